import PyProof.Rows.All
import Wide.All
import OpenK.AllK
import Wide.FinOn
import Lean
import PyProof.EqAt
import PyProof.EqKinds
import PyProof.TupleCall
import PyProof.StrBlockL
import PyProof.Rows.SortRuns
import KE.KSortTup
import PyProof.NeData
import PyProof.P3Eq
import PyProof.Rows.Chain
import PyProof.Rows.RuleIs
import PyProof.DictRoadsH
import PyProof.TupleKey
import Wide.Seal
import PyProof.MaxThree
import PyProof.IsiH_list
import PyProof.AttrMiss
import PyProof.ConsumeWalk
import PyProof.TupleIter
import KE.KDictOf
import PyProof.DictWalks
import KE.KDictList
import PyProof.NeKinds
import KE.KRevIter
import PyProof.ListNew
import PyProof.Rows.FactsT2
import PyProof.Rows.BitMore
import PyProof.ZipIter
import PyProof.StrLawsOcc
import Wide.Txt
import KE.KIntText
import PySem.Challenge.RW_everguard_k40_one_tree_for_each_set
set_option Elab.async false
set_option linter.all false
set_option maxRecDepth 100000
namespace L2
open PySem PySem.Spec PyProof.Rows
abbrev Key:=Sum Int Str
def lS:Key->Value->Bool
 | .inl k,v=>Value.isInt k v
 | .inr x,v=>Value.isStrOf x v
def Kw (w:World):Key->Int
 | .inl k=>hashInt k
 | .inr x=>hashStr w x
theorem cK:∀{k:Key}{v:Value},lS k v=true->(∃i t,k=Sum.inl i/\v=Value.int i t)\/(∃x t,k=Sum.inr x/\v=Value.str x t)
 | .inl i,v,h=>by
  obtain ⟨t,e⟩:=Value.isInt_shape (k:=i) (v:=v) h
  exact .inl ⟨i,t,rfl,e⟩
 | .inr x,v,h=>by
  obtain ⟨t,e⟩:=Value.isStrOf_shape (x:=x) (v:=v) h
  exact .inr ⟨x,t,rfl,e⟩
theorem xy (i:Int) (t:Tok):lS (.inl i) (.int i t)=true:=by simp [lS,Value.isInt]
theorem xA (x:Str) (t:Tok):lS (.inr x) (.str x t)=true:=by simp [lS,Value.isStrOf]
theorem CZ (a b:Int):decide ((Sum.inl a:Key)=Sum.inl b)=(a == b):=by
 by_cases e:a=b
 . subst e; simp
 . have h:¬ (Sum.inl a:Key)=Sum.inl b:=λq=>e (Sum.inl.inj q)
   rw [decide_eq_false h]
   exact (beq_eq_false_iff_ne.mpr e).symm
theorem C0 (a b:Str):decide ((Sum.inr a:Key)=Sum.inr b)=decide (a=b):=by
 by_cases e:a=b
 . subst e; simp
 . have h:¬ (Sum.inr a:Key)=Sum.inr b:=λq=>e (Sum.inr.inj q)
   rw [decide_eq_false h,decide_eq_false e]
theorem C1 (a:Int) (b:Str):decide ((Sum.inl a:Key)=Sum.inr b)=false:=decide_eq_false (λq=>nomatch q)
theorem C2 (a:Str) (b:Int):decide ((Sum.inr a:Key)=Sum.inl b)=false:=decide_eq_false (λq=>nomatch q)
def ba (prog:Program) (w:World):PySem.KeyKind prog w Key where
 is:=lS
 hash:=Kw w
 inj:=λv a b ha hb=>by
  rcases cK ha with ⟨i,t,rfl,rfl⟩ | ⟨x,t,rfl,rfl⟩
  . rcases cK hb with ⟨j,u,rfl,e⟩ | ⟨y,u,rfl,e⟩
    . injection e with e1 _; rw [e1]
    . exact nomatch e
  . rcases cK hb with ⟨j,u,rfl,e⟩ | ⟨y,u,rfl,e⟩
    . exact nomatch e
    . injection e with e1 _; rw [e1]
 byValue:=λk v h=>by
  rcases cK h with ⟨i,t,rfl,rfl⟩ | ⟨x,t,rfl,rfl⟩ <;> rfl
 pyHash:=λhv h=>by
  rcases cK hv with ⟨i,t,rfl,rfl⟩ | ⟨x,t,rfl,rfl⟩
  . exact wpAny_pyHash_int h
  . exact wpAny_pyHash_str h
 eqBool:=λhu hv h=>by
  rcases cK hu with ⟨i,t,rfl,rfl⟩ | ⟨x,t,rfl,rfl⟩
  . rcases cK hv with ⟨j,u,rfl,rfl⟩ | ⟨y,u,rfl,rfl⟩
    . rw [CZ] at h; exact wpAny_eqBool_int h
    . rw [C1] at h; exact SeqAt.EqAt.int_str i t y u _ _ _ _ h
  . rcases cK hv with ⟨j,u,rfl,rfl⟩ | ⟨y,u,rfl,rfl⟩
    . rw [C2] at h; exact SeqAt.EqAt.str_int x t j u _ _ _ _ h
    . rw [C0] at h; exact wpAny_eqBool_str h
 «strs»:=λk x t v h=>by
  rcases cK h with ⟨i,u,rfl,e⟩ | ⟨y,u,rfl,e⟩
  . exact nomatch e
  . injection e with e1 _
    subst e1
    cases v <;> rfl
theorem uM (prog:Program) (w:World) (i:Int) (t:Tok):(ba prog w).is (.inl i) (.int i t)=true:=xy i t
theorem uN (prog:Program) (w:World) (x:Str) (t:Tok):(ba prog w).is (.inr x) (.str x t)=true:=xA x t
end L2
namespace L2
open PySem PySem.Spec PyProof.Rows
inductive V where
 | aS | bl (b:Bool) | int (i:Int) | str (x:Str) | jt (b:Array UInt8) | pX (b:UInt64) | ref (a:Addr) | ty (n:String)
 deriving DecidableEq
def RelV:V->Value->Prop
 | .aS,u=>u=Value.none
 | .bl b,u=>u=Value.bool b
 | .int i,u=>∃t,u=Value.int i t
 | .str x,u=>∃t,u=Value.str x t
 | .jt b,u=>∃t,u=Value.bytes b t
 | .pX b,u=>∃t,u=Value.float b t
 | .ref a,u=>u=Value.ref a
 | .ty n,u=>u=Value.type n
abbrev Vals:List V->List Value->Prop:=Paired RelV
theorem Vals.length {xs:List V}{us:List Value}(r:Vals xs us):xs.length=us.length:=Paired.length r
theorem Vals.get:∀{xs:List V}{us:List Value}{i:Nat}{x:V},Vals xs us->xs[i]?=some x->∃u,us[i]?=some u/\RelV x u
 | _,_,_,_,.nil,e=>by simp at e
 | _,_,0,_,.cons r _,e=>by simp at e; subst e; exact ⟨_,rfl,r⟩
 | _,_,i+1,x,.cons _ t,e=>by
  obtain ⟨u,h1,h2⟩:=Vals.get (i:=i) (x:=x) t (by simpa using e)
  exact ⟨u,by simpa using h1,h2⟩
theorem Vals.set {x:V}{u:Value}(r:RelV x u):∀{xs:List V}{us:List Value}(i:Nat),Vals xs us->Vals (xs.set i x) (us.set i u)
 | _,_,_,.nil=>.nil
 | _,_,0,.cons _ t=>.cons r t
 | _,_,i+1,.cons q t=>.cons q (Vals.set r i t)
theorem Vals.append:∀{xs ys:List V}{us ws:List Value},Vals xs us->Vals ys ws->Vals (xs++ys) (us++ws)
 | _,_,_,_,.nil,s=>s
 | _,_,_,_,.cons r t,s=>.cons r (Vals.append t s)
theorem Vals.take:∀{xs:List V}{us:List Value}(n:Nat),Vals xs us->Vals (xs.take n) (us.take n)
 | _,_,0,_=>.nil
 | _,_,_+1,.nil=>.nil
 | _,_,n+1,.cons r t=>.cons r (Vals.take n t)
theorem Vals.drop:∀{xs:List V}{us:List Value}(n:Nat),Vals xs us->Vals (xs.drop n) (us.drop n)
 | _,_,0,r=>r
 | _,_,_+1,.nil=>.nil
 | _,_,n+1,.cons _ t=>Vals.drop n t
def dm:Option V->Option Value->Prop
 | some v,some u=>RelV v u
 | none,none=>True
 | _,_=>False
def KV {κ:Type} : List (κ×V)->List (κ×Value)->Prop:=Paired λ(p:κ×V) (q:κ×Value)=>p.1=q.1/\RelV p.2 q.2
def kV:Key->V
 | .inl i=>.int i
 | .inr x=>.str x
inductive HO where
 /-- a list -/
 | lst (xs:List V)
 /-- a tuple (never changes) -/
 | tup (xs:List V)
 /-- a dict whose keys are ints and texts; one whose keys are tuples of ints and texts (the empty one is both) -/
 | dK (kvs:List (Key×V)) | dT (kvs:List (List Key×V))
 /-- a set of ints: its members,its size -/
 | set (S:Int->Bool) (n:Nat)
 /-- an instance of the class at C,its dict at dx,its attributes -/
 | ins (C dx:Addr) (fs:List (Str×V))
 /-- the dict of the instance at x -/
 | own (x:Addr)
 /-- the dict of an exception -/
 | xd (fs:List (Str×V))
 /-- a bound method,f of x -/
 | met (f x:Addr)
 /-- a range object lo,lo+1,.. below hi -/
 | C3 (lo hi:Int)
 /-- a thing that is known to the object (the script; a dict while a loop walks it): read,never written while it is so -/
 | i0 (o:Obj) (u:HO)
 /-- a code object's table -/
 | rp (ps:Array Value)
 /-- any other thing,by what is true of its one object (a def of one's own: SetO a S n:=HO.ext λh=>..) -/
 | ext (φ:Heap->Prop)
abbrev Hp:=Addr->Option HO
def upd (H:Hp) (a:Addr) (o:HO):Hp:=λb=>if b=a then some o else H b
theorem ae {H:Hp}{a:Addr}{o:HO} : upd H a o a=some o:=by unfold upd; rw [if_pos rfl]
theorem aj {H:Hp}{a b:Addr}{o:HO}(h:b≠a):upd H a o b=H b:=by unfold upd; rw [if_neg h]
theorem uY {H:Hp}{a:Addr}{o u:HO} : upd (upd H a o) a u=upd H a u:=by
 funext b; unfold upd; split <;> rfl
theorem dc {H:Hp}{a b:Addr}{o u:HO}(h:H a=some o) (h':H b=some u) (d:o≠u):a≠b:=by
 intro e; subst e; rw [h] at h'; exact d (Option.some.inj h')
theorem ah {H:Hp}{a b:Addr}{o:HO}(h:H a=some o) (h':H b=none):a≠b:=by
 intro e; subst e; rw [h] at h'; cases h'
section
variable (P:Program) (w:World)
def bh (H:Hp) (h:Heap) (a:Addr):HO->Prop
 | .lst xs=>xs.length<=sizeLine/\∃(its:List Value) (n:Nat),Vals xs its/\h.get? a=some { cls:=.type "list",data:=.seq its.toArray n }
 | .tup xs=>xs.length<=sizeLine/\∃its:List Value,Vals xs its/\IsTup h a its.toArray
 | .dK kvs=>kvs.length<=sizeLine/\(a == sysModules)=false/\∃vs,KV kvs vs/\h.DictOf (ba P w) a vs
 | .dT kvs=>kvs.length<=sizeLine/\(a == sysModules)=false/\∃xs:List (List Key×Addr×Value),
  Paired (λ(p:List Key×V) (q:List Key×Addr×Value)=>p.1=q.1/\H q.2.1=some (.tup (p.1.map kV))/\RelV p.2 q.2.2) kvs xs/\
  ∃o es ep,h.get? a=some o/\o.ExactDict/\o.data=.dict es ep/\es.toList=xs.map (entryOfKey (tupleKind (ba P w)))/\(xs.map (·.1)).Nodup
 | .set S n=>h.SetOf (intKind P w) a S n
 | .ins C dx fs=>H dx=some (.own a)/\fs.length<=1000/\dx≠a/\h.get? a=some (W.instObj C dx)/\
  ∃mA,h.Ns1 dx mA/\(∀f,dm (fs.lookup f) (mA f))/\PySem.Within mA (fs.map (·.1))
 | .own _=>∃o,h.get? a=some o
 | .xd fs=>∃mA,h.Ns1 a mA/\∀f,dm (fs.lookup f) (mA f)
 | .C3 lo hi=>∃t u v,h.get? a=some { cls:=.type "range",data:=.fields #[.int lo t,.int hi u,.int 1 v] }
 | .i0 o u=>h.get? a=some o/\bh H h a u
 | .rp ps=>h.get? a=some { cls:=.none,data:=.fields ps }
 | .met f x=>h.get? a=some (W.methodObj (.ref f) (.ref x))
 | .ext φ=>φ h/\(∃o,h.get? a=some o)/\∀h1 h2:Heap,φ h1->(∀o,h1.get? a=some o->h2.get? a=some o)->φ h2
def cN (H:Hp) (h:Heap):Prop:=∀a o,H a=some o->bh P w H h a o
end
section
variable {P:Program}{w:World}{H H':Hp}{h h':Heap}{a:Addr}{o:HO}
theorem bh.lt (x:bh P w H h a o):a<h.objs.size:=by
 cases o with
 | lst xs=>obtain ⟨_,_,_,_,e⟩:=x; exact Heap.lt_size e
 | tup xs=>obtain ⟨_,_,_,p⟩:=x; exact p.lt
 | dK kvs=>obtain ⟨_,_,_,_,o,_,_,e,_⟩:=x; exact Heap.lt_size e
 | dT kvs=>obtain ⟨_,_,_,_,o,_,_,e,_⟩:=x; exact Heap.lt_size e
 | set S n=>obtain ⟨o,_,_,_,e,_⟩:=x; exact Heap.lt_size e
 | ins C dx fs=>obtain ⟨_,_,_,e,_⟩:=x; exact Heap.lt_size e
 | own y=>obtain ⟨_,e⟩:=x; exact Heap.lt_size e
 | xd fs=>obtain ⟨_,⟨_,_,_,e,_⟩,_⟩:=x; exact Heap.lt_size e
 | C3 lo hi=>obtain ⟨_,_,_,e⟩:=x; exact Heap.lt_size e
 | i0 ob u=>obtain ⟨e,_⟩:=x; exact Heap.lt_size e
 | rp ps=>exact Heap.lt_size (show h.get? a=some _ from x)
 | met f y=>exact Heap.lt_size (show h.get? a=some _ from x)
 | ext φ=>obtain ⟨_,⟨_,e⟩,_⟩:=x; exact Heap.lt_size e
theorem Paired.dX {α β:Type}{F G:α->β->Prop} : ∀{jP:List α}{kU:List β},Paired F jP kU->(∀a b,F a b->G a b)->Paired G jP kU
 | _,_,.nil,_=>.nil
 | _,_,.cons r t,f=>.cons (f _ _ r) (Paired.dX t f)
theorem bh.eD (x:bh P w H h a o) (k:∀b u,(b=a\/H b=some (.own a))->h.get? b=some u->h'.get? b=some u)
 (ho:∀b,H b=some (.own a)->H' b=some (.own a)) (ht:∀b xs,H b=some (.tup xs)->H' b=some (.tup xs)):bh P w H' h' a o:=by
 induction o with
 | lst xs=>obtain ⟨z,its,n,r,e⟩:=x; exact ⟨z,its,n,r,k _ _ (.inl rfl) e⟩
 | tup xs=>obtain ⟨z,its,r,ob,e,c⟩:=x; exact ⟨z,its,r,ob,k _ _ (.inl rfl) e,c⟩
 | dK kvs=>obtain ⟨z,y,vs,r,ob,es,ep,e,c⟩:=x; exact ⟨z,y,vs,r,ob,es,ep,k _ _ (.inl rfl) e,c⟩
 | dT kvs=>
  obtain ⟨z,y,xs,r,ob,es,ep,e,c⟩:=x
  exact ⟨z,y,xs,Paired.dX r λp q z=>⟨z.1,ht _ _ z.2.1,z.2.2⟩,ob,es,ep,k _ _ (.inl rfl) e,c⟩
 | set S n=>obtain ⟨ob,es,ep,t,e,c⟩:=x; exact ⟨ob,es,ep,t,k _ _ (.inl rfl) e,c⟩
 | ins C dx fs=>
  obtain ⟨d,z,ne,e,mA,⟨od,es,ep,e2,c⟩,r⟩:=x
  exact ⟨ho _ d,z,ne,k _ _ (.inl rfl) e,mA,⟨od,es,ep,k _ _ (.inr d) e2,c⟩,r⟩
 | own y=>obtain ⟨ob,e⟩:=x; exact ⟨ob,k _ _ (.inl rfl) e⟩
 | xd fs=>obtain ⟨mA,⟨od,es,ep,e,c⟩,r⟩:=x; exact ⟨mA,⟨od,es,ep,k _ _ (.inl rfl) e,c⟩,r⟩
 | C3 lo hi=>obtain ⟨t,u,v,e⟩:=x; exact ⟨t,u,v,k _ _ (.inl rfl) e⟩
 | i0 ob u ih=>obtain ⟨e,q⟩:=x; exact ⟨k _ _ (.inl rfl) e,ih q⟩
 | rp ps=>
  have e:h.get? a=some { cls:=.none,data:=.fields ps }:=x
  show h'.get? a=some { cls:=.none,data:=.fields ps }
  exact k a _ (.inl rfl) e
 | met f y=>
  have e:h.get? a=some (W.methodObj (.ref f) (.ref y)):=x
  show h'.get? a=some (W.methodObj (.ref f) (.ref y))
  exact k a _ (.inl rfl) e
 | ext φ=>obtain ⟨p,⟨o,e⟩,st⟩:=x; exact ⟨st _ _ p λo q=>k _ _ (.inl rfl) q,⟨o,k _ _ (.inl rfl) e⟩,st⟩
theorem cN.lt (x:cN P w H h) (e:H a=some o):a<h.objs.size:=(x a o e).lt
theorem cN.fresh (x:cN P w H h) (e:h.objs.size<=a):H a=none:=by
 cases q:H a with
 | none=>rfl
 | some u=>exact absurd (Nat.lt_of_lt_of_le (x.lt q) e) (Nat.lt_irrefl _)
theorem cN.kept (x:cN P w H h) (k:∀b u,h.get? b=some u->h'.get? b=some u):cN P w H h':=λa o e=>
 (x a o e).eD (λb u _ q=>k b u q) (λ_ q=>q) λ_ _ q=>q
theorem cN.laid (x:cN P w H h) (k:∀b u,h.get? b=some u->h'.get? b=some u) (hp:h.objs.size<=a) (new:bh P w (upd H a o) h' a o):cN P w (upd H a o) h':=λb u e=>by
 have hn:=x.fresh hp
 by_cases hb:b=a
 . subst hb; rw [ae] at e; cases e; exact new
 . rw [aj hb] at e
   exact (x b u e).eD (λc v _ q=>k c v q) (λc q=>by rw [aj (ah q hn)]; exact q) λc xs q=>by rw [aj (ah q hn)]; exact q
end
def Rd (H:Hp) (a:Addr) (u:HO):Prop:=H a=some u\/∃o,H a=some (.i0 o u)
theorem Rd.ok {P:Program}{w:World}{H:Hp}{h:Heap}{a:Addr}{u:HO}(r:Rd H a u) (x:cN P w H h):bh P w H h a u:=by
 rcases r with r | ⟨o,r⟩
 . exact x a u r
 . obtain ⟨_,q⟩:=x a _ r
   exact q
def xB:Option HO->Prop
 | some (.lst _)=>True
 | some (.dK _)=>True
 | some (.dT _)=>True
 | some (.set _ _)=>True
 | some (.ins _ _ _)=>True
 | some (.ext _)=>True
 | _=>False
section
variable {P:Program}{w:World}{H:Hp}{h h':Heap}{x e:Addr}{o':HO}
theorem cN.write (ok:cN P w H h) (mu:xB (H x)) (he:e=x\/H e=some (.own x)) (k:∀b u,b≠e->h.get? b=some u->h'.get? b=some u) (uZ:∃u,h'.get? e=some u)
 (new:bh P w (upd H x o') h' x o'):cN P w (upd H x o') h':=λb u q=>by
 have C4:∀c y,H c=some (.own y)->c≠x:=λc y r z=>by subst z; rw [r] at mu; exact mu
 have Kx:∀c xs,H c=some (.tup xs)->c≠x:=λc xs r z=>by subst z; rw [r] at mu; exact mu
 by_cases hb:b=x
 . subst hb; rw [ae] at q; cases q; exact new
 . rw [aj hb] at q
   by_cases mF:b=e
   . have q':H b=some (.own x):=by
      rcases he with z | z
      . exact absurd (mF.trans z) hb
      . rw [mF]; exact z
     rw [q] at q'; cases q'
     obtain ⟨v,hv⟩:=uZ
     exact ⟨v,by rw [mF]; exact hv⟩
   . refine (ok b u q).eD (λc v hc r=>k c v ?_ r) (λc r=>by rw [aj (C4 c b r)]; exact r) λc xs r=>by rw [aj (Kx c xs r)]; exact r
     rcases hc with rfl | hc
     . exact mF
     . rintro rfl
       rcases he with z | z
       . exact C4 c b hc z
       . rw [hc] at z; cases z; exact hb rfl
end
structure Un (fs ex:List Addr) (H H':Hp) (h h':Heap):Prop where
 keep:∀b o,h.get? b=some o->H b=none->b∉fs->b∉ex->h'.get? b=some o
 slot:∀b o,h.get? b=some o->H b=none->b∈fs->b∉ex->∃sl,h'.get? b=some { o with slots:=sl }
 free:∀b o,h.get? b=some o->H b=none->b∉ex->H' b=none
 there:∀b o,h.get? b=some o->b∉ex->∃o',h'.get? b=some o'
 dY:∀b xs,H b=some (.tup xs)->H' b=some (.tup xs)
 frzs:∀b o u,H b=some (.i0 o u)->H' b=some (.i0 o u)
 tbls:∀b ps,H b=some (.rp ps)->∃more,H' b=some (.rp (ps++more))
section
variable {fs fs' ex RT:List Addr}{H H1 H2:Hp}{h h1 h2 h':Heap}{a x e:Addr}{o:HO}
theorem Un.any (u:Un fs ex H H1 h h1){b:Addr}{ob:Obj}(q:h.get? b=some ob) (n:H b=none) (hx:b∉ex):∃sl,h1.get? b=some { ob with slots:=sl }:=by
 by_cases hb:b∈fs
 . exact u.slot b ob q n hb hx
 . exact ⟨ob.slots,u.keep b ob q n hb hx⟩
theorem Un.trans (a:Un fs ex H H1 h h1) (b:Un fs ex H1 H2 h1 h2):Un fs ex H H2 h h2 where
 keep:=λc ob q n hc hx=>b.keep c ob (a.keep c ob q n hc hx) (a.free c ob q n hx) hc hx
 slot:=λc ob q n hc hx=>by
  obtain ⟨sl,e1⟩:=a.slot c ob q n hc hx
  obtain ⟨C5,e2⟩:=b.slot c _ e1 (a.free c ob q n hx) hc hx
  exact ⟨C5,e2⟩
 free:=λc ob q n hx=>by
  obtain ⟨o',e1⟩:=a.there c ob q hx
  exact b.free c o' e1 (a.free c ob q n hx) hx
 there:=λc ob q hx=>by
  obtain ⟨o',e1⟩:=a.there c ob q hx
  exact b.there c o' e1 hx
 dY:=λc xs q=>b.dY c xs (a.dY c xs q)
 frzs:=λc ob xs q=>b.frzs c ob xs (a.frzs c ob xs q)
 tbls:=λc ps q=>by
  obtain ⟨m1,e1⟩:=a.tbls c ps q
  obtain ⟨m2,e2⟩:=b.tbls c _ e1
  exact ⟨m1++m2,by rw [e2,Array.append_assoc]⟩
theorem Un.kept (k:∀b u,h.get? b=some u->h'.get? b=some u):Un fs ex H H h h':=
 ⟨λb ob q _ _ _=>k b ob q,λb ob q _ _ _=>⟨ob.slots,k b ob q⟩,λ_ _ _ n _=>n,λb ob q _=>⟨ob,k b ob q⟩,λ_ _ q=>q,λ_ _ _ q=>q,λ_ ps q=>⟨#[],by rw [q]; simp⟩⟩
theorem Un.refl:Un fs ex H H h h:=Un.kept λ_ _ q=>q
theorem Un.laid (k:∀b u,h.get? b=some u->h'.get? b=some u) (hp:h.objs.size<=a) (hn:H a=none):Un fs ex H (upd H a o) h h' where
 keep:=λb u q _ _ _=>k b u q
 slot:=λb u q _ _ _=>⟨u.slots,k b u q⟩
 free:=λb u q n _=>by rw [aj (Nat.ne_of_lt (Nat.lt_of_lt_of_le (Heap.lt_size q) hp))]; exact n
 there:=λb u q _=>⟨u,k b u q⟩
 dY:=λb xs q=>by rw [aj (ah q hn)]; exact q
 frzs:=λb u xs q=>by rw [aj (ah q hn)]; exact q
 tbls:=λb ps q=>⟨#[],by rw [aj (ah q hn),q]; simp⟩
theorem Un.write (mu:xB (H x)) (he:e=x\/H e=some (.own x)) (k:∀b u,b≠e->h.get? b=some u->h'.get? b=some u) (uZ:∃u,h'.get? e=some u):Un fs ex H (upd H x o) h h':=by
 have hx:∀b,H b=none->b≠x:=λb n z=>by subst z; rw [n] at mu; exact mu
 have hb:∀b,H b=none->b≠e:=λb n z=>by
  subst z
  rcases he with r | r
  . exact hx b n r
  . rw [n] at r; cases r
 have hm:∀b u,H b=some u->¬ xB (some u)->b≠x:=λb u q nm z=>by subst z; rw [q] at mu; exact nm mu
 refine ⟨λb u q n _ _=>k b u (hb b n) q,λb u q n _ _=>⟨u.slots,k b u (hb b n) q⟩,λb u q n _=>by rw [aj (hx b n)]; exact n,λb u q _=>?_,
  λb xs q=>by rw [aj (hm b _ q λz=>z)]; exact q,λb u xs q=>by rw [aj (hm b _ q λz=>z)]; exact q,λb ps q=>⟨#[],by rw [aj (hm b _ q λz=>z),q]; simp⟩⟩
 by_cases mF:b=e
 . subst mF; exact uZ
 . exact ⟨u,k b u mF q⟩
end
def Ay (h:Heap) (H:Hp):List Addr:=(List.range h.objs.size).filter λa=>(H a).isSome
def jQ (h:Heap) (H:Hp):Heap:=W.hideAll h (Ay h H)
theorem xC (h:Heap) (H:Hp):(jQ h H).objs.size=h.objs.size:=W.hideAll_size _ _
theorem zA {h:Heap}{H:Hp}{b:Addr}{o:Obj}(e:h.get? b=some o) (n:H b=none):(jQ h H).get? b=some o:=
 W.hideAll_get _ e λhm=>by
  have q:(H b).isSome=true:=(List.mem_filter.mp hm).2
  rw [n] at q; simp at q
theorem BQ {h:Heap}{H:Hp}{b:Addr}{o:Obj}(e:(jQ h H).get? b=some o):h.get? b=some o/\H b=none:=by
 have e':h.get? b=some o:=W.of_hideAll (Ay h H) e
 refine ⟨e',?_⟩
 cases q:H b with
 | none=>rfl
 | some x=>
  have hm:b∈Ay h H:=List.mem_filter.mpr ⟨List.mem_range.mpr (Heap.lt_size e'),by simp [q]⟩
  have z:(jQ h H).get? b=none:=W.hideAll_none (Ay h H) hm
  rw [z] at e; cases e
def BR (g h:Heap) (L:Addr):List (Addr×Obj):=(List.range h.objs.size).filterMap λa=>if a=L\/(g.get? a).isSome=true then none else (h.get? a).map λo=>(a,o)
def rest (g h:Heap) (L d:Addr):List (Addr×Obj):=(BR g h L).filter λp=>decide (p.1≠d)
end L2
namespace L2
open PySem PySem.Spec PyProof.Rows
structure Mod (K:W.Frag) (mg:Str->Option Value) (base:Heap):Prop where
 kin:K.In base
 glob:base.Ns mainGlobals mg
 blt:∃mb,base.Ns builtinsNs mb/\∀x:Str,x ≠ "__name__" -> mb x=bootBuiltins x
 nolimit:base.NoLimit
structure Cx where
 prog:Program
 w:World
 K:W.Frag
 mg:Str->Option Value
 base:Heap
 A:Around
 N:List Str
 ie:Shared
 C6:Hp
 env:Env
 outer:List Env
 stack:List Env
 ex:List Addr
 fn:Str->Bool
 calm:Bool
 pn:List (Addr×Obj)
 xe:Value->Shared->Prop
def kq (l:List Env):List Addr:=l.filterMap (·.frame)
abbrev Cx.fs (X:Cx):List Addr:=kq X.outer
def C7 (sc:Scope) (x:Str):Prop:=sc.names.lookup x=some .local\/sc.names.lookup x=some .cell\/sc.names.lookup x=some .free
def Loc (sc:Scope) (x:Str):Prop:=sc.names.lookup x=some .local\/sc.names.lookup x=some .cell
def Look (env:Env) (h:Heap) (m:Str->Option Value) (x:Str) (u:Value):Prop:=
 (env.kindOf x=some .local/\m x=some u)\/((env.kindOf x=some .cell\/env.kindOf x=some .free)/\∃c,env.cells.lookup x=some c/\h.IsCell c (some u))
structure Cx.Ok (X:Cx):Prop where
 mod:Mod X.K X.mg X.base
 kind:X.env.scope.kind=.function
 glob:X.env.globals=mainGlobals
 blt:X.env.builtins=builtinsNs
 above:X.ie.heap.objs.size<=X.env.locals
 inj:∀x y c,X.env.cells.lookup x=some c->X.env.cells.lookup y=some c->x=y
 has:∀x,(X.env.kindOf x=some .cell\/X.env.kindOf x=some .free)->∃c,X.env.cells.lookup x=some c
 cab:∀x c,X.fn x=true->X.env.cells.lookup x=some c->X.ie.heap.objs.size<=c
 hd:X.calm=true->X.A.handled=none
 frames:X.A.frames=some X.stack
 stk:X.stack=X.outer\/(X.stack=X.env::X.outer/\X.env.frame=some X.env.locals)
 exf:∀b∈X.ex,b≠X.env.locals/\∀x c,X.env.cells.lookup x=some c->c≠b
 bs:∀b o,X.base.get? b=some o->X.ie.heap.get? b=some o/\X.C6 b=none
 bsz:X.base.objs.size<=X.ie.heap.objs.size
 noex:∀b o,X.base.get? b=some o->b∉X.ex
 exfs:∀b∈X.ex,b∉X.fs
 gh:X.ie.heap.FunFrames X.base X.outer
 frf:∀b∈X.fs,X.C6 b=none
structure Inv (X:Cx) (pins:List (Addr×Obj)) (σ:List (Option V)) (H:Hp) (s:Shared):Prop where
 ok:X.Ok
 os:s.os=X.ie.os
 bare:AllBare s.gens
 base:Un X.fs X.ex X.C6 H X.ie.heap s.heap
 loc:∃m,s.heap.Ns X.env.locals m/\∀(i:Nat) (x:Str) (v:V),X.N[i]?=some x->σ[i]?=some (some v)->C7 X.env.scope x->∃u,RelV v u/\Look X.env s.heap m x u
 cell:∀x c,X.env.cells.lookup x=some c->∃v,s.heap.IsCell c v
 free:H X.env.locals=none
 freeC:∀x c,X.env.cells.lookup x=some c->H c=none
 pin:∀p∈X.pn++pins,s.heap.get? p.1=some p.2/\H p.1=none/\p.1≠X.env.locals/\p.1∉X.fs/\∀v,p.2.data≠.cell v
 hok:cN X.prog X.w H s.heap
 len:σ.length=X.N.length
section
variable {X:Cx}{pins:List (Addr×Obj)}{σ:List (Option V)}{H H':Hp}{s:Shared}{h':Heap}
theorem Cx.Ok.Ky (ok:X.Ok){b:Addr}{o:Obj}(e:X.base.get? b=some o):b∉X.fs:=λhb=>by
 have:=(ok.gh.mem hb).1
 rw [e] at this; cases this
theorem Inv.bs (I:Inv X pins σ H s):∀b o,X.base.get? b=some o->s.heap.get? b=some o/\H b=none:=λb o e=>
 ⟨I.base.keep b o (I.ok.bs b o e).1 (I.ok.bs b o e).2 (I.ok.Ky e) (I.ok.noex b o e),I.base.free b o (I.ok.bs b o e).1 (I.ok.bs b o e).2 (I.ok.noex b o e)⟩
theorem Inv.bk (I:Inv X pins σ H s):∀b o,X.base.get? b=some o->s.heap.get? b=some o:=λb o e=>(I.bs b o e).1
theorem Inv.mod (I:Inv X pins σ H s):Mod X.K X.mg X.base:=I.ok.mod
theorem Inv.d6 (I:Inv X pins σ H s):X.K.In s.heap:=I.ok.mod.kin.keeps I.bk
theorem Inv.lt (I:Inv X pins σ H s):X.env.locals<s.heap.objs.size:=let ⟨_,hn,_⟩:=I.loc; hn.lt
theorem Inv.sz (I:Inv X pins σ H s):X.ie.heap.objs.size<=s.heap.objs.size:=Nat.le_trans I.ok.above (Nat.le_of_lt I.lt)
theorem Inv.Kz (I:Inv X pins σ H s){a:Addr}(h:s.heap.objs.size<=a):a∉X.fs:=λhb=>by
 obtain ⟨_,o,ho,_⟩:=I.ok.gh.mem hb
 exact absurd (Nat.lt_of_lt_of_le (Heap.lt_size ho) (Nat.le_trans I.sz h)) (Nat.lt_irrefl _)
theorem Inv.rq (I:Inv X pins σ H s):∀x c,X.env.cells.lookup x=some c->c≠X.env.locals:=λx c e z=>by
 obtain ⟨v,o,ho,hd⟩:=I.cell x c e
 obtain ⟨m,⟨o',es,ep,nY,hd',_⟩,_⟩:=I.loc
 rw [z,nY] at ho; cases ho; rw [hd'] at hd; cases hd
theorem Inv.gh (I:Inv X pins σ H s):s.heap.FunFrames X.base X.outer:=by
 have all:∀(l:List Env),(∀b∈kq l,b∈X.fs)->X.ie.heap.FunFrames X.base l->s.heap.FunFrames X.base l:=by
  intro l
  induction l with
  | nil=>intro _ _; trivial
  | cons env r ih=>
   intro hs hl
   obtain ⟨hk,⟨L,o,hf,hn,ho,hd⟩,hr⟩:=hl
   have hL:L∈X.fs:=hs L (by unfold kq; rw [List.filterMap_cons,hf]; exact List.mem_cons_self)
   obtain ⟨sl,e⟩:=I.base.slot L o ho (I.ok.frf L hL) hL λz=>I.ok.exfs L z hL
   exact ⟨hk,⟨L,_,hf,hn,e,hd⟩,ih (λb hb=>hs b (by unfold kq; rw [List.filterMap_cons,hf]; exact List.mem_cons_of_mem _ hb)) hr⟩
 exact all X.outer (λ_ hb=>hb) I.ok.gh
theorem Inv.stack (I:Inv X pins σ H s):s.heap.FunFrames X.base X.stack:=by
 rcases I.ok.stk with e | ⟨e,hf⟩
 . rw [e]; exact I.gh
 . rw [e]
   obtain ⟨m,hn,_⟩:=I.loc
   refine .cons (by rw [I.ok.kind]; decide) hf hn ?_ I.gh
   exact Heap.get?_none_of_le (Nat.le_trans I.ok.bsz I.ok.above)
theorem Inv.nZ (I:Inv X pins σ H s):∀b∈kq X.stack,b∈X.env.locals::X.fs:=λb hb=>by
 rcases I.ok.stk with e | ⟨e,hf⟩
 . rw [e] at hb; exact List.mem_cons_of_mem _ hb
 . rw [e] at hb
   unfold kq at hb
   rw [List.filterMap_cons,hf] at hb
   exact hb
theorem Inv.u0 (I:Inv X pins σ H s):∀b∈kq X.stack,H b=none:=λb hb=>by
 rcases List.mem_cons.mp (I.nZ b hb) with e | hb
 . rw [e]; exact I.free
 . obtain ⟨_,o,ho,_⟩:=I.ok.gh.mem hb
   exact I.base.free b o ho (I.ok.frf b hb) λz=>I.ok.exfs b z hb
theorem Inv.step {g':Array GenState}{t':Nat}{d':Drawn}{ch:List Addr}(I:Inv X pins σ H s)
 (mG:∀b∈ch,(b∈X.ex\/X.ie.heap.objs.size<=b)/\b≠X.env.locals/\(∀x c,X.env.cells.lookup x=some c->c≠b)/\∀p∈X.pn++pins,p.1≠b)
 (keep:∀b o,b≠X.env.locals->b∉X.fs->b∉ch->s.heap.get? b=some o->H b=none->h'.get? b=some o)
 (slot:∀b o,b≠X.env.locals->b∈X.fs->b∉ch->s.heap.get? b=some o->H b=none->∃sl,h'.get? b=some { o with slots:=sl }) (free:∀b o,b∉ch->s.heap.get? b=some o->H b=none->H' b=none)
 (there:∀b o,b∉ch->s.heap.get? b=some o->∃o',h'.get? b=some o')
 (dY:∀b xs,H b=some (.tup xs)->H' b=some (.tup xs)) (frzs:∀b o u,H b=some (.i0 o u)->H' b=some (.i0 o u)) (tbls:∀b ps,H b=some (.rp ps)->∃more,H' b=some (.rp (ps++more)))
 (ns:∀m,s.heap.Ns X.env.locals m->h'.Ns X.env.locals m) (hok:cN X.prog X.w H' h') (hg:AllBare g') :
 Inv X pins σ H' { s with heap:=h',gens:=g',drawn:=d',toks:=t' }:=by
 have Iv:∀b o,X.ie.heap.get? b=some o->b≠X.env.locals:=λb o e=>Nat.ne_of_lt (Nat.lt_of_lt_of_le (Heap.lt_size e) I.ok.above)
 have Az:∀b o,X.ie.heap.get? b=some o->b∉X.ex->b∉ch:=λb o e hx hb=>by
  rcases (mG b hb).1 with z | z
  . exact hx z
  . exact absurd (Nat.lt_of_lt_of_le (Heap.lt_size e) z) (Nat.lt_irrefl _)
 have cellK:∀x c,X.env.cells.lookup x=some c->∀v,s.heap.IsCell c v->h'.IsCell c v:=λx c e v ⟨o,ho,hd⟩=>by
  have xD:c∉ch:=λz=>(mG c z).2.2.1 x c e rfl
  by_cases hc:c∈X.fs
  . obtain ⟨sl,q⟩:=slot c o (I.rq x c e) hc xD ho (I.freeC x c e)
    exact ⟨_,q,hd⟩
  . exact ⟨o,keep c o (I.rq x c e) hc xD ho (I.freeC x c e),hd⟩
 refine ⟨I.ok,I.os,hg,⟨λb o e n hb hx=>?_,λb o e n hb hx=>?_,λb o e n hx=>?_,λb o e hx=>?_,λb xs e=>dY b xs (I.base.dY b xs e),λb o xs e=>frzs b o xs (I.base.frzs b o xs e),λb ps e=>?_⟩,?_,λx c e=>?_,?_,λx c e=>?_,λp hp=>?_,hok,I.len⟩
 . exact keep b o (Iv b o e) hb (Az b o e hx) (I.base.keep b o e n hb hx) (I.base.free b o e n hx)
 . obtain ⟨sl,e1⟩:=I.base.slot b o e n hb hx
   obtain ⟨C5,e2⟩:=slot b _ (Iv b o e) hb (Az b o e hx) e1 (I.base.free b o e n hx)
   exact ⟨C5,e2⟩
 . obtain ⟨o',e1⟩:=I.base.there b o e hx
   exact free b o' (Az b o e hx) e1 (I.base.free b o e n hx)
 . obtain ⟨o',e1⟩:=I.base.there b o e hx
   exact there b o' (Az b o e hx) e1
 . obtain ⟨m1,e1⟩:=I.base.tbls b ps e
   obtain ⟨m2,e2⟩:=tbls b _ e1
   exact ⟨m1++m2,by rw [e2,Array.append_assoc]⟩
 . obtain ⟨m,hn,hl⟩:=I.loc
   refine ⟨m,ns m hn,λi x v e1 e2 e3=>?_⟩
   obtain ⟨u,r,l⟩:=hl i x v e1 e2 e3
   refine ⟨u,r,?_⟩
   rcases l with l | ⟨k,c,e,z⟩
   . exact .inl l
   . exact .inr ⟨k,c,e,cellK x c e _ z⟩
 . obtain ⟨v,z⟩:=I.cell x c e
   exact ⟨v,cellK x c e v z⟩
 . obtain ⟨m,⟨o,_,_,ho,_⟩,_⟩:=I.loc
   exact free _ o (λz=>(mG _ z).2.1 rfl) ho I.free
 . obtain ⟨v,o,ho,hd⟩:=I.cell x c e
   exact free c o (λz=>(mG c z).2.2.1 x c e rfl) ho (I.freeC x c e)
 . obtain ⟨e,n,ne,nf,d⟩:=I.pin p hp
   have xD:p.1∉ch:=λz=>(mG p.1 z).2.2.2 p hp rfl
   exact ⟨keep p.1 p.2 ne nf xD e n,free p.1 p.2 xD e n,ne,nf,d⟩
theorem Inv.un {t':Nat}(I:Inv X pins σ H s) (u:Un X.fs [] H H' s.heap h') (hok:cN X.prog X.w H' h'):Inv X pins σ H' { s with heap:=h',toks:=t' }:=by
 obtain ⟨m,⟨o,es,ep,ho,r⟩,_⟩:=id I.loc
 obtain ⟨sl,hL⟩:=u.any ho I.free (by simp)
 exact I.step (g':=s.gens) (d':=s.drawn) (ch:=[]) (λ_ z=>nomatch z) (λb o _ hb _ e n=>u.keep b o e n hb (by simp)) (λb o _ hb _ e n=>u.slot b o e n hb (by simp)) (λb o _ e n=>u.free b o e n (by simp)) (λb o _ e=>u.there b o e (by simp)) u.dY u.frzs u.tbls (λm' hm=>by
  obtain ⟨o',AA,AB,nY,r'⟩:=hm
  rw [ho] at nY; cases nY
  exact ⟨_,AA,AB,hL,r'⟩) hok I.bare
theorem Inv.call {g':Array GenState}{t':Nat}{d':Drawn}{ch:List Addr}(I:Inv X pins σ H s) (u:Un (kq X.stack) ch H H' s.heap h') (hok:cN X.prog X.w H' h') (hg:AllBare g')
 (mG:∀b∈ch,(b∈X.ex\/X.ie.heap.objs.size<=b)/\b≠X.env.locals/\(∀x c,X.env.cells.lookup x=some c->c≠b)/\∀p∈X.pn++pins,p.1≠b) :
 Inv X pins σ H' { s with heap:=h',gens:=g',drawn:=d',toks:=t' }:=by
 obtain ⟨m,⟨o,es,ep,ho,r⟩,_⟩:=id I.loc
 obtain ⟨sl,hL⟩:=u.any ho I.free λz=>(mG _ z).2.1 rfl
 exact I.step (ch:=ch) mG (λb o hL hb hc e n=>u.keep b o e n (λz=>(List.mem_cons.mp (I.nZ b z)).elim hL hb) hc) (λb o _ _ hc e n=>u.any e n hc) (λb o hc e n=>u.free b o e n hc) (λb o hc e=>u.there b o e hc) u.dY u.frzs u.tbls (λm' hm=>by
  obtain ⟨o',AA,AB,nY,r'⟩:=hm
  rw [ho] at nY; cases nY
  exact ⟨_,AA,AB,hL,r'⟩) hok hg
theorem Inv.turned {t':Nat}{it:Addr}(I:Inv X pins σ H s) (k:∀b o,b≠it->s.heap.get? b=some o->h'.get? b=some o) (hn:H it=none) (hL:it≠X.env.locals)
 (h1:it∈X.ex\/X.ie.heap.objs.size<=it) (h2:∀x c,X.env.cells.lookup x=some c->c≠it) (h3:∀p∈X.pn++pins,p.1≠it):Inv X pins σ H { s with heap:=h',toks:=t' }:=by
 have Iw:∀b u,H b=some u->b≠it:=λb u e z=>by rw [z,hn] at e; cases e
 refine I.step (g':=s.gens) (d':=s.drawn) (ch:=[it]) (λb hb=>?_) (λb o _ _ hc e _=>k b o (λz=>hc (by simp [z])) e) (λb o _ _ hc e _=>⟨o.slots,k b o (λz=>hc (by simp [z])) e⟩) (λ_ _ _ _ n=>n)
  (λb o hc e=>⟨o,k b o (λz=>hc (by simp [z])) e⟩) (λ_ _ e=>e) (λ_ _ _ e=>e) (λb ps e=>⟨#[],by rw [e]; simp⟩) (λm hm=>?_) (λb u e=>?_) I.bare
 . have e:b=it:=by simpa using hb
   subst e
   exact ⟨h1,hL,h2,h3⟩
 . obtain ⟨o,es,ep,ho,r⟩:=hm
   exact ⟨o,es,ep,k _ o (Ne.symm hL) ho,r⟩
 . refine (I.hok b u e).eD (λc v hc q=>k c v ?_ q) (λ_ q=>q) λ_ _ q=>q
   rcases hc with z | z
   . rw [z]; exact Iw b u e
   . exact Iw c _ z
theorem Inv.tok (I:Inv X pins σ H s) (t:Nat):Inv X pins σ H { s with toks:=t }:=I.un (h':=s.heap) (t':=t) Un.refl I.hok
theorem Inv.kept {t':Nat}(I:Inv X pins σ H s) (k:∀b u,s.heap.get? b=some u->h'.get? b=some u):Inv X pins σ H { s with heap:=h',toks:=t' }:=I.un (Un.kept k) (I.hok.kept k)
theorem Inv.laid {a:Addr}{o:HO}{t':Nat}(I:Inv X pins σ H s) (k:∀b u,s.heap.get? b=some u->h'.get? b=some u) (hp:s.heap.objs.size<=a) (new:bh X.prog X.w (upd H a o) h' a o) :
 Inv X pins σ (upd H a o) { s with heap:=h',toks:=t' }:=I.un (Un.laid k hp (I.hok.fresh hp)) (I.hok.laid k hp new)
theorem Inv.write {x e:Addr}{o:HO}{t':Nat}(I:Inv X pins σ H s) (mu:xB (H x)) (he:e=x\/H e=some (.own x)) (k:∀b u,b≠e->s.heap.get? b=some u->h'.get? b=some u) (uZ:∃u,h'.get? e=some u)
 (new:bh X.prog X.w (upd H x o) h' x o):Inv X pins σ (upd H x o) { s with heap:=h',toks:=t' }:=I.un (Un.write mu he k uZ) (I.hok.write mu he k uZ new)
theorem Inv.u3 {AD:List (Addr×Obj)}(I:Inv X pins σ H s) (h:∀p∈AD,s.heap.get? p.1=some p.2/\H p.1=none/\p.1≠X.env.locals/\p.1∉X.fs/\∀v,p.2.data≠.cell v):Inv X AD σ H s:=
 ⟨I.ok,I.os,I.bare,I.base,I.loc,I.cell,I.free,I.freeC,λp hp=>(List.mem_append.mp hp).elim (λz=>I.pin p (List.mem_append_left _ z)) (h p),I.hok,I.len⟩
theorem rz {N:List Str}(hN:N.Nodup){i j:Nat}{x:Str}(a:N[i]?=some x) (b:N[j]?=some x):i=j:=by
 obtain ⟨h1,e1⟩:=List.getElem?_eq_some_iff.mp a
 obtain ⟨h2,e2⟩:=List.getElem?_eq_some_iff.mp b
 exact (List.getElem_inj hN).mp (e1.trans e2.symm)
theorem pY {M:Model}{A:Around}{E:Value->Shared->Prop}{i:Nat}{x:Str}{v:V}{u:Value}{Q:Unit->Shared->Prop}(I:Inv X pins σ H s) (hN:X.N.Nodup) (hi:X.N[i]?=some x) (hx:Loc X.env.scope x) (r:RelV v u)
 (h:∀s',Inv X pins (σ.set i (some v)) H s'->(∃a,Heap.SameBut a s.heap s'.heap/\(a=X.env.locals\/X.env.cells.lookup x=some a))->Q () s') (hf:X.fn x=true\/X.env.scope.names.lookup x=some .local:=by first | exact .inl rfl | exact .inr rfl | assumption):wpAny M A (storeName X.env x u) Q E s:=by
 obtain ⟨m,hn,hl⟩:=id I.loc
 have KA:(X.env.scope.kind == .class || (X.env.scope.kind == .module && X.env.locals != X.env.globals))=false:=by rw [I.ok.kind]; rfl
 have hiσ:i < σ.length:=by rw [I.len]; exact (List.getElem?_eq_some_iff.mp hi).1
 have rq:=I.rq
 have tracked:∀{a:Addr}{h':Heap},(∃o,s.heap.get? a=some o/\H a=none)->Heap.SameBut a s.heap h'->cN X.prog X.w H h':=λ{a h'} ha hs b ob e=>by
  obtain ⟨_,_,AE⟩:=ha
  refine (I.hok b ob e).eD (λc w' hc q=>(hs.2 c ?_).trans q) (λ_ q=>q) λ_ _ q=>q
  rintro rfl
  rcases hc with rfl | hc
  . rw [AE] at e; cases e
  . rw [AE] at hc; cases hc
 rcases hx with hk | hk
 . refine wpAny_storeName_local hk hn (λh' AF hs=>?_) KA
   obtain ⟨oL,_,_,rC,_⟩:=id hn
   refine h _ ⟨I.ok,I.os,I.bare,⟨λb o e n hb hx=>?_,λb o e n hb hx=>?_,I.base.free,λb o e hx=>?_,I.base.dY,I.base.frzs,I.base.tbls⟩,⟨_,AF,λj y v' e1 e2 e3=>?_⟩,λy c e=>?_,I.free,I.freeC,λp hp=>?_,tracked ⟨oL,rC,I.free⟩ hs,by simpa using I.len⟩ ⟨_,hs,.inl rfl⟩
   . exact (hs.2 b (Nat.ne_of_lt (Nat.lt_of_lt_of_le (Heap.lt_size e) I.ok.above))).trans (I.base.keep b o e n hb hx)
   . obtain ⟨sl,e1⟩:=I.base.slot b o e n hb hx
     exact ⟨sl,(hs.2 b (Nat.ne_of_lt (Nat.lt_of_lt_of_le (Heap.lt_size e) I.ok.above))).trans e1⟩
   . obtain ⟨o',e1⟩:=I.base.there b o e hx
     exact ⟨o',(hs.2 b (Nat.ne_of_lt (Nat.lt_of_lt_of_le (Heap.lt_size e) I.ok.above))).trans e1⟩
   . by_cases hj:j=i
     . subst hj
       rw [hi] at e1; cases e1
       rw [List.getElem?_set_self hiσ] at e2
       cases e2
       exact ⟨u,r,.inl ⟨hk,by simp⟩⟩
     . rw [List.getElem?_set_ne (Ne.symm hj)] at e2
       obtain ⟨u',r',q⟩:=hl j y v' e1 e2 e3
       refine ⟨u',r',?_⟩
       rcases q with ⟨k,e⟩ | ⟨k,c,e,z⟩
       . refine .inl ⟨k,?_⟩
         have:y≠x:=λe=>hj (rz hN e1 (e ▸ hi))
         simp [this,e]
       . exact .inr ⟨k,c,e,z.sameBut hs (rq y c e)⟩
   . obtain ⟨w',z⟩:=I.cell y c e
     exact ⟨w',z.sameBut hs (rq y c e)⟩
   . obtain ⟨e,n,ne,nf,d⟩:=I.pin p hp
     exact ⟨(hs.2 p.1 ne).trans e,n,ne,nf,d⟩
 . have C8:X.fn x=true:=by
    rcases hf with z | z
    . exact z
    . rw [z] at hk; cases hk
   obtain ⟨c,hc⟩:=I.ok.has x (.inl hk)
   obtain ⟨w',z⟩:=I.cell x c hc
   refine wpAny_storeName_cell I.ok.kind hk hc z (λh' cj hs=>?_)
   obtain ⟨oc,Iy,KC⟩:=id z
   refine h { s with heap:=h' } ⟨I.ok,I.os,I.bare,⟨λb o e n hb hx=>?_,λb o e n hb hx=>?_,I.base.free,λb o e hx=>?_,I.base.dY,I.base.frzs,I.base.tbls⟩,⟨m,hn.sameBut hs (Ne.symm (rq x c hc)),λj y v' e1 e2 e3=>?_⟩,λy c' e=>?_,I.free,I.freeC,λp hp=>?_,tracked ⟨oc,Iy,I.freeC x c hc⟩ hs,by simpa using I.len⟩ ⟨c,hs,.inr hc⟩
   . exact (hs.2 b (Nat.ne_of_lt (Nat.lt_of_lt_of_le (Heap.lt_size e) (I.ok.cab x c C8 hc)))).trans (I.base.keep b o e n hb hx)
   . obtain ⟨sl,e1⟩:=I.base.slot b o e n hb hx
     exact ⟨sl,(hs.2 b (Nat.ne_of_lt (Nat.lt_of_lt_of_le (Heap.lt_size e) (I.ok.cab x c C8 hc)))).trans e1⟩
   . obtain ⟨o',e1⟩:=I.base.there b o e hx
     exact ⟨o',(hs.2 b (Nat.ne_of_lt (Nat.lt_of_lt_of_le (Heap.lt_size e) (I.ok.cab x c C8 hc)))).trans e1⟩
   . by_cases hj:j=i
     . subst hj
       rw [hi] at e1; cases e1
       rw [List.getElem?_set_self hiσ] at e2
       cases e2
       exact ⟨u,r,.inr ⟨.inl hk,c,hc,cj⟩⟩
     . rw [List.getElem?_set_ne (Ne.symm hj)] at e2
       obtain ⟨u',r',q⟩:=hl j y v' e1 e2 e3
       refine ⟨u',r',?_⟩
       rcases q with q | ⟨k,c',e,z'⟩
       . exact .inl q
       . refine .inr ⟨k,c',e,z'.sameBut hs ?_⟩
         rintro rfl
         exact hj (rz hN e1 (I.ok.inj _ _ _ e hc ▸ hi))
   . by_cases Iz:c'=c
     . subst Iz; exact ⟨_,cj⟩
     . obtain ⟨w2,z2⟩:=I.cell y c' e
       exact ⟨w2,z2.sameBut hs Iz⟩
   . obtain ⟨e,n,ne,nf,d⟩:=I.pin p hp
     refine ⟨(hs.2 p.1 ?_).trans e,n,ne,nf,d⟩
     intro q
     rw [q,Iy] at e
     have q':oc=p.2:=Option.some.inj e
     exact d w' (by rw [← q']; exact KC)
theorem rD {M:Model}{A:Around}{E:Value->Shared->Prop}{i:Nat}{x:Str}{v:V}{u:Value}{Q:Unit->Shared->Prop}(I:Inv X pins σ H s) (hN:X.N.Nodup) (hi:X.N[i]?=some x) (hx:Loc X.env.scope x) (r:RelV v u)
 (h:∀s',Inv X pins (σ.set i (some v)) H s'->Q () s') (hf:X.fn x=true\/X.env.scope.names.lookup x=some .local:=by first | exact .inl rfl | exact .inr rfl | assumption):wpAny M A (storeName X.env x u) Q E s:=
 pY I hN hi hx r (λs' I' _=>h s' I') hf
theorem Inv.Gu {s':Shared}{ch:List Addr}(I:Inv X pins σ H s) (ho:s'.os=s.os) (u:Un (kq X.stack) ch H H' s.heap s'.heap) (hok:cN X.prog X.w H' s'.heap) (hg:AllBare s'.gens)
 (mG:∀b∈ch,(b∈X.ex\/X.ie.heap.objs.size<=b)/\b≠X.env.locals/\(∀x c,X.env.cells.lookup x=some c->c≠b)/\∀p∈X.pn++pins,p.1≠b):Inv X pins σ H' s':=by
 obtain ⟨h',g',d',t',o'⟩:=s'
 have e:o'=s.os:=ho
 subst e
 exact I.call (g':=g') (t':=t') (d':=d') u hok hg mG
end
abbrev XK:=Value->Option Addr->Hp->Prop
abbrev St:=List (Option V)
abbrev VK:=V->Hp->Prop
abbrev TE:=St->Hp->VK->Prop
abbrev TT:=St->Hp->(Bool->Hp->Prop)->Prop
abbrev TA:=St->Hp->(List V->Hp->Prop)->Prop
structure Ends where
 nx:St->Hp->Prop
 rt:VK
 bk:St->Hp->Prop:=λ_ _=>False
 ct:St->Hp->Prop:=λ_ _=>False
abbrev TS:=Ends->St->Hp->Prop
def EP (X:Cx) (pins:List (Addr×Obj)) (σ:St) (Q:VK) (u:Value) (s':Shared):Prop:=∃v H',Inv X pins σ H' s'/\RelV v u/\Q v H'
def TP (X:Cx) (pins:List (Addr×Obj)) (σ:St) (Q:Bool->Hp->Prop) (b:Bool) (s':Shared):Prop:=∃H',Inv X pins σ H' s'/\Q b H'
def AP (X:Cx) (pins:List (Addr×Obj)) (σ:St) (Q:List V->Hp->Prop) (us:List Value) (s':Shared):Prop:=∃vs H',Inv X pins σ H' s'/\Vals vs us/\Q vs H'
def SP (X:Cx) (pins:List (Addr×Obj)) (D:Ends) (f:Flow) (s':Shared):Prop:=
 match f with
 | .next=>∃bG H',Inv X pins bG H' s'/\D.nx bG H'
 | .brk=>∃bG H',Inv X pins bG H' s'/\D.bk bG H'
 | .cont=>∃bG H',Inv X pins bG H' s'/\D.ct bG H'
 | .ret u=>∃v bG H',Inv X pins bG H' s'/\RelV v u/\D.rt v H'
def PE (X:Cx) (e:Expr) (t:TE):Prop:=
 ∀(pins:List (Addr×Obj)) (s:Shared) (σ:St) (H:Hp) (Q:VK),Inv X pins σ H s->t σ H Q->wpAny (model X.prog X.w) X.A (eval e X.env) (EP X pins σ Q) X.xe s
def PT (X:Cx) (e:Expr) (t:TT):Prop:=
 ∀(pins:List (Addr×Obj)) (s:Shared) (σ:St) (H:Hp) (Q:Bool->Hp->Prop),Inv X pins σ H s->t σ H Q->wpAny (model X.prog X.w) X.A (isTrue e X.env (eval e X.env)) (TP X pins σ Q) X.xe s
def PW (X:Cx) (e:Expr) (t:TT):Prop:=
 ∀(whole:Sem Value) (pins:List (Addr×Obj)) (s:Shared) (σ:St) (H:Hp) (Q:Bool->Hp->Prop),Inv X pins σ H s->t σ H Q->wpAny (model X.prog X.w) X.A (isTrue e X.env whole) (TP X pins σ Q) X.xe s
theorem PW.pt {X:Cx}{e:Expr}{t:TT}(h:PW X e t):PT X e t:=h _
def PA (X:Cx) (es:List Expr) (t:TA):Prop:=
 ∀(pos:Pos) (pins:List (Addr×Obj)) (s:Shared) (σ:St) (H:Hp) (Q:List V->Hp->Prop),Inv X pins σ H s->t σ H Q->wpAny (model X.prog X.w) X.A (spliced (backTo pos (starEach es X.env))) (AP X pins σ Q) X.xe s
def PS (X:Cx) (st:Stmt) (t:TS):Prop:=
 ∀(pins:List (Addr×Obj)) (s:Shared) (σ:St) (H:Hp) (D:Ends),Inv X pins σ H s->t D σ H->wpAny (model X.prog X.w) X.A (exec st X.env) (SP X pins D) X.xe s
def iq (X:Cx) (st:List Stmt) (t:TS):Prop:=
 ∀(pins:List (Addr×Obj)) (s:Shared) (σ:St) (H:Hp) (D:Ends),Inv X pins σ H s->t D σ H->wpAny (model X.prog X.w) X.A (execs st X.env) (SP X pins D) X.xe s
theorem aG {α:Type}{t:Sem α}{Q Q':α->Shared->Prop}{M:Model}{A:Around}{E:Value->Shared->Prop}{s:Shared}(h:wpAny M A t Q E s) (hQ:∀a s,Q a s->Q' a s):wpAny M A t Q' E s:=wpAny_mono h hQ λ_ _ x=>x
end L2
namespace L2
open PySem PySem.Spec PyProof.Rows
section
variable {X:Cx}
theorem bin {a b:Expr}{ta tb:TE}(ha:PE X a ta) (hb:PE X b tb){pins:List (Addr×Obj)}{s:Shared}{σ:St}{H:Hp}{R:V->V->Hp->Prop}(I:Inv X pins σ H s) (h:ta σ H λx H1=>tb σ H1 λy H2=>R x y H2)
 {α:Type}{Q:α->Shared->Prop}{f:Value->Value->Sem α}
 (hf:∀v u s2 x y H2,Inv X pins σ H2 s2->RelV x v->RelV y u->R x y H2->wpAny (model X.prog X.w) X.A (f v u) Q X.xe s2) :
 wpAny (model X.prog X.w) X.A (eval a X.env) (λv cz=>wpAny (model X.prog X.w) X.A (eval b X.env) (λu pD=>wpAny (model X.prog X.w) X.A (f v u) Q X.xe pD) X.xe cz) X.xe s:=by
 refine aG (ha pins s σ H _ I h) λv s1 ⟨x,H1,I1,r1,q1⟩=>?_
 refine aG (hb pins s1 σ H1 _ I1 q1) λu s2 ⟨y,H2,I2,r2,q2⟩=>?_
 exact hf v u s2 x y H2 I2 r1 r2 q2
def jf (i:Nat):TE:=λσ H Q=>∃v,σ[i]?=some (some v)/\Q v H
def tC (v:V):TE:=λ_ H Q=>Q v H
theorem C9 {i:Nat}{x:Str}{pos:Pos}(hN:X.N[i]?=some x) (hv:C7 X.env.scope x) (hd:(x == ("__debug__" : Str))=false:=by decide) (ju:(x == ("__classdict__" : Str))=false:=by decide):PE X (.Name x pos) (jf i):=by
 intro pins s σ H Q I h
 obtain ⟨v,e,h⟩:=h
 obtain ⟨m,hn,hl⟩:=I.loc
 obtain ⟨u,r,l⟩:=hl i x v hN e hv
 have fin:EP X pins σ Q u s:=⟨v,H,I,r,h⟩
 rcases l with ⟨hk,hm⟩ | ⟨hk,c,hc,AG⟩
 . exact wpAny_Name (wpAny_loadName_local I.ok.kind hk hn hm fin) hd
 . rcases hk with hk | hk
   . exact wpAny_Name (wpAny_loadName_cell I.ok.kind hk hc AG fin) hd
   . exact wpAny_Name (wpAny_loadName_free I.ok.kind hk hc AG fin ju) hd
theorem ag {i j pos} : PE X (.Constant (.int i) j pos) (tC (.int i)):=λ_ _ _ H _ I h=>wpAny_Constant_int ⟨.int i,H,I.tok _,⟨_,rfl⟩,h⟩
theorem d9 {b j pos} : PE X (.Constant (.bool b) j pos) (tC (.bl b)):=λ_ _ _ H _ I h=>Constant_bool ⟨.bl b,H,I,rfl,h⟩
theorem fF {x j pos} : PE X (.Constant (.str x) j pos) (tC (.str x)):=λ_ _ _ H _ I h=>Calls.Constant_str ⟨.str x,H,I.tok _,⟨_,rfl⟩,h⟩
def Gl (X:Cx) (x:Str):Prop:=X.env.kindOf x=some .globalImplicit
theorem u4 {E:Value->Shared->Prop}{pins:List (Addr×Obj)}{s:Shared}{σ:St}{H:Hp}{x:Str}{u:Value}{pos:Pos}{Q:Value->Shared->Prop}(I:Inv X pins σ H s) (hg:Gl X x) (hm:X.mg x=some u) (h:Q u s)
 (hd:(x == ("__debug__" : Str))=false:=by decide):wpAny (model X.prog X.w) X.A (eval (.Name x pos) X.env) Q E s:=
 Calls.Name_function_global I.ok.kind hg (Calls.loadGlobal_global (by rw [I.ok.glob]; exact I.mod.glob.keeps I.bk) hm h) hd
theorem fG {E:Value->Shared->Prop}{pins:List (Addr×Obj)}{s:Shared}{σ:St}{H:Hp}{x:Str}{u:Value}{pos:Pos}{Q:Value->Shared->Prop}(I:Inv X pins σ H s) (hg:Gl X x) (hm:X.mg x=none) (hv:bootBuiltins x=some u) (h:Q u s)
 (hn:x ≠ "__name__":=by decide) (hd:(x == ("__debug__" : Str))=false:=by decide):wpAny (model X.prog X.w) X.A (eval (.Name x pos) X.env) Q E s:=by
 obtain ⟨mb,h1,h2⟩:=I.mod.blt
 exact Calls.Name_function_global I.ok.kind hg (Calls.loadGlobal_builtin (by rw [I.ok.glob]; exact I.mod.glob.keeps I.bk) hm (by rw [I.ok.blt]; exact h1.keeps I.bk) ((h2 x hn).trans hv) h) hd
theorem eM {x:Str}{v:V}{u:Value}{pos:Pos}(hg:Gl X x) (hm:X.mg x=none) (hv:bootBuiltins x=some u) (r:RelV v u) (hn:x ≠ "__name__":=by decide) (hd:(x == ("__debug__" : Str))=false:=by decide):PE X (.Name x pos) (tC v):=
 λ_ _ _ H _ I h=>fG I hg hm hv ⟨v,H,I,r,h⟩ hn hd
variable {a b:Expr}{ta tb:TE}{pos:Pos}
def PC (X:Cx) (op:CmpOp) (a b:Expr) (t:TE):Prop:=
 ∀(pins:List (Addr×Obj)) (s:Shared) (σ:St) (H:Hp) (Q:VK),Inv X pins σ H s->t σ H Q->
  wpAny (model X.prog X.w) X.A (eval a X.env) (λv cz=>wpAny (model X.prog X.w) X.A (eval b X.env) (λu pD=>wpAny (model X.prog X.w) X.A (compareOp op v u) (EP X pins σ Q) X.xe pD) X.xe cz) X.xe s
theorem zB (b:Expr){op:CmpOp}(h:op≠.In) (h2:op≠.NotIn):behindInMarks op b=false:=by
 have e1:(op == CmpOp.In)=false:=by cases op <;> first | rfl | exact absurd rfl h
 have e2:(op == CmpOp.NotIn)=false:=by cases op <;> first | rfl | exact absurd rfl h2
 cases b <;> simp [behindInMarks,e1,e2]
def KD (ta:TE):TE:=λσ H Q=>ta σ H λx H1=>Q (.bl (decide (x=.aS))) H1
theorem RelV.zC {x:V}{v:Value}(r:RelV x v):(v == Value.none)=decide (x=.aS):=by
 cases x with
 | aS=>cases r; rfl
 | bl _=>cases r; rfl
 | int _=>obtain ⟨t,rfl⟩:=r; rfl
 | str _=>obtain ⟨t,rfl⟩:=r; rfl
 | jt _=>obtain ⟨t,rfl⟩:=r; rfl
 | pX _=>obtain ⟨t,rfl⟩:=r; rfl
 | ref _=>cases r; rfl
 | ty _=>cases r; rfl
theorem kW {j pos'} (ha:PE X a ta):PC X .Is a (.Constant .none j pos') (KD ta):=by
 intro pins s σ H Q I h
 refine aG (ha pins s σ H _ I h) λv s1 ⟨x,H1,I1,r1,q1⟩=>?_
 exact Constant_none (is_none_gen ⟨.bl _,H1,I1,by rw [r1.zC]; rfl,q1⟩)
def tB (t:TE):TT:=λσ H Q=>t σ H λx H1=>∃c,x=.bl c/\Q c H1
theorem eE {op:CmpOp}{t:TE}(h:PC X op a b t) (h1:behindInMarks op b=false:=by first | exact zB _ (by decide) (by decide) | rfl):PT X (.Compare a [op] [b] pos) (tB t):=by
 intro pins s σ H Q I hw
 refine wpAny_isTrue_Compare1 (aG (h pins s σ H _ I hw) λv s1 h1=>aG h1 λu s2 h2=>aG h2 λc s3 ⟨x,H1,I1,r1,q1⟩=>?_) h1
 obtain ⟨d,rfl,q⟩:=q1
 cases r1
 exact wpAny_truthy_bool ⟨H1,I1,q⟩
theorem eS {e:Expr}{t:TE}(h:PE X e t) (he:∀whole,isTrue e X.env whole=(do let v ← whole; standAt e.pos; holding [v] (truthy v)):=by intro _; rfl):PT X e (tB t):=by
 intro pins s σ H Q I hw
 refine isTrue_plain (aG (h pins s σ H _ I hw) λv s1 ⟨x,H1,I1,r1,q1⟩=>?_) (he _)
 obtain ⟨d,rfl,q⟩:=q1
 cases r1
 exact wpAny_truthy_bool ⟨H1,I1,q⟩
variable {tA AH:TT}{rest:List Expr}
def KG (t u:TT):TT:=λσ H Q=>t σ H λc H1=>if c=true then u σ H1 Q else Q false H1
def NS (t u:TT):TT:=λσ H Q=>t σ H λc H1=>if c=true then Q true H1 else u σ H1 Q
def KH (t:TT):TT:=λσ H Q=>t σ H λc H1=>Q (!c) H1
theorem BS (ha:PT X a tA):PW X (.BoolOp .And [a] pos) tA:=by
 intro wh pins s σ H Q I h
 refine isTrue_and (aG (ha pins s σ H Q I h) λc s1 e=>?_)
 cases c with
 | true=>exact isTrue_and_nil e
 | false=>exact e
theorem jv (ha:PT X a tA):PW X (.BoolOp .Or [a] pos) tA:=by
 intro wh pins s σ H Q I h
 refine isTrue_or (aG (ha pins s σ H Q I h) λc s1 e=>?_)
 cases c with
 | false=>exact isTrue_or_nil e
 | true=>exact e
theorem Dc (ha:PT X a tA) (hb:PW X (.BoolOp .And (b::rest) pos) AH):PW X (.BoolOp .And (a::b::rest) pos) (KG tA AH):=by
 intro wh pins s σ H Q I h
 refine isTrue_and (aG (ha pins s σ H _ I h) λc s1 ⟨H1,I1,q1⟩=>?_)
 cases c with
 | true=>exact hb wh pins s1 σ H1 Q I1 q1
 | false=>exact ⟨H1,I1,q1⟩
theorem i5 (ha:PT X a tA) (hb:PW X (.BoolOp .Or (b::rest) pos) AH):PW X (.BoolOp .Or (a::b::rest) pos) (NS tA AH):=by
 intro wh pins s σ H Q I h
 refine isTrue_or (aG (ha pins s σ H _ I h) λc s1 ⟨H1,I1,q1⟩=>?_)
 cases c with
 | true=>exact ⟨H1,I1,q1⟩
 | false=>exact hb wh pins s1 σ H1 Q I1 q1
theorem jw (ha:PT X a tA):PT X (.UnaryOp .Not a pos) (KH tA):=by
 intro pins s σ H Q I h
 exact isTrue_not (ha pins s σ H (λc H1=>Q (!c) H1) I h)
def Gv (ta tb:TE):TE:=λσ H Q=>ta σ H λx H1=>∃c,x=.bl c/\if c=true then tb σ H1 Q else Q (.bl false) H1
theorem xE {op} {t:TE}(h:PE X a t):PE X (.BoolOp op [a] pos) t:=λpins s σ H Q I hw=>BoolOp_one (h pins s σ H Q I hw)
theorem rE (ha:PE X a ta) (hb:PE X (.BoolOp .And (b::rest) pos) tb):PE X (.BoolOp .And (a::b::rest) pos) (Gv ta tb):=by
 intro pins s σ H Q I h
 refine BoolOp_and (aG (ha pins s σ H _ I h) λv s1 ⟨x,H1,I1,r1,q1⟩=>?_)
 obtain ⟨c,rfl,q1⟩:=q1
 cases r1
 refine wpAny_truthy_bool ?_
 cases c with
 | true=>exact hb pins s1 σ H1 Q I1 q1
 | false=>exact ⟨.bl false,H1,I1,rfl,q1⟩
def NT (t:TT) (ta tb:TE):TE:=λσ H Q=>t σ H λc H1=>if c=true then ta σ H1 Q else tb σ H1 Q
theorem rF {c:Expr}(hc:PT X c tA) (ha:PE X a ta) (hb:PE X b tb):PE X (.IfExp c a b pos) (NT tA ta tb):=by
 intro pins s σ H Q I h
 refine wpAny_IfExp (aG (hc pins s σ H _ I h) λd s1 ⟨H1,I1,q1⟩=>?_)
 cases d with
 | true=>exact ha pins s1 σ H1 Q I1 q1
 | false=>exact hb pins s1 σ H1 Q I1 q1
end
end L2
namespace L2
open PySem PySem.Spec PyProof.Rows
def ay (K:W.Frag) (H:Hp) (a:Addr) (xs:List V):Prop:=
 Rd H a (.lst xs)\/
  ∃(o:Obj) (its:Array Value) (n:Nat),K.lookup a=some o/\o.cls=.type "list" /\ o.dict=none/\o.data=.seq its n/\its.size<=sizeLine/\Vals xs its.toList
def aP (K:W.Frag) (H:Hp) (a:Addr) (xs:List V):Prop:=
 Rd H a (.tup xs)\/
  ∃(o:Obj) (its:Array Value) (n:Nat),K.lookup a=some o/\o.cls=.type "tuple" /\ o.data=.seq its n/\its.size<=sizeLine/\Vals xs its.toList
def KI:Value->Option V
 | .none=>some .aS
 | .bool b=>some (.bl b)
 | .int i _=>some (.int i)
 | .str x _=>some (.str x)
 | .bytes b _=>some (.jt b)
 | .float b _=>some (.pX b)
 | .ref a=>some (.ref a)
 | .type n=>some (.ty n)
 | _=>none
theorem RelV.abs {x:V}{u:Value}(r:RelV x u):KI u=some x:=by
 cases x with
 | aS=>cases r; rfl
 | bl _=>cases r; rfl
 | int _=>obtain ⟨t,rfl⟩:=r; rfl
 | str _=>obtain ⟨t,rfl⟩:=r; rfl
 | jt _=>obtain ⟨t,rfl⟩:=r; rfl
 | pX _=>obtain ⟨t,rfl⟩:=r; rfl
 | ref _=>cases r; rfl
 | ty _=>cases r; rfl
theorem RelV.inj {x y:V}{u:Value}(r:RelV x u) (q:RelV y u):x=y:=Option.some.inj (r.abs.symm.trans q.abs)
theorem Vals.inj:∀{xs ys:List V}{us:List Value},Vals xs us->Vals ys us->xs=ys
 | _,_,_,.nil,.nil=>rfl
 | _,_,_,.cons r t,.cons r' t'=>by rw [r.inj r',Vals.inj t t']
section
variable {X:Cx}{pins:List (Addr×Obj)}{σ:St}{H:Hp}{s:Shared}{a:Addr}{xs ys:List V}
theorem ay.of {K:W.Frag}(h:H a=some (.lst xs)):ay K H a xs:=.inl (.inl h)
theorem aP.of {K:W.Frag}(h:H a=some (.tup xs)):aP K H a xs:=.inl (.inl h)
theorem Inv.list (I:Inv X pins σ H s) (h:ay X.K H a xs):∃its:List Value,Vals xs its/\PlainL s.heap a its.toArray/\xs.length<=sizeLine:=by
 rcases h with h | ⟨o,its,n,hk,hc,hd,hs,hz,r⟩
 . obtain ⟨z,its,n,r,e⟩:=h.ok I.hok
   exact ⟨its,r,⟨_,n,e,rfl,rfl,rfl⟩,z⟩
 . refine ⟨its.toList,r,⟨o,n,I.d6 a o hk,hc,hd,by simpa using hs⟩,?_⟩
   have e:=r.length
   simp only [Array.length_toList] at e
   omega
theorem Inv.tuple (I:Inv X pins σ H s) (h:aP X.K H a xs):∃its:List Value,Vals xs its/\IsTup s.heap a its.toArray/\xs.length<=sizeLine:=by
 rcases h with h | ⟨o,its,n,hk,hc,hs,hz,r⟩
 . obtain ⟨z,its,r,p⟩:=h.ok I.hok
   exact ⟨its,r,p,z⟩
 . refine ⟨its.toList,r,⟨o,I.d6 a o hk,hc,n,by simpa using hs⟩,?_⟩
   have e:=r.length
   simp only [Array.length_toList] at e
   omega
theorem Inv.nj (I:Inv X pins σ H s) (h:ay X.K H a xs) (h':ay X.K H a ys):xs=ys:=by
 obtain ⟨its,r,⟨o,n,e,_,_,d⟩,_⟩:=I.list h
 obtain ⟨its',r',⟨o',n',e',_,_,d'⟩,_⟩:=I.list h'
 rw [e] at e'; cases e'
 rw [d] at d'
 injection d' with d1 _
 have:its=its':=by simpa using congrArg Array.toList d1
 subst this
 exact r.inj r'
theorem Inv.kX (I:Inv X pins σ H s) (h:aP X.K H a xs) (h':aP X.K H a ys):xs=ys:=by
 obtain ⟨its,r,⟨o,e,_,n,d⟩,_⟩:=I.tuple h
 obtain ⟨its',r',⟨o',e',_,n',d'⟩,_⟩:=I.tuple h'
 rw [e] at e'; cases e'
 rw [d] at d'
 injection d' with d1 _
 have:its=its':=by simpa using congrArg Array.toList d1
 subst this
 exact r.inj r'
end
abbrev Cx.jg (X:Cx) (E:Value->Shared->Prop):Cx:={ X with xe:=E }
abbrev Cx.rG (X:Cx):Cx:=X.jg λ_ _=>False
theorem Cx.Ok.jg {X:Cx}(ok:X.Ok) (E:Value->Shared->Prop):(X.jg E).Ok:=
 ⟨ok.mod,ok.kind,ok.glob,ok.blt,ok.above,ok.inj,ok.has,ok.cab,ok.hd,ok.frames,ok.stk,ok.exf,ok.bs,ok.bsz,ok.noex,ok.exfs,ok.gh,ok.frf⟩
theorem Cx.Ok.gJ {X:Cx}{E:Value->Shared->Prop}(ok:(X.jg E).Ok):X.Ok:=
 ⟨ok.mod,ok.kind,ok.glob,ok.blt,ok.above,ok.inj,ok.has,ok.cab,ok.hd,ok.frames,ok.stk,ok.exf,ok.bs,ok.bsz,ok.noex,ok.exfs,ok.gh,ok.frf⟩
section
variable {X:Cx}{pins:List (Addr×Obj)}{σ:St}{H:Hp}{s:Shared}{E:Value->Shared->Prop}
theorem Inv.jg (I:Inv X pins σ H s) (E:Value->Shared->Prop):Inv (X.jg E) pins σ H s:=⟨I.ok.jg E,I.os,I.bare,I.base,I.loc,I.cell,I.free,I.freeC,I.pin,I.hok,I.len⟩
theorem Inv.gJ (I:Inv (X.jg E) pins σ H s):Inv X pins σ H s:=⟨I.ok.gJ,I.os,I.bare,I.base,I.loc,I.cell,I.free,I.freeC,I.pin,I.hok,I.len⟩
theorem SP.gJ {D:Ends}{f:Flow}{s':Shared}(h:SP (X.jg E) pins D f s'):SP X pins D f s':=by
 cases f with
 | next=>obtain ⟨bG,H',I,q⟩:=h; exact ⟨bG,H',I.gJ,q⟩
 | brk=>obtain ⟨bG,H',I,q⟩:=h; exact ⟨bG,H',I.gJ,q⟩
 | cont=>obtain ⟨bG,H',I,q⟩:=h; exact ⟨bG,H',I.gJ,q⟩
 | ret u=>obtain ⟨v,bG,H',I,r,q⟩:=h; exact ⟨v,bG,H',I.gJ,r,q⟩
theorem iq.rG {st:List Stmt}{t:TS}(h:iq X.rG st t):iq X st t:=λpins s σ H D I hw=>
 wpAny_mono (h pins s σ H D (I.jg _) hw) (λ_ _ q=>q.gJ) λ_ _ z=>False.elim z
end
section
variable {X:Cx}{st:Stmt}{rest:List Stmt}{t u:TS}{e:Expr}{te:TE}{pos:Pos}
def Gw:TS:=λD σ H=>D.nx σ H
def dZ (t u:TS):TS:=λD σ H=>t { D with nx:=u D } σ H
theorem aV:iq X [] Gw:=λ_ _ σ H _ I h=>wpAny_execs_nil ⟨σ,H,I,h⟩
theorem af (h1:PS X st t) (h2:iq X rest u):iq X (st::rest) (dZ t u):=by
 intro pins s σ H D I h
 refine wpAny_execs_cons (aG (h1 pins s σ H { D with nx:=u D } I h) λf s1 q=>?_)
 cases f with
 | next=>
  obtain ⟨bG,H',I',q⟩:=q
  exact h2 pins s1 bG H' D I' q
 | ret v=>exact q
 | brk=>exact q
 | cont=>exact q
theorem ao (h1:PS X st t):iq X [st] t:=by
 intro pins s σ H D I h
 refine wpAny_execs_cons (aG (h1 pins s σ H D I h) λf s1 q=>?_)
 cases f with
 | next=>exact wpAny_execs_nil q
 | ret v=>exact q
 | brk=>exact q
 | cont=>exact q
theorem Inv.quiet {pins:List (Addr×Obj)}{σ:St}{H:Hp}{s:Shared}(I:Inv X pins σ H s):interactive X.env=false:=by simp [interactive,I.ok.kind]
def Gx (te:TE):TS:=λD σ H=>te σ H λ_ H1=>D.nx σ H1
theorem u5 (he:PE X e te) (hs:swapsWith e none pos.line X.env=pure false:=by rfl):PS X (.Expr e pos) (Gx te):=by
 intro pins s σ H D I h
 exact wpAny_Expr_any (aG (he pins s σ H _ I h) λv s1 ⟨x,H1,I1,r1,q1⟩=>⟨σ,H1,I1,q1⟩) I.quiet hs
def KJ (te:TE):TS:=λD σ H=>te σ H D.rt
theorem aK (he:PE X e te):PS X (.Return (some e) pos) (KJ te):=by
 intro pins s σ H D I h
 exact wpAny_Return_some (aG (he pins s σ H _ I h) λv s1 ⟨x,H1,I1,r1,q1⟩=>⟨x,σ,H1,I1,r1,q1⟩)
def KL (c:TT) (t u:TS):TS:=λD σ H=>c σ H λb H1=>if b=true then t D σ H1 else u D σ H1
theorem bQ {c:Expr}{a b:List Stmt}{tc:TT}(hc:PT X c tc) (ha:iq X a t) (hb:iq X b u):PS X (.If c a b pos) (KL tc t u):=by
 intro pins s σ H D I h
 refine wpAny_If (aG (hc pins s σ H _ I h) λd s1 ⟨H1,I1,q1⟩=>?_)
 cases d with
 | true=>exact ha pins s1 σ H1 D I1 q1
 | false=>exact hb pins s1 σ H1 D I1 q1
end
abbrev TG:=V->St->Hp->(St->Hp->Prop)->Prop
abbrev rH:=List V->St->Hp->(St->Hp->Prop)->Prop
def PG (X:Cx) (target:Expr) (t:TG):Prop:=
 ∀(pins:List (Addr×Obj)) (s:Shared) (σ:St) (H:Hp) (v:V) (u:Value) (Q:St->Hp->Prop),Inv X pins σ H s->RelV v u->t v σ H Q->
  wpAny (model X.prog X.w) X.A (assign target X.env u) (λ_ s'=>∃bG H',Inv X pins bG H' s'/\Q bG H') X.xe s
def AI (X:Cx) (ts:List Expr) (t:rH):Prop:=
 ∀(pins:List (Addr×Obj)) (s:Shared) (σ:St) (H:Hp) (vs:List V) (us:List Value) (Q:St->Hp->Prop),Inv X pins σ H s->Vals vs us->t vs σ H Q->
  wpAny (model X.prog X.w) X.A (assignInOrder ((assignEach ts X.env).map (·.2)) us) (λ_ s'=>∃bG H',Inv X pins bG H' s'/\Q bG H') X.xe s
abbrev zD:=V->V->V->Hp->(Hp->Prop)->Prop
def De (X:Cx) (t:zD):Prop:=
 ∀(pins:List (Addr×Obj)) (s:Shared) (σ:St) (H:Hp) (o i v:V) (ov iv u:Value) (Q:Hp->Prop),Inv X pins σ H s->RelV o ov->RelV i iv->RelV v u->t o i v H Q->
  wpAny (model X.prog X.w) X.A (setItem ov iv u) (λ_ s'=>∃H',Inv X pins σ H' s'/\Q H') X.xe s
section
variable {X:Cx}{pos:Pos}
def eZ (i:Nat):TG:=λv σ H Q=>Q (σ.set i (some v)) H
theorem aW {i:Nat}{x:Str}(hN:X.N.Nodup) (hi:X.N[i]?=some x) (hx:Loc X.env.scope x) (hf:X.fn x=true\/X.env.scope.names.lookup x=some .local:=by first | exact .inl rfl | exact .inr rfl | assumption):PG X (.Name x pos) (eZ i):=by
 intro pins s σ H v u Q I r h
 exact wpAny_assign_Name (rD I hN hi hx r (λs' I'=>⟨_,H,I',h⟩) hf)
def Df:rH:=λvs σ H Q=>vs=[]/\Q σ H
def wx (t:TG) (u:rH):rH:=λvs σ H Q=>∃v r,vs=v::r/\t v σ H λbG H'=>u r bG H' Q
theorem lT:AI X [] Df:=by
 intro pins s σ H vs us Q I r h
 obtain ⟨e,h⟩:=h
 subst e
 cases r
 exact assignInOrder_nil ⟨σ,H,I,h⟩
theorem eF {e:Expr}{es:List Expr}{t:TG}{u:rH}(h1:PG X e t) (h2:AI X es u)
 (hs:(assignEach (e::es) X.env).map (·.2)=assign e X.env::(assignEach es X.env).map (·.2):=by rfl):AI X (e::es) (wx t u):=by
 intro pins s σ H vs us Q I r h
 obtain ⟨v,vr,e1,h⟩:=h
 subst e1
 cases r with
 | cons r rr=>
  rw [hs]
  refine assignInOrder_cons (aG (h1 pins s σ H _ _ _ I r h) λ_ s1 ⟨BU,H1,I1,q1⟩=>?_)
  exact h2 pins s1 BU H1 _ _ Q I1 rr q1
def Dg (K:W.Frag) (n:Nat) (t:rH):TG:=λv σ H Q=>∃a xs,v=.ref a/\aP K H a xs/\xs.length=n/\t xs σ H Q
theorem n9 {es:List Expr}{k:Nat}{t:rH}{n:Nat}(hc:X.calm=true) (h:AI X es t)
 (hn:(assignEach es X.env).length=n:=by rfl) (Dh:(assignEach es X.env).findIdx? (·.1)=none:=by rfl):PG X (.Tuple es k pos) (Dg X.K n t):=by
 intro pins s σ H v u Q I r hw
 obtain ⟨a,xs,e1,hq,hl,hw⟩:=hw
 subst e1
 cases r
 obtain ⟨its,rv,ht,hz⟩:=I.tuple hq
 refine assign_Tuple_tuple (I.ok.hd hc) ht (by simp [hn,← hl,rv.length]) Dh λh' hx=>?_
 have I1:Inv X pins σ H { s with heap:=h' }:=I.kept (t':=s.toks) λb o e=>hx b o (Nat.ne_of_lt (Heap.lt_size e)) e
 exact h pins _ σ H xs _ Q I1 (by simpa using rv) hw
def KN (to ti:TE) (t:zD):TG:=λv σ H Q=>to σ H λo H1=>ti σ H1 λi H2=>t o i v H2 λH3=>Q σ H3
theorem xF {o i:Expr}{to ti:TE}{t:zD}(ho:PE X o to) (hi:PE X i ti) (hs:De X t)
 (ha:∀v,assign (.Subscript o i pos) X.env v=(do
  let ov ← holding [v] (eval o X.env)
  let iv ← holding [v,ov] (eval i X.env)
  standAt pos
  holding [v,ov,iv] (setItem ov iv v)
  release [v,ov,iv] []):=by intro _; rfl):PG X (.Subscript o i pos) (KN to ti t):=by
 intro pins s σ H v u Q I r h
 rw [ha]
 refine wpAny_bind (wpAny_holding (aG (ho pins s σ H _ I h) λov s1 ⟨x,H1,I1,r1,q1⟩=>?_))
 refine wpAny_bind (wpAny_holding (aG (hi pins s1 σ H1 _ I1 q1) λiv s2 ⟨y,H2,I2,r2,q2⟩=>?_))
 refine wpAny_bind (wpAny_standAt (wpAny_bind (wpAny_holding (aG (hs pins s2 σ H2 x y v ov iv u _ I2 r1 r2 r q2) λ_ s3 ⟨H3,I3,q3⟩=>?_))))
 exact wpAny_release ⟨σ,H3,I3,q3⟩
def zE (te:TE) (g:TG):TS:=λD σ H=>te σ H λx H1=>g x σ H1 D.nx
theorem xG {tg e:Expr}{te:TE}{g:TG}(he:PE X e te) (hg:PG X tg g) (hs:swapsWithSole [tg] e pos.line X.env=pure false:=by rfl) (hw:swappedStores [tg] e X.env=pure none:=by rfl)
 (h1:(assignEach [tg] X.env).map (·.2)=[assign tg X.env]:=by rfl):PS X (.Assign [tg] e pos) (zE te g):=by
 intro pins s σ H D I h
 refine wpAny_Assign_stores (aG (he pins s σ H _ I h) λv s1 ⟨x,H1,I1,r1,q1⟩=>?_) hs hw
 rw [h1]
 exact aG (hg pins s1 σ H1 x v _ I1 r1 q1) λ_ s2 q=>q
theorem ax {i:Nat}{x:Str}{e:Expr}{te:TE}{pos':Pos}(hN:X.N.Nodup) (hi:X.N[i]?=some x) (hx:Loc X.env.scope x) (he:PE X e te) (hs:swapsWith e (some (.Name x pos')) pos.line X.env=pure false:=by rfl) (hf:X.fn x=true\/X.env.scope.names.lookup x=some .local:=by first | exact .inl rfl | exact .inr rfl | assumption) :
 PS X (.Assign [.Name x pos'] e pos) (zE te (eZ i)):=by
 intro pins s σ H D I h
 refine wpAny_Assign_Name (aG (he pins s σ H _ I h) λv s1 ⟨y,H1,I1,r1,q1⟩=>?_) hs
 exact rD I1 hN hi hx r1 (λs2 I2=>⟨_,H1,I2,q1⟩) hf
end
section
variable {X:Cx}{pos:Pos}
def Di (c:TT) (tb:TS):TS:=λD σ H=>∃W:Nat->St->Hp->Prop,(∃m,W m σ H)/\∀m σ H,W m σ H->
 c σ H λb H1=>if b=true then ∃N:St->Hp->Prop,(∀bG H',N bG H'->∃m',m'<m/\W m' bG H')/\tb { D with nx:=N,ct:=N,bk:=D.nx } σ H1 else D.nx σ H1
theorem zF {c:Expr}{body:List Stmt}{tc:TT}{tb:TS}(hp:PassesOwn (model X.prog X.w) X.A X.env X.xe) (hc:PT X c tc) (hb:iq X body tb):PS X (.While c body [] pos) (Di tc tb):=by
 intro pins s σ H D I h
 obtain ⟨W,⟨m0,w0⟩,turn⟩:=h
 refine wpAny_While (codeAny_whileLoop (λn s'=>∃bG H',Inv X pins bG H' s'/\W n bG H') ?_ m0 ⟨σ,H,I,w0⟩)
 rintro n s1 ⟨BU,H1,I1,w1⟩
 refine wpAny_passesOwn hp (aG (hc pins s1 BU H1 _ I1 (turn n BU H1 w1)) λb s2 ⟨H2,I2,q2⟩=>?_)
 cases b with
 | true=>
  obtain ⟨N,hN,q2⟩:=q2
  rw [if_pos rfl]
  refine wpAny_passesOwn hp (aG (hb pins s2 BU H2 _ I2 q2) λf s3 q3=>?_)
  cases f with
  | next=>
   obtain ⟨rJ,H3,I3,n3⟩:=q3
   obtain ⟨m',hm,w3⟩:=hN rJ H3 n3
   exact ⟨m',hm,rJ,H3,I3,w3⟩
  | cont=>
   obtain ⟨rJ,H3,I3,n3⟩:=q3
   obtain ⟨m',hm,w3⟩:=hN rJ H3 n3
   exact ⟨m',hm,rJ,H3,I3,w3⟩
  | brk=>exact q3
  | ret v=>exact q3
 | false=>
  rw [if_neg Bool.false_ne_true]
  exact wpAny_execs_nil ⟨BU,H2,I2,q2⟩
end
structure It where
 go:Nat->Hp->Prop
 yld:Nat->Hp->V->Hp->Prop
 stop:Nat->Hp->Prop
def fi (X:Cx) (pins:List (Addr×Obj)) (H:Hp) (b:Addr):Prop:=
 H b=none/\b≠X.env.locals/\b∉X.fs/\(b∈X.ex\/X.ie.heap.objs.size<=b)/\(∀x c,X.env.cells.lookup x=some c->c≠b)/\∀p∈X.pn++pins,p.1≠b
theorem Inv.pE {X:Cx}{pins:List (Addr×Obj)}{σ:St}{H H':Hp}{s:Shared}{b:Addr}(I:Inv X pins σ H s) (hb:s.heap.objs.size<=b) (hn:H' b=none):fi X pins H' b:=by
 refine ⟨hn,Nat.ne_of_gt (Nat.lt_of_lt_of_le I.lt hb),I.Kz hb,.inr (Nat.le_trans I.sz hb),λx c e z=>?_,λp hp z=>?_⟩
 . obtain ⟨v,q⟩:=I.cell x c e
   exact absurd (Nat.lt_of_lt_of_le q.lt (by rw [z]; exact hb)) (Nat.lt_irrefl _)
 . exact absurd (Nat.lt_of_lt_of_le (Heap.lt_size (I.pin p hp).1) (by rw [z]; exact hb)) (Nat.lt_irrefl _)
structure Turn (P:Program) (w:World) (K:W.Frag) (tg:Expr) (J:It) (fp:List Addr) (it:Addr) (tn:Nat->Heap->Prop):Prop where
 mem:it∈fp
 obj:∀i h,tn i h->∀b∈fp,∃o,h.get? b=some o/\∀v,o.data≠.cell v
 keep:∀i h h',tn i h->(∀b∈fp,∀o,h.get? b=some o->h'.get? b=some o)->tn i h'
 item:∀(X:Cx),X.prog=P->X.w=w->X.K=K->X.calm=true->∀(i:Nat) (pins:List (Addr×Obj)) (s:Shared) (σ:St) (H:Hp) (E:Value->Shared->Prop),Inv X pins σ H s->(∀b∈fp,fi X pins H b)->tn i s.heap->J.go i H->
  wpAny (model P w) X.A (pyNext (.ref it)) (λr s1=>∃u,r=some u/\
   wpAny (model P w) X.A (letOwnedTupleGo tg (.ref it) u) (λ_ s2=>∃x H',Inv X pins σ H' s2/\RelV x u/\J.yld i H x H'/\tn (i+1) s2.heap/\∀b∈fp,H' b=none) E s1) E s
 done:∀(X:Cx),X.prog=P->X.w=w->X.K=K->X.calm=true->∀(i:Nat) (pins:List (Addr×Obj)) (s:Shared) (σ:St) (H:Hp) (E:Value->Shared->Prop),Inv X pins σ H s->(∀b∈fp,fi X pins H b)->tn i s.heap->J.stop i H->
  wpAny (model P w) X.A (pyNext (.ref it)) (λr s1=>r=none/\Inv X pins σ H s1) E s
 self:∀(A:Around) (i:Nat) (s:Shared) (Q:Value->Shared->Prop) (E:Value->Shared->Prop),tn i s.heap->Q (.ref it) s->wpAny (model P w) A (pyIter (.ref it)) Q E s
abbrev TI:=St->Hp->(It->Hp->Prop)->Prop
def IA (X:Cx) (pins:List (Addr×Obj)) (σ:St) (tg:Expr) (R:It->Hp->Prop) (Dj:Value) (s2:Shared):Prop:=
 ∃(it:Addr) (fp:List Addr) (tn:Nat->Heap->Prop) (J:It) (H':Hp),Dj=.ref it/\Inv X pins σ H' s2/\Turn X.prog X.w X.K tg J fp it tn/\tn 0 s2.heap/\(∀b∈fp,fi X pins H' b)/\R J H'
def PI (X:Cx) (tg iter:Expr) (wi:TI):Prop:=
 ∀(pins:List (Addr×Obj)) (s:Shared) (σ:St) (H:Hp) (R:It->Hp->Prop),Inv X pins σ H s->wi σ H R->
  wpAny (model X.prog X.w) X.A (eval iter X.env) (λv s1=>wpAny (model X.prog X.w) X.A (pyIter v) (IA X pins σ tg R) X.xe s1) X.xe s
theorem wy {M:Model}{A:Around}{E:Value->Shared->Prop}{s:Shared}{tg:Expr}{it:Addr}{u:Value}{o:Obj}{n:String}{vs:Array Value}{Q:Unit->Shared->Prop}(ho:s.heap.get? it=some o) (hc:o.cls=.type n) (hd:o.data=.fields vs)
 (hn:["enumerate", "zip", "dict_itemiterator", "dict_reverseitemiterator", "odict_iterator", "itertools.zip_longest", "itertools.pairwise"].contains n=false) (hQ:Q () s):wpAny M A (letOwnedTupleGo tg (.ref it) u) Q E s:=by
 unfold letOwnedTupleGo
 cases tg <;> first
  | exact wpAny_pure hQ
  | (cases u <;> first
      | exact wpAny_pure hQ
      | (refine wpAny_bind (wpAny_load ho ?_)
         rw [hc,hd]
         show wpAny M A (if (["enumerate", "zip", "dict_itemiterator", "dict_reverseitemiterator", "odict_iterator", "itertools.zip_longest", "itertools.pairwise"].contains n && vs[0]? == some (rawInt _))=true then _ else _) Q E s
         rw [if_neg (by intro h; rw [hn,Bool.false_and] at h; cases h)]
         exact wpAny_pure hQ))
def xH (K:W.Frag) (a:Addr):It:=
 ⟨λi H=>∃xs x,ay K H a xs/\xs[i]?=some x,λi H x H'=>H'=H/\∀xs,ay K H a xs->xs[i]?=some x,λi H=>∃xs,ay K H a xs/\xs.length<=i⟩
def pZ (lo:Int) (n:Nat):It:=⟨λi _=>i<n,λi H x H'=>H'=H/\x=.int (lo+i),λi _=>n<=i⟩
theorem xI {P:Program}{w:World}{K:W.Frag}{tg:Expr}(a it:Addr):Turn P w K tg (xH K a) [it] it (λi h=>h.IsListIter it a i) where
 mem:=by simp
 obj:=λi h st b hb=>by
  have e:b=it:=by simpa using hb
  subst e
  obtain ⟨o,e,c,d⟩:=st
  exact ⟨o,e,λv z=>by rw [d] at z; cases z⟩
 keep:=λi h h' st k=>st.at λo e=>k it (by simp) o e
 item:=by
  intro X hP hw hK hc i pins s σ H E I hf st hg
  subst hP hw hK
  obtain ⟨xs,x,hq,hx⟩:=hg
  obtain ⟨its,rv,p,hz⟩:=I.list hq
  obtain ⟨u,hu,ru⟩:=rv.get hx
  obtain ⟨f0,f1,f2,f3,f4,f5⟩:=hf it (by simp)
  refine wpAny_pyNext_list_item st p.isList (x:=u) (by simpa using hu) λh' az sb=>?_
  have I1:Inv X pins σ H { s with heap:=h' }:=I.turned (t':=s.toks) (λb o hb e=>(sb.2 b hb).trans e) f0 f1 f3 f4 f5
  obtain ⟨o,e,c,d⟩:=id az
  exact ⟨u,rfl,wy (s:={ s with heap:=h' }) e c d (by decide) ⟨x,H,I1,ru,⟨rfl,λys hy=>by rw [I.nj hy hq]; exact hx⟩,az,λb hb=>(hf b hb).1⟩⟩
 done:=by
  intro X hP hw hK hc i pins s σ H E I hf st hg
  subst hP hw hK
  obtain ⟨xs,hq,hx⟩:=hg
  obtain ⟨its,rv,p,hz⟩:=I.list hq
  obtain ⟨f0,f1,f2,f3,f4,f5⟩:=hf it (by simp)
  have hl:=rv.length
  exact wpAny_pyNext_list_end (I.ok.hd hc) st p.isList (by simp; omega) λh' eb=>⟨rfl,I.turned (t':=s.toks) (λb o hb e=>eb b o hb e) f0 f1 f3 f4 f5⟩
 self:=λ_ _ _ _ _ st h=>wpAny_pyIter_listiter st h
theorem wz {P:Program}{w:World}{K:W.Frag}{tg:Expr}(it:Addr) (lo:Int) (n:Nat):Turn P w K tg (pZ lo n) [it] it (λi h=>IsRangeIter h it (lo+(i:Nat)*1) ((n:Int)-(i:Nat)) 1) where
 mem:=by simp
 obj:=λi h st b hb=>by
  have e:b=it:=by simpa using hb
  subst e
  exact ⟨_,st,λv z=>by
   have z':Data.fields _=Data.cell v:=z
   cases z'⟩
 keep:=λi h h' st k=>k it (by simp) _ st
 item:=by
  intro X hP hw hK hc i pins s σ H E I hf st hg
  subst hP hw hK
  obtain ⟨f0,f1,f2,f3,f4,f5⟩:=hf it (by simp)
  have W:=Walks.range (prog:=X.prog) (w:=X.w) (I.ok.hd hc) it lo 1 n
  refine W.item i s _ _ hg st λv h' tk hv az kk=>?_
  obtain ⟨t,rfl⟩:=hv
  have I1:Inv X pins σ H { s with heap:=h',toks:=tk }:=I.turned (λb o hb e=>kk b o (by simpa using hb) e) f0 f1 f3 f4 f5
  refine ⟨_,rfl,wy (s:={ s with heap:=h',toks:=tk }) (n:="range_iterator") az rfl rfl (by decide) ⟨.int (lo+i),H,I1,⟨t,?_⟩,⟨rfl,rfl⟩,az,λb hb=>(hf b hb).1⟩⟩
  rw [Int.mul_one]
 done:=by
  intro X hP hw hK hc i pins s σ H E I hf st hg
  subst hP hw hK
  obtain ⟨f0,f1,f2,f3,f4,f5⟩:=hf it (by simp)
  exact wpAny_pyNext_range_end (I.ok.hd hc) st (by have:n<=i:=hg; omega) λh' eb=>⟨rfl,I.turned (t':=s.toks) (λb o hb e=>eb b o hb e) f0 f1 f3 f4 f5⟩
 self:=λ_ _ _ _ _ st h=>wpAny_pyIter_rangeiter st h
end L2
namespace L2
open PySem PySem.Spec PyProof.Rows
section
variable {X:Cx}{tg:Expr}
def Gy (K:W.Frag) (tl:TE):TI:=λσ H R=>tl σ H λx H1=>∃a,x=.ref a/\(∃xs,ay K H1 a xs)/\R (xH K a) H1
theorem jx {l:Expr}{tl:TE}(hl:PE X l tl):PI X tg l (Gy X.K tl):=by
 intro pins s σ H R I h
 refine aG (hl pins s σ H _ I h) λv s1 ⟨x,H1,I1,r1,q1⟩=>?_
 obtain ⟨a,e,⟨xs,hq⟩,q⟩:=q1
 subst e
 cases r1
 obtain ⟨its,rv,p,hz⟩:=I1.list hq
 refine wpAny_pyIter_list p.isList ?_
 refine ⟨s1.heap.objs.size,[s1.heap.objs.size],_,_,H1,rfl,I1.kept (t':=s1.toks) λb o e=>Heap.get?_push_of_some _ e,xI a _,⟨_,Heap.get?_push_size _ rfl,rfl,rfl⟩,λb hb=>?_,q⟩
 have e:b=s1.heap.objs.size:=by simpa using hb
 subst e
 exact I1.pE (Nat.le_refl _) (I1.hok.fresh (Nat.le_refl _))
theorem rK {pins:List (Addr×Obj)}{σ:St}{H:Hp}{s:Shared}{R:It->Hp->Prop}{E:Value->Shared->Prop}{lo hi:Int}{t u v:Tok}{tk:Nat}(I:Inv X pins σ H s) (h1 : -(2 ^ 62)<=lo) (h2:lo<2 ^ 62) (h3 : -(2 ^ 62)<=hi) (h4:hi<2 ^ 62)
 (q:R (pZ lo (hi-lo).toNat) H):wpAny (model X.prog X.w) X.A (pyIter (.ref s.heap.objs.size)) (IA X pins σ tg R) E { s with heap:=s.heap.push { cls:=.type "range",data:=.fields #[.int lo t,.int hi u,.int 1 v] },toks:=tk }:=by
 refine wpAny_pyIter_range (IsRange.new ..) (small_one h1 h2 h3 h4) ?_
 have I1:Inv X pins σ H { s with heap:=s.heap.push { cls:=.type "range",data:=.fields #[.int lo t,.int hi u,.int 1 v] },toks:=tk }:=I.kept λb o e=>Heap.get?_push_of_some _ e
 refine ⟨(s.heap.push { cls:=.type "range",data:=.fields #[.int lo t,.int hi u,.int 1 v] }).objs.size,[(s.heap.push { cls:=.type "range",data:=.fields #[.int lo t,.int hi u,.int 1 v] }).objs.size],_,_,H,rfl,
  I1.kept (t':=tk) λb o e=>Heap.get?_push_of_some _ e,wz _ lo (hi-lo).toNat,?_,λb hb=>?_,q⟩
 . have e1:lo+((0:Nat):Int)*1=lo:=by simp
   have e2:(((hi-lo).toNat:Nat):Int)-((0:Nat):Int)=Builtin.Range.rangeSize lo hi 1:=by rw [rangeSize_one]; split <;> omega
   show IsRangeIter _ _ (lo+((0:Nat):Int)*1) ((((hi-lo).toNat:Nat):Int)-((0:Nat):Int)) 1
   rw [e1,e2]
   exact Heap.get?_push_size _ rfl
 . have e:b=(s.heap.push { cls:=.type "range",data:=.fields #[.int lo t,.int hi u,.int 1 v] }).objs.size:=by simpa using hb
   subst e
   exact I1.pE (Nat.le_refl _) (I1.hok.fresh (Nat.le_refl _))
def Gz (ta:TA):TI:=λσ H R=>ta σ H λvs H1=>∃j:Int,vs=[.int j] /\ -(2 ^ 62)<=j/\j<2 ^ 62/\R (pZ 0 j.toNat) H1
def GA (ta:TA):TI:=λσ H R=>ta σ H λvs H1=>∃i j:Int,vs=[.int i,.int j]/\(-(2 ^ 62)<=i/\i<2 ^ 62 /\ -(2 ^ 62)<=j/\j<2 ^ 62)/\R (pZ i (j-i).toNat) H1
theorem cV {a:Expr}{ta:TA}{p pos:Pos}(hg:Gl X "range") (hm:X.mg "range" = none) (ha:PA X [a] ta) (hs:starEach [a] X.env=[(false,eval a X.env)]:=by rfl):PI X tg (.Call (.Name "range" p) [a] [] pos) (Gz ta):=by
 intro pins s σ H R I h
 refine Call_ (fG I hg hm boot_range (PyProof.Rows.callWith_type1 (aG (ha pos pins s σ H _ I h) λus s1 ⟨vs,H1,I1,r1,q1⟩=>?_) hs rfl))
 obtain ⟨j,e,q1,q2,q⟩:=q1
 subst e
 cases r1 with
 | cons r rr=>
  cases rr
  obtain ⟨t,rfl⟩:=r
  exact call_range_1 (rK I1 (by omega) (by omega) q1 q2 (by simpa using q))
theorem qa {a b:Expr}{ta:TA}{p pos:Pos}(hg:Gl X "range") (hm:X.mg "range" = none) (ha:PA X [a,b] ta) (hs:starEach [a,b] X.env=[(false,eval a X.env),(false,eval b X.env)]:=by rfl) (ir:starEach [b] X.env=[(false,eval b X.env)]:=by rfl) :
 PI X tg (.Call (.Name "range" p) [a,b] [] pos) (GA ta):=by
 intro pins s σ H R I h
 refine Call_ (fG I hg hm boot_range (PyProof.Rows.callWith_type1 (aG (ha pos pins s σ H _ I h) λus s1 ⟨vs,H1,I1,r1,q1⟩=>?_) (by rw [hs,ir]) (by rw [ir]; rfl)))
 obtain ⟨i,j,e,⟨q1,q2,q3,q4⟩,q⟩:=q1
 subst e
 cases r1 with
 | cons r rr=>
  cases rr with
  | cons r' rr=>
   cases rr
   obtain ⟨t,rfl⟩:=r
   obtain ⟨t',rfl⟩:=r'
   exact call_range_2 (rK I1 q1 q2 q3 q4 q)
def KO (wi:TI) (g:TG) (tb:TS):TS:=λD σ H=>wi σ H λJ H1=>∃W:Nat->Nat->St->Hp->Prop,(∃m,W 0 m σ H1)/\∀i m σ H,W i m σ H->
 (J.stop i H/\D.nx σ H)\/(J.go i H/\∃N:St->Hp->Prop,(∀bG H',N bG H'->∃m',m'<m/\W (i+1) m' bG H')/\∀x H',J.yld i H x H'->g x σ H' λgi H2=>tb { D with nx:=N,ct:=N,bk:=D.nx } gi H2)
def kY (fp:List Addr) (h:Heap):List (Addr×Obj):=fp.filterMap λb=>(h.get? b).map λo=>(b,o)
theorem iB {fp:List Addr}{h:Heap}{b:Addr}{o:Obj}(hb:b∈fp) (e:h.get? b=some o):(b,o)∈kY fp h:=List.mem_filterMap.mpr ⟨b,hb,by rw [e]; rfl⟩
theorem xJ {fp:List Addr}{h:Heap}{p:Addr×Obj}(hp:p∈kY fp h):p.1∈fp/\h.get? p.1=some p.2:=by
 obtain ⟨b,hb,e⟩:=List.mem_filterMap.mp hp
 cases q:h.get? b with
 | none=>rw [q] at e; cases e
 | some o=>
  rw [q] at e
  have e':(b,o)=p:=Option.some.inj e
  subst e'
  exact ⟨hb,q⟩
theorem Inv.pinned {pins:List (Addr×Obj)}{σ:St}{H:Hp}{s:Shared}{fp:List Addr}(I:Inv X pins σ H s) (hf:∀b∈fp,fi X pins H b) (ho:∀b∈fp,∃o,s.heap.get? b=some o/\∀v,o.data≠.cell v):Inv X (pins++kY fp s.heap) σ H s:=
 I.u3 λp hp=>(List.mem_append.mp hp).elim (λz=>I.pin p (List.mem_append_right _ z)) λz=>by
  obtain ⟨hb,e⟩:=xJ z
  obtain ⟨f0,f1,f2,_⟩:=hf p.1 hb
  obtain ⟨o,e',d⟩:=ho p.1 hb
  rw [e] at e'; cases e'
  exact ⟨e,f0,f1,f2,d⟩
theorem Inv.jR {pins pl:List (Addr×Obj)}{σ:St}{H:Hp}{s:Shared}(I:Inv X (pins++pl) σ H s):Inv X pins σ H s:=I.u3 λp hp=>I.pin p (List.mem_append_right _ (List.mem_append_left _ hp))
theorem fJ {iter:Expr}{body:List Stmt}{wi:TI}{g:TG}{tb:TS}{pos:Pos}(hp:PassesOwn (model X.prog X.w) X.A X.env X.xe) (hc:X.calm=true) (hi:PI X tg iter wi) (hg:PG X tg g) (hb:iq X body tb)
 (hs:∀x,foldedSetIterable iter X.env x=pure x:=by intro _; rfl):PS X (.For tg iter body [] pos) (KO wi g tb):=by
 intro pins s σ H D I h
 refine wpAny_For (aG (hi pins s σ H _ I h) λv s1 h1=>aG h1 λDj s2 h2=>?_) hs
 obtain ⟨it,fp,tn,J,H2,e,I2,T,i6,f2,W,⟨m0,w0⟩,turn⟩:=h2
 subst e
 have zG:∀{H':Hp},(∀b∈fp,H' b=none)->∀b∈fp,fi X pins H' b:=λhn b hb=>⟨hn b hb,(f2 b hb).2⟩
 refine codeAny_forLoop_any (λn s'=>∃i bG H',Inv X pins bG H' s'/\tn i s'.heap/\(∀b∈fp,H' b=none)/\W i n bG H') ?_ m0 ⟨0,σ,H2,I2,i6,λb hb=>(f2 b hb).1,w0⟩
 rintro n s3 ⟨i,rJ,H3,I3,IB,IC,w3⟩
 rcases turn i n rJ H3 w3 with ⟨stop,qn⟩ | ⟨go,N,hN,step⟩
 . refine wpAny_passesOwn hp (aG (T.done X rfl rfl rfl hc i pins s3 rJ H3 X.xe I3 (zG IC) IB stop) λr s4 ⟨hr,I4⟩=>?_)
   subst hr
   exact wpAny_execs_nil ⟨rJ,H3,I4,qn⟩
 . refine wpAny_passesOwn hp (aG (T.item X rfl rfl rfl hc i pins s3 rJ H3 X.xe I3 (zG IC) IB go) λr s4 ⟨u,hr,h4⟩=>?_)
   subst hr
   refine wpAny_passesOwn hp (aG h4 λ_ s5 ⟨x,H5,I5,r5,y5,u6,AJ⟩=>?_)
   have NU:=I5.pinned (zG AJ) (T.obj _ _ u6)
   refine wpAny_passesOwn hp (aG (hg _ s5 rJ H5 x u _ NU r5 (step x H5 y5)) λ_ s6 ⟨RL,H6,I6,q6⟩=>?_)
   refine wpAny_passesOwn hp (aG (hb _ s6 RL H6 _ I6 q6) λf s7 q7=>?_)
   have again:∀{rL:St}{H7:Hp},Inv X (pins++kY fp s5.heap) rL H7 s7->N rL H7->∃m,m<n/\∃i bG H',Inv X pins bG H' s7/\tn i s7.heap/\(∀b∈fp,H' b=none)/\W i m bG H':=λ{rL H7} I7 n7=>by
    obtain ⟨m',hm,w7⟩:=hN rL H7 n7
    refine ⟨m',hm,i+1,rL,H7,I7.jR,T.keep _ _ _ u6 λb hb o e=>(I7.pin (b,o) (List.mem_append_right _ (List.mem_append_right _ (iB hb e)))).1,λb hb=>?_,w7⟩
    obtain ⟨o,e,d⟩:=T.obj _ _ u6 b hb
    exact (I7.pin (b,o) (List.mem_append_right _ (List.mem_append_right _ (iB hb e)))).2.1
   cases f with
   | next=>obtain ⟨rL,H7,I7,n7⟩:=q7; exact again I7 n7
   | cont=>obtain ⟨rL,H7,I7,n7⟩:=q7; exact again I7 n7
   | brk=>obtain ⟨rL,H7,I7,q7⟩:=q7; exact ⟨rL,H7,I7.jR,q7⟩
   | ret v=>obtain ⟨x7,rL,H7,I7,r7,q7⟩:=q7; exact ⟨x7,rL,H7,I7.jR,r7,q7⟩
end
theorem fm {lo:Int}{n:Nat}{g:TG}{tb:TS}{D:Ends}{σ:St}{H:Hp}(Pv:Nat->St->Hp->Prop) (h0:Pv 0 σ H)
 (hs:∀i σ H,i<n->Pv i σ H->g (.int (lo+i)) σ H λgi H2=>tb { D with nx:=Pv (i+1),ct:=Pv (i+1),bk:=D.nx } gi H2) (hd:∀σ H,Pv n σ H->D.nx σ H) :
 ∃W:Nat->Nat->St->Hp->Prop,(∃m,W 0 m σ H)/\∀i m σ H,W i m σ H->
  ((pZ lo n).stop i H/\D.nx σ H)\/((pZ lo n).go i H/\∃N:St->Hp->Prop,(∀bG H',N bG H'->∃m',m'<m/\W (i+1) m' bG H')/\∀x H',(pZ lo n).yld i H x H'->g x σ H' λgi H2=>tb { D with nx:=N,ct:=N,bk:=D.nx } gi H2):=by
 refine ⟨λi m σ H=>m=n-i/\i<=n/\Pv i σ H,⟨n,by simp,Nat.zero_le _,h0⟩,?_⟩
 rintro i m σ H ⟨rfl,hi,p⟩
 by_cases eG:i<n
 . refine .inr ⟨eG,Pv (i+1),λbG H' p'=>⟨n-(i+1),by omega,rfl,eG,p'⟩,λx H' y=>?_⟩
   obtain ⟨e,y⟩:=y
   subst e y
   exact hs i σ _ eG p
 . have e:i=n:=by omega
   subst e
   exact .inl ⟨Nat.le_refl _,hd σ H p⟩
end L2
namespace L2
open PySem PySem.Spec PyProof.Rows
abbrev R2:=V->V->Hp->VK->Prop
def dG (X:Cx) (f:Value->Value->Sem Value) (r:R2):Prop:=
 ∀(pins:List (Addr×Obj)) (s:Shared) (σ:St) (H:Hp) (x y:V) (v u:Value) (Q:VK),Inv X pins σ H s->RelV x v->RelV y u->r x y H Q->
  wpAny (model X.prog X.w) X.A (f v u) (EP X pins σ Q) X.xe s
def ff (X:Cx) (f:Value) (r:List V->Hp->VK->Prop):Prop:=
 ∀(pins:List (Addr×Obj)) (s:Shared) (σ:St) (H:Hp) (xs:List V) (us:List Value) (Q:VK),Inv X pins σ H s->Vals xs us->r xs H Q->
  wpAny (model X.prog X.w) X.A (call f us) (EP X pins σ Q) X.xe s
def rM (r:R2) (ta tb:TE):TE:=λσ H Q=>ta σ H λx H1=>tb σ H1 λy H2=>r x y H2 Q
def rI (C:Int->Int->Prop) (g:Int->Int->V):R2:=λx y H Q=>∃i j,x=.int i/\y=.int j/\C i j/\Q (g i j) H
def u7 (g:Int->Int->V):R2:=λx y H Q=>∃i j,x=.int i/\y=.int j/\Q (g i j) H
section
variable {X:Cx}{a b c:Expr}{ta tb tc:TE}{pos:Pos}
theorem zH (ha:PE X a ta) (hb:PE X b tb){pins:List (Addr×Obj)}{s:Shared}{σ:St}{H:Hp}{R:V->V->Hp->Prop}(I:Inv X pins σ H s)
 (h:ta σ H λx H1=>tb σ H1 λy H2=>R x y H2){Q:Value->Shared->Prop}{f:Value->Value->Sem Value}
 (hf:∀v u s2 x y H2,Inv X pins σ H2 s2->RelV x v->RelV y u->R x y H2->wpAny (model X.prog X.w) X.A (f v u) Q X.xe s2) :
 wpAny (model X.prog X.w) X.A (eval a X.env) (λv cz=>wpAny (model X.prog X.w) X.A (eval b X.env) (λu pD=>wpAny (model X.prog X.w) X.A (f v u) Q X.xe pD) X.xe cz) X.xe s:=by
 refine aG (ha pins s σ H _ I h) λv s1 ⟨x,H1,I1,r1,q1⟩=>?_
 refine aG (hb pins s1 σ H1 _ I1 q1) λu s2 ⟨y,H2,I2,r2,q2⟩=>?_
 exact hf v u s2 x y H2 I2 r1 r2 q2
theorem aO {op:Operator}{r:R2}(ho:dG X (binaryOp op) r) (ha:PE X a ta) (hb:PE X b tb):PE X (.BinOp a op b pos) (rM r ta tb):=by
 intro pins s σ H Q I h
 exact wpAny_BinOp (zH ha hb I h λv u s2 x y H2 I2 rx ry q=>ho pins s2 σ H2 x y v u Q I2 rx ry q)
theorem xK {f:Value->Value->Sem Value}{C:Int->Int->Prop}{g:Int->Int->Int}
 (rule:∀(i j:Int) (t u:Tok) (s:Shared) (Q:Value->Shared->Prop) (E:Value->Shared->Prop),C i j->Q (.int (g i j) s.toks) { s with toks:=s.toks+1 } -> wpAny (model X.prog X.w) X.A (f (.int i t) (.int j u)) Q E s) :
 dG X f (rI C λi j=>.int (g i j)):=by
 intro pins s σ H x y v u Q I rx ry h
 obtain ⟨i,j,rfl,rfl,hc,q⟩:=h
 obtain ⟨t,rfl⟩:=rx
 obtain ⟨t',rfl⟩:=ry
 exact rule i j t t' s _ _ hc ⟨.int (g i j),H,I.tok _,⟨_,rfl⟩,q⟩
theorem Dk {f:Value->Value->Sem Value}{g:Int->Int->Int}
 (rule:∀(i j:Int) (t u:Tok) (s:Shared) (Q:Value->Shared->Prop) (E:Value->Shared->Prop),Q (.int (g i j) s.toks) { s with toks:=s.toks+1 } -> wpAny (model X.prog X.w) X.A (f (.int i t) (.int j u)) Q E s) :
 dG X f (u7 λi j=>.int (g i j)):=by
 intro pins s σ H x y v u Q I rx ry h
 obtain ⟨i,j,rfl,rfl,q⟩:=h
 obtain ⟨t,rfl⟩:=rx
 obtain ⟨t',rfl⟩:=ry
 exact rule i j t t' s _ _ ⟨.int (g i j),H,I.tok _,⟨_,rfl⟩,q⟩
theorem Dl {f:Value->Value->Sem Value}{g:Int->Int->Bool}
 (rule:∀(i j:Int) (t u:Tok) (s:Shared) (Q:Value->Shared->Prop) (E:Value->Shared->Prop),Q (.bool (g i j)) s->wpAny (model X.prog X.w) X.A (f (.int i t) (.int j u)) Q E s) :
 dG X f (u7 λi j=>.bl (g i j)):=by
 intro pins s σ H x y v u Q I rx ry h
 obtain ⟨i,j,rfl,rfl,q⟩:=h
 obtain ⟨t,rfl⟩:=rx
 obtain ⟨t',rfl⟩:=ry
 exact rule i j t t' s _ _ ⟨.bl (g i j),H,I,rfl,q⟩
def KP (i j:Int):Prop:=0<j/\j<1073741824
def KQ (i j:Int):Prop:=0<=j/\j<=1000000/\i.natAbs<2 ^ 64
def zI (i j:Int):Prop:=(-(2 ^ 64)<i/\i<2 ^ 64)\/(-(2 ^ 64)<j/\j<2 ^ 64)
theorem zI.ok {i j:Int}(h:zI i j):IntMulOk i j:=by
 rcases h with ⟨h1,h2⟩ | ⟨h1,h2⟩
 . exact .of_left (intBits_le_64 h1 h2)
 . exact .of_right (intBits_le_64 h1 h2)
theorem wA (k:Nat):(0:Int)<=2 ^ k:=by
 rw [two_pow_cast]
 exact Int.natCast_nonneg _
theorem gL:dG X (binaryOp .Add) (u7 λi j=>.int (i+j)):=Dk λ_ _ _ _ _ _ _ q=>add_int q
theorem jy:dG X (binaryOp .Mult) (rI zI λi j=>.int (i*j)):=xK λ_ _ _ _ _ _ _ hc q=>mul_int q hc.ok
theorem lU:dG X (binaryOp .FloorDiv) (rI KP λi j=>.int (i / j)):=xK λi j _ _ _ _ _ hc q=>by
 have h1:(0:Int)<j:=hc.1
 have h2:j<1073741824:=hc.2
 exact floordiv_int (by omega) (by rw [Int.fdiv_eq_ediv_of_nonneg i (by omega)]; exact q) (.inl (PyProof.noPylong_small (by omega)))
theorem gM:dG X (binaryOp .Mod) (rI (λ_ j=>0<j) λi j=>.int (i % j)):=xK λi j _ _ _ _ _ hc q=>by
 have h1:(0:Int)<j:=hc
 exact mod_int' (by omega) (by rw [Int.fmod_eq_emod_of_nonneg i (by omega)]; exact q)
theorem xM:dG X (binaryOp .LShift) (rI KQ λi j=>.int (i*2 ^ j.toNat)):=xK λ_ _ _ _ _ _ _ hc q=>lshift_int_small hc.1 hc.2.1 hc.2.2 q
theorem Dm:dG X (binaryOp .RShift) (rI (λ_ j=>0<=j) λi j=>.int (i / 2 ^ j.toNat)):=xK λi j _ _ _ _ _ hc q=>
 rshift_int hc (by rw [Int.fdiv_eq_ediv_of_nonneg i (wA _)]; exact q)
theorem Dn:dG X (binaryOp .BitAnd) (u7 λi j=>.int (Builtin.bitAnd i j)):=Dk λ_ _ _ _ _ _ _ q=>and_int q
end
def Dq:V->V->Bool
 | .aS,.aS=>true | .aS,.int _=>true | .int _,.aS=>true | .aS,.bl _=>true | .bl _,.aS=>true | .aS,.str _=>true | .str _,.aS=>true
 | .int _,.int _=>true | .bl _,.bl _=>true | .str _,.str _=>true | .jt _,.jt _=>true
 | .int _,.str _=>true | .str _,.int _=>true | .bl _,.str _=>true | .str _,.bl _=>true
 | _,_=>false
def NV:R2:=λx y H Q=>Dq x y=true/\Q (.bl (decide (x=y))) H
def NW:R2:=λx y H Q=>Dq x y=true/\Q (.bl (!decide (x=y))) H
theorem u9 {i j:Int} : decide (V.int i=V.int j)=(i == j):=by
 rw [Bool.eq_iff_iff]
 simp
theorem xN {i j:Bool} : decide (V.bl i=V.bl j)=(i == j):=by
 rw [Bool.eq_iff_iff]
 simp
theorem va {i j:Str} : decide (V.str i=V.str j)=(i == j):=by
 rw [Bool.eq_iff_iff]
 simp
theorem vb {i j:Array UInt8} : decide (V.jt i=V.jt j)=(i.toList == j.toList):=by
 rw [Bool.eq_iff_iff]
 cases i
 cases j
 simp
section
variable {X:Cx}{a b c:Expr}{ta tb tc:TE}{pos:Pos}
theorem bb {pins:List (Addr×Obj)}{σ:St}{H:Hp}{s:Shared}{Q:VK}{k k':Bool}(I:Inv X pins σ H s) (q:Q (.bl k) H) (e:k=k'):EP X pins σ Q (.bool k') s:=by
 subst e
 exact ⟨.bl k,H,I,rfl,q⟩
theorem dq:dG X (compareOp .Eq) NV:=by
 intro pins s σ H x y v u Q I rx ry h
 obtain ⟨hs,q⟩:=h
 cases x with
 | aS=>
  cases rx
  cases y with
  | aS=>cases ry; exact PySem.EqNone.eq_none_none (bb I q (by simp))
  | bl j=>cases ry; exact PySem.EqNone.eq_none_bool (bb I q (by simp))
  | int j=>obtain ⟨t',rfl⟩:=ry; exact PySem.EqNone.eq_none_int (bb I q (by simp))
  | str j=>obtain ⟨t',rfl⟩:=ry; exact PySem.EqNone.eq_none_str (bb I q (by simp))
  | _=>exact absurd (show false=true from hs) Bool.false_ne_true
 | bl i=>
  cases rx
  cases y with
  | aS=>cases ry; exact PySem.EqNone.eq_bool_none (bb I q (by simp))
  | bl j=>cases ry; exact eq_bool (bb I q xN)
  | str j=>obtain ⟨t',rfl⟩:=ry; exact PySem.EqMixed.eq_bool_str (bb I q (by simp))
  | _=>exact absurd (show false=true from hs) Bool.false_ne_true
 | int i=>
  obtain ⟨t,rfl⟩:=rx
  cases y with
  | aS=>cases ry; exact PySem.EqNone.eq_int_none (bb I q (by simp))
  | int j=>obtain ⟨t',rfl⟩:=ry; exact eq_int (bb I q u9)
  | str j=>obtain ⟨t',rfl⟩:=ry; exact PySem.EqMixed.eq_int_str (bb I q (by simp))
  | _=>exact absurd (show false=true from hs) Bool.false_ne_true
 | str i=>
  obtain ⟨t,rfl⟩:=rx
  cases y with
  | aS=>cases ry; exact PySem.EqNone.eq_str_none (bb I q (by simp))
  | bl j=>cases ry; exact PySem.EqMixed.eq_str_bool (bb I q (by simp))
  | int j=>obtain ⟨t',rfl⟩:=ry; exact PySem.EqMixed.eq_str_int (bb I q (by simp))
  | str j=>obtain ⟨t',rfl⟩:=ry; exact eq_str (bb I q va)
  | _=>exact absurd (show false=true from hs) Bool.false_ne_true
 | jt i=>
  obtain ⟨t,rfl⟩:=rx
  cases y with
  | jt j=>obtain ⟨t',rfl⟩:=ry; exact W.eq_bytes (bb I q vb)
  | _=>exact absurd (show false=true from hs) Bool.false_ne_true
 | _=>cases y <;> exact absurd (show false=true from hs) Bool.false_ne_true
theorem qV:dG X (compareOp .NotEq) NW:=by
 intro pins s σ H x y v u Q I rx ry h
 obtain ⟨hs,q⟩:=h
 cases x with
 | aS=>
  cases rx
  cases y with
  | aS=>cases ry; exact PySem.EqNone.ne_none_none (bb I q (by simp))
  | bl j=>cases ry; exact PySem.EqNone.ne_none_bool (bb I q (by simp))
  | int j=>obtain ⟨t',rfl⟩:=ry; exact PySem.EqNone.ne_none_int (bb I q (by simp))
  | str j=>obtain ⟨t',rfl⟩:=ry; exact PySem.EqNone.ne_none_str (bb I q (by simp))
  | _=>exact absurd (show false=true from hs) Bool.false_ne_true
 | bl i=>
  cases rx
  cases y with
  | aS=>cases ry; exact PySem.EqNone.ne_bool_none (bb I q (by simp))
  | bl j=>cases ry; exact ne_bool (bb I q (congrArg not xN))
  | str j=>obtain ⟨t',rfl⟩:=ry; exact PySem.EqMixed.ne_bool_str (bb I q (by simp))
  | _=>exact absurd (show false=true from hs) Bool.false_ne_true
 | int i=>
  obtain ⟨t,rfl⟩:=rx
  cases y with
  | aS=>cases ry; exact PySem.EqNone.ne_int_none (bb I q (by simp))
  | int j=>obtain ⟨t',rfl⟩:=ry; exact ne_int (bb I q (congrArg not u9))
  | str j=>obtain ⟨t',rfl⟩:=ry; exact PySem.EqMixed.ne_int_str (bb I q (by simp))
  | _=>exact absurd (show false=true from hs) Bool.false_ne_true
 | str i=>
  obtain ⟨t,rfl⟩:=rx
  cases y with
  | aS=>cases ry; exact PySem.EqNone.ne_str_none (bb I q (by simp))
  | bl j=>cases ry; exact PySem.EqMixed.ne_str_bool (bb I q (by simp))
  | int j=>obtain ⟨t',rfl⟩:=ry; exact PySem.EqMixed.ne_str_int (bb I q (by simp))
  | str j=>obtain ⟨t',rfl⟩:=ry; exact ne_str (bb I q (congrArg not va))
  | _=>exact absurd (show false=true from hs) Bool.false_ne_true
 | jt i=>
  obtain ⟨t,rfl⟩:=rx
  cases y with
  | jt j=>obtain ⟨t',rfl⟩:=ry; exact W.ne_bytes (bb I q (congrArg not vb))
  | _=>exact absurd (show false=true from hs) Bool.false_ne_true
 | _=>cases y <;> exact absurd (show false=true from hs) Bool.false_ne_true
theorem wB:dG X (compareOp .Lt) (u7 λi j=>.bl (decide (i<j))):=Dl λ_ _ _ _ _ _ _ q=>lt_int q
theorem GB:dG X (compareOp .Gt) (u7 λi j=>.bl (decide (j<i))):=Dl λ_ _ _ _ _ _ _ q=>gt_int q
theorem bL (b:Expr){op:CmpOp}(h:op≠.In:=by decide) (h2:op≠.NotIn:=by decide):behindInMarks op b=false:=by
 have e1:(op == CmpOp.In)=false:=by cases op <;> first | rfl | exact absurd rfl h
 have e2:(op == CmpOp.NotIn)=false:=by cases op <;> first | rfl | exact absurd rfl h2
 cases b <;> simp [behindInMarks,e1,e2]
theorem jz {op:CmpOp}{r:R2}(ho:dG X (compareOp op) r) (ha:PE X a ta) (hb:PE X b tb) (hm:behindInMarks op b=false):PE X (.Compare a [op] [b] pos) (rM r ta tb):=by
 intro pins s σ H Q I h
 exact wpAny_Compare1 (zH ha hb I h λv u s2 x y H2 I2 rx ry q=>ho pins s2 σ H2 x y v u Q I2 rx ry q) hm
def AK (t:TE):TT:=λσ H Q=>t σ H λx H'=>∃k,x=.bl k/\Q k H'
theorem bz {op:CmpOp}{r:R2}(ho:dG X (compareOp op) r) (ha:PE X a ta) (hb:PE X b tb) (hm:behindInMarks op b=false):PT X (.Compare a [op] [b] pos) (AK (rM r ta tb)):=by
 intro pins s σ H Q I h
 refine wpAny_isTrue_Compare1 (aG (ha pins s σ H _ I h) λv s1 ⟨x,H1,I1,r1,q1⟩=>aG (hb pins s1 σ H1 _ I1 q1) λu s2 ⟨y,H2,I2,r2,q2⟩=>
  aG (ho pins s2 σ H2 x y v u _ I2 r1 r2 q2) λc s3 ⟨z,H3,I3,r3,k,e,q3⟩=>?_) hm
 subst e
 cases r3
 exact wpAny_truthy_bool ⟨H3,I3,q3⟩
theorem kZ:(sizeLine:Nat)<2 ^ 63:=by rw [sizeLine_eq]; decide
theorem dr:dG X (binaryOp .Add) (λx y H Q=>∃i j,x=.str i/\y=.str j/\i.length+j.length<=sizeLine/\Q (.str (i++j)) H):=by
 intro pins s σ H x y v u Q I rx ry h
 obtain ⟨i,j,rfl,rfl,hz,q⟩:=h
 obtain ⟨t,rfl⟩:=rx
 obtain ⟨t',rfl⟩:=ry
 exact add_str (λt' tk=>⟨.str (i++j),H,I.tok _,⟨_,rfl⟩,q⟩) hz
theorem vals1 {x:V}{us:List Value}(r:Vals [x] us):∃u,us=[u]/\RelV x u:=by
 cases r with
 | cons r1 r2=>cases r2; exact ⟨_,rfl,r1⟩
theorem vals2 {x y:V}{us:List Value}(r:Vals [x,y] us):∃u w',us=[u,w']/\RelV x u/\RelV y w':=by
 cases r with
 | cons r1 r2=>
  cases r2 with
  | cons r3 r4=>cases r4; exact ⟨_,_,rfl,r1,r3⟩
theorem xO (hc:X.calm=true):ff X (.builtin "min") (λxs H Q=>∃i j,xs=[.int i,.int j]/\Q (.int (if j<i then j else i)) H):=by
 intro pins s σ H xs us Q I r h
 obtain ⟨i,j,rfl,q⟩:=h
 obtain ⟨u,w',rfl,⟨t,rfl⟩,⟨t',rfl⟩⟩:=vals2 r
 refine min_two_ints (I.ok.hd hc) λh' tk k=>⟨_,H,I.kept k,?_,q⟩
 by_cases hj:j<i
 . rw [if_pos hj,if_pos hj]; exact ⟨_,rfl⟩
 . rw [if_neg hj,if_neg hj]; exact ⟨_,rfl⟩
theorem xP:ff X (.type "int") (λxs H Q=>(∃i,xs=[.int i]/\Q (.int i) H)\/∃k,xs=[.bl k]/\Q (.int (if k then 1 else 0)) H):=by
 intro pins s σ H xs us Q I r h
 rcases h with ⟨i,rfl,q⟩ | ⟨k,rfl,q⟩
 . obtain ⟨u,rfl,t,rfl⟩:=vals1 r
   exact call_int_int ⟨.int i,H,I,⟨_,rfl⟩,q⟩
 . obtain ⟨u,rfl,r1⟩:=vals1 r
   cases r1
   exact call_int_bool ⟨.int (if k then 1 else 0),H,I.tok _,⟨_,rfl⟩,q⟩
end
end L2
namespace L2
open PySem PySem.Spec PyProof.Rows
structure nq (h:Heap) (x dx C:Addr) (mA:Str->Option Value):Prop where
 obj:h.get? x=some (W.instObj C dx)
 ns:h.Ns1 dx mA
 ne:dx≠x
theorem xQ {h:Heap}{dx:Addr}{mA:Str->Option Value}(n:h.Ns1 dx mA):∃od,h.get? dx=some od/\∀name,W.lookIn name od=some (mA name):=by
 obtain ⟨o,es,ep,ho,hd,hk,_,hm⟩:=n
 refine ⟨o,ho,λname=>?_⟩
 have e:=hm name
 unfold nsFind findBy at e
 rw [← Array.find?_toList] at e
 unfold W.lookIn
 rw [hd]
 dsimp only
 split
 . rename_i y q
   rw [q] at e
   exact congrArg some e
 . rename_i q
   rw [q] at e
   have a:es.toList.any (·.refKey)=false:=by
    rw [List.any_eq_false]
    intro y hy
    obtain ⟨z,t,cU⟩:=hk y (Array.mem_toList_iff.mp hy)
    simp [DictEntry.refKey,cU]
   have a':¬ es.toList.any (·.refKey)=true:=by rw [a]; exact Bool.false_ne_true
   rw [if_neg a']
   exact congrArg some e
theorem nq.look {h:Heap}{x dx C:Addr}{mA:Str->Option Value}(I:nq h x dx C mA):∃od,W.InstAt h x (W.instObj C dx) C (some od)/\∀name,W.lookIn name od=some (mA name):=
 let ⟨od,ho,hl⟩:=xQ I.ns
 ⟨od,⟨I.obj,rfl,rfl,ho⟩,hl⟩
section
variable {prog:Program}{w:World}{A:Around}{E:Value->Shared->Prop}{s:Shared}{K:W.Frag}{x dx C f:Addr}{mA:Str->Option Value}{name:Str}{v:Value}
theorem get_map {expr:Bool}{Q:Value->Shared->Prop}(X:K.In s.heap) (I:nq s.heap x dx C mA) (hg:W.plainGet K C name=true) (hh:W.hasDictIn K C=true)
 (ha:W.findIn K (.ref C) name=some none) (hv:mA name=some v) (NX:W.handedIn v=true) (h:Q v { s with toks:=s.toks+1 }) :
 wpAny (model prog w) A (getAttr (.ref x) name expr) Q E s:=by
 obtain ⟨od,J,hl⟩:=I.look
 exact W.get_value X J (W.plainGet_of hg).1 (W.findObj_own hh ha rfl (by rw [hl,hv])) NX h
theorem zJ {pl:Sem Bool}{Q:Value×List Value->Shared->Prop}(X:K.In s.heap) (I:nq s.heap x dx C mA) (hg:W.plainGet K C name=true)
 (hf:W.findIn K (.ref C) name=some (some (.ref f))) (ht:W.isFn K (.ref f)=true) (hv:mA name=none) (h:Q (.ref f,[.ref x]) s) :
 wpAny (model prog w) A (getMethod (.ref x) name pl) Q E s:=by
 obtain ⟨od,J,hl⟩:=I.look
 exact W.method_fn X J (W.plainGet_of hg).1 (W.plainGet_of hg).2 hf (beq_iff_eq.mp ht) (by show (W.lookIn name od).map (·.isSome)=some false; rw [hl,hv]; rfl) h
theorem BV {ns:List Str}{Q:Unit->Shared->Prop}(X:K.In s.heap) (I:nq s.heap x dx C mA)
 (hs:W.findIn K (.ref C) "__setattr__" = some (some (.builtin "object.__setattr__"))) (hp:W.plainOver K C=true) (ht:W.takerIn K C name=some none) (hh:W.hasDictIn K C=true)
 (hw:PySem.Within mA ns) (hsz:ns.length<=sizeLine)
 (h:∀h',nq h' x dx C (λy=>if y=name then some v else mA y)->Heap.SameBut dx s.heap h'->Q () { s with heap:=h',toks:=s.toks+2 }) :
 wpAny (model prog w) A (setAttr (.ref x) name v) Q E s:=by
 obtain ⟨od,J,hl⟩:=I.look
 refine W.set_plain X J hs (W.osa_open (s:={ s with toks:=s.toks+1 }) (r:=none) X J hp ht λb=>?_)
 obtain ⟨cd,hc,hd'⟩:=W.any_some hh
 have hx:s.heap.get? x=some ⟨.ref C,some dx,.plain,#[]⟩:=I.obj
 refine wpAny_bind (wpAny_pure (wpAny_bind (wpAny_bind (wpAny_loadPart hx (wpAny_bind (W.Looks.here (s:={ s with toks:=s.toks+1 }) (W.looks_clsIn X hc) ?_))))))
 rw [hd']
 refine wpAny_pure (a:=some dx) (wpAny_bind (wpAny_pure (wpAny_bind ?_)))
 refine wpAny_nsSet1 (s:={ s with toks:=s.toks+1 }) I.ns λh' iJ ir=>?_
 obtain ⟨oD,RU,RV,NY,NZ,N0⟩:=iJ.count (PySem.Within.cons name v hw)
 refine wpAny_bind (wpAny_lookBehind NY (by rw [NZ]; exact pastItsLine_dict (Nat.le_trans N0 (by rw [List.length_cons]; omega))) ?_)
 exact wpAny_pure (h _ ⟨(ir.2 _ (Ne.symm I.ne)).trans I.obj,iJ,I.ne⟩ ir)
theorem zK {R:Result->Shared->Prop}{vs:List Value}{kw:List (Str×Value)}(X:K.In s.heap) (hm:W.makesIn K C=true)
 (hi:W.findIn K (.ref C) "__init__" = some (some (.ref f))) (hf:W.typeIn K (.ref f)=some (.type "function"))
 (h:codeAny (model prog w) (A.under (.builtin "type.__call__" ⟨.ref C::vs,kw⟩)) (.call (.ref f) ⟨.ref (s.heap.objs.size+1)::vs,kw⟩) (W.InitBack (s.heap.objs.size+1) R)
  { s with heap:=(s.heap.push W.emptyDict).push (W.instObj C s.heap.objs.size) }) :
 codeAny (model prog w) A (.call (.ref C) ⟨vs,kw⟩) R s:=by
 obtain ⟨hh,g,d,t,os⟩:=s
 exact W.make_core (W.makes_of X hm) (W.looks_findIn X hi) (λself=>W.bind_fn X self hf) (.inl rfl) h
end
def aw (f:Str) (v:V):List (Str×V)->List (Str×V)
 | []=>[(f,v)]
 | (g,x)::r=>if g=f then (g,v)::r else (g,x)::aw f v r
theorem aq (f g:Str) (v:V):∀fs:List (Str×V),(aw f v fs).lookup g=if g=f then some v else fs.lookup g
 | []=>by
  show List.lookup g [(f,v)]=_
  by_cases h:g=f
  . have hb:(g == f)=true:=beq_iff_eq.mpr h
    simp only [List.lookup,hb,if_pos h]
  . have hb:(g == f)=false:=beq_eq_false_iff_ne.mpr h
    simp only [List.lookup,hb,if_neg h]
 | (k,x)::r=>by
  have ih:=aq f g v r
  rw [show aw f v ((k,x)::r)=(if k=f then (k,v)::r else (k,x)::aw f v r) from rfl]
  by_cases hk:k=f
  . rw [if_pos hk]
    by_cases h:g=k
    . have hb:(g == k)=true:=beq_iff_eq.mpr h
      simp only [List.lookup,hb,if_pos (h.trans hk)]
    . have hb:(g == k)=false:=beq_eq_false_iff_ne.mpr h
      simp only [List.lookup,hb,if_neg (λe:g=f=>h (e.trans hk.symm))]
  . rw [if_neg hk]
    by_cases h:g=k
    . have hb:(g == k)=true:=beq_iff_eq.mpr h
      simp only [List.lookup,hb,if_neg (λe:g=f=>hk (h.symm.trans e))]
    . have hb:(g == k)=false:=beq_eq_false_iff_ne.mpr h
      simp only [List.lookup,hb]
      exact ih
theorem la (f:Str) (v:V):∀fs:List (Str×V),f∈(aw f v fs).map (·.1)/\∀g,g∈fs.map (·.1)->g∈(aw f v fs).map (·.1)
 | []=>⟨by simp [aw],λg h=>by simp at h⟩
 | (k,x)::r=>by
  obtain ⟨i1,i2⟩:=la f v r
  rw [show aw f v ((k,x)::r)=(if k=f then (k,v)::r else (k,x)::aw f v r) from rfl]
  by_cases hk:k=f
  . rw [if_pos hk]
    subst hk
    exact ⟨by simp,λg h=>by simpa using h⟩
  . rw [if_neg hk]
    refine ⟨?_,λg h=>?_⟩
    . rw [List.map_cons]
      exact List.mem_cons_of_mem _ i1
    . rw [List.map_cons] at h ⊢
      rcases List.mem_cons.mp h with e | e
      . exact List.mem_cons.mpr (.inl e)
      . exact List.mem_cons_of_mem _ (i2 g e)
theorem jh (f:Str) (v:V):∀fs:List (Str×V),(aw f v fs).length<=fs.length+1
 | []=>by simp [aw]
 | (k,x)::r=>by
  have ih:=jh f v r
  rw [show aw f v ((k,x)::r)=(if k=f then (k,v)::r else (k,x)::aw f v r) from rfl]
  by_cases hk:k=f
  . rw [if_pos hk,List.length_cons,List.length_cons]; omega
  . rw [if_neg hk,List.length_cons,List.length_cons]; omega
theorem dm.some_of {v:V}{o:Option Value}(r:dm (some v) o):∃u,o=some u/\RelV v u:=by
 cases o with
 | none=>exact (show False from r).elim
 | some u=>exact ⟨u,rfl,r⟩
theorem dm.none_of {o:Option Value}(r:dm none o):o=none:=by
 cases o with
 | none=>rfl
 | some u=>exact (show False from r).elim
theorem xR {v:V}{u:Value}(r:RelV v u):W.handedIn u=true:=by
 cases v with
 | aS=>cases (show u=Value.none from r); rfl
 | bl b=>cases (show u=Value.bool b from r); rfl
 | int i=>obtain ⟨t,e⟩:=(show ∃t,u=Value.int i t from r); cases e; rfl
 | str x=>obtain ⟨t,e⟩:=(show ∃t,u=Value.str x t from r); cases e; rfl
 | jt b=>obtain ⟨t,e⟩:=(show ∃t,u=Value.bytes b t from r); cases e; rfl
 | pX b=>obtain ⟨t,e⟩:=(show ∃t,u=Value.float b t from r); cases e; rfl
 | ref a=>cases (show u=Value.ref a from r); rfl
 | ty n=>cases (show u=Value.type n from r); rfl
section
variable {P:Program}{w:World}{H H':Hp}{h h':Heap}{a C dx:Addr}{fs fs':List (Str×V)}
theorem lV (hok:cN P w H h) (e:H a=some (.ins C dx fs)):∃mA,nq h a dx C mA/\(∀f,dm (fs.lookup f) (mA f))/\PySem.Within mA (fs.map (·.1))/\fs.length<=1000/\H dx=some (.own a):=by
 obtain ⟨d,z,ne,ob,mA,n,r,q⟩:=(show bh P w H h a (.ins C dx fs) from hok a _ e)
 exact ⟨mA,⟨ob,n,ne⟩,r,q,z,d⟩
end
structure lg (K:W.Frag) (C:Addr):Prop where
 pg:W.plainGet K C Str.empty=true
 hd:W.hasDictIn K C=true
 po:W.plainOver K C=true
 sa:W.findIn K (.ref C) "__setattr__" = some (some (.builtin "object.__setattr__"))
theorem lg.get {K:W.Frag}{C:Addr}(c:lg K C) (f:Str):W.plainGet K C f=true:=c.pg
def de (K:W.Frag) (C:Addr) (f:Str):Prop:=W.findIn K (.ref C) f=some none
theorem de.GC {K:W.Frag}{C:Addr}{f:Str}(n:de K C f):W.takerIn K C f=some none:=by
 unfold W.takerIn
 rw [show W.findIn K (.ref C) f=some none from n]
 rfl
structure Meth (K:W.Frag) (C:Addr) (m:Str) (f:Addr):Prop where
 at_:W.findIn K (.ref C) m=some (some (.ref f))
 fn:W.isFn K (.ref f)=true
 kp:W.keepIn K (.ref f)=true
section
variable {X:Cx}{pins:List (Addr×Obj)}{σ:St}{H:Hp}{s:Shared}{a C dx:Addr}{fs:List (Str×V)}{f:Str}{v:V}{A:Around}{E:Value->Shared->Prop}
theorem wC {b:Bool}{Q:Value->Shared->Prop}(I:Inv X pins σ H s) (e:H a=some (.ins C dx fs)) (c:lg X.K C) (n:de X.K C f) (l:fs.lookup f=some v)
 (h:∀u s',Inv X pins σ H s'->RelV v u->Q u s'):wpAny (model X.prog X.w) A (getAttr (.ref a) f b) Q E s:=by
 obtain ⟨mA,O,r,_,_,_⟩:=lV I.hok e
 obtain ⟨u,hu,ru⟩:=dm.some_of (v:=v) (o:=mA f) (by rw [← l]; exact r f)
 exact get_map I.d6 O (c.get f) c.hd n hu (xR ru) (h u _ (I.tok _) ru)
theorem oa {m:Str}{g:Addr}{pl:Sem Bool}{Q:Value×List Value->Shared->Prop}(I:Inv X pins σ H s) (e:H a=some (.ins C dx fs)) (c:lg X.K C) (k:Meth X.K C m g) (l:fs.lookup m=none)
 (h:Q (.ref g,[.ref a]) s):wpAny (model X.prog X.w) A (getMethod (.ref a) m pl) Q E s:=by
 obtain ⟨mA,O,r,_,_,_⟩:=lV I.hok e
 have hn:mA m=none:=dm.none_of (by rw [← l]; exact r m)
 exact zJ I.d6 O (c.get m) k.at_ k.fn hn h
theorem wD {y:V}{u:Value}{Q:Unit->Shared->Prop}(I:Inv X pins σ H s) (e:H a=some (.ins C dx fs)) (c:lg X.K C) (n:de X.K C f) (hl:fs.length<1000) (ry:RelV y u)
 (h:∀s',Inv X pins σ (upd H a (.ins C dx (aw f y fs))) s'->Q () s'):wpAny (model X.prog X.w) A (setAttr (.ref a) f u) Q E s:=by
 obtain ⟨mA,O,r,wi,_,ho⟩:=lV I.hok e
 have hz:(fs.map (·.1)).length<=sizeLine:=by rw [List.length_map,sizeLine_eq]; omega
 refine BV I.d6 O c.sa c.po n.GC c.hd wi hz λh' O' sb=>h _ ?_
 have hd:∃o,h'.get? dx=some o:=let ⟨o,_,_,e',_⟩:=O'.ns; ⟨o,e'⟩
 refine I.write (x:=a) (e:=dx) (by rw [e]; exact True.intro) (.inr ho) (λb q hb z=>(sb.2 b hb).trans z) hd ?_
 refine ⟨by rw [aj O.ne]; exact ho,?_,O.ne,O'.obj,_,O'.ns,λg=>?_,λg hg=>?_⟩
 . have:=jh f y fs; omega
 . show dm ((aw f y fs).lookup g) (if g=f then some u else mA g)
   rw [aq]
   by_cases q:g=f
   . rw [if_pos q,if_pos q]; exact ry
   . rw [if_neg q,if_neg q]; exact r g
 . by_cases q:g=f
   . rw [q]; exact (la f y fs).1
   . refine (la f y fs).2 g (wi g λz=>hg ?_)
     show (if g=f then some u else mA g)=none
     rw [if_neg q]; exact z
theorem Inv.made (I:Inv X pins σ H s):Inv X pins σ (upd (upd H s.heap.objs.size (.own (s.heap.objs.size+1))) (s.heap.objs.size+1) (.ins C s.heap.objs.size []))
 { s with heap:=(s.heap.push W.emptyDict).push (W.instObj C s.heap.objs.size) }:=by
 have e1:(s.heap.push W.emptyDict).get? s.heap.objs.size=some W.emptyDict:=Heap.get?_push_size s.heap rfl
 have e2:((s.heap.push W.emptyDict).push (W.instObj C s.heap.objs.size)).get? (s.heap.objs.size+1)=some (W.instObj C s.heap.objs.size):=by
  have:=Heap.get?_push_size (s.heap.push W.emptyDict) (o:=W.instObj C s.heap.objs.size) rfl
  rwa [Heap.size_push] at this
 have e3:(s.heap.push W.emptyDict).Ns s.heap.objs.size (λ_=>none):=⟨W.emptyDict,#[],_,e1,rfl,(λe he=>absurd he (by simp)),λ_=>rfl⟩
 have I1:=I.laid (a:=s.heap.objs.size) (o:=.own (s.heap.objs.size+1)) (h':=s.heap.push W.emptyDict) (t':=s.toks) (λb u q=>Heap.get?_push_of_some _ q) (Nat.le_refl _) ⟨_,e1⟩
 refine I1.laid (a:=s.heap.objs.size+1) (o:=.ins C s.heap.objs.size []) (t':=s.toks) (λb u q=>Heap.get?_push_of_some _ q) (Nat.le_of_eq (Heap.size_push _ _)) ?_
 have ne:s.heap.objs.size≠s.heap.objs.size+1:=Nat.ne_of_lt (Nat.lt_succ_self _)
 refine ⟨by rw [aj ne,ae],Nat.zero_le _,ne,e2,λ_=>none,(Heap.Ns1.of_empty e3).at λo q=>Heap.get?_push_of_some _ q,λ_=>True.intro,λy hy=>absurd rfl hy⟩
theorem BW {prog:Program}{w:World}{env:Env}{e:Expr}{f:Str}{pos:Pos}{s:Shared}{Q:Value->Shared->Prop}(hb:attributeBase e f env (eval e env)=eval e env)
 (h:wpAny (model prog w) A (eval e env) (λo cz=>wpAny (model prog w) A (getAttr o f true) Q E cz) E s):wpAny (model prog w) A (eval (.Attribute e f pos) env) Q E s:=
 Attribute_any_ h (by rw [arm_eval_Attribute,hb])
end
def KR (K:W.Frag) (ta:TE) (f:Str):TE:=λσ H Q=>ta σ H λx H1=>∃a C dx fs v,x=.ref a/\H1 a=some (.ins C dx fs)/\lg K C/\de K C f/\fs.lookup f=some v/\Q v H1
def KS (K:W.Frag) (ta tv:TE) (f:Str):TS:=λD σ H=>tv σ H λy H1=>ta σ H1 λx H2=>∃a C dx fs,x=.ref a/\H2 a=some (.ins C dx fs)/\lg K C/\de K C f/\fs.length<1000/\
 D.nx σ (upd H2 a (.ins C dx (aw f y fs)))
section
variable {X:Cx}{o e value:Expr}{f:Str}{pos pos' KU:Pos}{ta tv:TE}
theorem cA (he:PE X e ta) (hb:attributeBase e f X.env (eval e X.env)=eval e X.env):PE X (.Attribute e f pos) (KR X.K ta f):=by
 intro pins s σ H Q I h
 refine BW hb (aG (he pins s σ H _ I h) λu s1 ⟨x,H1,I1,rx,a,C,dx,fs,v,ex,ea,c,n,l,q⟩=>?_)
 subst ex
 obtain rfl:u=Value.ref a:=rx
 exact wC I1 ea c n l λu' s2 I2 ru=>⟨v,H1,I2,ru,q⟩
theorem iK (ha:PE X o ta) (hv:PE X value tv) (hs:swapsWith value (some (.Attribute o f pos')) pos.line X.env=pure false):PS X (.Assign [.Attribute o f pos'] value pos) (KS X.K ta tv f):=by
 intro pins s σ H D I h
 refine plainObj_wpAny_Assign_Attribute (aG (hv pins s σ H _ I h) λu s1 ⟨y,H1,I1,ry,q⟩=>aG (ha pins s1 σ H1 _ I1 q) λov s2 ⟨x,H2,I2,rx,a,C,dx,fs,ex,ea,c,n,l,q2⟩=>?_) hs
 subst ex
 obtain rfl:ov=Value.ref a:=rx
 exact wD I2 ea c n l ry λs3 I3=>⟨σ,_,I3,q2⟩
theorem Gs {pl:Sem Bool}{m:Str}{apos:Pos}{args:List Expr}{pins:List (Addr×Obj)}{s:Shared}{σ:St}{H:Hp}{Q:Value->Shared->Prop}{te:TE}(he:PE X e te) (I:Inv X pins σ H s)
 (h:te σ H λx H1=>∃a C dx fs g,x=.ref a/\H1 a=some (.ins C dx fs)/\lg X.K C/\Meth X.K C m g/\fs.lookup m=none/\
  ∀s1,Inv X pins σ H1 s1->wpAny (model X.prog X.w) X.A (callWith pos (.ref g) [.ref a] (backTo pos (starEach args X.env)) (backToKw pos (keywordEach [] X.env))) Q X.xe s1)
 (ht:eval (.Call (.Attribute e m apos) args [] pos) X.env=(do
  let ov ← eval e X.env
  standAt apos.atName
  let (f,first) ← holding [ov] (getMethod ov m pl)
  callWith pos f first (backTo pos (starEach args X.env)) (backToKw pos (keywordEach [] X.env)))) :
 wpAny (model X.prog X.w) X.A (eval (.Call (.Attribute e m apos) args [] pos) X.env) Q X.xe s:=by
 refine W.methodCall_KW (pl:=pl) (aG (he pins s σ H _ I h) λu s1 ⟨x,H1,I1,rx,a,C,dx,fs,g,ex,ea,c,k,l,q⟩=>?_) ht
 subst ex
 obtain rfl:u=Value.ref a:=rx
 exact oa I1 ea c k l (q s1 I1)
end
section
variable {X:Cx}{pins:List (Addr×Obj)}{σ:St}{H:Hp}{s:Shared}{A:Around}{E:Value->Shared->Prop}{Q:Value->Shared->Prop}{c:Value}{b:Bool}
inductive gj (K:W.Frag) (H:Hp):V->Value->Prop where
 | aS:gj K H .aS (.type "NoneType")
 | bl (x:Bool):gj K H (.bl x) (.type "bool")
 | int (i:Int):gj K H (.int i) (.type "int")
 | str (x:Str):gj K H (.str x) (.type "str")
 | pX (x:UInt64):gj K H (.pX x) (.type "float")
 | lst {a:Addr}{xs:List V}(e:H a=some (.lst xs)):gj K H (.ref a) (.type "list")
 | i0 {a:Addr}{o:Obj}{xs:List V}(e:H a=some (.i0 o (.lst xs))):gj K H (.ref a) (.type "list")
 | tup {a:Addr}{xs:List V}(e:H a=some (.tup xs)):gj K H (.ref a) (.type "tuple")
 | dK {a:Addr}{kvs:List (Key×V)}(e:H a=some (.dK kvs)):gj K H (.ref a) (.type "dict")
 | dT {a:Addr}{kvs:List (List Key×V)}(e:H a=some (.dT kvs)):gj K H (.ref a) (.type "dict")
 | ins {a C dx:Addr}{fs:List (Str×V)}(e:H a=some (.ins C dx fs)) (cl:lg K C) (ha:W.findIn K (.ref C) "__class__" = some (some (.builtin "object.__class__")))
  (hn:W.specialIn K (.builtin "object.__class__") "__get__" = some (some (.builtin "getset_descriptor.__get__"))) (xS:W.takesIn K (.builtin "object.__class__")=some true)
  (hm:W.mroIn K C (.type "object")=some true):gj K H (.ref a) (.ref C)
theorem xT {x:V}{u t:Value}(I:Inv X pins σ H s) (rx:RelV x u) (ty:gj X.K H x t) (e:W.kitOne X.K t c=some b) (h:∀tk,Q (.bool b) { s with toks:=tk }) :
 wpAny (model X.prog X.w) A (call (.builtin "isinstance") [u,c]) Q E s:=by
 cases ty with
 | aS=>cases (show u=Value.none from rx); exact W.kia_one W.kitx_none I.d6 True.intro e (λz=>nomatch z) h
 | bl y=>cases (show u=Value.bool y from rx); exact W.kia_one W.kitx_bool I.d6 True.intro e (λz=>nomatch z) h
 | int i=>obtain ⟨t,q⟩:=(show ∃t,u=Value.int i t from rx); cases q; exact W.kia_one W.kitx_int I.d6 True.intro e (λz=>nomatch z) h
 | str y=>obtain ⟨t,q⟩:=(show ∃t,u=Value.str y t from rx); cases q; exact W.kia_one W.kitx_str I.d6 True.intro e (λz=>nomatch z) h
 | pX y=>obtain ⟨t,q⟩:=(show ∃t,u=Value.float y t from rx); cases q; exact W.kia_one W.kitx_float I.d6 True.intro e (λz=>nomatch z) h
 | @lst a xs ea=>
  cases (show u=Value.ref a from rx)
  obtain ⟨_,_,n,_,h1⟩:=(show bh X.prog X.w H s.heap a (.lst xs) from I.hok a _ ea)
  exact W.kia_one W.kitx_list I.d6 ⟨_,h1,rfl⟩ e (λz=>nomatch z) h
 | @i0 a ob xs ea=>
  cases (show u=Value.ref a from rx)
  obtain ⟨_,_,_,n,_,h1⟩:=(show bh X.prog X.w H s.heap a (.i0 ob (.lst xs)) from I.hok a _ ea)
  exact W.kia_one W.kitx_list I.d6 ⟨_,h1,rfl⟩ e (λz=>nomatch z) h
 | @tup a xs ea=>
  cases (show u=Value.ref a from rx)
  obtain ⟨_,_,_,p⟩:=(show bh X.prog X.w H s.heap a (.tup xs) from I.hok a _ ea)
  obtain ⟨o,h1,h2,_⟩:=p
  exact W.kia_one W.kitx_tuple I.d6 ⟨o,h1,h2⟩ e (λz=>nomatch z) h
 | @dK a kvs ea=>
  cases (show u=Value.ref a from rx)
  obtain ⟨_,_,vs,_,p⟩:=(show bh X.prog X.w H s.heap a (.dK kvs) from I.hok a _ ea)
  obtain ⟨o,es,ep,h1,h2,_⟩:=p
  exact W.kia_one W.kitx_dict I.d6 ⟨o,h1,h2.1⟩ e (λz=>nomatch z) h
 | @dT a kvs ea=>
  cases (show u=Value.ref a from rx)
  obtain ⟨_,_,xs,_,o,es,ep,h1,h2,_⟩:=(show bh X.prog X.w H s.heap a (.dT kvs) from I.hok a _ ea)
  exact W.kia_one W.kitx_dict I.d6 ⟨o,h1,h2.1⟩ e (λz=>nomatch z) h
 | @ins a C dx fs ea cl ha hn xS hm=>
  cases (show u=Value.ref a from rx)
  obtain ⟨mA,O,_⟩:=lV I.hok ea
  obtain ⟨od,J,_⟩:=O.look
  exact W.kia_one (W.kitx_own (cl.get _) cl.hd ha hn xS hm) I.d6 J e (λz=>nomatch z) h
end
end L2
namespace L2
open PySem PySem.Spec PyProof.Rows
structure bx (k:Nat) (A:Around):Prop where
 hd:A.handled=none
 dp:A.depth+3*k+5<recursionLimit
 un:A.units+16*k+200<cLine
theorem bx.mono {j k:Nat}{A:Around}(r:bx k A) (h:j<=k):bx j A:=⟨r.hd,by have:=r.dp; omega,by have:=r.un; omega⟩
theorem bx.deeper {k:Nat}{A:Around}(r:bx (k+1) A) (env:Env):bx k (A.deeper env):=
 ⟨r.hd,by have:=r.dp; show A.depth+1+3*k+5<_; omega,by have:=r.un; show A.units+3+16*k+200<_; omega⟩
theorem bx.in1 {k:Nat}{A:Around}(r:bx (k+1) A):bx k A.in1:=
 ⟨r.hd,by have:=r.dp; show A.depth+3*k+5<_; omega,by have:=r.un; show A.units+1+16*k+200<_; omega⟩
theorem wF {A:Around}{C:Addr}{us:List Value}{kw:List (Str×Value)} : (A.under (.builtin "type.__call__" ⟨.ref C::us,kw⟩)).depth=A.depth+1:=by
 first | rfl | simp [Around.under,Code.weight,Code.isCreation,Code.isGuard,Code.isCaller,Code.frames,Code.isFrame,guardIds]
theorem wG {A:Around}{C:Addr}{us:List Value}{kw:List (Str×Value)} : (A.under (.builtin "type.__call__" ⟨.ref C::us,kw⟩)).units=A.units+1:=by
 first | rfl | simp [Around.under,Code.cUnits,Code.frames,Code.isFrame]
theorem bx.make {k:Nat}{A:Around}(r:bx (k+1) A) (C:Addr) (us:List Value) (kw:List (Str×Value)):bx k (A.under (.builtin "type.__call__" ⟨.ref C::us,kw⟩)):=
 ⟨r.hd,by have:=r.dp; rw [wF]; omega,by have:=r.un; rw [wG]; omega⟩
theorem bx.depth {k:Nat}{A:Around}(r:bx k A):A.depth<recursionLimit:=by have:=r.dp; omega
theorem bx.units {k:Nat}{A:Around}(r:bx k A):A.units+64<cLine:=by have:=r.un; omega
def wH:TA:=λ_ H Q=>Q [] H
def jS (ta:TE) (tr:TA):TA:=λσ H Q=>ta σ H λx H1=>tr σ H1 λxs H2=>Q (x::xs) H2
section
variable {X:Cx}{e:Expr}{es:List Expr}{te:TE}{t:TA}{pos:Pos}
theorem ab:PA X [] wH:=λ_ _ _ _ H Q I h=>Calls.spliced_nil ⟨[],H,I,.nil,h⟩
theorem aa (ha:PE X e te) (hr:PA X es t) (hs:starEach (e::es) X.env=(false,eval e X.env)::starEach es X.env:=by rfl):PA X (e::es) (jS te t):=by
 intro pos pins s σ H Q I h
 rw [hs]
 show wpAny _ _ (spliced ((false,eval e X.env)::backTo pos (starEach es X.env))) _ _ s
 refine Calls.spliced_cons (aG (ha pins s σ H _ I h) λu s1 ⟨x,H1,I1,r1,q1⟩=>?_)
 exact aG (hr pos pins s1 σ H1 _ I1 q1) λus s2 ⟨xs,H2,I2,r2,q2⟩=>⟨x::xs,H2,I2,.cons r1 r2,q2⟩
def zL (t:TA):TE:=λσ H Q=>t σ H λxs H1=>xs.length<=sizeLine/\∀p,H1 p=none->Q (.ref p) (upd H1 p (.tup xs))
def KW (t:TA):TE:=λσ H Q=>t σ H λxs H1=>xs.length<=sizeLine/\∀p,H1 p=none->Q (.ref p) (upd H1 p (.lst xs))
theorem df {x1} (h:PA X es t):PE X (.Tuple es x1 pos) (zL t):=by
 intro pins s σ H Q I hq
 refine wpAny_Tuple_spliced (aG (h pos pins s σ H _ I hq) λus s1 ⟨xs,H1,I1,r,z,q⟩=>⟨by rw [← r.length]; exact z,?_⟩)
 have hf:H1 s1.heap.objs.size=none:=I1.hok.fresh (Nat.le_refl _)
 refine ⟨.ref s1.heap.objs.size,upd H1 s1.heap.objs.size (.tup xs),I1.laid (t':=s1.toks) (λb u e=>Heap.get?_push_of_some _ e) (Nat.le_refl _) ?_,rfl,q _ hf⟩
 exact ⟨z,us,r,⟨_,Heap.get?_push_size _ rfl,rfl,_,rfl⟩⟩
theorem fL (h:PA X es t):PE X (.List es pos) (KW t):=by
 intro pins s σ H Q I hq
 refine wpAny_List_spliced (aG (h pos pins s σ H _ I hq) λus s1 ⟨xs,H1,I1,r,z,q⟩=>⟨by rw [← r.length]; exact z,?_⟩)
 have hf:H1 s1.heap.objs.size=none:=I1.hok.fresh (Nat.le_refl _)
 refine ⟨.ref s1.heap.objs.size,upd H1 s1.heap.objs.size (.lst xs),I1.laid (t':=s1.toks) (λb u e=>Heap.get?_push_of_some _ e) (Nat.le_refl _) ?_,rfl,q _ hf⟩
 exact ⟨z,us,0,r,Heap.get?_push_size _ rfl⟩
end
abbrev Sp:=List V->Hp->VK->XK->Prop
abbrev lj:=List Env->Hp->Shared->XK->Value->Shared->Prop
structure ji (P:Program) (w:World) (K:W.Frag) (mg:Str->Option Value) (base:Heap) (A:Around) (outer:List Env) (s:Shared) (H:Hp):Prop where
 frames:A.frames=some outer
 mod:Mod K mg base
 bs:∀b o,base.get? b=some o->s.heap.get? b=some o/\H b=none
 bsz:base.objs.size<=s.heap.objs.size
 gh:s.heap.FunFrames base outer
 frf:∀b∈kq outer,H b=none
 hok:cN P w H s.heap
 bare:AllBare s.gens
def CE (outer:List Env) (P:Program) (w:World) (H:Hp) (s:Shared) (Q:VK) (u:Value) (s':Shared):Prop:=
 ∃v H',s'.os=s.os/\AllBare s'.gens/\Un (kq outer) [] H H' s.heap s'.heap/\cN P w H' s'.heap/\RelV v u/\Q v H'
def CR (CX:lj) (outer:List Env) (P:Program) (w:World) (H:Hp) (s:Shared) (Q:VK) (E:XK) (r:Result) (s':Shared):Prop:=
 match r with
 | .ok (.ret u)=>CE outer P w H s Q u s'
 | .ok _=>False
 | .error e=>CX outer H s E e s'
structure av (P:Program) (w:World) (K:W.Frag) (mg:Str->Option Value) (base:Heap) (CX:lj) (k:Nat) (f:Addr) (fd:FuncData) (ps:List Str) (sp:Sp):Prop where
 len:∀vs H Q E,sp vs H Q E->vs.length=ps.length
 run:∀(A:Around) (outer:List Env) (s:Shared) (H:Hp) (args:Args) (us:List Value) (vs:List V) (Q:VK) (E:XK),bx k A->ji P w K mg base A outer s H->BindsTo s fd args (ps.zip us)->Vals vs us->sp vs H Q E->
  codeAny (model P w) A (.call (.ref f) args) (CR CX outer P w H s Q E) s
theorem ji.make {P:Program}{w:World}{K:W.Frag}{mg:Str->Option Value}{base:Heap}{A:Around}{outer:List Env}{s:Shared}{H:Hp}(e:ji P w K mg base A outer s H) (C:Addr) (us:List Value) (kw:List (Str×Value)) :
 ji P w K mg base (A.under (.builtin "type.__call__" ⟨.ref C::us,kw⟩)) outer s H:=⟨by first | exact e.frames | (simpa [Around.under,Code.envs,Code.isFrame,pushEnvs] using e.frames),e.mod,e.bs,e.bsz,e.gh,e.frf,e.hok,e.bare⟩
theorem ji.in1 {P:Program}{w:World}{K:W.Frag}{mg:Str->Option Value}{base:Heap}{A:Around}{outer:List Env}{s:Shared}{H:Hp}(e:ji P w K mg base A outer s H) :
 ji P w K mg base A.in1 outer s H:=⟨e.frames,e.mod,e.bs,e.bsz,e.gh,e.frf,e.hok,e.bare⟩
section
variable {X:Cx}{pins:List (Addr×Obj)}{σ:St}{H:Hp}{s s':Shared}
theorem Inv.Dr (I:Inv X pins σ H s):ji X.prog X.w X.K X.mg X.base X.A X.stack s H:=
 ⟨I.ok.frames,I.ok.mod,I.bs,Nat.le_trans I.ok.bsz I.sz,I.stack,I.u0,I.hok,I.bare⟩
theorem Inv.after {Q:VK}{u:Value}(I:Inv X pins σ H s) (h:CE X.stack X.prog X.w H s Q u s'):EP X pins σ Q u s':=by
 obtain ⟨v,H',os,bare,un,hok,r,q⟩:=h
 obtain ⟨hh,g,d,t,N3⟩:=s'
 obtain rfl:N3=s.os:=os
 exact ⟨v,H',I.call (h':=hh) (g':=g) (d':=d) (t':=t) (ch:=[]) un hok bare (λb z=>absurd z (by simp)),r,q⟩
end
def GD (sp:Sp) (fQ:List V) (E:XK) (t:TA):TE:=λσ H Q=>t σ H λvs H1=>sp (vs++fQ) H1 Q E
def GG (C:Addr) (m:Str) (sp:Sp) (fQ:List V) (E:XK) (ta:TE) (t:TA):TE:=λσ H Q=>ta σ H λx H1=>∃a dx fs,x=.ref a/\H1 a=some (.ins C dx fs)/\fs.lookup m=none/\
 t σ H1 λvs H2=>sp (x::(vs++fQ)) H2 Q E
def GH (C:Addr) (sp:Sp) (fQ:List V) (E:XK) (t:TA):TE:=λσ H Q=>t σ H λvs H1=>∀x dx,H1 x=none->H1 dx=none->dx≠x->
 sp (.ref x::(vs++fQ)) (upd (upd H1 dx (.own x)) x (.ins C dx [])) (λv H2=>v=.aS/\Q (.ref x) H2) E
def Binds (K:W.Frag) (fd:FuncData) (ps:List Str) (ds:List Value):Prop:=
 ∀(s:Shared) (us:List Value),K.In s.heap->(us++ds).length=ps.length->BindsTo s fd ⟨us,[]⟩ (ps.zip (us++ds))
theorem Binds.all {K:W.Frag}{fd:FuncData}{ps:List Str}(h:∀us:List Value,us.length=ps.length->bindArgs fd ⟨us,[]⟩=pure (ps.zip us)):Binds K fd ps []:=λs us _ hl=>by
 rw [List.append_nil] at hl ⊢
 exact .of_eq (h us hl)
def Passes (CX:lj) (X:Cx) (E:XK):Prop:=∀(pins:List (Addr×Obj)) (σ:St) (H:Hp) (s:Shared) (e:Value) (s':Shared),Inv X pins σ H s->CX X.stack H s E e s'->X.xe e s'
section
variable {X:Cx}{CX:lj}{k:Nat}{f C:Addr}{fd:FuncData}{ps:List Str}{sp:Sp}{fQ:List V}{ds:List Value}{E:XK}{x m:Str}{p pos apos:Pos}{e o:Expr}{es:List Expr}{ta:TE}{t:TA}
theorem xU {pins:List (Addr×Obj)}{σ:St}{H:Hp}{s:Shared}{Q:VK}{us:List Value}{vs:List V}(F:av X.prog X.w X.K X.mg X.base CX k f fd ps sp) (hr:bx k X.A) (hb:Binds X.K fd ps ds) (hd:Vals fQ ds) (hx:Passes CX X E)
 (I:Inv X pins σ H s) (r:Vals vs us) (h:sp (vs++fQ) H Q E):wpAny (model X.prog X.w) X.A (call (.ref f) us) (EP X pins σ Q) X.xe s:=by
 have r2:Vals (vs++fQ) (us++ds):=r.append hd
 have hl:(us++ds).length=ps.length:=by rw [← r2.length]; exact F.len _ _ _ _ h
 refine wpAny_call (codeAny_mono (F.run X.A X.stack s H ⟨us,[]⟩ (us++ds) (vs++fQ) Q E hr I.Dr (hb s us I.d6 hl) r2 h) λr s' hq=>?_)
 cases r with
 | error e=>exact hx pins σ H s e s' I hq
 | ok fl=>
  cases fl with
  | ret u=>exact I.after hq
  | next=>exact False.elim hq
  | brk=>exact False.elim hq
  | cont=>exact False.elim hq
theorem aI (F:av X.prog X.w X.K X.mg X.base CX k f fd ps sp) (hr:bx k X.A) (hg:Gl X x) (hm:X.mg x=some (.ref f)) (hk:W.keepIn X.K (.ref f)=true) (hb:Binds X.K fd ps ds) (hd:Vals fQ ds) (hx:Passes CX X E)
 (ha:PA X (e::es) t) (rN:(x == ("__debug__" : Str))=false:=by decide) (he:starEach (e::es) X.env=(false,eval e X.env)::starEach es X.env:=by rfl) (kr:(backTo pos (starEach es X.env)).any (·.1)=false:=by rfl) :
 PE X (.Call (.Name x p) (e::es) [] pos) (GD sp fQ E t):=by
 intro pins s σ H Q I h
 refine wpAny_Call_Name_kw (u4 I hg hm ?_ rN)
 refine W.callWith_K (h₀:=X.base) I.ok.mod.kin hk (aG (ha pos pins s σ H _ I h) λus s1 ⟨vs,H1,I1,r,q⟩=>⟨I1.d6,?_⟩) he kr
 exact xU F hr hb hd hx I1 r q
theorem bu {pl:Sem Bool}(he:PE X o ta) (c:lg X.K C) (hm:Meth X.K C m f) (F:av X.prog X.w X.K X.mg X.base CX k f fd ps sp) (hr:bx k X.A) (hb:Binds X.K fd ps ds) (hd:Vals fQ ds) (hx:Passes CX X E) (ha:PA X (e::es) t)
 (Dh:starEach (e::es) X.env=(false,eval e X.env)::starEach es X.env:=by rfl) (kr:(backTo pos (starEach es X.env)).any (·.1)=false:=by rfl)
 (ht:eval (.Call (.Attribute o m apos) (e::es) [] pos) X.env=(do
  let ov ← eval o X.env
  standAt apos.atName
  let (f,first) ← holding [ov] (getMethod ov m pl)
  callWith pos f first (backTo pos (starEach (e::es) X.env)) (backToKw pos (keywordEach [] X.env))):=by rfl) :
 PE X (.Call (.Attribute o m apos) (e::es) [] pos) (GG C m sp fQ E ta t):=by
 intro pins s σ H Q I h
 refine W.methodCall_KW (pl:=pl) (aG (he pins s σ H _ I h) λu s1 ⟨x,H1,I1,rx,a,dx,fs,ex,ea,l,q⟩=>?_) ht
 subst ex
 obtain rfl:u=Value.ref a:=rx
 refine oa I1 ea c hm l ?_
 refine W.callWith_K (first:=[.ref a]) (h₀:=X.base) I.ok.mod.kin hm.kp (aG (ha pos pins s1 σ H1 _ I1 q) λus s2 ⟨vs,H2,I2,r,q2⟩=>⟨I2.d6,?_⟩) Dh kr
 exact xU (us:=.ref a::us) (vs:=.ref a::vs) F hr hb hd hx I2 (.cons rfl r) q2
structure Mk (K:W.Frag) (C f:Addr):Prop where
 makes:W.makesIn K C=true
 init:W.findIn K (.ref C) "__init__" = some (some (.ref f))
 fn:W.isFn K (.ref f)=true
 kp:W.keepIn K (.ref C)=true
theorem zM {pins:List (Addr×Obj)}{σ:St}{H:Hp}{s:Shared}{Q:VK}{us:List Value}{vs:List V}(M:Mk X.K C f) (F:av X.prog X.w X.K X.mg X.base CX k f fd ps sp) (hr:bx (k+1) X.A) (hb:Binds X.K fd ps ds) (hd:Vals fQ ds)
 (hx:Passes CX X E) (I:Inv X pins σ H s) (r:Vals vs us)
 (h:∀x dx,H x=none->H dx=none->dx≠x->sp (.ref x::(vs++fQ)) (upd (upd H dx (.own x)) x (.ins C dx [])) (λv H2=>v=.aS/\Q (.ref x) H2) E) :
 wpAny (model X.prog X.w) X.A (call (.ref C) us) (EP X pins σ Q) X.xe s:=by
 have hq:=h (s.heap.objs.size+1) s.heap.objs.size (I.hok.fresh (Nat.le_succ _)) (I.hok.fresh (Nat.le_refl _)) (Nat.ne_of_lt (Nat.lt_succ_self _))
 have I2:=Inv.made (C:=C) I
 have r2:Vals (V.ref (s.heap.objs.size+1)::(vs++fQ)) (Value.ref (s.heap.objs.size+1)::(us++ds)):=.cons rfl (r.append hd)
 have hl:(Value.ref (s.heap.objs.size+1)::us++ds).length=ps.length:=by
  have e:=r2.length
  rw [F.len _ _ _ _ hq] at e
  exact e.symm
 refine wpAny_call (zK (f:=f) I.d6 M.makes M.init (beq_iff_eq.mp M.fn) (codeAny_mono (F.run _ X.stack _ _ ⟨Value.ref (s.heap.objs.size+1)::us,[]⟩ (Value.ref (s.heap.objs.size+1)::(us++ds)) _ _ E (hr.make C us [])
  (I2.Dr.make C us []) (hb _ (Value.ref (s.heap.objs.size+1)::us) I2.d6 hl) r2 hq) λr s' xV=>?_))
 cases r with
 | error e=>exact hx pins σ _ _ e s' I2 xV
 | ok fl=>
  cases fl with
  | ret u=>
   obtain ⟨v,H',I3,rv,ev,q3⟩:=I2.after xV
   subst ev
   exact ⟨rv,⟨V.ref (s.heap.objs.size+1),H',I3,rfl,q3⟩⟩
  | next=>exact False.elim xV
  | brk=>exact False.elim xV
  | cont=>exact False.elim xV
theorem vc (M:Mk X.K C f) (F:av X.prog X.w X.K X.mg X.base CX k f fd ps sp) (hr:bx (k+1) X.A) (hg:Gl X x) (hm:X.mg x=some (.ref C)) (hb:Binds X.K fd ps ds) (hd:Vals fQ ds) (hx:Passes CX X E)
 (ha:PA X (e::es) t) (rN:(x == ("__debug__" : Str))=false:=by decide) (he:starEach (e::es) X.env=(false,eval e X.env)::starEach es X.env:=by rfl) (kr:(backTo pos (starEach es X.env)).any (·.1)=false:=by rfl) :
 PE X (.Call (.Name x p) (e::es) [] pos) (GH C sp fQ E t):=by
 intro pins s σ H Q I h
 refine wpAny_Call_Name_kw (u4 I hg hm ?_ rN)
 refine W.callWith_K (h₀:=X.base) I.ok.mod.kin M.kp (aG (ha pos pins s σ H _ I h) λus s1 ⟨vs,H1,I1,r,q⟩=>⟨I1.d6,?_⟩) he kr
 exact zM M F hr hb hd hx I1 r q
end
section
variable {X:Cx}{CX:lj}{k:Nat}{f C:Addr}{fd:FuncData}{ps ks:List Str}{sp:Sp}{E:XK}{x m:Str}{p pos apos RM:Pos}{e o:Expr}{es:List Expr}{RW:List Keyword}{te ta:TE}{t tk:TA}{nm:Option Str}
variable {g:List Value->List Value->List Value}{gV:List V->List V->List V}
end
structure aT (N P:List Str) (sc:Scope):Prop where
 kind:sc.kind=.function
 co:sc.isCoroutine=false
 gen:sc.isGenerator=false
 nd:N.Nodup
 pre:N.take P.length=P
 par:∀x∈P,sc.names.lookup x=some .local\/sc.names.lookup x=some .cell
 nofree:∀y∈sc.names,y.2≠.free
theorem qb {kindOf:Str->Option NameKind}{x:Str} : ∀{binds:List (Str×Value)}{m:Str->Option Value},(∀v,(x,v)∉binds)->bindL kindOf binds m x=m x
 | [],_,_=>rfl
 | (n,v)::r,m,h=>by
  unfold bindL
  rw [qb λw hw=>h w (List.mem_cons_of_mem _ hw)]
  split
  . have:x≠n:=by rintro rfl; exact h v List.mem_cons_self
    simp [this]
  . rfl
theorem qc {kindOf:Str->Option NameKind}{x:Str} : ∀{binds:List (Str×Value)}{m:Str->Option Value},(∀v,(x,v)∉binds)->bindC kindOf binds m x=m x
 | [],_,_=>rfl
 | (n,v)::r,m,h=>by
  unfold bindC
  rw [qc λw hw=>h w (List.mem_cons_of_mem _ hw)]
  split
  . rfl
  . have:x≠n:=by rintro rfl; exact h v List.mem_cons_self
    simp [this]
theorem qd {kindOf:Str->Option NameKind}{x:Str}{v:Value} : ∀{P:List Str}{vs:List Value}{i:Nat}{m:Str->Option Value},P.Nodup->P[i]?=some x->vs[i]?=some v->kindOf x=some .local->
 bindL kindOf (P.zip vs) m x=some v
 | [],_,_,_,_,h,_,_=>by simp at h
 | _::_,[],_,_,_,_,h,_=>by simp at h
 | p::P,w::vs,0,m,nd,h1,h2,hk=>by
  simp at h1 h2; subst h1; subst h2
  show bindL kindOf ((p,w)::P.zip vs) m p=_
  unfold bindL
  rw [qb λv hv=>(List.nodup_cons.mp nd).1 (List.of_mem_zip hv).1,if_pos hk]
  simp
 | p::P,w::vs,i+1,m,nd,h1,h2,hk=>by
  show bindL kindOf ((p,w)::P.zip vs) m x=_
  unfold bindL
  exact qd (i:=i) (List.nodup_cons.mp nd).2 (by simpa using h1) (by simpa using h2) hk
theorem qe {kindOf:Str->Option NameKind}{x:Str}{v:Value} : ∀{P:List Str}{vs:List Value}{i:Nat}{m:Str->Option Value},P.Nodup->P[i]?=some x->vs[i]?=some v->kindOf x≠some .local->
 bindC kindOf (P.zip vs) m x=some v
 | [],_,_,_,_,h,_,_=>by simp at h
 | _::_,[],_,_,_,_,h,_=>by simp at h
 | p::P,w::vs,0,m,nd,h1,h2,hk=>by
  simp at h1 h2; subst h1; subst h2
  show bindC kindOf ((p,w)::P.zip vs) m p=_
  unfold bindC
  rw [qc λv hv=>(List.nodup_cons.mp nd).1 (List.of_mem_zip hv).1,if_neg hk]
  simp
 | p::P,w::vs,i+1,m,nd,h1,h2,hk=>by
  show bindC kindOf ((p,w)::P.zip vs) m x=_
  unfold bindC
  exact qe (i:=i) (List.nodup_cons.mp nd).2 (by simpa using h1) (by simpa using h2) hk
def start (N:List Str) (vs:List V):St:=vs.map some++List.replicate (N.length-vs.length) none
def jT (CX:lj) (P:Program) (w:World) (K:W.Frag) (mg:Str->Option Value) (base:Heap) (N:List Str) (qual:Str) (scope:Scope) (f:Addr) (cd:Value) (A:Around) (outer:List Env) (s:Shared) (H:Hp) (E:XK):Cx where
 prog:=P
 w:=w
 K:=K
 mg:=mg
 base:=base
 A:=A.deeper (envOfC qual scope s.heap.objs.size f cd)
 N:=N
 ie:=s
 C6:=H
 env:=envOfC qual scope s.heap.objs.size f cd
 outer:=outer
 stack:=envOfC qual scope s.heap.objs.size f cd::outer
 ex:=[]
 calm:=true
 fn:=λ_=>true
 pn:=[]
 xe:=λe s'=>wpAny (model P w) (A.deeper (envOfC qual scope s.heap.objs.size f cd)) (leaving (envOfC qual scope s.heap.objs.size f cd) e) (λ_ xW=>CX outer H s E e xW) (λe' xW=>CX outer H s E e' xW) s'
theorem rO {sc:Scope}{n:Nat}{x:Str}(h:sc.names.lookup x=some .cell):∃c,(cellsFrom n sc.names []).lookup x=some c:=by
 have q:=W.cellsFrom_some sc.names n [] (.inl h)
 exact Option.isSome_iff_exists.mp q
theorem xX {CX:lj}{P:Program}{w:World}{K:W.Frag}{mg:Str->Option Value}{base:Heap}{N ps:List Str}{qual:Str}{scope:Scope}{f:Addr}{cd:Value}{A:Around}{outer:List Env}{s s1:Shared}{H:Hp}{E:XK}{us:List Value}{vs:List V}
 (S:aT N ps scope) (hd:A.handled=none) (e0:ji P w K mg base A outer s H) (hl:vs.length=ps.length) (r:Vals vs us)
 (x:InCallC s s.heap.objs.size (bindL (envOfC qual scope s.heap.objs.size f cd).kindOf (ps.zip us) λ_=>none) (cellsFrom (s.heap.objs.size+1) scope.names []) (bindC (envOfC qual scope s.heap.objs.size f cd).kindOf (ps.zip us) λ_=>none) s1) :
 Inv (jT CX P w K mg base N qual scope f cd A outer s H E) [] (start N vs) H s1:=by
 have kr:ps.length<=N.length:=by have:=congrArg List.length S.pre; rw [List.length_take] at this; omega
 obtain ⟨h1,tk,rfl,hk⟩:=x.done
 have xY:∀b:Addr,b∉(jT CX P w K mg base N qual scope f cd A outer s H E).ex:=λb z=>absurd (show b∈([]:List Addr) from z) (by simp)
 refine ⟨⟨e0.mod,S.kind,rfl,rfl,Nat.le_refl _,λy z c h1 h2=>?_,λy hy=>?_,λy c _ h=>?_,λ_=>hd,Around.frames_deeper e0.frames,.inr ⟨rfl,rfl⟩,λb z=>absurd z (xY b),e0.bs,e0.bsz,λb _ _=>xY b,λb z=>absurd z (xY b),e0.gh,e0.frf⟩,
  rfl,e0.bare,Un.kept hk,⟨_,x.toInCall.ns,λi y v h1 h2 h3=>?_⟩,λy c h=>⟨_,x.cell y c h⟩,e0.hok.fresh (Nat.le_refl _),λy c h=>?_,λp hp=>absurd (show p∈([]:List (Addr×Obj)) from hp) (by simp),e0.hok.kept hk,?_⟩
 . exact name_of_addr x.apart (PySem.mem_of_lookup h1) (PySem.mem_of_lookup h2)
 . have hy:scope.names.lookup y=some .cell\/scope.names.lookup y=some .free:=hy
   rcases hy with hy | hy
   . exact rO hy
   . exact absurd rfl (S.nofree _ (PySem.mem_of_lookup hy))
 . exact Nat.le_of_lt (x.above y c (PySem.mem_of_lookup h))
 . have hi:i<vs.length:=by
    unfold start at h2
    by_cases hi:i<vs.length
    . exact hi
    . rw [List.getElem?_append_right (by simpa using hi)] at h2
      rw [List.getElem?_replicate] at h2
      split at h2 <;> cases h2
   have ha:vs[i]?=some v:=by
    unfold start at h2
    rw [List.getElem?_append_left (by simpa using hi),List.getElem?_map] at h2
    cases e:vs[i]? with
    | none=>rw [e] at h2; cases h2
    | some a=>rw [e] at h2; cases h2; rfl
   obtain ⟨u,hu,rv⟩:=r.get ha
   have hp:ps[i]?=some y:=by
    rw [← S.pre,List.getElem?_take_of_lt (by omega)]; exact h1
   have ID:ps.Nodup:=by rw [← S.pre]; exact S.nd.sublist (List.take_sublist _ _)
   refine ⟨u,rv,?_⟩
   rcases S.par y (List.mem_of_getElem? hp) with k | k
   . exact .inl ⟨k,qd ID hp hu k⟩
   . obtain ⟨c,e⟩:=rO (n:=s.heap.objs.size+1) k
     refine .inr ⟨.inl k,c,e,?_⟩
     have q:=x.cell y c e
     rw [qe ID hp hu (by show scope.names.lookup y≠_; rw [k]; decide)] at q
     exact q
 . exact e0.hok.fresh (Nat.le_of_lt (x.above y c (PySem.mem_of_lookup h)))
 . unfold start
   show _=N.length
   rw [List.length_append,List.length_map,List.length_replicate]
   omega
theorem GI {CX:lj}{P:Program}{w:World}{K:W.Frag}{mg:Str->Option Value}{base:Heap}{k:Nat}{f:Addr}{name qual:Str}{params:Arguments}{body:List Stmt}{scope:Scope}{dV kV doc pm cdv ct oc:Value}{an od:Option Addr}
 {qf:Array (Option Value)}{N ps:List Str}{sp:Sp}(lk:K.lookup f=some ⟨oc,od,.func (W.fnOf name qual params body scope dV kV doc pm an cdv ct),qf⟩) (ju:W.codeIn K cdv qual=true) (S:aT N ps scope)
 (len:∀vs H Q E,sp vs H Q E->vs.length=ps.length)
 (wI:∀(A:Around) (outer:List Env) (s:Shared) (H:Hp) (vs:List V) (Q:VK) (E:XK),bx k (A.deeper (envOfC qual scope s.heap.objs.size f cdv))->sp vs H Q E->
  ∃t,iq (jT CX P w K mg base N qual scope f cdv A outer s H E) body t/\t { nx:=λ_ H'=>Q .aS H',rt:=Q } (start N vs) H) :
 av P w K mg base CX (k+1) f (W.fnOf name qual params body scope dV kV doc pm an cdv ct) ps sp:=by
 refine ⟨len,λA outer s H args us vs Q E hr e0 hb r lq=>?_⟩
 have hl:=len _ _ _ _ lq
 have KX:K.In s.heap:=e0.mod.kin.keeps λb o e=>(e0.bs b o e).1
 have lim:s.heap.NoLimit:=e0.mod.nolimit.keeps λb o e=>(e0.bs b o e).1
 have GJ:∀y∈ps.zip us,scope.names.lookup y.1=some .local\/(scope.names.lookup y.1=some .cell/\((cellsFrom (s.heap.objs.size+1) scope.names []).lookup y.1).isSome=true):=λ⟨n,v⟩ hy=>by
  rcases S.par n (List.of_mem_zip hy).1 with q | q
  . exact .inl q
  . exact .inr ⟨q,W.cellsFrom_some _ _ _ (.inl q)⟩
 refine codeAny_call_function hr.depth (KX _ _ lk) rfl S.co S.gen rfl (W.codeRec_of KX ju) (hb _ _ _ _ ?_)
 refine wpAny_newFunctionEnv_cells S.kind GJ λenv he s1 x=>?_
 subst he
 refine ⟨lim.keeps x.toInCall.keep,codeAny_func ?_⟩
 obtain ⟨t,ht,hq⟩:=wI A outer s H vs Q E (hr.deeper _) lq
 have I:Inv (jT CX P w K mg base N qual scope f cdv A outer s H E) [] (start N vs) H s1:=xX S hr.hd e0 hl r x
 refine wpAny_mono (ht [] s1 (start N vs) H _ I hq) (λfl s' hs=>?_) λe s' hs=>hs
 have fin:∀{bG:St}{H':Hp}{v:V}{u:Value},Inv (jT CX P w K mg base N qual scope f cdv A outer s H E) [] bG H' s'->RelV v u->Q v H'->CE outer P w H s Q u s':=
  λ{bG H' v u} J rv q=>⟨v,H',J.os,J.bare,J.base,J.hok,rv,q⟩
 cases fl with
 | ret u=>
  obtain ⟨v,bG,H',J,rv,q⟩:=hs
  exact fin J rv q
 | next=>
  obtain ⟨bG,H',J,q⟩:=hs
  exact fin (v:=V.aS) (u:=Value.none) J rfl q
 | brk=>
  obtain ⟨_,_,_,q⟩:=hs
  exact False.elim q
 | cont=>
  obtain ⟨_,_,_,q⟩:=hs
  exact False.elim q
end L2
namespace L2
open PySem PySem.Spec PyProof.Rows
section
variable {X:Cx}{x:Str}{p pos:Pos}{e:Expr}{es:List Expr}{t:TA}{id T:String}{r:List V->Hp->VK->Prop}
def IE (r:List V->Hp->VK->Prop) (t:TA):TE:=λσ H Q=>t σ H λvs H1=>r vs H1 Q
theorem aU (hc:ff X (.builtin id) r) (hg:Gl X x) (hm:X.mg x=none) (hv:bootBuiltins x=some (.builtin id)) (ha:PA X (e::es) t) (hn:x ≠ "__name__":=by decide) (rN:(x == ("__debug__" : Str))=false:=by decide)
 (he:starEach (e::es) X.env=(false,eval e X.env)::starEach es X.env:=by rfl) (kr:(backTo pos (starEach es X.env)).any (·.1)=false:=by rfl):PE X (.Call (.Name x p) (e::es) [] pos) (IE r t):=by
 intro pins s σ H Q I h
 refine wpAny_Call_Name_kw (fG I hg hm hv ?_ hn rN)
 exact PyProof.Rows.callWith_builtin1 (aG (ha pos pins s σ H _ I h) λus s1 ⟨vs,H1,I1,r1,q1⟩=>hc pins s1 σ H1 vs us Q I1 r1 q1) he kr
theorem gQ (hc:ff X (.type T) r) (hg:Gl X x) (hm:X.mg x=none) (hv:bootBuiltins x=some (.type T)) (ha:PA X (e::es) t) (hn:x ≠ "__name__":=by decide) (rN:(x == ("__debug__" : Str))=false:=by decide)
 (he:starEach (e::es) X.env=(false,eval e X.env)::starEach es X.env:=by rfl) (kr:(backTo pos (starEach es X.env)).any (·.1)=false:=by rfl):PE X (.Call (.Name x p) (e::es) [] pos) (IE r t):=by
 intro pins s σ H Q I h
 refine wpAny_Call_Name_kw (fG I hg hm hv ?_ hn rN)
 exact PyProof.Rows.callWith_type1 (aG (ha pos pins s σ H _ I h) λus s1 ⟨vs,H1,I1,r1,q1⟩=>hc pins s1 σ H1 vs us Q I1 r1 q1) he kr
end
end L2
namespace L2
open PySem PySem.Spec PyProof.Rows
section
variable {κ:Type}[DecidableEq κ]
def aX (kvs:List (κ×V)) (k:κ):Option V:=(kvs.find? λkv=>decide (kv.1=k)).map (·.2)
def putK (kvs:List (κ×V)) (k:κ) (v:V):List (κ×V):=
 if (kvs.any λkv=>decide (kv.1=k))=true then kvs.map (λkv=>if kv.1=k then (kv.1,v) else kv) else kvs++[(k,v)]
theorem bU {p:κ×V}{r:List (κ×V)}{k:κ}(e:p.1=k):aX (p::r) k=some p.2:=by simp [aX,List.find?_cons,e]
theorem bJ {p:κ×V}{r:List (κ×V)}{k:κ}(e:¬ p.1=k):aX (p::r) k=aX r k:=by simp [aX,List.find?_cons,e]
theorem iL (k:κ):∀kvs:List (κ×V),(kvs.any λkv=>decide (kv.1=k))=(aX kvs k).isSome
 | []=>rfl
 | p::r=>by
  rw [List.any_cons]
  by_cases e:p.1=k
  . simp only [bU e,decide_eq_true e,Bool.true_or,Option.isSome_some]
  . rw [bJ e,decide_eq_false e,Bool.false_or]; exact iL k r
theorem rP (k j:κ) (y:V):∀kvs:List (κ×V),aX (kvs.map λkv=>if kv.1=k then (kv.1,y) else kv) j=(aX kvs j).map λx=>if j=k then y else x
 | []=>rfl
 | p::r=>by
  have ih:=rP k j y r
  rw [List.map_cons]
  by_cases h:p.1=k
  . rw [if_pos h]
    by_cases e:p.1=j
    . rw [bU (p:=(p.1,y)) e,bU e,Option.map_some,if_pos (e.symm.trans h)]
    . rw [bJ (p:=(p.1,y)) e,bJ e,ih]
  . rw [if_neg h]
    by_cases e:p.1=j
    . rw [bU (p:=p) e,bU e,Option.map_some,if_neg (λz=>h (e.trans z))]
    . rw [bJ (p:=p) e,bJ e,ih]
theorem lr (k j:κ) (y:V):∀kvs:List (κ×V),aX kvs k=none->aX (kvs++[(k,y)]) j=if j=k then some y else aX kvs j
 | [],_=>by
  by_cases e:k=j
  . rw [if_pos e.symm]; exact bU (p:=(k,y)) e
  . rw [if_neg (λz=>e z.symm)]; exact bJ (p:=(k,y)) e
 | p::r,hn=>by
  rw [List.cons_append]
  have hk:¬ p.1=k:=λz=>by rw [bU z] at hn; cases hn
  rw [bJ hk] at hn
  have ih:=lr k j y r hn
  by_cases e:p.1=j
  . rw [bU e,bU e,if_neg (λz=>hk (e.trans z))]
  . rw [bJ e,bJ e,ih]
theorem nr (kvs:List (κ×V)) (k j:κ) (y:V):aX (putK kvs k y) j=if j=k then some y else aX kvs j:=by
 unfold putK
 by_cases a:(kvs.any λkv=>decide (kv.1=k))=true
 . rw [if_pos a,rP]
   rw [iL] at a
   by_cases e:j=k
   . obtain ⟨x,hx⟩:=Option.isSome_iff_exists.mp a
     rw [if_pos e,e,hx,Option.map_some,if_pos rfl]
   . rw [if_neg e]
     cases aX kvs j with
     | none=>rfl
     | some x=>rw [Option.map_some,if_neg e]
 . rw [if_neg a]
   refine lr k j y kvs ?_
   rw [iL] at a
   cases q:aX kvs k with
   | none=>rfl
   | some x=>rw [q] at a; exact (a rfl).elim
theorem eT (kvs:List (κ×V)) (k:κ) (v:V):(putK kvs k v).length<=kvs.length+1:=by
 unfold putK
 split
 . rw [List.length_map]; omega
 . rw [List.length_append,List.length_cons,List.length_nil]; omega
theorem nu {kvs:List (κ×V)}{k:κ}(v:V) (h:aX kvs k=none):putK kvs k v=kvs++[(k,v)]:=by
 unfold putK
 rw [iL,h]
 exact if_neg (by decide)
theorem dm.xZ {o:Option V}{u:Option Value}(r:dm o u):o.isSome=u.isSome:=by
 cases o with
 | none=>cases u with
  | none=>rfl
  | some _=>exact (show False from r).elim
 | some _=>cases u with
  | none=>exact (show False from r).elim
  | some _=>rfl
theorem dm.getD {o:Option V}{u:Option Value}{d:V}{d':Value}(r:dm o u) (rd:RelV d d'):RelV (o.getD d) (u.getD d'):=by
 cases o with
 | none=>cases u with
  | none=>exact rd
  | some _=>exact (show False from r).elim
 | some _=>cases u with
  | none=>exact (show False from r).elim
  | some _=>exact r
theorem KV.val {kvs:List (κ×V)}{vs:List (κ×Value)}(r:KV kvs vs) (k:κ):dm (aX kvs k) (valueAt vs k):=by
 unfold KV at r
 induction r with
 | nil=>exact True.intro
 | @cons p q ps qs h t ih=>
  obtain ⟨h1,h2⟩:=h
  by_cases e:p.1=k
  . have e':q.1=k:=h1.symm.trans e
    have b:valueAt (q::qs) k=some q.2:=by simp [valueAt,List.find?_cons,e']
    rw [bU e,b]; exact h2
  . have e':¬ q.1=k:=λz=>e (h1.trans z)
    have b:valueAt (q::qs) k=valueAt qs k:=by simp [valueAt,List.find?_cons,e']
    rw [bJ e,b]; exact ih
theorem KV.any {kvs:List (κ×V)}{vs:List (κ×Value)}(r:KV kvs vs) (k:κ):(kvs.any λkv=>decide (kv.1=k))=vs.any λkv=>decide (kv.1=k):=by
 unfold KV at r
 induction r with
 | nil=>rfl
 | cons h t ih=>rw [List.any_cons,List.any_cons,ih,h.1]
theorem KV.zN {kvs:List (κ×V)}{vs:List (κ×Value)}(r:KV kvs vs) (k:κ){y:V}{u:Value}(ry:RelV y u) :
 KV (kvs.map λkv=>if kv.1=k then (kv.1,y) else kv) (vs.map λkv=>if kv.1=k then (kv.1,u) else kv):=by
 unfold KV at r ⊢
 induction r with
 | nil=>exact .nil
 | @cons p q ps qs h t ih=>
  rw [List.map_cons,List.map_cons]
  refine .cons ?_ ih
  obtain ⟨h1,h2⟩:=h
  by_cases e:p.1=k
  . rw [if_pos e,if_pos (h1.symm.trans e)]; exact ⟨h1,ry⟩
  . rw [if_neg e,if_neg (λz=>e (h1.trans z))]; exact ⟨h1,h2⟩
theorem KV.put {kvs:List (κ×V)}{vs:List (κ×Value)}(r:KV kvs vs) (k:κ){y:V}{u:Value}(ry:RelV y u):KV (putK kvs k y) (stored vs k u):=by
 unfold putK stored
 rw [r.any k]
 by_cases e:(vs.any λkv=>decide (kv.1=k))=true
 . rw [if_pos e,if_pos e]; exact r.zN k ry
 . rw [if_neg e,if_neg e]; exact Paired.snoc r ⟨rfl,ry⟩
theorem KV.length {kvs:List (κ×V)}{vs:List (κ×Value)}(r:KV kvs vs):kvs.length=vs.length:=Paired.length r
end
theorem jU {P:Program}{w:World}{k:Key}{u:Value}(r:RelV (kV k) u):(ba P w).is k u=true:=by
 cases k with
 | inl i=>obtain ⟨t,e⟩:=(show ∃t,u=Value.int i t from r); subst e; exact uM P w i t
 | inr x=>obtain ⟨t,e⟩:=(show ∃t,u=Value.str x t from r); subst e; exact uN P w x t
theorem qg {P:Program}{w:World} : ∀{ks:List Key}{us:List Value},Vals (ks.map kV) us->ItemsAre (ba P w) ks us
 | [],_,r=>by rw [List.map_nil] at r; cases r; exact .nil
 | k::ks,_,r=>by
  rw [List.map_cons] at r
  cases r with
  | cons h t=>exact .cons (jU h) (qg t)
abbrev KT (H:Hp):List (List Key×V)->List (List Key×Addr×Value)->Prop:=Paired λp q=>p.1=q.1/\H q.2.1=some (.tup (p.1.map kV))/\RelV p.2 q.2.2
theorem KT.val {H:Hp}{kvs:List (List Key×V)}{xs:List (List Key×Addr×Value)}(r:KT H kvs xs) (k:List Key):dm (aX kvs k) ((atKey xs k).map (·.2)):=by
 induction r with
 | nil=>exact True.intro
 | @cons p q ps qs h t ih=>
  obtain ⟨h1,_,h2⟩:=h
  by_cases e:p.1=k
  . have e':q.1=k:=h1.symm.trans e
    have b:atKey (q::qs) k=some q.2:=by simp [atKey,List.find?_cons,e']
    rw [bU e,b]; exact h2
  . have e':¬ q.1=k:=λz=>e (h1.trans z)
    have b:atKey (q::qs) k=atKey qs k:=by simp [atKey,List.find?_cons,e']
    rw [bJ e,b]; exact ih
theorem KT.zN {H:Hp}{kvs:List (List Key×V)}{xs:List (List Key×Addr×Value)}(r:KT H kvs xs) (k:List Key){y:V}{u:Value}(ry:RelV y u) :
 KT H (kvs.map λkv=>if kv.1=k then (kv.1,y) else kv) (xs.map (putAt k u)):=by
 induction r with
 | nil=>exact .nil
 | @cons p q ps qs h t ih=>
  rw [List.map_cons,List.map_cons]
  refine .cons ?_ ih
  obtain ⟨h1,h2,h3⟩:=h
  unfold putAt
  by_cases e:p.1=k
  . rw [if_pos e,if_pos (h1.symm.trans e)]; exact ⟨h1,h2,ry⟩
  . rw [if_neg e,if_neg (λz=>e (h1.trans z))]; exact ⟨h1,h2,h3⟩
theorem KT.put {H:Hp}{kvs:List (List Key×V)}{xs:List (List Key×Addr×Value)}(r:KT H kvs xs) (k:List Key){b:Addr}{y:V}{u:Value}(hb:H b=some (.tup (k.map kV))) (ry:RelV y u) :
 KT H (putK kvs k y) (storedH xs k b u):=by
 have e:(kvs.any λkv=>decide (kv.1=k))=(atKey xs k).isSome:=by
  rw [iL,(r.val k).xZ,Option.isSome_map]
 unfold putK storedH
 rw [e]
 by_cases q:(atKey xs k).isSome=true
 . rw [if_pos q,if_pos q]; exact r.zN k ry
 . rw [if_neg q,if_neg q]; exact Paired.snoc r ⟨rfl,hb,ry⟩
theorem KT.keeps {H H':Hp}{kvs:List (List Key×V)}{xs:List (List Key×Addr×Value)}(r:KT H kvs xs) (ht:∀b ys,H b=some (.tup ys)->H' b=some (.tup ys)):KT H' kvs xs:=
 Paired.dX r λ_ _ z=>⟨z.1,ht _ _ z.2.1,z.2.2⟩
section
variable {P:Program}{w:World}{H:Hp}{h:Heap}{a:Addr}
theorem AL {u:HO}(ok:cN P w H h) (e:Rd H a u):bh P w H h a u:=e.ok ok
theorem lW {kvs:List (Key×V)}(ok:cN P w H h) (e:Rd H a (.dK kvs)):kvs.length<=sizeLine/\(a == sysModules)=false/\∃vs,KV kvs vs/\h.DictOf (ba P w) a vs:=
 show bh P w H h a (.dK kvs) from AL ok e
theorem AM {kvs:List (Key×V)}(ok:cN P w H h) (e:H a=some (.dK kvs)):kvs.length<=sizeLine/\(a == sysModules)=false/\∃vs,KV kvs vs/\h.DictOf (ba P w) a vs:=lW ok (.inl e)
theorem og {ks:List Key}(ok:cN P w H h) (e:H a=some (.tup (ks.map kV))):(tupleKind (ba P w)).is h ks a:=by
 obtain ⟨_,its,r,o,h1,h2,n,h3⟩:=(show bh P w H h a (.tup (ks.map kV)) from ok a _ e)
 exact ⟨o,its.toArray,n,h1,h2,h3,by simpa using qg r⟩
theorem oh {kvs:List (List Key×V)}(ok:cN P w H h) (e:Rd H a (.dT kvs)):kvs.length<=sizeLine/\(a == sysModules)=false/\
 ∃xs,KT H kvs xs/\h.DictOfH (tupleKind (ba P w)) a xs:=by
 obtain ⟨z,y,xs,r,o,es,ep,h1,h2,h3,h4,h5⟩:=(show bh P w H h a (.dT kvs) from AL ok e)
 refine ⟨z,y,xs,r,o,es,ep,h1,h2,h3,h4,λx hx=>?_,h5⟩
 have all:∀{l:List (List Key×V)}{m:List (List Key×Addr×Value)},KT H l m->∀x∈m,(tupleKind (ba P w)).is h x.1 x.2.1:=by
  intro l m q
  induction q with
  | nil=>intro x hx; exact nomatch hx
  | @cons p q ps qs hq t ih=>
   intro x hx
   rcases List.mem_cons.mp hx with e | hx
   . subst e
     exact og ok (by rw [← hq.1]; exact hq.2.1)
   . exact ih x hx
 exact all r x hx
theorem GK {kvs:List (List Key×V)}(ok:cN P w H h) (e:H a=some (.dT kvs)):kvs.length<=sizeLine/\(a == sysModules)=false/\
 ∃xs,KT H kvs xs/\h.DictOfH (tupleKind (ba P w)) a xs:=oh ok (.inl e)
end
def fj (H:Hp) (a:Addr) (y:V) (r:Option V):Prop:=
 (∃kvs k,Rd H a (.dK kvs)/\y=kV k/\r=aX kvs k)\/∃kvs k b,Rd H a (.dT kvs)/\y=.ref b/\H b=some (.tup (k.map kV))/\r=aX kvs k
def jj (H:Hp) (a:Addr) (y v:V) (H':Hp):Prop:=
 (∃kvs k,H a=some (.dK kvs)/\y=kV k/\kvs.length<sizeLine/\H'=upd H a (.dK (putK kvs k v)))\/
 ∃kvs k b,H a=some (.dT kvs)/\y=.ref b/\H b=some (.tup (k.map kV))/\kvs.length<sizeLine/\H'=upd H a (.dT (putK kvs k v))
theorem fj.k {H:Hp}{a:Addr}{kvs:List (Key×V)}{k:Key}(e:H a=some (.dK kvs)):fj H a (kV k) (aX kvs k):=.inl ⟨kvs,k,.inl e,rfl,rfl⟩
theorem fj.t {H:Hp}{a b:Addr}{kvs:List (List Key×V)}{k:List Key}(e:H a=some (.dT kvs)) (eb:H b=some (.tup (k.map kV))):fj H a (.ref b) (aX kvs k):=.inr ⟨kvs,k,b,.inl e,rfl,eb,rfl⟩
theorem jj.k {H:Hp}{a:Addr}{kvs:List (Key×V)}{k:Key}{v:V}(e:H a=some (.dK kvs)) (hl:kvs.length<sizeLine):jj H a (kV k) v (upd H a (.dK (putK kvs k v))):=.inl ⟨kvs,k,e,rfl,hl,rfl⟩
theorem jj.t {H:Hp}{a b:Addr}{kvs:List (List Key×V)}{k:List Key}{v:V}(e:H a=some (.dT kvs)) (eb:H b=some (.tup (k.map kV))) (hl:kvs.length<sizeLine) :
 jj H a (.ref b) v (upd H a (.dT (putK kvs k v))):=.inr ⟨kvs,k,b,e,rfl,eb,hl,rfl⟩
section
variable {X:Cx}{pins:List (Addr×Obj)}{σ:St}{H:Hp}{s:Shared}{a:Addr}{y v:V}{u r:Value}{o:Option V}{A:Around}{E:Value->Shared->Prop}
theorem Inv.big (I:Inv X pins σ H s):sysModules<s.heap.objs.size:=by
 have h:mainGlobals<s.heap.objs.size:=(I.mod.glob.keeps I.bk).lt
 exact Nat.lt_trans (by decide) h
theorem x6 {Q:Value->Shared->Prop}(hu:A.units+1<cLine) (I:Inv X pins σ H s) (g:fj H a y (some v)) (ry:RelV y u) (h:∀w' s',Inv X pins σ H s'->RelV v w'->Q w' s') :
 wpAny (model X.prog X.w) A (getItem (.ref a) u) Q E s:=by
 rcases g with ⟨kvs,k,e,ey,l⟩ | ⟨kvs,k,b,e,ey,eb,l⟩
 . subst ey
   obtain ⟨z,hd,vs,rel,dd⟩:=lW I.hok e
   obtain ⟨w',hw,jA⟩:=dm.some_of (v:=v) (o:=valueAt vs k) (by rw [l]; exact rel.val k)
   exact wpAny_getItem_of (jU ry) dd.mapOf hw (h w' _ (I.tok _) jA)
 . subst ey
   cases (show u=Value.ref b from ry)
   obtain ⟨z,hd,xs,rel,dd⟩:=oh I.hok e
   obtain ⟨w',hw,jA⟩:=dm.some_of (v:=v) (o:=(atKey xs k).map (·.2)) (by rw [l]; exact rel.val k)
   obtain ⟨p,hp,gU⟩:=Option.map_eq_some_iff.mp hw
   refine wpAny_getItem_heap (tupleKind_room_in1 hu) (og I.hok eb) dd hp ?_
   rw [gU]
   exact h w' _ (I.tok _) jA
theorem lX {h':Heap}{t':Nat}{ob:HO}(I:Inv X pins σ H s) (mu:xB (H a)) (hs:Heap.SameBut a s.heap h') (he:∃q,h'.get? a=some q) (new:bh X.prog X.w (upd H a ob) h' a ob) :
 Inv X pins σ (upd H a ob) { s with heap:=h',toks:=t' } :=
 I.write (x:=a) (e:=a) mu (.inl rfl) (λb q hb z=>(hs.2 b hb).trans z) he new
theorem oi {P:Program}{w:World}{H':Hp}{h':Heap}{kvs:List (Key×V)}{vs:List (Key×Value)}(z:kvs.length<=sizeLine) (hd:(a == sysModules)=false) (rel:KV kvs vs) (dd:h'.DictOf (ba P w) a vs) :
 bh P w H' h' a (.dK kvs):=⟨z,hd,vs,rel,dd⟩
theorem x8 {H':Hp}{Q:Unit->Shared->Prop}(hu:A.units+1<cLine) (I:Inv X pins σ H s) (g:jj H a y v H') (ry:RelV y u) (rv:RelV v r) (h:∀s',Inv X pins σ H' s'->Q () s') :
 wpAny (model X.prog X.w) A (setItem (.ref a) u r) Q E s:=by
 rcases g with ⟨kvs,k,e,ey,l,eH⟩ | ⟨kvs,k,b,e,ey,eb,l,eH⟩
 . subst ey eH
   obtain ⟨z,hd,vs,rel,dd⟩:=AM I.hok e
   have hz:vs.length<=sizeLine:=by rw [← rel.length]; exact z
   have hl:(putK kvs k v).length<=sizeLine:=by have:=eT kvs k v; omega
   refine wpAny_setItem_pairs (hsz:=hz) (jU ry) dd λh' om hs=>h _ ?_
   have he:∃q,h'.get? a=some q:=let ⟨q,_,_,hq,_⟩:=om; ⟨q,hq⟩
   exact lX I (by rw [e]; exact True.intro) hs he (oi hl hd (rel.put k rv) om)
 . subst ey eH
   cases (show u=Value.ref b from ry)
   obtain ⟨z,hd,xs,rel,dd⟩:=GK I.hok e
   have hz:xs.length<=sizeLine:=by rw [← Paired.length rel]; exact z
   have hl:(putK kvs k v).length<=sizeLine:=by have:=eT kvs k v; omega
   refine wpAny_setItem_heap (hsz:=hz) (tupleKind_room_in1 hu) (og I.hok eb) dd λh' om hs=>h _ ?_
   obtain ⟨q,es,ep,hq,h2,h3,h4,_,h5⟩:=om
   refine lX I (by rw [e]; exact True.intro) hs ⟨q,hq⟩ ⟨hl,hd,_,(rel.put k eb rv).keeps λc ys ec=>?_,q,es,ep,hq,h2,h3,h4,h5⟩
   rw [aj (dc ec e (λz=>nomatch z))]
   exact ec
end
section
variable {X:Cx}{pins:List (Addr×Obj)}{σ:St}{H:Hp}{s:Shared}{a:Addr}{kvs:List (Key×V)}{k:Key}{u:Value}{A:Around}{E:Value->Shared->Prop}
end
def Ds (i:Expr):Prop:=∀ov iv,subscripted i false ov iv=operate [ov,iv] (getItem ov iv)
theorem BZ {prog:Program}{w:World}{A:Around}{E:Value->Shared->Prop}{s:Shared}{env:Env}{value slice:Expr}{pos:Pos}{T id:String}{Q:Value->Shared->Prop}
 (hl:typeLookup (.type T) "__getitem__" = pure (some (.builtin id))) (hs:Ds slice)
 (h:wpAny (model prog w) A (eval value env) (λo cz=>wpAny (model prog w) A (eval slice env) (λi pD=>pD.TypeIs o T/\wpAny (model prog w) A (getItem o i) Q E pD) E cz) E s) :
 wpAny (model prog w) A (eval (.Subscript value slice pos) env) Q E s:=by
 refine Subscript_ (wpAny_mono h (λo cz eI=>wpAny_mono eI (λi pD ig=>?_) λ_ _ x=>x) λ_ _ x=>x)
 obtain ⟨hT,ig⟩:=ig
 unfold subscriptTail
 refine wpAny_bind ?_
 rw [getitemInPython_of_ne hT.not_modules]
 refine wpAny_bind (wpAny_specialOf hT hl ?_)
 have fin:wpAny (model prog w) A (subscripted slice false o i) (λr B0=>wpAny (model prog w) A (letTemporaryGo value o r >>= λ_=>pure r) Q E B0) E pD:=by
  rw [hs o i]
  exact wpAny_operating (wpAny_mono ig (λr B0 gk=>wpAny_bind (wpAny_letTemporaryGo (wpAny_pure gk))) λ_ _ x=>x)
 first
  | exact wpAny_pure (wpAny_bind fin)
  | exact wpAny_bind (wpAny_pure (wpAny_bind fin))
  | exact wpAny_bind fin
theorem uO {X:Cx}{pins:List (Addr×Obj)}{σ:St}{H:Hp}{s:Shared}{a:Addr}{y:V}{o:Option V}(I:Inv X pins σ H s) (g:fj H a y o):s.TypeIs (.ref a) "dict":=by
 rcases g with ⟨kvs,k,e,_,_⟩ | ⟨kvs,k,b,e,_,_,_⟩
 . obtain ⟨_,_,vs,_,dd⟩:=lW I.hok e
   exact dd.typeIs
 . obtain ⟨_,_,xs,_,dd⟩:=oh I.hok e
   exact dd.typeIs
def AN (td ty:TE):TE:=λσ H Q=>td σ H λx H1=>ty σ H1 λy H2=>∃a v,x=.ref a/\fj H2 a y (some v)/\Q v H2
def GL (td ty tv:TE):TS:=λD σ H=>tv σ H λv H1=>td σ H1 λx H2=>ty σ H2 λy H3=>∃a H4,x=.ref a/\jj H3 a y v H4/\D.nx σ H4
section
variable {X:Cx}{o i e value:Expr}{pos pos' KU:Pos}{td ty tv:TE}
theorem pF (hu:X.A.units+1<cLine) (ho:PE X o td) (hi:PE X i ty) (hs:Ds i):PE X (.Subscript o i pos) (AN td ty):=by
 intro pins s σ H Q I h
 refine BZ PySem.F.slot_dict_getitem.lookup hs (aG (ho pins s σ H _ I h) λu s1 ⟨x,H1,I1,rx,q1⟩=>aG (hi pins s1 σ H1 _ I1 q1) λiv s2 ⟨y,H2,I2,ry,a,v,ex,g,q2⟩=>?_)
 subst ex
 obtain rfl:u=Value.ref a:=rx
 exact ⟨uO I2 g,x6 hu I2 g ry λw' s3 I3 jA=>⟨v,H2,I3,jA,q2⟩⟩
theorem lY (hu:X.A.units+1<cLine) (ho:PE X o td) (hi:PE X i ty) (hv:PE X value tv) (hs:swapsWith value (some (.Subscript o i pos')) pos.line X.env=pure false) :
 PS X (.Assign [.Subscript o i pos'] value pos) (GL td ty tv):=by
 intro pins s σ H D I h
 refine wpAny_Assign_Subscript (aG (hv pins s σ H _ I h) λr s1 ⟨v,H1,I1,rv,q1⟩=>aG (ho pins s1 σ H1 _ I1 q1) λu s2 ⟨x,H2,I2,rx,q2⟩=>aG (hi pins s2 σ H2 _ I2 q2) λiv s3 ⟨y,H3,I3,ry,a,H4,ex,g,q3⟩=>?_) hs
 subst ex
 obtain rfl:u=Value.ref a:=rx
 exact x8 hu I3 g ry rv λs4 I4=>⟨σ,H4,I4,q3⟩
end
theorem zO {P:Program}{w:World}{H:Hp}(h:Heap) (hb:sysModules<h.objs.size):bh P w H (h.push { cls:=.type "dict",data:=.dict #[] }) h.objs.size (.dK []):=
 ⟨Nat.zero_le _,beq_eq_false_iff_ne.mpr (Ne.symm (Nat.ne_of_lt hb)),[],.nil,Heap.DictOf.new h⟩
theorem zP {P:Program}{w:World}{H:Hp}(h:Heap) (hb:sysModules<h.objs.size):bh P w H (h.push { cls:=.type "dict",data:=.dict #[] }) h.objs.size (.dT []):=
 ⟨Nat.zero_le _,beq_eq_false_iff_ne.mpr (Ne.symm (Nat.ne_of_lt hb)),[],.nil,_,#[],0,Heap.get?_push_size _ rfl,⟨rfl,rfl,rfl⟩,rfl,rfl,List.nodup_nil⟩
def Dt:TE:=λ_ H Q=>∀p,H p=none->Q (.ref p) (upd H p (.dT []))
section
variable {X:Cx}{pos:Pos}
theorem rQ:PE X (.Dict [] [] pos) Dt:=λpins s σ H Q I h=>
 wpAny_Dict_empty ⟨.ref s.heap.objs.size,_,I.laid (a:=s.heap.objs.size) (o:=.dT []) (t':=s.toks) (λ_ _ q=>Heap.get?_push_of_some _ q) (Nat.le_refl _) (zP s.heap I.big),rfl,h _ (I.hok.fresh (Nat.le_refl _))⟩
end
def rS:List (TE×TE)->St->Hp->(List (V×V)->Hp->Prop)->Prop
 | [],_,H,Q=>Q [] H
 | (tk,tv)::r,σ,H,Q=>tk σ H λx H1=>tv σ H1 λy H2=>rS r σ H2 λps H3=>Q ((x,y)::ps) H3
abbrev VV:List (V×V)->List (Value×Value)->Prop:=Paired λp q=>RelV p.1 q.1/\RelV p.2 q.2
def AO (X:Cx) (pos:Pos) (keys:List (Option Expr)) (values:List Expr) (oo:List (TE×TE)):Prop:=
 ∀(pins:List (Addr×Obj)) (s:Shared) (σ:St) (H:Hp) (Q:List (V×V)->Hp->Prop),Inv X pins σ H s->rS oo σ H Q->
  wpAny (model X.prog X.w) X.A (evalPairs (pairTrees keys values X.env pos)) (λvs s'=>∃ps H',Inv X pins σ H' s'/\VV ps vs/\Q ps H') X.xe s
theorem B5 {X:Cx}{pos:Pos} : AO X pos [] [] []:=λpins s σ H Q I h=>pairTrees_nil_walk ⟨[],H,I,.nil,h⟩
theorem rT {X:Cx}{pos:Pos}{k v:Expr}{ks:List (Option Expr)}{vs:List Expr}{tk tv:TE}{oo:List (TE×TE)}(hk:PE X k tk) (hv:PE X v tv) (hr:AO X pos ks vs oo) :
 AO X pos (some k::ks) (v::vs) ((tk,tv)::oo):=λpins s σ H Q I h=>
 pairTrees_cons_walk (aG (hk pins s σ H _ I h) λu s1 ⟨x,H1,I1,rx,q1⟩=>aG (hv pins s1 σ H1 _ I1 q1) λw2 s2 ⟨y,H2,I2,ry,q2⟩=>
  aG (hr pins s2 σ H2 _ I2 q2) λws s3 ⟨ps,H3,I3,rel,q3⟩=>⟨(x,y)::ps,H3,I3,.cons ⟨rx,ry⟩ rel,q3⟩)
def bZ (kvs more:List (Key×V)):List (Key×V):=more.foldl (λacc kv=>putK acc kv.1 kv.2) kvs
theorem KV.merge:∀{more:List (Key×V)}{rs:List (Key×Value)}{kvs:List (Key×V)}{vs:List (Key×Value)},KV more rs->KV kvs vs->KV (bZ kvs more) (merged vs rs):=by
 intro more rs kvs vs r
 unfold KV at r
 induction r generalizing kvs vs with
 | nil=>intro q; exact q
 | @cons p q ps qs h t ih=>
  intro r0
  have e:KV (putK kvs p.1 p.2) (stored vs q.1 q.2):=by
   have:=r0.put p.1 h.2
   rw [← h.1]; exact this
  exact ih e
theorem fg:∀(more kvs:List (Key×V)),(bZ kvs more).length<=kvs.length+more.length
 | [],kvs=>by show kvs.length<=kvs.length+0; omega
 | p::r,kvs=>by
  have h1:=fg r (putK kvs p.1 p.2)
  have h2:=eT kvs p.1 p.2
  show (bZ (putK kvs p.1 p.2) r).length<=_
  rw [List.length_cons]; omega
theorem oq {P:Program}{w:World} : ∀{kvs:List (Key×V)}{ws:List (Value×Value)},VV (kvs.map λkv=>(kV kv.1,kv.2)) ws->∃rs,Carries (ba P w) ws rs/\KV kvs rs
 | [],_,r=>by rw [List.map_nil] at r; cases r; exact ⟨[],True.intro,.nil⟩
 | p::kvs,_,r=>by
  rw [List.map_cons] at r
  cases r with
  | @cons a b as bs h t=>
   obtain ⟨rs,c,q⟩:=oq (P:=P) (w:=w) t
   obtain ⟨b1,b2⟩:=b
   exact ⟨(p.1,b2)::rs,⟨jU h.1,rfl,c⟩,.cons ⟨rfl,h.2⟩ q⟩
def GN (oo:List (TE×TE)):TE:=λσ H Q=>∀p,H p=none->rS oo σ (upd H p (.dK [])) λps H2=>H2 p=some (.dK [])/\∃kvs:List (Key×V),ps=kvs.map (λkv=>(kV kv.1,kv.2))/\kvs.length<=15/\Q (.ref p) (upd H2 p (.dK (bZ [] kvs)))
theorem B6 {X:Cx}{pos:Pos}{keys:List (Option Expr)}{values:List Expr}{oo:List (TE×TE)}(h:AO X pos keys values oo) (gm:keys.all (·.isSome)=true) (hl:keys.length=values.length) (h0:keys≠[])
 (N4:keys.length<=15):PE X (.Dict keys values pos) (GN oo):=by
 intro pins s σ H Q I q
 have hn:=I.hok.fresh (Nat.le_refl s.heap.objs.size)
 have I1:=I.laid (a:=s.heap.objs.size) (o:=.dK []) (h':=s.heap.push { cls:=.type "dict",data:=.dict #[] }) (t':=s.toks) (λ_ _ q=>Heap.get?_push_of_some _ q) (Nat.le_refl _) (zO s.heap I.big)
 refine wpAny_Dict_walk (knd:=ba X.prog X.w) gm hl h0 N4 (aG (h pins _ σ _ _ I1 (q _ hn)) λws s2 ⟨ps,H2,I2,rel,e,kvs,ep,lk,q2⟩=>?_)
 subst ep
 obtain ⟨rs,c,rk⟩:=oq (P:=X.prog) (w:=X.w) rel
 obtain ⟨z,hd,RX,r0,dd⟩:=AM I2.hok e
 cases r0
 refine ⟨rs,c,dd,λh' om hs=>⟨.ref s.heap.objs.size,_,?_,rfl,q2⟩⟩
 have hz:(bZ [] kvs).length<=sizeLine:=by
  have h1:=fg kvs []
  rw [List.length_nil] at h1
  rw [sizeLine_eq]; omega
 have he:∃q,h'.get? s.heap.objs.size=some q:=let ⟨q,_,_,hq,_⟩:=om; ⟨q,hq⟩
 exact lX I2 (by rw [e]; exact True.intro) hs he (oi hz hd (rk.merge .nil) om)
structure M1 (X:Cx) (o:Expr) (m:Str) (apos:Pos) (e:Expr) (d4:Pos):Prop where
 base:attributeBase o m X.env (eval o X.env)=eval o X.env
 ou:((backTo d4 (starEach [e] X.env)).all (λx=>!x.1) && (backToKw d4 (keywordEach [] X.env)).all (λx=>x.1.isSome)
  && decide (([e]:List Expr).length+([]:List Keyword).length+(if ([]:List Keyword).isEmpty then 0 else 1)<30))=true
 line:(apos.endLine == d4.line)=true
 trees:backTo d4 (starEach [e] X.env)=[(false,eval e X.env)]
def IF (H:Hp) (a:Addr):Prop:=(∃kvs,Rd H a (.dK kvs))\/∃kvs,Rd H a (.dT kvs)
theorem Du {X:Cx}{pins:List (Addr×Obj)}{σ:St}{H:Hp}{s:Shared}{a:Addr}(I:Inv X pins σ H s) (d:IF H a) :
 s.TypeIs (.ref a) "dict" /\ (∀b,Value.ref a=.ref b->∃ob,s.heap.get? b=some ob/\ob.dict=none)/\(a == sysModules)=false:=by
 rcases d with ⟨kvs,e⟩ | ⟨kvs,e⟩
 . obtain ⟨_,hd,vs,_,dd⟩:=lW I.hok e
   refine ⟨dd.typeIs,λb q=>?_,hd⟩
   cases q
   obtain ⟨ob,_,_,h1,h2,_⟩:=dd
   exact ⟨ob,h1,h2.2.1⟩
 . obtain ⟨_,hd,xs,_,dd⟩:=oh I.hok e
   refine ⟨dd.typeIs,λb q=>?_,hd⟩
   cases q
   obtain ⟨ob,_,_,h1,h2,_⟩:=dd
   exact ⟨ob,h1,h2.2.1⟩
section
variable {X:Cx}{pins:List (Addr×Obj)}{σ:St}{H:Hp}{s:Shared}{a:Addr}{y d:V}{u r:Value}{o:Option V}{A:Around}{E:Value->Shared->Prop}
theorem Dv {Q:Value->Shared->Prop}(hu:A.units+1<cLine) (I:Inv X pins σ H s) (g:fj H a y o) (ry:RelV y u) (h:∀w' s',Inv X pins σ H s'->RelV (o.getD .aS) w'->Q w' s') :
 wpAny (model X.prog X.w) A (call (.builtin "dict.get") [.ref a,u]) Q E s:=by
 rcases g with ⟨kvs,k,e,ey,l⟩ | ⟨kvs,k,b,e,ey,eb,l⟩
 . subst ey
   obtain ⟨z,hd,vs,rel,dd⟩:=lW I.hok e
   refine call_meetsIn PySem.F.slot_dict_get dd.typeIs PySem.F.entry_dict_get (PySem.F.args_dict_get_2 _ _) (meets_dict_get (ba X.prog X.w) a (jU ry) hd) ⟨_,dd.mapOf,h _ _ (I.tok _) ?_⟩
   rw [l]
   exact (rel.val k).getD rfl
 . subst ey
   cases (show u=Value.ref b from ry)
   obtain ⟨z,hd,xs,rel,dd⟩:=oh I.hok e
   refine call_meetsIn PySem.F.slot_dict_get dd.typeIs PySem.F.entry_dict_get (PySem.F.args_dict_get_2 _ _) (meetsH_dict_get (tupleKind (ba X.prog X.w)) a b hd) ⟨tupleKind_room_in1 hu,k,xs,og I.hok eb,dd,h _ _ (I.tok _) ?_⟩
   rw [l]
   exact (rel.val k).getD rfl
end
def Dw (td ty:TE):TE:=λσ H Q=>td σ H λx H1=>∃a,x=.ref a/\IF H1 a/\ty σ H1 λy H2=>∃o,fj H2 a y o/\Q (o.getD .aS) H2
section
variable {X:Cx}{o e f:Expr}{apos d4:Pos}{td ty tx:TE}
theorem nv (hu:X.A.units+1<cLine) (ho:PE X o td) (he:PE X e ty) (m:M1 X o "get" apos e d4):PE X (.Call (.Attribute o "get" apos) [e] [] d4) (Dw td ty):=by
 intro pins s σ H Q I h
 refine wpAny_Call_method m.base m.ou m.line PySem.F.plainAttrs_dict PySem.F.slot_dict_get PySem.F.type_dict_get (aG (ho pins s σ H _ I h) λu s1 ⟨x,H1,I1,rx,a,ex,d,q1⟩=>?_)
 subst ex
 obtain rfl:u=Value.ref a:=rx
 obtain ⟨t1,t2,_⟩:=Du I1 d
 refine ⟨t1,t2,?_⟩
 rw [m.trees]
 refine Calls.callWith_builtin rfl (Calls.evalArgs_plain (Calls.spliced_cons (aG (he pins s1 σ H1 _ I1 q1) λiv s2 ⟨y,H2,I2,ry,ov,g,q2⟩=>Calls.spliced_nil ?_)))
 exact Dv hu I2 g ry λw' s3 I3 jA=>⟨_,H2,I3,jA,q2⟩
end
section
variable {X:Cx}{pins:List (Addr×Obj)}{σ:St}{H:Hp}{s:Shared}{a:Addr}{kvs:List (Key×V)}{A:Around}{E:Value->Shared->Prop}
end
section
variable {X:Cx}{pins:List (Addr×Obj)}{σ:St}{H:Hp}{s:Shared}{a:Addr}{y:V}{u:Value}{A:Around}{E:Value->Shared->Prop}
end
end L2
namespace HT
open PySem PyProof.Rows
def lexLt:List Int->List Int->Bool
 | [],[]=>false
 | [],_::_=>true
 | _::_,[]=>false
 | x::xs,y::ys=>if x=y then lexLt xs ys else decide (x<y)
theorem iC (x y:Int) (xs ys:List Int):lexLt (x::xs) (y::ys)=if x=y then lexLt xs ys else decide (x<y):=rfl
theorem qS:lexLt [] []=false:=rfl
section
open PySem.SeqAt
open PySem.AutoSeq1 (wpAny_loadPart')
open PySem.MeetsSeq PySem.MeetsSeq2 PySem.MeetsSeq3
end
section
variable {prog:Program}{w:World}{A:Around}{E:Value->Shared->Prop}{s:Shared}
theorem B7 {t b:Addr}{vs ws:List Value}{Q:Value->Shared->Prop}(ht:IsTup s.heap t vs.toArray) (hb:IsTup s.heap b ws.toArray) (hv:vs≠[])
 (h1:ws=[]->Q (.ref t) s) (h2:ws≠[]->Q (.ref s.heap.objs.size) { s with heap:=s.heap.push { cls:=.type "tuple",data:=.seq (vs++ws).toArray } })
 (hsz:vs.length+ws.length<=sizeLine):wpAny (model prog w) A (binaryOp .Add (.ref t) (.ref b)) Q E s:=by
 obtain ⟨⟨cls,dd,data,sl⟩,ho,hc,n,hd⟩:=id ht
 obtain ⟨⟨KY,AQ,data2,vd⟩,rU,x9,n2,hd2⟩:=id hb
 simp only at hc hd x9 hd2
 subst hc hd x9 hd2
 have e:vs.toArray++ws.toArray=(vs++ws).toArray:=by simp
 by_cases hw:ws=[]
 . exact concat_meets ⟨_,ho,rfl⟩ ⟨_,rU,rfl⟩ noFill_tuple_add seq_tuple_add PySem.F.slot_tuple_add PySem.F.entry_tuple_add (PySem.F.args_tuple_add_2 _ _)
    (tuple_addW1 t b vs.toArray ws.toArray n n2 dd AQ sl vd (by simpa using hv) (by simp [hw])) ⟨ho,rU,h1 hw⟩
 . refine concat_meets ⟨_,ho,rfl⟩ ⟨_,rU,rfl⟩ noFill_tuple_add seq_tuple_add PySem.F.slot_tuple_add PySem.F.entry_tuple_add (PySem.F.args_tuple_add_2 _ _)
    (tuple_addW2 t b vs.toArray ws.toArray n n2 dd AQ sl vd (by simpa using hv) (by simpa using hw) (by rw [List.size_toArray,List.size_toArray]; exact hsz)) ⟨ho,rU,?_⟩
   rw [e]
   exact h2 hw
def gW (n d:Nat):Option Int->Nat
 | none=>d
 | some v=>if v<0 then (v+(n:Int)).toNat else min v.toNat n
theorem rV (n d:Nat):gW n d none=d:=rfl
theorem ve (n d k:Nat):gW n d (some (k:Int))=min k n:=by
 show (if (k:Int)<0 then ((k:Int)+(n:Int)).toNat else min (k:Int).toNat n)=min k n
 rw [if_neg (by omega),Int.toNat_natCast]
end
end HT
namespace L2
open PySem PySem.Spec PyProof.Rows
abbrev TO:=St->Hp->(Option Int->Hp->Prop)->Prop
def PO (X:Cx) (e:Option Expr) (t:TO):Prop:=
 ∀(pins:List (Addr×Obj)) (s:Shared) (σ:St) (H:Hp) (Q:Option Int->Hp->Prop),Inv X pins σ H s->t σ H Q->
  wpAny (model X.prog X.w) X.A (evalPart e X.env) (λu s'=>∃o H',Inv X pins σ H' s'/\IsPart u o/\Q o H') X.xe s
def B8:TO:=λ_ H Q=>Q none H
def GO (t:TE):TO:=λσ H Q=>t σ H λx H1=>∃i,x=.int i/\Q (some i) H1
theorem intsAre_of {ns:List Int} : ∀{us:List Value},Vals (ns.map V.int) us->IntsAre us ns:=by
 induction ns with
 | nil=>intro us r; rw [List.map_nil] at r; cases r; exact .nil
 | cons n ns ih=>
  intro us r
  rw [List.map_cons] at r
  cases r with
  | cons r1 r2=>
   obtain ⟨t,e⟩:=r1
   subst e
   exact .cons n t (ih r2)
section
variable {X:Cx}{e:Expr}{te:TE}{lo hi:Option Expr}{tl th:TO}{pos p2:Pos}
theorem fo:PO X none B8:=by
 intro pins s σ H Q I h
 rw [evalPart_none]
 exact wpAny_pure ⟨none,H,I,.none,h⟩
theorem dW (h:PE X e te):PO X (some e) (GO te):=by
 intro pins s σ H Q I hw
 rw [evalPart_some]
 refine aG (h pins s σ H _ I hw) λu s1 ⟨x,H1,I1,r1,q1⟩=>?_
 obtain ⟨i,rfl,q⟩:=q1
 obtain ⟨t,rfl⟩:=r1
 exact ⟨some i,H1,I1,.int i t,q⟩
def Dx (X:Cx) (r:V->Option Int->Option Int->Hp->VK->Prop):Prop:=
 ∀(pins:List (Addr×Obj)) (s:Shared) (σ:St) (H:Hp) (x:V) (v vl vu:Value) (lo hi:Option Int) (sl:Addr) (Q:VK),Inv X pins σ H s->RelV x v->s.heap.IsSliceOf sl vl vu .none->IsPart vl lo->IsPart vu hi->r x lo hi H Q->
  ∃T id,typeLookup (.type T) "__getitem__" = pure (some (.builtin id))/\s.TypeIs v T/\wpAny (model X.prog X.w) X.A (getItem v (.ref sl)) (EP X pins σ Q) X.xe s
def N5 (r:V->Option Int->Option Int->Hp->VK->Prop) (te:TE) (tl th:TO):TE:=λσ H Q=>te σ H λx H1=>tl σ H1 λl H2=>th σ H2 λu H3=>r x l u H3 Q
theorem du {r:V->Option Int->Option Int->Hp->VK->Prop}(hr:Dx X r) (he:PE X e te) (hl:PO X lo tl) (hu:PO X hi th):PE X (.Subscript e (.Slice lo hi none p2) pos) (N5 r te tl th):=by
 intro pins s σ H Q I h
 refine Subscript_ (aG (he pins s σ H _ I h) λv s1 ⟨x,H1,I1,r1,q1⟩=>?_)
 refine wpAny_Slice (aG (hl pins s1 σ H1 _ I1 q1) λvl s2 ⟨l,H2,I2,pl,q2⟩=>aG (hu pins s2 σ H2 _ I2 q2) λvu s3 ⟨u,H3,I3,pu,q3⟩=>?_)
 rw [evalPart_none]
 refine wpAny_pure ?_
 have I4:Inv X pins σ H3 { s3 with heap:=s3.heap.push { cls:=.type "slice",data:=.fields #[vl,vu,.none] } }:=I3.kept (t':=s3.toks) λb ob q=>Heap.get?_push_of_some _ q
 obtain ⟨T,id,hT,ht,hg⟩:=hr pins { s3 with heap:=s3.heap.push { cls:=.type "slice",data:=.fields #[vl,vu,.none] } } σ H3 x v vl vu l u s3.heap.objs.size Q I4 r1 (Heap.IsSliceOf.new ..) pl pu q3
 show wpAny (model X.prog X.w) X.A (subscriptTail e (.Slice lo hi none p2) v (.ref s3.heap.objs.size)) (EP X pins σ Q) X.xe { s3 with heap:=s3.heap.push { cls:=.type "slice",data:=.fields #[vl,vu,.none] } }
 exact tail_any (ops:=[.ref s3.heap.objs.size,v]) ht hT hg (by with_unfolding_all rfl)
def dv (xs:List V) (lo hi:Option Int):List V:=(xs.drop (HT.gW xs.length 0 lo)).take (HT.gW xs.length xs.length hi-HT.gW xs.length 0 lo)
theorem uP (xs:List V) (lo hi:Option Int):(dv xs lo hi).length<=xs.length:=by
 unfold dv
 rw [List.length_take,List.length_drop]
 omega
def GQ (K:W.Frag):R2:=λx y H Q=>∃a b xs ys,x=.ref a/\y=.ref b/\aP K H a xs/\aP K H b ys/\xs≠[]/\xs.length+ys.length<=sizeLine/\
 (ys=[]->Q (.ref a) H)/\(ys≠[]->∀p,H p=none->Q (.ref p) (upd H p (.tup (xs++ys))))
theorem Vals.lZ {xs:List V}{us:List Value}(r:Vals xs us):us=[] ↔ xs=[]:=by
 cases r with
 | nil=>simp
 | cons _ _=>simp
theorem B9:dG X (binaryOp .Add) (GQ X.K):=by
 intro pins s σ H x y v u Q I rx ry h
 obtain ⟨a,b,xs,ys,rfl,rfl,ha,hb,hx,hz,q1,q2⟩:=h
 cases rx
 cases ry
 obtain ⟨its,r1,p1,_⟩:=I.tuple ha
 obtain ⟨jk,r2,p2,_⟩:=I.tuple hb
 refine HT.B7 p1 p2 (λz=>hx (r1.lZ.mp z)) (λz=>⟨.ref a,H,I,rfl,q1 (r2.lZ.mp z)⟩) (λz=>?_) (by rw [← r1.length,← r2.length]; exact hz)
 refine ⟨.ref s.heap.objs.size,_,I.laid (t':=s.toks) (o:=.tup (xs++ys)) (λb ob q=>Heap.get?_push_of_some _ q) (Nat.le_refl _) ?_,rfl,q2 (λw=>z (r2.lZ.mpr w)) _ (I.hok.fresh (Nat.le_refl _))⟩
 exact ⟨by rw [List.length_append]; exact hz,_,r1.append r2,IsTup.new _ _⟩
end
end L2
namespace L2
open PySem PySem.Spec PyProof.Rows
def qh (n:Nat) (i:Int):Option Nat:=if 0<=i then (if i<n then some i.toNat else none) else if -(n:Int)<=i then some (i+n).toNat else none
def ku {α:Type}(xs:List α) (i:Int):Option α:=(qh xs.length i).bind λj=>xs[j]?
theorem vf {n:Nat}{i:Int}{j:Nat}(h:qh n i=some j):seqIndex? i n=some j/\j<n /\ -(n:Int)<=i/\i<n:=by
 unfold qh at h
 by_cases h0:0<=i
 . rw [if_pos h0] at h
   by_cases h1:i<n
   . rw [if_pos h1] at h
     have e:i.toNat=j:=Option.some.inj h
     exact ⟨by rw [seqIndex_of h0 h1,e],by omega,by omega,h1⟩
   . rw [if_neg h1] at h; cases h
 . rw [if_neg h0] at h
   by_cases h1 : -(n:Int)<=i
   . rw [if_pos h1] at h
     have e:(i+n).toNat=j:=Option.some.inj h
     exact ⟨by rw [seqIndex_neg (by omega) h1,e],by omega,h1,by omega⟩
   . rw [if_neg h1] at h; cases h
theorem pG {α:Type}{xs:List α}{i:Int}{v:α}(h:ku xs i=some v):∃j,seqIndex? i xs.length=some j/\xs[j]?=some v/\j<xs.length /\ -(xs.length:Int)<=i/\i<xs.length:=by
 unfold ku at h
 cases e:qh xs.length i with
 | none=>rw [e] at h; cases h
 | some j=>
  rw [e] at h
  obtain ⟨h1,h2,h3,h4⟩:=vf e
  exact ⟨j,h1,h,h2,h3,h4⟩
theorem aA {α:Type}{xs:List α}{j:Nat}{v:α}(h:xs[j]?=some v):ku xs (j:Int)=some v:=by
 have hj:j<xs.length:=(List.getElem?_eq_some_iff.mp h).1
 have e:qh xs.length (j:Int)=some j:=by
  unfold qh
  rw [if_pos (by omega),if_pos (by omega)]; simp
 unfold ku; rw [e]; exact h
def Ca (b:Expr):Prop:=∀o i,subscripted b false o i=operate [o,i] (getItem o i)
def AR (X:Cx) (r:R2):Prop:=
 ∀(value slice:Expr) (pins:List (Addr×Obj)) (s:Shared) (σ:St) (H:Hp) (x y:V) (v u:Value) (Q:VK),Inv X pins σ H s->RelV x v->RelV y u->r x y H Q->
  subscripted slice false v u=operate [v,u] (getItem v u)->wpAny (model X.prog X.w) X.A (subscriptTail value slice v u) (EP X pins σ Q) X.xe s
def N6 (X:Cx) (id:String) (r:V->List V->Hp->VK->Prop):Prop:=
 ∀(pins:List (Addr×Obj)) (s:Shared) (σ:St) (H:Hp) (x:V) (xs:List V) (v:Value) (us:List Value) (Q:VK),Inv X pins σ H s->RelV x v->Vals xs us->r x xs H Q->
  wpAny (model X.prog X.w) X.A (call (.builtin id) (v::us)) (EP X pins σ Q) X.xe s
section
variable {X:Cx}{a b:Expr}{ta tb:TE}{pos:Pos}
theorem aQ {r:R2}(hr:AR X r) (ha:PE X a ta) (hb:PE X b tb) (hs:Ca b):PE X (.Subscript a b pos) (rM r ta tb):=by
 intro pins s σ H Q I h
 exact Subscript_ (zH ha hb I h λv u s2 x y H2 I2 rx ry q=>hr a b pins s2 σ H2 x y v u Q I2 rx ry q (hs _ _))
def fU (K:W.Frag):R2:=λx y H Q=>∃p xs i v,x=.ref p/\y=.int i/\ay K H p xs/\ku xs i=some v/\Q v H
def cE (K:W.Frag):R2:=λx y H Q=>∃p xs i v,x=.ref p/\y=.int i/\aP K H p xs/\ku xs i=some v/\Q v H
def KZ:R2:=λx y H Q=>∃z i c,x=.str z/\y=.int i/\z.length<=sizeLine/\ku z.cps.toList i=some c/\Q (.str ⟨#[c]⟩) H
theorem b0:AR X (fU X.K):=by
 intro value slice pins s σ H x y v u Q I rx ry h hs
 obtain ⟨p,xs,i,z,rfl,rfl,hq,he,q⟩:=h
 cases rx
 obtain ⟨t,rfl⟩:=ry
 obtain ⟨its,r,pl,hz⟩:=I.list hq
 obtain ⟨j,h1,h2,h3,h4,h5⟩:=pG he
 obtain ⟨w,ew,jA⟩:=r.get h2
 have hl:=r.length
 have hn:=kZ
 have fin:EP X pins σ Q w s:=⟨z,H,I,jA,q⟩
 by_cases h0:0<=i
 . have hj:i.toNat=j:=by
    rw [seqIndex_of h0 h5] at h1
    exact Option.some.inj h1
   exact item_listR pl.isList h0 (by omega) (by rw [hj]; simpa using ew) fin hs
 . have hj:(i+(its.toArray.size:Int)).toNat=j:=by
    rw [seqIndex_neg (by omega) h4] at h1
    rw [List.size_toArray,← hl]
    exact Option.some.inj h1
   exact subscriptTail_builtinR (x:=w) pl.isList.typeIs slot_list_getitem.lookup
    (wpAny_getItem_list_neg (Q:=λr s'=>r=w/\EP X pins σ Q r s') pl.isList (by omega) (by rw [List.size_toArray] <;> omega) (by omega) (by rw [hj]; simpa using ew) ⟨rfl,fin⟩) hs
theorem bj:AR X (cE X.K):=by
 intro value slice pins s σ H x y v u Q I rx ry h hs
 obtain ⟨p,xs,i,z,rfl,rfl,hq,he,q⟩:=h
 cases rx
 obtain ⟨t,rfl⟩:=ry
 obtain ⟨its,r,pl,hz⟩:=I.tuple hq
 obtain ⟨j,h1,h2,h3,h4,h5⟩:=pG he
 obtain ⟨w,ew,jA⟩:=r.get h2
 have hl:=r.length
 have hn:=kZ
 have fin:EP X pins σ Q w s:=⟨z,H,I,jA,q⟩
 exact subscriptTail_builtinR (x:=w) pl.typeIs slot_tuple_getitem.lookup
  (getItem_tuple (j:=j) (Q:=λr s'=>r=w/\EP X pins σ Q r s') pl (by omega) (by omega) (by rw [List.size_toArray,← hl]; exact h1) (by simpa using ew) ⟨rfl,fin⟩) hs
theorem Dy:AR X KZ:=by
 intro value slice pins s σ H x y v u Q I rx ry h hs
 obtain ⟨z,i,c,rfl,rfl,hz,he,q⟩:=h
 obtain ⟨t,rfl⟩:=rx
 obtain ⟨t',rfl⟩:=ry
 obtain ⟨j,h1,h2,h3,h4,h5⟩:=pG he
 have hl:z.cps.toList.length=z.length:=by simp [Str.length]
 rw [hl] at h1 h4 h5
 have hn:=kZ
 exact tail_any (typeIs_str s z t) slot_str_getitem.lookup (getItem_str (c:=c) (by
  have e1:decide (i < -(2 ^ 63:Int))=false:=decide_eq_false (by omega)
  have e2:decide (i≥2 ^ 63)=false:=decide_eq_false (by omega)
  rw [e1,e2,Bool.or_false]) (by rw [h1]; simpa using h2) ⟨.str ⟨#[c]⟩,H,I.tok _,⟨_,rfl⟩,q⟩) hs
theorem wJ (its:List Value) (n j:Nat) (u:Value):Obj.mapSeq (·.setIfInBounds j u) { cls:=.type "list",data:=.seq its.toArray n } = { cls:=.type "list",data:=.seq (its.set j u).toArray n }:=by
 simp [Obj.mapSeq]
theorem Inv.lst {pins:List (Addr×Obj)}{σ:St}{H:Hp}{s:Shared}{p:Addr}{xs:List V}(I:Inv X pins σ H s) (h:H p=some (.lst xs)) :
 ∃(its:List Value) (n:Nat),Vals xs its/\s.heap.get? p=some { cls:=.type "list",data:=.seq its.toArray n } /\ xs.length<=sizeLine:=by
 obtain ⟨z,its,n,r,e⟩:=I.hok p _ h
 exact ⟨its,n,r,e,z⟩
theorem Inv.Dz {pins:List (Addr×Obj)}{σ:St}{H:Hp}{s:Shared}{p:Addr}{xs ys:List V}{its its':List Value}{n n':Nat}{f:Obj->Obj}(I:Inv X pins σ H s) (h:H p=some (.lst xs))
 (ho:s.heap.get? p=some { cls:=.type "list",data:=.seq its.toArray n }) (hf:f { cls:=.type "list",data:=.seq its.toArray n } = { cls:=.type "list",data:=.seq its'.toArray n' }) (r:Vals ys its') (hz:ys.length<=sizeLine) (t:Nat) :
 Inv X pins σ (upd H p (.lst ys)) { s with heap:=s.heap.update p f,toks:=t }:=by
 have e:(s.heap.update p f).get? p=some { cls:=.type "list",data:=.seq its'.toArray n' }:=by
  rw [Heap.get?_update_self f ho (by rw [hf] <;> rfl),hf]
 refine I.write (x:=p) (e:=p) (by rw [h]; trivial) (.inl rfl) (λb u hb q=>(Heap.get?_update_other _ _ (Ne.symm hb)).trans q) ⟨_,e⟩ ?_
 exact ⟨hz,its',n',r,e⟩
def GR:V->V->V->Hp->(Hp->Prop)->Prop:=λo i v H Q=>∃p xs k j,o=.ref p/\i=.int k/\H p=some (.lst xs)/\qh xs.length k=some j/\Q (upd H p (.lst (xs.set j v)))
theorem set_list:De X GR:=by
 intro pins s σ H o i v ov iv u Q I ro ri rv h
 obtain ⟨p,xs,k,j,rfl,rfl,hp,hj,q⟩:=h
 cases ro
 obtain ⟨t,rfl⟩:=ri
 obtain ⟨its,n,r,ho,hz⟩:=I.lst hp
 obtain ⟨h1,h2,h3,h4⟩:=vf hj
 have hl:=r.length
 have hn:=kZ
 have I':Inv X pins σ (upd H p (.lst (xs.set j v))) { s with heap:=s.heap.update p (Obj.mapSeq (·.setIfInBounds j u)) } :=
  I.Dz hp ho (wJ its n j u) (r.set rv j) (by rw [List.length_set]; exact hz) s.toks
 by_cases h0:0<=k
 . have hk:k.toNat=j:=by
    rw [seqIndex_of h0 h4] at h1
    exact Option.some.inj h1
   exact W.ki_setAt ho h0 (by omega) (by rw [List.size_toArray,← hl]; exact h4) (by rw [hk]; exact ⟨_,I',q⟩)
 . have hk:(k+(its.toArray.size:Int)).toNat=j:=by
    rw [seqIndex_neg (by omega) h3] at h1
    rw [List.size_toArray,← hl]
    exact Option.some.inj h1
   exact W.ki_setBack ho (by omega) (by rw [List.size_toArray,← hl]; exact h3) (by omega) (by rw [hk]; exact ⟨_,I',q⟩)
theorem rW (lo hi:Option Int) (n:Nat):(sliceBounds lo hi none n).1=((HT.gW n 0 lo:Nat):Int)/\(sliceBounds lo hi none n).2.1=((HT.gW n n hi:Nat):Int)/\(sliceBounds lo hi none n).2.2=1:=by
 refine ⟨?_,?_,rfl⟩
 . cases lo with
   | none=>simp [sliceBounds,HT.gW]
   | some i=>
    simp only [sliceBounds,HT.gW,Option.getD_none,show (1:Int)>0 by decide,if_true]
    by_cases h:i<0
    . simp only [h,if_true] <;> omega
    . simp only [h,if_false] <;> omega
 . cases hi with
   | none=>simp [sliceBounds,HT.gW]
   | some i=>
    simp only [sliceBounds,HT.gW,Option.getD_none,show (1:Int)>0 by decide,if_true]
    by_cases h:i<0
    . simp only [h,if_true] <;> omega
    . simp only [h,if_false] <;> omega
theorem qU (its:List Value) (lo hi:Option Int):slicePick its.toArray lo hi none=((its.drop (HT.gW its.length 0 lo)).take (HT.gW its.length its.length hi-HT.gW its.length 0 lo)).toArray:=by
 obtain ⟨h1,h2,h3⟩:=rW lo hi its.toArray.size
 unfold slicePick
 rw [h1,h2,h3]
 simp only [sliceRange_one,pick_run,List.size_toArray] <;> rfl
def K0 (K:W.Frag):V->Option Int->Option Int->Hp->VK->Prop:=λx lo hi H Q=>∃a xs,x=.ref a/\ay K H a xs/\∀p,H p=none->Q (.ref p) (upd H p (.lst (dv xs lo hi)))
theorem jB:Dx X (K0 X.K):=by
 intro pins s σ H x v vl vu lo hi sl Q I rx hs pl pu h
 obtain ⟨a,xs,rfl,hx,q⟩:=h
 cases rx
 obtain ⟨its,r,ht,hz⟩:=I.list hx
 have hlen:=r.length
 refine ⟨"list",_,slot_list_getitem.lookup,ht.isList.typeIs,?_⟩
 refine wpAny_getItem_list_slice ht.isList hs pl pu .none (by simp) ?_ (by rw [List.size_toArray] <;> omega)
 rw [qU,← hlen]
 refine ⟨.ref s.heap.objs.size,_,I.laid (t':=s.toks) (o:=.lst (dv xs lo hi)) (λb ob q=>Heap.get?_push_of_some _ q) (Nat.le_refl _) ?_,rfl,q _ (I.hok.fresh (Nat.le_refl _))⟩
 exact ⟨Nat.le_trans (uP xs lo hi) hz,_,0,(r.drop (HT.gW xs.length 0 lo)).take (HT.gW xs.length xs.length hi-HT.gW xs.length 0 lo),Heap.get?_push_size _ rfl⟩
def iD:V->Bool
 | .aS=>true
 | .bl _=>true
 | .int _=>true
 | .str _=>true
 | _=>false
def ky:V->V->Bool
 | .aS,.aS=>true
 | .bl a,.bl b=>a == b
 | .bl a,.int b=>(if a then 1 else 0) == b
 | .int a,.bl b=>a == (if b then 1 else 0)
 | .int a,.int b=>a == b
 | .str a,.str b=>a == b
 | _,_=>false
theorem ya {A:Around}{s:Shared}{y x:V}{u v:Value}(ry:RelV y u) (rx:RelV x v) (fy:iD y=true) (fx:iD x=true):SeqAt.EqAt A s u v (ky y x):=by
 cases y with
 | aS=>
  cases ry
  cases x with
  | aS=>cases rx; exact SeqAt.EqAt.same _
  | bl b=>cases rx; exact SeqAt.EqAt.none_bool b
  | int b=>obtain ⟨t,rfl⟩:=rx; exact SeqAt.EqAt.none_int b t
  | str b=>obtain ⟨t,rfl⟩:=rx; exact SeqAt.EqAt.none_str b t
  | _=>exact absurd (show false=true from fx) Bool.false_ne_true
 | bl a=>
  cases ry
  cases x with
  | aS=>cases rx; exact SeqAt.EqAt.bool_none a
  | bl b=>cases rx; exact SeqAt.EqAt.bool_bool a b
  | int b=>obtain ⟨t,rfl⟩:=rx; exact SeqAt.EqAt.bool_int a b t
  | str b=>obtain ⟨t,rfl⟩:=rx; exact SeqAt.EqAt.bool_str a b t
  | _=>exact absurd (show false=true from fx) Bool.false_ne_true
 | int a=>
  obtain ⟨t',rfl⟩:=ry
  cases x with
  | aS=>cases rx; exact SeqAt.EqAt.int_none a t'
  | bl b=>cases rx; exact SeqAt.EqAt.int_bool a t' b
  | int b=>obtain ⟨t,rfl⟩:=rx; exact SeqAt.EqAt.int_int a t' b t
  | str b=>obtain ⟨t,rfl⟩:=rx; exact SeqAt.EqAt.int_str a t' b t
  | _=>exact absurd (show false=true from fx) Bool.false_ne_true
 | str a=>
  obtain ⟨t',rfl⟩:=ry
  cases x with
  | aS=>cases rx; exact SeqAt.EqAt.str_none a t'
  | bl b=>cases rx; exact SeqAt.EqAt.str_bool a t' b
  | int b=>obtain ⟨t,rfl⟩:=rx; exact SeqAt.EqAt.str_int a t' b t
  | str b=>obtain ⟨t,rfl⟩:=rx; exact SeqAt.EqAt.str_str a t' b t
  | _=>exact absurd (show false=true from fx) Bool.false_ne_true
 | _=>exact absurd (show false=true from fy) Bool.false_ne_true
def ow (x:V) (u:Value):Bool:=match u with
 | .none=>ky .aS x
 | .bool b=>ky (.bl b) x
 | .int i _=>ky (.int i) x
 | .str z _=>ky (.str z) x
 | _=>false
theorem yb {x y:V}{u:Value}(r:RelV y u) (f:iD y=true):ow x u=ky y x:=by
 cases y with
 | aS=>cases r; rfl
 | bl b=>cases r; rfl
 | int i=>obtain ⟨t,rfl⟩:=r; rfl
 | str z=>obtain ⟨t,rfl⟩:=r; rfl
 | _=>exact absurd (show false=true from f) Bool.false_ne_true
theorem pH {x:V} : ∀{xs:List V}{us:List Value},Vals xs us->xs.all iD=true->us.any (ow x)=xs.any λy=>ky y x
 | _,_,.nil,_=>rfl
 | y::xs,u::us,.cons r t,f=>by
  rw [List.all_cons,Bool.and_eq_true] at f
  rw [List.any_cons,List.any_cons,yb r f.1,pH t f.2]
theorem ny {A:Around}{s:Shared}{x:V}{v:Value}(rx:RelV x v) (fx:iD x=true):∀{xs:List V}{us:List Value},Vals xs us->xs.all iD=true->∀u∈us,SeqAt.EqAt A s u v (ow x u)
 | _,_,.nil,_=>λu hu=>by cases hu
 | y::xs,u::us,.cons r t,f=>λu' hu=>by
  rw [List.all_cons,Bool.and_eq_true] at f
  rcases List.mem_cons.mp hu with rfl | hu
  . rw [yb r f.1]; exact ya r rx f.1 fx
  . exact ny rx fx t f.2 u' hu
def AS (x:V) (xs:List V):Bool:=xs.any λy=>ky y x
def AU (K:W.Frag) (neg:Bool):R2:=λx y H Q=>∃p xs,y=.ref p/\(ay K H p xs\/aP K H p xs)/\iD x=true/\xs.all iD=true/\Q (.bl (if neg then !AS x xs else AS x xs)) H
theorem lu:dG X (compareOp .NotIn) (AU X.K true):=by
 intro pins s σ H x y v u Q I rx ry h
 obtain ⟨p,xs,rfl,hq,fx,fs,q⟩:=h
 cases ry
 rcases hq with hq | hq
 . obtain ⟨its,r,pl,hz⟩:=I.list hq
   refine SeqAt.notIn_listAt (ow x) pl.isList (λw hw=>ny rx fx r fs w (by simpa using hw)) ⟨.bl _,H,I,rfl,?_⟩
   rw [show its.toArray.any (ow x)=its.any (ow x) by simp,pH r fs]
   exact q
 . obtain ⟨its,r,pl,hz⟩:=I.tuple hq
   refine SeqAt.notIn_tupleAt (ow x) pl (λw hw=>ny rx fx r fs w (by simpa using hw)) ⟨.bl _,H,I,rfl,?_⟩
   rw [show its.toArray.any (ow x)=its.any (ow x) by simp,pH r fs]
   exact q
theorem bo:ff X (.builtin "len") (λxs H Q=>∃p ys,xs=[.ref p]/\(ay X.K H p ys\/aP X.K H p ys)/\Q (.int ys.length) H):=by
 intro pins s σ H xs us Q I r h
 obtain ⟨p,ys,rfl,hq,q⟩:=h
 obtain ⟨u,rfl,rx⟩:=vals1 r
 cases rx
 have hn:=kZ
 rcases hq with hq | hq
 . obtain ⟨its,r',pl,hz⟩:=I.list hq
   have hlen:=r'.length
   exact Calls.call_len_list pl.isList (by simp only [List.size_toArray] <;> omega) ⟨.int ys.length,H,I.tok _,⟨s.toks+1,by rw [List.size_toArray,hlen]⟩,q⟩
 . obtain ⟨its,r',pl,hz⟩:=I.tuple hq
   have hlen:=r'.length
   exact len_tuple pl (by simp only [List.size_toArray] <;> omega) ⟨.int ys.length,H,I.tok _,⟨s.toks+1,by rw [List.size_toArray,hlen]⟩,q⟩
theorem lx:ff X (.type "list") (λxs H Q=>∃p ys,xs=[.ref p]/\(ay X.K H p ys\/aP X.K H p ys)/\∀l,H l=none->Q (.ref l) (upd H l (.lst ys))):=by
 intro pins s σ H xs us Q I r h
 obtain ⟨p,ys,rfl,hq,q⟩:=h
 obtain ⟨u,rfl,rx⟩:=vals1 r
 cases rx
 have fin:∀(its:List Value),Vals ys its->ys.length<=sizeLine->∀(h':Heap) (c':Nat),(∀b o',s.heap.get? b=some o'->h'.get? b=some o')->
  h'.get? s.heap.objs.size=some { cls:=.type "list",dict:=none,data:=.seq its.toArray c',slots:=#[] } -> EP X pins σ Q (.ref s.heap.objs.size) { s with heap:=h' }:=λits r' hz h' c' kp e=>
  ⟨.ref s.heap.objs.size,_,I.laid (t':=s.toks) kp (Nat.le_refl _) (show bh X.prog X.w _ h' _ (.lst ys) from ⟨hz,its,c',r',e⟩),rfl,q _ (I.hok.fresh (Nat.le_refl _))⟩
 rcases hq with hq | hq
 . obtain ⟨its,r',pl,hz⟩:=I.list hq
   have hlen:=r'.length
   obtain ⟨o,ho,hc,n,hd⟩:=pl.isList
   exact call_list_seq p (.inl rfl) ho hc hd (λh' c' kp e=>fin its r' hz h' c' kp e) (by simp only [List.size_toArray] <;> omega)
 . obtain ⟨its,r',pl,hz⟩:=I.tuple hq
   have hlen:=r'.length
   obtain ⟨o,ho,hc,n,hd⟩:=pl
   exact call_list_seq p (.inr rfl) ho hc hd (λh' c' kp e=>fin its r' hz h' c' kp e) (by simp only [List.size_toArray] <;> omega)
def IG (K:W.Frag) (T:String) (x:V) (H:Hp):Prop:=match x with
 | .str _=>T = "str"
 | .int _=>T = "int"
 | .ref p=>(T = "list" /\ ∃xs,ay K H p xs)\/(T = "tuple" /\ ∃o,K.lookup p=some o/\o.cls=.type "tuple" /\ o.dict=none)\/
  (T = "dict" /\ ((∃kvs,H p=some (.dK kvs))\/∃kvs,H p=some (.dT kvs)))\/(T = "set" /\ ∃S n,H p=some (.set S n))
 | _=>False
theorem DA {pins:List (Addr×Obj)}{σ:St}{H:Hp}{s:Shared}{T:String}{x:V}{v:Value}(I:Inv X pins σ H s) (r:RelV x v) (ty:IG X.K T x H) :
 s.TypeIs v T/\∀a,v=.ref a->∃ob,s.heap.get? a=some ob/\ob.dict=none:=by
 cases x with
 | str z=>
  obtain ⟨t,rfl⟩:=r
  cases (show T = "str" from ty)
  exact ⟨typeIs_str s z t,λ_ e=>nomatch e⟩
 | int i=>
  obtain ⟨t,rfl⟩:=r
  cases (show T = "int" from ty)
  exact ⟨typeIs_int s i t,λ_ e=>nomatch e⟩
 | ref p=>
  cases r
  rcases ty with ⟨rfl,xs,hq⟩ | ⟨rfl,o,hk,hc,hd⟩ | ⟨rfl,hk⟩ | ⟨rfl,S,n,hk⟩
  . obtain ⟨its,_,pl,_⟩:=I.list hq
    refine ⟨pl.isList.typeIs,λa e=>?_⟩
    cases e
    obtain ⟨o,n,e,c,hd,_⟩:=pl
    exact ⟨o,e,hd⟩
  . refine ⟨⟨o,I.d6 p o hk,hc⟩,λa e=>?_⟩
    cases e
    exact ⟨o,I.d6 _ o hk,hd⟩
  . have z:∃o,s.heap.get? p=some o/\o.ExactDict:=by
     rcases hk with ⟨kvs,hk⟩ | ⟨kvs,hk⟩
     . obtain ⟨_,_,_,_,o,_,_,e,ex,_⟩:=I.hok p _ hk
       exact ⟨o,e,ex⟩
     . obtain ⟨_,_,_,_,o,_,_,e,ex,_⟩:=I.hok p _ hk
       exact ⟨o,e,ex⟩
    obtain ⟨o,e,ex⟩:=z
    refine ⟨⟨o,e,ex.1⟩,λa e2=>?_⟩
    cases e2
    exact ⟨o,e,ex.2.1⟩
  . obtain ⟨o,_,_,_,e,ex,_⟩:=I.hok p _ hk
    refine ⟨⟨o,e,ex.1⟩,λa e2=>?_⟩
    cases e2
    exact ⟨o,e,ex.2.1⟩
 | _=>exact False.elim ty
def N7 (K:W.Frag) (T:String) (r:V->List V->Hp->VK->Prop) (to:TE) (t:TA):TE:=λσ H Q=>to σ H λx H1=>IG K T x H1/\t σ H1 λxs H2=>r x xs H2 Q
variable {o e:Expr}{es:List Expr}{to:TE}{t:TA}{name:Str}{apos d4:Pos}{T id:String}{r:V->List V->Hp->VK->Prop}
theorem qW (pa:PlainAttrs T) (slot:Slot T name id) (N8:typeOf (.builtin id)=pure (.type "method_descriptor")) (hm:N6 X id r) (ho:PE X o to) (ha:PA X (e::es) t)
 (GS:attributeBase o name X.env (eval o X.env)=eval o X.env:=by rfl)
 (K1:((backTo d4 (starEach (e::es) X.env)).all (λx=>!x.1) && (backToKw d4 (keywordEach [] X.env)).all (λx=>x.1.isSome)
  && decide ((e::es).length+([]:List Keyword).length+(if ([]:List Keyword).isEmpty then 0 else 1)<30))=true:=by rfl)
 (GU:(apos.endLine == d4.line)=true:=by rfl) (hs:starEach (e::es) X.env=(false,eval e X.env)::starEach es X.env:=by rfl) (DB:(backTo d4 (starEach es X.env)).any (·.1)=false:=by rfl) :
 PE X (.Call (.Attribute o name apos) (e::es) [] d4) (N7 X.K T r to t):=by
 intro pins s σ H Q I h
 refine wpAny_Call_method_late GS K1 GU rfl (aG (ho pins s σ H _ I h) λv s1 ⟨x,H1,I1,r1,ty,q1⟩=>?_)
 obtain ⟨h1,h2⟩:=DA I1 r1 ty
 refine ⟨T,id,pa,slot,N8,h1,h2,?_⟩
 have hA:=ha d4 pins s1 σ H1 _ I1 q1
 rw [hs] at hA ⊢
 refine Calls.callWith_builtin (by show (false || (backTo d4 (starEach es X.env)).any (·.1))=false; rw [DB] <;> rfl) (Calls.evalArgs_plain ?_)
 exact aG hA λus s2 ⟨vs,H2,I2,r2,q2⟩=>hm pins s2 σ H2 x vs v us Q I2 r1 r2 q2
end
end L2
namespace L2
open PySem PySem.Spec PyProof.Rows
def AV (X:Cx) (id:String) (r:V->List V->Hp->VK->Prop):Prop:=
 ∀(pins:List (Addr×Obj)) (s:Shared) (σ:St) (H:Hp) (x:V) (xs:List V) (v:Value) (us:List Value) (Q:VK),Inv X pins σ H s->RelV x v->Vals xs us->r x xs H Q->
  wpAny (model X.prog X.w) X.A (call (.builtin id) (v::us)) (EP X pins σ Q) X.xe s
theorem Vals.one:∀{x:V}{us:List Value},Vals [x] us->∃u,us=[u]/\RelV x u
 | _,_,.cons r .nil=>⟨_,rfl,r⟩
section
variable {X:Cx}{pins:List (Addr×Obj)}{σ:St}{H:Hp}{s:Shared}{l b:Addr}{xs ys zs:List V}
theorem Inv.DC {its its':List Value}{n:Nat}{f:Array Value->Array Value}{t':Nat}(I:Inv X pins σ H s) (hH:H l=some (.lst xs))
 (e:s.heap.get? l=some { cls:=.type "list",data:=.seq its.toArray n }) (hf:f its.toArray=its'.toArray) (hv:Vals ys its') (hz:ys.length<=sizeLine) :
 Inv X pins σ (upd H l (.lst ys)) { s with heap:=s.heap.update l (Obj.mapSeq f),toks:=t' }:=by
 have q:=PySem.IsL.update e f
 rw [hf] at q
 refine I.write (x:=l) (e:=l) (by rw [hH]; exact trivial) (.inl rfl) (λb' u hb hu=>(Heap.get?_update_other s.heap (Obj.mapSeq f) (Ne.symm hb)).trans hu) ⟨_,q⟩ ?_
 exact ⟨hz,its',_,hv,q⟩
theorem Inv.zQ {its:List Value}{t':Nat}(I:Inv X pins σ H s) (hv:Vals ys its) (hz:ys.length<=sizeLine) :
 Inv X pins σ (upd H s.heap.objs.size (.lst ys)) { s with heap:=s.heap.push { cls:=.type "list",data:=.seq its.toArray },toks:=t' } :=
 I.laid (λ_ _ q=>Heap.get?_push_of_some _ q) (Nat.le_refl _) ⟨hz,its,0,hv,Heap.get?_push_size _ rfl⟩
theorem Inv.fresh (I:Inv X pins σ H s):H s.heap.objs.size=none:=I.hok.fresh (Nat.le_refl _)
theorem Inv.rX (I:Inv X pins σ H s) (hH:H l=some (.lst xs)):xs.length<=sizeLine/\∃(its:List Value) (n:Nat),Vals xs its/\xs.length=its.length/\s.heap.get? l=some { cls:=.type "list",data:=.seq its.toArray n }:=by
 obtain ⟨z,its,n,r,e⟩:=I.hok l _ hH
 exact ⟨z,its,n,r,r.length,e⟩
theorem nz {n:Nat}(h:n<=sizeLine):Builtin.List.listTooLong n=false:=by
 unfold Builtin.List.listTooLong
 exact decide_eq_false (by omega)
end
section
variable {X:Cx}
def Cb:V->List V->Hp->VK->Prop:=λx vs H Q=>∃l xs y,x=.ref l/\vs=[y]/\H l=some (.lst xs)/\xs.length<sizeLine/\Q .aS (upd H l (.lst (xs++[y])))
theorem ly:AV X "list.append" Cb:=by
 intro pins s σ H x vs v us Q I rx rv h
 obtain ⟨l,xs,y,rfl,rfl,hH,hz,q⟩:=h
 cases rx
 obtain ⟨u,rfl,ru⟩:=rv.one
 obtain ⟨z,its,n,r,hl,e⟩:=I.rX hH
 refine call_meets F.slot_list_append ⟨_,e,rfl⟩ F.entry_list_append (F.args_list_append_2 _ _) (PySem.list_append l its.toArray n u (by rw [List.size_toArray]; omega)) ⟨e,?_⟩
 refine ⟨.aS,_,I.DC (its':=its++[u]) hH e (by simp) (r.append (.cons ru .nil)) ?_,rfl,q⟩
 rw [List.length_append,List.length_singleton]
 omega
def Cc:V->List V->Hp->VK->Prop:=λx vs H Q=>∃l b xs zs,x=.ref l/\vs=[.ref b]/\H l=some (.lst xs)/\H b=some (.lst zs)/\xs.length+zs.length<=sizeLine/\Q .aS (upd H l (.lst (xs++zs)))
theorem IH:AV X "list.extend" Cc:=by
 intro pins s σ H x vs v us Q I rx rv h
 obtain ⟨l,b,xs,zs,rfl,rfl,hH,hB,hz,q⟩:=h
 cases rx
 obtain ⟨u,rfl,ru⟩:=rv.one
 cases ru
 obtain ⟨z,its,n,r,hl,e⟩:=I.rX hH
 obtain ⟨z2,jk,n2,r2,eU,e2⟩:=I.rX hB
 have hsz:its.toArray.size+jk.toArray.size<=sizeLine:=by rw [List.size_toArray,List.size_toArray]; omega
 have GV:¬ (!its.toArray.isEmpty && Builtin.List.listTooLong (its.toArray.size+jk.toArray.size))=true:=by
  rw [nz hsz,Bool.and_false]
  exact Bool.false_ne_true
 refine call_meets F.slot_list_extend ⟨_,e,rfl⟩ F.entry_list_extend (F.args_list_extend_2 _ _)
  (AutoSeq1.list_extend_list_list_0 l its.toArray n b jk.toArray n2 GV (by rw [List.size_toArray]; omega) (by omega)) ⟨e,e2,?_⟩
 refine ⟨.aS,_,I.DC (its':=its++jk) hH e (by simp) (r.append r2) ?_,rfl,q⟩
 rw [List.length_append]
 omega
def K2:R2:=λx y H Q=>∃l b xs zs,x=.ref l/\y=.ref b/\H l=some (.lst xs)/\H b=some (.lst zs)/\xs.length+zs.length<=sizeLine/\∀p,H p=none->Q (.ref p) (upd H p (.lst (xs++zs)))
theorem gZ:dG X (binaryOp .Add) K2:=by
 intro pins s σ H x y v u Q I rx ry h
 obtain ⟨l,b,xs,zs,rfl,rfl,hH,hB,hz,q⟩:=h
 cases rx
 cases ry
 obtain ⟨z,its,n,r,hl,e⟩:=I.rX hH
 obtain ⟨z2,jk,n2,r2,eU,e2⟩:=I.rX hB
 refine PySem.P.add_list e e2 ?_ (by rw [List.size_toArray,List.size_toArray]; omega)
 have ea:its.toArray++jk.toArray=(its++jk).toArray:=by simp
 rw [ea]
 exact ⟨.ref _,_,I.zQ (t':=s.toks) (r.append r2) (by rw [List.length_append]; omega),rfl,q _ I.fresh⟩
end
section
variable {prog:Program}{w:World}{A:Around}{E:Value->Shared->Prop}{s:Shared}
theorem wK {a c n:Nat}(II:a<=c) (hc:c<=n):sliceBounds (some (a:Int)) (some (c:Int)) none n=((a:Int),(c:Int),1):=by
 simp only [sliceBounds,Option.getD_none]
 have h1:¬ ((a:Int)<0):=by omega
 have h2:¬ ((c:Int)<0):=by omega
 simp only [h1,h2,if_false,show (1:Int)>0 by decide,if_true]
 congr 1
 . omega
 . congr 1; omega
set_option maxRecDepth 100000 in
theorem CY {l b sl:Addr}{items new:Array Value}{n n2:Nat}{vl vu:Value}{a c:Nat}{Q:Unit->Shared->Prop}
 (e:s.heap.get? l=some { cls:=.type "list",data:=.seq items n }) (e2:s.heap.get? b=some { cls:=.type "list",data:=.seq new n2 }) (gg:l≠b)
 (hs:s.heap.IsSliceOf sl vl vu .none) (pl:IsPart vl (some (a:Int))) (pu:IsPart vu (some (c:Int))) (II:a<=c) (hc:c<=items.size)
 (hsz:items.size+new.size<=sizeLine) (h:Q () { s with heap:=s.heap.update l (Obj.mapSeq λxs=>xs.extract 0 a++new++xs.extract c xs.size) }) :
 wpAny (model prog w) A (setItem (.ref l) (.ref sl) (.ref b)) Q E s:=by
 have hl:s.heap.IsList l items:=PySem.IsL.isList e
 have hb:s.heap.IsList b new:=PySem.IsL.isList e2
 obtain ⟨os,AW,vg,DD⟩:=id hs
 have IJ:s.TypeIs (.ref sl) "slice":=⟨os,AW,vg⟩
 have GW:¬ ((rawPart none == rawInt 0)=true):=Bool.false_ne_true
 have wL:Builtin.List.listSameRef (.ref l) (.ref b)=false:=by
  unfold Builtin.List.listSameRef
  exact beq_eq_false_iff_ne.mpr gg
 have K3:(max (a:Int) (c:Int)).toNat=c:=by omega
 have rY:((λxs:Array Value=>xs.extract 0 a++new++xs.extract c xs.size) items).size<=sizeLine+1:=by
  simp only [Array.size_append,Array.size_extract]
  omega
 unfold setItem
 try with_reducible refine wpAny_holding ?_
 first | refine wpAny_bind (wpAny_pure ?_) | skip
 refine wpAny_bind (wpAny_sequenceKey hl.typeIs (by decide) ?_)
 refine wpAny_bind (wpAny_callSpecial?_slot (name:=Str.ofString "__setitem__") hl.typeIs slot_list_setitem
  (wpAny_call_entry slot_list_setitem hl.typeIs entry_list_setitem ?_ (args_list_setitem _ _ _)))
 show wpAny _ _ (Builtin.List.listSubscript? (.ref sl) >>= _) _ _ s
 refine wpAny_bind ?_
 unfold Builtin.List.listSubscript?
 refine wpAny_bind (wpAny_specialOf IJ slice_no_index ?_)
 simp only [Option.isNone_none,if_true]
 refine wpAny_pure ?_
 show wpAny _ _ (typeOf (.ref sl) >>= _) _ _ s
 refine wpAny_bind (wpAny_typeOf IJ ?_)
 first
  | rw [if_neg (by decide)]
  | refine W.KFB.if_not (by decide) ?_
 rw [listSliceParts_eq]
 refine wpAny_bind (wpAny_bind (wpAny_field AW DD (x:=.none) rfl (wpAny_bind (wpAny_listPart .none ?_))))
 rw [if_neg GW]
 refine wpAny_bind (wpAny_field AW DD (x:=vl) rfl (wpAny_bind (wpAny_listPart pl ?_)))
 refine wpAny_bind (wpAny_field AW DD (x:=vu) rfl (wpAny_bind (wpAny_listPart pu (wpAny_pure ?_))))
 first
  | simp only [wL,Bool.false_eq_true,if_false]
  | refine W.KFB.if_not wL ?_
  | (dsimp only
     rw [if_neg (by rw [wL]; exact Bool.false_ne_true)])
 refine wpAny_bind (m:=Builtin.List.listAllItems (.ref b) "must assign iterable to extended slice") ?_
 unfold Builtin.List.listAllItems
 refine wpAny_bind (wpAny_typeOf hb.typeIs ?_)
 first
  | refine W.KFB.if_so (by decide) ?_
  | rw [if_pos (by decide)]
  | simp only [beq_self_eq_true,Bool.true_or,if_true]
 unfold Builtin.List.listItems
 refine wpAny_bind (wpAny_seqItems e2 rfl (wpAny_pure ?_))
 refine wpAny_bind (wpAny_bind (wpAny_seqItems e rfl (wpAny_pure ?_)))
 refine wpAny_bind (wpAny_of_eq ((sliceIndices_raw (some (a:Int)) (some (c:Int)) none items.size (by simp)).trans (congrArg (pure:Int×Int×Int->Sem (Int×Int×Int)) (wK II hc))) ?_)
 show wpAny _ _ (if ((1:Int) == 1)=true then _ else _) _ _ s
 rw [if_pos (by decide)]
 refine wpAny_bind (wpAny_rule ?_)
 first
  | simp only [nz hsz,Bool.false_eq_true,if_false]
  | refine W.KFB.if_not (nz hsz) ?_
 first | refine wpAny_bind (wpAny_pure ?_) | skip
 show wpAny _ _ (updateSeq l (λxs=>xs.extract 0 ((a:Int)).toNat++new++xs.extract (max (a:Int) (c:Int)).toNat xs.size) >>= _) _ _ s
 rw [K3,Int.toNat_natCast]
 refine wpAny_bind (wpAny_updateSeq (hz:=Nat.le_trans (Nat.le_add_right _ _) hsz) (_hz':=rY) e rfl ?_)
 refine wpAny_bind (wpAny_letGo ?_)
 first
  | exact wpAny_bind (wpAny_pure (wpAny_pure ⟨.none,rfl,wpAny_pure h⟩))
  | exact wpAny_pure ⟨.none,rfl,wpAny_pure h⟩
end
section
variable {X:Cx}
end
end L2
namespace IK
open PySem PySem.W PySem.Calls PyProof.Rows
theorem ox {P:Params}{h:Heap} : ∀(ns:List Int) (vs:List Value),WellAll P h vs (ns.map WData.int)->IntsAre vs ns:=by
 intro ns
 induction ns with
 | nil=>
  intro vs w
  rw [List.map_nil] at w
  cases w
  exact .nil
 | cons n ns ih=>
  intro vs w
  rw [List.map_cons] at w
  cases w with
  | cons a b=>
   cases a
   exact .cons _ _ (ih _ b)
theorem yc {l:OpenLaw}{n:Nat}(hn:l.most=some n){P:Params}{h:Heap}{args:List WData}{vals:List Value}
 (wM:l.row.toRowW.claim.pre args=true) (yd:WellAll P h vals args) :
 ∃a vs ns,vals=[Value.ref a]/\args=[WData.list (ns.map WData.int)]/\h.get? a=some { cls:=.type "list",data:=.seq vs.toArray } /\ IntsAre vs ns/\ns.length<=n:=by
 have N9:WShape.hasAll [] args [.list .int]=true:=(pre_splitW wM).1
 have hc:l.pre.holds [] { args:=args } = true:=(pre_splitW wM).2
 obtain ⟨d,r,rfl,h1,h2⟩:=hasAllW_cons N9
 obtain rfl:=hasAllW_nil h2
 obtain ⟨xs,rfl,h3⟩:=hasW_list h1
 obtain ⟨ns,rfl⟩:=items_int h3
 have hlen:ns.length<=n:=by
  unfold OpenLaw.pre at hc
  have h4:(WTm.not (.lt (.lit (.int (n:Int))) (.len (.arg 0)))).holds [] { args:=[.list (ns.map .int)] } = true:=by
   have h4:=(holds_andW hc).1
   rw [hn] at h4
   exact h4
  have h5:=condW_of h4 (w_not (w_lt w_lit (w_len_list (w_arg rfl))))
  rw [List.length_map] at h5
  refine Nat.le_of_not_lt λq=>?_
  have q':(n:Int)<((ns.length:Nat):Int):=by omega
  first
   | (rw [decide_eq_true q'] at h5; exact absurd h5 (by decide))
   | (simp at h5; omega)
 cases yd with
 | cons w1 w2=>
  cases w2
  cases w1 with
  | list ho gm=>exact ⟨_,_,ns,rfl,rfl,ho,ox ns _ gm,hlen⟩
theorem ye (l:OpenLaw) (args:List WData):l.row.toRowW.claim.post args (.bool true) args=true:=
 postW_of (r:=l.row.toRowW) (X:=(true == true))
  (show WShape.has [] (.bool true) .bool=true by first | rfl | decide | simp [WShape.has,WShape.arms,WShape.armsAll])
  (show (WTm.eq .res (.lit (.bool true))).value [] { args:=args,res:=some (.bool true),after:=args } = some (.bool (true == true)) from w_eq_bool (w_res rfl) w_lit) rfl
theorem uQ {l:OpenLaw}{n:Nat}{q:Program}{loose:List Str}{XP:(Str->Option Value)->Heap->Prop}{YP:World->Heap->Prop}{d:DefRec}
 (hn:l.most=some n) (yf:d.params.defaults=[])
 (call:∀(w:World) (ie cz:Shared) (mg mb:Str->Option Value) (fa:Addr) (o:Obj) (pm cd doc:Value) (a:Addr) (vs:List Value) (ns:List Int),
  Ground q loose [] XP w ie mg mb cz.heap->YP w cz.heap->
  cz.heap.get? fa=some o->o.data=.func (docDef d.name d.params d.body d.scope pm cd doc)->cz.heap.CodeRec cd d.name->mg d.name=some (.ref fa)->
  cz.heap.get? a=some { cls:=.type "list",data:=.seq vs.toArray } -> IntsAre vs ns->ns.length<=n->cz.gens = #[]->
  codeAny (model l.prog w) callerA (.call (.ref fa) ⟨[.ref a],[]⟩) (λr s'=>r=.ok (.ret (.bool true))/\OldK cz.heap s'.heap/\s'.os=cz.os/\AllBare s'.gens) cz) :
 WalkO q loose XP YP l.row.toRowW d [] (λf vs=>PySem.call f vs):=by
 intro w ie cz mg mb G Y fa o pm cd doc dV kV ho hd ju hD yg hg args vals as wM RN RY yd RZ
 obtain rfl:dV=.none:=Dflts.none hD yf
 obtain rfl:kV=.none:=Dflts.noKw hD
 obtain ⟨a,vs,ns,rfl,rfl,zR,hints,hlen⟩:=yc hn wM yd
 refine enter_call (codeAny_mono (call w ie cz mg mb fa o pm cd doc a vs ns G Y ho (fd_plain hd) ju yg zR hints hlen hg) λr s' hq=>?_)
 obtain ⟨rfl,h2,h3,h4⟩:=hq
 exact ⟨.inl ⟨.bool true,.bool true,[],rfl,λ_=>rfl,.bool true,ye l _,λ_=>⟨List.Pairwise.nil,λ_ hm=>(nomatch hm)⟩⟩,h2,h3,h4⟩
section
variable {prog:Program}{w:World}{A:Around}{E:Value->Shared->Prop}{s:Shared}{K:Frag}
end
end IK
namespace L2
open PySem PySem.Spec PyProof.Rows
theorem ql:∀{vs:List Value}{ns:List Int},IntsAre vs ns->Vals (ns.map V.int) vs
 | _,_,.nil=>.nil
 | _,_,.cons n t h=>.cons ⟨t,rfl⟩ (ql h)
def zS (H:Hp):Prop:=∀b,H b=none\/∃o xs,H b=some (.i0 o (.lst xs))
theorem zT {P:Program}{w:World}{K:W.Frag}{mg mb:Str->Option Value}{CX:lj}{k:Nat}{fa a:Addr}{fd:FuncData}{x:Str}{sp:Sp}{cz:Shared}{vs:List Value}{ns:List Int}
 (KX:K.In cz.heap) (IL:cz.heap.Ns mainGlobals mg) (hb:cz.heap.Ns builtinsNs mb) (Oa:∀x:Str,x ≠ "__name__" -> mb x=bootBuiltins x) (K4:cz.heap.NoLimit) (hg:cz.gens = #[])
 (ha:cz.heap.get? a=some { cls:=.type "list",data:=.seq vs.toArray }) (hi:IntsAre vs ns) (hl:ns.length<=sizeLine) (hr:bx k callerA)
 (F:∀base:Heap,K.In base->base.Ns mainGlobals mg->av P w K mg base CX k fa fd [x] sp) (GX:∀(s:Shared) (u:Value),BindsTo s fd ⟨[u],[]⟩ [(x,u)])
 (lq:∀H:Hp,zS H->ay K H a (ns.map V.int)->sp [.ref a] H (λv _=>v=.bl true) λ_ _ _=>False)
 (DE:∀H e s',CX [] H cz (λ_ _ _=>False) e s'->False) :
 codeAny (model P w) callerA (.call (.ref fa) ⟨[.ref a],[]⟩) (λr s'=>r=.ok (.ret (.bool true))/\OldK cz.heap s'.heap/\s'.os=cz.os/\AllBare s'.gens) cz:=by
 have rv:=ql hi
 have K5:=hi.length
 have core:∀H:Hp,zS H->ay K H a (ns.map V.int)->cN P w H cz.heap->(∀b,H b≠none->b=a)->(H a≠none->K.lookup a=none)->
  codeAny (model P w) callerA (.call (.ref fa) ⟨[.ref a],[]⟩) (λr s'=>r=.ok (.ret (.bool true))/\OldK cz.heap s'.heap/\s'.os=cz.os/\AllBare s'.gens) cz:=by
  intro H hO hS hok hA hK
  have vh:∀{b:Addr}{o:Obj},cz.heap.get? b=some o->H b=none->(jQ cz.heap H).get? b=some o:=λe n=>zA e n
  have xY:∀{b:Addr}{o:Obj}{es:Array DictEntry}{ep:Nat},cz.heap.get? b=some o->o.data=.dict es ep->H b=none:=λ{b o es ep} e d=>by
   cases q:H b with
   | none=>rfl
   | some u=>
    have e':b=a:=hA b (by rw [q]; simp)
    subst e'
    rw [ha] at e; cases e
    have d':Data.seq vs.toArray _=Data.dict es ep:=d
    cases d'
  have AX:∀{b:Addr}{m:Str->Option Value},cz.heap.Ns b m->(jQ cz.heap H).Ns b m:=λ{b m} ⟨o,es,ep,e,d,r⟩=>⟨o,es,ep,vh e (xY e d),d,r⟩
  have IP:K.In (jQ cz.heap H):=λb o e=>vh (KX b o e) (by
   cases q:H b with
   | none=>rfl
   | some u=>
    have e':b=a:=hA b (by rw [q]; simp)
    subst e'
    rw [hK (by rw [q]; simp)] at e; cases e)
  have hM:Mod K mg (jQ cz.heap H):=⟨IP,AX IL,⟨mb,AX hb,Oa⟩,let ⟨mc,h1,h2⟩:=K4; ⟨mc,AX h1,h2⟩⟩
  have e0:ji P w K mg (jQ cz.heap H) callerA [] cz H:=⟨rfl,hM,λb o e=>BQ e,Nat.le_of_eq (xC _ _),trivial,λb hb=>absurd (show b∈([]:List Addr) from hb) (by simp),hok,.of_eq hg⟩
  refine codeAny_mono ((F _ IP (AX IL)).run callerA [] cz H ⟨[.ref a],[]⟩ [.ref a] [.ref a] _ _ hr e0 (GX cz (.ref a)) (.cons rfl .nil) (lq H hO hS)) λr s' h=>?_
  cases r with
  | error e=>exact (DE H e s' h).elim
  | ok fl=>
   cases fl with
   | next=>exact False.elim h
   | brk=>exact False.elim h
   | cont=>exact False.elim h
   | ret u=>
    obtain ⟨v,H',os,bare,un,K6,r',q⟩:=h
    have q':v=.bl true:=q
    subst q'
    obtain rfl:u=Value.bool true:=r'
    refine ⟨rfl,OldK.of_keep λb o e=>?_,os,bare⟩
    cases q:H b with
    | none=>exact un.keep b o e q (by intro z; exact absurd (show b∈([]:List Addr) from z) (by simp)) (by simp)
    | some u=>
     rcases hO b with z | ⟨ob,xs,z⟩
     . rw [q] at z; cases z
     . have z2:=un.frzs b ob _ z
       obtain ⟨e1,_⟩:=hok b _ z
       obtain ⟨e2,_⟩:=K6 b _ z2
       rw [e] at e1; cases e1
       exact e2
 cases hk:K.lookup a with
 | some o=>
  have e:=KX a o hk
  rw [ha] at e
  cases e
  refine core (λ_=>none) (λ_=>.inl rfl) (.inr ⟨_,vs.toArray,_,hk,rfl,rfl,rfl,by rw [List.size_toArray,K5]; exact hl,by simpa using rv⟩) (λb u z=>by have z':(none:Option HO)=some u:=z; cases z') (λb z=>absurd rfl z) λz=>absurd rfl z
 | none=>
  refine core (λb=>if b=a then some (.i0 { cls:=.type "list",data:=.seq vs.toArray } (.lst (ns.map V.int))) else none) (λb=>?_) (.inl (.inr ⟨{ cls:=.type "list",data:=.seq vs.toArray },if_pos rfl⟩)) (λb u z=>?_) (λb z=>?_) λ_=>hk
  . by_cases hb:b=a
    . exact .inr ⟨_,_,if_pos hb⟩
    . exact .inl (if_neg hb)
  . by_cases hb:b=a
    . have z':=(if_pos hb).symm.trans z
      cases z'
      subst hb
      exact ⟨ha,by rw [List.length_map]; exact hl,vs,_,rv,ha⟩
    . have z':=(if_neg hb).symm.trans z
      cases z'
  . by_cases hb:b=a
    . exact hb
    . exact absurd (if_neg hb) z
end L2
namespace L2
open PySem PySem.Spec PyProof.Rows
theorem Cd {l:W.OpenLaw}{n k:Nat}{q:Program}{loose:List Str}{XP:(Str->Option Value)->Heap->Prop}{YP:World->Heap->Prop}{d:DefRec}{K:Params->W.Frag}{CX:World->lj}{sp:World->Sp}{x:Str}
 (hn:l.most=some n) (iJ:n<=sizeLine) (yf:d.params.defaults=[]) (hr:bx k callerA)
 (hY:∀(w:World) (h:Heap),YP w h->(K w.params).In h)
 (F:∀(w:World) (mg:Str->Option Value) (fa:Addr) (h:Heap),(K w.params).In h->h.Ns mainGlobals mg->mg d.name=some (.ref fa)->
  ∃fd:FuncData,(∀(s:Shared) (u:Value),BindsTo s fd ⟨[u],[]⟩ [(x,u)])/\
   ∀base:Heap,(K w.params).In base->base.Ns mainGlobals mg->av l.prog w (K w.params) mg base (CX w) k fa fd [x] (sp w))
 (lq:∀(w:World) (H:Hp) (a:Addr) (ns:List Int),ns.length<=n->zS H->ay (K w.params) H a (ns.map V.int)->sp w [.ref a] H (λv _=>v=.bl true) λ_ _ _=>False)
 (DE:∀(w:World) (H:Hp) (s:Shared) (e:Value) (s':Shared),CX w [] H s (λ_ _ _=>False) e s'->False) :
 W.WalkO q loose XP YP l.row.toRowW d [] (λf vs=>PySem.call f vs):=by
 refine IK.uQ hn yf λw ie cz mg mb fa o pm cd doc a vs ns G Y ho hd ju yg zR hints hlen hg=>?_
 have KX:=hY w _ Y
 obtain ⟨fd,hb,hF⟩:=F w mg fa _ KX G.T.g yg
 exact zT KX G.T.g G.T.b G.T.builtins G.T.nolimit hg zR hints (Nat.le_trans hlen iJ) hr hF hb (λH hO hS=>lq w H a ns hlen hO hS) λH e s'=>DE w H cz e s'
end L2
namespace L2
open PySem PySem.Spec PyProof.Rows
def inClass (s:Stmt) (j:Nat):Stmt:=match s with
 | .ClassDef _ _ _ body _ _ _ _ _ _ _=>body.getD j (.Pass ⟨0,0,0,0⟩)
 | _=>.Pass ⟨0,0,0,0⟩
def aR (s:Stmt):Arguments:=match s with
 | .FunctionDef _ a _ _ _ _ _ _ _ _=>a
 | _=>{ posonlyargs:=[],args:=[],vararg:=none,kwonlyargs:=[],kw_defaults:=[],kwarg:=none,defaults:=[] }
def aN (s:Stmt):List Stmt:=match s with
 | .FunctionDef _ _ b _ _ _ _ _ _ _=>b
 | _=>[]
def ak (s:Stmt):Scope:=match s with
 | .FunctionDef _ _ _ _ _ _ sc _ _ _=>sc
 | _=>{ kind:=.function,names:=[],isGenerator:=false,isCoroutine:=false }
abbrev aF:lj:=λ_ _ _ _ _ _=>False
abbrev E0:XK:=λ_ _ _=>False
theorem aB {X:Cx} : Passes aF X E0:=λ_ _ _ _ _ _ _ h=>h.elim
structure cy (K:W.Frag) (x qual:Str) (st:Stmt) (f:Addr) (fd:FuncData):Prop where
 ex:∃(oc:Value) (od:Option Addr) (kV doc pm:Value) (an:Option Addr) (cdv ct:Value) (qf:Array (Option Value)),
  fd=W.fnOf x qual (aR st) (aN st) (ak st) .none kV doc pm an cdv ct/\K.lookup f=some ⟨oc,od,.func fd,qf⟩/\W.codeIn K cdv qual=true
 kp:W.keepIn K (.ref f)=true
section
variable {P:Program}{w:World}{K:W.Frag}{mg:Str->Option Value}{base:Heap}
theorem cy.ok {x qual:Str}{st:Stmt}{f:Addr}{fd:FuncData}{N ps:List Str}{k:Nat}{sp:Sp}(F:cy K x qual st f fd) (S:aT N ps (ak st)) (len:∀vs H Q E,sp vs H Q E->vs.length=ps.length)
 (wI:∀(cdv:Value) (A:Around) (outer:List Env) (s:Shared) (H:Hp) (vs:List V) (Q:VK) (E:XK),bx k (A.deeper (envOfC qual (ak st) s.heap.objs.size f cdv))->sp vs H Q E->
  ∃t,iq (jT aF P w K mg base N qual (ak st) f cdv A outer s H E).rG (aN st) t/\t { nx:=λ_ H'=>Q .aS H',rt:=Q } (start N vs) H):av P w K mg base aF (k+1) f fd ps sp:=by
 obtain ⟨oc,od,kV,doc,pm,an,cdv,ct,qf,rfl,lk,ju⟩:=F.ex
 refine GI lk ju S len λA outer s H vs Q E hr lq=>?_
 obtain ⟨t,h,q⟩:=wI cdv A outer s H vs Q E hr lq
 exact ⟨t,h.rG,q⟩
theorem cy.binds {x qual:Str}{st:Stmt}{f:Addr}{fd:FuncData}{ps:List Str}(F:cy K x qual st f fd)
 (h:∀(kV doc pm:Value) (an:Option Addr) (cdv ct:Value) (us:List Value),us.length=ps.length->bindArgs (W.fnOf x qual (aR st) (aN st) (ak st) .none kV doc pm an cdv ct) ⟨us,[]⟩=pure (ps.zip us)):Binds K fd ps []:=by
 obtain ⟨oc,od,kV,doc,pm,an,cdv,ct,qf,rfl,lk,ju⟩:=F.ex
 exact .all (h kV doc pm an cdv ct)
theorem br {x qual:Str}{st:Stmt}{f:Addr}{oc:Value}{od an:Option Addr}{qf:Array (Option Value)}{kV doc pm cdv ct:Value}(l:K.lookup f=some ⟨oc,od,.func (W.fnOf x qual (aR st) (aN st) (ak st) .none kV doc pm an cdv ct),qf⟩)
 (c:W.codeIn K cdv qual=true) (k:W.keepIn K (.ref f)=true):cy K x qual st f (W.fnOf x qual (aR st) (aN st) (ak st) .none kV doc pm an cdv ct):=⟨⟨oc,od,kV,doc,pm,an,cdv,ct,qf,rfl,l,c⟩,k⟩
end
theorem jV {A:Around}{k:Nat}(hr:bx k A):A.units+1<cLine:=Nat.lt_of_le_of_lt (Nat.add_le_add_left (by decide:1<=64) _) hr.units
theorem qo {n:Nat}(h:n<=1000):n<sizeLine:=Nat.lt_of_le_of_lt h (by decide)
section
variable {X:Cx}
theorem pv (i:Nat){x:Str}{pos:Pos}(hN:X.N[i]?=some x:=by rfl) (hv:C7 X.env.scope x:=by first | exact Or.inl rfl | exact Or.inr (Or.inl rfl) | exact Or.inr (Or.inr rfl)) (hd:(x == ("__debug__" : Str))=false:=by decide)
 (ju:(x == ("__classdict__" : Str))=false:=by decide):PE X (.Name x pos) (jf i):=C9 hN hv hd ju
end
theorem jl {A B:Prop}(h:B):if false=true then A else B:=by
 rw [if_neg Bool.false_ne_true]
 exact h
theorem nB {A B:Prop}(h:A):if true=true then A else B:=by
 rw [if_pos rfl]
 exact h
theorem lz {c A B:Prop}[Decidable c] (h1:c->A) (h2:¬ c->B):if c then A else B:=by
 by_cases h:c
 . rw [if_pos h]
   exact h1 h
 . rw [if_neg h]
   exact h2 h
def ai (H H':Hp):Prop:=∀b o,H b=some o->H' b=some o
theorem ai.trans {H H1 H2:Hp}(a:ai H H1) (b:ai H1 H2):ai H H2:=λc o h=>b c o (a c o h)
theorem ai.free {H H':Hp}(e:ai H H'){l:Addr}(h:H' l=Option.none):H l=Option.none:=by
 cases q:H l with
 | none=>rfl
 | some o=>
  rw [e l o q] at h
  cases h
theorem ai.seq {K:W.Frag}{H H':Hp}{a:Addr}{xs:List V}(e:ai H H') (h:ay K H a xs):ay K H' a xs:=by
 rcases h with (h | ⟨o,h⟩) | h
 . exact .inl (.inl (e _ _ h))
 . exact .inl (.inr ⟨o,e _ _ h⟩)
 . exact .inr h
end L2
namespace L2
open PySem PySem.Spec PyProof.Rows
section
variable {X:Cx}
end
end L2
set_option maxHeartbeats 4000000
namespace L2
open PySem PySem.Spec PyProof.Rows
theorem jW {env:Env}(f:Str×NameKind->List (Str×Addr)->Sem (ForInStep (List (Str×Addr))))
 (hf:∀n k cs,f (n,k) cs=if (k == NameKind.free)=true then (cellOf env n >>= λa=>pure (ForInStep.yield ((n,a)::cs))) else pure (ForInStep.yield cs)) :
 ∀(names:List (Str×NameKind)) (acc:List (Str×Addr)),(∀x∈names,x.2=NameKind.free->∃c,env.cells.lookup x.1=some c)->(∀x c,acc.lookup x=some c->env.cells.lookup x=some c)->
  ∃cl,forIn names acc f=(pure cl:Sem (List (Str×Addr)))/\(∀x c,cl.lookup x=some c->env.cells.lookup x=some c)/\(∀x c,acc.lookup x=some c->∃c',cl.lookup x=some c')/\∀x∈names,x.2=NameKind.free->∃c,cl.lookup x.1=some c
 | [],acc,_,ha=>⟨acc,by simp,ha,λx c e=>⟨c,e⟩,λx hx=>by simp at hx⟩
 | (n,k)::r,acc,hn,ha=>by
  have AF:∀x∈r,x.2=NameKind.free->∃c,env.cells.lookup x.1=some c:=λx hx=>hn x (List.mem_cons_of_mem _ hx)
  cases hk:k == NameKind.free with
  | false=>
   obtain ⟨cl,e,h1,h2,h3⟩:=jW f hf r acc AF ha
   refine ⟨cl,?_,h1,h2,λx hx hz=>?_⟩
   . rw [List.forIn_cons,hf,hk,if_neg Bool.false_ne_true,pure_bind]
     exact e
   . rcases List.mem_cons.mp hx with z | hx
     . subst z
       have rY:k=NameKind.free:=hz
       rw [rY] at hk
       exact absurd hk (by decide)
     . exact h3 x hx hz
  | true=>
   have fq:k=NameKind.free:=by cases k <;> first | rfl | exact absurd hk (by decide)
   obtain ⟨c,hc⟩:=hn (n,k) List.mem_cons_self fq
   have cj:env.cells.lookup n=some c:=hc
   obtain ⟨cl,e,h1,h2,h3⟩:=jW f hf r ((n,c)::acc) AF (λx d ed=>by
    rw [List.lookup_cons] at ed
    cases hx:x == n with
    | true=>
     rw [hx] at ed
     rw [eq_of_beq hx,cj]
     exact ed
    | false=>
     rw [hx] at ed
     exact ha x d ed)
   have IQ:∃c',cl.lookup n=some c':=h2 n c (by rw [List.lookup_cons,beq_self_eq_true])
   refine ⟨cl,?_,h1,λx d ed=>?_,λx hx hz=>?_⟩
   . rw [List.forIn_cons,hf,hk,if_pos rfl]
     unfold cellOf
     rw [cj]
     rw [pure_bind,pure_bind]
     exact e
   . cases hx:x == n with
     | true=>
      rw [eq_of_beq hx]
      exact IQ
     | false=>
      refine h2 x d ?_
      rw [List.lookup_cons,hx]
      exact ed
   . rcases List.mem_cons.mp hx with z | hx
     . subst z
       exact IQ
     . exact h3 x hx hz
theorem pI {scope:Scope}{env:Env}(h:∀x∈scope.names,x.2=NameKind.free->∃c,env.cells.lookup x.1=some c) :
 ∃cl,closureFor scope env=pure cl/\(∀x c,cl.lookup x=some c->env.cells.lookup x=some c)/\∀x∈scope.names,x.2=NameKind.free->∃c,cl.lookup x.1=some c:=by
 obtain ⟨cl,e,h1,_,h3⟩:=jW (env:=env) (λp cs=>if (p.2 == NameKind.free)=true then (cellOf env p.1 >>= λa=>pure (ForInStep.yield ((p.1,a)::cs))) else pure (ForInStep.yield cs)) (λn k cs=>rfl) scope.names [] h (λx c z=>by simp at z)
 refine ⟨cl,?_,h1,h3⟩
 have key:closureFor scope env=(forIn scope.names ([]:List (Str×Addr)) (λ(p:Str×NameKind) cs=>if (p.2 == NameKind.free)=true then (cellOf env p.1 >>= λa=>pure (ForInStep.yield ((p.1,a)::cs))) else pure (ForInStep.yield cs)) >>= λcs=>pure cs):=rfl
 rw [key,e,pure_bind]
theorem lookup_mem {names:List (Str×NameKind)}{x:Str}{k:NameKind}(h:names.lookup x=some k):(x,k)∈names:=by
 induction names with
 | nil=>simp at h
 | cons p r ih=>
  obtain ⟨n,j⟩:=p
  rw [List.lookup_cons] at h
  cases hx:x == n with
  | true=>
   rw [hx] at h
   have e:j=k:=Option.some.inj h
   rw [eq_of_beq hx,e]
   exact List.mem_cons_self
  | false=>
   rw [hx] at h
   exact List.mem_cons_of_mem _ (ih h)
def jm (env:Env) (p:Str×NameKind):Str×NameKind:=if (p.2 == NameKind.free && env.scope.kind == .function && env.kindOf p.1 == some .cell) then (p.1,.cell) else p
theorem kz (scope:Scope) (env:Env):(relabel scope env).names=scope.names.map (jm env):=rfl
theorem jn {env:Env} : ∀(names:List (Str×NameKind)) (x:Str),(names.map (jm env)).lookup x=(names.lookup x).map λk=>(jm env (x,k)).2
 | [],x=>rfl
 | (n,k)::r,x=>by
  rw [List.map_cons]
  have e1:(jm env (n,k)).1=n:=by unfold jm; split <;> rfl
  have:jm env (n,k)=(n,(jm env (n,k)).2):=Prod.ext e1 rfl
  rw [this,List.lookup_cons,List.lookup_cons]
  cases hx:x == n with
  | true=>
   rw [eq_of_beq hx]
   rfl
  | false=>exact jn r x
theorem zU {scope:Scope}{env:Env}{x:Str}(h:scope.names.lookup x=some .free):(relabel scope env).names.lookup x=some .cell\/(relabel scope env).names.lookup x=some .free:=by
 rw [kz,jn,h]
 unfold jm
 simp only [Option.map_some]
 split
 . exact .inl rfl
 . exact .inr rfl
theorem yh {scope:Scope}{env:Env}{x:Str}(hc:∀y∈scope.names,y.2≠.cell) (h:(relabel scope env).names.lookup x=some .cell\/(relabel scope env).names.lookup x=some .free):scope.names.lookup x=some .free:=by
 rw [kz,jn] at h
 cases e:scope.names.lookup x with
 | none=>rw [e] at h; rcases h with h | h <;> cases h
 | some k=>
  rw [e] at h
  have hm:=lookup_mem e
  have nk:k≠.cell:=hc _ hm
  simp only [Option.map_some,Option.some.injEq] at h
  by_cases hf:k=.free
  . rw [hf]
  . have hb:(k == NameKind.free)=false:=by cases k <;> first | rfl | exact absurd rfl hf
    have:(jm env (x,k)).2=k:=by
     unfold jm
     simp [hb]
    rw [this] at h
    rcases h with h | h
    . exact absurd h nk
    . exact absurd h hf
def cm (X:Cx) (N:List Str) (scope:Scope) (cl:List (Str×Addr)) (C:Addr) (s:Shared) (H:Hp) (fp:List Addr) (pn:List (Addr×Obj)):Cx where
 prog:=X.prog
 w:=X.w
 K:=X.K
 mg:=X.mg
 base:=X.base
 A:=X.A
 N:=N
 ie:=s
 C6:=H
 env:=compEnvC scope cl C X.env
 outer:=X.stack
 stack:=X.stack
 ex:=fp
 fn:=λ_=>false
 calm:=true
 pn:=pn
 xe:=λ_ _=>False
structure jC (X:Cx) (N:List Str) (js:List (Option Nat)) (scope:Scope):Prop where
 kind:scope.kind=.function
 nocell:∀y∈scope.names,y.2≠.cell
 names:∀y∈scope.names,y.2=.local->scope.names.lookup y.1=some .local
 frees:∀y∈scope.names,y.2=.free->X.env.kindOf y.1=some .cell\/X.env.kindOf y.1=some .free
 len:js.length=N.length
 pull:∀(i j:Nat) (x:Str),js[i]?=some (some j)->N[i]?=some x->X.N[j]?=some x/\scope.names.lookup x=some .free
def cW (xn:List Str) (names:List (Str×NameKind)):List Str->List (Option Nat)->Bool
 | [],[]=>true
 | _::N,none::js=>cW xn names N js
 | x::N,some j::js=>(match xn[j]? with | some y=>decide (y=x) | none=>false) && (match names.lookup x with | some .free=>true | _=>false) && cW xn names N js
 | _,_=>false
theorem jX {xn:List Str}{names:List (Str×NameKind)} : ∀{N:List Str}{js:List (Option Nat)},cW xn names N js=true->js.length=N.length
 | [],[],_=>rfl
 | x::N,none::js,h=>by
  have:=jX (N:=N) (js:=js) (by simpa [cW] using h)
  simp [this]
 | x::N,some j::js,h=>by
  have h':cW xn names N js=true:=by
   simp only [cW,Bool.and_eq_true] at h
   exact h.2
  simp [jX h']
 | [],_::_,h=>by simp [cW] at h
 | _::_,[],h=>by simp [cW] at h
theorem lA {xn:List Str}{names:List (Str×NameKind)} : ∀{N:List Str}{js:List (Option Nat)},cW xn names N js=true->∀(i j:Nat) (x:Str),js[i]?=some (some j)->N[i]?=some x->xn[j]?=some x/\names.lookup x=some .free
 | [],[],_,i,j,x,e,_=>by simp at e
 | y::N,none::js,h,i,j,x,e1,e2=>by
  cases i with
  | zero=>simp at e1
  | succ i=>
   exact lA (N:=N) (js:=js) (by simpa [cW] using h) i j x (by simpa using e1) (by simpa using e2)
 | y::N,some j'::js,h,i,j,x,e1,e2=>by
  simp only [cW,Bool.and_eq_true] at h
  obtain ⟨⟨h1,h2⟩,h3⟩:=h
  cases i with
  | zero=>
   have ej:j'=j:=by simpa using e1
   have ey:y=x:=by simpa using e2
   subst ej ey
   constructor
   . cases q:xn[j']? with
     | none=>rw [q] at h1; cases h1
     | some z=>
      rw [q] at h1
      rw [of_decide_eq_true h1]
   . cases q:names.lookup y with
     | none=>rw [q] at h2; cases h2
     | some k=>
      rw [q] at h2
      cases k <;> first | rfl | cases h2
  | succ i=>exact lA h3 i j x (by simpa using e1) (by simpa using e2)
 | [],_::_,h,_,_,_,_,_=>by simp [cW] at h
 | _::_,[],h,_,_,_,_,_=>by simp [cW] at h
def isFn:ScopeKind->Bool
 | .function=>true
 | _=>false
def oy (xn:List Str) (xs:List (Str×NameKind)) (N:List Str) (js:List (Option Nat)) (scope:Scope):Bool:=
 isFn scope.kind && (scope.names.all λy=>match y.2 with
  | .cell=>false
  | .local=>(match scope.names.lookup y.1 with | some .local=>true | _=>false)
  | .free=>(match xs.lookup y.1 with | some .cell=>true | some .free=>true | _=>false)
  | _=>true) && cW xn scope.names N js
theorem jC.of {X:Cx}{N:List Str}{js:List (Option Nat)}{scope:Scope}(h:oy X.N X.env.scope.names N js scope=true):jC X N js scope:=by
 unfold oy at h
 simp only [Bool.and_eq_true,List.all_eq_true] at h
 obtain ⟨⟨h1,h2⟩,h3⟩:=h
 refine ⟨?_,λy hy e=>?_,λy hy e=>?_,λy hy e=>?_,jX h3,lA h3⟩
 . cases q:scope.kind <;> rw [q] at h1 <;> first | rfl | cases h1
 . have:=h2 y hy
   rw [e] at this
   cases this
 . have:=h2 y hy
   rw [e] at this
   cases q:scope.names.lookup y.1 with
   | none=>rw [q] at this; cases this
   | some k=>rw [q] at this; cases k <;> first | rfl | cases this
 . have:=h2 y hy
   rw [e] at this
   show X.env.scope.names.lookup y.1=some .cell\/X.env.scope.names.lookup y.1=some .free
   cases q:X.env.scope.names.lookup y.1 with
   | none=>rw [q] at this; cases this
   | some k=>rw [q] at this; cases k <;> first | exact .inl rfl | exact .inr rfl | cases this
def l7 (js:List (Option Nat)) (σ:St):St:=js.map λoj=>match oj with | none=>none | some j=>(σ[j]?).getD none
section
variable {X:Cx}{pins:List (Addr×Obj)}{σ:St}{H:Hp}{s:Shared}
theorem Inv.enter {N:List Str}{js:List (Option Nat)}{scope:Scope}{cl:List (Str×Addr)}{C:Addr}{fp:List Addr}{h':Heap}{m:Str->Option Value}{tk:Nat}(I:Inv X pins σ H s) (S:jC X N js scope) (hc:X.calm=true)
 (oz:∀x c,cl.lookup x=some c->X.env.cells.lookup x=some c) (DF:∀x∈scope.names,x.2=NameKind.free->∃c,cl.lookup x.1=some c) (hC:C=s.heap.objs.size)
 (hf:∀b∈fp,fi X pins H b) (hl:∀b∈fp,b<s.heap.objs.size) (hn:h'.Ns C m) (k:∀b o,s.heap.get? b=some o->h'.get? b=some o) :
 Inv (cm X N scope cl C s H fp (X.pn++pins)) [] (l7 js σ) H { s with heap:=h',toks:=tk }:=by
 have lt:∀b o,s.heap.get? b=some o->b≠C:=λb o e=>by
  rw [hC]
  exact Nat.ne_of_lt (Heap.lt_size e)
 have yi:∀x,scope.names.lookup x=some .free->∃c,cl.lookup x=some c:=λx e=>DF _ (lookup_mem e) rfl
 have stk:∀b,b≠X.env.locals->b∉X.fs->b∉kq X.stack:=λb h1 h2 z=>(List.mem_cons.mp (I.nZ b z)).elim h1 h2
 have ok:(cm X N scope cl C s H fp (X.pn++pins)).Ok:=by
  refine ⟨I.ok.mod,S.kind,I.ok.glob,I.ok.blt,Nat.le_of_eq hC.symm,λx y c e1 e2=>I.ok.inj x y c (oz x c e1) (oz y c e2),λx hx=>yi x (yh S.nocell hx),λx c e _=>?_,λ_=>I.ok.hd hc,
   I.ok.frames,.inl rfl,λb hb=>⟨?_,λx c e=>(hf b hb).2.2.2.2.1 x c (oz x c e)⟩,I.bs,Nat.le_trans I.ok.bsz I.sz,λb o e hb=>?_,λb hb=>stk b (hf b hb).2.1 (hf b hb).2.2.1,I.stack,I.u0⟩
  . cases e
  . show b≠C
    rw [hC]
    exact Nat.ne_of_lt (hl b hb)
  . rcases (hf b hb).2.2.2.1 with z | z
    . exact I.ok.noex b o e z
    . exact absurd (Nat.lt_of_lt_of_le (Heap.lt_size e) (Nat.le_trans I.ok.bsz z)) (Nat.lt_irrefl _)
 refine ⟨ok,rfl,I.bare,Un.kept k,⟨m,hn,λi x v e1 e2 e3=>?_⟩,λx c e=>?_,?_,λx c e=>I.freeC x c (oz x c e),λp hp=>?_,I.hok.kept k,?_⟩
 . -- a name that the block closes over
   have rZ:(l7 js σ)[i]?=some (some v):=e2
   unfold l7 at rZ
   rw [List.getElem?_map] at rZ
   cases q:js[i]? with
   | none=>rw [q] at rZ; cases rZ
   | some oj=>
    rw [q] at rZ
    cases oj with
    | none=>cases rZ
    | some j=>
     have ev:(σ[j]?).getD none=some v:=Option.some.inj rZ
     have vi:σ[j]?=some (some v):=by
      cases z:σ[j]? with
      | none=>rw [z] at ev; cases ev
      | some o=>rw [z] at ev; exact congrArg some ev
     obtain ⟨n1,n2⟩:=S.pull i j x q e1
     obtain ⟨c,cj⟩:=yi x n2
     have Ob:=oz x c cj
     obtain ⟨m0,_,vj⟩:=I.loc
     have kx:=S.frees (x,.free) (lookup_mem n2) rfl
     have IS:X.env.kindOf x=some .cell\/X.env.kindOf x=some .free:=kx
     obtain ⟨u,ru,lk⟩:=vj j x v n1 vi (IS.elim (λz=>.inr (.inl z)) λz=>.inr (.inr z))
     refine ⟨u,ru,.inr ⟨zU n2,c,cj,?_⟩⟩
     rcases lk with ⟨kl,_⟩ | ⟨_,c2,e2,ic⟩
     . rcases IS with z | z <;> (rw [kl] at z; cases z)
     . rw [Ob] at e2
       cases e2
       obtain ⟨o,ho,hd⟩:=ic
       exact ⟨o,k c o ho,hd⟩
 . obtain ⟨v,o,ho,hd⟩:=I.cell x c (oz x c e)
   exact ⟨v,o,k c o ho,hd⟩
 . show H C=none
   rw [hC]
   exact I.hok.fresh (Nat.le_refl _)
 . have Oc:p∈X.pn++pins:=by simpa [cm] using hp
   obtain ⟨e,n,ne,nf,d⟩:=I.pin p Oc
   exact ⟨k _ _ e,n,lt _ _ e,stk _ ne nf,d⟩
 . show (l7 js σ).length=N.length
   unfold l7
   rw [List.length_map]
   exact S.len
theorem Inv.left {N:List Str}{scope:Scope}{cl:List (Str×Addr)}{C:Addr}{fp:List Addr}{RO:St}{H':Hp}{s':Shared}{pn:List (Addr×Obj)}(I:Inv X pins σ H s) (hf:∀b∈fp,fi X pins H b)
 (J:Inv (cm X N scope cl C s H fp pn) [] RO H' s'):Inv X pins σ H' s':=
 I.Gu (ch:=fp) J.os J.base J.hok J.bare λb hb=>⟨(hf b hb).2.2.2.1,(hf b hb).2.1,(hf b hb).2.2.2.2.1,(hf b hb).2.2.2.2.2⟩
end
def sd (X:Cx) (ifs:List Expr) (t:TT):Prop:=
 ∀(pins:List (Addr×Obj)) (s:Shared) (σ:St) (H:Hp) (Q:Bool->Hp->Prop),Inv X pins σ H s->t σ H Q->
  wpAny (model X.prog X.w) X.A (forIn ifs true λc r=>if r=true then do let ok ← isTrue c X.env (eval c X.env); pure (ForInStep.yield ok) else pure (ForInStep.yield r)) (TP X pins σ Q) X.xe s
def lB:TT:=λ_ H Q=>Q true H
theorem cG {X:Cx} : sd X [] lB:=λpins s σ H Q I h=>by
 rw [List.forIn_nil]
 exact wpAny_pure ⟨H,I,h⟩
theorem se {X:Cx}{c:Expr}{t:TT}(hc:PT X c t):sd X [c] t:=λpins s σ H Q I h=>by
 rw [List.forIn_cons]
 refine wpAny_bind ?_
 rw [if_pos rfl]
 refine wpAny_bind (aG (hc pins s σ H Q I h) λb s1 h1=>?_)
 refine wpAny_pure ?_
 show wpAny _ _ (forIn [] b _) _ _ _
 rw [List.forIn_nil]
 exact wpAny_pure h1
theorem sf {prog:Program}{w:World}{A:Around}{R:Result->Shared->Prop}{s:Shared}{elt target iter:Expr}{ifs:List Expr}{scope:Scope}{pos:Pos}{it acc:Value}{env:Env}(I:Nat->Shared->Prop)
 (turn:∀n s,I n s->wpAny (model prog w) A (pyNext it) (λr cz=>match r with
  | none=>R (.ok .next) cz
  | some v=>wpAny (model prog w) A (letOwnedTupleGo target it v) (λ_ IT=>wpAny (model prog w) A (assign target env v) (λ_ pD=>
   wpAny (model prog w) A (forIn ifs true λc r=>if r=true then do let ok ← isTrue c env (eval c env); pure (ForInStep.yield ok) else pure (ForInStep.yield r)) (λok B0=>
    if ok=true then wpAny (model prog w) A (eval elt env) (λx Od=>
     wpAny (model prog w) A (call (.builtin "list.append") [acc,x]) (λ_ Oe=>∃m,m<n/\I m Oe) (λ_ _=>False) Od) (λ_ _=>False) B0
    else ∃m,m<n/\I m B0) (λ_ _=>False) pD) (λ_ _=>False) IT) (λ_ _=>False) cz) (λ_ _=>False) s)
 (n:Nat) (h:I n s) :
 codeAny (model prog w) A (.compLoop (.ListComp elt [⟨target,iter,ifs,0⟩] scope pos) 0 it acc env) R s:=by
 refine codeAny_loop rfl I (λn s hI=>?_) n h
 show wpAny _ A ((compTurn (.ListComp elt [⟨target,iter,ifs,0⟩] scope pos) 0 it acc env).onRaise (λx=>do noteFrame x env; theTreesLotGoes x)) _ _ s
 refine wpAny_noted ?_
 rw [compTurn_list]
 refine wpAny_bind (wpAny_standAt (wpAny_bind (wpAny_mono (turn n s hI) (λr cz eI=>?_) λ_ _ h'=>h'.elim)))
 cases r with
 | none=>exact wpAny_pure eI
 | some v=>
  refine wpAny_bind (wpAny_mono eI (λ_ IT Of=>?_) λ_ _ h'=>h'.elim)
  refine wpAny_bind (wpAny_mono Of (λ_ pD ig=>wpAny_bind (wpAny_mono ig (λok B0 gk=>?_) λ_ _ h'=>h'.elim)) λ_ _ h'=>h'.elim)
  cases ok with
  | false=>exact wpAny_pure ⟨rfl,gk⟩
  | true=>
   exact wpAny_bind (wpAny_bind (wpAny_mono gk (λx Od pJ=>wpAny_bind (wpAny_mono pJ (λ_ Oe cT=>wpAny_pure (wpAny_pure ⟨rfl,cT⟩)) λ_ _ h'=>h'.elim)) λ_ _ h'=>h'.elim))
def sg (D:Addr) (g:TG) (ti:TT) (te:TE) (J:It) (W:Nat->Nat->St->Hp->Prop) (Q:Hp->Prop):Prop:=∀i m σ H,W i m σ H->
 (J.stop i H/\Q H)\/(J.go i H/\∀x H',J.yld i H x H'->g x σ H' λgi H2=>ti gi H2 λb H3=>
  if b=true then te gi H3 λy H4=>∃acc,H4 D=some (.lst acc)/\acc.length<sizeLine/\∃m',m'<m/\W (i+1) m' gi (upd H4 D (.lst (acc++[y])))
  else ∃m',m'<m/\W (i+1) m' gi H3)
def DG (js:List (Option Nat)) (wi:TI) (g:TG) (ti:TT) (te:TE):TE:=λσ H Q=>wi σ H λJ H1=>∀D,H1 D=none->
 ∃W:Nat->Nat->St->Hp->Prop,(∃m,W 0 m (l7 js σ) (upd H1 D (.lst [])))/\sg D g ti te J W (λH'=>Q (.ref D) H')
section
variable {X:Cx}{N:List Str}{js:List (Option Nat)}{scope:Scope}{elt tg iter:Expr}{ifs:List Expr}{pos:Pos}{wi:TI}{g:TG}{ti:TT}{te:TE}
theorem yj {use:Option (Value->Sem Unit)}{R:Value->Shared->Prop}(S:jC X N js scope) (hc:X.calm=true) (hi:PI X tg iter wi)
 (hg:∀cl C s H fp pn,PG (cm X N scope cl C s H fp pn) tg g) (ht:∀cl C s H fp pn,sd (cm X N scope cl C s H fp pn) ifs ti) (he:∀cl C s H fp pn,PE (cm X N scope cl C s H fp pn) elt te)
 (hs:∀x,foldedSetIterable iter X.env x=pure x){pins:List (Addr×Obj)}{s:Shared}{σ:St}{H:Hp}{Q:V->Hp->Prop}(I:Inv X pins σ H s) (h:DG js wi g ti te σ H Q)
 (hR:∀D C (H':Hp) (s':Shared),Inv X pins σ H' s'->(∃m,s'.heap.Ns C m)->H' C=none->C≠X.env.locals->(C∈X.ex\/X.ie.heap.objs.size<=C)->(∀x c,X.env.cells.lookup x=some c->c≠C)->(∀p∈X.pn++pins,p.1≠C)->Q (.ref D) H'->
  compPost (model X.prog X.w) X.A X.xe use R (.ref D) C (.ok .next) s') :
 wpAny (model X.prog X.w) X.A (comprehension (.ListComp elt [⟨tg,iter,ifs,0⟩] scope pos) scope X.env (firstIterPos [⟨tg,iter,ifs,0⟩] pos) (newList []) false (eval iter X.env) use) R X.xe s:=by
 obtain ⟨cl,GY,oz,DF⟩:=pI (scope:=scope) (env:=X.env) λx hx hk=>I.ok.has x.1 (S.frees x hx hk)
 refine wpAny_comprehension_free (use:=use) rfl hs GY S.kind S.names (aG (hi pins s σ H _ I h) λxv s1 h1=>aG h1 λDj s2 h2=>?_)
 obtain ⟨it,fp,tn,J,H2,e,I2,T,i6,f2,q2⟩:=h2
 subst e
 refine wpAny_newObj_type (wpAny_newFunctionEnv S.nocell (by intro y hy; simp at hy) (λeI zV zW=>?_) S.kind)
 dsimp only at zV zW ⊢
 have I3:Inv X pins σ (upd H2 s2.heap.objs.size (.lst [])) { s2 with heap:=s2.heap.push { cls:=.type "list",data:=.seq ([]:List Value).toArray },toks:=s2.toks }:=I2.zQ .nil (by show 0<=sizeLine; decide)
 have lt2:∀b∈fp,b<s2.heap.objs.size:=λb hb=>let ⟨o,e,_⟩:=T.obj _ _ i6 b hb; Heap.lt_size e
 have f3:∀b∈fp,fi X pins (upd H2 s2.heap.objs.size (.lst [])) b:=λb hb=>⟨by rw [aj (Nat.ne_of_lt (lt2 b hb))]; exact (f2 b hb).1,(f2 b hb).2⟩
 obtain ⟨W,⟨m0,w0⟩,turn⟩:=q2 s2.heap.objs.size (I2.hok.fresh (Nat.le_refl _))
 generalize AY:({ s2 with heap:=s2.heap.push { cls:=.type "list",data:=.seq ([]:List Value).toArray },toks:=s2.toks } : Shared)=s3 at I3
 have e3:s3.heap=s2.heap.push { cls:=.type "list",data:=.seq ([]:List Value).toArray }:=by rw [← AY]
 have z3:s3.heap.objs.size=s2.heap.objs.size+1:=by rw [e3,Heap.size_push]
 have k1:∀b o,s3.heap.get? b=some o->eI.get? b=some o:=λb o e=>by
  have hb:b<s3.heap.objs.size:=Heap.lt_size e
  refine zW.extBut b o ?_ (Heap.get?_push_of_some _ (by rw [← e3]; exact e))
  rw [← e3]
  exact Nat.ne_of_lt hb
 have hC:(s2.heap.push { cls:=.type "list",data:=.seq ([]:List Value).toArray }).objs.size=s3.heap.objs.size:=by rw [e3]
 have I4:=I3.enter (N:=N) (js:=js) (scope:=scope) (cl:=cl) (fp:=fp) (C:=(s2.heap.push { cls:=.type "list",data:=.seq ([]:List Value).toArray }).objs.size) (h':=eI) (tk:=s2.toks+([]:List (Str×Value)).length) S hc oz DF hC f3
  (λb hb=>by rw [z3]; exact Nat.lt_succ_of_lt (lt2 b hb)) zV k1
 have IU:tn 0 eI:=T.keep _ _ _ i6 λb hb o e=>k1 b o (by rw [e3]; exact Heap.get?_push_of_some _ e)
 generalize R0:(s2.heap.push { cls:=.type "list",data:=.seq ([]:List Value).toArray }).objs.size=C at zV zW hC I4 ⊢
 have Og:({ s3 with heap:=eI,toks:=s2.toks+([]:List (Str×Value)).length } : Shared) = { s2 with heap:=eI,toks:=s2.toks+([]:List (Str×Value)).length }:=by rw [← AY]
 rw [Og] at I4
 have fY:∀{H':Hp},(∀b∈fp,H' b=none)->∀b∈fp,fi (cm X N scope cl C s3 (upd H2 s2.heap.objs.size (.lst [])) fp (X.pn++pins)) [] H' b:=λhn b hb=>by
  obtain ⟨f0,fa,fb,fc,fd,fe⟩:=f3 b hb
  refine ⟨hn b hb,?_,λz=>(List.mem_cons.mp (I3.nZ b z)).elim fa fb,.inl hb,λx c e=>fd x c (oz x c e),λp hp=>fe p (by simpa [cm] using hp)⟩
  show b≠C
  rw [hC,z3]
  exact Nat.ne_of_lt (Nat.lt_succ_of_lt (lt2 b hb))
 have loop:codeAny (model X.prog X.w) X.A (.compLoop (.ListComp elt [⟨tg,iter,ifs,0⟩] scope pos) 0 (.ref it) (.ref s2.heap.objs.size) (compEnvC scope cl C X.env))
  (compPost (model X.prog X.w) X.A X.xe use R (.ref s2.heap.objs.size) C) { s2 with heap:=eI,toks:=s2.toks+([]:List (Str×Value)).length }:=by
  refine sf (λn s'=>∃i bG H',Inv (cm X N scope cl C s3 (upd H2 s2.heap.objs.size (.lst [])) fp (X.pn++pins)) [] bG H' s'/\tn i s'.heap/\(∀b∈fp,H' b=none)/\W i n bG H') ?_ m0
   ⟨0,_,_,I4,IU,λb hb=>(f3 b hb).1,w0⟩
  rintro n s5 ⟨i,GZ,H5,I5,u6,AJ,w5⟩
  rcases turn i n GZ H5 w5 with ⟨stop,qn⟩ | ⟨go,step⟩
  . refine aG (T.done (cm X N scope cl C s3 (upd H2 s2.heap.objs.size (.lst [])) fp (X.pn++pins)) rfl rfl rfl rfl i [] s5 GZ H5 (λ_ _=>False) I5 (fY AJ) u6 stop) λr s6 ⟨hr,I6⟩=>?_
    subst hr
    have I7:Inv X pins σ H5 s6:=I3.left f3 I6
    have Oh:X.ie.heap.objs.size<=C:=by rw [hC]; exact I3.sz
    refine hR s2.heap.objs.size C H5 s6 I7 (let ⟨m,hn,_⟩:=I6.loc; ⟨m,hn⟩) I6.free ?_ (.inr Oh) (λx c e z=>?_) (λp hp z=>?_) qn
    . rw [hC]
      exact Nat.ne_of_gt I3.lt
    . obtain ⟨v,o,ho,_⟩:=I3.cell x c e
      have:=Heap.lt_size ho
      rw [z,hC] at this
      exact Nat.lt_irrefl _ this
    . obtain ⟨e,_⟩:=I3.pin p hp
      have:=Heap.lt_size e
      rw [z,hC] at this
      exact Nat.lt_irrefl _ this
  . refine aG (T.item (cm X N scope cl C s3 (upd H2 s2.heap.objs.size (.lst [])) fp (X.pn++pins)) rfl rfl rfl rfl i [] s5 GZ H5 (λ_ _=>False) I5 (fY AJ) u6 go) λr s6 ⟨u,hr,h6⟩=>?_
    subst hr
    refine aG h6 λ_ s7 ⟨x,H7,I7,r7,y7,DH,Oi⟩=>?_
    have Oj:=I7.pinned (fY Oi) (T.obj _ _ DH)
    have again:∀{n':Nat}{yk:St}{H8:Hp}{s8:Shared},Inv (cm X N scope cl C s3 (upd H2 s2.heap.objs.size (.lst [])) fp (X.pn++pins)) ([]++kY fp s7.heap) yk H8 s8->n'<n->W (i+1) n' yk H8->
     ∃m,m<n/\∃i bG H',Inv (cm X N scope cl C s3 (upd H2 s2.heap.objs.size (.lst [])) fp (X.pn++pins)) [] bG H' s8/\tn i s8.heap/\(∀b∈fp,H' b=none)/\W i m bG H':=λ{n' yk H8 s8} I8 hm w8=>by
     refine ⟨n',hm,i+1,yk,H8,I8.jR,T.keep _ _ _ DH λb hb o e=>(I8.pin (b,o) (List.mem_append_right _ (List.mem_append_right _ (iB hb e)))).1,λb hb=>?_,w8⟩
     obtain ⟨o,e,d⟩:=T.obj _ _ DH b hb
     exact (I8.pin (b,o) (List.mem_append_right _ (List.mem_append_right _ (iB hb e)))).2.1
    refine aG (hg _ _ _ _ _ _ _ s7 GZ H7 x u _ Oj r7 (step x H7 y7)) λ_ s8 ⟨yk,H8,I8,q8⟩=>?_
    refine aG (ht _ _ _ _ _ _ _ s8 yk H8 _ I8 q8) λok s9 ⟨H9,I9,q9⟩=>?_
    cases ok with
    | false=>
     rw [if_neg Bool.false_ne_true] at q9 ⊢
     obtain ⟨m',hm,w9⟩:=q9
     exact again I9 hm w9
    | true=>
     rw [if_pos rfl] at q9 ⊢
     refine aG (he _ _ _ _ _ _ _ s9 yk H9 _ I9 q9) λyv Ol ⟨y,IV,Om,Oo,acc,hD,hl,m',hm,Oq⟩=>?_
     refine aG (ly _ Ol yk IV (.ref s2.heap.objs.size) [y] (.ref s2.heap.objs.size) [yv] (λ_ H'=>H'=upd IV s2.heap.objs.size (.lst (acc++[y]))) Om rfl (.cons Oo .nil) ⟨s2.heap.objs.size,acc,y,rfl,rfl,hD,hl,rfl⟩) λ_ R1 ⟨_,R3,Ot,_,Ou⟩=>?_
     subst Ou
     exact again Ot hm Oq
 exact codeAny_compStart_list loop (T.self _ 0 _ _ _ IU loop)
theorem ee (S:oy X.N X.env.scope.names N js scope=true) (hc:X.calm=true) (hi:PI X tg iter wi)
 (hg:∀cl C s H fp pn,PG (cm X N scope cl C s H fp pn) tg g) (ht:∀cl C s H fp pn,sd (cm X N scope cl C s H fp pn) ifs ti) (he:∀cl C s H fp pn,PE (cm X N scope cl C s H fp pn) elt te)
 (hs:∀x,foldedSetIterable iter X.env x=pure x:=by intro _; rfl):PE X (.ListComp elt [⟨tg,iter,ifs,0⟩] scope pos) (DG js wi g ti te):=by
 intro pins s σ H Q I h
 rw [eval_ListComp]
 refine yj (use:=none) (jC.of S) hc hi hg ht he hs I h ?_
 rintro D C H' s' I' ⟨m,hn⟩ c1 c2 c3 c4 c5 q
 refine ⟨m,hn,λh' DI=>?_⟩
 exact ⟨.ref D,H',I'.turned (t':=s'.toks) (λb o hb e=>DI.extBut b o hb e) c1 c2 c3 c4 c5,rfl,q⟩
theorem G0 {i:Nat}{x:Str}{pos' DJ:Pos}(hN:X.N.Nodup) (Ov:X.N[i]?=some x) (hx:X.env.scope.names.lookup x=some .local) (S:oy X.N X.env.scope.names N js scope=true) (hc:X.calm=true) (hi:PI X tg iter wi)
 (hg:∀cl C s H fp pn,PG (cm X N scope cl C s H fp pn) tg g) (ht:∀cl C s H fp pn,sd (cm X N scope cl C s H fp pn) ifs ti) (he:∀cl C s H fp pn,PE (cm X N scope cl C s H fp pn) elt te)
 (Ow:swapsWith (.ListComp elt [⟨tg,iter,ifs,0⟩] scope pos) (some (.Name x pos')) DJ.line X.env=pure true:=by rfl)
 (hs:∀x,foldedSetIterable iter X.env x=pure x:=by intro _; rfl):PS X (.Assign [.Name x pos'] (.ListComp elt [⟨tg,iter,ifs,0⟩] scope pos) DJ) (zE (DG js wi g ti te) (eZ i)):=by
 intro pins s σ H D I h
 rw [exec_Assign_Name_used _ _ _ _ Ow]
 refine wpAny_bind (wpAny_standAt (wpAny_bind ?_))
 show wpAny _ X.A (do let _ ← comprehension (.ListComp elt [⟨tg,iter,ifs,0⟩] scope pos) scope X.env _ (newList []) false (eval iter X.env) (some (assign (.Name x pos') X.env))) _ _ s
 refine wpAny_bind (aG (yj (use:=some (assign (.Name x pos') X.env)) (R:=λ_ s'=>SP X pins D .next s') (jC.of S) hc hi hg ht he hs I h ?_) λ_ s' hq=>wpAny_pure (wpAny_pure hq))
 rintro Dd C H' s' I' ⟨m,hn⟩ c1 c2 c3 c4 c5 q
 show wpAny _ X.A (assign (.Name x pos') X.env (.ref Dd)) _ _ _
 refine wpAny_assign_Name (pY I' hN Ov (.inl hx) (v:=.ref Dd) rfl (λxW Ox ⟨a,sb,ha⟩=>?_) (.inr hx))
 have ea:a≠C:=by
  rcases ha with ha | ha
  . rw [ha]
    exact Ne.symm c2
  . exact c4 x a ha
 refine ⟨m,hn.sameBut sb (Ne.symm ea),λh' DI=>?_⟩
 exact ⟨_,_,Ox.turned (t':=xW.toks) (λb o hb e=>DI.extBut b o hb e) c1 c2 c3 c4 c5,q⟩
end
def yl (D:Addr) (n:Nat) (Pv:Nat->List V->St->Hp->Prop):Nat->Nat->St->Hp->Prop:=λi m σ H=>i<=n/\m=n-i/\∃acc,H D=some (.lst acc)/\Pv i acc σ H
theorem cM {D:Addr}{n i:Nat}{Pv:Nat->List V->St->Hp->Prop}{acc:List V}{σ:St}{H:Hp}(hi:i<n) (hD:H D=some (.lst acc)) (hp:Pv (i+1) acc σ H):∃m',m'<n-i/\yl D n Pv (i+1) m' σ H:=
 ⟨n-(i+1),by omega,hi,rfl,acc,hD,hp⟩
theorem gx {D:Addr}{g:TG}{ti:TT}{te:TE}{J:It}{Q:Hp->Prop}{Oy:St}{H0:Hp}(n:Nat) (Pv:Nat->List V->St->Hp->Prop) (h0:Pv 0 [] Oy H0) (Oz:H0 D=some (.lst []))
 (fin:∀acc σ H,H D=some (.lst acc)->Pv n acc σ H->J.stop n H/\Q H)
 (step:∀i acc σ H,i<n->H D=some (.lst acc)->Pv i acc σ H->J.go i H/\∀x H',J.yld i H x H'->g x σ H' λgi H2=>ti gi H2 λb H3=>
  if b=true then te gi H3 λy H4=>∃acc,H4 D=some (.lst acc)/\acc.length<sizeLine/\∃m',m'<n-i/\yl D n Pv (i+1) m' gi (upd H4 D (.lst (acc++[y]))) else ∃m',m'<n-i/\yl D n Pv (i+1) m' gi H3) :
 ∃W:Nat->Nat->St->Hp->Prop,(∃m,W 0 m Oy H0)/\sg D g ti te J W Q:=by
 refine ⟨yl D n Pv,⟨n,Nat.zero_le _,rfl,[],Oz,h0⟩,?_⟩
 rintro i m σ H ⟨hi,rfl,acc,hD,hp⟩
 rcases Nat.lt_or_ge i n with h | h
 . exact .inr (step i acc σ H h hD hp)
 . have e:i=n:=Nat.le_antisymm hi h
   subst e
   exact .inl (fin acc σ H hD hp)
end L2
namespace L2
open PySem PySem.Spec PyProof.Rows
section
variable {X:Cx}{pins:List (Addr×Obj)}{σ:St}{H:Hp}{s:Shared}{h':Heap}
theorem Inv.vk {t':Nat}{fp:List Addr}(I:Inv X pins σ H s) (hf:∀b∈fp,fi X pins H b) (k:∀b o,b∉fp->s.heap.get? b=some o->h'.get? b=some o):Inv X pins σ H { s with heap:=h',toks:=t' }:=by
 have qp:∀b u,H b=some u->b∉fp:=λb u e z=>by rw [(hf b z).1] at e; cases e
 refine I.step (g':=s.gens) (d':=s.drawn) (ch:=fp) (λb hb=>⟨(hf b hb).2.2.2.1,(hf b hb).2.1,(hf b hb).2.2.2.2.1,(hf b hb).2.2.2.2.2⟩) (λb o _ _ hc e _=>k b o hc e) (λb o _ _ hc e _=>⟨o.slots,k b o hc e⟩) (λ_ _ _ _ n=>n)
  (λb o hc e=>⟨o,k b o hc e⟩) (λ_ _ e=>e) (λ_ _ _ e=>e) (λb ps e=>⟨#[],by rw [e]; simp⟩) (λm hm=>?_) (λb u e=>?_) I.bare
 . obtain ⟨o,es,ep,ho,r⟩:=hm
   exact ⟨o,es,ep,k _ o (λz=>(hf _ z).2.1 rfl) ho,r⟩
 . refine (I.hok b u e).eD (λc v hc q=>k c v ?_ q) (λ_ q=>q) λ_ _ q=>q
   rcases hc with z | z
   . rw [z]; exact qp b u e
   . exact qp c _ z
theorem Inv.vm {t':Nat}{fp:List Addr}{T:Addr}{xs:List V}{its:List Value}(I:Inv X pins σ H s) (hf:∀b∈fp,fi X pins H b) (k:∀b o,b∉fp->s.heap.get? b=some o->h'.get? b=some o)
 (hT:s.heap.objs.size<=T) (ht:IsTup h' T its.toArray) (rv:Vals xs its) (hz:xs.length<=sizeLine):Inv X pins σ (upd H T (.tup xs)) { s with heap:=h',toks:=t' }:=by
 have qp:∀b u,H b=some u->b∉fp:=λb u e z=>by rw [(hf b z).1] at e; cases e
 have vn:H T=none:=I.hok.fresh hT
 have neT:∀b u,H b=some u->b≠T:=λb u e z=>by rw [z,vn] at e; cases e
 have DK:∀b o,s.heap.get? b=some o->b≠T:=λb o e=>Nat.ne_of_lt (Nat.lt_of_lt_of_le (Heap.lt_size e) hT)
 refine I.step (g':=s.gens) (d':=s.drawn) (ch:=fp) (λb hb=>⟨(hf b hb).2.2.2.1,(hf b hb).2.1,(hf b hb).2.2.2.2.1,(hf b hb).2.2.2.2.2⟩) (λb o _ _ hc e _=>k b o hc e) (λb o _ _ hc e _=>⟨o.slots,k b o hc e⟩)
  (λb o _ e n=>by rw [aj (DK b o e)]; exact n) (λb o hc e=>⟨o,k b o hc e⟩) (λb ys e=>by rw [aj (neT b _ e)]; exact e) (λb o u e=>by rw [aj (neT b _ e)]; exact e)
  (λb ps e=>⟨#[],by rw [aj (neT b _ e),e]; simp⟩) (λm hm=>?_) (λb u e=>?_) I.bare
 . obtain ⟨o,es,ep,ho,r⟩:=hm
   exact ⟨o,es,ep,k _ o (λz=>(hf _ z).2.1 rfl) ho,r⟩
 . by_cases hb:b=T
   . subst hb
     rw [ae] at e
     cases e
     exact ⟨hz,its,rv,ht⟩
   . rw [aj hb] at e
     refine (I.hok b u e).eD (λc v hc q=>k c v ?_ q) (λc q=>by rw [aj (neT c _ q)]; exact q) λc ys q=>by rw [aj (neT c _ q)]; exact q
     rcases hc with z | z
     . rw [z]; exact qp b u e
     . exact qp c _ z
end
def DL (z:Str):It:=⟨λi _=>i<z.cps.size,λi H x H'=>H'=H/\∃c,z.cps[i]?=some c/\x=.str ⟨#[c]⟩,λi _=>i=z.cps.size⟩
theorem sh {P:Program}{w:World}{K:W.Frag}{tg:Expr}(it:Addr) (z:Str) (t:Tok) (ty:String) (W:∀A:Around,A.handled=none->Walks P w A it [it] [it] z.cps.size (SignAt z) (λi h=>h.IsStrIter it ty z t i))
 (hs:∀(A:Around) (i:Nat) (s:Shared) (Q:Value->Shared->Prop) (E:Value->Shared->Prop),s.heap.IsStrIter it ty z t i->Q (.ref it) s->wpAny (model P w) A (pyIter (.ref it)) Q E s)
 (hn:["enumerate", "zip", "dict_itemiterator", "dict_reverseitemiterator", "odict_iterator", "itertools.zip_longest", "itertools.pairwise"].contains ty=false) :
 Turn P w K tg (DL z) [it] it (λi h=>h.IsStrIter it ty z t i) where
 mem:=by simp
 obj:=λi h st b hb=>by
  have e:b=it:=by simpa using hb
  subst e
  obtain ⟨o,e,c,d⟩:=st
  exact ⟨o,e,λv z=>by rw [d] at z; cases z⟩
 keep:=λi h h' st k=>let ⟨o,e,r⟩:=st; ⟨o,k it (by simp) o e,r⟩
 item:=by
  intro X hP hw hK hc i pins s σ H E I hf st hg
  subst hP hw hK
  obtain ⟨f0,f1,f2,f3,f4,f5⟩:=hf it (by simp)
  refine (W X.A (I.ok.hd hc)).item i s _ _ hg st λv h' tk hv az kk=>?_
  obtain ⟨c,u,ec,rfl⟩:=hv
  have I1:Inv X pins σ H { s with heap:=h',toks:=tk }:=I.turned (λb o hb e=>kk b o (by simpa using hb) e) f0 f1 f3 f4 f5
  obtain ⟨o,e,oc,od⟩:=id az
  exact ⟨_,rfl,wy (s:={ s with heap:=h',toks:=tk }) e oc od hn ⟨.str ⟨#[c]⟩,H,I1,⟨u,rfl⟩,⟨rfl,c,ec,rfl⟩,az,λb hb=>(hf b hb).1⟩⟩
 done:=by
  intro X hP hw hK hc i pins s σ H E I hf st hg
  subst hP hw hK
  obtain ⟨f0,f1,f2,f3,f4,f5⟩:=hf it (by simp)
  have ym:i=z.cps.size:=hg
  subst ym
  exact (W X.A (I.ok.hd hc)).done s _ _ st λh' tk kk=>⟨rfl,I.turned (λb o hb e=>kk b o (by simpa using hb) e) f0 f1 f3 f4 f5⟩
 self:=λA i s Q E st h=>hs A i s Q E st h
section
variable {X:Cx}{tg:Expr}
def K7 (ts:TE):TI:=λσ H R=>ts σ H λx H1=>∃z,x=.str z/\R (DL z) H1
theorem oB {l:Expr}{tl:TE}(hl:PE X l tl):PI X tg l (K7 tl):=by
 intro pins s σ H R I h
 refine aG (hl pins s σ H _ I h) λv s1 ⟨x,H1,I1,r1,q1⟩=>?_
 obtain ⟨z,e,q⟩:=q1
 subst e
 obtain ⟨t,rfl⟩:=r1
 have fin:∀b∈[s1.heap.objs.size],fi X pins H1 b:=λb hb=>by
  have e:b=s1.heap.objs.size:=by simpa using hb
  subst e
  exact I1.pE (Nat.le_refl _) (I1.hok.fresh (Nat.le_refl _))
 cases ha:z.cps.all (· < 128) with
 | true=>
  refine wpAny_pyIter_ascii ha ?_
  exact ⟨s1.heap.objs.size,[s1.heap.objs.size],_,_,H1,rfl,I1.kept (t':=s1.toks) λb o e=>Heap.get?_push_of_some _ e,
   sh _ z t "str_ascii_iterator" (λA hA=>Walks.strAscii hA _ z t) (λ_ _ _ _ _ st h=>wpAny_pyIter_striter_ascii st h) (by decide),⟨_,Heap.get?_push_size _ rfl,rfl,rfl⟩,fin,q⟩
 | false=>
  refine wpAny_pyIter_wide ha ?_
  exact ⟨s1.heap.objs.size,[s1.heap.objs.size],_,_,H1,rfl,I1.kept (t':=s1.toks) λb o e=>Heap.get?_push_of_some _ e,
   sh _ z t "str_iterator" (λA hA=>Walks.strWide hA _ z t) (λ_ _ _ _ _ st h=>wpAny_pyIter_striter_wide st h) (by decide),⟨_,Heap.get?_push_size _ rfl,rfl,rfl⟩,fin,q⟩
end
def yn (K:W.Frag) (a:Addr):It:=
 ⟨λi H=>∃xs x,ay K H a xs/\xs[i]?=some x,λi H v H'=>∃T x,v=.ref T/\H T=none/\H'=upd H T (.tup [.int (i:Int),x])/\∀xs,ay K H a xs->xs[i]?=some x,λi H=>∃xs,ay K H a xs/\xs.length<=i⟩
theorem yo {P:Program}{w:World}{K:W.Frag}{es:List Expr}{kk:Nat}{tp:Pos}(a e it:Addr) (IW:e≠it):Turn P w K (.Tuple es kk tp) (yn K a) [e,it] e (λi h=>(∃old,IsEnum h e it (i:Int) old)/\h.IsListIter it a i) where
 mem:=by simp
 obj:=λi h st b hb=>by
  obtain ⟨⟨old,he⟩,o,e1,c,d⟩:=st
  rcases List.mem_cons.mp hb with z | z
  . subst z
    exact ⟨_,he,λv z=>by
     have z':Data.fields _=Data.cell v:=z
     cases z'⟩
  . have z':b=it:=by simpa using z
    subst z'
    exact ⟨o,e1,λv z=>by rw [d] at z; cases z⟩
 keep:=λi h h' st k=>⟨let ⟨old,he⟩:=st.1; ⟨old,k e (by simp) _ he⟩,st.2.at λo e1=>k it (by simp) o e1⟩
 item:=by
  intro X hP hw hK hc i pins s σ H E I hf st hg
  subst hP hw hK
  obtain ⟨xs,x,hq,hx⟩:=hg
  obtain ⟨its,rv,p,hz⟩:=I.list hq
  obtain ⟨u,hu,ru⟩:=rv.get hx
  obtain ⟨⟨old,he⟩,hit⟩:=st
  refine wpAny_pyNext_enum_item he hit p.isList (x:=u) (by simpa using hu) IW λh' ho wN hT hsz hk=>?_
  refine ⟨.ref s.heap.objs.size,rfl,?_⟩
  refine wpAny_letOwnedTupleGo_enum ho λh2 OA ir=>?_
  have IX:s.heap.objs.size≠e:=Nat.ne_of_gt (Heap.lt_size he)
  have DM:h2.get? s.heap.objs.size=some { cls:=.type "tuple",data:=.seq #[.int i s.toks,u] }:=(ir.2 _ IX).trans hT
  have I1:Inv X pins σ (upd H s.heap.objs.size (.tup [.int (i:Int),x])) { s with heap:=h2,toks:=s.toks+1 }:=I.vm (its:=[.int i s.toks,u]) hf (λb o hb e1=>by
   have b1:b≠e:=λz=>hb (by simp [z])
   have b2:b≠it:=λz=>hb (by simp [z])
   exact (ir.2 b b1).trans (hk b o b1 b2 e1)) (Nat.le_refl _) ⟨_,DM,rfl,_,rfl⟩ (.cons ⟨_,rfl⟩ (.cons ru .nil)) (by show 2<=sizeLine; decide)
  have fr:H s.heap.objs.size=none:=I.hok.fresh (Nat.le_refl _)
  refine ⟨.ref s.heap.objs.size,_,I1,rfl,⟨s.heap.objs.size,x,rfl,fr,rfl,λys hy=>by rw [I.nj hy hq]; exact hx⟩,⟨⟨u,?_⟩,wN.at λo e1=>(ir.2 it IW.symm).trans e1⟩,λb hb=>?_⟩
  . have e3:(((i+1:Nat):Nat):Int)=(i:Int)+1:=by omega
    rw [e3]
    exact OA
  . have oC:=(hf b hb).1
    have nb:b≠s.heap.objs.size:=by
     rcases List.mem_cons.mp hb with z | z
     . rw [z]; exact Ne.symm IX
     . have z':b=it:=by simpa using z
       rw [z']
       obtain ⟨o,e1,_⟩:=hit
       exact Nat.ne_of_lt (Heap.lt_size e1)
    rw [aj nb]
    exact oC
 done:=by
  intro X hP hw hK hc i pins s σ H E I hf st hg
  subst hP hw hK
  obtain ⟨xs,hq,hx⟩:=hg
  obtain ⟨its,rv,p,hz⟩:=I.list hq
  obtain ⟨⟨old,he⟩,hit⟩:=st
  have hl:=rv.length
  exact wpAny_pyNext_enum_end (I.ok.hd hc) he hit p.isList (by simp; omega) λh' eb=>⟨rfl,I.vk (t':=s.toks) hf λb o hb e1=>eb b o (λz=>hb (by simp [z])) e1⟩
 self:=λ_ _ _ _ _ st h=>let ⟨old,he⟩:=st.1; wpAny_pyIter_enum he h
section
variable {X:Cx}
def G1 (K:W.Frag) (ta:TA):TI:=λσ H R=>ta σ H λvs H1=>∃a,vs=[.ref a]/\(∃xs,ay K H1 a xs)/\R (yn K a) H1
theorem pK {es:List Expr}{kk:Nat}{tp:Pos}{a:Expr}{ta:TA}{p pos:Pos}(hg:Gl X "enumerate") (hm:X.mg "enumerate" = none) (ha:PA X [a] ta) (hs:starEach [a] X.env=[(false,eval a X.env)]:=by rfl) :
 PI X (.Tuple es kk tp) (.Call (.Name "enumerate" p) [a] [] pos) (G1 X.K ta):=by
 intro pins s σ H R I h
 refine Call_ (fG I hg hm boot_enumerate (PyProof.Rows.callWith_type1 (aG (ha pos pins s σ H _ I h) λus s1 ⟨vs,H1,I1,r1,q1⟩=>?_) hs rfl))
 obtain ⟨l,e,⟨xs,hq⟩,q⟩:=q1
 subst e
 cases r1 with
 | cons r rr=>
  cases rr
  cases r
  obtain ⟨its,rv,pl,hz⟩:=I1.list hq
  refine call_enumerate_list pl.isList λh' he hit hsz hk=>?_
  refine wpAny_pyIter_enum he ?_
  have I2:Inv X pins σ H1 { s1 with heap:=h' }:=I1.kept (t':=s1.toks) hk
  refine ⟨s1.heap.objs.size+1,[s1.heap.objs.size+1,s1.heap.objs.size],_,_,H1,rfl,I2,yo l _ _ (Nat.ne_of_gt (Nat.lt_succ_self _)),⟨⟨_,he⟩,hit⟩,λb hb=>?_,q⟩
  have oC:s1.heap.objs.size<=b:=by
   rcases List.mem_cons.mp hb with z | z
   . rw [z]; exact Nat.le_succ _
   . have z':b=s1.heap.objs.size:=by simpa using z
     rw [z']; exact Nat.le_refl _
  exact I1.pE oC (I1.hok.fresh oC)
end
section
variable {X:Cx}
def K8:V->Option Int->Option Int->Hp->VK->Prop:=λx lo hi H Q=>∃z j,x=.str z/\lo=none/\hi=some j/\z.length<=sizeLine/\Q (.str (Txt.slice z none (some j))) H
theorem oE:Dx X K8:=by
 intro pins s σ H x v vl vu lo hi sl Q I rx hs pl pu h
 obtain ⟨z,j,rfl,rfl,rfl,hz,q⟩:=h
 obtain ⟨t,rfl⟩:=rx
 cases pl
 cases pu with
 | int _ uj=>
  refine ⟨"str",_,F.slot_str_getitem.lookup,typeIs_str _ _ _,wpAny_getItem_str_slice (l:=none) (u:=some (j,uj)) (st:=none) hs rfl
   (post_val_or_str ⟨Nat.le_trans (Txt.slice_le z _ _) hz,λt' k=>⟨.str (Txt.slice z none (some j)),H,I.tok k,⟨t',rfl⟩,q⟩⟩)⟩
def rJoin (K:W.Frag):V->List V->Hp->VK->Prop:=λx vs H Q=>∃z a ys,x=.str z/\vs=[.ref a]/\ay K H a (ys.map V.str)/\(ys.map (·.length)).sum+ys.length*z.length<=16777216/\Q (.str (Txt.join z ys)) H
theorem oF:∀{ys:List Str}{us:List Value},Vals (ys.map V.str) us->StrsAre us ys
 | [],us,r=>by
  cases r
  exact .nil
 | y::ys,us,r=>by
  cases r with
  | cons h t=>
   obtain ⟨tk,rfl⟩:=h
   exact .cons _ _ (oF t)
theorem Ce:AV X "str.join" (rJoin X.K):=by
 intro pins s σ H x vs v us Q I rx rv h
 obtain ⟨z,a,ys,rfl,rfl,hq,hl,q⟩:=h
 obtain ⟨t,rfl⟩:=rx
 obtain ⟨u,rfl,ru⟩:=rv.one
 cases ru
 obtain ⟨its,r,pl,_⟩:=I.list hq
 exact join_list pl.isList (by simpa using oF r) hl λt' k=>⟨.str (Txt.join z ys),H,I.tok k,⟨t',rfl⟩,q⟩
def DN:V->List V->Hp->VK->Prop:=λx vs H Q=>∃z y,x=.str z/\vs=[.str y]/\z.length<=sizeLine/\(y.length == 0)=false/\
 (Builtin.Str.partsBetween z (Builtin.Str.occurrences z y 0 z.length (z.length+1)) y.length).length<=sizeLine/\∀p,H p=none->Q (.ref p) (upd H p (.lst ((Txt.split z y).map V.str)))
theorem kF:∀(tk:Nat) (xs:List Str),Vals (xs.map V.str) (strValues (numbered tk xs))
 | _,[]=>.nil
 | tk,x::r=>.cons ⟨tk,rfl⟩ (kF (tk+1) r)
theorem split_le (z y:Str) (h:(Builtin.Str.partsBetween z (Builtin.Str.occurrences z y 0 z.length (z.length+1)) y.length).length<=sizeLine):(Txt.split z y).length<=sizeLine:=by
 unfold Txt.split
 split
 . show 1<=sizeLine; decide
 . split
   . show 1<=sizeLine; decide
   . exact h
theorem zX:AV X "str.split" DN:=by
 intro pins s σ H x vs v us Q I rx rv h
 obtain ⟨z,y,rfl,rfl,hz,hy,hl,q⟩:=h
 obtain ⟨t,rfl⟩:=rx
 obtain ⟨u,rfl,tu,rfl⟩:=rv.one
 have oG:=split_le z y hl
 have fin:∀(l:List (Str×Tok)) (tk:Nat),Vals ((Txt.split z y).map V.str) (strValues l)->
  EP X pins σ Q (.ref s.heap.objs.size) { s with heap:=s.heap.push { cls:=.type "list",data:=.seq (strValues l).toArray },toks:=tk }:=λl tk r=>
  ⟨.ref s.heap.objs.size,_,I.zQ r (by rw [List.length_map]; exact oG),rfl,q _ (I.hok.fresh (Nat.le_refl _))⟩
 cases h1:(decide (z.length<y.length) || decide (Builtin.Str.strKind z<Builtin.Str.strKind y)) with
 | true=>
  refine call_meets F.slot_str_split (typeIs_str _ _ _) F.entry_str_split (F.args_str_split_2 _ _) (meets_str_split_cannot_occur z y t tu h1) ?_
  exact fin [(z,t)] s.toks (by
   have e:Txt.split z y=[z]:=if_pos h1
   rw [e]
   exact .cons ⟨t,rfl⟩ .nil)
 | false=>
  cases hf:(Builtin.Str.occurrences z y 0 z.length (z.length+1)).isEmpty with
  | true=>
   refine call_meets F.slot_str_split (typeIs_str _ _ _) F.entry_str_split (F.args_str_split_2 _ _) (meets_str_split_not_found z y t tu h1 hy hf) ?_
   exact fin [(z,t)] s.toks (by
    have e:Txt.split z y=[z]:=(if_neg (ne_true_of_eq_false h1)).trans (if_pos hf)
    rw [e]
    exact .cons ⟨t,rfl⟩ .nil)
  | false=>
   refine call_meets F.slot_str_split (typeIs_str _ _ _) F.entry_str_split (F.args_str_split_2 _ _) (meets_str_split_sep z y t tu h1 hy hf hz hl) ?_
   have e:Txt.split z y=Builtin.Str.partsBetween z (Builtin.Str.occurrences z y 0 z.length (z.length+1)) y.length:=(if_neg (ne_true_of_eq_false h1)).trans (if_neg (ne_true_of_eq_false hf))
   have:=fin (numbered s.toks (Builtin.Str.partsBetween z (Builtin.Str.occurrences z y 0 z.length (z.length+1)) y.length)) (s.toks+(Builtin.Str.partsBetween z (Builtin.Str.occurrences z y 0 z.length (z.length+1)) y.length).length) (by
    rw [e]
    exact kF _ _)
   show EP X pins σ Q _ { s with toks:=_,heap:=s.heap.push { cls:=.type "list",data:=.seq (strsFrom s.toks (Builtin.Str.partsBetween z (Builtin.Str.occurrences z y 0 z.length (z.length+1)) y.length)).toArray } }
   rw [strsFrom_eq]
   exact this
end
section
variable {X:Cx}
end
section
variable {prog:Program}{w:World}{A:Around}{E:Value->Shared->Prop}
end
section
variable {X:Cx}{pos:Pos}
end
end L2
namespace Gen
open PySem
theorem nE {α:Type}[DecidableEq α]:∀(l t:List α),l.Nodup->(∀x∈l,x∈t)->l.length<=t.length
 | [],t,_,_=>Nat.zero_le _
 | a::l,t,hn,hs=>by
  have ha:a∈t:=hs a List.mem_cons_self
  obtain ⟨h1,h2⟩:=List.nodup_cons.mp hn
  have:=nE l (t.erase a) h2 λx hx=>(List.mem_erase_of_ne (λ(e:x=a)=>h1 (by rw [← e]; exact hx))).mpr (hs x (List.mem_cons_of_mem _ hx))
  rw [List.length_erase_of_mem ha] at this
  have:0<t.length:=List.length_pos_of_mem ha
  simp only [List.length_cons]
  omega
theorem wO (k len:Nat):Builtin.Str.strSliceIndices none (some (k:Int)) 1 len=List.range (min k len):=by
 have h1:¬ ((k:Int)<0):=by omega
 have e:max (0:Int) (min (k:Int) (len:Int))=((min k len:Nat):Int):=by omega
 simp only [Builtin.Str.strSliceIndices,sliceRange,h1,if_false,show ((1:Int)>0)=True from by simp,if_true,e]
 by_cases h:(0:Int)<((min k len:Nat):Int)
 . have e3:(((min k len:Nat):Int)-0+1-1) / 1=((min k len:Nat):Int):=by simp
   rw [if_pos h,e3,Int.toNat_natCast]
   conv=>rhs; rw [← List.map_id (List.range (min k len))]
   exact List.map_congr_left λj _=>by simp
 . have:min k len=0:=by omega
   simp [this]
theorem uR {α:Type}(l:List α) (n:Nat) (h:n<=l.length):(List.range n).filterMap (l[·]?)=l.take n:=by
 have:=StrLaws.picks l n 0 (by omega)
 simpa using this
theorem nF (x:Str) (k:Nat):(Txt.slice x none (some (k:Int))).cps.toList=x.cps.toList.take k:=by
 unfold Txt.slice
 rw [wO]
 have hl:x.cps.toList.length=x.length:=by simp [Str.length]
 split
 . rename_i h
   simp only [beq_self_eq_true,Bool.true_and,List.length_range,beq_iff_eq] at h
   rw [List.take_of_length_le]
   omega
 . have e:(λ(i:Nat)=>x.cps[i]?)=(λ(i:Nat)=>x.cps.toList[i]?):=by funext i; simp
   show (List.filterMap (λ(i:Nat)=>x.cps[i]?) (List.range (min k x.length))).toArray.toList=_
   rw [List.toList_toArray,e,uR _ _ (by omega)]
   rcases Nat.le_total k x.length with h | h
   . rw [Nat.min_eq_left h]
   . rw [Nat.min_eq_right h,List.take_of_length_le (by omega),List.take_of_length_le (by omega)]
def au:List Nat:=(List.range 26).map (· + 97)
theorem mJ {c:Nat} : c∈au ↔ 97<=c/\c<=122:=by
 unfold au
 simp only [List.mem_map,List.mem_range]
 constructor
 . rintro ⟨a,h,rfl⟩; omega
 . intro h; exact ⟨c-97,by omega,by omega⟩
def isName (n:List Nat):Prop:=1<=n.length/\n.length<=8/\∀c∈n,c∈au
def nG (n:List Nat):List (List Nat):=
 [n]++au.map (λc=>n.take 7++[c])++au.map (λc=>n.take 6++[c,113])++au.map (λc=>n.take 6++[c,122])++au.map (λc=>n.take 5++[c,113,122])
theorem yp {n x:List Nat}(hn:isName n) (hx:x∈nG n):isName x:=by
 obtain ⟨h1,h2,h3⟩:=hn
 have tk:∀k,∀c∈n.take k,c∈au:=λk c hc=>h3 c (List.mem_of_mem_take hc)
 have zY:113∈au:=by decide
 have zZ:122∈au:=by decide
 unfold nG at hx
 simp only [List.mem_append,List.mem_singleton,List.mem_map] at hx
 rcases hx with (((rfl | ⟨c,hc,rfl⟩) | ⟨c,hc,rfl⟩) | ⟨c,hc,rfl⟩) | ⟨c,hc,rfl⟩
 . exact ⟨h1,h2,h3⟩
 all_goals
  refine ⟨by simp,by simp only [List.length_append,List.length_take,List.length_cons,List.length_nil]; omega,λd hd=>?_⟩
  simp only [List.mem_append,List.mem_cons,List.not_mem_nil,or_false] at hd
  rcases hd with hd | hd
  . exact tk _ d hd
  . rcases hd with rfl | hd <;> first | exact hc | (rcases hd with rfl | hd <;> first | exact zY | exact zZ | (rcases hd with rfl <;> first | exact zY | exact zZ)) | (subst hd; first | exact zY | exact zZ)
def sub (n:List Nat):List (List Nat):=
 (au.filter λc=>decide (c≠113/\c≠122)).map (λc=>n.take 7++[c])++au.map (λc=>n.take 6++[c,113])++au.map (λc=>n.take 6++[c,122])
  ++ (au.filter λc=>decide (some c≠n[5]?)).map (λc=>n.take 5++[c,113,122])
theorem Aa {n x:List Nat}(h:x∈sub n):x∈nG n:=by
 unfold sub at h
 unfold nG
 simp only [List.mem_append,List.mem_singleton,List.mem_map,List.mem_filter] at h ⊢
 rcases h with ((⟨c,⟨hc,_⟩,rfl⟩ | ⟨c,hc,rfl⟩) | ⟨c,hc,rfl⟩) | ⟨c,⟨hc,_⟩,rfl⟩
 . exact .inl (.inl (.inl (.inr ⟨c,hc,rfl⟩)))
 . exact .inl (.inl (.inr ⟨c,hc,rfl⟩))
 . exact .inl (.inr ⟨c,hc,rfl⟩)
 . exact .inr ⟨c,hc,rfl⟩
theorem fh:au.Nodup:=by decide
theorem eN {l:List Nat}(hl:l.Nodup) (p q:List Nat):(l.map λc=>p++c::q).Nodup:=by
 induction l with
 | nil=>exact List.nodup_nil
 | cons a l ih=>
  obtain ⟨h1,h2⟩:=List.nodup_cons.mp hl
  rw [List.map_cons,List.nodup_cons]
  refine ⟨λh=>?_,ih h2⟩
  obtain ⟨b,hb,e⟩:=List.mem_map.mp h
  have:=List.append_cancel_left e
  injection this with e1 _
  exact h1 (e1 ▸ hb)
theorem Cf {p:List Nat}{a:Nat} : (p++[a]).getLast?=some a:=by simp
theorem yq (n:List Nat):(sub n).Nodup:=by
 unfold sub
 have wQ:∀x∈au.map (λc=>n.take 6++[c,113]),x.getLast?=some 113:=λx hx=>by
  obtain ⟨c,_,rfl⟩:=List.mem_map.mp hx
  simp
 have AZ:∀x∈au.map (λc=>n.take 6++[c,122]),x.getLast?=some 122:=λx hx=>by
  obtain ⟨c,_,rfl⟩:=List.mem_map.mp hx
  simp
 have A0:∀x∈(au.filter λc=>decide (some c≠n[5]?)).map (λc=>n.take 5++[c,113,122]),x.getLast?=some 122:=λx hx=>by
  obtain ⟨c,_,rfl⟩:=List.mem_map.mp hx
  simp
 have wR:∀x∈(au.filter λc=>decide (c≠113/\c≠122)).map (λc=>n.take 7++[c]),x.getLast?≠some 113/\x.getLast?≠some 122:=λx hx=>by
  obtain ⟨c,hc,rfl⟩:=List.mem_map.mp hx
  obtain ⟨_,hc⟩:=List.mem_filter.mp hc
  have cj:=of_decide_eq_true hc
  rw [Cf]
  exact ⟨λe=>cj.1 (Option.some.inj e),λe=>cj.2 (Option.some.inj e)⟩
 refine List.nodup_append.mpr ⟨List.nodup_append.mpr ⟨List.nodup_append.mpr ⟨eN (fh.filter _) _ _,eN fh _ _,?_⟩,eN fh _ _,?_⟩,eN (fh.filter _) _ _,?_⟩
 . intro a ha b hb e
   exact (wR a ha).1 (e ▸ wQ b hb)
 . intro a ha b hb e
   rcases List.mem_append.mp ha with ha | ha
   . exact (wR a ha).2 (e ▸ AZ b hb)
   . have:=wQ a ha
     rw [e,AZ b hb] at this
     cases this
 . intro a ha b hb e
   rcases List.mem_append.mp ha with ha | ha
   . rcases List.mem_append.mp ha with ha | ha
     . exact (wR a ha).2 (e ▸ A0 b hb)
     . have:=wQ a ha
       rw [e,A0 b hb] at this
       cases this
   . obtain ⟨c,_,rfl⟩:=List.mem_map.mp ha
     obtain ⟨d,hd,rfl⟩:=List.mem_map.mp hb
     obtain ⟨_,hd⟩:=List.mem_filter.mp hd
     have hd':some d≠n[5]?:=of_decide_eq_true hd
     rcases Nat.lt_or_ge 5 n.length with hl | hl
     . -- both have eight letters
       have e5:(n.take 6++[c,122])[5]?=(n.take 5++[d,113,122])[5]?:=by rw [e]
       have t6:(n.take 6).length=6:=by rw [List.length_take]; omega
       have t5:(n.take 5).length=5:=by rw [List.length_take]; omega
       rw [List.getElem?_append_left (by omega),List.getElem?_append_right (by omega),t5,List.getElem?_take] at e5
       simp at e5
       exact hd' e5.symm
     . have el:=congrArg List.length e
       simp only [List.length_append,List.length_take,List.length_cons,List.length_nil] at el
       omega
theorem wU (n:List Nat):100<=(sub n).length:=by
 unfold sub
 simp only [List.length_append,List.length_map]
 have h1:au.length=26:=by decide
 have h2:(au.filter λc=>decide (c≠113/\c≠122)).length=24:=by decide
 have h3:25<=(au.filter λc=>decide (some c≠n[5]?)).length:=by
  cases n[5]? with
  | none=>
   have:(au.filter λc=>decide (some c≠none))=au:=List.filter_eq_self.mpr λc _=>by simp
   rw [this,h1]
   decide
  | some d=>
   have e:(au.filter λc=>decide (some c≠some d))=au.filter λc=>c != d:=by
    apply List.filter_congr
    intro c _
    by_cases h:c=d
    . subst h; simp
    . simp [h]
   rw [e]
   by_cases hd:d∈au
   . obtain ⟨a,b⟩:=mJ.mp hd
     have:∀k,k<26->25<=(au.filter λc=>c != k+97).length:=by decide
     have:=this (d-97) (by omega)
     rw [show d-97+97=d by omega] at this
     exact this
   . have:(au.filter λc=>c != d)=au:=List.filter_eq_self.mpr λc hc=>by
      have:c≠d:=λe=>hd (e ▸ hc)
      simpa using this
     rw [this,h1]
     decide
 rw [h1,h2]
 omega
theorem yr (n:List Nat) (told:List (List Nat)) (h:told.length<100):∃x∈nG n,x∉told:=by
 apply Classical.byContradiction
 intro hx
 have all:∀x∈sub n,x∈told:=λx hs=>Classical.byContradiction λht=>hx ⟨x,Aa hs,ht⟩
 have:=nE (sub n) told (yq n) all
 have:=wU n
 omega
end Gen
namespace Gen
open PySem
theorem yt:("" : Str).cps.toList=[]:=by decide +kernel
theorem G2:("q" : Str).cps.toList=[113]:=by decide +kernel
theorem G3:("z" : Str).cps.toList=[122]:=by decide +kernel
theorem DO:("qz" : Str).cps.toList=[113,122]:=by decide +kernel
theorem vo:("abcdefghijklmnopqrstuvwxyz" : Str).cps.toList=au:=by decide +kernel
theorem pL (a b:Str):(a++b).cps.toList=a.cps.toList++b.cps.toList:=by rw [Str.cps_append,Array.toList_append]
theorem sj:∀ys:List Str,(Str.join "" ys).cps.toList=(ys.map (·.cps.toList)).flatten
 | []=>rfl
 | [x]=>by simp [Str.join]
 | x::y::r=>by
  have ih:=sj (y::r)
  show (x ++ "" ++ Str.join "" (y::r)).cps.toList=_
  rw [pL,pL,ih,yt]
  simp
theorem yu (ys:List Str):(Txt.join "" ys).cps.toList=(ys.map (·.cps.toList)).flatten:=by
 unfold Txt.join
 rw [StrLaws.glued_eq_join]
 exact sj ys
def c7 (n:Str):List Str:=au.map λc=>Txt.slice n none (some 7)++⟨#[c]⟩
def A1 (n:Str):List Str:=au.map λc=>Txt.slice n none (some 6)++⟨#[c]⟩ ++ "q"
def A2 (n:Str):List Str:=au.map λc=>Txt.slice n none (some 6)++⟨#[c]⟩ ++ "z"
def c5 (n:Str):List Str:=au.map λc=>Txt.slice n none (some 5)++⟨#[c]⟩ ++ "qz"
def cq (n:Str):List Str:=[n]++c7 n++A1 n++A2 n++c5 n
theorem qq (n:Str):(cq n).map (·.cps.toList)=nG n.cps.toList:=by
 have s7:=nF n 7
 have s6:=nF n 6
 have s5:=nF n 5
 have e7:((7:Nat):Int)=7:=rfl
 have e6:((6:Nat):Int)=6:=rfl
 have e5:((5:Nat):Int)=5:=rfl
 rw [e7] at s7
 rw [e6] at s6
 rw [e5] at s5
 unfold cq nG c7 A1 A2 c5
 simp only [List.map_append,List.map_map,List.map_cons,List.map_nil,Function.comp_def,pL,s7,s6,s5,G2,G3,DO,List.append_assoc,List.cons_append,List.nil_append]
def eg (z:Str):Prop:=isName z.cps.toList
theorem wV {n z:Str}(hn:eg n) (hz:z∈cq n):eg z:=by
 refine yp hn ?_
 rw [← qq]
 exact List.mem_map.mpr ⟨z,hz,rfl⟩
theorem wW (n:Str) (told:List Str) (h:told.length<100):∃x∈cq n,x∉told:=by
 obtain ⟨x,hx,ht⟩:=yr n.cps.toList (told.map (·.cps.toList)) (by simpa using h)
 rw [← qq] at hx
 obtain ⟨z,hz,rfl⟩:=List.mem_map.mp hx
 exact ⟨z,hz,λhm=>ht (List.mem_map.mpr ⟨z,hm,rfl⟩)⟩
def cR:List Str:=["switch", "keep", "gate", "next", "never", "some", "wall", "row", "step", "piece", "lasso"]
theorem uS:Txt.split "switch keep gate next never some wall row step piece lasso" " " = cR:=by decide +kernel
theorem uT:∀x∈cR,eg x:=by
 have h:cR.all (λx=>decide (1<=x.cps.toList.length) && decide (x.cps.toList.length<=8) && x.cps.toList.all λc=>decide (c∈au))=true:=by decide +kernel
 intro x hx
 have:=List.all_eq_true.mp h x hx
 simp only [Bool.and_eq_true,decide_eq_true_eq,List.all_eq_true] at this
 exact ⟨this.1.1,this.1.2,this.2⟩
theorem eg.len {z:Str}(h:eg z):z.length<=8:=by
 have:=h.2.1
 simpa [Str.length] using this
theorem uU {ys:List Str}(h1:1<=ys.length) (h2:ys.length<=8) (h:∀y∈ys,∃c∈au,y=⟨#[c]⟩):eg (Txt.join "" ys):=by
 have e:∀zs:List Str,(∀y∈zs,∃c∈au,y=⟨#[c]⟩)->(zs.map (·.cps.toList)).flatten.length=zs.length/\∀c∈(zs.map (·.cps.toList)).flatten,c∈au:=by
  intro zs
  induction zs with
  | nil=>intro _; exact ⟨rfl,λc hc=>by simp at hc⟩
  | cons z zs ih=>
   intro hz
   obtain ⟨c,hc,rfl⟩:=hz z List.mem_cons_self
   obtain ⟨i1,i2⟩:=ih λy hy=>hz y (List.mem_cons_of_mem _ hy)
   refine ⟨?_,λd hd=>?_⟩
   . rw [List.map_cons,List.flatten_cons,List.length_append,i1]
     simp
     omega
   . rw [List.map_cons,List.flatten_cons,List.mem_append] at hd
     rcases hd with hd | hd
     . have:d=c:=by simpa using hd
       rw [this]; exact hc
     . exact i2 d hd
 obtain ⟨e1,e2⟩:=e ys h
 unfold eg isName
 rw [yu,e1]
 exact ⟨h1,h2,e2⟩
end Gen
namespace Gen
open PySem L2
def top (i:Nat):Stmt:=PySem.Challenge.pw_everguard_k40_one_tree_for_each_set.main.body.getD i (.Pass ⟨0,0,0,0⟩)
abbrev l8:Stmt:=top 9
abbrev nI:Stmt:=top 10
abbrev ma:Stmt:=top 11
abbrev jY:Stmt:=top 12
abbrev g7:Stmt:=top 13
structure Own (mg:Str->Option Value):Prop where
 len:mg "len" = none
 range:mg "range" = none
 enum:mg "enumerate" = none
 list:mg "list" = none
def jZ (xs:List V):Prop:=(∃a:Int,xs=[.int a])\/∃a b:Int,xs=[.int a,.int b]
def bW (H H':Hp) (l:Addr):Prop:=∀b o,H b=some o->b≠l->H' b=some o
theorem bW.trans {H H1 H2:Hp}{l:Addr}(a:bW H H1 l) (b:bW H1 H2 l):bW H H2 l:=λc o h n=>b c o (a c o h n) n
theorem bW.refl (H:Hp) (l:Addr):bW H H l:=λ_ _ h _=>h
theorem ai.keep {H H':Hp}(s:ai H H') (l:Addr):bW H H' l:=λb o h _=>s b o h
theorem bW.ar {H:Hp}{l p:Addr}{o:HO}(hp:H p=none):bW H (upd H p o) l:=λb u h _=>by rw [aj (ah h hp)]; exact h
theorem ai.ar {H:Hp}{p:Addr}{o:HO}(hp:H p=none):ai H (upd H p o):=λb u h=>by rw [aj (ah h hp)]; exact h
theorem bW.yw {H:Hp}{l:Addr}{o:HO} : bW H (upd H l o) l:=λb u h n=>by rw [aj n]; exact h
theorem bW.seq {K:W.Frag}{H H':Hp}{a l:Addr}{xs:List V}{n:List V}(e:bW H H' l) (hl:H l=some (.lst n)) (h:ay K H a xs) (gg:a≠l):ay K H' a xs:=by
 rcases h with (h | ⟨o,h⟩) | h
 . exact .inl (.inl (e a _ h gg))
 . exact .inl (.inr ⟨o,e a _ h gg⟩)
 . exact .inr h
def oH (K:W.Frag):Sp:=λvs H Q _=>∃(a:Addr) (ns:List Int) (k:Int),vs=[.ref a,.int k]/\ay K H a (ns.map V.int)/\0<=k/\∀v:Int,Q (.int v) H
def A3:Sp:=λvs H Q _=>∃(c k:Int),vs=[.int c,.int k]/\0<=k/\k<=1000000/\∀v:Int,0<=v->v<1999999973->Q (.int v) H
def oI:Sp:=λvs H Q _=>∃(c k:Int),vs=[.int c,.int k]/\0<=k/\k<=1000/\∀v:Int,Q (.int v) H
def oJ:Sp:=λvs H Q _=>∃(l:Addr) (xs:List V) (m:Int),vs=[.ref l,.int m]/\H l=some (.lst xs)/\jZ xs/\0<m/\m<1073741824/\
 ∀(d:Int) (ys:List V) (H':Hp),0<=d->d<m->jZ ys->H' l=some (.lst ys)->bW H H' l->Q (.int d) H'
section
variable {P:Program}{w:World}{K:W.Frag}{mg:Str->Option Value}{base:Heap}
theorem DP:aT ["_law_script", "_law_k"] ["_law_script", "_law_k"] (ak l8):=⟨rfl,rfl,rfl,by decide +kernel,rfl,by decide +kernel,by decide +kernel⟩
theorem Cg {f:Addr}{fd:FuncData}(F:cy K "_law_cell_at" "_law_cell_at" l8 f fd) (T:Own mg):av P w K mg base aF 1 f fd ["_law_script", "_law_k"] (oH K):=by
 refine F.ok DP (λvs H Q E h=>?_) (λcdv A outer s H vs Q E hr h=>?_)
 . obtain ⟨a,ns,k,rfl,_⟩:=h
   rfl
 . obtain ⟨a,ns,k,rfl,hS,h0,kk⟩:=h
   refine ⟨_,af (bQ (bz wB (pv 1) (aU bo (by rfl) T.len PySem.boot_len (aa (pv 0) ab)) (bL _)) (ao (aK (aQ b0 (pv 0) (pv 1) (λ_ _=>rfl)))) aV)
    (ao (aK ag)),?_⟩
   refine ⟨_,rfl,_,rfl,a,_,rfl,.inl hS,_,_,rfl,rfl,_,rfl,?_⟩
   refine lz (λhc=>?_) (λ_=>kk 0)
   have cj:k<((ns.map V.int).length:Int):=of_decide_eq_true hc
   rw [List.length_map] at cj
   have hk:k.toNat<ns.length:=by omega
   have e:((k.toNat:Nat):Int)=k:=by omega
   have qr:ku (ns.map V.int) ((k.toNat:Nat):Int)=some (.int ns[k.toNat]):=aA (by rw [List.getElem?_map,List.getElem?_eq_getElem hk]; rfl)
   rw [e] at qr
   exact ⟨_,rfl,_,rfl,a,_,_,.int ns[k.toNat],rfl,rfl,hS,qr,kk _⟩
theorem A4:aT ["_law_cell", "_law_k", "_law_m"] ["_law_cell", "_law_k"] (ak nI):=⟨rfl,rfl,rfl,by decide +kernel,rfl,by decide +kernel,by decide +kernel⟩
theorem DQ {f:Addr}{fd:FuncData}(F:cy K "_law_mix" "_law_mix" nI f fd):av P w K mg base aF 1 f fd ["_law_cell", "_law_k"] A3:=by
 refine F.ok A4 (λvs H Q E h=>?_) (λcdv A outer s H vs Q E hr h=>?_)
 . obtain ⟨c,k,rfl,_⟩:=h
   rfl
 . obtain ⟨c,k,rfl,h0,h1,kk⟩:=h
   refine ⟨_,af (ax (i:=2) A4.nd rfl (Or.inl rfl) (aO gM (aO jy (aO gL (aO gL (aO gM (pv 0) ag) (aO jy (aO jy (pv 1) (pv 1)) ag)) ag) ag) ag))
    (ao (aK (aO gM (aO jy (pv 2) (pv 2)) ag))),?_⟩
   refine ⟨_,rfl,_,_,rfl,rfl,(by show (0:Int)<2147483629; decide),_,rfl,_,rfl,_,_,rfl,rfl,.inl ⟨by omega,by omega⟩,_,_,rfl,rfl,.inr ⟨by decide,by decide⟩,_,_,rfl,rfl,_,_,rfl,rfl,
    _,_,rfl,rfl,.inr ⟨by decide,by decide⟩,_,_,rfl,rfl,(by show (0:Int)<2147483647; decide),?_⟩
   generalize hm:((c % 2147483629+k*k*7919+11)*48271 % 2147483647:Int)=m
   have m0:0<=m:=by rw [← hm]; exact Int.emod_nonneg _ (by decide)
   have m1:m<2147483647:=by rw [← hm]; exact Int.emod_lt_of_pos _ (by decide)
   refine ⟨_,rfl,_,rfl,_,_,rfl,rfl,.inl ⟨by omega,by omega⟩,_,_,rfl,rfl,(by show (0:Int)<1999999973; decide),?_⟩
   exact kk _ (Int.emod_nonneg _ (by decide)) (Int.emod_lt_of_pos _ (by decide))
theorem oK:aT ["_law_cell", "_law_k", "_law_number_here", "_law_j"] ["_law_cell", "_law_k"] (ak ma):=⟨rfl,rfl,rfl,by decide +kernel,rfl,by decide +kernel,by decide +kernel⟩
theorem Ci {f fM:Addr}{fd DR:FuncData}(F:cy K "_law_rich" "_law_rich" ma f fd) (T:Own mg) (FM:cy K "_law_mix" "_law_mix" nI fM DR) (bM:Binds K DR ["_law_cell", "_law_k"] []) (mM:mg "_law_mix" = some (.ref fM)) :
 av P w K mg base aF 2 f fd ["_law_cell", "_law_k"] oI:=by
 have GM:av P w K mg base aF 1 fM DR ["_law_cell", "_law_k"] A3:=DQ FM
 refine F.ok oK (λvs H Q E h=>?_) (λcdv A outer s H vs Q E hr h=>?_)
 . obtain ⟨c,k,rfl,_⟩:=h
   rfl
 . obtain ⟨c,k,rfl,h0,h1,kk⟩:=h
   refine ⟨_,af (ax (i:=2) oK.nd rfl (Or.inl rfl) ag)
    (af (fJ PassesOwn.never rfl (cV rfl T.range (aa ag ab)) (aW (i:=3) oK.nd rfl (Or.inl rfl))
     (ao (ax (i:=2) oK.nd rfl (Or.inl rfl) (aO gL (aO jy (pv 2) ag) (aI GM hr rfl mM FM.kp bM .nil aB (aa (pv 0) (aa (aO gL (aO jy ag (pv 1)) (pv 3)) ab)))))))
    (ao (aK (pv 2)))),?_⟩
   refine ⟨12,rfl,by decide,by decide,fm (n:=12) (λi σ H2=>H2=H/\∃(n:Int) (v:Option V),σ=[some (.int c),some (.int k),some (.int n),v]) ⟨rfl,0,none,rfl⟩ ?_ ?_⟩
   . rintro i σ H2 hi ⟨rfl,n,v,rfl⟩
     refine ⟨_,rfl,_,_,rfl,rfl,.inr ⟨by decide,by decide⟩,_,rfl,_,rfl,_,_,rfl,rfl,.inl ⟨by decide,by decide⟩,_,rfl,_,_,rfl,rfl,?_⟩
     refine ⟨_,_,rfl,by omega,by omega,λv IY A5=>⟨_,_,rfl,rfl,rfl,_,_,rfl⟩⟩
   . rintro σ H2 ⟨rfl,n,v,rfl⟩
     exact ⟨_,rfl,kk n⟩
theorem yx:aT ["_law_left", "_law_many", "_law_digit"] ["_law_left", "_law_many"] (ak jY):=⟨rfl,rfl,rfl,by decide +kernel,rfl,by decide +kernel,by decide +kernel⟩
theorem vp {f:Addr}{fd:FuncData}(F:cy K "_law_pick" "_law_pick" jY f fd) (T:Own mg):av P w K mg base aF 1 f fd ["_law_left", "_law_many"] oJ:=by
 refine F.ok yx (λvs H Q E h=>?_) (λcdv A outer s H vs Q E hr h=>?_)
 . obtain ⟨l,xs,m,rfl,_⟩:=h
   rfl
 . obtain ⟨l,xs,m,rfl,hl,hp,m0,m1,kk⟩:=h
   refine ⟨_,af (ax (i:=2) yx.nd rfl (Or.inl rfl) (aO gM (aQ b0 (pv 0) ag (λ_ _=>rfl)) (pv 1)))
    (af (xG (aO lU (aQ b0 (pv 0) ag (λ_ _=>rfl)) (pv 1)) (xF (pv 0) ag set_list))
    (ao (aK (pv 2)))),?_⟩
   rcases hp with ⟨a,rfl⟩ | ⟨a,b,rfl⟩
   . refine ⟨_,rfl,l,_,_,.int a,rfl,rfl,ay.of hl,rfl,_,rfl,_,_,rfl,rfl,m0,?_⟩
     refine ⟨_,rfl,l,_,_,.int a,rfl,rfl,ay.of hl,rfl,_,rfl,_,_,rfl,rfl,⟨m0,m1⟩,_,rfl,l,_,_,0,rfl,rfl,hl,rfl,?_⟩
     exact ⟨_,rfl,kk _ _ _ (Int.emod_nonneg _ (by omega)) (Int.emod_lt_of_pos _ m0) (.inl ⟨_,rfl⟩) ae bW.yw⟩
   . refine ⟨_,rfl,l,_,_,.int a,rfl,rfl,ay.of hl,rfl,_,rfl,_,_,rfl,rfl,m0,?_⟩
     refine ⟨_,rfl,l,_,_,.int a,rfl,rfl,ay.of hl,rfl,_,rfl,_,_,rfl,rfl,⟨m0,m1⟩,_,rfl,l,_,_,0,rfl,rfl,hl,rfl,?_⟩
     exact ⟨_,rfl,kk _ _ _ (Int.emod_nonneg _ (by omega)) (Int.emod_lt_of_pos _ m0) (.inr ⟨_,_,rfl⟩) ae bW.yw⟩
end
end Gen
namespace Gen
open PySem L2
theorem small {n:Nat}(h:n<=1000):n<sizeLine:=qo h
theorem oM {n:Nat}(h:n<=1000):n<=sizeLine:=Nat.le_of_lt (qo h)
def pM (K:W.Frag):Sp:=λvs H Q _=>∃(l t:Addr) (xs:List V) (told:List Str),vs=[.ref l,.ref t]/\H l=some (.lst xs)/\jZ xs/\t≠l/\ay K H t (told.map V.str)/\told.length<100/\
 ∀(z:Str) (ys:List V) (H':Hp),eg z->z∉told->jZ ys->H' l=some (.lst ys)->bW H H' l->Q (.str z) H'
theorem md (z:Str) (told:List Str):AS (.str z) (told.map V.str)=decide (z∈told):=by
 unfold AS
 rw [Bool.eq_iff_iff,List.any_eq_true,decide_eq_true_eq]
 constructor
 . rintro ⟨v,hv,e⟩
   obtain ⟨y,hy,rfl⟩:=List.mem_map.mp hv
   have:y=z:=by simpa [ky] using e
   rw [← this]; exact hy
 . intro h
   exact ⟨.str z,List.mem_map.mpr ⟨z,h,rfl⟩,by simp [ky]⟩
theorem qt (told:List Str):(told.map V.str).all iD=true:=by
 rw [List.all_eq_true]
 intro v hv
 obtain ⟨y,_,rfl⟩:=List.mem_map.mp hv
 rfl
theorem yy {i:Nat}{c:Nat}(h:("abcdefghijklmnopqrstuvwxyz" : Str).cps[i]?=some c):au[i]?=some c:=by
 rw [← vo]
 simpa using h
theorem yz {α β:Type}{l:List α}{i:Nat}{c:α}(f:α->β) (h:l[i]?=some c):(l.take (i+1)).map f=(l.take i).map f++[f c]:=by
 rw [List.take_add_one,h]
 simp
theorem eJ {i:Nat}{x:V}{σ:St}{H:Hp}{A B:St->Hp->Prop}(h:A (σ.set i (some x)) H):eZ i x σ H (λgi H2=>lB gi H2 (λb H3=>if b=true then A gi H3 else B gi H3)):=by
 show (if true=true then A (σ.set i (some x)) H else B (σ.set i (some x)) H)
 rw [if_pos rfl]
 exact h
theorem G4:(["_law_k", "_law_left", "_law_letters"]:List Str).Nodup:=by decide +kernel
theorem wX:(["_law_one", "_law_name"]:List Str).Nodup:=by decide +kernel
theorem K9:(["_law_one", "_law_told"]:List Str).Nodup:=by decide +kernel
section
variable {P:Program}{w:World}{K:W.Frag}{mg:Str->Option Value}{base:Heap}
abbrev yA:List Str:=["_law_left", "_law_told", "_law_letters", "_law_words", "_law_size", "_law_name", "_law_some"]
theorem ft:aT yA ["_law_left", "_law_told"] (ak g7):=⟨rfl,rfl,rfl,by decide +kernel,rfl,by decide +kernel,by decide +kernel⟩
theorem iE {D:Addr}{te:TE}{Q:Hp->Prop}{H1:Hp}{nm:Str}(f:Nat->Str) (hD:H1 D=none)
 (he:∀(c:Nat) (H:Hp) (R:VK),c∈au->R (.str (f c)) H->te [some (.str ⟨#[c]⟩),some (.str nm)] H R)
 (fin:Q (upd H1 D (.lst ((au.map f).map V.str)))) :
 ∃W:Nat->Nat->St->Hp->Prop,(∃m,W 0 m [none,some (.str nm)] (upd H1 D (.lst [])))/\sg D (eZ 0) lB te (DL "abcdefghijklmnopqrstuvwxyz") W Q:=by
 have hsz:("abcdefghijklmnopqrstuvwxyz" : Str).cps.size=26:=by decide +kernel
 have yB:au.length=26:=by decide
 refine gx 26 (λi acc σ H=>acc=((au.take i).map f).map V.str/\(∃v,σ=[v,some (.str nm)])/\H=upd H1 D (.lst acc)) ⟨rfl,⟨none,rfl⟩,rfl⟩ ae ?_ ?_
 . rintro acc σ H _ ⟨rfl,_,rfl⟩
   refine ⟨hsz.symm,?_⟩
   rw [List.take_of_length_le (by rw [yB]; decide)]
   exact fin
 . rintro i acc σ H hi cO ⟨rfl,⟨v,rfl⟩,rfl⟩
   refine ⟨by show i<_; rw [hsz]; exact hi,?_⟩
   rintro x H' ⟨rfl,c,hc,rfl⟩
   have cj:=yy hc
   refine eJ ?_
   refine he c _ _ (List.mem_of_getElem? cj) ?_
   refine ⟨_,ae,?_,cM hi ae ⟨?_,⟨_,rfl⟩,?_⟩⟩
   . rw [List.length_map,List.length_map,List.length_take]
     exact small (by omega)
   . rw [yz f cj,List.map_append]
     rfl
   . rw [uY]
theorem sq:∀zs:List Str,(∀y∈zs,∃c∈au,y=⟨#[c]⟩)->(zs.map (·.length)).sum=zs.length
 | [],_=>rfl
 | z::zs,h=>by
  obtain ⟨c,_,rfl⟩:=h z List.mem_cons_self
  have ih:=sq zs λy hy=>h y (List.mem_cons_of_mem _ hy)
  rw [List.map_cons,List.sum_cons,ih,List.length_cons]
  show 1+zs.length=zs.length+1
  omega
theorem nJ (n:Str) (h:eg n) (k:Int):(Txt.slice n none (some k)).length<=8:=Nat.le_trans (Txt.slice_le n _ _) h.len
theorem iM (c:Nat):(⟨#[c]⟩:Str).length=1:=rfl
theorem sr (a b:Str):(a++b).length=a.length+b.length:=Str.length_append a b
theorem fV {n:Nat}(h:n<=100):n<=sizeLine:=Nat.le_trans h (by decide)
abbrev Cj (P:Program) (w:World) (K:W.Frag) (mg:Str->Option Value) (base:Heap) (f:Addr) (cdv:Value) (A:Around) (outer:List Env) (s:Shared) (H:Hp) (E:XK):Cx:=
 (jT aF P w K mg base yA "_law_spelt" (ak g7) f cdv A outer s H E).rG
abbrev qu:Str:="abcdefghijklmnopqrstuvwxyz"
theorem wY {f:Addr}{cdv:Value}{A:Around}{outer:List Env}{s:Shared}{H:Hp}{E:XK}{Q:VK}{l t:Addr}{told:List Str}(hS:ay K H t (told.map V.str)) (gg:t≠l) (eG:told.length<100) (vj:∃xs,H l=some (.lst xs))
 (kk:∀(z:Str) (ys:List V) (H':Hp),eg z->z∉told->jZ ys->H' l=some (.lst ys)->bW H H' l->Q (.str z) H') :
 ∃tR:TS,iq (Cj P w K mg base f cdv A outer s H E) (List.drop 5 (aN g7)) tR/\∀(nm:Str) (ys:List V) (H4:Hp) (w1:Addr) (sz:Int),eg nm->jZ ys->H4 l=some (.lst ys)->bW H H4 l->
  tR { nx:=λ_ H'=>Q .aS H',rt:=Q } [some (.ref l),some (.ref t),some (.str qu),some (.ref w1),some (.int sz),some (.str nm),none] H4:=by
 refine ⟨_,af (ax (i:=6) ft.nd rfl (Or.inl rfl) (aO gZ (aO gZ (fL (aa (pv 5) ab))
  (ee (N:=["_law_one", "_law_name"]) (js:=[none,some 5]) (by kernel_rfl) rfl (oB (pv 2)) (λ_ _ _ _ _ _=>aW (i:=0) wX rfl (Or.inl rfl) (.inr rfl)) (λ_ _ _ _ _ _=>cG)
   (λ_ _ _ _ _ _=>aO dr (du oE (pv 1) fo (dW ag)) (pv 0))))
  (ee (N:=["_law_one", "_law_name"]) (js:=[none,some 5]) (by kernel_rfl) rfl (oB (pv 2)) (λ_ _ _ _ _ _=>aW (i:=0) wX rfl (Or.inl rfl) (.inr rfl)) (λ_ _ _ _ _ _=>cG)
   (λ_ _ _ _ _ _=>aO dr (aO dr (du oE (pv 1) fo (dW ag)) (pv 0)) fF))))
  (af (ax (i:=6) ft.nd rfl (Or.inl rfl) (aO gZ (aO gZ (pv 6)
   (ee (N:=["_law_one", "_law_name"]) (js:=[none,some 5]) (by kernel_rfl) rfl (oB (pv 2)) (λ_ _ _ _ _ _=>aW (i:=0) wX rfl (Or.inl rfl) (.inr rfl)) (λ_ _ _ _ _ _=>cG)
    (λ_ _ _ _ _ _=>aO dr (aO dr (du oE (pv 1) fo (dW ag)) (pv 0)) fF)))
   (ee (N:=["_law_one", "_law_name"]) (js:=[none,some 5]) (by kernel_rfl) rfl (oB (pv 2)) (λ_ _ _ _ _ _=>aW (i:=0) wX rfl (Or.inl rfl) (.inr rfl)) (λ_ _ _ _ _ _=>cG)
    (λ_ _ _ _ _ _=>aO dr (aO dr (du oE (pv 1) fo (dW ag)) (pv 0)) fF))))
  (ao (aK (aQ b0
   (ee (N:=["_law_one", "_law_told"]) (js:=[none,some 1]) (by kernel_rfl) rfl (jx (pv 6)) (λ_ _ _ _ _ _=>aW (i:=0) K9 rfl (Or.inl rfl) (.inr rfl))
    (λ_ _ _ _ _ _=>se (bz (r:=AU K true) lu (pv 0) (pv 1) (by with_unfolding_all rfl))) (λ_ _ _ _ _ _=>pv 0)) ag (λ_ _=>rfl))))),?_⟩
 intro nm ys H4 w1 sz hn hp su vq
 have mL:∀g:Nat->Str,((au.map g).map V.str).length=26:=λg=>by rw [List.length_map,List.length_map]; decide
 have h8:∀k:Int,nm.length<=sizeLine:=λ_=>fV (Nat.le_trans hn.len (by decide))
 refine ⟨_,rfl,(by show 1<=sizeLine; decide),λp1 yC=>?_⟩
 refine ⟨_,rfl,qu,rfl,λD1 yD=>iE (nm:=nm) (λc=>Txt.slice nm none (some 7)++⟨#[c]⟩) yD (λc H R hc hR=>?_) ?_⟩
 . refine ⟨_,rfl,_,rfl,nm,7,rfl,rfl,rfl,h8 0,_,rfl,_,_,rfl,rfl,?_,hR⟩
   have:=nJ nm hn 7
   rw [iM]
   exact fV (by omega)
 have n1:p1≠D1:=ah (ae (H:=H4)) yD
 refine ⟨p1,D1,_,_,rfl,rfl,(by rw [aj n1,ae]),ae,?_,λp2 gU=>?_⟩
 . rw [mL]
   exact fV (by show 1+26<=100; decide)
 refine ⟨_,rfl,qu,rfl,λD2 sv=>iE (nm:=nm) (λc=>Txt.slice nm none (some 6)++⟨#[c]⟩ ++ "q") sv (λc H R hc hR=>?_) ?_⟩
 . refine ⟨_,rfl,_,rfl,nm,6,rfl,rfl,rfl,h8 0,_,rfl,_,_,rfl,rfl,?_,_,_,rfl,rfl,?_,hR⟩
   . have:=nJ nm hn 6
     rw [iM]
     exact fV (by omega)
   . have:=nJ nm hn 6
     have e1:("q" : Str).length=1:=by decide +kernel
     rw [sr,iM,e1]
     exact fV (by omega)
 have n2:p2≠D2:=ah (ae (H:=_)) sv
 refine ⟨p2,D2,_,_,rfl,rfl,(by rw [aj n2,ae]),ae,?_,λp3 oN=>?_⟩
 . rw [List.length_append,mL,mL]
   exact fV (by show 1+26+26<=100; decide)
 refine ⟨_,rfl,_,rfl,qu,rfl,λD3 sA=>iE (nm:=nm) (λc=>Txt.slice nm none (some 6)++⟨#[c]⟩ ++ "z") sA (λc H R hc hR=>?_) ?_⟩
 . refine ⟨_,rfl,_,rfl,nm,6,rfl,rfl,rfl,h8 0,_,rfl,_,_,rfl,rfl,?_,_,_,rfl,rfl,?_,hR⟩
   . have:=nJ nm hn 6
     rw [iM]
     exact fV (by omega)
   . have:=nJ nm hn 6
     have e1:("z" : Str).length=1:=by decide +kernel
     rw [sr,iM,e1]
     exact fV (by omega)
 have n3:p3≠D3:=ah (ae (H:=_)) sA
 refine ⟨p3,D3,_,_,rfl,rfl,(by rw [aj n3,ae]),ae,?_,λp4 sC=>?_⟩
 . rw [List.length_append,List.length_append,mL,mL,mL]
   exact fV (by show 1+26+26+26<=100; decide)
 refine ⟨_,rfl,qu,rfl,λD4 DS=>iE (nm:=nm) (λc=>Txt.slice nm none (some 5)++⟨#[c]⟩ ++ "qz") DS (λc H R hc hR=>?_) ?_⟩
 . refine ⟨_,rfl,_,rfl,nm,5,rfl,rfl,rfl,h8 0,_,rfl,_,_,rfl,rfl,?_,_,_,rfl,rfl,?_,hR⟩
   . have:=nJ nm hn 5
     rw [iM]
     exact fV (by omega)
   . have:=nJ nm hn 5
     have e1:("qz" : Str).length=2:=by decide +kernel
     rw [sr,iM,e1]
     exact fV (by omega)
 have n4:p4≠D4:=ah (ae (H:=_)) DS
 refine ⟨p4,D4,_,_,rfl,rfl,(by rw [aj n4,ae]),ae,?_,λp5 sD=>?_⟩
 . rw [List.length_append,List.length_append,List.length_append,mL,mL,mL,mL]
   exact oM (by show 1+26+26+26+26<=1000; decide)
 have La:[V.str nm]++((au.map λc=>Txt.slice nm none (some 7)++⟨#[c]⟩).map V.str)++((au.map λc=>Txt.slice nm none (some 6)++⟨#[c]⟩ ++ "q").map V.str)++((au.map λc=>Txt.slice nm none (some 6)++⟨#[c]⟩ ++ "z").map V.str)
  ++ ((au.map λc=>Txt.slice nm none (some 5)++⟨#[c]⟩ ++ "qz").map V.str)=(cq nm).map V.str:=by
  unfold cq c7 A1 A2 c5
  simp only [List.map_append,List.map_cons,List.map_nil]
 rw [La]
 have sm:∀o5,ai H4 (upd (upd (upd (upd (upd (upd (upd (upd (upd H4 p1 _) D1 _) p2 _) D2 _) p3 _) D3 _) p4 _) D4 _) p5 o5):=λo5=>
  (((((((((ai.ar yC).trans (ai.ar yD)).trans (ai.ar gU)).trans (ai.ar sv)).trans (ai.ar oN)).trans (ai.ar sA)).trans (ai.ar sC)).trans (ai.ar DS)).trans (ai.ar sD))
 have DT:=sm (.lst ((cq nm).map V.str))
 generalize hG:upd _ p5 (HO.lst ((cq nm).map V.str))=G at *
 have DU:G p5=some (.lst ((cq nm).map V.str)):=by rw [← hG,ae]
 refine ⟨_,rfl,p5,rfl,⟨_,ay.of DU⟩,λD hD=>?_⟩
 obtain ⟨R4,vj⟩:=vj
 have np:p5≠D:=ah DU hD
 have h5:∀o,(upd G D o) p5=some (.lst ((cq nm).map V.str)):=λo=>by rw [aj np]; exact DU
 have OB:∀o,ay K (upd G D o) t (told.map V.str):=λo=>ai.seq (ai.ar hD) (ai.seq DT (vq.seq vj hS gg))
 refine gx (cq nm).length (λi acc σ H=>acc=(((cq nm).take i).filter λz=>!decide (z∈told)).map V.str/\(∃v,σ=[v,some (.ref t)])/\H=upd G D (.lst acc)) ⟨rfl,⟨none,rfl⟩,rfl⟩ ae ?_ ?_
 . rintro acc σ H5 _ ⟨rfl,_,rfl⟩
   refine ⟨⟨_,ay.of (h5 _),by simp⟩,?_⟩
   rw [List.take_length]
   obtain ⟨z,hz,DV⟩:=wW nm told eG
   have yE:z∈(cq nm).filter λz=>!decide (z∈told):=List.mem_filter.mpr ⟨hz,by simp [DV]⟩
   cases vt:(cq nm).filter λz=>!decide (z∈told) with
   | nil=>rw [vt] at yE; cases yE
   | cons z0 r=>
    have h0:z0∈(cq nm).filter λz=>!decide (z∈told):=by rw [vt]; exact List.mem_cons_self
    obtain ⟨m1,m2⟩:=List.mem_filter.mp h0
    have m3:z0∉told:=by simpa using m2
    have sl:G l=some (.lst ys):=DT l _ su
    have nl:l≠D:=ah sl hD
    exact ⟨D,_,0,.str z0,rfl,rfl,ay.of ae,(aA (j:=0) (by rfl):ku _ ((0:Nat):Int)=_),kk z0 ys _ (wV hn m1) m3 hp (by rw [aj nl]; exact sl) ((vq.trans (ai.keep DT l)).trans (bW.ar hD))⟩
 . rintro i acc σ H5 hi cO ⟨rfl,⟨v,rfl⟩,rfl⟩
   have mQ:(cq nm)[i]?=some (cq nm)[i]:=List.getElem?_eq_getElem hi
   have hx:((cq nm).map V.str)[i]?=some (.str (cq nm)[i]):=by rw [List.getElem?_map,mQ]; rfl
   refine ⟨⟨_,_,ay.of (h5 _),hx⟩,?_⟩
   rintro x H' ⟨rfl,gm⟩
   have ex:=gm _ (ay.of (h5 _))
   rw [hx] at ex
   cases ex
   refine ⟨_,rfl,_,rfl,t,_,rfl,.inl (OB _),rfl,qt told,_,rfl,?_⟩
   have Ab:∀j,((((cq nm).take j).filter λz=>!decide (z∈told)).map V.str).length<sizeLine:=λj=>by
    rw [List.length_map]
    refine Nat.lt_of_le_of_lt (List.length_filter_le _ _) ?_
    rw [List.length_take]
    have:(cq nm).length=105:=by
     unfold cq c7 A1 A2 c5
     simp only [List.length_append,List.length_map,List.length_singleton]
     decide
    exact small (by omega)
   refine lz (λh=>?_) (λh=>?_)
   . have sE:(cq nm)[i]∉told:=by simpa [md] using h
     refine ⟨_,rfl,_,ae,Ab i,cM hi ae ⟨?_,⟨_,rfl⟩,by rw [uY]⟩⟩
     rw [take_succ_filter _ _ _ _ mQ,if_pos (by simp [sE]),List.map_append]
     rfl
   . have sE:(cq nm)[i]∈told:=by simpa [md] using h
     refine cM hi ae ⟨?_,⟨_,rfl⟩,rfl⟩
     rw [take_succ_filter _ _ _ _ mQ,if_neg (by simp [sE]),List.append_nil]
theorem Ac {f fP:Addr}{fd DW:FuncData}(F:cy K "_law_spelt" "_law_spelt" g7 f fd) (T:Own mg) (FP:cy K "_law_pick" "_law_pick" jY fP DW) (bP:Binds K DW ["_law_left", "_law_many"] []) (mP:mg "_law_pick" = some (.ref fP)) :
 av P w K mg base aF 2 f fd ["_law_left", "_law_told"] (pM K):=by
 have GP:av P w K mg base aF 1 fP DW ["_law_left", "_law_many"] oJ:=vp FP T
 refine F.ok ft (λvs H Q E h=>?_) (λcdv A outer s H vs Q E hr h=>?_)
 . obtain ⟨l,t,xs,told,rfl,_⟩:=h
   rfl
 . obtain ⟨l,t,xs,told,rfl,hl,hp,gg,hS,eG,kk⟩:=h
   obtain ⟨tR,hR,rR⟩:=wY (P:=P) (w:=w) (mg:=mg) (base:=base) (f:=f) (cdv:=cdv) (A:=A) (outer:=outer) (s:=s) (E:=E) hS gg eG ⟨xs,hl⟩ kk
   refine ⟨_,af (ax (i:=2) ft.nd rfl (Or.inr rfl) fF)
    (af (ax (i:=3) ft.nd rfl (Or.inl rfl) (qW PySem.F.plainAttrs_str PySem.F.slot_str_split PySem.F.type_str_split zX fF (aa fF ab)))
    (af (ax (i:=4) ft.nd rfl (Or.inl rfl) (aO gL ag (aI GP hr rfl mP FP.kp bP .nil aB (aa (pv 0) (aa ag ab)))))
    (af (ax (i:=5) ft.nd rfl (Or.inr rfl) (aQ b0 (pv 3) (aI GP hr rfl mP FP.kp bP .nil aB (aa (pv 0) (aa ag ab))) (λ_ _=>rfl)))
    (af (bQ (bz wB (pv 4) ag (bL _))
     (ao (ax (i:=5) ft.nd rfl (Or.inr rfl) (qW PySem.F.plainAttrs_str PySem.F.slot_str_join PySem.F.type_str_join Ce fF (aa
      (ee (N:=["_law_k", "_law_left", "_law_letters"]) (js:=[none,some 0,some 2]) (by kernel_rfl) rfl (cV rfl T.range (aa (pv 4) ab)) (λ_ _ _ _ _ _=>aW (i:=0) G4 rfl (Or.inl rfl) (.inr rfl)) (λ_ _ _ _ _ _=>cG)
       (λ_ _ _ _ _ _=>aQ Dy (pv 2) (aI GP hr rfl mP FP.kp bP .nil aB (aa (pv 1) (aa ag ab))) (λ_ _=>rfl))) ab)))) aV) hR)))),?_⟩
   refine ⟨rfl,_,_,rfl,rfl,(by decide +kernel),(by decide +kernel),(by decide +kernel),λw1 IZ=>?_⟩
   rw [uS]
   have nw:l≠w1:=ah hl IZ
   refine ⟨_,rfl,l,xs,9,rfl,(by rw [aj nw]; exact hl),hp,by decide,by decide,λd ys H2 d0 d1 gU eU I0=>⟨_,_,rfl,rfl,?_⟩⟩
   have A6:H2 w1=some (.lst (cR.map V.str)):=I0 w1 _ ae (Ne.symm nw)
   refine ⟨_,rfl,_,rfl,l,ys,11,rfl,eU,gU,by decide,by decide,λd2 Ja H3 e0 e1 oN vv Jb=>?_⟩
   have A7:H3 w1=some (.lst (cR.map V.str)):=Jb w1 _ A6 (Ne.symm nw)
   have DX:bW H H3 l:=((bW.ar IZ).trans I0).trans Jb
   have hlen:cR.length=11:=by decide +kernel
   have hd2:d2.toNat<cR.length:=by rw [hlen]; omega
   have OC:((d2.toNat:Nat):Int)=d2:=by omega
   have qr:ku (cR.map V.str) ((d2.toNat:Nat):Int)=some (.str cR[d2.toNat]):=aA (by rw [List.getElem?_map,List.getElem?_eq_getElem hd2]; rfl)
   rw [OC] at qr
   have OD:eg cR[d2.toNat]:=uT _ (List.getElem_mem hd2)
   refine ⟨w1,_,_,.str cR[d2.toNat],rfl,rfl,ay.of A7,qr,?_⟩
   refine ⟨_,rfl,_,_,rfl,rfl,_,rfl,?_⟩
   refine lz (λhc=>?_) (λ_=>?_)
   . have cj:(1:Int)+d<9:=of_decide_eq_true hc
     refine ⟨rfl,_,rfl,_,rfl,by omega,by omega,λD hD=>?_⟩
     have nD:l≠D:=ah vv hD
     refine gx (1+d).toNat (λi acc σ H'=>∃(zs:List Str) (v:Option V) (oO:List V),acc=zs.map V.str/\zs.length=i/\(∀y∈zs,∃c∈au,y=⟨#[c]⟩)/\σ=[v,some (.ref l),some (.str qu)]/\jZ oO/\H' l=some (.lst oO)/\bW H3 H' l)
      ⟨[],none,Ja,rfl,rfl,λy hy=>(by cases hy),rfl,oN,(by rw [aj nD]; exact vv),bW.ar hD⟩ ae ?_ ?_
     . rintro acc σ H4 cO ⟨zs,v,oO,rfl,A8,hz,rfl,sC,su,vq⟩
       refine ⟨Nat.le_refl _,?_⟩
       refine ⟨"",D,zs,rfl,rfl,ay.of cO,?_,?_⟩
       . rw [sq zs hz]
         have e0:("" : Str).length=0:=by decide +kernel
         rw [e0]
         omega
       . exact rR _ oO H4 w1 _ (uU (by omega) (by omega) hz) sC su (DX.trans vq)
     . rintro i acc σ H4 hi cO ⟨zs,v,oO,rfl,A8,hz,rfl,sC,su,vq⟩
       refine ⟨hi,?_⟩
       rintro x H' ⟨rfl,rfl⟩
       refine eJ ?_
       refine ⟨_,rfl,_,rfl,l,oO,26,rfl,su,sC,by decide,by decide,λd' OE H5 c0 c1 sD OF Jc=>?_⟩
       have yB:au.length=26:=by decide
       have hd':d'.toNat<au.length:=by omega
       have OG:((d'.toNat:Nat):Int)=d':=by omega
       have DY:ku qu.cps.toList ((d'.toNat:Nat):Int)=some au[d'.toNat]:=aA (by rw [vo]; exact List.getElem?_eq_getElem hd')
       rw [OG] at DY
       have DZ:H5 D=some (.lst (zs.map V.str)):=Jc D _ cO (Ne.symm nD)
       refine ⟨qu,d',au[d'.toNat],rfl,rfl,(by decide +kernel),DY,_,DZ,?_,cM hi ae ⟨zs++[⟨#[au[d'.toNat]]⟩],_,OE,?_,?_,λy hy=>?_,rfl,sD,?_,?_⟩⟩
       . rw [List.length_map]
         exact small (by omega)
       . rw [List.map_append]
         rfl
       . rw [List.length_append,List.length_singleton,A8]
       . rcases List.mem_append.mp hy with hy | hy
         . exact hz y hy
         . have:y=⟨#[au[d'.toNat]]⟩:=by simpa using hy
           exact ⟨_,List.getElem_mem hd',this⟩
       . rw [aj nD]
         exact OF
       . intro b o hb mU
         have nb:b≠D:=λz=>by rw [z,hD] at hb; cases hb
         rw [aj nb]
         exact Jc b o (vq b o hb mU) mU
   . exact rR _ Ja H3 w1 _ OD oN vv DX
end
end Gen
namespace L2
open PySem PySem.Spec PyProof.Rows
def rev:Nat->Nat->Nat
 | 0,_=>0
 | k+1,i=>(i % 2)*2 ^ k+rev k (i / 2)
def cB (k i j:Nat):Bool:=Nat.blt (rev k i) (rev k j)
def place (c:Nat->Nat->Bool) (p:Array Nat) (lo k:Nat):Nat->Nat->Nat->Nat
 | 0,l,_=>l
 | f+1,l,r=>if l≥r then l else if c (p.getD (lo+k) 0) (p.getD (lo+(l+r) / 2) 0)=true then place c p lo k f l ((l+r) / 2) else place c p lo k f ((l+r) / 2+1) r
def bp (c:Nat->Nat->Bool) (lo:Nat):Nat->Nat->Array Nat->Array Nat
 | 0,_,p=>p
 | f+1,k,p=>bp c lo f (k+1) (bubble p (lo+k) (lo+k-(lo+place c p lo k k 0 k)))
theorem qv {α β:Type}(f:α->β) (u v:Nat->Nat):∀(l:List Nat) (xs:Array α),l.foldl (λa k=>a.swapIfInBounds (u k) (v k)) (xs.map f)=(l.foldl (λa k=>a.swapIfInBounds (u k) (v k)) xs).map f
 | [],_=>rfl
 | k::l,xs=>by
  rw [List.foldl_cons,List.foldl_cons,W.kas_swap_map]
  exact qv f u v l _
section
variable {prog:Program}{w:World}{A:Around}{E:Value->Shared->Prop}{s:Shared}{κ:SortKind}{it:Nat->Keyed}{N:Nat}{c:Nat->Nat->Bool}{p:Array Nat}{pd:Array (Nat×Nat×Nat)}
def dg (prog:Program) (w:World) (A:Around) (s:Shared) (κ:SortKind) (it:Nat->Keyed) (N:Nat) (c:Nat->Nat->Bool):Prop:=
 ∀i j,i<N->j<N->∀(E:Value->Shared->Prop) (Q:Bool->Shared->Prop),Q (c i j) s->wpAny (model prog w) A (keyLt' κ (it i).1 (it j).1) Q E s
def aL (κ:SortKind) (it:Nat->Keyed) (p:Array Nat) (pd:Array (Nat×Nat×Nat)):SortSt:=SortSt.mk' κ (p.map it) pd 7 none
def eV (N:Nat) (p:Array Nat):Prop:=∀i,i<p.size->p.getD i 0<N
theorem pN (C:dg prog w A s κ it N c){st:SortSt}{i j:Nat}{Q:Option Bool->SortSt->Prop}(hk:kindOf st=κ) (hi:i<N) (hj:j<N) (h:Q (some (c i j)) st):wpS (model prog w) A E s (lt' (it i) (it j)) Q st:=by
 rw [lt'_eq]
 refine wpS_bind (wpS_get ?_)
 rw [hk]
 refine wpS_bind (wpS_lift (wpAny_attempt (C i j hi hj _ _ ⟨rfl,?_⟩)))
 exact wpS_pure h
theorem cS {st:SortSt}{i:Nat}{Q:Keyed->SortSt->Prop}(hi:i<p.size) (h:Q (it (p.getD i 0)) st):wpS (model prog w) A E s (elem' (p.map it) i) Q st:=by
 rw [elem'_eq]
 have e:(p.map it)[i]?=some (it (p.getD i 0)):=by simp [Array.getD,hi]
 rw [e]
 exact wpS_pure h
theorem sF (C:dg prog w A s κ it N c){i j:Nat}{Q:Option Bool->SortSt->Prop}(B:eV N p) (hi:i<p.size) (hj:j<p.size) (h:Q (some (c (p.getD i 0) (p.getD j 0))) (aL κ it p pd)):wpS (model prog w) A E s (ltAt' i j) Q (aL κ it p pd):=by
 rw [ltAt'_eq]
 refine wpS_bind (wpS_get (wpS_bind (cS hi (wpS_bind (cS hj ?_)))))
 exact pN C rfl (B i hi) (B j hj) h
theorem D0 {k l:Nat}{Q:Unit->SortSt->Prop}(h:Q () (aL κ it (bubble p k (k-l)) pd)):wpS (model prog w) A E s (moveDown' k l) Q (aL κ it p pd):=by
 rw [moveDown'_eq]
 refine wpS_modify ?_
 have e:bubble (p.map it) k (k-l)=(bubble p k (k-l)).map it:=qv it (λi=>k-i) (λi=>k-i-1) _ p
 show Q () (SortSt.mk' κ (bubble (p.map it) k (k-l)) pd 7 none)
 rw [e]
 exact h
theorem eV.perm {q:Array Nat}(B:eV N p) (h:q.Perm p):eV N q:=λi hi=>by
 have hs:q.size=p.size:=h.size_eq
 have hm:q.getD i 0∈p:=h.mem_iff.mp (by
  have:q.getD i 0=q[i]:=by simp [Array.getD,hi]
  rw [this]
  exact Array.getElem_mem hi)
 obtain ⟨j,hj,e⟩:=Array.mem_iff_getElem.mp hm
 rw [← e]
 have:p.getD j 0=p[j]:=by simp [Array.getD,hj]
 rw [← this]
 exact B j hj
theorem qX (C:dg prog w A s κ it N c){lo n ok:Nat}{Q:Bool->SortSt->Prop}(B:eV N p) (hz:lo+n<=p.size) (hok:1<=ok) (hn:ok<=n) (h:Q true (aL κ it (bp c lo (n-ok) ok p) pd)):wpS (model prog w) A E s (binarySort' lo n ok) Q (aL κ it p pd):=by
 rw [binarySort'_eq]
 have hm:max ok 1=ok:=by omega
 rw [hm]
 refine wpS_bind (wpS_mono (wpS_forRange (I:=λk d az=>d=(none,())/\∃q:Array Nat,az=aL κ it q pd/\q.Perm p/\bp c lo (n-k) k q=bp c lo (n-ok) ok p)
  (Q:=λd az=>d=(none,())/\az=aL κ it (bp c lo (n-ok) ok p) pd) ?step ?fin ⟨rfl,p,rfl,Array.Perm.refl _,rfl⟩) ?post)
 case post=>
  rintro d az ⟨rfl,rfl⟩
  exact wpS_pure h
 case fin=>
  rintro d az ⟨rfl,q,rfl,_,e⟩
  refine ⟨rfl,?_⟩
  rw [show n-max ok n=0 by omega] at e
  rw [← e]
  rfl
 case step=>
  rintro k d az hk D6 ⟨rfl,q,rfl,hq,e⟩
  have hs:q.size=p.size:=hq.size_eq
  have Bq:=B.perm hq
  refine wpS_bind (wpS_mono (wpS_forRange (I:=λx d aJ=>aJ=aL κ it q pd/\∃l r,d=(none,l,r)/\l<=r/\r<=k/\place c q lo k (k-x) l r=place c q lo k k 0 k)
   (Q:=λd aJ=>aJ=aL κ it q pd/\∃l r,d=(none,l,r)/\l=place c q lo k k 0 k) ?istep ?ifin ⟨rfl,0,k,rfl,by omega,by omega,rfl⟩) ?ipost)
  case ifin=>
   rintro d aJ ⟨rfl,l,r,rfl,h1,h2,e2⟩
   refine ⟨rfl,l,r,rfl,?_⟩
   rw [show k-max 0 k=0 by omega] at e2
   exact e2
  case istep=>
   rintro x d aJ _ hx ⟨rfl,l,r,rfl,h1,h2,e2⟩
   obtain ⟨f,hf⟩:∃f,k-x=f+1:=⟨k-x-1,by omega⟩
   have Jd:k-(x+1)=f:=by omega
   rw [hf,place] at e2
   dsimp only
   by_cases A9:l≥r
   . rw [if_pos A9] at e2 ⊢
     exact wpS_pure ⟨rfl,l,r,rfl,e2⟩
   . rw [if_neg A9] at e2 ⊢
     refine wpS_bind (sF C Bq (by omega) (by omega) ?_)
     dsimp only
     cases hc:c (q.getD (lo+k) 0) (q.getD (lo+(l+r) / 2) 0) with
     | true=>
      rw [hc,if_pos rfl] at e2
      rw [if_pos rfl]
      exact wpS_pure ⟨rfl,l,(l+r) / 2,rfl,by omega,by omega,by rw [Jd]; exact e2⟩
     | false=>
      rw [hc,if_neg (by decide)] at e2
      rw [if_neg (by decide)]
      exact wpS_pure ⟨rfl,(l+r) / 2+1,r,rfl,by omega,by omega,by rw [Jd]; exact e2⟩
  case ipost=>
   rintro d aJ ⟨rfl,l,r,rfl,e2⟩
   refine wpS_bind (D0 (wpS_pure ⟨rfl,_,rfl,(bubble_perm _ _ _).trans hq,?_⟩))
   obtain ⟨f,hf⟩:∃f,n-k=f+1:=⟨n-k-1,by omega⟩
   rw [hf,bp,← e2] at e
   rw [show n-(k+1)=f by omega]
   exact e
theorem j0 (C:dg prog w A s κ it N c){lo n:Nat}{Q:Option Nat->SortSt->Prop}(B:eV N p) (hz:lo+n<=p.size) (hn:3<=n) (h1:c (p.getD (lo+1) 0) (p.getD lo 0)=false) (h2:c (p.getD (lo+2) 0) (p.getD (lo+1) 0)=true) (h3:c (p.getD lo 0) (p.getD (lo+1) 0)=true)
 (h:Q (some 2) (aL κ it p pd)):wpS (model prog w) A E s (countRun' lo n) Q (aL κ it p pd):=by
 rw [countRun'_eq]
 refine wpS_bind (wpS_mono (wpS_forRange (I:=λx d az=>az=aL κ it p pd/\((x=1/\d=(none,1))\/(x=2/\d=(none,2))))
  (Q:=λd az=>az=aL κ it p pd/\d=(none,2)) ?step ?fin ⟨rfl,.inl ⟨rfl,rfl⟩⟩) ?post)
 case fin=>
  rintro d az ⟨rfl,⟨e,rfl⟩ | ⟨e,rfl⟩⟩
  . omega
  . exact ⟨rfl,rfl⟩
 case step=>
  rintro x d az hx OH ⟨rfl,⟨rfl,rfl⟩ | ⟨rfl,rfl⟩⟩
  . refine wpS_bind (sF C B (by omega) (by omega) ?_)
    rw [show lo+1-1=lo by omega,h1]
    exact wpS_pure ⟨rfl,.inr ⟨rfl,rfl⟩⟩
  . refine wpS_bind (sF C B (by omega) (by omega) ?_)
    rw [show lo+2-1=lo+1 by omega,h2]
    exact wpS_pure ⟨rfl,rfl⟩
 case post=>
  rintro d az ⟨rfl,rfl⟩
  dsimp only
  rw [if_neg (by simp; omega),if_pos (by omega)]
  refine wpS_bind (sF C B (by omega) (by omega) ?_)
  rw [show lo+2-1=lo+1 by omega,h3]
  exact wpS_pure h
end
end L2
namespace L2
open PySem PySem.Spec PyProof.Rows
section
variable {prog:Program}{w:World}{A:Around}{E:Value->Shared->Prop}{s:Shared}{κ:SortKind}{it:Nat->Keyed}{N:Nat}{c:Nat->Nat->Bool}{p:Array Nat}{pd:Array (Nat×Nat×Nat)}
def vw:Bool->Keyed->Array Keyed->Nat->Nat->Nat->StateT SortSt Sem (Option Nat):=sortPriv% PySem.Builtin.gallop
def Ad:Array Keyed->Array Keyed->StateT SortSt Sem (Array Keyed):=sortPriv% PySem.Builtin.mergeLo
theorem vx (C:dg prog w A s κ it N c){kb n base:Nat}{Q:Option Nat->SortSt->Prop}{st:SortSt}(hk:kindOf st=κ) (B:eV N p) (hb:kb<N) (hn:2<=n) (hz:base+n<=p.size) (h1:c kb (p.getD base 0)=false) (h2:c kb (p.getD (base+1) 0)=true) (h:Q (some 1) st) :
 wpS (model prog w) A E s (vw false (it kb) (p.map it) base n 0) Q st:=by
 refine wpS_bind (wpS_bind (cS (show base+0<p.size by omega) ?_))
 rw [if_neg (by decide)]
 refine wpS_bind (pN C hk hb (B _ (by omega)) ?_)
 rw [Nat.add_zero,h1]
 refine wpS_pure ?_
 show wpS _ _ _ _ (do
  let r ← _
  _) _ _
 refine wpS_bind (wpS_mono (wpS_forRange (I:=λx d az=>az=st/\x=0/\d=(none,0,1)) (Q:=λd az=>az=st/\d=(none,0,1)) ?step ?fin ⟨rfl,rfl,rfl⟩) ?post)
 case fin=>
  rintro d az ⟨_,e,_⟩
  omega
 case step=>
  rintro x d az _ hx ⟨rfl,rfl,rfl⟩
  dsimp only
  rw [if_neg (by omega)]
  refine wpS_bind (wpS_bind (cS (show base+(0+1)<p.size by omega) ?_))
  rw [if_neg (by decide)]
  refine wpS_bind (pN C hk hb (B _ (by omega)) ?_)
  rw [Nat.zero_add,h2]
  exact wpS_pure (wpS_pure ⟨rfl,rfl⟩)
 case post=>
  rintro d az ⟨rfl,rfl⟩
  dsimp only
  refine wpS_bind (wpS_mono (wpS_forRange (I:=λx d aJ=>aJ=az/\d=(none,1,1)) (Q:=λd aJ=>aJ=az/\d=(none,1,1)) ?step2 (λ_ _ z=>z) ⟨rfl,?ini⟩) ?post2)
  case ini=>
   rw [Nat.min_eq_left (by omega)]
  case step2=>
   rintro x d aJ _ hx ⟨rfl,rfl⟩
   dsimp only
   rw [if_pos (Nat.le_refl _)]
   exact wpS_pure ⟨rfl,rfl⟩
  case post2=>
   rintro d aJ ⟨rfl,rfl⟩
   exact wpS_pure h
theorem vy (C:dg prog w A s κ it N c){ka n base:Nat}{Q:Option Nat->SortSt->Prop}{st:SortSt}(hk:kindOf st=κ) (B:eV N p) (hb:ka<N) (hn:2<=n) (hz:base+n<=p.size) (h1:c (p.getD (base+(n-1)) 0) ka=false) (h2:c (p.getD (base+(n-2)) 0) ka=true) (h:Q (some (n-1)) st) :
 wpS (model prog w) A E s (vw true (it ka) (p.map it) base n (n-1)) Q st:=by
 refine wpS_bind (wpS_bind (cS (show base+(n-1)<p.size by omega) ?_))
 rw [if_pos rfl]
 refine pN C hk (B _ (by omega)) hb ?_
 rw [h1]
 show wpS _ _ _ _ (do
  let r ← _
  _) _ _
 refine wpS_bind (wpS_mono (wpS_forRange (I:=λx d az=>az=st/\x=0/\d=(none,0,1)) (Q:=λd az=>az=st/\d=(none,0,1)) ?step ?fin ⟨rfl,rfl,rfl⟩) ?post)
 case fin=>
  rintro d az ⟨_,e,_⟩
  omega
 case step=>
  rintro x d az _ hx ⟨rfl,rfl,rfl⟩
  dsimp only
  rw [if_neg (by omega)]
  refine wpS_bind (wpS_bind (cS (show base+(n-1-1)<p.size by omega) ?_))
  rw [if_pos rfl]
  refine pN C hk (B _ (by omega)) hb ?_
  rw [show n-1-1=n-2 by omega,h2]
  exact wpS_pure ⟨rfl,rfl⟩
 case post=>
  rintro d az ⟨rfl,rfl⟩
  dsimp only
  refine wpS_bind (wpS_mono (wpS_forRange (I:=λx d aJ=>aJ=az/\d=(none,n-1,n-1)) (Q:=λd aJ=>aJ=az/\d=(none,n-1,n-1)) ?step2 (λ_ _ z=>z) ⟨rfl,?ini⟩) ?post2)
  case ini=>
   rw [Nat.min_eq_left (by omega),show n-1+1-1=n-1 by omega,Nat.sub_zero]
  case step2=>
   rintro x d aJ _ hx ⟨rfl,rfl⟩
   dsimp only
   rw [if_pos (Nat.le_refl _)]
   exact wpS_pure ⟨rfl,rfl⟩
  case post2=>
   rintro d aJ ⟨rfl,rfl⟩
   exact wpS_pure h
end
end L2
namespace L2
open PySem PySem.Spec PyProof.Rows
def kG (X Y:Array Nat) (t:Nat):Nat:=if t % 2=0 then Y.getD (t / 2) 0 else X.getD (t / 2) 0
def bX (X Y:Array Nat) (t:Nat):Array Nat:=((List.range t).map (kG X Y)).toArray
theorem g9 (X Y:Array Nat) (t:Nat):bX X Y (t+1)=(bX X Y t).push (kG X Y t):=by
 unfold bX
 rw [List.range_succ,List.map_append]
 simp
section
variable {prog:Program}{w:World}{A:Around}{E:Value->Shared->Prop}{s:Shared}{κ:SortKind}{it:Nat->Keyed}{N:Nat}{c:Nat->Nat->Bool}{X Y:Array Nat}{n:Nat}
theorem sG {Y:Array Nat}(hy:Y.size=n) (hn:1<=n):(Y.map it).extract (n-1) (Y.map it).size = #[it (Y.getD (n-1) 0)]:=by
 apply Array.ext
 . simp
   omega
 . intro i h1 h2
   simp at h2
   subst h2
   have eG:n-1<Y.size:=by omega
   simp [Array.getD,eG]
theorem yF (C:dg prog w A s κ it N c){Q:Array Keyed->SortSt->Prop}{st:SortSt}(hk:kindOf st=κ) (hg:gallopOf st=7) (BX:eV N X) (BY:eV N Y) (hx:X.size=n) (hy:Y.size=n) (hn:3<=n)
 (hA:∀i,i+1<n->c (Y.getD (i+1) 0) (X.getD i 0)=false) (hB:∀i,i<n->c (Y.getD i 0) (X.getD i 0)=true) (h:Q ((bX X Y (2*n)).map it) st) :
 wpS (model prog w) A E s (Ad (X.map it) (Y.map it)) Q st:=by
 refine wpS_bind (wpS_lift (wpAny_rule ⟨rfl,?_⟩))
 refine wpS_bind (cS (show 0<Y.size by omega) ?_)
 have sx:(X.map it).size=n:=by rw [Array.size_map,hx]
 have sy:(Y.map it).size=n:=by rw [Array.size_map,hy]
 dsimp only
 rw [if_neg (by rw [sy]; simp; omega),if_neg (by rw [sx]; simp; omega)]
 refine wpS_bind (wpS_get ?_)
 have ym:(sortPriv% PySem.Builtin.SortState.minGallop) st=7:=hg
 rw [ym]
 have OI:(bX X Y (2*n)).map it=(bX X Y (2*n-2)).map it++(Y.map it).extract (n-1) (Y.map it).size++(X.map it).extract (n-1) (X.map it).size:=by
  rw [sG hy (by omega),sG hx (by omega)]
  have e1:2*n=2*n-2+1+1:=by omega
  have z1:kG X Y (2*n-2)=Y.getD (n-1) 0:=by
   unfold kG
   rw [if_pos (by omega),show (2*n-2) / 2=n-1 by omega]
  have z2:kG X Y (2*n-2+1)=X.getD (n-1) 0:=by
   unfold kG
   rw [if_neg (by omega),show (2*n-2+1) / 2=n-1 by omega]
  conv=>lhs; rw [e1,g9,g9,z1,z2]
  simp
 refine wpS_bind (wpS_mono (wpS_forRange (I:=λx d az=>az=st/\x=0/\d=(none,#[it (Y.getD 0 0)],0,1,7)) (Q:=λd az=>az=st/\d.1=some ((bX X Y (2*n)).map it)) ?step ?fin ⟨rfl,rfl,rfl⟩) ?post)
 case fin=>
  rintro d az ⟨_,e,_⟩
  rw [sx,sy] at e
  omega
 case post=>
  rintro ⟨d1,d2⟩ az ⟨rfl,e⟩
  cases (show d1=_ from e)
  exact wpS_pure h
 case step=>
  rintro x d az _ R5 ⟨rfl,rfl,rfl⟩
  dsimp only
  refine wpS_bind (wpS_mono (wpS_forRange (I:=λt d aJ=>aJ=az/\t<=2*n-4/\∃ac bc,d=(none,(bX X Y (t+1)).map it,(t+1) / 2,t / 2+1,ac,bc)/\ac<=1/\bc<=1/\(t % 2=0->ac=0)/\(t % 2=1->bc=0))
   (Q:=λd aJ=>aJ=az/\d.1=some ((bX X Y (2*n)).map it)) ?istep ?ifin ⟨rfl,by omega,0,0,?ini,by omega,by omega,λ_=>rfl,λ_=>rfl⟩) ?ipost)
  case ini=>
   have:bX X Y (0+1) = #[Y.getD 0 0]:=by
    rw [g9]
    rfl
   rw [this]
   simp
  case ifin=>
   rintro d aJ ⟨_,e,_⟩
   rw [sx,sy] at e
   omega
  case ipost=>
   rintro ⟨d1,d2⟩ aJ ⟨rfl,e⟩
   cases (show d1=_ from e)
   exact wpS_pure ⟨rfl,rfl⟩
  case istep=>
   rintro t d aJ _ ht ⟨rfl,R6,ac,bc,rfl,lC,R7,OJ,OK⟩
   dsimp only
   have iy:t / 2+1<Y.size:=by omega
   have ix:(t+1) / 2<X.size:=by omega
   refine wpS_bind (cS iy (wpS_bind (cS ix (wpS_bind (pN C hk (BY _ iy) (BX _ ix) ?_)))))
   rcases Nat.mod_two_eq_zero_or_one t with e | e
   . -- x wins
     have ei:(t+1) / 2=t / 2:=by omega
     have hc:c (Y.getD (t / 2+1) 0) (X.getD ((t+1) / 2) 0)=false:=by rw [ei]; exact hA _ (by omega)
     rw [hc]
     dsimp only
     rw [if_neg (by decide)]
     refine wpS_bind (cS ix ?_)
     have z1:kG X Y (t+1)=X.getD ((t+1) / 2) 0:=by
      unfold kG
      rw [if_neg (by omega)]
     have eo:((bX X Y (t+1)).map it).push (it (X.getD ((t+1) / 2) 0))=(bX X Y (t+1+1)).map it:=by
      rw [g9 X Y (t+1),z1]
      simp
     rw [eo]
     by_cases he:t=2*n-4
     . rw [if_pos (by rw [sx]; simp; omega)]
       refine wpS_pure ⟨rfl,?_⟩
       show some _=some _
       rw [OI,show (t+1) / 2+1=n-1 by omega,show t / 2+1=n-1 by omega,show t+1+1=2*n-2 by omega]
     . rw [if_neg (by rw [sx]; simp; omega),if_neg (by omega)]
       refine wpS_pure ⟨rfl,by omega,ac+1,0,?_,by have:=OJ e; omega,by omega,λz=>by omega,λ_=>rfl⟩
       rw [show (t+1+1) / 2=(t+1) / 2+1 by omega,show (t+1) / 2+1=t / 2+1 by omega]
   . -- y wins
     have ei:(t+1) / 2=t / 2+1:=by omega
     have hc:c (Y.getD (t / 2+1) 0) (X.getD ((t+1) / 2) 0)=true:=by rw [ei]; exact hB _ (by omega)
     rw [hc]
     dsimp only
     rw [if_pos rfl]
     refine wpS_bind (cS iy ?_)
     have z1:kG X Y (t+1)=Y.getD (t / 2+1) 0:=by
      unfold kG
      rw [if_pos (by omega),ei]
     have eo:((bX X Y (t+1)).map it).push (it (Y.getD (t / 2+1) 0))=(bX X Y (t+1+1)).map it:=by
      rw [g9 X Y (t+1),z1]
      simp
     rw [eo,if_neg (by rw [sy]; simp; omega),if_neg (by omega)]
     refine wpS_pure ⟨rfl,by omega,0,bc+1,?_,by omega,by have:=OK e; omega,λ_=>rfl,λz=>by omega⟩
     rw [show (t+1+1) / 2=(t+1) / 2 by omega,show (t+1) / 2+1=t / 2+1+1 by omega]
end
end L2
namespace L2
open PySem PySem.Spec PyProof.Rows
def Ba (p z:Array Nat):Array Nat:=z.toList.zipIdx.foldl (λa x=>a.setIfInBounds (1+x.2) x.1) p
theorem vz (it:Nat->Keyed):∀(l:List Nat) (i:Nat) (p:Array Nat),((l.map it).zipIdx i).foldl (λ(a:Array Keyed) x=>a.setIfInBounds (1+x.2) x.1) (p.map it)=((l.zipIdx i).foldl (λa x=>a.setIfInBounds (1+x.2) x.1) p).map it
 | [],_,_=>rfl
 | x::l,i,p=>by
  rw [List.map_cons,List.zipIdx_cons,List.zipIdx_cons,List.foldl_cons,List.foldl_cons,← vz it l (i+1)]
  congr 1
  simp
section
variable {prog:Program}{w:World}{A:Around}{E:Value->Shared->Prop}{s:Shared}{κ:SortKind}{it:Nat->Keyed}{N:Nat}{c:Nat->Nat->Bool}{p:Array Nat}{n:Nat}
theorem iN {i j k:Nat}(hj:j<=p.size) (hk:k<j-i):(p.extract i j).getD k 0=p.getD (i+k) 0:=by
 have h1:k<(p.extract i j).size:=by simp; omega
 have h2:i+k<p.size:=by omega
 simp only [Array.getD,h1,h2,dif_pos]
 simp
theorem oP {i j:Nat}(hj:j<=p.size) (B:eV N p):eV N (p.extract i j):=λk hk=>by
 have fq:k<j-i:=by
  simp at hk
  omega
 rw [iN hj fq]
 exact B _ (by omega)
theorem D8 (C:dg prog w A s κ it N c){Q:Bool->SortSt->Prop}{pw:Nat}(B:eV N p) (hp:p.size=2*n) (hn:4<=n)
 (hA:∀i,i<n->c (p.getD (n+i) 0) (p.getD i 0)=false) (hB:∀i,i+1<n->c (p.getD (n+i) 0) (p.getD (i+1) 0)=true)
 (h:Q true (aL κ it (Ba p (bX (p.extract 1 n) (p.extract n (2*n-1)) (2*(n-1)))) #[(0,n+n,pw)])) :
 wpS (model prog w) A E s (mergeAt' 0) Q (aL κ it p #[(0,n,pw),(n,n,0)]):=by
 refine wpS_bind (wpS_get ?_)
 refine wpS_bind (wpS_modify ?_)
 have ep:((#[(0,n,pw),(n,n,0)]:Array (Nat×Nat×Nat)).setIfInBounds 0 (0,n+n,pw)).eraseIdxIfInBounds 1 = #[(0,n+n,pw)]:=by simp [Array.setIfInBounds,Array.eraseIdxIfInBounds]
 show wpS _ _ _ _ _ _ (SortSt.mk' κ (p.map it) (((#[(0,n,pw),(n,n,0)]:Array (Nat×Nat×Nat)).setIfInBounds 0 (0,n+n,pw)).eraseIdxIfInBounds 1) 7 none)
 rw [ep]
 refine wpS_bind (cS (show n<p.size by omega) ?_)
 refine wpS_bind (vx C rfl B (B _ (by omega)) (by omega) (show 0+n<=p.size by omega) ?_ ?_ ?_)
 . exact hA 0 (by omega)
 . exact hB 0 (by omega)
 dsimp only
 rw [if_neg (by simp; omega)]
 refine wpS_bind (cS (show 0+1+(n-1)-1<p.size by omega) ?_)
 refine wpS_bind (vy C rfl B (B _ (by omega)) (by omega) (show n+n<=p.size by omega) ?_ ?_ ?_)
 . rw [show 0+1+(n-1)-1=n-1 by omega]
   exact hA (n-1) (by omega)
 . have:=hB (n-2) (by omega)
   rw [show 0+1+(n-1)-1=n-2+1 by omega]
   exact this
 dsimp only
 rw [if_neg (by simp; omega),if_pos (by omega)]
 have ex:∀i j,(p.map it).extract i j=(p.extract i j).map it:=λi j=>by
  apply Array.ext
  . simp
  . intro k h1 h2
    simp
 have sX:(p.extract 1 n).size=n-1:=by
  simp
  omega
 have sY:(p.extract n (2*n-1)).size=n-1:=by
  simp
  omega
 have gX:∀i,i<n-1->(p.extract 1 n).getD i 0=p.getD (i+1) 0:=λi hi=>by rw [iN (by omega) (by omega),Nat.add_comm]
 have gY:∀i,i<n-1->(p.extract n (2*n-1)).getD i 0=p.getD (n+i) 0:=λi hi=>iN (by omega) (by omega)
 have key:=yF C (E:=E) (st:=SortSt.mk' κ (p.map it) #[(0,n+n,pw)] 7 none) (X:=p.extract 1 n) (Y:=p.extract n (2*n-1)) (n:=n-1)
  (Q:=λa az=>a=(bX (p.extract 1 n) (p.extract n (2*n-1)) (2*(n-1))).map it/\az=SortSt.mk' κ (p.map it) #[(0,n+n,pw)] 7 none) rfl rfl (oP (by omega) B) (oP (by omega) B) sX sY (by omega)
  (λi hi=>by rw [gX i (by omega),gY (i+1) (by omega)]; exact hA (i+1) (by omega)) (λi hi=>by rw [gX i hi,gY i hi]; exact hB i (by omega)) ⟨rfl,rfl⟩
 rw [← ex,← ex] at key
 have e1:n+(n-1)=2*n-1:=by omega
 rw [show (0+1:Nat)=1 from rfl,e1]
 refine wpS_bind (wpS_mono key λa az hq=>?_)
 obtain ⟨rfl,rfl⟩:=hq
 refine wpS_bind (wpS_modify (wpS_bind (wpS_get (wpS_pure ?_))))
 have e2:=vz it (bX (p.extract 1 n) (p.extract n (2*n-1)) (2*(n-1))).toList 0 p
 have e3:SortSt.mk' κ ((((bX (p.extract 1 n) (p.extract n (2*n-1)) (2*(n-1))).map it).toList.zipIdx).foldl (λ(a:Array Keyed) x=>a.setIfInBounds (1+x.2) x.1) (p.map it)) #[(0,n+n,pw)] 7 none=aL κ it (Ba p (bX (p.extract 1 n) (p.extract n (2*n-1)) (2*(n-1)))) #[(0,n+n,pw)]:=by
  unfold aL Ba
  rw [Array.toList_map,e2]
 show Q true (SortSt.mk' κ ((((bX (p.extract 1 n) (p.extract n (2*n-1)) (2*(n-1))).map it).toList.zipIdx).foldl (λ(a:Array Keyed) x=>a.setIfInBounds (1+x.2) x.1) (p.map it)) #[(0,n+n,pw)] 7 none)
 rw [e3]
 exact h
end
end L2
namespace L2
open PySem PySem.Spec PyProof.Rows
section
variable {prog:Program}{w:World}{A:Around}{E:Value->Shared->Prop}{s:Shared}{κ:SortKind}{it:Nat->Keyed}{N:Nat}{c:Nat->Nat->Bool}{p:Array Nat}{n:Nat}
theorem lD (h0:1<=n) (h:n<64):minRun' n n 0=n:=by
 obtain ⟨f,hf⟩:∃f,n=f+1:=⟨n-1,by omega⟩
 have:minRun' (f+1) n 0=n:=by rw [minRun'_succ,if_pos h]; rfl
 rwa [← hf] at this
theorem hJ (c:Nat->Nat->Bool) (lo:Nat):∀(f k:Nat) (p:Array Nat),(bp c lo f k p).Perm p
 | 0,_,_=>Array.Perm.refl _
 | f+1,k,p=>(hJ c lo f (k+1) _).trans (bubble_perm _ _ _)
theorem yG (C:dg prog w A s κ it N c){Q:Unit->SortSt->Prop}(B:eV N p) (hp:p.size=n) (hn:3<=n) (vA:n<64) (h1:c (p.getD 1 0) (p.getD 0 0)=false) (h2:c (p.getD 2 0) (p.getD 1 0)=true) (h3:c (p.getD 0 0) (p.getD 1 0)=true)
 (h:Q () (aL κ it (bp c 0 (n-2) 2 p) #[(0,n,0)])):wpS (model prog w) A E s sortRuns' Q (aL κ it p #[]):=by
 rw [sortRuns'_eq]
 refine wpS_bind (wpS_get ?_)
 have hs:(arrOf (aL κ it p #[])).size=n:=by show (p.map it).size=n; rw [Array.size_map,hp]
 simp only [hs,lD (by omega) vA]
 refine wpS_bind (wpS_mono (wpS_forRange (I:=λx d az=>(x=0/\d=(none,0)/\az=aL κ it p #[])\/(1<=x/\d=(none,n)/\az=aL κ it (bp c 0 (n-2) 2 p) #[(0,n,0)]))
  (Q:=λd az=>d=(none,n)/\az=aL κ it (bp c 0 (n-2) 2 p) #[(0,n,0)]) ?step ?fin (.inl ⟨rfl,rfl,rfl⟩)) ?post)
 case fin=>
  rintro d az (⟨hx,_,_⟩ | ⟨_,hc,hD⟩)
  . omega
  . exact ⟨hc,hD⟩
 case step=>
  rintro x d az _ hx (⟨rfl,rfl,rfl⟩ | ⟨i7,rfl,rfl⟩)
  . dsimp only
    rw [if_neg (by omega)]
    simp only [Nat.sub_zero,Nat.min_self,Nat.zero_add]
    refine wpS_bind (j0 C B (by omega) hn h1 h2 h3 ?_)
    dsimp only
    rw [if_pos (by omega)]
    refine wpS_bind (wpS_lift (wpAny_rule ⟨rfl,?_⟩))
    refine wpS_bind (qX C B (by omega) (by omega) (by omega) ?_)
    simp only [Bool.not_true,Bool.false_eq_true,if_false]
    refine wpS_bind (wpS_get ?_)
    exact wpS_bind (wpS_modify (wpS_pure (.inr ⟨by omega,rfl,rfl⟩)))
  . dsimp only
    rw [if_pos (Nat.le_refl _)]
    exact wpS_pure ⟨rfl,rfl⟩
 case post=>
  rintro d az ⟨rfl,rfl⟩
  dsimp only
  refine wpS_bind (wpS_mono (wpS_forRange (I:=λ_ d aJ=>aJ=aL κ it (bp c 0 (n-2) 2 p) #[(0,n,0)]/\d=(none,())) (Q:=λd aJ=>aJ=aL κ it (bp c 0 (n-2) 2 p) #[(0,n,0)]/\d=(none,())) ?_ (λ_ _ hh=>hh) ⟨rfl,rfl⟩) ?_)
  . rintro x d aJ _ _ ⟨rfl,rfl⟩
    refine wpS_bind (wpS_get ?_)
    rw [if_pos (show (pendingOf (aL κ it (bp c 0 (n-2) 2 p) #[(0,n,0)])).size<=1 from Nat.le_refl 1)]
    exact wpS_pure ⟨rfl,rfl⟩
  . rintro d aJ ⟨rfl,rfl⟩
    exact wpS_pure h
theorem Ck (C:dg prog w A s κ it N c){Q:Unit->SortSt->Prop}(B:eV N p) (hp:p.size=2) (h1:c (p.getD 1 0) (p.getD 0 0)=false)
 (h:Q () (aL κ it p #[(0,2,0)])):wpS (model prog w) A E s sortRuns' Q (aL κ it p #[]):=by
 rw [sortRuns'_eq]
 refine wpS_bind (wpS_get ?_)
 have hs:(arrOf (aL κ it p #[])).size=2:=by show (p.map it).size=2; rw [Array.size_map,hp]
 simp only [hs,lD (show 1<=2 by decide) (by decide)]
 refine wpS_bind (wpS_mono (wpS_forRange (I:=λx d az=>(x=0/\d=(none,0)/\az=aL κ it p #[])\/(1<=x/\d=(none,2)/\az=aL κ it p #[(0,2,0)]))
  (Q:=λd az=>d=(none,2)/\az=aL κ it p #[(0,2,0)]) ?step ?fin (.inl ⟨rfl,rfl,rfl⟩)) ?post)
 case fin=>
  rintro d az (⟨hx,_,_⟩ | ⟨_,hc,hD⟩)
  . omega
  . exact ⟨hc,hD⟩
 case step=>
  rintro x d az _ hx (⟨rfl,rfl,rfl⟩ | ⟨i7,rfl,rfl⟩)
  . dsimp only
    rw [if_neg (by omega)]
    rw [countRun'_eq]
    refine wpS_bind (wpS_bind (wpS_mono (wpS_forRange (I:=λx d az=>az=aL κ it p #[]/\((x=1/\d=(none,1))\/(x=2/\d=(none,2)))) (Q:=λd az=>az=aL κ it p #[]/\d=(none,2)) ?cs ?cf ⟨rfl,.inl ⟨rfl,rfl⟩⟩) ?cp))
    case cf=>
     rintro d az ⟨rfl,⟨e,rfl⟩ | ⟨e,rfl⟩⟩
     . omega
     . exact ⟨rfl,rfl⟩
    case cs=>
     rintro x d az hx OH ⟨rfl,⟨rfl,rfl⟩ | ⟨rfl,rfl⟩⟩
     . refine wpS_bind (sF C B (by omega) (by omega) ?_)
       rw [show 0+1-1=0 by omega,show 0+1=1 by omega,h1]
       exact wpS_pure ⟨rfl,.inr ⟨rfl,rfl⟩⟩
     . omega
    case cp=>
     rintro d az ⟨rfl,rfl⟩
     refine wpS_pure ?_
     dsimp only
     rw [if_neg (by decide)]
     refine wpS_bind (wpS_get ?_)
     exact wpS_bind (wpS_modify (wpS_pure (.inr ⟨by omega,rfl,rfl⟩)))
  . dsimp only
    rw [if_pos (Nat.le_refl _)]
    exact wpS_pure ⟨rfl,rfl⟩
 case post=>
  rintro d az ⟨rfl,rfl⟩
  dsimp only
  refine wpS_bind (wpS_mono (wpS_forRange (I:=λ_ d aJ=>aJ=aL κ it p #[(0,2,0)]/\d=(none,())) (Q:=λd aJ=>aJ=aL κ it p #[(0,2,0)]/\d=(none,())) ?_ (λ_ _ hh=>hh) ⟨rfl,rfl⟩) ?_)
  . rintro x d aJ _ _ ⟨rfl,rfl⟩
    refine wpS_bind (wpS_get ?_)
    rw [if_pos (show (pendingOf (aL κ it p #[(0,2,0)])).size<=1 from Nat.le_refl 1)]
    exact wpS_pure ⟨rfl,rfl⟩
  . rintro d aJ ⟨rfl,rfl⟩
    exact wpS_pure h
def two32 (c:Nat->Nat->Bool) (p:Array Nat):Array Nat:=bp c 32 30 2 (bp c 0 30 2 p)
def oQ (c:Nat->Nat->Bool) (p:Array Nat):Array Nat:=Ba (two32 c p) (bX ((two32 c p).extract 1 32) ((two32 c p).extract 32 63) 62)
theorem D9 (C:dg prog w A s κ it N c){Q:Unit->SortSt->Prop}(B:eV N p) (hp:p.size=64) (h1:c (p.getD 1 0) (p.getD 0 0)=false) (h2:c (p.getD 2 0) (p.getD 1 0)=true) (h3:c (p.getD 0 0) (p.getD 1 0)=true)
 (k1:c ((bp c 0 30 2 p).getD 33 0) ((bp c 0 30 2 p).getD 32 0)=false) (k2:c ((bp c 0 30 2 p).getD 34 0) ((bp c 0 30 2 p).getD 33 0)=true) (k3:c ((bp c 0 30 2 p).getD 32 0) ((bp c 0 30 2 p).getD 33 0)=true)
 (hA:∀i,i<32->c ((two32 c p).getD (32+i) 0) ((two32 c p).getD i 0)=false) (hB:∀i,i+1<32->c ((two32 c p).getD (32+i) 0) ((two32 c p).getD (i+1) 0)=true)
 (h:∀pd,Q () (aL κ it (oQ c p) pd)):wpS (model prog w) A E s sortRuns' Q (aL κ it p #[]):=by
 rw [sortRuns'_eq]
 refine wpS_bind (wpS_get ?_)
 have hs:(arrOf (aL κ it p #[])).size=64:=by show (p.map it).size=64; rw [Array.size_map,hp]
 have hm:minRun' 64 64 0=32:=by decide +kernel
 simp only [hs,hm]
 have B1:eV N (bp c 0 30 2 p):=B.perm (hJ ..)
 have s1:(bp c 0 30 2 p).size=64:=(hJ c 0 30 2 p).size_eq.trans hp
 have B2:eV N (two32 c p):=B1.perm (hJ ..)
 have s2:(two32 c p).size=64:=(hJ c 32 30 2 _).size_eq.trans s1
 generalize yH:power' 64 (2*0+32) (2*0+32+32+32) 64=pw
 refine wpS_bind (wpS_mono (wpS_forRange (I:=λx d az=>(x=0/\d=(none,0)/\az=aL κ it p #[])\/(x=1/\d=(none,32)/\az=aL κ it (bp c 0 30 2 p) #[(0,32,0)])\/(2<=x/\d=(none,64)/\az=aL κ it (two32 c p) #[(0,32,pw),(32,32,0)]))
  (Q:=λd az=>d=(none,64)/\az=aL κ it (two32 c p) #[(0,32,pw),(32,32,0)]) ?step ?fin (.inl ⟨rfl,rfl,rfl⟩)) ?post)
 case fin=>
  rintro d az (⟨hx,_,_⟩ | ⟨hx,_,_⟩ | ⟨_,hc,hD⟩)
  . omega
  . omega
  . exact ⟨hc,hD⟩
 case step=>
  rintro x d az _ hx (⟨rfl,rfl,rfl⟩ | ⟨rfl,rfl,rfl⟩ | ⟨i7,rfl,rfl⟩)
  . dsimp only
    rw [if_neg (by omega)]
    refine wpS_bind (j0 C B (by omega) (by omega) h1 h2 h3 ?_)
    dsimp only
    rw [if_pos (by omega)]
    refine wpS_bind (wpS_lift (wpAny_rule ⟨rfl,?_⟩))
    refine wpS_bind (qX C B (show 0+32<=p.size by omega) (by omega) (show 2<=32 by omega) ?_)
    simp only [Bool.not_true,Bool.false_eq_true,if_false]
    refine wpS_bind (wpS_get ?_)
    exact wpS_bind (wpS_modify (wpS_pure (.inr (.inl ⟨trivial,rfl,rfl⟩))))
  . dsimp only
    rw [if_neg (by omega)]
    refine wpS_bind (j0 C B1 (by omega) (by omega) k1 k2 k3 ?_)
    dsimp only
    rw [if_pos (by omega)]
    refine wpS_bind (wpS_lift (wpAny_rule ⟨rfl,?_⟩))
    refine wpS_bind (qX C B1 (show 32+32<=(bp c 0 30 2 p).size by omega) (by omega) (show 2<=32 by omega) ?_)
    simp only [Bool.not_true,Bool.false_eq_true,if_false]
    refine wpS_bind (wpS_get ?_)
    refine wpS_bind (wpS_mono (wpS_forRange (I:=λ_ d aJ=>aJ=aL κ it (two32 c p) #[(0,32,0)]/\d=(none,())) (Q:=λd aJ=>aJ=aL κ it (two32 c p) #[(0,32,0)]/\d=(none,())) ?ws (λ_ _ hh=>hh) ⟨rfl,rfl⟩) ?wp)
    case ws=>
     rintro x d aJ _ _ ⟨rfl,rfl⟩
     refine wpS_bind (wpS_get ?_)
     exact wpS_pure ⟨rfl,rfl⟩
    case wp=>
     rintro d aJ ⟨rfl,rfl⟩
     refine wpS_bind (wpS_modify (wpS_bind (wpS_modify (wpS_pure (.inr (.inr ⟨by omega,rfl,?_⟩))))))
     rw [← yH]
     rfl
  . dsimp only
    rw [if_pos (Nat.le_refl _)]
    exact wpS_pure ⟨rfl,rfl⟩
 case post=>
  rintro d az ⟨rfl,rfl⟩
  dsimp only
  refine wpS_bind (wpS_mono (wpS_forRange (I:=λx d aJ=>d=(none,())/\((x=0/\aJ=aL κ it (two32 c p) #[(0,32,pw),(32,32,0)])\/(1<=x/\aJ=aL κ it (oQ c p) #[(0,64,pw)]))) (Q:=λd aJ=>aJ=aL κ it (oQ c p) #[(0,64,pw)]/\d=(none,())) ?ls ?lf ⟨rfl,.inl ⟨rfl,rfl⟩⟩) ?lp)
  case lf=>
   rintro d aJ ⟨rfl,⟨hx,_⟩ | ⟨_,rfl⟩⟩
   . omega
   . exact ⟨rfl,rfl⟩
  case lp=>
   rintro d aJ ⟨rfl,rfl⟩
   exact wpS_pure (h _)
  case ls=>
   rintro x d aJ _ _ ⟨rfl,⟨rfl,rfl⟩ | ⟨i7,rfl⟩⟩
   . refine wpS_bind (wpS_get ?_)
     rw [if_neg (show ¬ (pendingOf (aL κ it (two32 c p) #[(0,32,pw),(32,32,0)])).size<=1 from by show ¬ (2<=1); decide)]
     refine wpS_bind (D8 (n:=32) C B2 s2 (by decide) hA hB ?_)
     simp only [Bool.not_true,Bool.false_eq_true,if_false]
     exact wpS_pure ⟨rfl,.inr ⟨by omega,rfl⟩⟩
   . refine wpS_bind (wpS_get ?_)
     rw [if_pos (show (pendingOf (aL κ it (oQ c p) #[(0,64,pw)])).size<=1 from Nat.le_refl 1)]
     exact wpS_pure ⟨rfl,rfl⟩
end
end L2
namespace L2
open PySem PySem.Spec PyProof.Rows PySem.W
def jo (h:Heap) (v:Value) (ns:List Int):Prop:=∃a o xs n,v=.ref a/\h.get? a=some o/\o.cls=.type "tuple" /\ o.data=.seq xs n/\IntsAre xs.toList ns
theorem jo.keep {h h':Heap}{v:Value}{ns:List Int}(x:jo h v ns) (k:∀a o xs n,h.get? a=some o->o.cls=.type "tuple" -> o.data=.seq xs n->h'.get? a=some o):jo h' v ns:=by
 obtain ⟨a,o,xs,n,e,h1,h2,h3,h4⟩:=x
 exact ⟨a,o,xs,n,e,k a o xs n h1 h2 h3,h2,h3,h4⟩
section
variable {prog:Program}{w:World}{A:Around}{E:Value->Shared->Prop}{s:Shared}{Q:Bool->Shared->Prop}
theorem Cm {a b:Int}{t u:Tok}(f:Bool) (h:Q (decide (a<b)) s):wpAny (model prog w) A (oneLt' f (.int a t) (.int b u)) Q E s:=by
 cases f with
 | true=>exact oneLt_int h
 | false=>exact kat_one _ _ (PyProof.Rows.lt_int h)
theorem mV:∀{xs ys:List Value}{as bs:List Int}(i:Nat),IntsAre xs as->IntsAre ys bs->as.length=bs.length->Q (HT.lexLt as bs) s->KatLex prog w A true false Q (xs.zip ys) i s
 | _,_,_,_,_,.nil,.nil,_,h=>h
 | _,_,_,_,_,.nil,.cons _ _ _,h,_=>nomatch h
 | _,_,_,_,_,.cons _ _ _,.nil,h,_=>nomatch h
 | _,_,_,_,i,.cons a t r,.cons b u r',hl,h=>by
  rw [HT.iC] at h
  refine kat_cons (wpAny_eqBool_int ?_)
  by_cases e:a=b
  . rw [if_pos e] at h
    have:(a == b)=true:=by simpa using e
    rw [this]
    exact kat_yes (mV (i+1) r r' (Nat.succ.inj hl) h)
  . rw [if_neg e] at h
    have:(a == b)=false:=by simpa using e
    rw [this]
    exact kat_no (Cm _ h)
theorem Cn {v u:Value}{as bs:List Int}(hv:jo s.heap v as) (hu:jo s.heap u bs) (hl:as.length=bs.length) (h:Q (HT.lexLt as bs) s):wpAny (model prog w) A (keyLt' (tuples' true) v u) Q E s:=by
 obtain ⟨a,o,xs,n,rfl,h1,_,h3,h4⟩:=hv
 obtain ⟨b,o2,ys,m,rfl,k1,_,k3,k4⟩:=hu
 refine kat_lt h1 h3 k1 k3 ?_
 have e1:=h4.length
 have e2:=k4.length
 rw [Array.length_toList] at e1 e2
 have:decide (xs.size<ys.size)=false:=decide_eq_false (by omega)
 rw [this]
 exact mV 0 h4 k4 hl h
end
theorem qw {h:Heap} : ∀{vs:List Value}{bs:List (List Int)},Paired (jo h) vs bs->(∀b∈bs,b≠[])->∃fs,KatTups h vs fs/\fs.length=vs.length/\∀v∈fs,∃i t,v=Value.int i t
 | _,_,.nil,_=>⟨[],.nil,rfl,λ_ h=>nomatch h⟩
 | v::vs,b::bs,.cons hv t,hb=>by
  obtain ⟨fs,h1,h2,h3⟩:=qw t λx hx=>hb x (List.mem_cons_of_mem _ hx)
  obtain ⟨a,o,xs,n,rfl,k1,k2,k3,k4⟩:=hv
  have hn:=hb b List.mem_cons_self
  generalize hx:xs.toList=l at k4
  cases k4 with
  | nil=>exact absurd rfl hn
  | cons i t r=>
   refine ⟨.int i t::fs,KatTups.cons k1 k2 k3 ?_ h1,by rw [List.length_cons,List.length_cons,h2],λz hz=>?_⟩
   . rw [← Array.getElem?_toList,hx]
     rfl
   . rcases List.mem_cons.mp hz with rfl | hz
     . exact ⟨i,t,rfl⟩
     . exact h3 z hz
def Ea (vs:List Value) (i:Nat):Keyed:=(vs.getD i .none,vs.getD i .none)
theorem Co (vs:List Value):vs.toArray.zip vs.toArray=((List.range vs.length).toArray).map (Ea vs):=by
 apply Array.ext
 . simp
 . intro i h1 h2
   simp at h1
   simp [Ea,h1]
theorem iF {α β:Type}{F:α->β->Prop}{d:α}{e:β} : ∀{jP:List α}{kU:List β},Paired F jP kU->∀i,i<jP.length->F (jP.getD i d) (kU.getD i e)
 | _,_,.nil,i,h=>absurd h (Nat.not_lt_zero _)
 | _,_,.cons h t,0,_=>by simpa using h
 | _,_,.cons h t,i+1,hi=>by simpa using iF t i (by simpa using hi)
section
variable {prog:Program}{w:World}{A:Around}{E:Value->Shared->Prop}{s:Shared}
def i8 (prog:Program) (w:World) (bs:List (List Int)) (q:Array Nat):Prop:=q.size=bs.length/\∀(A:Around) (E:Value->Shared->Prop) (s:Shared) (it:Nat->Keyed),dg prog w A s (tuples' true) it bs.length (λi j=>HT.lexLt (bs.getD i []) (bs.getD j []))->
 wpS (model prog w) A E s sortRuns' (λ_ az=>arrOf az=q.map it/\failedOf az=none) (aL (tuples' true) it (List.range bs.length).toArray #[])
theorem yI {a:Addr}{vs:List Value}{bs:List (List Int)}{n k:Nat}{q:Array Nat}{P:Fin->Shared->Prop}(ho:s.heap.get? a=some (seqObj "list" vs.toArray n)) (hT:Paired (jo s.heap) vs bs) (hk:∀b∈bs,b.length=k) (Je:1<=k) (h2:2<=vs.length) (vA:vs.length<=1000)
 (hq:i8 prog w bs q) (h:P (.done (.ret .none)) { s with heap:=sortedHeap s.heap a vs (q.map λi=>vs.getD i .none) }) :
 wpAny (model prog w) A (Builtin.«list.sort» ⟨[.ref a],[]⟩) P E s:=by
 rw [list_sort_plain]
 have ha:a<s.heap.objs.size:=Heap.lt_size ho
 have lb:=hT.length
 refine wpAny_bind (listItems_at ho rfl ?_)
 refine wpAny_bind (listUpdate_at ho rfl ?_ (by rw [List.size_toArray,sizeLine_eq]; omega) (Nat.zero_le _))
 obtain ⟨e1,mW⟩:∃e1,(s.heap.update a (Obj.mapSeq λ_=>#[])).get? a=some (seqObj "list" #[] e1):=⟨_,get?_update_seq ho (λ_=>#[])⟩
 refine wpAny_bind (seqEpoch_at mW rfl ?_)
 refine wpAny_bind (wpAny_newTuple ?_ (by show vs.length<=_; rw [sizeLine_eq]; omega))
 refine wpAny_bind (wpAny_newList ?_ (Nat.zero_le _))
 refine wpAny_holding ?_
 have vB:(((s.heap.update a (Obj.mapSeq λ_=>#[])).push (seqObj "tuple" vs.toArray 0)).push (seqObj "list" #[] 0)).get? a=some (seqObj "list" #[] e1):=by
  rw [Heap.get?_push_ne _ _ _ (by rw [size_push',Heap.size_update]; exact Nat.ne_of_lt (Nat.lt_succ_of_lt ha)),Heap.get?_push_ne _ _ _ (by rw [Heap.size_update]; exact Nat.ne_of_lt ha)]
  exact mW
 show wpAny (model prog w) A _ P E { s with heap:=((s.heap.update a (Obj.mapSeq λ_=>#[])).push (seqObj "tuple" vs.toArray 0)).push (seqObj "list" #[] 0) }
 dsimp only
 have iJ:¬ vs.toArray.size<2:=by rw [List.size_toArray]; omega
 rw [if_neg iJ,if_neg iJ]
 have Bb:Paired (jo (((s.heap.update a (Obj.mapSeq λ_=>#[])).push (seqObj "tuple" vs.toArray 0)).push (seqObj "list" #[] 0))) vs bs:=Paired.dX hT λv b x=>x.keep λb o xs n h1 h2 h3=>by
  have nb:b≠a:=λe=>by
   rw [e,ho] at h1
   cases (Option.some.inj h1)
   exact absurd (Value.type.inj (show Value.type "list" = Value.type "tuple" from h2)) (by decide)
  refine Heap.get?_push_of_some _ (Heap.get?_push_of_some _ ?_)
  rw [(Heap.SameBut.update s.heap a (Obj.mapSeq λ_=>(#[]:Array Value))).2 b nb]
  exact h1
 generalize OL:((s.heap.update a (Obj.mapSeq λ_=>#[])).push (seqObj "tuple" vs.toArray 0)).push (seqObj "list" #[] 0)=h6 at vB Bb
 obtain ⟨fs,f1,f2,f3⟩:=qw Bb (λb hb e=>by have:=hk b hb; rw [e] at this; simp at this; omega)
 refine wpAny_bind (kat_kind (M:=model prog w) (T:=.type "int") f1 (by omega) (λv hv=>?_) rfl ?_)
 . obtain ⟨i,t,rfl⟩:=f3 v hv
   exact Looks.of_pure rfl
 have hb:∀i,i<bs.length->(bs.getD i []).length=k:=λi hi=>hk _ (by simp [hi])
 have C:dg prog w A { s with heap:=h6 } (tuples' true) (Ea vs) bs.length (λi j=>HT.lexLt (bs.getD i []) (bs.getD j [])):=λi j hi hj E Q hQ=>
  Cn (iF Bb i (by omega)) (iF Bb j (by omega)) (by rw [hb i hi,hb j hj]) hQ
 have run:=hq.2 A E _ _ C
 rw [Co,lb]
 refine wpAny_bind (wpAny_mono run ?_ λ_ _ e=>e)
 rintro ⟨⟨⟩,az⟩ s' ⟨rfl,OM,hf⟩
 dsimp only
 have hsz:((arrOf az).map (·.2))=q.map λi=>vs.getD i .none:=by
  rw [OM,Array.map_map]
  rfl
 refine wpAny_bind (seqEpoch_at vB rfl ?_)
 refine wpAny_bind (listUpdate_at vB rfl ?_ (hsz2:=by rw [hsz,Array.size_map,hq.1,sizeLine_eq]; omega))
 have R8:(sortPriv% PySem.Builtin.SortState.failed) az=none:=hf
 rw [hf]
 simp only [bne_self_eq_false,Bool.false_eq_true,if_false]
 refine wpAny_pure ?_
 rw [hsz,← OL]
 exact h
theorem mX {l:Addr}{vs:List Value}{bs:List (List Int)}{k:Nat}{q:Array Nat}{Q:Value->Shared->Prop}(hl:s.heap.IsList l vs.toArray) (hT:Paired (jo s.heap) vs bs) (hk:∀b∈bs,b.length=k) (Je:1<=k) (h2:2<=vs.length) (vA:vs.length<=1000)
 (hq:i8 prog w bs q) (h:Q (.ref (s.heap.objs.size+1)) { s with heap:=sortedAll s.heap vs (q.map λi=>vs.getD i .none) }) :
 wpAny (model prog w) A (call (.builtin "sorted") [.ref l]) Q E s:=by
 refine Calls.call_function_entry kind_sorted plain_sorted entry_sorted (args_sorted1 _) ?_
 unfold Builtin.«sorted»
 refine wpAny_bind (m:=checkCount "sorted" 1 1 _) (wpAny_pure ?_)
 refine wpAny_bind (collect_list hl ?_ (by rw [sizeLine_eq]; omega))
 refine wpAny_bind (wpAny_newList ?_ (by rw [sizeLine_eq]; omega))
 have hsz:((s.heap.push (seqObj "list" #[] 0)).update s.heap.objs.size (Obj.mapSeq (· ++ vs.toArray))).objs.size=s.heap.objs.size+1:=by
  rw [Heap.size_update,size_push']
 have rC:(((s.heap.push (seqObj "list" #[] 0)).update s.heap.objs.size (Obj.mapSeq (· ++ vs.toArray))).push (seqObj "list" vs.toArray 0)).get? (s.heap.objs.size+1)=some (seqObj "list" vs.toArray 0):=by
  rw [← hsz]; exact Heap.get?_push_size _ rfl
 have keep:∀b o,s.heap.get? b=some o->(((s.heap.push (seqObj "list" #[] 0)).update s.heap.objs.size (Obj.mapSeq (· ++ vs.toArray))).push (seqObj "list" vs.toArray 0)).get? b=some o:=λb o hb=>by
  refine Heap.get?_push_of_some _ ?_
  rw [(Heap.SameBut.update _ _ _).2 b (Nat.ne_of_lt (Heap.lt_size hb))]
  exact Heap.get?_push_of_some _ hb
 show wpAny _ _ _ _ _ { s with heap:=((s.heap.push (seqObj "list" #[] 0)).update s.heap.objs.size (Obj.mapSeq (· ++ vs.toArray))).push (seqObj "list" vs.toArray 0) }
 rw [hsz]
 refine wpAny_bind (wpAny_holding (wpAny_call_entry slot_list_sort ⟨_,rC,rfl⟩ entry_list_sort (yI rC (Paired.dX hT λv b x=>x.keep λb o _ _ h1 _ _=>keep b o h1) hk Je h2 vA hq ⟨_,rfl,?_⟩) (args_list_sort _)))
 exact wpAny_pure ⟨_,rfl,h⟩
end
end L2
namespace L2
open PySem PySem.Spec PyProof.Rows PySem.W
def aY:Nat->List (List Int)
 | 0=>[[]]
 | k+1=>(aY k).map (· ++ [0])++(aY k).map (· ++ [1])
def bY:Nat->List (List Int)
 | 0=>[[]]
 | k+1=>(bY k).flatMap λr=>[r++[0],r++[1]]
def fW (k:Nat):Bool:=(aY k).zipIdx.all λx=>(aY k).zipIdx.all λy=>HT.lexLt x.1 y.1 == cB k x.2 y.2
theorem yJ:fW 1=true/\fW 2=true/\fW 3=true/\fW 4=true/\fW 5=true/\fW 6=true:=by decide +kernel
def p0 (k:Nat):Array Nat:=(List.range (2 ^ k)).toArray
def jD:Nat->Array Nat
 | 0=>p0 0
 | 1=>p0 1
 | 6=>oQ (cB 6) (p0 6)
 | k=>bp (cB k) 0 (2 ^ k-2) 2 (p0 k)
theorem vC:∀k∈[0,1,2,3,4,5,6],((jD k).toList.map λi=>(aY k).getD i [])=bY k:=by decide +kernel
theorem cH (k:Nat):(aY k).length=2 ^ k:=by
 induction k with
 | zero=>rfl
 | succ k ih=>
  rw [aY,List.length_append,List.length_map,List.length_map,ih,Nat.pow_succ]
  omega
theorem i9 (k:Nat):∀b∈aY k,b.length=k:=by
 induction k with
 | zero=>simp [aY]
 | succ k ih=>
  intro b hb
  rw [aY] at hb
  rcases List.mem_append.mp hb with h | h <;> (obtain ⟨r,hr,rfl⟩:=List.mem_map.mp h; rw [List.length_append,ih r hr]; rfl)
theorem nK {k i j:Nat}(h:fW k=true) (hi:i<2 ^ k) (hj:j<2 ^ k):HT.lexLt ((aY k).getD i []) ((aY k).getD j [])=cB k i j:=by
 unfold fW at h
 have mem:∀i,i<2 ^ k->((aY k).getD i [],i)∈(aY k).zipIdx:=λi hi=>by
  have hl:i<(aY k).length:=by rw [cH]; exact hi
  rw [List.mem_zipIdx_iff_getElem?]
  simp [hl]
 have h1:=List.all_eq_true.mp h _ (mem i hi)
 have h2:=List.all_eq_true.mp h1 _ (mem j hj)
 simpa using h2
theorem Ae (k:Nat):eV (2 ^ k) (p0 k):=λi hi=>by
 unfold p0 at hi ⊢
 simp at hi
 simp [Array.getD,hi]
theorem dg.congr {prog:Program}{w:World}{A:Around}{s:Shared}{κ:SortKind}{it:Nat->Keyed}{N:Nat}{c c':Nat->Nat->Bool}(C:dg prog w A s κ it N c) (h:∀i j,i<N->j<N->c i j=c' i j):dg prog w A s κ it N c':=λi j hi hj E Q hQ=>C i j hi hj E Q (by rw [h i j hi hj]; exact hQ)
def fu (k:Nat):Bool:=!cB k 1 0 && (cB k 2 1 && cB k 0 1)
theorem yK:fu 2=true/\fu 3=true/\fu 4=true/\fu 5=true:=by decide +kernel
def Bc:Bool:=fu 6 && (!cB 6 ((bp (cB 6) 0 30 2 (p0 6)).getD 33 0) ((bp (cB 6) 0 30 2 (p0 6)).getD 32 0) && (cB 6 ((bp (cB 6) 0 30 2 (p0 6)).getD 34 0) ((bp (cB 6) 0 30 2 (p0 6)).getD 33 0) && (cB 6 ((bp (cB 6) 0 30 2 (p0 6)).getD 32 0) ((bp (cB 6) 0 30 2 (p0 6)).getD 33 0) &&
 ((List.range 32).all (λi=>!cB 6 ((two32 (cB 6) (p0 6)).getD (32+i) 0) ((two32 (cB 6) (p0 6)).getD i 0)) && (List.range 31).all (λi=>cB 6 ((two32 (cB 6) (p0 6)).getD (32+i) 0) ((two32 (cB 6) (p0 6)).getD (i+1) 0))))))
theorem Cp:Bc=true:=by decide +kernel
theorem sH:∀k∈[0,1,2,3,4,5,6],(jD k).size=2 ^ k:=by decide +kernel
section
variable {prog:Program}{w:World}
theorem gy {k:Nat}(ha:fW k=true) (ho:fu k=true) (h3:3<=2 ^ k) (vA:2 ^ k<64) (hs:(bp (cB k) 0 (2 ^ k-2) 2 (p0 k)).size=2 ^ k):i8 prog w (aY k) (bp (cB k) 0 (2 ^ k-2) 2 (p0 k)):=by
 refine ⟨by rw [cH]; exact hs,λA E s it C=>?_⟩
 rw [cH] at C ⊢
 have C':=C.congr λi j hi hj=>nK ha hi hj
 unfold fu at ho
 rw [Bool.and_eq_true,Bool.and_eq_true,Bool.not_eq_true'] at ho
 have g:∀i,i<2 ^ k->(p0 k).getD i 0=i:=λi hi=>by
  unfold p0
  simp [Array.getD,hi]
 refine yG C' (p:=p0 k) (n:=2 ^ k) (Ae k) (by unfold p0; simp) h3 vA ?_ ?_ ?_ ⟨rfl,rfl⟩
 . rw [g 1 (by omega),g 0 (by omega)]; exact ho.1
 . rw [g 2 (by omega),g 1 (by omega)]; exact ho.2.1
 . rw [g 0 (by omega),g 1 (by omega)]; exact ho.2.2
theorem qx (k:Nat) (h1:1<=k) (h6:k<=6):i8 prog w (aY k) (jD k):=by
 obtain ⟨a1,a2,a3,a4,a5,a6⟩:=yJ
 obtain ⟨b2,b3,b4,b5⟩:=yK
 have qs:=λk hk=>sH k hk
 rcases (show k=1\/k=2\/k=3\/k=4\/k=5\/k=6 by omega) with rfl | rfl | rfl | rfl | rfl | rfl
 . refine ⟨rfl,λA E s it C=>?_⟩
   have C':=C.congr λi j hi hj=>nK a1 hi hj
   exact Ck C' (p:=p0 1) (Ae 1) rfl (by decide +kernel) ⟨rfl,rfl⟩
 . exact gy a2 b2 (by decide) (by decide) (qs 2 (by simp))
 . exact gy a3 b3 (by decide) (by decide) (qs 3 (by simp))
 . exact gy a4 b4 (by decide) (by decide) (qs 4 (by simp))
 . exact gy a5 b5 (by decide) (by decide) (qs 5 (by simp))
 . refine ⟨by rw [cH]; exact qs 6 (by simp),λA E s it C=>?_⟩
   rw [cH] at C ⊢
   have C':=C.congr λi j hi hj=>nK a6 hi hj
   have hb:=Cp
   unfold Bc fu at hb
   simp only [Bool.and_eq_true,Bool.not_eq_true',List.all_eq_true,List.mem_range] at hb
   obtain ⟨⟨c1,c2,c3⟩,d1,d2,d3,e1,e2⟩:=hb
   have g:∀i,i<2 ^ 6->(p0 6).getD i 0=i:=λi hi=>by
    unfold p0
    simp [Array.getD,hi]
   refine D9 C' (p:=p0 6) (Ae 6) rfl ?_ ?_ ?_ d1 d2 d3 (λi hi=>e1 i hi) (λi hi=>e2 i (by omega)) λpd=>⟨rfl,rfl⟩
   . rw [g 1 (by decide),g 0 (by decide)]; exact c1
   . rw [g 2 (by decide),g 1 (by decide)]; exact c2
   . rw [g 0 (by decide),g 1 (by decide)]; exact c3
end
end L2
namespace L2
open PySem PySem.Spec PyProof.Rows PySem.W
section
variable {X:Cx}
theorem ij (h:Heap) (vs:List Value) (out:Array Value):∃n,(sortedAll h vs out).get? (h.objs.size+1)=some (seqObj "list" out n):=by
 unfold sortedAll sortedHeap
 have hsz:((h.push (seqObj "list" #[] 0)).update h.objs.size (Obj.mapSeq (· ++ vs.toArray))).objs.size=h.objs.size+1:=by rw [Heap.size_update,size_push']
 have h1:(((h.push (seqObj "list" #[] 0)).update h.objs.size (Obj.mapSeq (· ++ vs.toArray))).push (seqObj "list" vs.toArray 0)).get? (h.objs.size+1)=some (seqObj "list" vs.toArray 0):=by
  rw [← hsz]; exact Heap.get?_push_size _ rfl
 exact ⟨_,get?_update_seq (Heap.get?_push_of_some _ (Heap.get?_push_of_some _ (get?_update_seq h1 λ_=>#[]))) λ_=>out⟩
theorem gp {h:Heap}{vs:List Value}{out:Array Value}{b:Addr}{o:Obj}(hb:h.get? b=some o):(sortedAll h vs out).get? b=some o:=by
 have lt:=Heap.lt_size hb
 have ON:b≠h.objs.size:=Nat.ne_of_lt lt
 have ne1:b≠h.objs.size+1:=Nat.ne_of_lt (Nat.lt_succ_of_lt lt)
 unfold sortedAll sortedHeap
 rw [(Heap.SameBut.update _ _ _).2 b ne1]
 refine Heap.get?_push_of_some _ (Heap.get?_push_of_some _ ?_)
 rw [(Heap.SameBut.update _ _ _).2 b ne1]
 refine Heap.get?_push_of_some _ ?_
 rw [(Heap.SameBut.update _ _ _).2 b ON]
 exact Heap.get?_push_of_some _ hb
theorem pO {pins:List (Addr×Obj)}{σ:St}{H:Hp}{s:Shared}(I:Inv X pins σ H s):∀{ts:List Addr}{vs:List Value}{bs:List (List Int)},Vals (ts.map V.ref) vs->Paired (λt b=>aP X.K H t (b.map V.int)) ts bs->Paired (jo s.heap) vs bs
 | [],vs,_,r,.nil=>by
  rw [List.map_nil] at r
  cases r
  exact .nil
 | t::ts,vs,b::bs,r,.cons h p=>by
  rw [List.map_cons] at r
  cases r with
  | cons r1 r2=>
   cases r1
   obtain ⟨its,rv,⟨o,h1,h2,n,h3⟩,_⟩:=I.tuple h
   exact .cons ⟨t,o,_,n,rfl,h1,h2,h3,intsAre_of rv⟩ (pO I r2 p)
theorem sI {ts:List Addr}{i:Nat}{d:Addr}(h:i<ts.length):(ts.map V.ref).getD i .aS=.ref (ts.getD i d):=by simp [h]
theorem Cq {xs:List V}{vs:List Value}(r:Vals xs vs){i:Nat}(h:i<xs.length):RelV (xs.getD i .aS) (vs.getD i .none):=by
 obtain ⟨w',e,jA⟩:=r.get (i:=i) (List.getElem?_eq_getElem h)
 have e1:vs.getD i .none=w':=by simp [e]
 have e2:xs.getD i .aS=xs[i]:=by simp [h]
 rw [e1,e2]
 exact jA
theorem nL {xs:List V}{vs:List Value}(r:Vals xs vs):∀{l:List Nat},(∀i∈l,i<xs.length)->Vals (l.map λi=>xs.getD i .aS) (l.map λi=>vs.getD i .none)
 | [],_=>.nil
 | i::l,h=>.cons (Cq r (h i List.mem_cons_self)) (nL r λj hj=>h j (List.mem_cons_of_mem _ hj))
theorem j4 {α β:Type}{F:α->β->Prop}{d:α}{e:β}{jP:List α}{kU:List β}(p:Paired F jP kU):∀{l:List Nat},(∀i∈l,i<jP.length)->Paired F (l.map λi=>jP.getD i d) (l.map λi=>kU.getD i e)
 | [],_=>.nil
 | i::l,h=>.cons (iF p i (h i List.mem_cons_self)) (j4 p λj hj=>h j (List.mem_cons_of_mem _ hj))
theorem Eb:∀k∈[0,1,2,3,4,5,6],((jD k).toList.all λi=>Nat.blt i (2 ^ k))=true:=by decide +kernel
theorem sL:ff X (.builtin "sorted") (λxs H Q=>∃p ts k,xs=[.ref p]/\ay X.K H p (ts.map V.ref)/\Paired (λt b=>aP X.K H t (b.map V.int)) ts (aY k)/\1<=k/\k<=6/\
 ∀D mY,H D=none->Paired (λt b=>aP X.K H t (b.map V.int)) mY (bY k)->Q (.ref D) (upd H D (.lst (mY.map V.ref)))):=by
 intro pins s σ H xs us Q I r h
 obtain ⟨p,ts,k,rfl,hp,hb,h1,h6,q⟩:=h
 obtain ⟨u,rfl,rx⟩:=vals1 r
 cases (show u=Value.ref p from rx)
 obtain ⟨its,rv,pl,hz⟩:=I.list hp
 have l1:=rv.length
 rw [List.length_map] at l1
 have l2:=hb.length
 rw [cH] at l2
 have hk:k∈[0,1,2,3,4,5,6]:=by
  rcases (show k=1\/k=2\/k=3\/k=4\/k=5\/k=6 by omega) with rfl | rfl | rfl | rfl | rfl | rfl <;> simp
 have two:2<=2 ^ k/\2 ^ k<=64:=by
  rcases (show k=1\/k=2\/k=3\/k=4\/k=5\/k=6 by omega) with rfl | rfl | rfl | rfl | rfl | rfl <;> decide
 have kI:∀i∈(jD k).toList,i<2 ^ k:=λi hi=>by
  have:=List.all_eq_true.mp (Eb k hk) i hi
  rwa [Nat.blt_eq] at this
 refine mX (k:=k) (q:=jD k) pl.isList (pO I rv hb) (i9 k) h1 (by omega) (by omega) (qx k h1 h6) ?_
 obtain ⟨n,hn⟩:=ij s.heap its ((jD k).map λi=>its.getD i .none)
 have gU:=j4 (d:=0) (e:=[]) hb (l:=(jD k).toList) (λi hi=>by have:=kI i hi; omega)
 rw [vC k hk] at gU
 refine ⟨.ref (s.heap.objs.size+1),_,I.laid (t':=s.toks) (o:=.lst (((jD k).toList.map λi=>ts.getD i 0).map V.ref)) (λb o hb=>gp hb) (by omega) ?_,rfl,q _ _ (I.hok.fresh (by omega)) gU⟩
 refine ⟨?_,((jD k).map λi=>its.getD i .none).toList,n,?_,?_⟩
 . rw [List.length_map,List.length_map,Array.length_toList,sH k hk,sizeLine_eq]
   omega
 . have v:=nL rv (l:=(jD k).toList) (λi hi=>by rw [List.length_map]; have:=kI i hi; omega)
   rw [Array.toList_map]
   have e:((jD k).toList.map λi=>ts.getD i 0).map V.ref=(jD k).toList.map λi=>(ts.map V.ref).getD i .aS:=by
    rw [List.map_map]
    refine List.map_congr_left λi hi=>?_
    show V.ref (ts.getD i 0)=_
    exact (sI (by have:=kI i hi; omega)).symm
   rw [e]
   exact v
 . rw [Array.toArray_toList]
   exact hn
def qY (K:W.Frag):R2:=λx y H Q=>∃a b xs ys,x=.ref a/\y=.ref b/\aP K H a xs/\aP K H b ys/\ys≠[]/\xs.length+ys.length<=sizeLine/\(xs=[]->Q (.ref b) H)/\(xs≠[]->∀p,H p=none->Q (.ref p) (upd H p (.tup (xs++ys))))
theorem vD:dG X (binaryOp .Add) (qY X.K):=by
 intro pins s σ H x y v u Q I rx ry h
 obtain ⟨a,b,xs,ys,rfl,rfl,ha,hb,hy,hz,q1,q2⟩:=h
 by_cases hx:xs=[]
 . cases rx
   cases ry
   obtain ⟨its,r1,p1,_⟩:=I.tuple ha
   obtain ⟨jk,r2,p2,_⟩:=I.tuple hb
   obtain ⟨⟨cls,dd,data,sl⟩,ho,hc,n,hd⟩:=id p1
   obtain ⟨⟨KY,AQ,data2,vd⟩,rU,x9,n2,hd2⟩:=id p2
   simp only at hc hd x9 hd2
   subst hc hd x9 hd2
   have he:its=[]:=r1.lZ.mpr hx
   exact concat_meets ⟨_,ho,rfl⟩ ⟨_,rU,rfl⟩ noFill_tuple_add seq_tuple_add PySem.F.slot_tuple_add PySem.F.entry_tuple_add (PySem.F.args_tuple_add_2 _ _)
    (tuple_addW0 a b its.toArray jk.toArray n n2 dd AQ sl vd (by simp [he])) ⟨ho,rU,⟨.ref b,H,I,rfl,q1 hx⟩⟩
 . exact B9 pins s σ H _ _ v u Q I rx ry ⟨a,b,xs,ys,rfl,rfl,ha,hb,hx,hz,λe=>absurd e hy,λ_=>q2 hx⟩
end
end L2
namespace L2
open PySem PySem.Spec PyProof.Rows PySem.W
section
variable {prog:Program}{w:World}{A:Around}{E:Value->Shared->Prop}{s:Shared}
theorem Af {a:Addr}{vs:List Value}{n:Nat}{P:Fin->Shared->Prop}(ho:s.heap.get? a=some (seqObj "list" vs.toArray n)) (h2:vs.length<2) (h:P (.done (.ret .none)) { s with heap:=sortedHeap s.heap a vs vs.toArray }) :
 wpAny (model prog w) A (Builtin.«list.sort» ⟨[.ref a],[]⟩) P E s:=by
 rw [list_sort_plain]
 have ha:a<s.heap.objs.size:=Heap.lt_size ho
 refine wpAny_bind (listItems_at ho rfl ?_)
 refine wpAny_bind (listUpdate_at ho rfl ?_ (by rw [List.size_toArray,sizeLine_eq]; omega) (Nat.zero_le _))
 obtain ⟨e1,mW⟩:∃e1,(s.heap.update a (Obj.mapSeq λ_=>#[])).get? a=some (seqObj "list" #[] e1):=⟨_,get?_update_seq ho (λ_=>#[])⟩
 refine wpAny_bind (seqEpoch_at mW rfl ?_)
 refine wpAny_bind (wpAny_newTuple ?_ (by show vs.length<=_; rw [sizeLine_eq]; omega))
 refine wpAny_bind (wpAny_newList ?_ (Nat.zero_le _))
 refine wpAny_holding ?_
 have vB:(((s.heap.update a (Obj.mapSeq λ_=>#[])).push (seqObj "tuple" vs.toArray 0)).push (seqObj "list" #[] 0)).get? a=some (seqObj "list" #[] e1):=
  Heap.get?_push_of_some _ (Heap.get?_push_of_some _ mW)
 show wpAny (model prog w) A _ P E { s with heap:=((s.heap.update a (Obj.mapSeq λ_=>#[])).push (seqObj "tuple" vs.toArray 0)).push (seqObj "list" #[] 0) }
 dsimp only
 have iJ:vs.toArray.size<2:=by rw [List.size_toArray]; omega
 rw [if_pos iJ,if_pos iJ]
 refine wpAny_bind (wpAny_pure ?_)
 rw [StateT.run_pure]
 refine wpAny_bind (wpAny_pure ?_)
 dsimp only
 have hsz:((vs.toArray.zip vs.toArray).map (·.2))=vs.toArray:=by
  apply Array.ext
  . simp
  . intro i h1 h2
    simp
 refine wpAny_bind (seqEpoch_at vB rfl ?_)
 show wpAny _ _ (Builtin.List.listUpdate (.ref a) (λ_=>((vs.toArray.zip vs.toArray).map (·.2))) >>= _) _ _ _
 rw [hsz]
 refine wpAny_bind (listUpdate_at vB rfl ?_ (hsz2:=by rw [List.size_toArray,sizeLine_eq]; omega))
 simp only [bne_self_eq_false,Bool.false_eq_true,if_false]
 exact wpAny_pure h
theorem wZ {l:Addr}{vs:List Value}{Q:Value->Shared->Prop}(hl:s.heap.IsList l vs.toArray) (h2:vs.length<2) (h:Q (.ref (s.heap.objs.size+1)) { s with heap:=sortedAll s.heap vs vs.toArray }) :
 wpAny (model prog w) A (call (.builtin "sorted") [.ref l]) Q E s:=by
 refine Calls.call_function_entry kind_sorted plain_sorted entry_sorted (args_sorted1 _) ?_
 unfold Builtin.«sorted»
 refine wpAny_bind (m:=checkCount "sorted" 1 1 _) (wpAny_pure ?_)
 refine wpAny_bind (collect_list hl ?_ (by rw [sizeLine_eq]; omega))
 refine wpAny_bind (wpAny_newList ?_ (by rw [sizeLine_eq]; omega))
 have hsz:((s.heap.push (seqObj "list" #[] 0)).update s.heap.objs.size (Obj.mapSeq (· ++ vs.toArray))).objs.size=s.heap.objs.size+1:=by
  rw [Heap.size_update,size_push']
 have rC:(((s.heap.push (seqObj "list" #[] 0)).update s.heap.objs.size (Obj.mapSeq (· ++ vs.toArray))).push (seqObj "list" vs.toArray 0)).get? (s.heap.objs.size+1)=some (seqObj "list" vs.toArray 0):=by
  rw [← hsz]; exact Heap.get?_push_size _ rfl
 show wpAny _ _ _ _ _ { s with heap:=((s.heap.push (seqObj "list" #[] 0)).update s.heap.objs.size (Obj.mapSeq (· ++ vs.toArray))).push (seqObj "list" vs.toArray 0) }
 rw [hsz]
 refine wpAny_bind (wpAny_holding (wpAny_call_entry slot_list_sort ⟨_,rC,rfl⟩ entry_list_sort (Af rC h2 ⟨_,rfl,?_⟩) (args_list_sort _)))
 exact wpAny_pure ⟨_,rfl,h⟩
end
theorem nM:∀{b c:List Int},b.map V.int=c.map V.int->b=c
 | [],[],_=>rfl
 | [],_::_,h=>nomatch h
 | _::_,[],h=>nomatch h
 | x::b,y::c,h=>by
  rw [List.map_cons,List.map_cons] at h
  have h1:=List.cons.inj h
  rw [V.int.inj h1.1,nM h1.2]
section
variable {X:Cx}
theorem sM:ff X (.builtin "sorted") (λxs H Q=>∃p ts k,xs=[.ref p]/\ay X.K H p (ts.map V.ref)/\Paired (λt b=>aP X.K H t (b.map V.int)) ts (aY k)/\k<=6/\
 ∀D mY,H D=none->Paired (λt b=>aP X.K H t (b.map V.int)) mY (bY k)->Q (.ref D) (upd H D (.lst (mY.map V.ref)))):=by
 intro pins s σ H xs us Q I r h
 obtain ⟨p,ts,k,rfl,hp,hb,h6,q⟩:=h
 by_cases hk:k=0
 . subst hk
   obtain ⟨u,rfl,rx⟩:=vals1 r
   cases (show u=Value.ref p from rx)
   obtain ⟨its,rv,pl,hz⟩:=I.list hp
   have l1:=rv.length
   rw [List.length_map] at l1
   have l2:=hb.length
   rw [cH] at l2
   obtain ⟨n,hn⟩:=ij s.heap its its.toArray
   refine wZ pl.isList (by omega) ⟨.ref (s.heap.objs.size+1),_,I.laid (t':=s.toks) (o:=.lst (ts.map V.ref)) (λb o hb=>gp hb) (by omega) ⟨hz,its,n,rv,hn⟩,rfl,q _ ts (I.hok.fresh (by omega)) hb⟩
 . exact sL pins s σ H _ us Q I r ⟨p,ts,k,rfl,hp,hb,by omega,h6,q⟩
open Classical in
def Lb (K:W.Frag):R2:=λx y H Q=>∃(t p:Addr) (b:List Int) (ts:List Addr) (bs:List (List Int)),x=.ref t/\y=.ref p/\aP K H t (b.map V.int)/\ay K H p (ts.map V.ref)/\Paired (λt b=>aP K H t (b.map V.int)) ts bs/\Q (.bl (decide (b∈bs))) H
theorem Cr {A:Around}{pins:List (Addr×Obj)}{σ:St}{H:Hp}{s:Shared}(I:Inv X pins σ H s) (hu:A.units+1<cLine){t u:Addr}{b c:List Int}(ht:aP X.K H t (b.map V.int)) (qy:aP X.K H u (c.map V.int)):SeqAt.EqAt A s (.ref t) (.ref u) (decide (b=c)):=by
 by_cases e:t=u
 . subst e
   have e2:b=c:=nM (I.kX ht qy)
   rw [decide_eq_true e2]
   exact SeqAt.EqAt.same _
 . refine SeqAt.EqAt.of_refs e ?_
   obtain ⟨its,rv,pl,_⟩:=I.tuple ht
   obtain ⟨its',vE,Be,_⟩:=I.tuple qy
   have l1:=rv.length
   have l2:=vE.length
   rw [List.length_map] at l1 l2
   have key:=SeqAt.RcAt.tuples (A:=A) (s:=s) (e:=λj=>decide (b.getD j 0=c.getD j 0)) pl Be (by omega) (λj g1 g2=>?_)
   . have e3:((List.range (min its.toArray.size its'.toArray.size)).all (λj=>decide (b.getD j 0=c.getD j 0)) && its.toArray.size == its'.toArray.size)=decide (b=c):=by
      rw [Bool.eq_iff_iff,Bool.and_eq_true,decide_eq_true_eq,List.all_eq_true]
      simp only [List.size_toArray,beq_iff_eq,List.mem_range,decide_eq_true_eq]
      constructor
      . rintro ⟨h1,h2⟩
        apply List.ext_getElem (by omega)
        intro i g1 g2
        have:=h1 i (by omega)
        simpa [g1,g2] using this
      . rintro rfl
        exact ⟨λ_ _=>rfl,by omega⟩
     rw [← e3]
     exact key
   . simp only [List.size_toArray] at g1 g2
     have hj:j<b.length:=by omega
     have Jf:j<c.length:=by omega
     obtain ⟨w1,e1,r1⟩:=rv.get (x:=.int b[j]) (by rw [List.getElem?_map,List.getElem?_eq_getElem hj]; rfl)
     obtain ⟨w2,e2,r2⟩:=vE.get (x:=.int c[j]) (by rw [List.getElem?_map,List.getElem?_eq_getElem Jf]; rfl)
     have z:=ya (A:=A.in1) (s:=s) r1 r2 rfl rfl
     have a1:its.toArray[j]=w1:=by
      have:=(List.getElem?_eq_some_iff.mp e1).2
      simpa using this
     have a2:its'.toArray[j]=w2:=by
      have:=(List.getElem?_eq_some_iff.mp e2).2
      simpa using this
     rw [a1,a2]
     have e4:ky (.int b[j]) (.int c[j])=decide (b.getD j 0=c.getD j 0):=by
      simp [ky,hj,Jf]
      rfl
     rw [← e4]
     exact z
theorem sN {A:Around}{pins:List (Addr×Obj)}{σ:St}{H:Hp}{s:Shared}(I:Inv X pins σ H s) (hu:A.units+1<cLine){t:Addr}{b:List Int}(ht:aP X.K H t (b.map V.int)) (f:Value->Bool) (hf:∀u c,aP X.K H u (c.map V.int)->f (.ref u)=decide (c=b)):∀{ts:List Addr}{vs:List Value}{bs:List (List Int)},Vals (ts.map V.ref) vs->Paired (λt b=>aP X.K H t (b.map V.int)) ts bs->(∀v∈vs,SeqAt.EqAt A s v (.ref t) (f v))/\vs.any f=bs.any λc=>decide (c=b)
 | [],vs,_,r,.nil=>by
  rw [List.map_nil] at r
  cases r
  exact ⟨(λ_ h=>nomatch h),rfl⟩
 | u::ts,vs,c::bs,r,.cons h p=>by
  rw [List.map_cons] at r
  cases r with
  | cons r1 r2=>
   cases r1
   obtain ⟨h1,h2⟩:=sN I hu ht f hf r2 p
   refine ⟨λv hv=>?_,?_⟩
   . rcases List.mem_cons.mp hv with rfl | hv
     . rw [hf u c h]
       exact Cr I hu h ht
     . exact h1 v hv
   . rw [List.any_cons,List.any_cons,h2,hf u c h]
open Classical in
theorem OO (hu:X.A.units+2<cLine):dG X (compareOp .In) (Lb X.K):=by
 intro pins s σ H x y v u Q I rx ry h
 obtain ⟨t,p,b,ts,bs,rfl,rfl,ht,hp,hb,q⟩:=h
 cases (show v=Value.ref t from rx)
 cases (show u=Value.ref p from ry)
 obtain ⟨its,rv,pl,hz⟩:=I.list hp
 have hf:∀u c,aP X.K H u (c.map V.int)->(λv:Value=>decide (∃u,v=.ref u/\aP X.K H u (b.map V.int))) (.ref u)=decide (c=b):=λu c hc=>by
  show decide _=decide _
  congr 1
  refine propext ⟨?_,?_⟩
  . rintro ⟨u',e,h'⟩
    cases e
    exact nM (I.kX hc h')
  . rintro rfl
    exact ⟨u,rfl,hc⟩
 obtain ⟨m1,m2⟩:=sN (A:=X.A.in1) I (by show X.A.in1.units+1<cLine; exact hu) ht (λv:Value=>decide (∃u,v=.ref u/\aP X.K H u (b.map V.int))) hf rv hb
 refine SeqAt.in_listAt _ pl.isList (λw hw=>m1 w (by simpa using hw)) ⟨.bl _,H,I,rfl,?_⟩
 have e:its.toArray.any (λv:Value=>decide (∃u,v=.ref u/\aP X.K H u (b.map V.int)))=decide (b∈bs):=by
  rw [show its.toArray.any (λv:Value=>decide (∃u,v=.ref u/\aP X.K H u (b.map V.int)))=its.any (λv:Value=>decide (∃u,v=.ref u/\aP X.K H u (b.map V.int))) by simp,m2,Bool.eq_iff_iff,List.any_eq_true,decide_eq_true_eq]
  constructor
  . rintro ⟨c,hc,e⟩
    exact of_decide_eq_true e ▸ hc
  . intro h
    exact ⟨b,h,by simp⟩
 rw [e]
 exact q
end
end L2
namespace L2
open PySem PySem.Spec PyProof.Rows
mutual
inductive Dp (K:W.Frag) (H:Hp):V->PyData->Prop
 | aS:Dp K H .aS .none
 | bl (b):Dp K H (.bl b) (.bool b)
 | int (i):Dp K H (.int i) (.int i)
 | str (x):Dp K H (.str x) (.str x)
 | lst {a xs ds} : ay K H a xs->qz K H xs ds->Dp K H (.ref a) (.list ds)
 | tup {a xs ds} : aP K H a xs->qz K H xs ds->Dp K H (.ref a) (.tuple ds)
inductive qz (K:W.Frag) (H:Hp):List V->List PyData->Prop
 | nil:qz K H [] []
 | cons {x d xs ds} : Dp K H x d->qz K H xs ds->qz K H (x::xs) (d::ds)
end
section
variable {X:Cx}{pins:List (Addr×Obj)}{σ:St}{H:Hp}{s:Shared}
theorem qz.get {K:W.Frag}{H:Hp} : ∀{xs:List V}{ds:List PyData}{i:Nat}{d:PyData},qz K H xs ds->ds[i]?=some d->∃x,xs[i]?=some x/\Dp K H x d
 | _,_,_,_,.nil,e=>by simp at e
 | _,_,0,_,.cons h _,e=>by simp at e; subst e; exact ⟨_,rfl,h⟩
 | _,_,i+1,_,.cons _ t,e=>by
  obtain ⟨x,h1,h2⟩:=qz.get (i:=i) t (by simpa using e)
  exact ⟨x,by simpa using h1,h2⟩
abbrev dT (b:List Int):PyData:=.tuple (b.map PyData.int)
theorem Cs {l:List PyData}(h:∀d∈l,d.canLay0=true):PyData.canLayAll0 l=true:=by
 induction l with
 | nil=>rfl
 | cons d l ih=>rw [PyData.canLayAll0,h d List.mem_cons_self,ih λe he=>h e (List.mem_cons_of_mem _ he)]; rfl
theorem Ct {l:List PyData}{n:Nat}(h:∀d∈l,d.depth<=n):PyData.depthAll l<=n:=by
 induction l with
 | nil=>exact Nat.zero_le _
 | cons d l ih=>rw [PyData.depthAll]; exact Nat.max_le.mpr ⟨h d List.mem_cons_self,ih λe he=>h e (List.mem_cons_of_mem _ he)⟩
end
end L2
namespace L2
open PySem PySem.Spec PyProof.Rows
section
variable {X:Cx}
def Lc (K:W.Frag) (neg:Bool):R2:=λx y H Q=>∃(p p':Addr) (xs:List V),x=.ref p/\y=.ref p'/\ay K H p xs/\ay K H p' []/\Q (.bl (if neg=true then !xs.isEmpty else xs.isEmpty)) H
theorem Ec (hu:X.A.units<cLine):dG X (compareOp .Eq) (Lc X.K false):=by
 intro pins s σ H x y v u Q I rx ry h
 obtain ⟨p,p',xs,rfl,rfl,h1,h2,q⟩:=h
 cases (show v=Value.ref p from rx)
 cases (show u=Value.ref p' from ry)
 obtain ⟨its,rv,pl,hz⟩:=I.list h1
 obtain ⟨its',vE,Be,rY⟩:=I.list h2
 have l1:=rv.length
 have l2:=vE.length
 cases xs with
 | nil=>
  have key:=SeqAt.RcAt.lists (A:=X.A) (s:=s) (e:=λ_=>true) pl.isList Be.isList (by simp only [List.size_toArray]; omega) hu (λj g1 g2=>by simp only [List.size_toArray,List.length_nil] at g1 l1; omega) X.prog X.w X.xe
  refine key _ ?_
  rw [show ((List.range its.toArray.size).all λ_=>true)=true by simp]
  exact ⟨.bl true,H,I,rfl,q⟩
 | cons a xs=>
  have key:=SeqAt.RcAt.lists_lengths (A:=X.A) (s:=s) pl.isList Be.isList (by simp only [List.size_toArray,List.length_cons,List.length_nil] at l1 l2 ⊢; rw [← l1,← l2]; rfl) hu X.prog X.w X.xe
  exact key _ ⟨.bl false,H,I,rfl,q⟩
end
end L2
namespace L2
open PySem PySem.Spec PyProof.Rows
inductive Tr where
 | leaf (b:Bool) | node (n:Str) (l r:Tr)
 deriving DecidableEq
def Tr.dep:Tr->Nat
 | .leaf _=>0
 | .node _ l r=>max l.dep r.dep+1
def cP (h:Heap):Tr->Value->Prop
 | .leaf b,v=>v=.bool b
 | .node n l r,v=>∃a o k t vl vr,v=.ref a/\h.get? a=some o/\o.cls=.type "tuple" /\ o.data=.seq #[.str n t,vl,vr] k/\cP h l vl/\cP h r vr
def ja (w:World):Tr->Int
 | .leaf b=>reduceHash (if b=true then 1 else 0)
 | .node n l r=>reduceHash (Builtin.Tuple.tupleHashOf [hashStr w n,ja w l,ja w r])
def hU:Tr->Nat
 | .leaf _=>1
 | .node _ l r=>1+hU l+hU r+1
theorem cP.inj {h:Heap} : ∀{x y:Tr}{v:Value},cP h x v->cP h y v->x=y
 | .leaf _,.leaf _,_,e1,e2=>by
  rw [show _=Value.bool _ from e1] at e2
  injection (show Value.bool _=Value.bool _ from e2) with e
  rw [e]
 | .leaf _,.node ..,_,e1,⟨_,_,_,_,_,_,e2,_⟩=>by
  rw [show _=Value.bool _ from e1] at e2
  cases e2
 | .node ..,.leaf _,_,⟨_,_,_,_,_,_,e2,_⟩,e1=>by
  rw [show _=Value.bool _ from e1] at e2
  cases e2
 | .node ..,.node ..,_,⟨a,o,k,t,vl,vr,e,g,_,d,hl,hr⟩,⟨a',o',k',t',OP,OQ,e',g',_,d',oG,yL⟩=>by
  rw [e] at e'
  injection e' with ea
  subst ea
  rw [g] at g'
  injection g' with eo
  subst eo
  rw [d] at d'
  injection d' with e1 e2
  have vF:=congrArg Array.toList e1
  simp only [List.cons.injEq,and_true] at vF
  obtain ⟨q1,q2,q3⟩:=vF
  injection q1 with n1 _
  subst n1 q2 q3
  rw [cP.inj hl oG,cP.inj hr yL]
theorem cP.keep {h h':Heap}(k:∀a o its n,h.get? a=some o->o.cls=.type "tuple" -> o.data=.seq its n->h'.get? a=some o):∀{t:Tr}{v:Value},cP h t v->cP h' t v
 | .leaf _,_,e=>e
 | .node ..,_,⟨a,o,n,t,vl,vr,e,g,c,d,hl,hr⟩=>⟨a,o,n,t,vl,vr,e,k _ _ _ _ g c d,c,d,hl.keep k,hr.keep k⟩
section
variable {prog:Program}{w:World}{E:Value->Shared->Prop}
theorem cP.hash:∀(t:Tr) (v:Value) (A:Around) (s:Shared) (Q:Int->Shared->Prop),cP s.heap t v->A.units+t.dep<cLine->Q (ja w t) { s with toks:=s.toks+hU t } -> wpAny (model prog w) A (pyHash v) Q E s
 | .leaf b,v,A,s,Q,e,hu,q=>by
  cases (show v=.bool b from e)
  refine W.pyHash_slot (T:="bool") rfl PySem.F.slot_bool_hash entry_int_hash (args_int_hash _) (beq_builtin_none _) (.inr (by omega)) ?_
  cases b
  . exact (show wpAny _ _ (do ret (← mkInt 0)) _ _ s from wpAny_bind (wpAny_mkInt (wpAny_pure ⟨_,_,rfl,q⟩)))
  . exact (show wpAny _ _ (do ret (← mkInt 1)) _ _ s from wpAny_bind (wpAny_mkInt (wpAny_pure ⟨_,_,rfl,q⟩)))
 | .node n l r,v,A,s,Q,⟨a,o,k,t,vl,vr,e,g,c,d,hl,hr⟩,hu,q=>by
  subst e
  have qy:A.units+(max l.dep r.dep+1)<cLine:=hu
  refine W.pyHash_slot (T:="tuple") ⟨o,g,c⟩ PySem.F.slot_tuple_hash PySem.F.entry_tuple_hash (PySem.F.args_tuple_hash_1 _) (beq_builtin_none _) (.inr (by omega)) ?_
  show wpAny _ _ (Builtin.Tuple.tupleItemsOf (.ref a) >>= _) _ _ s
  refine wpAny_bind (wpAny_tupleItemsOf g d (wpAny_bind ?_))
  rw [← Array.forIn_toList]
  refine wpAny_forIn_list _ (λrest (b:Array Int) z=>(rest=[.str n t,vl,vr]/\b = #[]/\z=s)\/(rest=[vl,vr]/\b = #[hashStr w n]/\z = { s with toks:=s.toks+1 })\/(rest=[vr]/\b = #[hashStr w n,ja w l]/\z = { s with toks:=s.toks+(1+hU l) })\/(rest=[]/\b = #[hashStr w n,ja w l,ja w r]/\z = { s with toks:=s.toks+(1+hU l+hU r) })) _ ?_ ?_ _ _ (.inl ⟨rfl,rfl,rfl⟩)
  . rintro x rest b z (⟨e1,rfl,rfl⟩ | ⟨e1,rfl,rfl⟩ | ⟨e1,rfl,rfl⟩ | ⟨e1,_⟩)
    . injection e1 with e1 e2
      subst e1 e2
      exact wpAny_bind (wpAny_pyHash_str (wpAny_pure (.inr (.inl ⟨rfl,rfl,rfl⟩))))
    . injection e1 with e1 e2
      subst e1 e2
      exact wpAny_bind (cP.hash l _ _ _ _ hl (by simp only [Around.in1_units]; omega) (wpAny_pure (.inr (.inr (.inl ⟨rfl,rfl,by simp only [Nat.add_assoc]⟩)))))
    . injection e1 with e1 e2
      subst e1 e2
      exact wpAny_bind (cP.hash r _ _ _ _ hr (by simp only [Around.in1_units]; omega) (wpAny_pure (.inr (.inr (.inr ⟨rfl,rfl,by simp only [Nat.add_assoc]⟩)))))
    . cases e1
  . rintro b z (⟨e1,_⟩ | ⟨e1,_⟩ | ⟨e1,_⟩ | ⟨_,rfl,rfl⟩)
    . cases e1
    . cases e1
    . cases e1
    . exact (show wpAny _ _ (retInt _) _ _ _ from wpAny_bind (wpAny_mkInt (wpAny_pure ⟨_,_,rfl,by simpa only [Nat.add_assoc,hU,ja] using q⟩)))
theorem cP.calm:∀(t:Tr) (v:Value) (k:Nat) (A:Around) (s:Shared) (Q:Bool->Shared->Prop),cP s.heap t v->t.dep<=k->Q true s->wpAny (model prog w) A (eqIsQuiet k v) Q E s
 | .leaf b,v,k,A,s,Q,e,_,q=>by
  cases (show v=.bool b from e)
  rw [eqIsQuiet_byValue _ rfl]
  exact wpAny_pure q
 | .node n l r,v,0,A,s,Q,_,hk,_=>absurd hk (Nat.not_succ_le_zero _)
 | .node n l r,v,k+1,A,s,Q,⟨a,o,m,t,vl,vr,e,g,c,d,hl,hr⟩,hk,q=>by
  subst e
  have fq:max l.dep r.dep+1<=k+1:=hk
  have hT:s.TypeIs (.ref a) "tuple":=⟨o,g,c⟩
  unfold eqIsQuiet
  refine wpAny_bind (wpAny_specialOf hT PySem.F.slot_tuple_eq.lookup ?_)
  show wpAny _ _ (isInstance (.ref a) (.type "tuple") >>= _) _ _ s
  refine wpAny_bind (wpAny_isInstance hT isSubtype_tuple_tuple ?_)
  simp only [Bool.not_true,Bool.false_eq_true,if_false]
  refine wpAny_bind (wpAny_seqItems g d (wpAny_bind ?_))
  show wpAny _ _ (forIn #[Value.str n t,vl,vr] _ _) _ _ s
  rw [← Array.forIn_toList]
  refine wpAny_forIn_list _ (λrest x z=>x.1=none/\z=s/\(rest=[.str n t,vl,vr]\/rest=[vl,vr]\/rest=[vr]\/rest=[])) _ ?_ ?_ _ _ ⟨rfl,rfl,.inl rfl⟩
  . rintro x rest b z ⟨hb,rfl,e1 | e1 | e1 | e1⟩
    . injection e1 with e1 e2
      subst e1 e2
      rw [eqIsQuiet_byValue _ rfl]
      refine wpAny_bind (wpAny_pure ?_)
      rw [if_neg (show ¬ (!true)=true by decide)]
      exact wpAny_pure ⟨rfl,rfl,.inr (.inl rfl)⟩
    . injection e1 with e1 e2
      subst e1 e2
      refine wpAny_bind (cP.calm l _ k _ _ _ hl (by omega) ?_)
      rw [if_neg (show ¬ (!true)=true by decide)]
      exact wpAny_pure ⟨rfl,rfl,.inr (.inr (.inl rfl))⟩
    . injection e1 with e1 e2
      subst e1 e2
      refine wpAny_bind (cP.calm r _ k _ _ _ hr (by omega) ?_)
      rw [if_neg (show ¬ (!true)=true by decide)]
      exact wpAny_pure ⟨rfl,rfl,.inr (.inr (.inr rfl))⟩
    . cases e1
  . rintro ⟨r1,r2⟩ z ⟨hb,rfl,_⟩
    simp only at hb
    subst hb
    exact wpAny_pure q
end
def Tr.pd:Tr->PyData
 | .leaf b=>.bool b
 | .node n l r=>.tuple [.str n,l.pd,r.pd]
def Tr.qB:Tr->Prop
 | .leaf _=>True
 | .node n l r=>PyData.strOk n=true/\l.qB/\r.qB
theorem Tr.oR:∀t:Tr,t.qB->t.pd.canLay0=true
 | .leaf _,_=>rfl
 | .node n l r,⟨h1,h2,h3⟩=>by
  rw [Tr.pd,PyData.canLay0]
  refine Cs λd hd=>?_
  have:d=.str n\/d=l.pd\/d=r.pd:=by simpa using hd
  rcases this with rfl | rfl | rfl
  . rw [PyData.canLay0]
    exact h1
  . exact l.oR h2
  . exact r.oR h3
theorem Tr.sO:∀t:Tr,t.pd.depth<=t.dep
 | .leaf _=>Nat.le_refl _
 | .node n l r=>by
  rw [Tr.pd,PyData.depth,Tr.dep]
  have hl:=l.sO
  have hr:=r.sO
  have:PyData.depthAll [.str n,l.pd,r.pd]<=max l.dep r.dep:=Ct λd hd=>by
   have:d=.str n\/d=l.pd\/d=r.pd:=by simpa using hd
   rcases this with rfl | rfl | rfl
   . exact Nat.zero_le _
   . omega
   . omega
  omega
theorem Tr.sP:∀x y:Tr,PyData.eqv x.pd y.pd=decide (x=y)
 | .leaf a,.leaf b=>by
  rw [Tr.pd,Tr.pd,PyData.eqv,Bool.eq_iff_iff,decide_eq_true_eq]
  simp
 | .leaf _,.node ..=>by rw [decide_eq_false (by intro z; cases z)]; rfl
 | .node ..,.leaf _=>by rw [decide_eq_false (by intro z; cases z)]; rfl
 | .node n l r,.node n' l' r'=>by
  rw [Tr.pd,Tr.pd,PyData.eqv]
  have h1:=Tr.sP l l'
  have h2:=Tr.sP r r'
  have h3:PyData.eqv (.str n) (.str n')=decide (n=n'):=by rw [PyData.eqv,Bool.eq_iff_iff,decide_eq_true_eq]; simp
  simp only [PyData.eqvAll,h1,h2,h3,Bool.and_true]
  rw [Bool.eq_iff_iff]
  simp
theorem cP.reads {h:Heap} : ∀{t:Tr}{v:Value},cP h t v->∃as,Reads h v t.pd as
 | .leaf b,v,e=>by cases (show v=.bool b from e); exact ⟨_,.bool b⟩
 | .node ..,_,⟨a,o,k,t,vl,vr,e,g,c,d,hl,hr⟩=>by
  subst e
  obtain ⟨as,ra⟩:=hl.reads
  obtain ⟨bs,rb⟩:=hr.reads
  exact ⟨_,.tuple g c d (.cons (.str _ _) (.cons ra (.cons rb .nil)))⟩
def lE (prog:Program) (w:World):HeapKind prog w Tr where
 is:=λh t a=>cP h t (.ref a)/\t.dep<=8/\t.qB
 hash:=ja w
 draws:=hU
 room:=λA=>A.units+16<cLine
 inj:=λhx hy=>hx.1.inj hy.1
 keeps:=λhk g d sb=>by
  refine ⟨hk.1.keep λa o its n ga _ da=>sb.extBut a o (λe=>?_) ga,hk.2⟩
  subst e
  rw [ga] at g
  injection g with eo
  subst eo
  rw [da] at d
  cases d
 pyHash:=λ{A E s k a Q} hu hk q=>cP.hash k (.ref a) A s Q hk.1 (by have:=hk.2.1; omega) q
 eqBool:=λ{A E s x y a b Q} hu hx hy q=>by
  obtain ⟨as,ra⟩:=hx.1.reads
  obtain ⟨bs,rb⟩:=hy.1.reads
  have d1:=x.sO
  have h8:=hx.2.1
  have z:=SeqAt.eqAt_reads x.pd y.pd A s _ _ as bs ra rb (x.oR hx.2.2) (y.oR hy.2.2) (by omega)
  rw [Tr.sP] at z
  exact z prog w E Q q
 quiet:=λ{A E s k a Q} hk q=>cP.calm k (.ref a) 8 A s Q hk.1 hk.2.1 q
end L2
namespace L2
open PySem PySem.Spec PyProof.Rows
def eu (L:List (Tr×Addr×V)) (t:Tr):Option V:=(L.find? λp=>decide (p.1=t)).map (·.2.2)
abbrev nO (L:List (Tr×Addr×V)) (vs:List (Tr×Addr×Value)):Prop:=Paired (λp q=>p.1=q.1/\p.2.1=q.2.1/\RelV p.2.2 q.2.2) L vs
def Bf (P:Program) (w:World) (a:Addr) (L:List (Tr×Addr×V)) (h:Heap):Prop:=
 L.length<=sizeLine/\(a == sysModules)=false/\∃vs,nO L vs/\∃o es ep,h.get? a=some o/\o.ExactDict/\o.data=.dict es ep/\es.toList=vs.map (entryOfKey (lE P w))/\(vs.map (·.1)).Nodup
def fv (P:Program) (w:World) (a:Addr) (L:List (Tr×Addr×V)):HO:=.ext (Bf P w a L)
theorem yM {P:Program}{w:World}{H:Hp}{h:Heap}{a:Addr}{L:List (Tr×Addr×V)}(x:Bf P w a L h):bh P w H h a (fv P w a L):=by
 refine ⟨x,?_,λh1 h2 y k=>?_⟩
 . obtain ⟨_,_,vs,_,o,_,_,g,_⟩:=x
   exact ⟨o,g⟩
 . obtain ⟨y0,y1,vs,y2,o,es,ep,g,r⟩:=y
   exact ⟨y0,y1,vs,y2,o,es,ep,k o g,r⟩
def aZ (H:Hp):Tr->V->Prop
 | .leaf b,v=>v=.bl b
 | .node n l r,v=>∃a vl vr,v=.ref a/\H a=some (.tup [.str n,vl,vr])/\aZ H l vl/\aZ H r vr
theorem aZ.keep {H H':Hp}(k:∀a xs,H a=some (.tup xs)->H' a=some (.tup xs)):∀{t:Tr}{v:V},aZ H t v->aZ H' t v
 | .leaf _,_,e=>e
 | .node ..,_,⟨a,vl,vr,e,g,hl,hr⟩=>⟨a,vl,vr,e,k _ _ g,hl.keep k,hr.keep k⟩
theorem aZ.at {P:Program}{w:World}{H:Hp}{h:Heap}(ok:cN P w H h):∀{t:Tr}{v:V}{u:Value},aZ H t v->RelV v u->cP h t u
 | .leaf b,v,u,e,r=>by
  cases (show v=.bl b from e)
  exact r
 | .node n l r,v,u,⟨a,vl,vr,e,g,hl,hr⟩,ru=>by
  subst e
  cases (show u=.ref a from ru)
  obtain ⟨_,its,rv,o,h1,h2,k,h3⟩:=(show bh P w H h a (.tup [.str n,vl,vr]) from ok a _ g)
  cases rv with
  | cons r1 rv=>
   cases rv with
   | cons r2 rv=>
    cases rv with
    | cons r3 rv=>
     cases rv
     obtain ⟨t,rfl⟩:=r1
     exact ⟨a,o,k,t,_,_,rfl,h1,h2,h3,hl.at ok r2,hr.at ok r3⟩
structure eP (H:Hp) (t:Tr) (b:Addr):Prop where
 at_:aZ H t (.ref b)
 d8:t.dep<=8
 sk:t.qB
theorem eP.keep {H H':Hp}{t:Tr}{b:Addr}(h:eP H t b) (k:∀a xs,H a=some (.tup xs)->H' a=some (.tup xs)):eP H' t b:=⟨h.at_.keep k,h.d8,h.sk⟩
theorem nO.len {L:List (Tr×Addr×V)}{vs:List (Tr×Addr×Value)}(r:nO L vs):L.length=vs.length:=Paired.length r
theorem nO.look {L:List (Tr×Addr×V)}{vs:List (Tr×Addr×Value)}(r:nO L vs) (t:Tr):dm (eu L t) ((atKey vs t).map (·.2)):=by
 unfold eu atKey
 induction r with
 | nil=>exact True.intro
 | @cons p q ps qs h _ ih=>
  by_cases e:p.1=t
  . rw [List.find?_cons_of_pos (by simpa using e),List.find?_cons_of_pos (by simpa using h.1.symm.trans e)]
    exact h.2.2
  . rw [List.find?_cons_of_neg (by simpa using e),List.find?_cons_of_neg (by simpa using λz=>e (h.1.trans z))]
    exact ih
theorem Bg {P:Program}{w:World}{H:Hp}{h:Heap}{a:Addr}{L:List (Tr×Addr×V)}(ok:cN P w H h) (e:H a=some (fv P w a L)) (hk:∀p∈L,eP H p.1 p.2.1) :
 L.length<=sizeLine/\(a == sysModules)=false/\∃vs,nO L vs/\h.DictOfH (lE P w) a vs:=by
 obtain ⟨⟨y0,y1,vs,y2,o,es,ep,g,x1,x2,x3,x4⟩,_⟩:=(show bh P w H h a (.ext (Bf P w a L)) from ok a _ e)
 refine ⟨y0,y1,vs,y2,o,es,ep,g,x1,x2,x3,λx hx=>?_,x4⟩
 have all:∀{l:List (Tr×Addr×V)}{m:List (Tr×Addr×Value)},nO l m->(∀p∈l,eP H p.1 p.2.1)->∀x∈m,(lE P w).is h x.1 x.2.1:=by
  intro l m q
  induction q with
  | nil=>intro _ x hx; exact nomatch hx
  | @cons p q ps qs hq _ ih=>
   intro hk x hx
   rcases List.mem_cons.mp hx with e | hx
   . subst e
     have:=hk p List.mem_cons_self
     rw [hq.1,hq.2.1] at this
     exact ⟨this.at_.at ok rfl,this.d8,this.sk⟩
   . exact ih (λp h=>hk p (List.mem_cons_of_mem _ h)) x hx
 exact all y2 hk x hx
section
variable {X:Cx}{o i value e:Expr}{pos pos' apos d4:Pos}{td ty tv:TE}
def G5 (P:Program) (w:World):TE:=λ_ H Q=>∀p,H p=none->Q (.ref p) (upd H p (fv P w p []))
theorem sQ:PE X (.Dict [] [] pos) (G5 X.prog X.w):=λpins s σ H Q I h=>
 wpAny_Dict_empty ⟨.ref s.heap.objs.size,_,I.laid (a:=s.heap.objs.size) (o:=fv X.prog X.w s.heap.objs.size []) (t':=s.toks) (λ_ _ q=>Heap.get?_push_of_some _ q) (Nat.le_refl _)
  (yM ⟨Nat.zero_le _,beq_eq_false_iff_ne.mpr (Ne.symm (Nat.ne_of_lt I.big)),[],.nil,_,#[],0,Heap.get?_push_size _ rfl,⟨rfl,rfl,rfl⟩,rfl,rfl,List.nodup_nil⟩),rfl,h _ (I.hok.fresh (Nat.le_refl _))⟩
def G6 (P:Program) (w:World) (td ty:TE):TE:=λσ H Q=>td σ H λx H1=>∃a L,x=.ref a/\H1 a=some (fv P w a L)/\ty σ H1 λy H2=>∃t b,y=.ref b/\H2 a=some (fv P w a L)/\eP H2 t b/\(∀p∈L,eP H2 p.1 p.2.1)/\Q ((eu L t).getD .aS) H2
theorem vG (hu:X.A.units+17<cLine) (ho:PE X o td) (he:PE X e ty) (m:M1 X o "get" apos e d4):PE X (.Call (.Attribute o "get" apos) [e] [] d4) (G6 X.prog X.w td ty):=by
 intro pins s σ H Q I h
 refine wpAny_Call_method m.base m.ou m.line PySem.F.plainAttrs_dict PySem.F.slot_dict_get PySem.F.type_dict_get (aG (ho pins s σ H _ I h) λu s1 ⟨x,H1,I1,rx,a,L,ex,ea,q1⟩=>?_)
 subst ex
 obtain rfl:u=Value.ref a:=rx
 obtain ⟨⟨_,y1,vs,_,ob,es,ep,g,x1,_⟩,_⟩:=(show bh X.prog X.w H1 s1.heap a (.ext (Bf X.prog X.w a L)) from I1.hok a _ ea)
 refine ⟨⟨ob,g,x1.1⟩,λb q=>by cases q; exact ⟨ob,g,x1.2.1⟩,?_⟩
 rw [m.trees]
 refine Calls.callWith_builtin rfl (Calls.evalArgs_plain (Calls.spliced_cons (aG (he pins s1 σ H1 _ I1 q1) λiv s2 ⟨y,H2,I2,ry,t,b,ey,OR,kt,kl,q2⟩=>Calls.spliced_nil ?_)))
 subst ey
 cases (show iv=Value.ref b from ry)
 obtain ⟨_,hd,ws,rel,dd⟩:=Bg I2.hok OR kl
 refine call_meetsIn PySem.F.slot_dict_get dd.typeIs PySem.F.entry_dict_get (PySem.F.args_dict_get_2 _ _) (meetsH_dict_get (lE X.prog X.w) a b hd) ⟨(show X.A.in1.units+16<cLine by simp only [Around.in1_units]; omega),t,ws,⟨kt.at_.at I2.hok rfl,kt.d8,kt.sk⟩,dd,⟨_,H2,I2.tok _,?_,q2⟩⟩
 exact (rel.look t).getD rfl
def G7 (P:Program) (w:World) (td ty tv:TE):TS:=λD σ H=>tv σ H λv H1=>td σ H1 λx H2=>ty σ H2 λy H3=>∃a L t b,x=.ref a/\y=.ref b/\H3 a=some (fv P w a L)/\eP H3 t b/\(∀p∈L,eP H3 p.1 p.2.1)/\eu L t=none/\L.length<sizeLine/\D.nx σ (upd H3 a (fv P w a (L++[(t,b,v)])))
theorem vH (hu:X.A.units+17<cLine) (ho:PE X o td) (hi:PE X i ty) (hv:PE X value tv) (hs:swapsWith value (some (.Subscript o i pos')) pos.line X.env=pure false) :
 PS X (.Assign [.Subscript o i pos'] value pos) (G7 X.prog X.w td ty tv):=by
 intro pins s σ H D I h
 refine wpAny_Assign_Subscript (aG (hv pins s σ H _ I h) λr s1 ⟨v,H1,I1,rv,q1⟩=>aG (ho pins s1 σ H1 _ I1 q1) λu s2 ⟨x,H2,I2,rx,q2⟩=>aG (hi pins s2 σ H2 _ I2 q2) λiv s3 ⟨y,H3,I3,ry,a,L,t,b,ex,ey,ea,kt,kl,hn,hl,q3⟩=>?_) hs
 subst ex ey
 obtain rfl:u=Value.ref a:=rx
 cases (show iv=Value.ref b from ry)
 obtain ⟨hz,hd,ws,rel,dd⟩:=Bg I3.hok ea kl
 have Ed:atKey ws t=none:=by
  have:=rel.look t
  rw [hn] at this
  cases e:atKey ws t with
  | none=>rfl
  | some p=>rw [e] at this; exact this.elim
 refine wpAny_setItem_heap (hsz:=by rw [← rel.len]; exact hz) (show X.A.in1.units+16<cLine by simp only [Around.in1_units]; omega) (show (lE X.prog X.w).is _ t b from ⟨kt.at_.at I3.hok rfl,kt.d8,kt.sk⟩) dd λh' om sb=>?_
 obtain ⟨q,es,ep,g,x1,x2,x3,_,x5⟩:=om
 rw [storedH_new Ed] at x3 x5
 refine ⟨σ,_,lX I3 (by rw [ea]; exact True.intro) sb ⟨q,g⟩ (yM ⟨by rw [List.length_append]; exact hl,hd,ws++[(t,b,r)],Paired.snoc rel ⟨rfl,rfl,rv⟩,q,es,ep,g,x1,x2,x3,x5⟩),q3⟩
end
end L2
namespace Gen
open PySem L2
theorem hV {α β:Type}{F:α->β->Prop} : ∀{jP:List α}{kU:List β}{i:Nat}{b:β},Paired F jP kU->kU[i]?=some b->∃a,jP[i]?=some a/\F a b
 | _,_,i,b,.nil,h=>by simp at h
 | _,_,0,b,.cons h t,e=>⟨_,rfl,by simpa using (show _=_ from Option.some.inj e) ▸ h⟩
 | _,_,i+1,b,.cons h t,e=>let ⟨a,h1,h2⟩:=hV t (i:=i) (b:=b) (by simpa using e); ⟨a,by simpa using h1,h2⟩
theorem dJ {α β:Type}{F:α->β->Prop} : ∀{jP m₁:List α}{kU m₂:List β},Paired F jP kU->Paired F m₁ m₂->Paired F (jP++m₁) (kU++m₂)
 | _,_,_,_,.nil,h=>h
 | _,_,_,_,.cons a t,h=>.cons a (dJ t h)
def ev (e:Str->Bool):Tr->Bool
 | .leaf b=>b
 | .node n l r=>if e n then ev e r else ev e l
inductive cg:List Str->Tr->Prop
 | leaf (ns:List Str) (b:Bool):cg ns (.leaf b)
 | node {n:Str}{r:List Str}{l h:Tr} : l≠h->cg r l->cg r h->cg (n::r) (.node n l h)
 | skip {n:Str}{r:List Str}{t:Tr} : cg r t->cg (n::r) t
def put (e:Str->Bool) (n:Str) (b:Bool):Str->Bool:=λz=>if z=n then b else e z
theorem hX {ns:List Str}{t:Tr}(h:cg ns t){n:Str}(hn:n∉ns) (e:Str->Bool) (b:Bool):ev (put e n b) t=ev e t:=by
 induction h with
 | leaf=>rfl
 | @node k r l h _ _ _ OS OT=>
  rw [List.mem_cons,not_or] at hn
  unfold ev
  rw [OS hn.2,OT hn.2]
  have:put e n b k=e k:=if_neg λq=>hn.1 q.symm
  rw [this]
 | @skip k r t _ ih=>
  rw [List.mem_cons,not_or] at hn
  exact ih hn.2
theorem fw:∀{ns:List Str}{t t':Tr},ns.Nodup->cg ns t->cg ns t'->(∀e,ev e t=ev e t')->t=t'
 | [],_,_,_,.leaf _ a,.leaf _ b,h=>by rw [show a=b from h λ_=>true]
 | n::r,t,t',hn,h1,h2,h=>by
  rw [List.nodup_cons] at hn
  have split:∀{l u x:Tr},cg r l->cg r u->cg r x->(∀e,ev e (.node n l u)=ev e x)->l=u:=λ{l u x} cl cu cx hh=>by
   have e1:l=x:=fw hn.2 cl cx λe=>by
    have:=hh (put e n false)
    rw [hX cx hn.1] at this
    rw [← this,ev,show put e n false n=false from if_pos rfl,if_neg (by decide),hX cl hn.1]
   have e2:u=x:=fw hn.2 cu cx λe=>by
    have:=hh (put e n true)
    rw [hX cx hn.1] at this
    rw [← this,ev,show put e n true n=true from if_pos rfl,if_pos rfl,hX cu hn.1]
   rw [e1,e2]
  have both:∀{l u l' u':Tr},cg r l->cg r u->cg r l'->cg r u'->(∀e,ev e (.node n l u)=ev e (.node n l' u'))->l=l'/\u=u':=λ{l u l' u'} cl cu vI Bh hh=>by
   refine ⟨fw hn.2 cl vI λe=>?_,fw hn.2 cu Bh λe=>?_⟩
   . have:=hh (put e n false)
     rw [ev,ev,show put e n false n=false from if_pos rfl,if_neg (by decide),if_neg (by decide),hX cl hn.1,hX vI hn.1] at this
     exact this
   . have:=hh (put e n true)
     rw [ev,ev,show put e n true n=true from if_pos rfl,if_pos rfl,if_pos rfl,hX cu hn.1,hX Bh hn.1] at this
     exact this
  cases h1 with
  | leaf _ a=>
   cases h2 with
   | leaf _ b=>rw [show a=b from h λ_=>true]
   | node ne cl cu=>exact absurd (split cl cu (.leaf r a) λe=>(h e).symm) ne
   | skip c=>exact fw hn.2 (.leaf r a) c h
  | node ne cl cu=>
   cases h2 with
   | leaf _ b=>exact absurd (split cl cu (.leaf r b) h) ne
   | node ne' vI Bh=>
    obtain ⟨q1,q2⟩:=both cl cu vI Bh h
    rw [q1,q2]
   | skip c=>exact absurd (split cl cu c h) ne
  | skip c=>
   cases h2 with
   | leaf _ b=>exact fw hn.2 c (.leaf r b) h
   | node ne cl cu=>exact absurd (split cl cu c λe=>(h e).symm) ne
   | skip c'=>exact fw hn.2 c c' h
theorem cI {ns:List Str}{t:Tr}(h:cg ns t):t.dep<=ns.length:=by
 induction h with
 | leaf=>exact Nat.zero_le _
 | node _ _ _ i1 i2=>unfold Tr.dep; rw [List.length_cons]; omega
 | skip _ i=>rw [List.length_cons]; omega
theorem vJ {ns:List Str}{t:Tr}(h:cg ns t) (hs:∀n∈ns,PyData.strOk n=true):t.qB:=by
 induction h with
 | leaf=>exact True.intro
 | node _ _ _ i1 i2=>exact ⟨hs _ List.mem_cons_self,i1 λn h=>hs n (List.mem_cons_of_mem _ h),i2 λn h=>hs n (List.mem_cons_of_mem _ h)⟩
 | skip _ i=>exact i λn h=>hs n (List.mem_cons_of_mem _ h)
theorem Ee {a b:List Str}{t:Tr}(h:cg b t):cg (a++b) t:=by
 induction a with
 | nil=>exact h
 | cons n a ih=>exact .skip ih
theorem fk {ns:List Str}{i j:Nat}{t:Tr}(h:cg (ns.drop j) t) (R9:i<=j):cg (ns.drop i) t:=by
 have e:ns.drop j=(ns.drop i).drop (j-i):=by rw [List.drop_drop]; congr 1; omega
 rw [e] at h
 rw [← List.take_append_drop (j-i) (ns.drop i)]
 exact Ee h
def neg:Tr->Tr
 | .leaf b=>.leaf (!b)
 | .node n l r=>.node n (neg l) (neg r)
theorem neg_neg:∀t,neg (neg t)=t
 | .leaf b=>by show Tr.leaf (!!b)=.leaf b; rw [Bool.not_not]
 | .node n l r=>by rw [neg,neg,neg_neg l,neg_neg r]
theorem Cu {ns:List Str}{t:Tr}(h:cg ns t):cg ns (neg t):=by
 induction h with
 | leaf=>exact .leaf _ _
 | node ne _ _ i1 i2=>exact .node (λq=>ne (by have:=congrArg neg q; rwa [neg_neg,neg_neg] at this)) i1 i2
 | skip _ i=>exact .skip i
theorem sR (e:Str->Bool):∀t,ev e (neg t) = !ev e t
 | .leaf b=>rfl
 | .node n l r=>by
  rw [neg,ev,ev,sR e l,sR e r]
  cases e n <;> rfl
abbrev Nd:=Nat×Nat×Nat
def aD (N:List Nd) (i:Nat):Nat:=(N.getD i (0,0,0)).1
def low (N:List Nd) (i:Nat):Nat:=(N.getD i (0,0,0)).2.1
def fX (N:List Nd) (i:Nat):Nat:=(N.getD i (0,0,0)).2.2
def aE (TS:List Tr) (i:Nat):Tr:=TS.getD i (.leaf false)
structure FS (names:List Str) (N:List Nd) (TS:List Tr):Prop where
 len:N.length=TS.length
 two:2<=N.length
 z0:N.getD 0 (0,0,0)=(names.length,0,0)
 z1:N.getD 1 (0,0,0)=(names.length,1,1)
 t0:aE TS 0=.leaf false
 t1:aE TS 1=.leaf true
 nd:∀i,2<=i->i<N.length->aD N i<names.length/\low N i<i/\fX N i<i/\low N i≠fX N i/\aD N i<aD N (low N i)/\aD N i<aD N (fX N i)/\aE TS i=.node (names.getD (aD N i) "") (aE TS (low N i)) (aE TS (fX N i))
 uq:∀i j,2<=i->2<=j->i<N.length->j<N.length->N.getD i (0,0,0)=N.getD j (0,0,0)->i=j
section
variable {names:List Str}{N:List Nd}{TS:List Tr}
theorem FS.inj (h:FS names N TS) (hn:names.Nodup):∀i j,i<N.length->j<N.length->aE TS i=aE TS j->i=j:=by
 intro i
 induction i using Nat.strongRecOn with
 | ind i ih=>
  intro j hi hj e
  have qZ:∀k,k<2->aE TS k=.leaf (decide (k=1)):=λk hk=>by
   rcases (show k=0\/k=1 by omega) with rfl | rfl
   . exact h.t0
   . exact h.t1
  by_cases i2:i<2
  . by_cases j2:j<2
    . rw [qZ i i2,qZ j j2] at e
      injection e with e
      rcases (show i=0\/i=1 by omega) with rfl | rfl <;> rcases (show j=0\/j=1 by omega) with rfl | rfl <;> first | rfl | (revert e; decide)
    . rw [qZ i i2,(h.nd j (by omega) hj).2.2.2.2.2.2] at e
      cases e
  . by_cases j2:j<2
    . rw [qZ j j2,(h.nd i (by omega) hi).2.2.2.2.2.2] at e
      cases e
    . obtain ⟨a1,a2,a3,_,_,_,a7⟩:=h.nd i (by omega) hi
      obtain ⟨b1,b2,b3,_,_,_,b7⟩:=h.nd j (by omega) hj
      rw [a7,b7] at e
      injection e with e1 e2 e3
      have q2:=ih _ a2 _ (by omega) (by omega) e2
      have q3:=ih _ a3 _ (by omega) (by omega) e3
      have q1:aD N i=aD N j:=by
       rw [List.getD_eq_getElem?_getD,List.getD_eq_getElem?_getD,List.getElem?_eq_getElem a1,List.getElem?_eq_getElem b1] at e1
       exact (List.getElem_inj hn).mp e1
      refine h.uq i j (by omega) (by omega) hi hj ?_
      exact Prod.ext q1 (Prod.ext q2 q3)
theorem FS.NQ (h:FS names N TS){i:Nat}(hi:i<N.length):aD N i<=names.length:=by
 by_cases i2:i<2
 . unfold aD
   rcases (show i=0\/i=1 by omega) with rfl | rfl
   . rw [h.z0]
     exact Nat.le_refl _
   . rw [h.z1]
     exact Nat.le_refl _
 . exact Nat.le_of_lt (h.nd i (by omega) hi).1
theorem FS.Jg (h:FS names N TS) (hn:names.Nodup):∀i,i<N.length->cg (names.drop (aD N i)) (aE TS i):=by
 intro i
 induction i using Nat.strongRecOn with
 | ind i ih=>
  intro hi
  by_cases i2:i<2
  . rcases (show i=0\/i=1 by omega) with rfl | rfl
    . rw [h.t0]
      exact .leaf _ _
    . rw [h.t1]
      exact .leaf _ _
  . obtain ⟨a1,a2,a3,a4,a5,a6,a7⟩:=h.nd i (by omega) hi
    rw [a7,List.drop_eq_getElem_cons a1,List.getD_eq_getElem?_getD,List.getElem?_eq_getElem a1]
    refine .node (λq=>a4 (h.inj hn _ _ (by omega) (by omega) q)) (fk (ih _ a2 (by omega)) a5) (fk (ih _ a3 (by omega)) a6)
theorem j5 {α:Type}{l m:List α}{d:α}{i:Nat}(h:i<l.length):(l++m).getD i d=l.getD i d:=by
 rw [List.getD_eq_getElem?_getD,List.getD_eq_getElem?_getD,List.getElem?_append_left h]
theorem j6 {α:Type}{l:List α}{x d:α} : (l++[x]).getD l.length d=x:=by
 rw [List.getD_eq_getElem?_getD,List.getElem?_append_right (Nat.le_refl _),Nat.sub_self]
 rfl
theorem FS.push (h:FS names N TS){s l u:Nat}(hs:s<names.length) (hl:l<N.length) (hu:u<N.length) (ne:l≠u) (s1:s<aD N l) (s2:s<aD N u) (d5:∀i,2<=i->i<N.length->N.getD i (0,0,0)≠(s,l,u)) :
 FS names (N++[(s,l,u)]) (TS++[.node (names.getD s "") (aE TS l) (aE TS u)]):=by
 have h2:=h.two
 have hlen:=h.len
 have gq:∀i,i<N.length->(N++[(s,l,u)]).getD i (0,0,0)=N.getD i (0,0,0):=λi hi=>j5 hi
 have nP:∀i,i<N.length->aE (TS++[.node (names.getD s "") (aE TS l) (aE TS u)]) i=aE TS i:=λi hi=>j5 (by omega)
 have sS:(N++[(s,l,u)]).getD N.length (0,0,0)=(s,l,u):=j6
 refine ⟨by rw [List.length_append,List.length_append,hlen]; rfl,by rw [List.length_append]; omega,by rw [gq 0 (by omega)]; exact h.z0,by rw [gq 1 (by omega)]; exact h.z1,by rw [nP 0 (by omega)]; exact h.t0,by rw [nP 1 (by omega)]; exact h.t1,λi i2 hi=>?_,λi j i2 j2 hi hj e=>?_⟩
 . rw [List.length_append,List.length_singleton] at hi
   by_cases q:i<N.length
   . obtain ⟨a1,a2,a3,a4,a5,a6,a7⟩:=h.nd i i2 q
     have e1:aD (N++[(s,l,u)]) i=aD N i:=by unfold aD; rw [gq i q]
     have e2:low (N++[(s,l,u)]) i=low N i:=by unfold low; rw [gq i q]
     have e3:fX (N++[(s,l,u)]) i=fX N i:=by unfold fX; rw [gq i q]
     have e4:aD (N++[(s,l,u)]) (low N i)=aD N (low N i):=by unfold aD; rw [gq _ (by omega)]
     have e5:aD (N++[(s,l,u)]) (fX N i)=aD N (fX N i):=by unfold aD; rw [gq _ (by omega)]
     rw [e1,e2,e3,e4,e5,nP i q,nP _ (by omega),nP _ (by omega)]
     exact ⟨a1,a2,a3,a4,a5,a6,a7⟩
   . have ei:i=N.length:=by omega
     subst ei
     have e1:aD (N++[(s,l,u)]) N.length=s:=by unfold aD; rw [sS]
     have e2:low (N++[(s,l,u)]) N.length=l:=by unfold low; rw [sS]
     have e3:fX (N++[(s,l,u)]) N.length=u:=by unfold fX; rw [sS]
     have e4:aD (N++[(s,l,u)]) l=aD N l:=by unfold aD; rw [gq _ hl]
     have e5:aD (N++[(s,l,u)]) u=aD N u:=by unfold aD; rw [gq _ hu]
     rw [e1,e2,e3,e4,e5,nP _ hl,nP _ hu]
     refine ⟨hs,hl,hu,ne,s1,s2,?_⟩
     rw [hlen]
     exact j6
 . rw [List.length_append,List.length_singleton] at hi hj
   by_cases qi:i<N.length
   . by_cases qj:j<N.length
     . rw [gq i qi,gq j qj] at e
       exact h.uq i j i2 j2 qi qj e
     . rw [gq i qi,show j=N.length by omega,sS] at e
       exact absurd e (d5 i i2 qi)
   . by_cases qj:j<N.length
     . rw [gq j qj,show i=N.length by omega,sS] at e
       exact absurd e.symm (d5 j j2 qj)
     . omega
end
end Gen
namespace Gen
open PySem L2
abbrev me:Stmt:=inClass (top 7) 1
abbrev mf:Stmt:=inClass (top 7) 6
structure fZ (mg:Str->Option Value):Prop where
 len:mg "len" = none
 list:mg "list" = none
 dict:mg "dict" = none
 tuple:mg "tuple" = none
 str:mg "str" = none
 int:mg "int" = none
 bool:mg "bool" = none
 zip:mg "zip" = none
 isi:mg "isinstance" = none
 min:mg "min" = none
 rev:mg "reversed" = none
structure il (K:W.Frag) (mg:Str->Option Value) (C:Addr):Prop where
 cl:lg K C
 n1:de K C "names"
 n2:de K C "spots"
 n3:de K C "nodes"
 n4:de K C "known"
 n5:de K C "choices"
 n6:de K C "imported"
 n7:de K C "exported"
 mgC:mg "Forest" = some (.ref C)
def cF (nm sp nd kn ch im ex:Addr):List (Str×V):=aw "exported" (.ref ex) (aw "imported" (.ref im) (aw "choices" (.ref ch) (aw "known" (.ref kn) (aw "nodes" (.ref nd) (aw "spots" (.ref sp) (aw "names" (.ref nm) []))))))
section
variable (nm sp nd kn ch im ex:Addr)
theorem Ld:(cF nm sp nd kn ch im ex).lookup ("names" : Str)=some (.ref nm):=by
 unfold cF
 rw [aq,if_neg (by decide +kernel),aq,if_neg (by decide +kernel),aq,if_neg (by decide +kernel),aq,if_neg (by decide +kernel),aq,if_neg (by decide +kernel),aq,if_neg (by decide +kernel),aq,if_pos rfl]
theorem Le:(cF nm sp nd kn ch im ex).lookup ("spots" : Str)=some (.ref sp):=by
 unfold cF
 rw [aq,if_neg (by decide +kernel),aq,if_neg (by decide +kernel),aq,if_neg (by decide +kernel),aq,if_neg (by decide +kernel),aq,if_neg (by decide +kernel),aq,if_pos rfl]
theorem nQ:(cF nm sp nd kn ch im ex).lookup ("nodes" : Str)=some (.ref nd):=by
 unfold cF
 rw [aq,if_neg (by decide +kernel),aq,if_neg (by decide +kernel),aq,if_neg (by decide +kernel),aq,if_neg (by decide +kernel),aq,if_pos rfl]
theorem Ef:(cF nm sp nd kn ch im ex).lookup ("known" : Str)=some (.ref kn):=by
 unfold cF
 rw [aq,if_neg (by decide +kernel),aq,if_neg (by decide +kernel),aq,if_neg (by decide +kernel),aq,if_pos rfl]
theorem Eg:(cF nm sp nd kn ch im ex).lookup ("choices" : Str)=some (.ref ch):=by
 unfold cF
 rw [aq,if_neg (by decide +kernel),aq,if_neg (by decide +kernel),aq,if_pos rfl]
theorem Eh:(cF nm sp nd kn ch im ex).lookup ("imported" : Str)=some (.ref im):=by
 unfold cF
 rw [aq,if_neg (by decide +kernel),aq,if_pos rfl]
theorem Ei:(cF nm sp nd kn ch im ex).lookup ("exported" : Str)=some (.ref ex):=by
 unfold cF
 rw [aq,if_pos rfl]
theorem lF {m:Str}(h1:m ≠ "names") (h2:m ≠ "spots") (h3:m ≠ "nodes") (h4:m ≠ "known") (h5:m ≠ "choices") (h6:m ≠ "imported") (h7:m ≠ "exported"):(cF nm sp nd kn ch im ex).lookup m=none:=by
 unfold cF
 rw [aq,if_neg h7,aq,if_neg h6,aq,if_neg h5,aq,if_neg h4,aq,if_neg h3,aq,if_neg h2,aq,if_neg h1]
 rfl
end
theorem bw {b:Bool}{A B:Prop}(h:b=false) (k:B):if b=true then A else B:=by rw [h]; exact jl k
theorem cb {b:Bool}{A B:Prop}(h:b=true) (k:A):if b=true then A else B:=by rw [h]; exact nB k
def eW:Nat->List Str->List (Key×V)
 | _,[]=>[]
 | i,n::r=>(.inr n,.int (i:Int))::eW (i+1) r
theorem yN:∀(names:List Str) (i j:Nat) (z:Str),names.Nodup->names[j]?=some z->aX (eW i names) (.inr z)=some (V.int ((i+j:Nat):Int))
 | [],_,_,_,_,h=>by simp at h
 | n::r,i,0,z,_,h=>by
  have e:n=z:=by simpa using h
  subst e
  rw [eW,bU rfl]
  rfl
 | n::r,i,j+1,z,hn,h=>by
  have h2:r[j]?=some z:=by simpa using h
  have hz:z≠n:=λe=>(List.nodup_cons.mp hn).1 (e ▸ List.mem_of_getElem? h2)
  rw [eW,bJ (λq=>hz (Sum.inr.inj q).symm),yN r (i+1) j z (List.nodup_cons.mp hn).2 h2,show i+1+j=i+(j+1) by omega]
def eO (p:Nd):List V:=[.int (p.1:Int),.int (p.2.1:Int),.int (p.2.2:Int)]
def hZ (p:Nd):List Key:=[.inl (p.1:Int),.inl (p.2.1:Int),.inl (p.2.2:Int)]
theorem pP {p q:Nd}(h:hZ p=hZ q):p=q:=by
 unfold hZ at h
 simp only [List.cons.injEq,Sum.inl.injEq,and_true] at h
 obtain ⟨h1,h2,h3⟩:=h
 exact Prod.ext (by omega) (Prod.ext (by omega) (by omega))
def eK:Nat->List Nd->List (List Key×V)
 | _,[]=>[]
 | i,p::r=>(hZ p,.int (i:Int))::eK (i+1) r
theorem vK:∀(l:List Nd) (i:Nat),(eK i l).length=l.length
 | [],_=>rfl
 | _::r,i=>by rw [eK,List.length_cons,List.length_cons,vK r]
theorem vL:∀(a b:List Nd) (i:Nat),eK i (a++b)=eK i a++eK (i+a.length) b
 | [],b,i=>rfl
 | p::r,b,i=>by rw [List.cons_append,eK,eK,vL r b (i+1),List.cons_append,List.length_cons,show i+1+r.length=i+(r.length+1) by omega]
theorem sU:∀(l:List Nd) (i:Nat) (p:Nd),aX (eK i l) (hZ p)=none->p∉l
 | [],_,_,_=>List.not_mem_nil
 | q::r,i,p,h=>by
  by_cases e:q=p
  . rw [e,eK,bU rfl] at h
    cases h
  . rw [eK,bJ (λz=>e (pP z))] at h
    rw [List.mem_cons,not_or]
    exact ⟨λz=>e z.symm,sU r (i+1) p h⟩
theorem sV:∀(l:List Nd) (i:Nat) (p:Nd) (v:V),aX (eK i l) (hZ p)=some v->∃j,l[j]?=some p/\v=.int ((i+j:Nat):Int)
 | [],_,_,_,h=>nomatch h
 | q::r,i,p,v,h=>by
  by_cases e:q=p
  . rw [e,eK,bU rfl] at h
    exact ⟨0,by rw [e]; rfl,(Option.some.inj h).symm⟩
  . rw [eK,bJ (λz=>e (pP z))] at h
    obtain ⟨j,h1,h2⟩:=sV r (i+1) p v h
    exact ⟨j+1,by simpa using h1,by rw [h2,show i+1+j=i+(j+1) by omega]⟩
structure di where
 N:List Nd
 TS:List Tr
 ts:List Addr
 CH:List (List Key×V)
 IM:List (Tr×Addr×V)
 EX:List (Key×V)
def nS (N:List Nd) (TS:List Tr) (e:List Key×V):Prop:=∃t h l n:Nat,e.1=[.inl (t:Int),.inl (h:Int),.inl (l:Int)]/\e.2=.int (n:Int)/\t<N.length/\h<N.length/\l<N.length/\n<N.length/\
 (∀v,ev v (aE TS n)=if ev v (aE TS t)=true then ev v (aE TS h) else ev v (aE TS l))/\min (aD N t) (min (aD N h) (aD N l))<=aD N n
structure FO (P:Program) (w:World) (C:Addr) (H:Hp) (y dy nm sp nd kn ch im ex:Addr) (names:List Str) (S:di):Prop where
 hy:H y=some (.ins C dy (cF nm sp nd kn ch im ex))
 hn:H nm=some (.lst (names.map V.str))
 hs:H sp=some (.dK (eW 0 names))
 hd:H nd=some (.lst (S.ts.map V.ref))
 ht:Paired (λt p=>H t=some (.tup (eO p))) S.ts S.N
 hk:H kn=some (.dT (eK 2 (S.N.drop 2)))
 hc:H ch=some (.dT S.CH)
 ck:∀e∈S.CH,nS S.N S.TS e
 hi:H im=some (fv P w im S.IM)
 ik:∀p∈S.IM,eP H p.1 p.2.1/\∃i:Nat,i<S.N.length/\p.2.2=.int (i:Int)/\aE S.TS i=p.1
 he:H ex=some (.dK S.EX)
 ek:∀kv∈S.EX,∃i:Nat,kv.1=.inl (i:Int)/\i<S.N.length/\aZ H (aE S.TS i) kv.2
 e0:aX S.EX (.inl 0)=some (.bl false)/\aX S.EX (.inl 1)=some (.bl true)
 fs:FS names S.N S.TS
 nn:names.Nodup
 ns:∀n∈names,PyData.strOk n=true
 n8:names.length<=8
 d1:nd≠nm
 d2:kn≠ch
 d3:sp≠ex
def Kp (H H':Hp) (nd kn ch im ex:Addr):Prop:=∀b o,H b=some o->b≠nd->b≠kn->b≠ch->b≠im->b≠ex->H' b=some o
structure Bd (S:di) (b:Nat):Prop where
 b1:S.N.length<=b
 b2:S.CH.length<=b
 b3:S.IM.length<=b
 b4:S.EX.length<=b
structure dw (S S':di):Prop where
 gn:∃a,S'.N=S.N++a
 gt:∃a,S'.TS=S.TS++a
theorem dw.refl (S:di):dw S S:=⟨⟨[],by simp⟩,⟨[],by simp⟩⟩
theorem dw.trans {S S1 S2:di}(a:dw S S1) (b:dw S1 S2):dw S S2:=by
 obtain ⟨⟨x,hx⟩,⟨y,hy⟩⟩:=a
 obtain ⟨⟨x',sW⟩,⟨y',OU⟩⟩:=b
 exact ⟨⟨x++x',by rw [sW,hx,List.append_assoc]⟩,⟨y++y',by rw [OU,hy,List.append_assoc]⟩⟩
theorem dw.le {S S':di}(a:dw S S'):S.N.length<=S'.N.length:=by
 obtain ⟨⟨x,hx⟩,_⟩:=a
 rw [hx,List.length_append]
 omega
theorem dw.nd {S S':di}(a:dw S S'){i:Nat}(h:i<S.N.length):S'.N.getD i (0,0,0)=S.N.getD i (0,0,0):=by
 obtain ⟨⟨x,hx⟩,_⟩:=a
 rw [hx]
 exact j5 h
theorem dw.aD {S S':di}(a:dw S S'){i:Nat}(h:i<S.N.length):Gen.aD S'.N i=Gen.aD S.N i:=by unfold Gen.aD; rw [a.nd h]
theorem dw.aE {S S':di}(a:dw S S'){i:Nat}(h:i<S.TS.length):Gen.aE S'.TS i=Gen.aE S.TS i:=by
 obtain ⟨_,⟨x,hx⟩⟩:=a
 unfold Gen.aE
 rw [hx]
 exact j5 h
theorem nS.grow {S S':di}(a:dw S S') (hl:S.N.length=S.TS.length){e:List Key×V}(h:nS S.N S.TS e):nS S'.N S'.TS e:=by
 obtain ⟨t,h',l,n,e1,e2,l1,l2,l3,l4,hv,hm⟩:=h
 have:=a.le
 refine ⟨t,h',l,n,e1,e2,by omega,by omega,by omega,by omega,λv=>?_,?_⟩
 . rw [a.aE (by omega),a.aE (by omega),a.aE (by omega),a.aE (by omega)]
   exact hv v
 . rw [a.aD l1,a.aD l2,a.aD l3,a.aD l4]
   exact hm
section
variable {P:Program}{w:World}{K:W.Frag}{mg:Str->Option Value}{base:Heap}{C y dy nm sp nd kn ch im ex:Addr}{names:List Str}{S:di}{H H':Hp}
theorem Kp.of (s:ai H H'):Kp H H' nd kn ch im ex:=λb o h _ _ _ _ _=>s b o h
theorem Kp.trans {H1:Hp}(a:Kp H H1 nd kn ch im ex) (b:Kp H1 H' nd kn ch im ex):Kp H H' nd kn ch im ex:=λc o h h1 h2 h3 h4 h5=>b c o (a c o h h1 h2 h3 h4 h5) h1 h2 h3 h4 h5
theorem FO.dY (h:FO P w C H y dy nm sp nd kn ch im ex names S) (k:Kp H H' nd kn ch im ex):∀a xs,H a=some (.tup xs)->H' a=some (.tup xs):=λa xs e=>
 k a _ e (dc e h.hd (by intro z; cases z)) (dc e h.hk (by intro z; cases z)) (dc e h.hc (by intro z; cases z)) (dc e h.hi (by intro z; cases z)) (dc e h.he (by intro z; cases z))
theorem FO.same (h:FO P w C H y dy nm sp nd kn ch im ex names S) (s:ai H H'):FO P w C H' y dy nm sp nd kn ch im ex names S:=
 ⟨s _ _ h.hy,s _ _ h.hn,s _ _ h.hs,s _ _ h.hd,Paired.dX h.ht λ_ _ e=>s _ _ e,s _ _ h.hk,s _ _ h.hc,h.ck,s _ _ h.hi,λp hp=>⟨(h.ik p hp).1.keep λa xs e=>s _ _ e,(h.ik p hp).2⟩,s _ _ h.he,
  λkv bF=>let ⟨i,a,b,c⟩:=h.ek kv bF; ⟨i,a,b,c.keep λa xs e=>s _ _ e⟩,h.e0,h.fs,h.nn,h.ns,h.n8,h.d1,h.d2,h.d3⟩
theorem FO.node (h:FO P w C H y dy nm sp nd kn ch im ex names S){i:Nat}(hi:i<S.N.length):∃t,S.ts[i]?=some t/\H t=some (.tup (eO (S.N.getD i (0,0,0)))):=by
 obtain ⟨t,h1,h2⟩:=hV h.ht (i:=i) (List.getElem?_eq_getElem hi)
 refine ⟨t,h1,?_⟩
 rw [h2,List.getD_eq_getElem?_getD,List.getElem?_eq_getElem hi]
 rfl
def oS (P:Program) (w:World) (C:Addr):Sp:=λvs H Q _=>∃(y dy nm sp nd kn ch im ex:Addr) (names:List Str) (S:di) (x s:Nat) (b:Bool),vs=[.ref y,.int (x:Int),.int (s:Int),.int (if b=true then 2 else 1)]/\FO P w C H y dy nm sp nd kn ch im ex names S/\x<S.N.length/\
 Q (.int ((if aD S.N x=s then (if b=true then fX S.N x else low S.N x) else x:Nat):Int)) H
theorem yO:aT ["self", "number", "spot", "side", "node"] ["self", "number", "spot", "side"] (ak mf):=⟨rfl,rfl,rfl,by decide +kernel,rfl,by decide +kernel,by decide +kernel⟩
theorem Cv {f:Addr}{fd:FuncData}(F:cy K "half" "Forest.half" mf f fd) (T:il K mg C):av P w K mg base aF 1 f fd ["self", "number", "spot", "side"] (oS P w C):=by
 refine F.ok yO (λvs H Q E h=>?_) (λcdv A outer s H vs Q E hr h=>?_)
 . obtain ⟨y,dy,nm,sp,nd,kn,ch,im,ex,names,S,x,s0,b,rfl,_⟩:=h
   rfl
 . obtain ⟨y,dy,nm,sp,nd,kn,ch,im,ex,names,S,x,s0,b,rfl,hO,hx,kk⟩:=h
   refine ⟨_,af (ax (i:=4) yO.nd rfl (Or.inl rfl) (aQ (r:=fU K) b0 (cA (pv 0) rfl) (pv 1) (λ_ _=>rfl)))
    (ao (aK (rF (bz dq (aQ (r:=cE K) bj (pv 4) ag (λ_ _=>rfl)) (pv 2) (bL _)) (aQ (r:=cE K) bj (pv 4) (pv 3) (λ_ _=>rfl)) (pv 1)))),?_⟩
   obtain ⟨t,h1,h2⟩:=hO.node hx
   refine ⟨_,rfl,y,C,dy,_,_,rfl,hO.hy,T.cl,T.n3,nQ ..,_,rfl,nd,_,_,.ref t,rfl,rfl,ay.of hO.hd,aA (by rw [List.getElem?_map,h1]; rfl),?_⟩
   refine ⟨_,rfl,t,_,0,_,rfl,rfl,aP.of h2,aA (j:=0) rfl,_,rfl,rfl,_,rfl,?_⟩
   by_cases e:aD S.N x=s0
   . rw [if_pos e] at kk
     refine cb (decide_eq_true (by rw [← e]; rfl)) ?_
     refine ⟨_,rfl,_,rfl,t,_,_,_,rfl,rfl,aP.of h2,?_,kk⟩
     cases b
     . exact aA (j:=1) rfl
     . exact aA (j:=2) rfl
   . rw [if_neg e] at kk
     refine bw (decide_eq_false λz=>e ?_) ⟨_,rfl,kk⟩
     have:=V.int.inj z
     have q:((aD S.N x:Nat):Int)=(s0:Int):=this
     omega
def jE (P:Program) (w:World) (C:Addr):Sp:=λvs H Q _=>∃(y dy nm sp nd kn ch im ex:Addr) (names:List Str) (S:di) (s l u b:Nat),vs=[.ref y,.int (s:Int),.int (l:Int),.int (u:Int)]/\FO P w C H y dy nm sp nd kn ch im ex names S/\s<names.length/\l<S.N.length/\u<S.N.length/\s<aD S.N l/\s<aD S.N u/\Bd S b/\b<100000/\
 ∀(n:Nat) (S':di) (H':Hp),FO P w C H' y dy nm sp nd kn ch im ex names S'->Kp H H' nd kn ch im ex->dw S S'->Bd S' (b+1)->S'.CH=S.CH->S'.IM=S.IM->S'.EX=S.EX->n<S'.N.length->s<=aD S'.N n->aE S'.TS n=(if l=u then aE S.TS l else .node (names.getD s "") (aE S.TS l) (aE S.TS u))->Q (.int (n:Int)) H'
abbrev OV:List Str:=["self", "spot", "low", "high", "key", "number"]
abbrev kJ:List Str:=["self", "spot", "low", "high"]
theorem w4:aT OV kJ (ak me):=⟨rfl,rfl,rfl,by decide +kernel,rfl,by decide +kernel,by decide +kernel⟩
theorem big {n:Nat}(h:n<=1000000):n<sizeLine:=Nat.lt_of_le_of_lt h (by decide)
theorem Ag {α:Type}{l:List α}{j:Nat}{x d:α}(h:(l.drop 2)[j]?=some x):2+j<l.length/\l.getD (2+j) d=x:=by
 rw [List.getElem?_drop] at h
 have:=(List.getElem?_eq_some_iff.mp h).1
 exact ⟨this,by rw [List.getD_eq_getElem?_getD,h]; rfl⟩
theorem Cw {f:Addr}{fd:FuncData}(F:cy K "node" "Forest.node" me f fd) (T:il K mg C) (O2:fZ mg):av P w K mg base aF 1 f fd kJ (jE P w C):=by
 refine F.ok w4 (λvs H Q E h=>?_) (λcdv A outer s H vs Q E hr h=>?_)
 . obtain ⟨y,dy,nm,sp,nd,kn,ch,im,ex,names,S,s0,l,u,b,rfl,_⟩:=h
   rfl
 . obtain ⟨y,dy,nm,sp,nd,kn,ch,im,ex,names,S,s0,l,u,b,rfl,hO,hs,hl,qy,s1,s2,hB,hb,kk⟩:=h
   have hu:=jV hr
   refine ⟨_,af (bQ (bz dq (pv 2) (pv 3) (bL _)) (ao (aK (pv 2))) aV)
    (af (ax (i:=4) w4.nd rfl (Or.inl rfl) (df (aa (pv 1) (aa (pv 2) (aa (pv 3) ab)))))
    (af (ax (i:=5) w4.nd rfl (Or.inl rfl) (nv hu (cA (pv 0) rfl) (pv 4) ⟨rfl,rfl,rfl,rfl⟩))
    (af (bQ (eE (kW (pv 5)))
     (af (ax (i:=5) w4.nd rfl (Or.inl rfl) (aU bo (by rfl) O2.len PySem.boot_len (aa (cA (pv 0) rfl) ab)))
     (af (u5 (qW PySem.F.plainAttrs_list PySem.F.slot_list_append PySem.F.type_list_append ly (cA (pv 0) rfl) (aa (pv 4) ab)))
     (ao (lY hu (cA (pv 0) rfl) (pv 4) (pv 5) rfl)))) aV)
    (ao (aK (pv 5)))))),?_⟩
   refine ⟨_,rfl,_,rfl,rfl,_,rfl,?_⟩
   by_cases e:l=u
   . refine cb (decide_eq_true (by rw [e])) ⟨_,rfl,kk l S H hO (λ_ _ h _ _ _ _ _=>h) (.refl S) ⟨Nat.le_succ_of_le hB.b1,Nat.le_succ_of_le hB.b2,Nat.le_succ_of_le hB.b3,Nat.le_succ_of_le hB.b4⟩ rfl rfl rfl hl (Nat.le_of_lt s1) (by rw [if_pos e])⟩
   . refine bw (decide_eq_false λz=>e (by have:=V.int.inj z; omega)) ?_
     refine ⟨_,rfl,_,rfl,_,rfl,(by show 3<=sizeLine; decide),λt ht=>?_⟩
     have q1:(upd H t (.tup (eO (s0,l,u)))) t=some (.tup (eO (s0,l,u))):=ae
     have Bi:ai H (upd H t (.tup (eO (s0,l,u)))):=ai.ar ht
     show dZ _ _ _ _ (upd H t (.tup (eO (s0,l,u))))
     generalize upd H t (.tup (eO (s0,l,u)))=H1 at q1 Bi ⊢
     have aM:=hO.same Bi
     have hlen:=aM.fs.len
     have cU:H1 t=some (.tup ((hZ (s0,l,u)).map kV)):=q1
     refine ⟨_,rfl,y,C,dy,_,_,rfl,aM.hy,T.cl,T.n4,Ef ..,kn,rfl,.inr ⟨_,.inl aM.hk⟩,_,rfl,_,fj.t (k:=hZ (s0,l,u)) aM.hk cU,?_⟩
     cases hv:aX (eK 2 (S.N.drop 2)) (hZ (s0,l,u)) with
     | some v=>
      obtain ⟨j,hj,rfl⟩:=sV _ _ _ _ hv
      obtain ⟨j1,j2⟩:=Ag (d:=(0,0,0)) hj
      refine ⟨_,rfl,_,rfl,bw rfl ⟨_,rfl,kk (2+j) S H1 aM (.of Bi) (.refl S) ⟨Nat.le_succ_of_le hB.b1,Nat.le_succ_of_le hB.b2,Nat.le_succ_of_le hB.b3,Nat.le_succ_of_le hB.b4⟩ rfl rfl rfl j1 ?_ ?_⟩⟩
      . unfold aD
        rw [j2]
        exact Nat.le_refl _
      . obtain ⟨_,_,_,_,_,_,a7⟩:=aM.fs.nd (2+j) (by omega) j1
        rw [a7,if_neg e]
        unfold aD low fX
        rw [j2]
     | none=>
      have Ed:=sU _ _ _ hv
      have Jh:=aM.ht.length
      refine ⟨_,rfl,_,rfl,cb rfl ?_⟩
      refine ⟨_,rfl,y,C,dy,_,_,rfl,aM.hy,T.cl,T.n3,nQ ..,nd,_,rfl,.inl (ay.of aM.hd),?_⟩
      rw [List.length_map,Jh]
      refine ⟨_,rfl,y,C,dy,_,_,rfl,aM.hy,T.cl,T.n3,nQ ..,.inl ⟨rfl,_,ay.of aM.hd⟩,_,rfl,nd,_,_,rfl,rfl,aM.hd,(by rw [List.length_map,Jh]; exact big (by have:=hB.b1; omega)),?_⟩
      have q2:(upd H1 nd (.lst (S.ts.map V.ref++[.ref t]))) nd=some (.lst ((S.ts++[t]).map V.ref)):=by rw [ae,List.map_append]; rfl
      have k2:∀b o,H1 b=some o->b≠nd->(upd H1 nd (.lst (S.ts.map V.ref++[.ref t]))) b=some o:=λb o h n=>by rw [aj n]; exact h
      generalize upd H1 nd (.lst (S.ts.map V.ref++[.ref t]))=H2 at q2 k2 ⊢
      have nl:∀{b:Addr}{o:HO},H1 b=some o->(∀xs,o≠.lst xs)->b≠nd:=λhb ho z=>by
       rw [z,aM.hd] at hb
       exact ho _ (Option.some.inj hb).symm
      have y2:=k2 _ _ aM.hy (nl aM.hy (λ_ z=>by cases z))
      have OW:=k2 _ _ aM.hk (nl aM.hk (λ_ z=>by cases z))
      have t2:=k2 _ _ cU (nl cU (λ_ z=>by cases z))
      refine ⟨_,rfl,_,rfl,y,C,dy,_,_,rfl,y2,T.cl,T.n4,Ef ..,_,rfl,kn,_,rfl,jj.t (k:=hZ (s0,l,u)) OW t2 (by rw [vK]; exact big (by have:=hB.b1; rw [List.length_drop]; omega)),?_⟩
      have Lf:putK (eK 2 (S.N.drop 2)) (hZ (s0,l,u)) (.int (S.N.length:Int))=eK 2 ((S.N++[(s0,l,u)]).drop 2):=by
       have h2:=aM.fs.two
       rw [nu _ hv,List.drop_append_of_le_length h2,vL,List.length_drop,show 2+(S.N.length-2)=S.N.length by omega]
       rfl
      rw [Lf]
      have q3:(upd H2 kn (.dT (eK 2 ((S.N++[(s0,l,u)]).drop 2)))) kn=some (.dT (eK 2 ((S.N++[(s0,l,u)]).drop 2))):=ae
      have k3:∀b o,H1 b=some o->b≠nd->b≠kn->(upd H2 kn (.dT (eK 2 ((S.N++[(s0,l,u)]).drop 2)))) b=some o:=λb o h n1 n2=>by rw [aj n2]; exact k2 b o h n1
      have Ji:(upd H2 kn (.dT (eK 2 ((S.N++[(s0,l,u)]).drop 2)))) nd=some (.lst ((S.ts++[t]).map V.ref)):=by rw [aj (Ne.symm (nl aM.hk (λ_ z=>by cases z)))]; exact q2
      generalize upd H2 kn (.dT (eK 2 ((S.N++[(s0,l,u)]).drop 2)))=H3 at q3 k3 Ji ⊢
      have kt:∀{b:Addr}{o:HO},H1 b=some o->(∀xs,o≠.lst xs)->(∀xs,o≠.dT xs)->H3 b=some o:=λhb ho hd=>k3 _ _ hb (nl hb ho) λz=>by
       rw [z,aM.hk] at hb
       exact hd _ (Option.some.inj hb).symm
      have G:dw S { S with N:=S.N++[(s0,l,u)],TS:=S.TS++[.node (names.getD s0 "") (aE S.TS l) (aE S.TS u)],ts:=S.ts++[t] }:=⟨⟨_,rfl⟩,⟨_,rfl⟩⟩
      have fs':=aM.fs.push hs hl qy e s1 s2 λi i2 hi z=>Ed (by
       rw [List.mem_iff_getElem?]
       refine ⟨i-2,?_⟩
       rw [List.getElem?_drop,show 2+(i-2)=i by omega,List.getElem?_eq_getElem hi]
       rw [List.getD_eq_getElem?_getD,List.getElem?_eq_getElem hi] at z
       exact congrArg some z)
      have w6:∀a xs,H1 a=some (.tup xs)->H3 a=some (.tup xs):=λa xs h=>kt h (λ_ z=>by cases z) (λ_ z=>by cases z)
      refine ⟨_,rfl,kk S.N.length { S with N:=S.N++[(s0,l,u)],TS:=S.TS++[.node (names.getD s0 "") (aE S.TS l) (aE S.TS u)],ts:=S.ts++[t] } H3 ⟨kt aM.hy (λ_ z=>by cases z) (λ_ z=>by cases z),k3 _ _ aM.hn (Ne.symm aM.d1) (dc aM.hn aM.hk (by intro z; cases z)),kt aM.hs (λ_ z=>by cases z) (λ_ z=>by cases z),Ji,dJ (Paired.dX aM.ht λ_ _ h=>w6 _ _ h) (.cons (w6 _ _ q1) .nil),q3,k3 _ _ aM.hc (nl aM.hc (λ_ z=>by cases z)) (Ne.symm aM.d2),λe' h=>nS.grow G hlen (aM.ck e' h),kt aM.hi (λ_ z=>by cases z) (λ_ z=>by cases z),λp hp=>?_,kt aM.he (λ_ z=>by cases z) (λ_ z=>by cases z),λkv bF=>?_,aM.e0,fs',aM.nn,aM.ns,aM.n8,aM.d1,aM.d2,aM.d3⟩ (λb o h n1 n2 _ _ _=>k3 _ _ (Bi _ _ h) n1 n2) G ⟨by rw [List.length_append]; have:=hB.b1; show S.N.length+1<=b+1; omega,Nat.le_succ_of_le hB.b2,Nat.le_succ_of_le hB.b3,Nat.le_succ_of_le hB.b4⟩ rfl rfl rfl (by rw [List.length_append]; exact Nat.lt_succ_self _) ?_ ?_⟩
      . obtain ⟨h1,i,i1,i2,i3⟩:=aM.ik p hp
        exact ⟨h1.keep w6,i,by rw [List.length_append]; show i<S.N.length+1; omega,i2,by rw [← i3]; exact G.aE (by omega)⟩
      . obtain ⟨i,i1,i2,i3⟩:=aM.ek kv bF
        have e9:aE (S.TS++[.node (names.getD s0 "") (aE S.TS l) (aE S.TS u)]) i=aE S.TS i:=G.aE (by omega)
        exact ⟨i,i1,by rw [List.length_append]; show i<S.N.length+1; omega,by rw [e9]; exact i3.keep w6⟩
      . show s0<=aD (S.N++[(s0,l,u)]) S.N.length
        unfold aD
        rw [j6]
        exact Nat.le_refl _
      . rw [if_neg e,hlen]
        exact j6
end
end Gen
namespace L2
open PySem PySem.Spec PyProof.Rows
section
variable {X:Cx}{a:Expr}{ta:TE}
def Lg (c:Bool) (ta:TE):TE:=λσ H Q=>ta σ H λx H1=>(∃b,x=.bl b/\Q (.bl (b == c)) H1)\/∃p,x=.ref p/\Q (.bl false) H1
theorem oT {c:Bool}{j pos'} (ha:PE X a ta):PC X .Is a (.Constant (.bool c) j pos') (Lg c ta):=by
 intro pins s σ H Q I h
 refine aG (ha pins s σ H _ I h) λv s1 ⟨x,H1,I1,r1,q1⟩=>Constant_bool ?_
 rcases q1 with ⟨b,rfl,q⟩ | ⟨p,rfl,q⟩
 . obtain rfl:v=Value.bool b:=r1
   exact wpAny_pure ⟨.bl _,H1,I1,by cases b <;> cases c <;> rfl,q⟩
 . obtain rfl:v=Value.ref p:=r1
   exact wpAny_pure ⟨.bl _,H1,I1,rfl,q⟩
theorem yP (hc:X.calm=true):ff X (.builtin "min") (λxs H Q=>∃i j k,xs=[.int i,.int j,.int k]/\Q (.int (min i (min j k))) H):=by
 intro pins s σ H xs us Q I r h
 obtain ⟨i,j,k,rfl,q⟩:=h
 cases r with
 | cons r1 r=>
  cases r with
  | cons r2 r=>
   cases r with
   | cons r3 r=>
    cases r
    obtain ⟨t1,rfl⟩:=r1
    obtain ⟨t2,rfl⟩:=r2
    obtain ⟨t3,rfl⟩:=r3
    refine min_three_ints (I.ok.hd hc) λh' tk kp=>⟨_,H,I.kept kp,?_,q⟩
    by_cases h1:j<i
    . rw [if_pos h1]
      by_cases h2:k<j
      . rw [if_pos h2,show min i (min j k)=k by omega]; exact ⟨_,rfl⟩
      . rw [if_neg h2,show min i (min j k)=j by omega]; exact ⟨_,rfl⟩
    . rw [if_neg h1]
      by_cases h2:k<i
      . rw [if_pos h2,show min i (min j k)=k by omega]; exact ⟨_,rfl⟩
      . rw [if_neg h2,show min i (min j k)=i by omega]; exact ⟨_,rfl⟩
end
end L2
namespace Gen
open PySem L2
abbrev iO:Stmt:=inClass (top 7) 3
abbrev gr:Stmt:=inClass (top 7) 4
def cX:Tr->Nat
 | .leaf _=>0
 | .node _ l r=>cX l+cX r+2
theorem lG {κ:Type}[DecidableEq κ] {k:κ}{v:V} : ∀{kvs:List (κ×V)},aX kvs k=some v->(k,v)∈kvs
 | [],h=>nomatch h
 | (k',v')::r,h=>by
  by_cases e:k'=k
  . subst e
    rw [bU rfl] at h
    cases h
    exact List.mem_cons_self
  . rw [bJ e] at h
    exact List.mem_cons_of_mem _ (lG h)
theorem lH {κ:Type}[DecidableEq κ] {k:κ} : ∀{kvs:List (κ×V)},(∀kv∈kvs,kv.1≠k)->aX kvs k=none
 | [],_=>rfl
 | (k',v')::r,h=>by
  rw [bJ (h _ List.mem_cons_self)]
  exact lH λkv hk=>h kv (List.mem_cons_of_mem _ hk)
theorem vM {κ:Type}[DecidableEq κ] {k:κ} : ∀{kvs:List (κ×V)},aX kvs k=none->∀kv∈kvs,kv.1≠k
 | [],_,_,h=>nomatch h
 | (k',v')::r,h,kv,hk=>by
  by_cases e:k'=k
  . subst e
    rw [bU rfl] at h
    cases h
  . rw [bJ e] at h
    rcases List.mem_cons.mp hk with rfl | hk
    . exact e
    . exact vM h kv hk
theorem Ah {κ:Type}[DecidableEq κ] {kvs:List (κ×V)}{k:κ}{v:V}{e:κ×V}(h:e∈putK kvs k v):e∈kvs\/e=(k,v):=by
 unfold putK at h
 split at h
 . obtain ⟨p,hp,rfl⟩:=List.mem_map.mp h
   by_cases q:p.1=k
   . rw [if_pos q]
     exact .inr (by rw [q])
   . rw [if_neg q]
     exact .inl hp
 . rcases List.mem_append.mp h with h | h
   . exact .inl h
   . exact .inr (List.mem_singleton.mp h)
theorem oU {L:List (Tr×Addr×V)}{t:Tr}{v:V}(h:eu L t=some v):∃b,(t,b,v)∈L:=by
 unfold eu at h
 cases e:L.find? λp=>decide (p.1=t) with
 | none=>rw [e] at h; cases h
 | some p=>
  rw [e] at h
  have h1:=List.find?_some e
  have h2:=List.mem_of_find?_eq_some e
  obtain ⟨a,b,c⟩:=p
  have:a=t:=of_decide_eq_true h1
  subst this
  cases (show c=v from Option.some.inj h)
  exact ⟨b,h2⟩
theorem oV {L:List (Tr×Addr×V)}{t:Tr}(h:∀p∈L,p.1≠t):eu L t=none:=by
 unfold eu
 rw [List.find?_eq_none.mpr λp hp=>by rw [decide_eq_true_eq]; exact h p hp]
 rfl
theorem sZ {L:List (Tr×Addr×V)}{t:Tr}(h:eu L t=none):∀p∈L,p.1≠t:=λp hp e=>by
 unfold eu at h
 rw [Option.map_eq_none_iff,List.find?_eq_none] at h
 exact h p hp (by rw [decide_eq_true_eq]; exact e)
theorem vN {ns:List Str}{n:Str}{l r:Tr}(h:cg ns (.node n l r)):∃j,ns[j]?=some n/\l≠r/\cg (ns.drop (j+1)) l/\cg (ns.drop (j+1)) r:=by
 generalize et:Tr.node n l r=t at h
 induction h with
 | leaf=>cases et
 | node ne a b=>
  cases et
  exact ⟨0,rfl,ne,a,b⟩
 | skip _ ih=>
  obtain ⟨j,a,b,c,d⟩:=ih et
  exact ⟨j+1,by simpa using a,b,by simpa using c,by simpa using d⟩
theorem FS.Ej {names:List Str}{N:List Nd}{TS:List Tr}(h:FS names N TS) (hn:names.Nodup){i k:Nat}(hi:i<N.length) (hk:k<=names.length) (hc:cg (names.drop k) (aE TS i)):k<=aD N i:=by
 by_cases i2:i<2
 . unfold aD
   rcases (show i=0\/i=1 by omega) with rfl | rfl
   . rw [h.z0]
     exact hk
   . rw [h.z1]
     exact hk
 . obtain ⟨a1,_,_,_,_,_,a7⟩:=h.nd i (by omega) hi
   rw [a7] at hc
   obtain ⟨j,h1,_⟩:=vN hc
   rw [List.getElem?_drop] at h1
   have hj:=(List.getElem?_eq_some_iff.mp h1).1
   rw [List.getD_eq_getElem?_getD,List.getElem?_eq_getElem a1,List.getElem?_eq_getElem hj] at h1
   have:=(List.getElem_inj hn).mp (Option.some.inj h1)
   omega
section
variable {P:Program}{w:World}{K:W.Frag}{mg:Str->Option Value}{base:Heap}{C y dy nm sp nd kn ch im ex:Addr}{names:List Str}{S:di}{H H':Hp}
theorem Bd.up {S:di}{b c:Nat}(h:Bd S b) (hc:b<=c):Bd S c:=⟨Nat.le_trans h.b1 hc,Nat.le_trans h.b2 hc,Nat.le_trans h.b3 hc,Nat.le_trans h.b4 hc⟩
theorem Bd.OX {S:di}{b:Nat}(h:Bd S b) (e:Tr×Addr×V):Bd { S with IM:=S.IM++[e] } (b+1):=⟨Nat.le_succ_of_le h.b1,Nat.le_succ_of_le h.b2,by rw [List.length_append]; exact Nat.succ_le_succ h.b3,Nat.le_succ_of_le h.b4⟩
theorem Bd.OY {S:di}{b:Nat}(h:Bd S b) (e:Key×V):Bd { S with EX:=S.EX++[e] } (b+1):=⟨Nat.le_succ_of_le h.b1,Nat.le_succ_of_le h.b2,Nat.le_succ_of_le h.b3,by rw [List.length_append]; exact Nat.succ_le_succ h.b4⟩
theorem Bd.OZ {S:di}{b:Nat}(h:Bd S b) (k:List Key) (v:V):Bd { S with CH:=putK S.CH k v } (b+1):=⟨Nat.le_succ_of_le h.b1,Nat.le_trans (eT _ _ _) (Nat.succ_le_succ h.b2),Nat.le_succ_of_le h.b3,Nat.le_succ_of_le h.b4⟩
theorem xa {a:Addr}{o:HO}(h:a=nd\/a=kn\/a=ch\/a=im\/a=ex):Kp H (upd H a o) nd kn ch im ex:=λb ob hb h1 h2 h3 h4 h5=>by
 rw [aj (by rcases h with rfl | rfl | rfl | rfl | rfl <;> assumption)]
 exact hb
theorem FO.G8 (h:FO P w C H y dy nm sp nd kn ch im ex names S){t:Tr}{b:Addr}{i:Nat}(hk:eP H t b) (hi:i<S.N.length) (ht:aE S.TS i=t) :
 FO P w C (upd H im (fv P w im (S.IM++[(t,b,.int (i:Int))]))) y dy nm sp nd kn ch im ex names { S with IM:=S.IM++[(t,b,.int (i:Int))] }:=by
 have k:∀{a:Addr}{o:HO},H a=some o->o≠fv P w im S.IM->(upd H im (fv P w im (S.IM++[(t,b,.int (i:Int))]))) a=some o:=λha ho=>by
  rw [aj (dc ha h.hi ho)]
  exact ha
 have kt:∀a xs,H a=some (.tup xs)->(upd H im (fv P w im (S.IM++[(t,b,.int (i:Int))]))) a=some (.tup xs):=λa xs ha=>k ha (by intro z; cases z)
 refine ⟨k h.hy (by intro z; cases z),k h.hn (by intro z; cases z),k h.hs (by intro z; cases z),k h.hd (by intro z; cases z),Paired.dX h.ht λ_ _ e=>kt _ _ e,k h.hk (by intro z; cases z),k h.hc (by intro z; cases z),h.ck,ae,λp hp=>?_,k h.he (by intro z; cases z),
  λkv bF=>let ⟨i,a,b,c⟩:=h.ek kv bF; ⟨i,a,b,c.keep kt⟩,h.e0,h.fs,h.nn,h.ns,h.n8,h.d1,h.d2,h.d3⟩
 rcases List.mem_append.mp hp with hp | hp
 . exact ⟨(h.ik p hp).1.keep kt,(h.ik p hp).2⟩
 . rw [List.mem_singleton] at hp
   subst hp
   exact ⟨hk.keep kt,i,hi,rfl,ht⟩
theorem FO.G9 (h:FO P w C H y dy nm sp nd kn ch im ex names S){v:V}{i:Nat}(hv:aZ H (aE S.TS i) v) (hi:i<S.N.length) (hn:aX S.EX (.inl (i:Int))=none) :
 FO P w C (upd H ex (.dK (S.EX++[(.inl (i:Int),v)]))) y dy nm sp nd kn ch im ex names { S with EX:=S.EX++[(.inl (i:Int),v)] }:=by
 have k:∀{a:Addr}{o:HO},H a=some o->(∀q,o≠.dK q)->(upd H ex (.dK (S.EX++[(.inl (i:Int),v)]))) a=some o:=λha ho=>by
  rw [aj (dc ha h.he (ho _))]
  exact ha
 have kt:∀a xs,H a=some (.tup xs)->(upd H ex (.dK (S.EX++[(.inl (i:Int),v)]))) a=some (.tup xs):=λa xs ha=>k ha (by intro _ z; cases z)
 refine ⟨k h.hy (by intro _ z; cases z),k h.hn (by intro _ z; cases z),by rw [aj h.d3]; exact h.hs,k h.hd (by intro _ z; cases z),Paired.dX h.ht λ_ _ e=>kt _ _ e,k h.hk (by intro _ z; cases z),k h.hc (by intro _ z; cases z),h.ck,k h.hi (by intro _ z; cases z),λp hp=>⟨(h.ik p hp).1.keep kt,(h.ik p hp).2⟩,ae,
  λkv bF=>?_,?_,h.fs,h.nn,h.ns,h.n8,h.d1,h.d2,h.d3⟩
 . rcases List.mem_append.mp bF with bF | bF
   . obtain ⟨i,a,b,c⟩:=h.ek kv bF
     exact ⟨i,a,b,c.keep kt⟩
   . rw [List.mem_singleton] at bF
     subst bF
     exact ⟨i,rfl,hi,hv.keep kt⟩
 . have old:∀(c:Int) (u:V),aX S.EX (.inl c)=some u->aX (S.EX++[(.inl (i:Int),v)]) (.inl c)=some u:=λc u hc=>by
    rw [lr _ _ _ _ hn,if_neg (λz=>by rw [z,hn] at hc; cases hc)]
    exact hc
   exact ⟨old 0 _ h.e0.1,old 1 _ h.e0.2⟩
theorem FO.Ha (h:FO P w C H y dy nm sp nd kn ch im ex names S){k':List Key}{u:V}(hc:nS S.N S.TS (k',u)) :
 FO P w C (upd H ch (.dT (putK S.CH k' u))) y dy nm sp nd kn ch im ex names { S with CH:=putK S.CH k' u }:=by
 have k:∀{a:Addr}{o:HO},H a=some o->(∀q,o≠.dT q)->(upd H ch (.dT (putK S.CH k' u))) a=some o:=λha ho=>by
  rw [aj (dc ha h.hc (ho _))]
  exact ha
 have kt:∀a xs,H a=some (.tup xs)->(upd H ch (.dT (putK S.CH k' u))) a=some (.tup xs):=λa xs ha=>k ha (by intro _ z; cases z)
 refine ⟨k h.hy (by intro _ z; cases z),k h.hn (by intro _ z; cases z),k h.hs (by intro _ z; cases z),k h.hd (by intro _ z; cases z),Paired.dX h.ht λ_ _ e=>kt _ _ e,by rw [aj h.d2]; exact h.hk,ae,λe' he=>?_,k h.hi (by intro _ z; cases z),λp hp=>⟨(h.ik p hp).1.keep kt,(h.ik p hp).2⟩,k h.he (by intro _ z; cases z),
  λkv bF=>let ⟨i,a,b,c⟩:=h.ek kv bF; ⟨i,a,b,c.keep kt⟩,h.e0,h.fs,h.nn,h.ns,h.n8,h.d1,h.d2,h.d3⟩
 rcases Ah he with he | he
 . exact h.ck e' he
 . subst he
   exact hc
def mh (P:Program) (w:World) (C:Addr) (d:Nat):Sp:=λvs H Q _=>∃(y dy nm sp nd kn ch im ex:Addr) (names:List Str) (S:di) (t:Tr) (v:V) (b:Nat),vs=[.ref y,v]/\FO P w C H y dy nm sp nd kn ch im ex names S/\aZ H t v/\cg names t/\t.dep<d/\Bd S b/\b+cX t<100000/\
 ∀(n:Nat) (S':di) (H':Hp),FO P w C H' y dy nm sp nd kn ch im ex names S'->Kp H H' nd kn ch im ex->dw S S'->Bd S' (b+cX t)->S'.CH=S.CH->S'.EX=S.EX->(∀p∈S'.IM,p∈S.IM\/p.1.dep<=t.dep)->n<S'.N.length->aE S'.TS n=t->Q (.int (n:Int)) H'
abbrev O0:List Str:=["self", "tree", "number"]
theorem Ai:aT O0 ["self", "tree"] (ak iO):=⟨rfl,rfl,rfl,by decide +kernel,rfl,by decide +kernel,by decide +kernel⟩
theorem Ek {A:Around}{k:Nat}(hr:bx k A):A.units+17<cLine:=by have:=hr.un; omega
theorem gs:Kp H H nd kn ch im ex:=λ_ _ h _ _ _ _ _=>h
theorem Aj {f fN:Addr}{fd dN:FuncData}{d k:Nat}(F:cy K "taken" "Forest.taken" iO f fd) (T:il K mg C) (G:av P w K mg base aF (k+1) f fd ["self", "tree"] (mh P w C d)) (mT:Meth K C "taken" f) (bT:Binds K fd ["self", "tree"] [])
 (gN:av P w K mg base aF 1 fN dN kJ (jE P w C)) (mN:Meth K C "node" fN) (bN:Binds K dN kJ []):av P w K mg base aF (k+1+1) f fd ["self", "tree"] (mh P w C (d+1)):=by
 refine F.ok Ai (λvs H Q E h=>?_) (λcdv A outer s H vs Q E hr h=>?_)
 . obtain ⟨y,dy,nm,sp,nd,kn,ch,im,ex,names,S,t,v,b,rfl,_⟩:=h
   rfl
 . obtain ⟨y,dy,nm,sp,nd,kn,ch,im,ex,names,S,t,v,b,rfl,hO,hv,hc,hd,hB,hb,kk⟩:=h
   have hu:=jV hr
   have yQ:=Ek hr
   have dM:=hr.mono (Nat.succ_le_succ (Nat.zero_le k))
   refine ⟨_,af (bQ (eE (oT (pv 1))) (ao (aK ag)) aV)
    (af (bQ (eE (oT (pv 1))) (ao (aK ag)) aV)
    (af (ax (i:=2) Ai.nd rfl (Or.inl rfl) (vG yQ (cA (pv 0) rfl) (pv 1) ⟨rfl,rfl,rfl,rfl⟩))
    (af (bQ (eE (kW (pv 2)))
     (af (ax (i:=2) Ai.nd rfl (Or.inl rfl) (bu (pv 0) T.cl mN gN dM bN .nil aB (aa (pF hu (cA (pv 0) rfl) (aQ (r:=cE K) bj (pv 1) ag (λ_ _=>rfl)) (λ_ _=>rfl))
      (aa (bu (pv 0) T.cl mT G hr bT .nil aB (aa (aQ (r:=cE K) bj (pv 1) ag (λ_ _=>rfl)) ab))
      (aa (bu (pv 0) T.cl mT G hr bT .nil aB (aa (aQ (r:=cE K) bj (pv 1) ag (λ_ _=>rfl)) ab)) ab)))))
     (ao (vH yQ (cA (pv 0) rfl) (pv 1) (pv 2) rfl))) aV)
    (ao (aK (pv 2)))))),?_⟩
   cases t with
   | leaf c=>
    cases (show v=.bl c from hv)
    have two:=hO.fs.two
    cases c
    . refine ⟨_,rfl,.inl ⟨_,rfl,_,rfl,bw rfl ?_⟩⟩
      refine ⟨_,rfl,.inl ⟨_,rfl,_,rfl,cb rfl ?_⟩⟩
      exact kk 0 S H hO gs (.refl S) (hB.up (Nat.le_add_right ..)) rfl rfl (λp hp=>.inl hp) (by omega) hO.fs.t0
    . refine ⟨_,rfl,.inl ⟨_,rfl,_,rfl,cb rfl ?_⟩⟩
      exact kk 1 S H hO gs (.refl S) (hB.up (Nat.le_add_right ..)) rfl rfl (λp hp=>.inl hp) (by omega) hO.fs.t1
   | node n l r=>
    obtain ⟨a,vl,vr,rfl,ha,hl,hR⟩:=hv
    have cU:eP H (.node n l r) a:=⟨⟨a,vl,vr,rfl,ha,hl,hR⟩,Nat.le_trans (cI hc) hO.n8,vJ hc hO.ns⟩
    refine ⟨_,rfl,.inr ⟨_,rfl,_,rfl,bw rfl ?_⟩⟩
    refine ⟨_,rfl,.inr ⟨_,rfl,_,rfl,bw rfl ?_⟩⟩
    refine ⟨_,rfl,y,C,dy,_,_,rfl,hO.hy,T.cl,T.n6,Eh ..,im,_,rfl,hO.hi,_,rfl,_,a,rfl,hO.hi,cU,λp hp=>(hO.ik p hp).1,?_⟩
    cases yR:eu S.IM (.node n l r) with
    | some u=>
     obtain ⟨b',hm⟩:=oU yR
     obtain ⟨_,i,hi,e1,e2⟩:=hO.ik _ hm
     cases (show u=.int (i:Int) from e1)
     refine ⟨_,rfl,_,rfl,bw rfl ⟨_,rfl,?_⟩⟩
     exact kk i S H hO gs (.refl S) (hB.up (Nat.le_add_right ..)) rfl rfl (λp hp=>.inl hp) hi e2
    | none=>
     obtain ⟨j,hj,gg,cl,cr⟩:=vN hc
     have tf:=(List.getElem?_eq_some_iff.mp hj).1
     have vI:cg names l:=fk (i:=0) (ns:=names) cl (Nat.zero_le _)
     have O1:cg names r:=fk (i:=0) (ns:=names) cr (Nat.zero_le _)
     have hsz:cX (.node n l r)=cX l+cX r+2:=rfl
     have tj:(Tr.node n l r).dep=max l.dep r.dep+1:=rfl
     refine ⟨_,rfl,_,rfl,cb rfl ?_⟩
     refine ⟨_,rfl,y,dy,_,rfl,hO.hy,lF _ _ _ _ _ _ _ (by decide +kernel) (by decide +kernel) (by decide +kernel) (by decide +kernel) (by decide +kernel) (by decide +kernel) (by decide +kernel),?_⟩
     refine ⟨_,rfl,y,C,dy,_,_,rfl,hO.hy,T.cl,T.n2,Le ..,_,rfl,a,_,0,_,rfl,rfl,aP.of ha,aA (j:=0) rfl,sp,.int ((0+j:Nat):Int),rfl,?_,?_⟩
     . have:=fj.k (k:=.inr n) hO.hs
       rw [yN names 0 j n hO.nn hj] at this
       exact this
     refine ⟨_,rfl,y,dy,_,rfl,hO.hy,lF _ _ _ _ _ _ _ (by decide +kernel) (by decide +kernel) (by decide +kernel) (by decide +kernel) (by decide +kernel) (by decide +kernel) (by decide +kernel),?_⟩
     refine ⟨_,rfl,a,_,1,_,rfl,rfl,aP.of ha,aA (j:=1) rfl,?_⟩
     refine ⟨y,dy,nm,sp,nd,kn,ch,im,ex,names,S,l,vl,b,rfl,hO,hl,vI,by omega,hB,by omega,λn1 S1 H1 aM k1 g1 B1 c1 x1 i1 l1 t1=>?_⟩
     have lC:=hO.dY k1 _ _ ha
     refine ⟨_,rfl,y,dy,_,rfl,aM.hy,lF _ _ _ _ _ _ _ (by decide +kernel) (by decide +kernel) (by decide +kernel) (by decide +kernel) (by decide +kernel) (by decide +kernel) (by decide +kernel),?_⟩
     refine ⟨_,rfl,a,_,2,_,rfl,rfl,aP.of lC,aA (j:=2) rfl,?_⟩
     refine ⟨y,dy,nm,sp,nd,kn,ch,im,ex,names,S1,r,vr,b+cX l,rfl,aM,hR.keep (hO.dY k1),O1,by omega,B1,by omega,λn2 S2 H2 dQ k2 g2 B2 c2 x2 i2 l2 t2=>?_⟩
     have vO:n1<S2.N.length:=Nat.lt_of_lt_of_le l1 g2.le
     have El:aE S2.TS n1=l:=by rw [g2.aE (by rw [← aM.fs.len]; exact l1)]; exact t1
     refine ⟨y,dy,nm,sp,nd,kn,ch,im,ex,names,S2,j,n1,n2,b+cX l+cX r,by rw [Nat.zero_add]; rfl,dQ,tf,vO,l2,dQ.fs.Ej dQ.nn vO tf (by rw [El]; exact cl),dQ.fs.Ej dQ.nn l2 tf (by rw [t2]; exact cr),B2,by omega,λn3 S3 H3 fz k3 g3 B3 c3 m3 x3 l3 s3 t3=>?_⟩
     have tD:=(k1.trans k2).trans k3
     have Jj:aE S3.TS n3=.node n l r:=by
      rw [t3,El,t2,if_neg (λz=>gg (by rw [← El,← t2,z])),List.getD_eq_getElem?_getD,hj]
      rfl
     have oW:eP H3 (.node n l r) a:=cU.keep (hO.dY tD)
     have d5:eu S3.IM (.node n l r)=none:=oV λp hp z=>by
      rw [m3] at hp
      rcases i2 p hp with hp | hp
      . rcases i1 p hp with hp | hp
        . exact sZ yR p hp z
        . rw [z] at hp
          omega
      . rw [z] at hp
        omega
     refine ⟨_,rfl,_,rfl,y,C,dy,_,_,rfl,fz.hy,T.cl,T.n6,Eh ..,_,rfl,im,S3.IM,_,a,rfl,rfl,fz.hi,oW,λp hp=>(fz.ik p hp).1,d5,big (by have:=B3.b3; omega),?_⟩
     have iu:=fz.G8 oW l3 Jj
     refine ⟨_,rfl,kk n3 _ _ iu (tD.trans (xa (.inr (.inr (.inr (.inl rfl)))))) ((g1.trans g2).trans ⟨g3.gn,g3.gt⟩) ((B3.OX _).up (by omega)) (c3.trans (c2.trans c1)) (x3.trans (x2.trans x1)) (λp hp=>?_) l3 Jj⟩
     rcases List.mem_append.mp hp with hp | hp
     . rw [m3] at hp
       rcases i2 p hp with hp | hp
       . rcases i1 p hp with hp | hp
         . exact .inl hp
         . exact .inr (by omega)
       . exact .inr (by omega)
     . rw [List.mem_singleton] at hp
       subst hp
       exact .inr (Nat.le_refl _)
def j7 (P:Program) (w:World) (C:Addr) (d:Nat):Sp:=λvs H Q _=>∃(y dy nm sp nd kn ch im ex:Addr) (names:List Str) (S:di) (n b:Nat),vs=[.ref y,.int (n:Int)]/\FO P w C H y dy nm sp nd kn ch im ex names S/\n<S.N.length/\(aE S.TS n).dep<d/\Bd S b/\b+cX (aE S.TS n)<100000/\
 ∀(v:V) (S':di) (H':Hp),FO P w C H' y dy nm sp nd kn ch im ex names S'->Kp H H' nd kn ch im ex->S'.N=S.N->S'.TS=S.TS->Bd S' (b+cX (aE S.TS n))->(∀kv∈S'.EX,kv∈S.EX\/∃i:Nat,kv.1=.inl (i:Int)/\(aE S.TS i).dep<=(aE S.TS n).dep)->aZ H' (aE S.TS n) v->Q v H'
abbrev O3:List Str:=["self", "number", "tree", "node"]
theorem xb:aT O3 ["self", "number"] (ak gr):=⟨rfl,rfl,rfl,by decide +kernel,rfl,by decide +kernel,by decide +kernel⟩
theorem xc {f:Addr}{fd:FuncData}{d k:Nat}(F:cy K "tree_at" "Forest.tree_at" gr f fd) (T:il K mg C) (G:av P w K mg base aF k f fd ["self", "number"] (j7 P w C d)) (mT:Meth K C "tree_at" f) (bT:Binds K fd ["self", "number"] []) :
 av P w K mg base aF (k+1) f fd ["self", "number"] (j7 P w C (d+1)):=by
 refine F.ok xb (λvs H Q E h=>?_) (λcdv A outer s H vs Q E hr h=>?_)
 . obtain ⟨y,dy,nm,sp,nd,kn,ch,im,ex,names,S,n,b,rfl,_⟩:=h
   rfl
 . obtain ⟨y,dy,nm,sp,nd,kn,ch,im,ex,names,S,n,b,rfl,hO,hn,hd,hB,hb,kk⟩:=h
   have hu:=jV hr
   refine ⟨_,af (ax (i:=2) xb.nd rfl (Or.inl rfl) (nv hu (cA (pv 0) rfl) (pv 1) ⟨rfl,rfl,rfl,rfl⟩))
    (af (bQ (eE (kW (pv 2)))
     (af (ax (i:=3) xb.nd rfl (Or.inl rfl) (aQ (r:=fU K) b0 (cA (pv 0) rfl) (pv 1) (λ_ _=>rfl)))
     (af (ax (i:=2) xb.nd rfl (Or.inl rfl) (df (aa (aQ (r:=fU K) b0 (cA (pv 0) rfl) (aQ (r:=cE K) bj (pv 3) ag (λ_ _=>rfl)) (λ_ _=>rfl))
      (aa (bu (pv 0) T.cl mT G hr bT .nil aB (aa (aQ (r:=cE K) bj (pv 3) ag (λ_ _=>rfl)) ab))
      (aa (bu (pv 0) T.cl mT G hr bT .nil aB (aa (aQ (r:=cE K) bj (pv 3) ag (λ_ _=>rfl)) ab)) ab)))))
     (ao (lY hu (cA (pv 0) rfl) (pv 1) (pv 2) rfl)))) aV)
    (ao (aK (pv 2)))),?_⟩
   refine ⟨_,rfl,y,C,dy,_,_,rfl,hO.hy,T.cl,T.n7,Ei ..,ex,rfl,.inl ⟨_,.inl hO.he⟩,_,rfl,_,fj.k (k:=.inl (n:Int)) hO.he,?_⟩
   cases hv:aX S.EX (.inl (n:Int)) with
   | some v=>
    obtain ⟨i,e1,i1,i2⟩:=hO.ek _ (lG hv)
    have ei:i=n:=by have:=Sum.inl.inj e1; omega
    subst ei
    have IY:v≠.aS:=λz=>by
     have i3:aZ H (aE S.TS i) v:=i2
     rw [z] at i3
     cases ht:aE S.TS i with
     | leaf c=>rw [ht] at i3; cases (show V.aS=.bl c from i3)
     | node a l r=>rw [ht] at i3; obtain ⟨_,_,_,z,_⟩:=i3; cases z
    refine ⟨_,rfl,_,rfl,bw (decide_eq_false IY) ⟨_,rfl,?_⟩⟩
    exact kk v S H hO gs rfl rfl (hB.up (Nat.le_add_right ..)) (λkv h=>.inl h) i2
   | none=>
    have n2:2<=n:=Nat.le_of_not_lt λq=>by
     rcases (show n=0\/n=1 by omega) with rfl | rfl
     . rw [show ((0:Nat):Int)=0 from rfl,hO.e0.1] at hv
       cases hv
     . rw [show ((1:Nat):Int)=1 from rfl,hO.e0.2] at hv
       cases hv
    obtain ⟨a1,a2,a3,a4,a5,a6,a7⟩:=hO.fs.nd n n2 hn
    have Lh:low S.N n<S.N.length:=by omega
    have Li:fX S.N n<S.N.length:=by omega
    have hsz:cX (aE S.TS n)=cX (aE S.TS (low S.N n))+cX (aE S.TS (fX S.N n))+2:=by rw [a7]; rfl
    have tj:(aE S.TS n).dep=max (aE S.TS (low S.N n)).dep (aE S.TS (fX S.N n)).dep+1:=by rw [a7]; rfl
    obtain ⟨t,h1,h2⟩:=hO.node hn
    refine ⟨_,rfl,_,rfl,cb rfl ?_⟩
    refine ⟨_,rfl,y,C,dy,_,_,rfl,hO.hy,T.cl,T.n3,nQ ..,_,rfl,nd,_,_,.ref t,rfl,rfl,ay.of hO.hd,aA (by rw [List.getElem?_map,h1]; rfl),?_⟩
    refine ⟨_,rfl,y,C,dy,_,_,rfl,hO.hy,T.cl,T.n1,Ld ..,_,rfl,t,_,0,_,rfl,rfl,aP.of h2,aA (j:=0) rfl,nm,_,_,.str (names.getD (aD S.N n) ""),rfl,rfl,ay.of hO.hn,aA (by rw [List.getElem?_map]; exact (show names[aD S.N n]?.map V.str=some (.str (names.getD (aD S.N n) "")) by rw [List.getD_eq_getElem?_getD,List.getElem?_eq_getElem a1]; rfl)),?_⟩
    refine ⟨_,rfl,y,dy,_,rfl,hO.hy,lF _ _ _ _ _ _ _ (by decide +kernel) (by decide +kernel) (by decide +kernel) (by decide +kernel) (by decide +kernel) (by decide +kernel) (by decide +kernel),?_⟩
    refine ⟨_,rfl,t,_,1,_,rfl,rfl,aP.of h2,aA (j:=1) rfl,?_⟩
    refine ⟨y,dy,nm,sp,nd,kn,ch,im,ex,names,S,low S.N n,b,rfl,hO,Lh,by omega,hB,by omega,λv1 S1 H1 aM k1 g1 t1 B1 x1 r1=>?_⟩
    have Em:=hO.dY k1 _ _ h2
    refine ⟨_,rfl,y,dy,_,rfl,aM.hy,lF _ _ _ _ _ _ _ (by decide +kernel) (by decide +kernel) (by decide +kernel) (by decide +kernel) (by decide +kernel) (by decide +kernel) (by decide +kernel),?_⟩
    refine ⟨_,rfl,t,_,2,_,rfl,rfl,aP.of Em,aA (j:=2) rfl,?_⟩
    refine ⟨y,dy,nm,sp,nd,kn,ch,im,ex,names,S1,fX S.N n,b+cX (aE S.TS (low S.N n)),rfl,aM,by rw [g1]; exact Li,by rw [t1]; omega,B1,by rw [t1]; omega,λv2 S2 H2 dQ k2 g2 t2 B2 x2 r2=>?_⟩
    rw [t1] at t2 B2 x2 r2
    refine ⟨(by show 3<=sizeLine; decide),λq hq=>?_⟩
    have s3:ai H2 (upd H2 q (.tup [.str (names.getD (aD S.N n) ""),v1,v2])):=ai.ar hq
    have q3:(upd H2 q (.tup [.str (names.getD (aD S.N n) ""),v1,v2])) q=some (.tup [.str (names.getD (aD S.N n) ""),v1,v2]):=ae
    show dZ _ _ _ _ (upd H2 q (.tup [.str (names.getD (aD S.N n) ""),v1,v2]))
    generalize upd H2 q (.tup [.str (names.getD (aD S.N n) ""),v1,v2])=H3 at s3 q3 ⊢
    have fz:=dQ.same s3
    have Jk:∀a xs,H2 a=some (.tup xs)->H3 a=some (.tup xs):=λa xs h=>s3 _ _ h
    have tD:=(k1.trans k2).trans (Kp.of s3)
    have hT:aZ H3 (aE S.TS n) (.ref q):=by
     rw [a7]
     exact ⟨q,v1,v2,rfl,q3,(r1.keep (aM.dY k2)).keep Jk,r2.keep Jk⟩
    have d5:aX S2.EX (.inl (n:Int))=none:=lH λkv bF z=>by
     rcases x2 kv bF with bF | ⟨i,e1,e2⟩
     . rcases x1 kv bF with bF | ⟨i,e1,e2⟩
       . exact vM hv kv bF z
       . rw [e1] at z
         have:i=n:=by have:=Sum.inl.inj z; omega
         rw [this] at e2
         omega
     . rw [e1] at z
       have:i=n:=by have:=Sum.inl.inj z; omega
       rw [this] at e2
       omega
    refine ⟨_,rfl,_,rfl,y,C,dy,_,_,rfl,fz.hy,T.cl,T.n7,Ei ..,_,rfl,ex,_,rfl,jj.k (k:=.inl (n:Int)) fz.he (big (by have:=B2.b4; omega)),?_⟩
    rw [nu _ d5]
    have iu:=fz.G9 (i:=n) (v:=.ref q) (by rw [t2]; exact hT) (by rw [g2,g1]; exact hn) d5
    refine ⟨_,rfl,kk (.ref q) _ _ iu (tD.trans (xa (.inr (.inr (.inr (.inr rfl)))))) (g2.trans g1) t2 ((B2.OY _).up (by omega)) (λkv bF=>?_) (hT.keep λa xs e=>by rw [aj (dc e fz.he (by intro z; cases z))]; exact e)⟩
    rcases List.mem_append.mp bF with bF | bF
    . rcases x2 kv bF with bF | ⟨i,e1,e2⟩
      . rcases x1 kv bF with bF | ⟨i,e1,e2⟩
        . exact .inl bF
        . exact .inr ⟨i,e1,by omega⟩
      . exact .inr ⟨i,e1,by omega⟩
    . rw [List.mem_singleton] at bF
      subst bF
      exact .inr ⟨n,rfl,Nat.le_refl _⟩
end
end Gen
namespace Gen
open PySem L2
abbrev gu:Stmt:=inClass (top 7) 5
def cst:Nat->Nat
 | 0=>0
 | d+1=>2*cst d+2
def hf (N:List Nd) (s:Nat) (b:Bool) (n:Nat):Nat:=if aD N n=s then (if b=true then fX N n else low N n) else n
section
variable {names:List Str}{N:List Nd}{TS:List Tr}
theorem FS.at2 (h:FS names N TS){n:Nat}(hn:n<N.length) (hs:aD N n<names.length):2<=n:=Nat.le_of_not_lt λq=>by
 unfold aD at hs
 rcases (show n=0\/n=1 by omega) with rfl | rfl
 . rw [h.z0] at hs
   exact Nat.lt_irrefl _ hs
 . rw [h.z1] at hs
   exact Nat.lt_irrefl _ hs
theorem FS.xf (h:FS names N TS){n s:Nat}{b:Bool}(hn:n<N.length) (hs:s<names.length):hf N s b n<N.length:=by
 unfold hf
 split
 . next e=>
   obtain ⟨_,a2,a3,_⟩:=h.nd n (h.at2 hn (by omega)) hn
   split <;> omega
 . exact hn
theorem FS.tE (h:FS names N TS){n s:Nat}{b:Bool}(hn:n<N.length) (hs:s<names.length) (hle:s<=aD N n):s<aD N (hf N s b n):=by
 unfold hf
 split
 . next e=>
   obtain ⟨_,_,_,_,a5,a6,_⟩:=h.nd n (h.at2 hn (by omega)) hn
   split <;> omega
 . next e=>omega
theorem FS.xg (h:FS names N TS){n s:Nat}(hn:n<N.length) (hs:s<names.length) (v:Str->Bool):ev v (aE TS n)=if v (names.getD s "")=true then ev v (aE TS (hf N s true n)) else ev v (aE TS (hf N s false n)):=by
 unfold hf
 by_cases e:aD N n=s
 . obtain ⟨_,_,_,_,_,_,a7⟩:=h.nd n (h.at2 hn (by omega)) hn
   rw [if_pos e,if_pos e,a7,e]
   rfl
 . rw [if_neg e,if_neg e]
   split <;> rfl
end
def j8 (P:Program) (w:World) (C:Addr) (d:Nat):Sp:=λvs H Q _=>∃(y dy nm sp nd kn ch im ex:Addr) (names:List Str) (S:di) (t h l b:Nat),vs=[.ref y,.int (t:Int),.int (h:Int),.int (l:Int)]/\FO P w C H y dy nm sp nd kn ch im ex names S/\t<S.N.length/\h<S.N.length/\l<S.N.length/\names.length-min (aD S.N t) (min (aD S.N h) (aD S.N l))<d/\Bd S b/\b+cst d<100000/\
 ∀(n:Nat) (S':di) (H':Hp),FO P w C H' y dy nm sp nd kn ch im ex names S'->Kp H H' nd kn ch im ex->dw S S'->Bd S' (b+cst d)->S'.IM=S.IM->S'.EX=S.EX->n<S'.N.length->(∀v,ev v (aE S'.TS n)=if ev v (aE S.TS t)=true then ev v (aE S.TS h) else ev v (aE S.TS l))->min (aD S.N t) (min (aD S.N h) (aD S.N l))<=aD S'.N n->Q (.int (n:Int)) H'
abbrev O4:List Str:=["self", "test", "high", "low", "key", "number", "spot", "lows", "highs"]
abbrev oX:List Str:=["self", "test", "high", "low"]
theorem nU:aT O4 oX (ak gu):=⟨rfl,rfl,rfl,by decide +kernel,rfl,by decide +kernel,by decide +kernel⟩
section
variable {P:Program}{w:World}{K:W.Frag}{mg:Str->Option Value}{base:Heap}{C:Addr}
theorem yS {f fN fH:Addr}{fd dN dH:FuncData}{d k:Nat}(F:cy K "chosen" "Forest.chosen" gu f fd) (T:il K mg C) (O2:fZ mg) (G:av P w K mg base aF (k+1) f fd oX (j8 P w C d)) (mC:Meth K C "chosen" f) (bC:Binds K fd oX [])
 (gN:av P w K mg base aF 1 fN dN kJ (jE P w C)) (mN:Meth K C "node" fN) (bN:Binds K dN kJ [])
 (gH:av P w K mg base aF 1 fH dH ["self", "number", "spot", "side"] (oS P w C)) (mH:Meth K C "half" fH) (bH:Binds K dH ["self", "number", "spot", "side"] []):av P w K mg base aF (k+1+1) f fd oX (j8 P w C (d+1)):=by
 refine F.ok nU (λvs H Q E h=>?_) (λcdv A outer s H vs Q E hr h=>?_)
 . obtain ⟨y,dy,nm,sp,nd,kn,ch,im,ex,names,S,t,h,l,b,rfl,_⟩:=h
   rfl
 . obtain ⟨y,dy,nm,sp,nd,kn,ch,im,ex,names,S,t,h,l,b,rfl,hO,ht,hh,hl,hd,hB,hb,kk⟩:=h
   have hu:=jV hr
   have dM:=hr.mono (Nat.succ_le_succ (Nat.zero_le k))
   refine ⟨_,af (bQ (PW.pt (i5 (bz dq (pv 1) ag (bL _)) (jv (bz dq (pv 2) (pv 3) (bL _))))) (ao (aK (pv 2))) aV)
    (af (bQ (bz dq (pv 1) ag (bL _)) (ao (aK (pv 3))) aV)
    (af (ax (i:=4) nU.nd rfl (Or.inl rfl) (df (aa (pv 1) (aa (pv 2) (aa (pv 3) ab)))))
    (af (ax (i:=5) nU.nd rfl (Or.inl rfl) (nv hu (cA (pv 0) rfl) (pv 4) ⟨rfl,rfl,rfl,rfl⟩))
    (af (bQ (eE (kW (pv 5)))
     (af (ax (i:=6) nU.nd rfl (Or.inl rfl) (aU (yP rfl) (by rfl) O2.min PyProof.Rows.boot_min (aa (aQ (r:=cE K) bj (aQ (r:=fU K) b0 (cA (pv 0) rfl) (pv 1) (λ_ _=>rfl)) ag (λ_ _=>rfl))
      (aa (aQ (r:=cE K) bj (aQ (r:=fU K) b0 (cA (pv 0) rfl) (pv 2) (λ_ _=>rfl)) ag (λ_ _=>rfl)) (aa (aQ (r:=cE K) bj (aQ (r:=fU K) b0 (cA (pv 0) rfl) (pv 3) (λ_ _=>rfl)) ag (λ_ _=>rfl)) ab)))))
     (af (ax (i:=7) nU.nd rfl (Or.inl rfl) (bu (pv 0) T.cl mC G hr bC .nil aB (aa (bu (pv 0) T.cl mH gH dM bH .nil aB (aa (pv 1) (aa (pv 6) (aa ag ab))))
      (aa (bu (pv 0) T.cl mH gH dM bH .nil aB (aa (pv 2) (aa (pv 6) (aa ag ab)))) (aa (bu (pv 0) T.cl mH gH dM bH .nil aB (aa (pv 3) (aa (pv 6) (aa ag ab)))) ab)))))
     (af (ax (i:=8) nU.nd rfl (Or.inl rfl) (bu (pv 0) T.cl mC G hr bC .nil aB (aa (bu (pv 0) T.cl mH gH dM bH .nil aB (aa (pv 1) (aa (pv 6) (aa ag ab))))
      (aa (bu (pv 0) T.cl mH gH dM bH .nil aB (aa (pv 2) (aa (pv 6) (aa ag ab)))) (aa (bu (pv 0) T.cl mH gH dM bH .nil aB (aa (pv 3) (aa (pv 6) (aa ag ab)))) ab)))))
     (af (ax (i:=5) nU.nd rfl (Or.inl rfl) (bu (pv 0) T.cl mN gN dM bN .nil aB (aa (pv 6) (aa (pv 7) (aa (pv 8) ab)))))
     (ao (lY hu (cA (pv 0) rfl) (pv 4) (pv 5) rfl)))))) aV)
    (ao (aK (pv 5))))))),?_⟩
   have RP:cst (d+1)=2*cst d+2:=rfl
   have eD:∀{H1:Hp}{n:Nat},FO P w C H1 y dy nm sp nd kn ch im ex names S->Kp H H1 nd kn ch im ex->n<S.N.length->(∀v,ev v (aE S.TS n)=if ev v (aE S.TS t)=true then ev v (aE S.TS h) else ev v (aE S.TS l))->min (aD S.N t) (min (aD S.N h) (aD S.N l))<=aD S.N n->Q (.int (n:Int)) H1:=
    λo1 k1 n1 v1 m1=>kk _ S _ o1 k1 (.refl S) (hB.up (Nat.le_add_right ..)) rfl rfl n1 v1 m1
   refine ⟨_,rfl,rfl,_,rfl,?_⟩
   by_cases e1:t=1
   . refine cb (decide_eq_true (by rw [e1]; rfl)) (cb rfl ⟨_,rfl,eD hO gs hh (λv=>?_) (by omega)⟩)
     rw [e1,hO.fs.t1]
     exact (if_pos rfl).symm
   refine bw (decide_eq_false λz=>e1 (by have:=V.int.inj z; omega)) ⟨_,rfl,_,rfl,rfl,_,rfl,?_⟩
   by_cases e2:h=l
   . refine cb (decide_eq_true (by rw [e2])) ⟨_,rfl,eD hO gs hh (λv=>?_) (by omega)⟩
     rw [e2]
     split <;> rfl
   refine bw (decide_eq_false λz=>e2 (by have:=V.int.inj z; omega)) ⟨_,rfl,rfl,_,rfl,?_⟩
   by_cases e3:t=0
   . refine cb (decide_eq_true (by rw [e3]; rfl)) ⟨_,rfl,eD hO gs hl (λv=>?_) (by omega)⟩
     rw [e3,hO.fs.t0]
     exact (if_neg (λz=>by cases z)).symm
   refine bw (decide_eq_false λz=>e3 (by have:=V.int.inj z; omega)) ?_
   refine ⟨_,rfl,_,rfl,_,rfl,(by show 3<=sizeLine; decide),λq hq=>?_⟩
   have q1:(upd H q (.tup (eO (t,h,l)))) q=some (.tup (eO (t,h,l))):=ae
   have s1:ai H (upd H q (.tup (eO (t,h,l)))):=ai.ar hq
   show dZ _ _ _ _ (upd H q (.tup (eO (t,h,l))))
   generalize upd H q (.tup (eO (t,h,l)))=H1 at q1 s1 ⊢
   have aM:=hO.same s1
   have cU:H1 q=some (.tup ((hZ (t,h,l)).map kV)):=q1
   refine ⟨_,rfl,y,C,dy,_,_,rfl,aM.hy,T.cl,T.n5,Eg ..,ch,rfl,.inr ⟨_,.inl aM.hc⟩,_,rfl,_,fj.t (k:=hZ (t,h,l)) aM.hc cU,?_⟩
   cases hv:aX S.CH (hZ (t,h,l)) with
   | some u=>
    obtain ⟨t',h',l',n,ek,en,_,_,_,l4,qC,O5⟩:=aM.ck _ (lG hv)
    have O6:=pP (p:=(t,h,l)) (q:=(t',h',l')) ek
    cases O6
    cases (show u=.int (n:Int) from en)
    exact ⟨_,rfl,_,rfl,bw rfl ⟨_,rfl,eD aM (.of s1) l4 qC O5⟩⟩
   | none=>
    have tl:aD S.N t<names.length:=(hO.fs.nd t (by omega) ht).1
    refine ⟨_,rfl,_,rfl,cb rfl ?_⟩
    obtain ⟨r1,x1,O7⟩:=aM.node ht
    obtain ⟨r2,x2,O8⟩:=aM.node hh
    obtain ⟨r3,x3,O9⟩:=aM.node hl
    obtain ⟨s0,Pa⟩:∃s0,s0=min (aD S.N t) (min (aD S.N h) (aD S.N l)):=⟨_,rfl⟩
    have mZ:s0<names.length:=by omega
    refine ⟨_,rfl,y,C,dy,_,_,rfl,aM.hy,T.cl,T.n3,nQ ..,_,rfl,nd,_,_,.ref r1,rfl,rfl,ay.of aM.hd,aA (by rw [List.getElem?_map,x1]; rfl),r1,_,0,.int (aD S.N t:Int),rfl,rfl,aP.of O7,aA (j:=0) rfl,?_⟩
    refine ⟨_,rfl,y,C,dy,_,_,rfl,aM.hy,T.cl,T.n3,nQ ..,_,rfl,nd,_,_,.ref r2,rfl,rfl,ay.of aM.hd,aA (by rw [List.getElem?_map,x2]; rfl),r2,_,0,.int (aD S.N h:Int),rfl,rfl,aP.of O8,aA (j:=0) rfl,?_⟩
    refine ⟨_,rfl,y,C,dy,_,_,rfl,aM.hy,T.cl,T.n3,nQ ..,_,rfl,nd,_,_,.ref r3,rfl,rfl,ay.of aM.hd,aA (by rw [List.getElem?_map,x3]; rfl),r3,_,0,.int (aD S.N l:Int),rfl,rfl,aP.of O9,aA (j:=0) rfl,?_⟩
    refine ⟨_,_,_,rfl,?_⟩
    rw [show min ((aD S.N t:Nat):Int) (min ((aD S.N h:Nat):Int) ((aD S.N l:Nat):Int))=((s0:Nat):Int) by omega]
    have lI:∀m∈["half", "chosen", "node"],(cF nm sp nd kn ch im ex).lookup (m:Str)=none:=λm hm=>by
     simp only [List.mem_cons,List.not_mem_nil,or_false] at hm
     rcases hm with rfl | rfl | rfl <;> exact lF _ _ _ _ _ _ _ (by decide +kernel) (by decide +kernel) (by decide +kernel) (by decide +kernel) (by decide +kernel) (by decide +kernel) (by decide +kernel)
    have nH:=lI "half" (by decide)
    have nC:=lI "chosen" (by decide)
    have nN:=lI "node" (by decide)
    have lt:=λb=>hO.fs.xf (b:=b) ht mZ
    have lh:=λb=>hO.fs.xf (b:=b) hh mZ
    have ll:=λb=>hO.fs.xf (b:=b) hl mZ
    have pt:=λb=>hO.fs.tE (b:=b) ht mZ (by omega)
    have ph:=λb=>hO.fs.tE (b:=b) hh mZ (by omega)
    have pl:=λb=>hO.fs.tE (b:=b) hl mZ (by omega)
    refine ⟨_,rfl,y,dy,_,rfl,aM.hy,nC,?_⟩
    refine ⟨_,rfl,y,dy,_,rfl,aM.hy,nH,_,rfl,_,rfl,y,dy,nm,sp,nd,kn,ch,im,ex,names,S,t,s0,false,rfl,aM,ht,?_⟩
    refine ⟨_,rfl,y,dy,_,rfl,aM.hy,nH,_,rfl,_,rfl,y,dy,nm,sp,nd,kn,ch,im,ex,names,S,h,s0,false,rfl,aM,hh,?_⟩
    refine ⟨_,rfl,y,dy,_,rfl,aM.hy,nH,_,rfl,_,rfl,y,dy,nm,sp,nd,kn,ch,im,ex,names,S,l,s0,false,rfl,aM,hl,?_⟩
    have m1:=pt false
    have m2:=ph false
    have m3:=pl false
    refine ⟨y,dy,nm,sp,nd,kn,ch,im,ex,names,S,hf S.N s0 false t,hf S.N s0 false h,hf S.N s0 false l,b,rfl,aM,lt false,lh false,ll false,by omega,hB,by omega,λn2 S2 H2 dQ k2 g2 B2 i2 x2 l2 v2 p2=>?_⟩
    have Sa:=g2.le
    have vP:∀{i:Nat},i<S.N.length->aD S2.N i=aD S.N i:=λhi=>g2.aD hi
    have En:∀{i:Nat},i<S.N.length->aE S2.TS i=aE S.TS i:=λhi=>g2.aE (by rw [← hO.fs.len]; exact hi)
    have Eo:∀{i:Nat},i<S.N.length->∀b,hf S2.N s0 b i=hf S.N s0 b i:=λhi b=>by unfold hf aD low fX; rw [g2.nd hi]
    refine ⟨_,rfl,y,dy,_,rfl,dQ.hy,nC,?_⟩
    refine ⟨_,rfl,y,dy,_,rfl,dQ.hy,nH,_,rfl,_,rfl,y,dy,nm,sp,nd,kn,ch,im,ex,names,S2,t,s0,true,rfl,dQ,by omega,?_⟩
    refine ⟨_,rfl,y,dy,_,rfl,dQ.hy,nH,_,rfl,_,rfl,y,dy,nm,sp,nd,kn,ch,im,ex,names,S2,h,s0,true,rfl,dQ,by omega,?_⟩
    refine ⟨_,rfl,y,dy,_,rfl,dQ.hy,nH,_,rfl,_,rfl,y,dy,nm,sp,nd,kn,ch,im,ex,names,S2,l,s0,true,rfl,dQ,by omega,?_⟩
    have m4:=pt true
    have m5:=ph true
    have m6:=pl true
    have lt':=lt true
    have Ep:=lh true
    have Er:=ll true
    have e4:=Eo ht true
    have e5:=Eo hh true
    have e6:=Eo hl true
    refine ⟨y,dy,nm,sp,nd,kn,ch,im,ex,names,S2,hf S2.N s0 true t,hf S2.N s0 true h,hf S2.N s0 true l,b+cst d,rfl,dQ,by omega,by omega,by omega,?_,B2,by omega,λn3 S3 H3 fz k3 g3 B3 i3 x3 l3 v3 p3=>?_⟩
    . rw [e4,e5,e6,vP lt',vP Ep,vP Er]
      omega
    rw [e4,e5,e6,vP lt',vP Ep,vP Er] at p3
    rw [e4,e5,e6,En lt',En Ep,En Er] at v3
    have Pb:n2<S3.N.length:=Nat.lt_of_lt_of_le l2 g3.le
    have Sb:aD S3.N n2=aD S2.N n2:=g3.aD l2
    have Pc:aE S3.TS n2=aE S2.TS n2:=g3.aE (by rw [← dQ.fs.len]; exact l2)
    refine ⟨_,rfl,y,dy,_,rfl,fz.hy,nN,_,rfl,_,rfl,_,rfl,y,dy,nm,sp,nd,kn,ch,im,ex,names,S3,s0,n2,n3,b+cst d+cst d,rfl,fz,mZ,Pb,l3,by omega,by omega,B3,by omega,λn4 S4 H4 iu k4 g4 B4 c4 i4 x4 l4 s4 t4=>?_⟩
    have Pe:=(((Kp.of s1).trans k2).trans k3).trans k4
    have oY:=(g2.trans g3).trans g4
    have qC:∀v,ev v (aE S4.TS n4)=if ev v (aE S.TS t)=true then ev v (aE S.TS h) else ev v (aE S.TS l):=λv=>by
     have e7:ev v (aE S4.TS n4)=if v (names.getD s0 "")=true then ev v (aE S3.TS n3) else ev v (aE S3.TS n2):=by
      rw [t4]
      by_cases z:n2=n3
      . rw [if_pos z,z]
        split <;> rfl
      . rw [if_neg z]
        rfl
     rw [e7,Pc,v2 v,v3 v,hO.fs.xg ht mZ v,hO.fs.xg hh mZ v,hO.fs.xg hl mZ v]
     cases v (names.getD s0 "") <;> rfl
    have Sd:=oY.le
    have yT:H4 q=some (.tup ((hZ (t,h,l)).map kV)):=aM.dY ((k2.trans k3).trans k4) _ _ cU
    have Pf:nS S4.N S4.TS (hZ (t,h,l),.int (n4:Int)):=by
     refine ⟨t,h,l,n4,rfl,rfl,by omega,by omega,by omega,l4,λv=>?_,?_⟩
     . rw [qC v,oY.aE (by rw [← hO.fs.len]; exact ht),oY.aE (by rw [← hO.fs.len]; exact hh),oY.aE (by rw [← hO.fs.len]; exact hl)]
     . rw [oY.aD ht,oY.aD hh,oY.aD hl]
       omega
    refine ⟨_,rfl,_,rfl,y,C,dy,_,_,rfl,iu.hy,T.cl,T.n5,Eg ..,_,rfl,ch,_,rfl,jj.t (k:=hZ (t,h,l)) iu.hc yT (big (by have:=B4.b2; omega)),?_⟩
    have vQ:=iu.Ha Pf
    exact ⟨_,rfl,kk n4 _ _ vQ (Pe.trans (xa (.inr (.inr (.inl rfl))))) ⟨oY.gn,oY.gt⟩ ((B4.OZ _ _).up (by omega)) (i4.trans (i3.trans i2)) (x4.trans (x3.trans x2)) l4 qC (by rw [← Pa]; exact s4)⟩
end
end Gen
namespace PySem
open Sem (wp)
theorem j9:typeLookup (.type "list") "__getattr__" = pure none:=by rw [typeLookup_type,builtinLookup_eq_fast]; kernel_rfl
theorem mz:typeLookup (.type "list") "keys" = pure none:=by rw [typeLookup_type,builtinLookup_eq_fast]; kernel_rfl
theorem kd {A:Around}{prog:Program}{w:World}{Q:Fin->Shared->Prop}{E:Value->Shared->Prop}{h:Heap}{g d t os} {a:Addr}{items:Array Value}{n:Nat}(u:Tok) (hx:h.get? a=some { cls:=.type "list",data:=.seq items n }) (hh:A.handled=none)
 (hE:∀h' tk e,Heap.NewAttrErr h h' e (.ref a) "keys" -> E (.ref e) ⟨h',g,d,tk,os⟩) :
 wpAny (model prog w) A (Builtin.«object.__getattribute__» ⟨[.ref a,.str "keys" u],[]⟩) Q E ⟨h,g,d,t,os⟩:=by
 have hT:∀t',(⟨h,g,d,t',os⟩:Shared).TypeIs (.ref a) "list":=λt'=>⟨_,hx,rfl⟩
 have Pg:=hT t
 have Hb:=mz
 have hc:[Str.ofString "__module__",Str.ofString "__name__",Str.ofString "__qualname__",Str.ofString "__doc__",Str.ofString "__annotations__"].contains (Str.ofString "keys")=false:=by decide +kernel
 unfold Builtin.«object.__getattribute__»
 repeat (any_goals (first | assumption | wp_step | refine wpAny_ite_false hc ?_))
 all_goals first
  | exact wpAny_raiseAttrError hh hE (attrMsg_fits (by decide +kernel) (by decide))
  | skip
theorem tF {A:Around}{prog:Program}{w:World}{R:Result->Shared->Prop}{h:Heap}{g d t os} {a:Addr}{items:Array Value}{n:Nat}{u:Tok}(hx:h.get? a=some { cls:=.type "list",data:=.seq items n }) (hh:A.handled=none)
 (hE:∀h' tk e,Heap.NewAttrErr h h' e (.ref a) "keys" -> R (.error (.ref e)) ⟨h',g,d,tk,os⟩) :
 codeAny (model prog w) A (.call (.builtin "list.__getattribute__") ⟨[.ref a,.str "keys" u],[]⟩) R ⟨h,g,d,t,os⟩:=
 codeAny_call_builtin F.slot_list_getattribute.plain F.entry_list_ga (F.slot_list_getattribute.check _ _ _ _ _ _ _ _ (show (⟨h,g,d,t,os⟩:Shared).TypeIs (.ref a) "list" from ⟨_,hx,rfl⟩) (F.args_list_getattribute_2 _ _) (kd u hx hh hE))
theorem tG {A:Around}{prog:Program}{w:World}{E:Value->Shared->Prop}{h:Heap}{g d t os} {a:Addr}{items:Array Value}{n:Nat}{Q:Option Value->Shared->Prop}(hx:h.get? a=some { cls:=.type "list",data:=.seq items n }) (hh:A.handled=none)
 (hQ:∀h' tk,(∀b o,h.get? b=some o->h'.get? b=some o)->Q none ⟨h',g,d,tk,os⟩):wpAny (model prog w) A (getAttr? (.ref a) "keys") Q E ⟨h,g,d,t,os⟩:=by
 have hT:(⟨h,g,d,t,os⟩:Shared).TypeIs (.ref a) "list":=⟨_,hx,rfl⟩
 have f1:=sub_AttributeError
 have f2:=F.slot_list_getattribute.lookup
 have f3:=F.slot_list_getattribute.bind (.ref a)
 have f5:=j9
 unfold getAttr? getAttrBy? getAttrBy
 repeat (any_goals (first | assumption | ((with_reducible show codeAny _ _ (Code.call (Value.builtin "list.__getattribute__") _) _ _); refine tF hx hh ?_; intro h' lJ e sW; obtain ⟨t1,u1,he⟩:=sW.there) | wp_step))
 exact hQ h' lJ sW.keeps
end PySem
namespace PySem
open Sem (wp)
namespace F
theorem cQ:entryFor table "dict.update.loop" = some Builtin.«dict.update.loop»:=entryFor_of_tree (by kernel_rfl)
theorem bf:plainId "dict.update.loop" = true:=by decide +kernel
end F
section
variable {prog:Program}{w:World}{K:Type}[DecidableEq K] {knd:KeyKind prog w K}{A:Around}{R:Result->Shared->Prop}
def tH (knd:KeyKind prog w K) (h:Heap) (u:Value) (kv:K×Value):Prop:=∃t key,u=.ref t/\h.IsTuple t #[key,kv.2]/\knd.is kv.1 key=true
theorem pQ {d it l:Addr}{items:Array Value}{kvs:List (K×Value)}(Es:d≠it) (m7:d≠l) (Ph:l≠it) (hz:kvs.length<=sizeLine) (hh:A.handled=none) :
 ∀(k i:Nat) (s:Shared) (tk:Tok) (acc:List (K×Value)),items.size-i=k->i<=items.size->kvs.length=items.size->s.heap.IsListIter it l i->s.heap.IsList l items->s.heap.DictOf knd d acc->acc.length<=i->
 (∀(j:Nat) (u:Value) (kv:K×Value),items[j]?=some u->kvs[j]?=some kv->tH knd s.heap u kv/\(∀t,u=.ref t->t≠d/\t≠it))->
 (∀h' tk,h'.DictOf knd d ((kvs.drop i).foldl (λa kv=>stored a kv.1 kv.2) acc)->(∀b o,b≠d->b≠it->s.heap.get? b=some o->h'.get? b=some o)->R (.ok (.ret .none)) { s with heap:=h',toks:=tk })->
 codeAny (model prog w) A (.builtin "dict.update.loop" ⟨[.ref d,.ref it,.int (i:Int) tk,.none],[]⟩) R s:=by
 intro k
 induction k with
 | zero=>
  intro i s tk acc hk hi hlen hit hl hd Ak hp hR
  have kI:i=items.size:=by omega
  refine codeAny_builtin F.cQ ?_
  rw [Around.under_plainId F.bf _]
  show wpAny _ A.in1 (pyNext (.ref it) >>= _) _ _ s
  refine wpAny_bind (wpAny_pyNext_list_end (A:=A.in1) hh hit hl (Array.getElem?_eq_none (by omega)) λh' he=>?_)
  refine wpAny_bind (wpAny_pure (wpAny_pure ?_))
  have hd':h'.DictOf knd d acc:=let ⟨o,es,ep,ho,r⟩:=hd; ⟨o,es,ep,he d o Es ho,r⟩
  refine hR h' s.toks ?_ λb o _ hb e=>he b o hb e
  rw [List.drop_of_length_le (by omega)]
  exact hd'
 | succ k ih=>
  intro i s tk acc hk hi hlen hit hl hd Ak hp hR
  have eG:i<items.size:=by omega
  have hx:items[i]?=some items[i]:=Array.getElem?_eq_getElem eG
  have bF:kvs[i]?=some kvs[i]:=List.getElem?_eq_getElem (by omega)
  obtain ⟨⟨t,key,ht,Lj,cU⟩,gg⟩:=hp i _ _ hx bF
  obtain ⟨Se,Pj⟩:=gg t ht
  refine codeAny_builtin F.cQ ?_
  rw [Around.under_plainId F.bf _]
  show wpAny _ A.in1 (pyNext (.ref it) >>= _) _ _ s
  refine wpAny_bind (wpAny_pyNext_list_item hit hl hx λh1 Lk tI=>?_)
  rw [ht]
  have Hc:h1.IsTuple t #[key,(kvs[i]).2]:=let ⟨o,e,r⟩:=Lj; ⟨o,(tI.2 t Pj).trans e,r⟩
  refine wpAny_bind (wpAny_holding (wpAny_bind ?_))
  refine wpAny_tryCatch ?_
  unfold Builtin.Dict.pairItems
  obtain ⟨ot,e1,Pk,n1,Et⟩:=id Hc
  refine wpAny_bind (wpAny_typeOf (show ({ s with heap:=h1 } : Shared).TypeIs (.ref t) "tuple" from ⟨ot,e1,Pk⟩) ?_)
  rw [if_pos (by decide)]
  refine wpAny_bind (wpAny_seqItems e1 Et (wpAny_pure ?_))
  show wpAny _ A.in1 (holding [key,(kvs[i]).2] (dictSet d key (kvs[i]).2)) _ _ _
  refine wpAny_holding ?_
  unfold dictSet
  try with_reducible refine wpAny_holding ?_
  have oZ:h1.DictOf knd d acc:=let ⟨o,es,ep,ho,r⟩:=hd; ⟨o,es,ep,(tI.2 d Es).trans ho,r⟩
  refine wpAny_bind (knd.pyHash cU ?_)
  refine wpAny_dictSetHashed_pairs cU oZ (λh2 hd2 ir=>?_) (by omega)
  refine wpAny_pure ⟨plainId_quiet F.bf _,?_⟩
  have er:rawInt ((i:Int)+1)=Value.int (((i+1:Nat):Nat):Int) 0:=by simp [rawInt]
  rw [er]
  have keep:∀b o,b≠d->b≠it->s.heap.get? b=some o->h2.get? b=some o:=λb o b1 b2 e=>(ir.2 b b1).trans ((tI.2 b b2).trans e)
  refine ih (i+1) _ 0 (stored acc (kvs[i]).1 (kvs[i]).2) (by omega) (by omega) hlen ?_ ?_ hd2 ?_ ?_ ?_
  . obtain ⟨o,e,r⟩:=Lk
    exact ⟨o,(ir.2 it (Ne.symm Es)).trans e,r⟩
  . obtain ⟨o,e,r⟩:=hl
    exact ⟨o,keep l o (Ne.symm m7) Ph e,r⟩
  . have:=stored_length_le acc (kvs[i]).1 (kvs[i]).2
    omega
  . intro j u kv hu Ll
    obtain ⟨⟨t',Lm,e',Pl,fq⟩,Eu⟩:=hp j u kv hu Ll
    obtain ⟨a1,a2⟩:=Eu t' e'
    obtain ⟨o,e,r⟩:=Pl
    exact ⟨⟨t',Lm,e',⟨o,keep t' o a1 a2 e,r⟩,fq⟩,Eu⟩
  . intro h' lJ hd' fq
    refine hR h' lJ ?_ λb o b1 b2 e=>fq b o b1 b2 (keep b o b1 b2 e)
    rw [List.drop_eq_getElem_cons (by omega),List.foldl_cons]
    exact hd'
end
section
variable {prog:Program}{w:World}{K:Type}[DecidableEq K] {knd:KeyKind prog w K}{A:Around}{E:Value->Shared->Prop}{s:Shared}
theorem tJ {l:Addr}{items:Array Value}{n:Nat}{kvs:List (K×Value)}{Q:Value->Shared->Prop}(hh:A.handled=none) (hl:s.heap.get? l=some { cls:=.type "list",data:=.seq items n }) (hlen:kvs.length=items.size) (hz:kvs.length<=sizeLine)
 (hp:∀(j:Nat) (u:Value) (kv:K×Value),items[j]?=some u->kvs[j]?=some kv->tH knd s.heap u kv)
 (h:∀h' tk,h'.DictOf knd s.heap.objs.size (merged [] kvs)->(∀b o,s.heap.get? b=some o->h'.get? b=some o)->Q (.ref s.heap.objs.size) { s with heap:=h',toks:=tk }) :
 wpAny (model prog w) A (call (.type "dict") [.ref l]) Q E s:=by
 refine callType_codes (Q₁:=λobj cz=>obj=.ref s.heap.objs.size/\cz = { s with heap:=s.heap.push { cls:=.type "dict",data:=.dict #[] } }) F.kt_called_dict (F.kt_typeCall_dict_1 _) F.entry_dict_init (kt_code_dict_new _ ⟨rfl,rfl⟩) ?_
 rintro obj cz ⟨rfl,rfl⟩
 have d5:(s.heap.push { cls:=.type "dict",data:=.dict #[] }).DictOf knd s.heap.objs.size []:=Heap.DictOf.new s.heap
 have oG:(s.heap.push { cls:=.type "dict",data:=.dict #[] }).get? l=some { cls:=.type "list",data:=.seq items n }:=Heap.get?_push_of_some _ hl
 refine ⟨d5.typeIs,F.args_dict_init_2 _ _,?_⟩
 unfold Builtin.«dict.__init__»
 refine wpAny_bind ?_
 unfold Builtin.Dict.selfAndRest
 refine wpAny_bind (wpAny_notOrdered_dict d5.typeIs ?_)
 show wpAny _ _ (pure (s.heap.objs.size,[Value.ref l])) _ _ _
 refine wpAny_pure ?_
 show wpAny _ _ (Builtin.Dict.updateFrom "dict.__init__" s.heap.objs.size (.ref l) [] .none) _ _ _
 unfold Builtin.Dict.updateFrom
 refine wpAny_bind (wpAny_typeOf (show ({ s with heap:=s.heap.push { cls:=.type "dict",data:=.dict #[] } } : Shared).TypeIs (.ref l) "list" from ⟨_,oG,rfl⟩) ?_)
 rw [if_pos (by decide)]
 generalize tI:({ s with heap:=s.heap.push { cls:=.type "dict",data:=.dict #[] } } : Shared)=s1 at *
 obtain ⟨g1,g2,g3,g4,g5⟩:=s1
 cases tI
 refine wpAny_bind (tG oG (by first | exact hh | rfl) λh2 Ew k2=>?_)
 rw [if_pos (show (none:Option Value).isNone=true from rfl)]
 have eU:h2.get? l=some { cls:=.type "list",data:=.seq items n }:=k2 _ _ oG
 have lt2:∀b o,(s.heap.push { cls:=.type "dict",data:=.dict #[] }).get? b=some o->b<h2.objs.size:=λb o e=>Heap.lt_size (k2 b o e)
 refine wpAny_bind (wpAny_rule (wpAny_bind (wpAny_pyIter_list (s:={ heap:=h2,gens:=s.gens,drawn:=s.drawn,toks:=Ew,os:=s.os }) (items:=items) ⟨_,eU,rfl,n,rfl⟩ ?_)))
 refine wpAny_pure ⟨plainId_quiet F.bf _,?_⟩
 have hd2:h2.DictOf knd s.heap.objs.size []:=let ⟨o,es,ep,ho,r⟩:=d5; ⟨o,es,ep,k2 _ _ ho,r⟩
 have m7:s.heap.objs.size<h2.objs.size:=let ⟨o,es,ep,ho,r⟩:=d5; lt2 _ _ ho
 have yB:l<s.heap.objs.size:=Heap.lt_size hl
 refine pQ (knd:=knd) (d:=s.heap.objs.size) (it:=h2.objs.size) (l:=l) (items:=items) (kvs:=kvs) (Nat.ne_of_lt m7) (Nat.ne_of_gt yB) (Nat.ne_of_lt (Nat.lt_trans yB m7)) hz (by first | exact hh | rfl) items.size 0 _ 0 [] rfl (Nat.zero_le _) hlen
  ⟨_,Heap.get?_push_size _ rfl,rfl,rfl⟩ ⟨_,Heap.get?_push_of_some _ eU,rfl,n,rfl⟩ ?_ (Nat.le_refl _) ?_ ?_
 . obtain ⟨o,es,ep,ho,r⟩:=hd2
   exact ⟨o,es,ep,Heap.get?_push_of_some _ ho,r⟩
 . intro j u kv hu bF
   obtain ⟨t,key,e,⟨o,eo,r⟩,hk⟩:=hp j u kv hu bF
   have ht:t<s.heap.objs.size:=Heap.lt_size eo
   refine ⟨⟨t,key,e,⟨o,Heap.get?_push_of_some _ (k2 _ _ (Heap.get?_push_of_some _ eo)),r⟩,hk⟩,λt' e'=>?_⟩
   rw [e] at e'
   cases e'
   exact ⟨Nat.ne_of_lt ht,Nat.ne_of_lt (Nat.lt_trans ht m7)⟩
 . intro h' lJ hd' fq
   refine ⟨rfl,h h' lJ ?_ λb o e=>?_⟩
   . simpa [merged] using hd'
   . have hb:b<s.heap.objs.size:=Heap.lt_size e
     exact fq b o (Nat.ne_of_lt hb) (Nat.ne_of_lt (Nat.lt_trans hb m7)) (Heap.get?_push_of_some _ (k2 _ _ (Heap.get?_push_of_some _ e)))
end
end PySem
namespace L2
open PySem PySem.Spec PyProof.Rows
section
variable {X:Cx}
theorem pairs_at {P:Program}{w:World}{H:Hp}{h:Heap}(ok:cN P w H h):∀{ts:List Addr}{kvs:List (Key×V)}{us:List Value},Paired (λt kv=>H t=some (.tup [kV kv.1,kv.2])) ts kvs->Vals (ts.map V.ref) us->
 ∃vs:List (Key×Value),KV kvs vs/\Paired (λu kv=>tH (ba P w) h u kv) us vs
 | [],[],us,.nil,r=>by
  cases r
  exact ⟨[],.nil,.nil⟩
 | t::ts,kv::kvs,us,.cons e p,r=>by
  cases r with
  | @cons _ u _ Sf ru r'=>
   obtain ⟨vs,k1,k2⟩:=pairs_at ok p r'
   cases (show u=Value.ref t from ru)
   obtain ⟨_,its,rv,ip⟩:=(show bh P w H h t (.tup [kV kv.1,kv.2]) from ok t _ e)
   obtain ⟨key,val,rfl,rk,rl⟩:=vals2 rv
   exact ⟨(kv.1,val)::vs,.cons ⟨rfl,rl⟩ k1,.cons ⟨t,key,rfl,ip,jU rk⟩ k2⟩
theorem jq {α β:Type}{F:α->β->Prop} : ∀{jP:List α}{kU:List β}{i:Nat}{a:α}{b:β},Paired F jP kU->jP[i]?=some a->kU[i]?=some b->F a b
 | _,_,i,a,b,.nil,h,_=>by simp at h
 | _,_,0,a,b,.cons h t,e1,e2=>by
  simp at e1 e2
  subst e1 e2
  exact h
 | _,_,i+1,a,b,.cons h t,e1,e2=>jq (i:=i) t (by simpa using e1) (by simpa using e2)
theorem jb (hc:X.calm=true):ff X (.type "dict") (λxs H Q=>∃p ts kvs,xs=[.ref p]/\H p=some (.lst (ts.map V.ref))/\Paired (λt kv=>H t=some (.tup [kV kv.1,kv.2])) ts kvs/\∀d,H d=none->Q (.ref d) (upd H d (.dK (bZ [] kvs)))):=by
 intro pins s σ H xs us Q I r h
 obtain ⟨p,ts,kvs,rfl,hp,hT,q⟩:=h
 obtain ⟨u,rfl,rx⟩:=vals1 r
 cases (show u=Value.ref p from rx)
 obtain ⟨hz,its,n,rv,e⟩:=(show bh X.prog X.w H s.heap p (.lst (ts.map V.ref)) from I.hok p _ hp)
 obtain ⟨vs,kv,pv⟩:=pairs_at I.hok hT rv
 have l1:vs.length=its.toArray.size:=by rw [List.size_toArray]; exact pv.length.symm
 have l2:kvs.length=vs.length:=kv.length
 have l3:vs.length<=sizeLine:=by
  have:=hT.length
  rw [List.length_map] at hz
  omega
 refine tJ (knd:=ba X.prog X.w) (kvs:=vs) (I.ok.hd hc) e l1 l3 (λj u kv hu bF=>jq pv (by simpa using hu) bF) λh' tk dd kk=>?_
 refine ⟨.ref s.heap.objs.size,_,I.laid (a:=s.heap.objs.size) (o:=.dK (bZ [] kvs)) kk (Nat.le_refl _) (oi ?_ (beq_eq_false_iff_ne.mpr (Ne.symm (Nat.ne_of_lt I.big))) (KV.merge kv .nil) dd),rfl,q _ (I.hok.fresh (Nat.le_refl _))⟩
 have:=fg kvs []
 simp at this
 omega
theorem cL:ff X (.builtin "isinstance") (λxs H Q=>∃x t c b,xs=[x,.ty c]/\gj X.K H x t/\W.kitOne X.K t (.type c)=some b/\Q (.bl b) H):=by
 intro pins s σ H xs us Q I r h
 obtain ⟨x,t,c,b,rfl,ty,e,q⟩:=h
 obtain ⟨u,v,rfl,rx,ry⟩:=vals2 r
 cases (show v=Value.type c from ry)
 exact xT I rx ty e λtk=>⟨.bl b,H,I.tok _,rfl,q⟩
end
section
variable {X:Cx}{pins:List (Addr×Obj)}{σ:St}{H:Hp}{s:Shared}{d:Addr}{kvs:List (Key×V)}
end
section
variable {X:Cx}
end
end L2
namespace Gen
open PySem L2
abbrev jF:Stmt:=inClass (top 7) 0
theorem Ex {σ:St}{H:Hp}{A B:Hp->Prop}(h:A H):lB σ H (λb H3=>if b=true then A H3 else B H3):=by
 show if true=true then A H else B H
 rw [if_pos rfl]
 exact h
theorem bg {f:Str}{v:V}{fs:List (Str×V)}{n:Nat}(h:fs.length<=n):(aw f v fs).length<=n+1:=Nat.le_trans (jh f v fs) (Nat.succ_le_succ h)
theorem ou {n m:Nat}(h:n<=m) (hm:m<1000):n<1000:=Nat.lt_of_le_of_lt h hm
theorem eL {H:Hp}{p g C dx:Addr}{o:HO}{fs fs':List (Str×V)}(hp:H p=some (.ins C dx fs)) (hg:H g=none) :
 (upd (upd H g o) p (.ins C dx fs')) p=some (.ins C dx fs')/\(upd (upd H g o) p (.ins C dx fs')) g=some o/\(upd H g o) p=some (.ins C dx fs)/\∀b u,H b=some u->b≠p->(upd (upd H g o) p (.ins C dx fs')) b=some u:=by
 have n:=ah hp hg
 refine ⟨ae,by rw [aj (Ne.symm n),ae],by rw [aj n]; exact hp,λb u hb nb=>by rw [aj nb,aj (ah hb hg)]; exact hb⟩
theorem h9 {H H':Hp}{p g:Addr}(k:∀b u,H b=some u->b≠p->H' b=some u) (hg:H' g=none) (np:g≠p):H g=none:=by
 cases e:H g with
 | none=>rfl
 | some o=>rw [k g o e np] at hg; cases hg
theorem iG:∀(kvs acc:List (Key×V)),((acc++kvs).map (·.1)).Nodup->bZ acc kvs=acc++kvs
 | [],acc,_=>(List.append_nil acc).symm
 | (k,v)::r,acc,h=>by
  have hn:aX acc k=none:=lH λkv bF z=>by
   rw [List.map_append,List.map_cons,List.nodup_append] at h
   exact h.2.2 _ (List.mem_map.mpr ⟨kv,bF,z⟩) _ List.mem_cons_self rfl
  show bZ (putK acc k v) r=acc++(k,v)::r
  rw [nu v hn,iG r (acc++[(k,v)]) (by rw [List.append_assoc]; exact h),List.append_assoc]
  rfl
theorem tK:∀(names:List Str) (i:Nat),(eW i names).map (·.1)=names.map Sum.inr
 | [],_=>rfl
 | n::r,i=>by rw [eW,List.map_cons,List.map_cons,tK r]
theorem vR:∀(names:List Str) (i:Nat),(eW i names).length=names.length
 | [],_=>rfl
 | n::r,i=>by rw [eW,List.length_cons,List.length_cons,vR r]
theorem vS:∀(a b:List Str) (i:Nat),eW i (a++b)=eW i a++eW (i+a.length) b
 | [],b,i=>rfl
 | p::r,b,i=>by rw [List.cons_append,eW,eW,vS r b (i+1),List.cons_append,List.length_cons,show i+1+r.length=i+(r.length+1) by omega]
theorem yU {names:List Str}(h:names.Nodup):bZ [] (eW 0 names)=eW 0 names:=iG _ [] (by
 rw [List.nil_append,tK]
 exact List.pairwise_map.mpr (List.Pairwise.imp (λh z=>h (Sum.inr.inj z)) h))
def Bj (n:Nat) (t0 t1:Addr):di:=⟨[(n,0,0),(n,1,1)],[.leaf false,.leaf true],[t0,t1],[],[],[(.inl 0,.bl false),(.inl 1,.bl true)]⟩
theorem Pm (names:List Str) (t0 t1:Addr):FS names (Bj names.length t0 t1).N (Bj names.length t0 t1).TS:=
 ⟨rfl,Nat.le_refl _,rfl,rfl,rfl,rfl,λi h2 hi=>absurd (show i<2 from hi) (by omega),λi j h2 _ hi=>absurd (show i<2 from hi) (by omega)⟩
def vT (P:Program) (w:World) (C:Addr):Sp:=λvs H Q _=>∃(p dy o:Addr) (names:List Str),vs=[.ref p,.ref o]/\H p=some (.ins C dy [])/\H o=some (.lst (names.map V.str))/\names.Nodup/\(∀n∈names,PyData.strOk n=true)/\names.length<=8/\
 ∀(nm sp nd kn ch im ex t0 t1:Addr) (H':Hp),FO P w C H' p dy nm sp nd kn ch im ex names (Bj names.length t0 t1)->bW H H' p->(∀g∈[nd,kn,ch,im,ex],H g=none)->Q .aS H'
theorem Ey:(["spot", "name"]:List Str).Nodup:=by decide +kernel
section
variable {P:Program}{w:World}{K:W.Frag}{mg:Str->Option Value}{base:Heap}{C:Addr}
theorem Ln:aT ["self", "order"] ["self", "order"] (ak jF):=⟨rfl,rfl,rfl,by decide +kernel,rfl,by decide +kernel,by decide +kernel⟩
theorem Al {f:Addr}{fd:FuncData}(F:cy K "__init__" "Forest.__init__" jF f fd) (T:il K mg C) (O2:fZ mg) (O:Own mg):av P w K mg base aF 1 f fd ["self", "order"] (vT P w C):=by
 refine F.ok Ln (λvs H Q E h=>?_) (λcdv A outer s H vs Q E hr h=>?_)
 . obtain ⟨p,dy,o,names,rfl,_⟩:=h
   rfl
 . obtain ⟨p,dy,o,names,rfl,hp,ho,nn,ns,n8,kk⟩:=h
   refine ⟨_,af (iK (pv 0) (gQ lx (by rfl) O2.list PyProof.Rows.boot_list (aa (pv 1) ab)) rfl)
    (af (iK (pv 0) (gQ (jb rfl) (by rfl) O2.dict PyProof.Rows.boot_dict (aa (ee (N:=["spot", "name"]) (js:=[none,none]) (g:=Dg K 2 (wx (eZ 0) (wx (eZ 1) Df))) (by kernel_rfl) rfl (pK rfl O.enum (aa (pv 1) ab))
     (λ_ _ _ _ _ _=>n9 rfl (eF (aW (i:=0) Ey rfl (Or.inl rfl) (.inr rfl)) (eF (aW (i:=1) Ey rfl (Or.inl rfl) (.inr rfl)) lT))) (λ_ _ _ _ _ _=>cG)
     (λ_ _ _ _ _ _=>df (aa (pv 1) (aa (pv 0) ab)))) ab)) rfl)
    (af (iK (pv 0) (fL (aa (df (aa (aU bo (by rfl) O2.len PySem.boot_len (aa (cA (pv 0) rfl) ab)) (aa ag (aa ag ab))))
     (aa (df (aa (aU bo (by rfl) O2.len PySem.boot_len (aa (cA (pv 0) rfl) ab)) (aa ag (aa ag ab)))) ab))) rfl)
    (af (iK (pv 0) rQ rfl)
    (af (iK (pv 0) rQ rfl)
    (af (iK (pv 0) sQ rfl)
    (ao (iK (pv 0) (B6 (rT ag d9 (rT ag d9 B5)) rfl rfl (by simp) (by decide)) rfl))))))),?_⟩
   have np:∀{b:Addr}{u:HO},H b=some u->(∀C dx fs,u≠.ins C dx fs)->b≠p:=λhb hu z=>by
    rw [z,hp] at hb
    exact hu _ _ _ (Option.some.inj hb).symm
   have Pn:o≠p:=np ho (λ_ _ _ z=>by cases z)
   refine ⟨_,rfl,o,_,rfl,.inl (ay.of ho),λnm e1=>?_⟩
   obtain ⟨p1,q1,r1,k1⟩:=eL (o:=.lst (names.map V.str)) (fs':=aw "names" (.ref nm) []) hp e1
   have b1:nm≠p:=(ah hp e1).symm
   refine ⟨_,rfl,p,C,dy,_,rfl,r1,T.cl,T.n1,(by show 0<1000; decide),?_⟩
   show dZ _ _ _ _ (upd (upd H nm (.lst (names.map V.str))) p (.ins C dy (aw "names" (.ref nm) [])))
   generalize upd (upd H nm (.lst (names.map V.str))) p (.ins C dy (aw "names" (.ref nm) []))=H1 at p1 q1 k1 ⊢
   have mW:=k1 _ _ ho Pn
   refine ⟨_,rfl,o,rfl,⟨_,ay.of mW⟩,λR hR=>?_⟩
   refine gx names.length (λi acc σ H9=>(∃vs:List Addr,acc=vs.map V.ref/\Paired (λt (kv:Key×V)=>H9 t=some (.tup [kV kv.1,kv.2])) vs (eW 0 (names.take i)))/\(∃u v,σ=[u,v])/\ai H1 H9) ⟨⟨[],rfl,.nil⟩,⟨none,none,rfl⟩,ai.ar hR⟩ ae ?_ ?_
   . rintro acc σ H2 Ez ⟨⟨vs,rfl,yV⟩,_,s2⟩
     rw [List.take_length] at yV
     refine ⟨⟨_,ay.of (s2 _ _ mW),by rw [List.length_map]; exact Nat.le_refl _⟩,R,vs,_,rfl,Ez,yV,λsp lq=>?_⟩
     rw [yU nn]
     obtain ⟨p3,q3,r3,k3⟩:=eL (o:=.dK (eW 0 names)) (fs':=aw "spots" (.ref sp) (aw "names" (.ref nm) [])) (s2 _ _ p1) lq
     have b3:sp≠p:=(ah (s2 _ _ p1) lq).symm
     have k13:∀b u,H1 b=some u->b≠p->(upd (upd H2 sp (.dK (eW 0 names))) p (.ins C dy (aw "spots" (.ref sp) (aw "names" (.ref nm) [])))) b=some u:=λb u hb nb=>k3 _ _ (s2 _ _ hb) nb
     refine ⟨_,rfl,p,C,dy,_,rfl,r3,T.cl,T.n2,ou (bg (Nat.le_refl _)) (by show 1<1000; decide),?_⟩
     show dZ _ _ _ _ (upd (upd H2 sp (.dK (eW 0 names))) p (.ins C dy (aw "spots" (.ref sp) (aw "names" (.ref nm) []))))
     generalize upd (upd H2 sp (.dK (eW 0 names))) p (.ins C dy (aw "spots" (.ref sp) (aw "names" (.ref nm) [])))=H3 at p3 q3 k13 ⊢
     have tD:bW H H3 p:=λb u hb nb=>k13 _ _ (k1 _ _ hb nb) nb
     have Bk:=k13 _ _ q1 b1
     have Jl:∀{f:Str}{v:V}{r:List (Str×V)},f ≠ "names" -> (aw f v r).lookup ("names" : Str)=r.lookup ("names" : Str):=λh=>by rw [aq,if_neg (Ne.symm h)]
     refine ⟨_,rfl,p,C,dy,_,_,rfl,p3,T.cl,T.n1,(by rw [Jl (by decide +kernel),aq,if_pos rfl]),nm,_,rfl,.inl (ay.of Bk),?_⟩
     rw [List.length_map]
     refine ⟨(by show 3<=sizeLine; decide),λt0 Po=>?_⟩
     have s4:ai H3 (upd H3 t0 (.tup (eO (names.length,0,0)))):=ai.ar Po
     have q4:(upd H3 t0 (.tup (eO (names.length,0,0)))) t0=some (.tup (eO (names.length,0,0))):=ae
     show jS _ _ _ (upd H3 t0 (.tup (eO (names.length,0,0)))) _
     generalize upd H3 t0 (.tup (eO (names.length,0,0)))=H4 at s4 q4 ⊢
     refine ⟨_,rfl,p,C,dy,_,_,rfl,s4 _ _ p3,T.cl,T.n1,(by rw [Jl (by decide +kernel),aq,if_pos rfl]),nm,_,rfl,.inl (ay.of (s4 _ _ Bk)),?_⟩
     rw [List.length_map]
     refine ⟨(by show 3<=sizeLine; decide),λt1 Pp=>?_⟩
     have s5:ai H4 (upd H4 t1 (.tup (eO (names.length,1,1)))):=ai.ar Pp
     have q5:(upd H4 t1 (.tup (eO (names.length,1,1)))) t1=some (.tup (eO (names.length,1,1))):=ae
     show wH _ (upd H4 t1 (.tup (eO (names.length,1,1)))) _
     generalize upd H4 t1 (.tup (eO (names.length,1,1)))=H5 at s5 q5 ⊢
     refine ⟨(by show 2<=sizeLine; decide),λnd e6=>?_⟩
     have vU:=s4.trans s5
     obtain ⟨p6,q6,r6,k6⟩:=eL (o:=.lst [.ref t0,.ref t1]) (fs':=aw "nodes" (.ref nd) (aw "spots" (.ref sp) (aw "names" (.ref nm) []))) (vU _ _ p3) e6
     have b6:nd≠p:=(ah (vU _ _ p3) e6).symm
     have d1:nd≠nm:=(ah (vU _ _ Bk) e6).symm
     refine ⟨_,rfl,p,C,dy,_,rfl,r6,T.cl,T.n3,ou (bg (bg (Nat.le_refl _))) (by show 2<1000; decide),?_⟩
     show dZ _ _ _ _ (upd (upd H5 nd (.lst [.ref t0,.ref t1])) p (.ins C dy (aw "nodes" (.ref nd) (aw "spots" (.ref sp) (aw "names" (.ref nm) [])))))
     have f6:H nd=none:=h9 (λb u hb nb=>vU _ _ (tD _ _ hb nb)) e6 b6
     have yW:∀b u,H3 b=some u->b≠p->(upd (upd H5 nd (.lst [.ref t0,.ref t1])) p (.ins C dy (aw "nodes" (.ref nd) (aw "spots" (.ref sp) (aw "names" (.ref nm) []))))) b=some u:=λb u hb nb=>k6 _ _ (vU _ _ hb) nb
     have tp:∀{b:Addr}{xs:List V},H5 b=some (.tup xs)->b≠p:=λhb=>dc hb (vU _ _ p3) (by intro z; cases z)
     have Jm:=k6 _ _ (s5 _ _ q4) (tp (s5 _ _ q4))
     have Jn:=k6 _ _ q5 (tp q5)
     have n0:t0≠p:=tp (s5 _ _ q4)
     have n1:t1≠p:=tp q5
     generalize upd (upd H5 nd (.lst [.ref t0,.ref t1])) p (.ins C dy (aw "nodes" (.ref nd) (aw "spots" (.ref sp) (aw "names" (.ref nm) []))))=H6 at p6 q6 yW Jm Jn ⊢
     have Jo:bW H H6 p:=λb u hb nb=>yW _ _ (tD _ _ hb nb) nb
     intro kn e7
     obtain ⟨p7,q7,r7,k7⟩:=eL (o:=.dT []) (fs':=aw "known" (.ref kn) (aw "nodes" (.ref nd) (aw "spots" (.ref sp) (aw "names" (.ref nm) [])))) p6 e7
     have b7:kn≠p:=(ah p6 e7).symm
     refine ⟨_,rfl,p,C,dy,_,rfl,r7,T.cl,T.n4,ou (bg (bg (bg (Nat.le_refl _)))) (by show 3<1000; decide),?_⟩
     show dZ _ _ _ _ (upd (upd H6 kn (.dT [])) p (.ins C dy (aw "known" (.ref kn) (aw "nodes" (.ref nd) (aw "spots" (.ref sp) (aw "names" (.ref nm) []))))))
     have f7:H kn=none:=h9 Jo e7 b7
     generalize upd (upd H6 kn (.dT [])) p (.ins C dy (aw "known" (.ref kn) (aw "nodes" (.ref nd) (aw "spots" (.ref sp) (aw "names" (.ref nm) [])))))=H7 at p7 q7 k7 ⊢
     have Jp:bW H H7 p:=λb u hb nb=>k7 _ _ (Jo _ _ hb nb) nb
     intro ch e8
     obtain ⟨p8,q8,r8,k8⟩:=eL (o:=.dT []) (fs':=aw "choices" (.ref ch) (aw "known" (.ref kn) (aw "nodes" (.ref nd) (aw "spots" (.ref sp) (aw "names" (.ref nm) []))))) p7 e8
     have b8:ch≠p:=(ah p7 e8).symm
     have d2:kn≠ch:=ah q7 e8
     refine ⟨_,rfl,p,C,dy,_,rfl,r8,T.cl,T.n5,ou (bg (bg (bg (bg (Nat.le_refl _))))) (by show 4<1000; decide),?_⟩
     show dZ _ _ _ _ (upd (upd H7 ch (.dT [])) p (.ins C dy (aw "choices" (.ref ch) (aw "known" (.ref kn) (aw "nodes" (.ref nd) (aw "spots" (.ref sp) (aw "names" (.ref nm) [])))))))
     have f8:H ch=none:=h9 Jp e8 b8
     generalize upd (upd H7 ch (.dT [])) p (.ins C dy (aw "choices" (.ref ch) (aw "known" (.ref kn) (aw "nodes" (.ref nd) (aw "spots" (.ref sp) (aw "names" (.ref nm) []))))))=H8 at p8 q8 k8 ⊢
     have Jq:bW H H8 p:=λb u hb nb=>k8 _ _ (Jp _ _ hb nb) nb
     intro im e9
     obtain ⟨p9,q9,r9,k9⟩:=eL (o:=fv P w im []) (fs':=aw "imported" (.ref im) (aw "choices" (.ref ch) (aw "known" (.ref kn) (aw "nodes" (.ref nd) (aw "spots" (.ref sp) (aw "names" (.ref nm) [])))))) p8 e9
     have b9:im≠p:=(ah p8 e9).symm
     refine ⟨_,rfl,p,C,dy,_,rfl,r9,T.cl,T.n6,ou (bg (bg (bg (bg (bg (Nat.le_refl _)))))) (by show 5<1000; decide),?_⟩
     show dZ _ _ _ _ (upd (upd H8 im (fv P w im [])) p (.ins C dy (aw "imported" (.ref im) (aw "choices" (.ref ch) (aw "known" (.ref kn) (aw "nodes" (.ref nd) (aw "spots" (.ref sp) (aw "names" (.ref nm) []))))))))
     have f9:H im=none:=h9 Jq e9 b9
     generalize upd (upd H8 im (fv P w im [])) p (.ins C dy (aw "imported" (.ref im) (aw "choices" (.ref ch) (aw "known" (.ref kn) (aw "nodes" (.ref nd) (aw "spots" (.ref sp) (aw "names" (.ref nm) [])))))))=H9 at p9 q9 k9 ⊢
     have Jr:bW H H9 p:=λb u hb nb=>k9 _ _ (Jq _ _ hb nb) nb
     intro ex eA
     refine ⟨ae,[(.inl 0,.bl false),(.inl 1,.bl true)],rfl,(by show 2<=15; decide),?_⟩
     have bA:ex≠p:=(ah p9 eA).symm
     have fA:H ex=none:=h9 Jr eA bA
     have Pq:∀o':HO,upd (upd H9 ex (.dK [])) ex o'=upd H9 ex o':=λo'=>by
      funext b
      by_cases e:b=ex
      . rw [e,ae,ae]
      . rw [aj e,aj e,aj e]
     rw [show bZ [] [((.inl 0:Key),V.bl false),(.inl 1,.bl true)]=[(.inl 0,.bl false),(.inl 1,.bl true)] from iG _ [] (by decide),Pq]
     obtain ⟨pA,qA,rA,kA⟩:=eL (o:=.dK [(.inl 0,.bl false),(.inl 1,.bl true)]) (fs':=cF nm sp nd kn ch im ex) p9 eA
     refine ⟨_,rfl,p,C,dy,_,rfl,rA,T.cl,T.n7,ou (bg (bg (bg (bg (bg (bg (Nat.le_refl _))))))) (by show 6<1000; decide),?_⟩
     have yX:∀b u,H6 b=some u->b≠p->(upd (upd H9 ex (.dK [(.inl 0,.bl false),(.inl 1,.bl true)])) p (.ins C dy (cF nm sp nd kn ch im ex))) b=some u:=λb u hb nb=>kA _ _ (k9 _ _ (k8 _ _ (k7 _ _ hb nb) nb) nb) nb
     have Pr:=k9 _ _ (k8 _ _ (k7 _ _ (yW _ _ q3 b3) b3) b3) b3
     refine kk nm sp nd kn ch im ex t0 t1 _ ⟨pA,yX _ _ (yW _ _ Bk b1) b1,yX _ _ (yW _ _ q3 b3) b3,yX _ _ q6 b6,.cons (yX _ _ Jm n0) (.cons (yX _ _ Jn n1) .nil),kA _ _ (k9 _ _ (k8 _ _ q7 b7) b7) b7,kA _ _ (k9 _ _ q8 b8) b8,(λ_ h=>nomatch h),kA _ _ q9 b9,(λ_ h=>nomatch h),qA,?_,⟨rfl,rfl⟩,Pm names t0 t1,nn,ns,n8,d1,d2,ah Pr eA⟩ (λb u hb nb=>kA _ _ (Jr _ _ hb nb) nb) ?_
     . intro kv bF
       rcases List.mem_cons.mp bF with rfl | bF
       . exact ⟨0,rfl,Nat.zero_lt_two,rfl⟩
       . rw [List.mem_singleton] at bF
         subst bF
         exact ⟨1,rfl,Nat.one_lt_two,rfl⟩
     . intro g hg
       simp only [List.mem_cons,List.not_mem_nil,or_false] at hg
       rcases hg with rfl | rfl | rfl | rfl | rfl <;> assumption
   . rintro i acc σ H9 hi Ez ⟨⟨vs,rfl,yV⟩,⟨u,v,rfl⟩,s9⟩
     have jG:names[i]?=some names[i]:=List.getElem?_eq_getElem hi
     have ei:(names.map V.str)[i]?=some (.str names[i]):=by rw [List.getElem?_map,jG]; rfl
     refine ⟨⟨_,_,ay.of (s9 _ _ mW),ei⟩,?_⟩
     rintro x' H' ⟨Tp,xv,rfl,vn,rfl,gm⟩
     have ex:=gm _ (ay.of (s9 _ _ mW))
     rw [ei] at ex
     cases ex
     have sT:ai H9 (upd H9 Tp (.tup [.int (i:Int),.str names[i]])):=ai.ar vn
     have qT:(upd H9 Tp (.tup [.int (i:Int),.str names[i]])) Tp=some (.tup [.int (i:Int),.str names[i]]):=ae
     refine ⟨Tp,_,rfl,aP.of qT,rfl,_,_,rfl,_,_,rfl,rfl,?_⟩
     show lB _ (upd H9 Tp (.tup [.int (i:Int),.str names[i]])) _
     generalize upd H9 Tp (.tup [.int (i:Int),.str names[i]])=HT at sT qT ⊢
     refine Ex ?_
     refine ⟨_,rfl,_,rfl,(by show 2<=sizeLine; decide),λt2 EA=>?_⟩
     have EB:=sT _ _ Ez
     have nR:R≠t2:=ah EB EA
     have Pt:=yV.length
     rw [vR,List.length_take] at Pt
     refine ⟨_,(aj nR).trans EB,(by rw [List.length_map]; exact small (by omega)),cM hi ae ⟨⟨vs++[t2],by rw [List.map_append]; rfl,?_⟩,⟨_,_,rfl⟩,λb o' hb=>?_⟩⟩
     . rw [List.take_succ,jG,Option.toList_some,vS,List.length_take,Nat.min_eq_left (Nat.le_of_lt hi)]
       refine dJ (Paired.dX yV λt kv e=>?_) (.cons ?_ .nil)
       . have e':=sT _ _ e
         rw [aj (dc e' EB (by intro z; cases z)),aj (ah e' EA)]
         exact e'
       . rw [aj (Ne.symm nR),ae]
         show some (HO.tup [V.str names[i],V.int (i:Int)])=some (HO.tup [V.str names[i],V.int ((0+i:Nat):Int)])
         rw [Nat.zero_add]
     . rw [aj (ah hb hR),aj (ah (sT _ _ (s9 _ _ hb)) EA)]
       exact sT _ _ (s9 _ _ hb)
end
end Gen
namespace Gen
open PySem L2
abbrev mi:Stmt:=top 3
abbrev iH:Stmt:=top 4
abbrev iP:Stmt:=top 6
abbrev pR:Stmt:=top 5
theorem tL:∀t:Tr,cX t+2<=2*2 ^ t.dep
 | .leaf _=>Nat.le_refl _
 | .node _ l r=>by
  have h1:=tL l
  have h2:=tL r
  have e1:2 ^ l.dep<=2 ^ max l.dep r.dep:=Nat.pow_le_pow_right (by decide) (by omega)
  have e2:2 ^ r.dep<=2 ^ max l.dep r.dep:=Nat.pow_le_pow_right (by decide) (by omega)
  show cX l+cX r+2+2<=2*2 ^ (max l.dep r.dep+1)
  rw [Nat.pow_succ]
  omega
theorem gz {t:Tr}(h:t.dep<=8):cX t<=510:=by
 have h1:=tL t
 have h2:2 ^ t.dep<=2 ^ 8:=Nat.pow_le_pow_right (by decide) h
 omega
section
variable (P:Program) (w:World) (K:W.Frag) (mg:Str->Option Value) (base:Heap) (C:Addr)
structure tM (fI fT fC fA:Addr) (dI dT dC dA:FuncData):Prop where
 gI:av P w K mg base aF 1 fI dI ["self", "order"] (vT P w C)
 mI:Mk K C fI
 bI:Binds K dI ["self", "order"] []
 gT:av P w K mg base aF 10 fT dT ["self", "tree"] (mh P w C 9)
 mT:Meth K C "taken" fT
 bT:Binds K dT ["self", "tree"] []
 gC:av P w K mg base aF 10 fC dC oX (j8 P w C 9)
 mC:Meth K C "chosen" fC
 bC:Binds K dC oX []
 gA:av P w K mg base aF 10 fA dA ["self", "number"] (j7 P w C 9)
 mA:Meth K C "tree_at" fA
 bA:Binds K dA ["self", "number"] []
end
structure Ord (H:Hp) (o:Addr) (names:List Str):Prop where
 at_:H o=some (.lst (names.map V.str))
 nd:names.Nodup
 ok:∀n∈names,PyData.strOk n=true
 n8:names.length<=8
def rf (f:Bool->Bool->Bool):Sp:=λvs H Q _=>∃(o:Addr) (v1 v2:V) (names:List Str) (t1 t2:Tr),vs=[.ref o,v1,v2]/\Ord H o names/\aZ H t1 v1/\aZ H t2 v2/\cg names t1/\cg names t2/\
 ∀(v:V) (t:Tr) (H':Hp),ai H H'->aZ H' t v->cg names t->(∀e,ev e t=f (ev e t1) (ev e t2))->Q v H'
abbrev Js:List Str:=["order", "one", "other", "forest"]
abbrev m8:List Str:=["order", "one", "other"]
theorem cv {H H':Hp}(s:ai H H'):∀a xs,H a=some (.tup xs)->H' a=some (.tup xs):=λa xs e=>s _ _ e
section
variable {P:Program}{w:World}{K:W.Frag}{mg:Str->Option Value}{base:Heap}{C fI fT fC fA:Addr}{dI dT dC dA:FuncData}
theorem Jt {n:Nat}{t0 t1:Addr} : Bd (Bj n t0 t1) 2:=⟨Nat.le_refl _,Nat.zero_le _,Nat.zero_le _,Nat.le_refl _⟩
theorem tN {H H1:Hp}{x dx C:Addr}(hx:H x=none) (lK:H dx=none) (k1:bW (upd (upd H dx (.own x)) x (.ins C dx [])) H1 x):ai H H1:=λb o hb=>by
 have n1:=ah hb hx
 have n2:=ah hb lK
 exact k1 b o (by rw [aj n1,aj n2]; exact hb) n1
theorem tO {H:Hp}{x dx C g:Addr}(hx:H x=none) (lK:H dx=none) (hg:(upd (upd H dx (.own x)) x (.ins C dx [])) g=none):H g=none:=by
 cases e:H g with
 | none=>rfl
 | some o=>
  rw [aj (ah e hx),aj (ah e lK),e] at hg
  cases hg
theorem mj {H H1 H2:Hp}{nd kn ch im ex:Addr}(s:ai H H1) (fr:∀g∈[nd,kn,ch,im,ex],H g=none) (k:Kp H1 H2 nd kn ch im ex):ai H H2:=λb o hb=>
 k b o (s b o hb) (ah hb (fr nd (by simp))) (ah hb (fr kn (by simp))) (ah hb (fr ch (by simp))) (ah hb (fr im (by simp))) (ah hb (fr ex (by simp)))
theorem yY:aT Js m8 (ak mi):=⟨rfl,rfl,rfl,by decide +kernel,rfl,by decide +kernel,by decide +kernel⟩
theorem Cy {f:Addr}{fd:FuncData}(F:cy K "both" "both" mi f fd) (T:il K mg C) (G:tM P w K mg base C fI fT fC fA dI dT dC dA):av P w K mg base aF 11 f fd m8 (rf and):=by
 refine F.ok yY (λvs H Q E h=>?_) (λcdv A outer s H vs Q E hr h=>?_)
 . obtain ⟨o,v1,v2,names,t1,t2,rfl,_⟩:=h
   rfl
 . obtain ⟨o,v1,v2,names,t1,t2,rfl,hOr,A5,EC,c1,c2,kk⟩:=h
   refine ⟨_,af (ax (i:=3) yY.nd rfl (Or.inl rfl) (vc G.mI G.gI (hr.mono (by decide)) rfl T.mgC G.bI .nil aB (aa (pv 0) ab)))
    (ao (aK (bu (pv 3) T.cl G.mA G.gA hr G.bA .nil aB (aa (bu (pv 3) T.cl G.mC G.gC hr G.bC .nil aB (aa (bu (pv 3) T.cl G.mT G.gT hr G.bT .nil aB (aa (pv 1) ab))
     (aa (bu (pv 3) T.cl G.mT G.gT hr G.bT .nil aB (aa (pv 2) ab)) (aa ag ab)))) ab)))),?_⟩
   refine ⟨_,rfl,λx dx hx lK Pu=>?_⟩
   refine ⟨x,dx,o,names,rfl,ae,by rw [aj (ah hOr.at_ hx),aj (ah hOr.at_ lK)]; exact hOr.at_,hOr.nd,hOr.ok,hOr.n8,λnm sp nd kn ch im ex a0 a1 H1 aM k1 ED=>⟨rfl,?_⟩⟩
   have s1:=tN hx lK k1
   have fr:∀g∈[nd,kn,ch,im,ex],H g=none:=λg hg=>tO hx lK (ED g hg)
   have lI:∀m∈["taken", "chosen", "tree_at"],(cF nm sp nd kn ch im ex).lookup (m:Str)=none:=λm hm=>by
    simp only [List.mem_cons,List.not_mem_nil,or_false] at hm
    rcases hm with rfl | rfl | rfl <;> exact lF _ _ _ _ _ _ _ (by decide +kernel) (by decide +kernel) (by decide +kernel) (by decide +kernel) (by decide +kernel) (by decide +kernel) (by decide +kernel)
   have nT:=lI "taken" (by decide)
   have nC:=lI "chosen" (by decide)
   have nA:=lI "tree_at" (by decide)
   have z1:=gz (Nat.le_trans (cI c1) hOr.n8)
   have z2:=gz (Nat.le_trans (cI c2) hOr.n8)
   have y1:=Nat.le_trans (cI c1) hOr.n8
   have y2:=Nat.le_trans (cI c2) hOr.n8
   have Pw:cst 9=1022:=rfl
   refine ⟨_,rfl,x,dx,_,rfl,aM.hy,nA,_,rfl,x,dx,_,rfl,aM.hy,nC,_,rfl,x,dx,_,rfl,aM.hy,nT,_,rfl,x,dx,nm,sp,nd,kn,ch,im,ex,names,_,t1,v1,2,rfl,aM,A5.keep (cv s1),c1,by omega,Jt,by omega,λn1 S1 H2 dQ k2 g2 B2 _ _ _ l1 e1=>?_⟩
   have s2:=mj s1 fr k2
   refine ⟨_,rfl,x,dx,_,rfl,dQ.hy,nT,_,rfl,x,dx,nm,sp,nd,kn,ch,im,ex,names,S1,t2,v2,_,rfl,dQ,EC.keep (cv s2),c2,by omega,B2,by omega,λn2 S2 H3 fz k3 g3 B3 _ _ _ l2 e2=>?_⟩
   have vO:n1<S2.N.length:=Nat.lt_of_lt_of_le l1 g3.le
   have vF:aE S2.TS n1=t1:=by rw [g3.aE (by rw [← dQ.fs.len]; exact l1)]; exact e1
   have two:=fz.fs.two
   refine ⟨x,dx,nm,sp,nd,kn,ch,im,ex,names,S2,n1,n2,0,_,rfl,fz,vO,l2,by omega,by have:=hOr.n8; omega,B3,by omega,λn3 S3 H4 iu k4 g4 B4 _ _ l3 e3 m3=>?_⟩
   have yZ:cg names (aE S3.TS n3):=fk (i:=0) (ns:=names) (iu.fs.Jg hOr.nd n3 l3) (Nat.zero_le _)
   have y3:=Nat.le_trans (cI yZ) hOr.n8
   have z3:=gz y3
   refine ⟨x,dx,nm,sp,nd,kn,ch,im,ex,names,S3,n3,_,rfl,iu,l3,by omega,B4,by omega,λv S4 H5 vQ k5 _ _ _ _ r5=>?_⟩
   refine kk v _ H5 (mj s1 fr (((k2.trans k3).trans k4).trans k5)) r5 yZ λe=>?_
   rw [e3 e,vF,e2,fz.fs.t0]
   cases ev e t1 <;> rfl
theorem tP:aT Js m8 (ak iH):=⟨rfl,rfl,rfl,by decide +kernel,rfl,by decide +kernel,by decide +kernel⟩
theorem y4 {f:Addr}{fd:FuncData}(F:cy K "either" "either" iH f fd) (T:il K mg C) (G:tM P w K mg base C fI fT fC fA dI dT dC dA):av P w K mg base aF 11 f fd m8 (rf or):=by
 refine F.ok tP (λvs H Q E h=>?_) (λcdv A outer s H vs Q E hr h=>?_)
 . obtain ⟨o,v1,v2,names,t1,t2,rfl,_⟩:=h
   rfl
 . obtain ⟨o,v1,v2,names,t1,t2,rfl,hOr,A5,EC,c1,c2,kk⟩:=h
   refine ⟨_,af (ax (i:=3) tP.nd rfl (Or.inl rfl) (vc G.mI G.gI (hr.mono (by decide)) rfl T.mgC G.bI .nil aB (aa (pv 0) ab)))
    (ao (aK (bu (pv 3) T.cl G.mA G.gA hr G.bA .nil aB (aa (bu (pv 3) T.cl G.mC G.gC hr G.bC .nil aB (aa (bu (pv 3) T.cl G.mT G.gT hr G.bT .nil aB (aa (pv 1) ab))
     (aa ag (aa (bu (pv 3) T.cl G.mT G.gT hr G.bT .nil aB (aa (pv 2) ab)) ab)))) ab)))),?_⟩
   refine ⟨_,rfl,λx dx hx lK Pu=>?_⟩
   refine ⟨x,dx,o,names,rfl,ae,by rw [aj (ah hOr.at_ hx),aj (ah hOr.at_ lK)]; exact hOr.at_,hOr.nd,hOr.ok,hOr.n8,λnm sp nd kn ch im ex a0 a1 H1 aM k1 ED=>⟨rfl,?_⟩⟩
   have s1:=tN hx lK k1
   have fr:∀g∈[nd,kn,ch,im,ex],H g=none:=λg hg=>tO hx lK (ED g hg)
   have lI:∀m∈["taken", "chosen", "tree_at"],(cF nm sp nd kn ch im ex).lookup (m:Str)=none:=λm hm=>by
    simp only [List.mem_cons,List.not_mem_nil,or_false] at hm
    rcases hm with rfl | rfl | rfl <;> exact lF _ _ _ _ _ _ _ (by decide +kernel) (by decide +kernel) (by decide +kernel) (by decide +kernel) (by decide +kernel) (by decide +kernel) (by decide +kernel)
   have nT:=lI "taken" (by decide)
   have nC:=lI "chosen" (by decide)
   have nA:=lI "tree_at" (by decide)
   have z1:=gz (Nat.le_trans (cI c1) hOr.n8)
   have z2:=gz (Nat.le_trans (cI c2) hOr.n8)
   have y1:=Nat.le_trans (cI c1) hOr.n8
   have y2:=Nat.le_trans (cI c2) hOr.n8
   have Pw:cst 9=1022:=rfl
   refine ⟨_,rfl,x,dx,_,rfl,aM.hy,nA,_,rfl,x,dx,_,rfl,aM.hy,nC,_,rfl,x,dx,_,rfl,aM.hy,nT,_,rfl,x,dx,nm,sp,nd,kn,ch,im,ex,names,_,t1,v1,2,rfl,aM,A5.keep (cv s1),c1,by omega,Jt,by omega,λn1 S1 H2 dQ k2 g2 B2 _ _ _ l1 e1=>?_⟩
   have s2:=mj s1 fr k2
   refine ⟨_,rfl,x,dx,_,rfl,dQ.hy,nT,_,rfl,x,dx,nm,sp,nd,kn,ch,im,ex,names,S1,t2,v2,_,rfl,dQ,EC.keep (cv s2),c2,by omega,B2,by omega,λn2 S2 H3 fz k3 g3 B3 _ _ _ l2 e2=>?_⟩
   have vO:n1<S2.N.length:=Nat.lt_of_lt_of_le l1 g3.le
   have vF:aE S2.TS n1=t1:=by rw [g3.aE (by rw [← dQ.fs.len]; exact l1)]; exact e1
   have two:=fz.fs.two
   refine ⟨x,dx,nm,sp,nd,kn,ch,im,ex,names,S2,n1,1,n2,_,rfl,fz,vO,by omega,l2,by have:=hOr.n8; omega,B3,by omega,λn3 S3 H4 iu k4 g4 B4 _ _ l3 e3 m3=>?_⟩
   have yZ:cg names (aE S3.TS n3):=fk (i:=0) (ns:=names) (iu.fs.Jg hOr.nd n3 l3) (Nat.zero_le _)
   have y3:=Nat.le_trans (cI yZ) hOr.n8
   have z3:=gz y3
   refine ⟨x,dx,nm,sp,nd,kn,ch,im,ex,names,S3,n3,_,rfl,iu,l3,by omega,B4,by omega,λv S4 H5 vQ k5 _ _ _ _ r5=>?_⟩
   refine kk v _ H5 (mj s1 fr (((k2.trans k3).trans k4).trans k5)) r5 yZ λe=>?_
   rw [e3 e,vF,e2,fz.fs.t1]
   cases ev e t1 <;> rfl
end
structure ND (P:Program) (w:World) (H:Hp) (kn:Addr) (L:List (Tr×Addr×V)):Prop where
 at_:H kn=some (fv P w kn L)
 ok:∀p∈L,eP H p.1 p.2.1/\aZ H (neg p.1) p.2.2
def ml (P:Program) (w:World) (d:Nat):Sp:=λvs H Q _=>∃(v:V) (kn:Addr) (L:List (Tr×Addr×V)) (t:Tr) (b:Nat),vs=[v,.ref kn]/\ND P w H kn L/\aZ H t v/\t.dep<=8/\t.qB/\t.dep<d/\L.length<=b/\b+cX t<100000/\
 ∀(u:V) (L':List (Tr×Addr×V)) (H':Hp),bW H H' kn->ND P w H' kn L'->L'.length<=b+cX t->(∀p∈L',p∈L\/p.1.dep<=t.dep)->aZ H' (neg t) u->Q u H'
abbrev Px:List Str:=["tree", "known", "made"]
abbrev o3:List Str:=["tree", "known"]
def xh:Sp:=λvs H Q _=>∃(v:V) (t:Tr),vs=[v]/\aZ H t v/\t.dep<=8/\t.qB/\∀(u:V) (H':Hp),ai H H'->aZ H' (neg t) u->Q u H'
theorem aZ.nn {H:Hp}{t:Tr}{v:V}(h:aZ H t v):v≠.aS:=λz=>by
 rw [z] at h
 cases t with
 | leaf c=>cases (show V.aS=.bl c from h)
 | node a l r=>obtain ⟨_,_,_,z,_⟩:=h; cases z
theorem vV {P:Program}{w:World}{H H':Hp}{kn:Addr}{L:List (Tr×Addr×V)}(h:H kn=some (fv P w kn L)) (k:bW H H' kn):∀a xs,H a=some (.tup xs)->H' a=some (.tup xs):=λa xs e=>k _ _ e (dc e h (by intro z; cases z))
section
variable {P:Program}{w:World}{K:W.Frag}{mg:Str->Option Value}{base:Heap}
theorem Am:aT Px o3 (ak iP):=⟨rfl,rfl,rfl,by decide +kernel,rfl,by decide +kernel,by decide +kernel⟩
theorem y6 {f:Addr}{fd:FuncData}{d k:Nat}(F:cy K "opposite_by" "opposite_by" iP f fd) (G:av P w K mg base aF k f fd o3 (ml P w d)) (mO:mg "opposite_by" = some (.ref f)) (bO:Binds K fd o3 []):av P w K mg base aF (k+1) f fd o3 (ml P w (d+1)):=by
 refine F.ok Am (λvs H Q E h=>?_) (λcdv A outer s H vs Q E hr h=>?_)
 . obtain ⟨v,kn,L,t,b,rfl,_⟩:=h
   rfl
 . obtain ⟨v,kn,L,t,b,rfl,hN,hv,d8,sk,hd,hB,hb,kk⟩:=h
   have yQ:=Ek hr
   refine ⟨_,af (bQ (eE (oT (pv 0))) (ao (aK d9)) aV)
    (af (bQ (eE (oT (pv 0))) (ao (aK d9)) aV)
    (af (ax (i:=2) Am.nd rfl (Or.inl rfl) (vG yQ (pv 1) (pv 0) ⟨rfl,rfl,rfl,rfl⟩))
    (af (bQ (eE (kW (pv 2)))
     (af (ax (i:=2) Am.nd rfl (Or.inl rfl) (df (aa (aQ (r:=cE K) bj (pv 0) ag (λ_ _=>rfl))
      (aa (aI G hr rfl mO F.kp bO .nil aB (aa (aQ (r:=cE K) bj (pv 0) ag (λ_ _=>rfl)) (aa (pv 1) ab)))
      (aa (aI G hr rfl mO F.kp bO .nil aB (aa (aQ (r:=cE K) bj (pv 0) ag (λ_ _=>rfl)) (aa (pv 1) ab))) ab)))))
     (ao (vH yQ (pv 1) (pv 0) (pv 2) rfl))) aV)
    (ao (aK (pv 2)))))),?_⟩
   have eD:∀{u:V},aZ H (neg t) u->Q u H:=λhu=>kk _ L H (bW.refl _ _) hN (by omega) (λp hp=>.inl hp) hu
   cases t with
   | leaf c=>
    cases (show v=.bl c from hv)
    cases c
    . refine ⟨_,rfl,.inl ⟨_,rfl,_,rfl,bw rfl ?_⟩⟩
      exact ⟨_,rfl,.inl ⟨_,rfl,_,rfl,cb rfl (eD rfl)⟩⟩
    . exact ⟨_,rfl,.inl ⟨_,rfl,_,rfl,cb rfl (eD rfl)⟩⟩
   | node n l r=>
    obtain ⟨a,vl,vr,rfl,ha,hl,hR⟩:=hv
    have cU:eP H (.node n l r) a:=⟨⟨a,vl,vr,rfl,ha,hl,hR⟩,d8,sk⟩
    have hsz:cX (.node n l r)=cX l+cX r+2:=rfl
    have tj:(Tr.node n l r).dep=max l.dep r.dep+1:=rfl
    refine ⟨_,rfl,.inr ⟨_,rfl,_,rfl,bw rfl ?_⟩⟩
    refine ⟨_,rfl,.inr ⟨_,rfl,_,rfl,bw rfl ?_⟩⟩
    refine ⟨_,rfl,kn,L,rfl,hN.at_,_,rfl,_,a,rfl,hN.at_,cU,λp hp=>(hN.ok p hp).1,?_⟩
    cases yR:eu L (.node n l r) with
    | some u=>
     obtain ⟨b',hm⟩:=oU yR
     have hu:=(hN.ok _ hm).2
     exact ⟨_,rfl,_,rfl,bw (decide_eq_false (aZ.nn (t:=neg (.node n l r)) hu)) ⟨_,rfl,eD hu⟩⟩
    | none=>
     refine ⟨_,rfl,_,rfl,cb rfl ?_⟩
     refine ⟨_,rfl,a,_,0,_,rfl,rfl,aP.of ha,aA (j:=0) rfl,?_⟩
     refine ⟨_,rfl,a,_,1,_,rfl,rfl,aP.of ha,aA (j:=1) rfl,_,rfl,?_⟩
     refine ⟨vl,kn,L,l,b,rfl,hN,hl,by omega,sk.2.1,by omega,hB,by omega,λu1 L1 H1 k1 N1 B1 x1 r1=>?_⟩
     have c1:=vV hN.at_ k1
     refine ⟨_,rfl,a,_,2,_,rfl,rfl,aP.of (c1 _ _ ha),aA (j:=2) rfl,_,rfl,?_⟩
     refine ⟨vr,kn,L1,r,b+cX l,rfl,N1,hR.keep c1,by omega,sk.2.2,by omega,B1,by omega,λu2 L2 H2 k2 N2 B2 x2 r2=>?_⟩
     have c2:=vV N1.at_ k2
     refine ⟨(by show 3<=sizeLine; decide),λq hq=>?_⟩
     have s3:ai H2 (upd H2 q (.tup [.str n,u1,u2])):=ai.ar hq
     have q3:(upd H2 q (.tup [.str n,u1,u2])) q=some (.tup [.str n,u1,u2]):=ae
     show dZ _ _ _ _ (upd H2 q (.tup [.str n,u1,u2]))
     generalize upd H2 q (.tup [.str n,u1,u2])=H3 at s3 q3 ⊢
     have hT:aZ H3 (neg (.node n l r)) (.ref q):=⟨q,u1,u2,rfl,q3,(r1.keep c2).keep (cv s3),r2.keep (cv s3)⟩
     have oW:eP H3 (.node n l r) a:=((cU.keep c1).keep c2).keep (cv s3)
     have d5:eu L2 (.node n l r)=none:=oV λp hp z=>by
      rcases x2 p hp with hp | hp
      . rcases x1 p hp with hp | hp
        . exact sZ yR p hp z
        . rw [z] at hp
          omega
      . rw [z] at hp
        omega
     refine ⟨_,rfl,_,rfl,_,rfl,kn,L2,_,a,rfl,rfl,s3 _ _ N2.at_,oW,λp hp=>(N2.ok p hp).1.keep (cv s3),d5,big (by omega),?_⟩
     have c4:∀a' xs,H3 a'=some (.tup xs)->(upd H3 kn (fv P w kn (L2++[(.node n l r,a,.ref q)]))) a'=some (.tup xs):=λa' xs e=>by rw [aj (dc e (s3 _ _ N2.at_) (by intro z; cases z))]; exact e
     refine ⟨_,rfl,kk (.ref q) (L2++[(.node n l r,a,.ref q)]) _ (λb' o' oC nb=>?_) ⟨ae,λp hp=>?_⟩ (by rw [List.length_append]; show L2.length+1<=_; omega) (λp hp=>?_) (hT.keep c4)⟩
     . rw [aj nb]
       exact s3 _ _ (k2 _ _ (k1 _ _ oC nb) nb)
     . rcases List.mem_append.mp hp with hp | hp
       . exact ⟨((N2.ok p hp).1.keep (cv s3)).keep c4,((N2.ok p hp).2.keep (cv s3)).keep c4⟩
       . rw [List.mem_singleton] at hp
         subst hp
         exact ⟨oW.keep c4,hT.keep c4⟩
     . rcases List.mem_append.mp hp with hp | hp
       . rcases x2 p hp with hp | hp
         . rcases x1 p hp with hp | hp
           . exact .inl hp
           . exact .inr (by omega)
         . exact .inr (by omega)
       . rw [List.mem_singleton] at hp
         subst hp
         exact .inr (Nat.le_refl _)
theorem Hd:aT ["tree"] ["tree"] (ak pR):=⟨rfl,rfl,rfl,by decide +kernel,rfl,by decide +kernel,by decide +kernel⟩
theorem EE {f fB:Addr}{fd dB:FuncData}{k:Nat}(F:cy K "opposite" "opposite" pR f fd) (G:av P w K mg base aF k fB dB o3 (ml P w 9)) (mO:mg "opposite_by" = some (.ref fB)) (kO:W.keepIn K (.ref fB)=true) (bO:Binds K dB o3 []):av P w K mg base aF (k+1) f fd ["tree"] xh:=by
 refine F.ok Hd (λvs H Q E h=>?_) (λcdv A outer s H vs Q E hr h=>?_)
 . obtain ⟨v,t,rfl,_⟩:=h
   rfl
 . obtain ⟨v,t,rfl,hv,d8,sk,kk⟩:=h
   refine ⟨_,ao (aK (aI G hr rfl mO kO bO .nil aB (aa (pv 0) (aa sQ ab)))),?_⟩
   refine ⟨_,rfl,λkn D6=>?_⟩
   have z:=gz d8
   have s0:ai H (upd H kn (fv P w kn [])):=ai.ar D6
   refine ⟨v,kn,[],t,0,rfl,⟨ae,λ_ h=>nomatch h⟩,hv.keep (cv s0),d8,sk,by omega,Nat.le_refl _,by omega,λu L' H' k1 _ _ _ r1=>kk u H' (λb o hb=>k1 _ _ (s0 _ _ hb) (ah hb D6)) r1⟩
end
end Gen
namespace Gen
open PySem L2
abbrev iQ:Stmt:=top 15
abbrev iR:Stmt:=top 16
def bV (b:Bool):V:=.int (if b=true then 1 else 0)
def cn:List Str->List Bool->Tr
 | [],bs=>.leaf (bs.headD false)
 | n::r,bs=>if cn r (bs.take (bs.length / 2))=cn r (bs.drop (bs.length / 2)) then cn r (bs.take (bs.length / 2)) else .node n (cn r (bs.take (bs.length / 2))) (cn r (bs.drop (bs.length / 2)))
theorem pS (n:Str) (r:List Str) (bs:List Bool):cn (n::r) bs=if cn r (bs.take (bs.length / 2))=cn r (bs.drop (bs.length / 2)) then cn r (bs.take (bs.length / 2)) else .node n (cn r (bs.take (bs.length / 2))) (cn r (bs.drop (bs.length / 2))):=rfl
theorem iS:∀(names:List Str) (bs:List Bool),cg names (cn names bs)
 | [],bs=>.leaf _ _
 | n::r,bs=>by
  rw [pS]
  by_cases e:cn r (bs.take (bs.length / 2))=cn r (bs.drop (bs.length / 2))
  . rw [if_pos e]
    exact .skip (iS r _)
  . rw [if_neg e]
    exact .node e (iS r _) (iS r _)
theorem He (e:Str->Bool) (n:Str) (r:List Str) (bs:List Bool):ev e (cn (n::r) bs)=if e n=true then ev e (cn r (bs.drop (bs.length / 2))) else ev e (cn r (bs.take (bs.length / 2))):=by
 rw [pS]
 by_cases q:cn r (bs.take (bs.length / 2))=cn r (bs.drop (bs.length / 2))
 . rw [if_pos q,q]
   split <;> rfl
 . rw [if_neg q]
   rfl
theorem tQ (n:Nat):2 ^ (n+1) / 2=2 ^ n:=by rw [Nat.pow_succ]; omega
def gv (d:Nat):Sp:=λvs H Q _=>∃(u v:V) (t t':Tr),vs=[u,v]/\aZ H t u/\aZ H t' v/\t.dep<d/\Q (.bl (decide (t=t'))) H
section
variable {P:Program}{w:World}{K:W.Frag}{mg:Str->Option Value}{base:Heap}
abbrev iT:List Str:=["_law_found", "_law_due"]
theorem Lo:aT iT iT (ak iR):=⟨rfl,rfl,rfl,by decide +kernel,rfl,by decide +kernel,by decide +kernel⟩
theorem tS {f:Addr}{fd:FuncData}{d k:Nat}(F:cy K "_law_same_tree" "_law_same_tree" iR f fd) (T:fZ mg) (G:av P w K mg base aF k f fd iT (gv d)) (mS:mg "_law_same_tree" = some (.ref f)) (bS:Binds K fd iT []):av P w K mg base aF (k+1) f fd iT (gv (d+1)):=by
 refine F.ok Lo (λvs H Q E h=>?_) (λcdv A outer s H vs Q E hr h=>?_)
 . obtain ⟨u,v,t,t',rfl,_⟩:=h
   rfl
 . obtain ⟨u,v,t,t',rfl,hu,hv,hd,kk⟩:=h
   refine ⟨_,af (bQ (PW.pt (i5 (eS (aU cL (by rfl) T.isi PyProof.Rows.boot_isinstance (aa (pv 1) (aa (eM (v:=.ty "bool") (by rfl) T.bool PyProof.Rows.boot_bool rfl) ab))))
    (jv (eS (aU cL (by rfl) T.isi PyProof.Rows.boot_isinstance (aa (pv 0) (aa (eM (v:=.ty "bool") (by rfl) T.bool PyProof.Rows.boot_bool rfl) ab)))))))
    (ao (aK (rE (aU cL (by rfl) T.isi PyProof.Rows.boot_isinstance (aa (pv 1) (aa (eM (v:=.ty "bool") (by rfl) T.bool PyProof.Rows.boot_bool rfl) ab)))
     (rE (aU cL (by rfl) T.isi PyProof.Rows.boot_isinstance (aa (pv 0) (aa (eM (v:=.ty "bool") (by rfl) T.bool PyProof.Rows.boot_bool rfl) ab))) (xE (jz dq (pv 0) (pv 1) (bL _))))))) aV)
    (af (bQ (PW.pt (i5 (jw (eS (aU cL (by rfl) T.isi PyProof.Rows.boot_isinstance (aa (pv 0) (aa (eM (v:=.ty "tuple") (by rfl) T.tuple PyProof.Rows.boot_tuple rfl) ab)))))
     (i5 (bz qV (aU bo (by rfl) T.len PySem.boot_len (aa (pv 0) ab)) ag (bL _))
     (i5 (jw (eS (aU cL (by rfl) T.isi PyProof.Rows.boot_isinstance (aa (aQ (r:=cE K) bj (pv 0) ag (λ_ _=>rfl)) (aa (eM (v:=.ty "str") (by rfl) T.str PyProof.Rows.boot_str rfl) ab)))))
     (jv (bz qV (aQ (r:=cE K) bj (pv 0) ag (λ_ _=>rfl)) (aQ (r:=cE K) bj (pv 1) ag (λ_ _=>rfl)) (bL _)))))))
     (ao (aK d9)) aV)
    (ao (aK (rE (aI G hr rfl mS F.kp bS .nil aB (aa (aQ (r:=cE K) bj (pv 0) ag (λ_ _=>rfl)) (aa (aQ (r:=cE K) bj (pv 1) ag (λ_ _=>rfl)) ab)))
     (xE (aI G hr rfl mS F.kp bS .nil aB (aa (aQ (r:=cE K) bj (pv 0) ag (λ_ _=>rfl)) (aa (aQ (r:=cE K) bj (pv 1) ag (λ_ _=>rfl)) ab)))))))),?_⟩
   have fin:∀{b:Bool},(b=true ↔ t=t')->Q (.bl b) H:=λ{b} hb=>by
    rw [show b=decide (t=t') by rw [Bool.eq_iff_iff,hb,decide_eq_true_iff]]
    exact kk
   cases t' with
   | leaf c'=>
    cases (show v=.bl c' from hv)
    refine ⟨_,rfl,_,_, "bool",true,rfl,.bl _,rfl,_,rfl,nB (nB ?_)⟩
    refine ⟨_,rfl,_,_, "bool",true,rfl,.bl _,rfl,_,rfl,nB ?_⟩
    cases t with
    | leaf c=>
     cases (show u=.bl c from hu)
     refine ⟨_,rfl,_,_, "bool",true,rfl,.bl _,rfl,_,rfl,nB ⟨_,rfl,_,rfl,rfl,fin ?_⟩⟩
     rw [decide_eq_true_iff]
     exact ⟨λz=>(by cases z; rfl),λz=>(by cases z; rfl)⟩
    | node n l r=>
     obtain ⟨a,vl,vr,rfl,ha,_,_⟩:=hu
     exact ⟨_,rfl,_,_, "bool",false,rfl,.tup ha,rfl,_,rfl,jl (fin ⟨λz=>(by cases z),λz=>(by cases z)⟩)⟩
   | node n' l' r'=>
    obtain ⟨a',OP,OQ,rfl,y9,oG,yL⟩:=hv
    refine ⟨_,rfl,_,_, "bool",false,rfl,.tup y9,rfl,_,rfl,jl ?_⟩
    cases t with
    | leaf c=>
     cases (show u=.bl c from hu)
     refine ⟨_,rfl,_,_, "bool",true,rfl,.bl _,rfl,_,rfl,nB ?_⟩
     exact ⟨_,rfl,_,_, "bool",false,rfl,.tup y9,rfl,_,rfl,jl (fin ⟨λz=>(by cases z),λz=>(by cases z)⟩)⟩
    | node n l r=>
     obtain ⟨a,vl,vr,rfl,ha,hl,hR⟩:=hu
     have tj:(Tr.node n l r).dep=max l.dep r.dep+1:=rfl
     refine ⟨_,rfl,_,_, "bool",false,rfl,.tup ha,rfl,_,rfl,jl ?_⟩
     refine ⟨_,rfl,_,_, "tuple",true,rfl,.tup ha,rfl,_,rfl,jl ?_⟩
     refine ⟨_,rfl,a,_,rfl,.inr (aP.of ha),rfl,_,rfl,jl ?_⟩
     refine ⟨_,rfl,a,_,0,_,rfl,rfl,aP.of ha,aA (j:=0) rfl,_,_, "str",true,rfl,.str n,rfl,_,rfl,jl ?_⟩
     refine ⟨_,rfl,a,_,0,_,rfl,rfl,aP.of ha,aA (j:=0) rfl,_,rfl,a',_,0,_,rfl,rfl,aP.of y9,aA (j:=0) rfl,rfl,_,rfl,?_⟩
     by_cases en:n=n'
     . subst en
       refine bw (by rw [decide_eq_true rfl]; rfl) ?_
       refine ⟨_,rfl,a,_,1,_,rfl,rfl,aP.of ha,aA (j:=1) rfl,_,rfl,a',_,1,_,rfl,rfl,aP.of y9,aA (j:=1) rfl,_,_,l,l',rfl,hl,oG,by omega,_,rfl,?_⟩
       by_cases el:l=l'
       . subst el
         refine cb (decide_eq_true rfl) ?_
         refine ⟨_,rfl,a,_,2,_,rfl,rfl,aP.of ha,aA (j:=2) rfl,_,rfl,a',_,2,_,rfl,rfl,aP.of y9,aA (j:=2) rfl,_,_,r,r',rfl,hR,yL,by omega,fin ?_⟩
         rw [decide_eq_true_iff]
         exact ⟨λz=>(by rw [z]),λz=>(by injection z)⟩
       . refine bw (decide_eq_false el) (fin ?_)
         exact ⟨λz=>(nomatch z),λz=>absurd (by injection z) el⟩
     . refine cb (by rw [decide_eq_false (λz=>en (V.str.inj z))]; rfl) (fin ⟨λz=>(nomatch z),λz=>absurd (by injection z) en⟩)
def jH (d:Nat):Sp:=λvs H Q _=>∃(p q:Addr) (names:List Str) (bs:List Bool),vs=[.ref p,.ref q]/\H p=some (.lst (names.map V.str))/\H q=some (.lst (bs.map bV))/\names.length<d/\names.length<=8/\bs.length=2 ^ names.length/\
 ∀(v:V) (H':Hp),ai H H'->aZ H' (cn names bs) v->Q v H'
abbrev Py:List Str:=["_law_names", "_law_bits_here", "_law_half", "_law_low", "_law_high"]
abbrev nc:List Str:=["_law_names", "_law_bits_here"]
theorem xi:aT Py nc (ak iQ):=⟨rfl,rfl,rfl,by decide +kernel,rfl,by decide +kernel,by decide +kernel⟩
theorem tU {xs:List V}{k:Nat}(h:k<=xs.length):dv xs (some (k:Int)) none=xs.drop k:=by
 unfold dv
 rw [HT.ve,HT.rV,Nat.min_eq_left h]
 exact List.take_of_length_le (by rw [List.length_drop]; exact Nat.le_refl _)
theorem EF {xs:List V}{k:Nat}(h:k<=xs.length):dv xs none (some (k:Int))=xs.take k:=by
 unfold dv
 rw [HT.ve,HT.rV,Nat.min_eq_left h]
 rfl
theorem An {f fS:Addr}{fd dS:FuncData}{d k:Nat}(F:cy K "_law_canon" "_law_canon" iQ f fd) (O2:fZ mg) (G:av P w K mg base aF (k+9) f fd nc (jH d)) (mC:mg "_law_canon" = some (.ref f)) (bC:Binds K fd nc [])
 (gS:av P w K mg base aF 9 fS dS iT (gv 9)) (mS:mg "_law_same_tree" = some (.ref fS)) (kS:W.keepIn K (.ref fS)=true) (bS:Binds K dS iT []):av P w K mg base aF (k+9+1) f fd nc (jH (d+1)):=by
 refine F.ok xi (λvs H Q E h=>?_) (λcdv A outer s H vs Q E hr h=>?_)
 . obtain ⟨p,q,names,bs,rfl,_⟩:=h
   rfl
 . obtain ⟨p,q,names,bs,rfl,hp,hq,hd,n8,hlen,kk⟩:=h
   have hu:=jV hr
   have EG:=hr.mono (Nat.le_add_left 9 k)
   refine ⟨_,af (bQ (bz (Ec (Nat.lt_of_succ_lt hu)) (pv 0) (fL ab) (bL _)) (ao (aK (jz dq (aQ (r:=fU K) b0 (pv 1) ag (λ_ _=>rfl)) ag (bL _)))) aV)
    (af (ax (i:=2) xi.nd rfl (Or.inl rfl) (aO lU (aU bo (by rfl) O2.len PySem.boot_len (aa (pv 1) ab)) ag))
    (af (ax (i:=3) xi.nd rfl (Or.inl rfl) (aI G hr rfl mC F.kp bC .nil aB (aa (du jB (pv 0) (dW ag) fo) (aa (du jB (pv 1) fo (dW (pv 2))) ab))))
    (af (ax (i:=4) xi.nd rfl (Or.inl rfl) (aI G hr rfl mC F.kp bC .nil aB (aa (du jB (pv 0) (dW ag) fo) (aa (du jB (pv 1) (dW (pv 2)) fo) ab))))
    (af (bQ (eS (aI gS EG rfl mS kS bS .nil aB (aa (pv 3) (aa (pv 4) ab)))) (ao (aK (pv 3))) aV)
    (ao (aK (df (aa (aQ (r:=fU K) b0 (pv 0) ag (λ_ _=>rfl)) (aa (pv 3) (aa (pv 4) ab)))))))))),?_⟩
   refine ⟨_,rfl,(by show 0<=sizeLine; decide),λe0 Pz=>?_⟩
   have s1:ai H (upd H e0 (.lst [])):=ai.ar Pz
   have q1:(upd H e0 (.lst [])) e0=some (.lst []):=ae
   generalize upd H e0 (.lst [])=H1 at s1 q1 ⊢
   refine ⟨p,e0,_,rfl,rfl,ay.of (s1 _ _ hp),ay.of q1,_,rfl,?_⟩
   cases names with
   | nil=>
    match bs,hlen with
    | [b],_=>
     refine cb rfl ⟨_,rfl,q,_,0,_,rfl,rfl,ay.of (s1 _ _ hq),aA (j:=0) rfl,rfl,kk _ H1 s1 ?_⟩
     cases b <;> rfl
   | cons n r=>
    rw [List.length_cons] at hd n8 hlen
    have yH:=tQ r.length
    have Sg:=Nat.pow_succ 2 r.length
    have hh:bs.length / 2=2 ^ r.length:=by rw [hlen,yH]
    refine bw rfl ⟨_,rfl,q,_,rfl,.inl (ay.of (s1 _ _ hq)),_,_,rfl,rfl,⟨by decide,by decide⟩,?_⟩
    have eh:V.int ((((bs.map bV).length:Nat):Int) / 2)=V.int ((2 ^ r.length:Nat):Int):=by rw [List.length_map,← hh]; rfl
    show eZ 2 (V.int ((((bs.map bV).length:Nat):Int) / 2)) _ _ _
    rw [eh]
    have hle:2 ^ r.length<=(bs.map bV).length:=by rw [List.length_map]; omega
    have n1:dv ((n::r).map V.str) (some 1) none=r.map V.str:=tU (k:=1) (by rw [List.length_map,List.length_cons]; omega)
    have Ju:r.length<=8:=by omega
    refine ⟨_,rfl,_,rfl,p,_,rfl,ay.of (s1 _ _ hp),λp2 gU=>?_⟩
    rw [n1]
    have s2:ai H1 (upd H1 p2 (.lst (r.map V.str))):=ai.ar gU
    have q2:(upd H1 p2 (.lst (r.map V.str))) p2=some (.lst (r.map V.str)):=ae
    show jS _ _ _ (upd H1 p2 (.lst (r.map V.str))) _
    generalize upd H1 p2 (.lst (r.map V.str))=H2 at s2 q2 ⊢
    have Bl:=s1.trans s2
    refine ⟨_,rfl,_,rfl,_,rfl,q,_,rfl,ay.of (Bl _ _ hq),λb2 PB=>?_⟩
    rw [EF hle,← List.map_take]
    have s3:ai H2 (upd H2 b2 (.lst ((bs.take (2 ^ r.length)).map bV))):=ai.ar PB
    have q3:(upd H2 b2 (.lst ((bs.take (2 ^ r.length)).map bV))) b2=some (.lst ((bs.take (2 ^ r.length)).map bV)):=ae
    refine ⟨p2,b2,r,bs.take (2 ^ r.length),rfl,s3 _ _ q2,q3,by omega,Ju,by rw [List.length_take]; omega,λv1 H4 s4 r1=>?_⟩
    have vW:=(Bl.trans s3).trans s4
    refine ⟨_,rfl,_,rfl,p,_,rfl,ay.of (vW _ _ hp),λp5 sD=>?_⟩
    rw [n1]
    have s5:ai H4 (upd H4 p5 (.lst (r.map V.str))):=ai.ar sD
    have q5:(upd H4 p5 (.lst (r.map V.str))) p5=some (.lst (r.map V.str)):=ae
    show jS _ _ _ (upd H4 p5 (.lst (r.map V.str))) _
    generalize upd H4 p5 (.lst (r.map V.str))=H5 at s5 q5 ⊢
    have Bm:=vW.trans s5
    refine ⟨_,rfl,_,rfl,_,rfl,q,_,rfl,ay.of (Bm _ _ hq),λb6 PF=>?_⟩
    rw [tU hle,← List.map_drop]
    have s6:ai H5 (upd H5 b6 (.lst ((bs.drop (2 ^ r.length)).map bV))):=ai.ar PF
    have q6:(upd H5 b6 (.lst ((bs.drop (2 ^ r.length)).map bV))) b6=some (.lst ((bs.drop (2 ^ r.length)).map bV)):=ae
    refine ⟨p5,b6,r,bs.drop (2 ^ r.length),rfl,s6 _ _ q5,q6,by omega,Ju,by rw [List.length_drop]; omega,λv2 H7 s7 r2=>?_⟩
    have Jv:=(s5.trans s6).trans s7
    have EH:=vW.trans Jv
    have EI:=r1.keep (cv Jv)
    have c1:=cI (iS r (bs.take (2 ^ r.length)))
    refine ⟨_,rfl,_,rfl,_,_,_,_,rfl,EI,r2,by omega,_,rfl,?_⟩
    have ec:=pS n r bs
    rw [hh] at ec
    by_cases e:cn r (bs.take (2 ^ r.length))=cn r (bs.drop (2 ^ r.length))
    . refine cb (decide_eq_true e) ⟨_,rfl,kk v1 H7 EH ?_⟩
      rw [ec,if_pos e]
      exact EI
    . refine bw (decide_eq_false e) ?_
      refine ⟨_,rfl,p,_,0,_,rfl,rfl,ay.of (EH _ _ hp),aA (j:=0) rfl,_,rfl,_,rfl,(by show 3<=sizeLine; decide),λt ht=>?_⟩
      have s8:ai H7 (upd H7 t (.tup [.str n,v1,v2])):=ai.ar ht
      refine kk (.ref t) _ (EH.trans s8) ?_
      rw [ec,if_neg e]
      exact ⟨t,v1,v2,rfl,ae,EI.keep (cv s8),r2.keep (cv s8)⟩
end
end Gen
namespace PySem
section
variable {prog:Program}{w:World}{A:Around}{s:Shared}{R:Result->Shared->Prop}
variable {I:Addr}{fp wr:List Addr}{G:Array GenState->Array GenState->Prop}{n:Nat}{P:Nat->Value->Prop}{St:Nat->Shared->Prop}
end
end PySem
namespace L2
open PySem PySem.Spec PyProof.Rows
section
variable {X:Cx}
end
end L2
namespace Gen
open PySem L2
abbrev eX:Stmt:=top 17
abbrev iI:Stmt:=top 18
abbrev mm:Stmt:=top 19
theorem Lp (i:Int):∃b:Bool,V.int (Builtin.bitAnd i 1)=bV b:=by
 by_cases h:0<=i
 . refine ⟨decide (i.toNat % 2=1),?_⟩
   rw [PyProof.Rows.bitAnd_pp h (by decide),show (1:Int).toNat=1 from rfl,Nat.and_one_is_mod]
   unfold bV
   rcases Nat.mod_two_eq_zero_or_one i.toNat with e | e <;> rw [e] <;> rfl
 . refine ⟨decide ((Builtin.bitNot i).toNat % 2=0),?_⟩
   rw [PyProof.Rows.bitAnd_np h (by decide),show (1:Int).toNat=1 from rfl,Nat.and_comm,Nat.and_one_is_mod]
   unfold bV
   rcases Nat.mod_two_eq_zero_or_one (Builtin.bitNot i).toNat with e | e <;> rw [e] <;> rfl
theorem Cz {x:Str}(h:eg x):PyData.strOk x=true:=by
 unfold PyData.strOk
 rw [Array.all_eq_true']
 refine λc hc=>decide_eq_true ?_
 have:=mJ.mp (h.2.2 c (Array.mem_toList_iff.mpr hc))
 omega
def tV (K:W.Frag):Sp:=λvs H Q _=>∃(a:Addr) (ns:List Int) (k:Int),vs=[.ref a,.int k]/\ay K H a (ns.map V.int)/\0<=k/\k<=1000/\∀v:Int,Q (.int v) H
def za:Sp:=λvs H Q _=>∃(x:Int) (n:Nat),vs=[.int x,.int (n:Int)]/\n<=8/\∀(q:Addr) (bs:List Bool) (H':Hp),ai H H'->H q=none->H' q=some (.lst (bs.map bV))->bs.length=2 ^ n->Q (.ref q) H'
def vX (K:W.Frag):Sp:=λvs H Q _=>∃(a:Addr) (ns:List Int),vs=[.ref a]/\ay K H a (ns.map V.int)/\∀(l:Addr) (names:List Str) (H':Hp),ai H H'->H l=none->Ord H' l names->Q (.ref l) H'
theorem Lq:(["_law_place", "_law_number_here"]:List Str).Nodup:=by decide +kernel
theorem Lr:(["_law_place"]:List Str).Nodup:=by decide +kernel
theorem tW {n:Nat}(h:n<=8):2 ^ n<=256:=Nat.pow_le_pow_right (by decide) h
theorem pow_int (n:Nat):(1:Int)*2 ^ ((n:Int)).toNat=((2 ^ n:Nat):Int):=by rw [Int.one_mul,Int.toNat_natCast]; exact (Int.natCast_pow 2 n).symm
section
variable {P:Program}{w:World}{K:W.Frag}{mg:Str->Option Value}{base:Heap}
theorem xj:aT ["_law_script", "_law_k", "_law_number_here"] ["_law_script", "_law_k"] (ak iI):=⟨rfl,rfl,rfl,by decide +kernel,rfl,by decide +kernel,by decide +kernel⟩
theorem zb {f fC fR:Addr}{fd dC dR:FuncData}(F:cy K "_law_number" "_law_number" iI f fd)
 (gC:av P w K mg base aF 1 fC dC ["_law_script", "_law_k"] (oH K)) (mC:mg "_law_cell_at" = some (.ref fC)) (kC:W.keepIn K (.ref fC)=true) (bC:Binds K dC ["_law_script", "_law_k"] [])
 (gR:av P w K mg base aF 2 fR dR ["_law_cell", "_law_k"] oI) (mR:mg "_law_rich" = some (.ref fR)) (kR:W.keepIn K (.ref fR)=true) (bR:Binds K dR ["_law_cell", "_law_k"] []):av P w K mg base aF 3 f fd ["_law_script", "_law_k"] (tV K):=by
 refine F.ok xj (λvs H Q E h=>?_) (λcdv A outer s H vs Q E hr h=>?_)
 . obtain ⟨a,ns,k,rfl,_⟩:=h
   rfl
 . obtain ⟨a,ns,k,rfl,ha,k0,k1,kk⟩:=h
   have dM:bx 1 _:=hr.mono (by decide)
   refine ⟨_,af (ax (i:=2) xj.nd rfl (Or.inl rfl) (aI gC dM rfl mC kC bC .nil aB (aa (pv 0) (aa (pv 1) ab))))
    (af (bQ (bz dq (aO gM (aI gC dM rfl mC kC bC .nil aB (aa (pv 0) (aa ag ab))) ag) ag (bL _)) (ao (ax (i:=2) xj.nd rfl (Or.inl rfl) (aI gR hr rfl mR kR bR .nil aB (aa (pv 2) (aa (pv 1) ab))))) aV)
    (ao (aK (pv 2)))),?_⟩
   refine ⟨_,rfl,_,rfl,a,ns,k,rfl,ha,k0,λx=>?_⟩
   refine ⟨_,rfl,a,ns,0,rfl,ha,by decide,λc=>⟨_,_,rfl,rfl,(by show (0:Int)<2; decide),rfl,_,rfl,?_⟩⟩
   exact lz (λ_=>⟨_,rfl,_,rfl,_,k,rfl,k0,k1,λz=>⟨_,rfl,kk z⟩⟩) (λ_=>⟨_,rfl,kk x⟩)
abbrev PH:List Str:=["_law_number_here", "_law_many", "_law_bits_here", "_law_k"]
abbrev zc:List Str:=["_law_number_here", "_law_many"]
theorem xk:aT PH zc (ak mm):=⟨rfl,rfl,rfl,by decide +kernel,rfl,by decide +kernel,by decide +kernel⟩
theorem CA {f:Addr}{fd:FuncData}(F:cy K "_law_bits" "_law_bits" mm f fd) (O:Own mg):av P w K mg base aF 1 f fd zc za:=by
 refine F.ok xk (λvs H Q E h=>?_) (λcdv A outer s H vs Q E hr h=>?_)
 . obtain ⟨x,n,rfl,_⟩:=h
   rfl
 . obtain ⟨x,n,rfl,n8,kk⟩:=h
   refine ⟨_,af (bQ (bz wB (pv 1) ag (bL _)) (ao (aK (ee (N:=["_law_place", "_law_number_here"]) (js:=[none,some 0]) (by kernel_rfl) rfl (cV rfl O.range (aa (aO xM ag (pv 1)) ab)) (λ_ _ _ _ _ _=>aW (i:=0) Lq rfl (Or.inl rfl) (.inr rfl)) (λ_ _ _ _ _ _=>cG)
    (λ_ _ _ _ _ _=>aO Dn (aO Dm (pv 1) (pv 0)) ag)))) aV)
    (af (G0 (i:=2) (N:=["_law_place"]) (js:=[none]) xk.nd rfl rfl (by kernel_rfl) rfl (cV rfl O.range (aa (aO xM ag (pv 1)) ab)) (λ_ _ _ _ _ _=>aW (i:=0) Lr rfl (Or.inl rfl) (.inr rfl)) (λ_ _ _ _ _ _=>cG)
     (λ_ _ _ _ _ _=>ag))
    (af (fJ PassesOwn.never rfl (cV rfl O.range (aa ag ab)) (aW (i:=3) xk.nd rfl (Or.inl rfl))
     (af (xG ag (xF (pv 2) (aO gM (pv 0) (aU bo (by rfl) O.len PySem.boot_len (aa (pv 2) ab))) set_list))
     (ao (ax (i:=0) xk.nd rfl (Or.inr rfl) (aO lU (pv 0) (aU bo (by rfl) O.len PySem.boot_len (aa (pv 2) ab)))))))
    (ao (aK (pv 2))))),?_⟩
   have hp:=tW n8
   have EJ:0<2 ^ n:=Nat.two_pow_pos n
   have Bn:=pow_int n
   have PJ:∃j:Int,(1:Int)*2 ^ ((n:Int)).toNat=j /\ -(2 ^ 62)<=j/\j<2 ^ 62/\j.toNat=2 ^ n:=⟨_,Bn,Int.le_trans (by decide : -(2 ^ 62)<=(0:Int)) (by omega),Int.lt_of_le_of_lt (by omega:((2 ^ n:Nat):Int)<=256) (by decide),by omega⟩
   obtain ⟨j,ej,j1,j2,j3⟩:=PJ
   refine ⟨_,rfl,_,_,rfl,rfl,_,rfl,?_⟩
   refine lz (λ_=>?_) (λ_=>?_)
   . refine ⟨_,rfl,_,_,rfl,rfl,⟨by omega,by omega,by decide⟩,_,rfl,by rw [ej]; exact j1,by rw [ej]; exact j2,λD hD=>?_⟩
     rw [ej,j3]
     refine gx (2 ^ n) (λi acc σ H3=>(∃bs:List Bool,acc=bs.map bV/\bs.length=i)/\(∃u,σ=[u,some (.int x)])/\ai H H3) ⟨⟨[],rfl,rfl⟩,⟨none,rfl⟩,ai.ar hD⟩ ae ?_ ?_
     . rintro acc σ H3 cO ⟨⟨bs,rfl,kL⟩,_,s3⟩
       exact ⟨Nat.le_refl _,kk D bs H3 s3 hD cO kL⟩
     . rintro i acc σ H3 hi cO ⟨⟨bs,rfl,kL⟩,⟨u,rfl⟩,s3⟩
       refine ⟨hi,?_⟩
       rintro y H' ⟨rfl,rfl⟩
       refine eJ ?_
       refine ⟨_,rfl,_,rfl,_,_,rfl,rfl,(by show (0:Int)<=0+(i:Int); omega),_,_,rfl,rfl,?_⟩
       obtain ⟨b,hb⟩:=Lp (x / 2 ^ (0+(i:Int)).toNat)
       refine ⟨_,cO,(by rw [List.length_map]; exact small (by omega)),cM hi ae ⟨⟨bs++[b],by rw [List.map_append]; exact congrArg (bs.map bV++[·]) hb,by rw [List.length_append,kL]; rfl⟩,⟨_,rfl⟩,λc o hc=>?_⟩⟩
       rw [aj (ah hc hD)]
       exact s3 _ _ hc
   . refine ⟨_,rfl,_,_,rfl,rfl,⟨by omega,by omega,by decide⟩,_,rfl,by rw [ej]; exact j1,by rw [ej]; exact j2,λD hD=>?_⟩
     rw [ej,j3]
     refine gx (2 ^ n) (λi acc σ H3=>(∃bs:List Bool,acc=bs.map bV/\bs.length=i)/\(∃u,σ=[u])/\ai H H3) ⟨⟨[],rfl,rfl⟩,⟨none,rfl⟩,ai.ar hD⟩ ae ?_ ?_
     . rintro acc σ H3 cO ⟨⟨bs,rfl,kL⟩,_,s3⟩
       refine ⟨Nat.le_refl _,?_⟩
       refine ⟨_,rfl,by decide,by decide,fm (n:=6) (λi σ Hi=>∃(y:Int) (v3:Option V) (cs:List Bool),σ=[some (.int y),some (.int (n:Int)),some (.ref D),v3]/\Hi D=some (.lst (cs.map bV))/\cs.length=2 ^ n/\ai H Hi) ⟨x,none,bs,rfl,cO,kL,s3⟩ ?_ ?_⟩
       . rintro i σ Hi hi ⟨y,v3,cs,rfl,Bo,vg,si⟩
         have hlen:(((cs.map bV).length:Nat):Int)=((2 ^ n:Nat):Int):=by rw [List.length_map,vg]
         have l0:(0:Int)<(((cs.map bV).length:Nat):Int):=by rw [hlen]; omega
         have l1:(((cs.map bV).length:Nat):Int)<1073741824:=by rw [hlen]; omega
         have Jw:=Int.emod_nonneg y (Int.ne_of_gt l0)
         have EK:=Int.emod_lt_of_pos y l0
         refine ⟨_,rfl,_,rfl,_,rfl,D,_,rfl,.inl (ay.of Bo),_,_,rfl,rfl,l0,D,_,_,(y % (((cs.map bV).length:Nat):Int)).toNat,rfl,rfl,Bo,?_,?_⟩
         . unfold qh
           rw [if_pos Jw,if_pos (by omega)]
         have q2:(upd Hi D (.lst ((cs.map bV).set (y % (((cs.map bV).length:Nat):Int)).toNat (.int 1)))) D=some (.lst ((cs.set (y % (((cs.map bV).length:Nat):Int)).toNat true).map bV)):=by rw [ae,List.map_set]; rfl
         have s2:ai H (upd Hi D (.lst ((cs.map bV).set (y % (((cs.map bV).length:Nat):Int)).toNat (.int 1)))):=λc o hc=>by rw [aj (ah hc hD)]; exact si _ _ hc
         generalize upd Hi D (.lst ((cs.map bV).set (y % (((cs.map bV).length:Nat):Int)).toNat (.int 1)))=H2 at q2 s2 ⊢
         have eU:(cs.set (y % (((cs.map bV).length:Nat):Int)).toNat true).length=2 ^ n:=by rw [List.length_set]; exact vg
         generalize cs.set (y % (((cs.map bV).length:Nat):Int)).toNat true=PK at q2 eU
         refine ⟨_,rfl,_,rfl,D,_,rfl,.inl (ay.of q2),_,_,rfl,rfl,⟨by rw [List.length_map,eU]; omega,by rw [List.length_map,eU]; omega⟩,?_⟩
         exact ⟨_,_,PK,rfl,q2,eU,s2⟩
       . rintro σ Hi ⟨y,v3,cs,rfl,Bo,vg,si⟩
         exact ⟨_,rfl,kk D cs Hi si hD Bo vg⟩
     . rintro i acc σ H3 hi cO ⟨⟨bs,rfl,kL⟩,⟨u,rfl⟩,s3⟩
       refine ⟨hi,?_⟩
       rintro y H' ⟨rfl,rfl⟩
       refine eJ ?_
       refine ⟨_,cO,(by rw [List.length_map]; exact small (by omega)),cM hi ae ⟨⟨bs++[false],by rw [List.map_append]; rfl,by rw [List.length_append,kL]; rfl⟩,⟨_,rfl⟩,λc o hc=>?_⟩⟩
       rw [aj (ah hc hD)]
       exact s3 _ _ hc
abbrev EL:List Str:=["_law_script", "_law_number_here", "_law_left", "_law_names", "_law_many", "_law_k"]
theorem lL:aT EL ["_law_script"] (ak eX):=⟨rfl,rfl,rfl,by decide +kernel,rfl,by decide +kernel,by decide +kernel⟩
end
end Gen
namespace PySem
open Sem (wp)
section
variable {prog:Program}{w:World}{A:Around}{E:Value->Shared->Prop}{s:Shared}
theorem ke {it t:Addr}{i:Nat}{items} {x:Value}{Q:Value->Shared->Prop}(hit:s.heap.IsTupleIter it t i) (ht:s.heap.IsTuple t items) (hx:items[i]?=some x)
 (hQ:∀h',h'.IsTupleIter it t (i+1)->Heap.SameBut it s.heap h'->Q x { s with heap:=h' }):wpAny (model prog w) A (Builtin.SmallTypes.nextOf (.ref it)) Q E s:=by
 obtain ⟨o,ho,hc,hd⟩:=id hit
 obtain ⟨ol,ng,_,nl,m7⟩:=ht
 unfold Builtin.SmallTypes.nextOf
 refine wpAny_bind (wpAny_callSpecial?_slot (name:=Str.ofString "__next__") hit.typeIs F.slot_tuple_iterator_next (wpAny_call_entry F.slot_tuple_iterator_next hit.typeIs F.entry_tuple_iterator_next ?_ (F.args_tuple_iterator_next_1 _)))
 show wpAny _ _ (field (.ref it) 0 >>= _) _ _ s
 refine wpAny_bind (wpAny_field ho hd (x:=.ref t) rfl ?_)
 show wpAny _ _ (if (Value.ref t == Value.none)=true then _ else _) _ _ s
 rw [if_neg (show ¬ ((Value.ref t == Value.none)=true) from Bool.false_ne_true)]
 show wpAny _ _ (field (.ref it) 1 >>= _) _ _ s
 refine wpAny_bind (wpAny_field ho hd (x:=.int i 0) rfl ?_)
 show wpAny _ _ (seqItems? (.ref t) >>= _) _ _ s
 refine wpAny_bind (wpAny_seqItems ng m7 ?_)
 simp only [Int.toNat_natCast,hx]
 refine wpAny_bind (wpAny_setField ho hd (by simp) (wpAny_pure ⟨x,rfl,wpAny_pure (hQ _ ?_ (Heap.SameBut.update ..))⟩))
 exact ⟨_,Heap.get?_update_self _ ho (Obj.isFreed_of_fields (Obj.data_mapFields hd _)),(Obj.cls_mapFields ..).trans hc,by rw [Obj.data_mapFields hd]; simp [rawInt]⟩
theorem kQ {it t:Addr}{i:Nat}{items} {Q:Value->Shared->Prop}(hh:A.handled=none) (hit:s.heap.IsTupleIter it t i) (ht:s.heap.IsTuple t items) (hx:items[i]?=none)
 (hE:∀h' e,Heap.ExtBut it s.heap h'->(∃o,h'.get? e=some o/\o.cls=.type "StopIteration")->E (.ref e) { s with heap:=h' }):wpAny (model prog w) A (Builtin.SmallTypes.nextOf (.ref it)) Q E s:=by
 obtain ⟨o,ho,hc,hd⟩:=id hit
 obtain ⟨ol,ng,_,nl,m7⟩:=ht
 unfold Builtin.SmallTypes.nextOf
 refine wpAny_bind (wpAny_callSpecial?_slot (name:=Str.ofString "__next__") hit.typeIs F.slot_tuple_iterator_next (wpAny_call_entry F.slot_tuple_iterator_next hit.typeIs F.entry_tuple_iterator_next ?_ (F.args_tuple_iterator_next_1 _)))
 show wpAny _ _ (field (.ref it) 0 >>= _) _ _ s
 refine wpAny_bind (wpAny_field ho hd (x:=.ref t) rfl ?_)
 show wpAny _ _ (if (Value.ref t == Value.none)=true then _ else _) _ _ s
 rw [if_neg (show ¬ ((Value.ref t == Value.none)=true) from Bool.false_ne_true)]
 show wpAny _ _ (field (.ref it) 1 >>= _) _ _ s
 refine wpAny_bind (wpAny_field ho hd (x:=.int i 0) rfl ?_)
 show wpAny _ _ (seqItems? (.ref t) >>= _) _ _ s
 refine wpAny_bind (wpAny_seqItems ng m7 ?_)
 simp only [Int.toNat_natCast,hx]
 refine wpAny_bind (wpAny_rule (wpAny_bind (wpAny_setField ho hd (by simp) ?_)))
 show wpAny _ _ (newExc (.type "StopIteration") [] >>= _) _ _ _
 refine wpAny_bind ?_
 simp only [newExc,newTuple]
 refine wpAny_bind (wpAny_newObj_type ?_ (by size_fits))
 refine wpAny_bind (m:=firstArgMember _ _) (wpAny_of_eq (a:=Value.none) (by first | rfl | (simp only [firstArgMember]; rfl)) ?_)
 refine wpAny_newObj_type ?_ (by size_fits)
 simp only [raiseNew]
 refine wpAny_bind (wpAny_handled ?_)
 first | rw [show A.in1.handled=none from hh] | rw [hh]
 refine wpAny_bind (wpAny_pure (wpAny_throw ?_))
 exact hE _ _ (((Heap.SameBut.update ..).extBut.push _).push _) ⟨_,Heap.get?_push_size _ rfl,rfl⟩
end
def iw (tp:Bool) (h:Heap) (l:Addr) (xs:Array Value):Prop:=match tp with | true=>h.IsTuple l xs | false=>h.IsList l xs
def dj (tp:Bool) (h:Heap) (i l:Addr) (k:Nat):Prop:=match tp with | true=>h.IsTupleIter i l k | false=>h.IsListIter i l k
theorem iw.at {tp:Bool}{h h':Heap}{l:Addr}{xs:Array Value}(x:iw tp h l xs) (k:∀o,h.get? l=some o->h'.get? l=some o):iw tp h' l xs:=by
 cases tp <;> (obtain ⟨o,e,r⟩:=x; exact ⟨o,k o e,r⟩)
theorem dj.at {tp:Bool}{h h':Heap}{i l:Addr}{n:Nat}(x:dj tp h i l n) (k:∀o,h.get? i=some o->h'.get? i=some o):dj tp h' i l n:=by
 cases tp <;> (obtain ⟨o,e,r⟩:=x; exact ⟨o,k o e,r⟩)
theorem dj.there {tp:Bool}{h:Heap}{i l:Addr}{n:Nat}(x:dj tp h i l n):∃o,h.get? i=some o/\∃vs,o.data=.fields vs:=by
 cases tp <;> (obtain ⟨o,e,c,d⟩:=x; exact ⟨o,e,_,d⟩)
theorem iw.there {tp:Bool}{h:Heap}{l:Addr}{xs:Array Value}(x:iw tp h l xs):∃o,h.get? l=some o:=by
 cases tp <;> (obtain ⟨o,e,r⟩:=x; exact ⟨o,e⟩)
section
variable {prog:Program}{w:World}{A:Around}{E:Value->Shared->Prop}{s:Shared}{tp:Bool}
theorem jI {it l:Addr}{i:Nat}{items} {x:Value}{Q:Value->Shared->Prop}(hit:dj tp s.heap it l i) (hl:iw tp s.heap l items) (hx:items[i]?=some x)
 (hQ:∀h',dj tp h' it l (i+1)->Heap.SameBut it s.heap h'->Q x { s with heap:=h' }):wpAny (model prog w) A (Builtin.SmallTypes.nextOf (.ref it)) Q E s:=by
 cases tp
 . exact wpAny_nextOf_list_item hit hl hx hQ
 . exact ke hit hl hx hQ
theorem zd {it l:Addr}{i:Nat}{items} {Q:Value->Shared->Prop}(hh:A.handled=none) (hit:dj tp s.heap it l i) (hl:iw tp s.heap l items) (hx:items[i]?=none)
 (hE:∀h' e,Heap.ExtBut it s.heap h'->(∃o,h'.get? e=some o/\o.cls=.type "StopIteration")->E (.ref e) { s with heap:=h' }):wpAny (model prog w) A (Builtin.SmallTypes.nextOf (.ref it)) Q E s:=by
 cases tp
 . exact wpAny_nextOf_list_end hh hit hl hx hE
 . exact kQ hh hit hl hx hE
theorem NR {z TI TO i1 i2 l1 l2:Addr}{k:Nat}{xs ys:Array Value}{x y a b:Value}{Q:Option Value->Shared->Prop}(nd:[z,TI,TO,i1,i2].Nodup) (n1:l1∉[z,TI,TO,i1,i2]) (n2:l2∉[z,TI,TO,i1,i2])
 (hz:IsZip s.heap z TI TO .none) (cZ:IsPair s.heap TI (.ref i1) (.ref i2)) (eB:IsPair s.heap TO a b) (h1:dj tp s.heap i1 l1 k) (h2:dj tp s.heap i2 l2 k) (jJ:iw tp s.heap l1 xs) (eU:iw tp s.heap l2 ys) (hx:xs[k]?=some x) (hy:ys[k]?=some y)
 (hQ:∀h',IsZip h' z TI TO (rawInt s.heap.objs.size)->IsPair h' TO x y->dj tp h' i1 l1 (k+1)->dj tp h' i2 l2 (k+1)->IsPair h' s.heap.objs.size x y->
  (∀c o,c≠z->c≠TO->c≠i1->c≠i2->s.heap.get? c=some o->h'.get? c=some o)->Q (some (.ref s.heap.objs.size)) { s with heap:=h' }):wpAny (model prog w) A (pyNext (.ref z)) Q E s:=by
 simp only [List.nodup_cons,List.mem_cons,List.not_mem_nil,or_false,not_or] at nd n1 n2
 obtain ⟨⟨nh,gb,eY,ia⟩,⟨TITO,TIi1,TIi2⟩,⟨TOi1,TOi2⟩,i12,_⟩:=nd
 obtain ⟨l1z,EM,l1TO,l1i1,l1i2⟩:=n1
 obtain ⟨l2z,Ls,l2TO,l2i1,l2i2⟩:=n2
 have hT:s.TypeIs (.ref z) "zip":=⟨_,hz,rfl⟩
 unfold pyNext
 refine wpAny_bind (wpAny_attempt (wpAny_callSpecial?_slot (name:=Str.ofString "__next__") hT F.slot_zip_next (wpAny_call_entry F.slot_zip_next hT F.entry_zip_next ?_ (F.args_zip_next_1 _))))
 show wpAny _ _ (field (.ref z) 2 >>= _) _ _ _
 refine wpAny_bind (wpAny_field hz rfl (x:=.bool false) rfl ?_)
 show wpAny _ _ (field (.ref z) 3 >>= _) _ _ _
 refine wpAny_bind (wpAny_field hz rfl (x:=.ref TI) rfl ?_)
 refine wpAny_bind (wpAny_seqItems cZ rfl ?_)
 show wpAny _ _ (Builtin.SmallTypes.ownedTupleIsFree (.ref z) >>= _) _ _ _
 refine wpAny_bind ?_
 unfold Builtin.SmallTypes.ownedTupleIsFree
 refine wpAny_bind (wpAny_field hz rfl (x:=.none) rfl (wpAny_pure ?_))
 simp only [if_true]
 refine wpAny_bind (wpAny_rule ?_)
 refine wpAny_bind (wpAny_field hz rfl (x:=.ref TO) rfl ?_)
 refine wpAny_bind (wpAny_setField_rec hz (by simp) λeI dk dU=>?_)
 replace dk:IsZip eI z TI TO .ellipsis:=dk
 refine wpAny_bind ?_
 simp only [List.zipIdx_cons,List.zipIdx_nil,List.forIn_cons,List.forIn_nil]
 have k1:∀c o,c≠z->s.heap.get? c=some o->eI.get? c=some o:=λc o n e=>dU.extBut _ _ n e
 refine wpAny_bind (wpAny_bind (wpAny_onRaise ?_))
 show wpAny _ _ (Builtin.SmallTypes.nextOf (.ref i1) >>= _) _ _ _
 refine wpAny_bind (jI (h1.at λo e=>k1 _ o (Ne.symm eY) e) (jJ.at λo e=>k1 _ o l1z e) hx λig tX gc=>wpAny_pure ?_)
 have k2:∀c o,c≠i1->eI.get? c=some o->ig.get? c=some o:=λc o n e=>gc.extBut _ _ n e
 have lM:IsPair ig TO a b:=k2 _ _ TOi1 (k1 _ _ (Ne.symm gb) eB)
 refine wpAny_bind (wpAny_seqItems lM rfl ?_)
 refine wpAny_bind (wpAny_updateSeq_pair lM λgk iU ib=>?_)
 replace iU:IsPair gk TO x b:=iU
 have k3:∀c o,c≠TO->ig.get? c=some o->gk.get? c=some o:=λc o n e=>ib.extBut _ _ n e
 refine wpAny_bind (wpAny_letGo (wpAny_pure ?_))
 refine wpAny_bind (wpAny_bind (wpAny_onRaise ?_))
 show wpAny _ _ (Builtin.SmallTypes.nextOf (.ref i2) >>= _) _ _ _
 refine wpAny_bind (jI (h2.at λo e=>k3 _ o (Ne.symm TOi2) (k2 _ o (Ne.symm i12) (k1 _ o (Ne.symm ia) e))) (eU.at λo e=>k3 _ o l2TO (k2 _ o l2i1 (k1 _ o l2z e))) hy λpJ ze qD=>wpAny_pure ?_)
 have k4:∀c o,c≠i2->gk.get? c=some o->pJ.get? c=some o:=λc o n e=>qD.extBut _ _ n e
 have lN:IsPair pJ TO x b:=k4 _ _ TOi2 iU
 refine wpAny_bind (wpAny_seqItems lN rfl ?_)
 refine wpAny_bind (wpAny_updateSeq_pair lN λcT gd qE=>?_)
 replace gd:IsPair cT TO x y:=gd
 have k5:∀c o,c≠TO->pJ.get? c=some o->cT.get? c=some o:=λc o n e=>qE.extBut _ _ n e
 refine wpAny_bind (wpAny_letGo (wpAny_pure (wpAny_pure ?_)))
 refine wpAny_bind (wpAny_seqItems gd rfl ?_)
 refine wpAny_bind (wpAny_newTuple ?_)
 have hsz:cT.objs.size=s.heap.objs.size:=by rw [qE.1,qD.1,ib.1,gc.1,dU.1]
 have qF:IsZip cT z TI TO .ellipsis:=k5 _ _ gb (k4 _ _ ia (k3 _ _ gb (k2 _ _ eY dk)))
 have EN:∀c o,c≠z->c≠TO->c≠i1->c≠i2->s.heap.get? c=some o->cT.get? c=some o:=λc o c1 c2 c3 c4 e=>k5 _ _ c2 (k4 _ _ c4 (k3 _ _ c2 (k2 _ _ c3 (k1 _ _ c1 e))))
 have EO:dj tp cT i1 l1 (k+1):=tX.at λo e=>k5 _ _ (Ne.symm TOi1) (k4 _ _ i12 (k3 _ _ (Ne.symm TOi1) e))
 have ER:dj tp cT i2 l2 (k+1):=ze.at λo e=>k5 _ _ (Ne.symm TOi2) e
 have lO:z<cT.objs.size:=Heap.lt_size qF
 show wpAny _ _ (Builtin.SmallTypes.ownedTupleHandOut (.ref z) (.ref cT.objs.size) >>= _) _ _ _
 refine wpAny_bind ?_
 unfold Builtin.SmallTypes.ownedTupleHandOut
 have zf:IsZip (cT.push { cls:=.type "tuple",data:=.seq #[x,y] }) z TI TO .ellipsis:=Heap.get?_push_of_some _ qF
 refine wpAny_bind (wpAny_setField_rec zf (by simp) λES lP qG=>?_)
 replace lP:IsZip ES z TI TO (rawInt cT.objs.size):=lP
 refine wpAny_setField_rec lP (by simp) λnV jc qH=>?_
 replace jc:IsZip nV z TI TO (rawInt cT.objs.size):=jc
 have up:∀c o,c≠z->cT.get? c=some o->nV.get? c=some o:=λc o c1 e=>qH.extBut _ _ c1 (qG.extBut _ _ c1 (Heap.get?_push_of_some _ e))
 have o4:IsPair nV cT.objs.size x y:=qH.extBut _ _ (Nat.ne_of_gt lO) (qG.extBut _ _ (Nat.ne_of_gt lO) (Heap.get?_push_size _ rfl))
 rw [hsz] at jc o4
 refine wpAny_pure ⟨.ref cT.objs.size,rfl,wpAny_pure ?_⟩
 rw [hsz]
 exact hQ nV jc (up _ _ (Ne.symm gb) gd) (EO.at λo e=>up _ o (Ne.symm eY) e) (ER.at λo e=>up _ o (Ne.symm ia) e) o4 λc o c1 c2 c3 c4 e=>up c o c1 (EN c o c1 c2 c3 c4 e)
theorem CB {z TI TO i1 i2 l1:Addr}{k:Nat}{xs:Array Value}{a b:Value}{Q:Option Value->Shared->Prop}(hh:A.handled=none) (nd:[z,TI,TO,i1,i2].Nodup) (n1:l1∉[z,TI,TO,i1,i2])
 (hz:IsZip s.heap z TI TO .none) (cZ:IsPair s.heap TI (.ref i1) (.ref i2)) (h1:dj tp s.heap i1 l1 k) (jJ:iw tp s.heap l1 xs) (hx:xs[k]?=none)
 (hQ:∀h',(∀c o,c≠z->c≠TO->c≠i1->c≠i2->s.heap.get? c=some o->h'.get? c=some o)->Q none { s with heap:=h' }):wpAny (model prog w) A (pyNext (.ref z)) Q E s:=by
 simp only [List.nodup_cons,List.mem_cons,List.not_mem_nil,or_false,not_or] at nd n1
 obtain ⟨⟨nh,gb,eY,ia⟩,⟨TITO,TIi1,TIi2⟩,⟨TOi1,TOi2⟩,i12,_⟩:=nd
 obtain ⟨l1z,EM,l1TO,l1i1,l1i2⟩:=n1
 have hT:s.TypeIs (.ref z) "zip":=⟨_,hz,rfl⟩
 unfold pyNext
 refine wpAny_bind (wpAny_attempt (wpAny_callSpecial?_slot (name:=Str.ofString "__next__") hT F.slot_zip_next (wpAny_call_entry F.slot_zip_next hT F.entry_zip_next ?_ (F.args_zip_next_1 _))))
 show wpAny _ _ (field (.ref z) 2 >>= _) _ _ _
 refine wpAny_bind (wpAny_field hz rfl (x:=.bool false) rfl ?_)
 show wpAny _ _ (field (.ref z) 3 >>= _) _ _ _
 refine wpAny_bind (wpAny_field hz rfl (x:=.ref TI) rfl ?_)
 refine wpAny_bind (wpAny_seqItems cZ rfl ?_)
 show wpAny _ _ (Builtin.SmallTypes.ownedTupleIsFree (.ref z) >>= _) _ _ _
 refine wpAny_bind ?_
 unfold Builtin.SmallTypes.ownedTupleIsFree
 refine wpAny_bind (wpAny_field hz rfl (x:=.none) rfl (wpAny_pure ?_))
 simp only [if_true]
 refine wpAny_bind (wpAny_rule ?_)
 refine wpAny_bind (wpAny_field hz rfl (x:=.ref TO) rfl ?_)
 refine wpAny_bind (wpAny_setField_rec hz (by simp) λeI dk dU=>?_)
 replace dk:IsZip eI z TI TO .ellipsis:=dk
 refine wpAny_bind ?_
 simp only [List.zipIdx_cons,List.zipIdx_nil,List.forIn_cons,List.forIn_nil]
 refine wpAny_bind (wpAny_bind (wpAny_onRaise ?_))
 show wpAny _ _ (Builtin.SmallTypes.nextOf (.ref i1) >>= _) _ _ _
 refine wpAny_bind (zd (by first | exact hh | rfl) (h1.at λo e=>dU.extBut _ o (Ne.symm eY) e) (jJ.at λo e=>dU.extBut _ o l1z e) hx λig e gc he=>?_)
 obtain ⟨oe,o6,tY⟩:=he
 have zg:IsZip ig z TI TO .ellipsis:=gc _ _ eY dk
 have ET:e≠z:=λx=>by subst x; rw [zg] at o6; cases o6; simp at tY
 refine wpAny_setField_rec zg (by simp) λgk _ ib=>?_
 refine wpAny_bind (wpAny_isInstance (T:="StopIteration") (b:=true) ⟨oe,ib.extBut _ _ ET o6,tY⟩ isSubtype_stop ?_)
 exact wpAny_pure (hQ _ λc o c1 _ c3 _ x=>ib.extBut _ _ c1 (gc _ _ c3 (dU.extBut _ _ c1 x)))
end
end PySem
namespace PySem
section
variable {prog:Program}{w:World}{A:Around}{E:Value->Shared->Prop}{s:Shared}{tp:Bool}
end
end PySem
namespace L2
open PySem PySem.Spec PyProof.Rows
def ZH (tp:Bool) (H:Hp) (a:Addr) (xs:List V):Prop:=match tp with | true=>H a=some (.tup xs) | false=>H a=some (.lst xs)
theorem ZH.inj {tp:Bool}{H:Hp}{a:Addr}{xs ys:List V}(h:ZH tp H a xs) (h':ZH tp H a ys):xs=ys:=by
 cases tp <;> (have e:=(show H a=_ from h).symm.trans (show H a=_ from h'); cases e; rfl)
theorem ZH.same {tp:Bool}{H H':Hp}{a:Addr}{xs:List V}(h:ZH tp H a xs) (k:∀o,H a=some o->H' a=some o):ZH tp H' a xs:=by cases tp <;> exact k _ h
section
variable {X:Cx}
end
end L2
namespace Gen
open PySem L2
section
variable {P:Program}{w:World}{K:W.Frag}{mg:Str->Option Value}{base:Heap}
theorem Ao {f fC fR fP fS:Addr}{fd dC dR dP dS:FuncData}(F:cy K "_law_order" "_law_order" eX f fd) (O:Own mg)
 (gC:av P w K mg base aF 1 fC dC ["_law_script", "_law_k"] (oH K)) (mC:mg "_law_cell_at" = some (.ref fC)) (kC:W.keepIn K (.ref fC)=true) (bC:Binds K dC ["_law_script", "_law_k"] [])
 (gR:av P w K mg base aF 2 fR dR ["_law_cell", "_law_k"] oI) (mR:mg "_law_rich" = some (.ref fR)) (kR:W.keepIn K (.ref fR)=true) (bR:Binds K dR ["_law_cell", "_law_k"] [])
 (gP:av P w K mg base aF 1 fP dP ["_law_left", "_law_many"] oJ) (mP:mg "_law_pick" = some (.ref fP)) (kP:W.keepIn K (.ref fP)=true) (bP:Binds K dP ["_law_left", "_law_many"] [])
 (gS:av P w K mg base aF 2 fS dS ["_law_left", "_law_told"] (pM K)) (mS:mg "_law_spelt" = some (.ref fS)) (kS:W.keepIn K (.ref fS)=true) (bS:Binds K dS ["_law_left", "_law_told"] []):av P w K mg base aF 3 f fd ["_law_script"] (vX K):=by
 refine F.ok lL (λvs H Q E h=>?_) (λcdv A outer s H vs Q E hr h=>?_)
 . obtain ⟨a,ns,rfl,_⟩:=h
   rfl
 . obtain ⟨a,ns,rfl,ha,kk⟩:=h
   have dM:bx 1 _:=hr.mono (by decide)
   obtain ⟨tA,hA,rA⟩:∃t,iq (jT aF P w K mg base EL "_law_order" (ak eX) f cdv A outer s H E).rG ((aN eX).drop 6) t/\
    ∀(x:V) (l nm:Addr) (xs:List V) (many:Nat) (H1:Hp),many<=8->ai H H1->H l=none->H nm=none->l≠nm->H1 l=some (.lst xs)->jZ xs->H1 nm=some (.lst [])->t { nx:=λ_ H'=>Q .aS H',rt:=Q } [some (.ref a),some x,some (.ref l),some (.ref nm),some (.int (many:Int)),none] H1:=by
    refine ⟨_,af (fJ PassesOwn.never rfl (cV rfl O.range (aa (pv 4) ab)) (aW (i:=5) lL.nd rfl (Or.inl rfl))
     (ao (u5 (qW PySem.F.plainAttrs_list PySem.F.slot_list_append PySem.F.type_list_append ly (pv 3) (aa (aI gS hr rfl mS kS bS .nil aB (aa (pv 2) (aa (pv 3) ab))) ab)))))
     (ao (aK (pv 3))),?_⟩
    intro x l nm xs many H1 hm s1 hl qI nl jJ yC Bp
    refine ⟨_,rfl,_,rfl,Int.le_trans (by decide : -(2 ^ 62)<=(0:Int)) (by omega),Int.lt_of_le_of_lt (by omega:((many:Nat):Int)<=256) (by decide),fm (n:=((many:Int)).toNat) (λi σ Hi=>∃(v5:Option V) (ys:List V) (names:List Str),σ=[some (.ref a),some x,some (.ref l),some (.ref nm),some (.int (many:Int)),v5]/\ai H Hi/\Hi l=some (.lst ys)/\jZ ys/\Hi nm=some (.lst (names.map V.str))/\names.length=i/\names.Nodup/\∀z∈names,eg z) ⟨none,xs,[],rfl,s1,jJ,yC,Bp,rfl,List.nodup_nil,λ_ h=>nomatch h⟩ ?_ ?_⟩
    . rintro i σ Hi hi ⟨v5,ys,names,rfl,si,Jx,Bn,zh,hlen,EU,Ap⟩
      rw [Int.toNat_natCast] at hi
      refine ⟨_,rfl,.inl ⟨rfl,_,ay.of zh⟩,_,rfl,_,rfl,l,nm,ys,names,rfl,Jx,Bn,Ne.symm nl,ay.of zh,by omega,λz oO H2 hz PL gU eU k2=>?_⟩
      have iJ:=k2 _ _ zh (Ne.symm nl)
      refine ⟨nm,_,_,rfl,rfl,iJ,(by rw [List.length_map]; exact small (by omega)),?_⟩
      refine ⟨_,oO,names++[z],rfl,λc o hc=>?_,(aj nl).trans eU,gU,by rw [ae,List.map_append]; rfl,by rw [List.length_append,hlen]; rfl,?_,λy hy=>?_⟩
      . rw [aj (ah hc qI)]
        exact k2 _ _ (si _ _ hc) (ah hc hl)
      . rw [List.nodup_append]
        exact ⟨EU,List.pairwise_singleton _ _,λp hp q hq=>by rw [List.mem_singleton] at hq; rw [hq]; exact λe=>PL (e ▸ hp)⟩
      . rcases List.mem_append.mp hy with hy | hy
        . exact Ap y hy
        . rw [List.mem_singleton.mp hy]
          exact hz
    . rintro σ Hi ⟨v5,ys,names,rfl,si,Jx,Bn,zh,hlen,EU,Ap⟩
      rw [Int.toNat_natCast] at hlen
      exact ⟨_,rfl,kk nm names Hi si qI ⟨zh,EU,λz hz=>Cz (Ap z hz),by omega⟩⟩
   obtain ⟨tB,hB,rB⟩:∃t,iq (jT aF P w K mg base EL "_law_order" (ak eX) f cdv A outer s H E).rG ((aN eX).drop 2) t/\
    ∀(x:Int),t { nx:=λ_ H'=>Q .aS H',rt:=Q } [some (.ref a),some (.int x),none,none,none,none] H:=by
    refine ⟨_,af (ax (i:=2) lL.nd rfl (Or.inl rfl) (fL (aa (pv 1) ab)))
     (af (ax (i:=3) lL.nd rfl (Or.inl rfl) (fL ab))
     (af (ax (i:=4) lL.nd rfl (Or.inl rfl) (aI gP dM rfl mP kP bP .nil aB (aa (pv 2) (aa ag ab))))
     (af (bQ (bz dq (pv 4) ag (bL _)) (ao (ax (i:=4) lL.nd rfl (Or.inl rfl) (aO gL ag (aI gP dM rfl mP kP bP .nil aB (aa (pv 2) (aa ag ab)))))) aV) hA))),?_⟩
    intro x
    refine ⟨_,rfl,(by show 1<=sizeLine; decide),λl hl=>?_⟩
    have q1:(upd H l (.lst [.int x])) l=some (.lst [.int x]):=ae
    have s1:ai H (upd H l (.lst [.int x])):=ai.ar hl
    show dZ _ _ _ _ (upd H l (.lst [.int x]))
    generalize upd H l (.lst [.int x])=H1 at q1 s1 ⊢
    refine ⟨(by show 0<=sizeLine; decide),λnm qI=>?_⟩
    have nl:l≠nm:=ah q1 qI
    have q2:(upd H1 nm (.lst [])) nm=some (.lst []):=ae
    have s2:ai H1 (upd H1 nm (.lst [])):=ai.ar qI
    have EV:H nm=none:=by
     cases e:H nm with
     | none=>rfl
     | some o=>rw [s1 _ _ e] at qI; cases qI
    show dZ _ _ _ _ (upd H1 nm (.lst []))
    generalize upd H1 nm (.lst [])=H2 at q2 s2 ⊢
    have Bl:=s1.trans s2
    refine ⟨_,rfl,l,_,8,rfl,s2 _ _ q1,.inl ⟨_,rfl⟩,by decide,by decide,λd ys H3 d0 d1 oN vv k3=>?_⟩
    have Jy:=k3 _ _ q2 (Ne.symm nl)
    have vY:ai H H3:=λc o hc=>k3 _ _ (Bl _ _ hc) (ah hc hl)
    obtain ⟨dn,rfl⟩:=Int.eq_ofNat_of_zero_le d0
    refine ⟨_,rfl,rfl,_,rfl,?_⟩
    refine lz (λ_=>?_) (λ_=>?_)
    . refine ⟨_,rfl,l,_,2,rfl,vv,oN,by decide,by decide,λe zs H4 e0 e1 sC su k4=>?_⟩
      obtain ⟨en,rfl⟩:=Int.eq_ofNat_of_zero_le e0
      refine ⟨_,_,rfl,rfl,?_⟩
      exact rA _ l nm _ (7+en) H4 (by omega) (λc o hc=>k4 _ _ (vY _ _ hc) (ah hc hl)) hl EV nl su sC (k4 _ _ Jy (Ne.symm nl))
    . exact rA _ l nm _ dn H3 (by omega) vY hl EV nl vv oN Jy
   refine ⟨_,af (ax (i:=1) lL.nd rfl (Or.inl rfl) (aO lU (aI gC dM rfl mC kC bC .nil aB (aa (pv 0) (aa ag ab))) ag))
    (af (bQ (bz dq (aO gM (aI gC dM rfl mC kC bC .nil aB (aa (pv 0) (aa ag ab))) ag) ag (bL _)) (ao (ax (i:=1) lL.nd rfl (Or.inl rfl) (aI gR hr rfl mR kR bR .nil aB (aa (pv 1) (aa ag ab))))) aV) hB),?_⟩
   refine ⟨_,rfl,a,ns,0,rfl,ha,by decide,λx=>⟨_,_,rfl,rfl,⟨by decide,by decide⟩,?_⟩⟩
   refine ⟨_,rfl,a,ns,0,rfl,ha,by decide,λc=>⟨_,_,rfl,rfl,(by show (0:Int)<2; decide),rfl,_,rfl,?_⟩⟩
   exact lz (λ_=>⟨_,rfl,_,0,rfl,by decide,by decide,λz=>rB z⟩) (λ_=>rB _)
end
end Gen
namespace L2
open PySem PySem.Spec PyProof.Rows
section
variable {X:Cx}{a:Expr}{ta:TE}
def Hf (c:Bool) (ta:TE):TE:=λσ H Q=>ta σ H λx H1=>(∃b,x=.bl b/\Q (.bl (!(b == c))) H1)\/∃p,x=.ref p/\Q (.bl true) H1
theorem vZ {c:Bool}{j pos'} (ha:PE X a ta):PC X .IsNot a (.Constant (.bool c) j pos') (Hf c ta):=by
 intro pins s σ H Q I h
 refine aG (ha pins s σ H _ I h) λv s1 ⟨x,H1,I1,r1,q1⟩=>Constant_bool ?_
 rcases q1 with ⟨b,rfl,q⟩ | ⟨p,rfl,q⟩
 . obtain rfl:v=Value.bool b:=r1
   exact wpAny_pure ⟨.bl _,H1,I1,by cases b <;> cases c <;> rfl,q⟩
 . obtain rfl:v=Value.ref p:=r1
   exact wpAny_pure ⟨.bl _,H1,I1,rfl,q⟩
def rep1 (c k:Nat):Str:=⟨(List.replicate k c).toArray⟩
theorem xl (c:Nat) (acc:Array Nat):∀k:Nat,((List.replicate k (#[c]:Array Nat)).foldl (· ++ ·) acc).toList=acc.toList++List.replicate k c:=by
 intro k
 induction k generalizing acc with
 | zero=>simp
 | succ k ih=>
  rw [List.replicate_succ,List.foldl_cons,ih,List.replicate_succ]
  simp
def Br:R2:=λx y H Q=>∃c k:Nat,x=.str ⟨#[c]⟩/\y=.int (k:Int)/\k<=1000/\Q (.str (rep1 c k)) H
theorem wa:dG X (binaryOp .Mult) Br:=by
 intro pins s σ H x y v u Q I rx ry h
 obtain ⟨c,k,rfl,rfl,hk,q⟩:=h
 obtain ⟨t,rfl⟩:=rx
 obtain ⟨t',rfl⟩:=ry
 have el:((⟨#[c]⟩:Str).length)=1:=rfl
 refine P.mul_str ?_ (λ_ _=>?_) (λ_ _=>?_) ?_
 . rw [decide_eq_false (by omega),decide_eq_false (by omega)]
   rfl
 . rw [el]
   have h1:(1:Int)<=(2 ^ 63-1) / (k:Int)\/k=0:=by
    rcases Nat.eq_zero_or_pos k with h | h
    . exact .inr h
    . left
      have:=(Int.le_ediv_iff_mul_le (a:=1) (b:=(2 ^ 63-1:Int)) (c:=(k:Int)) (by omega)).mpr (by omega)
      exact this
   rcases h1 with h1 | h1
   . omega
   . subst h1
     omega
 . rw [el,Nat.one_mul,Int.toNat_natCast]
   unfold Builtin.Str.tooLong sizeLine
   exact decide_eq_false (by omega)
 . by_cases h0:(k:Int)<1
   . rw [if_pos h0]
     have:k=0:=by omega
     subst this
     exact ⟨by decide,.str (rep1 c 0),H,I.tok _,⟨_,rfl⟩,q⟩
   . rw [if_neg h0]
     by_cases h1:k=1
     . subst h1
       rw [if_pos (by rfl)]
       exact ⟨.str (rep1 c 1),H,I,⟨t,rfl⟩,q⟩
     . have hb:((k:Int) == 1 || (⟨#[c]⟩:Str).length == 0)=false:=by
        rw [el,Bool.or_eq_false_iff]
        exact ⟨beq_eq_false_iff_ne.mpr (by omega),rfl⟩
       rw [if_neg (by rw [hb]; exact Bool.false_ne_true)]
       have ef:(⟨(List.replicate (k:Int).toNat (⟨#[c]⟩:Str).cps).foldl (· ++ ·) #[]⟩:Str)=rep1 c k:=by
        rw [Int.toNat_natCast]
        unfold rep1
        congr 1
        apply Array.toList_inj.mp
        rw [xl]
        simp
       rw [ef]
       refine ⟨?_,.str (rep1 c k),H,I.tok _,⟨_,rfl⟩,q⟩
       show (rep1 c k).length<=sizeLine
       have:(rep1 c k).length=k:=by simp [rep1,Str.length]
       rw [this]
       exact Nat.le_trans hk (by decide)
end
end L2
namespace L2
open PySem PySem.Spec PyProof.Rows PySem.W
theorem iV:∀(m i:Nat),rev m i<2 ^ m
 | 0,_=>Nat.one_pos
 | m+1,i=>by
  have:=iV m (i / 2)
  have h2:i % 2<2:=Nat.mod_lt _ (by decide)
  rw [rev,Nat.pow_succ]
  rcases (show i % 2=0\/i % 2=1 by omega) with e | e <;> rw [e] <;> omega
theorem jd:∀(m j y u:Nat),u<2 ^ m->rev (m+j) (2 ^ m*y+u)=rev m u*2 ^ j+rev j y
 | 0,j,y,u,h=>by
  have:u=0:=by rw [Nat.pow_zero] at h; omega
  rw [this,Nat.zero_add,Nat.pow_zero,Nat.one_mul,Nat.add_zero]
  show rev j y=0*2 ^ j+rev j y
  omega
 | m+1,j,y,u,h=>by
  rw [Nat.pow_succ] at h
  have e1:(2 ^ (m+1)*y+u) % 2=u % 2:=by rw [Nat.pow_succ,show 2 ^ m*2*y=2*(2 ^ m*y) by rw [Nat.mul_comm (2 ^ m) 2,Nat.mul_assoc]]; omega
  have e2:(2 ^ (m+1)*y+u) / 2=2 ^ m*y+u / 2:=by rw [Nat.pow_succ,show 2 ^ m*2*y=2*(2 ^ m*y) by rw [Nat.mul_comm (2 ^ m) 2,Nat.mul_assoc]]; omega
  rw [show m+1+j=(m+j)+1 by omega,rev,e1,e2,jd m j y (u / 2) (by omega),rev,Nat.add_mul,Nat.pow_add,Nat.mul_assoc]
  omega
theorem jK (m u b:Nat) (h:u<2 ^ m) (hb:b<2):rev (m+1) (2 ^ m*b+u)=2*rev m u+b:=by
 rw [jd m 1 b u h]
 have:rev 1 b=b:=by rcases (show b=0\/b=1 by omega) with rfl | rfl <;> rfl
 rw [this]
 omega
theorem rev_rev:∀(m i:Nat),i<2 ^ m->rev m (rev m i)=i
 | 0,i,h=>by rw [Nat.pow_zero] at h; show 0=i; omega
 | m+1,i,h=>by
  rw [Nat.pow_succ] at h
  rw [show rev (m+1) i=2 ^ m*(i % 2)+rev m (i / 2) by rw [rev,Nat.mul_comm],jK m _ _ (iV _ _) (Nat.mod_lt _ (by decide)),rev_rev m (i / 2) (by omega)]
  omega
theorem rev_inj {m i j:Nat}(hi:i<2 ^ m) (hj:j<2 ^ m) (h:rev m i=rev m j):i=j:=by rw [← rev_rev m i hi,← rev_rev m j hj,h]
theorem jL (k:Nat){b u:Nat}(h:u<2 ^ k) (hb:b<2):(aY (k+1)).getD (2 ^ k*b+u) []=(aY k).getD u []++[(b:Int)]:=by
 have hl:=cH k
 rw [aY,List.getD_eq_getElem?_getD,List.getD_eq_getElem?_getD]
 rcases (show b=0\/b=1 by omega) with rfl | rfl
 . rw [Nat.mul_zero,Nat.zero_add,List.getElem?_append_left (by rw [List.length_map,hl]; exact h),List.getElem?_map,List.getElem?_eq_getElem (by omega)]
   rfl
 . rw [Nat.mul_one,List.getElem?_append_right (by rw [List.length_map,hl]; omega),List.length_map,hl,Nat.add_sub_cancel_left,List.getElem?_map,List.getElem?_eq_getElem (by omega)]
   rfl
theorem tZ:∀(x y:List Int) (a b:Int),x.length=y.length->HT.lexLt (x++[a]) (y++[b])=(HT.lexLt x y || (decide (x=y) && decide (a<b)))
 | [],[],a,b,_=>by
  rw [List.nil_append,List.nil_append,HT.iC,HT.qS]
  by_cases h:a=b
  . rw [if_pos h,h]
    simp
  . rw [if_neg h]
    simp
 | [],_::_,_,_,h=>nomatch h
 | _::_,[],_,_,h=>nomatch h
 | p::x,q::y,a,b,h=>by
  rw [List.cons_append,List.cons_append,HT.iC,HT.iC,tZ x y a b (Nat.succ.inj h)]
  by_cases e:p=q
  . subst e
    rw [if_pos rfl,if_pos rfl]
    simp
  . rw [if_neg e,if_neg e]
    simp [e]
theorem rg {k i:Nat}(h:i<2 ^ (k+1)):∃b u,b<2/\u<2 ^ k/\i=2 ^ k*b+u:=by
 rw [Nat.pow_succ] at h
 by_cases q:i<2 ^ k
 . exact ⟨0,i,by decide,q,by omega⟩
 . exact ⟨1,i-2 ^ k,by decide,by omega,by omega⟩
theorem t7:∀(k:Nat){i j:Nat},i<2 ^ k->j<2 ^ k->(aY k).getD i []=(aY k).getD j []->i=j
 | 0,i,j,h1,h2,_=>by rw [Nat.pow_zero] at h1 h2; omega
 | k+1,i,j,h1,h2,h=>by
  obtain ⟨b,u,hb,hu,rfl⟩:=rg h1
  obtain ⟨c,v,hc,hv,rfl⟩:=rg h2
  rw [jL k hu hb,jL k hv hc] at h
  obtain ⟨e1,e2⟩:=List.append_inj' h rfl
  rw [t7 k hu hv e1]
  have:=List.cons.inj e2
  have:b=c:=by have:=this.1; omega
  rw [this]
theorem o7 {k i:Nat}(h:i<2 ^ k):((aY k).getD i []).length=k:=by
 refine i9 k _ ?_
 rw [List.getD_eq_getElem?_getD,List.getElem?_eq_getElem (by rw [cH]; exact h)]
 exact List.getElem_mem _
theorem agree:∀(k:Nat){i j:Nat},i<2 ^ k->j<2 ^ k->HT.lexLt ((aY k).getD i []) ((aY k).getD j [])=cB k i j
 | 0,i,j,h1,h2=>by
  rw [Nat.pow_zero] at h1 h2
  have:i=0:=by omega
  have:j=0:=by omega
  subst i j
  rfl
 | k+1,i,j,h1,h2=>by
  obtain ⟨b,u,hb,hu,rfl⟩:=rg h1
  obtain ⟨c,v,hc,hv,rfl⟩:=rg h2
  rw [jL k hu hb,jL k hv hc,tZ _ _ _ _ (by rw [o7 hu,o7 hv]),agree k hu hv]
  unfold cB
  rw [jK k u b hu hb,jK k v c hv hc,Bool.eq_iff_iff]
  simp only [Bool.or_eq_true,Bool.and_eq_true,decide_eq_true_eq,Nat.blt_eq]
  constructor
  . rintro (h | ⟨h,h'⟩)
    . omega
    . have:=t7 k hu hv h
      subst this
      omega
  . intro h
    by_cases e:rev k u=rev k v
    . have:=rev_inj hu hv e
      subst this
      exact .inr ⟨rfl,by omega⟩
    . exact .inl (by omega)
theorem cJ:∀k,(bY k).length=2 ^ k
 | 0=>rfl
 | k+1=>by
  rw [bY,List.length_flatMap,Nat.pow_succ,← cJ k]
  generalize bY k=l
  induction l with
  | nil=>rfl
  | cons a l ih=>rw [List.map_cons,List.sum_cons,ih,List.length_cons]; show 2+l.length*2=(l.length+1)*2; omega
theorem wb:∀(l:List (List Int)) (t:Nat),t<2*l.length->(l.flatMap λr=>[r++[0],r++[1]])[t]?=some (l.getD (t / 2) []++[((t % 2:Nat):Int)])
 | [],t,h=>by simp at h
 | a::l,0,h=>rfl
 | a::l,1,h=>rfl
 | a::l,t+2,h=>by
  rw [List.flatMap_cons,List.getElem?_append_right (by show 2<=t+2; omega)]
  have:=wb l t (by rw [List.length_cons] at h; omega)
  rw [show t+2 - [a++[(0:Int)],a++[1]].length=t from rfl,this,show (t+2) / 2=t / 2+1 by omega,show (t+2) % 2=t % 2 by omega]
  rfl
theorem zi:∀(k t:Nat),t<2 ^ k->(bY k)[t]?=some ((aY k).getD (rev k t) [])
 | 0,t,h=>by
  rw [Nat.pow_zero] at h
  have:t=0:=by omega
  subst this
  rfl
 | k+1,t,h=>by
  rw [Nat.pow_succ] at h
  rw [bY,wb _ _ (by rw [cJ]; omega),rev,Nat.mul_comm (t % 2),jL k (iV _ _) (Nat.mod_lt _ (by decide))]
  have:=zi k (t / 2) (by omega)
  rw [List.getD_eq_getElem?_getD,this]
  rfl
def aH (N:Nat) (f:Nat->Nat):Array Nat:=((List.range N).map f).toArray
theorem cD (N:Nat) (f:Nat->Nat):(aH N f).size=N:=by unfold aH; simp
theorem cC {N i:Nat}(f:Nat->Nat) (h:i<N):(aH N f).getD i 0=f i:=by
 unfold aH
 simp [Array.getD,h]
theorem t8 {N:Nat}{p:Array Nat}{f:Nat->Nat}(hs:p.size=N) (h:∀i,i<N->p.getD i 0=f i):p=aH N f:=by
 apply Array.ext
 . rw [hs,cD]
 . intro i h1 h2
   have e1:=h i (by omega)
   have e2:=cC f (show i<N by omega)
   rw [← e1] at e2
   simp only [Array.getD,h1,h2,dif_pos] at e2
   exact e2.symm
theorem t9 {N M:Nat}{f:Nat->Nat}(h:∀i,i<N->f i<M):eV M (aH N f):=λi hi=>by
 rw [cD] at hi
 rw [cC f hi]
 exact h i hi
def seg (f:Nat->Nat) (a n m:Nat):Nat->Nat:=λi=>if a<=i/\i<a+n then a+rev m (i-a) else f i
theorem o8 {f:Nat->Nat}{a n m t:Nat}(h:t<n):seg f a n m (a+t)=a+rev m t:=by
 unfold seg
 rw [if_pos ⟨by omega,by omega⟩,Nat.add_sub_cancel_left]
theorem wc {f:Nat->Nat}{a n m i:Nat}(h:¬ (a<=i/\i<a+n)):seg f a n m i=f i:=if_neg h
theorem we {f:Nat->Nat}{a m N:Nat}(hf:∀i,i<N->f i<N) (h:a+2 ^ m<=N):∀i,i<N->seg f a (2 ^ m) m i<N:=λi hi=>by
 unfold seg
 split
 . have:=iV m (i-a)
   omega
 . exact hf i hi
end L2
namespace L2
open PySem PySem.Spec PyProof.Rows PySem.W
theorem mn {p:Array Nat}{x y i:Nat}(hx:x<p.size) (hy:y<p.size):(p.swapIfInBounds x y).getD i 0=if i=x then p.getD y 0 else if i=y then p.getD x 0 else p.getD i 0:=by
 have e:p.swapIfInBounds x y=p.swap x y hx hy:=by simp [Array.swapIfInBounds,hx,hy]
 rw [e]
 by_cases h:i<p.size
 . have h':i<(p.swap x y hx hy).size:=by simpa using h
   simp only [Array.getD,h,h',hx,hy,dif_pos]
   by_cases e1:i=x
   . subst e1
     rw [if_pos rfl]
     simp
   . rw [if_neg e1]
     by_cases e2:i=y
     . subst e2
       rw [if_pos rfl]
       simp
     . rw [if_neg e2]
       show (p.swap x y hx hy)[i]=p[i]
       rw [Array.getElem_swap]
       simp [e1,e2]
 . rw [if_neg (by omega),if_neg (by omega)]
   have h':¬ i<(p.swap x y hx hy).size:=by simpa using h
   simp only [Array.getD,h,h',dif_neg,not_false_eq_true]
structure dz (lo N:Nat) (g:Nat->Nat) (p q:Array Nat):Prop where
 sz:p.size=N
 qs:q.size=32
 ins:∀t,t<32->p.getD (lo+t) 0=lo+q.getD t 0
 out:∀i,i<N->¬ (lo<=i/\i<lo+32)->p.getD i 0=g i
 bq:∀t,t<32->q.getD t 0<32
theorem dz.swap {lo N:Nat}{g:Nat->Nat}{p q:Array Nat}(h:dz lo N g p q) (hN:lo+32<=N){x y:Nat}(hx:x<32) (hy:y<32):dz lo N g (p.swapIfInBounds (lo+x) (lo+y)) (q.swapIfInBounds x y):=by
 have s1:=h.sz
 have s2:=h.qs
 refine ⟨by simpa using s1,by simpa using s2,λt ht=>?_,λi hi ho=>?_,λt ht=>?_⟩
 . rw [mn (by omega) (by omega),mn (by omega) (by omega)]
   by_cases e1:t=x
   . rw [if_pos (by omega),if_pos e1,h.ins y hy]
   . rw [if_neg (by omega),if_neg e1]
     by_cases e2:t=y
     . rw [if_pos (by omega),if_pos e2,h.ins x hx]
     . rw [if_neg (by omega),if_neg e2,h.ins t ht]
 . rw [mn (by omega) (by omega),if_neg (by omega),if_neg (by omega)]
   exact h.out i hi ho
 . rw [mn (by omega) (by omega)]
   split
   . exact h.bq y hy
   . split
     . exact h.bq x hx
     . exact h.bq t ht
theorem dz.bubble {lo N:Nat}{g:Nat->Nat}{p q:Array Nat}(h:dz lo N g p q) (hN:lo+32<=N){k:Nat}(hk:k<32):∀d,d<=k->dz lo N g (PyProof.Rows.bubble p (lo+k) d) (PyProof.Rows.bubble q k d)
 | 0,_=>h
 | d+1,hd=>by
  rw [bubble_succ,bubble_succ,show lo+k-d=lo+(k-d) by omega,show lo+(k-d)-1=lo+(k-d-1) by omega]
  exact (dz.bubble h hN hk d (by omega)).swap hN (by omega) (by omega)
theorem dz.place {lo N:Nat}{g:Nat->Nat}{p q:Array Nat}(h:dz lo N g p q){c c':Nat->Nat->Bool}(hc:∀u v,u<32->v<32->c (lo+u) (lo+v)=c' u v){k:Nat}(hk:k<32):∀f l r,r<=k->L2.place c p lo k f l r=L2.place c' q 0 k f l r/\(l<=k->L2.place c' q 0 k f l r<=k)
 | 0,l,r,_=>⟨rfl,λh=>h⟩
 | f+1,l,r,hr=>by
  unfold L2.place
  by_cases e:l≥r
  . rw [if_pos e,if_pos e]
    exact ⟨rfl,λh=>h⟩
  . rw [if_neg e,if_neg e,h.ins k hk,h.ins ((l+r) / 2) (by omega),hc _ _ (h.bq k hk) (h.bq _ (by omega)),Nat.zero_add,Nat.zero_add]
    by_cases e2:c' (q.getD k 0) (q.getD ((l+r) / 2) 0)=true
    . rw [if_pos e2,if_pos e2]
      exact ⟨(dz.place h hc hk f l ((l+r) / 2) (by omega)).1,λhl=>(dz.place h hc hk f l ((l+r) / 2) (by omega)).2 hl⟩
    . rw [if_neg e2,if_neg e2]
      exact ⟨(dz.place h hc hk f ((l+r) / 2+1) r hr).1,λhl=>(dz.place h hc hk f ((l+r) / 2+1) r hr).2 (by omega)⟩
theorem dz.bin {lo N:Nat}{g:Nat->Nat}{c c':Nat->Nat->Bool}(hc:∀u v,u<32->v<32->c (lo+u) (lo+v)=c' u v) (hN:lo+32<=N):∀(f k:Nat) (p q:Array Nat),k+f<=32->dz lo N g p q->dz lo N g (bp c lo f k p) (bp c' 0 f k q)
 | 0,_,_,_,_,h=>h
 | f+1,k,p,q,hk,h=>by
  obtain ⟨e1,e2⟩:=h.place hc (show k<32 by omega) k 0 k (Nat.le_refl _)
  have e2:=e2 (Nat.zero_le _)
  unfold bp
  rw [e1,show lo+k-(lo+L2.place c' q 0 k k 0 k)=k-L2.place c' q 0 k k 0 k by omega,Nat.zero_add,Nat.zero_add]
  exact dz.bin hc hN f (k+1) _ _ (by omega) (h.bubble hN (by omega) _ (by omega))
theorem q5:∀t,t<32->(bp (cB 5) 0 30 2 (p0 5)).getD t 0=rev 5 t:=by
 have:(List.range 32).all (λt=>(bp (cB 5) 0 30 2 (p0 5)).getD t 0 == rev 5 t)=true:=by decide +kernel
 intro t ht
 have:=List.all_eq_true.mp this t (List.mem_range.mpr ht)
 exact eq_of_beq this
theorem nW {m j y u v:Nat}(hu:u<2 ^ m) (hv:v<2 ^ m):cB (m+j) (2 ^ m*y+u) (2 ^ m*y+v)=cB m u v:=by
 unfold cB
 rw [jd m j y u hu,jd m j y v hv,Bool.eq_iff_iff,Nat.blt_eq,Nat.blt_eq]
 constructor
 . intro h
   exact Nat.lt_of_mul_lt_mul_right (show rev m u*2 ^ j<rev m v*2 ^ j by omega)
 . intro h
   have:=Nat.mul_lt_mul_of_pos_right h (Nat.two_pow_pos j)
   omega
theorem CC {j y N:Nat}{f:Nat->Nat}(hN:32*y+32<=N) (hf:∀t,t<32->f (32*y+t)=32*y+t):bp (cB (5+j)) (32*y) 30 2 (aH N f)=aH N (seg f (32*y) 32 5):=by
 have L0:dz (32*y) N f (aH N f) (p0 5):=⟨cD _ _,rfl,λt ht=>by
  rw [cC f (by omega),hf t ht]
  have:(p0 5).getD t 0=t:=by unfold p0; simp [Array.getD,ht]
  rw [this],λi hi _=>cC f hi,λt ht=>by
  have:(p0 5).getD t 0=t:=by unfold p0; simp [Array.getD,ht]
  omega⟩
 have L1:=dz.bin (c:=cB (5+j)) (c':=cB 5) (λu v hu hv=>nW (m:=5) (j:=j) (y:=y) hu hv) hN 30 2 _ _ (Nat.le_refl _) L0
 refine t8 L1.sz λi hi=>?_
 by_cases h:32*y<=i/\i<32*y+32
 . have e:i=32*y+(i-32*y):=by omega
   rw [e,L1.ins _ (by omega),q5 _ (by omega),o8 (by omega)]
 . rw [L1.out i hi h,wc h]
section
variable {prog:Program}{w:World}{A:Around}{E:Value->Shared->Prop}{s:Shared}{κ:SortKind}{it:Nat->Keyed}{N:Nat}{c:Nat->Nat->Bool}{p:Array Nat}{pd:Array (Nat×Nat×Nat)}{n a i pw Bs:Nat}
def pT (p:Array Nat) (o:Nat) (z:Array Nat):Array Nat:=z.toList.zipIdx.foldl (λa x=>a.setIfInBounds (o+x.2) x.1) p
theorem ua (it:Nat->Keyed) (o:Nat):∀(l:List Nat) (i:Nat) (p:Array Nat),((l.map it).zipIdx i).foldl (λ(a:Array Keyed) x=>a.setIfInBounds (o+x.2) x.1) (p.map it)=((l.zipIdx i).foldl (λa x=>a.setIfInBounds (o+x.2) x.1) p).map it
 | [],_,_=>rfl
 | x::l,i,p=>by
  rw [List.map_cons,List.zipIdx_cons,List.zipIdx_cons,List.foldl_cons,List.foldl_cons,← ua it o l (i+1)]
  congr 1
  simp
theorem CD (C:dg prog w A s κ it N c){Q:Bool->SortSt->Prop}(B:eV N p) (hp:a+2*n<=p.size) (hn:4<=n) (h0:pd[i]?=some (a,n,pw)) (h1:pd[i+1]?=some (a+n,n,Bs))
 (hA:∀i,i<n->c (p.getD (a+n+i) 0) (p.getD (a+i) 0)=false) (hB:∀i,i+1<n->c (p.getD (a+n+i) 0) (p.getD (a+i+1) 0)=true)
 (h:Q true (aL κ it (pT p (a+1) (bX (p.extract (a+1) (a+n)) (p.extract (a+n) (a+2*n-1)) (2*(n-1)))) ((pd.setIfInBounds i (a,n+n,pw)).eraseIdxIfInBounds (i+1)))) :
 wpS (model prog w) A E s (mergeAt' i) Q (aL κ it p pd):=by
 refine wpS_bind (wpS_get ?_)
 have g0:(pendingOf (aL κ it p pd))[i]?=some (a,n,pw):=h0
 have g1:(pendingOf (aL κ it p pd))[i+1]?=some (a+n,n,Bs):=h1
 simp only [g0,g1]
 refine wpS_bind (wpS_modify ?_)
 generalize PM:(pd.setIfInBounds i (a,n+n,pw)).eraseIdxIfInBounds (i+1)=pd' at h
 show wpS _ _ _ _ _ _ (SortSt.mk' κ (p.map it) ((pd.setIfInBounds i (a,n+n,pw)).eraseIdxIfInBounds (i+1)) 7 none)
 rw [PM]
 refine wpS_bind (cS (show a+n<p.size by omega) ?_)
 refine wpS_bind (vx C rfl B (B _ (by omega)) (by omega) (show a+n<=p.size by omega) ?_ ?_ ?_)
 . exact hA 0 (by omega)
 . exact hB 0 (by omega)
 dsimp only
 rw [if_neg (by simp; omega)]
 refine wpS_bind (cS (show a+1+(n-1)-1<p.size by omega) ?_)
 refine wpS_bind (vy C rfl B (B _ (by omega)) (by omega) (show a+n+n<=p.size by omega) ?_ ?_ ?_)
 . rw [show a+1+(n-1)-1=a+(n-1) by omega]
   exact hA (n-1) (by omega)
 . have:=hB (n-2) (by omega)
   rw [show a+1+(n-1)-1=a+(n-2)+1 by omega]
   exact this
 dsimp only
 rw [if_neg (by simp; omega),if_pos (by omega)]
 have ex:∀i j,(p.map it).extract i j=(p.extract i j).map it:=λi j=>by
  apply Array.ext
  . simp
  . intro k h1 h2
    simp
 have sX:(p.extract (a+1) (a+n)).size=n-1:=by
  simp
  omega
 have sY:(p.extract (a+n) (a+2*n-1)).size=n-1:=by
  simp
  omega
 have gX:∀i,i<n-1->(p.extract (a+1) (a+n)).getD i 0=p.getD (a+i+1) 0:=λi hi=>by rw [iN (by omega) (by omega),show a+1+i=a+i+1 by omega]
 have gY:∀i,i<n-1->(p.extract (a+n) (a+2*n-1)).getD i 0=p.getD (a+n+i) 0:=λi hi=>iN (by omega) (by omega)
 have key:=yF C (E:=E) (st:=SortSt.mk' κ (p.map it) pd' 7 none) (X:=p.extract (a+1) (a+n)) (Y:=p.extract (a+n) (a+2*n-1)) (n:=n-1)
  (Q:=λz az=>z=(bX (p.extract (a+1) (a+n)) (p.extract (a+n) (a+2*n-1)) (2*(n-1))).map it/\az=SortSt.mk' κ (p.map it) pd' 7 none) rfl rfl (oP (by omega) B) (oP (by omega) B) sX sY (by omega)
  (λi hi=>by rw [gX i (by omega),gY (i+1) (by omega)]; exact hA (i+1) (by omega)) (λi hi=>by rw [gX i hi,gY i hi]; exact hB i (by omega)) ⟨rfl,rfl⟩
 rw [← ex,← ex] at key
 have e1:a+n+(n-1)=a+2*n-1:=by omega
 rw [e1]
 refine wpS_bind (wpS_mono key λz az hq=>?_)
 obtain ⟨rfl,rfl⟩:=hq
 refine wpS_bind (wpS_modify (wpS_bind (wpS_get (wpS_pure ?_))))
 have e2:=ua it (a+1) (bX (p.extract (a+1) (a+n)) (p.extract (a+n) (a+2*n-1)) (2*(n-1))).toList 0 p
 have e3:SortSt.mk' κ ((((bX (p.extract (a+1) (a+n)) (p.extract (a+n) (a+2*n-1)) (2*(n-1))).map it).toList.zipIdx).foldl (λ(b:Array Keyed) x=>b.setIfInBounds (a+1+x.2) x.1) (p.map it)) pd' 7 none=aL κ it (pT p (a+1) (bX (p.extract (a+1) (a+n)) (p.extract (a+n) (a+2*n-1)) (2*(n-1)))) pd':=by
  unfold aL pT
  rw [Array.toList_map,e2]
 show Q true (SortSt.mk' κ ((((bX (p.extract (a+1) (a+n)) (p.extract (a+n) (a+2*n-1)) (2*(n-1))).map it).toList.zipIdx).foldl (λ(b:Array Keyed) x=>b.setIfInBounds (a+1+x.2) x.1) (p.map it)) pd' 7 none)
 rw [e3]
 exact h
end
theorem CF {p:Array Nat}{x i v:Nat}(hx:x<p.size):(p.setIfInBounds x v).getD i 0=if i=x then v else p.getD i 0:=by
 by_cases h:i<p.size
 . have h':i<(p.setIfInBounds x v).size:=by simpa using h
   simp only [Array.getD,h,h',dif_pos]
   show (p.setIfInBounds x v)[i]=_
   rw [Array.getElem_setIfInBounds]
   by_cases e:i=x
   . rw [if_pos e.symm,if_pos e]
   . rw [if_neg (Ne.symm e),if_neg e]
     rfl
 . have h':¬ i<(p.setIfInBounds x v).size:=by simpa using h
   rw [if_neg (by omega)]
   simp only [Array.getD,h,h',dif_neg,not_false_eq_true]
theorem ub:∀(l:List Nat) (o j:Nat) (p:Array Nat),o+j+l.length<=p.size->((l.zipIdx j).foldl (λa x=>a.setIfInBounds (o+x.2) x.1) p).size=p.size/\∀i,((l.zipIdx j).foldl (λa x=>a.setIfInBounds (o+x.2) x.1) p).getD i 0=if o+j<=i/\i<o+j+l.length then l.getD (i-(o+j)) 0 else p.getD i 0
 | [],o,j,p,_=>⟨rfl,λi=>by rw [if_neg (by show ¬ (o+j<=i/\i<o+j+0); omega)]; rfl⟩
 | v::l,o,j,p,h=>by
  rw [List.length_cons] at h
  rw [List.zipIdx_cons,List.foldl_cons]
  obtain ⟨h1,h2⟩:=ub l o (j+1) (p.setIfInBounds (o+j) v) (by rw [Array.size_setIfInBounds]; omega)
  refine ⟨by rw [h1,Array.size_setIfInBounds],λi=>?_⟩
  rw [h2 i,CF (by omega),List.length_cons]
  by_cases e:i=o+j
  . subst e
    rw [if_neg (by omega),if_pos rfl,if_pos (by omega),Nat.sub_self]
    rfl
  . by_cases e2:o+(j+1)<=i/\i<o+(j+1)+l.length
    . rw [if_pos e2,if_pos (by omega),show i-(o+j)=(i-(o+(j+1)))+1 by omega]
      rfl
    . rw [if_neg e2,if_neg e,if_neg (by omega)]
theorem CG {N a m:Nat}{f:Nat->Nat}(hN:a+2*2 ^ m<=N) (h0:∀t,t<2 ^ m->f (a+t)=a+rev m t) (h1:∀t,t<2 ^ m->f (a+2 ^ m+t)=a+2 ^ m+rev m t) :
 pT (aH N f) (a+1) (bX ((aH N f).extract (a+1) (a+2 ^ m)) ((aH N f).extract (a+2 ^ m) (a+2*2 ^ m-1)) (2*(2 ^ m-1)))=aH N (seg f a (2*2 ^ m) (m+1)):=by
 have hs:=cD N f
 have EJ:=Nat.two_pow_pos m
 have hz:(bX ((aH N f).extract (a+1) (a+2 ^ m)) ((aH N f).extract (a+2 ^ m) (a+2*2 ^ m-1)) (2*(2 ^ m-1))).toList.length=2*(2 ^ m-1):=by unfold bX; simp
 obtain ⟨e1,e2⟩:=ub (bX ((aH N f).extract (a+1) (a+2 ^ m)) ((aH N f).extract (a+2 ^ m) (a+2*2 ^ m-1)) (2*(2 ^ m-1))).toList (a+1) 0 (aH N f) (by rw [hz,hs]; omega)
 refine t8 (by unfold pT; rw [e1,hs]) λi hi=>?_
 have e3:(pT (aH N f) (a+1) (bX ((aH N f).extract (a+1) (a+2 ^ m)) ((aH N f).extract (a+2 ^ m) (a+2*2 ^ m-1)) (2*(2 ^ m-1)))).getD i 0=_:=e2 i
 rw [e3,hz]
 by_cases kI:a<=i/\i<a+2*2 ^ m
 . obtain ⟨s,rfl⟩:∃s,i=a+s:=⟨i-a,by omega⟩
   rw [o8 (by omega)]
   have er:rev (m+1) s=(s % 2)*2 ^ m+rev m (s / 2):=rfl
   by_cases EW:a+1+0<=a+s/\a+s<a+1+0+2*(2 ^ m-1)
   . rw [if_pos EW]
     have ez:(bX ((aH N f).extract (a+1) (a+2 ^ m)) ((aH N f).extract (a+2 ^ m) (a+2*2 ^ m-1)) (2*(2 ^ m-1))).toList.getD (a+s-(a+1+0)) 0=kG ((aH N f).extract (a+1) (a+2 ^ m)) ((aH N f).extract (a+2 ^ m) (a+2*2 ^ m-1)) (s-1):=by
      unfold bX
      rw [show a+s-(a+1+0)=s-1 by omega]
      simp [show s-1<2*(2 ^ m-1) by omega]
     rw [ez]
     unfold kG
     by_cases od:s % 2=1
     . rw [if_pos (by omega),iN (by omega) (by omega),cC f (by omega),h1 _ (by omega),er,od,show (s-1) / 2=s / 2 by omega]
       omega
     . rw [if_neg (by omega),iN (by omega) (by omega),cC f (by omega),show a+1+(s-1) / 2=a+s / 2 by omega,h0 _ (by omega),er,show s % 2=0 by omega]
       omega
   . rw [if_neg EW,cC f hi]
     rcases (show s=0\/s=2*2 ^ m-1 by omega) with rfl | rfl
     . rw [h0 0 EJ,er]
       simp
     . rw [show a+(2*2 ^ m-1)=a+2 ^ m+(2 ^ m-1) by omega,h1 _ (by omega),er,show (2*2 ^ m-1) % 2=1 by omega,show (2*2 ^ m-1) / 2=2 ^ m-1 by omega]
       omega
 . rw [wc kI,if_neg (by omega),cC f hi]
end L2
namespace L2
open PySem PySem.Spec PyProof.Rows PySem.W
abbrev Pd:=Array (Nat×Nat×Nat)
def Fb (k:Nat) (f:Nat->Nat):Prop:=∀i,i<2 ^ k->f i<2 ^ k
structure uc (k:Nat) (f:Nat->Nat) (a m:Nat):Prop where
 le:a+2*2 ^ m<=2 ^ k
 at_:∃y j,a=2 ^ (m+1)*y/\k=m+1+j
 m2:2<=m
 lo:∀t,t<2 ^ m->f (a+t)=a+rev m t
 hi:∀t,t<2 ^ m->f (a+2 ^ m+t)=a+2 ^ m+rev m t
theorem uc.fb {k a m:Nat}{f:Nat->Nat}(h:uc k f a m) (hf:Fb k f):Fb k (seg f a (2*2 ^ m) (m+1)):=by
 have e:2*2 ^ m=2 ^ (m+1):=by rw [Nat.pow_succ]; omega
 rw [e]
 exact we hf (by have:=h.le; omega)
def ud (pd:Pd) (i a n pw:Nat):Pd:=(pd.setIfInBounds i (a,n+n,pw)).eraseIdxIfInBounds (i+1)
section
variable {prog:Program}{w:World}{A:Around}{E:Value->Shared->Prop}{s:Shared}{κ:SortKind}{it:Nat->Keyed}{k:Nat}
theorem Bt (C:dg prog w A s κ it (2 ^ k) (cB k)){Q:Bool->SortSt->Prop}{f:Nat->Nat}{pd:Pd}{i a m pw Bs:Nat}(hf:Fb k f) (ok:uc k f a m) (h0:pd[i]?=some (a,2 ^ m,pw)) (h1:pd[i+1]?=some (a+2 ^ m,2 ^ m,Bs))
 (h:Q true (aL κ it (aH (2 ^ k) (seg f a (2*2 ^ m) (m+1))) (ud pd i a (2 ^ m) pw))):wpS (model prog w) A E s (mergeAt' i) Q (aL κ it (aH (2 ^ k) f) pd):=by
 have hle:=ok.le
 have h4:2 ^ 2<=2 ^ m:=Nat.pow_le_pow_right (by decide) ok.m2
 obtain ⟨y,j,rfl,rfl⟩:=ok.at_
 have RQ:2 ^ (m+1)=2 ^ m*2:=Nat.pow_succ ..
 have key:∀u v,u<2 ^ m->v<2 ^ m->∀b,b<2->cB (m+1+j) (2 ^ (m+1)*y+2 ^ m+rev m u) (2 ^ (m+1)*y+rev m v)=Nat.blt (2*u+1) (2*v):=λu v hu hv b hb=>by
  have l1:=iV m u
  have l2:=iV m v
  rw [show 2 ^ (m+1)*y+2 ^ m+rev m u=2 ^ (m+1)*y+(2 ^ m*1+rev m u) by omega,show 2 ^ (m+1)*y+rev m v=2 ^ (m+1)*y+(2 ^ m*0+rev m v) by omega,nW (by omega) (by omega)]
  unfold cB
  rw [jK m _ 1 l1 (by decide),jK m _ 0 l2 (by decide),rev_rev m u hu,rev_rev m v hv]
  rfl
 refine CD C (a:=2 ^ (m+1)*y) (n:=2 ^ m) (t9 hf) (by rw [cD]; exact hle) h4 h0 h1 (λi hi=>?_) (λi hi=>?_) ?_
 . rw [cC f (by omega),cC f (by omega),ok.hi i hi,ok.lo i hi,key i i hi hi 0 (by decide)]
   rw [Bool.eq_false_iff,ne_eq,Nat.blt_eq]
   omega
 . rw [cC f (by omega),cC f (by omega),ok.hi i (by omega),show 2 ^ (m+1)*y+i+1=2 ^ (m+1)*y+(i+1) by omega,ok.lo (i+1) hi,key i (i+1) (by omega) hi 0 (by decide),Nat.blt_eq]
   omega
 . rw [CG hle ok.lo ok.hi]
   exact h
end
inductive o9 (k pw:Nat):Nat->(Nat->Nat)->Pd->(Nat->Nat)->Pd->Prop
 | one {f:Nat->Nat}{pd:Pd} : pd.size<=1->o9 k pw 0 f pd f pd
 | stop {f:Nat->Nat}{pd:Pd}{a n o:Nat} : 1<pd.size->pd[pd.size-2]?=some (a,n,o)->o<=pw->o9 k pw 0 f pd f pd
 | step {l:Nat}{f f':Nat->Nat}{pd pd':Pd}{a m o o2:Nat} : 1<pd.size->pd[pd.size-2]?=some (a,2 ^ m,o)->pd[pd.size-2+1]?=some (a+2 ^ m,2 ^ m,o2)->pw<o->uc k f a m->o9 k pw l (seg f a (2*2 ^ m) (m+1)) (ud pd (pd.size-2) a (2 ^ m) o) f' pd'->o9 k pw (l+1) f pd f' pd'
def Bu (pd:Pd):Nat:=if ((if pd.size-2>0 then pd[pd.size-2-1]?.map (·.2.1) else none):Option Nat).any (· < (pd[pd.size-2+1]?.elim 0 (·.2.1))) then pd.size-2-1 else pd.size-2
inductive kf (k:Nat):Nat->(Nat->Nat)->Pd->(Nat->Nat)->Pd->Prop
 | one {f:Nat->Nat}{pd:Pd} : pd.size<=1->kf k 0 f pd f pd
 | step {l:Nat}{f f':Nat->Nat}{pd pd':Pd}{a m o o2:Nat} : 1<pd.size->pd[Bu pd]?=some (a,2 ^ m,o)->pd[Bu pd+1]?=some (a+2 ^ m,2 ^ m,o2)->uc k f a m->kf k l (seg f a (2*2 ^ m) (m+1)) (ud pd (Bu pd) a (2 ^ m) o) f' pd'->kf k (l+1) f pd f' pd'
inductive Run (k:Nat) (x:Nat) (f:Nat->Nat) (pd:Pd):(Nat->Nat)->Pd->Prop
 | first:pd = #[]->Run k x f pd (seg f (32*x) 32 5) (pd.push (32*x,32,0))
 | more {s n o pw l:Nat}{f':Nat->Nat}{pd':Pd} : pd.back?=some (s,n,o)->power' (2 ^ k) (2*s+n) (2*s+n+n+32) (2 ^ k)=pw->o9 k pw l (seg f (32*x) 32 5) pd f' pd'->l<=2 ^ k->Run k x f pd f' ((pd'.modify (pd'.size-1) λ(st,len,_)=>(st,len,pw)).push (32*x,32,0))
section
variable {prog:Program}{w:World}{A:Around}{E:Value->Shared->Prop}{s:Shared}{κ:SortKind}{it:Nat->Keyed}{j:Nat}
theorem ue (C:dg prog w A s κ it (2 ^ (5+j)) (cB (5+j))){Q:Unit->SortSt->Prop}(F:Nat->Nat->Nat) (PD:Nat->Pd) (hj:1<=j) (Lu:minRun' (2 ^ (5+j)) (2 ^ (5+j)) 0=32) (F0:F 0=id) (P0:PD 0 = #[]) (hb:∀x,x<=2 ^ j->Fb (5+j) (F x))
 (Jz:∀x,x<2 ^ j->∀t,t<32->F x (32*x+t)=32*x+t) (Lv:∀x,x<2 ^ j->Run (5+j) x (F x) (PD x) (F (x+1)) (PD (x+1))){l:Nat}{f':Nat->Nat}{pd':Pd}(hl:l<=2 ^ (5+j)) (Lw:kf (5+j) l (F (2 ^ j)) (PD (2 ^ j)) f' pd')
 (h:Q () (aL κ it (aH (2 ^ (5+j)) f') pd')):wpS (model prog w) A E s sortRuns' Q (aL κ it (aH (2 ^ (5+j)) id) #[]):=by
 have hN:2 ^ (5+j)=32*2 ^ j:=Nat.pow_add 2 5 j
 have Sh:=Nat.two_pow_pos j
 have Si:Fb (5+j) id:=λi hi=>hi
 rw [sortRuns'_eq]
 refine wpS_bind (wpS_get ?_)
 have hs:(arrOf (aL κ it (aH (2 ^ (5+j)) id) #[])).size=2 ^ (5+j):=by show ((aH (2 ^ (5+j)) id).map it).size=_; rw [Array.size_map,cD]
 simp only [hs,Lu]
 refine wpS_bind (wpS_mono (wpS_forRange (I:=λx d az=>(x<=2 ^ j/\d=(none,32*x)/\az=aL κ it (aH (2 ^ (5+j)) (F x)) (PD x))\/(2 ^ j<x/\d=(none,32*2 ^ j)/\az=aL κ it (aH (2 ^ (5+j)) (F (2 ^ j))) (PD (2 ^ j))))
  (Q:=λd az=>d=(none,32*2 ^ j)/\az=aL κ it (aH (2 ^ (5+j)) (F (2 ^ j))) (PD (2 ^ j))) ?step ?fin (.inl ⟨Nat.zero_le _,rfl,by rw [F0,P0]⟩)) ?post)
 case fin=>
  rintro d az (⟨hx,_,_⟩ | ⟨_,hc,hD⟩)
  . omega
  . exact ⟨hc,hD⟩
 case step=>
  rintro x d az _ hx (⟨i7,rfl,rfl⟩ | ⟨i7,rfl,rfl⟩)
  . dsimp only
    by_cases PN:x=2 ^ j
    . subst PN
      rw [if_pos (by omega)]
      exact wpS_pure ⟨rfl,rfl⟩
    . have zj:x<2 ^ j:=by omega
      rw [if_neg (by omega)]
      have hle:32*x+32<=2 ^ (5+j):=by omega
      have g:∀t,t<32->(aH (2 ^ (5+j)) (F x)).getD (32*x+t) 0=32*x+t:=λt ht=>by rw [cC _ (by omega),Jz x zj t ht]
      have cc:∀u v,u<32->v<32->cB (5+j) (32*x+u) (32*x+v)=cB 5 u v:=λu v hu hv=>nW (m:=5) hu hv
      have B:=t9 (hb x i7)
      refine wpS_bind (j0 C B (by rw [cD]; omega) (by omega) ?_ ?_ ?_ ?_)
      . rw [g 1 (by decide),show 32*x=32*x+0 from rfl,g 0 (by decide),cc 1 0 (by decide) (by decide)]
        decide +kernel
      . rw [g 2 (by decide),g 1 (by decide),cc 2 1 (by decide) (by decide)]
        decide +kernel
      . rw [g 1 (by decide),show (aH (2 ^ (5+j)) (F x)).getD (32*x) 0=32*x+0 from g 0 (by decide),cc 0 1 (by decide) (by decide)]
        decide +kernel
      dsimp only
      rw [if_pos (by decide)]
      refine wpS_bind (wpS_lift (wpAny_rule ⟨rfl,?_⟩))
      rw [show min (2 ^ (5+j)-32*x) 32=32 by omega]
      refine wpS_bind (qX C B (show 32*x+32<=(aH (2 ^ (5+j)) (F x)).size by rw [cD]; exact hle) (by omega) (show 2<=32 by omega) ?_)
      rw [show 32-2=30 from rfl,CC hle (Jz x zj)]
      simp only [Bool.not_true,Bool.false_eq_true,if_false]
      refine wpS_bind (wpS_get ?_)
      have hr:=Lv x zj
      generalize hF:F (x+1)=F1 at hr
      generalize hP:PD (x+1)=P1 at hr
      cases hr with
      | first he=>
       have EY:(pendingOf (aL κ it (aH (2 ^ (5+j)) (seg (F x) (32*x) 32 5)) (PD x))).back?=none:=by show (PD x).back?=none; rw [he]; rfl
       simp only [EY]
       exact wpS_bind (wpS_modify (wpS_pure (.inl ⟨zj,by rw [Nat.mul_succ],rfl⟩)))
      | @more s0 n0 o pw l0 _ qJ EY yH Lx vj=>
       have Ly:(pendingOf (aL κ it (aH (2 ^ (5+j)) (seg (F x) (32*x) 32 5)) (PD x))).back?=some (s0,n0,o):=EY
       simp only [Ly,yH]
       refine wpS_bind (wpS_mono (wpS_forRange (I:=λx d aJ=>d=(none,())/\∃(l:Nat) (f:Nat->Nat) (pd:Pd),aJ=aL κ it (aH (2 ^ (5+j)) f) pd/\Fb (5+j) f/\o9 (5+j) pw l f pd F1 qJ/\l+x<=2 ^ (5+j)) (Q:=λd aJ=>d=(none,())/\aJ=aL κ it (aH (2 ^ (5+j)) F1) qJ) ?ws ?wf ⟨rfl,l0,_,_,rfl,we (m:=5) (hb x i7) hle,Lx,by omega⟩) ?wp)
       case ws=>
        rintro z d aJ _ _ ⟨rfl,l,f,pd,rfl,uf,hc,zl⟩
        refine wpS_bind (wpS_get ?_)
        cases hc with
        | one h1=>
         have e:(if (pendingOf (aL κ it (aH (2 ^ (5+j)) F1) qJ)).size>1 then (pendingOf (aL κ it (aH (2 ^ (5+j)) F1) qJ))[(pendingOf (aL κ it (aH (2 ^ (5+j)) F1) qJ)).size-2]? else none)=none:=if_neg (Nat.not_lt.mpr h1)
         simp only [e]
         exact wpS_pure ⟨rfl,rfl⟩
        | @stop _ _ a n o' h1 h2 h3=>
         have e:(if (pendingOf (aL κ it (aH (2 ^ (5+j)) F1) qJ)).size>1 then (pendingOf (aL κ it (aH (2 ^ (5+j)) F1) qJ))[(pendingOf (aL κ it (aH (2 ^ (5+j)) F1) qJ)).size-2]? else none)=some (a,n,o'):=(if_pos h1).trans h2
         simp only [e]
         rw [if_pos h3]
         exact wpS_pure ⟨rfl,rfl⟩
        | @step l' _ _ _ _ a m o' o2 h1 h2 pb h3 ok cj=>
         have e:(if (pendingOf (aL κ it (aH (2 ^ (5+j)) f) pd)).size>1 then (pendingOf (aL κ it (aH (2 ^ (5+j)) f) pd))[(pendingOf (aL κ it (aH (2 ^ (5+j)) f) pd)).size-2]? else none)=some (a,2 ^ m,o'):=(if_pos h1).trans h2
         simp only [e]
         rw [if_neg (by omega)]
         refine wpS_bind (Bt C uf ok h2 pb ?_)
         simp only [Bool.not_true,Bool.false_eq_true,if_false]
         exact wpS_pure ⟨rfl,l',_,_,rfl,ok.fb uf,cj,by omega⟩
       case wf=>
        rintro d aJ ⟨rfl,l,f,pd,rfl,uf,hc,zl⟩
        rw [Nat.max_eq_right (Nat.zero_le _)] at zl
        have EZ:l=0:=by omega
        subst EZ
        cases hc with
        | one=>exact ⟨rfl,rfl⟩
        | stop=>exact ⟨rfl,rfl⟩
       case wp=>
        rintro d aJ ⟨rfl,rfl⟩
        exact wpS_bind (wpS_modify (wpS_bind (wpS_modify (wpS_pure (.inl ⟨zj,by rw [Nat.mul_succ],rfl⟩)))))
  . dsimp only
    rw [if_pos (by omega)]
    exact wpS_pure ⟨rfl,rfl⟩
 case post=>
  rintro d az ⟨rfl,rfl⟩
  dsimp only
  refine wpS_bind (wpS_mono (wpS_forRange (I:=λx d aJ=>d=(none,())/\∃(l:Nat) (f:Nat->Nat) (pd:Pd),aJ=aL κ it (aH (2 ^ (5+j)) f) pd/\Fb (5+j) f/\kf (5+j) l f pd f' pd'/\l+x<=2 ^ (5+j)) (Q:=λd aJ=>d=(none,())/\aJ=aL κ it (aH (2 ^ (5+j)) f') pd') ?ls ?lf ⟨rfl,l,_,_,rfl,hb _ (Nat.le_refl _),Lw,by omega⟩) ?lp)
  case lf=>
   rintro d aJ ⟨rfl,l,f,pd,rfl,uf,hc,zl⟩
   rw [Nat.max_eq_right (Nat.zero_le _)] at zl
   have EZ:l=0:=by omega
   subst EZ
   cases hc with
   | one=>exact ⟨rfl,rfl⟩
  case lp=>
   rintro d aJ ⟨rfl,rfl⟩
   exact wpS_pure h
  case ls=>
   rintro z d aJ _ _ ⟨rfl,l,f,pd,rfl,uf,hc,zl⟩
   refine wpS_bind (wpS_get ?_)
   cases hc with
   | one h1=>
    rw [if_pos (show (pendingOf (aL κ it (aH (2 ^ (5+j)) f') pd')).size<=1 from h1)]
    exact wpS_pure ⟨rfl,rfl⟩
   | @step l' _ _ _ _ a m o' o2 h1 h2 pb ok cj=>
    rw [if_neg (show ¬ (pendingOf (aL κ it (aH (2 ^ (5+j)) f) pd)).size<=1 from Nat.not_le.mpr h1)]
    refine wpS_bind (Bt C uf ok h2 pb ?_)
    simp only [Bool.not_true,Bool.false_eq_true,if_false]
    exact wpS_pure ⟨rfl,l',_,_,rfl,ok.fb uf,cj,by omega⟩
end
end L2
namespace L2
open PySem PySem.Spec PyProof.Rows PySem.W
theorem cY {k x:Nat}{f:Nat->Nat}{pd:Pd}{s n o pw l:Nat}{f':Nat->Nat}{pd' P1:Pd}(h1:pd.back?=some (s,n,o)) (h2:power' (2 ^ k) (2*s+n) (2*s+n+n+32) (2 ^ k)=pw) (h3:o9 k pw l (seg f (32*x) 32 5) pd f' pd') (h4:l<=2 ^ k)
 (h5:P1=(pd'.modify (pd'.size-1) λ(st,len,_)=>(st,len,pw)).push (32*x,32,0)):Run k x f pd f' P1:=h5 ▸ Run.more h1 h2 h3 h4
theorem iW {k pw l:Nat}{f f':Nat->Nat}{pd pd' p1:Pd}(a m o o2:Nat) (h1:1<pd.size) (h2:pd[pd.size-2]?=some (a,2 ^ m,o)) (h3:pd[pd.size-2+1]?=some (a+2 ^ m,2 ^ m,o2)) (h4:pw<o) (ok:uc k f a m) (hp:ud pd (pd.size-2) a (2 ^ m) o=p1) (h:o9 k pw l (seg f a (2*2 ^ m) (m+1)) p1 f' pd'):o9 k pw (l+1) f pd f' pd':=.step h1 h2 h3 h4 ok (hp ▸ h)
theorem iX {k l:Nat}{f f':Nat->Nat}{pd pd' p1:Pd}(i a m o o2:Nat) (h1:1<pd.size) (hi:Bu pd=i) (h2:pd[i]?=some (a,2 ^ m,o)) (h3:pd[i+1]?=some (a+2 ^ m,2 ^ m,o2)) (ok:uc k f a m) (hp:ud pd i a (2 ^ m) o=p1) (h:kf k l (seg f a (2*2 ^ m) (m+1)) p1 f' pd'):kf k (l+1) f pd f' pd':=.step h1 (by rw [hi]; exact h2) (by rw [hi]; exact h3) ok (by rw [hi,hp]; exact h)
def a7:Nat->Nat:=seg id (32*0) 32 5
def b7:Nat->Nat:=seg a7 (32*1) 32 5
def c7:Nat->Nat:=seg (seg b7 (32*2) 32 5) 0 (2*2 ^ 5) (5+1)
def d7:Nat->Nat:=seg c7 (32*3) 32 5
def e7:Nat->Nat:=seg d7 64 (2*2 ^ 5) (5+1)
def z7:Nat->Nat:=seg e7 0 (2*2 ^ 6) (6+1)
def F7:Nat->Nat->Nat
 | 0=>id | 1=>a7 | 2=>b7 | 3=>c7 | _=>d7
def P7:Nat->Pd
 | 0=>#[] | 1=>#[(0,32,0)] | 2=>#[(0,32,2),(32,32,0)] | 3=>#[(0,64,1),(64,32,0)] | _=>#[(0,64,1),(64,32,2),(96,32,0)]
theorem Lz:∀x,x<2 ^ 2->Run (5+2) x (F7 x) (P7 x) (F7 (x+1)) (P7 (x+1))
 | 0,_=>.first rfl
 | 1,_=>cY (pw:=2) (l:=0) (pd':=#[(0,32,0)]) rfl (by decide +kernel) (.one (by decide)) (by decide) (by decide +kernel)
 | 2,_=>cY (pw:=1) (l:=1) (pd':=#[(0,64,2)]) rfl (by decide +kernel) (iW 0 5 2 0 (by decide) rfl rfl (by decide) ⟨by decide,⟨0,1,rfl,rfl⟩,by decide,by decide +kernel,by decide +kernel⟩ (p1:=#[(0,64,2)]) (by decide +kernel) (.one (by decide))) (by decide) (by decide +kernel)
 | 3,_=>cY (pw:=2) (l:=0) (pd':=#[(0,64,1),(64,32,0)]) rfl (by decide +kernel) (.stop (a:=0) (n:=64) (o:=1) (by decide) rfl (by decide)) (by decide) (by decide +kernel)
 | x+4,h=>absurd h (by show ¬ x+4<4; omega)
theorem LA:kf (5+2) 2 (F7 (2 ^ 2)) (P7 (2 ^ 2)) z7 #[(0,128,1)]:=
 iX 1 64 5 2 0 (by decide) (by decide +kernel) rfl rfl ⟨by decide,⟨1,1,rfl,rfl⟩,by decide,by decide +kernel,by decide +kernel⟩ (p1:=#[(0,64,1),(64,64,2)]) (by decide +kernel)
  (iX 0 0 6 1 2 (by decide) (by decide +kernel) rfl rfl ⟨by decide,⟨0,0,rfl,rfl⟩,by decide,by decide +kernel,by decide +kernel⟩ (p1:=#[(0,128,1)]) (by decide +kernel) (.one (by decide)))
theorem PQ:∀x,x<=2 ^ 2->Fb (5+2) (F7 x):=by
 unfold Fb
 decide +kernel
theorem PR:∀x,x<2 ^ 2->∀t,t<32->F7 x (32*x+t)=32*x+t:=by decide +kernel
def a8:Nat->Nat:=seg id (32*0) 32 5
def b8:Nat->Nat:=seg a8 (32*1) 32 5
def c8:Nat->Nat:=seg (seg b8 (32*2) 32 5) 0 (2*2 ^ 5) (5+1)
def d8:Nat->Nat:=seg c8 (32*3) 32 5
def e8:Nat->Nat:=seg (seg (seg d8 (32*4) 32 5) 64 (2*2 ^ 5) (5+1)) 0 (2*2 ^ 6) (6+1)
def f8:Nat->Nat:=seg e8 (32*5) 32 5
def g8:Nat->Nat:=seg (seg f8 (32*6) 32 5) 128 (2*2 ^ 5) (5+1)
def h8:Nat->Nat:=seg g8 (32*7) 32 5
def y8:Nat->Nat:=seg (seg h8 192 (2*2 ^ 5) (5+1)) 128 (2*2 ^ 6) (6+1)
def z8:Nat->Nat:=seg y8 0 (2*2 ^ 7) (7+1)
def F8:Nat->Nat->Nat
 | 0=>id | 1=>a8 | 2=>b8 | 3=>c8 | 4=>d8 | 5=>e8 | 6=>f8 | 7=>g8 | _=>h8
def P8:Nat->Pd
 | 0=>#[] | 1=>#[(0,32,0)] | 2=>#[(0,32,3),(32,32,0)] | 3=>#[(0,64,2),(64,32,0)] | 4=>#[(0,64,2),(64,32,3),(96,32,0)] | 5=>#[(0,128,1),(128,32,0)] | 6=>#[(0,128,1),(128,32,3),(160,32,0)] | 7=>#[(0,128,1),(128,64,2),(192,32,0)] | _=>#[(0,128,1),(128,64,2),(192,32,3),(224,32,0)]
theorem LB:∀x,x<2 ^ 3->Run (5+3) x (F8 x) (P8 x) (F8 (x+1)) (P8 (x+1))
 | 0,_=>.first rfl
 | 1,_=>cY (pw:=3) (l:=0) (pd':=#[(0,32,0)]) rfl (by decide +kernel) (.one (by decide)) (by decide) (by decide +kernel)
 | 2,_=>cY (pw:=2) (l:=1) (pd':=#[(0,64,3)]) rfl (by decide +kernel) (iW 0 5 3 0 (by decide) rfl rfl (by decide) ⟨by decide,⟨0,2,rfl,rfl⟩,by decide,by decide +kernel,by decide +kernel⟩ (p1:=#[(0,64,3)]) (by decide +kernel) (.one (by decide))) (by decide) (by decide +kernel)
 | 3,_=>cY (pw:=3) (l:=0) (pd':=#[(0,64,2),(64,32,0)]) rfl (by decide +kernel) (.stop (a:=0) (n:=64) (o:=2) (by decide) rfl (by decide)) (by decide) (by decide +kernel)
 | 4,_=>cY (pw:=1) (l:=2) (pd':=#[(0,128,2)]) rfl (by decide +kernel) (iW 64 5 3 0 (by decide) rfl rfl (by decide) ⟨by decide,⟨1,2,rfl,rfl⟩,by decide,by decide +kernel,by decide +kernel⟩ (p1:=#[(0,64,2),(64,64,3)]) (by decide +kernel) (iW 0 6 2 3 (by decide) rfl rfl (by decide) ⟨by decide,⟨0,1,rfl,rfl⟩,by decide,by decide +kernel,by decide +kernel⟩ (p1:=#[(0,128,2)]) (by decide +kernel) (.one (by decide)))) (by decide) (by decide +kernel)
 | 5,_=>cY (pw:=3) (l:=0) (pd':=#[(0,128,1),(128,32,0)]) rfl (by decide +kernel) (.stop (a:=0) (n:=128) (o:=1) (by decide) rfl (by decide)) (by decide) (by decide +kernel)
 | 6,_=>cY (pw:=2) (l:=1) (pd':=#[(0,128,1),(128,64,3)]) rfl (by decide +kernel) (iW 128 5 3 0 (by decide) rfl rfl (by decide) ⟨by decide,⟨2,2,rfl,rfl⟩,by decide,by decide +kernel,by decide +kernel⟩ (p1:=#[(0,128,1),(128,64,3)]) (by decide +kernel) (.stop (a:=0) (n:=128) (o:=1) (by decide) rfl (by decide))) (by decide) (by decide +kernel)
 | 7,_=>cY (pw:=3) (l:=0) (pd':=#[(0,128,1),(128,64,2),(192,32,0)]) rfl (by decide +kernel) (.stop (a:=128) (n:=64) (o:=2) (by decide) rfl (by decide)) (by decide) (by decide +kernel)
 | x+8,h=>absurd h (by show ¬ x+8<8; omega)
theorem LC:kf (5+3) 3 (F8 (2 ^ 3)) (P8 (2 ^ 3)) z8 #[(0,256,1)]:=
 iX 2 192 5 3 0 (by decide) (by decide +kernel) rfl rfl ⟨by decide,⟨3,2,rfl,rfl⟩,by decide,by decide +kernel,by decide +kernel⟩ (p1:=#[(0,128,1),(128,64,2),(192,64,3)]) (by decide +kernel)
  (iX 1 128 6 2 3 (by decide) (by decide +kernel) rfl rfl ⟨by decide,⟨1,1,rfl,rfl⟩,by decide,by decide +kernel,by decide +kernel⟩ (p1:=#[(0,128,1),(128,128,2)]) (by decide +kernel)
   (iX 0 0 7 1 2 (by decide) (by decide +kernel) rfl rfl ⟨by decide,⟨0,0,rfl,rfl⟩,by decide,by decide +kernel,by decide +kernel⟩ (p1:=#[(0,256,1)]) (by decide +kernel) (.one (by decide))))
theorem PU:∀x,x<=2 ^ 3->Fb (5+3) (F8 x):=by
 unfold Fb
 decide +kernel
theorem PV:∀x,x<2 ^ 3->∀t,t<32->F8 x (32*x+t)=32*x+t:=by decide +kernel
section
variable {prog:Program}{w:World}
theorem ug {k:Nat}(h:∀(A:Around) (E:Value->Shared->Prop) (s:Shared) (it:Nat->Keyed),dg prog w A s (tuples' true) it (2 ^ k) (cB k)->wpS (model prog w) A E s sortRuns' (λ_ az=>arrOf az=(aH (2 ^ k) (rev k)).map it/\failedOf az=none) (aL (tuples' true) it (aH (2 ^ k) id) #[])):i8 prog w (aY k) (aH (2 ^ k) (rev k)):=by
 refine ⟨by rw [cD,cH],λA E s it C=>?_⟩
 rw [cH] at C ⊢
 have e:(List.range (2 ^ k)).toArray=aH (2 ^ k) id:=by unfold aH; rw [List.map_id]
 rw [e]
 exact h A E s it (C.congr λi j hi hj=>agree k hi hj)
theorem wg {N:Nat}{f g:Nat->Nat}(h:∀i,i<N->f i=g i):aH N f=aH N g:=t8 (cD _ _) λi hi=>by rw [cC f hi,h i hi]
theorem E1:i8 prog w (aY 7) (aH (2 ^ 7) (rev 7)):=ug λA E s it C=>by
 refine ue (j:=2) C F7 P7 (by decide) (by decide +kernel) rfl rfl PQ PR Lz (l:=2) (f':=z7) (pd':=#[(0,128,1)]) (by decide) LA ?_
 rw [show aH (2 ^ (5+2)) z7=aH (2 ^ 7) (rev 7) from wg λi hi=>by
  have:=o8 (f:=e7) (a:=0) (n:=2*2 ^ 6) (m:=6+1) (t:=i) hi
  rw [Nat.zero_add,Nat.zero_add] at this
  exact this]
 exact ⟨rfl,rfl⟩
theorem E2:i8 prog w (aY 8) (aH (2 ^ 8) (rev 8)):=ug λA E s it C=>by
 refine ue (j:=3) C F8 P8 (by decide) (by decide +kernel) rfl rfl PU PV LB (l:=3) (f':=z8) (pd':=#[(0,256,1)]) (by decide) LC ?_
 rw [show aH (2 ^ (5+3)) z8=aH (2 ^ 8) (rev 8) from wg λi hi=>by
  have:=o8 (f:=y8) (a:=0) (n:=2*2 ^ 7) (m:=7+1) (t:=i) hi
  rw [Nat.zero_add,Nat.zero_add] at this
  exact this]
 exact ⟨rfl,rfl⟩
theorem wj (k:Nat):((aH (2 ^ k) (rev k)).toList.map λi=>(aY k).getD i [])=bY k:=by
 apply List.ext_getElem?
 intro t
 unfold aH
 rw [List.map_map]
 by_cases h:t<2 ^ k
 . rw [zi k t h,List.getElem?_map,List.getElem?_range h]
   rfl
 . rw [List.getElem?_eq_none (by rw [List.length_map,List.length_range]; omega),List.getElem?_eq_none (by rw [cJ]; omega)]
theorem zm (k:Nat) (h1:1<=k) (h8:k<=8):∃q,i8 prog w (aY k) q/\q.size=2 ^ k/\(q.toList.map λi=>(aY k).getD i [])=bY k/\∀i∈q.toList,i<2 ^ k:=by
 by_cases h6:k<=6
 . have hk:k∈[0,1,2,3,4,5,6]:=by
    rcases (show k=1\/k=2\/k=3\/k=4\/k=5\/k=6 by omega) with rfl | rfl | rfl | rfl | rfl | rfl <;> simp
   exact ⟨_,qx k h1 h6,sH k hk,vC k hk,λi hi=>by
    have:=List.all_eq_true.mp (Eb k hk) i hi
    rwa [Nat.blt_eq] at this⟩
 . have hr:∀i∈(aH (2 ^ k) (rev k)).toList,i<2 ^ k:=λi hi=>by
    unfold aH at hi
    obtain ⟨t,_,rfl⟩:=List.mem_map.mp hi
    exact iV _ _
   rcases (show k=7\/k=8 by omega) with rfl | rfl
   . exact ⟨_,E1,cD _ _,wj 7,hr⟩
   . exact ⟨_,E2,cD _ _,wj 8,hr⟩
end
section
variable {X:Cx}
theorem uh:ff X (.builtin "sorted") (λxs H Q=>∃p ts k,xs=[.ref p]/\ay X.K H p (ts.map V.ref)/\Paired (λt b=>aP X.K H t (b.map V.int)) ts (aY k)/\k<=8/\
 ∀D mY,H D=none->Paired (λt b=>aP X.K H t (b.map V.int)) mY (bY k)->Q (.ref D) (upd H D (.lst (mY.map V.ref)))):=by
 intro pins s σ H xs us Q I r h
 obtain ⟨p,ts,k,rfl,hp,hb,h8,q⟩:=h
 by_cases hk:k=0
 . exact sM pins s σ H _ us Q I r ⟨p,ts,k,rfl,hp,hb,by omega,q⟩
 obtain ⟨u,rfl,rx⟩:=vals1 r
 cases (show u=Value.ref p from rx)
 obtain ⟨its,rv,pl,hz⟩:=I.list hp
 have l1:=rv.length
 rw [List.length_map] at l1
 have l2:=hb.length
 rw [cH] at l2
 have two:2 ^ 1<=2 ^ k/\2 ^ k<=2 ^ 8:=⟨Nat.pow_le_pow_right (by decide) (by omega),Nat.pow_le_pow_right (by decide) h8⟩
 obtain ⟨Z,hS,hsz,LD,kI⟩:=zm (prog:=X.prog) (w:=X.w) k (by omega) h8
 refine mX (k:=k) (q:=Z) pl.isList (pO I rv hb) (i9 k) (by omega) (by omega) (by omega) hS ?_
 obtain ⟨n,hn⟩:=ij s.heap its (Z.map λi=>its.getD i .none)
 have gU:=j4 (d:=0) (e:=[]) hb (l:=Z.toList) (λi hi=>by have:=kI i hi; omega)
 rw [LD] at gU
 refine ⟨.ref (s.heap.objs.size+1),_,I.laid (t':=s.toks) (o:=.lst ((Z.toList.map λi=>ts.getD i 0).map V.ref)) (λb o hb=>gp hb) (by omega) ?_,rfl,q _ _ (I.hok.fresh (by omega)) gU⟩
 refine ⟨?_,(Z.map λi=>its.getD i .none).toList,n,?_,?_⟩
 . rw [List.length_map,List.length_map,Array.length_toList,hsz,sizeLine_eq]
   omega
 . have v:=nL rv (l:=Z.toList) (λi hi=>by rw [List.length_map]; have:=kI i hi; omega)
   rw [Array.toList_map]
   have e:(Z.toList.map λi=>ts.getD i 0).map V.ref=Z.toList.map λi=>(ts.map V.ref).getD i .aS:=by
    rw [List.map_map]
    refine List.map_congr_left λi hi=>?_
    show V.ref (ts.getD i 0)=_
    exact (sI (by have:=kI i hi; omega)).symm
   rw [e]
   exact v
 . rw [Array.toArray_toList]
   exact hn
end
end L2
namespace PySem
open PySem PySem.Spec PyProof.Rows
section
variable {prog:Program}{w:World}{A:Around}{E:Value->Shared->Prop}{s:Shared}{tp tq:Bool}
theorem CI {z TI TO i1 i2 l1 l2:Addr}{k:Nat}{xs ys:Array Value}{x y a b:Value}{Q:Option Value->Shared->Prop}(nd:[z,TI,TO,i1,i2].Nodup) (n1:l1∉[z,TI,TO,i1,i2]) (n2:l2∉[z,TI,TO,i1,i2])
 (hz:IsZip s.heap z TI TO .none) (cZ:IsPair s.heap TI (.ref i1) (.ref i2)) (eB:IsPair s.heap TO a b) (h1:dj tp s.heap i1 l1 k) (h2:dj tq s.heap i2 l2 k) (jJ:iw tp s.heap l1 xs) (eU:iw tq s.heap l2 ys) (hx:xs[k]?=some x) (hy:ys[k]?=some y)
 (hQ:∀h',IsZip h' z TI TO (rawInt s.heap.objs.size)->IsPair h' TO x y->dj tp h' i1 l1 (k+1)->dj tq h' i2 l2 (k+1)->IsPair h' s.heap.objs.size x y->
  (∀c o,c≠z->c≠TO->c≠i1->c≠i2->s.heap.get? c=some o->h'.get? c=some o)->Q (some (.ref s.heap.objs.size)) { s with heap:=h' }):wpAny (model prog w) A (pyNext (.ref z)) Q E s:=by
 simp only [List.nodup_cons,List.mem_cons,List.not_mem_nil,or_false,not_or] at nd n1 n2
 obtain ⟨⟨nh,gb,eY,ia⟩,⟨TITO,TIi1,TIi2⟩,⟨TOi1,TOi2⟩,i12,_⟩:=nd
 obtain ⟨l1z,EM,l1TO,l1i1,l1i2⟩:=n1
 obtain ⟨l2z,Ls,l2TO,l2i1,l2i2⟩:=n2
 have hT:s.TypeIs (.ref z) "zip":=⟨_,hz,rfl⟩
 unfold pyNext
 refine wpAny_bind (wpAny_attempt (wpAny_callSpecial?_slot (name:=Str.ofString "__next__") hT F.slot_zip_next (wpAny_call_entry F.slot_zip_next hT F.entry_zip_next ?_ (F.args_zip_next_1 _))))
 show wpAny _ _ (field (.ref z) 2 >>= _) _ _ _
 refine wpAny_bind (wpAny_field hz rfl (x:=.bool false) rfl ?_)
 show wpAny _ _ (field (.ref z) 3 >>= _) _ _ _
 refine wpAny_bind (wpAny_field hz rfl (x:=.ref TI) rfl ?_)
 refine wpAny_bind (wpAny_seqItems cZ rfl ?_)
 show wpAny _ _ (Builtin.SmallTypes.ownedTupleIsFree (.ref z) >>= _) _ _ _
 refine wpAny_bind ?_
 unfold Builtin.SmallTypes.ownedTupleIsFree
 refine wpAny_bind (wpAny_field hz rfl (x:=.none) rfl (wpAny_pure ?_))
 simp only [if_true]
 refine wpAny_bind (wpAny_rule ?_)
 refine wpAny_bind (wpAny_field hz rfl (x:=.ref TO) rfl ?_)
 refine wpAny_bind (wpAny_setField_rec hz (by simp) λeI dk dU=>?_)
 replace dk:IsZip eI z TI TO .ellipsis:=dk
 refine wpAny_bind ?_
 simp only [List.zipIdx_cons,List.zipIdx_nil,List.forIn_cons,List.forIn_nil]
 have k1:∀c o,c≠z->s.heap.get? c=some o->eI.get? c=some o:=λc o n e=>dU.extBut _ _ n e
 refine wpAny_bind (wpAny_bind (wpAny_onRaise ?_))
 show wpAny _ _ (Builtin.SmallTypes.nextOf (.ref i1) >>= _) _ _ _
 refine wpAny_bind (jI (h1.at λo e=>k1 _ o (Ne.symm eY) e) (jJ.at λo e=>k1 _ o l1z e) hx λig tX gc=>wpAny_pure ?_)
 have k2:∀c o,c≠i1->eI.get? c=some o->ig.get? c=some o:=λc o n e=>gc.extBut _ _ n e
 have lM:IsPair ig TO a b:=k2 _ _ TOi1 (k1 _ _ (Ne.symm gb) eB)
 refine wpAny_bind (wpAny_seqItems lM rfl ?_)
 refine wpAny_bind (wpAny_updateSeq_pair lM λgk iU ib=>?_)
 replace iU:IsPair gk TO x b:=iU
 have k3:∀c o,c≠TO->ig.get? c=some o->gk.get? c=some o:=λc o n e=>ib.extBut _ _ n e
 refine wpAny_bind (wpAny_letGo (wpAny_pure ?_))
 refine wpAny_bind (wpAny_bind (wpAny_onRaise ?_))
 show wpAny _ _ (Builtin.SmallTypes.nextOf (.ref i2) >>= _) _ _ _
 refine wpAny_bind (jI (h2.at λo e=>k3 _ o (Ne.symm TOi2) (k2 _ o (Ne.symm i12) (k1 _ o (Ne.symm ia) e))) (eU.at λo e=>k3 _ o l2TO (k2 _ o l2i1 (k1 _ o l2z e))) hy λpJ ze qD=>wpAny_pure ?_)
 have k4:∀c o,c≠i2->gk.get? c=some o->pJ.get? c=some o:=λc o n e=>qD.extBut _ _ n e
 have lN:IsPair pJ TO x b:=k4 _ _ TOi2 iU
 refine wpAny_bind (wpAny_seqItems lN rfl ?_)
 refine wpAny_bind (wpAny_updateSeq_pair lN λcT gd qE=>?_)
 replace gd:IsPair cT TO x y:=gd
 have k5:∀c o,c≠TO->pJ.get? c=some o->cT.get? c=some o:=λc o n e=>qE.extBut _ _ n e
 refine wpAny_bind (wpAny_letGo (wpAny_pure (wpAny_pure ?_)))
 refine wpAny_bind (wpAny_seqItems gd rfl ?_)
 refine wpAny_bind (wpAny_newTuple ?_)
 have hsz:cT.objs.size=s.heap.objs.size:=by rw [qE.1,qD.1,ib.1,gc.1,dU.1]
 have qF:IsZip cT z TI TO .ellipsis:=k5 _ _ gb (k4 _ _ ia (k3 _ _ gb (k2 _ _ eY dk)))
 have EN:∀c o,c≠z->c≠TO->c≠i1->c≠i2->s.heap.get? c=some o->cT.get? c=some o:=λc o c1 c2 c3 c4 e=>k5 _ _ c2 (k4 _ _ c4 (k3 _ _ c2 (k2 _ _ c3 (k1 _ _ c1 e))))
 have EO:dj tp cT i1 l1 (k+1):=tX.at λo e=>k5 _ _ (Ne.symm TOi1) (k4 _ _ i12 (k3 _ _ (Ne.symm TOi1) e))
 have ER:dj tq cT i2 l2 (k+1):=ze.at λo e=>k5 _ _ (Ne.symm TOi2) e
 have lO:z<cT.objs.size:=Heap.lt_size qF
 show wpAny _ _ (Builtin.SmallTypes.ownedTupleHandOut (.ref z) (.ref cT.objs.size) >>= _) _ _ _
 refine wpAny_bind ?_
 unfold Builtin.SmallTypes.ownedTupleHandOut
 have zf:IsZip (cT.push { cls:=.type "tuple",data:=.seq #[x,y] }) z TI TO .ellipsis:=Heap.get?_push_of_some _ qF
 refine wpAny_bind (wpAny_setField_rec zf (by simp) λES lP qG=>?_)
 replace lP:IsZip ES z TI TO (rawInt cT.objs.size):=lP
 refine wpAny_setField_rec lP (by simp) λnV jc qH=>?_
 replace jc:IsZip nV z TI TO (rawInt cT.objs.size):=jc
 have up:∀c o,c≠z->cT.get? c=some o->nV.get? c=some o:=λc o c1 e=>qH.extBut _ _ c1 (qG.extBut _ _ c1 (Heap.get?_push_of_some _ e))
 have o4:IsPair nV cT.objs.size x y:=qH.extBut _ _ (Nat.ne_of_gt lO) (qG.extBut _ _ (Nat.ne_of_gt lO) (Heap.get?_push_size _ rfl))
 rw [hsz] at jc o4
 refine wpAny_pure ⟨.ref cT.objs.size,rfl,wpAny_pure ?_⟩
 rw [hsz]
 exact hQ nV jc (up _ _ (Ne.symm gb) gd) (EO.at λo e=>up _ o (Ne.symm eY) e) (ER.at λo e=>up _ o (Ne.symm ia) e) o4 λc o c1 c2 c3 c4 e=>up c o c1 (EN c o c1 c2 c3 c4 e)
end
end PySem
namespace L2
open PySem PySem.Spec PyProof.Rows
def ZK (K:W.Frag) (tp:Bool) (H:Hp) (a:Addr) (xs:List V):Prop:=match tp with | true=>aP K H a xs | false=>ay K H a xs
section
variable {X:Cx}{pins:List (Addr×Obj)}{σ:St}{H:Hp}{s:Shared}{tp:Bool}{a:Addr}{xs ys:List V}
theorem Inv.zk (I:Inv X pins σ H s) (h:ZK X.K tp H a xs):∃its:List Value,Vals xs its/\iw tp s.heap a its.toArray/\xs.length<=sizeLine:=by
 cases tp
 . obtain ⟨its,r,pl,z⟩:=I.list h
   exact ⟨its,r,pl.isList,z⟩
 . obtain ⟨its,r,⟨o,e,c,n,d⟩,z⟩:=I.tuple h
   exact ⟨its,r,⟨o,e,c,n,d⟩,z⟩
theorem Inv.zo (I:Inv X pins σ H s) (h:ZK X.K tp H a xs) (h':ZK X.K tp H a ys):xs=ys:=by
 cases tp
 . exact I.nj h h'
 . exact I.kX h h'
theorem Inv.ui {fp:List Addr}(I:Inv X pins σ H s) (h:ZK X.K tp H a xs) (hf:∀b∈fp,fi X pins H b):a∉fp:=λm=>by
 have own:∀o,X.K.lookup a=some o->False:=λo e=>by
  have eb:=I.ok.mod.kin a o e
  obtain ⟨_,_,_,h4,_⟩:=hf a m
  rcases h4 with h4 | h4
  . exact I.ok.noex a o eb h4
  . exact absurd (Nat.lt_of_lt_of_le (Heap.lt_size eb) (Nat.le_trans I.ok.bsz h4)) (Nat.lt_irrefl _)
 have aS:=(hf a m).1
 cases tp
 . rcases h with (h | ⟨o,h⟩) | ⟨o,_,_,e,_⟩
   . rw [aS] at h; cases h
   . rw [aS] at h; cases h
   . exact own o e
 . rcases h with (h | ⟨o,h⟩) | ⟨o,_,_,e,_⟩
   . rw [aS] at h; cases h
   . rw [aS] at h; cases h
   . exact own o e
end
def Itm (K:W.Frag) (tp tq:Bool) (a b:Addr):It:=
 ⟨λi H=>∃xs ys x y,ZK K tp H a xs/\ZK K tq H b ys/\xs[i]?=some x/\ys[i]?=some y,λi H v H'=>∃T x y,v=.ref T/\H T=none/\H'=upd H T (.tup [x,y])/\(∀xs,ZK K tp H a xs->xs[i]?=some x)/\∀ys,ZK K tq H b ys->ys[i]?=some y,
  λi H=>∃xs,ZK K tp H a xs/\xs.length<=i⟩
theorem CJ {P:Program}{w:World}{K:W.Frag}{es:List Expr}{kk:Nat}{pp:Pos}{tp tq:Bool}{a b z TI TO i1 i2:Addr}(nd:[z,TI,TO,i1,i2].Nodup) :
 Turn P w K (.Tuple es kk pp) (Itm K tp tq a b) [z,TI,TO,i1,i2] z (λi h=>IsZip h z TI TO .none/\IsPair h TI (.ref i1) (.ref i2)/\(∃a b,IsPair h TO a b)/\dj tp h i1 a i/\dj tq h i2 b i) where
 mem:=by simp
 obj:=λi h st c hc=>by
  obtain ⟨hz,cZ,⟨u,v,eB⟩,h1,h2⟩:=st
  simp only [List.mem_cons,List.not_mem_nil,or_false] at hc
  rcases hc with rfl | rfl | rfl | rfl | rfl
  . exact ⟨_,hz,λv z=>by cases (show Data.fields _=Data.cell v from z)⟩
  . exact ⟨_,cZ,λv z=>by cases (show Data.seq _=Data.cell v from z)⟩
  . exact ⟨_,eB,λv z=>by cases (show Data.seq _=Data.cell v from z)⟩
  . obtain ⟨o,e,vs,d⟩:=h1.there
    exact ⟨o,e,λv z=>by rw [d] at z; cases z⟩
  . obtain ⟨o,e,vs,d⟩:=h2.there
    exact ⟨o,e,λv z=>by rw [d] at z; cases z⟩
 keep:=λi h h' st k=>by
  obtain ⟨hz,cZ,⟨u,v,eB⟩,h1,h2⟩:=st
  exact ⟨k z (by simp) _ hz,k TI (by simp) _ cZ,⟨u,v,k TO (by simp) _ eB⟩,h1.at λo e=>k i1 (by simp) o e,h2.at λo e=>k i2 (by simp) o e⟩
 item:=by
  intro X hP hw hK hc i pins s σ H E I hf st hg
  subst hP hw hK
  obtain ⟨xs,ys,x,y,i7,E3,hx,hy⟩:=hg
  obtain ⟨its,rv,p,PX⟩:=I.zk i7
  obtain ⟨its',vE,p',RR⟩:=I.zk E3
  obtain ⟨u,hu,ru⟩:=rv.get hx
  obtain ⟨v,hv,PY⟩:=vE.get hy
  obtain ⟨hz,cZ,⟨c,d,eB⟩,h1,h2⟩:=st
  have na:a∉[z,TI,TO,i1,i2]:=I.ui i7 hf
  have nb:b∉[z,TI,TO,i1,i2]:=I.ui E3 hf
  refine CI nd na nb hz cZ eB h1 h2 p p' (x:=u) (y:=v) (by simpa using hu) (by simpa using hv) λh' a1 a2 a3 a4 a5 kk=>?_
  refine ⟨.ref s.heap.objs.size,rfl,?_⟩
  refine wpAny_letOwnedTupleGo_zip a1 λh3 PZ AY=>?_
  have qK:=nd
  simp only [List.nodup_cons,List.mem_cons,List.not_mem_nil,or_false,not_or] at qK
  obtain ⟨⟨nh,gb,eY,ia⟩,⟨TITO,TIi1,TIi2⟩,⟨TOi1,TOi2⟩,i12,_⟩:=qK
  have lt:∀c∈[z,TI,TO,i1,i2],c≠s.heap.objs.size:=λc hc=>by
   simp only [List.mem_cons,List.not_mem_nil,or_false] at hc
   rcases hc with rfl | rfl | rfl | rfl | rfl
   . exact Nat.ne_of_lt (Heap.lt_size hz)
   . exact Nat.ne_of_lt (Heap.lt_size cZ)
   . exact Nat.ne_of_lt (Heap.lt_size eB)
   . obtain ⟨o,e,_⟩:=h1.there
     exact Nat.ne_of_lt (Heap.lt_size e)
   . obtain ⟨o,e,_⟩:=h2.there
     exact Nat.ne_of_lt (Heap.lt_size e)
  have k3:∀c o,c≠z->h'.get? c=some o->h3.get? c=some o:=λc o n e=>AY.extBut _ _ n e
  have I1:Inv X pins σ (upd H s.heap.objs.size (.tup [x,y])) { s with heap:=h3,toks:=s.toks }:=I.vm (its:=[u,v]) hf (λb o hb e1=>by
   simp only [List.mem_cons,List.not_mem_nil,or_false,not_or] at hb
   exact k3 b o hb.1 (kk b o hb.1 hb.2.2.1 hb.2.2.2.1 hb.2.2.2.2 e1)) (Nat.le_refl _) ⟨_,k3 _ _ (Ne.symm (lt z (by simp))) a5,rfl,_,rfl⟩ (.cons ru (.cons PY .nil)) (by show 2<=sizeLine; decide)
  have fr:H s.heap.objs.size=none:=I.hok.fresh (Nat.le_refl _)
  refine ⟨.ref s.heap.objs.size,_,I1,rfl,⟨s.heap.objs.size,x,y,rfl,fr,rfl,λSj h=>by rw [I.zo h i7]; exact hx,λoO h=>by rw [I.zo h E3]; exact hy⟩,⟨PZ,k3 _ _ (Ne.symm nh) (kk _ _ (Ne.symm nh) TITO TIi1 TIi2 cZ),⟨_,_,k3 _ _ (Ne.symm gb) a2⟩,a3.at λo e=>k3 _ o (Ne.symm eY) e,a4.at λo e=>k3 _ o (Ne.symm ia) e⟩,λb hb=>?_⟩
  rw [aj (lt b hb)]
  exact (hf b hb).1
 done:=by
  intro X hP hw hK hc i pins s σ H E I hf st hg
  subst hP hw hK
  obtain ⟨xs,i7,hx⟩:=hg
  obtain ⟨its,rv,p,PX⟩:=I.zk i7
  obtain ⟨hz,cZ,⟨c,d,eB⟩,h1,h2⟩:=st
  have hl:=rv.length
  have na:a∉[z,TI,TO,i1,i2]:=I.ui i7 hf
  exact CB (I.ok.hd hc) nd na hz cZ h1 p (a:=.none) (b:=.none) (by simp; omega) λh' kk=>⟨rfl,I.vk (t':=s.toks) hf λb o hb e1=>by
   simp only [List.mem_cons,List.not_mem_nil,or_false,not_or] at hb
   exact kk b o hb.1 hb.2.2.1 hb.2.2.2.1 hb.2.2.2.2 e1⟩
 self:=λ_ _ _ _ _ st h=>wpAny_pyIter_zip st.1 h
section
variable {X:Cx}
end
end L2
namespace PySem
open PySem.Spec PyProof.Rows
theorem iz {M:Model}{A:Around}{E:Value->Shared->Prop}{s:Shared}{a:Addr}{Q:Option Obj->Shared->Prop}(h:Q (s.heap.get? a) s):wpAny M A (loadIfAlive a) Q E s:=λΓ p hp=>by
 unfold loadIfAlive
 simp only [Sem.wp_loadIfAlive]
 exact wpAny_pure (M:=M) (A:=A) (E:=E) (s:=s) h Γ p hp
structure eC (prog:Program) (w:World) (it:Addr) (more:List Addr) (n:Nat) (P:Nat->Value->Prop) (st:Nat->Heap->Prop):Prop where
 «at» : ∀{i:Nat}{h h':Heap},st i h->(∀b∈it::more,∀o,h.get? b=some o->h'.get? b=some o)->st i h'
 there:∀{i:Nat}{h:Heap},st i h->∃o,h.get? it=some o
 item:∀{A:Around}{E:Value->Shared->Prop}{s:Shared}{i:Nat}{Q:Value->Shared->Prop},i<n->st i s.heap->(∀x h',P i x->st (i+1) h'->Heap.SameBut it s.heap h'->Q x { s with heap:=h' })->wpAny (model prog w) A (Builtin.SmallTypes.nextOf (.ref it)) Q E s
 fin:∀{A:Around}{E:Value->Shared->Prop}{s:Shared}{Q:Value->Shared->Prop},A.handled=none->st n s.heap->(∀h' e,Heap.ExtBut it s.heap h'->(∃o,h'.get? e=some o/\o.cls=.type "StopIteration")->E (.ref e) { s with heap:=h' })->wpAny (model prog w) A (Builtin.SmallTypes.nextOf (.ref it)) Q E s
theorem qL {prog:Program}{w:World}{tp:Bool}{it l:Addr}{items:Array Value}(gg:l≠it):eC prog w it [l] items.size (λi x=>items[i]?=some x) (λi h=>dj tp h it l i/\iw tp h l items) where
 «at»:=λst k=>⟨st.1.at λo e=>k it (by simp) o e,st.2.at λo e=>k l (by simp) o e⟩
 there:=λst=>let ⟨o,e,_⟩:=st.1.there; ⟨o,e⟩
 item:=λ{A E s i Q} hi st h=>jI st.1 st.2 (Array.getElem?_eq_getElem hi) λh' i' sb=>h _ h' (Array.getElem?_eq_getElem hi) ⟨i',st.2.at λo e=>(sb.2 l gg).trans e⟩ sb
 fin:=λ{A E s Q} hh st h=>zd hh st.1 st.2 (Array.getElem?_eq_none (Nat.le_refl _)) h
def ZS (h:Heap) (z TI TO i1 i2:Addr):Prop:=
 IsPair h TI (.ref i1) (.ref i2)/\(∃a b,IsPair h TO a b)/\(IsZip h z TI TO .none\/∃(a:Addr) (o:Obj) (b1:Bool),a∉[z,TI,TO,i1,i2]/\h.get? a=some o/\h.get? z=some { cls:=.type "zip",dict:=none,data:=.fields #[rawInt a,.bool b1,.bool false,.ref TI,.ref TO],slots:=#[] })
section
variable {prog:Program}{w:World}{A:Around}{E:Value->Shared->Prop}{s:Shared}{z TI TO i1 i2:Addr}{m1 m2:List Addr}{n1 n2:Nat}{P1 P2:Nat->Value->Prop}{iY i6:Nat->Heap->Prop}
theorem CK {k:Nat}{Q:Option Value->Shared->Prop}(nd:[z,TI,TO,i1,i2].Nodup) (a1:∀b∈m1,b∉[z,TI,TO,i1,i2]) (a2:∀b∈m2,b∉[z,TI,TO,i1,i2])
 (D1:eC prog w i1 m1 n1 P1 iY) (D2:eC prog w i2 m2 n2 P2 i6) (hz:ZS s.heap z TI TO i1 i2) (h1:iY k s.heap) (h2:i6 k s.heap) (JA:k<n1) (JB:k<n2)
 (hQ:∀x y h' T,P1 k x->P2 k y->ZS h' z TI TO i1 i2->iY (k+1) h'->i6 (k+1) h'->T∉[z,TI,TO,i1,i2]->s.heap.get? T=none->IsPair h' T x y->
  (∀c o,c∉[z,TI,TO,i1,i2]->s.heap.get? c=some o->h'.get? c=some o)->Q (some (.ref T)) { s with heap:=h' }):wpAny (model prog w) A (pyNext (.ref z)) Q E s:=by
 have qK:=nd
 simp only [List.nodup_cons,List.mem_cons,List.not_mem_nil,or_false,not_or] at qK
 obtain ⟨⟨nh,gb,eY,ia⟩,⟨TITO,TIi1,TIi2⟩,⟨TOi1,TOi2⟩,i12,_⟩:=qK
 obtain ⟨cZ,⟨a,b,eB⟩,hz⟩:=hz
 have lt:∀c∈[z,TI,TO,i1,i2],∀o,s.heap.get? c=some o->c≠s.heap.objs.size:=λc _ o e=>Nat.ne_of_lt (Heap.lt_size e)
 rcases hz with hz | ⟨al,ol,b1,kM,ng,hz⟩
 . have hT:s.TypeIs (.ref z) "zip":=⟨_,hz,rfl⟩
   unfold pyNext
   refine wpAny_bind (wpAny_attempt (wpAny_callSpecial?_slot (name:=Str.ofString "__next__") hT F.slot_zip_next (wpAny_call_entry F.slot_zip_next hT F.entry_zip_next ?_ (F.args_zip_next_1 _))))
   show wpAny _ _ (field (.ref z) 2 >>= _) _ _ _
   refine wpAny_bind (wpAny_field hz rfl (x:=.bool false) rfl ?_)
   show wpAny _ _ (field (.ref z) 3 >>= _) _ _ _
   refine wpAny_bind (wpAny_field hz rfl (x:=.ref TI) rfl ?_)
   refine wpAny_bind (wpAny_seqItems cZ rfl ?_)
   show wpAny _ _ (Builtin.SmallTypes.ownedTupleIsFree (.ref z) >>= _) _ _ _
   refine wpAny_bind ?_
   unfold Builtin.SmallTypes.ownedTupleIsFree
   refine wpAny_bind (wpAny_field hz rfl (x:=.none) rfl (wpAny_pure ?_))
   simp only [if_true]
   refine wpAny_bind (wpAny_rule ?_)
   refine wpAny_bind (wpAny_field hz rfl (x:=.ref TO) rfl ?_)
   refine wpAny_bind (wpAny_setField_rec hz (by simp) λeI dk dU=>?_)
   replace dk:IsZip eI z TI TO .ellipsis:=dk
   refine wpAny_bind ?_
   simp only [List.zipIdx_cons,List.zipIdx_nil,List.forIn_cons,List.forIn_nil]
   have k1:∀c o,c≠z->s.heap.get? c=some o->eI.get? c=some o:=λc o n e=>dU.extBut _ _ n e
   refine wpAny_bind (wpAny_bind (wpAny_onRaise ?_))
   show wpAny _ _ (Builtin.SmallTypes.nextOf (.ref i1) >>= _) _ _ _
   refine wpAny_bind (D1.item JA (D1.at h1 λb hb o e=>k1 b o (by
    rcases List.mem_cons.mp hb with rfl | hb
    . exact Ne.symm eY
    . exact λq=>a1 b hb (by rw [q]; simp)) e) λx ig px tX gc=>wpAny_pure ?_)
   have k2:∀c o,c≠i1->eI.get? c=some o->ig.get? c=some o:=λc o n e=>gc.extBut _ _ n e
   have lM:IsPair ig TO a b:=k2 _ _ TOi1 (k1 _ _ (Ne.symm gb) eB)
   refine wpAny_bind (wpAny_seqItems lM rfl ?_)
   refine wpAny_bind (wpAny_updateSeq_pair lM λgk iU ib=>?_)
   replace iU:IsPair gk TO x b:=iU
   have k3:∀c o,c≠TO->ig.get? c=some o->gk.get? c=some o:=λc o n e=>ib.extBut _ _ n e
   refine wpAny_bind (wpAny_letGo (wpAny_pure ?_))
   refine wpAny_bind (wpAny_bind (wpAny_onRaise ?_))
   show wpAny _ _ (Builtin.SmallTypes.nextOf (.ref i2) >>= _) _ _ _
   refine wpAny_bind (D2.item JB (D2.at h2 λc hc o e=>k3 c o (by
    rcases List.mem_cons.mp hc with rfl | hc
    . exact Ne.symm TOi2
    . exact λq=>a2 c hc (by rw [q]; simp)) (k2 c o (by
    rcases List.mem_cons.mp hc with rfl | hc
    . exact Ne.symm i12
    . exact λq=>a2 c hc (by rw [q]; simp)) (k1 c o (by
    rcases List.mem_cons.mp hc with rfl | hc
    . exact Ne.symm ia
    . exact λq=>a2 c hc (by rw [q]; simp)) e))) λy pJ py ze qD=>wpAny_pure ?_)
   have k4:∀c o,c≠i2->gk.get? c=some o->pJ.get? c=some o:=λc o n e=>qD.extBut _ _ n e
   have lN:IsPair pJ TO x b:=k4 _ _ TOi2 iU
   refine wpAny_bind (wpAny_seqItems lN rfl ?_)
   refine wpAny_bind (wpAny_updateSeq_pair lN λcT gd qE=>?_)
   replace gd:IsPair cT TO x y:=gd
   have k5:∀c o,c≠TO->pJ.get? c=some o->cT.get? c=some o:=λc o n e=>qE.extBut _ _ n e
   refine wpAny_bind (wpAny_letGo (wpAny_pure (wpAny_pure ?_)))
   refine wpAny_bind (wpAny_seqItems gd rfl ?_)
   refine wpAny_bind (wpAny_newTuple ?_)
   have hsz:cT.objs.size=s.heap.objs.size:=by rw [qE.1,qD.1,ib.1,gc.1,dU.1]
   have qF:IsZip cT z TI TO .ellipsis:=k5 _ _ gb (k4 _ _ ia (k3 _ _ gb (k2 _ _ eY dk)))
   have lO:z<cT.objs.size:=Heap.lt_size qF
   show wpAny _ _ (Builtin.SmallTypes.ownedTupleHandOut (.ref z) (.ref cT.objs.size) >>= _) _ _ _
   refine wpAny_bind ?_
   unfold Builtin.SmallTypes.ownedTupleHandOut
   have zf:IsZip (cT.push { cls:=.type "tuple",data:=.seq #[x,y] }) z TI TO .ellipsis:=Heap.get?_push_of_some _ qF
   refine wpAny_bind (wpAny_setField_rec zf (by simp) λES lP qG=>?_)
   replace lP:IsZip ES z TI TO (rawInt cT.objs.size):=lP
   refine wpAny_setField_rec lP (by simp) λnV jc qH=>?_
   replace jc:IsZip nV z TI TO (rawInt cT.objs.size):=jc
   have up:∀c o,c≠z->cT.get? c=some o->nV.get? c=some o:=λc o c1 e=>qH.extBut _ _ c1 (qG.extBut _ _ c1 (Heap.get?_push_of_some _ e))
   have o4:IsPair nV cT.objs.size x y:=qH.extBut _ _ (Nat.ne_of_gt lO) (qG.extBut _ _ (Nat.ne_of_gt lO) (Heap.get?_push_size _ rfl))
   rw [hsz] at jc o4
   refine wpAny_pure ⟨.ref cT.objs.size,rfl,wpAny_pure ?_⟩
   rw [hsz]
   have Bv:∀c o,c∉[z,TI,TO,i1,i2]->s.heap.get? c=some o->nV.get? c=some o:=λc o hc e=>by
    simp only [List.mem_cons,List.not_mem_nil,or_false,not_or] at hc
    obtain ⟨c1,c2,c3,c4,c5⟩:=hc
    exact up c o c1 (k5 _ _ c3 (k4 _ _ c5 (k3 _ _ c3 (k2 _ _ c4 (k1 _ _ c1 e)))))
   have rh:s.heap.objs.size∉[z,TI,TO,i1,i2]:=λhm=>by
    obtain ⟨o1,e1⟩:=D1.there h1
    obtain ⟨o2,e2⟩:=D2.there h2
    have g1:=Heap.lt_size e1
    have g2:=Heap.lt_size e2
    have g3:=Heap.lt_size hz
    have g4:=Heap.lt_size cZ
    have g5:=Heap.lt_size eB
    simp only [List.mem_cons,List.not_mem_nil,or_false] at hm
    rcases hm with e | e | e | e | e
    . exact Nat.ne_of_gt g3 e
    . exact Nat.ne_of_gt g4 e
    . exact Nat.ne_of_gt g5 e
    . exact Nat.ne_of_gt g1 e
    . exact Nat.ne_of_gt g2 e
   refine hQ x y nV s.heap.objs.size px py ⟨up _ _ (Ne.symm nh) (k5 _ _ TITO (k4 _ _ TIi2 (k3 _ _ TITO (k2 _ _ TIi1 (k1 _ _ (Ne.symm nh) cZ))))),⟨_,_,up _ _ (Ne.symm gb) gd⟩,.inr ⟨_,_,false,rh,o4,jc⟩⟩ ?_ ?_ rh (Heap.get?_none_of_le (Nat.le_refl _)) o4 Bv
   . refine D1.at tX λc hc o e=>?_
     have q:c≠z/\c≠TO/\c≠i2:=by
      rcases List.mem_cons.mp hc with rfl | hc
      . exact ⟨Ne.symm eY,Ne.symm TOi1,i12⟩
      . exact ⟨λq=>a1 c hc (by rw [q]; simp),λq=>a1 c hc (by rw [q]; simp),λq=>a1 c hc (by rw [q]; simp)⟩
     exact up c o q.1 (k5 _ _ q.2.1 (k4 _ _ q.2.2 (k3 _ _ q.2.1 e)))
   . refine D2.at ze λc hc o e=>?_
     have q:c≠z/\c≠TO:=by
      rcases List.mem_cons.mp hc with rfl | hc
      . exact ⟨Ne.symm ia,Ne.symm TOi2⟩
      . exact ⟨λq=>a2 c hc (by rw [q]; simp),λq=>a2 c hc (by rw [q]; simp)⟩
     exact up c o q.1 (k5 _ _ q.2 e)
 . have hT:s.TypeIs (.ref z) "zip":=⟨_,hz,rfl⟩
   unfold pyNext
   refine wpAny_bind (wpAny_attempt (wpAny_callSpecial?_slot (name:=Str.ofString "__next__") hT F.slot_zip_next (wpAny_call_entry F.slot_zip_next hT F.entry_zip_next ?_ (F.args_zip_next_1 _))))
   show wpAny _ _ (field (.ref z) 2 >>= _) _ _ _
   refine wpAny_bind (wpAny_field hz rfl (x:=.bool false) rfl ?_)
   show wpAny _ _ (field (.ref z) 3 >>= _) _ _ _
   refine wpAny_bind (wpAny_field hz rfl (x:=.ref TI) rfl ?_)
   refine wpAny_bind (wpAny_seqItems cZ rfl ?_)
   show wpAny _ _ (Builtin.SmallTypes.ownedTupleIsFree (.ref z) >>= _) _ _ _
   refine wpAny_bind ?_
   unfold Builtin.SmallTypes.ownedTupleIsFree
   refine wpAny_bind (wpAny_field hz rfl (x:=rawInt al) rfl ?_)
   show wpAny _ _ (loadIfAlive ((al:Int)).toNat >>= _) _ _ _
   refine wpAny_bind (iz ?_)
   rw [Int.toNat_natCast,ng]
   show wpAny _ _ (field (.ref z) 1 >>= _) _ _ _
   refine wpAny_bind (wpAny_field hz rfl (x:=.bool b1) rfl ?_)
   refine wpAny_mono (Q:=λ(r:Bool) (s':Shared)=>r=false/\∃h',s' = { s with heap:=h' } /\ Heap.SameBut z s.heap h'/\h'.get? z=some { cls:=.type "zip",dict:=none,data:=.fields #[rawInt al,.bool true,.bool false,.ref TI,.ref TO],slots:=#[] }) ?_ ?_ (λ_ _ x=>x)
   . cases b1
     . show wpAny _ _ (setField (.ref z) 1 (.bool true) >>= _) _ _ _
       refine wpAny_bind (wpAny_setField_rec hz (by simp) λeI dk dU=>wpAny_pure ⟨rfl,eI,rfl,dU,dk⟩)
     . exact wpAny_pure ⟨rfl,s.heap,rfl,⟨rfl,λ_ _=>rfl⟩,hz⟩
   rintro r s' ⟨rfl,eI,rfl,dU,dk⟩
   have k1:∀c o,c≠z->s.heap.get? c=some o->eI.get? c=some o:=λc o n e=>dU.extBut _ _ n e
   show wpAny _ _ (forIn #[Value.ref i1,Value.ref i2] _ _ >>= _) _ _ _
   rw [← Array.forIn_toList]
   simp only [List.forIn_cons,List.forIn_nil]
   refine wpAny_bind (wpAny_bind (wpAny_bind (wpAny_holding ?_)))
   show wpAny _ _ (Builtin.SmallTypes.nextOf (.ref i1) >>= _) _ _ _
   have ne1:∀c∈i1::m1,c≠z/\c≠TO/\c≠i2:=λc hc=>by
    rcases List.mem_cons.mp hc with rfl | hc
    . exact ⟨Ne.symm eY,Ne.symm TOi1,i12⟩
    . exact ⟨λq=>a1 c hc (by rw [q]; simp),λq=>a1 c hc (by rw [q]; simp),λq=>a1 c hc (by rw [q]; simp)⟩
   have ne2:∀c∈i2::m2,c≠z/\c≠i1:=λc hc=>by
    rcases List.mem_cons.mp hc with rfl | hc
    . exact ⟨Ne.symm ia,Ne.symm i12⟩
    . exact ⟨λq=>a2 c hc (by rw [q]; simp),λq=>a2 c hc (by rw [q]; simp)⟩
   refine wpAny_bind (D1.item JA (D1.at h1 λc hc o e=>k1 c o (ne1 c hc).1 e) λx ig px tX gc=>wpAny_pure (wpAny_pure ?_))
   have k2:∀c o,c≠i1->eI.get? c=some o->ig.get? c=some o:=λc o n e=>gc.extBut _ _ n e
   refine wpAny_bind (wpAny_bind (wpAny_holding ?_))
   show wpAny _ _ (Builtin.SmallTypes.nextOf (.ref i2) >>= _) _ _ _
   refine wpAny_bind (D2.item JB (D2.at h2 λc hc o e=>k2 c o (ne2 c hc).2 (k1 c o (ne2 c hc).1 e)) λy gk py P4 ib=>wpAny_pure (wpAny_pure (wpAny_pure ?_)))
   have k3:∀c o,c≠i2->ig.get? c=some o->gk.get? c=some o:=λc o n e=>ib.extBut _ _ n e
   show wpAny _ _ (newTuple [x,y] >>= _) _ _ _
   refine wpAny_bind (wpAny_newTuple ?_)
   have hsz:gk.objs.size=s.heap.objs.size:=by rw [ib.1,gc.1,dU.1]
   have P5:=k3 _ _ ia (k2 _ _ eY dk)
   have up:∀c o,gk.get? c=some o->(gk.push { cls:=.type "tuple",data:=.seq #[x,y] }).get? c=some o:=λc o e=>Heap.get?_push_of_some _ e
   have rh:s.heap.objs.size∉[z,TI,TO,i1,i2]:=λhm=>by
    obtain ⟨o1,e1⟩:=D1.there h1
    obtain ⟨o2,e2⟩:=D2.there h2
    have g1:=Heap.lt_size e1
    have g2:=Heap.lt_size e2
    have g3:=Heap.lt_size hz
    have g4:=Heap.lt_size cZ
    have g5:=Heap.lt_size eB
    simp only [List.mem_cons,List.not_mem_nil,or_false] at hm
    rcases hm with e | e | e | e | e
    . exact Nat.ne_of_gt g3 e
    . exact Nat.ne_of_gt g4 e
    . exact Nat.ne_of_gt g5 e
    . exact Nat.ne_of_gt g1 e
    . exact Nat.ne_of_gt g2 e
   have JC:IsPair (gk.push { cls:=.type "tuple",data:=.seq #[x,y] }) gk.objs.size x y:=Heap.get?_push_size _ rfl
   have Bv:∀c o,c∉[z,TI,TO,i1,i2]->s.heap.get? c=some o->(gk.push { cls:=.type "tuple",data:=.seq #[x,y] }).get? c=some o:=λc o hc e=>by
    simp only [List.mem_cons,List.not_mem_nil,or_false,not_or] at hc
    obtain ⟨c1,c2,c3,c4,c5⟩:=hc
    exact up c o (k3 _ _ c5 (k2 _ _ c4 (k1 _ _ c1 e)))
   refine wpAny_pure ⟨.ref gk.objs.size,rfl,wpAny_pure ?_⟩
   rw [hsz] at JC ⊢
   refine hQ x y _ s.heap.objs.size px py ⟨up _ _ (k3 _ _ TIi2 (k2 _ _ TIi1 (k1 _ _ (Ne.symm nh) cZ))),⟨_,_,up _ _ (k3 _ _ TOi2 (k2 _ _ TOi1 (k1 _ _ (Ne.symm gb) eB)))⟩,.inr ⟨al,ol,true,kM,Bv _ _ kM ng,up _ _ P5⟩⟩ ?_ ?_ rh (Heap.get?_none_of_le (Nat.le_refl _)) JC Bv
   . exact D1.at tX λc hc o e=>up c o (k3 _ _ (ne1 c hc).2.2 e)
   . exact D2.at P4 λc hc o e=>up c o e
theorem CL {Q:Option Value->Shared->Prop}(hh:A.handled=none) (nd:[z,TI,TO,i1,i2].Nodup) (a1:∀b∈m1,b∉[z,TI,TO,i1,i2])
 (D1:eC prog w i1 m1 n1 P1 iY) (hz:ZS s.heap z TI TO i1 i2) (h1:iY n1 s.heap)
 (hQ:∀h',(∀c o,c∉[z,TI,TO,i1,i2]->s.heap.get? c=some o->h'.get? c=some o)->Q none { s with heap:=h' }):wpAny (model prog w) A (pyNext (.ref z)) Q E s:=by
 have qK:=nd
 simp only [List.nodup_cons,List.mem_cons,List.not_mem_nil,or_false,not_or] at qK
 obtain ⟨⟨nh,gb,eY,ia⟩,⟨TITO,TIi1,TIi2⟩,⟨TOi1,TOi2⟩,i12,_⟩:=qK
 obtain ⟨cZ,⟨a,b,eB⟩,hz⟩:=hz
 have ne1:∀c∈i1::m1,c≠z:=λc hc=>by
  rcases List.mem_cons.mp hc with rfl | hc
  . exact Ne.symm eY
  . exact λq=>a1 c hc (by rw [q]; simp)
 rcases hz with hz | ⟨al,ol,b1,kM,ng,hz⟩
 . have hT:s.TypeIs (.ref z) "zip":=⟨_,hz,rfl⟩
   unfold pyNext
   refine wpAny_bind (wpAny_attempt (wpAny_callSpecial?_slot (name:=Str.ofString "__next__") hT F.slot_zip_next (wpAny_call_entry F.slot_zip_next hT F.entry_zip_next ?_ (F.args_zip_next_1 _))))
   show wpAny _ _ (field (.ref z) 2 >>= _) _ _ _
   refine wpAny_bind (wpAny_field hz rfl (x:=.bool false) rfl ?_)
   show wpAny _ _ (field (.ref z) 3 >>= _) _ _ _
   refine wpAny_bind (wpAny_field hz rfl (x:=.ref TI) rfl ?_)
   refine wpAny_bind (wpAny_seqItems cZ rfl ?_)
   show wpAny _ _ (Builtin.SmallTypes.ownedTupleIsFree (.ref z) >>= _) _ _ _
   refine wpAny_bind ?_
   unfold Builtin.SmallTypes.ownedTupleIsFree
   refine wpAny_bind (wpAny_field hz rfl (x:=.none) rfl (wpAny_pure ?_))
   simp only [if_true]
   refine wpAny_bind (wpAny_rule ?_)
   refine wpAny_bind (wpAny_field hz rfl (x:=.ref TO) rfl ?_)
   refine wpAny_bind (wpAny_setField_rec hz (by simp) λeI dk dU=>?_)
   replace dk:IsZip eI z TI TO .ellipsis:=dk
   refine wpAny_bind ?_
   simp only [List.zipIdx_cons,List.zipIdx_nil,List.forIn_cons,List.forIn_nil]
   refine wpAny_bind (wpAny_bind (wpAny_onRaise ?_))
   show wpAny _ _ (Builtin.SmallTypes.nextOf (.ref i1) >>= _) _ _ _
   refine wpAny_bind (D1.fin (by first | exact hh | rfl) (D1.at h1 λc hc o e=>dU.extBut _ o (ne1 c hc) e) λig e gc he=>?_)
   obtain ⟨oe,o6,tY⟩:=he
   have zg:IsZip ig z TI TO .ellipsis:=gc _ _ eY dk
   have ET:e≠z:=λx=>by subst x; rw [zg] at o6; cases o6; simp at tY
   refine wpAny_setField_rec zg (by simp) λgk _ ib=>?_
   refine wpAny_bind (wpAny_isInstance (T:="StopIteration") (b:=true) ⟨oe,ib.extBut _ _ ET o6,tY⟩ isSubtype_stop ?_)
   refine wpAny_pure (hQ _ λc o hc x=>?_)
   simp only [List.mem_cons,List.not_mem_nil,or_false,not_or] at hc
   exact ib.extBut _ _ hc.1 (gc _ _ hc.2.2.2.1 (dU.extBut _ _ hc.1 x))
 . have hT:s.TypeIs (.ref z) "zip":=⟨_,hz,rfl⟩
   unfold pyNext
   refine wpAny_bind (wpAny_attempt (wpAny_callSpecial?_slot (name:=Str.ofString "__next__") hT F.slot_zip_next (wpAny_call_entry F.slot_zip_next hT F.entry_zip_next ?_ (F.args_zip_next_1 _))))
   show wpAny _ _ (field (.ref z) 2 >>= _) _ _ _
   refine wpAny_bind (wpAny_field hz rfl (x:=.bool false) rfl ?_)
   show wpAny _ _ (field (.ref z) 3 >>= _) _ _ _
   refine wpAny_bind (wpAny_field hz rfl (x:=.ref TI) rfl ?_)
   refine wpAny_bind (wpAny_seqItems cZ rfl ?_)
   show wpAny _ _ (Builtin.SmallTypes.ownedTupleIsFree (.ref z) >>= _) _ _ _
   refine wpAny_bind ?_
   unfold Builtin.SmallTypes.ownedTupleIsFree
   refine wpAny_bind (wpAny_field hz rfl (x:=rawInt al) rfl ?_)
   show wpAny _ _ (loadIfAlive ((al:Int)).toNat >>= _) _ _ _
   refine wpAny_bind (iz ?_)
   rw [Int.toNat_natCast,ng]
   show wpAny _ _ (field (.ref z) 1 >>= _) _ _ _
   refine wpAny_bind (wpAny_field hz rfl (x:=.bool b1) rfl ?_)
   refine wpAny_mono (Q:=λ(r:Bool) (s':Shared)=>r=false/\∃h',s' = { s with heap:=h' } /\ Heap.SameBut z s.heap h'/\h'.get? z=some { cls:=.type "zip",dict:=none,data:=.fields #[rawInt al,.bool true,.bool false,.ref TI,.ref TO],slots:=#[] }) ?_ ?_ (λ_ _ x=>x)
   . cases b1
     . show wpAny _ _ (setField (.ref z) 1 (.bool true) >>= _) _ _ _
       refine wpAny_bind (wpAny_setField_rec hz (by simp) λeI dk dU=>wpAny_pure ⟨rfl,eI,rfl,dU,dk⟩)
     . exact wpAny_pure ⟨rfl,s.heap,rfl,⟨rfl,λ_ _=>rfl⟩,hz⟩
   rintro r s' ⟨rfl,eI,rfl,dU,dk⟩
   show wpAny _ _ (forIn #[Value.ref i1,Value.ref i2] _ _ >>= _) _ _ _
   rw [← Array.forIn_toList]
   simp only [List.forIn_cons,List.forIn_nil]
   refine wpAny_bind (wpAny_bind (wpAny_bind (wpAny_holding ?_)))
   show wpAny _ _ (Builtin.SmallTypes.nextOf (.ref i1) >>= _) _ _ _
   refine wpAny_bind (D1.fin (by first | exact hh | rfl) (D1.at h1 λc hc o e=>dU.extBut _ o (ne1 c hc) e) λig e gc he=>?_)
   obtain ⟨oe,o6,tY⟩:=he
   refine wpAny_bind (wpAny_isInstance (T:="StopIteration") (b:=true) ⟨oe,o6,tY⟩ isSubtype_stop ?_)
   refine wpAny_pure (hQ _ λc o hc x=>?_)
   simp only [List.mem_cons,List.not_mem_nil,or_false,not_or] at hc
   exact gc _ _ hc.2.2.2.1 (dU.extBut _ _ hc.1 x)
end
end PySem
namespace PySem
open PySem.Spec PyProof.Rows
section
variable {prog:Program}{w:World}{K:Type}[DecidableEq K] {knd:KeyKind prog w K}{A:Around}{E:Value->Shared->Prop}{s:Shared}
theorem uV {it d:Addr}{i ep:Nat}{kvs:List (K×Value)}{k:K}{v:Value}{Q:Value->Shared->Prop}(hit:s.heap.IsKeyIter it d i kvs.length ep)
 (hm:s.heap.DictAt knd d kvs ep) (hx:kvs[i]?=some (k,v))
 (hQ:∀key h',knd.is k key=true->h'.IsKeyIter it d (i+1) kvs.length ep->Heap.SameBut it s.heap h'->Q key { s with heap:=h' }) :
 wpAny (model prog w) A (Builtin.SmallTypes.nextOf (.ref it)) Q E s:=by
 obtain ⟨o,ho,hc,hd⟩:=id hit
 obtain ⟨od,es,qM,ju,oZ,hk,hp,hn⟩:=id hm
 unfold Builtin.SmallTypes.nextOf
 refine wpAny_bind (wpAny_callSpecial?_slot (name:=Str.ofString "__next__") hit.typeIs F.slot_dict_keyiterator_next
  (wpAny_call_entry F.slot_dict_keyiterator_next hit.typeIs F.entry_dict_keyiterator_next ?_ (F.args_dict_keyiterator_next_1 _)))
 refine wpAny_bind (wpAny_pure ?_)
 refine wpAny_bind ?_
 refine wpAny_bind ?_
 first | refine wpAny_bind (wpAny_typeNameOfWhole_keyiter hit.typeIs (wpAny_pure ?_)) | refine wpAny_bind (wpAny_typeNameOf_keyiter hit.typeIs (wpAny_pure ?_))
 refine wpAny_bind (wpAny_fieldsOf ho hd ?_)
 have Aq:Builtin.Dict_items.ownsTuple "dict_keyiterator" = false:=by decide
 simp only [Aq,Bool.false_eq_true,if_false]
 show wpAny _ _ (if (Value.ref d == Value.none)=true then _ else _) _ _ s
 rw [if_neg (show ¬ ((Value.ref d == Value.none)=true) from Bool.false_ne_true)]
 refine wpAny_bind (wpAny_pure ?_)
 refine wpAny_bind (wpAny_dictEntries qM oZ ?_)
 have hsz:es.size=kvs.length:=by rw [← hp.length]; simp
 rw [if_neg (by rw [hsz]; simp)]
 refine wpAny_bind (wpAny_pure ?_)
 refine wpAny_bind (wpAny_dictEpoch qM oZ ?_)
 rw [if_neg (by simp)]
 refine wpAny_pure ?_
 have eG:i<kvs.length:=by
  rcases Nat.lt_or_ge i kvs.length with h | h
  . exact h
  . simp [List.getElem?_eq_none h] at hx
 have E4:i<es.size:=by rw [hsz]; exact eG
 have cU:knd.is k es[i].key=true:=(hp.get? (e:=es[i]) (by simp [E4]) hx).1
 simp only [show ¬ ((i:Int)<0) from by omega,if_false,Int.toNat_natCast,Array.getElem?_eq_getElem E4]
 refine wpAny_bind ?_
 first | refine wpAny_bind (wpAny_typeNameOfWhole_keyiter hit.typeIs (wpAny_pure ?_)) | refine wpAny_bind (wpAny_typeNameOf_keyiter hit.typeIs (wpAny_pure ?_))
 refine wpAny_bind (wpAny_isOneOf_keyiter hit.typeIs ?_)
 show wpAny _ _ (setField (.ref it) 1 (rawInt ((i:Int)+1)) >>= _) _ _ s
 refine wpAny_bind (wpAny_setField ho hd (by simp) ?_)
 have wN:(s.heap.update it (Obj.mapFields (·.setIfInBounds 1 (rawInt ((i:Int)+1))))).IsKeyIter it d (i+1) kvs.length ep:=
  ⟨_,Heap.get?_update_self _ ho (Obj.isFreed_of_fields (Obj.data_mapFields hd _)),(Obj.cls_mapFields ..).trans hc,by rw [Obj.data_mapFields hd]; simp [rawInt]⟩
 refine wpAny_bind (wpAny_holding ?_)
 refine wpAny_bind (wpAny_isOneOf_keyiter (s:={ s with heap:=s.heap.update it (Obj.mapFields (·.setIfInBounds 1 (rawInt ((i:Int)+1)))) }) wN.typeIs ?_)
 show wpAny _ _ (pure es[i].key) _ _ _
 exact wpAny_pure (wpAny_pure ⟨_,rfl,wpAny_pure (hQ _ _ cU wN (Heap.SameBut.update ..))⟩)
theorem xm {it d:Addr}{i ep:Nat}{kvs:List (K×Value)}{Q:Value->Shared->Prop}(hh:A.handled=none) (hit:s.heap.IsKeyIter it d i kvs.length ep)
 (hm:s.heap.DictAt knd d kvs ep) (hx:kvs[i]?=none)
 (hE:∀h' e,Heap.ExtBut it s.heap h'->(∃o,h'.get? e=some o/\o.cls=.type "StopIteration")->E (.ref e) { s with heap:=h' }):wpAny (model prog w) A (Builtin.SmallTypes.nextOf (.ref it)) Q E s:=by
 obtain ⟨o,ho,hc,hd⟩:=id hit
 obtain ⟨od,es,qM,ju,oZ,hk,hp,hn⟩:=id hm
 unfold Builtin.SmallTypes.nextOf
 refine wpAny_bind (wpAny_callSpecial?_slot (name:=Str.ofString "__next__") hit.typeIs F.slot_dict_keyiterator_next
  (wpAny_call_entry F.slot_dict_keyiterator_next hit.typeIs F.entry_dict_keyiterator_next ?_ (F.args_dict_keyiterator_next_1 _)))
 refine wpAny_bind (wpAny_pure ?_)
 refine wpAny_bind ?_
 refine wpAny_bind ?_
 first | refine wpAny_bind (wpAny_typeNameOfWhole_keyiter hit.typeIs (wpAny_pure ?_)) | refine wpAny_bind (wpAny_typeNameOf_keyiter hit.typeIs (wpAny_pure ?_))
 refine wpAny_bind (wpAny_fieldsOf ho hd ?_)
 have Aq:Builtin.Dict_items.ownsTuple "dict_keyiterator" = false:=by decide
 simp only [Aq,Bool.false_eq_true,if_false]
 show wpAny _ _ (if (Value.ref d == Value.none)=true then _ else _) _ _ s
 rw [if_neg (show ¬ ((Value.ref d == Value.none)=true) from Bool.false_ne_true)]
 refine wpAny_bind (wpAny_pure ?_)
 refine wpAny_bind (wpAny_dictEntries qM oZ ?_)
 have hsz:es.size=kvs.length:=by rw [← hp.length]; simp
 rw [if_neg (by rw [hsz]; simp)]
 refine wpAny_bind (wpAny_pure ?_)
 refine wpAny_bind (wpAny_dictEpoch qM oZ ?_)
 rw [if_neg (by simp)]
 refine wpAny_pure ?_
 have A9:es.size<=i:=by rw [hsz]; simpa using hx
 simp only [show ¬ ((i:Int)<0) from by omega,if_false,Int.toNat_natCast,Array.getElem?_eq_none A9]
 refine wpAny_bind ?_
 first | refine wpAny_bind (wpAny_typeNameOfWhole_keyiter hit.typeIs (wpAny_pure ?_)) | refine wpAny_bind (wpAny_typeNameOf_keyiter hit.typeIs (wpAny_pure ?_))
 show wpAny _ _ (setField (.ref it) 0 .none >>= _) _ _ s
 refine wpAny_bind (wpAny_setField ho hd (by simp) ?_)
 show wpAny _ _ (newExc (.type "StopIteration") [] >>= _) _ _ _
 refine wpAny_bind ?_
 simp only [newExc,newTuple]
 refine wpAny_bind (wpAny_newObj_type ?_ (by size_fits))
 refine wpAny_bind (m:=firstArgMember _ _) (wpAny_of_eq (a:=Value.none) (by first | rfl | (simp only [firstArgMember]; rfl)) ?_)
 refine wpAny_newObj_type ?_ (by size_fits)
 simp only [raiseNew]
 refine wpAny_bind (wpAny_handled ?_)
 first | rw [show A.in1.handled=none from hh] | rw [hh]
 refine wpAny_bind (wpAny_pure (wpAny_throw ?_))
 exact hE _ _ (((Heap.SameBut.update ..).extBut.push _).push _) ⟨_,Heap.get?_push_size _ rfl,rfl⟩
theorem xo {it d:Addr}{kvs:List (K×Value)}{ep:Nat}(gg:d≠it):eC prog w it [d] kvs.length (λi x=>∃kv,kvs[i]?=some kv/\knd.is kv.1 x=true) (λi h=>h.IsKeyIter it d i kvs.length ep/\h.DictAt knd d kvs ep) where
 «at»:=λst k=>⟨st.1.at λo e=>k it (by simp) o e,st.2.at' λo e=>k d (by simp) o e⟩
 there:=λst=>let ⟨o,e,_⟩:=st.1; ⟨o,e⟩
 item:=λ{A E s i Q} hi st h=>uV st.1 st.2 (k:=kvs[i].1) (v:=kvs[i].2) (List.getElem?_eq_getElem hi) λkey h' hk i' sb=>h key h' ⟨_,List.getElem?_eq_getElem hi,hk⟩ ⟨i',st.2.extBut sb.extBut gg⟩ sb
 fin:=λ{A E s Q} hh st h=>xm hh st.1 st.2 (List.getElem?_eq_none (Nat.le_refl _)) h
end
theorem pe:typeLookup (.type "zip") "__getattr__" = pure none:=by rw [typeLookup_type,builtinLookup_eq_fast]; kernel_rfl
theorem uk:typeLookup (.type "zip") "keys" = pure none:=by rw [typeLookup_type,builtinLookup_eq_fast]; kernel_rfl
namespace F
theorem uW:entryFor table "zip.__getattribute__" = some Builtin.«object.__getattribute__»:=entryFor_alias (id':="object.__getattribute__") (by kernel_rfl) (by first | rfl | decide +kernel) (by decide +kernel) (by kernel_rfl)
end F
theorem kg {A:Around}{prog:Program}{w:World}{Q:Fin->Shared->Prop}{E:Value->Shared->Prop}{h:Heap}{g d t os} {a:Addr}{fs:Array Value}(u:Tok) (hx:h.get? a=some { cls:=.type "zip",dict:=none,data:=.fields fs,slots:=#[] }) (hh:A.handled=none)
 (hE:∀h' tk e,Heap.NewAttrErr h h' e (.ref a) "keys" -> E (.ref e) ⟨h',g,d,tk,os⟩) :
 wpAny (model prog w) A (Builtin.«object.__getattribute__» ⟨[.ref a,.str "keys" u],[]⟩) Q E ⟨h,g,d,t,os⟩:=by
 have hT:∀t',(⟨h,g,d,t',os⟩:Shared).TypeIs (.ref a) "zip":=λt'=>⟨_,hx,rfl⟩
 have Pg:=hT t
 have Hb:=uk
 have hc:[Str.ofString "__module__",Str.ofString "__name__",Str.ofString "__qualname__",Str.ofString "__doc__",Str.ofString "__annotations__"].contains (Str.ofString "keys")=false:=by decide +kernel
 unfold Builtin.«object.__getattribute__»
 repeat (any_goals (first | assumption | wp_step | refine wpAny_ite_false hc ?_))
 all_goals first
  | exact wpAny_raiseAttrError hh hE (attrMsg_fits (by decide +kernel) (by decide))
  | skip
theorem um {A:Around}{prog:Program}{w:World}{R:Result->Shared->Prop}{h:Heap}{g d t os} {a:Addr}{fs:Array Value}{u:Tok}(hx:h.get? a=some { cls:=.type "zip",dict:=none,data:=.fields fs,slots:=#[] }) (hh:A.handled=none)
 (hE:∀h' tk e,Heap.NewAttrErr h h' e (.ref a) "keys" -> R (.error (.ref e)) ⟨h',g,d,tk,os⟩) :
 codeAny (model prog w) A (.call (.builtin "zip.__getattribute__") ⟨[.ref a,.str "keys" u],[]⟩) R ⟨h,g,d,t,os⟩:=
 codeAny_call_builtin F.slot_zip_getattribute.plain F.uW (F.slot_zip_getattribute.check _ _ _ _ _ _ _ _ (show (⟨h,g,d,t,os⟩:Shared).TypeIs (.ref a) "zip" from ⟨_,hx,rfl⟩) (F.args_zip_getattribute_2 _ _) (kg u hx hh hE))
theorem uo {A:Around}{prog:Program}{w:World}{E:Value->Shared->Prop}{h:Heap}{g d t os} {a:Addr}{fs:Array Value}{Q:Option Value->Shared->Prop}(hx:h.get? a=some { cls:=.type "zip",dict:=none,data:=.fields fs,slots:=#[] }) (hh:A.handled=none)
 (hQ:∀h' tk,(∀b o,h.get? b=some o->h'.get? b=some o)->Q none ⟨h',g,d,tk,os⟩):wpAny (model prog w) A (getAttr? (.ref a) "keys") Q E ⟨h,g,d,t,os⟩:=by
 have hT:(⟨h,g,d,t,os⟩:Shared).TypeIs (.ref a) "zip":=⟨_,hx,rfl⟩
 have f1:=sub_AttributeError
 have f2:=F.slot_zip_getattribute.lookup
 have f3:=F.slot_zip_getattribute.bind (.ref a)
 have f5:=pe
 unfold getAttr? getAttrBy? getAttrBy
 repeat (any_goals (first | assumption | ((with_reducible show codeAny _ _ (Code.call (Value.builtin "zip.__getattribute__") _) _ _); refine um hx hh ?_; intro h' lJ e sW; obtain ⟨t1,u1,he⟩:=sW.there) | wp_step))
 exact hQ h' lJ sW.keeps
end PySem
namespace PySem
open PySem.Spec PyProof.Rows
section
variable {prog:Program}{w:World}{K:Type}[DecidableEq K] {knd:KeyKind prog w K}{A:Around}{R:Result->Shared->Prop}{z TI TO i1 i2:Addr}{m1 m2:List Addr}{n1 n2:Nat}{P1 P2:Nat->Value->Prop}{iY i6:Nat->Heap->Prop}
theorem pU {d:Addr}{kvs:List (K×Value)}(nd:[z,TI,TO,i1,i2].Nodup) (a1:∀b∈m1,b∉[z,TI,TO,i1,i2]) (a2:∀b∈m2,b∉[z,TI,TO,i1,i2]) (E5:d∉[z,TI,TO,i1,i2]) (Et:d∉m1) (hd2:d∉m2)
 (D1:eC prog w i1 m1 n1 P1 iY) (D2:eC prog w i2 m2 n2 P2 i6) (Bp:kvs.length=n1) (iJ:n1<=n2) (hP:∀(i:Nat) (x y:Value) (kv:K×Value),kvs[i]?=some kv->P1 i x->P2 i y->knd.is kv.1 x=true/\y=kv.2) (hz:kvs.length<=sizeLine) (hh:A.handled=none) :
 ∀(k i:Nat) (s:Shared) (tk:Tok) (acc:List (K×Value)),kvs.length-i=k->i<=kvs.length->ZS s.heap z TI TO i1 i2->iY i s.heap->i6 i s.heap->s.heap.DictOf knd d acc->acc.length<=i->
 (∀h' tk,h'.DictOf knd d ((kvs.drop i).foldl (λa kv=>stored a kv.1 kv.2) acc)->(∀b o,b≠d->b∉[z,TI,TO,i1,i2]->s.heap.get? b=some o->h'.get? b=some o)->R (.ok (.ret .none)) { s with heap:=h',toks:=tk })->
 codeAny (model prog w) A (.builtin "dict.update.loop" ⟨[.ref d,.ref z,.int (i:Int) tk,.none],[]⟩) R s:=by
 intro k
 induction k with
 | zero=>
  intro i s tk acc hk hi E6 h1 h2 hd Ak hR
  have kI:i=n1:=by omega
  subst kI
  refine codeAny_builtin F.cQ ?_
  rw [Around.under_plainId F.bf _]
  show wpAny _ A.in1 (pyNext (.ref z) >>= _) _ _ s
  refine wpAny_bind (CL (A:=A.in1) hh nd a1 D1 E6 h1 λh' he=>?_)
  refine wpAny_bind (wpAny_pure (wpAny_pure ?_))
  have hd':h'.DictOf knd d acc:=let ⟨o,es,ep,ho,r⟩:=hd; ⟨o,es,ep,he d o E5 ho,r⟩
  refine hR h' s.toks ?_ λb o _ hb e=>he b o hb e
  rw [List.drop_of_length_le (by omega)]
  exact hd'
 | succ k ih=>
  intro i s tk acc hk hi E6 h1 h2 hd Ak hR
  have eG:i<kvs.length:=by omega
  have bF:kvs[i]?=some kvs[i]:=List.getElem?_eq_getElem eG
  refine codeAny_builtin F.cQ ?_
  rw [Around.under_plainId F.bf _]
  show wpAny _ A.in1 (pyNext (.ref z) >>= _) _ _ s
  refine wpAny_bind (CK nd a1 a2 D1 D2 E6 h1 h2 (by omega) (by omega) λx y E7 T px py LF Bw Em vn JD Bx By=>?_)
  obtain ⟨cU,rfl⟩:=hP i x y _ bF px py
  obtain ⟨od,P6,P9,qM,rd⟩:=id hd
  have Sk:T≠d:=λe=>by rw [e,qM] at JD; cases JD
  refine wpAny_bind (wpAny_holding (wpAny_bind ?_))
  refine wpAny_tryCatch ?_
  unfold Builtin.Dict.pairItems
  refine wpAny_bind (wpAny_typeOf (show ({ s with heap:=E7 } : Shared).TypeIs (.ref T) "tuple" from ⟨_,Bx,rfl⟩) ?_)
  rw [if_pos (by decide)]
  refine wpAny_bind (wpAny_seqItems Bx rfl (wpAny_pure ?_))
  show wpAny _ A.in1 (holding [x,(kvs[i]).2] (dictSet d x (kvs[i]).2)) _ _ _
  refine wpAny_holding ?_
  unfold dictSet
  try with_reducible refine wpAny_holding ?_
  have oZ:E7.DictOf knd d acc:=⟨od,P6,P9,By d od E5 qM,rd⟩
  refine wpAny_bind (knd.pyHash cU ?_)
  refine wpAny_dictSetHashed_pairs cU oZ (λpb E8 ir=>?_) (by omega)
  refine wpAny_pure ⟨plainId_quiet F.bf _,?_⟩
  have er:rawInt ((i:Int)+1)=Value.int (((i+1:Nat):Nat):Int) 0:=by simp [rawInt]
  rw [er]
  have k2:∀b o,b≠d->E7.get? b=some o->pb.get? b=some o:=λb o b1 e=>(ir.2 b b1).trans e
  have n5:∀b∈[z,TI,TO,i1,i2],b≠d:=λb hb e=>E5 (e ▸ hb)
  refine ih (i+1) _ 0 (stored acc (kvs[i]).1 (kvs[i]).2) (by omega) (by omega) ?_ ?_ ?_ E8 ?_ ?_
  . obtain ⟨q1,⟨Sl,Sm,q2⟩,q3⟩:=LF
    refine ⟨k2 _ _ (n5 TI (by simp)) q1,⟨_,_,k2 _ _ (n5 TO (by simp)) q2⟩,?_⟩
    rcases q3 with q3 | ⟨al,ol,b1,kM,ng,q3⟩
    . exact .inl (k2 _ _ (n5 z (by simp)) q3)
    . by_cases e:al=d
      . subst e
        obtain ⟨o',AA,AB,nY,_⟩:=E8
        exact .inr ⟨al,o',b1,kM,nY,k2 _ _ (n5 z (by simp)) q3⟩
      . exact .inr ⟨al,ol,b1,kM,k2 _ _ e ng,k2 _ _ (n5 z (by simp)) q3⟩
  . exact D1.at Bw λb hb o e=>k2 b o (by
     rcases List.mem_cons.mp hb with rfl | hb
     . exact n5 _ (by simp)
     . exact λq=>Et (q ▸ hb)) e
  . exact D2.at Em λb hb o e=>k2 b o (by
     rcases List.mem_cons.mp hb with rfl | hb
     . exact n5 _ (by simp)
     . exact λq=>hd2 (q ▸ hb)) e
  . have:=stored_length_le acc (kvs[i]).1 (kvs[i]).2
    omega
  . intro h' lJ hd' fq
    refine hR h' lJ ?_ λb o b1 b2 e=>fq b o b1 b2 (k2 b o b1 (By b o b2 e))
    rw [List.drop_eq_getElem_cons (by omega),List.foldl_cons]
    exact hd'
end
section
variable {prog:Program}{w:World}{K:Type}[DecidableEq K] {knd:KeyKind prog w K}{A:Around}{E:Value->Shared->Prop}{s:Shared}{z TI TO i1 i2:Addr}{m1 m2:List Addr}{n1 n2:Nat}{P1 P2:Nat->Value->Prop}{iY i6:Nat->Heap->Prop}
theorem ur {kvs:List (K×Value)}{Q:Value->Shared->Prop}(hh:A.handled=none) (nd:[z,TI,TO,i1,i2].Nodup) (a1:∀b∈m1,b∉[z,TI,TO,i1,i2]) (a2:∀b∈m2,b∉[z,TI,TO,i1,i2]) (l1:∀b∈m1,b<s.heap.objs.size) (l2:∀b∈m2,b<s.heap.objs.size)
 (D1:eC prog w i1 m1 n1 P1 iY) (D2:eC prog w i2 m2 n2 P2 i6) (Bp:kvs.length=n1) (iJ:n1<=n2) (hP:∀(i:Nat) (x y:Value) (kv:K×Value),kvs[i]?=some kv->P1 i x->P2 i y->knd.is kv.1 x=true/\y=kv.2) (A8:kvs.length<=sizeLine)
 (hz:IsZip s.heap z TI TO .none) (cZ:IsPair s.heap TI (.ref i1) (.ref i2)) (eB:∃a b,IsPair s.heap TO a b) (h1:iY 0 s.heap) (h2:i6 0 s.heap)
 (h:∀h' tk,h'.DictOf knd s.heap.objs.size (merged [] kvs)->(∀b o,b∉[z,TI,TO,i1,i2]->s.heap.get? b=some o->h'.get? b=some o)->Q (.ref s.heap.objs.size) { s with heap:=h',toks:=tk }) :
 wpAny (model prog w) A (call (.type "dict") [.ref z]) Q E s:=by
 refine callType_codes (Q₁:=λobj cz=>obj=.ref s.heap.objs.size/\cz = { s with heap:=s.heap.push { cls:=.type "dict",data:=.dict #[] } }) F.kt_called_dict (F.kt_typeCall_dict_1 _) F.entry_dict_init (kt_code_dict_new _ ⟨rfl,rfl⟩) ?_
 rintro obj cz ⟨rfl,rfl⟩
 have d5:(s.heap.push { cls:=.type "dict",data:=.dict #[] }).DictOf knd s.heap.objs.size []:=Heap.DictOf.new s.heap
 have rY:IsZip (s.heap.push { cls:=.type "dict",data:=.dict #[] }) z TI TO .none:=Heap.get?_push_of_some _ hz
 refine ⟨d5.typeIs,F.args_dict_init_2 _ _,?_⟩
 unfold Builtin.«dict.__init__»
 refine wpAny_bind ?_
 unfold Builtin.Dict.selfAndRest
 refine wpAny_bind (wpAny_notOrdered_dict d5.typeIs ?_)
 show wpAny _ _ (pure (s.heap.objs.size,[Value.ref z])) _ _ _
 refine wpAny_pure ?_
 show wpAny _ _ (Builtin.Dict.updateFrom "dict.__init__" s.heap.objs.size (.ref z) [] .none) _ _ _
 unfold Builtin.Dict.updateFrom
 refine wpAny_bind (wpAny_typeOf (show ({ s with heap:=s.heap.push { cls:=.type "dict",data:=.dict #[] } } : Shared).TypeIs (.ref z) "zip" from ⟨_,rY,rfl⟩) ?_)
 rw [if_pos (by decide)]
 have Qa:s.heap.objs.size∉[z,TI,TO,i1,i2]:=λhm=>by
  obtain ⟨o1,e1⟩:=D1.there h1
  obtain ⟨o2,e2⟩:=D2.there h2
  obtain ⟨ta,tb,eB⟩:=eB
  simp only [List.mem_cons,List.not_mem_nil,or_false] at hm
  rcases hm with e | e | e | e | e
  . exact Nat.ne_of_gt (Heap.lt_size hz) e
  . exact Nat.ne_of_gt (Heap.lt_size cZ) e
  . exact Nat.ne_of_gt (Heap.lt_size eB) e
  . exact Nat.ne_of_gt (Heap.lt_size e1) e
  . exact Nat.ne_of_gt (Heap.lt_size e2) e
 generalize tI:({ s with heap:=s.heap.push { cls:=.type "dict",data:=.dict #[] } } : Shared)=s1 at *
 obtain ⟨g1,g2,g3,g4,g5⟩:=s1
 cases tI
 refine wpAny_bind (uo rY (by first | exact hh | rfl) λpb Ew k2=>?_)
 rw [if_pos (show (none:Option Value).isNone=true from rfl)]
 have up:∀b o,s.heap.get? b=some o->pb.get? b=some o:=λb o e=>k2 _ _ (Heap.get?_push_of_some _ e)
 refine wpAny_bind (wpAny_rule (wpAny_bind (wpAny_pyIter_zip (s:={ heap:=pb,gens:=s.gens,drawn:=s.drawn,toks:=Ew,os:=s.os }) (up _ _ hz) ?_)))
 refine wpAny_pure ⟨plainId_quiet F.bf _,?_⟩
 have hd2:pb.DictOf knd s.heap.objs.size []:=let ⟨o,es,ep,ho,r⟩:=d5; ⟨o,es,ep,k2 _ _ ho,r⟩
 refine pU (knd:=knd) (d:=s.heap.objs.size) (kvs:=kvs) nd a1 a2 Qa (λq=>Nat.lt_irrefl _ (l1 _ q)) (λq=>Nat.lt_irrefl _ (l2 _ q)) D1 D2 Bp iJ hP A8 (by first | exact hh | rfl) kvs.length 0 _ 0 [] rfl (Nat.zero_le _) ?_ ?_ ?_ hd2 (Nat.le_refl _) ?_
 . obtain ⟨ta,tb,eB⟩:=eB
   exact ⟨up _ _ cZ,⟨_,_,up _ _ eB⟩,.inl (up _ _ hz)⟩
 . exact D1.at h1 λb _ o e=>up b o e
 . exact D2.at h2 λb _ o e=>up b o e
 . intro h' lJ hd' fq
   refine ⟨rfl,h h' lJ ?_ λb o hb e=>?_⟩
   . simpa [merged] using hd'
   . exact fq b o (Nat.ne_of_lt (Heap.lt_size e)) hb (up b o e)
end
end PySem
namespace PySem
open PySem.Spec PyProof.Rows
abbrev kh (h:Heap) (o:Obj):Heap:=h.push o
abbrev xp (h:Heap) (o:Obj) (l2:Addr):Heap:=(kh h o).push { cls:=.type "tuple_iterator",data:=.fields #[.ref l2,.int 0 0] }
abbrev xq (h:Heap) (o:Obj) (l2:Addr):Heap:=(xp h o l2).push { cls:=.type "tuple",data:=.seq #[.ref h.objs.size,.ref (kh h o).objs.size] }
abbrev pV (h:Heap) (o:Obj) (l2:Addr):Heap:=(xq h o l2).push { cls:=.type "tuple",data:=.seq #[.none,.none] }
abbrev dF (h:Heap) (o:Obj) (l2:Addr):Heap:=(pV h o l2).push { cls:=.type "zip",data:=.fields #[.none,.bool false,.bool false,.ref (xp h o l2).objs.size,.ref (xq h o l2).objs.size] }
abbrev gF (l:Addr):Obj:={ cls:=.type "list_iterator",data:=.fields #[.ref l,.int 0 0] }
abbrev mq (d n ep:Nat):Obj:={ cls:=.type "dict_keyiterator",data:=.fields #[.ref d,.int 0 0,.int n 0,.int ep 0] }
theorem pf (l1 l2:Addr) (xs ys:Array Value) :
 Meets (Builtin.«zip.__new__» ⟨[.type "zip",.ref l1,.ref l2],[]⟩) (λ_ R s=>s.heap.IsList l1 xs/\s.heap.IsTuple l2 ys/\R (.ok (.ret (.ref (pV s.heap (gF l1) l2).objs.size))) { s with heap:=dF s.heap (gF l1) l2 }):=
 .of_wp λprog w A R s h=>by
  obtain ⟨hp,g,d,tk,os⟩:=s; obtain ⟨jJ,eU,h⟩:=h
  have LG:=sub_zip
  have Qb:Heap.IsList (Shared.heap ⟨hp,g,d,tk,os⟩) l1 xs:=jJ
  have E9:Heap.IsTuple (Shared.heap ⟨hp.push { cls:=.type "list_iterator",data:=.fields #[.ref l1,.int 0 0] },g,d,tk,os⟩) l2 ys:=Heap.IsTuple.push eU _
  wp_walk using wpAny_pyIter_list Qb,wpAny_pyIter_tuple E9
  exact ⟨_,rfl,h⟩
theorem xr {prog:Program}{w:World}{K:Type}[DecidableEq K] (knd:KeyKind prog w K) (l1 l2:Addr) (kvs:List (K×Value)) (ep:Nat) (ys:Array Value) (hs:(l1 == sysModules)=false) :
 MeetsIn prog w (Builtin.«zip.__new__» ⟨[.type "zip",.ref l1,.ref l2],[]⟩) (λ_ R s=>s.heap.DictAt knd l1 kvs ep/\s.heap.IsTuple l2 ys/\R (.ok (.ret (.ref (pV s.heap (mq l1 kvs.length ep) l2).objs.size))) { s with heap:=dF s.heap (mq l1 kvs.length ep) l2 }):=
 .of_wp λA R s h=>by
  obtain ⟨hp,g,d,tk,os⟩:=s; obtain ⟨hm,eU,h⟩:=h
  have LG:=sub_zip
  have hM:Heap.DictAt knd (Shared.heap ⟨hp,g,d,tk,os⟩) l1 kvs ep:=hm
  have E9:Heap.IsTuple (Shared.heap ⟨hp.push { cls:=.type "dict_keyiterator",data:=.fields #[.ref l1,.int 0 0,.int kvs.length 0,.int ep 0] },g,d,tk,os⟩) l2 ys:=Heap.IsTuple.push eU _
  wp_walk using wpAny_pyIter_dict hs hM,wpAny_pyIter_tuple E9
  exact ⟨_,rfl,h⟩
section
variable {prog:Program}{w:World}{A:Around}{E:Value->Shared->Prop}{s:Shared}
theorem mr (h:Heap) (o:Obj) (l2:Addr) (hg:(kh h o).get? h.objs.size=some o):IsZip (dF h o l2) (h.objs.size+4) (h.objs.size+2) (h.objs.size+3) .none/\IsPair (dF h o l2) (h.objs.size+2) (.ref h.objs.size) (.ref (h.objs.size+1))/\IsPair (dF h o l2) (h.objs.size+3) .none .none/\
 (dF h o l2).get? h.objs.size=some o/\(dF h o l2).IsTupleIter (h.objs.size+1) l2 0/\(∀c q,h.get? c=some q->(dF h o l2).get? c=some q)/\(pV h o l2).objs.size=h.objs.size+4:=by
 have z1:(kh h o).objs.size=h.objs.size+1:=Heap.size_push ..
 have z2:(xp h o l2).objs.size=h.objs.size+2:=by rw [Heap.size_push,z1]
 have z3:(xq h o l2).objs.size=h.objs.size+3:=by rw [Heap.size_push,z2]
 have z4:(pV h o l2).objs.size=h.objs.size+4:=by rw [Heap.size_push,z3]
 have g5:(dF h o l2).get? (pV h o l2).objs.size=some _:=Heap.get?_push_size _ rfl
 have g4:(dF h o l2).get? (xq h o l2).objs.size=some _:=Heap.get?_push_of_some _ (Heap.get?_push_size _ rfl)
 have g3:(dF h o l2).get? (xp h o l2).objs.size=some _:=Heap.get?_push_of_some _ (Heap.get?_push_of_some _ (Heap.get?_push_size _ rfl))
 have g2:(dF h o l2).get? (kh h o).objs.size=some _:=Heap.get?_push_of_some _ (Heap.get?_push_of_some _ (Heap.get?_push_of_some _ (Heap.get?_push_size _ rfl)))
 have g1:(dF h o l2).get? h.objs.size=some _:=Heap.get?_push_of_some _ (Heap.get?_push_of_some _ (Heap.get?_push_of_some _ (Heap.get?_push_of_some _ hg)))
 rw [z2,z3,z4] at g5
 rw [z1,z2] at g3
 rw [z3] at g4
 rw [z1] at g2
 exact ⟨g5,g3,g4,g1,⟨_,g2,rfl,rfl⟩,λc q x=>Heap.get?_push_of_some _ (Heap.get?_push_of_some _ (Heap.get?_push_of_some _ (Heap.get?_push_of_some _ (Heap.get?_push_of_some _ x)))),z4⟩
end
end PySem
namespace L2
open PySem PySem.Spec PyProof.Rows
section
variable {X:Cx}{pins:List (Addr×Obj)}{σ:St}{H:Hp}{s:Shared}{h':Heap}
theorem Inv.CM {t':Nat}{fp:List Addr}{T:Addr}{ob:HO}(I:Inv X pins σ H s) (hf:∀b∈fp,fi X pins H b) (k:∀b o,b∉fp->s.heap.get? b=some o->h'.get? b=some o)
 (hT:s.heap.objs.size<=T) (new:bh X.prog X.w (upd H T ob) h' T ob):Inv X pins σ (upd H T ob) { s with heap:=h',toks:=t' }:=by
 have qp:∀b u,H b=some u->b∉fp:=λb u e z=>by rw [(hf b z).1] at e; cases e
 have vn:H T=none:=I.hok.fresh hT
 have neT:∀b u,H b=some u->b≠T:=λb u e z=>by rw [z,vn] at e; cases e
 have DK:∀b o,s.heap.get? b=some o->b≠T:=λb o e=>Nat.ne_of_lt (Nat.lt_of_lt_of_le (Heap.lt_size e) hT)
 refine I.step (g':=s.gens) (d':=s.drawn) (ch:=fp) (λb hb=>⟨(hf b hb).2.2.2.1,(hf b hb).2.1,(hf b hb).2.2.2.2.1,(hf b hb).2.2.2.2.2⟩) (λb o _ _ hc e _=>k b o hc e) (λb o _ _ hc e _=>⟨o.slots,k b o hc e⟩)
  (λb o _ e n=>by rw [aj (DK b o e)]; exact n) (λb o hc e=>⟨o,k b o hc e⟩) (λb ys e=>by rw [aj (neT b _ e)]; exact e) (λb o u e=>by rw [aj (neT b _ e)]; exact e)
  (λb ps e=>⟨#[],by rw [aj (neT b _ e),e]; simp⟩) (λm hm=>?_) (λb u e=>?_) I.bare
 . obtain ⟨o,es,ep,ho,r⟩:=hm
   exact ⟨o,es,ep,k _ o (λz=>(hf _ z).2.1 rfl) ho,r⟩
 . by_cases hb:b=T
   . subst hb
     rw [ae] at e
     cases e
     exact new
   . rw [aj hb] at e
     refine (I.hok b u e).eD (λc v hc q=>k c v ?_ q) (λc q=>by rw [aj (neT c _ q)]; exact q) λc ys q=>by rw [aj (neT c _ q)]; exact q
     rcases hc with z | z
     . rw [z]; exact qp b u e
     . exact qp c _ z
end
theorem zp:∀{ks:List Key}{ys:List V}{its:List Value},Vals ys its->KV (ks.zip ys) (ks.zip its)
 | [],_,_,_=>.nil
 | _::_,_,_,.nil=>.nil
 | k::ks,_,_,.cons h t=>.cons ⟨rfl,h⟩ (zp t)
section
variable {X:Cx}
def Hg (K:W.Frag) (ta:TA):TE:=λσ H Q=>ta σ H λvs H1=>∃(a b:Addr) (ks:List Key) (ys:List V),vs=[.ref a,.ref b]/\(ay K H1 a (ks.map kV)\/∃kvs,Rd H1 a (.dK kvs)/\ks=kvs.map (·.1))/\aP K H1 b ys/\ks.length<=ys.length/\
 ∀d,H1 d=none->Q (.ref d) (upd H1 d (.dK (bZ [] (ks.zip ys))))
theorem CN {pins:List (Addr×Obj)}{σ:St}{H1:Hp}{s1:Shared}{a b:Addr}{ks:List Key}{ys:List V}{Q:VK}(hc:X.calm=true) (I1:Inv X pins σ H1 s1) (hk:ay X.K H1 a (ks.map kV)\/∃kvs,Rd H1 a (.dK kvs)/\ks=kvs.map (·.1)) (hb:aP X.K H1 b ys) (hl:ks.length<=ys.length)
 (q:∀d,H1 d=none->Q (.ref d) (upd H1 d (.dK (bZ [] (ks.zip ys))))) :
 wpAny (model X.prog X.w) X.A (call (.type "zip") [.ref a,.ref b]) (λv s2=>wpAny (model X.prog X.w) X.A (call (.type "dict") [v]) (EP X pins σ Q) X.xe s2) X.xe s1:=by
 obtain ⟨its,rv,⟨ot,et,ct,nt,dt⟩,Sn⟩:=I1.tuple hb
 have JE:s1.heap.IsTuple b its.toArray:=⟨ot,et,ct,nt,dt⟩
 have hlen:ys.length=its.length:=rv.length
 have rest:∀(o:Obj) (m1:List Addr) (P1:Nat->Value->Prop) (iY:Nat->Heap->Prop),(kh s1.heap o).get? s1.heap.objs.size=some o->(∀c∈m1,c<s1.heap.objs.size)->eC X.prog X.w s1.heap.objs.size m1 ks.length P1 iY->iY 0 (dF s1.heap o b)->
  (∀(i:Nat) (x:Value) (k:Key),ks[i]?=some k->P1 i x->(ba X.prog X.w).is k x=true)->
  wpAny (model X.prog X.w) X.A (call (.type "dict") [.ref (s1.heap.objs.size+4)]) (EP X pins σ Q) X.xe { s1 with heap:=dF s1.heap o b }:=by
  intro o m1 P1 iY hg EK D1 h1 hP
  obtain ⟨g1,g2,g3,g4,g5,kk,g6⟩:=mr s1.heap o b hg
  have mU:b<s1.heap.objs.size:=Heap.lt_size et
  have I2:Inv X pins σ H1 { s1 with heap:=dF s1.heap o b }:=I1.kept (t':=s1.toks) kk
  have Fc:∀c∈[s1.heap.objs.size+4,s1.heap.objs.size+2,s1.heap.objs.size+3,s1.heap.objs.size,s1.heap.objs.size+1],s1.heap.objs.size<=c:=λc cj=>by
   simp only [List.mem_cons,List.not_mem_nil,or_false] at cj
   rcases cj with rfl | rfl | rfl | rfl | rfl
   . exact Nat.le_add_right _ _
   . exact Nat.le_add_right _ _
   . exact Nat.le_add_right _ _
   . exact Nat.le_refl _
   . exact Nat.le_add_right _ _
  have out:∀c,c<s1.heap.objs.size->c∉[s1.heap.objs.size+4,s1.heap.objs.size+2,s1.heap.objs.size+3,s1.heap.objs.size,s1.heap.objs.size+1]:=λc eG hm=>Nat.lt_irrefl _ (Nat.lt_of_lt_of_le eG (Fc c hm))
  have hsz:s1.heap.objs.size<=(dF s1.heap o b).objs.size:=by rw [Heap.size_push,g6]; exact Nat.le_trans (Nat.le_add_right _ 4) (Nat.le_add_right _ 1)
  have D2:eC X.prog X.w (s1.heap.objs.size+1) [b] its.toArray.size (λi x=>its.toArray[i]?=some x) (λi h=>dj true h (s1.heap.objs.size+1) b i/\iw true h b its.toArray):=qL (λe=>by rw [e] at mU; exact absurd mU (Nat.not_lt.mpr (Nat.le_add_right _ _)))
  have l1:(ks.zip its).length=ks.length:=by rw [List.length_zip]; omega
  have l3:(ks.zip its).length<=sizeLine:=by rw [l1]; omega
  refine ur (knd:=ba X.prog X.w) (kvs:=ks.zip its) (A:=X.A) (I1.ok.hd hc) (by simp) (λc cj=>out c (EK c cj)) (λc cj=>out c (by rw [List.mem_singleton.mp cj]; exact mU)) (λc cj=>Nat.lt_of_lt_of_le (EK c cj) hsz) (λc cj=>Nat.lt_of_lt_of_le (by rw [List.mem_singleton.mp cj]; exact mU) hsz) D1 D2 l1 (by rw [List.size_toArray]; omega)
   (λi x y kv e p1 p2=>?_) l3 g1 g2 ⟨_,_,g3⟩ h1 ⟨g5,⟨ot,kk _ _ et,ct,nt,dt⟩⟩ λh' tk dd Qc=>?_
  . have hi:i<(ks.zip its).length:=(List.getElem?_eq_some_iff.mp e).1
    have e2:kv=(ks[i]'(by omega),its[i]'(by omega)):=by
     rw [List.getElem?_eq_getElem hi,List.getElem_zip] at e
     exact (Option.some.inj e).symm
    subst e2
    refine ⟨hP i x _ (List.getElem?_eq_getElem _) p1,?_⟩
    have p3:its[i]?=some y:=by simpa using p2
    rw [List.getElem?_eq_getElem (by omega)] at p3
    exact (Option.some.inj p3).symm
  . refine ⟨.ref (dF s1.heap o b).objs.size,_,I2.CM (fp:=[s1.heap.objs.size+4,s1.heap.objs.size+2,s1.heap.objs.size+3,s1.heap.objs.size,s1.heap.objs.size+1]) (ob:=.dK (bZ [] (ks.zip ys))) (λc cj=>I1.pE (Fc c cj) (I1.hok.fresh (Fc c cj))) (λc q' cj e=>Qc c q' cj e) (Nat.le_refl _) (oi ?_ (beq_eq_false_iff_ne.mpr (Ne.symm (Nat.ne_of_lt I2.big))) (KV.merge (zp rv) .nil) dd),rfl,q _ (I2.hok.fresh (Nat.le_refl _))⟩
    have:=fg (ks.zip ys) []
    rw [List.length_zip] at this
    simp at this
    omega
 rcases hk with hk | ⟨kvs,hk,rfl⟩
 . obtain ⟨uu,rj,pl,_⟩:=I1.list hk
   have jJ:=pl.isList
   have kM:a<s1.heap.objs.size:=by obtain ⟨_,e,_⟩:=jJ; exact Heap.lt_size e
   have tf:ks.length=uu.length:=by have:=rj.length; rw [List.length_map] at this; exact this
   refine callType_new F.called_zip (by decide) (F.typeCall_zip_2 _ _) (F.newCall_zip_2 _ _) (λobj=>F.args_object_init_3 obj _ _) F.entry_zip_new (pf a b uu.toArray its.toArray) ⟨jJ,JE,?_⟩
   have hg:(kh s1.heap (gF a)).get? s1.heap.objs.size=some (gF a):=Heap.get?_push_size _ rfl
   obtain ⟨g1,g2,g3,g4,g5,kk,g6⟩:=mr s1.heap (gF a) b hg
   show _/\_
   rw [g6]
   have D1:eC X.prog X.w s1.heap.objs.size [a] uu.toArray.size (λi x=>uu.toArray[i]?=some x) (λi h=>dj false h s1.heap.objs.size a i/\iw false h a uu.toArray):=qL (Nat.ne_of_lt kM)
   have ez:uu.toArray.size=ks.length:=by rw [tf]; exact List.size_toArray ..
   rw [ez] at D1
   obtain ⟨ol,el,rl⟩:=jJ
   refine ⟨⟨_,g1,rfl⟩,rest (gF a) [a] _ _ hg (λc cj=>by rw [List.mem_singleton.mp cj]; exact kM) D1 ⟨⟨_,g4,rfl,rfl⟩,⟨ol,kk _ _ el,rl⟩⟩ λi x k e p=>?_⟩
   obtain ⟨u,hu,ru⟩:=rj.get (x:=kV k) (by rw [List.getElem?_map,e]; rfl)
   have p3:uu[i]?=some x:=by simpa using p
   rw [hu] at p3
   cases p3
   exact jU ru
 . obtain ⟨hz,hs,vs,rel,dd⟩:=lW I1.hok hk
   obtain ⟨ep,da⟩:=dd.dictAt
   have kM:=da.lt_size
   have tf:kvs.length=vs.length:=rel.length
   refine callType_newIn F.called_zip (by decide) (F.typeCall_zip_2 _ _) (F.newCall_zip_2 _ _) (λobj=>F.args_object_init_3 obj _ _) F.entry_zip_new (xr (ba X.prog X.w) a b vs ep its.toArray hs) ⟨da,JE,?_⟩
   have hg:(kh s1.heap (mq a vs.length ep)).get? s1.heap.objs.size=some (mq a vs.length ep):=Heap.get?_push_size _ rfl
   obtain ⟨g1,g2,g3,g4,g5,kk,g6⟩:=mr s1.heap (mq a vs.length ep) b hg
   show _/\_
   rw [g6]
   have D1:eC X.prog X.w s1.heap.objs.size [a] vs.length (λi x=>∃kv,vs[i]?=some kv/\(ba X.prog X.w).is kv.1 x=true) (λi h=>h.IsKeyIter s1.heap.objs.size a i vs.length ep/\h.DictAt (ba X.prog X.w) a vs ep):=xo (Nat.ne_of_lt kM)
   have Qd:eC X.prog X.w s1.heap.objs.size [a] (kvs.map (·.1)).length (λi x=>∃kv,vs[i]?=some kv/\(ba X.prog X.w).is kv.1 x=true) (λi h=>h.IsKeyIter s1.heap.objs.size a i vs.length ep/\h.DictAt (ba X.prog X.w) a vs ep):=by rw [List.length_map,tf]; exact D1
   refine ⟨⟨_,g1,rfl⟩,rest (mq a vs.length ep) [a] _ _ hg (λc cj=>by rw [List.mem_singleton.mp cj]; exact kM) Qd ⟨⟨_,g4,rfl,rfl⟩,da.keep kk⟩ λi x k e p=>?_⟩
   obtain ⟨kv,e1,e2⟩:=p
   rw [List.getElem?_map] at e
   cases e3:kvs[i]? with
   | none=>rw [e3] at e; cases e
   | some p'=>
    rw [e3] at e
    have hq:=(jq rel e3 e1).1
    have fq:k=p'.1:=(Option.some.inj e).symm
    rw [fq,hq]
    exact e2
theorem CO {a b:Expr}{ta:TA}{p1 p2 pos uv:Pos}(Qe:Gl X "dict") (Qf:X.mg "dict" = none) (Qg:Gl X "zip") (Qh:X.mg "zip" = none) (hc:X.calm=true) (ha:PA X [a,b] ta)
 (hs:starEach [Expr.Call (.Name "zip" p2) [a,b] [] uv] X.env=(false,eval (Expr.Call (.Name "zip" p2) [a,b] [] uv) X.env)::starEach [] X.env:=by rfl) (kr:(backTo pos (starEach [] X.env)).any (·.1)=false:=by rfl)
 (ir:starEach [a,b] X.env=(false,eval a X.env)::starEach [b] X.env:=by rfl) (gU:(backTo uv (starEach [b] X.env)).any (·.1)=false:=by rfl) :
 PE X (.Call (.Name "dict" p1) [.Call (.Name "zip" p2) [a,b] [] uv] [] pos) (Hg X.K ta):=by
 intro pins s σ H Q I h
 refine wpAny_Call_Name_kw (fG I Qe Qf PyProof.Rows.boot_dict ?_ (by decide) (by decide))
 refine PyProof.Rows.callWith_type1 ?_ hs kr
 rw [hs]
 show wpAny _ _ (spliced ((false,eval _ X.env)::backTo pos (starEach [] X.env))) _ _ s
 refine Calls.spliced_cons ?_
 refine Call_ (fG I Qg Qh boot_zip (PyProof.Rows.callWith_type1 (aG (ha uv pins s σ H _ I h) λus s1 ⟨vs,H1,I1,r1,q1⟩=>?_) ir gU))
 obtain ⟨l,m,ks,ys,e,hk,hb,hl,q⟩:=q1
 subst e
 obtain ⟨u,v,rfl,ru,rv⟩:=vals2 r1
 cases (show u=Value.ref l from ru)
 cases (show v=Value.ref m from rv)
 exact aG (CN hc I1 hk hb hl q) λv s2 hv=>Calls.spliced_nil hv
end
end L2
namespace PySem
open Builtin Builtin.Str
def RK (c:Nat) (L:List Nat) (a k:Nat):List Nat:=(List.range' a k).filter λi=>decide (L[i]?=some c)
end PySem
namespace L2
open PySem PySem.Spec PyProof.Rows
section
variable {X:Cx}
end
end L2
namespace PySem
open Builtin Builtin.Str
end PySem
namespace L2
open PySem PySem.Spec PyProof.Rows
section
variable {X:Cx}{pins:List (Addr×Obj)}{σ:St}{H:Hp}{s:Shared}{a:Addr}{kvs:List (Key×V)}{k:Key}{v:V}{u:Value}{E:Value->Shared->Prop}
end
section
variable {X:Cx}{o i:Expr}{pos:Pos}{td ty:TE}
end
end L2
namespace L2
open PySem PySem.Spec PyProof.Rows
section
variable {X:Cx}
def Hh (K:W.Frag) (ta:TA):TI:=λσ H R=>ta σ H λvs H1=>∃a b,vs=[.ref a,.ref b]/\(∃xs,ay K H1 a xs)/\(∃ys,aP K H1 b ys)/\R (Itm K false true a b) H1
theorem CP {es:List Expr}{kk:Nat}{pp:Pos}{a b:Expr}{ta:TA}{p pos:Pos}(hg:Gl X "zip") (hm:X.mg "zip" = none) (ha:PA X [a,b] ta) (hs:starEach [a,b] X.env=(false,eval a X.env)::starEach [b] X.env:=by rfl) (hp:(backTo pos (starEach [b] X.env)).any (·.1)=false:=by rfl) :
 PI X (.Tuple es kk pp) (.Call (.Name "zip" p) [a,b] [] pos) (Hh X.K ta):=by
 intro pins s σ H R I h
 refine Call_ (fG I hg hm boot_zip (PyProof.Rows.callWith_type1 (aG (ha pos pins s σ H _ I h) λus s1 ⟨vs,H1,I1,r1,q1⟩=>?_) hs hp))
 obtain ⟨l,m,e,⟨xs,hx⟩,⟨ys,hy⟩,q⟩:=q1
 subst e
 obtain ⟨u,v,rfl,ru,rv⟩:=vals2 r1
 cases (show u=Value.ref l from ru)
 cases (show v=Value.ref m from rv)
 obtain ⟨its,_,p1,_⟩:=I1.zk (tp:=false) hx
 obtain ⟨its',_,p2,_⟩:=I1.zk (tp:=true) hy
 refine callType_new F.called_zip (by decide) (F.typeCall_zip_2 _ _) (F.newCall_zip_2 _ _) (λobj=>F.args_object_init_3 obj _ _) F.entry_zip_new (pf l m its.toArray its'.toArray) ⟨p1,p2,?_⟩
 have ym:(kh s1.heap (gF l)).get? s1.heap.objs.size=some (gF l):=Heap.get?_push_size _ rfl
 obtain ⟨a1,a2,a3,a4,a5,Qi,g6⟩:=mr s1.heap (gF l) m ym
 show _/\_
 rw [g6]
 refine ⟨⟨_,a1,rfl⟩,?_⟩
 refine wpAny_pyIter_zip a1 ?_
 have I2:Inv X pins σ H1 { s1 with heap:=dF s1.heap (gF l) m }:=I1.kept (t':=s1.toks) Qi
 refine ⟨_,_,_,_,H1,rfl,I2,CJ (tp:=false) (tq:=true) (a:=l) (b:=m) (z:=s1.heap.objs.size+4) (TI:=s1.heap.objs.size+2) (TO:=s1.heap.objs.size+3) (i1:=s1.heap.objs.size) (i2:=s1.heap.objs.size+1) ?_,⟨a1,a2,⟨_,_,a3⟩,⟨_,a4,rfl,rfl⟩,a5⟩,λb hb=>?_,q⟩
 . simp
 . have oC:s1.heap.objs.size<=b:=by
    simp only [List.mem_cons,List.not_mem_nil,or_false] at hb
    rcases hb with rfl | rfl | rfl | rfl | rfl
    . exact Nat.le_add_right _ _
    . exact Nat.le_add_right _ _
    . exact Nat.le_add_right _ _
    . exact Nat.le_refl _
    . exact Nat.le_add_right _ _
   exact I1.pE oC (I1.hok.fresh oC)
theorem CQ {K:W.Frag}{tp tq:Bool}{a b:Addr}{xs ys:List V}{g:TG}{tb:TS}{D:Ends}{σ:St}{H:Hp}(So:xs.length<=ys.length) (Pv:Nat->St->Hp->Prop) (h0:Pv 0 σ H) (hl:∀i σ H,i<=xs.length->Pv i σ H->ZK K tp H a xs/\ZK K tq H b ys)
 (hs:∀i x y T σ H,xs[i]?=some x->ys[i]?=some y->H T=none->Pv i σ H->g (.ref T) σ (upd H T (.tup [x,y])) λgi H2=>tb { D with nx:=Pv (i+1),ct:=Pv (i+1),bk:=D.nx } gi H2) (hd:∀σ H,Pv xs.length σ H->D.nx σ H) :
 ∃W:Nat->Nat->St->Hp->Prop,(∃m,W 0 m σ H)/\∀i m σ H,W i m σ H->
  ((Itm K tp tq a b).stop i H/\D.nx σ H)\/((Itm K tp tq a b).go i H/\∃N:St->Hp->Prop,(∀bG H',N bG H'->∃m',m'<m/\W (i+1) m' bG H')/\∀x H',(Itm K tp tq a b).yld i H x H'->g x σ H' λgi H2=>tb { D with nx:=N,ct:=N,bk:=D.nx } gi H2):=by
 refine ⟨λi m σ H=>m=xs.length-i/\i<=xs.length/\Pv i σ H,⟨xs.length,by simp,Nat.zero_le _,h0⟩,?_⟩
 rintro i m σ H ⟨rfl,hi,p⟩
 obtain ⟨q1,q2⟩:=hl i σ H hi p
 by_cases eG:i<xs.length
 . refine .inr ⟨⟨xs,ys,xs[i],ys[i]'(by omega),q1,q2,List.getElem?_eq_getElem eG,List.getElem?_eq_getElem (by omega)⟩,Pv (i+1),λbG H' p'=>⟨xs.length-(i+1),by omega,rfl,eG,p'⟩,λx H' y=>?_⟩
   obtain ⟨T,v,u,rfl,hT,rfl,hv,hu⟩:=y
   exact hs i v u T σ H (hv xs q1) (hu ys q2) hT p
 . refine .inl ⟨⟨xs,q1,by omega⟩,?_⟩
   obtain rfl:i=xs.length:=by omega
   exact hd σ H p
end
end L2
namespace Gen
open PySem L2
abbrev mv:Stmt:=top 14
def gG (H:Hp) (ts:List Addr) (bs:List (List Int)):Prop:=Paired (λt b=>H t=some (.tup (b.map V.int))) ts bs
theorem gG.same {H H':Hp}{ts:List Addr}{bs:List (List Int)}(h:gG H ts bs) (s:ai H H'):gG H' ts bs:=Paired.dX h λt b e=>s _ _ e
def mw (K:W.Frag) (H:Hp) (ts:List Addr) (bs:List (List Int)):Prop:=Paired (λt b=>aP K H t (b.map V.int)) ts bs
theorem gG.t {K:W.Frag}{H:Hp}{ts:List Addr}{bs:List (List Int)}(h:gG H ts bs):mw K H ts bs:=Paired.dX h λt b e=>aP.of e
theorem je {K:W.Frag}{H H':Hp}{a:Addr}{xs:List V}(e:ai H H') (h:aP K H a xs):aP K H' a xs:=by
 rcases h with (h | ⟨o,h⟩) | h
 . exact .inl (.inl (e a _ h))
 . exact .inl (.inr ⟨o,e a _ h⟩)
 . exact .inr h
theorem mw.same {K:W.Frag}{H H':Hp}{ts:List Addr}{bs:List (List Int)}(h:mw K H ts bs) (s:ai H H'):mw K H' ts bs:=Paired.dX h λt b e=>je s e
def pj (K:W.Frag):Sp:=λvs H Q _=>∃(n:Nat),vs=[.int (n:Int)]/\n<=8/\∀p us H',ai H H'->H p=none->H' p=some (.lst (us.map V.ref))->mw K H' us (bY n)->Q (.ref p) H'
theorem CS (r:List Int) (b:Int):(r.map V.int++[V.int b])=(r++[b]).map V.int:=by rw [List.map_append]; rfl
theorem JF:(["_law_one"]:List Str).Nodup:=by decide +kernel
theorem zq {K:W.Frag}{b:Int}{D p:Addr}{Q:Hp->Prop}{H1:Hp}{ts:List Addr}{bs:List (List Int)}(hD:H1 D=none) (hp:H1 p=some (.lst (ts.map V.ref))) (h2:gG H1 ts bs) (hlen:bs.length<=256) (hk:∀r∈bs,r.length<=8)
 (fin:∀H4 ws,ai H1 H4->H4 D=some (.lst (ws.map V.ref))->gG H4 ws (bs.map (· ++ [b]))->Q H4) :
 ∃W:Nat->Nat->St->Hp->Prop,(∃m,W 0 m [none] (upd H1 D (.lst [])))/\sg D (eZ 0) lB (rM (qY K) (jf 0) (zL (jS (tC (.int b)) wH))) (xH K p) W Q:=by
 have hl:=h2.length
 refine gx bs.length (λj acc bG H4=>(∃ws:List Addr,acc=ws.map V.ref/\gG H4 ws ((bs.take j).map (· ++ [b]))/\ws.length=j)/\(∃u,bG=[u])/\ai H1 H4) ⟨⟨[],rfl,.nil,rfl⟩,⟨none,rfl⟩,ai.ar hD⟩ ae ?_ ?_
 . rintro acc bG H4 cO ⟨⟨ws,rfl,Bz,_⟩,_,s4⟩
   rw [List.take_length] at Bz
   exact ⟨⟨_,ay.of (s4 _ _ hp),by rw [List.length_map,hl]; exact Nat.le_refl _⟩,fin H4 ws s4 cO Bz⟩
 . rintro j acc bG H4 hj cO ⟨⟨ws,rfl,Bz,yd⟩,⟨u,rfl⟩,s4⟩
   have qN:bs[j]?=some bs[j]:=List.getElem?_eq_getElem hj
   obtain ⟨t,ht,hT⟩:=hV h2 (i:=j) qN
   have ej:(ts.map V.ref)[j]?=some (.ref t):=by rw [List.getElem?_map,ht]; rfl
   refine ⟨⟨_,_,ay.of (s4 _ _ hp),ej⟩,?_⟩
   rintro x' H' ⟨rfl,gm⟩
   have ex:=gm _ (ay.of (s4 _ _ hp))
   rw [ej] at ex
   cases ex
   refine eJ ?_
   have xS:(bs.take (j+1)).map (· ++ [b])=(bs.take j).map (· ++ [b])++[bs[j]++[b]]:=by
    rw [List.take_succ,qN,List.map_append]
    rfl
   have pk:=hk _ (List.getElem_mem hj)
   generalize bs[j]=r at hT xS pk
   have Fd:∀(R:Addr) (J:Hp),ai H' J->J R=some (.tup ((r++[b]).map V.int))->∃acc,J D=some (.lst acc)/\acc.length<sizeLine/\∃m',m'<bs.length-j/\yl D bs.length (λj acc bG H4=>(∃ws:List Addr,acc=ws.map V.ref/\gG H4 ws ((bs.take j).map (· ++ [b]))/\ws.length=j)/\(∃u,bG=[u])/\ai H1 H4) (j+1) m' [some (.ref t)] (upd J D (.lst (acc++[.ref R]))):=by
    intro R J sJ hR
    have JG:=sJ _ _ cO
    have nt:∀{b:Addr}{o:List V},J b=some (.tup o)->b≠D:=λhb e=>by rw [e,JG] at hb; cases hb
    refine ⟨_,JG,(by rw [List.length_map]; exact small (by omega)),cM hj ae ⟨⟨ws++[R],by rw [List.map_append]; rfl,?_,by rw [List.length_append,List.length_singleton,yd]⟩,⟨_,rfl⟩,?_⟩⟩
    . rw [xS]
      refine Paired.snoc (Paired.dX Bz λc d e=>?_) ?_
      . have:=sJ _ _ e
        rw [aj (nt this)]
        exact this
      . rw [aj (nt hR)]
        exact hR
    . intro y o hy
      rw [aj (ah hy hD)]
      exact sJ _ _ (s4 _ _ hy)
   refine ⟨_,rfl,(by show 1<=sizeLine; decide),λT1 Qj=>?_⟩
   have z1:ai H' (upd H' T1 (.tup [.int b])):=ai.ar Qj
   have z2:(upd H' T1 (.tup [.int b])) T1=some (.tup [.int b]):=ae
   generalize upd H' T1 (.tup [.int b])=J3 at z1 z2 ⊢
   refine ⟨t,T1,_,_,rfl,rfl,aP.of (z1 _ _ (s4 _ _ hT)),aP.of z2,(by simp),?_,λe=>?_,λ_ R hR=>?_⟩
   . rw [List.length_map]
     exact oM (by show r.length+1<=1000; omega)
   . have:r=[]:=List.map_eq_nil_iff.mp e
     subst this
     exact Fd T1 J3 z1 z2
   . exact Fd R _ (z1.trans (ai.ar hR)) (by rw [ae,CS])
section
variable {P:Program}{w:World}{K:W.Frag}{mg:Str->Option Value}{base:Heap}
theorem zr {H H':Hp}{D:Addr}(s:ai H H') (h:H' D=none):H D=none:=by
 cases e:H D with
 | none=>rfl
 | some o=>rw [s _ _ e] at h; cases h
theorem xt:aT ["_law_many", "_law_found", "_law_k"] ["_law_many"] (ak mv):=⟨rfl,rfl,rfl,by decide +kernel,rfl,by decide +kernel,by decide +kernel⟩
theorem uX {f:Addr}{fd:FuncData}(F:cy K "_law_all_bits" "_law_all_bits" mv f fd) (O:Own mg) (hS:mg "sorted" = none):av P w K mg base aF 1 f fd ["_law_many"] (pj K):=by
 refine F.ok xt (λvs H Q E h=>?_) (λcdv A outer s H vs Q E hr h=>?_)
 . obtain ⟨k,rfl,_⟩:=h
   rfl
 . obtain ⟨n,rfl,n8,kk⟩:=h
   refine ⟨_,af (ax (i:=1) xt.nd rfl (Or.inl rfl) (fL (aa (df ab) ab)))
    (af (fJ PassesOwn.never rfl (cV rfl O.range (aa (pv 0) ab)) (aW (i:=2) xt.nd rfl (Or.inl rfl))
     (ao (ax (i:=1) xt.nd rfl (Or.inl rfl) (aO gZ
      (ee (N:=["_law_one"]) (js:=[none]) (by kernel_rfl) rfl (jx (pv 1)) (λ_ _ _ _ _ _=>aW (i:=0) JF rfl (Or.inl rfl) (.inr rfl)) (λ_ _ _ _ _ _=>cG) (λ_ _ _ _ _ _=>aO (r:=qY K) vD (pv 0) (df (aa ag ab))))
      (ee (N:=["_law_one"]) (js:=[none]) (by kernel_rfl) rfl (jx (pv 1)) (λ_ _ _ _ _ _=>aW (i:=0) JF rfl (Or.inl rfl) (.inr rfl)) (λ_ _ _ _ _ _=>cG) (λ_ _ _ _ _ _=>aO (r:=qY K) vD (pv 0) (df (aa ag ab))))))))
    (ao (aK (aU uh (by rfl) hS PyProof.Rows.boot_sorted (aa (pv 1) ab))))),?_⟩
   refine ⟨(by show 0<=sizeLine; decide),λe he=>?_⟩
   have t0:ai H (upd H e (.tup [])):=ai.ar he
   have q0:(upd H e (.tup [])) e=some (.tup (([]:List Int).map V.int)):=ae
   generalize upd H e (.tup [])=H0 at t0 q0 ⊢
   refine ⟨(by show 1<=sizeLine; decide),λp0 Qk=>?_⟩
   have t1:ai H0 (upd H0 p0 (.lst [.ref e])):=ai.ar Qk
   have q1:(upd H0 p0 (.lst [.ref e])) p0=some (.lst ([e].map V.ref)):=ae
   generalize upd H0 p0 (.lst [.ref e])=H1 at t1 q1 ⊢
   have Ql:=t0.trans t1
   refine ⟨_,rfl,_,rfl,Int.le_trans (by decide : -(2 ^ 62)<=(0:Int)) (by omega),Int.lt_of_le_of_lt (by omega:((n:Nat):Int)<=256) (by decide),fm (n:=((n:Int)).toNat) (λi σ Hi=>∃(p:Addr) (ts:List Addr) (v2:Option V),σ=[some (.int (n:Int)),some (.ref p),v2]/\Hi p=some (.lst (ts.map V.ref))/\gG Hi ts (aY i)/\ai H Hi) ?_ ?_ ?_⟩
   . exact ⟨p0,[e],none,rfl,q1,.cons (t1 _ _ q0) .nil,Ql⟩
   . rintro i σ Hi hi ⟨p,ts,v2,rfl,hp,jM,si⟩
     rw [Int.toNat_natCast] at hi
     have mU:(aY i).length<=256:=by
      rw [cH]
      exact tW (by omega)
     have mF:∀r∈aY i,r.length<=8:=λr yL=>by rw [i9 i r yL]; omega
     refine ⟨_,rfl,p,rfl,⟨_,ay.of hp⟩,λD hD=>zq hD hp jM mU mF λH2 ws s2 sv A6=>?_⟩
     refine ⟨_,rfl,p,rfl,⟨_,ay.of (s2 _ _ hp)⟩,λD' Qm=>zq Qm (s2 _ _ hp) (jM.same s2) mU mF λH3 Qn s3 sA A7=>?_⟩
     have l1:=A6.length
     have l2:=A7.length
     rw [List.length_map] at l1 l2
     refine ⟨D,D',_,_,rfl,rfl,s3 _ _ sv,sA,(by rw [List.length_map,List.length_map]; exact oM (by omega)),λR hR=>⟨R,ws++Qn,_,rfl,?_,?_,?_⟩⟩
     . rw [ae,List.map_append]
     . rw [aY]
       exact dJ (Paired.dX A6 λt b e=>by have:=s3 _ _ e; rw [aj (ah this hR)]; exact this) (Paired.dX A7 λt b e=>by rw [aj (ah e hR)]; exact e)
     . exact si.trans (s2.trans (s3.trans (ai.ar hR)))
   . rintro σ Hi ⟨p,ts,v2,rfl,hp,jM,si⟩
     rw [Int.toNat_natCast] at jM
     refine ⟨_,rfl,p,ts,n,rfl,ay.of hp,jM.t,n8,λD mY hD LH=>?_⟩
     exact kk D mY _ (si.trans (ai.ar hD)) (zr si hD) ae (mw.same LH (ai.ar hD))
end
def bI (b:Bool):Int:=if b=true then 1 else 0
def rowOf (e:Str->Bool) (names:List Str):List Int:=names.map λn=>bI (e n)
theorem ki:∀k,bY (k+1)=(bY k).map (0 :: ·)++(bY k).map (1 :: ·)
 | 0=>rfl
 | k+1=>by
  have dist:∀(x:Int) (l:List (List Int)),(l.map (x :: ·)).flatMap (λr=>[r++[(0:Int)],r++[1]])=(l.flatMap λr=>[r++[(0:Int)],r++[1]]).map (x :: ·):=λx l=>by
   induction l with
   | nil=>rfl
   | cons a l ih=>rw [List.map_cons,List.flatMap_cons,ih,List.flatMap_cons,List.map_append]; rfl
  have h:=ki k
  rw [show bY (k+1+1)=(bY (k+1)).flatMap λr=>[r++[0],r++[1]] from rfl,h,List.flatMap_append,dist,dist,← h]
  rfl
theorem uw {k t:Nat}(h:t<2 ^ k):(bY (k+1))[t]?=((bY k)[t]?).map (0 :: ·):=by
 rw [ki,List.getElem?_append_left (by rw [List.length_map,cJ]; exact h),List.getElem?_map]
theorem ux {k t:Nat}(h:¬ t<2 ^ k):(bY (k+1))[t]?=((bY k)[t-2 ^ k]?).map (1 :: ·):=by
 rw [ki,List.getElem?_append_right (by rw [List.length_map,cJ]; omega),List.length_map,cJ,List.getElem?_map]
theorem lQ (e:Str->Bool):∀(names:List Str) (bs:List Bool) (t:Nat),bs.length=2 ^ names.length->(bY names.length)[t]?=some (rowOf e names)->ev e (cn names bs)=bs.getD t false
 | [],bs,t,h1,h2=>by
  match bs,h1 with
  | [b],_=>
   have:t<1:=(List.getElem?_eq_some_iff.mp h2).1
   have:t=0:=by omega
   subst this
   rfl
 | n::r,bs,t,h1,h2=>by
  rw [List.length_cons] at h1 h2
  have hp:=tQ r.length
  have hq:=Nat.pow_succ 2 r.length
  have lt:=(List.getElem?_eq_some_iff.mp h2).1
  rw [cJ] at lt
  rw [He,h1,hp]
  by_cases q:t<2 ^ r.length
  . rw [uw q,Option.map_eq_some_iff] at h2
    obtain ⟨x,hx,e1⟩:=h2
    have e2:=List.cons.inj e1
    have en:e n=false:=by
     cases h:e n
     . rfl
     . have:=e2.1
       rw [show (λn=>bI (e n)) n=1 by show bI (e n)=1; rw [h]; rfl] at this
       cases this
    rw [en,if_neg (by decide),lQ e r _ t (by rw [List.length_take]; omega) (by rw [hx,e2.2]; rfl),List.getD_eq_getElem?_getD,List.getD_eq_getElem?_getD,List.getElem?_take_of_lt q]
  . rw [ux q,Option.map_eq_some_iff] at h2
    obtain ⟨x,hx,e1⟩:=h2
    have e2:=List.cons.inj e1
    have en:e n=true:=by
     cases h:e n
     . have:=e2.1
       rw [show (λn=>bI (e n)) n=0 by show bI (e n)=0; rw [h]; rfl] at this
       cases this
     . rfl
    rw [en,if_pos rfl,lQ e r _ (t-2 ^ r.length) (by rw [List.length_drop]; omega) (by rw [hx,e2.2]; rfl),List.getD_eq_getElem?_getD,List.getD_eq_getElem?_getD,List.getElem?_drop,show 2 ^ r.length+(t-2 ^ r.length)=t by omega]
theorem zt (e:Str->Bool):∀(names:List Str),∃t,t<2 ^ names.length/\(bY names.length)[t]?=some (rowOf e names)
 | []=>⟨0,by decide,rfl⟩
 | n::r=>by
  obtain ⟨t,h1,h2⟩:=zt e r
  rw [List.length_cons]
  have hq:=Nat.pow_succ 2 r.length
  cases h:e n
  . refine ⟨t,by omega,?_⟩
    rw [uw h1,h2]
    show some (0::rowOf e r)=some (bI (e n)::rowOf e r)
    rw [h]
    rfl
  . refine ⟨2 ^ r.length+t,by omega,?_⟩
    rw [ux (by omega),Nat.add_sub_cancel_left,h2]
    show some (1::rowOf e r)=some (bI (e n)::rowOf e r)
    rw [h]
    rfl
theorem kj:∀(k:Nat),∀r∈bY k,r.length=k/\∀x∈r,x=0\/x=1
 | 0,r,h=>by
  rw [show r=[] from List.mem_singleton.mp h]
  exact ⟨rfl,λ_ h=>nomatch h⟩
 | k+1,r,h=>by
  rw [ki] at h
  rcases List.mem_append.mp h with h | h
  . obtain ⟨q,hq,rfl⟩:=List.mem_map.mp h
    obtain ⟨l,b⟩:=kj k q hq
    exact ⟨by rw [List.length_cons,l],λx hx=>by rcases List.mem_cons.mp hx with rfl | hx; exact .inl rfl; exact b x hx⟩
  . obtain ⟨q,hq,rfl⟩:=List.mem_map.mp h
    obtain ⟨l,b⟩:=kj k q hq
    exact ⟨by rw [List.length_cons,l],λx hx=>by rcases List.mem_cons.mp hx with rfl | hx; exact .inr rfl; exact b x hx⟩
end Gen
namespace Gen
open PySem L2
abbrev jN:Stmt:=top 2
abbrev nX:Stmt:=top 21
theorem LI {n:Nat}(h:n<=2000):n<=sizeLine:=Nat.le_trans h (by decide)
def dh:Tr->List Str
 | .leaf _=>[]
 | .node n l r=>n::(dh l++dh r)
theorem jO:∀t,(dh t).length<=cX t
 | .leaf _=>Nat.le_refl _
 | .node n l r=>by
  have h1:=jO l
  have h2:=jO r
  show (n::(dh l++dh r)).length<=cX l+cX r+2
  rw [List.length_cons,List.length_append]
  omega
theorem CT {ns:List Str}{t:Tr}(h:cg ns t):∀n∈dh t,n∈ns:=by
 induction h with
 | leaf=>exact λ_ h=>nomatch h
 | node _ _ _ i1 i2=>
  intro n hn
  rcases List.mem_cons.mp hn with rfl | hn
  . exact List.mem_cons_self
  . rcases List.mem_append.mp hn with hn | hn
    . exact List.mem_cons_of_mem _ (i1 n hn)
    . exact List.mem_cons_of_mem _ (i2 n hn)
 | skip _ i=>exact λn hn=>List.mem_cons_of_mem _ (i n hn)
def wk:Sp:=λvs H Q _=>∃(v:V) (d:Addr) (t:Tr) (kvs:List (Key×V)) (e:Str->Bool),vs=[v,.ref d]/\aZ H t v/\H d=some (.dK kvs)/\(∀n∈dh t,aX kvs (.inr n)=some (bV (e n)))/\Q (.bl (ev e t)) H
def rm (d:Nat):Sp:=λvs H Q _=>∃(v:V) (t:Tr),vs=[v]/\aZ H t v/\t.dep<d/\t.dep<=8/\∀(p:Addr) (H':Hp),ai H H'->H' p=some (.lst ((dh t).map V.str))->Q (.ref p) H'
section
variable {P:Program}{w:World}{K:W.Frag}{mg:Str->Option Value}{base:Heap}
theorem Fe:aT ["tree", "values"] ["tree", "values"] (ak jN):=⟨rfl,rfl,rfl,by decide +kernel,rfl,by decide +kernel,by decide +kernel⟩
theorem Ar {f:Addr}{fd:FuncData}(F:cy K "holds" "holds" jN f fd):av P w K mg base aF 1 f fd ["tree", "values"] wk:=by
 refine F.ok Fe (λvs H Q E h=>?_) (λcdv A outer s H vs Q E hr h=>?_)
 . obtain ⟨v,d,t,kvs,e,rfl,_⟩:=h
   rfl
 . obtain ⟨v,d,t,kvs,e,rfl,hv,hd,hk,kk⟩:=h
   have hu:=jV hr
   refine ⟨_,af (zF PassesOwn.never (PW.pt (Dc (eE (vZ (pv 0))) (BS (eE (vZ (pv 0))))))
    (ao (ax (i:=0) Fe.nd rfl (Or.inl rfl) (rF (bz dq (pF hu (pv 1) (aQ (r:=cE K) bj (pv 0) ag (λ_ _=>rfl)) (λ_ _=>rfl)) ag (bL _)) (aQ (r:=cE K) bj (pv 0) ag (λ_ _=>rfl)) (aQ (r:=cE K) bj (pv 0) ag (λ_ _=>rfl))))))
    (ao (aK (pv 0))),?_⟩
   refine ⟨λμ σ Hx=>Hx=H/\∃(u:V) (t':Tr),σ=[some u,some (.ref d)]/\aZ H t' u/\t'.dep=μ/\(∀n∈dh t',aX kvs (.inr n)=some (bV (e n)))/\ev e t'=ev e t,⟨t.dep,rfl,v,t,rfl,hv,rfl,hk,rfl⟩,?_⟩
   rintro μ σ Hx ⟨rfl,u,t',rfl,qy,rfl,fq,he⟩
   cases t' with
   | leaf c=>
    cases (show u=.bl c from qy)
    cases c
    . refine ⟨_,rfl,.inl ⟨_,rfl,_,rfl,cb rfl ⟨_,rfl,.inl ⟨_,rfl,_,rfl,bw rfl ?_⟩⟩⟩⟩
      refine ⟨_,rfl,?_⟩
      rw [← he] at kk
      exact kk
    . refine ⟨_,rfl,.inl ⟨_,rfl,_,rfl,bw rfl (jl ?_)⟩⟩
      refine ⟨_,rfl,?_⟩
      rw [← he] at kk
      exact kk
   | node n l r=>
    obtain ⟨a,vl,vr,rfl,ha,hl,hR⟩:=qy
    refine ⟨_,rfl,.inr ⟨_,rfl,_,rfl,cb rfl ⟨_,rfl,.inr ⟨_,rfl,_,rfl,cb rfl ?_⟩⟩⟩⟩
    have tj:(Tr.node n l r).dep=max l.dep r.dep+1:=rfl
    refine ⟨λbG H'=>H'=Hx/\∃(u:V) (t':Tr),bG=[some u,some (.ref d)]/\aZ Hx t' u/\t'.dep<(Tr.node n l r).dep/\(∀n∈dh t',aX kvs (.inr n)=some (bV (e n)))/\ev e t'=ev e t,λbG H' ⟨e1,u,t',e2,e3,e4,e5,e6⟩=>⟨t'.dep,e4,e1,u,t',e2,e3,rfl,e5,e6⟩,?_⟩
    refine ⟨_,rfl,_,rfl,a,_,0,_,rfl,rfl,aP.of ha,aA (j:=0) rfl,d,bV (e n),rfl,?_,rfl,_,rfl,?_⟩
    . have:=fj.k (k:=.inr n) hd
      rw [fq n List.mem_cons_self] at this
      exact this
    have vi:ev e (.node n l r)=if e n=true then ev e r else ev e l:=rfl
    cases h:e n
    . rw [h,if_neg (by decide)] at vi
      refine bw (decide_eq_false λz=>by cases z) ⟨_,rfl,a,_,1,_,rfl,rfl,aP.of ha,aA (j:=1) rfl,rfl,vl,l,rfl,hl,by omega,λm hm=>fq m (List.mem_cons_of_mem _ (List.mem_append_left _ hm)),by rw [← vi]; exact he⟩
    . rw [h,if_pos rfl] at vi
      refine cb (decide_eq_true rfl) ⟨_,rfl,a,_,2,_,rfl,rfl,aP.of ha,aA (j:=2) rfl,rfl,vr,r,rfl,hR,by omega,λm hm=>fq m (List.mem_cons_of_mem _ (List.mem_append_right _ hm)),by rw [← vi]; exact he⟩
theorem LJ:aT ["_law_tree"] ["_law_tree"] (ak nX):=⟨rfl,rfl,rfl,by decide +kernel,rfl,by decide +kernel,by decide +kernel⟩
theorem Ff {f:Addr}{fd:FuncData}{d k:Nat}(F:cy K "_law_names_in" "_law_names_in" nX f fd) (O2:fZ mg) (G:av P w K mg base aF k f fd ["_law_tree"] (rm d)) (mN:mg "_law_names_in" = some (.ref f)) (bN:Binds K fd ["_law_tree"] []):av P w K mg base aF (k+1) f fd ["_law_tree"] (rm (d+1)):=by
 refine F.ok LJ (λvs H Q E h=>?_) (λcdv A outer s H vs Q E hr h=>?_)
 . obtain ⟨v,t,rfl,_⟩:=h
   rfl
 . obtain ⟨v,t,rfl,hv,hd,d8,kk⟩:=h
   refine ⟨_,af (bQ (eS (aU cL (by rfl) O2.isi PyProof.Rows.boot_isinstance (aa (pv 0) (aa (eM (v:=.ty "bool") (by rfl) O2.bool PyProof.Rows.boot_bool rfl) ab)))) (ao (aK (fL ab))) aV)
    (ao (aK (aO gZ (aO gZ (fL (aa (aQ (r:=cE K) bj (pv 0) ag (λ_ _=>rfl)) ab)) (aI G hr rfl mN F.kp bN .nil aB (aa (aQ (r:=cE K) bj (pv 0) ag (λ_ _=>rfl)) ab))) (aI G hr rfl mN F.kp bN .nil aB (aa (aQ (r:=cE K) bj (pv 0) ag (λ_ _=>rfl)) ab))))),?_⟩
   cases t with
   | leaf c=>
    cases (show v=.bl c from hv)
    refine ⟨_,rfl,_,_, "bool",true,rfl,.bl _,rfl,_,rfl,nB ⟨(by show 0<=sizeLine; decide),λp hp=>kk p _ (ai.ar hp) ae⟩⟩
   | node n l r=>
    obtain ⟨a,vl,vr,rfl,ha,hl,hR⟩:=hv
    have tj:(Tr.node n l r).dep=max l.dep r.dep+1:=rfl
    have z1:=Nat.le_trans (jO l) (gz (t:=l) (by omega))
    have z2:=Nat.le_trans (jO r) (gz (t:=r) (by omega))
    refine ⟨_,rfl,_,_, "bool",false,rfl,.tup ha,rfl,_,rfl,jl ?_⟩
    refine ⟨_,rfl,a,_,0,_,rfl,rfl,aP.of ha,aA (j:=0) rfl,(by show 1<=sizeLine; decide),λp1 yC=>?_⟩
    have s1:ai H (upd H p1 (.lst [.str n])):=ai.ar yC
    have q1:(upd H p1 (.lst [.str n])) p1=some (.lst [.str n]):=ae
    generalize upd H p1 (.lst [.str n])=H1 at s1 q1 ⊢
    refine ⟨_,rfl,a,_,1,_,rfl,rfl,aP.of (s1 _ _ ha),aA (j:=1) rfl,vl,l,rfl,hl.keep (cv s1),by omega,by omega,λp2 H2 s2 q2=>?_⟩
    refine ⟨p1,p2,_,_,rfl,rfl,s2 _ _ q1,q2,(by rw [List.length_map]; exact oM (by show 1+(dh l).length<=1000; omega)),λp3 oN=>?_⟩
    have s3:ai H2 (upd H2 p3 (.lst ([.str n]++(dh l).map V.str))):=ai.ar oN
    have q3:(upd H2 p3 (.lst ([.str n]++(dh l).map V.str))) p3=some (.lst ([.str n]++(dh l).map V.str)):=ae
    generalize upd H2 p3 (.lst ([.str n]++(dh l).map V.str))=H3 at s3 q3 ⊢
    have vY:=s1.trans (s2.trans s3)
    refine ⟨_,rfl,a,_,2,_,rfl,rfl,aP.of (vY _ _ ha),aA (j:=2) rfl,vr,r,rfl,hR.keep (cv vY),by omega,by omega,λp4 H4 s4 q4=>?_⟩
    refine ⟨p3,p4,_,_,rfl,rfl,s4 _ _ q3,q4,(by rw [List.length_append,List.length_map,List.length_map]; exact LI (by show 1+(dh l).length+(dh r).length<=2000; omega)),λp5 sD=>?_⟩
    refine kk p5 _ (vY.trans (s4.trans (ai.ar sD))) ?_
    rw [ae]
    show some (HO.lst ([V.str n]++(dh l).map V.str++(dh r).map V.str))=some (HO.lst ((n::(dh l++dh r)).map V.str))
    rw [List.map_cons,List.map_append]
    rfl
end
end Gen
namespace Gen
open PySem L2
abbrev pW:Stmt:=top 20
theorem uy {K:W.Frag}{a:Addr}{xs:List V}{g:TG}{tb:TS}{D:Ends}{σ:St}{H:Hp}(Pv:Nat->St->Hp->Prop) (h0:Pv 0 σ H) (hl:∀i σ H,i<=xs.length->Pv i σ H->ay K H a xs)
 (hs:∀i x T σ H,xs[i]?=some x->H T=none->Pv i σ H->g (.ref T) σ (upd H T (.tup [.int (i:Int),x])) λgi H2=>tb { D with nx:=Pv (i+1),ct:=Pv (i+1),bk:=D.nx } gi H2) (hd:∀σ H,Pv xs.length σ H->D.nx σ H) :
 ∃W:Nat->Nat->St->Hp->Prop,(∃m,W 0 m σ H)/\∀i m σ H,W i m σ H->
  ((yn K a).stop i H/\D.nx σ H)\/((yn K a).go i H/\∃N:St->Hp->Prop,(∀bG H',N bG H'->∃m',m'<m/\W (i+1) m' bG H')/\∀x H',(yn K a).yld i H x H'->g x σ H' λgi H2=>tb { D with nx:=N,ct:=N,bk:=D.nx } gi H2):=by
 refine ⟨λi m σ H=>m=xs.length-i/\i<=xs.length/\Pv i σ H,⟨xs.length,by simp,Nat.zero_le _,h0⟩,?_⟩
 rintro i m σ H ⟨rfl,hi,p⟩
 have q:=hl i σ H hi p
 by_cases eG:i<xs.length
 . refine .inr ⟨⟨xs,xs[i],q,by simp [eG]⟩,Pv (i+1),λbG H' p'=>⟨xs.length-(i+1),by omega,rfl,eG,p'⟩,λx H' y=>?_⟩
   obtain ⟨T,v,rfl,hT,rfl,hv⟩:=y
   exact hs i v T σ H (hv xs q) hT p
 . refine .inl ⟨⟨xs,q,by omega⟩,?_⟩
   obtain rfl:i=xs.length:=by omega
   exact hd σ H p
def xu:Sp:=λvs H Q _=>∃(p q:Addr) (names:List Str) (bs:List Bool),vs=[.ref p,.ref q]/\Ord H p names/\H q=some (.lst (bs.map bV))/\bs.length=2 ^ names.length/\∀(v:V) (H':Hp),ai H H'->aZ H' (cn names bs) v->Q v H'
abbrev Qo:List Str:=["_law_names", "_law_bits_here", "_law_made", "_law_place", "_law_row", "_law_one", "_law_name", "_law_bit", "_law_tree"]
abbrev wm:List Str:=["_law_names", "_law_bits_here"]
theorem mx {names:List Str}{j:Nat}{n:Str}(h:names[j]?=some n) (b:Bool):cg names (.node n (.leaf b) (.leaf (!b))):=by
 have hj:=(List.getElem?_eq_some_iff.mp h).1
 refine fk (i:=0) (j:=j) (ns:=names) ?_ (Nat.zero_le _)
 rw [List.drop_eq_getElem_cons hj]
 rw [List.getElem?_eq_getElem hj] at h
 rw [Option.some.inj h]
 exact .node (λz=>by cases b <;> cases z) (.leaf _ _) (.leaf _ _)
theorem uz {e:Str->Bool}{names:List Str}{row:List Int}{j:Nat}{n:Str}{x:Int}(hn:names[j]?=some n) (hx:row[j]?=some x):row.take (j+1)=rowOf e (names.take (j+1)) ↔ (row.take j=rowOf e (names.take j)/\x=bI (e n)):=by
 unfold rowOf
 rw [List.take_succ,List.take_succ,hn,hx,Option.toList_some,Option.toList_some,List.map_append]
 constructor
 . intro h
   obtain ⟨h1,h2⟩:=List.append_inj' h rfl
   exact ⟨h1,(List.cons.inj h2).1⟩
 . rintro ⟨h1,h2⟩
   rw [h1,h2]
   rfl
section
variable {P:Program}{w:World}{K:W.Frag}{mg:Str->Option Value}{base:Heap}
theorem iZ:aT Qo wm (ak pW):=⟨rfl,rfl,rfl,by decide +kernel,rfl,by decide +kernel,by decide +kernel⟩
theorem Fg {f fA fB fE fO:Addr}{fd dA dB dE dO:FuncData}(F:cy K "_law_put_together" "_law_put_together" pW f fd) (O2:fZ mg) (O:Own mg)
 (gA:av P w K mg base aF 1 fA dA ["_law_many"] (pj K)) (mA:mg "_law_all_bits" = some (.ref fA)) (kA:W.keepIn K (.ref fA)=true) (bA:Binds K dA ["_law_many"] [])
 (gB:av P w K mg base aF 11 fB dB m8 (rf and)) (mB:mg "both" = some (.ref fB)) (kB:W.keepIn K (.ref fB)=true) (bB:Binds K dB m8 [])
 (gE:av P w K mg base aF 11 fE dE m8 (rf or)) (mE:mg "either" = some (.ref fE)) (kE:W.keepIn K (.ref fE)=true) (bE:Binds K dE m8 [])
 (gO:av P w K mg base aF 10 fO dO ["tree"] xh) (mO:mg "opposite" = some (.ref fO)) (kO:W.keepIn K (.ref fO)=true) (bO:Binds K dO ["tree"] []):av P w K mg base aF 12 f fd wm xu:=by
 refine F.ok iZ (λvs H Q E h=>?_) (λcdv A outer s H vs Q E hr h=>?_)
 . obtain ⟨p,q,names,bs,rfl,_⟩:=h
   rfl
 . obtain ⟨p,q,names,bs,rfl,hO,hq,kL,kk⟩:=h
   have dM:bx 1 _:=hr.mono (by decide)
   have As:bx 10 _:=hr.mono (by decide)
   refine ⟨_,af (ax (i:=2) iZ.nd rfl (Or.inl rfl) d9)
    (af (fJ PassesOwn.never rfl (pK rfl O.enum (aa (aI gA dM rfl mA kA bA .nil aB (aa (aU bo (by rfl) O2.len PySem.boot_len (aa (pv 0) ab)) ab)) ab)) (n9 rfl (eF (aW (i:=3) iZ.nd rfl (Or.inl rfl)) (eF (aW (i:=4) iZ.nd rfl (Or.inl rfl)) lT)))
     (ao (bQ (bz dq (aQ (r:=fU K) b0 (pv 1) (pv 3) (λ_ _=>rfl)) ag (bL _))
      (af (ax (i:=5) iZ.nd rfl (Or.inl rfl) d9)
      (af (fJ PassesOwn.never rfl (CP rfl O2.zip (aa (pv 0) (aa (pv 4) ab))) (n9 rfl (eF (aW (i:=6) iZ.nd rfl (Or.inl rfl)) (eF (aW (i:=7) iZ.nd rfl (Or.inl rfl)) lT)))
       (af (ax (i:=8) iZ.nd rfl (Or.inl rfl) (df (aa (pv 6) (aa d9 (aa d9 ab)))))
       (af (bQ (bz dq (pv 7) ag (bL _)) (ao (ax (i:=8) iZ.nd rfl (Or.inl rfl) (aI gO As rfl mO kO bO .nil aB (aa (pv 8) ab)))) aV)
       (ao (ax (i:=5) iZ.nd rfl (Or.inl rfl) (aI gB hr rfl mB kB bB .nil aB (aa (pv 0) (aa (pv 5) (aa (pv 8) ab)))))))))
      (ao (ax (i:=2) iZ.nd rfl (Or.inl rfl) (aI gE hr rfl mE kE bE .nil aB (aa (pv 0) (aa (pv 5) (aa (pv 2) ab)))))))) aV)))
    (ao (aK (pv 2)))),?_⟩
   have n8:=hO.n8
   have zu:(names.map V.str).length<=8:=by rw [List.length_map]; exact n8
   have Qp:=tW n8
   refine ⟨_,rfl,p,_,rfl,.inl (ay.of hO.at_),_,rfl,zu,λR us H1 s1 hR JH uA=>?_⟩
   rw [List.length_map] at uA
   have BA:=uA.length
   rw [cJ] at BA
   refine ⟨R,rfl,⟨_,ay.of JH⟩,uy (K:=K) (a:=R) (xs:=us.map V.ref) (λi σ Hi=>∃(m:V) (tm:Tr) (v3 v4 v5 v6 v7 v8:Option V),σ=[some (.ref p),some (.ref q),some m,v3,v4,v5,v6,v7,v8]/\ai H1 Hi/\aZ Hi tm m/\cg names tm/\∀e,ev e tm=true ↔ ∃t,t<i/\bs.getD t false=true/\(bY names.length)[t]?=some (rowOf e names)) ?_ ?_ ?_ ?_⟩
   . exact ⟨_,.leaf false,_,_,_,_,_,_,rfl,λ_ _ h=>h,rfl,.leaf _ _,λe=>⟨λz=>(nomatch z),λ⟨t,h,_⟩=>absurd h (Nat.not_lt_zero _)⟩⟩
   . rintro i σ Hi _ ⟨m,tm,v3,v4,v5,v6,v7,v8,rfl,si,_⟩
     exact ay.of (si _ _ JH)
   . rintro i xv Tp σ Hi pq hT ⟨m,tm,v3,v4,v5,v6,v7,v8,rfl,si,tv,tc,te⟩
     have hi:i<us.length:=by
      have:=(List.getElem?_eq_some_iff.mp pq).1
      rwa [List.length_map] at this
     have uB:i<2 ^ names.length:=by omega
     have ex:xv=.ref us[i]:=by
      rw [List.getElem?_map,List.getElem?_eq_getElem hi] at pq
      exact (Option.some.inj pq).symm
     subst ex
     have jG:(bY names.length)[i]?=some ((bY names.length)[i]'(by rw [cJ]; exact uB)):=List.getElem?_eq_getElem _
     have lR:aP K H1 us[i] (((bY names.length)[i]'(by rw [cJ]; exact uB)).map V.int):=by
      obtain ⟨a,lC,Fh⟩:=hV uA jG
      rw [List.getElem?_eq_getElem hi] at lC
      rw [Option.some.inj lC]
      exact Fh
     obtain ⟨pk,zv⟩:=kj _ _ (List.mem_of_getElem? jG)
     generalize (bY names.length)[i]'(by rw [cJ]; exact uB)=row at jG lR pk zv
     generalize us[i]=ra at pq lR ⊢
     have sT:ai Hi (upd Hi Tp (.tup [.int (i:Int),.ref ra])):=ai.ar hT
     have qT:(upd Hi Tp (.tup [.int (i:Int),.ref ra])) Tp=some (.tup [.int (i:Int),.ref ra]):=ae
     refine ⟨Tp,_,rfl,aP.of qT,rfl,_,_,rfl,_,_,rfl,rfl,?_⟩
     have wo:=si.trans sT
     have Fi:=tv.keep (cv sT)
     generalize upd Hi Tp (.tup [.int (i:Int),.ref ra])=Hj at sT qT wo Fi ⊢
     have pz:=s1.trans wo
     have zw:i<bs.length:=by omega
     refine ⟨_,rfl,_,rfl,q,_,_,bV bs[i],rfl,rfl,ay.of (pz _ _ hq),aA (by rw [List.getElem?_map,List.getElem?_eq_getElem zw]; rfl),rfl,_,rfl,?_⟩
     have JI:bs.getD i false=bs[i]:=by rw [List.getD_eq_getElem?_getD,List.getElem?_eq_getElem zw]; rfl
     cases hb:bs[i]
     . -- no bit
       refine bw (decide_eq_false λz=>by cases z) ?_
       refine ⟨m,tm,_,_,_,_,_,_,rfl,wo,Fi,tc,λe=>?_⟩
       rw [te e]
       constructor
       . rintro ⟨t,h1,h2,h3⟩
         exact ⟨t,by omega,h2,h3⟩
       . rintro ⟨t,h1,h2,h3⟩
         by_cases et:t=i
         . rw [et,JI,hb] at h2
           cases h2
         . exact ⟨t,by omega,h2,h3⟩
     . refine cb (decide_eq_true rfl) ?_
       refine ⟨_,rfl,_,rfl,p,ra,rfl,⟨_,ay.of (pz _ _ hO.at_)⟩,⟨_,je wo lR⟩,CQ (K:=K) (tp:=false) (tq:=true) (a:=p) (b:=ra) (xs:=names.map V.str) (ys:=row.map V.int) (by rw [List.length_map,List.length_map,pk]; exact Nat.le_refl _) (λj σ Hk=>∃(o:V) (t1:Tr) (v6 v7 v8:Option V),σ=[some (.ref p),some (.ref q),some m,some (.int (i:Int)),some (.ref ra),some o,v6,v7,v8]/\ai Hj Hk/\aZ Hk t1 o/\cg names t1/\∀e,ev e t1=true ↔ row.take j=rowOf e (names.take j)) ?_ ?_ ?_ ?_⟩
       . exact ⟨_,.leaf true,_,_,_,rfl,λ_ _ h=>h,rfl,.leaf _ _,λe=>⟨λ_=>rfl,λ_=>rfl⟩⟩
       . rintro j σ Hk _ ⟨o,t1,v6,v7,v8,rfl,sk,_⟩
         exact ⟨ay.of (sk _ _ (pz _ _ hO.at_)),je (wo.trans sk) lR⟩
       . rintro j x y T2 σ Hk hx hy DM ⟨o,t1,v6,v7,v8,rfl,sk,ot,oc,oe⟩
         have Qq:j<names.length:=by
          have:=(List.getElem?_eq_some_iff.mp hx).1
          rwa [List.length_map] at this
         have qO:names[j]?=some names[j]:=List.getElem?_eq_getElem Qq
         have qN:row[j]?=some (row[j]'(by omega)):=List.getElem?_eq_getElem _
         rw [List.getElem?_map,qO] at hx
         rw [List.getElem?_map,qN] at hy
         cases hx
         cases hy
         have Fj:=zv _ (List.mem_of_getElem? qN)
         generalize row[j]'(by omega)=bt at qN Fj
         generalize names[j]=gf at qO
         have Fl:ai Hk (upd Hk T2 (.tup [.str gf,.int bt])):=ai.ar DM
         have JJ:(upd Hk T2 (.tup [.str gf,.int bt])) T2=some (.tup [.str gf,.int bt]):=ae
         refine ⟨T2,_,rfl,aP.of JJ,rfl,_,_,rfl,_,_,rfl,rfl,?_⟩
         have JK:=sk.trans Fl
         have Fm:=ot.keep (cv Fl)
         show dZ _ _ _ _ (upd Hk T2 (.tup [.str gf,.int bt]))
         generalize upd Hk T2 (.tup [.str gf,.int bt])=Hl at Fl JJ JK Fm ⊢
         refine ⟨_,rfl,(by show 3<=sizeLine; decide),λtt Qr=>?_⟩
         have sm:ai Hl (upd Hl tt (.tup [.str gf,.bl false,.bl true])):=ai.ar Qr
         have qm:(upd Hl tt (.tup [.str gf,.bl false,.bl true])) tt=some (.tup [.str gf,.bl false,.bl true]):=ae
         show dZ _ _ _ _ (upd Hl tt (.tup [.str gf,.bl false,.bl true]))
         generalize upd Hl tt (.tup [.str gf,.bl false,.bl true])=Hm at sm qm ⊢
         have BB:=JK.trans sm
         have tT:aZ Hm (.node gf (.leaf false) (.leaf true)) (.ref tt):=⟨tt,_,_,rfl,qm,rfl,rfl⟩
         have Fn:∀{Hx:Hp},ai Hj Hx->Ord Hx p names:=λs=>⟨s _ _ (pz _ _ hO.at_),hO.nd,hO.ok,hO.n8⟩
         refine ⟨_,rfl,rfl,_,rfl,?_⟩
         rcases Fj with rfl | rfl
         . refine cb (decide_eq_true rfl) ?_
           refine ⟨_,rfl,.ref tt,_,rfl,tT,Nat.le_trans (cI (mx qO false)) n8,vJ (mx qO false) hO.ok,λu Hn sn Qs=>?_⟩
           refine ⟨_,rfl,_,rfl,_,rfl,p,o,u,names,t1,neg (.node gf (.leaf false) (.leaf true)),rfl,Fn (BB.trans sn),Fm.keep (cv (sm.trans sn)),Qs,oc,Cu (mx qO false),λw tw Ho so hw cw ew=>?_⟩
           refine ⟨w,tw,_,_,_,rfl,BB.trans (sn.trans so),hw,cw,λe=>?_⟩
           rw [ew e,Bool.and_eq_true,oe e,uz qO qN,sR]
           show _/\(!(if e gf=true then true else false))=true ↔ _/\(0:Int)=bI (e gf)
           cases e gf
           . exact ⟨λh=>⟨h.1,rfl⟩,λh=>⟨h.1,rfl⟩⟩
           . exact ⟨λh=>(nomatch h.2),λh=>(nomatch h.2)⟩
         . refine bw (decide_eq_false λz=>by cases z) ?_
           refine ⟨_,rfl,_,rfl,_,rfl,p,o,.ref tt,names,t1,.node gf (.leaf false) (.leaf true),rfl,Fn BB,Fm.keep (cv sm),tT,oc,mx qO false,λw tw Ho so hw cw ew=>?_⟩
           refine ⟨w,tw,_,_,_,rfl,BB.trans so,hw,cw,λe=>?_⟩
           rw [ew e,Bool.and_eq_true,oe e,uz qO qN]
           show _/\(if e gf=true then true else false)=true ↔ _/\(1:Int)=bI (e gf)
           cases e gf
           . exact ⟨λh=>(nomatch h.2),λh=>(nomatch h.2)⟩
           . exact ⟨λh=>⟨h.1,rfl⟩,λh=>⟨h.1,rfl⟩⟩
       . rintro σ Hk ⟨o,t1,v6,v7,v8,rfl,sk,ot,oc,oe⟩
         rw [List.length_map] at oe
         have LK:Ord Hk p names:=⟨sk _ _ (pz _ _ hO.at_),hO.nd,hO.ok,hO.n8⟩
         refine ⟨_,rfl,_,rfl,_,rfl,p,o,m,names,t1,tm,rfl,LK,ot,Fi.keep (cv sk),oc,tc,λw tw Ho so hw cw ew=>?_⟩
         refine ⟨w,tw,_,_,_,_,_,_,rfl,wo.trans (sk.trans so),hw,cw,λe=>?_⟩
         rw [ew e,Bool.or_eq_true,oe e,te e,List.take_of_length_le (by omega),List.take_length]
         constructor
         . rintro (h | ⟨t,h1,h2,h3⟩)
           . exact ⟨i,by omega,by rw [JI,hb],by rw [jG,h]⟩
           . exact ⟨t,by omega,h2,h3⟩
         . rintro ⟨t,h1,h2,h3⟩
           by_cases et:t=i
           . rw [et,jG] at h3
             exact .inl (Option.some.inj h3)
           . exact .inr ⟨t,by omega,h2,h3⟩
   . rintro σ Hi ⟨m,tm,v3,v4,v5,v6,v7,v8,rfl,si,tv,tc,te⟩
     rw [List.length_map,BA] at te
     have et:tm=cn names bs:=fw hO.nd tc (iS _ _) λe=>by
      rw [Bool.eq_iff_iff,te e]
      constructor
      . rintro ⟨t,h1,h2,h3⟩
        rw [lQ e names bs t kL h3]
        exact h2
      . intro h
        obtain ⟨t,h1,h2⟩:=zt e names
        rw [lQ e names bs t kL h2] at h
        exact ⟨t,h1,h,h2⟩
     rw [et] at tv
     exact ⟨_,rfl,kk m Hi (s1.trans si) tv⟩
end
end Gen
namespace Gen
open PySem L2
abbrev my:Stmt:=top 22
def wd (c:Nat):List Str:=(List.range 8).map λi=>rep1 c (i+1)
def words:List Str:=wd 113++wd 122
theorem Au:(words.map λz:Str=>z.cps.toList).Nodup:=by decide +kernel
theorem xw {names:List Str}(h:names.length<=8):∃x∈words,x∉names:=by
 apply Classical.byContradiction
 intro hx
 have all:∀x∈words.map (λz:Str=>z.cps.toList),x∈names.map (λz:Str=>z.cps.toList):=λx hs=>by
  obtain ⟨z,hz,rfl⟩:=List.mem_map.mp hs
  exact List.mem_map.mpr ⟨z,Classical.byContradiction λht=>hx ⟨z,hz,ht⟩,rfl⟩
 have:=nE _ _ Au all
 rw [List.length_map,List.length_map] at this
 have e:words.length=16:=by decide +kernel
 omega
theorem zx {D:Addr}{c:Nat}{z:Str}{Q:Hp->Prop}{H:Hp}(hz:z=⟨#[c]⟩) (hD:H D=none) (fin:∀H',ai H H'->H' D=some (.lst ((wd c).map V.str))->Q H') :
 ∃W:Nat->Nat->St->Hp->Prop,(∃m,W 0 m [none] (upd H D (.lst [])))/\sg D (eZ 0) lB (rM Br (tC (.str z)) (jf 0)) (pZ 1 ((9:Int)-1).toNat) W Q:=by
 have e8:((9:Int)-1).toNat=8:=rfl
 rw [e8]
 refine gx 8 (λi acc σ H9=>acc=((List.range i).map λi=>rep1 c (i+1)).map V.str/\(∃u,σ=[u])/\ai H H9) ⟨rfl,⟨none,rfl⟩,ai.ar hD⟩ ae ?_ ?_
 . rintro acc σ H9 cO ⟨rfl,_,s9⟩
   exact ⟨Nat.le_refl _,fin H9 s9 cO⟩
 . rintro i acc σ H9 hi cO ⟨rfl,⟨u,rfl⟩,s9⟩
   refine ⟨hi,?_⟩
   rintro x H' ⟨rfl,rfl⟩
   refine eJ ⟨_,rfl,c,i+1,by rw [hz],?_,by omega,_,cO,?_,cM hi ae ⟨?_,⟨_,rfl⟩,λb o hb=>?_⟩⟩
   . show V.int (1+(i:Int))=V.int ((i+1:Nat):Int)
     congr 1
     omega
   . rw [List.length_map,List.length_map,List.length_range]
     exact small (by omega)
   . rw [List.range_succ,List.map_append,List.map_append]
     rfl
   . rw [aj (ah hb hD)]
     exact s9 _ _ hb
theorem CU {K:W.Frag}{D a t:Addr}{ws told:List Str}{Q:Hp->Prop}{H:Hp}(hl:ws.length<=100) (hD:H D=none) (ha:H a=some (.lst (ws.map V.str))) (ht:H t=some (.lst (told.map V.str)))
 (fin:∀H',ai H H'->H' D=some (.lst ((ws.filter λz=>!decide (z∈told)).map V.str))->Q H') :
 ∃W:Nat->Nat->St->Hp->Prop,(∃m,W 0 m [none,some (.ref t)] (upd H D (.lst [])))/\sg D (eZ 0) (AK (rM (AU K true) (jf 0) (jf 1))) (jf 0) (xH K a) W Q:=by
 refine gx ws.length (λi acc σ H9=>acc=((ws.take i).filter λz=>!decide (z∈told)).map V.str/\(∃u,σ=[u,some (.ref t)])/\ai H H9) ⟨rfl,⟨none,rfl⟩,ai.ar hD⟩ ae ?_ ?_
 . rintro acc σ H9 cO ⟨rfl,_,s9⟩
   rw [List.take_length] at cO
   exact ⟨⟨_,ay.of (s9 _ _ ha),by rw [List.length_map]; exact Nat.le_refl _⟩,fin H9 s9 cO⟩
 . rintro i acc σ H9 hi cO ⟨rfl,⟨u,rfl⟩,s9⟩
   have mQ:ws[i]?=some ws[i]:=List.getElem?_eq_getElem hi
   have hx:(ws.map V.str)[i]?=some (.str ws[i]):=by rw [List.getElem?_map,mQ]; rfl
   refine ⟨⟨_,_,ay.of (s9 _ _ ha),hx⟩,?_⟩
   rintro x H' ⟨rfl,gm⟩
   have ex:=gm _ (ay.of (s9 _ _ ha))
   rw [hx] at ex
   cases ex
   refine ⟨_,rfl,_,rfl,t,_,rfl,.inl (ay.of (s9 _ _ ht)),rfl,qt told,_,rfl,?_⟩
   have Ab:(((ws.take i).filter λz=>!decide (z∈told)).map V.str).length<sizeLine:=by
    rw [List.length_map]
    refine Nat.lt_of_le_of_lt (List.length_filter_le _ _) ?_
    rw [List.length_take]
    exact small (by omega)
   refine lz (λh=>?_) (λh=>?_)
   . have sE:ws[i]∉told:=by simpa [md] using h
     refine ⟨_,rfl,_,cO,Ab,cM hi ae ⟨?_,⟨_,rfl⟩,λb o hb=>by rw [aj (ah hb hD)]; exact s9 _ _ hb⟩⟩
     rw [take_succ_filter _ _ _ _ mQ,if_pos (by simp [sE]),List.map_append]
     rfl
   . have sE:ws[i]∈told:=by simpa [md] using h
     refine cM hi cO ⟨?_,⟨_,rfl⟩,s9⟩
     rw [take_succ_filter _ _ _ _ mQ,if_neg (by simp [sE]),List.append_nil]
def iA (names:List Str) (row:List Int):List (Key×V):=(names.map Sum.inr).zip (row.map V.int)
def eR (names:List Str) (row:List Int):Str->Bool:=λz=>decide (aX (iA names row) (.inr z)=some (V.int 1))
theorem uC:∀(names:List Str) (row:List Int),row.length=names.length->(iA names row).map (·.1)=names.map Sum.inr
 | [],_,_=>rfl
 | n::r,[],h=>nomatch h
 | n::r,x::row,h=>by
  show (Sum.inr n)::(iA r row).map (·.1)=_
  rw [uC r row (Nat.succ.inj h)]
  rfl
theorem Fo:∀(names:List Str) (row:List Int),names.Nodup->row.length=names.length->(∀x∈row,x=0\/x=1)->(∀n∈names,aX (iA names row) (.inr n)=some (bV (eR names row n)))/\rowOf (eR names row) names=row:=by
 have key:∀(names:List Str) (row:List Int) (j:Nat) (n:Str) (x:Int),names.Nodup->names[j]?=some n->row[j]?=some x->aX (iA names row) (.inr n)=some (V.int x):=by
  intro names
  induction names with
  | nil=>intro row j n x _ h _; simp at h
  | cons m r ih=>
   intro row j n x hn h1 h2
   cases row with
   | nil=>simp at h2
   | cons y row=>
    cases j with
    | zero=>
     have e1:m=n:=by simpa using h1
     have e2:y=x:=by simpa using h2
     subst e1 e2
     exact bU rfl
    | succ j=>
     have JL:r[j]?=some n:=by simpa using h1
     have gg:n≠m:=λe=>(List.nodup_cons.mp hn).1 (e ▸ List.mem_of_getElem? JL)
     refine (bJ λq=>gg (Sum.inr.inj q).symm).trans (ih row j n x (List.nodup_cons.mp hn).2 JL (by simpa using h2))
 intro names row hn hl hb
 have eb:∀(j:Nat) (n:Str) (x:Int),names[j]?=some n->row[j]?=some x->eR names row n=decide (x=1):=λj n x h1 h2=>by
  unfold eR
  rw [key names row j n x hn h1 h2,Bool.eq_iff_iff,decide_eq_true_iff,decide_eq_true_iff]
  exact ⟨λh=>by cases h; rfl,λh=>by rw [h]⟩
 refine ⟨λn hm=>?_,?_⟩
 . obtain ⟨j,hj,rfl⟩:=List.getElem_of_mem hm
   have h1:=List.getElem?_eq_getElem hj
   have h2:=List.getElem?_eq_getElem (show j<row.length by omega)
   rw [key names row j _ _ hn h1 h2,eb j _ _ h1 h2]
   rcases hb _ (List.getElem_mem (show j<row.length by omega)) with e | e <;> rw [e] <;> rfl
 . apply List.ext_getElem?
   intro j
   unfold rowOf
   rw [List.getElem?_map]
   by_cases hj:j<names.length
   . have h1:=List.getElem?_eq_getElem hj
     have h2:=List.getElem?_eq_getElem (show j<row.length by omega)
     rw [h1,h2,Option.map_some,eb j _ _ h1 h2]
     rcases hb _ (List.getElem_mem (show j<row.length by omega)) with e | e <;> rw [e] <;> rfl
   . rw [List.getElem?_eq_none (by omega),List.getElem?_eq_none (by omega)]
     rfl
theorem zy {names:List Str}{row:List Int}(hn:names.Nodup) (hl:row.length=names.length):bZ [] (iA names row)=iA names row:=iG _ [] (by
 rw [List.nil_append,uC names row hl]
 exact List.pairwise_map.mpr (List.Pairwise.imp (λh z=>h (Sum.inr.inj z)) hn))
theorem qP (g:Str->V):∀(l:List Str) (acc:List (Key×V)) (n:Str),(n∈l\/aX acc (.inr n)=some (g n))->aX (bZ acc (l.map λz=>((.inr z:Key),g z))) (.inr n)=some (g n)
 | [],acc,n,h=>by
  rcases h with h | h
  . exact nomatch h
  . exact h
 | z::l,acc,n,h=>by
  show aX (bZ (putK acc (.inr z) (g z)) (l.map λz=>((.inr z:Key),g z))) (.inr n)=some (g n)
  refine qP g l _ n ?_
  by_cases e:n=z
  . right
    rw [nr,e,if_pos rfl]
  . rcases h with h | h
    . rcases List.mem_cons.mp h with h | h
      . exact absurd h e
      . exact .inl h
    . right
      rw [nr,if_neg (λq=>e (Sum.inr.inj q))]
      exact h
end Gen
namespace Gen
open PySem L2
def uD:Sp:=λvs H Q _=>∃(p q:Addr) (v:V) (names:List Str) (bs:List Bool),vs=[.ref p,.ref q,v]/\Ord H p names/\H q=some (.lst (bs.map bV))/\bs.length=2 ^ names.length/\aZ H (cn names bs) v/\∀H',ai H H'->Q (.bl true) H'
abbrev Qt:List Str:=["_law_names", "_law_bits_here", "_law_tree", "_law_own", "_law_some", "_law_free", "_law_place", "_law_row", "_law_values", "_law_found", "_law_turn"]
abbrev wq:List Str:=["_law_names", "_law_bits_here", "_law_tree"]
theorem Fp:(["_law_size"]:List Str).Nodup:=by decide +kernel
theorem LL:(["_law_word", "_law_names"]:List Str).Nodup:=by decide +kernel
theorem LM:(["_law_name", "_law_values"]:List Str).Nodup:=by decide +kernel
theorem Fq {D a d:Addr}{l:List Str}{kvs:List (Key×V)}{g:Str->V}{K:W.Frag}{Q:Hp->Prop}{H:Hp}(hl:l.length<=600) (hD:H D=none) (ha:H a=some (.lst (l.map V.str))) (hd:H d=some (.dK kvs)) (hg:∀n∈l,aX kvs (.inr n)=some (g n))
 (fin:∀H' (ts:List Addr),ai H H'->H' D=some (.lst (ts.map V.ref))->Paired (λt (kv:Key×V)=>H' t=some (.tup [kV kv.1,kv.2])) ts (l.map λz=>((.inr z:Key),g z))->Q H') :
 ∃W:Nat->Nat->St->Hp->Prop,(∃m,W 0 m [none,some (.ref d)] (upd H D (.lst [])))/\sg D (eZ 0) lB (zL (jS (jf 0) (jS (AN (jf 1) (jf 0)) wH))) (xH K a) W Q:=by
 refine gx l.length (λi acc σ H9=>(∃ts:List Addr,acc=ts.map V.ref/\Paired (λt (kv:Key×V)=>H9 t=some (.tup [kV kv.1,kv.2])) ts ((l.take i).map λz=>((.inr z:Key),g z)))/\(∃u,σ=[u,some (.ref d)])/\ai H H9) ⟨⟨[],rfl,.nil⟩,⟨none,rfl⟩,ai.ar hD⟩ ae ?_ ?_
 . rintro acc σ H9 cO ⟨⟨ts,rfl,jM⟩,_,s9⟩
   rw [List.take_length] at jM
   exact ⟨⟨_,ay.of (s9 _ _ ha),by rw [List.length_map]; exact Nat.le_refl _⟩,fin H9 ts s9 cO jM⟩
 . rintro i acc σ H9 hi cO ⟨⟨ts,rfl,jM⟩,⟨u,rfl⟩,s9⟩
   have mQ:l[i]?=some l[i]:=List.getElem?_eq_getElem hi
   have hx:(l.map V.str)[i]?=some (.str l[i]):=by rw [List.getElem?_map,mQ]; rfl
   refine ⟨⟨_,_,ay.of (s9 _ _ ha),hx⟩,?_⟩
   rintro x H' ⟨rfl,gm⟩
   have ex:=gm _ (ay.of (s9 _ _ ha))
   rw [hx] at ex
   cases ex
   refine eJ ⟨_,rfl,_,rfl,_,rfl,d,g l[i],rfl,?_,(by show 2<=sizeLine; decide),λt ht=>?_⟩
   . have:=fj.k (k:=.inr l[i]) (s9 _ _ hd)
     rw [hg _ (List.getElem_mem hi)] at this
     exact this
   have JM:D≠t:=ah cO ht
   have Qu:=jM.length
   rw [List.length_map,List.length_take] at Qu
   refine ⟨_,(aj JM).trans cO,(by rw [List.length_map]; exact small (by omega)),cM hi ae ⟨⟨ts++[t],by rw [List.map_append]; rfl,?_⟩,⟨_,rfl⟩,λb o hb=>?_⟩⟩
   . rw [List.take_succ,mQ,Option.toList_some,List.map_append]
     refine dJ (Paired.dX jM λb kv e=>?_) (.cons ?_ .nil)
     . rw [aj (dc e cO (by intro z; cases z)),aj (ah e ht)]
       exact e
     . rw [aj (Ne.symm JM),ae]
       rfl
   . rw [aj (ah hb hD),aj (ah (s9 _ _ hb) ht)]
     exact s9 _ _ hb
section
variable {P:Program}{w:World}{K:W.Frag}{mg:Str->Option Value}{base:Heap}
theorem jr:aT Qt wq (ak my):=⟨rfl,rfl,rfl,by decide +kernel,rfl,by decide +kernel,by decide +kernel⟩
theorem CV {f fA fN fH:Addr}{fd dA dN dH:FuncData}(F:cy K "_law_held" "_law_held" my f fd) (O2:fZ mg) (O:Own mg)
 (gA:av P w K mg base aF 1 fA dA ["_law_many"] (pj K)) (mA:mg "_law_all_bits" = some (.ref fA)) (kA:W.keepIn K (.ref fA)=true) (bA:Binds K dA ["_law_many"] [])
 (gN:av P w K mg base aF 9 fN dN ["_law_tree"] (rm 9)) (mN:mg "_law_names_in" = some (.ref fN)) (kN:W.keepIn K (.ref fN)=true) (bN:Binds K dN ["_law_tree"] [])
 (gH:av P w K mg base aF 1 fH dH ["tree", "values"] wk) (mH:mg "holds" = some (.ref fH)) (kH:W.keepIn K (.ref fH)=true) (bH:Binds K dH ["tree", "values"] []):av P w K mg base aF 10 f fd wq uD:=by
 refine F.ok jr (λvs H Q E h=>?_) (λcdv A outer s H vs Q E hr h=>?_)
 . obtain ⟨p,q,v,names,bs,rfl,_⟩:=h
   rfl
 . obtain ⟨p,q,v,names,bs,rfl,hO,hq,kL,hv,kk⟩:=h
   have hu:=jV hr
   have dM:bx 1 _:=hr.mono (by decide)
   refine ⟨_,af (ax (i:=3) jr.nd rfl (Or.inl rfl) (aI gN hr rfl mN kN bN .nil aB (aa (pv 2) ab)))
    (af (ax (i:=4) jr.nd rfl (Or.inl rfl) (aO gZ (ee (N:=["_law_size"]) (js:=[none]) (by kernel_rfl) rfl (qa rfl O.range (aa ag (aa ag ab))) (λ_ _ _ _ _ _=>aW (i:=0) Fp rfl (Or.inl rfl) (.inr rfl)) (λ_ _ _ _ _ _=>cG) (λ_ _ _ _ _ _=>aO wa fF (pv 0)))
     (ee (N:=["_law_size"]) (js:=[none]) (by kernel_rfl) rfl (qa rfl O.range (aa ag (aa ag ab))) (λ_ _ _ _ _ _=>aW (i:=0) Fp rfl (Or.inl rfl) (.inr rfl)) (λ_ _ _ _ _ _=>cG) (λ_ _ _ _ _ _=>aO wa fF (pv 0)))))
    (af (ax (i:=5) jr.nd rfl (Or.inl rfl) (aQ (r:=fU K) b0 (ee (N:=["_law_word", "_law_names"]) (js:=[none,some 0]) (by kernel_rfl) rfl (jx (pv 4)) (λ_ _ _ _ _ _=>aW (i:=0) LL rfl (Or.inl rfl) (.inr rfl)) (λ_ _ _ _ _ _=>se (bz (r:=AU K true) lu (pv 0) (pv 1) (by with_unfolding_all rfl))) (λ_ _ _ _ _ _=>pv 0)) ag (λ_ _=>rfl)))
    (af (fJ PassesOwn.never rfl (pK rfl O.enum (aa (aI gA dM rfl mA kA bA .nil aB (aa (aU bo (by rfl) O2.len PySem.boot_len (aa (pv 0) ab)) ab)) ab)) (n9 rfl (eF (aW (i:=6) jr.nd rfl (Or.inl rfl)) (eF (aW (i:=7) jr.nd rfl (Or.inl rfl)) lT)))
     (af (ax (i:=8) jr.nd rfl (Or.inr rfl) (CO rfl O2.dict rfl O2.zip rfl (aa (pv 0) (aa (pv 7) ab))))
     (af (ax (i:=9) jr.nd rfl (Or.inl rfl) (aI gH dM rfl mH kH bH .nil aB (aa (pv 2) (aa (gQ (jb rfl) (by rfl) O2.dict PyProof.Rows.boot_dict (aa (ee (N:=["_law_name", "_law_values"]) (js:=[none,some 8]) (by kernel_rfl) rfl (jx (pv 3)) (λ_ _ _ _ _ _=>aW (i:=0) LM rfl (Or.inl rfl) (.inr rfl)) (λ_ _ _ _ _ _=>cG)
      (λ_ _ _ _ _ _=>df (aa (pv 0) (aa (pF hu (pv 1) (pv 0) (λ_ _=>rfl)) ab)))) ab)) ab))))
     (af (bQ (PW.pt (i5 (jw (eS (aU cL (by rfl) O2.isi PyProof.Rows.boot_isinstance (aa (pv 9) (aa (eM (v:=.ty "bool") (by rfl) O2.bool PyProof.Rows.boot_bool rfl) ab))))) (jv (bz qV (pv 9) (jz dq (aQ (r:=fU K) b0 (pv 1) (pv 6) (λ_ _=>rfl)) ag (bL _)) (bL _))))) (ao (aK d9)) aV)
     (ao (fJ PassesOwn.never rfl (cV rfl O.range (aa ag ab)) (aW (i:=10) jr.nd rfl (Or.inl rfl))
      (af (ax (i:=9) jr.nd rfl (Or.inl rfl) (aI gH dM rfl mH kH bH .nil aB (aa (pv 2) (aa (pv 8) ab))))
      (af (bQ (PW.pt (i5 (jw (eS (aU cL (by rfl) O2.isi PyProof.Rows.boot_isinstance (aa (pv 9) (aa (eM (v:=.ty "bool") (by rfl) O2.bool PyProof.Rows.boot_bool rfl) ab))))) (jv (bz qV (pv 9) (jz dq (aQ (r:=fU K) b0 (pv 1) (pv 6) (λ_ _=>rfl)) ag (bL _)) (bL _))))) (ao (aK d9)) aV)
      (ao (lY hu (pv 8) (pv 5) (aO gM (pv 10) ag) rfl))))))))))
    (ao (aK d9))))),?_⟩
   have n8:=hO.n8
   have zu:(names.map V.str).length<=8:=by rw [List.length_map]; exact n8
   have Qp:=tW n8
   have cc:=iS names bs
   have Fs:=Nat.le_trans (cI cc) n8
   have nl:(dh (cn names bs)).length<=510:=Nat.le_trans (jO _) (gz Fs)
   have JN:∀n∈dh (cn names bs),n∈names:=CT cc
   refine ⟨_,rfl,v,_,rfl,hv,by omega,Fs,λoA H1 s1 Qv=>?_⟩
   refine ⟨_,_,rfl,⟨by decide,by decide,by decide,by decide⟩,λD1 yD=>zx (c:=113) (by decide +kernel) yD λH2 s2 sv=>?_⟩
   refine ⟨_,_,rfl,⟨by decide,by decide,by decide,by decide⟩,λD2 LN=>zx (c:=122) (by decide +kernel) LN λH3 s3 sA=>?_⟩
   refine ⟨D1,D2,_,_,rfl,rfl,s3 _ _ sv,sA,(by decide +kernel),λW hW=>?_⟩
   rw [show (wd 113).map V.str++(wd 122).map V.str=words.map V.str by unfold words; rw [List.map_append]]
   have s4:ai H3 (upd H3 W (.lst (words.map V.str))):=ai.ar hW
   have q4:(upd H3 W (.lst (words.map V.str))) W=some (.lst (words.map V.str)):=ae
   show dZ _ _ _ _ (upd H3 W (.lst (words.map V.str)))
   generalize upd H3 W (.lst (words.map V.str))=H4 at s4 q4 ⊢
   have vW:=s1.trans (s2.trans (s3.trans s4))
   have LO:=(s2.trans (s3.trans s4)) _ _ Qv
   refine ⟨_,rfl,W,rfl,⟨_,ay.of q4⟩,λD5 DZ=>CU (ws:=words) (told:=names) (by decide +kernel) DZ q4 (vW _ _ hO.at_) λH5 s5 JO=>?_⟩
   have Bm:=vW.trans s5
   have LP:=s5 _ _ LO
   obtain ⟨z,hz,DV⟩:=xw n8
   have yE:z∈words.filter λz=>!decide (z∈names):=List.mem_filter.mpr ⟨hz,by simp [DV]⟩
   cases vt:words.filter λz=>!decide (z∈names) with
   | nil=>rw [vt] at yE; cases yE
   | cons z0 rest=>
    have h0:z0∈words.filter λz=>!decide (z∈names):=by rw [vt]; exact List.mem_cons_self
    have Hq:z0∉names:=by simpa using (List.mem_filter.mp h0).2
    rw [vt] at JO
    refine ⟨D5,_,0,.str z0,rfl,rfl,ay.of JO,aA (j:=0) rfl,?_⟩
    refine ⟨_,rfl,p,_,rfl,.inl (ay.of (Bm _ _ hO.at_)),_,rfl,zu,λR us H6 s6 hR JP uA=>?_⟩
    rw [List.length_map] at uA
    have BA:=uA.length
    rw [cJ] at BA
    have JQ:=Bm.trans s6
    have Ft:=s6 _ _ LP
    refine ⟨R,rfl,⟨_,ay.of JP⟩,uy (K:=K) (a:=R) (xs:=us.map V.ref) (λi σ Hi=>∃(v6 v7 v8 v9 v10:Option V),σ=[some (.ref p),some (.ref q),some v,some (.ref oA),some (.ref W),some (.str z0),v6,v7,v8,v9,v10]/\ai H6 Hi) ?_ ?_ ?_ ?_⟩
    . exact ⟨_,_,_,_,_,rfl,λ_ _ h=>h⟩
    . rintro i σ Hi _ ⟨v6,v7,v8,v9,v10,rfl,si⟩
      exact ay.of (si _ _ JP)
    . rintro i xv Tp σ Hi pq hT ⟨v6,v7,v8,v9,v10,rfl,si⟩
      have hi:i<us.length:=by
       have:=(List.getElem?_eq_some_iff.mp pq).1
       rwa [List.length_map] at this
      have uB:i<2 ^ names.length:=by omega
      have ex:xv=.ref us[i]:=by
       rw [List.getElem?_map,List.getElem?_eq_getElem hi] at pq
       exact (Option.some.inj pq).symm
      subst ex
      have jG:(bY names.length)[i]?=some ((bY names.length)[i]'(by rw [cJ]; exact uB)):=List.getElem?_eq_getElem _
      have lR:aP K H6 us[i] (((bY names.length)[i]'(by rw [cJ]; exact uB)).map V.int):=by
       obtain ⟨a,lC,Fh⟩:=hV uA jG
       rw [List.getElem?_eq_getElem hi] at lC
       rw [Option.some.inj lC]
       exact Fh
      obtain ⟨pk,zv⟩:=kj _ _ (List.mem_of_getElem? jG)
      generalize (bY names.length)[i]'(by rw [cJ]; exact uB)=row at jG lR pk zv
      generalize us[i]=ra at pq lR ⊢
      have sT:ai Hi (upd Hi Tp (.tup [.int (i:Int),.ref ra])):=ai.ar hT
      have qT:(upd Hi Tp (.tup [.int (i:Int),.ref ra])) Tp=some (.tup [.int (i:Int),.ref ra]):=ae
      refine ⟨Tp,_,rfl,aP.of qT,rfl,_,_,rfl,_,_,rfl,rfl,?_⟩
      have zz:=si.trans sT
      show dZ _ _ _ _ (upd Hi Tp (.tup [.int (i:Int),.ref ra]))
      generalize upd Hi Tp (.tup [.int (i:Int),.ref ra])=Hj at sT qT zz ⊢
      have pz:=JQ.trans zz
      have zw:i<bs.length:=by omega
      obtain ⟨Fu,JR⟩:=Fo names row hO.nd pk zv
      have qC:ev (eR names row) (cn names bs)=bs[i]:=by
       rw [lQ (eR names row) names bs i kL (by rw [jG,JR]),List.getD_eq_getElem?_getD,List.getElem?_eq_getElem zw]
       rfl
      have Fv:∀b:Bool,decide (bV b=V.int 1)=b:=λb=>by cases b <;> rfl
      generalize eR names row=e at Fu JR qC
      refine ⟨_,rfl,_,rfl,p,ra,names.map Sum.inr,row.map V.int,rfl,.inl (by rw [List.map_map]; exact ay.of (pz _ _ hO.at_)),je zz lR,(by rw [List.length_map,List.length_map,pk]; exact Nat.le_refl _),λd hd=>?_⟩
      rw [show bZ [] ((names.map Sum.inr).zip (row.map V.int))=iA names row from zy hO.nd pk]
      have sk:ai Hj (upd Hj d (.dK (iA names row))):=ai.ar hd
      have qk:(upd Hj d (.dK (iA names row))) d=some (.dK (iA names row)):=ae
      show dZ _ _ _ _ (upd Hj d (.dK (iA names row)))
      generalize upd Hj d (.dK (iA names row))=Hk at sk qk ⊢
      have Qw:=pz.trans sk
      have JS:=zz.trans sk
      refine ⟨_,rfl,_,rfl,oA,rfl,⟨_,ay.of (JS _ _ Ft)⟩,λD7 Qx=>Fq (d:=d) (kvs:=iA names row) (g:=λz=>bV (e z)) (by omega) Qx (JS _ _ Ft) qk (λn hn=>Fu n (JN n hn)) λHl ts sl Qy jM=>?_⟩
      refine ⟨D7,ts,_,rfl,Qy,jM,λd2 hd2=>?_⟩
      have sm:ai Hl (upd Hl d2 (.dK (bZ [] ((dh (cn names bs)).map λz=>((.inr z:Key),bV (e z)))))):=ai.ar hd2
      have qm:(upd Hl d2 (.dK (bZ [] ((dh (cn names bs)).map λz=>((.inr z:Key),bV (e z)))))) d2=some (.dK (bZ [] ((dh (cn names bs)).map λz=>((.inr z:Key),bV (e z))))):=ae
      generalize upd Hl d2 (.dK (bZ [] ((dh (cn names bs)).map λz=>((.inr z:Key),bV (e z)))))=Hm at sm qm ⊢
      have JT:=Qw.trans (sl.trans sm)
      refine ⟨v,d2,cn names bs,_,e,rfl,hv.keep (cv JT),qm,λn hn=>qP (λz=>bV (e z)) _ [] n (.inl hn),?_⟩
      have qr:∀{Hx:Hp},ai H Hx->ay K Hx q (bs.map bV):=λs=>ay.of (s _ _ hq)
      have JU:(bs.map bV)[i]?=some (bV bs[i]):=by rw [List.getElem?_map,List.getElem?_eq_getElem zw]; rfl
      refine ⟨_,rfl,_,_, "bool",true,rfl,.bl _,rfl,_,rfl,bw rfl ⟨_,rfl,_,rfl,_,rfl,q,_,_,bV bs[i],rfl,rfl,qr JT,aA JU,rfl,rfl,_,rfl,bw (by rw [qC,Fv,decide_eq_true rfl]; rfl) ?_⟩⟩
      refine ⟨_,rfl,by decide,by decide,fm (n:=3) (λj σ Hn=>∃(v9 v10:Option V) (kvs:List (Key×V)),σ=[some (.ref p),some (.ref q),some v,some (.ref oA),some (.ref W),some (.str z0),some (.int (i:Int)),some (.ref ra),some (.ref d),v9,v10]/\Hn d=some (.dK kvs)/\kvs.length<=8+j/\(∀n∈names,aX kvs (.inr n)=some (bV (e n)))/\ai Hj Hn) ⟨_,_,iA names row,rfl,(sl.trans sm) _ _ qk,?_,Fu,sk.trans (sl.trans sm)⟩ ?_ ?_⟩
      . unfold iA
        rw [List.length_zip,List.length_map,List.length_map]
        omega
      . rintro j σ Hn hj ⟨v9,v10,kvs,rfl,Fw,Qz,bF,sn⟩
        have JV:=pz.trans sn
        refine ⟨_,rfl,_,rfl,v,d,cn names bs,kvs,e,rfl,hv.keep (cv JV),Fw,λn hn=>bF n (JN n hn),?_⟩
        refine ⟨_,rfl,_,_, "bool",true,rfl,.bl _,rfl,_,rfl,bw rfl ⟨_,rfl,_,rfl,_,rfl,q,_,_,bV bs[i],rfl,rfl,qr JV,aA JU,rfl,rfl,_,rfl,bw (by rw [qC,Fv,decide_eq_true rfl]; rfl) ?_⟩⟩
        refine ⟨_,rfl,_,_,rfl,rfl,(by show (0:Int)<2; decide),_,rfl,_,rfl,d,_,rfl,jj.k (k:=.inr z0) Fw (small (by omega)),?_⟩
        refine ⟨_,_,putK kvs (.inr z0) _,rfl,ae,?_,λn hn=>?_,λb o hb=>?_⟩
        . exact Nat.le_trans (eT _ _ _) (by omega)
        . rw [nr,if_neg (λq=>Hq (by rw [← Sum.inr.inj q]; exact hn))]
          exact bF n hn
        . rw [aj (ah hb hd)]
          exact sn _ _ hb
      . rintro σ Hn ⟨v9,v10,kvs,rfl,Fw,Qz,bF,sn⟩
        exact ⟨_,_,_,_,_,rfl,zz.trans sn⟩
    . rintro σ Hi ⟨v6,v7,v8,v9,v10,rfl,si⟩
      exact kk Hi (JQ.trans si)
end
end Gen
namespace Gen
open PySem L2
abbrev km:Stmt:=top 23
def rn (K:W.Frag):Sp:=λvs H Q _=>∃(a:Addr) (ns:List Int),vs=[.ref a]/\ay K H a (ns.map V.int)/\∀H',Q (.bl true) H'
abbrev LQ:List Str:=["_law_script", "_law_names", "_law_k", "_law_bits_here", "_law_tree"]
section
variable (P:Program) (w:World) (K:W.Frag) (mg:Str->Option Value) (base:Heap)
structure Fx (fD fN fT fK fS fH fP:Addr) (dD dN dT dK dS dH dP:FuncData):Prop where
 gD:av P w K mg base aF 3 fD dD ["_law_script"] (vX K)
 mD:mg "_law_order" = some (.ref fD)
 kD:W.keepIn K (.ref fD)=true
 bD:Binds K dD ["_law_script"] []
 gN:av P w K mg base aF 3 fN dN ["_law_script", "_law_k"] (tV K)
 mN:mg "_law_number" = some (.ref fN)
 kN:W.keepIn K (.ref fN)=true
 bN:Binds K dN ["_law_script", "_law_k"] []
 gT:av P w K mg base aF 1 fT dT zc za
 mT:mg "_law_bits" = some (.ref fT)
 kT:W.keepIn K (.ref fT)=true
 bT:Binds K dT zc []
 gK:av P w K mg base aF 18 fK dK nc (jH 9)
 mK:mg "_law_canon" = some (.ref fK)
 kK:W.keepIn K (.ref fK)=true
 bK:Binds K dK nc []
 gS:av P w K mg base aF 9 fS dS iT (gv 9)
 mS:mg "_law_same_tree" = some (.ref fS)
 kS:W.keepIn K (.ref fS)=true
 bS:Binds K dS iT []
 gH:av P w K mg base aF 10 fH dH wq uD
 mH:mg "_law_held" = some (.ref fH)
 kH:W.keepIn K (.ref fH)=true
 bH:Binds K dH wq []
 gP:av P w K mg base aF 12 fP dP wm xu
 mP:mg "_law_put_together" = some (.ref fP)
 kP:W.keepIn K (.ref fP)=true
 bP:Binds K dP wm []
end
section
variable {P:Program}{w:World}{K:W.Frag}{mg:Str->Option Value}{base:Heap}{fD fN fT fK fS fH fP:Addr}{dD dN dT dK dS dH dP:FuncData}
theorem ko {H H':Hp}{o:Addr}{names:List Str}(h:Ord H o names) (s:ai H H'):Ord H' o names:=⟨s _ _ h.at_,h.nd,h.ok,h.n8⟩
theorem pB:aT LQ ["_law_script"] (ak km):=⟨rfl,rfl,rfl,by decide +kernel,rfl,by decide +kernel,by decide +kernel⟩
theorem Fy {f:Addr}{fd:FuncData}(F:cy K "law" "law" km f fd) (O:Own mg) (O2:fZ mg) (G:Fx P w K mg base fD fN fT fK fS fH fP dD dN dT dK dS dH dP):av P w K mg base aF 19 f fd ["_law_script"] (rn K):=by
 refine F.ok pB (λvs H Q E h=>?_) (λcdv A outer s H vs Q E hr h=>?_)
 . obtain ⟨a,ns,rfl,_⟩:=h
   rfl
 . obtain ⟨a,ns,rfl,ha,kk⟩:=h
   have JW:bx 3 _:=hr.mono (by decide)
   have dM:bx 1 _:=hr.mono (by decide)
   have EG:bx 9 _:=hr.mono (by decide)
   have As:bx 10 _:=hr.mono (by decide)
   have LR:bx 12 _:=hr.mono (by decide)
   refine ⟨_,af (ax (i:=1) pB.nd rfl (Or.inl rfl) (aI G.gD JW rfl G.mD G.kD G.bD .nil aB (aa (pv 0) ab)))
    (af (fJ PassesOwn.never rfl (cV rfl O.range (aa (aO gL ag (aU (xO rfl) (by rfl) O2.min PyProof.Rows.boot_min (aa (aQ (r:=fU K) b0 (fL (aa ag (aa ag ab))) (gQ xP (by rfl) O2.int PyProof.Rows.boot_int (aa (jz GB (aU bo (by rfl) O2.len PySem.boot_len (aa (pv 1) ab)) ag (bL _)) ab)) (λ_ _=>rfl))
     (aa (aU bo (by rfl) O2.len PySem.boot_len (aa (du jB (pv 0) (dW ag) (dW ag)) ab)) ab)))) ab)) (aW (i:=2) pB.nd rfl (Or.inl rfl))
     (af (ax (i:=3) pB.nd rfl (Or.inl rfl) (aI G.gT dM rfl G.mT G.kT G.bT .nil aB (aa (aI G.gN JW rfl G.mN G.kN G.bN .nil aB (aa (pv 0) (aa (aO gL ag (pv 2)) ab))) (aa (aU bo (by rfl) O2.len PySem.boot_len (aa (pv 1) ab)) ab))))
     (af (ax (i:=4) pB.nd rfl (Or.inl rfl) (aI G.gK hr rfl G.mK G.kK G.bK .nil aB (aa (pv 1) (aa (pv 3) ab))))
     (ao (bQ (PW.pt (i5 (jw (eS (aI G.gH As rfl G.mH G.kH G.bH .nil aB (aa (pv 1) (aa (pv 3) (aa (pv 4) ab)))))) (jv (jw (eS (aI G.gS EG rfl G.mS G.kS G.bS .nil aB (aa (aI G.gP LR rfl G.mP G.kP G.bP .nil aB (aa (gQ lx (by rfl) O2.list PyProof.Rows.boot_list (aa (pv 1) ab)) (aa (pv 3) ab))) (aa (pv 4) ab)))))))) (ao (aK d9)) aV)))))
    (ao (aK d9))),?_⟩
   refine ⟨_,rfl,a,ns,rfl,ha,λnm names H1 s1 qI hO=>?_⟩
   have n8:=hO.n8
   have hp:=tW n8
   have lC:=ai.seq s1 ha
   have zu:(names.map V.str).length<=8:=by rw [List.length_map]; exact n8
   refine ⟨(by show 2<=sizeLine; decide),λL hL=>?_⟩
   have s2:ai H1 (upd H1 L (.lst [.int 5,.int 1])):=ai.ar hL
   have q2:(upd H1 L (.lst [.int 5,.int 1])) L=some (.lst [.int 5,.int 1]):=ae
   generalize upd H1 L (.lst [.int 5,.int 1])=H2 at s2 q2 ⊢
   refine ⟨_,rfl,nm,_,rfl,.inl (ay.of (s2 _ _ hO.at_)),_,_,rfl,rfl,.inr ⟨_,rfl,?_⟩⟩
   obtain ⟨m0,Jw,QA⟩:∃m0:Int,(m0=5\/m0=1)/\ku [V.int 5,V.int 1] (if decide ((6:Int)<(((names.map V.str).length:Nat):Int))=true then 1 else 0)=some (.int m0):=by
    by_cases h:(6:Int)<(((names.map V.str).length:Nat):Int)
    . exact ⟨1,.inr rfl,by rw [decide_eq_true h]; rfl⟩
    . exact ⟨5,.inl rfl,by rw [decide_eq_false h]; rfl⟩
   refine ⟨L,_,_,.int m0,rfl,rfl,ay.of q2,QA,?_⟩
   refine ⟨_,rfl,_,rfl,_,rfl,a,_,rfl,ai.seq s2 lC,λc hc=>?_⟩
   have s3:ai H2 (upd H2 c (.lst (dv (ns.map V.int) (some 1) (some 63)))):=ai.ar hc
   have q3:(upd H2 c (.lst (dv (ns.map V.int) (some 1) (some 63)))) c=some (.lst (dv (ns.map V.int) (some 1) (some 63))):=ae
   generalize upd H2 c (.lst (dv (ns.map V.int) (some 1) (some 63)))=H3 at s3 q3 ⊢
   refine ⟨c,_,rfl,.inl (ay.of q3),_,_,rfl,_,_,rfl,rfl,?_⟩
   have QB:=s2.trans s3
   have Bw:(1:Int)+(if (((dv (ns.map V.int) (some 1) (some 63)).length:Nat):Int)<m0 then (((dv (ns.map V.int) (some 1) (some 63)).length:Nat):Int) else m0)<=6:=by split <;> omega
   have JX : -(2 ^ 62)<=(1:Int)+(if (((dv (ns.map V.int) (some 1) (some 63)).length:Nat):Int)<m0 then (((dv (ns.map V.int) (some 1) (some 63)).length:Nat):Int) else m0):=by
    have:(-1:Int)<=(if (((dv (ns.map V.int) (some 1) (some 63)).length:Nat):Int)<m0 then (((dv (ns.map V.int) (some 1) (some 63)).length:Nat):Int) else m0):=by split <;> omega
    exact Int.le_trans (by decide : -(2 ^ 62)<=(0:Int)) (by omega)
   refine ⟨_,rfl,JX,Int.lt_of_le_of_lt Bw (by decide),fm (λi σ Hi=>∃(v2 v3 v4:Option V),σ=[some (.ref a),some (.ref nm),v2,v3,v4]/\ai H1 Hi) ⟨none,none,none,rfl,QB⟩ ?_ ?_⟩
   . rintro i σ Hi hi ⟨v2,v3,v4,rfl,si⟩
     have RS:(i:Int)<11:=by omega
     clear Bw JX hi
     have JY:=ko hO si
     refine ⟨_,rfl,_,rfl,_,_,rfl,rfl,a,ns,_,rfl,ai.seq si lC,by omega,by omega,λx1=>?_⟩
     refine ⟨_,rfl,nm,_,rfl,.inl (ay.of JY.at_),x1,_,rfl,zu,λq bs H4 s4 _ yT lb=>?_⟩
     rw [List.length_map] at lb
     have iu:=ko JY s4
     refine ⟨_,rfl,_,rfl,nm,q,names,bs,rfl,iu.at_,yT,by omega,n8,lb,λv H5 s5 r5=>?_⟩
     have vQ:=ko iu s5
     refine ⟨_,rfl,_,rfl,_,rfl,nm,q,v,names,bs,rfl,vQ,s5 _ _ yT,lb,r5,λH6 s6=>⟨_,rfl,bw rfl ?_⟩⟩
     have QC:=ko vQ s6
     refine ⟨_,rfl,nm,_,rfl,.inl (ay.of QC.at_),λl hl=>?_⟩
     have s7:ai H6 (upd H6 l (.lst (names.map V.str))):=ai.ar hl
     have q7:(upd H6 l (.lst (names.map V.str))) l=some (.lst (names.map V.str)):=ae
     generalize upd H6 l (.lst (names.map V.str))=H7 at s7 q7 ⊢
     refine ⟨_,rfl,l,q,names,bs,rfl,⟨q7,hO.nd,hO.ok,n8⟩,s7 _ _ (s6 _ _ (s5 _ _ yT)),lb,λu H8 s8 r8=>?_⟩
     refine ⟨_,rfl,_,_,_,_,rfl,r8,r5.keep (cv (s6.trans (s7.trans s8))),Nat.lt_of_le_of_lt (cI (iS _ _)) (by omega),_,rfl,bw (by rw [decide_eq_true rfl]; rfl) ?_⟩
     exact ⟨_,_,_,rfl,si.trans (s4.trans (s5.trans (s6.trans (s7.trans s8))))⟩
   . rintro σ Hi ⟨v2,v3,v4,rfl,si⟩
     exact kk Hi
end
section
variable {P:Program}{w:World}{K:W.Frag}{mg:Str->Option Value}{base:Heap}{C:Addr}
theorem gw {k:Nat}{f:Addr}{fd:FuncData}{ps:List Str}{sp:Sp}(h:∀vs H Q E,¬ sp vs H Q E):av P w K mg base aF k f fd ps sp:=⟨λvs H Q E q=>(h _ _ _ _ q).elim,λA outer s H args us vs Q E _ _ _ _ q=>(h _ _ _ _ q).elim⟩
theorem qQ {f fN:Addr}{fd dN:FuncData}(F:cy K "taken" "Forest.taken" iO f fd) (T:il K mg C) (mT:Meth K C "taken" f) (bT:Binds K fd ["self", "tree"] []) (gN:av P w K mg base aF 1 fN dN kJ (jE P w C)) (mN:Meth K C "node" fN) (bN:Binds K dN kJ []) :
 ∀d,av P w K mg base aF (d+1) f fd ["self", "tree"] (mh P w C d)
 | 0=>gw λvs H Q E ⟨_,_,_,_,_,_,_,_,_,_,_,_,_,_,_,_,_,_,h,_⟩=>Nat.not_lt_zero _ h
 | d+1=>Aj F T (qQ F T mT bT gN mN bN d) mT bT gN mN bN
theorem ni {f:Addr}{fd:FuncData}(F:cy K "tree_at" "Forest.tree_at" gr f fd) (T:il K mg C) (mT:Meth K C "tree_at" f) (bT:Binds K fd ["self", "number"] []):∀d,av P w K mg base aF (d+1) f fd ["self", "number"] (j7 P w C d)
 | 0=>gw λvs H Q E ⟨_,_,_,_,_,_,_,_,_,_,_,_,_,_,_,_,h,_⟩=>Nat.not_lt_zero _ h
 | d+1=>xc F T (ni F T mT bT d) mT bT
theorem pC {f fN fH:Addr}{fd dN dH:FuncData}(F:cy K "chosen" "Forest.chosen" gu f fd) (T:il K mg C) (O2:fZ mg) (mC:Meth K C "chosen" f) (bC:Binds K fd oX []) (gN:av P w K mg base aF 1 fN dN kJ (jE P w C)) (mN:Meth K C "node" fN) (bN:Binds K dN kJ [])
 (gH:av P w K mg base aF 1 fH dH ["self", "number", "spot", "side"] (oS P w C)) (mH:Meth K C "half" fH) (bH:Binds K dH ["self", "number", "spot", "side"] []):∀d,av P w K mg base aF (d+1) f fd oX (j8 P w C d)
 | 0=>gw λvs H Q E ⟨_,_,_,_,_,_,_,_,_,_,_,_,_,_,_,_,_,_,_,_,h,_⟩=>Nat.not_lt_zero _ h
 | d+1=>yS F T O2 (pC F T O2 mC bC gN mN bN gH mH bH d) mC bC gN mN bN gH mH bH
theorem wt {f:Addr}{fd:FuncData}(F:cy K "opposite_by" "opposite_by" iP f fd) (mO:mg "opposite_by" = some (.ref f)) (bO:Binds K fd o3 []):∀d,av P w K mg base aF d f fd o3 (ml P w d)
 | 0=>gw λvs H Q E ⟨_,_,_,_,_,_,_,_,_,_,h,_⟩=>Nat.not_lt_zero _ h
 | d+1=>y6 F (wt F mO bO d) mO bO
theorem uE {f:Addr}{fd:FuncData}(F:cy K "_law_same_tree" "_law_same_tree" iR f fd) (T:fZ mg) (mS:mg "_law_same_tree" = some (.ref f)) (bS:Binds K fd iT []):∀d,av P w K mg base aF d f fd iT (gv d)
 | 0=>gw λvs H Q E ⟨_,_,_,_,_,_,_,h,_⟩=>Nat.not_lt_zero _ h
 | d+1=>tS F T (uE F T mS bS d) mS bS
theorem qR {f fS:Addr}{fd dS:FuncData}(F:cy K "_law_canon" "_law_canon" iQ f fd) (O2:fZ mg) (mC:mg "_law_canon" = some (.ref f)) (bC:Binds K fd nc [])
 (gS:av P w K mg base aF 9 fS dS iT (gv 9)) (mS:mg "_law_same_tree" = some (.ref fS)) (kS:W.keepIn K (.ref fS)=true) (bS:Binds K dS iT []):∀d,av P w K mg base aF (d+9) f fd nc (jH d)
 | 0=>gw λvs H Q E ⟨_,_,_,_,_,_,_,h,_⟩=>Nat.not_lt_zero _ h
 | d+1=>(show d+9+1=d+1+9 by omega) ▸ An F O2 (qR F O2 mC bC gS mS kS bS d) mC bC gS mS kS bS
theorem wu {f:Addr}{fd:FuncData}(F:cy K "_law_names_in" "_law_names_in" nX f fd) (O2:fZ mg) (mN:mg "_law_names_in" = some (.ref f)) (bN:Binds K fd ["_law_tree"] []):∀d,av P w K mg base aF d f fd ["_law_tree"] (rm d)
 | 0=>gw λvs H Q E ⟨_,_,_,_,h,_⟩=>Nat.not_lt_zero _ h
 | d+1=>Ff F O2 (wu F O2 mN bN d) mN bN
end
end Gen
namespace L2
open PySem PySem.Spec PyProof.Rows
theorem uF {α:Type} : ∀{us:List α},us.length=1->∃a,us=[a]
 | [a],_=>⟨a,rfl⟩
theorem Av {α:Type} : ∀{us:List α}{n:Nat},us.length=n+1->∃a r,us=a::r/\r.length=n
 | a::r,_,h=>⟨a,r,rfl,Nat.succ.inj h⟩
theorem eQ {α:Type}{us:List α}(h:us.length=2):∃a b,us=[a,b]:=by
 obtain ⟨a,r,rfl,h1⟩:=Av h
 obtain ⟨b,rfl⟩:=uF h1
 exact ⟨a,b,rfl⟩
theorem xx {α:Type}{us:List α}(h:us.length=3):∃a b c,us=[a,b,c]:=by
 obtain ⟨a,r,rfl,h1⟩:=Av h
 obtain ⟨b,c,rfl⟩:=eQ h1
 exact ⟨a,b,c,rfl⟩
theorem Aw {α:Type}{us:List α}(h:us.length=4):∃a b c d,us=[a,b,c,d]:=by
 obtain ⟨a,r,rfl,h1⟩:=Av h
 obtain ⟨b,c,d,rfl⟩:=xx h1
 exact ⟨a,b,c,d,rfl⟩
end L2
namespace Gen
open PySem L2
section
theorem all_mk {l:W.OpenLaw}{w:World}{K:W.Frag}{h:Heap}{mg:Str->Option Value}{fa C uG uH uI uJ uK uL f2 f3 f4 f5 f6 f9 Fz BC BD BE BF BG BH FA FC FD BI FE BJ FF:Addr}(X:K.In h) (G:h.Ns mainGlobals mg) (QD:mg "law" = some (.ref fa))
 {Hr Hs Ht Hu Hv Hw Hy Hz HA HB HC HD QE QF QG QH QI QJ QK QL QM QN QO QP LS LU LV LW LX LY LZ L3 L4 L5 L6 L7 L8 L9 Ma Mb Mc Md Me Mf Mg Mh Mi Mj Ml Mm Mn FG:Option Addr}{HE HF HG HH HI HJ vd QQ QR QS QT QU Mo Mp Mq Mr Ms Mt Mu Mv Mw Mx My Mz MA MB:Array (Option Value)}{HK HL HM HN BK HP HQ HR HS HU BL HV HW HX HY HZ BM Ia Ib Ic Ie Ig BN Ih Ii Ij Ik Il BO Im Io Ip Iq Ir BP Iu QV QW QX QY JZ QZ Q0 Q1 Q2 Q3 J0 Q4 Q5 Q6 Q7 Q8 J1 Q9 Ra Rb Rc Rf J2 Rg Rh Ri Rj Rk J4 Rl Rm Rn Ro Rp J5 Rq MC MD ME MF FH MG MH MI MJ MK FI ML MM MN MO MP FJ MQ MR MS MT MU FK MV MW MX MY MZ FL M0 M3 M4 M5 M6 FN M7 M8 M9 Na Nb FQ Nc Nf Ng Nh Ni FR Nj Nk Nl Nm Nn FT Np Nq Nr Nt Nu FU Nv Nw Nx Ny Nz FV NA NB NC NF NG FW NH NI NJ NK NL FX NM NN FY FZ Ga Ax Gb:Value}
 (aC:W.nsIn K mainGlobals "Forest" = some (some (.ref C)))
 (a100:W.findIn K (.ref C) "__init__" = some (some (.ref uG))) (i100:W.isFn K (.ref uG)=true) (l100:K.lookup uG=some ⟨HK,Hr,.func (W.fnOf "__init__" "Forest.__init__" (aR jF) (aN jF) (ak jF) .none HL HM HN Hs BK HP),HE⟩) (c100:W.codeIn K BK "Forest.__init__" = true) (k100:W.keepIn K (.ref uG)=true)
 (a101:W.findIn K (.ref C) "node" = some (some (.ref uH))) (i101:W.isFn K (.ref uH)=true) (l101:K.lookup uH=some ⟨HQ,Ht,.func (W.fnOf "node" "Forest.node" (aR me) (aN me) (ak me) .none HR HS HU Hu BL HV),HF⟩) (c101:W.codeIn K BL "Forest.node" = true) (k101:W.keepIn K (.ref uH)=true)
 (a102:W.findIn K (.ref C) "taken" = some (some (.ref uI))) (i102:W.isFn K (.ref uI)=true) (l102:K.lookup uI=some ⟨HW,Hv,.func (W.fnOf "taken" "Forest.taken" (aR iO) (aN iO) (ak iO) .none HX HY HZ Hw BM Ia),HG⟩) (c102:W.codeIn K BM "Forest.taken" = true) (k102:W.keepIn K (.ref uI)=true)
 (a103:W.findIn K (.ref C) "tree_at" = some (some (.ref uJ))) (i103:W.isFn K (.ref uJ)=true) (l103:K.lookup uJ=some ⟨Ib,Hy,.func (W.fnOf "tree_at" "Forest.tree_at" (aR gr) (aN gr) (ak gr) .none Ic Ie Ig Hz BN Ih),HH⟩) (c103:W.codeIn K BN "Forest.tree_at" = true) (k103:W.keepIn K (.ref uJ)=true)
 (a104:W.findIn K (.ref C) "chosen" = some (some (.ref uK))) (i104:W.isFn K (.ref uK)=true) (l104:K.lookup uK=some ⟨Ii,HA,.func (W.fnOf "chosen" "Forest.chosen" (aR gu) (aN gu) (ak gu) .none Ij Ik Il HB BO Im),HI⟩) (c104:W.codeIn K BO "Forest.chosen" = true) (k104:W.keepIn K (.ref uK)=true)
 (a105:W.findIn K (.ref C) "half" = some (some (.ref uL))) (i105:W.isFn K (.ref uL)=true) (l105:K.lookup uL=some ⟨Io,HC,.func (W.fnOf "half" "Forest.half" (aR mf) (aN mf) (ak mf) .none Ip Iq Ir HD BP Iu),HJ⟩) (c105:W.codeIn K BP "Forest.half" = true) (k105:W.keepIn K (.ref uL)=true)
 (a2:W.nsIn K mainGlobals "holds" = some (some (.ref f2))) (l2:K.lookup f2=some ⟨QV,QE,.func (W.fnOf "holds" "holds" (aR jN) (aN jN) (ak jN) .none QW QX QY QF JZ QZ),vd⟩) (c2:W.codeIn K JZ "holds" = true) (k2:W.keepIn K (.ref f2)=true)
 (a3:W.nsIn K mainGlobals "both" = some (some (.ref f3))) (l3:K.lookup f3=some ⟨Q0,QG,.func (W.fnOf "both" "both" (aR mi) (aN mi) (ak mi) .none Q1 Q2 Q3 QH J0 Q4),QQ⟩) (c3:W.codeIn K J0 "both" = true) (k3:W.keepIn K (.ref f3)=true)
 (a4:W.nsIn K mainGlobals "either" = some (some (.ref f4))) (l4:K.lookup f4=some ⟨Q5,QI,.func (W.fnOf "either" "either" (aR iH) (aN iH) (ak iH) .none Q6 Q7 Q8 QJ J1 Q9),QR⟩) (c4:W.codeIn K J1 "either" = true) (k4:W.keepIn K (.ref f4)=true)
 (a5:W.nsIn K mainGlobals "opposite" = some (some (.ref f5))) (l5:K.lookup f5=some ⟨Ra,QK,.func (W.fnOf "opposite" "opposite" (aR pR) (aN pR) (ak pR) .none Rb Rc Rf QL J2 Rg),QS⟩) (c5:W.codeIn K J2 "opposite" = true) (k5:W.keepIn K (.ref f5)=true)
 (a6:W.nsIn K mainGlobals "opposite_by" = some (some (.ref f6))) (l6:K.lookup f6=some ⟨Rh,QM,.func (W.fnOf "opposite_by" "opposite_by" (aR iP) (aN iP) (ak iP) .none Ri Rj Rk QN J4 Rl),QT⟩) (c6:W.codeIn K J4 "opposite_by" = true) (k6:W.keepIn K (.ref f6)=true)
 (a9:W.nsIn K mainGlobals "_law_cell_at" = some (some (.ref f9))) (l9:K.lookup f9=some ⟨Rm,QO,.func (W.fnOf "_law_cell_at" "_law_cell_at" (aR l8) (aN l8) (ak l8) .none Rn Ro Rp QP J5 Rq),QU⟩) (c9:W.codeIn K J5 "_law_cell_at" = true) (k9:W.keepIn K (.ref f9)=true)
 (a10:W.nsIn K mainGlobals "_law_mix" = some (some (.ref Fz))) (l10:K.lookup Fz=some ⟨MC,LS,.func (W.fnOf "_law_mix" "_law_mix" (aR nI) (aN nI) (ak nI) .none MD ME MF LU FH MG),Mo⟩) (c10:W.codeIn K FH "_law_mix" = true) (k10:W.keepIn K (.ref Fz)=true)
 (a11:W.nsIn K mainGlobals "_law_rich" = some (some (.ref BC))) (l11:K.lookup BC=some ⟨MH,LV,.func (W.fnOf "_law_rich" "_law_rich" (aR ma) (aN ma) (ak ma) .none MI MJ MK LW FI ML),Mp⟩) (c11:W.codeIn K FI "_law_rich" = true) (k11:W.keepIn K (.ref BC)=true)
 (a12:W.nsIn K mainGlobals "_law_pick" = some (some (.ref BD))) (l12:K.lookup BD=some ⟨MM,LX,.func (W.fnOf "_law_pick" "_law_pick" (aR jY) (aN jY) (ak jY) .none MN MO MP LY FJ MQ),Mq⟩) (c12:W.codeIn K FJ "_law_pick" = true) (k12:W.keepIn K (.ref BD)=true)
 (a13:W.nsIn K mainGlobals "_law_spelt" = some (some (.ref BE))) (l13:K.lookup BE=some ⟨MR,LZ,.func (W.fnOf "_law_spelt" "_law_spelt" (aR g7) (aN g7) (ak g7) .none MS MT MU L3 FK MV),Mr⟩) (c13:W.codeIn K FK "_law_spelt" = true) (k13:W.keepIn K (.ref BE)=true)
 (a14:W.nsIn K mainGlobals "_law_all_bits" = some (some (.ref BF))) (l14:K.lookup BF=some ⟨MW,L4,.func (W.fnOf "_law_all_bits" "_law_all_bits" (aR mv) (aN mv) (ak mv) .none MX MY MZ L5 FL M0),Ms⟩) (c14:W.codeIn K FL "_law_all_bits" = true) (k14:W.keepIn K (.ref BF)=true)
 (a15:W.nsIn K mainGlobals "_law_canon" = some (some (.ref BG))) (l15:K.lookup BG=some ⟨M3,L6,.func (W.fnOf "_law_canon" "_law_canon" (aR iQ) (aN iQ) (ak iQ) .none M4 M5 M6 L7 FN M7),Mt⟩) (c15:W.codeIn K FN "_law_canon" = true) (k15:W.keepIn K (.ref BG)=true)
 (a16:W.nsIn K mainGlobals "_law_same_tree" = some (some (.ref BH))) (l16:K.lookup BH=some ⟨M8,L8,.func (W.fnOf "_law_same_tree" "_law_same_tree" (aR iR) (aN iR) (ak iR) .none M9 Na Nb L9 FQ Nc),Mu⟩) (c16:W.codeIn K FQ "_law_same_tree" = true) (k16:W.keepIn K (.ref BH)=true)
 (a17:W.nsIn K mainGlobals "_law_order" = some (some (.ref FA))) (l17:K.lookup FA=some ⟨Nf,Ma,.func (W.fnOf "_law_order" "_law_order" (aR eX) (aN eX) (ak eX) .none Ng Nh Ni Mb FR Nj),Mv⟩) (c17:W.codeIn K FR "_law_order" = true) (k17:W.keepIn K (.ref FA)=true)
 (a18:W.nsIn K mainGlobals "_law_number" = some (some (.ref FC))) (l18:K.lookup FC=some ⟨Nk,Mc,.func (W.fnOf "_law_number" "_law_number" (aR iI) (aN iI) (ak iI) .none Nl Nm Nn Md FT Np),Mw⟩) (c18:W.codeIn K FT "_law_number" = true) (k18:W.keepIn K (.ref FC)=true)
 (a19:W.nsIn K mainGlobals "_law_bits" = some (some (.ref FD))) (l19:K.lookup FD=some ⟨Nq,Me,.func (W.fnOf "_law_bits" "_law_bits" (aR mm) (aN mm) (ak mm) .none Nr Nt Nu Mf FU Nv),Mx⟩) (c19:W.codeIn K FU "_law_bits" = true) (k19:W.keepIn K (.ref FD)=true)
 (a20:W.nsIn K mainGlobals "_law_put_together" = some (some (.ref BI))) (l20:K.lookup BI=some ⟨Nw,Mg,.func (W.fnOf "_law_put_together" "_law_put_together" (aR pW) (aN pW) (ak pW) .none Nx Ny Nz Mh FV NA),My⟩) (c20:W.codeIn K FV "_law_put_together" = true) (k20:W.keepIn K (.ref BI)=true)
 (a21:W.nsIn K mainGlobals "_law_names_in" = some (some (.ref FE))) (l21:K.lookup FE=some ⟨NB,Mi,.func (W.fnOf "_law_names_in" "_law_names_in" (aR nX) (aN nX) (ak nX) .none NC NF NG Mj FW NH),Mz⟩) (c21:W.codeIn K FW "_law_names_in" = true) (k21:W.keepIn K (.ref FE)=true)
 (a22:W.nsIn K mainGlobals "_law_held" = some (some (.ref BJ))) (l22:K.lookup BJ=some ⟨NI,Ml,.func (W.fnOf "_law_held" "_law_held" (aR my) (aN my) (ak my) .none NJ NK NL Mm FX NM),MA⟩) (c22:W.codeIn K FX "_law_held" = true) (k22:W.keepIn K (.ref BJ)=true)
 (a23:W.nsIn K mainGlobals "law" = some (some (.ref FF))) (l23:K.lookup FF=some ⟨NN,Mn,.func (W.fnOf "law" "law" (aR km) (aN km) (ak km) .none FY FZ Ga FG Ax Gb),MB⟩) (c23:W.codeIn K Ax "law" = true) (k23:W.keepIn K (.ref FF)=true)
 (pg:W.plainGet K C Str.empty=true) (hd:W.hasDictIn K C=true) (po:W.plainOver K C=true) (sa:W.findIn K (.ref C) "__setattr__" = some (some (.builtin "object.__setattr__"))) (mk:W.makesIn K C=true) (kc:W.keepIn K (.ref C)=true)
 (n1:W.findIn K (.ref C) "names" = some none) (n2:W.findIn K (.ref C) "spots" = some none) (n3:W.findIn K (.ref C) "nodes" = some none) (n4:W.findIn K (.ref C) "known" = some none) (n5:W.findIn K (.ref C) "choices" = some none) (n6:W.findIn K (.ref C) "imported" = some none) (n7:W.findIn K (.ref C) "exported" = some none)
 (z0:W.nsIn K mainGlobals "len" = some none) (z1:W.nsIn K mainGlobals "range" = some none) (z2:W.nsIn K mainGlobals "enumerate" = some none) (z3:W.nsIn K mainGlobals "list" = some none) (z4:W.nsIn K mainGlobals "dict" = some none) (z5:W.nsIn K mainGlobals "tuple" = some none) (z6:W.nsIn K mainGlobals "str" = some none) (z7:W.nsIn K mainGlobals "int" = some none) (z8:W.nsIn K mainGlobals "bool" = some none) (z9:W.nsIn K mainGlobals "zip" = some none) (z10:W.nsIn K mainGlobals "isinstance" = some none) (z11:W.nsIn K mainGlobals "min" = some none) (z12:W.nsIn K mainGlobals "reversed" = some none) (z13:W.nsIn K mainGlobals "sorted" = some none)
 :
 ∃fd:FuncData,(∀(s:Shared) (v:Value),BindsTo s fd ⟨[v],[]⟩ [("_law_script",v)])/\∀base:Heap,K.In base->base.Ns mainGlobals mg->av l.prog w K mg base aF 19 fa fd ["_law_script"] (rn K):=by
 have e:=QD.symm.trans (W.mg_of X G a23)
 cases e
 have T:il K mg C:=⟨⟨pg,hd,po,sa⟩,n1,n2,n3,n4,n5,n6,n7,W.mg_of X G aC⟩
 have O:Own mg:=⟨W.mg_none_of X G z0,W.mg_none_of X G z1,W.mg_none_of X G z2,W.mg_none_of X G z3⟩
 have CW:mg "sorted" = none:=W.mg_none_of X G z13
 have O2:fZ mg:=⟨W.mg_none_of X G z0,W.mg_none_of X G z3,W.mg_none_of X G z4,W.mg_none_of X G z5,W.mg_none_of X G z6,W.mg_none_of X G z7,W.mg_none_of X G z8,W.mg_none_of X G z9,W.mg_none_of X G z10,W.mg_none_of X G z11,W.mg_none_of X G z12⟩
 have Gd:=br (st:=jF) l100 c100 k100
 have NO:=Gd.binds (ps:=["self", "order"]) λ_ _ _ _ _ _ us hl=>by obtain ⟨_,_,rfl⟩:=eQ hl; rfl
 have Ge:=br (st:=me) l101 c101 k101
 have Gf:=Ge.binds (ps:=kJ) λ_ _ _ _ _ _ us hl=>by obtain ⟨_,_,_,_,rfl⟩:=Aw hl; rfl
 have Gg:=br (st:=iO) l102 c102 k102
 have Gh:=Gg.binds (ps:=["self", "tree"]) λ_ _ _ _ _ _ us hl=>by obtain ⟨_,_,rfl⟩:=eQ hl; rfl
 have Gi:=br (st:=gr) l103 c103 k103
 have Gj:=Gi.binds (ps:=["self", "number"]) λ_ _ _ _ _ _ us hl=>by obtain ⟨_,_,rfl⟩:=eQ hl; rfl
 have Gk:=br (st:=gu) l104 c104 k104
 have Gm:=Gk.binds (ps:=oX) λ_ _ _ _ _ _ us hl=>by obtain ⟨_,_,_,_,rfl⟩:=Aw hl; rfl
 have Gn:=br (st:=mf) l105 c105 k105
 have NP:=Gn.binds (ps:=["self", "number", "spot", "side"]) λ_ _ _ _ _ _ us hl=>by obtain ⟨_,_,_,_,rfl⟩:=Aw hl; rfl
 have F2:=br (st:=jN) l2 c2 k2
 have m2:=W.mg_of X G a2
 have b2:=F2.binds (ps:=["tree", "values"]) λ_ _ _ _ _ _ us hl=>by obtain ⟨_,_,rfl⟩:=eQ hl; rfl
 have F3:=br (st:=mi) l3 c3 k3
 have m3:=W.mg_of X G a3
 have b3:=F3.binds (ps:=m8) λ_ _ _ _ _ _ us hl=>by obtain ⟨_,_,_,rfl⟩:=xx hl; rfl
 have F4:=br (st:=iH) l4 c4 k4
 have m4:=W.mg_of X G a4
 have b4:=F4.binds (ps:=m8) λ_ _ _ _ _ _ us hl=>by obtain ⟨_,_,_,rfl⟩:=xx hl; rfl
 have F5:=br (st:=pR) l5 c5 k5
 have m5:=W.mg_of X G a5
 have b5:=F5.binds (ps:=["tree"]) λ_ _ _ _ _ _ us hl=>by obtain ⟨_,rfl⟩:=uF hl; rfl
 have F6:=br (st:=iP) l6 c6 k6
 have m6:=W.mg_of X G a6
 have b6:=F6.binds (ps:=o3) λ_ _ _ _ _ _ us hl=>by obtain ⟨_,_,rfl⟩:=eQ hl; rfl
 have F9:=br (st:=l8) l9 c9 k9
 have m9:=W.mg_of X G a9
 have b9:=F9.binds (ps:=["_law_script", "_law_k"]) λ_ _ _ _ _ _ us hl=>by obtain ⟨_,_,rfl⟩:=eQ hl; rfl
 have J6:=br (st:=nI) l10 c10 k10
 have Rr:=W.mg_of X G a10
 have Rt:=J6.binds (ps:=["_law_cell", "_law_k"]) λ_ _ _ _ _ _ us hl=>by obtain ⟨_,_,rfl⟩:=eQ hl; rfl
 have J7:=br (st:=ma) l11 c11 k11
 have J8:=W.mg_of X G a11
 have J9:=J7.binds (ps:=["_law_cell", "_law_k"]) λ_ _ _ _ _ _ us hl=>by obtain ⟨_,_,rfl⟩:=eQ hl; rfl
 have Gp:=br (st:=jY) l12 c12 k12
 have Ka:=W.mg_of X G a12
 have Kb:=Gp.binds (ps:=["_law_left", "_law_many"]) λ_ _ _ _ _ _ us hl=>by obtain ⟨_,_,rfl⟩:=eQ hl; rfl
 have Kc:=br (st:=g7) l13 c13 k13
 have Ru:=W.mg_of X G a13
 have Rv:=Kc.binds (ps:=["_law_left", "_law_told"]) λ_ _ _ _ _ _ us hl=>by obtain ⟨_,_,rfl⟩:=eQ hl; rfl
 have Kd:=br (st:=mv) l14 c14 k14
 have Ke:=W.mg_of X G a14
 have Kf:=Kd.binds (ps:=["_law_many"]) λ_ _ _ _ _ _ us hl=>by obtain ⟨_,rfl⟩:=uF hl; rfl
 have Kg:=br (st:=iQ) l15 c15 k15
 have Kh:=W.mg_of X G a15
 have Ki:=Kg.binds (ps:=nc) λ_ _ _ _ _ _ us hl=>by obtain ⟨_,_,rfl⟩:=eQ hl; rfl
 have Kj:=br (st:=iR) l16 c16 k16
 have Gq:=W.mg_of X G a16
 have Gr:=Kj.binds (ps:=iT) λ_ _ _ _ _ _ us hl=>by obtain ⟨_,_,rfl⟩:=eQ hl; rfl
 have Kk:=br (st:=eX) l17 c17 k17
 have Rw:=W.mg_of X G a17
 have Rx:=Kk.binds (ps:=["_law_script"]) λ_ _ _ _ _ _ us hl=>by obtain ⟨_,rfl⟩:=uF hl; rfl
 have Kl:=br (st:=iI) l18 c18 k18
 have Ry:=W.mg_of X G a18
 have Rz:=Kl.binds (ps:=["_law_script", "_law_k"]) λ_ _ _ _ _ _ us hl=>by obtain ⟨_,_,rfl⟩:=eQ hl; rfl
 have Km:=br (st:=mm) l19 c19 k19
 have RA:=W.mg_of X G a19
 have RB:=Km.binds (ps:=zc) λ_ _ _ _ _ _ us hl=>by obtain ⟨_,_,rfl⟩:=eQ hl; rfl
 have Kn:=br (st:=pW) l20 c20 k20
 have RC:=W.mg_of X G a20
 have RD:=Kn.binds (ps:=wm) λ_ _ _ _ _ _ us hl=>by obtain ⟨_,_,rfl⟩:=eQ hl; rfl
 have Ko:=br (st:=nX) l21 c21 k21
 have Kq:=W.mg_of X G a21
 have Kr:=Ko.binds (ps:=["_law_tree"]) λ_ _ _ _ _ _ us hl=>by obtain ⟨_,rfl⟩:=uF hl; rfl
 have Ks:=br (st:=my) l22 c22 k22
 have RE:=W.mg_of X G a22
 have RF:=Ks.binds (ps:=wq) λ_ _ _ _ _ _ us hl=>by obtain ⟨_,_,_,rfl⟩:=xx hl; rfl
 have RG:=br (st:=km) l23 c23 k23
 have Sq:=W.mg_of X G a23
 refine ⟨W.fnOf "law" "law" (aR km) (aN km) (ak km) .none FY FZ Ga FG Ax Gb,λs v=>.of_eq rfl,λbase _ _=>?_⟩
 have gP:av l.prog w K mg base aF 1 BD _ ["_law_left", "_law_many"] oJ:=vp Gp O
 have gS:av l.prog w K mg base aF 2 BE _ ["_law_left", "_law_told"] (pM K):=Ac Kc O Gp Kb Ka
 have gR:av l.prog w K mg base aF 2 BC _ ["_law_cell", "_law_k"] oI:=Ci J7 O J6 Rt Rr
 have gC:av l.prog w K mg base aF 1 f9 _ ["_law_script", "_law_k"] (oH K):=Cg F9 O
 have Kt:av l.prog w K mg base aF 1 uH _ kJ (jE l.prog w C):=Cw Ge T O2
 have RH:av l.prog w K mg base aF 1 uL _ ["self", "number", "spot", "side"] (oS l.prog w C):=Cv Gn T
 have GF:tM l.prog w K mg base C uG uI uK uJ _ _ _ _:=⟨Al Gd T O2 O,⟨mk,a100,i100,kc⟩,NO,qQ Gg T ⟨a102,i102,k102⟩ Gh Kt ⟨a101,i101,k101⟩ Gf 9,⟨a102,i102,k102⟩,Gh,pC Gk T O2 ⟨a104,i104,k104⟩ Gm Kt ⟨a101,i101,k101⟩ Gf RH ⟨a105,i105,k105⟩ NP 9,⟨a104,i104,k104⟩,Gm,ni Gi T ⟨a103,i103,k103⟩ Gj 9,⟨a103,i103,k103⟩,Gj⟩
 have Ku:av l.prog w K mg base aF 9 BH _ iT (gv 9):=uE Kj O2 Gq Gr 9
 have gK:av l.prog w K mg base aF 18 BG _ nc (jH 9):=qR Kg O2 Kh Ki Ku Gq k16 Gr 9
 have gO:av l.prog w K mg base aF 10 f5 _ ["tree"] xh:=EE F5 (wt F6 m6 b6 9) m6 k6 b6
 have Kv:av l.prog w K mg base aF 1 BF _ ["_law_many"] (pj K):=uX Kd O CW
 have RI:av l.prog w K mg base aF 10 BJ _ wq uD:=CV Ks O2 O Kv Ke k14 Kf (wu Ko O2 Kq Kr 9) Kq k21 Kr (Ar F2) m2 k2 b2
 have RJ:av l.prog w K mg base aF 12 BI _ wm xu:=Fg Kn O2 O Kv Ke k14 Kf (Cy F3 T GF) m3 k3 b3 (y4 F4 T GF) m4 k4 b4 gO m5 k5 b5
 exact Fy RG O O2 ⟨Ao Kk O gC m9 k9 b9 gR J8 k11 J9 gP Ka k12 Kb gS Ru k13 Rv,Rw,k17,Rx,zb Kl gC m9 k9 b9 gR J8 k11 J9,Ry,k18,Rz,CA Km O,RA,k19,RB,gK,Kh,k15,Ki,Ku,Gq,k16,Gr,RI,RE,k22,RF,RJ,RC,k20,RD⟩
theorem walk {l:W.OpenLaw}{q:Program}{loose:List Str}{XP:(Str->Option Value)->Heap->Prop}{YP:World->Heap->Prop}{d:DefRec}{K:Params->W.Frag}(hn:l.most=some 63) (yf:d.params.defaults=[])
 (hY:∀(w:World) (h:Heap),YP w h->(K w.params).In h)
 (F:∀(w:World) (mg:Str->Option Value) (fa:Addr) (h:Heap),(K w.params).In h->h.Ns mainGlobals mg->mg d.name=some (.ref fa)->
  ∃fd:FuncData,(∀(s:Shared) (u:Value),BindsTo s fd ⟨[u],[]⟩ [("_law_script",u)])/\∀base:Heap,(K w.params).In base->base.Ns mainGlobals mg->av l.prog w (K w.params) mg base aF 19 fa fd ["_law_script"] (rn (K w.params))) :
 W.WalkO q loose XP YP l.row.toRowW d [] (λf vs=>PySem.call f vs):=
 L2.Cd (n:=63) (k:=19) (x:="_law_script") (CX:=λ_=>aF) (sp:=λw=>rn (K w.params)) hn (by decide) yf ⟨rfl,by decide,by decide⟩ hY F (λ_ _ a ns hl _ hS=>⟨a,ns,rfl,hS,λ_=>rfl⟩) λ_ _ _ _ _ z=>z
end
end Gen
open PySem PySem.W PyProof.Rows
inductive PySem.W.Fast : Prop
|tw9578595067328000186
|tw208868480625997981
|tw1510639233331008334
|tw14081197810962615178
|tw8713909328188051382
|tw15455927421317826335
|tw7280080680788411827
|tw8517953052829884885
|tw16635613509087345441
|tw3030411197416728254
|tw1422736889348129270
|tw18088186219621212124
|tw17782217832537985413
|tw15807659761418717526
|tw5349867979622992155
|tw14186572110742504535
|tw1916046081043076064
|tw910083430877231936
|tw14485026829797743587
|tw9371967091539329913
|tw15367547326778963993
|tw13216604238569610016
|tw2223495962815228108
|tw15844660733727229770
|tw15697012504773127942
|tw1380138188736661265
|tw554453308430532879
|tw9623852300618335847
|tw9867343045122931403
|tw9269845664053292874
|tw2690693100992975511
|tw16749028765986514841
|tw11188366454804913267
|tw6820388781022992235
|tw1533302013481797259
|tw5479360931879687951
|tw16624073046926615227
|tw12904490834944975258
|tw12113690804806931126
|tw15879394811584311939
|te15879394811584311939
|tw10464188760185569795
|tw17091912765135923973
|tw12193686869635990935
|tw8541325034219998220
|tw11961022798359983668
|tw18414286095131397492
|tw17714504374177782298
|tw5960155645774825835
|tw11250293054266136101
|tw10756377827648613701
|tw16962552896934782225
|tw12483505198079097761
|tw15506837081147905624
|tw17166266428565626541
|tw1145627587623948119
|tw12503426296878467463
|tw4113883990633321422
|tw4333868860109425180
|tw782055769016466968
|tw16661440967503221691
|tw10119437195942732049
|tw2963530631192662234
|tw5777300983421855433
|tw1702435335987965380
|tw7659122363326581973
|tw16233875120656393128
|tw14883947519125068280
|tw4051501674769564013
|tw14554501596958726137
|tw8487492475647479019
|tw7364150748954406419
|tw11059048146176876193
|tw18398525820697938509
|tw8983838013682433379
|tw12422339132733184586
|tw1912035917294991858
|tw835285155343328017
|tw8537706395768188767
|tw17183575321990845400
|tw7526408532731035655
|tw14414235884495613117
|tw16271339371661804268
|tw9531270094572740590
|tw11174885478433487252
|tw18080214272982510601
|tw9886627258293850319
|tw4392404012505236640
|tw63381848521181195
|tw3925129039912272325
|tw6753900074731977324
|tw7675643605727641739
|tw3957751751961269404
|tw15516460082840987158
|tw10185677789914045925
|tw7832282278412508713
|tw17349308799388852064
|tw4586753244992152129
|tw1110608344639358768
|tw6957813974968900321
|tw17456805180912977459
|tw4658792488017212729
|tw885113362576970771
|tw11755266569447596361
|tw11802996527887785404
|tw5003834057380821946
|tw2937563658699645006
|tw10326719674021366249
|tw1630889863115413083
|tw4361165877364549320
|tw17221726096400220156
|tw1111973604797236688
|tw13328832026883173372
|tw8548376757977822591
|tw13783263714391841670
|tw7945267925486320805
|tw15522979398567732826
|tw16786704090130860591
|tw2784911077395772764
|tw2546630066798807510
|tw10265751664885423777
|tw9769016216000706557
|tw2303831044749909056
|tw6717213594755473266
|tw13467627076680389303
|tw8823899965995720190
|tw9490655282836914757
|tw17982965438291640215
set_option maxRecDepth 100000 in
set_option maxHeartbeats 0 in
theorem PySem.Challenge.cw_everguard_k40_one_tree_for_each_set_holds : PySem.Challenge.rw_everguard_k40_one_tree_for_each_set.Holds := by
 w_on; o_law; k_head; (case hw=>w_witness2)
 k_fill
 refine Gen.walk (l:=PySem.Challenge.rw_everguard_k40_one_tree_for_each_set) rfl rfl (λw h Y=>W.kIn_of Y) ?F
 case F=>
  intro w mg fa h KX G yg
  refine' Gen.all_mk KX G yg ?aC ?a100 ?i100 ?l100 ?c100 ?k100 ?a101 ?i101 ?l101 ?c101 ?k101 ?a102 ?i102 ?l102 ?c102 ?k102 ?a103 ?i103 ?l103 ?c103 ?k103 ?a104 ?i104 ?l104 ?c104 ?k104 ?a105 ?i105 ?l105 ?c105 ?k105 ?a2 ?l2 ?c2 ?k2 ?a3 ?l3 ?c3 ?k3 ?a4 ?l4 ?c4 ?k4 ?a5 ?l5 ?c5 ?k5 ?a6 ?l6 ?c6 ?k6 ?a9 ?l9 ?c9 ?k9 ?a10 ?l10 ?c10 ?k10 ?a11 ?l11 ?c11 ?k11 ?a12 ?l12 ?c12 ?k12 ?a13 ?l13 ?c13 ?k13 ?a14 ?l14 ?c14 ?k14 ?a15 ?l15 ?c15 ?k15 ?a16 ?l16 ?c16 ?k16 ?a17 ?l17 ?c17 ?k17 ?a18 ?l18 ?c18 ?k18 ?a19 ?l19 ?c19 ?k19 ?a20 ?l20 ?c20 ?k20 ?a21 ?l21 ?c21 ?k21 ?a22 ?l22 ?c22 ?k22 ?a23 ?l23 ?c23 ?k23 ?pg ?hd ?po ?sa ?mk ?kc ?n1 ?n2 ?n3 ?n4 ?n5 ?n6 ?n7 ?z0 ?z1 ?z2 ?z3 ?z4 ?z5 ?z6 ?z7 ?z8 ?z9 ?z10 ?z11 ?z12 ?z13
  (case aC=>k_is); (case a100=>k_is); (case i100=>k_is); (case l100=>k_is); (case c100=>k_is); (case k100=>k_is)
  (case a101=>k_is); (case i101=>k_is); (case l101=>k_is); (case c101=>k_is); (case k101=>k_is); (case a102=>k_is)
  (case i102=>k_is); (case l102=>k_is); (case c102=>k_is); (case k102=>k_is); (case a103=>k_is); (case i103=>k_is)
  (case l103=>k_is); (case c103=>k_is); (case k103=>k_is); (case a104=>k_is); (case i104=>k_is); (case l104=>k_is)
  (case c104=>k_is); (case k104=>k_is); (case a105=>k_is); (case i105=>k_is); (case l105=>k_is); (case c105=>k_is)
  (case k105=>k_is); (case a2=>k_is); (case l2=>k_is); (case c2=>k_is); (case k2=>k_is); (case a3=>k_is)
  (case l3=>k_is); (case c3=>k_is); (case k3=>k_is); (case a4=>k_is); (case l4=>k_is); (case c4=>k_is)
  (case k4=>k_is); (case a5=>k_is); (case l5=>k_is); (case c5=>k_is); (case k5=>k_is); (case a6=>k_is)
  (case l6=>k_is); (case c6=>k_is); (case k6=>k_is); (case a9=>k_is); (case l9=>k_is); (case c9=>k_is)
  (case k9=>k_is); (case a10=>k_is); (case l10=>k_is); (case c10=>k_is); (case k10=>k_is); (case a11=>k_is)
  (case l11=>k_is); (case c11=>k_is); (case k11=>k_is); (case a12=>k_is); (case l12=>k_is); (case c12=>k_is)
  (case k12=>k_is); (case a13=>k_is); (case l13=>k_is); (case c13=>k_is); (case k13=>k_is); (case a14=>k_is)
  (case l14=>k_is); (case c14=>k_is); (case k14=>k_is); (case a15=>k_is); (case l15=>k_is); (case c15=>k_is)
  (case k15=>k_is); (case a16=>k_is); (case l16=>k_is); (case c16=>k_is); (case k16=>k_is); (case a17=>k_is)
  (case l17=>k_is); (case c17=>k_is); (case k17=>k_is); (case a18=>k_is); (case l18=>k_is); (case c18=>k_is)
  (case k18=>k_is); (case a19=>k_is); (case l19=>k_is); (case c19=>k_is); (case k19=>k_is); (case a20=>k_is)
  (case l20=>k_is); (case c20=>k_is); (case k20=>k_is); (case a21=>k_is); (case l21=>k_is); (case c21=>k_is)
  (case k21=>k_is); (case a22=>k_is); (case l22=>k_is); (case c22=>k_is); (case k22=>k_is); (case a23=>k_is)
  (case l23=>k_is); (case c23=>k_is); (case k23=>k_is); (case pg=>k_is); (case hd=>k_is); (case po=>k_is)
  (case sa=>k_is); (case mk=>k_is); (case kc=>k_is); (case n1=>k_is); (case n2=>k_is); (case n3=>k_is)
  (case n4=>k_is); (case n5=>k_is); (case n6=>k_is); (case n7=>k_is); (case z0=>k_is); (case z1=>k_is)
  (case z2=>k_is); (case z3=>k_is); (case z4=>k_is); (case z5=>k_is); (case z6=>k_is); (case z7=>k_is)
  (case z8=>k_is); (case z9=>k_is); (case z10=>k_is); (case z11=>k_is); (case z12=>k_is); (case z13=>k_is)
#print axioms PySem.Challenge.cw_everguard_k40_one_tree_for_each_set_holds
