import PyProof.Rows.All
import Wide.All
import OpenK.AllK
import Wide.FinOn
import Lean
import PyProof.EqAt
import PyProof.EqKinds
import PyProof.TupleCall
import PyProof.StrBlockL
import PyProof.Rows.SortRuns
import KE.KSortTup
import PyProof.NeData
import PyProof.P3Eq
import PyProof.Rows.Chain
import PyProof.Rows.RuleIs
import PyProof.DictRoadsH
import PyProof.TupleKey
import Wide.Seal
import PyProof.MaxThree
import PyProof.IsiH_list
import PyProof.AttrMiss
import PyProof.ConsumeWalk
import PyProof.TupleIter
import KE.KDictOf
import PyProof.DictWalks
import KE.KDictList
import PyProof.NeKinds
import KE.KRevIter
import PyProof.ListNew
import PyProof.Rows.FactsT2
import PyProof.Rows.BitMore
import PyProof.ZipIter
import PySem.Challenge.RW_everguard_k41_both_either_opposite
set_option Elab.async false
set_option linter.all false
set_option maxRecDepth 100000
namespace L2
open PySem PySem.Spec PyProof.Rows
abbrev Key:=Sum Int Str
def iY:Key->Value->Bool
 | .inl k,v=>Value.isInt k v
 | .inr x,v=>Value.isStrOf x v
def D8 (w:World):Key->Int
 | .inl k=>hashInt k
 | .inr x=>hashStr w x
theorem bZ:∀{k:Key}{v:Value},iY k v=true->(∃i t,k=Sum.inl i/\v=Value.int i t)\/(∃x t,k=Sum.inr x/\v=Value.str x t)
 | .inl i,v,h=>by
  obtain ⟨t,e⟩:=Value.isInt_shape (k:=i) (v:=v) h
  exact .inl ⟨i,t,rfl,e⟩
 | .inr x,v,h=>by
  obtain ⟨t,e⟩:=Value.isStrOf_shape (x:=x) (v:=v) h
  exact .inr ⟨x,t,rfl,e⟩
theorem rP (i:Int) (t:Tok):iY (.inl i) (.int i t)=true:=by simp [iY,Value.isInt]
theorem rQ (x:Str) (t:Tok):iY (.inr x) (.str x t)=true:=by simp [iY,Value.isStrOf]
theorem xI (a b:Int):decide ((Sum.inl a:Key)=Sum.inl b)=(a == b):=by
 by_cases e:a=b
 . subst e; simp
 . have h:¬ (Sum.inl a:Key)=Sum.inl b:=λq=>e (Sum.inl.inj q)
   rw [decide_eq_false h]
   exact (beq_eq_false_iff_ne.mpr e).symm
theorem xJ (a b:Str):decide ((Sum.inr a:Key)=Sum.inr b)=decide (a=b):=by
 by_cases e:a=b
 . subst e; simp
 . have h:¬ (Sum.inr a:Key)=Sum.inr b:=λq=>e (Sum.inr.inj q)
   rw [decide_eq_false h,decide_eq_false e]
theorem xK (a:Int) (b:Str):decide ((Sum.inl a:Key)=Sum.inr b)=false:=decide_eq_false (λq=>nomatch q)
theorem xM (a:Str) (b:Int):decide ((Sum.inr a:Key)=Sum.inl b)=false:=decide_eq_false (λq=>nomatch q)
def bb (prog:Program) (w:World):PySem.KeyKind prog w Key where
 is:=iY
 hash:=D8 w
 inj:=λv a b ha hb=>by
  rcases bZ ha with ⟨i,t,rfl,rfl⟩ | ⟨x,t,rfl,rfl⟩
  . rcases bZ hb with ⟨j,u,rfl,e⟩ | ⟨y,u,rfl,e⟩
    . injection e with e1 _; rw [e1]
    . exact nomatch e
  . rcases bZ hb with ⟨j,u,rfl,e⟩ | ⟨y,u,rfl,e⟩
    . exact nomatch e
    . injection e with e1 _; rw [e1]
 byValue:=λk v h=>by
  rcases bZ h with ⟨i,t,rfl,rfl⟩ | ⟨x,t,rfl,rfl⟩ <;> rfl
 pyHash:=λhv h=>by
  rcases bZ hv with ⟨i,t,rfl,rfl⟩ | ⟨x,t,rfl,rfl⟩
  . exact wpAny_pyHash_int h
  . exact wpAny_pyHash_str h
 eqBool:=λhu hv h=>by
  rcases bZ hu with ⟨i,t,rfl,rfl⟩ | ⟨x,t,rfl,rfl⟩
  . rcases bZ hv with ⟨j,u,rfl,rfl⟩ | ⟨y,u,rfl,rfl⟩
    . rw [xI] at h; exact wpAny_eqBool_int h
    . rw [xK] at h; exact SeqAt.EqAt.int_str i t y u _ _ _ _ h
  . rcases bZ hv with ⟨j,u,rfl,rfl⟩ | ⟨y,u,rfl,rfl⟩
    . rw [xM] at h; exact SeqAt.EqAt.str_int x t j u _ _ _ _ h
    . rw [xJ] at h; exact wpAny_eqBool_str h
 «strs»:=λk x t v h=>by
  rcases bZ h with ⟨i,u,rfl,e⟩ | ⟨y,u,rfl,e⟩
  . exact nomatch e
  . injection e with e1 _
    subst e1
    cases v <;> rfl
theorem o7 (prog:Program) (w:World) (i:Int) (t:Tok):(bb prog w).is (.inl i) (.int i t)=true:=rP i t
theorem o8 (prog:Program) (w:World) (x:Str) (t:Tok):(bb prog w).is (.inr x) (.str x t)=true:=rQ x t
end L2
namespace L2
open PySem PySem.Spec PyProof.Rows
inductive V where
 | aR | bl (b:Bool) | int (i:Int) | str (x:Str) | gs (b:Array UInt8) | lO (b:UInt64) | ref (a:Addr) | ty (n:String)
 deriving DecidableEq
def RelV:V->Value->Prop
 | .aR,u=>u=Value.none
 | .bl b,u=>u=Value.bool b
 | .int i,u=>∃t,u=Value.int i t
 | .str x,u=>∃t,u=Value.str x t
 | .gs b,u=>∃t,u=Value.bytes b t
 | .lO b,u=>∃t,u=Value.float b t
 | .ref a,u=>u=Value.ref a
 | .ty n,u=>u=Value.type n
abbrev Vals:List V->List Value->Prop:=Paired RelV
theorem Vals.length {xs:List V}{us:List Value}(r:Vals xs us):xs.length=us.length:=Paired.length r
theorem Vals.get:∀{xs:List V}{us:List Value}{i:Nat}{x:V},Vals xs us->xs[i]?=some x->∃u,us[i]?=some u/\RelV x u
 | _,_,_,_,.nil,e=>by simp at e
 | _,_,0,_,.cons r _,e=>by simp at e; subst e; exact ⟨_,rfl,r⟩
 | _,_,i+1,x,.cons _ t,e=>by
  obtain ⟨u,h1,h2⟩:=Vals.get (i:=i) (x:=x) t (by simpa using e)
  exact ⟨u,by simpa using h1,h2⟩
theorem Vals.set {x:V}{u:Value}(r:RelV x u):∀{xs:List V}{us:List Value}(i:Nat),Vals xs us->Vals (xs.set i x) (us.set i u)
 | _,_,_,.nil=>.nil
 | _,_,0,.cons _ t=>.cons r t
 | _,_,i+1,.cons q t=>.cons q (Vals.set r i t)
theorem Vals.append:∀{xs ys:List V}{us ws:List Value},Vals xs us->Vals ys ws->Vals (xs++ys) (us++ws)
 | _,_,_,_,.nil,s=>s
 | _,_,_,_,.cons r t,s=>.cons r (Vals.append t s)
theorem Vals.take:∀{xs:List V}{us:List Value}(n:Nat),Vals xs us->Vals (xs.take n) (us.take n)
 | _,_,0,_=>.nil
 | _,_,_+1,.nil=>.nil
 | _,_,n+1,.cons r t=>.cons r (Vals.take n t)
theorem Vals.drop:∀{xs:List V}{us:List Value}(n:Nat),Vals xs us->Vals (xs.drop n) (us.drop n)
 | _,_,0,r=>r
 | _,_,_+1,.nil=>.nil
 | _,_,n+1,.cons _ t=>Vals.drop n t
def cB:Option V->Option Value->Prop
 | some v,some u=>RelV v u
 | none,none=>True
 | _,_=>False
def KV {κ:Type} : List (κ×V)->List (κ×Value)->Prop:=Paired λ(p:κ×V) (q:κ×Value)=>p.1=q.1/\RelV p.2 q.2
def kV:Key->V
 | .inl i=>.int i
 | .inr x=>.str x
inductive HO where
 /-- a list -/
 | lst (xs:List V)
 /-- a tuple (never changes) -/
 | tup (xs:List V)
 /-- a dict whose keys are ints and texts; one whose keys are tuples of ints and texts (the empty one is both) -/
 | dK (kvs:List (Key×V)) | dT (kvs:List (List Key×V))
 /-- a set of ints: its members,its size -/
 | set (S:Int->Bool) (n:Nat)
 /-- an instance of the class at C,its dict at dx,its attributes -/
 | ins (C dx:Addr) (fs:List (Str×V))
 /-- the dict of the instance at x -/
 | own (x:Addr)
 /-- the dict of an exception -/
 | xd (fs:List (Str×V))
 /-- a bound method,f of x -/
 | met (f x:Addr)
 /-- a range object lo,lo+1,.. below hi -/
 | xN (lo hi:Int)
 /-- a thing that is known to the object (the script; a dict while a loop walks it): read,never written while it is so -/
 | gc (o:Obj) (u:HO)
 /-- a code object's table -/
 | mx (ps:Array Value)
 /-- any other thing,by what is true of its one object (a def of one's own: SetO a S n:=HO.ext λh=>..) -/
 | ext (φ:Heap->Prop)
abbrev Hp:=Addr->Option HO
def upd (H:Hp) (a:Addr) (o:HO):Hp:=λb=>if b=a then some o else H b
theorem ag {H:Hp}{a:Addr}{o:HO} : upd H a o a=some o:=by unfold upd; rw [if_pos rfl]
theorem ai {H:Hp}{a b:Addr}{o:HO}(h:b≠a):upd H a o b=H b:=by unfold upd; rw [if_neg h]
theorem pw {H:Hp}{a:Addr}{o u:HO} : upd (upd H a o) a u=upd H a u:=by
 funext b; unfold upd; split <;> rfl
theorem cC {H:Hp}{a b:Addr}{o u:HO}(h:H a=some o) (h':H b=some u) (d:o≠u):a≠b:=by
 intro e; subst e; rw [h] at h'; exact d (Option.some.inj h')
theorem ah {H:Hp}{a b:Addr}{o:HO}(h:H a=some o) (h':H b=none):a≠b:=by
 intro e; subst e; rw [h] at h'; cases h'
section
variable (P:Program) (w:World)
def aT (H:Hp) (h:Heap) (a:Addr):HO->Prop
 | .lst xs=>xs.length<=sizeLine/\∃(its:List Value) (n:Nat),Vals xs its/\h.get? a=some { cls:=.type "list",data:=.seq its.toArray n }
 | .tup xs=>xs.length<=sizeLine/\∃its:List Value,Vals xs its/\IsTup h a its.toArray
 | .dK kvs=>kvs.length<=sizeLine/\(a == sysModules)=false/\∃vs,KV kvs vs/\h.DictOf (bb P w) a vs
 | .dT kvs=>kvs.length<=sizeLine/\(a == sysModules)=false/\∃xs:List (List Key×Addr×Value),
  Paired (λ(p:List Key×V) (q:List Key×Addr×Value)=>p.1=q.1/\H q.2.1=some (.tup (p.1.map kV))/\RelV p.2 q.2.2) kvs xs/\
  ∃o es ep,h.get? a=some o/\o.ExactDict/\o.data=.dict es ep/\es.toList=xs.map (entryOfKey (tupleKind (bb P w)))/\(xs.map (·.1)).Nodup
 | .set S n=>h.SetOf (intKind P w) a S n
 | .ins C dx fs=>H dx=some (.own a)/\fs.length<=1000/\dx≠a/\h.get? a=some (W.instObj C dx)/\
  ∃mA,h.Ns1 dx mA/\(∀f,cB (fs.lookup f) (mA f))/\PySem.Within mA (fs.map (·.1))
 | .own _=>∃o,h.get? a=some o
 | .xd fs=>∃mA,h.Ns1 a mA/\∀f,cB (fs.lookup f) (mA f)
 | .xN lo hi=>∃t u v,h.get? a=some { cls:=.type "range",data:=.fields #[.int lo t,.int hi u,.int 1 v] }
 | .gc o u=>h.get? a=some o/\aT H h a u
 | .mx ps=>h.get? a=some { cls:=.none,data:=.fields ps }
 | .met f x=>h.get? a=some (W.methodObj (.ref f) (.ref x))
 | .ext φ=>φ h/\(∃o,h.get? a=some o)/\∀h1 h2:Heap,φ h1->(∀o,h1.get? a=some o->h2.get? a=some o)->φ h2
def cb (H:Hp) (h:Heap):Prop:=∀a o,H a=some o->aT P w H h a o
end
section
variable {P:Program}{w:World}{H H':Hp}{h h':Heap}{a:Addr}{o:HO}
theorem aT.lt (x:aT P w H h a o):a<h.objs.size:=by
 cases o with
 | lst xs=>obtain ⟨_,_,_,_,e⟩:=x; exact Heap.lt_size e
 | tup xs=>obtain ⟨_,_,_,p⟩:=x; exact p.lt
 | dK kvs=>obtain ⟨_,_,_,_,o,_,_,e,_⟩:=x; exact Heap.lt_size e
 | dT kvs=>obtain ⟨_,_,_,_,o,_,_,e,_⟩:=x; exact Heap.lt_size e
 | set S n=>obtain ⟨o,_,_,_,e,_⟩:=x; exact Heap.lt_size e
 | ins C dx fs=>obtain ⟨_,_,_,e,_⟩:=x; exact Heap.lt_size e
 | own y=>obtain ⟨_,e⟩:=x; exact Heap.lt_size e
 | xd fs=>obtain ⟨_,⟨_,_,_,e,_⟩,_⟩:=x; exact Heap.lt_size e
 | xN lo hi=>obtain ⟨_,_,_,e⟩:=x; exact Heap.lt_size e
 | gc ob u=>obtain ⟨e,_⟩:=x; exact Heap.lt_size e
 | mx ps=>exact Heap.lt_size (show h.get? a=some _ from x)
 | met f y=>exact Heap.lt_size (show h.get? a=some _ from x)
 | ext φ=>obtain ⟨_,⟨_,e⟩,_⟩:=x; exact Heap.lt_size e
theorem Paired.gL {α β:Type}{F G:α->β->Prop} : ∀{my:List α}{mz:List β},Paired F my mz->(∀a b,F a b->G a b)->Paired G my mz
 | _,_,.nil,_=>.nil
 | _,_,.cons r t,f=>.cons (f _ _ r) (Paired.gL t f)
theorem aT.dc (x:aT P w H h a o) (k:∀b u,(b=a\/H b=some (.own a))->h.get? b=some u->h'.get? b=some u)
 (ho:∀b,H b=some (.own a)->H' b=some (.own a)) (ht:∀b xs,H b=some (.tup xs)->H' b=some (.tup xs)):aT P w H' h' a o:=by
 induction o with
 | lst xs=>obtain ⟨z,its,n,r,e⟩:=x; exact ⟨z,its,n,r,k _ _ (.inl rfl) e⟩
 | tup xs=>obtain ⟨z,its,r,ob,e,c⟩:=x; exact ⟨z,its,r,ob,k _ _ (.inl rfl) e,c⟩
 | dK kvs=>obtain ⟨z,y,vs,r,ob,es,ep,e,c⟩:=x; exact ⟨z,y,vs,r,ob,es,ep,k _ _ (.inl rfl) e,c⟩
 | dT kvs=>
  obtain ⟨z,y,xs,r,ob,es,ep,e,c⟩:=x
  exact ⟨z,y,xs,Paired.gL r λp q z=>⟨z.1,ht _ _ z.2.1,z.2.2⟩,ob,es,ep,k _ _ (.inl rfl) e,c⟩
 | set S n=>obtain ⟨ob,es,ep,t,e,c⟩:=x; exact ⟨ob,es,ep,t,k _ _ (.inl rfl) e,c⟩
 | ins C dx fs=>
  obtain ⟨d,z,ne,e,mA,⟨od,es,ep,e2,c⟩,r⟩:=x
  exact ⟨ho _ d,z,ne,k _ _ (.inl rfl) e,mA,⟨od,es,ep,k _ _ (.inr d) e2,c⟩,r⟩
 | own y=>obtain ⟨ob,e⟩:=x; exact ⟨ob,k _ _ (.inl rfl) e⟩
 | xd fs=>obtain ⟨mA,⟨od,es,ep,e,c⟩,r⟩:=x; exact ⟨mA,⟨od,es,ep,k _ _ (.inl rfl) e,c⟩,r⟩
 | xN lo hi=>obtain ⟨t,u,v,e⟩:=x; exact ⟨t,u,v,k _ _ (.inl rfl) e⟩
 | gc ob u ih=>obtain ⟨e,q⟩:=x; exact ⟨k _ _ (.inl rfl) e,ih q⟩
 | mx ps=>
  have e:h.get? a=some { cls:=.none,data:=.fields ps }:=x
  show h'.get? a=some { cls:=.none,data:=.fields ps }
  exact k a _ (.inl rfl) e
 | met f y=>
  have e:h.get? a=some (W.methodObj (.ref f) (.ref y)):=x
  show h'.get? a=some (W.methodObj (.ref f) (.ref y))
  exact k a _ (.inl rfl) e
 | ext φ=>obtain ⟨p,⟨o,e⟩,st⟩:=x; exact ⟨st _ _ p λo q=>k _ _ (.inl rfl) q,⟨o,k _ _ (.inl rfl) e⟩,st⟩
theorem cb.lt (x:cb P w H h) (e:H a=some o):a<h.objs.size:=(x a o e).lt
theorem cb.fresh (x:cb P w H h) (e:h.objs.size<=a):H a=none:=by
 cases q:H a with
 | none=>rfl
 | some u=>exact absurd (Nat.lt_of_lt_of_le (x.lt q) e) (Nat.lt_irrefl _)
theorem cb.kept (x:cb P w H h) (k:∀b u,h.get? b=some u->h'.get? b=some u):cb P w H h':=λa o e=>
 (x a o e).dc (λb u _ q=>k b u q) (λ_ q=>q) λ_ _ q=>q
theorem cb.laid (x:cb P w H h) (k:∀b u,h.get? b=some u->h'.get? b=some u) (hp:h.objs.size<=a) (new:aT P w (upd H a o) h' a o):cb P w (upd H a o) h':=λb u e=>by
 have hn:=x.fresh hp
 by_cases hb:b=a
 . subst hb; rw [ag] at e; cases e; exact new
 . rw [ai hb] at e
   exact (x b u e).dc (λc v _ q=>k c v q) (λc q=>by rw [ai (ah q hn)]; exact q) λc xs q=>by rw [ai (ah q hn)]; exact q
end
def Rd (H:Hp) (a:Addr) (u:HO):Prop:=H a=some u\/∃o,H a=some (.gc o u)
theorem Rd.ok {P:Program}{w:World}{H:Hp}{h:Heap}{a:Addr}{u:HO}(r:Rd H a u) (x:cb P w H h):aT P w H h a u:=by
 rcases r with r | ⟨o,r⟩
 . exact x a u r
 . obtain ⟨_,q⟩:=x a _ r
   exact q
def rS:Option HO->Prop
 | some (.lst _)=>True
 | some (.dK _)=>True
 | some (.dT _)=>True
 | some (.set _ _)=>True
 | some (.ins _ _ _)=>True
 | some (.ext _)=>True
 | _=>False
section
variable {P:Program}{w:World}{H:Hp}{h h':Heap}{x e:Addr}{o':HO}
theorem cb.write (ok:cb P w H h) (mu:rS (H x)) (he:e=x\/H e=some (.own x)) (k:∀b u,b≠e->h.get? b=some u->h'.get? b=some u) (px:∃u,h'.get? e=some u)
 (new:aT P w (upd H x o') h' x o'):cb P w (upd H x o') h':=λb u q=>by
 have xO:∀c y,H c=some (.own y)->c≠x:=λc y r z=>by subst z; rw [r] at mu; exact mu
 have D9:∀c xs,H c=some (.tup xs)->c≠x:=λc xs r z=>by subst z; rw [r] at mu; exact mu
 by_cases hb:b=x
 . subst hb; rw [ag] at q; cases q; exact new
 . rw [ai hb] at q
   by_cases mF:b=e
   . have q':H b=some (.own x):=by
      rcases he with z | z
      . exact absurd (mF.trans z) hb
      . rw [mF]; exact z
     rw [q] at q'; cases q'
     obtain ⟨v,hv⟩:=px
     exact ⟨v,by rw [mF]; exact hv⟩
   . refine (ok b u q).dc (λc v hc r=>k c v ?_ r) (λc r=>by rw [ai (xO c b r)]; exact r) λc xs r=>by rw [ai (D9 c xs r)]; exact r
     rcases hc with rfl | hc
     . exact mF
     . rintro rfl
       rcases he with z | z
       . exact xO c b hc z
       . rw [hc] at z; cases z; exact hb rfl
end
structure Un (fs ex:List Addr) (H H':Hp) (h h':Heap):Prop where
 keep:∀b o,h.get? b=some o->H b=none->b∉fs->b∉ex->h'.get? b=some o
 slot:∀b o,h.get? b=some o->H b=none->b∈fs->b∉ex->∃sl,h'.get? b=some { o with slots:=sl }
 free:∀b o,h.get? b=some o->H b=none->b∉ex->H' b=none
 there:∀b o,h.get? b=some o->b∉ex->∃o',h'.get? b=some o'
 dm:∀b xs,H b=some (.tup xs)->H' b=some (.tup xs)
 frzs:∀b o u,H b=some (.gc o u)->H' b=some (.gc o u)
 tbls:∀b ps,H b=some (.mx ps)->∃more,H' b=some (.mx (ps++more))
section
variable {fs fs' ex Lv:List Addr}{H H1 H2:Hp}{h h1 h2 h':Heap}{a x e:Addr}{o:HO}
theorem Un.any (u:Un fs ex H H1 h h1){b:Addr}{ob:Obj}(q:h.get? b=some ob) (n:H b=none) (hx:b∉ex):∃sl,h1.get? b=some { ob with slots:=sl }:=by
 by_cases hb:b∈fs
 . exact u.slot b ob q n hb hx
 . exact ⟨ob.slots,u.keep b ob q n hb hx⟩
theorem Un.kept (k:∀b u,h.get? b=some u->h'.get? b=some u):Un fs ex H H h h':=
 ⟨λb ob q _ _ _=>k b ob q,λb ob q _ _ _=>⟨ob.slots,k b ob q⟩,λ_ _ _ n _=>n,λb ob q _=>⟨ob,k b ob q⟩,λ_ _ q=>q,λ_ _ _ q=>q,λ_ ps q=>⟨#[],by rw [q]; simp⟩⟩
theorem Un.refl:Un fs ex H H h h:=Un.kept λ_ _ q=>q
theorem Un.laid (k:∀b u,h.get? b=some u->h'.get? b=some u) (hp:h.objs.size<=a) (hn:H a=none):Un fs ex H (upd H a o) h h' where
 keep:=λb u q _ _ _=>k b u q
 slot:=λb u q _ _ _=>⟨u.slots,k b u q⟩
 free:=λb u q n _=>by rw [ai (Nat.ne_of_lt (Nat.lt_of_lt_of_le (Heap.lt_size q) hp))]; exact n
 there:=λb u q _=>⟨u,k b u q⟩
 dm:=λb xs q=>by rw [ai (ah q hn)]; exact q
 frzs:=λb u xs q=>by rw [ai (ah q hn)]; exact q
 tbls:=λb ps q=>⟨#[],by rw [ai (ah q hn),q]; simp⟩
theorem Un.write (mu:rS (H x)) (he:e=x\/H e=some (.own x)) (k:∀b u,b≠e->h.get? b=some u->h'.get? b=some u) (px:∃u,h'.get? e=some u):Un fs ex H (upd H x o) h h':=by
 have hx:∀b,H b=none->b≠x:=λb n z=>by subst z; rw [n] at mu; exact mu
 have hb:∀b,H b=none->b≠e:=λb n z=>by
  subst z
  rcases he with r | r
  . exact hx b n r
  . rw [n] at r; cases r
 have hm:∀b u,H b=some u->¬ rS (some u)->b≠x:=λb u q nm z=>by subst z; rw [q] at mu; exact nm mu
 refine ⟨λb u q n _ _=>k b u (hb b n) q,λb u q n _ _=>⟨u.slots,k b u (hb b n) q⟩,λb u q n _=>by rw [ai (hx b n)]; exact n,λb u q _=>?_,
  λb xs q=>by rw [ai (hm b _ q λz=>z)]; exact q,λb u xs q=>by rw [ai (hm b _ q λz=>z)]; exact q,λb ps q=>⟨#[],by rw [ai (hm b _ q λz=>z),q]; simp⟩⟩
 by_cases mF:b=e
 . subst mF; exact px
 . exact ⟨u,k b u mF q⟩
end
def vE (h:Heap) (H:Hp):List Addr:=(List.range h.objs.size).filter λa=>(H a).isSome
def gM (h:Heap) (H:Hp):Heap:=W.hideAll h (vE h H)
theorem rT (h:Heap) (H:Hp):(gM h H).objs.size=h.objs.size:=W.hideAll_size _ _
theorem uH {h:Heap}{H:Hp}{b:Addr}{o:Obj}(e:h.get? b=some o) (n:H b=none):(gM h H).get? b=some o:=
 W.hideAll_get _ e λhm=>by
  have q:(H b).isSome=true:=(List.mem_filter.mp hm).2
  rw [n] at q; simp at q
theorem wX {h:Heap}{H:Hp}{b:Addr}{o:Obj}(e:(gM h H).get? b=some o):h.get? b=some o/\H b=none:=by
 have e':h.get? b=some o:=W.of_hideAll (vE h H) e
 refine ⟨e',?_⟩
 cases q:H b with
 | none=>rfl
 | some x=>
  have hm:b∈vE h H:=List.mem_filter.mpr ⟨List.mem_range.mpr (Heap.lt_size e'),by simp [q]⟩
  have z:(gM h H).get? b=none:=W.hideAll_none (vE h H) hm
  rw [z] at e; cases e
def wY (g h:Heap) (L:Addr):List (Addr×Obj):=(List.range h.objs.size).filterMap λa=>if a=L\/(g.get? a).isSome=true then none else (h.get? a).map λo=>(a,o)
def rest (g h:Heap) (L d:Addr):List (Addr×Obj):=(wY g h L).filter λp=>decide (p.1≠d)
end L2
namespace L2
open PySem PySem.Spec PyProof.Rows
structure Mod (K:W.Frag) (mg:Str->Option Value) (base:Heap):Prop where
 kin:K.In base
 glob:base.Ns mainGlobals mg
 blt:∃mb,base.Ns builtinsNs mb/\∀x:Str,x ≠ "__name__" -> mb x=bootBuiltins x
 nolimit:base.NoLimit
structure Cx where
 prog:Program
 w:World
 K:W.Frag
 mg:Str->Option Value
 base:Heap
 A:Around
 N:List Str
 eT:Shared
 xP:Hp
 env:Env
 outer:List Env
 stack:List Env
 ex:List Addr
 fn:Str->Bool
 calm:Bool
 pn:List (Addr×Obj)
 xe:Value->Shared->Prop
def ie (l:List Env):List Addr:=l.filterMap (·.frame)
abbrev Cx.fs (X:Cx):List Addr:=ie X.outer
def xQ (sc:Scope) (x:Str):Prop:=sc.names.lookup x=some .local\/sc.names.lookup x=some .cell\/sc.names.lookup x=some .free
def Loc (sc:Scope) (x:Str):Prop:=sc.names.lookup x=some .local\/sc.names.lookup x=some .cell
def Look (env:Env) (h:Heap) (m:Str->Option Value) (x:Str) (u:Value):Prop:=
 (env.kindOf x=some .local/\m x=some u)\/((env.kindOf x=some .cell\/env.kindOf x=some .free)/\∃c,env.cells.lookup x=some c/\h.IsCell c (some u))
structure Cx.Ok (X:Cx):Prop where
 mod:Mod X.K X.mg X.base
 kind:X.env.scope.kind=.function
 glob:X.env.globals=mainGlobals
 blt:X.env.builtins=builtinsNs
 above:X.eT.heap.objs.size<=X.env.locals
 inj:∀x y c,X.env.cells.lookup x=some c->X.env.cells.lookup y=some c->x=y
 has:∀x,(X.env.kindOf x=some .cell\/X.env.kindOf x=some .free)->∃c,X.env.cells.lookup x=some c
 cab:∀x c,X.fn x=true->X.env.cells.lookup x=some c->X.eT.heap.objs.size<=c
 hd:X.calm=true->X.A.handled=none
 frames:X.A.frames=some X.stack
 stk:X.stack=X.outer\/(X.stack=X.env::X.outer/\X.env.frame=some X.env.locals)
 exf:∀b∈X.ex,b≠X.env.locals/\∀x c,X.env.cells.lookup x=some c->c≠b
 bs:∀b o,X.base.get? b=some o->X.eT.heap.get? b=some o/\X.xP b=none
 bsz:X.base.objs.size<=X.eT.heap.objs.size
 noex:∀b o,X.base.get? b=some o->b∉X.ex
 exfs:∀b∈X.ex,b∉X.fs
 eU:X.eT.heap.FunFrames X.base X.outer
 frf:∀b∈X.fs,X.xP b=none
structure Inv (X:Cx) (pins:List (Addr×Obj)) (σ:List (Option V)) (H:Hp) (s:Shared):Prop where
 ok:X.Ok
 os:s.os=X.eT.os
 bare:AllBare s.gens
 base:Un X.fs X.ex X.xP H X.eT.heap s.heap
 loc:∃m,s.heap.Ns X.env.locals m/\∀(i:Nat) (x:Str) (v:V),X.N[i]?=some x->σ[i]?=some (some v)->xQ X.env.scope x->∃u,RelV v u/\Look X.env s.heap m x u
 cell:∀x c,X.env.cells.lookup x=some c->∃v,s.heap.IsCell c v
 free:H X.env.locals=none
 freeC:∀x c,X.env.cells.lookup x=some c->H c=none
 pin:∀p∈X.pn++pins,s.heap.get? p.1=some p.2/\H p.1=none/\p.1≠X.env.locals/\p.1∉X.fs/\∀v,p.2.data≠.cell v
 hok:cb X.prog X.w H s.heap
 len:σ.length=X.N.length
section
variable {X:Cx}{pins:List (Addr×Obj)}{σ:List (Option V)}{H H':Hp}{s:Shared}{h':Heap}
theorem Cx.Ok.Ea (ok:X.Ok){b:Addr}{o:Obj}(e:X.base.get? b=some o):b∉X.fs:=λhb=>by
 have:=(ok.eU.mem hb).1
 rw [e] at this; cases this
theorem Inv.bs (I:Inv X pins σ H s):∀b o,X.base.get? b=some o->s.heap.get? b=some o/\H b=none:=λb o e=>
 ⟨I.base.keep b o (I.ok.bs b o e).1 (I.ok.bs b o e).2 (I.ok.Ea e) (I.ok.noex b o e),I.base.free b o (I.ok.bs b o e).1 (I.ok.bs b o e).2 (I.ok.noex b o e)⟩
theorem Inv.bk (I:Inv X pins σ H s):∀b o,X.base.get? b=some o->s.heap.get? b=some o:=λb o e=>(I.bs b o e).1
theorem Inv.mod (I:Inv X pins σ H s):Mod X.K X.mg X.base:=I.ok.mod
theorem Inv.cO (I:Inv X pins σ H s):X.K.In s.heap:=I.ok.mod.kin.keeps I.bk
theorem Inv.lt (I:Inv X pins σ H s):X.env.locals<s.heap.objs.size:=let ⟨_,hn,_⟩:=I.loc; hn.lt
theorem Inv.sz (I:Inv X pins σ H s):X.eT.heap.objs.size<=s.heap.objs.size:=Nat.le_trans I.ok.above (Nat.le_of_lt I.lt)
theorem Inv.Eb (I:Inv X pins σ H s){a:Addr}(h:s.heap.objs.size<=a):a∉X.fs:=λhb=>by
 obtain ⟨_,o,ho,_⟩:=I.ok.eU.mem hb
 exact absurd (Nat.lt_of_lt_of_le (Heap.lt_size ho) (Nat.le_trans I.sz h)) (Nat.lt_irrefl _)
theorem Inv.mG (I:Inv X pins σ H s):∀x c,X.env.cells.lookup x=some c->c≠X.env.locals:=λx c e z=>by
 obtain ⟨v,o,ho,hd⟩:=I.cell x c e
 obtain ⟨m,⟨o',es,ep,mJ,hd',_⟩,_⟩:=I.loc
 rw [z,mJ] at ho; cases ho; rw [hd'] at hd; cases hd
theorem Inv.eU (I:Inv X pins σ H s):s.heap.FunFrames X.base X.outer:=by
 have all:∀(l:List Env),(∀b∈ie l,b∈X.fs)->X.eT.heap.FunFrames X.base l->s.heap.FunFrames X.base l:=by
  intro l
  induction l with
  | nil=>intro _ _; trivial
  | cons env r ih=>
   intro hs hl
   obtain ⟨hk,⟨L,o,hf,hn,ho,hd⟩,hr⟩:=hl
   have hL:L∈X.fs:=hs L (by unfold ie; rw [List.filterMap_cons,hf]; exact List.mem_cons_self)
   obtain ⟨sl,e⟩:=I.base.slot L o ho (I.ok.frf L hL) hL λz=>I.ok.exfs L z hL
   exact ⟨hk,⟨L,_,hf,hn,e,hd⟩,ih (λb hb=>hs b (by unfold ie; rw [List.filterMap_cons,hf]; exact List.mem_cons_of_mem _ hb)) hr⟩
 exact all X.outer (λ_ hb=>hb) I.ok.eU
theorem Inv.stack (I:Inv X pins σ H s):s.heap.FunFrames X.base X.stack:=by
 rcases I.ok.stk with e | ⟨e,hf⟩
 . rw [e]; exact I.eU
 . rw [e]
   obtain ⟨m,hn,_⟩:=I.loc
   refine .cons (by rw [I.ok.kind]; decide) hf hn ?_ I.eU
   exact Heap.get?_none_of_le (Nat.le_trans I.ok.bsz I.ok.above)
theorem Inv.jV (I:Inv X pins σ H s):∀b∈ie X.stack,b∈X.env.locals::X.fs:=λb hb=>by
 rcases I.ok.stk with e | ⟨e,hf⟩
 . rw [e] at hb; exact List.mem_cons_of_mem _ hb
 . rw [e] at hb
   unfold ie at hb
   rw [List.filterMap_cons,hf] at hb
   exact hb
theorem Inv.pz (I:Inv X pins σ H s):∀b∈ie X.stack,H b=none:=λb hb=>by
 rcases List.mem_cons.mp (I.jV b hb) with e | hb
 . rw [e]; exact I.free
 . obtain ⟨_,o,ho,_⟩:=I.ok.eU.mem hb
   exact I.base.free b o ho (I.ok.frf b hb) λz=>I.ok.exfs b z hb
theorem Inv.step {g':Array GenState}{t':Nat}{d':Drawn}{ch:List Addr}(I:Inv X pins σ H s)
 (jk:∀b∈ch,(b∈X.ex\/X.eT.heap.objs.size<=b)/\b≠X.env.locals/\(∀x c,X.env.cells.lookup x=some c->c≠b)/\∀p∈X.pn++pins,p.1≠b)
 (keep:∀b o,b≠X.env.locals->b∉X.fs->b∉ch->s.heap.get? b=some o->H b=none->h'.get? b=some o)
 (slot:∀b o,b≠X.env.locals->b∈X.fs->b∉ch->s.heap.get? b=some o->H b=none->∃sl,h'.get? b=some { o with slots:=sl }) (free:∀b o,b∉ch->s.heap.get? b=some o->H b=none->H' b=none)
 (there:∀b o,b∉ch->s.heap.get? b=some o->∃o',h'.get? b=some o')
 (dm:∀b xs,H b=some (.tup xs)->H' b=some (.tup xs)) (frzs:∀b o u,H b=some (.gc o u)->H' b=some (.gc o u)) (tbls:∀b ps,H b=some (.mx ps)->∃more,H' b=some (.mx (ps++more)))
 (ns:∀m,s.heap.Ns X.env.locals m->h'.Ns X.env.locals m) (hok:cb X.prog X.w H' h') (hg:AllBare g') :
 Inv X pins σ H' { s with heap:=h',gens:=g',drawn:=d',toks:=t' }:=by
 have B9:∀b o,X.eT.heap.get? b=some o->b≠X.env.locals:=λb o e=>Nat.ne_of_lt (Nat.lt_of_lt_of_le (Heap.lt_size e) I.ok.above)
 have vF:∀b o,X.eT.heap.get? b=some o->b∉X.ex->b∉ch:=λb o e hx hb=>by
  rcases (jk b hb).1 with z | z
  . exact hx z
  . exact absurd (Nat.lt_of_lt_of_le (Heap.lt_size e) z) (Nat.lt_irrefl _)
 have cellK:∀x c,X.env.cells.lookup x=some c->∀v,s.heap.IsCell c v->h'.IsCell c v:=λx c e v ⟨o,ho,hd⟩=>by
  have rU:c∉ch:=λz=>(jk c z).2.2.1 x c e rfl
  by_cases hc:c∈X.fs
  . obtain ⟨sl,q⟩:=slot c o (I.mG x c e) hc rU ho (I.freeC x c e)
    exact ⟨_,q,hd⟩
  . exact ⟨o,keep c o (I.mG x c e) hc rU ho (I.freeC x c e),hd⟩
 refine ⟨I.ok,I.os,hg,⟨λb o e n hb hx=>?_,λb o e n hb hx=>?_,λb o e n hx=>?_,λb o e hx=>?_,λb xs e=>dm b xs (I.base.dm b xs e),λb o xs e=>frzs b o xs (I.base.frzs b o xs e),λb ps e=>?_⟩,?_,λx c e=>?_,?_,λx c e=>?_,λp hp=>?_,hok,I.len⟩
 . exact keep b o (B9 b o e) hb (vF b o e hx) (I.base.keep b o e n hb hx) (I.base.free b o e n hx)
 . obtain ⟨sl,e1⟩:=I.base.slot b o e n hb hx
   obtain ⟨GS,e2⟩:=slot b _ (B9 b o e) hb (vF b o e hx) e1 (I.base.free b o e n hx)
   exact ⟨GS,e2⟩
 . obtain ⟨o',e1⟩:=I.base.there b o e hx
   exact free b o' (vF b o e hx) e1 (I.base.free b o e n hx)
 . obtain ⟨o',e1⟩:=I.base.there b o e hx
   exact there b o' (vF b o e hx) e1
 . obtain ⟨m1,e1⟩:=I.base.tbls b ps e
   obtain ⟨m2,e2⟩:=tbls b _ e1
   exact ⟨m1++m2,by rw [e2,Array.append_assoc]⟩
 . obtain ⟨m,hn,hl⟩:=I.loc
   refine ⟨m,ns m hn,λi x v e1 e2 e3=>?_⟩
   obtain ⟨u,r,l⟩:=hl i x v e1 e2 e3
   refine ⟨u,r,?_⟩
   rcases l with l | ⟨k,c,e,z⟩
   . exact .inl l
   . exact .inr ⟨k,c,e,cellK x c e _ z⟩
 . obtain ⟨v,z⟩:=I.cell x c e
   exact ⟨v,cellK x c e v z⟩
 . obtain ⟨m,⟨o,_,_,ho,_⟩,_⟩:=I.loc
   exact free _ o (λz=>(jk _ z).2.1 rfl) ho I.free
 . obtain ⟨v,o,ho,hd⟩:=I.cell x c e
   exact free c o (λz=>(jk c z).2.2.1 x c e rfl) ho (I.freeC x c e)
 . obtain ⟨e,n,ne,nf,d⟩:=I.pin p hp
   have rU:p.1∉ch:=λz=>(jk p.1 z).2.2.2 p hp rfl
   exact ⟨keep p.1 p.2 ne nf rU e n,free p.1 p.2 rU e n,ne,nf,d⟩
theorem Inv.un {t':Nat}(I:Inv X pins σ H s) (u:Un X.fs [] H H' s.heap h') (hok:cb X.prog X.w H' h'):Inv X pins σ H' { s with heap:=h',toks:=t' }:=by
 obtain ⟨m,⟨o,es,ep,ho,r⟩,_⟩:=id I.loc
 obtain ⟨sl,hL⟩:=u.any ho I.free (by simp)
 exact I.step (g':=s.gens) (d':=s.drawn) (ch:=[]) (λ_ z=>nomatch z) (λb o _ hb _ e n=>u.keep b o e n hb (by simp)) (λb o _ hb _ e n=>u.slot b o e n hb (by simp)) (λb o _ e n=>u.free b o e n (by simp)) (λb o _ e=>u.there b o e (by simp)) u.dm u.frzs u.tbls (λm' hm=>by
  obtain ⟨o',xR,xS,mJ,r'⟩:=hm
  rw [ho] at mJ; cases mJ
  exact ⟨_,xR,xS,hL,r'⟩) hok I.bare
theorem Inv.call {g':Array GenState}{t':Nat}{d':Drawn}{ch:List Addr}(I:Inv X pins σ H s) (u:Un (ie X.stack) ch H H' s.heap h') (hok:cb X.prog X.w H' h') (hg:AllBare g')
 (jk:∀b∈ch,(b∈X.ex\/X.eT.heap.objs.size<=b)/\b≠X.env.locals/\(∀x c,X.env.cells.lookup x=some c->c≠b)/\∀p∈X.pn++pins,p.1≠b) :
 Inv X pins σ H' { s with heap:=h',gens:=g',drawn:=d',toks:=t' }:=by
 obtain ⟨m,⟨o,es,ep,ho,r⟩,_⟩:=id I.loc
 obtain ⟨sl,hL⟩:=u.any ho I.free λz=>(jk _ z).2.1 rfl
 exact I.step (ch:=ch) jk (λb o hL hb hc e n=>u.keep b o e n (λz=>(List.mem_cons.mp (I.jV b z)).elim hL hb) hc) (λb o _ _ hc e n=>u.any e n hc) (λb o hc e n=>u.free b o e n hc) (λb o hc e=>u.there b o e hc) u.dm u.frzs u.tbls (λm' hm=>by
  obtain ⟨o',xR,xS,mJ,r'⟩:=hm
  rw [ho] at mJ; cases mJ
  exact ⟨_,xR,xS,hL,r'⟩) hok hg
theorem Inv.turned {t':Nat}{it:Addr}(I:Inv X pins σ H s) (k:∀b o,b≠it->s.heap.get? b=some o->h'.get? b=some o) (hn:H it=none) (hL:it≠X.env.locals)
 (h1:it∈X.ex\/X.eT.heap.objs.size<=it) (h2:∀x c,X.env.cells.lookup x=some c->c≠it) (h3:∀p∈X.pn++pins,p.1≠it):Inv X pins σ H { s with heap:=h',toks:=t' }:=by
 have Ca:∀b u,H b=some u->b≠it:=λb u e z=>by rw [z,hn] at e; cases e
 refine I.step (g':=s.gens) (d':=s.drawn) (ch:=[it]) (λb hb=>?_) (λb o _ _ hc e _=>k b o (λz=>hc (by simp [z])) e) (λb o _ _ hc e _=>⟨o.slots,k b o (λz=>hc (by simp [z])) e⟩) (λ_ _ _ _ n=>n)
  (λb o hc e=>⟨o,k b o (λz=>hc (by simp [z])) e⟩) (λ_ _ e=>e) (λ_ _ _ e=>e) (λb ps e=>⟨#[],by rw [e]; simp⟩) (λm hm=>?_) (λb u e=>?_) I.bare
 . have e:b=it:=by simpa using hb
   subst e
   exact ⟨h1,hL,h2,h3⟩
 . obtain ⟨o,es,ep,ho,r⟩:=hm
   exact ⟨o,es,ep,k _ o (Ne.symm hL) ho,r⟩
 . refine (I.hok b u e).dc (λc v hc q=>k c v ?_ q) (λ_ q=>q) λ_ _ q=>q
   rcases hc with z | z
   . rw [z]; exact Ca b u e
   . exact Ca c _ z
theorem Inv.tok (I:Inv X pins σ H s) (t:Nat):Inv X pins σ H { s with toks:=t }:=I.un (h':=s.heap) (t':=t) Un.refl I.hok
theorem Inv.kept {t':Nat}(I:Inv X pins σ H s) (k:∀b u,s.heap.get? b=some u->h'.get? b=some u):Inv X pins σ H { s with heap:=h',toks:=t' }:=I.un (Un.kept k) (I.hok.kept k)
theorem Inv.laid {a:Addr}{o:HO}{t':Nat}(I:Inv X pins σ H s) (k:∀b u,s.heap.get? b=some u->h'.get? b=some u) (hp:s.heap.objs.size<=a) (new:aT X.prog X.w (upd H a o) h' a o) :
 Inv X pins σ (upd H a o) { s with heap:=h',toks:=t' }:=I.un (Un.laid k hp (I.hok.fresh hp)) (I.hok.laid k hp new)
theorem Inv.write {x e:Addr}{o:HO}{t':Nat}(I:Inv X pins σ H s) (mu:rS (H x)) (he:e=x\/H e=some (.own x)) (k:∀b u,b≠e->s.heap.get? b=some u->h'.get? b=some u) (px:∃u,h'.get? e=some u)
 (new:aT X.prog X.w (upd H x o) h' x o):Inv X pins σ (upd H x o) { s with heap:=h',toks:=t' }:=I.un (Un.write mu he k px) (I.hok.write mu he k px new)
theorem Inv.pB {vG:List (Addr×Obj)}(I:Inv X pins σ H s) (h:∀p∈vG,s.heap.get? p.1=some p.2/\H p.1=none/\p.1≠X.env.locals/\p.1∉X.fs/\∀v,p.2.data≠.cell v):Inv X vG σ H s:=
 ⟨I.ok,I.os,I.bare,I.base,I.loc,I.cell,I.free,I.freeC,λp hp=>(List.mem_append.mp hp).elim (λz=>I.pin p (List.mem_append_left _ z)) (h p),I.hok,I.len⟩
theorem mL {N:List Str}(hN:N.Nodup){i j:Nat}{x:Str}(a:N[i]?=some x) (b:N[j]?=some x):i=j:=by
 obtain ⟨h1,e1⟩:=List.getElem?_eq_some_iff.mp a
 obtain ⟨h2,e2⟩:=List.getElem?_eq_some_iff.mp b
 exact (List.getElem_inj hN).mp (e1.trans e2.symm)
theorem lP {M:Model}{A:Around}{E:Value->Shared->Prop}{i:Nat}{x:Str}{v:V}{u:Value}{Q:Unit->Shared->Prop}(I:Inv X pins σ H s) (hN:X.N.Nodup) (hi:X.N[i]?=some x) (hx:Loc X.env.scope x) (r:RelV v u)
 (h:∀s',Inv X pins (σ.set i (some v)) H s'->(∃a,Heap.SameBut a s.heap s'.heap/\(a=X.env.locals\/X.env.cells.lookup x=some a))->Q () s') (hf:X.fn x=true\/X.env.scope.names.lookup x=some .local:=by first | exact .inl rfl | exact .inr rfl | assumption):wpAny M A (storeName X.env x u) Q E s:=by
 obtain ⟨m,hn,hl⟩:=id I.loc
 have Ec:(X.env.scope.kind == .class || (X.env.scope.kind == .module && X.env.locals != X.env.globals))=false:=by rw [I.ok.kind]; rfl
 have hiσ:i < σ.length:=by rw [I.len]; exact (List.getElem?_eq_some_iff.mp hi).1
 have mG:=I.mG
 have tracked:∀{a:Addr}{h':Heap},(∃o,s.heap.get? a=some o/\H a=none)->Heap.SameBut a s.heap h'->cb X.prog X.w H h':=λ{a h'} ha hs b ob e=>by
  obtain ⟨_,_,vH⟩:=ha
  refine (I.hok b ob e).dc (λc w' hc q=>(hs.2 c ?_).trans q) (λ_ q=>q) λ_ _ q=>q
  rintro rfl
  rcases hc with rfl | hc
  . rw [vH] at e; cases e
  . rw [vH] at hc; cases hc
 rcases hx with hk | hk
 . refine wpAny_storeName_local hk hn (λh' vI hs=>?_) Ec
   obtain ⟨oL,_,_,GU,_⟩:=id hn
   refine h _ ⟨I.ok,I.os,I.bare,⟨λb o e n hb hx=>?_,λb o e n hb hx=>?_,I.base.free,λb o e hx=>?_,I.base.dm,I.base.frzs,I.base.tbls⟩,⟨_,vI,λj y v' e1 e2 e3=>?_⟩,λy c e=>?_,I.free,I.freeC,λp hp=>?_,tracked ⟨oL,GU,I.free⟩ hs,by simpa using I.len⟩ ⟨_,hs,.inl rfl⟩
   . exact (hs.2 b (Nat.ne_of_lt (Nat.lt_of_lt_of_le (Heap.lt_size e) I.ok.above))).trans (I.base.keep b o e n hb hx)
   . obtain ⟨sl,e1⟩:=I.base.slot b o e n hb hx
     exact ⟨sl,(hs.2 b (Nat.ne_of_lt (Nat.lt_of_lt_of_le (Heap.lt_size e) I.ok.above))).trans e1⟩
   . obtain ⟨o',e1⟩:=I.base.there b o e hx
     exact ⟨o',(hs.2 b (Nat.ne_of_lt (Nat.lt_of_lt_of_le (Heap.lt_size e) I.ok.above))).trans e1⟩
   . by_cases hj:j=i
     . subst hj
       rw [hi] at e1; cases e1
       rw [List.getElem?_set_self hiσ] at e2
       cases e2
       exact ⟨u,r,.inl ⟨hk,by simp⟩⟩
     . rw [List.getElem?_set_ne (Ne.symm hj)] at e2
       obtain ⟨u',r',q⟩:=hl j y v' e1 e2 e3
       refine ⟨u',r',?_⟩
       rcases q with ⟨k,e⟩ | ⟨k,c,e,z⟩
       . refine .inl ⟨k,?_⟩
         have:y≠x:=λe=>hj (mL hN e1 (e ▸ hi))
         simp [this,e]
       . exact .inr ⟨k,c,e,z.sameBut hs (mG y c e)⟩
   . obtain ⟨w',z⟩:=I.cell y c e
     exact ⟨w',z.sameBut hs (mG y c e)⟩
   . obtain ⟨e,n,ne,nf,d⟩:=I.pin p hp
     exact ⟨(hs.2 p.1 ne).trans e,n,ne,nf,d⟩
 . have xT:X.fn x=true:=by
    rcases hf with z | z
    . exact z
    . rw [z] at hk; cases hk
   obtain ⟨c,hc⟩:=I.ok.has x (.inl hk)
   obtain ⟨w',z⟩:=I.cell x c hc
   refine wpAny_storeName_cell I.ok.kind hk hc z (λh' eG hs=>?_)
   obtain ⟨oc,Cb,Ed⟩:=id z
   refine h { s with heap:=h' } ⟨I.ok,I.os,I.bare,⟨λb o e n hb hx=>?_,λb o e n hb hx=>?_,I.base.free,λb o e hx=>?_,I.base.dm,I.base.frzs,I.base.tbls⟩,⟨m,hn.sameBut hs (Ne.symm (mG x c hc)),λj y v' e1 e2 e3=>?_⟩,λy c' e=>?_,I.free,I.freeC,λp hp=>?_,tracked ⟨oc,Cb,I.freeC x c hc⟩ hs,by simpa using I.len⟩ ⟨c,hs,.inr hc⟩
   . exact (hs.2 b (Nat.ne_of_lt (Nat.lt_of_lt_of_le (Heap.lt_size e) (I.ok.cab x c xT hc)))).trans (I.base.keep b o e n hb hx)
   . obtain ⟨sl,e1⟩:=I.base.slot b o e n hb hx
     exact ⟨sl,(hs.2 b (Nat.ne_of_lt (Nat.lt_of_lt_of_le (Heap.lt_size e) (I.ok.cab x c xT hc)))).trans e1⟩
   . obtain ⟨o',e1⟩:=I.base.there b o e hx
     exact ⟨o',(hs.2 b (Nat.ne_of_lt (Nat.lt_of_lt_of_le (Heap.lt_size e) (I.ok.cab x c xT hc)))).trans e1⟩
   . by_cases hj:j=i
     . subst hj
       rw [hi] at e1; cases e1
       rw [List.getElem?_set_self hiσ] at e2
       cases e2
       exact ⟨u,r,.inr ⟨.inl hk,c,hc,eG⟩⟩
     . rw [List.getElem?_set_ne (Ne.symm hj)] at e2
       obtain ⟨u',r',q⟩:=hl j y v' e1 e2 e3
       refine ⟨u',r',?_⟩
       rcases q with q | ⟨k,c',e,z'⟩
       . exact .inl q
       . refine .inr ⟨k,c',e,z'.sameBut hs ?_⟩
         rintro rfl
         exact hj (mL hN e1 (I.ok.inj _ _ _ e hc ▸ hi))
   . by_cases Cc:c'=c
     . subst Cc; exact ⟨_,eG⟩
     . obtain ⟨w2,z2⟩:=I.cell y c' e
       exact ⟨w2,z2.sameBut hs Cc⟩
   . obtain ⟨e,n,ne,nf,d⟩:=I.pin p hp
     refine ⟨(hs.2 p.1 ?_).trans e,n,ne,nf,d⟩
     intro q
     rw [q,Cb] at e
     have q':oc=p.2:=Option.some.inj e
     exact d w' (by rw [← q']; exact Ed)
theorem mQ {M:Model}{A:Around}{E:Value->Shared->Prop}{i:Nat}{x:Str}{v:V}{u:Value}{Q:Unit->Shared->Prop}(I:Inv X pins σ H s) (hN:X.N.Nodup) (hi:X.N[i]?=some x) (hx:Loc X.env.scope x) (r:RelV v u)
 (h:∀s',Inv X pins (σ.set i (some v)) H s'->Q () s') (hf:X.fn x=true\/X.env.scope.names.lookup x=some .local:=by first | exact .inl rfl | exact .inr rfl | assumption):wpAny M A (storeName X.env x u) Q E s:=
 lP I hN hi hx r (λs' I' _=>h s' I') hf
theorem Inv.Ay {s':Shared}{ch:List Addr}(I:Inv X pins σ H s) (ho:s'.os=s.os) (u:Un (ie X.stack) ch H H' s.heap s'.heap) (hok:cb X.prog X.w H' s'.heap) (hg:AllBare s'.gens)
 (jk:∀b∈ch,(b∈X.ex\/X.eT.heap.objs.size<=b)/\b≠X.env.locals/\(∀x c,X.env.cells.lookup x=some c->c≠b)/\∀p∈X.pn++pins,p.1≠b):Inv X pins σ H' s':=by
 obtain ⟨h',g',d',t',o'⟩:=s'
 have e:o'=s.os:=ho
 subst e
 exact I.call (g':=g') (t':=t') (d':=d') u hok hg jk
end
abbrev XK:=Value->Option Addr->Hp->Prop
abbrev St:=List (Option V)
abbrev VK:=V->Hp->Prop
abbrev TE:=St->Hp->VK->Prop
abbrev TT:=St->Hp->(Bool->Hp->Prop)->Prop
abbrev TA:=St->Hp->(List V->Hp->Prop)->Prop
structure Ends where
 nx:St->Hp->Prop
 rt:VK
 bk:St->Hp->Prop:=λ_ _=>False
 ct:St->Hp->Prop:=λ_ _=>False
abbrev TS:=Ends->St->Hp->Prop
def EP (X:Cx) (pins:List (Addr×Obj)) (σ:St) (Q:VK) (u:Value) (s':Shared):Prop:=∃v H',Inv X pins σ H' s'/\RelV v u/\Q v H'
def TP (X:Cx) (pins:List (Addr×Obj)) (σ:St) (Q:Bool->Hp->Prop) (b:Bool) (s':Shared):Prop:=∃H',Inv X pins σ H' s'/\Q b H'
def AP (X:Cx) (pins:List (Addr×Obj)) (σ:St) (Q:List V->Hp->Prop) (us:List Value) (s':Shared):Prop:=∃vs H',Inv X pins σ H' s'/\Vals vs us/\Q vs H'
def SP (X:Cx) (pins:List (Addr×Obj)) (D:Ends) (f:Flow) (s':Shared):Prop:=
 match f with
 | .next=>∃bW H',Inv X pins bW H' s'/\D.nx bW H'
 | .brk=>∃bW H',Inv X pins bW H' s'/\D.bk bW H'
 | .cont=>∃bW H',Inv X pins bW H' s'/\D.ct bW H'
 | .ret u=>∃v bW H',Inv X pins bW H' s'/\RelV v u/\D.rt v H'
def PE (X:Cx) (e:Expr) (t:TE):Prop:=
 ∀(pins:List (Addr×Obj)) (s:Shared) (σ:St) (H:Hp) (Q:VK),Inv X pins σ H s->t σ H Q->wpAny (model X.prog X.w) X.A (eval e X.env) (EP X pins σ Q) X.xe s
def PT (X:Cx) (e:Expr) (t:TT):Prop:=
 ∀(pins:List (Addr×Obj)) (s:Shared) (σ:St) (H:Hp) (Q:Bool->Hp->Prop),Inv X pins σ H s->t σ H Q->wpAny (model X.prog X.w) X.A (isTrue e X.env (eval e X.env)) (TP X pins σ Q) X.xe s
def PW (X:Cx) (e:Expr) (t:TT):Prop:=
 ∀(whole:Sem Value) (pins:List (Addr×Obj)) (s:Shared) (σ:St) (H:Hp) (Q:Bool->Hp->Prop),Inv X pins σ H s->t σ H Q->wpAny (model X.prog X.w) X.A (isTrue e X.env whole) (TP X pins σ Q) X.xe s
theorem PW.pt {X:Cx}{e:Expr}{t:TT}(h:PW X e t):PT X e t:=h _
def PA (X:Cx) (es:List Expr) (t:TA):Prop:=
 ∀(pos:Pos) (pins:List (Addr×Obj)) (s:Shared) (σ:St) (H:Hp) (Q:List V->Hp->Prop),Inv X pins σ H s->t σ H Q->wpAny (model X.prog X.w) X.A (spliced (backTo pos (starEach es X.env))) (AP X pins σ Q) X.xe s
def PS (X:Cx) (st:Stmt) (t:TS):Prop:=
 ∀(pins:List (Addr×Obj)) (s:Shared) (σ:St) (H:Hp) (D:Ends),Inv X pins σ H s->t D σ H->wpAny (model X.prog X.w) X.A (exec st X.env) (SP X pins D) X.xe s
def fu (X:Cx) (st:List Stmt) (t:TS):Prop:=
 ∀(pins:List (Addr×Obj)) (s:Shared) (σ:St) (H:Hp) (D:Ends),Inv X pins σ H s->t D σ H->wpAny (model X.prog X.w) X.A (execs st X.env) (SP X pins D) X.xe s
theorem aE {α:Type}{t:Sem α}{Q Q':α->Shared->Prop}{M:Model}{A:Around}{E:Value->Shared->Prop}{s:Shared}(h:wpAny M A t Q E s) (hQ:∀a s,Q a s->Q' a s):wpAny M A t Q' E s:=wpAny_mono h hQ λ_ _ x=>x
end L2
namespace L2
open PySem PySem.Spec PyProof.Rows
section
variable {X:Cx}
theorem bin {a b:Expr}{ta tb:TE}(ha:PE X a ta) (hb:PE X b tb){pins:List (Addr×Obj)}{s:Shared}{σ:St}{H:Hp}{R:V->V->Hp->Prop}(I:Inv X pins σ H s) (h:ta σ H λx H1=>tb σ H1 λy H2=>R x y H2)
 {α:Type}{Q:α->Shared->Prop}{f:Value->Value->Sem α}
 (hf:∀v u s2 x y H2,Inv X pins σ H2 s2->RelV x v->RelV y u->R x y H2->wpAny (model X.prog X.w) X.A (f v u) Q X.xe s2) :
 wpAny (model X.prog X.w) X.A (eval a X.env) (λv bw=>wpAny (model X.prog X.w) X.A (eval b X.env) (λu lu=>wpAny (model X.prog X.w) X.A (f v u) Q X.xe lu) X.xe bw) X.xe s:=by
 refine aE (ha pins s σ H _ I h) λv s1 ⟨x,H1,I1,r1,q1⟩=>?_
 refine aE (hb pins s1 σ H1 _ I1 q1) λu s2 ⟨y,H2,I2,r2,q2⟩=>?_
 exact hf v u s2 x y H2 I2 r1 r2 q2
def qD (i:Nat):TE:=λσ H Q=>∃v,σ[i]?=some (some v)/\Q v H
def tC (v:V):TE:=λ_ H Q=>Q v H
theorem xU {i:Nat}{x:Str}{pos:Pos}(hN:X.N[i]?=some x) (hv:xQ X.env.scope x) (hd:(x == ("__debug__" : Str))=false:=by decide) (iz:(x == ("__classdict__" : Str))=false:=by decide):PE X (.Name x pos) (qD i):=by
 intro pins s σ H Q I h
 obtain ⟨v,e,h⟩:=h
 obtain ⟨m,hn,hl⟩:=I.loc
 obtain ⟨u,r,l⟩:=hl i x v hN e hv
 have fin:EP X pins σ Q u s:=⟨v,H,I,r,h⟩
 rcases l with ⟨hk,hm⟩ | ⟨hk,c,hc,vJ⟩
 . exact wpAny_Name (wpAny_loadName_local I.ok.kind hk hn hm fin) hd
 . rcases hk with hk | hk
   . exact wpAny_Name (wpAny_loadName_cell I.ok.kind hk hc vJ fin) hd
   . exact wpAny_Name (wpAny_loadName_free I.ok.kind hk hc vJ fin iz) hd
theorem af {i j pos} : PE X (.Constant (.int i) j pos) (tC (.int i)):=λ_ _ _ H _ I h=>wpAny_Constant_int ⟨.int i,H,I.tok _,⟨_,rfl⟩,h⟩
theorem dJ {b j pos} : PE X (.Constant (.bool b) j pos) (tC (.bl b)):=λ_ _ _ H _ I h=>Constant_bool ⟨.bl b,H,I,rfl,h⟩
theorem fv {x j pos} : PE X (.Constant (.str x) j pos) (tC (.str x)):=λ_ _ _ H _ I h=>Calls.Constant_str ⟨.str x,H,I.tok _,⟨_,rfl⟩,h⟩
def Gl (X:Cx) (x:Str):Prop:=X.env.kindOf x=some .globalImplicit
theorem pC {E:Value->Shared->Prop}{pins:List (Addr×Obj)}{s:Shared}{σ:St}{H:Hp}{x:Str}{u:Value}{pos:Pos}{Q:Value->Shared->Prop}(I:Inv X pins σ H s) (hg:Gl X x) (hm:X.mg x=some u) (h:Q u s)
 (hd:(x == ("__debug__" : Str))=false:=by decide):wpAny (model X.prog X.w) X.A (eval (.Name x pos) X.env) Q E s:=
 Calls.Name_function_global I.ok.kind hg (Calls.loadGlobal_global (by rw [I.ok.glob]; exact I.mod.glob.keeps I.bk) hm h) hd
theorem eI {E:Value->Shared->Prop}{pins:List (Addr×Obj)}{s:Shared}{σ:St}{H:Hp}{x:Str}{u:Value}{pos:Pos}{Q:Value->Shared->Prop}(I:Inv X pins σ H s) (hg:Gl X x) (hm:X.mg x=none) (hv:bootBuiltins x=some u) (h:Q u s)
 (hn:x ≠ "__name__":=by decide) (hd:(x == ("__debug__" : Str))=false:=by decide):wpAny (model X.prog X.w) X.A (eval (.Name x pos) X.env) Q E s:=by
 obtain ⟨mb,h1,h2⟩:=I.mod.blt
 exact Calls.Name_function_global I.ok.kind hg (Calls.loadGlobal_builtin (by rw [I.ok.glob]; exact I.mod.glob.keeps I.bk) hm (by rw [I.ok.blt]; exact h1.keeps I.bk) ((h2 x hn).trans hv) h) hd
theorem fj {x:Str}{v:V}{u:Value}{pos:Pos}(hg:Gl X x) (hm:X.mg x=none) (hv:bootBuiltins x=some u) (r:RelV v u) (hn:x ≠ "__name__":=by decide) (hd:(x == ("__debug__" : Str))=false:=by decide):PE X (.Name x pos) (tC v):=
 λ_ _ _ H _ I h=>eI I hg hm hv ⟨v,H,I,r,h⟩ hn hd
variable {a b:Expr}{ta tb:TE}{pos:Pos}
def PC (X:Cx) (op:CmpOp) (a b:Expr) (t:TE):Prop:=
 ∀(pins:List (Addr×Obj)) (s:Shared) (σ:St) (H:Hp) (Q:VK),Inv X pins σ H s->t σ H Q->
  wpAny (model X.prog X.w) X.A (eval a X.env) (λv bw=>wpAny (model X.prog X.w) X.A (eval b X.env) (λu lu=>wpAny (model X.prog X.w) X.A (compareOp op v u) (EP X pins σ Q) X.xe lu) X.xe bw) X.xe s
theorem uI (b:Expr){op:CmpOp}(h:op≠.In) (h2:op≠.NotIn):behindInMarks op b=false:=by
 have e1:(op == CmpOp.In)=false:=by cases op <;> first | rfl | exact absurd rfl h
 have e2:(op == CmpOp.NotIn)=false:=by cases op <;> first | rfl | exact absurd rfl h2
 cases b <;> simp [behindInMarks,e1,e2]
def Ee (ta:TE):TE:=λσ H Q=>ta σ H λx H1=>Q (.bl (decide (x=.aR))) H1
theorem RelV.uJ {x:V}{v:Value}(r:RelV x v):(v == Value.none)=decide (x=.aR):=by
 cases x with
 | aR=>cases r; rfl
 | bl _=>cases r; rfl
 | int _=>obtain ⟨t,rfl⟩:=r; rfl
 | str _=>obtain ⟨t,rfl⟩:=r; rfl
 | gs _=>obtain ⟨t,rfl⟩:=r; rfl
 | lO _=>obtain ⟨t,rfl⟩:=r; rfl
 | ref _=>cases r; rfl
 | ty _=>cases r; rfl
theorem iA {j pos'} (ha:PE X a ta):PC X .Is a (.Constant .none j pos') (Ee ta):=by
 intro pins s σ H Q I h
 refine aE (ha pins s σ H _ I h) λv s1 ⟨x,H1,I1,r1,q1⟩=>?_
 exact Constant_none (is_none_gen ⟨.bl _,H1,I1,by rw [r1.uJ]; rfl,q1⟩)
def tB (t:TE):TT:=λσ H Q=>t σ H λx H1=>∃c,x=.bl c/\Q c H1
theorem dM {op:CmpOp}{t:TE}(h:PC X op a b t) (h1:behindInMarks op b=false:=by first | exact uI _ (by decide) (by decide) | rfl):PT X (.Compare a [op] [b] pos) (tB t):=by
 intro pins s σ H Q I hw
 refine wpAny_isTrue_Compare1 (aE (h pins s σ H _ I hw) λv s1 h1=>aE h1 λu s2 h2=>aE h2 λc s3 ⟨x,H1,I1,r1,q1⟩=>?_) h1
 obtain ⟨d,rfl,q⟩:=q1
 cases r1
 exact wpAny_truthy_bool ⟨H1,I1,q⟩
theorem cS {e:Expr}{t:TE}(h:PE X e t) (he:∀whole,isTrue e X.env whole=(do let v ← whole; standAt e.pos; holding [v] (truthy v)):=by intro _; rfl):PT X e (tB t):=by
 intro pins s σ H Q I hw
 refine isTrue_plain (aE (h pins s σ H _ I hw) λv s1 ⟨x,H1,I1,r1,q1⟩=>?_) (he _)
 obtain ⟨d,rfl,q⟩:=q1
 cases r1
 exact wpAny_truthy_bool ⟨H1,I1,q⟩
variable {tA vK:TT}{rest:List Expr}
def Ef (t u:TT):TT:=λσ H Q=>t σ H λc H1=>if c=true then u σ H1 Q else Q false H1
def GV (t u:TT):TT:=λσ H Q=>t σ H λc H1=>if c=true then Q true H1 else u σ H1 Q
def Eg (t:TT):TT:=λσ H Q=>t σ H λc H1=>Q (!c) H1
theorem pD (ha:PT X a tA):PW X (.BoolOp .And [a] pos) tA:=by
 intro wh pins s σ H Q I h
 refine isTrue_and (aE (ha pins s σ H Q I h) λc s1 e=>?_)
 cases c with
 | true=>exact isTrue_and_nil e
 | false=>exact e
theorem jW (ha:PT X a tA):PW X (.BoolOp .Or [a] pos) tA:=by
 intro wh pins s σ H Q I h
 refine isTrue_or (aE (ha pins s σ H Q I h) λc s1 e=>?_)
 cases c with
 | false=>exact isTrue_or_nil e
 | true=>exact e
theorem rV (ha:PT X a tA) (hb:PW X (.BoolOp .And (b::rest) pos) vK):PW X (.BoolOp .And (a::b::rest) pos) (Ef tA vK):=by
 intro wh pins s σ H Q I h
 refine isTrue_and (aE (ha pins s σ H _ I h) λc s1 ⟨H1,I1,q1⟩=>?_)
 cases c with
 | true=>exact hb wh pins s1 σ H1 Q I1 q1
 | false=>exact ⟨H1,I1,q1⟩
theorem iZ (ha:PT X a tA) (hb:PW X (.BoolOp .Or (b::rest) pos) vK):PW X (.BoolOp .Or (a::b::rest) pos) (GV tA vK):=by
 intro wh pins s σ H Q I h
 refine isTrue_or (aE (ha pins s σ H _ I h) λc s1 ⟨H1,I1,q1⟩=>?_)
 cases c with
 | true=>exact ⟨H1,I1,q1⟩
 | false=>exact hb wh pins s1 σ H1 Q I1 q1
theorem eJ (ha:PT X a tA):PT X (.UnaryOp .Not a pos) (Eg tA):=by
 intro pins s σ H Q I h
 exact isTrue_not (ha pins s σ H (λc H1=>Q (!c) H1) I h)
def Az (ta tb:TE):TE:=λσ H Q=>ta σ H λx H1=>∃c,x=.bl c/\if c=true then tb σ H1 Q else Q (.bl false) H1
theorem mV {op} {t:TE}(h:PE X a t):PE X (.BoolOp op [a] pos) t:=λpins s σ H Q I hw=>BoolOp_one (h pins s σ H Q I hw)
theorem jX (ha:PE X a ta) (hb:PE X (.BoolOp .And (b::rest) pos) tb):PE X (.BoolOp .And (a::b::rest) pos) (Az ta tb):=by
 intro pins s σ H Q I h
 refine BoolOp_and (aE (ha pins s σ H _ I h) λv s1 ⟨x,H1,I1,r1,q1⟩=>?_)
 obtain ⟨c,rfl,q1⟩:=q1
 cases r1
 refine wpAny_truthy_bool ?_
 cases c with
 | true=>exact hb pins s1 σ H1 Q I1 q1
 | false=>exact ⟨.bl false,H1,I1,rfl,q1⟩
def GW (t:TT) (ta tb:TE):TE:=λσ H Q=>t σ H λc H1=>if c=true then ta σ H1 Q else tb σ H1 Q
theorem uK {c:Expr}(hc:PT X c tA) (ha:PE X a ta) (hb:PE X b tb):PE X (.IfExp c a b pos) (GW tA ta tb):=by
 intro pins s σ H Q I h
 refine wpAny_IfExp (aE (hc pins s σ H _ I h) λd s1 ⟨H1,I1,q1⟩=>?_)
 cases d with
 | true=>exact ha pins s1 σ H1 Q I1 q1
 | false=>exact hb pins s1 σ H1 Q I1 q1
end
end L2
namespace L2
open PySem PySem.Spec PyProof.Rows
def ay (K:W.Frag) (H:Hp) (a:Addr) (xs:List V):Prop:=
 Rd H a (.lst xs)\/
  ∃(o:Obj) (its:Array Value) (n:Nat),K.lookup a=some o/\o.cls=.type "list" /\ o.dict=none/\o.data=.seq its n/\its.size<=sizeLine/\Vals xs its.toList
def ba (K:W.Frag) (H:Hp) (a:Addr) (xs:List V):Prop:=
 Rd H a (.tup xs)\/
  ∃(o:Obj) (its:Array Value) (n:Nat),K.lookup a=some o/\o.cls=.type "tuple" /\ o.data=.seq its n/\its.size<=sizeLine/\Vals xs its.toList
def Eh:Value->Option V
 | .none=>some .aR
 | .bool b=>some (.bl b)
 | .int i _=>some (.int i)
 | .str x _=>some (.str x)
 | .bytes b _=>some (.gs b)
 | .float b _=>some (.lO b)
 | .ref a=>some (.ref a)
 | .type n=>some (.ty n)
 | _=>none
theorem RelV.abs {x:V}{u:Value}(r:RelV x u):Eh u=some x:=by
 cases x with
 | aR=>cases r; rfl
 | bl _=>cases r; rfl
 | int _=>obtain ⟨t,rfl⟩:=r; rfl
 | str _=>obtain ⟨t,rfl⟩:=r; rfl
 | gs _=>obtain ⟨t,rfl⟩:=r; rfl
 | lO _=>obtain ⟨t,rfl⟩:=r; rfl
 | ref _=>cases r; rfl
 | ty _=>cases r; rfl
theorem RelV.inj {x y:V}{u:Value}(r:RelV x u) (q:RelV y u):x=y:=Option.some.inj (r.abs.symm.trans q.abs)
theorem Vals.inj:∀{xs ys:List V}{us:List Value},Vals xs us->Vals ys us->xs=ys
 | _,_,_,.nil,.nil=>rfl
 | _,_,_,.cons r t,.cons r' t'=>by rw [r.inj r',Vals.inj t t']
section
variable {X:Cx}{pins:List (Addr×Obj)}{σ:St}{H:Hp}{s:Shared}{a:Addr}{xs ys:List V}
theorem ay.of {K:W.Frag}(h:H a=some (.lst xs)):ay K H a xs:=.inl (.inl h)
theorem ba.of {K:W.Frag}(h:H a=some (.tup xs)):ba K H a xs:=.inl (.inl h)
theorem Inv.list (I:Inv X pins σ H s) (h:ay X.K H a xs):∃its:List Value,Vals xs its/\PlainL s.heap a its.toArray/\xs.length<=sizeLine:=by
 rcases h with h | ⟨o,its,n,hk,hc,hd,hs,hz,r⟩
 . obtain ⟨z,its,n,r,e⟩:=h.ok I.hok
   exact ⟨its,r,⟨_,n,e,rfl,rfl,rfl⟩,z⟩
 . refine ⟨its.toList,r,⟨o,n,I.cO a o hk,hc,hd,by simpa using hs⟩,?_⟩
   have e:=r.length
   simp only [Array.length_toList] at e
   omega
theorem Inv.tuple (I:Inv X pins σ H s) (h:ba X.K H a xs):∃its:List Value,Vals xs its/\IsTup s.heap a its.toArray/\xs.length<=sizeLine:=by
 rcases h with h | ⟨o,its,n,hk,hc,hs,hz,r⟩
 . obtain ⟨z,its,r,p⟩:=h.ok I.hok
   exact ⟨its,r,p,z⟩
 . refine ⟨its.toList,r,⟨o,I.cO a o hk,hc,n,by simpa using hs⟩,?_⟩
   have e:=r.length
   simp only [Array.length_toList] at e
   omega
theorem Inv.mW (I:Inv X pins σ H s) (h:ay X.K H a xs) (h':ay X.K H a ys):xs=ys:=by
 obtain ⟨its,r,⟨o,n,e,_,_,d⟩,_⟩:=I.list h
 obtain ⟨its',r',⟨o',n',e',_,_,d'⟩,_⟩:=I.list h'
 rw [e] at e'; cases e'
 rw [d] at d'
 injection d' with d1 _
 have:its=its':=by simpa using congrArg Array.toList d1
 subst this
 exact r.inj r'
end
abbrev Cx.gk (X:Cx) (E:Value->Shared->Prop):Cx:={ X with xe:=E }
abbrev Cx.mX (X:Cx):Cx:=X.gk λ_ _=>False
theorem Cx.Ok.gk {X:Cx}(ok:X.Ok) (E:Value->Shared->Prop):(X.gk E).Ok:=
 ⟨ok.mod,ok.kind,ok.glob,ok.blt,ok.above,ok.inj,ok.has,ok.cab,ok.hd,ok.frames,ok.stk,ok.exf,ok.bs,ok.bsz,ok.noex,ok.exfs,ok.eU,ok.frf⟩
theorem Cx.Ok.eK {X:Cx}{E:Value->Shared->Prop}(ok:(X.gk E).Ok):X.Ok:=
 ⟨ok.mod,ok.kind,ok.glob,ok.blt,ok.above,ok.inj,ok.has,ok.cab,ok.hd,ok.frames,ok.stk,ok.exf,ok.bs,ok.bsz,ok.noex,ok.exfs,ok.eU,ok.frf⟩
section
variable {X:Cx}{pins:List (Addr×Obj)}{σ:St}{H:Hp}{s:Shared}{E:Value->Shared->Prop}
theorem Inv.gk (I:Inv X pins σ H s) (E:Value->Shared->Prop):Inv (X.gk E) pins σ H s:=⟨I.ok.gk E,I.os,I.bare,I.base,I.loc,I.cell,I.free,I.freeC,I.pin,I.hok,I.len⟩
theorem Inv.eK (I:Inv (X.gk E) pins σ H s):Inv X pins σ H s:=⟨I.ok.eK,I.os,I.bare,I.base,I.loc,I.cell,I.free,I.freeC,I.pin,I.hok,I.len⟩
theorem SP.eK {D:Ends}{f:Flow}{s':Shared}(h:SP (X.gk E) pins D f s'):SP X pins D f s':=by
 cases f with
 | next=>obtain ⟨bW,H',I,q⟩:=h; exact ⟨bW,H',I.eK,q⟩
 | brk=>obtain ⟨bW,H',I,q⟩:=h; exact ⟨bW,H',I.eK,q⟩
 | cont=>obtain ⟨bW,H',I,q⟩:=h; exact ⟨bW,H',I.eK,q⟩
 | ret u=>obtain ⟨v,bW,H',I,r,q⟩:=h; exact ⟨v,bW,H',I.eK,r,q⟩
theorem fu.mX {st:List Stmt}{t:TS}(h:fu X.mX st t):fu X st t:=λpins s σ H D I hw=>
 wpAny_mono (h pins s σ H D (I.gk _) hw) (λ_ _ q=>q.eK) λ_ _ z=>False.elim z
end
section
variable {X:Cx}{st:Stmt}{rest:List Stmt}{t u:TS}{e:Expr}{te:TE}{pos:Pos}
def AA:TS:=λD σ H=>D.nx σ H
def dq (t u:TS):TS:=λD σ H=>t { D with nx:=u D } σ H
theorem aN:fu X [] AA:=λ_ _ σ H _ I h=>wpAny_execs_nil ⟨σ,H,I,h⟩
theorem ae (h1:PS X st t) (h2:fu X rest u):fu X (st::rest) (dq t u):=by
 intro pins s σ H D I h
 refine wpAny_execs_cons (aE (h1 pins s σ H { D with nx:=u D } I h) λf s1 q=>?_)
 cases f with
 | next=>
  obtain ⟨bW,H',I',q⟩:=q
  exact h2 pins s1 bW H' D I' q
 | ret v=>exact q
 | brk=>exact q
 | cont=>exact q
theorem aq (h1:PS X st t):fu X [st] t:=by
 intro pins s σ H D I h
 refine wpAny_execs_cons (aE (h1 pins s σ H D I h) λf s1 q=>?_)
 cases f with
 | next=>exact wpAny_execs_nil q
 | ret v=>exact q
 | brk=>exact q
 | cont=>exact q
theorem Inv.quiet {pins:List (Addr×Obj)}{σ:St}{H:Hp}{s:Shared}(I:Inv X pins σ H s):interactive X.env=false:=by simp [interactive,I.ok.kind]
def AB (te:TE):TS:=λD σ H=>te σ H λ_ H1=>D.nx σ H1
theorem lx (he:PE X e te) (hs:swapsWith e none pos.line X.env=pure false:=by rfl):PS X (.Expr e pos) (AB te):=by
 intro pins s σ H D I h
 exact wpAny_Expr_any (aE (he pins s σ H _ I h) λv s1 ⟨x,H1,I1,r1,q1⟩=>⟨σ,H1,I1,q1⟩) I.quiet hs
def Ei (te:TE):TS:=λD σ H=>te σ H D.rt
theorem aJ (he:PE X e te):PS X (.Return (some e) pos) (Ei te):=by
 intro pins s σ H D I h
 exact wpAny_Return_some (aE (he pins s σ H _ I h) λv s1 ⟨x,H1,I1,r1,q1⟩=>⟨x,σ,H1,I1,r1,q1⟩)
def Ej (c:TT) (t u:TS):TS:=λD σ H=>c σ H λb H1=>if b=true then t D σ H1 else u D σ H1
theorem bc {c:Expr}{a b:List Stmt}{tc:TT}(hc:PT X c tc) (ha:fu X a t) (hb:fu X b u):PS X (.If c a b pos) (Ej tc t u):=by
 intro pins s σ H D I h
 refine wpAny_If (aE (hc pins s σ H _ I h) λd s1 ⟨H1,I1,q1⟩=>?_)
 cases d with
 | true=>exact ha pins s1 σ H1 D I1 q1
 | false=>exact hb pins s1 σ H1 D I1 q1
end
abbrev TG:=V->St->Hp->(St->Hp->Prop)->Prop
abbrev mY:=List V->St->Hp->(St->Hp->Prop)->Prop
def PG (X:Cx) (target:Expr) (t:TG):Prop:=
 ∀(pins:List (Addr×Obj)) (s:Shared) (σ:St) (H:Hp) (v:V) (u:Value) (Q:St->Hp->Prop),Inv X pins σ H s->RelV v u->t v σ H Q->
  wpAny (model X.prog X.w) X.A (assign target X.env u) (λ_ s'=>∃bW H',Inv X pins bW H' s'/\Q bW H') X.xe s
def vL (X:Cx) (ts:List Expr) (t:mY):Prop:=
 ∀(pins:List (Addr×Obj)) (s:Shared) (σ:St) (H:Hp) (vs:List V) (us:List Value) (Q:St->Hp->Prop),Inv X pins σ H s->Vals vs us->t vs σ H Q->
  wpAny (model X.prog X.w) X.A (assignInOrder ((assignEach ts X.env).map (·.2)) us) (λ_ s'=>∃bW H',Inv X pins bW H' s'/\Q bW H') X.xe s
abbrev uL:=V->V->V->Hp->(Hp->Prop)->Prop
def xV (X:Cx) (t:uL):Prop:=
 ∀(pins:List (Addr×Obj)) (s:Shared) (σ:St) (H:Hp) (o i v:V) (ov iv u:Value) (Q:Hp->Prop),Inv X pins σ H s->RelV o ov->RelV i iv->RelV v u->t o i v H Q->
  wpAny (model X.prog X.w) X.A (setItem ov iv u) (λ_ s'=>∃H',Inv X pins σ H' s'/\Q H') X.xe s
section
variable {X:Cx}{pos:Pos}
def cD (i:Nat):TG:=λv σ H Q=>Q (σ.set i (some v)) H
theorem aU {i:Nat}{x:Str}(hN:X.N.Nodup) (hi:X.N[i]?=some x) (hx:Loc X.env.scope x) (hf:X.fn x=true\/X.env.scope.names.lookup x=some .local:=by first | exact .inl rfl | exact .inr rfl | assumption):PG X (.Name x pos) (cD i):=by
 intro pins s σ H v u Q I r h
 exact wpAny_assign_Name (mQ I hN hi hx r (λs' I'=>⟨_,H,I',h⟩) hf)
def mZ:mY:=λvs σ H Q=>vs=[]/\Q σ H
def eY (t:TG) (u:mY):mY:=λvs σ H Q=>∃v r,vs=v::r/\t v σ H λbW H'=>u r bW H' Q
theorem ly:vL X [] mZ:=by
 intro pins s σ H vs us Q I r h
 obtain ⟨e,h⟩:=h
 subst e
 cases r
 exact assignInOrder_nil ⟨σ,H,I,h⟩
theorem d7 {e:Expr}{es:List Expr}{t:TG}{u:mY}(h1:PG X e t) (h2:vL X es u)
 (hs:(assignEach (e::es) X.env).map (·.2)=assign e X.env::(assignEach es X.env).map (·.2):=by rfl):vL X (e::es) (eY t u):=by
 intro pins s σ H vs us Q I r h
 obtain ⟨v,vr,e1,h⟩:=h
 subst e1
 cases r with
 | cons r rr=>
  rw [hs]
  refine assignInOrder_cons (aE (h1 pins s σ H _ _ _ I r h) λ_ s1 ⟨Li,H1,I1,q1⟩=>?_)
  exact h2 pins s1 Li H1 _ _ Q I1 rr q1
def m7 (K:W.Frag) (n:Nat) (t:mY):TG:=λv σ H Q=>∃a xs,v=.ref a/\ba K H a xs/\xs.length=n/\t xs σ H Q
theorem nc {es:List Expr}{k:Nat}{t:mY}{n:Nat}(hc:X.calm=true) (h:vL X es t)
 (hn:(assignEach es X.env).length=n:=by rfl) (gd:(assignEach es X.env).findIdx? (·.1)=none:=by rfl):PG X (.Tuple es k pos) (m7 X.K n t):=by
 intro pins s σ H v u Q I r hw
 obtain ⟨a,xs,e1,hq,hl,hw⟩:=hw
 subst e1
 cases r
 obtain ⟨its,rv,ht,hz⟩:=I.tuple hq
 refine assign_Tuple_tuple (I.ok.hd hc) ht (by simp [hn,← hl,rv.length]) gd λh' hx=>?_
 have I1:Inv X pins σ H { s with heap:=h' }:=I.kept (t':=s.toks) λb o e=>hx b o (Nat.ne_of_lt (Heap.lt_size e)) e
 exact h pins _ σ H xs _ Q I1 (by simpa using rv) hw
def Ek (to ti:TE) (t:uL):TG:=λv σ H Q=>to σ H λo H1=>ti σ H1 λi H2=>t o i v H2 λH3=>Q σ H3
theorem rW {o i:Expr}{to ti:TE}{t:uL}(ho:PE X o to) (hi:PE X i ti) (hs:xV X t)
 (ha:∀v,assign (.Subscript o i pos) X.env v=(do
  let ov ← holding [v] (eval o X.env)
  let iv ← holding [v,ov] (eval i X.env)
  standAt pos
  holding [v,ov,iv] (setItem ov iv v)
  release [v,ov,iv] []):=by intro _; rfl):PG X (.Subscript o i pos) (Ek to ti t):=by
 intro pins s σ H v u Q I r h
 rw [ha]
 refine wpAny_bind (wpAny_holding (aE (ho pins s σ H _ I h) λov s1 ⟨x,H1,I1,r1,q1⟩=>?_))
 refine wpAny_bind (wpAny_holding (aE (hi pins s1 σ H1 _ I1 q1) λiv s2 ⟨y,H2,I2,r2,q2⟩=>?_))
 refine wpAny_bind (wpAny_standAt (wpAny_bind (wpAny_holding (aE (hs pins s2 σ H2 x y v ov iv u _ I2 r1 r2 r q2) λ_ s3 ⟨H3,I3,q3⟩=>?_))))
 exact wpAny_release ⟨σ,H3,I3,q3⟩
def uM (te:TE) (g:TG):TS:=λD σ H=>te σ H λx H1=>g x σ H1 D.nx
theorem rX {tg e:Expr}{te:TE}{g:TG}(he:PE X e te) (hg:PG X tg g) (hs:swapsWithSole [tg] e pos.line X.env=pure false:=by rfl) (hw:swappedStores [tg] e X.env=pure none:=by rfl)
 (h1:(assignEach [tg] X.env).map (·.2)=[assign tg X.env]:=by rfl):PS X (.Assign [tg] e pos) (uM te g):=by
 intro pins s σ H D I h
 refine wpAny_Assign_stores (aE (he pins s σ H _ I h) λv s1 ⟨x,H1,I1,r1,q1⟩=>?_) hs hw
 rw [h1]
 exact aE (hg pins s1 σ H1 x v _ I1 r1 q1) λ_ s2 q=>q
theorem ax {i:Nat}{x:Str}{e:Expr}{te:TE}{pos':Pos}(hN:X.N.Nodup) (hi:X.N[i]?=some x) (hx:Loc X.env.scope x) (he:PE X e te) (hs:swapsWith e (some (.Name x pos')) pos.line X.env=pure false:=by rfl) (hf:X.fn x=true\/X.env.scope.names.lookup x=some .local:=by first | exact .inl rfl | exact .inr rfl | assumption) :
 PS X (.Assign [.Name x pos'] e pos) (uM te (cD i)):=by
 intro pins s σ H D I h
 refine wpAny_Assign_Name (aE (he pins s σ H _ I h) λv s1 ⟨y,H1,I1,r1,q1⟩=>?_) hs
 exact mQ I1 hN hi hx r1 (λs2 I2=>⟨_,H1,I2,q1⟩) hf
end
section
variable {X:Cx}{pos:Pos}
end
structure It where
 go:Nat->Hp->Prop
 yld:Nat->Hp->V->Hp->Prop
 stop:Nat->Hp->Prop
def d9 (X:Cx) (pins:List (Addr×Obj)) (H:Hp) (b:Addr):Prop:=
 H b=none/\b≠X.env.locals/\b∉X.fs/\(b∈X.ex\/X.eT.heap.objs.size<=b)/\(∀x c,X.env.cells.lookup x=some c->c≠b)/\∀p∈X.pn++pins,p.1≠b
theorem Inv.ng {X:Cx}{pins:List (Addr×Obj)}{σ:St}{H H':Hp}{s:Shared}{b:Addr}(I:Inv X pins σ H s) (hb:s.heap.objs.size<=b) (hn:H' b=none):d9 X pins H' b:=by
 refine ⟨hn,Nat.ne_of_gt (Nat.lt_of_lt_of_le I.lt hb),I.Eb hb,.inr (Nat.le_trans I.sz hb),λx c e z=>?_,λp hp z=>?_⟩
 . obtain ⟨v,q⟩:=I.cell x c e
   exact absurd (Nat.lt_of_lt_of_le q.lt (by rw [z]; exact hb)) (Nat.lt_irrefl _)
 . exact absurd (Nat.lt_of_lt_of_le (Heap.lt_size (I.pin p hp).1) (by rw [z]; exact hb)) (Nat.lt_irrefl _)
structure Turn (P:Program) (w:World) (K:W.Frag) (tg:Expr) (J:It) (fp:List Addr) (it:Addr) (tn:Nat->Heap->Prop):Prop where
 mem:it∈fp
 obj:∀i h,tn i h->∀b∈fp,∃o,h.get? b=some o/\∀v,o.data≠.cell v
 keep:∀i h h',tn i h->(∀b∈fp,∀o,h.get? b=some o->h'.get? b=some o)->tn i h'
 item:∀(X:Cx),X.prog=P->X.w=w->X.K=K->X.calm=true->∀(i:Nat) (pins:List (Addr×Obj)) (s:Shared) (σ:St) (H:Hp) (E:Value->Shared->Prop),Inv X pins σ H s->(∀b∈fp,d9 X pins H b)->tn i s.heap->J.go i H->
  wpAny (model P w) X.A (pyNext (.ref it)) (λr s1=>∃u,r=some u/\
   wpAny (model P w) X.A (letOwnedTupleGo tg (.ref it) u) (λ_ s2=>∃x H',Inv X pins σ H' s2/\RelV x u/\J.yld i H x H'/\tn (i+1) s2.heap/\∀b∈fp,H' b=none) E s1) E s
 done:∀(X:Cx),X.prog=P->X.w=w->X.K=K->X.calm=true->∀(i:Nat) (pins:List (Addr×Obj)) (s:Shared) (σ:St) (H:Hp) (E:Value->Shared->Prop),Inv X pins σ H s->(∀b∈fp,d9 X pins H b)->tn i s.heap->J.stop i H->
  wpAny (model P w) X.A (pyNext (.ref it)) (λr s1=>r=none/\Inv X pins σ H s1) E s
 self:∀(A:Around) (i:Nat) (s:Shared) (Q:Value->Shared->Prop) (E:Value->Shared->Prop),tn i s.heap->Q (.ref it) s->wpAny (model P w) A (pyIter (.ref it)) Q E s
abbrev TI:=St->Hp->(It->Hp->Prop)->Prop
def Cd (X:Cx) (pins:List (Addr×Obj)) (σ:St) (tg:Expr) (R:It->Hp->Prop) (xW:Value) (s2:Shared):Prop:=
 ∃(it:Addr) (fp:List Addr) (tn:Nat->Heap->Prop) (J:It) (H':Hp),xW=.ref it/\Inv X pins σ H' s2/\Turn X.prog X.w X.K tg J fp it tn/\tn 0 s2.heap/\(∀b∈fp,d9 X pins H' b)/\R J H'
def PI (X:Cx) (tg iter:Expr) (wi:TI):Prop:=
 ∀(pins:List (Addr×Obj)) (s:Shared) (σ:St) (H:Hp) (R:It->Hp->Prop),Inv X pins σ H s->wi σ H R->
  wpAny (model X.prog X.w) X.A (eval iter X.env) (λv s1=>wpAny (model X.prog X.w) X.A (pyIter v) (Cd X pins σ tg R) X.xe s1) X.xe s
theorem qE {M:Model}{A:Around}{E:Value->Shared->Prop}{s:Shared}{tg:Expr}{it:Addr}{u:Value}{o:Obj}{n:String}{vs:Array Value}{Q:Unit->Shared->Prop}(ho:s.heap.get? it=some o) (hc:o.cls=.type n) (hd:o.data=.fields vs)
 (hn:["enumerate", "zip", "dict_itemiterator", "dict_reverseitemiterator", "odict_iterator", "itertools.zip_longest", "itertools.pairwise"].contains n=false) (hQ:Q () s):wpAny M A (letOwnedTupleGo tg (.ref it) u) Q E s:=by
 unfold letOwnedTupleGo
 cases tg <;> first
  | exact wpAny_pure hQ
  | (cases u <;> first
      | exact wpAny_pure hQ
      | (refine wpAny_bind (wpAny_load ho ?_)
         rw [hc,hd]
         show wpAny M A (if (["enumerate", "zip", "dict_itemiterator", "dict_reverseitemiterator", "odict_iterator", "itertools.zip_longest", "itertools.pairwise"].contains n && vs[0]? == some (rawInt _))=true then _ else _) Q E s
         rw [if_neg (by intro h; rw [hn,Bool.false_and] at h; cases h)]
         exact wpAny_pure hQ))
def pE (K:W.Frag) (a:Addr):It:=
 ⟨λi H=>∃xs x,ay K H a xs/\xs[i]?=some x,λi H x H'=>H'=H/\∀xs,ay K H a xs->xs[i]?=some x,λi H=>∃xs,ay K H a xs/\xs.length<=i⟩
def pF (lo:Int) (n:Nat):It:=⟨λi _=>i<n,λi H x H'=>H'=H/\x=.int (lo+i),λi _=>n<=i⟩
theorem rY {P:Program}{w:World}{K:W.Frag}{tg:Expr}(a it:Addr):Turn P w K tg (pE K a) [it] it (λi h=>h.IsListIter it a i) where
 mem:=by simp
 obj:=λi h st b hb=>by
  have e:b=it:=by simpa using hb
  subst e
  obtain ⟨o,e,c,d⟩:=st
  exact ⟨o,e,λv z=>by rw [d] at z; cases z⟩
 keep:=λi h h' st k=>st.at λo e=>k it (by simp) o e
 item:=by
  intro X hP hw hK hc i pins s σ H E I hf st hg
  subst hP hw hK
  obtain ⟨xs,x,hq,hx⟩:=hg
  obtain ⟨its,rv,p,hz⟩:=I.list hq
  obtain ⟨u,hu,ru⟩:=rv.get hx
  obtain ⟨f0,f1,f2,f3,f4,f5⟩:=hf it (by simp)
  refine wpAny_pyNext_list_item st p.isList (x:=u) (by simpa using hu) λh' lQ sb=>?_
  have I1:Inv X pins σ H { s with heap:=h' }:=I.turned (t':=s.toks) (λb o hb e=>(sb.2 b hb).trans e) f0 f1 f3 f4 f5
  obtain ⟨o,e,c,d⟩:=id lQ
  exact ⟨u,rfl,qE (s:={ s with heap:=h' }) e c d (by decide) ⟨x,H,I1,ru,⟨rfl,λys hy=>by rw [I.mW hy hq]; exact hx⟩,lQ,λb hb=>(hf b hb).1⟩⟩
 done:=by
  intro X hP hw hK hc i pins s σ H E I hf st hg
  subst hP hw hK
  obtain ⟨xs,hq,hx⟩:=hg
  obtain ⟨its,rv,p,hz⟩:=I.list hq
  obtain ⟨f0,f1,f2,f3,f4,f5⟩:=hf it (by simp)
  have hl:=rv.length
  exact wpAny_pyNext_list_end (I.ok.hd hc) st p.isList (by simp; omega) λh' eb=>⟨rfl,I.turned (t':=s.toks) (λb o hb e=>eb b o hb e) f0 f1 f3 f4 f5⟩
 self:=λ_ _ _ _ _ st h=>wpAny_pyIter_listiter st h
theorem qF {P:Program}{w:World}{K:W.Frag}{tg:Expr}(it:Addr) (lo:Int) (n:Nat):Turn P w K tg (pF lo n) [it] it (λi h=>IsRangeIter h it (lo+(i:Nat)*1) ((n:Int)-(i:Nat)) 1) where
 mem:=by simp
 obj:=λi h st b hb=>by
  have e:b=it:=by simpa using hb
  subst e
  exact ⟨_,st,λv z=>by
   have z':Data.fields _=Data.cell v:=z
   cases z'⟩
 keep:=λi h h' st k=>k it (by simp) _ st
 item:=by
  intro X hP hw hK hc i pins s σ H E I hf st hg
  subst hP hw hK
  obtain ⟨f0,f1,f2,f3,f4,f5⟩:=hf it (by simp)
  have W:=Walks.range (prog:=X.prog) (w:=X.w) (I.ok.hd hc) it lo 1 n
  refine W.item i s _ _ hg st λv h' tk hv lQ kk=>?_
  obtain ⟨t,rfl⟩:=hv
  have I1:Inv X pins σ H { s with heap:=h',toks:=tk }:=I.turned (λb o hb e=>kk b o (by simpa using hb) e) f0 f1 f3 f4 f5
  refine ⟨_,rfl,qE (s:={ s with heap:=h',toks:=tk }) (n:="range_iterator") lQ rfl rfl (by decide) ⟨.int (lo+i),H,I1,⟨t,?_⟩,⟨rfl,rfl⟩,lQ,λb hb=>(hf b hb).1⟩⟩
  rw [Int.mul_one]
 done:=by
  intro X hP hw hK hc i pins s σ H E I hf st hg
  subst hP hw hK
  obtain ⟨f0,f1,f2,f3,f4,f5⟩:=hf it (by simp)
  exact wpAny_pyNext_range_end (I.ok.hd hc) st (by have:n<=i:=hg; omega) λh' eb=>⟨rfl,I.turned (t':=s.toks) (λb o hb e=>eb b o hb e) f0 f1 f3 f4 f5⟩
 self:=λ_ _ _ _ _ st h=>wpAny_pyIter_rangeiter st h
end L2
namespace L2
open PySem PySem.Spec PyProof.Rows
section
variable {X:Cx}{tg:Expr}
def AD (K:W.Frag) (tl:TE):TI:=λσ H R=>tl σ H λx H1=>∃a,x=.ref a/\(∃xs,ay K H1 a xs)/\R (pE K a) H1
theorem fk {l:Expr}{tl:TE}(hl:PE X l tl):PI X tg l (AD X.K tl):=by
 intro pins s σ H R I h
 refine aE (hl pins s σ H _ I h) λv s1 ⟨x,H1,I1,r1,q1⟩=>?_
 obtain ⟨a,e,⟨xs,hq⟩,q⟩:=q1
 subst e
 cases r1
 obtain ⟨its,rv,p,hz⟩:=I1.list hq
 refine wpAny_pyIter_list p.isList ?_
 refine ⟨s1.heap.objs.size,[s1.heap.objs.size],_,_,H1,rfl,I1.kept (t':=s1.toks) λb o e=>Heap.get?_push_of_some _ e,rY a _,⟨_,Heap.get?_push_size _ rfl,rfl,rfl⟩,λb hb=>?_,q⟩
 have e:b=s1.heap.objs.size:=by simpa using hb
 subst e
 exact I1.ng (Nat.le_refl _) (I1.hok.fresh (Nat.le_refl _))
theorem uN {pins:List (Addr×Obj)}{σ:St}{H:Hp}{s:Shared}{R:It->Hp->Prop}{E:Value->Shared->Prop}{lo hi:Int}{t u v:Tok}{tk:Nat}(I:Inv X pins σ H s) (h1 : -(2 ^ 62)<=lo) (h2:lo<2 ^ 62) (h3 : -(2 ^ 62)<=hi) (h4:hi<2 ^ 62)
 (q:R (pF lo (hi-lo).toNat) H):wpAny (model X.prog X.w) X.A (pyIter (.ref s.heap.objs.size)) (Cd X pins σ tg R) E { s with heap:=s.heap.push { cls:=.type "range",data:=.fields #[.int lo t,.int hi u,.int 1 v] },toks:=tk }:=by
 refine wpAny_pyIter_range (IsRange.new ..) (small_one h1 h2 h3 h4) ?_
 have I1:Inv X pins σ H { s with heap:=s.heap.push { cls:=.type "range",data:=.fields #[.int lo t,.int hi u,.int 1 v] },toks:=tk }:=I.kept λb o e=>Heap.get?_push_of_some _ e
 refine ⟨(s.heap.push { cls:=.type "range",data:=.fields #[.int lo t,.int hi u,.int 1 v] }).objs.size,[(s.heap.push { cls:=.type "range",data:=.fields #[.int lo t,.int hi u,.int 1 v] }).objs.size],_,_,H,rfl,
  I1.kept (t':=tk) λb o e=>Heap.get?_push_of_some _ e,qF _ lo (hi-lo).toNat,?_,λb hb=>?_,q⟩
 . have e1:lo+((0:Nat):Int)*1=lo:=by simp
   have e2:(((hi-lo).toNat:Nat):Int)-((0:Nat):Int)=Builtin.Range.rangeSize lo hi 1:=by rw [rangeSize_one]; split <;> omega
   show IsRangeIter _ _ (lo+((0:Nat):Int)*1) ((((hi-lo).toNat:Nat):Int)-((0:Nat):Int)) 1
   rw [e1,e2]
   exact Heap.get?_push_size _ rfl
 . have e:b=(s.heap.push { cls:=.type "range",data:=.fields #[.int lo t,.int hi u,.int 1 v] }).objs.size:=by simpa using hb
   subst e
   exact I1.ng (Nat.le_refl _) (I1.hok.fresh (Nat.le_refl _))
def AE (ta:TA):TI:=λσ H R=>ta σ H λvs H1=>∃j:Int,vs=[.int j] /\ -(2 ^ 62)<=j/\j<2 ^ 62/\R (pF 0 j.toNat) H1
theorem cp {a:Expr}{ta:TA}{p pos:Pos}(hg:Gl X "range") (hm:X.mg "range" = none) (ha:PA X [a] ta) (hs:starEach [a] X.env=[(false,eval a X.env)]:=by rfl):PI X tg (.Call (.Name "range" p) [a] [] pos) (AE ta):=by
 intro pins s σ H R I h
 refine Call_ (eI I hg hm boot_range (PyProof.Rows.callWith_type1 (aE (ha pos pins s σ H _ I h) λus s1 ⟨vs,H1,I1,r1,q1⟩=>?_) hs rfl))
 obtain ⟨j,e,q1,q2,q⟩:=q1
 subst e
 cases r1 with
 | cons r rr=>
  cases rr
  obtain ⟨t,rfl⟩:=r
  exact call_range_1 (uN I1 (by omega) (by omega) q1 q2 (by simpa using q))
def El (wi:TI) (g:TG) (tb:TS):TS:=λD σ H=>wi σ H λJ H1=>∃W:Nat->Nat->St->Hp->Prop,(∃m,W 0 m σ H1)/\∀i m σ H,W i m σ H->
 (J.stop i H/\D.nx σ H)\/(J.go i H/\∃N:St->Hp->Prop,(∀bW H',N bW H'->∃m',m'<m/\W (i+1) m' bW H')/\∀x H',J.yld i H x H'->g x σ H' λfw H2=>tb { D with nx:=N,ct:=N,bk:=D.nx } fw H2)
def iB (fp:List Addr) (h:Heap):List (Addr×Obj):=fp.filterMap λb=>(h.get? b).map λo=>(b,o)
theorem eZ {fp:List Addr}{h:Heap}{b:Addr}{o:Obj}(hb:b∈fp) (e:h.get? b=some o):(b,o)∈iB fp h:=List.mem_filterMap.mpr ⟨b,hb,by rw [e]; rfl⟩
theorem rZ {fp:List Addr}{h:Heap}{p:Addr×Obj}(hp:p∈iB fp h):p.1∈fp/\h.get? p.1=some p.2:=by
 obtain ⟨b,hb,e⟩:=List.mem_filterMap.mp hp
 cases q:h.get? b with
 | none=>rw [q] at e; cases e
 | some o=>
  rw [q] at e
  have e':(b,o)=p:=Option.some.inj e
  subst e'
  exact ⟨hb,q⟩
theorem Inv.pinned {pins:List (Addr×Obj)}{σ:St}{H:Hp}{s:Shared}{fp:List Addr}(I:Inv X pins σ H s) (hf:∀b∈fp,d9 X pins H b) (ho:∀b∈fp,∃o,s.heap.get? b=some o/\∀v,o.data≠.cell v):Inv X (pins++iB fp s.heap) σ H s:=
 I.pB λp hp=>(List.mem_append.mp hp).elim (λz=>I.pin p (List.mem_append_right _ z)) λz=>by
  obtain ⟨hb,e⟩:=rZ z
  obtain ⟨f0,f1,f2,_⟩:=hf p.1 hb
  obtain ⟨o,e',d⟩:=ho p.1 hb
  rw [e] at e'; cases e'
  exact ⟨e,f0,f1,f2,d⟩
theorem Inv.gQ {pins pl:List (Addr×Obj)}{σ:St}{H:Hp}{s:Shared}(I:Inv X (pins++pl) σ H s):Inv X pins σ H s:=I.pB λp hp=>I.pin p (List.mem_append_right _ (List.mem_append_left _ hp))
theorem fz {iter:Expr}{body:List Stmt}{wi:TI}{g:TG}{tb:TS}{pos:Pos}(hp:PassesOwn (model X.prog X.w) X.A X.env X.xe) (hc:X.calm=true) (hi:PI X tg iter wi) (hg:PG X tg g) (hb:fu X body tb)
 (hs:∀x,foldedSetIterable iter X.env x=pure x:=by intro _; rfl):PS X (.For tg iter body [] pos) (El wi g tb):=by
 intro pins s σ H D I h
 refine wpAny_For (aE (hi pins s σ H _ I h) λv s1 h1=>aE h1 λxW s2 h2=>?_) hs
 obtain ⟨it,fp,tn,J,H2,e,I2,T,vM,f2,W,⟨m0,w0⟩,turn⟩:=h2
 subst e
 have uO:∀{H':Hp},(∀b∈fp,H' b=none)->∀b∈fp,d9 X pins H' b:=λhn b hb=>⟨hn b hb,(f2 b hb).2⟩
 refine codeAny_forLoop_any (λn s'=>∃i bW H',Inv X pins bW H' s'/\tn i s'.heap/\(∀b∈fp,H' b=none)/\W i n bW H') ?_ m0 ⟨0,σ,H2,I2,vM,λb hb=>(f2 b hb).1,w0⟩
 rintro n s3 ⟨i,xX,H3,I3,Ce,Cf,w3⟩
 rcases turn i n xX H3 w3 with ⟨stop,qn⟩ | ⟨go,N,hN,step⟩
 . refine wpAny_passesOwn hp (aE (T.done X rfl rfl rfl hc i pins s3 xX H3 X.xe I3 (uO Cf) Ce stop) λr s4 ⟨hr,I4⟩=>?_)
   subst hr
   exact wpAny_execs_nil ⟨xX,H3,I4,qn⟩
 . refine wpAny_passesOwn hp (aE (T.item X rfl rfl rfl hc i pins s3 xX H3 X.xe I3 (uO Cf) Ce go) λr s4 ⟨u,hr,h4⟩=>?_)
   subst hr
   refine wpAny_passesOwn hp (aE h4 λ_ s5 ⟨x,H5,I5,r5,y5,pG,vN⟩=>?_)
   have GX:=I5.pinned (uO vN) (T.obj _ _ pG)
   refine wpAny_passesOwn hp (aE (hg _ s5 xX H5 x u _ GX r5 (step x H5 y5)) λ_ s6 ⟨Lj,H6,I6,q6⟩=>?_)
   refine wpAny_passesOwn hp (aE (hb _ s6 Lj H6 _ I6 q6) λf s7 q7=>?_)
   have again:∀{nh:St}{H7:Hp},Inv X (pins++iB fp s5.heap) nh H7 s7->N nh H7->∃m,m<n/\∃i bW H',Inv X pins bW H' s7/\tn i s7.heap/\(∀b∈fp,H' b=none)/\W i m bW H':=λ{nh H7} I7 n7=>by
    obtain ⟨m',hm,w7⟩:=hN nh H7 n7
    refine ⟨m',hm,i+1,nh,H7,I7.gQ,T.keep _ _ _ pG λb hb o e=>(I7.pin (b,o) (List.mem_append_right _ (List.mem_append_right _ (eZ hb e)))).1,λb hb=>?_,w7⟩
    obtain ⟨o,e,d⟩:=T.obj _ _ pG b hb
    exact (I7.pin (b,o) (List.mem_append_right _ (List.mem_append_right _ (eZ hb e)))).2.1
   cases f with
   | next=>obtain ⟨nh,H7,I7,n7⟩:=q7; exact again I7 n7
   | cont=>obtain ⟨nh,H7,I7,n7⟩:=q7; exact again I7 n7
   | brk=>obtain ⟨nh,H7,I7,q7⟩:=q7; exact ⟨nh,H7,I7.gQ,q7⟩
   | ret v=>obtain ⟨x7,nh,H7,I7,r7,q7⟩:=q7; exact ⟨x7,nh,H7,I7.gQ,r7,q7⟩
end
theorem uP {K:W.Frag}{a:Addr}{xs:List V}{g:TG}{tb:TS}{D:Ends}{σ:St}{H:Hp}(Pv:Nat->St->Hp->Prop) (h0:Pv 0 σ H) (hl:∀i σ H,i<=xs.length->Pv i σ H->ay K H a xs)
 (hs:∀i x σ H,xs[i]?=some x->Pv i σ H->g x σ H λfw H2=>tb { D with nx:=Pv (i+1),ct:=Pv (i+1),bk:=D.nx } fw H2) (hd:∀σ H,Pv xs.length σ H->D.nx σ H) :
 ∃W:Nat->Nat->St->Hp->Prop,(∃m,W 0 m σ H)/\∀i m σ H,W i m σ H->
  ((pE K a).stop i H/\D.nx σ H)\/((pE K a).go i H/\∃N:St->Hp->Prop,(∀bW H',N bW H'->∃m',m'<m/\W (i+1) m' bW H')/\∀x H',(pE K a).yld i H x H'->g x σ H' λfw H2=>tb { D with nx:=N,ct:=N,bk:=D.nx } fw H2):=by
 refine ⟨λi m σ H=>m=xs.length-i/\i<=xs.length/\Pv i σ H,⟨xs.length,by simp,Nat.zero_le _,h0⟩,?_⟩
 rintro i m σ H ⟨rfl,hi,p⟩
 have q:=hl i σ H hi p
 by_cases fF:i<xs.length
 . refine .inr ⟨⟨xs,xs[i],q,by simp [fF]⟩,Pv (i+1),λbW H' p'=>⟨xs.length-(i+1),by omega,rfl,fF,p'⟩,λx H' y=>?_⟩
   obtain ⟨e,y⟩:=y
   subst e
   exact hs i x σ _ (y xs q) p
 . have e:i=xs.length:=by omega
   subst e
   exact .inl ⟨⟨xs,q,Nat.le_refl _⟩,hd σ H p⟩
theorem du {lo:Int}{n:Nat}{g:TG}{tb:TS}{D:Ends}{σ:St}{H:Hp}(Pv:Nat->St->Hp->Prop) (h0:Pv 0 σ H)
 (hs:∀i σ H,i<n->Pv i σ H->g (.int (lo+i)) σ H λfw H2=>tb { D with nx:=Pv (i+1),ct:=Pv (i+1),bk:=D.nx } fw H2) (hd:∀σ H,Pv n σ H->D.nx σ H) :
 ∃W:Nat->Nat->St->Hp->Prop,(∃m,W 0 m σ H)/\∀i m σ H,W i m σ H->
  ((pF lo n).stop i H/\D.nx σ H)\/((pF lo n).go i H/\∃N:St->Hp->Prop,(∀bW H',N bW H'->∃m',m'<m/\W (i+1) m' bW H')/\∀x H',(pF lo n).yld i H x H'->g x σ H' λfw H2=>tb { D with nx:=N,ct:=N,bk:=D.nx } fw H2):=by
 refine ⟨λi m σ H=>m=n-i/\i<=n/\Pv i σ H,⟨n,by simp,Nat.zero_le _,h0⟩,?_⟩
 rintro i m σ H ⟨rfl,hi,p⟩
 by_cases fF:i<n
 . refine .inr ⟨fF,Pv (i+1),λbW H' p'=>⟨n-(i+1),by omega,rfl,fF,p'⟩,λx H' y=>?_⟩
   obtain ⟨e,y⟩:=y
   subst e y
   exact hs i σ _ fF p
 . have e:i=n:=by omega
   subst e
   exact .inl ⟨Nat.le_refl _,hd σ H p⟩
end L2
namespace L2
open PySem PySem.Spec PyProof.Rows
abbrev R2:=V->V->Hp->VK->Prop
def cI (X:Cx) (f:Value->Value->Sem Value) (r:R2):Prop:=
 ∀(pins:List (Addr×Obj)) (s:Shared) (σ:St) (H:Hp) (x y:V) (v u:Value) (Q:VK),Inv X pins σ H s->RelV x v->RelV y u->r x y H Q->
  wpAny (model X.prog X.w) X.A (f v u) (EP X pins σ Q) X.xe s
def ff (X:Cx) (f:Value) (r:List V->Hp->VK->Prop):Prop:=
 ∀(pins:List (Addr×Obj)) (s:Shared) (σ:St) (H:Hp) (xs:List V) (us:List Value) (Q:VK),Inv X pins σ H s->Vals xs us->r xs H Q->
  wpAny (model X.prog X.w) X.A (call f us) (EP X pins σ Q) X.xe s
def so (r:R2) (ta tb:TE):TE:=λσ H Q=>ta σ H λx H1=>tb σ H1 λy H2=>r x y H2 Q
def rI (C:Int->Int->Prop) (g:Int->Int->V):R2:=λx y H Q=>∃i j,x=.int i/\y=.int j/\C i j/\Q (g i j) H
def jY (g:Int->Int->V):R2:=λx y H Q=>∃i j,x=.int i/\y=.int j/\Q (g i j) H
section
variable {X:Cx}{a b c:Expr}{ta tb tc:TE}{pos:Pos}
theorem uQ (ha:PE X a ta) (hb:PE X b tb){pins:List (Addr×Obj)}{s:Shared}{σ:St}{H:Hp}{R:V->V->Hp->Prop}(I:Inv X pins σ H s)
 (h:ta σ H λx H1=>tb σ H1 λy H2=>R x y H2){Q:Value->Shared->Prop}{f:Value->Value->Sem Value}
 (hf:∀v u s2 x y H2,Inv X pins σ H2 s2->RelV x v->RelV y u->R x y H2->wpAny (model X.prog X.w) X.A (f v u) Q X.xe s2) :
 wpAny (model X.prog X.w) X.A (eval a X.env) (λv bw=>wpAny (model X.prog X.w) X.A (eval b X.env) (λu lu=>wpAny (model X.prog X.w) X.A (f v u) Q X.xe lu) X.xe bw) X.xe s:=by
 refine aE (ha pins s σ H _ I h) λv s1 ⟨x,H1,I1,r1,q1⟩=>?_
 refine aE (hb pins s1 σ H1 _ I1 q1) λu s2 ⟨y,H2,I2,r2,q2⟩=>?_
 exact hf v u s2 x y H2 I2 r1 r2 q2
theorem aG {op:Operator}{r:R2}(ho:cI X (binaryOp op) r) (ha:PE X a ta) (hb:PE X b tb):PE X (.BinOp a op b pos) (so r ta tb):=by
 intro pins s σ H Q I h
 exact wpAny_BinOp (uQ ha hb I h λv u s2 x y H2 I2 rx ry q=>ho pins s2 σ H2 x y v u Q I2 rx ry q)
theorem sq {f:Value->Value->Sem Value}{C:Int->Int->Prop}{g:Int->Int->Int}
 (rule:∀(i j:Int) (t u:Tok) (s:Shared) (Q:Value->Shared->Prop) (E:Value->Shared->Prop),C i j->Q (.int (g i j) s.toks) { s with toks:=s.toks+1 } -> wpAny (model X.prog X.w) X.A (f (.int i t) (.int j u)) Q E s) :
 cI X f (rI C λi j=>.int (g i j)):=by
 intro pins s σ H x y v u Q I rx ry h
 obtain ⟨i,j,rfl,rfl,hc,q⟩:=h
 obtain ⟨t,rfl⟩:=rx
 obtain ⟨t',rfl⟩:=ry
 exact rule i j t t' s _ _ hc ⟨.int (g i j),H,I.tok _,⟨_,rfl⟩,q⟩
theorem qG {f:Value->Value->Sem Value}{g:Int->Int->Int}
 (rule:∀(i j:Int) (t u:Tok) (s:Shared) (Q:Value->Shared->Prop) (E:Value->Shared->Prop),Q (.int (g i j) s.toks) { s with toks:=s.toks+1 } -> wpAny (model X.prog X.w) X.A (f (.int i t) (.int j u)) Q E s) :
 cI X f (jY λi j=>.int (g i j)):=by
 intro pins s σ H x y v u Q I rx ry h
 obtain ⟨i,j,rfl,rfl,q⟩:=h
 obtain ⟨t,rfl⟩:=rx
 obtain ⟨t',rfl⟩:=ry
 exact rule i j t t' s _ _ ⟨.int (g i j),H,I.tok _,⟨_,rfl⟩,q⟩
theorem xY {f:Value->Value->Sem Value}{g:Int->Int->Bool}
 (rule:∀(i j:Int) (t u:Tok) (s:Shared) (Q:Value->Shared->Prop) (E:Value->Shared->Prop),Q (.bool (g i j)) s->wpAny (model X.prog X.w) X.A (f (.int i t) (.int j u)) Q E s) :
 cI X f (jY λi j=>.bl (g i j)):=by
 intro pins s σ H x y v u Q I rx ry h
 obtain ⟨i,j,rfl,rfl,q⟩:=h
 obtain ⟨t,rfl⟩:=rx
 obtain ⟨t',rfl⟩:=ry
 exact rule i j t t' s _ _ ⟨.bl (g i j),H,I,rfl,q⟩
def Em (i j:Int):Prop:=0<j/\j<1073741824
def En (i j:Int):Prop:=0<=j/\j<=1000000/\i.natAbs<2 ^ 64
def uR (i j:Int):Prop:=(-(2 ^ 64)<i/\i<2 ^ 64)\/(-(2 ^ 64)<j/\j<2 ^ 64)
theorem uR.ok {i j:Int}(h:uR i j):IntMulOk i j:=by
 rcases h with ⟨h1,h2⟩ | ⟨h1,h2⟩
 . exact .of_left (intBits_le_64 h1 h2)
 . exact .of_right (intBits_le_64 h1 h2)
theorem qH (k:Nat):(0:Int)<=2 ^ k:=by
 rw [two_pow_cast]
 exact Int.natCast_nonneg _
theorem df:cI X (binaryOp .Add) (jY λi j=>.int (i+j)):=qG λ_ _ _ _ _ _ _ q=>add_int q
theorem sr:cI X (binaryOp .Sub) (jY λi j=>.int (i-j)):=qG λ_ _ _ _ _ _ _ q=>sub_int q
theorem dQ:cI X (binaryOp .Mult) (rI uR λi j=>.int (i*j)):=sq λ_ _ _ _ _ _ _ hc q=>mul_int q hc.ok
theorem gu:cI X (binaryOp .FloorDiv) (rI Em λi j=>.int (i / j)):=sq λi j _ _ _ _ _ hc q=>by
 have h1:(0:Int)<j:=hc.1
 have h2:j<1073741824:=hc.2
 exact floordiv_int (by omega) (by rw [Int.fdiv_eq_ediv_of_nonneg i (by omega)]; exact q) (.inl (PyProof.noPylong_small (by omega)))
theorem fG:cI X (binaryOp .Mod) (rI (λ_ j=>0<j) λi j=>.int (i % j)):=sq λi j _ _ _ _ _ hc q=>by
 have h1:(0:Int)<j:=hc
 exact mod_int' (by omega) (by rw [Int.fmod_eq_emod_of_nonneg i (by omega)]; exact q)
theorem su:cI X (binaryOp .LShift) (rI En λi j=>.int (i*2 ^ j.toNat)):=sq λ_ _ _ _ _ _ _ hc q=>lshift_int_small hc.1 hc.2.1 hc.2.2 q
theorem sv:cI X (binaryOp .RShift) (rI (λ_ j=>0<=j) λi j=>.int (i / 2 ^ j.toNat)):=sq λi j _ _ _ _ _ hc q=>
 rshift_int hc (by rw [Int.fdiv_eq_ediv_of_nonneg i (qH _)]; exact q)
theorem ni:cI X (binaryOp .BitAnd) (jY λi j=>.int (Builtin.bitAnd i j)):=qG λ_ _ _ _ _ _ _ q=>and_int q
theorem AF:cI X (binaryOp .BitOr) (jY λi j=>.int (Builtin.bitOr i j)):=qG λ_ _ _ _ _ _ _ q=>or_int q
end
def xZ:V->V->Bool
 | .aR,.aR=>true | .aR,.int _=>true | .int _,.aR=>true | .aR,.bl _=>true | .bl _,.aR=>true | .aR,.str _=>true | .str _,.aR=>true
 | .int _,.int _=>true | .bl _,.bl _=>true | .str _,.str _=>true | .gs _,.gs _=>true
 | .int _,.str _=>true | .str _,.int _=>true | .bl _,.str _=>true | .str _,.bl _=>true
 | _,_=>false
def GY:R2:=λx y H Q=>xZ x y=true/\Q (.bl (decide (x=y))) H
def GZ:R2:=λx y H Q=>xZ x y=true/\Q (.bl (!decide (x=y))) H
theorem pH {i j:Int} : decide (V.int i=V.int j)=(i == j):=by
 rw [Bool.eq_iff_iff]
 simp
theorem sx {i j:Bool} : decide (V.bl i=V.bl j)=(i == j):=by
 rw [Bool.eq_iff_iff]
 simp
theorem pI {i j:Str} : decide (V.str i=V.str j)=(i == j):=by
 rw [Bool.eq_iff_iff]
 simp
theorem pJ {i j:Array UInt8} : decide (V.gs i=V.gs j)=(i.toList == j.toList):=by
 rw [Bool.eq_iff_iff]
 cases i
 cases j
 simp
section
variable {X:Cx}{a b c:Expr}{ta tb tc:TE}{pos:Pos}
theorem aS {pins:List (Addr×Obj)}{σ:St}{H:Hp}{s:Shared}{Q:VK}{k k':Bool}(I:Inv X pins σ H s) (q:Q (.bl k) H) (e:k=k'):EP X pins σ Q (.bool k') s:=by
 subst e
 exact ⟨.bl k,H,I,rfl,q⟩
theorem di:cI X (compareOp .Eq) GY:=by
 intro pins s σ H x y v u Q I rx ry h
 obtain ⟨hs,q⟩:=h
 cases x with
 | aR=>
  cases rx
  cases y with
  | aR=>cases ry; exact PySem.EqNone.eq_none_none (aS I q (by simp))
  | bl j=>cases ry; exact PySem.EqNone.eq_none_bool (aS I q (by simp))
  | int j=>obtain ⟨t',rfl⟩:=ry; exact PySem.EqNone.eq_none_int (aS I q (by simp))
  | str j=>obtain ⟨t',rfl⟩:=ry; exact PySem.EqNone.eq_none_str (aS I q (by simp))
  | _=>exact absurd (show false=true from hs) Bool.false_ne_true
 | bl i=>
  cases rx
  cases y with
  | aR=>cases ry; exact PySem.EqNone.eq_bool_none (aS I q (by simp))
  | bl j=>cases ry; exact eq_bool (aS I q sx)
  | str j=>obtain ⟨t',rfl⟩:=ry; exact PySem.EqMixed.eq_bool_str (aS I q (by simp))
  | _=>exact absurd (show false=true from hs) Bool.false_ne_true
 | int i=>
  obtain ⟨t,rfl⟩:=rx
  cases y with
  | aR=>cases ry; exact PySem.EqNone.eq_int_none (aS I q (by simp))
  | int j=>obtain ⟨t',rfl⟩:=ry; exact eq_int (aS I q pH)
  | str j=>obtain ⟨t',rfl⟩:=ry; exact PySem.EqMixed.eq_int_str (aS I q (by simp))
  | _=>exact absurd (show false=true from hs) Bool.false_ne_true
 | str i=>
  obtain ⟨t,rfl⟩:=rx
  cases y with
  | aR=>cases ry; exact PySem.EqNone.eq_str_none (aS I q (by simp))
  | bl j=>cases ry; exact PySem.EqMixed.eq_str_bool (aS I q (by simp))
  | int j=>obtain ⟨t',rfl⟩:=ry; exact PySem.EqMixed.eq_str_int (aS I q (by simp))
  | str j=>obtain ⟨t',rfl⟩:=ry; exact eq_str (aS I q pI)
  | _=>exact absurd (show false=true from hs) Bool.false_ne_true
 | gs i=>
  obtain ⟨t,rfl⟩:=rx
  cases y with
  | gs j=>obtain ⟨t',rfl⟩:=ry; exact W.eq_bytes (aS I q pJ)
  | _=>exact absurd (show false=true from hs) Bool.false_ne_true
 | _=>cases y <;> exact absurd (show false=true from hs) Bool.false_ne_true
theorem vO:cI X (compareOp .NotEq) GZ:=by
 intro pins s σ H x y v u Q I rx ry h
 obtain ⟨hs,q⟩:=h
 cases x with
 | aR=>
  cases rx
  cases y with
  | aR=>cases ry; exact PySem.EqNone.ne_none_none (aS I q (by simp))
  | bl j=>cases ry; exact PySem.EqNone.ne_none_bool (aS I q (by simp))
  | int j=>obtain ⟨t',rfl⟩:=ry; exact PySem.EqNone.ne_none_int (aS I q (by simp))
  | str j=>obtain ⟨t',rfl⟩:=ry; exact PySem.EqNone.ne_none_str (aS I q (by simp))
  | _=>exact absurd (show false=true from hs) Bool.false_ne_true
 | bl i=>
  cases rx
  cases y with
  | aR=>cases ry; exact PySem.EqNone.ne_bool_none (aS I q (by simp))
  | bl j=>cases ry; exact ne_bool (aS I q (congrArg not sx))
  | str j=>obtain ⟨t',rfl⟩:=ry; exact PySem.EqMixed.ne_bool_str (aS I q (by simp))
  | _=>exact absurd (show false=true from hs) Bool.false_ne_true
 | int i=>
  obtain ⟨t,rfl⟩:=rx
  cases y with
  | aR=>cases ry; exact PySem.EqNone.ne_int_none (aS I q (by simp))
  | int j=>obtain ⟨t',rfl⟩:=ry; exact ne_int (aS I q (congrArg not pH))
  | str j=>obtain ⟨t',rfl⟩:=ry; exact PySem.EqMixed.ne_int_str (aS I q (by simp))
  | _=>exact absurd (show false=true from hs) Bool.false_ne_true
 | str i=>
  obtain ⟨t,rfl⟩:=rx
  cases y with
  | aR=>cases ry; exact PySem.EqNone.ne_str_none (aS I q (by simp))
  | bl j=>cases ry; exact PySem.EqMixed.ne_str_bool (aS I q (by simp))
  | int j=>obtain ⟨t',rfl⟩:=ry; exact PySem.EqMixed.ne_str_int (aS I q (by simp))
  | str j=>obtain ⟨t',rfl⟩:=ry; exact ne_str (aS I q (congrArg not pI))
  | _=>exact absurd (show false=true from hs) Bool.false_ne_true
 | gs i=>
  obtain ⟨t,rfl⟩:=rx
  cases y with
  | gs j=>obtain ⟨t',rfl⟩:=ry; exact W.ne_bytes (aS I q (congrArg not pJ))
  | _=>exact absurd (show false=true from hs) Bool.false_ne_true
 | _=>cases y <;> exact absurd (show false=true from hs) Bool.false_ne_true
theorem qI:cI X (compareOp .Lt) (jY λi j=>.bl (decide (i<j))):=xY λ_ _ _ _ _ _ _ q=>lt_int q
theorem AG:cI X (compareOp .Gt) (jY λi j=>.bl (decide (j<i))):=xY λ_ _ _ _ _ _ _ q=>gt_int q
theorem bp (b:Expr){op:CmpOp}(h:op≠.In:=by decide) (h2:op≠.NotIn:=by decide):behindInMarks op b=false:=by
 have e1:(op == CmpOp.In)=false:=by cases op <;> first | rfl | exact absurd rfl h
 have e2:(op == CmpOp.NotIn)=false:=by cases op <;> first | rfl | exact absurd rfl h2
 cases b <;> simp [behindInMarks,e1,e2]
theorem i0 {op:CmpOp}{r:R2}(ho:cI X (compareOp op) r) (ha:PE X a ta) (hb:PE X b tb) (hm:behindInMarks op b=false):PE X (.Compare a [op] [b] pos) (so r ta tb):=by
 intro pins s σ H Q I h
 exact wpAny_Compare1 (uQ ha hb I h λv u s2 x y H2 I2 rx ry q=>ho pins s2 σ H2 x y v u Q I2 rx ry q) hm
def AH (t:TE):TT:=λσ H Q=>t σ H λx H'=>∃k,x=.bl k/\Q k H'
theorem bq {op:CmpOp}{r:R2}(ho:cI X (compareOp op) r) (ha:PE X a ta) (hb:PE X b tb) (hm:behindInMarks op b=false):PT X (.Compare a [op] [b] pos) (AH (so r ta tb)):=by
 intro pins s σ H Q I h
 refine wpAny_isTrue_Compare1 (aE (ha pins s σ H _ I h) λv s1 ⟨x,H1,I1,r1,q1⟩=>aE (hb pins s1 σ H1 _ I1 q1) λu s2 ⟨y,H2,I2,r2,q2⟩=>
  aE (ho pins s2 σ H2 x y v u _ I2 r1 r2 q2) λc s3 ⟨z,H3,I3,r3,k,e,q3⟩=>?_) hm
 subst e
 cases r3
 exact wpAny_truthy_bool ⟨H3,I3,q3⟩
theorem iC:(sizeLine:Nat)<2 ^ 63:=by rw [sizeLine_eq]; decide
theorem cE:cI X (binaryOp .Add) (λx y H Q=>∃i j,x=.str i/\y=.str j/\i.length+j.length<=sizeLine/\Q (.str (i++j)) H):=by
 intro pins s σ H x y v u Q I rx ry h
 obtain ⟨i,j,rfl,rfl,hz,q⟩:=h
 obtain ⟨t,rfl⟩:=rx
 obtain ⟨t',rfl⟩:=ry
 exact add_str (λt' tk=>⟨.str (i++j),H,I.tok _,⟨_,rfl⟩,q⟩) hz
theorem vals1 {x:V}{us:List Value}(r:Vals [x] us):∃u,us=[u]/\RelV x u:=by
 cases r with
 | cons r1 r2=>cases r2; exact ⟨_,rfl,r1⟩
theorem vals2 {x y:V}{us:List Value}(r:Vals [x,y] us):∃u w',us=[u,w']/\RelV x u/\RelV y w':=by
 cases r with
 | cons r1 r2=>
  cases r2 with
  | cons r3 r4=>cases r4; exact ⟨_,_,rfl,r1,r3⟩
theorem sy (hc:X.calm=true):ff X (.builtin "min") (λxs H Q=>∃i j,xs=[.int i,.int j]/\Q (.int (if j<i then j else i)) H):=by
 intro pins s σ H xs us Q I r h
 obtain ⟨i,j,rfl,q⟩:=h
 obtain ⟨u,w',rfl,⟨t,rfl⟩,⟨t',rfl⟩⟩:=vals2 r
 refine min_two_ints (I.ok.hd hc) λh' tk k=>⟨_,H,I.kept k,?_,q⟩
 by_cases hj:j<i
 . rw [if_pos hj,if_pos hj]; exact ⟨_,rfl⟩
 . rw [if_neg hj,if_neg hj]; exact ⟨_,rfl⟩
theorem sA:ff X (.type "int") (λxs H Q=>(∃i,xs=[.int i]/\Q (.int i) H)\/∃k,xs=[.bl k]/\Q (.int (if k then 1 else 0)) H):=by
 intro pins s σ H xs us Q I r h
 rcases h with ⟨i,rfl,q⟩ | ⟨k,rfl,q⟩
 . obtain ⟨u,rfl,t,rfl⟩:=vals1 r
   exact call_int_int ⟨.int i,H,I,⟨_,rfl⟩,q⟩
 . obtain ⟨u,rfl,r1⟩:=vals1 r
   cases r1
   exact call_int_bool ⟨.int (if k then 1 else 0),H,I.tok _,⟨_,rfl⟩,q⟩
end
end L2
namespace L2
open PySem PySem.Spec PyProof.Rows
structure jx (h:Heap) (x dx C:Addr) (mA:Str->Option Value):Prop where
 obj:h.get? x=some (W.instObj C dx)
 ns:h.Ns1 dx mA
 ne:dx≠x
theorem sC {h:Heap}{dx:Addr}{mA:Str->Option Value}(n:h.Ns1 dx mA):∃od,h.get? dx=some od/\∀name,W.lookIn name od=some (mA name):=by
 obtain ⟨o,es,ep,ho,hd,hk,_,hm⟩:=n
 refine ⟨o,ho,λname=>?_⟩
 have e:=hm name
 unfold nsFind findBy at e
 rw [← Array.find?_toList] at e
 unfold W.lookIn
 rw [hd]
 dsimp only
 split
 . rename_i y q
   rw [q] at e
   exact congrArg some e
 . rename_i q
   rw [q] at e
   have a:es.toList.any (·.refKey)=false:=by
    rw [List.any_eq_false]
    intro y hy
    obtain ⟨z,t,cT⟩:=hk y (Array.mem_toList_iff.mp hy)
    simp [DictEntry.refKey,cT]
   have a':¬ es.toList.any (·.refKey)=true:=by rw [a]; exact Bool.false_ne_true
   rw [if_neg a']
   exact congrArg some e
theorem jx.look {h:Heap}{x dx C:Addr}{mA:Str->Option Value}(I:jx h x dx C mA):∃od,W.InstAt h x (W.instObj C dx) C (some od)/\∀name,W.lookIn name od=some (mA name):=
 let ⟨od,ho,hl⟩:=sC I.ns
 ⟨od,⟨I.obj,rfl,rfl,ho⟩,hl⟩
section
variable {prog:Program}{w:World}{A:Around}{E:Value->Shared->Prop}{s:Shared}{K:W.Frag}{x dx C f:Addr}{mA:Str->Option Value}{name:Str}{v:Value}
theorem get_map {expr:Bool}{Q:Value->Shared->Prop}(X:K.In s.heap) (I:jx s.heap x dx C mA) (hg:W.plainGet K C name=true) (hh:W.hasDictIn K C=true)
 (ha:W.findIn K (.ref C) name=some none) (hv:mA name=some v) (G0:W.handedIn v=true) (h:Q v { s with toks:=s.toks+1 }) :
 wpAny (model prog w) A (getAttr (.ref x) name expr) Q E s:=by
 obtain ⟨od,J,hl⟩:=I.look
 exact W.get_value X J (W.plainGet_of hg).1 (W.findObj_own hh ha rfl (by rw [hl,hv])) G0 h
theorem uS {pl:Sem Bool}{Q:Value×List Value->Shared->Prop}(X:K.In s.heap) (I:jx s.heap x dx C mA) (hg:W.plainGet K C name=true)
 (hf:W.findIn K (.ref C) name=some (some (.ref f))) (ht:W.isFn K (.ref f)=true) (hv:mA name=none) (h:Q (.ref f,[.ref x]) s) :
 wpAny (model prog w) A (getMethod (.ref x) name pl) Q E s:=by
 obtain ⟨od,J,hl⟩:=I.look
 exact W.method_fn X J (W.plainGet_of hg).1 (W.plainGet_of hg).2 hf (beq_iff_eq.mp ht) (by show (W.lookIn name od).map (·.isSome)=some false; rw [hl,hv]; rfl) h
theorem wZ {ns:List Str}{Q:Unit->Shared->Prop}(X:K.In s.heap) (I:jx s.heap x dx C mA)
 (hs:W.findIn K (.ref C) "__setattr__" = some (some (.builtin "object.__setattr__"))) (hp:W.plainOver K C=true) (ht:W.takerIn K C name=some none) (hh:W.hasDictIn K C=true)
 (hw:PySem.Within mA ns) (hsz:ns.length<=sizeLine)
 (h:∀h',jx h' x dx C (λy=>if y=name then some v else mA y)->Heap.SameBut dx s.heap h'->Q () { s with heap:=h',toks:=s.toks+2 }) :
 wpAny (model prog w) A (setAttr (.ref x) name v) Q E s:=by
 obtain ⟨od,J,hl⟩:=I.look
 refine W.set_plain X J hs (W.osa_open (s:={ s with toks:=s.toks+1 }) (r:=none) X J hp ht λb=>?_)
 obtain ⟨cd,hc,hd'⟩:=W.any_some hh
 have hx:s.heap.get? x=some ⟨.ref C,some dx,.plain,#[]⟩:=I.obj
 refine wpAny_bind (wpAny_pure (wpAny_bind (wpAny_bind (wpAny_loadPart hx (wpAny_bind (W.Looks.here (s:={ s with toks:=s.toks+1 }) (W.looks_clsIn X hc) ?_))))))
 rw [hd']
 refine wpAny_pure (a:=some dx) (wpAny_bind (wpAny_pure (wpAny_bind ?_)))
 refine wpAny_nsSet1 (s:={ s with toks:=s.toks+1 }) I.ns λh' pK iD=>?_
 obtain ⟨oD,Lw,Lx,G1,G2,G3⟩:=pK.count (PySem.Within.cons name v hw)
 refine wpAny_bind (wpAny_lookBehind G1 (by rw [G2]; exact pastItsLine_dict (Nat.le_trans G3 (by rw [List.length_cons]; omega))) ?_)
 exact wpAny_pure (h _ ⟨(iD.2 _ (Ne.symm I.ne)).trans I.obj,pK,I.ne⟩ iD)
theorem uT {R:Result->Shared->Prop}{vs:List Value}{kw:List (Str×Value)}(X:K.In s.heap) (hm:W.makesIn K C=true)
 (hi:W.findIn K (.ref C) "__init__" = some (some (.ref f))) (hf:W.typeIn K (.ref f)=some (.type "function"))
 (h:codeAny (model prog w) (A.under (.builtin "type.__call__" ⟨.ref C::vs,kw⟩)) (.call (.ref f) ⟨.ref (s.heap.objs.size+1)::vs,kw⟩) (W.InitBack (s.heap.objs.size+1) R)
  { s with heap:=(s.heap.push W.emptyDict).push (W.instObj C s.heap.objs.size) }) :
 codeAny (model prog w) A (.call (.ref C) ⟨vs,kw⟩) R s:=by
 obtain ⟨hh,g,d,t,os⟩:=s
 exact W.make_core (W.makes_of X hm) (W.looks_findIn X hi) (λself=>W.bind_fn X self hf) (.inl rfl) h
end
def au (f:Str) (v:V):List (Str×V)->List (Str×V)
 | []=>[(f,v)]
 | (g,x)::r=>if g=f then (g,v)::r else (g,x)::au f v r
theorem ak (f g:Str) (v:V):∀fs:List (Str×V),(au f v fs).lookup g=if g=f then some v else fs.lookup g
 | []=>by
  show List.lookup g [(f,v)]=_
  by_cases h:g=f
  . have hb:(g == f)=true:=beq_iff_eq.mpr h
    simp only [List.lookup,hb,if_pos h]
  . have hb:(g == f)=false:=beq_eq_false_iff_ne.mpr h
    simp only [List.lookup,hb,if_neg h]
 | (k,x)::r=>by
  have ih:=ak f g v r
  rw [show au f v ((k,x)::r)=(if k=f then (k,v)::r else (k,x)::au f v r) from rfl]
  by_cases hk:k=f
  . rw [if_pos hk]
    by_cases h:g=k
    . have hb:(g == k)=true:=beq_iff_eq.mpr h
      simp only [List.lookup,hb,if_pos (h.trans hk)]
    . have hb:(g == k)=false:=beq_eq_false_iff_ne.mpr h
      simp only [List.lookup,hb,if_neg (λe:g=f=>h (e.trans hk.symm))]
  . rw [if_neg hk]
    by_cases h:g=k
    . have hb:(g == k)=true:=beq_iff_eq.mpr h
      simp only [List.lookup,hb,if_neg (λe:g=f=>hk (h.symm.trans e))]
    . have hb:(g == k)=false:=beq_eq_false_iff_ne.mpr h
      simp only [List.lookup,hb]
      exact ih
theorem iE (f:Str) (v:V):∀fs:List (Str×V),f∈(au f v fs).map (·.1)/\∀g,g∈fs.map (·.1)->g∈(au f v fs).map (·.1)
 | []=>⟨by simp [au],λg h=>by simp at h⟩
 | (k,x)::r=>by
  obtain ⟨i1,i2⟩:=iE f v r
  rw [show au f v ((k,x)::r)=(if k=f then (k,v)::r else (k,x)::au f v r) from rfl]
  by_cases hk:k=f
  . rw [if_pos hk]
    subst hk
    exact ⟨by simp,λg h=>by simpa using h⟩
  . rw [if_neg hk]
    refine ⟨?_,λg h=>?_⟩
    . rw [List.map_cons]
      exact List.mem_cons_of_mem _ i1
    . rw [List.map_cons] at h ⊢
      rcases List.mem_cons.mp h with e | e
      . exact List.mem_cons.mpr (.inl e)
      . exact List.mem_cons_of_mem _ (i2 g e)
theorem gm (f:Str) (v:V):∀fs:List (Str×V),(au f v fs).length<=fs.length+1
 | []=>by simp [au]
 | (k,x)::r=>by
  have ih:=gm f v r
  rw [show au f v ((k,x)::r)=(if k=f then (k,v)::r else (k,x)::au f v r) from rfl]
  by_cases hk:k=f
  . rw [if_pos hk,List.length_cons,List.length_cons]; omega
  . rw [if_neg hk,List.length_cons,List.length_cons]; omega
theorem cB.some_of {v:V}{o:Option Value}(r:cB (some v) o):∃u,o=some u/\RelV v u:=by
 cases o with
 | none=>exact (show False from r).elim
 | some u=>exact ⟨u,rfl,r⟩
theorem cB.none_of {o:Option Value}(r:cB none o):o=none:=by
 cases o with
 | none=>rfl
 | some u=>exact (show False from r).elim
theorem sD {v:V}{u:Value}(r:RelV v u):W.handedIn u=true:=by
 cases v with
 | aR=>cases (show u=Value.none from r); rfl
 | bl b=>cases (show u=Value.bool b from r); rfl
 | int i=>obtain ⟨t,e⟩:=(show ∃t,u=Value.int i t from r); cases e; rfl
 | str x=>obtain ⟨t,e⟩:=(show ∃t,u=Value.str x t from r); cases e; rfl
 | gs b=>obtain ⟨t,e⟩:=(show ∃t,u=Value.bytes b t from r); cases e; rfl
 | lO b=>obtain ⟨t,e⟩:=(show ∃t,u=Value.float b t from r); cases e; rfl
 | ref a=>cases (show u=Value.ref a from r); rfl
 | ty n=>cases (show u=Value.type n from r); rfl
section
variable {P:Program}{w:World}{H H':Hp}{h h':Heap}{a C dx:Addr}{fs fs':List (Str×V)}
theorem i5 (hok:cb P w H h) (e:H a=some (.ins C dx fs)):∃mA,jx h a dx C mA/\(∀f,cB (fs.lookup f) (mA f))/\PySem.Within mA (fs.map (·.1))/\fs.length<=1000/\H dx=some (.own a):=by
 obtain ⟨d,z,ne,ob,mA,n,r,q⟩:=(show aT P w H h a (.ins C dx fs) from hok a _ e)
 exact ⟨mA,⟨ob,n,ne⟩,r,q,z,d⟩
end
structure iF (K:W.Frag) (C:Addr):Prop where
 pg:W.plainGet K C Str.empty=true
 hd:W.hasDictIn K C=true
 po:W.plainOver K C=true
 sa:W.findIn K (.ref C) "__setattr__" = some (some (.builtin "object.__setattr__"))
theorem iF.get {K:W.Frag}{C:Addr}(c:iF K C) (f:Str):W.plainGet K C f=true:=c.pg
def cw (K:W.Frag) (C:Addr) (f:Str):Prop:=W.findIn K (.ref C) f=some none
theorem cw.AI {K:W.Frag}{C:Addr}{f:Str}(n:cw K C f):W.takerIn K C f=some none:=by
 unfold W.takerIn
 rw [show W.findIn K (.ref C) f=some none from n]
 rfl
structure Meth (K:W.Frag) (C:Addr) (m:Str) (f:Addr):Prop where
 at_:W.findIn K (.ref C) m=some (some (.ref f))
 fn:W.isFn K (.ref f)=true
 kp:W.keepIn K (.ref f)=true
section
variable {X:Cx}{pins:List (Addr×Obj)}{σ:St}{H:Hp}{s:Shared}{a C dx:Addr}{fs:List (Str×V)}{f:Str}{v:V}{A:Around}{E:Value->Shared->Prop}
theorem qJ {b:Bool}{Q:Value->Shared->Prop}(I:Inv X pins σ H s) (e:H a=some (.ins C dx fs)) (c:iF X.K C) (n:cw X.K C f) (l:fs.lookup f=some v)
 (h:∀u s',Inv X pins σ H s'->RelV v u->Q u s'):wpAny (model X.prog X.w) A (getAttr (.ref a) f b) Q E s:=by
 obtain ⟨mA,O,r,_,_,_⟩:=i5 I.hok e
 obtain ⟨u,hu,ru⟩:=cB.some_of (v:=v) (o:=mA f) (by rw [← l]; exact r f)
 exact get_map I.cO O (c.get f) c.hd n hu (sD ru) (h u _ (I.tok _) ru)
theorem jZ {m:Str}{g:Addr}{pl:Sem Bool}{Q:Value×List Value->Shared->Prop}(I:Inv X pins σ H s) (e:H a=some (.ins C dx fs)) (c:iF X.K C) (k:Meth X.K C m g) (l:fs.lookup m=none)
 (h:Q (.ref g,[.ref a]) s):wpAny (model X.prog X.w) A (getMethod (.ref a) m pl) Q E s:=by
 obtain ⟨mA,O,r,_,_,_⟩:=i5 I.hok e
 have hn:mA m=none:=cB.none_of (by rw [← l]; exact r m)
 exact uS I.cO O (c.get m) k.at_ k.fn hn h
theorem qK {y:V}{u:Value}{Q:Unit->Shared->Prop}(I:Inv X pins σ H s) (e:H a=some (.ins C dx fs)) (c:iF X.K C) (n:cw X.K C f) (hl:fs.length<1000) (ry:RelV y u)
 (h:∀s',Inv X pins σ (upd H a (.ins C dx (au f y fs))) s'->Q () s'):wpAny (model X.prog X.w) A (setAttr (.ref a) f u) Q E s:=by
 obtain ⟨mA,O,r,wi,_,ho⟩:=i5 I.hok e
 have hz:(fs.map (·.1)).length<=sizeLine:=by rw [List.length_map,sizeLine_eq]; omega
 refine wZ I.cO O c.sa c.po n.AI c.hd wi hz λh' O' sb=>h _ ?_
 have hd:∃o,h'.get? dx=some o:=let ⟨o,_,_,e',_⟩:=O'.ns; ⟨o,e'⟩
 refine I.write (x:=a) (e:=dx) (by rw [e]; exact True.intro) (.inr ho) (λb q hb z=>(sb.2 b hb).trans z) hd ?_
 refine ⟨by rw [ai O.ne]; exact ho,?_,O.ne,O'.obj,_,O'.ns,λg=>?_,λg hg=>?_⟩
 . have:=gm f y fs; omega
 . show cB ((au f y fs).lookup g) (if g=f then some u else mA g)
   rw [ak]
   by_cases q:g=f
   . rw [if_pos q,if_pos q]; exact ry
   . rw [if_neg q,if_neg q]; exact r g
 . by_cases q:g=f
   . rw [q]; exact (iE f y fs).1
   . refine (iE f y fs).2 g (wi g λz=>hg ?_)
     show (if g=f then some u else mA g)=none
     rw [if_neg q]; exact z
theorem Inv.made (I:Inv X pins σ H s):Inv X pins σ (upd (upd H s.heap.objs.size (.own (s.heap.objs.size+1))) (s.heap.objs.size+1) (.ins C s.heap.objs.size []))
 { s with heap:=(s.heap.push W.emptyDict).push (W.instObj C s.heap.objs.size) }:=by
 have e1:(s.heap.push W.emptyDict).get? s.heap.objs.size=some W.emptyDict:=Heap.get?_push_size s.heap rfl
 have e2:((s.heap.push W.emptyDict).push (W.instObj C s.heap.objs.size)).get? (s.heap.objs.size+1)=some (W.instObj C s.heap.objs.size):=by
  have:=Heap.get?_push_size (s.heap.push W.emptyDict) (o:=W.instObj C s.heap.objs.size) rfl
  rwa [Heap.size_push] at this
 have e3:(s.heap.push W.emptyDict).Ns s.heap.objs.size (λ_=>none):=⟨W.emptyDict,#[],_,e1,rfl,(λe he=>absurd he (by simp)),λ_=>rfl⟩
 have I1:=I.laid (a:=s.heap.objs.size) (o:=.own (s.heap.objs.size+1)) (h':=s.heap.push W.emptyDict) (t':=s.toks) (λb u q=>Heap.get?_push_of_some _ q) (Nat.le_refl _) ⟨_,e1⟩
 refine I1.laid (a:=s.heap.objs.size+1) (o:=.ins C s.heap.objs.size []) (t':=s.toks) (λb u q=>Heap.get?_push_of_some _ q) (Nat.le_of_eq (Heap.size_push _ _)) ?_
 have ne:s.heap.objs.size≠s.heap.objs.size+1:=Nat.ne_of_lt (Nat.lt_succ_self _)
 refine ⟨by rw [ai ne,ag],Nat.zero_le _,ne,e2,λ_=>none,(Heap.Ns1.of_empty e3).at λo q=>Heap.get?_push_of_some _ q,λ_=>True.intro,λy hy=>absurd rfl hy⟩
theorem w4 {prog:Program}{w:World}{env:Env}{e:Expr}{f:Str}{pos:Pos}{s:Shared}{Q:Value->Shared->Prop}(hb:attributeBase e f env (eval e env)=eval e env)
 (h:wpAny (model prog w) A (eval e env) (λo bw=>wpAny (model prog w) A (getAttr o f true) Q E bw) E s):wpAny (model prog w) A (eval (.Attribute e f pos) env) Q E s:=
 Attribute_any_ h (by rw [arm_eval_Attribute,hb])
end
def Eo (K:W.Frag) (ta:TE) (f:Str):TE:=λσ H Q=>ta σ H λx H1=>∃a C dx fs v,x=.ref a/\H1 a=some (.ins C dx fs)/\iF K C/\cw K C f/\fs.lookup f=some v/\Q v H1
def Ep (K:W.Frag) (ta tv:TE) (f:Str):TS:=λD σ H=>tv σ H λy H1=>ta σ H1 λx H2=>∃a C dx fs,x=.ref a/\H2 a=some (.ins C dx fs)/\iF K C/\cw K C f/\fs.length<1000/\
 D.nx σ (upd H2 a (.ins C dx (au f y fs)))
section
variable {X:Cx}{o e value:Expr}{f:Str}{pos pos' Er:Pos}{ta tv:TE}
theorem bx (he:PE X e ta) (hb:attributeBase e f X.env (eval e X.env)=eval e X.env):PE X (.Attribute e f pos) (Eo X.K ta f):=by
 intro pins s σ H Q I h
 refine w4 hb (aE (he pins s σ H _ I h) λu s1 ⟨x,H1,I1,rx,a,C,dx,fs,v,ex,ea,c,n,l,q⟩=>?_)
 subst ex
 obtain rfl:u=Value.ref a:=rx
 exact qJ I1 ea c n l λu' s2 I2 ru=>⟨v,H1,I2,ru,q⟩
theorem fJ (ha:PE X o ta) (hv:PE X value tv) (hs:swapsWith value (some (.Attribute o f pos')) pos.line X.env=pure false):PS X (.Assign [.Attribute o f pos'] value pos) (Ep X.K ta tv f):=by
 intro pins s σ H D I h
 refine plainObj_wpAny_Assign_Attribute (aE (hv pins s σ H _ I h) λu s1 ⟨y,H1,I1,ry,q⟩=>aE (ha pins s1 σ H1 _ I1 q) λov s2 ⟨x,H2,I2,rx,a,C,dx,fs,ex,ea,c,n,l,q2⟩=>?_) hs
 subst ex
 obtain rfl:ov=Value.ref a:=rx
 exact qK I2 ea c n l ry λs3 I3=>⟨σ,_,I3,q2⟩
theorem Ax {pl:Sem Bool}{m:Str}{apos:Pos}{args:List Expr}{pins:List (Addr×Obj)}{s:Shared}{σ:St}{H:Hp}{Q:Value->Shared->Prop}{te:TE}(he:PE X e te) (I:Inv X pins σ H s)
 (h:te σ H λx H1=>∃a C dx fs g,x=.ref a/\H1 a=some (.ins C dx fs)/\iF X.K C/\Meth X.K C m g/\fs.lookup m=none/\
  ∀s1,Inv X pins σ H1 s1->wpAny (model X.prog X.w) X.A (callWith pos (.ref g) [.ref a] (backTo pos (starEach args X.env)) (backToKw pos (keywordEach [] X.env))) Q X.xe s1)
 (ht:eval (.Call (.Attribute e m apos) args [] pos) X.env=(do
  let ov ← eval e X.env
  standAt apos.atName
  let (f,first) ← holding [ov] (getMethod ov m pl)
  callWith pos f first (backTo pos (starEach args X.env)) (backToKw pos (keywordEach [] X.env)))) :
 wpAny (model X.prog X.w) X.A (eval (.Call (.Attribute e m apos) args [] pos) X.env) Q X.xe s:=by
 refine W.methodCall_KW (pl:=pl) (aE (he pins s σ H _ I h) λu s1 ⟨x,H1,I1,rx,a,C,dx,fs,g,ex,ea,c,k,l,q⟩=>?_) ht
 subst ex
 obtain rfl:u=Value.ref a:=rx
 exact jZ I1 ea c k l (q s1 I1)
end
section
variable {X:Cx}{pins:List (Addr×Obj)}{σ:St}{H:Hp}{s:Shared}{A:Around}{E:Value->Shared->Prop}{Q:Value->Shared->Prop}{c:Value}{b:Bool}
inductive ee (K:W.Frag) (H:Hp):V->Value->Prop where
 | aR:ee K H .aR (.type "NoneType")
 | bl (x:Bool):ee K H (.bl x) (.type "bool")
 | int (i:Int):ee K H (.int i) (.type "int")
 | str (x:Str):ee K H (.str x) (.type "str")
 | lO (x:UInt64):ee K H (.lO x) (.type "float")
 | lst {a:Addr}{xs:List V}(e:H a=some (.lst xs)):ee K H (.ref a) (.type "list")
 | gc {a:Addr}{o:Obj}{xs:List V}(e:H a=some (.gc o (.lst xs))):ee K H (.ref a) (.type "list")
 | tup {a:Addr}{xs:List V}(e:H a=some (.tup xs)):ee K H (.ref a) (.type "tuple")
 | dK {a:Addr}{kvs:List (Key×V)}(e:H a=some (.dK kvs)):ee K H (.ref a) (.type "dict")
 | dT {a:Addr}{kvs:List (List Key×V)}(e:H a=some (.dT kvs)):ee K H (.ref a) (.type "dict")
 | ins {a C dx:Addr}{fs:List (Str×V)}(e:H a=some (.ins C dx fs)) (cl:iF K C) (ha:W.findIn K (.ref C) "__class__" = some (some (.builtin "object.__class__")))
  (hn:W.specialIn K (.builtin "object.__class__") "__get__" = some (some (.builtin "getset_descriptor.__get__"))) (Cg:W.takesIn K (.builtin "object.__class__")=some true)
  (hm:W.mroIn K C (.type "object")=some true):ee K H (.ref a) (.ref C)
theorem sE {x:V}{u t:Value}(I:Inv X pins σ H s) (rx:RelV x u) (ty:ee X.K H x t) (e:W.kitOne X.K t c=some b) (h:∀tk,Q (.bool b) { s with toks:=tk }) :
 wpAny (model X.prog X.w) A (call (.builtin "isinstance") [u,c]) Q E s:=by
 cases ty with
 | aR=>cases (show u=Value.none from rx); exact W.kia_one W.kitx_none I.cO True.intro e (λz=>nomatch z) h
 | bl y=>cases (show u=Value.bool y from rx); exact W.kia_one W.kitx_bool I.cO True.intro e (λz=>nomatch z) h
 | int i=>obtain ⟨t,q⟩:=(show ∃t,u=Value.int i t from rx); cases q; exact W.kia_one W.kitx_int I.cO True.intro e (λz=>nomatch z) h
 | str y=>obtain ⟨t,q⟩:=(show ∃t,u=Value.str y t from rx); cases q; exact W.kia_one W.kitx_str I.cO True.intro e (λz=>nomatch z) h
 | lO y=>obtain ⟨t,q⟩:=(show ∃t,u=Value.float y t from rx); cases q; exact W.kia_one W.kitx_float I.cO True.intro e (λz=>nomatch z) h
 | @lst a xs ea=>
  cases (show u=Value.ref a from rx)
  obtain ⟨_,_,n,_,h1⟩:=(show aT X.prog X.w H s.heap a (.lst xs) from I.hok a _ ea)
  exact W.kia_one W.kitx_list I.cO ⟨_,h1,rfl⟩ e (λz=>nomatch z) h
 | @gc a ob xs ea=>
  cases (show u=Value.ref a from rx)
  obtain ⟨_,_,_,n,_,h1⟩:=(show aT X.prog X.w H s.heap a (.gc ob (.lst xs)) from I.hok a _ ea)
  exact W.kia_one W.kitx_list I.cO ⟨_,h1,rfl⟩ e (λz=>nomatch z) h
 | @tup a xs ea=>
  cases (show u=Value.ref a from rx)
  obtain ⟨_,_,_,p⟩:=(show aT X.prog X.w H s.heap a (.tup xs) from I.hok a _ ea)
  obtain ⟨o,h1,h2,_⟩:=p
  exact W.kia_one W.kitx_tuple I.cO ⟨o,h1,h2⟩ e (λz=>nomatch z) h
 | @dK a kvs ea=>
  cases (show u=Value.ref a from rx)
  obtain ⟨_,_,vs,_,p⟩:=(show aT X.prog X.w H s.heap a (.dK kvs) from I.hok a _ ea)
  obtain ⟨o,es,ep,h1,h2,_⟩:=p
  exact W.kia_one W.kitx_dict I.cO ⟨o,h1,h2.1⟩ e (λz=>nomatch z) h
 | @dT a kvs ea=>
  cases (show u=Value.ref a from rx)
  obtain ⟨_,_,xs,_,o,es,ep,h1,h2,_⟩:=(show aT X.prog X.w H s.heap a (.dT kvs) from I.hok a _ ea)
  exact W.kia_one W.kitx_dict I.cO ⟨o,h1,h2.1⟩ e (λz=>nomatch z) h
 | @ins a C dx fs ea cl ha hn Cg hm=>
  cases (show u=Value.ref a from rx)
  obtain ⟨mA,O,_⟩:=i5 I.hok ea
  obtain ⟨od,J,_⟩:=O.look
  exact W.kia_one (W.kitx_own (cl.get _) cl.hd ha hn Cg hm) I.cO J e (λz=>nomatch z) h
end
end L2
namespace L2
open PySem PySem.Spec PyProof.Rows
structure bh (k:Nat) (A:Around):Prop where
 hd:A.handled=none
 dp:A.depth+3*k+5<recursionLimit
 un:A.units+16*k+200<cLine
theorem bh.mono {j k:Nat}{A:Around}(r:bh k A) (h:j<=k):bh j A:=⟨r.hd,by have:=r.dp; omega,by have:=r.un; omega⟩
theorem bh.deeper {k:Nat}{A:Around}(r:bh (k+1) A) (env:Env):bh k (A.deeper env):=
 ⟨r.hd,by have:=r.dp; show A.depth+1+3*k+5<_; omega,by have:=r.un; show A.units+3+16*k+200<_; omega⟩
theorem qL {A:Around}{C:Addr}{us:List Value}{kw:List (Str×Value)} : (A.under (.builtin "type.__call__" ⟨.ref C::us,kw⟩)).depth=A.depth+1:=by
 first | rfl | simp [Around.under,Code.weight,Code.isCreation,Code.isGuard,Code.isCaller,Code.frames,Code.isFrame,guardIds]
theorem qM {A:Around}{C:Addr}{us:List Value}{kw:List (Str×Value)} : (A.under (.builtin "type.__call__" ⟨.ref C::us,kw⟩)).units=A.units+1:=by
 first | rfl | simp [Around.under,Code.cUnits,Code.frames,Code.isFrame]
theorem bh.make {k:Nat}{A:Around}(r:bh (k+1) A) (C:Addr) (us:List Value) (kw:List (Str×Value)):bh k (A.under (.builtin "type.__call__" ⟨.ref C::us,kw⟩)):=
 ⟨r.hd,by have:=r.dp; rw [qL]; omega,by have:=r.un; rw [qM]; omega⟩
theorem bh.depth {k:Nat}{A:Around}(r:bh k A):A.depth<recursionLimit:=by have:=r.dp; omega
theorem bh.units {k:Nat}{A:Around}(r:bh k A):A.units+64<cLine:=by have:=r.un; omega
def x6:TA:=λ_ H Q=>Q [] H
def mq (ta:TE) (tr:TA):TA:=λσ H Q=>ta σ H λx H1=>tr σ H1 λxs H2=>Q (x::xs) H2
section
variable {X:Cx}{e:Expr}{es:List Expr}{te:TE}{t:TA}{pos:Pos}
theorem ab:PA X [] x6:=λ_ _ _ _ H Q I h=>Calls.spliced_nil ⟨[],H,I,.nil,h⟩
theorem aa (ha:PE X e te) (hr:PA X es t) (hs:starEach (e::es) X.env=(false,eval e X.env)::starEach es X.env:=by rfl):PA X (e::es) (mq te t):=by
 intro pos pins s σ H Q I h
 rw [hs]
 show wpAny _ _ (spliced ((false,eval e X.env)::backTo pos (starEach es X.env))) _ _ s
 refine Calls.spliced_cons (aE (ha pins s σ H _ I h) λu s1 ⟨x,H1,I1,r1,q1⟩=>?_)
 exact aE (hr pos pins s1 σ H1 _ I1 q1) λus s2 ⟨xs,H2,I2,r2,q2⟩=>⟨x::xs,H2,I2,.cons r1 r2,q2⟩
def Es (t:TA):TE:=λσ H Q=>t σ H λxs H1=>xs.length<=sizeLine/\∀p,H1 p=none->Q (.ref p) (upd H1 p (.tup xs))
def Et (t:TA):TE:=λσ H Q=>t σ H λxs H1=>xs.length<=sizeLine/\∀p,H1 p=none->Q (.ref p) (upd H1 p (.lst xs))
theorem eL {x1} (h:PA X es t):PE X (.Tuple es x1 pos) (Es t):=by
 intro pins s σ H Q I hq
 refine wpAny_Tuple_spliced (aE (h pos pins s σ H _ I hq) λus s1 ⟨xs,H1,I1,r,z,q⟩=>⟨by rw [← r.length]; exact z,?_⟩)
 have hf:H1 s1.heap.objs.size=none:=I1.hok.fresh (Nat.le_refl _)
 refine ⟨.ref s1.heap.objs.size,upd H1 s1.heap.objs.size (.tup xs),I1.laid (t':=s1.toks) (λb u e=>Heap.get?_push_of_some _ e) (Nat.le_refl _) ?_,rfl,q _ hf⟩
 exact ⟨z,us,r,⟨_,Heap.get?_push_size _ rfl,rfl,_,rfl⟩⟩
theorem dW (h:PA X es t):PE X (.List es pos) (Et t):=by
 intro pins s σ H Q I hq
 refine wpAny_List_spliced (aE (h pos pins s σ H _ I hq) λus s1 ⟨xs,H1,I1,r,z,q⟩=>⟨by rw [← r.length]; exact z,?_⟩)
 have hf:H1 s1.heap.objs.size=none:=I1.hok.fresh (Nat.le_refl _)
 refine ⟨.ref s1.heap.objs.size,upd H1 s1.heap.objs.size (.lst xs),I1.laid (t':=s1.toks) (λb u e=>Heap.get?_push_of_some _ e) (Nat.le_refl _) ?_,rfl,q _ hf⟩
 exact ⟨z,us,0,r,Heap.get?_push_size _ rfl⟩
end
abbrev Sp:=List V->Hp->VK->XK->Prop
abbrev iG:=List Env->Hp->Shared->XK->Value->Shared->Prop
structure jy (P:Program) (w:World) (K:W.Frag) (mg:Str->Option Value) (base:Heap) (A:Around) (outer:List Env) (s:Shared) (H:Hp):Prop where
 frames:A.frames=some outer
 mod:Mod K mg base
 bs:∀b o,base.get? b=some o->s.heap.get? b=some o/\H b=none
 bsz:base.objs.size<=s.heap.objs.size
 eU:s.heap.FunFrames base outer
 frf:∀b∈ie outer,H b=none
 hok:cb P w H s.heap
 bare:AllBare s.gens
def CE (outer:List Env) (P:Program) (w:World) (H:Hp) (s:Shared) (Q:VK) (u:Value) (s':Shared):Prop:=
 ∃v H',s'.os=s.os/\AllBare s'.gens/\Un (ie outer) [] H H' s.heap s'.heap/\cb P w H' s'.heap/\RelV v u/\Q v H'
def CR (CX:iG) (outer:List Env) (P:Program) (w:World) (H:Hp) (s:Shared) (Q:VK) (E:XK) (r:Result) (s':Shared):Prop:=
 match r with
 | .ok (.ret u)=>CE outer P w H s Q u s'
 | .ok _=>False
 | .error e=>CX outer H s E e s'
structure av (P:Program) (w:World) (K:W.Frag) (mg:Str->Option Value) (base:Heap) (CX:iG) (k:Nat) (f:Addr) (fd:FuncData) (ps:List Str) (sp:Sp):Prop where
 len:∀vs H Q E,sp vs H Q E->vs.length=ps.length
 run:∀(A:Around) (outer:List Env) (s:Shared) (H:Hp) (args:Args) (us:List Value) (vs:List V) (Q:VK) (E:XK),bh k A->jy P w K mg base A outer s H->BindsTo s fd args (ps.zip us)->Vals vs us->sp vs H Q E->
  codeAny (model P w) A (.call (.ref f) args) (CR CX outer P w H s Q E) s
theorem jy.make {P:Program}{w:World}{K:W.Frag}{mg:Str->Option Value}{base:Heap}{A:Around}{outer:List Env}{s:Shared}{H:Hp}(e:jy P w K mg base A outer s H) (C:Addr) (us:List Value) (kw:List (Str×Value)) :
 jy P w K mg base (A.under (.builtin "type.__call__" ⟨.ref C::us,kw⟩)) outer s H:=⟨by first | exact e.frames | (simpa [Around.under,Code.envs,Code.isFrame,pushEnvs] using e.frames),e.mod,e.bs,e.bsz,e.eU,e.frf,e.hok,e.bare⟩
section
variable {X:Cx}{pins:List (Addr×Obj)}{σ:St}{H:Hp}{s s':Shared}
theorem Inv.x8 (I:Inv X pins σ H s):jy X.prog X.w X.K X.mg X.base X.A X.stack s H:=
 ⟨I.ok.frames,I.ok.mod,I.bs,Nat.le_trans I.ok.bsz I.sz,I.stack,I.pz,I.hok,I.bare⟩
theorem Inv.after {Q:VK}{u:Value}(I:Inv X pins σ H s) (h:CE X.stack X.prog X.w H s Q u s'):EP X pins σ Q u s':=by
 obtain ⟨v,H',os,bare,un,hok,r,q⟩:=h
 obtain ⟨hh,g,d,t,G4⟩:=s'
 obtain rfl:G4=s.os:=os
 exact ⟨v,H',I.call (h':=hh) (g':=g) (d':=d) (t':=t) (ch:=[]) un hok bare (λb z=>absurd z (by simp)),r,q⟩
end
def AJ (sp:Sp) (dX:List V) (E:XK) (t:TA):TE:=λσ H Q=>t σ H λvs H1=>sp (vs++dX) H1 Q E
def AK (C:Addr) (m:Str) (sp:Sp) (dX:List V) (E:XK) (ta:TE) (t:TA):TE:=λσ H Q=>ta σ H λx H1=>∃a dx fs,x=.ref a/\H1 a=some (.ins C dx fs)/\fs.lookup m=none/\
 t σ H1 λvs H2=>sp (x::(vs++dX)) H2 Q E
def AL (C:Addr) (sp:Sp) (dX:List V) (E:XK) (t:TA):TE:=λσ H Q=>t σ H λvs H1=>∀x dx,H1 x=none->H1 dx=none->dx≠x->
 sp (.ref x::(vs++dX)) (upd (upd H1 dx (.own x)) x (.ins C dx [])) (λv H2=>v=.aR/\Q (.ref x) H2) E
def Binds (K:W.Frag) (fd:FuncData) (ps:List Str) (ds:List Value):Prop:=
 ∀(s:Shared) (us:List Value),K.In s.heap->(us++ds).length=ps.length->BindsTo s fd ⟨us,[]⟩ (ps.zip (us++ds))
theorem Binds.all {K:W.Frag}{fd:FuncData}{ps:List Str}(h:∀us:List Value,us.length=ps.length->bindArgs fd ⟨us,[]⟩=pure (ps.zip us)):Binds K fd ps []:=λs us _ hl=>by
 rw [List.append_nil] at hl ⊢
 exact .of_eq (h us hl)
def Passes (CX:iG) (X:Cx) (E:XK):Prop:=∀(pins:List (Addr×Obj)) (σ:St) (H:Hp) (s:Shared) (e:Value) (s':Shared),Inv X pins σ H s->CX X.stack H s E e s'->X.xe e s'
section
variable {X:Cx}{CX:iG}{k:Nat}{f C:Addr}{fd:FuncData}{ps:List Str}{sp:Sp}{dX:List V}{ds:List Value}{E:XK}{x m:Str}{p pos apos:Pos}{e o:Expr}{es:List Expr}{ta:TE}{t:TA}
theorem sF {pins:List (Addr×Obj)}{σ:St}{H:Hp}{s:Shared}{Q:VK}{us:List Value}{vs:List V}(F:av X.prog X.w X.K X.mg X.base CX k f fd ps sp) (hr:bh k X.A) (hb:Binds X.K fd ps ds) (hd:Vals dX ds) (hx:Passes CX X E)
 (I:Inv X pins σ H s) (r:Vals vs us) (h:sp (vs++dX) H Q E):wpAny (model X.prog X.w) X.A (call (.ref f) us) (EP X pins σ Q) X.xe s:=by
 have r2:Vals (vs++dX) (us++ds):=r.append hd
 have hl:(us++ds).length=ps.length:=by rw [← r2.length]; exact F.len _ _ _ _ h
 refine wpAny_call (codeAny_mono (F.run X.A X.stack s H ⟨us,[]⟩ (us++ds) (vs++dX) Q E hr I.x8 (hb s us I.cO hl) r2 h) λr s' hq=>?_)
 cases r with
 | error e=>exact hx pins σ H s e s' I hq
 | ok fl=>
  cases fl with
  | ret u=>exact I.after hq
  | next=>exact False.elim hq
  | brk=>exact False.elim hq
  | cont=>exact False.elim hq
theorem az (F:av X.prog X.w X.K X.mg X.base CX k f fd ps sp) (hr:bh k X.A) (hg:Gl X x) (hm:X.mg x=some (.ref f)) (hk:W.keepIn X.K (.ref f)=true) (hb:Binds X.K fd ps ds) (hd:Vals dX ds) (hx:Passes CX X E)
 (ha:PA X (e::es) t) (nj:(x == ("__debug__" : Str))=false:=by decide) (he:starEach (e::es) X.env=(false,eval e X.env)::starEach es X.env:=by rfl) (ig:(backTo pos (starEach es X.env)).any (·.1)=false:=by rfl) :
 PE X (.Call (.Name x p) (e::es) [] pos) (AJ sp dX E t):=by
 intro pins s σ H Q I h
 refine wpAny_Call_Name_kw (pC I hg hm ?_ nj)
 refine W.callWith_K (h₀:=X.base) I.ok.mod.kin hk (aE (ha pos pins s σ H _ I h) λus s1 ⟨vs,H1,I1,r,q⟩=>⟨I1.cO,?_⟩) he ig
 exact sF F hr hb hd hx I1 r q
theorem aW {pl:Sem Bool}(he:PE X o ta) (c:iF X.K C) (hm:Meth X.K C m f) (F:av X.prog X.w X.K X.mg X.base CX k f fd ps sp) (hr:bh k X.A) (hb:Binds X.K fd ps ds) (hd:Vals dX ds) (hx:Passes CX X E) (ha:PA X (e::es) t)
 (gd:starEach (e::es) X.env=(false,eval e X.env)::starEach es X.env:=by rfl) (ig:(backTo pos (starEach es X.env)).any (·.1)=false:=by rfl)
 (ht:eval (.Call (.Attribute o m apos) (e::es) [] pos) X.env=(do
  let ov ← eval o X.env
  standAt apos.atName
  let (f,first) ← holding [ov] (getMethod ov m pl)
  callWith pos f first (backTo pos (starEach (e::es) X.env)) (backToKw pos (keywordEach [] X.env))):=by rfl) :
 PE X (.Call (.Attribute o m apos) (e::es) [] pos) (AK C m sp dX E ta t):=by
 intro pins s σ H Q I h
 refine W.methodCall_KW (pl:=pl) (aE (he pins s σ H _ I h) λu s1 ⟨x,H1,I1,rx,a,dx,fs,ex,ea,l,q⟩=>?_) ht
 subst ex
 obtain rfl:u=Value.ref a:=rx
 refine jZ I1 ea c hm l ?_
 refine W.callWith_K (first:=[.ref a]) (h₀:=X.base) I.ok.mod.kin hm.kp (aE (ha pos pins s1 σ H1 _ I1 q) λus s2 ⟨vs,H2,I2,r,q2⟩=>⟨I2.cO,?_⟩) gd ig
 exact sF (us:=.ref a::us) (vs:=.ref a::vs) F hr hb hd hx I2 (.cons rfl r) q2
structure Mk (K:W.Frag) (C f:Addr):Prop where
 makes:W.makesIn K C=true
 init:W.findIn K (.ref C) "__init__" = some (some (.ref f))
 fn:W.isFn K (.ref f)=true
 kp:W.keepIn K (.ref C)=true
theorem uU {pins:List (Addr×Obj)}{σ:St}{H:Hp}{s:Shared}{Q:VK}{us:List Value}{vs:List V}(M:Mk X.K C f) (F:av X.prog X.w X.K X.mg X.base CX k f fd ps sp) (hr:bh (k+1) X.A) (hb:Binds X.K fd ps ds) (hd:Vals dX ds)
 (hx:Passes CX X E) (I:Inv X pins σ H s) (r:Vals vs us)
 (h:∀x dx,H x=none->H dx=none->dx≠x->sp (.ref x::(vs++dX)) (upd (upd H dx (.own x)) x (.ins C dx [])) (λv H2=>v=.aR/\Q (.ref x) H2) E) :
 wpAny (model X.prog X.w) X.A (call (.ref C) us) (EP X pins σ Q) X.xe s:=by
 have hq:=h (s.heap.objs.size+1) s.heap.objs.size (I.hok.fresh (Nat.le_succ _)) (I.hok.fresh (Nat.le_refl _)) (Nat.ne_of_lt (Nat.lt_succ_self _))
 have I2:=Inv.made (C:=C) I
 have r2:Vals (V.ref (s.heap.objs.size+1)::(vs++dX)) (Value.ref (s.heap.objs.size+1)::(us++ds)):=.cons rfl (r.append hd)
 have hl:(Value.ref (s.heap.objs.size+1)::us++ds).length=ps.length:=by
  have e:=r2.length
  rw [F.len _ _ _ _ hq] at e
  exact e.symm
 refine wpAny_call (uT (f:=f) I.cO M.makes M.init (beq_iff_eq.mp M.fn) (codeAny_mono (F.run _ X.stack _ _ ⟨Value.ref (s.heap.objs.size+1)::us,[]⟩ (Value.ref (s.heap.objs.size+1)::(us++ds)) _ _ E (hr.make C us [])
  (I2.x8.make C us []) (hb _ (Value.ref (s.heap.objs.size+1)::us) I2.cO hl) r2 hq) λr s' sG=>?_))
 cases r with
 | error e=>exact hx pins σ _ _ e s' I2 sG
 | ok fl=>
  cases fl with
  | ret u=>
   obtain ⟨v,H',I3,rv,ev,q3⟩:=I2.after sG
   subst ev
   exact ⟨rv,⟨V.ref (s.heap.objs.size+1),H',I3,rfl,q3⟩⟩
  | next=>exact False.elim sG
  | brk=>exact False.elim sG
  | cont=>exact False.elim sG
theorem pL (M:Mk X.K C f) (F:av X.prog X.w X.K X.mg X.base CX k f fd ps sp) (hr:bh (k+1) X.A) (hg:Gl X x) (hm:X.mg x=some (.ref C)) (hb:Binds X.K fd ps ds) (hd:Vals dX ds) (hx:Passes CX X E)
 (ha:PA X (e::es) t) (nj:(x == ("__debug__" : Str))=false:=by decide) (he:starEach (e::es) X.env=(false,eval e X.env)::starEach es X.env:=by rfl) (ig:(backTo pos (starEach es X.env)).any (·.1)=false:=by rfl) :
 PE X (.Call (.Name x p) (e::es) [] pos) (AL C sp dX E t):=by
 intro pins s σ H Q I h
 refine wpAny_Call_Name_kw (pC I hg hm ?_ nj)
 refine W.callWith_K (h₀:=X.base) I.ok.mod.kin M.kp (aE (ha pos pins s σ H _ I h) λus s1 ⟨vs,H1,I1,r,q⟩=>⟨I1.cO,?_⟩) he ig
 exact uU M F hr hb hd hx I1 r q
end
section
variable {X:Cx}{CX:iG}{k:Nat}{f C:Addr}{fd:FuncData}{ps ks:List Str}{sp:Sp}{E:XK}{x m:Str}{p pos apos Lk:Pos}{e o:Expr}{es:List Expr}{Ly:List Keyword}{te ta:TE}{t tk:TA}{nm:Option Str}
variable {g:List Value->List Value->List Value}{gV:List V->List V->List V}
end
structure aQ (N P:List Str) (sc:Scope):Prop where
 kind:sc.kind=.function
 co:sc.isCoroutine=false
 gen:sc.isGenerator=false
 nd:N.Nodup
 pre:N.take P.length=P
 par:∀x∈P,sc.names.lookup x=some .local\/sc.names.lookup x=some .cell
 nofree:∀y∈sc.names,y.2≠.free
theorem lR {kindOf:Str->Option NameKind}{x:Str} : ∀{binds:List (Str×Value)}{m:Str->Option Value},(∀v,(x,v)∉binds)->bindL kindOf binds m x=m x
 | [],_,_=>rfl
 | (n,v)::r,m,h=>by
  unfold bindL
  rw [lR λw hw=>h w (List.mem_cons_of_mem _ hw)]
  split
  . have:x≠n:=by rintro rfl; exact h v List.mem_cons_self
    simp [this]
  . rfl
theorem lS {kindOf:Str->Option NameKind}{x:Str} : ∀{binds:List (Str×Value)}{m:Str->Option Value},(∀v,(x,v)∉binds)->bindC kindOf binds m x=m x
 | [],_,_=>rfl
 | (n,v)::r,m,h=>by
  unfold bindC
  rw [lS λw hw=>h w (List.mem_cons_of_mem _ hw)]
  split
  . rfl
  . have:x≠n:=by rintro rfl; exact h v List.mem_cons_self
    simp [this]
theorem lT {kindOf:Str->Option NameKind}{x:Str}{v:Value} : ∀{P:List Str}{vs:List Value}{i:Nat}{m:Str->Option Value},P.Nodup->P[i]?=some x->vs[i]?=some v->kindOf x=some .local->
 bindL kindOf (P.zip vs) m x=some v
 | [],_,_,_,_,h,_,_=>by simp at h
 | _::_,[],_,_,_,_,h,_=>by simp at h
 | p::P,w::vs,0,m,nd,h1,h2,hk=>by
  simp at h1 h2; subst h1; subst h2
  show bindL kindOf ((p,w)::P.zip vs) m p=_
  unfold bindL
  rw [lR λv hv=>(List.nodup_cons.mp nd).1 (List.of_mem_zip hv).1,if_pos hk]
  simp
 | p::P,w::vs,i+1,m,nd,h1,h2,hk=>by
  show bindL kindOf ((p,w)::P.zip vs) m x=_
  unfold bindL
  exact lT (i:=i) (List.nodup_cons.mp nd).2 (by simpa using h1) (by simpa using h2) hk
theorem lU {kindOf:Str->Option NameKind}{x:Str}{v:Value} : ∀{P:List Str}{vs:List Value}{i:Nat}{m:Str->Option Value},P.Nodup->P[i]?=some x->vs[i]?=some v->kindOf x≠some .local->
 bindC kindOf (P.zip vs) m x=some v
 | [],_,_,_,_,h,_,_=>by simp at h
 | _::_,[],_,_,_,_,h,_=>by simp at h
 | p::P,w::vs,0,m,nd,h1,h2,hk=>by
  simp at h1 h2; subst h1; subst h2
  show bindC kindOf ((p,w)::P.zip vs) m p=_
  unfold bindC
  rw [lS λv hv=>(List.nodup_cons.mp nd).1 (List.of_mem_zip hv).1,if_neg hk]
  simp
 | p::P,w::vs,i+1,m,nd,h1,h2,hk=>by
  show bindC kindOf ((p,w)::P.zip vs) m x=_
  unfold bindC
  exact lU (i:=i) (List.nodup_cons.mp nd).2 (by simpa using h1) (by simpa using h2) hk
def start (N:List Str) (vs:List V):St:=vs.map some++List.replicate (N.length-vs.length) none
def gW (CX:iG) (P:Program) (w:World) (K:W.Frag) (mg:Str->Option Value) (base:Heap) (N:List Str) (qual:Str) (scope:Scope) (f:Addr) (cd:Value) (A:Around) (outer:List Env) (s:Shared) (H:Hp) (E:XK):Cx where
 prog:=P
 w:=w
 K:=K
 mg:=mg
 base:=base
 A:=A.deeper (envOfC qual scope s.heap.objs.size f cd)
 N:=N
 eT:=s
 xP:=H
 env:=envOfC qual scope s.heap.objs.size f cd
 outer:=outer
 stack:=envOfC qual scope s.heap.objs.size f cd::outer
 ex:=[]
 calm:=true
 fn:=λ_=>true
 pn:=[]
 xe:=λe s'=>wpAny (model P w) (A.deeper (envOfC qual scope s.heap.objs.size f cd)) (leaving (envOfC qual scope s.heap.objs.size f cd) e) (λ_ sH=>CX outer H s E e sH) (λe' sH=>CX outer H s E e' sH) s'
theorem nq {sc:Scope}{n:Nat}{x:Str}(h:sc.names.lookup x=some .cell):∃c,(cellsFrom n sc.names []).lookup x=some c:=by
 have q:=W.cellsFrom_some sc.names n [] (.inl h)
 exact Option.isSome_iff_exists.mp q
theorem sI {CX:iG}{P:Program}{w:World}{K:W.Frag}{mg:Str->Option Value}{base:Heap}{N ps:List Str}{qual:Str}{scope:Scope}{f:Addr}{cd:Value}{A:Around}{outer:List Env}{s s1:Shared}{H:Hp}{E:XK}{us:List Value}{vs:List V}
 (S:aQ N ps scope) (hd:A.handled=none) (e0:jy P w K mg base A outer s H) (hl:vs.length=ps.length) (r:Vals vs us)
 (x:InCallC s s.heap.objs.size (bindL (envOfC qual scope s.heap.objs.size f cd).kindOf (ps.zip us) λ_=>none) (cellsFrom (s.heap.objs.size+1) scope.names []) (bindC (envOfC qual scope s.heap.objs.size f cd).kindOf (ps.zip us) λ_=>none) s1) :
 Inv (gW CX P w K mg base N qual scope f cd A outer s H E) [] (start N vs) H s1:=by
 have ig:ps.length<=N.length:=by have:=congrArg List.length S.pre; rw [List.length_take] at this; omega
 obtain ⟨h1,tk,rfl,hk⟩:=x.done
 have sJ:∀b:Addr,b∉(gW CX P w K mg base N qual scope f cd A outer s H E).ex:=λb z=>absurd (show b∈([]:List Addr) from z) (by simp)
 refine ⟨⟨e0.mod,S.kind,rfl,rfl,Nat.le_refl _,λy z c h1 h2=>?_,λy hy=>?_,λy c _ h=>?_,λ_=>hd,Around.frames_deeper e0.frames,.inr ⟨rfl,rfl⟩,λb z=>absurd z (sJ b),e0.bs,e0.bsz,λb _ _=>sJ b,λb z=>absurd z (sJ b),e0.eU,e0.frf⟩,
  rfl,e0.bare,Un.kept hk,⟨_,x.toInCall.ns,λi y v h1 h2 h3=>?_⟩,λy c h=>⟨_,x.cell y c h⟩,e0.hok.fresh (Nat.le_refl _),λy c h=>?_,λp hp=>absurd (show p∈([]:List (Addr×Obj)) from hp) (by simp),e0.hok.kept hk,?_⟩
 . exact name_of_addr x.apart (PySem.mem_of_lookup h1) (PySem.mem_of_lookup h2)
 . have hy:scope.names.lookup y=some .cell\/scope.names.lookup y=some .free:=hy
   rcases hy with hy | hy
   . exact nq hy
   . exact absurd rfl (S.nofree _ (PySem.mem_of_lookup hy))
 . exact Nat.le_of_lt (x.above y c (PySem.mem_of_lookup h))
 . have hi:i<vs.length:=by
    unfold start at h2
    by_cases hi:i<vs.length
    . exact hi
    . rw [List.getElem?_append_right (by simpa using hi)] at h2
      rw [List.getElem?_replicate] at h2
      split at h2 <;> cases h2
   have ha:vs[i]?=some v:=by
    unfold start at h2
    rw [List.getElem?_append_left (by simpa using hi),List.getElem?_map] at h2
    cases e:vs[i]? with
    | none=>rw [e] at h2; cases h2
    | some a=>rw [e] at h2; cases h2; rfl
   obtain ⟨u,hu,rv⟩:=r.get ha
   have hp:ps[i]?=some y:=by
    rw [← S.pre,List.getElem?_take_of_lt (by omega)]; exact h1
   have Ci:ps.Nodup:=by rw [← S.pre]; exact S.nd.sublist (List.take_sublist _ _)
   refine ⟨u,rv,?_⟩
   rcases S.par y (List.mem_of_getElem? hp) with k | k
   . exact .inl ⟨k,lT Ci hp hu k⟩
   . obtain ⟨c,e⟩:=nq (n:=s.heap.objs.size+1) k
     refine .inr ⟨.inl k,c,e,?_⟩
     have q:=x.cell y c e
     rw [lU Ci hp hu (by show scope.names.lookup y≠_; rw [k]; decide)] at q
     exact q
 . exact e0.hok.fresh (Nat.le_of_lt (x.above y c (PySem.mem_of_lookup h)))
 . unfold start
   show _=N.length
   rw [List.length_append,List.length_map,List.length_replicate]
   omega
theorem AM {CX:iG}{P:Program}{w:World}{K:W.Frag}{mg:Str->Option Value}{base:Heap}{k:Nat}{f:Addr}{name qual:Str}{params:Arguments}{body:List Stmt}{scope:Scope}{dV kV doc pm cdv ct oc:Value}{an od:Option Addr}
 {lV:Array (Option Value)}{N ps:List Str}{sp:Sp}(lk:K.lookup f=some ⟨oc,od,.func (W.fnOf name qual params body scope dV kV doc pm an cdv ct),lV⟩) (iz:W.codeIn K cdv qual=true) (S:aQ N ps scope)
 (len:∀vs H Q E,sp vs H Q E->vs.length=ps.length)
 (qN:∀(A:Around) (outer:List Env) (s:Shared) (H:Hp) (vs:List V) (Q:VK) (E:XK),bh k (A.deeper (envOfC qual scope s.heap.objs.size f cdv))->sp vs H Q E->
  ∃t,fu (gW CX P w K mg base N qual scope f cdv A outer s H E) body t/\t { nx:=λ_ H'=>Q .aR H',rt:=Q } (start N vs) H) :
 av P w K mg base CX (k+1) f (W.fnOf name qual params body scope dV kV doc pm an cdv ct) ps sp:=by
 refine ⟨len,λA outer s H args us vs Q E hr e0 hb r gf=>?_⟩
 have hl:=len _ _ _ _ gf
 have KX:K.In s.heap:=e0.mod.kin.keeps λb o e=>(e0.bs b o e).1
 have lim:s.heap.NoLimit:=e0.mod.nolimit.keeps λb o e=>(e0.bs b o e).1
 have AN:∀y∈ps.zip us,scope.names.lookup y.1=some .local\/(scope.names.lookup y.1=some .cell/\((cellsFrom (s.heap.objs.size+1) scope.names []).lookup y.1).isSome=true):=λ⟨n,v⟩ hy=>by
  rcases S.par n (List.of_mem_zip hy).1 with q | q
  . exact .inl q
  . exact .inr ⟨q,W.cellsFrom_some _ _ _ (.inl q)⟩
 refine codeAny_call_function hr.depth (KX _ _ lk) rfl S.co S.gen rfl (W.codeRec_of KX iz) (hb _ _ _ _ ?_)
 refine wpAny_newFunctionEnv_cells S.kind AN λenv he s1 x=>?_
 subst he
 refine ⟨lim.keeps x.toInCall.keep,codeAny_func ?_⟩
 obtain ⟨t,ht,hq⟩:=qN A outer s H vs Q E (hr.deeper _) gf
 have I:Inv (gW CX P w K mg base N qual scope f cdv A outer s H E) [] (start N vs) H s1:=sI S hr.hd e0 hl r x
 refine wpAny_mono (ht [] s1 (start N vs) H _ I hq) (λfl s' hs=>?_) λe s' hs=>hs
 have fin:∀{bW:St}{H':Hp}{v:V}{u:Value},Inv (gW CX P w K mg base N qual scope f cdv A outer s H E) [] bW H' s'->RelV v u->Q v H'->CE outer P w H s Q u s':=
  λ{bW H' v u} J rv q=>⟨v,H',J.os,J.bare,J.base,J.hok,rv,q⟩
 cases fl with
 | ret u=>
  obtain ⟨v,bW,H',J,rv,q⟩:=hs
  exact fin J rv q
 | next=>
  obtain ⟨bW,H',J,q⟩:=hs
  exact fin (v:=V.aR) (u:=Value.none) J rfl q
 | brk=>
  obtain ⟨_,_,_,q⟩:=hs
  exact False.elim q
 | cont=>
  obtain ⟨_,_,_,q⟩:=hs
  exact False.elim q
end L2
namespace L2
open PySem PySem.Spec PyProof.Rows
section
variable {X:Cx}{x:Str}{p pos:Pos}{e:Expr}{es:List Expr}{t:TA}{id T:String}{r:List V->Hp->VK->Prop}
def Cj (r:List V->Hp->VK->Prop) (t:TA):TE:=λσ H Q=>t σ H λvs H1=>r vs H1 Q
theorem aO (hc:ff X (.builtin id) r) (hg:Gl X x) (hm:X.mg x=none) (hv:bootBuiltins x=some (.builtin id)) (ha:PA X (e::es) t) (hn:x ≠ "__name__":=by decide) (nj:(x == ("__debug__" : Str))=false:=by decide)
 (he:starEach (e::es) X.env=(false,eval e X.env)::starEach es X.env:=by rfl) (ig:(backTo pos (starEach es X.env)).any (·.1)=false:=by rfl):PE X (.Call (.Name x p) (e::es) [] pos) (Cj r t):=by
 intro pins s σ H Q I h
 refine wpAny_Call_Name_kw (eI I hg hm hv ?_ hn nj)
 exact PyProof.Rows.callWith_builtin1 (aE (ha pos pins s σ H _ I h) λus s1 ⟨vs,H1,I1,r1,q1⟩=>hc pins s1 σ H1 vs us Q I1 r1 q1) he ig
theorem gg (hc:ff X (.type T) r) (hg:Gl X x) (hm:X.mg x=none) (hv:bootBuiltins x=some (.type T)) (ha:PA X (e::es) t) (hn:x ≠ "__name__":=by decide) (nj:(x == ("__debug__" : Str))=false:=by decide)
 (he:starEach (e::es) X.env=(false,eval e X.env)::starEach es X.env:=by rfl) (ig:(backTo pos (starEach es X.env)).any (·.1)=false:=by rfl):PE X (.Call (.Name x p) (e::es) [] pos) (Cj r t):=by
 intro pins s σ H Q I h
 refine wpAny_Call_Name_kw (eI I hg hm hv ?_ hn nj)
 exact PyProof.Rows.callWith_type1 (aE (ha pos pins s σ H _ I h) λus s1 ⟨vs,H1,I1,r1,q1⟩=>hc pins s1 σ H1 vs us Q I1 r1 q1) he ig
end
end L2
namespace L2
open PySem PySem.Spec PyProof.Rows
section
variable {κ:Type}[DecidableEq κ]
def bj (kvs:List (κ×V)) (k:κ):Option V:=(kvs.find? λkv=>decide (kv.1=k)).map (·.2)
def putK (kvs:List (κ×V)) (k:κ) (v:V):List (κ×V):=
 if (kvs.any λkv=>decide (kv.1=k))=true then kvs.map (λkv=>if kv.1=k then (kv.1,v) else kv) else kvs++[(k,v)]
theorem b0 {p:κ×V}{r:List (κ×V)}{k:κ}(e:p.1=k):bj (p::r) k=some p.2:=by simp [bj,List.find?_cons,e]
theorem bX {p:κ×V}{r:List (κ×V)}{k:κ}(e:¬ p.1=k):bj (p::r) k=bj r k:=by simp [bj,List.find?_cons,e]
theorem jz (k:κ):∀kvs:List (κ×V),(kvs.any λkv=>decide (kv.1=k))=(bj kvs k).isSome
 | []=>rfl
 | p::r=>by
  rw [List.any_cons]
  by_cases e:p.1=k
  . simp only [b0 e,decide_eq_true e,Bool.true_or,Option.isSome_some]
  . rw [bX e,decide_eq_false e,Bool.false_or]; exact jz k r
theorem lW (k j:κ) (y:V):∀kvs:List (κ×V),bj kvs k=none->bj (kvs++[(k,y)]) j=if j=k then some y else bj kvs j
 | [],_=>by
  by_cases e:k=j
  . rw [if_pos e.symm]; exact b0 (p:=(k,y)) e
  . rw [if_neg (λz=>e z.symm)]; exact bX (p:=(k,y)) e
 | p::r,hn=>by
  rw [List.cons_append]
  have hk:¬ p.1=k:=λz=>by rw [b0 z] at hn; cases hn
  rw [bX hk] at hn
  have ih:=lW k j y r hn
  by_cases e:p.1=j
  . rw [b0 e,b0 e,if_neg (λz=>hk (e.trans z))]
  . rw [bX e,bX e,ih]
theorem eF (kvs:List (κ×V)) (k:κ) (v:V):(putK kvs k v).length<=kvs.length+1:=by
 unfold putK
 split
 . rw [List.length_map]; omega
 . rw [List.length_append,List.length_cons,List.length_nil]; omega
theorem jA {kvs:List (κ×V)}{k:κ}(v:V) (h:bj kvs k=none):putK kvs k v=kvs++[(k,v)]:=by
 unfold putK
 rw [jz,h]
 exact if_neg (by decide)
theorem cB.sL {o:Option V}{u:Option Value}(r:cB o u):o.isSome=u.isSome:=by
 cases o with
 | none=>cases u with
  | none=>rfl
  | some _=>exact (show False from r).elim
 | some _=>cases u with
  | none=>exact (show False from r).elim
  | some _=>rfl
theorem cB.getD {o:Option V}{u:Option Value}{d:V}{d':Value}(r:cB o u) (rd:RelV d d'):RelV (o.getD d) (u.getD d'):=by
 cases o with
 | none=>cases u with
  | none=>exact rd
  | some _=>exact (show False from r).elim
 | some _=>cases u with
  | none=>exact (show False from r).elim
  | some _=>exact r
theorem KV.val {kvs:List (κ×V)}{vs:List (κ×Value)}(r:KV kvs vs) (k:κ):cB (bj kvs k) (valueAt vs k):=by
 unfold KV at r
 induction r with
 | nil=>exact True.intro
 | @cons p q ps qs h t ih=>
  obtain ⟨h1,h2⟩:=h
  by_cases e:p.1=k
  . have e':q.1=k:=h1.symm.trans e
    have b:valueAt (q::qs) k=some q.2:=by simp [valueAt,List.find?_cons,e']
    rw [b0 e,b]; exact h2
  . have e':¬ q.1=k:=λz=>e (h1.trans z)
    have b:valueAt (q::qs) k=valueAt qs k:=by simp [valueAt,List.find?_cons,e']
    rw [bX e,b]; exact ih
theorem KV.any {kvs:List (κ×V)}{vs:List (κ×Value)}(r:KV kvs vs) (k:κ):(kvs.any λkv=>decide (kv.1=k))=vs.any λkv=>decide (kv.1=k):=by
 unfold KV at r
 induction r with
 | nil=>rfl
 | cons h t ih=>rw [List.any_cons,List.any_cons,ih,h.1]
theorem KV.uV {kvs:List (κ×V)}{vs:List (κ×Value)}(r:KV kvs vs) (k:κ){y:V}{u:Value}(ry:RelV y u) :
 KV (kvs.map λkv=>if kv.1=k then (kv.1,y) else kv) (vs.map λkv=>if kv.1=k then (kv.1,u) else kv):=by
 unfold KV at r ⊢
 induction r with
 | nil=>exact .nil
 | @cons p q ps qs h t ih=>
  rw [List.map_cons,List.map_cons]
  refine .cons ?_ ih
  obtain ⟨h1,h2⟩:=h
  by_cases e:p.1=k
  . rw [if_pos e,if_pos (h1.symm.trans e)]; exact ⟨h1,ry⟩
  . rw [if_neg e,if_neg (λz=>e (h1.trans z))]; exact ⟨h1,h2⟩
theorem KV.put {kvs:List (κ×V)}{vs:List (κ×Value)}(r:KV kvs vs) (k:κ){y:V}{u:Value}(ry:RelV y u):KV (putK kvs k y) (stored vs k u):=by
 unfold putK stored
 rw [r.any k]
 by_cases e:(vs.any λkv=>decide (kv.1=k))=true
 . rw [if_pos e,if_pos e]; exact r.uV k ry
 . rw [if_neg e,if_neg e]; exact Paired.snoc r ⟨rfl,ry⟩
theorem KV.length {kvs:List (κ×V)}{vs:List (κ×Value)}(r:KV kvs vs):kvs.length=vs.length:=Paired.length r
end
theorem i6 {P:Program}{w:World}{k:Key}{u:Value}(r:RelV (kV k) u):(bb P w).is k u=true:=by
 cases k with
 | inl i=>obtain ⟨t,e⟩:=(show ∃t,u=Value.int i t from r); subst e; exact o7 P w i t
 | inr x=>obtain ⟨t,e⟩:=(show ∃t,u=Value.str x t from r); subst e; exact o8 P w x t
theorem lX {P:Program}{w:World} : ∀{ks:List Key}{us:List Value},Vals (ks.map kV) us->ItemsAre (bb P w) ks us
 | [],_,r=>by rw [List.map_nil] at r; cases r; exact .nil
 | k::ks,_,r=>by
  rw [List.map_cons] at r
  cases r with
  | cons h t=>exact .cons (i6 h) (lX t)
abbrev KT (H:Hp):List (List Key×V)->List (List Key×Addr×Value)->Prop:=Paired λp q=>p.1=q.1/\H q.2.1=some (.tup (p.1.map kV))/\RelV p.2 q.2.2
theorem KT.val {H:Hp}{kvs:List (List Key×V)}{xs:List (List Key×Addr×Value)}(r:KT H kvs xs) (k:List Key):cB (bj kvs k) ((atKey xs k).map (·.2)):=by
 induction r with
 | nil=>exact True.intro
 | @cons p q ps qs h t ih=>
  obtain ⟨h1,_,h2⟩:=h
  by_cases e:p.1=k
  . have e':q.1=k:=h1.symm.trans e
    have b:atKey (q::qs) k=some q.2:=by simp [atKey,List.find?_cons,e']
    rw [b0 e,b]; exact h2
  . have e':¬ q.1=k:=λz=>e (h1.trans z)
    have b:atKey (q::qs) k=atKey qs k:=by simp [atKey,List.find?_cons,e']
    rw [bX e,b]; exact ih
theorem KT.uV {H:Hp}{kvs:List (List Key×V)}{xs:List (List Key×Addr×Value)}(r:KT H kvs xs) (k:List Key){y:V}{u:Value}(ry:RelV y u) :
 KT H (kvs.map λkv=>if kv.1=k then (kv.1,y) else kv) (xs.map (putAt k u)):=by
 induction r with
 | nil=>exact .nil
 | @cons p q ps qs h t ih=>
  rw [List.map_cons,List.map_cons]
  refine .cons ?_ ih
  obtain ⟨h1,h2,h3⟩:=h
  unfold putAt
  by_cases e:p.1=k
  . rw [if_pos e,if_pos (h1.symm.trans e)]; exact ⟨h1,h2,ry⟩
  . rw [if_neg e,if_neg (λz=>e (h1.trans z))]; exact ⟨h1,h2,h3⟩
theorem KT.put {H:Hp}{kvs:List (List Key×V)}{xs:List (List Key×Addr×Value)}(r:KT H kvs xs) (k:List Key){b:Addr}{y:V}{u:Value}(hb:H b=some (.tup (k.map kV))) (ry:RelV y u) :
 KT H (putK kvs k y) (storedH xs k b u):=by
 have e:(kvs.any λkv=>decide (kv.1=k))=(atKey xs k).isSome:=by
  rw [jz,(r.val k).sL,Option.isSome_map]
 unfold putK storedH
 rw [e]
 by_cases q:(atKey xs k).isSome=true
 . rw [if_pos q,if_pos q]; exact r.uV k ry
 . rw [if_neg q,if_neg q]; exact Paired.snoc r ⟨rfl,hb,ry⟩
theorem KT.keeps {H H':Hp}{kvs:List (List Key×V)}{xs:List (List Key×Addr×Value)}(r:KT H kvs xs) (ht:∀b ys,H b=some (.tup ys)->H' b=some (.tup ys)):KT H' kvs xs:=
 Paired.gL r λ_ _ z=>⟨z.1,ht _ _ z.2.1,z.2.2⟩
section
variable {P:Program}{w:World}{H:Hp}{h:Heap}{a:Addr}
theorem vP {u:HO}(ok:cb P w H h) (e:Rd H a u):aT P w H h a u:=e.ok ok
theorem j4 {kvs:List (Key×V)}(ok:cb P w H h) (e:Rd H a (.dK kvs)):kvs.length<=sizeLine/\(a == sysModules)=false/\∃vs,KV kvs vs/\h.DictOf (bb P w) a vs:=
 show aT P w H h a (.dK kvs) from vP ok e
theorem vQ {kvs:List (Key×V)}(ok:cb P w H h) (e:H a=some (.dK kvs)):kvs.length<=sizeLine/\(a == sysModules)=false/\∃vs,KV kvs vs/\h.DictOf (bb P w) a vs:=j4 ok (.inl e)
theorem j5 {ks:List Key}(ok:cb P w H h) (e:H a=some (.tup (ks.map kV))):(tupleKind (bb P w)).is h ks a:=by
 obtain ⟨_,its,r,o,h1,h2,n,h3⟩:=(show aT P w H h a (.tup (ks.map kV)) from ok a _ e)
 exact ⟨o,its.toArray,n,h1,h2,h3,by simpa using lX r⟩
theorem j6 {kvs:List (List Key×V)}(ok:cb P w H h) (e:Rd H a (.dT kvs)):kvs.length<=sizeLine/\(a == sysModules)=false/\
 ∃xs,KT H kvs xs/\h.DictOfH (tupleKind (bb P w)) a xs:=by
 obtain ⟨z,y,xs,r,o,es,ep,h1,h2,h3,h4,h5⟩:=(show aT P w H h a (.dT kvs) from vP ok e)
 refine ⟨z,y,xs,r,o,es,ep,h1,h2,h3,h4,λx hx=>?_,h5⟩
 have all:∀{l:List (List Key×V)}{m:List (List Key×Addr×Value)},KT H l m->∀x∈m,(tupleKind (bb P w)).is h x.1 x.2.1:=by
  intro l m q
  induction q with
  | nil=>intro x hx; exact nomatch hx
  | @cons p q ps qs hq t ih=>
   intro x hx
   rcases List.mem_cons.mp hx with e | hx
   . subst e
     exact j5 ok (by rw [← hq.1]; exact hq.2.1)
   . exact ih x hx
 exact all r x hx
theorem AO {kvs:List (List Key×V)}(ok:cb P w H h) (e:H a=some (.dT kvs)):kvs.length<=sizeLine/\(a == sysModules)=false/\
 ∃xs,KT H kvs xs/\h.DictOfH (tupleKind (bb P w)) a xs:=j6 ok (.inl e)
end
def ef (H:Hp) (a:Addr) (y:V) (r:Option V):Prop:=
 (∃kvs k,Rd H a (.dK kvs)/\y=kV k/\r=bj kvs k)\/∃kvs k b,Rd H a (.dT kvs)/\y=.ref b/\H b=some (.tup (k.map kV))/\r=bj kvs k
def gX (H:Hp) (a:Addr) (y v:V) (H':Hp):Prop:=
 (∃kvs k,H a=some (.dK kvs)/\y=kV k/\kvs.length<sizeLine/\H'=upd H a (.dK (putK kvs k v)))\/
 ∃kvs k b,H a=some (.dT kvs)/\y=.ref b/\H b=some (.tup (k.map kV))/\kvs.length<sizeLine/\H'=upd H a (.dT (putK kvs k v))
theorem ef.k {H:Hp}{a:Addr}{kvs:List (Key×V)}{k:Key}(e:H a=some (.dK kvs)):ef H a (kV k) (bj kvs k):=.inl ⟨kvs,k,.inl e,rfl,rfl⟩
theorem ef.t {H:Hp}{a b:Addr}{kvs:List (List Key×V)}{k:List Key}(e:H a=some (.dT kvs)) (eb:H b=some (.tup (k.map kV))):ef H a (.ref b) (bj kvs k):=.inr ⟨kvs,k,b,.inl e,rfl,eb,rfl⟩
theorem gX.k {H:Hp}{a:Addr}{kvs:List (Key×V)}{k:Key}{v:V}(e:H a=some (.dK kvs)) (hl:kvs.length<sizeLine):gX H a (kV k) v (upd H a (.dK (putK kvs k v))):=.inl ⟨kvs,k,e,rfl,hl,rfl⟩
theorem gX.t {H:Hp}{a b:Addr}{kvs:List (List Key×V)}{k:List Key}{v:V}(e:H a=some (.dT kvs)) (eb:H b=some (.tup (k.map kV))) (hl:kvs.length<sizeLine) :
 gX H a (.ref b) v (upd H a (.dT (putK kvs k v))):=.inr ⟨kvs,k,b,e,rfl,eb,hl,rfl⟩
section
variable {X:Cx}{pins:List (Addr×Obj)}{σ:St}{H:Hp}{s:Shared}{a:Addr}{y v:V}{u r:Value}{o:Option V}{A:Around}{E:Value->Shared->Prop}
theorem Inv.big (I:Inv X pins σ H s):sysModules<s.heap.objs.size:=by
 have h:mainGlobals<s.heap.objs.size:=(I.mod.glob.keeps I.bk).lt
 exact Nat.lt_trans (by decide) h
theorem sM {Q:Value->Shared->Prop}(hu:A.units+1<cLine) (I:Inv X pins σ H s) (g:ef H a y (some v)) (ry:RelV y u) (h:∀w' s',Inv X pins σ H s'->RelV v w'->Q w' s') :
 wpAny (model X.prog X.w) A (getItem (.ref a) u) Q E s:=by
 rcases g with ⟨kvs,k,e,ey,l⟩ | ⟨kvs,k,b,e,ey,eb,l⟩
 . subst ey
   obtain ⟨z,hd,vs,rel,dd⟩:=j4 I.hok e
   obtain ⟨w',hw,iH⟩:=cB.some_of (v:=v) (o:=valueAt vs k) (by rw [l]; exact rel.val k)
   exact wpAny_getItem_of (i6 ry) dd.mapOf hw (h w' _ (I.tok _) iH)
 . subst ey
   cases (show u=Value.ref b from ry)
   obtain ⟨z,hd,xs,rel,dd⟩:=j6 I.hok e
   obtain ⟨w',hw,iH⟩:=cB.some_of (v:=v) (o:=(atKey xs k).map (·.2)) (by rw [l]; exact rel.val k)
   obtain ⟨p,hp,iI⟩:=Option.map_eq_some_iff.mp hw
   refine wpAny_getItem_heap (tupleKind_room_in1 hu) (j5 I.hok eb) dd hp ?_
   rw [iI]
   exact h w' _ (I.tok _) iH
theorem i7 {h':Heap}{t':Nat}{ob:HO}(I:Inv X pins σ H s) (mu:rS (H a)) (hs:Heap.SameBut a s.heap h') (he:∃q,h'.get? a=some q) (new:aT X.prog X.w (upd H a ob) h' a ob) :
 Inv X pins σ (upd H a ob) { s with heap:=h',toks:=t' } :=
 I.write (x:=a) (e:=a) mu (.inl rfl) (λb q hb z=>(hs.2 b hb).trans z) he new
theorem nr {P:Program}{w:World}{H':Hp}{h':Heap}{kvs:List (Key×V)}{vs:List (Key×Value)}(z:kvs.length<=sizeLine) (hd:(a == sysModules)=false) (rel:KV kvs vs) (dd:h'.DictOf (bb P w) a vs) :
 aT P w H' h' a (.dK kvs):=⟨z,hd,vs,rel,dd⟩
theorem sN {H':Hp}{Q:Unit->Shared->Prop}(hu:A.units+1<cLine) (I:Inv X pins σ H s) (g:gX H a y v H') (ry:RelV y u) (rv:RelV v r) (h:∀s',Inv X pins σ H' s'->Q () s') :
 wpAny (model X.prog X.w) A (setItem (.ref a) u r) Q E s:=by
 rcases g with ⟨kvs,k,e,ey,l,eH⟩ | ⟨kvs,k,b,e,ey,eb,l,eH⟩
 . subst ey eH
   obtain ⟨z,hd,vs,rel,dd⟩:=vQ I.hok e
   have hz:vs.length<=sizeLine:=by rw [← rel.length]; exact z
   have hl:(putK kvs k v).length<=sizeLine:=by have:=eF kvs k v; omega
   refine wpAny_setItem_pairs (hsz:=hz) (i6 ry) dd λh' j7 hs=>h _ ?_
   have he:∃q,h'.get? a=some q:=let ⟨q,_,_,hq,_⟩:=j7; ⟨q,hq⟩
   exact i7 I (by rw [e]; exact True.intro) hs he (nr hl hd (rel.put k rv) j7)
 . subst ey eH
   cases (show u=Value.ref b from ry)
   obtain ⟨z,hd,xs,rel,dd⟩:=AO I.hok e
   have hz:xs.length<=sizeLine:=by rw [← Paired.length rel]; exact z
   have hl:(putK kvs k v).length<=sizeLine:=by have:=eF kvs k v; omega
   refine wpAny_setItem_heap (hsz:=hz) (tupleKind_room_in1 hu) (j5 I.hok eb) dd λh' j7 hs=>h _ ?_
   obtain ⟨q,es,ep,hq,h2,h3,h4,_,h5⟩:=j7
   refine i7 I (by rw [e]; exact True.intro) hs ⟨q,hq⟩ ⟨hl,hd,_,(rel.put k eb rv).keeps λc ys ec=>?_,q,es,ep,hq,h2,h3,h4,h5⟩
   rw [ai (cC ec e (λz=>nomatch z))]
   exact ec
end
section
variable {X:Cx}{pins:List (Addr×Obj)}{σ:St}{H:Hp}{s:Shared}{a:Addr}{kvs:List (Key×V)}{k:Key}{u:Value}{A:Around}{E:Value->Shared->Prop}
end
def x9 (i:Expr):Prop:=∀ov iv,subscripted i false ov iv=operate [ov,iv] (getItem ov iv)
theorem w6 {prog:Program}{w:World}{A:Around}{E:Value->Shared->Prop}{s:Shared}{env:Env}{value slice:Expr}{pos:Pos}{T id:String}{Q:Value->Shared->Prop}
 (hl:typeLookup (.type T) "__getitem__" = pure (some (.builtin id))) (hs:x9 slice)
 (h:wpAny (model prog w) A (eval value env) (λo bw=>wpAny (model prog w) A (eval slice env) (λi lu=>lu.TypeIs o T/\wpAny (model prog w) A (getItem o i) Q E lu) E bw) E s) :
 wpAny (model prog w) A (eval (.Subscript value slice pos) env) Q E s:=by
 refine Subscript_ (wpAny_mono h (λo bw gY=>wpAny_mono gY (λi lu nt=>?_) λ_ _ x=>x) λ_ _ x=>x)
 obtain ⟨hT,nt⟩:=nt
 unfold subscriptTail
 refine wpAny_bind ?_
 rw [getitemInPython_of_ne hT.not_modules]
 refine wpAny_bind (wpAny_specialOf hT hl ?_)
 have fin:wpAny (model prog w) A (subscripted slice false o i) (λr xa=>wpAny (model prog w) A (letTemporaryGo value o r >>= λ_=>pure r) Q E xa) E lu:=by
  rw [hs o i]
  exact wpAny_operating (wpAny_mono nt (λr xa qO=>wpAny_bind (wpAny_letTemporaryGo (wpAny_pure qO))) λ_ _ x=>x)
 first
  | exact wpAny_pure (wpAny_bind fin)
  | exact wpAny_bind (wpAny_pure (wpAny_bind fin))
  | exact wpAny_bind fin
theorem o9 {X:Cx}{pins:List (Addr×Obj)}{σ:St}{H:Hp}{s:Shared}{a:Addr}{y:V}{o:Option V}(I:Inv X pins σ H s) (g:ef H a y o):s.TypeIs (.ref a) "dict":=by
 rcases g with ⟨kvs,k,e,_,_⟩ | ⟨kvs,k,b,e,_,_,_⟩
 . obtain ⟨_,_,vs,_,dd⟩:=j4 I.hok e
   exact dd.typeIs
 . obtain ⟨_,_,xs,_,dd⟩:=j6 I.hok e
   exact dd.typeIs
def AQ (td ty:TE):TE:=λσ H Q=>td σ H λx H1=>ty σ H1 λy H2=>∃a v,x=.ref a/\ef H2 a y (some v)/\Q v H2
def AR (td ty tv:TE):TS:=λD σ H=>tv σ H λv H1=>td σ H1 λx H2=>ty σ H2 λy H3=>∃a H4,x=.ref a/\gX H3 a y v H4/\D.nx σ H4
section
variable {X:Cx}{o i e value:Expr}{pos pos' Er:Pos}{td ty tv:TE}
theorem xb (hu:X.A.units+1<cLine) (ho:PE X o td) (hi:PE X i ty) (hs:x9 i):PE X (.Subscript o i pos) (AQ td ty):=by
 intro pins s σ H Q I h
 refine w6 PySem.F.slot_dict_getitem.lookup hs (aE (ho pins s σ H _ I h) λu s1 ⟨x,H1,I1,rx,q1⟩=>aE (hi pins s1 σ H1 _ I1 q1) λiv s2 ⟨y,H2,I2,ry,a,v,ex,g,q2⟩=>?_)
 subst ex
 obtain rfl:u=Value.ref a:=rx
 exact ⟨o9 I2 g,sM hu I2 g ry λw' s3 I3 iH=>⟨v,H2,I3,iH,q2⟩⟩
theorem lz (hu:X.A.units+1<cLine) (ho:PE X o td) (hi:PE X i ty) (hv:PE X value tv) (hs:swapsWith value (some (.Subscript o i pos')) pos.line X.env=pure false) :
 PS X (.Assign [.Subscript o i pos'] value pos) (AR td ty tv):=by
 intro pins s σ H D I h
 refine wpAny_Assign_Subscript (aE (hv pins s σ H _ I h) λr s1 ⟨v,H1,I1,rv,q1⟩=>aE (ho pins s1 σ H1 _ I1 q1) λu s2 ⟨x,H2,I2,rx,q2⟩=>aE (hi pins s2 σ H2 _ I2 q2) λiv s3 ⟨y,H3,I3,ry,a,H4,ex,g,q3⟩=>?_) hs
 subst ex
 obtain rfl:u=Value.ref a:=rx
 exact sN hu I3 g ry rv λs4 I4=>⟨σ,H4,I4,q3⟩
end
theorem uW {P:Program}{w:World}{H:Hp}(h:Heap) (hb:sysModules<h.objs.size):aT P w H (h.push { cls:=.type "dict",data:=.dict #[] }) h.objs.size (.dK []):=
 ⟨Nat.zero_le _,beq_eq_false_iff_ne.mpr (Ne.symm (Nat.ne_of_lt hb)),[],.nil,Heap.DictOf.new h⟩
theorem uX {P:Program}{w:World}{H:Hp}(h:Heap) (hb:sysModules<h.objs.size):aT P w H (h.push { cls:=.type "dict",data:=.dict #[] }) h.objs.size (.dT []):=
 ⟨Nat.zero_le _,beq_eq_false_iff_ne.mpr (Ne.symm (Nat.ne_of_lt hb)),[],.nil,_,#[],0,Heap.get?_push_size _ rfl,⟨rfl,rfl,rfl⟩,rfl,rfl,List.nodup_nil⟩
def ya:TE:=λ_ H Q=>∀p,H p=none->Q (.ref p) (upd H p (.dT []))
section
variable {X:Cx}{pos:Pos}
theorem nu:PE X (.Dict [] [] pos) ya:=λpins s σ H Q I h=>
 wpAny_Dict_empty ⟨.ref s.heap.objs.size,_,I.laid (a:=s.heap.objs.size) (o:=.dT []) (t':=s.toks) (λ_ _ q=>Heap.get?_push_of_some _ q) (Nat.le_refl _) (uX s.heap I.big),rfl,h _ (I.hok.fresh (Nat.le_refl _))⟩
end
def nv:List (TE×TE)->St->Hp->(List (V×V)->Hp->Prop)->Prop
 | [],_,H,Q=>Q [] H
 | (tk,tv)::r,σ,H,Q=>tk σ H λx H1=>tv σ H1 λy H2=>nv r σ H2 λps H3=>Q ((x,y)::ps) H3
abbrev VV:List (V×V)->List (Value×Value)->Prop:=Paired λp q=>RelV p.1 q.1/\RelV p.2 q.2
def vR (X:Cx) (pos:Pos) (keys:List (Option Expr)) (values:List Expr) (j8:List (TE×TE)):Prop:=
 ∀(pins:List (Addr×Obj)) (s:Shared) (σ:St) (H:Hp) (Q:List (V×V)->Hp->Prop),Inv X pins σ H s->nv j8 σ H Q->
  wpAny (model X.prog X.w) X.A (evalPairs (pairTrees keys values X.env pos)) (λvs s'=>∃ps H',Inv X pins σ H' s'/\VV ps vs/\Q ps H') X.xe s
theorem xc {X:Cx}{pos:Pos} : vR X pos [] [] []:=λpins s σ H Q I h=>pairTrees_nil_walk ⟨[],H,I,.nil,h⟩
theorem ny {X:Cx}{pos:Pos}{k v:Expr}{ks:List (Option Expr)}{vs:List Expr}{tk tv:TE}{j8:List (TE×TE)}(hk:PE X k tk) (hv:PE X v tv) (hr:vR X pos ks vs j8) :
 vR X pos (some k::ks) (v::vs) ((tk,tv)::j8):=λpins s σ H Q I h=>
 pairTrees_cons_walk (aE (hk pins s σ H _ I h) λu s1 ⟨x,H1,I1,rx,q1⟩=>aE (hv pins s1 σ H1 _ I1 q1) λw2 s2 ⟨y,H2,I2,ry,q2⟩=>
  aE (hr pins s2 σ H2 _ I2 q2) λws s3 ⟨ps,H3,I3,rel,q3⟩=>⟨(x,y)::ps,H3,I3,.cons ⟨rx,ry⟩ rel,q3⟩)
def cU (kvs more:List (Key×V)):List (Key×V):=more.foldl (λacc kv=>putK acc kv.1 kv.2) kvs
theorem KV.merge:∀{more:List (Key×V)}{rs:List (Key×Value)}{kvs:List (Key×V)}{vs:List (Key×Value)},KV more rs->KV kvs vs->KV (cU kvs more) (merged vs rs):=by
 intro more rs kvs vs r
 unfold KV at r
 induction r generalizing kvs vs with
 | nil=>intro q; exact q
 | @cons p q ps qs h t ih=>
  intro r0
  have e:KV (putK kvs p.1 p.2) (stored vs q.1 q.2):=by
   have:=r0.put p.1 h.2
   rw [← h.1]; exact this
  exact ih e
theorem eV:∀(more kvs:List (Key×V)),(cU kvs more).length<=kvs.length+more.length
 | [],kvs=>by show kvs.length<=kvs.length+0; omega
 | p::r,kvs=>by
  have h1:=eV r (putK kvs p.1 p.2)
  have h2:=eF kvs p.1 p.2
  show (cU (putK kvs p.1 p.2) r).length<=_
  rw [List.length_cons]; omega
theorem j9 {P:Program}{w:World} : ∀{kvs:List (Key×V)}{ws:List (Value×Value)},VV (kvs.map λkv=>(kV kv.1,kv.2)) ws->∃rs,Carries (bb P w) ws rs/\KV kvs rs
 | [],_,r=>by rw [List.map_nil] at r; cases r; exact ⟨[],True.intro,.nil⟩
 | p::kvs,_,r=>by
  rw [List.map_cons] at r
  cases r with
  | @cons a b as bs h t=>
   obtain ⟨rs,c,q⟩:=j9 (P:=P) (w:=w) t
   obtain ⟨b1,b2⟩:=b
   exact ⟨(p.1,b2)::rs,⟨i6 h.1,rfl,c⟩,.cons ⟨rfl,h.2⟩ q⟩
def AS (j8:List (TE×TE)):TE:=λσ H Q=>∀p,H p=none->nv j8 σ (upd H p (.dK [])) λps H2=>H2 p=some (.dK [])/\∃kvs:List (Key×V),ps=kvs.map (λkv=>(kV kv.1,kv.2))/\kvs.length<=15/\Q (.ref p) (upd H2 p (.dK (cU [] kvs)))
theorem xf {X:Cx}{pos:Pos}{keys:List (Option Expr)}{values:List Expr}{j8:List (TE×TE)}(h:vR X pos keys values j8) (jB:keys.all (·.isSome)=true) (hl:keys.length=values.length) (h0:keys≠[])
 (G5:keys.length<=15):PE X (.Dict keys values pos) (AS j8):=by
 intro pins s σ H Q I q
 have hn:=I.hok.fresh (Nat.le_refl s.heap.objs.size)
 have I1:=I.laid (a:=s.heap.objs.size) (o:=.dK []) (h':=s.heap.push { cls:=.type "dict",data:=.dict #[] }) (t':=s.toks) (λ_ _ q=>Heap.get?_push_of_some _ q) (Nat.le_refl _) (uW s.heap I.big)
 refine wpAny_Dict_walk (knd:=bb X.prog X.w) jB hl h0 G5 (aE (h pins _ σ _ _ I1 (q _ hn)) λws s2 ⟨ps,H2,I2,rel,e,kvs,ep,lk,q2⟩=>?_)
 subst ep
 obtain ⟨rs,c,rk⟩:=j9 (P:=X.prog) (w:=X.w) rel
 obtain ⟨z,hd,Lz,r0,dd⟩:=vQ I2.hok e
 cases r0
 refine ⟨rs,c,dd,λh' j7 hs=>⟨.ref s.heap.objs.size,_,?_,rfl,q2⟩⟩
 have hz:(cU [] kvs).length<=sizeLine:=by
  have h1:=eV kvs []
  rw [List.length_nil] at h1
  rw [sizeLine_eq]; omega
 have he:∃q,h'.get? s.heap.objs.size=some q:=let ⟨q,_,_,hq,_⟩:=j7; ⟨q,hq⟩
 exact i7 I2 (by rw [e]; exact True.intro) hs he (nr hz hd (rk.merge .nil) j7)
structure M1 (X:Cx) (o:Expr) (m:Str) (apos:Pos) (e:Expr) (cN:Pos):Prop where
 base:attributeBase o m X.env (eval o X.env)=eval o X.env
 ka:((backTo cN (starEach [e] X.env)).all (λx=>!x.1) && (backToKw cN (keywordEach [] X.env)).all (λx=>x.1.isSome)
  && decide (([e]:List Expr).length+([]:List Keyword).length+(if ([]:List Keyword).isEmpty then 0 else 1)<30))=true
 line:(apos.endLine == cN.line)=true
 trees:backTo cN (starEach [e] X.env)=[(false,eval e X.env)]
def Ck (H:Hp) (a:Addr):Prop:=(∃kvs,Rd H a (.dK kvs))\/∃kvs,Rd H a (.dT kvs)
theorem yb {X:Cx}{pins:List (Addr×Obj)}{σ:St}{H:Hp}{s:Shared}{a:Addr}(I:Inv X pins σ H s) (d:Ck H a) :
 s.TypeIs (.ref a) "dict" /\ (∀b,Value.ref a=.ref b->∃ob,s.heap.get? b=some ob/\ob.dict=none)/\(a == sysModules)=false:=by
 rcases d with ⟨kvs,e⟩ | ⟨kvs,e⟩
 . obtain ⟨_,hd,vs,_,dd⟩:=j4 I.hok e
   refine ⟨dd.typeIs,λb q=>?_,hd⟩
   cases q
   obtain ⟨ob,_,_,h1,h2,_⟩:=dd
   exact ⟨ob,h1,h2.2.1⟩
 . obtain ⟨_,hd,xs,_,dd⟩:=j6 I.hok e
   refine ⟨dd.typeIs,λb q=>?_,hd⟩
   cases q
   obtain ⟨ob,_,_,h1,h2,_⟩:=dd
   exact ⟨ob,h1,h2.2.1⟩
section
variable {X:Cx}{pins:List (Addr×Obj)}{σ:St}{H:Hp}{s:Shared}{a:Addr}{y d:V}{u r:Value}{o:Option V}{A:Around}{E:Value->Shared->Prop}
theorem yc {Q:Value->Shared->Prop}(hu:A.units+1<cLine) (I:Inv X pins σ H s) (g:ef H a y o) (ry:RelV y u) (h:∀w' s',Inv X pins σ H s'->RelV (o.getD .aR) w'->Q w' s') :
 wpAny (model X.prog X.w) A (call (.builtin "dict.get") [.ref a,u]) Q E s:=by
 rcases g with ⟨kvs,k,e,ey,l⟩ | ⟨kvs,k,b,e,ey,eb,l⟩
 . subst ey
   obtain ⟨z,hd,vs,rel,dd⟩:=j4 I.hok e
   refine call_meetsIn PySem.F.slot_dict_get dd.typeIs PySem.F.entry_dict_get (PySem.F.args_dict_get_2 _ _) (meets_dict_get (bb X.prog X.w) a (i6 ry) hd) ⟨_,dd.mapOf,h _ _ (I.tok _) ?_⟩
   rw [l]
   exact (rel.val k).getD rfl
 . subst ey
   cases (show u=Value.ref b from ry)
   obtain ⟨z,hd,xs,rel,dd⟩:=j6 I.hok e
   refine call_meetsIn PySem.F.slot_dict_get dd.typeIs PySem.F.entry_dict_get (PySem.F.args_dict_get_2 _ _) (meetsH_dict_get (tupleKind (bb X.prog X.w)) a b hd) ⟨tupleKind_room_in1 hu,k,xs,j5 I.hok eb,dd,h _ _ (I.tok _) ?_⟩
   rw [l]
   exact (rel.val k).getD rfl
end
def yd (td ty:TE):TE:=λσ H Q=>td σ H λx H1=>∃a,x=.ref a/\Ck H1 a/\ty σ H1 λy H2=>∃o,ef H2 a y o/\Q (o.getD .aR) H2
section
variable {X:Cx}{o e f:Expr}{apos cN:Pos}{td ty tx:TE}
theorem jC (hu:X.A.units+1<cLine) (ho:PE X o td) (he:PE X e ty) (m:M1 X o "get" apos e cN):PE X (.Call (.Attribute o "get" apos) [e] [] cN) (yd td ty):=by
 intro pins s σ H Q I h
 refine wpAny_Call_method m.base m.ka m.line PySem.F.plainAttrs_dict PySem.F.slot_dict_get PySem.F.type_dict_get (aE (ho pins s σ H _ I h) λu s1 ⟨x,H1,I1,rx,a,ex,d,q1⟩=>?_)
 subst ex
 obtain rfl:u=Value.ref a:=rx
 obtain ⟨t1,t2,_⟩:=yb I1 d
 refine ⟨t1,t2,?_⟩
 rw [m.trees]
 refine Calls.callWith_builtin rfl (Calls.evalArgs_plain (Calls.spliced_cons (aE (he pins s1 σ H1 _ I1 q1) λiv s2 ⟨y,H2,I2,ry,ov,g,q2⟩=>Calls.spliced_nil ?_)))
 exact yc hu I2 g ry λw' s3 I3 iH=>⟨_,H2,I3,iH,q2⟩
end
section
variable {X:Cx}{pins:List (Addr×Obj)}{σ:St}{H:Hp}{s:Shared}{a:Addr}{kvs:List (Key×V)}{A:Around}{E:Value->Shared->Prop}
end
section
variable {X:Cx}{pins:List (Addr×Obj)}{σ:St}{H:Hp}{s:Shared}{a:Addr}{y:V}{u:Value}{A:Around}{E:Value->Shared->Prop}
end
end L2
namespace HT
open PySem PyProof.Rows
section
open PySem.SeqAt
open PySem.AutoSeq1 (wpAny_loadPart')
open PySem.MeetsSeq PySem.MeetsSeq2 PySem.MeetsSeq3
end
section
variable {prog:Program}{w:World}{A:Around}{E:Value->Shared->Prop}{s:Shared}
def eM (n d:Nat):Option Int->Nat
 | none=>d
 | some v=>if v<0 then (v+(n:Int)).toNat else min v.toNat n
theorem nz (n d:Nat):eM n d none=d:=rfl
theorem pM (n d k:Nat):eM n d (some (k:Int))=min k n:=by
 show (if (k:Int)<0 then ((k:Int)+(n:Int)).toNat else min (k:Int).toNat n)=min k n
 rw [if_neg (by omega),Int.toNat_natCast]
end
end HT
namespace L2
open PySem PySem.Spec PyProof.Rows
abbrev TO:=St->Hp->(Option Int->Hp->Prop)->Prop
def PO (X:Cx) (e:Option Expr) (t:TO):Prop:=
 ∀(pins:List (Addr×Obj)) (s:Shared) (σ:St) (H:Hp) (Q:Option Int->Hp->Prop),Inv X pins σ H s->t σ H Q->
  wpAny (model X.prog X.w) X.A (evalPart e X.env) (λu s'=>∃o H',Inv X pins σ H' s'/\IsPart u o/\Q o H') X.xe s
def xg:TO:=λ_ H Q=>Q none H
def AU (t:TE):TO:=λσ H Q=>t σ H λx H1=>∃i,x=.int i/\Q (some i) H1
section
variable {X:Cx}{e:Expr}{te:TE}{lo hi:Option Expr}{tl th:TO}{pos p2:Pos}
theorem dv:PO X none xg:=by
 intro pins s σ H Q I h
 rw [evalPart_none]
 exact wpAny_pure ⟨none,H,I,.none,h⟩
theorem cK (h:PE X e te):PO X (some e) (AU te):=by
 intro pins s σ H Q I hw
 rw [evalPart_some]
 refine aE (h pins s σ H _ I hw) λu s1 ⟨x,H1,I1,r1,q1⟩=>?_
 obtain ⟨i,rfl,q⟩:=q1
 obtain ⟨t,rfl⟩:=r1
 exact ⟨some i,H1,I1,.int i t,q⟩
def ye (X:Cx) (r:V->Option Int->Option Int->Hp->VK->Prop):Prop:=
 ∀(pins:List (Addr×Obj)) (s:Shared) (σ:St) (H:Hp) (x:V) (v vl vu:Value) (lo hi:Option Int) (sl:Addr) (Q:VK),Inv X pins σ H s->RelV x v->s.heap.IsSliceOf sl vl vu .none->IsPart vl lo->IsPart vu hi->r x lo hi H Q->
  ∃T id,typeLookup (.type T) "__getitem__" = pure (some (.builtin id))/\s.TypeIs v T/\wpAny (model X.prog X.w) X.A (getItem v (.ref sl)) (EP X pins σ Q) X.xe s
def G6 (r:V->Option Int->Option Int->Hp->VK->Prop) (te:TE) (tl th:TO):TE:=λσ H Q=>te σ H λx H1=>tl σ H1 λl H2=>th σ H2 λu H3=>r x l u H3 Q
theorem cF {r:V->Option Int->Option Int->Hp->VK->Prop}(hr:ye X r) (he:PE X e te) (hl:PO X lo tl) (hu:PO X hi th):PE X (.Subscript e (.Slice lo hi none p2) pos) (G6 r te tl th):=by
 intro pins s σ H Q I h
 refine Subscript_ (aE (he pins s σ H _ I h) λv s1 ⟨x,H1,I1,r1,q1⟩=>?_)
 refine wpAny_Slice (aE (hl pins s1 σ H1 _ I1 q1) λvl s2 ⟨l,H2,I2,pl,q2⟩=>aE (hu pins s2 σ H2 _ I2 q2) λvu s3 ⟨u,H3,I3,pu,q3⟩=>?_)
 rw [evalPart_none]
 refine wpAny_pure ?_
 have I4:Inv X pins σ H3 { s3 with heap:=s3.heap.push { cls:=.type "slice",data:=.fields #[vl,vu,.none] } }:=I3.kept (t':=s3.toks) λb ob q=>Heap.get?_push_of_some _ q
 obtain ⟨T,id,hT,ht,hg⟩:=hr pins { s3 with heap:=s3.heap.push { cls:=.type "slice",data:=.fields #[vl,vu,.none] } } σ H3 x v vl vu l u s3.heap.objs.size Q I4 r1 (Heap.IsSliceOf.new ..) pl pu q3
 show wpAny (model X.prog X.w) X.A (subscriptTail e (.Slice lo hi none p2) v (.ref s3.heap.objs.size)) (EP X pins σ Q) X.xe { s3 with heap:=s3.heap.push { cls:=.type "slice",data:=.fields #[vl,vu,.none] } }
 exact tail_any (ops:=[.ref s3.heap.objs.size,v]) ht hT hg (by with_unfolding_all rfl)
def cy (xs:List V) (lo hi:Option Int):List V:=(xs.drop (HT.eM xs.length 0 lo)).take (HT.eM xs.length xs.length hi-HT.eM xs.length 0 lo)
theorem pb (xs:List V) (lo hi:Option Int):(cy xs lo hi).length<=xs.length:=by
 unfold cy
 rw [List.length_take,List.length_drop]
 omega
end
end L2
namespace L2
open PySem PySem.Spec PyProof.Rows
def lY (n:Nat) (i:Int):Option Nat:=if 0<=i then (if i<n then some i.toNat else none) else if -(n:Int)<=i then some (i+n).toNat else none
def ij {α:Type}(xs:List α) (i:Int):Option α:=(lY xs.length i).bind λj=>xs[j]?
theorem pN {n:Nat}{i:Int}{j:Nat}(h:lY n i=some j):seqIndex? i n=some j/\j<n /\ -(n:Int)<=i/\i<n:=by
 unfold lY at h
 by_cases h0:0<=i
 . rw [if_pos h0] at h
   by_cases h1:i<n
   . rw [if_pos h1] at h
     have e:i.toNat=j:=Option.some.inj h
     exact ⟨by rw [seqIndex_of h0 h1,e],by omega,by omega,h1⟩
   . rw [if_neg h1] at h; cases h
 . rw [if_neg h0] at h
   by_cases h1 : -(n:Int)<=i
   . rw [if_pos h1] at h
     have e:(i+n).toNat=j:=Option.some.inj h
     exact ⟨by rw [seqIndex_neg (by omega) h1,e],by omega,h1,by omega⟩
   . rw [if_neg h1] at h; cases h
theorem lA {α:Type}{xs:List α}{i:Int}{v:α}(h:ij xs i=some v):∃j,seqIndex? i xs.length=some j/\xs[j]?=some v/\j<xs.length /\ -(xs.length:Int)<=i/\i<xs.length:=by
 unfold ij at h
 cases e:lY xs.length i with
 | none=>rw [e] at h; cases h
 | some j=>
  rw [e] at h
  obtain ⟨h1,h2,h3,h4⟩:=pN e
  exact ⟨j,h1,h,h2,h3,h4⟩
theorem aF {α:Type}{xs:List α}{j:Nat}{v:α}(h:xs[j]?=some v):ij xs (j:Int)=some v:=by
 have hj:j<xs.length:=(List.getElem?_eq_some_iff.mp h).1
 have e:lY xs.length (j:Int)=some j:=by
  unfold lY
  rw [if_pos (by omega),if_pos (by omega)]; simp
 unfold ij; rw [e]; exact h
def xh (b:Expr):Prop:=∀o i,subscripted b false o i=operate [o,i] (getItem o i)
def vS (X:Cx) (r:R2):Prop:=
 ∀(value slice:Expr) (pins:List (Addr×Obj)) (s:Shared) (σ:St) (H:Hp) (x y:V) (v u:Value) (Q:VK),Inv X pins σ H s->RelV x v->RelV y u->r x y H Q->
  subscripted slice false v u=operate [v,u] (getItem v u)->wpAny (model X.prog X.w) X.A (subscriptTail value slice v u) (EP X pins σ Q) X.xe s
def G7 (X:Cx) (id:String) (r:V->List V->Hp->VK->Prop):Prop:=
 ∀(pins:List (Addr×Obj)) (s:Shared) (σ:St) (H:Hp) (x:V) (xs:List V) (v:Value) (us:List Value) (Q:VK),Inv X pins σ H s->RelV x v->Vals xs us->r x xs H Q->
  wpAny (model X.prog X.w) X.A (call (.builtin id) (v::us)) (EP X pins σ Q) X.xe s
section
variable {X:Cx}{a b:Expr}{ta tb:TE}{pos:Pos}
theorem aM {r:R2}(hr:vS X r) (ha:PE X a ta) (hb:PE X b tb) (hs:xh b):PE X (.Subscript a b pos) (so r ta tb):=by
 intro pins s σ H Q I h
 exact Subscript_ (uQ ha hb I h λv u s2 x y H2 I2 rx ry q=>hr a b pins s2 σ H2 x y v u Q I2 rx ry q (hs _ _))
def eg (K:W.Frag):R2:=λx y H Q=>∃p xs i v,x=.ref p/\y=.int i/\ay K H p xs/\ij xs i=some v/\Q v H
def cm (K:W.Frag):R2:=λx y H Q=>∃p xs i v,x=.ref p/\y=.int i/\ba K H p xs/\ij xs i=some v/\Q v H
def Eu:R2:=λx y H Q=>∃z i c,x=.str z/\y=.int i/\z.length<=sizeLine/\ij z.cps.toList i=some c/\Q (.str ⟨#[c]⟩) H
theorem br:vS X (eg X.K):=by
 intro value slice pins s σ H x y v u Q I rx ry h hs
 obtain ⟨p,xs,i,z,rfl,rfl,hq,he,q⟩:=h
 cases rx
 obtain ⟨t,rfl⟩:=ry
 obtain ⟨its,r,pl,hz⟩:=I.list hq
 obtain ⟨j,h1,h2,h3,h4,h5⟩:=lA he
 obtain ⟨w,ew,iH⟩:=r.get h2
 have hl:=r.length
 have hn:=iC
 have fin:EP X pins σ Q w s:=⟨z,H,I,iH,q⟩
 by_cases h0:0<=i
 . have hj:i.toNat=j:=by
    rw [seqIndex_of h0 h5] at h1
    exact Option.some.inj h1
   exact item_listR pl.isList h0 (by omega) (by rw [hj]; simpa using ew) fin hs
 . have hj:(i+(its.toArray.size:Int)).toNat=j:=by
    rw [seqIndex_neg (by omega) h4] at h1
    rw [List.size_toArray,← hl]
    exact Option.some.inj h1
   exact subscriptTail_builtinR (x:=w) pl.isList.typeIs slot_list_getitem.lookup
    (wpAny_getItem_list_neg (Q:=λr s'=>r=w/\EP X pins σ Q r s') pl.isList (by omega) (by rw [List.size_toArray] <;> omega) (by omega) (by rw [hj]; simpa using ew) ⟨rfl,fin⟩) hs
theorem bo:vS X (cm X.K):=by
 intro value slice pins s σ H x y v u Q I rx ry h hs
 obtain ⟨p,xs,i,z,rfl,rfl,hq,he,q⟩:=h
 cases rx
 obtain ⟨t,rfl⟩:=ry
 obtain ⟨its,r,pl,hz⟩:=I.tuple hq
 obtain ⟨j,h1,h2,h3,h4,h5⟩:=lA he
 obtain ⟨w,ew,iH⟩:=r.get h2
 have hl:=r.length
 have hn:=iC
 have fin:EP X pins σ Q w s:=⟨z,H,I,iH,q⟩
 exact subscriptTail_builtinR (x:=w) pl.typeIs slot_tuple_getitem.lookup
  (getItem_tuple (j:=j) (Q:=λr s'=>r=w/\EP X pins σ Q r s') pl (by omega) (by omega) (by rw [List.size_toArray,← hl]; exact h1) (by simpa using ew) ⟨rfl,fin⟩) hs
theorem yf:vS X Eu:=by
 intro value slice pins s σ H x y v u Q I rx ry h hs
 obtain ⟨z,i,c,rfl,rfl,hz,he,q⟩:=h
 obtain ⟨t,rfl⟩:=rx
 obtain ⟨t',rfl⟩:=ry
 obtain ⟨j,h1,h2,h3,h4,h5⟩:=lA he
 have hl:z.cps.toList.length=z.length:=by simp [Str.length]
 rw [hl] at h1 h4 h5
 have hn:=iC
 exact tail_any (typeIs_str s z t) slot_str_getitem.lookup (getItem_str (c:=c) (by
  have e1:decide (i < -(2 ^ 63:Int))=false:=decide_eq_false (by omega)
  have e2:decide (i≥2 ^ 63)=false:=decide_eq_false (by omega)
  rw [e1,e2,Bool.or_false]) (by rw [h1]; simpa using h2) ⟨.str ⟨#[c]⟩,H,I.tok _,⟨_,rfl⟩,q⟩) hs
theorem qP (its:List Value) (n j:Nat) (u:Value):Obj.mapSeq (·.setIfInBounds j u) { cls:=.type "list",data:=.seq its.toArray n } = { cls:=.type "list",data:=.seq (its.set j u).toArray n }:=by
 simp [Obj.mapSeq]
theorem Inv.lst {pins:List (Addr×Obj)}{σ:St}{H:Hp}{s:Shared}{p:Addr}{xs:List V}(I:Inv X pins σ H s) (h:H p=some (.lst xs)) :
 ∃(its:List Value) (n:Nat),Vals xs its/\s.heap.get? p=some { cls:=.type "list",data:=.seq its.toArray n } /\ xs.length<=sizeLine:=by
 obtain ⟨z,its,n,r,e⟩:=I.hok p _ h
 exact ⟨its,n,r,e,z⟩
theorem Inv.yg {pins:List (Addr×Obj)}{σ:St}{H:Hp}{s:Shared}{p:Addr}{xs ys:List V}{its its':List Value}{n n':Nat}{f:Obj->Obj}(I:Inv X pins σ H s) (h:H p=some (.lst xs))
 (ho:s.heap.get? p=some { cls:=.type "list",data:=.seq its.toArray n }) (hf:f { cls:=.type "list",data:=.seq its.toArray n } = { cls:=.type "list",data:=.seq its'.toArray n' }) (r:Vals ys its') (hz:ys.length<=sizeLine) (t:Nat) :
 Inv X pins σ (upd H p (.lst ys)) { s with heap:=s.heap.update p f,toks:=t }:=by
 have e:(s.heap.update p f).get? p=some { cls:=.type "list",data:=.seq its'.toArray n' }:=by
  rw [Heap.get?_update_self f ho (by rw [hf] <;> rfl),hf]
 refine I.write (x:=p) (e:=p) (by rw [h]; trivial) (.inl rfl) (λb u hb q=>(Heap.get?_update_other _ _ (Ne.symm hb)).trans q) ⟨_,e⟩ ?_
 exact ⟨hz,its',n',r,e⟩
def AV:V->V->V->Hp->(Hp->Prop)->Prop:=λo i v H Q=>∃p xs k j,o=.ref p/\i=.int k/\H p=some (.lst xs)/\lY xs.length k=some j/\Q (upd H p (.lst (xs.set j v)))
theorem set_list:xV X AV:=by
 intro pins s σ H o i v ov iv u Q I ro ri rv h
 obtain ⟨p,xs,k,j,rfl,rfl,hp,hj,q⟩:=h
 cases ro
 obtain ⟨t,rfl⟩:=ri
 obtain ⟨its,n,r,ho,hz⟩:=I.lst hp
 obtain ⟨h1,h2,h3,h4⟩:=pN hj
 have hl:=r.length
 have hn:=iC
 have I':Inv X pins σ (upd H p (.lst (xs.set j v))) { s with heap:=s.heap.update p (Obj.mapSeq (·.setIfInBounds j u)) } :=
  I.yg hp ho (qP its n j u) (r.set rv j) (by rw [List.length_set]; exact hz) s.toks
 by_cases h0:0<=k
 . have hk:k.toNat=j:=by
    rw [seqIndex_of h0 h4] at h1
    exact Option.some.inj h1
   exact W.ki_setAt ho h0 (by omega) (by rw [List.size_toArray,← hl]; exact h4) (by rw [hk]; exact ⟨_,I',q⟩)
 . have hk:(k+(its.toArray.size:Int)).toNat=j:=by
    rw [seqIndex_neg (by omega) h3] at h1
    rw [List.size_toArray,← hl]
    exact Option.some.inj h1
   exact W.ki_setBack ho (by omega) (by rw [List.size_toArray,← hl]; exact h3) (by omega) (by rw [hk]; exact ⟨_,I',q⟩)
theorem nB (lo hi:Option Int) (n:Nat):(sliceBounds lo hi none n).1=((HT.eM n 0 lo:Nat):Int)/\(sliceBounds lo hi none n).2.1=((HT.eM n n hi:Nat):Int)/\(sliceBounds lo hi none n).2.2=1:=by
 refine ⟨?_,?_,rfl⟩
 . cases lo with
   | none=>simp [sliceBounds,HT.eM]
   | some i=>
    simp only [sliceBounds,HT.eM,Option.getD_none,show (1:Int)>0 by decide,if_true]
    by_cases h:i<0
    . simp only [h,if_true] <;> omega
    . simp only [h,if_false] <;> omega
 . cases hi with
   | none=>simp [sliceBounds,HT.eM]
   | some i=>
    simp only [sliceBounds,HT.eM,Option.getD_none,show (1:Int)>0 by decide,if_true]
    by_cases h:i<0
    . simp only [h,if_true] <;> omega
    . simp only [h,if_false] <;> omega
theorem mn (its:List Value) (lo hi:Option Int):slicePick its.toArray lo hi none=((its.drop (HT.eM its.length 0 lo)).take (HT.eM its.length its.length hi-HT.eM its.length 0 lo)).toArray:=by
 obtain ⟨h1,h2,h3⟩:=nB lo hi its.toArray.size
 unfold slicePick
 rw [h1,h2,h3]
 simp only [sliceRange_one,pick_run,List.size_toArray] <;> rfl
def Ew (K:W.Frag):V->Option Int->Option Int->Hp->VK->Prop:=λx lo hi H Q=>∃a xs,x=.ref a/\ay K H a xs/\∀p,H p=none->Q (.ref p) (upd H p (.lst (cy xs lo hi)))
theorem gv:ye X (Ew X.K):=by
 intro pins s σ H x v vl vu lo hi sl Q I rx hs pl pu h
 obtain ⟨a,xs,rfl,hx,q⟩:=h
 cases rx
 obtain ⟨its,r,ht,hz⟩:=I.list hx
 have hlen:=r.length
 refine ⟨"list",_,slot_list_getitem.lookup,ht.isList.typeIs,?_⟩
 refine wpAny_getItem_list_slice ht.isList hs pl pu .none (by simp) ?_ (by rw [List.size_toArray] <;> omega)
 rw [mn,← hlen]
 refine ⟨.ref s.heap.objs.size,_,I.laid (t':=s.toks) (o:=.lst (cy xs lo hi)) (λb ob q=>Heap.get?_push_of_some _ q) (Nat.le_refl _) ?_,rfl,q _ (I.hok.fresh (Nat.le_refl _))⟩
 exact ⟨Nat.le_trans (pb xs lo hi) hz,_,0,(r.drop (HT.eM xs.length 0 lo)).take (HT.eM xs.length xs.length hi-HT.eM xs.length 0 lo),Heap.get?_push_size _ rfl⟩
def fg:V->Bool
 | .aR=>true
 | .bl _=>true
 | .int _=>true
 | .str _=>true
 | _=>false
def il:V->V->Bool
 | .aR,.aR=>true
 | .bl a,.bl b=>a == b
 | .bl a,.int b=>(if a then 1 else 0) == b
 | .int a,.bl b=>a == (if b then 1 else 0)
 | .int a,.int b=>a == b
 | .str a,.str b=>a == b
 | _,_=>false
theorem sO {A:Around}{s:Shared}{y x:V}{u v:Value}(ry:RelV y u) (rx:RelV x v) (fy:fg y=true) (fx:fg x=true):SeqAt.EqAt A s u v (il y x):=by
 cases y with
 | aR=>
  cases ry
  cases x with
  | aR=>cases rx; exact SeqAt.EqAt.same _
  | bl b=>cases rx; exact SeqAt.EqAt.none_bool b
  | int b=>obtain ⟨t,rfl⟩:=rx; exact SeqAt.EqAt.none_int b t
  | str b=>obtain ⟨t,rfl⟩:=rx; exact SeqAt.EqAt.none_str b t
  | _=>exact absurd (show false=true from fx) Bool.false_ne_true
 | bl a=>
  cases ry
  cases x with
  | aR=>cases rx; exact SeqAt.EqAt.bool_none a
  | bl b=>cases rx; exact SeqAt.EqAt.bool_bool a b
  | int b=>obtain ⟨t,rfl⟩:=rx; exact SeqAt.EqAt.bool_int a b t
  | str b=>obtain ⟨t,rfl⟩:=rx; exact SeqAt.EqAt.bool_str a b t
  | _=>exact absurd (show false=true from fx) Bool.false_ne_true
 | int a=>
  obtain ⟨t',rfl⟩:=ry
  cases x with
  | aR=>cases rx; exact SeqAt.EqAt.int_none a t'
  | bl b=>cases rx; exact SeqAt.EqAt.int_bool a t' b
  | int b=>obtain ⟨t,rfl⟩:=rx; exact SeqAt.EqAt.int_int a t' b t
  | str b=>obtain ⟨t,rfl⟩:=rx; exact SeqAt.EqAt.int_str a t' b t
  | _=>exact absurd (show false=true from fx) Bool.false_ne_true
 | str a=>
  obtain ⟨t',rfl⟩:=ry
  cases x with
  | aR=>cases rx; exact SeqAt.EqAt.str_none a t'
  | bl b=>cases rx; exact SeqAt.EqAt.str_bool a t' b
  | int b=>obtain ⟨t,rfl⟩:=rx; exact SeqAt.EqAt.str_int a t' b t
  | str b=>obtain ⟨t,rfl⟩:=rx; exact SeqAt.EqAt.str_str a t' b t
  | _=>exact absurd (show false=true from fx) Bool.false_ne_true
 | _=>exact absurd (show false=true from fy) Bool.false_ne_true
def kb (x:V) (u:Value):Bool:=match u with
 | .none=>il .aR x
 | .bool b=>il (.bl b) x
 | .int i _=>il (.int i) x
 | .str z _=>il (.str z) x
 | _=>false
theorem sP {x y:V}{u:Value}(r:RelV y u) (f:fg y=true):kb x u=il y x:=by
 cases y with
 | aR=>cases r; rfl
 | bl b=>cases r; rfl
 | int i=>obtain ⟨t,rfl⟩:=r; rfl
 | str z=>obtain ⟨t,rfl⟩:=r; rfl
 | _=>exact absurd (show false=true from f) Bool.false_ne_true
theorem lB {x:V} : ∀{xs:List V}{us:List Value},Vals xs us->xs.all fg=true->us.any (kb x)=xs.any λy=>il y x
 | _,_,.nil,_=>rfl
 | y::xs,u::us,.cons r t,f=>by
  rw [List.all_cons,Bool.and_eq_true] at f
  rw [List.any_cons,List.any_cons,sP r f.1,lB t f.2]
theorem jD {A:Around}{s:Shared}{x:V}{v:Value}(rx:RelV x v) (fx:fg x=true):∀{xs:List V}{us:List Value},Vals xs us->xs.all fg=true->∀u∈us,SeqAt.EqAt A s u v (kb x u)
 | _,_,.nil,_=>λu hu=>by cases hu
 | y::xs,u::us,.cons r t,f=>λu' hu=>by
  rw [List.all_cons,Bool.and_eq_true] at f
  rcases List.mem_cons.mp hu with rfl | hu
  . rw [sP r f.1]; exact sO r rx f.1 fx
  . exact jD rx fx t f.2 u' hu
def vT (x:V) (xs:List V):Bool:=xs.any λy=>il y x
def Cm (K:W.Frag) (neg:Bool):R2:=λx y H Q=>∃p xs,y=.ref p/\(ay K H p xs\/ba K H p xs)/\fg x=true/\xs.all fg=true/\Q (.bl (if neg then !vT x xs else vT x xs)) H
theorem nE:cI X (compareOp .NotIn) (Cm X.K true):=by
 intro pins s σ H x y v u Q I rx ry h
 obtain ⟨p,xs,rfl,hq,fx,fs,q⟩:=h
 cases ry
 rcases hq with hq | hq
 . obtain ⟨its,r,pl,hz⟩:=I.list hq
   refine SeqAt.notIn_listAt (kb x) pl.isList (λw hw=>jD rx fx r fs w (by simpa using hw)) ⟨.bl _,H,I,rfl,?_⟩
   rw [show its.toArray.any (kb x)=its.any (kb x) by simp,lB r fs]
   exact q
 . obtain ⟨its,r,pl,hz⟩:=I.tuple hq
   refine SeqAt.notIn_tupleAt (kb x) pl (λw hw=>jD rx fx r fs w (by simpa using hw)) ⟨.bl _,H,I,rfl,?_⟩
   rw [show its.toArray.any (kb x)=its.any (kb x) by simp,lB r fs]
   exact q
theorem aP:ff X (.builtin "len") (λxs H Q=>∃p ys,xs=[.ref p]/\(ay X.K H p ys\/ba X.K H p ys)/\Q (.int ys.length) H):=by
 intro pins s σ H xs us Q I r h
 obtain ⟨p,ys,rfl,hq,q⟩:=h
 obtain ⟨u,rfl,rx⟩:=vals1 r
 cases rx
 have hn:=iC
 rcases hq with hq | hq
 . obtain ⟨its,r',pl,hz⟩:=I.list hq
   have hlen:=r'.length
   exact Calls.call_len_list pl.isList (by simp only [List.size_toArray] <;> omega) ⟨.int ys.length,H,I.tok _,⟨s.toks+1,by rw [List.size_toArray,hlen]⟩,q⟩
 . obtain ⟨its,r',pl,hz⟩:=I.tuple hq
   have hlen:=r'.length
   exact len_tuple pl (by simp only [List.size_toArray] <;> omega) ⟨.int ys.length,H,I.tok _,⟨s.toks+1,by rw [List.size_toArray,hlen]⟩,q⟩
theorem iJ:ff X (.type "list") (λxs H Q=>∃p ys,xs=[.ref p]/\(ay X.K H p ys\/ba X.K H p ys)/\∀l,H l=none->Q (.ref l) (upd H l (.lst ys))):=by
 intro pins s σ H xs us Q I r h
 obtain ⟨p,ys,rfl,hq,q⟩:=h
 obtain ⟨u,rfl,rx⟩:=vals1 r
 cases rx
 have fin:∀(its:List Value),Vals ys its->ys.length<=sizeLine->∀(h':Heap) (c':Nat),(∀b o',s.heap.get? b=some o'->h'.get? b=some o')->
  h'.get? s.heap.objs.size=some { cls:=.type "list",dict:=none,data:=.seq its.toArray c',slots:=#[] } -> EP X pins σ Q (.ref s.heap.objs.size) { s with heap:=h' }:=λits r' hz h' c' kp e=>
  ⟨.ref s.heap.objs.size,_,I.laid (t':=s.toks) kp (Nat.le_refl _) (show aT X.prog X.w _ h' _ (.lst ys) from ⟨hz,its,c',r',e⟩),rfl,q _ (I.hok.fresh (Nat.le_refl _))⟩
 rcases hq with hq | hq
 . obtain ⟨its,r',pl,hz⟩:=I.list hq
   have hlen:=r'.length
   obtain ⟨o,ho,hc,n,hd⟩:=pl.isList
   exact call_list_seq p (.inl rfl) ho hc hd (λh' c' kp e=>fin its r' hz h' c' kp e) (by simp only [List.size_toArray] <;> omega)
 . obtain ⟨its,r',pl,hz⟩:=I.tuple hq
   have hlen:=r'.length
   obtain ⟨o,ho,hc,n,hd⟩:=pl
   exact call_list_seq p (.inr rfl) ho hc hd (λh' c' kp e=>fin its r' hz h' c' kp e) (by simp only [List.size_toArray] <;> omega)
def Cn (K:W.Frag) (T:String) (x:V) (H:Hp):Prop:=match x with
 | .str _=>T = "str"
 | .int _=>T = "int"
 | .ref p=>(T = "list" /\ ∃xs,ay K H p xs)\/(T = "tuple" /\ ∃o,K.lookup p=some o/\o.cls=.type "tuple" /\ o.dict=none)\/
  (T = "dict" /\ ((∃kvs,H p=some (.dK kvs))\/∃kvs,H p=some (.dT kvs)))\/(T = "set" /\ ∃S n,H p=some (.set S n))
 | _=>False
theorem yh {pins:List (Addr×Obj)}{σ:St}{H:Hp}{s:Shared}{T:String}{x:V}{v:Value}(I:Inv X pins σ H s) (r:RelV x v) (ty:Cn X.K T x H) :
 s.TypeIs v T/\∀a,v=.ref a->∃ob,s.heap.get? a=some ob/\ob.dict=none:=by
 cases x with
 | str z=>
  obtain ⟨t,rfl⟩:=r
  cases (show T = "str" from ty)
  exact ⟨typeIs_str s z t,λ_ e=>nomatch e⟩
 | int i=>
  obtain ⟨t,rfl⟩:=r
  cases (show T = "int" from ty)
  exact ⟨typeIs_int s i t,λ_ e=>nomatch e⟩
 | ref p=>
  cases r
  rcases ty with ⟨rfl,xs,hq⟩ | ⟨rfl,o,hk,hc,hd⟩ | ⟨rfl,hk⟩ | ⟨rfl,S,n,hk⟩
  . obtain ⟨its,_,pl,_⟩:=I.list hq
    refine ⟨pl.isList.typeIs,λa e=>?_⟩
    cases e
    obtain ⟨o,n,e,c,hd,_⟩:=pl
    exact ⟨o,e,hd⟩
  . refine ⟨⟨o,I.cO p o hk,hc⟩,λa e=>?_⟩
    cases e
    exact ⟨o,I.cO _ o hk,hd⟩
  . have z:∃o,s.heap.get? p=some o/\o.ExactDict:=by
     rcases hk with ⟨kvs,hk⟩ | ⟨kvs,hk⟩
     . obtain ⟨_,_,_,_,o,_,_,e,ex,_⟩:=I.hok p _ hk
       exact ⟨o,e,ex⟩
     . obtain ⟨_,_,_,_,o,_,_,e,ex,_⟩:=I.hok p _ hk
       exact ⟨o,e,ex⟩
    obtain ⟨o,e,ex⟩:=z
    refine ⟨⟨o,e,ex.1⟩,λa e2=>?_⟩
    cases e2
    exact ⟨o,e,ex.2.1⟩
  . obtain ⟨o,_,_,_,e,ex,_⟩:=I.hok p _ hk
    refine ⟨⟨o,e,ex.1⟩,λa e2=>?_⟩
    cases e2
    exact ⟨o,e,ex.2.1⟩
 | _=>exact False.elim ty
def G8 (K:W.Frag) (T:String) (r:V->List V->Hp->VK->Prop) (to:TE) (t:TA):TE:=λσ H Q=>to σ H λx H1=>Cn K T x H1/\t σ H1 λxs H2=>r x xs H2 Q
variable {o e:Expr}{es:List Expr}{to:TE}{t:TA}{name:Str}{apos cN:Pos}{T id:String}{r:V->List V->Hp->VK->Prop}
theorem kd (pa:PlainAttrs T) (slot:Slot T name id) (G9:typeOf (.builtin id)=pure (.type "method_descriptor")) (hm:G7 X id r) (ho:PE X o to) (ha:PA X (e::es) t)
 (AW:attributeBase o name X.env (eval o X.env)=eval o X.env:=by rfl)
 (Ex:((backTo cN (starEach (e::es) X.env)).all (λx=>!x.1) && (backToKw cN (keywordEach [] X.env)).all (λx=>x.1.isSome)
  && decide ((e::es).length+([]:List Keyword).length+(if ([]:List Keyword).isEmpty then 0 else 1)<30))=true:=by rfl)
 (AX:(apos.endLine == cN.line)=true:=by rfl) (hs:starEach (e::es) X.env=(false,eval e X.env)::starEach es X.env:=by rfl) (yi:(backTo cN (starEach es X.env)).any (·.1)=false:=by rfl) :
 PE X (.Call (.Attribute o name apos) (e::es) [] cN) (G8 X.K T r to t):=by
 intro pins s σ H Q I h
 refine wpAny_Call_method_late AW Ex AX rfl (aE (ho pins s σ H _ I h) λv s1 ⟨x,H1,I1,r1,ty,q1⟩=>?_)
 obtain ⟨h1,h2⟩:=yh I1 r1 ty
 refine ⟨T,id,pa,slot,G9,h1,h2,?_⟩
 have hA:=ha cN pins s1 σ H1 _ I1 q1
 rw [hs] at hA ⊢
 refine Calls.callWith_builtin (by show (false || (backTo cN (starEach es X.env)).any (·.1))=false; rw [yi] <;> rfl) (Calls.evalArgs_plain ?_)
 exact aE hA λus s2 ⟨vs,H2,I2,r2,q2⟩=>hm pins s2 σ H2 x vs v us Q I2 r1 r2 q2
end
end L2
namespace L2
open PySem PySem.Spec PyProof.Rows
def vU (X:Cx) (id:String) (r:V->List V->Hp->VK->Prop):Prop:=
 ∀(pins:List (Addr×Obj)) (s:Shared) (σ:St) (H:Hp) (x:V) (xs:List V) (v:Value) (us:List Value) (Q:VK),Inv X pins σ H s->RelV x v->Vals xs us->r x xs H Q->
  wpAny (model X.prog X.w) X.A (call (.builtin id) (v::us)) (EP X pins σ Q) X.xe s
theorem Vals.one:∀{x:V}{us:List Value},Vals [x] us->∃u,us=[u]/\RelV x u
 | _,_,.cons r .nil=>⟨_,rfl,r⟩
section
variable {X:Cx}{pins:List (Addr×Obj)}{σ:St}{H:Hp}{s:Shared}{l b:Addr}{xs ys zs:List V}
theorem Inv.yj {its its':List Value}{n:Nat}{f:Array Value->Array Value}{t':Nat}(I:Inv X pins σ H s) (hH:H l=some (.lst xs))
 (e:s.heap.get? l=some { cls:=.type "list",data:=.seq its.toArray n }) (hf:f its.toArray=its'.toArray) (hv:Vals ys its') (hz:ys.length<=sizeLine) :
 Inv X pins σ (upd H l (.lst ys)) { s with heap:=s.heap.update l (Obj.mapSeq f),toks:=t' }:=by
 have q:=PySem.IsL.update e f
 rw [hf] at q
 refine I.write (x:=l) (e:=l) (by rw [hH]; exact trivial) (.inl rfl) (λb' u hb hu=>(Heap.get?_update_other s.heap (Obj.mapSeq f) (Ne.symm hb)).trans hu) ⟨_,q⟩ ?_
 exact ⟨hz,its',_,hv,q⟩
theorem Inv.uY {its:List Value}{t':Nat}(I:Inv X pins σ H s) (hv:Vals ys its) (hz:ys.length<=sizeLine) :
 Inv X pins σ (upd H s.heap.objs.size (.lst ys)) { s with heap:=s.heap.push { cls:=.type "list",data:=.seq its.toArray },toks:=t' } :=
 I.laid (λ_ _ q=>Heap.get?_push_of_some _ q) (Nat.le_refl _) ⟨hz,its,0,hv,Heap.get?_push_size _ rfl⟩
theorem Inv.fresh (I:Inv X pins σ H s):H s.heap.objs.size=none:=I.hok.fresh (Nat.le_refl _)
theorem Inv.nF (I:Inv X pins σ H s) (hH:H l=some (.lst xs)):xs.length<=sizeLine/\∃(its:List Value) (n:Nat),Vals xs its/\xs.length=its.length/\s.heap.get? l=some { cls:=.type "list",data:=.seq its.toArray n }:=by
 obtain ⟨z,its,n,r,e⟩:=I.hok l _ hH
 exact ⟨z,its,n,r,r.length,e⟩
theorem jE {n:Nat}(h:n<=sizeLine):Builtin.List.listTooLong n=false:=by
 unfold Builtin.List.listTooLong
 exact decide_eq_false (by omega)
end
section
variable {X:Cx}
def xi:V->List V->Hp->VK->Prop:=λx vs H Q=>∃l xs y,x=.ref l/\vs=[y]/\H l=some (.lst xs)/\xs.length<sizeLine/\Q .aR (upd H l (.lst (xs++[y])))
theorem gh:vU X "list.append" xi:=by
 intro pins s σ H x vs v us Q I rx rv h
 obtain ⟨l,xs,y,rfl,rfl,hH,hz,q⟩:=h
 cases rx
 obtain ⟨u,rfl,ru⟩:=rv.one
 obtain ⟨z,its,n,r,hl,e⟩:=I.nF hH
 refine call_meets F.slot_list_append ⟨_,e,rfl⟩ F.entry_list_append (F.args_list_append_2 _ _) (PySem.list_append l its.toArray n u (by rw [List.size_toArray]; omega)) ⟨e,?_⟩
 refine ⟨.aR,_,I.yj (its':=its++[u]) hH e (by simp) (r.append (.cons ru .nil)) ?_,rfl,q⟩
 rw [List.length_append,List.length_singleton]
 omega
def xj:V->List V->Hp->VK->Prop:=λx vs H Q=>∃l b xs zs,x=.ref l/\vs=[.ref b]/\H l=some (.lst xs)/\H b=some (.lst zs)/\xs.length+zs.length<=sizeLine/\Q .aR (upd H l (.lst (xs++zs)))
theorem Co:vU X "list.extend" xj:=by
 intro pins s σ H x vs v us Q I rx rv h
 obtain ⟨l,b,xs,zs,rfl,rfl,hH,hB,hz,q⟩:=h
 cases rx
 obtain ⟨u,rfl,ru⟩:=rv.one
 cases ru
 obtain ⟨z,its,n,r,hl,e⟩:=I.nF hH
 obtain ⟨z2,jF,n2,r2,dw,e2⟩:=I.nF hB
 have hsz:its.toArray.size+jF.toArray.size<=sizeLine:=by rw [List.size_toArray,List.size_toArray]; omega
 have AY:¬ (!its.toArray.isEmpty && Builtin.List.listTooLong (its.toArray.size+jF.toArray.size))=true:=by
  rw [jE hsz,Bool.and_false]
  exact Bool.false_ne_true
 refine call_meets F.slot_list_extend ⟨_,e,rfl⟩ F.entry_list_extend (F.args_list_extend_2 _ _)
  (AutoSeq1.list_extend_list_list_0 l its.toArray n b jF.toArray n2 AY (by rw [List.size_toArray]; omega) (by omega)) ⟨e,e2,?_⟩
 refine ⟨.aR,_,I.yj (its':=its++jF) hH e (by simp) (r.append r2) ?_,rfl,q⟩
 rw [List.length_append]
 omega
def Ey:R2:=λx y H Q=>∃l b xs zs,x=.ref l/\y=.ref b/\H l=some (.lst xs)/\H b=some (.lst zs)/\xs.length+zs.length<=sizeLine/\∀p,H p=none->Q (.ref p) (upd H p (.lst (xs++zs)))
theorem ke:cI X (binaryOp .Add) Ey:=by
 intro pins s σ H x y v u Q I rx ry h
 obtain ⟨l,b,xs,zs,rfl,rfl,hH,hB,hz,q⟩:=h
 cases rx
 cases ry
 obtain ⟨z,its,n,r,hl,e⟩:=I.nF hH
 obtain ⟨z2,jF,n2,r2,dw,e2⟩:=I.nF hB
 refine PySem.P.add_list e e2 ?_ (by rw [List.size_toArray,List.size_toArray]; omega)
 have ea:its.toArray++jF.toArray=(its++jF).toArray:=by simp
 rw [ea]
 exact ⟨.ref _,_,I.uY (t':=s.toks) (r.append r2) (by rw [List.length_append]; omega),rfl,q _ I.fresh⟩
end
section
variable {prog:Program}{w:World}{A:Around}{E:Value->Shared->Prop}{s:Shared}
theorem qQ {a c n:Nat}(Cp:a<=c) (hc:c<=n):sliceBounds (some (a:Int)) (some (c:Int)) none n=((a:Int),(c:Int),1):=by
 simp only [sliceBounds,Option.getD_none]
 have h1:¬ ((a:Int)<0):=by omega
 have h2:¬ ((c:Int)<0):=by omega
 simp only [h1,h2,if_false,show (1:Int)>0 by decide,if_true]
 congr 1
 . omega
 . congr 1; omega
set_option maxRecDepth 100000 in
theorem xH {l b sl:Addr}{items new:Array Value}{n n2:Nat}{vl vu:Value}{a c:Nat}{Q:Unit->Shared->Prop}
 (e:s.heap.get? l=some { cls:=.type "list",data:=.seq items n }) (e2:s.heap.get? b=some { cls:=.type "list",data:=.seq new n2 }) (iq:l≠b)
 (hs:s.heap.IsSliceOf sl vl vu .none) (pl:IsPart vl (some (a:Int))) (pu:IsPart vu (some (c:Int))) (Cp:a<=c) (hc:c<=items.size)
 (hsz:items.size+new.size<=sizeLine) (h:Q () { s with heap:=s.heap.update l (Obj.mapSeq λxs=>xs.extract 0 a++new++xs.extract c xs.size) }) :
 wpAny (model prog w) A (setItem (.ref l) (.ref sl) (.ref b)) Q E s:=by
 have hl:s.heap.IsList l items:=PySem.IsL.isList e
 have hb:s.heap.IsList b new:=PySem.IsL.isList e2
 obtain ⟨os,vV,iK,yk⟩:=id hs
 have Cq:s.TypeIs (.ref sl) "slice":=⟨os,vV,iK⟩
 have AZ:¬ ((rawPart none == rawInt 0)=true):=Bool.false_ne_true
 have qR:Builtin.List.listSameRef (.ref l) (.ref b)=false:=by
  unfold Builtin.List.listSameRef
  exact beq_eq_false_iff_ne.mpr iq
 have Ez:(max (a:Int) (c:Int)).toNat=c:=by omega
 have vW:((λxs:Array Value=>xs.extract 0 a++new++xs.extract c xs.size) items).size<=sizeLine+1:=by
  simp only [Array.size_append,Array.size_extract]
  omega
 unfold setItem
 try with_reducible refine wpAny_holding ?_
 first | refine wpAny_bind (wpAny_pure ?_) | skip
 refine wpAny_bind (wpAny_sequenceKey hl.typeIs (by decide) ?_)
 refine wpAny_bind (wpAny_callSpecial?_slot (name:=Str.ofString "__setitem__") hl.typeIs slot_list_setitem
  (wpAny_call_entry slot_list_setitem hl.typeIs entry_list_setitem ?_ (args_list_setitem _ _ _)))
 show wpAny _ _ (Builtin.List.listSubscript? (.ref sl) >>= _) _ _ s
 refine wpAny_bind ?_
 unfold Builtin.List.listSubscript?
 refine wpAny_bind (wpAny_specialOf Cq slice_no_index ?_)
 simp only [Option.isNone_none,if_true]
 refine wpAny_pure ?_
 show wpAny _ _ (typeOf (.ref sl) >>= _) _ _ s
 refine wpAny_bind (wpAny_typeOf Cq ?_)
 first
  | rw [if_neg (by decide)]
  | refine W.KFB.if_not (by decide) ?_
 rw [listSliceParts_eq]
 refine wpAny_bind (wpAny_bind (wpAny_field vV yk (x:=.none) rfl (wpAny_bind (wpAny_listPart .none ?_))))
 rw [if_neg AZ]
 refine wpAny_bind (wpAny_field vV yk (x:=vl) rfl (wpAny_bind (wpAny_listPart pl ?_)))
 refine wpAny_bind (wpAny_field vV yk (x:=vu) rfl (wpAny_bind (wpAny_listPart pu (wpAny_pure ?_))))
 first
  | simp only [qR,Bool.false_eq_true,if_false]
  | refine W.KFB.if_not qR ?_
  | (dsimp only
     rw [if_neg (by rw [qR]; exact Bool.false_ne_true)])
 refine wpAny_bind (m:=Builtin.List.listAllItems (.ref b) "must assign iterable to extended slice") ?_
 unfold Builtin.List.listAllItems
 refine wpAny_bind (wpAny_typeOf hb.typeIs ?_)
 first
  | refine W.KFB.if_so (by decide) ?_
  | rw [if_pos (by decide)]
  | simp only [beq_self_eq_true,Bool.true_or,if_true]
 unfold Builtin.List.listItems
 refine wpAny_bind (wpAny_seqItems e2 rfl (wpAny_pure ?_))
 refine wpAny_bind (wpAny_bind (wpAny_seqItems e rfl (wpAny_pure ?_)))
 refine wpAny_bind (wpAny_of_eq ((sliceIndices_raw (some (a:Int)) (some (c:Int)) none items.size (by simp)).trans (congrArg (pure:Int×Int×Int->Sem (Int×Int×Int)) (qQ Cp hc))) ?_)
 show wpAny _ _ (if ((1:Int) == 1)=true then _ else _) _ _ s
 rw [if_pos (by decide)]
 refine wpAny_bind (wpAny_rule ?_)
 first
  | simp only [jE hsz,Bool.false_eq_true,if_false]
  | refine W.KFB.if_not (jE hsz) ?_
 first | refine wpAny_bind (wpAny_pure ?_) | skip
 show wpAny _ _ (updateSeq l (λxs=>xs.extract 0 ((a:Int)).toNat++new++xs.extract (max (a:Int) (c:Int)).toNat xs.size) >>= _) _ _ s
 rw [Ez,Int.toNat_natCast]
 refine wpAny_bind (wpAny_updateSeq (hz:=Nat.le_trans (Nat.le_add_right _ _) hsz) (_hz':=vW) e rfl ?_)
 refine wpAny_bind (wpAny_letGo ?_)
 first
  | exact wpAny_bind (wpAny_pure (wpAny_pure ⟨.none,rfl,wpAny_pure h⟩))
  | exact wpAny_pure ⟨.none,rfl,wpAny_pure h⟩
end
section
variable {X:Cx}
end
end L2
namespace Cr
open PySem PySem.W PySem.Calls PyProof.Rows
theorem kf {P:Params}{h:Heap} : ∀(ns:List Int) (vs:List Value),WellAll P h vs (ns.map WData.int)->IntsAre vs ns:=by
 intro ns
 induction ns with
 | nil=>
  intro vs w
  rw [List.map_nil] at w
  cases w
  exact .nil
 | cons n ns ih=>
  intro vs w
  rw [List.map_cons] at w
  cases w with
  | cons a b=>
   cases a
   exact .cons _ _ (ih _ b)
theorem sQ {l:OpenLaw}{n:Nat}(hn:l.most=some n){P:Params}{h:Heap}{args:List WData}{vals:List Value}
 (qS:l.row.toRowW.claim.pre args=true) (yl:WellAll P h vals args) :
 ∃a vs ns,vals=[Value.ref a]/\args=[WData.list (ns.map WData.int)]/\h.get? a=some { cls:=.type "list",data:=.seq vs.toArray } /\ IntsAre vs ns/\ns.length<=n:=by
 have Hk:WShape.hasAll [] args [.list .int]=true:=(pre_splitW qS).1
 have hc:l.pre.holds [] { args:=args } = true:=(pre_splitW qS).2
 obtain ⟨d,r,rfl,h1,h2⟩:=hasAllW_cons Hk
 obtain rfl:=hasAllW_nil h2
 obtain ⟨xs,rfl,h3⟩:=hasW_list h1
 obtain ⟨ns,rfl⟩:=items_int h3
 have hlen:ns.length<=n:=by
  unfold OpenLaw.pre at hc
  have h4:(WTm.not (.lt (.lit (.int (n:Int))) (.len (.arg 0)))).holds [] { args:=[.list (ns.map .int)] } = true:=by
   have h4:=(holds_andW hc).1
   rw [hn] at h4
   exact h4
  have h5:=condW_of h4 (w_not (w_lt w_lit (w_len_list (w_arg rfl))))
  rw [List.length_map] at h5
  refine Nat.le_of_not_lt λq=>?_
  have q':(n:Int)<((ns.length:Nat):Int):=by omega
  first
   | (rw [decide_eq_true q'] at h5; exact absurd h5 (by decide))
   | (simp at h5; omega)
 cases yl with
 | cons w1 w2=>
  cases w2
  cases w1 with
  | list ho jB=>exact ⟨_,_,ns,rfl,rfl,ho,kf ns _ jB,hlen⟩
theorem sR (l:OpenLaw) (args:List WData):l.row.toRowW.claim.post args (.bool true) args=true:=
 postW_of (r:=l.row.toRowW) (X:=(true == true))
  (show WShape.has [] (.bool true) .bool=true by first | rfl | decide | simp [WShape.has,WShape.arms,WShape.armsAll])
  (show (WTm.eq .res (.lit (.bool true))).value [] { args:=args,res:=some (.bool true),after:=args } = some (.bool (true == true)) from w_eq_bool (w_res rfl) w_lit) rfl
theorem pe {l:OpenLaw}{n:Nat}{q:Program}{loose:List Str}{XP:(Str->Option Value)->Heap->Prop}{YP:World->Heap->Prop}{d:DefRec}
 (hn:l.most=some n) (sS:d.params.defaults=[])
 (call:∀(w:World) (eT bw:Shared) (mg mb:Str->Option Value) (fa:Addr) (o:Obj) (pm cd doc:Value) (a:Addr) (vs:List Value) (ns:List Int),
  Ground q loose [] XP w eT mg mb bw.heap->YP w bw.heap->
  bw.heap.get? fa=some o->o.data=.func (docDef d.name d.params d.body d.scope pm cd doc)->bw.heap.CodeRec cd d.name->mg d.name=some (.ref fa)->
  bw.heap.get? a=some { cls:=.type "list",data:=.seq vs.toArray } -> IntsAre vs ns->ns.length<=n->bw.gens = #[]->
  codeAny (model l.prog w) callerA (.call (.ref fa) ⟨[.ref a],[]⟩) (λr s'=>r=.ok (.ret (.bool true))/\OldK bw.heap s'.heap/\s'.os=bw.os/\AllBare s'.gens) bw) :
 WalkO q loose XP YP l.row.toRowW d [] (λf vs=>PySem.call f vs):=by
 intro w eT bw mg mb G Y fa o pm cd doc dV kV ho hd iz hD sU hg args vals as qS Ll LA yl LB
 obtain rfl:dV=.none:=Dflts.none hD sS
 obtain rfl:kV=.none:=Dflts.noKw hD
 obtain ⟨a,vs,ns,rfl,rfl,uZ,hints,hlen⟩:=sQ hn qS yl
 refine enter_call (codeAny_mono (call w eT bw mg mb fa o pm cd doc a vs ns G Y ho (fd_plain hd) iz sU uZ hints hlen hg) λr s' hq=>?_)
 obtain ⟨rfl,h2,h3,h4⟩:=hq
 exact ⟨.inl ⟨.bool true,.bool true,[],rfl,λ_=>rfl,.bool true,sR l _,λ_=>⟨List.Pairwise.nil,λ_ hm=>(nomatch hm)⟩⟩,h2,h3,h4⟩
section
variable {prog:Program}{w:World}{A:Around}{E:Value->Shared->Prop}{s:Shared}{K:Frag}
end
end Cr
namespace L2
open PySem PySem.Spec PyProof.Rows
theorem lZ:∀{vs:List Value}{ns:List Int},IntsAre vs ns->Vals (ns.map V.int) vs
 | _,_,.nil=>.nil
 | _,_,.cons n t h=>.cons ⟨t,rfl⟩ (lZ h)
def u0 (H:Hp):Prop:=∀b,H b=none\/∃o xs,H b=some (.gc o (.lst xs))
theorem u3 {P:Program}{w:World}{K:W.Frag}{mg mb:Str->Option Value}{CX:iG}{k:Nat}{fa a:Addr}{fd:FuncData}{x:Str}{sp:Sp}{bw:Shared}{vs:List Value}{ns:List Int}
 (KX:K.In bw.heap) (Cs:bw.heap.Ns mainGlobals mg) (hb:bw.heap.Ns builtinsNs mb) (Hl:∀x:Str,x ≠ "__name__" -> mb x=bootBuiltins x) (EA:bw.heap.NoLimit) (hg:bw.gens = #[])
 (ha:bw.heap.get? a=some { cls:=.type "list",data:=.seq vs.toArray }) (hi:IntsAre vs ns) (hl:ns.length<=sizeLine) (hr:bh k callerA)
 (F:∀base:Heap,K.In base->base.Ns mainGlobals mg->av P w K mg base CX k fa fd [x] sp) (A0:∀(s:Shared) (u:Value),BindsTo s fd ⟨[u],[]⟩ [(x,u)])
 (gf:∀H:Hp,u0 H->ay K H a (ns.map V.int)->sp [.ref a] H (λv _=>v=.bl true) λ_ _ _=>False)
 (ym:∀H e s',CX [] H bw (λ_ _ _=>False) e s'->False) :
 codeAny (model P w) callerA (.call (.ref fa) ⟨[.ref a],[]⟩) (λr s'=>r=.ok (.ret (.bool true))/\OldK bw.heap s'.heap/\s'.os=bw.os/\AllBare s'.gens) bw:=by
 have rv:=lZ hi
 have EB:=hi.length
 have core:∀H:Hp,u0 H->ay K H a (ns.map V.int)->cb P w H bw.heap->(∀b,H b≠none->b=a)->(H a≠none->K.lookup a=none)->
  codeAny (model P w) callerA (.call (.ref fa) ⟨[.ref a],[]⟩) (λr s'=>r=.ok (.ret (.bool true))/\OldK bw.heap s'.heap/\s'.os=bw.os/\AllBare s'.gens) bw:=by
  intro H hO hS hok hA hK
  have pO:∀{b:Addr}{o:Obj},bw.heap.get? b=some o->H b=none->(gM bw.heap H).get? b=some o:=λe n=>uH e n
  have sJ:∀{b:Addr}{o:Obj}{es:Array DictEntry}{ep:Nat},bw.heap.get? b=some o->o.data=.dict es ep->H b=none:=λ{b o es ep} e d=>by
   cases q:H b with
   | none=>rfl
   | some u=>
    have e':b=a:=hA b (by rw [q]; simp)
    subst e'
    rw [ha] at e; cases e
    have d':Data.seq vs.toArray _=Data.dict es ep:=d
    cases d'
  have vX:∀{b:Addr}{m:Str->Option Value},bw.heap.Ns b m->(gM bw.heap H).Ns b m:=λ{b m} ⟨o,es,ep,e,d,r⟩=>⟨o,es,ep,pO e (sJ e d),d,r⟩
  have Ct:K.In (gM bw.heap H):=λb o e=>pO (KX b o e) (by
   cases q:H b with
   | none=>rfl
   | some u=>
    have e':b=a:=hA b (by rw [q]; simp)
    subst e'
    rw [hK (by rw [q]; simp)] at e; cases e)
  have hM:Mod K mg (gM bw.heap H):=⟨Ct,vX Cs,⟨mb,vX hb,Hl⟩,let ⟨mc,h1,h2⟩:=EA; ⟨mc,vX h1,h2⟩⟩
  have e0:jy P w K mg (gM bw.heap H) callerA [] bw H:=⟨rfl,hM,λb o e=>wX e,Nat.le_of_eq (rT _ _),trivial,λb hb=>absurd (show b∈([]:List Addr) from hb) (by simp),hok,.of_eq hg⟩
  refine codeAny_mono ((F _ Ct (vX Cs)).run callerA [] bw H ⟨[.ref a],[]⟩ [.ref a] [.ref a] _ _ hr e0 (A0 bw (.ref a)) (.cons rfl .nil) (gf H hO hS)) λr s' h=>?_
  cases r with
  | error e=>exact (ym H e s' h).elim
  | ok fl=>
   cases fl with
   | next=>exact False.elim h
   | brk=>exact False.elim h
   | cont=>exact False.elim h
   | ret u=>
    obtain ⟨v,H',os,bare,un,EC,r',q⟩:=h
    have q':v=.bl true:=q
    subst q'
    obtain rfl:u=Value.bool true:=r'
    refine ⟨rfl,OldK.of_keep λb o e=>?_,os,bare⟩
    cases q:H b with
    | none=>exact un.keep b o e q (by intro z; exact absurd (show b∈([]:List Addr) from z) (by simp)) (by simp)
    | some u=>
     rcases hO b with z | ⟨ob,xs,z⟩
     . rw [q] at z; cases z
     . have z2:=un.frzs b ob _ z
       obtain ⟨e1,_⟩:=hok b _ z
       obtain ⟨e2,_⟩:=EC b _ z2
       rw [e] at e1; cases e1
       exact e2
 cases hk:K.lookup a with
 | some o=>
  have e:=KX a o hk
  rw [ha] at e
  cases e
  refine core (λ_=>none) (λ_=>.inl rfl) (.inr ⟨_,vs.toArray,_,hk,rfl,rfl,rfl,by rw [List.size_toArray,EB]; exact hl,by simpa using rv⟩) (λb u z=>by have z':(none:Option HO)=some u:=z; cases z') (λb z=>absurd rfl z) λz=>absurd rfl z
 | none=>
  refine core (λb=>if b=a then some (.gc { cls:=.type "list",data:=.seq vs.toArray } (.lst (ns.map V.int))) else none) (λb=>?_) (.inl (.inr ⟨{ cls:=.type "list",data:=.seq vs.toArray },if_pos rfl⟩)) (λb u z=>?_) (λb z=>?_) λ_=>hk
  . by_cases hb:b=a
    . exact .inr ⟨_,_,if_pos hb⟩
    . exact .inl (if_neg hb)
  . by_cases hb:b=a
    . have z':=(if_pos hb).symm.trans z
      cases z'
      subst hb
      exact ⟨ha,by rw [List.length_map]; exact hl,vs,_,rv,ha⟩
    . have z':=(if_neg hb).symm.trans z
      cases z'
  . by_cases hb:b=a
    . exact hb
    . exact absurd (if_neg hb) z
end L2
namespace L2
open PySem PySem.Spec PyProof.Rows
theorem xk {l:W.OpenLaw}{n k:Nat}{q:Program}{loose:List Str}{XP:(Str->Option Value)->Heap->Prop}{YP:World->Heap->Prop}{d:DefRec}{K:Params->W.Frag}{CX:World->iG}{sp:World->Sp}{x:Str}
 (hn:l.most=some n) (pK:n<=sizeLine) (sS:d.params.defaults=[]) (hr:bh k callerA)
 (hY:∀(w:World) (h:Heap),YP w h->(K w.params).In h)
 (F:∀(w:World) (mg:Str->Option Value) (fa:Addr) (h:Heap),(K w.params).In h->h.Ns mainGlobals mg->mg d.name=some (.ref fa)->
  ∃fd:FuncData,(∀(s:Shared) (u:Value),BindsTo s fd ⟨[u],[]⟩ [(x,u)])/\
   ∀base:Heap,(K w.params).In base->base.Ns mainGlobals mg->av l.prog w (K w.params) mg base (CX w) k fa fd [x] (sp w))
 (gf:∀(w:World) (H:Hp) (a:Addr) (ns:List Int),ns.length<=n->u0 H->ay (K w.params) H a (ns.map V.int)->sp w [.ref a] H (λv _=>v=.bl true) λ_ _ _=>False)
 (ym:∀(w:World) (H:Hp) (s:Shared) (e:Value) (s':Shared),CX w [] H s (λ_ _ _=>False) e s'->False) :
 W.WalkO q loose XP YP l.row.toRowW d [] (λf vs=>PySem.call f vs):=by
 refine Cr.pe hn sS λw eT bw mg mb fa o pm cd doc a vs ns G Y ho hd iz sU uZ hints hlen hg=>?_
 have KX:=hY w _ Y
 obtain ⟨fd,hb,hF⟩:=F w mg fa _ KX G.T.g sU
 exact u3 KX G.T.g G.T.b G.T.builtins G.T.nolimit hg uZ hints (Nat.le_trans hlen pK) hr hF hb (λH hO hS=>gf w H a ns hlen hO hS) λH e s'=>ym w H bw e s'
end L2
namespace L2
open PySem PySem.Spec PyProof.Rows
def inClass (s:Stmt) (j:Nat):Stmt:=match s with
 | .ClassDef _ _ _ body _ _ _ _ _ _ _=>body.getD j (.Pass ⟨0,0,0,0⟩)
 | _=>.Pass ⟨0,0,0,0⟩
def aL (s:Stmt):Arguments:=match s with
 | .FunctionDef _ a _ _ _ _ _ _ _ _=>a
 | _=>{ posonlyargs:=[],args:=[],vararg:=none,kwonlyargs:=[],kw_defaults:=[],kwarg:=none,defaults:=[] }
def aK (s:Stmt):List Stmt:=match s with
 | .FunctionDef _ _ b _ _ _ _ _ _ _=>b
 | _=>[]
def aj (s:Stmt):Scope:=match s with
 | .FunctionDef _ _ _ _ _ _ sc _ _ _=>sc
 | _=>{ kind:=.function,names:=[],isGenerator:=false,isCoroutine:=false }
abbrev aH:iG:=λ_ _ _ _ _ _=>False
abbrev E0:XK:=λ_ _ _=>False
theorem aw {X:Cx} : Passes aH X E0:=λ_ _ _ _ _ _ _ h=>h.elim
structure bY (K:W.Frag) (x qual:Str) (st:Stmt) (f:Addr) (fd:FuncData):Prop where
 ex:∃(oc:Value) (od:Option Addr) (kV doc pm:Value) (an:Option Addr) (cdv ct:Value) (lV:Array (Option Value)),
  fd=W.fnOf x qual (aL st) (aK st) (aj st) .none kV doc pm an cdv ct/\K.lookup f=some ⟨oc,od,.func fd,lV⟩/\W.codeIn K cdv qual=true
 kp:W.keepIn K (.ref f)=true
section
variable {P:Program}{w:World}{K:W.Frag}{mg:Str->Option Value}{base:Heap}
theorem bY.ok {x qual:Str}{st:Stmt}{f:Addr}{fd:FuncData}{N ps:List Str}{k:Nat}{sp:Sp}(F:bY K x qual st f fd) (S:aQ N ps (aj st)) (len:∀vs H Q E,sp vs H Q E->vs.length=ps.length)
 (qN:∀(cdv:Value) (A:Around) (outer:List Env) (s:Shared) (H:Hp) (vs:List V) (Q:VK) (E:XK),bh k (A.deeper (envOfC qual (aj st) s.heap.objs.size f cdv))->sp vs H Q E->
  ∃t,fu (gW aH P w K mg base N qual (aj st) f cdv A outer s H E).mX (aK st) t/\t { nx:=λ_ H'=>Q .aR H',rt:=Q } (start N vs) H):av P w K mg base aH (k+1) f fd ps sp:=by
 obtain ⟨oc,od,kV,doc,pm,an,cdv,ct,lV,rfl,lk,iz⟩:=F.ex
 refine AM lk iz S len λA outer s H vs Q E hr gf=>?_
 obtain ⟨t,h,q⟩:=qN cdv A outer s H vs Q E hr gf
 exact ⟨t,h.mX,q⟩
theorem bY.binds {x qual:Str}{st:Stmt}{f:Addr}{fd:FuncData}{ps:List Str}(F:bY K x qual st f fd)
 (h:∀(kV doc pm:Value) (an:Option Addr) (cdv ct:Value) (us:List Value),us.length=ps.length->bindArgs (W.fnOf x qual (aL st) (aK st) (aj st) .none kV doc pm an cdv ct) ⟨us,[]⟩=pure (ps.zip us)):Binds K fd ps []:=by
 obtain ⟨oc,od,kV,doc,pm,an,cdv,ct,lV,rfl,lk,iz⟩:=F.ex
 exact .all (h kV doc pm an cdv ct)
theorem aZ {x qual:Str}{st:Stmt}{f:Addr}{oc:Value}{od an:Option Addr}{lV:Array (Option Value)}{kV doc pm cdv ct:Value}(l:K.lookup f=some ⟨oc,od,.func (W.fnOf x qual (aL st) (aK st) (aj st) .none kV doc pm an cdv ct),lV⟩)
 (c:W.codeIn K cdv qual=true) (k:W.keepIn K (.ref f)=true):bY K x qual st f (W.fnOf x qual (aL st) (aK st) (aj st) .none kV doc pm an cdv ct):=⟨⟨oc,od,kV,doc,pm,an,cdv,ct,lV,rfl,l,c⟩,k⟩
end
theorem i8 {A:Around}{k:Nat}(hr:bh k A):A.units+1<cLine:=Nat.lt_of_le_of_lt (Nat.add_le_add_left (by decide:1<=64) _) hr.units
theorem l6 {n:Nat}(h:n<=1000):n<sizeLine:=Nat.lt_of_le_of_lt h (by decide)
section
variable {X:Cx}
theorem pv (i:Nat){x:Str}{pos:Pos}(hN:X.N[i]?=some x:=by rfl) (hv:xQ X.env.scope x:=by first | exact Or.inl rfl | exact Or.inr (Or.inl rfl) | exact Or.inr (Or.inr rfl)) (hd:(x == ("__debug__" : Str))=false:=by decide)
 (iz:(x == ("__classdict__" : Str))=false:=by decide):PE X (.Name x pos) (qD i):=xU hN hv hd iz
end
theorem gp {A B:Prop}(h:B):if false=true then A else B:=by
 rw [if_neg Bool.false_ne_true]
 exact h
theorem lC {A B:Prop}(h:A):if true=true then A else B:=by
 rw [if_pos rfl]
 exact h
theorem jG {c A B:Prop}[Decidable c] (h1:c->A) (h2:¬ c->B):if c then A else B:=by
 by_cases h:c
 . rw [if_pos h]
   exact h1 h
 . rw [if_neg h]
   exact h2 h
def ao (H H':Hp):Prop:=∀b o,H b=some o->H' b=some o
theorem ao.trans {H H1 H2:Hp}(a:ao H H1) (b:ao H1 H2):ao H H2:=λc o h=>b c o (a c o h)
theorem ao.seq {K:W.Frag}{H H':Hp}{a:Addr}{xs:List V}(e:ao H H') (h:ay K H a xs):ay K H' a xs:=by
 rcases h with (h | ⟨o,h⟩) | h
 . exact .inl (.inl (e _ _ h))
 . exact .inl (.inr ⟨o,e _ _ h⟩)
 . exact .inr h
end L2
namespace L2
open PySem PySem.Spec PyProof.Rows
section
variable {X:Cx}
end
end L2
set_option maxHeartbeats 4000000
namespace L2
open PySem PySem.Spec PyProof.Rows
theorem gZ {env:Env}(f:Str×NameKind->List (Str×Addr)->Sem (ForInStep (List (Str×Addr))))
 (hf:∀n k cs,f (n,k) cs=if (k == NameKind.free)=true then (cellOf env n >>= λa=>pure (ForInStep.yield ((n,a)::cs))) else pure (ForInStep.yield cs)) :
 ∀(names:List (Str×NameKind)) (acc:List (Str×Addr)),(∀x∈names,x.2=NameKind.free->∃c,env.cells.lookup x.1=some c)->(∀x c,acc.lookup x=some c->env.cells.lookup x=some c)->
  ∃cl,forIn names acc f=(pure cl:Sem (List (Str×Addr)))/\(∀x c,cl.lookup x=some c->env.cells.lookup x=some c)/\(∀x c,acc.lookup x=some c->∃c',cl.lookup x=some c')/\∀x∈names,x.2=NameKind.free->∃c,cl.lookup x.1=some c
 | [],acc,_,ha=>⟨acc,by simp,ha,λx c e=>⟨c,e⟩,λx hx=>by simp at hx⟩
 | (n,k)::r,acc,hn,ha=>by
  have vI:∀x∈r,x.2=NameKind.free->∃c,env.cells.lookup x.1=some c:=λx hx=>hn x (List.mem_cons_of_mem _ hx)
  cases hk:k == NameKind.free with
  | false=>
   obtain ⟨cl,e,h1,h2,h3⟩:=gZ f hf r acc vI ha
   refine ⟨cl,?_,h1,h2,λx hx hz=>?_⟩
   . rw [List.forIn_cons,hf,hk,if_neg Bool.false_ne_true,pure_bind]
     exact e
   . rcases List.mem_cons.mp hx with z | hx
     . subst z
       have vW:k=NameKind.free:=hz
       rw [vW] at hk
       exact absurd hk (by decide)
     . exact h3 x hx hz
  | true=>
   have iL:k=NameKind.free:=by cases k <;> first | rfl | exact absurd hk (by decide)
   obtain ⟨c,hc⟩:=hn (n,k) List.mem_cons_self iL
   have eG:env.cells.lookup n=some c:=hc
   obtain ⟨cl,e,h1,h2,h3⟩:=gZ f hf r ((n,c)::acc) vI (λx d ed=>by
    rw [List.lookup_cons] at ed
    cases hx:x == n with
    | true=>
     rw [hx] at ed
     rw [eq_of_beq hx,eG]
     exact ed
    | false=>
     rw [hx] at ed
     exact ha x d ed)
   have Cu:∃c',cl.lookup n=some c':=h2 n c (by rw [List.lookup_cons,beq_self_eq_true])
   refine ⟨cl,?_,h1,λx d ed=>?_,λx hx hz=>?_⟩
   . rw [List.forIn_cons,hf,hk,if_pos rfl]
     unfold cellOf
     rw [eG]
     rw [pure_bind,pure_bind]
     exact e
   . cases hx:x == n with
     | true=>
      rw [eq_of_beq hx]
      exact Cu
     | false=>
      refine h2 x d ?_
      rw [List.lookup_cons,hx]
      exact ed
   . rcases List.mem_cons.mp hx with z | hx
     . subst z
       exact Cu
     . exact h3 x hx hz
theorem lD {scope:Scope}{env:Env}(h:∀x∈scope.names,x.2=NameKind.free->∃c,env.cells.lookup x.1=some c) :
 ∃cl,closureFor scope env=pure cl/\(∀x c,cl.lookup x=some c->env.cells.lookup x=some c)/\∀x∈scope.names,x.2=NameKind.free->∃c,cl.lookup x.1=some c:=by
 obtain ⟨cl,e,h1,_,h3⟩:=gZ (env:=env) (λp cs=>if (p.2 == NameKind.free)=true then (cellOf env p.1 >>= λa=>pure (ForInStep.yield ((p.1,a)::cs))) else pure (ForInStep.yield cs)) (λn k cs=>rfl) scope.names [] h (λx c z=>by simp at z)
 refine ⟨cl,?_,h1,h3⟩
 have key:closureFor scope env=(forIn scope.names ([]:List (Str×Addr)) (λ(p:Str×NameKind) cs=>if (p.2 == NameKind.free)=true then (cellOf env p.1 >>= λa=>pure (ForInStep.yield ((p.1,a)::cs))) else pure (ForInStep.yield cs)) >>= λcs=>pure cs):=rfl
 rw [key,e,pure_bind]
theorem lookup_mem {names:List (Str×NameKind)}{x:Str}{k:NameKind}(h:names.lookup x=some k):(x,k)∈names:=by
 induction names with
 | nil=>simp at h
 | cons p r ih=>
  obtain ⟨n,j⟩:=p
  rw [List.lookup_cons] at h
  cases hx:x == n with
  | true=>
   rw [hx] at h
   have e:j=k:=Option.some.inj h
   rw [eq_of_beq hx,e]
   exact List.mem_cons_self
  | false=>
   rw [hx] at h
   exact List.mem_cons_of_mem _ (ih h)
def gq (env:Env) (p:Str×NameKind):Str×NameKind:=if (p.2 == NameKind.free && env.scope.kind == .function && env.kindOf p.1 == some .cell) then (p.1,.cell) else p
theorem ir (scope:Scope) (env:Env):(relabel scope env).names=scope.names.map (gq env):=rfl
theorem gr {env:Env} : ∀(names:List (Str×NameKind)) (x:Str),(names.map (gq env)).lookup x=(names.lookup x).map λk=>(gq env (x,k)).2
 | [],x=>rfl
 | (n,k)::r,x=>by
  rw [List.map_cons]
  have e1:(gq env (n,k)).1=n:=by unfold gq; split <;> rfl
  have:gq env (n,k)=(n,(gq env (n,k)).2):=Prod.ext e1 rfl
  rw [this,List.lookup_cons,List.lookup_cons]
  cases hx:x == n with
  | true=>
   rw [eq_of_beq hx]
   rfl
  | false=>exact gr r x
theorem u4 {scope:Scope}{env:Env}{x:Str}(h:scope.names.lookup x=some .free):(relabel scope env).names.lookup x=some .cell\/(relabel scope env).names.lookup x=some .free:=by
 rw [ir,gr,h]
 unfold gq
 simp only [Option.map_some]
 split
 . exact .inl rfl
 . exact .inr rfl
theorem sV {scope:Scope}{env:Env}{x:Str}(hc:∀y∈scope.names,y.2≠.cell) (h:(relabel scope env).names.lookup x=some .cell\/(relabel scope env).names.lookup x=some .free):scope.names.lookup x=some .free:=by
 rw [ir,gr] at h
 cases e:scope.names.lookup x with
 | none=>rw [e] at h; rcases h with h | h <;> cases h
 | some k=>
  rw [e] at h
  have hm:=lookup_mem e
  have nk:k≠.cell:=hc _ hm
  simp only [Option.map_some,Option.some.injEq] at h
  by_cases hf:k=.free
  . rw [hf]
  . have hb:(k == NameKind.free)=false:=by cases k <;> first | rfl | exact absurd rfl hf
    have:(gq env (x,k)).2=k:=by
     unfold gq
     simp [hb]
    rw [this] at h
    rcases h with h | h
    . exact absurd h nk
    . exact absurd h hf
def bt (X:Cx) (N:List Str) (scope:Scope) (cl:List (Str×Addr)) (C:Addr) (s:Shared) (H:Hp) (fp:List Addr) (pn:List (Addr×Obj)):Cx where
 prog:=X.prog
 w:=X.w
 K:=X.K
 mg:=X.mg
 base:=X.base
 A:=X.A
 N:=N
 eT:=s
 xP:=H
 env:=compEnvC scope cl C X.env
 outer:=X.stack
 stack:=X.stack
 ex:=fp
 fn:=λ_=>false
 calm:=true
 pn:=pn
 xe:=λ_ _=>False
structure gw (X:Cx) (N:List Str) (js:List (Option Nat)) (scope:Scope):Prop where
 kind:scope.kind=.function
 nocell:∀y∈scope.names,y.2≠.cell
 names:∀y∈scope.names,y.2=.local->scope.names.lookup y.1=some .local
 frees:∀y∈scope.names,y.2=.free->X.env.kindOf y.1=some .cell\/X.env.kindOf y.1=some .free
 len:js.length=N.length
 pull:∀(i j:Nat) (x:Str),js[i]?=some (some j)->N[i]?=some x->X.N[j]?=some x/\scope.names.lookup x=some .free
def cq (xn:List Str) (names:List (Str×NameKind)):List Str->List (Option Nat)->Bool
 | [],[]=>true
 | _::N,none::js=>cq xn names N js
 | x::N,some j::js=>(match xn[j]? with | some y=>decide (y=x) | none=>false) && (match names.lookup x with | some .free=>true | _=>false) && cq xn names N js
 | _,_=>false
theorem g0 {xn:List Str}{names:List (Str×NameKind)} : ∀{N:List Str}{js:List (Option Nat)},cq xn names N js=true->js.length=N.length
 | [],[],_=>rfl
 | x::N,none::js,h=>by
  have:=g0 (N:=N) (js:=js) (by simpa [cq] using h)
  simp [this]
 | x::N,some j::js,h=>by
  have h':cq xn names N js=true:=by
   simp only [cq,Bool.and_eq_true] at h
   exact h.2
  simp [g0 h']
 | [],_::_,h=>by simp [cq] at h
 | _::_,[],h=>by simp [cq] at h
theorem iM {xn:List Str}{names:List (Str×NameKind)} : ∀{N:List Str}{js:List (Option Nat)},cq xn names N js=true->∀(i j:Nat) (x:Str),js[i]?=some (some j)->N[i]?=some x->xn[j]?=some x/\names.lookup x=some .free
 | [],[],_,i,j,x,e,_=>by simp at e
 | y::N,none::js,h,i,j,x,e1,e2=>by
  cases i with
  | zero=>simp at e1
  | succ i=>
   exact iM (N:=N) (js:=js) (by simpa [cq] using h) i j x (by simpa using e1) (by simpa using e2)
 | y::N,some j'::js,h,i,j,x,e1,e2=>by
  simp only [cq,Bool.and_eq_true] at h
  obtain ⟨⟨h1,h2⟩,h3⟩:=h
  cases i with
  | zero=>
   have ej:j'=j:=by simpa using e1
   have ey:y=x:=by simpa using e2
   subst ej ey
   constructor
   . cases q:xn[j']? with
     | none=>rw [q] at h1; cases h1
     | some z=>
      rw [q] at h1
      rw [of_decide_eq_true h1]
   . cases q:names.lookup y with
     | none=>rw [q] at h2; cases h2
     | some k=>
      rw [q] at h2
      cases k <;> first | rfl | cases h2
  | succ i=>exact iM h3 i j x (by simpa using e1) (by simpa using e2)
 | [],_::_,h,_,_,_,_,_=>by simp [cq] at h
 | _::_,[],h,_,_,_,_,_=>by simp [cq] at h
def isFn:ScopeKind->Bool
 | .function=>true
 | _=>false
def kg (xn:List Str) (xs:List (Str×NameKind)) (N:List Str) (js:List (Option Nat)) (scope:Scope):Bool:=
 isFn scope.kind && (scope.names.all λy=>match y.2 with
  | .cell=>false
  | .local=>(match scope.names.lookup y.1 with | some .local=>true | _=>false)
  | .free=>(match xs.lookup y.1 with | some .cell=>true | some .free=>true | _=>false)
  | _=>true) && cq xn scope.names N js
theorem gw.of {X:Cx}{N:List Str}{js:List (Option Nat)}{scope:Scope}(h:kg X.N X.env.scope.names N js scope=true):gw X N js scope:=by
 unfold kg at h
 simp only [Bool.and_eq_true,List.all_eq_true] at h
 obtain ⟨⟨h1,h2⟩,h3⟩:=h
 refine ⟨?_,λy hy e=>?_,λy hy e=>?_,λy hy e=>?_,g0 h3,iM h3⟩
 . cases q:scope.kind <;> rw [q] at h1 <;> first | rfl | cases h1
 . have:=h2 y hy
   rw [e] at this
   cases this
 . have:=h2 y hy
   rw [e] at this
   cases q:scope.names.lookup y.1 with
   | none=>rw [q] at this; cases this
   | some k=>rw [q] at this; cases k <;> first | rfl | cases this
 . have:=h2 y hy
   rw [e] at this
   show X.env.scope.names.lookup y.1=some .cell\/X.env.scope.names.lookup y.1=some .free
   cases q:X.env.scope.names.lookup y.1 with
   | none=>rw [q] at this; cases this
   | some k=>rw [q] at this; cases k <;> first | exact .inl rfl | exact .inr rfl | cases this
def i9 (js:List (Option Nat)) (σ:St):St:=js.map λoj=>match oj with | none=>none | some j=>(σ[j]?).getD none
section
variable {X:Cx}{pins:List (Addr×Obj)}{σ:St}{H:Hp}{s:Shared}
theorem Inv.enter {N:List Str}{js:List (Option Nat)}{scope:Scope}{cl:List (Str×Addr)}{C:Addr}{fp:List Addr}{h':Heap}{m:Str->Option Value}{tk:Nat}(I:Inv X pins σ H s) (S:gw X N js scope) (hc:X.calm=true)
 (jl:∀x c,cl.lookup x=some c->X.env.cells.lookup x=some c) (yn:∀x∈scope.names,x.2=NameKind.free->∃c,cl.lookup x.1=some c) (hC:C=s.heap.objs.size)
 (hf:∀b∈fp,d9 X pins H b) (hl:∀b∈fp,b<s.heap.objs.size) (hn:h'.Ns C m) (k:∀b o,s.heap.get? b=some o->h'.get? b=some o) :
 Inv (bt X N scope cl C s H fp (X.pn++pins)) [] (i9 js σ) H { s with heap:=h',toks:=tk }:=by
 have lt:∀b o,s.heap.get? b=some o->b≠C:=λb o e=>by
  rw [hC]
  exact Nat.ne_of_lt (Heap.lt_size e)
 have sW:∀x,scope.names.lookup x=some .free->∃c,cl.lookup x=some c:=λx e=>yn _ (lookup_mem e) rfl
 have stk:∀b,b≠X.env.locals->b∉X.fs->b∉ie X.stack:=λb h1 h2 z=>(List.mem_cons.mp (I.jV b z)).elim h1 h2
 have ok:(bt X N scope cl C s H fp (X.pn++pins)).Ok:=by
  refine ⟨I.ok.mod,S.kind,I.ok.glob,I.ok.blt,Nat.le_of_eq hC.symm,λx y c e1 e2=>I.ok.inj x y c (jl x c e1) (jl y c e2),λx hx=>sW x (sV S.nocell hx),λx c e _=>?_,λ_=>I.ok.hd hc,
   I.ok.frames,.inl rfl,λb hb=>⟨?_,λx c e=>(hf b hb).2.2.2.2.1 x c (jl x c e)⟩,I.bs,Nat.le_trans I.ok.bsz I.sz,λb o e hb=>?_,λb hb=>stk b (hf b hb).2.1 (hf b hb).2.2.1,I.stack,I.pz⟩
  . cases e
  . show b≠C
    rw [hC]
    exact Nat.ne_of_lt (hl b hb)
  . rcases (hf b hb).2.2.2.1 with z | z
    . exact I.ok.noex b o e z
    . exact absurd (Nat.lt_of_lt_of_le (Heap.lt_size e) (Nat.le_trans I.ok.bsz z)) (Nat.lt_irrefl _)
 refine ⟨ok,rfl,I.bare,Un.kept k,⟨m,hn,λi x v e1 e2 e3=>?_⟩,λx c e=>?_,?_,λx c e=>I.freeC x c (jl x c e),λp hp=>?_,I.hok.kept k,?_⟩
 . -- a name that the block closes over
   have nG:(i9 js σ)[i]?=some (some v):=e2
   unfold i9 at nG
   rw [List.getElem?_map] at nG
   cases q:js[i]? with
   | none=>rw [q] at nG; cases nG
   | some oj=>
    rw [q] at nG
    cases oj with
    | none=>cases nG
    | some j=>
     have ev:(σ[j]?).getD none=some v:=Option.some.inj nG
     have Hn:σ[j]?=some (some v):=by
      cases z:σ[j]? with
      | none=>rw [z] at ev; cases ev
      | some o=>rw [z] at ev; exact congrArg some ev
     obtain ⟨n1,n2⟩:=S.pull i j x q e1
     obtain ⟨c,eG⟩:=sW x n2
     have Ho:=jl x c eG
     obtain ⟨m0,_,sX⟩:=I.loc
     have kx:=S.frees (x,.free) (lookup_mem n2) rfl
     have Cv:X.env.kindOf x=some .cell\/X.env.kindOf x=some .free:=kx
     obtain ⟨u,ru,lk⟩:=sX j x v n1 Hn (Cv.elim (λz=>.inr (.inl z)) λz=>.inr (.inr z))
     refine ⟨u,ru,.inr ⟨u4 n2,c,eG,?_⟩⟩
     rcases lk with ⟨kl,_⟩ | ⟨_,c2,e2,ic⟩
     . rcases Cv with z | z <;> (rw [kl] at z; cases z)
     . rw [Ho] at e2
       cases e2
       obtain ⟨o,ho,hd⟩:=ic
       exact ⟨o,k c o ho,hd⟩
 . obtain ⟨v,o,ho,hd⟩:=I.cell x c (jl x c e)
   exact ⟨v,o,k c o ho,hd⟩
 . show H C=none
   rw [hC]
   exact I.hok.fresh (Nat.le_refl _)
 . have Hq:p∈X.pn++pins:=by simpa [bt] using hp
   obtain ⟨e,n,ne,nf,d⟩:=I.pin p Hq
   exact ⟨k _ _ e,n,lt _ _ e,stk _ ne nf,d⟩
 . show (i9 js σ).length=N.length
   unfold i9
   rw [List.length_map]
   exact S.len
theorem Inv.left {N:List Str}{scope:Scope}{cl:List (Str×Addr)}{C:Addr}{fp:List Addr}{Lm:St}{H':Hp}{s':Shared}{pn:List (Addr×Obj)}(I:Inv X pins σ H s) (hf:∀b∈fp,d9 X pins H b)
 (J:Inv (bt X N scope cl C s H fp pn) [] Lm H' s'):Inv X pins σ H' s':=
 I.Ay (ch:=fp) J.os J.base J.hok J.bare λb hb=>⟨(hf b hb).2.2.2.1,(hf b hb).2.1,(hf b hb).2.2.2.2.1,(hf b hb).2.2.2.2.2⟩
end
def nI (X:Cx) (ifs:List Expr) (t:TT):Prop:=
 ∀(pins:List (Addr×Obj)) (s:Shared) (σ:St) (H:Hp) (Q:Bool->Hp->Prop),Inv X pins σ H s->t σ H Q->
  wpAny (model X.prog X.w) X.A (forIn ifs true λc r=>if r=true then do let ok ← isTrue c X.env (eval c X.env); pure (ForInStep.yield ok) else pure (ForInStep.yield r)) (TP X pins σ Q) X.xe s
def jH:TT:=λ_ H Q=>Q true H
theorem bz {X:Cx} : nI X [] jH:=λpins s σ H Q I h=>by
 rw [List.forIn_nil]
 exact wpAny_pure ⟨H,I,h⟩
theorem u5 {X:Cx}{c:Expr}{t:TT}(hc:PT X c t):nI X [c] t:=λpins s σ H Q I h=>by
 rw [List.forIn_cons]
 refine wpAny_bind ?_
 rw [if_pos rfl]
 refine wpAny_bind (aE (hc pins s σ H Q I h) λb s1 h1=>?_)
 refine wpAny_pure ?_
 show wpAny _ _ (forIn [] b _) _ _ _
 rw [List.forIn_nil]
 exact wpAny_pure h1
theorem nJ {prog:Program}{w:World}{A:Around}{R:Result->Shared->Prop}{s:Shared}{elt target iter:Expr}{ifs:List Expr}{scope:Scope}{pos:Pos}{it acc:Value}{env:Env}(I:Nat->Shared->Prop)
 (turn:∀n s,I n s->wpAny (model prog w) A (pyNext it) (λr bw=>match r with
  | none=>R (.ok .next) bw
  | some v=>wpAny (model prog w) A (letOwnedTupleGo target it v) (λ_ Cw=>wpAny (model prog w) A (assign target env v) (λ_ lu=>
   wpAny (model prog w) A (forIn ifs true λc r=>if r=true then do let ok ← isTrue c env (eval c env); pure (ForInStep.yield ok) else pure (ForInStep.yield r)) (λok xa=>
    if ok=true then wpAny (model prog w) A (eval elt env) (λx Hr=>
     wpAny (model prog w) A (call (.builtin "list.append") [acc,x]) (λ_ Hs=>∃m,m<n/\I m Hs) (λ_ _=>False) Hr) (λ_ _=>False) xa
    else ∃m,m<n/\I m xa) (λ_ _=>False) lu) (λ_ _=>False) Cw) (λ_ _=>False) bw) (λ_ _=>False) s)
 (n:Nat) (h:I n s) :
 codeAny (model prog w) A (.compLoop (.ListComp elt [⟨target,iter,ifs,0⟩] scope pos) 0 it acc env) R s:=by
 refine codeAny_loop rfl I (λn s hI=>?_) n h
 show wpAny _ A ((compTurn (.ListComp elt [⟨target,iter,ifs,0⟩] scope pos) 0 it acc env).onRaise (λx=>do noteFrame x env; theTreesLotGoes x)) _ _ s
 refine wpAny_noted ?_
 rw [compTurn_list]
 refine wpAny_bind (wpAny_standAt (wpAny_bind (wpAny_mono (turn n s hI) (λr bw gY=>?_) λ_ _ h'=>h'.elim)))
 cases r with
 | none=>exact wpAny_pure gY
 | some v=>
  refine wpAny_bind (wpAny_mono gY (λ_ Cw Ht=>?_) λ_ _ h'=>h'.elim)
  refine wpAny_bind (wpAny_mono Ht (λ_ lu nt=>wpAny_bind (wpAny_mono nt (λok xa qO=>?_) λ_ _ h'=>h'.elim)) λ_ _ h'=>h'.elim)
  cases ok with
  | false=>exact wpAny_pure ⟨rfl,qO⟩
  | true=>
   exact wpAny_bind (wpAny_bind (wpAny_mono qO (λx Hr yo=>wpAny_bind (wpAny_mono yo (λ_ Hs iN=>wpAny_pure (wpAny_pure ⟨rfl,iN⟩)) λ_ _ h'=>h'.elim)) λ_ _ h'=>h'.elim))
def sY (D:Addr) (g:TG) (ti:TT) (te:TE) (J:It) (W:Nat->Nat->St->Hp->Prop) (Q:Hp->Prop):Prop:=∀i m σ H,W i m σ H->
 (J.stop i H/\Q H)\/(J.go i H/\∀x H',J.yld i H x H'->g x σ H' λfw H2=>ti fw H2 λb H3=>
  if b=true then te fw H3 λy H4=>∃acc,H4 D=some (.lst acc)/\acc.length<sizeLine/\∃m',m'<m/\W (i+1) m' fw (upd H4 D (.lst (acc++[y])))
  else ∃m',m'<m/\W (i+1) m' fw H3)
def yp (js:List (Option Nat)) (wi:TI) (g:TG) (ti:TT) (te:TE):TE:=λσ H Q=>wi σ H λJ H1=>∀D,H1 D=none->
 ∃W:Nat->Nat->St->Hp->Prop,(∃m,W 0 m (i9 js σ) (upd H1 D (.lst [])))/\sY D g ti te J W (λH'=>Q (.ref D) H')
section
variable {X:Cx}{N:List Str}{js:List (Option Nat)}{scope:Scope}{elt tg iter:Expr}{ifs:List Expr}{pos:Pos}{wi:TI}{g:TG}{ti:TT}{te:TE}
theorem sZ {use:Option (Value->Sem Unit)}{R:Value->Shared->Prop}(S:gw X N js scope) (hc:X.calm=true) (hi:PI X tg iter wi)
 (hg:∀cl C s H fp pn,PG (bt X N scope cl C s H fp pn) tg g) (ht:∀cl C s H fp pn,nI (bt X N scope cl C s H fp pn) ifs ti) (he:∀cl C s H fp pn,PE (bt X N scope cl C s H fp pn) elt te)
 (hs:∀x,foldedSetIterable iter X.env x=pure x){pins:List (Addr×Obj)}{s:Shared}{σ:St}{H:Hp}{Q:V->Hp->Prop}(I:Inv X pins σ H s) (h:yp js wi g ti te σ H Q)
 (hR:∀D C (H':Hp) (s':Shared),Inv X pins σ H' s'->(∃m,s'.heap.Ns C m)->H' C=none->C≠X.env.locals->(C∈X.ex\/X.eT.heap.objs.size<=C)->(∀x c,X.env.cells.lookup x=some c->c≠C)->(∀p∈X.pn++pins,p.1≠C)->Q (.ref D) H'->
  compPost (model X.prog X.w) X.A X.xe use R (.ref D) C (.ok .next) s') :
 wpAny (model X.prog X.w) X.A (comprehension (.ListComp elt [⟨tg,iter,ifs,0⟩] scope pos) scope X.env (firstIterPos [⟨tg,iter,ifs,0⟩] pos) (newList []) false (eval iter X.env) use) R X.xe s:=by
 obtain ⟨cl,A1,jl,yn⟩:=lD (scope:=scope) (env:=X.env) λx hx hk=>I.ok.has x.1 (S.frees x hx hk)
 refine wpAny_comprehension_free (use:=use) rfl hs A1 S.kind S.names (aE (hi pins s σ H _ I h) λxv s1 h1=>aE h1 λxW s2 h2=>?_)
 obtain ⟨it,fp,tn,J,H2,e,I2,T,vM,f2,q2⟩:=h2
 subst e
 refine wpAny_newObj_type (wpAny_newFunctionEnv S.nocell (by intro y hy; simp at hy) (λgY u6 u7=>?_) S.kind)
 dsimp only at u6 u7 ⊢
 have I3:Inv X pins σ (upd H2 s2.heap.objs.size (.lst [])) { s2 with heap:=s2.heap.push { cls:=.type "list",data:=.seq ([]:List Value).toArray },toks:=s2.toks }:=I2.uY .nil (by show 0<=sizeLine; decide)
 have lt2:∀b∈fp,b<s2.heap.objs.size:=λb hb=>let ⟨o,e,_⟩:=T.obj _ _ vM b hb; Heap.lt_size e
 have f3:∀b∈fp,d9 X pins (upd H2 s2.heap.objs.size (.lst [])) b:=λb hb=>⟨by rw [ai (Nat.ne_of_lt (lt2 b hb))]; exact (f2 b hb).1,(f2 b hb).2⟩
 obtain ⟨W,⟨m0,w0⟩,turn⟩:=q2 s2.heap.objs.size (I2.hok.fresh (Nat.le_refl _))
 generalize vY:({ s2 with heap:=s2.heap.push { cls:=.type "list",data:=.seq ([]:List Value).toArray },toks:=s2.toks } : Shared)=s3 at I3
 have e3:s3.heap=s2.heap.push { cls:=.type "list",data:=.seq ([]:List Value).toArray }:=by rw [← vY]
 have z3:s3.heap.objs.size=s2.heap.objs.size+1:=by rw [e3,Heap.size_push]
 have k1:∀b o,s3.heap.get? b=some o->gY.get? b=some o:=λb o e=>by
  have hb:b<s3.heap.objs.size:=Heap.lt_size e
  refine u7.extBut b o ?_ (Heap.get?_push_of_some _ (by rw [← e3]; exact e))
  rw [← e3]
  exact Nat.ne_of_lt hb
 have hC:(s2.heap.push { cls:=.type "list",data:=.seq ([]:List Value).toArray }).objs.size=s3.heap.objs.size:=by rw [e3]
 have I4:=I3.enter (N:=N) (js:=js) (scope:=scope) (cl:=cl) (fp:=fp) (C:=(s2.heap.push { cls:=.type "list",data:=.seq ([]:List Value).toArray }).objs.size) (h':=gY) (tk:=s2.toks+([]:List (Str×Value)).length) S hc jl yn hC f3
  (λb hb=>by rw [z3]; exact Nat.lt_succ_of_lt (lt2 b hb)) u6 k1
 have Cy:tn 0 gY:=T.keep _ _ _ vM λb hb o e=>k1 b o (by rw [e3]; exact Heap.get?_push_of_some _ e)
 generalize LC:(s2.heap.push { cls:=.type "list",data:=.seq ([]:List Value).toArray }).objs.size=C at u6 u7 hC I4 ⊢
 have Hu:({ s3 with heap:=gY,toks:=s2.toks+([]:List (Str×Value)).length } : Shared) = { s2 with heap:=gY,toks:=s2.toks+([]:List (Str×Value)).length }:=by rw [← vY]
 rw [Hu] at I4
 have fY:∀{H':Hp},(∀b∈fp,H' b=none)->∀b∈fp,d9 (bt X N scope cl C s3 (upd H2 s2.heap.objs.size (.lst [])) fp (X.pn++pins)) [] H' b:=λhn b hb=>by
  obtain ⟨f0,fa,fb,fc,fd,fe⟩:=f3 b hb
  refine ⟨hn b hb,?_,λz=>(List.mem_cons.mp (I3.jV b z)).elim fa fb,.inl hb,λx c e=>fd x c (jl x c e),λp hp=>fe p (by simpa [bt] using hp)⟩
  show b≠C
  rw [hC,z3]
  exact Nat.ne_of_lt (Nat.lt_succ_of_lt (lt2 b hb))
 have loop:codeAny (model X.prog X.w) X.A (.compLoop (.ListComp elt [⟨tg,iter,ifs,0⟩] scope pos) 0 (.ref it) (.ref s2.heap.objs.size) (compEnvC scope cl C X.env))
  (compPost (model X.prog X.w) X.A X.xe use R (.ref s2.heap.objs.size) C) { s2 with heap:=gY,toks:=s2.toks+([]:List (Str×Value)).length }:=by
  refine nJ (λn s'=>∃i bW H',Inv (bt X N scope cl C s3 (upd H2 s2.heap.objs.size (.lst [])) fp (X.pn++pins)) [] bW H' s'/\tn i s'.heap/\(∀b∈fp,H' b=none)/\W i n bW H') ?_ m0
   ⟨0,_,_,I4,Cy,λb hb=>(f3 b hb).1,w0⟩
  rintro n s5 ⟨i,A2,H5,I5,pG,vN,w5⟩
  rcases turn i n A2 H5 w5 with ⟨stop,qn⟩ | ⟨go,step⟩
  . refine aE (T.done (bt X N scope cl C s3 (upd H2 s2.heap.objs.size (.lst [])) fp (X.pn++pins)) rfl rfl rfl rfl i [] s5 A2 H5 (λ_ _=>False) I5 (fY vN) pG stop) λr s6 ⟨hr,I6⟩=>?_
    subst hr
    have I7:Inv X pins σ H5 s6:=I3.left f3 I6
    have Hv:X.eT.heap.objs.size<=C:=by rw [hC]; exact I3.sz
    refine hR s2.heap.objs.size C H5 s6 I7 (let ⟨m,hn,_⟩:=I6.loc; ⟨m,hn⟩) I6.free ?_ (.inr Hv) (λx c e z=>?_) (λp hp z=>?_) qn
    . rw [hC]
      exact Nat.ne_of_gt I3.lt
    . obtain ⟨v,o,ho,_⟩:=I3.cell x c e
      have:=Heap.lt_size ho
      rw [z,hC] at this
      exact Nat.lt_irrefl _ this
    . obtain ⟨e,_⟩:=I3.pin p hp
      have:=Heap.lt_size e
      rw [z,hC] at this
      exact Nat.lt_irrefl _ this
  . refine aE (T.item (bt X N scope cl C s3 (upd H2 s2.heap.objs.size (.lst [])) fp (X.pn++pins)) rfl rfl rfl rfl i [] s5 A2 H5 (λ_ _=>False) I5 (fY vN) pG go) λr s6 ⟨u,hr,h6⟩=>?_
    subst hr
    refine aE h6 λ_ s7 ⟨x,H7,I7,r7,y7,yq,Hw⟩=>?_
    have Hy:=I7.pinned (fY Hw) (T.obj _ _ yq)
    have again:∀{n':Nat}{tf:St}{H8:Hp}{s8:Shared},Inv (bt X N scope cl C s3 (upd H2 s2.heap.objs.size (.lst [])) fp (X.pn++pins)) ([]++iB fp s7.heap) tf H8 s8->n'<n->W (i+1) n' tf H8->
     ∃m,m<n/\∃i bW H',Inv (bt X N scope cl C s3 (upd H2 s2.heap.objs.size (.lst [])) fp (X.pn++pins)) [] bW H' s8/\tn i s8.heap/\(∀b∈fp,H' b=none)/\W i m bW H':=λ{n' tf H8 s8} I8 hm w8=>by
     refine ⟨n',hm,i+1,tf,H8,I8.gQ,T.keep _ _ _ yq λb hb o e=>(I8.pin (b,o) (List.mem_append_right _ (List.mem_append_right _ (eZ hb e)))).1,λb hb=>?_,w8⟩
     obtain ⟨o,e,d⟩:=T.obj _ _ yq b hb
     exact (I8.pin (b,o) (List.mem_append_right _ (List.mem_append_right _ (eZ hb e)))).2.1
    refine aE (hg _ _ _ _ _ _ _ s7 A2 H7 x u _ Hy r7 (step x H7 y7)) λ_ s8 ⟨tf,H8,I8,q8⟩=>?_
    refine aE (ht _ _ _ _ _ _ _ s8 tf H8 _ I8 q8) λok s9 ⟨H9,I9,q9⟩=>?_
    cases ok with
    | false=>
     rw [if_neg Bool.false_ne_true] at q9 ⊢
     obtain ⟨m',hm,w9⟩:=q9
     exact again I9 hm w9
    | true=>
     rw [if_pos rfl] at q9 ⊢
     refine aE (he _ _ _ _ _ _ _ s9 tf H9 _ I9 q9) λyv Hz ⟨y,Cz,HA,HB,acc,hD,hl,m',hm,HC⟩=>?_
     refine aE (gh _ Hz tf Cz (.ref s2.heap.objs.size) [y] (.ref s2.heap.objs.size) [yv] (λ_ H'=>H'=upd Cz s2.heap.objs.size (.lst (acc++[y]))) HA rfl (.cons HB .nil) ⟨s2.heap.objs.size,acc,y,rfl,rfl,hD,hl,rfl⟩) λ_ LD ⟨_,LF,HD,_,HE⟩=>?_
     subst HE
     exact again HD hm HC
 exact codeAny_compStart_list loop (T.self _ 0 _ _ _ Cy loop)
theorem dj (S:kg X.N X.env.scope.names N js scope=true) (hc:X.calm=true) (hi:PI X tg iter wi)
 (hg:∀cl C s H fp pn,PG (bt X N scope cl C s H fp pn) tg g) (ht:∀cl C s H fp pn,nI (bt X N scope cl C s H fp pn) ifs ti) (he:∀cl C s H fp pn,PE (bt X N scope cl C s H fp pn) elt te)
 (hs:∀x,foldedSetIterable iter X.env x=pure x:=by intro _; rfl):PE X (.ListComp elt [⟨tg,iter,ifs,0⟩] scope pos) (yp js wi g ti te):=by
 intro pins s σ H Q I h
 rw [eval_ListComp]
 refine sZ (use:=none) (gw.of S) hc hi hg ht he hs I h ?_
 rintro D C H' s' I' ⟨m,hn⟩ c1 c2 c3 c4 c5 q
 refine ⟨m,hn,λh' yr=>?_⟩
 exact ⟨.ref D,H',I'.turned (t':=s'.toks) (λb o hb e=>yr.extBut b o hb e) c1 c2 c3 c4 c5,rfl,q⟩
theorem qU {i:Nat}{x:Str}{pos' yt:Pos}(hN:X.N.Nodup) (HF:X.N[i]?=some x) (hx:X.env.scope.names.lookup x=some .local) (S:kg X.N X.env.scope.names N js scope=true) (hc:X.calm=true) (hi:PI X tg iter wi)
 (hg:∀cl C s H fp pn,PG (bt X N scope cl C s H fp pn) tg g) (ht:∀cl C s H fp pn,nI (bt X N scope cl C s H fp pn) ifs ti) (he:∀cl C s H fp pn,PE (bt X N scope cl C s H fp pn) elt te)
 (HG:swapsWith (.ListComp elt [⟨tg,iter,ifs,0⟩] scope pos) (some (.Name x pos')) yt.line X.env=pure true:=by rfl)
 (hs:∀x,foldedSetIterable iter X.env x=pure x:=by intro _; rfl):PS X (.Assign [.Name x pos'] (.ListComp elt [⟨tg,iter,ifs,0⟩] scope pos) yt) (uM (yp js wi g ti te) (cD i)):=by
 intro pins s σ H D I h
 rw [exec_Assign_Name_used _ _ _ _ HG]
 refine wpAny_bind (wpAny_standAt (wpAny_bind ?_))
 show wpAny _ X.A (do let _ ← comprehension (.ListComp elt [⟨tg,iter,ifs,0⟩] scope pos) scope X.env _ (newList []) false (eval iter X.env) (some (assign (.Name x pos') X.env))) _ _ s
 refine wpAny_bind (aE (sZ (use:=some (assign (.Name x pos') X.env)) (R:=λ_ s'=>SP X pins D .next s') (gw.of S) hc hi hg ht he hs I h ?_) λ_ s' hq=>wpAny_pure (wpAny_pure hq))
 rintro Dd C H' s' I' ⟨m,hn⟩ c1 c2 c3 c4 c5 q
 show wpAny _ X.A (assign (.Name x pos') X.env (.ref Dd)) _ _ _
 refine wpAny_assign_Name (lP I' hN HF (.inl hx) (v:=.ref Dd) rfl (λsH HH ⟨a,sb,ha⟩=>?_) (.inr hx))
 have ea:a≠C:=by
  rcases ha with ha | ha
  . rw [ha]
    exact Ne.symm c2
  . exact c4 x a ha
 refine ⟨m,hn.sameBut sb (Ne.symm ea),λh' yr=>?_⟩
 exact ⟨_,_,HH.turned (t':=sH.toks) (λb o hb e=>yr.extBut b o hb e) c1 c2 c3 c4 c5,q⟩
end
def vZ (D:Addr) (n:Nat) (Pv:Nat->List V->St->Hp->Prop):Nat->Nat->St->Hp->Prop:=λi m σ H=>i<=n/\m=n-i/\∃acc,H D=some (.lst acc)/\Pv i acc σ H
theorem cG {D:Addr}{n i:Nat}{Pv:Nat->List V->St->Hp->Prop}{acc:List V}{σ:St}{H:Hp}(hi:i<n) (hD:H D=some (.lst acc)) (hp:Pv (i+1) acc σ H):∃m',m'<n-i/\vZ D n Pv (i+1) m' σ H:=
 ⟨n-(i+1),by omega,hi,rfl,acc,hD,hp⟩
theorem gi {D:Addr}{g:TG}{ti:TT}{te:TE}{J:It}{Q:Hp->Prop}{HI:St}{H0:Hp}(n:Nat) (Pv:Nat->List V->St->Hp->Prop) (h0:Pv 0 [] HI H0) (HJ:H0 D=some (.lst []))
 (fin:∀acc σ H,H D=some (.lst acc)->Pv n acc σ H->J.stop n H/\Q H)
 (step:∀i acc σ H,i<n->H D=some (.lst acc)->Pv i acc σ H->J.go i H/\∀x H',J.yld i H x H'->g x σ H' λfw H2=>ti fw H2 λb H3=>
  if b=true then te fw H3 λy H4=>∃acc,H4 D=some (.lst acc)/\acc.length<sizeLine/\∃m',m'<n-i/\vZ D n Pv (i+1) m' fw (upd H4 D (.lst (acc++[y]))) else ∃m',m'<n-i/\vZ D n Pv (i+1) m' fw H3) :
 ∃W:Nat->Nat->St->Hp->Prop,(∃m,W 0 m HI H0)/\sY D g ti te J W Q:=by
 refine ⟨vZ D n Pv,⟨n,Nat.zero_le _,rfl,[],HJ,h0⟩,?_⟩
 rintro i m σ H ⟨hi,rfl,acc,hD,hp⟩
 rcases Nat.lt_or_ge i n with h | h
 . exact .inr (step i acc σ H h hD hp)
 . have e:i=n:=Nat.le_antisymm hi h
   subst e
   exact .inl (fin acc σ H hD hp)
end L2
namespace L2
open PySem PySem.Spec PyProof.Rows
section
variable {X:Cx}{pins:List (Addr×Obj)}{σ:St}{H:Hp}{s:Shared}{h':Heap}
theorem Inv.pP {t':Nat}{fp:List Addr}(I:Inv X pins σ H s) (hf:∀b∈fp,d9 X pins H b) (k:∀b o,b∉fp->s.heap.get? b=some o->h'.get? b=some o):Inv X pins σ H { s with heap:=h',toks:=t' }:=by
 have tj:∀b u,H b=some u->b∉fp:=λb u e z=>by rw [(hf b z).1] at e; cases e
 refine I.step (g':=s.gens) (d':=s.drawn) (ch:=fp) (λb hb=>⟨(hf b hb).2.2.2.1,(hf b hb).2.1,(hf b hb).2.2.2.2.1,(hf b hb).2.2.2.2.2⟩) (λb o _ _ hc e _=>k b o hc e) (λb o _ _ hc e _=>⟨o.slots,k b o hc e⟩) (λ_ _ _ _ n=>n)
  (λb o hc e=>⟨o,k b o hc e⟩) (λ_ _ e=>e) (λ_ _ _ e=>e) (λb ps e=>⟨#[],by rw [e]; simp⟩) (λm hm=>?_) (λb u e=>?_) I.bare
 . obtain ⟨o,es,ep,ho,r⟩:=hm
   exact ⟨o,es,ep,k _ o (λz=>(hf _ z).2.1 rfl) ho,r⟩
 . refine (I.hok b u e).dc (λc v hc q=>k c v ?_ q) (λ_ q=>q) λ_ _ q=>q
   rcases hc with z | z
   . rw [z]; exact tj b u e
   . exact tj c _ z
theorem Inv.pQ {t':Nat}{fp:List Addr}{T:Addr}{xs:List V}{its:List Value}(I:Inv X pins σ H s) (hf:∀b∈fp,d9 X pins H b) (k:∀b o,b∉fp->s.heap.get? b=some o->h'.get? b=some o)
 (hT:s.heap.objs.size<=T) (ht:IsTup h' T its.toArray) (rv:Vals xs its) (hz:xs.length<=sizeLine):Inv X pins σ (upd H T (.tup xs)) { s with heap:=h',toks:=t' }:=by
 have tj:∀b u,H b=some u->b∉fp:=λb u e z=>by rw [(hf b z).1] at e; cases e
 have pR:H T=none:=I.hok.fresh hT
 have neT:∀b u,H b=some u->b≠T:=λb u e z=>by rw [z,pR] at e; cases e
 have HK:∀b o,s.heap.get? b=some o->b≠T:=λb o e=>Nat.ne_of_lt (Nat.lt_of_lt_of_le (Heap.lt_size e) hT)
 refine I.step (g':=s.gens) (d':=s.drawn) (ch:=fp) (λb hb=>⟨(hf b hb).2.2.2.1,(hf b hb).2.1,(hf b hb).2.2.2.2.1,(hf b hb).2.2.2.2.2⟩) (λb o _ _ hc e _=>k b o hc e) (λb o _ _ hc e _=>⟨o.slots,k b o hc e⟩)
  (λb o _ e n=>by rw [ai (HK b o e)]; exact n) (λb o hc e=>⟨o,k b o hc e⟩) (λb ys e=>by rw [ai (neT b _ e)]; exact e) (λb o u e=>by rw [ai (neT b _ e)]; exact e)
  (λb ps e=>⟨#[],by rw [ai (neT b _ e),e]; simp⟩) (λm hm=>?_) (λb u e=>?_) I.bare
 . obtain ⟨o,es,ep,ho,r⟩:=hm
   exact ⟨o,es,ep,k _ o (λz=>(hf _ z).2.1 rfl) ho,r⟩
 . by_cases hb:b=T
   . subst hb
     rw [ag] at e
     cases e
     exact ⟨hz,its,rv,ht⟩
   . rw [ai hb] at e
     refine (I.hok b u e).dc (λc v hc q=>k c v ?_ q) (λc q=>by rw [ai (neT c _ q)]; exact q) λc ys q=>by rw [ai (neT c _ q)]; exact q
     rcases hc with z | z
     . rw [z]; exact tj b u e
     . exact tj c _ z
end
def yu (z:Str):It:=⟨λi _=>i<z.cps.size,λi H x H'=>H'=H/\∃c,z.cps[i]?=some c/\x=.str ⟨#[c]⟩,λi _=>i=z.cps.size⟩
theorem nK {P:Program}{w:World}{K:W.Frag}{tg:Expr}(it:Addr) (z:Str) (t:Tok) (ty:String) (W:∀A:Around,A.handled=none->Walks P w A it [it] [it] z.cps.size (SignAt z) (λi h=>h.IsStrIter it ty z t i))
 (hs:∀(A:Around) (i:Nat) (s:Shared) (Q:Value->Shared->Prop) (E:Value->Shared->Prop),s.heap.IsStrIter it ty z t i->Q (.ref it) s->wpAny (model P w) A (pyIter (.ref it)) Q E s)
 (hn:["enumerate", "zip", "dict_itemiterator", "dict_reverseitemiterator", "odict_iterator", "itertools.zip_longest", "itertools.pairwise"].contains ty=false) :
 Turn P w K tg (yu z) [it] it (λi h=>h.IsStrIter it ty z t i) where
 mem:=by simp
 obj:=λi h st b hb=>by
  have e:b=it:=by simpa using hb
  subst e
  obtain ⟨o,e,c,d⟩:=st
  exact ⟨o,e,λv z=>by rw [d] at z; cases z⟩
 keep:=λi h h' st k=>let ⟨o,e,r⟩:=st; ⟨o,k it (by simp) o e,r⟩
 item:=by
  intro X hP hw hK hc i pins s σ H E I hf st hg
  subst hP hw hK
  obtain ⟨f0,f1,f2,f3,f4,f5⟩:=hf it (by simp)
  refine (W X.A (I.ok.hd hc)).item i s _ _ hg st λv h' tk hv lQ kk=>?_
  obtain ⟨c,u,ec,rfl⟩:=hv
  have I1:Inv X pins σ H { s with heap:=h',toks:=tk }:=I.turned (λb o hb e=>kk b o (by simpa using hb) e) f0 f1 f3 f4 f5
  obtain ⟨o,e,oc,od⟩:=id lQ
  exact ⟨_,rfl,qE (s:={ s with heap:=h',toks:=tk }) e oc od hn ⟨.str ⟨#[c]⟩,H,I1,⟨u,rfl⟩,⟨rfl,c,ec,rfl⟩,lQ,λb hb=>(hf b hb).1⟩⟩
 done:=by
  intro X hP hw hK hc i pins s σ H E I hf st hg
  subst hP hw hK
  obtain ⟨f0,f1,f2,f3,f4,f5⟩:=hf it (by simp)
  have HL:i=z.cps.size:=hg
  subst HL
  exact (W X.A (I.ok.hd hc)).done s _ _ st λh' tk kk=>⟨rfl,I.turned (λb o hb e=>kk b o (by simpa using hb) e) f0 f1 f3 f4 f5⟩
 self:=λA i s Q E st h=>hs A i s Q E st h
section
variable {X:Cx}{tg:Expr}
def ED (ts:TE):TI:=λσ H R=>ts σ H λx H1=>∃z,x=.str z/\R (yu z) H1
theorem kh {l:Expr}{tl:TE}(hl:PE X l tl):PI X tg l (ED tl):=by
 intro pins s σ H R I h
 refine aE (hl pins s σ H _ I h) λv s1 ⟨x,H1,I1,r1,q1⟩=>?_
 obtain ⟨z,e,q⟩:=q1
 subst e
 obtain ⟨t,rfl⟩:=r1
 have fin:∀b∈[s1.heap.objs.size],d9 X pins H1 b:=λb hb=>by
  have e:b=s1.heap.objs.size:=by simpa using hb
  subst e
  exact I1.ng (Nat.le_refl _) (I1.hok.fresh (Nat.le_refl _))
 cases ha:z.cps.all (· < 128) with
 | true=>
  refine wpAny_pyIter_ascii ha ?_
  exact ⟨s1.heap.objs.size,[s1.heap.objs.size],_,_,H1,rfl,I1.kept (t':=s1.toks) λb o e=>Heap.get?_push_of_some _ e,
   nK _ z t "str_ascii_iterator" (λA hA=>Walks.strAscii hA _ z t) (λ_ _ _ _ _ st h=>wpAny_pyIter_striter_ascii st h) (by decide),⟨_,Heap.get?_push_size _ rfl,rfl,rfl⟩,fin,q⟩
 | false=>
  refine wpAny_pyIter_wide ha ?_
  exact ⟨s1.heap.objs.size,[s1.heap.objs.size],_,_,H1,rfl,I1.kept (t':=s1.toks) λb o e=>Heap.get?_push_of_some _ e,
   nK _ z t "str_iterator" (λA hA=>Walks.strWide hA _ z t) (λ_ _ _ _ _ st h=>wpAny_pyIter_striter_wide st h) (by decide),⟨_,Heap.get?_push_size _ rfl,rfl,rfl⟩,fin,q⟩
end
def CA (K:W.Frag) (a:Addr):It:=
 ⟨λi H=>∃xs x,ay K H a xs/\xs[i]?=some x,λi H v H'=>∃T x,v=.ref T/\H T=none/\H'=upd H T (.tup [.int (i:Int),x])/\∀xs,ay K H a xs->xs[i]?=some x,λi H=>∃xs,ay K H a xs/\xs.length<=i⟩
theorem tm {P:Program}{w:World}{K:W.Frag}{es:List Expr}{kk:Nat}{tp:Pos}(a e it:Addr) (CB:e≠it):Turn P w K (.Tuple es kk tp) (CA K a) [e,it] e (λi h=>(∃old,IsEnum h e it (i:Int) old)/\h.IsListIter it a i) where
 mem:=by simp
 obj:=λi h st b hb=>by
  obtain ⟨⟨old,he⟩,o,e1,c,d⟩:=st
  rcases List.mem_cons.mp hb with z | z
  . subst z
    exact ⟨_,he,λv z=>by
     have z':Data.fields _=Data.cell v:=z
     cases z'⟩
  . have z':b=it:=by simpa using z
    subst z'
    exact ⟨o,e1,λv z=>by rw [d] at z; cases z⟩
 keep:=λi h h' st k=>⟨let ⟨old,he⟩:=st.1; ⟨old,k e (by simp) _ he⟩,st.2.at λo e1=>k it (by simp) o e1⟩
 item:=by
  intro X hP hw hK hc i pins s σ H E I hf st hg
  subst hP hw hK
  obtain ⟨xs,x,hq,hx⟩:=hg
  obtain ⟨its,rv,p,hz⟩:=I.list hq
  obtain ⟨u,hu,ru⟩:=rv.get hx
  obtain ⟨⟨old,he⟩,hit⟩:=st
  refine wpAny_pyNext_enum_item he hit p.isList (x:=u) (by simpa using hu) CB λh' ho EE hT hsz hk=>?_
  refine ⟨.ref s.heap.objs.size,rfl,?_⟩
  refine wpAny_letOwnedTupleGo_enum ho λh2 HM iD=>?_
  have CC:s.heap.objs.size≠e:=Nat.ne_of_gt (Heap.lt_size he)
  have HN:h2.get? s.heap.objs.size=some { cls:=.type "tuple",data:=.seq #[.int i s.toks,u] }:=(iD.2 _ CC).trans hT
  have I1:Inv X pins σ (upd H s.heap.objs.size (.tup [.int (i:Int),x])) { s with heap:=h2,toks:=s.toks+1 }:=I.pQ (its:=[.int i s.toks,u]) hf (λb o hb e1=>by
   have b1:b≠e:=λz=>hb (by simp [z])
   have b2:b≠it:=λz=>hb (by simp [z])
   exact (iD.2 b b1).trans (hk b o b1 b2 e1)) (Nat.le_refl _) ⟨_,HN,rfl,_,rfl⟩ (.cons ⟨_,rfl⟩ (.cons ru .nil)) (by show 2<=sizeLine; decide)
  have fr:H s.heap.objs.size=none:=I.hok.fresh (Nat.le_refl _)
  refine ⟨.ref s.heap.objs.size,_,I1,rfl,⟨s.heap.objs.size,x,rfl,fr,rfl,λys hy=>by rw [I.mW hy hq]; exact hx⟩,⟨⟨u,?_⟩,EE.at λo e1=>(iD.2 it CB.symm).trans e1⟩,λb hb=>?_⟩
  . have e3:(((i+1:Nat):Nat):Int)=(i:Int)+1:=by omega
    rw [e3]
    exact HM
  . have ki:=(hf b hb).1
    have nb:b≠s.heap.objs.size:=by
     rcases List.mem_cons.mp hb with z | z
     . rw [z]; exact Ne.symm CC
     . have z':b=it:=by simpa using z
       rw [z']
       obtain ⟨o,e1,_⟩:=hit
       exact Nat.ne_of_lt (Heap.lt_size e1)
    rw [ai nb]
    exact ki
 done:=by
  intro X hP hw hK hc i pins s σ H E I hf st hg
  subst hP hw hK
  obtain ⟨xs,hq,hx⟩:=hg
  obtain ⟨its,rv,p,hz⟩:=I.list hq
  obtain ⟨⟨old,he⟩,hit⟩:=st
  have hl:=rv.length
  exact wpAny_pyNext_enum_end (I.ok.hd hc) he hit p.isList (by simp; omega) λh' eb=>⟨rfl,I.pP (t':=s.toks) hf λb o hb e1=>eb b o (λz=>hb (by simp [z])) e1⟩
 self:=λ_ _ _ _ _ st h=>let ⟨old,he⟩:=st.1; wpAny_pyIter_enum he h
section
variable {X:Cx}
def A3 (K:W.Frag) (ta:TA):TI:=λσ H R=>ta σ H λvs H1=>∃a,vs=[.ref a]/\(∃xs,ay K H1 a xs)/\R (CA K a) H1
theorem xl {es:List Expr}{kk:Nat}{tp:Pos}{a:Expr}{ta:TA}{p pos:Pos}(hg:Gl X "enumerate") (hm:X.mg "enumerate" = none) (ha:PA X [a] ta) (hs:starEach [a] X.env=[(false,eval a X.env)]:=by rfl) :
 PI X (.Tuple es kk tp) (.Call (.Name "enumerate" p) [a] [] pos) (A3 X.K ta):=by
 intro pins s σ H R I h
 refine Call_ (eI I hg hm boot_enumerate (PyProof.Rows.callWith_type1 (aE (ha pos pins s σ H _ I h) λus s1 ⟨vs,H1,I1,r1,q1⟩=>?_) hs rfl))
 obtain ⟨l,e,⟨xs,hq⟩,q⟩:=q1
 subst e
 cases r1 with
 | cons r rr=>
  cases rr
  cases r
  obtain ⟨its,rv,pl,hz⟩:=I1.list hq
  refine call_enumerate_list pl.isList λh' he hit hsz hk=>?_
  refine wpAny_pyIter_enum he ?_
  have I2:Inv X pins σ H1 { s1 with heap:=h' }:=I1.kept (t':=s1.toks) hk
  refine ⟨s1.heap.objs.size+1,[s1.heap.objs.size+1,s1.heap.objs.size],_,_,H1,rfl,I2,tm l _ _ (Nat.ne_of_gt (Nat.lt_succ_self _)),⟨⟨_,he⟩,hit⟩,λb hb=>?_,q⟩
  have ki:s1.heap.objs.size<=b:=by
   rcases List.mem_cons.mp hb with z | z
   . rw [z]; exact Nat.le_succ _
   . have z':b=s1.heap.objs.size:=by simpa using z
     rw [z']; exact Nat.le_refl _
  exact I1.ng ki (I1.hok.fresh ki)
end
section
variable {X:Cx}
def EF:V->Option Int->Option Int->Hp->VK->Prop:=λx lo hi H Q=>∃z j,x=.str z/\lo=none/\hi=some j/\z.length<=sizeLine/\Q (.str (Txt.slice z none (some j))) H
theorem kj:ye X EF:=by
 intro pins s σ H x v vl vu lo hi sl Q I rx hs pl pu h
 obtain ⟨z,j,rfl,rfl,rfl,hz,q⟩:=h
 obtain ⟨t,rfl⟩:=rx
 cases pl
 cases pu with
 | int _ uj=>
  refine ⟨"str",_,F.slot_str_getitem.lookup,typeIs_str _ _ _,wpAny_getItem_str_slice (l:=none) (u:=some (j,uj)) (st:=none) hs rfl
   (post_val_or_str ⟨Nat.le_trans (Txt.slice_le z _ _) hz,λt' k=>⟨.str (Txt.slice z none (some j)),H,I.tok k,⟨t',rfl⟩,q⟩⟩)⟩
def rJoin (K:W.Frag):V->List V->Hp->VK->Prop:=λx vs H Q=>∃z a ys,x=.str z/\vs=[.ref a]/\ay K H a (ys.map V.str)/\(ys.map (·.length)).sum+ys.length*z.length<=16777216/\Q (.str (Txt.join z ys)) H
theorem km:∀{ys:List Str}{us:List Value},Vals (ys.map V.str) us->StrsAre us ys
 | [],us,r=>by
  cases r
  exact .nil
 | y::ys,us,r=>by
  cases r with
  | cons h t=>
   obtain ⟨tk,rfl⟩:=h
   exact .cons _ _ (km t)
theorem xm:vU X "str.join" (rJoin X.K):=by
 intro pins s σ H x vs v us Q I rx rv h
 obtain ⟨z,a,ys,rfl,rfl,hq,hl,q⟩:=h
 obtain ⟨t,rfl⟩:=rx
 obtain ⟨u,rfl,ru⟩:=rv.one
 cases ru
 obtain ⟨its,r,pl,_⟩:=I.list hq
 exact join_list pl.isList (by simpa using km r) hl λt' k=>⟨.str (Txt.join z ys),H,I.tok k,⟨t',rfl⟩,q⟩
def yw:V->List V->Hp->VK->Prop:=λx vs H Q=>∃z y,x=.str z/\vs=[.str y]/\z.length<=sizeLine/\(y.length == 0)=false/\
 (Builtin.Str.partsBetween z (Builtin.Str.occurrences z y 0 z.length (z.length+1)) y.length).length<=sizeLine/\∀p,H p=none->Q (.ref p) (upd H p (.lst ((Txt.split z y).map V.str)))
theorem iu:∀(tk:Nat) (xs:List Str),Vals (xs.map V.str) (strValues (numbered tk xs))
 | _,[]=>.nil
 | tk,x::r=>.cons ⟨tk,rfl⟩ (iu (tk+1) r)
theorem split_le (z y:Str) (h:(Builtin.Str.partsBetween z (Builtin.Str.occurrences z y 0 z.length (z.length+1)) y.length).length<=sizeLine):(Txt.split z y).length<=sizeLine:=by
 unfold Txt.split
 split
 . show 1<=sizeLine; decide
 . split
   . show 1<=sizeLine; decide
   . exact h
theorem u9:vU X "str.split" yw:=by
 intro pins s σ H x vs v us Q I rx rv h
 obtain ⟨z,y,rfl,rfl,hz,hy,hl,q⟩:=h
 obtain ⟨t,rfl⟩:=rx
 obtain ⟨u,rfl,tu,rfl⟩:=rv.one
 have ko:=split_le z y hl
 have fin:∀(l:List (Str×Tok)) (tk:Nat),Vals ((Txt.split z y).map V.str) (strValues l)->
  EP X pins σ Q (.ref s.heap.objs.size) { s with heap:=s.heap.push { cls:=.type "list",data:=.seq (strValues l).toArray },toks:=tk }:=λl tk r=>
  ⟨.ref s.heap.objs.size,_,I.uY r (by rw [List.length_map]; exact ko),rfl,q _ (I.hok.fresh (Nat.le_refl _))⟩
 cases h1:(decide (z.length<y.length) || decide (Builtin.Str.strKind z<Builtin.Str.strKind y)) with
 | true=>
  refine call_meets F.slot_str_split (typeIs_str _ _ _) F.entry_str_split (F.args_str_split_2 _ _) (meets_str_split_cannot_occur z y t tu h1) ?_
  exact fin [(z,t)] s.toks (by
   have e:Txt.split z y=[z]:=if_pos h1
   rw [e]
   exact .cons ⟨t,rfl⟩ .nil)
 | false=>
  cases hf:(Builtin.Str.occurrences z y 0 z.length (z.length+1)).isEmpty with
  | true=>
   refine call_meets F.slot_str_split (typeIs_str _ _ _) F.entry_str_split (F.args_str_split_2 _ _) (meets_str_split_not_found z y t tu h1 hy hf) ?_
   exact fin [(z,t)] s.toks (by
    have e:Txt.split z y=[z]:=(if_neg (ne_true_of_eq_false h1)).trans (if_pos hf)
    rw [e]
    exact .cons ⟨t,rfl⟩ .nil)
  | false=>
   refine call_meets F.slot_str_split (typeIs_str _ _ _) F.entry_str_split (F.args_str_split_2 _ _) (meets_str_split_sep z y t tu h1 hy hf hz hl) ?_
   have e:Txt.split z y=Builtin.Str.partsBetween z (Builtin.Str.occurrences z y 0 z.length (z.length+1)) y.length:=(if_neg (ne_true_of_eq_false h1)).trans (if_neg (ne_true_of_eq_false hf))
   have:=fin (numbered s.toks (Builtin.Str.partsBetween z (Builtin.Str.occurrences z y 0 z.length (z.length+1)) y.length)) (s.toks+(Builtin.Str.partsBetween z (Builtin.Str.occurrences z y 0 z.length (z.length+1)) y.length).length) (by
    rw [e]
    exact iu _ _)
   show EP X pins σ Q _ { s with toks:=_,heap:=s.heap.push { cls:=.type "list",data:=.seq (strsFrom s.toks (Builtin.Str.partsBetween z (Builtin.Str.occurrences z y 0 z.length (z.length+1)) y.length)).toArray } }
   rw [strsFrom_eq]
   exact this
end
section
variable {X:Cx}
end
section
variable {prog:Program}{w:World}{A:Around}{E:Value->Shared->Prop}
end
section
variable {X:Cx}{pos:Pos}
end
end L2
namespace Gen
open PySem
theorem nL {α:Type}[DecidableEq α]:∀(l t:List α),l.Nodup->(∀x∈l,x∈t)->l.length<=t.length
 | [],t,_,_=>Nat.zero_le _
 | a::l,t,hn,hs=>by
  have ha:a∈t:=hs a List.mem_cons_self
  obtain ⟨h1,h2⟩:=List.nodup_cons.mp hn
  have:=nL l (t.erase a) h2 λx hx=>(List.mem_erase_of_ne (λ(e:x=a)=>h1 (by rw [← e]; exact hx))).mpr (hs x (List.mem_cons_of_mem _ hx))
  rw [List.length_erase_of_mem ha] at this
  have:0<t.length:=List.length_pos_of_mem ha
  simp only [List.length_cons]
  omega
theorem qV (k len:Nat):Builtin.Str.strSliceIndices none (some (k:Int)) 1 len=List.range (min k len):=by
 have h1:¬ ((k:Int)<0):=by omega
 have e:max (0:Int) (min (k:Int) (len:Int))=((min k len:Nat):Int):=by omega
 simp only [Builtin.Str.strSliceIndices,sliceRange,h1,if_false,show ((1:Int)>0)=True from by simp,if_true,e]
 by_cases h:(0:Int)<((min k len:Nat):Int)
 . have e3:(((min k len:Nat):Int)-0+1-1) / 1=((min k len:Nat):Int):=by simp
   rw [if_pos h,e3,Int.toNat_natCast]
   conv=>rhs; rw [← List.map_id (List.range (min k len))]
   exact List.map_congr_left λj _=>by simp
 . have:min k len=0:=by omega
   simp [this]
theorem pf {α:Type}(l:List α) (n:Nat) (h:n<=l.length):(List.range n).filterMap (l[·]?)=l.take n:=by
 have:=StrLaws.picks l n 0 (by omega)
 simpa using this
theorem jI (x:Str) (k:Nat):(Txt.slice x none (some (k:Int))).cps.toList=x.cps.toList.take k:=by
 unfold Txt.slice
 rw [qV]
 have hl:x.cps.toList.length=x.length:=by simp [Str.length]
 split
 . rename_i h
   simp only [beq_self_eq_true,Bool.true_and,List.length_range,beq_iff_eq] at h
   rw [List.take_of_length_le]
   omega
 . have e:(λ(i:Nat)=>x.cps[i]?)=(λ(i:Nat)=>x.cps.toList[i]?):=by funext i; simp
   show (List.filterMap (λ(i:Nat)=>x.cps[i]?) (List.range (min k x.length))).toArray.toList=_
   rw [List.toList_toArray,e,pf _ _ (by omega)]
   rcases Nat.le_total k x.length with h | h
   . rw [Nat.min_eq_left h]
   . rw [Nat.min_eq_right h,List.take_of_length_le (by omega),List.take_of_length_le (by omega)]
def ar:List Nat:=(List.range 26).map (· + 97)
theorem jm {c:Nat} : c∈ar ↔ 97<=c/\c<=122:=by
 unfold ar
 simp only [List.mem_map,List.mem_range]
 constructor
 . rintro ⟨a,h,rfl⟩; omega
 . intro h; exact ⟨c-97,by omega,by omega⟩
def isName (n:List Nat):Prop:=1<=n.length/\n.length<=8/\∀c∈n,c∈ar
def jJ (n:List Nat):List (List Nat):=
 [n]++ar.map (λc=>n.take 7++[c])++ar.map (λc=>n.take 6++[c,113])++ar.map (λc=>n.take 6++[c,122])++ar.map (λc=>n.take 5++[c,113,122])
theorem tq {n x:List Nat}(hn:isName n) (hx:x∈jJ n):isName x:=by
 obtain ⟨h1,h2,h3⟩:=hn
 have tk:∀k,∀c∈n.take k,c∈ar:=λk c hc=>h3 c (List.mem_of_mem_take hc)
 have va:113∈ar:=by decide
 have vb:122∈ar:=by decide
 unfold jJ at hx
 simp only [List.mem_append,List.mem_singleton,List.mem_map] at hx
 rcases hx with (((rfl | ⟨c,hc,rfl⟩) | ⟨c,hc,rfl⟩) | ⟨c,hc,rfl⟩) | ⟨c,hc,rfl⟩
 . exact ⟨h1,h2,h3⟩
 all_goals
  refine ⟨by simp,by simp only [List.length_append,List.length_take,List.length_cons,List.length_nil]; omega,λd hd=>?_⟩
  simp only [List.mem_append,List.mem_cons,List.not_mem_nil,or_false] at hd
  rcases hd with hd | hd
  . exact tk _ d hd
  . rcases hd with rfl | hd <;> first | exact hc | (rcases hd with rfl | hd <;> first | exact va | exact vb | (rcases hd with rfl <;> first | exact va | exact vb)) | (subst hd; first | exact va | exact vb)
def sub (n:List Nat):List (List Nat):=
 (ar.filter λc=>decide (c≠113/\c≠122)).map (λc=>n.take 7++[c])++ar.map (λc=>n.take 6++[c,113])++ar.map (λc=>n.take 6++[c,122])
  ++ (ar.filter λc=>decide (some c≠n[5]?)).map (λc=>n.take 5++[c,113,122])
theorem vc {n x:List Nat}(h:x∈sub n):x∈jJ n:=by
 unfold sub at h
 unfold jJ
 simp only [List.mem_append,List.mem_singleton,List.mem_map,List.mem_filter] at h ⊢
 rcases h with ((⟨c,⟨hc,_⟩,rfl⟩ | ⟨c,hc,rfl⟩) | ⟨c,hc,rfl⟩) | ⟨c,⟨hc,_⟩,rfl⟩
 . exact .inl (.inl (.inl (.inr ⟨c,hc,rfl⟩)))
 . exact .inl (.inl (.inr ⟨c,hc,rfl⟩))
 . exact .inl (.inr ⟨c,hc,rfl⟩)
 . exact .inr ⟨c,hc,rfl⟩
theorem dk:ar.Nodup:=by decide
theorem cX {l:List Nat}(hl:l.Nodup) (p q:List Nat):(l.map λc=>p++c::q).Nodup:=by
 induction l with
 | nil=>exact List.nodup_nil
 | cons a l ih=>
  obtain ⟨h1,h2⟩:=List.nodup_cons.mp hl
  rw [List.map_cons,List.nodup_cons]
  refine ⟨λh=>?_,ih h2⟩
  obtain ⟨b,hb,e⟩:=List.mem_map.mp h
  have:=List.append_cancel_left e
  injection this with e1 _
  exact h1 (e1 ▸ hb)
theorem xo {p:List Nat}{a:Nat} : (p++[a]).getLast?=some a:=by simp
theorem tw (n:List Nat):(sub n).Nodup:=by
 unfold sub
 have qW:∀x∈ar.map (λc=>n.take 6++[c,113]),x.getLast?=some 113:=λx hx=>by
  obtain ⟨c,_,rfl⟩:=List.mem_map.mp hx
  simp
 have v9:∀x∈ar.map (λc=>n.take 6++[c,122]),x.getLast?=some 122:=λx hx=>by
  obtain ⟨c,_,rfl⟩:=List.mem_map.mp hx
  simp
 have wa:∀x∈(ar.filter λc=>decide (some c≠n[5]?)).map (λc=>n.take 5++[c,113,122]),x.getLast?=some 122:=λx hx=>by
  obtain ⟨c,_,rfl⟩:=List.mem_map.mp hx
  simp
 have qX:∀x∈(ar.filter λc=>decide (c≠113/\c≠122)).map (λc=>n.take 7++[c]),x.getLast?≠some 113/\x.getLast?≠some 122:=λx hx=>by
  obtain ⟨c,hc,rfl⟩:=List.mem_map.mp hx
  obtain ⟨_,hc⟩:=List.mem_filter.mp hc
  have eG:=of_decide_eq_true hc
  rw [xo]
  exact ⟨λe=>eG.1 (Option.some.inj e),λe=>eG.2 (Option.some.inj e)⟩
 refine List.nodup_append.mpr ⟨List.nodup_append.mpr ⟨List.nodup_append.mpr ⟨cX (dk.filter _) _ _,cX dk _ _,?_⟩,cX dk _ _,?_⟩,cX (dk.filter _) _ _,?_⟩
 . intro a ha b hb e
   exact (qX a ha).1 (e ▸ qW b hb)
 . intro a ha b hb e
   rcases List.mem_append.mp ha with ha | ha
   . exact (qX a ha).2 (e ▸ v9 b hb)
   . have:=qW a ha
     rw [e,v9 b hb] at this
     cases this
 . intro a ha b hb e
   rcases List.mem_append.mp ha with ha | ha
   . rcases List.mem_append.mp ha with ha | ha
     . exact (qX a ha).2 (e ▸ wa b hb)
     . have:=qW a ha
       rw [e,wa b hb] at this
       cases this
   . obtain ⟨c,_,rfl⟩:=List.mem_map.mp ha
     obtain ⟨d,hd,rfl⟩:=List.mem_map.mp hb
     obtain ⟨_,hd⟩:=List.mem_filter.mp hd
     have hd':some d≠n[5]?:=of_decide_eq_true hd
     rcases Nat.lt_or_ge 5 n.length with hl | hl
     . -- both have eight letters
       have e5:(n.take 6++[c,122])[5]?=(n.take 5++[d,113,122])[5]?:=by rw [e]
       have t6:(n.take 6).length=6:=by rw [List.length_take]; omega
       have t5:(n.take 5).length=5:=by rw [List.length_take]; omega
       rw [List.getElem?_append_left (by omega),List.getElem?_append_right (by omega),t5,List.getElem?_take] at e5
       simp at e5
       exact hd' e5.symm
     . have el:=congrArg List.length e
       simp only [List.length_append,List.length_take,List.length_cons,List.length_nil] at el
       omega
theorem qY (n:List Nat):100<=(sub n).length:=by
 unfold sub
 simp only [List.length_append,List.length_map]
 have h1:ar.length=26:=by decide
 have h2:(ar.filter λc=>decide (c≠113/\c≠122)).length=24:=by decide
 have h3:25<=(ar.filter λc=>decide (some c≠n[5]?)).length:=by
  cases n[5]? with
  | none=>
   have:(ar.filter λc=>decide (some c≠none))=ar:=List.filter_eq_self.mpr λc _=>by simp
   rw [this,h1]
   decide
  | some d=>
   have e:(ar.filter λc=>decide (some c≠some d))=ar.filter λc=>c != d:=by
    apply List.filter_congr
    intro c _
    by_cases h:c=d
    . subst h; simp
    . simp [h]
   rw [e]
   by_cases hd:d∈ar
   . obtain ⟨a,b⟩:=jm.mp hd
     have:∀k,k<26->25<=(ar.filter λc=>c != k+97).length:=by decide
     have:=this (d-97) (by omega)
     rw [show d-97+97=d by omega] at this
     exact this
   . have:(ar.filter λc=>c != d)=ar:=List.filter_eq_self.mpr λc hc=>by
      have:c≠d:=λe=>hd (e ▸ hc)
      simpa using this
     rw [this,h1]
     decide
 rw [h1,h2]
 omega
theorem tD (n:List Nat) (told:List (List Nat)) (h:told.length<100):∃x∈jJ n,x∉told:=by
 apply Classical.byContradiction
 intro hx
 have all:∀x∈sub n,x∈told:=λx hs=>Classical.byContradiction λht=>hx ⟨x,vc hs,ht⟩
 have:=nL (sub n) told (tw n) all
 have:=qY n
 omega
end Gen
namespace Gen
open PySem
theorem tE:("" : Str).cps.toList=[]:=by decide +kernel
theorem A4:("q" : Str).cps.toList=[113]:=by decide +kernel
theorem A5:("z" : Str).cps.toList=[122]:=by decide +kernel
theorem yx:("qz" : Str).cps.toList=[113,122]:=by decide +kernel
theorem pS:("abcdefghijklmnopqrstuvwxyz" : Str).cps.toList=ar:=by decide +kernel
theorem lE (a b:Str):(a++b).cps.toList=a.cps.toList++b.cps.toList:=by rw [Str.cps_append,Array.toList_append]
theorem nM:∀ys:List Str,(Str.join "" ys).cps.toList=(ys.map (·.cps.toList)).flatten
 | []=>rfl
 | [x]=>by simp [Str.join]
 | x::y::r=>by
  have ih:=nM (y::r)
  show (x ++ "" ++ Str.join "" (y::r)).cps.toList=_
  rw [lE,lE,ih,tE]
  simp
theorem tF (ys:List Str):(Txt.join "" ys).cps.toList=(ys.map (·.cps.toList)).flatten:=by
 unfold Txt.join
 rw [StrLaws.glued_eq_join]
 exact nM ys
def c7 (n:Str):List Str:=ar.map λc=>Txt.slice n none (some 7)++⟨#[c]⟩
def wb (n:Str):List Str:=ar.map λc=>Txt.slice n none (some 6)++⟨#[c]⟩ ++ "q"
def wc (n:Str):List Str:=ar.map λc=>Txt.slice n none (some 6)++⟨#[c]⟩ ++ "z"
def c5 (n:Str):List Str:=ar.map λc=>Txt.slice n none (some 5)++⟨#[c]⟩ ++ "qz"
def bu (n:Str):List Str:=[n]++c7 n++wb n++wc n++c5 n
theorem l7 (n:Str):(bu n).map (·.cps.toList)=jJ n.cps.toList:=by
 have s7:=jI n 7
 have s6:=jI n 6
 have s5:=jI n 5
 have e7:((7:Nat):Int)=7:=rfl
 have e6:((6:Nat):Int)=6:=rfl
 have e5:((5:Nat):Int)=5:=rfl
 rw [e7] at s7
 rw [e6] at s6
 rw [e5] at s5
 unfold bu jJ c7 wb wc c5
 simp only [List.map_append,List.map_map,List.map_cons,List.map_nil,Function.comp_def,lE,s7,s6,s5,A4,A5,yx,List.append_assoc,List.cons_append,List.nil_append]
def cP (z:Str):Prop:=isName z.cps.toList
theorem qZ {n z:Str}(hn:cP n) (hz:z∈bu n):cP z:=by
 refine tq hn ?_
 rw [← l7]
 exact List.mem_map.mpr ⟨z,hz,rfl⟩
theorem q0 (n:Str) (told:List Str) (h:told.length<100):∃x∈bu n,x∉told:=by
 obtain ⟨x,hx,ht⟩:=tD n.cps.toList (told.map (·.cps.toList)) (by simpa using h)
 rw [← l7] at hx
 obtain ⟨z,hz,rfl⟩:=List.mem_map.mp hx
 exact ⟨z,hz,λhm=>ht (List.mem_map.mpr ⟨z,hm,rfl⟩)⟩
def cg:List Str:=["switch", "keep", "gate", "next", "never", "some", "wall", "row", "step", "piece", "lasso"]
theorem pj:Txt.split "switch keep gate next never some wall row step piece lasso" " " = cg:=by decide +kernel
theorem pk:∀x∈cg,cP x:=by
 have h:cg.all (λx=>decide (1<=x.cps.toList.length) && decide (x.cps.toList.length<=8) && x.cps.toList.all λc=>decide (c∈ar))=true:=by decide +kernel
 intro x hx
 have:=List.all_eq_true.mp h x hx
 simp only [Bool.and_eq_true,decide_eq_true_eq,List.all_eq_true] at this
 exact ⟨this.1.1,this.1.2,this.2⟩
theorem cP.len {z:Str}(h:cP z):z.length<=8:=by
 have:=h.2.1
 simpa [Str.length] using this
theorem pq {ys:List Str}(h1:1<=ys.length) (h2:ys.length<=8) (h:∀y∈ys,∃c∈ar,y=⟨#[c]⟩):cP (Txt.join "" ys):=by
 have e:∀zs:List Str,(∀y∈zs,∃c∈ar,y=⟨#[c]⟩)->(zs.map (·.cps.toList)).flatten.length=zs.length/\∀c∈(zs.map (·.cps.toList)).flatten,c∈ar:=by
  intro zs
  induction zs with
  | nil=>intro _; exact ⟨rfl,λc hc=>by simp at hc⟩
  | cons z zs ih=>
   intro hz
   obtain ⟨c,hc,rfl⟩:=hz z List.mem_cons_self
   obtain ⟨i1,i2⟩:=ih λy hy=>hz y (List.mem_cons_of_mem _ hy)
   refine ⟨?_,λd hd=>?_⟩
   . rw [List.map_cons,List.flatten_cons,List.length_append,i1]
     simp
     omega
   . rw [List.map_cons,List.flatten_cons,List.mem_append] at hd
     rcases hd with hd | hd
     . have:d=c:=by simpa using hd
       rw [this]; exact hc
     . exact i2 d hd
 obtain ⟨e1,e2⟩:=e ys h
 unfold cP isName
 rw [tF,e1]
 exact ⟨h1,h2,e2⟩
end Gen
namespace Gen
open PySem L2
def top (i:Nat):Stmt:=PySem.Challenge.pw_everguard_k41_both_either_opposite.main.body.getD i (.Pass ⟨0,0,0,0⟩)
abbrev ja:Stmt:=top 8
abbrev jK:Stmt:=top 9
abbrev jb:Stmt:=top 10
abbrev g6:Stmt:=top 11
abbrev eN:Stmt:=top 12
structure Own (mg:Str->Option Value):Prop where
 len:mg "len" = none
 range:mg "range" = none
 enum:mg "enumerate" = none
 list:mg "list" = none
def g7 (xs:List V):Prop:=(∃a:Int,xs=[.int a])\/∃a b:Int,xs=[.int a,.int b]
def bf (H H':Hp) (l:Addr):Prop:=∀b o,H b=some o->b≠l->H' b=some o
theorem bf.trans {H H1 H2:Hp}{l:Addr}(a:bf H H1 l) (b:bf H1 H2 l):bf H H2 l:=λc o h n=>b c o (a c o h n) n
theorem bf.refl (H:Hp) (l:Addr):bf H H l:=λ_ _ h _=>h
theorem ao.keep {H H':Hp}(s:ao H H') (l:Addr):bf H H' l:=λb o h _=>s b o h
theorem bf.aA {H:Hp}{l p:Addr}{o:HO}(hp:H p=none):bf H (upd H p o) l:=λb u h _=>by rw [ai (ah h hp)]; exact h
theorem ao.aA {H:Hp}{p:Addr}{o:HO}(hp:H p=none):ao H (upd H p o):=λb u h=>by rw [ai (ah h hp)]; exact h
theorem bf.tG {H:Hp}{l:Addr}{o:HO} : bf H (upd H l o) l:=λb u h n=>by rw [ai n]; exact h
theorem bf.seq {K:W.Frag}{H H':Hp}{a l:Addr}{xs:List V}{n:List V}(e:bf H H' l) (hl:H l=some (.lst n)) (h:ay K H a xs) (iq:a≠l):ay K H' a xs:=by
 rcases h with (h | ⟨o,h⟩) | h
 . exact .inl (.inl (e a _ h iq))
 . exact .inl (.inr ⟨o,e a _ h iq⟩)
 . exact .inr h
def kq (K:W.Frag):Sp:=λvs H Q _=>∃(a:Addr) (ns:List Int) (k:Int),vs=[.ref a,.int k]/\ay K H a (ns.map V.int)/\0<=k/\∀v:Int,Q (.int v) H
def wd:Sp:=λvs H Q _=>∃(c k:Int),vs=[.int c,.int k]/\0<=k/\k<=1000000/\∀v:Int,0<=v->v<1999999973->Q (.int v) H
def kr:Sp:=λvs H Q _=>∃(c k:Int),vs=[.int c,.int k]/\0<=k/\k<=1000/\∀v:Int,Q (.int v) H
def ku:Sp:=λvs H Q _=>∃(l:Addr) (xs:List V) (m:Int),vs=[.ref l,.int m]/\H l=some (.lst xs)/\g7 xs/\0<m/\m<1073741824/\
 ∀(d:Int) (ys:List V) (H':Hp),0<=d->d<m->g7 ys->H' l=some (.lst ys)->bf H H' l->Q (.int d) H'
section
variable {P:Program}{w:World}{K:W.Frag}{mg:Str->Option Value}{base:Heap}
theorem yy:aQ ["_law_script", "_law_k"] ["_law_script", "_law_k"] (aj ja):=⟨rfl,rfl,rfl,by decide +kernel,rfl,by decide +kernel,by decide +kernel⟩
theorem xp {f:Addr}{fd:FuncData}(F:bY K "_law_cell_at" "_law_cell_at" ja f fd) (T:Own mg):av P w K mg base aH 1 f fd ["_law_script", "_law_k"] (kq K):=by
 refine F.ok yy (λvs H Q E h=>?_) (λcdv A outer s H vs Q E hr h=>?_)
 . obtain ⟨a,ns,k,rfl,_⟩:=h
   rfl
 . obtain ⟨a,ns,k,rfl,hS,h0,kk⟩:=h
   refine ⟨_,ae (bc (bq qI (pv 1) (aO aP (by rfl) T.len PySem.boot_len (aa (pv 0) ab)) (bp _)) (aq (aJ (aM br (pv 0) (pv 1) (λ_ _=>rfl)))) aN)
    (aq (aJ af)),?_⟩
   refine ⟨_,rfl,_,rfl,a,_,rfl,.inl hS,_,_,rfl,rfl,_,rfl,?_⟩
   refine jG (λhc=>?_) (λ_=>kk 0)
   have eG:k<((ns.map V.int).length:Int):=of_decide_eq_true hc
   rw [List.length_map] at eG
   have hk:k.toNat<ns.length:=by omega
   have e:((k.toNat:Nat):Int)=k:=by omega
   have tH:ij (ns.map V.int) ((k.toNat:Nat):Int)=some (.int ns[k.toNat]):=aF (by rw [List.getElem?_map,List.getElem?_eq_getElem hk]; rfl)
   rw [e] at tH
   exact ⟨_,rfl,_,rfl,a,_,_,.int ns[k.toNat],rfl,rfl,hS,tH,kk _⟩
theorem we:aQ ["_law_cell", "_law_k", "_law_m"] ["_law_cell", "_law_k"] (aj jK):=⟨rfl,rfl,rfl,by decide +kernel,rfl,by decide +kernel,by decide +kernel⟩
theorem yz {f:Addr}{fd:FuncData}(F:bY K "_law_mix" "_law_mix" jK f fd):av P w K mg base aH 1 f fd ["_law_cell", "_law_k"] wd:=by
 refine F.ok we (λvs H Q E h=>?_) (λcdv A outer s H vs Q E hr h=>?_)
 . obtain ⟨c,k,rfl,_⟩:=h
   rfl
 . obtain ⟨c,k,rfl,h0,h1,kk⟩:=h
   refine ⟨_,ae (ax (i:=2) we.nd rfl (Or.inl rfl) (aG fG (aG dQ (aG df (aG df (aG fG (pv 0) af) (aG dQ (aG dQ (pv 1) (pv 1)) af)) af) af) af))
    (aq (aJ (aG fG (aG dQ (pv 2) (pv 2)) af))),?_⟩
   refine ⟨_,rfl,_,_,rfl,rfl,(by show (0:Int)<2147483629; decide),_,rfl,_,rfl,_,_,rfl,rfl,.inl ⟨by omega,by omega⟩,_,_,rfl,rfl,.inr ⟨by decide,by decide⟩,_,_,rfl,rfl,_,_,rfl,rfl,
    _,_,rfl,rfl,.inr ⟨by decide,by decide⟩,_,_,rfl,rfl,(by show (0:Int)<2147483647; decide),?_⟩
   generalize hm:((c % 2147483629+k*k*7919+11)*48271 % 2147483647:Int)=m
   have m0:0<=m:=by rw [← hm]; exact Int.emod_nonneg _ (by decide)
   have m1:m<2147483647:=by rw [← hm]; exact Int.emod_lt_of_pos _ (by decide)
   refine ⟨_,rfl,_,rfl,_,_,rfl,rfl,.inl ⟨by omega,by omega⟩,_,_,rfl,rfl,(by show (0:Int)<1999999973; decide),?_⟩
   exact kk _ (Int.emod_nonneg _ (by decide)) (Int.emod_lt_of_pos _ (by decide))
theorem ky:aQ ["_law_cell", "_law_k", "_law_number_here", "_law_j"] ["_law_cell", "_law_k"] (aj jb):=⟨rfl,rfl,rfl,by decide +kernel,rfl,by decide +kernel,by decide +kernel⟩
theorem xq {f fM:Addr}{fd yA:FuncData}(F:bY K "_law_rich" "_law_rich" jb f fd) (T:Own mg) (FM:bY K "_law_mix" "_law_mix" jK fM yA) (bM:Binds K yA ["_law_cell", "_law_k"] []) (mM:mg "_law_mix" = some (.ref fM)) :
 av P w K mg base aH 2 f fd ["_law_cell", "_law_k"] kr:=by
 have GM:av P w K mg base aH 1 fM yA ["_law_cell", "_law_k"] wd:=yz FM
 refine F.ok ky (λvs H Q E h=>?_) (λcdv A outer s H vs Q E hr h=>?_)
 . obtain ⟨c,k,rfl,_⟩:=h
   rfl
 . obtain ⟨c,k,rfl,h0,h1,kk⟩:=h
   refine ⟨_,ae (ax (i:=2) ky.nd rfl (Or.inl rfl) af)
    (ae (fz PassesOwn.never rfl (cp rfl T.range (aa af ab)) (aU (i:=3) ky.nd rfl (Or.inl rfl))
     (aq (ax (i:=2) ky.nd rfl (Or.inl rfl) (aG df (aG dQ (pv 2) af) (az GM hr rfl mM FM.kp bM .nil aw (aa (pv 0) (aa (aG df (aG dQ af (pv 1)) (pv 3)) ab)))))))
    (aq (aJ (pv 2)))),?_⟩
   refine ⟨12,rfl,by decide,by decide,du (n:=12) (λi σ H2=>H2=H/\∃(n:Int) (v:Option V),σ=[some (.int c),some (.int k),some (.int n),v]) ⟨rfl,0,none,rfl⟩ ?_ ?_⟩
   . rintro i σ H2 hi ⟨rfl,n,v,rfl⟩
     refine ⟨_,rfl,_,_,rfl,rfl,.inr ⟨by decide,by decide⟩,_,rfl,_,rfl,_,_,rfl,rfl,.inl ⟨by decide,by decide⟩,_,rfl,_,_,rfl,rfl,?_⟩
     refine ⟨_,_,rfl,by omega,by omega,λv CD wg=>⟨_,_,rfl,rfl,rfl,_,_,rfl⟩⟩
   . rintro σ H2 ⟨rfl,n,v,rfl⟩
     exact ⟨_,rfl,kk n⟩
theorem tI:aQ ["_law_left", "_law_many", "_law_digit"] ["_law_left", "_law_many"] (aj g6):=⟨rfl,rfl,rfl,by decide +kernel,rfl,by decide +kernel,by decide +kernel⟩
theorem pT {f:Addr}{fd:FuncData}(F:bY K "_law_pick" "_law_pick" g6 f fd) (T:Own mg):av P w K mg base aH 1 f fd ["_law_left", "_law_many"] ku:=by
 refine F.ok tI (λvs H Q E h=>?_) (λcdv A outer s H vs Q E hr h=>?_)
 . obtain ⟨l,xs,m,rfl,_⟩:=h
   rfl
 . obtain ⟨l,xs,m,rfl,hl,hp,m0,m1,kk⟩:=h
   refine ⟨_,ae (ax (i:=2) tI.nd rfl (Or.inl rfl) (aG fG (aM br (pv 0) af (λ_ _=>rfl)) (pv 1)))
    (ae (rX (aG gu (aM br (pv 0) af (λ_ _=>rfl)) (pv 1)) (rW (pv 0) af set_list))
    (aq (aJ (pv 2)))),?_⟩
   rcases hp with ⟨a,rfl⟩ | ⟨a,b,rfl⟩
   . refine ⟨_,rfl,l,_,_,.int a,rfl,rfl,ay.of hl,rfl,_,rfl,_,_,rfl,rfl,m0,?_⟩
     refine ⟨_,rfl,l,_,_,.int a,rfl,rfl,ay.of hl,rfl,_,rfl,_,_,rfl,rfl,⟨m0,m1⟩,_,rfl,l,_,_,0,rfl,rfl,hl,rfl,?_⟩
     exact ⟨_,rfl,kk _ _ _ (Int.emod_nonneg _ (by omega)) (Int.emod_lt_of_pos _ m0) (.inl ⟨_,rfl⟩) ag bf.tG⟩
   . refine ⟨_,rfl,l,_,_,.int a,rfl,rfl,ay.of hl,rfl,_,rfl,_,_,rfl,rfl,m0,?_⟩
     refine ⟨_,rfl,l,_,_,.int a,rfl,rfl,ay.of hl,rfl,_,rfl,_,_,rfl,rfl,⟨m0,m1⟩,_,rfl,l,_,_,0,rfl,rfl,hl,rfl,?_⟩
     exact ⟨_,rfl,kk _ _ _ (Int.emod_nonneg _ (by omega)) (Int.emod_lt_of_pos _ m0) (.inr ⟨_,_,rfl⟩) ag bf.tG⟩
end
end Gen
namespace Gen
open PySem L2
theorem small {n:Nat}(h:n<=1000):n<sizeLine:=l6 h
theorem yB {n:Nat}(h:n<=1000):n<=sizeLine:=Nat.le_of_lt (l6 h)
def lF (K:W.Frag):Sp:=λvs H Q _=>∃(l t:Addr) (xs:List V) (told:List Str),vs=[.ref l,.ref t]/\H l=some (.lst xs)/\g7 xs/\t≠l/\ay K H t (told.map V.str)/\told.length<100/\
 ∀(z:Str) (ys:List V) (H':Hp),cP z->z∉told->g7 ys->H' l=some (.lst ys)->bf H H' l->Q (.str z) H'
theorem pU (z:Str) (told:List Str):vT (.str z) (told.map V.str)=decide (z∈told):=by
 unfold vT
 rw [Bool.eq_iff_iff,List.any_eq_true,decide_eq_true_eq]
 constructor
 . rintro ⟨v,hv,e⟩
   obtain ⟨y,hy,rfl⟩:=List.mem_map.mp hv
   have:y=z:=by simpa [il] using e
   rw [← this]; exact hy
 . intro h
   exact ⟨.str z,List.mem_map.mpr ⟨z,h,rfl⟩,by simp [il]⟩
theorem tJ (told:List Str):(told.map V.str).all fg=true:=by
 rw [List.all_eq_true]
 intro v hv
 obtain ⟨y,_,rfl⟩:=List.mem_map.mp hv
 rfl
theorem tK {i:Nat}{c:Nat}(h:("abcdefghijklmnopqrstuvwxyz" : Str).cps[i]?=some c):ar[i]?=some c:=by
 rw [← pS]
 simpa using h
theorem tL {α β:Type}{l:List α}{i:Nat}{c:α}(f:α->β) (h:l[i]?=some c):(l.take (i+1)).map f=(l.take i).map f++[f c]:=by
 rw [List.take_add_one,h]
 simp
theorem eO {i:Nat}{x:V}{σ:St}{H:Hp}{A B:St->Hp->Prop}(h:A (σ.set i (some x)) H):cD i x σ H (λfw H2=>jH fw H2 (λb H3=>if b=true then A fw H3 else B fw H3)):=by
 show (if true=true then A (σ.set i (some x)) H else B (σ.set i (some x)) H)
 rw [if_pos rfl]
 exact h
theorem A6:(["_law_k", "_law_left", "_law_letters"]:List Str).Nodup:=by decide +kernel
theorem rf:(["_law_one", "_law_name"]:List Str).Nodup:=by decide +kernel
theorem EG:(["_law_one", "_law_told"]:List Str).Nodup:=by decide +kernel
section
variable {P:Program}{w:World}{K:W.Frag}{mg:Str->Option Value}{base:Heap}
abbrev tM:List Str:=["_law_left", "_law_told", "_law_letters", "_law_words", "_law_size", "_law_name", "_law_some"]
theorem dz:aQ tM ["_law_left", "_law_told"] (aj eN):=⟨rfl,rfl,rfl,by decide +kernel,rfl,by decide +kernel,by decide +kernel⟩
theorem fh {D:Addr}{te:TE}{Q:Hp->Prop}{H1:Hp}{nm:Str}(f:Nat->Str) (hD:H1 D=none)
 (he:∀(c:Nat) (H:Hp) (R:VK),c∈ar->R (.str (f c)) H->te [some (.str ⟨#[c]⟩),some (.str nm)] H R)
 (fin:Q (upd H1 D (.lst ((ar.map f).map V.str)))) :
 ∃W:Nat->Nat->St->Hp->Prop,(∃m,W 0 m [none,some (.str nm)] (upd H1 D (.lst [])))/\sY D (cD 0) jH te (yu "abcdefghijklmnopqrstuvwxyz") W Q:=by
 have hsz:("abcdefghijklmnopqrstuvwxyz" : Str).cps.size=26:=by decide +kernel
 have tN:ar.length=26:=by decide
 refine gi 26 (λi acc σ H=>acc=((ar.take i).map f).map V.str/\(∃v,σ=[v,some (.str nm)])/\H=upd H1 D (.lst acc)) ⟨rfl,⟨none,rfl⟩,rfl⟩ ag ?_ ?_
 . rintro acc σ H _ ⟨rfl,_,rfl⟩
   refine ⟨hsz.symm,?_⟩
   rw [List.take_of_length_le (by rw [tN]; decide)]
   exact fin
 . rintro i acc σ H hi cQ ⟨rfl,⟨v,rfl⟩,rfl⟩
   refine ⟨by show i<_; rw [hsz]; exact hi,?_⟩
   rintro x H' ⟨rfl,c,hc,rfl⟩
   have eG:=tK hc
   refine eO ?_
   refine he c _ _ (List.mem_of_getElem? eG) ?_
   refine ⟨_,ag,?_,cG hi ag ⟨?_,⟨_,rfl⟩,?_⟩⟩
   . rw [List.length_map,List.length_map,List.length_take]
     exact small (by omega)
   . rw [tL f eG,List.map_append]
     rfl
   . rw [pw]
theorem nO:∀zs:List Str,(∀y∈zs,∃c∈ar,y=⟨#[c]⟩)->(zs.map (·.length)).sum=zs.length
 | [],_=>rfl
 | z::zs,h=>by
  obtain ⟨c,_,rfl⟩:=h z List.mem_cons_self
  have ih:=nO zs λy hy=>h y (List.mem_cons_of_mem _ hy)
  rw [List.map_cons,List.sum_cons,ih,List.length_cons]
  show 1+zs.length=zs.length+1
  omega
theorem jL (n:Str) (h:cP n) (k:Int):(Txt.slice n none (some k)).length<=8:=Nat.le_trans (Txt.slice_le n _ _) h.len
theorem fL (c:Nat):(⟨#[c]⟩:Str).length=1:=rfl
theorem nP (a b:Str):(a++b).length=a.length+b.length:=Str.length_append a b
theorem dY {n:Nat}(h:n<=100):n<=sizeLine:=Nat.le_trans h (by decide)
abbrev xr (P:Program) (w:World) (K:W.Frag) (mg:Str->Option Value) (base:Heap) (f:Addr) (cdv:Value) (A:Around) (outer:List Env) (s:Shared) (H:Hp) (E:XK):Cx:=
 (gW aH P w K mg base tM "_law_spelt" (aj eN) f cdv A outer s H E).mX
abbrev ma:Str:="abcdefghijklmnopqrstuvwxyz"
theorem rg {f:Addr}{cdv:Value}{A:Around}{outer:List Env}{s:Shared}{H:Hp}{E:XK}{Q:VK}{l t:Addr}{told:List Str}(hS:ay K H t (told.map V.str)) (iq:t≠l) (fF:told.length<100) (sX:∃xs,H l=some (.lst xs))
 (kk:∀(z:Str) (ys:List V) (H':Hp),cP z->z∉told->g7 ys->H' l=some (.lst ys)->bf H H' l->Q (.str z) H') :
 ∃tR:TS,fu (xr P w K mg base f cdv A outer s H E) (List.drop 5 (aK eN)) tR/\∀(nm:Str) (ys:List V) (H4:Hp) (w1:Addr) (sz:Int),cP nm->g7 ys->H4 l=some (.lst ys)->bf H H4 l->
  tR { nx:=λ_ H'=>Q .aR H',rt:=Q } [some (.ref l),some (.ref t),some (.str ma),some (.ref w1),some (.int sz),some (.str nm),none] H4:=by
 refine ⟨_,ae (ax (i:=6) dz.nd rfl (Or.inl rfl) (aG ke (aG ke (dW (aa (pv 5) ab))
  (dj (N:=["_law_one", "_law_name"]) (js:=[none,some 5]) (by kernel_rfl) rfl (kh (pv 2)) (λ_ _ _ _ _ _=>aU (i:=0) rf rfl (Or.inl rfl) (.inr rfl)) (λ_ _ _ _ _ _=>bz)
   (λ_ _ _ _ _ _=>aG cE (cF kj (pv 1) dv (cK af)) (pv 0))))
  (dj (N:=["_law_one", "_law_name"]) (js:=[none,some 5]) (by kernel_rfl) rfl (kh (pv 2)) (λ_ _ _ _ _ _=>aU (i:=0) rf rfl (Or.inl rfl) (.inr rfl)) (λ_ _ _ _ _ _=>bz)
   (λ_ _ _ _ _ _=>aG cE (aG cE (cF kj (pv 1) dv (cK af)) (pv 0)) fv))))
  (ae (ax (i:=6) dz.nd rfl (Or.inl rfl) (aG ke (aG ke (pv 6)
   (dj (N:=["_law_one", "_law_name"]) (js:=[none,some 5]) (by kernel_rfl) rfl (kh (pv 2)) (λ_ _ _ _ _ _=>aU (i:=0) rf rfl (Or.inl rfl) (.inr rfl)) (λ_ _ _ _ _ _=>bz)
    (λ_ _ _ _ _ _=>aG cE (aG cE (cF kj (pv 1) dv (cK af)) (pv 0)) fv)))
   (dj (N:=["_law_one", "_law_name"]) (js:=[none,some 5]) (by kernel_rfl) rfl (kh (pv 2)) (λ_ _ _ _ _ _=>aU (i:=0) rf rfl (Or.inl rfl) (.inr rfl)) (λ_ _ _ _ _ _=>bz)
    (λ_ _ _ _ _ _=>aG cE (aG cE (cF kj (pv 1) dv (cK af)) (pv 0)) fv))))
  (aq (aJ (aM br
   (dj (N:=["_law_one", "_law_told"]) (js:=[none,some 1]) (by kernel_rfl) rfl (fk (pv 6)) (λ_ _ _ _ _ _=>aU (i:=0) EG rfl (Or.inl rfl) (.inr rfl))
    (λ_ _ _ _ _ _=>u5 (bq (r:=Cm K true) nE (pv 0) (pv 1) (by with_unfolding_all rfl))) (λ_ _ _ _ _ _=>pv 0)) af (λ_ _=>rfl))))),?_⟩
 intro nm ys H4 w1 sz hn hp nQ pV
 have jn:∀g:Nat->Str,((ar.map g).map V.str).length=26:=λg=>by rw [List.length_map,List.length_map]; decide
 have h8:∀k:Int,nm.length<=sizeLine:=λ_=>dY (Nat.le_trans hn.len (by decide))
 refine ⟨_,rfl,(by show 1<=sizeLine; decide),λp1 yC=>?_⟩
 refine ⟨_,rfl,ma,rfl,λD1 tO=>fh (nm:=nm) (λc=>Txt.slice nm none (some 7)++⟨#[c]⟩) tO (λc H R hc hR=>?_) ?_⟩
 . refine ⟨_,rfl,_,rfl,nm,7,rfl,rfl,rfl,h8 0,_,rfl,_,_,rfl,rfl,?_,hR⟩
   have:=jL nm hn 7
   rw [fL]
   exact dY (by omega)
 have n1:p1≠D1:=ah (ag (H:=H4)) tO
 refine ⟨p1,D1,_,_,rfl,rfl,(by rw [ai n1,ag]),ag,?_,λp2 iI=>?_⟩
 . rw [jn]
   exact dY (by show 1+26<=100; decide)
 refine ⟨_,rfl,ma,rfl,λD2 nS=>fh (nm:=nm) (λc=>Txt.slice nm none (some 6)++⟨#[c]⟩ ++ "q") nS (λc H R hc hR=>?_) ?_⟩
 . refine ⟨_,rfl,_,rfl,nm,6,rfl,rfl,rfl,h8 0,_,rfl,_,_,rfl,rfl,?_,_,_,rfl,rfl,?_,hR⟩
   . have:=jL nm hn 6
     rw [fL]
     exact dY (by omega)
   . have:=jL nm hn 6
     have e1:("q" : Str).length=1:=by decide +kernel
     rw [nP,fL,e1]
     exact dY (by omega)
 have n2:p2≠D2:=ah (ag (H:=_)) nS
 refine ⟨p2,D2,_,_,rfl,rfl,(by rw [ai n2,ag]),ag,?_,λp3 nU=>?_⟩
 . rw [List.length_append,jn,jn]
   exact dY (by show 1+26+26<=100; decide)
 refine ⟨_,rfl,_,rfl,ma,rfl,λD3 nV=>fh (nm:=nm) (λc=>Txt.slice nm none (some 6)++⟨#[c]⟩ ++ "z") nV (λc H R hc hR=>?_) ?_⟩
 . refine ⟨_,rfl,_,rfl,nm,6,rfl,rfl,rfl,h8 0,_,rfl,_,_,rfl,rfl,?_,_,_,rfl,rfl,?_,hR⟩
   . have:=jL nm hn 6
     rw [fL]
     exact dY (by omega)
   . have:=jL nm hn 6
     have e1:("z" : Str).length=1:=by decide +kernel
     rw [nP,fL,e1]
     exact dY (by omega)
 have n3:p3≠D3:=ah (ag (H:=_)) nV
 refine ⟨p3,D3,_,_,rfl,rfl,(by rw [ai n3,ag]),ag,?_,λp4 nW=>?_⟩
 . rw [List.length_append,List.length_append,jn,jn,jn]
   exact dY (by show 1+26+26+26<=100; decide)
 refine ⟨_,rfl,ma,rfl,λD4 tP=>fh (nm:=nm) (λc=>Txt.slice nm none (some 5)++⟨#[c]⟩ ++ "qz") tP (λc H R hc hR=>?_) ?_⟩
 . refine ⟨_,rfl,_,rfl,nm,5,rfl,rfl,rfl,h8 0,_,rfl,_,_,rfl,rfl,?_,_,_,rfl,rfl,?_,hR⟩
   . have:=jL nm hn 5
     rw [fL]
     exact dY (by omega)
   . have:=jL nm hn 5
     have e1:("qz" : Str).length=2:=by decide +kernel
     rw [nP,fL,e1]
     exact dY (by omega)
 have n4:p4≠D4:=ah (ag (H:=_)) tP
 refine ⟨p4,D4,_,_,rfl,rfl,(by rw [ai n4,ag]),ag,?_,λp5 tQ=>?_⟩
 . rw [List.length_append,List.length_append,List.length_append,jn,jn,jn,jn]
   exact yB (by show 1+26+26+26+26<=1000; decide)
 have EH:[V.str nm]++((ar.map λc=>Txt.slice nm none (some 7)++⟨#[c]⟩).map V.str)++((ar.map λc=>Txt.slice nm none (some 6)++⟨#[c]⟩ ++ "q").map V.str)++((ar.map λc=>Txt.slice nm none (some 6)++⟨#[c]⟩ ++ "z").map V.str)
  ++ ((ar.map λc=>Txt.slice nm none (some 5)++⟨#[c]⟩ ++ "qz").map V.str)=(bu nm).map V.str:=by
  unfold bu c7 wb wc c5
  simp only [List.map_append,List.map_cons,List.map_nil]
 rw [EH]
 have sm:∀o5,ao H4 (upd (upd (upd (upd (upd (upd (upd (upd (upd H4 p1 _) D1 _) p2 _) D2 _) p3 _) D3 _) p4 _) D4 _) p5 o5):=λo5=>
  (((((((((ao.aA yC).trans (ao.aA tO)).trans (ao.aA iI)).trans (ao.aA nS)).trans (ao.aA nU)).trans (ao.aA nV)).trans (ao.aA nW)).trans (ao.aA tP)).trans (ao.aA tQ))
 have yD:=sm (.lst ((bu nm).map V.str))
 generalize hG:upd _ p5 (HO.lst ((bu nm).map V.str))=G at *
 have yE:G p5=some (.lst ((bu nm).map V.str)):=by rw [← hG,ag]
 refine ⟨_,rfl,p5,rfl,⟨_,ay.of yE⟩,λD hD=>?_⟩
 obtain ⟨LG,sX⟩:=sX
 have np:p5≠D:=ah yE hD
 have h5:∀o,(upd G D o) p5=some (.lst ((bu nm).map V.str)):=λo=>by rw [ai np]; exact yE
 have HP:∀o,ay K (upd G D o) t (told.map V.str):=λo=>ao.seq (ao.aA hD) (ao.seq yD (pV.seq sX hS iq))
 refine gi (bu nm).length (λi acc σ H=>acc=(((bu nm).take i).filter λz=>!decide (z∈told)).map V.str/\(∃v,σ=[v,some (.ref t)])/\H=upd G D (.lst acc)) ⟨rfl,⟨none,rfl⟩,rfl⟩ ag ?_ ?_
 . rintro acc σ H5 _ ⟨rfl,_,rfl⟩
   refine ⟨⟨_,ay.of (h5 _),by simp⟩,?_⟩
   rw [List.take_length]
   obtain ⟨z,hz,HQ⟩:=q0 nm told fF
   have CF:z∈(bu nm).filter λz=>!decide (z∈told):=List.mem_filter.mpr ⟨hz,by simp [HQ]⟩
   cases CG:(bu nm).filter λz=>!decide (z∈told) with
   | nil=>rw [CG] at CF; cases CF
   | cons z0 r=>
    have h0:z0∈(bu nm).filter λz=>!decide (z∈told):=by rw [CG]; exact List.mem_cons_self
    obtain ⟨m1,m2⟩:=List.mem_filter.mp h0
    have m3:z0∉told:=by simpa using m2
    have sl:G l=some (.lst ys):=yD l _ nQ
    have nl:l≠D:=ah sl hD
    exact ⟨D,_,0,.str z0,rfl,rfl,ay.of ag,(aF (j:=0) (by rfl):ij _ ((0:Nat):Int)=_),kk z0 ys _ (qZ hn m1) m3 hp (by rw [ai nl]; exact sl) ((pV.trans (ao.keep yD l)).trans (bf.aA hD))⟩
 . rintro i acc σ H5 hi cQ ⟨rfl,⟨v,rfl⟩,rfl⟩
   have yF:(bu nm)[i]?=some (bu nm)[i]:=List.getElem?_eq_getElem hi
   have hx:((bu nm).map V.str)[i]?=some (.str (bu nm)[i]):=by rw [List.getElem?_map,yF]; rfl
   refine ⟨⟨_,_,ay.of (h5 _),hx⟩,?_⟩
   rintro x H' ⟨rfl,jB⟩
   have ex:=jB _ (ay.of (h5 _))
   rw [hx] at ex
   cases ex
   refine ⟨_,rfl,_,rfl,t,_,rfl,.inl (HP _),rfl,tJ told,_,rfl,?_⟩
   have EI:∀j,((((bu nm).take j).filter λz=>!decide (z∈told)).map V.str).length<sizeLine:=λj=>by
    rw [List.length_map]
    refine Nat.lt_of_le_of_lt (List.length_filter_le _ _) ?_
    rw [List.length_take]
    have:(bu nm).length=105:=by
     unfold bu c7 wb wc c5
     simp only [List.length_append,List.length_map,List.length_singleton]
     decide
    exact small (by omega)
   refine jG (λh=>?_) (λh=>?_)
   . have yG:(bu nm)[i]∉told:=by simpa [pU] using h
     refine ⟨_,rfl,_,ag,EI i,cG hi ag ⟨?_,⟨_,rfl⟩,by rw [pw]⟩⟩
     rw [take_succ_filter _ _ _ _ yF,if_pos (by simp [yG]),List.map_append]
     rfl
   . have yG:(bu nm)[i]∈told:=by simpa [pU] using h
     refine cG hi ag ⟨?_,⟨_,rfl⟩,rfl⟩
     rw [take_succ_filter _ _ _ _ yF,if_neg (by simp [yG]),List.append_nil]
theorem vd {f fP:Addr}{fd yH:FuncData}(F:bY K "_law_spelt" "_law_spelt" eN f fd) (T:Own mg) (FP:bY K "_law_pick" "_law_pick" g6 fP yH) (bP:Binds K yH ["_law_left", "_law_many"] []) (mP:mg "_law_pick" = some (.ref fP)) :
 av P w K mg base aH 2 f fd ["_law_left", "_law_told"] (lF K):=by
 have GP:av P w K mg base aH 1 fP yH ["_law_left", "_law_many"] ku:=pT FP T
 refine F.ok dz (λvs H Q E h=>?_) (λcdv A outer s H vs Q E hr h=>?_)
 . obtain ⟨l,t,xs,told,rfl,_⟩:=h
   rfl
 . obtain ⟨l,t,xs,told,rfl,hl,hp,iq,hS,fF,kk⟩:=h
   obtain ⟨tR,hR,rR⟩:=rg (P:=P) (w:=w) (mg:=mg) (base:=base) (f:=f) (cdv:=cdv) (A:=A) (outer:=outer) (s:=s) (E:=E) hS iq fF ⟨xs,hl⟩ kk
   refine ⟨_,ae (ax (i:=2) dz.nd rfl (Or.inr rfl) fv)
    (ae (ax (i:=3) dz.nd rfl (Or.inl rfl) (kd PySem.F.plainAttrs_str PySem.F.slot_str_split PySem.F.type_str_split u9 fv (aa fv ab)))
    (ae (ax (i:=4) dz.nd rfl (Or.inl rfl) (aG df af (az GP hr rfl mP FP.kp bP .nil aw (aa (pv 0) (aa af ab)))))
    (ae (ax (i:=5) dz.nd rfl (Or.inr rfl) (aM br (pv 3) (az GP hr rfl mP FP.kp bP .nil aw (aa (pv 0) (aa af ab))) (λ_ _=>rfl)))
    (ae (bc (bq qI (pv 4) af (bp _))
     (aq (ax (i:=5) dz.nd rfl (Or.inr rfl) (kd PySem.F.plainAttrs_str PySem.F.slot_str_join PySem.F.type_str_join xm fv (aa
      (dj (N:=["_law_k", "_law_left", "_law_letters"]) (js:=[none,some 0,some 2]) (by kernel_rfl) rfl (cp rfl T.range (aa (pv 4) ab)) (λ_ _ _ _ _ _=>aU (i:=0) A6 rfl (Or.inl rfl) (.inr rfl)) (λ_ _ _ _ _ _=>bz)
       (λ_ _ _ _ _ _=>aM yf (pv 2) (az GP hr rfl mP FP.kp bP .nil aw (aa (pv 1) (aa af ab))) (λ_ _=>rfl))) ab)))) aN) hR)))),?_⟩
   refine ⟨rfl,_,_,rfl,rfl,(by decide +kernel),(by decide +kernel),(by decide +kernel),λw1 CI=>?_⟩
   rw [pj]
   have nw:l≠w1:=ah hl CI
   refine ⟨_,rfl,l,xs,9,rfl,(by rw [ai nw]; exact hl),hp,by decide,by decide,λd ys H2 d0 d1 iI dw CJ=>⟨_,_,rfl,rfl,?_⟩⟩
   have HR:H2 w1=some (.lst (cg.map V.str)):=CJ w1 _ ag (Ne.symm nw)
   refine ⟨_,rfl,_,rfl,l,ys,11,rfl,dw,iI,by decide,by decide,λd2 CK H3 e0 e1 nU pW CL=>?_⟩
   have HS:H3 w1=some (.lst (cg.map V.str)):=CL w1 _ HR (Ne.symm nw)
   have yI:bf H H3 l:=((bf.aA CI).trans CJ).trans CL
   have hlen:cg.length=11:=by decide +kernel
   have hd2:d2.toNat<cg.length:=by rw [hlen]; omega
   have HU:((d2.toNat:Nat):Int)=d2:=by omega
   have tH:ij (cg.map V.str) ((d2.toNat:Nat):Int)=some (.str cg[d2.toNat]):=aF (by rw [List.getElem?_map,List.getElem?_eq_getElem hd2]; rfl)
   rw [HU] at tH
   have HV:cP cg[d2.toNat]:=pk _ (List.getElem_mem hd2)
   refine ⟨w1,_,_,.str cg[d2.toNat],rfl,rfl,ay.of HS,tH,?_⟩
   refine ⟨_,rfl,_,_,rfl,rfl,_,rfl,?_⟩
   refine jG (λhc=>?_) (λ_=>?_)
   . have eG:(1:Int)+d<9:=of_decide_eq_true hc
     refine ⟨rfl,_,rfl,_,rfl,by omega,by omega,λD hD=>?_⟩
     have nD:l≠D:=ah pW hD
     refine gi (1+d).toNat (λi acc σ H'=>∃(zs:List Str) (v:Option V) (kz:List V),acc=zs.map V.str/\zs.length=i/\(∀y∈zs,∃c∈ar,y=⟨#[c]⟩)/\σ=[v,some (.ref l),some (.str ma)]/\g7 kz/\H' l=some (.lst kz)/\bf H3 H' l)
      ⟨[],none,CK,rfl,rfl,λy hy=>(by cases hy),rfl,nU,(by rw [ai nD]; exact pW),bf.aA hD⟩ ag ?_ ?_
     . rintro acc σ H4 cQ ⟨zs,v,kz,rfl,CM,hz,rfl,nW,nQ,pV⟩
       refine ⟨Nat.le_refl _,?_⟩
       refine ⟨"",D,zs,rfl,rfl,ay.of cQ,?_,?_⟩
       . rw [nO zs hz]
         have e0:("" : Str).length=0:=by decide +kernel
         rw [e0]
         omega
       . exact rR _ kz H4 w1 _ (pq (by omega) (by omega) hz) nW nQ (yI.trans pV)
     . rintro i acc σ H4 hi cQ ⟨zs,v,kz,rfl,CM,hz,rfl,nW,nQ,pV⟩
       refine ⟨hi,?_⟩
       rintro x H' ⟨rfl,rfl⟩
       refine eO ?_
       refine ⟨_,rfl,_,rfl,l,kz,26,rfl,nQ,nW,by decide,by decide,λd' HW H5 c0 c1 tQ HX CN=>?_⟩
       have tN:ar.length=26:=by decide
       have hd':d'.toNat<ar.length:=by omega
       have HY:((d'.toNat:Nat):Int)=d':=by omega
       have yJ:ij ma.cps.toList ((d'.toNat:Nat):Int)=some ar[d'.toNat]:=aF (by rw [pS]; exact List.getElem?_eq_getElem hd')
       rw [HY] at yJ
       have HZ:H5 D=some (.lst (zs.map V.str)):=CN D _ cQ (Ne.symm nD)
       refine ⟨ma,d',ar[d'.toNat],rfl,rfl,(by decide +kernel),yJ,_,HZ,?_,cG hi ag ⟨zs++[⟨#[ar[d'.toNat]]⟩],_,HW,?_,?_,λy hy=>?_,rfl,tQ,?_,?_⟩⟩
       . rw [List.length_map]
         exact small (by omega)
       . rw [List.map_append]
         rfl
       . rw [List.length_append,List.length_singleton,CM]
       . rcases List.mem_append.mp hy with hy | hy
         . exact hz y hy
         . have:y=⟨#[ar[d'.toNat]]⟩:=by simpa using hy
           exact ⟨_,List.getElem_mem hd',this⟩
       . rw [ai nD]
         exact HX
       . intro b o hb CO
         have nb:b≠D:=λz=>by rw [z,hD] at hb; cases hb
         rw [ai nb]
         exact CN b o (pV b o hb CO) CO
   . exact rR _ CK H3 w1 _ HV nU pW yI
end
end Gen
namespace L2
open PySem PySem.Spec PyProof.Rows
def rev:Nat->Nat->Nat
 | 0,_=>0
 | k+1,i=>(i % 2)*2 ^ k+rev k (i / 2)
section
variable {prog:Program}{w:World}{A:Around}{E:Value->Shared->Prop}{s:Shared}{κ:SortKind}{it:Nat->Keyed}{N:Nat}{c:Nat->Nat->Bool}{p:Array Nat}{pd:Array (Nat×Nat×Nat)}
end
end L2
namespace L2
open PySem PySem.Spec PyProof.Rows
section
variable {prog:Program}{w:World}{A:Around}{E:Value->Shared->Prop}{s:Shared}{κ:SortKind}{it:Nat->Keyed}{N:Nat}{c:Nat->Nat->Bool}{p:Array Nat}{pd:Array (Nat×Nat×Nat)}
end
end L2
namespace L2
open PySem PySem.Spec PyProof.Rows
section
variable {prog:Program}{w:World}{A:Around}{E:Value->Shared->Prop}{s:Shared}{κ:SortKind}{it:Nat->Keyed}{N:Nat}{c:Nat->Nat->Bool}{X Y:Array Nat}{n:Nat}
end
end L2
namespace L2
open PySem PySem.Spec PyProof.Rows
section
variable {prog:Program}{w:World}{A:Around}{E:Value->Shared->Prop}{s:Shared}{κ:SortKind}{it:Nat->Keyed}{N:Nat}{c:Nat->Nat->Bool}{p:Array Nat}{n:Nat}
end
end L2
namespace L2
open PySem PySem.Spec PyProof.Rows
section
variable {prog:Program}{w:World}{A:Around}{E:Value->Shared->Prop}{s:Shared}{κ:SortKind}{it:Nat->Keyed}{N:Nat}{c:Nat->Nat->Bool}{p:Array Nat}{n:Nat}
end
end L2
namespace L2
open PySem PySem.Spec PyProof.Rows PySem.W
section
variable {prog:Program}{w:World}{A:Around}{E:Value->Shared->Prop}{s:Shared}{Q:Bool->Shared->Prop}
end
section
variable {prog:Program}{w:World}{A:Around}{E:Value->Shared->Prop}{s:Shared}
end
end L2
namespace L2
open PySem PySem.Spec PyProof.Rows PySem.W
section
variable {prog:Program}{w:World}
end
end L2
namespace L2
open PySem PySem.Spec PyProof.Rows PySem.W
section
variable {X:Cx}
end
end L2
namespace L2
open PySem PySem.Spec PyProof.Rows PySem.W
section
variable {prog:Program}{w:World}{A:Around}{E:Value->Shared->Prop}{s:Shared}
end
theorem jM:∀{b c:List Int},b.map V.int=c.map V.int->b=c
 | [],[],_=>rfl
 | [],_::_,h=>nomatch h
 | _::_,[],h=>nomatch h
 | x::b,y::c,h=>by
  rw [List.map_cons,List.map_cons] at h
  have h1:=List.cons.inj h
  rw [V.int.inj h1.1,jM h1.2]
section
variable {X:Cx}
open Classical in
def EJ (K:W.Frag):R2:=λx y H Q=>∃(t p:Addr) (b:List Int) (ts:List Addr) (bs:List (List Int)),x=.ref t/\y=.ref p/\ba K H t (b.map V.int)/\ay K H p (ts.map V.ref)/\Paired (λt b=>ba K H t (b.map V.int)) ts bs/\Q (.bl (decide (b∈bs))) H
theorem xt {A:Around}{pins:List (Addr×Obj)}{σ:St}{H:Hp}{s:Shared}(I:Inv X pins σ H s) (hu:A.units+1<cLine){t u:Addr}{b c:List Int}(ht:ba X.K H t (b.map V.int)) (tS:ba X.K H u (c.map V.int)):SeqAt.EqAt A s (.ref t) (.ref u) (decide (b=c)):=by
 by_cases e:t=u
 . subst e
   have e2:b=c:=jM (I.tT ht tS)
   rw [decide_eq_true e2]
   exact SeqAt.EqAt.same _
 . refine SeqAt.EqAt.of_refs e ?_
   obtain ⟨its,rv,pl,_⟩:=I.tuple ht
   obtain ⟨its',pX,wj,_⟩:=I.tuple tS
   have l1:=rv.length
   have l2:=pX.length
   rw [List.length_map] at l1 l2
   have key:=SeqAt.RcAt.tuples (A:=A) (s:=s) (e:=λj=>decide (b.getD j 0=c.getD j 0)) pl wj (by omega) (λj g1 g2=>?_)
   . have e3:((List.range (min its.toArray.size its'.toArray.size)).all (λj=>decide (b.getD j 0=c.getD j 0)) && its.toArray.size == its'.toArray.size)=decide (b=c):=by
      rw [Bool.eq_iff_iff,Bool.and_eq_true,decide_eq_true_eq,List.all_eq_true]
      simp only [List.size_toArray,beq_iff_eq,List.mem_range,decide_eq_true_eq]
      constructor
      . rintro ⟨h1,h2⟩
        apply List.ext_getElem (by omega)
        intro i g1 g2
        have:=h1 i (by omega)
        simpa [g1,g2] using this
      . rintro rfl
        exact ⟨λ_ _=>rfl,by omega⟩
     rw [← e3]
     exact key
   . simp only [List.size_toArray] at g1 g2
     have hj:j<b.length:=by omega
     have CP:j<c.length:=by omega
     obtain ⟨w1,e1,r1⟩:=rv.get (x:=.int b[j]) (by rw [List.getElem?_map,List.getElem?_eq_getElem hj]; rfl)
     obtain ⟨w2,e2,r2⟩:=pX.get (x:=.int c[j]) (by rw [List.getElem?_map,List.getElem?_eq_getElem CP]; rfl)
     have z:=sO (A:=A.in1) (s:=s) r1 r2 rfl rfl
     have a1:its.toArray[j]=w1:=by
      have:=(List.getElem?_eq_some_iff.mp e1).2
      simpa using this
     have a2:its'.toArray[j]=w2:=by
      have:=(List.getElem?_eq_some_iff.mp e2).2
      simpa using this
     rw [a1,a2]
     have e4:il (.int b[j]) (.int c[j])=decide (b.getD j 0=c.getD j 0):=by
      simp [il,hj,CP]
      rfl
     rw [← e4]
     exact z
theorem nX {A:Around}{pins:List (Addr×Obj)}{σ:St}{H:Hp}{s:Shared}(I:Inv X pins σ H s) (hu:A.units+1<cLine){t:Addr}{b:List Int}(ht:ba X.K H t (b.map V.int)) (f:Value->Bool) (hf:∀u c,ba X.K H u (c.map V.int)->f (.ref u)=decide (c=b)):∀{ts:List Addr}{vs:List Value}{bs:List (List Int)},Vals (ts.map V.ref) vs->Paired (λt b=>ba X.K H t (b.map V.int)) ts bs->(∀v∈vs,SeqAt.EqAt A s v (.ref t) (f v))/\vs.any f=bs.any λc=>decide (c=b)
 | [],vs,_,r,.nil=>by
  rw [List.map_nil] at r
  cases r
  exact ⟨(λ_ h=>nomatch h),rfl⟩
 | u::ts,vs,c::bs,r,.cons h p=>by
  rw [List.map_cons] at r
  cases r with
  | cons r1 r2=>
   cases r1
   obtain ⟨h1,h2⟩:=nX I hu ht f hf r2 p
   refine ⟨λv hv=>?_,?_⟩
   . rcases List.mem_cons.mp hv with rfl | hv
     . rw [hf u c h]
       exact xt I hu h ht
     . exact h1 v hv
   . rw [List.any_cons,List.any_cons,h2,hf u c h]
open Classical in
theorem Ia (hu:X.A.units+2<cLine):cI X (compareOp .In) (EJ X.K):=by
 intro pins s σ H x y v u Q I rx ry h
 obtain ⟨t,p,b,ts,bs,rfl,rfl,ht,hp,hb,q⟩:=h
 cases (show v=Value.ref t from rx)
 cases (show u=Value.ref p from ry)
 obtain ⟨its,rv,pl,hz⟩:=I.list hp
 have hf:∀u c,ba X.K H u (c.map V.int)->(λv:Value=>decide (∃u,v=.ref u/\ba X.K H u (b.map V.int))) (.ref u)=decide (c=b):=λu c hc=>by
  show decide _=decide _
  congr 1
  refine propext ⟨?_,?_⟩
  . rintro ⟨u',e,h'⟩
    cases e
    exact jM (I.tT hc h')
  . rintro rfl
    exact ⟨u,rfl,hc⟩
 obtain ⟨m1,m2⟩:=nX (A:=X.A.in1) I (by show X.A.in1.units+1<cLine; exact hu) ht (λv:Value=>decide (∃u,v=.ref u/\ba X.K H u (b.map V.int))) hf rv hb
 refine SeqAt.in_listAt _ pl.isList (λw hw=>m1 w (by simpa using hw)) ⟨.bl _,H,I,rfl,?_⟩
 have e:its.toArray.any (λv:Value=>decide (∃u,v=.ref u/\ba X.K H u (b.map V.int)))=decide (b∈bs):=by
  rw [show its.toArray.any (λv:Value=>decide (∃u,v=.ref u/\ba X.K H u (b.map V.int)))=its.any (λv:Value=>decide (∃u,v=.ref u/\ba X.K H u (b.map V.int))) by simp,m2,Bool.eq_iff_iff,List.any_eq_true,decide_eq_true_eq]
  constructor
  . rintro ⟨c,hc,e⟩
    exact of_decide_eq_true e ▸ hc
  . intro h
    exact ⟨b,h,by simp⟩
 rw [e]
 exact q
end
end L2
namespace L2
open PySem PySem.Spec PyProof.Rows
mutual
inductive Dp (K:W.Frag) (H:Hp):V->PyData->Prop
 | aR:Dp K H .aR .none
 | bl (b):Dp K H (.bl b) (.bool b)
 | int (i):Dp K H (.int i) (.int i)
 | str (x):Dp K H (.str x) (.str x)
 | lst {a xs ds} : ay K H a xs->iO K H xs ds->Dp K H (.ref a) (.list ds)
 | tup {a xs ds} : ba K H a xs->iO K H xs ds->Dp K H (.ref a) (.tuple ds)
inductive iO (K:W.Frag) (H:Hp):List V->List PyData->Prop
 | nil:iO K H [] []
 | cons {x d xs ds} : Dp K H x d->iO K H xs ds->iO K H (x::xs) (d::ds)
end
section
variable {X:Cx}{pins:List (Addr×Obj)}{σ:St}{H:Hp}{s:Shared}
mutual
theorem Dp.reads (I:Inv X pins σ H s):∀{x:V}{d:PyData},Dp X.K H x d->∀{v:Value},RelV x v->∃as,Reads s.heap v d as
 | _,_,.aR,v,r=>by cases (show v=Value.none from r); exact ⟨_,.none⟩
 | _,_,.bl b,v,r=>by cases (show v=Value.bool b from r); exact ⟨_,.bool b⟩
 | _,_,.int i,v,r=>by obtain ⟨t,rfl⟩:=r; exact ⟨_,.int i t⟩
 | _,_,.str x,v,r=>by obtain ⟨t,rfl⟩:=r; exact ⟨_,.str x t⟩
 | _,_,.lst (a:=a) h1 h2,v,r=>by
  cases (show v=Value.ref a from r)
  obtain ⟨its,rv,⟨o,n,e,c,dn,dt⟩,_⟩:=I.list h1
  obtain ⟨as,ra⟩:=iO.reads I h2 rv
  exact ⟨_,.list e c dt ra⟩
 | _,_,.tup (a:=a) h1 h2,v,r=>by
  cases (show v=Value.ref a from r)
  obtain ⟨its,rv,⟨o,e,c,n,dt⟩,_⟩:=I.tuple h1
  obtain ⟨as,ra⟩:=iO.reads I h2 rv
  exact ⟨_,.tuple e c dt ra⟩
theorem iO.reads (I:Inv X pins σ H s):∀{xs:List V}{ds:List PyData},iO X.K H xs ds->∀{vs:List Value},Vals xs vs->∃as,ReadsAll s.heap vs ds as
 | _,_,.nil,_,.nil=>⟨_,.nil⟩
 | _,_,.cons h1 h2,_,.cons r1 r2=>by
  obtain ⟨as,ra⟩:=Dp.reads I h1 r1
  obtain ⟨bs,rb⟩:=iO.reads I h2 r2
  exact ⟨_,.cons ra rb⟩
end
theorem jN {K:W.Frag}{H:Hp} : ∀(ns:List Str),iO K H (ns.map V.str) (ns.map PyData.str)
 | []=>.nil
 | n::ns=>.cons (.str n) (jN ns)
abbrev dT (b:List Int):PyData:=.tuple (b.map PyData.int)
theorem pY {l:List PyData}(h:∀d∈l,d.canLay0=true):PyData.canLayAll0 l=true:=by
 induction l with
 | nil=>rfl
 | cons d l ih=>rw [PyData.canLayAll0,h d List.mem_cons_self,ih λe he=>h e (List.mem_cons_of_mem _ he)]; rfl
theorem xu {l:List PyData}{n:Nat}(h:∀d∈l,d.depth<=n):PyData.depthAll l<=n:=by
 induction l with
 | nil=>exact Nat.zero_le _
 | cons d l ih=>rw [PyData.depthAll]; exact Nat.max_le.mpr ⟨h d List.mem_cons_self,ih λe he=>h e (List.mem_cons_of_mem _ he)⟩
def Ib (K:W.Frag) (n:Nat) (f:PyData->PyData->Bool):R2:=λx y H Q=>∃da db,Dp K H x da/\Dp K H y db/\da.canLay0=true/\db.canLay0=true/\min da.depth db.depth<=n/\Q (.bl (f da db)) H
theorem xw {n:Nat}(hu:X.A.units+n<cLine):cI X (compareOp .Eq) (Ib X.K n PyData.eqv):=by
 intro pins s σ H x y v u Q I rx ry h
 obtain ⟨da,db,ha,hb,la,lb,hd,q⟩:=h
 obtain ⟨as,ra⟩:=ha.reads I rx
 obtain ⟨bs,rb⟩:=hb.reads I ry
 exact SeqAt.rcAt_reads ra rb la lb (by omega) X.prog X.w X.xe _ ⟨.bl _,H,I,rfl,q⟩
mutual
end
end
end L2
namespace L2
open PySem PySem.Spec PyProof.Rows
section
variable {X:Cx}
def EK (K:W.Frag) (neg:Bool):R2:=λx y H Q=>∃(p p':Addr) (xs:List V),x=.ref p/\y=.ref p'/\ay K H p xs/\ay K H p' []/\Q (.bl (if neg=true then !xs.isEmpty else xs.isEmpty)) H
theorem yK (hu:X.A.units<cLine):cI X (compareOp .Eq) (EK X.K false):=by
 intro pins s σ H x y v u Q I rx ry h
 obtain ⟨p,p',xs,rfl,rfl,h1,h2,q⟩:=h
 cases (show v=Value.ref p from rx)
 cases (show u=Value.ref p' from ry)
 obtain ⟨its,rv,pl,hz⟩:=I.list h1
 obtain ⟨its',pX,wj,vW⟩:=I.list h2
 have l1:=rv.length
 have l2:=pX.length
 cases xs with
 | nil=>
  have key:=SeqAt.RcAt.lists (A:=X.A) (s:=s) (e:=λ_=>true) pl.isList wj.isList (by simp only [List.size_toArray]; omega) hu (λj g1 g2=>by simp only [List.size_toArray,List.length_nil] at g1 l1; omega) X.prog X.w X.xe
  refine key _ ?_
  rw [show ((List.range its.toArray.size).all λ_=>true)=true by simp]
  exact ⟨.bl true,H,I,rfl,q⟩
 | cons a xs=>
  have key:=SeqAt.RcAt.lists_lengths (A:=X.A) (s:=s) pl.isList wj.isList (by simp only [List.size_toArray,List.length_cons,List.length_nil] at l1 l2 ⊢; rw [← l1,← l2]; rfl) hu X.prog X.w X.xe
  exact key _ ⟨.bl false,H,I,rfl,q⟩
end
end L2
namespace L2
open PySem PySem.Spec PyProof.Rows
inductive Tr where
 | leaf (b:Bool) | node (n:Str) (l r:Tr)
 deriving DecidableEq
def Tr.dep:Tr->Nat
 | .leaf _=>0
 | .node _ l r=>max l.dep r.dep+1
def cc (h:Heap):Tr->Value->Prop
 | .leaf b,v=>v=.bool b
 | .node n l r,v=>∃a o k t vl vr,v=.ref a/\h.get? a=some o/\o.cls=.type "tuple" /\ o.data=.seq #[.str n t,vl,vr] k/\cc h l vl/\cc h r vr
def gj (w:World):Tr->Int
 | .leaf b=>reduceHash (if b=true then 1 else 0)
 | .node n l r=>reduceHash (Builtin.Tuple.tupleHashOf [hashStr w n,gj w l,gj w r])
def eP:Tr->Nat
 | .leaf _=>1
 | .node _ l r=>1+eP l+eP r+1
theorem cc.inj {h:Heap} : ∀{x y:Tr}{v:Value},cc h x v->cc h y v->x=y
 | .leaf _,.leaf _,_,e1,e2=>by
  rw [show _=Value.bool _ from e1] at e2
  injection (show Value.bool _=Value.bool _ from e2) with e
  rw [e]
 | .leaf _,.node ..,_,e1,⟨_,_,_,_,_,_,e2,_⟩=>by
  rw [show _=Value.bool _ from e1] at e2
  cases e2
 | .node ..,.leaf _,_,⟨_,_,_,_,_,_,e2,_⟩,e1=>by
  rw [show _=Value.bool _ from e1] at e2
  cases e2
 | .node ..,.node ..,_,⟨a,o,k,t,vl,vr,e,g,_,d,hl,hr⟩,⟨a',o',k',t',Ic,Ie,e',g',_,d',ko,yL⟩=>by
  rw [e] at e'
  injection e' with ea
  subst ea
  rw [g] at g'
  injection g' with eo
  subst eo
  rw [d] at d'
  injection d' with e1 e2
  have pZ:=congrArg Array.toList e1
  simp only [List.cons.injEq,and_true] at pZ
  obtain ⟨q1,q2,q3⟩:=pZ
  injection q1 with n1 _
  subst n1 q2 q3
  rw [cc.inj hl ko,cc.inj hr yL]
theorem cc.keep {h h':Heap}(k:∀a o its n,h.get? a=some o->o.cls=.type "tuple" -> o.data=.seq its n->h'.get? a=some o):∀{t:Tr}{v:Value},cc h t v->cc h' t v
 | .leaf _,_,e=>e
 | .node ..,_,⟨a,o,n,t,vl,vr,e,g,c,d,hl,hr⟩=>⟨a,o,n,t,vl,vr,e,k _ _ _ _ g c d,c,d,hl.keep k,hr.keep k⟩
section
variable {prog:Program}{w:World}{E:Value->Shared->Prop}
theorem cc.hash:∀(t:Tr) (v:Value) (A:Around) (s:Shared) (Q:Int->Shared->Prop),cc s.heap t v->A.units+t.dep<cLine->Q (gj w t) { s with toks:=s.toks+eP t } -> wpAny (model prog w) A (pyHash v) Q E s
 | .leaf b,v,A,s,Q,e,hu,q=>by
  cases (show v=.bool b from e)
  refine W.pyHash_slot (T:="bool") rfl PySem.F.slot_bool_hash entry_int_hash (args_int_hash _) (beq_builtin_none _) (.inr (by omega)) ?_
  cases b
  . exact (show wpAny _ _ (do ret (← mkInt 0)) _ _ s from wpAny_bind (wpAny_mkInt (wpAny_pure ⟨_,_,rfl,q⟩)))
  . exact (show wpAny _ _ (do ret (← mkInt 1)) _ _ s from wpAny_bind (wpAny_mkInt (wpAny_pure ⟨_,_,rfl,q⟩)))
 | .node n l r,v,A,s,Q,⟨a,o,k,t,vl,vr,e,g,c,d,hl,hr⟩,hu,q=>by
  subst e
  have tS:A.units+(max l.dep r.dep+1)<cLine:=hu
  refine W.pyHash_slot (T:="tuple") ⟨o,g,c⟩ PySem.F.slot_tuple_hash PySem.F.entry_tuple_hash (PySem.F.args_tuple_hash_1 _) (beq_builtin_none _) (.inr (by omega)) ?_
  show wpAny _ _ (Builtin.Tuple.tupleItemsOf (.ref a) >>= _) _ _ s
  refine wpAny_bind (wpAny_tupleItemsOf g d (wpAny_bind ?_))
  rw [← Array.forIn_toList]
  refine wpAny_forIn_list _ (λrest (b:Array Int) z=>(rest=[.str n t,vl,vr]/\b = #[]/\z=s)\/(rest=[vl,vr]/\b = #[hashStr w n]/\z = { s with toks:=s.toks+1 })\/(rest=[vr]/\b = #[hashStr w n,gj w l]/\z = { s with toks:=s.toks+(1+eP l) })\/(rest=[]/\b = #[hashStr w n,gj w l,gj w r]/\z = { s with toks:=s.toks+(1+eP l+eP r) })) _ ?_ ?_ _ _ (.inl ⟨rfl,rfl,rfl⟩)
  . rintro x rest b z (⟨e1,rfl,rfl⟩ | ⟨e1,rfl,rfl⟩ | ⟨e1,rfl,rfl⟩ | ⟨e1,_⟩)
    . injection e1 with e1 e2
      subst e1 e2
      exact wpAny_bind (wpAny_pyHash_str (wpAny_pure (.inr (.inl ⟨rfl,rfl,rfl⟩))))
    . injection e1 with e1 e2
      subst e1 e2
      exact wpAny_bind (cc.hash l _ _ _ _ hl (by simp only [Around.in1_units]; omega) (wpAny_pure (.inr (.inr (.inl ⟨rfl,rfl,by simp only [Nat.add_assoc]⟩)))))
    . injection e1 with e1 e2
      subst e1 e2
      exact wpAny_bind (cc.hash r _ _ _ _ hr (by simp only [Around.in1_units]; omega) (wpAny_pure (.inr (.inr (.inr ⟨rfl,rfl,by simp only [Nat.add_assoc]⟩)))))
    . cases e1
  . rintro b z (⟨e1,_⟩ | ⟨e1,_⟩ | ⟨e1,_⟩ | ⟨_,rfl,rfl⟩)
    . cases e1
    . cases e1
    . cases e1
    . exact (show wpAny _ _ (retInt _) _ _ _ from wpAny_bind (wpAny_mkInt (wpAny_pure ⟨_,_,rfl,by simpa only [Nat.add_assoc,eP,gj] using q⟩)))
theorem cc.calm:∀(t:Tr) (v:Value) (k:Nat) (A:Around) (s:Shared) (Q:Bool->Shared->Prop),cc s.heap t v->t.dep<=k->Q true s->wpAny (model prog w) A (eqIsQuiet k v) Q E s
 | .leaf b,v,k,A,s,Q,e,_,q=>by
  cases (show v=.bool b from e)
  rw [eqIsQuiet_byValue _ rfl]
  exact wpAny_pure q
 | .node n l r,v,0,A,s,Q,_,hk,_=>absurd hk (Nat.not_succ_le_zero _)
 | .node n l r,v,k+1,A,s,Q,⟨a,o,m,t,vl,vr,e,g,c,d,hl,hr⟩,hk,q=>by
  subst e
  have iL:max l.dep r.dep+1<=k+1:=hk
  have hT:s.TypeIs (.ref a) "tuple":=⟨o,g,c⟩
  unfold eqIsQuiet
  refine wpAny_bind (wpAny_specialOf hT PySem.F.slot_tuple_eq.lookup ?_)
  show wpAny _ _ (isInstance (.ref a) (.type "tuple") >>= _) _ _ s
  refine wpAny_bind (wpAny_isInstance hT isSubtype_tuple_tuple ?_)
  simp only [Bool.not_true,Bool.false_eq_true,if_false]
  refine wpAny_bind (wpAny_seqItems g d (wpAny_bind ?_))
  show wpAny _ _ (forIn #[Value.str n t,vl,vr] _ _) _ _ s
  rw [← Array.forIn_toList]
  refine wpAny_forIn_list _ (λrest x z=>x.1=none/\z=s/\(rest=[.str n t,vl,vr]\/rest=[vl,vr]\/rest=[vr]\/rest=[])) _ ?_ ?_ _ _ ⟨rfl,rfl,.inl rfl⟩
  . rintro x rest b z ⟨hb,rfl,e1 | e1 | e1 | e1⟩
    . injection e1 with e1 e2
      subst e1 e2
      rw [eqIsQuiet_byValue _ rfl]
      refine wpAny_bind (wpAny_pure ?_)
      rw [if_neg (show ¬ (!true)=true by decide)]
      exact wpAny_pure ⟨rfl,rfl,.inr (.inl rfl)⟩
    . injection e1 with e1 e2
      subst e1 e2
      refine wpAny_bind (cc.calm l _ k _ _ _ hl (by omega) ?_)
      rw [if_neg (show ¬ (!true)=true by decide)]
      exact wpAny_pure ⟨rfl,rfl,.inr (.inr (.inl rfl))⟩
    . injection e1 with e1 e2
      subst e1 e2
      refine wpAny_bind (cc.calm r _ k _ _ _ hr (by omega) ?_)
      rw [if_neg (show ¬ (!true)=true by decide)]
      exact wpAny_pure ⟨rfl,rfl,.inr (.inr (.inr rfl))⟩
    . cases e1
  . rintro ⟨r1,r2⟩ z ⟨hb,rfl,_⟩
    simp only at hb
    subst hb
    exact wpAny_pure q
end
def Tr.pd:Tr->PyData
 | .leaf b=>.bool b
 | .node n l r=>.tuple [.str n,l.pd,r.pd]
def Tr.md:Tr->Prop
 | .leaf _=>True
 | .node n l r=>PyData.strOk n=true/\l.md/\r.md
theorem Tr.kF:∀t:Tr,t.md->t.pd.canLay0=true
 | .leaf _,_=>rfl
 | .node n l r,⟨h1,h2,h3⟩=>by
  rw [Tr.pd,PyData.canLay0]
  refine pY λd hd=>?_
  have:d=.str n\/d=l.pd\/d=r.pd:=by simpa using hd
  rcases this with rfl | rfl | rfl
  . rw [PyData.canLay0]
    exact h1
  . exact l.kF h2
  . exact r.kF h3
theorem Tr.nY:∀t:Tr,t.pd.depth<=t.dep
 | .leaf _=>Nat.le_refl _
 | .node n l r=>by
  rw [Tr.pd,PyData.depth,Tr.dep]
  have hl:=l.nY
  have hr:=r.nY
  have:PyData.depthAll [.str n,l.pd,r.pd]<=max l.dep r.dep:=xu λd hd=>by
   have:d=.str n\/d=l.pd\/d=r.pd:=by simpa using hd
   rcases this with rfl | rfl | rfl
   . exact Nat.zero_le _
   . omega
   . omega
  omega
theorem Tr.nZ:∀x y:Tr,PyData.eqv x.pd y.pd=decide (x=y)
 | .leaf a,.leaf b=>by
  rw [Tr.pd,Tr.pd,PyData.eqv,Bool.eq_iff_iff,decide_eq_true_eq]
  simp
 | .leaf _,.node ..=>by rw [decide_eq_false (by intro z; cases z)]; rfl
 | .node ..,.leaf _=>by rw [decide_eq_false (by intro z; cases z)]; rfl
 | .node n l r,.node n' l' r'=>by
  rw [Tr.pd,Tr.pd,PyData.eqv]
  have h1:=Tr.nZ l l'
  have h2:=Tr.nZ r r'
  have h3:PyData.eqv (.str n) (.str n')=decide (n=n'):=by rw [PyData.eqv,Bool.eq_iff_iff,decide_eq_true_eq]; simp
  simp only [PyData.eqvAll,h1,h2,h3,Bool.and_true]
  rw [Bool.eq_iff_iff]
  simp
theorem cc.reads {h:Heap} : ∀{t:Tr}{v:Value},cc h t v->∃as,Reads h v t.pd as
 | .leaf b,v,e=>by cases (show v=.bool b from e); exact ⟨_,.bool b⟩
 | .node ..,_,⟨a,o,k,t,vl,vr,e,g,c,d,hl,hr⟩=>by
  subst e
  obtain ⟨as,ra⟩:=hl.reads
  obtain ⟨bs,rb⟩:=hr.reads
  exact ⟨_,.tuple g c d (.cons (.str _ _) (.cons ra (.cons rb .nil)))⟩
def iP (prog:Program) (w:World):HeapKind prog w Tr where
 is:=λh t a=>cc h t (.ref a)/\t.dep<=8/\t.md
 hash:=gj w
 draws:=eP
 room:=λA=>A.units+16<cLine
 inj:=λhx hy=>hx.1.inj hy.1
 keeps:=λhk g d sb=>by
  refine ⟨hk.1.keep λa o its n ga _ da=>sb.extBut a o (λe=>?_) ga,hk.2⟩
  subst e
  rw [ga] at g
  injection g with eo
  subst eo
  rw [da] at d
  cases d
 pyHash:=λ{A E s k a Q} hu hk q=>cc.hash k (.ref a) A s Q hk.1 (by have:=hk.2.1; omega) q
 eqBool:=λ{A E s x y a b Q} hu hx hy q=>by
  obtain ⟨as,ra⟩:=hx.1.reads
  obtain ⟨bs,rb⟩:=hy.1.reads
  have d1:=x.nY
  have h8:=hx.2.1
  have z:=SeqAt.eqAt_reads x.pd y.pd A s _ _ as bs ra rb (x.kF hx.2.2) (y.kF hy.2.2) (by omega)
  rw [Tr.nZ] at z
  exact z prog w E Q q
 quiet:=λ{A E s k a Q} hk q=>cc.calm k (.ref a) 8 A s Q hk.1 hk.2.1 q
end L2
namespace L2
open PySem PySem.Spec PyProof.Rows
def cR (L:List (Tr×Addr×V)) (t:Tr):Option V:=(L.find? λp=>decide (p.1=t)).map (·.2.2)
abbrev jO (L:List (Tr×Addr×V)) (vs:List (Tr×Addr×Value)):Prop:=Paired (λp q=>p.1=q.1/\p.2.1=q.2.1/\RelV p.2.2 q.2.2) L vs
def wk (P:Program) (w:World) (a:Addr) (L:List (Tr×Addr×V)) (h:Heap):Prop:=
 L.length<=sizeLine/\(a == sysModules)=false/\∃vs,jO L vs/\∃o es ep,h.get? a=some o/\o.ExactDict/\o.data=.dict es ep/\es.toList=vs.map (entryOfKey (iP P w))/\(vs.map (·.1)).Nodup
def dF (P:Program) (w:World) (a:Addr) (L:List (Tr×Addr×V)):HO:=.ext (wk P w a L)
theorem tU {P:Program}{w:World}{H:Hp}{h:Heap}{a:Addr}{L:List (Tr×Addr×V)}(x:wk P w a L h):aT P w H h a (dF P w a L):=by
 refine ⟨x,?_,λh1 h2 y k=>?_⟩
 . obtain ⟨_,_,vs,_,o,_,_,g,_⟩:=x
   exact ⟨o,g⟩
 . obtain ⟨y0,y1,vs,y2,o,es,ep,g,r⟩:=y
   exact ⟨y0,y1,vs,y2,o,es,ep,k o g,r⟩
def aX (H:Hp):Tr->V->Prop
 | .leaf b,v=>v=.bl b
 | .node n l r,v=>∃a vl vr,v=.ref a/\H a=some (.tup [.str n,vl,vr])/\aX H l vl/\aX H r vr
theorem aX.keep {H H':Hp}(k:∀a xs,H a=some (.tup xs)->H' a=some (.tup xs)):∀{t:Tr}{v:V},aX H t v->aX H' t v
 | .leaf _,_,e=>e
 | .node ..,_,⟨a,vl,vr,e,g,hl,hr⟩=>⟨a,vl,vr,e,k _ _ g,hl.keep k,hr.keep k⟩
theorem aX.at {P:Program}{w:World}{H:Hp}{h:Heap}(ok:cb P w H h):∀{t:Tr}{v:V}{u:Value},aX H t v->RelV v u->cc h t u
 | .leaf b,v,u,e,r=>by
  cases (show v=.bl b from e)
  exact r
 | .node n l r,v,u,⟨a,vl,vr,e,g,hl,hr⟩,ru=>by
  subst e
  cases (show u=.ref a from ru)
  obtain ⟨_,its,rv,o,h1,h2,k,h3⟩:=(show aT P w H h a (.tup [.str n,vl,vr]) from ok a _ g)
  cases rv with
  | cons r1 rv=>
   cases rv with
   | cons r2 rv=>
    cases rv with
    | cons r3 rv=>
     cases rv
     obtain ⟨t,rfl⟩:=r1
     exact ⟨a,o,k,t,_,_,rfl,h1,h2,h3,hl.at ok r2,hr.at ok r3⟩
structure de (H:Hp) (t:Tr) (b:Addr):Prop where
 at_:aX H t (.ref b)
 d8:t.dep<=8
 sk:t.md
theorem de.keep {H H':Hp}{t:Tr}{b:Addr}(h:de H t b) (k:∀a xs,H a=some (.tup xs)->H' a=some (.tup xs)):de H' t b:=⟨h.at_.keep k,h.d8,h.sk⟩
theorem jO.len {L:List (Tr×Addr×V)}{vs:List (Tr×Addr×Value)}(r:jO L vs):L.length=vs.length:=Paired.length r
theorem jO.look {L:List (Tr×Addr×V)}{vs:List (Tr×Addr×Value)}(r:jO L vs) (t:Tr):cB (cR L t) ((atKey vs t).map (·.2)):=by
 unfold cR atKey
 induction r with
 | nil=>exact True.intro
 | @cons p q ps qs h _ ih=>
  by_cases e:p.1=t
  . rw [List.find?_cons_of_pos (by simpa using e),List.find?_cons_of_pos (by simpa using h.1.symm.trans e)]
    exact h.2.2
  . rw [List.find?_cons_of_neg (by simpa using e),List.find?_cons_of_neg (by simpa using λz=>e (h.1.trans z))]
    exact ih
theorem wm {P:Program}{w:World}{H:Hp}{h:Heap}{a:Addr}{L:List (Tr×Addr×V)}(ok:cb P w H h) (e:H a=some (dF P w a L)) (hk:∀p∈L,de H p.1 p.2.1) :
 L.length<=sizeLine/\(a == sysModules)=false/\∃vs,jO L vs/\h.DictOfH (iP P w) a vs:=by
 obtain ⟨⟨y0,y1,vs,y2,o,es,ep,g,x1,x2,x3,x4⟩,_⟩:=(show aT P w H h a (.ext (wk P w a L)) from ok a _ e)
 refine ⟨y0,y1,vs,y2,o,es,ep,g,x1,x2,x3,λx hx=>?_,x4⟩
 have all:∀{l:List (Tr×Addr×V)}{m:List (Tr×Addr×Value)},jO l m->(∀p∈l,de H p.1 p.2.1)->∀x∈m,(iP P w).is h x.1 x.2.1:=by
  intro l m q
  induction q with
  | nil=>intro _ x hx; exact nomatch hx
  | @cons p q ps qs hq _ ih=>
   intro hk x hx
   rcases List.mem_cons.mp hx with e | hx
   . subst e
     have:=hk p List.mem_cons_self
     rw [hq.1,hq.2.1] at this
     exact ⟨this.at_.at ok rfl,this.d8,this.sk⟩
   . exact ih (λp h=>hk p (List.mem_cons_of_mem _ h)) x hx
 exact all y2 hk x hx
section
variable {X:Cx}{o i value e:Expr}{pos pos' apos cN:Pos}{td ty tv:TE}
def A7 (P:Program) (w:World):TE:=λ_ H Q=>∀p,H p=none->Q (.ref p) (upd H p (dF P w p []))
theorem n9:PE X (.Dict [] [] pos) (A7 X.prog X.w):=λpins s σ H Q I h=>
 wpAny_Dict_empty ⟨.ref s.heap.objs.size,_,I.laid (a:=s.heap.objs.size) (o:=dF X.prog X.w s.heap.objs.size []) (t':=s.toks) (λ_ _ q=>Heap.get?_push_of_some _ q) (Nat.le_refl _)
  (tU ⟨Nat.zero_le _,beq_eq_false_iff_ne.mpr (Ne.symm (Nat.ne_of_lt I.big)),[],.nil,_,#[],0,Heap.get?_push_size _ rfl,⟨rfl,rfl,rfl⟩,rfl,rfl,List.nodup_nil⟩),rfl,h _ (I.hok.fresh (Nat.le_refl _))⟩
def A8 (P:Program) (w:World) (td ty:TE):TE:=λσ H Q=>td σ H λx H1=>∃a L,x=.ref a/\H1 a=some (dF P w a L)/\ty σ H1 λy H2=>∃t b,y=.ref b/\H2 a=some (dF P w a L)/\de H2 t b/\(∀p∈L,de H2 p.1 p.2.1)/\Q ((cR L t).getD .aR) H2
theorem p0 (hu:X.A.units+17<cLine) (ho:PE X o td) (he:PE X e ty) (m:M1 X o "get" apos e cN):PE X (.Call (.Attribute o "get" apos) [e] [] cN) (A8 X.prog X.w td ty):=by
 intro pins s σ H Q I h
 refine wpAny_Call_method m.base m.ka m.line PySem.F.plainAttrs_dict PySem.F.slot_dict_get PySem.F.type_dict_get (aE (ho pins s σ H _ I h) λu s1 ⟨x,H1,I1,rx,a,L,ex,ea,q1⟩=>?_)
 subst ex
 obtain rfl:u=Value.ref a:=rx
 obtain ⟨⟨_,y1,vs,_,ob,es,ep,g,x1,_⟩,_⟩:=(show aT X.prog X.w H1 s1.heap a (.ext (wk X.prog X.w a L)) from I1.hok a _ ea)
 refine ⟨⟨ob,g,x1.1⟩,λb q=>by cases q; exact ⟨ob,g,x1.2.1⟩,?_⟩
 rw [m.trees]
 refine Calls.callWith_builtin rfl (Calls.evalArgs_plain (Calls.spliced_cons (aE (he pins s1 σ H1 _ I1 q1) λiv s2 ⟨y,H2,I2,ry,t,b,ey,Ig,kt,kl,q2⟩=>Calls.spliced_nil ?_)))
 subst ey
 cases (show iv=Value.ref b from ry)
 obtain ⟨_,hd,ws,rel,dd⟩:=wm I2.hok Ig kl
 refine call_meetsIn PySem.F.slot_dict_get dd.typeIs PySem.F.entry_dict_get (PySem.F.args_dict_get_2 _ _) (meetsH_dict_get (iP X.prog X.w) a b hd) ⟨(show X.A.in1.units+16<cLine by simp only [Around.in1_units]; omega),t,ws,⟨kt.at_.at I2.hok rfl,kt.d8,kt.sk⟩,dd,⟨_,H2,I2.tok _,?_,q2⟩⟩
 exact (rel.look t).getD rfl
def A9 (P:Program) (w:World) (td ty tv:TE):TS:=λD σ H=>tv σ H λv H1=>td σ H1 λx H2=>ty σ H2 λy H3=>∃a L t b,x=.ref a/\y=.ref b/\H3 a=some (dF P w a L)/\de H3 t b/\(∀p∈L,de H3 p.1 p.2.1)/\cR L t=none/\L.length<sizeLine/\D.nx σ (upd H3 a (dF P w a (L++[(t,b,v)])))
theorem qa (hu:X.A.units+17<cLine) (ho:PE X o td) (hi:PE X i ty) (hv:PE X value tv) (hs:swapsWith value (some (.Subscript o i pos')) pos.line X.env=pure false) :
 PS X (.Assign [.Subscript o i pos'] value pos) (A9 X.prog X.w td ty tv):=by
 intro pins s σ H D I h
 refine wpAny_Assign_Subscript (aE (hv pins s σ H _ I h) λr s1 ⟨v,H1,I1,rv,q1⟩=>aE (ho pins s1 σ H1 _ I1 q1) λu s2 ⟨x,H2,I2,rx,q2⟩=>aE (hi pins s2 σ H2 _ I2 q2) λiv s3 ⟨y,H3,I3,ry,a,L,t,b,ex,ey,ea,kt,kl,hn,hl,q3⟩=>?_) hs
 subst ex ey
 obtain rfl:u=Value.ref a:=rx
 cases (show iv=Value.ref b from ry)
 obtain ⟨hz,hd,ws,rel,dd⟩:=wm I3.hok ea kl
 have yM:atKey ws t=none:=by
  have:=rel.look t
  rw [hn] at this
  cases e:atKey ws t with
  | none=>rfl
  | some p=>rw [e] at this; exact this.elim
 refine wpAny_setItem_heap (hsz:=by rw [← rel.len]; exact hz) (show X.A.in1.units+16<cLine by simp only [Around.in1_units]; omega) (show (iP X.prog X.w).is _ t b from ⟨kt.at_.at I3.hok rfl,kt.d8,kt.sk⟩) dd λh' j7 sb=>?_
 obtain ⟨q,es,ep,g,x1,x2,x3,_,x5⟩:=j7
 rw [storedH_new yM] at x3 x5
 refine ⟨σ,_,i7 I3 (by rw [ea]; exact True.intro) sb ⟨q,g⟩ (tU ⟨by rw [List.length_append]; exact hl,hd,ws++[(t,b,r)],Paired.snoc rel ⟨rfl,rfl,rv⟩,q,es,ep,g,x1,x2,x3,x5⟩),q3⟩
end
end L2
namespace Gen
open PySem L2
theorem me {α β:Type}{F:α->β->Prop} : ∀{my:List α}{mz:List β}{i:Nat}{b:β},Paired F my mz->mz[i]?=some b->∃a,my[i]?=some a/\F a b
 | _,_,i,b,.nil,h=>by simp at h
 | _,_,0,b,.cons h t,e=>⟨_,rfl,by simpa using (show _=_ from Option.some.inj e) ▸ h⟩
 | _,_,i+1,b,.cons h t,e=>let ⟨a,h1,h2⟩:=me t (i:=i) (b:=b) (by simpa using e); ⟨a,by simpa using h1,h2⟩
theorem eW {α β:Type}{F:α->β->Prop} : ∀{my m₁:List α}{mz m₂:List β},Paired F my mz->Paired F m₁ m₂->Paired F (my++m₁) (mz++m₂)
 | _,_,_,_,.nil,h=>h
 | _,_,_,_,.cons a t,h=>.cons a (eW t h)
def ev (e:Str->Bool):Tr->Bool
 | .leaf b=>b
 | .node n l r=>if e n then ev e r else ev e l
inductive bJ:List Str->Tr->Prop
 | leaf (ns:List Str) (b:Bool):bJ ns (.leaf b)
 | node {n:Str}{r:List Str}{l h:Tr} : l≠h->bJ r l->bJ r h->bJ (n::r) (.node n l h)
 | skip {n:Str}{r:List Str}{t:Tr} : bJ r t->bJ (n::r) t
def put (e:Str->Bool) (n:Str) (b:Bool):Str->Bool:=λz=>if z=n then b else e z
theorem eQ {ns:List Str}{t:Tr}(h:bJ ns t){n:Str}(hn:n∉ns) (e:Str->Bool) (b:Bool):ev (put e n b) t=ev e t:=by
 induction h with
 | leaf=>rfl
 | @node k r l h _ _ _ Ih Ii=>
  rw [List.mem_cons,not_or] at hn
  unfold ev
  rw [Ih hn.2,Ii hn.2]
  have:put e n b k=e k:=if_neg λq=>hn.1 q.symm
  rw [this]
 | @skip k r t _ ih=>
  rw [List.mem_cons,not_or] at hn
  exact ih hn.2
theorem cL:∀{ns:List Str}{t t':Tr},ns.Nodup->bJ ns t->bJ ns t'->(∀e,ev e t=ev e t')->t=t'
 | [],_,_,_,.leaf _ a,.leaf _ b,h=>by rw [show a=b from h λ_=>true]
 | n::r,t,t',hn,h1,h2,h=>by
  rw [List.nodup_cons] at hn
  have split:∀{l u x:Tr},bJ r l->bJ r u->bJ r x->(∀e,ev e (.node n l u)=ev e x)->l=u:=λ{l u x} cl cu cx hh=>by
   have e1:l=x:=cL hn.2 cl cx λe=>by
    have:=hh (put e n false)
    rw [eQ cx hn.1] at this
    rw [← this,ev,show put e n false n=false from if_pos rfl,if_neg (by decide),eQ cl hn.1]
   have e2:u=x:=cL hn.2 cu cx λe=>by
    have:=hh (put e n true)
    rw [eQ cx hn.1] at this
    rw [← this,ev,show put e n true n=true from if_pos rfl,if_pos rfl,eQ cu hn.1]
   rw [e1,e2]
  have both:∀{l u l' u':Tr},bJ r l->bJ r u->bJ r l'->bJ r u'->(∀e,ev e (.node n l u)=ev e (.node n l' u'))->l=l'/\u=u':=λ{l u l' u'} cl cu qb wo hh=>by
   refine ⟨cL hn.2 cl qb λe=>?_,cL hn.2 cu wo λe=>?_⟩
   . have:=hh (put e n false)
     rw [ev,ev,show put e n false n=false from if_pos rfl,if_neg (by decide),if_neg (by decide),eQ cl hn.1,eQ qb hn.1] at this
     exact this
   . have:=hh (put e n true)
     rw [ev,ev,show put e n true n=true from if_pos rfl,if_pos rfl,if_pos rfl,eQ cu hn.1,eQ wo hn.1] at this
     exact this
  cases h1 with
  | leaf _ a=>
   cases h2 with
   | leaf _ b=>rw [show a=b from h λ_=>true]
   | node ne cl cu=>exact absurd (split cl cu (.leaf r a) λe=>(h e).symm) ne
   | skip c=>exact cL hn.2 (.leaf r a) c h
  | node ne cl cu=>
   cases h2 with
   | leaf _ b=>exact absurd (split cl cu (.leaf r b) h) ne
   | node ne' qb wo=>
    obtain ⟨q1,q2⟩:=both cl cu qb wo h
    rw [q1,q2]
   | skip c=>exact absurd (split cl cu c h) ne
  | skip c=>
   cases h2 with
   | leaf _ b=>exact cL hn.2 c (.leaf r b) h
   | node ne cl cu=>exact absurd (split cl cu c λe=>(h e).symm) ne
   | skip c'=>exact cL hn.2 c c' h
theorem bG {ns:List Str}{t:Tr}(h:bJ ns t):t.dep<=ns.length:=by
 induction h with
 | leaf=>exact Nat.zero_le _
 | node _ _ _ i1 i2=>unfold Tr.dep; rw [List.length_cons]; omega
 | skip _ i=>rw [List.length_cons]; omega
theorem qc {ns:List Str}{t:Tr}(h:bJ ns t) (hs:∀n∈ns,PyData.strOk n=true):t.md:=by
 induction h with
 | leaf=>exact True.intro
 | node _ _ _ i1 i2=>exact ⟨hs _ List.mem_cons_self,i1 λn h=>hs n (List.mem_cons_of_mem _ h),i2 λn h=>hs n (List.mem_cons_of_mem _ h)⟩
 | skip _ i=>exact i λn h=>hs n (List.mem_cons_of_mem _ h)
theorem yN {a b:List Str}{t:Tr}(h:bJ b t):bJ (a++b) t:=by
 induction a with
 | nil=>exact h
 | cons n a ih=>exact .skip ih
theorem eu {ns:List Str}{i j:Nat}{t:Tr}(h:bJ (ns.drop j) t) (LH:i<=j):bJ (ns.drop i) t:=by
 have e:ns.drop j=(ns.drop i).drop (j-i):=by rw [List.drop_drop]; congr 1; omega
 rw [e] at h
 rw [← List.take_append_drop (j-i) (ns.drop i)]
 exact yN h
def neg:Tr->Tr
 | .leaf b=>.leaf (!b)
 | .node n l r=>.node n (neg l) (neg r)
theorem neg_neg:∀t,neg (neg t)=t
 | .leaf b=>by show Tr.leaf (!!b)=.leaf b; rw [Bool.not_not]
 | .node n l r=>by rw [neg,neg,neg_neg l,neg_neg r]
theorem xx {ns:List Str}{t:Tr}(h:bJ ns t):bJ ns (neg t):=by
 induction h with
 | leaf=>exact .leaf _ _
 | node ne _ _ i1 i2=>exact .node (λq=>ne (by have:=congrArg neg q; rwa [neg_neg,neg_neg] at this)) i1 i2
 | skip _ i=>exact .skip i
theorem oa (e:Str->Bool):∀t,ev e (neg t) = !ev e t
 | .leaf b=>rfl
 | .node n l r=>by
  rw [neg,ev,ev,oa e l,oa e r]
  cases e n <;> rfl
theorem lG:∀t,(neg t).dep=t.dep
 | .leaf _=>rfl
 | .node n l r=>by rw [neg,Tr.dep,Tr.dep,lG l,lG r]
abbrev Nd:=Nat×Nat×Nat
def aB (N:List Nd) (i:Nat):Nat:=(N.getD i (0,0,0)).1
def low (N:List Nd) (i:Nat):Nat:=(N.getD i (0,0,0)).2.1
def dZ (N:List Nd) (i:Nat):Nat:=(N.getD i (0,0,0)).2.2
def aD (TS:List Tr) (i:Nat):Tr:=TS.getD i (.leaf false)
structure FS (names:List Str) (N:List Nd) (TS:List Tr):Prop where
 len:N.length=TS.length
 two:2<=N.length
 z0:N.getD 0 (0,0,0)=(names.length,0,0)
 z1:N.getD 1 (0,0,0)=(names.length,1,1)
 t0:aD TS 0=.leaf false
 t1:aD TS 1=.leaf true
 nd:∀i,2<=i->i<N.length->aB N i<names.length/\low N i<i/\dZ N i<i/\low N i≠dZ N i/\aB N i<aB N (low N i)/\aB N i<aB N (dZ N i)/\aD TS i=.node (names.getD (aB N i) "") (aD TS (low N i)) (aD TS (dZ N i))
 uq:∀i j,2<=i->2<=j->i<N.length->j<N.length->N.getD i (0,0,0)=N.getD j (0,0,0)->i=j
section
variable {names:List Str}{N:List Nd}{TS:List Tr}
theorem FS.inj (h:FS names N TS) (hn:names.Nodup):∀i j,i<N.length->j<N.length->aD TS i=aD TS j->i=j:=by
 intro i
 induction i using Nat.strongRecOn with
 | ind i ih=>
  intro j hi hj e
  have mr:∀k,k<2->aD TS k=.leaf (decide (k=1)):=λk hk=>by
   rcases (show k=0\/k=1 by omega) with rfl | rfl
   . exact h.t0
   . exact h.t1
  by_cases i2:i<2
  . by_cases j2:j<2
    . rw [mr i i2,mr j j2] at e
      injection e with e
      rcases (show i=0\/i=1 by omega) with rfl | rfl <;> rcases (show j=0\/j=1 by omega) with rfl | rfl <;> first | rfl | (revert e; decide)
    . rw [mr i i2,(h.nd j (by omega) hj).2.2.2.2.2.2] at e
      cases e
  . by_cases j2:j<2
    . rw [mr j j2,(h.nd i (by omega) hi).2.2.2.2.2.2] at e
      cases e
    . obtain ⟨a1,a2,a3,_,_,_,a7⟩:=h.nd i (by omega) hi
      obtain ⟨b1,b2,b3,_,_,_,b7⟩:=h.nd j (by omega) hj
      rw [a7,b7] at e
      injection e with e1 e2 e3
      have q2:=ih _ a2 _ (by omega) (by omega) e2
      have q3:=ih _ a3 _ (by omega) (by omega) e3
      have q1:aB N i=aB N j:=by
       rw [List.getD_eq_getElem?_getD,List.getD_eq_getElem?_getD,List.getElem?_eq_getElem a1,List.getElem?_eq_getElem b1] at e1
       exact (List.getElem_inj hn).mp e1
      refine h.uq i j (by omega) (by omega) hi hj ?_
      exact Prod.ext q1 (Prod.ext q2 q3)
theorem FS.GR (h:FS names N TS){i:Nat}(hi:i<N.length):aB N i<=names.length:=by
 by_cases i2:i<2
 . unfold aB
   rcases (show i=0\/i=1 by omega) with rfl | rfl
   . rw [h.z0]
     exact Nat.le_refl _
   . rw [h.z1]
     exact Nat.le_refl _
 . exact Nat.le_of_lt (h.nd i (by omega) hi).1
theorem FS.CQ (h:FS names N TS) (hn:names.Nodup):∀i,i<N.length->bJ (names.drop (aB N i)) (aD TS i):=by
 intro i
 induction i using Nat.strongRecOn with
 | ind i ih=>
  intro hi
  by_cases i2:i<2
  . rcases (show i=0\/i=1 by omega) with rfl | rfl
    . rw [h.t0]
      exact .leaf _ _
    . rw [h.t1]
      exact .leaf _ _
  . obtain ⟨a1,a2,a3,a4,a5,a6,a7⟩:=h.nd i (by omega) hi
    rw [a7,List.drop_eq_getElem_cons a1,List.getD_eq_getElem?_getD,List.getElem?_eq_getElem a1]
    refine .node (λq=>a4 (h.inj hn _ _ (by omega) (by omega) q)) (eu (ih _ a2 (by omega)) a5) (eu (ih _ a3 (by omega)) a6)
theorem g8 {α:Type}{l m:List α}{d:α}{i:Nat}(h:i<l.length):(l++m).getD i d=l.getD i d:=by
 rw [List.getD_eq_getElem?_getD,List.getD_eq_getElem?_getD,List.getElem?_append_left h]
theorem g9 {α:Type}{l:List α}{x d:α} : (l++[x]).getD l.length d=x:=by
 rw [List.getD_eq_getElem?_getD,List.getElem?_append_right (Nat.le_refl _),Nat.sub_self]
 rfl
theorem FS.push (h:FS names N TS){s l u:Nat}(hs:s<names.length) (hl:l<N.length) (hu:u<N.length) (ne:l≠u) (s1:s<aB N l) (s2:s<aB N u) (d4:∀i,2<=i->i<N.length->N.getD i (0,0,0)≠(s,l,u)) :
 FS names (N++[(s,l,u)]) (TS++[.node (names.getD s "") (aD TS l) (aD TS u)]):=by
 have h2:=h.two
 have hlen:=h.len
 have ez:∀i,i<N.length->(N++[(s,l,u)]).getD i (0,0,0)=N.getD i (0,0,0):=λi hi=>g8 hi
 have jP:∀i,i<N.length->aD (TS++[.node (names.getD s "") (aD TS l) (aD TS u)]) i=aD TS i:=λi hi=>g8 (by omega)
 have og:(N++[(s,l,u)]).getD N.length (0,0,0)=(s,l,u):=g9
 refine ⟨by rw [List.length_append,List.length_append,hlen]; rfl,by rw [List.length_append]; omega,by rw [ez 0 (by omega)]; exact h.z0,by rw [ez 1 (by omega)]; exact h.z1,by rw [jP 0 (by omega)]; exact h.t0,by rw [jP 1 (by omega)]; exact h.t1,λi i2 hi=>?_,λi j i2 j2 hi hj e=>?_⟩
 . rw [List.length_append,List.length_singleton] at hi
   by_cases q:i<N.length
   . obtain ⟨a1,a2,a3,a4,a5,a6,a7⟩:=h.nd i i2 q
     have e1:aB (N++[(s,l,u)]) i=aB N i:=by unfold aB; rw [ez i q]
     have e2:low (N++[(s,l,u)]) i=low N i:=by unfold low; rw [ez i q]
     have e3:dZ (N++[(s,l,u)]) i=dZ N i:=by unfold dZ; rw [ez i q]
     have e4:aB (N++[(s,l,u)]) (low N i)=aB N (low N i):=by unfold aB; rw [ez _ (by omega)]
     have e5:aB (N++[(s,l,u)]) (dZ N i)=aB N (dZ N i):=by unfold aB; rw [ez _ (by omega)]
     rw [e1,e2,e3,e4,e5,jP i q,jP _ (by omega),jP _ (by omega)]
     exact ⟨a1,a2,a3,a4,a5,a6,a7⟩
   . have ei:i=N.length:=by omega
     subst ei
     have e1:aB (N++[(s,l,u)]) N.length=s:=by unfold aB; rw [og]
     have e2:low (N++[(s,l,u)]) N.length=l:=by unfold low; rw [og]
     have e3:dZ (N++[(s,l,u)]) N.length=u:=by unfold dZ; rw [og]
     have e4:aB (N++[(s,l,u)]) l=aB N l:=by unfold aB; rw [ez _ hl]
     have e5:aB (N++[(s,l,u)]) u=aB N u:=by unfold aB; rw [ez _ hu]
     rw [e1,e2,e3,e4,e5,jP _ hl,jP _ hu]
     refine ⟨hs,hl,hu,ne,s1,s2,?_⟩
     rw [hlen]
     exact g9
 . rw [List.length_append,List.length_singleton] at hi hj
   by_cases qi:i<N.length
   . by_cases qj:j<N.length
     . rw [ez i qi,ez j qj] at e
       exact h.uq i j i2 j2 qi qj e
     . rw [ez i qi,show j=N.length by omega,og] at e
       exact absurd e (d4 i i2 qi)
   . by_cases qj:j<N.length
     . rw [ez j qj,show i=N.length by omega,og] at e
       exact absurd e.symm (d4 j j2 qj)
     . omega
end
end Gen
namespace Gen
open PySem L2
abbrev jc:Stmt:=inClass (top 6) 1
abbrev jd:Stmt:=inClass (top 6) 6
structure fQ (mg:Str->Option Value):Prop where
 len:mg "len" = none
 list:mg "list" = none
 dict:mg "dict" = none
 tuple:mg "tuple" = none
 str:mg "str" = none
 int:mg "int" = none
 bool:mg "bool" = none
 zip:mg "zip" = none
 isi:mg "isinstance" = none
 min:mg "min" = none
 rev:mg "reversed" = none
structure eX (K:W.Frag) (mg:Str->Option Value) (C:Addr):Prop where
 cl:iF K C
 n1:cw K C "names"
 n2:cw K C "spots"
 n3:cw K C "nodes"
 n4:cw K C "known"
 n5:cw K C "choices"
 n6:cw K C "imported"
 n7:cw K C "exported"
 mgC:mg "Forest" = some (.ref C)
def bL (nm sp nd kn ch im ex:Addr):List (Str×V):=au "exported" (.ref ex) (au "imported" (.ref im) (au "choices" (.ref ch) (au "known" (.ref kn) (au "nodes" (.ref nd) (au "spots" (.ref sp) (au "names" (.ref nm) []))))))
section
variable (nm sp nd kn ch im ex:Addr)
theorem EL:(bL nm sp nd kn ch im ex).lookup ("names" : Str)=some (.ref nm):=by
 unfold bL
 rw [ak,if_neg (by decide +kernel),ak,if_neg (by decide +kernel),ak,if_neg (by decide +kernel),ak,if_neg (by decide +kernel),ak,if_neg (by decide +kernel),ak,if_neg (by decide +kernel),ak,if_pos rfl]
theorem EM:(bL nm sp nd kn ch im ex).lookup ("spots" : Str)=some (.ref sp):=by
 unfold bL
 rw [ak,if_neg (by decide +kernel),ak,if_neg (by decide +kernel),ak,if_neg (by decide +kernel),ak,if_neg (by decide +kernel),ak,if_neg (by decide +kernel),ak,if_pos rfl]
theorem jQ:(bL nm sp nd kn ch im ex).lookup ("nodes" : Str)=some (.ref nd):=by
 unfold bL
 rw [ak,if_neg (by decide +kernel),ak,if_neg (by decide +kernel),ak,if_neg (by decide +kernel),ak,if_neg (by decide +kernel),ak,if_pos rfl]
theorem yO:(bL nm sp nd kn ch im ex).lookup ("known" : Str)=some (.ref kn):=by
 unfold bL
 rw [ak,if_neg (by decide +kernel),ak,if_neg (by decide +kernel),ak,if_neg (by decide +kernel),ak,if_pos rfl]
theorem yP:(bL nm sp nd kn ch im ex).lookup ("choices" : Str)=some (.ref ch):=by
 unfold bL
 rw [ak,if_neg (by decide +kernel),ak,if_neg (by decide +kernel),ak,if_pos rfl]
theorem yQ:(bL nm sp nd kn ch im ex).lookup ("imported" : Str)=some (.ref im):=by
 unfold bL
 rw [ak,if_neg (by decide +kernel),ak,if_pos rfl]
theorem yR:(bL nm sp nd kn ch im ex).lookup ("exported" : Str)=some (.ref ex):=by
 unfold bL
 rw [ak,if_pos rfl]
theorem iQ {m:Str}(h1:m ≠ "names") (h2:m ≠ "spots") (h3:m ≠ "nodes") (h4:m ≠ "known") (h5:m ≠ "choices") (h6:m ≠ "imported") (h7:m ≠ "exported"):(bL nm sp nd kn ch im ex).lookup m=none:=by
 unfold bL
 rw [ak,if_neg h7,ak,if_neg h6,ak,if_neg h5,ak,if_neg h4,ak,if_neg h3,ak,if_neg h2,ak,if_neg h1]
 rfl
end
theorem aY {b:Bool}{A B:Prop}(h:b=false) (k:B):if b=true then A else B:=by rw [h]; exact gp k
theorem bQ {b:Bool}{A B:Prop}(h:b=true) (k:A):if b=true then A else B:=by rw [h]; exact lC k
def dg:Nat->List Str->List (Key×V)
 | _,[]=>[]
 | i,n::r=>(.inr n,.int (i:Int))::dg (i+1) r
theorem tV:∀(names:List Str) (i j:Nat) (z:Str),names.Nodup->names[j]?=some z->bj (dg i names) (.inr z)=some (V.int ((i+j:Nat):Int))
 | [],_,_,_,_,h=>by simp at h
 | n::r,i,0,z,_,h=>by
  have e:n=z:=by simpa using h
  subst e
  rw [dg,b0 rfl]
  rfl
 | n::r,i,j+1,z,hn,h=>by
  have h2:r[j]?=some z:=by simpa using h
  have hz:z≠n:=λe=>(List.nodup_cons.mp hn).1 (e ▸ List.mem_of_getElem? h2)
  rw [dg,bX (λq=>hz (Sum.inr.inj q).symm),tV r (i+1) j z (List.nodup_cons.mp hn).2 h2,show i+1+j=i+(j+1) by omega]
def cY (p:Nd):List V:=[.int (p.1:Int),.int (p.2.1:Int),.int (p.2.2:Int)]
def eR (p:Nd):List Key:=[.inl (p.1:Int),.inl (p.2.1:Int),.inl (p.2.2:Int)]
theorem lH {p q:Nd}(h:eR p=eR q):p=q:=by
 unfold eR at h
 simp only [List.cons.injEq,Sum.inl.injEq,and_true] at h
 obtain ⟨h1,h2,h3⟩:=h
 exact Prod.ext (by omega) (Prod.ext (by omega) (by omega))
def cV:Nat->List Nd->List (List Key×V)
 | _,[]=>[]
 | i,p::r=>(eR p,.int (i:Int))::cV (i+1) r
theorem qd:∀(l:List Nd) (i:Nat),(cV i l).length=l.length
 | [],_=>rfl
 | _::r,i=>by rw [cV,List.length_cons,List.length_cons,qd r]
theorem qg:∀(a b:List Nd) (i:Nat),cV i (a++b)=cV i a++cV (i+a.length) b
 | [],b,i=>rfl
 | p::r,b,i=>by rw [List.cons_append,cV,cV,qg r b (i+1),List.cons_append,List.length_cons,show i+1+r.length=i+(r.length+1) by omega]
theorem oi:∀(l:List Nd) (i:Nat) (p:Nd),bj (cV i l) (eR p)=none->p∉l
 | [],_,_,_=>List.not_mem_nil
 | q::r,i,p,h=>by
  by_cases e:q=p
  . rw [e,cV,b0 rfl] at h
    cases h
  . rw [cV,bX (λz=>e (lH z))] at h
    rw [List.mem_cons,not_or]
    exact ⟨λz=>e z.symm,oi r (i+1) p h⟩
theorem om:∀(l:List Nd) (i:Nat) (p:Nd) (v:V),bj (cV i l) (eR p)=some v->∃j,l[j]?=some p/\v=.int ((i+j:Nat):Int)
 | [],_,_,_,h=>nomatch h
 | q::r,i,p,v,h=>by
  by_cases e:q=p
  . rw [e,cV,b0 rfl] at h
    exact ⟨0,by rw [e]; rfl,(Option.some.inj h).symm⟩
  . rw [cV,bX (λz=>e (lH z))] at h
    obtain ⟨j,h1,h2⟩:=om r (i+1) p v h
    exact ⟨j+1,by simpa using h1,by rw [h2,show i+1+j=i+(j+1) by omega]⟩
structure cz where
 N:List Nd
 TS:List Tr
 ts:List Addr
 CH:List (List Key×V)
 IM:List (Tr×Addr×V)
 EX:List (Key×V)
def jR (N:List Nd) (TS:List Tr) (e:List Key×V):Prop:=∃t h l n:Nat,e.1=[.inl (t:Int),.inl (h:Int),.inl (l:Int)]/\e.2=.int (n:Int)/\t<N.length/\h<N.length/\l<N.length/\n<N.length/\
 (∀v,ev v (aD TS n)=if ev v (aD TS t)=true then ev v (aD TS h) else ev v (aD TS l))/\min (aB N t) (min (aB N h) (aB N l))<=aB N n
structure FO (P:Program) (w:World) (C:Addr) (H:Hp) (y dy nm sp nd kn ch im ex:Addr) (names:List Str) (S:cz):Prop where
 hy:H y=some (.ins C dy (bL nm sp nd kn ch im ex))
 hn:H nm=some (.lst (names.map V.str))
 hs:H sp=some (.dK (dg 0 names))
 hd:H nd=some (.lst (S.ts.map V.ref))
 ht:Paired (λt p=>H t=some (.tup (cY p))) S.ts S.N
 hk:H kn=some (.dT (cV 2 (S.N.drop 2)))
 hc:H ch=some (.dT S.CH)
 ck:∀e∈S.CH,jR S.N S.TS e
 hi:H im=some (dF P w im S.IM)
 ik:∀p∈S.IM,de H p.1 p.2.1/\∃i:Nat,i<S.N.length/\p.2.2=.int (i:Int)/\aD S.TS i=p.1
 he:H ex=some (.dK S.EX)
 ek:∀kv∈S.EX,∃i:Nat,kv.1=.inl (i:Int)/\i<S.N.length/\aX H (aD S.TS i) kv.2
 e0:bj S.EX (.inl 0)=some (.bl false)/\bj S.EX (.inl 1)=some (.bl true)
 fs:FS names S.N S.TS
 nn:names.Nodup
 ns:∀n∈names,PyData.strOk n=true
 n8:names.length<=8
 d1:nd≠nm
 d2:kn≠ch
 d3:sp≠ex
def Kp (H H':Hp) (nd kn ch im ex:Addr):Prop:=∀b o,H b=some o->b≠nd->b≠kn->b≠ch->b≠im->b≠ex->H' b=some o
structure Bd (S:cz) (b:Nat):Prop where
 b1:S.N.length<=b
 b2:S.CH.length<=b
 b3:S.IM.length<=b
 b4:S.EX.length<=b
structure cH (S S':cz):Prop where
 gn:∃a,S'.N=S.N++a
 gt:∃a,S'.TS=S.TS++a
theorem cH.refl (S:cz):cH S S:=⟨⟨[],by simp⟩,⟨[],by simp⟩⟩
theorem cH.trans {S S1 S2:cz}(a:cH S S1) (b:cH S1 S2):cH S S2:=by
 obtain ⟨⟨x,hx⟩,⟨y,hy⟩⟩:=a
 obtain ⟨⟨x',wq⟩,⟨y',Ij⟩⟩:=b
 exact ⟨⟨x++x',by rw [wq,hx,List.append_assoc]⟩,⟨y++y',by rw [Ij,hy,List.append_assoc]⟩⟩
theorem cH.le {S S':cz}(a:cH S S'):S.N.length<=S'.N.length:=by
 obtain ⟨⟨x,hx⟩,_⟩:=a
 rw [hx,List.length_append]
 omega
theorem cH.nd {S S':cz}(a:cH S S'){i:Nat}(h:i<S.N.length):S'.N.getD i (0,0,0)=S.N.getD i (0,0,0):=by
 obtain ⟨⟨x,hx⟩,_⟩:=a
 rw [hx]
 exact g8 h
theorem cH.aB {S S':cz}(a:cH S S'){i:Nat}(h:i<S.N.length):Gen.aB S'.N i=Gen.aB S.N i:=by unfold Gen.aB; rw [a.nd h]
theorem cH.aD {S S':cz}(a:cH S S'){i:Nat}(h:i<S.TS.length):Gen.aD S'.TS i=Gen.aD S.TS i:=by
 obtain ⟨_,⟨x,hx⟩⟩:=a
 unfold Gen.aD
 rw [hx]
 exact g8 h
theorem jR.grow {S S':cz}(a:cH S S') (hl:S.N.length=S.TS.length){e:List Key×V}(h:jR S.N S.TS e):jR S'.N S'.TS e:=by
 obtain ⟨t,h',l,n,e1,e2,l1,l2,l3,l4,hv,hm⟩:=h
 have:=a.le
 refine ⟨t,h',l,n,e1,e2,by omega,by omega,by omega,by omega,λv=>?_,?_⟩
 . rw [a.aD (by omega),a.aD (by omega),a.aD (by omega),a.aD (by omega)]
   exact hv v
 . rw [a.aB l1,a.aB l2,a.aB l3,a.aB l4]
   exact hm
section
variable {P:Program}{w:World}{K:W.Frag}{mg:Str->Option Value}{base:Heap}{C y dy nm sp nd kn ch im ex:Addr}{names:List Str}{S:cz}{H H':Hp}
theorem Kp.of (s:ao H H'):Kp H H' nd kn ch im ex:=λb o h _ _ _ _ _=>s b o h
theorem Kp.trans {H1:Hp}(a:Kp H H1 nd kn ch im ex) (b:Kp H1 H' nd kn ch im ex):Kp H H' nd kn ch im ex:=λc o h h1 h2 h3 h4 h5=>b c o (a c o h h1 h2 h3 h4 h5) h1 h2 h3 h4 h5
theorem FO.dm (h:FO P w C H y dy nm sp nd kn ch im ex names S) (k:Kp H H' nd kn ch im ex):∀a xs,H a=some (.tup xs)->H' a=some (.tup xs):=λa xs e=>
 k a _ e (cC e h.hd (by intro z; cases z)) (cC e h.hk (by intro z; cases z)) (cC e h.hc (by intro z; cases z)) (cC e h.hi (by intro z; cases z)) (cC e h.he (by intro z; cases z))
theorem FO.same (h:FO P w C H y dy nm sp nd kn ch im ex names S) (s:ao H H'):FO P w C H' y dy nm sp nd kn ch im ex names S:=
 ⟨s _ _ h.hy,s _ _ h.hn,s _ _ h.hs,s _ _ h.hd,Paired.gL h.ht λ_ _ e=>s _ _ e,s _ _ h.hk,s _ _ h.hc,h.ck,s _ _ h.hi,λp hp=>⟨(h.ik p hp).1.keep λa xs e=>s _ _ e,(h.ik p hp).2⟩,s _ _ h.he,
  λkv bg=>let ⟨i,a,b,c⟩:=h.ek kv bg; ⟨i,a,b,c.keep λa xs e=>s _ _ e⟩,h.e0,h.fs,h.nn,h.ns,h.n8,h.d1,h.d2,h.d3⟩
theorem FO.node (h:FO P w C H y dy nm sp nd kn ch im ex names S){i:Nat}(hi:i<S.N.length):∃t,S.ts[i]?=some t/\H t=some (.tup (cY (S.N.getD i (0,0,0)))):=by
 obtain ⟨t,h1,h2⟩:=me h.ht (i:=i) (List.getElem?_eq_getElem hi)
 refine ⟨t,h1,?_⟩
 rw [h2,List.getD_eq_getElem?_getD,List.getElem?_eq_getElem hi]
 rfl
def kG (P:Program) (w:World) (C:Addr):Sp:=λvs H Q _=>∃(y dy nm sp nd kn ch im ex:Addr) (names:List Str) (S:cz) (x s:Nat) (b:Bool),vs=[.ref y,.int (x:Int),.int (s:Int),.int (if b=true then 2 else 1)]/\FO P w C H y dy nm sp nd kn ch im ex names S/\x<S.N.length/\
 Q (.int ((if aB S.N x=s then (if b=true then dZ S.N x else low S.N x) else x:Nat):Int)) H
theorem tW:aQ ["self", "number", "spot", "side", "node"] ["self", "number", "spot", "side"] (aj jd):=⟨rfl,rfl,rfl,by decide +kernel,rfl,by decide +kernel,by decide +kernel⟩
theorem xy {f:Addr}{fd:FuncData}(F:bY K "half" "Forest.half" jd f fd) (T:eX K mg C):av P w K mg base aH 1 f fd ["self", "number", "spot", "side"] (kG P w C):=by
 refine F.ok tW (λvs H Q E h=>?_) (λcdv A outer s H vs Q E hr h=>?_)
 . obtain ⟨y,dy,nm,sp,nd,kn,ch,im,ex,names,S,x,s0,b,rfl,_⟩:=h
   rfl
 . obtain ⟨y,dy,nm,sp,nd,kn,ch,im,ex,names,S,x,s0,b,rfl,hO,hx,kk⟩:=h
   refine ⟨_,ae (ax (i:=4) tW.nd rfl (Or.inl rfl) (aM (r:=eg K) br (bx (pv 0) rfl) (pv 1) (λ_ _=>rfl)))
    (aq (aJ (uK (bq di (aM (r:=cm K) bo (pv 4) af (λ_ _=>rfl)) (pv 2) (bp _)) (aM (r:=cm K) bo (pv 4) (pv 3) (λ_ _=>rfl)) (pv 1)))),?_⟩
   obtain ⟨t,h1,h2⟩:=hO.node hx
   refine ⟨_,rfl,y,C,dy,_,_,rfl,hO.hy,T.cl,T.n3,jQ ..,_,rfl,nd,_,_,.ref t,rfl,rfl,ay.of hO.hd,aF (by rw [List.getElem?_map,h1]; rfl),?_⟩
   refine ⟨_,rfl,t,_,0,_,rfl,rfl,ba.of h2,aF (j:=0) rfl,_,rfl,rfl,_,rfl,?_⟩
   by_cases e:aB S.N x=s0
   . rw [if_pos e] at kk
     refine bQ (decide_eq_true (by rw [← e]; rfl)) ?_
     refine ⟨_,rfl,_,rfl,t,_,_,_,rfl,rfl,ba.of h2,?_,kk⟩
     cases b
     . exact aF (j:=1) rfl
     . exact aF (j:=2) rfl
   . rw [if_neg e] at kk
     refine aY (decide_eq_false λz=>e ?_) ⟨_,rfl,kk⟩
     have:=V.int.inj z
     have q:((aB S.N x:Nat):Int)=(s0:Int):=this
     omega
def gx (P:Program) (w:World) (C:Addr):Sp:=λvs H Q _=>∃(y dy nm sp nd kn ch im ex:Addr) (names:List Str) (S:cz) (s l u b:Nat),vs=[.ref y,.int (s:Int),.int (l:Int),.int (u:Int)]/\FO P w C H y dy nm sp nd kn ch im ex names S/\s<names.length/\l<S.N.length/\u<S.N.length/\s<aB S.N l/\s<aB S.N u/\Bd S b/\b<100000/\
 ∀(n:Nat) (S':cz) (H':Hp),FO P w C H' y dy nm sp nd kn ch im ex names S'->Kp H H' nd kn ch im ex->cH S S'->Bd S' (b+1)->S'.CH=S.CH->S'.IM=S.IM->S'.EX=S.EX->n<S'.N.length->s<=aB S'.N n->aD S'.TS n=(if l=u then aD S.TS l else .node (names.getD s "") (aD S.TS l) (aD S.TS u))->Q (.int (n:Int)) H'
abbrev Ik:List Str:=["self", "spot", "low", "high", "key", "number"]
abbrev iw:List Str:=["self", "spot", "low", "high"]
theorem rh:aQ Ik iw (aj jc):=⟨rfl,rfl,rfl,by decide +kernel,rfl,by decide +kernel,by decide +kernel⟩
theorem big {n:Nat}(h:n<=1000000):n<sizeLine:=Nat.lt_of_le_of_lt h (by decide)
theorem ve {α:Type}{l:List α}{j:Nat}{x d:α}(h:(l.drop 2)[j]?=some x):2+j<l.length/\l.getD (2+j) d=x:=by
 rw [List.getElem?_drop] at h
 have:=(List.getElem?_eq_some_iff.mp h).1
 exact ⟨this,by rw [List.getD_eq_getElem?_getD,h]; rfl⟩
theorem xA {f:Addr}{fd:FuncData}(F:bY K "node" "Forest.node" jc f fd) (T:eX K mg C) (O2:fQ mg):av P w K mg base aH 1 f fd iw (gx P w C):=by
 refine F.ok rh (λvs H Q E h=>?_) (λcdv A outer s H vs Q E hr h=>?_)
 . obtain ⟨y,dy,nm,sp,nd,kn,ch,im,ex,names,S,s0,l,u,b,rfl,_⟩:=h
   rfl
 . obtain ⟨y,dy,nm,sp,nd,kn,ch,im,ex,names,S,s0,l,u,b,rfl,hO,hs,hl,tS,s1,s2,hB,hb,kk⟩:=h
   have hu:=i8 hr
   refine ⟨_,ae (bc (bq di (pv 2) (pv 3) (bp _)) (aq (aJ (pv 2))) aN)
    (ae (ax (i:=4) rh.nd rfl (Or.inl rfl) (eL (aa (pv 1) (aa (pv 2) (aa (pv 3) ab)))))
    (ae (ax (i:=5) rh.nd rfl (Or.inl rfl) (jC hu (bx (pv 0) rfl) (pv 4) ⟨rfl,rfl,rfl,rfl⟩))
    (ae (bc (dM (iA (pv 5)))
     (ae (ax (i:=5) rh.nd rfl (Or.inl rfl) (aO aP (by rfl) O2.len PySem.boot_len (aa (bx (pv 0) rfl) ab)))
     (ae (lx (kd PySem.F.plainAttrs_list PySem.F.slot_list_append PySem.F.type_list_append gh (bx (pv 0) rfl) (aa (pv 4) ab)))
     (aq (lz hu (bx (pv 0) rfl) (pv 4) (pv 5) rfl)))) aN)
    (aq (aJ (pv 5)))))),?_⟩
   refine ⟨_,rfl,_,rfl,rfl,_,rfl,?_⟩
   by_cases e:l=u
   . refine bQ (decide_eq_true (by rw [e])) ⟨_,rfl,kk l S H hO (λ_ _ h _ _ _ _ _=>h) (.refl S) ⟨Nat.le_succ_of_le hB.b1,Nat.le_succ_of_le hB.b2,Nat.le_succ_of_le hB.b3,Nat.le_succ_of_le hB.b4⟩ rfl rfl rfl hl (Nat.le_of_lt s1) (by rw [if_pos e])⟩
   . refine aY (decide_eq_false λz=>e (by have:=V.int.inj z; omega)) ?_
     refine ⟨_,rfl,_,rfl,_,rfl,(by show 3<=sizeLine; decide),λt ht=>?_⟩
     have q1:(upd H t (.tup (cY (s0,l,u)))) t=some (.tup (cY (s0,l,u))):=ag
     have wt:ao H (upd H t (.tup (cY (s0,l,u)))):=ao.aA ht
     show dq _ _ _ _ (upd H t (.tup (cY (s0,l,u))))
     generalize upd H t (.tup (cY (s0,l,u)))=H1 at q1 wt ⊢
     have aI:=hO.same wt
     have hlen:=aI.fs.len
     have cT:H1 t=some (.tup ((eR (s0,l,u)).map kV)):=q1
     refine ⟨_,rfl,y,C,dy,_,_,rfl,aI.hy,T.cl,T.n4,yO ..,kn,rfl,.inr ⟨_,.inl aI.hk⟩,_,rfl,_,ef.t (k:=eR (s0,l,u)) aI.hk cT,?_⟩
     cases hv:bj (cV 2 (S.N.drop 2)) (eR (s0,l,u)) with
     | some v=>
      obtain ⟨j,hj,rfl⟩:=om _ _ _ _ hv
      obtain ⟨j1,j2⟩:=ve (d:=(0,0,0)) hj
      refine ⟨_,rfl,_,rfl,aY rfl ⟨_,rfl,kk (2+j) S H1 aI (.of wt) (.refl S) ⟨Nat.le_succ_of_le hB.b1,Nat.le_succ_of_le hB.b2,Nat.le_succ_of_le hB.b3,Nat.le_succ_of_le hB.b4⟩ rfl rfl rfl j1 ?_ ?_⟩⟩
      . unfold aB
        rw [j2]
        exact Nat.le_refl _
      . obtain ⟨_,_,_,_,_,_,a7⟩:=aI.fs.nd (2+j) (by omega) j1
        rw [a7,if_neg e]
        unfold aB low dZ
        rw [j2]
     | none=>
      have yM:=oi _ _ _ hv
      have CS:=aI.ht.length
      refine ⟨_,rfl,_,rfl,bQ rfl ?_⟩
      refine ⟨_,rfl,y,C,dy,_,_,rfl,aI.hy,T.cl,T.n3,jQ ..,nd,_,rfl,.inl (ay.of aI.hd),?_⟩
      rw [List.length_map,CS]
      refine ⟨_,rfl,y,C,dy,_,_,rfl,aI.hy,T.cl,T.n3,jQ ..,.inl ⟨rfl,_,ay.of aI.hd⟩,_,rfl,nd,_,_,rfl,rfl,aI.hd,(by rw [List.length_map,CS]; exact big (by have:=hB.b1; omega)),?_⟩
      have q2:(upd H1 nd (.lst (S.ts.map V.ref++[.ref t]))) nd=some (.lst ((S.ts++[t]).map V.ref)):=by rw [ag,List.map_append]; rfl
      have k2:∀b o,H1 b=some o->b≠nd->(upd H1 nd (.lst (S.ts.map V.ref++[.ref t]))) b=some o:=λb o h n=>by rw [ai n]; exact h
      generalize upd H1 nd (.lst (S.ts.map V.ref++[.ref t]))=H2 at q2 k2 ⊢
      have nl:∀{b:Addr}{o:HO},H1 b=some o->(∀xs,o≠.lst xs)->b≠nd:=λhb ho z=>by
       rw [z,aI.hd] at hb
       exact ho _ (Option.some.inj hb).symm
      have y2:=k2 _ _ aI.hy (nl aI.hy (λ_ z=>by cases z))
      have Il:=k2 _ _ aI.hk (nl aI.hk (λ_ z=>by cases z))
      have t2:=k2 _ _ cT (nl cT (λ_ z=>by cases z))
      refine ⟨_,rfl,_,rfl,y,C,dy,_,_,rfl,y2,T.cl,T.n4,yO ..,_,rfl,kn,_,rfl,gX.t (k:=eR (s0,l,u)) Il t2 (by rw [qd]; exact big (by have:=hB.b1; rw [List.length_drop]; omega)),?_⟩
      have EN:putK (cV 2 (S.N.drop 2)) (eR (s0,l,u)) (.int (S.N.length:Int))=cV 2 ((S.N++[(s0,l,u)]).drop 2):=by
       have h2:=aI.fs.two
       rw [jA _ hv,List.drop_append_of_le_length h2,qg,List.length_drop,show 2+(S.N.length-2)=S.N.length by omega]
       rfl
      rw [EN]
      have q3:(upd H2 kn (.dT (cV 2 ((S.N++[(s0,l,u)]).drop 2)))) kn=some (.dT (cV 2 ((S.N++[(s0,l,u)]).drop 2))):=ag
      have k3:∀b o,H1 b=some o->b≠nd->b≠kn->(upd H2 kn (.dT (cV 2 ((S.N++[(s0,l,u)]).drop 2)))) b=some o:=λb o h n1 n2=>by rw [ai n2]; exact k2 b o h n1
      have CT:(upd H2 kn (.dT (cV 2 ((S.N++[(s0,l,u)]).drop 2)))) nd=some (.lst ((S.ts++[t]).map V.ref)):=by rw [ai (Ne.symm (nl aI.hk (λ_ z=>by cases z)))]; exact q2
      generalize upd H2 kn (.dT (cV 2 ((S.N++[(s0,l,u)]).drop 2)))=H3 at q3 k3 CT ⊢
      have kt:∀{b:Addr}{o:HO},H1 b=some o->(∀xs,o≠.lst xs)->(∀xs,o≠.dT xs)->H3 b=some o:=λhb ho hd=>k3 _ _ hb (nl hb ho) λz=>by
       rw [z,aI.hk] at hb
       exact hd _ (Option.some.inj hb).symm
      have G:cH S { S with N:=S.N++[(s0,l,u)],TS:=S.TS++[.node (names.getD s0 "") (aD S.TS l) (aD S.TS u)],ts:=S.ts++[t] }:=⟨⟨_,rfl⟩,⟨_,rfl⟩⟩
      have fs':=aI.fs.push hs hl tS e s1 s2 λi i2 hi z=>yM (by
       rw [List.mem_iff_getElem?]
       refine ⟨i-2,?_⟩
       rw [List.getElem?_drop,show 2+(i-2)=i by omega,List.getElem?_eq_getElem hi]
       rw [List.getD_eq_getElem?_getD,List.getElem?_eq_getElem hi] at z
       exact congrArg some z)
      have rj:∀a xs,H1 a=some (.tup xs)->H3 a=some (.tup xs):=λa xs h=>kt h (λ_ z=>by cases z) (λ_ z=>by cases z)
      refine ⟨_,rfl,kk S.N.length { S with N:=S.N++[(s0,l,u)],TS:=S.TS++[.node (names.getD s0 "") (aD S.TS l) (aD S.TS u)],ts:=S.ts++[t] } H3 ⟨kt aI.hy (λ_ z=>by cases z) (λ_ z=>by cases z),k3 _ _ aI.hn (Ne.symm aI.d1) (cC aI.hn aI.hk (by intro z; cases z)),kt aI.hs (λ_ z=>by cases z) (λ_ z=>by cases z),CT,eW (Paired.gL aI.ht λ_ _ h=>rj _ _ h) (.cons (rj _ _ q1) .nil),q3,k3 _ _ aI.hc (nl aI.hc (λ_ z=>by cases z)) (Ne.symm aI.d2),λe' h=>jR.grow G hlen (aI.ck e' h),kt aI.hi (λ_ z=>by cases z) (λ_ z=>by cases z),λp hp=>?_,kt aI.he (λ_ z=>by cases z) (λ_ z=>by cases z),λkv bg=>?_,aI.e0,fs',aI.nn,aI.ns,aI.n8,aI.d1,aI.d2,aI.d3⟩ (λb o h n1 n2 _ _ _=>k3 _ _ (wt _ _ h) n1 n2) G ⟨by rw [List.length_append]; have:=hB.b1; show S.N.length+1<=b+1; omega,Nat.le_succ_of_le hB.b2,Nat.le_succ_of_le hB.b3,Nat.le_succ_of_le hB.b4⟩ rfl rfl rfl (by rw [List.length_append]; exact Nat.lt_succ_self _) ?_ ?_⟩
      . obtain ⟨h1,i,i1,i2,i3⟩:=aI.ik p hp
        exact ⟨h1.keep rj,i,by rw [List.length_append]; show i<S.N.length+1; omega,i2,by rw [← i3]; exact G.aD (by omega)⟩
      . obtain ⟨i,i1,i2,i3⟩:=aI.ek kv bg
        have e9:aD (S.TS++[.node (names.getD s0 "") (aD S.TS l) (aD S.TS u)]) i=aD S.TS i:=G.aD (by omega)
        exact ⟨i,i1,by rw [List.length_append]; show i<S.N.length+1; omega,by rw [e9]; exact i3.keep rj⟩
      . show s0<=aB (S.N++[(s0,l,u)]) S.N.length
        unfold aB
        rw [g9]
        exact Nat.le_refl _
      . rw [if_neg e,hlen]
        exact g9
end
end Gen
namespace L2
open PySem PySem.Spec PyProof.Rows
section
variable {X:Cx}{a:Expr}{ta:TE}
def EO (c:Bool) (ta:TE):TE:=λσ H Q=>ta σ H λx H1=>(∃b,x=.bl b/\Q (.bl (b == c)) H1)\/∃p,x=.ref p/\Q (.bl false) H1
theorem kH {c:Bool}{j pos'} (ha:PE X a ta):PC X .Is a (.Constant (.bool c) j pos') (EO c ta):=by
 intro pins s σ H Q I h
 refine aE (ha pins s σ H _ I h) λv s1 ⟨x,H1,I1,r1,q1⟩=>Constant_bool ?_
 rcases q1 with ⟨b,rfl,q⟩ | ⟨p,rfl,q⟩
 . obtain rfl:v=Value.bool b:=r1
   exact wpAny_pure ⟨.bl _,H1,I1,by cases b <;> cases c <;> rfl,q⟩
 . obtain rfl:v=Value.ref p:=r1
   exact wpAny_pure ⟨.bl _,H1,I1,rfl,q⟩
theorem tX (hc:X.calm=true):ff X (.builtin "min") (λxs H Q=>∃i j k,xs=[.int i,.int j,.int k]/\Q (.int (min i (min j k))) H):=by
 intro pins s σ H xs us Q I r h
 obtain ⟨i,j,k,rfl,q⟩:=h
 cases r with
 | cons r1 r=>
  cases r with
  | cons r2 r=>
   cases r with
   | cons r3 r=>
    cases r
    obtain ⟨t1,rfl⟩:=r1
    obtain ⟨t2,rfl⟩:=r2
    obtain ⟨t3,rfl⟩:=r3
    refine min_three_ints (I.ok.hd hc) λh' tk kp=>⟨_,H,I.kept kp,?_,q⟩
    by_cases h1:j<i
    . rw [if_pos h1]
      by_cases h2:k<j
      . rw [if_pos h2,show min i (min j k)=k by omega]; exact ⟨_,rfl⟩
      . rw [if_neg h2,show min i (min j k)=j by omega]; exact ⟨_,rfl⟩
    . rw [if_neg h1]
      by_cases h2:k<i
      . rw [if_pos h2,show min i (min j k)=k by omega]; exact ⟨_,rfl⟩
      . rw [if_neg h2,show min i (min j k)=i by omega]; exact ⟨_,rfl⟩
end
end L2
namespace Gen
open PySem L2
abbrev fV:Stmt:=inClass (top 6) 3
abbrev eB:Stmt:=inClass (top 6) 4
def cA:Tr->Nat
 | .leaf _=>0
 | .node _ l r=>cA l+cA r+2
theorem iR {κ:Type}[DecidableEq κ] {k:κ}{v:V} : ∀{kvs:List (κ×V)},bj kvs k=some v->(k,v)∈kvs
 | [],h=>nomatch h
 | (k',v')::r,h=>by
  by_cases e:k'=k
  . subst e
    rw [b0 rfl] at h
    cases h
    exact List.mem_cons_self
  . rw [bX e] at h
    exact List.mem_cons_of_mem _ (iR h)
theorem iS {κ:Type}[DecidableEq κ] {k:κ} : ∀{kvs:List (κ×V)},(∀kv∈kvs,kv.1≠k)->bj kvs k=none
 | [],_=>rfl
 | (k',v')::r,h=>by
  rw [bX (h _ List.mem_cons_self)]
  exact iS λkv hk=>h kv (List.mem_cons_of_mem _ hk)
theorem qh {κ:Type}[DecidableEq κ] {k:κ} : ∀{kvs:List (κ×V)},bj kvs k=none->∀kv∈kvs,kv.1≠k
 | [],_,_,h=>nomatch h
 | (k',v')::r,h,kv,hk=>by
  by_cases e:k'=k
  . subst e
    rw [b0 rfl] at h
    cases h
  . rw [bX e] at h
    rcases List.mem_cons.mp hk with rfl | hk
    . exact e
    . exact qh h kv hk
theorem vf {κ:Type}[DecidableEq κ] {kvs:List (κ×V)}{k:κ}{v:V}{e:κ×V}(h:e∈putK kvs k v):e∈kvs\/e=(k,v):=by
 unfold putK at h
 split at h
 . obtain ⟨p,hp,rfl⟩:=List.mem_map.mp h
   by_cases q:p.1=k
   . rw [if_pos q]
     exact .inr (by rw [q])
   . rw [if_neg q]
     exact .inl hp
 . rcases List.mem_append.mp h with h | h
   . exact .inl h
   . exact .inr (List.mem_singleton.mp h)
theorem kI {L:List (Tr×Addr×V)}{t:Tr}{v:V}(h:cR L t=some v):∃b,(t,b,v)∈L:=by
 unfold cR at h
 cases e:L.find? λp=>decide (p.1=t) with
 | none=>rw [e] at h; cases h
 | some p=>
  rw [e] at h
  have h1:=List.find?_some e
  have h2:=List.mem_of_find?_eq_some e
  obtain ⟨a,b,c⟩:=p
  have:a=t:=of_decide_eq_true h1
  subst this
  cases (show c=v from Option.some.inj h)
  exact ⟨b,h2⟩
theorem kJ {L:List (Tr×Addr×V)}{t:Tr}(h:∀p∈L,p.1≠t):cR L t=none:=by
 unfold cR
 rw [List.find?_eq_none.mpr λp hp=>by rw [decide_eq_true_eq]; exact h p hp]
 rfl
theorem oo {L:List (Tr×Addr×V)}{t:Tr}(h:cR L t=none):∀p∈L,p.1≠t:=λp hp e=>by
 unfold cR at h
 rw [Option.map_eq_none_iff,List.find?_eq_none] at h
 exact h p hp (by rw [decide_eq_true_eq]; exact e)
theorem qk {ns:List Str}{n:Str}{l r:Tr}(h:bJ ns (.node n l r)):∃j,ns[j]?=some n/\l≠r/\bJ (ns.drop (j+1)) l/\bJ (ns.drop (j+1)) r:=by
 generalize et:Tr.node n l r=t at h
 induction h with
 | leaf=>cases et
 | node ne a b=>
  cases et
  exact ⟨0,rfl,ne,a,b⟩
 | skip _ ih=>
  obtain ⟨j,a,b,c,d⟩:=ih et
  exact ⟨j+1,by simpa using a,b,by simpa using c,by simpa using d⟩
theorem FS.yS {names:List Str}{N:List Nd}{TS:List Tr}(h:FS names N TS) (hn:names.Nodup){i k:Nat}(hi:i<N.length) (hk:k<=names.length) (hc:bJ (names.drop k) (aD TS i)):k<=aB N i:=by
 by_cases i2:i<2
 . unfold aB
   rcases (show i=0\/i=1 by omega) with rfl | rfl
   . rw [h.z0]
     exact hk
   . rw [h.z1]
     exact hk
 . obtain ⟨a1,_,_,_,_,_,a7⟩:=h.nd i (by omega) hi
   rw [a7] at hc
   obtain ⟨j,h1,_⟩:=qk hc
   rw [List.getElem?_drop] at h1
   have hj:=(List.getElem?_eq_some_iff.mp h1).1
   rw [List.getD_eq_getElem?_getD,List.getElem?_eq_getElem a1,List.getElem?_eq_getElem hj] at h1
   have:=(List.getElem_inj hn).mp (Option.some.inj h1)
   omega
section
variable {P:Program}{w:World}{K:W.Frag}{mg:Str->Option Value}{base:Heap}{C y dy nm sp nd kn ch im ex:Addr}{names:List Str}{S:cz}{H H':Hp}
theorem Bd.up {S:cz}{b c:Nat}(h:Bd S b) (hc:b<=c):Bd S c:=⟨Nat.le_trans h.b1 hc,Nat.le_trans h.b2 hc,Nat.le_trans h.b3 hc,Nat.le_trans h.b4 hc⟩
theorem Bd.Im {S:cz}{b:Nat}(h:Bd S b) (e:Tr×Addr×V):Bd { S with IM:=S.IM++[e] } (b+1):=⟨Nat.le_succ_of_le h.b1,Nat.le_succ_of_le h.b2,by rw [List.length_append]; exact Nat.succ_le_succ h.b3,Nat.le_succ_of_le h.b4⟩
theorem Bd.Io {S:cz}{b:Nat}(h:Bd S b) (e:Key×V):Bd { S with EX:=S.EX++[e] } (b+1):=⟨Nat.le_succ_of_le h.b1,Nat.le_succ_of_le h.b2,Nat.le_succ_of_le h.b3,by rw [List.length_append]; exact Nat.succ_le_succ h.b4⟩
theorem Bd.Ip {S:cz}{b:Nat}(h:Bd S b) (k:List Key) (v:V):Bd { S with CH:=putK S.CH k v } (b+1):=⟨Nat.le_succ_of_le h.b1,Nat.le_trans (eF _ _ _) (Nat.succ_le_succ h.b2),Nat.le_succ_of_le h.b3,Nat.le_succ_of_le h.b4⟩
theorem rm {a:Addr}{o:HO}(h:a=nd\/a=kn\/a=ch\/a=im\/a=ex):Kp H (upd H a o) nd kn ch im ex:=λb ob hb h1 h2 h3 h4 h5=>by
 rw [ai (by rcases h with rfl | rfl | rfl | rfl | rfl <;> assumption)]
 exact hb
theorem FO.Ba (h:FO P w C H y dy nm sp nd kn ch im ex names S){t:Tr}{b:Addr}{i:Nat}(hk:de H t b) (hi:i<S.N.length) (ht:aD S.TS i=t) :
 FO P w C (upd H im (dF P w im (S.IM++[(t,b,.int (i:Int))]))) y dy nm sp nd kn ch im ex names { S with IM:=S.IM++[(t,b,.int (i:Int))] }:=by
 have k:∀{a:Addr}{o:HO},H a=some o->o≠dF P w im S.IM->(upd H im (dF P w im (S.IM++[(t,b,.int (i:Int))]))) a=some o:=λha ho=>by
  rw [ai (cC ha h.hi ho)]
  exact ha
 have kt:∀a xs,H a=some (.tup xs)->(upd H im (dF P w im (S.IM++[(t,b,.int (i:Int))]))) a=some (.tup xs):=λa xs ha=>k ha (by intro z; cases z)
 refine ⟨k h.hy (by intro z; cases z),k h.hn (by intro z; cases z),k h.hs (by intro z; cases z),k h.hd (by intro z; cases z),Paired.gL h.ht λ_ _ e=>kt _ _ e,k h.hk (by intro z; cases z),k h.hc (by intro z; cases z),h.ck,ag,λp hp=>?_,k h.he (by intro z; cases z),
  λkv bg=>let ⟨i,a,b,c⟩:=h.ek kv bg; ⟨i,a,b,c.keep kt⟩,h.e0,h.fs,h.nn,h.ns,h.n8,h.d1,h.d2,h.d3⟩
 rcases List.mem_append.mp hp with hp | hp
 . exact ⟨(h.ik p hp).1.keep kt,(h.ik p hp).2⟩
 . rw [List.mem_singleton] at hp
   subst hp
   exact ⟨hk.keep kt,i,hi,rfl,ht⟩
theorem FO.Bb (h:FO P w C H y dy nm sp nd kn ch im ex names S){v:V}{i:Nat}(hv:aX H (aD S.TS i) v) (hi:i<S.N.length) (hn:bj S.EX (.inl (i:Int))=none) :
 FO P w C (upd H ex (.dK (S.EX++[(.inl (i:Int),v)]))) y dy nm sp nd kn ch im ex names { S with EX:=S.EX++[(.inl (i:Int),v)] }:=by
 have k:∀{a:Addr}{o:HO},H a=some o->(∀q,o≠.dK q)->(upd H ex (.dK (S.EX++[(.inl (i:Int),v)]))) a=some o:=λha ho=>by
  rw [ai (cC ha h.he (ho _))]
  exact ha
 have kt:∀a xs,H a=some (.tup xs)->(upd H ex (.dK (S.EX++[(.inl (i:Int),v)]))) a=some (.tup xs):=λa xs ha=>k ha (by intro _ z; cases z)
 refine ⟨k h.hy (by intro _ z; cases z),k h.hn (by intro _ z; cases z),by rw [ai h.d3]; exact h.hs,k h.hd (by intro _ z; cases z),Paired.gL h.ht λ_ _ e=>kt _ _ e,k h.hk (by intro _ z; cases z),k h.hc (by intro _ z; cases z),h.ck,k h.hi (by intro _ z; cases z),λp hp=>⟨(h.ik p hp).1.keep kt,(h.ik p hp).2⟩,ag,
  λkv bg=>?_,?_,h.fs,h.nn,h.ns,h.n8,h.d1,h.d2,h.d3⟩
 . rcases List.mem_append.mp bg with bg | bg
   . obtain ⟨i,a,b,c⟩:=h.ek kv bg
     exact ⟨i,a,b,c.keep kt⟩
   . rw [List.mem_singleton] at bg
     subst bg
     exact ⟨i,rfl,hi,hv.keep kt⟩
 . have old:∀(c:Int) (u:V),bj S.EX (.inl c)=some u->bj (S.EX++[(.inl (i:Int),v)]) (.inl c)=some u:=λc u hc=>by
    rw [lW _ _ _ _ hn,if_neg (λz=>by rw [z,hn] at hc; cases hc)]
    exact hc
   exact ⟨old 0 _ h.e0.1,old 1 _ h.e0.2⟩
theorem FO.Bc (h:FO P w C H y dy nm sp nd kn ch im ex names S){k':List Key}{u:V}(hc:jR S.N S.TS (k',u)) :
 FO P w C (upd H ch (.dT (putK S.CH k' u))) y dy nm sp nd kn ch im ex names { S with CH:=putK S.CH k' u }:=by
 have k:∀{a:Addr}{o:HO},H a=some o->(∀q,o≠.dT q)->(upd H ch (.dT (putK S.CH k' u))) a=some o:=λha ho=>by
  rw [ai (cC ha h.hc (ho _))]
  exact ha
 have kt:∀a xs,H a=some (.tup xs)->(upd H ch (.dT (putK S.CH k' u))) a=some (.tup xs):=λa xs ha=>k ha (by intro _ z; cases z)
 refine ⟨k h.hy (by intro _ z; cases z),k h.hn (by intro _ z; cases z),k h.hs (by intro _ z; cases z),k h.hd (by intro _ z; cases z),Paired.gL h.ht λ_ _ e=>kt _ _ e,by rw [ai h.d2]; exact h.hk,ag,λe' he=>?_,k h.hi (by intro _ z; cases z),λp hp=>⟨(h.ik p hp).1.keep kt,(h.ik p hp).2⟩,k h.he (by intro _ z; cases z),
  λkv bg=>let ⟨i,a,b,c⟩:=h.ek kv bg; ⟨i,a,b,c.keep kt⟩,h.e0,h.fs,h.nn,h.ns,h.n8,h.d1,h.d2,h.d3⟩
 rcases vf he with he | he
 . exact h.ck e' he
 . subst he
   exact hc
def je (P:Program) (w:World) (C:Addr) (d:Nat):Sp:=λvs H Q _=>∃(y dy nm sp nd kn ch im ex:Addr) (names:List Str) (S:cz) (t:Tr) (v:V) (b:Nat),vs=[.ref y,v]/\FO P w C H y dy nm sp nd kn ch im ex names S/\aX H t v/\bJ names t/\t.dep<d/\Bd S b/\b+cA t<100000/\
 ∀(n:Nat) (S':cz) (H':Hp),FO P w C H' y dy nm sp nd kn ch im ex names S'->Kp H H' nd kn ch im ex->cH S S'->Bd S' (b+cA t)->S'.CH=S.CH->S'.EX=S.EX->(∀p∈S'.IM,p∈S.IM\/p.1.dep<=t.dep)->n<S'.N.length->aD S'.TS n=t->Q (.int (n:Int)) H'
abbrev Iq:List Str:=["self", "tree", "number"]
theorem vg:aQ Iq ["self", "tree"] (aj fV):=⟨rfl,rfl,rfl,by decide +kernel,rfl,by decide +kernel,by decide +kernel⟩
theorem yT {A:Around}{k:Nat}(hr:bh k A):A.units+17<cLine:=by have:=hr.un; omega
theorem eC:Kp H H nd kn ch im ex:=λ_ _ h _ _ _ _ _=>h
theorem vh {f fN:Addr}{fd dN:FuncData}{d k:Nat}(F:bY K "taken" "Forest.taken" fV f fd) (T:eX K mg C) (G:av P w K mg base aH (k+1) f fd ["self", "tree"] (je P w C d)) (mT:Meth K C "taken" f) (bT:Binds K fd ["self", "tree"] [])
 (gN:av P w K mg base aH 1 fN dN iw (gx P w C)) (mN:Meth K C "node" fN) (bN:Binds K dN iw []):av P w K mg base aH (k+1+1) f fd ["self", "tree"] (je P w C (d+1)):=by
 refine F.ok vg (λvs H Q E h=>?_) (λcdv A outer s H vs Q E hr h=>?_)
 . obtain ⟨y,dy,nm,sp,nd,kn,ch,im,ex,names,S,t,v,b,rfl,_⟩:=h
   rfl
 . obtain ⟨y,dy,nm,sp,nd,kn,ch,im,ex,names,S,t,v,b,rfl,hO,hv,hc,hd,hB,hb,kk⟩:=h
   have hu:=i8 hr
   have tY:=yT hr
   have cZ:=hr.mono (Nat.succ_le_succ (Nat.zero_le k))
   refine ⟨_,ae (bc (dM (kH (pv 1))) (aq (aJ af)) aN)
    (ae (bc (dM (kH (pv 1))) (aq (aJ af)) aN)
    (ae (ax (i:=2) vg.nd rfl (Or.inl rfl) (p0 tY (bx (pv 0) rfl) (pv 1) ⟨rfl,rfl,rfl,rfl⟩))
    (ae (bc (dM (iA (pv 2)))
     (ae (ax (i:=2) vg.nd rfl (Or.inl rfl) (aW (pv 0) T.cl mN gN cZ bN .nil aw (aa (xb hu (bx (pv 0) rfl) (aM (r:=cm K) bo (pv 1) af (λ_ _=>rfl)) (λ_ _=>rfl))
      (aa (aW (pv 0) T.cl mT G hr bT .nil aw (aa (aM (r:=cm K) bo (pv 1) af (λ_ _=>rfl)) ab))
      (aa (aW (pv 0) T.cl mT G hr bT .nil aw (aa (aM (r:=cm K) bo (pv 1) af (λ_ _=>rfl)) ab)) ab)))))
     (aq (qa tY (bx (pv 0) rfl) (pv 1) (pv 2) rfl))) aN)
    (aq (aJ (pv 2)))))),?_⟩
   cases t with
   | leaf c=>
    cases (show v=.bl c from hv)
    have two:=hO.fs.two
    cases c
    . refine ⟨_,rfl,.inl ⟨_,rfl,_,rfl,aY rfl ?_⟩⟩
      refine ⟨_,rfl,.inl ⟨_,rfl,_,rfl,bQ rfl ?_⟩⟩
      exact kk 0 S H hO eC (.refl S) (hB.up (Nat.le_add_right ..)) rfl rfl (λp hp=>.inl hp) (by omega) hO.fs.t0
    . refine ⟨_,rfl,.inl ⟨_,rfl,_,rfl,bQ rfl ?_⟩⟩
      exact kk 1 S H hO eC (.refl S) (hB.up (Nat.le_add_right ..)) rfl rfl (λp hp=>.inl hp) (by omega) hO.fs.t1
   | node n l r=>
    obtain ⟨a,vl,vr,rfl,ha,hl,hR⟩:=hv
    have cT:de H (.node n l r) a:=⟨⟨a,vl,vr,rfl,ha,hl,hR⟩,Nat.le_trans (bG hc) hO.n8,qc hc hO.ns⟩
    refine ⟨_,rfl,.inr ⟨_,rfl,_,rfl,aY rfl ?_⟩⟩
    refine ⟨_,rfl,.inr ⟨_,rfl,_,rfl,aY rfl ?_⟩⟩
    refine ⟨_,rfl,y,C,dy,_,_,rfl,hO.hy,T.cl,T.n6,yQ ..,im,_,rfl,hO.hi,_,rfl,_,a,rfl,hO.hi,cT,λp hp=>(hO.ik p hp).1,?_⟩
    cases tZ:cR S.IM (.node n l r) with
    | some u=>
     obtain ⟨b',hm⟩:=kI tZ
     obtain ⟨_,i,hi,e1,e2⟩:=hO.ik _ hm
     cases (show u=.int (i:Int) from e1)
     refine ⟨_,rfl,_,rfl,aY rfl ⟨_,rfl,?_⟩⟩
     exact kk i S H hO eC (.refl S) (hB.up (Nat.le_add_right ..)) rfl rfl (λp hp=>.inl hp) hi e2
    | none=>
     obtain ⟨j,hj,iq,cl,cr⟩:=qk hc
     have yU:=(List.getElem?_eq_some_iff.mp hj).1
     have qb:bJ names l:=eu (i:=0) (ns:=names) cl (Nat.zero_le _)
     have Ir:bJ names r:=eu (i:=0) (ns:=names) cr (Nat.zero_le _)
     have hsz:cA (.node n l r)=cA l+cA r+2:=rfl
     have vi:(Tr.node n l r).dep=max l.dep r.dep+1:=rfl
     refine ⟨_,rfl,_,rfl,bQ rfl ?_⟩
     refine ⟨_,rfl,y,dy,_,rfl,hO.hy,iQ _ _ _ _ _ _ _ (by decide +kernel) (by decide +kernel) (by decide +kernel) (by decide +kernel) (by decide +kernel) (by decide +kernel) (by decide +kernel),?_⟩
     refine ⟨_,rfl,y,C,dy,_,_,rfl,hO.hy,T.cl,T.n2,EM ..,_,rfl,a,_,0,_,rfl,rfl,ba.of ha,aF (j:=0) rfl,sp,.int ((0+j:Nat):Int),rfl,?_,?_⟩
     . have:=ef.k (k:=.inr n) hO.hs
       rw [tV names 0 j n hO.nn hj] at this
       exact this
     refine ⟨_,rfl,y,dy,_,rfl,hO.hy,iQ _ _ _ _ _ _ _ (by decide +kernel) (by decide +kernel) (by decide +kernel) (by decide +kernel) (by decide +kernel) (by decide +kernel) (by decide +kernel),?_⟩
     refine ⟨_,rfl,a,_,1,_,rfl,rfl,ba.of ha,aF (j:=1) rfl,?_⟩
     refine ⟨y,dy,nm,sp,nd,kn,ch,im,ex,names,S,l,vl,b,rfl,hO,hl,qb,by omega,hB,by omega,λn1 S1 H1 aI k1 g1 B1 c1 x1 i1 l1 t1=>?_⟩
     have t7:=hO.dm k1 _ _ ha
     refine ⟨_,rfl,y,dy,_,rfl,aI.hy,iQ _ _ _ _ _ _ _ (by decide +kernel) (by decide +kernel) (by decide +kernel) (by decide +kernel) (by decide +kernel) (by decide +kernel) (by decide +kernel),?_⟩
     refine ⟨_,rfl,a,_,2,_,rfl,rfl,ba.of t7,aF (j:=2) rfl,?_⟩
     refine ⟨y,dy,nm,sp,nd,kn,ch,im,ex,names,S1,r,vr,b+cA l,rfl,aI,hR.keep (hO.dm k1),Ir,by omega,B1,by omega,λn2 S2 H2 cJ k2 g2 B2 c2 x2 i2 l2 t2=>?_⟩
     have ql:n1<S2.N.length:=Nat.lt_of_lt_of_le l1 g2.le
     have yV:aD S2.TS n1=l:=by rw [g2.aD (by rw [← aI.fs.len]; exact l1)]; exact t1
     refine ⟨y,dy,nm,sp,nd,kn,ch,im,ex,names,S2,j,n1,n2,b+cA l+cA r,by rw [Nat.zero_add]; rfl,cJ,yU,ql,l2,cJ.fs.yS cJ.nn ql yU (by rw [yV]; exact cl),cJ.fs.yS cJ.nn l2 yU (by rw [t2]; exact cr),B2,by omega,λn3 S3 H3 dG k3 g3 B3 c3 m3 x3 l3 s3 t3=>?_⟩
     have oq:=(k1.trans k2).trans k3
     have CU:aD S3.TS n3=.node n l r:=by
      rw [t3,yV,t2,if_neg (λz=>iq (by rw [← yV,← t2,z])),List.getD_eq_getElem?_getD,hj]
      rfl
     have kL:de H3 (.node n l r) a:=cT.keep (hO.dm oq)
     have d4:cR S3.IM (.node n l r)=none:=kJ λp hp z=>by
      rw [m3] at hp
      rcases i2 p hp with hp | hp
      . rcases i1 p hp with hp | hp
        . exact oo tZ p hp z
        . rw [z] at hp
          omega
      . rw [z] at hp
        omega
     refine ⟨_,rfl,_,rfl,y,C,dy,_,_,rfl,dG.hy,T.cl,T.n6,yQ ..,_,rfl,im,S3.IM,_,a,rfl,rfl,dG.hi,kL,λp hp=>(dG.ik p hp).1,d4,big (by have:=B3.b3; omega),?_⟩
     have gy:=dG.Ba kL l3 CU
     refine ⟨_,rfl,kk n3 _ _ gy (oq.trans (rm (.inr (.inr (.inr (.inl rfl)))))) ((g1.trans g2).trans ⟨g3.gn,g3.gt⟩) ((B3.Im _).up (by omega)) (c3.trans (c2.trans c1)) (x3.trans (x2.trans x1)) (λp hp=>?_) l3 CU⟩
     rcases List.mem_append.mp hp with hp | hp
     . rw [m3] at hp
       rcases i2 p hp with hp | hp
       . rcases i1 p hp with hp | hp
         . exact .inl hp
         . exact .inr (by omega)
       . exact .inr (by omega)
     . rw [List.mem_singleton] at hp
       subst hp
       exact .inr (Nat.le_refl _)
def hJ (P:Program) (w:World) (C:Addr) (d:Nat):Sp:=λvs H Q _=>∃(y dy nm sp nd kn ch im ex:Addr) (names:List Str) (S:cz) (n b:Nat),vs=[.ref y,.int (n:Int)]/\FO P w C H y dy nm sp nd kn ch im ex names S/\n<S.N.length/\(aD S.TS n).dep<d/\Bd S b/\b+cA (aD S.TS n)<100000/\
 ∀(v:V) (S':cz) (H':Hp),FO P w C H' y dy nm sp nd kn ch im ex names S'->Kp H H' nd kn ch im ex->S'.N=S.N->S'.TS=S.TS->Bd S' (b+cA (aD S.TS n))->(∀kv∈S'.EX,kv∈S.EX\/∃i:Nat,kv.1=.inl (i:Int)/\(aD S.TS i).dep<=(aD S.TS n).dep)->aX H' (aD S.TS n) v->Q v H'
abbrev Iu:List Str:=["self", "number", "tree", "node"]
theorem rn:aQ Iu ["self", "number"] (aj eB):=⟨rfl,rfl,rfl,by decide +kernel,rfl,by decide +kernel,by decide +kernel⟩
theorem rp {f:Addr}{fd:FuncData}{d k:Nat}(F:bY K "tree_at" "Forest.tree_at" eB f fd) (T:eX K mg C) (G:av P w K mg base aH k f fd ["self", "number"] (hJ P w C d)) (mT:Meth K C "tree_at" f) (bT:Binds K fd ["self", "number"] []) :
 av P w K mg base aH (k+1) f fd ["self", "number"] (hJ P w C (d+1)):=by
 refine F.ok rn (λvs H Q E h=>?_) (λcdv A outer s H vs Q E hr h=>?_)
 . obtain ⟨y,dy,nm,sp,nd,kn,ch,im,ex,names,S,n,b,rfl,_⟩:=h
   rfl
 . obtain ⟨y,dy,nm,sp,nd,kn,ch,im,ex,names,S,n,b,rfl,hO,hn,hd,hB,hb,kk⟩:=h
   have hu:=i8 hr
   refine ⟨_,ae (ax (i:=2) rn.nd rfl (Or.inl rfl) (jC hu (bx (pv 0) rfl) (pv 1) ⟨rfl,rfl,rfl,rfl⟩))
    (ae (bc (dM (iA (pv 2)))
     (ae (ax (i:=3) rn.nd rfl (Or.inl rfl) (aM (r:=eg K) br (bx (pv 0) rfl) (pv 1) (λ_ _=>rfl)))
     (ae (ax (i:=2) rn.nd rfl (Or.inl rfl) (eL (aa (aM (r:=eg K) br (bx (pv 0) rfl) (aM (r:=cm K) bo (pv 3) af (λ_ _=>rfl)) (λ_ _=>rfl))
      (aa (aW (pv 0) T.cl mT G hr bT .nil aw (aa (aM (r:=cm K) bo (pv 3) af (λ_ _=>rfl)) ab))
      (aa (aW (pv 0) T.cl mT G hr bT .nil aw (aa (aM (r:=cm K) bo (pv 3) af (λ_ _=>rfl)) ab)) ab)))))
     (aq (lz hu (bx (pv 0) rfl) (pv 1) (pv 2) rfl)))) aN)
    (aq (aJ (pv 2)))),?_⟩
   refine ⟨_,rfl,y,C,dy,_,_,rfl,hO.hy,T.cl,T.n7,yR ..,ex,rfl,.inl ⟨_,.inl hO.he⟩,_,rfl,_,ef.k (k:=.inl (n:Int)) hO.he,?_⟩
   cases hv:bj S.EX (.inl (n:Int)) with
   | some v=>
    obtain ⟨i,e1,i1,i2⟩:=hO.ek _ (iR hv)
    have ei:i=n:=by have:=Sum.inl.inj e1; omega
    subst ei
    have CD:v≠.aR:=λz=>by
     have i3:aX H (aD S.TS i) v:=i2
     rw [z] at i3
     cases ht:aD S.TS i with
     | leaf c=>rw [ht] at i3; cases (show V.aR=.bl c from i3)
     | node a l r=>rw [ht] at i3; obtain ⟨_,_,_,z,_⟩:=i3; cases z
    refine ⟨_,rfl,_,rfl,aY (decide_eq_false CD) ⟨_,rfl,?_⟩⟩
    exact kk v S H hO eC rfl rfl (hB.up (Nat.le_add_right ..)) (λkv h=>.inl h) i2
   | none=>
    have n2:2<=n:=Nat.le_of_not_lt λq=>by
     rcases (show n=0\/n=1 by omega) with rfl | rfl
     . rw [show ((0:Nat):Int)=0 from rfl,hO.e0.1] at hv
       cases hv
     . rw [show ((1:Nat):Int)=1 from rfl,hO.e0.2] at hv
       cases hv
    obtain ⟨a1,a2,a3,a4,a5,a6,a7⟩:=hO.fs.nd n n2 hn
    have ER:low S.N n<S.N.length:=by omega
    have ES:dZ S.N n<S.N.length:=by omega
    have hsz:cA (aD S.TS n)=cA (aD S.TS (low S.N n))+cA (aD S.TS (dZ S.N n))+2:=by rw [a7]; rfl
    have vi:(aD S.TS n).dep=max (aD S.TS (low S.N n)).dep (aD S.TS (dZ S.N n)).dep+1:=by rw [a7]; rfl
    obtain ⟨t,h1,h2⟩:=hO.node hn
    refine ⟨_,rfl,_,rfl,bQ rfl ?_⟩
    refine ⟨_,rfl,y,C,dy,_,_,rfl,hO.hy,T.cl,T.n3,jQ ..,_,rfl,nd,_,_,.ref t,rfl,rfl,ay.of hO.hd,aF (by rw [List.getElem?_map,h1]; rfl),?_⟩
    refine ⟨_,rfl,y,C,dy,_,_,rfl,hO.hy,T.cl,T.n1,EL ..,_,rfl,t,_,0,_,rfl,rfl,ba.of h2,aF (j:=0) rfl,nm,_,_,.str (names.getD (aB S.N n) ""),rfl,rfl,ay.of hO.hn,aF (by rw [List.getElem?_map]; exact (show names[aB S.N n]?.map V.str=some (.str (names.getD (aB S.N n) "")) by rw [List.getD_eq_getElem?_getD,List.getElem?_eq_getElem a1]; rfl)),?_⟩
    refine ⟨_,rfl,y,dy,_,rfl,hO.hy,iQ _ _ _ _ _ _ _ (by decide +kernel) (by decide +kernel) (by decide +kernel) (by decide +kernel) (by decide +kernel) (by decide +kernel) (by decide +kernel),?_⟩
    refine ⟨_,rfl,t,_,1,_,rfl,rfl,ba.of h2,aF (j:=1) rfl,?_⟩
    refine ⟨y,dy,nm,sp,nd,kn,ch,im,ex,names,S,low S.N n,b,rfl,hO,ER,by omega,hB,by omega,λv1 S1 H1 aI k1 g1 t1 B1 x1 r1=>?_⟩
    have Iv:=hO.dm k1 _ _ h2
    refine ⟨_,rfl,y,dy,_,rfl,aI.hy,iQ _ _ _ _ _ _ _ (by decide +kernel) (by decide +kernel) (by decide +kernel) (by decide +kernel) (by decide +kernel) (by decide +kernel) (by decide +kernel),?_⟩
    refine ⟨_,rfl,t,_,2,_,rfl,rfl,ba.of Iv,aF (j:=2) rfl,?_⟩
    refine ⟨y,dy,nm,sp,nd,kn,ch,im,ex,names,S1,dZ S.N n,b+cA (aD S.TS (low S.N n)),rfl,aI,by rw [g1]; exact ES,by rw [t1]; omega,B1,by rw [t1]; omega,λv2 S2 H2 cJ k2 g2 t2 B2 x2 r2=>?_⟩
    rw [t1] at t2 B2 x2 r2
    refine ⟨(by show 3<=sizeLine; decide),λq hq=>?_⟩
    have s3:ao H2 (upd H2 q (.tup [.str (names.getD (aB S.N n) ""),v1,v2])):=ao.aA hq
    have q3:(upd H2 q (.tup [.str (names.getD (aB S.N n) ""),v1,v2])) q=some (.tup [.str (names.getD (aB S.N n) ""),v1,v2]):=ag
    show dq _ _ _ _ (upd H2 q (.tup [.str (names.getD (aB S.N n) ""),v1,v2]))
    generalize upd H2 q (.tup [.str (names.getD (aB S.N n) ""),v1,v2])=H3 at s3 q3 ⊢
    have dG:=cJ.same s3
    have CV:∀a xs,H2 a=some (.tup xs)->H3 a=some (.tup xs):=λa xs h=>s3 _ _ h
    have oq:=(k1.trans k2).trans (Kp.of s3)
    have hT:aX H3 (aD S.TS n) (.ref q):=by
     rw [a7]
     exact ⟨q,v1,v2,rfl,q3,(r1.keep (aI.dm k2)).keep CV,r2.keep CV⟩
    have d4:bj S2.EX (.inl (n:Int))=none:=iS λkv bg z=>by
     rcases x2 kv bg with bg | ⟨i,e1,e2⟩
     . rcases x1 kv bg with bg | ⟨i,e1,e2⟩
       . exact qh hv kv bg z
       . rw [e1] at z
         have:i=n:=by have:=Sum.inl.inj z; omega
         rw [this] at e2
         omega
     . rw [e1] at z
       have:i=n:=by have:=Sum.inl.inj z; omega
       rw [this] at e2
       omega
    refine ⟨_,rfl,_,rfl,y,C,dy,_,_,rfl,dG.hy,T.cl,T.n7,yR ..,_,rfl,ex,_,rfl,gX.k (k:=.inl (n:Int)) dG.he (big (by have:=B2.b4; omega)),?_⟩
    rw [jA _ d4]
    have gy:=dG.Bb (i:=n) (v:=.ref q) (by rw [t2]; exact hT) (by rw [g2,g1]; exact hn) d4
    refine ⟨_,rfl,kk (.ref q) _ _ gy (oq.trans (rm (.inr (.inr (.inr (.inr rfl)))))) (g2.trans g1) t2 ((B2.Io _).up (by omega)) (λkv bg=>?_) (hT.keep λa xs e=>by rw [ai (cC e dG.he (by intro z; cases z))]; exact e)⟩
    rcases List.mem_append.mp bg with bg | bg
    . rcases x2 kv bg with bg | ⟨i,e1,e2⟩
      . rcases x1 kv bg with bg | ⟨i,e1,e2⟩
        . exact .inl bg
        . exact .inr ⟨i,e1,by omega⟩
      . exact .inr ⟨i,e1,by omega⟩
    . rw [List.mem_singleton] at bg
      subst bg
      exact .inr ⟨n,rfl,Nat.le_refl _⟩
end
end Gen
namespace Gen
open PySem L2
abbrev eD:Stmt:=inClass (top 6) 5
def cst:Nat->Nat
 | 0=>0
 | d+1=>2*cst d+2
def hf (N:List Nd) (s:Nat) (b:Bool) (n:Nat):Nat:=if aB N n=s then (if b=true then dZ N n else low N n) else n
section
variable {names:List Str}{N:List Nd}{TS:List Tr}
theorem FS.at2 (h:FS names N TS){n:Nat}(hn:n<N.length) (hs:aB N n<names.length):2<=n:=Nat.le_of_not_lt λq=>by
 unfold aB at hs
 rcases (show n=0\/n=1 by omega) with rfl | rfl
 . rw [h.z0] at hs
   exact Nat.lt_irrefl _ hs
 . rw [h.z1] at hs
   exact Nat.lt_irrefl _ hs
theorem FS.rq (h:FS names N TS){n s:Nat}{b:Bool}(hn:n<N.length) (hs:s<names.length):hf N s b n<N.length:=by
 unfold hf
 split
 . next e=>
   obtain ⟨_,a2,a3,_⟩:=h.nd n (h.at2 hn (by omega)) hn
   split <;> omega
 . exact hn
theorem FS.ou (h:FS names N TS){n s:Nat}{b:Bool}(hn:n<N.length) (hs:s<names.length) (hle:s<=aB N n):s<aB N (hf N s b n):=by
 unfold hf
 split
 . next e=>
   obtain ⟨_,_,_,_,a5,a6,_⟩:=h.nd n (h.at2 hn (by omega)) hn
   split <;> omega
 . next e=>omega
theorem FS.rz (h:FS names N TS){n s:Nat}(hn:n<N.length) (hs:s<names.length) (v:Str->Bool):ev v (aD TS n)=if v (names.getD s "")=true then ev v (aD TS (hf N s true n)) else ev v (aD TS (hf N s false n)):=by
 unfold hf
 by_cases e:aB N n=s
 . obtain ⟨_,_,_,_,_,_,a7⟩:=h.nd n (h.at2 hn (by omega)) hn
   rw [if_pos e,if_pos e,a7,e]
   rfl
 . rw [if_neg e,if_neg e]
   split <;> rfl
end
def hU (P:Program) (w:World) (C:Addr) (d:Nat):Sp:=λvs H Q _=>∃(y dy nm sp nd kn ch im ex:Addr) (names:List Str) (S:cz) (t h l b:Nat),vs=[.ref y,.int (t:Int),.int (h:Int),.int (l:Int)]/\FO P w C H y dy nm sp nd kn ch im ex names S/\t<S.N.length/\h<S.N.length/\l<S.N.length/\names.length-min (aB S.N t) (min (aB S.N h) (aB S.N l))<d/\Bd S b/\b+cst d<100000/\
 ∀(n:Nat) (S':cz) (H':Hp),FO P w C H' y dy nm sp nd kn ch im ex names S'->Kp H H' nd kn ch im ex->cH S S'->Bd S' (b+cst d)->S'.IM=S.IM->S'.EX=S.EX->n<S'.N.length->(∀v,ev v (aD S'.TS n)=if ev v (aD S.TS t)=true then ev v (aD S.TS h) else ev v (aD S.TS l))->min (aB S.N t) (min (aB S.N h) (aB S.N l))<=aB S'.N n->Q (.int (n:Int)) H'
abbrev Iw:List Str:=["self", "test", "high", "low", "key", "number", "spot", "lows", "highs"]
abbrev kM:List Str:=["self", "test", "high", "low"]
theorem jS:aQ Iw kM (aj eD):=⟨rfl,rfl,rfl,by decide +kernel,rfl,by decide +kernel,by decide +kernel⟩
section
variable {P:Program}{w:World}{K:W.Frag}{mg:Str->Option Value}{base:Heap}{C:Addr}
theorem t8 {f fN fH:Addr}{fd dN dH:FuncData}{d k:Nat}(F:bY K "chosen" "Forest.chosen" eD f fd) (T:eX K mg C) (O2:fQ mg) (G:av P w K mg base aH (k+1) f fd kM (hU P w C d)) (mC:Meth K C "chosen" f) (bC:Binds K fd kM [])
 (gN:av P w K mg base aH 1 fN dN iw (gx P w C)) (mN:Meth K C "node" fN) (bN:Binds K dN iw [])
 (gH:av P w K mg base aH 1 fH dH ["self", "number", "spot", "side"] (kG P w C)) (mH:Meth K C "half" fH) (bH:Binds K dH ["self", "number", "spot", "side"] []):av P w K mg base aH (k+1+1) f fd kM (hU P w C (d+1)):=by
 refine F.ok jS (λvs H Q E h=>?_) (λcdv A outer s H vs Q E hr h=>?_)
 . obtain ⟨y,dy,nm,sp,nd,kn,ch,im,ex,names,S,t,h,l,b,rfl,_⟩:=h
   rfl
 . obtain ⟨y,dy,nm,sp,nd,kn,ch,im,ex,names,S,t,h,l,b,rfl,hO,ht,hh,hl,hd,hB,hb,kk⟩:=h
   have hu:=i8 hr
   have cZ:=hr.mono (Nat.succ_le_succ (Nat.zero_le k))
   refine ⟨_,ae (bc (PW.pt (iZ (bq di (pv 1) af (bp _)) (jW (bq di (pv 2) (pv 3) (bp _))))) (aq (aJ (pv 2))) aN)
    (ae (bc (bq di (pv 1) af (bp _)) (aq (aJ (pv 3))) aN)
    (ae (ax (i:=4) jS.nd rfl (Or.inl rfl) (eL (aa (pv 1) (aa (pv 2) (aa (pv 3) ab)))))
    (ae (ax (i:=5) jS.nd rfl (Or.inl rfl) (jC hu (bx (pv 0) rfl) (pv 4) ⟨rfl,rfl,rfl,rfl⟩))
    (ae (bc (dM (iA (pv 5)))
     (ae (ax (i:=6) jS.nd rfl (Or.inl rfl) (aO (tX rfl) (by rfl) O2.min PyProof.Rows.boot_min (aa (aM (r:=cm K) bo (aM (r:=eg K) br (bx (pv 0) rfl) (pv 1) (λ_ _=>rfl)) af (λ_ _=>rfl))
      (aa (aM (r:=cm K) bo (aM (r:=eg K) br (bx (pv 0) rfl) (pv 2) (λ_ _=>rfl)) af (λ_ _=>rfl)) (aa (aM (r:=cm K) bo (aM (r:=eg K) br (bx (pv 0) rfl) (pv 3) (λ_ _=>rfl)) af (λ_ _=>rfl)) ab)))))
     (ae (ax (i:=7) jS.nd rfl (Or.inl rfl) (aW (pv 0) T.cl mC G hr bC .nil aw (aa (aW (pv 0) T.cl mH gH cZ bH .nil aw (aa (pv 1) (aa (pv 6) (aa af ab))))
      (aa (aW (pv 0) T.cl mH gH cZ bH .nil aw (aa (pv 2) (aa (pv 6) (aa af ab)))) (aa (aW (pv 0) T.cl mH gH cZ bH .nil aw (aa (pv 3) (aa (pv 6) (aa af ab)))) ab)))))
     (ae (ax (i:=8) jS.nd rfl (Or.inl rfl) (aW (pv 0) T.cl mC G hr bC .nil aw (aa (aW (pv 0) T.cl mH gH cZ bH .nil aw (aa (pv 1) (aa (pv 6) (aa af ab))))
      (aa (aW (pv 0) T.cl mH gH cZ bH .nil aw (aa (pv 2) (aa (pv 6) (aa af ab)))) (aa (aW (pv 0) T.cl mH gH cZ bH .nil aw (aa (pv 3) (aa (pv 6) (aa af ab)))) ab)))))
     (ae (ax (i:=5) jS.nd rfl (Or.inl rfl) (aW (pv 0) T.cl mN gN cZ bN .nil aw (aa (pv 6) (aa (pv 7) (aa (pv 8) ab)))))
     (aq (lz hu (bx (pv 0) rfl) (pv 4) (pv 5) rfl)))))) aN)
    (aq (aJ (pv 5))))))),?_⟩
   have Ln:cst (d+1)=2*cst d+2:=rfl
   have dc:∀{H1:Hp}{n:Nat},FO P w C H1 y dy nm sp nd kn ch im ex names S->Kp H H1 nd kn ch im ex->n<S.N.length->(∀v,ev v (aD S.TS n)=if ev v (aD S.TS t)=true then ev v (aD S.TS h) else ev v (aD S.TS l))->min (aB S.N t) (min (aB S.N h) (aB S.N l))<=aB S.N n->Q (.int (n:Int)) H1:=
    λo1 k1 n1 v1 m1=>kk _ S _ o1 k1 (.refl S) (hB.up (Nat.le_add_right ..)) rfl rfl n1 v1 m1
   refine ⟨_,rfl,rfl,_,rfl,?_⟩
   by_cases e1:t=1
   . refine bQ (decide_eq_true (by rw [e1]; rfl)) (bQ rfl ⟨_,rfl,dc hO eC hh (λv=>?_) (by omega)⟩)
     rw [e1,hO.fs.t1]
     exact (if_pos rfl).symm
   refine aY (decide_eq_false λz=>e1 (by have:=V.int.inj z; omega)) ⟨_,rfl,_,rfl,rfl,_,rfl,?_⟩
   by_cases e2:h=l
   . refine bQ (decide_eq_true (by rw [e2])) ⟨_,rfl,dc hO eC hh (λv=>?_) (by omega)⟩
     rw [e2]
     split <;> rfl
   refine aY (decide_eq_false λz=>e2 (by have:=V.int.inj z; omega)) ⟨_,rfl,rfl,_,rfl,?_⟩
   by_cases e3:t=0
   . refine bQ (decide_eq_true (by rw [e3]; rfl)) ⟨_,rfl,dc hO eC hl (λv=>?_) (by omega)⟩
     rw [e3,hO.fs.t0]
     exact (if_neg (λz=>by cases z)).symm
   refine aY (decide_eq_false λz=>e3 (by have:=V.int.inj z; omega)) ?_
   refine ⟨_,rfl,_,rfl,_,rfl,(by show 3<=sizeLine; decide),λq hq=>?_⟩
   have q1:(upd H q (.tup (cY (t,h,l)))) q=some (.tup (cY (t,h,l))):=ag
   have s1:ao H (upd H q (.tup (cY (t,h,l)))):=ao.aA hq
   show dq _ _ _ _ (upd H q (.tup (cY (t,h,l))))
   generalize upd H q (.tup (cY (t,h,l)))=H1 at q1 s1 ⊢
   have aI:=hO.same s1
   have cT:H1 q=some (.tup ((eR (t,h,l)).map kV)):=q1
   refine ⟨_,rfl,y,C,dy,_,_,rfl,aI.hy,T.cl,T.n5,yP ..,ch,rfl,.inr ⟨_,.inl aI.hc⟩,_,rfl,_,ef.t (k:=eR (t,h,l)) aI.hc cT,?_⟩
   cases hv:bj S.CH (eR (t,h,l)) with
   | some u=>
    obtain ⟨t',h',l',n,ek,en,_,_,_,l4,wu,Iy⟩:=aI.ck _ (iR hv)
    have Iz:=lH (p:=(t,h,l)) (q:=(t',h',l')) ek
    cases Iz
    cases (show u=.int (n:Int) from en)
    exact ⟨_,rfl,_,rfl,aY rfl ⟨_,rfl,dc aI (.of s1) l4 wu Iy⟩⟩
   | none=>
    have tl:aB S.N t<names.length:=(hO.fs.nd t (by omega) ht).1
    refine ⟨_,rfl,_,rfl,bQ rfl ?_⟩
    obtain ⟨r1,x1,IA⟩:=aI.node ht
    obtain ⟨r2,x2,IB⟩:=aI.node hh
    obtain ⟨r3,x3,IC⟩:=aI.node hl
    obtain ⟨s0,ID⟩:∃s0,s0=min (aB S.N t) (min (aB S.N h) (aB S.N l)):=⟨_,rfl⟩
    have jo:s0<names.length:=by omega
    refine ⟨_,rfl,y,C,dy,_,_,rfl,aI.hy,T.cl,T.n3,jQ ..,_,rfl,nd,_,_,.ref r1,rfl,rfl,ay.of aI.hd,aF (by rw [List.getElem?_map,x1]; rfl),r1,_,0,.int (aB S.N t:Int),rfl,rfl,ba.of IA,aF (j:=0) rfl,?_⟩
    refine ⟨_,rfl,y,C,dy,_,_,rfl,aI.hy,T.cl,T.n3,jQ ..,_,rfl,nd,_,_,.ref r2,rfl,rfl,ay.of aI.hd,aF (by rw [List.getElem?_map,x2]; rfl),r2,_,0,.int (aB S.N h:Int),rfl,rfl,ba.of IB,aF (j:=0) rfl,?_⟩
    refine ⟨_,rfl,y,C,dy,_,_,rfl,aI.hy,T.cl,T.n3,jQ ..,_,rfl,nd,_,_,.ref r3,rfl,rfl,ay.of aI.hd,aF (by rw [List.getElem?_map,x3]; rfl),r3,_,0,.int (aB S.N l:Int),rfl,rfl,ba.of IC,aF (j:=0) rfl,?_⟩
    refine ⟨_,_,_,rfl,?_⟩
    rw [show min ((aB S.N t:Nat):Int) (min ((aB S.N h:Nat):Int) ((aB S.N l:Nat):Int))=((s0:Nat):Int) by omega]
    have iT:∀m∈["half", "chosen", "node"],(bL nm sp nd kn ch im ex).lookup (m:Str)=none:=λm hm=>by
     simp only [List.mem_cons,List.not_mem_nil,or_false] at hm
     rcases hm with rfl | rfl | rfl <;> exact iQ _ _ _ _ _ _ _ (by decide +kernel) (by decide +kernel) (by decide +kernel) (by decide +kernel) (by decide +kernel) (by decide +kernel) (by decide +kernel)
    have nH:=iT "half" (by decide)
    have nC:=iT "chosen" (by decide)
    have nN:=iT "node" (by decide)
    have lt:=λb=>hO.fs.rq (b:=b) ht jo
    have lh:=λb=>hO.fs.rq (b:=b) hh jo
    have ll:=λb=>hO.fs.rq (b:=b) hl jo
    have pt:=λb=>hO.fs.ou (b:=b) ht jo (by omega)
    have ph:=λb=>hO.fs.ou (b:=b) hh jo (by omega)
    have pl:=λb=>hO.fs.ou (b:=b) hl jo (by omega)
    refine ⟨_,rfl,y,dy,_,rfl,aI.hy,nC,?_⟩
    refine ⟨_,rfl,y,dy,_,rfl,aI.hy,nH,_,rfl,_,rfl,y,dy,nm,sp,nd,kn,ch,im,ex,names,S,t,s0,false,rfl,aI,ht,?_⟩
    refine ⟨_,rfl,y,dy,_,rfl,aI.hy,nH,_,rfl,_,rfl,y,dy,nm,sp,nd,kn,ch,im,ex,names,S,h,s0,false,rfl,aI,hh,?_⟩
    refine ⟨_,rfl,y,dy,_,rfl,aI.hy,nH,_,rfl,_,rfl,y,dy,nm,sp,nd,kn,ch,im,ex,names,S,l,s0,false,rfl,aI,hl,?_⟩
    have m1:=pt false
    have m2:=ph false
    have m3:=pl false
    refine ⟨y,dy,nm,sp,nd,kn,ch,im,ex,names,S,hf S.N s0 false t,hf S.N s0 false h,hf S.N s0 false l,b,rfl,aI,lt false,lh false,ll false,by omega,hB,by omega,λn2 S2 H2 cJ k2 g2 B2 i2 x2 l2 v2 p2=>?_⟩
    have LI:=g2.le
    have qm:∀{i:Nat},i<S.N.length->aB S2.N i=aB S.N i:=λhi=>g2.aB hi
    have yW:∀{i:Nat},i<S.N.length->aD S2.TS i=aD S.TS i:=λhi=>g2.aD (by rw [← hO.fs.len]; exact hi)
    have yX:∀{i:Nat},i<S.N.length->∀b,hf S2.N s0 b i=hf S.N s0 b i:=λhi b=>by unfold hf aB low dZ; rw [g2.nd hi]
    refine ⟨_,rfl,y,dy,_,rfl,cJ.hy,nC,?_⟩
    refine ⟨_,rfl,y,dy,_,rfl,cJ.hy,nH,_,rfl,_,rfl,y,dy,nm,sp,nd,kn,ch,im,ex,names,S2,t,s0,true,rfl,cJ,by omega,?_⟩
    refine ⟨_,rfl,y,dy,_,rfl,cJ.hy,nH,_,rfl,_,rfl,y,dy,nm,sp,nd,kn,ch,im,ex,names,S2,h,s0,true,rfl,cJ,by omega,?_⟩
    refine ⟨_,rfl,y,dy,_,rfl,cJ.hy,nH,_,rfl,_,rfl,y,dy,nm,sp,nd,kn,ch,im,ex,names,S2,l,s0,true,rfl,cJ,by omega,?_⟩
    have m4:=pt true
    have m5:=ph true
    have m6:=pl true
    have lt':=lt true
    have yY:=lh true
    have yZ:=ll true
    have e4:=yX ht true
    have e5:=yX hh true
    have e6:=yX hl true
    refine ⟨y,dy,nm,sp,nd,kn,ch,im,ex,names,S2,hf S2.N s0 true t,hf S2.N s0 true h,hf S2.N s0 true l,b+cst d,rfl,cJ,by omega,by omega,by omega,?_,B2,by omega,λn3 S3 H3 dG k3 g3 B3 i3 x3 l3 v3 p3=>?_⟩
    . rw [e4,e5,e6,qm lt',qm yY,qm yZ]
      omega
    rw [e4,e5,e6,qm lt',qm yY,qm yZ] at p3
    rw [e4,e5,e6,yW lt',yW yY,yW yZ] at v3
    have IE:n2<S3.N.length:=Nat.lt_of_lt_of_le l2 g3.le
    have LJ:aB S3.N n2=aB S2.N n2:=g3.aB l2
    have IF:aD S3.TS n2=aD S2.TS n2:=g3.aD (by rw [← cJ.fs.len]; exact l2)
    refine ⟨_,rfl,y,dy,_,rfl,dG.hy,nN,_,rfl,_,rfl,_,rfl,y,dy,nm,sp,nd,kn,ch,im,ex,names,S3,s0,n2,n3,b+cst d+cst d,rfl,dG,jo,IE,l3,by omega,by omega,B3,by omega,λn4 S4 H4 gy k4 g4 B4 c4 i4 x4 l4 s4 t4=>?_⟩
    have IG:=(((Kp.of s1).trans k2).trans k3).trans k4
    have kQ:=(g2.trans g3).trans g4
    have wu:∀v,ev v (aD S4.TS n4)=if ev v (aD S.TS t)=true then ev v (aD S.TS h) else ev v (aD S.TS l):=λv=>by
     have e7:ev v (aD S4.TS n4)=if v (names.getD s0 "")=true then ev v (aD S3.TS n3) else ev v (aD S3.TS n2):=by
      rw [t4]
      by_cases z:n2=n3
      . rw [if_pos z,z]
        split <;> rfl
      . rw [if_neg z]
        rfl
     rw [e7,IF,v2 v,v3 v,hO.fs.rz ht jo v,hO.fs.rz hh jo v,hO.fs.rz hl jo v]
     cases v (names.getD s0 "") <;> rfl
    have LK:=kQ.le
    have y4:H4 q=some (.tup ((eR (t,h,l)).map kV)):=aI.dm ((k2.trans k3).trans k4) _ _ cT
    have IH:jR S4.N S4.TS (eR (t,h,l),.int (n4:Int)):=by
     refine ⟨t,h,l,n4,rfl,rfl,by omega,by omega,by omega,l4,λv=>?_,?_⟩
     . rw [wu v,kQ.aD (by rw [← hO.fs.len]; exact ht),kQ.aD (by rw [← hO.fs.len]; exact hh),kQ.aD (by rw [← hO.fs.len]; exact hl)]
     . rw [kQ.aB ht,kQ.aB hh,kQ.aB hl]
       omega
    refine ⟨_,rfl,_,rfl,y,C,dy,_,_,rfl,gy.hy,T.cl,T.n5,yP ..,_,rfl,ch,_,rfl,gX.t (k:=eR (t,h,l)) gy.hc y4 (big (by have:=B4.b2; omega)),?_⟩
    have y6:=gy.Bc IH
    exact ⟨_,rfl,kk n4 _ _ y6 (IG.trans (rm (.inr (.inr (.inl rfl))))) ⟨kQ.gn,kQ.gt⟩ ((B4.Ip _ _).up (by omega)) (i4.trans (i3.trans i2)) (x4.trans (x3.trans x2)) l4 wu (by rw [← ID]; exact s4)⟩
end
end Gen
namespace PySem
open Sem (wp)
theorem hV:typeLookup (.type "list") "__getattr__" = pure none:=by rw [typeLookup_type,builtinLookup_eq_fast]; kernel_rfl
theorem jj:typeLookup (.type "list") "keys" = pure none:=by rw [typeLookup_type,builtinLookup_eq_fast]; kernel_rfl
theorem hW {A:Around}{prog:Program}{w:World}{Q:Fin->Shared->Prop}{E:Value->Shared->Prop}{h:Heap}{g d t os} {a:Addr}{items:Array Value}{n:Nat}(u:Tok) (hx:h.get? a=some { cls:=.type "list",data:=.seq items n }) (hh:A.handled=none)
 (hE:∀h' tk e,Heap.NewAttrErr h h' e (.ref a) "keys" -> E (.ref e) ⟨h',g,d,tk,os⟩) :
 wpAny (model prog w) A (Builtin.«object.__getattribute__» ⟨[.ref a,.str "keys" u],[]⟩) Q E ⟨h,g,d,t,os⟩:=by
 have hT:∀t',(⟨h,g,d,t',os⟩:Shared).TypeIs (.ref a) "list":=λt'=>⟨_,hx,rfl⟩
 have LM:=hT t
 have Lh:=jj
 have hc:[Str.ofString "__module__",Str.ofString "__name__",Str.ofString "__qualname__",Str.ofString "__doc__",Str.ofString "__annotations__"].contains (Str.ofString "keys")=false:=by decide +kernel
 unfold Builtin.«object.__getattribute__»
 repeat (any_goals (first | assumption | wp_step | refine wpAny_ite_false hc ?_))
 all_goals first
  | exact wpAny_raiseAttrError hh hE (attrMsg_fits (by decide +kernel) (by decide))
  | skip
theorem ow {A:Around}{prog:Program}{w:World}{R:Result->Shared->Prop}{h:Heap}{g d t os} {a:Addr}{items:Array Value}{n:Nat}{u:Tok}(hx:h.get? a=some { cls:=.type "list",data:=.seq items n }) (hh:A.handled=none)
 (hE:∀h' tk e,Heap.NewAttrErr h h' e (.ref a) "keys" -> R (.error (.ref e)) ⟨h',g,d,tk,os⟩) :
 codeAny (model prog w) A (.call (.builtin "list.__getattribute__") ⟨[.ref a,.str "keys" u],[]⟩) R ⟨h,g,d,t,os⟩:=
 codeAny_call_builtin F.slot_list_getattribute.plain F.entry_list_ga (F.slot_list_getattribute.check _ _ _ _ _ _ _ _ (show (⟨h,g,d,t,os⟩:Shared).TypeIs (.ref a) "list" from ⟨_,hx,rfl⟩) (F.args_list_getattribute_2 _ _) (hW u hx hh hE))
theorem ox {A:Around}{prog:Program}{w:World}{E:Value->Shared->Prop}{h:Heap}{g d t os} {a:Addr}{items:Array Value}{n:Nat}{Q:Option Value->Shared->Prop}(hx:h.get? a=some { cls:=.type "list",data:=.seq items n }) (hh:A.handled=none)
 (hQ:∀h' tk,(∀b o,h.get? b=some o->h'.get? b=some o)->Q none ⟨h',g,d,tk,os⟩):wpAny (model prog w) A (getAttr? (.ref a) "keys") Q E ⟨h,g,d,t,os⟩:=by
 have hT:(⟨h,g,d,t,os⟩:Shared).TypeIs (.ref a) "list":=⟨_,hx,rfl⟩
 have f1:=sub_AttributeError
 have f2:=F.slot_list_getattribute.lookup
 have f3:=F.slot_list_getattribute.bind (.ref a)
 have f5:=hV
 unfold getAttr? getAttrBy? getAttrBy
 repeat (any_goals (first | assumption | ((with_reducible show codeAny _ _ (Code.call (Value.builtin "list.__getattribute__") _) _ _); refine ow hx hh ?_; intro h' t9 e wq; obtain ⟨t1,u1,he⟩:=wq.there) | wp_step))
 exact hQ h' t9 wq.keeps
end PySem
namespace PySem
open Sem (wp)
namespace F
theorem d5:entryFor table "dict.update.loop" = some Builtin.«dict.update.loop»:=entryFor_of_tree (by kernel_rfl)
theorem cf:plainId "dict.update.loop" = true:=by decide +kernel
end F
section
variable {prog:Program}{w:World}{K:Type}[DecidableEq K] {knd:KeyKind prog w K}{A:Around}{R:Result->Shared->Prop}
def oy (knd:KeyKind prog w K) (h:Heap) (u:Value) (kv:K×Value):Prop:=∃t key,u=.ref t/\h.IsTuple t #[key,kv.2]/\knd.is kv.1 key=true
theorem lI {d it l:Addr}{items:Array Value}{kvs:List (K×Value)}(y8:d≠it) (jq:d≠l) (II:l≠it) (hz:kvs.length<=sizeLine) (hh:A.handled=none) :
 ∀(k i:Nat) (s:Shared) (tk:Tok) (acc:List (K×Value)),items.size-i=k->i<=items.size->kvs.length=items.size->s.heap.IsListIter it l i->s.heap.IsList l items->s.heap.DictOf knd d acc->acc.length<=i->
 (∀(j:Nat) (u:Value) (kv:K×Value),items[j]?=some u->kvs[j]?=some kv->oy knd s.heap u kv/\(∀t,u=.ref t->t≠d/\t≠it))->
 (∀h' tk,h'.DictOf knd d ((kvs.drop i).foldl (λa kv=>stored a kv.1 kv.2) acc)->(∀b o,b≠d->b≠it->s.heap.get? b=some o->h'.get? b=some o)->R (.ok (.ret .none)) { s with heap:=h',toks:=tk })->
 codeAny (model prog w) A (.builtin "dict.update.loop" ⟨[.ref d,.ref it,.int (i:Int) tk,.none],[]⟩) R s:=by
 intro k
 induction k with
 | zero=>
  intro i s tk acc hk hi hlen hit hl hd hX hp hR
  have LN:i=items.size:=by omega
  refine codeAny_builtin F.d5 ?_
  rw [Around.under_plainId F.cf _]
  show wpAny _ A.in1 (pyNext (.ref it) >>= _) _ _ s
  refine wpAny_bind (wpAny_pyNext_list_end (A:=A.in1) hh hit hl (Array.getElem?_eq_none (by omega)) λh' he=>?_)
  refine wpAny_bind (wpAny_pure (wpAny_pure ?_))
  have hd':h'.DictOf knd d acc:=let ⟨o,es,ep,ho,r⟩:=hd; ⟨o,es,ep,he d o y8 ho,r⟩
  refine hR h' s.toks ?_ λb o _ hb e=>he b o hb e
  rw [List.drop_of_length_le (by omega)]
  exact hd'
 | succ k ih=>
  intro i s tk acc hk hi hlen hit hl hd hX hp hR
  have fF:i<items.size:=by omega
  have hx:items[i]?=some items[i]:=Array.getElem?_eq_getElem fF
  have bg:kvs[i]?=some kvs[i]:=List.getElem?_eq_getElem (by omega)
  obtain ⟨⟨t,key,ht,ET,cT⟩,iq⟩:=hp i _ _ hx bg
  obtain ⟨LO,IJ⟩:=iq t ht
  refine codeAny_builtin F.d5 ?_
  rw [Around.under_plainId F.cf _]
  show wpAny _ A.in1 (pyNext (.ref it) >>= _) _ _ s
  refine wpAny_bind (wpAny_pyNext_list_item hit hl hx λh1 EU ua=>?_)
  rw [ht]
  have Be:h1.IsTuple t #[key,(kvs[i]).2]:=let ⟨o,e,r⟩:=ET; ⟨o,(ua.2 t IJ).trans e,r⟩
  refine wpAny_bind (wpAny_holding (wpAny_bind ?_))
  refine wpAny_tryCatch ?_
  unfold Builtin.Dict.pairItems
  obtain ⟨ot,e1,y9,n1,IK⟩:=id Be
  refine wpAny_bind (wpAny_typeOf (show ({ s with heap:=h1 } : Shared).TypeIs (.ref t) "tuple" from ⟨ot,e1,y9⟩) ?_)
  rw [if_pos (by decide)]
  refine wpAny_bind (wpAny_seqItems e1 IK (wpAny_pure ?_))
  show wpAny _ A.in1 (holding [key,(kvs[i]).2] (dictSet d key (kvs[i]).2)) _ _ _
  refine wpAny_holding ?_
  unfold dictSet
  try with_reducible refine wpAny_holding ?_
  have IL:h1.DictOf knd d acc:=let ⟨o,es,ep,ho,r⟩:=hd; ⟨o,es,ep,(ua.2 d y8).trans ho,r⟩
  refine wpAny_bind (knd.pyHash cT ?_)
  refine wpAny_dictSetHashed_pairs cT IL (λh2 hd2 iD=>?_) (by omega)
  refine wpAny_pure ⟨plainId_quiet F.cf _,?_⟩
  have er:rawInt ((i:Int)+1)=Value.int (((i+1:Nat):Nat):Int) 0:=by simp [rawInt]
  rw [er]
  have keep:∀b o,b≠d->b≠it->s.heap.get? b=some o->h2.get? b=some o:=λb o b1 b2 e=>(iD.2 b b1).trans ((ua.2 b b2).trans e)
  refine ih (i+1) _ 0 (stored acc (kvs[i]).1 (kvs[i]).2) (by omega) (by omega) hlen ?_ ?_ hd2 ?_ ?_ ?_
  . obtain ⟨o,e,r⟩:=EU
    exact ⟨o,(iD.2 it (Ne.symm y8)).trans e,r⟩
  . obtain ⟨o,e,r⟩:=hl
    exact ⟨o,keep l o (Ne.symm jq) II e,r⟩
  . have:=stored_length_le acc (kvs[i]).1 (kvs[i]).2
    omega
  . intro j u kv hu EV
    obtain ⟨⟨t',EW,e',IP,iL⟩,za⟩:=hp j u kv hu EV
    obtain ⟨a1,a2⟩:=za t' e'
    obtain ⟨o,e,r⟩:=IP
    exact ⟨⟨t',EW,e',⟨o,keep t' o a1 a2 e,r⟩,iL⟩,za⟩
  . intro h' t9 hd' iL
    refine hR h' t9 ?_ λb o b1 b2 e=>iL b o b1 b2 (keep b o b1 b2 e)
    rw [List.drop_eq_getElem_cons (by omega),List.foldl_cons]
    exact hd'
end
section
variable {prog:Program}{w:World}{K:Type}[DecidableEq K] {knd:KeyKind prog w K}{A:Around}{E:Value->Shared->Prop}{s:Shared}
theorem oz {l:Addr}{items:Array Value}{n:Nat}{kvs:List (K×Value)}{Q:Value->Shared->Prop}(hh:A.handled=none) (hl:s.heap.get? l=some { cls:=.type "list",data:=.seq items n }) (hlen:kvs.length=items.size) (hz:kvs.length<=sizeLine)
 (hp:∀(j:Nat) (u:Value) (kv:K×Value),items[j]?=some u->kvs[j]?=some kv->oy knd s.heap u kv)
 (h:∀h' tk,h'.DictOf knd s.heap.objs.size (merged [] kvs)->(∀b o,s.heap.get? b=some o->h'.get? b=some o)->Q (.ref s.heap.objs.size) { s with heap:=h',toks:=tk }) :
 wpAny (model prog w) A (call (.type "dict") [.ref l]) Q E s:=by
 refine callType_codes (Q₁:=λobj bw=>obj=.ref s.heap.objs.size/\bw = { s with heap:=s.heap.push { cls:=.type "dict",data:=.dict #[] } }) F.kt_called_dict (F.kt_typeCall_dict_1 _) F.entry_dict_init (kt_code_dict_new _ ⟨rfl,rfl⟩) ?_
 rintro obj bw ⟨rfl,rfl⟩
 have d4:(s.heap.push { cls:=.type "dict",data:=.dict #[] }).DictOf knd s.heap.objs.size []:=Heap.DictOf.new s.heap
 have ko:(s.heap.push { cls:=.type "dict",data:=.dict #[] }).get? l=some { cls:=.type "list",data:=.seq items n }:=Heap.get?_push_of_some _ hl
 refine ⟨d4.typeIs,F.args_dict_init_2 _ _,?_⟩
 unfold Builtin.«dict.__init__»
 refine wpAny_bind ?_
 unfold Builtin.Dict.selfAndRest
 refine wpAny_bind (wpAny_notOrdered_dict d4.typeIs ?_)
 show wpAny _ _ (pure (s.heap.objs.size,[Value.ref l])) _ _ _
 refine wpAny_pure ?_
 show wpAny _ _ (Builtin.Dict.updateFrom "dict.__init__" s.heap.objs.size (.ref l) [] .none) _ _ _
 unfold Builtin.Dict.updateFrom
 refine wpAny_bind (wpAny_typeOf (show ({ s with heap:=s.heap.push { cls:=.type "dict",data:=.dict #[] } } : Shared).TypeIs (.ref l) "list" from ⟨_,ko,rfl⟩) ?_)
 rw [if_pos (by decide)]
 generalize ua:({ s with heap:=s.heap.push { cls:=.type "dict",data:=.dict #[] } } : Shared)=s1 at *
 obtain ⟨g1,g2,g3,g4,g5⟩:=s1
 cases ua
 refine wpAny_bind (ox ko (by first | exact hh | rfl) λh2 IQ k2=>?_)
 rw [if_pos (show (none:Option Value).isNone=true from rfl)]
 have dw:h2.get? l=some { cls:=.type "list",data:=.seq items n }:=k2 _ _ ko
 have lt2:∀b o,(s.heap.push { cls:=.type "dict",data:=.dict #[] }).get? b=some o->b<h2.objs.size:=λb o e=>Heap.lt_size (k2 b o e)
 refine wpAny_bind (wpAny_rule (wpAny_bind (wpAny_pyIter_list (s:={ heap:=h2,gens:=s.gens,drawn:=s.drawn,toks:=IQ,os:=s.os }) (items:=items) ⟨_,dw,rfl,n,rfl⟩ ?_)))
 refine wpAny_pure ⟨plainId_quiet F.cf _,?_⟩
 have hd2:h2.DictOf knd s.heap.objs.size []:=let ⟨o,es,ep,ho,r⟩:=d4; ⟨o,es,ep,k2 _ _ ho,r⟩
 have jq:s.heap.objs.size<h2.objs.size:=let ⟨o,es,ep,ho,r⟩:=d4; lt2 _ _ ho
 have tN:l<s.heap.objs.size:=Heap.lt_size hl
 refine lI (knd:=knd) (d:=s.heap.objs.size) (it:=h2.objs.size) (l:=l) (items:=items) (kvs:=kvs) (Nat.ne_of_lt jq) (Nat.ne_of_gt tN) (Nat.ne_of_lt (Nat.lt_trans tN jq)) hz (by first | exact hh | rfl) items.size 0 _ 0 [] rfl (Nat.zero_le _) hlen
  ⟨_,Heap.get?_push_size _ rfl,rfl,rfl⟩ ⟨_,Heap.get?_push_of_some _ dw,rfl,n,rfl⟩ ?_ (Nat.le_refl _) ?_ ?_
 . obtain ⟨o,es,ep,ho,r⟩:=hd2
   exact ⟨o,es,ep,Heap.get?_push_of_some _ ho,r⟩
 . intro j u kv hu bg
   obtain ⟨t,key,e,⟨o,eo,r⟩,hk⟩:=hp j u kv hu bg
   have ht:t<s.heap.objs.size:=Heap.lt_size eo
   refine ⟨⟨t,key,e,⟨o,Heap.get?_push_of_some _ (k2 _ _ (Heap.get?_push_of_some _ eo)),r⟩,hk⟩,λt' e'=>?_⟩
   rw [e] at e'
   cases e'
   exact ⟨Nat.ne_of_lt ht,Nat.ne_of_lt (Nat.lt_trans ht jq)⟩
 . intro h' t9 hd' iL
   refine ⟨rfl,h h' t9 ?_ λb o e=>?_⟩
   . simpa [merged] using hd'
   . have hb:b<s.heap.objs.size:=Heap.lt_size e
     exact iL b o (Nat.ne_of_lt hb) (Nat.ne_of_lt (Nat.lt_trans hb jq)) (Heap.get?_push_of_some _ (k2 _ _ (Heap.get?_push_of_some _ e)))
end
end PySem
namespace L2
open PySem PySem.Spec PyProof.Rows
section
variable {X:Cx}
theorem pairs_at {P:Program}{w:World}{H:Hp}{h:Heap}(ok:cb P w H h):∀{ts:List Addr}{kvs:List (Key×V)}{us:List Value},Paired (λt kv=>H t=some (.tup [kV kv.1,kv.2])) ts kvs->Vals (ts.map V.ref) us->
 ∃vs:List (Key×Value),KV kvs vs/\Paired (λu kv=>oy (bb P w) h u kv) us vs
 | [],[],us,.nil,r=>by
  cases r
  exact ⟨[],.nil,.nil⟩
 | t::ts,kv::kvs,us,.cons e p,r=>by
  cases r with
  | @cons _ u _ LP ru r'=>
   obtain ⟨vs,k1,k2⟩:=pairs_at ok p r'
   cases (show u=Value.ref t from ru)
   obtain ⟨_,its,rv,ip⟩:=(show aT P w H h t (.tup [kV kv.1,kv.2]) from ok t _ e)
   obtain ⟨key,val,rfl,rk,rl⟩:=vals2 rv
   exact ⟨(kv.1,val)::vs,.cons ⟨rfl,rl⟩ k1,.cons ⟨t,key,rfl,ip,i6 rk⟩ k2⟩
theorem jr {α β:Type}{F:α->β->Prop} : ∀{my:List α}{mz:List β}{i:Nat}{a:α}{b:β},Paired F my mz->my[i]?=some a->mz[i]?=some b->F a b
 | _,_,i,a,b,.nil,h,_=>by simp at h
 | _,_,0,a,b,.cons h t,e1,e2=>by
  simp at e1 e2
  subst e1 e2
  exact h
 | _,_,i+1,a,b,.cons h t,e1,e2=>jr (i:=i) t (by simpa using e1) (by simpa using e2)
theorem kW (hc:X.calm=true):ff X (.type "dict") (λxs H Q=>∃p ts kvs,xs=[.ref p]/\H p=some (.lst (ts.map V.ref))/\Paired (λt kv=>H t=some (.tup [kV kv.1,kv.2])) ts kvs/\∀d,H d=none->Q (.ref d) (upd H d (.dK (cU [] kvs)))):=by
 intro pins s σ H xs us Q I r h
 obtain ⟨p,ts,kvs,rfl,hp,hT,q⟩:=h
 obtain ⟨u,rfl,rx⟩:=vals1 r
 cases (show u=Value.ref p from rx)
 obtain ⟨hz,its,n,rv,e⟩:=(show aT X.prog X.w H s.heap p (.lst (ts.map V.ref)) from I.hok p _ hp)
 obtain ⟨vs,kv,pv⟩:=pairs_at I.hok hT rv
 have l1:vs.length=its.toArray.size:=by rw [List.size_toArray]; exact pv.length.symm
 have l2:kvs.length=vs.length:=kv.length
 have l3:vs.length<=sizeLine:=by
  have:=hT.length
  rw [List.length_map] at hz
  omega
 refine oz (knd:=bb X.prog X.w) (kvs:=vs) (I.ok.hd hc) e l1 l3 (λj u kv hu bg=>jr pv (by simpa using hu) bg) λh' tk dd kk=>?_
 refine ⟨.ref s.heap.objs.size,_,I.laid (a:=s.heap.objs.size) (o:=.dK (cU [] kvs)) kk (Nat.le_refl _) (nr ?_ (beq_eq_false_iff_ne.mpr (Ne.symm (Nat.ne_of_lt I.big))) (KV.merge kv .nil) dd),rfl,q _ (I.hok.fresh (Nat.le_refl _))⟩
 have:=eV kvs []
 simp at this
 omega
theorem cM:ff X (.builtin "isinstance") (λxs H Q=>∃x t c b,xs=[x,.ty c]/\ee X.K H x t/\W.kitOne X.K t (.type c)=some b/\Q (.bl b) H):=by
 intro pins s σ H xs us Q I r h
 obtain ⟨x,t,c,b,rfl,ty,e,q⟩:=h
 obtain ⟨u,v,rfl,rx,ry⟩:=vals2 r
 cases (show v=Value.type c from ry)
 exact sE I rx ty e λtk=>⟨.bl b,H,I.tok _,rfl,q⟩
end
section
variable {X:Cx}{pins:List (Addr×Obj)}{σ:St}{H:Hp}{s:Shared}{d:Addr}{kvs:List (Key×V)}
end
section
variable {X:Cx}
end
end L2
namespace Gen
open PySem L2
abbrev gz:Stmt:=inClass (top 6) 0
theorem ub {σ:St}{H:Hp}{A B:Hp->Prop}(h:A H):jH σ H (λb H3=>if b=true then A H3 else B H3):=by
 show if true=true then A H else B H
 rw [if_pos rfl]
 exact h
theorem aV {f:Str}{v:V}{fs:List (Str×V)}{n:Nat}(h:fs.length<=n):(au f v fs).length<=n+1:=Nat.le_trans (gm f v fs) (Nat.succ_le_succ h)
theorem ka {n m:Nat}(h:n<=m) (hm:m<1000):n<1000:=Nat.lt_of_le_of_lt h hm
theorem cW {H:Hp}{p g C dx:Addr}{o:HO}{fs fs':List (Str×V)}(hp:H p=some (.ins C dx fs)) (hg:H g=none) :
 (upd (upd H g o) p (.ins C dx fs')) p=some (.ins C dx fs')/\(upd (upd H g o) p (.ins C dx fs')) g=some o/\(upd H g o) p=some (.ins C dx fs)/\∀b u,H b=some u->b≠p->(upd (upd H g o) p (.ins C dx fs')) b=some u:=by
 have n:=ah hp hg
 refine ⟨ag,by rw [ai (Ne.symm n),ag],by rw [ai n]; exact hp,λb u hb nb=>by rw [ai nb,ai (ah hb hg)]; exact hb⟩
theorem eS {H H':Hp}{p g:Addr}(k:∀b u,H b=some u->b≠p->H' b=some u) (hg:H' g=none) (np:g≠p):H g=none:=by
 cases e:H g with
 | none=>rfl
 | some o=>rw [k g o e np] at hg; cases hg
theorem hZ:∀(kvs acc:List (Key×V)),((acc++kvs).map (·.1)).Nodup->cU acc kvs=acc++kvs
 | [],acc,_=>(List.append_nil acc).symm
 | (k,v)::r,acc,h=>by
  have hn:bj acc k=none:=iS λkv bg z=>by
   rw [List.map_append,List.map_cons,List.nodup_append] at h
   exact h.2.2 _ (List.mem_map.mpr ⟨kv,bg,z⟩) _ List.mem_cons_self rfl
  show cU (putK acc k v) r=acc++(k,v)::r
  rw [jA v hn,hZ r (acc++[(k,v)]) (by rw [List.append_assoc]; exact h),List.append_assoc]
  rfl
theorem oA:∀(names:List Str) (i:Nat),(dg i names).map (·.1)=names.map Sum.inr
 | [],_=>rfl
 | n::r,i=>by rw [dg,List.map_cons,List.map_cons,oA r]
theorem qo:∀(names:List Str) (i:Nat),(dg i names).length=names.length
 | [],_=>rfl
 | n::r,i=>by rw [dg,List.length_cons,List.length_cons,qo r]
theorem qp:∀(a b:List Str) (i:Nat),dg i (a++b)=dg i a++dg (i+a.length) b
 | [],b,i=>rfl
 | p::r,b,i=>by rw [List.cons_append,dg,dg,qp r b (i+1),List.cons_append,List.length_cons,show i+1+r.length=i+(r.length+1) by omega]
theorem uc {names:List Str}(h:names.Nodup):cU [] (dg 0 names)=dg 0 names:=hZ _ [] (by
 rw [List.nil_append,oA]
 exact List.pairwise_map.mpr (List.Pairwise.imp (λh z=>h (Sum.inr.inj z)) h))
def wx (n:Nat) (t0 t1:Addr):cz:=⟨[(n,0,0),(n,1,1)],[.leaf false,.leaf true],[t0,t1],[],[],[(.inl 0,.bl false),(.inl 1,.bl true)]⟩
theorem IS (names:List Str) (t0 t1:Addr):FS names (wx names.length t0 t1).N (wx names.length t0 t1).TS:=
 ⟨rfl,Nat.le_refl _,rfl,rfl,rfl,rfl,λi h2 hi=>absurd (show i<2 from hi) (by omega),λi j h2 _ hi=>absurd (show i<2 from hi) (by omega)⟩
def qq (P:Program) (w:World) (C:Addr):Sp:=λvs H Q _=>∃(p dy o:Addr) (names:List Str),vs=[.ref p,.ref o]/\H p=some (.ins C dy [])/\H o=some (.lst (names.map V.str))/\names.Nodup/\(∀n∈names,PyData.strOk n=true)/\names.length<=8/\
 ∀(nm sp nd kn ch im ex t0 t1:Addr) (H':Hp),FO P w C H' p dy nm sp nd kn ch im ex names (wx names.length t0 t1)->bf H H' p->(∀g∈[nd,kn,ch,im,ex],H g=none)->Q .aR H'
theorem zb:(["spot", "name"]:List Str).Nodup:=by decide +kernel
section
variable {P:Program}{w:World}{K:W.Frag}{mg:Str->Option Value}{base:Heap}{C:Addr}
theorem EY:aQ ["self", "order"] ["self", "order"] (aj gz):=⟨rfl,rfl,rfl,by decide +kernel,rfl,by decide +kernel,by decide +kernel⟩
theorem vj {f:Addr}{fd:FuncData}(F:bY K "__init__" "Forest.__init__" gz f fd) (T:eX K mg C) (O2:fQ mg) (O:Own mg):av P w K mg base aH 1 f fd ["self", "order"] (qq P w C):=by
 refine F.ok EY (λvs H Q E h=>?_) (λcdv A outer s H vs Q E hr h=>?_)
 . obtain ⟨p,dy,o,names,rfl,_⟩:=h
   rfl
 . obtain ⟨p,dy,o,names,rfl,hp,ho,nn,ns,n8,kk⟩:=h
   refine ⟨_,ae (fJ (pv 0) (gg iJ (by rfl) O2.list PyProof.Rows.boot_list (aa (pv 1) ab)) rfl)
    (ae (fJ (pv 0) (gg (kW rfl) (by rfl) O2.dict PyProof.Rows.boot_dict (aa (dj (N:=["spot", "name"]) (js:=[none,none]) (g:=m7 K 2 (eY (cD 0) (eY (cD 1) mZ))) (by kernel_rfl) rfl (xl rfl O.enum (aa (pv 1) ab))
     (λ_ _ _ _ _ _=>nc rfl (d7 (aU (i:=0) zb rfl (Or.inl rfl) (.inr rfl)) (d7 (aU (i:=1) zb rfl (Or.inl rfl) (.inr rfl)) ly))) (λ_ _ _ _ _ _=>bz)
     (λ_ _ _ _ _ _=>eL (aa (pv 1) (aa (pv 0) ab)))) ab)) rfl)
    (ae (fJ (pv 0) (dW (aa (eL (aa (aO aP (by rfl) O2.len PySem.boot_len (aa (bx (pv 0) rfl) ab)) (aa af (aa af ab))))
     (aa (eL (aa (aO aP (by rfl) O2.len PySem.boot_len (aa (bx (pv 0) rfl) ab)) (aa af (aa af ab)))) ab))) rfl)
    (ae (fJ (pv 0) nu rfl)
    (ae (fJ (pv 0) nu rfl)
    (ae (fJ (pv 0) n9 rfl)
    (aq (fJ (pv 0) (xf (ny af dJ (ny af dJ xc)) rfl rfl (by simp) (by decide)) rfl))))))),?_⟩
   have np:∀{b:Addr}{u:HO},H b=some u->(∀C dx fs,u≠.ins C dx fs)->b≠p:=λhb hu z=>by
    rw [z,hp] at hb
    exact hu _ _ _ (Option.some.inj hb).symm
   have IT:o≠p:=np ho (λ_ _ _ z=>by cases z)
   refine ⟨_,rfl,o,_,rfl,.inl (ay.of ho),λnm e1=>?_⟩
   obtain ⟨p1,q1,r1,k1⟩:=cW (o:=.lst (names.map V.str)) (fs':=au "names" (.ref nm) []) hp e1
   have b1:nm≠p:=(ah hp e1).symm
   refine ⟨_,rfl,p,C,dy,_,rfl,r1,T.cl,T.n1,(by show 0<1000; decide),?_⟩
   show dq _ _ _ _ (upd (upd H nm (.lst (names.map V.str))) p (.ins C dy (au "names" (.ref nm) [])))
   generalize upd (upd H nm (.lst (names.map V.str))) p (.ins C dy (au "names" (.ref nm) []))=H1 at p1 q1 k1 ⊢
   have wy:=k1 _ _ ho IT
   refine ⟨_,rfl,o,rfl,⟨_,ay.of wy⟩,λR hR=>?_⟩
   refine gi names.length (λi acc σ H9=>(∃vs:List Addr,acc=vs.map V.ref/\Paired (λt (kv:Key×V)=>H9 t=some (.tup [kV kv.1,kv.2])) vs (dg 0 (names.take i)))/\(∃u v,σ=[u,v])/\ao H1 H9) ⟨⟨[],rfl,.nil⟩,⟨none,none,rfl⟩,ao.aA hR⟩ ag ?_ ?_
   . rintro acc σ H2 zc ⟨⟨vs,rfl,ud⟩,_,s2⟩
     rw [List.take_length] at ud
     refine ⟨⟨_,ay.of (s2 _ _ wy),by rw [List.length_map]; exact Nat.le_refl _⟩,R,vs,_,rfl,zc,ud,λsp gf=>?_⟩
     rw [uc nn]
     obtain ⟨p3,q3,r3,k3⟩:=cW (o:=.dK (dg 0 names)) (fs':=au "spots" (.ref sp) (au "names" (.ref nm) [])) (s2 _ _ p1) gf
     have b3:sp≠p:=(ah (s2 _ _ p1) gf).symm
     have k13:∀b u,H1 b=some u->b≠p->(upd (upd H2 sp (.dK (dg 0 names))) p (.ins C dy (au "spots" (.ref sp) (au "names" (.ref nm) [])))) b=some u:=λb u hb nb=>k3 _ _ (s2 _ _ hb) nb
     refine ⟨_,rfl,p,C,dy,_,rfl,r3,T.cl,T.n2,ka (aV (Nat.le_refl _)) (by show 1<1000; decide),?_⟩
     show dq _ _ _ _ (upd (upd H2 sp (.dK (dg 0 names))) p (.ins C dy (au "spots" (.ref sp) (au "names" (.ref nm) []))))
     generalize upd (upd H2 sp (.dK (dg 0 names))) p (.ins C dy (au "spots" (.ref sp) (au "names" (.ref nm) [])))=H3 at p3 q3 k13 ⊢
     have oq:bf H H3 p:=λb u hb nb=>k13 _ _ (k1 _ _ hb nb) nb
     have wz:=k13 _ _ q1 b1
     have CW:∀{f:Str}{v:V}{r:List (Str×V)},f ≠ "names" -> (au f v r).lookup ("names" : Str)=r.lookup ("names" : Str):=λh=>by rw [ak,if_neg (Ne.symm h)]
     refine ⟨_,rfl,p,C,dy,_,_,rfl,p3,T.cl,T.n1,(by rw [CW (by decide +kernel),ak,if_pos rfl]),nm,_,rfl,.inl (ay.of wz),?_⟩
     rw [List.length_map]
     refine ⟨(by show 3<=sizeLine; decide),λt0 IU=>?_⟩
     have s4:ao H3 (upd H3 t0 (.tup (cY (names.length,0,0)))):=ao.aA IU
     have q4:(upd H3 t0 (.tup (cY (names.length,0,0)))) t0=some (.tup (cY (names.length,0,0))):=ag
     show mq _ _ _ (upd H3 t0 (.tup (cY (names.length,0,0)))) _
     generalize upd H3 t0 (.tup (cY (names.length,0,0)))=H4 at s4 q4 ⊢
     refine ⟨_,rfl,p,C,dy,_,_,rfl,s4 _ _ p3,T.cl,T.n1,(by rw [CW (by decide +kernel),ak,if_pos rfl]),nm,_,rfl,.inl (ay.of (s4 _ _ wz)),?_⟩
     rw [List.length_map]
     refine ⟨(by show 3<=sizeLine; decide),λt1 IV=>?_⟩
     have s5:ao H4 (upd H4 t1 (.tup (cY (names.length,1,1)))):=ao.aA IV
     have q5:(upd H4 t1 (.tup (cY (names.length,1,1)))) t1=some (.tup (cY (names.length,1,1))):=ag
     show x6 _ (upd H4 t1 (.tup (cY (names.length,1,1)))) _
     generalize upd H4 t1 (.tup (cY (names.length,1,1)))=H5 at s5 q5 ⊢
     refine ⟨(by show 2<=sizeLine; decide),λnd e6=>?_⟩
     have iU:=s4.trans s5
     obtain ⟨p6,q6,r6,k6⟩:=cW (o:=.lst [.ref t0,.ref t1]) (fs':=au "nodes" (.ref nd) (au "spots" (.ref sp) (au "names" (.ref nm) []))) (iU _ _ p3) e6
     have b6:nd≠p:=(ah (iU _ _ p3) e6).symm
     have d1:nd≠nm:=(ah (iU _ _ wz) e6).symm
     refine ⟨_,rfl,p,C,dy,_,rfl,r6,T.cl,T.n3,ka (aV (aV (Nat.le_refl _))) (by show 2<1000; decide),?_⟩
     show dq _ _ _ _ (upd (upd H5 nd (.lst [.ref t0,.ref t1])) p (.ins C dy (au "nodes" (.ref nd) (au "spots" (.ref sp) (au "names" (.ref nm) [])))))
     have f6:H nd=none:=eS (λb u hb nb=>iU _ _ (oq _ _ hb nb)) e6 b6
     have ue:∀b u,H3 b=some u->b≠p->(upd (upd H5 nd (.lst [.ref t0,.ref t1])) p (.ins C dy (au "nodes" (.ref nd) (au "spots" (.ref sp) (au "names" (.ref nm) []))))) b=some u:=λb u hb nb=>k6 _ _ (iU _ _ hb) nb
     have tp:∀{b:Addr}{xs:List V},H5 b=some (.tup xs)->b≠p:=λhb=>cC hb (iU _ _ p3) (by intro z; cases z)
     have CY:=k6 _ _ (s5 _ _ q4) (tp (s5 _ _ q4))
     have CZ:=k6 _ _ q5 (tp q5)
     have n0:t0≠p:=tp (s5 _ _ q4)
     have n1:t1≠p:=tp q5
     generalize upd (upd H5 nd (.lst [.ref t0,.ref t1])) p (.ins C dy (au "nodes" (.ref nd) (au "spots" (.ref sp) (au "names" (.ref nm) []))))=H6 at p6 q6 ue CY CZ ⊢
     have C0:bf H H6 p:=λb u hb nb=>ue _ _ (oq _ _ hb nb) nb
     intro kn e7
     obtain ⟨p7,q7,r7,k7⟩:=cW (o:=.dT []) (fs':=au "known" (.ref kn) (au "nodes" (.ref nd) (au "spots" (.ref sp) (au "names" (.ref nm) [])))) p6 e7
     have b7:kn≠p:=(ah p6 e7).symm
     refine ⟨_,rfl,p,C,dy,_,rfl,r7,T.cl,T.n4,ka (aV (aV (aV (Nat.le_refl _)))) (by show 3<1000; decide),?_⟩
     show dq _ _ _ _ (upd (upd H6 kn (.dT [])) p (.ins C dy (au "known" (.ref kn) (au "nodes" (.ref nd) (au "spots" (.ref sp) (au "names" (.ref nm) []))))))
     have f7:H kn=none:=eS C0 e7 b7
     generalize upd (upd H6 kn (.dT [])) p (.ins C dy (au "known" (.ref kn) (au "nodes" (.ref nd) (au "spots" (.ref sp) (au "names" (.ref nm) [])))))=H7 at p7 q7 k7 ⊢
     have C1:bf H H7 p:=λb u hb nb=>k7 _ _ (C0 _ _ hb nb) nb
     intro ch e8
     obtain ⟨p8,q8,r8,k8⟩:=cW (o:=.dT []) (fs':=au "choices" (.ref ch) (au "known" (.ref kn) (au "nodes" (.ref nd) (au "spots" (.ref sp) (au "names" (.ref nm) []))))) p7 e8
     have b8:ch≠p:=(ah p7 e8).symm
     have d2:kn≠ch:=ah q7 e8
     refine ⟨_,rfl,p,C,dy,_,rfl,r8,T.cl,T.n5,ka (aV (aV (aV (aV (Nat.le_refl _))))) (by show 4<1000; decide),?_⟩
     show dq _ _ _ _ (upd (upd H7 ch (.dT [])) p (.ins C dy (au "choices" (.ref ch) (au "known" (.ref kn) (au "nodes" (.ref nd) (au "spots" (.ref sp) (au "names" (.ref nm) [])))))))
     have f8:H ch=none:=eS C1 e8 b8
     generalize upd (upd H7 ch (.dT [])) p (.ins C dy (au "choices" (.ref ch) (au "known" (.ref kn) (au "nodes" (.ref nd) (au "spots" (.ref sp) (au "names" (.ref nm) []))))))=H8 at p8 q8 k8 ⊢
     have C2:bf H H8 p:=λb u hb nb=>k8 _ _ (C1 _ _ hb nb) nb
     intro im e9
     obtain ⟨p9,q9,r9,k9⟩:=cW (o:=dF P w im []) (fs':=au "imported" (.ref im) (au "choices" (.ref ch) (au "known" (.ref kn) (au "nodes" (.ref nd) (au "spots" (.ref sp) (au "names" (.ref nm) [])))))) p8 e9
     have b9:im≠p:=(ah p8 e9).symm
     refine ⟨_,rfl,p,C,dy,_,rfl,r9,T.cl,T.n6,ka (aV (aV (aV (aV (aV (Nat.le_refl _)))))) (by show 5<1000; decide),?_⟩
     show dq _ _ _ _ (upd (upd H8 im (dF P w im [])) p (.ins C dy (au "imported" (.ref im) (au "choices" (.ref ch) (au "known" (.ref kn) (au "nodes" (.ref nd) (au "spots" (.ref sp) (au "names" (.ref nm) []))))))))
     have f9:H im=none:=eS C2 e9 b9
     generalize upd (upd H8 im (dF P w im [])) p (.ins C dy (au "imported" (.ref im) (au "choices" (.ref ch) (au "known" (.ref kn) (au "nodes" (.ref nd) (au "spots" (.ref sp) (au "names" (.ref nm) [])))))))=H9 at p9 q9 k9 ⊢
     have C3:bf H H9 p:=λb u hb nb=>k9 _ _ (C2 _ _ hb nb) nb
     intro ex eA
     refine ⟨ag,[(.inl 0,.bl false),(.inl 1,.bl true)],rfl,(by show 2<=15; decide),?_⟩
     have bA:ex≠p:=(ah p9 eA).symm
     have fA:H ex=none:=eS C3 eA bA
     have IW:∀o':HO,upd (upd H9 ex (.dK [])) ex o'=upd H9 ex o':=λo'=>by
      funext b
      by_cases e:b=ex
      . rw [e,ag,ag]
      . rw [ai e,ai e,ai e]
     rw [show cU [] [((.inl 0:Key),V.bl false),(.inl 1,.bl true)]=[(.inl 0,.bl false),(.inl 1,.bl true)] from hZ _ [] (by decide),IW]
     obtain ⟨pA,qA,rA,kA⟩:=cW (o:=.dK [(.inl 0,.bl false),(.inl 1,.bl true)]) (fs':=bL nm sp nd kn ch im ex) p9 eA
     refine ⟨_,rfl,p,C,dy,_,rfl,rA,T.cl,T.n7,ka (aV (aV (aV (aV (aV (aV (Nat.le_refl _))))))) (by show 6<1000; decide),?_⟩
     have uf:∀b u,H6 b=some u->b≠p->(upd (upd H9 ex (.dK [(.inl 0,.bl false),(.inl 1,.bl true)])) p (.ins C dy (bL nm sp nd kn ch im ex))) b=some u:=λb u hb nb=>kA _ _ (k9 _ _ (k8 _ _ (k7 _ _ hb nb) nb) nb) nb
     have IX:=k9 _ _ (k8 _ _ (k7 _ _ (ue _ _ q3 b3) b3) b3) b3
     refine kk nm sp nd kn ch im ex t0 t1 _ ⟨pA,uf _ _ (ue _ _ wz b1) b1,uf _ _ (ue _ _ q3 b3) b3,uf _ _ q6 b6,.cons (uf _ _ CY n0) (.cons (uf _ _ CZ n1) .nil),kA _ _ (k9 _ _ (k8 _ _ q7 b7) b7) b7,kA _ _ (k9 _ _ q8 b8) b8,(λ_ h=>nomatch h),kA _ _ q9 b9,(λ_ h=>nomatch h),qA,?_,⟨rfl,rfl⟩,IS names t0 t1,nn,ns,n8,d1,d2,ah IX eA⟩ (λb u hb nb=>kA _ _ (C3 _ _ hb nb) nb) ?_
     . intro kv bg
       rcases List.mem_cons.mp bg with rfl | bg
       . exact ⟨0,rfl,Nat.zero_lt_two,rfl⟩
       . rw [List.mem_singleton] at bg
         subst bg
         exact ⟨1,rfl,Nat.one_lt_two,rfl⟩
     . intro g hg
       simp only [List.mem_cons,List.not_mem_nil,or_false] at hg
       rcases hg with rfl | rfl | rfl | rfl | rfl <;> assumption
   . rintro i acc σ H9 hi zc ⟨⟨vs,rfl,ud⟩,⟨u,v,rfl⟩,s9⟩
     have C4:names[i]?=some names[i]:=List.getElem?_eq_getElem hi
     have ei:(names.map V.str)[i]?=some (.str names[i]):=by rw [List.getElem?_map,C4]; rfl
     refine ⟨⟨_,_,ay.of (s9 _ _ wy),ei⟩,?_⟩
     rintro x' H' ⟨Tp,xv,rfl,pR,rfl,jB⟩
     have ex:=jB _ (ay.of (s9 _ _ wy))
     rw [ei] at ex
     cases ex
     have sT:ao H9 (upd H9 Tp (.tup [.int (i:Int),.str names[i]])):=ao.aA pR
     have qT:(upd H9 Tp (.tup [.int (i:Int),.str names[i]])) Tp=some (.tup [.int (i:Int),.str names[i]]):=ag
     refine ⟨Tp,_,rfl,ba.of qT,rfl,_,_,rfl,_,_,rfl,rfl,?_⟩
     show jH _ (upd H9 Tp (.tup [.int (i:Int),.str names[i]])) _
     generalize upd H9 Tp (.tup [.int (i:Int),.str names[i]])=HT at sT qT ⊢
     refine ub ?_
     refine ⟨_,rfl,_,rfl,(by show 2<=sizeLine; decide),λt2 zd=>?_⟩
     have ze:=sT _ _ zc
     have nR:R≠t2:=ah ze zd
     have IY:=ud.length
     rw [qo,List.length_take] at IY
     refine ⟨_,(ai nR).trans ze,(by rw [List.length_map]; exact small (by omega)),cG hi ag ⟨⟨vs++[t2],by rw [List.map_append]; rfl,?_⟩,⟨_,_,rfl⟩,λb o' hb=>?_⟩⟩
     . rw [List.take_succ,C4,Option.toList_some,qp,List.length_take,Nat.min_eq_left (Nat.le_of_lt hi)]
       refine eW (Paired.gL ud λt kv e=>?_) (.cons ?_ .nil)
       . have e':=sT _ _ e
         rw [ai (cC e' ze (by intro z; cases z)),ai (ah e' zd)]
         exact e'
       . rw [ai (Ne.symm nR),ag]
         show some (HO.tup [V.str names[i],V.int (i:Int)])=some (HO.tup [V.str names[i],V.int ((0+i:Nat):Int)])
         rw [Nat.zero_add]
     . rw [ai (ah hb hR),ai (ah (sT _ _ (s9 _ _ hb)) zd)]
       exact sT _ _ (s9 _ _ hb)
end
end Gen
namespace Gen
open PySem L2
abbrev jf:Stmt:=top 2
abbrev fm:Stmt:=top 3
abbrev fW:Stmt:=top 5
abbrev lJ:Stmt:=top 4
theorem oB:∀t:Tr,cA t+2<=2*2 ^ t.dep
 | .leaf _=>Nat.le_refl _
 | .node _ l r=>by
  have h1:=oB l
  have h2:=oB r
  have e1:2 ^ l.dep<=2 ^ max l.dep r.dep:=Nat.pow_le_pow_right (by decide) (by omega)
  have e2:2 ^ r.dep<=2 ^ max l.dep r.dep:=Nat.pow_le_pow_right (by decide) (by omega)
  show cA l+cA r+2+2<=2*2 ^ (max l.dep r.dep+1)
  rw [Nat.pow_succ]
  omega
theorem h9 {t:Tr}(h:t.dep<=8):cA t<=510:=by
 have h1:=oB t
 have h2:2 ^ t.dep<=2 ^ 8:=Nat.pow_le_pow_right (by decide) h
 omega
section
variable (P:Program) (w:World) (K:W.Frag) (mg:Str->Option Value) (base:Heap) (C:Addr)
structure oC (fI fT fC fA:Addr) (dI dT dC dA:FuncData):Prop where
 gI:av P w K mg base aH 1 fI dI ["self", "order"] (qq P w C)
 mI:Mk K C fI
 bI:Binds K dI ["self", "order"] []
 gT:av P w K mg base aH 10 fT dT ["self", "tree"] (je P w C 9)
 mT:Meth K C "taken" fT
 bT:Binds K dT ["self", "tree"] []
 gC:av P w K mg base aH 10 fC dC kM (hU P w C 9)
 mC:Meth K C "chosen" fC
 bC:Binds K dC kM []
 gA:av P w K mg base aH 10 fA dA ["self", "number"] (hJ P w C 9)
 mA:Meth K C "tree_at" fA
 bA:Binds K dA ["self", "number"] []
end
structure Ord (H:Hp) (o:Addr) (names:List Str):Prop where
 at_:H o=some (.lst (names.map V.str))
 nd:names.Nodup
 ok:∀n∈names,PyData.strOk n=true
 n8:names.length<=8
def mv (f:Bool->Bool->Bool):Sp:=λvs H Q _=>∃(o:Addr) (v1 v2:V) (names:List Str) (t1 t2:Tr),vs=[.ref o,v1,v2]/\Ord H o names/\aX H t1 v1/\aX H t2 v2/\bJ names t1/\bJ names t2/\
 ∀(v:V) (t:Tr) (H':Hp),ao H H'->aX H' t v->bJ names t->(∀e,ev e t=f (ev e t1) (ev e t2))->Q v H'
abbrev C5:List Str:=["order", "one", "other", "forest"]
abbrev jt:List Str:=["order", "one", "other"]
theorem bF {H H':Hp}(s:ao H H'):∀a xs,H a=some (.tup xs)->H' a=some (.tup xs):=λa xs e=>s _ _ e
section
variable {P:Program}{w:World}{K:W.Frag}{mg:Str->Option Value}{base:Heap}{C fI fT fC fA:Addr}{dI dT dC dA:FuncData}
theorem C6 {n:Nat}{t0 t1:Addr} : Bd (wx n t0 t1) 2:=⟨Nat.le_refl _,Nat.zero_le _,Nat.zero_le _,Nat.le_refl _⟩
theorem oE {H H1:Hp}{x dx C:Addr}(hx:H x=none) (iV:H dx=none) (k1:bf (upd (upd H dx (.own x)) x (.ins C dx [])) H1 x):ao H H1:=λb o hb=>by
 have n1:=ah hb hx
 have n2:=ah hb iV
 exact k1 b o (by rw [ai n1,ai n2]; exact hb) n1
theorem oF {H:Hp}{x dx C g:Addr}(hx:H x=none) (iV:H dx=none) (hg:(upd (upd H dx (.own x)) x (.ins C dx [])) g=none):H g=none:=by
 cases e:H g with
 | none=>rfl
 | some o=>
  rw [ai (ah e hx),ai (ah e iV),e] at hg
  cases hg
theorem jg {H H1 H2:Hp}{nd kn ch im ex:Addr}(s:ao H H1) (fr:∀g∈[nd,kn,ch,im,ex],H g=none) (k:Kp H1 H2 nd kn ch im ex):ao H H2:=λb o hb=>
 k b o (s b o hb) (ah hb (fr nd (by simp))) (ah hb (fr kn (by simp))) (ah hb (fr ch (by simp))) (ah hb (fr im (by simp))) (ah hb (fr ex (by simp)))
theorem ug:aQ C5 jt (aj jf):=⟨rfl,rfl,rfl,by decide +kernel,rfl,by decide +kernel,by decide +kernel⟩
theorem xB {f:Addr}{fd:FuncData}(F:bY K "both" "both" jf f fd) (T:eX K mg C) (G:oC P w K mg base C fI fT fC fA dI dT dC dA):av P w K mg base aH 11 f fd jt (mv and):=by
 refine F.ok ug (λvs H Q E h=>?_) (λcdv A outer s H vs Q E hr h=>?_)
 . obtain ⟨o,v1,v2,names,t1,t2,rfl,_⟩:=h
   rfl
 . obtain ⟨o,v1,v2,names,t1,t2,rfl,hOr,wg,zf,c1,c2,kk⟩:=h
   refine ⟨_,ae (ax (i:=3) ug.nd rfl (Or.inl rfl) (pL G.mI G.gI (hr.mono (by decide)) rfl T.mgC G.bI .nil aw (aa (pv 0) ab)))
    (aq (aJ (aW (pv 3) T.cl G.mA G.gA hr G.bA .nil aw (aa (aW (pv 3) T.cl G.mC G.gC hr G.bC .nil aw (aa (aW (pv 3) T.cl G.mT G.gT hr G.bT .nil aw (aa (pv 1) ab))
     (aa (aW (pv 3) T.cl G.mT G.gT hr G.bT .nil aw (aa (pv 2) ab)) (aa af ab)))) ab)))),?_⟩
   refine ⟨_,rfl,λx dx hx iV IZ=>?_⟩
   refine ⟨x,dx,o,names,rfl,ag,by rw [ai (ah hOr.at_ hx),ai (ah hOr.at_ iV)]; exact hOr.at_,hOr.nd,hOr.ok,hOr.n8,λnm sp nd kn ch im ex a0 a1 H1 aI k1 zg=>⟨rfl,?_⟩⟩
   have s1:=oE hx iV k1
   have fr:∀g∈[nd,kn,ch,im,ex],H g=none:=λg hg=>oF hx iV (zg g hg)
   have iT:∀m∈["taken", "chosen", "tree_at"],(bL nm sp nd kn ch im ex).lookup (m:Str)=none:=λm hm=>by
    simp only [List.mem_cons,List.not_mem_nil,or_false] at hm
    rcases hm with rfl | rfl | rfl <;> exact iQ _ _ _ _ _ _ _ (by decide +kernel) (by decide +kernel) (by decide +kernel) (by decide +kernel) (by decide +kernel) (by decide +kernel) (by decide +kernel)
   have nT:=iT "taken" (by decide)
   have nC:=iT "chosen" (by decide)
   have nA:=iT "tree_at" (by decide)
   have z1:=h9 (Nat.le_trans (bG c1) hOr.n8)
   have z2:=h9 (Nat.le_trans (bG c2) hOr.n8)
   have y1:=Nat.le_trans (bG c1) hOr.n8
   have y2:=Nat.le_trans (bG c2) hOr.n8
   have I0:cst 9=1022:=rfl
   refine ⟨_,rfl,x,dx,_,rfl,aI.hy,nA,_,rfl,x,dx,_,rfl,aI.hy,nC,_,rfl,x,dx,_,rfl,aI.hy,nT,_,rfl,x,dx,nm,sp,nd,kn,ch,im,ex,names,_,t1,v1,2,rfl,aI,wg.keep (bF s1),c1,by omega,C6,by omega,λn1 S1 H2 cJ k2 g2 B2 _ _ _ l1 e1=>?_⟩
   have s2:=jg s1 fr k2
   refine ⟨_,rfl,x,dx,_,rfl,cJ.hy,nT,_,rfl,x,dx,nm,sp,nd,kn,ch,im,ex,names,S1,t2,v2,_,rfl,cJ,zf.keep (bF s2),c2,by omega,B2,by omega,λn2 S2 H3 dG k3 g3 B3 _ _ _ l2 e2=>?_⟩
   have ql:n1<S2.N.length:=Nat.lt_of_lt_of_le l1 g3.le
   have pZ:aD S2.TS n1=t1:=by rw [g3.aD (by rw [← cJ.fs.len]; exact l1)]; exact e1
   have two:=dG.fs.two
   refine ⟨x,dx,nm,sp,nd,kn,ch,im,ex,names,S2,n1,n2,0,_,rfl,dG,ql,l2,by omega,by have:=hOr.n8; omega,B3,by omega,λn3 S3 H4 gy k4 g4 B4 _ _ l3 e3 m3=>?_⟩
   have uh:bJ names (aD S3.TS n3):=eu (i:=0) (ns:=names) (gy.fs.CQ hOr.nd n3 l3) (Nat.zero_le _)
   have y3:=Nat.le_trans (bG uh) hOr.n8
   have z3:=h9 y3
   refine ⟨x,dx,nm,sp,nd,kn,ch,im,ex,names,S3,n3,_,rfl,gy,l3,by omega,B4,by omega,λv S4 H5 y6 k5 _ _ _ _ r5=>?_⟩
   refine kk v _ H5 (jg s1 fr (((k2.trans k3).trans k4).trans k5)) r5 uh λe=>?_
   rw [e3 e,pZ,e2,dG.fs.t0]
   cases ev e t1 <;> rfl
theorem oG:aQ C5 jt (aj fm):=⟨rfl,rfl,rfl,by decide +kernel,rfl,by decide +kernel,by decide +kernel⟩
theorem ui {f:Addr}{fd:FuncData}(F:bY K "either" "either" fm f fd) (T:eX K mg C) (G:oC P w K mg base C fI fT fC fA dI dT dC dA):av P w K mg base aH 11 f fd jt (mv or):=by
 refine F.ok oG (λvs H Q E h=>?_) (λcdv A outer s H vs Q E hr h=>?_)
 . obtain ⟨o,v1,v2,names,t1,t2,rfl,_⟩:=h
   rfl
 . obtain ⟨o,v1,v2,names,t1,t2,rfl,hOr,wg,zf,c1,c2,kk⟩:=h
   refine ⟨_,ae (ax (i:=3) oG.nd rfl (Or.inl rfl) (pL G.mI G.gI (hr.mono (by decide)) rfl T.mgC G.bI .nil aw (aa (pv 0) ab)))
    (aq (aJ (aW (pv 3) T.cl G.mA G.gA hr G.bA .nil aw (aa (aW (pv 3) T.cl G.mC G.gC hr G.bC .nil aw (aa (aW (pv 3) T.cl G.mT G.gT hr G.bT .nil aw (aa (pv 1) ab))
     (aa af (aa (aW (pv 3) T.cl G.mT G.gT hr G.bT .nil aw (aa (pv 2) ab)) ab)))) ab)))),?_⟩
   refine ⟨_,rfl,λx dx hx iV IZ=>?_⟩
   refine ⟨x,dx,o,names,rfl,ag,by rw [ai (ah hOr.at_ hx),ai (ah hOr.at_ iV)]; exact hOr.at_,hOr.nd,hOr.ok,hOr.n8,λnm sp nd kn ch im ex a0 a1 H1 aI k1 zg=>⟨rfl,?_⟩⟩
   have s1:=oE hx iV k1
   have fr:∀g∈[nd,kn,ch,im,ex],H g=none:=λg hg=>oF hx iV (zg g hg)
   have iT:∀m∈["taken", "chosen", "tree_at"],(bL nm sp nd kn ch im ex).lookup (m:Str)=none:=λm hm=>by
    simp only [List.mem_cons,List.not_mem_nil,or_false] at hm
    rcases hm with rfl | rfl | rfl <;> exact iQ _ _ _ _ _ _ _ (by decide +kernel) (by decide +kernel) (by decide +kernel) (by decide +kernel) (by decide +kernel) (by decide +kernel) (by decide +kernel)
   have nT:=iT "taken" (by decide)
   have nC:=iT "chosen" (by decide)
   have nA:=iT "tree_at" (by decide)
   have z1:=h9 (Nat.le_trans (bG c1) hOr.n8)
   have z2:=h9 (Nat.le_trans (bG c2) hOr.n8)
   have y1:=Nat.le_trans (bG c1) hOr.n8
   have y2:=Nat.le_trans (bG c2) hOr.n8
   have I0:cst 9=1022:=rfl
   refine ⟨_,rfl,x,dx,_,rfl,aI.hy,nA,_,rfl,x,dx,_,rfl,aI.hy,nC,_,rfl,x,dx,_,rfl,aI.hy,nT,_,rfl,x,dx,nm,sp,nd,kn,ch,im,ex,names,_,t1,v1,2,rfl,aI,wg.keep (bF s1),c1,by omega,C6,by omega,λn1 S1 H2 cJ k2 g2 B2 _ _ _ l1 e1=>?_⟩
   have s2:=jg s1 fr k2
   refine ⟨_,rfl,x,dx,_,rfl,cJ.hy,nT,_,rfl,x,dx,nm,sp,nd,kn,ch,im,ex,names,S1,t2,v2,_,rfl,cJ,zf.keep (bF s2),c2,by omega,B2,by omega,λn2 S2 H3 dG k3 g3 B3 _ _ _ l2 e2=>?_⟩
   have ql:n1<S2.N.length:=Nat.lt_of_lt_of_le l1 g3.le
   have pZ:aD S2.TS n1=t1:=by rw [g3.aD (by rw [← cJ.fs.len]; exact l1)]; exact e1
   have two:=dG.fs.two
   refine ⟨x,dx,nm,sp,nd,kn,ch,im,ex,names,S2,n1,1,n2,_,rfl,dG,ql,by omega,l2,by have:=hOr.n8; omega,B3,by omega,λn3 S3 H4 gy k4 g4 B4 _ _ l3 e3 m3=>?_⟩
   have uh:bJ names (aD S3.TS n3):=eu (i:=0) (ns:=names) (gy.fs.CQ hOr.nd n3 l3) (Nat.zero_le _)
   have y3:=Nat.le_trans (bG uh) hOr.n8
   have z3:=h9 y3
   refine ⟨x,dx,nm,sp,nd,kn,ch,im,ex,names,S3,n3,_,rfl,gy,l3,by omega,B4,by omega,λv S4 H5 y6 k5 _ _ _ _ r5=>?_⟩
   refine kk v _ H5 (jg s1 fr (((k2.trans k3).trans k4).trans k5)) r5 uh λe=>?_
   rw [e3 e,pZ,e2,dG.fs.t1]
   cases ev e t1 <;> rfl
end
structure ND (P:Program) (w:World) (H:Hp) (kn:Addr) (L:List (Tr×Addr×V)):Prop where
 at_:H kn=some (dF P w kn L)
 ok:∀p∈L,de H p.1 p.2.1/\aX H (neg p.1) p.2.2
def jh (P:Program) (w:World) (d:Nat):Sp:=λvs H Q _=>∃(v:V) (kn:Addr) (L:List (Tr×Addr×V)) (t:Tr) (b:Nat),vs=[v,.ref kn]/\ND P w H kn L/\aX H t v/\t.dep<=8/\t.md/\t.dep<d/\L.length<=b/\b+cA t<100000/\
 ∀(u:V) (L':List (Tr×Addr×V)) (H':Hp),bf H H' kn->ND P w H' kn L'->L'.length<=b+cA t->(∀p∈L',p∈L\/p.1.dep<=t.dep)->aX H' (neg t) u->Q u H'
abbrev Ja:List Str:=["tree", "known", "made"]
abbrev kX:List Str:=["tree", "known"]
def rC:Sp:=λvs H Q _=>∃(v:V) (t:Tr),vs=[v]/\aX H t v/\t.dep<=8/\t.md/\∀(u:V) (H':Hp),ao H H'->aX H' (neg t) u->Q u H'
theorem aX.nn {H:Hp}{t:Tr}{v:V}(h:aX H t v):v≠.aR:=λz=>by
 rw [z] at h
 cases t with
 | leaf c=>cases (show V.aR=.bl c from h)
 | node a l r=>obtain ⟨_,_,_,z,_⟩:=h; cases z
theorem qr {P:Program}{w:World}{H H':Hp}{kn:Addr}{L:List (Tr×Addr×V)}(h:H kn=some (dF P w kn L)) (k:bf H H' kn):∀a xs,H a=some (.tup xs)->H' a=some (.tup xs):=λa xs e=>k _ _ e (cC e h (by intro z; cases z))
section
variable {P:Program}{w:World}{K:W.Frag}{mg:Str->Option Value}{base:Heap}
theorem vk:aQ Ja kX (aj fW):=⟨rfl,rfl,rfl,by decide +kernel,rfl,by decide +kernel,by decide +kernel⟩
theorem uk {f:Addr}{fd:FuncData}{d k:Nat}(F:bY K "opposite_by" "opposite_by" fW f fd) (G:av P w K mg base aH k f fd kX (jh P w d)) (mO:mg "opposite_by" = some (.ref f)) (bO:Binds K fd kX []):av P w K mg base aH (k+1) f fd kX (jh P w (d+1)):=by
 refine F.ok vk (λvs H Q E h=>?_) (λcdv A outer s H vs Q E hr h=>?_)
 . obtain ⟨v,kn,L,t,b,rfl,_⟩:=h
   rfl
 . obtain ⟨v,kn,L,t,b,rfl,hN,hv,d8,sk,hd,hB,hb,kk⟩:=h
   have tY:=yT hr
   refine ⟨_,ae (bc (dM (kH (pv 0))) (aq (aJ dJ)) aN)
    (ae (bc (dM (kH (pv 0))) (aq (aJ dJ)) aN)
    (ae (ax (i:=2) vk.nd rfl (Or.inl rfl) (p0 tY (pv 1) (pv 0) ⟨rfl,rfl,rfl,rfl⟩))
    (ae (bc (dM (iA (pv 2)))
     (ae (ax (i:=2) vk.nd rfl (Or.inl rfl) (eL (aa (aM (r:=cm K) bo (pv 0) af (λ_ _=>rfl))
      (aa (az G hr rfl mO F.kp bO .nil aw (aa (aM (r:=cm K) bo (pv 0) af (λ_ _=>rfl)) (aa (pv 1) ab)))
      (aa (az G hr rfl mO F.kp bO .nil aw (aa (aM (r:=cm K) bo (pv 0) af (λ_ _=>rfl)) (aa (pv 1) ab))) ab)))))
     (aq (qa tY (pv 1) (pv 0) (pv 2) rfl))) aN)
    (aq (aJ (pv 2)))))),?_⟩
   have dc:∀{u:V},aX H (neg t) u->Q u H:=λhu=>kk _ L H (bf.refl _ _) hN (by omega) (λp hp=>.inl hp) hu
   cases t with
   | leaf c=>
    cases (show v=.bl c from hv)
    cases c
    . refine ⟨_,rfl,.inl ⟨_,rfl,_,rfl,aY rfl ?_⟩⟩
      exact ⟨_,rfl,.inl ⟨_,rfl,_,rfl,bQ rfl (dc rfl)⟩⟩
    . exact ⟨_,rfl,.inl ⟨_,rfl,_,rfl,bQ rfl (dc rfl)⟩⟩
   | node n l r=>
    obtain ⟨a,vl,vr,rfl,ha,hl,hR⟩:=hv
    have cT:de H (.node n l r) a:=⟨⟨a,vl,vr,rfl,ha,hl,hR⟩,d8,sk⟩
    have hsz:cA (.node n l r)=cA l+cA r+2:=rfl
    have vi:(Tr.node n l r).dep=max l.dep r.dep+1:=rfl
    refine ⟨_,rfl,.inr ⟨_,rfl,_,rfl,aY rfl ?_⟩⟩
    refine ⟨_,rfl,.inr ⟨_,rfl,_,rfl,aY rfl ?_⟩⟩
    refine ⟨_,rfl,kn,L,rfl,hN.at_,_,rfl,_,a,rfl,hN.at_,cT,λp hp=>(hN.ok p hp).1,?_⟩
    cases tZ:cR L (.node n l r) with
    | some u=>
     obtain ⟨b',hm⟩:=kI tZ
     have hu:=(hN.ok _ hm).2
     exact ⟨_,rfl,_,rfl,aY (decide_eq_false (aX.nn (t:=neg (.node n l r)) hu)) ⟨_,rfl,dc hu⟩⟩
    | none=>
     refine ⟨_,rfl,_,rfl,bQ rfl ?_⟩
     refine ⟨_,rfl,a,_,0,_,rfl,rfl,ba.of ha,aF (j:=0) rfl,?_⟩
     refine ⟨_,rfl,a,_,1,_,rfl,rfl,ba.of ha,aF (j:=1) rfl,_,rfl,?_⟩
     refine ⟨vl,kn,L,l,b,rfl,hN,hl,by omega,sk.2.1,by omega,hB,by omega,λu1 L1 H1 k1 N1 B1 x1 r1=>?_⟩
     have c1:=qr hN.at_ k1
     refine ⟨_,rfl,a,_,2,_,rfl,rfl,ba.of (c1 _ _ ha),aF (j:=2) rfl,_,rfl,?_⟩
     refine ⟨vr,kn,L1,r,b+cA l,rfl,N1,hR.keep c1,by omega,sk.2.2,by omega,B1,by omega,λu2 L2 H2 k2 N2 B2 x2 r2=>?_⟩
     have c2:=qr N1.at_ k2
     refine ⟨(by show 3<=sizeLine; decide),λq hq=>?_⟩
     have s3:ao H2 (upd H2 q (.tup [.str n,u1,u2])):=ao.aA hq
     have q3:(upd H2 q (.tup [.str n,u1,u2])) q=some (.tup [.str n,u1,u2]):=ag
     show dq _ _ _ _ (upd H2 q (.tup [.str n,u1,u2]))
     generalize upd H2 q (.tup [.str n,u1,u2])=H3 at s3 q3 ⊢
     have hT:aX H3 (neg (.node n l r)) (.ref q):=⟨q,u1,u2,rfl,q3,(r1.keep c2).keep (bF s3),r2.keep (bF s3)⟩
     have kL:de H3 (.node n l r) a:=((cT.keep c1).keep c2).keep (bF s3)
     have d4:cR L2 (.node n l r)=none:=kJ λp hp z=>by
      rcases x2 p hp with hp | hp
      . rcases x1 p hp with hp | hp
        . exact oo tZ p hp z
        . rw [z] at hp
          omega
      . rw [z] at hp
        omega
     refine ⟨_,rfl,_,rfl,_,rfl,kn,L2,_,a,rfl,rfl,s3 _ _ N2.at_,kL,λp hp=>(N2.ok p hp).1.keep (bF s3),d4,big (by omega),?_⟩
     have c4:∀a' xs,H3 a'=some (.tup xs)->(upd H3 kn (dF P w kn (L2++[(.node n l r,a,.ref q)]))) a'=some (.tup xs):=λa' xs e=>by rw [ai (cC e (s3 _ _ N2.at_) (by intro z; cases z))]; exact e
     refine ⟨_,rfl,kk (.ref q) (L2++[(.node n l r,a,.ref q)]) _ (λb' o' ki nb=>?_) ⟨ag,λp hp=>?_⟩ (by rw [List.length_append]; show L2.length+1<=_; omega) (λp hp=>?_) (hT.keep c4)⟩
     . rw [ai nb]
       exact s3 _ _ (k2 _ _ (k1 _ _ ki nb) nb)
     . rcases List.mem_append.mp hp with hp | hp
       . exact ⟨((N2.ok p hp).1.keep (bF s3)).keep c4,((N2.ok p hp).2.keep (bF s3)).keep c4⟩
       . rw [List.mem_singleton] at hp
         subst hp
         exact ⟨kL.keep c4,hT.keep c4⟩
     . rcases List.mem_append.mp hp with hp | hp
       . rcases x2 p hp with hp | hp
         . rcases x1 p hp with hp | hp
           . exact .inl hp
           . exact .inr (by omega)
         . exact .inr (by omega)
       . rw [List.mem_singleton] at hp
         subst hp
         exact .inr (Nat.le_refl _)
theorem Bf:aQ ["tree"] ["tree"] (aj lJ):=⟨rfl,rfl,rfl,by decide +kernel,rfl,by decide +kernel,by decide +kernel⟩
theorem zi {f fB:Addr}{fd dB:FuncData}{k:Nat}(F:bY K "opposite" "opposite" lJ f fd) (G:av P w K mg base aH k fB dB kX (jh P w 9)) (mO:mg "opposite_by" = some (.ref fB)) (kO:W.keepIn K (.ref fB)=true) (bO:Binds K dB kX []):av P w K mg base aH (k+1) f fd ["tree"] rC:=by
 refine F.ok Bf (λvs H Q E h=>?_) (λcdv A outer s H vs Q E hr h=>?_)
 . obtain ⟨v,t,rfl,_⟩:=h
   rfl
 . obtain ⟨v,t,rfl,hv,d8,sk,kk⟩:=h
   refine ⟨_,aq (aJ (az G hr rfl mO kO bO .nil aw (aa (pv 0) (aa n9 ab)))),?_⟩
   refine ⟨_,rfl,λkn C7=>?_⟩
   have z:=h9 d8
   have s0:ao H (upd H kn (dF P w kn [])):=ao.aA C7
   refine ⟨v,kn,[],t,0,rfl,⟨ag,λ_ h=>nomatch h⟩,hv.keep (bF s0),d8,sk,by omega,Nat.le_refl _,by omega,λu L' H' k1 _ _ _ r1=>kk u H' (λb o hb=>k1 _ _ (s0 _ _ hb) (ah hb C7)) r1⟩
end
end Gen
namespace Gen
open PySem L2
abbrev fX:Stmt:=top 13
abbrev fZ:Stmt:=top 14
def bV (b:Bool):V:=.int (if b=true then 1 else 0)
def cn:List Str->List Bool->Tr
 | [],bs=>.leaf (bs.headD false)
 | n::r,bs=>if cn r (bs.take (bs.length / 2))=cn r (bs.drop (bs.length / 2)) then cn r (bs.take (bs.length / 2)) else .node n (cn r (bs.take (bs.length / 2))) (cn r (bs.drop (bs.length / 2)))
theorem lK (n:Str) (r:List Str) (bs:List Bool):cn (n::r) bs=if cn r (bs.take (bs.length / 2))=cn r (bs.drop (bs.length / 2)) then cn r (bs.take (bs.length / 2)) else .node n (cn r (bs.take (bs.length / 2))) (cn r (bs.drop (bs.length / 2))):=rfl
theorem cj:∀(names:List Str) (bs:List Bool),bJ names (cn names bs)
 | [],bs=>.leaf _ _
 | n::r,bs=>by
  rw [lK]
  by_cases e:cn r (bs.take (bs.length / 2))=cn r (bs.drop (bs.length / 2))
  . rw [if_pos e]
    exact .skip (cj r _)
  . rw [if_neg e]
    exact .node e (cj r _) (cj r _)
theorem kY (e:Str->Bool) (n:Str) (r:List Str) (bs:List Bool):ev e (cn (n::r) bs)=if e n=true then ev e (cn r (bs.drop (bs.length / 2))) else ev e (cn r (bs.take (bs.length / 2))):=by
 rw [lK]
 by_cases q:cn r (bs.take (bs.length / 2))=cn r (bs.drop (bs.length / 2))
 . rw [if_pos q,q]
   split <;> rfl
 . rw [if_neg q]
   rfl
theorem jT (n:Nat):2 ^ (n+1) / 2=2 ^ n:=by rw [Nat.pow_succ]; omega
theorem kZ (f:Bool->Bool->Bool) (e:Str->Bool):∀(names:List Str) (bs cs:List Bool),bs.length=2 ^ names.length->cs.length=2 ^ names.length->ev e (cn names (List.zipWith f bs cs))=f (ev e (cn names bs)) (ev e (cn names cs))
 | [],bs,cs,h1,h2=>by
  match bs,cs,h1,h2 with
  | [b],[c],_,_=>rfl
 | n::r,bs,cs,h1,h2=>by
  rw [List.length_cons] at h1 h2
  have hl:(List.zipWith f bs cs).length=bs.length:=by rw [List.length_zipWith,h1,h2,Nat.min_self]
  have hp:=jT r.length
  have hq:=Nat.pow_succ 2 r.length
  rw [kY,kY,kY,hl,h1,h2,hp,List.drop_zipWith,List.take_zipWith]
  have i1:=kZ f e r (bs.drop (2 ^ r.length)) (cs.drop (2 ^ r.length)) (by rw [List.length_drop]; omega) (by rw [List.length_drop]; omega)
  have i2:=kZ f e r (bs.take (2 ^ r.length)) (cs.take (2 ^ r.length)) (by rw [List.length_take]; omega) (by rw [List.length_take]; omega)
  rw [i1,i2]
  split <;> rfl
theorem oH (e:Str->Bool):∀(names:List Str) (bs:List Bool),bs.length=2 ^ names.length->ev e (cn names (bs.map not)) = !ev e (cn names bs)
 | [],bs,h1=>by
  match bs,h1 with
  | [b],_=>rfl
 | n::r,bs,h1=>by
  rw [List.length_cons] at h1
  have hp:=jT r.length
  have hq:=Nat.pow_succ 2 r.length
  rw [kY,kY,List.length_map,h1,hp,← List.map_drop,← List.map_take]
  have i1:=oH e r (bs.drop (2 ^ r.length)) (by rw [List.length_drop]; omega)
  have i2:=oH e r (bs.take (2 ^ r.length)) (by rw [List.length_take]; omega)
  rw [i1,i2]
  split <;> rfl
def eE (d:Nat):Sp:=λvs H Q _=>∃(u v:V) (t t':Tr),vs=[u,v]/\aX H t u/\aX H t' v/\t.dep<d/\Q (.bl (decide (t=t'))) H
section
variable {P:Program}{w:World}{K:W.Frag}{mg:Str->Option Value}{base:Heap}
abbrev gb:List Str:=["_law_found", "_law_due"]
theorem EZ:aQ gb gb (aj fZ):=⟨rfl,rfl,rfl,by decide +kernel,rfl,by decide +kernel,by decide +kernel⟩
theorem oI {f:Addr}{fd:FuncData}{d k:Nat}(F:bY K "_law_same_tree" "_law_same_tree" fZ f fd) (T:fQ mg) (G:av P w K mg base aH k f fd gb (eE d)) (mS:mg "_law_same_tree" = some (.ref f)) (bS:Binds K fd gb []):av P w K mg base aH (k+1) f fd gb (eE (d+1)):=by
 refine F.ok EZ (λvs H Q E h=>?_) (λcdv A outer s H vs Q E hr h=>?_)
 . obtain ⟨u,v,t,t',rfl,_⟩:=h
   rfl
 . obtain ⟨u,v,t,t',rfl,hu,hv,hd,kk⟩:=h
   refine ⟨_,ae (bc (PW.pt (iZ (cS (aO cM (by rfl) T.isi PyProof.Rows.boot_isinstance (aa (pv 1) (aa (fj (v:=.ty "bool") (by rfl) T.bool PyProof.Rows.boot_bool rfl) ab))))
    (jW (cS (aO cM (by rfl) T.isi PyProof.Rows.boot_isinstance (aa (pv 0) (aa (fj (v:=.ty "bool") (by rfl) T.bool PyProof.Rows.boot_bool rfl) ab)))))))
    (aq (aJ (jX (aO cM (by rfl) T.isi PyProof.Rows.boot_isinstance (aa (pv 1) (aa (fj (v:=.ty "bool") (by rfl) T.bool PyProof.Rows.boot_bool rfl) ab)))
     (jX (aO cM (by rfl) T.isi PyProof.Rows.boot_isinstance (aa (pv 0) (aa (fj (v:=.ty "bool") (by rfl) T.bool PyProof.Rows.boot_bool rfl) ab))) (mV (i0 di (pv 0) (pv 1) (bp _))))))) aN)
    (ae (bc (PW.pt (iZ (eJ (cS (aO cM (by rfl) T.isi PyProof.Rows.boot_isinstance (aa (pv 0) (aa (fj (v:=.ty "tuple") (by rfl) T.tuple PyProof.Rows.boot_tuple rfl) ab)))))
     (iZ (bq vO (aO aP (by rfl) T.len PySem.boot_len (aa (pv 0) ab)) af (bp _))
     (iZ (eJ (cS (aO cM (by rfl) T.isi PyProof.Rows.boot_isinstance (aa (aM (r:=cm K) bo (pv 0) af (λ_ _=>rfl)) (aa (fj (v:=.ty "str") (by rfl) T.str PyProof.Rows.boot_str rfl) ab)))))
     (jW (bq vO (aM (r:=cm K) bo (pv 0) af (λ_ _=>rfl)) (aM (r:=cm K) bo (pv 1) af (λ_ _=>rfl)) (bp _)))))))
     (aq (aJ dJ)) aN)
    (aq (aJ (jX (az G hr rfl mS F.kp bS .nil aw (aa (aM (r:=cm K) bo (pv 0) af (λ_ _=>rfl)) (aa (aM (r:=cm K) bo (pv 1) af (λ_ _=>rfl)) ab)))
     (mV (az G hr rfl mS F.kp bS .nil aw (aa (aM (r:=cm K) bo (pv 0) af (λ_ _=>rfl)) (aa (aM (r:=cm K) bo (pv 1) af (λ_ _=>rfl)) ab)))))))),?_⟩
   have fin:∀{b:Bool},(b=true ↔ t=t')->Q (.bl b) H:=λ{b} hb=>by
    rw [show b=decide (t=t') by rw [Bool.eq_iff_iff,hb,decide_eq_true_iff]]
    exact kk
   cases t' with
   | leaf c'=>
    cases (show v=.bl c' from hv)
    refine ⟨_,rfl,_,_, "bool",true,rfl,.bl _,rfl,_,rfl,lC (lC ?_)⟩
    refine ⟨_,rfl,_,_, "bool",true,rfl,.bl _,rfl,_,rfl,lC ?_⟩
    cases t with
    | leaf c=>
     cases (show u=.bl c from hu)
     refine ⟨_,rfl,_,_, "bool",true,rfl,.bl _,rfl,_,rfl,lC ⟨_,rfl,_,rfl,rfl,fin ?_⟩⟩
     rw [decide_eq_true_iff]
     exact ⟨λz=>(by cases z; rfl),λz=>(by cases z; rfl)⟩
    | node n l r=>
     obtain ⟨a,vl,vr,rfl,ha,_,_⟩:=hu
     exact ⟨_,rfl,_,_, "bool",false,rfl,.tup ha,rfl,_,rfl,gp (fin ⟨λz=>(by cases z),λz=>(by cases z)⟩)⟩
   | node n' l' r'=>
    obtain ⟨a',Ic,Ie,rfl,um,ko,yL⟩:=hv
    refine ⟨_,rfl,_,_, "bool",false,rfl,.tup um,rfl,_,rfl,gp ?_⟩
    cases t with
    | leaf c=>
     cases (show u=.bl c from hu)
     refine ⟨_,rfl,_,_, "bool",true,rfl,.bl _,rfl,_,rfl,lC ?_⟩
     exact ⟨_,rfl,_,_, "bool",false,rfl,.tup um,rfl,_,rfl,gp (fin ⟨λz=>(by cases z),λz=>(by cases z)⟩)⟩
    | node n l r=>
     obtain ⟨a,vl,vr,rfl,ha,hl,hR⟩:=hu
     have vi:(Tr.node n l r).dep=max l.dep r.dep+1:=rfl
     refine ⟨_,rfl,_,_, "bool",false,rfl,.tup ha,rfl,_,rfl,gp ?_⟩
     refine ⟨_,rfl,_,_, "tuple",true,rfl,.tup ha,rfl,_,rfl,gp ?_⟩
     refine ⟨_,rfl,a,_,rfl,.inr (ba.of ha),rfl,_,rfl,gp ?_⟩
     refine ⟨_,rfl,a,_,0,_,rfl,rfl,ba.of ha,aF (j:=0) rfl,_,_, "str",true,rfl,.str n,rfl,_,rfl,gp ?_⟩
     refine ⟨_,rfl,a,_,0,_,rfl,rfl,ba.of ha,aF (j:=0) rfl,_,rfl,a',_,0,_,rfl,rfl,ba.of um,aF (j:=0) rfl,rfl,_,rfl,?_⟩
     by_cases en:n=n'
     . subst en
       refine aY (by rw [decide_eq_true rfl]; rfl) ?_
       refine ⟨_,rfl,a,_,1,_,rfl,rfl,ba.of ha,aF (j:=1) rfl,_,rfl,a',_,1,_,rfl,rfl,ba.of um,aF (j:=1) rfl,_,_,l,l',rfl,hl,ko,by omega,_,rfl,?_⟩
       by_cases el:l=l'
       . subst el
         refine bQ (decide_eq_true rfl) ?_
         refine ⟨_,rfl,a,_,2,_,rfl,rfl,ba.of ha,aF (j:=2) rfl,_,rfl,a',_,2,_,rfl,rfl,ba.of um,aF (j:=2) rfl,_,_,r,r',rfl,hR,yL,by omega,fin ?_⟩
         rw [decide_eq_true_iff]
         exact ⟨λz=>(by rw [z]),λz=>(by injection z)⟩
       . refine aY (decide_eq_false el) (fin ?_)
         exact ⟨λz=>(nomatch z),λz=>absurd (by injection z) el⟩
     . refine bQ (by rw [decide_eq_false (λz=>en (V.str.inj z))]; rfl) (fin ⟨λz=>(nomatch z),λz=>absurd (by injection z) en⟩)
def gF (d:Nat):Sp:=λvs H Q _=>∃(p q:Addr) (names:List Str) (bs:List Bool),vs=[.ref p,.ref q]/\H p=some (.lst (names.map V.str))/\H q=some (.lst (bs.map bV))/\names.length<d/\names.length<=8/\bs.length=2 ^ names.length/\
 ∀(v:V) (H':Hp),ao H H'->aX H' (cn names bs) v->Q v H'
abbrev Jb:List Str:=["_law_names", "_law_bits_here", "_law_half", "_law_low", "_law_high"]
abbrev ju:List Str:=["_law_names", "_law_bits_here"]
theorem rD:aQ Jb ju (aj fX):=⟨rfl,rfl,rfl,by decide +kernel,rfl,by decide +kernel,by decide +kernel⟩
theorem oJ {xs:List V}{k:Nat}(h:k<=xs.length):cy xs (some (k:Int)) none=xs.drop k:=by
 unfold cy
 rw [HT.pM,HT.nz,Nat.min_eq_left h]
 exact List.take_of_length_le (by rw [List.length_drop]; exact Nat.le_refl _)
theorem zj {xs:List V}{k:Nat}(h:k<=xs.length):cy xs none (some (k:Int))=xs.take k:=by
 unfold cy
 rw [HT.pM,HT.nz,Nat.min_eq_left h]
 rfl
theorem vm {f fS:Addr}{fd dS:FuncData}{d k:Nat}(F:bY K "_law_canon" "_law_canon" fX f fd) (O2:fQ mg) (G:av P w K mg base aH (k+9) f fd ju (gF d)) (mC:mg "_law_canon" = some (.ref f)) (bC:Binds K fd ju [])
 (gS:av P w K mg base aH 9 fS dS gb (eE 9)) (mS:mg "_law_same_tree" = some (.ref fS)) (kS:W.keepIn K (.ref fS)=true) (bS:Binds K dS gb []):av P w K mg base aH (k+9+1) f fd ju (gF (d+1)):=by
 refine F.ok rD (λvs H Q E h=>?_) (λcdv A outer s H vs Q E hr h=>?_)
 . obtain ⟨p,q,names,bs,rfl,_⟩:=h
   rfl
 . obtain ⟨p,q,names,bs,rfl,hp,hq,hd,n8,hlen,kk⟩:=h
   have hu:=i8 hr
   have Jc:=hr.mono (Nat.le_add_left 9 k)
   refine ⟨_,ae (bc (bq (yK (Nat.lt_of_succ_lt hu)) (pv 0) (dW ab) (bp _)) (aq (aJ (i0 di (aM (r:=eg K) br (pv 1) af (λ_ _=>rfl)) af (bp _)))) aN)
    (ae (ax (i:=2) rD.nd rfl (Or.inl rfl) (aG gu (aO aP (by rfl) O2.len PySem.boot_len (aa (pv 1) ab)) af))
    (ae (ax (i:=3) rD.nd rfl (Or.inl rfl) (az G hr rfl mC F.kp bC .nil aw (aa (cF gv (pv 0) (cK af) dv) (aa (cF gv (pv 1) dv (cK (pv 2))) ab))))
    (ae (ax (i:=4) rD.nd rfl (Or.inl rfl) (az G hr rfl mC F.kp bC .nil aw (aa (cF gv (pv 0) (cK af) dv) (aa (cF gv (pv 1) (cK (pv 2)) dv) ab))))
    (ae (bc (cS (az gS Jc rfl mS kS bS .nil aw (aa (pv 3) (aa (pv 4) ab)))) (aq (aJ (pv 3))) aN)
    (aq (aJ (eL (aa (aM (r:=eg K) br (pv 0) af (λ_ _=>rfl)) (aa (pv 3) (aa (pv 4) ab)))))))))),?_⟩
   refine ⟨_,rfl,(by show 0<=sizeLine; decide),λe0 Jd=>?_⟩
   have s1:ao H (upd H e0 (.lst [])):=ao.aA Jd
   have q1:(upd H e0 (.lst [])) e0=some (.lst []):=ag
   generalize upd H e0 (.lst [])=H1 at s1 q1 ⊢
   refine ⟨p,e0,_,rfl,rfl,ay.of (s1 _ _ hp),ay.of q1,_,rfl,?_⟩
   cases names with
   | nil=>
    match bs,hlen with
    | [b],_=>
     refine bQ rfl ⟨_,rfl,q,_,0,_,rfl,rfl,ay.of (s1 _ _ hq),aF (j:=0) rfl,rfl,kk _ H1 s1 ?_⟩
     cases b <;> rfl
   | cons n r=>
    rw [List.length_cons] at hd n8 hlen
    have Je:=jT r.length
    have LQ:=Nat.pow_succ 2 r.length
    have hh:bs.length / 2=2 ^ r.length:=by rw [hlen,Je]
    refine aY rfl ⟨_,rfl,q,_,rfl,.inl (ay.of (s1 _ _ hq)),_,_,rfl,rfl,⟨by decide,by decide⟩,?_⟩
    have eh:V.int ((((bs.map bV).length:Nat):Int) / 2)=V.int ((2 ^ r.length:Nat):Int):=by rw [List.length_map,← hh]; rfl
    show cD 2 (V.int ((((bs.map bV).length:Nat):Int) / 2)) _ _ _
    rw [eh]
    have hle:2 ^ r.length<=(bs.map bV).length:=by rw [List.length_map]; omega
    have n1:cy ((n::r).map V.str) (some 1) none=r.map V.str:=oJ (k:=1) (by rw [List.length_map,List.length_cons]; omega)
    have C8:r.length<=8:=by omega
    refine ⟨_,rfl,_,rfl,p,_,rfl,ay.of (s1 _ _ hp),λp2 iI=>?_⟩
    rw [n1]
    have s2:ao H1 (upd H1 p2 (.lst (r.map V.str))):=ao.aA iI
    have q2:(upd H1 p2 (.lst (r.map V.str))) p2=some (.lst (r.map V.str)):=ag
    show mq _ _ _ (upd H1 p2 (.lst (r.map V.str))) _
    generalize upd H1 p2 (.lst (r.map V.str))=H2 at s2 q2 ⊢
    have mf:=s1.trans s2
    refine ⟨_,rfl,_,rfl,_,rfl,q,_,rfl,ay.of (mf _ _ hq),λb2 Jf=>?_⟩
    rw [zj hle,← List.map_take]
    have s3:ao H2 (upd H2 b2 (.lst ((bs.take (2 ^ r.length)).map bV))):=ao.aA Jf
    have q3:(upd H2 b2 (.lst ((bs.take (2 ^ r.length)).map bV))) b2=some (.lst ((bs.take (2 ^ r.length)).map bV)):=ag
    refine ⟨p2,b2,r,bs.take (2 ^ r.length),rfl,s3 _ _ q2,q3,by omega,C8,by rw [List.length_take]; omega,λv1 H4 s4 r1=>?_⟩
    have uo:=(mf.trans s3).trans s4
    refine ⟨_,rfl,_,rfl,p,_,rfl,ay.of (uo _ _ hp),λp5 tQ=>?_⟩
    rw [n1]
    have s5:ao H4 (upd H4 p5 (.lst (r.map V.str))):=ao.aA tQ
    have q5:(upd H4 p5 (.lst (r.map V.str))) p5=some (.lst (r.map V.str)):=ag
    show mq _ _ _ (upd H4 p5 (.lst (r.map V.str))) _
    generalize upd H4 p5 (.lst (r.map V.str))=H5 at s5 q5 ⊢
    have Jg:=uo.trans s5
    refine ⟨_,rfl,_,rfl,_,rfl,q,_,rfl,ay.of (Jg _ _ hq),λb6 Jh=>?_⟩
    rw [oJ hle,← List.map_drop]
    have s6:ao H5 (upd H5 b6 (.lst ((bs.drop (2 ^ r.length)).map bV))):=ao.aA Jh
    have q6:(upd H5 b6 (.lst ((bs.drop (2 ^ r.length)).map bV))) b6=some (.lst ((bs.drop (2 ^ r.length)).map bV)):=ag
    refine ⟨p5,b6,r,bs.drop (2 ^ r.length),rfl,s6 _ _ q5,q6,by omega,C8,by rw [List.length_drop]; omega,λv2 H7 s7 r2=>?_⟩
    have C9:=(s5.trans s6).trans s7
    have ur:=uo.trans C9
    have zk:=r1.keep (bF C9)
    have c1:=bG (cj r (bs.take (2 ^ r.length)))
    refine ⟨_,rfl,_,rfl,_,_,_,_,rfl,zk,r2,by omega,_,rfl,?_⟩
    have ec:=lK n r bs
    rw [hh] at ec
    by_cases e:cn r (bs.take (2 ^ r.length))=cn r (bs.drop (2 ^ r.length))
    . refine bQ (decide_eq_true e) ⟨_,rfl,kk v1 H7 ur ?_⟩
      rw [ec,if_pos e]
      exact zk
    . refine aY (decide_eq_false e) ?_
      refine ⟨_,rfl,p,_,0,_,rfl,rfl,ay.of (ur _ _ hp),aF (j:=0) rfl,_,rfl,_,rfl,(by show 3<=sizeLine; decide),λt ht=>?_⟩
      have s8:ao H7 (upd H7 t (.tup [.str n,v1,v2])):=ao.aA ht
      refine kk (.ref t) _ (ur.trans s8) ?_
      rw [ec,if_neg e]
      exact ⟨t,v1,v2,rfl,ag,zk.keep (bF s8),r2.keep (bF s8)⟩
end
end Gen
namespace PySem
section
theorem uu:typeLookup (.type "list_reverseiterator") "__len__" = pure none:=by rw [typeLookup_type,builtinLookup_eq_fast]; kernel_rfl
theorem vn:typeLookup (.type "list_reverseiterator") "__length_hint__" = pure (some (.builtin "list_reverseiterator.__length_hint__")):=by rw [typeLookup_type,builtinLookup_eq_fast]; kernel_rfl
variable {prog:Program}{w:World}{A:Around}{s:Shared}{R:Result->Shared->Prop}
variable {I:Addr}{fp wr:List Addr}{G:Array GenState->Array GenState->Prop}{n:Nat}{P:Nat->Value->Prop}{St:Nat->Shared->Prop}
theorem rE (W:WalksS prog w A.in1 I fp wr G n P St) (hT:∀i s,St i s->s.TypeIs (.ref I) "list_reverseiterator") (S:Addr) (res:Value) (c₀:Nat) (gd:St 0 s) (oK:S∉fp) (hI:I∈fp)
 (hS:s.heap.get? S=some { cls:=.type "list",data:=.seq #[] c₀ })
 (hR:∀s' cv c',Moved (S::wr) G s s'->s'.heap.get? S=some { cls:=.type "list",dict:=none,data:=.seq cv c',slots:=#[] } -> ItemsOf P cv n->R (.ok (.ret res)) s') (hn:n<=sizeLine) :
 wpAny (model prog w) A.in1 (Builtin.List.listExtendWith (.ref S) (.ref I) res)
  (λfin s'=>match fin with | .done f=>R (.ok f) s' | .again c'=>c'.quiet=true/\codeAny (model prog w) A c' R s') (λe s'=>R (.error e) s') s:=by
 have Ji:S≠I:=λe=>oK (e ▸ hI)
 unfold Builtin.List.listExtendWith
 refine wpAny_bind (wpAny_typeOf (hT 0 _ gd) ?_)
 have h1:Builtin.List.listSameRef (.ref S) (.ref I)=false:=by simp [Builtin.List.listSameRef,Ji]
 have h2:(Value.type "list_reverseiterator" == Value.type "list")=false:=by decide
 have h3:(Value.type "list_reverseiterator" == Value.type "tuple")=false:=by decide
 rw [if_neg (by rw [h1]; decide)]
 refine wpAny_bind (W.self 0 _ _ _ gd ?_)
 refine wpAny_bind (wpAny_holding ?_)
 unfold Builtin.List.listLengthHint
 refine wpAny_bind (wpAny_specialOf (hT 0 _ gd) uu ?_)
 show wpAny _ A.in1 (specialOf (Value.ref I) (Str.ofString "__length_hint__") >>= _) _ _ _
 refine wpAny_bind (wpAny_specialOf (hT 0 _ gd) vn ?_)
 generalize Dc:("list_reverseiterator.__length_hint__" : String)=Jj
 wp_delta
 rw [show splitId Jj=some ("list_reverseiterator", "__length_hint__") from by subst Dc; decide +kernel]
 subst Dc
 refine wpAny_bind (wpAny_isInstance (b:=true) (hT 0 _ gd) (by rw [isSubtype_type]; kernel_rfl) ?_)
 refine wpAny_pure ?_
 rw [if_neg (by decide)]
 exact wpAny_pure ⟨plainId_quiet F.plain_extend_loop _,codeAny_extend_loopS W hn _ oK _ n 0 _ _ _ rfl (Nat.zero_le _) gd hS (ItemsOf.nil P) λs' cv c' hm oM hX=>hR s' cv c' hm oM hX⟩
theorem vo (W:WalksS prog w A.in1 I fp wr G n P St) (hT:∀i s,St i s->s.TypeIs (.ref I) "list_reverseiterator") (S:Addr) (gd:St 0 s) (oK:S∉fp) (hI:I∈fp)
 (hS:s.heap.get? S=some { cls:=.type "list",data:=.seq #[] })
 (hR:∀s' cv c',Moved (S::wr) G s s'->s'.heap.get? S=some { cls:=.type "list",dict:=none,data:=.seq cv c',slots:=#[] } -> ItemsOf P cv n->R (.ok (.ret .none)) s') (hn:n<=sizeLine) :
 wpAny (model prog w) A.in1 (Builtin.«list.__init__» ⟨[.ref S,.ref I],[]⟩)
  (λfin s'=>match fin with | .done f=>R (.ok f) s' | .again c'=>c'.quiet=true/\codeAny (model prog w) A c' R s') (λe s'=>R (.error e) s') s:=by
 show wpAny _ A.in1 (do let old ← Builtin.List.listItems (.ref S); Builtin.List.listUpdate (.ref S) (λ_=>#[]); letGo old.toList.reverse; Builtin.List.listExtendWith (.ref S) (.ref I) .none) _ _ s
 refine wpAny_bind ?_
 unfold Builtin.List.listItems
 refine wpAny_bind (wpAny_seqItems hS rfl (wpAny_pure ?_))
 show wpAny _ A.in1 (updateSeq S (λ_=>#[]) >>= λ_=>letGo (#[]:Array Value).toList.reverse >>= λ_=>Builtin.List.listExtendWith (.ref S) (.ref I) .none) _ _ s
 refine wpAny_bind (wpAny_updateSeq hS rfl ?_)
 have Jk:=Heap.get?_update_self (Obj.mapSeq (λ_=>(#[]:Array Value))) hS rfl
 have De:∀b o,b≠S->s.heap.get? b=some o->(s.heap.update S (Obj.mapSeq (λ_=>(#[]:Array Value)))).get? b=some o:=
  λb o hb e=>(Heap.get?_update_other _ _ (Ne.symm hb)).trans e
 refine wpAny_bind (wpAny_letGo ?_)
 refine rE W hT S .none _ (W.frame 0 s _ s.toks gd (Nat.le_refl _) λb hb o e=>De b o (λh=>oK (h ▸ hb)) e) oK hI Jk (λs' cv c' hm oM hX=>?_) hn
 exact hR s' cv c' (Moved.trans W.gtrans ((Moved.refl W.grefl).then_heap (Nat.le_refl _) λb o hb e=>De b o (λh=>hb (h ▸ List.mem_cons_self)) e) hm) oM hX
theorem vp {E:Value->Shared->Prop}{Q:Value->Shared->Prop}(W:WalksS prog w A.in1.in1 I fp wr G n P St) (hT:∀i s,St i s->s.TypeIs (.ref I) "list_reverseiterator") (gd:St 0 s) (Jl:∀b∈fp,b<s.heap.objs.size) (hI:I∈fp)
 (hQ:∀s' cv c',Moved (s.heap.objs.size::wr) G { s with heap:=s.heap.push { cls:=.type "list",data:=.seq #[] } } s'->
  s'.heap.get? s.heap.objs.size=some { cls:=.type "list",dict:=none,data:=.seq cv c',slots:=#[] } -> ItemsOf P cv n->Q (.ref s.heap.objs.size) s') (hn:n<=sizeLine) :
 wpAny (model prog w) A (call (.type "list") [.ref I]) Q E s:=by
 have oK:s.heap.objs.size∉fp:=λhm=>Nat.lt_irrefl _ (Jl _ hm)
 refine callType_codes (Q₁:=λobj bw=>obj=.ref s.heap.objs.size/\bw = { s with heap:=s.heap.push { cls:=.type "list",data:=.seq #[] } }) F.called_list (F.typeCall_list_1 _) F.entry_list_init
  (code_list_new _ ⟨rfl,rfl⟩) λobj bw gY=>?_
 obtain ⟨rfl,rfl⟩:=gY
 have hS:(s.heap.push { cls:=.type "list",data:=.seq #[] }).get? s.heap.objs.size=some { cls:=.type "list",data:=.seq #[] }:=Heap.get?_push_size _ rfl
 refine ⟨⟨_,hS,rfl⟩,F.args_list_init_2 _ _,vo W hT _ (W.frame 0 s _ s.toks gd (Nat.le_refl _) λb _ o e=>Heap.get?_push_of_some _ e) oK hI hS (λs' cv c' hm oM hX=>?_) hn⟩
 exact ⟨rfl,hQ s' cv c' hm oM hX⟩
end
end PySem
namespace L2
open PySem PySem.Spec PyProof.Rows
section
variable {X:Cx}
theorem oN:∀{xs:List V}{us:List Value},Vals xs us->Vals xs.reverse us.reverse
 | _,_,.nil=>.nil
 | _,_,.cons h t=>by
  rw [List.reverse_cons,List.reverse_cons]
  exact (oN t).append (.cons h .nil)
def E1 (K:W.Frag) (ta:TA):TE:=λσ H Q=>ta σ H λvs H1=>∃p ys,vs=[.ref p]/\ay K H1 p ys/\∀l,H1 l=none->Q (.ref l) (upd H1 l (.lst ys.reverse))
theorem zm {a:Expr}{ta:TA}{p1 p2 pos oP:Pos}(Jm:Gl X "list") (Jn:X.mg "list" = none) (Jo:Gl X "reversed") (Jp:X.mg "reversed" = none) (hc:X.calm=true) (ha:PA X [a] ta)
 (hs:starEach [Expr.Call (.Name "reversed" p2) [a] [] oP] X.env=(false,eval (Expr.Call (.Name "reversed" p2) [a] [] oP) X.env)::starEach [] X.env:=by rfl) (ig:(backTo pos (starEach [] X.env)).any (·.1)=false:=by rfl)
 (iD:starEach [a] X.env=(false,eval a X.env)::starEach [] X.env:=by rfl) (iI:(backTo oP (starEach [] X.env)).any (·.1)=false:=by rfl) :
 PE X (.Call (.Name "list" p1) [.Call (.Name "reversed" p2) [a] [] oP] [] pos) (E1 X.K ta):=by
 intro pins s σ H Q I h
 refine wpAny_Call_Name_kw (eI I Jm Jn PyProof.Rows.boot_list ?_ (by decide) (by decide))
 refine PyProof.Rows.callWith_type1 ?_ hs ig
 rw [hs]
 show wpAny _ _ (spliced ((false,eval _ X.env)::backTo pos (starEach [] X.env))) _ _ s
 refine Calls.spliced_cons ?_
 refine Call_ (eI I Jo Jp PyProof.Rows.boot_reversed (PyProof.Rows.callWith_type1 (aE (ha oP pins s σ H _ I h) λus s1 ⟨vs,H1,I1,r1,q1⟩=>?_) iD iI))
 obtain ⟨p,ys,e,hp,q⟩:=q1
 subst e
 obtain ⟨u,rfl,ru⟩:=vals1 r1
 cases (show u=Value.ref p from ru)
 obtain ⟨its,rv,pl,hz⟩:=I1.list hp
 have hl:=pl.isList
 have fF:p<s1.heap.objs.size:=by obtain ⟨_,e,_⟩:=hl; exact Heap.lt_size e
 refine call_reversed_list hl (Calls.spliced_nil ?_)
 have W:=Walks.listRev (prog:=X.prog) (w:=X.w) (A:=X.A.in1.in1) (by show X.A.handled=none; exact I1.ok.hd hc) s1.heap.objs.size p (Nat.ne_of_lt fF) its.toArray
 have hsz:(s1.heap.push (revObj p ((its.toArray.size:Int)-1))).objs.size=s1.heap.objs.size+1:=by simp [Heap.push]
 have hle:its.toArray.size<=sizeLine:=by rw [List.size_toArray,← rv.length]; exact hz
 refine vp W.toS (λi s x=>x.2.1.typeIs) ⟨Nat.zero_le _,⟨_,Heap.get?_push_size _ rfl,rfl,by simp [revObj]⟩,hl.at λo e=>Heap.get?_push_of_some _ e⟩ (λb hb=>?_) (by simp) (λs' cv c' hm oM hX=>?_) hle
 . show b<(s1.heap.push (revObj p ((its.toArray.size:Int)-1))).objs.size
   rw [hsz]
   simp only [List.mem_cons,List.not_mem_nil,or_false] at hb
   rcases hb with rfl | rfl
   . exact Nat.lt_succ_self _
   . exact Nat.lt_succ_of_lt fF
 . have hS'':s'.heap.get? (s1.heap.objs.size+1)=some { cls:=.type "list",dict:=none,data:=.seq cv c',slots:=#[] }:=by
    have:=oM
    rw [show (s1.heap.push (revObj p ((its.toArray.size:Int)-1))).objs.size=s1.heap.objs.size+1 from hsz] at this
    exact this
   have kk:∀b u,s1.heap.get? b=some u->s'.heap.get? b=some u:=λb u e=>by
    have hb:=Heap.lt_size e
    refine hm.heap b u (λvq=>?_) (Heap.get?_push_of_some _ (Heap.get?_push_of_some _ e))
    rcases List.mem_cons.mp vq with z | vq
    . exact absurd hb (by rw [z.trans hsz]; exact Nat.not_lt.mpr (Nat.le_succ _))
    . exact absurd hb (by rw [List.mem_singleton.mp vq]; exact Nat.lt_irrefl _)
   have ea:cv.toList=its.reverse:=by
    obtain ⟨i1,i2⟩:=hX
    have ix:cv.toList.length=its.length:=by rw [Array.length_toList,i1,List.size_toArray]
    refine List.ext_getElem (by rw [ix,List.length_reverse]) λj g1 g2=>?_
    have:=i2 j cv.toList[j] (by rw [← Array.getElem?_toList]; exact List.getElem?_eq_getElem g1)
    rw [List.size_toArray,List.getElem?_toArray] at this
    have hj:j<its.length:=by omega
    rw [List.getElem_reverse]
    rw [List.getElem?_eq_getElem (by omega)] at this
    exact (Option.some.inj this).symm
   have rr:Vals ys.reverse cv.toList:=by rw [ea]; exact oN rv
   rw [Moved.eq_with hm]
   refine ⟨.ref (s1.heap.objs.size+1),_,I1.laid (a:=s1.heap.objs.size+1) (t':=s'.toks) kk (Nat.le_succ _) (show aT X.prog X.w _ s'.heap _ (.lst ys.reverse) from ⟨by rw [List.length_reverse]; exact hz,cv.toList,c',rr,by simpa using hS''⟩),?_,q _ (I1.hok.fresh (Nat.le_succ _))⟩
   show Value.ref _=Value.ref _
   rw [hsz]
end
end L2
namespace Gen
open PySem L2
abbrev dh:Stmt:=top 15
abbrev fo:Stmt:=top 16
abbrev ji:Stmt:=top 17
abbrev fq:Stmt:=top 18
theorem zo (i:Int):∃b:Bool,V.int (Builtin.bitAnd i 1)=bV b:=by
 by_cases h:0<=i
 . refine ⟨decide (i.toNat % 2=1),?_⟩
   rw [PyProof.Rows.bitAnd_pp h (by decide),show (1:Int).toNat=1 from rfl,Nat.and_one_is_mod]
   unfold bV
   rcases Nat.mod_two_eq_zero_or_one i.toNat with e | e <;> rw [e] <;> rfl
 . refine ⟨decide ((Builtin.bitNot i).toNat % 2=0),?_⟩
   rw [PyProof.Rows.bitAnd_np h (by decide),show (1:Int).toNat=1 from rfl,Nat.and_comm,Nat.and_one_is_mod]
   unfold bV
   rcases Nat.mod_two_eq_zero_or_one (Builtin.bitNot i).toNat with e | e <;> rw [e] <;> rfl
theorem Bg (i:Int):∃d:Nat,d<2/\Builtin.bitAnd i 1=(d:Int):=by
 obtain ⟨b,h⟩:=zo i
 have:=V.int.inj h
 cases b
 . exact ⟨0,by decide,this⟩
 . exact ⟨1,by decide,this⟩
theorem xC {x:Str}(h:cP x):PyData.strOk x=true:=by
 unfold PyData.strOk
 rw [Array.all_eq_true']
 refine λc hc=>decide_eq_true ?_
 have:=jm.mp (h.2.2 c (Array.mem_toList_iff.mpr hc))
 omega
def oQ (K:W.Frag):Sp:=λvs H Q _=>∃(a:Addr) (ns:List Int) (k:Int),vs=[.ref a,.int k]/\ay K H a (ns.map V.int)/\0<=k/\k<=1000/\∀v:Int,Q (.int v) H
def uv:Sp:=λvs H Q _=>∃(x:Int) (n:Nat),vs=[.int x,.int (n:Int)]/\n<=8/\∀(q:Addr) (bs:List Bool) (H':Hp),ao H H'->H q=none->H' q=some (.lst (bs.map bV))->bs.length=2 ^ n->Q (.ref q) H'
def oR:Sp:=λvs H Q _=>∃(q:Addr) (bs:List Bool) (n:Nat),vs=[.ref q,.int (n:Int)]/\n<=8/\H q=some (.lst (bs.map bV))/\bs.length=2 ^ n/\∀(r:Addr) (cs:List Bool) (H':Hp),ao H H'->H r=none->H' r=some (.lst (cs.map bV))->cs.length=2 ^ n->Q (.ref r) H'
def qt (K:W.Frag):Sp:=λvs H Q _=>∃(a:Addr) (ns:List Int),vs=[.ref a]/\ay K H a (ns.map V.int)/\∀(l:Addr) (names:List Str) (H':Hp),ao H H'->H l=none->Ord H' l names->Q (.ref l) H'
theorem E2:(["_law_place", "_law_number_here"]:List Str).Nodup:=by decide +kernel
theorem E3:(["_law_place"]:List Str).Nodup:=by decide +kernel
theorem oS {n:Nat}(h:n<=8):2 ^ n<=256:=Nat.pow_le_pow_right (by decide) h
theorem pow_int (n:Nat):(1:Int)*2 ^ ((n:Int)).toNat=((2 ^ n:Nat):Int):=by rw [Int.one_mul,Int.toNat_natCast]; exact (Int.natCast_pow 2 n).symm
section
variable {P:Program}{w:World}{K:W.Frag}{mg:Str->Option Value}{base:Heap}
theorem rF:aQ ["_law_script", "_law_k", "_law_number_here"] ["_law_script", "_law_k"] (aj fo):=⟨rfl,rfl,rfl,by decide +kernel,rfl,by decide +kernel,by decide +kernel⟩
theorem uw {f fC fR:Addr}{fd dC dR:FuncData}(F:bY K "_law_number" "_law_number" fo f fd)
 (gC:av P w K mg base aH 1 fC dC ["_law_script", "_law_k"] (kq K)) (mC:mg "_law_cell_at" = some (.ref fC)) (kC:W.keepIn K (.ref fC)=true) (bC:Binds K dC ["_law_script", "_law_k"] [])
 (gR:av P w K mg base aH 2 fR dR ["_law_cell", "_law_k"] kr) (mR:mg "_law_rich" = some (.ref fR)) (kR:W.keepIn K (.ref fR)=true) (bR:Binds K dR ["_law_cell", "_law_k"] []):av P w K mg base aH 3 f fd ["_law_script", "_law_k"] (oQ K):=by
 refine F.ok rF (λvs H Q E h=>?_) (λcdv A outer s H vs Q E hr h=>?_)
 . obtain ⟨a,ns,k,rfl,_⟩:=h
   rfl
 . obtain ⟨a,ns,k,rfl,ha,k0,k1,kk⟩:=h
   have cZ:bh 1 _:=hr.mono (by decide)
   refine ⟨_,ae (ax (i:=2) rF.nd rfl (Or.inl rfl) (az gC cZ rfl mC kC bC .nil aw (aa (pv 0) (aa (pv 1) ab))))
    (ae (bc (bq di (aG fG (az gC cZ rfl mC kC bC .nil aw (aa (pv 0) (aa af ab))) af) af (bp _)) (aq (ax (i:=2) rF.nd rfl (Or.inl rfl) (az gR hr rfl mR kR bR .nil aw (aa (pv 2) (aa (pv 1) ab))))) aN)
    (aq (aJ (pv 2)))),?_⟩
   refine ⟨_,rfl,_,rfl,a,ns,k,rfl,ha,k0,λx=>?_⟩
   refine ⟨_,rfl,a,ns,0,rfl,ha,by decide,λc=>⟨_,_,rfl,rfl,(by show (0:Int)<2; decide),rfl,_,rfl,?_⟩⟩
   exact jG (λ_=>⟨_,rfl,_,rfl,_,k,rfl,k0,k1,λz=>⟨_,rfl,kk z⟩⟩) (λ_=>⟨_,rfl,kk x⟩)
abbrev Jq:List Str:=["_law_number_here", "_law_many", "_law_bits_here", "_law_k"]
abbrev ux:List Str:=["_law_number_here", "_law_many"]
theorem rG:aQ Jq ux (aj ji):=⟨rfl,rfl,rfl,by decide +kernel,rfl,by decide +kernel,by decide +kernel⟩
theorem xD {f:Addr}{fd:FuncData}(F:bY K "_law_bits" "_law_bits" ji f fd) (O:Own mg):av P w K mg base aH 1 f fd ux uv:=by
 refine F.ok rG (λvs H Q E h=>?_) (λcdv A outer s H vs Q E hr h=>?_)
 . obtain ⟨x,n,rfl,_⟩:=h
   rfl
 . obtain ⟨x,n,rfl,n8,kk⟩:=h
   refine ⟨_,ae (bc (bq qI (pv 1) af (bp _)) (aq (aJ (dj (N:=["_law_place", "_law_number_here"]) (js:=[none,some 0]) (by kernel_rfl) rfl (cp rfl O.range (aa (aG su af (pv 1)) ab)) (λ_ _ _ _ _ _=>aU (i:=0) E2 rfl (Or.inl rfl) (.inr rfl)) (λ_ _ _ _ _ _=>bz)
    (λ_ _ _ _ _ _=>aG ni (aG sv (pv 1) (pv 0)) af)))) aN)
    (ae (qU (i:=2) (N:=["_law_place"]) (js:=[none]) rG.nd rfl rfl (by kernel_rfl) rfl (cp rfl O.range (aa (aG su af (pv 1)) ab)) (λ_ _ _ _ _ _=>aU (i:=0) E3 rfl (Or.inl rfl) (.inr rfl)) (λ_ _ _ _ _ _=>bz)
     (λ_ _ _ _ _ _=>af))
    (ae (fz PassesOwn.never rfl (cp rfl O.range (aa af ab)) (aU (i:=3) rG.nd rfl (Or.inl rfl))
     (ae (rX af (rW (pv 2) (aG fG (pv 0) (aO aP (by rfl) O.len PySem.boot_len (aa (pv 2) ab))) set_list))
     (aq (ax (i:=0) rG.nd rfl (Or.inr rfl) (aG gu (pv 0) (aO aP (by rfl) O.len PySem.boot_len (aa (pv 2) ab)))))))
    (aq (aJ (pv 2))))),?_⟩
   have hp:=oS n8
   have Lo:0<2 ^ n:=Nat.two_pow_pos n
   have wA:=pow_int n
   have Jr:∃j:Int,(1:Int)*2 ^ ((n:Int)).toNat=j /\ -(2 ^ 62)<=j/\j<2 ^ 62/\j.toNat=2 ^ n:=⟨_,wA,Int.le_trans (by decide : -(2 ^ 62)<=(0:Int)) (by omega),Int.lt_of_le_of_lt (by omega:((2 ^ n:Nat):Int)<=256) (by decide),by omega⟩
   obtain ⟨j,ej,j1,j2,j3⟩:=Jr
   refine ⟨_,rfl,_,_,rfl,rfl,_,rfl,?_⟩
   refine jG (λ_=>?_) (λ_=>?_)
   . refine ⟨_,rfl,_,_,rfl,rfl,⟨by omega,by omega,by decide⟩,_,rfl,by rw [ej]; exact j1,by rw [ej]; exact j2,λD hD=>?_⟩
     rw [ej,j3]
     refine gi (2 ^ n) (λi acc σ H3=>(∃bs:List Bool,acc=bs.map bV/\bs.length=i)/\(∃u,σ=[u,some (.int x)])/\ao H H3) ⟨⟨[],rfl,rfl⟩,⟨none,rfl⟩,ao.aA hD⟩ ag ?_ ?_
     . rintro acc σ H3 cQ ⟨⟨bs,rfl,lg⟩,_,s3⟩
       exact ⟨Nat.le_refl _,kk D bs H3 s3 hD cQ lg⟩
     . rintro i acc σ H3 hi cQ ⟨⟨bs,rfl,lg⟩,⟨u,rfl⟩,s3⟩
       refine ⟨hi,?_⟩
       rintro y H' ⟨rfl,rfl⟩
       refine eO ?_
       refine ⟨_,rfl,_,rfl,_,_,rfl,rfl,(by show (0:Int)<=0+(i:Int); omega),_,_,rfl,rfl,?_⟩
       obtain ⟨b,hb⟩:=zo (x / 2 ^ (0+(i:Int)).toNat)
       refine ⟨_,cQ,(by rw [List.length_map]; exact small (by omega)),cG hi ag ⟨⟨bs++[b],by rw [List.map_append]; exact congrArg (bs.map bV++[·]) hb,by rw [List.length_append,lg]; rfl⟩,⟨_,rfl⟩,λc o hc=>?_⟩⟩
       rw [ai (ah hc hD)]
       exact s3 _ _ hc
   . refine ⟨_,rfl,_,_,rfl,rfl,⟨by omega,by omega,by decide⟩,_,rfl,by rw [ej]; exact j1,by rw [ej]; exact j2,λD hD=>?_⟩
     rw [ej,j3]
     refine gi (2 ^ n) (λi acc σ H3=>(∃bs:List Bool,acc=bs.map bV/\bs.length=i)/\(∃u,σ=[u])/\ao H H3) ⟨⟨[],rfl,rfl⟩,⟨none,rfl⟩,ao.aA hD⟩ ag ?_ ?_
     . rintro acc σ H3 cQ ⟨⟨bs,rfl,lg⟩,_,s3⟩
       refine ⟨Nat.le_refl _,?_⟩
       refine ⟨_,rfl,by decide,by decide,du (n:=6) (λi σ Hi=>∃(y:Int) (v3:Option V) (cs:List Bool),σ=[some (.int y),some (.int (n:Int)),some (.ref D),v3]/\Hi D=some (.lst (cs.map bV))/\cs.length=2 ^ n/\ao H Hi) ⟨x,none,bs,rfl,cQ,lg,s3⟩ ?_ ?_⟩
       . rintro i σ Hi hi ⟨y,v3,cs,rfl,lj,iK,si⟩
         have hlen:(((cs.map bV).length:Nat):Int)=((2 ^ n:Nat):Int):=by rw [List.length_map,iK]
         have l0:(0:Int)<(((cs.map bV).length:Nat):Int):=by rw [hlen]; omega
         have l1:(((cs.map bV).length:Nat):Int)<1073741824:=by rw [hlen]; omega
         have Df:=Int.emod_nonneg y (Int.ne_of_gt l0)
         have LR:=Int.emod_lt_of_pos y l0
         refine ⟨_,rfl,_,rfl,_,rfl,D,_,rfl,.inl (ay.of lj),_,_,rfl,rfl,l0,D,_,_,(y % (((cs.map bV).length:Nat):Int)).toNat,rfl,rfl,lj,?_,?_⟩
         . unfold lY
           rw [if_pos Df,if_pos (by omega)]
         have q2:(upd Hi D (.lst ((cs.map bV).set (y % (((cs.map bV).length:Nat):Int)).toNat (.int 1)))) D=some (.lst ((cs.set (y % (((cs.map bV).length:Nat):Int)).toNat true).map bV)):=by rw [ag,List.map_set]; rfl
         have s2:ao H (upd Hi D (.lst ((cs.map bV).set (y % (((cs.map bV).length:Nat):Int)).toNat (.int 1)))):=λc o hc=>by rw [ai (ah hc hD)]; exact si _ _ hc
         generalize upd Hi D (.lst ((cs.map bV).set (y % (((cs.map bV).length:Nat):Int)).toNat (.int 1)))=H2 at q2 s2 ⊢
         have dw:(cs.set (y % (((cs.map bV).length:Nat):Int)).toNat true).length=2 ^ n:=by rw [List.length_set]; exact iK
         generalize cs.set (y % (((cs.map bV).length:Nat):Int)).toNat true=Js at q2 dw
         refine ⟨_,rfl,_,rfl,D,_,rfl,.inl (ay.of q2),_,_,rfl,rfl,⟨by rw [List.length_map,dw]; omega,by rw [List.length_map,dw]; omega⟩,?_⟩
         exact ⟨_,_,Js,rfl,q2,dw,s2⟩
       . rintro σ Hi ⟨y,v3,cs,rfl,lj,iK,si⟩
         exact ⟨_,rfl,kk D cs Hi si hD lj iK⟩
     . rintro i acc σ H3 hi cQ ⟨⟨bs,rfl,lg⟩,⟨u,rfl⟩,s3⟩
       refine ⟨hi,?_⟩
       rintro y H' ⟨rfl,rfl⟩
       refine eO ?_
       refine ⟨_,cQ,(by rw [List.length_map]; exact small (by omega)),cG hi ag ⟨⟨bs++[false],by rw [List.map_append]; rfl,by rw [List.length_append,lg]; rfl⟩,⟨_,rfl⟩,λc o hc=>?_⟩⟩
       rw [ai (ah hc hD)]
       exact s3 _ _ hc
abbrev Jt:List Str:=["_law_bits_here", "_law_many", "_law_found", "_law_place", "_law_spot", "_law_k"]
abbrev uy:List Str:=["_law_bits_here", "_law_many"]
theorem lL:aQ Jt uy (aj fq):=⟨rfl,rfl,rfl,by decide +kernel,rfl,by decide +kernel,by decide +kernel⟩
theorem uz {f:Addr}{fd:FuncData}(F:bY K "_law_turned" "_law_turned" fq f fd) (O:Own mg):av P w K mg base aH 1 f fd uy oR:=by
 refine F.ok lL (λvs H Q E h=>?_) (λcdv A outer s H vs Q E hr h=>?_)
 . obtain ⟨q,bs,n,rfl,_⟩:=h
   rfl
 . obtain ⟨q,bs,n,rfl,n8,hq,lg,kk⟩:=h
   refine ⟨_,ae (ax (i:=2) lL.nd rfl (Or.inl rfl) (dW ab))
    (ae (fz PassesOwn.never rfl (cp rfl O.range (aa (aO aP (by rfl) O.len PySem.boot_len (aa (pv 0) ab)) ab)) (aU (i:=3) lL.nd rfl (Or.inl rfl))
     (ae (ax (i:=4) lL.nd rfl (Or.inl rfl) af)
     (ae (fz PassesOwn.never rfl (cp rfl O.range (aa (pv 1) ab)) (aU (i:=5) lL.nd rfl (Or.inl rfl))
      (aq (ax (i:=4) lL.nd rfl (Or.inl rfl) (aG df (aG dQ af (pv 4)) (aG ni (aG sv (pv 3) (pv 5)) af)))))
     (aq (lx (kd PySem.F.plainAttrs_list PySem.F.slot_list_append PySem.F.type_list_append gh (pv 2) (aa (aM (r:=eg K) br (pv 0) (pv 4) (λ_ _=>rfl)) ab)))))))
    (aq (aJ (pv 2)))),?_⟩
   have hp:=oS n8
   refine ⟨(by show 0<=sizeLine; decide),λD hD=>?_⟩
   have LS:q≠D:=ah hq hD
   refine ⟨_,rfl,q,_,rfl,.inl (ay.of ((ao.aA hD) _ _ hq)),?_⟩
   rw [List.length_map,lg]
   refine ⟨_,rfl,Int.le_trans (by decide : -(2 ^ 62)<=(0:Int)) (by omega),Int.lt_of_le_of_lt (by omega:((2 ^ n:Nat):Int)<=256) (by decide),du (n:=(((2 ^ n:Nat):Int)).toNat) (λi σ Hi=>∃(v3 v4 v5:Option V) (cs:List Bool),σ=[some (.ref q),some (.int (n:Int)),some (.ref D),v3,v4,v5]/\Hi D=some (.lst (cs.map bV))/\cs.length=i/\ao H Hi) ⟨none,none,none,[],rfl,ag,rfl,ao.aA hD⟩ ?_ ?_⟩
   . rintro i σ Hi hi ⟨v3,v4,v5,cs,rfl,lj,iK,si⟩
     rw [Int.toNat_natCast] at hi
     refine ⟨_,rfl,_,rfl,Int.le_trans (by decide : -(2 ^ 62)<=(0:Int)) (by omega),Int.lt_of_le_of_lt (by omega:((n:Nat):Int)<=256) (by decide),du (n:=((n:Int)).toNat) (λm σ Hm=>Hm=Hi/\∃(sp:Nat) (v5:Option V),σ=[some (.ref q),some (.int (n:Int)),some (.ref D),some (.int (0+(i:Int))),some (.int (sp:Int)),v5]/\sp<2 ^ m) ⟨rfl,0,v5,rfl,Nat.one_pos⟩ ?_ ?_⟩
     . rintro m σ Hm hm ⟨rfl,sp,v5,rfl,gf⟩
       rw [Int.toNat_natCast] at hm
       have LU:=oS (Nat.le_trans (Nat.le_of_lt hm) n8)
       obtain ⟨d,d2,hd⟩:=Bg ((0+(i:Int)) / 2 ^ (0+(m:Int)).toNat)
       refine ⟨_,rfl,_,_,rfl,rfl,.inl ⟨by decide,by decide⟩,_,rfl,_,rfl,_,_,rfl,rfl,(by show (0:Int)<=0+(m:Int); omega),_,_,rfl,rfl,_,_,rfl,rfl,rfl,2*sp+d,some (.int (0+(m:Int))),?_,?_⟩
       . rw [hd]
         rfl
       . rw [Nat.pow_succ]
         omega
     . rintro σ Hm ⟨rfl,sp,v5,rfl,gf⟩
       rw [Int.toNat_natCast] at gf
       have jl:cs.length<257:=by omega
       refine ⟨_,rfl,.inl ⟨rfl,_,ay.of lj⟩,_,rfl,_,rfl,q,_,_,bV (bs[sp]'(by omega)),rfl,rfl,ay.of (si _ _ hq),aF (by rw [List.getElem?_map,List.getElem?_eq_getElem (by omega)]; rfl),D,_,_,rfl,rfl,lj,(by rw [List.length_map]; exact small (by omega)),?_⟩
       refine ⟨_,_,_,cs++[bs[sp]'(by omega)],rfl,by rw [ag,List.map_append]; rfl,by rw [List.length_append,iK]; rfl,λc o hc=>?_⟩
       rw [ai (ah hc hD)]
       exact si _ _ hc
   . rintro σ Hi ⟨v3,v4,v5,cs,rfl,lj,iK,si⟩
     rw [Int.toNat_natCast] at iK
     exact ⟨_,rfl,kk D cs Hi si hD lj iK⟩
abbrev zp:List Str:=["_law_script", "_law_number_here", "_law_left", "_law_names", "_law_many", "_law_k"]
theorem iW:aQ zp ["_law_script"] (aj dh):=⟨rfl,rfl,rfl,by decide +kernel,rfl,by decide +kernel,by decide +kernel⟩
end
end Gen
namespace PySem
open Sem (wp)
section
variable {prog:Program}{w:World}{A:Around}{E:Value->Shared->Prop}{s:Shared}
theorem ia {it t:Addr}{i:Nat}{items} {x:Value}{Q:Value->Shared->Prop}(hit:s.heap.IsTupleIter it t i) (ht:s.heap.IsTuple t items) (hx:items[i]?=some x)
 (hQ:∀h',h'.IsTupleIter it t (i+1)->Heap.SameBut it s.heap h'->Q x { s with heap:=h' }):wpAny (model prog w) A (Builtin.SmallTypes.nextOf (.ref it)) Q E s:=by
 obtain ⟨o,ho,hc,hd⟩:=id hit
 obtain ⟨ol,zq,_,nl,jq⟩:=ht
 unfold Builtin.SmallTypes.nextOf
 refine wpAny_bind (wpAny_callSpecial?_slot (name:=Str.ofString "__next__") hit.typeIs F.slot_tuple_iterator_next (wpAny_call_entry F.slot_tuple_iterator_next hit.typeIs F.entry_tuple_iterator_next ?_ (F.args_tuple_iterator_next_1 _)))
 show wpAny _ _ (field (.ref it) 0 >>= _) _ _ s
 refine wpAny_bind (wpAny_field ho hd (x:=.ref t) rfl ?_)
 show wpAny _ _ (if (Value.ref t == Value.none)=true then _ else _) _ _ s
 rw [if_neg (show ¬ ((Value.ref t == Value.none)=true) from Bool.false_ne_true)]
 show wpAny _ _ (field (.ref it) 1 >>= _) _ _ s
 refine wpAny_bind (wpAny_field ho hd (x:=.int i 0) rfl ?_)
 show wpAny _ _ (seqItems? (.ref t) >>= _) _ _ s
 refine wpAny_bind (wpAny_seqItems zq jq ?_)
 simp only [Int.toNat_natCast,hx]
 refine wpAny_bind (wpAny_setField ho hd (by simp) (wpAny_pure ⟨x,rfl,wpAny_pure (hQ _ ?_ (Heap.SameBut.update ..))⟩))
 exact ⟨_,Heap.get?_update_self _ ho (Obj.isFreed_of_fields (Obj.data_mapFields hd _)),(Obj.cls_mapFields ..).trans hc,by rw [Obj.data_mapFields hd]; simp [rawInt]⟩
theorem iy {it t:Addr}{i:Nat}{items} {Q:Value->Shared->Prop}(hh:A.handled=none) (hit:s.heap.IsTupleIter it t i) (ht:s.heap.IsTuple t items) (hx:items[i]?=none)
 (hE:∀h' e,Heap.ExtBut it s.heap h'->(∃o,h'.get? e=some o/\o.cls=.type "StopIteration")->E (.ref e) { s with heap:=h' }):wpAny (model prog w) A (Builtin.SmallTypes.nextOf (.ref it)) Q E s:=by
 obtain ⟨o,ho,hc,hd⟩:=id hit
 obtain ⟨ol,zq,_,nl,jq⟩:=ht
 unfold Builtin.SmallTypes.nextOf
 refine wpAny_bind (wpAny_callSpecial?_slot (name:=Str.ofString "__next__") hit.typeIs F.slot_tuple_iterator_next (wpAny_call_entry F.slot_tuple_iterator_next hit.typeIs F.entry_tuple_iterator_next ?_ (F.args_tuple_iterator_next_1 _)))
 show wpAny _ _ (field (.ref it) 0 >>= _) _ _ s
 refine wpAny_bind (wpAny_field ho hd (x:=.ref t) rfl ?_)
 show wpAny _ _ (if (Value.ref t == Value.none)=true then _ else _) _ _ s
 rw [if_neg (show ¬ ((Value.ref t == Value.none)=true) from Bool.false_ne_true)]
 show wpAny _ _ (field (.ref it) 1 >>= _) _ _ s
 refine wpAny_bind (wpAny_field ho hd (x:=.int i 0) rfl ?_)
 show wpAny _ _ (seqItems? (.ref t) >>= _) _ _ s
 refine wpAny_bind (wpAny_seqItems zq jq ?_)
 simp only [Int.toNat_natCast,hx]
 refine wpAny_bind (wpAny_rule (wpAny_bind (wpAny_setField ho hd (by simp) ?_)))
 show wpAny _ _ (newExc (.type "StopIteration") [] >>= _) _ _ _
 refine wpAny_bind ?_
 simp only [newExc,newTuple]
 refine wpAny_bind (wpAny_newObj_type ?_ (by size_fits))
 refine wpAny_bind (m:=firstArgMember _ _) (wpAny_of_eq (a:=Value.none) (by first | rfl | (simp only [firstArgMember]; rfl)) ?_)
 refine wpAny_newObj_type ?_ (by size_fits)
 simp only [raiseNew]
 refine wpAny_bind (wpAny_handled ?_)
 first | rw [show A.in1.handled=none from hh] | rw [hh]
 refine wpAny_bind (wpAny_pure (wpAny_throw ?_))
 exact hE _ _ (((Heap.SameBut.update ..).extBut.push _).push _) ⟨_,Heap.get?_push_size _ rfl,rfl⟩
end
def iX (tp:Bool) (h:Heap) (l:Addr) (xs:Array Value):Prop:=match tp with | true=>h.IsTuple l xs | false=>h.IsList l xs
def d6 (tp:Bool) (h:Heap) (i l:Addr) (k:Nat):Prop:=match tp with | true=>h.IsTupleIter i l k | false=>h.IsListIter i l k
theorem iX.at {tp:Bool}{h h':Heap}{l:Addr}{xs:Array Value}(x:iX tp h l xs) (k:∀o,h.get? l=some o->h'.get? l=some o):iX tp h' l xs:=by
 cases tp <;> (obtain ⟨o,e,r⟩:=x; exact ⟨o,k o e,r⟩)
theorem d6.at {tp:Bool}{h h':Heap}{i l:Addr}{n:Nat}(x:d6 tp h i l n) (k:∀o,h.get? i=some o->h'.get? i=some o):d6 tp h' i l n:=by
 cases tp <;> (obtain ⟨o,e,r⟩:=x; exact ⟨o,k o e,r⟩)
theorem d6.there {tp:Bool}{h:Heap}{i l:Addr}{n:Nat}(x:d6 tp h i l n):∃o,h.get? i=some o/\∃vs,o.data=.fields vs:=by
 cases tp <;> (obtain ⟨o,e,c,d⟩:=x; exact ⟨o,e,_,d⟩)
section
variable {prog:Program}{w:World}{A:Around}{E:Value->Shared->Prop}{s:Shared}{tp:Bool}
theorem qu {it l:Addr}{i:Nat}{items} {x:Value}{Q:Value->Shared->Prop}(hit:d6 tp s.heap it l i) (hl:iX tp s.heap l items) (hx:items[i]?=some x)
 (hQ:∀h',d6 tp h' it l (i+1)->Heap.SameBut it s.heap h'->Q x { s with heap:=h' }):wpAny (model prog w) A (Builtin.SmallTypes.nextOf (.ref it)) Q E s:=by
 cases tp
 . exact wpAny_nextOf_list_item hit hl hx hQ
 . exact ia hit hl hx hQ
theorem zr {it l:Addr}{i:Nat}{items} {Q:Value->Shared->Prop}(hh:A.handled=none) (hit:d6 tp s.heap it l i) (hl:iX tp s.heap l items) (hx:items[i]?=none)
 (hE:∀h' e,Heap.ExtBut it s.heap h'->(∃o,h'.get? e=some o/\o.cls=.type "StopIteration")->E (.ref e) { s with heap:=h' }):wpAny (model prog w) A (Builtin.SmallTypes.nextOf (.ref it)) Q E s:=by
 cases tp
 . exact wpAny_nextOf_list_end hh hit hl hx hE
 . exact iy hh hit hl hx hE
theorem xE {z TI TO i1 i2 l1 l2:Addr}{k:Nat}{xs ys:Array Value}{x y a b:Value}{Q:Option Value->Shared->Prop}(nd:[z,TI,TO,i1,i2].Nodup) (n1:l1∉[z,TI,TO,i1,i2]) (n2:l2∉[z,TI,TO,i1,i2])
 (hz:IsZip s.heap z TI TO .none) (gG:IsPair s.heap TI (.ref i1) (.ref i2)) (lp:IsPair s.heap TO a b) (h1:d6 tp s.heap i1 l1 k) (h2:d6 tp s.heap i2 l2 k) (ix:iX tp s.heap l1 xs) (dw:iX tp s.heap l2 ys) (hx:xs[k]?=some x) (hy:ys[k]?=some y)
 (hQ:∀h',IsZip h' z TI TO (rawInt s.heap.objs.size)->IsPair h' TO x y->d6 tp h' i1 l1 (k+1)->d6 tp h' i2 l2 (k+1)->IsPair h' s.heap.objs.size x y->
  (∀c o,c≠z->c≠TO->c≠i1->c≠i2->s.heap.get? c=some o->h'.get? c=some o)->Q (some (.ref s.heap.objs.size)) { s with heap:=h' }):wpAny (model prog w) A (pyNext (.ref z)) Q E s:=by
 simp only [List.nodup_cons,List.mem_cons,List.not_mem_nil,or_false,not_or] at nd n1 n2
 obtain ⟨⟨wB,oT,mh,qv⟩,⟨TITO,TIi1,TIi2⟩,⟨TOi1,TOi2⟩,i12,_⟩:=nd
 obtain ⟨l1z,E4,l1TO,l1i1,l1i2⟩:=n1
 obtain ⟨l2z,Lp,l2TO,l2i1,l2i2⟩:=n2
 have hT:s.TypeIs (.ref z) "zip":=⟨_,hz,rfl⟩
 unfold pyNext
 refine wpAny_bind (wpAny_attempt (wpAny_callSpecial?_slot (name:=Str.ofString "__next__") hT F.slot_zip_next (wpAny_call_entry F.slot_zip_next hT F.entry_zip_next ?_ (F.args_zip_next_1 _))))
 show wpAny _ _ (field (.ref z) 2 >>= _) _ _ _
 refine wpAny_bind (wpAny_field hz rfl (x:=.bool false) rfl ?_)
 show wpAny _ _ (field (.ref z) 3 >>= _) _ _ _
 refine wpAny_bind (wpAny_field hz rfl (x:=.ref TI) rfl ?_)
 refine wpAny_bind (wpAny_seqItems gG rfl ?_)
 show wpAny _ _ (Builtin.SmallTypes.ownedTupleIsFree (.ref z) >>= _) _ _ _
 refine wpAny_bind ?_
 unfold Builtin.SmallTypes.ownedTupleIsFree
 refine wpAny_bind (wpAny_field hz rfl (x:=.none) rfl (wpAny_pure ?_))
 simp only [if_true]
 refine wpAny_bind (wpAny_rule ?_)
 refine wpAny_bind (wpAny_field hz rfl (x:=.ref TO) rfl ?_)
 refine wpAny_bind (wpAny_setField_rec hz (by simp) λgY oU qw=>?_)
 replace oU:IsZip gY z TI TO .ellipsis:=oU
 refine wpAny_bind ?_
 simp only [List.zipIdx_cons,List.zipIdx_nil,List.forIn_cons,List.forIn_nil]
 have k1:∀c o,c≠z->s.heap.get? c=some o->gY.get? c=some o:=λc o n e=>qw.extBut _ _ n e
 refine wpAny_bind (wpAny_bind (wpAny_onRaise ?_))
 show wpAny _ _ (Builtin.SmallTypes.nextOf (.ref i1) >>= _) _ _ _
 refine wpAny_bind (qu (h1.at λo e=>k1 _ o (Ne.symm mh) e) (ix.at λo e=>k1 _ o l1z e) hx λnt Ju uA=>wpAny_pure ?_)
 have k2:∀c o,c≠i1->gY.get? c=some o->nt.get? c=some o:=λc o n e=>uA.extBut _ _ n e
 have zt:IsPair nt TO a b:=k2 _ _ TOi1 (k1 _ _ (Ne.symm oT) lp)
 refine wpAny_bind (wpAny_seqItems zt rfl ?_)
 refine wpAny_bind (wpAny_updateSeq_pair zt λqO vt uB=>?_)
 replace vt:IsPair qO TO x b:=vt
 have k3:∀c o,c≠TO->nt.get? c=some o->qO.get? c=some o:=λc o n e=>uB.extBut _ _ n e
 refine wpAny_bind (wpAny_letGo (wpAny_pure ?_))
 refine wpAny_bind (wpAny_bind (wpAny_onRaise ?_))
 show wpAny _ _ (Builtin.SmallTypes.nextOf (.ref i2) >>= _) _ _ _
 refine wpAny_bind (qu (h2.at λo e=>k3 _ o (Ne.symm TOi2) (k2 _ o (Ne.symm i12) (k1 _ o (Ne.symm qv) e))) (dw.at λo e=>k3 _ o l2TO (k2 _ o l2i1 (k1 _ o l2z e))) hy λyo Jv Dg=>wpAny_pure ?_)
 have k4:∀c o,c≠i2->qO.get? c=some o->yo.get? c=some o:=λc o n e=>Dg.extBut _ _ n e
 have zu:IsPair yo TO x b:=k4 _ _ TOi2 vt
 refine wpAny_bind (wpAny_seqItems zu rfl ?_)
 refine wpAny_bind (wpAny_updateSeq_pair zu λiN rH Dh=>?_)
 replace rH:IsPair iN TO x y:=rH
 have k5:∀c o,c≠TO->yo.get? c=some o->iN.get? c=some o:=λc o n e=>Dh.extBut _ _ n e
 refine wpAny_bind (wpAny_letGo (wpAny_pure (wpAny_pure ?_)))
 refine wpAny_bind (wpAny_seqItems rH rfl ?_)
 refine wpAny_bind (wpAny_newTuple ?_)
 have hsz:iN.objs.size=s.heap.objs.size:=by rw [Dh.1,Dg.1,uB.1,uA.1,qw.1]
 have Di:IsZip iN z TI TO .ellipsis:=k5 _ _ oT (k4 _ _ qv (k3 _ _ oT (k2 _ _ mh oU)))
 have Jw:∀c o,c≠z->c≠TO->c≠i1->c≠i2->s.heap.get? c=some o->iN.get? c=some o:=λc o c1 c2 c3 c4 e=>k5 _ _ c2 (k4 _ _ c4 (k3 _ _ c2 (k2 _ _ c3 (k1 _ _ c1 e))))
 have Jx:d6 tp iN i1 l1 (k+1):=Ju.at λo e=>k5 _ _ (Ne.symm TOi1) (k4 _ _ i12 (k3 _ _ (Ne.symm TOi1) e))
 have Jy:d6 tp iN i2 l2 (k+1):=Jv.at λo e=>k5 _ _ (Ne.symm TOi2) e
 have zv:z<iN.objs.size:=Heap.lt_size Di
 show wpAny _ _ (Builtin.SmallTypes.ownedTupleHandOut (.ref z) (.ref iN.objs.size) >>= _) _ _ _
 refine wpAny_bind ?_
 unfold Builtin.SmallTypes.ownedTupleHandOut
 have Jz:IsZip (iN.push { cls:=.type "tuple",data:=.seq #[x,y] }) z TI TO .ellipsis:=Heap.get?_push_of_some _ Di
 refine wpAny_bind (wpAny_setField_rec Jz (by simp) λLq zw Dj=>?_)
 replace zw:IsZip Lq z TI TO (rawInt iN.objs.size):=zw
 refine wpAny_setField_rec zw (by simp) λBh wC Dk=>?_
 replace wC:IsZip Bh z TI TO (rawInt iN.objs.size):=wC
 have up:∀c o,c≠z->iN.get? c=some o->Bh.get? c=some o:=λc o c1 e=>Dk.extBut _ _ c1 (Dj.extBut _ _ c1 (Heap.get?_push_of_some _ e))
 have Dl:IsPair Bh iN.objs.size x y:=Dk.extBut _ _ (Nat.ne_of_gt zv) (Dj.extBut _ _ (Nat.ne_of_gt zv) (Heap.get?_push_size _ rfl))
 rw [hsz] at wC Dl
 refine wpAny_pure ⟨.ref iN.objs.size,rfl,wpAny_pure ?_⟩
 rw [hsz]
 exact hQ Bh wC (up _ _ (Ne.symm oT) rH) (Jx.at λo e=>up _ o (Ne.symm mh) e) (Jy.at λo e=>up _ o (Ne.symm qv) e) Dl λc o c1 c2 c3 c4 e=>up c o c1 (Jw c o c1 c2 c3 c4 e)
theorem xF {z TI TO i1 i2 l1:Addr}{k:Nat}{xs:Array Value}{a b:Value}{Q:Option Value->Shared->Prop}(hh:A.handled=none) (nd:[z,TI,TO,i1,i2].Nodup) (n1:l1∉[z,TI,TO,i1,i2])
 (hz:IsZip s.heap z TI TO .none) (gG:IsPair s.heap TI (.ref i1) (.ref i2)) (h1:d6 tp s.heap i1 l1 k) (ix:iX tp s.heap l1 xs) (hx:xs[k]?=none)
 (hQ:∀h',(∀c o,c≠z->c≠TO->c≠i1->c≠i2->s.heap.get? c=some o->h'.get? c=some o)->Q none { s with heap:=h' }):wpAny (model prog w) A (pyNext (.ref z)) Q E s:=by
 simp only [List.nodup_cons,List.mem_cons,List.not_mem_nil,or_false,not_or] at nd n1
 obtain ⟨⟨wB,oT,mh,qv⟩,⟨TITO,TIi1,TIi2⟩,⟨TOi1,TOi2⟩,i12,_⟩:=nd
 obtain ⟨l1z,E4,l1TO,l1i1,l1i2⟩:=n1
 have hT:s.TypeIs (.ref z) "zip":=⟨_,hz,rfl⟩
 unfold pyNext
 refine wpAny_bind (wpAny_attempt (wpAny_callSpecial?_slot (name:=Str.ofString "__next__") hT F.slot_zip_next (wpAny_call_entry F.slot_zip_next hT F.entry_zip_next ?_ (F.args_zip_next_1 _))))
 show wpAny _ _ (field (.ref z) 2 >>= _) _ _ _
 refine wpAny_bind (wpAny_field hz rfl (x:=.bool false) rfl ?_)
 show wpAny _ _ (field (.ref z) 3 >>= _) _ _ _
 refine wpAny_bind (wpAny_field hz rfl (x:=.ref TI) rfl ?_)
 refine wpAny_bind (wpAny_seqItems gG rfl ?_)
 show wpAny _ _ (Builtin.SmallTypes.ownedTupleIsFree (.ref z) >>= _) _ _ _
 refine wpAny_bind ?_
 unfold Builtin.SmallTypes.ownedTupleIsFree
 refine wpAny_bind (wpAny_field hz rfl (x:=.none) rfl (wpAny_pure ?_))
 simp only [if_true]
 refine wpAny_bind (wpAny_rule ?_)
 refine wpAny_bind (wpAny_field hz rfl (x:=.ref TO) rfl ?_)
 refine wpAny_bind (wpAny_setField_rec hz (by simp) λgY oU qw=>?_)
 replace oU:IsZip gY z TI TO .ellipsis:=oU
 refine wpAny_bind ?_
 simp only [List.zipIdx_cons,List.zipIdx_nil,List.forIn_cons,List.forIn_nil]
 refine wpAny_bind (wpAny_bind (wpAny_onRaise ?_))
 show wpAny _ _ (Builtin.SmallTypes.nextOf (.ref i1) >>= _) _ _ _
 refine wpAny_bind (zr (by first | exact hh | rfl) (h1.at λo e=>qw.extBut _ o (Ne.symm mh) e) (ix.at λo e=>qw.extBut _ o l1z e) hx λnt e uA he=>?_)
 obtain ⟨oe,zx,Dm⟩:=he
 have Dn:IsZip nt z TI TO .ellipsis:=uA _ _ mh oU
 have JA:e≠z:=λx=>by subst x; rw [Dn] at zx; cases zx; simp at Dm
 refine wpAny_setField_rec Dn (by simp) λqO _ uB=>?_
 refine wpAny_bind (wpAny_isInstance (T:="StopIteration") (b:=true) ⟨oe,uB.extBut _ _ JA zx,Dm⟩ isSubtype_stop ?_)
 exact wpAny_pure (hQ _ λc o c1 _ c3 _ x=>uB.extBut _ _ c1 (uA _ _ c3 (qw.extBut _ _ c1 x)))
end
end PySem
namespace PySem
abbrev rJ (h:Heap) (l1:Addr):Heap:=h.push { cls:=.type "tuple_iterator",data:=.fields #[.ref l1,.int 0 0] }
abbrev rK (h:Heap) (l1 l2:Addr):Heap:=(rJ h l1).push { cls:=.type "tuple_iterator",data:=.fields #[.ref l2,.int 0 0] }
abbrev rL (h:Heap) (l1 l2:Addr):Heap:=(rK h l1 l2).push { cls:=.type "tuple",data:=.seq #[.ref h.objs.size,.ref (rJ h l1).objs.size] }
abbrev rM (h:Heap) (l1 l2:Addr):Heap:=(rL h l1 l2).push { cls:=.type "tuple",data:=.seq #[.none,.none] }
abbrev lM (h:Heap) (l1 l2:Addr):Heap:=(rM h l1 l2).push { cls:=.type "zip",data:=.fields #[.none,.bool false,.bool false,.ref (rK h l1 l2).objs.size,.ref (rL h l1 l2).objs.size] }
theorem oV (l1 l2:Addr) (xs ys:Array Value) :
 Meets (Builtin.«zip.__new__» ⟨[.type "zip",.ref l1,.ref l2],[]⟩) (λ_ R s=>s.heap.IsTuple l1 xs/\s.heap.IsTuple l2 ys/\R (.ok (.ret (.ref (rM s.heap l1 l2).objs.size))) { s with heap:=lM s.heap l1 l2 }):=
 .of_wp λprog w A R s h=>by
  obtain ⟨hp,g,d,tk,os⟩:=s; obtain ⟨ix,dw,h⟩:=h
  have Lr:=sub_zip
  have JB:Heap.IsTuple (Shared.heap ⟨hp,g,d,tk,os⟩) l1 xs:=ix
  have JC:Heap.IsTuple (Shared.heap ⟨hp.push { cls:=.type "tuple_iterator",data:=.fields #[.ref l1,.int 0 0] },g,d,tk,os⟩) l2 ys:=Heap.IsTuple.push dw _
  wp_walk using wpAny_pyIter_tuple JB,wpAny_pyIter_tuple JC
  exact ⟨_,rfl,h⟩
section
variable {prog:Program}{w:World}{A:Around}{E:Value->Shared->Prop}{s:Shared}{tp:Bool}
theorem xG {l1 l2:Addr}{xs ys:Array Value}{Q:Value->Shared->Prop}(ix:iX tp s.heap l1 xs) (dw:iX tp s.heap l2 ys)
 (h:∀h',IsZip h' (s.heap.objs.size+4) (s.heap.objs.size+2) (s.heap.objs.size+3) .none->IsPair h' (s.heap.objs.size+2) (.ref s.heap.objs.size) (.ref (s.heap.objs.size+1))->
  IsPair h' (s.heap.objs.size+3) .none .none->d6 tp h' s.heap.objs.size l1 0->d6 tp h' (s.heap.objs.size+1) l2 0->(∀c o,s.heap.get? c=some o->h'.get? c=some o)->Q (.ref (s.heap.objs.size+4)) { s with heap:=h' }) :
 wpAny (model prog w) A (call (.type "zip") [.ref l1,.ref l2]) Q E s:=by
 cases tp
 . exact call_zip_2 ix dw λh' a b c d e _ f=>h h' a b c d e f
 . refine callType_new F.called_zip (by decide) (F.typeCall_zip_2 _ _) (F.newCall_zip_2 _ _) (λobj=>F.args_object_init_3 obj _ _) F.entry_zip_new (oV l1 l2 xs ys) ⟨ix,dw,?_⟩
   have z1:(rJ s.heap l1).objs.size=s.heap.objs.size+1:=Heap.size_push ..
   have z2:(rK s.heap l1 l2).objs.size=s.heap.objs.size+2:=by rw [Heap.size_push,z1]
   have z3:(rL s.heap l1 l2).objs.size=s.heap.objs.size+3:=by rw [Heap.size_push,z2]
   have z4:(rM s.heap l1 l2).objs.size=s.heap.objs.size+4:=by rw [Heap.size_push,z3]
   have g5:(lM s.heap l1 l2).get? (rM s.heap l1 l2).objs.size=some _:=Heap.get?_push_size _ rfl
   have g4:(lM s.heap l1 l2).get? (rL s.heap l1 l2).objs.size=some _:=Heap.get?_push_of_some _ (Heap.get?_push_size _ rfl)
   have g3:(lM s.heap l1 l2).get? (rK s.heap l1 l2).objs.size=some _:=Heap.get?_push_of_some _ (Heap.get?_push_of_some _ (Heap.get?_push_size _ rfl))
   have g2:(lM s.heap l1 l2).get? (rJ s.heap l1).objs.size=some _:=Heap.get?_push_of_some _ (Heap.get?_push_of_some _ (Heap.get?_push_of_some _ (Heap.get?_push_size _ rfl)))
   have g1:(lM s.heap l1 l2).get? s.heap.objs.size=some _:=Heap.get?_push_of_some _ (Heap.get?_push_of_some _ (Heap.get?_push_of_some _ (Heap.get?_push_of_some _ (Heap.get?_push_size _ rfl))))
   show _/\_
   rw [z2,z3,z4] at g5
   rw [z1,z2] at g3
   rw [z3] at g4
   rw [z1] at g2
   rw [z4]
   exact ⟨⟨_,g5,rfl⟩,h _ g5 g3 g4 ⟨_,g1,rfl,rfl⟩ ⟨_,g2,rfl,rfl⟩ λc o x=>
    Heap.get?_push_of_some _ (Heap.get?_push_of_some _ (Heap.get?_push_of_some _ (Heap.get?_push_of_some _ (Heap.get?_push_of_some _ x))))⟩
end
end PySem
namespace L2
open PySem PySem.Spec PyProof.Rows
def ZH (tp:Bool) (H:Hp) (a:Addr) (xs:List V):Prop:=match tp with | true=>H a=some (.tup xs) | false=>H a=some (.lst xs)
theorem ZH.ex {tp:Bool}{H:Hp}{a:Addr}{xs:List V}(h:ZH tp H a xs):∃o,H a=some o:=by cases tp <;> exact ⟨_,h⟩
theorem ZH.inj {tp:Bool}{H:Hp}{a:Addr}{xs ys:List V}(h:ZH tp H a xs) (h':ZH tp H a ys):xs=ys:=by
 cases tp <;> (have e:=(show H a=_ from h).symm.trans (show H a=_ from h'); cases e; rfl)
theorem Inv.zh {X:Cx}{pins:List (Addr×Obj)}{σ:St}{H:Hp}{s:Shared}{tp:Bool}{a:Addr}{xs:List V}(I:Inv X pins σ H s) (h:ZH tp H a xs):∃its:List Value,Vals xs its/\iX tp s.heap a its.toArray/\xs.length<=sizeLine:=by
 cases tp
 . obtain ⟨z,its,n,r,e⟩:=(show aT X.prog X.w H s.heap a (.lst xs) from I.hok a _ h)
   exact ⟨its,r,⟨_,e,rfl,n,rfl⟩,z⟩
 . obtain ⟨z,its,r,o,e,c,n,d⟩:=(show aT X.prog X.w H s.heap a (.tup xs) from I.hok a _ h)
   exact ⟨its,r,⟨o,e,c,n,d⟩,z⟩
def zy (tp:Bool) (a b:Addr):It:=
 ⟨λi H=>∃xs ys x y,ZH tp H a xs/\ZH tp H b ys/\xs[i]?=some x/\ys[i]?=some y,λi H v H'=>∃T x y,v=.ref T/\H T=none/\H'=upd H T (.tup [x,y])/\(∀xs,ZH tp H a xs->xs[i]?=some x)/\∀ys,ZH tp H b ys->ys[i]?=some y,
  λi H=>∃xs,ZH tp H a xs/\xs.length<=i⟩
theorem vv {P:Program}{w:World}{K:W.Frag}{es:List Expr}{kk:Nat}{pp:Pos}{tp:Bool}{a b z TI TO i1 i2:Addr}(nd:[z,TI,TO,i1,i2].Nodup) :
 Turn P w K (.Tuple es kk pp) (zy tp a b) [z,TI,TO,i1,i2] z (λi h=>IsZip h z TI TO .none/\IsPair h TI (.ref i1) (.ref i2)/\(∃a b,IsPair h TO a b)/\d6 tp h i1 a i/\d6 tp h i2 b i) where
 mem:=by simp
 obj:=λi h st c hc=>by
  obtain ⟨hz,gG,⟨u,v,lp⟩,h1,h2⟩:=st
  simp only [List.mem_cons,List.not_mem_nil,or_false] at hc
  rcases hc with rfl | rfl | rfl | rfl | rfl
  . exact ⟨_,hz,λv z=>by cases (show Data.fields _=Data.cell v from z)⟩
  . exact ⟨_,gG,λv z=>by cases (show Data.seq _=Data.cell v from z)⟩
  . exact ⟨_,lp,λv z=>by cases (show Data.seq _=Data.cell v from z)⟩
  . obtain ⟨o,e,vs,d⟩:=h1.there
    exact ⟨o,e,λv z=>by rw [d] at z; cases z⟩
  . obtain ⟨o,e,vs,d⟩:=h2.there
    exact ⟨o,e,λv z=>by rw [d] at z; cases z⟩
 keep:=λi h h' st k=>by
  obtain ⟨hz,gG,⟨u,v,lp⟩,h1,h2⟩:=st
  exact ⟨k z (by simp) _ hz,k TI (by simp) _ gG,⟨u,v,k TO (by simp) _ lp⟩,h1.at λo e=>k i1 (by simp) o e,h2.at λo e=>k i2 (by simp) o e⟩
 item:=by
  intro X hP hw hK hc i pins s σ H E I hf st hg
  subst hP hw hK
  obtain ⟨xs,ys,x,y,qx,zz,hx,hy⟩:=hg
  obtain ⟨its,rv,p,JD⟩:=I.zh qx
  obtain ⟨its',pX,p',Ls⟩:=I.zh zz
  obtain ⟨u,hu,ru⟩:=rv.get hx
  obtain ⟨v,hv,JE⟩:=pX.get hy
  obtain ⟨hz,gG,⟨c,d,lp⟩,h1,h2⟩:=st
  have na:a∉[z,TI,TO,i1,i2]:=λm=>by
   obtain ⟨o,e⟩:=qx.ex
   rw [(hf a m).1] at e
   cases e
  have nb:b∉[z,TI,TO,i1,i2]:=λm=>by
   obtain ⟨o,e⟩:=zz.ex
   rw [(hf b m).1] at e
   cases e
  refine xE nd na nb hz gG lp h1 h2 p p' (x:=u) (y:=v) (by simpa using hu) (by simpa using hv) λh' a1 a2 a3 a4 a5 kk=>?_
  refine ⟨.ref s.heap.objs.size,rfl,?_⟩
  refine wpAny_letOwnedTupleGo_zip a1 λh3 JF vY=>?_
  have Dq:=nd
  simp only [List.nodup_cons,List.mem_cons,List.not_mem_nil,or_false,not_or] at Dq
  obtain ⟨⟨wB,oT,mh,qv⟩,⟨TITO,TIi1,TIi2⟩,⟨TOi1,TOi2⟩,i12,_⟩:=Dq
  have lt:∀c∈[z,TI,TO,i1,i2],c≠s.heap.objs.size:=λc hc=>by
   simp only [List.mem_cons,List.not_mem_nil,or_false] at hc
   rcases hc with rfl | rfl | rfl | rfl | rfl
   . exact Nat.ne_of_lt (Heap.lt_size hz)
   . exact Nat.ne_of_lt (Heap.lt_size gG)
   . exact Nat.ne_of_lt (Heap.lt_size lp)
   . obtain ⟨o,e,_⟩:=h1.there
     exact Nat.ne_of_lt (Heap.lt_size e)
   . obtain ⟨o,e,_⟩:=h2.there
     exact Nat.ne_of_lt (Heap.lt_size e)
  have k3:∀c o,c≠z->h'.get? c=some o->h3.get? c=some o:=λc o n e=>vY.extBut _ _ n e
  have I1:Inv X pins σ (upd H s.heap.objs.size (.tup [x,y])) { s with heap:=h3,toks:=s.toks }:=I.pQ (its:=[u,v]) hf (λb o hb e1=>by
   simp only [List.mem_cons,List.not_mem_nil,or_false,not_or] at hb
   exact k3 b o hb.1 (kk b o hb.1 hb.2.2.1 hb.2.2.2.1 hb.2.2.2.2 e1)) (Nat.le_refl _) ⟨_,k3 _ _ (Ne.symm (lt z (by simp))) a5,rfl,_,rfl⟩ (.cons ru (.cons JE .nil)) (by show 2<=sizeLine; decide)
  have fr:H s.heap.objs.size=none:=I.hok.fresh (Nat.le_refl _)
  refine ⟨.ref s.heap.objs.size,_,I1,rfl,⟨s.heap.objs.size,x,y,rfl,fr,rfl,λLV h=>by rw [h.inj qx]; exact hx,λkz h=>by rw [h.inj zz]; exact hy⟩,⟨JF,k3 _ _ (Ne.symm wB) (kk _ _ (Ne.symm wB) TITO TIi1 TIi2 gG),⟨_,_,k3 _ _ (Ne.symm oT) a2⟩,a3.at λo e=>k3 _ o (Ne.symm mh) e,a4.at λo e=>k3 _ o (Ne.symm qv) e⟩,λb hb=>?_⟩
  rw [ai (lt b hb)]
  exact (hf b hb).1
 done:=by
  intro X hP hw hK hc i pins s σ H E I hf st hg
  subst hP hw hK
  obtain ⟨xs,qx,hx⟩:=hg
  obtain ⟨its,rv,p,JD⟩:=I.zh qx
  obtain ⟨hz,gG,⟨c,d,lp⟩,h1,h2⟩:=st
  have hl:=rv.length
  have na:a∉[z,TI,TO,i1,i2]:=λm=>by
   obtain ⟨o,e⟩:=qx.ex
   rw [(hf a m).1] at e
   cases e
  exact xF (I.ok.hd hc) nd na hz gG h1 p (a:=.none) (b:=.none) (by simp; omega) λh' kk=>⟨rfl,I.pP (t':=s.toks) hf λb o hb e1=>by
   simp only [List.mem_cons,List.not_mem_nil,or_false,not_or] at hb
   exact kk b o hb.1 hb.2.2.1 hb.2.2.2.1 hb.2.2.2.2 e1⟩
 self:=λ_ _ _ _ _ st h=>wpAny_pyIter_zip st.1 h
section
variable {X:Cx}
def E5 (ta:TA):TI:=λσ H R=>ta σ H λvs H1=>∃tp a b,vs=[.ref a,.ref b]/\(∃xs,ZH tp H1 a xs)/\(∃ys,ZH tp H1 b ys)/\R (zy tp a b) H1
theorem uC {es:List Expr}{kk:Nat}{pp:Pos}{a b:Expr}{ta:TA}{p pos:Pos}(hg:Gl X "zip") (hm:X.mg "zip" = none) (ha:PA X [a,b] ta) (hs:starEach [a,b] X.env=(false,eval a X.env)::starEach [b] X.env:=by rfl) (hp:(backTo pos (starEach [b] X.env)).any (·.1)=false:=by rfl) :
 PI X (.Tuple es kk pp) (.Call (.Name "zip" p) [a,b] [] pos) (E5 ta):=by
 intro pins s σ H R I h
 refine Call_ (eI I hg hm boot_zip (PyProof.Rows.callWith_type1 (aE (ha pos pins s σ H _ I h) λus s1 ⟨vs,H1,I1,r1,q1⟩=>?_) hs hp))
 obtain ⟨tp,l,m,e,⟨xs,hx⟩,⟨ys,hy⟩,q⟩:=q1
 subst e
 obtain ⟨u,v,rfl,ru,rv⟩:=vals2 r1
 cases (show u=Value.ref l from ru)
 cases (show v=Value.ref m from rv)
 obtain ⟨its,_,p1,_⟩:=I1.zh hx
 obtain ⟨its',_,p2,_⟩:=I1.zh hy
 refine xG p1 p2 λh' a1 a2 a3 a4 a5 kk=>?_
 refine wpAny_pyIter_zip a1 ?_
 have I2:Inv X pins σ H1 { s1 with heap:=h' }:=I1.kept (t':=s1.toks) kk
 refine ⟨_,_,_,_,H1,rfl,I2,vv (tp:=tp) (a:=l) (b:=m) (z:=s1.heap.objs.size+4) (TI:=s1.heap.objs.size+2) (TO:=s1.heap.objs.size+3) (i1:=s1.heap.objs.size) (i2:=s1.heap.objs.size+1) ?_,⟨a1,a2,⟨_,_,a3⟩,a4,a5⟩,λb hb=>?_,q⟩
 . simp
 . have ki:s1.heap.objs.size<=b:=by
    simp only [List.mem_cons,List.not_mem_nil,or_false] at hb
    rcases hb with rfl | rfl | rfl | rfl | rfl
    . exact Nat.le_add_right _ _
    . exact Nat.le_add_right _ _
    . exact Nat.le_add_right _ _
    . exact Nat.le_refl _
    . exact Nat.le_add_right _ _
   exact I1.ng ki (I1.hok.fresh ki)
end
end L2
namespace Gen
open PySem L2
abbrev gJ:Stmt:=top 19
theorem uD {K:W.Frag}{D a b:Addr}{bs cs:List Bool}{g:Int->Int->V}{f:Bool->Bool->Bool}{Q:Hp->Prop}{H:Hp}(hg:∀x y:Bool,g (if x=true then 1 else 0) (if y=true then 1 else 0)=bV (f x y)) (hD:H D=none) (ha:H a=some (.lst (bs.map bV))) (hb:H b=some (.lst (cs.map bV))) (hl:bs.length=cs.length) (hs:bs.length<=256)
 (fin:∀H',ao H H'->H' D=some (.lst ((List.zipWith f bs cs).map bV))->Q H') :
 ∃W:Nat->Nat->St->Hp->Prop,(∃m,W 0 m [none,none] (upd H D (.lst [])))/\sY D (m7 K 2 (eY (cD 0) (eY (cD 1) mZ))) jH (so (jY g) (qD 0) (qD 1)) (zy false a b) W Q:=by
 refine gi bs.length (λi acc σ H9=>acc=(List.zipWith f (bs.take i) (cs.take i)).map bV/\(∃u v,σ=[u,v])/\ao H H9) ⟨rfl,⟨none,none,rfl⟩,ao.aA hD⟩ ag ?_ ?_
 . rintro acc σ H9 cQ ⟨rfl,_,s9⟩
   rw [List.take_length,hl,List.take_length] at cQ
   exact ⟨⟨_,s9 _ _ ha,by rw [List.length_map]; exact Nat.le_refl _⟩,fin H9 s9 cQ⟩
 . rintro i acc σ H9 hi cQ ⟨rfl,⟨u,v,rfl⟩,s9⟩
   have Dr:i<cs.length:=by omega
   have e1:(bs.map bV)[i]?=some (bV bs[i]):=by rw [List.getElem?_map,List.getElem?_eq_getElem hi]; rfl
   have e2:(cs.map bV)[i]?=some (bV cs[i]):=by rw [List.getElem?_map,List.getElem?_eq_getElem Dr]; rfl
   refine ⟨⟨_,_,_,_,s9 _ _ ha,s9 _ _ hb,e1,e2⟩,?_⟩
   rintro x H' ⟨Tp,x1,y1,rfl,pR,rfl,w1,w2⟩
   have z1:=w1 _ (s9 _ _ ha)
   have z2:=w2 _ (s9 _ _ hb)
   rw [e1] at z1
   rw [e2] at z2
   cases z1
   cases z2
   refine ⟨Tp,_,rfl,ba.of ag,rfl,_,_,rfl,_,_,rfl,rfl,ub ?_⟩
   have JG:D≠Tp:=ah cQ pR
   refine ⟨_,rfl,_,rfl,_,_,rfl,rfl,_,(ai JG).trans cQ,?_,cG hi ag ⟨?_,⟨_,_,rfl⟩,λc o hc=>?_⟩⟩
   . rw [List.length_map,List.length_zipWith,List.length_take,List.length_take]
     exact small (by omega)
   . rw [hg,List.take_succ,List.take_succ,List.getElem?_eq_getElem hi,List.getElem?_eq_getElem Dr,Option.toList_some,Option.toList_some,List.zipWith_append (by rw [List.length_take,List.length_take]; omega),List.map_append]
     rfl
   . have e3:=s9 c o hc
     rw [ai (ah hc hD),ai (ah e3 pR)]
     exact e3
theorem lq {K:W.Frag}{D a:Addr}{bs:List Bool}{te:TE}{f:Bool->Bool}{Q:Hp->Prop}{H:Hp}(he:∀(x:Bool) (H:Hp) (R:VK),R (bV (f x)) H->te [some (bV x)] H R) (hD:H D=none) (ha:H a=some (.lst (bs.map bV))) (hs:bs.length<=256)
 (fin:∀H',ao H H'->H' D=some (.lst ((bs.map f).map bV))->Q H') :
 ∃W:Nat->Nat->St->Hp->Prop,(∃m,W 0 m [none] (upd H D (.lst [])))/\sY D (cD 0) jH te (pE K a) W Q:=by
 refine gi bs.length (λi acc σ H9=>acc=((bs.take i).map f).map bV/\(∃u,σ=[u])/\ao H H9) ⟨rfl,⟨none,rfl⟩,ao.aA hD⟩ ag ?_ ?_
 . rintro acc σ H9 cQ ⟨rfl,_,s9⟩
   rw [List.take_length] at cQ
   exact ⟨⟨_,ay.of (s9 _ _ ha),by rw [List.length_map]; exact Nat.le_refl _⟩,fin H9 s9 cQ⟩
 . rintro i acc σ H9 hi cQ ⟨rfl,⟨u,rfl⟩,s9⟩
   have e1:(bs.map bV)[i]?=some (bV bs[i]):=by rw [List.getElem?_map,List.getElem?_eq_getElem hi]; rfl
   refine ⟨⟨_,_,ay.of (s9 _ _ ha),e1⟩,?_⟩
   rintro x H' ⟨rfl,w1⟩
   have z1:=w1 _ (ay.of (s9 _ _ ha))
   rw [e1] at z1
   cases z1
   refine eO (he bs[i] _ _ ⟨_,cQ,?_,cG hi ag ⟨?_,⟨_,rfl⟩,λc o hc=>?_⟩⟩)
   . rw [List.length_map,List.length_map,List.length_take]
     exact small (by omega)
   . rw [List.take_succ,List.getElem?_eq_getElem hi,Option.toList_some,List.map_append,List.map_append]
     rfl
   . rw [ai (ah hc hD)]
     exact s9 c o hc
section
variable {P:Program}{w:World}{K:W.Frag}{mg:Str->Option Value}{base:Heap}
theorem vw {f fC fR fP fS:Addr}{fd dC dR dP dS:FuncData}(F:bY K "_law_order" "_law_order" dh f fd) (O:Own mg)
 (gC:av P w K mg base aH 1 fC dC ["_law_script", "_law_k"] (kq K)) (mC:mg "_law_cell_at" = some (.ref fC)) (kC:W.keepIn K (.ref fC)=true) (bC:Binds K dC ["_law_script", "_law_k"] [])
 (gR:av P w K mg base aH 2 fR dR ["_law_cell", "_law_k"] kr) (mR:mg "_law_rich" = some (.ref fR)) (kR:W.keepIn K (.ref fR)=true) (bR:Binds K dR ["_law_cell", "_law_k"] [])
 (gP:av P w K mg base aH 1 fP dP ["_law_left", "_law_many"] ku) (mP:mg "_law_pick" = some (.ref fP)) (kP:W.keepIn K (.ref fP)=true) (bP:Binds K dP ["_law_left", "_law_many"] [])
 (gS:av P w K mg base aH 2 fS dS ["_law_left", "_law_told"] (lF K)) (mS:mg "_law_spelt" = some (.ref fS)) (kS:W.keepIn K (.ref fS)=true) (bS:Binds K dS ["_law_left", "_law_told"] []):av P w K mg base aH 3 f fd ["_law_script"] (qt K):=by
 refine F.ok iW (λvs H Q E h=>?_) (λcdv A outer s H vs Q E hr h=>?_)
 . obtain ⟨a,ns,rfl,_⟩:=h
   rfl
 . obtain ⟨a,ns,rfl,ha,kk⟩:=h
   have cZ:bh 1 _:=hr.mono (by decide)
   obtain ⟨tA,hA,rA⟩:∃t,fu (gW aH P w K mg base zp "_law_order" (aj dh) f cdv A outer s H E).mX ((aK dh).drop 6) t/\
    ∀(x:V) (l nm:Addr) (xs:List V) (many:Nat) (H1:Hp),many<=8->ao H H1->H l=none->H nm=none->l≠nm->H1 l=some (.lst xs)->g7 xs->H1 nm=some (.lst [])->t { nx:=λ_ H'=>Q .aR H',rt:=Q } [some (.ref a),some x,some (.ref l),some (.ref nm),some (.int (many:Int)),none] H1:=by
    refine ⟨_,ae (fz PassesOwn.never rfl (cp rfl O.range (aa (pv 4) ab)) (aU (i:=5) iW.nd rfl (Or.inl rfl))
     (aq (lx (kd PySem.F.plainAttrs_list PySem.F.slot_list_append PySem.F.type_list_append gh (pv 3) (aa (az gS hr rfl mS kS bS .nil aw (aa (pv 2) (aa (pv 3) ab))) ab)))))
     (aq (aJ (pv 3))),?_⟩
    intro x l nm xs many H1 hm s1 hl mi nl ix yC JH
    refine ⟨_,rfl,_,rfl,Int.le_trans (by decide : -(2 ^ 62)<=(0:Int)) (by omega),Int.lt_of_le_of_lt (by omega:((many:Nat):Int)<=256) (by decide),du (n:=((many:Int)).toNat) (λi σ Hi=>∃(v5:Option V) (ys:List V) (names:List Str),σ=[some (.ref a),some x,some (.ref l),some (.ref nm),some (.int (many:Int)),v5]/\ao H Hi/\Hi l=some (.lst ys)/\g7 ys/\Hi nm=some (.lst (names.map V.str))/\names.length=i/\names.Nodup/\∀z∈names,cP z) ⟨none,xs,[],rfl,s1,ix,yC,JH,rfl,List.nodup_nil,λ_ h=>nomatch h⟩ ?_ ?_⟩
    . rintro i σ Hi hi ⟨v5,ys,names,rfl,si,Ds,wA,uE,hlen,zA,vx⟩
      rw [Int.toNat_natCast] at hi
      refine ⟨_,rfl,.inl ⟨rfl,_,ay.of uE⟩,_,rfl,_,rfl,l,nm,ys,names,rfl,Ds,wA,Ne.symm nl,ay.of uE,by omega,λz kz H2 hz JI iI dw k2=>?_⟩
      have pK:=k2 _ _ uE (Ne.symm nl)
      refine ⟨nm,_,_,rfl,rfl,pK,(by rw [List.length_map]; exact small (by omega)),?_⟩
      refine ⟨_,kz,names++[z],rfl,λc o hc=>?_,(ai nl).trans dw,iI,by rw [ag,List.map_append]; rfl,by rw [List.length_append,hlen]; rfl,?_,λy hy=>?_⟩
      . rw [ai (ah hc mi)]
        exact k2 _ _ (si _ _ hc) (ah hc hl)
      . rw [List.nodup_append]
        exact ⟨zA,List.pairwise_singleton _ _,λp hp q hq=>by rw [List.mem_singleton] at hq; rw [hq]; exact λe=>JI (e ▸ hp)⟩
      . rcases List.mem_append.mp hy with hy | hy
        . exact vx y hy
        . rw [List.mem_singleton.mp hy]
          exact hz
    . rintro σ Hi ⟨v5,ys,names,rfl,si,Ds,wA,uE,hlen,zA,vx⟩
      rw [Int.toNat_natCast] at hlen
      exact ⟨_,rfl,kk nm names Hi si mi ⟨uE,zA,λz hz=>xC (vx z hz),by omega⟩⟩
   obtain ⟨tB,hB,rB⟩:∃t,fu (gW aH P w K mg base zp "_law_order" (aj dh) f cdv A outer s H E).mX ((aK dh).drop 2) t/\
    ∀(x:Int),t { nx:=λ_ H'=>Q .aR H',rt:=Q } [some (.ref a),some (.int x),none,none,none,none] H:=by
    refine ⟨_,ae (ax (i:=2) iW.nd rfl (Or.inl rfl) (dW (aa (pv 1) ab)))
     (ae (ax (i:=3) iW.nd rfl (Or.inl rfl) (dW ab))
     (ae (ax (i:=4) iW.nd rfl (Or.inl rfl) (az gP cZ rfl mP kP bP .nil aw (aa (pv 2) (aa af ab))))
     (ae (bc (bq di (pv 4) af (bp _)) (aq (ax (i:=4) iW.nd rfl (Or.inl rfl) (aG df af (az gP cZ rfl mP kP bP .nil aw (aa (pv 2) (aa af ab)))))) aN) hA))),?_⟩
    intro x
    refine ⟨_,rfl,(by show 1<=sizeLine; decide),λl hl=>?_⟩
    have q1:(upd H l (.lst [.int x])) l=some (.lst [.int x]):=ag
    have s1:ao H (upd H l (.lst [.int x])):=ao.aA hl
    show dq _ _ _ _ (upd H l (.lst [.int x]))
    generalize upd H l (.lst [.int x])=H1 at q1 s1 ⊢
    refine ⟨(by show 0<=sizeLine; decide),λnm mi=>?_⟩
    have nl:l≠nm:=ah q1 mi
    have q2:(upd H1 nm (.lst [])) nm=some (.lst []):=ag
    have s2:ao H1 (upd H1 nm (.lst [])):=ao.aA mi
    have zB:H nm=none:=by
     cases e:H nm with
     | none=>rfl
     | some o=>rw [s1 _ _ e] at mi; cases mi
    show dq _ _ _ _ (upd H1 nm (.lst []))
    generalize upd H1 nm (.lst [])=H2 at q2 s2 ⊢
    have mf:=s1.trans s2
    refine ⟨_,rfl,l,_,8,rfl,s2 _ _ q1,.inl ⟨_,rfl⟩,by decide,by decide,λd ys H3 d0 d1 nU pW k3=>?_⟩
    have Dt:=k3 _ _ q2 (Ne.symm nl)
    have jv:ao H H3:=λc o hc=>k3 _ _ (mf _ _ hc) (ah hc hl)
    obtain ⟨dn,rfl⟩:=Int.eq_ofNat_of_zero_le d0
    refine ⟨_,rfl,rfl,_,rfl,?_⟩
    refine jG (λ_=>?_) (λ_=>?_)
    . refine ⟨_,rfl,l,_,2,rfl,pW,nU,by decide,by decide,λe zs H4 e0 e1 nW nQ k4=>?_⟩
      obtain ⟨en,rfl⟩:=Int.eq_ofNat_of_zero_le e0
      refine ⟨_,_,rfl,rfl,?_⟩
      exact rA _ l nm _ (7+en) H4 (by omega) (λc o hc=>k4 _ _ (jv _ _ hc) (ah hc hl)) hl zB nl nQ nW (k4 _ _ Dt (Ne.symm nl))
    . exact rA _ l nm _ dn H3 (by omega) jv hl zB nl pW nU Dt
   refine ⟨_,ae (ax (i:=1) iW.nd rfl (Or.inl rfl) (aG gu (az gC cZ rfl mC kC bC .nil aw (aa (pv 0) (aa af ab))) af))
    (ae (bc (bq di (aG fG (az gC cZ rfl mC kC bC .nil aw (aa (pv 0) (aa af ab))) af) af (bp _)) (aq (ax (i:=1) iW.nd rfl (Or.inl rfl) (az gR hr rfl mR kR bR .nil aw (aa (pv 1) (aa af ab))))) aN) hB),?_⟩
   refine ⟨_,rfl,a,ns,0,rfl,ha,by decide,λx=>⟨_,_,rfl,rfl,⟨by decide,by decide⟩,?_⟩⟩
   refine ⟨_,rfl,a,ns,0,rfl,ha,by decide,λc=>⟨_,_,rfl,rfl,(by show (0:Int)<2; decide),rfl,_,rfl,?_⟩⟩
   exact jG (λ_=>⟨_,rfl,_,0,rfl,by decide,by decide,λz=>rB z⟩) (λ_=>rB _)
end
end Gen
namespace Gen
open PySem L2
abbrev ib:Stmt:=top 20
theorem qy:∀(b:List Str),PyData.eqvAll (b.map PyData.str) (b.map PyData.str)=true
 | []=>rfl
 | x::b=>by rw [List.map_cons,PyData.eqvAll,qy b,PyData.eqv,beq_self_eq_true]; rfl
theorem qz:∀(b:List Str),PyData.depthAll (b.map PyData.str)=0
 | []=>rfl
 | _::b=>by rw [List.map_cons,PyData.depthAll,qz b]; rfl
structure Row (H:Hp) (q:Addr) (bs:List Bool) (n:Nat):Prop where
 at_:H q=some (.lst (bs.map bV))
 len:bs.length=2 ^ n
theorem Row.same {H H':Hp}{q:Addr}{bs:List Bool}{n:Nat}(h:Row H q bs n) (s:ao H H'):Row H' q bs n:=⟨s _ _ h.at_,h.len⟩
theorem Ord.same {H H':Hp}{o:Addr}{names:List Str}(h:Ord H o names) (s:ao H H'):Ord H' o names:=⟨s _ _ h.at_,h.nd,h.ok,h.n8⟩
def lN:Sp:=λvs H Q _=>∃(p q r:Addr) (names:List Str) (bs cs:List Bool),vs=[.ref p,.ref q,.ref r]/\Ord H p names/\Row H q bs names.length/\Row H r cs names.length/\∀H',ao H H'->Q (.bl true) H'
section
variable (P:Program) (w:World) (K:W.Frag) (mg:Str->Option Value) (base:Heap)
structure zC (fK fS fB fE fO:Addr) (dK dS dB dE dO:FuncData):Prop where
 gK:av P w K mg base aH 18 fK dK ju (gF 9)
 mK:mg "_law_canon" = some (.ref fK)
 kK:W.keepIn K (.ref fK)=true
 bK:Binds K dK ju []
 gS:av P w K mg base aH 9 fS dS gb (eE 9)
 mS:mg "_law_same_tree" = some (.ref fS)
 kS:W.keepIn K (.ref fS)=true
 bS:Binds K dS gb []
 gB:av P w K mg base aH 11 fB dB jt (mv and)
 mB:mg "both" = some (.ref fB)
 kB:W.keepIn K (.ref fB)=true
 bB:Binds K dB jt []
 gE:av P w K mg base aH 11 fE dE jt (mv or)
 mE:mg "either" = some (.ref fE)
 kE:W.keepIn K (.ref fE)=true
 bE:Binds K dE jt []
 gO:av P w K mg base aH 10 fO dO ["tree"] rC
 mO:mg "opposite" = some (.ref fO)
 kO:W.keepIn K (.ref fO)=true
 bO:Binds K dO ["tree"] []
end
abbrev JJ:List Str:=["_law_names", "_law_one", "_law_other", "_law_order_here", "_law_first", "_law_second", "_law_due"]
abbrev qB:List Str:=["_law_names", "_law_one", "_law_other"]
theorem rN:(["_law_a", "_law_b"]:List Str).Nodup:=by decide +kernel
theorem E6:(["_law_a"]:List Str).Nodup:=by decide +kernel
theorem vy:(["_law_bit"]:List Str).Nodup:=by decide +kernel
section
variable {P:Program}{w:World}{K:W.Frag}{mg:Str->Option Value}{base:Heap}{fK fS fB fE fO:Addr}{dK dS dB dE dO:FuncData}
theorem jU:aQ JJ qB (aj gJ):=⟨rfl,rfl,rfl,by decide +kernel,rfl,by decide +kernel,by decide +kernel⟩
theorem vz {f:Addr}{fd:FuncData}(F:bY K "_law_right" "_law_right" gJ f fd) (O2:fQ mg) (G:zC P w K mg base fK fS fB fE fO dK dS dB dE dO):av P w K mg base aH 19 f fd qB lN:=by
 refine F.ok jU (λvs H Q E h=>?_) (λcdv A outer s H vs Q E hr h=>?_)
 . obtain ⟨p,q,r,names,bs,cs,rfl,_⟩:=h
   rfl
 . obtain ⟨p,q,r,names,bs,cs,rfl,hO,hb,hc,kk⟩:=h
   have hu:=i8 hr
   have zD:bh 9 _:=hr.mono (by decide)
   have Du:bh 11 _:=hr.mono (by decide)
   have JK:bh 10 _:=hr.mono (by decide)
   refine ⟨_,ae (ax (i:=3) jU.nd rfl (Or.inl rfl) (gg iJ (by rfl) O2.list PyProof.Rows.boot_list (aa (pv 0) ab)))
    (ae (ax (i:=4) jU.nd rfl (Or.inl rfl) (az G.gK hr rfl G.mK G.kK G.bK .nil aw (aa (pv 0) (aa (pv 1) ab))))
    (ae (ax (i:=5) jU.nd rfl (Or.inl rfl) (az G.gK hr rfl G.mK G.kK G.bK .nil aw (aa (pv 0) (aa (pv 2) ab))))
    (ae (ax (i:=6) jU.nd rfl (Or.inl rfl) (az G.gK hr rfl G.mK G.kK G.bK .nil aw (aa (pv 0) (aa (dj (N:=["_law_a", "_law_b"]) (js:=[none,none]) (g:=m7 K 2 (eY (cD 0) (eY (cD 1) mZ))) (by kernel_rfl) rfl (uC rfl O2.zip (aa (pv 1) (aa (pv 2) ab)))
     (λ_ _ _ _ _ _=>nc rfl (d7 (aU (i:=0) rN rfl (Or.inl rfl) (.inr rfl)) (d7 (aU (i:=1) rN rfl (Or.inl rfl) (.inr rfl)) ly))) (λ_ _ _ _ _ _=>bz) (λ_ _ _ _ _ _=>aG ni (pv 0) (pv 1))) ab))))
    (ae (bc (eJ (cS (az G.gS zD rfl G.mS G.kS G.bS .nil aw (aa (az G.gB Du rfl G.mB G.kB G.bB .nil aw (aa (pv 3) (aa (pv 4) (aa (pv 5) ab)))) (aa (pv 6) ab))))) (aq (aJ dJ)) aN)
    (ae (ax (i:=6) jU.nd rfl (Or.inl rfl) (az G.gK hr rfl G.mK G.kK G.bK .nil aw (aa (pv 0) (aa (dj (N:=["_law_a", "_law_b"]) (js:=[none,none]) (g:=m7 K 2 (eY (cD 0) (eY (cD 1) mZ))) (by kernel_rfl) rfl (uC rfl O2.zip (aa (pv 1) (aa (pv 2) ab)))
     (λ_ _ _ _ _ _=>nc rfl (d7 (aU (i:=0) rN rfl (Or.inl rfl) (.inr rfl)) (d7 (aU (i:=1) rN rfl (Or.inl rfl) (.inr rfl)) ly))) (λ_ _ _ _ _ _=>bz) (λ_ _ _ _ _ _=>aG AF (pv 0) (pv 1))) ab))))
    (ae (bc (eJ (cS (az G.gS zD rfl G.mS G.kS G.bS .nil aw (aa (az G.gE Du rfl G.mE G.kE G.bE .nil aw (aa (pv 3) (aa (pv 4) (aa (pv 5) ab)))) (aa (pv 6) ab))))) (aq (aJ dJ)) aN)
    (ae (ax (i:=6) jU.nd rfl (Or.inl rfl) (az G.gK hr rfl G.mK G.kK G.bK .nil aw (aa (pv 0) (aa (dj (N:=["_law_a"]) (js:=[none]) (by kernel_rfl) rfl (fk (pv 1))
     (λ_ _ _ _ _ _=>aU (i:=0) E6 rfl (Or.inl rfl) (.inr rfl)) (λ_ _ _ _ _ _=>bz) (λ_ _ _ _ _ _=>aG sr af (pv 0))) ab))))
    (aq (aJ (jX (az G.gS zD rfl G.mS G.kS G.bS .nil aw (aa (az G.gO JK rfl G.mO G.kO G.bO .nil aw (aa (pv 4) ab)) (aa (pv 6) ab))) (mV (i0 (xw (n:=1) hu) (pv 3) (pv 0) (bp _))))))))))))),?_⟩
   have n8:=hO.n8
   have hp:=oS n8
   have bl:=hb.len
   have cl:=hc.len
   have mj:names.length<9:=by omega
   refine ⟨_,rfl,p,_,rfl,.inl (ay.of hO.at_),λoh JL=>?_⟩
   have s1:ao H (upd H oh (.lst (names.map V.str))):=ao.aA JL
   have q1:(upd H oh (.lst (names.map V.str))) oh=some (.lst (names.map V.str)):=ag
   show dq _ _ _ _ (upd H oh (.lst (names.map V.str)))
   generalize upd H oh (.lst (names.map V.str))=H1 at s1 q1 ⊢
   have oO:Ord H1 oh names:=⟨q1,hO.nd,hO.ok,hO.n8⟩
   refine ⟨_,rfl,_,rfl,p,q,names,bs,rfl,s1 _ _ hO.at_,s1 _ _ hb.at_,mj,n8,bl,λv1 H2 s2 r1=>?_⟩
   have mf:=s1.trans s2
   refine ⟨_,rfl,_,rfl,p,r,names,cs,rfl,mf _ _ hO.at_,mf _ _ hc.at_,mj,n8,cl,λv2 H3 s3 r2=>?_⟩
   have jv:=mf.trans s3
   have r1:=r1.keep (bF s3)
   refine ⟨_,rfl,_,rfl,_,rfl,false,q,r,rfl,⟨_,jv _ _ hb.at_⟩,⟨_,jv _ _ hc.at_⟩,λD hD=>uD (f:=and) (λx y=>by cases x <;> cases y <;> decide +kernel) hD (jv _ _ hb.at_) (jv _ _ hc.at_) (by rw [bl,cl]) (by omega) λH4 s4 tP=>?_⟩
   have uo:=jv.trans s4
   have zl:(List.zipWith and bs cs).length=2 ^ names.length:=by rw [List.length_zipWith,bl,cl,Nat.min_self]
   refine ⟨p,D,names,_,rfl,uo _ _ hO.at_,tP,mj,n8,zl,λv3 H5 s5 r3=>?_⟩
   have iU:=s4.trans s5
   have Dv:=(s2.trans s3).trans iU
   refine ⟨_,rfl,_,rfl,_,rfl,oh,v1,v2,names,_,_,rfl,oO.same Dv,r1.keep (bF iU),r2.keep (bF iU),cj _ _,cj _ _,λv4 t4 H6 s6 r4 c4 e4=>?_⟩
   have et:t4=cn names (List.zipWith and bs cs):=cL hO.nd c4 (cj _ _) λe=>by rw [e4 e,kZ and e names bs cs bl cl]
   refine ⟨_,rfl,_,_,_,_,rfl,r4,r3.keep (bF s6),Nat.lt_of_le_of_lt (bG c4) mj,_,rfl,aY (by rw [decide_eq_true et]; rfl) ?_⟩
   have JM:=iU.trans s6
   have JN:=Dv.trans s6
   have uF:=s1.trans JN
   refine ⟨_,rfl,_,rfl,_,rfl,false,q,r,rfl,⟨_,uF _ _ hb.at_⟩,⟨_,uF _ _ hc.at_⟩,λD2 nS=>uD (f:=or) (λx y=>by cases x <;> cases y <;> decide +kernel) nS (uF _ _ hb.at_) (uF _ _ hc.at_) (by rw [bl,cl]) (by omega) λH7 s7 JO=>?_⟩
   have ur:=uF.trans s7
   have JP:(List.zipWith or bs cs).length=2 ^ names.length:=by rw [List.length_zipWith,bl,cl,Nat.min_self]
   refine ⟨p,D2,names,_,rfl,ur _ _ hO.at_,JO,mj,n8,JP,λv5 H8 s8 r5=>?_⟩
   have wD:=JM.trans (s7.trans s8)
   have JQ:=(s2.trans s3).trans wD
   refine ⟨_,rfl,_,rfl,_,rfl,oh,v1,v2,names,_,_,rfl,oO.same JQ,r1.keep (bF wD),r2.keep (bF wD),cj _ _,cj _ _,λv6 t6 H9 s9 r6 c6 e6=>?_⟩
   have JR:t6=cn names (List.zipWith or bs cs):=cL hO.nd c6 (cj _ _) λe=>by rw [e6 e,kZ or e names bs cs bl cl]
   refine ⟨_,rfl,_,_,_,_,rfl,r6,r5.keep (bF s9),Nat.lt_of_le_of_lt (bG c6) mj,_,rfl,aY (by rw [decide_eq_true JR]; rfl) ?_⟩
   have Dw:=wD.trans s9
   have zE:=jv.trans Dw
   refine ⟨_,rfl,_,rfl,q,rfl,⟨_,ay.of (zE _ _ hb.at_)⟩,λD3 nV=>lq (f:=not) (λx H R hR=>⟨_,rfl,_,_,rfl,rfl,by cases x <;> exact hR⟩) nV (zE _ _ hb.at_) (by omega) λHa sa JS=>?_⟩
   refine ⟨p,D3,names,_,rfl,sa _ _ (zE _ _ hO.at_),JS,mj,n8,by rw [List.length_map]; exact bl,λv7 Hb sb r7=>?_⟩
   have Dx:=Dw.trans (sa.trans sb)
   refine ⟨_,rfl,v1,_,rfl,r1.keep (bF Dx),Nat.le_trans (bG (cj _ _)) n8,qc (cj _ _) hO.ok,λv8 Hc sc r8=>?_⟩
   have JT:neg (cn names bs)=cn names (bs.map not):=cL hO.nd (xx (cj _ _)) (cj _ _) λe=>by rw [oa,oH e names bs bl]
   have Dy:=Dx.trans sc
   have Dz:=jv.trans Dy
   have JU:=(s2.trans s3).trans Dy
   refine ⟨_,rfl,_,_,_,_,rfl,r8,r7.keep (bF sc),?_,_,rfl,bQ (decide_eq_true JT) ?_⟩
   . rw [lG]
     exact Nat.lt_of_le_of_lt (bG (cj _ _)) mj
   have lay:(PyData.list (names.map PyData.str)).canLay0=true:=by
    rw [PyData.canLay0]
    exact pY λd hd=>by
     obtain ⟨z,hz,rfl⟩:=List.mem_map.mp hd
     rw [PyData.canLay0]
     exact hO.ok z hz
   refine ⟨_,rfl,_,rfl,.list (names.map PyData.str),.list (names.map PyData.str),.lst (ay.of (JU _ _ q1)) (jN names),.lst (ay.of (Dz _ _ hO.at_)) (jN names),lay,lay,?_,?_⟩
   . rw [PyData.depth,qz]
     exact Nat.min_le_left _ _
   . rw [PyData.eqv,qy]
     exact kk Hc Dz
end
end Gen
namespace Gen
open PySem L2
def mw (K:W.Frag):Sp:=λvs H Q _=>∃(a:Addr) (ns:List Int),vs=[.ref a]/\ay K H a (ns.map V.int)/\∀H',Q (.bl true) H'
abbrev E7:List Str:=["_law_script", "_law_names", "_law_k", "_law_one", "_law_other", "_law_full", "_law_none", "_law_some", "_law_back"]
section
variable (P:Program) (w:World) (K:W.Frag) (mg:Str->Option Value) (base:Heap)
structure zF (fD fN fT fR fU:Addr) (dD dN dT dR dU:FuncData):Prop where
 gD:av P w K mg base aH 3 fD dD ["_law_script"] (qt K)
 mD:mg "_law_order" = some (.ref fD)
 kD:W.keepIn K (.ref fD)=true
 bD:Binds K dD ["_law_script"] []
 gN:av P w K mg base aH 3 fN dN ["_law_script", "_law_k"] (oQ K)
 mN:mg "_law_number" = some (.ref fN)
 kN:W.keepIn K (.ref fN)=true
 bN:Binds K dN ["_law_script", "_law_k"] []
 gT:av P w K mg base aH 1 fT dT ux uv
 mT:mg "_law_bits" = some (.ref fT)
 kT:W.keepIn K (.ref fT)=true
 bT:Binds K dT ux []
 gR:av P w K mg base aH 19 fR dR qB lN
 mR:mg "_law_right" = some (.ref fR)
 kR:W.keepIn K (.ref fR)=true
 bR:Binds K dR qB []
 gU:av P w K mg base aH 1 fU dU uy oR
 mU:mg "_law_turned" = some (.ref fU)
 kU:W.keepIn K (.ref fU)=true
 bU:Binds K dU uy []
end
theorem Ord.rev {H:Hp}{o p:Addr}{names:List Str}(h:Ord H o names) (hp:H p=some (.lst (names.reverse.map V.str))):Ord H p names.reverse:=⟨hp,List.pairwise_reverse.mpr (List.Pairwise.imp (λh z=>h z.symm) h.nd),λn hn=>h.ok n (List.mem_reverse.mp hn),by rw [List.length_reverse]; exact h.n8⟩
section
variable {P:Program}{w:World}{K:W.Frag}{mg:Str->Option Value}{base:Heap}{fD fN fT fR fU:Addr}{dD dN dT dR dU:FuncData}
theorem fi:aQ E7 ["_law_script"] (aj ib):=⟨rfl,rfl,rfl,by decide +kernel,rfl,by decide +kernel,by decide +kernel⟩
theorem zG {f:Addr}{fd:FuncData}(F:bY K "law" "law" ib f fd) (O:Own mg) (O2:fQ mg) (G:zF P w K mg base fD fN fT fR fU dD dN dT dR dU):av P w K mg base aH 20 f fd ["_law_script"] (mw K):=by
 refine F.ok fi (λvs H Q E h=>?_) (λcdv A outer s H vs Q E hr h=>?_)
 . obtain ⟨a,ns,rfl,_⟩:=h
   rfl
 . obtain ⟨a,ns,rfl,ha,kk⟩:=h
   have zH:bh 3 _:=hr.mono (by decide)
   have cZ:bh 1 _:=hr.mono (by decide)
   refine ⟨_,ae (ax (i:=1) fi.nd rfl (Or.inl rfl) (az G.gD zH rfl G.mD G.kD G.bD .nil aw (aa (pv 0) ab)))
    (ae (fz PassesOwn.never rfl (cp rfl O.range (aa (aG df af (aO (sy rfl) (by rfl) O2.min PyProof.Rows.boot_min (aa (aM (r:=eg K) br (dW (aa af (aa af ab))) (gg sA (by rfl) O2.int PyProof.Rows.boot_int (aa (i0 AG (aO aP (by rfl) O2.len PySem.boot_len (aa (pv 1) ab)) af (bp _)) ab)) (λ_ _=>rfl))
     (aa (aG gu (aO aP (by rfl) O2.len PySem.boot_len (aa (cF gv (pv 0) (cK af) (cK af)) ab)) af) ab)))) ab)) (aU (i:=2) fi.nd rfl (Or.inl rfl))
     (ae (ax (i:=3) fi.nd rfl (Or.inl rfl) (az G.gT cZ rfl G.mT G.kT G.bT .nil aw (aa (az G.gN zH rfl G.mN G.kN G.bN .nil aw (aa (pv 0) (aa (aG df af (aG dQ af (pv 2))) ab))) (aa (aO aP (by rfl) O2.len PySem.boot_len (aa (pv 1) ab)) ab))))
     (ae (ax (i:=4) fi.nd rfl (Or.inl rfl) (az G.gT cZ rfl G.mT G.kT G.bT .nil aw (aa (az G.gN zH rfl G.mN G.kN G.bN .nil aw (aa (pv 0) (aa (aG df af (aG dQ af (pv 2))) ab))) (aa (aO aP (by rfl) O2.len PySem.boot_len (aa (pv 1) ab)) ab))))
     (ae (qU (i:=5) (N:=["_law_bit"]) (js:=[none]) fi.nd rfl rfl (by kernel_rfl) rfl (fk (pv 3)) (λ_ _ _ _ _ _=>aU (i:=0) vy rfl (Or.inl rfl) (.inr rfl)) (λ_ _ _ _ _ _=>bz) (λ_ _ _ _ _ _=>af))
     (ae (qU (i:=6) (N:=["_law_bit"]) (js:=[none]) fi.nd rfl rfl (by kernel_rfl) rfl (fk (pv 3)) (λ_ _ _ _ _ _=>aU (i:=0) vy rfl (Or.inl rfl) (.inr rfl)) (λ_ _ _ _ _ _=>bz) (λ_ _ _ _ _ _=>af))
     (aq (fz PassesOwn.never rfl (fk (dW (aa (pv 4) (aa (pv 5) (aa (pv 6) (aa (pv 3) (aa (dj (N:=["_law_bit"]) (js:=[none]) (by kernel_rfl) rfl (fk (pv 3)) (λ_ _ _ _ _ _=>aU (i:=0) vy rfl (Or.inl rfl) (.inr rfl)) (λ_ _ _ _ _ _=>bz) (λ_ _ _ _ _ _=>aG sr af (pv 0))) ab))))))) (aU (i:=7) fi.nd rfl (Or.inl rfl))
      (ae (bc (PW.pt (iZ (eJ (cS (az G.gR hr rfl G.mR G.kR G.bR .nil aw (aa (pv 1) (aa (pv 3) (aa (pv 7) ab)))))) (jW (eJ (cS (az G.gR hr rfl G.mR G.kR G.bR .nil aw (aa (pv 1) (aa (pv 7) (aa (pv 3) ab))))))))) (aq (aJ dJ)) aN)
      (ae (ax (i:=8) fi.nd rfl (Or.inl rfl) (dW (aa (az G.gU cZ rfl G.mU G.kU G.bU .nil aw (aa (pv 3) (aa (aO aP (by rfl) O2.len PySem.boot_len (aa (pv 1) ab)) ab))) (aa (az G.gU cZ rfl G.mU G.kU G.bU .nil aw (aa (pv 7) (aa (aO aP (by rfl) O2.len PySem.boot_len (aa (pv 1) ab)) ab))) ab))))
      (ae (bc (PW.pt (rV (bq di (pv 2) af (bp _)) (pD (eJ (cS (az G.gR hr rfl G.mR G.kR G.bR .nil aw (aa (zm (by rfl) O2.list (by rfl) O2.rev rfl (aa (pv 1) ab)) (aa (aM (r:=eg K) br (pv 8) af (λ_ _=>rfl)) (aa (aM (r:=eg K) br (pv 8) af (λ_ _=>rfl)) ab))))))))) (aq (aJ dJ)) aN)
      (aq (bc (PW.pt (rV (bq di (pv 2) af (bp _)) (pD (eJ (cS (az G.gR hr rfl G.mR G.kR G.bR .nil aw (aa (pv 1) (aa (pv 3) (aa (pv 7) ab))))))))) (aq (aJ dJ)) aN))))))))))))
    (aq (aJ dJ))),?_⟩
   refine ⟨_,rfl,a,ns,rfl,ha,λnm names H1 s1 mi hO=>?_⟩
   have n8:=hO.n8
   have hp:=oS n8
   have t7:=ao.seq s1 ha
   have wF:(names.map V.str).length<=8:=by rw [List.length_map]; exact n8
   refine ⟨(by show 2<=sizeLine; decide),λL hL=>?_⟩
   have s2:ao H1 (upd H1 L (.lst [.int 10,.int 2])):=ao.aA hL
   have q2:(upd H1 L (.lst [.int 10,.int 2])) L=some (.lst [.int 10,.int 2]):=ag
   generalize upd H1 L (.lst [.int 10,.int 2])=H2 at s2 q2 ⊢
   refine ⟨_,rfl,nm,_,rfl,.inl (ay.of (s2 _ _ hO.at_)),_,_,rfl,rfl,.inr ⟨_,rfl,?_⟩⟩
   obtain ⟨m0,Df,JV⟩:∃m0:Int,(m0=10\/m0=2)/\ij [V.int 10,V.int 2] (if decide ((6:Int)<(((names.map V.str).length:Nat):Int))=true then 1 else 0)=some (.int m0):=by
    by_cases h:(6:Int)<(((names.map V.str).length:Nat):Int)
    . exact ⟨2,.inr rfl,by rw [decide_eq_true h]; rfl⟩
    . exact ⟨10,.inl rfl,by rw [decide_eq_false h]; rfl⟩
   refine ⟨L,_,_,.int m0,rfl,rfl,ay.of q2,JV,?_⟩
   refine ⟨_,rfl,_,rfl,_,rfl,a,_,rfl,ao.seq s2 t7,λc hc=>?_⟩
   have s3:ao H2 (upd H2 c (.lst (cy (ns.map V.int) (some 1) (some 63)))):=ao.aA hc
   have q3:(upd H2 c (.lst (cy (ns.map V.int) (some 1) (some 63)))) c=some (.lst (cy (ns.map V.int) (some 1) (some 63))):=ag
   generalize upd H2 c (.lst (cy (ns.map V.int) (some 1) (some 63)))=H3 at s3 q3 ⊢
   have j0:0<=(((cy (ns.map V.int) (some 1) (some 63)).length:Nat):Int) / 2:=by omega
   refine ⟨c,_,rfl,.inl (ay.of q3),_,_,rfl,rfl,⟨by decide,by decide⟩,_,_,rfl,_,_,rfl,rfl,?_⟩
   have JW:=s2.trans s3
   have DA:(1:Int)+(if (((cy (ns.map V.int) (some 1) (some 63)).length:Nat):Int) / 2<m0 then (((cy (ns.map V.int) (some 1) (some 63)).length:Nat):Int) / 2 else m0)<=11:=by split <;> omega
   have DB : -(2 ^ 62)<=(1:Int)+(if (((cy (ns.map V.int) (some 1) (some 63)).length:Nat):Int) / 2<m0 then (((cy (ns.map V.int) (some 1) (some 63)).length:Nat):Int) / 2 else m0):=by
    have:(-1:Int)<=(if (((cy (ns.map V.int) (some 1) (some 63)).length:Nat):Int) / 2<m0 then (((cy (ns.map V.int) (some 1) (some 63)).length:Nat):Int) / 2 else m0):=by
     split <;> omega
    exact Int.le_trans (by decide : -(2 ^ 62)<=(0:Int)) (by omega)
   refine ⟨_,rfl,DB,Int.lt_of_le_of_lt DA (by decide),du (λi σ Hi=>∃(v2 v3 v4 v5 v6 v7 v8:Option V),σ=[some (.ref a),some (.ref nm),v2,v3,v4,v5,v6,v7,v8]/\ao H1 Hi) ⟨none,none,none,none,none,none,none,rfl,JW⟩ ?_ ?_⟩
   . rintro i σ Hi hi ⟨v2,v3,v4,v5,v6,v7,v8,rfl,si⟩
     have Lu:(i:Int)<11:=by omega
     clear DA DB hi
     have JX:=ao.seq si t7
     have JY:=hO.same si
     refine ⟨_,rfl,_,rfl,_,_,rfl,rfl,.inl ⟨by decide,by decide⟩,_,_,rfl,rfl,a,ns,_,rfl,JX,by omega,by omega,λx1=>?_⟩
     refine ⟨_,rfl,nm,_,rfl,.inl (ay.of JY.at_),x1,_,rfl,wF,λq bs H4 s4 _ y4 lb=>?_⟩
     rw [List.length_map] at lb
     have r1:Row H4 q bs names.length:=⟨y4,lb⟩
     have zI:=si.trans s4
     refine ⟨_,rfl,_,rfl,_,_,rfl,rfl,.inl ⟨by decide,by decide⟩,_,_,rfl,rfl,a,ns,_,rfl,ao.seq zI t7,by omega,by omega,λx2=>?_⟩
     refine ⟨_,rfl,nm,_,rfl,.inl (ay.of (zI _ _ hO.at_)),x2,_,rfl,wF,λq' JZ H5 s5 _ J0 DC=>?_⟩
     rw [List.length_map] at DC
     have r2:Row H5 q' JZ names.length:=⟨J0,DC⟩
     have zJ:=r1.same s5
     refine ⟨_,rfl,q,rfl,⟨_,ay.of zJ.at_⟩,λD1 tO=>lq (f:=λ_=>true) (λx H R hR=>hR) tO zJ.at_ (by omega) λH6 s6 J1=>?_⟩
     have r3:Row H6 D1 (bs.map λ_=>true) names.length:=⟨J1,by rw [List.length_map]; exact lb⟩
     have zK:=zJ.same s6
     refine ⟨_,rfl,q,rfl,⟨_,ay.of zK.at_⟩,λD2 nS=>lq (f:=λ_=>false) (λx H R hR=>hR) nS zK.at_ (by omega) λH7 s7 J2=>?_⟩
     have r4:Row H7 D2 (bs.map λ_=>false) names.length:=⟨J2,by rw [List.length_map]; exact lb⟩
     have zL:=zK.same s7
     refine ⟨_,rfl,_,rfl,_,rfl,_,rfl,_,rfl,q,rfl,⟨_,ay.of zL.at_⟩,λD3 nV=>lq (f:=not) (λx H R hR=>⟨_,rfl,_,_,rfl,rfl,by cases x <;> exact hR⟩) nV zL.at_ (by omega) λH8 s8 J3=>?_⟩
     have r5:Row H8 D3 (bs.map not) names.length:=⟨J3,by rw [List.length_map]; exact lb⟩
     refine ⟨(by show 5<=sizeLine; decide),λLL J4=>?_⟩
     have s9:ao H8 (upd H8 LL (.lst [.ref q',.ref D1,.ref D2,.ref q,.ref D3])):=ao.aA J4
     have q9:(upd H8 LL (.lst [.ref q',.ref D1,.ref D2,.ref q,.ref D3])) LL=some (.lst [.ref q',.ref D1,.ref D2,.ref q,.ref D3]):=ag
     generalize upd H8 LL (.lst [.ref q',.ref D1,.ref D2,.ref q,.ref D3])=H9 at s9 q9 ⊢
     have DD:=zI.trans (s5.trans (s6.trans (s7.trans (s8.trans s9))))
     have uG:=zL.same (s8.trans s9)
     have J5:=hO.same DD
     have rows:∀x∈[V.ref q',.ref D1,.ref D2,.ref q,.ref D3],∃r cs,x=.ref r/\Row H9 r cs names.length:=λx hx=>by
      simp only [List.mem_cons,List.not_mem_nil,or_false] at hx
      rcases hx with rfl | rfl | rfl | rfl | rfl
      . exact ⟨_,_,rfl,r2.same (s6.trans (s7.trans (s8.trans s9)))⟩
      . exact ⟨_,_,rfl,r3.same (s7.trans (s8.trans s9))⟩
      . exact ⟨_,_,rfl,r4.same (s8.trans s9)⟩
      . exact ⟨_,_,rfl,uG⟩
      . exact ⟨_,_,rfl,r5.same s9⟩
     refine ⟨LL,rfl,⟨_,ay.of q9⟩,uP (K:=K) (a:=LL) (xs:=[V.ref q',.ref D1,.ref D2,.ref q,.ref D3]) (λ_ σ Hi=>∃(v7 v8:Option V),σ=[some (.ref a),some (.ref nm),some (.int (0+(i:Int))),some (.ref q),some (.ref q'),some (.ref D1),some (.ref D2),v7,v8]/\ao H9 Hi) ?_ ?_ ?_ ?_⟩
     . exact ⟨_,_,rfl,λ_ _ h=>h⟩
     . rintro j σ Hj _ ⟨v7,v8,rfl,sj⟩
       exact ay.of (sj _ _ q9)
     . rintro j xv σ Hj hx ⟨v7,v8,rfl,sj⟩
       obtain ⟨r,cs,rfl,oW⟩:=rows _ (List.mem_of_getElem? hx)
       have ord:∀{Hx:Hp},ao H9 Hx->Ord Hx nm names:=λs=>J5.same s
       refine ⟨_,rfl,_,rfl,_,rfl,nm,q,r,names,bs,cs,rfl,ord sj,uG.same sj,oW.same sj,λHa sa=>⟨_,rfl,aY rfl ?_⟩⟩
       have wG:=sj.trans sa
       refine ⟨_,rfl,_,rfl,_,rfl,nm,r,q,names,cs,bs,rfl,ord wG,oW.same wG,uG.same wG,λHb sb=>⟨_,rfl,aY rfl ?_⟩⟩
       have zM:=wG.trans sb
       refine ⟨_,rfl,_,rfl,nm,_,rfl,.inl (ay.of (ord zM).at_),q,bs,_,rfl,wF,(uG.same zM).at_,by rw [List.length_map]; exact lb,λt1 e1 Hc sc _ y9 DE=>?_⟩
       have zN:=zM.trans sc
       refine ⟨_,rfl,_,rfl,nm,_,rfl,.inl (ay.of (ord zN).at_),r,cs,_,rfl,wF,(oW.same zN).at_,by rw [List.length_map]; exact oW.len,λt2 e2 Hd sd _ hd2 DF=>?_⟩
       rw [List.length_map] at DE DF
       refine ⟨(by show 2<=sizeLine; decide),λB hB=>?_⟩
       have se:ao Hd (upd Hd B (.lst [.ref t1,.ref t2])):=ao.aA hB
       have qe:(upd Hd B (.lst [.ref t1,.ref t2])) B=some (.lst [.ref t1,.ref t2]):=ag
       show dq _ _ _ _ (upd Hd B (.lst [.ref t1,.ref t2]))
       generalize upd Hd B (.lst [.ref t1,.ref t2])=He at se qe ⊢
       have zO:=zN.trans (sd.trans se)
       refine ⟨_,rfl,rfl,_,rfl,?_⟩
       by_cases hk:i=0
       . refine bQ (decide_eq_true (by rw [hk]; rfl)) ?_
         refine ⟨_,rfl,nm,_,rfl,ay.of (ord zO).at_,λl hl=>?_⟩
         rw [← List.map_reverse]
         have sf:ao He (upd He l (.lst (names.reverse.map V.str))):=ao.aA hl
         have qf:(upd He l (.lst (names.reverse.map V.str))) l=some (.lst (names.reverse.map V.str)):=ag
         generalize upd He l (.lst (names.reverse.map V.str))=Hf at sf qf ⊢
         have DG:=zO.trans sf
         refine ⟨_,rfl,B,_,0,_,rfl,rfl,ay.of (sf _ _ qe),aF (j:=0) rfl,_,rfl,B,_,1,_,rfl,rfl,ay.of (sf _ _ qe),aF (j:=1) rfl,l,t1,t2,names.reverse,e1,e2,rfl,(ord DG).rev qf,⟨sf _ _ (se _ _ (sd _ _ y9)),by rw [List.length_reverse]; exact DE⟩,⟨sf _ _ (se _ _ hd2),by rw [List.length_reverse]; exact DF⟩,λHg sg=>⟨_,rfl,aY rfl ?_⟩⟩
         have wH:=DG.trans sg
         refine ⟨_,rfl,rfl,_,rfl,bQ (decide_eq_true (by rw [hk]; rfl)) ?_⟩
         refine ⟨_,rfl,_,rfl,_,rfl,nm,q,r,names,bs,cs,rfl,ord wH,uG.same wH,oW.same wH,λHh sh=>⟨_,rfl,aY rfl ?_⟩⟩
         exact ⟨_,_,rfl,wH.trans sh⟩
       . have iL:decide (V.int (0+(i:Int))=V.int 0)=false:=decide_eq_false λz=>hk (by have:=V.int.inj z; omega)
         refine aY iL (gp ⟨_,rfl,rfl,_,rfl,aY iL (gp ⟨_,_,rfl,zO⟩)⟩)
     . rintro σ Hj ⟨v7,v8,rfl,sj⟩
       exact ⟨_,_,_,_,_,_,_,rfl,DD.trans sj⟩
   . rintro σ Hi ⟨v2,v3,v4,v5,v6,v7,v8,rfl,si⟩
     exact kk Hi
end
end Gen
namespace Gen
open PySem L2
section
variable {P:Program}{w:World}{K:W.Frag}{mg:Str->Option Value}{base:Heap}{C:Addr}
theorem ft {k:Nat}{f:Addr}{fd:FuncData}{ps:List Str}{sp:Sp}(h:∀vs H Q E,¬ sp vs H Q E):av P w K mg base aH k f fd ps sp:=⟨λvs H Q E q=>(h _ _ _ _ q).elim,λA outer s H args us vs Q E _ _ _ _ q=>(h _ _ _ _ q).elim⟩
theorem ml {f fN:Addr}{fd dN:FuncData}(F:bY K "taken" "Forest.taken" fV f fd) (T:eX K mg C) (mT:Meth K C "taken" f) (bT:Binds K fd ["self", "tree"] []) (gN:av P w K mg base aH 1 fN dN iw (gx P w C)) (mN:Meth K C "node" fN) (bN:Binds K dN iw []) :
 ∀d,av P w K mg base aH (d+1) f fd ["self", "tree"] (je P w C d)
 | 0=>ft λvs H Q E ⟨_,_,_,_,_,_,_,_,_,_,_,_,_,_,_,_,_,_,h,_⟩=>Nat.not_lt_zero _ h
 | d+1=>vh F T (ml F T mT bT gN mN bN d) mT bT gN mN bN
theorem jw {f:Addr}{fd:FuncData}(F:bY K "tree_at" "Forest.tree_at" eB f fd) (T:eX K mg C) (mT:Meth K C "tree_at" f) (bT:Binds K fd ["self", "number"] []):∀d,av P w K mg base aH (d+1) f fd ["self", "number"] (hJ P w C d)
 | 0=>ft λvs H Q E ⟨_,_,_,_,_,_,_,_,_,_,_,_,_,_,_,_,h,_⟩=>Nat.not_lt_zero _ h
 | d+1=>rp F T (jw F T mT bT d) mT bT
theorem lr {f fN fH:Addr}{fd dN dH:FuncData}(F:bY K "chosen" "Forest.chosen" eD f fd) (T:eX K mg C) (O2:fQ mg) (mC:Meth K C "chosen" f) (bC:Binds K fd kM []) (gN:av P w K mg base aH 1 fN dN iw (gx P w C)) (mN:Meth K C "node" fN) (bN:Binds K dN iw [])
 (gH:av P w K mg base aH 1 fH dH ["self", "number", "spot", "side"] (kG P w C)) (mH:Meth K C "half" fH) (bH:Binds K dH ["self", "number", "spot", "side"] []):∀d,av P w K mg base aH (d+1) f fd kM (hU P w C d)
 | 0=>ft λvs H Q E ⟨_,_,_,_,_,_,_,_,_,_,_,_,_,_,_,_,_,_,_,_,h,_⟩=>Nat.not_lt_zero _ h
 | d+1=>t8 F T O2 (lr F T O2 mC bC gN mN bN gH mH bH d) mC bC gN mN bN gH mH bH
theorem qC {f:Addr}{fd:FuncData}(F:bY K "opposite_by" "opposite_by" fW f fd) (mO:mg "opposite_by" = some (.ref f)) (bO:Binds K fd kX []):∀d,av P w K mg base aH d f fd kX (jh P w d)
 | 0=>ft λvs H Q E ⟨_,_,_,_,_,_,_,_,_,_,h,_⟩=>Nat.not_lt_zero _ h
 | d+1=>uk F (qC F mO bO d) mO bO
theorem oX {f:Addr}{fd:FuncData}(F:bY K "_law_same_tree" "_law_same_tree" fZ f fd) (T:fQ mg) (mS:mg "_law_same_tree" = some (.ref f)) (bS:Binds K fd gb []):∀d,av P w K mg base aH d f fd gb (eE d)
 | 0=>ft λvs H Q E ⟨_,_,_,_,_,_,_,h,_⟩=>Nat.not_lt_zero _ h
 | d+1=>oI F T (oX F T mS bS d) mS bS
theorem mm {f fS:Addr}{fd dS:FuncData}(F:bY K "_law_canon" "_law_canon" fX f fd) (O2:fQ mg) (mC:mg "_law_canon" = some (.ref f)) (bC:Binds K fd ju [])
 (gS:av P w K mg base aH 9 fS dS gb (eE 9)) (mS:mg "_law_same_tree" = some (.ref fS)) (kS:W.keepIn K (.ref fS)=true) (bS:Binds K dS gb []):∀d,av P w K mg base aH (d+9) f fd ju (gF d)
 | 0=>ft λvs H Q E ⟨_,_,_,_,_,_,_,h,_⟩=>Nat.not_lt_zero _ h
 | d+1=>(show d+9+1=d+1+9 by omega) ▸ vm F O2 (mm F O2 mC bC gS mS kS bS d) mC bC gS mS kS bS
end
end Gen
namespace L2
open PySem PySem.Spec PyProof.Rows
theorem vA {α:Type} : ∀{us:List α},us.length=1->∃a,us=[a]
 | [a],_=>⟨a,rfl⟩
theorem vB {α:Type} : ∀{us:List α}{n:Nat},us.length=n+1->∃a r,us=a::r/\r.length=n
 | a::r,_,h=>⟨a,r,rfl,Nat.succ.inj h⟩
theorem dr {α:Type}{us:List α}(h:us.length=2):∃a b,us=[a,b]:=by
 obtain ⟨a,r,rfl,h1⟩:=vB h
 obtain ⟨b,rfl⟩:=vA h1
 exact ⟨a,b,rfl⟩
theorem rO {α:Type}{us:List α}(h:us.length=3):∃a b c,us=[a,b,c]:=by
 obtain ⟨a,r,rfl,h1⟩:=vB h
 obtain ⟨b,c,rfl⟩:=dr h1
 exact ⟨a,b,c,rfl⟩
theorem vC {α:Type}{us:List α}(h:us.length=4):∃a b c d,us=[a,b,c,d]:=by
 obtain ⟨a,r,rfl,h1⟩:=vB h
 obtain ⟨b,c,d,rfl⟩:=rO h1
 exact ⟨a,b,c,d,rfl⟩
end L2
namespace Gen
open PySem L2
section
theorem all_mk {l:W.OpenLaw}{w:World}{K:W.Frag}{h:Heap}{mg:Str->Option Value}{fa C oY oZ o2 o3 o4 o6 f2 f3 f4 f5 f8 f9 wI wJ wK wL wM zP zQ zR zS wN zT:Addr}(X:K.In h) (G:h.Ns mainGlobals mg) (J6:mg "law" = some (.ref fa))
 {Bi Bj Bk Bl Bm Bn Bo Bp Bq Br Bs Bt J7 J8 J9 Ka Kb Kc Kd Ke Kf Kg Kh Ki E8 E9 Fb Fc Fd Fe Ff Fg Fh Fi Fj Fl Fm Fn Fo Fp Fq Fs Ft Fu Fv zU:Option Addr}{Bu Bv Bw Bx By Bz Kj Kk Kl Km Kn Ko Fw Fx Fy Fz FA FC FD FE FF FG FH:Array (Option Value)}{BA BB BC BD wO BE BF BG BH BI wQ BJ BK BL BM BN wR BO BP BQ BR BS wU BU BV BW BX BY wV BZ B0 B5 B6 B7 wW B8 Kq Kr Ks Kt DH Ku Kv Kw Kx Ky DI Kz KA KC KD KG DJ KH KI KJ KL KN DK KO KP KQ KR KS DL KU KW KY KZ K0 DM K1 FI FJ FK FL zV FN FQ FR FT FU zW FV FW FX FY FZ zX F0 F1 F6 F7 Ga zY Gb Gd Ge Gf Gg zZ Gh Gi Gj Gk Gm Aa Gn Gp Gq Gr Gs Ab Gu Gv Gw Gx Gy Ac Gz GA GB GC GD Ad GG GH GI GJ GK Ae GL GN Af Ag Ah vD Ai:Value}
 (aC:W.nsIn K mainGlobals "Forest" = some (some (.ref C)))
 (a100:W.findIn K (.ref C) "__init__" = some (some (.ref oY))) (i100:W.isFn K (.ref oY)=true) (l100:K.lookup oY=some ⟨BA,Bi,.func (W.fnOf "__init__" "Forest.__init__" (aL gz) (aK gz) (aj gz) .none BB BC BD Bj wO BE),Bu⟩) (c100:W.codeIn K wO "Forest.__init__" = true) (k100:W.keepIn K (.ref oY)=true)
 (a101:W.findIn K (.ref C) "node" = some (some (.ref oZ))) (i101:W.isFn K (.ref oZ)=true) (l101:K.lookup oZ=some ⟨BF,Bk,.func (W.fnOf "node" "Forest.node" (aL jc) (aK jc) (aj jc) .none BG BH BI Bl wQ BJ),Bv⟩) (c101:W.codeIn K wQ "Forest.node" = true) (k101:W.keepIn K (.ref oZ)=true)
 (a102:W.findIn K (.ref C) "taken" = some (some (.ref o2))) (i102:W.isFn K (.ref o2)=true) (l102:K.lookup o2=some ⟨BK,Bm,.func (W.fnOf "taken" "Forest.taken" (aL fV) (aK fV) (aj fV) .none BL BM BN Bn wR BO),Bw⟩) (c102:W.codeIn K wR "Forest.taken" = true) (k102:W.keepIn K (.ref o2)=true)
 (a103:W.findIn K (.ref C) "tree_at" = some (some (.ref o3))) (i103:W.isFn K (.ref o3)=true) (l103:K.lookup o3=some ⟨BP,Bo,.func (W.fnOf "tree_at" "Forest.tree_at" (aL eB) (aK eB) (aj eB) .none BQ BR BS Bp wU BU),Bx⟩) (c103:W.codeIn K wU "Forest.tree_at" = true) (k103:W.keepIn K (.ref o3)=true)
 (a104:W.findIn K (.ref C) "chosen" = some (some (.ref o4))) (i104:W.isFn K (.ref o4)=true) (l104:K.lookup o4=some ⟨BV,Bq,.func (W.fnOf "chosen" "Forest.chosen" (aL eD) (aK eD) (aj eD) .none BW BX BY Br wV BZ),By⟩) (c104:W.codeIn K wV "Forest.chosen" = true) (k104:W.keepIn K (.ref o4)=true)
 (a105:W.findIn K (.ref C) "half" = some (some (.ref o6))) (i105:W.isFn K (.ref o6)=true) (l105:K.lookup o6=some ⟨B0,Bs,.func (W.fnOf "half" "Forest.half" (aL jd) (aK jd) (aj jd) .none B5 B6 B7 Bt wW B8),Bz⟩) (c105:W.codeIn K wW "Forest.half" = true) (k105:W.keepIn K (.ref o6)=true)
 (a2:W.nsIn K mainGlobals "both" = some (some (.ref f2))) (l2:K.lookup f2=some ⟨Kq,J7,.func (W.fnOf "both" "both" (aL jf) (aK jf) (aj jf) .none Kr Ks Kt J8 DH Ku),Kj⟩) (c2:W.codeIn K DH "both" = true) (k2:W.keepIn K (.ref f2)=true)
 (a3:W.nsIn K mainGlobals "either" = some (some (.ref f3))) (l3:K.lookup f3=some ⟨Kv,J9,.func (W.fnOf "either" "either" (aL fm) (aK fm) (aj fm) .none Kw Kx Ky Ka DI Kz),Kk⟩) (c3:W.codeIn K DI "either" = true) (k3:W.keepIn K (.ref f3)=true)
 (a4:W.nsIn K mainGlobals "opposite" = some (some (.ref f4))) (l4:K.lookup f4=some ⟨KA,Kb,.func (W.fnOf "opposite" "opposite" (aL lJ) (aK lJ) (aj lJ) .none KC KD KG Kc DJ KH),Kl⟩) (c4:W.codeIn K DJ "opposite" = true) (k4:W.keepIn K (.ref f4)=true)
 (a5:W.nsIn K mainGlobals "opposite_by" = some (some (.ref f5))) (l5:K.lookup f5=some ⟨KI,Kd,.func (W.fnOf "opposite_by" "opposite_by" (aL fW) (aK fW) (aj fW) .none KJ KL KN Ke DK KO),Km⟩) (c5:W.codeIn K DK "opposite_by" = true) (k5:W.keepIn K (.ref f5)=true)
 (a8:W.nsIn K mainGlobals "_law_cell_at" = some (some (.ref f8))) (l8:K.lookup f8=some ⟨KP,Kf,.func (W.fnOf "_law_cell_at" "_law_cell_at" (aL ja) (aK ja) (aj ja) .none KQ KR KS Kg DL KU),Kn⟩) (c8:W.codeIn K DL "_law_cell_at" = true) (k8:W.keepIn K (.ref f8)=true)
 (a9:W.nsIn K mainGlobals "_law_mix" = some (some (.ref f9))) (l9:K.lookup f9=some ⟨KW,Kh,.func (W.fnOf "_law_mix" "_law_mix" (aL jK) (aK jK) (aj jK) .none KY KZ K0 Ki DM K1),Ko⟩) (c9:W.codeIn K DM "_law_mix" = true) (k9:W.keepIn K (.ref f9)=true)
 (a10:W.nsIn K mainGlobals "_law_rich" = some (some (.ref wI))) (l10:K.lookup wI=some ⟨FI,E8,.func (W.fnOf "_law_rich" "_law_rich" (aL jb) (aK jb) (aj jb) .none FJ FK FL E9 zV FN),Fw⟩) (c10:W.codeIn K zV "_law_rich" = true) (k10:W.keepIn K (.ref wI)=true)
 (a11:W.nsIn K mainGlobals "_law_pick" = some (some (.ref wJ))) (l11:K.lookup wJ=some ⟨FQ,Fb,.func (W.fnOf "_law_pick" "_law_pick" (aL g6) (aK g6) (aj g6) .none FR FT FU Fc zW FV),Fx⟩) (c11:W.codeIn K zW "_law_pick" = true) (k11:W.keepIn K (.ref wJ)=true)
 (a12:W.nsIn K mainGlobals "_law_spelt" = some (some (.ref wK))) (l12:K.lookup wK=some ⟨FW,Fd,.func (W.fnOf "_law_spelt" "_law_spelt" (aL eN) (aK eN) (aj eN) .none FX FY FZ Fe zX F0),Fy⟩) (c12:W.codeIn K zX "_law_spelt" = true) (k12:W.keepIn K (.ref wK)=true)
 (a13:W.nsIn K mainGlobals "_law_canon" = some (some (.ref wL))) (l13:K.lookup wL=some ⟨F1,Ff,.func (W.fnOf "_law_canon" "_law_canon" (aL fX) (aK fX) (aj fX) .none F6 F7 Ga Fg zY Gb),Fz⟩) (c13:W.codeIn K zY "_law_canon" = true) (k13:W.keepIn K (.ref wL)=true)
 (a14:W.nsIn K mainGlobals "_law_same_tree" = some (some (.ref wM))) (l14:K.lookup wM=some ⟨Gd,Fh,.func (W.fnOf "_law_same_tree" "_law_same_tree" (aL fZ) (aK fZ) (aj fZ) .none Ge Gf Gg Fi zZ Gh),FA⟩) (c14:W.codeIn K zZ "_law_same_tree" = true) (k14:W.keepIn K (.ref wM)=true)
 (a15:W.nsIn K mainGlobals "_law_order" = some (some (.ref zP))) (l15:K.lookup zP=some ⟨Gi,Fj,.func (W.fnOf "_law_order" "_law_order" (aL dh) (aK dh) (aj dh) .none Gj Gk Gm Fl Aa Gn),FC⟩) (c15:W.codeIn K Aa "_law_order" = true) (k15:W.keepIn K (.ref zP)=true)
 (a16:W.nsIn K mainGlobals "_law_number" = some (some (.ref zQ))) (l16:K.lookup zQ=some ⟨Gp,Fm,.func (W.fnOf "_law_number" "_law_number" (aL fo) (aK fo) (aj fo) .none Gq Gr Gs Fn Ab Gu),FD⟩) (c16:W.codeIn K Ab "_law_number" = true) (k16:W.keepIn K (.ref zQ)=true)
 (a17:W.nsIn K mainGlobals "_law_bits" = some (some (.ref zR))) (l17:K.lookup zR=some ⟨Gv,Fo,.func (W.fnOf "_law_bits" "_law_bits" (aL ji) (aK ji) (aj ji) .none Gw Gx Gy Fp Ac Gz),FE⟩) (c17:W.codeIn K Ac "_law_bits" = true) (k17:W.keepIn K (.ref zR)=true)
 (a18:W.nsIn K mainGlobals "_law_turned" = some (some (.ref zS))) (l18:K.lookup zS=some ⟨GA,Fq,.func (W.fnOf "_law_turned" "_law_turned" (aL fq) (aK fq) (aj fq) .none GB GC GD Fs Ad GG),FF⟩) (c18:W.codeIn K Ad "_law_turned" = true) (k18:W.keepIn K (.ref zS)=true)
 (a19:W.nsIn K mainGlobals "_law_right" = some (some (.ref wN))) (l19:K.lookup wN=some ⟨GH,Ft,.func (W.fnOf "_law_right" "_law_right" (aL gJ) (aK gJ) (aj gJ) .none GI GJ GK Fu Ae GL),FG⟩) (c19:W.codeIn K Ae "_law_right" = true) (k19:W.keepIn K (.ref wN)=true)
 (a20:W.nsIn K mainGlobals "law" = some (some (.ref zT))) (l20:K.lookup zT=some ⟨GN,Fv,.func (W.fnOf "law" "law" (aL ib) (aK ib) (aj ib) .none Af Ag Ah zU vD Ai),FH⟩) (c20:W.codeIn K vD "law" = true) (k20:W.keepIn K (.ref zT)=true)
 (pg:W.plainGet K C Str.empty=true) (hd:W.hasDictIn K C=true) (po:W.plainOver K C=true) (sa:W.findIn K (.ref C) "__setattr__" = some (some (.builtin "object.__setattr__"))) (mk:W.makesIn K C=true) (kc:W.keepIn K (.ref C)=true)
 (n1:W.findIn K (.ref C) "names" = some none) (n2:W.findIn K (.ref C) "spots" = some none) (n3:W.findIn K (.ref C) "nodes" = some none) (n4:W.findIn K (.ref C) "known" = some none) (n5:W.findIn K (.ref C) "choices" = some none) (n6:W.findIn K (.ref C) "imported" = some none) (n7:W.findIn K (.ref C) "exported" = some none)
 (z0:W.nsIn K mainGlobals "len" = some none) (z1:W.nsIn K mainGlobals "range" = some none) (z2:W.nsIn K mainGlobals "enumerate" = some none) (z3:W.nsIn K mainGlobals "list" = some none) (z4:W.nsIn K mainGlobals "dict" = some none) (z5:W.nsIn K mainGlobals "tuple" = some none) (z6:W.nsIn K mainGlobals "str" = some none) (z7:W.nsIn K mainGlobals "int" = some none) (z8:W.nsIn K mainGlobals "bool" = some none) (z9:W.nsIn K mainGlobals "zip" = some none) (z10:W.nsIn K mainGlobals "isinstance" = some none) (z11:W.nsIn K mainGlobals "min" = some none) (z12:W.nsIn K mainGlobals "reversed" = some none)
 :
 ∃fd:FuncData,(∀(s:Shared) (v:Value),BindsTo s fd ⟨[v],[]⟩ [("_law_script",v)])/\∀base:Heap,K.In base->base.Ns mainGlobals mg->av l.prog w K mg base aH 20 fa fd ["_law_script"] (mw K):=by
 have e:=J6.symm.trans (W.mg_of X G a20)
 cases e
 have T:eX K mg C:=⟨⟨pg,hd,po,sa⟩,n1,n2,n3,n4,n5,n6,n7,W.mg_of X G aC⟩
 have O:Own mg:=⟨W.mg_none_of X G z0,W.mg_none_of X G z1,W.mg_none_of X G z2,W.mg_none_of X G z3⟩
 have O2:fQ mg:=⟨W.mg_none_of X G z0,W.mg_none_of X G z3,W.mg_none_of X G z4,W.mg_none_of X G z5,W.mg_none_of X G z6,W.mg_none_of X G z7,W.mg_none_of X G z8,W.mg_none_of X G z9,W.mg_none_of X G z10,W.mg_none_of X G z11,W.mg_none_of X G z12⟩
 have Aj:=aZ (st:=gz) l100 c100 k100
 have GO:=Aj.binds (ps:=["self", "order"]) λ_ _ _ _ _ _ us hl=>by obtain ⟨_,_,rfl⟩:=dr hl; rfl
 have Ak:=aZ (st:=jc) l101 c101 k101
 have Al:=Ak.binds (ps:=iw) λ_ _ _ _ _ _ us hl=>by obtain ⟨_,_,_,_,rfl⟩:=vC hl; rfl
 have Am:=aZ (st:=fV) l102 c102 k102
 have An:=Am.binds (ps:=["self", "tree"]) λ_ _ _ _ _ _ us hl=>by obtain ⟨_,_,rfl⟩:=dr hl; rfl
 have Ao:=aZ (st:=eB) l103 c103 k103
 have Ap:=Ao.binds (ps:=["self", "number"]) λ_ _ _ _ _ _ us hl=>by obtain ⟨_,_,rfl⟩:=dr hl; rfl
 have Aq:=aZ (st:=eD) l104 c104 k104
 have Ar:=Aq.binds (ps:=kM) λ_ _ _ _ _ _ us hl=>by obtain ⟨_,_,_,_,rfl⟩:=vC hl; rfl
 have As:=aZ (st:=jd) l105 c105 k105
 have GQ:=As.binds (ps:=["self", "number", "spot", "side"]) λ_ _ _ _ _ _ us hl=>by obtain ⟨_,_,_,_,rfl⟩:=vC hl; rfl
 have F2:=aZ (st:=jf) l2 c2 k2
 have m2:=W.mg_of X G a2
 have b2:=F2.binds (ps:=jt) λ_ _ _ _ _ _ us hl=>by obtain ⟨_,_,_,rfl⟩:=rO hl; rfl
 have F3:=aZ (st:=fm) l3 c3 k3
 have m3:=W.mg_of X G a3
 have b3:=F3.binds (ps:=jt) λ_ _ _ _ _ _ us hl=>by obtain ⟨_,_,_,rfl⟩:=rO hl; rfl
 have F4:=aZ (st:=lJ) l4 c4 k4
 have m4:=W.mg_of X G a4
 have b4:=F4.binds (ps:=["tree"]) λ_ _ _ _ _ _ us hl=>by obtain ⟨_,rfl⟩:=vA hl; rfl
 have F5:=aZ (st:=fW) l5 c5 k5
 have m5:=W.mg_of X G a5
 have b5:=F5.binds (ps:=kX) λ_ _ _ _ _ _ us hl=>by obtain ⟨_,_,rfl⟩:=dr hl; rfl
 have F8:=aZ (st:=ja) l8 c8 k8
 have m8:=W.mg_of X G a8
 have b8:=F8.binds (ps:=["_law_script", "_law_k"]) λ_ _ _ _ _ _ us hl=>by obtain ⟨_,_,rfl⟩:=dr hl; rfl
 have F9:=aZ (st:=jK) l9 c9 k9
 have m9:=W.mg_of X G a9
 have b9:=F9.binds (ps:=["_law_cell", "_law_k"]) λ_ _ _ _ _ _ us hl=>by obtain ⟨_,_,rfl⟩:=dr hl; rfl
 have DN:=aZ (st:=jb) l10 c10 k10
 have DO:=W.mg_of X G a10
 have DP:=DN.binds (ps:=["_law_cell", "_law_k"]) λ_ _ _ _ _ _ us hl=>by obtain ⟨_,_,rfl⟩:=dr hl; rfl
 have Au:=aZ (st:=g6) l11 c11 k11
 have DQ:=W.mg_of X G a11
 have DR:=Au.binds (ps:=["_law_left", "_law_many"]) λ_ _ _ _ _ _ us hl=>by obtain ⟨_,_,rfl⟩:=dr hl; rfl
 have DS:=aZ (st:=eN) l12 c12 k12
 have K2:=W.mg_of X G a12
 have K3:=DS.binds (ps:=["_law_left", "_law_told"]) λ_ _ _ _ _ _ us hl=>by obtain ⟨_,_,rfl⟩:=dr hl; rfl
 have DT:=aZ (st:=fX) l13 c13 k13
 have DU:=W.mg_of X G a13
 have DV:=DT.binds (ps:=ju) λ_ _ _ _ _ _ us hl=>by obtain ⟨_,_,rfl⟩:=dr hl; rfl
 have DW:=aZ (st:=fZ) l14 c14 k14
 have Av:=W.mg_of X G a14
 have Aw:=DW.binds (ps:=gb) λ_ _ _ _ _ _ us hl=>by obtain ⟨_,_,rfl⟩:=dr hl; rfl
 have DX:=aZ (st:=dh) l15 c15 k15
 have K4:=W.mg_of X G a15
 have K5:=DX.binds (ps:=["_law_script"]) λ_ _ _ _ _ _ us hl=>by obtain ⟨_,rfl⟩:=vA hl; rfl
 have DY:=aZ (st:=fo) l16 c16 k16
 have K6:=W.mg_of X G a16
 have K7:=DY.binds (ps:=["_law_script", "_law_k"]) λ_ _ _ _ _ _ us hl=>by obtain ⟨_,_,rfl⟩:=dr hl; rfl
 have DZ:=aZ (st:=ji) l17 c17 k17
 have K8:=W.mg_of X G a17
 have K9:=DZ.binds (ps:=ux) λ_ _ _ _ _ _ us hl=>by obtain ⟨_,_,rfl⟩:=dr hl; rfl
 have D0:=aZ (st:=fq) l18 c18 k18
 have La:=W.mg_of X G a18
 have Lb:=D0.binds (ps:=uy) λ_ _ _ _ _ _ us hl=>by obtain ⟨_,_,rfl⟩:=dr hl; rfl
 have D5:=aZ (st:=gJ) l19 c19 k19
 have Lc:=W.mg_of X G a19
 have Ld:=D5.binds (ps:=qB) λ_ _ _ _ _ _ us hl=>by obtain ⟨_,_,_,rfl⟩:=rO hl; rfl
 have Le:=aZ (st:=ib) l20 c20 k20
 have LW:=W.mg_of X G a20
 refine ⟨W.fnOf "law" "law" (aL ib) (aK ib) (aj ib) .none Af Ag Ah zU vD Ai,λs v=>.of_eq rfl,λbase _ _=>?_⟩
 have gP:av l.prog w K mg base aH 1 wJ _ ["_law_left", "_law_many"] ku:=pT Au O
 have gS:av l.prog w K mg base aH 2 wK _ ["_law_left", "_law_told"] (lF K):=vd DS O Au DR DQ
 have gR:av l.prog w K mg base aH 2 wI _ ["_law_cell", "_law_k"] kr:=xq DN O F9 b9 m9
 have gC:av l.prog w K mg base aH 1 f8 _ ["_law_script", "_law_k"] (kq K):=xp F8 O
 have D6:av l.prog w K mg base aH 1 oZ _ iw (gx l.prog w C):=xA Ak T O2
 have Lf:av l.prog w K mg base aH 1 o6 _ ["self", "number", "spot", "side"] (kG l.prog w C):=xy As T
 have GF:oC l.prog w K mg base C oY o2 o4 o3 _ _ _ _:=⟨vj Aj T O2 O,⟨mk,a100,i100,kc⟩,GO,ml Am T ⟨a102,i102,k102⟩ An D6 ⟨a101,i101,k101⟩ Al 9,⟨a102,i102,k102⟩,An,lr Aq T O2 ⟨a104,i104,k104⟩ Ar D6 ⟨a101,i101,k101⟩ Al Lf ⟨a105,i105,k105⟩ GQ 9,⟨a104,i104,k104⟩,Ar,jw Ao T ⟨a103,i103,k103⟩ Ap 9,⟨a103,i103,k103⟩,Ap⟩
 have D7:av l.prog w K mg base aH 9 wM _ gb (eE 9):=oX DW O2 Av Aw 9
 have gK:av l.prog w K mg base aH 18 wL _ ju (gF 9):=mm DT O2 DU DV D7 Av k14 Aw 9
 have gO:av l.prog w K mg base aH 10 f4 _ ["tree"] rC:=zi F4 (qC F5 m5 b5 9) m5 k5 b5
 have Lg:av l.prog w K mg base aH 19 wN _ qB lN:=vz D5 O2 ⟨gK,DU,k13,DV,D7,Av,k14,Aw,xB F2 T GF,m2,k2,b2,ui F3 T GF,m3,k3,b3,gO,m4,k4,b4⟩
 exact zG Le O O2 ⟨vw DX O gC m8 k8 b8 gR DO k10 DP gP DQ k11 DR gS K2 k12 K3,K4,k15,K5,uw DY gC m8 k8 b8 gR DO k10 DP,K6,k16,K7,xD DZ O,K8,k17,K9,Lg,Lc,k19,Ld,uz D0 O,La,k18,Lb⟩
theorem walk {l:W.OpenLaw}{q:Program}{loose:List Str}{XP:(Str->Option Value)->Heap->Prop}{YP:World->Heap->Prop}{d:DefRec}{K:Params->W.Frag}(hn:l.most=some 63) (sS:d.params.defaults=[])
 (hY:∀(w:World) (h:Heap),YP w h->(K w.params).In h)
 (F:∀(w:World) (mg:Str->Option Value) (fa:Addr) (h:Heap),(K w.params).In h->h.Ns mainGlobals mg->mg d.name=some (.ref fa)->
  ∃fd:FuncData,(∀(s:Shared) (u:Value),BindsTo s fd ⟨[u],[]⟩ [("_law_script",u)])/\∀base:Heap,(K w.params).In base->base.Ns mainGlobals mg->av l.prog w (K w.params) mg base aH 20 fa fd ["_law_script"] (mw (K w.params))) :
 W.WalkO q loose XP YP l.row.toRowW d [] (λf vs=>PySem.call f vs):=
 L2.xk (n:=63) (k:=20) (x:="_law_script") (CX:=λ_=>aH) (sp:=λw=>mw (K w.params)) hn (by decide) sS ⟨rfl,by decide,by decide⟩ hY F (λ_ _ a ns hl _ hS=>⟨a,ns,rfl,hS,λ_=>rfl⟩) λ_ _ _ _ _ z=>z
end
end Gen
open PySem PySem.W PyProof.Rows
inductive PySem.W.Fast : Prop
|tw13961107265327808615
|tw11537962435785240291
|tw3301607667316800857
|tw1357577324647465025
|te1357577324647465025
|tw4230363761523911527
|tw3850112160681732123
|tw8335085593149610841
|tw16537459755189513021
|tw6369663081738478511
|tw2565076680140494025
|tw1677138175377096181
|tw4157440116182784690
|tw14508013367135004017
|tw11702465874128421451
|tw6458717133561144589
|tw2472686925335804322
|tw3938849628973887905
|tw4020483499101935454
|tw8812991483709297029
|tw17690693832420468667
|tw14848990163635564481
|tw553805275957224580
|tw3962920601887969676
|tw410544101284030884
|tw17192385370180630922
|tw8002540156360885369
|tw5358512655854750093
|tw5457495581375758252
|tw4421145029013893590
|tw1323175959089869011
|tw6430137736499379644
|tw2621352814612241874
|tw16394701185923003093
|tw16426369405429237452
|tw1460543289778215528
|tw6358522786668024025
|tw1293715775411584548
|tw9661376806470539319
|tw2581337231094311870
|tw12006147763847527966
|tw11036544522542055500
|tw2932962907931774449
|tw9380654403128776795
|tw16800929146958655261
|tw12651789718720587820
|tw4845161005440459135
|tw7496709601932245727
|tw5580476441568477229
|tw4904387302876449788
|tw13064203106570965029
|tw13509243134201677742
|tw16848849314375213911
|tw15091515980441340006
|tw14345170597614449193
|tw9092430587445193681
|tw4094276836958548433
|tw15068851128481529477
|tw8988992946735562994
|tw10731370386755074078
|tw8402110840151126918
|tw4256861908376987892
|tw17075988903065117175
|tw10192501493305069011
|tw8661390961036561161
|tw4094115284297597965
|tw6746479678527989108
|tw20327227025193387
|tw10280655071174900706
|tw17701765644168097032
|tw5251163374681884350
|tw7529727113592846194
|tw10223408701785279737
|tw12381988342438724872
|tw8285354107569856117
|tw14688332823720573028
|tw907403860201063960
|tw14294836680029564643
|tw11376672828540654797
|tw2281865659378263342
|tw7391826501486891062
|tw15430891431930936858
|tw13507148173765039556
|tw9771947327012207122
|tw4410938462396872919
|tw14173888438477045091
|tw190670711070024533
|tw1231499826765616452
|tw957646881515917466
|tw7142883637785437442
|tw16303104389153040057
|tw263675780402721112
|tw3829455946861189999
|tw2127033876902978007
|tw2320973380569340424
|tw7711231908970182558
|tw11488288584583030368
|tw4510370385973030941
|tw15900186774226102681
|tw6444073031972744477
|tw340132086984684811
|tw2608586739894810584
|tw6154675956669581879
|tw12921187920630968301
|tw9975670262162990211
|tw5316798942169137047
|tw7406516189724391209
|tw11017712690577516762
|tw15162482427674652172
|tw9459289816406844375
|tw6062109284818875155
|tw16695522924515777553
|tw7891947727525780217
|tw11501401081602552510
|tw16189959890753953989
set_option maxRecDepth 100000 in
set_option maxHeartbeats 0 in
theorem PySem.Challenge.cw_everguard_k41_both_either_opposite_holds : PySem.Challenge.rw_everguard_k41_both_either_opposite.Holds := by
 w_on; o_law; k_head; (case hw=>w_witness2)
 k_fill
 refine Gen.walk (l:=PySem.Challenge.rw_everguard_k41_both_either_opposite) rfl rfl (λw h Y=>W.kIn_of Y) ?F
 case F=>
  intro w mg fa h KX G sU
  refine' Gen.all_mk KX G sU ?aC ?a100 ?i100 ?l100 ?c100 ?k100 ?a101 ?i101 ?l101 ?c101 ?k101 ?a102 ?i102 ?l102 ?c102 ?k102 ?a103 ?i103 ?l103 ?c103 ?k103 ?a104 ?i104 ?l104 ?c104 ?k104 ?a105 ?i105 ?l105 ?c105 ?k105 ?a2 ?l2 ?c2 ?k2 ?a3 ?l3 ?c3 ?k3 ?a4 ?l4 ?c4 ?k4 ?a5 ?l5 ?c5 ?k5 ?a8 ?l8 ?c8 ?k8 ?a9 ?l9 ?c9 ?k9 ?a10 ?l10 ?c10 ?k10 ?a11 ?l11 ?c11 ?k11 ?a12 ?l12 ?c12 ?k12 ?a13 ?l13 ?c13 ?k13 ?a14 ?l14 ?c14 ?k14 ?a15 ?l15 ?c15 ?k15 ?a16 ?l16 ?c16 ?k16 ?a17 ?l17 ?c17 ?k17 ?a18 ?l18 ?c18 ?k18 ?a19 ?l19 ?c19 ?k19 ?a20 ?l20 ?c20 ?k20 ?pg ?hd ?po ?sa ?mk ?kc ?n1 ?n2 ?n3 ?n4 ?n5 ?n6 ?n7 ?z0 ?z1 ?z2 ?z3 ?z4 ?z5 ?z6 ?z7 ?z8 ?z9 ?z10 ?z11 ?z12
  (case aC=>k_is); (case a100=>k_is); (case i100=>k_is); (case l100=>k_is); (case c100=>k_is); (case k100=>k_is)
  (case a101=>k_is); (case i101=>k_is); (case l101=>k_is); (case c101=>k_is); (case k101=>k_is); (case a102=>k_is)
  (case i102=>k_is); (case l102=>k_is); (case c102=>k_is); (case k102=>k_is); (case a103=>k_is); (case i103=>k_is)
  (case l103=>k_is); (case c103=>k_is); (case k103=>k_is); (case a104=>k_is); (case i104=>k_is); (case l104=>k_is)
  (case c104=>k_is); (case k104=>k_is); (case a105=>k_is); (case i105=>k_is); (case l105=>k_is); (case c105=>k_is)
  (case k105=>k_is); (case a2=>k_is); (case l2=>k_is); (case c2=>k_is); (case k2=>k_is); (case a3=>k_is)
  (case l3=>k_is); (case c3=>k_is); (case k3=>k_is); (case a4=>k_is); (case l4=>k_is); (case c4=>k_is)
  (case k4=>k_is); (case a5=>k_is); (case l5=>k_is); (case c5=>k_is); (case k5=>k_is); (case a8=>k_is)
  (case l8=>k_is); (case c8=>k_is); (case k8=>k_is); (case a9=>k_is); (case l9=>k_is); (case c9=>k_is)
  (case k9=>k_is); (case a10=>k_is); (case l10=>k_is); (case c10=>k_is); (case k10=>k_is); (case a11=>k_is)
  (case l11=>k_is); (case c11=>k_is); (case k11=>k_is); (case a12=>k_is); (case l12=>k_is); (case c12=>k_is)
  (case k12=>k_is); (case a13=>k_is); (case l13=>k_is); (case c13=>k_is); (case k13=>k_is); (case a14=>k_is)
  (case l14=>k_is); (case c14=>k_is); (case k14=>k_is); (case a15=>k_is); (case l15=>k_is); (case c15=>k_is)
  (case k15=>k_is); (case a16=>k_is); (case l16=>k_is); (case c16=>k_is); (case k16=>k_is); (case a17=>k_is)
  (case l17=>k_is); (case c17=>k_is); (case k17=>k_is); (case a18=>k_is); (case l18=>k_is); (case c18=>k_is)
  (case k18=>k_is); (case a19=>k_is); (case l19=>k_is); (case c19=>k_is); (case k19=>k_is); (case a20=>k_is)
  (case l20=>k_is); (case c20=>k_is); (case k20=>k_is); (case pg=>k_is); (case hd=>k_is); (case po=>k_is)
  (case sa=>k_is); (case mk=>k_is); (case kc=>k_is); (case n1=>k_is); (case n2=>k_is); (case n3=>k_is)
  (case n4=>k_is); (case n5=>k_is); (case n6=>k_is); (case n7=>k_is); (case z0=>k_is); (case z1=>k_is)
  (case z2=>k_is); (case z3=>k_is); (case z4=>k_is); (case z5=>k_is); (case z6=>k_is); (case z7=>k_is)
  (case z8=>k_is); (case z9=>k_is); (case z10=>k_is); (case z11=>k_is); (case z12=>k_is)
#print axioms PySem.Challenge.cw_everguard_k41_both_either_opposite_holds
