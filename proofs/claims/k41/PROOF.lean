import PyProof.Rows.All
import Wide.All
import OpenK.AllK
import Wide.FinOn
import Lean
import PyProof.EqAt
import PyProof.EqKinds
import PyProof.TupleCall
import PyProof.StrBlockL
import PyProof.Rows.SortRuns
import KE.KSortTup
import PyProof.NeData
import PyProof.P3Eq
import PyProof.Rows.Chain
import PyProof.Rows.RuleIs
import PyProof.DictRoadsH
import PyProof.TupleKey
import Wide.Seal
import PyProof.MaxThree
import PyProof.IsiH_list
import PyProof.AttrMiss
import PyProof.ConsumeWalk
import PyProof.TupleIter
import KE.KDictOf
import PyProof.DictWalks
import KE.KDictList
import PyProof.NeKinds
import KE.KRevIter
import PyProof.ListNew
import PyProof.Rows.FactsT2
import PyProof.Rows.BitMore
import PyProof.ZipIter
import PySem.Challenge.RW_everguard_k41_both_either_opposite
set_option Elab.async false
set_option linter.all false
set_option maxRecDepth 100000
namespace L2
open PySem PySem.Spec PyProof.Rows
abbrev Key:=Sum Int Str
def iZ:Key->Value->Bool
 | .inl k,v=>Value.isInt k v
 | .inr x,v=>Value.isStrOf x v
def Ea (w:World):Key->Int
 | .inl k=>hashInt k
 | .inr x=>hashStr w x
theorem bZ:∀{k:Key}{v:Value},iZ k v=true->(∃i t,k=Sum.inl i/\v=Value.int i t)\/(∃x t,k=Sum.inr x/\v=Value.str x t)
 | .inl i,v,h=>by
  obtain ⟨t,e⟩:=Value.isInt_shape (k:=i) (v:=v) h
  exact .inl ⟨i,t,rfl,e⟩
 | .inr x,v,h=>by
  obtain ⟨t,e⟩:=Value.isStrOf_shape (x:=x) (v:=v) h
  exact .inr ⟨x,t,rfl,e⟩
theorem rQ (i:Int) (t:Tok):iZ (.inl i) (.int i t)=true:=by simp [iZ,Value.isInt]
theorem rS (x:Str) (t:Tok):iZ (.inr x) (.str x t)=true:=by simp [iZ,Value.isStrOf]
theorem xJ (a b:Int):decide ((Sum.inl a:Key)=Sum.inl b)=(a == b):=by
 by_cases e:a=b
 . subst e; simp
 . have h:¬ (Sum.inl a:Key)=Sum.inl b:=λq=>e (Sum.inl.inj q)
   rw [decide_eq_false h]
   exact (beq_eq_false_iff_ne.mpr e).symm
theorem xK (a b:Str):decide ((Sum.inr a:Key)=Sum.inr b)=decide (a=b):=by
 by_cases e:a=b
 . subst e; simp
 . have h:¬ (Sum.inr a:Key)=Sum.inr b:=λq=>e (Sum.inr.inj q)
   rw [decide_eq_false h,decide_eq_false e]
theorem xM (a:Int) (b:Str):decide ((Sum.inl a:Key)=Sum.inr b)=false:=decide_eq_false (λq=>nomatch q)
theorem xN (a:Str) (b:Int):decide ((Sum.inr a:Key)=Sum.inl b)=false:=decide_eq_false (λq=>nomatch q)
def bc (prog:Program) (w:World):PySem.KeyKind prog w Key where
 is:=iZ
 hash:=Ea w
 inj:=λv a b ha hb=>by
  rcases bZ ha with ⟨i,t,rfl,rfl⟩ | ⟨x,t,rfl,rfl⟩
  . rcases bZ hb with ⟨j,u,rfl,e⟩ | ⟨y,u,rfl,e⟩
    . injection e with e1 _; rw [e1]
    . exact nomatch e
  . rcases bZ hb with ⟨j,u,rfl,e⟩ | ⟨y,u,rfl,e⟩
    . exact nomatch e
    . injection e with e1 _; rw [e1]
 byValue:=λk v h=>by
  rcases bZ h with ⟨i,t,rfl,rfl⟩ | ⟨x,t,rfl,rfl⟩ <;> rfl
 pyHash:=λhv h=>by
  rcases bZ hv with ⟨i,t,rfl,rfl⟩ | ⟨x,t,rfl,rfl⟩
  . exact wpAny_pyHash_int h
  . exact wpAny_pyHash_str h
 eqBool:=λhu hv h=>by
  rcases bZ hu with ⟨i,t,rfl,rfl⟩ | ⟨x,t,rfl,rfl⟩
  . rcases bZ hv with ⟨j,u,rfl,rfl⟩ | ⟨y,u,rfl,rfl⟩
    . rw [xJ] at h; exact wpAny_eqBool_int h
    . rw [xM] at h; exact SeqAt.EqAt.int_str i t y u _ _ _ _ h
  . rcases bZ hv with ⟨j,u,rfl,rfl⟩ | ⟨y,u,rfl,rfl⟩
    . rw [xN] at h; exact SeqAt.EqAt.str_int x t j u _ _ _ _ h
    . rw [xK] at h; exact wpAny_eqBool_str h
 «strs»:=λk x t v h=>by
  rcases bZ h with ⟨i,u,rfl,e⟩ | ⟨y,u,rfl,e⟩
  . exact nomatch e
  . injection e with e1 _
    subst e1
    cases v <;> rfl
theorem o8 (prog:Program) (w:World) (i:Int) (t:Tok):(bc prog w).is (.inl i) (.int i t)=true:=rQ i t
theorem o9 (prog:Program) (w:World) (x:Str) (t:Tok):(bc prog w).is (.inr x) (.str x t)=true:=rS x t
end L2
namespace L2
open PySem PySem.Spec PyProof.Rows
inductive V where
 | aR | bl (b:Bool) | int (i:Int) | str (x:Str) | gv (b:Array UInt8) | lO (b:UInt64) | ref (a:Addr) | ty (n:String)
 deriving DecidableEq
def RelV:V->Value->Prop
 | .aR,u=>u=Value.none
 | .bl b,u=>u=Value.bool b
 | .int i,u=>∃t,u=Value.int i t
 | .str x,u=>∃t,u=Value.str x t
 | .gv b,u=>∃t,u=Value.bytes b t
 | .lO b,u=>∃t,u=Value.float b t
 | .ref a,u=>u=Value.ref a
 | .ty n,u=>u=Value.type n
abbrev Vals:List V->List Value->Prop:=Paired RelV
theorem Vals.length {xs:List V}{us:List Value}(r:Vals xs us):xs.length=us.length:=Paired.length r
theorem Vals.get:∀{xs:List V}{us:List Value}{i:Nat}{x:V},Vals xs us->xs[i]?=some x->∃u,us[i]?=some u/\RelV x u
 | _,_,_,_,.nil,e=>by simp at e
 | _,_,0,_,.cons r _,e=>by simp at e; subst e; exact ⟨_,rfl,r⟩
 | _,_,i+1,x,.cons _ t,e=>by
  obtain ⟨u,h1,h2⟩:=Vals.get (i:=i) (x:=x) t (by simpa using e)
  exact ⟨u,by simpa using h1,h2⟩
theorem Vals.set {x:V}{u:Value}(r:RelV x u):∀{xs:List V}{us:List Value}(i:Nat),Vals xs us->Vals (xs.set i x) (us.set i u)
 | _,_,_,.nil=>.nil
 | _,_,0,.cons _ t=>.cons r t
 | _,_,i+1,.cons q t=>.cons q (Vals.set r i t)
theorem Vals.append:∀{xs ys:List V}{us ws:List Value},Vals xs us->Vals ys ws->Vals (xs++ys) (us++ws)
 | _,_,_,_,.nil,s=>s
 | _,_,_,_,.cons r t,s=>.cons r (Vals.append t s)
theorem Vals.take:∀{xs:List V}{us:List Value}(n:Nat),Vals xs us->Vals (xs.take n) (us.take n)
 | _,_,0,_=>.nil
 | _,_,_+1,.nil=>.nil
 | _,_,n+1,.cons r t=>.cons r (Vals.take n t)
theorem Vals.drop:∀{xs:List V}{us:List Value}(n:Nat),Vals xs us->Vals (xs.drop n) (us.drop n)
 | _,_,0,r=>r
 | _,_,_+1,.nil=>.nil
 | _,_,n+1,.cons _ t=>Vals.drop n t
def cB:Option V->Option Value->Prop
 | some v,some u=>RelV v u
 | none,none=>True
 | _,_=>False
def KV {κ:Type} : List (κ×V)->List (κ×Value)->Prop:=Paired λ(p:κ×V) (q:κ×Value)=>p.1=q.1/\RelV p.2 q.2
def kV:Key->V
 | .inl i=>.int i
 | .inr x=>.str x
inductive HO where
 /-- a list -/
 | lst (xs:List V)
 /-- a tuple (never changes) -/
 | tup (xs:List V)
 /-- a dict whose keys are ints and texts; one whose keys are tuples of ints and texts (the empty one is both) -/
 | dK (kvs:List (Key×V)) | dT (kvs:List (List Key×V))
 /-- a set of ints: its members,its size -/
 | set (S:Int->Bool) (n:Nat)
 /-- an instance of the class at C,its dict at dx,its attributes -/
 | ins (C dx:Addr) (fs:List (Str×V))
 /-- the dict of the instance at x -/
 | own (x:Addr)
 /-- the dict of an exception -/
 | xd (fs:List (Str×V))
 /-- a bound method,f of x -/
 | met (f x:Addr)
 /-- a range object lo,lo+1,.. below hi -/
 | xO (lo hi:Int)
 /-- a thing that is known to the object (the script; a dict while a loop walks it): read,never written while it is so -/
 | gc (o:Obj) (u:HO)
 /-- a code object's table -/
 | my (ps:Array Value)
 /-- any other thing,by what is true of its one object (a def of one's own: SetO a S n:=HO.ext λh=>..) -/
 | ext (φ:Heap->Prop)
abbrev Hp:=Addr->Option HO
def upd (H:Hp) (a:Addr) (o:HO):Hp:=λb=>if b=a then some o else H b
theorem ag {H:Hp}{a:Addr}{o:HO} : upd H a o a=some o:=by unfold upd; rw [if_pos rfl]
theorem ai {H:Hp}{a b:Addr}{o:HO}(h:b≠a):upd H a o b=H b:=by unfold upd; rw [if_neg h]
theorem px {H:Hp}{a:Addr}{o u:HO} : upd (upd H a o) a u=upd H a u:=by
 funext b; unfold upd; split <;> rfl
theorem cC {H:Hp}{a b:Addr}{o u:HO}(h:H a=some o) (h':H b=some u) (d:o≠u):a≠b:=by
 intro e; subst e; rw [h] at h'; exact d (Option.some.inj h')
theorem ah {H:Hp}{a b:Addr}{o:HO}(h:H a=some o) (h':H b=none):a≠b:=by
 intro e; subst e; rw [h] at h'; cases h'
section
variable (P:Program) (w:World)
def aT (H:Hp) (h:Heap) (a:Addr):HO->Prop
 | .lst xs=>xs.length<=sizeLine/\∃(its:List Value) (n:Nat),Vals xs its/\h.get? a=some { cls:=.type "list",data:=.seq its.toArray n }
 | .tup xs=>xs.length<=sizeLine/\∃its:List Value,Vals xs its/\IsTup h a its.toArray
 | .dK kvs=>kvs.length<=sizeLine/\(a == sysModules)=false/\∃vs,KV kvs vs/\h.DictOf (bc P w) a vs
 | .dT kvs=>kvs.length<=sizeLine/\(a == sysModules)=false/\∃xs:List (List Key×Addr×Value),
  Paired (λ(p:List Key×V) (q:List Key×Addr×Value)=>p.1=q.1/\H q.2.1=some (.tup (p.1.map kV))/\RelV p.2 q.2.2) kvs xs/\
  ∃o es ep,h.get? a=some o/\o.ExactDict/\o.data=.dict es ep/\es.toList=xs.map (entryOfKey (tupleKind (bc P w)))/\(xs.map (·.1)).Nodup
 | .set S n=>h.SetOf (intKind P w) a S n
 | .ins C dx fs=>H dx=some (.own a)/\fs.length<=1000/\dx≠a/\h.get? a=some (W.instObj C dx)/\
  ∃mA,h.Ns1 dx mA/\(∀f,cB (fs.lookup f) (mA f))/\PySem.Within mA (fs.map (·.1))
 | .own _=>∃o,h.get? a=some o
 | .xd fs=>∃mA,h.Ns1 a mA/\∀f,cB (fs.lookup f) (mA f)
 | .xO lo hi=>∃t u v,h.get? a=some { cls:=.type "range",data:=.fields #[.int lo t,.int hi u,.int 1 v] }
 | .gc o u=>h.get? a=some o/\aT H h a u
 | .my ps=>h.get? a=some { cls:=.none,data:=.fields ps }
 | .met f x=>h.get? a=some (W.methodObj (.ref f) (.ref x))
 | .ext φ=>φ h/\(∃o,h.get? a=some o)/\∀h1 h2:Heap,φ h1->(∀o,h1.get? a=some o->h2.get? a=some o)->φ h2
def cb (H:Hp) (h:Heap):Prop:=∀a o,H a=some o->aT P w H h a o
end
section
variable {P:Program}{w:World}{H H':Hp}{h h':Heap}{a:Addr}{o:HO}
theorem aT.lt (x:aT P w H h a o):a<h.objs.size:=by
 cases o with
 | lst xs=>obtain ⟨_,_,_,_,e⟩:=x; exact Heap.lt_size e
 | tup xs=>obtain ⟨_,_,_,p⟩:=x; exact p.lt
 | dK kvs=>obtain ⟨_,_,_,_,o,_,_,e,_⟩:=x; exact Heap.lt_size e
 | dT kvs=>obtain ⟨_,_,_,_,o,_,_,e,_⟩:=x; exact Heap.lt_size e
 | set S n=>obtain ⟨o,_,_,_,e,_⟩:=x; exact Heap.lt_size e
 | ins C dx fs=>obtain ⟨_,_,_,e,_⟩:=x; exact Heap.lt_size e
 | own y=>obtain ⟨_,e⟩:=x; exact Heap.lt_size e
 | xd fs=>obtain ⟨_,⟨_,_,_,e,_⟩,_⟩:=x; exact Heap.lt_size e
 | xO lo hi=>obtain ⟨_,_,_,e⟩:=x; exact Heap.lt_size e
 | gc ob u=>obtain ⟨e,_⟩:=x; exact Heap.lt_size e
 | my ps=>exact Heap.lt_size (show h.get? a=some _ from x)
 | met f y=>exact Heap.lt_size (show h.get? a=some _ from x)
 | ext φ=>obtain ⟨_,⟨_,e⟩,_⟩:=x; exact Heap.lt_size e
theorem Paired.gW {α β:Type}{F G:α->β->Prop} : ∀{mz:List α}{mF:List β},Paired F mz mF->(∀a b,F a b->G a b)->Paired G mz mF
 | _,_,.nil,_=>.nil
 | _,_,.cons r t,f=>.cons (f _ _ r) (Paired.gW t f)
theorem aT.de (x:aT P w H h a o) (k:∀b u,(b=a\/H b=some (.own a))->h.get? b=some u->h'.get? b=some u)
 (ho:∀b,H b=some (.own a)->H' b=some (.own a)) (ht:∀b xs,H b=some (.tup xs)->H' b=some (.tup xs)):aT P w H' h' a o:=by
 induction o with
 | lst xs=>obtain ⟨z,its,n,r,e⟩:=x; exact ⟨z,its,n,r,k _ _ (.inl rfl) e⟩
 | tup xs=>obtain ⟨z,its,r,ob,e,c⟩:=x; exact ⟨z,its,r,ob,k _ _ (.inl rfl) e,c⟩
 | dK kvs=>obtain ⟨z,y,vs,r,ob,es,ep,e,c⟩:=x; exact ⟨z,y,vs,r,ob,es,ep,k _ _ (.inl rfl) e,c⟩
 | dT kvs=>
  obtain ⟨z,y,xs,r,ob,es,ep,e,c⟩:=x
  exact ⟨z,y,xs,Paired.gW r λp q z=>⟨z.1,ht _ _ z.2.1,z.2.2⟩,ob,es,ep,k _ _ (.inl rfl) e,c⟩
 | set S n=>obtain ⟨ob,es,ep,t,e,c⟩:=x; exact ⟨ob,es,ep,t,k _ _ (.inl rfl) e,c⟩
 | ins C dx fs=>
  obtain ⟨d,z,ne,e,mA,⟨od,es,ep,e2,c⟩,r⟩:=x
  exact ⟨ho _ d,z,ne,k _ _ (.inl rfl) e,mA,⟨od,es,ep,k _ _ (.inr d) e2,c⟩,r⟩
 | own y=>obtain ⟨ob,e⟩:=x; exact ⟨ob,k _ _ (.inl rfl) e⟩
 | xd fs=>obtain ⟨mA,⟨od,es,ep,e,c⟩,r⟩:=x; exact ⟨mA,⟨od,es,ep,k _ _ (.inl rfl) e,c⟩,r⟩
 | xO lo hi=>obtain ⟨t,u,v,e⟩:=x; exact ⟨t,u,v,k _ _ (.inl rfl) e⟩
 | gc ob u ih=>obtain ⟨e,q⟩:=x; exact ⟨k _ _ (.inl rfl) e,ih q⟩
 | my ps=>
  have e:h.get? a=some { cls:=.none,data:=.fields ps }:=x
  show h'.get? a=some { cls:=.none,data:=.fields ps }
  exact k a _ (.inl rfl) e
 | met f y=>
  have e:h.get? a=some (W.methodObj (.ref f) (.ref y)):=x
  show h'.get? a=some (W.methodObj (.ref f) (.ref y))
  exact k a _ (.inl rfl) e
 | ext φ=>obtain ⟨p,⟨o,e⟩,st⟩:=x; exact ⟨st _ _ p λo q=>k _ _ (.inl rfl) q,⟨o,k _ _ (.inl rfl) e⟩,st⟩
theorem cb.lt (x:cb P w H h) (e:H a=some o):a<h.objs.size:=(x a o e).lt
theorem cb.fresh (x:cb P w H h) (e:h.objs.size<=a):H a=none:=by
 cases q:H a with
 | none=>rfl
 | some u=>exact absurd (Nat.lt_of_lt_of_le (x.lt q) e) (Nat.lt_irrefl _)
theorem cb.kept (x:cb P w H h) (k:∀b u,h.get? b=some u->h'.get? b=some u):cb P w H h':=λa o e=>
 (x a o e).de (λb u _ q=>k b u q) (λ_ q=>q) λ_ _ q=>q
theorem cb.laid (x:cb P w H h) (k:∀b u,h.get? b=some u->h'.get? b=some u) (hp:h.objs.size<=a) (new:aT P w (upd H a o) h' a o):cb P w (upd H a o) h':=λb u e=>by
 have hn:=x.fresh hp
 by_cases hb:b=a
 . subst hb; rw [ag] at e; cases e; exact new
 . rw [ai hb] at e
   exact (x b u e).de (λc v _ q=>k c v q) (λc q=>by rw [ai (ah q hn)]; exact q) λc xs q=>by rw [ai (ah q hn)]; exact q
end
def Rd (H:Hp) (a:Addr) (u:HO):Prop:=H a=some u\/∃o,H a=some (.gc o u)
theorem Rd.ok {P:Program}{w:World}{H:Hp}{h:Heap}{a:Addr}{u:HO}(r:Rd H a u) (x:cb P w H h):aT P w H h a u:=by
 rcases r with r | ⟨o,r⟩
 . exact x a u r
 . obtain ⟨_,q⟩:=x a _ r
   exact q
def rT:Option HO->Prop
 | some (.lst _)=>True
 | some (.dK _)=>True
 | some (.dT _)=>True
 | some (.set _ _)=>True
 | some (.ins _ _ _)=>True
 | some (.ext _)=>True
 | _=>False
section
variable {P:Program}{w:World}{H:Hp}{h h':Heap}{x e:Addr}{o':HO}
theorem cb.write (ok:cb P w H h) (mu:rT (H x)) (he:e=x\/H e=some (.own x)) (k:∀b u,b≠e->h.get? b=some u->h'.get? b=some u) (pz:∃u,h'.get? e=some u)
 (new:aT P w (upd H x o') h' x o'):cb P w (upd H x o') h':=λb u q=>by
 have xP:∀c y,H c=some (.own y)->c≠x:=λc y r z=>by subst z; rw [r] at mu; exact mu
 have Eb:∀c xs,H c=some (.tup xs)->c≠x:=λc xs r z=>by subst z; rw [r] at mu; exact mu
 by_cases hb:b=x
 . subst hb; rw [ag] at q; cases q; exact new
 . rw [ai hb] at q
   by_cases mG:b=e
   . have q':H b=some (.own x):=by
      rcases he with z | z
      . exact absurd (mG.trans z) hb
      . rw [mG]; exact z
     rw [q] at q'; cases q'
     obtain ⟨v,hv⟩:=pz
     exact ⟨v,by rw [mG]; exact hv⟩
   . refine (ok b u q).de (λc v hc r=>k c v ?_ r) (λc r=>by rw [ai (xP c b r)]; exact r) λc xs r=>by rw [ai (Eb c xs r)]; exact r
     rcases hc with rfl | hc
     . exact mG
     . rintro rfl
       rcases he with z | z
       . exact xP c b hc z
       . rw [hc] at z; cases z; exact hb rfl
end
structure Un (fs ex:List Addr) (H H':Hp) (h h':Heap):Prop where
 keep:∀b o,h.get? b=some o->H b=none->b∉fs->b∉ex->h'.get? b=some o
 slot:∀b o,h.get? b=some o->H b=none->b∈fs->b∉ex->∃sl,h'.get? b=some { o with slots:=sl }
 free:∀b o,h.get? b=some o->H b=none->b∉ex->H' b=none
 there:∀b o,h.get? b=some o->b∉ex->∃o',h'.get? b=some o'
 cN:∀b xs,H b=some (.tup xs)->H' b=some (.tup xs)
 frzs:∀b o u,H b=some (.gc o u)->H' b=some (.gc o u)
 tbls:∀b ps,H b=some (.my ps)->∃more,H' b=some (.my (ps++more))
section
variable {fs fs' ex Lw:List Addr}{H H1 H2:Hp}{h h1 h2 h':Heap}{a x e:Addr}{o:HO}
theorem Un.any (u:Un fs ex H H1 h h1){b:Addr}{ob:Obj}(q:h.get? b=some ob) (n:H b=none) (hx:b∉ex):∃sl,h1.get? b=some { ob with slots:=sl }:=by
 by_cases hb:b∈fs
 . exact u.slot b ob q n hb hx
 . exact ⟨ob.slots,u.keep b ob q n hb hx⟩
theorem Un.trans (a:Un fs ex H H1 h h1) (b:Un fs ex H1 H2 h1 h2):Un fs ex H H2 h h2 where
 keep:=λc ob q n hc hx=>b.keep c ob (a.keep c ob q n hc hx) (a.free c ob q n hx) hc hx
 slot:=λc ob q n hc hx=>by
  obtain ⟨sl,e1⟩:=a.slot c ob q n hc hx
  obtain ⟨xQ,e2⟩:=b.slot c _ e1 (a.free c ob q n hx) hc hx
  exact ⟨xQ,e2⟩
 free:=λc ob q n hx=>by
  obtain ⟨o',e1⟩:=a.there c ob q hx
  exact b.free c o' e1 (a.free c ob q n hx) hx
 there:=λc ob q hx=>by
  obtain ⟨o',e1⟩:=a.there c ob q hx
  exact b.there c o' e1 hx
 cN:=λc xs q=>b.cN c xs (a.cN c xs q)
 frzs:=λc ob xs q=>b.frzs c ob xs (a.frzs c ob xs q)
 tbls:=λc ps q=>by
  obtain ⟨m1,e1⟩:=a.tbls c ps q
  obtain ⟨m2,e2⟩:=b.tbls c _ e1
  exact ⟨m1++m2,by rw [e2,Array.append_assoc]⟩
theorem Un.kept (k:∀b u,h.get? b=some u->h'.get? b=some u):Un fs ex H H h h':=
 ⟨λb ob q _ _ _=>k b ob q,λb ob q _ _ _=>⟨ob.slots,k b ob q⟩,λ_ _ _ n _=>n,λb ob q _=>⟨ob,k b ob q⟩,λ_ _ q=>q,λ_ _ _ q=>q,λ_ ps q=>⟨#[],by rw [q]; simp⟩⟩
theorem Un.refl:Un fs ex H H h h:=Un.kept λ_ _ q=>q
theorem Un.laid (k:∀b u,h.get? b=some u->h'.get? b=some u) (hp:h.objs.size<=a) (hn:H a=none):Un fs ex H (upd H a o) h h' where
 keep:=λb u q _ _ _=>k b u q
 slot:=λb u q _ _ _=>⟨u.slots,k b u q⟩
 free:=λb u q n _=>by rw [ai (Nat.ne_of_lt (Nat.lt_of_lt_of_le (Heap.lt_size q) hp))]; exact n
 there:=λb u q _=>⟨u,k b u q⟩
 cN:=λb xs q=>by rw [ai (ah q hn)]; exact q
 frzs:=λb u xs q=>by rw [ai (ah q hn)]; exact q
 tbls:=λb ps q=>⟨#[],by rw [ai (ah q hn),q]; simp⟩
theorem Un.write (mu:rT (H x)) (he:e=x\/H e=some (.own x)) (k:∀b u,b≠e->h.get? b=some u->h'.get? b=some u) (pz:∃u,h'.get? e=some u):Un fs ex H (upd H x o) h h':=by
 have hx:∀b,H b=none->b≠x:=λb n z=>by subst z; rw [n] at mu; exact mu
 have hb:∀b,H b=none->b≠e:=λb n z=>by
  subst z
  rcases he with r | r
  . exact hx b n r
  . rw [n] at r; cases r
 have hm:∀b u,H b=some u->¬ rT (some u)->b≠x:=λb u q nm z=>by subst z; rw [q] at mu; exact nm mu
 refine ⟨λb u q n _ _=>k b u (hb b n) q,λb u q n _ _=>⟨u.slots,k b u (hb b n) q⟩,λb u q n _=>by rw [ai (hx b n)]; exact n,λb u q _=>?_,
  λb xs q=>by rw [ai (hm b _ q λz=>z)]; exact q,λb u xs q=>by rw [ai (hm b _ q λz=>z)]; exact q,λb ps q=>⟨#[],by rw [ai (hm b _ q λz=>z),q]; simp⟩⟩
 by_cases mG:b=e
 . subst mG; exact pz
 . exact ⟨u,k b u mG q⟩
end
def vF (h:Heap) (H:Hp):List Addr:=(List.range h.objs.size).filter λa=>(H a).isSome
def gX (h:Heap) (H:Hp):Heap:=W.hideAll h (vF h H)
theorem rU (h:Heap) (H:Hp):(gX h H).objs.size=h.objs.size:=W.hideAll_size _ _
theorem uH {h:Heap}{H:Hp}{b:Addr}{o:Obj}(e:h.get? b=some o) (n:H b=none):(gX h H).get? b=some o:=
 W.hideAll_get _ e λhm=>by
  have q:(H b).isSome=true:=(List.mem_filter.mp hm).2
  rw [n] at q; simp at q
theorem wY {h:Heap}{H:Hp}{b:Addr}{o:Obj}(e:(gX h H).get? b=some o):h.get? b=some o/\H b=none:=by
 have e':h.get? b=some o:=W.of_hideAll (vF h H) e
 refine ⟨e',?_⟩
 cases q:H b with
 | none=>rfl
 | some x=>
  have hm:b∈vF h H:=List.mem_filter.mpr ⟨List.mem_range.mpr (Heap.lt_size e'),by simp [q]⟩
  have z:(gX h H).get? b=none:=W.hideAll_none (vF h H) hm
  rw [z] at e; cases e
def wZ (g h:Heap) (L:Addr):List (Addr×Obj):=(List.range h.objs.size).filterMap λa=>if a=L\/(g.get? a).isSome=true then none else (h.get? a).map λo=>(a,o)
def rest (g h:Heap) (L d:Addr):List (Addr×Obj):=(wZ g h L).filter λp=>decide (p.1≠d)
end L2
namespace L2
open PySem PySem.Spec PyProof.Rows
structure Mod (K:W.Frag) (mg:Str->Option Value) (base:Heap):Prop where
 kin:K.In base
 glob:base.Ns mainGlobals mg
 blt:∃mb,base.Ns builtinsNs mb/\∀x:Str,x ≠ "__name__" -> mb x=bootBuiltins x
 nolimit:base.NoLimit
structure Cx where
 prog:Program
 w:World
 K:W.Frag
 mg:Str->Option Value
 base:Heap
 A:Around
 N:List Str
 eU:Shared
 xR:Hp
 env:Env
 outer:List Env
 stack:List Env
 ex:List Addr
 fn:Str->Bool
 calm:Bool
 pn:List (Addr×Obj)
 xe:Value->Shared->Prop
def il (l:List Env):List Addr:=l.filterMap (·.frame)
abbrev Cx.fs (X:Cx):List Addr:=il X.outer
def xS (sc:Scope) (x:Str):Prop:=sc.names.lookup x=some .local\/sc.names.lookup x=some .cell\/sc.names.lookup x=some .free
def Loc (sc:Scope) (x:Str):Prop:=sc.names.lookup x=some .local\/sc.names.lookup x=some .cell
def Look (env:Env) (h:Heap) (m:Str->Option Value) (x:Str) (u:Value):Prop:=
 (env.kindOf x=some .local/\m x=some u)\/((env.kindOf x=some .cell\/env.kindOf x=some .free)/\∃c,env.cells.lookup x=some c/\h.IsCell c (some u))
structure Cx.Ok (X:Cx):Prop where
 mod:Mod X.K X.mg X.base
 kind:X.env.scope.kind=.function
 glob:X.env.globals=mainGlobals
 blt:X.env.builtins=builtinsNs
 above:X.eU.heap.objs.size<=X.env.locals
 inj:∀x y c,X.env.cells.lookup x=some c->X.env.cells.lookup y=some c->x=y
 has:∀x,(X.env.kindOf x=some .cell\/X.env.kindOf x=some .free)->∃c,X.env.cells.lookup x=some c
 cab:∀x c,X.fn x=true->X.env.cells.lookup x=some c->X.eU.heap.objs.size<=c
 hd:X.calm=true->X.A.handled=none
 frames:X.A.frames=some X.stack
 stk:X.stack=X.outer\/(X.stack=X.env::X.outer/\X.env.frame=some X.env.locals)
 exf:∀b∈X.ex,b≠X.env.locals/\∀x c,X.env.cells.lookup x=some c->c≠b
 bs:∀b o,X.base.get? b=some o->X.eU.heap.get? b=some o/\X.xR b=none
 bsz:X.base.objs.size<=X.eU.heap.objs.size
 noex:∀b o,X.base.get? b=some o->b∉X.ex
 exfs:∀b∈X.ex,b∉X.fs
 d7:X.eU.heap.FunFrames X.base X.outer
 frf:∀b∈X.fs,X.xR b=none
structure Inv (X:Cx) (pins:List (Addr×Obj)) (σ:List (Option V)) (H:Hp) (s:Shared):Prop where
 ok:X.Ok
 os:s.os=X.eU.os
 bare:AllBare s.gens
 base:Un X.fs X.ex X.xR H X.eU.heap s.heap
 loc:∃m,s.heap.Ns X.env.locals m/\∀(i:Nat) (x:Str) (v:V),X.N[i]?=some x->σ[i]?=some (some v)->xS X.env.scope x->∃u,RelV v u/\Look X.env s.heap m x u
 cell:∀x c,X.env.cells.lookup x=some c->∃v,s.heap.IsCell c v
 free:H X.env.locals=none
 freeC:∀x c,X.env.cells.lookup x=some c->H c=none
 pin:∀p∈X.pn++pins,s.heap.get? p.1=some p.2/\H p.1=none/\p.1≠X.env.locals/\p.1∉X.fs/\∀v,p.2.data≠.cell v
 hok:cb X.prog X.w H s.heap
 len:σ.length=X.N.length
section
variable {X:Cx}{pins:List (Addr×Obj)}{σ:List (Option V)}{H H':Hp}{s:Shared}{h':Heap}
theorem Cx.Ok.Ec (ok:X.Ok){b:Addr}{o:Obj}(e:X.base.get? b=some o):b∉X.fs:=λhb=>by
 have:=(ok.d7.mem hb).1
 rw [e] at this; cases this
theorem Inv.bs (I:Inv X pins σ H s):∀b o,X.base.get? b=some o->s.heap.get? b=some o/\H b=none:=λb o e=>
 ⟨I.base.keep b o (I.ok.bs b o e).1 (I.ok.bs b o e).2 (I.ok.Ec e) (I.ok.noex b o e),I.base.free b o (I.ok.bs b o e).1 (I.ok.bs b o e).2 (I.ok.noex b o e)⟩
theorem Inv.bk (I:Inv X pins σ H s):∀b o,X.base.get? b=some o->s.heap.get? b=some o:=λb o e=>(I.bs b o e).1
theorem Inv.mod (I:Inv X pins σ H s):Mod X.K X.mg X.base:=I.ok.mod
theorem Inv.cP (I:Inv X pins σ H s):X.K.In s.heap:=I.ok.mod.kin.keeps I.bk
theorem Inv.lt (I:Inv X pins σ H s):X.env.locals<s.heap.objs.size:=let ⟨_,hn,_⟩:=I.loc; hn.lt
theorem Inv.sz (I:Inv X pins σ H s):X.eU.heap.objs.size<=s.heap.objs.size:=Nat.le_trans I.ok.above (Nat.le_of_lt I.lt)
theorem Inv.Ed (I:Inv X pins σ H s){a:Addr}(h:s.heap.objs.size<=a):a∉X.fs:=λhb=>by
 obtain ⟨_,o,ho,_⟩:=I.ok.d7.mem hb
 exact absurd (Nat.lt_of_lt_of_le (Heap.lt_size ho) (Nat.le_trans I.sz h)) (Nat.lt_irrefl _)
theorem Inv.mJ (I:Inv X pins σ H s):∀x c,X.env.cells.lookup x=some c->c≠X.env.locals:=λx c e z=>by
 obtain ⟨v,o,ho,hd⟩:=I.cell x c e
 obtain ⟨m,⟨o',es,ep,mL,hd',_⟩,_⟩:=I.loc
 rw [z,mL] at ho; cases ho; rw [hd'] at hd; cases hd
theorem Inv.d7 (I:Inv X pins σ H s):s.heap.FunFrames X.base X.outer:=by
 have all:∀(l:List Env),(∀b∈il l,b∈X.fs)->X.eU.heap.FunFrames X.base l->s.heap.FunFrames X.base l:=by
  intro l
  induction l with
  | nil=>intro _ _; trivial
  | cons env r ih=>
   intro hs hl
   obtain ⟨hk,⟨L,o,hf,hn,ho,hd⟩,hr⟩:=hl
   have hL:L∈X.fs:=hs L (by unfold il; rw [List.filterMap_cons,hf]; exact List.mem_cons_self)
   obtain ⟨sl,e⟩:=I.base.slot L o ho (I.ok.frf L hL) hL λz=>I.ok.exfs L z hL
   exact ⟨hk,⟨L,_,hf,hn,e,hd⟩,ih (λb hb=>hs b (by unfold il; rw [List.filterMap_cons,hf]; exact List.mem_cons_of_mem _ hb)) hr⟩
 exact all X.outer (λ_ hb=>hb) I.ok.d7
theorem Inv.stack (I:Inv X pins σ H s):s.heap.FunFrames X.base X.stack:=by
 rcases I.ok.stk with e | ⟨e,hf⟩
 . rw [e]; exact I.d7
 . rw [e]
   obtain ⟨m,hn,_⟩:=I.loc
   refine .cons (by rw [I.ok.kind]; decide) hf hn ?_ I.d7
   exact Heap.get?_none_of_le (Nat.le_trans I.ok.bsz I.ok.above)
theorem Inv.jV (I:Inv X pins σ H s):∀b∈il X.stack,b∈X.env.locals::X.fs:=λb hb=>by
 rcases I.ok.stk with e | ⟨e,hf⟩
 . rw [e] at hb; exact List.mem_cons_of_mem _ hb
 . rw [e] at hb
   unfold il at hb
   rw [List.filterMap_cons,hf] at hb
   exact hb
theorem Inv.pB (I:Inv X pins σ H s):∀b∈il X.stack,H b=none:=λb hb=>by
 rcases List.mem_cons.mp (I.jV b hb) with e | hb
 . rw [e]; exact I.free
 . obtain ⟨_,o,ho,_⟩:=I.ok.d7.mem hb
   exact I.base.free b o ho (I.ok.frf b hb) λz=>I.ok.exfs b z hb
theorem Inv.step {g':Array GenState}{t':Nat}{d':Drawn}{ch:List Addr}(I:Inv X pins σ H s)
 (jl:∀b∈ch,(b∈X.ex\/X.eU.heap.objs.size<=b)/\b≠X.env.locals/\(∀x c,X.env.cells.lookup x=some c->c≠b)/\∀p∈X.pn++pins,p.1≠b)
 (keep:∀b o,b≠X.env.locals->b∉X.fs->b∉ch->s.heap.get? b=some o->H b=none->h'.get? b=some o)
 (slot:∀b o,b≠X.env.locals->b∈X.fs->b∉ch->s.heap.get? b=some o->H b=none->∃sl,h'.get? b=some { o with slots:=sl }) (free:∀b o,b∉ch->s.heap.get? b=some o->H b=none->H' b=none)
 (there:∀b o,b∉ch->s.heap.get? b=some o->∃o',h'.get? b=some o')
 (cN:∀b xs,H b=some (.tup xs)->H' b=some (.tup xs)) (frzs:∀b o u,H b=some (.gc o u)->H' b=some (.gc o u)) (tbls:∀b ps,H b=some (.my ps)->∃more,H' b=some (.my (ps++more)))
 (ns:∀m,s.heap.Ns X.env.locals m->h'.Ns X.env.locals m) (hok:cb X.prog X.w H' h') (hg:AllBare g') :
 Inv X pins σ H' { s with heap:=h',gens:=g',drawn:=d',toks:=t' }:=by
 have Cb:∀b o,X.eU.heap.get? b=some o->b≠X.env.locals:=λb o e=>Nat.ne_of_lt (Nat.lt_of_lt_of_le (Heap.lt_size e) I.ok.above)
 have vG:∀b o,X.eU.heap.get? b=some o->b∉X.ex->b∉ch:=λb o e hx hb=>by
  rcases (jl b hb).1 with z | z
  . exact hx z
  . exact absurd (Nat.lt_of_lt_of_le (Heap.lt_size e) z) (Nat.lt_irrefl _)
 have cellK:∀x c,X.env.cells.lookup x=some c->∀v,s.heap.IsCell c v->h'.IsCell c v:=λx c e v ⟨o,ho,hd⟩=>by
  have rV:c∉ch:=λz=>(jl c z).2.2.1 x c e rfl
  by_cases hc:c∈X.fs
  . obtain ⟨sl,q⟩:=slot c o (I.mJ x c e) hc rV ho (I.freeC x c e)
    exact ⟨_,q,hd⟩
  . exact ⟨o,keep c o (I.mJ x c e) hc rV ho (I.freeC x c e),hd⟩
 refine ⟨I.ok,I.os,hg,⟨λb o e n hb hx=>?_,λb o e n hb hx=>?_,λb o e n hx=>?_,λb o e hx=>?_,λb xs e=>cN b xs (I.base.cN b xs e),λb o xs e=>frzs b o xs (I.base.frzs b o xs e),λb ps e=>?_⟩,?_,λx c e=>?_,?_,λx c e=>?_,λp hp=>?_,hok,I.len⟩
 . exact keep b o (Cb b o e) hb (vG b o e hx) (I.base.keep b o e n hb hx) (I.base.free b o e n hx)
 . obtain ⟨sl,e1⟩:=I.base.slot b o e n hb hx
   obtain ⟨xQ,e2⟩:=slot b _ (Cb b o e) hb (vG b o e hx) e1 (I.base.free b o e n hx)
   exact ⟨xQ,e2⟩
 . obtain ⟨o',e1⟩:=I.base.there b o e hx
   exact free b o' (vG b o e hx) e1 (I.base.free b o e n hx)
 . obtain ⟨o',e1⟩:=I.base.there b o e hx
   exact there b o' (vG b o e hx) e1
 . obtain ⟨m1,e1⟩:=I.base.tbls b ps e
   obtain ⟨m2,e2⟩:=tbls b _ e1
   exact ⟨m1++m2,by rw [e2,Array.append_assoc]⟩
 . obtain ⟨m,hn,hl⟩:=I.loc
   refine ⟨m,ns m hn,λi x v e1 e2 e3=>?_⟩
   obtain ⟨u,r,l⟩:=hl i x v e1 e2 e3
   refine ⟨u,r,?_⟩
   rcases l with l | ⟨k,c,e,z⟩
   . exact .inl l
   . exact .inr ⟨k,c,e,cellK x c e _ z⟩
 . obtain ⟨v,z⟩:=I.cell x c e
   exact ⟨v,cellK x c e v z⟩
 . obtain ⟨m,⟨o,_,_,ho,_⟩,_⟩:=I.loc
   exact free _ o (λz=>(jl _ z).2.1 rfl) ho I.free
 . obtain ⟨v,o,ho,hd⟩:=I.cell x c e
   exact free c o (λz=>(jl c z).2.2.1 x c e rfl) ho (I.freeC x c e)
 . obtain ⟨e,n,ne,nf,d⟩:=I.pin p hp
   have rV:p.1∉ch:=λz=>(jl p.1 z).2.2.2 p hp rfl
   exact ⟨keep p.1 p.2 ne nf rV e n,free p.1 p.2 rV e n,ne,nf,d⟩
theorem Inv.un {t':Nat}(I:Inv X pins σ H s) (u:Un X.fs [] H H' s.heap h') (hok:cb X.prog X.w H' h'):Inv X pins σ H' { s with heap:=h',toks:=t' }:=by
 obtain ⟨m,⟨o,es,ep,ho,r⟩,_⟩:=id I.loc
 obtain ⟨sl,hL⟩:=u.any ho I.free (by simp)
 exact I.step (g':=s.gens) (d':=s.drawn) (ch:=[]) (λ_ z=>nomatch z) (λb o _ hb _ e n=>u.keep b o e n hb (by simp)) (λb o _ hb _ e n=>u.slot b o e n hb (by simp)) (λb o _ e n=>u.free b o e n (by simp)) (λb o _ e=>u.there b o e (by simp)) u.cN u.frzs u.tbls (λm' hm=>by
  obtain ⟨o',xT,xU,mL,r'⟩:=hm
  rw [ho] at mL; cases mL
  exact ⟨_,xT,xU,hL,r'⟩) hok I.bare
theorem Inv.call {g':Array GenState}{t':Nat}{d':Drawn}{ch:List Addr}(I:Inv X pins σ H s) (u:Un (il X.stack) ch H H' s.heap h') (hok:cb X.prog X.w H' h') (hg:AllBare g')
 (jl:∀b∈ch,(b∈X.ex\/X.eU.heap.objs.size<=b)/\b≠X.env.locals/\(∀x c,X.env.cells.lookup x=some c->c≠b)/\∀p∈X.pn++pins,p.1≠b) :
 Inv X pins σ H' { s with heap:=h',gens:=g',drawn:=d',toks:=t' }:=by
 obtain ⟨m,⟨o,es,ep,ho,r⟩,_⟩:=id I.loc
 obtain ⟨sl,hL⟩:=u.any ho I.free λz=>(jl _ z).2.1 rfl
 exact I.step (ch:=ch) jl (λb o hL hb hc e n=>u.keep b o e n (λz=>(List.mem_cons.mp (I.jV b z)).elim hL hb) hc) (λb o _ _ hc e n=>u.any e n hc) (λb o hc e n=>u.free b o e n hc) (λb o hc e=>u.there b o e hc) u.cN u.frzs u.tbls (λm' hm=>by
  obtain ⟨o',xT,xU,mL,r'⟩:=hm
  rw [ho] at mL; cases mL
  exact ⟨_,xT,xU,hL,r'⟩) hok hg
theorem Inv.turned {t':Nat}{it:Addr}(I:Inv X pins σ H s) (k:∀b o,b≠it->s.heap.get? b=some o->h'.get? b=some o) (hn:H it=none) (hL:it≠X.env.locals)
 (h1:it∈X.ex\/X.eU.heap.objs.size<=it) (h2:∀x c,X.env.cells.lookup x=some c->c≠it) (h3:∀p∈X.pn++pins,p.1≠it):Inv X pins σ H { s with heap:=h',toks:=t' }:=by
 have Cc:∀b u,H b=some u->b≠it:=λb u e z=>by rw [z,hn] at e; cases e
 refine I.step (g':=s.gens) (d':=s.drawn) (ch:=[it]) (λb hb=>?_) (λb o _ _ hc e _=>k b o (λz=>hc (by simp [z])) e) (λb o _ _ hc e _=>⟨o.slots,k b o (λz=>hc (by simp [z])) e⟩) (λ_ _ _ _ n=>n)
  (λb o hc e=>⟨o,k b o (λz=>hc (by simp [z])) e⟩) (λ_ _ e=>e) (λ_ _ _ e=>e) (λb ps e=>⟨#[],by rw [e]; simp⟩) (λm hm=>?_) (λb u e=>?_) I.bare
 . have e:b=it:=by simpa using hb
   subst e
   exact ⟨h1,hL,h2,h3⟩
 . obtain ⟨o,es,ep,ho,r⟩:=hm
   exact ⟨o,es,ep,k _ o (Ne.symm hL) ho,r⟩
 . refine (I.hok b u e).de (λc v hc q=>k c v ?_ q) (λ_ q=>q) λ_ _ q=>q
   rcases hc with z | z
   . rw [z]; exact Cc b u e
   . exact Cc c _ z
theorem Inv.tok (I:Inv X pins σ H s) (t:Nat):Inv X pins σ H { s with toks:=t }:=I.un (h':=s.heap) (t':=t) Un.refl I.hok
theorem Inv.kept {t':Nat}(I:Inv X pins σ H s) (k:∀b u,s.heap.get? b=some u->h'.get? b=some u):Inv X pins σ H { s with heap:=h',toks:=t' }:=I.un (Un.kept k) (I.hok.kept k)
theorem Inv.laid {a:Addr}{o:HO}{t':Nat}(I:Inv X pins σ H s) (k:∀b u,s.heap.get? b=some u->h'.get? b=some u) (hp:s.heap.objs.size<=a) (new:aT X.prog X.w (upd H a o) h' a o) :
 Inv X pins σ (upd H a o) { s with heap:=h',toks:=t' }:=I.un (Un.laid k hp (I.hok.fresh hp)) (I.hok.laid k hp new)
theorem Inv.write {x e:Addr}{o:HO}{t':Nat}(I:Inv X pins σ H s) (mu:rT (H x)) (he:e=x\/H e=some (.own x)) (k:∀b u,b≠e->s.heap.get? b=some u->h'.get? b=some u) (pz:∃u,h'.get? e=some u)
 (new:aT X.prog X.w (upd H x o) h' x o):Inv X pins σ (upd H x o) { s with heap:=h',toks:=t' }:=I.un (Un.write mu he k pz) (I.hok.write mu he k pz new)
theorem Inv.pC {vH:List (Addr×Obj)}(I:Inv X pins σ H s) (h:∀p∈vH,s.heap.get? p.1=some p.2/\H p.1=none/\p.1≠X.env.locals/\p.1∉X.fs/\∀v,p.2.data≠.cell v):Inv X vH σ H s:=
 ⟨I.ok,I.os,I.bare,I.base,I.loc,I.cell,I.free,I.freeC,λp hp=>(List.mem_append.mp hp).elim (λz=>I.pin p (List.mem_append_left _ z)) (h p),I.hok,I.len⟩
theorem mQ {N:List Str}(hN:N.Nodup){i j:Nat}{x:Str}(a:N[i]?=some x) (b:N[j]?=some x):i=j:=by
 obtain ⟨h1,e1⟩:=List.getElem?_eq_some_iff.mp a
 obtain ⟨h2,e2⟩:=List.getElem?_eq_some_iff.mp b
 exact (List.getElem_inj hN).mp (e1.trans e2.symm)
theorem lP {M:Model}{A:Around}{E:Value->Shared->Prop}{i:Nat}{x:Str}{v:V}{u:Value}{Q:Unit->Shared->Prop}(I:Inv X pins σ H s) (hN:X.N.Nodup) (hi:X.N[i]?=some x) (hx:Loc X.env.scope x) (r:RelV v u)
 (h:∀s',Inv X pins (σ.set i (some v)) H s'->(∃a,Heap.SameBut a s.heap s'.heap/\(a=X.env.locals\/X.env.cells.lookup x=some a))->Q () s') (hf:X.fn x=true\/X.env.scope.names.lookup x=some .local:=by first | exact .inl rfl | exact .inr rfl | assumption):wpAny M A (storeName X.env x u) Q E s:=by
 obtain ⟨m,hn,hl⟩:=id I.loc
 have Ee:(X.env.scope.kind == .class || (X.env.scope.kind == .module && X.env.locals != X.env.globals))=false:=by rw [I.ok.kind]; rfl
 have hiσ:i < σ.length:=by rw [I.len]; exact (List.getElem?_eq_some_iff.mp hi).1
 have mJ:=I.mJ
 have tracked:∀{a:Addr}{h':Heap},(∃o,s.heap.get? a=some o/\H a=none)->Heap.SameBut a s.heap h'->cb X.prog X.w H h':=λ{a h'} ha hs b ob e=>by
  obtain ⟨_,_,vI⟩:=ha
  refine (I.hok b ob e).de (λc w' hc q=>(hs.2 c ?_).trans q) (λ_ q=>q) λ_ _ q=>q
  rintro rfl
  rcases hc with rfl | hc
  . rw [vI] at e; cases e
  . rw [vI] at hc; cases hc
 rcases hx with hk | hk
 . refine wpAny_storeName_local hk hn (λh' vJ hs=>?_) Ee
   obtain ⟨oL,_,_,GV,_⟩:=id hn
   refine h _ ⟨I.ok,I.os,I.bare,⟨λb o e n hb hx=>?_,λb o e n hb hx=>?_,I.base.free,λb o e hx=>?_,I.base.cN,I.base.frzs,I.base.tbls⟩,⟨_,vJ,λj y v' e1 e2 e3=>?_⟩,λy c e=>?_,I.free,I.freeC,λp hp=>?_,tracked ⟨oL,GV,I.free⟩ hs,by simpa using I.len⟩ ⟨_,hs,.inl rfl⟩
   . exact (hs.2 b (Nat.ne_of_lt (Nat.lt_of_lt_of_le (Heap.lt_size e) I.ok.above))).trans (I.base.keep b o e n hb hx)
   . obtain ⟨sl,e1⟩:=I.base.slot b o e n hb hx
     exact ⟨sl,(hs.2 b (Nat.ne_of_lt (Nat.lt_of_lt_of_le (Heap.lt_size e) I.ok.above))).trans e1⟩
   . obtain ⟨o',e1⟩:=I.base.there b o e hx
     exact ⟨o',(hs.2 b (Nat.ne_of_lt (Nat.lt_of_lt_of_le (Heap.lt_size e) I.ok.above))).trans e1⟩
   . by_cases hj:j=i
     . subst hj
       rw [hi] at e1; cases e1
       rw [List.getElem?_set_self hiσ] at e2
       cases e2
       exact ⟨u,r,.inl ⟨hk,by simp⟩⟩
     . rw [List.getElem?_set_ne (Ne.symm hj)] at e2
       obtain ⟨u',r',q⟩:=hl j y v' e1 e2 e3
       refine ⟨u',r',?_⟩
       rcases q with ⟨k,e⟩ | ⟨k,c,e,z⟩
       . refine .inl ⟨k,?_⟩
         have:y≠x:=λe=>hj (mQ hN e1 (e ▸ hi))
         simp [this,e]
       . exact .inr ⟨k,c,e,z.sameBut hs (mJ y c e)⟩
   . obtain ⟨w',z⟩:=I.cell y c e
     exact ⟨w',z.sameBut hs (mJ y c e)⟩
   . obtain ⟨e,n,ne,nf,d⟩:=I.pin p hp
     exact ⟨(hs.2 p.1 ne).trans e,n,ne,nf,d⟩
 . have xV:X.fn x=true:=by
    rcases hf with z | z
    . exact z
    . rw [z] at hk; cases hk
   obtain ⟨c,hc⟩:=I.ok.has x (.inl hk)
   obtain ⟨w',z⟩:=I.cell x c hc
   refine wpAny_storeName_cell I.ok.kind hk hc z (λh' eI hs=>?_)
   obtain ⟨oc,Cd,Ef⟩:=id z
   refine h { s with heap:=h' } ⟨I.ok,I.os,I.bare,⟨λb o e n hb hx=>?_,λb o e n hb hx=>?_,I.base.free,λb o e hx=>?_,I.base.cN,I.base.frzs,I.base.tbls⟩,⟨m,hn.sameBut hs (Ne.symm (mJ x c hc)),λj y v' e1 e2 e3=>?_⟩,λy c' e=>?_,I.free,I.freeC,λp hp=>?_,tracked ⟨oc,Cd,I.freeC x c hc⟩ hs,by simpa using I.len⟩ ⟨c,hs,.inr hc⟩
   . exact (hs.2 b (Nat.ne_of_lt (Nat.lt_of_lt_of_le (Heap.lt_size e) (I.ok.cab x c xV hc)))).trans (I.base.keep b o e n hb hx)
   . obtain ⟨sl,e1⟩:=I.base.slot b o e n hb hx
     exact ⟨sl,(hs.2 b (Nat.ne_of_lt (Nat.lt_of_lt_of_le (Heap.lt_size e) (I.ok.cab x c xV hc)))).trans e1⟩
   . obtain ⟨o',e1⟩:=I.base.there b o e hx
     exact ⟨o',(hs.2 b (Nat.ne_of_lt (Nat.lt_of_lt_of_le (Heap.lt_size e) (I.ok.cab x c xV hc)))).trans e1⟩
   . by_cases hj:j=i
     . subst hj
       rw [hi] at e1; cases e1
       rw [List.getElem?_set_self hiσ] at e2
       cases e2
       exact ⟨u,r,.inr ⟨.inl hk,c,hc,eI⟩⟩
     . rw [List.getElem?_set_ne (Ne.symm hj)] at e2
       obtain ⟨u',r',q⟩:=hl j y v' e1 e2 e3
       refine ⟨u',r',?_⟩
       rcases q with q | ⟨k,c',e,z'⟩
       . exact .inl q
       . refine .inr ⟨k,c',e,z'.sameBut hs ?_⟩
         rintro rfl
         exact hj (mQ hN e1 (I.ok.inj _ _ _ e hc ▸ hi))
   . by_cases Ce:c'=c
     . subst Ce; exact ⟨_,eI⟩
     . obtain ⟨w2,z2⟩:=I.cell y c' e
       exact ⟨w2,z2.sameBut hs Ce⟩
   . obtain ⟨e,n,ne,nf,d⟩:=I.pin p hp
     refine ⟨(hs.2 p.1 ?_).trans e,n,ne,nf,d⟩
     intro q
     rw [q,Cd] at e
     have q':oc=p.2:=Option.some.inj e
     exact d w' (by rw [← q']; exact Ef)
theorem mV {M:Model}{A:Around}{E:Value->Shared->Prop}{i:Nat}{x:Str}{v:V}{u:Value}{Q:Unit->Shared->Prop}(I:Inv X pins σ H s) (hN:X.N.Nodup) (hi:X.N[i]?=some x) (hx:Loc X.env.scope x) (r:RelV v u)
 (h:∀s',Inv X pins (σ.set i (some v)) H s'->Q () s') (hf:X.fn x=true\/X.env.scope.names.lookup x=some .local:=by first | exact .inl rfl | exact .inr rfl | assumption):wpAny M A (storeName X.env x u) Q E s:=
 lP I hN hi hx r (λs' I' _=>h s' I') hf
theorem Inv.AA {s':Shared}{ch:List Addr}(I:Inv X pins σ H s) (ho:s'.os=s.os) (u:Un (il X.stack) ch H H' s.heap s'.heap) (hok:cb X.prog X.w H' s'.heap) (hg:AllBare s'.gens)
 (jl:∀b∈ch,(b∈X.ex\/X.eU.heap.objs.size<=b)/\b≠X.env.locals/\(∀x c,X.env.cells.lookup x=some c->c≠b)/\∀p∈X.pn++pins,p.1≠b):Inv X pins σ H' s':=by
 obtain ⟨h',g',d',t',o'⟩:=s'
 have e:o'=s.os:=ho
 subst e
 exact I.call (g':=g') (t':=t') (d':=d') u hok hg jl
end
abbrev XK:=Value->Option Addr->Hp->Prop
abbrev St:=List (Option V)
abbrev VK:=V->Hp->Prop
abbrev TE:=St->Hp->VK->Prop
abbrev TT:=St->Hp->(Bool->Hp->Prop)->Prop
abbrev TA:=St->Hp->(List V->Hp->Prop)->Prop
structure Ends where
 nx:St->Hp->Prop
 rt:VK
 bk:St->Hp->Prop:=λ_ _=>False
 ct:St->Hp->Prop:=λ_ _=>False
abbrev TS:=Ends->St->Hp->Prop
def EP (X:Cx) (pins:List (Addr×Obj)) (σ:St) (Q:VK) (u:Value) (s':Shared):Prop:=∃v H',Inv X pins σ H' s'/\RelV v u/\Q v H'
def TP (X:Cx) (pins:List (Addr×Obj)) (σ:St) (Q:Bool->Hp->Prop) (b:Bool) (s':Shared):Prop:=∃H',Inv X pins σ H' s'/\Q b H'
def AP (X:Cx) (pins:List (Addr×Obj)) (σ:St) (Q:List V->Hp->Prop) (us:List Value) (s':Shared):Prop:=∃vs H',Inv X pins σ H' s'/\Vals vs us/\Q vs H'
def SP (X:Cx) (pins:List (Addr×Obj)) (D:Ends) (f:Flow) (s':Shared):Prop:=
 match f with
 | .next=>∃bW H',Inv X pins bW H' s'/\D.nx bW H'
 | .brk=>∃bW H',Inv X pins bW H' s'/\D.bk bW H'
 | .cont=>∃bW H',Inv X pins bW H' s'/\D.ct bW H'
 | .ret u=>∃v bW H',Inv X pins bW H' s'/\RelV v u/\D.rt v H'
def PE (X:Cx) (e:Expr) (t:TE):Prop:=
 ∀(pins:List (Addr×Obj)) (s:Shared) (σ:St) (H:Hp) (Q:VK),Inv X pins σ H s->t σ H Q->wpAny (model X.prog X.w) X.A (eval e X.env) (EP X pins σ Q) X.xe s
def PT (X:Cx) (e:Expr) (t:TT):Prop:=
 ∀(pins:List (Addr×Obj)) (s:Shared) (σ:St) (H:Hp) (Q:Bool->Hp->Prop),Inv X pins σ H s->t σ H Q->wpAny (model X.prog X.w) X.A (isTrue e X.env (eval e X.env)) (TP X pins σ Q) X.xe s
def PW (X:Cx) (e:Expr) (t:TT):Prop:=
 ∀(whole:Sem Value) (pins:List (Addr×Obj)) (s:Shared) (σ:St) (H:Hp) (Q:Bool->Hp->Prop),Inv X pins σ H s->t σ H Q->wpAny (model X.prog X.w) X.A (isTrue e X.env whole) (TP X pins σ Q) X.xe s
theorem PW.pt {X:Cx}{e:Expr}{t:TT}(h:PW X e t):PT X e t:=h _
def PA (X:Cx) (es:List Expr) (t:TA):Prop:=
 ∀(pos:Pos) (pins:List (Addr×Obj)) (s:Shared) (σ:St) (H:Hp) (Q:List V->Hp->Prop),Inv X pins σ H s->t σ H Q->wpAny (model X.prog X.w) X.A (spliced (backTo pos (starEach es X.env))) (AP X pins σ Q) X.xe s
def PS (X:Cx) (st:Stmt) (t:TS):Prop:=
 ∀(pins:List (Addr×Obj)) (s:Shared) (σ:St) (H:Hp) (D:Ends),Inv X pins σ H s->t D σ H->wpAny (model X.prog X.w) X.A (exec st X.env) (SP X pins D) X.xe s
def fu (X:Cx) (st:List Stmt) (t:TS):Prop:=
 ∀(pins:List (Addr×Obj)) (s:Shared) (σ:St) (H:Hp) (D:Ends),Inv X pins σ H s->t D σ H->wpAny (model X.prog X.w) X.A (execs st X.env) (SP X pins D) X.xe s
theorem aE {α:Type}{t:Sem α}{Q Q':α->Shared->Prop}{M:Model}{A:Around}{E:Value->Shared->Prop}{s:Shared}(h:wpAny M A t Q E s) (hQ:∀a s,Q a s->Q' a s):wpAny M A t Q' E s:=wpAny_mono h hQ λ_ _ x=>x
end L2
namespace L2
open PySem PySem.Spec PyProof.Rows
section
variable {X:Cx}
theorem bin {a b:Expr}{ta tb:TE}(ha:PE X a ta) (hb:PE X b tb){pins:List (Addr×Obj)}{s:Shared}{σ:St}{H:Hp}{R:V->V->Hp->Prop}(I:Inv X pins σ H s) (h:ta σ H λx H1=>tb σ H1 λy H2=>R x y H2)
 {α:Type}{Q:α->Shared->Prop}{f:Value->Value->Sem α}
 (hf:∀v u s2 x y H2,Inv X pins σ H2 s2->RelV x v->RelV y u->R x y H2->wpAny (model X.prog X.w) X.A (f v u) Q X.xe s2) :
 wpAny (model X.prog X.w) X.A (eval a X.env) (λv bw=>wpAny (model X.prog X.w) X.A (eval b X.env) (λu lu=>wpAny (model X.prog X.w) X.A (f v u) Q X.xe lu) X.xe bw) X.xe s:=by
 refine aE (ha pins s σ H _ I h) λv s1 ⟨x,H1,I1,r1,q1⟩=>?_
 refine aE (hb pins s1 σ H1 _ I1 q1) λu s2 ⟨y,H2,I2,r2,q2⟩=>?_
 exact hf v u s2 x y H2 I2 r1 r2 q2
def qE (i:Nat):TE:=λσ H Q=>∃v,σ[i]?=some (some v)/\Q v H
def tC (v:V):TE:=λ_ H Q=>Q v H
theorem xW {i:Nat}{x:Str}{pos:Pos}(hN:X.N[i]?=some x) (hv:xS X.env.scope x) (hd:(x == ("__debug__" : Str))=false:=by decide) (iC:(x == ("__classdict__" : Str))=false:=by decide):PE X (.Name x pos) (qE i):=by
 intro pins s σ H Q I h
 obtain ⟨v,e,h⟩:=h
 obtain ⟨m,hn,hl⟩:=I.loc
 obtain ⟨u,r,l⟩:=hl i x v hN e hv
 have fin:EP X pins σ Q u s:=⟨v,H,I,r,h⟩
 rcases l with ⟨hk,hm⟩ | ⟨hk,c,hc,vK⟩
 . exact wpAny_Name (wpAny_loadName_local I.ok.kind hk hn hm fin) hd
 . rcases hk with hk | hk
   . exact wpAny_Name (wpAny_loadName_cell I.ok.kind hk hc vK fin) hd
   . exact wpAny_Name (wpAny_loadName_free I.ok.kind hk hc vK fin iC) hd
theorem af {i j pos} : PE X (.Constant (.int i) j pos) (tC (.int i)):=λ_ _ _ H _ I h=>wpAny_Constant_int ⟨.int i,H,I.tok _,⟨_,rfl⟩,h⟩
theorem dJ {b j pos} : PE X (.Constant (.bool b) j pos) (tC (.bl b)):=λ_ _ _ H _ I h=>Constant_bool ⟨.bl b,H,I,rfl,h⟩
theorem fv {x j pos} : PE X (.Constant (.str x) j pos) (tC (.str x)):=λ_ _ _ H _ I h=>Calls.Constant_str ⟨.str x,H,I.tok _,⟨_,rfl⟩,h⟩
def Gl (X:Cx) (x:Str):Prop:=X.env.kindOf x=some .globalImplicit
theorem pD {E:Value->Shared->Prop}{pins:List (Addr×Obj)}{s:Shared}{σ:St}{H:Hp}{x:Str}{u:Value}{pos:Pos}{Q:Value->Shared->Prop}(I:Inv X pins σ H s) (hg:Gl X x) (hm:X.mg x=some u) (h:Q u s)
 (hd:(x == ("__debug__" : Str))=false:=by decide):wpAny (model X.prog X.w) X.A (eval (.Name x pos) X.env) Q E s:=
 Calls.Name_function_global I.ok.kind hg (Calls.loadGlobal_global (by rw [I.ok.glob]; exact I.mod.glob.keeps I.bk) hm h) hd
theorem eJ {E:Value->Shared->Prop}{pins:List (Addr×Obj)}{s:Shared}{σ:St}{H:Hp}{x:Str}{u:Value}{pos:Pos}{Q:Value->Shared->Prop}(I:Inv X pins σ H s) (hg:Gl X x) (hm:X.mg x=none) (hv:bootBuiltins x=some u) (h:Q u s)
 (hn:x ≠ "__name__":=by decide) (hd:(x == ("__debug__" : Str))=false:=by decide):wpAny (model X.prog X.w) X.A (eval (.Name x pos) X.env) Q E s:=by
 obtain ⟨mb,h1,h2⟩:=I.mod.blt
 exact Calls.Name_function_global I.ok.kind hg (Calls.loadGlobal_builtin (by rw [I.ok.glob]; exact I.mod.glob.keeps I.bk) hm (by rw [I.ok.blt]; exact h1.keeps I.bk) ((h2 x hn).trans hv) h) hd
theorem fj {x:Str}{v:V}{u:Value}{pos:Pos}(hg:Gl X x) (hm:X.mg x=none) (hv:bootBuiltins x=some u) (r:RelV v u) (hn:x ≠ "__name__":=by decide) (hd:(x == ("__debug__" : Str))=false:=by decide):PE X (.Name x pos) (tC v):=
 λ_ _ _ H _ I h=>eJ I hg hm hv ⟨v,H,I,r,h⟩ hn hd
variable {a b:Expr}{ta tb:TE}{pos:Pos}
def PC (X:Cx) (op:CmpOp) (a b:Expr) (t:TE):Prop:=
 ∀(pins:List (Addr×Obj)) (s:Shared) (σ:St) (H:Hp) (Q:VK),Inv X pins σ H s->t σ H Q->
  wpAny (model X.prog X.w) X.A (eval a X.env) (λv bw=>wpAny (model X.prog X.w) X.A (eval b X.env) (λu lu=>wpAny (model X.prog X.w) X.A (compareOp op v u) (EP X pins σ Q) X.xe lu) X.xe bw) X.xe s
theorem uI (b:Expr){op:CmpOp}(h:op≠.In) (h2:op≠.NotIn):behindInMarks op b=false:=by
 have e1:(op == CmpOp.In)=false:=by cases op <;> first | rfl | exact absurd rfl h
 have e2:(op == CmpOp.NotIn)=false:=by cases op <;> first | rfl | exact absurd rfl h2
 cases b <;> simp [behindInMarks,e1,e2]
def Eg (ta:TE):TE:=λσ H Q=>ta σ H λx H1=>Q (.bl (decide (x=.aR))) H1
theorem RelV.uJ {x:V}{v:Value}(r:RelV x v):(v == Value.none)=decide (x=.aR):=by
 cases x with
 | aR=>cases r; rfl
 | bl _=>cases r; rfl
 | int _=>obtain ⟨t,rfl⟩:=r; rfl
 | str _=>obtain ⟨t,rfl⟩:=r; rfl
 | gv _=>obtain ⟨t,rfl⟩:=r; rfl
 | lO _=>obtain ⟨t,rfl⟩:=r; rfl
 | ref _=>cases r; rfl
 | ty _=>cases r; rfl
theorem iD {j pos'} (ha:PE X a ta):PC X .Is a (.Constant .none j pos') (Eg ta):=by
 intro pins s σ H Q I h
 refine aE (ha pins s σ H _ I h) λv s1 ⟨x,H1,I1,r1,q1⟩=>?_
 exact Constant_none (is_none_gen ⟨.bl _,H1,I1,by rw [r1.uJ]; rfl,q1⟩)
def tB (t:TE):TT:=λσ H Q=>t σ H λx H1=>∃c,x=.bl c/\Q c H1
theorem dM {op:CmpOp}{t:TE}(h:PC X op a b t) (h1:behindInMarks op b=false:=by first | exact uI _ (by decide) (by decide) | rfl):PT X (.Compare a [op] [b] pos) (tB t):=by
 intro pins s σ H Q I hw
 refine wpAny_isTrue_Compare1 (aE (h pins s σ H _ I hw) λv s1 h1=>aE h1 λu s2 h2=>aE h2 λc s3 ⟨x,H1,I1,r1,q1⟩=>?_) h1
 obtain ⟨d,rfl,q⟩:=q1
 cases r1
 exact wpAny_truthy_bool ⟨H1,I1,q⟩
theorem cT {e:Expr}{t:TE}(h:PE X e t) (he:∀whole,isTrue e X.env whole=(do let v ← whole; standAt e.pos; holding [v] (truthy v)):=by intro _; rfl):PT X e (tB t):=by
 intro pins s σ H Q I hw
 refine isTrue_plain (aE (h pins s σ H _ I hw) λv s1 ⟨x,H1,I1,r1,q1⟩=>?_) (he _)
 obtain ⟨d,rfl,q⟩:=q1
 cases r1
 exact wpAny_truthy_bool ⟨H1,I1,q⟩
variable {tA vL:TT}{rest:List Expr}
def Eh (t u:TT):TT:=λσ H Q=>t σ H λc H1=>if c=true then u σ H1 Q else Q false H1
def GW (t u:TT):TT:=λσ H Q=>t σ H λc H1=>if c=true then Q true H1 else u σ H1 Q
def Ei (t:TT):TT:=λσ H Q=>t σ H λc H1=>Q (!c) H1
theorem pE (ha:PT X a tA):PW X (.BoolOp .And [a] pos) tA:=by
 intro wh pins s σ H Q I h
 refine isTrue_and (aE (ha pins s σ H Q I h) λc s1 e=>?_)
 cases c with
 | true=>exact isTrue_and_nil e
 | false=>exact e
theorem jW (ha:PT X a tA):PW X (.BoolOp .Or [a] pos) tA:=by
 intro wh pins s σ H Q I h
 refine isTrue_or (aE (ha pins s σ H Q I h) λc s1 e=>?_)
 cases c with
 | false=>exact isTrue_or_nil e
 | true=>exact e
theorem rW (ha:PT X a tA) (hb:PW X (.BoolOp .And (b::rest) pos) vL):PW X (.BoolOp .And (a::b::rest) pos) (Eh tA vL):=by
 intro wh pins s σ H Q I h
 refine isTrue_and (aE (ha pins s σ H _ I h) λc s1 ⟨H1,I1,q1⟩=>?_)
 cases c with
 | true=>exact hb wh pins s1 σ H1 Q I1 q1
 | false=>exact ⟨H1,I1,q1⟩
theorem i0 (ha:PT X a tA) (hb:PW X (.BoolOp .Or (b::rest) pos) vL):PW X (.BoolOp .Or (a::b::rest) pos) (GW tA vL):=by
 intro wh pins s σ H Q I h
 refine isTrue_or (aE (ha pins s σ H _ I h) λc s1 ⟨H1,I1,q1⟩=>?_)
 cases c with
 | true=>exact ⟨H1,I1,q1⟩
 | false=>exact hb wh pins s1 σ H1 Q I1 q1
theorem eK (ha:PT X a tA):PT X (.UnaryOp .Not a pos) (Ei tA):=by
 intro pins s σ H Q I h
 exact isTrue_not (ha pins s σ H (λc H1=>Q (!c) H1) I h)
def AB (ta tb:TE):TE:=λσ H Q=>ta σ H λx H1=>∃c,x=.bl c/\if c=true then tb σ H1 Q else Q (.bl false) H1
theorem mW {op} {t:TE}(h:PE X a t):PE X (.BoolOp op [a] pos) t:=λpins s σ H Q I hw=>BoolOp_one (h pins s σ H Q I hw)
theorem jX (ha:PE X a ta) (hb:PE X (.BoolOp .And (b::rest) pos) tb):PE X (.BoolOp .And (a::b::rest) pos) (AB ta tb):=by
 intro pins s σ H Q I h
 refine BoolOp_and (aE (ha pins s σ H _ I h) λv s1 ⟨x,H1,I1,r1,q1⟩=>?_)
 obtain ⟨c,rfl,q1⟩:=q1
 cases r1
 refine wpAny_truthy_bool ?_
 cases c with
 | true=>exact hb pins s1 σ H1 Q I1 q1
 | false=>exact ⟨.bl false,H1,I1,rfl,q1⟩
def GX (t:TT) (ta tb:TE):TE:=λσ H Q=>t σ H λc H1=>if c=true then ta σ H1 Q else tb σ H1 Q
theorem uK {c:Expr}(hc:PT X c tA) (ha:PE X a ta) (hb:PE X b tb):PE X (.IfExp c a b pos) (GX tA ta tb):=by
 intro pins s σ H Q I h
 refine wpAny_IfExp (aE (hc pins s σ H _ I h) λd s1 ⟨H1,I1,q1⟩=>?_)
 cases d with
 | true=>exact ha pins s1 σ H1 Q I1 q1
 | false=>exact hb pins s1 σ H1 Q I1 q1
end
end L2
namespace L2
open PySem PySem.Spec PyProof.Rows
def ay (K:W.Frag) (H:Hp) (a:Addr) (xs:List V):Prop:=
 Rd H a (.lst xs)\/
  ∃(o:Obj) (its:Array Value) (n:Nat),K.lookup a=some o/\o.cls=.type "list" /\ o.dict=none/\o.data=.seq its n/\its.size<=sizeLine/\Vals xs its.toList
def aY (K:W.Frag) (H:Hp) (a:Addr) (xs:List V):Prop:=
 Rd H a (.tup xs)\/
  ∃(o:Obj) (its:Array Value) (n:Nat),K.lookup a=some o/\o.cls=.type "tuple" /\ o.data=.seq its n/\its.size<=sizeLine/\Vals xs its.toList
def Ej:Value->Option V
 | .none=>some .aR
 | .bool b=>some (.bl b)
 | .int i _=>some (.int i)
 | .str x _=>some (.str x)
 | .bytes b _=>some (.gv b)
 | .float b _=>some (.lO b)
 | .ref a=>some (.ref a)
 | .type n=>some (.ty n)
 | _=>none
theorem RelV.abs {x:V}{u:Value}(r:RelV x u):Ej u=some x:=by
 cases x with
 | aR=>cases r; rfl
 | bl _=>cases r; rfl
 | int _=>obtain ⟨t,rfl⟩:=r; rfl
 | str _=>obtain ⟨t,rfl⟩:=r; rfl
 | gv _=>obtain ⟨t,rfl⟩:=r; rfl
 | lO _=>obtain ⟨t,rfl⟩:=r; rfl
 | ref _=>cases r; rfl
 | ty _=>cases r; rfl
theorem RelV.inj {x y:V}{u:Value}(r:RelV x u) (q:RelV y u):x=y:=Option.some.inj (r.abs.symm.trans q.abs)
theorem Vals.inj:∀{xs ys:List V}{us:List Value},Vals xs us->Vals ys us->xs=ys
 | _,_,_,.nil,.nil=>rfl
 | _,_,_,.cons r t,.cons r' t'=>by rw [r.inj r',Vals.inj t t']
section
variable {X:Cx}{pins:List (Addr×Obj)}{σ:St}{H:Hp}{s:Shared}{a:Addr}{xs ys:List V}
theorem ay.of {K:W.Frag}(h:H a=some (.lst xs)):ay K H a xs:=.inl (.inl h)
theorem aY.of {K:W.Frag}(h:H a=some (.tup xs)):aY K H a xs:=.inl (.inl h)
theorem Inv.list (I:Inv X pins σ H s) (h:ay X.K H a xs):∃its:List Value,Vals xs its/\PlainL s.heap a its.toArray/\xs.length<=sizeLine:=by
 rcases h with h | ⟨o,its,n,hk,hc,hd,hs,hz,r⟩
 . obtain ⟨z,its,n,r,e⟩:=h.ok I.hok
   exact ⟨its,r,⟨_,n,e,rfl,rfl,rfl⟩,z⟩
 . refine ⟨its.toList,r,⟨o,n,I.cP a o hk,hc,hd,by simpa using hs⟩,?_⟩
   have e:=r.length
   simp only [Array.length_toList] at e
   omega
theorem Inv.tuple (I:Inv X pins σ H s) (h:aY X.K H a xs):∃its:List Value,Vals xs its/\IsTup s.heap a its.toArray/\xs.length<=sizeLine:=by
 rcases h with h | ⟨o,its,n,hk,hc,hs,hz,r⟩
 . obtain ⟨z,its,r,p⟩:=h.ok I.hok
   exact ⟨its,r,p,z⟩
 . refine ⟨its.toList,r,⟨o,I.cP a o hk,hc,n,by simpa using hs⟩,?_⟩
   have e:=r.length
   simp only [Array.length_toList] at e
   omega
theorem Inv.mX (I:Inv X pins σ H s) (h:ay X.K H a xs) (h':ay X.K H a ys):xs=ys:=by
 obtain ⟨its,r,⟨o,n,e,_,_,d⟩,_⟩:=I.list h
 obtain ⟨its',r',⟨o',n',e',_,_,d'⟩,_⟩:=I.list h'
 rw [e] at e'; cases e'
 rw [d] at d'
 injection d' with d1 _
 have:its=its':=by simpa using congrArg Array.toList d1
 subst this
 exact r.inj r'
theorem Inv.lQ (I:Inv X pins σ H s) (h:aY X.K H a xs) (h':aY X.K H a ys):xs=ys:=by
 obtain ⟨its,r,⟨o,e,_,n,d⟩,_⟩:=I.tuple h
 obtain ⟨its',r',⟨o',e',_,n',d'⟩,_⟩:=I.tuple h'
 rw [e] at e'; cases e'
 rw [d] at d'
 injection d' with d1 _
 have:its=its':=by simpa using congrArg Array.toList d1
 subst this
 exact r.inj r'
end
abbrev Cx.gm (X:Cx) (E:Value->Shared->Prop):Cx:={ X with xe:=E }
abbrev Cx.mY (X:Cx):Cx:=X.gm λ_ _=>False
theorem Cx.Ok.gm {X:Cx}(ok:X.Ok) (E:Value->Shared->Prop):(X.gm E).Ok:=
 ⟨ok.mod,ok.kind,ok.glob,ok.blt,ok.above,ok.inj,ok.has,ok.cab,ok.hd,ok.frames,ok.stk,ok.exf,ok.bs,ok.bsz,ok.noex,ok.exfs,ok.d7,ok.frf⟩
theorem Cx.Ok.eL {X:Cx}{E:Value->Shared->Prop}(ok:(X.gm E).Ok):X.Ok:=
 ⟨ok.mod,ok.kind,ok.glob,ok.blt,ok.above,ok.inj,ok.has,ok.cab,ok.hd,ok.frames,ok.stk,ok.exf,ok.bs,ok.bsz,ok.noex,ok.exfs,ok.d7,ok.frf⟩
section
variable {X:Cx}{pins:List (Addr×Obj)}{σ:St}{H:Hp}{s:Shared}{E:Value->Shared->Prop}
theorem Inv.gm (I:Inv X pins σ H s) (E:Value->Shared->Prop):Inv (X.gm E) pins σ H s:=⟨I.ok.gm E,I.os,I.bare,I.base,I.loc,I.cell,I.free,I.freeC,I.pin,I.hok,I.len⟩
theorem Inv.eL (I:Inv (X.gm E) pins σ H s):Inv X pins σ H s:=⟨I.ok.eL,I.os,I.bare,I.base,I.loc,I.cell,I.free,I.freeC,I.pin,I.hok,I.len⟩
theorem SP.eL {D:Ends}{f:Flow}{s':Shared}(h:SP (X.gm E) pins D f s'):SP X pins D f s':=by
 cases f with
 | next=>obtain ⟨bW,H',I,q⟩:=h; exact ⟨bW,H',I.eL,q⟩
 | brk=>obtain ⟨bW,H',I,q⟩:=h; exact ⟨bW,H',I.eL,q⟩
 | cont=>obtain ⟨bW,H',I,q⟩:=h; exact ⟨bW,H',I.eL,q⟩
 | ret u=>obtain ⟨v,bW,H',I,r,q⟩:=h; exact ⟨v,bW,H',I.eL,r,q⟩
theorem fu.mY {st:List Stmt}{t:TS}(h:fu X.mY st t):fu X st t:=λpins s σ H D I hw=>
 wpAny_mono (h pins s σ H D (I.gm _) hw) (λ_ _ q=>q.eL) λ_ _ z=>False.elim z
end
section
variable {X:Cx}{st:Stmt}{rest:List Stmt}{t u:TS}{e:Expr}{te:TE}{pos:Pos}
def AD:TS:=λD σ H=>D.nx σ H
def dq (t u:TS):TS:=λD σ H=>t { D with nx:=u D } σ H
theorem aN:fu X [] AD:=λ_ _ σ H _ I h=>wpAny_execs_nil ⟨σ,H,I,h⟩
theorem ae (h1:PS X st t) (h2:fu X rest u):fu X (st::rest) (dq t u):=by
 intro pins s σ H D I h
 refine wpAny_execs_cons (aE (h1 pins s σ H { D with nx:=u D } I h) λf s1 q=>?_)
 cases f with
 | next=>
  obtain ⟨bW,H',I',q⟩:=q
  exact h2 pins s1 bW H' D I' q
 | ret v=>exact q
 | brk=>exact q
 | cont=>exact q
theorem aq (h1:PS X st t):fu X [st] t:=by
 intro pins s σ H D I h
 refine wpAny_execs_cons (aE (h1 pins s σ H D I h) λf s1 q=>?_)
 cases f with
 | next=>exact wpAny_execs_nil q
 | ret v=>exact q
 | brk=>exact q
 | cont=>exact q
theorem Inv.quiet {pins:List (Addr×Obj)}{σ:St}{H:Hp}{s:Shared}(I:Inv X pins σ H s):interactive X.env=false:=by simp [interactive,I.ok.kind]
def AE (te:TE):TS:=λD σ H=>te σ H λ_ H1=>D.nx σ H1
theorem lx (he:PE X e te) (hs:swapsWith e none pos.line X.env=pure false:=by rfl):PS X (.Expr e pos) (AE te):=by
 intro pins s σ H D I h
 exact wpAny_Expr_any (aE (he pins s σ H _ I h) λv s1 ⟨x,H1,I1,r1,q1⟩=>⟨σ,H1,I1,q1⟩) I.quiet hs
def Ek (te:TE):TS:=λD σ H=>te σ H D.rt
theorem aJ (he:PE X e te):PS X (.Return (some e) pos) (Ek te):=by
 intro pins s σ H D I h
 exact wpAny_Return_some (aE (he pins s σ H _ I h) λv s1 ⟨x,H1,I1,r1,q1⟩=>⟨x,σ,H1,I1,r1,q1⟩)
def El (c:TT) (t u:TS):TS:=λD σ H=>c σ H λb H1=>if b=true then t D σ H1 else u D σ H1
theorem bf {c:Expr}{a b:List Stmt}{tc:TT}(hc:PT X c tc) (ha:fu X a t) (hb:fu X b u):PS X (.If c a b pos) (El tc t u):=by
 intro pins s σ H D I h
 refine wpAny_If (aE (hc pins s σ H _ I h) λd s1 ⟨H1,I1,q1⟩=>?_)
 cases d with
 | true=>exact ha pins s1 σ H1 D I1 q1
 | false=>exact hb pins s1 σ H1 D I1 q1
end
abbrev TG:=V->St->Hp->(St->Hp->Prop)->Prop
abbrev mZ:=List V->St->Hp->(St->Hp->Prop)->Prop
def PG (X:Cx) (target:Expr) (t:TG):Prop:=
 ∀(pins:List (Addr×Obj)) (s:Shared) (σ:St) (H:Hp) (v:V) (u:Value) (Q:St->Hp->Prop),Inv X pins σ H s->RelV v u->t v σ H Q->
  wpAny (model X.prog X.w) X.A (assign target X.env u) (λ_ s'=>∃bW H',Inv X pins bW H' s'/\Q bW H') X.xe s
def vM (X:Cx) (ts:List Expr) (t:mZ):Prop:=
 ∀(pins:List (Addr×Obj)) (s:Shared) (σ:St) (H:Hp) (vs:List V) (us:List Value) (Q:St->Hp->Prop),Inv X pins σ H s->Vals vs us->t vs σ H Q->
  wpAny (model X.prog X.w) X.A (assignInOrder ((assignEach ts X.env).map (·.2)) us) (λ_ s'=>∃bW H',Inv X pins bW H' s'/\Q bW H') X.xe s
abbrev uL:=V->V->V->Hp->(Hp->Prop)->Prop
def xX (X:Cx) (t:uL):Prop:=
 ∀(pins:List (Addr×Obj)) (s:Shared) (σ:St) (H:Hp) (o i v:V) (ov iv u:Value) (Q:Hp->Prop),Inv X pins σ H s->RelV o ov->RelV i iv->RelV v u->t o i v H Q->
  wpAny (model X.prog X.w) X.A (setItem ov iv u) (λ_ s'=>∃H',Inv X pins σ H' s'/\Q H') X.xe s
section
variable {X:Cx}{pos:Pos}
def cD (i:Nat):TG:=λv σ H Q=>Q (σ.set i (some v)) H
theorem aU {i:Nat}{x:Str}(hN:X.N.Nodup) (hi:X.N[i]?=some x) (hx:Loc X.env.scope x) (hf:X.fn x=true\/X.env.scope.names.lookup x=some .local:=by first | exact .inl rfl | exact .inr rfl | assumption):PG X (.Name x pos) (cD i):=by
 intro pins s σ H v u Q I r h
 exact wpAny_assign_Name (mV I hN hi hx r (λs' I'=>⟨_,H,I',h⟩) hf)
def m7:mZ:=λvs σ H Q=>vs=[]/\Q σ H
def eY (t:TG) (u:mZ):mZ:=λvs σ H Q=>∃v r,vs=v::r/\t v σ H λbW H'=>u r bW H' Q
theorem ly:vM X [] m7:=by
 intro pins s σ H vs us Q I r h
 obtain ⟨e,h⟩:=h
 subst e
 cases r
 exact assignInOrder_nil ⟨σ,H,I,h⟩
theorem d9 {e:Expr}{es:List Expr}{t:TG}{u:mZ}(h1:PG X e t) (h2:vM X es u)
 (hs:(assignEach (e::es) X.env).map (·.2)=assign e X.env::(assignEach es X.env).map (·.2):=by rfl):vM X (e::es) (eY t u):=by
 intro pins s σ H vs us Q I r h
 obtain ⟨v,vr,e1,h⟩:=h
 subst e1
 cases r with
 | cons r rr=>
  rw [hs]
  refine assignInOrder_cons (aE (h1 pins s σ H _ _ _ I r h) λ_ s1 ⟨Lj,H1,I1,q1⟩=>?_)
  exact h2 pins s1 Lj H1 _ _ Q I1 rr q1
def nc (K:W.Frag) (n:Nat) (t:mZ):TG:=λv σ H Q=>∃a xs,v=.ref a/\aY K H a xs/\xs.length=n/\t xs σ H Q
theorem ng {es:List Expr}{k:Nat}{t:mZ}{n:Nat}(hc:X.calm=true) (h:vM X es t)
 (hn:(assignEach es X.env).length=n:=by rfl) (gd:(assignEach es X.env).findIdx? (·.1)=none:=by rfl):PG X (.Tuple es k pos) (nc X.K n t):=by
 intro pins s σ H v u Q I r hw
 obtain ⟨a,xs,e1,hq,hl,hw⟩:=hw
 subst e1
 cases r
 obtain ⟨its,rv,ht,hz⟩:=I.tuple hq
 refine assign_Tuple_tuple (I.ok.hd hc) ht (by simp [hn,← hl,rv.length]) gd λh' hx=>?_
 have I1:Inv X pins σ H { s with heap:=h' }:=I.kept (t':=s.toks) λb o e=>hx b o (Nat.ne_of_lt (Heap.lt_size e)) e
 exact h pins _ σ H xs _ Q I1 (by simpa using rv) hw
def Em (to ti:TE) (t:uL):TG:=λv σ H Q=>to σ H λo H1=>ti σ H1 λi H2=>t o i v H2 λH3=>Q σ H3
theorem rX {o i:Expr}{to ti:TE}{t:uL}(ho:PE X o to) (hi:PE X i ti) (hs:xX X t)
 (ha:∀v,assign (.Subscript o i pos) X.env v=(do
  let ov ← holding [v] (eval o X.env)
  let iv ← holding [v,ov] (eval i X.env)
  standAt pos
  holding [v,ov,iv] (setItem ov iv v)
  release [v,ov,iv] []):=by intro _; rfl):PG X (.Subscript o i pos) (Em to ti t):=by
 intro pins s σ H v u Q I r h
 rw [ha]
 refine wpAny_bind (wpAny_holding (aE (ho pins s σ H _ I h) λov s1 ⟨x,H1,I1,r1,q1⟩=>?_))
 refine wpAny_bind (wpAny_holding (aE (hi pins s1 σ H1 _ I1 q1) λiv s2 ⟨y,H2,I2,r2,q2⟩=>?_))
 refine wpAny_bind (wpAny_standAt (wpAny_bind (wpAny_holding (aE (hs pins s2 σ H2 x y v ov iv u _ I2 r1 r2 r q2) λ_ s3 ⟨H3,I3,q3⟩=>?_))))
 exact wpAny_release ⟨σ,H3,I3,q3⟩
def uM (te:TE) (g:TG):TS:=λD σ H=>te σ H λx H1=>g x σ H1 D.nx
theorem rY {tg e:Expr}{te:TE}{g:TG}(he:PE X e te) (hg:PG X tg g) (hs:swapsWithSole [tg] e pos.line X.env=pure false:=by rfl) (hw:swappedStores [tg] e X.env=pure none:=by rfl)
 (h1:(assignEach [tg] X.env).map (·.2)=[assign tg X.env]:=by rfl):PS X (.Assign [tg] e pos) (uM te g):=by
 intro pins s σ H D I h
 refine wpAny_Assign_stores (aE (he pins s σ H _ I h) λv s1 ⟨x,H1,I1,r1,q1⟩=>?_) hs hw
 rw [h1]
 exact aE (hg pins s1 σ H1 x v _ I1 r1 q1) λ_ s2 q=>q
theorem ax {i:Nat}{x:Str}{e:Expr}{te:TE}{pos':Pos}(hN:X.N.Nodup) (hi:X.N[i]?=some x) (hx:Loc X.env.scope x) (he:PE X e te) (hs:swapsWith e (some (.Name x pos')) pos.line X.env=pure false:=by rfl) (hf:X.fn x=true\/X.env.scope.names.lookup x=some .local:=by first | exact .inl rfl | exact .inr rfl | assumption) :
 PS X (.Assign [.Name x pos'] e pos) (uM te (cD i)):=by
 intro pins s σ H D I h
 refine wpAny_Assign_Name (aE (he pins s σ H _ I h) λv s1 ⟨y,H1,I1,r1,q1⟩=>?_) hs
 exact mV I1 hN hi hx r1 (λs2 I2=>⟨_,H1,I2,q1⟩) hf
end
section
variable {X:Cx}{pos:Pos}
end
structure It where
 go:Nat->Hp->Prop
 yld:Nat->Hp->V->Hp->Prop
 stop:Nat->Hp->Prop
def ee (X:Cx) (pins:List (Addr×Obj)) (H:Hp) (b:Addr):Prop:=
 H b=none/\b≠X.env.locals/\b∉X.fs/\(b∈X.ex\/X.eU.heap.objs.size<=b)/\(∀x c,X.env.cells.lookup x=some c->c≠b)/\∀p∈X.pn++pins,p.1≠b
theorem Inv.nh {X:Cx}{pins:List (Addr×Obj)}{σ:St}{H H':Hp}{s:Shared}{b:Addr}(I:Inv X pins σ H s) (hb:s.heap.objs.size<=b) (hn:H' b=none):ee X pins H' b:=by
 refine ⟨hn,Nat.ne_of_gt (Nat.lt_of_lt_of_le I.lt hb),I.Ed hb,.inr (Nat.le_trans I.sz hb),λx c e z=>?_,λp hp z=>?_⟩
 . obtain ⟨v,q⟩:=I.cell x c e
   exact absurd (Nat.lt_of_lt_of_le q.lt (by rw [z]; exact hb)) (Nat.lt_irrefl _)
 . exact absurd (Nat.lt_of_lt_of_le (Heap.lt_size (I.pin p hp).1) (by rw [z]; exact hb)) (Nat.lt_irrefl _)
structure Turn (P:Program) (w:World) (K:W.Frag) (tg:Expr) (J:It) (fp:List Addr) (it:Addr) (tn:Nat->Heap->Prop):Prop where
 mem:it∈fp
 obj:∀i h,tn i h->∀b∈fp,∃o,h.get? b=some o/\∀v,o.data≠.cell v
 keep:∀i h h',tn i h->(∀b∈fp,∀o,h.get? b=some o->h'.get? b=some o)->tn i h'
 item:∀(X:Cx),X.prog=P->X.w=w->X.K=K->X.calm=true->∀(i:Nat) (pins:List (Addr×Obj)) (s:Shared) (σ:St) (H:Hp) (E:Value->Shared->Prop),Inv X pins σ H s->(∀b∈fp,ee X pins H b)->tn i s.heap->J.go i H->
  wpAny (model P w) X.A (pyNext (.ref it)) (λr s1=>∃u,r=some u/\
   wpAny (model P w) X.A (letOwnedTupleGo tg (.ref it) u) (λ_ s2=>∃x H',Inv X pins σ H' s2/\RelV x u/\J.yld i H x H'/\tn (i+1) s2.heap/\∀b∈fp,H' b=none) E s1) E s
 done:∀(X:Cx),X.prog=P->X.w=w->X.K=K->X.calm=true->∀(i:Nat) (pins:List (Addr×Obj)) (s:Shared) (σ:St) (H:Hp) (E:Value->Shared->Prop),Inv X pins σ H s->(∀b∈fp,ee X pins H b)->tn i s.heap->J.stop i H->
  wpAny (model P w) X.A (pyNext (.ref it)) (λr s1=>r=none/\Inv X pins σ H s1) E s
 self:∀(A:Around) (i:Nat) (s:Shared) (Q:Value->Shared->Prop) (E:Value->Shared->Prop),tn i s.heap->Q (.ref it) s->wpAny (model P w) A (pyIter (.ref it)) Q E s
abbrev TI:=St->Hp->(It->Hp->Prop)->Prop
def Cf (X:Cx) (pins:List (Addr×Obj)) (σ:St) (tg:Expr) (R:It->Hp->Prop) (xY:Value) (s2:Shared):Prop:=
 ∃(it:Addr) (fp:List Addr) (tn:Nat->Heap->Prop) (J:It) (H':Hp),xY=.ref it/\Inv X pins σ H' s2/\Turn X.prog X.w X.K tg J fp it tn/\tn 0 s2.heap/\(∀b∈fp,ee X pins H' b)/\R J H'
def PI (X:Cx) (tg iter:Expr) (wi:TI):Prop:=
 ∀(pins:List (Addr×Obj)) (s:Shared) (σ:St) (H:Hp) (R:It->Hp->Prop),Inv X pins σ H s->wi σ H R->
  wpAny (model X.prog X.w) X.A (eval iter X.env) (λv s1=>wpAny (model X.prog X.w) X.A (pyIter v) (Cf X pins σ tg R) X.xe s1) X.xe s
theorem qF {M:Model}{A:Around}{E:Value->Shared->Prop}{s:Shared}{tg:Expr}{it:Addr}{u:Value}{o:Obj}{n:String}{vs:Array Value}{Q:Unit->Shared->Prop}(ho:s.heap.get? it=some o) (hc:o.cls=.type n) (hd:o.data=.fields vs)
 (hn:["enumerate", "zip", "dict_itemiterator", "dict_reverseitemiterator", "odict_iterator", "itertools.zip_longest", "itertools.pairwise"].contains n=false) (hQ:Q () s):wpAny M A (letOwnedTupleGo tg (.ref it) u) Q E s:=by
 unfold letOwnedTupleGo
 cases tg <;> first
  | exact wpAny_pure hQ
  | (cases u <;> first
      | exact wpAny_pure hQ
      | (refine wpAny_bind (wpAny_load ho ?_)
         rw [hc,hd]
         show wpAny M A (if (["enumerate", "zip", "dict_itemiterator", "dict_reverseitemiterator", "odict_iterator", "itertools.zip_longest", "itertools.pairwise"].contains n && vs[0]? == some (rawInt _))=true then _ else _) Q E s
         rw [if_neg (by intro h; rw [hn,Bool.false_and] at h; cases h)]
         exact wpAny_pure hQ))
def pF (K:W.Frag) (a:Addr):It:=
 ⟨λi H=>∃xs x,ay K H a xs/\xs[i]?=some x,λi H x H'=>H'=H/\∀xs,ay K H a xs->xs[i]?=some x,λi H=>∃xs,ay K H a xs/\xs.length<=i⟩
def pG (lo:Int) (n:Nat):It:=⟨λi _=>i<n,λi H x H'=>H'=H/\x=.int (lo+i),λi _=>n<=i⟩
theorem rZ {P:Program}{w:World}{K:W.Frag}{tg:Expr}(a it:Addr):Turn P w K tg (pF K a) [it] it (λi h=>h.IsListIter it a i) where
 mem:=by simp
 obj:=λi h st b hb=>by
  have e:b=it:=by simpa using hb
  subst e
  obtain ⟨o,e,c,d⟩:=st
  exact ⟨o,e,λv z=>by rw [d] at z; cases z⟩
 keep:=λi h h' st k=>st.at λo e=>k it (by simp) o e
 item:=by
  intro X hP hw hK hc i pins s σ H E I hf st hg
  subst hP hw hK
  obtain ⟨xs,x,hq,hx⟩:=hg
  obtain ⟨its,rv,p,hz⟩:=I.list hq
  obtain ⟨u,hu,ru⟩:=rv.get hx
  obtain ⟨f0,f1,f2,f3,f4,f5⟩:=hf it (by simp)
  refine wpAny_pyNext_list_item st p.isList (x:=u) (by simpa using hu) λh' lR sb=>?_
  have I1:Inv X pins σ H { s with heap:=h' }:=I.turned (t':=s.toks) (λb o hb e=>(sb.2 b hb).trans e) f0 f1 f3 f4 f5
  obtain ⟨o,e,c,d⟩:=id lR
  exact ⟨u,rfl,qF (s:={ s with heap:=h' }) e c d (by decide) ⟨x,H,I1,ru,⟨rfl,λys hy=>by rw [I.mX hy hq]; exact hx⟩,lR,λb hb=>(hf b hb).1⟩⟩
 done:=by
  intro X hP hw hK hc i pins s σ H E I hf st hg
  subst hP hw hK
  obtain ⟨xs,hq,hx⟩:=hg
  obtain ⟨its,rv,p,hz⟩:=I.list hq
  obtain ⟨f0,f1,f2,f3,f4,f5⟩:=hf it (by simp)
  have hl:=rv.length
  exact wpAny_pyNext_list_end (I.ok.hd hc) st p.isList (by simp; omega) λh' eb=>⟨rfl,I.turned (t':=s.toks) (λb o hb e=>eb b o hb e) f0 f1 f3 f4 f5⟩
 self:=λ_ _ _ _ _ st h=>wpAny_pyIter_listiter st h
theorem qG {P:Program}{w:World}{K:W.Frag}{tg:Expr}(it:Addr) (lo:Int) (n:Nat):Turn P w K tg (pG lo n) [it] it (λi h=>IsRangeIter h it (lo+(i:Nat)*1) ((n:Int)-(i:Nat)) 1) where
 mem:=by simp
 obj:=λi h st b hb=>by
  have e:b=it:=by simpa using hb
  subst e
  exact ⟨_,st,λv z=>by
   have z':Data.fields _=Data.cell v:=z
   cases z'⟩
 keep:=λi h h' st k=>k it (by simp) _ st
 item:=by
  intro X hP hw hK hc i pins s σ H E I hf st hg
  subst hP hw hK
  obtain ⟨f0,f1,f2,f3,f4,f5⟩:=hf it (by simp)
  have W:=Walks.range (prog:=X.prog) (w:=X.w) (I.ok.hd hc) it lo 1 n
  refine W.item i s _ _ hg st λv h' tk hv lR kk=>?_
  obtain ⟨t,rfl⟩:=hv
  have I1:Inv X pins σ H { s with heap:=h',toks:=tk }:=I.turned (λb o hb e=>kk b o (by simpa using hb) e) f0 f1 f3 f4 f5
  refine ⟨_,rfl,qF (s:={ s with heap:=h',toks:=tk }) (n:="range_iterator") lR rfl rfl (by decide) ⟨.int (lo+i),H,I1,⟨t,?_⟩,⟨rfl,rfl⟩,lR,λb hb=>(hf b hb).1⟩⟩
  rw [Int.mul_one]
 done:=by
  intro X hP hw hK hc i pins s σ H E I hf st hg
  subst hP hw hK
  obtain ⟨f0,f1,f2,f3,f4,f5⟩:=hf it (by simp)
  exact wpAny_pyNext_range_end (I.ok.hd hc) st (by have:n<=i:=hg; omega) λh' eb=>⟨rfl,I.turned (t':=s.toks) (λb o hb e=>eb b o hb e) f0 f1 f3 f4 f5⟩
 self:=λ_ _ _ _ _ st h=>wpAny_pyIter_rangeiter st h
end L2
namespace L2
open PySem PySem.Spec PyProof.Rows
section
variable {X:Cx}{tg:Expr}
def AF (K:W.Frag) (tl:TE):TI:=λσ H R=>tl σ H λx H1=>∃a,x=.ref a/\(∃xs,ay K H1 a xs)/\R (pF K a) H1
theorem fk {l:Expr}{tl:TE}(hl:PE X l tl):PI X tg l (AF X.K tl):=by
 intro pins s σ H R I h
 refine aE (hl pins s σ H _ I h) λv s1 ⟨x,H1,I1,r1,q1⟩=>?_
 obtain ⟨a,e,⟨xs,hq⟩,q⟩:=q1
 subst e
 cases r1
 obtain ⟨its,rv,p,hz⟩:=I1.list hq
 refine wpAny_pyIter_list p.isList ?_
 refine ⟨s1.heap.objs.size,[s1.heap.objs.size],_,_,H1,rfl,I1.kept (t':=s1.toks) λb o e=>Heap.get?_push_of_some _ e,rZ a _,⟨_,Heap.get?_push_size _ rfl,rfl,rfl⟩,λb hb=>?_,q⟩
 have e:b=s1.heap.objs.size:=by simpa using hb
 subst e
 exact I1.nh (Nat.le_refl _) (I1.hok.fresh (Nat.le_refl _))
theorem uN {pins:List (Addr×Obj)}{σ:St}{H:Hp}{s:Shared}{R:It->Hp->Prop}{E:Value->Shared->Prop}{lo hi:Int}{t u v:Tok}{tk:Nat}(I:Inv X pins σ H s) (h1 : -(2 ^ 62)<=lo) (h2:lo<2 ^ 62) (h3 : -(2 ^ 62)<=hi) (h4:hi<2 ^ 62)
 (q:R (pG lo (hi-lo).toNat) H):wpAny (model X.prog X.w) X.A (pyIter (.ref s.heap.objs.size)) (Cf X pins σ tg R) E { s with heap:=s.heap.push { cls:=.type "range",data:=.fields #[.int lo t,.int hi u,.int 1 v] },toks:=tk }:=by
 refine wpAny_pyIter_range (IsRange.new ..) (small_one h1 h2 h3 h4) ?_
 have I1:Inv X pins σ H { s with heap:=s.heap.push { cls:=.type "range",data:=.fields #[.int lo t,.int hi u,.int 1 v] },toks:=tk }:=I.kept λb o e=>Heap.get?_push_of_some _ e
 refine ⟨(s.heap.push { cls:=.type "range",data:=.fields #[.int lo t,.int hi u,.int 1 v] }).objs.size,[(s.heap.push { cls:=.type "range",data:=.fields #[.int lo t,.int hi u,.int 1 v] }).objs.size],_,_,H,rfl,
  I1.kept (t':=tk) λb o e=>Heap.get?_push_of_some _ e,qG _ lo (hi-lo).toNat,?_,λb hb=>?_,q⟩
 . have e1:lo+((0:Nat):Int)*1=lo:=by simp
   have e2:(((hi-lo).toNat:Nat):Int)-((0:Nat):Int)=Builtin.Range.rangeSize lo hi 1:=by rw [rangeSize_one]; split <;> omega
   show IsRangeIter _ _ (lo+((0:Nat):Int)*1) ((((hi-lo).toNat:Nat):Int)-((0:Nat):Int)) 1
   rw [e1,e2]
   exact Heap.get?_push_size _ rfl
 . have e:b=(s.heap.push { cls:=.type "range",data:=.fields #[.int lo t,.int hi u,.int 1 v] }).objs.size:=by simpa using hb
   subst e
   exact I1.nh (Nat.le_refl _) (I1.hok.fresh (Nat.le_refl _))
def AG (ta:TA):TI:=λσ H R=>ta σ H λvs H1=>∃j:Int,vs=[.int j] /\ -(2 ^ 62)<=j/\j<2 ^ 62/\R (pG 0 j.toNat) H1
theorem cp {a:Expr}{ta:TA}{p pos:Pos}(hg:Gl X "range") (hm:X.mg "range" = none) (ha:PA X [a] ta) (hs:starEach [a] X.env=[(false,eval a X.env)]:=by rfl):PI X tg (.Call (.Name "range" p) [a] [] pos) (AG ta):=by
 intro pins s σ H R I h
 refine Call_ (eJ I hg hm boot_range (PyProof.Rows.callWith_type1 (aE (ha pos pins s σ H _ I h) λus s1 ⟨vs,H1,I1,r1,q1⟩=>?_) hs rfl))
 obtain ⟨j,e,q1,q2,q⟩:=q1
 subst e
 cases r1 with
 | cons r rr=>
  cases rr
  obtain ⟨t,rfl⟩:=r
  exact call_range_1 (uN I1 (by omega) (by omega) q1 q2 (by simpa using q))
def En (wi:TI) (g:TG) (tb:TS):TS:=λD σ H=>wi σ H λJ H1=>∃W:Nat->Nat->St->Hp->Prop,(∃m,W 0 m σ H1)/\∀i m σ H,W i m σ H->
 (J.stop i H/\D.nx σ H)\/(J.go i H/\∃N:St->Hp->Prop,(∀bW H',N bW H'->∃m',m'<m/\W (i+1) m' bW H')/\∀x H',J.yld i H x H'->g x σ H' λfw H2=>tb { D with nx:=N,ct:=N,bk:=D.nx } fw H2)
def iE (fp:List Addr) (h:Heap):List (Addr×Obj):=fp.filterMap λb=>(h.get? b).map λo=>(b,o)
theorem eZ {fp:List Addr}{h:Heap}{b:Addr}{o:Obj}(hb:b∈fp) (e:h.get? b=some o):(b,o)∈iE fp h:=List.mem_filterMap.mpr ⟨b,hb,by rw [e]; rfl⟩
theorem so {fp:List Addr}{h:Heap}{p:Addr×Obj}(hp:p∈iE fp h):p.1∈fp/\h.get? p.1=some p.2:=by
 obtain ⟨b,hb,e⟩:=List.mem_filterMap.mp hp
 cases q:h.get? b with
 | none=>rw [q] at e; cases e
 | some o=>
  rw [q] at e
  have e':(b,o)=p:=Option.some.inj e
  subst e'
  exact ⟨hb,q⟩
theorem Inv.pinned {pins:List (Addr×Obj)}{σ:St}{H:Hp}{s:Shared}{fp:List Addr}(I:Inv X pins σ H s) (hf:∀b∈fp,ee X pins H b) (ho:∀b∈fp,∃o,s.heap.get? b=some o/\∀v,o.data≠.cell v):Inv X (pins++iE fp s.heap) σ H s:=
 I.pC λp hp=>(List.mem_append.mp hp).elim (λz=>I.pin p (List.mem_append_right _ z)) λz=>by
  obtain ⟨hb,e⟩:=so z
  obtain ⟨f0,f1,f2,_⟩:=hf p.1 hb
  obtain ⟨o,e',d⟩:=ho p.1 hb
  rw [e] at e'; cases e'
  exact ⟨e,f0,f1,f2,d⟩
theorem Inv.gY {pins pl:List (Addr×Obj)}{σ:St}{H:Hp}{s:Shared}(I:Inv X (pins++pl) σ H s):Inv X pins σ H s:=I.pC λp hp=>I.pin p (List.mem_append_right _ (List.mem_append_left _ hp))
theorem fz {iter:Expr}{body:List Stmt}{wi:TI}{g:TG}{tb:TS}{pos:Pos}(hp:PassesOwn (model X.prog X.w) X.A X.env X.xe) (hc:X.calm=true) (hi:PI X tg iter wi) (hg:PG X tg g) (hb:fu X body tb)
 (hs:∀x,foldedSetIterable iter X.env x=pure x:=by intro _; rfl):PS X (.For tg iter body [] pos) (En wi g tb):=by
 intro pins s σ H D I h
 refine wpAny_For (aE (hi pins s σ H _ I h) λv s1 h1=>aE h1 λxY s2 h2=>?_) hs
 obtain ⟨it,fp,tn,J,H2,e,I2,T,vN,f2,W,⟨m0,w0⟩,turn⟩:=h2
 subst e
 have uO:∀{H':Hp},(∀b∈fp,H' b=none)->∀b∈fp,ee X pins H' b:=λhn b hb=>⟨hn b hb,(f2 b hb).2⟩
 refine codeAny_forLoop_any (λn s'=>∃i bW H',Inv X pins bW H' s'/\tn i s'.heap/\(∀b∈fp,H' b=none)/\W i n bW H') ?_ m0 ⟨0,σ,H2,I2,vN,λb hb=>(f2 b hb).1,w0⟩
 rintro n s3 ⟨i,xZ,H3,I3,Cg,Ci,w3⟩
 rcases turn i n xZ H3 w3 with ⟨stop,qn⟩ | ⟨go,N,hN,step⟩
 . refine wpAny_passesOwn hp (aE (T.done X rfl rfl rfl hc i pins s3 xZ H3 X.xe I3 (uO Ci) Cg stop) λr s4 ⟨hr,I4⟩=>?_)
   subst hr
   exact wpAny_execs_nil ⟨xZ,H3,I4,qn⟩
 . refine wpAny_passesOwn hp (aE (T.item X rfl rfl rfl hc i pins s3 xZ H3 X.xe I3 (uO Ci) Cg go) λr s4 ⟨u,hr,h4⟩=>?_)
   subst hr
   refine wpAny_passesOwn hp (aE h4 λ_ s5 ⟨x,H5,I5,r5,y5,pH,vO⟩=>?_)
   have GY:=I5.pinned (uO vO) (T.obj _ _ pH)
   refine wpAny_passesOwn hp (aE (hg _ s5 xZ H5 x u _ GY r5 (step x H5 y5)) λ_ s6 ⟨Lk,H6,I6,q6⟩=>?_)
   refine wpAny_passesOwn hp (aE (hb _ s6 Lk H6 _ I6 q6) λf s7 q7=>?_)
   have again:∀{ni:St}{H7:Hp},Inv X (pins++iE fp s5.heap) ni H7 s7->N ni H7->∃m,m<n/\∃i bW H',Inv X pins bW H' s7/\tn i s7.heap/\(∀b∈fp,H' b=none)/\W i m bW H':=λ{ni H7} I7 n7=>by
    obtain ⟨m',hm,w7⟩:=hN ni H7 n7
    refine ⟨m',hm,i+1,ni,H7,I7.gY,T.keep _ _ _ pH λb hb o e=>(I7.pin (b,o) (List.mem_append_right _ (List.mem_append_right _ (eZ hb e)))).1,λb hb=>?_,w7⟩
    obtain ⟨o,e,d⟩:=T.obj _ _ pH b hb
    exact (I7.pin (b,o) (List.mem_append_right _ (List.mem_append_right _ (eZ hb e)))).2.1
   cases f with
   | next=>obtain ⟨ni,H7,I7,n7⟩:=q7; exact again I7 n7
   | cont=>obtain ⟨ni,H7,I7,n7⟩:=q7; exact again I7 n7
   | brk=>obtain ⟨ni,H7,I7,q7⟩:=q7; exact ⟨ni,H7,I7.gY,q7⟩
   | ret v=>obtain ⟨x7,ni,H7,I7,r7,q7⟩:=q7; exact ⟨x7,ni,H7,I7.gY,r7,q7⟩
end
theorem uP {K:W.Frag}{a:Addr}{xs:List V}{g:TG}{tb:TS}{D:Ends}{σ:St}{H:Hp}(Pv:Nat->St->Hp->Prop) (h0:Pv 0 σ H) (hl:∀i σ H,i<=xs.length->Pv i σ H->ay K H a xs)
 (hs:∀i x σ H,xs[i]?=some x->Pv i σ H->g x σ H λfw H2=>tb { D with nx:=Pv (i+1),ct:=Pv (i+1),bk:=D.nx } fw H2) (hd:∀σ H,Pv xs.length σ H->D.nx σ H) :
 ∃W:Nat->Nat->St->Hp->Prop,(∃m,W 0 m σ H)/\∀i m σ H,W i m σ H->
  ((pF K a).stop i H/\D.nx σ H)\/((pF K a).go i H/\∃N:St->Hp->Prop,(∀bW H',N bW H'->∃m',m'<m/\W (i+1) m' bW H')/\∀x H',(pF K a).yld i H x H'->g x σ H' λfw H2=>tb { D with nx:=N,ct:=N,bk:=D.nx } fw H2):=by
 refine ⟨λi m σ H=>m=xs.length-i/\i<=xs.length/\Pv i σ H,⟨xs.length,by simp,Nat.zero_le _,h0⟩,?_⟩
 rintro i m σ H ⟨rfl,hi,p⟩
 have q:=hl i σ H hi p
 by_cases fF:i<xs.length
 . refine .inr ⟨⟨xs,xs[i],q,by simp [fF]⟩,Pv (i+1),λbW H' p'=>⟨xs.length-(i+1),by omega,rfl,fF,p'⟩,λx H' y=>?_⟩
   obtain ⟨e,y⟩:=y
   subst e
   exact hs i x σ _ (y xs q) p
 . have e:i=xs.length:=by omega
   subst e
   exact .inl ⟨⟨xs,q,Nat.le_refl _⟩,hd σ H p⟩
theorem du {lo:Int}{n:Nat}{g:TG}{tb:TS}{D:Ends}{σ:St}{H:Hp}(Pv:Nat->St->Hp->Prop) (h0:Pv 0 σ H)
 (hs:∀i σ H,i<n->Pv i σ H->g (.int (lo+i)) σ H λfw H2=>tb { D with nx:=Pv (i+1),ct:=Pv (i+1),bk:=D.nx } fw H2) (hd:∀σ H,Pv n σ H->D.nx σ H) :
 ∃W:Nat->Nat->St->Hp->Prop,(∃m,W 0 m σ H)/\∀i m σ H,W i m σ H->
  ((pG lo n).stop i H/\D.nx σ H)\/((pG lo n).go i H/\∃N:St->Hp->Prop,(∀bW H',N bW H'->∃m',m'<m/\W (i+1) m' bW H')/\∀x H',(pG lo n).yld i H x H'->g x σ H' λfw H2=>tb { D with nx:=N,ct:=N,bk:=D.nx } fw H2):=by
 refine ⟨λi m σ H=>m=n-i/\i<=n/\Pv i σ H,⟨n,by simp,Nat.zero_le _,h0⟩,?_⟩
 rintro i m σ H ⟨rfl,hi,p⟩
 by_cases fF:i<n
 . refine .inr ⟨fF,Pv (i+1),λbW H' p'=>⟨n-(i+1),by omega,rfl,fF,p'⟩,λx H' y=>?_⟩
   obtain ⟨e,y⟩:=y
   subst e y
   exact hs i σ _ fF p
 . have e:i=n:=by omega
   subst e
   exact .inl ⟨Nat.le_refl _,hd σ H p⟩
end L2
namespace L2
open PySem PySem.Spec PyProof.Rows
abbrev R2:=V->V->Hp->VK->Prop
def cI (X:Cx) (f:Value->Value->Sem Value) (r:R2):Prop:=
 ∀(pins:List (Addr×Obj)) (s:Shared) (σ:St) (H:Hp) (x y:V) (v u:Value) (Q:VK),Inv X pins σ H s->RelV x v->RelV y u->r x y H Q->
  wpAny (model X.prog X.w) X.A (f v u) (EP X pins σ Q) X.xe s
def ff (X:Cx) (f:Value) (r:List V->Hp->VK->Prop):Prop:=
 ∀(pins:List (Addr×Obj)) (s:Shared) (σ:St) (H:Hp) (xs:List V) (us:List Value) (Q:VK),Inv X pins σ H s->Vals xs us->r xs H Q->
  wpAny (model X.prog X.w) X.A (call f us) (EP X pins σ Q) X.xe s
def sq (r:R2) (ta tb:TE):TE:=λσ H Q=>ta σ H λx H1=>tb σ H1 λy H2=>r x y H2 Q
def rI (C:Int->Int->Prop) (g:Int->Int->V):R2:=λx y H Q=>∃i j,x=.int i/\y=.int j/\C i j/\Q (g i j) H
def jY (g:Int->Int->V):R2:=λx y H Q=>∃i j,x=.int i/\y=.int j/\Q (g i j) H
section
variable {X:Cx}{a b c:Expr}{ta tb tc:TE}{pos:Pos}
theorem uQ (ha:PE X a ta) (hb:PE X b tb){pins:List (Addr×Obj)}{s:Shared}{σ:St}{H:Hp}{R:V->V->Hp->Prop}(I:Inv X pins σ H s)
 (h:ta σ H λx H1=>tb σ H1 λy H2=>R x y H2){Q:Value->Shared->Prop}{f:Value->Value->Sem Value}
 (hf:∀v u s2 x y H2,Inv X pins σ H2 s2->RelV x v->RelV y u->R x y H2->wpAny (model X.prog X.w) X.A (f v u) Q X.xe s2) :
 wpAny (model X.prog X.w) X.A (eval a X.env) (λv bw=>wpAny (model X.prog X.w) X.A (eval b X.env) (λu lu=>wpAny (model X.prog X.w) X.A (f v u) Q X.xe lu) X.xe bw) X.xe s:=by
 refine aE (ha pins s σ H _ I h) λv s1 ⟨x,H1,I1,r1,q1⟩=>?_
 refine aE (hb pins s1 σ H1 _ I1 q1) λu s2 ⟨y,H2,I2,r2,q2⟩=>?_
 exact hf v u s2 x y H2 I2 r1 r2 q2
theorem aG {op:Operator}{r:R2}(ho:cI X (binaryOp op) r) (ha:PE X a ta) (hb:PE X b tb):PE X (.BinOp a op b pos) (sq r ta tb):=by
 intro pins s σ H Q I h
 exact wpAny_BinOp (uQ ha hb I h λv u s2 x y H2 I2 rx ry q=>ho pins s2 σ H2 x y v u Q I2 rx ry q)
theorem sr {f:Value->Value->Sem Value}{C:Int->Int->Prop}{g:Int->Int->Int}
 (rule:∀(i j:Int) (t u:Tok) (s:Shared) (Q:Value->Shared->Prop) (E:Value->Shared->Prop),C i j->Q (.int (g i j) s.toks) { s with toks:=s.toks+1 } -> wpAny (model X.prog X.w) X.A (f (.int i t) (.int j u)) Q E s) :
 cI X f (rI C λi j=>.int (g i j)):=by
 intro pins s σ H x y v u Q I rx ry h
 obtain ⟨i,j,rfl,rfl,hc,q⟩:=h
 obtain ⟨t,rfl⟩:=rx
 obtain ⟨t',rfl⟩:=ry
 exact rule i j t t' s _ _ hc ⟨.int (g i j),H,I.tok _,⟨_,rfl⟩,q⟩
theorem qH {f:Value->Value->Sem Value}{g:Int->Int->Int}
 (rule:∀(i j:Int) (t u:Tok) (s:Shared) (Q:Value->Shared->Prop) (E:Value->Shared->Prop),Q (.int (g i j) s.toks) { s with toks:=s.toks+1 } -> wpAny (model X.prog X.w) X.A (f (.int i t) (.int j u)) Q E s) :
 cI X f (jY λi j=>.int (g i j)):=by
 intro pins s σ H x y v u Q I rx ry h
 obtain ⟨i,j,rfl,rfl,q⟩:=h
 obtain ⟨t,rfl⟩:=rx
 obtain ⟨t',rfl⟩:=ry
 exact rule i j t t' s _ _ ⟨.int (g i j),H,I.tok _,⟨_,rfl⟩,q⟩
theorem x6 {f:Value->Value->Sem Value}{g:Int->Int->Bool}
 (rule:∀(i j:Int) (t u:Tok) (s:Shared) (Q:Value->Shared->Prop) (E:Value->Shared->Prop),Q (.bool (g i j)) s->wpAny (model X.prog X.w) X.A (f (.int i t) (.int j u)) Q E s) :
 cI X f (jY λi j=>.bl (g i j)):=by
 intro pins s σ H x y v u Q I rx ry h
 obtain ⟨i,j,rfl,rfl,q⟩:=h
 obtain ⟨t,rfl⟩:=rx
 obtain ⟨t',rfl⟩:=ry
 exact rule i j t t' s _ _ ⟨.bl (g i j),H,I,rfl,q⟩
def Eo (i j:Int):Prop:=0<j/\j<1073741824
def Ep (i j:Int):Prop:=0<=j/\j<=1000000/\i.natAbs<2 ^ 64
def uR (i j:Int):Prop:=(-(2 ^ 64)<i/\i<2 ^ 64)\/(-(2 ^ 64)<j/\j<2 ^ 64)
theorem uR.ok {i j:Int}(h:uR i j):IntMulOk i j:=by
 rcases h with ⟨h1,h2⟩ | ⟨h1,h2⟩
 . exact .of_left (intBits_le_64 h1 h2)
 . exact .of_right (intBits_le_64 h1 h2)
theorem qI (k:Nat):(0:Int)<=2 ^ k:=by
 rw [two_pow_cast]
 exact Int.natCast_nonneg _
theorem dg:cI X (binaryOp .Add) (jY λi j=>.int (i+j)):=qH λ_ _ _ _ _ _ _ q=>add_int q
theorem su:cI X (binaryOp .Sub) (jY λi j=>.int (i-j)):=qH λ_ _ _ _ _ _ _ q=>sub_int q
theorem dQ:cI X (binaryOp .Mult) (rI uR λi j=>.int (i*j)):=sr λ_ _ _ _ _ _ _ hc q=>mul_int q hc.ok
theorem gw:cI X (binaryOp .FloorDiv) (rI Eo λi j=>.int (i / j)):=sr λi j _ _ _ _ _ hc q=>by
 have h1:(0:Int)<j:=hc.1
 have h2:j<1073741824:=hc.2
 exact floordiv_int (by omega) (by rw [Int.fdiv_eq_ediv_of_nonneg i (by omega)]; exact q) (.inl (PyProof.noPylong_small (by omega)))
theorem fG:cI X (binaryOp .Mod) (rI (λ_ j=>0<j) λi j=>.int (i % j)):=sr λi j _ _ _ _ _ hc q=>by
 have h1:(0:Int)<j:=hc
 exact mod_int' (by omega) (by rw [Int.fmod_eq_emod_of_nonneg i (by omega)]; exact q)
theorem sv:cI X (binaryOp .LShift) (rI Ep λi j=>.int (i*2 ^ j.toNat)):=sr λ_ _ _ _ _ _ _ hc q=>lshift_int_small hc.1 hc.2.1 hc.2.2 q
theorem sx:cI X (binaryOp .RShift) (rI (λ_ j=>0<=j) λi j=>.int (i / 2 ^ j.toNat)):=sr λi j _ _ _ _ _ hc q=>
 rshift_int hc (by rw [Int.fdiv_eq_ediv_of_nonneg i (qI _)]; exact q)
theorem nj:cI X (binaryOp .BitAnd) (jY λi j=>.int (Builtin.bitAnd i j)):=qH λ_ _ _ _ _ _ _ q=>and_int q
theorem AH:cI X (binaryOp .BitOr) (jY λi j=>.int (Builtin.bitOr i j)):=qH λ_ _ _ _ _ _ _ q=>or_int q
end
def x8:V->V->Bool
 | .aR,.aR=>true | .aR,.int _=>true | .int _,.aR=>true | .aR,.bl _=>true | .bl _,.aR=>true | .aR,.str _=>true | .str _,.aR=>true
 | .int _,.int _=>true | .bl _,.bl _=>true | .str _,.str _=>true | .gv _,.gv _=>true
 | .int _,.str _=>true | .str _,.int _=>true | .bl _,.str _=>true | .str _,.bl _=>true
 | _,_=>false
def GZ:R2:=λx y H Q=>x8 x y=true/\Q (.bl (decide (x=y))) H
def G0:R2:=λx y H Q=>x8 x y=true/\Q (.bl (!decide (x=y))) H
theorem pI {i j:Int} : decide (V.int i=V.int j)=(i == j):=by
 rw [Bool.eq_iff_iff]
 simp
theorem sy {i j:Bool} : decide (V.bl i=V.bl j)=(i == j):=by
 rw [Bool.eq_iff_iff]
 simp
theorem pJ {i j:Str} : decide (V.str i=V.str j)=(i == j):=by
 rw [Bool.eq_iff_iff]
 simp
theorem pK {i j:Array UInt8} : decide (V.gv i=V.gv j)=(i.toList == j.toList):=by
 rw [Bool.eq_iff_iff]
 cases i
 cases j
 simp
section
variable {X:Cx}{a b c:Expr}{ta tb tc:TE}{pos:Pos}
theorem aS {pins:List (Addr×Obj)}{σ:St}{H:Hp}{s:Shared}{Q:VK}{k k':Bool}(I:Inv X pins σ H s) (q:Q (.bl k) H) (e:k=k'):EP X pins σ Q (.bool k') s:=by
 subst e
 exact ⟨.bl k,H,I,rfl,q⟩
theorem dj:cI X (compareOp .Eq) GZ:=by
 intro pins s σ H x y v u Q I rx ry h
 obtain ⟨hs,q⟩:=h
 cases x with
 | aR=>
  cases rx
  cases y with
  | aR=>cases ry; exact PySem.EqNone.eq_none_none (aS I q (by simp))
  | bl j=>cases ry; exact PySem.EqNone.eq_none_bool (aS I q (by simp))
  | int j=>obtain ⟨t',rfl⟩:=ry; exact PySem.EqNone.eq_none_int (aS I q (by simp))
  | str j=>obtain ⟨t',rfl⟩:=ry; exact PySem.EqNone.eq_none_str (aS I q (by simp))
  | _=>exact absurd (show false=true from hs) Bool.false_ne_true
 | bl i=>
  cases rx
  cases y with
  | aR=>cases ry; exact PySem.EqNone.eq_bool_none (aS I q (by simp))
  | bl j=>cases ry; exact eq_bool (aS I q sy)
  | str j=>obtain ⟨t',rfl⟩:=ry; exact PySem.EqMixed.eq_bool_str (aS I q (by simp))
  | _=>exact absurd (show false=true from hs) Bool.false_ne_true
 | int i=>
  obtain ⟨t,rfl⟩:=rx
  cases y with
  | aR=>cases ry; exact PySem.EqNone.eq_int_none (aS I q (by simp))
  | int j=>obtain ⟨t',rfl⟩:=ry; exact eq_int (aS I q pI)
  | str j=>obtain ⟨t',rfl⟩:=ry; exact PySem.EqMixed.eq_int_str (aS I q (by simp))
  | _=>exact absurd (show false=true from hs) Bool.false_ne_true
 | str i=>
  obtain ⟨t,rfl⟩:=rx
  cases y with
  | aR=>cases ry; exact PySem.EqNone.eq_str_none (aS I q (by simp))
  | bl j=>cases ry; exact PySem.EqMixed.eq_str_bool (aS I q (by simp))
  | int j=>obtain ⟨t',rfl⟩:=ry; exact PySem.EqMixed.eq_str_int (aS I q (by simp))
  | str j=>obtain ⟨t',rfl⟩:=ry; exact eq_str (aS I q pJ)
  | _=>exact absurd (show false=true from hs) Bool.false_ne_true
 | gv i=>
  obtain ⟨t,rfl⟩:=rx
  cases y with
  | gv j=>obtain ⟨t',rfl⟩:=ry; exact W.eq_bytes (aS I q pK)
  | _=>exact absurd (show false=true from hs) Bool.false_ne_true
 | _=>cases y <;> exact absurd (show false=true from hs) Bool.false_ne_true
theorem vP:cI X (compareOp .NotEq) G0:=by
 intro pins s σ H x y v u Q I rx ry h
 obtain ⟨hs,q⟩:=h
 cases x with
 | aR=>
  cases rx
  cases y with
  | aR=>cases ry; exact PySem.EqNone.ne_none_none (aS I q (by simp))
  | bl j=>cases ry; exact PySem.EqNone.ne_none_bool (aS I q (by simp))
  | int j=>obtain ⟨t',rfl⟩:=ry; exact PySem.EqNone.ne_none_int (aS I q (by simp))
  | str j=>obtain ⟨t',rfl⟩:=ry; exact PySem.EqNone.ne_none_str (aS I q (by simp))
  | _=>exact absurd (show false=true from hs) Bool.false_ne_true
 | bl i=>
  cases rx
  cases y with
  | aR=>cases ry; exact PySem.EqNone.ne_bool_none (aS I q (by simp))
  | bl j=>cases ry; exact ne_bool (aS I q (congrArg not sy))
  | str j=>obtain ⟨t',rfl⟩:=ry; exact PySem.EqMixed.ne_bool_str (aS I q (by simp))
  | _=>exact absurd (show false=true from hs) Bool.false_ne_true
 | int i=>
  obtain ⟨t,rfl⟩:=rx
  cases y with
  | aR=>cases ry; exact PySem.EqNone.ne_int_none (aS I q (by simp))
  | int j=>obtain ⟨t',rfl⟩:=ry; exact ne_int (aS I q (congrArg not pI))
  | str j=>obtain ⟨t',rfl⟩:=ry; exact PySem.EqMixed.ne_int_str (aS I q (by simp))
  | _=>exact absurd (show false=true from hs) Bool.false_ne_true
 | str i=>
  obtain ⟨t,rfl⟩:=rx
  cases y with
  | aR=>cases ry; exact PySem.EqNone.ne_str_none (aS I q (by simp))
  | bl j=>cases ry; exact PySem.EqMixed.ne_str_bool (aS I q (by simp))
  | int j=>obtain ⟨t',rfl⟩:=ry; exact PySem.EqMixed.ne_str_int (aS I q (by simp))
  | str j=>obtain ⟨t',rfl⟩:=ry; exact ne_str (aS I q (congrArg not pJ))
  | _=>exact absurd (show false=true from hs) Bool.false_ne_true
 | gv i=>
  obtain ⟨t,rfl⟩:=rx
  cases y with
  | gv j=>obtain ⟨t',rfl⟩:=ry; exact W.ne_bytes (aS I q (congrArg not pK))
  | _=>exact absurd (show false=true from hs) Bool.false_ne_true
 | _=>cases y <;> exact absurd (show false=true from hs) Bool.false_ne_true
theorem qJ:cI X (compareOp .Lt) (jY λi j=>.bl (decide (i<j))):=x6 λ_ _ _ _ _ _ _ q=>lt_int q
theorem AI:cI X (compareOp .Gt) (jY λi j=>.bl (decide (j<i))):=x6 λ_ _ _ _ _ _ _ q=>gt_int q
theorem bp (b:Expr){op:CmpOp}(h:op≠.In:=by decide) (h2:op≠.NotIn:=by decide):behindInMarks op b=false:=by
 have e1:(op == CmpOp.In)=false:=by cases op <;> first | rfl | exact absurd rfl h
 have e2:(op == CmpOp.NotIn)=false:=by cases op <;> first | rfl | exact absurd rfl h2
 cases b <;> simp [behindInMarks,e1,e2]
theorem i5 {op:CmpOp}{r:R2}(ho:cI X (compareOp op) r) (ha:PE X a ta) (hb:PE X b tb) (hm:behindInMarks op b=false):PE X (.Compare a [op] [b] pos) (sq r ta tb):=by
 intro pins s σ H Q I h
 exact wpAny_Compare1 (uQ ha hb I h λv u s2 x y H2 I2 rx ry q=>ho pins s2 σ H2 x y v u Q I2 rx ry q) hm
def AJ (t:TE):TT:=λσ H Q=>t σ H λx H'=>∃k,x=.bl k/\Q k H'
theorem bq {op:CmpOp}{r:R2}(ho:cI X (compareOp op) r) (ha:PE X a ta) (hb:PE X b tb) (hm:behindInMarks op b=false):PT X (.Compare a [op] [b] pos) (AJ (sq r ta tb)):=by
 intro pins s σ H Q I h
 refine wpAny_isTrue_Compare1 (aE (ha pins s σ H _ I h) λv s1 ⟨x,H1,I1,r1,q1⟩=>aE (hb pins s1 σ H1 _ I1 q1) λu s2 ⟨y,H2,I2,r2,q2⟩=>
  aE (ho pins s2 σ H2 x y v u _ I2 r1 r2 q2) λc s3 ⟨z,H3,I3,r3,k,e,q3⟩=>?_) hm
 subst e
 cases r3
 exact wpAny_truthy_bool ⟨H3,I3,q3⟩
theorem iF:(sizeLine:Nat)<2 ^ 63:=by rw [sizeLine_eq]; decide
theorem cE:cI X (binaryOp .Add) (λx y H Q=>∃i j,x=.str i/\y=.str j/\i.length+j.length<=sizeLine/\Q (.str (i++j)) H):=by
 intro pins s σ H x y v u Q I rx ry h
 obtain ⟨i,j,rfl,rfl,hz,q⟩:=h
 obtain ⟨t,rfl⟩:=rx
 obtain ⟨t',rfl⟩:=ry
 exact add_str (λt' tk=>⟨.str (i++j),H,I.tok _,⟨_,rfl⟩,q⟩) hz
theorem vals1 {x:V}{us:List Value}(r:Vals [x] us):∃u,us=[u]/\RelV x u:=by
 cases r with
 | cons r1 r2=>cases r2; exact ⟨_,rfl,r1⟩
theorem vals2 {x y:V}{us:List Value}(r:Vals [x,y] us):∃u w',us=[u,w']/\RelV x u/\RelV y w':=by
 cases r with
 | cons r1 r2=>
  cases r2 with
  | cons r3 r4=>cases r4; exact ⟨_,_,rfl,r1,r3⟩
theorem sA (hc:X.calm=true):ff X (.builtin "min") (λxs H Q=>∃i j,xs=[.int i,.int j]/\Q (.int (if j<i then j else i)) H):=by
 intro pins s σ H xs us Q I r h
 obtain ⟨i,j,rfl,q⟩:=h
 obtain ⟨u,w',rfl,⟨t,rfl⟩,⟨t',rfl⟩⟩:=vals2 r
 refine min_two_ints (I.ok.hd hc) λh' tk k=>⟨_,H,I.kept k,?_,q⟩
 by_cases hj:j<i
 . rw [if_pos hj,if_pos hj]; exact ⟨_,rfl⟩
 . rw [if_neg hj,if_neg hj]; exact ⟨_,rfl⟩
theorem sC:ff X (.type "int") (λxs H Q=>(∃i,xs=[.int i]/\Q (.int i) H)\/∃k,xs=[.bl k]/\Q (.int (if k then 1 else 0)) H):=by
 intro pins s σ H xs us Q I r h
 rcases h with ⟨i,rfl,q⟩ | ⟨k,rfl,q⟩
 . obtain ⟨u,rfl,t,rfl⟩:=vals1 r
   exact call_int_int ⟨.int i,H,I,⟨_,rfl⟩,q⟩
 . obtain ⟨u,rfl,r1⟩:=vals1 r
   cases r1
   exact call_int_bool ⟨.int (if k then 1 else 0),H,I.tok _,⟨_,rfl⟩,q⟩
end
end L2
namespace L2
open PySem PySem.Spec PyProof.Rows
structure jy (h:Heap) (x dx C:Addr) (mA:Str->Option Value):Prop where
 obj:h.get? x=some (W.instObj C dx)
 ns:h.Ns1 dx mA
 ne:dx≠x
theorem sD {h:Heap}{dx:Addr}{mA:Str->Option Value}(n:h.Ns1 dx mA):∃od,h.get? dx=some od/\∀name,W.lookIn name od=some (mA name):=by
 obtain ⟨o,es,ep,ho,hd,hk,_,hm⟩:=n
 refine ⟨o,ho,λname=>?_⟩
 have e:=hm name
 unfold nsFind findBy at e
 rw [← Array.find?_toList] at e
 unfold W.lookIn
 rw [hd]
 dsimp only
 split
 . rename_i y q
   rw [q] at e
   exact congrArg some e
 . rename_i q
   rw [q] at e
   have a:es.toList.any (·.refKey)=false:=by
    rw [List.any_eq_false]
    intro y hy
    obtain ⟨z,t,cU⟩:=hk y (Array.mem_toList_iff.mp hy)
    simp [DictEntry.refKey,cU]
   have a':¬ es.toList.any (·.refKey)=true:=by rw [a]; exact Bool.false_ne_true
   rw [if_neg a']
   exact congrArg some e
theorem jy.look {h:Heap}{x dx C:Addr}{mA:Str->Option Value}(I:jy h x dx C mA):∃od,W.InstAt h x (W.instObj C dx) C (some od)/\∀name,W.lookIn name od=some (mA name):=
 let ⟨od,ho,hl⟩:=sD I.ns
 ⟨od,⟨I.obj,rfl,rfl,ho⟩,hl⟩
section
variable {prog:Program}{w:World}{A:Around}{E:Value->Shared->Prop}{s:Shared}{K:W.Frag}{x dx C f:Addr}{mA:Str->Option Value}{name:Str}{v:Value}
theorem get_map {expr:Bool}{Q:Value->Shared->Prop}(X:K.In s.heap) (I:jy s.heap x dx C mA) (hg:W.plainGet K C name=true) (hh:W.hasDictIn K C=true)
 (ha:W.findIn K (.ref C) name=some none) (hv:mA name=some v) (G1:W.handedIn v=true) (h:Q v { s with toks:=s.toks+1 }) :
 wpAny (model prog w) A (getAttr (.ref x) name expr) Q E s:=by
 obtain ⟨od,J,hl⟩:=I.look
 exact W.get_value X J (W.plainGet_of hg).1 (W.findObj_own hh ha rfl (by rw [hl,hv])) G1 h
theorem uS {pl:Sem Bool}{Q:Value×List Value->Shared->Prop}(X:K.In s.heap) (I:jy s.heap x dx C mA) (hg:W.plainGet K C name=true)
 (hf:W.findIn K (.ref C) name=some (some (.ref f))) (ht:W.isFn K (.ref f)=true) (hv:mA name=none) (h:Q (.ref f,[.ref x]) s) :
 wpAny (model prog w) A (getMethod (.ref x) name pl) Q E s:=by
 obtain ⟨od,J,hl⟩:=I.look
 exact W.method_fn X J (W.plainGet_of hg).1 (W.plainGet_of hg).2 hf (beq_iff_eq.mp ht) (by show (W.lookIn name od).map (·.isSome)=some false; rw [hl,hv]; rfl) h
theorem w4 {ns:List Str}{Q:Unit->Shared->Prop}(X:K.In s.heap) (I:jy s.heap x dx C mA)
 (hs:W.findIn K (.ref C) "__setattr__" = some (some (.builtin "object.__setattr__"))) (hp:W.plainOver K C=true) (ht:W.takerIn K C name=some none) (hh:W.hasDictIn K C=true)
 (hw:PySem.Within mA ns) (hsz:ns.length<=sizeLine)
 (h:∀h',jy h' x dx C (λy=>if y=name then some v else mA y)->Heap.SameBut dx s.heap h'->Q () { s with heap:=h',toks:=s.toks+2 }) :
 wpAny (model prog w) A (setAttr (.ref x) name v) Q E s:=by
 obtain ⟨od,J,hl⟩:=I.look
 refine W.set_plain X J hs (W.osa_open (s:={ s with toks:=s.toks+1 }) (r:=none) X J hp ht λb=>?_)
 obtain ⟨cd,hc,hd'⟩:=W.any_some hh
 have hx:s.heap.get? x=some ⟨.ref C,some dx,.plain,#[]⟩:=I.obj
 refine wpAny_bind (wpAny_pure (wpAny_bind (wpAny_bind (wpAny_loadPart hx (wpAny_bind (W.Looks.here (s:={ s with toks:=s.toks+1 }) (W.looks_clsIn X hc) ?_))))))
 rw [hd']
 refine wpAny_pure (a:=some dx) (wpAny_bind (wpAny_pure (wpAny_bind ?_)))
 refine wpAny_nsSet1 (s:={ s with toks:=s.toks+1 }) I.ns λh' pL iG=>?_
 obtain ⟨oD,Lx,Ly,G2,G3,G4⟩:=pL.count (PySem.Within.cons name v hw)
 refine wpAny_bind (wpAny_lookBehind G2 (by rw [G3]; exact pastItsLine_dict (Nat.le_trans G4 (by rw [List.length_cons]; omega))) ?_)
 exact wpAny_pure (h _ ⟨(iG.2 _ (Ne.symm I.ne)).trans I.obj,pL,I.ne⟩ iG)
theorem uT {R:Result->Shared->Prop}{vs:List Value}{kw:List (Str×Value)}(X:K.In s.heap) (hm:W.makesIn K C=true)
 (hi:W.findIn K (.ref C) "__init__" = some (some (.ref f))) (hf:W.typeIn K (.ref f)=some (.type "function"))
 (h:codeAny (model prog w) (A.under (.builtin "type.__call__" ⟨.ref C::vs,kw⟩)) (.call (.ref f) ⟨.ref (s.heap.objs.size+1)::vs,kw⟩) (W.InitBack (s.heap.objs.size+1) R)
  { s with heap:=(s.heap.push W.emptyDict).push (W.instObj C s.heap.objs.size) }) :
 codeAny (model prog w) A (.call (.ref C) ⟨vs,kw⟩) R s:=by
 obtain ⟨hh,g,d,t,os⟩:=s
 exact W.make_core (W.makes_of X hm) (W.looks_findIn X hi) (λself=>W.bind_fn X self hf) (.inl rfl) h
end
def au (f:Str) (v:V):List (Str×V)->List (Str×V)
 | []=>[(f,v)]
 | (g,x)::r=>if g=f then (g,v)::r else (g,x)::au f v r
theorem ao (f g:Str) (v:V):∀fs:List (Str×V),(au f v fs).lookup g=if g=f then some v else fs.lookup g
 | []=>by
  show List.lookup g [(f,v)]=_
  by_cases h:g=f
  . have hb:(g == f)=true:=beq_iff_eq.mpr h
    simp only [List.lookup,hb,if_pos h]
  . have hb:(g == f)=false:=beq_eq_false_iff_ne.mpr h
    simp only [List.lookup,hb,if_neg h]
 | (k,x)::r=>by
  have ih:=ao f g v r
  rw [show au f v ((k,x)::r)=(if k=f then (k,v)::r else (k,x)::au f v r) from rfl]
  by_cases hk:k=f
  . rw [if_pos hk]
    by_cases h:g=k
    . have hb:(g == k)=true:=beq_iff_eq.mpr h
      simp only [List.lookup,hb,if_pos (h.trans hk)]
    . have hb:(g == k)=false:=beq_eq_false_iff_ne.mpr h
      simp only [List.lookup,hb,if_neg (λe:g=f=>h (e.trans hk.symm))]
  . rw [if_neg hk]
    by_cases h:g=k
    . have hb:(g == k)=true:=beq_iff_eq.mpr h
      simp only [List.lookup,hb,if_neg (λe:g=f=>hk (h.symm.trans e))]
    . have hb:(g == k)=false:=beq_eq_false_iff_ne.mpr h
      simp only [List.lookup,hb]
      exact ih
theorem iH (f:Str) (v:V):∀fs:List (Str×V),f∈(au f v fs).map (·.1)/\∀g,g∈fs.map (·.1)->g∈(au f v fs).map (·.1)
 | []=>⟨by simp [au],λg h=>by simp at h⟩
 | (k,x)::r=>by
  obtain ⟨i1,i2⟩:=iH f v r
  rw [show au f v ((k,x)::r)=(if k=f then (k,v)::r else (k,x)::au f v r) from rfl]
  by_cases hk:k=f
  . rw [if_pos hk]
    subst hk
    exact ⟨by simp,λg h=>by simpa using h⟩
  . rw [if_neg hk]
    refine ⟨?_,λg h=>?_⟩
    . rw [List.map_cons]
      exact List.mem_cons_of_mem _ i1
    . rw [List.map_cons] at h ⊢
      rcases List.mem_cons.mp h with e | e
      . exact List.mem_cons.mpr (.inl e)
      . exact List.mem_cons_of_mem _ (i2 g e)
theorem gp (f:Str) (v:V):∀fs:List (Str×V),(au f v fs).length<=fs.length+1
 | []=>by simp [au]
 | (k,x)::r=>by
  have ih:=gp f v r
  rw [show au f v ((k,x)::r)=(if k=f then (k,v)::r else (k,x)::au f v r) from rfl]
  by_cases hk:k=f
  . rw [if_pos hk,List.length_cons,List.length_cons]; omega
  . rw [if_neg hk,List.length_cons,List.length_cons]; omega
theorem cB.some_of {v:V}{o:Option Value}(r:cB (some v) o):∃u,o=some u/\RelV v u:=by
 cases o with
 | none=>exact (show False from r).elim
 | some u=>exact ⟨u,rfl,r⟩
theorem cB.none_of {o:Option Value}(r:cB none o):o=none:=by
 cases o with
 | none=>rfl
 | some u=>exact (show False from r).elim
theorem sE {v:V}{u:Value}(r:RelV v u):W.handedIn u=true:=by
 cases v with
 | aR=>cases (show u=Value.none from r); rfl
 | bl b=>cases (show u=Value.bool b from r); rfl
 | int i=>obtain ⟨t,e⟩:=(show ∃t,u=Value.int i t from r); cases e; rfl
 | str x=>obtain ⟨t,e⟩:=(show ∃t,u=Value.str x t from r); cases e; rfl
 | gv b=>obtain ⟨t,e⟩:=(show ∃t,u=Value.bytes b t from r); cases e; rfl
 | lO b=>obtain ⟨t,e⟩:=(show ∃t,u=Value.float b t from r); cases e; rfl
 | ref a=>cases (show u=Value.ref a from r); rfl
 | ty n=>cases (show u=Value.type n from r); rfl
section
variable {P:Program}{w:World}{H H':Hp}{h h':Heap}{a C dx:Addr}{fs fs':List (Str×V)}
theorem i6 (hok:cb P w H h) (e:H a=some (.ins C dx fs)):∃mA,jy h a dx C mA/\(∀f,cB (fs.lookup f) (mA f))/\PySem.Within mA (fs.map (·.1))/\fs.length<=1000/\H dx=some (.own a):=by
 obtain ⟨d,z,ne,ob,mA,n,r,q⟩:=(show aT P w H h a (.ins C dx fs) from hok a _ e)
 exact ⟨mA,⟨ob,n,ne⟩,r,q,z,d⟩
end
structure iI (K:W.Frag) (C:Addr):Prop where
 pg:W.plainGet K C Str.empty=true
 hd:W.hasDictIn K C=true
 po:W.plainOver K C=true
 sa:W.findIn K (.ref C) "__setattr__" = some (some (.builtin "object.__setattr__"))
theorem iI.get {K:W.Frag}{C:Addr}(c:iI K C) (f:Str):W.plainGet K C f=true:=c.pg
def cw (K:W.Frag) (C:Addr) (f:Str):Prop:=W.findIn K (.ref C) f=some none
theorem cw.AK {K:W.Frag}{C:Addr}{f:Str}(n:cw K C f):W.takerIn K C f=some none:=by
 unfold W.takerIn
 rw [show W.findIn K (.ref C) f=some none from n]
 rfl
structure Meth (K:W.Frag) (C:Addr) (m:Str) (f:Addr):Prop where
 at_:W.findIn K (.ref C) m=some (some (.ref f))
 fn:W.isFn K (.ref f)=true
 kp:W.keepIn K (.ref f)=true
section
variable {X:Cx}{pins:List (Addr×Obj)}{σ:St}{H:Hp}{s:Shared}{a C dx:Addr}{fs:List (Str×V)}{f:Str}{v:V}{A:Around}{E:Value->Shared->Prop}
theorem qK {b:Bool}{Q:Value->Shared->Prop}(I:Inv X pins σ H s) (e:H a=some (.ins C dx fs)) (c:iI X.K C) (n:cw X.K C f) (l:fs.lookup f=some v)
 (h:∀u s',Inv X pins σ H s'->RelV v u->Q u s'):wpAny (model X.prog X.w) A (getAttr (.ref a) f b) Q E s:=by
 obtain ⟨mA,O,r,_,_,_⟩:=i6 I.hok e
 obtain ⟨u,hu,ru⟩:=cB.some_of (v:=v) (o:=mA f) (by rw [← l]; exact r f)
 exact get_map I.cP O (c.get f) c.hd n hu (sE ru) (h u _ (I.tok _) ru)
theorem jZ {m:Str}{g:Addr}{pl:Sem Bool}{Q:Value×List Value->Shared->Prop}(I:Inv X pins σ H s) (e:H a=some (.ins C dx fs)) (c:iI X.K C) (k:Meth X.K C m g) (l:fs.lookup m=none)
 (h:Q (.ref g,[.ref a]) s):wpAny (model X.prog X.w) A (getMethod (.ref a) m pl) Q E s:=by
 obtain ⟨mA,O,r,_,_,_⟩:=i6 I.hok e
 have hn:mA m=none:=cB.none_of (by rw [← l]; exact r m)
 exact uS I.cP O (c.get m) k.at_ k.fn hn h
theorem qL {y:V}{u:Value}{Q:Unit->Shared->Prop}(I:Inv X pins σ H s) (e:H a=some (.ins C dx fs)) (c:iI X.K C) (n:cw X.K C f) (hl:fs.length<1000) (ry:RelV y u)
 (h:∀s',Inv X pins σ (upd H a (.ins C dx (au f y fs))) s'->Q () s'):wpAny (model X.prog X.w) A (setAttr (.ref a) f u) Q E s:=by
 obtain ⟨mA,O,r,wi,_,ho⟩:=i6 I.hok e
 have hz:(fs.map (·.1)).length<=sizeLine:=by rw [List.length_map,sizeLine_eq]; omega
 refine w4 I.cP O c.sa c.po n.AK c.hd wi hz λh' O' sb=>h _ ?_
 have hd:∃o,h'.get? dx=some o:=let ⟨o,_,_,e',_⟩:=O'.ns; ⟨o,e'⟩
 refine I.write (x:=a) (e:=dx) (by rw [e]; exact True.intro) (.inr ho) (λb q hb z=>(sb.2 b hb).trans z) hd ?_
 refine ⟨by rw [ai O.ne]; exact ho,?_,O.ne,O'.obj,_,O'.ns,λg=>?_,λg hg=>?_⟩
 . have:=gp f y fs; omega
 . show cB ((au f y fs).lookup g) (if g=f then some u else mA g)
   rw [ao]
   by_cases q:g=f
   . rw [if_pos q,if_pos q]; exact ry
   . rw [if_neg q,if_neg q]; exact r g
 . by_cases q:g=f
   . rw [q]; exact (iH f y fs).1
   . refine (iH f y fs).2 g (wi g λz=>hg ?_)
     show (if g=f then some u else mA g)=none
     rw [if_neg q]; exact z
theorem Inv.made (I:Inv X pins σ H s):Inv X pins σ (upd (upd H s.heap.objs.size (.own (s.heap.objs.size+1))) (s.heap.objs.size+1) (.ins C s.heap.objs.size []))
 { s with heap:=(s.heap.push W.emptyDict).push (W.instObj C s.heap.objs.size) }:=by
 have e1:(s.heap.push W.emptyDict).get? s.heap.objs.size=some W.emptyDict:=Heap.get?_push_size s.heap rfl
 have e2:((s.heap.push W.emptyDict).push (W.instObj C s.heap.objs.size)).get? (s.heap.objs.size+1)=some (W.instObj C s.heap.objs.size):=by
  have:=Heap.get?_push_size (s.heap.push W.emptyDict) (o:=W.instObj C s.heap.objs.size) rfl
  rwa [Heap.size_push] at this
 have e3:(s.heap.push W.emptyDict).Ns s.heap.objs.size (λ_=>none):=⟨W.emptyDict,#[],_,e1,rfl,(λe he=>absurd he (by simp)),λ_=>rfl⟩
 have I1:=I.laid (a:=s.heap.objs.size) (o:=.own (s.heap.objs.size+1)) (h':=s.heap.push W.emptyDict) (t':=s.toks) (λb u q=>Heap.get?_push_of_some _ q) (Nat.le_refl _) ⟨_,e1⟩
 refine I1.laid (a:=s.heap.objs.size+1) (o:=.ins C s.heap.objs.size []) (t':=s.toks) (λb u q=>Heap.get?_push_of_some _ q) (Nat.le_of_eq (Heap.size_push _ _)) ?_
 have ne:s.heap.objs.size≠s.heap.objs.size+1:=Nat.ne_of_lt (Nat.lt_succ_self _)
 refine ⟨by rw [ai ne,ag],Nat.zero_le _,ne,e2,λ_=>none,(Heap.Ns1.of_empty e3).at λo q=>Heap.get?_push_of_some _ q,λ_=>True.intro,λy hy=>absurd rfl hy⟩
theorem w6 {prog:Program}{w:World}{env:Env}{e:Expr}{f:Str}{pos:Pos}{s:Shared}{Q:Value->Shared->Prop}(hb:attributeBase e f env (eval e env)=eval e env)
 (h:wpAny (model prog w) A (eval e env) (λo bw=>wpAny (model prog w) A (getAttr o f true) Q E bw) E s):wpAny (model prog w) A (eval (.Attribute e f pos) env) Q E s:=
 Attribute_any_ h (by rw [arm_eval_Attribute,hb])
end
def Er (K:W.Frag) (ta:TE) (f:Str):TE:=λσ H Q=>ta σ H λx H1=>∃a C dx fs v,x=.ref a/\H1 a=some (.ins C dx fs)/\iI K C/\cw K C f/\fs.lookup f=some v/\Q v H1
def Es (K:W.Frag) (ta tv:TE) (f:Str):TS:=λD σ H=>tv σ H λy H1=>ta σ H1 λx H2=>∃a C dx fs,x=.ref a/\H2 a=some (.ins C dx fs)/\iI K C/\cw K C f/\fs.length<1000/\
 D.nx σ (upd H2 a (.ins C dx (au f y fs)))
section
variable {X:Cx}{o e value:Expr}{f:Str}{pos pos' Et:Pos}{ta tv:TE}
theorem bx (he:PE X e ta) (hb:attributeBase e f X.env (eval e X.env)=eval e X.env):PE X (.Attribute e f pos) (Er X.K ta f):=by
 intro pins s σ H Q I h
 refine w6 hb (aE (he pins s σ H _ I h) λu s1 ⟨x,H1,I1,rx,a,C,dx,fs,v,ex,ea,c,n,l,q⟩=>?_)
 subst ex
 obtain rfl:u=Value.ref a:=rx
 exact qK I1 ea c n l λu' s2 I2 ru=>⟨v,H1,I2,ru,q⟩
theorem fJ (ha:PE X o ta) (hv:PE X value tv) (hs:swapsWith value (some (.Attribute o f pos')) pos.line X.env=pure false):PS X (.Assign [.Attribute o f pos'] value pos) (Es X.K ta tv f):=by
 intro pins s σ H D I h
 refine plainObj_wpAny_Assign_Attribute (aE (hv pins s σ H _ I h) λu s1 ⟨y,H1,I1,ry,q⟩=>aE (ha pins s1 σ H1 _ I1 q) λov s2 ⟨x,H2,I2,rx,a,C,dx,fs,ex,ea,c,n,l,q2⟩=>?_) hs
 subst ex
 obtain rfl:ov=Value.ref a:=rx
 exact qL I2 ea c n l ry λs3 I3=>⟨σ,_,I3,q2⟩
theorem Az {pl:Sem Bool}{m:Str}{apos:Pos}{args:List Expr}{pins:List (Addr×Obj)}{s:Shared}{σ:St}{H:Hp}{Q:Value->Shared->Prop}{te:TE}(he:PE X e te) (I:Inv X pins σ H s)
 (h:te σ H λx H1=>∃a C dx fs g,x=.ref a/\H1 a=some (.ins C dx fs)/\iI X.K C/\Meth X.K C m g/\fs.lookup m=none/\
  ∀s1,Inv X pins σ H1 s1->wpAny (model X.prog X.w) X.A (callWith pos (.ref g) [.ref a] (backTo pos (starEach args X.env)) (backToKw pos (keywordEach [] X.env))) Q X.xe s1)
 (ht:eval (.Call (.Attribute e m apos) args [] pos) X.env=(do
  let ov ← eval e X.env
  standAt apos.atName
  let (f,first) ← holding [ov] (getMethod ov m pl)
  callWith pos f first (backTo pos (starEach args X.env)) (backToKw pos (keywordEach [] X.env)))) :
 wpAny (model X.prog X.w) X.A (eval (.Call (.Attribute e m apos) args [] pos) X.env) Q X.xe s:=by
 refine W.methodCall_KW (pl:=pl) (aE (he pins s σ H _ I h) λu s1 ⟨x,H1,I1,rx,a,C,dx,fs,g,ex,ea,c,k,l,q⟩=>?_) ht
 subst ex
 obtain rfl:u=Value.ref a:=rx
 exact jZ I1 ea c k l (q s1 I1)
end
section
variable {X:Cx}{pins:List (Addr×Obj)}{σ:St}{H:Hp}{s:Shared}{A:Around}{E:Value->Shared->Prop}{Q:Value->Shared->Prop}{c:Value}{b:Bool}
inductive ef (K:W.Frag) (H:Hp):V->Value->Prop where
 | aR:ef K H .aR (.type "NoneType")
 | bl (x:Bool):ef K H (.bl x) (.type "bool")
 | int (i:Int):ef K H (.int i) (.type "int")
 | str (x:Str):ef K H (.str x) (.type "str")
 | lO (x:UInt64):ef K H (.lO x) (.type "float")
 | lst {a:Addr}{xs:List V}(e:H a=some (.lst xs)):ef K H (.ref a) (.type "list")
 | gc {a:Addr}{o:Obj}{xs:List V}(e:H a=some (.gc o (.lst xs))):ef K H (.ref a) (.type "list")
 | tup {a:Addr}{xs:List V}(e:H a=some (.tup xs)):ef K H (.ref a) (.type "tuple")
 | dK {a:Addr}{kvs:List (Key×V)}(e:H a=some (.dK kvs)):ef K H (.ref a) (.type "dict")
 | dT {a:Addr}{kvs:List (List Key×V)}(e:H a=some (.dT kvs)):ef K H (.ref a) (.type "dict")
 | ins {a C dx:Addr}{fs:List (Str×V)}(e:H a=some (.ins C dx fs)) (cl:iI K C) (ha:W.findIn K (.ref C) "__class__" = some (some (.builtin "object.__class__")))
  (hn:W.specialIn K (.builtin "object.__class__") "__get__" = some (some (.builtin "getset_descriptor.__get__"))) (Cj:W.takesIn K (.builtin "object.__class__")=some true)
  (hm:W.mroIn K C (.type "object")=some true):ef K H (.ref a) (.ref C)
theorem sF {x:V}{u t:Value}(I:Inv X pins σ H s) (rx:RelV x u) (ty:ef X.K H x t) (e:W.kitOne X.K t c=some b) (h:∀tk,Q (.bool b) { s with toks:=tk }) :
 wpAny (model X.prog X.w) A (call (.builtin "isinstance") [u,c]) Q E s:=by
 cases ty with
 | aR=>cases (show u=Value.none from rx); exact W.kia_one W.kitx_none I.cP True.intro e (λz=>nomatch z) h
 | bl y=>cases (show u=Value.bool y from rx); exact W.kia_one W.kitx_bool I.cP True.intro e (λz=>nomatch z) h
 | int i=>obtain ⟨t,q⟩:=(show ∃t,u=Value.int i t from rx); cases q; exact W.kia_one W.kitx_int I.cP True.intro e (λz=>nomatch z) h
 | str y=>obtain ⟨t,q⟩:=(show ∃t,u=Value.str y t from rx); cases q; exact W.kia_one W.kitx_str I.cP True.intro e (λz=>nomatch z) h
 | lO y=>obtain ⟨t,q⟩:=(show ∃t,u=Value.float y t from rx); cases q; exact W.kia_one W.kitx_float I.cP True.intro e (λz=>nomatch z) h
 | @lst a xs ea=>
  cases (show u=Value.ref a from rx)
  obtain ⟨_,_,n,_,h1⟩:=(show aT X.prog X.w H s.heap a (.lst xs) from I.hok a _ ea)
  exact W.kia_one W.kitx_list I.cP ⟨_,h1,rfl⟩ e (λz=>nomatch z) h
 | @gc a ob xs ea=>
  cases (show u=Value.ref a from rx)
  obtain ⟨_,_,_,n,_,h1⟩:=(show aT X.prog X.w H s.heap a (.gc ob (.lst xs)) from I.hok a _ ea)
  exact W.kia_one W.kitx_list I.cP ⟨_,h1,rfl⟩ e (λz=>nomatch z) h
 | @tup a xs ea=>
  cases (show u=Value.ref a from rx)
  obtain ⟨_,_,_,p⟩:=(show aT X.prog X.w H s.heap a (.tup xs) from I.hok a _ ea)
  obtain ⟨o,h1,h2,_⟩:=p
  exact W.kia_one W.kitx_tuple I.cP ⟨o,h1,h2⟩ e (λz=>nomatch z) h
 | @dK a kvs ea=>
  cases (show u=Value.ref a from rx)
  obtain ⟨_,_,vs,_,p⟩:=(show aT X.prog X.w H s.heap a (.dK kvs) from I.hok a _ ea)
  obtain ⟨o,es,ep,h1,h2,_⟩:=p
  exact W.kia_one W.kitx_dict I.cP ⟨o,h1,h2.1⟩ e (λz=>nomatch z) h
 | @dT a kvs ea=>
  cases (show u=Value.ref a from rx)
  obtain ⟨_,_,xs,_,o,es,ep,h1,h2,_⟩:=(show aT X.prog X.w H s.heap a (.dT kvs) from I.hok a _ ea)
  exact W.kia_one W.kitx_dict I.cP ⟨o,h1,h2.1⟩ e (λz=>nomatch z) h
 | @ins a C dx fs ea cl ha hn Cj hm=>
  cases (show u=Value.ref a from rx)
  obtain ⟨mA,O,_⟩:=i6 I.hok ea
  obtain ⟨od,J,_⟩:=O.look
  exact W.kia_one (W.kitx_own (cl.get _) cl.hd ha hn Cj hm) I.cP J e (λz=>nomatch z) h
end
end L2
namespace L2
open PySem PySem.Spec PyProof.Rows
structure ba (k:Nat) (A:Around):Prop where
 hd:A.handled=none
 dp:A.depth+3*k+5<recursionLimit
 un:A.units+16*k+200<cLine
theorem ba.mono {j k:Nat}{A:Around}(r:ba k A) (h:j<=k):ba j A:=⟨r.hd,by have:=r.dp; omega,by have:=r.un; omega⟩
theorem ba.deeper {k:Nat}{A:Around}(r:ba (k+1) A) (env:Env):ba k (A.deeper env):=
 ⟨r.hd,by have:=r.dp; show A.depth+1+3*k+5<_; omega,by have:=r.un; show A.units+3+16*k+200<_; omega⟩
theorem ba.in1 {k:Nat}{A:Around}(r:ba (k+1) A):ba k A.in1:=
 ⟨r.hd,by have:=r.dp; show A.depth+3*k+5<_; omega,by have:=r.un; show A.units+1+16*k+200<_; omega⟩
theorem qM {A:Around}{C:Addr}{us:List Value}{kw:List (Str×Value)} : (A.under (.builtin "type.__call__" ⟨.ref C::us,kw⟩)).depth=A.depth+1:=by
 first | rfl | simp [Around.under,Code.weight,Code.isCreation,Code.isGuard,Code.isCaller,Code.frames,Code.isFrame,guardIds]
theorem qN {A:Around}{C:Addr}{us:List Value}{kw:List (Str×Value)} : (A.under (.builtin "type.__call__" ⟨.ref C::us,kw⟩)).units=A.units+1:=by
 first | rfl | simp [Around.under,Code.cUnits,Code.frames,Code.isFrame]
theorem ba.make {k:Nat}{A:Around}(r:ba (k+1) A) (C:Addr) (us:List Value) (kw:List (Str×Value)):ba k (A.under (.builtin "type.__call__" ⟨.ref C::us,kw⟩)):=
 ⟨r.hd,by have:=r.dp; rw [qM]; omega,by have:=r.un; rw [qN]; omega⟩
theorem ba.depth {k:Nat}{A:Around}(r:ba k A):A.depth<recursionLimit:=by have:=r.dp; omega
theorem ba.units {k:Nat}{A:Around}(r:ba k A):A.units+64<cLine:=by have:=r.un; omega
def x9:TA:=λ_ H Q=>Q [] H
def mr (ta:TE) (tr:TA):TA:=λσ H Q=>ta σ H λx H1=>tr σ H1 λxs H2=>Q (x::xs) H2
section
variable {X:Cx}{e:Expr}{es:List Expr}{te:TE}{t:TA}{pos:Pos}
theorem ab:PA X [] x9:=λ_ _ _ _ H Q I h=>Calls.spliced_nil ⟨[],H,I,.nil,h⟩
theorem aa (ha:PE X e te) (hr:PA X es t) (hs:starEach (e::es) X.env=(false,eval e X.env)::starEach es X.env:=by rfl):PA X (e::es) (mr te t):=by
 intro pos pins s σ H Q I h
 rw [hs]
 show wpAny _ _ (spliced ((false,eval e X.env)::backTo pos (starEach es X.env))) _ _ s
 refine Calls.spliced_cons (aE (ha pins s σ H _ I h) λu s1 ⟨x,H1,I1,r1,q1⟩=>?_)
 exact aE (hr pos pins s1 σ H1 _ I1 q1) λus s2 ⟨xs,H2,I2,r2,q2⟩=>⟨x::xs,H2,I2,.cons r1 r2,q2⟩
def Eu (t:TA):TE:=λσ H Q=>t σ H λxs H1=>xs.length<=sizeLine/\∀p,H1 p=none->Q (.ref p) (upd H1 p (.tup xs))
def Ew (t:TA):TE:=λσ H Q=>t σ H λxs H1=>xs.length<=sizeLine/\∀p,H1 p=none->Q (.ref p) (upd H1 p (.lst xs))
theorem eM {x1} (h:PA X es t):PE X (.Tuple es x1 pos) (Eu t):=by
 intro pins s σ H Q I hq
 refine wpAny_Tuple_spliced (aE (h pos pins s σ H _ I hq) λus s1 ⟨xs,H1,I1,r,z,q⟩=>⟨by rw [← r.length]; exact z,?_⟩)
 have hf:H1 s1.heap.objs.size=none:=I1.hok.fresh (Nat.le_refl _)
 refine ⟨.ref s1.heap.objs.size,upd H1 s1.heap.objs.size (.tup xs),I1.laid (t':=s1.toks) (λb u e=>Heap.get?_push_of_some _ e) (Nat.le_refl _) ?_,rfl,q _ hf⟩
 exact ⟨z,us,r,⟨_,Heap.get?_push_size _ rfl,rfl,_,rfl⟩⟩
theorem dW (h:PA X es t):PE X (.List es pos) (Ew t):=by
 intro pins s σ H Q I hq
 refine wpAny_List_spliced (aE (h pos pins s σ H _ I hq) λus s1 ⟨xs,H1,I1,r,z,q⟩=>⟨by rw [← r.length]; exact z,?_⟩)
 have hf:H1 s1.heap.objs.size=none:=I1.hok.fresh (Nat.le_refl _)
 refine ⟨.ref s1.heap.objs.size,upd H1 s1.heap.objs.size (.lst xs),I1.laid (t':=s1.toks) (λb u e=>Heap.get?_push_of_some _ e) (Nat.le_refl _) ?_,rfl,q _ hf⟩
 exact ⟨z,us,0,r,Heap.get?_push_size _ rfl⟩
end
abbrev Sp:=List V->Hp->VK->XK->Prop
abbrev iJ:=List Env->Hp->Shared->XK->Value->Shared->Prop
structure gq (P:Program) (w:World) (K:W.Frag) (mg:Str->Option Value) (base:Heap) (A:Around) (outer:List Env) (s:Shared) (H:Hp):Prop where
 frames:A.frames=some outer
 mod:Mod K mg base
 bs:∀b o,base.get? b=some o->s.heap.get? b=some o/\H b=none
 bsz:base.objs.size<=s.heap.objs.size
 d7:s.heap.FunFrames base outer
 frf:∀b∈il outer,H b=none
 hok:cb P w H s.heap
 bare:AllBare s.gens
def CE (outer:List Env) (P:Program) (w:World) (H:Hp) (s:Shared) (Q:VK) (u:Value) (s':Shared):Prop:=
 ∃v H',s'.os=s.os/\AllBare s'.gens/\Un (il outer) [] H H' s.heap s'.heap/\cb P w H' s'.heap/\RelV v u/\Q v H'
def CR (CX:iJ) (outer:List Env) (P:Program) (w:World) (H:Hp) (s:Shared) (Q:VK) (E:XK) (r:Result) (s':Shared):Prop:=
 match r with
 | .ok (.ret u)=>CE outer P w H s Q u s'
 | .ok _=>False
 | .error e=>CX outer H s E e s'
structure av (P:Program) (w:World) (K:W.Frag) (mg:Str->Option Value) (base:Heap) (CX:iJ) (k:Nat) (f:Addr) (fd:FuncData) (ps:List Str) (sp:Sp):Prop where
 len:∀vs H Q E,sp vs H Q E->vs.length=ps.length
 run:∀(A:Around) (outer:List Env) (s:Shared) (H:Hp) (args:Args) (us:List Value) (vs:List V) (Q:VK) (E:XK),ba k A->gq P w K mg base A outer s H->BindsTo s fd args (ps.zip us)->Vals vs us->sp vs H Q E->
  codeAny (model P w) A (.call (.ref f) args) (CR CX outer P w H s Q E) s
theorem gq.make {P:Program}{w:World}{K:W.Frag}{mg:Str->Option Value}{base:Heap}{A:Around}{outer:List Env}{s:Shared}{H:Hp}(e:gq P w K mg base A outer s H) (C:Addr) (us:List Value) (kw:List (Str×Value)) :
 gq P w K mg base (A.under (.builtin "type.__call__" ⟨.ref C::us,kw⟩)) outer s H:=⟨by first | exact e.frames | (simpa [Around.under,Code.envs,Code.isFrame,pushEnvs] using e.frames),e.mod,e.bs,e.bsz,e.d7,e.frf,e.hok,e.bare⟩
theorem gq.in1 {P:Program}{w:World}{K:W.Frag}{mg:Str->Option Value}{base:Heap}{A:Around}{outer:List Env}{s:Shared}{H:Hp}(e:gq P w K mg base A outer s H) :
 gq P w K mg base A.in1 outer s H:=⟨e.frames,e.mod,e.bs,e.bsz,e.d7,e.frf,e.hok,e.bare⟩
section
variable {X:Cx}{pins:List (Addr×Obj)}{σ:St}{H:Hp}{s s':Shared}
theorem Inv.ya (I:Inv X pins σ H s):gq X.prog X.w X.K X.mg X.base X.A X.stack s H:=
 ⟨I.ok.frames,I.ok.mod,I.bs,Nat.le_trans I.ok.bsz I.sz,I.stack,I.pB,I.hok,I.bare⟩
theorem Inv.after {Q:VK}{u:Value}(I:Inv X pins σ H s) (h:CE X.stack X.prog X.w H s Q u s'):EP X pins σ Q u s':=by
 obtain ⟨v,H',os,bare,un,hok,r,q⟩:=h
 obtain ⟨hh,g,d,t,G5⟩:=s'
 obtain rfl:G5=s.os:=os
 exact ⟨v,H',I.call (h':=hh) (g':=g) (d':=d) (t':=t) (ch:=[]) un hok bare (λb z=>absurd z (by simp)),r,q⟩
end
def AL (sp:Sp) (dX:List V) (E:XK) (t:TA):TE:=λσ H Q=>t σ H λvs H1=>sp (vs++dX) H1 Q E
def AM (C:Addr) (m:Str) (sp:Sp) (dX:List V) (E:XK) (ta:TE) (t:TA):TE:=λσ H Q=>ta σ H λx H1=>∃a dx fs,x=.ref a/\H1 a=some (.ins C dx fs)/\fs.lookup m=none/\
 t σ H1 λvs H2=>sp (x::(vs++dX)) H2 Q E
def AN (C:Addr) (sp:Sp) (dX:List V) (E:XK) (t:TA):TE:=λσ H Q=>t σ H λvs H1=>∀x dx,H1 x=none->H1 dx=none->dx≠x->
 sp (.ref x::(vs++dX)) (upd (upd H1 dx (.own x)) x (.ins C dx [])) (λv H2=>v=.aR/\Q (.ref x) H2) E
def Binds (K:W.Frag) (fd:FuncData) (ps:List Str) (ds:List Value):Prop:=
 ∀(s:Shared) (us:List Value),K.In s.heap->(us++ds).length=ps.length->BindsTo s fd ⟨us,[]⟩ (ps.zip (us++ds))
theorem Binds.all {K:W.Frag}{fd:FuncData}{ps:List Str}(h:∀us:List Value,us.length=ps.length->bindArgs fd ⟨us,[]⟩=pure (ps.zip us)):Binds K fd ps []:=λs us _ hl=>by
 rw [List.append_nil] at hl ⊢
 exact .of_eq (h us hl)
def Passes (CX:iJ) (X:Cx) (E:XK):Prop:=∀(pins:List (Addr×Obj)) (σ:St) (H:Hp) (s:Shared) (e:Value) (s':Shared),Inv X pins σ H s->CX X.stack H s E e s'->X.xe e s'
section
variable {X:Cx}{CX:iJ}{k:Nat}{f C:Addr}{fd:FuncData}{ps:List Str}{sp:Sp}{dX:List V}{ds:List Value}{E:XK}{x m:Str}{p pos apos:Pos}{e o:Expr}{es:List Expr}{ta:TE}{t:TA}
theorem sG {pins:List (Addr×Obj)}{σ:St}{H:Hp}{s:Shared}{Q:VK}{us:List Value}{vs:List V}(F:av X.prog X.w X.K X.mg X.base CX k f fd ps sp) (hr:ba k X.A) (hb:Binds X.K fd ps ds) (hd:Vals dX ds) (hx:Passes CX X E)
 (I:Inv X pins σ H s) (r:Vals vs us) (h:sp (vs++dX) H Q E):wpAny (model X.prog X.w) X.A (call (.ref f) us) (EP X pins σ Q) X.xe s:=by
 have r2:Vals (vs++dX) (us++ds):=r.append hd
 have hl:(us++ds).length=ps.length:=by rw [← r2.length]; exact F.len _ _ _ _ h
 refine wpAny_call (codeAny_mono (F.run X.A X.stack s H ⟨us,[]⟩ (us++ds) (vs++dX) Q E hr I.ya (hb s us I.cP hl) r2 h) λr s' hq=>?_)
 cases r with
 | error e=>exact hx pins σ H s e s' I hq
 | ok fl=>
  cases fl with
  | ret u=>exact I.after hq
  | next=>exact False.elim hq
  | brk=>exact False.elim hq
  | cont=>exact False.elim hq
theorem az (F:av X.prog X.w X.K X.mg X.base CX k f fd ps sp) (hr:ba k X.A) (hg:Gl X x) (hm:X.mg x=some (.ref f)) (hk:W.keepIn X.K (.ref f)=true) (hb:Binds X.K fd ps ds) (hd:Vals dX ds) (hx:Passes CX X E)
 (ha:PA X (e::es) t) (nq:(x == ("__debug__" : Str))=false:=by decide) (he:starEach (e::es) X.env=(false,eval e X.env)::starEach es X.env:=by rfl) (iq:(backTo pos (starEach es X.env)).any (·.1)=false:=by rfl) :
 PE X (.Call (.Name x p) (e::es) [] pos) (AL sp dX E t):=by
 intro pins s σ H Q I h
 refine wpAny_Call_Name_kw (pD I hg hm ?_ nq)
 refine W.callWith_K (h₀:=X.base) I.ok.mod.kin hk (aE (ha pos pins s σ H _ I h) λus s1 ⟨vs,H1,I1,r,q⟩=>⟨I1.cP,?_⟩) he iq
 exact sG F hr hb hd hx I1 r q
theorem aW {pl:Sem Bool}(he:PE X o ta) (c:iI X.K C) (hm:Meth X.K C m f) (F:av X.prog X.w X.K X.mg X.base CX k f fd ps sp) (hr:ba k X.A) (hb:Binds X.K fd ps ds) (hd:Vals dX ds) (hx:Passes CX X E) (ha:PA X (e::es) t)
 (gd:starEach (e::es) X.env=(false,eval e X.env)::starEach es X.env:=by rfl) (iq:(backTo pos (starEach es X.env)).any (·.1)=false:=by rfl)
 (ht:eval (.Call (.Attribute o m apos) (e::es) [] pos) X.env=(do
  let ov ← eval o X.env
  standAt apos.atName
  let (f,first) ← holding [ov] (getMethod ov m pl)
  callWith pos f first (backTo pos (starEach (e::es) X.env)) (backToKw pos (keywordEach [] X.env))):=by rfl) :
 PE X (.Call (.Attribute o m apos) (e::es) [] pos) (AM C m sp dX E ta t):=by
 intro pins s σ H Q I h
 refine W.methodCall_KW (pl:=pl) (aE (he pins s σ H _ I h) λu s1 ⟨x,H1,I1,rx,a,dx,fs,ex,ea,l,q⟩=>?_) ht
 subst ex
 obtain rfl:u=Value.ref a:=rx
 refine jZ I1 ea c hm l ?_
 refine W.callWith_K (first:=[.ref a]) (h₀:=X.base) I.ok.mod.kin hm.kp (aE (ha pos pins s1 σ H1 _ I1 q) λus s2 ⟨vs,H2,I2,r,q2⟩=>⟨I2.cP,?_⟩) gd iq
 exact sG (us:=.ref a::us) (vs:=.ref a::vs) F hr hb hd hx I2 (.cons rfl r) q2
structure Mk (K:W.Frag) (C f:Addr):Prop where
 makes:W.makesIn K C=true
 init:W.findIn K (.ref C) "__init__" = some (some (.ref f))
 fn:W.isFn K (.ref f)=true
 kp:W.keepIn K (.ref C)=true
theorem uU {pins:List (Addr×Obj)}{σ:St}{H:Hp}{s:Shared}{Q:VK}{us:List Value}{vs:List V}(M:Mk X.K C f) (F:av X.prog X.w X.K X.mg X.base CX k f fd ps sp) (hr:ba (k+1) X.A) (hb:Binds X.K fd ps ds) (hd:Vals dX ds)
 (hx:Passes CX X E) (I:Inv X pins σ H s) (r:Vals vs us)
 (h:∀x dx,H x=none->H dx=none->dx≠x->sp (.ref x::(vs++dX)) (upd (upd H dx (.own x)) x (.ins C dx [])) (λv H2=>v=.aR/\Q (.ref x) H2) E) :
 wpAny (model X.prog X.w) X.A (call (.ref C) us) (EP X pins σ Q) X.xe s:=by
 have hq:=h (s.heap.objs.size+1) s.heap.objs.size (I.hok.fresh (Nat.le_succ _)) (I.hok.fresh (Nat.le_refl _)) (Nat.ne_of_lt (Nat.lt_succ_self _))
 have I2:=Inv.made (C:=C) I
 have r2:Vals (V.ref (s.heap.objs.size+1)::(vs++dX)) (Value.ref (s.heap.objs.size+1)::(us++ds)):=.cons rfl (r.append hd)
 have hl:(Value.ref (s.heap.objs.size+1)::us++ds).length=ps.length:=by
  have e:=r2.length
  rw [F.len _ _ _ _ hq] at e
  exact e.symm
 refine wpAny_call (uT (f:=f) I.cP M.makes M.init (beq_iff_eq.mp M.fn) (codeAny_mono (F.run _ X.stack _ _ ⟨Value.ref (s.heap.objs.size+1)::us,[]⟩ (Value.ref (s.heap.objs.size+1)::(us++ds)) _ _ E (hr.make C us [])
  (I2.ya.make C us []) (hb _ (Value.ref (s.heap.objs.size+1)::us) I2.cP hl) r2 hq) λr s' sH=>?_))
 cases r with
 | error e=>exact hx pins σ _ _ e s' I2 sH
 | ok fl=>
  cases fl with
  | ret u=>
   obtain ⟨v,H',I3,rv,ev,q3⟩:=I2.after sH
   subst ev
   exact ⟨rv,⟨V.ref (s.heap.objs.size+1),H',I3,rfl,q3⟩⟩
  | next=>exact False.elim sH
  | brk=>exact False.elim sH
  | cont=>exact False.elim sH
theorem pM (M:Mk X.K C f) (F:av X.prog X.w X.K X.mg X.base CX k f fd ps sp) (hr:ba (k+1) X.A) (hg:Gl X x) (hm:X.mg x=some (.ref C)) (hb:Binds X.K fd ps ds) (hd:Vals dX ds) (hx:Passes CX X E)
 (ha:PA X (e::es) t) (nq:(x == ("__debug__" : Str))=false:=by decide) (he:starEach (e::es) X.env=(false,eval e X.env)::starEach es X.env:=by rfl) (iq:(backTo pos (starEach es X.env)).any (·.1)=false:=by rfl) :
 PE X (.Call (.Name x p) (e::es) [] pos) (AN C sp dX E t):=by
 intro pins s σ H Q I h
 refine wpAny_Call_Name_kw (pD I hg hm ?_ nq)
 refine W.callWith_K (h₀:=X.base) I.ok.mod.kin M.kp (aE (ha pos pins s σ H _ I h) λus s1 ⟨vs,H1,I1,r,q⟩=>⟨I1.cP,?_⟩) he iq
 exact uU M F hr hb hd hx I1 r q
end
section
variable {X:Cx}{CX:iJ}{k:Nat}{f C:Addr}{fd:FuncData}{ps ks:List Str}{sp:Sp}{E:XK}{x m:Str}{p pos apos Ll:Pos}{e o:Expr}{es:List Expr}{Lz:List Keyword}{te ta:TE}{t tk:TA}{nm:Option Str}
variable {g:List Value->List Value->List Value}{gV:List V->List V->List V}
end
structure aQ (N P:List Str) (sc:Scope):Prop where
 kind:sc.kind=.function
 co:sc.isCoroutine=false
 gen:sc.isGenerator=false
 nd:N.Nodup
 pre:N.take P.length=P
 par:∀x∈P,sc.names.lookup x=some .local\/sc.names.lookup x=some .cell
 nofree:∀y∈sc.names,y.2≠.free
theorem lS {kindOf:Str->Option NameKind}{x:Str} : ∀{binds:List (Str×Value)}{m:Str->Option Value},(∀v,(x,v)∉binds)->bindL kindOf binds m x=m x
 | [],_,_=>rfl
 | (n,v)::r,m,h=>by
  unfold bindL
  rw [lS λw hw=>h w (List.mem_cons_of_mem _ hw)]
  split
  . have:x≠n:=by rintro rfl; exact h v List.mem_cons_self
    simp [this]
  . rfl
theorem lT {kindOf:Str->Option NameKind}{x:Str} : ∀{binds:List (Str×Value)}{m:Str->Option Value},(∀v,(x,v)∉binds)->bindC kindOf binds m x=m x
 | [],_,_=>rfl
 | (n,v)::r,m,h=>by
  unfold bindC
  rw [lT λw hw=>h w (List.mem_cons_of_mem _ hw)]
  split
  . rfl
  . have:x≠n:=by rintro rfl; exact h v List.mem_cons_self
    simp [this]
theorem lU {kindOf:Str->Option NameKind}{x:Str}{v:Value} : ∀{P:List Str}{vs:List Value}{i:Nat}{m:Str->Option Value},P.Nodup->P[i]?=some x->vs[i]?=some v->kindOf x=some .local->
 bindL kindOf (P.zip vs) m x=some v
 | [],_,_,_,_,h,_,_=>by simp at h
 | _::_,[],_,_,_,_,h,_=>by simp at h
 | p::P,w::vs,0,m,nd,h1,h2,hk=>by
  simp at h1 h2; subst h1; subst h2
  show bindL kindOf ((p,w)::P.zip vs) m p=_
  unfold bindL
  rw [lS λv hv=>(List.nodup_cons.mp nd).1 (List.of_mem_zip hv).1,if_pos hk]
  simp
 | p::P,w::vs,i+1,m,nd,h1,h2,hk=>by
  show bindL kindOf ((p,w)::P.zip vs) m x=_
  unfold bindL
  exact lU (i:=i) (List.nodup_cons.mp nd).2 (by simpa using h1) (by simpa using h2) hk
theorem lV {kindOf:Str->Option NameKind}{x:Str}{v:Value} : ∀{P:List Str}{vs:List Value}{i:Nat}{m:Str->Option Value},P.Nodup->P[i]?=some x->vs[i]?=some v->kindOf x≠some .local->
 bindC kindOf (P.zip vs) m x=some v
 | [],_,_,_,_,h,_,_=>by simp at h
 | _::_,[],_,_,_,_,h,_=>by simp at h
 | p::P,w::vs,0,m,nd,h1,h2,hk=>by
  simp at h1 h2; subst h1; subst h2
  show bindC kindOf ((p,w)::P.zip vs) m p=_
  unfold bindC
  rw [lT λv hv=>(List.nodup_cons.mp nd).1 (List.of_mem_zip hv).1,if_neg hk]
  simp
 | p::P,w::vs,i+1,m,nd,h1,h2,hk=>by
  show bindC kindOf ((p,w)::P.zip vs) m x=_
  unfold bindC
  exact lV (i:=i) (List.nodup_cons.mp nd).2 (by simpa using h1) (by simpa using h2) hk
def start (N:List Str) (vs:List V):St:=vs.map some++List.replicate (N.length-vs.length) none
def gZ (CX:iJ) (P:Program) (w:World) (K:W.Frag) (mg:Str->Option Value) (base:Heap) (N:List Str) (qual:Str) (scope:Scope) (f:Addr) (cd:Value) (A:Around) (outer:List Env) (s:Shared) (H:Hp) (E:XK):Cx where
 prog:=P
 w:=w
 K:=K
 mg:=mg
 base:=base
 A:=A.deeper (envOfC qual scope s.heap.objs.size f cd)
 N:=N
 eU:=s
 xR:=H
 env:=envOfC qual scope s.heap.objs.size f cd
 outer:=outer
 stack:=envOfC qual scope s.heap.objs.size f cd::outer
 ex:=[]
 calm:=true
 fn:=λ_=>true
 pn:=[]
 xe:=λe s'=>wpAny (model P w) (A.deeper (envOfC qual scope s.heap.objs.size f cd)) (leaving (envOfC qual scope s.heap.objs.size f cd) e) (λ_ sI=>CX outer H s E e sI) (λe' sI=>CX outer H s E e' sI) s'
theorem nr {sc:Scope}{n:Nat}{x:Str}(h:sc.names.lookup x=some .cell):∃c,(cellsFrom n sc.names []).lookup x=some c:=by
 have q:=W.cellsFrom_some sc.names n [] (.inl h)
 exact Option.isSome_iff_exists.mp q
theorem sJ {CX:iJ}{P:Program}{w:World}{K:W.Frag}{mg:Str->Option Value}{base:Heap}{N ps:List Str}{qual:Str}{scope:Scope}{f:Addr}{cd:Value}{A:Around}{outer:List Env}{s s1:Shared}{H:Hp}{E:XK}{us:List Value}{vs:List V}
 (S:aQ N ps scope) (hd:A.handled=none) (e0:gq P w K mg base A outer s H) (hl:vs.length=ps.length) (r:Vals vs us)
 (x:InCallC s s.heap.objs.size (bindL (envOfC qual scope s.heap.objs.size f cd).kindOf (ps.zip us) λ_=>none) (cellsFrom (s.heap.objs.size+1) scope.names []) (bindC (envOfC qual scope s.heap.objs.size f cd).kindOf (ps.zip us) λ_=>none) s1) :
 Inv (gZ CX P w K mg base N qual scope f cd A outer s H E) [] (start N vs) H s1:=by
 have iq:ps.length<=N.length:=by have:=congrArg List.length S.pre; rw [List.length_take] at this; omega
 obtain ⟨h1,tk,rfl,hk⟩:=x.done
 have sL:∀b:Addr,b∉(gZ CX P w K mg base N qual scope f cd A outer s H E).ex:=λb z=>absurd (show b∈([]:List Addr) from z) (by simp)
 refine ⟨⟨e0.mod,S.kind,rfl,rfl,Nat.le_refl _,λy z c h1 h2=>?_,λy hy=>?_,λy c _ h=>?_,λ_=>hd,Around.frames_deeper e0.frames,.inr ⟨rfl,rfl⟩,λb z=>absurd z (sL b),e0.bs,e0.bsz,λb _ _=>sL b,λb z=>absurd z (sL b),e0.d7,e0.frf⟩,
  rfl,e0.bare,Un.kept hk,⟨_,x.toInCall.ns,λi y v h1 h2 h3=>?_⟩,λy c h=>⟨_,x.cell y c h⟩,e0.hok.fresh (Nat.le_refl _),λy c h=>?_,λp hp=>absurd (show p∈([]:List (Addr×Obj)) from hp) (by simp),e0.hok.kept hk,?_⟩
 . exact name_of_addr x.apart (PySem.mem_of_lookup h1) (PySem.mem_of_lookup h2)
 . have hy:scope.names.lookup y=some .cell\/scope.names.lookup y=some .free:=hy
   rcases hy with hy | hy
   . exact nr hy
   . exact absurd rfl (S.nofree _ (PySem.mem_of_lookup hy))
 . exact Nat.le_of_lt (x.above y c (PySem.mem_of_lookup h))
 . have hi:i<vs.length:=by
    unfold start at h2
    by_cases hi:i<vs.length
    . exact hi
    . rw [List.getElem?_append_right (by simpa using hi)] at h2
      rw [List.getElem?_replicate] at h2
      split at h2 <;> cases h2
   have ha:vs[i]?=some v:=by
    unfold start at h2
    rw [List.getElem?_append_left (by simpa using hi),List.getElem?_map] at h2
    cases e:vs[i]? with
    | none=>rw [e] at h2; cases h2
    | some a=>rw [e] at h2; cases h2; rfl
   obtain ⟨u,hu,rv⟩:=r.get ha
   have hp:ps[i]?=some y:=by
    rw [← S.pre,List.getElem?_take_of_lt (by omega)]; exact h1
   have Ck:ps.Nodup:=by rw [← S.pre]; exact S.nd.sublist (List.take_sublist _ _)
   refine ⟨u,rv,?_⟩
   rcases S.par y (List.mem_of_getElem? hp) with k | k
   . exact .inl ⟨k,lU Ck hp hu k⟩
   . obtain ⟨c,e⟩:=nr (n:=s.heap.objs.size+1) k
     refine .inr ⟨.inl k,c,e,?_⟩
     have q:=x.cell y c e
     rw [lV Ck hp hu (by show scope.names.lookup y≠_; rw [k]; decide)] at q
     exact q
 . exact e0.hok.fresh (Nat.le_of_lt (x.above y c (PySem.mem_of_lookup h)))
 . unfold start
   show _=N.length
   rw [List.length_append,List.length_map,List.length_replicate]
   omega
theorem AO {CX:iJ}{P:Program}{w:World}{K:W.Frag}{mg:Str->Option Value}{base:Heap}{k:Nat}{f:Addr}{name qual:Str}{params:Arguments}{body:List Stmt}{scope:Scope}{dV kV doc pm cdv ct oc:Value}{an od:Option Addr}
 {lW:Array (Option Value)}{N ps:List Str}{sp:Sp}(lk:K.lookup f=some ⟨oc,od,.func (W.fnOf name qual params body scope dV kV doc pm an cdv ct),lW⟩) (iC:W.codeIn K cdv qual=true) (S:aQ N ps scope)
 (len:∀vs H Q E,sp vs H Q E->vs.length=ps.length)
 (qO:∀(A:Around) (outer:List Env) (s:Shared) (H:Hp) (vs:List V) (Q:VK) (E:XK),ba k (A.deeper (envOfC qual scope s.heap.objs.size f cdv))->sp vs H Q E->
  ∃t,fu (gZ CX P w K mg base N qual scope f cdv A outer s H E) body t/\t { nx:=λ_ H'=>Q .aR H',rt:=Q } (start N vs) H) :
 av P w K mg base CX (k+1) f (W.fnOf name qual params body scope dV kV doc pm an cdv ct) ps sp:=by
 refine ⟨len,λA outer s H args us vs Q E hr e0 hb r gf=>?_⟩
 have hl:=len _ _ _ _ gf
 have KX:K.In s.heap:=e0.mod.kin.keeps λb o e=>(e0.bs b o e).1
 have lim:s.heap.NoLimit:=e0.mod.nolimit.keeps λb o e=>(e0.bs b o e).1
 have AQ:∀y∈ps.zip us,scope.names.lookup y.1=some .local\/(scope.names.lookup y.1=some .cell/\((cellsFrom (s.heap.objs.size+1) scope.names []).lookup y.1).isSome=true):=λ⟨n,v⟩ hy=>by
  rcases S.par n (List.of_mem_zip hy).1 with q | q
  . exact .inl q
  . exact .inr ⟨q,W.cellsFrom_some _ _ _ (.inl q)⟩
 refine codeAny_call_function hr.depth (KX _ _ lk) rfl S.co S.gen rfl (W.codeRec_of KX iC) (hb _ _ _ _ ?_)
 refine wpAny_newFunctionEnv_cells S.kind AQ λenv he s1 x=>?_
 subst he
 refine ⟨lim.keeps x.toInCall.keep,codeAny_func ?_⟩
 obtain ⟨t,ht,hq⟩:=qO A outer s H vs Q E (hr.deeper _) gf
 have I:Inv (gZ CX P w K mg base N qual scope f cdv A outer s H E) [] (start N vs) H s1:=sJ S hr.hd e0 hl r x
 refine wpAny_mono (ht [] s1 (start N vs) H _ I hq) (λfl s' hs=>?_) λe s' hs=>hs
 have fin:∀{bW:St}{H':Hp}{v:V}{u:Value},Inv (gZ CX P w K mg base N qual scope f cdv A outer s H E) [] bW H' s'->RelV v u->Q v H'->CE outer P w H s Q u s':=
  λ{bW H' v u} J rv q=>⟨v,H',J.os,J.bare,J.base,J.hok,rv,q⟩
 cases fl with
 | ret u=>
  obtain ⟨v,bW,H',J,rv,q⟩:=hs
  exact fin J rv q
 | next=>
  obtain ⟨bW,H',J,q⟩:=hs
  exact fin (v:=V.aR) (u:=Value.none) J rfl q
 | brk=>
  obtain ⟨_,_,_,q⟩:=hs
  exact False.elim q
 | cont=>
  obtain ⟨_,_,_,q⟩:=hs
  exact False.elim q
end L2
namespace L2
open PySem PySem.Spec PyProof.Rows
section
variable {X:Cx}{x:Str}{p pos:Pos}{e:Expr}{es:List Expr}{t:TA}{id T:String}{r:List V->Hp->VK->Prop}
def Cm (r:List V->Hp->VK->Prop) (t:TA):TE:=λσ H Q=>t σ H λvs H1=>r vs H1 Q
theorem aO (hc:ff X (.builtin id) r) (hg:Gl X x) (hm:X.mg x=none) (hv:bootBuiltins x=some (.builtin id)) (ha:PA X (e::es) t) (hn:x ≠ "__name__":=by decide) (nq:(x == ("__debug__" : Str))=false:=by decide)
 (he:starEach (e::es) X.env=(false,eval e X.env)::starEach es X.env:=by rfl) (iq:(backTo pos (starEach es X.env)).any (·.1)=false:=by rfl):PE X (.Call (.Name x p) (e::es) [] pos) (Cm r t):=by
 intro pins s σ H Q I h
 refine wpAny_Call_Name_kw (eJ I hg hm hv ?_ hn nq)
 exact PyProof.Rows.callWith_builtin1 (aE (ha pos pins s σ H _ I h) λus s1 ⟨vs,H1,I1,r1,q1⟩=>hc pins s1 σ H1 vs us Q I1 r1 q1) he iq
theorem gg (hc:ff X (.type T) r) (hg:Gl X x) (hm:X.mg x=none) (hv:bootBuiltins x=some (.type T)) (ha:PA X (e::es) t) (hn:x ≠ "__name__":=by decide) (nq:(x == ("__debug__" : Str))=false:=by decide)
 (he:starEach (e::es) X.env=(false,eval e X.env)::starEach es X.env:=by rfl) (iq:(backTo pos (starEach es X.env)).any (·.1)=false:=by rfl):PE X (.Call (.Name x p) (e::es) [] pos) (Cm r t):=by
 intro pins s σ H Q I h
 refine wpAny_Call_Name_kw (eJ I hg hm hv ?_ hn nq)
 exact PyProof.Rows.callWith_type1 (aE (ha pos pins s σ H _ I h) λus s1 ⟨vs,H1,I1,r1,q1⟩=>hc pins s1 σ H1 vs us Q I1 r1 q1) he iq
end
end L2
namespace L2
open PySem PySem.Spec PyProof.Rows
section
variable {κ:Type}[DecidableEq κ]
def bj (kvs:List (κ×V)) (k:κ):Option V:=(kvs.find? λkv=>decide (kv.1=k)).map (·.2)
def putK (kvs:List (κ×V)) (k:κ) (v:V):List (κ×V):=
 if (kvs.any λkv=>decide (kv.1=k))=true then kvs.map (λkv=>if kv.1=k then (kv.1,v) else kv) else kvs++[(k,v)]
theorem b0 {p:κ×V}{r:List (κ×V)}{k:κ}(e:p.1=k):bj (p::r) k=some p.2:=by simp [bj,List.find?_cons,e]
theorem bX {p:κ×V}{r:List (κ×V)}{k:κ}(e:¬ p.1=k):bj (p::r) k=bj r k:=by simp [bj,List.find?_cons,e]
theorem jz (k:κ):∀kvs:List (κ×V),(kvs.any λkv=>decide (kv.1=k))=(bj kvs k).isSome
 | []=>rfl
 | p::r=>by
  rw [List.any_cons]
  by_cases e:p.1=k
  . simp only [b0 e,decide_eq_true e,Bool.true_or,Option.isSome_some]
  . rw [bX e,decide_eq_false e,Bool.false_or]; exact jz k r
theorem lX (k j:κ) (y:V):∀kvs:List (κ×V),bj kvs k=none->bj (kvs++[(k,y)]) j=if j=k then some y else bj kvs j
 | [],_=>by
  by_cases e:k=j
  . rw [if_pos e.symm]; exact b0 (p:=(k,y)) e
  . rw [if_neg (λz=>e z.symm)]; exact bX (p:=(k,y)) e
 | p::r,hn=>by
  rw [List.cons_append]
  have hk:¬ p.1=k:=λz=>by rw [b0 z] at hn; cases hn
  rw [bX hk] at hn
  have ih:=lX k j y r hn
  by_cases e:p.1=j
  . rw [b0 e,b0 e,if_neg (λz=>hk (e.trans z))]
  . rw [bX e,bX e,ih]
theorem eG (kvs:List (κ×V)) (k:κ) (v:V):(putK kvs k v).length<=kvs.length+1:=by
 unfold putK
 split
 . rw [List.length_map]; omega
 . rw [List.length_append,List.length_cons,List.length_nil]; omega
theorem jA {kvs:List (κ×V)}{k:κ}(v:V) (h:bj kvs k=none):putK kvs k v=kvs++[(k,v)]:=by
 unfold putK
 rw [jz,h]
 exact if_neg (by decide)
theorem cB.sM {o:Option V}{u:Option Value}(r:cB o u):o.isSome=u.isSome:=by
 cases o with
 | none=>cases u with
  | none=>rfl
  | some _=>exact (show False from r).elim
 | some _=>cases u with
  | none=>exact (show False from r).elim
  | some _=>rfl
theorem cB.getD {o:Option V}{u:Option Value}{d:V}{d':Value}(r:cB o u) (rd:RelV d d'):RelV (o.getD d) (u.getD d'):=by
 cases o with
 | none=>cases u with
  | none=>exact rd
  | some _=>exact (show False from r).elim
 | some _=>cases u with
  | none=>exact (show False from r).elim
  | some _=>exact r
theorem KV.val {kvs:List (κ×V)}{vs:List (κ×Value)}(r:KV kvs vs) (k:κ):cB (bj kvs k) (valueAt vs k):=by
 unfold KV at r
 induction r with
 | nil=>exact True.intro
 | @cons p q ps qs h t ih=>
  obtain ⟨h1,h2⟩:=h
  by_cases e:p.1=k
  . have e':q.1=k:=h1.symm.trans e
    have b:valueAt (q::qs) k=some q.2:=by simp [valueAt,List.find?_cons,e']
    rw [b0 e,b]; exact h2
  . have e':¬ q.1=k:=λz=>e (h1.trans z)
    have b:valueAt (q::qs) k=valueAt qs k:=by simp [valueAt,List.find?_cons,e']
    rw [bX e,b]; exact ih
theorem KV.any {kvs:List (κ×V)}{vs:List (κ×Value)}(r:KV kvs vs) (k:κ):(kvs.any λkv=>decide (kv.1=k))=vs.any λkv=>decide (kv.1=k):=by
 unfold KV at r
 induction r with
 | nil=>rfl
 | cons h t ih=>rw [List.any_cons,List.any_cons,ih,h.1]
theorem KV.uV {kvs:List (κ×V)}{vs:List (κ×Value)}(r:KV kvs vs) (k:κ){y:V}{u:Value}(ry:RelV y u) :
 KV (kvs.map λkv=>if kv.1=k then (kv.1,y) else kv) (vs.map λkv=>if kv.1=k then (kv.1,u) else kv):=by
 unfold KV at r ⊢
 induction r with
 | nil=>exact .nil
 | @cons p q ps qs h t ih=>
  rw [List.map_cons,List.map_cons]
  refine .cons ?_ ih
  obtain ⟨h1,h2⟩:=h
  by_cases e:p.1=k
  . rw [if_pos e,if_pos (h1.symm.trans e)]; exact ⟨h1,ry⟩
  . rw [if_neg e,if_neg (λz=>e (h1.trans z))]; exact ⟨h1,h2⟩
theorem KV.put {kvs:List (κ×V)}{vs:List (κ×Value)}(r:KV kvs vs) (k:κ){y:V}{u:Value}(ry:RelV y u):KV (putK kvs k y) (stored vs k u):=by
 unfold putK stored
 rw [r.any k]
 by_cases e:(vs.any λkv=>decide (kv.1=k))=true
 . rw [if_pos e,if_pos e]; exact r.uV k ry
 . rw [if_neg e,if_neg e]; exact Paired.snoc r ⟨rfl,ry⟩
theorem KV.length {kvs:List (κ×V)}{vs:List (κ×Value)}(r:KV kvs vs):kvs.length=vs.length:=Paired.length r
end
theorem i7 {P:Program}{w:World}{k:Key}{u:Value}(r:RelV (kV k) u):(bc P w).is k u=true:=by
 cases k with
 | inl i=>obtain ⟨t,e⟩:=(show ∃t,u=Value.int i t from r); subst e; exact o8 P w i t
 | inr x=>obtain ⟨t,e⟩:=(show ∃t,u=Value.str x t from r); subst e; exact o9 P w x t
theorem lY {P:Program}{w:World} : ∀{ks:List Key}{us:List Value},Vals (ks.map kV) us->ItemsAre (bc P w) ks us
 | [],_,r=>by rw [List.map_nil] at r; cases r; exact .nil
 | k::ks,_,r=>by
  rw [List.map_cons] at r
  cases r with
  | cons h t=>exact .cons (i7 h) (lY t)
abbrev KT (H:Hp):List (List Key×V)->List (List Key×Addr×Value)->Prop:=Paired λp q=>p.1=q.1/\H q.2.1=some (.tup (p.1.map kV))/\RelV p.2 q.2.2
theorem KT.val {H:Hp}{kvs:List (List Key×V)}{xs:List (List Key×Addr×Value)}(r:KT H kvs xs) (k:List Key):cB (bj kvs k) ((atKey xs k).map (·.2)):=by
 induction r with
 | nil=>exact True.intro
 | @cons p q ps qs h t ih=>
  obtain ⟨h1,_,h2⟩:=h
  by_cases e:p.1=k
  . have e':q.1=k:=h1.symm.trans e
    have b:atKey (q::qs) k=some q.2:=by simp [atKey,List.find?_cons,e']
    rw [b0 e,b]; exact h2
  . have e':¬ q.1=k:=λz=>e (h1.trans z)
    have b:atKey (q::qs) k=atKey qs k:=by simp [atKey,List.find?_cons,e']
    rw [bX e,b]; exact ih
theorem KT.uV {H:Hp}{kvs:List (List Key×V)}{xs:List (List Key×Addr×Value)}(r:KT H kvs xs) (k:List Key){y:V}{u:Value}(ry:RelV y u) :
 KT H (kvs.map λkv=>if kv.1=k then (kv.1,y) else kv) (xs.map (putAt k u)):=by
 induction r with
 | nil=>exact .nil
 | @cons p q ps qs h t ih=>
  rw [List.map_cons,List.map_cons]
  refine .cons ?_ ih
  obtain ⟨h1,h2,h3⟩:=h
  unfold putAt
  by_cases e:p.1=k
  . rw [if_pos e,if_pos (h1.symm.trans e)]; exact ⟨h1,h2,ry⟩
  . rw [if_neg e,if_neg (λz=>e (h1.trans z))]; exact ⟨h1,h2,h3⟩
theorem KT.put {H:Hp}{kvs:List (List Key×V)}{xs:List (List Key×Addr×Value)}(r:KT H kvs xs) (k:List Key){b:Addr}{y:V}{u:Value}(hb:H b=some (.tup (k.map kV))) (ry:RelV y u) :
 KT H (putK kvs k y) (storedH xs k b u):=by
 have e:(kvs.any λkv=>decide (kv.1=k))=(atKey xs k).isSome:=by
  rw [jz,(r.val k).sM,Option.isSome_map]
 unfold putK storedH
 rw [e]
 by_cases q:(atKey xs k).isSome=true
 . rw [if_pos q,if_pos q]; exact r.uV k ry
 . rw [if_neg q,if_neg q]; exact Paired.snoc r ⟨rfl,hb,ry⟩
theorem KT.keeps {H H':Hp}{kvs:List (List Key×V)}{xs:List (List Key×Addr×Value)}(r:KT H kvs xs) (ht:∀b ys,H b=some (.tup ys)->H' b=some (.tup ys)):KT H' kvs xs:=
 Paired.gW r λ_ _ z=>⟨z.1,ht _ _ z.2.1,z.2.2⟩
section
variable {P:Program}{w:World}{H:Hp}{h:Heap}{a:Addr}
theorem vQ {u:HO}(ok:cb P w H h) (e:Rd H a u):aT P w H h a u:=e.ok ok
theorem j4 {kvs:List (Key×V)}(ok:cb P w H h) (e:Rd H a (.dK kvs)):kvs.length<=sizeLine/\(a == sysModules)=false/\∃vs,KV kvs vs/\h.DictOf (bc P w) a vs:=
 show aT P w H h a (.dK kvs) from vQ ok e
theorem vR {kvs:List (Key×V)}(ok:cb P w H h) (e:H a=some (.dK kvs)):kvs.length<=sizeLine/\(a == sysModules)=false/\∃vs,KV kvs vs/\h.DictOf (bc P w) a vs:=j4 ok (.inl e)
theorem j5 {ks:List Key}(ok:cb P w H h) (e:H a=some (.tup (ks.map kV))):(tupleKind (bc P w)).is h ks a:=by
 obtain ⟨_,its,r,o,h1,h2,n,h3⟩:=(show aT P w H h a (.tup (ks.map kV)) from ok a _ e)
 exact ⟨o,its.toArray,n,h1,h2,h3,by simpa using lY r⟩
theorem j6 {kvs:List (List Key×V)}(ok:cb P w H h) (e:Rd H a (.dT kvs)):kvs.length<=sizeLine/\(a == sysModules)=false/\
 ∃xs,KT H kvs xs/\h.DictOfH (tupleKind (bc P w)) a xs:=by
 obtain ⟨z,y,xs,r,o,es,ep,h1,h2,h3,h4,h5⟩:=(show aT P w H h a (.dT kvs) from vQ ok e)
 refine ⟨z,y,xs,r,o,es,ep,h1,h2,h3,h4,λx hx=>?_,h5⟩
 have all:∀{l:List (List Key×V)}{m:List (List Key×Addr×Value)},KT H l m->∀x∈m,(tupleKind (bc P w)).is h x.1 x.2.1:=by
  intro l m q
  induction q with
  | nil=>intro x hx; exact nomatch hx
  | @cons p q ps qs hq t ih=>
   intro x hx
   rcases List.mem_cons.mp hx with e | hx
   . subst e
     exact j5 ok (by rw [← hq.1]; exact hq.2.1)
   . exact ih x hx
 exact all r x hx
theorem AR {kvs:List (List Key×V)}(ok:cb P w H h) (e:H a=some (.dT kvs)):kvs.length<=sizeLine/\(a == sysModules)=false/\
 ∃xs,KT H kvs xs/\h.DictOfH (tupleKind (bc P w)) a xs:=j6 ok (.inl e)
end
def eg (H:Hp) (a:Addr) (y:V) (r:Option V):Prop:=
 (∃kvs k,Rd H a (.dK kvs)/\y=kV k/\r=bj kvs k)\/∃kvs k b,Rd H a (.dT kvs)/\y=.ref b/\H b=some (.tup (k.map kV))/\r=bj kvs k
def g0 (H:Hp) (a:Addr) (y v:V) (H':Hp):Prop:=
 (∃kvs k,H a=some (.dK kvs)/\y=kV k/\kvs.length<sizeLine/\H'=upd H a (.dK (putK kvs k v)))\/
 ∃kvs k b,H a=some (.dT kvs)/\y=.ref b/\H b=some (.tup (k.map kV))/\kvs.length<sizeLine/\H'=upd H a (.dT (putK kvs k v))
theorem eg.k {H:Hp}{a:Addr}{kvs:List (Key×V)}{k:Key}(e:H a=some (.dK kvs)):eg H a (kV k) (bj kvs k):=.inl ⟨kvs,k,.inl e,rfl,rfl⟩
theorem eg.t {H:Hp}{a b:Addr}{kvs:List (List Key×V)}{k:List Key}(e:H a=some (.dT kvs)) (eb:H b=some (.tup (k.map kV))):eg H a (.ref b) (bj kvs k):=.inr ⟨kvs,k,b,.inl e,rfl,eb,rfl⟩
theorem g0.k {H:Hp}{a:Addr}{kvs:List (Key×V)}{k:Key}{v:V}(e:H a=some (.dK kvs)) (hl:kvs.length<sizeLine):g0 H a (kV k) v (upd H a (.dK (putK kvs k v))):=.inl ⟨kvs,k,e,rfl,hl,rfl⟩
theorem g0.t {H:Hp}{a b:Addr}{kvs:List (List Key×V)}{k:List Key}{v:V}(e:H a=some (.dT kvs)) (eb:H b=some (.tup (k.map kV))) (hl:kvs.length<sizeLine) :
 g0 H a (.ref b) v (upd H a (.dT (putK kvs k v))):=.inr ⟨kvs,k,b,e,rfl,eb,hl,rfl⟩
section
variable {X:Cx}{pins:List (Addr×Obj)}{σ:St}{H:Hp}{s:Shared}{a:Addr}{y v:V}{u r:Value}{o:Option V}{A:Around}{E:Value->Shared->Prop}
theorem Inv.big (I:Inv X pins σ H s):sysModules<s.heap.objs.size:=by
 have h:mainGlobals<s.heap.objs.size:=(I.mod.glob.keeps I.bk).lt
 exact Nat.lt_trans (by decide) h
theorem sN {Q:Value->Shared->Prop}(hu:A.units+1<cLine) (I:Inv X pins σ H s) (g:eg H a y (some v)) (ry:RelV y u) (h:∀w' s',Inv X pins σ H s'->RelV v w'->Q w' s') :
 wpAny (model X.prog X.w) A (getItem (.ref a) u) Q E s:=by
 rcases g with ⟨kvs,k,e,ey,l⟩ | ⟨kvs,k,b,e,ey,eb,l⟩
 . subst ey
   obtain ⟨z,hd,vs,rel,dd⟩:=j4 I.hok e
   obtain ⟨w',hw,iK⟩:=cB.some_of (v:=v) (o:=valueAt vs k) (by rw [l]; exact rel.val k)
   exact wpAny_getItem_of (i7 ry) dd.mapOf hw (h w' _ (I.tok _) iK)
 . subst ey
   cases (show u=Value.ref b from ry)
   obtain ⟨z,hd,xs,rel,dd⟩:=j6 I.hok e
   obtain ⟨w',hw,iK⟩:=cB.some_of (v:=v) (o:=(atKey xs k).map (·.2)) (by rw [l]; exact rel.val k)
   obtain ⟨p,hp,iL⟩:=Option.map_eq_some_iff.mp hw
   refine wpAny_getItem_heap (tupleKind_room_in1 hu) (j5 I.hok eb) dd hp ?_
   rw [iL]
   exact h w' _ (I.tok _) iK
theorem i8 {h':Heap}{t':Nat}{ob:HO}(I:Inv X pins σ H s) (mu:rT (H a)) (hs:Heap.SameBut a s.heap h') (he:∃q,h'.get? a=some q) (new:aT X.prog X.w (upd H a ob) h' a ob) :
 Inv X pins σ (upd H a ob) { s with heap:=h',toks:=t' } :=
 I.write (x:=a) (e:=a) mu (.inl rfl) (λb q hb z=>(hs.2 b hb).trans z) he new
theorem nt {P:Program}{w:World}{H':Hp}{h':Heap}{kvs:List (Key×V)}{vs:List (Key×Value)}(z:kvs.length<=sizeLine) (hd:(a == sysModules)=false) (rel:KV kvs vs) (dd:h'.DictOf (bc P w) a vs) :
 aT P w H' h' a (.dK kvs):=⟨z,hd,vs,rel,dd⟩
theorem sO {H':Hp}{Q:Unit->Shared->Prop}(hu:A.units+1<cLine) (I:Inv X pins σ H s) (g:g0 H a y v H') (ry:RelV y u) (rv:RelV v r) (h:∀s',Inv X pins σ H' s'->Q () s') :
 wpAny (model X.prog X.w) A (setItem (.ref a) u r) Q E s:=by
 rcases g with ⟨kvs,k,e,ey,l,eH⟩ | ⟨kvs,k,b,e,ey,eb,l,eH⟩
 . subst ey eH
   obtain ⟨z,hd,vs,rel,dd⟩:=vR I.hok e
   have hz:vs.length<=sizeLine:=by rw [← rel.length]; exact z
   have hl:(putK kvs k v).length<=sizeLine:=by have:=eG kvs k v; omega
   refine wpAny_setItem_pairs (hsz:=hz) (i7 ry) dd λh' j7 hs=>h _ ?_
   have he:∃q,h'.get? a=some q:=let ⟨q,_,_,hq,_⟩:=j7; ⟨q,hq⟩
   exact i8 I (by rw [e]; exact True.intro) hs he (nt hl hd (rel.put k rv) j7)
 . subst ey eH
   cases (show u=Value.ref b from ry)
   obtain ⟨z,hd,xs,rel,dd⟩:=AR I.hok e
   have hz:xs.length<=sizeLine:=by rw [← Paired.length rel]; exact z
   have hl:(putK kvs k v).length<=sizeLine:=by have:=eG kvs k v; omega
   refine wpAny_setItem_heap (hsz:=hz) (tupleKind_room_in1 hu) (j5 I.hok eb) dd λh' j7 hs=>h _ ?_
   obtain ⟨q,es,ep,hq,h2,h3,h4,_,h5⟩:=j7
   refine i8 I (by rw [e]; exact True.intro) hs ⟨q,hq⟩ ⟨hl,hd,_,(rel.put k eb rv).keeps λc ys ec=>?_,q,es,ep,hq,h2,h3,h4,h5⟩
   rw [ai (cC ec e (λz=>nomatch z))]
   exact ec
end
section
variable {X:Cx}{pins:List (Addr×Obj)}{σ:St}{H:Hp}{s:Shared}{a:Addr}{kvs:List (Key×V)}{k:Key}{u:Value}{A:Around}{E:Value->Shared->Prop}
end
def yb (i:Expr):Prop:=∀ov iv,subscripted i false ov iv=operate [ov,iv] (getItem ov iv)
theorem xa {prog:Program}{w:World}{A:Around}{E:Value->Shared->Prop}{s:Shared}{env:Env}{value slice:Expr}{pos:Pos}{T id:String}{Q:Value->Shared->Prop}
 (hl:typeLookup (.type T) "__getitem__" = pure (some (.builtin id))) (hs:yb slice)
 (h:wpAny (model prog w) A (eval value env) (λo bw=>wpAny (model prog w) A (eval slice env) (λi lu=>lu.TypeIs o T/\wpAny (model prog w) A (getItem o i) Q E lu) E bw) E s) :
 wpAny (model prog w) A (eval (.Subscript value slice pos) env) Q E s:=by
 refine Subscript_ (wpAny_mono h (λo bw g6=>wpAny_mono g6 (λi lu nu=>?_) λ_ _ x=>x) λ_ _ x=>x)
 obtain ⟨hT,nu⟩:=nu
 unfold subscriptTail
 refine wpAny_bind ?_
 rw [getitemInPython_of_ne hT.not_modules]
 refine wpAny_bind (wpAny_specialOf hT hl ?_)
 have fin:wpAny (model prog w) A (subscripted slice false o i) (λr xb=>wpAny (model prog w) A (letTemporaryGo value o r >>= λ_=>pure r) Q E xb) E lu:=by
  rw [hs o i]
  exact wpAny_operating (wpAny_mono nu (λr xb qP=>wpAny_bind (wpAny_letTemporaryGo (wpAny_pure qP))) λ_ _ x=>x)
 first
  | exact wpAny_pure (wpAny_bind fin)
  | exact wpAny_bind (wpAny_pure (wpAny_bind fin))
  | exact wpAny_bind fin
theorem pb {X:Cx}{pins:List (Addr×Obj)}{σ:St}{H:Hp}{s:Shared}{a:Addr}{y:V}{o:Option V}(I:Inv X pins σ H s) (g:eg H a y o):s.TypeIs (.ref a) "dict":=by
 rcases g with ⟨kvs,k,e,_,_⟩ | ⟨kvs,k,b,e,_,_,_⟩
 . obtain ⟨_,_,vs,_,dd⟩:=j4 I.hok e
   exact dd.typeIs
 . obtain ⟨_,_,xs,_,dd⟩:=j6 I.hok e
   exact dd.typeIs
def AS (td ty:TE):TE:=λσ H Q=>td σ H λx H1=>ty σ H1 λy H2=>∃a v,x=.ref a/\eg H2 a y (some v)/\Q v H2
def AU (td ty tv:TE):TS:=λD σ H=>tv σ H λv H1=>td σ H1 λx H2=>ty σ H2 λy H3=>∃a H4,x=.ref a/\g0 H3 a y v H4/\D.nx σ H4
section
variable {X:Cx}{o i e value:Expr}{pos pos' Et:Pos}{td ty tv:TE}
theorem xc (hu:X.A.units+1<cLine) (ho:PE X o td) (hi:PE X i ty) (hs:yb i):PE X (.Subscript o i pos) (AS td ty):=by
 intro pins s σ H Q I h
 refine xa PySem.F.slot_dict_getitem.lookup hs (aE (ho pins s σ H _ I h) λu s1 ⟨x,H1,I1,rx,q1⟩=>aE (hi pins s1 σ H1 _ I1 q1) λiv s2 ⟨y,H2,I2,ry,a,v,ex,g,q2⟩=>?_)
 subst ex
 obtain rfl:u=Value.ref a:=rx
 exact ⟨pb I2 g,sN hu I2 g ry λw' s3 I3 iK=>⟨v,H2,I3,iK,q2⟩⟩
theorem lz (hu:X.A.units+1<cLine) (ho:PE X o td) (hi:PE X i ty) (hv:PE X value tv) (hs:swapsWith value (some (.Subscript o i pos')) pos.line X.env=pure false) :
 PS X (.Assign [.Subscript o i pos'] value pos) (AU td ty tv):=by
 intro pins s σ H D I h
 refine wpAny_Assign_Subscript (aE (hv pins s σ H _ I h) λr s1 ⟨v,H1,I1,rv,q1⟩=>aE (ho pins s1 σ H1 _ I1 q1) λu s2 ⟨x,H2,I2,rx,q2⟩=>aE (hi pins s2 σ H2 _ I2 q2) λiv s3 ⟨y,H3,I3,ry,a,H4,ex,g,q3⟩=>?_) hs
 subst ex
 obtain rfl:u=Value.ref a:=rx
 exact sO hu I3 g ry rv λs4 I4=>⟨σ,H4,I4,q3⟩
end
theorem uW {P:Program}{w:World}{H:Hp}(h:Heap) (hb:sysModules<h.objs.size):aT P w H (h.push { cls:=.type "dict",data:=.dict #[] }) h.objs.size (.dK []):=
 ⟨Nat.zero_le _,beq_eq_false_iff_ne.mpr (Ne.symm (Nat.ne_of_lt hb)),[],.nil,Heap.DictOf.new h⟩
theorem uX {P:Program}{w:World}{H:Hp}(h:Heap) (hb:sysModules<h.objs.size):aT P w H (h.push { cls:=.type "dict",data:=.dict #[] }) h.objs.size (.dT []):=
 ⟨Nat.zero_le _,beq_eq_false_iff_ne.mpr (Ne.symm (Nat.ne_of_lt hb)),[],.nil,_,#[],0,Heap.get?_push_size _ rfl,⟨rfl,rfl,rfl⟩,rfl,rfl,List.nodup_nil⟩
def yc:TE:=λ_ H Q=>∀p,H p=none->Q (.ref p) (upd H p (.dT []))
section
variable {X:Cx}{pos:Pos}
theorem nv:PE X (.Dict [] [] pos) yc:=λpins s σ H Q I h=>
 wpAny_Dict_empty ⟨.ref s.heap.objs.size,_,I.laid (a:=s.heap.objs.size) (o:=.dT []) (t':=s.toks) (λ_ _ q=>Heap.get?_push_of_some _ q) (Nat.le_refl _) (uX s.heap I.big),rfl,h _ (I.hok.fresh (Nat.le_refl _))⟩
end
def ny:List (TE×TE)->St->Hp->(List (V×V)->Hp->Prop)->Prop
 | [],_,H,Q=>Q [] H
 | (tk,tv)::r,σ,H,Q=>tk σ H λx H1=>tv σ H1 λy H2=>ny r σ H2 λps H3=>Q ((x,y)::ps) H3
abbrev VV:List (V×V)->List (Value×Value)->Prop:=Paired λp q=>RelV p.1 q.1/\RelV p.2 q.2
def vS (X:Cx) (pos:Pos) (keys:List (Option Expr)) (values:List Expr) (j8:List (TE×TE)):Prop:=
 ∀(pins:List (Addr×Obj)) (s:Shared) (σ:St) (H:Hp) (Q:List (V×V)->Hp->Prop),Inv X pins σ H s->ny j8 σ H Q->
  wpAny (model X.prog X.w) X.A (evalPairs (pairTrees keys values X.env pos)) (λvs s'=>∃ps H',Inv X pins σ H' s'/\VV ps vs/\Q ps H') X.xe s
theorem xf {X:Cx}{pos:Pos} : vS X pos [] [] []:=λpins s σ H Q I h=>pairTrees_nil_walk ⟨[],H,I,.nil,h⟩
theorem nz {X:Cx}{pos:Pos}{k v:Expr}{ks:List (Option Expr)}{vs:List Expr}{tk tv:TE}{j8:List (TE×TE)}(hk:PE X k tk) (hv:PE X v tv) (hr:vS X pos ks vs j8) :
 vS X pos (some k::ks) (v::vs) ((tk,tv)::j8):=λpins s σ H Q I h=>
 pairTrees_cons_walk (aE (hk pins s σ H _ I h) λu s1 ⟨x,H1,I1,rx,q1⟩=>aE (hv pins s1 σ H1 _ I1 q1) λw2 s2 ⟨y,H2,I2,ry,q2⟩=>
  aE (hr pins s2 σ H2 _ I2 q2) λws s3 ⟨ps,H3,I3,rel,q3⟩=>⟨(x,y)::ps,H3,I3,.cons ⟨rx,ry⟩ rel,q3⟩)
def cV (kvs more:List (Key×V)):List (Key×V):=more.foldl (λacc kv=>putK acc kv.1 kv.2) kvs
theorem KV.merge:∀{more:List (Key×V)}{rs:List (Key×Value)}{kvs:List (Key×V)}{vs:List (Key×Value)},KV more rs->KV kvs vs->KV (cV kvs more) (merged vs rs):=by
 intro more rs kvs vs r
 unfold KV at r
 induction r generalizing kvs vs with
 | nil=>intro q; exact q
 | @cons p q ps qs h t ih=>
  intro r0
  have e:KV (putK kvs p.1 p.2) (stored vs q.1 q.2):=by
   have:=r0.put p.1 h.2
   rw [← h.1]; exact this
  exact ih e
theorem eV:∀(more kvs:List (Key×V)),(cV kvs more).length<=kvs.length+more.length
 | [],kvs=>by show kvs.length<=kvs.length+0; omega
 | p::r,kvs=>by
  have h1:=eV r (putK kvs p.1 p.2)
  have h2:=eG kvs p.1 p.2
  show (cV (putK kvs p.1 p.2) r).length<=_
  rw [List.length_cons]; omega
theorem j9 {P:Program}{w:World} : ∀{kvs:List (Key×V)}{ws:List (Value×Value)},VV (kvs.map λkv=>(kV kv.1,kv.2)) ws->∃rs,Carries (bc P w) ws rs/\KV kvs rs
 | [],_,r=>by rw [List.map_nil] at r; cases r; exact ⟨[],True.intro,.nil⟩
 | p::kvs,_,r=>by
  rw [List.map_cons] at r
  cases r with
  | @cons a b as bs h t=>
   obtain ⟨rs,c,q⟩:=j9 (P:=P) (w:=w) t
   obtain ⟨b1,b2⟩:=b
   exact ⟨(p.1,b2)::rs,⟨i7 h.1,rfl,c⟩,.cons ⟨rfl,h.2⟩ q⟩
def AV (j8:List (TE×TE)):TE:=λσ H Q=>∀p,H p=none->ny j8 σ (upd H p (.dK [])) λps H2=>H2 p=some (.dK [])/\∃kvs:List (Key×V),ps=kvs.map (λkv=>(kV kv.1,kv.2))/\kvs.length<=15/\Q (.ref p) (upd H2 p (.dK (cV [] kvs)))
theorem xg {X:Cx}{pos:Pos}{keys:List (Option Expr)}{values:List Expr}{j8:List (TE×TE)}(h:vS X pos keys values j8) (jB:keys.all (·.isSome)=true) (hl:keys.length=values.length) (h0:keys≠[])
 (G6:keys.length<=15):PE X (.Dict keys values pos) (AV j8):=by
 intro pins s σ H Q I q
 have hn:=I.hok.fresh (Nat.le_refl s.heap.objs.size)
 have I1:=I.laid (a:=s.heap.objs.size) (o:=.dK []) (h':=s.heap.push { cls:=.type "dict",data:=.dict #[] }) (t':=s.toks) (λ_ _ q=>Heap.get?_push_of_some _ q) (Nat.le_refl _) (uW s.heap I.big)
 refine wpAny_Dict_walk (knd:=bc X.prog X.w) jB hl h0 G6 (aE (h pins _ σ _ _ I1 (q _ hn)) λws s2 ⟨ps,H2,I2,rel,e,kvs,ep,lk,q2⟩=>?_)
 subst ep
 obtain ⟨rs,c,rk⟩:=j9 (P:=X.prog) (w:=X.w) rel
 obtain ⟨z,hd,LA,r0,dd⟩:=vR I2.hok e
 cases r0
 refine ⟨rs,c,dd,λh' j7 hs=>⟨.ref s.heap.objs.size,_,?_,rfl,q2⟩⟩
 have hz:(cV [] kvs).length<=sizeLine:=by
  have h1:=eV kvs []
  rw [List.length_nil] at h1
  rw [sizeLine_eq]; omega
 have he:∃q,h'.get? s.heap.objs.size=some q:=let ⟨q,_,_,hq,_⟩:=j7; ⟨q,hq⟩
 exact i8 I2 (by rw [e]; exact True.intro) hs he (nt hz hd (rk.merge .nil) j7)
structure M1 (X:Cx) (o:Expr) (m:Str) (apos:Pos) (e:Expr) (cO:Pos):Prop where
 base:attributeBase o m X.env (eval o X.env)=eval o X.env
 ka:((backTo cO (starEach [e] X.env)).all (λx=>!x.1) && (backToKw cO (keywordEach [] X.env)).all (λx=>x.1.isSome)
  && decide (([e]:List Expr).length+([]:List Keyword).length+(if ([]:List Keyword).isEmpty then 0 else 1)<30))=true
 line:(apos.endLine == cO.line)=true
 trees:backTo cO (starEach [e] X.env)=[(false,eval e X.env)]
def Cn (H:Hp) (a:Addr):Prop:=(∃kvs,Rd H a (.dK kvs))\/∃kvs,Rd H a (.dT kvs)
theorem yd {X:Cx}{pins:List (Addr×Obj)}{σ:St}{H:Hp}{s:Shared}{a:Addr}(I:Inv X pins σ H s) (d:Cn H a) :
 s.TypeIs (.ref a) "dict" /\ (∀b,Value.ref a=.ref b->∃ob,s.heap.get? b=some ob/\ob.dict=none)/\(a == sysModules)=false:=by
 rcases d with ⟨kvs,e⟩ | ⟨kvs,e⟩
 . obtain ⟨_,hd,vs,_,dd⟩:=j4 I.hok e
   refine ⟨dd.typeIs,λb q=>?_,hd⟩
   cases q
   obtain ⟨ob,_,_,h1,h2,_⟩:=dd
   exact ⟨ob,h1,h2.2.1⟩
 . obtain ⟨_,hd,xs,_,dd⟩:=j6 I.hok e
   refine ⟨dd.typeIs,λb q=>?_,hd⟩
   cases q
   obtain ⟨ob,_,_,h1,h2,_⟩:=dd
   exact ⟨ob,h1,h2.2.1⟩
section
variable {X:Cx}{pins:List (Addr×Obj)}{σ:St}{H:Hp}{s:Shared}{a:Addr}{y d:V}{u r:Value}{o:Option V}{A:Around}{E:Value->Shared->Prop}
theorem ye {Q:Value->Shared->Prop}(hu:A.units+1<cLine) (I:Inv X pins σ H s) (g:eg H a y o) (ry:RelV y u) (h:∀w' s',Inv X pins σ H s'->RelV (o.getD .aR) w'->Q w' s') :
 wpAny (model X.prog X.w) A (call (.builtin "dict.get") [.ref a,u]) Q E s:=by
 rcases g with ⟨kvs,k,e,ey,l⟩ | ⟨kvs,k,b,e,ey,eb,l⟩
 . subst ey
   obtain ⟨z,hd,vs,rel,dd⟩:=j4 I.hok e
   refine call_meetsIn PySem.F.slot_dict_get dd.typeIs PySem.F.entry_dict_get (PySem.F.args_dict_get_2 _ _) (meets_dict_get (bc X.prog X.w) a (i7 ry) hd) ⟨_,dd.mapOf,h _ _ (I.tok _) ?_⟩
   rw [l]
   exact (rel.val k).getD rfl
 . subst ey
   cases (show u=Value.ref b from ry)
   obtain ⟨z,hd,xs,rel,dd⟩:=j6 I.hok e
   refine call_meetsIn PySem.F.slot_dict_get dd.typeIs PySem.F.entry_dict_get (PySem.F.args_dict_get_2 _ _) (meetsH_dict_get (tupleKind (bc X.prog X.w)) a b hd) ⟨tupleKind_room_in1 hu,k,xs,j5 I.hok eb,dd,h _ _ (I.tok _) ?_⟩
   rw [l]
   exact (rel.val k).getD rfl
end
def yf (td ty:TE):TE:=λσ H Q=>td σ H λx H1=>∃a,x=.ref a/\Cn H1 a/\ty σ H1 λy H2=>∃o,eg H2 a y o/\Q (o.getD .aR) H2
section
variable {X:Cx}{o e f:Expr}{apos cO:Pos}{td ty tx:TE}
theorem jC (hu:X.A.units+1<cLine) (ho:PE X o td) (he:PE X e ty) (m:M1 X o "get" apos e cO):PE X (.Call (.Attribute o "get" apos) [e] [] cO) (yf td ty):=by
 intro pins s σ H Q I h
 refine wpAny_Call_method m.base m.ka m.line PySem.F.plainAttrs_dict PySem.F.slot_dict_get PySem.F.type_dict_get (aE (ho pins s σ H _ I h) λu s1 ⟨x,H1,I1,rx,a,ex,d,q1⟩=>?_)
 subst ex
 obtain rfl:u=Value.ref a:=rx
 obtain ⟨t1,t2,_⟩:=yd I1 d
 refine ⟨t1,t2,?_⟩
 rw [m.trees]
 refine Calls.callWith_builtin rfl (Calls.evalArgs_plain (Calls.spliced_cons (aE (he pins s1 σ H1 _ I1 q1) λiv s2 ⟨y,H2,I2,ry,ov,g,q2⟩=>Calls.spliced_nil ?_)))
 exact ye hu I2 g ry λw' s3 I3 iK=>⟨_,H2,I3,iK,q2⟩
end
section
variable {X:Cx}{pins:List (Addr×Obj)}{σ:St}{H:Hp}{s:Shared}{a:Addr}{kvs:List (Key×V)}{A:Around}{E:Value->Shared->Prop}
end
section
variable {X:Cx}{pins:List (Addr×Obj)}{σ:St}{H:Hp}{s:Shared}{a:Addr}{y:V}{u:Value}{A:Around}{E:Value->Shared->Prop}
end
end L2
namespace HT
open PySem PyProof.Rows
section
open PySem.SeqAt
open PySem.AutoSeq1 (wpAny_loadPart')
open PySem.MeetsSeq PySem.MeetsSeq2 PySem.MeetsSeq3
end
section
variable {prog:Program}{w:World}{A:Around}{E:Value->Shared->Prop}{s:Shared}
def eN (n d:Nat):Option Int->Nat
 | none=>d
 | some v=>if v<0 then (v+(n:Int)).toNat else min v.toNat n
theorem nB (n d:Nat):eN n d none=d:=rfl
theorem pN (n d k:Nat):eN n d (some (k:Int))=min k n:=by
 show (if (k:Int)<0 then ((k:Int)+(n:Int)).toNat else min (k:Int).toNat n)=min k n
 rw [if_neg (by omega),Int.toNat_natCast]
end
end HT
namespace L2
open PySem PySem.Spec PyProof.Rows
abbrev TO:=St->Hp->(Option Int->Hp->Prop)->Prop
def PO (X:Cx) (e:Option Expr) (t:TO):Prop:=
 ∀(pins:List (Addr×Obj)) (s:Shared) (σ:St) (H:Hp) (Q:Option Int->Hp->Prop),Inv X pins σ H s->t σ H Q->
  wpAny (model X.prog X.w) X.A (evalPart e X.env) (λu s'=>∃o H',Inv X pins σ H' s'/\IsPart u o/\Q o H') X.xe s
def xh:TO:=λ_ H Q=>Q none H
def AW (t:TE):TO:=λσ H Q=>t σ H λx H1=>∃i,x=.int i/\Q (some i) H1
section
variable {X:Cx}{e:Expr}{te:TE}{lo hi:Option Expr}{tl th:TO}{pos p2:Pos}
theorem dv:PO X none xh:=by
 intro pins s σ H Q I h
 rw [evalPart_none]
 exact wpAny_pure ⟨none,H,I,.none,h⟩
theorem cK (h:PE X e te):PO X (some e) (AW te):=by
 intro pins s σ H Q I hw
 rw [evalPart_some]
 refine aE (h pins s σ H _ I hw) λu s1 ⟨x,H1,I1,r1,q1⟩=>?_
 obtain ⟨i,rfl,q⟩:=q1
 obtain ⟨t,rfl⟩:=r1
 exact ⟨some i,H1,I1,.int i t,q⟩
def yg (X:Cx) (r:V->Option Int->Option Int->Hp->VK->Prop):Prop:=
 ∀(pins:List (Addr×Obj)) (s:Shared) (σ:St) (H:Hp) (x:V) (v vl vu:Value) (lo hi:Option Int) (sl:Addr) (Q:VK),Inv X pins σ H s->RelV x v->s.heap.IsSliceOf sl vl vu .none->IsPart vl lo->IsPart vu hi->r x lo hi H Q->
  ∃T id,typeLookup (.type T) "__getitem__" = pure (some (.builtin id))/\s.TypeIs v T/\wpAny (model X.prog X.w) X.A (getItem v (.ref sl)) (EP X pins σ Q) X.xe s
def G7 (r:V->Option Int->Option Int->Hp->VK->Prop) (te:TE) (tl th:TO):TE:=λσ H Q=>te σ H λx H1=>tl σ H1 λl H2=>th σ H2 λu H3=>r x l u H3 Q
theorem cF {r:V->Option Int->Option Int->Hp->VK->Prop}(hr:yg X r) (he:PE X e te) (hl:PO X lo tl) (hu:PO X hi th):PE X (.Subscript e (.Slice lo hi none p2) pos) (G7 r te tl th):=by
 intro pins s σ H Q I h
 refine Subscript_ (aE (he pins s σ H _ I h) λv s1 ⟨x,H1,I1,r1,q1⟩=>?_)
 refine wpAny_Slice (aE (hl pins s1 σ H1 _ I1 q1) λvl s2 ⟨l,H2,I2,pl,q2⟩=>aE (hu pins s2 σ H2 _ I2 q2) λvu s3 ⟨u,H3,I3,pu,q3⟩=>?_)
 rw [evalPart_none]
 refine wpAny_pure ?_
 have I4:Inv X pins σ H3 { s3 with heap:=s3.heap.push { cls:=.type "slice",data:=.fields #[vl,vu,.none] } }:=I3.kept (t':=s3.toks) λb ob q=>Heap.get?_push_of_some _ q
 obtain ⟨T,id,hT,ht,hg⟩:=hr pins { s3 with heap:=s3.heap.push { cls:=.type "slice",data:=.fields #[vl,vu,.none] } } σ H3 x v vl vu l u s3.heap.objs.size Q I4 r1 (Heap.IsSliceOf.new ..) pl pu q3
 show wpAny (model X.prog X.w) X.A (subscriptTail e (.Slice lo hi none p2) v (.ref s3.heap.objs.size)) (EP X pins σ Q) X.xe { s3 with heap:=s3.heap.push { cls:=.type "slice",data:=.fields #[vl,vu,.none] } }
 exact tail_any (ops:=[.ref s3.heap.objs.size,v]) ht hT hg (by with_unfolding_all rfl)
def cy (xs:List V) (lo hi:Option Int):List V:=(xs.drop (HT.eN xs.length 0 lo)).take (HT.eN xs.length xs.length hi-HT.eN xs.length 0 lo)
theorem pe (xs:List V) (lo hi:Option Int):(cy xs lo hi).length<=xs.length:=by
 unfold cy
 rw [List.length_take,List.length_drop]
 omega
end
end L2
namespace L2
open PySem PySem.Spec PyProof.Rows
def lZ (n:Nat) (i:Int):Option Nat:=if 0<=i then (if i<n then some i.toNat else none) else if -(n:Int)<=i then some (i+n).toNat else none
def ir {α:Type}(xs:List α) (i:Int):Option α:=(lZ xs.length i).bind λj=>xs[j]?
theorem pO {n:Nat}{i:Int}{j:Nat}(h:lZ n i=some j):seqIndex? i n=some j/\j<n /\ -(n:Int)<=i/\i<n:=by
 unfold lZ at h
 by_cases h0:0<=i
 . rw [if_pos h0] at h
   by_cases h1:i<n
   . rw [if_pos h1] at h
     have e:i.toNat=j:=Option.some.inj h
     exact ⟨by rw [seqIndex_of h0 h1,e],by omega,by omega,h1⟩
   . rw [if_neg h1] at h; cases h
 . rw [if_neg h0] at h
   by_cases h1 : -(n:Int)<=i
   . rw [if_pos h1] at h
     have e:(i+n).toNat=j:=Option.some.inj h
     exact ⟨by rw [seqIndex_neg (by omega) h1,e],by omega,h1,by omega⟩
   . rw [if_neg h1] at h; cases h
theorem lA {α:Type}{xs:List α}{i:Int}{v:α}(h:ir xs i=some v):∃j,seqIndex? i xs.length=some j/\xs[j]?=some v/\j<xs.length /\ -(xs.length:Int)<=i/\i<xs.length:=by
 unfold ir at h
 cases e:lZ xs.length i with
 | none=>rw [e] at h; cases h
 | some j=>
  rw [e] at h
  obtain ⟨h1,h2,h3,h4⟩:=pO e
  exact ⟨j,h1,h,h2,h3,h4⟩
theorem aF {α:Type}{xs:List α}{j:Nat}{v:α}(h:xs[j]?=some v):ir xs (j:Int)=some v:=by
 have hj:j<xs.length:=(List.getElem?_eq_some_iff.mp h).1
 have e:lZ xs.length (j:Int)=some j:=by
  unfold lZ
  rw [if_pos (by omega),if_pos (by omega)]; simp
 unfold ir; rw [e]; exact h
def xi (b:Expr):Prop:=∀o i,subscripted b false o i=operate [o,i] (getItem o i)
def vT (X:Cx) (r:R2):Prop:=
 ∀(value slice:Expr) (pins:List (Addr×Obj)) (s:Shared) (σ:St) (H:Hp) (x y:V) (v u:Value) (Q:VK),Inv X pins σ H s->RelV x v->RelV y u->r x y H Q->
  subscripted slice false v u=operate [v,u] (getItem v u)->wpAny (model X.prog X.w) X.A (subscriptTail value slice v u) (EP X pins σ Q) X.xe s
def G8 (X:Cx) (id:String) (r:V->List V->Hp->VK->Prop):Prop:=
 ∀(pins:List (Addr×Obj)) (s:Shared) (σ:St) (H:Hp) (x:V) (xs:List V) (v:Value) (us:List Value) (Q:VK),Inv X pins σ H s->RelV x v->Vals xs us->r x xs H Q->
  wpAny (model X.prog X.w) X.A (call (.builtin id) (v::us)) (EP X pins σ Q) X.xe s
section
variable {X:Cx}{a b:Expr}{ta tb:TE}{pos:Pos}
theorem aM {r:R2}(hr:vT X r) (ha:PE X a ta) (hb:PE X b tb) (hs:xi b):PE X (.Subscript a b pos) (sq r ta tb):=by
 intro pins s σ H Q I h
 exact Subscript_ (uQ ha hb I h λv u s2 x y H2 I2 rx ry q=>hr a b pins s2 σ H2 x y v u Q I2 rx ry q (hs _ _))
def eu (K:W.Frag):R2:=λx y H Q=>∃p xs i v,x=.ref p/\y=.int i/\ay K H p xs/\ir xs i=some v/\Q v H
def cm (K:W.Frag):R2:=λx y H Q=>∃p xs i v,x=.ref p/\y=.int i/\aY K H p xs/\ir xs i=some v/\Q v H
def Ex:R2:=λx y H Q=>∃z i c,x=.str z/\y=.int i/\z.length<=sizeLine/\ir z.cps.toList i=some c/\Q (.str ⟨#[c]⟩) H
theorem br:vT X (eu X.K):=by
 intro value slice pins s σ H x y v u Q I rx ry h hs
 obtain ⟨p,xs,i,z,rfl,rfl,hq,he,q⟩:=h
 cases rx
 obtain ⟨t,rfl⟩:=ry
 obtain ⟨its,r,pl,hz⟩:=I.list hq
 obtain ⟨j,h1,h2,h3,h4,h5⟩:=lA he
 obtain ⟨w,ew,iK⟩:=r.get h2
 have hl:=r.length
 have hn:=iF
 have fin:EP X pins σ Q w s:=⟨z,H,I,iK,q⟩
 by_cases h0:0<=i
 . have hj:i.toNat=j:=by
    rw [seqIndex_of h0 h5] at h1
    exact Option.some.inj h1
   exact item_listR pl.isList h0 (by omega) (by rw [hj]; simpa using ew) fin hs
 . have hj:(i+(its.toArray.size:Int)).toNat=j:=by
    rw [seqIndex_neg (by omega) h4] at h1
    rw [List.size_toArray,← hl]
    exact Option.some.inj h1
   exact subscriptTail_builtinR (x:=w) pl.isList.typeIs slot_list_getitem.lookup
    (wpAny_getItem_list_neg (Q:=λr s'=>r=w/\EP X pins σ Q r s') pl.isList (by omega) (by rw [List.size_toArray] <;> omega) (by omega) (by rw [hj]; simpa using ew) ⟨rfl,fin⟩) hs
theorem bo:vT X (cm X.K):=by
 intro value slice pins s σ H x y v u Q I rx ry h hs
 obtain ⟨p,xs,i,z,rfl,rfl,hq,he,q⟩:=h
 cases rx
 obtain ⟨t,rfl⟩:=ry
 obtain ⟨its,r,pl,hz⟩:=I.tuple hq
 obtain ⟨j,h1,h2,h3,h4,h5⟩:=lA he
 obtain ⟨w,ew,iK⟩:=r.get h2
 have hl:=r.length
 have hn:=iF
 have fin:EP X pins σ Q w s:=⟨z,H,I,iK,q⟩
 exact subscriptTail_builtinR (x:=w) pl.typeIs slot_tuple_getitem.lookup
  (getItem_tuple (j:=j) (Q:=λr s'=>r=w/\EP X pins σ Q r s') pl (by omega) (by omega) (by rw [List.size_toArray,← hl]; exact h1) (by simpa using ew) ⟨rfl,fin⟩) hs
theorem yh:vT X Ex:=by
 intro value slice pins s σ H x y v u Q I rx ry h hs
 obtain ⟨z,i,c,rfl,rfl,hz,he,q⟩:=h
 obtain ⟨t,rfl⟩:=rx
 obtain ⟨t',rfl⟩:=ry
 obtain ⟨j,h1,h2,h3,h4,h5⟩:=lA he
 have hl:z.cps.toList.length=z.length:=by simp [Str.length]
 rw [hl] at h1 h4 h5
 have hn:=iF
 exact tail_any (typeIs_str s z t) slot_str_getitem.lookup (getItem_str (c:=c) (by
  have e1:decide (i < -(2 ^ 63:Int))=false:=decide_eq_false (by omega)
  have e2:decide (i≥2 ^ 63)=false:=decide_eq_false (by omega)
  rw [e1,e2,Bool.or_false]) (by rw [h1]; simpa using h2) ⟨.str ⟨#[c]⟩,H,I.tok _,⟨_,rfl⟩,q⟩) hs
theorem qQ (its:List Value) (n j:Nat) (u:Value):Obj.mapSeq (·.setIfInBounds j u) { cls:=.type "list",data:=.seq its.toArray n } = { cls:=.type "list",data:=.seq (its.set j u).toArray n }:=by
 simp [Obj.mapSeq]
theorem Inv.lst {pins:List (Addr×Obj)}{σ:St}{H:Hp}{s:Shared}{p:Addr}{xs:List V}(I:Inv X pins σ H s) (h:H p=some (.lst xs)) :
 ∃(its:List Value) (n:Nat),Vals xs its/\s.heap.get? p=some { cls:=.type "list",data:=.seq its.toArray n } /\ xs.length<=sizeLine:=by
 obtain ⟨z,its,n,r,e⟩:=I.hok p _ h
 exact ⟨its,n,r,e,z⟩
theorem Inv.yi {pins:List (Addr×Obj)}{σ:St}{H:Hp}{s:Shared}{p:Addr}{xs ys:List V}{its its':List Value}{n n':Nat}{f:Obj->Obj}(I:Inv X pins σ H s) (h:H p=some (.lst xs))
 (ho:s.heap.get? p=some { cls:=.type "list",data:=.seq its.toArray n }) (hf:f { cls:=.type "list",data:=.seq its.toArray n } = { cls:=.type "list",data:=.seq its'.toArray n' }) (r:Vals ys its') (hz:ys.length<=sizeLine) (t:Nat) :
 Inv X pins σ (upd H p (.lst ys)) { s with heap:=s.heap.update p f,toks:=t }:=by
 have e:(s.heap.update p f).get? p=some { cls:=.type "list",data:=.seq its'.toArray n' }:=by
  rw [Heap.get?_update_self f ho (by rw [hf] <;> rfl),hf]
 refine I.write (x:=p) (e:=p) (by rw [h]; trivial) (.inl rfl) (λb u hb q=>(Heap.get?_update_other _ _ (Ne.symm hb)).trans q) ⟨_,e⟩ ?_
 exact ⟨hz,its',n',r,e⟩
def AX:V->V->V->Hp->(Hp->Prop)->Prop:=λo i v H Q=>∃p xs k j,o=.ref p/\i=.int k/\H p=some (.lst xs)/\lZ xs.length k=some j/\Q (upd H p (.lst (xs.set j v)))
theorem set_list:xX X AX:=by
 intro pins s σ H o i v ov iv u Q I ro ri rv h
 obtain ⟨p,xs,k,j,rfl,rfl,hp,hj,q⟩:=h
 cases ro
 obtain ⟨t,rfl⟩:=ri
 obtain ⟨its,n,r,ho,hz⟩:=I.lst hp
 obtain ⟨h1,h2,h3,h4⟩:=pO hj
 have hl:=r.length
 have hn:=iF
 have I':Inv X pins σ (upd H p (.lst (xs.set j v))) { s with heap:=s.heap.update p (Obj.mapSeq (·.setIfInBounds j u)) } :=
  I.yi hp ho (qQ its n j u) (r.set rv j) (by rw [List.length_set]; exact hz) s.toks
 by_cases h0:0<=k
 . have hk:k.toNat=j:=by
    rw [seqIndex_of h0 h4] at h1
    exact Option.some.inj h1
   exact W.ki_setAt ho h0 (by omega) (by rw [List.size_toArray,← hl]; exact h4) (by rw [hk]; exact ⟨_,I',q⟩)
 . have hk:(k+(its.toArray.size:Int)).toNat=j:=by
    rw [seqIndex_neg (by omega) h3] at h1
    rw [List.size_toArray,← hl]
    exact Option.some.inj h1
   exact W.ki_setBack ho (by omega) (by rw [List.size_toArray,← hl]; exact h3) (by omega) (by rw [hk]; exact ⟨_,I',q⟩)
theorem nE (lo hi:Option Int) (n:Nat):(sliceBounds lo hi none n).1=((HT.eN n 0 lo:Nat):Int)/\(sliceBounds lo hi none n).2.1=((HT.eN n n hi:Nat):Int)/\(sliceBounds lo hi none n).2.2=1:=by
 refine ⟨?_,?_,rfl⟩
 . cases lo with
   | none=>simp [sliceBounds,HT.eN]
   | some i=>
    simp only [sliceBounds,HT.eN,Option.getD_none,show (1:Int)>0 by decide,if_true]
    by_cases h:i<0
    . simp only [h,if_true] <;> omega
    . simp only [h,if_false] <;> omega
 . cases hi with
   | none=>simp [sliceBounds,HT.eN]
   | some i=>
    simp only [sliceBounds,HT.eN,Option.getD_none,show (1:Int)>0 by decide,if_true]
    by_cases h:i<0
    . simp only [h,if_true] <;> omega
    . simp only [h,if_false] <;> omega
theorem mq (its:List Value) (lo hi:Option Int):slicePick its.toArray lo hi none=((its.drop (HT.eN its.length 0 lo)).take (HT.eN its.length its.length hi-HT.eN its.length 0 lo)).toArray:=by
 obtain ⟨h1,h2,h3⟩:=nE lo hi its.toArray.size
 unfold slicePick
 rw [h1,h2,h3]
 simp only [sliceRange_one,pick_run,List.size_toArray] <;> rfl
def Ey (K:W.Frag):V->Option Int->Option Int->Hp->VK->Prop:=λx lo hi H Q=>∃a xs,x=.ref a/\ay K H a xs/\∀p,H p=none->Q (.ref p) (upd H p (.lst (cy xs lo hi)))
theorem gx:yg X (Ey X.K):=by
 intro pins s σ H x v vl vu lo hi sl Q I rx hs pl pu h
 obtain ⟨a,xs,rfl,hx,q⟩:=h
 cases rx
 obtain ⟨its,r,ht,hz⟩:=I.list hx
 have hlen:=r.length
 refine ⟨"list",_,slot_list_getitem.lookup,ht.isList.typeIs,?_⟩
 refine wpAny_getItem_list_slice ht.isList hs pl pu .none (by simp) ?_ (by rw [List.size_toArray] <;> omega)
 rw [mq,← hlen]
 refine ⟨.ref s.heap.objs.size,_,I.laid (t':=s.toks) (o:=.lst (cy xs lo hi)) (λb ob q=>Heap.get?_push_of_some _ q) (Nat.le_refl _) ?_,rfl,q _ (I.hok.fresh (Nat.le_refl _))⟩
 exact ⟨Nat.le_trans (pe xs lo hi) hz,_,0,(r.drop (HT.eN xs.length 0 lo)).take (HT.eN xs.length xs.length hi-HT.eN xs.length 0 lo),Heap.get?_push_size _ rfl⟩
def fg:V->Bool
 | .aR=>true
 | .bl _=>true
 | .int _=>true
 | .str _=>true
 | _=>false
def iu:V->V->Bool
 | .aR,.aR=>true
 | .bl a,.bl b=>a == b
 | .bl a,.int b=>(if a then 1 else 0) == b
 | .int a,.bl b=>a == (if b then 1 else 0)
 | .int a,.int b=>a == b
 | .str a,.str b=>a == b
 | _,_=>false
theorem sP {A:Around}{s:Shared}{y x:V}{u v:Value}(ry:RelV y u) (rx:RelV x v) (fy:fg y=true) (fx:fg x=true):SeqAt.EqAt A s u v (iu y x):=by
 cases y with
 | aR=>
  cases ry
  cases x with
  | aR=>cases rx; exact SeqAt.EqAt.same _
  | bl b=>cases rx; exact SeqAt.EqAt.none_bool b
  | int b=>obtain ⟨t,rfl⟩:=rx; exact SeqAt.EqAt.none_int b t
  | str b=>obtain ⟨t,rfl⟩:=rx; exact SeqAt.EqAt.none_str b t
  | _=>exact absurd (show false=true from fx) Bool.false_ne_true
 | bl a=>
  cases ry
  cases x with
  | aR=>cases rx; exact SeqAt.EqAt.bool_none a
  | bl b=>cases rx; exact SeqAt.EqAt.bool_bool a b
  | int b=>obtain ⟨t,rfl⟩:=rx; exact SeqAt.EqAt.bool_int a b t
  | str b=>obtain ⟨t,rfl⟩:=rx; exact SeqAt.EqAt.bool_str a b t
  | _=>exact absurd (show false=true from fx) Bool.false_ne_true
 | int a=>
  obtain ⟨t',rfl⟩:=ry
  cases x with
  | aR=>cases rx; exact SeqAt.EqAt.int_none a t'
  | bl b=>cases rx; exact SeqAt.EqAt.int_bool a t' b
  | int b=>obtain ⟨t,rfl⟩:=rx; exact SeqAt.EqAt.int_int a t' b t
  | str b=>obtain ⟨t,rfl⟩:=rx; exact SeqAt.EqAt.int_str a t' b t
  | _=>exact absurd (show false=true from fx) Bool.false_ne_true
 | str a=>
  obtain ⟨t',rfl⟩:=ry
  cases x with
  | aR=>cases rx; exact SeqAt.EqAt.str_none a t'
  | bl b=>cases rx; exact SeqAt.EqAt.str_bool a t' b
  | int b=>obtain ⟨t,rfl⟩:=rx; exact SeqAt.EqAt.str_int a t' b t
  | str b=>obtain ⟨t,rfl⟩:=rx; exact SeqAt.EqAt.str_str a t' b t
  | _=>exact absurd (show false=true from fx) Bool.false_ne_true
 | _=>exact absurd (show false=true from fy) Bool.false_ne_true
def kb (x:V) (u:Value):Bool:=match u with
 | .none=>iu .aR x
 | .bool b=>iu (.bl b) x
 | .int i _=>iu (.int i) x
 | .str z _=>iu (.str z) x
 | _=>false
theorem sQ {x y:V}{u:Value}(r:RelV y u) (f:fg y=true):kb x u=iu y x:=by
 cases y with
 | aR=>cases r; rfl
 | bl b=>cases r; rfl
 | int i=>obtain ⟨t,rfl⟩:=r; rfl
 | str z=>obtain ⟨t,rfl⟩:=r; rfl
 | _=>exact absurd (show false=true from f) Bool.false_ne_true
theorem lB {x:V} : ∀{xs:List V}{us:List Value},Vals xs us->xs.all fg=true->us.any (kb x)=xs.any λy=>iu y x
 | _,_,.nil,_=>rfl
 | y::xs,u::us,.cons r t,f=>by
  rw [List.all_cons,Bool.and_eq_true] at f
  rw [List.any_cons,List.any_cons,sQ r f.1,lB t f.2]
theorem jD {A:Around}{s:Shared}{x:V}{v:Value}(rx:RelV x v) (fx:fg x=true):∀{xs:List V}{us:List Value},Vals xs us->xs.all fg=true->∀u∈us,SeqAt.EqAt A s u v (kb x u)
 | _,_,.nil,_=>λu hu=>by cases hu
 | y::xs,u::us,.cons r t,f=>λu' hu=>by
  rw [List.all_cons,Bool.and_eq_true] at f
  rcases List.mem_cons.mp hu with rfl | hu
  . rw [sQ r f.1]; exact sP r rx f.1 fx
  . exact jD rx fx t f.2 u' hu
def vU (x:V) (xs:List V):Bool:=xs.any λy=>iu y x
def Co (K:W.Frag) (neg:Bool):R2:=λx y H Q=>∃p xs,y=.ref p/\(ay K H p xs\/aY K H p xs)/\fg x=true/\xs.all fg=true/\Q (.bl (if neg then !vU x xs else vU x xs)) H
theorem nF:cI X (compareOp .NotIn) (Co X.K true):=by
 intro pins s σ H x y v u Q I rx ry h
 obtain ⟨p,xs,rfl,hq,fx,fs,q⟩:=h
 cases ry
 rcases hq with hq | hq
 . obtain ⟨its,r,pl,hz⟩:=I.list hq
   refine SeqAt.notIn_listAt (kb x) pl.isList (λw hw=>jD rx fx r fs w (by simpa using hw)) ⟨.bl _,H,I,rfl,?_⟩
   rw [show its.toArray.any (kb x)=its.any (kb x) by simp,lB r fs]
   exact q
 . obtain ⟨its,r,pl,hz⟩:=I.tuple hq
   refine SeqAt.notIn_tupleAt (kb x) pl (λw hw=>jD rx fx r fs w (by simpa using hw)) ⟨.bl _,H,I,rfl,?_⟩
   rw [show its.toArray.any (kb x)=its.any (kb x) by simp,lB r fs]
   exact q
theorem aP:ff X (.builtin "len") (λxs H Q=>∃p ys,xs=[.ref p]/\(ay X.K H p ys\/aY X.K H p ys)/\Q (.int ys.length) H):=by
 intro pins s σ H xs us Q I r h
 obtain ⟨p,ys,rfl,hq,q⟩:=h
 obtain ⟨u,rfl,rx⟩:=vals1 r
 cases rx
 have hn:=iF
 rcases hq with hq | hq
 . obtain ⟨its,r',pl,hz⟩:=I.list hq
   have hlen:=r'.length
   exact Calls.call_len_list pl.isList (by simp only [List.size_toArray] <;> omega) ⟨.int ys.length,H,I.tok _,⟨s.toks+1,by rw [List.size_toArray,hlen]⟩,q⟩
 . obtain ⟨its,r',pl,hz⟩:=I.tuple hq
   have hlen:=r'.length
   exact len_tuple pl (by simp only [List.size_toArray] <;> omega) ⟨.int ys.length,H,I.tok _,⟨s.toks+1,by rw [List.size_toArray,hlen]⟩,q⟩
theorem iM:ff X (.type "list") (λxs H Q=>∃p ys,xs=[.ref p]/\(ay X.K H p ys\/aY X.K H p ys)/\∀l,H l=none->Q (.ref l) (upd H l (.lst ys))):=by
 intro pins s σ H xs us Q I r h
 obtain ⟨p,ys,rfl,hq,q⟩:=h
 obtain ⟨u,rfl,rx⟩:=vals1 r
 cases rx
 have fin:∀(its:List Value),Vals ys its->ys.length<=sizeLine->∀(h':Heap) (c':Nat),(∀b o',s.heap.get? b=some o'->h'.get? b=some o')->
  h'.get? s.heap.objs.size=some { cls:=.type "list",dict:=none,data:=.seq its.toArray c',slots:=#[] } -> EP X pins σ Q (.ref s.heap.objs.size) { s with heap:=h' }:=λits r' hz h' c' kp e=>
  ⟨.ref s.heap.objs.size,_,I.laid (t':=s.toks) kp (Nat.le_refl _) (show aT X.prog X.w _ h' _ (.lst ys) from ⟨hz,its,c',r',e⟩),rfl,q _ (I.hok.fresh (Nat.le_refl _))⟩
 rcases hq with hq | hq
 . obtain ⟨its,r',pl,hz⟩:=I.list hq
   have hlen:=r'.length
   obtain ⟨o,ho,hc,n,hd⟩:=pl.isList
   exact call_list_seq p (.inl rfl) ho hc hd (λh' c' kp e=>fin its r' hz h' c' kp e) (by simp only [List.size_toArray] <;> omega)
 . obtain ⟨its,r',pl,hz⟩:=I.tuple hq
   have hlen:=r'.length
   obtain ⟨o,ho,hc,n,hd⟩:=pl
   exact call_list_seq p (.inr rfl) ho hc hd (λh' c' kp e=>fin its r' hz h' c' kp e) (by simp only [List.size_toArray] <;> omega)
def Cp (K:W.Frag) (T:String) (x:V) (H:Hp):Prop:=match x with
 | .str _=>T = "str"
 | .int _=>T = "int"
 | .ref p=>(T = "list" /\ ∃xs,ay K H p xs)\/(T = "tuple" /\ ∃o,K.lookup p=some o/\o.cls=.type "tuple" /\ o.dict=none)\/
  (T = "dict" /\ ((∃kvs,H p=some (.dK kvs))\/∃kvs,H p=some (.dT kvs)))\/(T = "set" /\ ∃S n,H p=some (.set S n))
 | _=>False
theorem yj {pins:List (Addr×Obj)}{σ:St}{H:Hp}{s:Shared}{T:String}{x:V}{v:Value}(I:Inv X pins σ H s) (r:RelV x v) (ty:Cp X.K T x H) :
 s.TypeIs v T/\∀a,v=.ref a->∃ob,s.heap.get? a=some ob/\ob.dict=none:=by
 cases x with
 | str z=>
  obtain ⟨t,rfl⟩:=r
  cases (show T = "str" from ty)
  exact ⟨typeIs_str s z t,λ_ e=>nomatch e⟩
 | int i=>
  obtain ⟨t,rfl⟩:=r
  cases (show T = "int" from ty)
  exact ⟨typeIs_int s i t,λ_ e=>nomatch e⟩
 | ref p=>
  cases r
  rcases ty with ⟨rfl,xs,hq⟩ | ⟨rfl,o,hk,hc,hd⟩ | ⟨rfl,hk⟩ | ⟨rfl,S,n,hk⟩
  . obtain ⟨its,_,pl,_⟩:=I.list hq
    refine ⟨pl.isList.typeIs,λa e=>?_⟩
    cases e
    obtain ⟨o,n,e,c,hd,_⟩:=pl
    exact ⟨o,e,hd⟩
  . refine ⟨⟨o,I.cP p o hk,hc⟩,λa e=>?_⟩
    cases e
    exact ⟨o,I.cP _ o hk,hd⟩
  . have z:∃o,s.heap.get? p=some o/\o.ExactDict:=by
     rcases hk with ⟨kvs,hk⟩ | ⟨kvs,hk⟩
     . obtain ⟨_,_,_,_,o,_,_,e,ex,_⟩:=I.hok p _ hk
       exact ⟨o,e,ex⟩
     . obtain ⟨_,_,_,_,o,_,_,e,ex,_⟩:=I.hok p _ hk
       exact ⟨o,e,ex⟩
    obtain ⟨o,e,ex⟩:=z
    refine ⟨⟨o,e,ex.1⟩,λa e2=>?_⟩
    cases e2
    exact ⟨o,e,ex.2.1⟩
  . obtain ⟨o,_,_,_,e,ex,_⟩:=I.hok p _ hk
    refine ⟨⟨o,e,ex.1⟩,λa e2=>?_⟩
    cases e2
    exact ⟨o,e,ex.2.1⟩
 | _=>exact False.elim ty
def G9 (K:W.Frag) (T:String) (r:V->List V->Hp->VK->Prop) (to:TE) (t:TA):TE:=λσ H Q=>to σ H λx H1=>Cp K T x H1/\t σ H1 λxs H2=>r x xs H2 Q
variable {o e:Expr}{es:List Expr}{to:TE}{t:TA}{name:Str}{apos cO:Pos}{T id:String}{r:V->List V->Hp->VK->Prop}
theorem kd (pa:PlainAttrs T) (slot:Slot T name id) (Hk:typeOf (.builtin id)=pure (.type "method_descriptor")) (hm:G8 X id r) (ho:PE X o to) (ha:PA X (e::es) t)
 (AY:attributeBase o name X.env (eval o X.env)=eval o X.env:=by rfl)
 (Ez:((backTo cO (starEach (e::es) X.env)).all (λx=>!x.1) && (backToKw cO (keywordEach [] X.env)).all (λx=>x.1.isSome)
  && decide ((e::es).length+([]:List Keyword).length+(if ([]:List Keyword).isEmpty then 0 else 1)<30))=true:=by rfl)
 (AZ:(apos.endLine == cO.line)=true:=by rfl) (hs:starEach (e::es) X.env=(false,eval e X.env)::starEach es X.env:=by rfl) (yk:(backTo cO (starEach es X.env)).any (·.1)=false:=by rfl) :
 PE X (.Call (.Attribute o name apos) (e::es) [] cO) (G9 X.K T r to t):=by
 intro pins s σ H Q I h
 refine wpAny_Call_method_late AY Ez AZ rfl (aE (ho pins s σ H _ I h) λv s1 ⟨x,H1,I1,r1,ty,q1⟩=>?_)
 obtain ⟨h1,h2⟩:=yj I1 r1 ty
 refine ⟨T,id,pa,slot,Hk,h1,h2,?_⟩
 have hA:=ha cO pins s1 σ H1 _ I1 q1
 rw [hs] at hA ⊢
 refine Calls.callWith_builtin (by show (false || (backTo cO (starEach es X.env)).any (·.1))=false; rw [yk] <;> rfl) (Calls.evalArgs_plain ?_)
 exact aE hA λus s2 ⟨vs,H2,I2,r2,q2⟩=>hm pins s2 σ H2 x vs v us Q I2 r1 r2 q2
end
end L2
namespace L2
open PySem PySem.Spec PyProof.Rows
def vV (X:Cx) (id:String) (r:V->List V->Hp->VK->Prop):Prop:=
 ∀(pins:List (Addr×Obj)) (s:Shared) (σ:St) (H:Hp) (x:V) (xs:List V) (v:Value) (us:List Value) (Q:VK),Inv X pins σ H s->RelV x v->Vals xs us->r x xs H Q->
  wpAny (model X.prog X.w) X.A (call (.builtin id) (v::us)) (EP X pins σ Q) X.xe s
theorem Vals.one:∀{x:V}{us:List Value},Vals [x] us->∃u,us=[u]/\RelV x u
 | _,_,.cons r .nil=>⟨_,rfl,r⟩
section
variable {X:Cx}{pins:List (Addr×Obj)}{σ:St}{H:Hp}{s:Shared}{l b:Addr}{xs ys zs:List V}
theorem Inv.yl {its its':List Value}{n:Nat}{f:Array Value->Array Value}{t':Nat}(I:Inv X pins σ H s) (hH:H l=some (.lst xs))
 (e:s.heap.get? l=some { cls:=.type "list",data:=.seq its.toArray n }) (hf:f its.toArray=its'.toArray) (hv:Vals ys its') (hz:ys.length<=sizeLine) :
 Inv X pins σ (upd H l (.lst ys)) { s with heap:=s.heap.update l (Obj.mapSeq f),toks:=t' }:=by
 have q:=PySem.IsL.update e f
 rw [hf] at q
 refine I.write (x:=l) (e:=l) (by rw [hH]; exact trivial) (.inl rfl) (λb' u hb hu=>(Heap.get?_update_other s.heap (Obj.mapSeq f) (Ne.symm hb)).trans hu) ⟨_,q⟩ ?_
 exact ⟨hz,its',_,hv,q⟩
theorem Inv.uY {its:List Value}{t':Nat}(I:Inv X pins σ H s) (hv:Vals ys its) (hz:ys.length<=sizeLine) :
 Inv X pins σ (upd H s.heap.objs.size (.lst ys)) { s with heap:=s.heap.push { cls:=.type "list",data:=.seq its.toArray },toks:=t' } :=
 I.laid (λ_ _ q=>Heap.get?_push_of_some _ q) (Nat.le_refl _) ⟨hz,its,0,hv,Heap.get?_push_size _ rfl⟩
theorem Inv.fresh (I:Inv X pins σ H s):H s.heap.objs.size=none:=I.hok.fresh (Nat.le_refl _)
theorem Inv.nG (I:Inv X pins σ H s) (hH:H l=some (.lst xs)):xs.length<=sizeLine/\∃(its:List Value) (n:Nat),Vals xs its/\xs.length=its.length/\s.heap.get? l=some { cls:=.type "list",data:=.seq its.toArray n }:=by
 obtain ⟨z,its,n,r,e⟩:=I.hok l _ hH
 exact ⟨z,its,n,r,r.length,e⟩
theorem jE {n:Nat}(h:n<=sizeLine):Builtin.List.listTooLong n=false:=by
 unfold Builtin.List.listTooLong
 exact decide_eq_false (by omega)
end
section
variable {X:Cx}
def xj:V->List V->Hp->VK->Prop:=λx vs H Q=>∃l xs y,x=.ref l/\vs=[y]/\H l=some (.lst xs)/\xs.length<sizeLine/\Q .aR (upd H l (.lst (xs++[y])))
theorem gh:vV X "list.append" xj:=by
 intro pins s σ H x vs v us Q I rx rv h
 obtain ⟨l,xs,y,rfl,rfl,hH,hz,q⟩:=h
 cases rx
 obtain ⟨u,rfl,ru⟩:=rv.one
 obtain ⟨z,its,n,r,hl,e⟩:=I.nG hH
 refine call_meets F.slot_list_append ⟨_,e,rfl⟩ F.entry_list_append (F.args_list_append_2 _ _) (PySem.list_append l its.toArray n u (by rw [List.size_toArray]; omega)) ⟨e,?_⟩
 refine ⟨.aR,_,I.yl (its':=its++[u]) hH e (by simp) (r.append (.cons ru .nil)) ?_,rfl,q⟩
 rw [List.length_append,List.length_singleton]
 omega
def xk:V->List V->Hp->VK->Prop:=λx vs H Q=>∃l b xs zs,x=.ref l/\vs=[.ref b]/\H l=some (.lst xs)/\H b=some (.lst zs)/\xs.length+zs.length<=sizeLine/\Q .aR (upd H l (.lst (xs++zs)))
theorem Cq:vV X "list.extend" xk:=by
 intro pins s σ H x vs v us Q I rx rv h
 obtain ⟨l,b,xs,zs,rfl,rfl,hH,hB,hz,q⟩:=h
 cases rx
 obtain ⟨u,rfl,ru⟩:=rv.one
 cases ru
 obtain ⟨z,its,n,r,hl,e⟩:=I.nG hH
 obtain ⟨z2,jF,n2,r2,dw,e2⟩:=I.nG hB
 have hsz:its.toArray.size+jF.toArray.size<=sizeLine:=by rw [List.size_toArray,List.size_toArray]; omega
 have A0:¬ (!its.toArray.isEmpty && Builtin.List.listTooLong (its.toArray.size+jF.toArray.size))=true:=by
  rw [jE hsz,Bool.and_false]
  exact Bool.false_ne_true
 refine call_meets F.slot_list_extend ⟨_,e,rfl⟩ F.entry_list_extend (F.args_list_extend_2 _ _)
  (AutoSeq1.list_extend_list_list_0 l its.toArray n b jF.toArray n2 A0 (by rw [List.size_toArray]; omega) (by omega)) ⟨e,e2,?_⟩
 refine ⟨.aR,_,I.yl (its':=its++jF) hH e (by simp) (r.append r2) ?_,rfl,q⟩
 rw [List.length_append]
 omega
def EA:R2:=λx y H Q=>∃l b xs zs,x=.ref l/\y=.ref b/\H l=some (.lst xs)/\H b=some (.lst zs)/\xs.length+zs.length<=sizeLine/\∀p,H p=none->Q (.ref p) (upd H p (.lst (xs++zs)))
theorem ke:cI X (binaryOp .Add) EA:=by
 intro pins s σ H x y v u Q I rx ry h
 obtain ⟨l,b,xs,zs,rfl,rfl,hH,hB,hz,q⟩:=h
 cases rx
 cases ry
 obtain ⟨z,its,n,r,hl,e⟩:=I.nG hH
 obtain ⟨z2,jF,n2,r2,dw,e2⟩:=I.nG hB
 refine PySem.P.add_list e e2 ?_ (by rw [List.size_toArray,List.size_toArray]; omega)
 have ea:its.toArray++jF.toArray=(its++jF).toArray:=by simp
 rw [ea]
 exact ⟨.ref _,_,I.uY (t':=s.toks) (r.append r2) (by rw [List.length_append]; omega),rfl,q _ I.fresh⟩
end
section
variable {prog:Program}{w:World}{A:Around}{E:Value->Shared->Prop}{s:Shared}
theorem qR {a c n:Nat}(Cr:a<=c) (hc:c<=n):sliceBounds (some (a:Int)) (some (c:Int)) none n=((a:Int),(c:Int),1):=by
 simp only [sliceBounds,Option.getD_none]
 have h1:¬ ((a:Int)<0):=by omega
 have h2:¬ ((c:Int)<0):=by omega
 simp only [h1,h2,if_false,show (1:Int)>0 by decide,if_true]
 congr 1
 . omega
 . congr 1; omega
set_option maxRecDepth 100000 in
theorem xI {l b sl:Addr}{items new:Array Value}{n n2:Nat}{vl vu:Value}{a c:Nat}{Q:Unit->Shared->Prop}
 (e:s.heap.get? l=some { cls:=.type "list",data:=.seq items n }) (e2:s.heap.get? b=some { cls:=.type "list",data:=.seq new n2 }) (iw:l≠b)
 (hs:s.heap.IsSliceOf sl vl vu .none) (pl:IsPart vl (some (a:Int))) (pu:IsPart vu (some (c:Int))) (Cr:a<=c) (hc:c<=items.size)
 (hsz:items.size+new.size<=sizeLine) (h:Q () { s with heap:=s.heap.update l (Obj.mapSeq λxs=>xs.extract 0 a++new++xs.extract c xs.size) }) :
 wpAny (model prog w) A (setItem (.ref l) (.ref sl) (.ref b)) Q E s:=by
 have hl:s.heap.IsList l items:=PySem.IsL.isList e
 have hb:s.heap.IsList b new:=PySem.IsL.isList e2
 obtain ⟨os,vW,iN,ym⟩:=id hs
 have Cs:s.TypeIs (.ref sl) "slice":=⟨os,vW,iN⟩
 have A1:¬ ((rawPart none == rawInt 0)=true):=Bool.false_ne_true
 have qS:Builtin.List.listSameRef (.ref l) (.ref b)=false:=by
  unfold Builtin.List.listSameRef
  exact beq_eq_false_iff_ne.mpr iw
 have EB:(max (a:Int) (c:Int)).toNat=c:=by omega
 have vX:((λxs:Array Value=>xs.extract 0 a++new++xs.extract c xs.size) items).size<=sizeLine+1:=by
  simp only [Array.size_append,Array.size_extract]
  omega
 unfold setItem
 try with_reducible refine wpAny_holding ?_
 first | refine wpAny_bind (wpAny_pure ?_) | skip
 refine wpAny_bind (wpAny_sequenceKey hl.typeIs (by decide) ?_)
 refine wpAny_bind (wpAny_callSpecial?_slot (name:=Str.ofString "__setitem__") hl.typeIs slot_list_setitem
  (wpAny_call_entry slot_list_setitem hl.typeIs entry_list_setitem ?_ (args_list_setitem _ _ _)))
 show wpAny _ _ (Builtin.List.listSubscript? (.ref sl) >>= _) _ _ s
 refine wpAny_bind ?_
 unfold Builtin.List.listSubscript?
 refine wpAny_bind (wpAny_specialOf Cs slice_no_index ?_)
 simp only [Option.isNone_none,if_true]
 refine wpAny_pure ?_
 show wpAny _ _ (typeOf (.ref sl) >>= _) _ _ s
 refine wpAny_bind (wpAny_typeOf Cs ?_)
 first
  | rw [if_neg (by decide)]
  | refine W.KFB.if_not (by decide) ?_
 rw [listSliceParts_eq]
 refine wpAny_bind (wpAny_bind (wpAny_field vW ym (x:=.none) rfl (wpAny_bind (wpAny_listPart .none ?_))))
 rw [if_neg A1]
 refine wpAny_bind (wpAny_field vW ym (x:=vl) rfl (wpAny_bind (wpAny_listPart pl ?_)))
 refine wpAny_bind (wpAny_field vW ym (x:=vu) rfl (wpAny_bind (wpAny_listPart pu (wpAny_pure ?_))))
 first
  | simp only [qS,Bool.false_eq_true,if_false]
  | refine W.KFB.if_not qS ?_
  | (dsimp only
     rw [if_neg (by rw [qS]; exact Bool.false_ne_true)])
 refine wpAny_bind (m:=Builtin.List.listAllItems (.ref b) "must assign iterable to extended slice") ?_
 unfold Builtin.List.listAllItems
 refine wpAny_bind (wpAny_typeOf hb.typeIs ?_)
 first
  | refine W.KFB.if_so (by decide) ?_
  | rw [if_pos (by decide)]
  | simp only [beq_self_eq_true,Bool.true_or,if_true]
 unfold Builtin.List.listItems
 refine wpAny_bind (wpAny_seqItems e2 rfl (wpAny_pure ?_))
 refine wpAny_bind (wpAny_bind (wpAny_seqItems e rfl (wpAny_pure ?_)))
 refine wpAny_bind (wpAny_of_eq ((sliceIndices_raw (some (a:Int)) (some (c:Int)) none items.size (by simp)).trans (congrArg (pure:Int×Int×Int->Sem (Int×Int×Int)) (qR Cr hc))) ?_)
 show wpAny _ _ (if ((1:Int) == 1)=true then _ else _) _ _ s
 rw [if_pos (by decide)]
 refine wpAny_bind (wpAny_rule ?_)
 first
  | simp only [jE hsz,Bool.false_eq_true,if_false]
  | refine W.KFB.if_not (jE hsz) ?_
 first | refine wpAny_bind (wpAny_pure ?_) | skip
 show wpAny _ _ (updateSeq l (λxs=>xs.extract 0 ((a:Int)).toNat++new++xs.extract (max (a:Int) (c:Int)).toNat xs.size) >>= _) _ _ s
 rw [EB,Int.toNat_natCast]
 refine wpAny_bind (wpAny_updateSeq (hz:=Nat.le_trans (Nat.le_add_right _ _) hsz) (_hz':=vX) e rfl ?_)
 refine wpAny_bind (wpAny_letGo ?_)
 first
  | exact wpAny_bind (wpAny_pure (wpAny_pure ⟨.none,rfl,wpAny_pure h⟩))
  | exact wpAny_pure ⟨.none,rfl,wpAny_pure h⟩
end
section
variable {X:Cx}
end
end L2
namespace Ct
open PySem PySem.W PySem.Calls PyProof.Rows
theorem kf {P:Params}{h:Heap} : ∀(ns:List Int) (vs:List Value),WellAll P h vs (ns.map WData.int)->IntsAre vs ns:=by
 intro ns
 induction ns with
 | nil=>
  intro vs w
  rw [List.map_nil] at w
  cases w
  exact .nil
 | cons n ns ih=>
  intro vs w
  rw [List.map_cons] at w
  cases w with
  | cons a b=>
   cases a
   exact .cons _ _ (ih _ b)
theorem sR {l:OpenLaw}{n:Nat}(hn:l.most=some n){P:Params}{h:Heap}{args:List WData}{vals:List Value}
 (qU:l.row.toRowW.claim.pre args=true) (yn:WellAll P h vals args) :
 ∃a vs ns,vals=[Value.ref a]/\args=[WData.list (ns.map WData.int)]/\h.get? a=some { cls:=.type "list",data:=.seq vs.toArray } /\ IntsAre vs ns/\ns.length<=n:=by
 have Hl:WShape.hasAll [] args [.list .int]=true:=(pre_splitW qU).1
 have hc:l.pre.holds [] { args:=args } = true:=(pre_splitW qU).2
 obtain ⟨d,r,rfl,h1,h2⟩:=hasAllW_cons Hl
 obtain rfl:=hasAllW_nil h2
 obtain ⟨xs,rfl,h3⟩:=hasW_list h1
 obtain ⟨ns,rfl⟩:=items_int h3
 have hlen:ns.length<=n:=by
  unfold OpenLaw.pre at hc
  have h4:(WTm.not (.lt (.lit (.int (n:Int))) (.len (.arg 0)))).holds [] { args:=[.list (ns.map .int)] } = true:=by
   have h4:=(holds_andW hc).1
   rw [hn] at h4
   exact h4
  have h5:=condW_of h4 (w_not (w_lt w_lit (w_len_list (w_arg rfl))))
  rw [List.length_map] at h5
  refine Nat.le_of_not_lt λq=>?_
  have q':(n:Int)<((ns.length:Nat):Int):=by omega
  first
   | (rw [decide_eq_true q'] at h5; exact absurd h5 (by decide))
   | (simp at h5; omega)
 cases yn with
 | cons w1 w2=>
  cases w2
  cases w1 with
  | list ho jB=>exact ⟨_,_,ns,rfl,rfl,ho,kf ns _ jB,hlen⟩
theorem sS (l:OpenLaw) (args:List WData):l.row.toRowW.claim.post args (.bool true) args=true:=
 postW_of (r:=l.row.toRowW) (X:=(true == true))
  (show WShape.has [] (.bool true) .bool=true by first | rfl | decide | simp [WShape.has,WShape.arms,WShape.armsAll])
  (show (WTm.eq .res (.lit (.bool true))).value [] { args:=args,res:=some (.bool true),after:=args } = some (.bool (true == true)) from w_eq_bool (w_res rfl) w_lit) rfl
theorem pf {l:OpenLaw}{n:Nat}{q:Program}{loose:List Str}{XP:(Str->Option Value)->Heap->Prop}{YP:World->Heap->Prop}{d:DefRec}
 (hn:l.most=some n) (sU:d.params.defaults=[])
 (call:∀(w:World) (eU bw:Shared) (mg mb:Str->Option Value) (fa:Addr) (o:Obj) (pm cd doc:Value) (a:Addr) (vs:List Value) (ns:List Int),
  Ground q loose [] XP w eU mg mb bw.heap->YP w bw.heap->
  bw.heap.get? fa=some o->o.data=.func (docDef d.name d.params d.body d.scope pm cd doc)->bw.heap.CodeRec cd d.name->mg d.name=some (.ref fa)->
  bw.heap.get? a=some { cls:=.type "list",data:=.seq vs.toArray } -> IntsAre vs ns->ns.length<=n->bw.gens = #[]->
  codeAny (model l.prog w) callerA (.call (.ref fa) ⟨[.ref a],[]⟩) (λr s'=>r=.ok (.ret (.bool true))/\OldK bw.heap s'.heap/\s'.os=bw.os/\AllBare s'.gens) bw) :
 WalkO q loose XP YP l.row.toRowW d [] (λf vs=>PySem.call f vs):=by
 intro w eU bw mg mb G Y fa o pm cd doc dV kV ho hd iC hD sV hg args vals as qU Lm LB yn LC
 obtain rfl:dV=.none:=Dflts.none hD sU
 obtain rfl:kV=.none:=Dflts.noKw hD
 obtain ⟨a,vs,ns,rfl,rfl,uZ,hints,hlen⟩:=sR hn qU yn
 refine enter_call (codeAny_mono (call w eU bw mg mb fa o pm cd doc a vs ns G Y ho (fd_plain hd) iC sV uZ hints hlen hg) λr s' hq=>?_)
 obtain ⟨rfl,h2,h3,h4⟩:=hq
 exact ⟨.inl ⟨.bool true,.bool true,[],rfl,λ_=>rfl,.bool true,sS l _,λ_=>⟨List.Pairwise.nil,λ_ hm=>(nomatch hm)⟩⟩,h2,h3,h4⟩
section
variable {prog:Program}{w:World}{A:Around}{E:Value->Shared->Prop}{s:Shared}{K:Frag}
end
end Ct
namespace L2
open PySem PySem.Spec PyProof.Rows
theorem l6:∀{vs:List Value}{ns:List Int},IntsAre vs ns->Vals (ns.map V.int) vs
 | _,_,.nil=>.nil
 | _,_,.cons n t h=>.cons ⟨t,rfl⟩ (l6 h)
def u0 (H:Hp):Prop:=∀b,H b=none\/∃o xs,H b=some (.gc o (.lst xs))
theorem u3 {P:Program}{w:World}{K:W.Frag}{mg mb:Str->Option Value}{CX:iJ}{k:Nat}{fa a:Addr}{fd:FuncData}{x:Str}{sp:Sp}{bw:Shared}{vs:List Value}{ns:List Int}
 (KX:K.In bw.heap) (Cu:bw.heap.Ns mainGlobals mg) (hb:bw.heap.Ns builtinsNs mb) (Hn:∀x:Str,x ≠ "__name__" -> mb x=bootBuiltins x) (EC:bw.heap.NoLimit) (hg:bw.gens = #[])
 (ha:bw.heap.get? a=some { cls:=.type "list",data:=.seq vs.toArray }) (hi:IntsAre vs ns) (hl:ns.length<=sizeLine) (hr:ba k callerA)
 (F:∀base:Heap,K.In base->base.Ns mainGlobals mg->av P w K mg base CX k fa fd [x] sp) (A2:∀(s:Shared) (u:Value),BindsTo s fd ⟨[u],[]⟩ [(x,u)])
 (gf:∀H:Hp,u0 H->ay K H a (ns.map V.int)->sp [.ref a] H (λv _=>v=.bl true) λ_ _ _=>False)
 (yo:∀H e s',CX [] H bw (λ_ _ _=>False) e s'->False) :
 codeAny (model P w) callerA (.call (.ref fa) ⟨[.ref a],[]⟩) (λr s'=>r=.ok (.ret (.bool true))/\OldK bw.heap s'.heap/\s'.os=bw.os/\AllBare s'.gens) bw:=by
 have rv:=l6 hi
 have ED:=hi.length
 have core:∀H:Hp,u0 H->ay K H a (ns.map V.int)->cb P w H bw.heap->(∀b,H b≠none->b=a)->(H a≠none->K.lookup a=none)->
  codeAny (model P w) callerA (.call (.ref fa) ⟨[.ref a],[]⟩) (λr s'=>r=.ok (.ret (.bool true))/\OldK bw.heap s'.heap/\s'.os=bw.os/\AllBare s'.gens) bw:=by
  intro H hO hS hok hA hK
  have pP:∀{b:Addr}{o:Obj},bw.heap.get? b=some o->H b=none->(gX bw.heap H).get? b=some o:=λe n=>uH e n
  have sL:∀{b:Addr}{o:Obj}{es:Array DictEntry}{ep:Nat},bw.heap.get? b=some o->o.data=.dict es ep->H b=none:=λ{b o es ep} e d=>by
   cases q:H b with
   | none=>rfl
   | some u=>
    have e':b=a:=hA b (by rw [q]; simp)
    subst e'
    rw [ha] at e; cases e
    have d':Data.seq vs.toArray _=Data.dict es ep:=d
    cases d'
  have vY:∀{b:Addr}{m:Str->Option Value},bw.heap.Ns b m->(gX bw.heap H).Ns b m:=λ{b m} ⟨o,es,ep,e,d,r⟩=>⟨o,es,ep,pP e (sL e d),d,r⟩
  have Cv:K.In (gX bw.heap H):=λb o e=>pP (KX b o e) (by
   cases q:H b with
   | none=>rfl
   | some u=>
    have e':b=a:=hA b (by rw [q]; simp)
    subst e'
    rw [hK (by rw [q]; simp)] at e; cases e)
  have hM:Mod K mg (gX bw.heap H):=⟨Cv,vY Cu,⟨mb,vY hb,Hn⟩,let ⟨mc,h1,h2⟩:=EC; ⟨mc,vY h1,h2⟩⟩
  have e0:gq P w K mg (gX bw.heap H) callerA [] bw H:=⟨rfl,hM,λb o e=>wY e,Nat.le_of_eq (rU _ _),trivial,λb hb=>absurd (show b∈([]:List Addr) from hb) (by simp),hok,.of_eq hg⟩
  refine codeAny_mono ((F _ Cv (vY Cu)).run callerA [] bw H ⟨[.ref a],[]⟩ [.ref a] [.ref a] _ _ hr e0 (A2 bw (.ref a)) (.cons rfl .nil) (gf H hO hS)) λr s' h=>?_
  cases r with
  | error e=>exact (yo H e s' h).elim
  | ok fl=>
   cases fl with
   | next=>exact False.elim h
   | brk=>exact False.elim h
   | cont=>exact False.elim h
   | ret u=>
    obtain ⟨v,H',os,bare,un,EE,r',q⟩:=h
    have q':v=.bl true:=q
    subst q'
    obtain rfl:u=Value.bool true:=r'
    refine ⟨rfl,OldK.of_keep λb o e=>?_,os,bare⟩
    cases q:H b with
    | none=>exact un.keep b o e q (by intro z; exact absurd (show b∈([]:List Addr) from z) (by simp)) (by simp)
    | some u=>
     rcases hO b with z | ⟨ob,xs,z⟩
     . rw [q] at z; cases z
     . have z2:=un.frzs b ob _ z
       obtain ⟨e1,_⟩:=hok b _ z
       obtain ⟨e2,_⟩:=EE b _ z2
       rw [e] at e1; cases e1
       exact e2
 cases hk:K.lookup a with
 | some o=>
  have e:=KX a o hk
  rw [ha] at e
  cases e
  refine core (λ_=>none) (λ_=>.inl rfl) (.inr ⟨_,vs.toArray,_,hk,rfl,rfl,rfl,by rw [List.size_toArray,ED]; exact hl,by simpa using rv⟩) (λb u z=>by have z':(none:Option HO)=some u:=z; cases z') (λb z=>absurd rfl z) λz=>absurd rfl z
 | none=>
  refine core (λb=>if b=a then some (.gc { cls:=.type "list",data:=.seq vs.toArray } (.lst (ns.map V.int))) else none) (λb=>?_) (.inl (.inr ⟨{ cls:=.type "list",data:=.seq vs.toArray },if_pos rfl⟩)) (λb u z=>?_) (λb z=>?_) λ_=>hk
  . by_cases hb:b=a
    . exact .inr ⟨_,_,if_pos hb⟩
    . exact .inl (if_neg hb)
  . by_cases hb:b=a
    . have z':=(if_pos hb).symm.trans z
      cases z'
      subst hb
      exact ⟨ha,by rw [List.length_map]; exact hl,vs,_,rv,ha⟩
    . have z':=(if_neg hb).symm.trans z
      cases z'
  . by_cases hb:b=a
    . exact hb
    . exact absurd (if_neg hb) z
end L2
namespace L2
open PySem PySem.Spec PyProof.Rows
theorem xl {l:W.OpenLaw}{n k:Nat}{q:Program}{loose:List Str}{XP:(Str->Option Value)->Heap->Prop}{YP:World->Heap->Prop}{d:DefRec}{K:Params->W.Frag}{CX:World->iJ}{sp:World->Sp}{x:Str}
 (hn:l.most=some n) (pL:n<=sizeLine) (sU:d.params.defaults=[]) (hr:ba k callerA)
 (hY:∀(w:World) (h:Heap),YP w h->(K w.params).In h)
 (F:∀(w:World) (mg:Str->Option Value) (fa:Addr) (h:Heap),(K w.params).In h->h.Ns mainGlobals mg->mg d.name=some (.ref fa)->
  ∃fd:FuncData,(∀(s:Shared) (u:Value),BindsTo s fd ⟨[u],[]⟩ [(x,u)])/\
   ∀base:Heap,(K w.params).In base->base.Ns mainGlobals mg->av l.prog w (K w.params) mg base (CX w) k fa fd [x] (sp w))
 (gf:∀(w:World) (H:Hp) (a:Addr) (ns:List Int),ns.length<=n->u0 H->ay (K w.params) H a (ns.map V.int)->sp w [.ref a] H (λv _=>v=.bl true) λ_ _ _=>False)
 (yo:∀(w:World) (H:Hp) (s:Shared) (e:Value) (s':Shared),CX w [] H s (λ_ _ _=>False) e s'->False) :
 W.WalkO q loose XP YP l.row.toRowW d [] (λf vs=>PySem.call f vs):=by
 refine Ct.pf hn sU λw eU bw mg mb fa o pm cd doc a vs ns G Y ho hd iC sV uZ hints hlen hg=>?_
 have KX:=hY w _ Y
 obtain ⟨fd,hb,hF⟩:=F w mg fa _ KX G.T.g sV
 exact u3 KX G.T.g G.T.b G.T.builtins G.T.nolimit hg uZ hints (Nat.le_trans hlen pL) hr hF hb (λH hO hS=>gf w H a ns hlen hO hS) λH e s'=>yo w H bw e s'
end L2
namespace L2
open PySem PySem.Spec PyProof.Rows
def inClass (s:Stmt) (j:Nat):Stmt:=match s with
 | .ClassDef _ _ _ body _ _ _ _ _ _ _=>body.getD j (.Pass ⟨0,0,0,0⟩)
 | _=>.Pass ⟨0,0,0,0⟩
def aL (s:Stmt):Arguments:=match s with
 | .FunctionDef _ a _ _ _ _ _ _ _ _=>a
 | _=>{ posonlyargs:=[],args:=[],vararg:=none,kwonlyargs:=[],kw_defaults:=[],kwarg:=none,defaults:=[] }
def aK (s:Stmt):List Stmt:=match s with
 | .FunctionDef _ _ b _ _ _ _ _ _ _=>b
 | _=>[]
def aj (s:Stmt):Scope:=match s with
 | .FunctionDef _ _ _ _ _ _ sc _ _ _=>sc
 | _=>{ kind:=.function,names:=[],isGenerator:=false,isCoroutine:=false }
abbrev aH:iJ:=λ_ _ _ _ _ _=>False
abbrev E0:XK:=λ_ _ _=>False
theorem aw {X:Cx} : Passes aH X E0:=λ_ _ _ _ _ _ _ h=>h.elim
structure bY (K:W.Frag) (x qual:Str) (st:Stmt) (f:Addr) (fd:FuncData):Prop where
 ex:∃(oc:Value) (od:Option Addr) (kV doc pm:Value) (an:Option Addr) (cdv ct:Value) (lW:Array (Option Value)),
  fd=W.fnOf x qual (aL st) (aK st) (aj st) .none kV doc pm an cdv ct/\K.lookup f=some ⟨oc,od,.func fd,lW⟩/\W.codeIn K cdv qual=true
 kp:W.keepIn K (.ref f)=true
section
variable {P:Program}{w:World}{K:W.Frag}{mg:Str->Option Value}{base:Heap}
theorem bY.ok {x qual:Str}{st:Stmt}{f:Addr}{fd:FuncData}{N ps:List Str}{k:Nat}{sp:Sp}(F:bY K x qual st f fd) (S:aQ N ps (aj st)) (len:∀vs H Q E,sp vs H Q E->vs.length=ps.length)
 (qO:∀(cdv:Value) (A:Around) (outer:List Env) (s:Shared) (H:Hp) (vs:List V) (Q:VK) (E:XK),ba k (A.deeper (envOfC qual (aj st) s.heap.objs.size f cdv))->sp vs H Q E->
  ∃t,fu (gZ aH P w K mg base N qual (aj st) f cdv A outer s H E).mY (aK st) t/\t { nx:=λ_ H'=>Q .aR H',rt:=Q } (start N vs) H):av P w K mg base aH (k+1) f fd ps sp:=by
 obtain ⟨oc,od,kV,doc,pm,an,cdv,ct,lW,rfl,lk,iC⟩:=F.ex
 refine AO lk iC S len λA outer s H vs Q E hr gf=>?_
 obtain ⟨t,h,q⟩:=qO cdv A outer s H vs Q E hr gf
 exact ⟨t,h.mY,q⟩
theorem bY.binds {x qual:Str}{st:Stmt}{f:Addr}{fd:FuncData}{ps:List Str}(F:bY K x qual st f fd)
 (h:∀(kV doc pm:Value) (an:Option Addr) (cdv ct:Value) (us:List Value),us.length=ps.length->bindArgs (W.fnOf x qual (aL st) (aK st) (aj st) .none kV doc pm an cdv ct) ⟨us,[]⟩=pure (ps.zip us)):Binds K fd ps []:=by
 obtain ⟨oc,od,kV,doc,pm,an,cdv,ct,lW,rfl,lk,iC⟩:=F.ex
 exact .all (h kV doc pm an cdv ct)
theorem bb {x qual:Str}{st:Stmt}{f:Addr}{oc:Value}{od an:Option Addr}{lW:Array (Option Value)}{kV doc pm cdv ct:Value}(l:K.lookup f=some ⟨oc,od,.func (W.fnOf x qual (aL st) (aK st) (aj st) .none kV doc pm an cdv ct),lW⟩)
 (c:W.codeIn K cdv qual=true) (k:W.keepIn K (.ref f)=true):bY K x qual st f (W.fnOf x qual (aL st) (aK st) (aj st) .none kV doc pm an cdv ct):=⟨⟨oc,od,kV,doc,pm,an,cdv,ct,lW,rfl,l,c⟩,k⟩
end
theorem i9 {A:Around}{k:Nat}(hr:ba k A):A.units+1<cLine:=Nat.lt_of_le_of_lt (Nat.add_le_add_left (by decide:1<=64) _) hr.units
theorem l7 {n:Nat}(h:n<=1000):n<sizeLine:=Nat.lt_of_le_of_lt h (by decide)
section
variable {X:Cx}
theorem pv (i:Nat){x:Str}{pos:Pos}(hN:X.N[i]?=some x:=by rfl) (hv:xS X.env.scope x:=by first | exact Or.inl rfl | exact Or.inr (Or.inl rfl) | exact Or.inr (Or.inr rfl)) (hd:(x == ("__debug__" : Str))=false:=by decide)
 (iC:(x == ("__classdict__" : Str))=false:=by decide):PE X (.Name x pos) (qE i):=xW hN hv hd iC
end
theorem gr {A B:Prop}(h:B):if false=true then A else B:=by
 rw [if_neg Bool.false_ne_true]
 exact h
theorem lC {A B:Prop}(h:A):if true=true then A else B:=by
 rw [if_pos rfl]
 exact h
theorem jG {c A B:Prop}[Decidable c] (h1:c->A) (h2:¬ c->B):if c then A else B:=by
 by_cases h:c
 . rw [if_pos h]
   exact h1 h
 . rw [if_neg h]
   exact h2 h
def ak (H H':Hp):Prop:=∀b o,H b=some o->H' b=some o
theorem ak.trans {H H1 H2:Hp}(a:ak H H1) (b:ak H1 H2):ak H H2:=λc o h=>b c o (a c o h)
theorem ak.free {H H':Hp}(e:ak H H'){l:Addr}(h:H' l=Option.none):H l=Option.none:=by
 cases q:H l with
 | none=>rfl
 | some o=>
  rw [e l o q] at h
  cases h
theorem ak.seq {K:W.Frag}{H H':Hp}{a:Addr}{xs:List V}(e:ak H H') (h:ay K H a xs):ay K H' a xs:=by
 rcases h with (h | ⟨o,h⟩) | h
 . exact .inl (.inl (e _ _ h))
 . exact .inl (.inr ⟨o,e _ _ h⟩)
 . exact .inr h
end L2
namespace L2
open PySem PySem.Spec PyProof.Rows
section
variable {X:Cx}
end
end L2
set_option maxHeartbeats 4000000
namespace L2
open PySem PySem.Spec PyProof.Rows
theorem g7 {env:Env}(f:Str×NameKind->List (Str×Addr)->Sem (ForInStep (List (Str×Addr))))
 (hf:∀n k cs,f (n,k) cs=if (k == NameKind.free)=true then (cellOf env n >>= λa=>pure (ForInStep.yield ((n,a)::cs))) else pure (ForInStep.yield cs)) :
 ∀(names:List (Str×NameKind)) (acc:List (Str×Addr)),(∀x∈names,x.2=NameKind.free->∃c,env.cells.lookup x.1=some c)->(∀x c,acc.lookup x=some c->env.cells.lookup x=some c)->
  ∃cl,forIn names acc f=(pure cl:Sem (List (Str×Addr)))/\(∀x c,cl.lookup x=some c->env.cells.lookup x=some c)/\(∀x c,acc.lookup x=some c->∃c',cl.lookup x=some c')/\∀x∈names,x.2=NameKind.free->∃c,cl.lookup x.1=some c
 | [],acc,_,ha=>⟨acc,by simp,ha,λx c e=>⟨c,e⟩,λx hx=>by simp at hx⟩
 | (n,k)::r,acc,hn,ha=>by
  have vJ:∀x∈r,x.2=NameKind.free->∃c,env.cells.lookup x.1=some c:=λx hx=>hn x (List.mem_cons_of_mem _ hx)
  cases hk:k == NameKind.free with
  | false=>
   obtain ⟨cl,e,h1,h2,h3⟩:=g7 f hf r acc vJ ha
   refine ⟨cl,?_,h1,h2,λx hx hz=>?_⟩
   . rw [List.forIn_cons,hf,hk,if_neg Bool.false_ne_true,pure_bind]
     exact e
   . rcases List.mem_cons.mp hx with z | hx
     . subst z
       have vX:k=NameKind.free:=hz
       rw [vX] at hk
       exact absurd hk (by decide)
     . exact h3 x hx hz
  | true=>
   have iO:k=NameKind.free:=by cases k <;> first | rfl | exact absurd hk (by decide)
   obtain ⟨c,hc⟩:=hn (n,k) List.mem_cons_self iO
   have eI:env.cells.lookup n=some c:=hc
   obtain ⟨cl,e,h1,h2,h3⟩:=g7 f hf r ((n,c)::acc) vJ (λx d ed=>by
    rw [List.lookup_cons] at ed
    cases hx:x == n with
    | true=>
     rw [hx] at ed
     rw [eq_of_beq hx,eI]
     exact ed
    | false=>
     rw [hx] at ed
     exact ha x d ed)
   have Cw:∃c',cl.lookup n=some c':=h2 n c (by rw [List.lookup_cons,beq_self_eq_true])
   refine ⟨cl,?_,h1,λx d ed=>?_,λx hx hz=>?_⟩
   . rw [List.forIn_cons,hf,hk,if_pos rfl]
     unfold cellOf
     rw [eI]
     rw [pure_bind,pure_bind]
     exact e
   . cases hx:x == n with
     | true=>
      rw [eq_of_beq hx]
      exact Cw
     | false=>
      refine h2 x d ?_
      rw [List.lookup_cons,hx]
      exact ed
   . rcases List.mem_cons.mp hx with z | hx
     . subst z
       exact Cw
     . exact h3 x hx hz
theorem lD {scope:Scope}{env:Env}(h:∀x∈scope.names,x.2=NameKind.free->∃c,env.cells.lookup x.1=some c) :
 ∃cl,closureFor scope env=pure cl/\(∀x c,cl.lookup x=some c->env.cells.lookup x=some c)/\∀x∈scope.names,x.2=NameKind.free->∃c,cl.lookup x.1=some c:=by
 obtain ⟨cl,e,h1,_,h3⟩:=g7 (env:=env) (λp cs=>if (p.2 == NameKind.free)=true then (cellOf env p.1 >>= λa=>pure (ForInStep.yield ((p.1,a)::cs))) else pure (ForInStep.yield cs)) (λn k cs=>rfl) scope.names [] h (λx c z=>by simp at z)
 refine ⟨cl,?_,h1,h3⟩
 have key:closureFor scope env=(forIn scope.names ([]:List (Str×Addr)) (λ(p:Str×NameKind) cs=>if (p.2 == NameKind.free)=true then (cellOf env p.1 >>= λa=>pure (ForInStep.yield ((p.1,a)::cs))) else pure (ForInStep.yield cs)) >>= λcs=>pure cs):=rfl
 rw [key,e,pure_bind]
theorem lookup_mem {names:List (Str×NameKind)}{x:Str}{k:NameKind}(h:names.lookup x=some k):(x,k)∈names:=by
 induction names with
 | nil=>simp at h
 | cons p r ih=>
  obtain ⟨n,j⟩:=p
  rw [List.lookup_cons] at h
  cases hx:x == n with
  | true=>
   rw [hx] at h
   have e:j=k:=Option.some.inj h
   rw [eq_of_beq hx,e]
   exact List.mem_cons_self
  | false=>
   rw [hx] at h
   exact List.mem_cons_of_mem _ (ih h)
def gs (env:Env) (p:Str×NameKind):Str×NameKind:=if (p.2 == NameKind.free && env.scope.kind == .function && env.kindOf p.1 == some .cell) then (p.1,.cell) else p
theorem ix (scope:Scope) (env:Env):(relabel scope env).names=scope.names.map (gs env):=rfl
theorem gu {env:Env} : ∀(names:List (Str×NameKind)) (x:Str),(names.map (gs env)).lookup x=(names.lookup x).map λk=>(gs env (x,k)).2
 | [],x=>rfl
 | (n,k)::r,x=>by
  rw [List.map_cons]
  have e1:(gs env (n,k)).1=n:=by unfold gs; split <;> rfl
  have:gs env (n,k)=(n,(gs env (n,k)).2):=Prod.ext e1 rfl
  rw [this,List.lookup_cons,List.lookup_cons]
  cases hx:x == n with
  | true=>
   rw [eq_of_beq hx]
   rfl
  | false=>exact gu r x
theorem u4 {scope:Scope}{env:Env}{x:Str}(h:scope.names.lookup x=some .free):(relabel scope env).names.lookup x=some .cell\/(relabel scope env).names.lookup x=some .free:=by
 rw [ix,gu,h]
 unfold gs
 simp only [Option.map_some]
 split
 . exact .inl rfl
 . exact .inr rfl
theorem sW {scope:Scope}{env:Env}{x:Str}(hc:∀y∈scope.names,y.2≠.cell) (h:(relabel scope env).names.lookup x=some .cell\/(relabel scope env).names.lookup x=some .free):scope.names.lookup x=some .free:=by
 rw [ix,gu] at h
 cases e:scope.names.lookup x with
 | none=>rw [e] at h; rcases h with h | h <;> cases h
 | some k=>
  rw [e] at h
  have hm:=lookup_mem e
  have nk:k≠.cell:=hc _ hm
  simp only [Option.map_some,Option.some.injEq] at h
  by_cases hf:k=.free
  . rw [hf]
  . have hb:(k == NameKind.free)=false:=by cases k <;> first | rfl | exact absurd rfl hf
    have:(gs env (x,k)).2=k:=by
     unfold gs
     simp [hb]
    rw [this] at h
    rcases h with h | h
    . exact absurd h nk
    . exact absurd h hf
def bt (X:Cx) (N:List Str) (scope:Scope) (cl:List (Str×Addr)) (C:Addr) (s:Shared) (H:Hp) (fp:List Addr) (pn:List (Addr×Obj)):Cx where
 prog:=X.prog
 w:=X.w
 K:=X.K
 mg:=X.mg
 base:=X.base
 A:=X.A
 N:=N
 eU:=s
 xR:=H
 env:=compEnvC scope cl C X.env
 outer:=X.stack
 stack:=X.stack
 ex:=fp
 fn:=λ_=>false
 calm:=true
 pn:=pn
 xe:=λ_ _=>False
structure gy (X:Cx) (N:List Str) (js:List (Option Nat)) (scope:Scope):Prop where
 kind:scope.kind=.function
 nocell:∀y∈scope.names,y.2≠.cell
 names:∀y∈scope.names,y.2=.local->scope.names.lookup y.1=some .local
 frees:∀y∈scope.names,y.2=.free->X.env.kindOf y.1=some .cell\/X.env.kindOf y.1=some .free
 len:js.length=N.length
 pull:∀(i j:Nat) (x:Str),js[i]?=some (some j)->N[i]?=some x->X.N[j]?=some x/\scope.names.lookup x=some .free
def cq (xn:List Str) (names:List (Str×NameKind)):List Str->List (Option Nat)->Bool
 | [],[]=>true
 | _::N,none::js=>cq xn names N js
 | x::N,some j::js=>(match xn[j]? with | some y=>decide (y=x) | none=>false) && (match names.lookup x with | some .free=>true | _=>false) && cq xn names N js
 | _,_=>false
theorem g8 {xn:List Str}{names:List (Str×NameKind)} : ∀{N:List Str}{js:List (Option Nat)},cq xn names N js=true->js.length=N.length
 | [],[],_=>rfl
 | x::N,none::js,h=>by
  have:=g8 (N:=N) (js:=js) (by simpa [cq] using h)
  simp [this]
 | x::N,some j::js,h=>by
  have h':cq xn names N js=true:=by
   simp only [cq,Bool.and_eq_true] at h
   exact h.2
  simp [g8 h']
 | [],_::_,h=>by simp [cq] at h
 | _::_,[],h=>by simp [cq] at h
theorem iP {xn:List Str}{names:List (Str×NameKind)} : ∀{N:List Str}{js:List (Option Nat)},cq xn names N js=true->∀(i j:Nat) (x:Str),js[i]?=some (some j)->N[i]?=some x->xn[j]?=some x/\names.lookup x=some .free
 | [],[],_,i,j,x,e,_=>by simp at e
 | y::N,none::js,h,i,j,x,e1,e2=>by
  cases i with
  | zero=>simp at e1
  | succ i=>
   exact iP (N:=N) (js:=js) (by simpa [cq] using h) i j x (by simpa using e1) (by simpa using e2)
 | y::N,some j'::js,h,i,j,x,e1,e2=>by
  simp only [cq,Bool.and_eq_true] at h
  obtain ⟨⟨h1,h2⟩,h3⟩:=h
  cases i with
  | zero=>
   have ej:j'=j:=by simpa using e1
   have ey:y=x:=by simpa using e2
   subst ej ey
   constructor
   . cases q:xn[j']? with
     | none=>rw [q] at h1; cases h1
     | some z=>
      rw [q] at h1
      rw [of_decide_eq_true h1]
   . cases q:names.lookup y with
     | none=>rw [q] at h2; cases h2
     | some k=>
      rw [q] at h2
      cases k <;> first | rfl | cases h2
  | succ i=>exact iP h3 i j x (by simpa using e1) (by simpa using e2)
 | [],_::_,h,_,_,_,_,_=>by simp [cq] at h
 | _::_,[],h,_,_,_,_,_=>by simp [cq] at h
def isFn:ScopeKind->Bool
 | .function=>true
 | _=>false
def kg (xn:List Str) (xs:List (Str×NameKind)) (N:List Str) (js:List (Option Nat)) (scope:Scope):Bool:=
 isFn scope.kind && (scope.names.all λy=>match y.2 with
  | .cell=>false
  | .local=>(match scope.names.lookup y.1 with | some .local=>true | _=>false)
  | .free=>(match xs.lookup y.1 with | some .cell=>true | some .free=>true | _=>false)
  | _=>true) && cq xn scope.names N js
theorem gy.of {X:Cx}{N:List Str}{js:List (Option Nat)}{scope:Scope}(h:kg X.N X.env.scope.names N js scope=true):gy X N js scope:=by
 unfold kg at h
 simp only [Bool.and_eq_true,List.all_eq_true] at h
 obtain ⟨⟨h1,h2⟩,h3⟩:=h
 refine ⟨?_,λy hy e=>?_,λy hy e=>?_,λy hy e=>?_,g8 h3,iP h3⟩
 . cases q:scope.kind <;> rw [q] at h1 <;> first | rfl | cases h1
 . have:=h2 y hy
   rw [e] at this
   cases this
 . have:=h2 y hy
   rw [e] at this
   cases q:scope.names.lookup y.1 with
   | none=>rw [q] at this; cases this
   | some k=>rw [q] at this; cases k <;> first | rfl | cases this
 . have:=h2 y hy
   rw [e] at this
   show X.env.scope.names.lookup y.1=some .cell\/X.env.scope.names.lookup y.1=some .free
   cases q:X.env.scope.names.lookup y.1 with
   | none=>rw [q] at this; cases this
   | some k=>rw [q] at this; cases k <;> first | exact .inl rfl | exact .inr rfl | cases this
def ja (js:List (Option Nat)) (σ:St):St:=js.map λoj=>match oj with | none=>none | some j=>(σ[j]?).getD none
section
variable {X:Cx}{pins:List (Addr×Obj)}{σ:St}{H:Hp}{s:Shared}
theorem Inv.enter {N:List Str}{js:List (Option Nat)}{scope:Scope}{cl:List (Str×Addr)}{C:Addr}{fp:List Addr}{h':Heap}{m:Str->Option Value}{tk:Nat}(I:Inv X pins σ H s) (S:gy X N js scope) (hc:X.calm=true)
 (jm:∀x c,cl.lookup x=some c->X.env.cells.lookup x=some c) (yp:∀x∈scope.names,x.2=NameKind.free->∃c,cl.lookup x.1=some c) (hC:C=s.heap.objs.size)
 (hf:∀b∈fp,ee X pins H b) (hl:∀b∈fp,b<s.heap.objs.size) (hn:h'.Ns C m) (k:∀b o,s.heap.get? b=some o->h'.get? b=some o) :
 Inv (bt X N scope cl C s H fp (X.pn++pins)) [] (ja js σ) H { s with heap:=h',toks:=tk }:=by
 have lt:∀b o,s.heap.get? b=some o->b≠C:=λb o e=>by
  rw [hC]
  exact Nat.ne_of_lt (Heap.lt_size e)
 have sX:∀x,scope.names.lookup x=some .free->∃c,cl.lookup x=some c:=λx e=>yp _ (lookup_mem e) rfl
 have stk:∀b,b≠X.env.locals->b∉X.fs->b∉il X.stack:=λb h1 h2 z=>(List.mem_cons.mp (I.jV b z)).elim h1 h2
 have ok:(bt X N scope cl C s H fp (X.pn++pins)).Ok:=by
  refine ⟨I.ok.mod,S.kind,I.ok.glob,I.ok.blt,Nat.le_of_eq hC.symm,λx y c e1 e2=>I.ok.inj x y c (jm x c e1) (jm y c e2),λx hx=>sX x (sW S.nocell hx),λx c e _=>?_,λ_=>I.ok.hd hc,
   I.ok.frames,.inl rfl,λb hb=>⟨?_,λx c e=>(hf b hb).2.2.2.2.1 x c (jm x c e)⟩,I.bs,Nat.le_trans I.ok.bsz I.sz,λb o e hb=>?_,λb hb=>stk b (hf b hb).2.1 (hf b hb).2.2.1,I.stack,I.pB⟩
  . cases e
  . show b≠C
    rw [hC]
    exact Nat.ne_of_lt (hl b hb)
  . rcases (hf b hb).2.2.2.1 with z | z
    . exact I.ok.noex b o e z
    . exact absurd (Nat.lt_of_lt_of_le (Heap.lt_size e) (Nat.le_trans I.ok.bsz z)) (Nat.lt_irrefl _)
 refine ⟨ok,rfl,I.bare,Un.kept k,⟨m,hn,λi x v e1 e2 e3=>?_⟩,λx c e=>?_,?_,λx c e=>I.freeC x c (jm x c e),λp hp=>?_,I.hok.kept k,?_⟩
 . -- a name that the block closes over
   have nI:(ja js σ)[i]?=some (some v):=e2
   unfold ja at nI
   rw [List.getElem?_map] at nI
   cases q:js[i]? with
   | none=>rw [q] at nI; cases nI
   | some oj=>
    rw [q] at nI
    cases oj with
    | none=>cases nI
    | some j=>
     have ev:(σ[j]?).getD none=some v:=Option.some.inj nI
     have Ho:σ[j]?=some (some v):=by
      cases z:σ[j]? with
      | none=>rw [z] at ev; cases ev
      | some o=>rw [z] at ev; exact congrArg some ev
     obtain ⟨n1,n2⟩:=S.pull i j x q e1
     obtain ⟨c,eI⟩:=sX x n2
     have Hq:=jm x c eI
     obtain ⟨m0,_,sY⟩:=I.loc
     have kx:=S.frees (x,.free) (lookup_mem n2) rfl
     have Cy:X.env.kindOf x=some .cell\/X.env.kindOf x=some .free:=kx
     obtain ⟨u,ru,lk⟩:=sY j x v n1 Ho (Cy.elim (λz=>.inr (.inl z)) λz=>.inr (.inr z))
     refine ⟨u,ru,.inr ⟨u4 n2,c,eI,?_⟩⟩
     rcases lk with ⟨kl,_⟩ | ⟨_,c2,e2,ic⟩
     . rcases Cy with z | z <;> (rw [kl] at z; cases z)
     . rw [Hq] at e2
       cases e2
       obtain ⟨o,ho,hd⟩:=ic
       exact ⟨o,k c o ho,hd⟩
 . obtain ⟨v,o,ho,hd⟩:=I.cell x c (jm x c e)
   exact ⟨v,o,k c o ho,hd⟩
 . show H C=none
   rw [hC]
   exact I.hok.fresh (Nat.le_refl _)
 . have Hr:p∈X.pn++pins:=by simpa [bt] using hp
   obtain ⟨e,n,ne,nf,d⟩:=I.pin p Hr
   exact ⟨k _ _ e,n,lt _ _ e,stk _ ne nf,d⟩
 . show (ja js σ).length=N.length
   unfold ja
   rw [List.length_map]
   exact S.len
theorem Inv.left {N:List Str}{scope:Scope}{cl:List (Str×Addr)}{C:Addr}{fp:List Addr}{Ln:St}{H':Hp}{s':Shared}{pn:List (Addr×Obj)}(I:Inv X pins σ H s) (hf:∀b∈fp,ee X pins H b)
 (J:Inv (bt X N scope cl C s H fp pn) [] Ln H' s'):Inv X pins σ H' s':=
 I.AA (ch:=fp) J.os J.base J.hok J.bare λb hb=>⟨(hf b hb).2.2.2.1,(hf b hb).2.1,(hf b hb).2.2.2.2.1,(hf b hb).2.2.2.2.2⟩
end
def nJ (X:Cx) (ifs:List Expr) (t:TT):Prop:=
 ∀(pins:List (Addr×Obj)) (s:Shared) (σ:St) (H:Hp) (Q:Bool->Hp->Prop),Inv X pins σ H s->t σ H Q->
  wpAny (model X.prog X.w) X.A (forIn ifs true λc r=>if r=true then do let ok ← isTrue c X.env (eval c X.env); pure (ForInStep.yield ok) else pure (ForInStep.yield r)) (TP X pins σ Q) X.xe s
def jH:TT:=λ_ H Q=>Q true H
theorem bz {X:Cx} : nJ X [] jH:=λpins s σ H Q I h=>by
 rw [List.forIn_nil]
 exact wpAny_pure ⟨H,I,h⟩
theorem u5 {X:Cx}{c:Expr}{t:TT}(hc:PT X c t):nJ X [c] t:=λpins s σ H Q I h=>by
 rw [List.forIn_cons]
 refine wpAny_bind ?_
 rw [if_pos rfl]
 refine wpAny_bind (aE (hc pins s σ H Q I h) λb s1 h1=>?_)
 refine wpAny_pure ?_
 show wpAny _ _ (forIn [] b _) _ _ _
 rw [List.forIn_nil]
 exact wpAny_pure h1
theorem nK {prog:Program}{w:World}{A:Around}{R:Result->Shared->Prop}{s:Shared}{elt target iter:Expr}{ifs:List Expr}{scope:Scope}{pos:Pos}{it acc:Value}{env:Env}(I:Nat->Shared->Prop)
 (turn:∀n s,I n s->wpAny (model prog w) A (pyNext it) (λr bw=>match r with
  | none=>R (.ok .next) bw
  | some v=>wpAny (model prog w) A (letOwnedTupleGo target it v) (λ_ Cz=>wpAny (model prog w) A (assign target env v) (λ_ lu=>
   wpAny (model prog w) A (forIn ifs true λc r=>if r=true then do let ok ← isTrue c env (eval c env); pure (ForInStep.yield ok) else pure (ForInStep.yield r)) (λok xb=>
    if ok=true then wpAny (model prog w) A (eval elt env) (λx Hs=>
     wpAny (model prog w) A (call (.builtin "list.append") [acc,x]) (λ_ Ht=>∃m,m<n/\I m Ht) (λ_ _=>False) Hs) (λ_ _=>False) xb
    else ∃m,m<n/\I m xb) (λ_ _=>False) lu) (λ_ _=>False) Cz) (λ_ _=>False) bw) (λ_ _=>False) s)
 (n:Nat) (h:I n s) :
 codeAny (model prog w) A (.compLoop (.ListComp elt [⟨target,iter,ifs,0⟩] scope pos) 0 it acc env) R s:=by
 refine codeAny_loop rfl I (λn s hI=>?_) n h
 show wpAny _ A ((compTurn (.ListComp elt [⟨target,iter,ifs,0⟩] scope pos) 0 it acc env).onRaise (λx=>do noteFrame x env; theTreesLotGoes x)) _ _ s
 refine wpAny_noted ?_
 rw [compTurn_list]
 refine wpAny_bind (wpAny_standAt (wpAny_bind (wpAny_mono (turn n s hI) (λr bw g6=>?_) λ_ _ h'=>h'.elim)))
 cases r with
 | none=>exact wpAny_pure g6
 | some v=>
  refine wpAny_bind (wpAny_mono g6 (λ_ Cz Hu=>?_) λ_ _ h'=>h'.elim)
  refine wpAny_bind (wpAny_mono Hu (λ_ lu nu=>wpAny_bind (wpAny_mono nu (λok xb qP=>?_) λ_ _ h'=>h'.elim)) λ_ _ h'=>h'.elim)
  cases ok with
  | false=>exact wpAny_pure ⟨rfl,qP⟩
  | true=>
   exact wpAny_bind (wpAny_bind (wpAny_mono qP (λx Hs yq=>wpAny_bind (wpAny_mono yq (λ_ Ht iQ=>wpAny_pure (wpAny_pure ⟨rfl,iQ⟩)) λ_ _ h'=>h'.elim)) λ_ _ h'=>h'.elim))
def sZ (D:Addr) (g:TG) (ti:TT) (te:TE) (J:It) (W:Nat->Nat->St->Hp->Prop) (Q:Hp->Prop):Prop:=∀i m σ H,W i m σ H->
 (J.stop i H/\Q H)\/(J.go i H/\∀x H',J.yld i H x H'->g x σ H' λfw H2=>ti fw H2 λb H3=>
  if b=true then te fw H3 λy H4=>∃acc,H4 D=some (.lst acc)/\acc.length<sizeLine/\∃m',m'<m/\W (i+1) m' fw (upd H4 D (.lst (acc++[y])))
  else ∃m',m'<m/\W (i+1) m' fw H3)
def yr (js:List (Option Nat)) (wi:TI) (g:TG) (ti:TT) (te:TE):TE:=λσ H Q=>wi σ H λJ H1=>∀D,H1 D=none->
 ∃W:Nat->Nat->St->Hp->Prop,(∃m,W 0 m (ja js σ) (upd H1 D (.lst [])))/\sZ D g ti te J W (λH'=>Q (.ref D) H')
section
variable {X:Cx}{N:List Str}{js:List (Option Nat)}{scope:Scope}{elt tg iter:Expr}{ifs:List Expr}{pos:Pos}{wi:TI}{g:TG}{ti:TT}{te:TE}
theorem tf {use:Option (Value->Sem Unit)}{R:Value->Shared->Prop}(S:gy X N js scope) (hc:X.calm=true) (hi:PI X tg iter wi)
 (hg:∀cl C s H fp pn,PG (bt X N scope cl C s H fp pn) tg g) (ht:∀cl C s H fp pn,nJ (bt X N scope cl C s H fp pn) ifs ti) (he:∀cl C s H fp pn,PE (bt X N scope cl C s H fp pn) elt te)
 (hs:∀x,foldedSetIterable iter X.env x=pure x){pins:List (Addr×Obj)}{s:Shared}{σ:St}{H:Hp}{Q:V->Hp->Prop}(I:Inv X pins σ H s) (h:yr js wi g ti te σ H Q)
 (hR:∀D C (H':Hp) (s':Shared),Inv X pins σ H' s'->(∃m,s'.heap.Ns C m)->H' C=none->C≠X.env.locals->(C∈X.ex\/X.eU.heap.objs.size<=C)->(∀x c,X.env.cells.lookup x=some c->c≠C)->(∀p∈X.pn++pins,p.1≠C)->Q (.ref D) H'->
  compPost (model X.prog X.w) X.A X.xe use R (.ref D) C (.ok .next) s') :
 wpAny (model X.prog X.w) X.A (comprehension (.ListComp elt [⟨tg,iter,ifs,0⟩] scope pos) scope X.env (firstIterPos [⟨tg,iter,ifs,0⟩] pos) (newList []) false (eval iter X.env) use) R X.xe s:=by
 obtain ⟨cl,A3,jm,yp⟩:=lD (scope:=scope) (env:=X.env) λx hx hk=>I.ok.has x.1 (S.frees x hx hk)
 refine wpAny_comprehension_free (use:=use) rfl hs A3 S.kind S.names (aE (hi pins s σ H _ I h) λxv s1 h1=>aE h1 λxY s2 h2=>?_)
 obtain ⟨it,fp,tn,J,H2,e,I2,T,vN,f2,q2⟩:=h2
 subst e
 refine wpAny_newObj_type (wpAny_newFunctionEnv S.nocell (by intro y hy; simp at hy) (λg6 u6 u7=>?_) S.kind)
 dsimp only at u6 u7 ⊢
 have I3:Inv X pins σ (upd H2 s2.heap.objs.size (.lst [])) { s2 with heap:=s2.heap.push { cls:=.type "list",data:=.seq ([]:List Value).toArray },toks:=s2.toks }:=I2.uY .nil (by show 0<=sizeLine; decide)
 have lt2:∀b∈fp,b<s2.heap.objs.size:=λb hb=>let ⟨o,e,_⟩:=T.obj _ _ vN b hb; Heap.lt_size e
 have f3:∀b∈fp,ee X pins (upd H2 s2.heap.objs.size (.lst [])) b:=λb hb=>⟨by rw [ai (Nat.ne_of_lt (lt2 b hb))]; exact (f2 b hb).1,(f2 b hb).2⟩
 obtain ⟨W,⟨m0,w0⟩,turn⟩:=q2 s2.heap.objs.size (I2.hok.fresh (Nat.le_refl _))
 generalize vZ:({ s2 with heap:=s2.heap.push { cls:=.type "list",data:=.seq ([]:List Value).toArray },toks:=s2.toks } : Shared)=s3 at I3
 have e3:s3.heap=s2.heap.push { cls:=.type "list",data:=.seq ([]:List Value).toArray }:=by rw [← vZ]
 have z3:s3.heap.objs.size=s2.heap.objs.size+1:=by rw [e3,Heap.size_push]
 have k1:∀b o,s3.heap.get? b=some o->g6.get? b=some o:=λb o e=>by
  have hb:b<s3.heap.objs.size:=Heap.lt_size e
  refine u7.extBut b o ?_ (Heap.get?_push_of_some _ (by rw [← e3]; exact e))
  rw [← e3]
  exact Nat.ne_of_lt hb
 have hC:(s2.heap.push { cls:=.type "list",data:=.seq ([]:List Value).toArray }).objs.size=s3.heap.objs.size:=by rw [e3]
 have I4:=I3.enter (N:=N) (js:=js) (scope:=scope) (cl:=cl) (fp:=fp) (C:=(s2.heap.push { cls:=.type "list",data:=.seq ([]:List Value).toArray }).objs.size) (h':=g6) (tk:=s2.toks+([]:List (Str×Value)).length) S hc jm yp hC f3
  (λb hb=>by rw [z3]; exact Nat.lt_succ_of_lt (lt2 b hb)) u6 k1
 have CA:tn 0 g6:=T.keep _ _ _ vN λb hb o e=>k1 b o (by rw [e3]; exact Heap.get?_push_of_some _ e)
 generalize LD:(s2.heap.push { cls:=.type "list",data:=.seq ([]:List Value).toArray }).objs.size=C at u6 u7 hC I4 ⊢
 have Hv:({ s3 with heap:=g6,toks:=s2.toks+([]:List (Str×Value)).length } : Shared) = { s2 with heap:=g6,toks:=s2.toks+([]:List (Str×Value)).length }:=by rw [← vZ]
 rw [Hv] at I4
 have fY:∀{H':Hp},(∀b∈fp,H' b=none)->∀b∈fp,ee (bt X N scope cl C s3 (upd H2 s2.heap.objs.size (.lst [])) fp (X.pn++pins)) [] H' b:=λhn b hb=>by
  obtain ⟨f0,fa,fb,fc,fd,fe⟩:=f3 b hb
  refine ⟨hn b hb,?_,λz=>(List.mem_cons.mp (I3.jV b z)).elim fa fb,.inl hb,λx c e=>fd x c (jm x c e),λp hp=>fe p (by simpa [bt] using hp)⟩
  show b≠C
  rw [hC,z3]
  exact Nat.ne_of_lt (Nat.lt_succ_of_lt (lt2 b hb))
 have loop:codeAny (model X.prog X.w) X.A (.compLoop (.ListComp elt [⟨tg,iter,ifs,0⟩] scope pos) 0 (.ref it) (.ref s2.heap.objs.size) (compEnvC scope cl C X.env))
  (compPost (model X.prog X.w) X.A X.xe use R (.ref s2.heap.objs.size) C) { s2 with heap:=g6,toks:=s2.toks+([]:List (Str×Value)).length }:=by
  refine nK (λn s'=>∃i bW H',Inv (bt X N scope cl C s3 (upd H2 s2.heap.objs.size (.lst [])) fp (X.pn++pins)) [] bW H' s'/\tn i s'.heap/\(∀b∈fp,H' b=none)/\W i n bW H') ?_ m0
   ⟨0,_,_,I4,CA,λb hb=>(f3 b hb).1,w0⟩
  rintro n s5 ⟨i,A4,H5,I5,pH,vO,w5⟩
  rcases turn i n A4 H5 w5 with ⟨stop,qn⟩ | ⟨go,step⟩
  . refine aE (T.done (bt X N scope cl C s3 (upd H2 s2.heap.objs.size (.lst [])) fp (X.pn++pins)) rfl rfl rfl rfl i [] s5 A4 H5 (λ_ _=>False) I5 (fY vO) pH stop) λr s6 ⟨hr,I6⟩=>?_
    subst hr
    have I7:Inv X pins σ H5 s6:=I3.left f3 I6
    have Hw:X.eU.heap.objs.size<=C:=by rw [hC]; exact I3.sz
    refine hR s2.heap.objs.size C H5 s6 I7 (let ⟨m,hn,_⟩:=I6.loc; ⟨m,hn⟩) I6.free ?_ (.inr Hw) (λx c e z=>?_) (λp hp z=>?_) qn
    . rw [hC]
      exact Nat.ne_of_gt I3.lt
    . obtain ⟨v,o,ho,_⟩:=I3.cell x c e
      have:=Heap.lt_size ho
      rw [z,hC] at this
      exact Nat.lt_irrefl _ this
    . obtain ⟨e,_⟩:=I3.pin p hp
      have:=Heap.lt_size e
      rw [z,hC] at this
      exact Nat.lt_irrefl _ this
  . refine aE (T.item (bt X N scope cl C s3 (upd H2 s2.heap.objs.size (.lst [])) fp (X.pn++pins)) rfl rfl rfl rfl i [] s5 A4 H5 (λ_ _=>False) I5 (fY vO) pH go) λr s6 ⟨u,hr,h6⟩=>?_
    subst hr
    refine aE h6 λ_ s7 ⟨x,H7,I7,r7,y7,yt,Hy⟩=>?_
    have Hz:=I7.pinned (fY Hy) (T.obj _ _ yt)
    have again:∀{n':Nat}{tj:St}{H8:Hp}{s8:Shared},Inv (bt X N scope cl C s3 (upd H2 s2.heap.objs.size (.lst [])) fp (X.pn++pins)) ([]++iE fp s7.heap) tj H8 s8->n'<n->W (i+1) n' tj H8->
     ∃m,m<n/\∃i bW H',Inv (bt X N scope cl C s3 (upd H2 s2.heap.objs.size (.lst [])) fp (X.pn++pins)) [] bW H' s8/\tn i s8.heap/\(∀b∈fp,H' b=none)/\W i m bW H':=λ{n' tj H8 s8} I8 hm w8=>by
     refine ⟨n',hm,i+1,tj,H8,I8.gY,T.keep _ _ _ yt λb hb o e=>(I8.pin (b,o) (List.mem_append_right _ (List.mem_append_right _ (eZ hb e)))).1,λb hb=>?_,w8⟩
     obtain ⟨o,e,d⟩:=T.obj _ _ yt b hb
     exact (I8.pin (b,o) (List.mem_append_right _ (List.mem_append_right _ (eZ hb e)))).2.1
    refine aE (hg _ _ _ _ _ _ _ s7 A4 H7 x u _ Hz r7 (step x H7 y7)) λ_ s8 ⟨tj,H8,I8,q8⟩=>?_
    refine aE (ht _ _ _ _ _ _ _ s8 tj H8 _ I8 q8) λok s9 ⟨H9,I9,q9⟩=>?_
    cases ok with
    | false=>
     rw [if_neg Bool.false_ne_true] at q9 ⊢
     obtain ⟨m',hm,w9⟩:=q9
     exact again I9 hm w9
    | true=>
     rw [if_pos rfl] at q9 ⊢
     refine aE (he _ _ _ _ _ _ _ s9 tj H9 _ I9 q9) λyv HA ⟨y,CB,HB,HC,acc,hD,hl,m',hm,HD⟩=>?_
     refine aE (gh _ HA tj CB (.ref s2.heap.objs.size) [y] (.ref s2.heap.objs.size) [yv] (λ_ H'=>H'=upd CB s2.heap.objs.size (.lst (acc++[y]))) HB rfl (.cons HC .nil) ⟨s2.heap.objs.size,acc,y,rfl,rfl,hD,hl,rfl⟩) λ_ LF ⟨_,LG,HE,_,HF⟩=>?_
     subst HF
     exact again HE hm HD
 exact codeAny_compStart_list loop (T.self _ 0 _ _ _ CA loop)
theorem dk (S:kg X.N X.env.scope.names N js scope=true) (hc:X.calm=true) (hi:PI X tg iter wi)
 (hg:∀cl C s H fp pn,PG (bt X N scope cl C s H fp pn) tg g) (ht:∀cl C s H fp pn,nJ (bt X N scope cl C s H fp pn) ifs ti) (he:∀cl C s H fp pn,PE (bt X N scope cl C s H fp pn) elt te)
 (hs:∀x,foldedSetIterable iter X.env x=pure x:=by intro _; rfl):PE X (.ListComp elt [⟨tg,iter,ifs,0⟩] scope pos) (yr js wi g ti te):=by
 intro pins s σ H Q I h
 rw [eval_ListComp]
 refine tf (use:=none) (gy.of S) hc hi hg ht he hs I h ?_
 rintro D C H' s' I' ⟨m,hn⟩ c1 c2 c3 c4 c5 q
 refine ⟨m,hn,λh' yu=>?_⟩
 exact ⟨.ref D,H',I'.turned (t':=s'.toks) (λb o hb e=>yu.extBut b o hb e) c1 c2 c3 c4 c5,rfl,q⟩
theorem qV {i:Nat}{x:Str}{pos' yw:Pos}(hN:X.N.Nodup) (HG:X.N[i]?=some x) (hx:X.env.scope.names.lookup x=some .local) (S:kg X.N X.env.scope.names N js scope=true) (hc:X.calm=true) (hi:PI X tg iter wi)
 (hg:∀cl C s H fp pn,PG (bt X N scope cl C s H fp pn) tg g) (ht:∀cl C s H fp pn,nJ (bt X N scope cl C s H fp pn) ifs ti) (he:∀cl C s H fp pn,PE (bt X N scope cl C s H fp pn) elt te)
 (HH:swapsWith (.ListComp elt [⟨tg,iter,ifs,0⟩] scope pos) (some (.Name x pos')) yw.line X.env=pure true:=by rfl)
 (hs:∀x,foldedSetIterable iter X.env x=pure x:=by intro _; rfl):PS X (.Assign [.Name x pos'] (.ListComp elt [⟨tg,iter,ifs,0⟩] scope pos) yw) (uM (yr js wi g ti te) (cD i)):=by
 intro pins s σ H D I h
 rw [exec_Assign_Name_used _ _ _ _ HH]
 refine wpAny_bind (wpAny_standAt (wpAny_bind ?_))
 show wpAny _ X.A (do let _ ← comprehension (.ListComp elt [⟨tg,iter,ifs,0⟩] scope pos) scope X.env _ (newList []) false (eval iter X.env) (some (assign (.Name x pos') X.env))) _ _ s
 refine wpAny_bind (aE (tf (use:=some (assign (.Name x pos') X.env)) (R:=λ_ s'=>SP X pins D .next s') (gy.of S) hc hi hg ht he hs I h ?_) λ_ s' hq=>wpAny_pure (wpAny_pure hq))
 rintro Dd C H' s' I' ⟨m,hn⟩ c1 c2 c3 c4 c5 q
 show wpAny _ X.A (assign (.Name x pos') X.env (.ref Dd)) _ _ _
 refine wpAny_assign_Name (lP I' hN HG (.inl hx) (v:=.ref Dd) rfl (λsI HI ⟨a,sb,ha⟩=>?_) (.inr hx))
 have ea:a≠C:=by
  rcases ha with ha | ha
  . rw [ha]
    exact Ne.symm c2
  . exact c4 x a ha
 refine ⟨m,hn.sameBut sb (Ne.symm ea),λh' yu=>?_⟩
 exact ⟨_,_,HI.turned (t':=sI.toks) (λb o hb e=>yu.extBut b o hb e) c1 c2 c3 c4 c5,q⟩
end
def v9 (D:Addr) (n:Nat) (Pv:Nat->List V->St->Hp->Prop):Nat->Nat->St->Hp->Prop:=λi m σ H=>i<=n/\m=n-i/\∃acc,H D=some (.lst acc)/\Pv i acc σ H
theorem cG {D:Addr}{n i:Nat}{Pv:Nat->List V->St->Hp->Prop}{acc:List V}{σ:St}{H:Hp}(hi:i<n) (hD:H D=some (.lst acc)) (hp:Pv (i+1) acc σ H):∃m',m'<n-i/\v9 D n Pv (i+1) m' σ H:=
 ⟨n-(i+1),by omega,hi,rfl,acc,hD,hp⟩
theorem gi {D:Addr}{g:TG}{ti:TT}{te:TE}{J:It}{Q:Hp->Prop}{HJ:St}{H0:Hp}(n:Nat) (Pv:Nat->List V->St->Hp->Prop) (h0:Pv 0 [] HJ H0) (HK:H0 D=some (.lst []))
 (fin:∀acc σ H,H D=some (.lst acc)->Pv n acc σ H->J.stop n H/\Q H)
 (step:∀i acc σ H,i<n->H D=some (.lst acc)->Pv i acc σ H->J.go i H/\∀x H',J.yld i H x H'->g x σ H' λfw H2=>ti fw H2 λb H3=>
  if b=true then te fw H3 λy H4=>∃acc,H4 D=some (.lst acc)/\acc.length<sizeLine/\∃m',m'<n-i/\v9 D n Pv (i+1) m' fw (upd H4 D (.lst (acc++[y]))) else ∃m',m'<n-i/\v9 D n Pv (i+1) m' fw H3) :
 ∃W:Nat->Nat->St->Hp->Prop,(∃m,W 0 m HJ H0)/\sZ D g ti te J W Q:=by
 refine ⟨v9 D n Pv,⟨n,Nat.zero_le _,rfl,[],HK,h0⟩,?_⟩
 rintro i m σ H ⟨hi,rfl,acc,hD,hp⟩
 rcases Nat.lt_or_ge i n with h | h
 . exact .inr (step i acc σ H h hD hp)
 . have e:i=n:=Nat.le_antisymm hi h
   subst e
   exact .inl (fin acc σ H hD hp)
end L2
namespace L2
open PySem PySem.Spec PyProof.Rows
section
variable {X:Cx}{pins:List (Addr×Obj)}{σ:St}{H:Hp}{s:Shared}{h':Heap}
theorem Inv.pQ {t':Nat}{fp:List Addr}(I:Inv X pins σ H s) (hf:∀b∈fp,ee X pins H b) (k:∀b o,b∉fp->s.heap.get? b=some o->h'.get? b=some o):Inv X pins σ H { s with heap:=h',toks:=t' }:=by
 have tm:∀b u,H b=some u->b∉fp:=λb u e z=>by rw [(hf b z).1] at e; cases e
 refine I.step (g':=s.gens) (d':=s.drawn) (ch:=fp) (λb hb=>⟨(hf b hb).2.2.2.1,(hf b hb).2.1,(hf b hb).2.2.2.2.1,(hf b hb).2.2.2.2.2⟩) (λb o _ _ hc e _=>k b o hc e) (λb o _ _ hc e _=>⟨o.slots,k b o hc e⟩) (λ_ _ _ _ n=>n)
  (λb o hc e=>⟨o,k b o hc e⟩) (λ_ _ e=>e) (λ_ _ _ e=>e) (λb ps e=>⟨#[],by rw [e]; simp⟩) (λm hm=>?_) (λb u e=>?_) I.bare
 . obtain ⟨o,es,ep,ho,r⟩:=hm
   exact ⟨o,es,ep,k _ o (λz=>(hf _ z).2.1 rfl) ho,r⟩
 . refine (I.hok b u e).de (λc v hc q=>k c v ?_ q) (λ_ q=>q) λ_ _ q=>q
   rcases hc with z | z
   . rw [z]; exact tm b u e
   . exact tm c _ z
theorem Inv.pR {t':Nat}{fp:List Addr}{T:Addr}{xs:List V}{its:List Value}(I:Inv X pins σ H s) (hf:∀b∈fp,ee X pins H b) (k:∀b o,b∉fp->s.heap.get? b=some o->h'.get? b=some o)
 (hT:s.heap.objs.size<=T) (ht:IsTup h' T its.toArray) (rv:Vals xs its) (hz:xs.length<=sizeLine):Inv X pins σ (upd H T (.tup xs)) { s with heap:=h',toks:=t' }:=by
 have tm:∀b u,H b=some u->b∉fp:=λb u e z=>by rw [(hf b z).1] at e; cases e
 have pS:H T=none:=I.hok.fresh hT
 have neT:∀b u,H b=some u->b≠T:=λb u e z=>by rw [z,pS] at e; cases e
 have HL:∀b o,s.heap.get? b=some o->b≠T:=λb o e=>Nat.ne_of_lt (Nat.lt_of_lt_of_le (Heap.lt_size e) hT)
 refine I.step (g':=s.gens) (d':=s.drawn) (ch:=fp) (λb hb=>⟨(hf b hb).2.2.2.1,(hf b hb).2.1,(hf b hb).2.2.2.2.1,(hf b hb).2.2.2.2.2⟩) (λb o _ _ hc e _=>k b o hc e) (λb o _ _ hc e _=>⟨o.slots,k b o hc e⟩)
  (λb o _ e n=>by rw [ai (HL b o e)]; exact n) (λb o hc e=>⟨o,k b o hc e⟩) (λb ys e=>by rw [ai (neT b _ e)]; exact e) (λb o u e=>by rw [ai (neT b _ e)]; exact e)
  (λb ps e=>⟨#[],by rw [ai (neT b _ e),e]; simp⟩) (λm hm=>?_) (λb u e=>?_) I.bare
 . obtain ⟨o,es,ep,ho,r⟩:=hm
   exact ⟨o,es,ep,k _ o (λz=>(hf _ z).2.1 rfl) ho,r⟩
 . by_cases hb:b=T
   . subst hb
     rw [ag] at e
     cases e
     exact ⟨hz,its,rv,ht⟩
   . rw [ai hb] at e
     refine (I.hok b u e).de (λc v hc q=>k c v ?_ q) (λc q=>by rw [ai (neT c _ q)]; exact q) λc ys q=>by rw [ai (neT c _ q)]; exact q
     rcases hc with z | z
     . rw [z]; exact tm b u e
     . exact tm c _ z
end
def yx (z:Str):It:=⟨λi _=>i<z.cps.size,λi H x H'=>H'=H/\∃c,z.cps[i]?=some c/\x=.str ⟨#[c]⟩,λi _=>i=z.cps.size⟩
theorem nL {P:Program}{w:World}{K:W.Frag}{tg:Expr}(it:Addr) (z:Str) (t:Tok) (ty:String) (W:∀A:Around,A.handled=none->Walks P w A it [it] [it] z.cps.size (SignAt z) (λi h=>h.IsStrIter it ty z t i))
 (hs:∀(A:Around) (i:Nat) (s:Shared) (Q:Value->Shared->Prop) (E:Value->Shared->Prop),s.heap.IsStrIter it ty z t i->Q (.ref it) s->wpAny (model P w) A (pyIter (.ref it)) Q E s)
 (hn:["enumerate", "zip", "dict_itemiterator", "dict_reverseitemiterator", "odict_iterator", "itertools.zip_longest", "itertools.pairwise"].contains ty=false) :
 Turn P w K tg (yx z) [it] it (λi h=>h.IsStrIter it ty z t i) where
 mem:=by simp
 obj:=λi h st b hb=>by
  have e:b=it:=by simpa using hb
  subst e
  obtain ⟨o,e,c,d⟩:=st
  exact ⟨o,e,λv z=>by rw [d] at z; cases z⟩
 keep:=λi h h' st k=>let ⟨o,e,r⟩:=st; ⟨o,k it (by simp) o e,r⟩
 item:=by
  intro X hP hw hK hc i pins s σ H E I hf st hg
  subst hP hw hK
  obtain ⟨f0,f1,f2,f3,f4,f5⟩:=hf it (by simp)
  refine (W X.A (I.ok.hd hc)).item i s _ _ hg st λv h' tk hv lR kk=>?_
  obtain ⟨c,u,ec,rfl⟩:=hv
  have I1:Inv X pins σ H { s with heap:=h',toks:=tk }:=I.turned (λb o hb e=>kk b o (by simpa using hb) e) f0 f1 f3 f4 f5
  obtain ⟨o,e,oc,od⟩:=id lR
  exact ⟨_,rfl,qF (s:={ s with heap:=h',toks:=tk }) e oc od hn ⟨.str ⟨#[c]⟩,H,I1,⟨u,rfl⟩,⟨rfl,c,ec,rfl⟩,lR,λb hb=>(hf b hb).1⟩⟩
 done:=by
  intro X hP hw hK hc i pins s σ H E I hf st hg
  subst hP hw hK
  obtain ⟨f0,f1,f2,f3,f4,f5⟩:=hf it (by simp)
  have HM:i=z.cps.size:=hg
  subst HM
  exact (W X.A (I.ok.hd hc)).done s _ _ st λh' tk kk=>⟨rfl,I.turned (λb o hb e=>kk b o (by simpa using hb) e) f0 f1 f3 f4 f5⟩
 self:=λA i s Q E st h=>hs A i s Q E st h
section
variable {X:Cx}{tg:Expr}
def EF (ts:TE):TI:=λσ H R=>ts σ H λx H1=>∃z,x=.str z/\R (yx z) H1
theorem kh {l:Expr}{tl:TE}(hl:PE X l tl):PI X tg l (EF tl):=by
 intro pins s σ H R I h
 refine aE (hl pins s σ H _ I h) λv s1 ⟨x,H1,I1,r1,q1⟩=>?_
 obtain ⟨z,e,q⟩:=q1
 subst e
 obtain ⟨t,rfl⟩:=r1
 have fin:∀b∈[s1.heap.objs.size],ee X pins H1 b:=λb hb=>by
  have e:b=s1.heap.objs.size:=by simpa using hb
  subst e
  exact I1.nh (Nat.le_refl _) (I1.hok.fresh (Nat.le_refl _))
 cases ha:z.cps.all (· < 128) with
 | true=>
  refine wpAny_pyIter_ascii ha ?_
  exact ⟨s1.heap.objs.size,[s1.heap.objs.size],_,_,H1,rfl,I1.kept (t':=s1.toks) λb o e=>Heap.get?_push_of_some _ e,
   nL _ z t "str_ascii_iterator" (λA hA=>Walks.strAscii hA _ z t) (λ_ _ _ _ _ st h=>wpAny_pyIter_striter_ascii st h) (by decide),⟨_,Heap.get?_push_size _ rfl,rfl,rfl⟩,fin,q⟩
 | false=>
  refine wpAny_pyIter_wide ha ?_
  exact ⟨s1.heap.objs.size,[s1.heap.objs.size],_,_,H1,rfl,I1.kept (t':=s1.toks) λb o e=>Heap.get?_push_of_some _ e,
   nL _ z t "str_iterator" (λA hA=>Walks.strWide hA _ z t) (λ_ _ _ _ _ st h=>wpAny_pyIter_striter_wide st h) (by decide),⟨_,Heap.get?_push_size _ rfl,rfl,rfl⟩,fin,q⟩
end
def CC (K:W.Frag) (a:Addr):It:=
 ⟨λi H=>∃xs x,ay K H a xs/\xs[i]?=some x,λi H v H'=>∃T x,v=.ref T/\H T=none/\H'=upd H T (.tup [.int (i:Int),x])/\∀xs,ay K H a xs->xs[i]?=some x,λi H=>∃xs,ay K H a xs/\xs.length<=i⟩
theorem tq {P:Program}{w:World}{K:W.Frag}{es:List Expr}{kk:Nat}{tp:Pos}(a e it:Addr) (CD:e≠it):Turn P w K (.Tuple es kk tp) (CC K a) [e,it] e (λi h=>(∃old,IsEnum h e it (i:Int) old)/\h.IsListIter it a i) where
 mem:=by simp
 obj:=λi h st b hb=>by
  obtain ⟨⟨old,he⟩,o,e1,c,d⟩:=st
  rcases List.mem_cons.mp hb with z | z
  . subst z
    exact ⟨_,he,λv z=>by
     have z':Data.fields _=Data.cell v:=z
     cases z'⟩
  . have z':b=it:=by simpa using z
    subst z'
    exact ⟨o,e1,λv z=>by rw [d] at z; cases z⟩
 keep:=λi h h' st k=>⟨let ⟨old,he⟩:=st.1; ⟨old,k e (by simp) _ he⟩,st.2.at λo e1=>k it (by simp) o e1⟩
 item:=by
  intro X hP hw hK hc i pins s σ H E I hf st hg
  subst hP hw hK
  obtain ⟨xs,x,hq,hx⟩:=hg
  obtain ⟨its,rv,p,hz⟩:=I.list hq
  obtain ⟨u,hu,ru⟩:=rv.get hx
  obtain ⟨⟨old,he⟩,hit⟩:=st
  refine wpAny_pyNext_enum_item he hit p.isList (x:=u) (by simpa using hu) CD λh' ho EG hT hsz hk=>?_
  refine ⟨.ref s.heap.objs.size,rfl,?_⟩
  refine wpAny_letOwnedTupleGo_enum ho λh2 HN iG=>?_
  have CF:s.heap.objs.size≠e:=Nat.ne_of_gt (Heap.lt_size he)
  have HP:h2.get? s.heap.objs.size=some { cls:=.type "tuple",data:=.seq #[.int i s.toks,u] }:=(iG.2 _ CF).trans hT
  have I1:Inv X pins σ (upd H s.heap.objs.size (.tup [.int (i:Int),x])) { s with heap:=h2,toks:=s.toks+1 }:=I.pR (its:=[.int i s.toks,u]) hf (λb o hb e1=>by
   have b1:b≠e:=λz=>hb (by simp [z])
   have b2:b≠it:=λz=>hb (by simp [z])
   exact (iG.2 b b1).trans (hk b o b1 b2 e1)) (Nat.le_refl _) ⟨_,HP,rfl,_,rfl⟩ (.cons ⟨_,rfl⟩ (.cons ru .nil)) (by show 2<=sizeLine; decide)
  have fr:H s.heap.objs.size=none:=I.hok.fresh (Nat.le_refl _)
  refine ⟨.ref s.heap.objs.size,_,I1,rfl,⟨s.heap.objs.size,x,rfl,fr,rfl,λys hy=>by rw [I.mX hy hq]; exact hx⟩,⟨⟨u,?_⟩,EG.at λo e1=>(iG.2 it CD.symm).trans e1⟩,λb hb=>?_⟩
  . have e3:(((i+1:Nat):Nat):Int)=(i:Int)+1:=by omega
    rw [e3]
    exact HN
  . have ki:=(hf b hb).1
    have nb:b≠s.heap.objs.size:=by
     rcases List.mem_cons.mp hb with z | z
     . rw [z]; exact Ne.symm CF
     . have z':b=it:=by simpa using z
       rw [z']
       obtain ⟨o,e1,_⟩:=hit
       exact Nat.ne_of_lt (Heap.lt_size e1)
    rw [ai nb]
    exact ki
 done:=by
  intro X hP hw hK hc i pins s σ H E I hf st hg
  subst hP hw hK
  obtain ⟨xs,hq,hx⟩:=hg
  obtain ⟨its,rv,p,hz⟩:=I.list hq
  obtain ⟨⟨old,he⟩,hit⟩:=st
  have hl:=rv.length
  exact wpAny_pyNext_enum_end (I.ok.hd hc) he hit p.isList (by simp; omega) λh' eb=>⟨rfl,I.pQ (t':=s.toks) hf λb o hb e1=>eb b o (λz=>hb (by simp [z])) e1⟩
 self:=λ_ _ _ _ _ st h=>let ⟨old,he⟩:=st.1; wpAny_pyIter_enum he h
section
variable {X:Cx}
def A5 (K:W.Frag) (ta:TA):TI:=λσ H R=>ta σ H λvs H1=>∃a,vs=[.ref a]/\(∃xs,ay K H1 a xs)/\R (CC K a) H1
theorem xm {es:List Expr}{kk:Nat}{tp:Pos}{a:Expr}{ta:TA}{p pos:Pos}(hg:Gl X "enumerate") (hm:X.mg "enumerate" = none) (ha:PA X [a] ta) (hs:starEach [a] X.env=[(false,eval a X.env)]:=by rfl) :
 PI X (.Tuple es kk tp) (.Call (.Name "enumerate" p) [a] [] pos) (A5 X.K ta):=by
 intro pins s σ H R I h
 refine Call_ (eJ I hg hm boot_enumerate (PyProof.Rows.callWith_type1 (aE (ha pos pins s σ H _ I h) λus s1 ⟨vs,H1,I1,r1,q1⟩=>?_) hs rfl))
 obtain ⟨l,e,⟨xs,hq⟩,q⟩:=q1
 subst e
 cases r1 with
 | cons r rr=>
  cases rr
  cases r
  obtain ⟨its,rv,pl,hz⟩:=I1.list hq
  refine call_enumerate_list pl.isList λh' he hit hsz hk=>?_
  refine wpAny_pyIter_enum he ?_
  have I2:Inv X pins σ H1 { s1 with heap:=h' }:=I1.kept (t':=s1.toks) hk
  refine ⟨s1.heap.objs.size+1,[s1.heap.objs.size+1,s1.heap.objs.size],_,_,H1,rfl,I2,tq l _ _ (Nat.ne_of_gt (Nat.lt_succ_self _)),⟨⟨_,he⟩,hit⟩,λb hb=>?_,q⟩
  have ki:s1.heap.objs.size<=b:=by
   rcases List.mem_cons.mp hb with z | z
   . rw [z]; exact Nat.le_succ _
   . have z':b=s1.heap.objs.size:=by simpa using z
     rw [z']; exact Nat.le_refl _
  exact I1.nh ki (I1.hok.fresh ki)
end
section
variable {X:Cx}
def EH:V->Option Int->Option Int->Hp->VK->Prop:=λx lo hi H Q=>∃z j,x=.str z/\lo=none/\hi=some j/\z.length<=sizeLine/\Q (.str (Txt.slice z none (some j))) H
theorem kj:yg X EH:=by
 intro pins s σ H x v vl vu lo hi sl Q I rx hs pl pu h
 obtain ⟨z,j,rfl,rfl,rfl,hz,q⟩:=h
 obtain ⟨t,rfl⟩:=rx
 cases pl
 cases pu with
 | int _ uj=>
  refine ⟨"str",_,F.slot_str_getitem.lookup,typeIs_str _ _ _,wpAny_getItem_str_slice (l:=none) (u:=some (j,uj)) (st:=none) hs rfl
   (post_val_or_str ⟨Nat.le_trans (Txt.slice_le z _ _) hz,λt' k=>⟨.str (Txt.slice z none (some j)),H,I.tok k,⟨t',rfl⟩,q⟩⟩)⟩
def rJoin (K:W.Frag):V->List V->Hp->VK->Prop:=λx vs H Q=>∃z a ys,x=.str z/\vs=[.ref a]/\ay K H a (ys.map V.str)/\(ys.map (·.length)).sum+ys.length*z.length<=16777216/\Q (.str (Txt.join z ys)) H
theorem km:∀{ys:List Str}{us:List Value},Vals (ys.map V.str) us->StrsAre us ys
 | [],us,r=>by
  cases r
  exact .nil
 | y::ys,us,r=>by
  cases r with
  | cons h t=>
   obtain ⟨tk,rfl⟩:=h
   exact .cons _ _ (km t)
theorem xo:vV X "str.join" (rJoin X.K):=by
 intro pins s σ H x vs v us Q I rx rv h
 obtain ⟨z,a,ys,rfl,rfl,hq,hl,q⟩:=h
 obtain ⟨t,rfl⟩:=rx
 obtain ⟨u,rfl,ru⟩:=rv.one
 cases ru
 obtain ⟨its,r,pl,_⟩:=I.list hq
 exact join_list pl.isList (by simpa using km r) hl λt' k=>⟨.str (Txt.join z ys),H,I.tok k,⟨t',rfl⟩,q⟩
def yy:V->List V->Hp->VK->Prop:=λx vs H Q=>∃z y,x=.str z/\vs=[.str y]/\z.length<=sizeLine/\(y.length == 0)=false/\
 (Builtin.Str.partsBetween z (Builtin.Str.occurrences z y 0 z.length (z.length+1)) y.length).length<=sizeLine/\∀p,H p=none->Q (.ref p) (upd H p (.lst ((Txt.split z y).map V.str)))
theorem iy:∀(tk:Nat) (xs:List Str),Vals (xs.map V.str) (strValues (numbered tk xs))
 | _,[]=>.nil
 | tk,x::r=>.cons ⟨tk,rfl⟩ (iy (tk+1) r)
theorem split_le (z y:Str) (h:(Builtin.Str.partsBetween z (Builtin.Str.occurrences z y 0 z.length (z.length+1)) y.length).length<=sizeLine):(Txt.split z y).length<=sizeLine:=by
 unfold Txt.split
 split
 . show 1<=sizeLine; decide
 . split
   . show 1<=sizeLine; decide
   . exact h
theorem u9:vV X "str.split" yy:=by
 intro pins s σ H x vs v us Q I rx rv h
 obtain ⟨z,y,rfl,rfl,hz,hy,hl,q⟩:=h
 obtain ⟨t,rfl⟩:=rx
 obtain ⟨u,rfl,tu,rfl⟩:=rv.one
 have ko:=split_le z y hl
 have fin:∀(l:List (Str×Tok)) (tk:Nat),Vals ((Txt.split z y).map V.str) (strValues l)->
  EP X pins σ Q (.ref s.heap.objs.size) { s with heap:=s.heap.push { cls:=.type "list",data:=.seq (strValues l).toArray },toks:=tk }:=λl tk r=>
  ⟨.ref s.heap.objs.size,_,I.uY r (by rw [List.length_map]; exact ko),rfl,q _ (I.hok.fresh (Nat.le_refl _))⟩
 cases h1:(decide (z.length<y.length) || decide (Builtin.Str.strKind z<Builtin.Str.strKind y)) with
 | true=>
  refine call_meets F.slot_str_split (typeIs_str _ _ _) F.entry_str_split (F.args_str_split_2 _ _) (meets_str_split_cannot_occur z y t tu h1) ?_
  exact fin [(z,t)] s.toks (by
   have e:Txt.split z y=[z]:=if_pos h1
   rw [e]
   exact .cons ⟨t,rfl⟩ .nil)
 | false=>
  cases hf:(Builtin.Str.occurrences z y 0 z.length (z.length+1)).isEmpty with
  | true=>
   refine call_meets F.slot_str_split (typeIs_str _ _ _) F.entry_str_split (F.args_str_split_2 _ _) (meets_str_split_not_found z y t tu h1 hy hf) ?_
   exact fin [(z,t)] s.toks (by
    have e:Txt.split z y=[z]:=(if_neg (ne_true_of_eq_false h1)).trans (if_pos hf)
    rw [e]
    exact .cons ⟨t,rfl⟩ .nil)
  | false=>
   refine call_meets F.slot_str_split (typeIs_str _ _ _) F.entry_str_split (F.args_str_split_2 _ _) (meets_str_split_sep z y t tu h1 hy hf hz hl) ?_
   have e:Txt.split z y=Builtin.Str.partsBetween z (Builtin.Str.occurrences z y 0 z.length (z.length+1)) y.length:=(if_neg (ne_true_of_eq_false h1)).trans (if_neg (ne_true_of_eq_false hf))
   have:=fin (numbered s.toks (Builtin.Str.partsBetween z (Builtin.Str.occurrences z y 0 z.length (z.length+1)) y.length)) (s.toks+(Builtin.Str.partsBetween z (Builtin.Str.occurrences z y 0 z.length (z.length+1)) y.length).length) (by
    rw [e]
    exact iy _ _)
   show EP X pins σ Q _ { s with toks:=_,heap:=s.heap.push { cls:=.type "list",data:=.seq (strsFrom s.toks (Builtin.Str.partsBetween z (Builtin.Str.occurrences z y 0 z.length (z.length+1)) y.length)).toArray } }
   rw [strsFrom_eq]
   exact this
end
section
variable {X:Cx}
end
section
variable {prog:Program}{w:World}{A:Around}{E:Value->Shared->Prop}
end
section
variable {X:Cx}{pos:Pos}
end
end L2
namespace Gen
open PySem
theorem nM {α:Type}[DecidableEq α]:∀(l t:List α),l.Nodup->(∀x∈l,x∈t)->l.length<=t.length
 | [],t,_,_=>Nat.zero_le _
 | a::l,t,hn,hs=>by
  have ha:a∈t:=hs a List.mem_cons_self
  obtain ⟨h1,h2⟩:=List.nodup_cons.mp hn
  have:=nM l (t.erase a) h2 λx hx=>(List.mem_erase_of_ne (λ(e:x=a)=>h1 (by rw [← e]; exact hx))).mpr (hs x (List.mem_cons_of_mem _ hx))
  rw [List.length_erase_of_mem ha] at this
  have:0<t.length:=List.length_pos_of_mem ha
  simp only [List.length_cons]
  omega
theorem qW (k len:Nat):Builtin.Str.strSliceIndices none (some (k:Int)) 1 len=List.range (min k len):=by
 have h1:¬ ((k:Int)<0):=by omega
 have e:max (0:Int) (min (k:Int) (len:Int))=((min k len:Nat):Int):=by omega
 simp only [Builtin.Str.strSliceIndices,sliceRange,h1,if_false,show ((1:Int)>0)=True from by simp,if_true,e]
 by_cases h:(0:Int)<((min k len:Nat):Int)
 . have e3:(((min k len:Nat):Int)-0+1-1) / 1=((min k len:Nat):Int):=by simp
   rw [if_pos h,e3,Int.toNat_natCast]
   conv=>rhs; rw [← List.map_id (List.range (min k len))]
   exact List.map_congr_left λj _=>by simp
 . have:min k len=0:=by omega
   simp [this]
theorem pj {α:Type}(l:List α) (n:Nat) (h:n<=l.length):(List.range n).filterMap (l[·]?)=l.take n:=by
 have:=StrLaws.picks l n 0 (by omega)
 simpa using this
theorem jI (x:Str) (k:Nat):(Txt.slice x none (some (k:Int))).cps.toList=x.cps.toList.take k:=by
 unfold Txt.slice
 rw [qW]
 have hl:x.cps.toList.length=x.length:=by simp [Str.length]
 split
 . rename_i h
   simp only [beq_self_eq_true,Bool.true_and,List.length_range,beq_iff_eq] at h
   rw [List.take_of_length_le]
   omega
 . have e:(λ(i:Nat)=>x.cps[i]?)=(λ(i:Nat)=>x.cps.toList[i]?):=by funext i; simp
   show (List.filterMap (λ(i:Nat)=>x.cps[i]?) (List.range (min k x.length))).toArray.toList=_
   rw [List.toList_toArray,e,pj _ _ (by omega)]
   rcases Nat.le_total k x.length with h | h
   . rw [Nat.min_eq_left h]
   . rw [Nat.min_eq_right h,List.take_of_length_le (by omega),List.take_of_length_le (by omega)]
def ar:List Nat:=(List.range 26).map (· + 97)
theorem jn {c:Nat} : c∈ar ↔ 97<=c/\c<=122:=by
 unfold ar
 simp only [List.mem_map,List.mem_range]
 constructor
 . rintro ⟨a,h,rfl⟩; omega
 . intro h; exact ⟨c-97,by omega,by omega⟩
def isName (n:List Nat):Prop:=1<=n.length/\n.length<=8/\∀c∈n,c∈ar
def jJ (n:List Nat):List (List Nat):=
 [n]++ar.map (λc=>n.take 7++[c])++ar.map (λc=>n.take 6++[c,113])++ar.map (λc=>n.take 6++[c,122])++ar.map (λc=>n.take 5++[c,113,122])
theorem tw {n x:List Nat}(hn:isName n) (hx:x∈jJ n):isName x:=by
 obtain ⟨h1,h2,h3⟩:=hn
 have tk:∀k,∀c∈n.take k,c∈ar:=λk c hc=>h3 c (List.mem_of_mem_take hc)
 have va:113∈ar:=by decide
 have vb:122∈ar:=by decide
 unfold jJ at hx
 simp only [List.mem_append,List.mem_singleton,List.mem_map] at hx
 rcases hx with (((rfl | ⟨c,hc,rfl⟩) | ⟨c,hc,rfl⟩) | ⟨c,hc,rfl⟩) | ⟨c,hc,rfl⟩
 . exact ⟨h1,h2,h3⟩
 all_goals
  refine ⟨by simp,by simp only [List.length_append,List.length_take,List.length_cons,List.length_nil]; omega,λd hd=>?_⟩
  simp only [List.mem_append,List.mem_cons,List.not_mem_nil,or_false] at hd
  rcases hd with hd | hd
  . exact tk _ d hd
  . rcases hd with rfl | hd <;> first | exact hc | (rcases hd with rfl | hd <;> first | exact va | exact vb | (rcases hd with rfl <;> first | exact va | exact vb)) | (subst hd; first | exact va | exact vb)
def sub (n:List Nat):List (List Nat):=
 (ar.filter λc=>decide (c≠113/\c≠122)).map (λc=>n.take 7++[c])++ar.map (λc=>n.take 6++[c,113])++ar.map (λc=>n.take 6++[c,122])
  ++ (ar.filter λc=>decide (some c≠n[5]?)).map (λc=>n.take 5++[c,113,122])
theorem vc {n x:List Nat}(h:x∈sub n):x∈jJ n:=by
 unfold sub at h
 unfold jJ
 simp only [List.mem_append,List.mem_singleton,List.mem_map,List.mem_filter] at h ⊢
 rcases h with ((⟨c,⟨hc,_⟩,rfl⟩ | ⟨c,hc,rfl⟩) | ⟨c,hc,rfl⟩) | ⟨c,⟨hc,_⟩,rfl⟩
 . exact .inl (.inl (.inl (.inr ⟨c,hc,rfl⟩)))
 . exact .inl (.inl (.inr ⟨c,hc,rfl⟩))
 . exact .inl (.inr ⟨c,hc,rfl⟩)
 . exact .inr ⟨c,hc,rfl⟩
theorem dm:ar.Nodup:=by decide
theorem cY {l:List Nat}(hl:l.Nodup) (p q:List Nat):(l.map λc=>p++c::q).Nodup:=by
 induction l with
 | nil=>exact List.nodup_nil
 | cons a l ih=>
  obtain ⟨h1,h2⟩:=List.nodup_cons.mp hl
  rw [List.map_cons,List.nodup_cons]
  refine ⟨λh=>?_,ih h2⟩
  obtain ⟨b,hb,e⟩:=List.mem_map.mp h
  have:=List.append_cancel_left e
  injection this with e1 _
  exact h1 (e1 ▸ hb)
theorem xp {p:List Nat}{a:Nat} : (p++[a]).getLast?=some a:=by simp
theorem tD (n:List Nat):(sub n).Nodup:=by
 unfold sub
 have qX:∀x∈ar.map (λc=>n.take 6++[c,113]),x.getLast?=some 113:=λx hx=>by
  obtain ⟨c,_,rfl⟩:=List.mem_map.mp hx
  simp
 have wa:∀x∈ar.map (λc=>n.take 6++[c,122]),x.getLast?=some 122:=λx hx=>by
  obtain ⟨c,_,rfl⟩:=List.mem_map.mp hx
  simp
 have wb:∀x∈(ar.filter λc=>decide (some c≠n[5]?)).map (λc=>n.take 5++[c,113,122]),x.getLast?=some 122:=λx hx=>by
  obtain ⟨c,_,rfl⟩:=List.mem_map.mp hx
  simp
 have qY:∀x∈(ar.filter λc=>decide (c≠113/\c≠122)).map (λc=>n.take 7++[c]),x.getLast?≠some 113/\x.getLast?≠some 122:=λx hx=>by
  obtain ⟨c,hc,rfl⟩:=List.mem_map.mp hx
  obtain ⟨_,hc⟩:=List.mem_filter.mp hc
  have eI:=of_decide_eq_true hc
  rw [xp]
  exact ⟨λe=>eI.1 (Option.some.inj e),λe=>eI.2 (Option.some.inj e)⟩
 refine List.nodup_append.mpr ⟨List.nodup_append.mpr ⟨List.nodup_append.mpr ⟨cY (dm.filter _) _ _,cY dm _ _,?_⟩,cY dm _ _,?_⟩,cY (dm.filter _) _ _,?_⟩
 . intro a ha b hb e
   exact (qY a ha).1 (e ▸ qX b hb)
 . intro a ha b hb e
   rcases List.mem_append.mp ha with ha | ha
   . exact (qY a ha).2 (e ▸ wa b hb)
   . have:=qX a ha
     rw [e,wa b hb] at this
     cases this
 . intro a ha b hb e
   rcases List.mem_append.mp ha with ha | ha
   . rcases List.mem_append.mp ha with ha | ha
     . exact (qY a ha).2 (e ▸ wb b hb)
     . have:=qX a ha
       rw [e,wb b hb] at this
       cases this
   . obtain ⟨c,_,rfl⟩:=List.mem_map.mp ha
     obtain ⟨d,hd,rfl⟩:=List.mem_map.mp hb
     obtain ⟨_,hd⟩:=List.mem_filter.mp hd
     have hd':some d≠n[5]?:=of_decide_eq_true hd
     rcases Nat.lt_or_ge 5 n.length with hl | hl
     . -- both have eight letters
       have e5:(n.take 6++[c,122])[5]?=(n.take 5++[d,113,122])[5]?:=by rw [e]
       have t6:(n.take 6).length=6:=by rw [List.length_take]; omega
       have t5:(n.take 5).length=5:=by rw [List.length_take]; omega
       rw [List.getElem?_append_left (by omega),List.getElem?_append_right (by omega),t5,List.getElem?_take] at e5
       simp at e5
       exact hd' e5.symm
     . have el:=congrArg List.length e
       simp only [List.length_append,List.length_take,List.length_cons,List.length_nil] at el
       omega
theorem qZ (n:List Nat):100<=(sub n).length:=by
 unfold sub
 simp only [List.length_append,List.length_map]
 have h1:ar.length=26:=by decide
 have h2:(ar.filter λc=>decide (c≠113/\c≠122)).length=24:=by decide
 have h3:25<=(ar.filter λc=>decide (some c≠n[5]?)).length:=by
  cases n[5]? with
  | none=>
   have:(ar.filter λc=>decide (some c≠none))=ar:=List.filter_eq_self.mpr λc _=>by simp
   rw [this,h1]
   decide
  | some d=>
   have e:(ar.filter λc=>decide (some c≠some d))=ar.filter λc=>c != d:=by
    apply List.filter_congr
    intro c _
    by_cases h:c=d
    . subst h; simp
    . simp [h]
   rw [e]
   by_cases hd:d∈ar
   . obtain ⟨a,b⟩:=jn.mp hd
     have:∀k,k<26->25<=(ar.filter λc=>c != k+97).length:=by decide
     have:=this (d-97) (by omega)
     rw [show d-97+97=d by omega] at this
     exact this
   . have:(ar.filter λc=>c != d)=ar:=List.filter_eq_self.mpr λc hc=>by
      have:c≠d:=λe=>hd (e ▸ hc)
      simpa using this
     rw [this,h1]
     decide
 rw [h1,h2]
 omega
theorem tE (n:List Nat) (told:List (List Nat)) (h:told.length<100):∃x∈jJ n,x∉told:=by
 apply Classical.byContradiction
 intro hx
 have all:∀x∈sub n,x∈told:=λx hs=>Classical.byContradiction λht=>hx ⟨x,vc hs,ht⟩
 have:=nM (sub n) told (tD n) all
 have:=qZ n
 omega
end Gen
namespace Gen
open PySem
theorem tF:("" : Str).cps.toList=[]:=by decide +kernel
theorem A6:("q" : Str).cps.toList=[113]:=by decide +kernel
theorem A7:("z" : Str).cps.toList=[122]:=by decide +kernel
theorem yz:("qz" : Str).cps.toList=[113,122]:=by decide +kernel
theorem pT:("abcdefghijklmnopqrstuvwxyz" : Str).cps.toList=ar:=by decide +kernel
theorem lE (a b:Str):(a++b).cps.toList=a.cps.toList++b.cps.toList:=by rw [Str.cps_append,Array.toList_append]
theorem nO:∀ys:List Str,(Str.join "" ys).cps.toList=(ys.map (·.cps.toList)).flatten
 | []=>rfl
 | [x]=>by simp [Str.join]
 | x::y::r=>by
  have ih:=nO (y::r)
  show (x ++ "" ++ Str.join "" (y::r)).cps.toList=_
  rw [lE,lE,ih,tF]
  simp
theorem tG (ys:List Str):(Txt.join "" ys).cps.toList=(ys.map (·.cps.toList)).flatten:=by
 unfold Txt.join
 rw [StrLaws.glued_eq_join]
 exact nO ys
def c7 (n:Str):List Str:=ar.map λc=>Txt.slice n none (some 7)++⟨#[c]⟩
def wc (n:Str):List Str:=ar.map λc=>Txt.slice n none (some 6)++⟨#[c]⟩ ++ "q"
def wd (n:Str):List Str:=ar.map λc=>Txt.slice n none (some 6)++⟨#[c]⟩ ++ "z"
def c5 (n:Str):List Str:=ar.map λc=>Txt.slice n none (some 5)++⟨#[c]⟩ ++ "qz"
def bu (n:Str):List Str:=[n]++c7 n++wc n++wd n++c5 n
theorem ma (n:Str):(bu n).map (·.cps.toList)=jJ n.cps.toList:=by
 have s7:=jI n 7
 have s6:=jI n 6
 have s5:=jI n 5
 have e7:((7:Nat):Int)=7:=rfl
 have e6:((6:Nat):Int)=6:=rfl
 have e5:((5:Nat):Int)=5:=rfl
 rw [e7] at s7
 rw [e6] at s6
 rw [e5] at s5
 unfold bu jJ c7 wc wd c5
 simp only [List.map_append,List.map_map,List.map_cons,List.map_nil,Function.comp_def,lE,s7,s6,s5,A6,A7,yz,List.append_assoc,List.cons_append,List.nil_append]
def cQ (z:Str):Prop:=isName z.cps.toList
theorem q0 {n z:Str}(hn:cQ n) (hz:z∈bu n):cQ z:=by
 refine tw hn ?_
 rw [← ma]
 exact List.mem_map.mpr ⟨z,hz,rfl⟩
theorem rf (n:Str) (told:List Str) (h:told.length<100):∃x∈bu n,x∉told:=by
 obtain ⟨x,hx,ht⟩:=tE n.cps.toList (told.map (·.cps.toList)) (by simpa using h)
 rw [← ma] at hx
 obtain ⟨z,hz,rfl⟩:=List.mem_map.mp hx
 exact ⟨z,hz,λhm=>ht (List.mem_map.mpr ⟨z,hm,rfl⟩)⟩
def cg:List Str:=["switch", "keep", "gate", "next", "never", "some", "wall", "row", "step", "piece", "lasso"]
theorem pk:Txt.split "switch keep gate next never some wall row step piece lasso" " " = cg:=by decide +kernel
theorem pq:∀x∈cg,cQ x:=by
 have h:cg.all (λx=>decide (1<=x.cps.toList.length) && decide (x.cps.toList.length<=8) && x.cps.toList.all λc=>decide (c∈ar))=true:=by decide +kernel
 intro x hx
 have:=List.all_eq_true.mp h x hx
 simp only [Bool.and_eq_true,decide_eq_true_eq,List.all_eq_true] at this
 exact ⟨this.1.1,this.1.2,this.2⟩
theorem cQ.len {z:Str}(h:cQ z):z.length<=8:=by
 have:=h.2.1
 simpa [Str.length] using this
theorem pw {ys:List Str}(h1:1<=ys.length) (h2:ys.length<=8) (h:∀y∈ys,∃c∈ar,y=⟨#[c]⟩):cQ (Txt.join "" ys):=by
 have e:∀zs:List Str,(∀y∈zs,∃c∈ar,y=⟨#[c]⟩)->(zs.map (·.cps.toList)).flatten.length=zs.length/\∀c∈(zs.map (·.cps.toList)).flatten,c∈ar:=by
  intro zs
  induction zs with
  | nil=>intro _; exact ⟨rfl,λc hc=>by simp at hc⟩
  | cons z zs ih=>
   intro hz
   obtain ⟨c,hc,rfl⟩:=hz z List.mem_cons_self
   obtain ⟨i1,i2⟩:=ih λy hy=>hz y (List.mem_cons_of_mem _ hy)
   refine ⟨?_,λd hd=>?_⟩
   . rw [List.map_cons,List.flatten_cons,List.length_append,i1]
     simp
     omega
   . rw [List.map_cons,List.flatten_cons,List.mem_append] at hd
     rcases hd with hd | hd
     . have:d=c:=by simpa using hd
       rw [this]; exact hc
     . exact i2 d hd
 obtain ⟨e1,e2⟩:=e ys h
 unfold cQ isName
 rw [tG,e1]
 exact ⟨h1,h2,e2⟩
end Gen
namespace Gen
open PySem L2
def top (i:Nat):Stmt:=PySem.Challenge.pw_everguard_k41_both_either_opposite.main.body.getD i (.Pass ⟨0,0,0,0⟩)
abbrev jb:Stmt:=top 8
abbrev jK:Stmt:=top 9
abbrev jc:Stmt:=top 10
abbrev g9:Stmt:=top 11
abbrev eO:Stmt:=top 12
structure Own (mg:Str->Option Value):Prop where
 len:mg "len" = none
 range:mg "range" = none
 enum:mg "enumerate" = none
 list:mg "list" = none
def hJ (xs:List V):Prop:=(∃a:Int,xs=[.int a])\/∃a b:Int,xs=[.int a,.int b]
def bg (H H':Hp) (l:Addr):Prop:=∀b o,H b=some o->b≠l->H' b=some o
theorem bg.trans {H H1 H2:Hp}{l:Addr}(a:bg H H1 l) (b:bg H1 H2 l):bg H H2 l:=λc o h n=>b c o (a c o h n) n
theorem bg.refl (H:Hp) (l:Addr):bg H H l:=λ_ _ h _=>h
theorem ak.keep {H H':Hp}(s:ak H H') (l:Addr):bg H H' l:=λb o h _=>s b o h
theorem bg.aA {H:Hp}{l p:Addr}{o:HO}(hp:H p=none):bg H (upd H p o) l:=λb u h _=>by rw [ai (ah h hp)]; exact h
theorem ak.aA {H:Hp}{p:Addr}{o:HO}(hp:H p=none):ak H (upd H p o):=λb u h=>by rw [ai (ah h hp)]; exact h
theorem bg.tH {H:Hp}{l:Addr}{o:HO} : bg H (upd H l o) l:=λb u h n=>by rw [ai n]; exact h
theorem bg.seq {K:W.Frag}{H H':Hp}{a l:Addr}{xs:List V}{n:List V}(e:bg H H' l) (hl:H l=some (.lst n)) (h:ay K H a xs) (iw:a≠l):ay K H' a xs:=by
 rcases h with (h | ⟨o,h⟩) | h
 . exact .inl (.inl (e a _ h iw))
 . exact .inl (.inr ⟨o,e a _ h iw⟩)
 . exact .inr h
def kq (K:W.Frag):Sp:=λvs H Q _=>∃(a:Addr) (ns:List Int) (k:Int),vs=[.ref a,.int k]/\ay K H a (ns.map V.int)/\0<=k/\∀v:Int,Q (.int v) H
def we:Sp:=λvs H Q _=>∃(c k:Int),vs=[.int c,.int k]/\0<=k/\k<=1000000/\∀v:Int,0<=v->v<1999999973->Q (.int v) H
def kr:Sp:=λvs H Q _=>∃(c k:Int),vs=[.int c,.int k]/\0<=k/\k<=1000/\∀v:Int,Q (.int v) H
def ku:Sp:=λvs H Q _=>∃(l:Addr) (xs:List V) (m:Int),vs=[.ref l,.int m]/\H l=some (.lst xs)/\hJ xs/\0<m/\m<1073741824/\
 ∀(d:Int) (ys:List V) (H':Hp),0<=d->d<m->hJ ys->H' l=some (.lst ys)->bg H H' l->Q (.int d) H'
section
variable {P:Program}{w:World}{K:W.Frag}{mg:Str->Option Value}{base:Heap}
theorem yA:aQ ["_law_script", "_law_k"] ["_law_script", "_law_k"] (aj jb):=⟨rfl,rfl,rfl,by decide +kernel,rfl,by decide +kernel,by decide +kernel⟩
theorem xq {f:Addr}{fd:FuncData}(F:bY K "_law_cell_at" "_law_cell_at" jb f fd) (T:Own mg):av P w K mg base aH 1 f fd ["_law_script", "_law_k"] (kq K):=by
 refine F.ok yA (λvs H Q E h=>?_) (λcdv A outer s H vs Q E hr h=>?_)
 . obtain ⟨a,ns,k,rfl,_⟩:=h
   rfl
 . obtain ⟨a,ns,k,rfl,hS,h0,kk⟩:=h
   refine ⟨_,ae (bf (bq qJ (pv 1) (aO aP (by rfl) T.len PySem.boot_len (aa (pv 0) ab)) (bp _)) (aq (aJ (aM br (pv 0) (pv 1) (λ_ _=>rfl)))) aN)
    (aq (aJ af)),?_⟩
   refine ⟨_,rfl,_,rfl,a,_,rfl,.inl hS,_,_,rfl,rfl,_,rfl,?_⟩
   refine jG (λhc=>?_) (λ_=>kk 0)
   have eI:k<((ns.map V.int).length:Int):=of_decide_eq_true hc
   rw [List.length_map] at eI
   have hk:k.toNat<ns.length:=by omega
   have e:((k.toNat:Nat):Int)=k:=by omega
   have tI:ir (ns.map V.int) ((k.toNat:Nat):Int)=some (.int ns[k.toNat]):=aF (by rw [List.getElem?_map,List.getElem?_eq_getElem hk]; rfl)
   rw [e] at tI
   exact ⟨_,rfl,_,rfl,a,_,_,.int ns[k.toNat],rfl,rfl,hS,tI,kk _⟩
theorem wg:aQ ["_law_cell", "_law_k", "_law_m"] ["_law_cell", "_law_k"] (aj jK):=⟨rfl,rfl,rfl,by decide +kernel,rfl,by decide +kernel,by decide +kernel⟩
theorem yB {f:Addr}{fd:FuncData}(F:bY K "_law_mix" "_law_mix" jK f fd):av P w K mg base aH 1 f fd ["_law_cell", "_law_k"] we:=by
 refine F.ok wg (λvs H Q E h=>?_) (λcdv A outer s H vs Q E hr h=>?_)
 . obtain ⟨c,k,rfl,_⟩:=h
   rfl
 . obtain ⟨c,k,rfl,h0,h1,kk⟩:=h
   refine ⟨_,ae (ax (i:=2) wg.nd rfl (Or.inl rfl) (aG fG (aG dQ (aG dg (aG dg (aG fG (pv 0) af) (aG dQ (aG dQ (pv 1) (pv 1)) af)) af) af) af))
    (aq (aJ (aG fG (aG dQ (pv 2) (pv 2)) af))),?_⟩
   refine ⟨_,rfl,_,_,rfl,rfl,(by show (0:Int)<2147483629; decide),_,rfl,_,rfl,_,_,rfl,rfl,.inl ⟨by omega,by omega⟩,_,_,rfl,rfl,.inr ⟨by decide,by decide⟩,_,_,rfl,rfl,_,_,rfl,rfl,
    _,_,rfl,rfl,.inr ⟨by decide,by decide⟩,_,_,rfl,rfl,(by show (0:Int)<2147483647; decide),?_⟩
   generalize hm:((c % 2147483629+k*k*7919+11)*48271 % 2147483647:Int)=m
   have m0:0<=m:=by rw [← hm]; exact Int.emod_nonneg _ (by decide)
   have m1:m<2147483647:=by rw [← hm]; exact Int.emod_lt_of_pos _ (by decide)
   refine ⟨_,rfl,_,rfl,_,_,rfl,rfl,.inl ⟨by omega,by omega⟩,_,_,rfl,rfl,(by show (0:Int)<1999999973; decide),?_⟩
   exact kk _ (Int.emod_nonneg _ (by decide)) (Int.emod_lt_of_pos _ (by decide))
theorem ky:aQ ["_law_cell", "_law_k", "_law_number_here", "_law_j"] ["_law_cell", "_law_k"] (aj jc):=⟨rfl,rfl,rfl,by decide +kernel,rfl,by decide +kernel,by decide +kernel⟩
theorem xr {f fM:Addr}{fd yC:FuncData}(F:bY K "_law_rich" "_law_rich" jc f fd) (T:Own mg) (FM:bY K "_law_mix" "_law_mix" jK fM yC) (bM:Binds K yC ["_law_cell", "_law_k"] []) (mM:mg "_law_mix" = some (.ref fM)) :
 av P w K mg base aH 2 f fd ["_law_cell", "_law_k"] kr:=by
 have GM:av P w K mg base aH 1 fM yC ["_law_cell", "_law_k"] we:=yB FM
 refine F.ok ky (λvs H Q E h=>?_) (λcdv A outer s H vs Q E hr h=>?_)
 . obtain ⟨c,k,rfl,_⟩:=h
   rfl
 . obtain ⟨c,k,rfl,h0,h1,kk⟩:=h
   refine ⟨_,ae (ax (i:=2) ky.nd rfl (Or.inl rfl) af)
    (ae (fz PassesOwn.never rfl (cp rfl T.range (aa af ab)) (aU (i:=3) ky.nd rfl (Or.inl rfl))
     (aq (ax (i:=2) ky.nd rfl (Or.inl rfl) (aG dg (aG dQ (pv 2) af) (az GM hr rfl mM FM.kp bM .nil aw (aa (pv 0) (aa (aG dg (aG dQ af (pv 1)) (pv 3)) ab)))))))
    (aq (aJ (pv 2)))),?_⟩
   refine ⟨12,rfl,by decide,by decide,du (n:=12) (λi σ H2=>H2=H/\∃(n:Int) (v:Option V),σ=[some (.int c),some (.int k),some (.int n),v]) ⟨rfl,0,none,rfl⟩ ?_ ?_⟩
   . rintro i σ H2 hi ⟨rfl,n,v,rfl⟩
     refine ⟨_,rfl,_,_,rfl,rfl,.inr ⟨by decide,by decide⟩,_,rfl,_,rfl,_,_,rfl,rfl,.inl ⟨by decide,by decide⟩,_,rfl,_,_,rfl,rfl,?_⟩
     refine ⟨_,_,rfl,by omega,by omega,λv CG wj=>⟨_,_,rfl,rfl,rfl,_,_,rfl⟩⟩
   . rintro σ H2 ⟨rfl,n,v,rfl⟩
     exact ⟨_,rfl,kk n⟩
theorem tJ:aQ ["_law_left", "_law_many", "_law_digit"] ["_law_left", "_law_many"] (aj g9):=⟨rfl,rfl,rfl,by decide +kernel,rfl,by decide +kernel,by decide +kernel⟩
theorem pU {f:Addr}{fd:FuncData}(F:bY K "_law_pick" "_law_pick" g9 f fd) (T:Own mg):av P w K mg base aH 1 f fd ["_law_left", "_law_many"] ku:=by
 refine F.ok tJ (λvs H Q E h=>?_) (λcdv A outer s H vs Q E hr h=>?_)
 . obtain ⟨l,xs,m,rfl,_⟩:=h
   rfl
 . obtain ⟨l,xs,m,rfl,hl,hp,m0,m1,kk⟩:=h
   refine ⟨_,ae (ax (i:=2) tJ.nd rfl (Or.inl rfl) (aG fG (aM br (pv 0) af (λ_ _=>rfl)) (pv 1)))
    (ae (rY (aG gw (aM br (pv 0) af (λ_ _=>rfl)) (pv 1)) (rX (pv 0) af set_list))
    (aq (aJ (pv 2)))),?_⟩
   rcases hp with ⟨a,rfl⟩ | ⟨a,b,rfl⟩
   . refine ⟨_,rfl,l,_,_,.int a,rfl,rfl,ay.of hl,rfl,_,rfl,_,_,rfl,rfl,m0,?_⟩
     refine ⟨_,rfl,l,_,_,.int a,rfl,rfl,ay.of hl,rfl,_,rfl,_,_,rfl,rfl,⟨m0,m1⟩,_,rfl,l,_,_,0,rfl,rfl,hl,rfl,?_⟩
     exact ⟨_,rfl,kk _ _ _ (Int.emod_nonneg _ (by omega)) (Int.emod_lt_of_pos _ m0) (.inl ⟨_,rfl⟩) ag bg.tH⟩
   . refine ⟨_,rfl,l,_,_,.int a,rfl,rfl,ay.of hl,rfl,_,rfl,_,_,rfl,rfl,m0,?_⟩
     refine ⟨_,rfl,l,_,_,.int a,rfl,rfl,ay.of hl,rfl,_,rfl,_,_,rfl,rfl,⟨m0,m1⟩,_,rfl,l,_,_,0,rfl,rfl,hl,rfl,?_⟩
     exact ⟨_,rfl,kk _ _ _ (Int.emod_nonneg _ (by omega)) (Int.emod_lt_of_pos _ m0) (.inr ⟨_,_,rfl⟩) ag bg.tH⟩
end
end Gen
namespace Gen
open PySem L2
theorem small {n:Nat}(h:n<=1000):n<sizeLine:=l7 h
theorem yD {n:Nat}(h:n<=1000):n<=sizeLine:=Nat.le_of_lt (l7 h)
def lF (K:W.Frag):Sp:=λvs H Q _=>∃(l t:Addr) (xs:List V) (told:List Str),vs=[.ref l,.ref t]/\H l=some (.lst xs)/\hJ xs/\t≠l/\ay K H t (told.map V.str)/\told.length<100/\
 ∀(z:Str) (ys:List V) (H':Hp),cQ z->z∉told->hJ ys->H' l=some (.lst ys)->bg H H' l->Q (.str z) H'
theorem pV (z:Str) (told:List Str):vU (.str z) (told.map V.str)=decide (z∈told):=by
 unfold vU
 rw [Bool.eq_iff_iff,List.any_eq_true,decide_eq_true_eq]
 constructor
 . rintro ⟨v,hv,e⟩
   obtain ⟨y,hy,rfl⟩:=List.mem_map.mp hv
   have:y=z:=by simpa [iu] using e
   rw [← this]; exact hy
 . intro h
   exact ⟨.str z,List.mem_map.mpr ⟨z,h,rfl⟩,by simp [iu]⟩
theorem tK (told:List Str):(told.map V.str).all fg=true:=by
 rw [List.all_eq_true]
 intro v hv
 obtain ⟨y,_,rfl⟩:=List.mem_map.mp hv
 rfl
theorem tL {i:Nat}{c:Nat}(h:("abcdefghijklmnopqrstuvwxyz" : Str).cps[i]?=some c):ar[i]?=some c:=by
 rw [← pT]
 simpa using h
theorem tM {α β:Type}{l:List α}{i:Nat}{c:α}(f:α->β) (h:l[i]?=some c):(l.take (i+1)).map f=(l.take i).map f++[f c]:=by
 rw [List.take_add_one,h]
 simp
theorem eP {i:Nat}{x:V}{σ:St}{H:Hp}{A B:St->Hp->Prop}(h:A (σ.set i (some x)) H):cD i x σ H (λfw H2=>jH fw H2 (λb H3=>if b=true then A fw H3 else B fw H3)):=by
 show (if true=true then A (σ.set i (some x)) H else B (σ.set i (some x)) H)
 rw [if_pos rfl]
 exact h
theorem A8:(["_law_k", "_law_left", "_law_letters"]:List Str).Nodup:=by decide +kernel
theorem rg:(["_law_one", "_law_name"]:List Str).Nodup:=by decide +kernel
theorem EI:(["_law_one", "_law_told"]:List Str).Nodup:=by decide +kernel
section
variable {P:Program}{w:World}{K:W.Frag}{mg:Str->Option Value}{base:Heap}
abbrev tN:List Str:=["_law_left", "_law_told", "_law_letters", "_law_words", "_law_size", "_law_name", "_law_some"]
theorem dz:aQ tN ["_law_left", "_law_told"] (aj eO):=⟨rfl,rfl,rfl,by decide +kernel,rfl,by decide +kernel,by decide +kernel⟩
theorem fh {D:Addr}{te:TE}{Q:Hp->Prop}{H1:Hp}{nm:Str}(f:Nat->Str) (hD:H1 D=none)
 (he:∀(c:Nat) (H:Hp) (R:VK),c∈ar->R (.str (f c)) H->te [some (.str ⟨#[c]⟩),some (.str nm)] H R)
 (fin:Q (upd H1 D (.lst ((ar.map f).map V.str)))) :
 ∃W:Nat->Nat->St->Hp->Prop,(∃m,W 0 m [none,some (.str nm)] (upd H1 D (.lst [])))/\sZ D (cD 0) jH te (yx "abcdefghijklmnopqrstuvwxyz") W Q:=by
 have hsz:("abcdefghijklmnopqrstuvwxyz" : Str).cps.size=26:=by decide +kernel
 have tO:ar.length=26:=by decide
 refine gi 26 (λi acc σ H=>acc=((ar.take i).map f).map V.str/\(∃v,σ=[v,some (.str nm)])/\H=upd H1 D (.lst acc)) ⟨rfl,⟨none,rfl⟩,rfl⟩ ag ?_ ?_
 . rintro acc σ H _ ⟨rfl,_,rfl⟩
   refine ⟨hsz.symm,?_⟩
   rw [List.take_of_length_le (by rw [tO]; decide)]
   exact fin
 . rintro i acc σ H hi cR ⟨rfl,⟨v,rfl⟩,rfl⟩
   refine ⟨by show i<_; rw [hsz]; exact hi,?_⟩
   rintro x H' ⟨rfl,c,hc,rfl⟩
   have eI:=tL hc
   refine eP ?_
   refine he c _ _ (List.mem_of_getElem? eI) ?_
   refine ⟨_,ag,?_,cG hi ag ⟨?_,⟨_,rfl⟩,?_⟩⟩
   . rw [List.length_map,List.length_map,List.length_take]
     exact small (by omega)
   . rw [tM f eI,List.map_append]
     rfl
   . rw [px]
theorem nP:∀zs:List Str,(∀y∈zs,∃c∈ar,y=⟨#[c]⟩)->(zs.map (·.length)).sum=zs.length
 | [],_=>rfl
 | z::zs,h=>by
  obtain ⟨c,_,rfl⟩:=h z List.mem_cons_self
  have ih:=nP zs λy hy=>h y (List.mem_cons_of_mem _ hy)
  rw [List.map_cons,List.sum_cons,ih,List.length_cons]
  show 1+zs.length=zs.length+1
  omega
theorem jL (n:Str) (h:cQ n) (k:Int):(Txt.slice n none (some k)).length<=8:=Nat.le_trans (Txt.slice_le n _ _) h.len
theorem fL (c:Nat):(⟨#[c]⟩:Str).length=1:=rfl
theorem nQ (a b:Str):(a++b).length=a.length+b.length:=Str.length_append a b
theorem dY {n:Nat}(h:n<=100):n<=sizeLine:=Nat.le_trans h (by decide)
abbrev xt (P:Program) (w:World) (K:W.Frag) (mg:Str->Option Value) (base:Heap) (f:Addr) (cdv:Value) (A:Around) (outer:List Env) (s:Shared) (H:Hp) (E:XK):Cx:=
 (gZ aH P w K mg base tN "_law_spelt" (aj eO) f cdv A outer s H E).mY
abbrev md:Str:="abcdefghijklmnopqrstuvwxyz"
theorem rh {f:Addr}{cdv:Value}{A:Around}{outer:List Env}{s:Shared}{H:Hp}{E:XK}{Q:VK}{l t:Addr}{told:List Str}(hS:ay K H t (told.map V.str)) (iw:t≠l) (fF:told.length<100) (sY:∃xs,H l=some (.lst xs))
 (kk:∀(z:Str) (ys:List V) (H':Hp),cQ z->z∉told->hJ ys->H' l=some (.lst ys)->bg H H' l->Q (.str z) H') :
 ∃tR:TS,fu (xt P w K mg base f cdv A outer s H E) (List.drop 5 (aK eO)) tR/\∀(nm:Str) (ys:List V) (H4:Hp) (w1:Addr) (sz:Int),cQ nm->hJ ys->H4 l=some (.lst ys)->bg H H4 l->
  tR { nx:=λ_ H'=>Q .aR H',rt:=Q } [some (.ref l),some (.ref t),some (.str md),some (.ref w1),some (.int sz),some (.str nm),none] H4:=by
 refine ⟨_,ae (ax (i:=6) dz.nd rfl (Or.inl rfl) (aG ke (aG ke (dW (aa (pv 5) ab))
  (dk (N:=["_law_one", "_law_name"]) (js:=[none,some 5]) (by kernel_rfl) rfl (kh (pv 2)) (λ_ _ _ _ _ _=>aU (i:=0) rg rfl (Or.inl rfl) (.inr rfl)) (λ_ _ _ _ _ _=>bz)
   (λ_ _ _ _ _ _=>aG cE (cF kj (pv 1) dv (cK af)) (pv 0))))
  (dk (N:=["_law_one", "_law_name"]) (js:=[none,some 5]) (by kernel_rfl) rfl (kh (pv 2)) (λ_ _ _ _ _ _=>aU (i:=0) rg rfl (Or.inl rfl) (.inr rfl)) (λ_ _ _ _ _ _=>bz)
   (λ_ _ _ _ _ _=>aG cE (aG cE (cF kj (pv 1) dv (cK af)) (pv 0)) fv))))
  (ae (ax (i:=6) dz.nd rfl (Or.inl rfl) (aG ke (aG ke (pv 6)
   (dk (N:=["_law_one", "_law_name"]) (js:=[none,some 5]) (by kernel_rfl) rfl (kh (pv 2)) (λ_ _ _ _ _ _=>aU (i:=0) rg rfl (Or.inl rfl) (.inr rfl)) (λ_ _ _ _ _ _=>bz)
    (λ_ _ _ _ _ _=>aG cE (aG cE (cF kj (pv 1) dv (cK af)) (pv 0)) fv)))
   (dk (N:=["_law_one", "_law_name"]) (js:=[none,some 5]) (by kernel_rfl) rfl (kh (pv 2)) (λ_ _ _ _ _ _=>aU (i:=0) rg rfl (Or.inl rfl) (.inr rfl)) (λ_ _ _ _ _ _=>bz)
    (λ_ _ _ _ _ _=>aG cE (aG cE (cF kj (pv 1) dv (cK af)) (pv 0)) fv))))
  (aq (aJ (aM br
   (dk (N:=["_law_one", "_law_told"]) (js:=[none,some 1]) (by kernel_rfl) rfl (fk (pv 6)) (λ_ _ _ _ _ _=>aU (i:=0) EI rfl (Or.inl rfl) (.inr rfl))
    (λ_ _ _ _ _ _=>u5 (bq (r:=Co K true) nF (pv 0) (pv 1) (by with_unfolding_all rfl))) (λ_ _ _ _ _ _=>pv 0)) af (λ_ _=>rfl))))),?_⟩
 intro nm ys H4 w1 sz hn hp nS pW
 have jo:∀g:Nat->Str,((ar.map g).map V.str).length=26:=λg=>by rw [List.length_map,List.length_map]; decide
 have h8:∀k:Int,nm.length<=sizeLine:=λ_=>dY (Nat.le_trans hn.len (by decide))
 refine ⟨_,rfl,(by show 1<=sizeLine; decide),λp1 yE=>?_⟩
 refine ⟨_,rfl,md,rfl,λD1 tP=>fh (nm:=nm) (λc=>Txt.slice nm none (some 7)++⟨#[c]⟩) tP (λc H R hc hR=>?_) ?_⟩
 . refine ⟨_,rfl,_,rfl,nm,7,rfl,rfl,rfl,h8 0,_,rfl,_,_,rfl,rfl,?_,hR⟩
   have:=jL nm hn 7
   rw [fL]
   exact dY (by omega)
 have n1:p1≠D1:=ah (ag (H:=H4)) tP
 refine ⟨p1,D1,_,_,rfl,rfl,(by rw [ai n1,ag]),ag,?_,λp2 iL=>?_⟩
 . rw [jo]
   exact dY (by show 1+26<=100; decide)
 refine ⟨_,rfl,md,rfl,λD2 nU=>fh (nm:=nm) (λc=>Txt.slice nm none (some 6)++⟨#[c]⟩ ++ "q") nU (λc H R hc hR=>?_) ?_⟩
 . refine ⟨_,rfl,_,rfl,nm,6,rfl,rfl,rfl,h8 0,_,rfl,_,_,rfl,rfl,?_,_,_,rfl,rfl,?_,hR⟩
   . have:=jL nm hn 6
     rw [fL]
     exact dY (by omega)
   . have:=jL nm hn 6
     have e1:("q" : Str).length=1:=by decide +kernel
     rw [nQ,fL,e1]
     exact dY (by omega)
 have n2:p2≠D2:=ah (ag (H:=_)) nU
 refine ⟨p2,D2,_,_,rfl,rfl,(by rw [ai n2,ag]),ag,?_,λp3 nV=>?_⟩
 . rw [List.length_append,jo,jo]
   exact dY (by show 1+26+26<=100; decide)
 refine ⟨_,rfl,_,rfl,md,rfl,λD3 nW=>fh (nm:=nm) (λc=>Txt.slice nm none (some 6)++⟨#[c]⟩ ++ "z") nW (λc H R hc hR=>?_) ?_⟩
 . refine ⟨_,rfl,_,rfl,nm,6,rfl,rfl,rfl,h8 0,_,rfl,_,_,rfl,rfl,?_,_,_,rfl,rfl,?_,hR⟩
   . have:=jL nm hn 6
     rw [fL]
     exact dY (by omega)
   . have:=jL nm hn 6
     have e1:("z" : Str).length=1:=by decide +kernel
     rw [nQ,fL,e1]
     exact dY (by omega)
 have n3:p3≠D3:=ah (ag (H:=_)) nW
 refine ⟨p3,D3,_,_,rfl,rfl,(by rw [ai n3,ag]),ag,?_,λp4 nX=>?_⟩
 . rw [List.length_append,List.length_append,jo,jo,jo]
   exact dY (by show 1+26+26+26<=100; decide)
 refine ⟨_,rfl,md,rfl,λD4 tQ=>fh (nm:=nm) (λc=>Txt.slice nm none (some 5)++⟨#[c]⟩ ++ "qz") tQ (λc H R hc hR=>?_) ?_⟩
 . refine ⟨_,rfl,_,rfl,nm,5,rfl,rfl,rfl,h8 0,_,rfl,_,_,rfl,rfl,?_,_,_,rfl,rfl,?_,hR⟩
   . have:=jL nm hn 5
     rw [fL]
     exact dY (by omega)
   . have:=jL nm hn 5
     have e1:("qz" : Str).length=2:=by decide +kernel
     rw [nQ,fL,e1]
     exact dY (by omega)
 have n4:p4≠D4:=ah (ag (H:=_)) tQ
 refine ⟨p4,D4,_,_,rfl,rfl,(by rw [ai n4,ag]),ag,?_,λp5 tS=>?_⟩
 . rw [List.length_append,List.length_append,List.length_append,jo,jo,jo,jo]
   exact yD (by show 1+26+26+26+26<=1000; decide)
 have EJ:[V.str nm]++((ar.map λc=>Txt.slice nm none (some 7)++⟨#[c]⟩).map V.str)++((ar.map λc=>Txt.slice nm none (some 6)++⟨#[c]⟩ ++ "q").map V.str)++((ar.map λc=>Txt.slice nm none (some 6)++⟨#[c]⟩ ++ "z").map V.str)
  ++ ((ar.map λc=>Txt.slice nm none (some 5)++⟨#[c]⟩ ++ "qz").map V.str)=(bu nm).map V.str:=by
  unfold bu c7 wc wd c5
  simp only [List.map_append,List.map_cons,List.map_nil]
 rw [EJ]
 have sm:∀o5,ak H4 (upd (upd (upd (upd (upd (upd (upd (upd (upd H4 p1 _) D1 _) p2 _) D2 _) p3 _) D3 _) p4 _) D4 _) p5 o5):=λo5=>
  (((((((((ak.aA yE).trans (ak.aA tP)).trans (ak.aA iL)).trans (ak.aA nU)).trans (ak.aA nV)).trans (ak.aA nW)).trans (ak.aA nX)).trans (ak.aA tQ)).trans (ak.aA tS))
 have yF:=sm (.lst ((bu nm).map V.str))
 generalize hG:upd _ p5 (HO.lst ((bu nm).map V.str))=G at *
 have yG:G p5=some (.lst ((bu nm).map V.str)):=by rw [← hG,ag]
 refine ⟨_,rfl,p5,rfl,⟨_,ay.of yG⟩,λD hD=>?_⟩
 obtain ⟨LH,sY⟩:=sY
 have np:p5≠D:=ah yG hD
 have h5:∀o,(upd G D o) p5=some (.lst ((bu nm).map V.str)):=λo=>by rw [ai np]; exact yG
 have HQ:∀o,ay K (upd G D o) t (told.map V.str):=λo=>ak.seq (ak.aA hD) (ak.seq yF (pW.seq sY hS iw))
 refine gi (bu nm).length (λi acc σ H=>acc=(((bu nm).take i).filter λz=>!decide (z∈told)).map V.str/\(∃v,σ=[v,some (.ref t)])/\H=upd G D (.lst acc)) ⟨rfl,⟨none,rfl⟩,rfl⟩ ag ?_ ?_
 . rintro acc σ H5 _ ⟨rfl,_,rfl⟩
   refine ⟨⟨_,ay.of (h5 _),by simp⟩,?_⟩
   rw [List.take_length]
   obtain ⟨z,hz,HR⟩:=rf nm told fF
   have CI:z∈(bu nm).filter λz=>!decide (z∈told):=List.mem_filter.mpr ⟨hz,by simp [HR]⟩
   cases CJ:(bu nm).filter λz=>!decide (z∈told) with
   | nil=>rw [CJ] at CI; cases CI
   | cons z0 r=>
    have h0:z0∈(bu nm).filter λz=>!decide (z∈told):=by rw [CJ]; exact List.mem_cons_self
    obtain ⟨m1,m2⟩:=List.mem_filter.mp h0
    have m3:z0∉told:=by simpa using m2
    have sl:G l=some (.lst ys):=yF l _ nS
    have nl:l≠D:=ah sl hD
    exact ⟨D,_,0,.str z0,rfl,rfl,ay.of ag,(aF (j:=0) (by rfl):ir _ ((0:Nat):Int)=_),kk z0 ys _ (q0 hn m1) m3 hp (by rw [ai nl]; exact sl) ((pW.trans (ak.keep yF l)).trans (bg.aA hD))⟩
 . rintro i acc σ H5 hi cR ⟨rfl,⟨v,rfl⟩,rfl⟩
   have yH:(bu nm)[i]?=some (bu nm)[i]:=List.getElem?_eq_getElem hi
   have hx:((bu nm).map V.str)[i]?=some (.str (bu nm)[i]):=by rw [List.getElem?_map,yH]; rfl
   refine ⟨⟨_,_,ay.of (h5 _),hx⟩,?_⟩
   rintro x H' ⟨rfl,jB⟩
   have ex:=jB _ (ay.of (h5 _))
   rw [hx] at ex
   cases ex
   refine ⟨_,rfl,_,rfl,t,_,rfl,.inl (HQ _),rfl,tK told,_,rfl,?_⟩
   have EK:∀j,((((bu nm).take j).filter λz=>!decide (z∈told)).map V.str).length<sizeLine:=λj=>by
    rw [List.length_map]
    refine Nat.lt_of_le_of_lt (List.length_filter_le _ _) ?_
    rw [List.length_take]
    have:(bu nm).length=105:=by
     unfold bu c7 wc wd c5
     simp only [List.length_append,List.length_map,List.length_singleton]
     decide
    exact small (by omega)
   refine jG (λh=>?_) (λh=>?_)
   . have yI:(bu nm)[i]∉told:=by simpa [pV] using h
     refine ⟨_,rfl,_,ag,EK i,cG hi ag ⟨?_,⟨_,rfl⟩,by rw [px]⟩⟩
     rw [take_succ_filter _ _ _ _ yH,if_pos (by simp [yI]),List.map_append]
     rfl
   . have yI:(bu nm)[i]∈told:=by simpa [pV] using h
     refine cG hi ag ⟨?_,⟨_,rfl⟩,rfl⟩
     rw [take_succ_filter _ _ _ _ yH,if_neg (by simp [yI]),List.append_nil]
theorem vd {f fP:Addr}{fd yJ:FuncData}(F:bY K "_law_spelt" "_law_spelt" eO f fd) (T:Own mg) (FP:bY K "_law_pick" "_law_pick" g9 fP yJ) (bP:Binds K yJ ["_law_left", "_law_many"] []) (mP:mg "_law_pick" = some (.ref fP)) :
 av P w K mg base aH 2 f fd ["_law_left", "_law_told"] (lF K):=by
 have GP:av P w K mg base aH 1 fP yJ ["_law_left", "_law_many"] ku:=pU FP T
 refine F.ok dz (λvs H Q E h=>?_) (λcdv A outer s H vs Q E hr h=>?_)
 . obtain ⟨l,t,xs,told,rfl,_⟩:=h
   rfl
 . obtain ⟨l,t,xs,told,rfl,hl,hp,iw,hS,fF,kk⟩:=h
   obtain ⟨tR,hR,rR⟩:=rh (P:=P) (w:=w) (mg:=mg) (base:=base) (f:=f) (cdv:=cdv) (A:=A) (outer:=outer) (s:=s) (E:=E) hS iw fF ⟨xs,hl⟩ kk
   refine ⟨_,ae (ax (i:=2) dz.nd rfl (Or.inr rfl) fv)
    (ae (ax (i:=3) dz.nd rfl (Or.inl rfl) (kd PySem.F.plainAttrs_str PySem.F.slot_str_split PySem.F.type_str_split u9 fv (aa fv ab)))
    (ae (ax (i:=4) dz.nd rfl (Or.inl rfl) (aG dg af (az GP hr rfl mP FP.kp bP .nil aw (aa (pv 0) (aa af ab)))))
    (ae (ax (i:=5) dz.nd rfl (Or.inr rfl) (aM br (pv 3) (az GP hr rfl mP FP.kp bP .nil aw (aa (pv 0) (aa af ab))) (λ_ _=>rfl)))
    (ae (bf (bq qJ (pv 4) af (bp _))
     (aq (ax (i:=5) dz.nd rfl (Or.inr rfl) (kd PySem.F.plainAttrs_str PySem.F.slot_str_join PySem.F.type_str_join xo fv (aa
      (dk (N:=["_law_k", "_law_left", "_law_letters"]) (js:=[none,some 0,some 2]) (by kernel_rfl) rfl (cp rfl T.range (aa (pv 4) ab)) (λ_ _ _ _ _ _=>aU (i:=0) A8 rfl (Or.inl rfl) (.inr rfl)) (λ_ _ _ _ _ _=>bz)
       (λ_ _ _ _ _ _=>aM yh (pv 2) (az GP hr rfl mP FP.kp bP .nil aw (aa (pv 1) (aa af ab))) (λ_ _=>rfl))) ab)))) aN) hR)))),?_⟩
   refine ⟨rfl,_,_,rfl,rfl,(by decide +kernel),(by decide +kernel),(by decide +kernel),λw1 CK=>?_⟩
   rw [pk]
   have nw:l≠w1:=ah hl CK
   refine ⟨_,rfl,l,xs,9,rfl,(by rw [ai nw]; exact hl),hp,by decide,by decide,λd ys H2 d0 d1 iL dw CL=>⟨_,_,rfl,rfl,?_⟩⟩
   have HS:H2 w1=some (.lst (cg.map V.str)):=CL w1 _ ag (Ne.symm nw)
   refine ⟨_,rfl,_,rfl,l,ys,11,rfl,dw,iL,by decide,by decide,λd2 CM H3 e0 e1 nV pX CN=>?_⟩
   have HU:H3 w1=some (.lst (cg.map V.str)):=CN w1 _ HS (Ne.symm nw)
   have yK:bg H H3 l:=((bg.aA CK).trans CL).trans CN
   have hlen:cg.length=11:=by decide +kernel
   have hd2:d2.toNat<cg.length:=by rw [hlen]; omega
   have HV:((d2.toNat:Nat):Int)=d2:=by omega
   have tI:ir (cg.map V.str) ((d2.toNat:Nat):Int)=some (.str cg[d2.toNat]):=aF (by rw [List.getElem?_map,List.getElem?_eq_getElem hd2]; rfl)
   rw [HV] at tI
   have HW:cQ cg[d2.toNat]:=pq _ (List.getElem_mem hd2)
   refine ⟨w1,_,_,.str cg[d2.toNat],rfl,rfl,ay.of HU,tI,?_⟩
   refine ⟨_,rfl,_,_,rfl,rfl,_,rfl,?_⟩
   refine jG (λhc=>?_) (λ_=>?_)
   . have eI:(1:Int)+d<9:=of_decide_eq_true hc
     refine ⟨rfl,_,rfl,_,rfl,by omega,by omega,λD hD=>?_⟩
     have nD:l≠D:=ah pX hD
     refine gi (1+d).toNat (λi acc σ H'=>∃(zs:List Str) (v:Option V) (kz:List V),acc=zs.map V.str/\zs.length=i/\(∀y∈zs,∃c∈ar,y=⟨#[c]⟩)/\σ=[v,some (.ref l),some (.str md)]/\hJ kz/\H' l=some (.lst kz)/\bg H3 H' l)
      ⟨[],none,CM,rfl,rfl,λy hy=>(by cases hy),rfl,nV,(by rw [ai nD]; exact pX),bg.aA hD⟩ ag ?_ ?_
     . rintro acc σ H4 cR ⟨zs,v,kz,rfl,CO,hz,rfl,nX,nS,pW⟩
       refine ⟨Nat.le_refl _,?_⟩
       refine ⟨"",D,zs,rfl,rfl,ay.of cR,?_,?_⟩
       . rw [nP zs hz]
         have e0:("" : Str).length=0:=by decide +kernel
         rw [e0]
         omega
       . exact rR _ kz H4 w1 _ (pw (by omega) (by omega) hz) nX nS (yK.trans pW)
     . rintro i acc σ H4 hi cR ⟨zs,v,kz,rfl,CO,hz,rfl,nX,nS,pW⟩
       refine ⟨hi,?_⟩
       rintro x H' ⟨rfl,rfl⟩
       refine eP ?_
       refine ⟨_,rfl,_,rfl,l,kz,26,rfl,nS,nX,by decide,by decide,λd' HX H5 c0 c1 tS HY CP=>?_⟩
       have tO:ar.length=26:=by decide
       have hd':d'.toNat<ar.length:=by omega
       have HZ:((d'.toNat:Nat):Int)=d':=by omega
       have yL:ir md.cps.toList ((d'.toNat:Nat):Int)=some ar[d'.toNat]:=aF (by rw [pT]; exact List.getElem?_eq_getElem hd')
       rw [HZ] at yL
       have Ia:H5 D=some (.lst (zs.map V.str)):=CP D _ cR (Ne.symm nD)
       refine ⟨md,d',ar[d'.toNat],rfl,rfl,(by decide +kernel),yL,_,Ia,?_,cG hi ag ⟨zs++[⟨#[ar[d'.toNat]]⟩],_,HX,?_,?_,λy hy=>?_,rfl,tS,?_,?_⟩⟩
       . rw [List.length_map]
         exact small (by omega)
       . rw [List.map_append]
         rfl
       . rw [List.length_append,List.length_singleton,CO]
       . rcases List.mem_append.mp hy with hy | hy
         . exact hz y hy
         . have:y=⟨#[ar[d'.toNat]]⟩:=by simpa using hy
           exact ⟨_,List.getElem_mem hd',this⟩
       . rw [ai nD]
         exact HY
       . intro b o hb CQ
         have nb:b≠D:=λz=>by rw [z,hD] at hb; cases hb
         rw [ai nb]
         exact CP b o (pW b o hb CQ) CQ
   . exact rR _ CM H3 w1 _ HW nV pX yK
end
end Gen
namespace L2
open PySem PySem.Spec PyProof.Rows
def rev:Nat->Nat->Nat
 | 0,_=>0
 | k+1,i=>(i % 2)*2 ^ k+rev k (i / 2)
section
variable {prog:Program}{w:World}{A:Around}{E:Value->Shared->Prop}{s:Shared}{κ:SortKind}{it:Nat->Keyed}{N:Nat}{c:Nat->Nat->Bool}{p:Array Nat}{pd:Array (Nat×Nat×Nat)}
end
end L2
namespace L2
open PySem PySem.Spec PyProof.Rows
section
variable {prog:Program}{w:World}{A:Around}{E:Value->Shared->Prop}{s:Shared}{κ:SortKind}{it:Nat->Keyed}{N:Nat}{c:Nat->Nat->Bool}{p:Array Nat}{pd:Array (Nat×Nat×Nat)}
end
end L2
namespace L2
open PySem PySem.Spec PyProof.Rows
section
variable {prog:Program}{w:World}{A:Around}{E:Value->Shared->Prop}{s:Shared}{κ:SortKind}{it:Nat->Keyed}{N:Nat}{c:Nat->Nat->Bool}{X Y:Array Nat}{n:Nat}
end
end L2
namespace L2
open PySem PySem.Spec PyProof.Rows
section
variable {prog:Program}{w:World}{A:Around}{E:Value->Shared->Prop}{s:Shared}{κ:SortKind}{it:Nat->Keyed}{N:Nat}{c:Nat->Nat->Bool}{p:Array Nat}{n:Nat}
end
end L2
namespace L2
open PySem PySem.Spec PyProof.Rows
section
variable {prog:Program}{w:World}{A:Around}{E:Value->Shared->Prop}{s:Shared}{κ:SortKind}{it:Nat->Keyed}{N:Nat}{c:Nat->Nat->Bool}{p:Array Nat}{n:Nat}
end
end L2
namespace L2
open PySem PySem.Spec PyProof.Rows PySem.W
def ve (h:Heap) (v:Value) (ns:List Int):Prop:=∃a o xs n,v=.ref a/\h.get? a=some o/\o.cls=.type "tuple" /\ o.data=.seq xs n/\IntsAre xs.toList ns
theorem ve.keep {h h':Heap}{v:Value}{ns:List Int}(x:ve h v ns) (k:∀a o xs n,h.get? a=some o->o.cls=.type "tuple" -> o.data=.seq xs n->h'.get? a=some o):ve h' v ns:=by
 obtain ⟨a,o,xs,n,e,h1,h2,h3,h4⟩:=x
 exact ⟨a,o,xs,n,e,k a o xs n h1 h2 h3,h2,h3,h4⟩
section
variable {prog:Program}{w:World}{A:Around}{E:Value->Shared->Prop}{s:Shared}{Q:Bool->Shared->Prop}
end
section
variable {prog:Program}{w:World}{A:Around}{E:Value->Shared->Prop}{s:Shared}
end
end L2
namespace L2
open PySem PySem.Spec PyProof.Rows PySem.W
section
variable {prog:Program}{w:World}
end
end L2
namespace L2
open PySem PySem.Spec PyProof.Rows PySem.W
section
variable {X:Cx}
end
end L2
namespace L2
open PySem PySem.Spec PyProof.Rows PySem.W
section
variable {prog:Program}{w:World}{A:Around}{E:Value->Shared->Prop}{s:Shared}
end
theorem jM:∀{b c:List Int},b.map V.int=c.map V.int->b=c
 | [],[],_=>rfl
 | [],_::_,h=>nomatch h
 | _::_,[],h=>nomatch h
 | x::b,y::c,h=>by
  rw [List.map_cons,List.map_cons] at h
  have h1:=List.cons.inj h
  rw [V.int.inj h1.1,jM h1.2]
section
variable {X:Cx}
open Classical in
def EL (K:W.Frag):R2:=λx y H Q=>∃(t p:Addr) (b:List Int) (ts:List Addr) (bs:List (List Int)),x=.ref t/\y=.ref p/\aY K H t (b.map V.int)/\ay K H p (ts.map V.ref)/\Paired (λt b=>aY K H t (b.map V.int)) ts bs/\Q (.bl (decide (b∈bs))) H
theorem xu {A:Around}{pins:List (Addr×Obj)}{σ:St}{H:Hp}{s:Shared}(I:Inv X pins σ H s) (hu:A.units+1<cLine){t u:Addr}{b c:List Int}(ht:aY X.K H t (b.map V.int)) (tT:aY X.K H u (c.map V.int)):SeqAt.EqAt A s (.ref t) (.ref u) (decide (b=c)):=by
 by_cases e:t=u
 . subst e
   have e2:b=c:=jM (I.lQ ht tT)
   rw [decide_eq_true e2]
   exact SeqAt.EqAt.same _
 . refine SeqAt.EqAt.of_refs e ?_
   obtain ⟨its,rv,pl,_⟩:=I.tuple ht
   obtain ⟨its',pY,wk,_⟩:=I.tuple tT
   have l1:=rv.length
   have l2:=pY.length
   rw [List.length_map] at l1 l2
   have key:=SeqAt.RcAt.tuples (A:=A) (s:=s) (e:=λj=>decide (b.getD j 0=c.getD j 0)) pl wk (by omega) (λj g1 g2=>?_)
   . have e3:((List.range (min its.toArray.size its'.toArray.size)).all (λj=>decide (b.getD j 0=c.getD j 0)) && its.toArray.size == its'.toArray.size)=decide (b=c):=by
      rw [Bool.eq_iff_iff,Bool.and_eq_true,decide_eq_true_eq,List.all_eq_true]
      simp only [List.size_toArray,beq_iff_eq,List.mem_range,decide_eq_true_eq]
      constructor
      . rintro ⟨h1,h2⟩
        apply List.ext_getElem (by omega)
        intro i g1 g2
        have:=h1 i (by omega)
        simpa [g1,g2] using this
      . rintro rfl
        exact ⟨λ_ _=>rfl,by omega⟩
     rw [← e3]
     exact key
   . simp only [List.size_toArray] at g1 g2
     have hj:j<b.length:=by omega
     have CS:j<c.length:=by omega
     obtain ⟨w1,e1,r1⟩:=rv.get (x:=.int b[j]) (by rw [List.getElem?_map,List.getElem?_eq_getElem hj]; rfl)
     obtain ⟨w2,e2,r2⟩:=pY.get (x:=.int c[j]) (by rw [List.getElem?_map,List.getElem?_eq_getElem CS]; rfl)
     have z:=sP (A:=A.in1) (s:=s) r1 r2 rfl rfl
     have a1:its.toArray[j]=w1:=by
      have:=(List.getElem?_eq_some_iff.mp e1).2
      simpa using this
     have a2:its'.toArray[j]=w2:=by
      have:=(List.getElem?_eq_some_iff.mp e2).2
      simpa using this
     rw [a1,a2]
     have e4:iu (.int b[j]) (.int c[j])=decide (b.getD j 0=c.getD j 0):=by
      simp [iu,hj,CS]
      rfl
     rw [← e4]
     exact z
theorem nY {A:Around}{pins:List (Addr×Obj)}{σ:St}{H:Hp}{s:Shared}(I:Inv X pins σ H s) (hu:A.units+1<cLine){t:Addr}{b:List Int}(ht:aY X.K H t (b.map V.int)) (f:Value->Bool) (hf:∀u c,aY X.K H u (c.map V.int)->f (.ref u)=decide (c=b)):∀{ts:List Addr}{vs:List Value}{bs:List (List Int)},Vals (ts.map V.ref) vs->Paired (λt b=>aY X.K H t (b.map V.int)) ts bs->(∀v∈vs,SeqAt.EqAt A s v (.ref t) (f v))/\vs.any f=bs.any λc=>decide (c=b)
 | [],vs,_,r,.nil=>by
  rw [List.map_nil] at r
  cases r
  exact ⟨(λ_ h=>nomatch h),rfl⟩
 | u::ts,vs,c::bs,r,.cons h p=>by
  rw [List.map_cons] at r
  cases r with
  | cons r1 r2=>
   cases r1
   obtain ⟨h1,h2⟩:=nY I hu ht f hf r2 p
   refine ⟨λv hv=>?_,?_⟩
   . rcases List.mem_cons.mp hv with rfl | hv
     . rw [hf u c h]
       exact xu I hu h ht
     . exact h1 v hv
   . rw [List.any_cons,List.any_cons,h2,hf u c h]
open Classical in
theorem Ib (hu:X.A.units+2<cLine):cI X (compareOp .In) (EL X.K):=by
 intro pins s σ H x y v u Q I rx ry h
 obtain ⟨t,p,b,ts,bs,rfl,rfl,ht,hp,hb,q⟩:=h
 cases (show v=Value.ref t from rx)
 cases (show u=Value.ref p from ry)
 obtain ⟨its,rv,pl,hz⟩:=I.list hp
 have hf:∀u c,aY X.K H u (c.map V.int)->(λv:Value=>decide (∃u,v=.ref u/\aY X.K H u (b.map V.int))) (.ref u)=decide (c=b):=λu c hc=>by
  show decide _=decide _
  congr 1
  refine propext ⟨?_,?_⟩
  . rintro ⟨u',e,h'⟩
    cases e
    exact jM (I.lQ hc h')
  . rintro rfl
    exact ⟨u,rfl,hc⟩
 obtain ⟨m1,m2⟩:=nY (A:=X.A.in1) I (by show X.A.in1.units+1<cLine; exact hu) ht (λv:Value=>decide (∃u,v=.ref u/\aY X.K H u (b.map V.int))) hf rv hb
 refine SeqAt.in_listAt _ pl.isList (λw hw=>m1 w (by simpa using hw)) ⟨.bl _,H,I,rfl,?_⟩
 have e:its.toArray.any (λv:Value=>decide (∃u,v=.ref u/\aY X.K H u (b.map V.int)))=decide (b∈bs):=by
  rw [show its.toArray.any (λv:Value=>decide (∃u,v=.ref u/\aY X.K H u (b.map V.int)))=its.any (λv:Value=>decide (∃u,v=.ref u/\aY X.K H u (b.map V.int))) by simp,m2,Bool.eq_iff_iff,List.any_eq_true,decide_eq_true_eq]
  constructor
  . rintro ⟨c,hc,e⟩
    exact of_decide_eq_true e ▸ hc
  . intro h
    exact ⟨b,h,by simp⟩
 rw [e]
 exact q
end
end L2
namespace L2
open PySem PySem.Spec PyProof.Rows
mutual
inductive Dp (K:W.Frag) (H:Hp):V->PyData->Prop
 | aR:Dp K H .aR .none
 | bl (b):Dp K H (.bl b) (.bool b)
 | int (i):Dp K H (.int i) (.int i)
 | str (x):Dp K H (.str x) (.str x)
 | lst {a xs ds} : ay K H a xs->gj K H xs ds->Dp K H (.ref a) (.list ds)
 | tup {a xs ds} : aY K H a xs->gj K H xs ds->Dp K H (.ref a) (.tuple ds)
inductive gj (K:W.Frag) (H:Hp):List V->List PyData->Prop
 | nil:gj K H [] []
 | cons {x d xs ds} : Dp K H x d->gj K H xs ds->gj K H (x::xs) (d::ds)
end
section
variable {X:Cx}{pins:List (Addr×Obj)}{σ:St}{H:Hp}{s:Shared}
mutual
theorem Dp.reads (I:Inv X pins σ H s):∀{x:V}{d:PyData},Dp X.K H x d->∀{v:Value},RelV x v->∃as,Reads s.heap v d as
 | _,_,.aR,v,r=>by cases (show v=Value.none from r); exact ⟨_,.none⟩
 | _,_,.bl b,v,r=>by cases (show v=Value.bool b from r); exact ⟨_,.bool b⟩
 | _,_,.int i,v,r=>by obtain ⟨t,rfl⟩:=r; exact ⟨_,.int i t⟩
 | _,_,.str x,v,r=>by obtain ⟨t,rfl⟩:=r; exact ⟨_,.str x t⟩
 | _,_,.lst (a:=a) h1 h2,v,r=>by
  cases (show v=Value.ref a from r)
  obtain ⟨its,rv,⟨o,n,e,c,dn,dt⟩,_⟩:=I.list h1
  obtain ⟨as,ra⟩:=gj.reads I h2 rv
  exact ⟨_,.list e c dt ra⟩
 | _,_,.tup (a:=a) h1 h2,v,r=>by
  cases (show v=Value.ref a from r)
  obtain ⟨its,rv,⟨o,e,c,n,dt⟩,_⟩:=I.tuple h1
  obtain ⟨as,ra⟩:=gj.reads I h2 rv
  exact ⟨_,.tuple e c dt ra⟩
theorem gj.reads (I:Inv X pins σ H s):∀{xs:List V}{ds:List PyData},gj X.K H xs ds->∀{vs:List Value},Vals xs vs->∃as,ReadsAll s.heap vs ds as
 | _,_,.nil,_,.nil=>⟨_,.nil⟩
 | _,_,.cons h1 h2,_,.cons r1 r2=>by
  obtain ⟨as,ra⟩:=Dp.reads I h1 r1
  obtain ⟨bs,rb⟩:=gj.reads I h2 r2
  exact ⟨_,.cons ra rb⟩
end
theorem gj.get {K:W.Frag}{H:Hp} : ∀{xs:List V}{ds:List PyData}{i:Nat}{d:PyData},gj K H xs ds->ds[i]?=some d->∃x,xs[i]?=some x/\Dp K H x d
 | _,_,_,_,.nil,e=>by simp at e
 | _,_,0,_,.cons h _,e=>by simp at e; subst e; exact ⟨_,rfl,h⟩
 | _,_,i+1,_,.cons _ t,e=>by
  obtain ⟨x,h1,h2⟩:=gj.get (i:=i) t (by simpa using e)
  exact ⟨x,by simpa using h1,h2⟩
theorem jN {K:W.Frag}{H:Hp} : ∀(ns:List Str),gj K H (ns.map V.str) (ns.map PyData.str)
 | []=>.nil
 | n::ns=>.cons (.str n) (jN ns)
abbrev dT (b:List Int):PyData:=.tuple (b.map PyData.int)
theorem pZ {l:List PyData}(h:∀d∈l,d.canLay0=true):PyData.canLayAll0 l=true:=by
 induction l with
 | nil=>rfl
 | cons d l ih=>rw [PyData.canLayAll0,h d List.mem_cons_self,ih λe he=>h e (List.mem_cons_of_mem _ he)]; rfl
theorem xw {l:List PyData}{n:Nat}(h:∀d∈l,d.depth<=n):PyData.depthAll l<=n:=by
 induction l with
 | nil=>exact Nat.zero_le _
 | cons d l ih=>rw [PyData.depthAll]; exact Nat.max_le.mpr ⟨h d List.mem_cons_self,ih λe he=>h e (List.mem_cons_of_mem _ he)⟩
def Ic (K:W.Frag) (n:Nat) (f:PyData->PyData->Bool):R2:=λx y H Q=>∃da db,Dp K H x da/\Dp K H y db/\da.canLay0=true/\db.canLay0=true/\min da.depth db.depth<=n/\Q (.bl (f da db)) H
theorem xx {n:Nat}(hu:X.A.units+n<cLine):cI X (compareOp .Eq) (Ic X.K n PyData.eqv):=by
 intro pins s σ H x y v u Q I rx ry h
 obtain ⟨da,db,ha,hb,la,lb,hd,q⟩:=h
 obtain ⟨as,ra⟩:=ha.reads I rx
 obtain ⟨bs,rb⟩:=hb.reads I ry
 exact SeqAt.rcAt_reads ra rb la lb (by omega) X.prog X.w X.xe _ ⟨.bl _,H,I,rfl,q⟩
end
end L2
namespace L2
open PySem PySem.Spec PyProof.Rows
section
variable {X:Cx}
def EM (K:W.Frag) (neg:Bool):R2:=λx y H Q=>∃(p p':Addr) (xs:List V),x=.ref p/\y=.ref p'/\ay K H p xs/\ay K H p' []/\Q (.bl (if neg=true then !xs.isEmpty else xs.isEmpty)) H
theorem yM (hu:X.A.units<cLine):cI X (compareOp .Eq) (EM X.K false):=by
 intro pins s σ H x y v u Q I rx ry h
 obtain ⟨p,p',xs,rfl,rfl,h1,h2,q⟩:=h
 cases (show v=Value.ref p from rx)
 cases (show u=Value.ref p' from ry)
 obtain ⟨its,rv,pl,hz⟩:=I.list h1
 obtain ⟨its',pY,wk,vX⟩:=I.list h2
 have l1:=rv.length
 have l2:=pY.length
 cases xs with
 | nil=>
  have key:=SeqAt.RcAt.lists (A:=X.A) (s:=s) (e:=λ_=>true) pl.isList wk.isList (by simp only [List.size_toArray]; omega) hu (λj g1 g2=>by simp only [List.size_toArray,List.length_nil] at g1 l1; omega) X.prog X.w X.xe
  refine key _ ?_
  rw [show ((List.range its.toArray.size).all λ_=>true)=true by simp]
  exact ⟨.bl true,H,I,rfl,q⟩
 | cons a xs=>
  have key:=SeqAt.RcAt.lists_lengths (A:=X.A) (s:=s) pl.isList wk.isList (by simp only [List.size_toArray,List.length_cons,List.length_nil] at l1 l2 ⊢; rw [← l1,← l2]; rfl) hu X.prog X.w X.xe
  exact key _ ⟨.bl false,H,I,rfl,q⟩
end
end L2
namespace L2
open PySem PySem.Spec PyProof.Rows
inductive Tr where
 | leaf (b:Bool) | node (n:Str) (l r:Tr)
 deriving DecidableEq
def Tr.dep:Tr->Nat
 | .leaf _=>0
 | .node _ l r=>max l.dep r.dep+1
def cc (h:Heap):Tr->Value->Prop
 | .leaf b,v=>v=.bool b
 | .node n l r,v=>∃a o k t vl vr,v=.ref a/\h.get? a=some o/\o.cls=.type "tuple" /\ o.data=.seq #[.str n t,vl,vr] k/\cc h l vl/\cc h r vr
def gk (w:World):Tr->Int
 | .leaf b=>reduceHash (if b=true then 1 else 0)
 | .node n l r=>reduceHash (Builtin.Tuple.tupleHashOf [hashStr w n,gk w l,gk w r])
def eQ:Tr->Nat
 | .leaf _=>1
 | .node _ l r=>1+eQ l+eQ r+1
theorem cc.inj {h:Heap} : ∀{x y:Tr}{v:Value},cc h x v->cc h y v->x=y
 | .leaf _,.leaf _,_,e1,e2=>by
  rw [show _=Value.bool _ from e1] at e2
  injection (show Value.bool _=Value.bool _ from e2) with e
  rw [e]
 | .leaf _,.node ..,_,e1,⟨_,_,_,_,_,_,e2,_⟩=>by
  rw [show _=Value.bool _ from e1] at e2
  cases e2
 | .node ..,.leaf _,_,⟨_,_,_,_,_,_,e2,_⟩,e1=>by
  rw [show _=Value.bool _ from e1] at e2
  cases e2
 | .node ..,.node ..,_,⟨a,o,k,t,vl,vr,e,g,_,d,hl,hr⟩,⟨a',o',k',t',Ie,Ig,e',g',_,d',ko,yN⟩=>by
  rw [e] at e'
  injection e' with ea
  subst ea
  rw [g] at g'
  injection g' with eo
  subst eo
  rw [d] at d'
  injection d' with e1 e2
  have p0:=congrArg Array.toList e1
  simp only [List.cons.injEq,and_true] at p0
  obtain ⟨q1,q2,q3⟩:=p0
  injection q1 with n1 _
  subst n1 q2 q3
  rw [cc.inj hl ko,cc.inj hr yN]
theorem cc.keep {h h':Heap}(k:∀a o its n,h.get? a=some o->o.cls=.type "tuple" -> o.data=.seq its n->h'.get? a=some o):∀{t:Tr}{v:Value},cc h t v->cc h' t v
 | .leaf _,_,e=>e
 | .node ..,_,⟨a,o,n,t,vl,vr,e,g,c,d,hl,hr⟩=>⟨a,o,n,t,vl,vr,e,k _ _ _ _ g c d,c,d,hl.keep k,hr.keep k⟩
section
variable {prog:Program}{w:World}{E:Value->Shared->Prop}
theorem cc.hash:∀(t:Tr) (v:Value) (A:Around) (s:Shared) (Q:Int->Shared->Prop),cc s.heap t v->A.units+t.dep<cLine->Q (gk w t) { s with toks:=s.toks+eQ t } -> wpAny (model prog w) A (pyHash v) Q E s
 | .leaf b,v,A,s,Q,e,hu,q=>by
  cases (show v=.bool b from e)
  refine W.pyHash_slot (T:="bool") rfl PySem.F.slot_bool_hash entry_int_hash (args_int_hash _) (beq_builtin_none _) (.inr (by omega)) ?_
  cases b
  . exact (show wpAny _ _ (do ret (← mkInt 0)) _ _ s from wpAny_bind (wpAny_mkInt (wpAny_pure ⟨_,_,rfl,q⟩)))
  . exact (show wpAny _ _ (do ret (← mkInt 1)) _ _ s from wpAny_bind (wpAny_mkInt (wpAny_pure ⟨_,_,rfl,q⟩)))
 | .node n l r,v,A,s,Q,⟨a,o,k,t,vl,vr,e,g,c,d,hl,hr⟩,hu,q=>by
  subst e
  have tT:A.units+(max l.dep r.dep+1)<cLine:=hu
  refine W.pyHash_slot (T:="tuple") ⟨o,g,c⟩ PySem.F.slot_tuple_hash PySem.F.entry_tuple_hash (PySem.F.args_tuple_hash_1 _) (beq_builtin_none _) (.inr (by omega)) ?_
  show wpAny _ _ (Builtin.Tuple.tupleItemsOf (.ref a) >>= _) _ _ s
  refine wpAny_bind (wpAny_tupleItemsOf g d (wpAny_bind ?_))
  rw [← Array.forIn_toList]
  refine wpAny_forIn_list _ (λrest (b:Array Int) z=>(rest=[.str n t,vl,vr]/\b = #[]/\z=s)\/(rest=[vl,vr]/\b = #[hashStr w n]/\z = { s with toks:=s.toks+1 })\/(rest=[vr]/\b = #[hashStr w n,gk w l]/\z = { s with toks:=s.toks+(1+eQ l) })\/(rest=[]/\b = #[hashStr w n,gk w l,gk w r]/\z = { s with toks:=s.toks+(1+eQ l+eQ r) })) _ ?_ ?_ _ _ (.inl ⟨rfl,rfl,rfl⟩)
  . rintro x rest b z (⟨e1,rfl,rfl⟩ | ⟨e1,rfl,rfl⟩ | ⟨e1,rfl,rfl⟩ | ⟨e1,_⟩)
    . injection e1 with e1 e2
      subst e1 e2
      exact wpAny_bind (wpAny_pyHash_str (wpAny_pure (.inr (.inl ⟨rfl,rfl,rfl⟩))))
    . injection e1 with e1 e2
      subst e1 e2
      exact wpAny_bind (cc.hash l _ _ _ _ hl (by simp only [Around.in1_units]; omega) (wpAny_pure (.inr (.inr (.inl ⟨rfl,rfl,by simp only [Nat.add_assoc]⟩)))))
    . injection e1 with e1 e2
      subst e1 e2
      exact wpAny_bind (cc.hash r _ _ _ _ hr (by simp only [Around.in1_units]; omega) (wpAny_pure (.inr (.inr (.inr ⟨rfl,rfl,by simp only [Nat.add_assoc]⟩)))))
    . cases e1
  . rintro b z (⟨e1,_⟩ | ⟨e1,_⟩ | ⟨e1,_⟩ | ⟨_,rfl,rfl⟩)
    . cases e1
    . cases e1
    . cases e1
    . exact (show wpAny _ _ (retInt _) _ _ _ from wpAny_bind (wpAny_mkInt (wpAny_pure ⟨_,_,rfl,by simpa only [Nat.add_assoc,eQ,gk] using q⟩)))
theorem cc.calm:∀(t:Tr) (v:Value) (k:Nat) (A:Around) (s:Shared) (Q:Bool->Shared->Prop),cc s.heap t v->t.dep<=k->Q true s->wpAny (model prog w) A (eqIsQuiet k v) Q E s
 | .leaf b,v,k,A,s,Q,e,_,q=>by
  cases (show v=.bool b from e)
  rw [eqIsQuiet_byValue _ rfl]
  exact wpAny_pure q
 | .node n l r,v,0,A,s,Q,_,hk,_=>absurd hk (Nat.not_succ_le_zero _)
 | .node n l r,v,k+1,A,s,Q,⟨a,o,m,t,vl,vr,e,g,c,d,hl,hr⟩,hk,q=>by
  subst e
  have iO:max l.dep r.dep+1<=k+1:=hk
  have hT:s.TypeIs (.ref a) "tuple":=⟨o,g,c⟩
  unfold eqIsQuiet
  refine wpAny_bind (wpAny_specialOf hT PySem.F.slot_tuple_eq.lookup ?_)
  show wpAny _ _ (isInstance (.ref a) (.type "tuple") >>= _) _ _ s
  refine wpAny_bind (wpAny_isInstance hT isSubtype_tuple_tuple ?_)
  simp only [Bool.not_true,Bool.false_eq_true,if_false]
  refine wpAny_bind (wpAny_seqItems g d (wpAny_bind ?_))
  show wpAny _ _ (forIn #[Value.str n t,vl,vr] _ _) _ _ s
  rw [← Array.forIn_toList]
  refine wpAny_forIn_list _ (λrest x z=>x.1=none/\z=s/\(rest=[.str n t,vl,vr]\/rest=[vl,vr]\/rest=[vr]\/rest=[])) _ ?_ ?_ _ _ ⟨rfl,rfl,.inl rfl⟩
  . rintro x rest b z ⟨hb,rfl,e1 | e1 | e1 | e1⟩
    . injection e1 with e1 e2
      subst e1 e2
      rw [eqIsQuiet_byValue _ rfl]
      refine wpAny_bind (wpAny_pure ?_)
      rw [if_neg (show ¬ (!true)=true by decide)]
      exact wpAny_pure ⟨rfl,rfl,.inr (.inl rfl)⟩
    . injection e1 with e1 e2
      subst e1 e2
      refine wpAny_bind (cc.calm l _ k _ _ _ hl (by omega) ?_)
      rw [if_neg (show ¬ (!true)=true by decide)]
      exact wpAny_pure ⟨rfl,rfl,.inr (.inr (.inl rfl))⟩
    . injection e1 with e1 e2
      subst e1 e2
      refine wpAny_bind (cc.calm r _ k _ _ _ hr (by omega) ?_)
      rw [if_neg (show ¬ (!true)=true by decide)]
      exact wpAny_pure ⟨rfl,rfl,.inr (.inr (.inr rfl))⟩
    . cases e1
  . rintro ⟨r1,r2⟩ z ⟨hb,rfl,_⟩
    simp only at hb
    subst hb
    exact wpAny_pure q
end
def Tr.pd:Tr->PyData
 | .leaf b=>.bool b
 | .node n l r=>.tuple [.str n,l.pd,r.pd]
def Tr.me:Tr->Prop
 | .leaf _=>True
 | .node n l r=>PyData.strOk n=true/\l.me/\r.me
theorem Tr.kF:∀t:Tr,t.me->t.pd.canLay0=true
 | .leaf _,_=>rfl
 | .node n l r,⟨h1,h2,h3⟩=>by
  rw [Tr.pd,PyData.canLay0]
  refine pZ λd hd=>?_
  have:d=.str n\/d=l.pd\/d=r.pd:=by simpa using hd
  rcases this with rfl | rfl | rfl
  . rw [PyData.canLay0]
    exact h1
  . exact l.kF h2
  . exact r.kF h3
theorem Tr.nZ:∀t:Tr,t.pd.depth<=t.dep
 | .leaf _=>Nat.le_refl _
 | .node n l r=>by
  rw [Tr.pd,PyData.depth,Tr.dep]
  have hl:=l.nZ
  have hr:=r.nZ
  have:PyData.depthAll [.str n,l.pd,r.pd]<=max l.dep r.dep:=xw λd hd=>by
   have:d=.str n\/d=l.pd\/d=r.pd:=by simpa using hd
   rcases this with rfl | rfl | rfl
   . exact Nat.zero_le _
   . omega
   . omega
  omega
theorem Tr.n9:∀x y:Tr,PyData.eqv x.pd y.pd=decide (x=y)
 | .leaf a,.leaf b=>by
  rw [Tr.pd,Tr.pd,PyData.eqv,Bool.eq_iff_iff,decide_eq_true_eq]
  simp
 | .leaf _,.node ..=>by rw [decide_eq_false (by intro z; cases z)]; rfl
 | .node ..,.leaf _=>by rw [decide_eq_false (by intro z; cases z)]; rfl
 | .node n l r,.node n' l' r'=>by
  rw [Tr.pd,Tr.pd,PyData.eqv]
  have h1:=Tr.n9 l l'
  have h2:=Tr.n9 r r'
  have h3:PyData.eqv (.str n) (.str n')=decide (n=n'):=by rw [PyData.eqv,Bool.eq_iff_iff,decide_eq_true_eq]; simp
  simp only [PyData.eqvAll,h1,h2,h3,Bool.and_true]
  rw [Bool.eq_iff_iff]
  simp
theorem cc.reads {h:Heap} : ∀{t:Tr}{v:Value},cc h t v->∃as,Reads h v t.pd as
 | .leaf b,v,e=>by cases (show v=.bool b from e); exact ⟨_,.bool b⟩
 | .node ..,_,⟨a,o,k,t,vl,vr,e,g,c,d,hl,hr⟩=>by
  subst e
  obtain ⟨as,ra⟩:=hl.reads
  obtain ⟨bs,rb⟩:=hr.reads
  exact ⟨_,.tuple g c d (.cons (.str _ _) (.cons ra (.cons rb .nil)))⟩
def iR (prog:Program) (w:World):HeapKind prog w Tr where
 is:=λh t a=>cc h t (.ref a)/\t.dep<=8/\t.me
 hash:=gk w
 draws:=eQ
 room:=λA=>A.units+16<cLine
 inj:=λhx hy=>hx.1.inj hy.1
 keeps:=λhk g d sb=>by
  refine ⟨hk.1.keep λa o its n ga _ da=>sb.extBut a o (λe=>?_) ga,hk.2⟩
  subst e
  rw [ga] at g
  injection g with eo
  subst eo
  rw [da] at d
  cases d
 pyHash:=λ{A E s k a Q} hu hk q=>cc.hash k (.ref a) A s Q hk.1 (by have:=hk.2.1; omega) q
 eqBool:=λ{A E s x y a b Q} hu hx hy q=>by
  obtain ⟨as,ra⟩:=hx.1.reads
  obtain ⟨bs,rb⟩:=hy.1.reads
  have d1:=x.nZ
  have h8:=hx.2.1
  have z:=SeqAt.eqAt_reads x.pd y.pd A s _ _ as bs ra rb (x.kF hx.2.2) (y.kF hy.2.2) (by omega)
  rw [Tr.n9] at z
  exact z prog w E Q q
 quiet:=λ{A E s k a Q} hk q=>cc.calm k (.ref a) 8 A s Q hk.1 hk.2.1 q
end L2
namespace L2
open PySem PySem.Spec PyProof.Rows
def cS (L:List (Tr×Addr×V)) (t:Tr):Option V:=(L.find? λp=>decide (p.1=t)).map (·.2.2)
abbrev jO (L:List (Tr×Addr×V)) (vs:List (Tr×Addr×Value)):Prop:=Paired (λp q=>p.1=q.1/\p.2.1=q.2.1/\RelV p.2.2 q.2.2) L vs
def wm (P:Program) (w:World) (a:Addr) (L:List (Tr×Addr×V)) (h:Heap):Prop:=
 L.length<=sizeLine/\(a == sysModules)=false/\∃vs,jO L vs/\∃o es ep,h.get? a=some o/\o.ExactDict/\o.data=.dict es ep/\es.toList=vs.map (entryOfKey (iR P w))/\(vs.map (·.1)).Nodup
def dF (P:Program) (w:World) (a:Addr) (L:List (Tr×Addr×V)):HO:=.ext (wm P w a L)
theorem tU {P:Program}{w:World}{H:Hp}{h:Heap}{a:Addr}{L:List (Tr×Addr×V)}(x:wm P w a L h):aT P w H h a (dF P w a L):=by
 refine ⟨x,?_,λh1 h2 y k=>?_⟩
 . obtain ⟨_,_,vs,_,o,_,_,g,_⟩:=x
   exact ⟨o,g⟩
 . obtain ⟨y0,y1,vs,y2,o,es,ep,g,r⟩:=y
   exact ⟨y0,y1,vs,y2,o,es,ep,k o g,r⟩
def aX (H:Hp):Tr->V->Prop
 | .leaf b,v=>v=.bl b
 | .node n l r,v=>∃a vl vr,v=.ref a/\H a=some (.tup [.str n,vl,vr])/\aX H l vl/\aX H r vr
theorem aX.keep {H H':Hp}(k:∀a xs,H a=some (.tup xs)->H' a=some (.tup xs)):∀{t:Tr}{v:V},aX H t v->aX H' t v
 | .leaf _,_,e=>e
 | .node ..,_,⟨a,vl,vr,e,g,hl,hr⟩=>⟨a,vl,vr,e,k _ _ g,hl.keep k,hr.keep k⟩
theorem aX.at {P:Program}{w:World}{H:Hp}{h:Heap}(ok:cb P w H h):∀{t:Tr}{v:V}{u:Value},aX H t v->RelV v u->cc h t u
 | .leaf b,v,u,e,r=>by
  cases (show v=.bl b from e)
  exact r
 | .node n l r,v,u,⟨a,vl,vr,e,g,hl,hr⟩,ru=>by
  subst e
  cases (show u=.ref a from ru)
  obtain ⟨_,its,rv,o,h1,h2,k,h3⟩:=(show aT P w H h a (.tup [.str n,vl,vr]) from ok a _ g)
  cases rv with
  | cons r1 rv=>
   cases rv with
   | cons r2 rv=>
    cases rv with
    | cons r3 rv=>
     cases rv
     obtain ⟨t,rfl⟩:=r1
     exact ⟨a,o,k,t,_,_,rfl,h1,h2,h3,hl.at ok r2,hr.at ok r3⟩
structure df (H:Hp) (t:Tr) (b:Addr):Prop where
 at_:aX H t (.ref b)
 d8:t.dep<=8
 sk:t.me
theorem df.keep {H H':Hp}{t:Tr}{b:Addr}(h:df H t b) (k:∀a xs,H a=some (.tup xs)->H' a=some (.tup xs)):df H' t b:=⟨h.at_.keep k,h.d8,h.sk⟩
theorem jO.len {L:List (Tr×Addr×V)}{vs:List (Tr×Addr×Value)}(r:jO L vs):L.length=vs.length:=Paired.length r
theorem jO.look {L:List (Tr×Addr×V)}{vs:List (Tr×Addr×Value)}(r:jO L vs) (t:Tr):cB (cS L t) ((atKey vs t).map (·.2)):=by
 unfold cS atKey
 induction r with
 | nil=>exact True.intro
 | @cons p q ps qs h _ ih=>
  by_cases e:p.1=t
  . rw [List.find?_cons_of_pos (by simpa using e),List.find?_cons_of_pos (by simpa using h.1.symm.trans e)]
    exact h.2.2
  . rw [List.find?_cons_of_neg (by simpa using e),List.find?_cons_of_neg (by simpa using λz=>e (h.1.trans z))]
    exact ih
theorem wo {P:Program}{w:World}{H:Hp}{h:Heap}{a:Addr}{L:List (Tr×Addr×V)}(ok:cb P w H h) (e:H a=some (dF P w a L)) (hk:∀p∈L,df H p.1 p.2.1) :
 L.length<=sizeLine/\(a == sysModules)=false/\∃vs,jO L vs/\h.DictOfH (iR P w) a vs:=by
 obtain ⟨⟨y0,y1,vs,y2,o,es,ep,g,x1,x2,x3,x4⟩,_⟩:=(show aT P w H h a (.ext (wm P w a L)) from ok a _ e)
 refine ⟨y0,y1,vs,y2,o,es,ep,g,x1,x2,x3,λx hx=>?_,x4⟩
 have all:∀{l:List (Tr×Addr×V)}{m:List (Tr×Addr×Value)},jO l m->(∀p∈l,df H p.1 p.2.1)->∀x∈m,(iR P w).is h x.1 x.2.1:=by
  intro l m q
  induction q with
  | nil=>intro _ x hx; exact nomatch hx
  | @cons p q ps qs hq _ ih=>
   intro hk x hx
   rcases List.mem_cons.mp hx with e | hx
   . subst e
     have:=hk p List.mem_cons_self
     rw [hq.1,hq.2.1] at this
     exact ⟨this.at_.at ok rfl,this.d8,this.sk⟩
   . exact ih (λp h=>hk p (List.mem_cons_of_mem _ h)) x hx
 exact all y2 hk x hx
section
variable {X:Cx}{o i value e:Expr}{pos pos' apos cO:Pos}{td ty tv:TE}
def A9 (P:Program) (w:World):TE:=λ_ H Q=>∀p,H p=none->Q (.ref p) (upd H p (dF P w p []))
theorem oa:PE X (.Dict [] [] pos) (A9 X.prog X.w):=λpins s σ H Q I h=>
 wpAny_Dict_empty ⟨.ref s.heap.objs.size,_,I.laid (a:=s.heap.objs.size) (o:=dF X.prog X.w s.heap.objs.size []) (t':=s.toks) (λ_ _ q=>Heap.get?_push_of_some _ q) (Nat.le_refl _)
  (tU ⟨Nat.zero_le _,beq_eq_false_iff_ne.mpr (Ne.symm (Nat.ne_of_lt I.big)),[],.nil,_,#[],0,Heap.get?_push_size _ rfl,⟨rfl,rfl,rfl⟩,rfl,rfl,List.nodup_nil⟩),rfl,h _ (I.hok.fresh (Nat.le_refl _))⟩
def Ba (P:Program) (w:World) (td ty:TE):TE:=λσ H Q=>td σ H λx H1=>∃a L,x=.ref a/\H1 a=some (dF P w a L)/\ty σ H1 λy H2=>∃t b,y=.ref b/\H2 a=some (dF P w a L)/\df H2 t b/\(∀p∈L,df H2 p.1 p.2.1)/\Q ((cS L t).getD .aR) H2
theorem qa (hu:X.A.units+17<cLine) (ho:PE X o td) (he:PE X e ty) (m:M1 X o "get" apos e cO):PE X (.Call (.Attribute o "get" apos) [e] [] cO) (Ba X.prog X.w td ty):=by
 intro pins s σ H Q I h
 refine wpAny_Call_method m.base m.ka m.line PySem.F.plainAttrs_dict PySem.F.slot_dict_get PySem.F.type_dict_get (aE (ho pins s σ H _ I h) λu s1 ⟨x,H1,I1,rx,a,L,ex,ea,q1⟩=>?_)
 subst ex
 obtain rfl:u=Value.ref a:=rx
 obtain ⟨⟨_,y1,vs,_,ob,es,ep,g,x1,_⟩,_⟩:=(show aT X.prog X.w H1 s1.heap a (.ext (wm X.prog X.w a L)) from I1.hok a _ ea)
 refine ⟨⟨ob,g,x1.1⟩,λb q=>by cases q; exact ⟨ob,g,x1.2.1⟩,?_⟩
 rw [m.trees]
 refine Calls.callWith_builtin rfl (Calls.evalArgs_plain (Calls.spliced_cons (aE (he pins s1 σ H1 _ I1 q1) λiv s2 ⟨y,H2,I2,ry,t,b,ey,Ih,kt,kl,q2⟩=>Calls.spliced_nil ?_)))
 subst ey
 cases (show iv=Value.ref b from ry)
 obtain ⟨_,hd,ws,rel,dd⟩:=wo I2.hok Ih kl
 refine call_meetsIn PySem.F.slot_dict_get dd.typeIs PySem.F.entry_dict_get (PySem.F.args_dict_get_2 _ _) (meetsH_dict_get (iR X.prog X.w) a b hd) ⟨(show X.A.in1.units+16<cLine by simp only [Around.in1_units]; omega),t,ws,⟨kt.at_.at I2.hok rfl,kt.d8,kt.sk⟩,dd,⟨_,H2,I2.tok _,?_,q2⟩⟩
 exact (rel.look t).getD rfl
def Bb (P:Program) (w:World) (td ty tv:TE):TS:=λD σ H=>tv σ H λv H1=>td σ H1 λx H2=>ty σ H2 λy H3=>∃a L t b,x=.ref a/\y=.ref b/\H3 a=some (dF P w a L)/\df H3 t b/\(∀p∈L,df H3 p.1 p.2.1)/\cS L t=none/\L.length<sizeLine/\D.nx σ (upd H3 a (dF P w a (L++[(t,b,v)])))
theorem qb (hu:X.A.units+17<cLine) (ho:PE X o td) (hi:PE X i ty) (hv:PE X value tv) (hs:swapsWith value (some (.Subscript o i pos')) pos.line X.env=pure false) :
 PS X (.Assign [.Subscript o i pos'] value pos) (Bb X.prog X.w td ty tv):=by
 intro pins s σ H D I h
 refine wpAny_Assign_Subscript (aE (hv pins s σ H _ I h) λr s1 ⟨v,H1,I1,rv,q1⟩=>aE (ho pins s1 σ H1 _ I1 q1) λu s2 ⟨x,H2,I2,rx,q2⟩=>aE (hi pins s2 σ H2 _ I2 q2) λiv s3 ⟨y,H3,I3,ry,a,L,t,b,ex,ey,ea,kt,kl,hn,hl,q3⟩=>?_) hs
 subst ex ey
 obtain rfl:u=Value.ref a:=rx
 cases (show iv=Value.ref b from ry)
 obtain ⟨hz,hd,ws,rel,dd⟩:=wo I3.hok ea kl
 have yO:atKey ws t=none:=by
  have:=rel.look t
  rw [hn] at this
  cases e:atKey ws t with
  | none=>rfl
  | some p=>rw [e] at this; exact this.elim
 refine wpAny_setItem_heap (hsz:=by rw [← rel.len]; exact hz) (show X.A.in1.units+16<cLine by simp only [Around.in1_units]; omega) (show (iR X.prog X.w).is _ t b from ⟨kt.at_.at I3.hok rfl,kt.d8,kt.sk⟩) dd λh' j7 sb=>?_
 obtain ⟨q,es,ep,g,x1,x2,x3,_,x5⟩:=j7
 rw [storedH_new yO] at x3 x5
 refine ⟨σ,_,i8 I3 (by rw [ea]; exact True.intro) sb ⟨q,g⟩ (tU ⟨by rw [List.length_append]; exact hl,hd,ws++[(t,b,r)],Paired.snoc rel ⟨rfl,rfl,rv⟩,q,es,ep,g,x1,x2,x3,x5⟩),q3⟩
end
end L2
namespace Gen
open PySem L2
theorem mf {α β:Type}{F:α->β->Prop} : ∀{mz:List α}{mF:List β}{i:Nat}{b:β},Paired F mz mF->mF[i]?=some b->∃a,mz[i]?=some a/\F a b
 | _,_,i,b,.nil,h=>by simp at h
 | _,_,0,b,.cons h t,e=>⟨_,rfl,by simpa using (show _=_ from Option.some.inj e) ▸ h⟩
 | _,_,i+1,b,.cons h t,e=>let ⟨a,h1,h2⟩:=mf t (i:=i) (b:=b) (by simpa using e); ⟨a,by simpa using h1,h2⟩
theorem eW {α β:Type}{F:α->β->Prop} : ∀{mz m₁:List α}{mF m₂:List β},Paired F mz mF->Paired F m₁ m₂->Paired F (mz++m₁) (mF++m₂)
 | _,_,_,_,.nil,h=>h
 | _,_,_,_,.cons a t,h=>.cons a (eW t h)
def ev (e:Str->Bool):Tr->Bool
 | .leaf b=>b
 | .node n l r=>if e n then ev e r else ev e l
inductive bJ:List Str->Tr->Prop
 | leaf (ns:List Str) (b:Bool):bJ ns (.leaf b)
 | node {n:Str}{r:List Str}{l h:Tr} : l≠h->bJ r l->bJ r h->bJ (n::r) (.node n l h)
 | skip {n:Str}{r:List Str}{t:Tr} : bJ r t->bJ (n::r) t
def put (e:Str->Bool) (n:Str) (b:Bool):Str->Bool:=λz=>if z=n then b else e z
theorem eR {ns:List Str}{t:Tr}(h:bJ ns t){n:Str}(hn:n∉ns) (e:Str->Bool) (b:Bool):ev (put e n b) t=ev e t:=by
 induction h with
 | leaf=>rfl
 | @node k r l h _ _ _ Ii Ij=>
  rw [List.mem_cons,not_or] at hn
  unfold ev
  rw [Ii hn.2,Ij hn.2]
  have:put e n b k=e k:=if_neg λq=>hn.1 q.symm
  rw [this]
 | @skip k r t _ ih=>
  rw [List.mem_cons,not_or] at hn
  exact ih hn.2
theorem cL:∀{ns:List Str}{t t':Tr},ns.Nodup->bJ ns t->bJ ns t'->(∀e,ev e t=ev e t')->t=t'
 | [],_,_,_,.leaf _ a,.leaf _ b,h=>by rw [show a=b from h λ_=>true]
 | n::r,t,t',hn,h1,h2,h=>by
  rw [List.nodup_cons] at hn
  have split:∀{l u x:Tr},bJ r l->bJ r u->bJ r x->(∀e,ev e (.node n l u)=ev e x)->l=u:=λ{l u x} cl cu cx hh=>by
   have e1:l=x:=cL hn.2 cl cx λe=>by
    have:=hh (put e n false)
    rw [eR cx hn.1] at this
    rw [← this,ev,show put e n false n=false from if_pos rfl,if_neg (by decide),eR cl hn.1]
   have e2:u=x:=cL hn.2 cu cx λe=>by
    have:=hh (put e n true)
    rw [eR cx hn.1] at this
    rw [← this,ev,show put e n true n=true from if_pos rfl,if_pos rfl,eR cu hn.1]
   rw [e1,e2]
  have both:∀{l u l' u':Tr},bJ r l->bJ r u->bJ r l'->bJ r u'->(∀e,ev e (.node n l u)=ev e (.node n l' u'))->l=l'/\u=u':=λ{l u l' u'} cl cu qc wq hh=>by
   refine ⟨cL hn.2 cl qc λe=>?_,cL hn.2 cu wq λe=>?_⟩
   . have:=hh (put e n false)
     rw [ev,ev,show put e n false n=false from if_pos rfl,if_neg (by decide),if_neg (by decide),eR cl hn.1,eR qc hn.1] at this
     exact this
   . have:=hh (put e n true)
     rw [ev,ev,show put e n true n=true from if_pos rfl,if_pos rfl,if_pos rfl,eR cu hn.1,eR wq hn.1] at this
     exact this
  cases h1 with
  | leaf _ a=>
   cases h2 with
   | leaf _ b=>rw [show a=b from h λ_=>true]
   | node ne cl cu=>exact absurd (split cl cu (.leaf r a) λe=>(h e).symm) ne
   | skip c=>exact cL hn.2 (.leaf r a) c h
  | node ne cl cu=>
   cases h2 with
   | leaf _ b=>exact absurd (split cl cu (.leaf r b) h) ne
   | node ne' qc wq=>
    obtain ⟨q1,q2⟩:=both cl cu qc wq h
    rw [q1,q2]
   | skip c=>exact absurd (split cl cu c h) ne
  | skip c=>
   cases h2 with
   | leaf _ b=>exact cL hn.2 c (.leaf r b) h
   | node ne cl cu=>exact absurd (split cl cu c λe=>(h e).symm) ne
   | skip c'=>exact cL hn.2 c c' h
theorem bG {ns:List Str}{t:Tr}(h:bJ ns t):t.dep<=ns.length:=by
 induction h with
 | leaf=>exact Nat.zero_le _
 | node _ _ _ i1 i2=>unfold Tr.dep; rw [List.length_cons]; omega
 | skip _ i=>rw [List.length_cons]; omega
theorem qd {ns:List Str}{t:Tr}(h:bJ ns t) (hs:∀n∈ns,PyData.strOk n=true):t.me:=by
 induction h with
 | leaf=>exact True.intro
 | node _ _ _ i1 i2=>exact ⟨hs _ List.mem_cons_self,i1 λn h=>hs n (List.mem_cons_of_mem _ h),i2 λn h=>hs n (List.mem_cons_of_mem _ h)⟩
 | skip _ i=>exact i λn h=>hs n (List.mem_cons_of_mem _ h)
theorem yP {a b:List Str}{t:Tr}(h:bJ b t):bJ (a++b) t:=by
 induction a with
 | nil=>exact h
 | cons n a ih=>exact .skip ih
theorem ez {ns:List Str}{i j:Nat}{t:Tr}(h:bJ (ns.drop j) t) (LI:i<=j):bJ (ns.drop i) t:=by
 have e:ns.drop j=(ns.drop i).drop (j-i):=by rw [List.drop_drop]; congr 1; omega
 rw [e] at h
 rw [← List.take_append_drop (j-i) (ns.drop i)]
 exact yP h
def neg:Tr->Tr
 | .leaf b=>.leaf (!b)
 | .node n l r=>.node n (neg l) (neg r)
theorem neg_neg:∀t,neg (neg t)=t
 | .leaf b=>by show Tr.leaf (!!b)=.leaf b; rw [Bool.not_not]
 | .node n l r=>by rw [neg,neg,neg_neg l,neg_neg r]
theorem xy {ns:List Str}{t:Tr}(h:bJ ns t):bJ ns (neg t):=by
 induction h with
 | leaf=>exact .leaf _ _
 | node ne _ _ i1 i2=>exact .node (λq=>ne (by have:=congrArg neg q; rwa [neg_neg,neg_neg] at this)) i1 i2
 | skip _ i=>exact .skip i
theorem og (e:Str->Bool):∀t,ev e (neg t) = !ev e t
 | .leaf b=>rfl
 | .node n l r=>by
  rw [neg,ev,ev,og e l,og e r]
  cases e n <;> rfl
theorem lG:∀t,(neg t).dep=t.dep
 | .leaf _=>rfl
 | .node n l r=>by rw [neg,Tr.dep,Tr.dep,lG l,lG r]
abbrev Nd:=Nat×Nat×Nat
def aB (N:List Nd) (i:Nat):Nat:=(N.getD i (0,0,0)).1
def low (N:List Nd) (i:Nat):Nat:=(N.getD i (0,0,0)).2.1
def dZ (N:List Nd) (i:Nat):Nat:=(N.getD i (0,0,0)).2.2
def aD (TS:List Tr) (i:Nat):Tr:=TS.getD i (.leaf false)
structure FS (names:List Str) (N:List Nd) (TS:List Tr):Prop where
 len:N.length=TS.length
 two:2<=N.length
 z0:N.getD 0 (0,0,0)=(names.length,0,0)
 z1:N.getD 1 (0,0,0)=(names.length,1,1)
 t0:aD TS 0=.leaf false
 t1:aD TS 1=.leaf true
 nd:∀i,2<=i->i<N.length->aB N i<names.length/\low N i<i/\dZ N i<i/\low N i≠dZ N i/\aB N i<aB N (low N i)/\aB N i<aB N (dZ N i)/\aD TS i=.node (names.getD (aB N i) "") (aD TS (low N i)) (aD TS (dZ N i))
 uq:∀i j,2<=i->2<=j->i<N.length->j<N.length->N.getD i (0,0,0)=N.getD j (0,0,0)->i=j
section
variable {names:List Str}{N:List Nd}{TS:List Tr}
theorem FS.inj (h:FS names N TS) (hn:names.Nodup):∀i j,i<N.length->j<N.length->aD TS i=aD TS j->i=j:=by
 intro i
 induction i using Nat.strongRecOn with
 | ind i ih=>
  intro j hi hj e
  have mv:∀k,k<2->aD TS k=.leaf (decide (k=1)):=λk hk=>by
   rcases (show k=0\/k=1 by omega) with rfl | rfl
   . exact h.t0
   . exact h.t1
  by_cases i2:i<2
  . by_cases j2:j<2
    . rw [mv i i2,mv j j2] at e
      injection e with e
      rcases (show i=0\/i=1 by omega) with rfl | rfl <;> rcases (show j=0\/j=1 by omega) with rfl | rfl <;> first | rfl | (revert e; decide)
    . rw [mv i i2,(h.nd j (by omega) hj).2.2.2.2.2.2] at e
      cases e
  . by_cases j2:j<2
    . rw [mv j j2,(h.nd i (by omega) hi).2.2.2.2.2.2] at e
      cases e
    . obtain ⟨a1,a2,a3,_,_,_,a7⟩:=h.nd i (by omega) hi
      obtain ⟨b1,b2,b3,_,_,_,b7⟩:=h.nd j (by omega) hj
      rw [a7,b7] at e
      injection e with e1 e2 e3
      have q2:=ih _ a2 _ (by omega) (by omega) e2
      have q3:=ih _ a3 _ (by omega) (by omega) e3
      have q1:aB N i=aB N j:=by
       rw [List.getD_eq_getElem?_getD,List.getD_eq_getElem?_getD,List.getElem?_eq_getElem a1,List.getElem?_eq_getElem b1] at e1
       exact (List.getElem_inj hn).mp e1
      refine h.uq i j (by omega) (by omega) hi hj ?_
      exact Prod.ext q1 (Prod.ext q2 q3)
theorem FS.GU (h:FS names N TS){i:Nat}(hi:i<N.length):aB N i<=names.length:=by
 by_cases i2:i<2
 . unfold aB
   rcases (show i=0\/i=1 by omega) with rfl | rfl
   . rw [h.z0]
     exact Nat.le_refl _
   . rw [h.z1]
     exact Nat.le_refl _
 . exact Nat.le_of_lt (h.nd i (by omega) hi).1
theorem FS.CT (h:FS names N TS) (hn:names.Nodup):∀i,i<N.length->bJ (names.drop (aB N i)) (aD TS i):=by
 intro i
 induction i using Nat.strongRecOn with
 | ind i ih=>
  intro hi
  by_cases i2:i<2
  . rcases (show i=0\/i=1 by omega) with rfl | rfl
    . rw [h.t0]
      exact .leaf _ _
    . rw [h.t1]
      exact .leaf _ _
  . obtain ⟨a1,a2,a3,a4,a5,a6,a7⟩:=h.nd i (by omega) hi
    rw [a7,List.drop_eq_getElem_cons a1,List.getD_eq_getElem?_getD,List.getElem?_eq_getElem a1]
    refine .node (λq=>a4 (h.inj hn _ _ (by omega) (by omega) q)) (ez (ih _ a2 (by omega)) a5) (ez (ih _ a3 (by omega)) a6)
theorem hU {α:Type}{l m:List α}{d:α}{i:Nat}(h:i<l.length):(l++m).getD i d=l.getD i d:=by
 rw [List.getD_eq_getElem?_getD,List.getD_eq_getElem?_getD,List.getElem?_append_left h]
theorem hV {α:Type}{l:List α}{x d:α} : (l++[x]).getD l.length d=x:=by
 rw [List.getD_eq_getElem?_getD,List.getElem?_append_right (Nat.le_refl _),Nat.sub_self]
 rfl
theorem FS.push (h:FS names N TS){s l u:Nat}(hs:s<names.length) (hl:l<N.length) (hu:u<N.length) (ne:l≠u) (s1:s<aB N l) (s2:s<aB N u) (d4:∀i,2<=i->i<N.length->N.getD i (0,0,0)≠(s,l,u)) :
 FS names (N++[(s,l,u)]) (TS++[.node (names.getD s "") (aD TS l) (aD TS u)]):=by
 have h2:=h.two
 have hlen:=h.len
 have eB:∀i,i<N.length->(N++[(s,l,u)]).getD i (0,0,0)=N.getD i (0,0,0):=λi hi=>hU hi
 have jP:∀i,i<N.length->aD (TS++[.node (names.getD s "") (aD TS l) (aD TS u)]) i=aD TS i:=λi hi=>hU (by omega)
 have oi:(N++[(s,l,u)]).getD N.length (0,0,0)=(s,l,u):=hV
 refine ⟨by rw [List.length_append,List.length_append,hlen]; rfl,by rw [List.length_append]; omega,by rw [eB 0 (by omega)]; exact h.z0,by rw [eB 1 (by omega)]; exact h.z1,by rw [jP 0 (by omega)]; exact h.t0,by rw [jP 1 (by omega)]; exact h.t1,λi i2 hi=>?_,λi j i2 j2 hi hj e=>?_⟩
 . rw [List.length_append,List.length_singleton] at hi
   by_cases q:i<N.length
   . obtain ⟨a1,a2,a3,a4,a5,a6,a7⟩:=h.nd i i2 q
     have e1:aB (N++[(s,l,u)]) i=aB N i:=by unfold aB; rw [eB i q]
     have e2:low (N++[(s,l,u)]) i=low N i:=by unfold low; rw [eB i q]
     have e3:dZ (N++[(s,l,u)]) i=dZ N i:=by unfold dZ; rw [eB i q]
     have e4:aB (N++[(s,l,u)]) (low N i)=aB N (low N i):=by unfold aB; rw [eB _ (by omega)]
     have e5:aB (N++[(s,l,u)]) (dZ N i)=aB N (dZ N i):=by unfold aB; rw [eB _ (by omega)]
     rw [e1,e2,e3,e4,e5,jP i q,jP _ (by omega),jP _ (by omega)]
     exact ⟨a1,a2,a3,a4,a5,a6,a7⟩
   . have ei:i=N.length:=by omega
     subst ei
     have e1:aB (N++[(s,l,u)]) N.length=s:=by unfold aB; rw [oi]
     have e2:low (N++[(s,l,u)]) N.length=l:=by unfold low; rw [oi]
     have e3:dZ (N++[(s,l,u)]) N.length=u:=by unfold dZ; rw [oi]
     have e4:aB (N++[(s,l,u)]) l=aB N l:=by unfold aB; rw [eB _ hl]
     have e5:aB (N++[(s,l,u)]) u=aB N u:=by unfold aB; rw [eB _ hu]
     rw [e1,e2,e3,e4,e5,jP _ hl,jP _ hu]
     refine ⟨hs,hl,hu,ne,s1,s2,?_⟩
     rw [hlen]
     exact hV
 . rw [List.length_append,List.length_singleton] at hi hj
   by_cases qi:i<N.length
   . by_cases qj:j<N.length
     . rw [eB i qi,eB j qj] at e
       exact h.uq i j i2 j2 qi qj e
     . rw [eB i qi,show j=N.length by omega,oi] at e
       exact absurd e (d4 i i2 qi)
   . by_cases qj:j<N.length
     . rw [eB j qj,show i=N.length by omega,oi] at e
       exact absurd e.symm (d4 j j2 qj)
     . omega
end
end Gen
namespace Gen
open PySem L2
abbrev jd:Stmt:=inClass (top 6) 1
abbrev je:Stmt:=inClass (top 6) 6
structure fQ (mg:Str->Option Value):Prop where
 len:mg "len" = none
 list:mg "list" = none
 dict:mg "dict" = none
 tuple:mg "tuple" = none
 str:mg "str" = none
 int:mg "int" = none
 bool:mg "bool" = none
 zip:mg "zip" = none
 isi:mg "isinstance" = none
 min:mg "min" = none
 rev:mg "reversed" = none
structure eX (K:W.Frag) (mg:Str->Option Value) (C:Addr):Prop where
 cl:iI K C
 n1:cw K C "names"
 n2:cw K C "spots"
 n3:cw K C "nodes"
 n4:cw K C "known"
 n5:cw K C "choices"
 n6:cw K C "imported"
 n7:cw K C "exported"
 mgC:mg "Forest" = some (.ref C)
def bL (nm sp nd kn ch im ex:Addr):List (Str×V):=au "exported" (.ref ex) (au "imported" (.ref im) (au "choices" (.ref ch) (au "known" (.ref kn) (au "nodes" (.ref nd) (au "spots" (.ref sp) (au "names" (.ref nm) []))))))
section
variable (nm sp nd kn ch im ex:Addr)
theorem EN:(bL nm sp nd kn ch im ex).lookup ("names" : Str)=some (.ref nm):=by
 unfold bL
 rw [ao,if_neg (by decide +kernel),ao,if_neg (by decide +kernel),ao,if_neg (by decide +kernel),ao,if_neg (by decide +kernel),ao,if_neg (by decide +kernel),ao,if_neg (by decide +kernel),ao,if_pos rfl]
theorem EO:(bL nm sp nd kn ch im ex).lookup ("spots" : Str)=some (.ref sp):=by
 unfold bL
 rw [ao,if_neg (by decide +kernel),ao,if_neg (by decide +kernel),ao,if_neg (by decide +kernel),ao,if_neg (by decide +kernel),ao,if_neg (by decide +kernel),ao,if_pos rfl]
theorem jQ:(bL nm sp nd kn ch im ex).lookup ("nodes" : Str)=some (.ref nd):=by
 unfold bL
 rw [ao,if_neg (by decide +kernel),ao,if_neg (by decide +kernel),ao,if_neg (by decide +kernel),ao,if_neg (by decide +kernel),ao,if_pos rfl]
theorem yQ:(bL nm sp nd kn ch im ex).lookup ("known" : Str)=some (.ref kn):=by
 unfold bL
 rw [ao,if_neg (by decide +kernel),ao,if_neg (by decide +kernel),ao,if_neg (by decide +kernel),ao,if_pos rfl]
theorem yR:(bL nm sp nd kn ch im ex).lookup ("choices" : Str)=some (.ref ch):=by
 unfold bL
 rw [ao,if_neg (by decide +kernel),ao,if_neg (by decide +kernel),ao,if_pos rfl]
theorem yS:(bL nm sp nd kn ch im ex).lookup ("imported" : Str)=some (.ref im):=by
 unfold bL
 rw [ao,if_neg (by decide +kernel),ao,if_pos rfl]
theorem yT:(bL nm sp nd kn ch im ex).lookup ("exported" : Str)=some (.ref ex):=by
 unfold bL
 rw [ao,if_pos rfl]
theorem iS {m:Str}(h1:m ≠ "names") (h2:m ≠ "spots") (h3:m ≠ "nodes") (h4:m ≠ "known") (h5:m ≠ "choices") (h6:m ≠ "imported") (h7:m ≠ "exported"):(bL nm sp nd kn ch im ex).lookup m=none:=by
 unfold bL
 rw [ao,if_neg h7,ao,if_neg h6,ao,if_neg h5,ao,if_neg h4,ao,if_neg h3,ao,if_neg h2,ao,if_neg h1]
 rfl
end
theorem aZ {b:Bool}{A B:Prop}(h:b=false) (k:B):if b=true then A else B:=by rw [h]; exact gr k
theorem bQ {b:Bool}{A B:Prop}(h:b=true) (k:A):if b=true then A else B:=by rw [h]; exact lC k
def dh:Nat->List Str->List (Key×V)
 | _,[]=>[]
 | i,n::r=>(.inr n,.int (i:Int))::dh (i+1) r
theorem tV:∀(names:List Str) (i j:Nat) (z:Str),names.Nodup->names[j]?=some z->bj (dh i names) (.inr z)=some (V.int ((i+j:Nat):Int))
 | [],_,_,_,_,h=>by simp at h
 | n::r,i,0,z,_,h=>by
  have e:n=z:=by simpa using h
  subst e
  rw [dh,b0 rfl]
  rfl
 | n::r,i,j+1,z,hn,h=>by
  have h2:r[j]?=some z:=by simpa using h
  have hz:z≠n:=λe=>(List.nodup_cons.mp hn).1 (e ▸ List.mem_of_getElem? h2)
  rw [dh,bX (λq=>hz (Sum.inr.inj q).symm),tV r (i+1) j z (List.nodup_cons.mp hn).2 h2,show i+1+j=i+(j+1) by omega]
def cZ (p:Nd):List V:=[.int (p.1:Int),.int (p.2.1:Int),.int (p.2.2:Int)]
def eS (p:Nd):List Key:=[.inl (p.1:Int),.inl (p.2.1:Int),.inl (p.2.2:Int)]
theorem lH {p q:Nd}(h:eS p=eS q):p=q:=by
 unfold eS at h
 simp only [List.cons.injEq,Sum.inl.injEq,and_true] at h
 obtain ⟨h1,h2,h3⟩:=h
 exact Prod.ext (by omega) (Prod.ext (by omega) (by omega))
def cW:Nat->List Nd->List (List Key×V)
 | _,[]=>[]
 | i,p::r=>(eS p,.int (i:Int))::cW (i+1) r
theorem qg:∀(l:List Nd) (i:Nat),(cW i l).length=l.length
 | [],_=>rfl
 | _::r,i=>by rw [cW,List.length_cons,List.length_cons,qg r]
theorem qh:∀(a b:List Nd) (i:Nat),cW i (a++b)=cW i a++cW (i+a.length) b
 | [],b,i=>rfl
 | p::r,b,i=>by rw [List.cons_append,cW,cW,qh r b (i+1),List.cons_append,List.length_cons,show i+1+r.length=i+(r.length+1) by omega]
theorem om:∀(l:List Nd) (i:Nat) (p:Nd),bj (cW i l) (eS p)=none->p∉l
 | [],_,_,_=>List.not_mem_nil
 | q::r,i,p,h=>by
  by_cases e:q=p
  . rw [e,cW,b0 rfl] at h
    cases h
  . rw [cW,bX (λz=>e (lH z))] at h
    rw [List.mem_cons,not_or]
    exact ⟨λz=>e z.symm,om r (i+1) p h⟩
theorem oo:∀(l:List Nd) (i:Nat) (p:Nd) (v:V),bj (cW i l) (eS p)=some v->∃j,l[j]?=some p/\v=.int ((i+j:Nat):Int)
 | [],_,_,_,h=>nomatch h
 | q::r,i,p,v,h=>by
  by_cases e:q=p
  . rw [e,cW,b0 rfl] at h
    exact ⟨0,by rw [e]; rfl,(Option.some.inj h).symm⟩
  . rw [cW,bX (λz=>e (lH z))] at h
    obtain ⟨j,h1,h2⟩:=oo r (i+1) p v h
    exact ⟨j+1,by simpa using h1,by rw [h2,show i+1+j=i+(j+1) by omega]⟩
structure cz where
 N:List Nd
 TS:List Tr
 ts:List Addr
 CH:List (List Key×V)
 IM:List (Tr×Addr×V)
 EX:List (Key×V)
def jR (N:List Nd) (TS:List Tr) (e:List Key×V):Prop:=∃t h l n:Nat,e.1=[.inl (t:Int),.inl (h:Int),.inl (l:Int)]/\e.2=.int (n:Int)/\t<N.length/\h<N.length/\l<N.length/\n<N.length/\
 (∀v,ev v (aD TS n)=if ev v (aD TS t)=true then ev v (aD TS h) else ev v (aD TS l))/\min (aB N t) (min (aB N h) (aB N l))<=aB N n
structure FO (P:Program) (w:World) (C:Addr) (H:Hp) (y dy nm sp nd kn ch im ex:Addr) (names:List Str) (S:cz):Prop where
 hy:H y=some (.ins C dy (bL nm sp nd kn ch im ex))
 hn:H nm=some (.lst (names.map V.str))
 hs:H sp=some (.dK (dh 0 names))
 hd:H nd=some (.lst (S.ts.map V.ref))
 ht:Paired (λt p=>H t=some (.tup (cZ p))) S.ts S.N
 hk:H kn=some (.dT (cW 2 (S.N.drop 2)))
 hc:H ch=some (.dT S.CH)
 ck:∀e∈S.CH,jR S.N S.TS e
 hi:H im=some (dF P w im S.IM)
 ik:∀p∈S.IM,df H p.1 p.2.1/\∃i:Nat,i<S.N.length/\p.2.2=.int (i:Int)/\aD S.TS i=p.1
 he:H ex=some (.dK S.EX)
 ek:∀kv∈S.EX,∃i:Nat,kv.1=.inl (i:Int)/\i<S.N.length/\aX H (aD S.TS i) kv.2
 e0:bj S.EX (.inl 0)=some (.bl false)/\bj S.EX (.inl 1)=some (.bl true)
 fs:FS names S.N S.TS
 nn:names.Nodup
 ns:∀n∈names,PyData.strOk n=true
 n8:names.length<=8
 d1:nd≠nm
 d2:kn≠ch
 d3:sp≠ex
def Kp (H H':Hp) (nd kn ch im ex:Addr):Prop:=∀b o,H b=some o->b≠nd->b≠kn->b≠ch->b≠im->b≠ex->H' b=some o
structure Bd (S:cz) (b:Nat):Prop where
 b1:S.N.length<=b
 b2:S.CH.length<=b
 b3:S.IM.length<=b
 b4:S.EX.length<=b
structure cH (S S':cz):Prop where
 gn:∃a,S'.N=S.N++a
 gt:∃a,S'.TS=S.TS++a
theorem cH.refl (S:cz):cH S S:=⟨⟨[],by simp⟩,⟨[],by simp⟩⟩
theorem cH.trans {S S1 S2:cz}(a:cH S S1) (b:cH S1 S2):cH S S2:=by
 obtain ⟨⟨x,hx⟩,⟨y,hy⟩⟩:=a
 obtain ⟨⟨x',wt⟩,⟨y',Ik⟩⟩:=b
 exact ⟨⟨x++x',by rw [wt,hx,List.append_assoc]⟩,⟨y++y',by rw [Ik,hy,List.append_assoc]⟩⟩
theorem cH.le {S S':cz}(a:cH S S'):S.N.length<=S'.N.length:=by
 obtain ⟨⟨x,hx⟩,_⟩:=a
 rw [hx,List.length_append]
 omega
theorem cH.nd {S S':cz}(a:cH S S'){i:Nat}(h:i<S.N.length):S'.N.getD i (0,0,0)=S.N.getD i (0,0,0):=by
 obtain ⟨⟨x,hx⟩,_⟩:=a
 rw [hx]
 exact hU h
theorem cH.aB {S S':cz}(a:cH S S'){i:Nat}(h:i<S.N.length):Gen.aB S'.N i=Gen.aB S.N i:=by unfold Gen.aB; rw [a.nd h]
theorem cH.aD {S S':cz}(a:cH S S'){i:Nat}(h:i<S.TS.length):Gen.aD S'.TS i=Gen.aD S.TS i:=by
 obtain ⟨_,⟨x,hx⟩⟩:=a
 unfold Gen.aD
 rw [hx]
 exact hU h
theorem jR.grow {S S':cz}(a:cH S S') (hl:S.N.length=S.TS.length){e:List Key×V}(h:jR S.N S.TS e):jR S'.N S'.TS e:=by
 obtain ⟨t,h',l,n,e1,e2,l1,l2,l3,l4,hv,hm⟩:=h
 have:=a.le
 refine ⟨t,h',l,n,e1,e2,by omega,by omega,by omega,by omega,λv=>?_,?_⟩
 . rw [a.aD (by omega),a.aD (by omega),a.aD (by omega),a.aD (by omega)]
   exact hv v
 . rw [a.aB l1,a.aB l2,a.aB l3,a.aB l4]
   exact hm
section
variable {P:Program}{w:World}{K:W.Frag}{mg:Str->Option Value}{base:Heap}{C y dy nm sp nd kn ch im ex:Addr}{names:List Str}{S:cz}{H H':Hp}
theorem Kp.of (s:ak H H'):Kp H H' nd kn ch im ex:=λb o h _ _ _ _ _=>s b o h
theorem Kp.trans {H1:Hp}(a:Kp H H1 nd kn ch im ex) (b:Kp H1 H' nd kn ch im ex):Kp H H' nd kn ch im ex:=λc o h h1 h2 h3 h4 h5=>b c o (a c o h h1 h2 h3 h4 h5) h1 h2 h3 h4 h5
theorem FO.cN (h:FO P w C H y dy nm sp nd kn ch im ex names S) (k:Kp H H' nd kn ch im ex):∀a xs,H a=some (.tup xs)->H' a=some (.tup xs):=λa xs e=>
 k a _ e (cC e h.hd (by intro z; cases z)) (cC e h.hk (by intro z; cases z)) (cC e h.hc (by intro z; cases z)) (cC e h.hi (by intro z; cases z)) (cC e h.he (by intro z; cases z))
theorem FO.same (h:FO P w C H y dy nm sp nd kn ch im ex names S) (s:ak H H'):FO P w C H' y dy nm sp nd kn ch im ex names S:=
 ⟨s _ _ h.hy,s _ _ h.hn,s _ _ h.hs,s _ _ h.hd,Paired.gW h.ht λ_ _ e=>s _ _ e,s _ _ h.hk,s _ _ h.hc,h.ck,s _ _ h.hi,λp hp=>⟨(h.ik p hp).1.keep λa xs e=>s _ _ e,(h.ik p hp).2⟩,s _ _ h.he,
  λkv bh=>let ⟨i,a,b,c⟩:=h.ek kv bh; ⟨i,a,b,c.keep λa xs e=>s _ _ e⟩,h.e0,h.fs,h.nn,h.ns,h.n8,h.d1,h.d2,h.d3⟩
theorem FO.node (h:FO P w C H y dy nm sp nd kn ch im ex names S){i:Nat}(hi:i<S.N.length):∃t,S.ts[i]?=some t/\H t=some (.tup (cZ (S.N.getD i (0,0,0)))):=by
 obtain ⟨t,h1,h2⟩:=mf h.ht (i:=i) (List.getElem?_eq_getElem hi)
 refine ⟨t,h1,?_⟩
 rw [h2,List.getD_eq_getElem?_getD,List.getElem?_eq_getElem hi]
 rfl
def kG (P:Program) (w:World) (C:Addr):Sp:=λvs H Q _=>∃(y dy nm sp nd kn ch im ex:Addr) (names:List Str) (S:cz) (x s:Nat) (b:Bool),vs=[.ref y,.int (x:Int),.int (s:Int),.int (if b=true then 2 else 1)]/\FO P w C H y dy nm sp nd kn ch im ex names S/\x<S.N.length/\
 Q (.int ((if aB S.N x=s then (if b=true then dZ S.N x else low S.N x) else x:Nat):Int)) H
theorem tW:aQ ["self", "number", "spot", "side", "node"] ["self", "number", "spot", "side"] (aj je):=⟨rfl,rfl,rfl,by decide +kernel,rfl,by decide +kernel,by decide +kernel⟩
theorem xA {f:Addr}{fd:FuncData}(F:bY K "half" "Forest.half" je f fd) (T:eX K mg C):av P w K mg base aH 1 f fd ["self", "number", "spot", "side"] (kG P w C):=by
 refine F.ok tW (λvs H Q E h=>?_) (λcdv A outer s H vs Q E hr h=>?_)
 . obtain ⟨y,dy,nm,sp,nd,kn,ch,im,ex,names,S,x,s0,b,rfl,_⟩:=h
   rfl
 . obtain ⟨y,dy,nm,sp,nd,kn,ch,im,ex,names,S,x,s0,b,rfl,hO,hx,kk⟩:=h
   refine ⟨_,ae (ax (i:=4) tW.nd rfl (Or.inl rfl) (aM (r:=eu K) br (bx (pv 0) rfl) (pv 1) (λ_ _=>rfl)))
    (aq (aJ (uK (bq dj (aM (r:=cm K) bo (pv 4) af (λ_ _=>rfl)) (pv 2) (bp _)) (aM (r:=cm K) bo (pv 4) (pv 3) (λ_ _=>rfl)) (pv 1)))),?_⟩
   obtain ⟨t,h1,h2⟩:=hO.node hx
   refine ⟨_,rfl,y,C,dy,_,_,rfl,hO.hy,T.cl,T.n3,jQ ..,_,rfl,nd,_,_,.ref t,rfl,rfl,ay.of hO.hd,aF (by rw [List.getElem?_map,h1]; rfl),?_⟩
   refine ⟨_,rfl,t,_,0,_,rfl,rfl,aY.of h2,aF (j:=0) rfl,_,rfl,rfl,_,rfl,?_⟩
   by_cases e:aB S.N x=s0
   . rw [if_pos e] at kk
     refine bQ (decide_eq_true (by rw [← e]; rfl)) ?_
     refine ⟨_,rfl,_,rfl,t,_,_,_,rfl,rfl,aY.of h2,?_,kk⟩
     cases b
     . exact aF (j:=1) rfl
     . exact aF (j:=2) rfl
   . rw [if_neg e] at kk
     refine aZ (decide_eq_false λz=>e ?_) ⟨_,rfl,kk⟩
     have:=V.int.inj z
     have q:((aB S.N x:Nat):Int)=(s0:Int):=this
     omega
def gz (P:Program) (w:World) (C:Addr):Sp:=λvs H Q _=>∃(y dy nm sp nd kn ch im ex:Addr) (names:List Str) (S:cz) (s l u b:Nat),vs=[.ref y,.int (s:Int),.int (l:Int),.int (u:Int)]/\FO P w C H y dy nm sp nd kn ch im ex names S/\s<names.length/\l<S.N.length/\u<S.N.length/\s<aB S.N l/\s<aB S.N u/\Bd S b/\b<100000/\
 ∀(n:Nat) (S':cz) (H':Hp),FO P w C H' y dy nm sp nd kn ch im ex names S'->Kp H H' nd kn ch im ex->cH S S'->Bd S' (b+1)->S'.CH=S.CH->S'.IM=S.IM->S'.EX=S.EX->n<S'.N.length->s<=aB S'.N n->aD S'.TS n=(if l=u then aD S.TS l else .node (names.getD s "") (aD S.TS l) (aD S.TS u))->Q (.int (n:Int)) H'
abbrev Il:List Str:=["self", "spot", "low", "high", "key", "number"]
abbrev iz:List Str:=["self", "spot", "low", "high"]
theorem rj:aQ Il iz (aj jd):=⟨rfl,rfl,rfl,by decide +kernel,rfl,by decide +kernel,by decide +kernel⟩
theorem big {n:Nat}(h:n<=1000000):n<sizeLine:=Nat.lt_of_le_of_lt h (by decide)
theorem vf {α:Type}{l:List α}{j:Nat}{x d:α}(h:(l.drop 2)[j]?=some x):2+j<l.length/\l.getD (2+j) d=x:=by
 rw [List.getElem?_drop] at h
 have:=(List.getElem?_eq_some_iff.mp h).1
 exact ⟨this,by rw [List.getD_eq_getElem?_getD,h]; rfl⟩
theorem xB {f:Addr}{fd:FuncData}(F:bY K "node" "Forest.node" jd f fd) (T:eX K mg C) (O2:fQ mg):av P w K mg base aH 1 f fd iz (gz P w C):=by
 refine F.ok rj (λvs H Q E h=>?_) (λcdv A outer s H vs Q E hr h=>?_)
 . obtain ⟨y,dy,nm,sp,nd,kn,ch,im,ex,names,S,s0,l,u,b,rfl,_⟩:=h
   rfl
 . obtain ⟨y,dy,nm,sp,nd,kn,ch,im,ex,names,S,s0,l,u,b,rfl,hO,hs,hl,tT,s1,s2,hB,hb,kk⟩:=h
   have hu:=i9 hr
   refine ⟨_,ae (bf (bq dj (pv 2) (pv 3) (bp _)) (aq (aJ (pv 2))) aN)
    (ae (ax (i:=4) rj.nd rfl (Or.inl rfl) (eM (aa (pv 1) (aa (pv 2) (aa (pv 3) ab)))))
    (ae (ax (i:=5) rj.nd rfl (Or.inl rfl) (jC hu (bx (pv 0) rfl) (pv 4) ⟨rfl,rfl,rfl,rfl⟩))
    (ae (bf (dM (iD (pv 5)))
     (ae (ax (i:=5) rj.nd rfl (Or.inl rfl) (aO aP (by rfl) O2.len PySem.boot_len (aa (bx (pv 0) rfl) ab)))
     (ae (lx (kd PySem.F.plainAttrs_list PySem.F.slot_list_append PySem.F.type_list_append gh (bx (pv 0) rfl) (aa (pv 4) ab)))
     (aq (lz hu (bx (pv 0) rfl) (pv 4) (pv 5) rfl)))) aN)
    (aq (aJ (pv 5)))))),?_⟩
   refine ⟨_,rfl,_,rfl,rfl,_,rfl,?_⟩
   by_cases e:l=u
   . refine bQ (decide_eq_true (by rw [e])) ⟨_,rfl,kk l S H hO (λ_ _ h _ _ _ _ _=>h) (.refl S) ⟨Nat.le_succ_of_le hB.b1,Nat.le_succ_of_le hB.b2,Nat.le_succ_of_le hB.b3,Nat.le_succ_of_le hB.b4⟩ rfl rfl rfl hl (Nat.le_of_lt s1) (by rw [if_pos e])⟩
   . refine aZ (decide_eq_false λz=>e (by have:=V.int.inj z; omega)) ?_
     refine ⟨_,rfl,_,rfl,_,rfl,(by show 3<=sizeLine; decide),λt ht=>?_⟩
     have q1:(upd H t (.tup (cZ (s0,l,u)))) t=some (.tup (cZ (s0,l,u))):=ag
     have wu:ak H (upd H t (.tup (cZ (s0,l,u)))):=ak.aA ht
     show dq _ _ _ _ (upd H t (.tup (cZ (s0,l,u))))
     generalize upd H t (.tup (cZ (s0,l,u)))=H1 at q1 wu ⊢
     have aI:=hO.same wu
     have hlen:=aI.fs.len
     have cU:H1 t=some (.tup ((eS (s0,l,u)).map kV)):=q1
     refine ⟨_,rfl,y,C,dy,_,_,rfl,aI.hy,T.cl,T.n4,yQ ..,kn,rfl,.inr ⟨_,.inl aI.hk⟩,_,rfl,_,eg.t (k:=eS (s0,l,u)) aI.hk cU,?_⟩
     cases hv:bj (cW 2 (S.N.drop 2)) (eS (s0,l,u)) with
     | some v=>
      obtain ⟨j,hj,rfl⟩:=oo _ _ _ _ hv
      obtain ⟨j1,j2⟩:=vf (d:=(0,0,0)) hj
      refine ⟨_,rfl,_,rfl,aZ rfl ⟨_,rfl,kk (2+j) S H1 aI (.of wu) (.refl S) ⟨Nat.le_succ_of_le hB.b1,Nat.le_succ_of_le hB.b2,Nat.le_succ_of_le hB.b3,Nat.le_succ_of_le hB.b4⟩ rfl rfl rfl j1 ?_ ?_⟩⟩
      . unfold aB
        rw [j2]
        exact Nat.le_refl _
      . obtain ⟨_,_,_,_,_,_,a7⟩:=aI.fs.nd (2+j) (by omega) j1
        rw [a7,if_neg e]
        unfold aB low dZ
        rw [j2]
     | none=>
      have yO:=om _ _ _ hv
      have CU:=aI.ht.length
      refine ⟨_,rfl,_,rfl,bQ rfl ?_⟩
      refine ⟨_,rfl,y,C,dy,_,_,rfl,aI.hy,T.cl,T.n3,jQ ..,nd,_,rfl,.inl (ay.of aI.hd),?_⟩
      rw [List.length_map,CU]
      refine ⟨_,rfl,y,C,dy,_,_,rfl,aI.hy,T.cl,T.n3,jQ ..,.inl ⟨rfl,_,ay.of aI.hd⟩,_,rfl,nd,_,_,rfl,rfl,aI.hd,(by rw [List.length_map,CU]; exact big (by have:=hB.b1; omega)),?_⟩
      have q2:(upd H1 nd (.lst (S.ts.map V.ref++[.ref t]))) nd=some (.lst ((S.ts++[t]).map V.ref)):=by rw [ag,List.map_append]; rfl
      have k2:∀b o,H1 b=some o->b≠nd->(upd H1 nd (.lst (S.ts.map V.ref++[.ref t]))) b=some o:=λb o h n=>by rw [ai n]; exact h
      generalize upd H1 nd (.lst (S.ts.map V.ref++[.ref t]))=H2 at q2 k2 ⊢
      have nl:∀{b:Addr}{o:HO},H1 b=some o->(∀xs,o≠.lst xs)->b≠nd:=λhb ho z=>by
       rw [z,aI.hd] at hb
       exact ho _ (Option.some.inj hb).symm
      have y2:=k2 _ _ aI.hy (nl aI.hy (λ_ z=>by cases z))
      have Im:=k2 _ _ aI.hk (nl aI.hk (λ_ z=>by cases z))
      have t2:=k2 _ _ cU (nl cU (λ_ z=>by cases z))
      refine ⟨_,rfl,_,rfl,y,C,dy,_,_,rfl,y2,T.cl,T.n4,yQ ..,_,rfl,kn,_,rfl,g0.t (k:=eS (s0,l,u)) Im t2 (by rw [qg]; exact big (by have:=hB.b1; rw [List.length_drop]; omega)),?_⟩
      have ER:putK (cW 2 (S.N.drop 2)) (eS (s0,l,u)) (.int (S.N.length:Int))=cW 2 ((S.N++[(s0,l,u)]).drop 2):=by
       have h2:=aI.fs.two
       rw [jA _ hv,List.drop_append_of_le_length h2,qh,List.length_drop,show 2+(S.N.length-2)=S.N.length by omega]
       rfl
      rw [ER]
      have q3:(upd H2 kn (.dT (cW 2 ((S.N++[(s0,l,u)]).drop 2)))) kn=some (.dT (cW 2 ((S.N++[(s0,l,u)]).drop 2))):=ag
      have k3:∀b o,H1 b=some o->b≠nd->b≠kn->(upd H2 kn (.dT (cW 2 ((S.N++[(s0,l,u)]).drop 2)))) b=some o:=λb o h n1 n2=>by rw [ai n2]; exact k2 b o h n1
      have CV:(upd H2 kn (.dT (cW 2 ((S.N++[(s0,l,u)]).drop 2)))) nd=some (.lst ((S.ts++[t]).map V.ref)):=by rw [ai (Ne.symm (nl aI.hk (λ_ z=>by cases z)))]; exact q2
      generalize upd H2 kn (.dT (cW 2 ((S.N++[(s0,l,u)]).drop 2)))=H3 at q3 k3 CV ⊢
      have kt:∀{b:Addr}{o:HO},H1 b=some o->(∀xs,o≠.lst xs)->(∀xs,o≠.dT xs)->H3 b=some o:=λhb ho hd=>k3 _ _ hb (nl hb ho) λz=>by
       rw [z,aI.hk] at hb
       exact hd _ (Option.some.inj hb).symm
      have G:cH S { S with N:=S.N++[(s0,l,u)],TS:=S.TS++[.node (names.getD s0 "") (aD S.TS l) (aD S.TS u)],ts:=S.ts++[t] }:=⟨⟨_,rfl⟩,⟨_,rfl⟩⟩
      have fs':=aI.fs.push hs hl tT e s1 s2 λi i2 hi z=>yO (by
       rw [List.mem_iff_getElem?]
       refine ⟨i-2,?_⟩
       rw [List.getElem?_drop,show 2+(i-2)=i by omega,List.getElem?_eq_getElem hi]
       rw [List.getD_eq_getElem?_getD,List.getElem?_eq_getElem hi] at z
       exact congrArg some z)
      have rm:∀a xs,H1 a=some (.tup xs)->H3 a=some (.tup xs):=λa xs h=>kt h (λ_ z=>by cases z) (λ_ z=>by cases z)
      refine ⟨_,rfl,kk S.N.length { S with N:=S.N++[(s0,l,u)],TS:=S.TS++[.node (names.getD s0 "") (aD S.TS l) (aD S.TS u)],ts:=S.ts++[t] } H3 ⟨kt aI.hy (λ_ z=>by cases z) (λ_ z=>by cases z),k3 _ _ aI.hn (Ne.symm aI.d1) (cC aI.hn aI.hk (by intro z; cases z)),kt aI.hs (λ_ z=>by cases z) (λ_ z=>by cases z),CV,eW (Paired.gW aI.ht λ_ _ h=>rm _ _ h) (.cons (rm _ _ q1) .nil),q3,k3 _ _ aI.hc (nl aI.hc (λ_ z=>by cases z)) (Ne.symm aI.d2),λe' h=>jR.grow G hlen (aI.ck e' h),kt aI.hi (λ_ z=>by cases z) (λ_ z=>by cases z),λp hp=>?_,kt aI.he (λ_ z=>by cases z) (λ_ z=>by cases z),λkv bh=>?_,aI.e0,fs',aI.nn,aI.ns,aI.n8,aI.d1,aI.d2,aI.d3⟩ (λb o h n1 n2 _ _ _=>k3 _ _ (wu _ _ h) n1 n2) G ⟨by rw [List.length_append]; have:=hB.b1; show S.N.length+1<=b+1; omega,Nat.le_succ_of_le hB.b2,Nat.le_succ_of_le hB.b3,Nat.le_succ_of_le hB.b4⟩ rfl rfl rfl (by rw [List.length_append]; exact Nat.lt_succ_self _) ?_ ?_⟩
      . obtain ⟨h1,i,i1,i2,i3⟩:=aI.ik p hp
        exact ⟨h1.keep rm,i,by rw [List.length_append]; show i<S.N.length+1; omega,i2,by rw [← i3]; exact G.aD (by omega)⟩
      . obtain ⟨i,i1,i2,i3⟩:=aI.ek kv bh
        have e9:aD (S.TS++[.node (names.getD s0 "") (aD S.TS l) (aD S.TS u)]) i=aD S.TS i:=G.aD (by omega)
        exact ⟨i,i1,by rw [List.length_append]; show i<S.N.length+1; omega,by rw [e9]; exact i3.keep rm⟩
      . show s0<=aB (S.N++[(s0,l,u)]) S.N.length
        unfold aB
        rw [hV]
        exact Nat.le_refl _
      . rw [if_neg e,hlen]
        exact hV
end
end Gen
namespace L2
open PySem PySem.Spec PyProof.Rows
section
variable {X:Cx}{a:Expr}{ta:TE}
def ES (c:Bool) (ta:TE):TE:=λσ H Q=>ta σ H λx H1=>(∃b,x=.bl b/\Q (.bl (b == c)) H1)\/∃p,x=.ref p/\Q (.bl false) H1
theorem kH {c:Bool}{j pos'} (ha:PE X a ta):PC X .Is a (.Constant (.bool c) j pos') (ES c ta):=by
 intro pins s σ H Q I h
 refine aE (ha pins s σ H _ I h) λv s1 ⟨x,H1,I1,r1,q1⟩=>Constant_bool ?_
 rcases q1 with ⟨b,rfl,q⟩ | ⟨p,rfl,q⟩
 . obtain rfl:v=Value.bool b:=r1
   exact wpAny_pure ⟨.bl _,H1,I1,by cases b <;> cases c <;> rfl,q⟩
 . obtain rfl:v=Value.ref p:=r1
   exact wpAny_pure ⟨.bl _,H1,I1,rfl,q⟩
theorem tX (hc:X.calm=true):ff X (.builtin "min") (λxs H Q=>∃i j k,xs=[.int i,.int j,.int k]/\Q (.int (min i (min j k))) H):=by
 intro pins s σ H xs us Q I r h
 obtain ⟨i,j,k,rfl,q⟩:=h
 cases r with
 | cons r1 r=>
  cases r with
  | cons r2 r=>
   cases r with
   | cons r3 r=>
    cases r
    obtain ⟨t1,rfl⟩:=r1
    obtain ⟨t2,rfl⟩:=r2
    obtain ⟨t3,rfl⟩:=r3
    refine min_three_ints (I.ok.hd hc) λh' tk kp=>⟨_,H,I.kept kp,?_,q⟩
    by_cases h1:j<i
    . rw [if_pos h1]
      by_cases h2:k<j
      . rw [if_pos h2,show min i (min j k)=k by omega]; exact ⟨_,rfl⟩
      . rw [if_neg h2,show min i (min j k)=j by omega]; exact ⟨_,rfl⟩
    . rw [if_neg h1]
      by_cases h2:k<i
      . rw [if_pos h2,show min i (min j k)=k by omega]; exact ⟨_,rfl⟩
      . rw [if_neg h2,show min i (min j k)=i by omega]; exact ⟨_,rfl⟩
end
end L2
namespace Gen
open PySem L2
abbrev fV:Stmt:=inClass (top 6) 3
abbrev eC:Stmt:=inClass (top 6) 4
def cA:Tr->Nat
 | .leaf _=>0
 | .node _ l r=>cA l+cA r+2
theorem iT {κ:Type}[DecidableEq κ] {k:κ}{v:V} : ∀{kvs:List (κ×V)},bj kvs k=some v->(k,v)∈kvs
 | [],h=>nomatch h
 | (k',v')::r,h=>by
  by_cases e:k'=k
  . subst e
    rw [b0 rfl] at h
    cases h
    exact List.mem_cons_self
  . rw [bX e] at h
    exact List.mem_cons_of_mem _ (iT h)
theorem iU {κ:Type}[DecidableEq κ] {k:κ} : ∀{kvs:List (κ×V)},(∀kv∈kvs,kv.1≠k)->bj kvs k=none
 | [],_=>rfl
 | (k',v')::r,h=>by
  rw [bX (h _ List.mem_cons_self)]
  exact iU λkv hk=>h kv (List.mem_cons_of_mem _ hk)
theorem qk {κ:Type}[DecidableEq κ] {k:κ} : ∀{kvs:List (κ×V)},bj kvs k=none->∀kv∈kvs,kv.1≠k
 | [],_,_,h=>nomatch h
 | (k',v')::r,h,kv,hk=>by
  by_cases e:k'=k
  . subst e
    rw [b0 rfl] at h
    cases h
  . rw [bX e] at h
    rcases List.mem_cons.mp hk with rfl | hk
    . exact e
    . exact qk h kv hk
theorem vg {κ:Type}[DecidableEq κ] {kvs:List (κ×V)}{k:κ}{v:V}{e:κ×V}(h:e∈putK kvs k v):e∈kvs\/e=(k,v):=by
 unfold putK at h
 split at h
 . obtain ⟨p,hp,rfl⟩:=List.mem_map.mp h
   by_cases q:p.1=k
   . rw [if_pos q]
     exact .inr (by rw [q])
   . rw [if_neg q]
     exact .inl hp
 . rcases List.mem_append.mp h with h | h
   . exact .inl h
   . exact .inr (List.mem_singleton.mp h)
theorem kI {L:List (Tr×Addr×V)}{t:Tr}{v:V}(h:cS L t=some v):∃b,(t,b,v)∈L:=by
 unfold cS at h
 cases e:L.find? λp=>decide (p.1=t) with
 | none=>rw [e] at h; cases h
 | some p=>
  rw [e] at h
  have h1:=List.find?_some e
  have h2:=List.mem_of_find?_eq_some e
  obtain ⟨a,b,c⟩:=p
  have:a=t:=of_decide_eq_true h1
  subst this
  cases (show c=v from Option.some.inj h)
  exact ⟨b,h2⟩
theorem kJ {L:List (Tr×Addr×V)}{t:Tr}(h:∀p∈L,p.1≠t):cS L t=none:=by
 unfold cS
 rw [List.find?_eq_none.mpr λp hp=>by rw [decide_eq_true_eq]; exact h p hp]
 rfl
theorem oq {L:List (Tr×Addr×V)}{t:Tr}(h:cS L t=none):∀p∈L,p.1≠t:=λp hp e=>by
 unfold cS at h
 rw [Option.map_eq_none_iff,List.find?_eq_none] at h
 exact h p hp (by rw [decide_eq_true_eq]; exact e)
theorem ql {ns:List Str}{n:Str}{l r:Tr}(h:bJ ns (.node n l r)):∃j,ns[j]?=some n/\l≠r/\bJ (ns.drop (j+1)) l/\bJ (ns.drop (j+1)) r:=by
 generalize et:Tr.node n l r=t at h
 induction h with
 | leaf=>cases et
 | node ne a b=>
  cases et
  exact ⟨0,rfl,ne,a,b⟩
 | skip _ ih=>
  obtain ⟨j,a,b,c,d⟩:=ih et
  exact ⟨j+1,by simpa using a,b,by simpa using c,by simpa using d⟩
theorem FS.yU {names:List Str}{N:List Nd}{TS:List Tr}(h:FS names N TS) (hn:names.Nodup){i k:Nat}(hi:i<N.length) (hk:k<=names.length) (hc:bJ (names.drop k) (aD TS i)):k<=aB N i:=by
 by_cases i2:i<2
 . unfold aB
   rcases (show i=0\/i=1 by omega) with rfl | rfl
   . rw [h.z0]
     exact hk
   . rw [h.z1]
     exact hk
 . obtain ⟨a1,_,_,_,_,_,a7⟩:=h.nd i (by omega) hi
   rw [a7] at hc
   obtain ⟨j,h1,_⟩:=ql hc
   rw [List.getElem?_drop] at h1
   have hj:=(List.getElem?_eq_some_iff.mp h1).1
   rw [List.getD_eq_getElem?_getD,List.getElem?_eq_getElem a1,List.getElem?_eq_getElem hj] at h1
   have:=(List.getElem_inj hn).mp (Option.some.inj h1)
   omega
section
variable {P:Program}{w:World}{K:W.Frag}{mg:Str->Option Value}{base:Heap}{C y dy nm sp nd kn ch im ex:Addr}{names:List Str}{S:cz}{H H':Hp}
theorem Bd.up {S:cz}{b c:Nat}(h:Bd S b) (hc:b<=c):Bd S c:=⟨Nat.le_trans h.b1 hc,Nat.le_trans h.b2 hc,Nat.le_trans h.b3 hc,Nat.le_trans h.b4 hc⟩
theorem Bd.Io {S:cz}{b:Nat}(h:Bd S b) (e:Tr×Addr×V):Bd { S with IM:=S.IM++[e] } (b+1):=⟨Nat.le_succ_of_le h.b1,Nat.le_succ_of_le h.b2,by rw [List.length_append]; exact Nat.succ_le_succ h.b3,Nat.le_succ_of_le h.b4⟩
theorem Bd.Ip {S:cz}{b:Nat}(h:Bd S b) (e:Key×V):Bd { S with EX:=S.EX++[e] } (b+1):=⟨Nat.le_succ_of_le h.b1,Nat.le_succ_of_le h.b2,Nat.le_succ_of_le h.b3,by rw [List.length_append]; exact Nat.succ_le_succ h.b4⟩
theorem Bd.Iq {S:cz}{b:Nat}(h:Bd S b) (k:List Key) (v:V):Bd { S with CH:=putK S.CH k v } (b+1):=⟨Nat.le_succ_of_le h.b1,Nat.le_trans (eG _ _ _) (Nat.succ_le_succ h.b2),Nat.le_succ_of_le h.b3,Nat.le_succ_of_le h.b4⟩
theorem rn {a:Addr}{o:HO}(h:a=nd\/a=kn\/a=ch\/a=im\/a=ex):Kp H (upd H a o) nd kn ch im ex:=λb ob hb h1 h2 h3 h4 h5=>by
 rw [ai (by rcases h with rfl | rfl | rfl | rfl | rfl <;> assumption)]
 exact hb
theorem FO.Bc (h:FO P w C H y dy nm sp nd kn ch im ex names S){t:Tr}{b:Addr}{i:Nat}(hk:df H t b) (hi:i<S.N.length) (ht:aD S.TS i=t) :
 FO P w C (upd H im (dF P w im (S.IM++[(t,b,.int (i:Int))]))) y dy nm sp nd kn ch im ex names { S with IM:=S.IM++[(t,b,.int (i:Int))] }:=by
 have k:∀{a:Addr}{o:HO},H a=some o->o≠dF P w im S.IM->(upd H im (dF P w im (S.IM++[(t,b,.int (i:Int))]))) a=some o:=λha ho=>by
  rw [ai (cC ha h.hi ho)]
  exact ha
 have kt:∀a xs,H a=some (.tup xs)->(upd H im (dF P w im (S.IM++[(t,b,.int (i:Int))]))) a=some (.tup xs):=λa xs ha=>k ha (by intro z; cases z)
 refine ⟨k h.hy (by intro z; cases z),k h.hn (by intro z; cases z),k h.hs (by intro z; cases z),k h.hd (by intro z; cases z),Paired.gW h.ht λ_ _ e=>kt _ _ e,k h.hk (by intro z; cases z),k h.hc (by intro z; cases z),h.ck,ag,λp hp=>?_,k h.he (by intro z; cases z),
  λkv bh=>let ⟨i,a,b,c⟩:=h.ek kv bh; ⟨i,a,b,c.keep kt⟩,h.e0,h.fs,h.nn,h.ns,h.n8,h.d1,h.d2,h.d3⟩
 rcases List.mem_append.mp hp with hp | hp
 . exact ⟨(h.ik p hp).1.keep kt,(h.ik p hp).2⟩
 . rw [List.mem_singleton] at hp
   subst hp
   exact ⟨hk.keep kt,i,hi,rfl,ht⟩
theorem FO.Be (h:FO P w C H y dy nm sp nd kn ch im ex names S){v:V}{i:Nat}(hv:aX H (aD S.TS i) v) (hi:i<S.N.length) (hn:bj S.EX (.inl (i:Int))=none) :
 FO P w C (upd H ex (.dK (S.EX++[(.inl (i:Int),v)]))) y dy nm sp nd kn ch im ex names { S with EX:=S.EX++[(.inl (i:Int),v)] }:=by
 have k:∀{a:Addr}{o:HO},H a=some o->(∀q,o≠.dK q)->(upd H ex (.dK (S.EX++[(.inl (i:Int),v)]))) a=some o:=λha ho=>by
  rw [ai (cC ha h.he (ho _))]
  exact ha
 have kt:∀a xs,H a=some (.tup xs)->(upd H ex (.dK (S.EX++[(.inl (i:Int),v)]))) a=some (.tup xs):=λa xs ha=>k ha (by intro _ z; cases z)
 refine ⟨k h.hy (by intro _ z; cases z),k h.hn (by intro _ z; cases z),by rw [ai h.d3]; exact h.hs,k h.hd (by intro _ z; cases z),Paired.gW h.ht λ_ _ e=>kt _ _ e,k h.hk (by intro _ z; cases z),k h.hc (by intro _ z; cases z),h.ck,k h.hi (by intro _ z; cases z),λp hp=>⟨(h.ik p hp).1.keep kt,(h.ik p hp).2⟩,ag,
  λkv bh=>?_,?_,h.fs,h.nn,h.ns,h.n8,h.d1,h.d2,h.d3⟩
 . rcases List.mem_append.mp bh with bh | bh
   . obtain ⟨i,a,b,c⟩:=h.ek kv bh
     exact ⟨i,a,b,c.keep kt⟩
   . rw [List.mem_singleton] at bh
     subst bh
     exact ⟨i,rfl,hi,hv.keep kt⟩
 . have old:∀(c:Int) (u:V),bj S.EX (.inl c)=some u->bj (S.EX++[(.inl (i:Int),v)]) (.inl c)=some u:=λc u hc=>by
    rw [lX _ _ _ _ hn,if_neg (λz=>by rw [z,hn] at hc; cases hc)]
    exact hc
   exact ⟨old 0 _ h.e0.1,old 1 _ h.e0.2⟩
theorem FO.Bf (h:FO P w C H y dy nm sp nd kn ch im ex names S){k':List Key}{u:V}(hc:jR S.N S.TS (k',u)) :
 FO P w C (upd H ch (.dT (putK S.CH k' u))) y dy nm sp nd kn ch im ex names { S with CH:=putK S.CH k' u }:=by
 have k:∀{a:Addr}{o:HO},H a=some o->(∀q,o≠.dT q)->(upd H ch (.dT (putK S.CH k' u))) a=some o:=λha ho=>by
  rw [ai (cC ha h.hc (ho _))]
  exact ha
 have kt:∀a xs,H a=some (.tup xs)->(upd H ch (.dT (putK S.CH k' u))) a=some (.tup xs):=λa xs ha=>k ha (by intro _ z; cases z)
 refine ⟨k h.hy (by intro _ z; cases z),k h.hn (by intro _ z; cases z),k h.hs (by intro _ z; cases z),k h.hd (by intro _ z; cases z),Paired.gW h.ht λ_ _ e=>kt _ _ e,by rw [ai h.d2]; exact h.hk,ag,λe' he=>?_,k h.hi (by intro _ z; cases z),λp hp=>⟨(h.ik p hp).1.keep kt,(h.ik p hp).2⟩,k h.he (by intro _ z; cases z),
  λkv bh=>let ⟨i,a,b,c⟩:=h.ek kv bh; ⟨i,a,b,c.keep kt⟩,h.e0,h.fs,h.nn,h.ns,h.n8,h.d1,h.d2,h.d3⟩
 rcases vg he with he | he
 . exact h.ck e' he
 . subst he
   exact hc
def jf (P:Program) (w:World) (C:Addr) (d:Nat):Sp:=λvs H Q _=>∃(y dy nm sp nd kn ch im ex:Addr) (names:List Str) (S:cz) (t:Tr) (v:V) (b:Nat),vs=[.ref y,v]/\FO P w C H y dy nm sp nd kn ch im ex names S/\aX H t v/\bJ names t/\t.dep<d/\Bd S b/\b+cA t<100000/\
 ∀(n:Nat) (S':cz) (H':Hp),FO P w C H' y dy nm sp nd kn ch im ex names S'->Kp H H' nd kn ch im ex->cH S S'->Bd S' (b+cA t)->S'.CH=S.CH->S'.EX=S.EX->(∀p∈S'.IM,p∈S.IM\/p.1.dep<=t.dep)->n<S'.N.length->aD S'.TS n=t->Q (.int (n:Int)) H'
abbrev Ir:List Str:=["self", "tree", "number"]
theorem vh:aQ Ir ["self", "tree"] (aj fV):=⟨rfl,rfl,rfl,by decide +kernel,rfl,by decide +kernel,by decide +kernel⟩
theorem yV {A:Around}{k:Nat}(hr:ba k A):A.units+17<cLine:=by have:=hr.un; omega
theorem eD:Kp H H nd kn ch im ex:=λ_ _ h _ _ _ _ _=>h
theorem vi {f fN:Addr}{fd dN:FuncData}{d k:Nat}(F:bY K "taken" "Forest.taken" fV f fd) (T:eX K mg C) (G:av P w K mg base aH (k+1) f fd ["self", "tree"] (jf P w C d)) (mT:Meth K C "taken" f) (bT:Binds K fd ["self", "tree"] [])
 (gN:av P w K mg base aH 1 fN dN iz (gz P w C)) (mN:Meth K C "node" fN) (bN:Binds K dN iz []):av P w K mg base aH (k+1+1) f fd ["self", "tree"] (jf P w C (d+1)):=by
 refine F.ok vh (λvs H Q E h=>?_) (λcdv A outer s H vs Q E hr h=>?_)
 . obtain ⟨y,dy,nm,sp,nd,kn,ch,im,ex,names,S,t,v,b,rfl,_⟩:=h
   rfl
 . obtain ⟨y,dy,nm,sp,nd,kn,ch,im,ex,names,S,t,v,b,rfl,hO,hv,hc,hd,hB,hb,kk⟩:=h
   have hu:=i9 hr
   have tY:=yV hr
   have dc:=hr.mono (Nat.succ_le_succ (Nat.zero_le k))
   refine ⟨_,ae (bf (dM (kH (pv 1))) (aq (aJ af)) aN)
    (ae (bf (dM (kH (pv 1))) (aq (aJ af)) aN)
    (ae (ax (i:=2) vh.nd rfl (Or.inl rfl) (qa tY (bx (pv 0) rfl) (pv 1) ⟨rfl,rfl,rfl,rfl⟩))
    (ae (bf (dM (iD (pv 2)))
     (ae (ax (i:=2) vh.nd rfl (Or.inl rfl) (aW (pv 0) T.cl mN gN dc bN .nil aw (aa (xc hu (bx (pv 0) rfl) (aM (r:=cm K) bo (pv 1) af (λ_ _=>rfl)) (λ_ _=>rfl))
      (aa (aW (pv 0) T.cl mT G hr bT .nil aw (aa (aM (r:=cm K) bo (pv 1) af (λ_ _=>rfl)) ab))
      (aa (aW (pv 0) T.cl mT G hr bT .nil aw (aa (aM (r:=cm K) bo (pv 1) af (λ_ _=>rfl)) ab)) ab)))))
     (aq (qb tY (bx (pv 0) rfl) (pv 1) (pv 2) rfl))) aN)
    (aq (aJ (pv 2)))))),?_⟩
   cases t with
   | leaf c=>
    cases (show v=.bl c from hv)
    have two:=hO.fs.two
    cases c
    . refine ⟨_,rfl,.inl ⟨_,rfl,_,rfl,aZ rfl ?_⟩⟩
      refine ⟨_,rfl,.inl ⟨_,rfl,_,rfl,bQ rfl ?_⟩⟩
      exact kk 0 S H hO eD (.refl S) (hB.up (Nat.le_add_right ..)) rfl rfl (λp hp=>.inl hp) (by omega) hO.fs.t0
    . refine ⟨_,rfl,.inl ⟨_,rfl,_,rfl,bQ rfl ?_⟩⟩
      exact kk 1 S H hO eD (.refl S) (hB.up (Nat.le_add_right ..)) rfl rfl (λp hp=>.inl hp) (by omega) hO.fs.t1
   | node n l r=>
    obtain ⟨a,vl,vr,rfl,ha,hl,hR⟩:=hv
    have cU:df H (.node n l r) a:=⟨⟨a,vl,vr,rfl,ha,hl,hR⟩,Nat.le_trans (bG hc) hO.n8,qd hc hO.ns⟩
    refine ⟨_,rfl,.inr ⟨_,rfl,_,rfl,aZ rfl ?_⟩⟩
    refine ⟨_,rfl,.inr ⟨_,rfl,_,rfl,aZ rfl ?_⟩⟩
    refine ⟨_,rfl,y,C,dy,_,_,rfl,hO.hy,T.cl,T.n6,yS ..,im,_,rfl,hO.hi,_,rfl,_,a,rfl,hO.hi,cU,λp hp=>(hO.ik p hp).1,?_⟩
    cases tZ:cS S.IM (.node n l r) with
    | some u=>
     obtain ⟨b',hm⟩:=kI tZ
     obtain ⟨_,i,hi,e1,e2⟩:=hO.ik _ hm
     cases (show u=.int (i:Int) from e1)
     refine ⟨_,rfl,_,rfl,aZ rfl ⟨_,rfl,?_⟩⟩
     exact kk i S H hO eD (.refl S) (hB.up (Nat.le_add_right ..)) rfl rfl (λp hp=>.inl hp) hi e2
    | none=>
     obtain ⟨j,hj,iw,cl,cr⟩:=ql hc
     have yW:=(List.getElem?_eq_some_iff.mp hj).1
     have qc:bJ names l:=ez (i:=0) (ns:=names) cl (Nat.zero_le _)
     have Iu:bJ names r:=ez (i:=0) (ns:=names) cr (Nat.zero_le _)
     have hsz:cA (.node n l r)=cA l+cA r+2:=rfl
     have vj:(Tr.node n l r).dep=max l.dep r.dep+1:=rfl
     refine ⟨_,rfl,_,rfl,bQ rfl ?_⟩
     refine ⟨_,rfl,y,dy,_,rfl,hO.hy,iS _ _ _ _ _ _ _ (by decide +kernel) (by decide +kernel) (by decide +kernel) (by decide +kernel) (by decide +kernel) (by decide +kernel) (by decide +kernel),?_⟩
     refine ⟨_,rfl,y,C,dy,_,_,rfl,hO.hy,T.cl,T.n2,EO ..,_,rfl,a,_,0,_,rfl,rfl,aY.of ha,aF (j:=0) rfl,sp,.int ((0+j:Nat):Int),rfl,?_,?_⟩
     . have:=eg.k (k:=.inr n) hO.hs
       rw [tV names 0 j n hO.nn hj] at this
       exact this
     refine ⟨_,rfl,y,dy,_,rfl,hO.hy,iS _ _ _ _ _ _ _ (by decide +kernel) (by decide +kernel) (by decide +kernel) (by decide +kernel) (by decide +kernel) (by decide +kernel) (by decide +kernel),?_⟩
     refine ⟨_,rfl,a,_,1,_,rfl,rfl,aY.of ha,aF (j:=1) rfl,?_⟩
     refine ⟨y,dy,nm,sp,nd,kn,ch,im,ex,names,S,l,vl,b,rfl,hO,hl,qc,by omega,hB,by omega,λn1 S1 H1 aI k1 g1 B1 c1 x1 i1 l1 t1=>?_⟩
     have t7:=hO.cN k1 _ _ ha
     refine ⟨_,rfl,y,dy,_,rfl,aI.hy,iS _ _ _ _ _ _ _ (by decide +kernel) (by decide +kernel) (by decide +kernel) (by decide +kernel) (by decide +kernel) (by decide +kernel) (by decide +kernel),?_⟩
     refine ⟨_,rfl,a,_,2,_,rfl,rfl,aY.of t7,aF (j:=2) rfl,?_⟩
     refine ⟨y,dy,nm,sp,nd,kn,ch,im,ex,names,S1,r,vr,b+cA l,rfl,aI,hR.keep (hO.cN k1),Iu,by omega,B1,by omega,λn2 S2 H2 cJ k2 g2 B2 c2 x2 i2 l2 t2=>?_⟩
     have qm:n1<S2.N.length:=Nat.lt_of_lt_of_le l1 g2.le
     have yX:aD S2.TS n1=l:=by rw [g2.aD (by rw [← aI.fs.len]; exact l1)]; exact t1
     refine ⟨y,dy,nm,sp,nd,kn,ch,im,ex,names,S2,j,n1,n2,b+cA l+cA r,by rw [Nat.zero_add]; rfl,cJ,yW,qm,l2,cJ.fs.yU cJ.nn qm yW (by rw [yX]; exact cl),cJ.fs.yU cJ.nn l2 yW (by rw [t2]; exact cr),B2,by omega,λn3 S3 H3 dG k3 g3 B3 c3 m3 x3 l3 s3 t3=>?_⟩
     have ou:=(k1.trans k2).trans k3
     have CW:aD S3.TS n3=.node n l r:=by
      rw [t3,yX,t2,if_neg (λz=>iw (by rw [← yX,← t2,z])),List.getD_eq_getElem?_getD,hj]
      rfl
     have kL:df H3 (.node n l r) a:=cU.keep (hO.cN ou)
     have d4:cS S3.IM (.node n l r)=none:=kJ λp hp z=>by
      rw [m3] at hp
      rcases i2 p hp with hp | hp
      . rcases i1 p hp with hp | hp
        . exact oq tZ p hp z
        . rw [z] at hp
          omega
      . rw [z] at hp
        omega
     refine ⟨_,rfl,_,rfl,y,C,dy,_,_,rfl,dG.hy,T.cl,T.n6,yS ..,_,rfl,im,S3.IM,_,a,rfl,rfl,dG.hi,kL,λp hp=>(dG.ik p hp).1,d4,big (by have:=B3.b3; omega),?_⟩
     have gF:=dG.Bc kL l3 CW
     refine ⟨_,rfl,kk n3 _ _ gF (ou.trans (rn (.inr (.inr (.inr (.inl rfl)))))) ((g1.trans g2).trans ⟨g3.gn,g3.gt⟩) ((B3.Io _).up (by omega)) (c3.trans (c2.trans c1)) (x3.trans (x2.trans x1)) (λp hp=>?_) l3 CW⟩
     rcases List.mem_append.mp hp with hp | hp
     . rw [m3] at hp
       rcases i2 p hp with hp | hp
       . rcases i1 p hp with hp | hp
         . exact .inl hp
         . exact .inr (by omega)
       . exact .inr (by omega)
     . rw [List.mem_singleton] at hp
       subst hp
       exact .inr (Nat.le_refl _)
def hW (P:Program) (w:World) (C:Addr) (d:Nat):Sp:=λvs H Q _=>∃(y dy nm sp nd kn ch im ex:Addr) (names:List Str) (S:cz) (n b:Nat),vs=[.ref y,.int (n:Int)]/\FO P w C H y dy nm sp nd kn ch im ex names S/\n<S.N.length/\(aD S.TS n).dep<d/\Bd S b/\b+cA (aD S.TS n)<100000/\
 ∀(v:V) (S':cz) (H':Hp),FO P w C H' y dy nm sp nd kn ch im ex names S'->Kp H H' nd kn ch im ex->S'.N=S.N->S'.TS=S.TS->Bd S' (b+cA (aD S.TS n))->(∀kv∈S'.EX,kv∈S.EX\/∃i:Nat,kv.1=.inl (i:Int)/\(aD S.TS i).dep<=(aD S.TS n).dep)->aX H' (aD S.TS n) v->Q v H'
abbrev Iv:List Str:=["self", "number", "tree", "node"]
theorem rp:aQ Iv ["self", "number"] (aj eC):=⟨rfl,rfl,rfl,by decide +kernel,rfl,by decide +kernel,by decide +kernel⟩
theorem rq {f:Addr}{fd:FuncData}{d k:Nat}(F:bY K "tree_at" "Forest.tree_at" eC f fd) (T:eX K mg C) (G:av P w K mg base aH k f fd ["self", "number"] (hW P w C d)) (mT:Meth K C "tree_at" f) (bT:Binds K fd ["self", "number"] []) :
 av P w K mg base aH (k+1) f fd ["self", "number"] (hW P w C (d+1)):=by
 refine F.ok rp (λvs H Q E h=>?_) (λcdv A outer s H vs Q E hr h=>?_)
 . obtain ⟨y,dy,nm,sp,nd,kn,ch,im,ex,names,S,n,b,rfl,_⟩:=h
   rfl
 . obtain ⟨y,dy,nm,sp,nd,kn,ch,im,ex,names,S,n,b,rfl,hO,hn,hd,hB,hb,kk⟩:=h
   have hu:=i9 hr
   refine ⟨_,ae (ax (i:=2) rp.nd rfl (Or.inl rfl) (jC hu (bx (pv 0) rfl) (pv 1) ⟨rfl,rfl,rfl,rfl⟩))
    (ae (bf (dM (iD (pv 2)))
     (ae (ax (i:=3) rp.nd rfl (Or.inl rfl) (aM (r:=eu K) br (bx (pv 0) rfl) (pv 1) (λ_ _=>rfl)))
     (ae (ax (i:=2) rp.nd rfl (Or.inl rfl) (eM (aa (aM (r:=eu K) br (bx (pv 0) rfl) (aM (r:=cm K) bo (pv 3) af (λ_ _=>rfl)) (λ_ _=>rfl))
      (aa (aW (pv 0) T.cl mT G hr bT .nil aw (aa (aM (r:=cm K) bo (pv 3) af (λ_ _=>rfl)) ab))
      (aa (aW (pv 0) T.cl mT G hr bT .nil aw (aa (aM (r:=cm K) bo (pv 3) af (λ_ _=>rfl)) ab)) ab)))))
     (aq (lz hu (bx (pv 0) rfl) (pv 1) (pv 2) rfl)))) aN)
    (aq (aJ (pv 2)))),?_⟩
   refine ⟨_,rfl,y,C,dy,_,_,rfl,hO.hy,T.cl,T.n7,yT ..,ex,rfl,.inl ⟨_,.inl hO.he⟩,_,rfl,_,eg.k (k:=.inl (n:Int)) hO.he,?_⟩
   cases hv:bj S.EX (.inl (n:Int)) with
   | some v=>
    obtain ⟨i,e1,i1,i2⟩:=hO.ek _ (iT hv)
    have ei:i=n:=by have:=Sum.inl.inj e1; omega
    subst ei
    have CG:v≠.aR:=λz=>by
     have i3:aX H (aD S.TS i) v:=i2
     rw [z] at i3
     cases ht:aD S.TS i with
     | leaf c=>rw [ht] at i3; cases (show V.aR=.bl c from i3)
     | node a l r=>rw [ht] at i3; obtain ⟨_,_,_,z,_⟩:=i3; cases z
    refine ⟨_,rfl,_,rfl,aZ (decide_eq_false CG) ⟨_,rfl,?_⟩⟩
    exact kk v S H hO eD rfl rfl (hB.up (Nat.le_add_right ..)) (λkv h=>.inl h) i2
   | none=>
    have n2:2<=n:=Nat.le_of_not_lt λq=>by
     rcases (show n=0\/n=1 by omega) with rfl | rfl
     . rw [show ((0:Nat):Int)=0 from rfl,hO.e0.1] at hv
       cases hv
     . rw [show ((1:Nat):Int)=1 from rfl,hO.e0.2] at hv
       cases hv
    obtain ⟨a1,a2,a3,a4,a5,a6,a7⟩:=hO.fs.nd n n2 hn
    have ET:low S.N n<S.N.length:=by omega
    have EU:dZ S.N n<S.N.length:=by omega
    have hsz:cA (aD S.TS n)=cA (aD S.TS (low S.N n))+cA (aD S.TS (dZ S.N n))+2:=by rw [a7]; rfl
    have vj:(aD S.TS n).dep=max (aD S.TS (low S.N n)).dep (aD S.TS (dZ S.N n)).dep+1:=by rw [a7]; rfl
    obtain ⟨t,h1,h2⟩:=hO.node hn
    refine ⟨_,rfl,_,rfl,bQ rfl ?_⟩
    refine ⟨_,rfl,y,C,dy,_,_,rfl,hO.hy,T.cl,T.n3,jQ ..,_,rfl,nd,_,_,.ref t,rfl,rfl,ay.of hO.hd,aF (by rw [List.getElem?_map,h1]; rfl),?_⟩
    refine ⟨_,rfl,y,C,dy,_,_,rfl,hO.hy,T.cl,T.n1,EN ..,_,rfl,t,_,0,_,rfl,rfl,aY.of h2,aF (j:=0) rfl,nm,_,_,.str (names.getD (aB S.N n) ""),rfl,rfl,ay.of hO.hn,aF (by rw [List.getElem?_map]; exact (show names[aB S.N n]?.map V.str=some (.str (names.getD (aB S.N n) "")) by rw [List.getD_eq_getElem?_getD,List.getElem?_eq_getElem a1]; rfl)),?_⟩
    refine ⟨_,rfl,y,dy,_,rfl,hO.hy,iS _ _ _ _ _ _ _ (by decide +kernel) (by decide +kernel) (by decide +kernel) (by decide +kernel) (by decide +kernel) (by decide +kernel) (by decide +kernel),?_⟩
    refine ⟨_,rfl,t,_,1,_,rfl,rfl,aY.of h2,aF (j:=1) rfl,?_⟩
    refine ⟨y,dy,nm,sp,nd,kn,ch,im,ex,names,S,low S.N n,b,rfl,hO,ET,by omega,hB,by omega,λv1 S1 H1 aI k1 g1 t1 B1 x1 r1=>?_⟩
    have Iw:=hO.cN k1 _ _ h2
    refine ⟨_,rfl,y,dy,_,rfl,aI.hy,iS _ _ _ _ _ _ _ (by decide +kernel) (by decide +kernel) (by decide +kernel) (by decide +kernel) (by decide +kernel) (by decide +kernel) (by decide +kernel),?_⟩
    refine ⟨_,rfl,t,_,2,_,rfl,rfl,aY.of Iw,aF (j:=2) rfl,?_⟩
    refine ⟨y,dy,nm,sp,nd,kn,ch,im,ex,names,S1,dZ S.N n,b+cA (aD S.TS (low S.N n)),rfl,aI,by rw [g1]; exact EU,by rw [t1]; omega,B1,by rw [t1]; omega,λv2 S2 H2 cJ k2 g2 t2 B2 x2 r2=>?_⟩
    rw [t1] at t2 B2 x2 r2
    refine ⟨(by show 3<=sizeLine; decide),λq hq=>?_⟩
    have s3:ak H2 (upd H2 q (.tup [.str (names.getD (aB S.N n) ""),v1,v2])):=ak.aA hq
    have q3:(upd H2 q (.tup [.str (names.getD (aB S.N n) ""),v1,v2])) q=some (.tup [.str (names.getD (aB S.N n) ""),v1,v2]):=ag
    show dq _ _ _ _ (upd H2 q (.tup [.str (names.getD (aB S.N n) ""),v1,v2]))
    generalize upd H2 q (.tup [.str (names.getD (aB S.N n) ""),v1,v2])=H3 at s3 q3 ⊢
    have dG:=cJ.same s3
    have CY:∀a xs,H2 a=some (.tup xs)->H3 a=some (.tup xs):=λa xs h=>s3 _ _ h
    have ou:=(k1.trans k2).trans (Kp.of s3)
    have hT:aX H3 (aD S.TS n) (.ref q):=by
     rw [a7]
     exact ⟨q,v1,v2,rfl,q3,(r1.keep (aI.cN k2)).keep CY,r2.keep CY⟩
    have d4:bj S2.EX (.inl (n:Int))=none:=iU λkv bh z=>by
     rcases x2 kv bh with bh | ⟨i,e1,e2⟩
     . rcases x1 kv bh with bh | ⟨i,e1,e2⟩
       . exact qk hv kv bh z
       . rw [e1] at z
         have:i=n:=by have:=Sum.inl.inj z; omega
         rw [this] at e2
         omega
     . rw [e1] at z
       have:i=n:=by have:=Sum.inl.inj z; omega
       rw [this] at e2
       omega
    refine ⟨_,rfl,_,rfl,y,C,dy,_,_,rfl,dG.hy,T.cl,T.n7,yT ..,_,rfl,ex,_,rfl,g0.k (k:=.inl (n:Int)) dG.he (big (by have:=B2.b4; omega)),?_⟩
    rw [jA _ d4]
    have gF:=dG.Be (i:=n) (v:=.ref q) (by rw [t2]; exact hT) (by rw [g2,g1]; exact hn) d4
    refine ⟨_,rfl,kk (.ref q) _ _ gF (ou.trans (rn (.inr (.inr (.inr (.inr rfl)))))) (g2.trans g1) t2 ((B2.Ip _).up (by omega)) (λkv bh=>?_) (hT.keep λa xs e=>by rw [ai (cC e dG.he (by intro z; cases z))]; exact e)⟩
    rcases List.mem_append.mp bh with bh | bh
    . rcases x2 kv bh with bh | ⟨i,e1,e2⟩
      . rcases x1 kv bh with bh | ⟨i,e1,e2⟩
        . exact .inl bh
        . exact .inr ⟨i,e1,by omega⟩
      . exact .inr ⟨i,e1,by omega⟩
    . rw [List.mem_singleton] at bh
      subst bh
      exact .inr ⟨n,rfl,Nat.le_refl _⟩
end
end Gen
namespace Gen
open PySem L2
abbrev eE:Stmt:=inClass (top 6) 5
def cst:Nat->Nat
 | 0=>0
 | d+1=>2*cst d+2
def hf (N:List Nd) (s:Nat) (b:Bool) (n:Nat):Nat:=if aB N n=s then (if b=true then dZ N n else low N n) else n
section
variable {names:List Str}{N:List Nd}{TS:List Tr}
theorem FS.at2 (h:FS names N TS){n:Nat}(hn:n<N.length) (hs:aB N n<names.length):2<=n:=Nat.le_of_not_lt λq=>by
 unfold aB at hs
 rcases (show n=0\/n=1 by omega) with rfl | rfl
 . rw [h.z0] at hs
   exact Nat.lt_irrefl _ hs
 . rw [h.z1] at hs
   exact Nat.lt_irrefl _ hs
theorem FS.rz (h:FS names N TS){n s:Nat}{b:Bool}(hn:n<N.length) (hs:s<names.length):hf N s b n<N.length:=by
 unfold hf
 split
 . next e=>
   obtain ⟨_,a2,a3,_⟩:=h.nd n (h.at2 hn (by omega)) hn
   split <;> omega
 . exact hn
theorem FS.ow (h:FS names N TS){n s:Nat}{b:Bool}(hn:n<N.length) (hs:s<names.length) (hle:s<=aB N n):s<aB N (hf N s b n):=by
 unfold hf
 split
 . next e=>
   obtain ⟨_,_,_,_,a5,a6,_⟩:=h.nd n (h.at2 hn (by omega)) hn
   split <;> omega
 . next e=>omega
theorem FS.rC (h:FS names N TS){n s:Nat}(hn:n<N.length) (hs:s<names.length) (v:Str->Bool):ev v (aD TS n)=if v (names.getD s "")=true then ev v (aD TS (hf N s true n)) else ev v (aD TS (hf N s false n)):=by
 unfold hf
 by_cases e:aB N n=s
 . obtain ⟨_,_,_,_,_,_,a7⟩:=h.nd n (h.at2 hn (by omega)) hn
   rw [if_pos e,if_pos e,a7,e]
   rfl
 . rw [if_neg e,if_neg e]
   split <;> rfl
end
def hX (P:Program) (w:World) (C:Addr) (d:Nat):Sp:=λvs H Q _=>∃(y dy nm sp nd kn ch im ex:Addr) (names:List Str) (S:cz) (t h l b:Nat),vs=[.ref y,.int (t:Int),.int (h:Int),.int (l:Int)]/\FO P w C H y dy nm sp nd kn ch im ex names S/\t<S.N.length/\h<S.N.length/\l<S.N.length/\names.length-min (aB S.N t) (min (aB S.N h) (aB S.N l))<d/\Bd S b/\b+cst d<100000/\
 ∀(n:Nat) (S':cz) (H':Hp),FO P w C H' y dy nm sp nd kn ch im ex names S'->Kp H H' nd kn ch im ex->cH S S'->Bd S' (b+cst d)->S'.IM=S.IM->S'.EX=S.EX->n<S'.N.length->(∀v,ev v (aD S'.TS n)=if ev v (aD S.TS t)=true then ev v (aD S.TS h) else ev v (aD S.TS l))->min (aB S.N t) (min (aB S.N h) (aB S.N l))<=aB S'.N n->Q (.int (n:Int)) H'
abbrev Iy:List Str:=["self", "test", "high", "low", "key", "number", "spot", "lows", "highs"]
abbrev kM:List Str:=["self", "test", "high", "low"]
theorem jS:aQ Iy kM (aj eE):=⟨rfl,rfl,rfl,by decide +kernel,rfl,by decide +kernel,by decide +kernel⟩
section
variable {P:Program}{w:World}{K:W.Frag}{mg:Str->Option Value}{base:Heap}{C:Addr}
theorem t8 {f fN fH:Addr}{fd dN dH:FuncData}{d k:Nat}(F:bY K "chosen" "Forest.chosen" eE f fd) (T:eX K mg C) (O2:fQ mg) (G:av P w K mg base aH (k+1) f fd kM (hX P w C d)) (mC:Meth K C "chosen" f) (bC:Binds K fd kM [])
 (gN:av P w K mg base aH 1 fN dN iz (gz P w C)) (mN:Meth K C "node" fN) (bN:Binds K dN iz [])
 (gH:av P w K mg base aH 1 fH dH ["self", "number", "spot", "side"] (kG P w C)) (mH:Meth K C "half" fH) (bH:Binds K dH ["self", "number", "spot", "side"] []):av P w K mg base aH (k+1+1) f fd kM (hX P w C (d+1)):=by
 refine F.ok jS (λvs H Q E h=>?_) (λcdv A outer s H vs Q E hr h=>?_)
 . obtain ⟨y,dy,nm,sp,nd,kn,ch,im,ex,names,S,t,h,l,b,rfl,_⟩:=h
   rfl
 . obtain ⟨y,dy,nm,sp,nd,kn,ch,im,ex,names,S,t,h,l,b,rfl,hO,ht,hh,hl,hd,hB,hb,kk⟩:=h
   have hu:=i9 hr
   have dc:=hr.mono (Nat.succ_le_succ (Nat.zero_le k))
   refine ⟨_,ae (bf (PW.pt (i0 (bq dj (pv 1) af (bp _)) (jW (bq dj (pv 2) (pv 3) (bp _))))) (aq (aJ (pv 2))) aN)
    (ae (bf (bq dj (pv 1) af (bp _)) (aq (aJ (pv 3))) aN)
    (ae (ax (i:=4) jS.nd rfl (Or.inl rfl) (eM (aa (pv 1) (aa (pv 2) (aa (pv 3) ab)))))
    (ae (ax (i:=5) jS.nd rfl (Or.inl rfl) (jC hu (bx (pv 0) rfl) (pv 4) ⟨rfl,rfl,rfl,rfl⟩))
    (ae (bf (dM (iD (pv 5)))
     (ae (ax (i:=6) jS.nd rfl (Or.inl rfl) (aO (tX rfl) (by rfl) O2.min PyProof.Rows.boot_min (aa (aM (r:=cm K) bo (aM (r:=eu K) br (bx (pv 0) rfl) (pv 1) (λ_ _=>rfl)) af (λ_ _=>rfl))
      (aa (aM (r:=cm K) bo (aM (r:=eu K) br (bx (pv 0) rfl) (pv 2) (λ_ _=>rfl)) af (λ_ _=>rfl)) (aa (aM (r:=cm K) bo (aM (r:=eu K) br (bx (pv 0) rfl) (pv 3) (λ_ _=>rfl)) af (λ_ _=>rfl)) ab)))))
     (ae (ax (i:=7) jS.nd rfl (Or.inl rfl) (aW (pv 0) T.cl mC G hr bC .nil aw (aa (aW (pv 0) T.cl mH gH dc bH .nil aw (aa (pv 1) (aa (pv 6) (aa af ab))))
      (aa (aW (pv 0) T.cl mH gH dc bH .nil aw (aa (pv 2) (aa (pv 6) (aa af ab)))) (aa (aW (pv 0) T.cl mH gH dc bH .nil aw (aa (pv 3) (aa (pv 6) (aa af ab)))) ab)))))
     (ae (ax (i:=8) jS.nd rfl (Or.inl rfl) (aW (pv 0) T.cl mC G hr bC .nil aw (aa (aW (pv 0) T.cl mH gH dc bH .nil aw (aa (pv 1) (aa (pv 6) (aa af ab))))
      (aa (aW (pv 0) T.cl mH gH dc bH .nil aw (aa (pv 2) (aa (pv 6) (aa af ab)))) (aa (aW (pv 0) T.cl mH gH dc bH .nil aw (aa (pv 3) (aa (pv 6) (aa af ab)))) ab)))))
     (ae (ax (i:=5) jS.nd rfl (Or.inl rfl) (aW (pv 0) T.cl mN gN dc bN .nil aw (aa (pv 6) (aa (pv 7) (aa (pv 8) ab)))))
     (aq (lz hu (bx (pv 0) rfl) (pv 4) (pv 5) rfl)))))) aN)
    (aq (aJ (pv 5))))))),?_⟩
   have Lo:cst (d+1)=2*cst d+2:=rfl
   have de:∀{H1:Hp}{n:Nat},FO P w C H1 y dy nm sp nd kn ch im ex names S->Kp H H1 nd kn ch im ex->n<S.N.length->(∀v,ev v (aD S.TS n)=if ev v (aD S.TS t)=true then ev v (aD S.TS h) else ev v (aD S.TS l))->min (aB S.N t) (min (aB S.N h) (aB S.N l))<=aB S.N n->Q (.int (n:Int)) H1:=
    λo1 k1 n1 v1 m1=>kk _ S _ o1 k1 (.refl S) (hB.up (Nat.le_add_right ..)) rfl rfl n1 v1 m1
   refine ⟨_,rfl,rfl,_,rfl,?_⟩
   by_cases e1:t=1
   . refine bQ (decide_eq_true (by rw [e1]; rfl)) (bQ rfl ⟨_,rfl,de hO eD hh (λv=>?_) (by omega)⟩)
     rw [e1,hO.fs.t1]
     exact (if_pos rfl).symm
   refine aZ (decide_eq_false λz=>e1 (by have:=V.int.inj z; omega)) ⟨_,rfl,_,rfl,rfl,_,rfl,?_⟩
   by_cases e2:h=l
   . refine bQ (decide_eq_true (by rw [e2])) ⟨_,rfl,de hO eD hh (λv=>?_) (by omega)⟩
     rw [e2]
     split <;> rfl
   refine aZ (decide_eq_false λz=>e2 (by have:=V.int.inj z; omega)) ⟨_,rfl,rfl,_,rfl,?_⟩
   by_cases e3:t=0
   . refine bQ (decide_eq_true (by rw [e3]; rfl)) ⟨_,rfl,de hO eD hl (λv=>?_) (by omega)⟩
     rw [e3,hO.fs.t0]
     exact (if_neg (λz=>by cases z)).symm
   refine aZ (decide_eq_false λz=>e3 (by have:=V.int.inj z; omega)) ?_
   refine ⟨_,rfl,_,rfl,_,rfl,(by show 3<=sizeLine; decide),λq hq=>?_⟩
   have q1:(upd H q (.tup (cZ (t,h,l)))) q=some (.tup (cZ (t,h,l))):=ag
   have s1:ak H (upd H q (.tup (cZ (t,h,l)))):=ak.aA hq
   show dq _ _ _ _ (upd H q (.tup (cZ (t,h,l))))
   generalize upd H q (.tup (cZ (t,h,l)))=H1 at q1 s1 ⊢
   have aI:=hO.same s1
   have cU:H1 q=some (.tup ((eS (t,h,l)).map kV)):=q1
   refine ⟨_,rfl,y,C,dy,_,_,rfl,aI.hy,T.cl,T.n5,yR ..,ch,rfl,.inr ⟨_,.inl aI.hc⟩,_,rfl,_,eg.t (k:=eS (t,h,l)) aI.hc cU,?_⟩
   cases hv:bj S.CH (eS (t,h,l)) with
   | some u=>
    obtain ⟨t',h',l',n,ek,en,_,_,_,l4,wx,Iz⟩:=aI.ck _ (iT hv)
    have IA:=lH (p:=(t,h,l)) (q:=(t',h',l')) ek
    cases IA
    cases (show u=.int (n:Int) from en)
    exact ⟨_,rfl,_,rfl,aZ rfl ⟨_,rfl,de aI (.of s1) l4 wx Iz⟩⟩
   | none=>
    have tl:aB S.N t<names.length:=(hO.fs.nd t (by omega) ht).1
    refine ⟨_,rfl,_,rfl,bQ rfl ?_⟩
    obtain ⟨r1,x1,IB⟩:=aI.node ht
    obtain ⟨r2,x2,IC⟩:=aI.node hh
    obtain ⟨r3,x3,ID⟩:=aI.node hl
    obtain ⟨s0,IE⟩:∃s0,s0=min (aB S.N t) (min (aB S.N h) (aB S.N l)):=⟨_,rfl⟩
    have jq:s0<names.length:=by omega
    refine ⟨_,rfl,y,C,dy,_,_,rfl,aI.hy,T.cl,T.n3,jQ ..,_,rfl,nd,_,_,.ref r1,rfl,rfl,ay.of aI.hd,aF (by rw [List.getElem?_map,x1]; rfl),r1,_,0,.int (aB S.N t:Int),rfl,rfl,aY.of IB,aF (j:=0) rfl,?_⟩
    refine ⟨_,rfl,y,C,dy,_,_,rfl,aI.hy,T.cl,T.n3,jQ ..,_,rfl,nd,_,_,.ref r2,rfl,rfl,ay.of aI.hd,aF (by rw [List.getElem?_map,x2]; rfl),r2,_,0,.int (aB S.N h:Int),rfl,rfl,aY.of IC,aF (j:=0) rfl,?_⟩
    refine ⟨_,rfl,y,C,dy,_,_,rfl,aI.hy,T.cl,T.n3,jQ ..,_,rfl,nd,_,_,.ref r3,rfl,rfl,ay.of aI.hd,aF (by rw [List.getElem?_map,x3]; rfl),r3,_,0,.int (aB S.N l:Int),rfl,rfl,aY.of ID,aF (j:=0) rfl,?_⟩
    refine ⟨_,_,_,rfl,?_⟩
    rw [show min ((aB S.N t:Nat):Int) (min ((aB S.N h:Nat):Int) ((aB S.N l:Nat):Int))=((s0:Nat):Int) by omega]
    have iV:∀m∈["half", "chosen", "node"],(bL nm sp nd kn ch im ex).lookup (m:Str)=none:=λm hm=>by
     simp only [List.mem_cons,List.not_mem_nil,or_false] at hm
     rcases hm with rfl | rfl | rfl <;> exact iS _ _ _ _ _ _ _ (by decide +kernel) (by decide +kernel) (by decide +kernel) (by decide +kernel) (by decide +kernel) (by decide +kernel) (by decide +kernel)
    have nH:=iV "half" (by decide)
    have nC:=iV "chosen" (by decide)
    have nN:=iV "node" (by decide)
    have lt:=λb=>hO.fs.rz (b:=b) ht jq
    have lh:=λb=>hO.fs.rz (b:=b) hh jq
    have ll:=λb=>hO.fs.rz (b:=b) hl jq
    have pt:=λb=>hO.fs.ow (b:=b) ht jq (by omega)
    have ph:=λb=>hO.fs.ow (b:=b) hh jq (by omega)
    have pl:=λb=>hO.fs.ow (b:=b) hl jq (by omega)
    refine ⟨_,rfl,y,dy,_,rfl,aI.hy,nC,?_⟩
    refine ⟨_,rfl,y,dy,_,rfl,aI.hy,nH,_,rfl,_,rfl,y,dy,nm,sp,nd,kn,ch,im,ex,names,S,t,s0,false,rfl,aI,ht,?_⟩
    refine ⟨_,rfl,y,dy,_,rfl,aI.hy,nH,_,rfl,_,rfl,y,dy,nm,sp,nd,kn,ch,im,ex,names,S,h,s0,false,rfl,aI,hh,?_⟩
    refine ⟨_,rfl,y,dy,_,rfl,aI.hy,nH,_,rfl,_,rfl,y,dy,nm,sp,nd,kn,ch,im,ex,names,S,l,s0,false,rfl,aI,hl,?_⟩
    have m1:=pt false
    have m2:=ph false
    have m3:=pl false
    refine ⟨y,dy,nm,sp,nd,kn,ch,im,ex,names,S,hf S.N s0 false t,hf S.N s0 false h,hf S.N s0 false l,b,rfl,aI,lt false,lh false,ll false,by omega,hB,by omega,λn2 S2 H2 cJ k2 g2 B2 i2 x2 l2 v2 p2=>?_⟩
    have LJ:=g2.le
    have qo:∀{i:Nat},i<S.N.length->aB S2.N i=aB S.N i:=λhi=>g2.aB hi
    have yY:∀{i:Nat},i<S.N.length->aD S2.TS i=aD S.TS i:=λhi=>g2.aD (by rw [← hO.fs.len]; exact hi)
    have yZ:∀{i:Nat},i<S.N.length->∀b,hf S2.N s0 b i=hf S.N s0 b i:=λhi b=>by unfold hf aB low dZ; rw [g2.nd hi]
    refine ⟨_,rfl,y,dy,_,rfl,cJ.hy,nC,?_⟩
    refine ⟨_,rfl,y,dy,_,rfl,cJ.hy,nH,_,rfl,_,rfl,y,dy,nm,sp,nd,kn,ch,im,ex,names,S2,t,s0,true,rfl,cJ,by omega,?_⟩
    refine ⟨_,rfl,y,dy,_,rfl,cJ.hy,nH,_,rfl,_,rfl,y,dy,nm,sp,nd,kn,ch,im,ex,names,S2,h,s0,true,rfl,cJ,by omega,?_⟩
    refine ⟨_,rfl,y,dy,_,rfl,cJ.hy,nH,_,rfl,_,rfl,y,dy,nm,sp,nd,kn,ch,im,ex,names,S2,l,s0,true,rfl,cJ,by omega,?_⟩
    have m4:=pt true
    have m5:=ph true
    have m6:=pl true
    have lt':=lt true
    have y4:=lh true
    have y6:=ll true
    have e4:=yZ ht true
    have e5:=yZ hh true
    have e6:=yZ hl true
    refine ⟨y,dy,nm,sp,nd,kn,ch,im,ex,names,S2,hf S2.N s0 true t,hf S2.N s0 true h,hf S2.N s0 true l,b+cst d,rfl,cJ,by omega,by omega,by omega,?_,B2,by omega,λn3 S3 H3 dG k3 g3 B3 i3 x3 l3 v3 p3=>?_⟩
    . rw [e4,e5,e6,qo lt',qo y4,qo y6]
      omega
    rw [e4,e5,e6,qo lt',qo y4,qo y6] at p3
    rw [e4,e5,e6,yY lt',yY y4,yY y6] at v3
    have IF:n2<S3.N.length:=Nat.lt_of_lt_of_le l2 g3.le
    have LK:aB S3.N n2=aB S2.N n2:=g3.aB l2
    have IG:aD S3.TS n2=aD S2.TS n2:=g3.aD (by rw [← cJ.fs.len]; exact l2)
    refine ⟨_,rfl,y,dy,_,rfl,dG.hy,nN,_,rfl,_,rfl,_,rfl,y,dy,nm,sp,nd,kn,ch,im,ex,names,S3,s0,n2,n3,b+cst d+cst d,rfl,dG,jq,IF,l3,by omega,by omega,B3,by omega,λn4 S4 H4 gF k4 g4 B4 c4 i4 x4 l4 s4 t4=>?_⟩
    have IH:=(((Kp.of s1).trans k2).trans k3).trans k4
    have kQ:=(g2.trans g3).trans g4
    have wx:∀v,ev v (aD S4.TS n4)=if ev v (aD S.TS t)=true then ev v (aD S.TS h) else ev v (aD S.TS l):=λv=>by
     have e7:ev v (aD S4.TS n4)=if v (names.getD s0 "")=true then ev v (aD S3.TS n3) else ev v (aD S3.TS n2):=by
      rw [t4]
      by_cases z:n2=n3
      . rw [if_pos z,z]
        split <;> rfl
      . rw [if_neg z]
        rfl
     rw [e7,IG,v2 v,v3 v,hO.fs.rC ht jq v,hO.fs.rC hh jq v,hO.fs.rC hl jq v]
     cases v (names.getD s0 "") <;> rfl
    have LM:=kQ.le
    have y8:H4 q=some (.tup ((eS (t,h,l)).map kV)):=aI.cN ((k2.trans k3).trans k4) _ _ cU
    have II:jR S4.N S4.TS (eS (t,h,l),.int (n4:Int)):=by
     refine ⟨t,h,l,n4,rfl,rfl,by omega,by omega,by omega,l4,λv=>?_,?_⟩
     . rw [wx v,kQ.aD (by rw [← hO.fs.len]; exact ht),kQ.aD (by rw [← hO.fs.len]; exact hh),kQ.aD (by rw [← hO.fs.len]; exact hl)]
     . rw [kQ.aB ht,kQ.aB hh,kQ.aB hl]
       omega
    refine ⟨_,rfl,_,rfl,y,C,dy,_,_,rfl,gF.hy,T.cl,T.n5,yR ..,_,rfl,ch,_,rfl,g0.t (k:=eS (t,h,l)) gF.hc y8 (big (by have:=B4.b2; omega)),?_⟩
    have y9:=gF.Bf II
    exact ⟨_,rfl,kk n4 _ _ y9 (IH.trans (rn (.inr (.inr (.inl rfl))))) ⟨kQ.gn,kQ.gt⟩ ((B4.Iq _ _).up (by omega)) (i4.trans (i3.trans i2)) (x4.trans (x3.trans x2)) l4 wx (by rw [← IE]; exact s4)⟩
end
end Gen
namespace PySem
open Sem (wp)
theorem hZ:typeLookup (.type "list") "__getattr__" = pure none:=by rw [typeLookup_type,builtinLookup_eq_fast]; kernel_rfl
theorem jk:typeLookup (.type "list") "keys" = pure none:=by rw [typeLookup_type,builtinLookup_eq_fast]; kernel_rfl
theorem h9 {A:Around}{prog:Program}{w:World}{Q:Fin->Shared->Prop}{E:Value->Shared->Prop}{h:Heap}{g d t os} {a:Addr}{items:Array Value}{n:Nat}(u:Tok) (hx:h.get? a=some { cls:=.type "list",data:=.seq items n }) (hh:A.handled=none)
 (hE:∀h' tk e,Heap.NewAttrErr h h' e (.ref a) "keys" -> E (.ref e) ⟨h',g,d,tk,os⟩) :
 wpAny (model prog w) A (Builtin.«object.__getattribute__» ⟨[.ref a,.str "keys" u],[]⟩) Q E ⟨h,g,d,t,os⟩:=by
 have hT:∀t',(⟨h,g,d,t',os⟩:Shared).TypeIs (.ref a) "list":=λt'=>⟨_,hx,rfl⟩
 have LN:=hT t
 have Li:=jk
 have hc:[Str.ofString "__module__",Str.ofString "__name__",Str.ofString "__qualname__",Str.ofString "__doc__",Str.ofString "__annotations__"].contains (Str.ofString "keys")=false:=by decide +kernel
 unfold Builtin.«object.__getattribute__»
 repeat (any_goals (first | assumption | wp_step | refine wpAny_ite_false hc ?_))
 all_goals first
  | exact wpAny_raiseAttrError hh hE (attrMsg_fits (by decide +kernel) (by decide))
  | skip
theorem ox {A:Around}{prog:Program}{w:World}{R:Result->Shared->Prop}{h:Heap}{g d t os} {a:Addr}{items:Array Value}{n:Nat}{u:Tok}(hx:h.get? a=some { cls:=.type "list",data:=.seq items n }) (hh:A.handled=none)
 (hE:∀h' tk e,Heap.NewAttrErr h h' e (.ref a) "keys" -> R (.error (.ref e)) ⟨h',g,d,tk,os⟩) :
 codeAny (model prog w) A (.call (.builtin "list.__getattribute__") ⟨[.ref a,.str "keys" u],[]⟩) R ⟨h,g,d,t,os⟩:=
 codeAny_call_builtin F.slot_list_getattribute.plain F.entry_list_ga (F.slot_list_getattribute.check _ _ _ _ _ _ _ _ (show (⟨h,g,d,t,os⟩:Shared).TypeIs (.ref a) "list" from ⟨_,hx,rfl⟩) (F.args_list_getattribute_2 _ _) (h9 u hx hh hE))
theorem oy {A:Around}{prog:Program}{w:World}{E:Value->Shared->Prop}{h:Heap}{g d t os} {a:Addr}{items:Array Value}{n:Nat}{Q:Option Value->Shared->Prop}(hx:h.get? a=some { cls:=.type "list",data:=.seq items n }) (hh:A.handled=none)
 (hQ:∀h' tk,(∀b o,h.get? b=some o->h'.get? b=some o)->Q none ⟨h',g,d,tk,os⟩):wpAny (model prog w) A (getAttr? (.ref a) "keys") Q E ⟨h,g,d,t,os⟩:=by
 have hT:(⟨h,g,d,t,os⟩:Shared).TypeIs (.ref a) "list":=⟨_,hx,rfl⟩
 have f1:=sub_AttributeError
 have f2:=F.slot_list_getattribute.lookup
 have f3:=F.slot_list_getattribute.bind (.ref a)
 have f5:=hZ
 unfold getAttr? getAttrBy? getAttrBy
 repeat (any_goals (first | assumption | ((with_reducible show codeAny _ _ (Code.call (Value.builtin "list.__getattribute__") _) _ _); refine ox hx hh ?_; intro h' t9 e wt; obtain ⟨t1,u1,he⟩:=wt.there) | wp_step))
 exact hQ h' t9 wt.keeps
end PySem
namespace PySem
open Sem (wp)
namespace F
theorem d5:entryFor table "dict.update.loop" = some Builtin.«dict.update.loop»:=entryFor_of_tree (by kernel_rfl)
theorem cf:plainId "dict.update.loop" = true:=by decide +kernel
end F
section
variable {prog:Program}{w:World}{K:Type}[DecidableEq K] {knd:KeyKind prog w K}{A:Around}{R:Result->Shared->Prop}
def oz (knd:KeyKind prog w K) (h:Heap) (u:Value) (kv:K×Value):Prop:=∃t key,u=.ref t/\h.IsTuple t #[key,kv.2]/\knd.is kv.1 key=true
theorem lI {d it l:Addr}{items:Array Value}{kvs:List (K×Value)}(za:d≠it) (jr:d≠l) (IJ:l≠it) (hz:kvs.length<=sizeLine) (hh:A.handled=none) :
 ∀(k i:Nat) (s:Shared) (tk:Tok) (acc:List (K×Value)),items.size-i=k->i<=items.size->kvs.length=items.size->s.heap.IsListIter it l i->s.heap.IsList l items->s.heap.DictOf knd d acc->acc.length<=i->
 (∀(j:Nat) (u:Value) (kv:K×Value),items[j]?=some u->kvs[j]?=some kv->oz knd s.heap u kv/\(∀t,u=.ref t->t≠d/\t≠it))->
 (∀h' tk,h'.DictOf knd d ((kvs.drop i).foldl (λa kv=>stored a kv.1 kv.2) acc)->(∀b o,b≠d->b≠it->s.heap.get? b=some o->h'.get? b=some o)->R (.ok (.ret .none)) { s with heap:=h',toks:=tk })->
 codeAny (model prog w) A (.builtin "dict.update.loop" ⟨[.ref d,.ref it,.int (i:Int) tk,.none],[]⟩) R s:=by
 intro k
 induction k with
 | zero=>
  intro i s tk acc hk hi hlen hit hl hd ia hp hR
  have LO:i=items.size:=by omega
  refine codeAny_builtin F.d5 ?_
  rw [Around.under_plainId F.cf _]
  show wpAny _ A.in1 (pyNext (.ref it) >>= _) _ _ s
  refine wpAny_bind (wpAny_pyNext_list_end (A:=A.in1) hh hit hl (Array.getElem?_eq_none (by omega)) λh' he=>?_)
  refine wpAny_bind (wpAny_pure (wpAny_pure ?_))
  have hd':h'.DictOf knd d acc:=let ⟨o,es,ep,ho,r⟩:=hd; ⟨o,es,ep,he d o za ho,r⟩
  refine hR h' s.toks ?_ λb o _ hb e=>he b o hb e
  rw [List.drop_of_length_le (by omega)]
  exact hd'
 | succ k ih=>
  intro i s tk acc hk hi hlen hit hl hd ia hp hR
  have fF:i<items.size:=by omega
  have hx:items[i]?=some items[i]:=Array.getElem?_eq_getElem fF
  have bh:kvs[i]?=some kvs[i]:=List.getElem?_eq_getElem (by omega)
  obtain ⟨⟨t,key,ht,EV,cU⟩,iw⟩:=hp i _ _ hx bh
  obtain ⟨LP,IK⟩:=iw t ht
  refine codeAny_builtin F.d5 ?_
  rw [Around.under_plainId F.cf _]
  show wpAny _ A.in1 (pyNext (.ref it) >>= _) _ _ s
  refine wpAny_bind (wpAny_pyNext_list_item hit hl hx λh1 EW ua=>?_)
  rw [ht]
  have Bg:h1.IsTuple t #[key,(kvs[i]).2]:=let ⟨o,e,r⟩:=EV; ⟨o,(ua.2 t IK).trans e,r⟩
  refine wpAny_bind (wpAny_holding (wpAny_bind ?_))
  refine wpAny_tryCatch ?_
  unfold Builtin.Dict.pairItems
  obtain ⟨ot,e1,zb,n1,IL⟩:=id Bg
  refine wpAny_bind (wpAny_typeOf (show ({ s with heap:=h1 } : Shared).TypeIs (.ref t) "tuple" from ⟨ot,e1,zb⟩) ?_)
  rw [if_pos (by decide)]
  refine wpAny_bind (wpAny_seqItems e1 IL (wpAny_pure ?_))
  show wpAny _ A.in1 (holding [key,(kvs[i]).2] (dictSet d key (kvs[i]).2)) _ _ _
  refine wpAny_holding ?_
  unfold dictSet
  try with_reducible refine wpAny_holding ?_
  have IP:h1.DictOf knd d acc:=let ⟨o,es,ep,ho,r⟩:=hd; ⟨o,es,ep,(ua.2 d za).trans ho,r⟩
  refine wpAny_bind (knd.pyHash cU ?_)
  refine wpAny_dictSetHashed_pairs cU IP (λh2 hd2 iG=>?_) (by omega)
  refine wpAny_pure ⟨plainId_quiet F.cf _,?_⟩
  have er:rawInt ((i:Int)+1)=Value.int (((i+1:Nat):Nat):Int) 0:=by simp [rawInt]
  rw [er]
  have keep:∀b o,b≠d->b≠it->s.heap.get? b=some o->h2.get? b=some o:=λb o b1 b2 e=>(iG.2 b b1).trans ((ua.2 b b2).trans e)
  refine ih (i+1) _ 0 (stored acc (kvs[i]).1 (kvs[i]).2) (by omega) (by omega) hlen ?_ ?_ hd2 ?_ ?_ ?_
  . obtain ⟨o,e,r⟩:=EW
    exact ⟨o,(iG.2 it (Ne.symm za)).trans e,r⟩
  . obtain ⟨o,e,r⟩:=hl
    exact ⟨o,keep l o (Ne.symm jr) IJ e,r⟩
  . have:=stored_length_le acc (kvs[i]).1 (kvs[i]).2
    omega
  . intro j u kv hu EY
    obtain ⟨⟨t',EZ,e',IQ,iO⟩,zc⟩:=hp j u kv hu EY
    obtain ⟨a1,a2⟩:=zc t' e'
    obtain ⟨o,e,r⟩:=IQ
    exact ⟨⟨t',EZ,e',⟨o,keep t' o a1 a2 e,r⟩,iO⟩,zc⟩
  . intro h' t9 hd' iO
    refine hR h' t9 ?_ λb o b1 b2 e=>iO b o b1 b2 (keep b o b1 b2 e)
    rw [List.drop_eq_getElem_cons (by omega),List.foldl_cons]
    exact hd'
end
section
variable {prog:Program}{w:World}{K:Type}[DecidableEq K] {knd:KeyKind prog w K}{A:Around}{E:Value->Shared->Prop}{s:Shared}
theorem oA {l:Addr}{items:Array Value}{n:Nat}{kvs:List (K×Value)}{Q:Value->Shared->Prop}(hh:A.handled=none) (hl:s.heap.get? l=some { cls:=.type "list",data:=.seq items n }) (hlen:kvs.length=items.size) (hz:kvs.length<=sizeLine)
 (hp:∀(j:Nat) (u:Value) (kv:K×Value),items[j]?=some u->kvs[j]?=some kv->oz knd s.heap u kv)
 (h:∀h' tk,h'.DictOf knd s.heap.objs.size (merged [] kvs)->(∀b o,s.heap.get? b=some o->h'.get? b=some o)->Q (.ref s.heap.objs.size) { s with heap:=h',toks:=tk }) :
 wpAny (model prog w) A (call (.type "dict") [.ref l]) Q E s:=by
 refine callType_codes (Q₁:=λobj bw=>obj=.ref s.heap.objs.size/\bw = { s with heap:=s.heap.push { cls:=.type "dict",data:=.dict #[] } }) F.kt_called_dict (F.kt_typeCall_dict_1 _) F.entry_dict_init (kt_code_dict_new _ ⟨rfl,rfl⟩) ?_
 rintro obj bw ⟨rfl,rfl⟩
 have d4:(s.heap.push { cls:=.type "dict",data:=.dict #[] }).DictOf knd s.heap.objs.size []:=Heap.DictOf.new s.heap
 have ko:(s.heap.push { cls:=.type "dict",data:=.dict #[] }).get? l=some { cls:=.type "list",data:=.seq items n }:=Heap.get?_push_of_some _ hl
 refine ⟨d4.typeIs,F.args_dict_init_2 _ _,?_⟩
 unfold Builtin.«dict.__init__»
 refine wpAny_bind ?_
 unfold Builtin.Dict.selfAndRest
 refine wpAny_bind (wpAny_notOrdered_dict d4.typeIs ?_)
 show wpAny _ _ (pure (s.heap.objs.size,[Value.ref l])) _ _ _
 refine wpAny_pure ?_
 show wpAny _ _ (Builtin.Dict.updateFrom "dict.__init__" s.heap.objs.size (.ref l) [] .none) _ _ _
 unfold Builtin.Dict.updateFrom
 refine wpAny_bind (wpAny_typeOf (show ({ s with heap:=s.heap.push { cls:=.type "dict",data:=.dict #[] } } : Shared).TypeIs (.ref l) "list" from ⟨_,ko,rfl⟩) ?_)
 rw [if_pos (by decide)]
 generalize ua:({ s with heap:=s.heap.push { cls:=.type "dict",data:=.dict #[] } } : Shared)=s1 at *
 obtain ⟨g1,g2,g3,g4,g5⟩:=s1
 cases ua
 refine wpAny_bind (oy ko (by first | exact hh | rfl) λh2 IS k2=>?_)
 rw [if_pos (show (none:Option Value).isNone=true from rfl)]
 have dw:h2.get? l=some { cls:=.type "list",data:=.seq items n }:=k2 _ _ ko
 have lt2:∀b o,(s.heap.push { cls:=.type "dict",data:=.dict #[] }).get? b=some o->b<h2.objs.size:=λb o e=>Heap.lt_size (k2 b o e)
 refine wpAny_bind (wpAny_rule (wpAny_bind (wpAny_pyIter_list (s:={ heap:=h2,gens:=s.gens,drawn:=s.drawn,toks:=IS,os:=s.os }) (items:=items) ⟨_,dw,rfl,n,rfl⟩ ?_)))
 refine wpAny_pure ⟨plainId_quiet F.cf _,?_⟩
 have hd2:h2.DictOf knd s.heap.objs.size []:=let ⟨o,es,ep,ho,r⟩:=d4; ⟨o,es,ep,k2 _ _ ho,r⟩
 have jr:s.heap.objs.size<h2.objs.size:=let ⟨o,es,ep,ho,r⟩:=d4; lt2 _ _ ho
 have tO:l<s.heap.objs.size:=Heap.lt_size hl
 refine lI (knd:=knd) (d:=s.heap.objs.size) (it:=h2.objs.size) (l:=l) (items:=items) (kvs:=kvs) (Nat.ne_of_lt jr) (Nat.ne_of_gt tO) (Nat.ne_of_lt (Nat.lt_trans tO jr)) hz (by first | exact hh | rfl) items.size 0 _ 0 [] rfl (Nat.zero_le _) hlen
  ⟨_,Heap.get?_push_size _ rfl,rfl,rfl⟩ ⟨_,Heap.get?_push_of_some _ dw,rfl,n,rfl⟩ ?_ (Nat.le_refl _) ?_ ?_
 . obtain ⟨o,es,ep,ho,r⟩:=hd2
   exact ⟨o,es,ep,Heap.get?_push_of_some _ ho,r⟩
 . intro j u kv hu bh
   obtain ⟨t,key,e,⟨o,eo,r⟩,hk⟩:=hp j u kv hu bh
   have ht:t<s.heap.objs.size:=Heap.lt_size eo
   refine ⟨⟨t,key,e,⟨o,Heap.get?_push_of_some _ (k2 _ _ (Heap.get?_push_of_some _ eo)),r⟩,hk⟩,λt' e'=>?_⟩
   rw [e] at e'
   cases e'
   exact ⟨Nat.ne_of_lt ht,Nat.ne_of_lt (Nat.lt_trans ht jr)⟩
 . intro h' t9 hd' iO
   refine ⟨rfl,h h' t9 ?_ λb o e=>?_⟩
   . simpa [merged] using hd'
   . have hb:b<s.heap.objs.size:=Heap.lt_size e
     exact iO b o (Nat.ne_of_lt hb) (Nat.ne_of_lt (Nat.lt_trans hb jr)) (Heap.get?_push_of_some _ (k2 _ _ (Heap.get?_push_of_some _ e)))
end
end PySem
namespace L2
open PySem PySem.Spec PyProof.Rows
section
variable {X:Cx}
theorem pairs_at {P:Program}{w:World}{H:Hp}{h:Heap}(ok:cb P w H h):∀{ts:List Addr}{kvs:List (Key×V)}{us:List Value},Paired (λt kv=>H t=some (.tup [kV kv.1,kv.2])) ts kvs->Vals (ts.map V.ref) us->
 ∃vs:List (Key×Value),KV kvs vs/\Paired (λu kv=>oz (bc P w) h u kv) us vs
 | [],[],us,.nil,r=>by
  cases r
  exact ⟨[],.nil,.nil⟩
 | t::ts,kv::kvs,us,.cons e p,r=>by
  cases r with
  | @cons _ u _ LQ ru r'=>
   obtain ⟨vs,k1,k2⟩:=pairs_at ok p r'
   cases (show u=Value.ref t from ru)
   obtain ⟨_,its,rv,ip⟩:=(show aT P w H h t (.tup [kV kv.1,kv.2]) from ok t _ e)
   obtain ⟨key,val,rfl,rk,rl⟩:=vals2 rv
   exact ⟨(kv.1,val)::vs,.cons ⟨rfl,rl⟩ k1,.cons ⟨t,key,rfl,ip,i7 rk⟩ k2⟩
theorem jt {α β:Type}{F:α->β->Prop} : ∀{mz:List α}{mF:List β}{i:Nat}{a:α}{b:β},Paired F mz mF->mz[i]?=some a->mF[i]?=some b->F a b
 | _,_,i,a,b,.nil,h,_=>by simp at h
 | _,_,0,a,b,.cons h t,e1,e2=>by
  simp at e1 e2
  subst e1 e2
  exact h
 | _,_,i+1,a,b,.cons h t,e1,e2=>jt (i:=i) t (by simpa using e1) (by simpa using e2)
theorem kW (hc:X.calm=true):ff X (.type "dict") (λxs H Q=>∃p ts kvs,xs=[.ref p]/\H p=some (.lst (ts.map V.ref))/\Paired (λt kv=>H t=some (.tup [kV kv.1,kv.2])) ts kvs/\∀d,H d=none->Q (.ref d) (upd H d (.dK (cV [] kvs)))):=by
 intro pins s σ H xs us Q I r h
 obtain ⟨p,ts,kvs,rfl,hp,hT,q⟩:=h
 obtain ⟨u,rfl,rx⟩:=vals1 r
 cases (show u=Value.ref p from rx)
 obtain ⟨hz,its,n,rv,e⟩:=(show aT X.prog X.w H s.heap p (.lst (ts.map V.ref)) from I.hok p _ hp)
 obtain ⟨vs,kv,pv⟩:=pairs_at I.hok hT rv
 have l1:vs.length=its.toArray.size:=by rw [List.size_toArray]; exact pv.length.symm
 have l2:kvs.length=vs.length:=kv.length
 have l3:vs.length<=sizeLine:=by
  have:=hT.length
  rw [List.length_map] at hz
  omega
 refine oA (knd:=bc X.prog X.w) (kvs:=vs) (I.ok.hd hc) e l1 l3 (λj u kv hu bh=>jt pv (by simpa using hu) bh) λh' tk dd kk=>?_
 refine ⟨.ref s.heap.objs.size,_,I.laid (a:=s.heap.objs.size) (o:=.dK (cV [] kvs)) kk (Nat.le_refl _) (nt ?_ (beq_eq_false_iff_ne.mpr (Ne.symm (Nat.ne_of_lt I.big))) (KV.merge kv .nil) dd),rfl,q _ (I.hok.fresh (Nat.le_refl _))⟩
 have:=eV kvs []
 simp at this
 omega
theorem cM:ff X (.builtin "isinstance") (λxs H Q=>∃x t c b,xs=[x,.ty c]/\ef X.K H x t/\W.kitOne X.K t (.type c)=some b/\Q (.bl b) H):=by
 intro pins s σ H xs us Q I r h
 obtain ⟨x,t,c,b,rfl,ty,e,q⟩:=h
 obtain ⟨u,v,rfl,rx,ry⟩:=vals2 r
 cases (show v=Value.type c from ry)
 exact sF I rx ty e λtk=>⟨.bl b,H,I.tok _,rfl,q⟩
end
section
variable {X:Cx}{pins:List (Addr×Obj)}{σ:St}{H:Hp}{s:Shared}{d:Addr}{kvs:List (Key×V)}
end
section
variable {X:Cx}
end
end L2
namespace Gen
open PySem L2
abbrev gG:Stmt:=inClass (top 6) 0
theorem ub {σ:St}{H:Hp}{A B:Hp->Prop}(h:A H):jH σ H (λb H3=>if b=true then A H3 else B H3):=by
 show if true=true then A H else B H
 rw [if_pos rfl]
 exact h
theorem aV {f:Str}{v:V}{fs:List (Str×V)}{n:Nat}(h:fs.length<=n):(au f v fs).length<=n+1:=Nat.le_trans (gp f v fs) (Nat.succ_le_succ h)
theorem ka {n m:Nat}(h:n<=m) (hm:m<1000):n<1000:=Nat.lt_of_le_of_lt h hm
theorem cX {H:Hp}{p g C dx:Addr}{o:HO}{fs fs':List (Str×V)}(hp:H p=some (.ins C dx fs)) (hg:H g=none) :
 (upd (upd H g o) p (.ins C dx fs')) p=some (.ins C dx fs')/\(upd (upd H g o) p (.ins C dx fs')) g=some o/\(upd H g o) p=some (.ins C dx fs)/\∀b u,H b=some u->b≠p->(upd (upd H g o) p (.ins C dx fs')) b=some u:=by
 have n:=ah hp hg
 refine ⟨ag,by rw [ai (Ne.symm n),ag],by rw [ai n]; exact hp,λb u hb nb=>by rw [ai nb,ai (ah hb hg)]; exact hb⟩
theorem eT {H H':Hp}{p g:Addr}(k:∀b u,H b=some u->b≠p->H' b=some u) (hg:H' g=none) (np:g≠p):H g=none:=by
 cases e:H g with
 | none=>rfl
 | some o=>rw [k g o e np] at hg; cases hg
theorem ib:∀(kvs acc:List (Key×V)),((acc++kvs).map (·.1)).Nodup->cV acc kvs=acc++kvs
 | [],acc,_=>(List.append_nil acc).symm
 | (k,v)::r,acc,h=>by
  have hn:bj acc k=none:=iU λkv bh z=>by
   rw [List.map_append,List.map_cons,List.nodup_append] at h
   exact h.2.2 _ (List.mem_map.mpr ⟨kv,bh,z⟩) _ List.mem_cons_self rfl
  show cV (putK acc k v) r=acc++(k,v)::r
  rw [jA v hn,ib r (acc++[(k,v)]) (by rw [List.append_assoc]; exact h),List.append_assoc]
  rfl
theorem oB:∀(names:List Str) (i:Nat),(dh i names).map (·.1)=names.map Sum.inr
 | [],_=>rfl
 | n::r,i=>by rw [dh,List.map_cons,List.map_cons,oB r]
theorem qp:∀(names:List Str) (i:Nat),(dh i names).length=names.length
 | [],_=>rfl
 | n::r,i=>by rw [dh,List.length_cons,List.length_cons,qp r]
theorem qq:∀(a b:List Str) (i:Nat),dh i (a++b)=dh i a++dh (i+a.length) b
 | [],b,i=>rfl
 | p::r,b,i=>by rw [List.cons_append,dh,dh,qq r b (i+1),List.cons_append,List.length_cons,show i+1+r.length=i+(r.length+1) by omega]
theorem uc {names:List Str}(h:names.Nodup):cV [] (dh 0 names)=dh 0 names:=ib _ [] (by
 rw [List.nil_append,oB]
 exact List.pairwise_map.mpr (List.Pairwise.imp (λh z=>h (Sum.inr.inj z)) h))
def wy (n:Nat) (t0 t1:Addr):cz:=⟨[(n,0,0),(n,1,1)],[.leaf false,.leaf true],[t0,t1],[],[],[(.inl 0,.bl false),(.inl 1,.bl true)]⟩
theorem IT (names:List Str) (t0 t1:Addr):FS names (wy names.length t0 t1).N (wy names.length t0 t1).TS:=
 ⟨rfl,Nat.le_refl _,rfl,rfl,rfl,rfl,λi h2 hi=>absurd (show i<2 from hi) (by omega),λi j h2 _ hi=>absurd (show i<2 from hi) (by omega)⟩
def qr (P:Program) (w:World) (C:Addr):Sp:=λvs H Q _=>∃(p dy o:Addr) (names:List Str),vs=[.ref p,.ref o]/\H p=some (.ins C dy [])/\H o=some (.lst (names.map V.str))/\names.Nodup/\(∀n∈names,PyData.strOk n=true)/\names.length<=8/\
 ∀(nm sp nd kn ch im ex t0 t1:Addr) (H':Hp),FO P w C H' p dy nm sp nd kn ch im ex names (wy names.length t0 t1)->bg H H' p->(∀g∈[nd,kn,ch,im,ex],H g=none)->Q .aR H'
theorem zd:(["spot", "name"]:List Str).Nodup:=by decide +kernel
section
variable {P:Program}{w:World}{K:W.Frag}{mg:Str->Option Value}{base:Heap}{C:Addr}
theorem E1:aQ ["self", "order"] ["self", "order"] (aj gG):=⟨rfl,rfl,rfl,by decide +kernel,rfl,by decide +kernel,by decide +kernel⟩
theorem vk {f:Addr}{fd:FuncData}(F:bY K "__init__" "Forest.__init__" gG f fd) (T:eX K mg C) (O2:fQ mg) (O:Own mg):av P w K mg base aH 1 f fd ["self", "order"] (qr P w C):=by
 refine F.ok E1 (λvs H Q E h=>?_) (λcdv A outer s H vs Q E hr h=>?_)
 . obtain ⟨p,dy,o,names,rfl,_⟩:=h
   rfl
 . obtain ⟨p,dy,o,names,rfl,hp,ho,nn,ns,n8,kk⟩:=h
   refine ⟨_,ae (fJ (pv 0) (gg iM (by rfl) O2.list PyProof.Rows.boot_list (aa (pv 1) ab)) rfl)
    (ae (fJ (pv 0) (gg (kW rfl) (by rfl) O2.dict PyProof.Rows.boot_dict (aa (dk (N:=["spot", "name"]) (js:=[none,none]) (g:=nc K 2 (eY (cD 0) (eY (cD 1) m7))) (by kernel_rfl) rfl (xm rfl O.enum (aa (pv 1) ab))
     (λ_ _ _ _ _ _=>ng rfl (d9 (aU (i:=0) zd rfl (Or.inl rfl) (.inr rfl)) (d9 (aU (i:=1) zd rfl (Or.inl rfl) (.inr rfl)) ly))) (λ_ _ _ _ _ _=>bz)
     (λ_ _ _ _ _ _=>eM (aa (pv 1) (aa (pv 0) ab)))) ab)) rfl)
    (ae (fJ (pv 0) (dW (aa (eM (aa (aO aP (by rfl) O2.len PySem.boot_len (aa (bx (pv 0) rfl) ab)) (aa af (aa af ab))))
     (aa (eM (aa (aO aP (by rfl) O2.len PySem.boot_len (aa (bx (pv 0) rfl) ab)) (aa af (aa af ab)))) ab))) rfl)
    (ae (fJ (pv 0) nv rfl)
    (ae (fJ (pv 0) nv rfl)
    (ae (fJ (pv 0) oa rfl)
    (aq (fJ (pv 0) (xg (nz af dJ (nz af dJ xf)) rfl rfl (by simp) (by decide)) rfl))))))),?_⟩
   have np:∀{b:Addr}{u:HO},H b=some u->(∀C dx fs,u≠.ins C dx fs)->b≠p:=λhb hu z=>by
    rw [z,hp] at hb
    exact hu _ _ _ (Option.some.inj hb).symm
   have IU:o≠p:=np ho (λ_ _ _ z=>by cases z)
   refine ⟨_,rfl,o,_,rfl,.inl (ay.of ho),λnm e1=>?_⟩
   obtain ⟨p1,q1,r1,k1⟩:=cX (o:=.lst (names.map V.str)) (fs':=au "names" (.ref nm) []) hp e1
   have b1:nm≠p:=(ah hp e1).symm
   refine ⟨_,rfl,p,C,dy,_,rfl,r1,T.cl,T.n1,(by show 0<1000; decide),?_⟩
   show dq _ _ _ _ (upd (upd H nm (.lst (names.map V.str))) p (.ins C dy (au "names" (.ref nm) [])))
   generalize upd (upd H nm (.lst (names.map V.str))) p (.ins C dy (au "names" (.ref nm) []))=H1 at p1 q1 k1 ⊢
   have wz:=k1 _ _ ho IU
   refine ⟨_,rfl,o,rfl,⟨_,ay.of wz⟩,λR hR=>?_⟩
   refine gi names.length (λi acc σ H9=>(∃vs:List Addr,acc=vs.map V.ref/\Paired (λt (kv:Key×V)=>H9 t=some (.tup [kV kv.1,kv.2])) vs (dh 0 (names.take i)))/\(∃u v,σ=[u,v])/\ak H1 H9) ⟨⟨[],rfl,.nil⟩,⟨none,none,rfl⟩,ak.aA hR⟩ ag ?_ ?_
   . rintro acc σ H2 ze ⟨⟨vs,rfl,ud⟩,_,s2⟩
     rw [List.take_length] at ud
     refine ⟨⟨_,ay.of (s2 _ _ wz),by rw [List.length_map]; exact Nat.le_refl _⟩,R,vs,_,rfl,ze,ud,λsp gf=>?_⟩
     rw [uc nn]
     obtain ⟨p3,q3,r3,k3⟩:=cX (o:=.dK (dh 0 names)) (fs':=au "spots" (.ref sp) (au "names" (.ref nm) [])) (s2 _ _ p1) gf
     have b3:sp≠p:=(ah (s2 _ _ p1) gf).symm
     have k13:∀b u,H1 b=some u->b≠p->(upd (upd H2 sp (.dK (dh 0 names))) p (.ins C dy (au "spots" (.ref sp) (au "names" (.ref nm) [])))) b=some u:=λb u hb nb=>k3 _ _ (s2 _ _ hb) nb
     refine ⟨_,rfl,p,C,dy,_,rfl,r3,T.cl,T.n2,ka (aV (Nat.le_refl _)) (by show 1<1000; decide),?_⟩
     show dq _ _ _ _ (upd (upd H2 sp (.dK (dh 0 names))) p (.ins C dy (au "spots" (.ref sp) (au "names" (.ref nm) []))))
     generalize upd (upd H2 sp (.dK (dh 0 names))) p (.ins C dy (au "spots" (.ref sp) (au "names" (.ref nm) [])))=H3 at p3 q3 k13 ⊢
     have ou:bg H H3 p:=λb u hb nb=>k13 _ _ (k1 _ _ hb nb) nb
     have wA:=k13 _ _ q1 b1
     have CZ:∀{f:Str}{v:V}{r:List (Str×V)},f ≠ "names" -> (au f v r).lookup ("names" : Str)=r.lookup ("names" : Str):=λh=>by rw [ao,if_neg (Ne.symm h)]
     refine ⟨_,rfl,p,C,dy,_,_,rfl,p3,T.cl,T.n1,(by rw [CZ (by decide +kernel),ao,if_pos rfl]),nm,_,rfl,.inl (ay.of wA),?_⟩
     rw [List.length_map]
     refine ⟨(by show 3<=sizeLine; decide),λt0 IV=>?_⟩
     have s4:ak H3 (upd H3 t0 (.tup (cZ (names.length,0,0)))):=ak.aA IV
     have q4:(upd H3 t0 (.tup (cZ (names.length,0,0)))) t0=some (.tup (cZ (names.length,0,0))):=ag
     show mr _ _ _ (upd H3 t0 (.tup (cZ (names.length,0,0)))) _
     generalize upd H3 t0 (.tup (cZ (names.length,0,0)))=H4 at s4 q4 ⊢
     refine ⟨_,rfl,p,C,dy,_,_,rfl,s4 _ _ p3,T.cl,T.n1,(by rw [CZ (by decide +kernel),ao,if_pos rfl]),nm,_,rfl,.inl (ay.of (s4 _ _ wA)),?_⟩
     rw [List.length_map]
     refine ⟨(by show 3<=sizeLine; decide),λt1 IW=>?_⟩
     have s5:ak H4 (upd H4 t1 (.tup (cZ (names.length,1,1)))):=ak.aA IW
     have q5:(upd H4 t1 (.tup (cZ (names.length,1,1)))) t1=some (.tup (cZ (names.length,1,1))):=ag
     show x9 _ (upd H4 t1 (.tup (cZ (names.length,1,1)))) _
     generalize upd H4 t1 (.tup (cZ (names.length,1,1)))=H5 at s5 q5 ⊢
     refine ⟨(by show 2<=sizeLine; decide),λnd e6=>?_⟩
     have iW:=s4.trans s5
     obtain ⟨p6,q6,r6,k6⟩:=cX (o:=.lst [.ref t0,.ref t1]) (fs':=au "nodes" (.ref nd) (au "spots" (.ref sp) (au "names" (.ref nm) []))) (iW _ _ p3) e6
     have b6:nd≠p:=(ah (iW _ _ p3) e6).symm
     have d1:nd≠nm:=(ah (iW _ _ wA) e6).symm
     refine ⟨_,rfl,p,C,dy,_,rfl,r6,T.cl,T.n3,ka (aV (aV (Nat.le_refl _))) (by show 2<1000; decide),?_⟩
     show dq _ _ _ _ (upd (upd H5 nd (.lst [.ref t0,.ref t1])) p (.ins C dy (au "nodes" (.ref nd) (au "spots" (.ref sp) (au "names" (.ref nm) [])))))
     have f6:H nd=none:=eT (λb u hb nb=>iW _ _ (ou _ _ hb nb)) e6 b6
     have ue:∀b u,H3 b=some u->b≠p->(upd (upd H5 nd (.lst [.ref t0,.ref t1])) p (.ins C dy (au "nodes" (.ref nd) (au "spots" (.ref sp) (au "names" (.ref nm) []))))) b=some u:=λb u hb nb=>k6 _ _ (iW _ _ hb) nb
     have tp:∀{b:Addr}{xs:List V},H5 b=some (.tup xs)->b≠p:=λhb=>cC hb (iW _ _ p3) (by intro z; cases z)
     have C0:=k6 _ _ (s5 _ _ q4) (tp (s5 _ _ q4))
     have C1:=k6 _ _ q5 (tp q5)
     have n0:t0≠p:=tp (s5 _ _ q4)
     have n1:t1≠p:=tp q5
     generalize upd (upd H5 nd (.lst [.ref t0,.ref t1])) p (.ins C dy (au "nodes" (.ref nd) (au "spots" (.ref sp) (au "names" (.ref nm) []))))=H6 at p6 q6 ue C0 C1 ⊢
     have C2:bg H H6 p:=λb u hb nb=>ue _ _ (ou _ _ hb nb) nb
     intro kn e7
     obtain ⟨p7,q7,r7,k7⟩:=cX (o:=.dT []) (fs':=au "known" (.ref kn) (au "nodes" (.ref nd) (au "spots" (.ref sp) (au "names" (.ref nm) [])))) p6 e7
     have b7:kn≠p:=(ah p6 e7).symm
     refine ⟨_,rfl,p,C,dy,_,rfl,r7,T.cl,T.n4,ka (aV (aV (aV (Nat.le_refl _)))) (by show 3<1000; decide),?_⟩
     show dq _ _ _ _ (upd (upd H6 kn (.dT [])) p (.ins C dy (au "known" (.ref kn) (au "nodes" (.ref nd) (au "spots" (.ref sp) (au "names" (.ref nm) []))))))
     have f7:H kn=none:=eT C2 e7 b7
     generalize upd (upd H6 kn (.dT [])) p (.ins C dy (au "known" (.ref kn) (au "nodes" (.ref nd) (au "spots" (.ref sp) (au "names" (.ref nm) [])))))=H7 at p7 q7 k7 ⊢
     have C3:bg H H7 p:=λb u hb nb=>k7 _ _ (C2 _ _ hb nb) nb
     intro ch e8
     obtain ⟨p8,q8,r8,k8⟩:=cX (o:=.dT []) (fs':=au "choices" (.ref ch) (au "known" (.ref kn) (au "nodes" (.ref nd) (au "spots" (.ref sp) (au "names" (.ref nm) []))))) p7 e8
     have b8:ch≠p:=(ah p7 e8).symm
     have d2:kn≠ch:=ah q7 e8
     refine ⟨_,rfl,p,C,dy,_,rfl,r8,T.cl,T.n5,ka (aV (aV (aV (aV (Nat.le_refl _))))) (by show 4<1000; decide),?_⟩
     show dq _ _ _ _ (upd (upd H7 ch (.dT [])) p (.ins C dy (au "choices" (.ref ch) (au "known" (.ref kn) (au "nodes" (.ref nd) (au "spots" (.ref sp) (au "names" (.ref nm) [])))))))
     have f8:H ch=none:=eT C3 e8 b8
     generalize upd (upd H7 ch (.dT [])) p (.ins C dy (au "choices" (.ref ch) (au "known" (.ref kn) (au "nodes" (.ref nd) (au "spots" (.ref sp) (au "names" (.ref nm) []))))))=H8 at p8 q8 k8 ⊢
     have C4:bg H H8 p:=λb u hb nb=>k8 _ _ (C3 _ _ hb nb) nb
     intro im e9
     obtain ⟨p9,q9,r9,k9⟩:=cX (o:=dF P w im []) (fs':=au "imported" (.ref im) (au "choices" (.ref ch) (au "known" (.ref kn) (au "nodes" (.ref nd) (au "spots" (.ref sp) (au "names" (.ref nm) [])))))) p8 e9
     have b9:im≠p:=(ah p8 e9).symm
     refine ⟨_,rfl,p,C,dy,_,rfl,r9,T.cl,T.n6,ka (aV (aV (aV (aV (aV (Nat.le_refl _)))))) (by show 5<1000; decide),?_⟩
     show dq _ _ _ _ (upd (upd H8 im (dF P w im [])) p (.ins C dy (au "imported" (.ref im) (au "choices" (.ref ch) (au "known" (.ref kn) (au "nodes" (.ref nd) (au "spots" (.ref sp) (au "names" (.ref nm) []))))))))
     have f9:H im=none:=eT C4 e9 b9
     generalize upd (upd H8 im (dF P w im [])) p (.ins C dy (au "imported" (.ref im) (au "choices" (.ref ch) (au "known" (.ref kn) (au "nodes" (.ref nd) (au "spots" (.ref sp) (au "names" (.ref nm) [])))))))=H9 at p9 q9 k9 ⊢
     have C5:bg H H9 p:=λb u hb nb=>k9 _ _ (C4 _ _ hb nb) nb
     intro ex eA
     refine ⟨ag,[(.inl 0,.bl false),(.inl 1,.bl true)],rfl,(by show 2<=15; decide),?_⟩
     have bA:ex≠p:=(ah p9 eA).symm
     have fA:H ex=none:=eT C5 eA bA
     have IX:∀o':HO,upd (upd H9 ex (.dK [])) ex o'=upd H9 ex o':=λo'=>by
      funext b
      by_cases e:b=ex
      . rw [e,ag,ag]
      . rw [ai e,ai e,ai e]
     rw [show cV [] [((.inl 0:Key),V.bl false),(.inl 1,.bl true)]=[(.inl 0,.bl false),(.inl 1,.bl true)] from ib _ [] (by decide),IX]
     obtain ⟨pA,qA,rA,kA⟩:=cX (o:=.dK [(.inl 0,.bl false),(.inl 1,.bl true)]) (fs':=bL nm sp nd kn ch im ex) p9 eA
     refine ⟨_,rfl,p,C,dy,_,rfl,rA,T.cl,T.n7,ka (aV (aV (aV (aV (aV (aV (Nat.le_refl _))))))) (by show 6<1000; decide),?_⟩
     have uf:∀b u,H6 b=some u->b≠p->(upd (upd H9 ex (.dK [(.inl 0,.bl false),(.inl 1,.bl true)])) p (.ins C dy (bL nm sp nd kn ch im ex))) b=some u:=λb u hb nb=>kA _ _ (k9 _ _ (k8 _ _ (k7 _ _ hb nb) nb) nb) nb
     have IY:=k9 _ _ (k8 _ _ (k7 _ _ (ue _ _ q3 b3) b3) b3) b3
     refine kk nm sp nd kn ch im ex t0 t1 _ ⟨pA,uf _ _ (ue _ _ wA b1) b1,uf _ _ (ue _ _ q3 b3) b3,uf _ _ q6 b6,.cons (uf _ _ C0 n0) (.cons (uf _ _ C1 n1) .nil),kA _ _ (k9 _ _ (k8 _ _ q7 b7) b7) b7,kA _ _ (k9 _ _ q8 b8) b8,(λ_ h=>nomatch h),kA _ _ q9 b9,(λ_ h=>nomatch h),qA,?_,⟨rfl,rfl⟩,IT names t0 t1,nn,ns,n8,d1,d2,ah IY eA⟩ (λb u hb nb=>kA _ _ (C5 _ _ hb nb) nb) ?_
     . intro kv bh
       rcases List.mem_cons.mp bh with rfl | bh
       . exact ⟨0,rfl,Nat.zero_lt_two,rfl⟩
       . rw [List.mem_singleton] at bh
         subst bh
         exact ⟨1,rfl,Nat.one_lt_two,rfl⟩
     . intro g hg
       simp only [List.mem_cons,List.not_mem_nil,or_false] at hg
       rcases hg with rfl | rfl | rfl | rfl | rfl <;> assumption
   . rintro i acc σ H9 hi ze ⟨⟨vs,rfl,ud⟩,⟨u,v,rfl⟩,s9⟩
     have C6:names[i]?=some names[i]:=List.getElem?_eq_getElem hi
     have ei:(names.map V.str)[i]?=some (.str names[i]):=by rw [List.getElem?_map,C6]; rfl
     refine ⟨⟨_,_,ay.of (s9 _ _ wz),ei⟩,?_⟩
     rintro x' H' ⟨Tp,xv,rfl,pS,rfl,jB⟩
     have ex:=jB _ (ay.of (s9 _ _ wz))
     rw [ei] at ex
     cases ex
     have sT:ak H9 (upd H9 Tp (.tup [.int (i:Int),.str names[i]])):=ak.aA pS
     have qT:(upd H9 Tp (.tup [.int (i:Int),.str names[i]])) Tp=some (.tup [.int (i:Int),.str names[i]]):=ag
     refine ⟨Tp,_,rfl,aY.of qT,rfl,_,_,rfl,_,_,rfl,rfl,?_⟩
     show jH _ (upd H9 Tp (.tup [.int (i:Int),.str names[i]])) _
     generalize upd H9 Tp (.tup [.int (i:Int),.str names[i]])=HT at sT qT ⊢
     refine ub ?_
     refine ⟨_,rfl,_,rfl,(by show 2<=sizeLine; decide),λt2 zf=>?_⟩
     have zg:=sT _ _ ze
     have nR:R≠t2:=ah zg zf
     have IZ:=ud.length
     rw [qp,List.length_take] at IZ
     refine ⟨_,(ai nR).trans zg,(by rw [List.length_map]; exact small (by omega)),cG hi ag ⟨⟨vs++[t2],by rw [List.map_append]; rfl,?_⟩,⟨_,_,rfl⟩,λb o' hb=>?_⟩⟩
     . rw [List.take_succ,C6,Option.toList_some,qq,List.length_take,Nat.min_eq_left (Nat.le_of_lt hi)]
       refine eW (Paired.gW ud λt kv e=>?_) (.cons ?_ .nil)
       . have e':=sT _ _ e
         rw [ai (cC e' zg (by intro z; cases z)),ai (ah e' zf)]
         exact e'
       . rw [ai (Ne.symm nR),ag]
         show some (HO.tup [V.str names[i],V.int (i:Int)])=some (HO.tup [V.str names[i],V.int ((0+i:Nat):Int)])
         rw [Nat.zero_add]
     . rw [ai (ah hb hR),ai (ah (sT _ _ (s9 _ _ hb)) zf)]
       exact sT _ _ (s9 _ _ hb)
end
end Gen
namespace Gen
open PySem L2
abbrev jg:Stmt:=top 2
abbrev fm:Stmt:=top 3
abbrev fW:Stmt:=top 5
abbrev lJ:Stmt:=top 4
theorem oC:∀t:Tr,cA t+2<=2*2 ^ t.dep
 | .leaf _=>Nat.le_refl _
 | .node _ l r=>by
  have h1:=oC l
  have h2:=oC r
  have e1:2 ^ l.dep<=2 ^ max l.dep r.dep:=Nat.pow_le_pow_right (by decide) (by omega)
  have e2:2 ^ r.dep<=2 ^ max l.dep r.dep:=Nat.pow_le_pow_right (by decide) (by omega)
  show cA l+cA r+2+2<=2*2 ^ (max l.dep r.dep+1)
  rw [Nat.pow_succ]
  omega
theorem ie {t:Tr}(h:t.dep<=8):cA t<=510:=by
 have h1:=oC t
 have h2:2 ^ t.dep<=2 ^ 8:=Nat.pow_le_pow_right (by decide) h
 omega
section
variable (P:Program) (w:World) (K:W.Frag) (mg:Str->Option Value) (base:Heap) (C:Addr)
structure oE (fI fT fC fA:Addr) (dI dT dC dA:FuncData):Prop where
 gI:av P w K mg base aH 1 fI dI ["self", "order"] (qr P w C)
 mI:Mk K C fI
 bI:Binds K dI ["self", "order"] []
 gT:av P w K mg base aH 10 fT dT ["self", "tree"] (jf P w C 9)
 mT:Meth K C "taken" fT
 bT:Binds K dT ["self", "tree"] []
 gC:av P w K mg base aH 10 fC dC kM (hX P w C 9)
 mC:Meth K C "chosen" fC
 bC:Binds K dC kM []
 gA:av P w K mg base aH 10 fA dA ["self", "number"] (hW P w C 9)
 mA:Meth K C "tree_at" fA
 bA:Binds K dA ["self", "number"] []
end
structure Ord (H:Hp) (o:Addr) (names:List Str):Prop where
 at_:H o=some (.lst (names.map V.str))
 nd:names.Nodup
 ok:∀n∈names,PyData.strOk n=true
 n8:names.length<=8
def mw (f:Bool->Bool->Bool):Sp:=λvs H Q _=>∃(o:Addr) (v1 v2:V) (names:List Str) (t1 t2:Tr),vs=[.ref o,v1,v2]/\Ord H o names/\aX H t1 v1/\aX H t2 v2/\bJ names t1/\bJ names t2/\
 ∀(v:V) (t:Tr) (H':Hp),ak H H'->aX H' t v->bJ names t->(∀e,ev e t=f (ev e t1) (ev e t2))->Q v H'
abbrev C7:List Str:=["order", "one", "other", "forest"]
abbrev ju:List Str:=["order", "one", "other"]
theorem bF {H H':Hp}(s:ak H H'):∀a xs,H a=some (.tup xs)->H' a=some (.tup xs):=λa xs e=>s _ _ e
section
variable {P:Program}{w:World}{K:W.Frag}{mg:Str->Option Value}{base:Heap}{C fI fT fC fA:Addr}{dI dT dC dA:FuncData}
theorem C8 {n:Nat}{t0 t1:Addr} : Bd (wy n t0 t1) 2:=⟨Nat.le_refl _,Nat.zero_le _,Nat.zero_le _,Nat.le_refl _⟩
theorem oF {H H1:Hp}{x dx C:Addr}(hx:H x=none) (iX:H dx=none) (k1:bg (upd (upd H dx (.own x)) x (.ins C dx [])) H1 x):ak H H1:=λb o hb=>by
 have n1:=ah hb hx
 have n2:=ah hb iX
 exact k1 b o (by rw [ai n1,ai n2]; exact hb) n1
theorem oG {H:Hp}{x dx C g:Addr}(hx:H x=none) (iX:H dx=none) (hg:(upd (upd H dx (.own x)) x (.ins C dx [])) g=none):H g=none:=by
 cases e:H g with
 | none=>rfl
 | some o=>
  rw [ai (ah e hx),ai (ah e iX),e] at hg
  cases hg
theorem jh {H H1 H2:Hp}{nd kn ch im ex:Addr}(s:ak H H1) (fr:∀g∈[nd,kn,ch,im,ex],H g=none) (k:Kp H1 H2 nd kn ch im ex):ak H H2:=λb o hb=>
 k b o (s b o hb) (ah hb (fr nd (by simp))) (ah hb (fr kn (by simp))) (ah hb (fr ch (by simp))) (ah hb (fr im (by simp))) (ah hb (fr ex (by simp)))
theorem ug:aQ C7 ju (aj jg):=⟨rfl,rfl,rfl,by decide +kernel,rfl,by decide +kernel,by decide +kernel⟩
theorem xC {f:Addr}{fd:FuncData}(F:bY K "both" "both" jg f fd) (T:eX K mg C) (G:oE P w K mg base C fI fT fC fA dI dT dC dA):av P w K mg base aH 11 f fd ju (mw and):=by
 refine F.ok ug (λvs H Q E h=>?_) (λcdv A outer s H vs Q E hr h=>?_)
 . obtain ⟨o,v1,v2,names,t1,t2,rfl,_⟩:=h
   rfl
 . obtain ⟨o,v1,v2,names,t1,t2,rfl,hOr,wj,zi,c1,c2,kk⟩:=h
   refine ⟨_,ae (ax (i:=3) ug.nd rfl (Or.inl rfl) (pM G.mI G.gI (hr.mono (by decide)) rfl T.mgC G.bI .nil aw (aa (pv 0) ab)))
    (aq (aJ (aW (pv 3) T.cl G.mA G.gA hr G.bA .nil aw (aa (aW (pv 3) T.cl G.mC G.gC hr G.bC .nil aw (aa (aW (pv 3) T.cl G.mT G.gT hr G.bT .nil aw (aa (pv 1) ab))
     (aa (aW (pv 3) T.cl G.mT G.gT hr G.bT .nil aw (aa (pv 2) ab)) (aa af ab)))) ab)))),?_⟩
   refine ⟨_,rfl,λx dx hx iX I0=>?_⟩
   refine ⟨x,dx,o,names,rfl,ag,by rw [ai (ah hOr.at_ hx),ai (ah hOr.at_ iX)]; exact hOr.at_,hOr.nd,hOr.ok,hOr.n8,λnm sp nd kn ch im ex a0 a1 H1 aI k1 zj=>⟨rfl,?_⟩⟩
   have s1:=oF hx iX k1
   have fr:∀g∈[nd,kn,ch,im,ex],H g=none:=λg hg=>oG hx iX (zj g hg)
   have iV:∀m∈["taken", "chosen", "tree_at"],(bL nm sp nd kn ch im ex).lookup (m:Str)=none:=λm hm=>by
    simp only [List.mem_cons,List.not_mem_nil,or_false] at hm
    rcases hm with rfl | rfl | rfl <;> exact iS _ _ _ _ _ _ _ (by decide +kernel) (by decide +kernel) (by decide +kernel) (by decide +kernel) (by decide +kernel) (by decide +kernel) (by decide +kernel)
   have nT:=iV "taken" (by decide)
   have nC:=iV "chosen" (by decide)
   have nA:=iV "tree_at" (by decide)
   have z1:=ie (Nat.le_trans (bG c1) hOr.n8)
   have z2:=ie (Nat.le_trans (bG c2) hOr.n8)
   have y1:=Nat.le_trans (bG c1) hOr.n8
   have y2:=Nat.le_trans (bG c2) hOr.n8
   have Ja:cst 9=1022:=rfl
   refine ⟨_,rfl,x,dx,_,rfl,aI.hy,nA,_,rfl,x,dx,_,rfl,aI.hy,nC,_,rfl,x,dx,_,rfl,aI.hy,nT,_,rfl,x,dx,nm,sp,nd,kn,ch,im,ex,names,_,t1,v1,2,rfl,aI,wj.keep (bF s1),c1,by omega,C8,by omega,λn1 S1 H2 cJ k2 g2 B2 _ _ _ l1 e1=>?_⟩
   have s2:=jh s1 fr k2
   refine ⟨_,rfl,x,dx,_,rfl,cJ.hy,nT,_,rfl,x,dx,nm,sp,nd,kn,ch,im,ex,names,S1,t2,v2,_,rfl,cJ,zi.keep (bF s2),c2,by omega,B2,by omega,λn2 S2 H3 dG k3 g3 B3 _ _ _ l2 e2=>?_⟩
   have qm:n1<S2.N.length:=Nat.lt_of_lt_of_le l1 g3.le
   have p0:aD S2.TS n1=t1:=by rw [g3.aD (by rw [← cJ.fs.len]; exact l1)]; exact e1
   have two:=dG.fs.two
   refine ⟨x,dx,nm,sp,nd,kn,ch,im,ex,names,S2,n1,n2,0,_,rfl,dG,qm,l2,by omega,by have:=hOr.n8; omega,B3,by omega,λn3 S3 H4 gF k4 g4 B4 _ _ l3 e3 m3=>?_⟩
   have uh:bJ names (aD S3.TS n3):=ez (i:=0) (ns:=names) (gF.fs.CT hOr.nd n3 l3) (Nat.zero_le _)
   have y3:=Nat.le_trans (bG uh) hOr.n8
   have z3:=ie y3
   refine ⟨x,dx,nm,sp,nd,kn,ch,im,ex,names,S3,n3,_,rfl,gF,l3,by omega,B4,by omega,λv S4 H5 y9 k5 _ _ _ _ r5=>?_⟩
   refine kk v _ H5 (jh s1 fr (((k2.trans k3).trans k4).trans k5)) r5 uh λe=>?_
   rw [e3 e,p0,e2,dG.fs.t0]
   cases ev e t1 <;> rfl
theorem oH:aQ C7 ju (aj fm):=⟨rfl,rfl,rfl,by decide +kernel,rfl,by decide +kernel,by decide +kernel⟩
theorem ui {f:Addr}{fd:FuncData}(F:bY K "either" "either" fm f fd) (T:eX K mg C) (G:oE P w K mg base C fI fT fC fA dI dT dC dA):av P w K mg base aH 11 f fd ju (mw or):=by
 refine F.ok oH (λvs H Q E h=>?_) (λcdv A outer s H vs Q E hr h=>?_)
 . obtain ⟨o,v1,v2,names,t1,t2,rfl,_⟩:=h
   rfl
 . obtain ⟨o,v1,v2,names,t1,t2,rfl,hOr,wj,zi,c1,c2,kk⟩:=h
   refine ⟨_,ae (ax (i:=3) oH.nd rfl (Or.inl rfl) (pM G.mI G.gI (hr.mono (by decide)) rfl T.mgC G.bI .nil aw (aa (pv 0) ab)))
    (aq (aJ (aW (pv 3) T.cl G.mA G.gA hr G.bA .nil aw (aa (aW (pv 3) T.cl G.mC G.gC hr G.bC .nil aw (aa (aW (pv 3) T.cl G.mT G.gT hr G.bT .nil aw (aa (pv 1) ab))
     (aa af (aa (aW (pv 3) T.cl G.mT G.gT hr G.bT .nil aw (aa (pv 2) ab)) ab)))) ab)))),?_⟩
   refine ⟨_,rfl,λx dx hx iX I0=>?_⟩
   refine ⟨x,dx,o,names,rfl,ag,by rw [ai (ah hOr.at_ hx),ai (ah hOr.at_ iX)]; exact hOr.at_,hOr.nd,hOr.ok,hOr.n8,λnm sp nd kn ch im ex a0 a1 H1 aI k1 zj=>⟨rfl,?_⟩⟩
   have s1:=oF hx iX k1
   have fr:∀g∈[nd,kn,ch,im,ex],H g=none:=λg hg=>oG hx iX (zj g hg)
   have iV:∀m∈["taken", "chosen", "tree_at"],(bL nm sp nd kn ch im ex).lookup (m:Str)=none:=λm hm=>by
    simp only [List.mem_cons,List.not_mem_nil,or_false] at hm
    rcases hm with rfl | rfl | rfl <;> exact iS _ _ _ _ _ _ _ (by decide +kernel) (by decide +kernel) (by decide +kernel) (by decide +kernel) (by decide +kernel) (by decide +kernel) (by decide +kernel)
   have nT:=iV "taken" (by decide)
   have nC:=iV "chosen" (by decide)
   have nA:=iV "tree_at" (by decide)
   have z1:=ie (Nat.le_trans (bG c1) hOr.n8)
   have z2:=ie (Nat.le_trans (bG c2) hOr.n8)
   have y1:=Nat.le_trans (bG c1) hOr.n8
   have y2:=Nat.le_trans (bG c2) hOr.n8
   have Ja:cst 9=1022:=rfl
   refine ⟨_,rfl,x,dx,_,rfl,aI.hy,nA,_,rfl,x,dx,_,rfl,aI.hy,nC,_,rfl,x,dx,_,rfl,aI.hy,nT,_,rfl,x,dx,nm,sp,nd,kn,ch,im,ex,names,_,t1,v1,2,rfl,aI,wj.keep (bF s1),c1,by omega,C8,by omega,λn1 S1 H2 cJ k2 g2 B2 _ _ _ l1 e1=>?_⟩
   have s2:=jh s1 fr k2
   refine ⟨_,rfl,x,dx,_,rfl,cJ.hy,nT,_,rfl,x,dx,nm,sp,nd,kn,ch,im,ex,names,S1,t2,v2,_,rfl,cJ,zi.keep (bF s2),c2,by omega,B2,by omega,λn2 S2 H3 dG k3 g3 B3 _ _ _ l2 e2=>?_⟩
   have qm:n1<S2.N.length:=Nat.lt_of_lt_of_le l1 g3.le
   have p0:aD S2.TS n1=t1:=by rw [g3.aD (by rw [← cJ.fs.len]; exact l1)]; exact e1
   have two:=dG.fs.two
   refine ⟨x,dx,nm,sp,nd,kn,ch,im,ex,names,S2,n1,1,n2,_,rfl,dG,qm,by omega,l2,by have:=hOr.n8; omega,B3,by omega,λn3 S3 H4 gF k4 g4 B4 _ _ l3 e3 m3=>?_⟩
   have uh:bJ names (aD S3.TS n3):=ez (i:=0) (ns:=names) (gF.fs.CT hOr.nd n3 l3) (Nat.zero_le _)
   have y3:=Nat.le_trans (bG uh) hOr.n8
   have z3:=ie y3
   refine ⟨x,dx,nm,sp,nd,kn,ch,im,ex,names,S3,n3,_,rfl,gF,l3,by omega,B4,by omega,λv S4 H5 y9 k5 _ _ _ _ r5=>?_⟩
   refine kk v _ H5 (jh s1 fr (((k2.trans k3).trans k4).trans k5)) r5 uh λe=>?_
   rw [e3 e,p0,e2,dG.fs.t1]
   cases ev e t1 <;> rfl
end
structure ND (P:Program) (w:World) (H:Hp) (kn:Addr) (L:List (Tr×Addr×V)):Prop where
 at_:H kn=some (dF P w kn L)
 ok:∀p∈L,df H p.1 p.2.1/\aX H (neg p.1) p.2.2
def ji (P:Program) (w:World) (d:Nat):Sp:=λvs H Q _=>∃(v:V) (kn:Addr) (L:List (Tr×Addr×V)) (t:Tr) (b:Nat),vs=[v,.ref kn]/\ND P w H kn L/\aX H t v/\t.dep<=8/\t.me/\t.dep<d/\L.length<=b/\b+cA t<100000/\
 ∀(u:V) (L':List (Tr×Addr×V)) (H':Hp),bg H H' kn->ND P w H' kn L'->L'.length<=b+cA t->(∀p∈L',p∈L\/p.1.dep<=t.dep)->aX H' (neg t) u->Q u H'
abbrev Jb:List Str:=["tree", "known", "made"]
abbrev kX:List Str:=["tree", "known"]
def rD:Sp:=λvs H Q _=>∃(v:V) (t:Tr),vs=[v]/\aX H t v/\t.dep<=8/\t.me/\∀(u:V) (H':Hp),ak H H'->aX H' (neg t) u->Q u H'
theorem aX.nn {H:Hp}{t:Tr}{v:V}(h:aX H t v):v≠.aR:=λz=>by
 rw [z] at h
 cases t with
 | leaf c=>cases (show V.aR=.bl c from h)
 | node a l r=>obtain ⟨_,_,_,z,_⟩:=h; cases z
theorem qt {P:Program}{w:World}{H H':Hp}{kn:Addr}{L:List (Tr×Addr×V)}(h:H kn=some (dF P w kn L)) (k:bg H H' kn):∀a xs,H a=some (.tup xs)->H' a=some (.tup xs):=λa xs e=>k _ _ e (cC e h (by intro z; cases z))
section
variable {P:Program}{w:World}{K:W.Frag}{mg:Str->Option Value}{base:Heap}
theorem vm:aQ Jb kX (aj fW):=⟨rfl,rfl,rfl,by decide +kernel,rfl,by decide +kernel,by decide +kernel⟩
theorem uk {f:Addr}{fd:FuncData}{d k:Nat}(F:bY K "opposite_by" "opposite_by" fW f fd) (G:av P w K mg base aH k f fd kX (ji P w d)) (mO:mg "opposite_by" = some (.ref f)) (bO:Binds K fd kX []):av P w K mg base aH (k+1) f fd kX (ji P w (d+1)):=by
 refine F.ok vm (λvs H Q E h=>?_) (λcdv A outer s H vs Q E hr h=>?_)
 . obtain ⟨v,kn,L,t,b,rfl,_⟩:=h
   rfl
 . obtain ⟨v,kn,L,t,b,rfl,hN,hv,d8,sk,hd,hB,hb,kk⟩:=h
   have tY:=yV hr
   refine ⟨_,ae (bf (dM (kH (pv 0))) (aq (aJ dJ)) aN)
    (ae (bf (dM (kH (pv 0))) (aq (aJ dJ)) aN)
    (ae (ax (i:=2) vm.nd rfl (Or.inl rfl) (qa tY (pv 1) (pv 0) ⟨rfl,rfl,rfl,rfl⟩))
    (ae (bf (dM (iD (pv 2)))
     (ae (ax (i:=2) vm.nd rfl (Or.inl rfl) (eM (aa (aM (r:=cm K) bo (pv 0) af (λ_ _=>rfl))
      (aa (az G hr rfl mO F.kp bO .nil aw (aa (aM (r:=cm K) bo (pv 0) af (λ_ _=>rfl)) (aa (pv 1) ab)))
      (aa (az G hr rfl mO F.kp bO .nil aw (aa (aM (r:=cm K) bo (pv 0) af (λ_ _=>rfl)) (aa (pv 1) ab))) ab)))))
     (aq (qb tY (pv 1) (pv 0) (pv 2) rfl))) aN)
    (aq (aJ (pv 2)))))),?_⟩
   have de:∀{u:V},aX H (neg t) u->Q u H:=λhu=>kk _ L H (bg.refl _ _) hN (by omega) (λp hp=>.inl hp) hu
   cases t with
   | leaf c=>
    cases (show v=.bl c from hv)
    cases c
    . refine ⟨_,rfl,.inl ⟨_,rfl,_,rfl,aZ rfl ?_⟩⟩
      exact ⟨_,rfl,.inl ⟨_,rfl,_,rfl,bQ rfl (de rfl)⟩⟩
    . exact ⟨_,rfl,.inl ⟨_,rfl,_,rfl,bQ rfl (de rfl)⟩⟩
   | node n l r=>
    obtain ⟨a,vl,vr,rfl,ha,hl,hR⟩:=hv
    have cU:df H (.node n l r) a:=⟨⟨a,vl,vr,rfl,ha,hl,hR⟩,d8,sk⟩
    have hsz:cA (.node n l r)=cA l+cA r+2:=rfl
    have vj:(Tr.node n l r).dep=max l.dep r.dep+1:=rfl
    refine ⟨_,rfl,.inr ⟨_,rfl,_,rfl,aZ rfl ?_⟩⟩
    refine ⟨_,rfl,.inr ⟨_,rfl,_,rfl,aZ rfl ?_⟩⟩
    refine ⟨_,rfl,kn,L,rfl,hN.at_,_,rfl,_,a,rfl,hN.at_,cU,λp hp=>(hN.ok p hp).1,?_⟩
    cases tZ:cS L (.node n l r) with
    | some u=>
     obtain ⟨b',hm⟩:=kI tZ
     have hu:=(hN.ok _ hm).2
     exact ⟨_,rfl,_,rfl,aZ (decide_eq_false (aX.nn (t:=neg (.node n l r)) hu)) ⟨_,rfl,de hu⟩⟩
    | none=>
     refine ⟨_,rfl,_,rfl,bQ rfl ?_⟩
     refine ⟨_,rfl,a,_,0,_,rfl,rfl,aY.of ha,aF (j:=0) rfl,?_⟩
     refine ⟨_,rfl,a,_,1,_,rfl,rfl,aY.of ha,aF (j:=1) rfl,_,rfl,?_⟩
     refine ⟨vl,kn,L,l,b,rfl,hN,hl,by omega,sk.2.1,by omega,hB,by omega,λu1 L1 H1 k1 N1 B1 x1 r1=>?_⟩
     have c1:=qt hN.at_ k1
     refine ⟨_,rfl,a,_,2,_,rfl,rfl,aY.of (c1 _ _ ha),aF (j:=2) rfl,_,rfl,?_⟩
     refine ⟨vr,kn,L1,r,b+cA l,rfl,N1,hR.keep c1,by omega,sk.2.2,by omega,B1,by omega,λu2 L2 H2 k2 N2 B2 x2 r2=>?_⟩
     have c2:=qt N1.at_ k2
     refine ⟨(by show 3<=sizeLine; decide),λq hq=>?_⟩
     have s3:ak H2 (upd H2 q (.tup [.str n,u1,u2])):=ak.aA hq
     have q3:(upd H2 q (.tup [.str n,u1,u2])) q=some (.tup [.str n,u1,u2]):=ag
     show dq _ _ _ _ (upd H2 q (.tup [.str n,u1,u2]))
     generalize upd H2 q (.tup [.str n,u1,u2])=H3 at s3 q3 ⊢
     have hT:aX H3 (neg (.node n l r)) (.ref q):=⟨q,u1,u2,rfl,q3,(r1.keep c2).keep (bF s3),r2.keep (bF s3)⟩
     have kL:df H3 (.node n l r) a:=((cU.keep c1).keep c2).keep (bF s3)
     have d4:cS L2 (.node n l r)=none:=kJ λp hp z=>by
      rcases x2 p hp with hp | hp
      . rcases x1 p hp with hp | hp
        . exact oq tZ p hp z
        . rw [z] at hp
          omega
      . rw [z] at hp
        omega
     refine ⟨_,rfl,_,rfl,_,rfl,kn,L2,_,a,rfl,rfl,s3 _ _ N2.at_,kL,λp hp=>(N2.ok p hp).1.keep (bF s3),d4,big (by omega),?_⟩
     have c4:∀a' xs,H3 a'=some (.tup xs)->(upd H3 kn (dF P w kn (L2++[(.node n l r,a,.ref q)]))) a'=some (.tup xs):=λa' xs e=>by rw [ai (cC e (s3 _ _ N2.at_) (by intro z; cases z))]; exact e
     refine ⟨_,rfl,kk (.ref q) (L2++[(.node n l r,a,.ref q)]) _ (λb' o' ki nb=>?_) ⟨ag,λp hp=>?_⟩ (by rw [List.length_append]; show L2.length+1<=_; omega) (λp hp=>?_) (hT.keep c4)⟩
     . rw [ai nb]
       exact s3 _ _ (k2 _ _ (k1 _ _ ki nb) nb)
     . rcases List.mem_append.mp hp with hp | hp
       . exact ⟨((N2.ok p hp).1.keep (bF s3)).keep c4,((N2.ok p hp).2.keep (bF s3)).keep c4⟩
       . rw [List.mem_singleton] at hp
         subst hp
         exact ⟨kL.keep c4,hT.keep c4⟩
     . rcases List.mem_append.mp hp with hp | hp
       . rcases x2 p hp with hp | hp
         . rcases x1 p hp with hp | hp
           . exact .inl hp
           . exact .inr (by omega)
         . exact .inr (by omega)
       . rw [List.mem_singleton] at hp
         subst hp
         exact .inr (Nat.le_refl _)
theorem Bh:aQ ["tree"] ["tree"] (aj lJ):=⟨rfl,rfl,rfl,by decide +kernel,rfl,by decide +kernel,by decide +kernel⟩
theorem zk {f fB:Addr}{fd dB:FuncData}{k:Nat}(F:bY K "opposite" "opposite" lJ f fd) (G:av P w K mg base aH k fB dB kX (ji P w 9)) (mO:mg "opposite_by" = some (.ref fB)) (kO:W.keepIn K (.ref fB)=true) (bO:Binds K dB kX []):av P w K mg base aH (k+1) f fd ["tree"] rD:=by
 refine F.ok Bh (λvs H Q E h=>?_) (λcdv A outer s H vs Q E hr h=>?_)
 . obtain ⟨v,t,rfl,_⟩:=h
   rfl
 . obtain ⟨v,t,rfl,hv,d8,sk,kk⟩:=h
   refine ⟨_,aq (aJ (az G hr rfl mO kO bO .nil aw (aa (pv 0) (aa oa ab)))),?_⟩
   refine ⟨_,rfl,λkn C9=>?_⟩
   have z:=ie d8
   have s0:ak H (upd H kn (dF P w kn [])):=ak.aA C9
   refine ⟨v,kn,[],t,0,rfl,⟨ag,λ_ h=>nomatch h⟩,hv.keep (bF s0),d8,sk,by omega,Nat.le_refl _,by omega,λu L' H' k1 _ _ _ r1=>kk u H' (λb o hb=>k1 _ _ (s0 _ _ hb) (ah hb C9)) r1⟩
end
end Gen
namespace Gen
open PySem L2
abbrev fX:Stmt:=top 13
abbrev fZ:Stmt:=top 14
def bV (b:Bool):V:=.int (if b=true then 1 else 0)
def cn:List Str->List Bool->Tr
 | [],bs=>.leaf (bs.headD false)
 | n::r,bs=>if cn r (bs.take (bs.length / 2))=cn r (bs.drop (bs.length / 2)) then cn r (bs.take (bs.length / 2)) else .node n (cn r (bs.take (bs.length / 2))) (cn r (bs.drop (bs.length / 2)))
theorem lK (n:Str) (r:List Str) (bs:List Bool):cn (n::r) bs=if cn r (bs.take (bs.length / 2))=cn r (bs.drop (bs.length / 2)) then cn r (bs.take (bs.length / 2)) else .node n (cn r (bs.take (bs.length / 2))) (cn r (bs.drop (bs.length / 2))):=rfl
theorem cj:∀(names:List Str) (bs:List Bool),bJ names (cn names bs)
 | [],bs=>.leaf _ _
 | n::r,bs=>by
  rw [lK]
  by_cases e:cn r (bs.take (bs.length / 2))=cn r (bs.drop (bs.length / 2))
  . rw [if_pos e]
    exact .skip (cj r _)
  . rw [if_neg e]
    exact .node e (cj r _) (cj r _)
theorem kY (e:Str->Bool) (n:Str) (r:List Str) (bs:List Bool):ev e (cn (n::r) bs)=if e n=true then ev e (cn r (bs.drop (bs.length / 2))) else ev e (cn r (bs.take (bs.length / 2))):=by
 rw [lK]
 by_cases q:cn r (bs.take (bs.length / 2))=cn r (bs.drop (bs.length / 2))
 . rw [if_pos q,q]
   split <;> rfl
 . rw [if_neg q]
   rfl
theorem jT (n:Nat):2 ^ (n+1) / 2=2 ^ n:=by rw [Nat.pow_succ]; omega
theorem kZ (f:Bool->Bool->Bool) (e:Str->Bool):∀(names:List Str) (bs cs:List Bool),bs.length=2 ^ names.length->cs.length=2 ^ names.length->ev e (cn names (List.zipWith f bs cs))=f (ev e (cn names bs)) (ev e (cn names cs))
 | [],bs,cs,h1,h2=>by
  match bs,cs,h1,h2 with
  | [b],[c],_,_=>rfl
 | n::r,bs,cs,h1,h2=>by
  rw [List.length_cons] at h1 h2
  have hl:(List.zipWith f bs cs).length=bs.length:=by rw [List.length_zipWith,h1,h2,Nat.min_self]
  have hp:=jT r.length
  have hq:=Nat.pow_succ 2 r.length
  rw [kY,kY,kY,hl,h1,h2,hp,List.drop_zipWith,List.take_zipWith]
  have i1:=kZ f e r (bs.drop (2 ^ r.length)) (cs.drop (2 ^ r.length)) (by rw [List.length_drop]; omega) (by rw [List.length_drop]; omega)
  have i2:=kZ f e r (bs.take (2 ^ r.length)) (cs.take (2 ^ r.length)) (by rw [List.length_take]; omega) (by rw [List.length_take]; omega)
  rw [i1,i2]
  split <;> rfl
theorem oI (e:Str->Bool):∀(names:List Str) (bs:List Bool),bs.length=2 ^ names.length->ev e (cn names (bs.map not)) = !ev e (cn names bs)
 | [],bs,h1=>by
  match bs,h1 with
  | [b],_=>rfl
 | n::r,bs,h1=>by
  rw [List.length_cons] at h1
  have hp:=jT r.length
  have hq:=Nat.pow_succ 2 r.length
  rw [kY,kY,List.length_map,h1,hp,← List.map_drop,← List.map_take]
  have i1:=oI e r (bs.drop (2 ^ r.length)) (by rw [List.length_drop]; omega)
  have i2:=oI e r (bs.take (2 ^ r.length)) (by rw [List.length_take]; omega)
  rw [i1,i2]
  split <;> rfl
def eF (d:Nat):Sp:=λvs H Q _=>∃(u v:V) (t t':Tr),vs=[u,v]/\aX H t u/\aX H t' v/\t.dep<d/\Q (.bl (decide (t=t'))) H
section
variable {P:Program}{w:World}{K:W.Frag}{mg:Str->Option Value}{base:Heap}
abbrev gb:List Str:=["_law_found", "_law_due"]
theorem E2:aQ gb gb (aj fZ):=⟨rfl,rfl,rfl,by decide +kernel,rfl,by decide +kernel,by decide +kernel⟩
theorem oJ {f:Addr}{fd:FuncData}{d k:Nat}(F:bY K "_law_same_tree" "_law_same_tree" fZ f fd) (T:fQ mg) (G:av P w K mg base aH k f fd gb (eF d)) (mS:mg "_law_same_tree" = some (.ref f)) (bS:Binds K fd gb []):av P w K mg base aH (k+1) f fd gb (eF (d+1)):=by
 refine F.ok E2 (λvs H Q E h=>?_) (λcdv A outer s H vs Q E hr h=>?_)
 . obtain ⟨u,v,t,t',rfl,_⟩:=h
   rfl
 . obtain ⟨u,v,t,t',rfl,hu,hv,hd,kk⟩:=h
   refine ⟨_,ae (bf (PW.pt (i0 (cT (aO cM (by rfl) T.isi PyProof.Rows.boot_isinstance (aa (pv 1) (aa (fj (v:=.ty "bool") (by rfl) T.bool PyProof.Rows.boot_bool rfl) ab))))
    (jW (cT (aO cM (by rfl) T.isi PyProof.Rows.boot_isinstance (aa (pv 0) (aa (fj (v:=.ty "bool") (by rfl) T.bool PyProof.Rows.boot_bool rfl) ab)))))))
    (aq (aJ (jX (aO cM (by rfl) T.isi PyProof.Rows.boot_isinstance (aa (pv 1) (aa (fj (v:=.ty "bool") (by rfl) T.bool PyProof.Rows.boot_bool rfl) ab)))
     (jX (aO cM (by rfl) T.isi PyProof.Rows.boot_isinstance (aa (pv 0) (aa (fj (v:=.ty "bool") (by rfl) T.bool PyProof.Rows.boot_bool rfl) ab))) (mW (i5 dj (pv 0) (pv 1) (bp _))))))) aN)
    (ae (bf (PW.pt (i0 (eK (cT (aO cM (by rfl) T.isi PyProof.Rows.boot_isinstance (aa (pv 0) (aa (fj (v:=.ty "tuple") (by rfl) T.tuple PyProof.Rows.boot_tuple rfl) ab)))))
     (i0 (bq vP (aO aP (by rfl) T.len PySem.boot_len (aa (pv 0) ab)) af (bp _))
     (i0 (eK (cT (aO cM (by rfl) T.isi PyProof.Rows.boot_isinstance (aa (aM (r:=cm K) bo (pv 0) af (λ_ _=>rfl)) (aa (fj (v:=.ty "str") (by rfl) T.str PyProof.Rows.boot_str rfl) ab)))))
     (jW (bq vP (aM (r:=cm K) bo (pv 0) af (λ_ _=>rfl)) (aM (r:=cm K) bo (pv 1) af (λ_ _=>rfl)) (bp _)))))))
     (aq (aJ dJ)) aN)
    (aq (aJ (jX (az G hr rfl mS F.kp bS .nil aw (aa (aM (r:=cm K) bo (pv 0) af (λ_ _=>rfl)) (aa (aM (r:=cm K) bo (pv 1) af (λ_ _=>rfl)) ab)))
     (mW (az G hr rfl mS F.kp bS .nil aw (aa (aM (r:=cm K) bo (pv 0) af (λ_ _=>rfl)) (aa (aM (r:=cm K) bo (pv 1) af (λ_ _=>rfl)) ab)))))))),?_⟩
   have fin:∀{b:Bool},(b=true ↔ t=t')->Q (.bl b) H:=λ{b} hb=>by
    rw [show b=decide (t=t') by rw [Bool.eq_iff_iff,hb,decide_eq_true_iff]]
    exact kk
   cases t' with
   | leaf c'=>
    cases (show v=.bl c' from hv)
    refine ⟨_,rfl,_,_, "bool",true,rfl,.bl _,rfl,_,rfl,lC (lC ?_)⟩
    refine ⟨_,rfl,_,_, "bool",true,rfl,.bl _,rfl,_,rfl,lC ?_⟩
    cases t with
    | leaf c=>
     cases (show u=.bl c from hu)
     refine ⟨_,rfl,_,_, "bool",true,rfl,.bl _,rfl,_,rfl,lC ⟨_,rfl,_,rfl,rfl,fin ?_⟩⟩
     rw [decide_eq_true_iff]
     exact ⟨λz=>(by cases z; rfl),λz=>(by cases z; rfl)⟩
    | node n l r=>
     obtain ⟨a,vl,vr,rfl,ha,_,_⟩:=hu
     exact ⟨_,rfl,_,_, "bool",false,rfl,.tup ha,rfl,_,rfl,gr (fin ⟨λz=>(by cases z),λz=>(by cases z)⟩)⟩
   | node n' l' r'=>
    obtain ⟨a',Ie,Ig,rfl,um,ko,yN⟩:=hv
    refine ⟨_,rfl,_,_, "bool",false,rfl,.tup um,rfl,_,rfl,gr ?_⟩
    cases t with
    | leaf c=>
     cases (show u=.bl c from hu)
     refine ⟨_,rfl,_,_, "bool",true,rfl,.bl _,rfl,_,rfl,lC ?_⟩
     exact ⟨_,rfl,_,_, "bool",false,rfl,.tup um,rfl,_,rfl,gr (fin ⟨λz=>(by cases z),λz=>(by cases z)⟩)⟩
    | node n l r=>
     obtain ⟨a,vl,vr,rfl,ha,hl,hR⟩:=hu
     have vj:(Tr.node n l r).dep=max l.dep r.dep+1:=rfl
     refine ⟨_,rfl,_,_, "bool",false,rfl,.tup ha,rfl,_,rfl,gr ?_⟩
     refine ⟨_,rfl,_,_, "tuple",true,rfl,.tup ha,rfl,_,rfl,gr ?_⟩
     refine ⟨_,rfl,a,_,rfl,.inr (aY.of ha),rfl,_,rfl,gr ?_⟩
     refine ⟨_,rfl,a,_,0,_,rfl,rfl,aY.of ha,aF (j:=0) rfl,_,_, "str",true,rfl,.str n,rfl,_,rfl,gr ?_⟩
     refine ⟨_,rfl,a,_,0,_,rfl,rfl,aY.of ha,aF (j:=0) rfl,_,rfl,a',_,0,_,rfl,rfl,aY.of um,aF (j:=0) rfl,rfl,_,rfl,?_⟩
     by_cases en:n=n'
     . subst en
       refine aZ (by rw [decide_eq_true rfl]; rfl) ?_
       refine ⟨_,rfl,a,_,1,_,rfl,rfl,aY.of ha,aF (j:=1) rfl,_,rfl,a',_,1,_,rfl,rfl,aY.of um,aF (j:=1) rfl,_,_,l,l',rfl,hl,ko,by omega,_,rfl,?_⟩
       by_cases el:l=l'
       . subst el
         refine bQ (decide_eq_true rfl) ?_
         refine ⟨_,rfl,a,_,2,_,rfl,rfl,aY.of ha,aF (j:=2) rfl,_,rfl,a',_,2,_,rfl,rfl,aY.of um,aF (j:=2) rfl,_,_,r,r',rfl,hR,yN,by omega,fin ?_⟩
         rw [decide_eq_true_iff]
         exact ⟨λz=>(by rw [z]),λz=>(by injection z)⟩
       . refine aZ (decide_eq_false el) (fin ?_)
         exact ⟨λz=>(nomatch z),λz=>absurd (by injection z) el⟩
     . refine bQ (by rw [decide_eq_false (λz=>en (V.str.inj z))]; rfl) (fin ⟨λz=>(nomatch z),λz=>absurd (by injection z) en⟩)
def gJ (d:Nat):Sp:=λvs H Q _=>∃(p q:Addr) (names:List Str) (bs:List Bool),vs=[.ref p,.ref q]/\H p=some (.lst (names.map V.str))/\H q=some (.lst (bs.map bV))/\names.length<d/\names.length<=8/\bs.length=2 ^ names.length/\
 ∀(v:V) (H':Hp),ak H H'->aX H' (cn names bs) v->Q v H'
abbrev Jc:List Str:=["_law_names", "_law_bits_here", "_law_half", "_law_low", "_law_high"]
abbrev jv:List Str:=["_law_names", "_law_bits_here"]
theorem rE:aQ Jc jv (aj fX):=⟨rfl,rfl,rfl,by decide +kernel,rfl,by decide +kernel,by decide +kernel⟩
theorem oK {xs:List V}{k:Nat}(h:k<=xs.length):cy xs (some (k:Int)) none=xs.drop k:=by
 unfold cy
 rw [HT.pN,HT.nB,Nat.min_eq_left h]
 exact List.take_of_length_le (by rw [List.length_drop]; exact Nat.le_refl _)
theorem zm {xs:List V}{k:Nat}(h:k<=xs.length):cy xs none (some (k:Int))=xs.take k:=by
 unfold cy
 rw [HT.pN,HT.nB,Nat.min_eq_left h]
 rfl
theorem vn {f fS:Addr}{fd dS:FuncData}{d k:Nat}(F:bY K "_law_canon" "_law_canon" fX f fd) (O2:fQ mg) (G:av P w K mg base aH (k+9) f fd jv (gJ d)) (mC:mg "_law_canon" = some (.ref f)) (bC:Binds K fd jv [])
 (gS:av P w K mg base aH 9 fS dS gb (eF 9)) (mS:mg "_law_same_tree" = some (.ref fS)) (kS:W.keepIn K (.ref fS)=true) (bS:Binds K dS gb []):av P w K mg base aH (k+9+1) f fd jv (gJ (d+1)):=by
 refine F.ok rE (λvs H Q E h=>?_) (λcdv A outer s H vs Q E hr h=>?_)
 . obtain ⟨p,q,names,bs,rfl,_⟩:=h
   rfl
 . obtain ⟨p,q,names,bs,rfl,hp,hq,hd,n8,hlen,kk⟩:=h
   have hu:=i9 hr
   have Jd:=hr.mono (Nat.le_add_left 9 k)
   refine ⟨_,ae (bf (bq (yM (Nat.lt_of_succ_lt hu)) (pv 0) (dW ab) (bp _)) (aq (aJ (i5 dj (aM (r:=eu K) br (pv 1) af (λ_ _=>rfl)) af (bp _)))) aN)
    (ae (ax (i:=2) rE.nd rfl (Or.inl rfl) (aG gw (aO aP (by rfl) O2.len PySem.boot_len (aa (pv 1) ab)) af))
    (ae (ax (i:=3) rE.nd rfl (Or.inl rfl) (az G hr rfl mC F.kp bC .nil aw (aa (cF gx (pv 0) (cK af) dv) (aa (cF gx (pv 1) dv (cK (pv 2))) ab))))
    (ae (ax (i:=4) rE.nd rfl (Or.inl rfl) (az G hr rfl mC F.kp bC .nil aw (aa (cF gx (pv 0) (cK af) dv) (aa (cF gx (pv 1) (cK (pv 2)) dv) ab))))
    (ae (bf (cT (az gS Jd rfl mS kS bS .nil aw (aa (pv 3) (aa (pv 4) ab)))) (aq (aJ (pv 3))) aN)
    (aq (aJ (eM (aa (aM (r:=eu K) br (pv 0) af (λ_ _=>rfl)) (aa (pv 3) (aa (pv 4) ab)))))))))),?_⟩
   refine ⟨_,rfl,(by show 0<=sizeLine; decide),λe0 Je=>?_⟩
   have s1:ak H (upd H e0 (.lst [])):=ak.aA Je
   have q1:(upd H e0 (.lst [])) e0=some (.lst []):=ag
   generalize upd H e0 (.lst [])=H1 at s1 q1 ⊢
   refine ⟨p,e0,_,rfl,rfl,ay.of (s1 _ _ hp),ay.of q1,_,rfl,?_⟩
   cases names with
   | nil=>
    match bs,hlen with
    | [b],_=>
     refine bQ rfl ⟨_,rfl,q,_,0,_,rfl,rfl,ay.of (s1 _ _ hq),aF (j:=0) rfl,rfl,kk _ H1 s1 ?_⟩
     cases b <;> rfl
   | cons n r=>
    rw [List.length_cons] at hd n8 hlen
    have Jf:=jT r.length
    have LR:=Nat.pow_succ 2 r.length
    have hh:bs.length / 2=2 ^ r.length:=by rw [hlen,Jf]
    refine aZ rfl ⟨_,rfl,q,_,rfl,.inl (ay.of (s1 _ _ hq)),_,_,rfl,rfl,⟨by decide,by decide⟩,?_⟩
    have eh:V.int ((((bs.map bV).length:Nat):Int) / 2)=V.int ((2 ^ r.length:Nat):Int):=by rw [List.length_map,← hh]; rfl
    show cD 2 (V.int ((((bs.map bV).length:Nat):Int) / 2)) _ _ _
    rw [eh]
    have hle:2 ^ r.length<=(bs.map bV).length:=by rw [List.length_map]; omega
    have n1:cy ((n::r).map V.str) (some 1) none=r.map V.str:=oK (k:=1) (by rw [List.length_map,List.length_cons]; omega)
    have Dc:r.length<=8:=by omega
    refine ⟨_,rfl,_,rfl,p,_,rfl,ay.of (s1 _ _ hp),λp2 iL=>?_⟩
    rw [n1]
    have s2:ak H1 (upd H1 p2 (.lst (r.map V.str))):=ak.aA iL
    have q2:(upd H1 p2 (.lst (r.map V.str))) p2=some (.lst (r.map V.str)):=ag
    show mr _ _ _ (upd H1 p2 (.lst (r.map V.str))) _
    generalize upd H1 p2 (.lst (r.map V.str))=H2 at s2 q2 ⊢
    have mh:=s1.trans s2
    refine ⟨_,rfl,_,rfl,_,rfl,q,_,rfl,ay.of (mh _ _ hq),λb2 Jg=>?_⟩
    rw [zm hle,← List.map_take]
    have s3:ak H2 (upd H2 b2 (.lst ((bs.take (2 ^ r.length)).map bV))):=ak.aA Jg
    have q3:(upd H2 b2 (.lst ((bs.take (2 ^ r.length)).map bV))) b2=some (.lst ((bs.take (2 ^ r.length)).map bV)):=ag
    refine ⟨p2,b2,r,bs.take (2 ^ r.length),rfl,s3 _ _ q2,q3,by omega,Dc,by rw [List.length_take]; omega,λv1 H4 s4 r1=>?_⟩
    have uo:=(mh.trans s3).trans s4
    refine ⟨_,rfl,_,rfl,p,_,rfl,ay.of (uo _ _ hp),λp5 tS=>?_⟩
    rw [n1]
    have s5:ak H4 (upd H4 p5 (.lst (r.map V.str))):=ak.aA tS
    have q5:(upd H4 p5 (.lst (r.map V.str))) p5=some (.lst (r.map V.str)):=ag
    show mr _ _ _ (upd H4 p5 (.lst (r.map V.str))) _
    generalize upd H4 p5 (.lst (r.map V.str))=H5 at s5 q5 ⊢
    have Jh:=uo.trans s5
    refine ⟨_,rfl,_,rfl,_,rfl,q,_,rfl,ay.of (Jh _ _ hq),λb6 Ji=>?_⟩
    rw [oK hle,← List.map_drop]
    have s6:ak H5 (upd H5 b6 (.lst ((bs.drop (2 ^ r.length)).map bV))):=ak.aA Ji
    have q6:(upd H5 b6 (.lst ((bs.drop (2 ^ r.length)).map bV))) b6=some (.lst ((bs.drop (2 ^ r.length)).map bV)):=ag
    refine ⟨p5,b6,r,bs.drop (2 ^ r.length),rfl,s6 _ _ q5,q6,by omega,Dc,by rw [List.length_drop]; omega,λv2 H7 s7 r2=>?_⟩
    have De:=(s5.trans s6).trans s7
    have ur:=uo.trans De
    have zo:=r1.keep (bF De)
    have c1:=bG (cj r (bs.take (2 ^ r.length)))
    refine ⟨_,rfl,_,rfl,_,_,_,_,rfl,zo,r2,by omega,_,rfl,?_⟩
    have ec:=lK n r bs
    rw [hh] at ec
    by_cases e:cn r (bs.take (2 ^ r.length))=cn r (bs.drop (2 ^ r.length))
    . refine bQ (decide_eq_true e) ⟨_,rfl,kk v1 H7 ur ?_⟩
      rw [ec,if_pos e]
      exact zo
    . refine aZ (decide_eq_false e) ?_
      refine ⟨_,rfl,p,_,0,_,rfl,rfl,ay.of (ur _ _ hp),aF (j:=0) rfl,_,rfl,_,rfl,(by show 3<=sizeLine; decide),λt ht=>?_⟩
      have s8:ak H7 (upd H7 t (.tup [.str n,v1,v2])):=ak.aA ht
      refine kk (.ref t) _ (ur.trans s8) ?_
      rw [ec,if_neg e]
      exact ⟨t,v1,v2,rfl,ag,zo.keep (bF s8),r2.keep (bF s8)⟩
end
end Gen
namespace PySem
section
theorem uu:typeLookup (.type "list_reverseiterator") "__len__" = pure none:=by rw [typeLookup_type,builtinLookup_eq_fast]; kernel_rfl
theorem vo:typeLookup (.type "list_reverseiterator") "__length_hint__" = pure (some (.builtin "list_reverseiterator.__length_hint__")):=by rw [typeLookup_type,builtinLookup_eq_fast]; kernel_rfl
variable {prog:Program}{w:World}{A:Around}{s:Shared}{R:Result->Shared->Prop}
variable {I:Addr}{fp wr:List Addr}{G:Array GenState->Array GenState->Prop}{n:Nat}{P:Nat->Value->Prop}{St:Nat->Shared->Prop}
theorem rF (W:WalksS prog w A.in1 I fp wr G n P St) (hT:∀i s,St i s->s.TypeIs (.ref I) "list_reverseiterator") (S:Addr) (res:Value) (c₀:Nat) (gd:St 0 s) (oM:S∉fp) (hI:I∈fp)
 (hS:s.heap.get? S=some { cls:=.type "list",data:=.seq #[] c₀ })
 (hR:∀s' cv c',Moved (S::wr) G s s'->s'.heap.get? S=some { cls:=.type "list",dict:=none,data:=.seq cv c',slots:=#[] } -> ItemsOf P cv n->R (.ok (.ret res)) s') (hn:n<=sizeLine) :
 wpAny (model prog w) A.in1 (Builtin.List.listExtendWith (.ref S) (.ref I) res)
  (λfin s'=>match fin with | .done f=>R (.ok f) s' | .again c'=>c'.quiet=true/\codeAny (model prog w) A c' R s') (λe s'=>R (.error e) s') s:=by
 have Jj:S≠I:=λe=>oM (e ▸ hI)
 unfold Builtin.List.listExtendWith
 refine wpAny_bind (wpAny_typeOf (hT 0 _ gd) ?_)
 have h1:Builtin.List.listSameRef (.ref S) (.ref I)=false:=by simp [Builtin.List.listSameRef,Jj]
 have h2:(Value.type "list_reverseiterator" == Value.type "list")=false:=by decide
 have h3:(Value.type "list_reverseiterator" == Value.type "tuple")=false:=by decide
 rw [if_neg (by rw [h1]; decide)]
 refine wpAny_bind (W.self 0 _ _ _ gd ?_)
 refine wpAny_bind (wpAny_holding ?_)
 unfold Builtin.List.listLengthHint
 refine wpAny_bind (wpAny_specialOf (hT 0 _ gd) uu ?_)
 show wpAny _ A.in1 (specialOf (Value.ref I) (Str.ofString "__length_hint__") >>= _) _ _ _
 refine wpAny_bind (wpAny_specialOf (hT 0 _ gd) vo ?_)
 generalize Df:("list_reverseiterator.__length_hint__" : String)=Jk
 wp_delta
 rw [show splitId Jk=some ("list_reverseiterator", "__length_hint__") from by subst Df; decide +kernel]
 subst Df
 refine wpAny_bind (wpAny_isInstance (b:=true) (hT 0 _ gd) (by rw [isSubtype_type]; kernel_rfl) ?_)
 refine wpAny_pure ?_
 rw [if_neg (by decide)]
 exact wpAny_pure ⟨plainId_quiet F.plain_extend_loop _,codeAny_extend_loopS W hn _ oM _ n 0 _ _ _ rfl (Nat.zero_le _) gd hS (ItemsOf.nil P) λs' cv c' hm oN ia=>hR s' cv c' hm oN ia⟩
theorem vp (W:WalksS prog w A.in1 I fp wr G n P St) (hT:∀i s,St i s->s.TypeIs (.ref I) "list_reverseiterator") (S:Addr) (gd:St 0 s) (oM:S∉fp) (hI:I∈fp)
 (hS:s.heap.get? S=some { cls:=.type "list",data:=.seq #[] })
 (hR:∀s' cv c',Moved (S::wr) G s s'->s'.heap.get? S=some { cls:=.type "list",dict:=none,data:=.seq cv c',slots:=#[] } -> ItemsOf P cv n->R (.ok (.ret .none)) s') (hn:n<=sizeLine) :
 wpAny (model prog w) A.in1 (Builtin.«list.__init__» ⟨[.ref S,.ref I],[]⟩)
  (λfin s'=>match fin with | .done f=>R (.ok f) s' | .again c'=>c'.quiet=true/\codeAny (model prog w) A c' R s') (λe s'=>R (.error e) s') s:=by
 show wpAny _ A.in1 (do let old ← Builtin.List.listItems (.ref S); Builtin.List.listUpdate (.ref S) (λ_=>#[]); letGo old.toList.reverse; Builtin.List.listExtendWith (.ref S) (.ref I) .none) _ _ s
 refine wpAny_bind ?_
 unfold Builtin.List.listItems
 refine wpAny_bind (wpAny_seqItems hS rfl (wpAny_pure ?_))
 show wpAny _ A.in1 (updateSeq S (λ_=>#[]) >>= λ_=>letGo (#[]:Array Value).toList.reverse >>= λ_=>Builtin.List.listExtendWith (.ref S) (.ref I) .none) _ _ s
 refine wpAny_bind (wpAny_updateSeq hS rfl ?_)
 have Jl:=Heap.get?_update_self (Obj.mapSeq (λ_=>(#[]:Array Value))) hS rfl
 have Dg:∀b o,b≠S->s.heap.get? b=some o->(s.heap.update S (Obj.mapSeq (λ_=>(#[]:Array Value)))).get? b=some o:=
  λb o hb e=>(Heap.get?_update_other _ _ (Ne.symm hb)).trans e
 refine wpAny_bind (wpAny_letGo ?_)
 refine rF W hT S .none _ (W.frame 0 s _ s.toks gd (Nat.le_refl _) λb hb o e=>Dg b o (λh=>oM (h ▸ hb)) e) oM hI Jl (λs' cv c' hm oN ia=>?_) hn
 exact hR s' cv c' (Moved.trans W.gtrans ((Moved.refl W.grefl).then_heap (Nat.le_refl _) λb o hb e=>Dg b o (λh=>hb (h ▸ List.mem_cons_self)) e) hm) oN ia
theorem vq {E:Value->Shared->Prop}{Q:Value->Shared->Prop}(W:WalksS prog w A.in1.in1 I fp wr G n P St) (hT:∀i s,St i s->s.TypeIs (.ref I) "list_reverseiterator") (gd:St 0 s) (Jm:∀b∈fp,b<s.heap.objs.size) (hI:I∈fp)
 (hQ:∀s' cv c',Moved (s.heap.objs.size::wr) G { s with heap:=s.heap.push { cls:=.type "list",data:=.seq #[] } } s'->
  s'.heap.get? s.heap.objs.size=some { cls:=.type "list",dict:=none,data:=.seq cv c',slots:=#[] } -> ItemsOf P cv n->Q (.ref s.heap.objs.size) s') (hn:n<=sizeLine) :
 wpAny (model prog w) A (call (.type "list") [.ref I]) Q E s:=by
 have oM:s.heap.objs.size∉fp:=λhm=>Nat.lt_irrefl _ (Jm _ hm)
 refine callType_codes (Q₁:=λobj bw=>obj=.ref s.heap.objs.size/\bw = { s with heap:=s.heap.push { cls:=.type "list",data:=.seq #[] } }) F.called_list (F.typeCall_list_1 _) F.entry_list_init
  (code_list_new _ ⟨rfl,rfl⟩) λobj bw g6=>?_
 obtain ⟨rfl,rfl⟩:=g6
 have hS:(s.heap.push { cls:=.type "list",data:=.seq #[] }).get? s.heap.objs.size=some { cls:=.type "list",data:=.seq #[] }:=Heap.get?_push_size _ rfl
 refine ⟨⟨_,hS,rfl⟩,F.args_list_init_2 _ _,vp W hT _ (W.frame 0 s _ s.toks gd (Nat.le_refl _) λb _ o e=>Heap.get?_push_of_some _ e) oM hI hS (λs' cv c' hm oN ia=>?_) hn⟩
 exact ⟨rfl,hQ s' cv c' hm oN ia⟩
end
end PySem
namespace L2
open PySem PySem.Spec PyProof.Rows
section
variable {X:Cx}
theorem oP:∀{xs:List V}{us:List Value},Vals xs us->Vals xs.reverse us.reverse
 | _,_,.nil=>.nil
 | _,_,.cons h t=>by
  rw [List.reverse_cons,List.reverse_cons]
  exact (oP t).append (.cons h .nil)
def E3 (K:W.Frag) (ta:TA):TE:=λσ H Q=>ta σ H λvs H1=>∃p ys,vs=[.ref p]/\ay K H1 p ys/\∀l,H1 l=none->Q (.ref l) (upd H1 l (.lst ys.reverse))
theorem zp {a:Expr}{ta:TA}{p1 p2 pos oQ:Pos}(Jn:Gl X "list") (Jo:X.mg "list" = none) (Jp:Gl X "reversed") (Jq:X.mg "reversed" = none) (hc:X.calm=true) (ha:PA X [a] ta)
 (hs:starEach [Expr.Call (.Name "reversed" p2) [a] [] oQ] X.env=(false,eval (Expr.Call (.Name "reversed" p2) [a] [] oQ) X.env)::starEach [] X.env:=by rfl) (iq:(backTo pos (starEach [] X.env)).any (·.1)=false:=by rfl)
 (iG:starEach [a] X.env=(false,eval a X.env)::starEach [] X.env:=by rfl) (iL:(backTo oQ (starEach [] X.env)).any (·.1)=false:=by rfl) :
 PE X (.Call (.Name "list" p1) [.Call (.Name "reversed" p2) [a] [] oQ] [] pos) (E3 X.K ta):=by
 intro pins s σ H Q I h
 refine wpAny_Call_Name_kw (eJ I Jn Jo PyProof.Rows.boot_list ?_ (by decide) (by decide))
 refine PyProof.Rows.callWith_type1 ?_ hs iq
 rw [hs]
 show wpAny _ _ (spliced ((false,eval _ X.env)::backTo pos (starEach [] X.env))) _ _ s
 refine Calls.spliced_cons ?_
 refine Call_ (eJ I Jp Jq PyProof.Rows.boot_reversed (PyProof.Rows.callWith_type1 (aE (ha oQ pins s σ H _ I h) λus s1 ⟨vs,H1,I1,r1,q1⟩=>?_) iG iL))
 obtain ⟨p,ys,e,hp,q⟩:=q1
 subst e
 obtain ⟨u,rfl,ru⟩:=vals1 r1
 cases (show u=Value.ref p from ru)
 obtain ⟨its,rv,pl,hz⟩:=I1.list hp
 have hl:=pl.isList
 have fF:p<s1.heap.objs.size:=by obtain ⟨_,e,_⟩:=hl; exact Heap.lt_size e
 refine call_reversed_list hl (Calls.spliced_nil ?_)
 have W:=Walks.listRev (prog:=X.prog) (w:=X.w) (A:=X.A.in1.in1) (by show X.A.handled=none; exact I1.ok.hd hc) s1.heap.objs.size p (Nat.ne_of_lt fF) its.toArray
 have hsz:(s1.heap.push (revObj p ((its.toArray.size:Int)-1))).objs.size=s1.heap.objs.size+1:=by simp [Heap.push]
 have hle:its.toArray.size<=sizeLine:=by rw [List.size_toArray,← rv.length]; exact hz
 refine vq W.toS (λi s x=>x.2.1.typeIs) ⟨Nat.zero_le _,⟨_,Heap.get?_push_size _ rfl,rfl,by simp [revObj]⟩,hl.at λo e=>Heap.get?_push_of_some _ e⟩ (λb hb=>?_) (by simp) (λs' cv c' hm oN ia=>?_) hle
 . show b<(s1.heap.push (revObj p ((its.toArray.size:Int)-1))).objs.size
   rw [hsz]
   simp only [List.mem_cons,List.not_mem_nil,or_false] at hb
   rcases hb with rfl | rfl
   . exact Nat.lt_succ_self _
   . exact Nat.lt_succ_of_lt fF
 . have hS'':s'.heap.get? (s1.heap.objs.size+1)=some { cls:=.type "list",dict:=none,data:=.seq cv c',slots:=#[] }:=by
    have:=oN
    rw [show (s1.heap.push (revObj p ((its.toArray.size:Int)-1))).objs.size=s1.heap.objs.size+1 from hsz] at this
    exact this
   have kk:∀b u,s1.heap.get? b=some u->s'.heap.get? b=some u:=λb u e=>by
    have hb:=Heap.lt_size e
    refine hm.heap b u (λvt=>?_) (Heap.get?_push_of_some _ (Heap.get?_push_of_some _ e))
    rcases List.mem_cons.mp vt with z | vt
    . exact absurd hb (by rw [z.trans hsz]; exact Nat.not_lt.mpr (Nat.le_succ _))
    . exact absurd hb (by rw [List.mem_singleton.mp vt]; exact Nat.lt_irrefl _)
   have ea:cv.toList=its.reverse:=by
    obtain ⟨i1,i2⟩:=ia
    have iA:cv.toList.length=its.length:=by rw [Array.length_toList,i1,List.size_toArray]
    refine List.ext_getElem (by rw [iA,List.length_reverse]) λj g1 g2=>?_
    have:=i2 j cv.toList[j] (by rw [← Array.getElem?_toList]; exact List.getElem?_eq_getElem g1)
    rw [List.size_toArray,List.getElem?_toArray] at this
    have hj:j<its.length:=by omega
    rw [List.getElem_reverse]
    rw [List.getElem?_eq_getElem (by omega)] at this
    exact (Option.some.inj this).symm
   have rr:Vals ys.reverse cv.toList:=by rw [ea]; exact oP rv
   rw [Moved.eq_with hm]
   refine ⟨.ref (s1.heap.objs.size+1),_,I1.laid (a:=s1.heap.objs.size+1) (t':=s'.toks) kk (Nat.le_succ _) (show aT X.prog X.w _ s'.heap _ (.lst ys.reverse) from ⟨by rw [List.length_reverse]; exact hz,cv.toList,c',rr,by simpa using hS''⟩),?_,q _ (I1.hok.fresh (Nat.le_succ _))⟩
   show Value.ref _=Value.ref _
   rw [hsz]
end
end L2
namespace Gen
open PySem L2
abbrev di:Stmt:=top 15
abbrev fo:Stmt:=top 16
abbrev jj:Stmt:=top 17
abbrev fq:Stmt:=top 18
theorem zq (i:Int):∃b:Bool,V.int (Builtin.bitAnd i 1)=bV b:=by
 by_cases h:0<=i
 . refine ⟨decide (i.toNat % 2=1),?_⟩
   rw [PyProof.Rows.bitAnd_pp h (by decide),show (1:Int).toNat=1 from rfl,Nat.and_one_is_mod]
   unfold bV
   rcases Nat.mod_two_eq_zero_or_one i.toNat with e | e <;> rw [e] <;> rfl
 . refine ⟨decide ((Builtin.bitNot i).toNat % 2=0),?_⟩
   rw [PyProof.Rows.bitAnd_np h (by decide),show (1:Int).toNat=1 from rfl,Nat.and_comm,Nat.and_one_is_mod]
   unfold bV
   rcases Nat.mod_two_eq_zero_or_one (Builtin.bitNot i).toNat with e | e <;> rw [e] <;> rfl
theorem Bi (i:Int):∃d:Nat,d<2/\Builtin.bitAnd i 1=(d:Int):=by
 obtain ⟨b,h⟩:=zq i
 have:=V.int.inj h
 cases b
 . exact ⟨0,by decide,this⟩
 . exact ⟨1,by decide,this⟩
theorem xD {x:Str}(h:cQ x):PyData.strOk x=true:=by
 unfold PyData.strOk
 rw [Array.all_eq_true']
 refine λc hc=>decide_eq_true ?_
 have:=jn.mp (h.2.2 c (Array.mem_toList_iff.mpr hc))
 omega
def oR (K:W.Frag):Sp:=λvs H Q _=>∃(a:Addr) (ns:List Int) (k:Int),vs=[.ref a,.int k]/\ay K H a (ns.map V.int)/\0<=k/\k<=1000/\∀v:Int,Q (.int v) H
def uv:Sp:=λvs H Q _=>∃(x:Int) (n:Nat),vs=[.int x,.int (n:Int)]/\n<=8/\∀(q:Addr) (bs:List Bool) (H':Hp),ak H H'->H q=none->H' q=some (.lst (bs.map bV))->bs.length=2 ^ n->Q (.ref q) H'
def oS:Sp:=λvs H Q _=>∃(q:Addr) (bs:List Bool) (n:Nat),vs=[.ref q,.int (n:Int)]/\n<=8/\H q=some (.lst (bs.map bV))/\bs.length=2 ^ n/\∀(r:Addr) (cs:List Bool) (H':Hp),ak H H'->H r=none->H' r=some (.lst (cs.map bV))->cs.length=2 ^ n->Q (.ref r) H'
def qu (K:W.Frag):Sp:=λvs H Q _=>∃(a:Addr) (ns:List Int),vs=[.ref a]/\ay K H a (ns.map V.int)/\∀(l:Addr) (names:List Str) (H':Hp),ak H H'->H l=none->Ord H' l names->Q (.ref l) H'
theorem E4:(["_law_place", "_law_number_here"]:List Str).Nodup:=by decide +kernel
theorem E5:(["_law_place"]:List Str).Nodup:=by decide +kernel
theorem oT {n:Nat}(h:n<=8):2 ^ n<=256:=Nat.pow_le_pow_right (by decide) h
theorem pow_int (n:Nat):(1:Int)*2 ^ ((n:Int)).toNat=((2 ^ n:Nat):Int):=by rw [Int.one_mul,Int.toNat_natCast]; exact (Int.natCast_pow 2 n).symm
section
variable {P:Program}{w:World}{K:W.Frag}{mg:Str->Option Value}{base:Heap}
theorem rG:aQ ["_law_script", "_law_k", "_law_number_here"] ["_law_script", "_law_k"] (aj fo):=⟨rfl,rfl,rfl,by decide +kernel,rfl,by decide +kernel,by decide +kernel⟩
theorem uw {f fC fR:Addr}{fd dC dR:FuncData}(F:bY K "_law_number" "_law_number" fo f fd)
 (gC:av P w K mg base aH 1 fC dC ["_law_script", "_law_k"] (kq K)) (mC:mg "_law_cell_at" = some (.ref fC)) (kC:W.keepIn K (.ref fC)=true) (bC:Binds K dC ["_law_script", "_law_k"] [])
 (gR:av P w K mg base aH 2 fR dR ["_law_cell", "_law_k"] kr) (mR:mg "_law_rich" = some (.ref fR)) (kR:W.keepIn K (.ref fR)=true) (bR:Binds K dR ["_law_cell", "_law_k"] []):av P w K mg base aH 3 f fd ["_law_script", "_law_k"] (oR K):=by
 refine F.ok rG (λvs H Q E h=>?_) (λcdv A outer s H vs Q E hr h=>?_)
 . obtain ⟨a,ns,k,rfl,_⟩:=h
   rfl
 . obtain ⟨a,ns,k,rfl,ha,k0,k1,kk⟩:=h
   have dc:ba 1 _:=hr.mono (by decide)
   refine ⟨_,ae (ax (i:=2) rG.nd rfl (Or.inl rfl) (az gC dc rfl mC kC bC .nil aw (aa (pv 0) (aa (pv 1) ab))))
    (ae (bf (bq dj (aG fG (az gC dc rfl mC kC bC .nil aw (aa (pv 0) (aa af ab))) af) af (bp _)) (aq (ax (i:=2) rG.nd rfl (Or.inl rfl) (az gR hr rfl mR kR bR .nil aw (aa (pv 2) (aa (pv 1) ab))))) aN)
    (aq (aJ (pv 2)))),?_⟩
   refine ⟨_,rfl,_,rfl,a,ns,k,rfl,ha,k0,λx=>?_⟩
   refine ⟨_,rfl,a,ns,0,rfl,ha,by decide,λc=>⟨_,_,rfl,rfl,(by show (0:Int)<2; decide),rfl,_,rfl,?_⟩⟩
   exact jG (λ_=>⟨_,rfl,_,rfl,_,k,rfl,k0,k1,λz=>⟨_,rfl,kk z⟩⟩) (λ_=>⟨_,rfl,kk x⟩)
abbrev Jr:List Str:=["_law_number_here", "_law_many", "_law_bits_here", "_law_k"]
abbrev ux:List Str:=["_law_number_here", "_law_many"]
theorem rH:aQ Jr ux (aj jj):=⟨rfl,rfl,rfl,by decide +kernel,rfl,by decide +kernel,by decide +kernel⟩
theorem xE {f:Addr}{fd:FuncData}(F:bY K "_law_bits" "_law_bits" jj f fd) (O:Own mg):av P w K mg base aH 1 f fd ux uv:=by
 refine F.ok rH (λvs H Q E h=>?_) (λcdv A outer s H vs Q E hr h=>?_)
 . obtain ⟨x,n,rfl,_⟩:=h
   rfl
 . obtain ⟨x,n,rfl,n8,kk⟩:=h
   refine ⟨_,ae (bf (bq qJ (pv 1) af (bp _)) (aq (aJ (dk (N:=["_law_place", "_law_number_here"]) (js:=[none,some 0]) (by kernel_rfl) rfl (cp rfl O.range (aa (aG sv af (pv 1)) ab)) (λ_ _ _ _ _ _=>aU (i:=0) E4 rfl (Or.inl rfl) (.inr rfl)) (λ_ _ _ _ _ _=>bz)
    (λ_ _ _ _ _ _=>aG nj (aG sx (pv 1) (pv 0)) af)))) aN)
    (ae (qV (i:=2) (N:=["_law_place"]) (js:=[none]) rH.nd rfl rfl (by kernel_rfl) rfl (cp rfl O.range (aa (aG sv af (pv 1)) ab)) (λ_ _ _ _ _ _=>aU (i:=0) E5 rfl (Or.inl rfl) (.inr rfl)) (λ_ _ _ _ _ _=>bz)
     (λ_ _ _ _ _ _=>af))
    (ae (fz PassesOwn.never rfl (cp rfl O.range (aa af ab)) (aU (i:=3) rH.nd rfl (Or.inl rfl))
     (ae (rY af (rX (pv 2) (aG fG (pv 0) (aO aP (by rfl) O.len PySem.boot_len (aa (pv 2) ab))) set_list))
     (aq (ax (i:=0) rH.nd rfl (Or.inr rfl) (aG gw (pv 0) (aO aP (by rfl) O.len PySem.boot_len (aa (pv 2) ab)))))))
    (aq (aJ (pv 2))))),?_⟩
   have hp:=oT n8
   have Lp:0<2 ^ n:=Nat.two_pow_pos n
   have wB:=pow_int n
   have Js:∃j:Int,(1:Int)*2 ^ ((n:Int)).toNat=j /\ -(2 ^ 62)<=j/\j<2 ^ 62/\j.toNat=2 ^ n:=⟨_,wB,Int.le_trans (by decide : -(2 ^ 62)<=(0:Int)) (by omega),Int.lt_of_le_of_lt (by omega:((2 ^ n:Nat):Int)<=256) (by decide),by omega⟩
   obtain ⟨j,ej,j1,j2,j3⟩:=Js
   refine ⟨_,rfl,_,_,rfl,rfl,_,rfl,?_⟩
   refine jG (λ_=>?_) (λ_=>?_)
   . refine ⟨_,rfl,_,_,rfl,rfl,⟨by omega,by omega,by decide⟩,_,rfl,by rw [ej]; exact j1,by rw [ej]; exact j2,λD hD=>?_⟩
     rw [ej,j3]
     refine gi (2 ^ n) (λi acc σ H3=>(∃bs:List Bool,acc=bs.map bV/\bs.length=i)/\(∃u,σ=[u,some (.int x)])/\ak H H3) ⟨⟨[],rfl,rfl⟩,⟨none,rfl⟩,ak.aA hD⟩ ag ?_ ?_
     . rintro acc σ H3 cR ⟨⟨bs,rfl,lg⟩,_,s3⟩
       exact ⟨Nat.le_refl _,kk D bs H3 s3 hD cR lg⟩
     . rintro i acc σ H3 hi cR ⟨⟨bs,rfl,lg⟩,⟨u,rfl⟩,s3⟩
       refine ⟨hi,?_⟩
       rintro y H' ⟨rfl,rfl⟩
       refine eP ?_
       refine ⟨_,rfl,_,rfl,_,_,rfl,rfl,(by show (0:Int)<=0+(i:Int); omega),_,_,rfl,rfl,?_⟩
       obtain ⟨b,hb⟩:=zq (x / 2 ^ (0+(i:Int)).toNat)
       refine ⟨_,cR,(by rw [List.length_map]; exact small (by omega)),cG hi ag ⟨⟨bs++[b],by rw [List.map_append]; exact congrArg (bs.map bV++[·]) hb,by rw [List.length_append,lg]; rfl⟩,⟨_,rfl⟩,λc o hc=>?_⟩⟩
       rw [ai (ah hc hD)]
       exact s3 _ _ hc
   . refine ⟨_,rfl,_,_,rfl,rfl,⟨by omega,by omega,by decide⟩,_,rfl,by rw [ej]; exact j1,by rw [ej]; exact j2,λD hD=>?_⟩
     rw [ej,j3]
     refine gi (2 ^ n) (λi acc σ H3=>(∃bs:List Bool,acc=bs.map bV/\bs.length=i)/\(∃u,σ=[u])/\ak H H3) ⟨⟨[],rfl,rfl⟩,⟨none,rfl⟩,ak.aA hD⟩ ag ?_ ?_
     . rintro acc σ H3 cR ⟨⟨bs,rfl,lg⟩,_,s3⟩
       refine ⟨Nat.le_refl _,?_⟩
       refine ⟨_,rfl,by decide,by decide,du (n:=6) (λi σ Hi=>∃(y:Int) (v3:Option V) (cs:List Bool),σ=[some (.int y),some (.int (n:Int)),some (.ref D),v3]/\Hi D=some (.lst (cs.map bV))/\cs.length=2 ^ n/\ak H Hi) ⟨x,none,bs,rfl,cR,lg,s3⟩ ?_ ?_⟩
       . rintro i σ Hi hi ⟨y,v3,cs,rfl,lj,iN,si⟩
         have hlen:(((cs.map bV).length:Nat):Int)=((2 ^ n:Nat):Int):=by rw [List.length_map,iN]
         have l0:(0:Int)<(((cs.map bV).length:Nat):Int):=by rw [hlen]; omega
         have l1:(((cs.map bV).length:Nat):Int)<1073741824:=by rw [hlen]; omega
         have Dh:=Int.emod_nonneg y (Int.ne_of_gt l0)
         have LS:=Int.emod_lt_of_pos y l0
         refine ⟨_,rfl,_,rfl,_,rfl,D,_,rfl,.inl (ay.of lj),_,_,rfl,rfl,l0,D,_,_,(y % (((cs.map bV).length:Nat):Int)).toNat,rfl,rfl,lj,?_,?_⟩
         . unfold lZ
           rw [if_pos Dh,if_pos (by omega)]
         have q2:(upd Hi D (.lst ((cs.map bV).set (y % (((cs.map bV).length:Nat):Int)).toNat (.int 1)))) D=some (.lst ((cs.set (y % (((cs.map bV).length:Nat):Int)).toNat true).map bV)):=by rw [ag,List.map_set]; rfl
         have s2:ak H (upd Hi D (.lst ((cs.map bV).set (y % (((cs.map bV).length:Nat):Int)).toNat (.int 1)))):=λc o hc=>by rw [ai (ah hc hD)]; exact si _ _ hc
         generalize upd Hi D (.lst ((cs.map bV).set (y % (((cs.map bV).length:Nat):Int)).toNat (.int 1)))=H2 at q2 s2 ⊢
         have dw:(cs.set (y % (((cs.map bV).length:Nat):Int)).toNat true).length=2 ^ n:=by rw [List.length_set]; exact iN
         generalize cs.set (y % (((cs.map bV).length:Nat):Int)).toNat true=Jt at q2 dw
         refine ⟨_,rfl,_,rfl,D,_,rfl,.inl (ay.of q2),_,_,rfl,rfl,⟨by rw [List.length_map,dw]; omega,by rw [List.length_map,dw]; omega⟩,?_⟩
         exact ⟨_,_,Jt,rfl,q2,dw,s2⟩
       . rintro σ Hi ⟨y,v3,cs,rfl,lj,iN,si⟩
         exact ⟨_,rfl,kk D cs Hi si hD lj iN⟩
     . rintro i acc σ H3 hi cR ⟨⟨bs,rfl,lg⟩,⟨u,rfl⟩,s3⟩
       refine ⟨hi,?_⟩
       rintro y H' ⟨rfl,rfl⟩
       refine eP ?_
       refine ⟨_,cR,(by rw [List.length_map]; exact small (by omega)),cG hi ag ⟨⟨bs++[false],by rw [List.map_append]; rfl,by rw [List.length_append,lg]; rfl⟩,⟨_,rfl⟩,λc o hc=>?_⟩⟩
       rw [ai (ah hc hD)]
       exact s3 _ _ hc
abbrev Ju:List Str:=["_law_bits_here", "_law_many", "_law_found", "_law_place", "_law_spot", "_law_k"]
abbrev uy:List Str:=["_law_bits_here", "_law_many"]
theorem lL:aQ Ju uy (aj fq):=⟨rfl,rfl,rfl,by decide +kernel,rfl,by decide +kernel,by decide +kernel⟩
theorem uz {f:Addr}{fd:FuncData}(F:bY K "_law_turned" "_law_turned" fq f fd) (O:Own mg):av P w K mg base aH 1 f fd uy oS:=by
 refine F.ok lL (λvs H Q E h=>?_) (λcdv A outer s H vs Q E hr h=>?_)
 . obtain ⟨q,bs,n,rfl,_⟩:=h
   rfl
 . obtain ⟨q,bs,n,rfl,n8,hq,lg,kk⟩:=h
   refine ⟨_,ae (ax (i:=2) lL.nd rfl (Or.inl rfl) (dW ab))
    (ae (fz PassesOwn.never rfl (cp rfl O.range (aa (aO aP (by rfl) O.len PySem.boot_len (aa (pv 0) ab)) ab)) (aU (i:=3) lL.nd rfl (Or.inl rfl))
     (ae (ax (i:=4) lL.nd rfl (Or.inl rfl) af)
     (ae (fz PassesOwn.never rfl (cp rfl O.range (aa (pv 1) ab)) (aU (i:=5) lL.nd rfl (Or.inl rfl))
      (aq (ax (i:=4) lL.nd rfl (Or.inl rfl) (aG dg (aG dQ af (pv 4)) (aG nj (aG sx (pv 3) (pv 5)) af)))))
     (aq (lx (kd PySem.F.plainAttrs_list PySem.F.slot_list_append PySem.F.type_list_append gh (pv 2) (aa (aM (r:=eu K) br (pv 0) (pv 4) (λ_ _=>rfl)) ab)))))))
    (aq (aJ (pv 2)))),?_⟩
   have hp:=oT n8
   refine ⟨(by show 0<=sizeLine; decide),λD hD=>?_⟩
   have LU:q≠D:=ah hq hD
   refine ⟨_,rfl,q,_,rfl,.inl (ay.of ((ak.aA hD) _ _ hq)),?_⟩
   rw [List.length_map,lg]
   refine ⟨_,rfl,Int.le_trans (by decide : -(2 ^ 62)<=(0:Int)) (by omega),Int.lt_of_le_of_lt (by omega:((2 ^ n:Nat):Int)<=256) (by decide),du (n:=(((2 ^ n:Nat):Int)).toNat) (λi σ Hi=>∃(v3 v4 v5:Option V) (cs:List Bool),σ=[some (.ref q),some (.int (n:Int)),some (.ref D),v3,v4,v5]/\Hi D=some (.lst (cs.map bV))/\cs.length=i/\ak H Hi) ⟨none,none,none,[],rfl,ag,rfl,ak.aA hD⟩ ?_ ?_⟩
   . rintro i σ Hi hi ⟨v3,v4,v5,cs,rfl,lj,iN,si⟩
     rw [Int.toNat_natCast] at hi
     refine ⟨_,rfl,_,rfl,Int.le_trans (by decide : -(2 ^ 62)<=(0:Int)) (by omega),Int.lt_of_le_of_lt (by omega:((n:Nat):Int)<=256) (by decide),du (n:=((n:Int)).toNat) (λm σ Hm=>Hm=Hi/\∃(sp:Nat) (v5:Option V),σ=[some (.ref q),some (.int (n:Int)),some (.ref D),some (.int (0+(i:Int))),some (.int (sp:Int)),v5]/\sp<2 ^ m) ⟨rfl,0,v5,rfl,Nat.one_pos⟩ ?_ ?_⟩
     . rintro m σ Hm hm ⟨rfl,sp,v5,rfl,gf⟩
       rw [Int.toNat_natCast] at hm
       have LV:=oT (Nat.le_trans (Nat.le_of_lt hm) n8)
       obtain ⟨d,d2,hd⟩:=Bi ((0+(i:Int)) / 2 ^ (0+(m:Int)).toNat)
       refine ⟨_,rfl,_,_,rfl,rfl,.inl ⟨by decide,by decide⟩,_,rfl,_,rfl,_,_,rfl,rfl,(by show (0:Int)<=0+(m:Int); omega),_,_,rfl,rfl,_,_,rfl,rfl,rfl,2*sp+d,some (.int (0+(m:Int))),?_,?_⟩
       . rw [hd]
         rfl
       . rw [Nat.pow_succ]
         omega
     . rintro σ Hm ⟨rfl,sp,v5,rfl,gf⟩
       rw [Int.toNat_natCast] at gf
       have jm:cs.length<257:=by omega
       refine ⟨_,rfl,.inl ⟨rfl,_,ay.of lj⟩,_,rfl,_,rfl,q,_,_,bV (bs[sp]'(by omega)),rfl,rfl,ay.of (si _ _ hq),aF (by rw [List.getElem?_map,List.getElem?_eq_getElem (by omega)]; rfl),D,_,_,rfl,rfl,lj,(by rw [List.length_map]; exact small (by omega)),?_⟩
       refine ⟨_,_,_,cs++[bs[sp]'(by omega)],rfl,by rw [ag,List.map_append]; rfl,by rw [List.length_append,iN]; rfl,λc o hc=>?_⟩
       rw [ai (ah hc hD)]
       exact si _ _ hc
   . rintro σ Hi ⟨v3,v4,v5,cs,rfl,lj,iN,si⟩
     rw [Int.toNat_natCast] at iN
     exact ⟨_,rfl,kk D cs Hi si hD lj iN⟩
abbrev zr:List Str:=["_law_script", "_law_number_here", "_law_left", "_law_names", "_law_many", "_law_k"]
theorem iY:aQ zr ["_law_script"] (aj di):=⟨rfl,rfl,rfl,by decide +kernel,rfl,by decide +kernel,by decide +kernel⟩
end
end Gen
namespace PySem
open Sem (wp)
section
variable {prog:Program}{w:World}{A:Around}{E:Value->Shared->Prop}{s:Shared}
theorem ig {it t:Addr}{i:Nat}{items} {x:Value}{Q:Value->Shared->Prop}(hit:s.heap.IsTupleIter it t i) (ht:s.heap.IsTuple t items) (hx:items[i]?=some x)
 (hQ:∀h',h'.IsTupleIter it t (i+1)->Heap.SameBut it s.heap h'->Q x { s with heap:=h' }):wpAny (model prog w) A (Builtin.SmallTypes.nextOf (.ref it)) Q E s:=by
 obtain ⟨o,ho,hc,hd⟩:=id hit
 obtain ⟨ol,zt,_,nl,jr⟩:=ht
 unfold Builtin.SmallTypes.nextOf
 refine wpAny_bind (wpAny_callSpecial?_slot (name:=Str.ofString "__next__") hit.typeIs F.slot_tuple_iterator_next (wpAny_call_entry F.slot_tuple_iterator_next hit.typeIs F.entry_tuple_iterator_next ?_ (F.args_tuple_iterator_next_1 _)))
 show wpAny _ _ (field (.ref it) 0 >>= _) _ _ s
 refine wpAny_bind (wpAny_field ho hd (x:=.ref t) rfl ?_)
 show wpAny _ _ (if (Value.ref t == Value.none)=true then _ else _) _ _ s
 rw [if_neg (show ¬ ((Value.ref t == Value.none)=true) from Bool.false_ne_true)]
 show wpAny _ _ (field (.ref it) 1 >>= _) _ _ s
 refine wpAny_bind (wpAny_field ho hd (x:=.int i 0) rfl ?_)
 show wpAny _ _ (seqItems? (.ref t) >>= _) _ _ s
 refine wpAny_bind (wpAny_seqItems zt jr ?_)
 simp only [Int.toNat_natCast,hx]
 refine wpAny_bind (wpAny_setField ho hd (by simp) (wpAny_pure ⟨x,rfl,wpAny_pure (hQ _ ?_ (Heap.SameBut.update ..))⟩))
 exact ⟨_,Heap.get?_update_self _ ho (Obj.isFreed_of_fields (Obj.data_mapFields hd _)),(Obj.cls_mapFields ..).trans hc,by rw [Obj.data_mapFields hd]; simp [rawInt]⟩
theorem iB {it t:Addr}{i:Nat}{items} {Q:Value->Shared->Prop}(hh:A.handled=none) (hit:s.heap.IsTupleIter it t i) (ht:s.heap.IsTuple t items) (hx:items[i]?=none)
 (hE:∀h' e,Heap.ExtBut it s.heap h'->(∃o,h'.get? e=some o/\o.cls=.type "StopIteration")->E (.ref e) { s with heap:=h' }):wpAny (model prog w) A (Builtin.SmallTypes.nextOf (.ref it)) Q E s:=by
 obtain ⟨o,ho,hc,hd⟩:=id hit
 obtain ⟨ol,zt,_,nl,jr⟩:=ht
 unfold Builtin.SmallTypes.nextOf
 refine wpAny_bind (wpAny_callSpecial?_slot (name:=Str.ofString "__next__") hit.typeIs F.slot_tuple_iterator_next (wpAny_call_entry F.slot_tuple_iterator_next hit.typeIs F.entry_tuple_iterator_next ?_ (F.args_tuple_iterator_next_1 _)))
 show wpAny _ _ (field (.ref it) 0 >>= _) _ _ s
 refine wpAny_bind (wpAny_field ho hd (x:=.ref t) rfl ?_)
 show wpAny _ _ (if (Value.ref t == Value.none)=true then _ else _) _ _ s
 rw [if_neg (show ¬ ((Value.ref t == Value.none)=true) from Bool.false_ne_true)]
 show wpAny _ _ (field (.ref it) 1 >>= _) _ _ s
 refine wpAny_bind (wpAny_field ho hd (x:=.int i 0) rfl ?_)
 show wpAny _ _ (seqItems? (.ref t) >>= _) _ _ s
 refine wpAny_bind (wpAny_seqItems zt jr ?_)
 simp only [Int.toNat_natCast,hx]
 refine wpAny_bind (wpAny_rule (wpAny_bind (wpAny_setField ho hd (by simp) ?_)))
 show wpAny _ _ (newExc (.type "StopIteration") [] >>= _) _ _ _
 refine wpAny_bind ?_
 simp only [newExc,newTuple]
 refine wpAny_bind (wpAny_newObj_type ?_ (by size_fits))
 refine wpAny_bind (m:=firstArgMember _ _) (wpAny_of_eq (a:=Value.none) (by first | rfl | (simp only [firstArgMember]; rfl)) ?_)
 refine wpAny_newObj_type ?_ (by size_fits)
 simp only [raiseNew]
 refine wpAny_bind (wpAny_handled ?_)
 first | rw [show A.in1.handled=none from hh] | rw [hh]
 refine wpAny_bind (wpAny_pure (wpAny_throw ?_))
 exact hE _ _ (((Heap.SameBut.update ..).extBut.push _).push _) ⟨_,Heap.get?_push_size _ rfl,rfl⟩
end
def gL (tp:Bool) (h:Heap) (l:Addr) (xs:Array Value):Prop:=match tp with | true=>h.IsTuple l xs | false=>h.IsList l xs
def d6 (tp:Bool) (h:Heap) (i l:Addr) (k:Nat):Prop:=match tp with | true=>h.IsTupleIter i l k | false=>h.IsListIter i l k
theorem gL.at {tp:Bool}{h h':Heap}{l:Addr}{xs:Array Value}(x:gL tp h l xs) (k:∀o,h.get? l=some o->h'.get? l=some o):gL tp h' l xs:=by
 cases tp <;> (obtain ⟨o,e,r⟩:=x; exact ⟨o,k o e,r⟩)
theorem d6.at {tp:Bool}{h h':Heap}{i l:Addr}{n:Nat}(x:d6 tp h i l n) (k:∀o,h.get? i=some o->h'.get? i=some o):d6 tp h' i l n:=by
 cases tp <;> (obtain ⟨o,e,r⟩:=x; exact ⟨o,k o e,r⟩)
theorem d6.there {tp:Bool}{h:Heap}{i l:Addr}{n:Nat}(x:d6 tp h i l n):∃o,h.get? i=some o/\∃vs,o.data=.fields vs:=by
 cases tp <;> (obtain ⟨o,e,c,d⟩:=x; exact ⟨o,e,_,d⟩)
theorem gL.there {tp:Bool}{h:Heap}{l:Addr}{xs:Array Value}(x:gL tp h l xs):∃o,h.get? l=some o:=by
 cases tp <;> (obtain ⟨o,e,r⟩:=x; exact ⟨o,e⟩)
section
variable {prog:Program}{w:World}{A:Around}{E:Value->Shared->Prop}{s:Shared}{tp:Bool}
theorem qv {it l:Addr}{i:Nat}{items} {x:Value}{Q:Value->Shared->Prop}(hit:d6 tp s.heap it l i) (hl:gL tp s.heap l items) (hx:items[i]?=some x)
 (hQ:∀h',d6 tp h' it l (i+1)->Heap.SameBut it s.heap h'->Q x { s with heap:=h' }):wpAny (model prog w) A (Builtin.SmallTypes.nextOf (.ref it)) Q E s:=by
 cases tp
 . exact wpAny_nextOf_list_item hit hl hx hQ
 . exact ig hit hl hx hQ
theorem zu {it l:Addr}{i:Nat}{items} {Q:Value->Shared->Prop}(hh:A.handled=none) (hit:d6 tp s.heap it l i) (hl:gL tp s.heap l items) (hx:items[i]?=none)
 (hE:∀h' e,Heap.ExtBut it s.heap h'->(∃o,h'.get? e=some o/\o.cls=.type "StopIteration")->E (.ref e) { s with heap:=h' }):wpAny (model prog w) A (Builtin.SmallTypes.nextOf (.ref it)) Q E s:=by
 cases tp
 . exact wpAny_nextOf_list_end hh hit hl hx hE
 . exact iB hh hit hl hx hE
theorem xF {z TI TO i1 i2 l1 l2:Addr}{k:Nat}{xs ys:Array Value}{x y a b:Value}{Q:Option Value->Shared->Prop}(nd:[z,TI,TO,i1,i2].Nodup) (n1:l1∉[z,TI,TO,i1,i2]) (n2:l2∉[z,TI,TO,i1,i2])
 (hz:IsZip s.heap z TI TO .none) (gM:IsPair s.heap TI (.ref i1) (.ref i2)) (lp:IsPair s.heap TO a b) (h1:d6 tp s.heap i1 l1 k) (h2:d6 tp s.heap i2 l2 k) (iA:gL tp s.heap l1 xs) (dw:gL tp s.heap l2 ys) (hx:xs[k]?=some x) (hy:ys[k]?=some y)
 (hQ:∀h',IsZip h' z TI TO (rawInt s.heap.objs.size)->IsPair h' TO x y->d6 tp h' i1 l1 (k+1)->d6 tp h' i2 l2 (k+1)->IsPair h' s.heap.objs.size x y->
  (∀c o,c≠z->c≠TO->c≠i1->c≠i2->s.heap.get? c=some o->h'.get? c=some o)->Q (some (.ref s.heap.objs.size)) { s with heap:=h' }):wpAny (model prog w) A (pyNext (.ref z)) Q E s:=by
 simp only [List.nodup_cons,List.mem_cons,List.not_mem_nil,or_false,not_or] at nd n1 n2
 obtain ⟨⟨wC,oU,mi,qw⟩,⟨TITO,TIi1,TIi2⟩,⟨TOi1,TOi2⟩,i12,_⟩:=nd
 obtain ⟨l1z,E6,l1TO,l1i1,l1i2⟩:=n1
 obtain ⟨l2z,Lq,l2TO,l2i1,l2i2⟩:=n2
 have hT:s.TypeIs (.ref z) "zip":=⟨_,hz,rfl⟩
 unfold pyNext
 refine wpAny_bind (wpAny_attempt (wpAny_callSpecial?_slot (name:=Str.ofString "__next__") hT F.slot_zip_next (wpAny_call_entry F.slot_zip_next hT F.entry_zip_next ?_ (F.args_zip_next_1 _))))
 show wpAny _ _ (field (.ref z) 2 >>= _) _ _ _
 refine wpAny_bind (wpAny_field hz rfl (x:=.bool false) rfl ?_)
 show wpAny _ _ (field (.ref z) 3 >>= _) _ _ _
 refine wpAny_bind (wpAny_field hz rfl (x:=.ref TI) rfl ?_)
 refine wpAny_bind (wpAny_seqItems gM rfl ?_)
 show wpAny _ _ (Builtin.SmallTypes.ownedTupleIsFree (.ref z) >>= _) _ _ _
 refine wpAny_bind ?_
 unfold Builtin.SmallTypes.ownedTupleIsFree
 refine wpAny_bind (wpAny_field hz rfl (x:=.none) rfl (wpAny_pure ?_))
 simp only [if_true]
 refine wpAny_bind (wpAny_rule ?_)
 refine wpAny_bind (wpAny_field hz rfl (x:=.ref TO) rfl ?_)
 refine wpAny_bind (wpAny_setField_rec hz (by simp) λg6 oV qx=>?_)
 replace oV:IsZip g6 z TI TO .ellipsis:=oV
 refine wpAny_bind ?_
 simp only [List.zipIdx_cons,List.zipIdx_nil,List.forIn_cons,List.forIn_nil]
 have k1:∀c o,c≠z->s.heap.get? c=some o->g6.get? c=some o:=λc o n e=>qx.extBut _ _ n e
 refine wpAny_bind (wpAny_bind (wpAny_onRaise ?_))
 show wpAny _ _ (Builtin.SmallTypes.nextOf (.ref i1) >>= _) _ _ _
 refine wpAny_bind (qv (h1.at λo e=>k1 _ o (Ne.symm mi) e) (iA.at λo e=>k1 _ o l1z e) hx λnu Jv uA=>wpAny_pure ?_)
 have k2:∀c o,c≠i1->g6.get? c=some o->nu.get? c=some o:=λc o n e=>uA.extBut _ _ n e
 have zv:IsPair nu TO a b:=k2 _ _ TOi1 (k1 _ _ (Ne.symm oU) lp)
 refine wpAny_bind (wpAny_seqItems zv rfl ?_)
 refine wpAny_bind (wpAny_updateSeq_pair zv λqP vv uB=>?_)
 replace vv:IsPair qP TO x b:=vv
 have k3:∀c o,c≠TO->nu.get? c=some o->qP.get? c=some o:=λc o n e=>uB.extBut _ _ n e
 refine wpAny_bind (wpAny_letGo (wpAny_pure ?_))
 refine wpAny_bind (wpAny_bind (wpAny_onRaise ?_))
 show wpAny _ _ (Builtin.SmallTypes.nextOf (.ref i2) >>= _) _ _ _
 refine wpAny_bind (qv (h2.at λo e=>k3 _ o (Ne.symm TOi2) (k2 _ o (Ne.symm i12) (k1 _ o (Ne.symm qw) e))) (dw.at λo e=>k3 _ o l2TO (k2 _ o l2i1 (k1 _ o l2z e))) hy λyq Jw Di=>wpAny_pure ?_)
 have k4:∀c o,c≠i2->qP.get? c=some o->yq.get? c=some o:=λc o n e=>Di.extBut _ _ n e
 have zw:IsPair yq TO x b:=k4 _ _ TOi2 vv
 refine wpAny_bind (wpAny_seqItems zw rfl ?_)
 refine wpAny_bind (wpAny_updateSeq_pair zw λiQ rJ Dj=>?_)
 replace rJ:IsPair iQ TO x y:=rJ
 have k5:∀c o,c≠TO->yq.get? c=some o->iQ.get? c=some o:=λc o n e=>Dj.extBut _ _ n e
 refine wpAny_bind (wpAny_letGo (wpAny_pure (wpAny_pure ?_)))
 refine wpAny_bind (wpAny_seqItems rJ rfl ?_)
 refine wpAny_bind (wpAny_newTuple ?_)
 have hsz:iQ.objs.size=s.heap.objs.size:=by rw [Dj.1,Di.1,uB.1,uA.1,qx.1]
 have Dk:IsZip iQ z TI TO .ellipsis:=k5 _ _ oU (k4 _ _ qw (k3 _ _ oU (k2 _ _ mi oV)))
 have Jx:∀c o,c≠z->c≠TO->c≠i1->c≠i2->s.heap.get? c=some o->iQ.get? c=some o:=λc o c1 c2 c3 c4 e=>k5 _ _ c2 (k4 _ _ c4 (k3 _ _ c2 (k2 _ _ c3 (k1 _ _ c1 e))))
 have Jy:d6 tp iQ i1 l1 (k+1):=Jv.at λo e=>k5 _ _ (Ne.symm TOi1) (k4 _ _ i12 (k3 _ _ (Ne.symm TOi1) e))
 have Jz:d6 tp iQ i2 l2 (k+1):=Jw.at λo e=>k5 _ _ (Ne.symm TOi2) e
 have zx:z<iQ.objs.size:=Heap.lt_size Dk
 show wpAny _ _ (Builtin.SmallTypes.ownedTupleHandOut (.ref z) (.ref iQ.objs.size) >>= _) _ _ _
 refine wpAny_bind ?_
 unfold Builtin.SmallTypes.ownedTupleHandOut
 have JA:IsZip (iQ.push { cls:=.type "tuple",data:=.seq #[x,y] }) z TI TO .ellipsis:=Heap.get?_push_of_some _ Dk
 refine wpAny_bind (wpAny_setField_rec JA (by simp) λLr zy Dl=>?_)
 replace zy:IsZip Lr z TI TO (rawInt iQ.objs.size):=zy
 refine wpAny_setField_rec zy (by simp) λBj wD Dm=>?_
 replace wD:IsZip Bj z TI TO (rawInt iQ.objs.size):=wD
 have up:∀c o,c≠z->iQ.get? c=some o->Bj.get? c=some o:=λc o c1 e=>Dm.extBut _ _ c1 (Dl.extBut _ _ c1 (Heap.get?_push_of_some _ e))
 have Dn:IsPair Bj iQ.objs.size x y:=Dm.extBut _ _ (Nat.ne_of_gt zx) (Dl.extBut _ _ (Nat.ne_of_gt zx) (Heap.get?_push_size _ rfl))
 rw [hsz] at wD Dn
 refine wpAny_pure ⟨.ref iQ.objs.size,rfl,wpAny_pure ?_⟩
 rw [hsz]
 exact hQ Bj wD (up _ _ (Ne.symm oU) rJ) (Jy.at λo e=>up _ o (Ne.symm mi) e) (Jz.at λo e=>up _ o (Ne.symm qw) e) Dn λc o c1 c2 c3 c4 e=>up c o c1 (Jx c o c1 c2 c3 c4 e)
theorem xG {z TI TO i1 i2 l1:Addr}{k:Nat}{xs:Array Value}{a b:Value}{Q:Option Value->Shared->Prop}(hh:A.handled=none) (nd:[z,TI,TO,i1,i2].Nodup) (n1:l1∉[z,TI,TO,i1,i2])
 (hz:IsZip s.heap z TI TO .none) (gM:IsPair s.heap TI (.ref i1) (.ref i2)) (h1:d6 tp s.heap i1 l1 k) (iA:gL tp s.heap l1 xs) (hx:xs[k]?=none)
 (hQ:∀h',(∀c o,c≠z->c≠TO->c≠i1->c≠i2->s.heap.get? c=some o->h'.get? c=some o)->Q none { s with heap:=h' }):wpAny (model prog w) A (pyNext (.ref z)) Q E s:=by
 simp only [List.nodup_cons,List.mem_cons,List.not_mem_nil,or_false,not_or] at nd n1
 obtain ⟨⟨wC,oU,mi,qw⟩,⟨TITO,TIi1,TIi2⟩,⟨TOi1,TOi2⟩,i12,_⟩:=nd
 obtain ⟨l1z,E6,l1TO,l1i1,l1i2⟩:=n1
 have hT:s.TypeIs (.ref z) "zip":=⟨_,hz,rfl⟩
 unfold pyNext
 refine wpAny_bind (wpAny_attempt (wpAny_callSpecial?_slot (name:=Str.ofString "__next__") hT F.slot_zip_next (wpAny_call_entry F.slot_zip_next hT F.entry_zip_next ?_ (F.args_zip_next_1 _))))
 show wpAny _ _ (field (.ref z) 2 >>= _) _ _ _
 refine wpAny_bind (wpAny_field hz rfl (x:=.bool false) rfl ?_)
 show wpAny _ _ (field (.ref z) 3 >>= _) _ _ _
 refine wpAny_bind (wpAny_field hz rfl (x:=.ref TI) rfl ?_)
 refine wpAny_bind (wpAny_seqItems gM rfl ?_)
 show wpAny _ _ (Builtin.SmallTypes.ownedTupleIsFree (.ref z) >>= _) _ _ _
 refine wpAny_bind ?_
 unfold Builtin.SmallTypes.ownedTupleIsFree
 refine wpAny_bind (wpAny_field hz rfl (x:=.none) rfl (wpAny_pure ?_))
 simp only [if_true]
 refine wpAny_bind (wpAny_rule ?_)
 refine wpAny_bind (wpAny_field hz rfl (x:=.ref TO) rfl ?_)
 refine wpAny_bind (wpAny_setField_rec hz (by simp) λg6 oV qx=>?_)
 replace oV:IsZip g6 z TI TO .ellipsis:=oV
 refine wpAny_bind ?_
 simp only [List.zipIdx_cons,List.zipIdx_nil,List.forIn_cons,List.forIn_nil]
 refine wpAny_bind (wpAny_bind (wpAny_onRaise ?_))
 show wpAny _ _ (Builtin.SmallTypes.nextOf (.ref i1) >>= _) _ _ _
 refine wpAny_bind (zu (by first | exact hh | rfl) (h1.at λo e=>qx.extBut _ o (Ne.symm mi) e) (iA.at λo e=>qx.extBut _ o l1z e) hx λnu e uA he=>?_)
 obtain ⟨oe,zz,Dq⟩:=he
 have Dr:IsZip nu z TI TO .ellipsis:=uA _ _ mi oV
 have JB:e≠z:=λx=>by subst x; rw [Dr] at zz; cases zz; simp at Dq
 refine wpAny_setField_rec Dr (by simp) λqP _ uB=>?_
 refine wpAny_bind (wpAny_isInstance (T:="StopIteration") (b:=true) ⟨oe,uB.extBut _ _ JB zz,Dq⟩ isSubtype_stop ?_)
 exact wpAny_pure (hQ _ λc o c1 _ c3 _ x=>uB.extBut _ _ c1 (uA _ _ c3 (qx.extBut _ _ c1 x)))
end
end PySem
namespace PySem
abbrev rK (h:Heap) (l1:Addr):Heap:=h.push { cls:=.type "tuple_iterator",data:=.fields #[.ref l1,.int 0 0] }
abbrev rL (h:Heap) (l1 l2:Addr):Heap:=(rK h l1).push { cls:=.type "tuple_iterator",data:=.fields #[.ref l2,.int 0 0] }
abbrev rM (h:Heap) (l1 l2:Addr):Heap:=(rL h l1 l2).push { cls:=.type "tuple",data:=.seq #[.ref h.objs.size,.ref (rK h l1).objs.size] }
abbrev rN (h:Heap) (l1 l2:Addr):Heap:=(rM h l1 l2).push { cls:=.type "tuple",data:=.seq #[.none,.none] }
abbrev lM (h:Heap) (l1 l2:Addr):Heap:=(rN h l1 l2).push { cls:=.type "zip",data:=.fields #[.none,.bool false,.bool false,.ref (rL h l1 l2).objs.size,.ref (rM h l1 l2).objs.size] }
theorem oW (l1 l2:Addr) (xs ys:Array Value) :
 Meets (Builtin.«zip.__new__» ⟨[.type "zip",.ref l1,.ref l2],[]⟩) (λ_ R s=>s.heap.IsTuple l1 xs/\s.heap.IsTuple l2 ys/\R (.ok (.ret (.ref (rN s.heap l1 l2).objs.size))) { s with heap:=lM s.heap l1 l2 }):=
 .of_wp λprog w A R s h=>by
  obtain ⟨hp,g,d,tk,os⟩:=s; obtain ⟨iA,dw,h⟩:=h
  have Ls:=sub_zip
  have JC:Heap.IsTuple (Shared.heap ⟨hp,g,d,tk,os⟩) l1 xs:=iA
  have JD:Heap.IsTuple (Shared.heap ⟨hp.push { cls:=.type "tuple_iterator",data:=.fields #[.ref l1,.int 0 0] },g,d,tk,os⟩) l2 ys:=Heap.IsTuple.push dw _
  wp_walk using wpAny_pyIter_tuple JC,wpAny_pyIter_tuple JD
  exact ⟨_,rfl,h⟩
section
variable {prog:Program}{w:World}{A:Around}{E:Value->Shared->Prop}{s:Shared}{tp:Bool}
theorem xH {l1 l2:Addr}{xs ys:Array Value}{Q:Value->Shared->Prop}(iA:gL tp s.heap l1 xs) (dw:gL tp s.heap l2 ys)
 (h:∀h',IsZip h' (s.heap.objs.size+4) (s.heap.objs.size+2) (s.heap.objs.size+3) .none->IsPair h' (s.heap.objs.size+2) (.ref s.heap.objs.size) (.ref (s.heap.objs.size+1))->
  IsPair h' (s.heap.objs.size+3) .none .none->d6 tp h' s.heap.objs.size l1 0->d6 tp h' (s.heap.objs.size+1) l2 0->(∀c o,s.heap.get? c=some o->h'.get? c=some o)->Q (.ref (s.heap.objs.size+4)) { s with heap:=h' }) :
 wpAny (model prog w) A (call (.type "zip") [.ref l1,.ref l2]) Q E s:=by
 cases tp
 . exact call_zip_2 iA dw λh' a b c d e _ f=>h h' a b c d e f
 . refine callType_new F.called_zip (by decide) (F.typeCall_zip_2 _ _) (F.newCall_zip_2 _ _) (λobj=>F.args_object_init_3 obj _ _) F.entry_zip_new (oW l1 l2 xs ys) ⟨iA,dw,?_⟩
   have z1:(rK s.heap l1).objs.size=s.heap.objs.size+1:=Heap.size_push ..
   have z2:(rL s.heap l1 l2).objs.size=s.heap.objs.size+2:=by rw [Heap.size_push,z1]
   have z3:(rM s.heap l1 l2).objs.size=s.heap.objs.size+3:=by rw [Heap.size_push,z2]
   have z4:(rN s.heap l1 l2).objs.size=s.heap.objs.size+4:=by rw [Heap.size_push,z3]
   have g5:(lM s.heap l1 l2).get? (rN s.heap l1 l2).objs.size=some _:=Heap.get?_push_size _ rfl
   have g4:(lM s.heap l1 l2).get? (rM s.heap l1 l2).objs.size=some _:=Heap.get?_push_of_some _ (Heap.get?_push_size _ rfl)
   have g3:(lM s.heap l1 l2).get? (rL s.heap l1 l2).objs.size=some _:=Heap.get?_push_of_some _ (Heap.get?_push_of_some _ (Heap.get?_push_size _ rfl))
   have g2:(lM s.heap l1 l2).get? (rK s.heap l1).objs.size=some _:=Heap.get?_push_of_some _ (Heap.get?_push_of_some _ (Heap.get?_push_of_some _ (Heap.get?_push_size _ rfl)))
   have g1:(lM s.heap l1 l2).get? s.heap.objs.size=some _:=Heap.get?_push_of_some _ (Heap.get?_push_of_some _ (Heap.get?_push_of_some _ (Heap.get?_push_of_some _ (Heap.get?_push_size _ rfl))))
   show _/\_
   rw [z2,z3,z4] at g5
   rw [z1,z2] at g3
   rw [z3] at g4
   rw [z1] at g2
   rw [z4]
   exact ⟨⟨_,g5,rfl⟩,h _ g5 g3 g4 ⟨_,g1,rfl,rfl⟩ ⟨_,g2,rfl,rfl⟩ λc o x=>
    Heap.get?_push_of_some _ (Heap.get?_push_of_some _ (Heap.get?_push_of_some _ (Heap.get?_push_of_some _ (Heap.get?_push_of_some _ x))))⟩
end
end PySem
namespace L2
open PySem PySem.Spec PyProof.Rows
def ZH (tp:Bool) (H:Hp) (a:Addr) (xs:List V):Prop:=match tp with | true=>H a=some (.tup xs) | false=>H a=some (.lst xs)
theorem ZH.ex {tp:Bool}{H:Hp}{a:Addr}{xs:List V}(h:ZH tp H a xs):∃o,H a=some o:=by cases tp <;> exact ⟨_,h⟩
theorem ZH.inj {tp:Bool}{H:Hp}{a:Addr}{xs ys:List V}(h:ZH tp H a xs) (h':ZH tp H a ys):xs=ys:=by
 cases tp <;> (have e:=(show H a=_ from h).symm.trans (show H a=_ from h'); cases e; rfl)
theorem ZH.same {tp:Bool}{H H':Hp}{a:Addr}{xs:List V}(h:ZH tp H a xs) (k:∀o,H a=some o->H' a=some o):ZH tp H' a xs:=by cases tp <;> exact k _ h
theorem Inv.zh {X:Cx}{pins:List (Addr×Obj)}{σ:St}{H:Hp}{s:Shared}{tp:Bool}{a:Addr}{xs:List V}(I:Inv X pins σ H s) (h:ZH tp H a xs):∃its:List Value,Vals xs its/\gL tp s.heap a its.toArray/\xs.length<=sizeLine:=by
 cases tp
 . obtain ⟨z,its,n,r,e⟩:=(show aT X.prog X.w H s.heap a (.lst xs) from I.hok a _ h)
   exact ⟨its,r,⟨_,e,rfl,n,rfl⟩,z⟩
 . obtain ⟨z,its,r,o,e,c,n,d⟩:=(show aT X.prog X.w H s.heap a (.tup xs) from I.hok a _ h)
   exact ⟨its,r,⟨o,e,c,n,d⟩,z⟩
def zA (tp:Bool) (a b:Addr):It:=
 ⟨λi H=>∃xs ys x y,ZH tp H a xs/\ZH tp H b ys/\xs[i]?=some x/\ys[i]?=some y,λi H v H'=>∃T x y,v=.ref T/\H T=none/\H'=upd H T (.tup [x,y])/\(∀xs,ZH tp H a xs->xs[i]?=some x)/\∀ys,ZH tp H b ys->ys[i]?=some y,
  λi H=>∃xs,ZH tp H a xs/\xs.length<=i⟩
theorem vw {P:Program}{w:World}{K:W.Frag}{es:List Expr}{kk:Nat}{pp:Pos}{tp:Bool}{a b z TI TO i1 i2:Addr}(nd:[z,TI,TO,i1,i2].Nodup) :
 Turn P w K (.Tuple es kk pp) (zA tp a b) [z,TI,TO,i1,i2] z (λi h=>IsZip h z TI TO .none/\IsPair h TI (.ref i1) (.ref i2)/\(∃a b,IsPair h TO a b)/\d6 tp h i1 a i/\d6 tp h i2 b i) where
 mem:=by simp
 obj:=λi h st c hc=>by
  obtain ⟨hz,gM,⟨u,v,lp⟩,h1,h2⟩:=st
  simp only [List.mem_cons,List.not_mem_nil,or_false] at hc
  rcases hc with rfl | rfl | rfl | rfl | rfl
  . exact ⟨_,hz,λv z=>by cases (show Data.fields _=Data.cell v from z)⟩
  . exact ⟨_,gM,λv z=>by cases (show Data.seq _=Data.cell v from z)⟩
  . exact ⟨_,lp,λv z=>by cases (show Data.seq _=Data.cell v from z)⟩
  . obtain ⟨o,e,vs,d⟩:=h1.there
    exact ⟨o,e,λv z=>by rw [d] at z; cases z⟩
  . obtain ⟨o,e,vs,d⟩:=h2.there
    exact ⟨o,e,λv z=>by rw [d] at z; cases z⟩
 keep:=λi h h' st k=>by
  obtain ⟨hz,gM,⟨u,v,lp⟩,h1,h2⟩:=st
  exact ⟨k z (by simp) _ hz,k TI (by simp) _ gM,⟨u,v,k TO (by simp) _ lp⟩,h1.at λo e=>k i1 (by simp) o e,h2.at λo e=>k i2 (by simp) o e⟩
 item:=by
  intro X hP hw hK hc i pins s σ H E I hf st hg
  subst hP hw hK
  obtain ⟨xs,ys,x,y,qy,zB,hx,hy⟩:=hg
  obtain ⟨its,rv,p,JE⟩:=I.zh qy
  obtain ⟨its',pY,p',Lu⟩:=I.zh zB
  obtain ⟨u,hu,ru⟩:=rv.get hx
  obtain ⟨v,hv,JF⟩:=pY.get hy
  obtain ⟨hz,gM,⟨c,d,lp⟩,h1,h2⟩:=st
  have na:a∉[z,TI,TO,i1,i2]:=λm=>by
   obtain ⟨o,e⟩:=qy.ex
   rw [(hf a m).1] at e
   cases e
  have nb:b∉[z,TI,TO,i1,i2]:=λm=>by
   obtain ⟨o,e⟩:=zB.ex
   rw [(hf b m).1] at e
   cases e
  refine xF nd na nb hz gM lp h1 h2 p p' (x:=u) (y:=v) (by simpa using hu) (by simpa using hv) λh' a1 a2 a3 a4 a5 kk=>?_
  refine ⟨.ref s.heap.objs.size,rfl,?_⟩
  refine wpAny_letOwnedTupleGo_zip a1 λh3 JG vZ=>?_
  have Ds:=nd
  simp only [List.nodup_cons,List.mem_cons,List.not_mem_nil,or_false,not_or] at Ds
  obtain ⟨⟨wC,oU,mi,qw⟩,⟨TITO,TIi1,TIi2⟩,⟨TOi1,TOi2⟩,i12,_⟩:=Ds
  have lt:∀c∈[z,TI,TO,i1,i2],c≠s.heap.objs.size:=λc hc=>by
   simp only [List.mem_cons,List.not_mem_nil,or_false] at hc
   rcases hc with rfl | rfl | rfl | rfl | rfl
   . exact Nat.ne_of_lt (Heap.lt_size hz)
   . exact Nat.ne_of_lt (Heap.lt_size gM)
   . exact Nat.ne_of_lt (Heap.lt_size lp)
   . obtain ⟨o,e,_⟩:=h1.there
     exact Nat.ne_of_lt (Heap.lt_size e)
   . obtain ⟨o,e,_⟩:=h2.there
     exact Nat.ne_of_lt (Heap.lt_size e)
  have k3:∀c o,c≠z->h'.get? c=some o->h3.get? c=some o:=λc o n e=>vZ.extBut _ _ n e
  have I1:Inv X pins σ (upd H s.heap.objs.size (.tup [x,y])) { s with heap:=h3,toks:=s.toks }:=I.pR (its:=[u,v]) hf (λb o hb e1=>by
   simp only [List.mem_cons,List.not_mem_nil,or_false,not_or] at hb
   exact k3 b o hb.1 (kk b o hb.1 hb.2.2.1 hb.2.2.2.1 hb.2.2.2.2 e1)) (Nat.le_refl _) ⟨_,k3 _ _ (Ne.symm (lt z (by simp))) a5,rfl,_,rfl⟩ (.cons ru (.cons JF .nil)) (by show 2<=sizeLine; decide)
  have fr:H s.heap.objs.size=none:=I.hok.fresh (Nat.le_refl _)
  refine ⟨.ref s.heap.objs.size,_,I1,rfl,⟨s.heap.objs.size,x,y,rfl,fr,rfl,λLW h=>by rw [h.inj qy]; exact hx,λkz h=>by rw [h.inj zB]; exact hy⟩,⟨JG,k3 _ _ (Ne.symm wC) (kk _ _ (Ne.symm wC) TITO TIi1 TIi2 gM),⟨_,_,k3 _ _ (Ne.symm oU) a2⟩,a3.at λo e=>k3 _ o (Ne.symm mi) e,a4.at λo e=>k3 _ o (Ne.symm qw) e⟩,λb hb=>?_⟩
  rw [ai (lt b hb)]
  exact (hf b hb).1
 done:=by
  intro X hP hw hK hc i pins s σ H E I hf st hg
  subst hP hw hK
  obtain ⟨xs,qy,hx⟩:=hg
  obtain ⟨its,rv,p,JE⟩:=I.zh qy
  obtain ⟨hz,gM,⟨c,d,lp⟩,h1,h2⟩:=st
  have hl:=rv.length
  have na:a∉[z,TI,TO,i1,i2]:=λm=>by
   obtain ⟨o,e⟩:=qy.ex
   rw [(hf a m).1] at e
   cases e
  exact xG (I.ok.hd hc) nd na hz gM h1 p (a:=.none) (b:=.none) (by simp; omega) λh' kk=>⟨rfl,I.pQ (t':=s.toks) hf λb o hb e1=>by
   simp only [List.mem_cons,List.not_mem_nil,or_false,not_or] at hb
   exact kk b o hb.1 hb.2.2.1 hb.2.2.2.1 hb.2.2.2.2 e1⟩
 self:=λ_ _ _ _ _ st h=>wpAny_pyIter_zip st.1 h
section
variable {X:Cx}
def E7 (ta:TA):TI:=λσ H R=>ta σ H λvs H1=>∃tp a b,vs=[.ref a,.ref b]/\(∃xs,ZH tp H1 a xs)/\(∃ys,ZH tp H1 b ys)/\R (zA tp a b) H1
theorem uC {es:List Expr}{kk:Nat}{pp:Pos}{a b:Expr}{ta:TA}{p pos:Pos}(hg:Gl X "zip") (hm:X.mg "zip" = none) (ha:PA X [a,b] ta) (hs:starEach [a,b] X.env=(false,eval a X.env)::starEach [b] X.env:=by rfl) (hp:(backTo pos (starEach [b] X.env)).any (·.1)=false:=by rfl) :
 PI X (.Tuple es kk pp) (.Call (.Name "zip" p) [a,b] [] pos) (E7 ta):=by
 intro pins s σ H R I h
 refine Call_ (eJ I hg hm boot_zip (PyProof.Rows.callWith_type1 (aE (ha pos pins s σ H _ I h) λus s1 ⟨vs,H1,I1,r1,q1⟩=>?_) hs hp))
 obtain ⟨tp,l,m,e,⟨xs,hx⟩,⟨ys,hy⟩,q⟩:=q1
 subst e
 obtain ⟨u,v,rfl,ru,rv⟩:=vals2 r1
 cases (show u=Value.ref l from ru)
 cases (show v=Value.ref m from rv)
 obtain ⟨its,_,p1,_⟩:=I1.zh hx
 obtain ⟨its',_,p2,_⟩:=I1.zh hy
 refine xH p1 p2 λh' a1 a2 a3 a4 a5 kk=>?_
 refine wpAny_pyIter_zip a1 ?_
 have I2:Inv X pins σ H1 { s1 with heap:=h' }:=I1.kept (t':=s1.toks) kk
 refine ⟨_,_,_,_,H1,rfl,I2,vw (tp:=tp) (a:=l) (b:=m) (z:=s1.heap.objs.size+4) (TI:=s1.heap.objs.size+2) (TO:=s1.heap.objs.size+3) (i1:=s1.heap.objs.size) (i2:=s1.heap.objs.size+1) ?_,⟨a1,a2,⟨_,_,a3⟩,a4,a5⟩,λb hb=>?_,q⟩
 . simp
 . have ki:s1.heap.objs.size<=b:=by
    simp only [List.mem_cons,List.not_mem_nil,or_false] at hb
    rcases hb with rfl | rfl | rfl | rfl | rfl
    . exact Nat.le_add_right _ _
    . exact Nat.le_add_right _ _
    . exact Nat.le_add_right _ _
    . exact Nat.le_refl _
    . exact Nat.le_add_right _ _
   exact I1.nh ki (I1.hok.fresh ki)
end
end L2
namespace Gen
open PySem L2
abbrev gQ:Stmt:=top 19
theorem uD {K:W.Frag}{D a b:Addr}{bs cs:List Bool}{g:Int->Int->V}{f:Bool->Bool->Bool}{Q:Hp->Prop}{H:Hp}(hg:∀x y:Bool,g (if x=true then 1 else 0) (if y=true then 1 else 0)=bV (f x y)) (hD:H D=none) (ha:H a=some (.lst (bs.map bV))) (hb:H b=some (.lst (cs.map bV))) (hl:bs.length=cs.length) (hs:bs.length<=256)
 (fin:∀H',ak H H'->H' D=some (.lst ((List.zipWith f bs cs).map bV))->Q H') :
 ∃W:Nat->Nat->St->Hp->Prop,(∃m,W 0 m [none,none] (upd H D (.lst [])))/\sZ D (nc K 2 (eY (cD 0) (eY (cD 1) m7))) jH (sq (jY g) (qE 0) (qE 1)) (zA false a b) W Q:=by
 refine gi bs.length (λi acc σ H9=>acc=(List.zipWith f (bs.take i) (cs.take i)).map bV/\(∃u v,σ=[u,v])/\ak H H9) ⟨rfl,⟨none,none,rfl⟩,ak.aA hD⟩ ag ?_ ?_
 . rintro acc σ H9 cR ⟨rfl,_,s9⟩
   rw [List.take_length,hl,List.take_length] at cR
   exact ⟨⟨_,s9 _ _ ha,by rw [List.length_map]; exact Nat.le_refl _⟩,fin H9 s9 cR⟩
 . rintro i acc σ H9 hi cR ⟨rfl,⟨u,v,rfl⟩,s9⟩
   have Dt:i<cs.length:=by omega
   have e1:(bs.map bV)[i]?=some (bV bs[i]):=by rw [List.getElem?_map,List.getElem?_eq_getElem hi]; rfl
   have e2:(cs.map bV)[i]?=some (bV cs[i]):=by rw [List.getElem?_map,List.getElem?_eq_getElem Dt]; rfl
   refine ⟨⟨_,_,_,_,s9 _ _ ha,s9 _ _ hb,e1,e2⟩,?_⟩
   rintro x H' ⟨Tp,x1,y1,rfl,pS,rfl,w1,w2⟩
   have z1:=w1 _ (s9 _ _ ha)
   have z2:=w2 _ (s9 _ _ hb)
   rw [e1] at z1
   rw [e2] at z2
   cases z1
   cases z2
   refine ⟨Tp,_,rfl,aY.of ag,rfl,_,_,rfl,_,_,rfl,rfl,ub ?_⟩
   have JH:D≠Tp:=ah cR pS
   refine ⟨_,rfl,_,rfl,_,_,rfl,rfl,_,(ai JH).trans cR,?_,cG hi ag ⟨?_,⟨_,_,rfl⟩,λc o hc=>?_⟩⟩
   . rw [List.length_map,List.length_zipWith,List.length_take,List.length_take]
     exact small (by omega)
   . rw [hg,List.take_succ,List.take_succ,List.getElem?_eq_getElem hi,List.getElem?_eq_getElem Dt,Option.toList_some,Option.toList_some,List.zipWith_append (by rw [List.length_take,List.length_take]; omega),List.map_append]
     rfl
   . have e3:=s9 c o hc
     rw [ai (ah hc hD),ai (ah e3 pS)]
     exact e3
theorem lq {K:W.Frag}{D a:Addr}{bs:List Bool}{te:TE}{f:Bool->Bool}{Q:Hp->Prop}{H:Hp}(he:∀(x:Bool) (H:Hp) (R:VK),R (bV (f x)) H->te [some (bV x)] H R) (hD:H D=none) (ha:H a=some (.lst (bs.map bV))) (hs:bs.length<=256)
 (fin:∀H',ak H H'->H' D=some (.lst ((bs.map f).map bV))->Q H') :
 ∃W:Nat->Nat->St->Hp->Prop,(∃m,W 0 m [none] (upd H D (.lst [])))/\sZ D (cD 0) jH te (pF K a) W Q:=by
 refine gi bs.length (λi acc σ H9=>acc=((bs.take i).map f).map bV/\(∃u,σ=[u])/\ak H H9) ⟨rfl,⟨none,rfl⟩,ak.aA hD⟩ ag ?_ ?_
 . rintro acc σ H9 cR ⟨rfl,_,s9⟩
   rw [List.take_length] at cR
   exact ⟨⟨_,ay.of (s9 _ _ ha),by rw [List.length_map]; exact Nat.le_refl _⟩,fin H9 s9 cR⟩
 . rintro i acc σ H9 hi cR ⟨rfl,⟨u,rfl⟩,s9⟩
   have e1:(bs.map bV)[i]?=some (bV bs[i]):=by rw [List.getElem?_map,List.getElem?_eq_getElem hi]; rfl
   refine ⟨⟨_,_,ay.of (s9 _ _ ha),e1⟩,?_⟩
   rintro x H' ⟨rfl,w1⟩
   have z1:=w1 _ (ay.of (s9 _ _ ha))
   rw [e1] at z1
   cases z1
   refine eP (he bs[i] _ _ ⟨_,cR,?_,cG hi ag ⟨?_,⟨_,rfl⟩,λc o hc=>?_⟩⟩)
   . rw [List.length_map,List.length_map,List.length_take]
     exact small (by omega)
   . rw [List.take_succ,List.getElem?_eq_getElem hi,Option.toList_some,List.map_append,List.map_append]
     rfl
   . rw [ai (ah hc hD)]
     exact s9 c o hc
section
variable {P:Program}{w:World}{K:W.Frag}{mg:Str->Option Value}{base:Heap}
theorem vx {f fC fR fP fS:Addr}{fd dC dR dP dS:FuncData}(F:bY K "_law_order" "_law_order" di f fd) (O:Own mg)
 (gC:av P w K mg base aH 1 fC dC ["_law_script", "_law_k"] (kq K)) (mC:mg "_law_cell_at" = some (.ref fC)) (kC:W.keepIn K (.ref fC)=true) (bC:Binds K dC ["_law_script", "_law_k"] [])
 (gR:av P w K mg base aH 2 fR dR ["_law_cell", "_law_k"] kr) (mR:mg "_law_rich" = some (.ref fR)) (kR:W.keepIn K (.ref fR)=true) (bR:Binds K dR ["_law_cell", "_law_k"] [])
 (gP:av P w K mg base aH 1 fP dP ["_law_left", "_law_many"] ku) (mP:mg "_law_pick" = some (.ref fP)) (kP:W.keepIn K (.ref fP)=true) (bP:Binds K dP ["_law_left", "_law_many"] [])
 (gS:av P w K mg base aH 2 fS dS ["_law_left", "_law_told"] (lF K)) (mS:mg "_law_spelt" = some (.ref fS)) (kS:W.keepIn K (.ref fS)=true) (bS:Binds K dS ["_law_left", "_law_told"] []):av P w K mg base aH 3 f fd ["_law_script"] (qu K):=by
 refine F.ok iY (λvs H Q E h=>?_) (λcdv A outer s H vs Q E hr h=>?_)
 . obtain ⟨a,ns,rfl,_⟩:=h
   rfl
 . obtain ⟨a,ns,rfl,ha,kk⟩:=h
   have dc:ba 1 _:=hr.mono (by decide)
   obtain ⟨tA,hA,rA⟩:∃t,fu (gZ aH P w K mg base zr "_law_order" (aj di) f cdv A outer s H E).mY ((aK di).drop 6) t/\
    ∀(x:V) (l nm:Addr) (xs:List V) (many:Nat) (H1:Hp),many<=8->ak H H1->H l=none->H nm=none->l≠nm->H1 l=some (.lst xs)->hJ xs->H1 nm=some (.lst [])->t { nx:=λ_ H'=>Q .aR H',rt:=Q } [some (.ref a),some x,some (.ref l),some (.ref nm),some (.int (many:Int)),none] H1:=by
    refine ⟨_,ae (fz PassesOwn.never rfl (cp rfl O.range (aa (pv 4) ab)) (aU (i:=5) iY.nd rfl (Or.inl rfl))
     (aq (lx (kd PySem.F.plainAttrs_list PySem.F.slot_list_append PySem.F.type_list_append gh (pv 3) (aa (az gS hr rfl mS kS bS .nil aw (aa (pv 2) (aa (pv 3) ab))) ab)))))
     (aq (aJ (pv 3))),?_⟩
    intro x l nm xs many H1 hm s1 hl mj nl iA yE JI
    refine ⟨_,rfl,_,rfl,Int.le_trans (by decide : -(2 ^ 62)<=(0:Int)) (by omega),Int.lt_of_le_of_lt (by omega:((many:Nat):Int)<=256) (by decide),du (n:=((many:Int)).toNat) (λi σ Hi=>∃(v5:Option V) (ys:List V) (names:List Str),σ=[some (.ref a),some x,some (.ref l),some (.ref nm),some (.int (many:Int)),v5]/\ak H Hi/\Hi l=some (.lst ys)/\hJ ys/\Hi nm=some (.lst (names.map V.str))/\names.length=i/\names.Nodup/\∀z∈names,cQ z) ⟨none,xs,[],rfl,s1,iA,yE,JI,rfl,List.nodup_nil,λ_ h=>nomatch h⟩ ?_ ?_⟩
    . rintro i σ Hi hi ⟨v5,ys,names,rfl,si,Du,wB,uE,hlen,zC,vy⟩
      rw [Int.toNat_natCast] at hi
      refine ⟨_,rfl,.inl ⟨rfl,_,ay.of uE⟩,_,rfl,_,rfl,l,nm,ys,names,rfl,Du,wB,Ne.symm nl,ay.of uE,by omega,λz kz H2 hz JJ iL dw k2=>?_⟩
      have pL:=k2 _ _ uE (Ne.symm nl)
      refine ⟨nm,_,_,rfl,rfl,pL,(by rw [List.length_map]; exact small (by omega)),?_⟩
      refine ⟨_,kz,names++[z],rfl,λc o hc=>?_,(ai nl).trans dw,iL,by rw [ag,List.map_append]; rfl,by rw [List.length_append,hlen]; rfl,?_,λy hy=>?_⟩
      . rw [ai (ah hc mj)]
        exact k2 _ _ (si _ _ hc) (ah hc hl)
      . rw [List.nodup_append]
        exact ⟨zC,List.pairwise_singleton _ _,λp hp q hq=>by rw [List.mem_singleton] at hq; rw [hq]; exact λe=>JJ (e ▸ hp)⟩
      . rcases List.mem_append.mp hy with hy | hy
        . exact vy y hy
        . rw [List.mem_singleton.mp hy]
          exact hz
    . rintro σ Hi ⟨v5,ys,names,rfl,si,Du,wB,uE,hlen,zC,vy⟩
      rw [Int.toNat_natCast] at hlen
      exact ⟨_,rfl,kk nm names Hi si mj ⟨uE,zC,λz hz=>xD (vy z hz),by omega⟩⟩
   obtain ⟨tB,hB,rB⟩:∃t,fu (gZ aH P w K mg base zr "_law_order" (aj di) f cdv A outer s H E).mY ((aK di).drop 2) t/\
    ∀(x:Int),t { nx:=λ_ H'=>Q .aR H',rt:=Q } [some (.ref a),some (.int x),none,none,none,none] H:=by
    refine ⟨_,ae (ax (i:=2) iY.nd rfl (Or.inl rfl) (dW (aa (pv 1) ab)))
     (ae (ax (i:=3) iY.nd rfl (Or.inl rfl) (dW ab))
     (ae (ax (i:=4) iY.nd rfl (Or.inl rfl) (az gP dc rfl mP kP bP .nil aw (aa (pv 2) (aa af ab))))
     (ae (bf (bq dj (pv 4) af (bp _)) (aq (ax (i:=4) iY.nd rfl (Or.inl rfl) (aG dg af (az gP dc rfl mP kP bP .nil aw (aa (pv 2) (aa af ab)))))) aN) hA))),?_⟩
    intro x
    refine ⟨_,rfl,(by show 1<=sizeLine; decide),λl hl=>?_⟩
    have q1:(upd H l (.lst [.int x])) l=some (.lst [.int x]):=ag
    have s1:ak H (upd H l (.lst [.int x])):=ak.aA hl
    show dq _ _ _ _ (upd H l (.lst [.int x]))
    generalize upd H l (.lst [.int x])=H1 at q1 s1 ⊢
    refine ⟨(by show 0<=sizeLine; decide),λnm mj=>?_⟩
    have nl:l≠nm:=ah q1 mj
    have q2:(upd H1 nm (.lst [])) nm=some (.lst []):=ag
    have s2:ak H1 (upd H1 nm (.lst [])):=ak.aA mj
    have zD:H nm=none:=by
     cases e:H nm with
     | none=>rfl
     | some o=>rw [s1 _ _ e] at mj; cases mj
    show dq _ _ _ _ (upd H1 nm (.lst []))
    generalize upd H1 nm (.lst [])=H2 at q2 s2 ⊢
    have mh:=s1.trans s2
    refine ⟨_,rfl,l,_,8,rfl,s2 _ _ q1,.inl ⟨_,rfl⟩,by decide,by decide,λd ys H3 d0 d1 nV pX k3=>?_⟩
    have Dv:=k3 _ _ q2 (Ne.symm nl)
    have jw:ak H H3:=λc o hc=>k3 _ _ (mh _ _ hc) (ah hc hl)
    obtain ⟨dn,rfl⟩:=Int.eq_ofNat_of_zero_le d0
    refine ⟨_,rfl,rfl,_,rfl,?_⟩
    refine jG (λ_=>?_) (λ_=>?_)
    . refine ⟨_,rfl,l,_,2,rfl,pX,nV,by decide,by decide,λe zs H4 e0 e1 nX nS k4=>?_⟩
      obtain ⟨en,rfl⟩:=Int.eq_ofNat_of_zero_le e0
      refine ⟨_,_,rfl,rfl,?_⟩
      exact rA _ l nm _ (7+en) H4 (by omega) (λc o hc=>k4 _ _ (jw _ _ hc) (ah hc hl)) hl zD nl nS nX (k4 _ _ Dv (Ne.symm nl))
    . exact rA _ l nm _ dn H3 (by omega) jw hl zD nl pX nV Dv
   refine ⟨_,ae (ax (i:=1) iY.nd rfl (Or.inl rfl) (aG gw (az gC dc rfl mC kC bC .nil aw (aa (pv 0) (aa af ab))) af))
    (ae (bf (bq dj (aG fG (az gC dc rfl mC kC bC .nil aw (aa (pv 0) (aa af ab))) af) af (bp _)) (aq (ax (i:=1) iY.nd rfl (Or.inl rfl) (az gR hr rfl mR kR bR .nil aw (aa (pv 1) (aa af ab))))) aN) hB),?_⟩
   refine ⟨_,rfl,a,ns,0,rfl,ha,by decide,λx=>⟨_,_,rfl,rfl,⟨by decide,by decide⟩,?_⟩⟩
   refine ⟨_,rfl,a,ns,0,rfl,ha,by decide,λc=>⟨_,_,rfl,rfl,(by show (0:Int)<2; decide),rfl,_,rfl,?_⟩⟩
   exact jG (λ_=>⟨_,rfl,_,0,rfl,by decide,by decide,λz=>rB z⟩) (λ_=>rB _)
end
end Gen
namespace Gen
open PySem L2
abbrev ij:Stmt:=top 20
theorem qz:∀(b:List Str),PyData.eqvAll (b.map PyData.str) (b.map PyData.str)=true
 | []=>rfl
 | x::b=>by rw [List.map_cons,PyData.eqvAll,qz b,PyData.eqv,beq_self_eq_true]; rfl
theorem qB:∀(b:List Str),PyData.depthAll (b.map PyData.str)=0
 | []=>rfl
 | _::b=>by rw [List.map_cons,PyData.depthAll,qB b]; rfl
structure Row (H:Hp) (q:Addr) (bs:List Bool) (n:Nat):Prop where
 at_:H q=some (.lst (bs.map bV))
 len:bs.length=2 ^ n
theorem Row.same {H H':Hp}{q:Addr}{bs:List Bool}{n:Nat}(h:Row H q bs n) (s:ak H H'):Row H' q bs n:=⟨s _ _ h.at_,h.len⟩
theorem Ord.same {H H':Hp}{o:Addr}{names:List Str}(h:Ord H o names) (s:ak H H'):Ord H' o names:=⟨s _ _ h.at_,h.nd,h.ok,h.n8⟩
def lN:Sp:=λvs H Q _=>∃(p q r:Addr) (names:List Str) (bs cs:List Bool),vs=[.ref p,.ref q,.ref r]/\Ord H p names/\Row H q bs names.length/\Row H r cs names.length/\∀H',ak H H'->Q (.bl true) H'
section
variable (P:Program) (w:World) (K:W.Frag) (mg:Str->Option Value) (base:Heap)
structure zE (fK fS fB fE fO:Addr) (dK dS dB dE dO:FuncData):Prop where
 gK:av P w K mg base aH 18 fK dK jv (gJ 9)
 mK:mg "_law_canon" = some (.ref fK)
 kK:W.keepIn K (.ref fK)=true
 bK:Binds K dK jv []
 gS:av P w K mg base aH 9 fS dS gb (eF 9)
 mS:mg "_law_same_tree" = some (.ref fS)
 kS:W.keepIn K (.ref fS)=true
 bS:Binds K dS gb []
 gB:av P w K mg base aH 11 fB dB ju (mw and)
 mB:mg "both" = some (.ref fB)
 kB:W.keepIn K (.ref fB)=true
 bB:Binds K dB ju []
 gE:av P w K mg base aH 11 fE dE ju (mw or)
 mE:mg "either" = some (.ref fE)
 kE:W.keepIn K (.ref fE)=true
 bE:Binds K dE ju []
 gO:av P w K mg base aH 10 fO dO ["tree"] rD
 mO:mg "opposite" = some (.ref fO)
 kO:W.keepIn K (.ref fO)=true
 bO:Binds K dO ["tree"] []
end
abbrev JK:List Str:=["_law_names", "_law_one", "_law_other", "_law_order_here", "_law_first", "_law_second", "_law_due"]
abbrev qC:List Str:=["_law_names", "_law_one", "_law_other"]
theorem rO:(["_law_a", "_law_b"]:List Str).Nodup:=by decide +kernel
theorem E8:(["_law_a"]:List Str).Nodup:=by decide +kernel
theorem vz:(["_law_bit"]:List Str).Nodup:=by decide +kernel
section
variable {P:Program}{w:World}{K:W.Frag}{mg:Str->Option Value}{base:Heap}{fK fS fB fE fO:Addr}{dK dS dB dE dO:FuncData}
theorem jU:aQ JK qC (aj gQ):=⟨rfl,rfl,rfl,by decide +kernel,rfl,by decide +kernel,by decide +kernel⟩
theorem vA {f:Addr}{fd:FuncData}(F:bY K "_law_right" "_law_right" gQ f fd) (O2:fQ mg) (G:zE P w K mg base fK fS fB fE fO dK dS dB dE dO):av P w K mg base aH 19 f fd qC lN:=by
 refine F.ok jU (λvs H Q E h=>?_) (λcdv A outer s H vs Q E hr h=>?_)
 . obtain ⟨p,q,r,names,bs,cs,rfl,_⟩:=h
   rfl
 . obtain ⟨p,q,r,names,bs,cs,rfl,hO,hb,hc,kk⟩:=h
   have hu:=i9 hr
   have zF:ba 9 _:=hr.mono (by decide)
   have Dw:ba 11 _:=hr.mono (by decide)
   have JL:ba 10 _:=hr.mono (by decide)
   refine ⟨_,ae (ax (i:=3) jU.nd rfl (Or.inl rfl) (gg iM (by rfl) O2.list PyProof.Rows.boot_list (aa (pv 0) ab)))
    (ae (ax (i:=4) jU.nd rfl (Or.inl rfl) (az G.gK hr rfl G.mK G.kK G.bK .nil aw (aa (pv 0) (aa (pv 1) ab))))
    (ae (ax (i:=5) jU.nd rfl (Or.inl rfl) (az G.gK hr rfl G.mK G.kK G.bK .nil aw (aa (pv 0) (aa (pv 2) ab))))
    (ae (ax (i:=6) jU.nd rfl (Or.inl rfl) (az G.gK hr rfl G.mK G.kK G.bK .nil aw (aa (pv 0) (aa (dk (N:=["_law_a", "_law_b"]) (js:=[none,none]) (g:=nc K 2 (eY (cD 0) (eY (cD 1) m7))) (by kernel_rfl) rfl (uC rfl O2.zip (aa (pv 1) (aa (pv 2) ab)))
     (λ_ _ _ _ _ _=>ng rfl (d9 (aU (i:=0) rO rfl (Or.inl rfl) (.inr rfl)) (d9 (aU (i:=1) rO rfl (Or.inl rfl) (.inr rfl)) ly))) (λ_ _ _ _ _ _=>bz) (λ_ _ _ _ _ _=>aG nj (pv 0) (pv 1))) ab))))
    (ae (bf (eK (cT (az G.gS zF rfl G.mS G.kS G.bS .nil aw (aa (az G.gB Dw rfl G.mB G.kB G.bB .nil aw (aa (pv 3) (aa (pv 4) (aa (pv 5) ab)))) (aa (pv 6) ab))))) (aq (aJ dJ)) aN)
    (ae (ax (i:=6) jU.nd rfl (Or.inl rfl) (az G.gK hr rfl G.mK G.kK G.bK .nil aw (aa (pv 0) (aa (dk (N:=["_law_a", "_law_b"]) (js:=[none,none]) (g:=nc K 2 (eY (cD 0) (eY (cD 1) m7))) (by kernel_rfl) rfl (uC rfl O2.zip (aa (pv 1) (aa (pv 2) ab)))
     (λ_ _ _ _ _ _=>ng rfl (d9 (aU (i:=0) rO rfl (Or.inl rfl) (.inr rfl)) (d9 (aU (i:=1) rO rfl (Or.inl rfl) (.inr rfl)) ly))) (λ_ _ _ _ _ _=>bz) (λ_ _ _ _ _ _=>aG AH (pv 0) (pv 1))) ab))))
    (ae (bf (eK (cT (az G.gS zF rfl G.mS G.kS G.bS .nil aw (aa (az G.gE Dw rfl G.mE G.kE G.bE .nil aw (aa (pv 3) (aa (pv 4) (aa (pv 5) ab)))) (aa (pv 6) ab))))) (aq (aJ dJ)) aN)
    (ae (ax (i:=6) jU.nd rfl (Or.inl rfl) (az G.gK hr rfl G.mK G.kK G.bK .nil aw (aa (pv 0) (aa (dk (N:=["_law_a"]) (js:=[none]) (by kernel_rfl) rfl (fk (pv 1))
     (λ_ _ _ _ _ _=>aU (i:=0) E8 rfl (Or.inl rfl) (.inr rfl)) (λ_ _ _ _ _ _=>bz) (λ_ _ _ _ _ _=>aG su af (pv 0))) ab))))
    (aq (aJ (jX (az G.gS zF rfl G.mS G.kS G.bS .nil aw (aa (az G.gO JL rfl G.mO G.kO G.bO .nil aw (aa (pv 4) ab)) (aa (pv 6) ab))) (mW (i5 (xx (n:=1) hu) (pv 3) (pv 0) (bp _))))))))))))),?_⟩
   have n8:=hO.n8
   have hp:=oT n8
   have bl:=hb.len
   have cl:=hc.len
   have ml:names.length<9:=by omega
   refine ⟨_,rfl,p,_,rfl,.inl (ay.of hO.at_),λoh JM=>?_⟩
   have s1:ak H (upd H oh (.lst (names.map V.str))):=ak.aA JM
   have q1:(upd H oh (.lst (names.map V.str))) oh=some (.lst (names.map V.str)):=ag
   show dq _ _ _ _ (upd H oh (.lst (names.map V.str)))
   generalize upd H oh (.lst (names.map V.str))=H1 at s1 q1 ⊢
   have oO:Ord H1 oh names:=⟨q1,hO.nd,hO.ok,hO.n8⟩
   refine ⟨_,rfl,_,rfl,p,q,names,bs,rfl,s1 _ _ hO.at_,s1 _ _ hb.at_,ml,n8,bl,λv1 H2 s2 r1=>?_⟩
   have mh:=s1.trans s2
   refine ⟨_,rfl,_,rfl,p,r,names,cs,rfl,mh _ _ hO.at_,mh _ _ hc.at_,ml,n8,cl,λv2 H3 s3 r2=>?_⟩
   have jw:=mh.trans s3
   have r1:=r1.keep (bF s3)
   refine ⟨_,rfl,_,rfl,_,rfl,false,q,r,rfl,⟨_,jw _ _ hb.at_⟩,⟨_,jw _ _ hc.at_⟩,λD hD=>uD (f:=and) (λx y=>by cases x <;> cases y <;> decide +kernel) hD (jw _ _ hb.at_) (jw _ _ hc.at_) (by rw [bl,cl]) (by omega) λH4 s4 tQ=>?_⟩
   have uo:=jw.trans s4
   have zl:(List.zipWith and bs cs).length=2 ^ names.length:=by rw [List.length_zipWith,bl,cl,Nat.min_self]
   refine ⟨p,D,names,_,rfl,uo _ _ hO.at_,tQ,ml,n8,zl,λv3 H5 s5 r3=>?_⟩
   have iW:=s4.trans s5
   have Dx:=(s2.trans s3).trans iW
   refine ⟨_,rfl,_,rfl,_,rfl,oh,v1,v2,names,_,_,rfl,oO.same Dx,r1.keep (bF iW),r2.keep (bF iW),cj _ _,cj _ _,λv4 t4 H6 s6 r4 c4 e4=>?_⟩
   have et:t4=cn names (List.zipWith and bs cs):=cL hO.nd c4 (cj _ _) λe=>by rw [e4 e,kZ and e names bs cs bl cl]
   refine ⟨_,rfl,_,_,_,_,rfl,r4,r3.keep (bF s6),Nat.lt_of_le_of_lt (bG c4) ml,_,rfl,aZ (by rw [decide_eq_true et]; rfl) ?_⟩
   have JN:=iW.trans s6
   have JO:=Dx.trans s6
   have uF:=s1.trans JO
   refine ⟨_,rfl,_,rfl,_,rfl,false,q,r,rfl,⟨_,uF _ _ hb.at_⟩,⟨_,uF _ _ hc.at_⟩,λD2 nU=>uD (f:=or) (λx y=>by cases x <;> cases y <;> decide +kernel) nU (uF _ _ hb.at_) (uF _ _ hc.at_) (by rw [bl,cl]) (by omega) λH7 s7 JP=>?_⟩
   have ur:=uF.trans s7
   have JQ:(List.zipWith or bs cs).length=2 ^ names.length:=by rw [List.length_zipWith,bl,cl,Nat.min_self]
   refine ⟨p,D2,names,_,rfl,ur _ _ hO.at_,JP,ml,n8,JQ,λv5 H8 s8 r5=>?_⟩
   have wF:=JN.trans (s7.trans s8)
   have JR:=(s2.trans s3).trans wF
   refine ⟨_,rfl,_,rfl,_,rfl,oh,v1,v2,names,_,_,rfl,oO.same JR,r1.keep (bF wF),r2.keep (bF wF),cj _ _,cj _ _,λv6 t6 H9 s9 r6 c6 e6=>?_⟩
   have JS:t6=cn names (List.zipWith or bs cs):=cL hO.nd c6 (cj _ _) λe=>by rw [e6 e,kZ or e names bs cs bl cl]
   refine ⟨_,rfl,_,_,_,_,rfl,r6,r5.keep (bF s9),Nat.lt_of_le_of_lt (bG c6) ml,_,rfl,aZ (by rw [decide_eq_true JS]; rfl) ?_⟩
   have Dy:=wF.trans s9
   have zG:=jw.trans Dy
   refine ⟨_,rfl,_,rfl,q,rfl,⟨_,ay.of (zG _ _ hb.at_)⟩,λD3 nW=>lq (f:=not) (λx H R hR=>⟨_,rfl,_,_,rfl,rfl,by cases x <;> exact hR⟩) nW (zG _ _ hb.at_) (by omega) λHa sa JT=>?_⟩
   refine ⟨p,D3,names,_,rfl,sa _ _ (zG _ _ hO.at_),JT,ml,n8,by rw [List.length_map]; exact bl,λv7 Hb sb r7=>?_⟩
   have Dz:=Dy.trans (sa.trans sb)
   refine ⟨_,rfl,v1,_,rfl,r1.keep (bF Dz),Nat.le_trans (bG (cj _ _)) n8,qd (cj _ _) hO.ok,λv8 Hc sc r8=>?_⟩
   have JU:neg (cn names bs)=cn names (bs.map not):=cL hO.nd (xy (cj _ _)) (cj _ _) λe=>by rw [og,oI e names bs bl]
   have DA:=Dz.trans sc
   have DB:=jw.trans DA
   have JV:=(s2.trans s3).trans DA
   refine ⟨_,rfl,_,_,_,_,rfl,r8,r7.keep (bF sc),?_,_,rfl,bQ (decide_eq_true JU) ?_⟩
   . rw [lG]
     exact Nat.lt_of_le_of_lt (bG (cj _ _)) ml
   have lay:(PyData.list (names.map PyData.str)).canLay0=true:=by
    rw [PyData.canLay0]
    exact pZ λd hd=>by
     obtain ⟨z,hz,rfl⟩:=List.mem_map.mp hd
     rw [PyData.canLay0]
     exact hO.ok z hz
   refine ⟨_,rfl,_,rfl,.list (names.map PyData.str),.list (names.map PyData.str),.lst (ay.of (JV _ _ q1)) (jN names),.lst (ay.of (DB _ _ hO.at_)) (jN names),lay,lay,?_,?_⟩
   . rw [PyData.depth,qB]
     exact Nat.min_le_left _ _
   . rw [PyData.eqv,qz]
     exact kk Hc DB
end
end Gen
namespace Gen
open PySem L2
def mx (K:W.Frag):Sp:=λvs H Q _=>∃(a:Addr) (ns:List Int),vs=[.ref a]/\ay K H a (ns.map V.int)/\∀H',Q (.bl true) H'
abbrev E9:List Str:=["_law_script", "_law_names", "_law_k", "_law_one", "_law_other", "_law_full", "_law_none", "_law_some", "_law_back"]
section
variable (P:Program) (w:World) (K:W.Frag) (mg:Str->Option Value) (base:Heap)
structure zH (fD fN fT fR fU:Addr) (dD dN dT dR dU:FuncData):Prop where
 gD:av P w K mg base aH 3 fD dD ["_law_script"] (qu K)
 mD:mg "_law_order" = some (.ref fD)
 kD:W.keepIn K (.ref fD)=true
 bD:Binds K dD ["_law_script"] []
 gN:av P w K mg base aH 3 fN dN ["_law_script", "_law_k"] (oR K)
 mN:mg "_law_number" = some (.ref fN)
 kN:W.keepIn K (.ref fN)=true
 bN:Binds K dN ["_law_script", "_law_k"] []
 gT:av P w K mg base aH 1 fT dT ux uv
 mT:mg "_law_bits" = some (.ref fT)
 kT:W.keepIn K (.ref fT)=true
 bT:Binds K dT ux []
 gR:av P w K mg base aH 19 fR dR qC lN
 mR:mg "_law_right" = some (.ref fR)
 kR:W.keepIn K (.ref fR)=true
 bR:Binds K dR qC []
 gU:av P w K mg base aH 1 fU dU uy oS
 mU:mg "_law_turned" = some (.ref fU)
 kU:W.keepIn K (.ref fU)=true
 bU:Binds K dU uy []
end
theorem Ord.rev {H:Hp}{o p:Addr}{names:List Str}(h:Ord H o names) (hp:H p=some (.lst (names.reverse.map V.str))):Ord H p names.reverse:=⟨hp,List.pairwise_reverse.mpr (List.Pairwise.imp (λh z=>h z.symm) h.nd),λn hn=>h.ok n (List.mem_reverse.mp hn),by rw [List.length_reverse]; exact h.n8⟩
section
variable {P:Program}{w:World}{K:W.Frag}{mg:Str->Option Value}{base:Heap}{fD fN fT fR fU:Addr}{dD dN dT dR dU:FuncData}
theorem fi:aQ E9 ["_law_script"] (aj ij):=⟨rfl,rfl,rfl,by decide +kernel,rfl,by decide +kernel,by decide +kernel⟩
theorem zI {f:Addr}{fd:FuncData}(F:bY K "law" "law" ij f fd) (O:Own mg) (O2:fQ mg) (G:zH P w K mg base fD fN fT fR fU dD dN dT dR dU):av P w K mg base aH 20 f fd ["_law_script"] (mx K):=by
 refine F.ok fi (λvs H Q E h=>?_) (λcdv A outer s H vs Q E hr h=>?_)
 . obtain ⟨a,ns,rfl,_⟩:=h
   rfl
 . obtain ⟨a,ns,rfl,ha,kk⟩:=h
   have zJ:ba 3 _:=hr.mono (by decide)
   have dc:ba 1 _:=hr.mono (by decide)
   refine ⟨_,ae (ax (i:=1) fi.nd rfl (Or.inl rfl) (az G.gD zJ rfl G.mD G.kD G.bD .nil aw (aa (pv 0) ab)))
    (ae (fz PassesOwn.never rfl (cp rfl O.range (aa (aG dg af (aO (sA rfl) (by rfl) O2.min PyProof.Rows.boot_min (aa (aM (r:=eu K) br (dW (aa af (aa af ab))) (gg sC (by rfl) O2.int PyProof.Rows.boot_int (aa (i5 AI (aO aP (by rfl) O2.len PySem.boot_len (aa (pv 1) ab)) af (bp _)) ab)) (λ_ _=>rfl))
     (aa (aG gw (aO aP (by rfl) O2.len PySem.boot_len (aa (cF gx (pv 0) (cK af) (cK af)) ab)) af) ab)))) ab)) (aU (i:=2) fi.nd rfl (Or.inl rfl))
     (ae (ax (i:=3) fi.nd rfl (Or.inl rfl) (az G.gT dc rfl G.mT G.kT G.bT .nil aw (aa (az G.gN zJ rfl G.mN G.kN G.bN .nil aw (aa (pv 0) (aa (aG dg af (aG dQ af (pv 2))) ab))) (aa (aO aP (by rfl) O2.len PySem.boot_len (aa (pv 1) ab)) ab))))
     (ae (ax (i:=4) fi.nd rfl (Or.inl rfl) (az G.gT dc rfl G.mT G.kT G.bT .nil aw (aa (az G.gN zJ rfl G.mN G.kN G.bN .nil aw (aa (pv 0) (aa (aG dg af (aG dQ af (pv 2))) ab))) (aa (aO aP (by rfl) O2.len PySem.boot_len (aa (pv 1) ab)) ab))))
     (ae (qV (i:=5) (N:=["_law_bit"]) (js:=[none]) fi.nd rfl rfl (by kernel_rfl) rfl (fk (pv 3)) (λ_ _ _ _ _ _=>aU (i:=0) vz rfl (Or.inl rfl) (.inr rfl)) (λ_ _ _ _ _ _=>bz) (λ_ _ _ _ _ _=>af))
     (ae (qV (i:=6) (N:=["_law_bit"]) (js:=[none]) fi.nd rfl rfl (by kernel_rfl) rfl (fk (pv 3)) (λ_ _ _ _ _ _=>aU (i:=0) vz rfl (Or.inl rfl) (.inr rfl)) (λ_ _ _ _ _ _=>bz) (λ_ _ _ _ _ _=>af))
     (aq (fz PassesOwn.never rfl (fk (dW (aa (pv 4) (aa (pv 5) (aa (pv 6) (aa (pv 3) (aa (dk (N:=["_law_bit"]) (js:=[none]) (by kernel_rfl) rfl (fk (pv 3)) (λ_ _ _ _ _ _=>aU (i:=0) vz rfl (Or.inl rfl) (.inr rfl)) (λ_ _ _ _ _ _=>bz) (λ_ _ _ _ _ _=>aG su af (pv 0))) ab))))))) (aU (i:=7) fi.nd rfl (Or.inl rfl))
      (ae (bf (PW.pt (i0 (eK (cT (az G.gR hr rfl G.mR G.kR G.bR .nil aw (aa (pv 1) (aa (pv 3) (aa (pv 7) ab)))))) (jW (eK (cT (az G.gR hr rfl G.mR G.kR G.bR .nil aw (aa (pv 1) (aa (pv 7) (aa (pv 3) ab))))))))) (aq (aJ dJ)) aN)
      (ae (ax (i:=8) fi.nd rfl (Or.inl rfl) (dW (aa (az G.gU dc rfl G.mU G.kU G.bU .nil aw (aa (pv 3) (aa (aO aP (by rfl) O2.len PySem.boot_len (aa (pv 1) ab)) ab))) (aa (az G.gU dc rfl G.mU G.kU G.bU .nil aw (aa (pv 7) (aa (aO aP (by rfl) O2.len PySem.boot_len (aa (pv 1) ab)) ab))) ab))))
      (ae (bf (PW.pt (rW (bq dj (pv 2) af (bp _)) (pE (eK (cT (az G.gR hr rfl G.mR G.kR G.bR .nil aw (aa (zp (by rfl) O2.list (by rfl) O2.rev rfl (aa (pv 1) ab)) (aa (aM (r:=eu K) br (pv 8) af (λ_ _=>rfl)) (aa (aM (r:=eu K) br (pv 8) af (λ_ _=>rfl)) ab))))))))) (aq (aJ dJ)) aN)
      (aq (bf (PW.pt (rW (bq dj (pv 2) af (bp _)) (pE (eK (cT (az G.gR hr rfl G.mR G.kR G.bR .nil aw (aa (pv 1) (aa (pv 3) (aa (pv 7) ab))))))))) (aq (aJ dJ)) aN))))))))))))
    (aq (aJ dJ))),?_⟩
   refine ⟨_,rfl,a,ns,rfl,ha,λnm names H1 s1 mj hO=>?_⟩
   have n8:=hO.n8
   have hp:=oT n8
   have t7:=ak.seq s1 ha
   have wG:(names.map V.str).length<=8:=by rw [List.length_map]; exact n8
   refine ⟨(by show 2<=sizeLine; decide),λL hL=>?_⟩
   have s2:ak H1 (upd H1 L (.lst [.int 10,.int 2])):=ak.aA hL
   have q2:(upd H1 L (.lst [.int 10,.int 2])) L=some (.lst [.int 10,.int 2]):=ag
   generalize upd H1 L (.lst [.int 10,.int 2])=H2 at s2 q2 ⊢
   refine ⟨_,rfl,nm,_,rfl,.inl (ay.of (s2 _ _ hO.at_)),_,_,rfl,rfl,.inr ⟨_,rfl,?_⟩⟩
   obtain ⟨m0,Dh,JW⟩:∃m0:Int,(m0=10\/m0=2)/\ir [V.int 10,V.int 2] (if decide ((6:Int)<(((names.map V.str).length:Nat):Int))=true then 1 else 0)=some (.int m0):=by
    by_cases h:(6:Int)<(((names.map V.str).length:Nat):Int)
    . exact ⟨2,.inr rfl,by rw [decide_eq_true h]; rfl⟩
    . exact ⟨10,.inl rfl,by rw [decide_eq_false h]; rfl⟩
   refine ⟨L,_,_,.int m0,rfl,rfl,ay.of q2,JW,?_⟩
   refine ⟨_,rfl,_,rfl,_,rfl,a,_,rfl,ak.seq s2 t7,λc hc=>?_⟩
   have s3:ak H2 (upd H2 c (.lst (cy (ns.map V.int) (some 1) (some 63)))):=ak.aA hc
   have q3:(upd H2 c (.lst (cy (ns.map V.int) (some 1) (some 63)))) c=some (.lst (cy (ns.map V.int) (some 1) (some 63))):=ag
   generalize upd H2 c (.lst (cy (ns.map V.int) (some 1) (some 63)))=H3 at s3 q3 ⊢
   have j0:0<=(((cy (ns.map V.int) (some 1) (some 63)).length:Nat):Int) / 2:=by omega
   refine ⟨c,_,rfl,.inl (ay.of q3),_,_,rfl,rfl,⟨by decide,by decide⟩,_,_,rfl,_,_,rfl,rfl,?_⟩
   have JX:=s2.trans s3
   have DC:(1:Int)+(if (((cy (ns.map V.int) (some 1) (some 63)).length:Nat):Int) / 2<m0 then (((cy (ns.map V.int) (some 1) (some 63)).length:Nat):Int) / 2 else m0)<=11:=by split <;> omega
   have DD : -(2 ^ 62)<=(1:Int)+(if (((cy (ns.map V.int) (some 1) (some 63)).length:Nat):Int) / 2<m0 then (((cy (ns.map V.int) (some 1) (some 63)).length:Nat):Int) / 2 else m0):=by
    have:(-1:Int)<=(if (((cy (ns.map V.int) (some 1) (some 63)).length:Nat):Int) / 2<m0 then (((cy (ns.map V.int) (some 1) (some 63)).length:Nat):Int) / 2 else m0):=by
     split <;> omega
    exact Int.le_trans (by decide : -(2 ^ 62)<=(0:Int)) (by omega)
   refine ⟨_,rfl,DD,Int.lt_of_le_of_lt DC (by decide),du (λi σ Hi=>∃(v2 v3 v4 v5 v6 v7 v8:Option V),σ=[some (.ref a),some (.ref nm),v2,v3,v4,v5,v6,v7,v8]/\ak H1 Hi) ⟨none,none,none,none,none,none,none,rfl,JX⟩ ?_ ?_⟩
   . rintro i σ Hi hi ⟨v2,v3,v4,v5,v6,v7,v8,rfl,si⟩
     have Lv:(i:Int)<11:=by omega
     clear DC DD hi
     have JY:=ak.seq si t7
     have JZ:=hO.same si
     refine ⟨_,rfl,_,rfl,_,_,rfl,rfl,.inl ⟨by decide,by decide⟩,_,_,rfl,rfl,a,ns,_,rfl,JY,by omega,by omega,λx1=>?_⟩
     refine ⟨_,rfl,nm,_,rfl,.inl (ay.of JZ.at_),x1,_,rfl,wG,λq bs H4 s4 _ y8 lb=>?_⟩
     rw [List.length_map] at lb
     have r1:Row H4 q bs names.length:=⟨y8,lb⟩
     have zK:=si.trans s4
     refine ⟨_,rfl,_,rfl,_,_,rfl,rfl,.inl ⟨by decide,by decide⟩,_,_,rfl,rfl,a,ns,_,rfl,ak.seq zK t7,by omega,by omega,λx2=>?_⟩
     refine ⟨_,rfl,nm,_,rfl,.inl (ay.of (zK _ _ hO.at_)),x2,_,rfl,wG,λq' J0 H5 s5 _ J1 DE=>?_⟩
     rw [List.length_map] at DE
     have r2:Row H5 q' J0 names.length:=⟨J1,DE⟩
     have zL:=r1.same s5
     refine ⟨_,rfl,q,rfl,⟨_,ay.of zL.at_⟩,λD1 tP=>lq (f:=λ_=>true) (λx H R hR=>hR) tP zL.at_ (by omega) λH6 s6 J2=>?_⟩
     have r3:Row H6 D1 (bs.map λ_=>true) names.length:=⟨J2,by rw [List.length_map]; exact lb⟩
     have zM:=zL.same s6
     refine ⟨_,rfl,q,rfl,⟨_,ay.of zM.at_⟩,λD2 nU=>lq (f:=λ_=>false) (λx H R hR=>hR) nU zM.at_ (by omega) λH7 s7 J3=>?_⟩
     have r4:Row H7 D2 (bs.map λ_=>false) names.length:=⟨J3,by rw [List.length_map]; exact lb⟩
     have zN:=zM.same s7
     refine ⟨_,rfl,_,rfl,_,rfl,_,rfl,_,rfl,q,rfl,⟨_,ay.of zN.at_⟩,λD3 nW=>lq (f:=not) (λx H R hR=>⟨_,rfl,_,_,rfl,rfl,by cases x <;> exact hR⟩) nW zN.at_ (by omega) λH8 s8 J4=>?_⟩
     have r5:Row H8 D3 (bs.map not) names.length:=⟨J4,by rw [List.length_map]; exact lb⟩
     refine ⟨(by show 5<=sizeLine; decide),λLL J5=>?_⟩
     have s9:ak H8 (upd H8 LL (.lst [.ref q',.ref D1,.ref D2,.ref q,.ref D3])):=ak.aA J5
     have q9:(upd H8 LL (.lst [.ref q',.ref D1,.ref D2,.ref q,.ref D3])) LL=some (.lst [.ref q',.ref D1,.ref D2,.ref q,.ref D3]):=ag
     generalize upd H8 LL (.lst [.ref q',.ref D1,.ref D2,.ref q,.ref D3])=H9 at s9 q9 ⊢
     have DF:=zK.trans (s5.trans (s6.trans (s7.trans (s8.trans s9))))
     have uG:=zN.same (s8.trans s9)
     have J6:=hO.same DF
     have rows:∀x∈[V.ref q',.ref D1,.ref D2,.ref q,.ref D3],∃r cs,x=.ref r/\Row H9 r cs names.length:=λx hx=>by
      simp only [List.mem_cons,List.not_mem_nil,or_false] at hx
      rcases hx with rfl | rfl | rfl | rfl | rfl
      . exact ⟨_,_,rfl,r2.same (s6.trans (s7.trans (s8.trans s9)))⟩
      . exact ⟨_,_,rfl,r3.same (s7.trans (s8.trans s9))⟩
      . exact ⟨_,_,rfl,r4.same (s8.trans s9)⟩
      . exact ⟨_,_,rfl,uG⟩
      . exact ⟨_,_,rfl,r5.same s9⟩
     refine ⟨LL,rfl,⟨_,ay.of q9⟩,uP (K:=K) (a:=LL) (xs:=[V.ref q',.ref D1,.ref D2,.ref q,.ref D3]) (λ_ σ Hi=>∃(v7 v8:Option V),σ=[some (.ref a),some (.ref nm),some (.int (0+(i:Int))),some (.ref q),some (.ref q'),some (.ref D1),some (.ref D2),v7,v8]/\ak H9 Hi) ?_ ?_ ?_ ?_⟩
     . exact ⟨_,_,rfl,λ_ _ h=>h⟩
     . rintro j σ Hj _ ⟨v7,v8,rfl,sj⟩
       exact ay.of (sj _ _ q9)
     . rintro j xv σ Hj hx ⟨v7,v8,rfl,sj⟩
       obtain ⟨r,cs,rfl,oX⟩:=rows _ (List.mem_of_getElem? hx)
       have ord:∀{Hx:Hp},ak H9 Hx->Ord Hx nm names:=λs=>J6.same s
       refine ⟨_,rfl,_,rfl,_,rfl,nm,q,r,names,bs,cs,rfl,ord sj,uG.same sj,oX.same sj,λHa sa=>⟨_,rfl,aZ rfl ?_⟩⟩
       have wH:=sj.trans sa
       refine ⟨_,rfl,_,rfl,_,rfl,nm,r,q,names,cs,bs,rfl,ord wH,oX.same wH,uG.same wH,λHb sb=>⟨_,rfl,aZ rfl ?_⟩⟩
       have zO:=wH.trans sb
       refine ⟨_,rfl,_,rfl,nm,_,rfl,.inl (ay.of (ord zO).at_),q,bs,_,rfl,wG,(uG.same zO).at_,by rw [List.length_map]; exact lb,λt1 e1 Hc sc _ zb DG=>?_⟩
       have zP:=zO.trans sc
       refine ⟨_,rfl,_,rfl,nm,_,rfl,.inl (ay.of (ord zP).at_),r,cs,_,rfl,wG,(oX.same zP).at_,by rw [List.length_map]; exact oX.len,λt2 e2 Hd sd _ hd2 DH=>?_⟩
       rw [List.length_map] at DG DH
       refine ⟨(by show 2<=sizeLine; decide),λB hB=>?_⟩
       have se:ak Hd (upd Hd B (.lst [.ref t1,.ref t2])):=ak.aA hB
       have qe:(upd Hd B (.lst [.ref t1,.ref t2])) B=some (.lst [.ref t1,.ref t2]):=ag
       show dq _ _ _ _ (upd Hd B (.lst [.ref t1,.ref t2]))
       generalize upd Hd B (.lst [.ref t1,.ref t2])=He at se qe ⊢
       have zQ:=zP.trans (sd.trans se)
       refine ⟨_,rfl,rfl,_,rfl,?_⟩
       by_cases hk:i=0
       . refine bQ (decide_eq_true (by rw [hk]; rfl)) ?_
         refine ⟨_,rfl,nm,_,rfl,ay.of (ord zQ).at_,λl hl=>?_⟩
         rw [← List.map_reverse]
         have sf:ak He (upd He l (.lst (names.reverse.map V.str))):=ak.aA hl
         have qf:(upd He l (.lst (names.reverse.map V.str))) l=some (.lst (names.reverse.map V.str)):=ag
         generalize upd He l (.lst (names.reverse.map V.str))=Hf at sf qf ⊢
         have DI:=zQ.trans sf
         refine ⟨_,rfl,B,_,0,_,rfl,rfl,ay.of (sf _ _ qe),aF (j:=0) rfl,_,rfl,B,_,1,_,rfl,rfl,ay.of (sf _ _ qe),aF (j:=1) rfl,l,t1,t2,names.reverse,e1,e2,rfl,(ord DI).rev qf,⟨sf _ _ (se _ _ (sd _ _ zb)),by rw [List.length_reverse]; exact DG⟩,⟨sf _ _ (se _ _ hd2),by rw [List.length_reverse]; exact DH⟩,λHg sg=>⟨_,rfl,aZ rfl ?_⟩⟩
         have wI:=DI.trans sg
         refine ⟨_,rfl,rfl,_,rfl,bQ (decide_eq_true (by rw [hk]; rfl)) ?_⟩
         refine ⟨_,rfl,_,rfl,_,rfl,nm,q,r,names,bs,cs,rfl,ord wI,uG.same wI,oX.same wI,λHh sh=>⟨_,rfl,aZ rfl ?_⟩⟩
         exact ⟨_,_,rfl,wI.trans sh⟩
       . have iO:decide (V.int (0+(i:Int))=V.int 0)=false:=decide_eq_false λz=>hk (by have:=V.int.inj z; omega)
         refine aZ iO (gr ⟨_,rfl,rfl,_,rfl,aZ iO (gr ⟨_,_,rfl,zQ⟩)⟩)
     . rintro σ Hj ⟨v7,v8,rfl,sj⟩
       exact ⟨_,_,_,_,_,_,_,rfl,DF.trans sj⟩
   . rintro σ Hi ⟨v2,v3,v4,v5,v6,v7,v8,rfl,si⟩
     exact kk Hi
end
end Gen
namespace Gen
open PySem L2
section
variable {P:Program}{w:World}{K:W.Frag}{mg:Str->Option Value}{base:Heap}{C:Addr}
theorem ft {k:Nat}{f:Addr}{fd:FuncData}{ps:List Str}{sp:Sp}(h:∀vs H Q E,¬ sp vs H Q E):av P w K mg base aH k f fd ps sp:=⟨λvs H Q E q=>(h _ _ _ _ q).elim,λA outer s H args us vs Q E _ _ _ _ q=>(h _ _ _ _ q).elim⟩
theorem mm {f fN:Addr}{fd dN:FuncData}(F:bY K "taken" "Forest.taken" fV f fd) (T:eX K mg C) (mT:Meth K C "taken" f) (bT:Binds K fd ["self", "tree"] []) (gN:av P w K mg base aH 1 fN dN iz (gz P w C)) (mN:Meth K C "node" fN) (bN:Binds K dN iz []) :
 ∀d,av P w K mg base aH (d+1) f fd ["self", "tree"] (jf P w C d)
 | 0=>ft λvs H Q E ⟨_,_,_,_,_,_,_,_,_,_,_,_,_,_,_,_,_,_,h,_⟩=>Nat.not_lt_zero _ h
 | d+1=>vi F T (mm F T mT bT gN mN bN d) mT bT gN mN bN
theorem jx {f:Addr}{fd:FuncData}(F:bY K "tree_at" "Forest.tree_at" eC f fd) (T:eX K mg C) (mT:Meth K C "tree_at" f) (bT:Binds K fd ["self", "number"] []):∀d,av P w K mg base aH (d+1) f fd ["self", "number"] (hW P w C d)
 | 0=>ft λvs H Q E ⟨_,_,_,_,_,_,_,_,_,_,_,_,_,_,_,_,h,_⟩=>Nat.not_lt_zero _ h
 | d+1=>rq F T (jx F T mT bT d) mT bT
theorem lr {f fN fH:Addr}{fd dN dH:FuncData}(F:bY K "chosen" "Forest.chosen" eE f fd) (T:eX K mg C) (O2:fQ mg) (mC:Meth K C "chosen" f) (bC:Binds K fd kM []) (gN:av P w K mg base aH 1 fN dN iz (gz P w C)) (mN:Meth K C "node" fN) (bN:Binds K dN iz [])
 (gH:av P w K mg base aH 1 fH dH ["self", "number", "spot", "side"] (kG P w C)) (mH:Meth K C "half" fH) (bH:Binds K dH ["self", "number", "spot", "side"] []):∀d,av P w K mg base aH (d+1) f fd kM (hX P w C d)
 | 0=>ft λvs H Q E ⟨_,_,_,_,_,_,_,_,_,_,_,_,_,_,_,_,_,_,_,_,h,_⟩=>Nat.not_lt_zero _ h
 | d+1=>t8 F T O2 (lr F T O2 mC bC gN mN bN gH mH bH d) mC bC gN mN bN gH mH bH
theorem qD {f:Addr}{fd:FuncData}(F:bY K "opposite_by" "opposite_by" fW f fd) (mO:mg "opposite_by" = some (.ref f)) (bO:Binds K fd kX []):∀d,av P w K mg base aH d f fd kX (ji P w d)
 | 0=>ft λvs H Q E ⟨_,_,_,_,_,_,_,_,_,_,h,_⟩=>Nat.not_lt_zero _ h
 | d+1=>uk F (qD F mO bO d) mO bO
theorem oY {f:Addr}{fd:FuncData}(F:bY K "_law_same_tree" "_law_same_tree" fZ f fd) (T:fQ mg) (mS:mg "_law_same_tree" = some (.ref f)) (bS:Binds K fd gb []):∀d,av P w K mg base aH d f fd gb (eF d)
 | 0=>ft λvs H Q E ⟨_,_,_,_,_,_,_,h,_⟩=>Nat.not_lt_zero _ h
 | d+1=>oJ F T (oY F T mS bS d) mS bS
theorem mn {f fS:Addr}{fd dS:FuncData}(F:bY K "_law_canon" "_law_canon" fX f fd) (O2:fQ mg) (mC:mg "_law_canon" = some (.ref f)) (bC:Binds K fd jv [])
 (gS:av P w K mg base aH 9 fS dS gb (eF 9)) (mS:mg "_law_same_tree" = some (.ref fS)) (kS:W.keepIn K (.ref fS)=true) (bS:Binds K dS gb []):∀d,av P w K mg base aH (d+9) f fd jv (gJ d)
 | 0=>ft λvs H Q E ⟨_,_,_,_,_,_,_,h,_⟩=>Nat.not_lt_zero _ h
 | d+1=>(show d+9+1=d+1+9 by omega) ▸ vn F O2 (mn F O2 mC bC gS mS kS bS d) mC bC gS mS kS bS
end
end Gen
namespace L2
open PySem PySem.Spec PyProof.Rows
theorem vB {α:Type} : ∀{us:List α},us.length=1->∃a,us=[a]
 | [a],_=>⟨a,rfl⟩
theorem vC {α:Type} : ∀{us:List α}{n:Nat},us.length=n+1->∃a r,us=a::r/\r.length=n
 | a::r,_,h=>⟨a,r,rfl,Nat.succ.inj h⟩
theorem dr {α:Type}{us:List α}(h:us.length=2):∃a b,us=[a,b]:=by
 obtain ⟨a,r,rfl,h1⟩:=vC h
 obtain ⟨b,rfl⟩:=vB h1
 exact ⟨a,b,rfl⟩
theorem rP {α:Type}{us:List α}(h:us.length=3):∃a b c,us=[a,b,c]:=by
 obtain ⟨a,r,rfl,h1⟩:=vC h
 obtain ⟨b,c,rfl⟩:=dr h1
 exact ⟨a,b,c,rfl⟩
theorem vD {α:Type}{us:List α}(h:us.length=4):∃a b c d,us=[a,b,c,d]:=by
 obtain ⟨a,r,rfl,h1⟩:=vC h
 obtain ⟨b,c,d,rfl⟩:=rP h1
 exact ⟨a,b,c,d,rfl⟩
end L2
namespace Gen
open PySem L2
section
theorem all_mk {l:W.OpenLaw}{w:World}{K:W.Frag}{h:Heap}{mg:Str->Option Value}{fa C oZ o2 o3 o4 o6 o7 f2 f3 f4 f5 f8 f9 wJ wK wL wM wN zR zS zT zU wO zV:Addr}(X:K.In h) (G:h.Ns mainGlobals mg) (J7:mg "law" = some (.ref fa))
 {Bk Bl Bm Bn Bo Bp Bq Br Bs Bt Bu Bv J8 J9 Ka Kb Kc Kd Ke Kf Kg Kh Ki Kj Fb Fc Fd Fe Ff Fg Fh Fi Fj Fl Fm Fn Fo Fp Fq Fs Ft Fu Fv Fw Fx zW:Option Addr}{Bw Bx By Bz BA BB Kk Kl Km Kn Ko Kq Fy Fz FA FC FD FE FF FG FH FI FJ:Array (Option Value)}{BC BD BE BF wQ BG BH BI BJ BK wR BL BM BN BO BP wU BQ BR BS BU BV wV BW BX BY BZ B0 wW B5 B6 B7 B8 B9 wX Ca Kr Ks Kt Ku DJ Kv Kw Kx Ky Kz DK KA KC KD KG KH DL KI KJ KL KN KO DM KP KQ KR KS KU DN KW KY KZ K0 K1 DO K2 FK FL FN FQ zX FR FT FU FV FW zY FX FY FZ F0 F1 zZ F6 F7 Ga Gb Gd Aa Ge Gf Gg Gh Gi Ab Gj Gk Gm Gn Gp Ac Gq Gr Gs Gu Gv Ad Gw Gx Gy Gz GA Ae GB GC GD GG GH Af GI GJ GK GL GN Ag GO GQ Ah Ai Aj vE Ak:Value}
 (aC:W.nsIn K mainGlobals "Forest" = some (some (.ref C)))
 (a100:W.findIn K (.ref C) "__init__" = some (some (.ref oZ))) (i100:W.isFn K (.ref oZ)=true) (l100:K.lookup oZ=some ⟨BC,Bk,.func (W.fnOf "__init__" "Forest.__init__" (aL gG) (aK gG) (aj gG) .none BD BE BF Bl wQ BG),Bw⟩) (c100:W.codeIn K wQ "Forest.__init__" = true) (k100:W.keepIn K (.ref oZ)=true)
 (a101:W.findIn K (.ref C) "node" = some (some (.ref o2))) (i101:W.isFn K (.ref o2)=true) (l101:K.lookup o2=some ⟨BH,Bm,.func (W.fnOf "node" "Forest.node" (aL jd) (aK jd) (aj jd) .none BI BJ BK Bn wR BL),Bx⟩) (c101:W.codeIn K wR "Forest.node" = true) (k101:W.keepIn K (.ref o2)=true)
 (a102:W.findIn K (.ref C) "taken" = some (some (.ref o3))) (i102:W.isFn K (.ref o3)=true) (l102:K.lookup o3=some ⟨BM,Bo,.func (W.fnOf "taken" "Forest.taken" (aL fV) (aK fV) (aj fV) .none BN BO BP Bp wU BQ),By⟩) (c102:W.codeIn K wU "Forest.taken" = true) (k102:W.keepIn K (.ref o3)=true)
 (a103:W.findIn K (.ref C) "tree_at" = some (some (.ref o4))) (i103:W.isFn K (.ref o4)=true) (l103:K.lookup o4=some ⟨BR,Bq,.func (W.fnOf "tree_at" "Forest.tree_at" (aL eC) (aK eC) (aj eC) .none BS BU BV Br wV BW),Bz⟩) (c103:W.codeIn K wV "Forest.tree_at" = true) (k103:W.keepIn K (.ref o4)=true)
 (a104:W.findIn K (.ref C) "chosen" = some (some (.ref o6))) (i104:W.isFn K (.ref o6)=true) (l104:K.lookup o6=some ⟨BX,Bs,.func (W.fnOf "chosen" "Forest.chosen" (aL eE) (aK eE) (aj eE) .none BY BZ B0 Bt wW B5),BA⟩) (c104:W.codeIn K wW "Forest.chosen" = true) (k104:W.keepIn K (.ref o6)=true)
 (a105:W.findIn K (.ref C) "half" = some (some (.ref o7))) (i105:W.isFn K (.ref o7)=true) (l105:K.lookup o7=some ⟨B6,Bu,.func (W.fnOf "half" "Forest.half" (aL je) (aK je) (aj je) .none B7 B8 B9 Bv wX Ca),BB⟩) (c105:W.codeIn K wX "Forest.half" = true) (k105:W.keepIn K (.ref o7)=true)
 (a2:W.nsIn K mainGlobals "both" = some (some (.ref f2))) (l2:K.lookup f2=some ⟨Kr,J8,.func (W.fnOf "both" "both" (aL jg) (aK jg) (aj jg) .none Ks Kt Ku J9 DJ Kv),Kk⟩) (c2:W.codeIn K DJ "both" = true) (k2:W.keepIn K (.ref f2)=true)
 (a3:W.nsIn K mainGlobals "either" = some (some (.ref f3))) (l3:K.lookup f3=some ⟨Kw,Ka,.func (W.fnOf "either" "either" (aL fm) (aK fm) (aj fm) .none Kx Ky Kz Kb DK KA),Kl⟩) (c3:W.codeIn K DK "either" = true) (k3:W.keepIn K (.ref f3)=true)
 (a4:W.nsIn K mainGlobals "opposite" = some (some (.ref f4))) (l4:K.lookup f4=some ⟨KC,Kc,.func (W.fnOf "opposite" "opposite" (aL lJ) (aK lJ) (aj lJ) .none KD KG KH Kd DL KI),Km⟩) (c4:W.codeIn K DL "opposite" = true) (k4:W.keepIn K (.ref f4)=true)
 (a5:W.nsIn K mainGlobals "opposite_by" = some (some (.ref f5))) (l5:K.lookup f5=some ⟨KJ,Ke,.func (W.fnOf "opposite_by" "opposite_by" (aL fW) (aK fW) (aj fW) .none KL KN KO Kf DM KP),Kn⟩) (c5:W.codeIn K DM "opposite_by" = true) (k5:W.keepIn K (.ref f5)=true)
 (a8:W.nsIn K mainGlobals "_law_cell_at" = some (some (.ref f8))) (l8:K.lookup f8=some ⟨KQ,Kg,.func (W.fnOf "_law_cell_at" "_law_cell_at" (aL jb) (aK jb) (aj jb) .none KR KS KU Kh DN KW),Ko⟩) (c8:W.codeIn K DN "_law_cell_at" = true) (k8:W.keepIn K (.ref f8)=true)
 (a9:W.nsIn K mainGlobals "_law_mix" = some (some (.ref f9))) (l9:K.lookup f9=some ⟨KY,Ki,.func (W.fnOf "_law_mix" "_law_mix" (aL jK) (aK jK) (aj jK) .none KZ K0 K1 Kj DO K2),Kq⟩) (c9:W.codeIn K DO "_law_mix" = true) (k9:W.keepIn K (.ref f9)=true)
 (a10:W.nsIn K mainGlobals "_law_rich" = some (some (.ref wJ))) (l10:K.lookup wJ=some ⟨FK,Fb,.func (W.fnOf "_law_rich" "_law_rich" (aL jc) (aK jc) (aj jc) .none FL FN FQ Fc zX FR),Fy⟩) (c10:W.codeIn K zX "_law_rich" = true) (k10:W.keepIn K (.ref wJ)=true)
 (a11:W.nsIn K mainGlobals "_law_pick" = some (some (.ref wK))) (l11:K.lookup wK=some ⟨FT,Fd,.func (W.fnOf "_law_pick" "_law_pick" (aL g9) (aK g9) (aj g9) .none FU FV FW Fe zY FX),Fz⟩) (c11:W.codeIn K zY "_law_pick" = true) (k11:W.keepIn K (.ref wK)=true)
 (a12:W.nsIn K mainGlobals "_law_spelt" = some (some (.ref wL))) (l12:K.lookup wL=some ⟨FY,Ff,.func (W.fnOf "_law_spelt" "_law_spelt" (aL eO) (aK eO) (aj eO) .none FZ F0 F1 Fg zZ F6),FA⟩) (c12:W.codeIn K zZ "_law_spelt" = true) (k12:W.keepIn K (.ref wL)=true)
 (a13:W.nsIn K mainGlobals "_law_canon" = some (some (.ref wM))) (l13:K.lookup wM=some ⟨F7,Fh,.func (W.fnOf "_law_canon" "_law_canon" (aL fX) (aK fX) (aj fX) .none Ga Gb Gd Fi Aa Ge),FC⟩) (c13:W.codeIn K Aa "_law_canon" = true) (k13:W.keepIn K (.ref wM)=true)
 (a14:W.nsIn K mainGlobals "_law_same_tree" = some (some (.ref wN))) (l14:K.lookup wN=some ⟨Gf,Fj,.func (W.fnOf "_law_same_tree" "_law_same_tree" (aL fZ) (aK fZ) (aj fZ) .none Gg Gh Gi Fl Ab Gj),FD⟩) (c14:W.codeIn K Ab "_law_same_tree" = true) (k14:W.keepIn K (.ref wN)=true)
 (a15:W.nsIn K mainGlobals "_law_order" = some (some (.ref zR))) (l15:K.lookup zR=some ⟨Gk,Fm,.func (W.fnOf "_law_order" "_law_order" (aL di) (aK di) (aj di) .none Gm Gn Gp Fn Ac Gq),FE⟩) (c15:W.codeIn K Ac "_law_order" = true) (k15:W.keepIn K (.ref zR)=true)
 (a16:W.nsIn K mainGlobals "_law_number" = some (some (.ref zS))) (l16:K.lookup zS=some ⟨Gr,Fo,.func (W.fnOf "_law_number" "_law_number" (aL fo) (aK fo) (aj fo) .none Gs Gu Gv Fp Ad Gw),FF⟩) (c16:W.codeIn K Ad "_law_number" = true) (k16:W.keepIn K (.ref zS)=true)
 (a17:W.nsIn K mainGlobals "_law_bits" = some (some (.ref zT))) (l17:K.lookup zT=some ⟨Gx,Fq,.func (W.fnOf "_law_bits" "_law_bits" (aL jj) (aK jj) (aj jj) .none Gy Gz GA Fs Ae GB),FG⟩) (c17:W.codeIn K Ae "_law_bits" = true) (k17:W.keepIn K (.ref zT)=true)
 (a18:W.nsIn K mainGlobals "_law_turned" = some (some (.ref zU))) (l18:K.lookup zU=some ⟨GC,Ft,.func (W.fnOf "_law_turned" "_law_turned" (aL fq) (aK fq) (aj fq) .none GD GG GH Fu Af GI),FH⟩) (c18:W.codeIn K Af "_law_turned" = true) (k18:W.keepIn K (.ref zU)=true)
 (a19:W.nsIn K mainGlobals "_law_right" = some (some (.ref wO))) (l19:K.lookup wO=some ⟨GJ,Fv,.func (W.fnOf "_law_right" "_law_right" (aL gQ) (aK gQ) (aj gQ) .none GK GL GN Fw Ag GO),FI⟩) (c19:W.codeIn K Ag "_law_right" = true) (k19:W.keepIn K (.ref wO)=true)
 (a20:W.nsIn K mainGlobals "law" = some (some (.ref zV))) (l20:K.lookup zV=some ⟨GQ,Fx,.func (W.fnOf "law" "law" (aL ij) (aK ij) (aj ij) .none Ah Ai Aj zW vE Ak),FJ⟩) (c20:W.codeIn K vE "law" = true) (k20:W.keepIn K (.ref zV)=true)
 (pg:W.plainGet K C Str.empty=true) (hd:W.hasDictIn K C=true) (po:W.plainOver K C=true) (sa:W.findIn K (.ref C) "__setattr__" = some (some (.builtin "object.__setattr__"))) (mk:W.makesIn K C=true) (kc:W.keepIn K (.ref C)=true)
 (n1:W.findIn K (.ref C) "names" = some none) (n2:W.findIn K (.ref C) "spots" = some none) (n3:W.findIn K (.ref C) "nodes" = some none) (n4:W.findIn K (.ref C) "known" = some none) (n5:W.findIn K (.ref C) "choices" = some none) (n6:W.findIn K (.ref C) "imported" = some none) (n7:W.findIn K (.ref C) "exported" = some none)
 (z0:W.nsIn K mainGlobals "len" = some none) (z1:W.nsIn K mainGlobals "range" = some none) (z2:W.nsIn K mainGlobals "enumerate" = some none) (z3:W.nsIn K mainGlobals "list" = some none) (z4:W.nsIn K mainGlobals "dict" = some none) (z5:W.nsIn K mainGlobals "tuple" = some none) (z6:W.nsIn K mainGlobals "str" = some none) (z7:W.nsIn K mainGlobals "int" = some none) (z8:W.nsIn K mainGlobals "bool" = some none) (z9:W.nsIn K mainGlobals "zip" = some none) (z10:W.nsIn K mainGlobals "isinstance" = some none) (z11:W.nsIn K mainGlobals "min" = some none) (z12:W.nsIn K mainGlobals "reversed" = some none)
 :
 ∃fd:FuncData,(∀(s:Shared) (v:Value),BindsTo s fd ⟨[v],[]⟩ [("_law_script",v)])/\∀base:Heap,K.In base->base.Ns mainGlobals mg->av l.prog w K mg base aH 20 fa fd ["_law_script"] (mx K):=by
 have e:=J7.symm.trans (W.mg_of X G a20)
 cases e
 have T:eX K mg C:=⟨⟨pg,hd,po,sa⟩,n1,n2,n3,n4,n5,n6,n7,W.mg_of X G aC⟩
 have O:Own mg:=⟨W.mg_none_of X G z0,W.mg_none_of X G z1,W.mg_none_of X G z2,W.mg_none_of X G z3⟩
 have O2:fQ mg:=⟨W.mg_none_of X G z0,W.mg_none_of X G z3,W.mg_none_of X G z4,W.mg_none_of X G z5,W.mg_none_of X G z6,W.mg_none_of X G z7,W.mg_none_of X G z8,W.mg_none_of X G z9,W.mg_none_of X G z10,W.mg_none_of X G z11,W.mg_none_of X G z12⟩
 have Al:=bb (st:=gG) l100 c100 k100
 have GR:=Al.binds (ps:=["self", "order"]) λ_ _ _ _ _ _ us hl=>by obtain ⟨_,_,rfl⟩:=dr hl; rfl
 have Am:=bb (st:=jd) l101 c101 k101
 have An:=Am.binds (ps:=iz) λ_ _ _ _ _ _ us hl=>by obtain ⟨_,_,_,_,rfl⟩:=vD hl; rfl
 have Ao:=bb (st:=fV) l102 c102 k102
 have Ap:=Ao.binds (ps:=["self", "tree"]) λ_ _ _ _ _ _ us hl=>by obtain ⟨_,_,rfl⟩:=dr hl; rfl
 have Aq:=bb (st:=eC) l103 c103 k103
 have Ar:=Aq.binds (ps:=["self", "number"]) λ_ _ _ _ _ _ us hl=>by obtain ⟨_,_,rfl⟩:=dr hl; rfl
 have As:=bb (st:=eE) l104 c104 k104
 have Au:=As.binds (ps:=kM) λ_ _ _ _ _ _ us hl=>by obtain ⟨_,_,_,_,rfl⟩:=vD hl; rfl
 have Av:=bb (st:=je) l105 c105 k105
 have GS:=Av.binds (ps:=["self", "number", "spot", "side"]) λ_ _ _ _ _ _ us hl=>by obtain ⟨_,_,_,_,rfl⟩:=vD hl; rfl
 have F2:=bb (st:=jg) l2 c2 k2
 have m2:=W.mg_of X G a2
 have b2:=F2.binds (ps:=ju) λ_ _ _ _ _ _ us hl=>by obtain ⟨_,_,_,rfl⟩:=rP hl; rfl
 have F3:=bb (st:=fm) l3 c3 k3
 have m3:=W.mg_of X G a3
 have b3:=F3.binds (ps:=ju) λ_ _ _ _ _ _ us hl=>by obtain ⟨_,_,_,rfl⟩:=rP hl; rfl
 have F4:=bb (st:=lJ) l4 c4 k4
 have m4:=W.mg_of X G a4
 have b4:=F4.binds (ps:=["tree"]) λ_ _ _ _ _ _ us hl=>by obtain ⟨_,rfl⟩:=vB hl; rfl
 have F5:=bb (st:=fW) l5 c5 k5
 have m5:=W.mg_of X G a5
 have b5:=F5.binds (ps:=kX) λ_ _ _ _ _ _ us hl=>by obtain ⟨_,_,rfl⟩:=dr hl; rfl
 have F8:=bb (st:=jb) l8 c8 k8
 have m8:=W.mg_of X G a8
 have b8:=F8.binds (ps:=["_law_script", "_law_k"]) λ_ _ _ _ _ _ us hl=>by obtain ⟨_,_,rfl⟩:=dr hl; rfl
 have F9:=bb (st:=jK) l9 c9 k9
 have m9:=W.mg_of X G a9
 have b9:=F9.binds (ps:=["_law_cell", "_law_k"]) λ_ _ _ _ _ _ us hl=>by obtain ⟨_,_,rfl⟩:=dr hl; rfl
 have DP:=bb (st:=jc) l10 c10 k10
 have DQ:=W.mg_of X G a10
 have DR:=DP.binds (ps:=["_law_cell", "_law_k"]) λ_ _ _ _ _ _ us hl=>by obtain ⟨_,_,rfl⟩:=dr hl; rfl
 have Aw:=bb (st:=g9) l11 c11 k11
 have DS:=W.mg_of X G a11
 have DT:=Aw.binds (ps:=["_law_left", "_law_many"]) λ_ _ _ _ _ _ us hl=>by obtain ⟨_,_,rfl⟩:=dr hl; rfl
 have DU:=bb (st:=eO) l12 c12 k12
 have K3:=W.mg_of X G a12
 have K4:=DU.binds (ps:=["_law_left", "_law_told"]) λ_ _ _ _ _ _ us hl=>by obtain ⟨_,_,rfl⟩:=dr hl; rfl
 have DV:=bb (st:=fX) l13 c13 k13
 have DW:=W.mg_of X G a13
 have DX:=DV.binds (ps:=jv) λ_ _ _ _ _ _ us hl=>by obtain ⟨_,_,rfl⟩:=dr hl; rfl
 have DY:=bb (st:=fZ) l14 c14 k14
 have Ax:=W.mg_of X G a14
 have Ay:=DY.binds (ps:=gb) λ_ _ _ _ _ _ us hl=>by obtain ⟨_,_,rfl⟩:=dr hl; rfl
 have DZ:=bb (st:=di) l15 c15 k15
 have K5:=W.mg_of X G a15
 have K6:=DZ.binds (ps:=["_law_script"]) λ_ _ _ _ _ _ us hl=>by obtain ⟨_,rfl⟩:=vB hl; rfl
 have D0:=bb (st:=fo) l16 c16 k16
 have K7:=W.mg_of X G a16
 have K8:=D0.binds (ps:=["_law_script", "_law_k"]) λ_ _ _ _ _ _ us hl=>by obtain ⟨_,_,rfl⟩:=dr hl; rfl
 have D5:=bb (st:=jj) l17 c17 k17
 have K9:=W.mg_of X G a17
 have La:=D5.binds (ps:=ux) λ_ _ _ _ _ _ us hl=>by obtain ⟨_,_,rfl⟩:=dr hl; rfl
 have D6:=bb (st:=fq) l18 c18 k18
 have Lb:=W.mg_of X G a18
 have Lc:=D6.binds (ps:=uy) λ_ _ _ _ _ _ us hl=>by obtain ⟨_,_,rfl⟩:=dr hl; rfl
 have D7:=bb (st:=gQ) l19 c19 k19
 have Ld:=W.mg_of X G a19
 have Le:=D7.binds (ps:=qC) λ_ _ _ _ _ _ us hl=>by obtain ⟨_,_,_,rfl⟩:=rP hl; rfl
 have Lf:=bb (st:=ij) l20 c20 k20
 have LX:=W.mg_of X G a20
 refine ⟨W.fnOf "law" "law" (aL ij) (aK ij) (aj ij) .none Ah Ai Aj zW vE Ak,λs v=>.of_eq rfl,λbase _ _=>?_⟩
 have gP:av l.prog w K mg base aH 1 wK _ ["_law_left", "_law_many"] ku:=pU Aw O
 have gS:av l.prog w K mg base aH 2 wL _ ["_law_left", "_law_told"] (lF K):=vd DU O Aw DT DS
 have gR:av l.prog w K mg base aH 2 wJ _ ["_law_cell", "_law_k"] kr:=xr DP O F9 b9 m9
 have gC:av l.prog w K mg base aH 1 f8 _ ["_law_script", "_law_k"] (kq K):=xq F8 O
 have D8:av l.prog w K mg base aH 1 o2 _ iz (gz l.prog w C):=xB Am T O2
 have Lg:av l.prog w K mg base aH 1 o7 _ ["self", "number", "spot", "side"] (kG l.prog w C):=xA Av T
 have GF:oE l.prog w K mg base C oZ o3 o6 o4 _ _ _ _:=⟨vk Al T O2 O,⟨mk,a100,i100,kc⟩,GR,mm Ao T ⟨a102,i102,k102⟩ Ap D8 ⟨a101,i101,k101⟩ An 9,⟨a102,i102,k102⟩,Ap,lr As T O2 ⟨a104,i104,k104⟩ Au D8 ⟨a101,i101,k101⟩ An Lg ⟨a105,i105,k105⟩ GS 9,⟨a104,i104,k104⟩,Au,jx Aq T ⟨a103,i103,k103⟩ Ar 9,⟨a103,i103,k103⟩,Ar⟩
 have D9:av l.prog w K mg base aH 9 wN _ gb (eF 9):=oY DY O2 Ax Ay 9
 have gK:av l.prog w K mg base aH 18 wM _ jv (gJ 9):=mn DV O2 DW DX D9 Ax k14 Ay 9
 have gO:av l.prog w K mg base aH 10 f4 _ ["tree"] rD:=zk F4 (qD F5 m5 b5 9) m5 k5 b5
 have Lh:av l.prog w K mg base aH 19 wO _ qC lN:=vA D7 O2 ⟨gK,DW,k13,DX,D9,Ax,k14,Ay,xC F2 T GF,m2,k2,b2,ui F3 T GF,m3,k3,b3,gO,m4,k4,b4⟩
 exact zI Lf O O2 ⟨vx DZ O gC m8 k8 b8 gR DQ k10 DR gP DS k11 DT gS K3 k12 K4,K5,k15,K6,uw D0 gC m8 k8 b8 gR DQ k10 DR,K7,k16,K8,xE D5 O,K9,k17,La,Lh,Ld,k19,Le,uz D6 O,Lb,k18,Lc⟩
theorem walk {l:W.OpenLaw}{q:Program}{loose:List Str}{XP:(Str->Option Value)->Heap->Prop}{YP:World->Heap->Prop}{d:DefRec}{K:Params->W.Frag}(hn:l.most=some 63) (sU:d.params.defaults=[])
 (hY:∀(w:World) (h:Heap),YP w h->(K w.params).In h)
 (F:∀(w:World) (mg:Str->Option Value) (fa:Addr) (h:Heap),(K w.params).In h->h.Ns mainGlobals mg->mg d.name=some (.ref fa)->
  ∃fd:FuncData,(∀(s:Shared) (u:Value),BindsTo s fd ⟨[u],[]⟩ [("_law_script",u)])/\∀base:Heap,(K w.params).In base->base.Ns mainGlobals mg->av l.prog w (K w.params) mg base aH 20 fa fd ["_law_script"] (mx (K w.params))) :
 W.WalkO q loose XP YP l.row.toRowW d [] (λf vs=>PySem.call f vs):=
 L2.xl (n:=63) (k:=20) (x:="_law_script") (CX:=λ_=>aH) (sp:=λw=>mx (K w.params)) hn (by decide) sU ⟨rfl,by decide,by decide⟩ hY F (λ_ _ a ns hl _ hS=>⟨a,ns,rfl,hS,λ_=>rfl⟩) λ_ _ _ _ _ z=>z
end
end Gen
open PySem PySem.W PyProof.Rows
inductive PySem.W.Fast : Prop
|tw13961107265327808615
|tw11537962435785240291
|tw3301607667316800857
|tw1357577324647465025
|te1357577324647465025
|tw4230363761523911527
|tw3850112160681732123
|tw8335085593149610841
|tw16537459755189513021
|tw6369663081738478511
|tw2565076680140494025
|tw1677138175377096181
|tw4157440116182784690
|tw14508013367135004017
|tw11702465874128421451
|tw6458717133561144589
|tw2472686925335804322
|tw3938849628973887905
|tw4020483499101935454
|tw8812991483709297029
|tw17690693832420468667
|tw14848990163635564481
|tw553805275957224580
|tw3962920601887969676
|tw410544101284030884
|tw17192385370180630922
|tw8002540156360885369
|tw5358512655854750093
|tw5457495581375758252
|tw4421145029013893590
|tw1323175959089869011
|tw6430137736499379644
|tw2621352814612241874
|tw16394701185923003093
|tw16426369405429237452
|tw1460543289778215528
|tw6358522786668024025
|tw1293715775411584548
|tw9661376806470539319
|tw2581337231094311870
|tw12006147763847527966
|tw11036544522542055500
|tw2932962907931774449
|tw9380654403128776795
|tw16800929146958655261
|tw12651789718720587820
|tw4845161005440459135
|tw7496709601932245727
|tw5580476441568477229
|tw4904387302876449788
|tw13064203106570965029
|tw13509243134201677742
|tw16848849314375213911
|tw15091515980441340006
|tw14345170597614449193
|tw9092430587445193681
|tw4094276836958548433
|tw15068851128481529477
|tw8988992946735562994
|tw10731370386755074078
|tw8402110840151126918
|tw4256861908376987892
|tw17075988903065117175
|tw10192501493305069011
|tw8661390961036561161
|tw4094115284297597965
|tw6746479678527989108
|tw20327227025193387
|tw10280655071174900706
|tw17701765644168097032
|tw5251163374681884350
|tw7529727113592846194
|tw10223408701785279737
|tw12381988342438724872
|tw8285354107569856117
|tw14688332823720573028
|tw907403860201063960
|tw14294836680029564643
|tw11376672828540654797
|tw2281865659378263342
|tw7391826501486891062
|tw15430891431930936858
|tw13507148173765039556
|tw9771947327012207122
|tw4410938462396872919
|tw14173888438477045091
|tw190670711070024533
|tw1231499826765616452
|tw957646881515917466
|tw7142883637785437442
|tw16303104389153040057
|tw263675780402721112
|tw3829455946861189999
|tw2127033876902978007
|tw2320973380569340424
|tw7711231908970182558
|tw11488288584583030368
|tw4510370385973030941
|tw15900186774226102681
|tw6444073031972744477
|tw340132086984684811
|tw2608586739894810584
|tw6154675956669581879
|tw12921187920630968301
|tw9975670262162990211
|tw5316798942169137047
|tw7406516189724391209
|tw11017712690577516762
|tw15162482427674652172
|tw9459289816406844375
|tw6062109284818875155
|tw16695522924515777553
|tw7891947727525780217
|tw11501401081602552510
|tw16189959890753953989
set_option maxRecDepth 100000 in
set_option maxHeartbeats 0 in
theorem PySem.Challenge.cw_everguard_k41_both_either_opposite_holds : PySem.Challenge.rw_everguard_k41_both_either_opposite.Holds := by
 w_on; o_law; k_head; (case hw=>w_witness2)
 k_fill
 refine Gen.walk (l:=PySem.Challenge.rw_everguard_k41_both_either_opposite) rfl rfl (λw h Y=>W.kIn_of Y) ?F
 case F=>
  intro w mg fa h KX G sV
  refine' Gen.all_mk KX G sV ?aC ?a100 ?i100 ?l100 ?c100 ?k100 ?a101 ?i101 ?l101 ?c101 ?k101 ?a102 ?i102 ?l102 ?c102 ?k102 ?a103 ?i103 ?l103 ?c103 ?k103 ?a104 ?i104 ?l104 ?c104 ?k104 ?a105 ?i105 ?l105 ?c105 ?k105 ?a2 ?l2 ?c2 ?k2 ?a3 ?l3 ?c3 ?k3 ?a4 ?l4 ?c4 ?k4 ?a5 ?l5 ?c5 ?k5 ?a8 ?l8 ?c8 ?k8 ?a9 ?l9 ?c9 ?k9 ?a10 ?l10 ?c10 ?k10 ?a11 ?l11 ?c11 ?k11 ?a12 ?l12 ?c12 ?k12 ?a13 ?l13 ?c13 ?k13 ?a14 ?l14 ?c14 ?k14 ?a15 ?l15 ?c15 ?k15 ?a16 ?l16 ?c16 ?k16 ?a17 ?l17 ?c17 ?k17 ?a18 ?l18 ?c18 ?k18 ?a19 ?l19 ?c19 ?k19 ?a20 ?l20 ?c20 ?k20 ?pg ?hd ?po ?sa ?mk ?kc ?n1 ?n2 ?n3 ?n4 ?n5 ?n6 ?n7 ?z0 ?z1 ?z2 ?z3 ?z4 ?z5 ?z6 ?z7 ?z8 ?z9 ?z10 ?z11 ?z12
  (case aC=>k_is); (case a100=>k_is); (case i100=>k_is); (case l100=>k_is); (case c100=>k_is); (case k100=>k_is)
  (case a101=>k_is); (case i101=>k_is); (case l101=>k_is); (case c101=>k_is); (case k101=>k_is); (case a102=>k_is)
  (case i102=>k_is); (case l102=>k_is); (case c102=>k_is); (case k102=>k_is); (case a103=>k_is); (case i103=>k_is)
  (case l103=>k_is); (case c103=>k_is); (case k103=>k_is); (case a104=>k_is); (case i104=>k_is); (case l104=>k_is)
  (case c104=>k_is); (case k104=>k_is); (case a105=>k_is); (case i105=>k_is); (case l105=>k_is); (case c105=>k_is)
  (case k105=>k_is); (case a2=>k_is); (case l2=>k_is); (case c2=>k_is); (case k2=>k_is); (case a3=>k_is)
  (case l3=>k_is); (case c3=>k_is); (case k3=>k_is); (case a4=>k_is); (case l4=>k_is); (case c4=>k_is)
  (case k4=>k_is); (case a5=>k_is); (case l5=>k_is); (case c5=>k_is); (case k5=>k_is); (case a8=>k_is)
  (case l8=>k_is); (case c8=>k_is); (case k8=>k_is); (case a9=>k_is); (case l9=>k_is); (case c9=>k_is)
  (case k9=>k_is); (case a10=>k_is); (case l10=>k_is); (case c10=>k_is); (case k10=>k_is); (case a11=>k_is)
  (case l11=>k_is); (case c11=>k_is); (case k11=>k_is); (case a12=>k_is); (case l12=>k_is); (case c12=>k_is)
  (case k12=>k_is); (case a13=>k_is); (case l13=>k_is); (case c13=>k_is); (case k13=>k_is); (case a14=>k_is)
  (case l14=>k_is); (case c14=>k_is); (case k14=>k_is); (case a15=>k_is); (case l15=>k_is); (case c15=>k_is)
  (case k15=>k_is); (case a16=>k_is); (case l16=>k_is); (case c16=>k_is); (case k16=>k_is); (case a17=>k_is)
  (case l17=>k_is); (case c17=>k_is); (case k17=>k_is); (case a18=>k_is); (case l18=>k_is); (case c18=>k_is)
  (case k18=>k_is); (case a19=>k_is); (case l19=>k_is); (case c19=>k_is); (case k19=>k_is); (case a20=>k_is)
  (case l20=>k_is); (case c20=>k_is); (case k20=>k_is); (case pg=>k_is); (case hd=>k_is); (case po=>k_is)
  (case sa=>k_is); (case mk=>k_is); (case kc=>k_is); (case n1=>k_is); (case n2=>k_is); (case n3=>k_is)
  (case n4=>k_is); (case n5=>k_is); (case n6=>k_is); (case n7=>k_is); (case z0=>k_is); (case z1=>k_is)
  (case z2=>k_is); (case z3=>k_is); (case z4=>k_is); (case z5=>k_is); (case z6=>k_is); (case z7=>k_is)
  (case z8=>k_is); (case z9=>k_is); (case z10=>k_is); (case z11=>k_is); (case z12=>k_is)
#print axioms PySem.Challenge.cw_everguard_k41_both_either_opposite_holds
