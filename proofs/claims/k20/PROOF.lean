import PyProof.Rows.All
import Wide.All
import OpenK.AllK
import Wide.FinOn
import Lean
import PyProof.EqAt
import PyProof.EqKinds
import PyProof.TupleCall
import PyProof.StrBlockL
import PyProof.IsiH_list
import PyProof.AttrMiss
import PyProof.ConsumeWalk
import PyProof.TupleIter
import KE.KDictOf
import PyProof.DictWalks
import KE.KDictList
import PyProof.NeKinds
import PyProof.ZipIter
import PyProof.StrLawsOcc
import Wide.Txt
import KE.KIntText
import PyProof.DictValues
import PyProof.StrOps2
import PyProof.StrCalls6
import PyProof.StrCalls5
import PyProof.DictItems
import PyProof.Rows.FStr
import PyProof.Rows.SortRuns
import KE.KSortTup
import PyProof.NeData
import PyProof.P3Eq
import PyProof.Rows.Chain
import PyProof.Rows.RuleIs
import PyProof.EnumMake
import PyProof.Draws
import KE.KEqDict
import PyProof.Rows.SetFrom
import PySem.Challenge.RW_everguard_k20_steps_are_runs
set_option Elab.async false
set_option linter.all false
set_option maxRecDepth 100000
namespace L2
open PySem PySem.Spec PyProof.Rows
abbrev Key:=Sum Int Str
def iP:Key->Value->Bool
 | .inl k,v=>Value.isInt k v
 | .inr x,v=>Value.isStrOf x v
def Vs (w:World):Key->Int
 | .inl k=>hashInt k
 | .inr x=>hashStr w x
theorem d4:∀{k:Key}{v:Value},iP k v=true->(∃i t,k=Sum.inl i/\v=Value.int i t)\/(∃x t,k=Sum.inr x/\v=Value.str x t)
 | .inl i,v,h=>by
  obtain ⟨t,e⟩:=Value.isInt_shape (k:=i) (v:=v) h
  exact .inl ⟨i,t,rfl,e⟩
 | .inr x,v,h=>by
  obtain ⟨t,e⟩:=Value.isStrOf_shape (x:=x) (v:=v) h
  exact .inr ⟨x,t,rfl,e⟩
theorem DI (i:Int) (t:Tok):iP (.inl i) (.int i t)=true:=by simp [iP,Value.isInt]
theorem DJ (x:Str) (t:Tok):iP (.inr x) (.str x t)=true:=by simp [iP,Value.isStrOf]
theorem Lk (a b:Int):decide ((Sum.inl a:Key)=Sum.inl b)=(a == b):=by
 by_cases e:a=b
 . subst e; simp
 . have h:¬ (Sum.inl a:Key)=Sum.inl b:=λq=>e (Sum.inl.inj q)
   rw [decide_eq_false h]
   exact (beq_eq_false_iff_ne.mpr e).symm
theorem Ll (a b:Str):decide ((Sum.inr a:Key)=Sum.inr b)=decide (a=b):=by
 by_cases e:a=b
 . subst e; simp
 . have h:¬ (Sum.inr a:Key)=Sum.inr b:=λq=>e (Sum.inr.inj q)
   rw [decide_eq_false h,decide_eq_false e]
theorem Lm (a:Int) (b:Str):decide ((Sum.inl a:Key)=Sum.inr b)=false:=decide_eq_false (λq=>nomatch q)
theorem Ln (a:Str) (b:Int):decide ((Sum.inr a:Key)=Sum.inl b)=false:=decide_eq_false (λq=>nomatch q)
def bb (prog:Program) (w:World):PySem.KeyKind prog w Key where
 is:=iP
 hash:=Vs w
 inj:=λv a b ha hb=>by
  rcases d4 ha with ⟨i,t,rfl,rfl⟩ | ⟨x,t,rfl,rfl⟩
  . rcases d4 hb with ⟨j,u,rfl,e⟩ | ⟨y,u,rfl,e⟩
    . injection e with e1 _; rw [e1]
    . exact nomatch e
  . rcases d4 hb with ⟨j,u,rfl,e⟩ | ⟨y,u,rfl,e⟩
    . exact nomatch e
    . injection e with e1 _; rw [e1]
 byValue:=λk v h=>by
  rcases d4 h with ⟨i,t,rfl,rfl⟩ | ⟨x,t,rfl,rfl⟩ <;> rfl
 pyHash:=λhv h=>by
  rcases d4 hv with ⟨i,t,rfl,rfl⟩ | ⟨x,t,rfl,rfl⟩
  . exact wpAny_pyHash_int h
  . exact wpAny_pyHash_str h
 eqBool:=λhu hv h=>by
  rcases d4 hu with ⟨i,t,rfl,rfl⟩ | ⟨x,t,rfl,rfl⟩
  . rcases d4 hv with ⟨j,u,rfl,rfl⟩ | ⟨y,u,rfl,rfl⟩
    . rw [Lk] at h; exact wpAny_eqBool_int h
    . rw [Lm] at h; exact SeqAt.EqAt.int_str i t y u _ _ _ _ h
  . rcases d4 hv with ⟨j,u,rfl,rfl⟩ | ⟨y,u,rfl,rfl⟩
    . rw [Ln] at h; exact SeqAt.EqAt.str_int x t j u _ _ _ _ h
    . rw [Ll] at h; exact wpAny_eqBool_str h
 «strs»:=λk x t v h=>by
  rcases d4 h with ⟨i,u,rfl,e⟩ | ⟨y,u,rfl,e⟩
  . exact nomatch e
  . injection e with e1 _
    subst e1
    cases v <;> rfl
theorem CA (prog:Program) (w:World) (k:Key) (v:Value):(bb prog w).is k v=iP k v:=rfl
theorem AB (prog:Program) (w:World) (i:Int) (t:Tok):(bb prog w).is (.inl i) (.int i t)=true:=DI i t
theorem AD (prog:Program) (w:World) (x:Str) (t:Tok):(bb prog w).is (.inr x) (.str x t)=true:=DJ x t
end L2
namespace L2
open PySem PySem.Spec PyProof.Rows
inductive V where
 | aS | bl (b:Bool) | int (i:Int) | str (x:Str) | mh (b:Array UInt8) | vP (b:UInt64) | ref (a:Addr) | ty (n:String)
 deriving DecidableEq
def RelV:V->Value->Prop
 | .aS,u=>u=Value.none
 | .bl b,u=>u=Value.bool b
 | .int i,u=>∃t,u=Value.int i t
 | .str x,u=>∃t,u=Value.str x t
 | .mh b,u=>∃t,u=Value.bytes b t
 | .vP b,u=>∃t,u=Value.float b t
 | .ref a,u=>u=Value.ref a
 | .ty n,u=>u=Value.type n
abbrev Vals:List V->List Value->Prop:=Paired RelV
theorem Vals.length {xs:List V}{us:List Value}(r:Vals xs us):xs.length=us.length:=Paired.length r
theorem Vals.get:∀{xs:List V}{us:List Value}{i:Nat}{x:V},Vals xs us->xs[i]?=some x->∃u,us[i]?=some u/\RelV x u
 | _,_,_,_,.nil,e=>by simp at e
 | _,_,0,_,.cons r _,e=>by simp at e; subst e; exact ⟨_,rfl,r⟩
 | _,_,i+1,x,.cons _ t,e=>by
  obtain ⟨u,h1,h2⟩:=Vals.get (i:=i) (x:=x) t (by simpa using e)
  exact ⟨u,by simpa using h1,h2⟩
theorem Vals.set {x:V}{u:Value}(r:RelV x u):∀{xs:List V}{us:List Value}(i:Nat),Vals xs us->Vals (xs.set i x) (us.set i u)
 | _,_,_,.nil=>.nil
 | _,_,0,.cons _ t=>.cons r t
 | _,_,i+1,.cons q t=>.cons q (Vals.set r i t)
theorem Vals.append:∀{xs ys:List V}{us ws:List Value},Vals xs us->Vals ys ws->Vals (xs++ys) (us++ws)
 | _,_,_,_,.nil,s=>s
 | _,_,_,_,.cons r t,s=>.cons r (Vals.append t s)
theorem Vals.take:∀{xs:List V}{us:List Value}(n:Nat),Vals xs us->Vals (xs.take n) (us.take n)
 | _,_,0,_=>.nil
 | _,_,_+1,.nil=>.nil
 | _,_,n+1,.cons r t=>.cons r (Vals.take n t)
theorem Vals.drop:∀{xs:List V}{us:List Value}(n:Nat),Vals xs us->Vals (xs.drop n) (us.drop n)
 | _,_,0,r=>r
 | _,_,_+1,.nil=>.nil
 | _,_,n+1,.cons _ t=>Vals.drop n t
def gj:Option V->Option Value->Prop
 | some v,some u=>RelV v u
 | none,none=>True
 | _,_=>False
def KV {κ:Type} : List (κ×V)->List (κ×Value)->Prop:=Paired λ(p:κ×V) (q:κ×Value)=>p.1=q.1/\RelV p.2 q.2
def kV:Key->V
 | .inl i=>.int i
 | .inr x=>.str x
inductive HO where
 /-- a list -/
 | lst (xs:List V)
 /-- a tuple (never changes) -/
 | tup (xs:List V)
 /-- a dict whose keys are ints and texts; one whose keys are tuples of ints and texts (the empty one is both) -/
 | dK (kvs:List (Key×V)) | dT (kvs:List (List Key×V))
 /-- a set of ints: its members,its size -/
 | set (S:Int->Bool) (n:Nat)
 /-- an instance of the class at C,its dict at dx,its attributes -/
 | ins (C dx:Addr) (fs:List (Str×V))
 /-- the dict of the instance at x -/
 | own (x:Addr)
 /-- the dict of an exception -/
 | xd (fs:List (Str×V))
 /-- a bound method,f of x -/
 | met (f x:Addr)
 /-- a range object lo,lo+1,.. below hi -/
 | Lo (lo hi:Int)
 /-- a thing that is known to the object (the script; a dict while a loop walks it): read,never written while it is so -/
 | cz (o:Obj) (u:HO)
 /-- a code object's table -/
 | xN (ps:Array Value)
 /-- any other thing,by what is true of its one object (a def of one's own: SetO a S n:=HO.ext λh=>..) -/
 | ext (φ:Heap->Prop)
abbrev Hp:=Addr->Option HO
def upd (H:Hp) (a:Addr) (o:HO):Hp:=λb=>if b=a then some o else H b
theorem ag {H:Hp}{a:Addr}{o:HO} : upd H a o a=some o:=by unfold upd; rw [if_pos rfl]
theorem ai {H:Hp}{a b:Addr}{o:HO}(h:b≠a):upd H a o b=H b:=by unfold upd; rw [if_neg h]
theorem g7 {H:Hp}{a:Addr}{o u:HO} : upd (upd H a o) a u=upd H a u:=by
 funext b; unfold upd; split <;> rfl
theorem bu {H:Hp}{a b:Addr}{o u:HO}(h:H a=some o) (h':H b=some u) (d:o≠u):a≠b:=by
 intro e; subst e; rw [h] at h'; exact d (Option.some.inj h')
theorem af {H:Hp}{a b:Addr}{o:HO}(h:H a=some o) (h':H b=none):a≠b:=by
 intro e; subst e; rw [h] at h'; cases h'
section
variable (P:Program) (w:World)
def bH (H:Hp) (h:Heap) (a:Addr):HO->Prop
 | .lst xs=>xs.length<=sizeLine/\∃(its:List Value) (n:Nat),Vals xs its/\h.get? a=some { cls:=.type "list",data:=.seq its.toArray n }
 | .tup xs=>xs.length<=sizeLine/\∃its:List Value,Vals xs its/\IsTup h a its.toArray
 | .dK kvs=>kvs.length<=sizeLine/\(a == sysModules)=false/\∃vs,KV kvs vs/\h.DictOf (bb P w) a vs
 | .dT kvs=>kvs.length<=sizeLine/\(a == sysModules)=false/\∃xs:List (List Key×Addr×Value),
  Paired (λ(p:List Key×V) (q:List Key×Addr×Value)=>p.1=q.1/\H q.2.1=some (.tup (p.1.map kV))/\RelV p.2 q.2.2) kvs xs/\
  ∃o es ep,h.get? a=some o/\o.ExactDict/\o.data=.dict es ep/\es.toList=xs.map (entryOfKey (tupleKind (bb P w)))/\(xs.map (·.1)).Nodup
 | .set S n=>h.SetOf (intKind P w) a S n
 | .ins C dx fs=>H dx=some (.own a)/\fs.length<=1000/\dx≠a/\h.get? a=some (W.instObj C dx)/\
  ∃mA,h.Ns1 dx mA/\(∀f,gj (fs.lookup f) (mA f))/\PySem.Within mA (fs.map (·.1))
 | .own _=>∃o,h.get? a=some o
 | .xd fs=>∃mA,h.Ns1 a mA/\∀f,gj (fs.lookup f) (mA f)
 | .Lo lo hi=>∃t u v,h.get? a=some { cls:=.type "range",data:=.fields #[.int lo t,.int hi u,.int 1 v] }
 | .cz o u=>h.get? a=some o/\bH H h a u
 | .xN ps=>h.get? a=some { cls:=.none,data:=.fields ps }
 | .met f x=>h.get? a=some (W.methodObj (.ref f) (.ref x))
 | .ext φ=>φ h/\(∃o,h.get? a=some o)/\∀h1 h2:Heap,φ h1->(∀o,h1.get? a=some o->h2.get? a=some o)->φ h2
def eP (H:Hp) (h:Heap):Prop:=∀a o,H a=some o->bH P w H h a o
end
section
variable {P:Program}{w:World}{H H':Hp}{h h':Heap}{a:Addr}{o:HO}
theorem bH.lt (x:bH P w H h a o):a<h.objs.size:=by
 cases o with
 | lst xs=>obtain ⟨_,_,_,_,e⟩:=x; exact Heap.lt_size e
 | tup xs=>obtain ⟨_,_,_,p⟩:=x; exact p.lt
 | dK kvs=>obtain ⟨_,_,_,_,o,_,_,e,_⟩:=x; exact Heap.lt_size e
 | dT kvs=>obtain ⟨_,_,_,_,o,_,_,e,_⟩:=x; exact Heap.lt_size e
 | set S n=>obtain ⟨o,_,_,_,e,_⟩:=x; exact Heap.lt_size e
 | ins C dx fs=>obtain ⟨_,_,_,e,_⟩:=x; exact Heap.lt_size e
 | own y=>obtain ⟨_,e⟩:=x; exact Heap.lt_size e
 | xd fs=>obtain ⟨_,⟨_,_,_,e,_⟩,_⟩:=x; exact Heap.lt_size e
 | Lo lo hi=>obtain ⟨_,_,_,e⟩:=x; exact Heap.lt_size e
 | cz ob u=>obtain ⟨e,_⟩:=x; exact Heap.lt_size e
 | xN ps=>exact Heap.lt_size (show h.get? a=some _ from x)
 | met f y=>exact Heap.lt_size (show h.get? a=some _ from x)
 | ext φ=>obtain ⟨_,⟨_,e⟩,_⟩:=x; exact Heap.lt_size e
theorem Paired.bh {α β:Type}{F G:α->β->Prop} : ∀{l₁:List α}{l₂:List β},Paired F l₁ l₂->(∀a b,F a b->G a b)->Paired G l₁ l₂
 | _,_,.nil,_=>.nil
 | _,_,.cons r t,f=>.cons (f _ _ r) (Paired.bh t f)
theorem bH.ku (x:bH P w H h a o) (k:∀b u,(b=a\/H b=some (.own a))->h.get? b=some u->h'.get? b=some u)
 (ho:∀b,H b=some (.own a)->H' b=some (.own a)) (ht:∀b xs,H b=some (.tup xs)->H' b=some (.tup xs)):bH P w H' h' a o:=by
 induction o with
 | lst xs=>obtain ⟨z,its,n,r,e⟩:=x; exact ⟨z,its,n,r,k _ _ (.inl rfl) e⟩
 | tup xs=>obtain ⟨z,its,r,ob,e,c⟩:=x; exact ⟨z,its,r,ob,k _ _ (.inl rfl) e,c⟩
 | dK kvs=>obtain ⟨z,y,vs,r,ob,es,ep,e,c⟩:=x; exact ⟨z,y,vs,r,ob,es,ep,k _ _ (.inl rfl) e,c⟩
 | dT kvs=>
  obtain ⟨z,y,xs,r,ob,es,ep,e,c⟩:=x
  exact ⟨z,y,xs,Paired.bh r λp q z=>⟨z.1,ht _ _ z.2.1,z.2.2⟩,ob,es,ep,k _ _ (.inl rfl) e,c⟩
 | set S n=>obtain ⟨ob,es,ep,t,e,c⟩:=x; exact ⟨ob,es,ep,t,k _ _ (.inl rfl) e,c⟩
 | ins C dx fs=>
  obtain ⟨d,z,ne,e,mA,⟨od,es,ep,e2,c⟩,r⟩:=x
  exact ⟨ho _ d,z,ne,k _ _ (.inl rfl) e,mA,⟨od,es,ep,k _ _ (.inr d) e2,c⟩,r⟩
 | own y=>obtain ⟨ob,e⟩:=x; exact ⟨ob,k _ _ (.inl rfl) e⟩
 | xd fs=>obtain ⟨mA,⟨od,es,ep,e,c⟩,r⟩:=x; exact ⟨mA,⟨od,es,ep,k _ _ (.inl rfl) e,c⟩,r⟩
 | Lo lo hi=>obtain ⟨t,u,v,e⟩:=x; exact ⟨t,u,v,k _ _ (.inl rfl) e⟩
 | cz ob u ih=>obtain ⟨e,q⟩:=x; exact ⟨k _ _ (.inl rfl) e,ih q⟩
 | xN ps=>
  have e:h.get? a=some { cls:=.none,data:=.fields ps }:=x
  show h'.get? a=some { cls:=.none,data:=.fields ps }
  exact k a _ (.inl rfl) e
 | met f y=>
  have e:h.get? a=some (W.methodObj (.ref f) (.ref y)):=x
  show h'.get? a=some (W.methodObj (.ref f) (.ref y))
  exact k a _ (.inl rfl) e
 | ext φ=>obtain ⟨p,⟨o,e⟩,st⟩:=x; exact ⟨st _ _ p λo q=>k _ _ (.inl rfl) q,⟨o,k _ _ (.inl rfl) e⟩,st⟩
theorem eP.lt (x:eP P w H h) (e:H a=some o):a<h.objs.size:=(x a o e).lt
theorem eP.fresh (x:eP P w H h) (e:h.objs.size<=a):H a=none:=by
 cases q:H a with
 | none=>rfl
 | some u=>exact absurd (Nat.lt_of_lt_of_le (x.lt q) e) (Nat.lt_irrefl _)
theorem eP.kept (x:eP P w H h) (k:∀b u,h.get? b=some u->h'.get? b=some u):eP P w H h':=λa o e=>
 (x a o e).ku (λb u _ q=>k b u q) (λ_ q=>q) λ_ _ q=>q
theorem eP.laid (x:eP P w H h) (k:∀b u,h.get? b=some u->h'.get? b=some u) (hp:h.objs.size<=a) (new:bH P w (upd H a o) h' a o):eP P w (upd H a o) h':=λb u e=>by
 have hn:=x.fresh hp
 by_cases hb:b=a
 . subst hb; rw [ag] at e; cases e; exact new
 . rw [ai hb] at e
   exact (x b u e).ku (λc v _ q=>k c v q) (λc q=>by rw [ai (af q hn)]; exact q) λc xs q=>by rw [ai (af q hn)]; exact q
end
def Rd (H:Hp) (a:Addr) (u:HO):Prop:=H a=some u\/∃o,H a=some (.cz o u)
theorem Rd.ok {P:Program}{w:World}{H:Hp}{h:Heap}{a:Addr}{u:HO}(r:Rd H a u) (x:eP P w H h):bH P w H h a u:=by
 rcases r with r | ⟨o,r⟩
 . exact x a u r
 . obtain ⟨_,q⟩:=x a _ r
   exact q
def DK:Option HO->Prop
 | some (.lst _)=>True
 | some (.dK _)=>True
 | some (.dT _)=>True
 | some (.set _ _)=>True
 | some (.ins _ _ _)=>True
 | some (.ext _)=>True
 | _=>False
section
variable {P:Program}{w:World}{H:Hp}{h h':Heap}{x e:Addr}{o':HO}
theorem eP.write (ok:eP P w H h) (mu:DK (H x)) (he:e=x\/H e=some (.own x)) (k:∀b u,b≠e->h.get? b=some u->h'.get? b=some u) (AO:∃u,h'.get? e=some u)
 (new:bH P w (upd H x o') h' x o'):eP P w (upd H x o') h':=λb u q=>by
 have Lp:∀c y,H c=some (.own y)->c≠x:=λc y r z=>by subst z; rw [r] at mu; exact mu
 have Vt:∀c xs,H c=some (.tup xs)->c≠x:=λc xs r z=>by subst z; rw [r] at mu; exact mu
 by_cases hb:b=x
 . subst hb; rw [ag] at q; cases q; exact new
 . rw [ai hb] at q
   by_cases qY:b=e
   . have q':H b=some (.own x):=by
      rcases he with z | z
      . exact absurd (qY.trans z) hb
      . rw [qY]; exact z
     rw [q] at q'; cases q'
     obtain ⟨v,hv⟩:=AO
     exact ⟨v,by rw [qY]; exact hv⟩
   . refine (ok b u q).ku (λc v hc r=>k c v ?_ r) (λc r=>by rw [ai (Lp c b r)]; exact r) λc xs r=>by rw [ai (Vt c xs r)]; exact r
     rcases hc with rfl | hc
     . exact qY
     . rintro rfl
       rcases he with z | z
       . exact Lp c b hc z
       . rw [hc] at z; cases z; exact hb rfl
end
structure Un (fs ex:List Addr) (H H':Hp) (h h':Heap):Prop where
 keep:∀b o,h.get? b=some o->H b=none->b∉fs->b∉ex->h'.get? b=some o
 slot:∀b o,h.get? b=some o->H b=none->b∈fs->b∉ex->∃sl,h'.get? b=some { o with slots:=sl }
 free:∀b o,h.get? b=some o->H b=none->b∉ex->H' b=none
 there:∀b o,h.get? b=some o->b∉ex->∃o',h'.get? b=some o'
 tups:∀b xs,H b=some (.tup xs)->H' b=some (.tup xs)
 frzs:∀b o u,H b=some (.cz o u)->H' b=some (.cz o u)
 tbls:∀b ps,H b=some (.xN ps)->∃more,H' b=some (.xN (ps++more))
section
variable {fs fs' ex ex':List Addr}{H H1 H2:Hp}{h h1 h2 h':Heap}{a x e:Addr}{o:HO}
theorem Un.any (u:Un fs ex H H1 h h1){b:Addr}{ob:Obj}(q:h.get? b=some ob) (n:H b=none) (hx:b∉ex):∃sl,h1.get? b=some { ob with slots:=sl }:=by
 by_cases hb:b∈fs
 . exact u.slot b ob q n hb hx
 . exact ⟨ob.slots,u.keep b ob q n hb hx⟩
theorem Un.kept (k:∀b u,h.get? b=some u->h'.get? b=some u):Un fs ex H H h h':=
 ⟨λb ob q _ _ _=>k b ob q,λb ob q _ _ _=>⟨ob.slots,k b ob q⟩,λ_ _ _ n _=>n,λb ob q _=>⟨ob,k b ob q⟩,λ_ _ q=>q,λ_ _ _ q=>q,λ_ ps q=>⟨#[],by rw [q]; simp⟩⟩
theorem Un.refl:Un fs ex H H h h:=Un.kept λ_ _ q=>q
theorem Un.laid (k:∀b u,h.get? b=some u->h'.get? b=some u) (hp:h.objs.size<=a) (hn:H a=none):Un fs ex H (upd H a o) h h' where
 keep:=λb u q _ _ _=>k b u q
 slot:=λb u q _ _ _=>⟨u.slots,k b u q⟩
 free:=λb u q n _=>by rw [ai (Nat.ne_of_lt (Nat.lt_of_lt_of_le (Heap.lt_size q) hp))]; exact n
 there:=λb u q _=>⟨u,k b u q⟩
 tups:=λb xs q=>by rw [ai (af q hn)]; exact q
 frzs:=λb u xs q=>by rw [ai (af q hn)]; exact q
 tbls:=λb ps q=>⟨#[],by rw [ai (af q hn),q]; simp⟩
theorem Un.write (mu:DK (H x)) (he:e=x\/H e=some (.own x)) (k:∀b u,b≠e->h.get? b=some u->h'.get? b=some u) (AO:∃u,h'.get? e=some u):Un fs ex H (upd H x o) h h':=by
 have hx:∀b,H b=none->b≠x:=λb n z=>by subst z; rw [n] at mu; exact mu
 have hb:∀b,H b=none->b≠e:=λb n z=>by
  subst z
  rcases he with r | r
  . exact hx b n r
  . rw [n] at r; cases r
 have hm:∀b u,H b=some u->¬ DK (some u)->b≠x:=λb u q nm z=>by subst z; rw [q] at mu; exact nm mu
 refine ⟨λb u q n _ _=>k b u (hb b n) q,λb u q n _ _=>⟨u.slots,k b u (hb b n) q⟩,λb u q n _=>by rw [ai (hx b n)]; exact n,λb u q _=>?_,
  λb xs q=>by rw [ai (hm b _ q λz=>z)]; exact q,λb u xs q=>by rw [ai (hm b _ q λz=>z)]; exact q,λb ps q=>⟨#[],by rw [ai (hm b _ q λz=>z),q]; simp⟩⟩
 by_cases qY:b=e
 . subst qY; exact AO
 . exact ⟨u,k b u qY q⟩
end
def HR (h:Heap) (H:Hp):List Addr:=(List.range h.objs.size).filter λa=>(H a).isSome
def nC (h:Heap) (H:Hp):Heap:=W.hideAll h (HR h H)
theorem DL (h:Heap) (H:Hp):(nC h H).objs.size=h.objs.size:=W.hideAll_size _ _
theorem Ge {h:Heap}{H:Hp}{b:Addr}{o:Obj}(e:h.get? b=some o) (n:H b=none):(nC h H).get? b=some o:=
 W.hideAll_get _ e λhm=>by
  have q:(H b).isSome=true:=(List.mem_filter.mp hm).2
  rw [n] at q; simp at q
theorem J8 {h:Heap}{H:Hp}{b:Addr}{o:Obj}(e:(nC h H).get? b=some o):h.get? b=some o/\H b=none:=by
 have e':h.get? b=some o:=W.of_hideAll (HR h H) e
 refine ⟨e',?_⟩
 cases q:H b with
 | none=>rfl
 | some x=>
  have hm:b∈HR h H:=List.mem_filter.mpr ⟨List.mem_range.mpr (Heap.lt_size e'),by simp [q]⟩
  have z:(nC h H).get? b=none:=W.hideAll_none (HR h H) hm
  rw [z] at e; cases e
def J9 (g h:Heap) (L:Addr):List (Addr×Obj):=(List.range h.objs.size).filterMap λa=>if a=L\/(g.get? a).isSome=true then none else (h.get? a).map λo=>(a,o)
def rest (g h:Heap) (L d:Addr):List (Addr×Obj):=(J9 g h L).filter λp=>decide (p.1≠d)
end L2
namespace L2
open PySem PySem.Spec PyProof.Rows
structure Mod (K:W.Frag) (mg:Str->Option Value) (base:Heap):Prop where
 kin:K.In base
 glob:base.Ns mainGlobals mg
 blt:∃mb,base.Ns builtinsNs mb/\∀x:Str,x ≠ "__name__" -> mb x=bootBuiltins x
 nolimit:base.NoLimit
structure Cx where
 prog:Program
 w:World
 K:W.Frag
 mg:Str->Option Value
 base:Heap
 A:Around
 N:List Str
 jS:Shared
 xt:Hp
 env:Env
 outer:List Env
 stack:List Env
 ex:List Addr
 fn:Str->Bool
 calm:Bool
 pn:List (Addr×Obj)
 xe:Value->Shared->Prop
def oH (l:List Env):List Addr:=l.filterMap (·.frame)
abbrev Cx.fs (X:Cx):List Addr:=oH X.outer
def Lq (sc:Scope) (x:Str):Prop:=sc.names.lookup x=some .local\/sc.names.lookup x=some .cell\/sc.names.lookup x=some .free
def Loc (sc:Scope) (x:Str):Prop:=sc.names.lookup x=some .local\/sc.names.lookup x=some .cell
def Look (env:Env) (h:Heap) (m:Str->Option Value) (x:Str) (u:Value):Prop:=
 (env.kindOf x=some .local/\m x=some u)\/((env.kindOf x=some .cell\/env.kindOf x=some .free)/\∃c,env.cells.lookup x=some c/\h.IsCell c (some u))
structure Cx.Ok (X:Cx):Prop where
 mod:Mod X.K X.mg X.base
 kind:X.env.scope.kind=.function
 glob:X.env.globals=mainGlobals
 blt:X.env.builtins=builtinsNs
 above:X.jS.heap.objs.size<=X.env.locals
 inj:∀x y c,X.env.cells.lookup x=some c->X.env.cells.lookup y=some c->x=y
 has:∀x,(X.env.kindOf x=some .cell\/X.env.kindOf x=some .free)->∃c,X.env.cells.lookup x=some c
 cab:∀x c,X.fn x=true->X.env.cells.lookup x=some c->X.jS.heap.objs.size<=c
 hd:X.calm=true->X.A.handled=none
 frames:X.A.frames=some X.stack
 stk:X.stack=X.outer\/(X.stack=X.env::X.outer/\X.env.frame=some X.env.locals)
 exf:∀b∈X.ex,b≠X.env.locals/\∀x c,X.env.cells.lookup x=some c->c≠b
 bs:∀b o,X.base.get? b=some o->X.jS.heap.get? b=some o/\X.xt b=none
 bsz:X.base.objs.size<=X.jS.heap.objs.size
 noex:∀b o,X.base.get? b=some o->b∉X.ex
 exfs:∀b∈X.ex,b∉X.fs
 jT:X.jS.heap.FunFrames X.base X.outer
 frf:∀b∈X.fs,X.xt b=none
structure Inv (X:Cx) (pins:List (Addr×Obj)) (σ:List (Option V)) (H:Hp) (s:Shared):Prop where
 ok:X.Ok
 os:s.os=X.jS.os
 bare:AllBare s.gens
 base:Un X.fs X.ex X.xt H X.jS.heap s.heap
 loc:∃m,s.heap.Ns X.env.locals m/\∀(i:Nat) (x:Str) (v:V),X.N[i]?=some x->σ[i]?=some (some v)->Lq X.env.scope x->∃u,RelV v u/\Look X.env s.heap m x u
 cell:∀x c,X.env.cells.lookup x=some c->∃v,s.heap.IsCell c v
 free:H X.env.locals=none
 freeC:∀x c,X.env.cells.lookup x=some c->H c=none
 pin:∀p∈X.pn++pins,s.heap.get? p.1=some p.2/\H p.1=none/\p.1≠X.env.locals/\p.1∉X.fs/\∀v,p.2.data≠.cell v
 hok:eP X.prog X.w H s.heap
 len:σ.length=X.N.length
section
variable {X:Cx}{pins:List (Addr×Obj)}{σ:List (Option V)}{H H':Hp}{s:Shared}{h':Heap}
theorem Cx.Ok.Vu (ok:X.Ok){b:Addr}{o:Obj}(e:X.base.get? b=some o):b∉X.fs:=λhb=>by
 have:=(ok.jT.mem hb).1
 rw [e] at this; cases this
theorem Inv.bs (I:Inv X pins σ H s):∀b o,X.base.get? b=some o->s.heap.get? b=some o/\H b=none:=λb o e=>
 ⟨I.base.keep b o (I.ok.bs b o e).1 (I.ok.bs b o e).2 (I.ok.Vu e) (I.ok.noex b o e),I.base.free b o (I.ok.bs b o e).1 (I.ok.bs b o e).2 (I.ok.noex b o e)⟩
theorem Inv.bk (I:Inv X pins σ H s):∀b o,X.base.get? b=some o->s.heap.get? b=some o:=λb o e=>(I.bs b o e).1
theorem Inv.mod (I:Inv X pins σ H s):Mod X.K X.mg X.base:=I.ok.mod
theorem Inv.gd (I:Inv X pins σ H s):X.K.In s.heap:=I.ok.mod.kin.keeps I.bk
theorem Inv.lt (I:Inv X pins σ H s):X.env.locals<s.heap.objs.size:=let ⟨_,hn,_⟩:=I.loc; hn.lt
theorem Inv.sz (I:Inv X pins σ H s):X.jS.heap.objs.size<=s.heap.objs.size:=Nat.le_trans I.ok.above (Nat.le_of_lt I.lt)
theorem Inv.Vv (I:Inv X pins σ H s){a:Addr}(h:s.heap.objs.size<=a):a∉X.fs:=λhb=>by
 obtain ⟨_,o,ho,_⟩:=I.ok.jT.mem hb
 exact absurd (Nat.lt_of_lt_of_le (Heap.lt_size ho) (Nat.le_trans I.sz h)) (Nat.lt_irrefl _)
theorem Inv.xO (I:Inv X pins σ H s):∀x c,X.env.cells.lookup x=some c->c≠X.env.locals:=λx c e z=>by
 obtain ⟨v,o,ho,hd⟩:=I.cell x c e
 obtain ⟨m,⟨o',es,ep,fq,hd',_⟩,_⟩:=I.loc
 rw [z,fq] at ho; cases ho; rw [hd'] at hd; cases hd
theorem Inv.jT (I:Inv X pins σ H s):s.heap.FunFrames X.base X.outer:=by
 have all:∀(l:List Env),(∀b∈oH l,b∈X.fs)->X.jS.heap.FunFrames X.base l->s.heap.FunFrames X.base l:=by
  intro l
  induction l with
  | nil=>intro _ _; trivial
  | cons env r ih=>
   intro hs hl
   obtain ⟨hk,⟨L,o,hf,hn,ho,hd⟩,hr⟩:=hl
   have hL:L∈X.fs:=hs L (by unfold oH; rw [List.filterMap_cons,hf]; exact List.mem_cons_self)
   obtain ⟨sl,e⟩:=I.base.slot L o ho (I.ok.frf L hL) hL λz=>I.ok.exfs L z hL
   exact ⟨hk,⟨L,_,hf,hn,e,hd⟩,ih (λb hb=>hs b (by unfold oH; rw [List.filterMap_cons,hf]; exact List.mem_cons_of_mem _ hb)) hr⟩
 exact all X.outer (λ_ hb=>hb) I.ok.jT
theorem Inv.stack (I:Inv X pins σ H s):s.heap.FunFrames X.base X.stack:=by
 rcases I.ok.stk with e | ⟨e,hf⟩
 . rw [e]; exact I.jT
 . rw [e]
   obtain ⟨m,hn,_⟩:=I.loc
   refine .cons (by rw [I.ok.kind]; decide) hf hn ?_ I.jT
   exact Heap.get?_none_of_le (Nat.le_trans I.ok.bsz I.ok.above)
theorem Inv.tK (I:Inv X pins σ H s):∀b∈oH X.stack,b∈X.env.locals::X.fs:=λb hb=>by
 rcases I.ok.stk with e | ⟨e,hf⟩
 . rw [e] at hb; exact List.mem_cons_of_mem _ hb
 . rw [e] at hb
   unfold oH at hb
   rw [List.filterMap_cons,hf] at hb
   exact hb
theorem Inv.AQ (I:Inv X pins σ H s):∀b∈oH X.stack,H b=none:=λb hb=>by
 rcases List.mem_cons.mp (I.tK b hb) with e | hb
 . rw [e]; exact I.free
 . obtain ⟨_,o,ho,_⟩:=I.ok.jT.mem hb
   exact I.base.free b o ho (I.ok.frf b hb) λz=>I.ok.exfs b z hb
theorem Inv.step {g':Array GenState}{t':Nat}{d':Drawn}{ch:List Addr}(I:Inv X pins σ H s)
 (iQ:∀b∈ch,(b∈X.ex\/X.jS.heap.objs.size<=b)/\b≠X.env.locals/\(∀x c,X.env.cells.lookup x=some c->c≠b)/\∀p∈X.pn++pins,p.1≠b)
 (keep:∀b o,b≠X.env.locals->b∉X.fs->b∉ch->s.heap.get? b=some o->H b=none->h'.get? b=some o)
 (slot:∀b o,b≠X.env.locals->b∈X.fs->b∉ch->s.heap.get? b=some o->H b=none->∃sl,h'.get? b=some { o with slots:=sl }) (free:∀b o,b∉ch->s.heap.get? b=some o->H b=none->H' b=none)
 (there:∀b o,b∉ch->s.heap.get? b=some o->∃o',h'.get? b=some o')
 (tups:∀b xs,H b=some (.tup xs)->H' b=some (.tup xs)) (frzs:∀b o u,H b=some (.cz o u)->H' b=some (.cz o u)) (tbls:∀b ps,H b=some (.xN ps)->∃more,H' b=some (.xN (ps++more)))
 (ns:∀m,s.heap.Ns X.env.locals m->h'.Ns X.env.locals m) (hok:eP X.prog X.w H' h') (hg:AllBare g') :
 Inv X pins σ H' { s with heap:=h',gens:=g',drawn:=d',toks:=t' }:=by
 have So:∀b o,X.jS.heap.get? b=some o->b≠X.env.locals:=λb o e=>Nat.ne_of_lt (Nat.lt_of_lt_of_le (Heap.lt_size e) I.ok.above)
 have HS:∀b o,X.jS.heap.get? b=some o->b∉X.ex->b∉ch:=λb o e hx hb=>by
  rcases (iQ b hb).1 with z | z
  . exact hx z
  . exact absurd (Nat.lt_of_lt_of_le (Heap.lt_size e) z) (Nat.lt_irrefl _)
 have cellK:∀x c,X.env.cells.lookup x=some c->∀v,s.heap.IsCell c v->h'.IsCell c v:=λx c e v ⟨o,ho,hd⟩=>by
  have DM:c∉ch:=λz=>(iQ c z).2.2.1 x c e rfl
  by_cases hc:c∈X.fs
  . obtain ⟨sl,q⟩:=slot c o (I.xO x c e) hc DM ho (I.freeC x c e)
    exact ⟨_,q,hd⟩
  . exact ⟨o,keep c o (I.xO x c e) hc DM ho (I.freeC x c e),hd⟩
 refine ⟨I.ok,I.os,hg,⟨λb o e n hb hx=>?_,λb o e n hb hx=>?_,λb o e n hx=>?_,λb o e hx=>?_,λb xs e=>tups b xs (I.base.tups b xs e),λb o xs e=>frzs b o xs (I.base.frzs b o xs e),λb ps e=>?_⟩,?_,λx c e=>?_,?_,λx c e=>?_,λp hp=>?_,hok,I.len⟩
 . exact keep b o (So b o e) hb (HS b o e hx) (I.base.keep b o e n hb hx) (I.base.free b o e n hx)
 . obtain ⟨sl,e1⟩:=I.base.slot b o e n hb hx
   obtain ⟨sl',e2⟩:=slot b _ (So b o e) hb (HS b o e hx) e1 (I.base.free b o e n hx)
   exact ⟨sl',e2⟩
 . obtain ⟨o',e1⟩:=I.base.there b o e hx
   exact free b o' (HS b o e hx) e1 (I.base.free b o e n hx)
 . obtain ⟨o',e1⟩:=I.base.there b o e hx
   exact there b o' (HS b o e hx) e1
 . obtain ⟨m1,e1⟩:=I.base.tbls b ps e
   obtain ⟨m2,e2⟩:=tbls b _ e1
   exact ⟨m1++m2,by rw [e2,Array.append_assoc]⟩
 . obtain ⟨m,hn,hl⟩:=I.loc
   refine ⟨m,ns m hn,λi x v e1 e2 e3=>?_⟩
   obtain ⟨u,r,l⟩:=hl i x v e1 e2 e3
   refine ⟨u,r,?_⟩
   rcases l with l | ⟨k,c,e,z⟩
   . exact .inl l
   . exact .inr ⟨k,c,e,cellK x c e _ z⟩
 . obtain ⟨v,z⟩:=I.cell x c e
   exact ⟨v,cellK x c e v z⟩
 . obtain ⟨m,⟨o,_,_,ho,_⟩,_⟩:=I.loc
   exact free _ o (λz=>(iQ _ z).2.1 rfl) ho I.free
 . obtain ⟨v,o,ho,hd⟩:=I.cell x c e
   exact free c o (λz=>(iQ c z).2.2.1 x c e rfl) ho (I.freeC x c e)
 . obtain ⟨e,n,ne,nf,d⟩:=I.pin p hp
   have DM:p.1∉ch:=λz=>(iQ p.1 z).2.2.2 p hp rfl
   exact ⟨keep p.1 p.2 ne nf DM e n,free p.1 p.2 DM e n,ne,nf,d⟩
theorem Inv.un {t':Nat}(I:Inv X pins σ H s) (u:Un X.fs [] H H' s.heap h') (hok:eP X.prog X.w H' h'):Inv X pins σ H' { s with heap:=h',toks:=t' }:=by
 obtain ⟨m,⟨o,es,ep,ho,r⟩,_⟩:=id I.loc
 obtain ⟨sl,hL⟩:=u.any ho I.free (by simp)
 exact I.step (g':=s.gens) (d':=s.drawn) (ch:=[]) (λ_ z=>nomatch z) (λb o _ hb _ e n=>u.keep b o e n hb (by simp)) (λb o _ hb _ e n=>u.slot b o e n hb (by simp)) (λb o _ e n=>u.free b o e n (by simp)) (λb o _ e=>u.there b o e (by simp)) u.tups u.frzs u.tbls (λm' hm=>by
  obtain ⟨o',xP,xQ,fq,r'⟩:=hm
  rw [ho] at fq; cases fq
  exact ⟨_,xP,xQ,hL,r'⟩) hok I.bare
theorem Inv.call {g':Array GenState}{t':Nat}{d':Drawn}{ch:List Addr}(I:Inv X pins σ H s) (u:Un (oH X.stack) ch H H' s.heap h') (hok:eP X.prog X.w H' h') (hg:AllBare g')
 (iQ:∀b∈ch,(b∈X.ex\/X.jS.heap.objs.size<=b)/\b≠X.env.locals/\(∀x c,X.env.cells.lookup x=some c->c≠b)/\∀p∈X.pn++pins,p.1≠b) :
 Inv X pins σ H' { s with heap:=h',gens:=g',drawn:=d',toks:=t' }:=by
 obtain ⟨m,⟨o,es,ep,ho,r⟩,_⟩:=id I.loc
 obtain ⟨sl,hL⟩:=u.any ho I.free λz=>(iQ _ z).2.1 rfl
 exact I.step (ch:=ch) iQ (λb o hL hb hc e n=>u.keep b o e n (λz=>(List.mem_cons.mp (I.tK b z)).elim hL hb) hc) (λb o _ _ hc e n=>u.any e n hc) (λb o hc e n=>u.free b o e n hc) (λb o hc e=>u.there b o e hc) u.tups u.frzs u.tbls (λm' hm=>by
  obtain ⟨o',xP,xQ,fq,r'⟩:=hm
  rw [ho] at fq; cases fq
  exact ⟨_,xP,xQ,hL,r'⟩) hok hg
theorem Inv.turned {t':Nat}{it:Addr}(I:Inv X pins σ H s) (k:∀b o,b≠it->s.heap.get? b=some o->h'.get? b=some o) (hn:H it=none) (hL:it≠X.env.locals)
 (h1:it∈X.ex\/X.jS.heap.objs.size<=it) (h2:∀x c,X.env.cells.lookup x=some c->c≠it) (h3:∀p∈X.pn++pins,p.1≠it):Inv X pins σ H { s with heap:=h',toks:=t' }:=by
 have Sq:∀b u,H b=some u->b≠it:=λb u e z=>by rw [z,hn] at e; cases e
 refine I.step (g':=s.gens) (d':=s.drawn) (ch:=[it]) (λb hb=>?_) (λb o _ _ hc e _=>k b o (λz=>hc (by simp [z])) e) (λb o _ _ hc e _=>⟨o.slots,k b o (λz=>hc (by simp [z])) e⟩) (λ_ _ _ _ n=>n)
  (λb o hc e=>⟨o,k b o (λz=>hc (by simp [z])) e⟩) (λ_ _ e=>e) (λ_ _ _ e=>e) (λb ps e=>⟨#[],by rw [e]; simp⟩) (λm hm=>?_) (λb u e=>?_) I.bare
 . have e:b=it:=by simpa using hb
   subst e
   exact ⟨h1,hL,h2,h3⟩
 . obtain ⟨o,es,ep,ho,r⟩:=hm
   exact ⟨o,es,ep,k _ o (Ne.symm hL) ho,r⟩
 . refine (I.hok b u e).ku (λc v hc q=>k c v ?_ q) (λ_ q=>q) λ_ _ q=>q
   rcases hc with z | z
   . rw [z]; exact Sq b u e
   . exact Sq c _ z
theorem Inv.tok (I:Inv X pins σ H s) (t:Nat):Inv X pins σ H { s with toks:=t }:=I.un (h':=s.heap) (t':=t) Un.refl I.hok
theorem Inv.kept {t':Nat}(I:Inv X pins σ H s) (k:∀b u,s.heap.get? b=some u->h'.get? b=some u):Inv X pins σ H { s with heap:=h',toks:=t' }:=I.un (Un.kept k) (I.hok.kept k)
theorem Inv.laid {a:Addr}{o:HO}{t':Nat}(I:Inv X pins σ H s) (k:∀b u,s.heap.get? b=some u->h'.get? b=some u) (hp:s.heap.objs.size<=a) (new:bH X.prog X.w (upd H a o) h' a o) :
 Inv X pins σ (upd H a o) { s with heap:=h',toks:=t' }:=I.un (Un.laid k hp (I.hok.fresh hp)) (I.hok.laid k hp new)
theorem Inv.write {x e:Addr}{o:HO}{t':Nat}(I:Inv X pins σ H s) (mu:DK (H x)) (he:e=x\/H e=some (.own x)) (k:∀b u,b≠e->s.heap.get? b=some u->h'.get? b=some u) (AO:∃u,h'.get? e=some u)
 (new:bH X.prog X.w (upd H x o) h' x o):Inv X pins σ (upd H x o) { s with heap:=h',toks:=t' }:=I.un (Un.write mu he k AO) (I.hok.write mu he k AO new)
theorem Inv.AR {HU:List (Addr×Obj)}(I:Inv X pins σ H s) (h:∀p∈HU,s.heap.get? p.1=some p.2/\H p.1=none/\p.1≠X.env.locals/\p.1∉X.fs/\∀v,p.2.data≠.cell v):Inv X HU σ H s:=
 ⟨I.ok,I.os,I.bare,I.base,I.loc,I.cell,I.free,I.freeC,λp hp=>(List.mem_append.mp hp).elim (λz=>I.pin p (List.mem_append_left _ z)) (h p),I.hok,I.len⟩
theorem xR {N:List Str}(hN:N.Nodup){i j:Nat}{x:Str}(a:N[i]?=some x) (b:N[j]?=some x):i=j:=by
 obtain ⟨h1,e1⟩:=List.getElem?_eq_some_iff.mp a
 obtain ⟨h2,e2⟩:=List.getElem?_eq_some_iff.mp b
 exact (List.getElem_inj hN).mp (e1.trans e2.symm)
theorem vQ {M:Model}{A:Around}{E:Value->Shared->Prop}{i:Nat}{x:Str}{v:V}{u:Value}{Q:Unit->Shared->Prop}(I:Inv X pins σ H s) (hN:X.N.Nodup) (hi:X.N[i]?=some x) (hx:Loc X.env.scope x) (r:RelV v u)
 (h:∀s',Inv X pins (σ.set i (some v)) H s'->(∃a,Heap.SameBut a s.heap s'.heap/\(a=X.env.locals\/X.env.cells.lookup x=some a))->Q () s') (hf:X.fn x=true\/X.env.scope.names.lookup x=some .local:=by first | exact .inl rfl | exact .inr rfl | assumption):wpAny M A (storeName X.env x u) Q E s:=by
 obtain ⟨m,hn,hl⟩:=id I.loc
 have Vw:(X.env.scope.kind == .class || (X.env.scope.kind == .module && X.env.locals != X.env.globals))=false:=by rw [I.ok.kind]; rfl
 have hiσ:i < σ.length:=by rw [I.len]; exact (List.getElem?_eq_some_iff.mp hi).1
 have xO:=I.xO
 have tracked:∀{a:Addr}{h':Heap},(∃o,s.heap.get? a=some o/\H a=none)->Heap.SameBut a s.heap h'->eP X.prog X.w H h':=λ{a h'} ha hs b ob e=>by
  obtain ⟨_,_,HV⟩:=ha
  refine (I.hok b ob e).ku (λc w' hc q=>(hs.2 c ?_).trans q) (λ_ q=>q) λ_ _ q=>q
  rintro rfl
  rcases hc with rfl | hc
  . rw [HV] at e; cases e
  . rw [HV] at hc; cases hc
 rcases hx with hk | hk
 . refine wpAny_storeName_local hk hn (λh' xS hs=>?_) Vw
   obtain ⟨oL,_,_,xT,_⟩:=id hn
   refine h _ ⟨I.ok,I.os,I.bare,⟨λb o e n hb hx=>?_,λb o e n hb hx=>?_,I.base.free,λb o e hx=>?_,I.base.tups,I.base.frzs,I.base.tbls⟩,⟨_,xS,λj y v' e1 e2 e3=>?_⟩,λy c e=>?_,I.free,I.freeC,λp hp=>?_,tracked ⟨oL,xT,I.free⟩ hs,by simpa using I.len⟩ ⟨_,hs,.inl rfl⟩
   . exact (hs.2 b (Nat.ne_of_lt (Nat.lt_of_lt_of_le (Heap.lt_size e) I.ok.above))).trans (I.base.keep b o e n hb hx)
   . obtain ⟨sl,e1⟩:=I.base.slot b o e n hb hx
     exact ⟨sl,(hs.2 b (Nat.ne_of_lt (Nat.lt_of_lt_of_le (Heap.lt_size e) I.ok.above))).trans e1⟩
   . obtain ⟨o',e1⟩:=I.base.there b o e hx
     exact ⟨o',(hs.2 b (Nat.ne_of_lt (Nat.lt_of_lt_of_le (Heap.lt_size e) I.ok.above))).trans e1⟩
   . by_cases hj:j=i
     . subst hj
       rw [hi] at e1; cases e1
       rw [List.getElem?_set_self hiσ] at e2
       cases e2
       exact ⟨u,r,.inl ⟨hk,by simp⟩⟩
     . rw [List.getElem?_set_ne (Ne.symm hj)] at e2
       obtain ⟨u',r',q⟩:=hl j y v' e1 e2 e3
       refine ⟨u',r',?_⟩
       rcases q with ⟨k,e⟩ | ⟨k,c,e,z⟩
       . refine .inl ⟨k,?_⟩
         have:y≠x:=λe=>hj (xR hN e1 (e ▸ hi))
         simp [this,e]
       . exact .inr ⟨k,c,e,z.sameBut hs (xO y c e)⟩
   . obtain ⟨w',z⟩:=I.cell y c e
     exact ⟨w',z.sameBut hs (xO y c e)⟩
   . obtain ⟨e,n,ne,nf,d⟩:=I.pin p hp
     exact ⟨(hs.2 p.1 ne).trans e,n,ne,nf,d⟩
 . have Lr:X.fn x=true:=by
    rcases hf with z | z
    . exact z
    . rw [z] at hk; cases hk
   obtain ⟨c,hc⟩:=I.ok.has x (.inl hk)
   obtain ⟨w',z⟩:=I.cell x c hc
   refine wpAny_storeName_cell I.ok.kind hk hc z (λh' eQ hs=>?_)
   obtain ⟨oc,Sr,Vx⟩:=id z
   refine h { s with heap:=h' } ⟨I.ok,I.os,I.bare,⟨λb o e n hb hx=>?_,λb o e n hb hx=>?_,I.base.free,λb o e hx=>?_,I.base.tups,I.base.frzs,I.base.tbls⟩,⟨m,hn.sameBut hs (Ne.symm (xO x c hc)),λj y v' e1 e2 e3=>?_⟩,λy c' e=>?_,I.free,I.freeC,λp hp=>?_,tracked ⟨oc,Sr,I.freeC x c hc⟩ hs,by simpa using I.len⟩ ⟨c,hs,.inr hc⟩
   . exact (hs.2 b (Nat.ne_of_lt (Nat.lt_of_lt_of_le (Heap.lt_size e) (I.ok.cab x c Lr hc)))).trans (I.base.keep b o e n hb hx)
   . obtain ⟨sl,e1⟩:=I.base.slot b o e n hb hx
     exact ⟨sl,(hs.2 b (Nat.ne_of_lt (Nat.lt_of_lt_of_le (Heap.lt_size e) (I.ok.cab x c Lr hc)))).trans e1⟩
   . obtain ⟨o',e1⟩:=I.base.there b o e hx
     exact ⟨o',(hs.2 b (Nat.ne_of_lt (Nat.lt_of_lt_of_le (Heap.lt_size e) (I.ok.cab x c Lr hc)))).trans e1⟩
   . by_cases hj:j=i
     . subst hj
       rw [hi] at e1; cases e1
       rw [List.getElem?_set_self hiσ] at e2
       cases e2
       exact ⟨u,r,.inr ⟨.inl hk,c,hc,eQ⟩⟩
     . rw [List.getElem?_set_ne (Ne.symm hj)] at e2
       obtain ⟨u',r',q⟩:=hl j y v' e1 e2 e3
       refine ⟨u',r',?_⟩
       rcases q with q | ⟨k,c',e,z'⟩
       . exact .inl q
       . refine .inr ⟨k,c',e,z'.sameBut hs ?_⟩
         rintro rfl
         exact hj (xR hN e1 (I.ok.inj _ _ _ e hc ▸ hi))
   . by_cases Ss:c'=c
     . subst Ss; exact ⟨_,eQ⟩
     . obtain ⟨w2,z2⟩:=I.cell y c' e
       exact ⟨w2,z2.sameBut hs Ss⟩
   . obtain ⟨e,n,ne,nf,d⟩:=I.pin p hp
     refine ⟨(hs.2 p.1 ?_).trans e,n,ne,nf,d⟩
     intro q
     rw [q,Sr] at e
     have q':oc=p.2:=Option.some.inj e
     exact d w' (by rw [← q']; exact Vx)
theorem xU {M:Model}{A:Around}{E:Value->Shared->Prop}{i:Nat}{x:Str}{v:V}{u:Value}{Q:Unit->Shared->Prop}(I:Inv X pins σ H s) (hN:X.N.Nodup) (hi:X.N[i]?=some x) (hx:Loc X.env.scope x) (r:RelV v u)
 (h:∀s',Inv X pins (σ.set i (some v)) H s'->Q () s') (hf:X.fn x=true\/X.env.scope.names.lookup x=some .local:=by first | exact .inl rfl | exact .inr rfl | assumption):wpAny M A (storeName X.env x u) Q E s:=
 vQ I hN hi hx r (λs' I' _=>h s' I') hf
theorem Inv.PX {s':Shared}{ch:List Addr}(I:Inv X pins σ H s) (ho:s'.os=s.os) (u:Un (oH X.stack) ch H H' s.heap s'.heap) (hok:eP X.prog X.w H' s'.heap) (hg:AllBare s'.gens)
 (iQ:∀b∈ch,(b∈X.ex\/X.jS.heap.objs.size<=b)/\b≠X.env.locals/\(∀x c,X.env.cells.lookup x=some c->c≠b)/\∀p∈X.pn++pins,p.1≠b):Inv X pins σ H' s':=by
 obtain ⟨h',g',d',t',o'⟩:=s'
 have e:o'=s.os:=ho
 subst e
 exact I.call (g':=g') (t':=t') (d':=d') u hok hg iQ
end
abbrev XK:=Value->Option Addr->Hp->Prop
abbrev St:=List (Option V)
abbrev VK:=V->Hp->Prop
abbrev TE:=St->Hp->VK->Prop
abbrev TT:=St->Hp->(Bool->Hp->Prop)->Prop
abbrev TA:=St->Hp->(List V->Hp->Prop)->Prop
structure Ends where
 nx:St->Hp->Prop
 rt:VK
 bk:St->Hp->Prop:=λ_ _=>False
 ct:St->Hp->Prop:=λ_ _=>False
abbrev TS:=Ends->St->Hp->Prop
def EP (X:Cx) (pins:List (Addr×Obj)) (σ:St) (Q:VK) (u:Value) (s':Shared):Prop:=∃v H',Inv X pins σ H' s'/\RelV v u/\Q v H'
def TP (X:Cx) (pins:List (Addr×Obj)) (σ:St) (Q:Bool->Hp->Prop) (b:Bool) (s':Shared):Prop:=∃H',Inv X pins σ H' s'/\Q b H'
def AP (X:Cx) (pins:List (Addr×Obj)) (σ:St) (Q:List V->Hp->Prop) (us:List Value) (s':Shared):Prop:=∃vs H',Inv X pins σ H' s'/\Vals vs us/\Q vs H'
def SP (X:Cx) (pins:List (Addr×Obj)) (D:Ends) (f:Flow) (s':Shared):Prop:=
 match f with
 | .next=>∃bx H',Inv X pins bx H' s'/\D.nx bx H'
 | .brk=>∃bx H',Inv X pins bx H' s'/\D.bk bx H'
 | .cont=>∃bx H',Inv X pins bx H' s'/\D.ct bx H'
 | .ret u=>∃v bx H',Inv X pins bx H' s'/\RelV v u/\D.rt v H'
def PE (X:Cx) (e:Expr) (t:TE):Prop:=
 ∀(pins:List (Addr×Obj)) (s:Shared) (σ:St) (H:Hp) (Q:VK),Inv X pins σ H s->t σ H Q->wpAny (model X.prog X.w) X.A (eval e X.env) (EP X pins σ Q) X.xe s
def PT (X:Cx) (e:Expr) (t:TT):Prop:=
 ∀(pins:List (Addr×Obj)) (s:Shared) (σ:St) (H:Hp) (Q:Bool->Hp->Prop),Inv X pins σ H s->t σ H Q->wpAny (model X.prog X.w) X.A (isTrue e X.env (eval e X.env)) (TP X pins σ Q) X.xe s
def PW (X:Cx) (e:Expr) (t:TT):Prop:=
 ∀(whole:Sem Value) (pins:List (Addr×Obj)) (s:Shared) (σ:St) (H:Hp) (Q:Bool->Hp->Prop),Inv X pins σ H s->t σ H Q->wpAny (model X.prog X.w) X.A (isTrue e X.env whole) (TP X pins σ Q) X.xe s
theorem PW.pt {X:Cx}{e:Expr}{t:TT}(h:PW X e t):PT X e t:=h _
def PA (X:Cx) (es:List Expr) (t:TA):Prop:=
 ∀(pos:Pos) (pins:List (Addr×Obj)) (s:Shared) (σ:St) (H:Hp) (Q:List V->Hp->Prop),Inv X pins σ H s->t σ H Q->wpAny (model X.prog X.w) X.A (spliced (backTo pos (starEach es X.env))) (AP X pins σ Q) X.xe s
def PS (X:Cx) (st:Stmt) (t:TS):Prop:=
 ∀(pins:List (Addr×Obj)) (s:Shared) (σ:St) (H:Hp) (D:Ends),Inv X pins σ H s->t D σ H->wpAny (model X.prog X.w) X.A (exec st X.env) (SP X pins D) X.xe s
def iR (X:Cx) (st:List Stmt) (t:TS):Prop:=
 ∀(pins:List (Addr×Obj)) (s:Shared) (σ:St) (H:Hp) (D:Ends),Inv X pins σ H s->t D σ H->wpAny (model X.prog X.w) X.A (execs st X.env) (SP X pins D) X.xe s
theorem aJ {α:Type}{t:Sem α}{Q Q':α->Shared->Prop}{M:Model}{A:Around}{E:Value->Shared->Prop}{s:Shared}(h:wpAny M A t Q E s) (hQ:∀a s,Q a s->Q' a s):wpAny M A t Q' E s:=wpAny_mono h hQ λ_ _ x=>x
end L2
namespace L2
open PySem PySem.Spec PyProof.Rows
section
variable {X:Cx}
theorem bin {a b:Expr}{ta tb:TE}(ha:PE X a ta) (hb:PE X b tb){pins:List (Addr×Obj)}{s:Shared}{σ:St}{H:Hp}{R:V->V->Hp->Prop}(I:Inv X pins σ H s) (h:ta σ H λx H1=>tb σ H1 λy H2=>R x y H2)
 {α:Type}{Q:α->Shared->Prop}{f:Value->Value->Sem α}
 (hf:∀v u s2 x y H2,Inv X pins σ H2 s2->RelV x v->RelV y u->R x y H2->wpAny (model X.prog X.w) X.A (f v u) Q X.xe s2) :
 wpAny (model X.prog X.w) X.A (eval a X.env) (λv dm=>wpAny (model X.prog X.w) X.A (eval b X.env) (λu uU=>wpAny (model X.prog X.w) X.A (f v u) Q X.xe uU) X.xe dm) X.xe s:=by
 refine aJ (ha pins s σ H _ I h) λv s1 ⟨x,H1,I1,r1,q1⟩=>?_
 refine aJ (hb pins s1 σ H1 _ I1 q1) λu s2 ⟨y,H2,I2,r2,q2⟩=>?_
 exact hf v u s2 x y H2 I2 r1 r2 q2
def oX (i:Nat):TE:=λσ H Q=>∃v,σ[i]?=some (some v)/\Q v H
def tC (v:V):TE:=λ_ H Q=>Q v H
theorem Ls {i:Nat}{x:Str}{pos:Pos}(hN:X.N[i]?=some x) (hv:Lq X.env.scope x) (hd:(x == ("__debug__" : Str))=false:=by decide) (oY:(x == ("__classdict__" : Str))=false:=by decide):PE X (.Name x pos) (oX i):=by
 intro pins s σ H Q I h
 obtain ⟨v,e,h⟩:=h
 obtain ⟨m,hn,hl⟩:=I.loc
 obtain ⟨u,r,l⟩:=hl i x v hN e hv
 have fin:EP X pins σ Q u s:=⟨v,H,I,r,h⟩
 rcases l with ⟨hk,hm⟩ | ⟨hk,c,hc,HW⟩
 . exact wpAny_Name (wpAny_loadName_local I.ok.kind hk hn hm fin) hd
 . rcases hk with hk | hk
   . exact wpAny_Name (wpAny_loadName_cell I.ok.kind hk hc HW fin) hd
   . exact wpAny_Name (wpAny_loadName_free I.ok.kind hk hc HW fin oY) hd
theorem av {i j pos} : PE X (.Constant (.int i) j pos) (tC (.int i)):=λ_ _ _ H _ I h=>wpAny_Constant_int ⟨.int i,H,I.tok _,⟨_,rfl⟩,h⟩
theorem j3 {b j pos} : PE X (.Constant (.bool b) j pos) (tC (.bl b)):=λ_ _ _ H _ I h=>Constant_bool ⟨.bl b,H,I,rfl,h⟩
theorem tL {j pos} : PE X (.Constant .none j pos) (tC .aS):=λ_ _ _ H _ I h=>Constant_none ⟨.aS,H,I,rfl,h⟩
theorem aO {x j pos} : PE X (.Constant (.str x) j pos) (tC (.str x)):=λ_ _ _ H _ I h=>Calls.Constant_str ⟨.str x,H,I.tok _,⟨_,rfl⟩,h⟩
def Gl (X:Cx) (x:Str):Prop:=X.env.kindOf x=some .globalImplicit
theorem AS {E:Value->Shared->Prop}{pins:List (Addr×Obj)}{s:Shared}{σ:St}{H:Hp}{x:Str}{u:Value}{pos:Pos}{Q:Value->Shared->Prop}(I:Inv X pins σ H s) (hg:Gl X x) (hm:X.mg x=some u) (h:Q u s)
 (hd:(x == ("__debug__" : Str))=false:=by decide):wpAny (model X.prog X.w) X.A (eval (.Name x pos) X.env) Q E s:=
 Calls.Name_function_global I.ok.kind hg (Calls.loadGlobal_global (by rw [I.ok.glob]; exact I.mod.glob.keeps I.bk) hm h) hd
theorem jA {E:Value->Shared->Prop}{pins:List (Addr×Obj)}{s:Shared}{σ:St}{H:Hp}{x:Str}{u:Value}{pos:Pos}{Q:Value->Shared->Prop}(I:Inv X pins σ H s) (hg:Gl X x) (hm:X.mg x=none) (hv:bootBuiltins x=some u) (h:Q u s)
 (hn:x ≠ "__name__":=by decide) (hd:(x == ("__debug__" : Str))=false:=by decide):wpAny (model X.prog X.w) X.A (eval (.Name x pos) X.env) Q E s:=by
 obtain ⟨mb,h1,h2⟩:=I.mod.blt
 exact Calls.Name_function_global I.ok.kind hg (Calls.loadGlobal_builtin (by rw [I.ok.glob]; exact I.mod.glob.keeps I.bk) hm (by rw [I.ok.blt]; exact h1.keeps I.bk) ((h2 x hn).trans hv) h) hd
theorem uV {x:Str}{v:V}{u:Value}{pos:Pos}(hg:Gl X x) (hm:X.mg x=none) (hv:bootBuiltins x=some u) (r:RelV v u) (hn:x ≠ "__name__":=by decide) (hd:(x == ("__debug__" : Str))=false:=by decide):PE X (.Name x pos) (tC v):=
 λ_ _ _ H _ I h=>jA I hg hm hv ⟨v,H,I,r,h⟩ hn hd
variable {a b:Expr}{ta tb:TE}{pos:Pos}
def PC (X:Cx) (op:CmpOp) (a b:Expr) (t:TE):Prop:=
 ∀(pins:List (Addr×Obj)) (s:Shared) (σ:St) (H:Hp) (Q:VK),Inv X pins σ H s->t σ H Q->
  wpAny (model X.prog X.w) X.A (eval a X.env) (λv dm=>wpAny (model X.prog X.w) X.A (eval b X.env) (λu uU=>wpAny (model X.prog X.w) X.A (compareOp op v u) (EP X pins σ Q) X.xe uU) X.xe dm) X.xe s
theorem xV (b:Expr){op:CmpOp}(h:op≠.In) (h2:op≠.NotIn):behindInMarks op b=false:=by
 have e1:(op == CmpOp.In)=false:=by cases op <;> first | rfl | exact absurd rfl h
 have e2:(op == CmpOp.NotIn)=false:=by cases op <;> first | rfl | exact absurd rfl h2
 cases b <;> simp [behindInMarks,e1,e2]
def Vy (ta:TE):TE:=λσ H Q=>ta σ H λx H1=>Q (.bl (decide (x=.aS))) H1
def PY (ta:TE):TE:=λσ H Q=>ta σ H λx H1=>Q (.bl (!decide (x=.aS))) H1
theorem RelV.xW {x:V}{v:Value}(r:RelV x v):(v == Value.none)=decide (x=.aS):=by
 cases x with
 | aS=>cases r; rfl
 | bl _=>cases r; rfl
 | int _=>obtain ⟨t,rfl⟩:=r; rfl
 | str _=>obtain ⟨t,rfl⟩:=r; rfl
 | mh _=>obtain ⟨t,rfl⟩:=r; rfl
 | vP _=>obtain ⟨t,rfl⟩:=r; rfl
 | ref _=>cases r; rfl
 | ty _=>cases r; rfl
theorem xX {j pos'} (ha:PE X a ta):PC X .Is a (.Constant .none j pos') (Vy ta):=by
 intro pins s σ H Q I h
 refine aJ (ha pins s σ H _ I h) λv s1 ⟨x,H1,I1,r1,q1⟩=>?_
 exact Constant_none (is_none_gen ⟨.bl _,H1,I1,by rw [r1.xW]; rfl,q1⟩)
theorem qk {j pos'} (ha:PE X a ta):PC X .IsNot a (.Constant .none j pos') (PY ta):=by
 intro pins s σ H Q I h
 refine aJ (ha pins s σ H _ I h) λv s1 ⟨x,H1,I1,r1,q1⟩=>?_
 exact Constant_none (isnot_none_gen ⟨.bl _,H1,I1,by rw [r1.xW]; rfl,q1⟩)
def tB (t:TE):TT:=λσ H Q=>t σ H λx H1=>∃c,x=.bl c/\Q c H1
theorem Lu {op:CmpOp}{t:TE}(h:PC X op a b t) (h1:behindInMarks op b=false:=by first | exact xV _ (by decide) (by decide) | rfl):PE X (.Compare a [op] [b] pos) t:=λpins s σ H Q I hw=>wpAny_Compare1 (h pins s σ H Q I hw) h1
theorem iS {op:CmpOp}{t:TE}(h:PC X op a b t) (h1:behindInMarks op b=false:=by first | exact xV _ (by decide) (by decide) | rfl):PT X (.Compare a [op] [b] pos) (tB t):=by
 intro pins s σ H Q I hw
 refine wpAny_isTrue_Compare1 (aJ (h pins s σ H _ I hw) λv s1 h1=>aJ h1 λu s2 h2=>aJ h2 λc s3 ⟨x,H1,I1,r1,q1⟩=>?_) h1
 obtain ⟨d,rfl,q⟩:=q1
 cases r1
 exact wpAny_truthy_bool ⟨H1,I1,q⟩
theorem ie {e:Expr}{t:TE}(h:PE X e t) (he:∀whole,isTrue e X.env whole=(do let v ← whole; standAt e.pos; holding [v] (truthy v)):=by intro _; rfl):PT X e (tB t):=by
 intro pins s σ H Q I hw
 refine isTrue_plain (aJ (h pins s σ H _ I hw) λv s1 ⟨x,H1,I1,r1,q1⟩=>?_) (he _)
 obtain ⟨d,rfl,q⟩:=q1
 cases r1
 exact wpAny_truthy_bool ⟨H1,I1,q⟩
variable {tA HX:TT}{rest:List Expr}
def Vz (t u:TT):TT:=λσ H Q=>t σ H λc H1=>if c=true then u σ H1 Q else Q false H1
def tOr (t u:TT):TT:=λσ H Q=>t σ H λc H1=>if c=true then Q true H1 else u σ H1 Q
def VA (t:TT):TT:=λσ H Q=>t σ H λc H1=>Q (!c) H1
theorem ql (ha:PT X a tA):PW X (.BoolOp .And [a] pos) tA:=by
 intro wh pins s σ H Q I h
 refine isTrue_and (aJ (ha pins s σ H Q I h) λc s1 e=>?_)
 cases c with
 | true=>exact isTrue_and_nil e
 | false=>exact e
theorem mi (ha:PT X a tA):PW X (.BoolOp .Or [a] pos) tA:=by
 intro wh pins s σ H Q I h
 refine isTrue_or (aJ (ha pins s σ H Q I h) λc s1 e=>?_)
 cases c with
 | false=>exact isTrue_or_nil e
 | true=>exact e
theorem tM (ha:PT X a tA) (hb:PW X (.BoolOp .And (b::rest) pos) HX):PW X (.BoolOp .And (a::b::rest) pos) (Vz tA HX):=by
 intro wh pins s σ H Q I h
 refine isTrue_and (aJ (ha pins s σ H _ I h) λc s1 ⟨H1,I1,q1⟩=>?_)
 cases c with
 | true=>exact hb wh pins s1 σ H1 Q I1 q1
 | false=>exact ⟨H1,I1,q1⟩
theorem nE (ha:PT X a tA) (hb:PW X (.BoolOp .Or (b::rest) pos) HX):PW X (.BoolOp .Or (a::b::rest) pos) (tOr tA HX):=by
 intro wh pins s σ H Q I h
 refine isTrue_or (aJ (ha pins s σ H _ I h) λc s1 ⟨H1,I1,q1⟩=>?_)
 cases c with
 | true=>exact ⟨H1,I1,q1⟩
 | false=>exact hb wh pins s1 σ H1 Q I1 q1
theorem ky (ha:PT X a tA):PT X (.UnaryOp .Not a pos) (VA tA):=by
 intro pins s σ H Q I h
 exact isTrue_not (ha pins s σ H (λc H1=>Q (!c) H1) I h)
def PZ (ta tb:TE):TE:=λσ H Q=>ta σ H λx H1=>∃c,x=.bl c/\if c=true then tb σ H1 Q else Q (.bl false) H1
def VB (ta tb:TE):TE:=λσ H Q=>ta σ H λx H1=>∃c,x=.bl c/\if c=true then Q (.bl true) H1 else tb σ H1 Q
theorem xY {op} {t:TE}(h:PE X a t):PE X (.BoolOp op [a] pos) t:=λpins s σ H Q I hw=>BoolOp_one (h pins s σ H Q I hw)
theorem DN (ha:PE X a ta) (hb:PE X (.BoolOp .And (b::rest) pos) tb):PE X (.BoolOp .And (a::b::rest) pos) (PZ ta tb):=by
 intro pins s σ H Q I h
 refine BoolOp_and (aJ (ha pins s σ H _ I h) λv s1 ⟨x,H1,I1,r1,q1⟩=>?_)
 obtain ⟨c,rfl,q1⟩:=q1
 cases r1
 refine wpAny_truthy_bool ?_
 cases c with
 | true=>exact hb pins s1 σ H1 Q I1 q1
 | false=>exact ⟨.bl false,H1,I1,rfl,q1⟩
theorem P0 (ha:PE X a ta) (hb:PE X (.BoolOp .Or (b::rest) pos) tb):PE X (.BoolOp .Or (a::b::rest) pos) (VB ta tb):=by
 intro pins s σ H Q I h
 refine BoolOp_or (aJ (ha pins s σ H _ I h) λv s1 ⟨x,H1,I1,r1,q1⟩=>?_)
 obtain ⟨c,rfl,q1⟩:=q1
 cases r1
 refine wpAny_truthy_bool ?_
 cases c with
 | false=>exact hb pins s1 σ H1 Q I1 q1
 | true=>exact ⟨.bl true,H1,I1,rfl,q1⟩
def tIf (t:TT) (ta tb:TE):TE:=λσ H Q=>t σ H λc H1=>if c=true then ta σ H1 Q else tb σ H1 Q
theorem sk {c:Expr}(hc:PT X c tA) (ha:PE X a ta) (hb:PE X b tb):PE X (.IfExp c a b pos) (tIf tA ta tb):=by
 intro pins s σ H Q I h
 refine wpAny_IfExp (aJ (hc pins s σ H _ I h) λd s1 ⟨H1,I1,q1⟩=>?_)
 cases d with
 | true=>exact ha pins s1 σ H1 Q I1 q1
 | false=>exact hb pins s1 σ H1 Q I1 q1
end
end L2
namespace L2
open PySem PySem.Spec PyProof.Rows
def aq (K:W.Frag) (H:Hp) (a:Addr) (xs:List V):Prop:=
 Rd H a (.lst xs)\/
  ∃(o:Obj) (its:Array Value) (n:Nat),K.lookup a=some o/\o.cls=.type "list" /\ o.dict=none/\o.data=.seq its n/\its.size<=sizeLine/\Vals xs its.toList
def aR (K:W.Frag) (H:Hp) (a:Addr) (xs:List V):Prop:=
 Rd H a (.tup xs)\/
  ∃(o:Obj) (its:Array Value) (n:Nat),K.lookup a=some o/\o.cls=.type "tuple" /\ o.data=.seq its n/\its.size<=sizeLine/\Vals xs its.toList
def VC:Value->Option V
 | .none=>some .aS
 | .bool b=>some (.bl b)
 | .int i _=>some (.int i)
 | .str x _=>some (.str x)
 | .bytes b _=>some (.mh b)
 | .float b _=>some (.vP b)
 | .ref a=>some (.ref a)
 | .type n=>some (.ty n)
 | _=>none
theorem RelV.abs {x:V}{u:Value}(r:RelV x u):VC u=some x:=by
 cases x with
 | aS=>cases r; rfl
 | bl _=>cases r; rfl
 | int _=>obtain ⟨t,rfl⟩:=r; rfl
 | str _=>obtain ⟨t,rfl⟩:=r; rfl
 | mh _=>obtain ⟨t,rfl⟩:=r; rfl
 | vP _=>obtain ⟨t,rfl⟩:=r; rfl
 | ref _=>cases r; rfl
 | ty _=>cases r; rfl
theorem RelV.inj {x y:V}{u:Value}(r:RelV x u) (q:RelV y u):x=y:=Option.some.inj (r.abs.symm.trans q.abs)
theorem Vals.inj:∀{xs ys:List V}{us:List Value},Vals xs us->Vals ys us->xs=ys
 | _,_,_,.nil,.nil=>rfl
 | _,_,_,.cons r t,.cons r' t'=>by rw [r.inj r',Vals.inj t t']
section
variable {X:Cx}{pins:List (Addr×Obj)}{σ:St}{H:Hp}{s:Shared}{a:Addr}{xs ys:List V}
theorem aq.of {K:W.Frag}(h:H a=some (.lst xs)):aq K H a xs:=.inl (.inl h)
theorem aR.of {K:W.Frag}(h:H a=some (.tup xs)):aR K H a xs:=.inl (.inl h)
theorem Inv.list (I:Inv X pins σ H s) (h:aq X.K H a xs):∃its:List Value,Vals xs its/\PlainL s.heap a its.toArray/\xs.length<=sizeLine:=by
 rcases h with h | ⟨o,its,n,hk,hc,hd,hs,hz,r⟩
 . obtain ⟨z,its,n,r,e⟩:=h.ok I.hok
   exact ⟨its,r,⟨_,n,e,rfl,rfl,rfl⟩,z⟩
 . refine ⟨its.toList,r,⟨o,n,I.gd a o hk,hc,hd,by simpa using hs⟩,?_⟩
   have e:=r.length
   simp only [Array.length_toList] at e
   omega
theorem Inv.tuple (I:Inv X pins σ H s) (h:aR X.K H a xs):∃its:List Value,Vals xs its/\IsTup s.heap a its.toArray/\xs.length<=sizeLine:=by
 rcases h with h | ⟨o,its,n,hk,hc,hs,hz,r⟩
 . obtain ⟨z,its,r,p⟩:=h.ok I.hok
   exact ⟨its,r,p,z⟩
 . refine ⟨its.toList,r,⟨o,I.gd a o hk,hc,n,by simpa using hs⟩,?_⟩
   have e:=r.length
   simp only [Array.length_toList] at e
   omega
theorem Inv.nF (I:Inv X pins σ H s) (h:aq X.K H a xs) (h':aq X.K H a ys):xs=ys:=by
 obtain ⟨its,r,⟨o,n,e,_,_,d⟩,_⟩:=I.list h
 obtain ⟨its',r',⟨o',n',e',_,_,d'⟩,_⟩:=I.list h'
 rw [e] at e'; cases e'
 rw [d] at d'
 injection d' with d1 _
 have:its=its':=by simpa using congrArg Array.toList d1
 subst this
 exact r.inj r'
theorem Inv.lB (I:Inv X pins σ H s) (h:aR X.K H a xs) (h':aR X.K H a ys):xs=ys:=by
 obtain ⟨its,r,⟨o,e,_,n,d⟩,_⟩:=I.tuple h
 obtain ⟨its',r',⟨o',e',_,n',d'⟩,_⟩:=I.tuple h'
 rw [e] at e'; cases e'
 rw [d] at d'
 injection d' with d1 _
 have:its=its':=by simpa using congrArg Array.toList d1
 subst this
 exact r.inj r'
end
abbrev Cx.lW (X:Cx) (E:Value->Shared->Prop):Cx:={ X with xe:=E }
abbrev Cx.xZ (X:Cx):Cx:=X.lW λ_ _=>False
theorem Cx.Ok.lW {X:Cx}(ok:X.Ok) (E:Value->Shared->Prop):(X.lW E).Ok:=
 ⟨ok.mod,ok.kind,ok.glob,ok.blt,ok.above,ok.inj,ok.has,ok.cab,ok.hd,ok.frames,ok.stk,ok.exf,ok.bs,ok.bsz,ok.noex,ok.exfs,ok.jT,ok.frf⟩
theorem Cx.Ok.jB {X:Cx}{E:Value->Shared->Prop}(ok:(X.lW E).Ok):X.Ok:=
 ⟨ok.mod,ok.kind,ok.glob,ok.blt,ok.above,ok.inj,ok.has,ok.cab,ok.hd,ok.frames,ok.stk,ok.exf,ok.bs,ok.bsz,ok.noex,ok.exfs,ok.jT,ok.frf⟩
section
variable {X:Cx}{pins:List (Addr×Obj)}{σ:St}{H:Hp}{s:Shared}{E:Value->Shared->Prop}
theorem Inv.lW (I:Inv X pins σ H s) (E:Value->Shared->Prop):Inv (X.lW E) pins σ H s:=⟨I.ok.lW E,I.os,I.bare,I.base,I.loc,I.cell,I.free,I.freeC,I.pin,I.hok,I.len⟩
theorem Inv.jB (I:Inv (X.lW E) pins σ H s):Inv X pins σ H s:=⟨I.ok.jB,I.os,I.bare,I.base,I.loc,I.cell,I.free,I.freeC,I.pin,I.hok,I.len⟩
theorem SP.jB {D:Ends}{f:Flow}{s':Shared}(h:SP (X.lW E) pins D f s'):SP X pins D f s':=by
 cases f with
 | next=>obtain ⟨bx,H',I,q⟩:=h; exact ⟨bx,H',I.jB,q⟩
 | brk=>obtain ⟨bx,H',I,q⟩:=h; exact ⟨bx,H',I.jB,q⟩
 | cont=>obtain ⟨bx,H',I,q⟩:=h; exact ⟨bx,H',I.jB,q⟩
 | ret u=>obtain ⟨v,bx,H',I,r,q⟩:=h; exact ⟨v,bx,H',I.jB,r,q⟩
theorem iR.xZ {st:List Stmt}{t:TS}(h:iR X.xZ st t):iR X st t:=λpins s σ H D I hw=>
 wpAny_mono (h pins s σ H D (I.lW _) hw) (λ_ _ q=>q.jB) λ_ _ z=>False.elim z
end
section
variable {X:Cx}{st:Stmt}{rest:List Stmt}{t u:TS}{e:Expr}{te:TE}{pos:Pos}
def P4:TS:=λD σ H=>D.nx σ H
def x3 (t u:TS):TS:=λD σ H=>t { D with nx:=u D } σ H
theorem aY:iR X [] P4:=λ_ _ σ H _ I h=>wpAny_execs_nil ⟨σ,H,I,h⟩
theorem ak (h1:PS X st t) (h2:iR X rest u):iR X (st::rest) (x3 t u):=by
 intro pins s σ H D I h
 refine wpAny_execs_cons (aJ (h1 pins s σ H { D with nx:=u D } I h) λf s1 q=>?_)
 cases f with
 | next=>
  obtain ⟨bx,H',I',q⟩:=q
  exact h2 pins s1 bx H' D I' q
 | ret v=>exact q
 | brk=>exact q
 | cont=>exact q
theorem ar (h1:PS X st t):iR X [st] t:=by
 intro pins s σ H D I h
 refine wpAny_execs_cons (aJ (h1 pins s σ H D I h) λf s1 q=>?_)
 cases f with
 | next=>exact wpAny_execs_nil q
 | ret v=>exact q
 | brk=>exact q
 | cont=>exact q
theorem Inv.quiet {pins:List (Addr×Obj)}{σ:St}{H:Hp}{s:Shared}(I:Inv X pins σ H s):interactive X.env=false:=by simp [interactive,I.ok.kind]
def P5 (te:TE):TS:=λD σ H=>te σ H λ_ H1=>D.nx σ H1
theorem dg (he:PE X e te) (hs:swapsWith e none pos.line X.env=pure false:=by rfl):PS X (.Expr e pos) (P5 te):=by
 intro pins s σ H D I h
 exact wpAny_Expr_any (aJ (he pins s σ H _ I h) λv s1 ⟨x,H1,I1,r1,q1⟩=>⟨σ,H1,I1,q1⟩) I.quiet hs
def VD (te:TE):TS:=λD σ H=>te σ H D.rt
theorem aT (he:PE X e te):PS X (.Return (some e) pos) (VD te):=by
 intro pins s σ H D I h
 exact wpAny_Return_some (aJ (he pins s σ H _ I h) λv s1 ⟨x,H1,I1,r1,q1⟩=>⟨x,σ,H1,I1,r1,q1⟩)
def Lv (c:TT) (t u:TS):TS:=λD σ H=>c σ H λb H1=>if b=true then t D σ H1 else u D σ H1
theorem bY {c:Expr}{a b:List Stmt}{tc:TT}(hc:PT X c tc) (ha:iR X a t) (hb:iR X b u):PS X (.If c a b pos) (Lv tc t u):=by
 intro pins s σ H D I h
 refine wpAny_If (aJ (hc pins s σ H _ I h) λd s1 ⟨H1,I1,q1⟩=>?_)
 cases d with
 | true=>exact ha pins s1 σ H1 D I1 q1
 | false=>exact hb pins s1 σ H1 D I1 q1
def Lw:TS:=λ_ _ _=>False
theorem cS:PS X st Lw:=λ_ _ _ _ _ _ h=>h.elim
end
abbrev TG:=V->St->Hp->(St->Hp->Prop)->Prop
abbrev tN:=List V->St->Hp->(St->Hp->Prop)->Prop
def PG (X:Cx) (target:Expr) (t:TG):Prop:=
 ∀(pins:List (Addr×Obj)) (s:Shared) (σ:St) (H:Hp) (v:V) (u:Value) (Q:St->Hp->Prop),Inv X pins σ H s->RelV v u->t v σ H Q->
  wpAny (model X.prog X.w) X.A (assign target X.env u) (λ_ s'=>∃bx H',Inv X pins bx H' s'/\Q bx H') X.xe s
def DO (X:Cx) (ts:List Expr) (t:tN):Prop:=
 ∀(pins:List (Addr×Obj)) (s:Shared) (σ:St) (H:Hp) (vs:List V) (us:List Value) (Q:St->Hp->Prop),Inv X pins σ H s->Vals vs us->t vs σ H Q->
  wpAny (model X.prog X.w) X.A (assignInOrder ((assignEach ts X.env).map (·.2)) us) (λ_ s'=>∃bx H',Inv X pins bx H' s'/\Q bx H') X.xe s
abbrev Gf:=V->V->V->Hp->(Hp->Prop)->Prop
def Ly (X:Cx) (t:Gf):Prop:=
 ∀(pins:List (Addr×Obj)) (s:Shared) (σ:St) (H:Hp) (o i v:V) (ov iv u:Value) (Q:Hp->Prop),Inv X pins σ H s->RelV o ov->RelV i iv->RelV v u->t o i v H Q->
  wpAny (model X.prog X.w) X.A (setItem ov iv u) (λ_ s'=>∃H',Inv X pins σ H' s'/\Q H') X.xe s
section
variable {X:Cx}{pos:Pos}
def dr (i:Nat):TG:=λv σ H Q=>Q (σ.set i (some v)) H
theorem ax {i:Nat}{x:Str}(hN:X.N.Nodup) (hi:X.N[i]?=some x) (hx:Loc X.env.scope x) (hf:X.fn x=true\/X.env.scope.names.lookup x=some .local:=by first | exact .inl rfl | exact .inr rfl | assumption):PG X (.Name x pos) (dr i):=by
 intro pins s σ H v u Q I r h
 exact wpAny_assign_Name (xU I hN hi hx r (λs' I'=>⟨_,H,I',h⟩) hf)
def so:tN:=λvs σ H Q=>vs=[]/\Q σ H
def g8 (t:TG) (u:tN):tN:=λvs σ H Q=>∃v r,vs=v::r/\t v σ H λbx H'=>u r bx H' Q
theorem cU:DO X [] so:=by
 intro pins s σ H vs us Q I r h
 obtain ⟨e,h⟩:=h
 subst e
 cases r
 exact assignInOrder_nil ⟨σ,H,I,h⟩
theorem aK {e:Expr}{es:List Expr}{t:TG}{u:tN}(h1:PG X e t) (h2:DO X es u)
 (hs:(assignEach (e::es) X.env).map (·.2)=assign e X.env::(assignEach es X.env).map (·.2):=by rfl):DO X (e::es) (g8 t u):=by
 intro pins s σ H vs us Q I r h
 obtain ⟨v,vr,e1,h⟩:=h
 subst e1
 cases r with
 | cons r rr=>
  rw [hs]
  refine assignInOrder_cons (aJ (h1 pins s σ H _ _ _ I r h) λ_ s1 ⟨AE,H1,I1,q1⟩=>?_)
  exact h2 pins s1 AE H1 _ _ Q I1 rr q1
def sq (K:W.Frag) (n:Nat) (t:tN):TG:=λv σ H Q=>∃a xs,v=.ref a/\aR K H a xs/\xs.length=n/\t xs σ H Q
theorem eg {es:List Expr}{k:Nat}{t:tN}{n:Nat}(hc:X.calm=true) (h:DO X es t)
 (hn:(assignEach es X.env).length=n:=by rfl) (gf:(assignEach es X.env).findIdx? (·.1)=none:=by rfl):PG X (.Tuple es k pos) (sq X.K n t):=by
 intro pins s σ H v u Q I r hw
 obtain ⟨a,xs,e1,hq,hl,hw⟩:=hw
 subst e1
 cases r
 obtain ⟨its,rv,ht,hz⟩:=I.tuple hq
 refine assign_Tuple_tuple (I.ok.hd hc) ht (by simp [hn,← hl,rv.length]) gf λh' hx=>?_
 have I1:Inv X pins σ H { s with heap:=h' }:=I.kept (t':=s.toks) λb o e=>hx b o (Nat.ne_of_lt (Heap.lt_size e)) e
 exact h pins _ σ H xs _ Q I1 (by simpa using rv) hw
def VE (to ti:TE) (t:Gf):TG:=λv σ H Q=>to σ H λo H1=>ti σ H1 λi H2=>t o i v H2 λH3=>Q σ H3
theorem DP {o i:Expr}{to ti:TE}{t:Gf}(ho:PE X o to) (hi:PE X i ti) (hs:Ly X t)
 (ha:∀v,assign (.Subscript o i pos) X.env v=(do
  let ov ← holding [v] (eval o X.env)
  let iv ← holding [v,ov] (eval i X.env)
  standAt pos
  holding [v,ov,iv] (setItem ov iv v)
  release [v,ov,iv] []):=by intro _; rfl):PG X (.Subscript o i pos) (VE to ti t):=by
 intro pins s σ H v u Q I r h
 rw [ha]
 refine wpAny_bind (wpAny_holding (aJ (ho pins s σ H _ I h) λov s1 ⟨x,H1,I1,r1,q1⟩=>?_))
 refine wpAny_bind (wpAny_holding (aJ (hi pins s1 σ H1 _ I1 q1) λiv s2 ⟨y,H2,I2,r2,q2⟩=>?_))
 refine wpAny_bind (wpAny_standAt (wpAny_bind (wpAny_holding (aJ (hs pins s2 σ H2 x y v ov iv u _ I2 r1 r2 r q2) λ_ s3 ⟨H3,I3,q3⟩=>?_))))
 exact wpAny_release ⟨σ,H3,I3,q3⟩
def x4 (te:TE) (g:TG):TS:=λD σ H=>te σ H λx H1=>g x σ H1 D.nx
theorem tO {tg e:Expr}{te:TE}{g:TG}(he:PE X e te) (hg:PG X tg g) (hs:swapsWithSole [tg] e pos.line X.env=pure false:=by rfl) (hw:swappedStores [tg] e X.env=pure none:=by rfl)
 (h1:(assignEach [tg] X.env).map (·.2)=[assign tg X.env]:=by rfl):PS X (.Assign [tg] e pos) (x4 te g):=by
 intro pins s σ H D I h
 refine wpAny_Assign_stores (aJ (he pins s σ H _ I h) λv s1 ⟨x,H1,I1,r1,q1⟩=>?_) hs hw
 rw [h1]
 exact aJ (hg pins s1 σ H1 x v _ I1 r1 q1) λ_ s2 q=>q
theorem aE {i:Nat}{x:Str}{e:Expr}{te:TE}{pos':Pos}(hN:X.N.Nodup) (hi:X.N[i]?=some x) (hx:Loc X.env.scope x) (he:PE X e te) (hs:swapsWith e (some (.Name x pos')) pos.line X.env=pure false:=by rfl) (hf:X.fn x=true\/X.env.scope.names.lookup x=some .local:=by first | exact .inl rfl | exact .inr rfl | assumption) :
 PS X (.Assign [.Name x pos'] e pos) (x4 te (dr i)):=by
 intro pins s σ H D I h
 refine wpAny_Assign_Name (aJ (he pins s σ H _ I h) λv s1 ⟨y,H1,I1,r1,q1⟩=>?_) hs
 exact xU I1 hN hi hx r1 (λs2 I2=>⟨_,H1,I2,q1⟩) hf
end
section
variable {X:Cx}{pos:Pos}
def Lz (c:TT) (tb:TS):TS:=λD σ H=>∃W:Nat->St->Hp->Prop,(∃m,W m σ H)/\∀m σ H,W m σ H->
 c σ H λb H1=>if b=true then ∃N:St->Hp->Prop,(∀bx H',N bx H'->∃m',m'<m/\W m' bx H')/\tb { D with nx:=N,ct:=N,bk:=D.nx } σ H1 else D.nx σ H1
theorem x5 {c:Expr}{body:List Stmt}{tc:TT}{tb:TS}(hp:PassesOwn (model X.prog X.w) X.A X.env X.xe) (hc:PT X c tc) (hb:iR X body tb):PS X (.While c body [] pos) (Lz tc tb):=by
 intro pins s σ H D I h
 obtain ⟨W,⟨m0,w0⟩,turn⟩:=h
 refine wpAny_While (codeAny_whileLoop (λn s'=>∃bx H',Inv X pins bx H' s'/\W n bx H') ?_ m0 ⟨σ,H,I,w0⟩)
 rintro n s1 ⟨AE,H1,I1,w1⟩
 refine wpAny_passesOwn hp (aJ (hc pins s1 AE H1 _ I1 (turn n AE H1 w1)) λb s2 ⟨H2,I2,q2⟩=>?_)
 cases b with
 | true=>
  obtain ⟨N,hN,q2⟩:=q2
  rw [if_pos rfl]
  refine wpAny_passesOwn hp (aJ (hb pins s2 AE H2 _ I2 q2) λf s3 q3=>?_)
  cases f with
  | next=>
   obtain ⟨x6,H3,I3,n3⟩:=q3
   obtain ⟨m',hm,w3⟩:=hN x6 H3 n3
   exact ⟨m',hm,x6,H3,I3,w3⟩
  | cont=>
   obtain ⟨x6,H3,I3,n3⟩:=q3
   obtain ⟨m',hm,w3⟩:=hN x6 H3 n3
   exact ⟨m',hm,x6,H3,I3,w3⟩
  | brk=>exact q3
  | ret v=>exact q3
 | false=>
  rw [if_neg Bool.false_ne_true]
  exact wpAny_execs_nil ⟨AE,H2,I2,q2⟩
end
structure It where
 go:Nat->Hp->Prop
 yld:Nat->Hp->V->Hp->Prop
 stop:Nat->Hp->Prop
def iT (X:Cx) (pins:List (Addr×Obj)) (H:Hp) (b:Addr):Prop:=
 H b=none/\b≠X.env.locals/\b∉X.fs/\(b∈X.ex\/X.jS.heap.objs.size<=b)/\(∀x c,X.env.cells.lookup x=some c->c≠b)/\∀p∈X.pn++pins,p.1≠b
theorem Inv.nG {X:Cx}{pins:List (Addr×Obj)}{σ:St}{H H':Hp}{s:Shared}{b:Addr}(I:Inv X pins σ H s) (hb:s.heap.objs.size<=b) (hn:H' b=none):iT X pins H' b:=by
 refine ⟨hn,Nat.ne_of_gt (Nat.lt_of_lt_of_le I.lt hb),I.Vv hb,.inr (Nat.le_trans I.sz hb),λx c e z=>?_,λp hp z=>?_⟩
 . obtain ⟨v,q⟩:=I.cell x c e
   exact absurd (Nat.lt_of_lt_of_le q.lt (by rw [z]; exact hb)) (Nat.lt_irrefl _)
 . exact absurd (Nat.lt_of_lt_of_le (Heap.lt_size (I.pin p hp).1) (by rw [z]; exact hb)) (Nat.lt_irrefl _)
structure Turn (P:Program) (w:World) (K:W.Frag) (tg:Expr) (J:It) (fp:List Addr) (it:Addr) (tn:Nat->Heap->Prop):Prop where
 mem:it∈fp
 obj:∀i h,tn i h->∀b∈fp,∃o,h.get? b=some o/\∀v,o.data≠.cell v
 keep:∀i h h',tn i h->(∀b∈fp,∀o,h.get? b=some o->h'.get? b=some o)->tn i h'
 item:∀(X:Cx),X.prog=P->X.w=w->X.K=K->X.calm=true->∀(i:Nat) (pins:List (Addr×Obj)) (s:Shared) (σ:St) (H:Hp) (E:Value->Shared->Prop),Inv X pins σ H s->(∀b∈fp,iT X pins H b)->tn i s.heap->J.go i H->
  wpAny (model P w) X.A (pyNext (.ref it)) (λr s1=>∃u,r=some u/\
   wpAny (model P w) X.A (letOwnedTupleGo tg (.ref it) u) (λ_ s2=>∃x H',Inv X pins σ H' s2/\RelV x u/\J.yld i H x H'/\tn (i+1) s2.heap/\∀b∈fp,H' b=none) E s1) E s
 done:∀(X:Cx),X.prog=P->X.w=w->X.K=K->X.calm=true->∀(i:Nat) (pins:List (Addr×Obj)) (s:Shared) (σ:St) (H:Hp) (E:Value->Shared->Prop),Inv X pins σ H s->(∀b∈fp,iT X pins H b)->tn i s.heap->J.stop i H->
  wpAny (model P w) X.A (pyNext (.ref it)) (λr s1=>r=none/\Inv X pins σ H s1) E s
 self:∀(A:Around) (i:Nat) (s:Shared) (Q:Value->Shared->Prop) (E:Value->Shared->Prop),tn i s.heap->Q (.ref it) s->wpAny (model P w) A (pyIter (.ref it)) Q E s
abbrev TI:=St->Hp->(It->Hp->Prop)->Prop
def Su (X:Cx) (pins:List (Addr×Obj)) (σ:St) (tg:Expr) (R:It->Hp->Prop) (LA:Value) (s2:Shared):Prop:=
 ∃(it:Addr) (fp:List Addr) (tn:Nat->Heap->Prop) (J:It) (H':Hp),LA=.ref it/\Inv X pins σ H' s2/\Turn X.prog X.w X.K tg J fp it tn/\tn 0 s2.heap/\(∀b∈fp,iT X pins H' b)/\R J H'
def PI (X:Cx) (tg iter:Expr) (wi:TI):Prop:=
 ∀(pins:List (Addr×Obj)) (s:Shared) (σ:St) (H:Hp) (R:It->Hp->Prop),Inv X pins σ H s->wi σ H R->
  wpAny (model X.prog X.w) X.A (eval iter X.env) (λv s1=>wpAny (model X.prog X.w) X.A (pyIter v) (Su X pins σ tg R) X.xe s1) X.xe s
theorem tP {M:Model}{A:Around}{E:Value->Shared->Prop}{s:Shared}{tg:Expr}{it:Addr}{u:Value}{o:Obj}{n:String}{vs:Array Value}{Q:Unit->Shared->Prop}(ho:s.heap.get? it=some o) (hc:o.cls=.type n) (hd:o.data=.fields vs)
 (hn:["enumerate", "zip", "dict_itemiterator", "dict_reverseitemiterator", "odict_iterator", "itertools.zip_longest", "itertools.pairwise"].contains n=false) (hQ:Q () s):wpAny M A (letOwnedTupleGo tg (.ref it) u) Q E s:=by
 unfold letOwnedTupleGo
 cases tg <;> first
  | exact wpAny_pure hQ
  | (cases u <;> first
      | exact wpAny_pure hQ
      | (refine wpAny_bind (wpAny_load ho ?_)
         rw [hc,hd]
         show wpAny M A (if (["enumerate", "zip", "dict_itemiterator", "dict_reverseitemiterator", "odict_iterator", "itertools.zip_longest", "itertools.pairwise"].contains n && vs[0]? == some (rawInt _))=true then _ else _) Q E s
         rw [if_neg (by intro h; rw [hn,Bool.false_and] at h; cases h)]
         exact wpAny_pure hQ))
def vR (K:W.Frag) (a:Addr):It:=
 ⟨λi H=>∃xs x,aq K H a xs/\xs[i]?=some x,λi H x H'=>H'=H/\∀xs,aq K H a xs->xs[i]?=some x,λi H=>∃xs,aq K H a xs/\xs.length<=i⟩
def DQ (K:W.Frag) (a:Addr):It:=
 ⟨λi H=>∃xs x,aR K H a xs/\xs[i]?=some x,λi H x H'=>H'=H/\∀xs,aR K H a xs->xs[i]?=some x,λi H=>∃xs,aR K H a xs/\xs.length<=i⟩
def x8 (lo:Int) (n:Nat):It:=⟨λi _=>i<n,λi H x H'=>H'=H/\x=.int (lo+i),λi _=>n<=i⟩
theorem DR {P:Program}{w:World}{K:W.Frag}{tg:Expr}(a it:Addr):Turn P w K tg (vR K a) [it] it (λi h=>h.IsListIter it a i) where
 mem:=by simp
 obj:=λi h st b hb=>by
  have e:b=it:=by simpa using hb
  subst e
  obtain ⟨o,e,c,d⟩:=st
  exact ⟨o,e,λv z=>by rw [d] at z; cases z⟩
 keep:=λi h h' st k=>st.at λo e=>k it (by simp) o e
 item:=by
  intro X hP hw hK hc i pins s σ H E I hf st hg
  subst hP hw hK
  obtain ⟨xs,x,hq,hx⟩:=hg
  obtain ⟨its,rv,p,hz⟩:=I.list hq
  obtain ⟨u,hu,ru⟩:=rv.get hx
  obtain ⟨f0,f1,f2,f3,f4,f5⟩:=hf it (by simp)
  refine wpAny_pyNext_list_item st p.isList (x:=u) (by simpa using hu) λh' aP sb=>?_
  have I1:Inv X pins σ H { s with heap:=h' }:=I.turned (t':=s.toks) (λb o hb e=>(sb.2 b hb).trans e) f0 f1 f3 f4 f5
  obtain ⟨o,e,c,d⟩:=id aP
  exact ⟨u,rfl,tP (s:={ s with heap:=h' }) e c d (by decide) ⟨x,H,I1,ru,⟨rfl,λys hy=>by rw [I.nF hy hq]; exact hx⟩,aP,λb hb=>(hf b hb).1⟩⟩
 done:=by
  intro X hP hw hK hc i pins s σ H E I hf st hg
  subst hP hw hK
  obtain ⟨xs,hq,hx⟩:=hg
  obtain ⟨its,rv,p,hz⟩:=I.list hq
  obtain ⟨f0,f1,f2,f3,f4,f5⟩:=hf it (by simp)
  have hl:=rv.length
  exact wpAny_pyNext_list_end (I.ok.hd hc) st p.isList (by simp; omega) λh' eb=>⟨rfl,I.turned (t':=s.toks) (λb o hb e=>eb b o hb e) f0 f1 f3 f4 f5⟩
 self:=λ_ _ _ _ _ st h=>wpAny_pyIter_listiter st h
theorem CB {P:Program}{w:World}{K:W.Frag}{tg:Expr}(a it:Addr):Turn P w K tg (DQ K a) [it] it (λi h=>h.IsTupleIter it a i) where
 mem:=by simp
 obj:=λi h st b hb=>by
  have e:b=it:=by simpa using hb
  subst e
  obtain ⟨o,e,c,d⟩:=st
  exact ⟨o,e,λv z=>by rw [d] at z; cases z⟩
 keep:=λi h h' st k=>st.at λo e=>k it (by simp) o e
 item:=by
  intro X hP hw hK hc i pins s σ H E I hf st hg
  subst hP hw hK
  obtain ⟨xs,x,hq,hx⟩:=hg
  obtain ⟨its,rv,p,hz⟩:=I.tuple hq
  obtain ⟨u,hu,ru⟩:=rv.get hx
  obtain ⟨f0,f1,f2,f3,f4,f5⟩:=hf it (by simp)
  refine wpAny_pyNext_tuple_item st (show s.heap.IsTuple a its.toArray from p) (x:=u) (by simpa using hu) λh' aP sb=>?_
  have I1:Inv X pins σ H { s with heap:=h' }:=I.turned (t':=s.toks) (λb o hb e=>(sb.2 b hb).trans e) f0 f1 f3 f4 f5
  obtain ⟨o,e,c,d⟩:=id aP
  exact ⟨u,rfl,tP (s:={ s with heap:=h' }) e c d (by decide) ⟨x,H,I1,ru,⟨rfl,λys hy=>by rw [I.lB hy hq]; exact hx⟩,aP,λb hb=>(hf b hb).1⟩⟩
 done:=by
  intro X hP hw hK hc i pins s σ H E I hf st hg
  subst hP hw hK
  obtain ⟨xs,hq,hx⟩:=hg
  obtain ⟨its,rv,p,hz⟩:=I.tuple hq
  obtain ⟨f0,f1,f2,f3,f4,f5⟩:=hf it (by simp)
  have hl:=rv.length
  exact wpAny_pyNext_tuple_end (I.ok.hd hc) st (show s.heap.IsTuple a its.toArray from p) (by simp; omega) λh' eb=>⟨rfl,I.turned (t':=s.toks) (λb o hb e=>eb b o hb e) f0 f1 f3 f4 f5⟩
 self:=λ_ _ _ _ _ st h=>wpAny_pyIter_tupleiter st h
theorem CC {P:Program}{w:World}{K:W.Frag}{tg:Expr}(it:Addr) (lo:Int) (n:Nat):Turn P w K tg (x8 lo n) [it] it (λi h=>IsRangeIter h it (lo+(i:Nat)*1) ((n:Int)-(i:Nat)) 1) where
 mem:=by simp
 obj:=λi h st b hb=>by
  have e:b=it:=by simpa using hb
  subst e
  exact ⟨_,st,λv z=>by
   have z':Data.fields _=Data.cell v:=z
   cases z'⟩
 keep:=λi h h' st k=>k it (by simp) _ st
 item:=by
  intro X hP hw hK hc i pins s σ H E I hf st hg
  subst hP hw hK
  obtain ⟨f0,f1,f2,f3,f4,f5⟩:=hf it (by simp)
  have W:=Walks.range (prog:=X.prog) (w:=X.w) (I.ok.hd hc) it lo 1 n
  refine W.item i s _ _ hg st λv h' tk hv aP kk=>?_
  obtain ⟨t,rfl⟩:=hv
  have I1:Inv X pins σ H { s with heap:=h',toks:=tk }:=I.turned (λb o hb e=>kk b o (by simpa using hb) e) f0 f1 f3 f4 f5
  refine ⟨_,rfl,tP (s:={ s with heap:=h',toks:=tk }) (n:="range_iterator") aP rfl rfl (by decide) ⟨.int (lo+i),H,I1,⟨t,?_⟩,⟨rfl,rfl⟩,aP,λb hb=>(hf b hb).1⟩⟩
  rw [Int.mul_one]
 done:=by
  intro X hP hw hK hc i pins s σ H E I hf st hg
  subst hP hw hK
  obtain ⟨f0,f1,f2,f3,f4,f5⟩:=hf it (by simp)
  exact wpAny_pyNext_range_end (I.ok.hd hc) st (by have:n<=i:=hg; omega) λh' eb=>⟨rfl,I.turned (t':=s.toks) (λb o hb e=>eb b o hb e) f0 f1 f3 f4 f5⟩
 self:=λ_ _ _ _ _ st h=>wpAny_pyIter_rangeiter st h
end L2
namespace L2
open PySem PySem.Spec PyProof.Rows
section
variable {X:Cx}{tg:Expr}
def P6 (K:W.Frag) (tl:TE):TI:=λσ H R=>tl σ H λx H1=>∃a,x=.ref a/\(∃xs,aq K H1 a xs)/\R (vR K a) H1
def VF (K:W.Frag) (tl:TE):TI:=λσ H R=>tl σ H λx H1=>∃a,x=.ref a/\(∃xs,aR K H1 a xs)/\R (DQ K a) H1
theorem bU {l:Expr}{tl:TE}(hl:PE X l tl):PI X tg l (P6 X.K tl):=by
 intro pins s σ H R I h
 refine aJ (hl pins s σ H _ I h) λv s1 ⟨x,H1,I1,r1,q1⟩=>?_
 obtain ⟨a,e,⟨xs,hq⟩,q⟩:=q1
 subst e
 cases r1
 obtain ⟨its,rv,p,hz⟩:=I1.list hq
 refine wpAny_pyIter_list p.isList ?_
 refine ⟨s1.heap.objs.size,[s1.heap.objs.size],_,_,H1,rfl,I1.kept (t':=s1.toks) λb o e=>Heap.get?_push_of_some _ e,DR a _,⟨_,Heap.get?_push_size _ rfl,rfl,rfl⟩,λb hb=>?_,q⟩
 have e:b=s1.heap.objs.size:=by simpa using hb
 subst e
 exact I1.nG (Nat.le_refl _) (I1.hok.fresh (Nat.le_refl _))
theorem LC {l:Expr}{tl:TE}(hl:PE X l tl):PI X tg l (VF X.K tl):=by
 intro pins s σ H R I h
 refine aJ (hl pins s σ H _ I h) λv s1 ⟨x,H1,I1,r1,q1⟩=>?_
 obtain ⟨a,e,⟨xs,hq⟩,q⟩:=q1
 subst e
 cases r1
 obtain ⟨its,rv,p,hz⟩:=I1.tuple hq
 refine wpAny_pyIter_tuple (show s1.heap.IsTuple a its.toArray from p) ?_
 refine ⟨s1.heap.objs.size,[s1.heap.objs.size],_,_,H1,rfl,I1.kept (t':=s1.toks) λb o e=>Heap.get?_push_of_some _ e,CB a _,⟨_,Heap.get?_push_size _ rfl,rfl,rfl⟩,λb hb=>?_,q⟩
 have e:b=s1.heap.objs.size:=by simpa using hb
 subst e
 exact I1.nG (Nat.le_refl _) (I1.hok.fresh (Nat.le_refl _))
theorem x9 {pins:List (Addr×Obj)}{σ:St}{H:Hp}{s:Shared}{R:It->Hp->Prop}{E:Value->Shared->Prop}{lo hi:Int}{t u v:Tok}{tk:Nat}(I:Inv X pins σ H s) (h1 : -(2 ^ 62)<=lo) (h2:lo<2 ^ 62) (h3 : -(2 ^ 62)<=hi) (h4:hi<2 ^ 62)
 (q:R (x8 lo (hi-lo).toNat) H):wpAny (model X.prog X.w) X.A (pyIter (.ref s.heap.objs.size)) (Su X pins σ tg R) E { s with heap:=s.heap.push { cls:=.type "range",data:=.fields #[.int lo t,.int hi u,.int 1 v] },toks:=tk }:=by
 refine wpAny_pyIter_range (IsRange.new ..) (small_one h1 h2 h3 h4) ?_
 have I1:Inv X pins σ H { s with heap:=s.heap.push { cls:=.type "range",data:=.fields #[.int lo t,.int hi u,.int 1 v] },toks:=tk }:=I.kept λb o e=>Heap.get?_push_of_some _ e
 refine ⟨(s.heap.push { cls:=.type "range",data:=.fields #[.int lo t,.int hi u,.int 1 v] }).objs.size,[(s.heap.push { cls:=.type "range",data:=.fields #[.int lo t,.int hi u,.int 1 v] }).objs.size],_,_,H,rfl,
  I1.kept (t':=tk) λb o e=>Heap.get?_push_of_some _ e,CC _ lo (hi-lo).toNat,?_,λb hb=>?_,q⟩
 . have e1:lo+((0:Nat):Int)*1=lo:=by simp
   have e2:(((hi-lo).toNat:Nat):Int)-((0:Nat):Int)=Builtin.Range.rangeSize lo hi 1:=by rw [rangeSize_one]; split <;> omega
   show IsRangeIter _ _ (lo+((0:Nat):Int)*1) ((((hi-lo).toNat:Nat):Int)-((0:Nat):Int)) 1
   rw [e1,e2]
   exact Heap.get?_push_size _ rfl
 . have e:b=(s.heap.push { cls:=.type "range",data:=.fields #[.int lo t,.int hi u,.int 1 v] }).objs.size:=by simpa using hb
   subst e
   exact I1.nG (Nat.le_refl _) (I1.hok.fresh (Nat.le_refl _))
def P7 (ta:TA):TI:=λσ H R=>ta σ H λvs H1=>∃j:Int,vs=[.int j] /\ -(2 ^ 62)<=j/\j<2 ^ 62/\R (x8 0 j.toNat) H1
def P8 (ta:TA):TI:=λσ H R=>ta σ H λvs H1=>∃i j:Int,vs=[.int i,.int j]/\(-(2 ^ 62)<=i/\i<2 ^ 62 /\ -(2 ^ 62)<=j/\j<2 ^ 62)/\R (x8 i (j-i).toNat) H1
theorem cO {a:Expr}{ta:TA}{p pos:Pos}(hg:Gl X "range") (hm:X.mg "range" = none) (ha:PA X [a] ta) (hs:starEach [a] X.env=[(false,eval a X.env)]:=by rfl):PI X tg (.Call (.Name "range" p) [a] [] pos) (P7 ta):=by
 intro pins s σ H R I h
 refine Call_ (jA I hg hm boot_range (PyProof.Rows.callWith_type1 (aJ (ha pos pins s σ H _ I h) λus s1 ⟨vs,H1,I1,r1,q1⟩=>?_) hs rfl))
 obtain ⟨j,e,q1,q2,q⟩:=q1
 subst e
 cases r1 with
 | cons r rr=>
  cases rr
  obtain ⟨t,rfl⟩:=r
  exact call_range_1 (x9 I1 (by omega) (by omega) q1 q2 (by simpa using q))
theorem vS {a b:Expr}{ta:TA}{p pos:Pos}(hg:Gl X "range") (hm:X.mg "range" = none) (ha:PA X [a,b] ta) (hs:starEach [a,b] X.env=[(false,eval a X.env),(false,eval b X.env)]:=by rfl) (ig:starEach [b] X.env=[(false,eval b X.env)]:=by rfl) :
 PI X tg (.Call (.Name "range" p) [a,b] [] pos) (P8 ta):=by
 intro pins s σ H R I h
 refine Call_ (jA I hg hm boot_range (PyProof.Rows.callWith_type1 (aJ (ha pos pins s σ H _ I h) λus s1 ⟨vs,H1,I1,r1,q1⟩=>?_) (by rw [hs,ig]) (by rw [ig]; rfl)))
 obtain ⟨i,j,e,⟨q1,q2,q3,q4⟩,q⟩:=q1
 subst e
 cases r1 with
 | cons r rr=>
  cases rr with
  | cons r' rr=>
   cases rr
   obtain ⟨t,rfl⟩:=r
   obtain ⟨t',rfl⟩:=r'
   exact call_range_2 (x9 I1 q1 q2 q3 q4 q)
def VG (wi:TI) (g:TG) (tb:TS):TS:=λD σ H=>wi σ H λJ H1=>∃W:Nat->Nat->St->Hp->Prop,(∃m,W 0 m σ H1)/\∀i m σ H,W i m σ H->
 (J.stop i H/\D.nx σ H)\/(J.go i H/\∃N:St->Hp->Prop,(∀bx H',N bx H'->∃m',m'<m/\W (i+1) m' bx H')/\∀x H',J.yld i H x H'->g x σ H' λgu H2=>tb { D with nx:=N,ct:=N,bk:=D.nx } gu H2)
def oZ (fp:List Addr) (h:Heap):List (Addr×Obj):=fp.filterMap λb=>(h.get? b).map λo=>(b,o)
theorem j4 {fp:List Addr}{h:Heap}{b:Addr}{o:Obj}(hb:b∈fp) (e:h.get? b=some o):(b,o)∈oZ fp h:=List.mem_filterMap.mpr ⟨b,hb,by rw [e]; rfl⟩
theorem DS {fp:List Addr}{h:Heap}{p:Addr×Obj}(hp:p∈oZ fp h):p.1∈fp/\h.get? p.1=some p.2:=by
 obtain ⟨b,hb,e⟩:=List.mem_filterMap.mp hp
 cases q:h.get? b with
 | none=>rw [q] at e; cases e
 | some o=>
  rw [q] at e
  have e':(b,o)=p:=Option.some.inj e
  subst e'
  exact ⟨hb,q⟩
theorem Inv.pinned {pins:List (Addr×Obj)}{σ:St}{H:Hp}{s:Shared}{fp:List Addr}(I:Inv X pins σ H s) (hf:∀b∈fp,iT X pins H b) (ho:∀b∈fp,∃o,s.heap.get? b=some o/\∀v,o.data≠.cell v):Inv X (pins++oZ fp s.heap) σ H s:=
 I.AR λp hp=>(List.mem_append.mp hp).elim (λz=>I.pin p (List.mem_append_right _ z)) λz=>by
  obtain ⟨hb,e⟩:=DS z
  obtain ⟨f0,f1,f2,_⟩:=hf p.1 hb
  obtain ⟨o,e',d⟩:=ho p.1 hb
  rw [e] at e'; cases e'
  exact ⟨e,f0,f1,f2,d⟩
theorem Inv.nH {pins pl:List (Addr×Obj)}{σ:St}{H:Hp}{s:Shared}(I:Inv X (pins++pl) σ H s):Inv X pins σ H s:=I.AR λp hp=>I.pin p (List.mem_append_right _ (List.mem_append_left _ hp))
theorem cc {iter:Expr}{body:List Stmt}{wi:TI}{g:TG}{tb:TS}{pos:Pos}(hp:PassesOwn (model X.prog X.w) X.A X.env X.xe) (hc:X.calm=true) (hi:PI X tg iter wi) (hg:PG X tg g) (hb:iR X body tb)
 (hs:∀x,foldedSetIterable iter X.env x=pure x:=by intro _; rfl):PS X (.For tg iter body [] pos) (VG wi g tb):=by
 intro pins s σ H D I h
 refine wpAny_For (aJ (hi pins s σ H _ I h) λv s1 h1=>aJ h1 λLA s2 h2=>?_) hs
 obtain ⟨it,fp,tn,J,H2,e,I2,T,qZ,f2,W,⟨m0,w0⟩,turn⟩:=h2
 subst e
 have Gg:∀{H':Hp},(∀b∈fp,H' b=none)->∀b∈fp,iT X pins H' b:=λhn b hb=>⟨hn b hb,(f2 b hb).2⟩
 refine codeAny_forLoop_any (λn s'=>∃i bx H',Inv X pins bx H' s'/\tn i s'.heap/\(∀b∈fp,H' b=none)/\W i n bx H') ?_ m0 ⟨0,σ,H2,I2,qZ,λb hb=>(f2 b hb).1,w0⟩
 rintro n s3 ⟨i,x6,H3,I3,Sv,Sw,w3⟩
 rcases turn i n x6 H3 w3 with ⟨stop,qn⟩ | ⟨go,N,hN,step⟩
 . refine wpAny_passesOwn hp (aJ (T.done X rfl rfl rfl hc i pins s3 x6 H3 X.xe I3 (Gg Sw) Sv stop) λr s4 ⟨hr,I4⟩=>?_)
   subst hr
   exact wpAny_execs_nil ⟨x6,H3,I4,qn⟩
 . refine wpAny_passesOwn hp (aJ (T.item X rfl rfl rfl hc i pins s3 x6 H3 X.xe I3 (Gg Sw) Sv go) λr s4 ⟨u,hr,h4⟩=>?_)
   subst hr
   refine wpAny_passesOwn hp (aJ h4 λ_ s5 ⟨x,H5,I5,r5,y5,AU,HY⟩=>?_)
   have I5':=I5.pinned (Gg HY) (T.obj _ _ AU)
   refine wpAny_passesOwn hp (aJ (hg _ s5 x6 H5 x u _ I5' r5 (step x H5 y5)) λ_ s6 ⟨σ6,H6,I6,q6⟩=>?_)
   refine wpAny_passesOwn hp (aJ (hb _ s6 σ6 H6 _ I6 q6) λf s7 q7=>?_)
   have again:∀{yd:St}{H7:Hp},Inv X (pins++oZ fp s5.heap) yd H7 s7->N yd H7->∃m,m<n/\∃i bx H',Inv X pins bx H' s7/\tn i s7.heap/\(∀b∈fp,H' b=none)/\W i m bx H':=λ{yd H7} I7 n7=>by
    obtain ⟨m',hm,w7⟩:=hN yd H7 n7
    refine ⟨m',hm,i+1,yd,H7,I7.nH,T.keep _ _ _ AU λb hb o e=>(I7.pin (b,o) (List.mem_append_right _ (List.mem_append_right _ (j4 hb e)))).1,λb hb=>?_,w7⟩
    obtain ⟨o,e,d⟩:=T.obj _ _ AU b hb
    exact (I7.pin (b,o) (List.mem_append_right _ (List.mem_append_right _ (j4 hb e)))).2.1
   cases f with
   | next=>obtain ⟨yd,H7,I7,n7⟩:=q7; exact again I7 n7
   | cont=>obtain ⟨yd,H7,I7,n7⟩:=q7; exact again I7 n7
   | brk=>obtain ⟨yd,H7,I7,q7⟩:=q7; exact ⟨yd,H7,I7.nH,q7⟩
   | ret v=>obtain ⟨x7,yd,H7,I7,r7,q7⟩:=q7; exact ⟨x7,yd,H7,I7.nH,r7,q7⟩
end
theorem d7 {K:W.Frag}{a:Addr}{xs:List V}{g:TG}{tb:TS}{D:Ends}{σ:St}{H:Hp}(Pv:Nat->St->Hp->Prop) (h0:Pv 0 σ H) (hl:∀i σ H,i<=xs.length->Pv i σ H->aq K H a xs)
 (hs:∀i x σ H,xs[i]?=some x->Pv i σ H->g x σ H λgu H2=>tb { D with nx:=Pv (i+1),ct:=Pv (i+1),bk:=D.nx } gu H2) (hd:∀σ H,Pv xs.length σ H->D.nx σ H) :
 ∃W:Nat->Nat->St->Hp->Prop,(∃m,W 0 m σ H)/\∀i m σ H,W i m σ H->
  ((vR K a).stop i H/\D.nx σ H)\/((vR K a).go i H/\∃N:St->Hp->Prop,(∀bx H',N bx H'->∃m',m'<m/\W (i+1) m' bx H')/\∀x H',(vR K a).yld i H x H'->g x σ H' λgu H2=>tb { D with nx:=N,ct:=N,bk:=D.nx } gu H2):=by
 refine ⟨λi m σ H=>m=xs.length-i/\i<=xs.length/\Pv i σ H,⟨xs.length,by simp,Nat.zero_le _,h0⟩,?_⟩
 rintro i m σ H ⟨rfl,hi,p⟩
 have q:=hl i σ H hi p
 by_cases di:i<xs.length
 . refine .inr ⟨⟨xs,xs[i],q,by simp [di]⟩,Pv (i+1),λbx H' p'=>⟨xs.length-(i+1),by omega,rfl,di,p'⟩,λx H' y=>?_⟩
   obtain ⟨e,y⟩:=y
   subst e
   exact hs i x σ _ (y xs q) p
 . have e:i=xs.length:=by omega
   subst e
   exact .inl ⟨⟨xs,q,Nat.le_refl _⟩,hd σ H p⟩
theorem Ka {K:W.Frag}{a:Addr}{xs:List V}{g:TG}{tb:TS}{D:Ends}{σ:St}{H:Hp}(Pv:Nat->St->Hp->Prop) (h0:Pv 0 σ H) (hl:∀i σ H,i<=xs.length->Pv i σ H->aR K H a xs)
 (hs:∀i x σ H,xs[i]?=some x->Pv i σ H->g x σ H λgu H2=>tb { D with nx:=Pv (i+1),ct:=Pv (i+1),bk:=D.nx } gu H2) (hd:∀σ H,Pv xs.length σ H->D.nx σ H) :
 ∃W:Nat->Nat->St->Hp->Prop,(∃m,W 0 m σ H)/\∀i m σ H,W i m σ H->
  ((DQ K a).stop i H/\D.nx σ H)\/((DQ K a).go i H/\∃N:St->Hp->Prop,(∀bx H',N bx H'->∃m',m'<m/\W (i+1) m' bx H')/\∀x H',(DQ K a).yld i H x H'->g x σ H' λgu H2=>tb { D with nx:=N,ct:=N,bk:=D.nx } gu H2):=by
 refine ⟨λi m σ H=>m=xs.length-i/\i<=xs.length/\Pv i σ H,⟨xs.length,by simp,Nat.zero_le _,h0⟩,?_⟩
 rintro i m σ H ⟨rfl,hi,p⟩
 have q:=hl i σ H hi p
 by_cases di:i<xs.length
 . refine .inr ⟨⟨xs,xs[i],q,by simp [di]⟩,Pv (i+1),λbx H' p'=>⟨xs.length-(i+1),by omega,rfl,di,p'⟩,λx H' y=>?_⟩
   obtain ⟨e,y⟩:=y
   subst e
   exact hs i x σ _ (y xs q) p
 . have e:i=xs.length:=by omega
   subst e
   exact .inl ⟨⟨xs,q,Nat.le_refl _⟩,hd σ H p⟩
theorem eI {lo:Int}{n:Nat}{g:TG}{tb:TS}{D:Ends}{σ:St}{H:Hp}(Pv:Nat->St->Hp->Prop) (h0:Pv 0 σ H)
 (hs:∀i σ H,i<n->Pv i σ H->g (.int (lo+i)) σ H λgu H2=>tb { D with nx:=Pv (i+1),ct:=Pv (i+1),bk:=D.nx } gu H2) (hd:∀σ H,Pv n σ H->D.nx σ H) :
 ∃W:Nat->Nat->St->Hp->Prop,(∃m,W 0 m σ H)/\∀i m σ H,W i m σ H->
  ((x8 lo n).stop i H/\D.nx σ H)\/((x8 lo n).go i H/\∃N:St->Hp->Prop,(∀bx H',N bx H'->∃m',m'<m/\W (i+1) m' bx H')/\∀x H',(x8 lo n).yld i H x H'->g x σ H' λgu H2=>tb { D with nx:=N,ct:=N,bk:=D.nx } gu H2):=by
 refine ⟨λi m σ H=>m=n-i/\i<=n/\Pv i σ H,⟨n,by simp,Nat.zero_le _,h0⟩,?_⟩
 rintro i m σ H ⟨rfl,hi,p⟩
 by_cases di:i<n
 . refine .inr ⟨di,Pv (i+1),λbx H' p'=>⟨n-(i+1),by omega,rfl,di,p'⟩,λx H' y=>?_⟩
   obtain ⟨e,y⟩:=y
   subst e y
   exact hs i σ _ di p
 . have e:i=n:=by omega
   subst e
   exact .inl ⟨Nat.le_refl _,hd σ H p⟩
end L2
namespace L2
open PySem PySem.Spec PyProof.Rows
abbrev R2:=V->V->Hp->VK->Prop
def d6 (X:Cx) (f:Value->Value->Sem Value) (r:R2):Prop:=
 ∀(pins:List (Addr×Obj)) (s:Shared) (σ:St) (H:Hp) (x y:V) (v u:Value) (Q:VK),Inv X pins σ H s->RelV x v->RelV y u->r x y H Q->
  wpAny (model X.prog X.w) X.A (f v u) (EP X pins σ Q) X.xe s
def LD (X:Cx) (f:Value->Sem Value) (r:V->Hp->VK->Prop):Prop:=
 ∀(pins:List (Addr×Obj)) (s:Shared) (σ:St) (H:Hp) (x:V) (v:Value) (Q:VK),Inv X pins σ H s->RelV x v->r x H Q->
  wpAny (model X.prog X.w) X.A (f v) (EP X pins σ Q) X.xe s
def eB (X:Cx) (f:Value) (r:List V->Hp->VK->Prop):Prop:=
 ∀(pins:List (Addr×Obj)) (s:Shared) (σ:St) (H:Hp) (xs:List V) (us:List Value) (Q:VK),Inv X pins σ H s->Vals xs us->r xs H Q->
  wpAny (model X.prog X.w) X.A (call f us) (EP X pins σ Q) X.xe s
def vT (r:R2) (ta tb:TE):TE:=λσ H Q=>ta σ H λx H1=>tb σ H1 λy H2=>r x y H2 Q
def Sx (r:V->Hp->VK->Prop) (ta:TE):TE:=λσ H Q=>ta σ H λx H1=>r x H1 Q
def rI (C:Int->Int->Prop) (g:Int->Int->V):R2:=λx y H Q=>∃i j,x=.int i/\y=.int j/\C i j/\Q (g i j) H
def ye (g:Int->Int->V):R2:=λx y H Q=>∃i j,x=.int i/\y=.int j/\Q (g i j) H
def rU (g:Int->V):V->Hp->VK->Prop:=λx H Q=>∃i,x=.int i/\Q (g i) H
section
variable {X:Cx}{a b c:Expr}{ta tb tc:TE}{pos:Pos}
theorem Gh (ha:PE X a ta) (hb:PE X b tb){pins:List (Addr×Obj)}{s:Shared}{σ:St}{H:Hp}{R:V->V->Hp->Prop}(I:Inv X pins σ H s)
 (h:ta σ H λx H1=>tb σ H1 λy H2=>R x y H2){Q:Value->Shared->Prop}{f:Value->Value->Sem Value}
 (hf:∀v u s2 x y H2,Inv X pins σ H2 s2->RelV x v->RelV y u->R x y H2->wpAny (model X.prog X.w) X.A (f v u) Q X.xe s2) :
 wpAny (model X.prog X.w) X.A (eval a X.env) (λv dm=>wpAny (model X.prog X.w) X.A (eval b X.env) (λu uU=>wpAny (model X.prog X.w) X.A (f v u) Q X.xe uU) X.xe dm) X.xe s:=by
 refine aJ (ha pins s σ H _ I h) λv s1 ⟨x,H1,I1,r1,q1⟩=>?_
 refine aJ (hb pins s1 σ H1 _ I1 q1) λu s2 ⟨y,H2,I2,r2,q2⟩=>?_
 exact hf v u s2 x y H2 I2 r1 r2 q2
theorem aH {op:Operator}{r:R2}(ho:d6 X (binaryOp op) r) (ha:PE X a ta) (hb:PE X b tb):PE X (.BinOp a op b pos) (vT r ta tb):=by
 intro pins s σ H Q I h
 exact wpAny_BinOp (Gh ha hb I h λv u s2 x y H2 I2 rx ry q=>ho pins s2 σ H2 x y v u Q I2 rx ry q)
theorem g9 {op:UnaryOp}{r:V->Hp->VK->Prop}(ho:LD X (unaryOp op) r) (ha:PE X a ta):PE X (.UnaryOp op a pos) (Sx r ta):=by
 intro pins s σ H Q I h
 exact UnaryOp_ (aJ (ha pins s σ H _ I h) λv s1 ⟨x,H1,I1,r1,q1⟩=>ho pins s1 σ H1 x v Q I1 r1 q1)
theorem LF {f:Value->Value->Sem Value}{C:Int->Int->Prop}{g:Int->Int->Int}
 (rule:∀(i j:Int) (t u:Tok) (s:Shared) (Q:Value->Shared->Prop) (E:Value->Shared->Prop),C i j->Q (.int (g i j) s.toks) { s with toks:=s.toks+1 } -> wpAny (model X.prog X.w) X.A (f (.int i t) (.int j u)) Q E s) :
 d6 X f (rI C λi j=>.int (g i j)):=by
 intro pins s σ H x y v u Q I rx ry h
 obtain ⟨i,j,rfl,rfl,hc,q⟩:=h
 obtain ⟨t,rfl⟩:=rx
 obtain ⟨t',rfl⟩:=ry
 exact rule i j t t' s _ _ hc ⟨.int (g i j),H,I.tok _,⟨_,rfl⟩,q⟩
theorem LG {f:Value->Value->Sem Value}{g:Int->Int->Int}
 (rule:∀(i j:Int) (t u:Tok) (s:Shared) (Q:Value->Shared->Prop) (E:Value->Shared->Prop),Q (.int (g i j) s.toks) { s with toks:=s.toks+1 } -> wpAny (model X.prog X.w) X.A (f (.int i t) (.int j u)) Q E s) :
 d6 X f (ye λi j=>.int (g i j)):=by
 intro pins s σ H x y v u Q I rx ry h
 obtain ⟨i,j,rfl,rfl,q⟩:=h
 obtain ⟨t,rfl⟩:=rx
 obtain ⟨t',rfl⟩:=ry
 exact rule i j t t' s _ _ ⟨.int (g i j),H,I.tok _,⟨_,rfl⟩,q⟩
theorem Gi {f:Value->Value->Sem Value}{g:Int->Int->Bool}
 (rule:∀(i j:Int) (t u:Tok) (s:Shared) (Q:Value->Shared->Prop) (E:Value->Shared->Prop),Q (.bool (g i j)) s->wpAny (model X.prog X.w) X.A (f (.int i t) (.int j u)) Q E s) :
 d6 X f (ye λi j=>.bl (g i j)):=by
 intro pins s σ H x y v u Q I rx ry h
 obtain ⟨i,j,rfl,rfl,q⟩:=h
 obtain ⟨t,rfl⟩:=rx
 obtain ⟨t',rfl⟩:=ry
 exact rule i j t t' s _ _ ⟨.bl (g i j),H,I,rfl,q⟩
def VH (i j:Int):Prop:=0<j/\j<1073741824
def Gj (i j:Int):Prop:=(-(2 ^ 64)<i/\i<2 ^ 64)\/(-(2 ^ 64)<j/\j<2 ^ 64)
theorem Gj.ok {i j:Int}(h:Gj i j):IntMulOk i j:=by
 rcases h with ⟨h1,h2⟩ | ⟨h1,h2⟩
 . exact .of_left (intBits_le_64 h1 h2)
 . exact .of_right (intBits_le_64 h1 h2)
theorem cL:d6 X (binaryOp .Add) (ye λi j=>.int (i+j)):=LG λ_ _ _ _ _ _ _ q=>add_int q
theorem jC:d6 X (binaryOp .Sub) (ye λi j=>.int (i-j)):=LG λ_ _ _ _ _ _ _ q=>sub_int q
theorem ft:d6 X (binaryOp .Mult) (rI Gj λi j=>.int (i*j)):=LF λ_ _ _ _ _ _ _ hc q=>mul_int q hc.ok
theorem uW:d6 X (binaryOp .FloorDiv) (rI VH λi j=>.int (i / j)):=LF λi j _ _ _ _ _ hc q=>by
 have h1:(0:Int)<j:=hc.1
 have h2:j<1073741824:=hc.2
 exact floordiv_int (by omega) (by rw [Int.fdiv_eq_ediv_of_nonneg i (by omega)]; exact q) (.inl (PyProof.noPylong_small (by omega)))
theorem ij:d6 X (binaryOp .Mod) (rI (λ_ j=>0<j) λi j=>.int (i % j)):=LF λi j _ _ _ _ _ hc q=>by
 have h1:(0:Int)<j:=hc
 exact mod_int' (by omega) (by rw [Int.fmod_eq_emod_of_nonneg i (by omega)]; exact q)
theorem unI {f:Value->Sem Value}{g:Int->Int}
 (rule:∀(i:Int) (t:Tok) (s:Shared) (Q:Value->Shared->Prop) (E:Value->Shared->Prop),Q (.int (g i) s.toks) { s with toks:=s.toks+1 } -> wpAny (model X.prog X.w) X.A (f (.int i t)) Q E s) :
 LD X f (rU λi=>.int (g i)):=by
 intro pins s σ H x v Q I rx h
 obtain ⟨i,rfl,q⟩:=h
 obtain ⟨t,rfl⟩:=rx
 exact rule i t s _ _ ⟨.int (g i),H,I.tok _,⟨_,rfl⟩,q⟩
theorem fu:LD X (unaryOp .USub) (rU λi=>.int (-i)):=unI λ_ _ _ _ _ q=>neg_int q
end
def LH:V->V->Bool
 | .aS,.aS=>true | .aS,.int _=>true | .int _,.aS=>true | .aS,.bl _=>true | .bl _,.aS=>true | .aS,.str _=>true | .str _,.aS=>true
 | .int _,.int _=>true | .bl _,.bl _=>true | .str _,.str _=>true | .mh _,.mh _=>true
 | .int _,.str _=>true | .str _,.int _=>true | .bl _,.str _=>true | .str _,.bl _=>true
 | _,_=>false
def rEq:R2:=λx y H Q=>LH x y=true/\Q (.bl (decide (x=y))) H
def rNe:R2:=λx y H Q=>LH x y=true/\Q (.bl (!decide (x=y))) H
theorem AV {i j:Int} : decide (V.int i=V.int j)=(i == j):=by
 rw [Bool.eq_iff_iff]
 simp
theorem DT {i j:Bool} : decide (V.bl i=V.bl j)=(i == j):=by
 rw [Bool.eq_iff_iff]
 simp
theorem AW {i j:Str} : decide (V.str i=V.str j)=(i == j):=by
 rw [Bool.eq_iff_iff]
 simp
theorem AX {i j:Array UInt8} : decide (V.mh i=V.mh j)=(i.toList == j.toList):=by
 rw [Bool.eq_iff_iff]
 cases i
 cases j
 simp
section
variable {X:Cx}{a b c:Expr}{ta tb tc:TE}{pos:Pos}
theorem bQ {pins:List (Addr×Obj)}{σ:St}{H:Hp}{s:Shared}{Q:VK}{k k':Bool}(I:Inv X pins σ H s) (q:Q (.bl k) H) (e:k=k'):EP X pins σ Q (.bool k') s:=by
 subst e
 exact ⟨.bl k,H,I,rfl,q⟩
theorem iU:d6 X (compareOp .Eq) rEq:=by
 intro pins s σ H x y v u Q I rx ry h
 obtain ⟨hs,q⟩:=h
 cases x with
 | aS=>
  cases rx
  cases y with
  | aS=>cases ry; exact PySem.EqNone.eq_none_none (bQ I q (by simp))
  | bl j=>cases ry; exact PySem.EqNone.eq_none_bool (bQ I q (by simp))
  | int j=>obtain ⟨t',rfl⟩:=ry; exact PySem.EqNone.eq_none_int (bQ I q (by simp))
  | str j=>obtain ⟨t',rfl⟩:=ry; exact PySem.EqNone.eq_none_str (bQ I q (by simp))
  | _=>exact absurd (show false=true from hs) Bool.false_ne_true
 | bl i=>
  cases rx
  cases y with
  | aS=>cases ry; exact PySem.EqNone.eq_bool_none (bQ I q (by simp))
  | bl j=>cases ry; exact eq_bool (bQ I q DT)
  | str j=>obtain ⟨t',rfl⟩:=ry; exact PySem.EqMixed.eq_bool_str (bQ I q (by simp))
  | _=>exact absurd (show false=true from hs) Bool.false_ne_true
 | int i=>
  obtain ⟨t,rfl⟩:=rx
  cases y with
  | aS=>cases ry; exact PySem.EqNone.eq_int_none (bQ I q (by simp))
  | int j=>obtain ⟨t',rfl⟩:=ry; exact eq_int (bQ I q AV)
  | str j=>obtain ⟨t',rfl⟩:=ry; exact PySem.EqMixed.eq_int_str (bQ I q (by simp))
  | _=>exact absurd (show false=true from hs) Bool.false_ne_true
 | str i=>
  obtain ⟨t,rfl⟩:=rx
  cases y with
  | aS=>cases ry; exact PySem.EqNone.eq_str_none (bQ I q (by simp))
  | bl j=>cases ry; exact PySem.EqMixed.eq_str_bool (bQ I q (by simp))
  | int j=>obtain ⟨t',rfl⟩:=ry; exact PySem.EqMixed.eq_str_int (bQ I q (by simp))
  | str j=>obtain ⟨t',rfl⟩:=ry; exact eq_str (bQ I q AW)
  | _=>exact absurd (show false=true from hs) Bool.false_ne_true
 | mh i=>
  obtain ⟨t,rfl⟩:=rx
  cases y with
  | mh j=>obtain ⟨t',rfl⟩:=ry; exact W.eq_bytes (bQ I q AX)
  | _=>exact absurd (show false=true from hs) Bool.false_ne_true
 | _=>cases y <;> exact absurd (show false=true from hs) Bool.false_ne_true
theorem xB:d6 X (compareOp .NotEq) rNe:=by
 intro pins s σ H x y v u Q I rx ry h
 obtain ⟨hs,q⟩:=h
 cases x with
 | aS=>
  cases rx
  cases y with
  | aS=>cases ry; exact PySem.EqNone.ne_none_none (bQ I q (by simp))
  | bl j=>cases ry; exact PySem.EqNone.ne_none_bool (bQ I q (by simp))
  | int j=>obtain ⟨t',rfl⟩:=ry; exact PySem.EqNone.ne_none_int (bQ I q (by simp))
  | str j=>obtain ⟨t',rfl⟩:=ry; exact PySem.EqNone.ne_none_str (bQ I q (by simp))
  | _=>exact absurd (show false=true from hs) Bool.false_ne_true
 | bl i=>
  cases rx
  cases y with
  | aS=>cases ry; exact PySem.EqNone.ne_bool_none (bQ I q (by simp))
  | bl j=>cases ry; exact ne_bool (bQ I q (congrArg not DT))
  | str j=>obtain ⟨t',rfl⟩:=ry; exact PySem.EqMixed.ne_bool_str (bQ I q (by simp))
  | _=>exact absurd (show false=true from hs) Bool.false_ne_true
 | int i=>
  obtain ⟨t,rfl⟩:=rx
  cases y with
  | aS=>cases ry; exact PySem.EqNone.ne_int_none (bQ I q (by simp))
  | int j=>obtain ⟨t',rfl⟩:=ry; exact ne_int (bQ I q (congrArg not AV))
  | str j=>obtain ⟨t',rfl⟩:=ry; exact PySem.EqMixed.ne_int_str (bQ I q (by simp))
  | _=>exact absurd (show false=true from hs) Bool.false_ne_true
 | str i=>
  obtain ⟨t,rfl⟩:=rx
  cases y with
  | aS=>cases ry; exact PySem.EqNone.ne_str_none (bQ I q (by simp))
  | bl j=>cases ry; exact PySem.EqMixed.ne_str_bool (bQ I q (by simp))
  | int j=>obtain ⟨t',rfl⟩:=ry; exact PySem.EqMixed.ne_str_int (bQ I q (by simp))
  | str j=>obtain ⟨t',rfl⟩:=ry; exact ne_str (bQ I q (congrArg not AW))
  | _=>exact absurd (show false=true from hs) Bool.false_ne_true
 | mh i=>
  obtain ⟨t,rfl⟩:=rx
  cases y with
  | mh j=>obtain ⟨t',rfl⟩:=ry; exact W.ne_bytes (bQ I q (congrArg not AX))
  | _=>exact absurd (show false=true from hs) Bool.false_ne_true
 | _=>cases y <;> exact absurd (show false=true from hs) Bool.false_ne_true
theorem CD:d6 X (compareOp .Lt) (ye λi j=>.bl (decide (i<j))):=Gi λ_ _ _ _ _ _ _ q=>lt_int q
theorem xC:d6 X (compareOp .LtE) (ye λi j=>.bl (decide (i<=j))):=Gi λ_ _ _ _ _ _ _ q=>le_int q
theorem lC:d6 X (compareOp .Gt) (ye λi j=>.bl (decide (j<i))):=Gi λ_ _ _ _ _ _ _ q=>gt_int q
theorem bp (b:Expr){op:CmpOp}(h:op≠.In:=by decide) (h2:op≠.NotIn:=by decide):behindInMarks op b=false:=by
 have e1:(op == CmpOp.In)=false:=by cases op <;> first | rfl | exact absurd rfl h
 have e2:(op == CmpOp.NotIn)=false:=by cases op <;> first | rfl | exact absurd rfl h2
 cases b <;> simp [behindInMarks,e1,e2]
theorem jh {op:CmpOp}{r:R2}(ho:d6 X (compareOp op) r) (ha:PE X a ta) (hb:PE X b tb) (hm:behindInMarks op b=false):PE X (.Compare a [op] [b] pos) (vT r ta tb):=by
 intro pins s σ H Q I h
 exact wpAny_Compare1 (Gh ha hb I h λv u s2 x y H2 I2 rx ry q=>ho pins s2 σ H2 x y v u Q I2 rx ry q) hm
def HZ (t:TE):TT:=λσ H Q=>t σ H λx H'=>∃k,x=.bl k/\Q k H'
theorem a8 {op:CmpOp}{r:R2}(ho:d6 X (compareOp op) r) (ha:PE X a ta) (hb:PE X b tb) (hm:behindInMarks op b=false):PT X (.Compare a [op] [b] pos) (HZ (vT r ta tb)):=by
 intro pins s σ H Q I h
 refine wpAny_isTrue_Compare1 (aJ (ha pins s σ H _ I h) λv s1 ⟨x,H1,I1,r1,q1⟩=>aJ (hb pins s1 σ H1 _ I1 q1) λu s2 ⟨y,H2,I2,r2,q2⟩=>
  aJ (ho pins s2 σ H2 x y v u _ I2 r1 r2 q2) λc s3 ⟨z,H3,I3,r3,k,e,q3⟩=>?_) hm
 subst e
 cases r3
 exact wpAny_truthy_bool ⟨H3,I3,q3⟩
def LI (r r':R2) (ta tb tc:TE):TE:=λσ H Q=>ta σ H λx H1=>tb σ H1 λy H2=>r x y H2 λz H3=>∃k,z=.bl k/\
 (if k=true then tc σ H3 λw' H4=>r' y w' H4 Q else Q (.bl false) H3)
theorem yf {op LJ:CmpOp}{r r':R2}(ho:d6 X (compareOp op) r) (fq:d6 X (compareOp LJ) r') (ha:PE X a ta) (hb:PE X b tb) (hc:PE X c tc)
 (hm:lastMarks [op,LJ] [b,c]=false:=by with_unfolding_all rfl):PT X (.Compare a [op,LJ] [b,c] pos) (HZ (LI r r' ta tb tc)):=by
 intro pins s σ H Q I h
 refine isTrue_chain (aJ (ha pins s σ H _ I h) λv s1 ⟨x,H1,I1,r1,q1⟩=>test_link (aJ (hb pins s1 σ H1 _ I1 q1) λu s2 ⟨y,H2,I2,r2,q2⟩=>
  aJ (ho pins s2 σ H2 x y v u _ I2 r1 r2 q2) λd s3 ⟨z,H3,I3,r3,k,e,q3⟩=>?_)) hm
 subst e
 cases r3
 refine wpAny_truthy_bool ?_
 cases k with
 | false=>
  obtain ⟨k',e',q'⟩:=q3
  cases e'
  exact ite_ff ⟨H3,I3,q'⟩
 | true=>
  refine ite_tt (test_last (aJ (hc pins s3 σ H3 _ I3 q3) λw' s4 ⟨z',H4,I4,r4,q4⟩=>aJ (fq pins s4 σ H4 y z' u w' _ I4 r2 r4 q4) λd' s5 ⟨z2,H5,I5,r5,k2,e2,q5⟩=>?_))
  subst e2
  cases r5
  exact wpAny_truthy_bool ⟨H5,I5,q5⟩
theorem mj:(sizeLine:Nat)<2 ^ 63:=by rw [sizeLine_eq]; decide
theorem eC:d6 X (binaryOp .Add) (λx y H Q=>∃i j,x=.str i/\y=.str j/\i.length+j.length<=sizeLine/\Q (.str (i++j)) H):=by
 intro pins s σ H x y v u Q I rx ry h
 obtain ⟨i,j,rfl,rfl,hz,q⟩:=h
 obtain ⟨t,rfl⟩:=rx
 obtain ⟨t',rfl⟩:=ry
 exact add_str (λt' tk=>⟨.str (i++j),H,I.tok _,⟨_,rfl⟩,q⟩) hz
theorem vals1 {x:V}{us:List Value}(r:Vals [x] us):∃u,us=[u]/\RelV x u:=by
 cases r with
 | cons r1 r2=>cases r2; exact ⟨_,rfl,r1⟩
theorem vals2 {x y:V}{us:List Value}(r:Vals [x,y] us):∃u w',us=[u,w']/\RelV x u/\RelV y w':=by
 cases r with
 | cons r1 r2=>
  cases r2 with
  | cons r3 r4=>cases r4; exact ⟨_,_,rfl,r1,r3⟩
theorem fU:eB X (.builtin "abs") (λxs H Q=>∃i,xs=[.int i]/\Q (.int (if i<0 then -i else i)) H):=by
 intro pins s σ H xs us Q I r h
 obtain ⟨i,rfl,q⟩:=h
 obtain ⟨u,rfl,t,rfl⟩:=vals1 r
 exact call_abs_int λu tk=>⟨.int (if i<0 then -i else i),H,I.tok _,⟨_,rfl⟩,q⟩
theorem o6:eB X (.type "int") (λxs H Q=>(∃i,xs=[.int i]/\Q (.int i) H)\/∃k,xs=[.bl k]/\Q (.int (if k then 1 else 0)) H):=by
 intro pins s σ H xs us Q I r h
 rcases h with ⟨i,rfl,q⟩ | ⟨k,rfl,q⟩
 . obtain ⟨u,rfl,t,rfl⟩:=vals1 r
   exact call_int_int ⟨.int i,H,I,⟨_,rfl⟩,q⟩
 . obtain ⟨u,rfl,r1⟩:=vals1 r
   cases r1
   exact call_int_bool ⟨.int (if k then 1 else 0),H,I.tok _,⟨_,rfl⟩,q⟩
end
end L2
namespace L2
open PySem PySem.Spec PyProof.Rows
structure su (h:Heap) (x dx C:Addr) (mA:Str->Option Value):Prop where
 obj:h.get? x=some (W.instObj C dx)
 ns:h.Ns1 dx mA
 ne:dx≠x
theorem DU {h:Heap}{dx:Addr}{mA:Str->Option Value}(n:h.Ns1 dx mA):∃od,h.get? dx=some od/\∀name,W.lookIn name od=some (mA name):=by
 obtain ⟨o,es,ep,ho,hd,hk,_,hm⟩:=n
 refine ⟨o,ho,λname=>?_⟩
 have e:=hm name
 unfold nsFind findBy at e
 rw [← Array.find?_toList] at e
 unfold W.lookIn
 rw [hd]
 dsimp only
 split
 . rename_i y q
   rw [q] at e
   exact congrArg some e
 . rename_i q
   rw [q] at e
   have a:es.toList.any (·.refKey)=false:=by
    rw [List.any_eq_false]
    intro y hy
    obtain ⟨z,t,uX⟩:=hk y (Array.mem_toList_iff.mp hy)
    simp [DictEntry.refKey,uX]
   have a':¬ es.toList.any (·.refKey)=true:=by rw [a]; exact Bool.false_ne_true
   rw [if_neg a']
   exact congrArg some e
theorem su.look {h:Heap}{x dx C:Addr}{mA:Str->Option Value}(I:su h x dx C mA):∃od,W.InstAt h x (W.instObj C dx) C (some od)/\∀name,W.lookIn name od=some (mA name):=
 let ⟨od,ho,hl⟩:=DU I.ns
 ⟨od,⟨I.obj,rfl,rfl,ho⟩,hl⟩
section
variable {prog:Program}{w:World}{A:Around}{E:Value->Shared->Prop}{s:Shared}{K:W.Frag}{x dx C f:Addr}{mA:Str->Option Value}{name:Str}{v:Value}
theorem get_map {expr:Bool}{Q:Value->Shared->Prop}(X:K.In s.heap) (I:su s.heap x dx C mA) (hg:W.plainGet K C name=true) (hh:W.hasDictIn K C=true)
 (ha:W.findIn K (.ref C) name=some none) (hv:mA name=some v) (hv':W.handedIn v=true) (h:Q v { s with toks:=s.toks+1 }) :
 wpAny (model prog w) A (getAttr (.ref x) name expr) Q E s:=by
 obtain ⟨od,J,hl⟩:=I.look
 exact W.get_value X J (W.plainGet_of hg).1 (W.findObj_own hh ha rfl (by rw [hl,hv])) hv' h
theorem Gk {pl:Sem Bool}{Q:Value×List Value->Shared->Prop}(X:K.In s.heap) (I:su s.heap x dx C mA) (hg:W.plainGet K C name=true)
 (hf:W.findIn K (.ref C) name=some (some (.ref f))) (ht:W.isFn K (.ref f)=true) (hv:mA name=none) (h:Q (.ref f,[.ref x]) s) :
 wpAny (model prog w) A (getMethod (.ref x) name pl) Q E s:=by
 obtain ⟨od,J,hl⟩:=I.look
 exact W.method_fn X J (W.plainGet_of hg).1 (W.plainGet_of hg).2 hf (beq_iff_eq.mp ht) (by show (W.lookIn name od).map (·.isSome)=some false; rw [hl,hv]; rfl) h
theorem Kb {ns:List Str}{Q:Unit->Shared->Prop}(X:K.In s.heap) (I:su s.heap x dx C mA)
 (hs:W.findIn K (.ref C) "__setattr__" = some (some (.builtin "object.__setattr__"))) (hp:W.plainOver K C=true) (ht:W.takerIn K C name=some none) (hh:W.hasDictIn K C=true)
 (hw:PySem.Within mA ns) (hsz:ns.length<=sizeLine)
 (h:∀h',su h' x dx C (λy=>if y=name then some v else mA y)->Heap.SameBut dx s.heap h'->Q () { s with heap:=h',toks:=s.toks+2 }) :
 wpAny (model prog w) A (setAttr (.ref x) name v) Q E s:=by
 obtain ⟨od,J,hl⟩:=I.look
 refine W.set_plain X J hs (W.osa_open (s:={ s with toks:=s.toks+1 }) (r:=none) X J hp ht λb=>?_)
 obtain ⟨cd,hc,hd'⟩:=W.any_some hh
 have hx:s.heap.get? x=some ⟨.ref C,some dx,.plain,#[]⟩:=I.obj
 refine wpAny_bind (wpAny_pure (wpAny_bind (wpAny_bind (wpAny_loadPart hx (wpAny_bind (W.Looks.here (s:={ s with toks:=s.toks+1 }) (W.looks_clsIn X hc) ?_))))))
 rw [hd']
 refine wpAny_pure (a:=some dx) (wpAny_bind (wpAny_pure (wpAny_bind ?_)))
 refine wpAny_nsSet1 (s:={ s with toks:=s.toks+1 }) I.ns λh' fi ig=>?_
 obtain ⟨oD,esD,epD,hoD,hdD,hcD⟩:=fi.count (PySem.Within.cons name v hw)
 refine wpAny_bind (wpAny_lookBehind hoD (by rw [hdD]; exact pastItsLine_dict (Nat.le_trans hcD (by rw [List.length_cons]; omega))) ?_)
 exact wpAny_pure (h _ ⟨(ig.2 _ (Ne.symm I.ne)).trans I.obj,fi,I.ne⟩ ig)
theorem Gm {R:Result->Shared->Prop}{vs:List Value}{kw:List (Str×Value)}(X:K.In s.heap) (hm:W.makesIn K C=true)
 (hi:W.findIn K (.ref C) "__init__" = some (some (.ref f))) (hf:W.typeIn K (.ref f)=some (.type "function"))
 (h:codeAny (model prog w) (A.under (.builtin "type.__call__" ⟨.ref C::vs,kw⟩)) (.call (.ref f) ⟨.ref (s.heap.objs.size+1)::vs,kw⟩) (W.InitBack (s.heap.objs.size+1) R)
  { s with heap:=(s.heap.push W.emptyDict).push (W.instObj C s.heap.objs.size) }) :
 codeAny (model prog w) A (.call (.ref C) ⟨vs,kw⟩) R s:=by
 obtain ⟨hh,g,d,t,os⟩:=s
 exact W.make_core (W.makes_of X hm) (W.looks_findIn X hi) (λself=>W.bind_fn X self hf) (.inl rfl) h
end
def aB (f:Str) (v:V):List (Str×V)->List (Str×V)
 | []=>[(f,v)]
 | (g,x)::r=>if g=f then (g,v)::r else (g,x)::aB f v r
theorem ay (f g:Str) (v:V):∀fs:List (Str×V),(aB f v fs).lookup g=if g=f then some v else fs.lookup g
 | []=>by
  show List.lookup g [(f,v)]=_
  by_cases h:g=f
  . have hb:(g == f)=true:=beq_iff_eq.mpr h
    simp only [List.lookup,hb,if_pos h]
  . have hb:(g == f)=false:=beq_eq_false_iff_ne.mpr h
    simp only [List.lookup,hb,if_neg h]
 | (k,x)::r=>by
  have ih:=ay f g v r
  rw [show aB f v ((k,x)::r)=(if k=f then (k,v)::r else (k,x)::aB f v r) from rfl]
  by_cases hk:k=f
  . rw [if_pos hk]
    by_cases h:g=k
    . have hb:(g == k)=true:=beq_iff_eq.mpr h
      simp only [List.lookup,hb,if_pos (h.trans hk)]
    . have hb:(g == k)=false:=beq_eq_false_iff_ne.mpr h
      simp only [List.lookup,hb,if_neg (λe:g=f=>h (e.trans hk.symm))]
  . rw [if_neg hk]
    by_cases h:g=k
    . have hb:(g == k)=true:=beq_iff_eq.mpr h
      simp only [List.lookup,hb,if_neg (λe:g=f=>hk (h.symm.trans e))]
    . have hb:(g == k)=false:=beq_eq_false_iff_ne.mpr h
      simp only [List.lookup,hb]
      exact ih
theorem o7 (f:Str) (v:V):∀fs:List (Str×V),f∈(aB f v fs).map (·.1)/\∀g,g∈fs.map (·.1)->g∈(aB f v fs).map (·.1)
 | []=>⟨by simp [aB],λg h=>by simp at h⟩
 | (k,x)::r=>by
  obtain ⟨i1,i2⟩:=o7 f v r
  rw [show aB f v ((k,x)::r)=(if k=f then (k,v)::r else (k,x)::aB f v r) from rfl]
  by_cases hk:k=f
  . rw [if_pos hk]
    subst hk
    exact ⟨by simp,λg h=>by simpa using h⟩
  . rw [if_neg hk]
    refine ⟨?_,λg h=>?_⟩
    . rw [List.map_cons]
      exact List.mem_cons_of_mem _ i1
    . rw [List.map_cons] at h ⊢
      rcases List.mem_cons.mp h with e | e
      . exact List.mem_cons.mpr (.inl e)
      . exact List.mem_cons_of_mem _ (i2 g e)
theorem lX (f:Str) (v:V):∀fs:List (Str×V),(aB f v fs).length<=fs.length+1
 | []=>by simp [aB]
 | (k,x)::r=>by
  have ih:=lX f v r
  rw [show aB f v ((k,x)::r)=(if k=f then (k,v)::r else (k,x)::aB f v r) from rfl]
  by_cases hk:k=f
  . rw [if_pos hk,List.length_cons,List.length_cons]; omega
  . rw [if_neg hk,List.length_cons,List.length_cons]; omega
theorem gj.some_of {v:V}{o:Option Value}(r:gj (some v) o):∃u,o=some u/\RelV v u:=by
 cases o with
 | none=>exact (show False from r).elim
 | some u=>exact ⟨u,rfl,r⟩
theorem gj.none_of {o:Option Value}(r:gj none o):o=none:=by
 cases o with
 | none=>rfl
 | some u=>exact (show False from r).elim
theorem DV {v:V}{u:Value}(r:RelV v u):W.handedIn u=true:=by
 cases v with
 | aS=>cases (show u=Value.none from r); rfl
 | bl b=>cases (show u=Value.bool b from r); rfl
 | int i=>obtain ⟨t,e⟩:=(show ∃t,u=Value.int i t from r); cases e; rfl
 | str x=>obtain ⟨t,e⟩:=(show ∃t,u=Value.str x t from r); cases e; rfl
 | mh b=>obtain ⟨t,e⟩:=(show ∃t,u=Value.bytes b t from r); cases e; rfl
 | vP b=>obtain ⟨t,e⟩:=(show ∃t,u=Value.float b t from r); cases e; rfl
 | ref a=>cases (show u=Value.ref a from r); rfl
 | ty n=>cases (show u=Value.type n from r); rfl
section
variable {P:Program}{w:World}{H H':Hp}{h h':Heap}{a C dx:Addr}{fs fs':List (Str×V)}
theorem qm (hok:eP P w H h) (e:H a=some (.ins C dx fs)):∃mA,su h a dx C mA/\(∀f,gj (fs.lookup f) (mA f))/\PySem.Within mA (fs.map (·.1))/\fs.length<=1000/\H dx=some (.own a):=by
 obtain ⟨d,z,ne,ob,mA,n,r,q⟩:=(show bH P w H h a (.ins C dx fs) from hok a _ e)
 exact ⟨mA,⟨ob,n,ne⟩,r,q,z,d⟩
end
structure lD (K:W.Frag) (C:Addr):Prop where
 pg:W.plainGet K C Str.empty=true
 hd:W.hasDictIn K C=true
 po:W.plainOver K C=true
 sa:W.findIn K (.ref C) "__setattr__" = some (some (.builtin "object.__setattr__"))
theorem lD.get {K:W.Frag}{C:Addr}(c:lD K C) (f:Str):W.plainGet K C f=true:=c.pg
def dc (K:W.Frag) (C:Addr) (f:Str):Prop:=W.findIn K (.ref C) f=some none
theorem dc.P9 {K:W.Frag}{C:Addr}{f:Str}(n:dc K C f):W.takerIn K C f=some none:=by
 unfold W.takerIn
 rw [show W.findIn K (.ref C) f=some none from n]
 rfl
structure Meth (K:W.Frag) (C:Addr) (m:Str) (f:Addr):Prop where
 at_:W.findIn K (.ref C) m=some (some (.ref f))
 fn:W.isFn K (.ref f)=true
 kp:W.keepIn K (.ref f)=true
section
variable {X:Cx}{pins:List (Addr×Obj)}{σ:St}{H:Hp}{s:Shared}{a C dx:Addr}{fs:List (Str×V)}{f:Str}{v:V}{A:Around}{E:Value->Shared->Prop}
theorem CF {b:Bool}{Q:Value->Shared->Prop}(I:Inv X pins σ H s) (e:H a=some (.ins C dx fs)) (c:lD X.K C) (n:dc X.K C f) (l:fs.lookup f=some v)
 (h:∀u s',Inv X pins σ H s'->RelV v u->Q u s'):wpAny (model X.prog X.w) A (getAttr (.ref a) f b) Q E s:=by
 obtain ⟨mA,O,r,_,_,_⟩:=qm I.hok e
 obtain ⟨u,hu,ru⟩:=gj.some_of (v:=v) (o:=mA f) (by rw [← l]; exact r f)
 exact get_map I.gd O (c.get f) c.hd n hu (DV ru) (h u _ (I.tok _) ru)
theorem nI {m:Str}{g:Addr}{pl:Sem Bool}{Q:Value×List Value->Shared->Prop}(I:Inv X pins σ H s) (e:H a=some (.ins C dx fs)) (c:lD X.K C) (k:Meth X.K C m g) (l:fs.lookup m=none)
 (h:Q (.ref g,[.ref a]) s):wpAny (model X.prog X.w) A (getMethod (.ref a) m pl) Q E s:=by
 obtain ⟨mA,O,r,_,_,_⟩:=qm I.hok e
 have hn:mA m=none:=gj.none_of (by rw [← l]; exact r m)
 exact Gk I.gd O (c.get m) k.at_ k.fn hn h
theorem CG {y:V}{u:Value}{Q:Unit->Shared->Prop}(I:Inv X pins σ H s) (e:H a=some (.ins C dx fs)) (c:lD X.K C) (n:dc X.K C f) (hl:fs.length<1000) (ry:RelV y u)
 (h:∀s',Inv X pins σ (upd H a (.ins C dx (aB f y fs))) s'->Q () s'):wpAny (model X.prog X.w) A (setAttr (.ref a) f u) Q E s:=by
 obtain ⟨mA,O,r,wi,_,ho⟩:=qm I.hok e
 have hz:(fs.map (·.1)).length<=sizeLine:=by rw [List.length_map,sizeLine_eq]; omega
 refine Kb I.gd O c.sa c.po n.P9 c.hd wi hz λh' O' sb=>h _ ?_
 have hd:∃o,h'.get? dx=some o:=let ⟨o,_,_,e',_⟩:=O'.ns; ⟨o,e'⟩
 refine I.write (x:=a) (e:=dx) (by rw [e]; exact True.intro) (.inr ho) (λb q hb z=>(sb.2 b hb).trans z) hd ?_
 refine ⟨by rw [ai O.ne]; exact ho,?_,O.ne,O'.obj,_,O'.ns,λg=>?_,λg hg=>?_⟩
 . have:=lX f y fs; omega
 . show gj ((aB f y fs).lookup g) (if g=f then some u else mA g)
   rw [ay]
   by_cases q:g=f
   . rw [if_pos q,if_pos q]; exact ry
   . rw [if_neg q,if_neg q]; exact r g
 . by_cases q:g=f
   . rw [q]; exact (o7 f y fs).1
   . refine (o7 f y fs).2 g (wi g λz=>hg ?_)
     show (if g=f then some u else mA g)=none
     rw [if_neg q]; exact z
theorem Inv.made (I:Inv X pins σ H s):Inv X pins σ (upd (upd H s.heap.objs.size (.own (s.heap.objs.size+1))) (s.heap.objs.size+1) (.ins C s.heap.objs.size []))
 { s with heap:=(s.heap.push W.emptyDict).push (W.instObj C s.heap.objs.size) }:=by
 have e1:(s.heap.push W.emptyDict).get? s.heap.objs.size=some W.emptyDict:=Heap.get?_push_size s.heap rfl
 have e2:((s.heap.push W.emptyDict).push (W.instObj C s.heap.objs.size)).get? (s.heap.objs.size+1)=some (W.instObj C s.heap.objs.size):=by
  have:=Heap.get?_push_size (s.heap.push W.emptyDict) (o:=W.instObj C s.heap.objs.size) rfl
  rwa [Heap.size_push] at this
 have e3:(s.heap.push W.emptyDict).Ns s.heap.objs.size (λ_=>none):=⟨W.emptyDict,#[],_,e1,rfl,(λe he=>absurd he (by simp)),λ_=>rfl⟩
 have I1:=I.laid (a:=s.heap.objs.size) (o:=.own (s.heap.objs.size+1)) (h':=s.heap.push W.emptyDict) (t':=s.toks) (λb u q=>Heap.get?_push_of_some _ q) (Nat.le_refl _) ⟨_,e1⟩
 refine I1.laid (a:=s.heap.objs.size+1) (o:=.ins C s.heap.objs.size []) (t':=s.toks) (λb u q=>Heap.get?_push_of_some _ q) (Nat.le_of_eq (Heap.size_push _ _)) ?_
 have ne:s.heap.objs.size≠s.heap.objs.size+1:=Nat.ne_of_lt (Nat.lt_succ_self _)
 refine ⟨by rw [ai ne,ag],Nat.zero_le _,ne,e2,λ_=>none,(Heap.Ns1.of_empty e3).at λo q=>Heap.get?_push_of_some _ q,λ_=>True.intro,λy hy=>absurd rfl hy⟩
theorem Kc {prog:Program}{w:World}{env:Env}{e:Expr}{f:Str}{pos:Pos}{s:Shared}{Q:Value->Shared->Prop}(hb:attributeBase e f env (eval e env)=eval e env)
 (h:wpAny (model prog w) A (eval e env) (λo dm=>wpAny (model prog w) A (getAttr o f true) Q E dm) E s):wpAny (model prog w) A (eval (.Attribute e f pos) env) Q E s:=
 Attribute_any_ h (by rw [arm_eval_Attribute,hb])
end
def VI (K:W.Frag) (ta:TE) (f:Str):TE:=λσ H Q=>ta σ H λx H1=>∃a C dx fs v,x=.ref a/\H1 a=some (.ins C dx fs)/\lD K C/\dc K C f/\fs.lookup f=some v/\Q v H1
def VJ (K:W.Frag) (ta tv:TE) (f:Str):TS:=λD σ H=>tv σ H λy H1=>ta σ H1 λx H2=>∃a C dx fs,x=.ref a/\H2 a=some (.ins C dx fs)/\lD K C/\dc K C f/\fs.length<1000/\
 D.nx σ (upd H2 a (.ins C dx (aB f y fs)))
section
variable {X:Cx}{o e value:Expr}{f:Str}{pos pos' VL:Pos}{ta tv:TE}
theorem cF (he:PE X e ta) (hb:attributeBase e f X.env (eval e X.env)=eval e X.env):PE X (.Attribute e f pos) (VI X.K ta f):=by
 intro pins s σ H Q I h
 refine Kc hb (aJ (he pins s σ H _ I h) λu s1 ⟨x,H1,I1,rx,a,C,dx,fs,v,ex,ea,c,n,l,q⟩=>?_)
 subst ex
 obtain rfl:u=Value.ref a:=rx
 exact CF I1 ea c n l λu' s2 I2 ru=>⟨v,H1,I2,ru,q⟩
theorem gg (ha:PE X o ta) (hv:PE X value tv) (hs:swapsWith value (some (.Attribute o f pos')) pos.line X.env=pure false):PS X (.Assign [.Attribute o f pos'] value pos) (VJ X.K ta tv f):=by
 intro pins s σ H D I h
 refine plainObj_wpAny_Assign_Attribute (aJ (hv pins s σ H _ I h) λu s1 ⟨y,H1,I1,ry,q⟩=>aJ (ha pins s1 σ H1 _ I1 q) λov s2 ⟨x,H2,I2,rx,a,C,dx,fs,ex,ea,c,n,l,q2⟩=>?_) hs
 subst ex
 obtain rfl:ov=Value.ref a:=rx
 exact CG I2 ea c n l ry λs3 I3=>⟨σ,_,I3,q2⟩
theorem PU {pl:Sem Bool}{m:Str}{apos:Pos}{args:List Expr}{pins:List (Addr×Obj)}{s:Shared}{σ:St}{H:Hp}{Q:Value->Shared->Prop}{te:TE}(he:PE X e te) (I:Inv X pins σ H s)
 (h:te σ H λx H1=>∃a C dx fs g,x=.ref a/\H1 a=some (.ins C dx fs)/\lD X.K C/\Meth X.K C m g/\fs.lookup m=none/\
  ∀s1,Inv X pins σ H1 s1->wpAny (model X.prog X.w) X.A (callWith pos (.ref g) [.ref a] (backTo pos (starEach args X.env)) (backToKw pos (keywordEach [] X.env))) Q X.xe s1)
 (ht:eval (.Call (.Attribute e m apos) args [] pos) X.env=(do
  let ov ← eval e X.env
  standAt apos.atName
  let (f,first) ← holding [ov] (getMethod ov m pl)
  callWith pos f first (backTo pos (starEach args X.env)) (backToKw pos (keywordEach [] X.env)))) :
 wpAny (model X.prog X.w) X.A (eval (.Call (.Attribute e m apos) args [] pos) X.env) Q X.xe s:=by
 refine W.methodCall_KW (pl:=pl) (aJ (he pins s σ H _ I h) λu s1 ⟨x,H1,I1,rx,a,C,dx,fs,g,ex,ea,c,k,l,q⟩=>?_) ht
 subst ex
 obtain rfl:u=Value.ref a:=rx
 exact nI I1 ea c k l (q s1 I1)
end
section
variable {X:Cx}{pins:List (Addr×Obj)}{σ:St}{H:Hp}{s:Shared}{A:Around}{E:Value->Shared->Prop}{Q:Value->Shared->Prop}{c:Value}{b:Bool}
inductive ji (K:W.Frag) (H:Hp):V->Value->Prop where
 | aS:ji K H .aS (.type "NoneType")
 | bl (x:Bool):ji K H (.bl x) (.type "bool")
 | int (i:Int):ji K H (.int i) (.type "int")
 | str (x:Str):ji K H (.str x) (.type "str")
 | vP (x:UInt64):ji K H (.vP x) (.type "float")
 | lst {a:Addr}{xs:List V}(e:H a=some (.lst xs)):ji K H (.ref a) (.type "list")
 | cz {a:Addr}{o:Obj}{xs:List V}(e:H a=some (.cz o (.lst xs))):ji K H (.ref a) (.type "list")
 | tup {a:Addr}{xs:List V}(e:H a=some (.tup xs)):ji K H (.ref a) (.type "tuple")
 | dK {a:Addr}{kvs:List (Key×V)}(e:H a=some (.dK kvs)):ji K H (.ref a) (.type "dict")
 | dT {a:Addr}{kvs:List (List Key×V)}(e:H a=some (.dT kvs)):ji K H (.ref a) (.type "dict")
 | ins {a C dx:Addr}{fs:List (Str×V)}(e:H a=some (.ins C dx fs)) (cl:lD K C) (ha:W.findIn K (.ref C) "__class__" = some (some (.builtin "object.__class__")))
  (hn:W.specialIn K (.builtin "object.__class__") "__get__" = some (some (.builtin "getset_descriptor.__get__"))) (dv:W.takesIn K (.builtin "object.__class__")=some true)
  (hm:W.mroIn K C (.type "object")=some true):ji K H (.ref a) (.ref C)
theorem DW {x:V}{u t:Value}(I:Inv X pins σ H s) (rx:RelV x u) (ty:ji X.K H x t) (e:W.kitOne X.K t c=some b) (h:∀tk,Q (.bool b) { s with toks:=tk }) :
 wpAny (model X.prog X.w) A (call (.builtin "isinstance") [u,c]) Q E s:=by
 cases ty with
 | aS=>cases (show u=Value.none from rx); exact W.kia_one W.kitx_none I.gd True.intro e (λz=>nomatch z) h
 | bl y=>cases (show u=Value.bool y from rx); exact W.kia_one W.kitx_bool I.gd True.intro e (λz=>nomatch z) h
 | int i=>obtain ⟨t,q⟩:=(show ∃t,u=Value.int i t from rx); cases q; exact W.kia_one W.kitx_int I.gd True.intro e (λz=>nomatch z) h
 | str y=>obtain ⟨t,q⟩:=(show ∃t,u=Value.str y t from rx); cases q; exact W.kia_one W.kitx_str I.gd True.intro e (λz=>nomatch z) h
 | vP y=>obtain ⟨t,q⟩:=(show ∃t,u=Value.float y t from rx); cases q; exact W.kia_one W.kitx_float I.gd True.intro e (λz=>nomatch z) h
 | @lst a xs ea=>
  cases (show u=Value.ref a from rx)
  obtain ⟨_,_,n,_,h1⟩:=(show bH X.prog X.w H s.heap a (.lst xs) from I.hok a _ ea)
  exact W.kia_one W.kitx_list I.gd ⟨_,h1,rfl⟩ e (λz=>nomatch z) h
 | @cz a ob xs ea=>
  cases (show u=Value.ref a from rx)
  obtain ⟨_,_,_,n,_,h1⟩:=(show bH X.prog X.w H s.heap a (.cz ob (.lst xs)) from I.hok a _ ea)
  exact W.kia_one W.kitx_list I.gd ⟨_,h1,rfl⟩ e (λz=>nomatch z) h
 | @tup a xs ea=>
  cases (show u=Value.ref a from rx)
  obtain ⟨_,_,_,p⟩:=(show bH X.prog X.w H s.heap a (.tup xs) from I.hok a _ ea)
  obtain ⟨o,h1,h2,_⟩:=p
  exact W.kia_one W.kitx_tuple I.gd ⟨o,h1,h2⟩ e (λz=>nomatch z) h
 | @dK a kvs ea=>
  cases (show u=Value.ref a from rx)
  obtain ⟨_,_,vs,_,p⟩:=(show bH X.prog X.w H s.heap a (.dK kvs) from I.hok a _ ea)
  obtain ⟨o,es,ep,h1,h2,_⟩:=p
  exact W.kia_one W.kitx_dict I.gd ⟨o,h1,h2.1⟩ e (λz=>nomatch z) h
 | @dT a kvs ea=>
  cases (show u=Value.ref a from rx)
  obtain ⟨_,_,xs,_,o,es,ep,h1,h2,_⟩:=(show bH X.prog X.w H s.heap a (.dT kvs) from I.hok a _ ea)
  exact W.kia_one W.kitx_dict I.gd ⟨o,h1,h2.1⟩ e (λz=>nomatch z) h
 | @ins a C dx fs ea cl ha hn dv hm=>
  cases (show u=Value.ref a from rx)
  obtain ⟨mA,O,_⟩:=qm I.hok ea
  obtain ⟨od,J,_⟩:=O.look
  exact W.kia_one (W.kitx_own (cl.get _) cl.hd ha hn dv hm) I.gd J e (λz=>nomatch z) h
end
end L2
namespace L2
open PySem PySem.Spec PyProof.Rows
structure bg (k:Nat) (A:Around):Prop where
 hd:A.handled=none
 dp:A.depth+3*k+5<recursionLimit
 un:A.units+16*k+200<cLine
theorem bg.mono {j k:Nat}{A:Around}(r:bg k A) (h:j<=k):bg j A:=⟨r.hd,by have:=r.dp; omega,by have:=r.un; omega⟩
theorem bg.deeper {k:Nat}{A:Around}(r:bg (k+1) A) (env:Env):bg k (A.deeper env):=
 ⟨r.hd,by have:=r.dp; show A.depth+1+3*k+5<_; omega,by have:=r.un; show A.units+3+16*k+200<_; omega⟩
theorem CH {A:Around}{C:Addr}{us:List Value}{kw:List (Str×Value)} : (A.under (.builtin "type.__call__" ⟨.ref C::us,kw⟩)).depth=A.depth+1:=by
 first | rfl | simp [Around.under,Code.weight,Code.isCreation,Code.isGuard,Code.isCaller,Code.frames,Code.isFrame,guardIds]
theorem CI {A:Around}{C:Addr}{us:List Value}{kw:List (Str×Value)} : (A.under (.builtin "type.__call__" ⟨.ref C::us,kw⟩)).units=A.units+1:=by
 first | rfl | simp [Around.under,Code.cUnits,Code.frames,Code.isFrame]
theorem bg.make {k:Nat}{A:Around}(r:bg (k+1) A) (C:Addr) (us:List Value) (kw:List (Str×Value)):bg k (A.under (.builtin "type.__call__" ⟨.ref C::us,kw⟩)):=
 ⟨r.hd,by have:=r.dp; rw [CH]; omega,by have:=r.un; rw [CI]; omega⟩
theorem bg.depth {k:Nat}{A:Around}(r:bg k A):A.depth<recursionLimit:=by have:=r.dp; omega
theorem bg.units {k:Nat}{A:Around}(r:bg k A):A.units+64<cLine:=by have:=r.un; omega
def Gn:TA:=λ_ H Q=>Q [] H
def Ia (ta:TE) (tr:TA):TA:=λσ H Q=>ta σ H λx H1=>tr σ H1 λxs H2=>Q (x::xs) H2
section
variable {X:Cx}{e:Expr}{es:List Expr}{te:TE}{t:TA}{pos:Pos}
theorem ah:PA X [] Gn:=λ_ _ _ _ H Q I h=>Calls.spliced_nil ⟨[],H,I,.nil,h⟩
theorem ae (ha:PE X e te) (hr:PA X es t) (hs:starEach (e::es) X.env=(false,eval e X.env)::starEach es X.env:=by rfl):PA X (e::es) (Ia te t):=by
 intro pos pins s σ H Q I h
 rw [hs]
 show wpAny _ _ (spliced ((false,eval e X.env)::backTo pos (starEach es X.env))) _ _ s
 refine Calls.spliced_cons (aJ (ha pins s σ H _ I h) λu s1 ⟨x,H1,I1,r1,q1⟩=>?_)
 exact aJ (hr pos pins s1 σ H1 _ I1 q1) λus s2 ⟨xs,H2,I2,r2,q2⟩=>⟨x::xs,H2,I2,.cons r1 r2,q2⟩
def LK (t:TA):TE:=λσ H Q=>t σ H λxs H1=>xs.length<=sizeLine/\∀p,H1 p=none->Q (.ref p) (upd H1 p (.tup xs))
def VM (t:TA):TE:=λσ H Q=>t σ H λxs H1=>xs.length<=sizeLine/\∀p,H1 p=none->Q (.ref p) (upd H1 p (.lst xs))
theorem eh {x1} (h:PA X es t):PE X (.Tuple es x1 pos) (LK t):=by
 intro pins s σ H Q I hq
 refine wpAny_Tuple_spliced (aJ (h pos pins s σ H _ I hq) λus s1 ⟨xs,H1,I1,r,z,q⟩=>⟨by rw [← r.length]; exact z,?_⟩)
 have hf:H1 s1.heap.objs.size=none:=I1.hok.fresh (Nat.le_refl _)
 refine ⟨.ref s1.heap.objs.size,upd H1 s1.heap.objs.size (.tup xs),I1.laid (t':=s1.toks) (λb u e=>Heap.get?_push_of_some _ e) (Nat.le_refl _) ?_,rfl,q _ hf⟩
 exact ⟨z,us,r,⟨_,Heap.get?_push_size _ rfl,rfl,_,rfl⟩⟩
theorem bt (h:PA X es t):PE X (.List es pos) (VM t):=by
 intro pins s σ H Q I hq
 refine wpAny_List_spliced (aJ (h pos pins s σ H _ I hq) λus s1 ⟨xs,H1,I1,r,z,q⟩=>⟨by rw [← r.length]; exact z,?_⟩)
 have hf:H1 s1.heap.objs.size=none:=I1.hok.fresh (Nat.le_refl _)
 refine ⟨.ref s1.heap.objs.size,upd H1 s1.heap.objs.size (.lst xs),I1.laid (t':=s1.toks) (λb u e=>Heap.get?_push_of_some _ e) (Nat.le_refl _) ?_,rfl,q _ hf⟩
 exact ⟨z,us,0,r,Heap.get?_push_size _ rfl⟩
end
abbrev Sp:=List V->Hp->VK->XK->Prop
abbrev o8:=List Env->Hp->Shared->XK->Value->Shared->Prop
structure sv (P:Program) (w:World) (K:W.Frag) (mg:Str->Option Value) (base:Heap) (A:Around) (outer:List Env) (s:Shared) (H:Hp):Prop where
 frames:A.frames=some outer
 mod:Mod K mg base
 bs:∀b o,base.get? b=some o->s.heap.get? b=some o/\H b=none
 bsz:base.objs.size<=s.heap.objs.size
 jT:s.heap.FunFrames base outer
 frf:∀b∈oH outer,H b=none
 hok:eP P w H s.heap
 bare:AllBare s.gens
def CE (outer:List Env) (P:Program) (w:World) (H:Hp) (s:Shared) (Q:VK) (u:Value) (s':Shared):Prop:=
 ∃v H',s'.os=s.os/\AllBare s'.gens/\Un (oH outer) [] H H' s.heap s'.heap/\eP P w H' s'.heap/\RelV v u/\Q v H'
def CR (CX:o8) (outer:List Env) (P:Program) (w:World) (H:Hp) (s:Shared) (Q:VK) (E:XK) (r:Result) (s':Shared):Prop:=
 match r with
 | .ok (.ret u)=>CE outer P w H s Q u s'
 | .ok _=>False
 | .error e=>CX outer H s E e s'
structure aw (P:Program) (w:World) (K:W.Frag) (mg:Str->Option Value) (base:Heap) (CX:o8) (k:Nat) (f:Addr) (fd:FuncData) (ps:List Str) (sp:Sp):Prop where
 len:∀vs H Q E,sp vs H Q E->vs.length=ps.length
 run:∀(A:Around) (outer:List Env) (s:Shared) (H:Hp) (args:Args) (us:List Value) (vs:List V) (Q:VK) (E:XK),bg k A->sv P w K mg base A outer s H->BindsTo s fd args (ps.zip us)->Vals vs us->sp vs H Q E->
  codeAny (model P w) A (.call (.ref f) args) (CR CX outer P w H s Q E) s
theorem sv.make {P:Program}{w:World}{K:W.Frag}{mg:Str->Option Value}{base:Heap}{A:Around}{outer:List Env}{s:Shared}{H:Hp}(e:sv P w K mg base A outer s H) (C:Addr) (us:List Value) (kw:List (Str×Value)) :
 sv P w K mg base (A.under (.builtin "type.__call__" ⟨.ref C::us,kw⟩)) outer s H:=⟨by first | exact e.frames | (simpa [Around.under,Code.envs,Code.isFrame,pushEnvs] using e.frames),e.mod,e.bs,e.bsz,e.jT,e.frf,e.hok,e.bare⟩
section
variable {X:Cx}{pins:List (Addr×Obj)}{σ:St}{H:Hp}{s s':Shared}
theorem Inv.LM (I:Inv X pins σ H s):sv X.prog X.w X.K X.mg X.base X.A X.stack s H:=
 ⟨I.ok.frames,I.ok.mod,I.bs,Nat.le_trans I.ok.bsz I.sz,I.stack,I.AQ,I.hok,I.bare⟩
theorem Inv.after {Q:VK}{u:Value}(I:Inv X pins σ H s) (h:CE X.stack X.prog X.w H s Q u s'):EP X pins σ Q u s':=by
 obtain ⟨v,H',os,bare,un,hok,r,q⟩:=h
 obtain ⟨hh,g,d,t,os'⟩:=s'
 obtain rfl:os'=s.os:=os
 exact ⟨v,H',I.call (h':=hh) (g':=g) (d':=d) (t':=t) (ch:=[]) un hok bare (λb z=>absurd z (by simp)),r,q⟩
end
def Qa (sp:Sp) (il:List V) (E:XK) (t:TA):TE:=λσ H Q=>t σ H λvs H1=>sp (vs++il) H1 Q E
def Ib (C:Addr) (m:Str) (sp:Sp) (il:List V) (E:XK) (ta:TE) (t:TA):TE:=λσ H Q=>ta σ H λx H1=>∃a dx fs,x=.ref a/\H1 a=some (.ins C dx fs)/\fs.lookup m=none/\
 t σ H1 λvs H2=>sp (x::(vs++il)) H2 Q E
def Qb (C:Addr) (sp:Sp) (il:List V) (E:XK) (t:TA):TE:=λσ H Q=>t σ H λvs H1=>∀x dx,H1 x=none->H1 dx=none->dx≠x->
 sp (.ref x::(vs++il)) (upd (upd H1 dx (.own x)) x (.ins C dx [])) (λv H2=>v=.aS/\Q (.ref x) H2) E
def Binds (K:W.Frag) (fd:FuncData) (ps:List Str) (ds:List Value):Prop:=
 ∀(s:Shared) (us:List Value),K.In s.heap->(us++ds).length=ps.length->BindsTo s fd ⟨us,[]⟩ (ps.zip (us++ds))
theorem Binds.all {K:W.Frag}{fd:FuncData}{ps:List Str}(h:∀us:List Value,us.length=ps.length->bindArgs fd ⟨us,[]⟩=pure (ps.zip us)):Binds K fd ps []:=λs us _ hl=>by
 rw [List.append_nil] at hl ⊢
 exact .of_eq (h us hl)
def Passes (CX:o8) (X:Cx) (E:XK):Prop:=∀(pins:List (Addr×Obj)) (σ:St) (H:Hp) (s:Shared) (e:Value) (s':Shared),Inv X pins σ H s->CX X.stack H s E e s'->X.xe e s'
section
variable {X:Cx}{CX:o8}{k:Nat}{f C:Addr}{fd:FuncData}{ps:List Str}{sp:Sp}{il:List V}{ds:List Value}{E:XK}{x m:Str}{p pos apos:Pos}{e o:Expr}{es:List Expr}{ta:TE}{t:TA}
theorem yg {pins:List (Addr×Obj)}{σ:St}{H:Hp}{s:Shared}{Q:VK}{us:List Value}{vs:List V}(F:aw X.prog X.w X.K X.mg X.base CX k f fd ps sp) (hr:bg k X.A) (hb:Binds X.K fd ps ds) (hd:Vals il ds) (hx:Passes CX X E)
 (I:Inv X pins σ H s) (r:Vals vs us) (h:sp (vs++il) H Q E):wpAny (model X.prog X.w) X.A (call (.ref f) us) (EP X pins σ Q) X.xe s:=by
 have r2:Vals (vs++il) (us++ds):=r.append hd
 have hl:(us++ds).length=ps.length:=by rw [← r2.length]; exact F.len _ _ _ _ h
 refine wpAny_call (codeAny_mono (F.run X.A X.stack s H ⟨us,[]⟩ (us++ds) (vs++il) Q E hr I.LM (hb s us I.gd hl) r2 h) λr s' hq=>?_)
 cases r with
 | error e=>exact hx pins σ H s e s' I hq
 | ok fl=>
  cases fl with
  | ret u=>exact I.after hq
  | next=>exact False.elim hq
  | brk=>exact False.elim hq
  | cont=>exact False.elim hq
theorem aA (F:aw X.prog X.w X.K X.mg X.base CX k f fd ps sp) (hr:bg k X.A) (hg:Gl X x) (hm:X.mg x=some (.ref f)) (hk:W.keepIn X.K (.ref f)=true) (hb:Binds X.K fd ps ds) (hd:Vals il ds) (hx:Passes CX X E)
 (ha:PA X (e::es) t) (yh:(x == ("__debug__" : Str))=false:=by decide) (he:starEach (e::es) X.env=(false,eval e X.env)::starEach es X.env:=by rfl) (jY:(backTo pos (starEach es X.env)).any (·.1)=false:=by rfl) :
 PE X (.Call (.Name x p) (e::es) [] pos) (Qa sp il E t):=by
 intro pins s σ H Q I h
 refine wpAny_Call_Name_kw (AS I hg hm ?_ yh)
 refine W.callWith_K (h₀:=X.base) I.ok.mod.kin hk (aJ (ha pos pins s σ H _ I h) λus s1 ⟨vs,H1,I1,r,q⟩=>⟨I1.gd,?_⟩) he jY
 exact yg F hr hb hd hx I1 r q
theorem dh {pl:Sem Bool}(he:PE X o ta) (c:lD X.K C) (hm:Meth X.K C m f) (F:aw X.prog X.w X.K X.mg X.base CX k f fd ps sp) (hr:bg k X.A) (hb:Binds X.K fd ps ds) (hd:Vals il ds) (hx:Passes CX X E) (ha:PA X (e::es) t)
 (gf:starEach (e::es) X.env=(false,eval e X.env)::starEach es X.env:=by rfl) (jY:(backTo pos (starEach es X.env)).any (·.1)=false:=by rfl)
 (ht:eval (.Call (.Attribute o m apos) (e::es) [] pos) X.env=(do
  let ov ← eval o X.env
  standAt apos.atName
  let (f,first) ← holding [ov] (getMethod ov m pl)
  callWith pos f first (backTo pos (starEach (e::es) X.env)) (backToKw pos (keywordEach [] X.env))):=by rfl) :
 PE X (.Call (.Attribute o m apos) (e::es) [] pos) (Ib C m sp il E ta t):=by
 intro pins s σ H Q I h
 refine W.methodCall_KW (pl:=pl) (aJ (he pins s σ H _ I h) λu s1 ⟨x,H1,I1,rx,a,dx,fs,ex,ea,l,q⟩=>?_) ht
 subst ex
 obtain rfl:u=Value.ref a:=rx
 refine nI I1 ea c hm l ?_
 refine W.callWith_K (first:=[.ref a]) (h₀:=X.base) I.ok.mod.kin hm.kp (aJ (ha pos pins s1 σ H1 _ I1 q) λus s2 ⟨vs,H2,I2,r,q2⟩=>⟨I2.gd,?_⟩) gf jY
 exact yg (us:=.ref a::us) (vs:=.ref a::vs) F hr hb hd hx I2 (.cons rfl r) q2
theorem fZ {pl:Sem Bool}(he:PE X o ta) (c:lD X.K C) (hm:Meth X.K C m f) (F:aw X.prog X.w X.K X.mg X.base CX k f fd ps sp) (hr:bg k X.A) (hb:Binds X.K fd ps ds) (hd:Vals il ds) (hx:Passes CX X E)
 (ht:eval (.Call (.Attribute o m apos) [] [] pos) X.env=(do
  let ov ← eval o X.env
  standAt apos.atName
  let (f,first) ← holding [ov] (getMethod ov m pl)
  callWith pos f first (backTo pos (starEach [] X.env)) (backToKw pos (keywordEach [] X.env))):=by rfl) :
 PE X (.Call (.Attribute o m apos) [] [] pos) (Ib C m sp il E ta Gn):=by
 intro pins s σ H Q I h
 refine W.methodCall_KW (pl:=pl) (aJ (he pins s σ H _ I h) λu s1 ⟨x,H1,I1,rx,a,dx,fs,ex,ea,l,q⟩=>?_) ht
 subst ex
 obtain rfl:u=Value.ref a:=rx
 refine nI I1 ea c hm l ?_
 exact W.callWith_K0 (first:=[.ref a]) I1.gd hm.kp (yg (us:=[.ref a]) (vs:=[.ref a]) F hr hb hd hx I1 (.cons rfl .nil) q)
structure Mk (K:W.Frag) (C f:Addr):Prop where
 makes:W.makesIn K C=true
 init:W.findIn K (.ref C) "__init__" = some (some (.ref f))
 fn:W.isFn K (.ref f)=true
 kp:W.keepIn K (.ref C)=true
theorem Gp {pins:List (Addr×Obj)}{σ:St}{H:Hp}{s:Shared}{Q:VK}{us:List Value}{vs:List V}(M:Mk X.K C f) (F:aw X.prog X.w X.K X.mg X.base CX k f fd ps sp) (hr:bg (k+1) X.A) (hb:Binds X.K fd ps ds) (hd:Vals il ds)
 (hx:Passes CX X E) (I:Inv X pins σ H s) (r:Vals vs us)
 (h:∀x dx,H x=none->H dx=none->dx≠x->sp (.ref x::(vs++il)) (upd (upd H dx (.own x)) x (.ins C dx [])) (λv H2=>v=.aS/\Q (.ref x) H2) E) :
 wpAny (model X.prog X.w) X.A (call (.ref C) us) (EP X pins σ Q) X.xe s:=by
 have hq:=h (s.heap.objs.size+1) s.heap.objs.size (I.hok.fresh (Nat.le_succ _)) (I.hok.fresh (Nat.le_refl _)) (Nat.ne_of_lt (Nat.lt_succ_self _))
 have I2:=Inv.made (C:=C) I
 have r2:Vals (V.ref (s.heap.objs.size+1)::(vs++il)) (Value.ref (s.heap.objs.size+1)::(us++ds)):=.cons rfl (r.append hd)
 have hl:(Value.ref (s.heap.objs.size+1)::us++ds).length=ps.length:=by
  have e:=r2.length
  rw [F.len _ _ _ _ hq] at e
  exact e.symm
 refine wpAny_call (Gm (f:=f) I.gd M.makes M.init (beq_iff_eq.mp M.fn) (codeAny_mono (F.run _ X.stack _ _ ⟨Value.ref (s.heap.objs.size+1)::us,[]⟩ (Value.ref (s.heap.objs.size+1)::(us++ds)) _ _ E (hr.make C us [])
  (I2.LM.make C us []) (hb _ (Value.ref (s.heap.objs.size+1)::us) I2.gd hl) r2 hq) λr s' DX=>?_))
 cases r with
 | error e=>exact hx pins σ _ _ e s' I2 DX
 | ok fl=>
  cases fl with
  | ret u=>
   obtain ⟨v,H',I3,rv,ev,q3⟩:=I2.after DX
   subst ev
   exact ⟨rv,⟨V.ref (s.heap.objs.size+1),H',I3,rfl,q3⟩⟩
  | next=>exact False.elim DX
  | brk=>exact False.elim DX
  | cont=>exact False.elim DX
theorem uY (M:Mk X.K C f) (F:aw X.prog X.w X.K X.mg X.base CX k f fd ps sp) (hr:bg (k+1) X.A) (hg:Gl X x) (hm:X.mg x=some (.ref C)) (hb:Binds X.K fd ps ds) (hd:Vals il ds) (hx:Passes CX X E)
 (ha:PA X (e::es) t) (yh:(x == ("__debug__" : Str))=false:=by decide) (he:starEach (e::es) X.env=(false,eval e X.env)::starEach es X.env:=by rfl) (jY:(backTo pos (starEach es X.env)).any (·.1)=false:=by rfl) :
 PE X (.Call (.Name x p) (e::es) [] pos) (Qb C sp il E t):=by
 intro pins s σ H Q I h
 refine wpAny_Call_Name_kw (AS I hg hm ?_ yh)
 refine W.callWith_K (h₀:=X.base) I.ok.mod.kin M.kp (aJ (ha pos pins s σ H _ I h) λus s1 ⟨vs,H1,I1,r,q⟩=>⟨I1.gd,?_⟩) he jY
 exact Gp M F hr hb hd hx I1 r q
end
section
variable {X:Cx}{CX:o8}{k:Nat}{f C:Addr}{fd:FuncData}{ps ks:List Str}{sp:Sp}{E:XK}{x m:Str}{p pos apos aeW:Pos}{e o:Expr}{es:List Expr}{Ic:List Keyword}{te ta:TE}{t tk:TA}{nm:Option Str}
variable {g:List Value->List Value->List Value}{gV:List V->List V->List V}
end
structure aQ (N P:List Str) (sc:Scope):Prop where
 kind:sc.kind=.function
 co:sc.isCoroutine=false
 gen:sc.isGenerator=false
 nd:N.Nodup
 pre:N.take P.length=P
 par:∀x∈P,sc.names.lookup x=some .local\/sc.names.lookup x=some .cell
 nofree:∀y∈sc.names,y.2≠.free
theorem vU {kindOf:Str->Option NameKind}{x:Str} : ∀{binds:List (Str×Value)}{m:Str->Option Value},(∀v,(x,v)∉binds)->bindL kindOf binds m x=m x
 | [],_,_=>rfl
 | (n,v)::r,m,h=>by
  unfold bindL
  rw [vU λw hw=>h w (List.mem_cons_of_mem _ hw)]
  split
  . have:x≠n:=by rintro rfl; exact h v List.mem_cons_self
    simp [this]
  . rfl
theorem vV {kindOf:Str->Option NameKind}{x:Str} : ∀{binds:List (Str×Value)}{m:Str->Option Value},(∀v,(x,v)∉binds)->bindC kindOf binds m x=m x
 | [],_,_=>rfl
 | (n,v)::r,m,h=>by
  unfold bindC
  rw [vV λw hw=>h w (List.mem_cons_of_mem _ hw)]
  split
  . rfl
  . have:x≠n:=by rintro rfl; exact h v List.mem_cons_self
    simp [this]
theorem vW {kindOf:Str->Option NameKind}{x:Str}{v:Value} : ∀{P:List Str}{vs:List Value}{i:Nat}{m:Str->Option Value},P.Nodup->P[i]?=some x->vs[i]?=some v->kindOf x=some .local->
 bindL kindOf (P.zip vs) m x=some v
 | [],_,_,_,_,h,_,_=>by simp at h
 | _::_,[],_,_,_,_,h,_=>by simp at h
 | p::P,w::vs,0,m,nd,h1,h2,hk=>by
  simp at h1 h2; subst h1; subst h2
  show bindL kindOf ((p,w)::P.zip vs) m p=_
  unfold bindL
  rw [vU λv hv=>(List.nodup_cons.mp nd).1 (List.of_mem_zip hv).1,if_pos hk]
  simp
 | p::P,w::vs,i+1,m,nd,h1,h2,hk=>by
  show bindL kindOf ((p,w)::P.zip vs) m x=_
  unfold bindL
  exact vW (i:=i) (List.nodup_cons.mp nd).2 (by simpa using h1) (by simpa using h2) hk
theorem vX {kindOf:Str->Option NameKind}{x:Str}{v:Value} : ∀{P:List Str}{vs:List Value}{i:Nat}{m:Str->Option Value},P.Nodup->P[i]?=some x->vs[i]?=some v->kindOf x≠some .local->
 bindC kindOf (P.zip vs) m x=some v
 | [],_,_,_,_,h,_,_=>by simp at h
 | _::_,[],_,_,_,_,h,_=>by simp at h
 | p::P,w::vs,0,m,nd,h1,h2,hk=>by
  simp at h1 h2; subst h1; subst h2
  show bindC kindOf ((p,w)::P.zip vs) m p=_
  unfold bindC
  rw [vV λv hv=>(List.nodup_cons.mp nd).1 (List.of_mem_zip hv).1,if_neg hk]
  simp
 | p::P,w::vs,i+1,m,nd,h1,h2,hk=>by
  show bindC kindOf ((p,w)::P.zip vs) m x=_
  unfold bindC
  exact vX (i:=i) (List.nodup_cons.mp nd).2 (by simpa using h1) (by simpa using h2) hk
def start (N:List Str) (vs:List V):St:=vs.map some++List.replicate (N.length-vs.length) none
def nJ (CX:o8) (P:Program) (w:World) (K:W.Frag) (mg:Str->Option Value) (base:Heap) (N:List Str) (qual:Str) (scope:Scope) (f:Addr) (cd:Value) (A:Around) (outer:List Env) (s:Shared) (H:Hp) (E:XK):Cx where
 prog:=P
 w:=w
 K:=K
 mg:=mg
 base:=base
 A:=A.deeper (envOfC qual scope s.heap.objs.size f cd)
 N:=N
 jS:=s
 xt:=H
 env:=envOfC qual scope s.heap.objs.size f cd
 outer:=outer
 stack:=envOfC qual scope s.heap.objs.size f cd::outer
 ex:=[]
 calm:=true
 fn:=λ_=>true
 pn:=[]
 xe:=λe s'=>wpAny (model P w) (A.deeper (envOfC qual scope s.heap.objs.size f cd)) (leaving (envOfC qual scope s.heap.objs.size f cd) e) (λ_ DY=>CX outer H s E e DY) (λe' DY=>CX outer H s E e' DY) s'
theorem yi {sc:Scope}{n:Nat}{x:Str}(h:sc.names.lookup x=some .cell):∃c,(cellsFrom n sc.names []).lookup x=some c:=by
 have q:=W.cellsFrom_some sc.names n [] (.inl h)
 exact Option.isSome_iff_exists.mp q
theorem DZ {CX:o8}{P:Program}{w:World}{K:W.Frag}{mg:Str->Option Value}{base:Heap}{N ps:List Str}{qual:Str}{scope:Scope}{f:Addr}{cd:Value}{A:Around}{outer:List Env}{s s1:Shared}{H:Hp}{E:XK}{us:List Value}{vs:List V}
 (S:aQ N ps scope) (hd:A.handled=none) (e0:sv P w K mg base A outer s H) (hl:vs.length=ps.length) (r:Vals vs us)
 (x:InCallC s s.heap.objs.size (bindL (envOfC qual scope s.heap.objs.size f cd).kindOf (ps.zip us) λ_=>none) (cellsFrom (s.heap.objs.size+1) scope.names []) (bindC (envOfC qual scope s.heap.objs.size f cd).kindOf (ps.zip us) λ_=>none) s1) :
 Inv (nJ CX P w K mg base N qual scope f cd A outer s H E) [] (start N vs) H s1:=by
 have jY:ps.length<=N.length:=by have:=congrArg List.length S.pre; rw [List.length_take] at this; omega
 obtain ⟨h1,tk,rfl,hk⟩:=x.done
 have D0:∀b:Addr,b∉(nJ CX P w K mg base N qual scope f cd A outer s H E).ex:=λb z=>absurd (show b∈([]:List Addr) from z) (by simp)
 refine ⟨⟨e0.mod,S.kind,rfl,rfl,Nat.le_refl _,λy z c h1 h2=>?_,λy hy=>?_,λy c _ h=>?_,λ_=>hd,Around.frames_deeper e0.frames,.inr ⟨rfl,rfl⟩,λb z=>absurd z (D0 b),e0.bs,e0.bsz,λb _ _=>D0 b,λb z=>absurd z (D0 b),e0.jT,e0.frf⟩,
  rfl,e0.bare,Un.kept hk,⟨_,x.toInCall.ns,λi y v h1 h2 h3=>?_⟩,λy c h=>⟨_,x.cell y c h⟩,e0.hok.fresh (Nat.le_refl _),λy c h=>?_,λp hp=>absurd (show p∈([]:List (Addr×Obj)) from hp) (by simp),e0.hok.kept hk,?_⟩
 . exact name_of_addr x.apart (PySem.mem_of_lookup h1) (PySem.mem_of_lookup h2)
 . have hy:scope.names.lookup y=some .cell\/scope.names.lookup y=some .free:=hy
   rcases hy with hy | hy
   . exact yi hy
   . exact absurd rfl (S.nofree _ (PySem.mem_of_lookup hy))
 . exact Nat.le_of_lt (x.above y c (PySem.mem_of_lookup h))
 . have hi:i<vs.length:=by
    unfold start at h2
    by_cases hi:i<vs.length
    . exact hi
    . rw [List.getElem?_append_right (by simpa using hi)] at h2
      rw [List.getElem?_replicate] at h2
      split at h2 <;> cases h2
   have ha:vs[i]?=some v:=by
    unfold start at h2
    rw [List.getElem?_append_left (by simpa using hi),List.getElem?_map] at h2
    cases e:vs[i]? with
    | none=>rw [e] at h2; cases h2
    | some a=>rw [e] at h2; cases h2; rfl
   obtain ⟨u,hu,rv⟩:=r.get ha
   have hp:ps[i]?=some y:=by
    rw [← S.pre,List.getElem?_take_of_lt (by omega)]; exact h1
   have Sy:ps.Nodup:=by rw [← S.pre]; exact S.nd.sublist (List.take_sublist _ _)
   refine ⟨u,rv,?_⟩
   rcases S.par y (List.mem_of_getElem? hp) with k | k
   . exact .inl ⟨k,vW Sy hp hu k⟩
   . obtain ⟨c,e⟩:=yi (n:=s.heap.objs.size+1) k
     refine .inr ⟨.inl k,c,e,?_⟩
     have q:=x.cell y c e
     rw [vX Sy hp hu (by show scope.names.lookup y≠_; rw [k]; decide)] at q
     exact q
 . exact e0.hok.fresh (Nat.le_of_lt (x.above y c (PySem.mem_of_lookup h)))
 . unfold start
   show _=N.length
   rw [List.length_append,List.length_map,List.length_replicate]
   omega
theorem Qc {CX:o8}{P:Program}{w:World}{K:W.Frag}{mg:Str->Option Value}{base:Heap}{k:Nat}{f:Addr}{name qual:Str}{params:Arguments}{body:List Stmt}{scope:Scope}{dV kV doc pm cdv ct oc:Value}{an od:Option Addr}
 {vY:Array (Option Value)}{N ps:List Str}{sp:Sp}(lk:K.lookup f=some ⟨oc,od,.func (W.fnOf name qual params body scope dV kV doc pm an cdv ct),vY⟩) (oY:W.codeIn K cdv qual=true) (S:aQ N ps scope)
 (len:∀vs H Q E,sp vs H Q E->vs.length=ps.length)
 (CJ:∀(A:Around) (outer:List Env) (s:Shared) (H:Hp) (vs:List V) (Q:VK) (E:XK),bg k (A.deeper (envOfC qual scope s.heap.objs.size f cdv))->sp vs H Q E->
  ∃t,iR (nJ CX P w K mg base N qual scope f cdv A outer s H E) body t/\t { nx:=λ_ H'=>Q .aS H',rt:=Q } (start N vs) H) :
 aw P w K mg base CX (k+1) f (W.fnOf name qual params body scope dV kV doc pm an cdv ct) ps sp:=by
 refine ⟨len,λA outer s H args us vs Q E hr e0 hb r vZ=>?_⟩
 have hl:=len _ _ _ _ vZ
 have KX:K.In s.heap:=e0.mod.kin.keeps λb o e=>(e0.bs b o e).1
 have lim:s.heap.NoLimit:=e0.mod.nolimit.keeps λb o e=>(e0.bs b o e).1
 have Qd:∀y∈ps.zip us,scope.names.lookup y.1=some .local\/(scope.names.lookup y.1=some .cell/\((cellsFrom (s.heap.objs.size+1) scope.names []).lookup y.1).isSome=true):=λ⟨n,v⟩ hy=>by
  rcases S.par n (List.of_mem_zip hy).1 with q | q
  . exact .inl q
  . exact .inr ⟨q,W.cellsFrom_some _ _ _ (.inl q)⟩
 refine codeAny_call_function hr.depth (KX _ _ lk) rfl S.co S.gen rfl (W.codeRec_of KX oY) (hb _ _ _ _ ?_)
 refine wpAny_newFunctionEnv_cells S.kind Qd λenv he s1 x=>?_
 subst he
 refine ⟨lim.keeps x.toInCall.keep,codeAny_func ?_⟩
 obtain ⟨t,ht,hq⟩:=CJ A outer s H vs Q E (hr.deeper _) vZ
 have I:Inv (nJ CX P w K mg base N qual scope f cdv A outer s H E) [] (start N vs) H s1:=DZ S hr.hd e0 hl r x
 refine wpAny_mono (ht [] s1 (start N vs) H _ I hq) (λfl s' hs=>?_) λe s' hs=>hs
 have fin:∀{bx:St}{H':Hp}{v:V}{u:Value},Inv (nJ CX P w K mg base N qual scope f cdv A outer s H E) [] bx H' s'->RelV v u->Q v H'->CE outer P w H s Q u s':=
  λ{bx H' v u} J rv q=>⟨v,H',J.os,J.bare,J.base,J.hok,rv,q⟩
 cases fl with
 | ret u=>
  obtain ⟨v,bx,H',J,rv,q⟩:=hs
  exact fin J rv q
 | next=>
  obtain ⟨bx,H',J,q⟩:=hs
  exact fin (v:=V.aS) (u:=Value.none) J rfl q
 | brk=>
  obtain ⟨_,_,_,q⟩:=hs
  exact False.elim q
 | cont=>
  obtain ⟨_,_,_,q⟩:=hs
  exact False.elim q
end L2
namespace L2
open PySem PySem.Spec PyProof.Rows
section
variable {X:Cx}{x:Str}{p pos:Pos}{e:Expr}{es:List Expr}{t:TA}{id T:String}{r:List V->Hp->VK->Prop}
def Sz (r:List V->Hp->VK->Prop) (t:TA):TE:=λσ H Q=>t σ H λvs H1=>r vs H1 Q
theorem aU (hc:eB X (.builtin id) r) (hg:Gl X x) (hm:X.mg x=none) (hv:bootBuiltins x=some (.builtin id)) (ha:PA X (e::es) t) (hn:x ≠ "__name__":=by decide) (yh:(x == ("__debug__" : Str))=false:=by decide)
 (he:starEach (e::es) X.env=(false,eval e X.env)::starEach es X.env:=by rfl) (jY:(backTo pos (starEach es X.env)).any (·.1)=false:=by rfl):PE X (.Call (.Name x p) (e::es) [] pos) (Sz r t):=by
 intro pins s σ H Q I h
 refine wpAny_Call_Name_kw (jA I hg hm hv ?_ hn yh)
 exact PyProof.Rows.callWith_builtin1 (aJ (ha pos pins s σ H _ I h) λus s1 ⟨vs,H1,I1,r1,q1⟩=>hc pins s1 σ H1 vs us Q I1 r1 q1) he jY
theorem aL (hc:eB X (.type T) r) (hg:Gl X x) (hm:X.mg x=none) (hv:bootBuiltins x=some (.type T)) (ha:PA X (e::es) t) (hn:x ≠ "__name__":=by decide) (yh:(x == ("__debug__" : Str))=false:=by decide)
 (he:starEach (e::es) X.env=(false,eval e X.env)::starEach es X.env:=by rfl) (jY:(backTo pos (starEach es X.env)).any (·.1)=false:=by rfl):PE X (.Call (.Name x p) (e::es) [] pos) (Sz r t):=by
 intro pins s σ H Q I h
 refine wpAny_Call_Name_kw (jA I hg hm hv ?_ hn yh)
 exact PyProof.Rows.callWith_type1 (aJ (ha pos pins s σ H _ I h) λus s1 ⟨vs,H1,I1,r1,q1⟩=>hc pins s1 σ H1 vs us Q I1 r1 q1) he jY
end
end L2
namespace L2
open PySem PySem.Spec PyProof.Rows
section
variable {κ:Type}[DecidableEq κ]
def cq (kvs:List (κ×V)) (k:κ):Option V:=(kvs.find? λkv=>decide (kv.1=k)).map (·.2)
def putK (kvs:List (κ×V)) (k:κ) (v:V):List (κ×V):=
 if (kvs.any λkv=>decide (kv.1=k))=true then kvs.map (λkv=>if kv.1=k then (kv.1,v) else kv) else kvs++[(k,v)]
theorem gw {p:κ×V}{r:List (κ×V)}{k:κ}(e:p.1=k):cq (p::r) k=some p.2:=by simp [cq,List.find?_cons,e]
theorem f7 {p:κ×V}{r:List (κ×V)}{k:κ}(e:¬ p.1=k):cq (p::r) k=cq r k:=by simp [cq,List.find?_cons,e]
theorem sC (k:κ):∀kvs:List (κ×V),(kvs.any λkv=>decide (kv.1=k))=(cq kvs k).isSome
 | []=>rfl
 | p::r=>by
  rw [List.any_cons]
  by_cases e:p.1=k
  . simp only [gw e,decide_eq_true e,Bool.true_or,Option.isSome_some]
  . rw [f7 e,decide_eq_false e,Bool.false_or]; exact sC k r
theorem lY (kvs:List (κ×V)) (k:κ) (v:V):(putK kvs k v).length<=kvs.length+1:=by
 unfold putK
 split
 . rw [List.length_map]; omega
 . rw [List.length_append,List.length_cons,List.length_nil]; omega
theorem nK {kvs:List (κ×V)}{k:κ}(v:V) (h:cq kvs k=none):putK kvs k v=kvs++[(k,v)]:=by
 unfold putK
 rw [sC,h]
 exact if_neg (by decide)
theorem gj.o9 {o:Option V}{u:Option Value}(r:gj o u):o.isSome=u.isSome:=by
 cases o with
 | none=>cases u with
  | none=>rfl
  | some _=>exact (show False from r).elim
 | some _=>cases u with
  | none=>exact (show False from r).elim
  | some _=>rfl
theorem gj.getD {o:Option V}{u:Option Value}{d:V}{d':Value}(r:gj o u) (rd:RelV d d'):RelV (o.getD d) (u.getD d'):=by
 cases o with
 | none=>cases u with
  | none=>exact rd
  | some _=>exact (show False from r).elim
 | some _=>cases u with
  | none=>exact (show False from r).elim
  | some _=>exact r
theorem KV.val {kvs:List (κ×V)}{vs:List (κ×Value)}(r:KV kvs vs) (k:κ):gj (cq kvs k) (valueAt vs k):=by
 unfold KV at r
 induction r with
 | nil=>exact True.intro
 | @cons p q ps qs h t ih=>
  obtain ⟨h1,h2⟩:=h
  by_cases e:p.1=k
  . have e':q.1=k:=h1.symm.trans e
    have b:valueAt (q::qs) k=some q.2:=by simp [valueAt,List.find?_cons,e']
    rw [gw e,b]; exact h2
  . have e':¬ q.1=k:=λz=>e (h1.trans z)
    have b:valueAt (q::qs) k=valueAt qs k:=by simp [valueAt,List.find?_cons,e']
    rw [f7 e,b]; exact ih
theorem KV.any {kvs:List (κ×V)}{vs:List (κ×Value)}(r:KV kvs vs) (k:κ):(kvs.any λkv=>decide (kv.1=k))=vs.any λkv=>decide (kv.1=k):=by
 unfold KV at r
 induction r with
 | nil=>rfl
 | cons h t ih=>rw [List.any_cons,List.any_cons,ih,h.1]
theorem KV.Gq {kvs:List (κ×V)}{vs:List (κ×Value)}(r:KV kvs vs) (k:κ){y:V}{u:Value}(ry:RelV y u) :
 KV (kvs.map λkv=>if kv.1=k then (kv.1,y) else kv) (vs.map λkv=>if kv.1=k then (kv.1,u) else kv):=by
 unfold KV at r ⊢
 induction r with
 | nil=>exact .nil
 | @cons p q ps qs h t ih=>
  rw [List.map_cons,List.map_cons]
  refine .cons ?_ ih
  obtain ⟨h1,h2⟩:=h
  by_cases e:p.1=k
  . rw [if_pos e,if_pos (h1.symm.trans e)]; exact ⟨h1,ry⟩
  . rw [if_neg e,if_neg (λz=>e (h1.trans z))]; exact ⟨h1,h2⟩
theorem KV.put {kvs:List (κ×V)}{vs:List (κ×Value)}(r:KV kvs vs) (k:κ){y:V}{u:Value}(ry:RelV y u):KV (putK kvs k y) (stored vs k u):=by
 unfold putK stored
 rw [r.any k]
 by_cases e:(vs.any λkv=>decide (kv.1=k))=true
 . rw [if_pos e,if_pos e]; exact r.Gq k ry
 . rw [if_neg e,if_neg e]; exact Paired.snoc r ⟨rfl,ry⟩
theorem KV.length {kvs:List (κ×V)}{vs:List (κ×Value)}(r:KV kvs vs):kvs.length=vs.length:=Paired.length r
end
theorem lE {P:Program}{w:World}{k:Key}{u:Value}(r:RelV (kV k) u):(bb P w).is k u=true:=by
 cases k with
 | inl i=>obtain ⟨t,e⟩:=(show ∃t,u=Value.int i t from r); subst e; exact AB P w i t
 | inr x=>obtain ⟨t,e⟩:=(show ∃t,u=Value.str x t from r); subst e; exact AD P w x t
theorem wb {P:Program}{w:World} : ∀{ks:List Key}{us:List Value},Vals (ks.map kV) us->ItemsAre (bb P w) ks us
 | [],_,r=>by rw [List.map_nil] at r; cases r; exact .nil
 | k::ks,_,r=>by
  rw [List.map_cons] at r
  cases r with
  | cons h t=>exact .cons (lE h) (wb t)
abbrev KT (H:Hp):List (List Key×V)->List (List Key×Addr×Value)->Prop:=Paired λp q=>p.1=q.1/\H q.2.1=some (.tup (p.1.map kV))/\RelV p.2 q.2.2
theorem KT.val {H:Hp}{kvs:List (List Key×V)}{xs:List (List Key×Addr×Value)}(r:KT H kvs xs) (k:List Key):gj (cq kvs k) ((atKey xs k).map (·.2)):=by
 induction r with
 | nil=>exact True.intro
 | @cons p q ps qs h t ih=>
  obtain ⟨h1,_,h2⟩:=h
  by_cases e:p.1=k
  . have e':q.1=k:=h1.symm.trans e
    have b:atKey (q::qs) k=some q.2:=by simp [atKey,List.find?_cons,e']
    rw [gw e,b]; exact h2
  . have e':¬ q.1=k:=λz=>e (h1.trans z)
    have b:atKey (q::qs) k=atKey qs k:=by simp [atKey,List.find?_cons,e']
    rw [f7 e,b]; exact ih
theorem KT.Gq {H:Hp}{kvs:List (List Key×V)}{xs:List (List Key×Addr×Value)}(r:KT H kvs xs) (k:List Key){y:V}{u:Value}(ry:RelV y u) :
 KT H (kvs.map λkv=>if kv.1=k then (kv.1,y) else kv) (xs.map (putAt k u)):=by
 induction r with
 | nil=>exact .nil
 | @cons p q ps qs h t ih=>
  rw [List.map_cons,List.map_cons]
  refine .cons ?_ ih
  obtain ⟨h1,h2,h3⟩:=h
  unfold putAt
  by_cases e:p.1=k
  . rw [if_pos e,if_pos (h1.symm.trans e)]; exact ⟨h1,h2,ry⟩
  . rw [if_neg e,if_neg (λz=>e (h1.trans z))]; exact ⟨h1,h2,h3⟩
theorem KT.put {H:Hp}{kvs:List (List Key×V)}{xs:List (List Key×Addr×Value)}(r:KT H kvs xs) (k:List Key){b:Addr}{y:V}{u:Value}(hb:H b=some (.tup (k.map kV))) (ry:RelV y u) :
 KT H (putK kvs k y) (storedH xs k b u):=by
 have e:(kvs.any λkv=>decide (kv.1=k))=(atKey xs k).isSome:=by
  rw [sC,(r.val k).o9,Option.isSome_map]
 unfold putK storedH
 rw [e]
 by_cases q:(atKey xs k).isSome=true
 . rw [if_pos q,if_pos q]; exact r.Gq k ry
 . rw [if_neg q,if_neg q]; exact Paired.snoc r ⟨rfl,hb,ry⟩
theorem KT.keeps {H H':Hp}{kvs:List (List Key×V)}{xs:List (List Key×Addr×Value)}(r:KT H kvs xs) (ht:∀b ys,H b=some (.tup ys)->H' b=some (.tup ys)):KT H' kvs xs:=
 Paired.bh r λ_ _ z=>⟨z.1,ht _ _ z.2.1,z.2.2⟩
section
variable {P:Program}{w:World}{H:Hp}{h:Heap}{a:Addr}
theorem Ie {u:HO}(ok:eP P w H h) (e:Rd H a u):bH P w H h a u:=e.ok ok
theorem iz {kvs:List (Key×V)}(ok:eP P w H h) (e:Rd H a (.dK kvs)):kvs.length<=sizeLine/\(a == sysModules)=false/\∃vs,KV kvs vs/\h.DictOf (bb P w) a vs:=
 show bH P w H h a (.dK kvs) from Ie ok e
theorem tQ {kvs:List (Key×V)}(ok:eP P w H h) (e:H a=some (.dK kvs)):kvs.length<=sizeLine/\(a == sysModules)=false/\∃vs,KV kvs vs/\h.DictOf (bb P w) a vs:=iz ok (.inl e)
theorem ml {ks:List Key}(ok:eP P w H h) (e:H a=some (.tup (ks.map kV))):(tupleKind (bb P w)).is h ks a:=by
 obtain ⟨_,its,r,o,h1,h2,n,h3⟩:=(show bH P w H h a (.tup (ks.map kV)) from ok a _ e)
 exact ⟨o,its.toArray,n,h1,h2,h3,by simpa using wb r⟩
theorem nL {kvs:List (List Key×V)}(ok:eP P w H h) (e:Rd H a (.dT kvs)):kvs.length<=sizeLine/\(a == sysModules)=false/\
 ∃xs,KT H kvs xs/\h.DictOfH (tupleKind (bb P w)) a xs:=by
 obtain ⟨z,y,xs,r,o,es,ep,h1,h2,h3,h4,h5⟩:=(show bH P w H h a (.dT kvs) from Ie ok e)
 refine ⟨z,y,xs,r,o,es,ep,h1,h2,h3,h4,λx hx=>?_,h5⟩
 have all:∀{l:List (List Key×V)}{m:List (List Key×Addr×Value)},KT H l m->∀x∈m,(tupleKind (bb P w)).is h x.1 x.2.1:=by
  intro l m q
  induction q with
  | nil=>intro x hx; exact nomatch hx
  | @cons p q ps qs hq t ih=>
   intro x hx
   rcases List.mem_cons.mp hx with e | hx
   . subst e
     exact ml ok (by rw [← hq.1]; exact hq.2.1)
   . exact ih x hx
 exact all r x hx
theorem Qe {kvs:List (List Key×V)}(ok:eP P w H h) (e:H a=some (.dT kvs)):kvs.length<=sizeLine/\(a == sysModules)=false/\
 ∃xs,KT H kvs xs/\h.DictOfH (tupleKind (bb P w)) a xs:=nL ok (.inl e)
end
def cw (H:Hp) (a:Addr) (y:V) (r:Option V):Prop:=
 (∃kvs k,Rd H a (.dK kvs)/\y=kV k/\r=cq kvs k)\/∃kvs k b,Rd H a (.dT kvs)/\y=.ref b/\H b=some (.tup (k.map kV))/\r=cq kvs k
def kE (H:Hp) (a:Addr) (y v:V) (H':Hp):Prop:=
 (∃kvs k,H a=some (.dK kvs)/\y=kV k/\kvs.length<sizeLine/\H'=upd H a (.dK (putK kvs k v)))\/
 ∃kvs k b,H a=some (.dT kvs)/\y=.ref b/\H b=some (.tup (k.map kV))/\kvs.length<sizeLine/\H'=upd H a (.dT (putK kvs k v))
theorem cw.k {H:Hp}{a:Addr}{kvs:List (Key×V)}{k:Key}(e:H a=some (.dK kvs)):cw H a (kV k) (cq kvs k):=.inl ⟨kvs,k,.inl e,rfl,rfl⟩
theorem kE.k {H:Hp}{a:Addr}{kvs:List (Key×V)}{k:Key}{v:V}(e:H a=some (.dK kvs)) (hl:kvs.length<sizeLine):kE H a (kV k) v (upd H a (.dK (putK kvs k v))):=.inl ⟨kvs,k,e,rfl,hl,rfl⟩
section
variable {X:Cx}{pins:List (Addr×Obj)}{σ:St}{H:Hp}{s:Shared}{a:Addr}{y v:V}{u r:Value}{o:Option V}{A:Around}{E:Value->Shared->Prop}
theorem Inv.big (I:Inv X pins σ H s):sysModules<s.heap.objs.size:=by
 have h:mainGlobals<s.heap.objs.size:=(I.mod.glob.keeps I.bk).lt
 exact Nat.lt_trans (by decide) h
theorem D5 {Q:Value->Shared->Prop}(hu:A.units+1<cLine) (I:Inv X pins σ H s) (g:cw H a y (some v)) (ry:RelV y u) (h:∀w' s',Inv X pins σ H s'->RelV v w'->Q w' s') :
 wpAny (model X.prog X.w) A (getItem (.ref a) u) Q E s:=by
 rcases g with ⟨kvs,k,e,ey,l⟩ | ⟨kvs,k,b,e,ey,eb,l⟩
 . subst ey
   obtain ⟨z,hd,vs,rel,dd⟩:=iz I.hok e
   obtain ⟨w',hw,kH⟩:=gj.some_of (v:=v) (o:=valueAt vs k) (by rw [l]; exact rel.val k)
   exact wpAny_getItem_of (lE ry) dd.mapOf hw (h w' _ (I.tok _) kH)
 . subst ey
   cases (show u=Value.ref b from ry)
   obtain ⟨z,hd,xs,rel,dd⟩:=nL I.hok e
   obtain ⟨w',hw,kH⟩:=gj.some_of (v:=v) (o:=(atKey xs k).map (·.2)) (by rw [l]; exact rel.val k)
   obtain ⟨p,hp,fw⟩:=Option.map_eq_some_iff.mp hw
   refine wpAny_getItem_heap (tupleKind_room_in1 hu) (ml I.hok eb) dd hp ?_
   rw [fw]
   exact h w' _ (I.tok _) kH
theorem Kd {Q:Value->Shared->Prop}(hu:A.units+1<cLine) (I:Inv X pins σ H s) (g:cw H a y o) (ry:RelV y u) (h:∀s',Inv X pins σ H s'->Q (.bool (!o.isSome)) s') :
 wpAny (model X.prog X.w) A (compareOp .NotIn u (.ref a)) Q E s:=by
 rcases g with ⟨kvs,k,e,ey,l⟩ | ⟨kvs,k,b,e,ey,eb,l⟩
 . subst ey
   obtain ⟨z,hd,vs,rel,dd⟩:=iz I.hok e
   refine wpAny_notIn_of (lE ry) hd dd.mapOf ?_
   rw [← (rel.val k).o9,← l]
   exact h _ (I.tok _)
 . subst ey
   cases (show u=Value.ref b from ry)
   obtain ⟨z,hd,xs,rel,dd⟩:=nL I.hok e
   refine wpAny_notIn_heap (tupleKind_room_in1 hu) (ml I.hok eb) hd dd ?_
   have q:=(rel.val k).o9
   rw [Option.isSome_map] at q
   rw [← q,← l]
   exact h _ (I.tok _)
theorem uZ {h':Heap}{t':Nat}{ob:HO}(I:Inv X pins σ H s) (mu:DK (H a)) (hs:Heap.SameBut a s.heap h') (he:∃q,h'.get? a=some q) (new:bH X.prog X.w (upd H a ob) h' a ob) :
 Inv X pins σ (upd H a ob) { s with heap:=h',toks:=t' } :=
 I.write (x:=a) (e:=a) mu (.inl rfl) (λb q hb z=>(hs.2 b hb).trans z) he new
theorem pe {P:Program}{w:World}{H':Hp}{h':Heap}{kvs:List (Key×V)}{vs:List (Key×Value)}(z:kvs.length<=sizeLine) (hd:(a == sysModules)=false) (rel:KV kvs vs) (dd:h'.DictOf (bb P w) a vs) :
 bH P w H' h' a (.dK kvs):=⟨z,hd,vs,rel,dd⟩
theorem D6 {H':Hp}{Q:Unit->Shared->Prop}(hu:A.units+1<cLine) (I:Inv X pins σ H s) (g:kE H a y v H') (ry:RelV y u) (rv:RelV v r) (h:∀s',Inv X pins σ H' s'->Q () s') :
 wpAny (model X.prog X.w) A (setItem (.ref a) u r) Q E s:=by
 rcases g with ⟨kvs,k,e,ey,l,eH⟩ | ⟨kvs,k,b,e,ey,eb,l,eH⟩
 . subst ey eH
   obtain ⟨z,hd,vs,rel,dd⟩:=tQ I.hok e
   have hz:vs.length<=sizeLine:=by rw [← rel.length]; exact z
   have hl:(putK kvs k v).length<=sizeLine:=by have:=lY kvs k v; omega
   refine wpAny_setItem_pairs (hsz:=hz) (lE ry) dd λh' tS hs=>h _ ?_
   have he:∃q,h'.get? a=some q:=let ⟨q,_,_,hq,_⟩:=tS; ⟨q,hq⟩
   exact uZ I (by rw [e]; exact True.intro) hs he (pe hl hd (rel.put k rv) tS)
 . subst ey eH
   cases (show u=Value.ref b from ry)
   obtain ⟨z,hd,xs,rel,dd⟩:=Qe I.hok e
   have hz:xs.length<=sizeLine:=by rw [← Paired.length rel]; exact z
   have hl:(putK kvs k v).length<=sizeLine:=by have:=lY kvs k v; omega
   refine wpAny_setItem_heap (hsz:=hz) (tupleKind_room_in1 hu) (ml I.hok eb) dd λh' tS hs=>h _ ?_
   obtain ⟨q,es,ep,hq,h2,h3,h4,_,h5⟩:=tS
   refine uZ I (by rw [e]; exact True.intro) hs ⟨q,hq⟩ ⟨hl,hd,_,(rel.put k eb rv).keeps λc ys ec=>?_,q,es,ep,hq,h2,h3,h4,h5⟩
   rw [ai (bu ec e (λz=>nomatch z))]
   exact ec
end
section
variable {X:Cx}{pins:List (Addr×Obj)}{σ:St}{H:Hp}{s:Shared}{a:Addr}{kvs:List (Key×V)}{k:Key}{u:Value}{A:Around}{E:Value->Shared->Prop}
theorem Qf {Q:Value->Shared->Prop}(I:Inv X pins σ H s) (e:Rd H a (.dK kvs)) (h:∀t s',Inv X pins σ H s'->Q (.int kvs.length t) s'):wpAny (model X.prog X.w) A (call (.builtin "len") [.ref a]) Q E s:=by
 obtain ⟨z,hd,vs,rel,dd⟩:=iz I.hok e
 refine call_len_dict hd dd (by rw [← rel.length]; rw [sizeLine_eq] at z; omega) ?_
 rw [← rel.length]
 exact h _ _ (I.tok _)
end
def LN (i:Expr):Prop:=∀ov iv,subscripted i false ov iv=operate [ov,iv] (getItem ov iv)
theorem Ke {prog:Program}{w:World}{A:Around}{E:Value->Shared->Prop}{s:Shared}{env:Env}{value slice:Expr}{pos:Pos}{T id:String}{Q:Value->Shared->Prop}
 (hl:typeLookup (.type T) "__getitem__" = pure (some (.builtin id))) (hs:LN slice)
 (h:wpAny (model prog w) A (eval value env) (λo dm=>wpAny (model prog w) A (eval slice env) (λi uU=>uU.TypeIs o T/\wpAny (model prog w) A (getItem o i) Q E uU) E dm) E s) :
 wpAny (model prog w) A (eval (.Subscript value slice pos) env) Q E s:=by
 refine Subscript_ (wpAny_mono h (λo dm kI=>wpAny_mono kI (λi uU pf=>?_) λ_ _ x=>x) λ_ _ x=>x)
 obtain ⟨hT,pf⟩:=pf
 unfold subscriptTail
 refine wpAny_bind ?_
 rw [getitemInPython_of_ne hT.not_modules]
 refine wpAny_bind (wpAny_specialOf hT hl ?_)
 have fin:wpAny (model prog w) A (subscripted slice false o i) (λr Kf=>wpAny (model prog w) A (letTemporaryGo value o r >>= λ_=>pure r) Q E Kf) E uU:=by
  rw [hs o i]
  exact wpAny_operating (wpAny_mono pf (λr Kf u0=>wpAny_bind (wpAny_letTemporaryGo (wpAny_pure u0))) λ_ _ x=>x)
 first
  | exact wpAny_pure (wpAny_bind fin)
  | exact wpAny_bind (wpAny_pure (wpAny_bind fin))
  | exact wpAny_bind fin
theorem AF {X:Cx}{pins:List (Addr×Obj)}{σ:St}{H:Hp}{s:Shared}{a:Addr}{y:V}{o:Option V}(I:Inv X pins σ H s) (g:cw H a y o):s.TypeIs (.ref a) "dict":=by
 rcases g with ⟨kvs,k,e,_,_⟩ | ⟨kvs,k,b,e,_,_,_⟩
 . obtain ⟨_,_,vs,_,dd⟩:=iz I.hok e
   exact dd.typeIs
 . obtain ⟨_,_,xs,_,dd⟩:=nL I.hok e
   exact dd.typeIs
def Qg (td ty:TE):TE:=λσ H Q=>td σ H λx H1=>ty σ H1 λy H2=>∃a v,x=.ref a/\cw H2 a y (some v)/\Q v H2
def Kg (ty td:TE):TE:=λσ H Q=>ty σ H λy H1=>td σ H1 λx H2=>∃a o,x=.ref a/\cw H2 a y o/\Q (.bl (!o.isSome)) H2
def Qh (td ty tv:TE):TS:=λD σ H=>tv σ H λv H1=>td σ H1 λx H2=>ty σ H2 λy H3=>∃a H4,x=.ref a/\kE H3 a y v H4/\D.nx σ H4
section
variable {X:Cx}{o i e value:Expr}{pos pos' VL:Pos}{td ty tv:TE}
theorem cb (hu:X.A.units+1<cLine) (ho:PE X o td) (hi:PE X i ty) (hs:LN i):PE X (.Subscript o i pos) (Qg td ty):=by
 intro pins s σ H Q I h
 refine Ke PySem.F.slot_dict_getitem.lookup hs (aJ (ho pins s σ H _ I h) λu s1 ⟨x,H1,I1,rx,q1⟩=>aJ (hi pins s1 σ H1 _ I1 q1) λiv s2 ⟨y,H2,I2,ry,a,v,ex,g,q2⟩=>?_)
 subst ex
 obtain rfl:u=Value.ref a:=rx
 exact ⟨AF I2 g,D5 hu I2 g ry λw' s3 I3 kH=>⟨v,H2,I3,kH,q2⟩⟩
theorem ph (hu:X.A.units+1<cLine) (hi:PE X i ty) (ho:PE X o td):PC X .NotIn i o (Kg ty td):=by
 intro pins s σ H Q I h
 refine aJ (hi pins s σ H _ I h) λiv s1 ⟨y,H1,I1,ry,q1⟩=>aJ (ho pins s1 σ H1 _ I1 q1) λu s2 ⟨x,H2,I2,rx,a,ov,ex,g,q2⟩=>?_
 subst ex
 obtain rfl:u=Value.ref a:=rx
 exact Kd hu I2 g ry λs3 I3=>⟨.bl (!ov.isSome),H2,I3,rfl,q2⟩
theorem jj (hu:X.A.units+1<cLine) (ho:PE X o td) (hi:PE X i ty) (hv:PE X value tv) (hs:swapsWith value (some (.Subscript o i pos')) pos.line X.env=pure false) :
 PS X (.Assign [.Subscript o i pos'] value pos) (Qh td ty tv):=by
 intro pins s σ H D I h
 refine wpAny_Assign_Subscript (aJ (hv pins s σ H _ I h) λr s1 ⟨v,H1,I1,rv,q1⟩=>aJ (ho pins s1 σ H1 _ I1 q1) λu s2 ⟨x,H2,I2,rx,q2⟩=>aJ (hi pins s2 σ H2 _ I2 q2) λiv s3 ⟨y,H3,I3,ry,a,H4,ex,g,q3⟩=>?_) hs
 subst ex
 obtain rfl:u=Value.ref a:=rx
 exact D6 hu I3 g ry rv λs4 I4=>⟨σ,H4,I4,q3⟩
end
theorem yj {P:Program}{w:World}{H:Hp}(h:Heap) (hb:sysModules<h.objs.size):bH P w H (h.push { cls:=.type "dict",data:=.dict #[] }) h.objs.size (.dK []):=
 ⟨Nat.zero_le _,beq_eq_false_iff_ne.mpr (Ne.symm (Nat.ne_of_lt hb)),[],.nil,Heap.DictOf.new h⟩
def LO:TE:=λ_ H Q=>∀p,H p=none->Q (.ref p) (upd H p (.dK []))
section
variable {X:Cx}{pos:Pos}
theorem yk:PE X (.Dict [] [] pos) LO:=λpins s σ H Q I h=>
 wpAny_Dict_empty ⟨.ref s.heap.objs.size,_,I.laid (a:=s.heap.objs.size) (o:=.dK []) (t':=s.toks) (λ_ _ q=>Heap.get?_push_of_some _ q) (Nat.le_refl _) (yj s.heap I.big),rfl,h _ (I.hok.fresh (Nat.le_refl _))⟩
end
def yl:List (TE×TE)->St->Hp->(List (V×V)->Hp->Prop)->Prop
 | [],_,H,Q=>Q [] H
 | (tk,tv)::r,σ,H,Q=>tk σ H λx H1=>tv σ H1 λy H2=>yl r σ H2 λps H3=>Q ((x,y)::ps) H3
abbrev VV:List (V×V)->List (Value×Value)->Prop:=Paired λp q=>RelV p.1 q.1/\RelV p.2 q.2
def Ig (X:Cx) (pos:Pos) (keys:List (Option Expr)) (values:List Expr) (tT:List (TE×TE)):Prop:=
 ∀(pins:List (Addr×Obj)) (s:Shared) (σ:St) (H:Hp) (Q:List (V×V)->Hp->Prop),Inv X pins σ H s->yl tT σ H Q->
  wpAny (model X.prog X.w) X.A (evalPairs (pairTrees keys values X.env pos)) (λvs s'=>∃ps H',Inv X pins σ H' s'/\VV ps vs/\Q ps H') X.xe s
theorem Kh {X:Cx}{pos:Pos} : Ig X pos [] [] []:=λpins s σ H Q I h=>pairTrees_nil_walk ⟨[],H,I,.nil,h⟩
theorem nM {X:Cx}{pos:Pos}{k v:Expr}{ks:List (Option Expr)}{vs:List Expr}{tk tv:TE}{tT:List (TE×TE)}(hk:PE X k tk) (hv:PE X v tv) (hr:Ig X pos ks vs tT) :
 Ig X pos (some k::ks) (v::vs) ((tk,tv)::tT):=λpins s σ H Q I h=>
 pairTrees_cons_walk (aJ (hk pins s σ H _ I h) λu s1 ⟨x,H1,I1,rx,q1⟩=>aJ (hv pins s1 σ H1 _ I1 q1) λw2 s2 ⟨y,H2,I2,ry,q2⟩=>
  aJ (hr pins s2 σ H2 _ I2 q2) λws s3 ⟨ps,H3,I3,rel,q3⟩=>⟨(x,y)::ps,H3,I3,.cons ⟨rx,ry⟩ rel,q3⟩)
def de (kvs more:List (Key×V)):List (Key×V):=more.foldl (λacc kv=>putK acc kv.1 kv.2) kvs
theorem KV.merge:∀{more:List (Key×V)}{rs:List (Key×Value)}{kvs:List (Key×V)}{vs:List (Key×Value)},KV more rs->KV kvs vs->KV (de kvs more) (merged vs rs):=by
 intro more rs kvs vs r
 unfold KV at r
 induction r generalizing kvs vs with
 | nil=>intro q; exact q
 | @cons p q ps qs h t ih=>
  intro r0
  have e:KV (putK kvs p.1 p.2) (stored vs q.1 q.2):=by
   have:=r0.put p.1 h.2
   rw [← h.1]; exact this
  exact ih e
theorem jU:∀(more kvs:List (Key×V)),(de kvs more).length<=kvs.length+more.length
 | [],kvs=>by show kvs.length<=kvs.length+0; omega
 | p::r,kvs=>by
  have h1:=jU r (putK kvs p.1 p.2)
  have h2:=lY kvs p.1 p.2
  show (de (putK kvs p.1 p.2) r).length<=_
  rw [List.length_cons]; omega
theorem tU {P:Program}{w:World} : ∀{kvs:List (Key×V)}{ws:List (Value×Value)},VV (kvs.map λkv=>(kV kv.1,kv.2)) ws->∃rs,Carries (bb P w) ws rs/\KV kvs rs
 | [],_,r=>by rw [List.map_nil] at r; cases r; exact ⟨[],True.intro,.nil⟩
 | p::kvs,_,r=>by
  rw [List.map_cons] at r
  cases r with
  | @cons a b as bs h t=>
   obtain ⟨rs,c,q⟩:=tU (P:=P) (w:=w) t
   obtain ⟨b1,b2⟩:=b
   exact ⟨(p.1,b2)::rs,⟨lE h.1,rfl,c⟩,.cons ⟨rfl,h.2⟩ q⟩
def Qi (tT:List (TE×TE)):TE:=λσ H Q=>∀p,H p=none->yl tT σ (upd H p (.dK [])) λps H2=>H2 p=some (.dK [])/\∃kvs:List (Key×V),ps=kvs.map (λkv=>(kV kv.1,kv.2))/\kvs.length<=15/\Q (.ref p) (upd H2 p (.dK (de [] kvs)))
theorem Ki {X:Cx}{pos:Pos}{keys:List (Option Expr)}{values:List Expr}{tT:List (TE×TE)}(h:Ig X pos keys values tT) (cT:keys.all (·.isSome)=true) (hl:keys.length=values.length) (h0:keys≠[])
 (h15:keys.length<=15):PE X (.Dict keys values pos) (Qi tT):=by
 intro pins s σ H Q I q
 have hn:=I.hok.fresh (Nat.le_refl s.heap.objs.size)
 have I1:=I.laid (a:=s.heap.objs.size) (o:=.dK []) (h':=s.heap.push { cls:=.type "dict",data:=.dict #[] }) (t':=s.toks) (λ_ _ q=>Heap.get?_push_of_some _ q) (Nat.le_refl _) (yj s.heap I.big)
 refine wpAny_Dict_walk (knd:=bb X.prog X.w) cT hl h0 h15 (aJ (h pins _ σ _ _ I1 (q _ hn)) λws s2 ⟨ps,H2,I2,rel,e,kvs,ep,lk,q2⟩=>?_)
 subst ep
 obtain ⟨rs,c,rk⟩:=tU (P:=X.prog) (w:=X.w) rel
 obtain ⟨z,hd,vs0,r0,dd⟩:=tQ I2.hok e
 cases r0
 refine ⟨rs,c,dd,λh' tS hs=>⟨.ref s.heap.objs.size,_,?_,rfl,q2⟩⟩
 have hz:(de [] kvs).length<=sizeLine:=by
  have h1:=jU kvs []
  rw [List.length_nil] at h1
  rw [sizeLine_eq]; omega
 have he:∃q,h'.get? s.heap.objs.size=some q:=let ⟨q,_,_,hq,_⟩:=tS; ⟨q,hq⟩
 exact uZ I2 (by rw [e]; exact True.intro) hs he (pe hz hd (rk.merge .nil) tS)
structure M1 (X:Cx) (o:Expr) (m:Str) (apos:Pos) (e:Expr) (dE:Pos):Prop where
 base:attributeBase o m X.env (eval o X.env)=eval o X.env
 lF:((backTo dE (starEach [e] X.env)).all (λx=>!x.1) && (backToKw dE (keywordEach [] X.env)).all (λx=>x.1.isSome)
  && decide (([e]:List Expr).length+([]:List Keyword).length+(if ([]:List Keyword).isEmpty then 0 else 1)<30))=true
 line:(apos.endLine == dE.line)=true
 trees:backTo dE (starEach [e] X.env)=[(false,eval e X.env)]
structure M2 (X:Cx) (o:Expr) (m:Str) (apos:Pos) (e f:Expr) (dE:Pos):Prop where
 base:attributeBase o m X.env (eval o X.env)=eval o X.env
 lF:((backTo dE (starEach [e,f] X.env)).all (λx=>!x.1) && (backToKw dE (keywordEach [] X.env)).all (λx=>x.1.isSome)
  && decide (([e,f]:List Expr).length+([]:List Keyword).length+(if ([]:List Keyword).isEmpty then 0 else 1)<30))=true
 line:(apos.endLine == dE.line)=true
 trees:backTo dE (starEach [e,f] X.env)=[(false,eval e X.env),(false,eval f X.env)]
def LP (H:Hp) (a:Addr):Prop:=(∃kvs,Rd H a (.dK kvs))\/∃kvs,Rd H a (.dT kvs)
theorem D7 {X:Cx}{pins:List (Addr×Obj)}{σ:St}{H:Hp}{s:Shared}{a:Addr}(I:Inv X pins σ H s) (d:LP H a) :
 s.TypeIs (.ref a) "dict" /\ (∀b,Value.ref a=.ref b->∃ob,s.heap.get? b=some ob/\ob.dict=none)/\(a == sysModules)=false:=by
 rcases d with ⟨kvs,e⟩ | ⟨kvs,e⟩
 . obtain ⟨_,hd,vs,_,dd⟩:=iz I.hok e
   refine ⟨dd.typeIs,λb q=>?_,hd⟩
   cases q
   obtain ⟨ob,_,_,h1,h2,_⟩:=dd
   exact ⟨ob,h1,h2.2.1⟩
 . obtain ⟨_,hd,xs,_,dd⟩:=nL I.hok e
   refine ⟨dd.typeIs,λb q=>?_,hd⟩
   cases q
   obtain ⟨ob,_,_,h1,h2,_⟩:=dd
   exact ⟨ob,h1,h2.2.1⟩
section
variable {X:Cx}{pins:List (Addr×Obj)}{σ:St}{H:Hp}{s:Shared}{a:Addr}{y d:V}{u r:Value}{o:Option V}{A:Around}{E:Value->Shared->Prop}
theorem LQ {Q:Value->Shared->Prop}(hu:A.units+1<cLine) (I:Inv X pins σ H s) (g:cw H a y o) (ry:RelV y u) (h:∀w' s',Inv X pins σ H s'->RelV (o.getD .aS) w'->Q w' s') :
 wpAny (model X.prog X.w) A (call (.builtin "dict.get") [.ref a,u]) Q E s:=by
 rcases g with ⟨kvs,k,e,ey,l⟩ | ⟨kvs,k,b,e,ey,eb,l⟩
 . subst ey
   obtain ⟨z,hd,vs,rel,dd⟩:=iz I.hok e
   refine call_meetsIn PySem.F.slot_dict_get dd.typeIs PySem.F.entry_dict_get (PySem.F.args_dict_get_2 _ _) (meets_dict_get (bb X.prog X.w) a (lE ry) hd) ⟨_,dd.mapOf,h _ _ (I.tok _) ?_⟩
   rw [l]
   exact (rel.val k).getD rfl
 . subst ey
   cases (show u=Value.ref b from ry)
   obtain ⟨z,hd,xs,rel,dd⟩:=nL I.hok e
   refine call_meetsIn PySem.F.slot_dict_get dd.typeIs PySem.F.entry_dict_get (PySem.F.args_dict_get_2 _ _) (meetsH_dict_get (tupleKind (bb X.prog X.w)) a b hd) ⟨tupleKind_room_in1 hu,k,xs,ml I.hok eb,dd,h _ _ (I.tok _) ?_⟩
   rw [l]
   exact (rel.val k).getD rfl
theorem LR {Q:Value->Shared->Prop}(hu:A.units+1<cLine) (I:Inv X pins σ H s) (g:cw H a y o) (ry:RelV y u) (rd:RelV d r) (h:∀w' s',Inv X pins σ H s'->RelV (o.getD d) w'->Q w' s') :
 wpAny (model X.prog X.w) A (call (.builtin "dict.get") [.ref a,u,r]) Q E s:=by
 rcases g with ⟨kvs,k,e,ey,l⟩ | ⟨kvs,k,b,e,ey,eb,l⟩
 . subst ey
   obtain ⟨z,hd,vs,rel,dd⟩:=iz I.hok e
   refine call_meetsIn PySem.F.slot_dict_get dd.typeIs PySem.F.entry_dict_get (PySem.F.args_dict_get_3 _ _ _) (meets_dict_get_default (bb X.prog X.w) a (lE ry) hd r) ⟨_,dd.mapOf,h _ _ (I.tok _) ?_⟩
   rw [l]
   exact (rel.val k).getD rd
 . subst ey
   cases (show u=Value.ref b from ry)
   obtain ⟨z,hd,xs,rel,dd⟩:=nL I.hok e
   refine call_meetsIn PySem.F.slot_dict_get dd.typeIs PySem.F.entry_dict_get (PySem.F.args_dict_get_3 _ _ _) (meetsH_dict_get_default (tupleKind (bb X.prog X.w)) a b hd r) ⟨tupleKind_room_in1 hu,k,xs,ml I.hok eb,dd,h _ _ (I.tok _) ?_⟩
   rw [l]
   exact (rel.val k).getD rd
end
def LS (td ty:TE):TE:=λσ H Q=>td σ H λx H1=>∃a,x=.ref a/\LP H1 a/\ty σ H1 λy H2=>∃o,cw H2 a y o/\Q (o.getD .aS) H2
def LU (td ty tx:TE):TE:=λσ H Q=>td σ H λx H1=>∃a,x=.ref a/\LP H1 a/\ty σ H1 λy H2=>tx σ H2 λz H3=>∃o,cw H3 a y o/\Q (o.getD z) H3
section
variable {X:Cx}{o e f:Expr}{apos dE:Pos}{td ty tx:TE}
theorem Gr (hu:X.A.units+1<cLine) (ho:PE X o td) (he:PE X e ty) (m:M1 X o "get" apos e dE):PE X (.Call (.Attribute o "get" apos) [e] [] dE) (LS td ty):=by
 intro pins s σ H Q I h
 refine wpAny_Call_method m.base m.lF m.line PySem.F.plainAttrs_dict PySem.F.slot_dict_get PySem.F.type_dict_get (aJ (ho pins s σ H _ I h) λu s1 ⟨x,H1,I1,rx,a,ex,d,q1⟩=>?_)
 subst ex
 obtain rfl:u=Value.ref a:=rx
 obtain ⟨t1,t2,_⟩:=D7 I1 d
 refine ⟨t1,t2,?_⟩
 rw [m.trees]
 refine Calls.callWith_builtin rfl (Calls.evalArgs_plain (Calls.spliced_cons (aJ (he pins s1 σ H1 _ I1 q1) λiv s2 ⟨y,H2,I2,ry,ov,g,q2⟩=>Calls.spliced_nil ?_)))
 exact LQ hu I2 g ry λw' s3 I3 kH=>⟨_,H2,I3,kH,q2⟩
theorem sD (hu:X.A.units+1<cLine) (ho:PE X o td) (he:PE X e ty) (hf:PE X f tx) (m:M2 X o "get" apos e f dE):PE X (.Call (.Attribute o "get" apos) [e,f] [] dE) (LU td ty tx):=by
 intro pins s σ H Q I h
 refine wpAny_Call_method m.base m.lF m.line PySem.F.plainAttrs_dict PySem.F.slot_dict_get PySem.F.type_dict_get (aJ (ho pins s σ H _ I h) λu s1 ⟨x,H1,I1,rx,a,ex,d,q1⟩=>?_)
 subst ex
 obtain rfl:u=Value.ref a:=rx
 obtain ⟨t1,t2,_⟩:=D7 I1 d
 refine ⟨t1,t2,?_⟩
 rw [m.trees]
 refine Calls.callWith_builtin rfl (Calls.evalArgs_plain (Calls.spliced_cons (aJ (he pins s1 σ H1 _ I1 q1) λiv s2 ⟨y,H2,I2,ry,q2⟩=>
  Calls.spliced_cons (aJ (hf pins s2 σ H2 _ I2 q2) λfv s3 ⟨z,H3,I3,rz,ov,g,q3⟩=>Calls.spliced_nil ?_))))
 exact LR hu I3 g ry rz λw' s4 I4 kH=>⟨_,H3,I4,kH,q3⟩
end
section
variable {X:Cx}{pins:List (Addr×Obj)}{σ:St}{H:Hp}{s:Shared}{a:Addr}{kvs:List (Key×V)}{A:Around}{E:Value->Shared->Prop}
theorem Gs {Q:Value->Shared->Prop}(I:Inv X pins σ H s) (e:Rd H a (.dK kvs)) (h:∀p s',H p=none->Inv X pins σ (upd H p (.dK kvs)) s'->Q (.ref p) s'):wpAny (model X.prog X.w) A (call (.type "dict") [.ref a]) Q E s:=by
 obtain ⟨z,hd,vs,rel,dd⟩:=iz I.hok e
 refine kt_call_dict hd dd (by rw [← rel.length]; exact z) λh' tS hs=>?_
 refine h _ _ (I.hok.fresh (Nat.le_refl _)) (I.laid (a:=s.heap.objs.size) (o:=.dK kvs) (t':=s.toks) (λb q hq=>?_) (Nat.le_refl _) (pe z (beq_eq_false_iff_ne.mpr (Ne.symm (Nat.ne_of_lt I.big))) rel tS))
 exact (hs.2 b (Nat.ne_of_lt (Heap.lt_size hq))).trans (Heap.get?_push_of_some _ hq)
end
section
variable {X:Cx}{pins:List (Addr×Obj)}{σ:St}{H:Hp}{s:Shared}{a:Addr}{y:V}{u:Value}{A:Around}{E:Value->Shared->Prop}
end
end L2
namespace HT
open PySem PyProof.Rows
def lexLt:List Int->List Int->Bool
 | [],[]=>false
 | [],_::_=>true
 | _::_,[]=>false
 | x::xs,y::ys=>if x=y then lexLt xs ys else decide (x<y)
theorem CK (x y:Int) (xs ys:List Int):lexLt (x::xs) (y::ys)=if x=y then lexLt xs ys else decide (x<y):=rfl
section
open PySem.SeqAt
open PySem.AutoSeq1 (wpAny_loadPart')
open PySem.MeetsSeq PySem.MeetsSeq2 PySem.MeetsSeq3
end
section
variable {prog:Program}{w:World}{A:Around}{E:Value->Shared->Prop}{s:Shared}
theorem Kj {t b:Addr}{vs ws:List Value}{Q:Value->Shared->Prop}(ht:IsTup s.heap t vs.toArray) (hb:IsTup s.heap b ws.toArray) (hv:vs≠[])
 (h1:ws=[]->Q (.ref t) s) (h2:ws≠[]->Q (.ref s.heap.objs.size) { s with heap:=s.heap.push { cls:=.type "tuple",data:=.seq (vs++ws).toArray } })
 (hsz:vs.length+ws.length<=sizeLine):wpAny (model prog w) A (binaryOp .Add (.ref t) (.ref b)) Q E s:=by
 obtain ⟨⟨cls,dd,data,sl⟩,ho,hc,n,hd⟩:=id ht
 obtain ⟨⟨VN,Ih,data2,AY⟩,ym,iV,n2,hd2⟩:=id hb
 simp only at hc hd iV hd2
 subst hc hd iV hd2
 have e:vs.toArray++ws.toArray=(vs++ws).toArray:=by simp
 by_cases hw:ws=[]
 . exact concat_meets ⟨_,ho,rfl⟩ ⟨_,ym,rfl⟩ noFill_tuple_add seq_tuple_add PySem.F.slot_tuple_add PySem.F.entry_tuple_add (PySem.F.args_tuple_add_2 _ _)
    (tuple_addW1 t b vs.toArray ws.toArray n n2 dd Ih sl AY (by simpa using hv) (by simp [hw])) ⟨ho,ym,h1 hw⟩
 . refine concat_meets ⟨_,ho,rfl⟩ ⟨_,ym,rfl⟩ noFill_tuple_add seq_tuple_add PySem.F.slot_tuple_add PySem.F.entry_tuple_add (PySem.F.args_tuple_add_2 _ _)
    (tuple_addW2 t b vs.toArray ws.toArray n n2 dd Ih sl AY (by simpa using hv) (by simpa using hw) (by rw [List.size_toArray,List.size_toArray]; exact hsz)) ⟨ho,ym,?_⟩
   rw [e]
   exact h2 hw
def kJ (n d:Nat):Option Int->Nat
 | none=>d
 | some v=>if v<0 then (v+(n:Int)).toNat else min v.toNat n
end
end HT
namespace L2
open PySem PySem.Spec PyProof.Rows
abbrev TO:=St->Hp->(Option Int->Hp->Prop)->Prop
def PO (X:Cx) (e:Option Expr) (t:TO):Prop:=
 ∀(pins:List (Addr×Obj)) (s:Shared) (σ:St) (H:Hp) (Q:Option Int->Hp->Prop),Inv X pins σ H s->t σ H Q->
  wpAny (model X.prog X.w) X.A (evalPart e X.env) (λu s'=>∃o H',Inv X pins σ H' s'/\IsPart u o/\Q o H') X.xe s
def Kk:TO:=λ_ H Q=>Q none H
def Qj (t:TE):TO:=λσ H Q=>t σ H λx H1=>∃i,x=.int i/\Q (some i) H1
theorem intsAre_of {ns:List Int} : ∀{us:List Value},Vals (ns.map V.int) us->IntsAre us ns:=by
 induction ns with
 | nil=>intro us r; rw [List.map_nil] at r; cases r; exact .nil
 | cons n ns ih=>
  intro us r
  rw [List.map_cons] at r
  cases r with
  | cons r1 r2=>
   obtain ⟨t,e⟩:=r1
   subst e
   exact .cons n t (ih r2)
section
variable {X:Cx}{e:Expr}{te:TE}{lo hi:Option Expr}{tl th:TO}{pos p2:Pos}
theorem kg:PO X none Kk:=by
 intro pins s σ H Q I h
 rw [evalPart_none]
 exact wpAny_pure ⟨none,H,I,.none,h⟩
theorem kh (h:PE X e te):PO X (some e) (Qj te):=by
 intro pins s σ H Q I hw
 rw [evalPart_some]
 refine aJ (h pins s σ H _ I hw) λu s1 ⟨x,H1,I1,r1,q1⟩=>?_
 obtain ⟨i,rfl,q⟩:=q1
 obtain ⟨t,rfl⟩:=r1
 exact ⟨some i,H1,I1,.int i t,q⟩
def Ii (X:Cx) (r:V->Option Int->Option Int->Hp->VK->Prop):Prop:=
 ∀(pins:List (Addr×Obj)) (s:Shared) (σ:St) (H:Hp) (x:V) (v vl vu:Value) (lo hi:Option Int) (sl:Addr) (Q:VK),Inv X pins σ H s->RelV x v->s.heap.IsSliceOf sl vl vu .none->IsPart vl lo->IsPart vu hi->r x lo hi H Q->
  ∃T id,typeLookup (.type T) "__getitem__" = pure (some (.builtin id))/\s.TypeIs v T/\wpAny (model X.prog X.w) X.A (getItem v (.ref sl)) (EP X pins σ Q) X.xe s
def tSl (r:V->Option Int->Option Int->Hp->VK->Prop) (te:TE) (tl th:TO):TE:=λσ H Q=>te σ H λx H1=>tl σ H1 λl H2=>th σ H2 λu H3=>r x l u H3 Q
theorem jk {r:V->Option Int->Option Int->Hp->VK->Prop}(hr:Ii X r) (he:PE X e te) (hl:PO X lo tl) (hu:PO X hi th):PE X (.Subscript e (.Slice lo hi none p2) pos) (tSl r te tl th):=by
 intro pins s σ H Q I h
 refine Subscript_ (aJ (he pins s σ H _ I h) λv s1 ⟨x,H1,I1,r1,q1⟩=>?_)
 refine wpAny_Slice (aJ (hl pins s1 σ H1 _ I1 q1) λvl s2 ⟨l,H2,I2,pl,q2⟩=>aJ (hu pins s2 σ H2 _ I2 q2) λvu s3 ⟨u,H3,I3,pu,q3⟩=>?_)
 rw [evalPart_none]
 refine wpAny_pure ?_
 have I4:Inv X pins σ H3 { s3 with heap:=s3.heap.push { cls:=.type "slice",data:=.fields #[vl,vu,.none] } }:=I3.kept (t':=s3.toks) λb ob q=>Heap.get?_push_of_some _ q
 obtain ⟨T,id,hT,ht,hg⟩:=hr pins { s3 with heap:=s3.heap.push { cls:=.type "slice",data:=.fields #[vl,vu,.none] } } σ H3 x v vl vu l u s3.heap.objs.size Q I4 r1 (Heap.IsSliceOf.new ..) pl pu q3
 show wpAny (model X.prog X.w) X.A (subscriptTail e (.Slice lo hi none p2) v (.ref s3.heap.objs.size)) (EP X pins σ Q) X.xe { s3 with heap:=s3.heap.push { cls:=.type "slice",data:=.fields #[vl,vu,.none] } }
 exact tail_any (ops:=[.ref s3.heap.objs.size,v]) ht hT hg (by with_unfolding_all rfl)
def CM (xs:List V) (lo hi:Option Int):List V:=(xs.drop (HT.kJ xs.length 0 lo)).take (HT.kJ xs.length xs.length hi-HT.kJ xs.length 0 lo)
theorem AG (xs:List V) (lo hi:Option Int):(CM xs lo hi).length<=xs.length:=by
 unfold CM
 rw [List.length_take,List.length_drop]
 omega
def Qk (K:W.Frag):R2:=λx y H Q=>∃a b xs ys,x=.ref a/\y=.ref b/\aR K H a xs/\aR K H b ys/\xs≠[]/\xs.length+ys.length<=sizeLine/\
 (ys=[]->Q (.ref a) H)/\(ys≠[]->∀p,H p=none->Q (.ref p) (upd H p (.tup (xs++ys))))
theorem Vals.qo {xs:List V}{us:List Value}(r:Vals xs us):us=[] ↔ xs=[]:=by
 cases r with
 | nil=>simp
 | cons _ _=>simp
theorem Kl:d6 X (binaryOp .Add) (Qk X.K):=by
 intro pins s σ H x y v u Q I rx ry h
 obtain ⟨a,b,xs,ys,rfl,rfl,ha,hb,hx,hz,q1,q2⟩:=h
 cases rx
 cases ry
 obtain ⟨its,r1,p1,_⟩:=I.tuple ha
 obtain ⟨lZ,r2,p2,_⟩:=I.tuple hb
 refine HT.Kj p1 p2 (λz=>hx (r1.qo.mp z)) (λz=>⟨.ref a,H,I,rfl,q1 (r2.qo.mp z)⟩) (λz=>?_) (by rw [← r1.length,← r2.length]; exact hz)
 refine ⟨.ref s.heap.objs.size,_,I.laid (t':=s.toks) (o:=.tup (xs++ys)) (λb ob q=>Heap.get?_push_of_some _ q) (Nat.le_refl _) ?_,rfl,q2 (λw=>z (r2.qo.mpr w)) _ (I.hok.fresh (Nat.le_refl _))⟩
 exact ⟨by rw [List.length_append]; exact hz,_,r1.append r2,IsTup.new _ _⟩
end
end L2
namespace L2
open PySem PySem.Spec PyProof.Rows
def tV (n:Nat) (i:Int):Option Nat:=if 0<=i then (if i<n then some i.toNat else none) else if -(n:Int)<=i then some (i+n).toNat else none
def iq {α:Type}(xs:List α) (i:Int):Option α:=(tV xs.length i).bind λj=>xs[j]?
theorem AZ {n:Nat}{i:Int}{j:Nat}(h:tV n i=some j):seqIndex? i n=some j/\j<n /\ -(n:Int)<=i/\i<n:=by
 unfold tV at h
 by_cases h0:0<=i
 . rw [if_pos h0] at h
   by_cases h1:i<n
   . rw [if_pos h1] at h
     have e:i.toNat=j:=Option.some.inj h
     exact ⟨by rw [seqIndex_of h0 h1,e],by omega,by omega,h1⟩
   . rw [if_neg h1] at h; cases h
 . rw [if_neg h0] at h
   by_cases h1 : -(n:Int)<=i
   . rw [if_pos h1] at h
     have e:(i+n).toNat=j:=Option.some.inj h
     exact ⟨by rw [seqIndex_neg (by omega) h1,e],by omega,h1,by omega⟩
   . rw [if_neg h1] at h; cases h
theorem u7 {α:Type}{xs:List α}{i:Int}{v:α}(h:iq xs i=some v):∃j,seqIndex? i xs.length=some j/\xs[j]?=some v/\j<xs.length /\ -(xs.length:Int)<=i/\i<xs.length:=by
 unfold iq at h
 cases e:tV xs.length i with
 | none=>rw [e] at h; cases h
 | some j=>
  rw [e] at h
  obtain ⟨h1,h2,h3,h4⟩:=AZ e
  exact ⟨j,h1,h,h2,h3,h4⟩
theorem cV {α:Type}{xs:List α}{j:Nat}{v:α}(h:xs[j]?=some v):iq xs (j:Int)=some v:=by
 have hj:j<xs.length:=(List.getElem?_eq_some_iff.mp h).1
 have e:tV xs.length (j:Int)=some j:=by
  unfold tV
  rw [if_pos (by omega),if_pos (by omega)]; simp
 unfold iq; rw [e]; exact h
theorem yn {α:Type}(xs:List α) (v:α):iq (xs++[v]) (-1)=some v:=by
 have hl:(xs++[v]).length=xs.length+1:=by simp
 have e:tV (xs++[v]).length (-1)=some xs.length:=by
  unfold tV
  rw [hl,if_neg (by decide),if_pos (by omega)]
  congr 1
  omega
 unfold iq
 rw [e]
 show (xs++[v])[xs.length]?=some v
 simp
def Km (b:Expr):Prop:=∀o i,subscripted b false o i=operate [o,i] (getItem o i)
def tW (X:Cx) (r:R2):Prop:=
 ∀(value slice:Expr) (pins:List (Addr×Obj)) (s:Shared) (σ:St) (H:Hp) (x y:V) (v u:Value) (Q:VK),Inv X pins σ H s->RelV x v->RelV y u->r x y H Q->
  subscripted slice false v u=operate [v,u] (getItem v u)->wpAny (model X.prog X.w) X.A (subscriptTail value slice v u) (EP X pins σ Q) X.xe s
def SA (X:Cx) (id:String) (r:V->List V->Hp->VK->Prop):Prop:=
 ∀(pins:List (Addr×Obj)) (s:Shared) (σ:St) (H:Hp) (x:V) (xs:List V) (v:Value) (us:List Value) (Q:VK),Inv X pins σ H s->RelV x v->Vals xs us->r x xs H Q->
  wpAny (model X.prog X.w) X.A (call (.builtin id) (v::us)) (EP X pins σ Q) X.xe s
section
variable {X:Cx}{a b:Expr}{ta tb:TE}{pos:Pos}
theorem tW.or {r r':R2}(h:tW X r) (h':tW X r'):tW X (λx y H Q=>r x y H Q\/r' x y H Q):=by
 intro value slice pins s σ H x y v u Q I rx ry q hs
 rcases q with q | q
 . exact h value slice pins s σ H x y v u Q I rx ry q hs
 . exact h' value slice pins s σ H x y v u Q I rx ry q hs
theorem bz {r:R2}(hr:tW X r) (ha:PE X a ta) (hb:PE X b tb) (hs:Km b):PE X (.Subscript a b pos) (vT r ta tb):=by
 intro pins s σ H Q I h
 exact Subscript_ (Gh ha hb I h λv u s2 x y H2 I2 rx ry q=>hr a b pins s2 σ H2 x y v u Q I2 rx ry q (hs _ _))
def jl (K:W.Frag):R2:=λx y H Q=>∃p xs i v,x=.ref p/\y=.int i/\aq K H p xs/\iq xs i=some v/\Q v H
def pj (K:W.Frag):R2:=λx y H Q=>∃p xs i v,x=.ref p/\y=.int i/\aR K H p xs/\iq xs i=some v/\Q v H
def LV:R2:=λx y H Q=>∃z i c,x=.str z/\y=.int i/\z.length<=sizeLine/\iq z.cps.toList i=some c/\Q (.str ⟨#[c]⟩) H
theorem bJ:tW X (jl X.K):=by
 intro value slice pins s σ H x y v u Q I rx ry h hs
 obtain ⟨p,xs,i,z,rfl,rfl,hq,he,q⟩:=h
 cases rx
 obtain ⟨t,rfl⟩:=ry
 obtain ⟨its,r,pl,hz⟩:=I.list hq
 obtain ⟨j,h1,h2,h3,h4,h5⟩:=u7 he
 obtain ⟨w,ew,kH⟩:=r.get h2
 have hl:=r.length
 have hn:=mj
 have fin:EP X pins σ Q w s:=⟨z,H,I,kH,q⟩
 by_cases h0:0<=i
 . have hj:i.toNat=j:=by
    rw [seqIndex_of h0 h5] at h1
    exact Option.some.inj h1
   exact item_listR pl.isList h0 (by omega) (by rw [hj]; simpa using ew) fin hs
 . have hj:(i+(its.toArray.size:Int)).toNat=j:=by
    rw [seqIndex_neg (by omega) h4] at h1
    rw [List.size_toArray,← hl]
    exact Option.some.inj h1
   exact subscriptTail_builtinR (x:=w) pl.isList.typeIs slot_list_getitem.lookup
    (wpAny_getItem_list_neg (Q:=λr s'=>r=w/\EP X pins σ Q r s') pl.isList (by omega) (by rw [List.size_toArray] <;> omega) (by omega) (by rw [hj]; simpa using ew) ⟨rfl,fin⟩) hs
theorem mm:tW X (pj X.K):=by
 intro value slice pins s σ H x y v u Q I rx ry h hs
 obtain ⟨p,xs,i,z,rfl,rfl,hq,he,q⟩:=h
 cases rx
 obtain ⟨t,rfl⟩:=ry
 obtain ⟨its,r,pl,hz⟩:=I.tuple hq
 obtain ⟨j,h1,h2,h3,h4,h5⟩:=u7 he
 obtain ⟨w,ew,kH⟩:=r.get h2
 have hl:=r.length
 have hn:=mj
 have fin:EP X pins σ Q w s:=⟨z,H,I,kH,q⟩
 exact subscriptTail_builtinR (x:=w) pl.typeIs slot_tuple_getitem.lookup
  (getItem_tuple (j:=j) (Q:=λr s'=>r=w/\EP X pins σ Q r s') pl (by omega) (by omega) (by rw [List.size_toArray,← hl]; exact h1) (by simpa using ew) ⟨rfl,fin⟩) hs
theorem tY:tW X LV:=by
 intro value slice pins s σ H x y v u Q I rx ry h hs
 obtain ⟨z,i,c,rfl,rfl,hz,he,q⟩:=h
 obtain ⟨t,rfl⟩:=rx
 obtain ⟨t',rfl⟩:=ry
 obtain ⟨j,h1,h2,h3,h4,h5⟩:=u7 he
 have hl:z.cps.toList.length=z.length:=by simp [Str.length]
 rw [hl] at h1 h4 h5
 have hn:=mj
 exact tail_any (typeIs_str s z t) slot_str_getitem.lookup (getItem_str (c:=c) (by
  have e1:decide (i < -(2 ^ 63:Int))=false:=decide_eq_false (by omega)
  have e2:decide (i≥2 ^ 63)=false:=decide_eq_false (by omega)
  rw [e1,e2,Bool.or_false]) (by rw [h1]; simpa using h2) ⟨.str ⟨#[c]⟩,H,I.tok _,⟨_,rfl⟩,q⟩) hs
def SD (K:W.Frag):R2:=λx y H Q=>jl K x y H Q\/pj K x y H Q\/LV x y H Q
theorem pk:tW X (SD X.K):=bJ.or (mm.or tY)
theorem CN (its:List Value) (n j:Nat) (u:Value):Obj.mapSeq (·.setIfInBounds j u) { cls:=.type "list",data:=.seq its.toArray n } = { cls:=.type "list",data:=.seq (its.set j u).toArray n }:=by
 simp [Obj.mapSeq]
theorem Inv.lst {pins:List (Addr×Obj)}{σ:St}{H:Hp}{s:Shared}{p:Addr}{xs:List V}(I:Inv X pins σ H s) (h:H p=some (.lst xs)) :
 ∃(its:List Value) (n:Nat),Vals xs its/\s.heap.get? p=some { cls:=.type "list",data:=.seq its.toArray n } /\ xs.length<=sizeLine:=by
 obtain ⟨z,its,n,r,e⟩:=I.hok p _ h
 exact ⟨its,n,r,e,z⟩
theorem Inv.LW {pins:List (Addr×Obj)}{σ:St}{H:Hp}{s:Shared}{p:Addr}{xs ys:List V}{its its':List Value}{n n':Nat}{f:Obj->Obj}(I:Inv X pins σ H s) (h:H p=some (.lst xs))
 (ho:s.heap.get? p=some { cls:=.type "list",data:=.seq its.toArray n }) (hf:f { cls:=.type "list",data:=.seq its.toArray n } = { cls:=.type "list",data:=.seq its'.toArray n' }) (r:Vals ys its') (hz:ys.length<=sizeLine) (t:Nat) :
 Inv X pins σ (upd H p (.lst ys)) { s with heap:=s.heap.update p f,toks:=t }:=by
 have e:(s.heap.update p f).get? p=some { cls:=.type "list",data:=.seq its'.toArray n' }:=by
  rw [Heap.get?_update_self f ho (by rw [hf] <;> rfl),hf]
 refine I.write (x:=p) (e:=p) (by rw [h]; trivial) (.inl rfl) (λb u hb q=>(Heap.get?_update_other _ _ (Ne.symm hb)).trans q) ⟨_,e⟩ ?_
 exact ⟨hz,its',n',r,e⟩
def Ql:V->V->V->Hp->(Hp->Prop)->Prop:=λo i v H Q=>∃p xs k j,o=.ref p/\i=.int k/\H p=some (.lst xs)/\tV xs.length k=some j/\Q (upd H p (.lst (xs.set j v)))
theorem set_list:Ly X Ql:=by
 intro pins s σ H o i v ov iv u Q I ro ri rv h
 obtain ⟨p,xs,k,j,rfl,rfl,hp,hj,q⟩:=h
 cases ro
 obtain ⟨t,rfl⟩:=ri
 obtain ⟨its,n,r,ho,hz⟩:=I.lst hp
 obtain ⟨h1,h2,h3,h4⟩:=AZ hj
 have hl:=r.length
 have hn:=mj
 have I':Inv X pins σ (upd H p (.lst (xs.set j v))) { s with heap:=s.heap.update p (Obj.mapSeq (·.setIfInBounds j u)) } :=
  I.LW hp ho (CN its n j u) (r.set rv j) (by rw [List.length_set]; exact hz) s.toks
 by_cases h0:0<=k
 . have hk:k.toNat=j:=by
    rw [seqIndex_of h0 h4] at h1
    exact Option.some.inj h1
   exact W.ki_setAt ho h0 (by omega) (by rw [List.size_toArray,← hl]; exact h4) (by rw [hk]; exact ⟨_,I',q⟩)
 . have hk:(k+(its.toArray.size:Int)).toNat=j:=by
    rw [seqIndex_neg (by omega) h3] at h1
    rw [List.size_toArray,← hl]
    exact Option.some.inj h1
   exact W.ki_setBack ho (by omega) (by rw [List.size_toArray,← hl]; exact h3) (by omega) (by rw [hk]; exact ⟨_,I',q⟩)
theorem yo (lo hi:Option Int) (n:Nat):(sliceBounds lo hi none n).1=((HT.kJ n 0 lo:Nat):Int)/\(sliceBounds lo hi none n).2.1=((HT.kJ n n hi:Nat):Int)/\(sliceBounds lo hi none n).2.2=1:=by
 refine ⟨?_,?_,rfl⟩
 . cases lo with
   | none=>simp [sliceBounds,HT.kJ]
   | some i=>
    simp only [sliceBounds,HT.kJ,Option.getD_none,show (1:Int)>0 by decide,if_true]
    by_cases h:i<0
    . simp only [h,if_true] <;> omega
    . simp only [h,if_false] <;> omega
 . cases hi with
   | none=>simp [sliceBounds,HT.kJ]
   | some i=>
    simp only [sliceBounds,HT.kJ,Option.getD_none,show (1:Int)>0 by decide,if_true]
    by_cases h:i<0
    . simp only [h,if_true] <;> omega
    . simp only [h,if_false] <;> omega
theorem xu (its:List Value) (lo hi:Option Int):slicePick its.toArray lo hi none=((its.drop (HT.kJ its.length 0 lo)).take (HT.kJ its.length its.length hi-HT.kJ its.length 0 lo)).toArray:=by
 obtain ⟨h1,h2,h3⟩:=yo lo hi its.toArray.size
 unfold slicePick
 rw [h1,h2,h3]
 simp only [sliceRange_one,pick_run,List.size_toArray] <;> rfl
def VO (K:W.Frag):V->Option Int->Option Int->Hp->VK->Prop:=λx lo hi H Q=>∃a xs,x=.ref a/\aq K H a xs/\∀p,H p=none->Q (.ref p) (upd H p (.lst (CM xs lo hi)))
theorem aag:Ii X (VO X.K):=by
 intro pins s σ H x v vl vu lo hi sl Q I rx hs pl pu h
 obtain ⟨a,xs,rfl,hx,q⟩:=h
 cases rx
 obtain ⟨its,r,ht,hz⟩:=I.list hx
 have hlen:=r.length
 refine ⟨"list",_,slot_list_getitem.lookup,ht.isList.typeIs,?_⟩
 refine wpAny_getItem_list_slice ht.isList hs pl pu .none (by simp) ?_ (by rw [List.size_toArray] <;> omega)
 rw [xu,← hlen]
 refine ⟨.ref s.heap.objs.size,_,I.laid (t':=s.toks) (o:=.lst (CM xs lo hi)) (λb ob q=>Heap.get?_push_of_some _ q) (Nat.le_refl _) ?_,rfl,q _ (I.hok.fresh (Nat.le_refl _))⟩
 exact ⟨Nat.le_trans (AG xs lo hi) hz,_,0,(r.drop (HT.kJ xs.length 0 lo)).take (HT.kJ xs.length xs.length hi-HT.kJ xs.length 0 lo),Heap.get?_push_size _ rfl⟩
def iA:V->Bool
 | .aS=>true
 | .bl _=>true
 | .int _=>true
 | .str _=>true
 | _=>false
def ir:V->V->Bool
 | .aS,.aS=>true
 | .bl a,.bl b=>a == b
 | .bl a,.int b=>(if a then 1 else 0) == b
 | .int a,.bl b=>a == (if b then 1 else 0)
 | .int a,.int b=>a == b
 | .str a,.str b=>a == b
 | _,_=>false
theorem pq {A:Around}{s:Shared}{y x:V}{u v:Value}(ry:RelV y u) (rx:RelV x v) (fy:iA y=true) (fx:iA x=true):SeqAt.EqAt A s u v (ir y x):=by
 cases y with
 | aS=>
  cases ry
  cases x with
  | aS=>cases rx; exact SeqAt.EqAt.same _
  | bl b=>cases rx; exact SeqAt.EqAt.none_bool b
  | int b=>obtain ⟨t,rfl⟩:=rx; exact SeqAt.EqAt.none_int b t
  | str b=>obtain ⟨t,rfl⟩:=rx; exact SeqAt.EqAt.none_str b t
  | _=>exact absurd (show false=true from fx) Bool.false_ne_true
 | bl a=>
  cases ry
  cases x with
  | aS=>cases rx; exact SeqAt.EqAt.bool_none a
  | bl b=>cases rx; exact SeqAt.EqAt.bool_bool a b
  | int b=>obtain ⟨t,rfl⟩:=rx; exact SeqAt.EqAt.bool_int a b t
  | str b=>obtain ⟨t,rfl⟩:=rx; exact SeqAt.EqAt.bool_str a b t
  | _=>exact absurd (show false=true from fx) Bool.false_ne_true
 | int a=>
  obtain ⟨t',rfl⟩:=ry
  cases x with
  | aS=>cases rx; exact SeqAt.EqAt.int_none a t'
  | bl b=>cases rx; exact SeqAt.EqAt.int_bool a t' b
  | int b=>obtain ⟨t,rfl⟩:=rx; exact SeqAt.EqAt.int_int a t' b t
  | str b=>obtain ⟨t,rfl⟩:=rx; exact SeqAt.EqAt.int_str a t' b t
  | _=>exact absurd (show false=true from fx) Bool.false_ne_true
 | str a=>
  obtain ⟨t',rfl⟩:=ry
  cases x with
  | aS=>cases rx; exact SeqAt.EqAt.str_none a t'
  | bl b=>cases rx; exact SeqAt.EqAt.str_bool a t' b
  | int b=>obtain ⟨t,rfl⟩:=rx; exact SeqAt.EqAt.str_int a t' b t
  | str b=>obtain ⟨t,rfl⟩:=rx; exact SeqAt.EqAt.str_str a t' b t
  | _=>exact absurd (show false=true from fx) Bool.false_ne_true
 | _=>exact absurd (show false=true from fy) Bool.false_ne_true
def kK (x:V) (u:Value):Bool:=match u with
 | .none=>ir .aS x
 | .bool b=>ir (.bl b) x
 | .int i _=>ir (.int i) x
 | .str z _=>ir (.str z) x
 | _=>false
theorem D8 {x y:V}{u:Value}(r:RelV y u) (f:iA y=true):kK x u=ir y x:=by
 cases y with
 | aS=>cases r; rfl
 | bl b=>cases r; rfl
 | int i=>obtain ⟨t,rfl⟩:=r; rfl
 | str z=>obtain ⟨t,rfl⟩:=r; rfl
 | _=>exact absurd (show false=true from f) Bool.false_ne_true
theorem mn {x:V} : ∀{xs:List V}{us:List Value},Vals xs us->xs.all iA=true->us.any (kK x)=xs.any λy=>ir y x
 | _,_,.nil,_=>rfl
 | y::xs,u::us,.cons r t,f=>by
  rw [List.all_cons,Bool.and_eq_true] at f
  rw [List.any_cons,List.any_cons,D8 r f.1,mn t f.2]
theorem kQ {A:Around}{s:Shared}{x:V}{v:Value}(rx:RelV x v) (fx:iA x=true):∀{xs:List V}{us:List Value},Vals xs us->xs.all iA=true->∀u∈us,SeqAt.EqAt A s u v (kK x u)
 | _,_,.nil,_=>λu hu=>by cases hu
 | y::xs,u::us,.cons r t,f=>λu' hu=>by
  rw [List.all_cons,Bool.and_eq_true] at f
  rcases List.mem_cons.mp hu with rfl | hu
  . rw [D8 r f.1]; exact pq r rx f.1 fx
  . exact kQ rx fx t f.2 u' hu
def px (x:V) (xs:List V):Bool:=xs.any λy=>ir y x
def Ij (K:W.Frag) (neg:Bool):R2:=λx y H Q=>∃p xs,y=.ref p/\(aq K H p xs\/aR K H p xs)/\iA x=true/\xs.all iA=true/\Q (.bl (if neg then !px x xs else px x xs)) H
theorem lG:d6 X (compareOp .In) (Ij X.K false):=by
 intro pins s σ H x y v u Q I rx ry h
 obtain ⟨p,xs,rfl,hq,fx,fs,q⟩:=h
 cases ry
 rcases hq with hq | hq
 . obtain ⟨its,r,pl,hz⟩:=I.list hq
   refine SeqAt.in_listAt (kK x) pl.isList (λw hw=>kQ rx fx r fs w (by simpa using hw)) ⟨.bl _,H,I,rfl,?_⟩
   rw [show its.toArray.any (kK x)=its.any (kK x) by simp,mn r fs]
   exact q
 . obtain ⟨its,r,pl,hz⟩:=I.tuple hq
   refine SeqAt.in_tupleAt (kK x) pl (λw hw=>kQ rx fx r fs w (by simpa using hw)) ⟨.bl _,H,I,rfl,?_⟩
   rw [show its.toArray.any (kK x)=its.any (kK x) by simp,mn r fs]
   exact q
theorem yp:d6 X (compareOp .NotIn) (Ij X.K true):=by
 intro pins s σ H x y v u Q I rx ry h
 obtain ⟨p,xs,rfl,hq,fx,fs,q⟩:=h
 cases ry
 rcases hq with hq | hq
 . obtain ⟨its,r,pl,hz⟩:=I.list hq
   refine SeqAt.notIn_listAt (kK x) pl.isList (λw hw=>kQ rx fx r fs w (by simpa using hw)) ⟨.bl _,H,I,rfl,?_⟩
   rw [show its.toArray.any (kK x)=its.any (kK x) by simp,mn r fs]
   exact q
 . obtain ⟨its,r,pl,hz⟩:=I.tuple hq
   refine SeqAt.notIn_tupleAt (kK x) pl (λw hw=>kQ rx fx r fs w (by simpa using hw)) ⟨.bl _,H,I,rfl,?_⟩
   rw [show its.toArray.any (kK x)=its.any (kK x) by simp,mn r fs]
   exact q
theorem bZ:eB X (.builtin "len") (λxs H Q=>∃p ys,xs=[.ref p]/\(aq X.K H p ys\/aR X.K H p ys)/\Q (.int ys.length) H):=by
 intro pins s σ H xs us Q I r h
 obtain ⟨p,ys,rfl,hq,q⟩:=h
 obtain ⟨u,rfl,rx⟩:=vals1 r
 cases rx
 have hn:=mj
 rcases hq with hq | hq
 . obtain ⟨its,r',pl,hz⟩:=I.list hq
   have hlen:=r'.length
   exact Calls.call_len_list pl.isList (by simp only [List.size_toArray] <;> omega) ⟨.int ys.length,H,I.tok _,⟨s.toks+1,by rw [List.size_toArray,hlen]⟩,q⟩
 . obtain ⟨its,r',pl,hz⟩:=I.tuple hq
   have hlen:=r'.length
   exact len_tuple pl (by simp only [List.size_toArray] <;> omega) ⟨.int ys.length,H,I.tok _,⟨s.toks+1,by rw [List.size_toArray,hlen]⟩,q⟩
theorem d5:eB X (.type "list") (λxs H Q=>∃p ys,xs=[.ref p]/\(aq X.K H p ys\/aR X.K H p ys)/\∀l,H l=none->Q (.ref l) (upd H l (.lst ys))):=by
 intro pins s σ H xs us Q I r h
 obtain ⟨p,ys,rfl,hq,q⟩:=h
 obtain ⟨u,rfl,rx⟩:=vals1 r
 cases rx
 have fin:∀(its:List Value),Vals ys its->ys.length<=sizeLine->∀(h':Heap) (c':Nat),(∀b o',s.heap.get? b=some o'->h'.get? b=some o')->
  h'.get? s.heap.objs.size=some { cls:=.type "list",dict:=none,data:=.seq its.toArray c',slots:=#[] } -> EP X pins σ Q (.ref s.heap.objs.size) { s with heap:=h' }:=λits r' hz h' c' kp e=>
  ⟨.ref s.heap.objs.size,_,I.laid (t':=s.toks) kp (Nat.le_refl _) (show bH X.prog X.w _ h' _ (.lst ys) from ⟨hz,its,c',r',e⟩),rfl,q _ (I.hok.fresh (Nat.le_refl _))⟩
 rcases hq with hq | hq
 . obtain ⟨its,r',pl,hz⟩:=I.list hq
   have hlen:=r'.length
   obtain ⟨o,ho,hc,n,hd⟩:=pl.isList
   exact call_list_seq p (.inl rfl) ho hc hd (λh' c' kp e=>fin its r' hz h' c' kp e) (by simp only [List.size_toArray] <;> omega)
 . obtain ⟨its,r',pl,hz⟩:=I.tuple hq
   have hlen:=r'.length
   obtain ⟨o,ho,hc,n,hd⟩:=pl
   exact call_list_seq p (.inr rfl) ho hc hd (λh' c' kp e=>fin its r' hz h' c' kp e) (by simp only [List.size_toArray] <;> omega)
theorem jV:eB X (.type "tuple") (λxs H Q=>∃p ys,xs=[.ref p]/\((aq X.K H p ys/\∀l,H l=none->Q (.ref l) (upd H l (.tup ys)))\/(aR X.K H p ys/\Q (.ref p) H))):=by
 intro pins s σ H xs us Q I r h
 obtain ⟨p,ys,rfl,h⟩:=h
 obtain ⟨u,rfl,rx⟩:=vals1 r
 cases rx
 rcases h with ⟨hq,q⟩ | ⟨hq,q⟩
 . obtain ⟨its,r',pl,hz⟩:=I.list hq
   have hlen:=r'.length
   refine call_tuple_list pl.isList (λh' kp=>?_) (by simp only [List.size_toArray] <;> omega)
   have I1:Inv X pins σ H { s with heap:=h' }:=I.kept (t':=s.toks) kp
   have I2:Inv X pins σ (upd H h'.objs.size (.tup ys)) { s with heap:=h'.push { cls:=.type "tuple",data:=.seq its.toArray } } :=
    I1.laid (t':=s.toks) (λb o e=>Heap.get?_push_of_some _ e) (Nat.le_refl _) (show bH X.prog X.w _ _ _ (.tup ys) from ⟨hz,its,r',IsTup.new _ _⟩)
   exact ⟨.ref h'.objs.size,_,I2,rfl,q _ (I1.hok.fresh (Nat.le_refl _))⟩
 . obtain ⟨its,r',pl,hz⟩:=I.tuple hq
   exact call_tuple_same pl ⟨.ref p,H,I,rfl,q⟩
def LX (K:W.Frag) (T:String) (x:V) (H:Hp):Prop:=match x with
 | .str _=>T = "str"
 | .int _=>T = "int"
 | .ref p=>(T = "list" /\ ∃xs,aq K H p xs)\/(T = "tuple" /\ ∃o,K.lookup p=some o/\o.cls=.type "tuple" /\ o.dict=none)\/
  (T = "dict" /\ ((∃kvs,H p=some (.dK kvs))\/∃kvs,H p=some (.dT kvs)))\/(T = "set" /\ ∃S n,H p=some (.set S n))
 | _=>False
theorem yq {pins:List (Addr×Obj)}{σ:St}{H:Hp}{s:Shared}{T:String}{x:V}{v:Value}(I:Inv X pins σ H s) (r:RelV x v) (ty:LX X.K T x H) :
 s.TypeIs v T/\∀a,v=.ref a->∃ob,s.heap.get? a=some ob/\ob.dict=none:=by
 cases x with
 | str z=>
  obtain ⟨t,rfl⟩:=r
  cases (show T = "str" from ty)
  exact ⟨typeIs_str s z t,λ_ e=>nomatch e⟩
 | int i=>
  obtain ⟨t,rfl⟩:=r
  cases (show T = "int" from ty)
  exact ⟨typeIs_int s i t,λ_ e=>nomatch e⟩
 | ref p=>
  cases r
  rcases ty with ⟨rfl,xs,hq⟩ | ⟨rfl,o,hk,hc,hd⟩ | ⟨rfl,hk⟩ | ⟨rfl,S,n,hk⟩
  . obtain ⟨its,_,pl,_⟩:=I.list hq
    refine ⟨pl.isList.typeIs,λa e=>?_⟩
    cases e
    obtain ⟨o,n,e,c,hd,_⟩:=pl
    exact ⟨o,e,hd⟩
  . refine ⟨⟨o,I.gd p o hk,hc⟩,λa e=>?_⟩
    cases e
    exact ⟨o,I.gd _ o hk,hd⟩
  . have z:∃o,s.heap.get? p=some o/\o.ExactDict:=by
     rcases hk with ⟨kvs,hk⟩ | ⟨kvs,hk⟩
     . obtain ⟨_,_,_,_,o,_,_,e,ex,_⟩:=I.hok p _ hk
       exact ⟨o,e,ex⟩
     . obtain ⟨_,_,_,_,o,_,_,e,ex,_⟩:=I.hok p _ hk
       exact ⟨o,e,ex⟩
    obtain ⟨o,e,ex⟩:=z
    refine ⟨⟨o,e,ex.1⟩,λa e2=>?_⟩
    cases e2
    exact ⟨o,e,ex.2.1⟩
  . obtain ⟨o,_,_,_,e,ex,_⟩:=I.hok p _ hk
    refine ⟨⟨o,e,ex.1⟩,λa e2=>?_⟩
    cases e2
    exact ⟨o,e,ex.2.1⟩
 | _=>exact False.elim ty
def VP (K:W.Frag) (T:String) (r:V->List V->Hp->VK->Prop) (to:TE):TE:=λσ H Q=>to σ H λx H1=>LX K T x H1/\r x [] H1 Q
def tBM (K:W.Frag) (T:String) (r:V->List V->Hp->VK->Prop) (to:TE) (t:TA):TE:=λσ H Q=>to σ H λx H1=>LX K T x H1/\t σ H1 λxs H2=>r x xs H2 Q
variable {o e:Expr}{es:List Expr}{to:TE}{t:TA}{name:Str}{apos dE:Pos}{T id:String}{r:V->List V->Hp->VK->Prop}
theorem yr (pa:PlainAttrs T) (slot:Slot T name id) (LY:typeOf (.builtin id)=pure (.type "method_descriptor")) (hm:SA X id r) (ho:PE X o to)
 (nO:attributeBase o name X.env (eval o X.env)=eval o X.env:=by rfl) (tZ:(apos.endLine == dE.line)=true:=by rfl):PE X (.Call (.Attribute o name apos) [] [] dE) (VP X.K T r to):=by
 intro pins s σ H Q I h
 refine wpAny_Call_method0_late nO tZ (aJ (ho pins s σ H _ I h) λv s1 ⟨x,H1,I1,r1,ty,q1⟩=>?_)
 obtain ⟨h1,h2⟩:=yq I1 r1 ty
 exact ⟨T,id,pa,slot,LY,h1,h2,Calls.callWith_builtin rfl (PySem.evalArgs_none (hm pins s1 σ H1 x [] v [] Q I1 r1 .nil q1))⟩
theorem eD (pa:PlainAttrs T) (slot:Slot T name id) (LY:typeOf (.builtin id)=pure (.type "method_descriptor")) (hm:SA X id r) (ho:PE X o to) (ha:PA X (e::es) t)
 (nO:attributeBase o name X.env (eval o X.env)=eval o X.env:=by rfl)
 (VQ:((backTo dE (starEach (e::es) X.env)).all (λx=>!x.1) && (backToKw dE (keywordEach [] X.env)).all (λx=>x.1.isSome)
  && decide ((e::es).length+([]:List Keyword).length+(if ([]:List Keyword).isEmpty then 0 else 1)<30))=true:=by rfl)
 (tZ:(apos.endLine == dE.line)=true:=by rfl) (hs:starEach (e::es) X.env=(false,eval e X.env)::starEach es X.env:=by rfl) (LZ:(backTo dE (starEach es X.env)).any (·.1)=false:=by rfl) :
 PE X (.Call (.Attribute o name apos) (e::es) [] dE) (tBM X.K T r to t):=by
 intro pins s σ H Q I h
 refine wpAny_Call_method_late nO VQ tZ rfl (aJ (ho pins s σ H _ I h) λv s1 ⟨x,H1,I1,r1,ty,q1⟩=>?_)
 obtain ⟨h1,h2⟩:=yq I1 r1 ty
 refine ⟨T,id,pa,slot,LY,h1,h2,?_⟩
 have hA:=ha dE pins s1 σ H1 _ I1 q1
 rw [hs] at hA ⊢
 refine Calls.callWith_builtin (by show (false || (backTo dE (starEach es X.env)).any (·.1))=false; rw [LZ] <;> rfl) (Calls.evalArgs_plain ?_)
 exact aJ hA λus s2 ⟨vs,H2,I2,r2,q2⟩=>hm pins s2 σ H2 x vs v us Q I2 r1 r2 q2
end
end L2
namespace L2
open PySem PySem.Spec PyProof.Rows
def wc (X:Cx) (id:String) (r:V->List V->Hp->VK->Prop):Prop:=
 ∀(pins:List (Addr×Obj)) (s:Shared) (σ:St) (H:Hp) (x:V) (xs:List V) (v:Value) (us:List Value) (Q:VK),Inv X pins σ H s->RelV x v->Vals xs us->r x xs H Q->
  wpAny (model X.prog X.w) X.A (call (.builtin id) (v::us)) (EP X pins σ Q) X.xe s
theorem Vals.one:∀{x:V}{us:List Value},Vals [x] us->∃u,us=[u]/\RelV x u
 | _,_,.cons r .nil=>⟨_,rfl,r⟩
theorem Vals.two:∀{x y:V}{us:List Value},Vals [x,y] us->∃u v,us=[u,v]/\RelV x u/\RelV y v
 | _,_,_,.cons r (.cons q .nil)=>⟨_,_,rfl,r,q⟩
theorem Vals.zero:∀{us:List Value},Vals [] us->us=[]
 | _,.nil=>rfl
theorem Vals.dropLast {xs:List V}{us:List Value}(h:Vals xs us):Vals xs.dropLast us.dropLast:=by
 induction h with
 | nil=>exact .nil
 | cons r t ih=>
  cases t with
  | nil=>exact .nil
  | cons q t'=>exact .cons r ih
theorem CO {α:Type}(l:List α):l.eraseIdx (l.length-1)=l.dropLast:=by
 induction l with
 | nil=>rfl
 | cons a r ih=>
  cases r with
  | nil=>rfl
  | cons b r=>
   have e:(a::b::r).length-1=((b::r).length-1)+1:=by
    have h1:(a::b::r).length=r.length+2:=rfl
    have h2:(b::r).length=r.length+1:=rfl
    omega
   rw [e,List.eraseIdx_cons_succ,ih]
   all_goals rfl
section
variable {X:Cx}{pins:List (Addr×Obj)}{σ:St}{H:Hp}{s:Shared}{l b:Addr}{xs ys zs:List V}
theorem Inv.yt {its its':List Value}{n:Nat}{f:Array Value->Array Value}{t':Nat}(I:Inv X pins σ H s) (hH:H l=some (.lst xs))
 (e:s.heap.get? l=some { cls:=.type "list",data:=.seq its.toArray n }) (hf:f its.toArray=its'.toArray) (hv:Vals ys its') (hz:ys.length<=sizeLine) :
 Inv X pins σ (upd H l (.lst ys)) { s with heap:=s.heap.update l (Obj.mapSeq f),toks:=t' }:=by
 have q:=PySem.IsL.update e f
 rw [hf] at q
 refine I.write (x:=l) (e:=l) (by rw [hH]; exact trivial) (.inl rfl) (λb' u hb hu=>(Heap.get?_update_other s.heap (Obj.mapSeq f) (Ne.symm hb)).trans hu) ⟨_,q⟩ ?_
 exact ⟨hz,its',_,hv,q⟩
theorem Inv.Gu {its:List Value}{t':Nat}(I:Inv X pins σ H s) (hv:Vals ys its) (hz:ys.length<=sizeLine) :
 Inv X pins σ (upd H s.heap.objs.size (.lst ys)) { s with heap:=s.heap.push { cls:=.type "list",data:=.seq its.toArray },toks:=t' } :=
 I.laid (λ_ _ q=>Heap.get?_push_of_some _ q) (Nat.le_refl _) ⟨hz,its,0,hv,Heap.get?_push_size _ rfl⟩
theorem Inv.fresh (I:Inv X pins σ H s):H s.heap.objs.size=none:=I.hok.fresh (Nat.le_refl _)
theorem Inv.pz (I:Inv X pins σ H s) (hH:H l=some (.lst xs)):xs.length<=sizeLine/\∃(its:List Value) (n:Nat),Vals xs its/\xs.length=its.length/\s.heap.get? l=some { cls:=.type "list",data:=.seq its.toArray n }:=by
 obtain ⟨z,its,n,r,e⟩:=I.hok l _ hH
 exact ⟨z,its,n,r,r.length,e⟩
theorem sF {n:Nat}(h:n<=sizeLine):Builtin.List.listTooLong n=false:=by
 unfold Builtin.List.listTooLong
 exact decide_eq_false (by omega)
end
section
variable {X:Cx}
def A0:V->List V->Hp->VK->Prop:=λx vs H Q=>∃l xs y,x=.ref l/\vs=[y]/\H l=some (.lst xs)/\xs.length<sizeLine/\Q .aS (upd H l (.lst (xs++[y])))
theorem dj:wc X "list.append" A0:=by
 intro pins s σ H x vs v us Q I rx rv h
 obtain ⟨l,xs,y,rfl,rfl,hH,hz,q⟩:=h
 cases rx
 obtain ⟨u,rfl,ru⟩:=rv.one
 obtain ⟨z,its,n,r,hl,e⟩:=I.pz hH
 refine call_meets F.slot_list_append ⟨_,e,rfl⟩ F.entry_list_append (F.args_list_append_2 _ _) (PySem.list_append l its.toArray n u (by rw [List.size_toArray]; omega)) ⟨e,?_⟩
 refine ⟨.aS,_,I.yt (its':=its++[u]) hH e (by simp) (r.append (.cons ru .nil)) ?_,rfl,q⟩
 rw [List.length_append,List.length_singleton]
 omega
def Kn:V->List V->Hp->VK->Prop:=λx vs H Q=>∃l b xs zs,x=.ref l/\vs=[.ref b]/\H l=some (.lst xs)/\H b=some (.lst zs)/\xs.length+zs.length<=sizeLine/\Q .aS (upd H l (.lst (xs++zs)))
theorem pB:wc X "list.extend" Kn:=by
 intro pins s σ H x vs v us Q I rx rv h
 obtain ⟨l,b,xs,zs,rfl,rfl,hH,hB,hz,q⟩:=h
 cases rx
 obtain ⟨u,rfl,ru⟩:=rv.one
 cases ru
 obtain ⟨z,its,n,r,hl,e⟩:=I.pz hH
 obtain ⟨z2,lZ,n2,r2,c8,e2⟩:=I.pz hB
 have hsz:its.toArray.size+lZ.toArray.size<=sizeLine:=by rw [List.size_toArray,List.size_toArray]; omega
 have Qm:¬ (!its.toArray.isEmpty && Builtin.List.listTooLong (its.toArray.size+lZ.toArray.size))=true:=by
  rw [sF hsz,Bool.and_false]
  exact Bool.false_ne_true
 refine call_meets F.slot_list_extend ⟨_,e,rfl⟩ F.entry_list_extend (F.args_list_extend_2 _ _)
  (AutoSeq1.list_extend_list_list_0 l its.toArray n b lZ.toArray n2 Qm (by rw [List.size_toArray]; omega) (by omega)) ⟨e,e2,?_⟩
 refine ⟨.aS,_,I.yt (its':=its++lZ) hH e (by simp) (r.append r2) ?_,rfl,q⟩
 rw [List.length_append]
 omega
def VR:V->List V->Hp->VK->Prop:=λx vs H Q=>∃l xs y,x=.ref l/\vs=[]/\H l=some (.lst xs)/\xs[xs.length-1]?=some y/\Q y (upd H l (.lst xs.dropLast))
theorem D9:wc X "list.pop" VR:=by
 intro pins s σ H x vs v us Q I rx rv h
 obtain ⟨l,xs,y,rfl,rfl,hH,hy,q⟩:=h
 cases rx
 have cG:=rv.zero
 subst cG
 obtain ⟨z,its,n,r,hl,e⟩:=I.pz hH
 obtain ⟨u,hu,ru⟩:=r.get hy
 have mq:its.toArray[its.toArray.size-1]?=some u:=by
  show its.toArray[its.length-1]?=some u
  rw [← Array.getElem?_toList,← hl]
  exact hu
 refine call_meets F.slot_list_pop ⟨_,e,rfl⟩ F.entry_list_pop (F.args_list_pop_1 _) (MeetsSeq.list_pop_last l its.toArray n u mq (by rw [List.size_toArray]; omega)) ⟨e,?_⟩
 refine ⟨y,_,I.yt (its':=its.dropLast) hH e ?_ r.dropLast ?_,ru,q⟩
 . show its.toArray.eraseIdxIfInBounds (its.toArray.size-1)=its.dropLast.toArray
   rw [List.size_toArray,List.eraseIdxIfInBounds_toArray,CO]
 . rw [List.length_dropLast]
   omega
def L0:V->List V->Hp->VK->Prop:=λx vs H Q=>∃l xs,x=.ref l/\vs=[]/\H l=some (.lst xs)/\Q .aS (upd H l (.lst []))
theorem Gv:wc X "list.clear" L0:=by
 intro pins s σ H x vs v us Q I rx rv h
 obtain ⟨l,xs,rfl,rfl,hH,q⟩:=h
 cases rx
 have cG:=rv.zero
 subst cG
 obtain ⟨z,its,n,r,hl,e⟩:=I.pz hH
 refine call_meets F.slot_list_clear ⟨_,e,rfl⟩ F.entry_list_clear (F.args_list_clear_1 _) (AutoSeq1.list_clear_list_0 l its.toArray n (by rw [List.size_toArray]; omega)) ⟨e,?_⟩
 exact ⟨.aS,_,I.yt (its':=[]) (ys:=[]) hH e rfl .nil (Nat.zero_le _),rfl,q⟩
def VS:R2:=λx y H Q=>∃l b xs zs,x=.ref l/\y=.ref b/\H l=some (.lst xs)/\H b=some (.lst zs)/\xs.length+zs.length<=sizeLine/\∀p,H p=none->Q (.ref p) (upd H p (.lst (xs++zs)))
theorem iu:d6 X (binaryOp .Add) VS:=by
 intro pins s σ H x y v u Q I rx ry h
 obtain ⟨l,b,xs,zs,rfl,rfl,hH,hB,hz,q⟩:=h
 cases rx
 cases ry
 obtain ⟨z,its,n,r,hl,e⟩:=I.pz hH
 obtain ⟨z2,lZ,n2,r2,c8,e2⟩:=I.pz hB
 refine PySem.P.add_list e e2 ?_ (by rw [List.size_toArray,List.size_toArray]; omega)
 have ea:its.toArray++lZ.toArray=(its++lZ).toArray:=by simp
 rw [ea]
 exact ⟨.ref _,_,I.Gu (t':=s.toks) (r.append r2) (by rw [List.length_append]; omega),rfl,q _ I.fresh⟩
end
section
variable {prog:Program}{w:World}{A:Around}{E:Value->Shared->Prop}{s:Shared}
theorem CP {a c n:Nat}(SE:a<=c) (hc:c<=n):sliceBounds (some (a:Int)) (some (c:Int)) none n=((a:Int),(c:Int),1):=by
 simp only [sliceBounds,Option.getD_none]
 have h1:¬ ((a:Int)<0):=by omega
 have h2:¬ ((c:Int)<0):=by omega
 simp only [h1,h2,if_false,show (1:Int)>0 by decide,if_true]
 congr 1
 . omega
 . congr 1; omega
set_option maxRecDepth 100000 in
theorem Lj {l b sl:Addr}{items new:Array Value}{n n2:Nat}{vl vu:Value}{a c:Nat}{Q:Unit->Shared->Prop}
 (e:s.heap.get? l=some { cls:=.type "list",data:=.seq items n }) (e2:s.heap.get? b=some { cls:=.type "list",data:=.seq new n2 }) (cD:l≠b)
 (hs:s.heap.IsSliceOf sl vl vu .none) (pl:IsPart vl (some (a:Int))) (pu:IsPart vu (some (c:Int))) (SE:a<=c) (hc:c<=items.size)
 (hsz:items.size+new.size<=sizeLine) (h:Q () { s with heap:=s.heap.update l (Obj.mapSeq λxs=>xs.extract 0 a++new++xs.extract c xs.size) }) :
 wpAny (model prog w) A (setItem (.ref l) (.ref sl) (.ref b)) Q E s:=by
 have hl:s.heap.IsList l items:=PySem.IsL.isList e
 have hb:s.heap.IsList b new:=PySem.IsL.isList e2
 obtain ⟨os,Ik,t8,t9⟩:=id hs
 have SF:s.TypeIs (.ref sl) "slice":=⟨os,Ik,t8⟩
 have Qn:¬ ((rawPart none == rawInt 0)=true):=Bool.false_ne_true
 have CQ:Builtin.List.listSameRef (.ref l) (.ref b)=false:=by
  unfold Builtin.List.listSameRef
  exact beq_eq_false_iff_ne.mpr cD
 have VT:(max (a:Int) (c:Int)).toNat=c:=by omega
 have rf:((λxs:Array Value=>xs.extract 0 a++new++xs.extract c xs.size) items).size<=sizeLine+1:=by
  simp only [Array.size_append,Array.size_extract]
  omega
 unfold setItem
 try with_reducible refine wpAny_holding ?_
 first | refine wpAny_bind (wpAny_pure ?_) | skip
 refine wpAny_bind (wpAny_sequenceKey hl.typeIs (by decide) ?_)
 refine wpAny_bind (wpAny_callSpecial?_slot (name:=Str.ofString "__setitem__") hl.typeIs slot_list_setitem
  (wpAny_call_entry slot_list_setitem hl.typeIs entry_list_setitem ?_ (args_list_setitem _ _ _)))
 show wpAny _ _ (Builtin.List.listSubscript? (.ref sl) >>= _) _ _ s
 refine wpAny_bind ?_
 unfold Builtin.List.listSubscript?
 refine wpAny_bind (wpAny_specialOf SF slice_no_index ?_)
 simp only [Option.isNone_none,if_true]
 refine wpAny_pure ?_
 show wpAny _ _ (typeOf (.ref sl) >>= _) _ _ s
 refine wpAny_bind (wpAny_typeOf SF ?_)
 first
  | rw [if_neg (by decide)]
  | refine W.KFB.if_not (by decide) ?_
 rw [listSliceParts_eq]
 refine wpAny_bind (wpAny_bind (wpAny_field Ik t9 (x:=.none) rfl (wpAny_bind (wpAny_listPart .none ?_))))
 rw [if_neg Qn]
 refine wpAny_bind (wpAny_field Ik t9 (x:=vl) rfl (wpAny_bind (wpAny_listPart pl ?_)))
 refine wpAny_bind (wpAny_field Ik t9 (x:=vu) rfl (wpAny_bind (wpAny_listPart pu (wpAny_pure ?_))))
 first
  | simp only [CQ,Bool.false_eq_true,if_false]
  | refine W.KFB.if_not CQ ?_
  | (dsimp only
     rw [if_neg (by rw [CQ]; exact Bool.false_ne_true)])
 refine wpAny_bind (m:=Builtin.List.listAllItems (.ref b) "must assign iterable to extended slice") ?_
 unfold Builtin.List.listAllItems
 refine wpAny_bind (wpAny_typeOf hb.typeIs ?_)
 first
  | refine W.KFB.if_so (by decide) ?_
  | rw [if_pos (by decide)]
  | simp only [beq_self_eq_true,Bool.true_or,if_true]
 unfold Builtin.List.listItems
 refine wpAny_bind (wpAny_seqItems e2 rfl (wpAny_pure ?_))
 refine wpAny_bind (wpAny_bind (wpAny_seqItems e rfl (wpAny_pure ?_)))
 refine wpAny_bind (wpAny_of_eq ((sliceIndices_raw (some (a:Int)) (some (c:Int)) none items.size (by simp)).trans (congrArg (pure:Int×Int×Int->Sem (Int×Int×Int)) (CP SE hc))) ?_)
 show wpAny _ _ (if ((1:Int) == 1)=true then _ else _) _ _ s
 rw [if_pos (by decide)]
 refine wpAny_bind (wpAny_rule ?_)
 first
  | simp only [sF hsz,Bool.false_eq_true,if_false]
  | refine W.KFB.if_not (sF hsz) ?_
 first | refine wpAny_bind (wpAny_pure ?_) | skip
 show wpAny _ _ (updateSeq l (λxs=>xs.extract 0 ((a:Int)).toNat++new++xs.extract (max (a:Int) (c:Int)).toNat xs.size) >>= _) _ _ s
 rw [VT,Int.toNat_natCast]
 refine wpAny_bind (wpAny_updateSeq (hz:=Nat.le_trans (Nat.le_add_right _ _) hsz) (_hz':=rf) e rfl ?_)
 refine wpAny_bind (wpAny_letGo ?_)
 first
  | exact wpAny_bind (wpAny_pure (wpAny_pure ⟨.none,rfl,wpAny_pure h⟩))
  | exact wpAny_pure ⟨.none,rfl,wpAny_pure h⟩
end
section
variable {X:Cx}
end
end L2
namespace SG
open PySem PySem.W PySem.Calls PyProof.Rows
theorem ua {P:Params}{h:Heap} : ∀(ns:List Int) (vs:List Value),WellAll P h vs (ns.map WData.int)->IntsAre vs ns:=by
 intro ns
 induction ns with
 | nil=>
  intro vs w
  rw [List.map_nil] at w
  cases w
  exact .nil
 | cons n ns ih=>
  intro vs w
  rw [List.map_cons] at w
  cases w with
  | cons a b=>
   cases a
   exact .cons _ _ (ih _ b)
theorem Ea {l:OpenLaw}{n:Nat}(hn:l.most=some n){P:Params}{h:Heap}{args:List WData}{vals:List Value}
 (CS:l.row.toRowW.claim.pre args=true) (pC:WellAll P h vals args) :
 ∃a vs ns,vals=[Value.ref a]/\args=[WData.list (ns.map WData.int)]/\h.get? a=some { cls:=.type "list",data:=.seq vs.toArray } /\ IntsAre vs ns/\ns.length<=n:=by
 have A8:WShape.hasAll [] args [.list .int]=true:=(pre_splitW CS).1
 have hc:l.pre.holds [] { args:=args } = true:=(pre_splitW CS).2
 obtain ⟨d,r,rfl,h1,h2⟩:=hasAllW_cons A8
 obtain rfl:=hasAllW_nil h2
 obtain ⟨xs,rfl,h3⟩:=hasW_list h1
 obtain ⟨ns,rfl⟩:=items_int h3
 have hlen:ns.length<=n:=by
  unfold OpenLaw.pre at hc
  have h4:(WTm.not (.lt (.lit (.int (n:Int))) (.len (.arg 0)))).holds [] { args:=[.list (ns.map .int)] } = true:=by
   have h4:=(holds_andW hc).1
   rw [hn] at h4
   exact h4
  have h5:=condW_of h4 (w_not (w_lt w_lit (w_len_list (w_arg rfl))))
  rw [List.length_map] at h5
  refine Nat.le_of_not_lt λq=>?_
  have q':(n:Int)<((ns.length:Nat):Int):=by omega
  first
   | (rw [decide_eq_true q'] at h5; exact absurd h5 (by decide))
   | (simp at h5; omega)
 cases pC with
 | cons w1 w2=>
  cases w2
  cases w1 with
  | list ho cT=>exact ⟨_,_,ns,rfl,rfl,ho,ua ns _ cT,hlen⟩
theorem Eb (l:OpenLaw) (args:List WData):l.row.toRowW.claim.post args (.bool true) args=true:=
 postW_of (r:=l.row.toRowW) (X:=(true == true))
  (show WShape.has [] (.bool true) .bool=true by first | rfl | decide | simp [WShape.has,WShape.arms,WShape.armsAll])
  (show (WTm.eq .res (.lit (.bool true))).value [] { args:=args,res:=some (.bool true),after:=args } = some (.bool (true == true)) from w_eq_bool (w_res rfl) w_lit) rfl
theorem AH {l:OpenLaw}{n:Nat}{q:Program}{loose:List Str}{XP:(Str->Option Value)->Heap->Prop}{YP:World->Heap->Prop}{d:DefRec}
 (hn:l.most=some n) (Ec:d.params.defaults=[])
 (call:∀(w:World) (jS dm:Shared) (mg mb:Str->Option Value) (fa:Addr) (o:Obj) (pm cd doc:Value) (a:Addr) (vs:List Value) (ns:List Int),
  Ground q loose [] XP w jS mg mb dm.heap->YP w dm.heap->
  dm.heap.get? fa=some o->o.data=.func (docDef d.name d.params d.body d.scope pm cd doc)->dm.heap.CodeRec cd d.name->mg d.name=some (.ref fa)->
  dm.heap.get? a=some { cls:=.type "list",data:=.seq vs.toArray } -> IntsAre vs ns->ns.length<=n->dm.gens = #[]->
  codeAny (model l.prog w) callerA (.call (.ref fa) ⟨[.ref a],[]⟩) (λr s'=>r=.ok (.ret (.bool true))/\OldK dm.heap s'.heap/\s'.os=dm.os/\AllBare s'.gens) dm) :
 WalkO q loose XP YP l.row.toRowW d [] (λf vs=>PySem.call f vs):=by
 intro w jS dm mg mb G Y fa o pm cd doc dV kV ho hd oY hD Ed hg args vals as CS aeX hrd pC A9
 obtain rfl:dV=.none:=Dflts.none hD Ec
 obtain rfl:kV=.none:=Dflts.noKw hD
 obtain ⟨a,vs,ns,rfl,rfl,Gw,hints,hlen⟩:=Ea hn CS pC
 refine enter_call (codeAny_mono (call w jS dm mg mb fa o pm cd doc a vs ns G Y ho (fd_plain hd) oY Ed Gw hints hlen hg) λr s' hq=>?_)
 obtain ⟨rfl,h2,h3,h4⟩:=hq
 exact ⟨.inl ⟨.bool true,.bool true,[],rfl,λ_=>rfl,.bool true,Eb l _,λ_=>⟨List.Pairwise.nil,λ_ hm=>(nomatch hm)⟩⟩,h2,h3,h4⟩
section
variable {prog:Program}{w:World}{A:Around}{E:Value->Shared->Prop}{s:Shared}{K:Frag}
end
end SG
namespace L2
open PySem PySem.Spec PyProof.Rows
theorem wd:∀{vs:List Value}{ns:List Int},IntsAre vs ns->Vals (ns.map V.int) vs
 | _,_,.nil=>.nil
 | _,_,.cons n t h=>.cons ⟨t,rfl⟩ (wd h)
def Gx (H:Hp):Prop:=∀b,H b=none\/∃o xs,H b=some (.cz o (.lst xs))
theorem Gy {P:Program}{w:World}{K:W.Frag}{mg mb:Str->Option Value}{CX:o8}{k:Nat}{fa a:Addr}{fd:FuncData}{x:Str}{sp:Sp}{dm:Shared}{vs:List Value}{ns:List Int}
 (KX:K.In dm.heap) (SH:dm.heap.Ns mainGlobals mg) (hb:dm.heap.Ns builtinsNs mb) (hbb:∀x:Str,x ≠ "__name__" -> mb x=bootBuiltins x) (VU:dm.heap.NoLimit) (hg:dm.gens = #[])
 (ha:dm.heap.get? a=some { cls:=.type "list",data:=.seq vs.toArray }) (hi:IntsAre vs ns) (hl:ns.length<=sizeLine) (hr:bg k callerA)
 (F:∀base:Heap,K.In base->base.Ns mainGlobals mg->aw P w K mg base CX k fa fd [x] sp) (Qo:∀(s:Shared) (u:Value),BindsTo s fd ⟨[u],[]⟩ [(x,u)])
 (vZ:∀H:Hp,Gx H->aq K H a (ns.map V.int)->sp [.ref a] H (λv _=>v=.bl true) λ_ _ _=>False)
 (L3:∀H e s',CX [] H dm (λ_ _ _=>False) e s'->False) :
 codeAny (model P w) callerA (.call (.ref fa) ⟨[.ref a],[]⟩) (λr s'=>r=.ok (.ret (.bool true))/\OldK dm.heap s'.heap/\s'.os=dm.os/\AllBare s'.gens) dm:=by
 have rv:=wd hi
 have VW:=hi.length
 have core:∀H:Hp,Gx H->aq K H a (ns.map V.int)->eP P w H dm.heap->(∀b,H b≠none->b=a)->(H a≠none->K.lookup a=none)->
  codeAny (model P w) callerA (.call (.ref fa) ⟨[.ref a],[]⟩) (λr s'=>r=.ok (.ret (.bool true))/\OldK dm.heap s'.heap/\s'.os=dm.os/\AllBare s'.gens) dm:=by
  intro H hO hS hok hA hK
  have Ba:∀{b:Addr}{o:Obj},dm.heap.get? b=some o->H b=none->(nC dm.heap H).get? b=some o:=λe n=>Ge e n
  have D0:∀{b:Addr}{o:Obj}{es:Array DictEntry}{ep:Nat},dm.heap.get? b=some o->o.data=.dict es ep->H b=none:=λ{b o es ep} e d=>by
   cases q:H b with
   | none=>rfl
   | some u=>
    have e':b=a:=hA b (by rw [q]; simp)
    subst e'
    rw [ha] at e; cases e
    have d':Data.seq vs.toArray _=Data.dict es ep:=d
    cases d'
  have Il:∀{b:Addr}{m:Str->Option Value},dm.heap.Ns b m->(nC dm.heap H).Ns b m:=λ{b m} ⟨o,es,ep,e,d,r⟩=>⟨o,es,ep,Ba e (D0 e d),d,r⟩
  have SI:K.In (nC dm.heap H):=λb o e=>Ba (KX b o e) (by
   cases q:H b with
   | none=>rfl
   | some u=>
    have e':b=a:=hA b (by rw [q]; simp)
    subst e'
    rw [hK (by rw [q]; simp)] at e; cases e)
  have hM:Mod K mg (nC dm.heap H):=⟨SI,Il SH,⟨mb,Il hb,hbb⟩,let ⟨mc,h1,h2⟩:=VU; ⟨mc,Il h1,h2⟩⟩
  have e0:sv P w K mg (nC dm.heap H) callerA [] dm H:=⟨rfl,hM,λb o e=>J8 e,Nat.le_of_eq (DL _ _),trivial,λb hb=>absurd (show b∈([]:List Addr) from hb) (by simp),hok,.of_eq hg⟩
  refine codeAny_mono ((F _ SI (Il SH)).run callerA [] dm H ⟨[.ref a],[]⟩ [.ref a] [.ref a] _ _ hr e0 (Qo dm (.ref a)) (.cons rfl .nil) (vZ H hO hS)) λr s' h=>?_
  cases r with
  | error e=>exact (L3 H e s' h).elim
  | ok fl=>
   cases fl with
   | next=>exact False.elim h
   | brk=>exact False.elim h
   | cont=>exact False.elim h
   | ret u=>
    obtain ⟨v,H',os,bare,un,VX,r',q⟩:=h
    have q':v=.bl true:=q
    subst q'
    obtain rfl:u=Value.bool true:=r'
    refine ⟨rfl,OldK.of_keep λb o e=>?_,os,bare⟩
    cases q:H b with
    | none=>exact un.keep b o e q (by intro z; exact absurd (show b∈([]:List Addr) from z) (by simp)) (by simp)
    | some u=>
     rcases hO b with z | ⟨ob,xs,z⟩
     . rw [q] at z; cases z
     . have z2:=un.frzs b ob _ z
       obtain ⟨e1,_⟩:=hok b _ z
       obtain ⟨e2,_⟩:=VX b _ z2
       rw [e] at e1; cases e1
       exact e2
 cases hk:K.lookup a with
 | some o=>
  have e:=KX a o hk
  rw [ha] at e
  cases e
  refine core (λ_=>none) (λ_=>.inl rfl) (.inr ⟨_,vs.toArray,_,hk,rfl,rfl,rfl,by rw [List.size_toArray,VW]; exact hl,by simpa using rv⟩) (λb u z=>by have z':(none:Option HO)=some u:=z; cases z') (λb z=>absurd rfl z) λz=>absurd rfl z
 | none=>
  refine core (λb=>if b=a then some (.cz { cls:=.type "list",data:=.seq vs.toArray } (.lst (ns.map V.int))) else none) (λb=>?_) (.inl (.inr ⟨{ cls:=.type "list",data:=.seq vs.toArray },if_pos rfl⟩)) (λb u z=>?_) (λb z=>?_) λ_=>hk
  . by_cases hb:b=a
    . exact .inr ⟨_,_,if_pos hb⟩
    . exact .inl (if_neg hb)
  . by_cases hb:b=a
    . have z':=(if_pos hb).symm.trans z
      cases z'
      subst hb
      exact ⟨ha,by rw [List.length_map]; exact hl,vs,_,rv,ha⟩
    . have z':=(if_neg hb).symm.trans z
      cases z'
  . by_cases hb:b=a
    . exact hb
    . exact absurd (if_neg hb) z
end L2
namespace L2
open PySem PySem.Spec PyProof.Rows
theorem Ko {l:W.OpenLaw}{n k:Nat}{q:Program}{loose:List Str}{XP:(Str->Option Value)->Heap->Prop}{YP:World->Heap->Prop}{d:DefRec}{K:Params->W.Frag}{CX:World->o8}{sp:World->Sp}{x:Str}
 (hn:l.most=some n) (fi:n<=sizeLine) (Ec:d.params.defaults=[]) (hr:bg k callerA)
 (hY:∀(w:World) (h:Heap),YP w h->(K w.params).In h)
 (F:∀(w:World) (mg:Str->Option Value) (fa:Addr) (h:Heap),(K w.params).In h->h.Ns mainGlobals mg->mg d.name=some (.ref fa)->
  ∃fd:FuncData,(∀(s:Shared) (u:Value),BindsTo s fd ⟨[u],[]⟩ [(x,u)])/\
   ∀base:Heap,(K w.params).In base->base.Ns mainGlobals mg->aw l.prog w (K w.params) mg base (CX w) k fa fd [x] (sp w))
 (vZ:∀(w:World) (H:Hp) (a:Addr) (ns:List Int),ns.length<=n->Gx H->aq (K w.params) H a (ns.map V.int)->sp w [.ref a] H (λv _=>v=.bl true) λ_ _ _=>False)
 (L3:∀(w:World) (H:Hp) (s:Shared) (e:Value) (s':Shared),CX w [] H s (λ_ _ _=>False) e s'->False) :
 W.WalkO q loose XP YP l.row.toRowW d [] (λf vs=>PySem.call f vs):=by
 refine SG.AH hn Ec λw jS dm mg mb fa o pm cd doc a vs ns G Y ho hd oY Ed Gw hints hlen hg=>?_
 have KX:=hY w _ Y
 obtain ⟨fd,hb,hF⟩:=F w mg fa _ KX G.T.g Ed
 exact Gy KX G.T.g G.T.b G.T.builtins G.T.nolimit hg Gw hints (Nat.le_trans hlen fi) hr hF hb (λH hO hS=>vZ w H a ns hlen hO hS) λH e s'=>L3 w H dm e s'
end L2
namespace L2
open PySem PySem.Spec PyProof.Rows
def inClass (s:Stmt) (j:Nat):Stmt:=match s with
 | .ClassDef _ _ _ body _ _ _ _ _ _ _=>body.getD j (.Pass ⟨0,0,0,0⟩)
 | _=>.Pass ⟨0,0,0,0⟩
def aM (s:Stmt):Arguments:=match s with
 | .FunctionDef _ a _ _ _ _ _ _ _ _=>a
 | _=>{ posonlyargs:=[],args:=[],vararg:=none,kwonlyargs:=[],kw_defaults:=[],kwarg:=none,defaults:=[] }
def aI (s:Stmt):List Stmt:=match s with
 | .FunctionDef _ _ b _ _ _ _ _ _ _=>b
 | _=>[]
def au (s:Stmt):Scope:=match s with
 | .FunctionDef _ _ _ _ _ _ sc _ _ _=>sc
 | _=>{ kind:=.function,names:=[],isGenerator:=false,isCoroutine:=false }
abbrev aD:o8:=λ_ _ _ _ _ _=>False
abbrev E0:XK:=λ_ _ _=>False
theorem az {X:Cx} : Passes aD X E0:=λ_ _ _ _ _ _ _ h=>h.elim
structure cC (K:W.Frag) (x qual:Str) (st:Stmt) (f:Addr) (fd:FuncData):Prop where
 ex:∃(oc:Value) (od:Option Addr) (kV doc pm:Value) (an:Option Addr) (cdv ct:Value) (vY:Array (Option Value)),
  fd=W.fnOf x qual (aM st) (aI st) (au st) .none kV doc pm an cdv ct/\K.lookup f=some ⟨oc,od,.func fd,vY⟩/\W.codeIn K cdv qual=true
 kp:W.keepIn K (.ref f)=true
section
variable {P:Program}{w:World}{K:W.Frag}{mg:Str->Option Value}{base:Heap}
theorem cC.ok {x qual:Str}{st:Stmt}{f:Addr}{fd:FuncData}{N ps:List Str}{k:Nat}{sp:Sp}(F:cC K x qual st f fd) (S:aQ N ps (au st)) (len:∀vs H Q E,sp vs H Q E->vs.length=ps.length)
 (CJ:∀(cdv:Value) (A:Around) (outer:List Env) (s:Shared) (H:Hp) (vs:List V) (Q:VK) (E:XK),bg k (A.deeper (envOfC qual (au st) s.heap.objs.size f cdv))->sp vs H Q E->
  ∃t,iR (nJ aD P w K mg base N qual (au st) f cdv A outer s H E).xZ (aI st) t/\t { nx:=λ_ H'=>Q .aS H',rt:=Q } (start N vs) H):aw P w K mg base aD (k+1) f fd ps sp:=by
 obtain ⟨oc,od,kV,doc,pm,an,cdv,ct,vY,rfl,lk,oY⟩:=F.ex
 refine Qc lk oY S len λA outer s H vs Q E hr vZ=>?_
 obtain ⟨t,h,q⟩:=CJ cdv A outer s H vs Q E hr vZ
 exact ⟨t,h.xZ,q⟩
theorem cC.binds {x qual:Str}{st:Stmt}{f:Addr}{fd:FuncData}{ps:List Str}(F:cC K x qual st f fd)
 (h:∀(kV doc pm:Value) (an:Option Addr) (cdv ct:Value) (us:List Value),us.length=ps.length->bindArgs (W.fnOf x qual (aM st) (aI st) (au st) .none kV doc pm an cdv ct) ⟨us,[]⟩=pure (ps.zip us)):Binds K fd ps []:=by
 obtain ⟨oc,od,kV,doc,pm,an,cdv,ct,vY,rfl,lk,oY⟩:=F.ex
 exact .all (h kV doc pm an cdv ct)
theorem bf {x qual:Str}{st:Stmt}{f:Addr}{oc:Value}{od an:Option Addr}{vY:Array (Option Value)}{kV doc pm cdv ct:Value}(l:K.lookup f=some ⟨oc,od,.func (W.fnOf x qual (aM st) (aI st) (au st) .none kV doc pm an cdv ct),vY⟩)
 (c:W.codeIn K cdv qual=true) (k:W.keepIn K (.ref f)=true):cC K x qual st f (W.fnOf x qual (aM st) (aI st) (au st) .none kV doc pm an cdv ct):=⟨⟨oc,od,kV,doc,pm,an,cdv,ct,vY,rfl,l,c⟩,k⟩
end
theorem eZ {A:Around}{k:Nat}(hr:bg k A):A.units+1<cLine:=Nat.lt_of_le_of_lt (Nat.add_le_add_left (by decide:1<=64) _) hr.units
theorem we {n:Nat}(h:n<=1000):n<sizeLine:=Nat.lt_of_le_of_lt h (by decide)
section
variable {X:Cx}
theorem pv (i:Nat){x:Str}{pos:Pos}(hN:X.N[i]?=some x:=by rfl) (hv:Lq X.env.scope x:=by first | exact Or.inl rfl | exact Or.inr (Or.inl rfl) | exact Or.inr (Or.inr rfl)) (hd:(x == ("__debug__" : Str))=false:=by decide)
 (oY:(x == ("__classdict__" : Str))=false:=by decide):PE X (.Name x pos) (oX i):=Ls hN hv hd oY
end
theorem pD {A B:Prop}(h:B):if false=true then A else B:=by
 rw [if_neg Bool.false_ne_true]
 exact h
theorem yu {A B:Prop}(h:A):if true=true then A else B:=by
 rw [if_pos rfl]
 exact h
theorem dq {c A B:Prop}[Decidable c] (h1:c->A) (h2:¬ c->B):if c then A else B:=by
 by_cases h:c
 . rw [if_pos h]
   exact h1 h
 . rw [if_neg h]
   exact h2 h
def aj (H H':Hp):Prop:=∀b o,H b=some o->H' b=some o
theorem aj.trans {H H1 H2:Hp}(a:aj H H1) (b:aj H1 H2):aj H H2:=λc o h=>b c o (a c o h)
theorem aj.free {H H':Hp}(e:aj H H'){l:Addr}(h:H' l=Option.none):H l=Option.none:=by
 cases q:H l with
 | none=>rfl
 | some o=>
  rw [e l o q] at h
  cases h
theorem aj.seq {K:W.Frag}{H H':Hp}{a:Addr}{xs:List V}(e:aj H H') (h:aq K H a xs):aq K H' a xs:=by
 rcases h with (h | ⟨o,h⟩) | h
 . exact .inl (.inl (e _ _ h))
 . exact .inl (.inr ⟨o,e _ _ h⟩)
 . exact .inr h
end L2
namespace L2
open PySem PySem.Spec PyProof.Rows
section
variable {X:Cx}
theorem pE:eB X (.builtin "len") (λxs H Q=>∃a kvs,xs=[V.ref a]/\H a=some (.dK kvs)/\Q (.int kvs.length) H):=by
 intro pins s σ H xs us Q I r h
 obtain ⟨a,kvs,rfl,ha,q⟩:=h
 obtain ⟨u,rfl,ru⟩:=vals1 r
 cases ru
 exact Qf I (.inl ha) λt s' I'=>⟨.int kvs.length,H,I',⟨t,rfl⟩,q⟩
end
end L2
set_option maxHeartbeats 4000000
namespace L2
open PySem PySem.Spec PyProof.Rows
theorem nP {env:Env}(f:Str×NameKind->List (Str×Addr)->Sem (ForInStep (List (Str×Addr))))
 (hf:∀n k cs,f (n,k) cs=if (k == NameKind.free)=true then (cellOf env n >>= λa=>pure (ForInStep.yield ((n,a)::cs))) else pure (ForInStep.yield cs)) :
 ∀(names:List (Str×NameKind)) (acc:List (Str×Addr)),(∀x∈names,x.2=NameKind.free->∃c,env.cells.lookup x.1=some c)->(∀x c,acc.lookup x=some c->env.cells.lookup x=some c)->
  ∃cl,forIn names acc f=(pure cl:Sem (List (Str×Addr)))/\(∀x c,cl.lookup x=some c->env.cells.lookup x=some c)/\(∀x c,acc.lookup x=some c->∃c',cl.lookup x=some c')/\∀x∈names,x.2=NameKind.free->∃c,cl.lookup x.1=some c
 | [],acc,_,ha=>⟨acc,by simp,ha,λx c e=>⟨c,e⟩,λx hx=>by simp at hx⟩
 | (n,k)::r,acc,hn,ha=>by
  have xS:∀x∈r,x.2=NameKind.free->∃c,env.cells.lookup x.1=some c:=λx hx=>hn x (List.mem_cons_of_mem _ hx)
  cases hk:k == NameKind.free with
  | false=>
   obtain ⟨cl,e,h1,h2,h3⟩:=nP f hf r acc xS ha
   refine ⟨cl,?_,h1,h2,λx hx hz=>?_⟩
   . rw [List.forIn_cons,hf,hk,if_neg Bool.false_ne_true,pure_bind]
     exact e
   . rcases List.mem_cons.mp hx with z | hx
     . subst z
       have rf:k=NameKind.free:=hz
       rw [rf] at hk
       exact absurd hk (by decide)
     . exact h3 x hx hz
  | true=>
   have gm:k=NameKind.free:=by cases k <;> first | rfl | exact absurd hk (by decide)
   obtain ⟨c,hc⟩:=hn (n,k) List.mem_cons_self gm
   have eQ:env.cells.lookup n=some c:=hc
   obtain ⟨cl,e,h1,h2,h3⟩:=nP f hf r ((n,c)::acc) xS (λx d ed=>by
    rw [List.lookup_cons] at ed
    cases hx:x == n with
    | true=>
     rw [hx] at ed
     rw [eq_of_beq hx,eQ]
     exact ed
    | false=>
     rw [hx] at ed
     exact ha x d ed)
   have kT:∃c',cl.lookup n=some c':=h2 n c (by rw [List.lookup_cons,beq_self_eq_true])
   refine ⟨cl,?_,h1,λx d ed=>?_,λx hx hz=>?_⟩
   . rw [List.forIn_cons,hf,hk,if_pos rfl]
     unfold cellOf
     rw [eQ]
     rw [pure_bind,pure_bind]
     exact e
   . cases hx:x == n with
     | true=>
      rw [eq_of_beq hx]
      exact kT
     | false=>
      refine h2 x d ?_
      rw [List.lookup_cons,hx]
      exact ed
   . rcases List.mem_cons.mp hx with z | hx
     . subst z
       exact kT
     . exact h3 x hx hz
theorem u9 {scope:Scope}{env:Env}(h:∀x∈scope.names,x.2=NameKind.free->∃c,env.cells.lookup x.1=some c) :
 ∃cl,closureFor scope env=pure cl/\(∀x c,cl.lookup x=some c->env.cells.lookup x=some c)/\∀x∈scope.names,x.2=NameKind.free->∃c,cl.lookup x.1=some c:=by
 obtain ⟨cl,e,h1,_,h3⟩:=nP (env:=env) (λp cs=>if (p.2 == NameKind.free)=true then (cellOf env p.1 >>= λa=>pure (ForInStep.yield ((p.1,a)::cs))) else pure (ForInStep.yield cs)) (λn k cs=>rfl) scope.names [] h (λx c z=>by simp at z)
 refine ⟨cl,?_,h1,h3⟩
 have key:closureFor scope env=(forIn scope.names ([]:List (Str×Addr)) (λ(p:Str×NameKind) cs=>if (p.2 == NameKind.free)=true then (cellOf env p.1 >>= λa=>pure (ForInStep.yield ((p.1,a)::cs))) else pure (ForInStep.yield cs)) >>= λcs=>pure cs):=rfl
 rw [key,e,pure_bind]
theorem lookup_mem {names:List (Str×NameKind)}{x:Str}{k:NameKind}(h:names.lookup x=some k):(x,k)∈names:=by
 induction names with
 | nil=>simp at h
 | cons p r ih=>
  obtain ⟨n,j⟩:=p
  rw [List.lookup_cons] at h
  cases hx:x == n with
  | true=>
   rw [hx] at h
   have e:j=k:=Option.some.inj h
   rw [eq_of_beq hx,e]
   exact List.mem_cons_self
  | false=>
   rw [hx] at h
   exact List.mem_cons_of_mem _ (ih h)
def l8 (env:Env) (p:Str×NameKind):Str×NameKind:=if (p.2 == NameKind.free && env.scope.kind == .function && env.kindOf p.1 == some .cell) then (p.1,.cell) else p
theorem oI (scope:Scope) (env:Env):(relabel scope env).names=scope.names.map (l8 env):=rfl
theorem l9 {env:Env} : ∀(names:List (Str×NameKind)) (x:Str),(names.map (l8 env)).lookup x=(names.lookup x).map λk=>(l8 env (x,k)).2
 | [],x=>rfl
 | (n,k)::r,x=>by
  rw [List.map_cons]
  have e1:(l8 env (n,k)).1=n:=by unfold l8; split <;> rfl
  have:l8 env (n,k)=(n,(l8 env (n,k)).2):=Prod.ext e1 rfl
  rw [this,List.lookup_cons,List.lookup_cons]
  cases hx:x == n with
  | true=>
   rw [eq_of_beq hx]
   rfl
  | false=>exact l9 r x
theorem Gz {scope:Scope}{env:Env}{x:Str}(h:scope.names.lookup x=some .free):(relabel scope env).names.lookup x=some .cell\/(relabel scope env).names.lookup x=some .free:=by
 rw [oI,l9,h]
 unfold l8
 simp only [Option.map_some]
 split
 . exact .inl rfl
 . exact .inr rfl
theorem Ee {scope:Scope}{env:Env}{x:Str}(hc:∀y∈scope.names,y.2≠.cell) (h:(relabel scope env).names.lookup x=some .cell\/(relabel scope env).names.lookup x=some .free):scope.names.lookup x=some .free:=by
 rw [oI,l9] at h
 cases e:scope.names.lookup x with
 | none=>rw [e] at h; rcases h with h | h <;> cases h
 | some k=>
  rw [e] at h
  have hm:=lookup_mem e
  have nk:k≠.cell:=hc _ hm
  simp only [Option.map_some,Option.some.injEq] at h
  by_cases hf:k=.free
  . rw [hf]
  . have hb:(k == NameKind.free)=false:=by cases k <;> first | rfl | exact absurd rfl hf
    have:(l8 env (x,k)).2=k:=by
     unfold l8
     simp [hb]
    rw [this] at h
    rcases h with h | h
    . exact absurd h nk
    . exact absurd h hf
def cW (X:Cx) (N:List Str) (scope:Scope) (cl:List (Str×Addr)) (C:Addr) (s:Shared) (H:Hp) (fp:List Addr) (pn:List (Addr×Obj)):Cx where
 prog:=X.prog
 w:=X.w
 K:=X.K
 mg:=X.mg
 base:=X.base
 A:=X.A
 N:=N
 jS:=s
 xt:=H
 env:=compEnvC scope cl C X.env
 outer:=X.stack
 stack:=X.stack
 ex:=fp
 fn:=λ_=>false
 calm:=true
 pn:=pn
 xe:=λ_ _=>False
structure mr (X:Cx) (N:List Str) (js:List (Option Nat)) (scope:Scope):Prop where
 kind:scope.kind=.function
 nocell:∀y∈scope.names,y.2≠.cell
 names:∀y∈scope.names,y.2=.local->scope.names.lookup y.1=some .local
 frees:∀y∈scope.names,y.2=.free->X.env.kindOf y.1=some .cell\/X.env.kindOf y.1=some .free
 len:js.length=N.length
 pull:∀(i j:Nat) (x:Str),js[i]?=some (some j)->N[i]?=some x->X.N[j]?=some x/\scope.names.lookup x=some .free
def e8 (xn:List Str) (names:List (Str×NameKind)):List Str->List (Option Nat)->Bool
 | [],[]=>true
 | _::N,none::js=>e8 xn names N js
 | x::N,some j::js=>(match xn[j]? with | some y=>decide (y=x) | none=>false) && (match names.lookup x with | some .free=>true | _=>false) && e8 xn names N js
 | _,_=>false
theorem nQ {xn:List Str}{names:List (Str×NameKind)} : ∀{N:List Str}{js:List (Option Nat)},e8 xn names N js=true->js.length=N.length
 | [],[],_=>rfl
 | x::N,none::js,h=>by
  have:=nQ (N:=N) (js:=js) (by simpa [e8] using h)
  simp [this]
 | x::N,some j::js,h=>by
  have h':e8 xn names N js=true:=by
   simp only [e8,Bool.and_eq_true] at h
   exact h.2
  simp [nQ h']
 | [],_::_,h=>by simp [e8] at h
 | _::_,[],h=>by simp [e8] at h
theorem pF {xn:List Str}{names:List (Str×NameKind)} : ∀{N:List Str}{js:List (Option Nat)},e8 xn names N js=true->∀(i j:Nat) (x:Str),js[i]?=some (some j)->N[i]?=some x->xn[j]?=some x/\names.lookup x=some .free
 | [],[],_,i,j,x,e,_=>by simp at e
 | y::N,none::js,h,i,j,x,e1,e2=>by
  cases i with
  | zero=>simp at e1
  | succ i=>
   exact pF (N:=N) (js:=js) (by simpa [e8] using h) i j x (by simpa using e1) (by simpa using e2)
 | y::N,some j'::js,h,i,j,x,e1,e2=>by
  simp only [e8,Bool.and_eq_true] at h
  obtain ⟨⟨h1,h2⟩,h3⟩:=h
  cases i with
  | zero=>
   have ej:j'=j:=by simpa using e1
   have ey:y=x:=by simpa using e2
   subst ej ey
   constructor
   . cases q:xn[j']? with
     | none=>rw [q] at h1; cases h1
     | some z=>
      rw [q] at h1
      rw [of_decide_eq_true h1]
   . cases q:names.lookup y with
     | none=>rw [q] at h2; cases h2
     | some k=>
      rw [q] at h2
      cases k <;> first | rfl | cases h2
  | succ i=>exact pF h3 i j x (by simpa using e1) (by simpa using e2)
 | [],_::_,h,_,_,_,_,_=>by simp [e8] at h
 | _::_,[],h,_,_,_,_,_=>by simp [e8] at h
def isFn:ScopeKind->Bool
 | .function=>true
 | _=>false
def ub (xn:List Str) (xs:List (Str×NameKind)) (N:List Str) (js:List (Option Nat)) (scope:Scope):Bool:=
 isFn scope.kind && (scope.names.all λy=>match y.2 with
  | .cell=>false
  | .local=>(match scope.names.lookup y.1 with | some .local=>true | _=>false)
  | .free=>(match xs.lookup y.1 with | some .cell=>true | some .free=>true | _=>false)
  | _=>true) && e8 xn scope.names N js
theorem mr.of {X:Cx}{N:List Str}{js:List (Option Nat)}{scope:Scope}(h:ub X.N X.env.scope.names N js scope=true):mr X N js scope:=by
 unfold ub at h
 simp only [Bool.and_eq_true,List.all_eq_true] at h
 obtain ⟨⟨h1,h2⟩,h3⟩:=h
 refine ⟨?_,λy hy e=>?_,λy hy e=>?_,λy hy e=>?_,nQ h3,pF h3⟩
 . cases q:scope.kind <;> rw [q] at h1 <;> first | rfl | cases h1
 . have:=h2 y hy
   rw [e] at this
   cases this
 . have:=h2 y hy
   rw [e] at this
   cases q:scope.names.lookup y.1 with
   | none=>rw [q] at this; cases this
   | some k=>rw [q] at this; cases k <;> first | rfl | cases this
 . have:=h2 y hy
   rw [e] at this
   show X.env.scope.names.lookup y.1=some .cell\/X.env.scope.names.lookup y.1=some .free
   cases q:X.env.scope.names.lookup y.1 with
   | none=>rw [q] at this; cases this
   | some k=>rw [q] at this; cases k <;> first | exact .inl rfl | exact .inr rfl | cases this
def qp (js:List (Option Nat)) (σ:St):St:=js.map λoj=>match oj with | none=>none | some j=>(σ[j]?).getD none
section
variable {X:Cx}{pins:List (Addr×Obj)}{σ:St}{H:Hp}{s:Shared}
theorem Inv.enter {N:List Str}{js:List (Option Nat)}{scope:Scope}{cl:List (Str×Addr)}{C:Addr}{fp:List Addr}{h':Heap}{m:Str->Option Value}{tk:Nat}(I:Inv X pins σ H s) (S:mr X N js scope) (hc:X.calm=true)
 (et:∀x c,cl.lookup x=some c->X.env.cells.lookup x=some c) (Bb:∀x∈scope.names,x.2=NameKind.free->∃c,cl.lookup x.1=some c) (hC:C=s.heap.objs.size)
 (hf:∀b∈fp,iT X pins H b) (hl:∀b∈fp,b<s.heap.objs.size) (hn:h'.Ns C m) (k:∀b o,s.heap.get? b=some o->h'.get? b=some o) :
 Inv (cW X N scope cl C s H fp (X.pn++pins)) [] (qp js σ) H { s with heap:=h',toks:=tk }:=by
 have lt:∀b o,s.heap.get? b=some o->b≠C:=λb o e=>by
  rw [hC]
  exact Nat.ne_of_lt (Heap.lt_size e)
 have Ef:∀x,scope.names.lookup x=some .free->∃c,cl.lookup x=some c:=λx e=>Bb _ (lookup_mem e) rfl
 have stk:∀b,b≠X.env.locals->b∉X.fs->b∉oH X.stack:=λb h1 h2 z=>(List.mem_cons.mp (I.tK b z)).elim h1 h2
 have ok:(cW X N scope cl C s H fp (X.pn++pins)).Ok:=by
  refine ⟨I.ok.mod,S.kind,I.ok.glob,I.ok.blt,Nat.le_of_eq hC.symm,λx y c e1 e2=>I.ok.inj x y c (et x c e1) (et y c e2),λx hx=>Ef x (Ee S.nocell hx),λx c e _=>?_,λ_=>I.ok.hd hc,
   I.ok.frames,.inl rfl,λb hb=>⟨?_,λx c e=>(hf b hb).2.2.2.2.1 x c (et x c e)⟩,I.bs,Nat.le_trans I.ok.bsz I.sz,λb o e hb=>?_,λb hb=>stk b (hf b hb).2.1 (hf b hb).2.2.1,I.stack,I.AQ⟩
  . cases e
  . show b≠C
    rw [hC]
    exact Nat.ne_of_lt (hl b hb)
  . rcases (hf b hb).2.2.2.1 with z | z
    . exact I.ok.noex b o e z
    . exact absurd (Nat.lt_of_lt_of_le (Heap.lt_size e) (Nat.le_trans I.ok.bsz z)) (Nat.lt_irrefl _)
 refine ⟨ok,rfl,I.bare,Un.kept k,⟨m,hn,λi x v e1 e2 e3=>?_⟩,λx c e=>?_,?_,λx c e=>I.freeC x c (et x c e),λp hp=>?_,I.hok.kept k,?_⟩
 . -- a name that the block closes over
   have yw:(qp js σ)[i]?=some (some v):=e2
   unfold qp at yw
   rw [List.getElem?_map] at yw
   cases q:js[i]? with
   | none=>rw [q] at yw; cases yw
   | some oj=>
    rw [q] at yw
    cases oj with
    | none=>cases yw
    | some j=>
     have ev:(σ[j]?).getD none=some v:=Option.some.inj yw
     have ev':σ[j]?=some (some v):=by
      cases z:σ[j]? with
      | none=>rw [z] at ev; cases ev
      | some o=>rw [z] at ev; exact congrArg some ev
     obtain ⟨n1,n2⟩:=S.pull i j x q e1
     obtain ⟨c,eQ⟩:=Ef x n2
     have hcX:=et x c eQ
     obtain ⟨m0,_,uc⟩:=I.loc
     have kx:=S.frees (x,.free) (lookup_mem n2) rfl
     have SJ:X.env.kindOf x=some .cell\/X.env.kindOf x=some .free:=kx
     obtain ⟨u,ru,lk⟩:=uc j x v n1 ev' (SJ.elim (λz=>.inr (.inl z)) λz=>.inr (.inr z))
     refine ⟨u,ru,.inr ⟨Gz n2,c,eQ,?_⟩⟩
     rcases lk with ⟨kl,_⟩ | ⟨_,c2,e2,ic⟩
     . rcases SJ with z | z <;> (rw [kl] at z; cases z)
     . rw [hcX] at e2
       cases e2
       obtain ⟨o,ho,hd⟩:=ic
       exact ⟨o,k c o ho,hd⟩
 . obtain ⟨v,o,ho,hd⟩:=I.cell x c (et x c e)
   exact ⟨v,o,k c o ho,hd⟩
 . show H C=none
   rw [hC]
   exact I.hok.fresh (Nat.le_refl _)
 . have yx:p∈X.pn++pins:=by simpa [cW] using hp
   obtain ⟨e,n,ne,nf,d⟩:=I.pin p yx
   exact ⟨k _ _ e,n,lt _ _ e,stk _ ne nf,d⟩
 . show (qp js σ).length=N.length
   unfold qp
   rw [List.length_map]
   exact S.len
theorem Inv.left {N:List Str}{scope:Scope}{cl:List (Str×Addr)}{C:Addr}{fp:List Addr}{σc:St}{H':Hp}{s':Shared}{pn:List (Addr×Obj)}(I:Inv X pins σ H s) (hf:∀b∈fp,iT X pins H b)
 (J:Inv (cW X N scope cl C s H fp pn) [] σc H' s'):Inv X pins σ H' s':=
 I.PX (ch:=fp) J.os J.base J.hok J.bare λb hb=>⟨(hf b hb).2.2.2.1,(hf b hb).2.1,(hf b hb).2.2.2.2.1,(hf b hb).2.2.2.2.2⟩
end
def yy (X:Cx) (ifs:List Expr) (t:TT):Prop:=
 ∀(pins:List (Addr×Obj)) (s:Shared) (σ:St) (H:Hp) (Q:Bool->Hp->Prop),Inv X pins σ H s->t σ H Q->
  wpAny (model X.prog X.w) X.A (forIn ifs true λc r=>if r=true then do let ok ← isTrue c X.env (eval c X.env); pure (ForInStep.yield ok) else pure (ForInStep.yield r)) (TP X pins σ Q) X.xe s
def sG:TT:=λ_ H Q=>Q true H
theorem bj {X:Cx} : yy X [] sG:=λpins s σ H Q I h=>by
 rw [List.forIn_nil]
 exact wpAny_pure ⟨H,I,h⟩
theorem nS {X:Cx}{c:Expr}{t:TT}(hc:PT X c t):yy X [c] t:=λpins s σ H Q I h=>by
 rw [List.forIn_cons]
 refine wpAny_bind ?_
 rw [if_pos rfl]
 refine wpAny_bind (aJ (hc pins s σ H Q I h) λb s1 h1=>?_)
 refine wpAny_pure ?_
 show wpAny _ _ (forIn [] b _) _ _ _
 rw [List.forIn_nil]
 exact wpAny_pure h1
theorem yz {prog:Program}{w:World}{A:Around}{R:Result->Shared->Prop}{s:Shared}{elt target iter:Expr}{ifs:List Expr}{scope:Scope}{pos:Pos}{it acc:Value}{env:Env}(I:Nat->Shared->Prop)
 (turn:∀n s,I n s->wpAny (model prog w) A (pyNext it) (λr dm=>match r with
  | none=>R (.ok .next) dm
  | some v=>wpAny (model prog w) A (letOwnedTupleGo target it v) (λ_ SK=>wpAny (model prog w) A (assign target env v) (λ_ uU=>
   wpAny (model prog w) A (forIn ifs true λc r=>if r=true then do let ok ← isTrue c env (eval c env); pure (ForInStep.yield ok) else pure (ForInStep.yield r)) (λok Kf=>
    if ok=true then wpAny (model prog w) A (eval elt env) (λx aaB=>
     wpAny (model prog w) A (call (.builtin "list.append") [acc,x]) (λ_ aaC=>∃m,m<n/\I m aaC) (λ_ _=>False) aaB) (λ_ _=>False) Kf
    else ∃m,m<n/\I m Kf) (λ_ _=>False) uU) (λ_ _=>False) SK) (λ_ _=>False) dm) (λ_ _=>False) s)
 (n:Nat) (h:I n s) :
 codeAny (model prog w) A (.compLoop (.ListComp elt [⟨target,iter,ifs,0⟩] scope pos) 0 it acc env) R s:=by
 refine codeAny_loop rfl I (λn s hI=>?_) n h
 show wpAny _ A ((compTurn (.ListComp elt [⟨target,iter,ifs,0⟩] scope pos) 0 it acc env).onRaise (λx=>do noteFrame x env; theTreesLotGoes x)) _ _ s
 refine wpAny_noted ?_
 rw [compTurn_list]
 refine wpAny_bind (wpAny_standAt (wpAny_bind (wpAny_mono (turn n s hI) (λr dm kI=>?_) λ_ _ h'=>h'.elim)))
 cases r with
 | none=>exact wpAny_pure kI
 | some v=>
  refine wpAny_bind (wpAny_mono kI (λ_ SK aaD=>?_) λ_ _ h'=>h'.elim)
  refine wpAny_bind (wpAny_mono aaD (λ_ uU pf=>wpAny_bind (wpAny_mono pf (λok Kf u0=>?_) λ_ _ h'=>h'.elim)) λ_ _ h'=>h'.elim)
  cases ok with
  | false=>exact wpAny_pure ⟨rfl,u0⟩
  | true=>
   exact wpAny_bind (wpAny_bind (wpAny_mono u0 (λx aaB CT=>wpAny_bind (wpAny_mono CT (λ_ aaC hZ=>wpAny_pure (wpAny_pure ⟨rfl,hZ⟩)) λ_ _ h'=>h'.elim)) λ_ _ h'=>h'.elim))
def Bc (D:Addr) (g:TG) (ti:TT) (te:TE) (J:It) (W:Nat->Nat->St->Hp->Prop) (Q:Hp->Prop):Prop:=∀i m σ H,W i m σ H->
 (J.stop i H/\Q H)\/(J.go i H/\∀x H',J.yld i H x H'->g x σ H' λgu H2=>ti gu H2 λb H3=>
  if b=true then te gu H3 λy H4=>∃acc,H4 D=some (.lst acc)/\acc.length<sizeLine/\∃m',m'<m/\W (i+1) m' gu (upd H4 D (.lst (acc++[y])))
  else ∃m',m'<m/\W (i+1) m' gu H3)
def L4 (js:List (Option Nat)) (wi:TI) (g:TG) (ti:TT) (te:TE):TE:=λσ H Q=>wi σ H λJ H1=>∀D,H1 D=none->
 ∃W:Nat->Nat->St->Hp->Prop,(∃m,W 0 m (qp js σ) (upd H1 D (.lst [])))/\Bc D g ti te J W (λH'=>Q (.ref D) H')
section
variable {X:Cx}{N:List Str}{js:List (Option Nat)}{scope:Scope}{elt tg iter:Expr}{ifs:List Expr}{pos:Pos}{wi:TI}{g:TG}{ti:TT}{te:TE}
theorem Eg {use:Option (Value->Sem Unit)}{R:Value->Shared->Prop}(S:mr X N js scope) (hc:X.calm=true) (hi:PI X tg iter wi)
 (hg:∀cl C s H fp pn,PG (cW X N scope cl C s H fp pn) tg g) (ht:∀cl C s H fp pn,yy (cW X N scope cl C s H fp pn) ifs ti) (he:∀cl C s H fp pn,PE (cW X N scope cl C s H fp pn) elt te)
 (hs:∀x,foldedSetIterable iter X.env x=pure x){pins:List (Addr×Obj)}{s:Shared}{σ:St}{H:Hp}{Q:V->Hp->Prop}(I:Inv X pins σ H s) (h:L4 js wi g ti te σ H Q)
 (hR:∀D C (H':Hp) (s':Shared),Inv X pins σ H' s'->(∃m,s'.heap.Ns C m)->H' C=none->C≠X.env.locals->(C∈X.ex\/X.jS.heap.objs.size<=C)->(∀x c,X.env.cells.lookup x=some c->c≠C)->(∀p∈X.pn++pins,p.1≠C)->Q (.ref D) H'->
  compPost (model X.prog X.w) X.A X.xe use R (.ref D) C (.ok .next) s') :
 wpAny (model X.prog X.w) X.A (comprehension (.ListComp elt [⟨tg,iter,ifs,0⟩] scope pos) scope X.env (firstIterPos [⟨tg,iter,ifs,0⟩] pos) (newList []) false (eval iter X.env) use) R X.xe s:=by
 obtain ⟨cl,Qp,et,Bb⟩:=u9 (scope:=scope) (env:=X.env) λx hx hk=>I.ok.has x.1 (S.frees x hx hk)
 refine wpAny_comprehension_free (use:=use) rfl hs Qp S.kind S.names (aJ (hi pins s σ H _ I h) λxv s1 h1=>aJ h1 λLA s2 h2=>?_)
 obtain ⟨it,fp,tn,J,H2,e,I2,T,qZ,f2,q2⟩:=h2
 subst e
 refine wpAny_newObj_type (wpAny_newFunctionEnv S.nocell (by intro y hy; simp at hy) (λkI GA GC=>?_) S.kind)
 dsimp only at GA GC ⊢
 have I3:Inv X pins σ (upd H2 s2.heap.objs.size (.lst [])) { s2 with heap:=s2.heap.push { cls:=.type "list",data:=.seq ([]:List Value).toArray },toks:=s2.toks }:=I2.Gu .nil (by show 0<=sizeLine; decide)
 have lt2:∀b∈fp,b<s2.heap.objs.size:=λb hb=>let ⟨o,e,_⟩:=T.obj _ _ qZ b hb; Heap.lt_size e
 have f3:∀b∈fp,iT X pins (upd H2 s2.heap.objs.size (.lst [])) b:=λb hb=>⟨by rw [ai (Nat.ne_of_lt (lt2 b hb))]; exact (f2 b hb).1,(f2 b hb).2⟩
 obtain ⟨W,⟨m0,w0⟩,turn⟩:=q2 s2.heap.objs.size (I2.hok.fresh (Nat.le_refl _))
 generalize Im:({ s2 with heap:=s2.heap.push { cls:=.type "list",data:=.seq ([]:List Value).toArray },toks:=s2.toks } : Shared)=s3 at I3
 have e3:s3.heap=s2.heap.push { cls:=.type "list",data:=.seq ([]:List Value).toArray }:=by rw [← Im]
 have z3:s3.heap.objs.size=s2.heap.objs.size+1:=by rw [e3,Heap.size_push]
 have k1:∀b o,s3.heap.get? b=some o->kI.get? b=some o:=λb o e=>by
  have hb:b<s3.heap.objs.size:=Heap.lt_size e
  refine GC.extBut b o ?_ (Heap.get?_push_of_some _ (by rw [← e3]; exact e))
  rw [← e3]
  exact Nat.ne_of_lt hb
 have hC:(s2.heap.push { cls:=.type "list",data:=.seq ([]:List Value).toArray }).objs.size=s3.heap.objs.size:=by rw [e3]
 have I4:=I3.enter (N:=N) (js:=js) (scope:=scope) (cl:=cl) (fp:=fp) (C:=(s2.heap.push { cls:=.type "list",data:=.seq ([]:List Value).toArray }).objs.size) (h':=kI) (tk:=s2.toks+([]:List (Str×Value)).length) S hc et Bb hC f3
  (λb hb=>by rw [z3]; exact Nat.lt_succ_of_lt (lt2 b hb)) GA k1
 have SM:tn 0 kI:=T.keep _ _ _ qZ λb hb o e=>k1 b o (by rw [e3]; exact Heap.get?_push_of_some _ e)
 generalize hCC:(s2.heap.push { cls:=.type "list",data:=.seq ([]:List Value).toArray }).objs.size=C at GA GC hC I4 ⊢
 have hs4:({ s3 with heap:=kI,toks:=s2.toks+([]:List (Str×Value)).length } : Shared) = { s2 with heap:=kI,toks:=s2.toks+([]:List (Str×Value)).length }:=by rw [← Im]
 rw [hs4] at I4
 have fY:∀{H':Hp},(∀b∈fp,H' b=none)->∀b∈fp,iT (cW X N scope cl C s3 (upd H2 s2.heap.objs.size (.lst [])) fp (X.pn++pins)) [] H' b:=λhn b hb=>by
  obtain ⟨f0,fa,fb,fc,fd,fe⟩:=f3 b hb
  refine ⟨hn b hb,?_,λz=>(List.mem_cons.mp (I3.tK b z)).elim fa fb,.inl hb,λx c e=>fd x c (et x c e),λp hp=>fe p (by simpa [cW] using hp)⟩
  show b≠C
  rw [hC,z3]
  exact Nat.ne_of_lt (Nat.lt_succ_of_lt (lt2 b hb))
 have loop:codeAny (model X.prog X.w) X.A (.compLoop (.ListComp elt [⟨tg,iter,ifs,0⟩] scope pos) 0 (.ref it) (.ref s2.heap.objs.size) (compEnvC scope cl C X.env))
  (compPost (model X.prog X.w) X.A X.xe use R (.ref s2.heap.objs.size) C) { s2 with heap:=kI,toks:=s2.toks+([]:List (Str×Value)).length }:=by
  refine yz (λn s'=>∃i bx H',Inv (cW X N scope cl C s3 (upd H2 s2.heap.objs.size (.lst [])) fp (X.pn++pins)) [] bx H' s'/\tn i s'.heap/\(∀b∈fp,H' b=none)/\W i n bx H') ?_ m0
   ⟨0,_,_,I4,SM,λb hb=>(f3 b hb).1,w0⟩
  rintro n s5 ⟨i,Qq,H5,I5,AU,HY,w5⟩
  rcases turn i n Qq H5 w5 with ⟨stop,qn⟩ | ⟨go,step⟩
  . refine aJ (T.done (cW X N scope cl C s3 (upd H2 s2.heap.objs.size (.lst [])) fp (X.pn++pins)) rfl rfl rfl rfl i [] s5 Qq H5 (λ_ _=>False) I5 (fY HY) AU stop) λr s6 ⟨hr,I6⟩=>?_
    subst hr
    have I7:Inv X pins σ H5 s6:=I3.left f3 I6
    have hCs:X.jS.heap.objs.size<=C:=by rw [hC]; exact I3.sz
    refine hR s2.heap.objs.size C H5 s6 I7 (let ⟨m,hn,_⟩:=I6.loc; ⟨m,hn⟩) I6.free ?_ (.inr hCs) (λx c e z=>?_) (λp hp z=>?_) qn
    . rw [hC]
      exact Nat.ne_of_gt I3.lt
    . obtain ⟨v,o,ho,_⟩:=I3.cell x c e
      have:=Heap.lt_size ho
      rw [z,hC] at this
      exact Nat.lt_irrefl _ this
    . obtain ⟨e,_⟩:=I3.pin p hp
      have:=Heap.lt_size e
      rw [z,hC] at this
      exact Nat.lt_irrefl _ this
  . refine aJ (T.item (cW X N scope cl C s3 (upd H2 s2.heap.objs.size (.lst [])) fp (X.pn++pins)) rfl rfl rfl rfl i [] s5 Qq H5 (λ_ _=>False) I5 (fY HY) AU go) λr s6 ⟨u,hr,h6⟩=>?_
    subst hr
    refine aJ h6 λ_ s7 ⟨x,H7,I7,r7,y7,L8,fr7⟩=>?_
    have I7':=I7.pinned (fY fr7) (T.obj _ _ L8)
    have again:∀{n':Nat}{Eh:St}{H8:Hp}{s8:Shared},Inv (cW X N scope cl C s3 (upd H2 s2.heap.objs.size (.lst [])) fp (X.pn++pins)) ([]++oZ fp s7.heap) Eh H8 s8->n'<n->W (i+1) n' Eh H8->
     ∃m,m<n/\∃i bx H',Inv (cW X N scope cl C s3 (upd H2 s2.heap.objs.size (.lst [])) fp (X.pn++pins)) [] bx H' s8/\tn i s8.heap/\(∀b∈fp,H' b=none)/\W i m bx H':=λ{n' Eh H8 s8} I8 hm w8=>by
     refine ⟨n',hm,i+1,Eh,H8,I8.nH,T.keep _ _ _ L8 λb hb o e=>(I8.pin (b,o) (List.mem_append_right _ (List.mem_append_right _ (j4 hb e)))).1,λb hb=>?_,w8⟩
     obtain ⟨o,e,d⟩:=T.obj _ _ L8 b hb
     exact (I8.pin (b,o) (List.mem_append_right _ (List.mem_append_right _ (j4 hb e)))).2.1
    refine aJ (hg _ _ _ _ _ _ _ s7 Qq H7 x u _ I7' r7 (step x H7 y7)) λ_ s8 ⟨Eh,H8,I8,q8⟩=>?_
    refine aJ (ht _ _ _ _ _ _ _ s8 Eh H8 _ I8 q8) λok s9 ⟨H9,I9,q9⟩=>?_
    cases ok with
    | false=>
     rw [if_neg Bool.false_ne_true] at q9 ⊢
     obtain ⟨m',hm,w9⟩:=q9
     exact again I9 hm w9
    | true=>
     rw [if_pos rfl] at q9 ⊢
     refine aJ (he _ _ _ _ _ _ _ s9 Eh H9 _ I9 q9) λyv Ei ⟨y,yA,I10,r10,acc,hD,hl,m',hm,w10⟩=>?_
     refine aJ (dj _ Ei Eh yA (.ref s2.heap.objs.size) [y] (.ref s2.heap.objs.size) [yv] (λ_ H'=>H'=upd yA s2.heap.objs.size (.lst (acc++[y]))) I10 rfl (.cons r10 .nil) ⟨s2.heap.objs.size,acc,y,rfl,rfl,hD,hl,rfl⟩) λ_ L9 ⟨_,Ej,I11,_,e11⟩=>?_
     subst e11
     exact again I11 hm w10
 exact codeAny_compStart_list loop (T.self _ 0 _ _ _ SM loop)
theorem cX (S:ub X.N X.env.scope.names N js scope=true) (hc:X.calm=true) (hi:PI X tg iter wi)
 (hg:∀cl C s H fp pn,PG (cW X N scope cl C s H fp pn) tg g) (ht:∀cl C s H fp pn,yy (cW X N scope cl C s H fp pn) ifs ti) (he:∀cl C s H fp pn,PE (cW X N scope cl C s H fp pn) elt te)
 (hs:∀x,foldedSetIterable iter X.env x=pure x:=by intro _; rfl):PE X (.ListComp elt [⟨tg,iter,ifs,0⟩] scope pos) (L4 js wi g ti te):=by
 intro pins s σ H Q I h
 rw [eval_ListComp]
 refine Eg (use:=none) (mr.of S) hc hi hg ht he hs I h ?_
 rintro D C H' s' I' ⟨m,hn⟩ c1 c2 c3 c4 c5 q
 refine ⟨m,hn,λh' Ma=>?_⟩
 exact ⟨.ref D,H',I'.turned (t':=s'.toks) (λb o hb e=>Ma.extBut b o hb e) c1 c2 c3 c4 c5,rfl,q⟩
theorem qq {i:Nat}{x:Str}{pos' Mb:Pos}(hN:X.N.Nodup) (mw:X.N[i]?=some x) (hx:X.env.scope.names.lookup x=some .local) (S:ub X.N X.env.scope.names N js scope=true) (hc:X.calm=true) (hi:PI X tg iter wi)
 (hg:∀cl C s H fp pn,PG (cW X N scope cl C s H fp pn) tg g) (ht:∀cl C s H fp pn,yy (cW X N scope cl C s H fp pn) ifs ti) (he:∀cl C s H fp pn,PE (cW X N scope cl C s H fp pn) elt te)
 (hsw:swapsWith (.ListComp elt [⟨tg,iter,ifs,0⟩] scope pos) (some (.Name x pos')) Mb.line X.env=pure true:=by rfl)
 (hs:∀x,foldedSetIterable iter X.env x=pure x:=by intro _; rfl):PS X (.Assign [.Name x pos'] (.ListComp elt [⟨tg,iter,ifs,0⟩] scope pos) Mb) (x4 (L4 js wi g ti te) (dr i)):=by
 intro pins s σ H D I h
 rw [exec_Assign_Name_used _ _ _ _ hsw]
 refine wpAny_bind (wpAny_standAt (wpAny_bind ?_))
 show wpAny _ X.A (do let _ ← comprehension (.ListComp elt [⟨tg,iter,ifs,0⟩] scope pos) scope X.env _ (newList []) false (eval iter X.env) (some (assign (.Name x pos') X.env))) _ _ s
 refine wpAny_bind (aJ (Eg (use:=some (assign (.Name x pos') X.env)) (R:=λ_ s'=>SP X pins D .next s') (mr.of S) hc hi hg ht he hs I h ?_) λ_ s' hq=>wpAny_pure (wpAny_pure hq))
 rintro Dd C H' s' I' ⟨m,hn⟩ c1 c2 c3 c4 c5 q
 show wpAny _ X.A (assign (.Name x pos') X.env (.ref Dd)) _ _ _
 refine wpAny_assign_Name (vQ I' hN mw (.inl hx) (v:=.ref Dd) rfl (λDY I'' ⟨a,sb,ha⟩=>?_) (.inr hx))
 have ea:a≠C:=by
  rcases ha with ha | ha
  . rw [ha]
    exact Ne.symm c2
  . exact c4 x a ha
 refine ⟨m,hn.sameBut sb (Ne.symm ea),λh' Ma=>?_⟩
 exact ⟨_,_,I''.turned (t':=DY.toks) (λb o hb e=>Ma.extBut b o hb e) c1 c2 c3 c4 c5,q⟩
end
def Bd (D:Addr) (n:Nat) (Pv:Nat->List V->St->Hp->Prop):Nat->Nat->St->Hp->Prop:=λi m σ H=>i<=n/\m=n-i/\∃acc,H D=some (.lst acc)/\Pv i acc σ H
theorem bo {D:Addr}{n i:Nat}{Pv:Nat->List V->St->Hp->Prop}{acc:List V}{σ:St}{H:Hp}(hi:i<n) (hD:H D=some (.lst acc)) (hp:Pv (i+1) acc σ H):∃m',m'<n-i/\Bd D n Pv (i+1) m' σ H:=
 ⟨n-(i+1),by omega,hi,rfl,acc,hD,hp⟩
theorem cY {D:Addr}{g:TG}{ti:TT}{te:TE}{J:It}{Q:Hp->Prop}{σ0:St}{H0:Hp}(n:Nat) (Pv:Nat->List V->St->Hp->Prop) (h0:Pv 0 [] σ0 H0) (Be:H0 D=some (.lst []))
 (fin:∀acc σ H,H D=some (.lst acc)->Pv n acc σ H->J.stop n H/\Q H)
 (step:∀i acc σ H,i<n->H D=some (.lst acc)->Pv i acc σ H->J.go i H/\∀x H',J.yld i H x H'->g x σ H' λgu H2=>ti gu H2 λb H3=>
  if b=true then te gu H3 λy H4=>∃acc,H4 D=some (.lst acc)/\acc.length<sizeLine/\∃m',m'<n-i/\Bd D n Pv (i+1) m' gu (upd H4 D (.lst (acc++[y]))) else ∃m',m'<n-i/\Bd D n Pv (i+1) m' gu H3) :
 ∃W:Nat->Nat->St->Hp->Prop,(∃m,W 0 m σ0 H0)/\Bc D g ti te J W Q:=by
 refine ⟨Bd D n Pv,⟨n,Nat.zero_le _,rfl,[],Be,h0⟩,?_⟩
 rintro i m σ H ⟨hi,rfl,acc,hD,hp⟩
 rcases Nat.lt_or_ge i n with h | h
 . exact .inr (step i acc σ H h hD hp)
 . have e:i=n:=Nat.le_antisymm hi h
   subst e
   exact .inl (fin acc σ H hD hp)
end L2
namespace L2
open PySem PySem.Spec PyProof.Rows
section
variable {X:Cx}{pins:List (Addr×Obj)}{σ:St}{H:Hp}{s:Shared}{h':Heap}
theorem Inv.qr {t':Nat}{fp:List Addr}(I:Inv X pins σ H s) (hf:∀b∈fp,iT X pins H b) (k:∀b o,b∉fp->s.heap.get? b=some o->h'.get? b=some o):Inv X pins σ H { s with heap:=h',toks:=t' }:=by
 have Ek:∀b u,H b=some u->b∉fp:=λb u e z=>by rw [(hf b z).1] at e; cases e
 refine I.step (g':=s.gens) (d':=s.drawn) (ch:=fp) (λb hb=>⟨(hf b hb).2.2.2.1,(hf b hb).2.1,(hf b hb).2.2.2.2.1,(hf b hb).2.2.2.2.2⟩) (λb o _ _ hc e _=>k b o hc e) (λb o _ _ hc e _=>⟨o.slots,k b o hc e⟩) (λ_ _ _ _ n=>n)
  (λb o hc e=>⟨o,k b o hc e⟩) (λ_ _ e=>e) (λ_ _ _ e=>e) (λb ps e=>⟨#[],by rw [e]; simp⟩) (λm hm=>?_) (λb u e=>?_) I.bare
 . obtain ⟨o,es,ep,ho,r⟩:=hm
   exact ⟨o,es,ep,k _ o (λz=>(hf _ z).2.1 rfl) ho,r⟩
 . refine (I.hok b u e).ku (λc v hc q=>k c v ?_ q) (λ_ q=>q) λ_ _ q=>q
   rcases hc with z | z
   . rw [z]; exact Ek b u e
   . exact Ek c _ z
theorem Inv.qt {t':Nat}{fp:List Addr}{T:Addr}{xs:List V}{its:List Value}(I:Inv X pins σ H s) (hf:∀b∈fp,iT X pins H b) (k:∀b o,b∉fp->s.heap.get? b=some o->h'.get? b=some o)
 (hT:s.heap.objs.size<=T) (ht:IsTup h' T its.toArray) (rv:Vals xs its) (hz:xs.length<=sizeLine):Inv X pins σ (upd H T (.tup xs)) { s with heap:=h',toks:=t' }:=by
 have Ek:∀b u,H b=some u->b∉fp:=λb u e z=>by rw [(hf b z).1] at e; cases e
 have ud:H T=none:=I.hok.fresh hT
 have neT:∀b u,H b=some u->b≠T:=λb u e z=>by rw [z,ud] at e; cases e
 have ltT:∀b o,s.heap.get? b=some o->b≠T:=λb o e=>Nat.ne_of_lt (Nat.lt_of_lt_of_le (Heap.lt_size e) hT)
 refine I.step (g':=s.gens) (d':=s.drawn) (ch:=fp) (λb hb=>⟨(hf b hb).2.2.2.1,(hf b hb).2.1,(hf b hb).2.2.2.2.1,(hf b hb).2.2.2.2.2⟩) (λb o _ _ hc e _=>k b o hc e) (λb o _ _ hc e _=>⟨o.slots,k b o hc e⟩)
  (λb o _ e n=>by rw [ai (ltT b o e)]; exact n) (λb o hc e=>⟨o,k b o hc e⟩) (λb ys e=>by rw [ai (neT b _ e)]; exact e) (λb o u e=>by rw [ai (neT b _ e)]; exact e)
  (λb ps e=>⟨#[],by rw [ai (neT b _ e),e]; simp⟩) (λm hm=>?_) (λb u e=>?_) I.bare
 . obtain ⟨o,es,ep,ho,r⟩:=hm
   exact ⟨o,es,ep,k _ o (λz=>(hf _ z).2.1 rfl) ho,r⟩
 . by_cases hb:b=T
   . subst hb
     rw [ag] at e
     cases e
     exact ⟨hz,its,rv,ht⟩
   . rw [ai hb] at e
     refine (I.hok b u e).ku (λc v hc q=>k c v ?_ q) (λc q=>by rw [ai (neT c _ q)]; exact q) λc ys q=>by rw [ai (neT c _ q)]; exact q
     rcases hc with z | z
     . rw [z]; exact Ek b u e
     . exact Ek c _ z
end
def Mc (z:Str):It:=⟨λi _=>i<z.cps.size,λi H x H'=>H'=H/\∃c,z.cps[i]?=some c/\x=.str ⟨#[c]⟩,λi _=>i=z.cps.size⟩
theorem yB {P:Program}{w:World}{K:W.Frag}{tg:Expr}(it:Addr) (z:Str) (t:Tok) (ty:String) (W:∀A:Around,A.handled=none->Walks P w A it [it] [it] z.cps.size (SignAt z) (λi h=>h.IsStrIter it ty z t i))
 (hs:∀(A:Around) (i:Nat) (s:Shared) (Q:Value->Shared->Prop) (E:Value->Shared->Prop),s.heap.IsStrIter it ty z t i->Q (.ref it) s->wpAny (model P w) A (pyIter (.ref it)) Q E s)
 (hn:["enumerate", "zip", "dict_itemiterator", "dict_reverseitemiterator", "odict_iterator", "itertools.zip_longest", "itertools.pairwise"].contains ty=false) :
 Turn P w K tg (Mc z) [it] it (λi h=>h.IsStrIter it ty z t i) where
 mem:=by simp
 obj:=λi h st b hb=>by
  have e:b=it:=by simpa using hb
  subst e
  obtain ⟨o,e,c,d⟩:=st
  exact ⟨o,e,λv z=>by rw [d] at z; cases z⟩
 keep:=λi h h' st k=>let ⟨o,e,r⟩:=st; ⟨o,k it (by simp) o e,r⟩
 item:=by
  intro X hP hw hK hc i pins s σ H E I hf st hg
  subst hP hw hK
  obtain ⟨f0,f1,f2,f3,f4,f5⟩:=hf it (by simp)
  refine (W X.A (I.ok.hd hc)).item i s _ _ hg st λv h' tk hv aP kk=>?_
  obtain ⟨c,u,ec,rfl⟩:=hv
  have I1:Inv X pins σ H { s with heap:=h',toks:=tk }:=I.turned (λb o hb e=>kk b o (by simpa using hb) e) f0 f1 f3 f4 f5
  obtain ⟨o,e,oc,od⟩:=id aP
  exact ⟨_,rfl,tP (s:={ s with heap:=h',toks:=tk }) e oc od hn ⟨.str ⟨#[c]⟩,H,I1,⟨u,rfl⟩,⟨rfl,c,ec,rfl⟩,aP,λb hb=>(hf b hb).1⟩⟩
 done:=by
  intro X hP hw hK hc i pins s σ H E I hf st hg
  subst hP hw hK
  obtain ⟨f0,f1,f2,f3,f4,f5⟩:=hf it (by simp)
  have yC:i=z.cps.size:=hg
  subst yC
  exact (W X.A (I.ok.hd hc)).done s _ _ st λh' tk kk=>⟨rfl,I.turned (λb o hb e=>kk b o (by simpa using hb) e) f0 f1 f3 f4 f5⟩
 self:=λA i s Q E st h=>hs A i s Q E st h
section
variable {X:Cx}{tg:Expr}
def VY (ts:TE):TI:=λσ H R=>ts σ H λx H1=>∃z,x=.str z/\R (Mc z) H1
theorem ue {l:Expr}{tl:TE}(hl:PE X l tl):PI X tg l (VY tl):=by
 intro pins s σ H R I h
 refine aJ (hl pins s σ H _ I h) λv s1 ⟨x,H1,I1,r1,q1⟩=>?_
 obtain ⟨z,e,q⟩:=q1
 subst e
 obtain ⟨t,rfl⟩:=r1
 have fin:∀b∈[s1.heap.objs.size],iT X pins H1 b:=λb hb=>by
  have e:b=s1.heap.objs.size:=by simpa using hb
  subst e
  exact I1.nG (Nat.le_refl _) (I1.hok.fresh (Nat.le_refl _))
 cases ha:z.cps.all (· < 128) with
 | true=>
  refine wpAny_pyIter_ascii ha ?_
  exact ⟨s1.heap.objs.size,[s1.heap.objs.size],_,_,H1,rfl,I1.kept (t':=s1.toks) λb o e=>Heap.get?_push_of_some _ e,
   yB _ z t "str_ascii_iterator" (λA hA=>Walks.strAscii hA _ z t) (λ_ _ _ _ _ st h=>wpAny_pyIter_striter_ascii st h) (by decide),⟨_,Heap.get?_push_size _ rfl,rfl,rfl⟩,fin,q⟩
 | false=>
  refine wpAny_pyIter_wide ha ?_
  exact ⟨s1.heap.objs.size,[s1.heap.objs.size],_,_,H1,rfl,I1.kept (t':=s1.toks) λb o e=>Heap.get?_push_of_some _ e,
   yB _ z t "str_iterator" (λA hA=>Walks.strWide hA _ z t) (λ_ _ _ _ _ st h=>wpAny_pyIter_striter_wide st h) (by decide),⟨_,Heap.get?_push_size _ rfl,rfl,rfl⟩,fin,q⟩
end
def SN (K:W.Frag) (a:Addr):It:=
 ⟨λi H=>∃xs x,aq K H a xs/\xs[i]?=some x,λi H v H'=>∃T x,v=.ref T/\H T=none/\H'=upd H T (.tup [.int (i:Int),x])/\∀xs,aq K H a xs->xs[i]?=some x,λi H=>∃xs,aq K H a xs/\xs.length<=i⟩
theorem El {P:Program}{w:World}{K:W.Frag}{es:List Expr}{kk:Nat}{tp:Pos}(a e it:Addr) (Bf:e≠it):Turn P w K (.Tuple es kk tp) (SN K a) [e,it] e (λi h=>(∃old,IsEnum h e it (i:Int) old)/\h.IsListIter it a i) where
 mem:=by simp
 obj:=λi h st b hb=>by
  obtain ⟨⟨old,he⟩,o,e1,c,d⟩:=st
  rcases List.mem_cons.mp hb with z | z
  . subst z
    exact ⟨_,he,λv z=>by
     have z':Data.fields _=Data.cell v:=z
     cases z'⟩
  . have z':b=it:=by simpa using z
    subst z'
    exact ⟨o,e1,λv z=>by rw [d] at z; cases z⟩
 keep:=λi h h' st k=>⟨let ⟨old,he⟩:=st.1; ⟨old,k e (by simp) _ he⟩,st.2.at λo e1=>k it (by simp) o e1⟩
 item:=by
  intro X hP hw hK hc i pins s σ H E I hf st hg
  subst hP hw hK
  obtain ⟨xs,x,hq,hx⟩:=hg
  obtain ⟨its,rv,p,hz⟩:=I.list hq
  obtain ⟨u,hu,ru⟩:=rv.get hx
  obtain ⟨⟨old,he⟩,hit⟩:=st
  refine wpAny_pyNext_enum_item he hit p.isList (x:=u) (by simpa using hu) Bf λh' ho VZ hT hsz hk=>?_
  refine ⟨.ref s.heap.objs.size,rfl,?_⟩
  refine wpAny_letOwnedTupleGo_enum ho λh2 Em ig=>?_
  have wg:s.heap.objs.size≠e:=Nat.ne_of_gt (Heap.lt_size he)
  have mx:h2.get? s.heap.objs.size=some { cls:=.type "tuple",data:=.seq #[.int i s.toks,u] }:=(ig.2 _ wg).trans hT
  have I1:Inv X pins σ (upd H s.heap.objs.size (.tup [.int (i:Int),x])) { s with heap:=h2,toks:=s.toks+1 }:=I.qt (its:=[.int i s.toks,u]) hf (λb o hb e1=>by
   have b1:b≠e:=λz=>hb (by simp [z])
   have b2:b≠it:=λz=>hb (by simp [z])
   exact (ig.2 b b1).trans (hk b o b1 b2 e1)) (Nat.le_refl _) ⟨_,mx,rfl,_,rfl⟩ (.cons ⟨_,rfl⟩ (.cons ru .nil)) (by show 2<=sizeLine; decide)
  have fr:H s.heap.objs.size=none:=I.hok.fresh (Nat.le_refl _)
  refine ⟨.ref s.heap.objs.size,_,I1,rfl,⟨s.heap.objs.size,x,rfl,fr,rfl,λys hy=>by rw [I.nF hy hq]; exact hx⟩,⟨⟨u,?_⟩,VZ.at λo e1=>(ig.2 it Bf.symm).trans e1⟩,λb hb=>?_⟩
  . have e3:(((i+1:Nat):Nat):Int)=(i:Int)+1:=by omega
    rw [e3]
    exact Em
  . have jD:=(hf b hb).1
    have nb:b≠s.heap.objs.size:=by
     rcases List.mem_cons.mp hb with z | z
     . rw [z]; exact Ne.symm wg
     . have z':b=it:=by simpa using z
       rw [z']
       obtain ⟨o,e1,_⟩:=hit
       exact Nat.ne_of_lt (Heap.lt_size e1)
    rw [ai nb]
    exact jD
 done:=by
  intro X hP hw hK hc i pins s σ H E I hf st hg
  subst hP hw hK
  obtain ⟨xs,hq,hx⟩:=hg
  obtain ⟨its,rv,p,hz⟩:=I.list hq
  obtain ⟨⟨old,he⟩,hit⟩:=st
  have hl:=rv.length
  exact wpAny_pyNext_enum_end (I.ok.hd hc) he hit p.isList (by simp; omega) λh' eb=>⟨rfl,I.qr (t':=s.toks) hf λb o hb e1=>eb b o (λz=>hb (by simp [z])) e1⟩
 self:=λ_ _ _ _ _ st h=>let ⟨old,he⟩:=st.1; wpAny_pyIter_enum he h
section
variable {X:Cx}
def Qr (K:W.Frag) (ta:TA):TI:=λσ H R=>ta σ H λvs H1=>∃a,vs=[.ref a]/\(∃xs,aq K H1 a xs)/\R (SN K a) H1
theorem Bg {es:List Expr}{kk:Nat}{tp:Pos}{a:Expr}{ta:TA}{p pos:Pos}(hg:Gl X "enumerate") (hm:X.mg "enumerate" = none) (ha:PA X [a] ta) (hs:starEach [a] X.env=[(false,eval a X.env)]:=by rfl) :
 PI X (.Tuple es kk tp) (.Call (.Name "enumerate" p) [a] [] pos) (Qr X.K ta):=by
 intro pins s σ H R I h
 refine Call_ (jA I hg hm boot_enumerate (PyProof.Rows.callWith_type1 (aJ (ha pos pins s σ H _ I h) λus s1 ⟨vs,H1,I1,r1,q1⟩=>?_) hs rfl))
 obtain ⟨l,e,⟨xs,hq⟩,q⟩:=q1
 subst e
 cases r1 with
 | cons r rr=>
  cases rr
  cases r
  obtain ⟨its,rv,pl,hz⟩:=I1.list hq
  refine call_enumerate_list pl.isList λh' he hit hsz hk=>?_
  refine wpAny_pyIter_enum he ?_
  have I2:Inv X pins σ H1 { s1 with heap:=h' }:=I1.kept (t':=s1.toks) hk
  refine ⟨s1.heap.objs.size+1,[s1.heap.objs.size+1,s1.heap.objs.size],_,_,H1,rfl,I2,El l _ _ (Nat.ne_of_gt (Nat.lt_succ_self _)),⟨⟨_,he⟩,hit⟩,λb hb=>?_,q⟩
  have jD:s1.heap.objs.size<=b:=by
   rcases List.mem_cons.mp hb with z | z
   . rw [z]; exact Nat.le_succ _
   . have z':b=s1.heap.objs.size:=by simpa using z
     rw [z']; exact Nat.le_refl _
  exact I1.nG jD (I1.hok.fresh jD)
end
section
variable {X:Cx}
def V0:V->Option Int->Option Int->Hp->VK->Prop:=λx lo hi H Q=>∃z j,x=.str z/\lo=none/\hi=some j/\z.length<=sizeLine/\Q (.str (Txt.slice z none (some j))) H
theorem uf:Ii X V0:=by
 intro pins s σ H x v vl vu lo hi sl Q I rx hs pl pu h
 obtain ⟨z,j,rfl,rfl,rfl,hz,q⟩:=h
 obtain ⟨t,rfl⟩:=rx
 cases pl
 cases pu with
 | int _ uj=>
  refine ⟨"str",_,F.slot_str_getitem.lookup,typeIs_str _ _ _,wpAny_getItem_str_slice (l:=none) (u:=some (j,uj)) (st:=none) hs rfl
   (post_val_or_str ⟨Nat.le_trans (Txt.slice_le z _ _) hz,λt' k=>⟨.str (Txt.slice z none (some j)),H,I.tok k,⟨t',rfl⟩,q⟩⟩)⟩
def rJoin (K:W.Frag):V->List V->Hp->VK->Prop:=λx vs H Q=>∃z a ys,x=.str z/\vs=[.ref a]/\aq K H a (ys.map V.str)/\(ys.map (·.length)).sum+ys.length*z.length<=16777216/\Q (.str (Txt.join z ys)) H
theorem ug:∀{ys:List Str}{us:List Value},Vals (ys.map V.str) us->StrsAre us ys
 | [],us,r=>by
  cases r
  exact .nil
 | y::ys,us,r=>by
  cases r with
  | cons h t=>
   obtain ⟨tk,rfl⟩:=h
   exact .cons _ _ (ug t)
theorem Kp:wc X "str.join" (rJoin X.K):=by
 intro pins s σ H x vs v us Q I rx rv h
 obtain ⟨z,a,ys,rfl,rfl,hq,hl,q⟩:=h
 obtain ⟨t,rfl⟩:=rx
 obtain ⟨u,rfl,ru⟩:=rv.one
 cases ru
 obtain ⟨its,r,pl,_⟩:=I.list hq
 exact join_list pl.isList (by simpa using ug r) hl λt' k=>⟨.str (Txt.join z ys),H,I.tok k,⟨t',rfl⟩,q⟩
def Md:V->List V->Hp->VK->Prop:=λx vs H Q=>∃z y,x=.str z/\vs=[.str y]/\z.length<=sizeLine/\(y.length == 0)=false/\
 (Builtin.Str.partsBetween z (Builtin.Str.occurrences z y 0 z.length (z.length+1)) y.length).length<=sizeLine/\∀p,H p=none->Q (.ref p) (upd H p (.lst ((Txt.split z y).map V.str)))
theorem oJ:∀(tk:Nat) (xs:List Str),Vals (xs.map V.str) (strValues (numbered tk xs))
 | _,[]=>.nil
 | tk,x::r=>.cons ⟨tk,rfl⟩ (oJ (tk+1) r)
theorem split_le (z y:Str) (h:(Builtin.Str.partsBetween z (Builtin.Str.occurrences z y 0 z.length (z.length+1)) y.length).length<=sizeLine):(Txt.split z y).length<=sizeLine:=by
 unfold Txt.split
 split
 . show 1<=sizeLine; decide
 . split
   . show 1<=sizeLine; decide
   . exact h
theorem GD:wc X "str.split" Md:=by
 intro pins s σ H x vs v us Q I rx rv h
 obtain ⟨z,y,rfl,rfl,hz,hy,hl,q⟩:=h
 obtain ⟨t,rfl⟩:=rx
 obtain ⟨u,rfl,tu,rfl⟩:=rv.one
 have rg:=split_le z y hl
 have fin:∀(l:List (Str×Tok)) (tk:Nat),Vals ((Txt.split z y).map V.str) (strValues l)->
  EP X pins σ Q (.ref s.heap.objs.size) { s with heap:=s.heap.push { cls:=.type "list",data:=.seq (strValues l).toArray },toks:=tk }:=λl tk r=>
  ⟨.ref s.heap.objs.size,_,I.Gu r (by rw [List.length_map]; exact rg),rfl,q _ (I.hok.fresh (Nat.le_refl _))⟩
 cases h1:(decide (z.length<y.length) || decide (Builtin.Str.strKind z<Builtin.Str.strKind y)) with
 | true=>
  refine call_meets F.slot_str_split (typeIs_str _ _ _) F.entry_str_split (F.args_str_split_2 _ _) (meets_str_split_cannot_occur z y t tu h1) ?_
  exact fin [(z,t)] s.toks (by
   have e:Txt.split z y=[z]:=if_pos h1
   rw [e]
   exact .cons ⟨t,rfl⟩ .nil)
 | false=>
  cases hf:(Builtin.Str.occurrences z y 0 z.length (z.length+1)).isEmpty with
  | true=>
   refine call_meets F.slot_str_split (typeIs_str _ _ _) F.entry_str_split (F.args_str_split_2 _ _) (meets_str_split_not_found z y t tu h1 hy hf) ?_
   exact fin [(z,t)] s.toks (by
    have e:Txt.split z y=[z]:=(if_neg (ne_true_of_eq_false h1)).trans (if_pos hf)
    rw [e]
    exact .cons ⟨t,rfl⟩ .nil)
  | false=>
   refine call_meets F.slot_str_split (typeIs_str _ _ _) F.entry_str_split (F.args_str_split_2 _ _) (meets_str_split_sep z y t tu h1 hy hf hz hl) ?_
   have e:Txt.split z y=Builtin.Str.partsBetween z (Builtin.Str.occurrences z y 0 z.length (z.length+1)) y.length:=(if_neg (ne_true_of_eq_false h1)).trans (if_neg (ne_true_of_eq_false hf))
   have:=fin (numbered s.toks (Builtin.Str.partsBetween z (Builtin.Str.occurrences z y 0 z.length (z.length+1)) y.length)) (s.toks+(Builtin.Str.partsBetween z (Builtin.Str.occurrences z y 0 z.length (z.length+1)) y.length).length) (by
    rw [e]
    exact oJ _ _)
   show EP X pins σ Q _ { s with toks:=_,heap:=s.heap.push { cls:=.type "list",data:=.seq (strsFrom s.toks (Builtin.Str.partsBetween z (Builtin.Str.occurrences z y 0 z.length (z.length+1)) y.length)).toArray } }
   rw [strsFrom_eq]
   exact this
end
section
variable {X:Cx}
def Kq:V->List V->Hp->VK->Prop:=λx vs H Q=>∃l xs i y,x=.ref l/\vs=[.int i,y]/\H l=some (.lst xs)/\0<=i/\i<=xs.length/\xs.length<sizeLine/\Q .aS (upd H l (.lst (xs.take i.toNat++[y]++xs.drop i.toNat)))
theorem En:wc X "list.insert" Kq:=by
 intro pins s σ H x vs v us Q I rx rv h
 obtain ⟨l,xs,i,y,rfl,rfl,hH,h0,hi,hz,q⟩:=h
 cases rx
 obtain ⟨u1,u2,rfl,r1,r2⟩:=rv.two
 obtain ⟨t1,rfl⟩:=r1
 obtain ⟨z,its,n,r,hl,e⟩:=I.pz hH
 have hn:=mj
 have yD:¬ (!Builtin.List.listFitsIndex i)=true:=by
  have:Builtin.List.listFitsIndex i=true:=by
   unfold Builtin.List.listFitsIndex
   simp only [Bool.and_eq_true,decide_eq_true_eq]
   constructor <;> omega
  rw [this]
  decide
 refine call_meets F.slot_list_insert ⟨_,e,rfl⟩ F.entry_list_insert (F.args_list_insert_3 _ _ _) (AutoListH.list_insert_list_int_val_1 l its.toArray n i t1 u2 yD (by rw [List.size_toArray]; omega)) ⟨e,?_⟩
 refine ⟨.aS,_,I.yt (its':=its.take i.toNat++[u2]++its.drop i.toNat) hH e ?_ (((r.take i.toNat).append (.cons r2 .nil)).append (r.drop i.toNat)) ?_,rfl,q⟩
 . have e1:(if i<0 then (i+((its.toArray.size:Nat):Int)).toNat else min i.toNat its.toArray.size)=i.toNat:=by
    rw [if_neg (by omega),List.size_toArray]
    omega
   show (its.toArray.extract 0 _).push u2++its.toArray.extract _=_
   rw [e1]
   apply Array.toList_inj.mp
   simp [List.take_of_length_le]
 . simp only [List.length_append,List.length_take,List.length_drop,List.length_singleton]
   omega
end
section
variable {prog:Program}{w:World}{A:Around}{E:Value->Shared->Prop}
theorem wj {l it:Addr}{items:Array Value}(di:l≠it):∀(n i:Nat) (s:Shared) (Q:List Value->Shared->Prop),s.heap.IsListIter it l i->s.heap.IsList l items->i+n<=items.size->
 (∀h',h'.IsListIter it l (i+n)->Heap.SameBut it s.heap h'->Q ((items.toList.drop i).take n) { s with heap:=h' })->wpAny (model prog w) A (draw (.ref it) n) Q E s
 | 0,i,s,Q,hit,hl,_,hQ=>by
  unfold draw
  exact wpAny_pure (by simpa using hQ s.heap hit (.refl ..))
 | n+1,i,s,Q,hit,hl,hn,hQ=>by
  unfold draw
  have hx:items[i]?=some items[i]:=Array.getElem?_eq_getElem (by omega)
  refine wpAny_bind (wpAny_pyNext_list_item hit hl hx λh1 GF wk=>?_)
  refine wpAny_bind (wpAny_holding (wj di n (i+1) { s with heap:=h1 } _ GF (hl.extBut wk.extBut di) (by omega) λh2 V1 ig=>?_))
  refine wpAny_pure ?_
  have hd:(items.toList.drop i).take (n+1)=items[i]::(items.toList.drop (i+1)).take n:=by
   rw [List.drop_eq_getElem_cons (by simpa using (show i<items.size by omega)),List.take_succ_cons]
   simp
  have:=hQ h2 (by rw [show i+(n+1)=i+1+n by omega]; exact V1) (wk.trans ig)
  rw [hd] at this
  exact this
theorem sH {s:Shared}{l:Addr}{items:Array Value}{Q:List Value->Shared->Prop}(hh:A.handled=none) (hl:s.heap.IsList l items)
 (hQ:∀h',Heap.ExtBut s.heap.objs.size s.heap h'->Q items.toList { s with heap:=h' }):wpAny (model prog w) A (unpackItems (.ref l) items.size none) Q E s:=by
 have di:l≠s.heap.objs.size:=by obtain ⟨o,ho,_⟩:=hl; exact Nat.ne_of_lt (Heap.lt_size ho)
 unfold unpackItems
 refine wpAny_bind ?_
 unfold notIterableAtAll
 refine wpAny_bind (wpAny_specialOf hl.typeIs slot_list_iter.lookup ?_)
 refine wpAny_pure ?_
 simp only [Bool.false_eq_true,if_false]
 refine wpAny_bind (wpAny_holding (wpAny_pyIter_list hl ?_))
 refine wpAny_bind (wpAny_holding (wj di items.size 0 _ _ ⟨_,Heap.get?_push_size _ rfl,rfl,rfl⟩ (hl.push _) (by omega) λkI V2 oK=>?_))
 have cT:List.take items.size (List.drop 0 items.toList)=items.toList:=by
  rw [List.drop_zero]; exact List.take_of_length_le (by simp)
 rw [cT]
 rw [if_neg (by simp)]
 have aaR:kI.IsList l items:=(hl.push _).extBut oK.extBut di
 refine wpAny_bind (wpAny_holding (wpAny_pyNext_list_end hh V2 aaR (by simp) λpf aaS=>?_))
 simp only [Option.isSome_none,Bool.false_eq_true,if_false]
 exact wpAny_pure (hQ pf λb o hb e=>aaS b o hb (oK.extBut b o hb (Heap.get?_push_of_some _ e)))
end
section
variable {X:Cx}{pos:Pos}
def Qs (K:W.Frag) (n:Nat) (t:tN):TG:=λv σ H Q=>∃a xs,v=.ref a/\aq K H a xs/\xs.length=n/\t xs σ H Q
theorem Kr {es:List Expr}{k:Nat}{t:tN}{n:Nat}(hc:X.calm=true) (h:DO X es t)
 (hn:(assignEach es X.env).length=n:=by rfl) (gf:(assignEach es X.env).findIdx? (·.1)=none:=by rfl):PG X (.Tuple es k pos) (Qs X.K n t):=by
 intro pins s σ H v u Q I r hw
 obtain ⟨a,xs,e1,hq,hl,hw⟩:=hw
 subst e1
 cases r
 obtain ⟨its,rv,pl,hz⟩:=I.list hq
 rw [assign_Tuple]
 refine wpAny_bind (wpAny_standAt ?_)
 unfold unpack
 have e2:(assignEach es X.env).length=its.toArray.size:=by rw [List.size_toArray,hn,← hl,rv.length]
 rw [e2,gf]
 refine wpAny_bind (wpAny_holding (sH (I.ok.hd hc) pl.isList λh' hx=>?_))
 have I1:Inv X pins σ H { s with heap:=h' }:=I.kept (t':=s.toks) λb o e=>hx b o (Nat.ne_of_lt (Heap.lt_size e)) e
 exact h pins _ σ H xs _ Q I1 (by simpa using rv) hw
theorem hide {a b:TS}{D:Ends}{σ:St}{H:Hp}(h:∀r:TS,r=b->x3 a r D σ H):x3 a b D σ H:=h b rfl
end
end L2
namespace Gen
open PySem
theorem yE {α:Type}[DecidableEq α]:∀(l t:List α),l.Nodup->(∀x∈l,x∈t)->l.length<=t.length
 | [],t,_,_=>Nat.zero_le _
 | a::l,t,hn,hs=>by
  have ha:a∈t:=hs a List.mem_cons_self
  obtain ⟨h1,h2⟩:=List.nodup_cons.mp hn
  have:=yE l (t.erase a) h2 λx hx=>(List.mem_erase_of_ne (λ(e:x=a)=>h1 (by rw [← e]; exact hx))).mpr (hs x (List.mem_cons_of_mem _ hx))
  rw [List.length_erase_of_mem ha] at this
  have:0<t.length:=List.length_pos_of_mem ha
  simp only [List.length_cons]
  omega
theorem CU (k len:Nat):Builtin.Str.strSliceIndices none (some (k:Int)) 1 len=List.range (min k len):=by
 have h1:¬ ((k:Int)<0):=by omega
 have e:max (0:Int) (min (k:Int) (len:Int))=((min k len:Nat):Int):=by omega
 simp only [Builtin.Str.strSliceIndices,sliceRange,h1,if_false,show ((1:Int)>0)=True from by simp,if_true,e]
 by_cases h:(0:Int)<((min k len:Nat):Int)
 . have e3:(((min k len:Nat):Int)-0+1-1) / 1=((min k len:Nat):Int):=by simp
   rw [if_pos h,e3,Int.toNat_natCast]
   conv=>rhs; rw [← List.map_id (List.range (min k len))]
   exact List.map_congr_left λj _=>by simp
 . have:min k len=0:=by omega
   simp [this]
theorem rj {α:Type}(l:List α) (n:Nat) (h:n<=l.length):(List.range n).filterMap (l[·]?)=l.take n:=by
 have:=StrLaws.picks l n 0 (by omega)
 simpa using this
theorem sI (x:Str) (k:Nat):(Txt.slice x none (some (k:Int))).cps.toList=x.cps.toList.take k:=by
 unfold Txt.slice
 rw [CU]
 have hl:x.cps.toList.length=x.length:=by simp [Str.length]
 split
 . rename_i h
   simp only [beq_self_eq_true,Bool.true_and,List.length_range,beq_iff_eq] at h
   rw [List.take_of_length_le]
   omega
 . have e:(λ(i:Nat)=>x.cps[i]?)=(λ(i:Nat)=>x.cps.toList[i]?):=by funext i; simp
   show (List.filterMap (λ(i:Nat)=>x.cps[i]?) (List.range (min k x.length))).toArray.toList=_
   rw [List.toList_toArray,e,rj _ _ (by omega)]
   rcases Nat.le_total k x.length with h | h
   . rw [Nat.min_eq_left h]
   . rw [Nat.min_eq_right h,List.take_of_length_le (by omega),List.take_of_length_le (by omega)]
def aG:List Nat:=(List.range 26).map (· + 97)
theorem jw {c:Nat} : c∈aG ↔ 97<=c/\c<=122:=by
 unfold aG
 simp only [List.mem_map,List.mem_range]
 constructor
 . rintro ⟨a,h,rfl⟩; omega
 . intro h; exact ⟨c-97,by omega,by omega⟩
def isName (n:List Nat):Prop:=1<=n.length/\n.length<=8/\∀c∈n,c∈aG
def sL (n:List Nat):List (List Nat):=
 [n]++aG.map (λc=>n.take 7++[c])++aG.map (λc=>n.take 6++[c,113])++aG.map (λc=>n.take 6++[c,122])++aG.map (λc=>n.take 5++[c,113,122])
theorem Eo {n x:List Nat}(hn:isName n) (hx:x∈sL n):isName x:=by
 obtain ⟨h1,h2,h3⟩:=hn
 have tk:∀k,∀c∈n.take k,c∈aG:=λk c hc=>h3 c (List.mem_of_mem_take hc)
 have GG:113∈aG:=by decide
 have GH:122∈aG:=by decide
 unfold sL at hx
 simp only [List.mem_append,List.mem_singleton,List.mem_map] at hx
 rcases hx with (((rfl | ⟨c,hc,rfl⟩) | ⟨c,hc,rfl⟩) | ⟨c,hc,rfl⟩) | ⟨c,hc,rfl⟩
 . exact ⟨h1,h2,h3⟩
 all_goals
  refine ⟨by simp,by simp only [List.length_append,List.length_take,List.length_cons,List.length_nil]; omega,λd hd=>?_⟩
  simp only [List.mem_append,List.mem_cons,List.not_mem_nil,or_false] at hd
  rcases hd with hd | hd
  . exact tk _ d hd
  . rcases hd with rfl | hd <;> first | exact hc | (rcases hd with rfl | hd <;> first | exact GG | exact GH | (rcases hd with rfl <;> first | exact GG | exact GH)) | (subst hd; first | exact GG | exact GH)
def sub (n:List Nat):List (List Nat):=
 (aG.filter λc=>decide (c≠113/\c≠122)).map (λc=>n.take 7++[c])++aG.map (λc=>n.take 6++[c,113])++aG.map (λc=>n.take 6++[c,122])
  ++ (aG.filter λc=>decide (some c≠n[5]?)).map (λc=>n.take 5++[c,113,122])
theorem GI {n x:List Nat}(h:x∈sub n):x∈sL n:=by
 unfold sub at h
 unfold sL
 simp only [List.mem_append,List.mem_singleton,List.mem_map,List.mem_filter] at h ⊢
 rcases h with ((⟨c,⟨hc,_⟩,rfl⟩ | ⟨c,hc,rfl⟩) | ⟨c,hc,rfl⟩) | ⟨c,⟨hc,_⟩,rfl⟩
 . exact .inl (.inl (.inl (.inr ⟨c,hc,rfl⟩)))
 . exact .inl (.inl (.inr ⟨c,hc,rfl⟩))
 . exact .inl (.inr ⟨c,hc,rfl⟩)
 . exact .inr ⟨c,hc,rfl⟩
theorem iB:aG.Nodup:=by decide
theorem hJ {l:List Nat}(hl:l.Nodup) (p q:List Nat):(l.map λc=>p++c::q).Nodup:=by
 induction l with
 | nil=>exact List.nodup_nil
 | cons a l ih=>
  obtain ⟨h1,h2⟩:=List.nodup_cons.mp hl
  rw [List.map_cons,List.nodup_cons]
  refine ⟨λh=>?_,ih h2⟩
  obtain ⟨b,hb,e⟩:=List.mem_map.mp h
  have:=List.append_cancel_left e
  injection this with e1 _
  exact h1 (e1 ▸ hb)
theorem Ks {p:List Nat}{a:Nat} : (p++[a]).getLast?=some a:=by simp
theorem Ep (n:List Nat):(sub n).Nodup:=by
 unfold sub
 have CV:∀x∈aG.map (λc=>n.take 6++[c,113]),x.getLast?=some 113:=λx hx=>by
  obtain ⟨c,_,rfl⟩:=List.mem_map.mp hx
  simp
 have Io:∀x∈aG.map (λc=>n.take 6++[c,122]),x.getLast?=some 122:=λx hx=>by
  obtain ⟨c,_,rfl⟩:=List.mem_map.mp hx
  simp
 have Ip:∀x∈(aG.filter λc=>decide (some c≠n[5]?)).map (λc=>n.take 5++[c,113,122]),x.getLast?=some 122:=λx hx=>by
  obtain ⟨c,_,rfl⟩:=List.mem_map.mp hx
  simp
 have CW:∀x∈(aG.filter λc=>decide (c≠113/\c≠122)).map (λc=>n.take 7++[c]),x.getLast?≠some 113/\x.getLast?≠some 122:=λx hx=>by
  obtain ⟨c,hc,rfl⟩:=List.mem_map.mp hx
  obtain ⟨_,hc⟩:=List.mem_filter.mp hc
  have eQ:=of_decide_eq_true hc
  rw [Ks]
  exact ⟨λe=>eQ.1 (Option.some.inj e),λe=>eQ.2 (Option.some.inj e)⟩
 refine List.nodup_append.mpr ⟨List.nodup_append.mpr ⟨List.nodup_append.mpr ⟨hJ (iB.filter _) _ _,hJ iB _ _,?_⟩,hJ iB _ _,?_⟩,hJ (iB.filter _) _ _,?_⟩
 . intro a ha b hb e
   exact (CW a ha).1 (e ▸ CV b hb)
 . intro a ha b hb e
   rcases List.mem_append.mp ha with ha | ha
   . exact (CW a ha).2 (e ▸ Io b hb)
   . have:=CV a ha
     rw [e,Io b hb] at this
     cases this
 . intro a ha b hb e
   rcases List.mem_append.mp ha with ha | ha
   . rcases List.mem_append.mp ha with ha | ha
     . exact (CW a ha).2 (e ▸ Ip b hb)
     . have:=CV a ha
       rw [e,Ip b hb] at this
       cases this
   . obtain ⟨c,_,rfl⟩:=List.mem_map.mp ha
     obtain ⟨d,hd,rfl⟩:=List.mem_map.mp hb
     obtain ⟨_,hd⟩:=List.mem_filter.mp hd
     have hd':some d≠n[5]?:=of_decide_eq_true hd
     rcases Nat.lt_or_ge 5 n.length with hl | hl
     . -- both have eight letters
       have e5:(n.take 6++[c,122])[5]?=(n.take 5++[d,113,122])[5]?:=by rw [e]
       have t6:(n.take 6).length=6:=by rw [List.length_take]; omega
       have t5:(n.take 5).length=5:=by rw [List.length_take]; omega
       rw [List.getElem?_append_left (by omega),List.getElem?_append_right (by omega),t5,List.getElem?_take] at e5
       simp at e5
       exact hd' e5.symm
     . have el:=congrArg List.length e
       simp only [List.length_append,List.length_take,List.length_cons,List.length_nil] at el
       omega
theorem CY (n:List Nat):100<=(sub n).length:=by
 unfold sub
 simp only [List.length_append,List.length_map]
 have h1:aG.length=26:=by decide
 have h2:(aG.filter λc=>decide (c≠113/\c≠122)).length=24:=by decide
 have h3:25<=(aG.filter λc=>decide (some c≠n[5]?)).length:=by
  cases n[5]? with
  | none=>
   have:(aG.filter λc=>decide (some c≠none))=aG:=List.filter_eq_self.mpr λc _=>by simp
   rw [this,h1]
   decide
  | some d=>
   have e:(aG.filter λc=>decide (some c≠some d))=aG.filter λc=>c != d:=by
    apply List.filter_congr
    intro c _
    by_cases h:c=d
    . subst h; simp
    . simp [h]
   rw [e]
   by_cases hd:d∈aG
   . obtain ⟨a,b⟩:=jw.mp hd
     have:∀k,k<26->25<=(aG.filter λc=>c != k+97).length:=by decide
     have:=this (d-97) (by omega)
     rw [show d-97+97=d by omega] at this
     exact this
   . have:(aG.filter λc=>c != d)=aG:=List.filter_eq_self.mpr λc hc=>by
      have:c≠d:=λe=>hd (e ▸ hc)
      simpa using this
     rw [this,h1]
     decide
 rw [h1,h2]
 omega
theorem Er (n:List Nat) (told:List (List Nat)) (h:told.length<100):∃x∈sL n,x∉told:=by
 apply Classical.byContradiction
 intro hx
 have all:∀x∈sub n,x∈told:=λx hs=>Classical.byContradiction λht=>hx ⟨x,GI hs,ht⟩
 have:=yE (sub n) told (Ep n) all
 have:=CY n
 omega
end Gen
namespace Gen
open PySem
theorem wm:("" : Str).cps.toList=[]:=by decide +kernel
theorem Qt:("q" : Str).cps.toList=[113]:=by decide +kernel
theorem Qu:("z" : Str).cps.toList=[122]:=by decide +kernel
theorem Me:("qz" : Str).cps.toList=[113,122]:=by decide +kernel
theorem Bh:("abcdefghijklmnopqrstuvwxyz" : Str).cps.toList=aG:=by decide +kernel
theorem my (a b:Str):(a++b).cps.toList=a.cps.toList++b.cps.toList:=by rw [Str.cps_append,Array.toList_append]
theorem yF:∀ys:List Str,(Str.join "" ys).cps.toList=(ys.map (·.cps.toList)).flatten
 | []=>rfl
 | [x]=>by simp [Str.join]
 | x::y::r=>by
  have ih:=yF (y::r)
  show (x ++ "" ++ Str.join "" (y::r)).cps.toList=_
  rw [my,my,ih,wm]
  simp
theorem Es (ys:List Str):(Txt.join "" ys).cps.toList=(ys.map (·.cps.toList)).flatten:=by
 unfold Txt.join
 rw [StrLaws.glued_eq_join]
 exact yF ys
def c7 (n:Str):List Str:=aG.map λc=>Txt.slice n none (some 7)++⟨#[c]⟩
def Iq (n:Str):List Str:=aG.map λc=>Txt.slice n none (some 6)++⟨#[c]⟩ ++ "q"
def Ir (n:Str):List Str:=aG.map λc=>Txt.slice n none (some 6)++⟨#[c]⟩ ++ "z"
def c5 (n:Str):List Str:=aG.map λc=>Txt.slice n none (some 5)++⟨#[c]⟩ ++ "qz"
def cZ (n:Str):List Str:=[n]++c7 n++Iq n++Ir n++c5 n
theorem wo (n:Str):(cZ n).map (·.cps.toList)=sL n.cps.toList:=by
 have s7:=sI n 7
 have s6:=sI n 6
 have s5:=sI n 5
 have e7:((7:Nat):Int)=7:=rfl
 have e6:((6:Nat):Int)=6:=rfl
 have e5:((5:Nat):Int)=5:=rfl
 rw [e7] at s7
 rw [e6] at s6
 rw [e5] at s5
 unfold cZ sL c7 Iq Ir c5
 simp only [List.map_append,List.map_map,List.map_cons,List.map_nil,Function.comp_def,my,s7,s6,s5,Qt,Qu,Me,List.append_assoc,List.cons_append,List.nil_append]
theorem Bi {a b:Str}(h:a.cps.toList=b.cps.toList):a=b:=Str.ext' (Array.toList_inj.mp h)
def bw (z:Str):Prop:=isName z.cps.toList
theorem CZ {n z:Str}(hn:bw n) (hz:z∈cZ n):bw z:=by
 refine Eo hn ?_
 rw [← wo]
 exact List.mem_map.mpr ⟨z,hz,rfl⟩
theorem C0 (n:Str) (told:List Str) (h:told.length<100):∃x∈cZ n,x∉told:=by
 obtain ⟨x,hx,ht⟩:=Er n.cps.toList (told.map (·.cps.toList)) (by simpa using h)
 rw [← wo] at hx
 obtain ⟨z,hz,rfl⟩:=List.mem_map.mp hx
 exact ⟨z,hz,λhm=>ht (List.mem_map.mpr ⟨z,hm,rfl⟩)⟩
def eS:List Str:=["switch", "keep", "gate", "next", "never", "some", "wall", "row", "step", "piece", "lasso"]
theorem AI:Txt.split "switch keep gate next never some wall row step piece lasso" " " = eS:=by decide +kernel
theorem AJ:∀x∈eS,bw x:=by
 have h:eS.all (λx=>decide (1<=x.cps.toList.length) && decide (x.cps.toList.length<=8) && x.cps.toList.all λc=>decide (c∈aG))=true:=by decide +kernel
 intro x hx
 have:=List.all_eq_true.mp h x hx
 simp only [Bool.and_eq_true,decide_eq_true_eq,List.all_eq_true] at this
 exact ⟨this.1.1,this.1.2,this.2⟩
theorem bw.len {z:Str}(h:bw z):z.length<=8:=by
 have:=h.2.1
 simpa [Str.length] using this
theorem AK {ys:List Str}(h1:1<=ys.length) (h2:ys.length<=8) (h:∀y∈ys,∃c∈aG,y=⟨#[c]⟩):bw (Txt.join "" ys):=by
 have e:∀zs:List Str,(∀y∈zs,∃c∈aG,y=⟨#[c]⟩)->(zs.map (·.cps.toList)).flatten.length=zs.length/\∀c∈(zs.map (·.cps.toList)).flatten,c∈aG:=by
  intro zs
  induction zs with
  | nil=>intro _; exact ⟨rfl,λc hc=>by simp at hc⟩
  | cons z zs ih=>
   intro hz
   obtain ⟨c,hc,rfl⟩:=hz z List.mem_cons_self
   obtain ⟨i1,i2⟩:=ih λy hy=>hz y (List.mem_cons_of_mem _ hy)
   refine ⟨?_,λd hd=>?_⟩
   . rw [List.map_cons,List.flatten_cons,List.length_append,i1]
     simp
     omega
   . rw [List.map_cons,List.flatten_cons,List.mem_append] at hd
     rcases hd with hd | hd
     . have:d=c:=by simpa using hd
       rw [this]; exact hc
     . exact i2 d hd
 obtain ⟨e1,e2⟩:=e ys h
 unfold bw isName
 rw [Es,e1]
 exact ⟨h1,h2,e2⟩
end Gen
namespace Gen
open PySem L2
def top (i:Nat):Stmt:=PySem.Challenge.pw_everguard_k20_steps_are_runs.main.body.getD i (.Pass ⟨0,0,0,0⟩)
abbrev qu:Stmt:=top 10
abbrev sM:Stmt:=top 11
abbrev qv:Stmt:=top 12
abbrev j5:Stmt:=top 13
abbrev iW:Stmt:=top 14
abbrev iD:Stmt:=top 15
abbrev kj:Stmt:=top 16
abbrev dH:Stmt:=top 17
abbrev f9:Stmt:=top 18
structure Own (mg:Str->Option Value):Prop where
 len:mg "len" = none
 range:mg "range" = none
 enum:mg "enumerate" = none
 list:mg "list" = none
def d8 (xs:List V):Prop:=(∃a:Int,xs=[.int a])\/∃a b:Int,xs=[.int a,.int b]
def aV (H H':Hp) (l:Addr):Prop:=∀b o,H b=some o->b≠l->H' b=some o
theorem aV.trans {H H1 H2:Hp}{l:Addr}(a:aV H H1 l) (b:aV H1 H2 l):aV H H2 l:=λc o h n=>b c o (a c o h n) n
theorem aV.refl (H:Hp) (l:Addr):aV H H l:=λ_ _ h _=>h
theorem aj.keep {H H':Hp}(s:aj H H') (l:Addr):aV H H' l:=λb o h _=>s b o h
theorem aV.ao {H:Hp}{l p:Addr}{o:HO}(hp:H p=none):aV H (upd H p o) l:=λb u h _=>by rw [ai (af h hp)]; exact h
theorem aj.ao {H:Hp}{p:Addr}{o:HO}(hp:H p=none):aj H (upd H p o):=λb u h=>by rw [ai (af h hp)]; exact h
theorem aV.kU {H:Hp}{l:Addr}{o:HO} : aV H (upd H l o) l:=λb u h n=>by rw [ai n]; exact h
theorem aV.seq {K:W.Frag}{H H':Hp}{a l:Addr}{xs:List V}{n:List V}(e:aV H H' l) (hl:H l=some (.lst n)) (h:aq K H a xs) (cD:a≠l):aq K H' a xs:=by
 rcases h with (h | ⟨o,h⟩) | h
 . exact .inl (.inl (e a _ h cD))
 . exact .inl (.inr ⟨o,e a _ h cD⟩)
 . exact .inr h
inductive Bj (K:W.Frag) (vs:List V) (H:Hp) (Q:VK):Prop
 | mk (a:Addr) (ns:List Int) (k:Int) (h1:vs=[.ref a,.int k]) (h2:aq K H a (ns.map V.int)) (h3:0<=k) (h4:∀v:Int,Q (.int v) H):Bj K vs H Q
def pG (K:W.Frag):Sp:=λvs H Q _=>Bj K vs H Q
inductive Et (vs:List V) (H:Hp) (Q:VK):Prop
 | mk (c k:Int) (h1:vs=[.int c,.int k]) (h2:0<=k) (h3:k<=1000000) (h4:∀v:Int,0<=v->v<1999999973->Q (.int v) H):Et vs H Q
def uh:Sp:=λvs H Q _=>Et vs H Q
inductive Bk (vs:List V) (H:Hp) (Q:VK):Prop
 | mk (c k:Int) (h1:vs=[.int c,.int k]) (h2:0<=k) (h3:k<=1000) (h4:∀v:Int,Q (.int v) H):Bk vs H Q
def ui:Sp:=λvs H Q _=>Bk vs H Q
inductive Bl (vs:List V) (H:Hp) (Q:VK):Prop
 | mk (l:Addr) (xs:List V) (m:Int) (h1:vs=[.ref l,.int m]) (h2:H l=some (.lst xs)) (h3:d8 xs) (h4:0<m) (h5:m<1073741824) (h6:∀(d:Int) (ys:List V) (H':Hp),0<=d->d<m->d8 ys->H' l=some (.lst ys)->aV H H' l->Q (.int d) H'):Bl vs H Q
def pH:Sp:=λvs H Q _=>Bl vs H Q
section
variable {P:Program}{w:World}{K:W.Frag}{mg:Str->Option Value}{base:Heap}
theorem Mf:aQ ["_law_script", "_law_k"] ["_law_script", "_law_k"] (au qu):=⟨rfl,rfl,rfl,by decide +kernel,rfl,by decide +kernel,by decide +kernel⟩
theorem Kt {f:Addr}{fd:FuncData}(F:cC K "_law_cell_at" "_law_cell_at" qu f fd) (T:Own mg):aw P w K mg base aD 1 f fd ["_law_script", "_law_k"] (pG K):=by
 refine F.ok Mf (λvs H Q E h=>?_) (λcdv A outer s H vs Q E hr h=>?_)
 . obtain ⟨a,ns,k,rfl,_⟩:=h
   rfl
 . obtain ⟨a,ns,k,rfl,hS,h0,kk⟩:=h
   refine ⟨_,ak (bY (a8 CD (pv 1) (aU bZ (by rfl) T.len PySem.boot_len (ae (pv 0) ah)) (bp _)) (ar (aT (bz bJ (pv 0) (pv 1) (λ_ _=>rfl)))) aY)
    (ar (aT av)),?_⟩
   refine ⟨_,rfl,_,rfl,a,_,rfl,.inl hS,_,_,rfl,rfl,_,rfl,?_⟩
   refine dq (λhc=>?_) (λ_=>kk 0)
   have eQ:k<((ns.map V.int).length:Int):=of_decide_eq_true hc
   rw [List.length_map] at eQ
   have hk:k.toNat<ns.length:=by omega
   have e:((k.toNat:Nat):Int)=k:=by omega
   have Eu:iq (ns.map V.int) ((k.toNat:Nat):Int)=some (.int ns[k.toNat]):=cV (by rw [List.getElem?_map,List.getElem?_eq_getElem hk]; rfl)
   rw [e] at Eu
   exact ⟨_,rfl,_,rfl,a,_,_,.int ns[k.toNat],rfl,rfl,hS,Eu,kk _⟩
theorem Iu:aQ ["_law_cell", "_law_k", "_law_m"] ["_law_cell", "_law_k"] (au sM):=⟨rfl,rfl,rfl,by decide +kernel,rfl,by decide +kernel,by decide +kernel⟩
theorem Ew {f:Addr}{fd:FuncData}(F:cC K "_law_mix" "_law_mix" sM f fd):aw P w K mg base aD 1 f fd ["_law_cell", "_law_k"] uh:=by
 refine F.ok Iu (λvs H Q E h=>?_) (λcdv A outer s H vs Q E hr h=>?_)
 . obtain ⟨c,k,rfl,_⟩:=h
   rfl
 . obtain ⟨c,k,rfl,h0,h1,kk⟩:=h
   refine ⟨_,ak (aE (i:=2) Iu.nd rfl (Or.inl rfl) (aH ij (aH ft (aH cL (aH cL (aH ij (pv 0) av) (aH ft (aH ft (pv 1) (pv 1)) av)) av) av) av))
    (ar (aT (aH ij (aH ft (pv 2) (pv 2)) av))),?_⟩
   refine ⟨_,rfl,_,_,rfl,rfl,(by show (0:Int)<2147483629; decide),_,rfl,_,rfl,_,_,rfl,rfl,.inl ⟨by omega,by omega⟩,_,_,rfl,rfl,.inr ⟨by decide,by decide⟩,_,_,rfl,rfl,_,_,rfl,rfl,
    _,_,rfl,rfl,.inr ⟨by decide,by decide⟩,_,_,rfl,rfl,(by show (0:Int)<2147483647; decide),?_⟩
   generalize hm:((c % 2147483629+k*k*7919+11)*48271 % 2147483647:Int)=m
   have m0:0<=m:=by rw [← hm]; exact Int.emod_nonneg _ (by decide)
   have m1:m<2147483647:=by rw [← hm]; exact Int.emod_lt_of_pos _ (by decide)
   refine ⟨_,rfl,_,rfl,_,_,rfl,rfl,.inl ⟨by omega,by omega⟩,_,_,rfl,rfl,(by show (0:Int)<1999999973; decide),?_⟩
   exact kk _ (Int.emod_nonneg _ (by decide)) (Int.emod_lt_of_pos _ (by decide))
theorem uk:aQ ["_law_cell", "_law_k", "_law_number", "_law_j"] ["_law_cell", "_law_k"] (au qv):=⟨rfl,rfl,rfl,by decide +kernel,rfl,by decide +kernel,by decide +kernel⟩
theorem Ku {f fM:Addr}{fd Mg:FuncData}(F:cC K "_law_rich" "_law_rich" qv f fd) (T:Own mg) (FM:cC K "_law_mix" "_law_mix" sM fM Mg) (bM:Binds K Mg ["_law_cell", "_law_k"] []) (mM:mg "_law_mix" = some (.ref fM)) :
 aw P w K mg base aD 2 f fd ["_law_cell", "_law_k"] ui:=by
 have GM:aw P w K mg base aD 1 fM Mg ["_law_cell", "_law_k"] uh:=Ew FM
 refine F.ok uk (λvs H Q E h=>?_) (λcdv A outer s H vs Q E hr h=>?_)
 . obtain ⟨c,k,rfl,_⟩:=h
   rfl
 . obtain ⟨c,k,rfl,h0,h1,kk⟩:=h
   refine ⟨_,ak (aE (i:=2) uk.nd rfl (Or.inl rfl) av)
    (ak (cc PassesOwn.never rfl (cO rfl T.range (ae av ah)) (ax (i:=3) uk.nd rfl (Or.inl rfl))
     (ar (aE (i:=2) uk.nd rfl (Or.inl rfl) (aH cL (aH ft (pv 2) av) (aA GM hr rfl mM FM.kp bM .nil az (ae (pv 0) (ae (aH cL (aH ft av (pv 1)) (pv 3)) ah)))))))
    (ar (aT (pv 2)))),?_⟩
   refine ⟨12,rfl,by decide,by decide,eI (n:=12) (λi σ H2=>H2=H/\∃(n:Int) (v:Option V),σ=[some (.int c),some (.int k),some (.int n),v]) ⟨rfl,0,none,rfl⟩ ?_ ?_⟩
   . rintro i σ H2 hi ⟨rfl,n,v,rfl⟩
     refine ⟨_,rfl,_,_,rfl,rfl,.inr ⟨by decide,by decide⟩,_,rfl,_,rfl,_,_,rfl,rfl,.inl ⟨by decide,by decide⟩,_,rfl,_,_,rfl,rfl,?_⟩
     refine ⟨_,_,rfl,by omega,by omega,λv hv0 hv1=>⟨_,_,rfl,rfl,rfl,_,_,rfl⟩⟩
   . rintro σ H2 ⟨rfl,n,v,rfl⟩
     exact ⟨_,rfl,kk n⟩
theorem Ex:aQ ["_law_left", "_law_many", "_law_digit"] ["_law_left", "_law_many"] (au j5):=⟨rfl,rfl,rfl,by decide +kernel,rfl,by decide +kernel,by decide +kernel⟩
theorem va {f:Addr}{fd:FuncData}(F:cC K "_law_pick" "_law_pick" j5 f fd) (T:Own mg):aw P w K mg base aD 1 f fd ["_law_left", "_law_many"] pH:=by
 refine F.ok Ex (λvs H Q E h=>?_) (λcdv A outer s H vs Q E hr h=>?_)
 . obtain ⟨l,xs,m,rfl,_⟩:=h
   rfl
 . obtain ⟨l,xs,m,rfl,hl,hp,m0,m1,kk⟩:=h
   refine ⟨_,ak (bY (tM (a8 lG (bz bJ (pv 0) av (λ_ _=>rfl)) (eh (ae av (ae (g9 fu av) ah))) (by with_unfolding_all rfl))
    (ql (a8 lC (aU bZ (by rfl) T.len PySem.boot_len (ae (pv 0) ah)) av (bp _)))).pt
    (ar (tO (yr PySem.F.plainAttrs_list PySem.F.slot_list_pop PySem.F.type_list_pop D9 (pv 0)) (DP (pv 0) av set_list))) aY)
    (ak (aE (i:=2) Ex.nd rfl (Or.inl rfl) (aH ij (bz bJ (pv 0) av (λ_ _=>rfl)) (pv 1)))
    (ak (tO (aH uW (bz bJ (pv 0) av (λ_ _=>rfl)) (pv 1)) (DP (pv 0) av set_list))
    (ar (aT (pv 2))))),?_⟩
   rcases hp with ⟨a,rfl⟩ | ⟨a,b,rfl⟩
   . refine ⟨_,rfl,l,_,_,.int a,rfl,rfl,aq.of hl,rfl,_,rfl,(by show 2<=sizeLine; decide),λt ht=>?_⟩
     have nl:l≠t:=af hl ht
     have fj:(upd H t (.tup [.int 0,.int (-1)])) l=some (.lst [.int a]):=by rw [ai nl]; exact hl
     have kp:aV H (upd H t (.tup [.int 0,.int (-1)])) l:=aV.ao ht
     refine ⟨t,_,rfl,.inr (aR.of ag),rfl,rfl,_,rfl,?_⟩
     refine dq (λ_=>?_) (λ_=>pD ?_)
     . refine ⟨_,rfl,l,_,rfl,.inl (aq.of fj),_,_,rfl,rfl,_,rfl,?_⟩
       refine dq (λh=>absurd (of_decide_eq_true h) (by show ¬ (1:Int)<((1:Nat):Int); decide)) (λ_=>?_)
       refine ⟨_,rfl,l,_,_,.int a,rfl,rfl,aq.of fj,rfl,_,rfl,_,_,rfl,rfl,m0,?_⟩
       refine ⟨_,rfl,l,_,_,.int a,rfl,rfl,aq.of fj,rfl,_,rfl,_,_,rfl,rfl,⟨m0,m1⟩,_,rfl,l,_,_,0,rfl,rfl,fj,rfl,?_⟩
       exact ⟨_,rfl,kk _ _ _ (Int.emod_nonneg _ (by omega)) (Int.emod_lt_of_pos _ m0) (.inl ⟨_,rfl⟩) ag (kp.trans aV.kU)⟩
     . refine ⟨_,rfl,l,_,_,.int a,rfl,rfl,aq.of fj,rfl,_,rfl,_,_,rfl,rfl,m0,?_⟩
       refine ⟨_,rfl,l,_,_,.int a,rfl,rfl,aq.of fj,rfl,_,rfl,_,_,rfl,rfl,⟨m0,m1⟩,_,rfl,l,_,_,0,rfl,rfl,fj,rfl,?_⟩
       exact ⟨_,rfl,kk _ _ _ (Int.emod_nonneg _ (by omega)) (Int.emod_lt_of_pos _ m0) (.inl ⟨_,rfl⟩) ag (kp.trans aV.kU)⟩
   . refine ⟨_,rfl,l,_,_,.int a,rfl,rfl,aq.of hl,rfl,_,rfl,(by show 2<=sizeLine; decide),λt ht=>?_⟩
     have nl:l≠t:=af hl ht
     have fj:(upd H t (.tup [.int 0,.int (-1)])) l=some (.lst [.int a,.int b]):=by rw [ai nl]; exact hl
     have kp:aV H (upd H t (.tup [.int 0,.int (-1)])) l:=aV.ao ht
     refine ⟨t,_,rfl,.inr (aR.of ag),rfl,rfl,_,rfl,?_⟩
     refine dq (λ_=>?_) (λ_=>pD ?_)
     . refine ⟨_,rfl,l,_,rfl,.inl (aq.of fj),_,_,rfl,rfl,_,rfl,?_⟩
       refine dq (λ_=>?_) (λh=>absurd (decide_eq_true (show (1:Int)<((2:Nat):Int) by decide)) h)
       refine ⟨_,rfl,.inl ⟨rfl,_,aq.of fj⟩,l,_,.int b,rfl,rfl,fj,rfl,_,rfl,l,_,_,0,rfl,rfl,ag,rfl,?_⟩
       refine ⟨_,rfl,l,_,_,.int b,rfl,rfl,aq.of ag,rfl,_,rfl,_,_,rfl,rfl,m0,?_⟩
       refine ⟨_,rfl,l,_,_,.int b,rfl,rfl,aq.of ag,rfl,_,rfl,_,_,rfl,rfl,⟨m0,m1⟩,_,rfl,l,_,_,0,rfl,rfl,ag,rfl,?_⟩
       exact ⟨_,rfl,kk _ _ _ (Int.emod_nonneg _ (by omega)) (Int.emod_lt_of_pos _ m0) (.inl ⟨_,rfl⟩) ag (((kp.trans aV.kU).trans aV.kU).trans aV.kU)⟩
     . refine ⟨_,rfl,l,_,_,.int a,rfl,rfl,aq.of fj,rfl,_,rfl,_,_,rfl,rfl,m0,?_⟩
       refine ⟨_,rfl,l,_,_,.int a,rfl,rfl,aq.of fj,rfl,_,rfl,_,_,rfl,rfl,⟨m0,m1⟩,_,rfl,l,_,_,0,rfl,rfl,fj,rfl,?_⟩
       exact ⟨_,rfl,kk _ _ _ (Int.emod_nonneg _ (by omega)) (Int.emod_lt_of_pos _ m0) (.inr ⟨_,_,rfl⟩) ag (kp.trans aV.kU)⟩
end
end Gen
namespace Gen
open PySem L2
theorem small {n:Nat}(h:n<=1000):n<sizeLine:=we h
theorem kY {n:Nat}(h:n<=1000):n<=sizeLine:=Nat.le_of_lt (we h)
inductive yG (K:W.Frag) (vs:List V) (H:Hp) (Q:VK):Prop
 | mk (l t:Addr) (xs:List V) (told:List Str) (h1:vs=[.ref l,.ref t]) (h2:H l=some (.lst xs)) (h3:d8 xs) (h4:t≠l) (h5:aq K H t (told.map V.str)) (h6:told.length<100) (h7:∀(z:Str) (ys:List V) (H':Hp),bw z->z∉told->d8 ys->H' l=some (.lst ys)->aV H H' l->Q (.str z) H'):yG K vs H Q
def qw (K:W.Frag):Sp:=λvs H Q _=>yG K vs H Q
theorem vb (z:Str) (told:List Str):px (.str z) (told.map V.str)=decide (z∈told):=by
 unfold px
 rw [Bool.eq_iff_iff,List.any_eq_true,decide_eq_true_eq]
 constructor
 . rintro ⟨v,hv,e⟩
   obtain ⟨y,hy,rfl⟩:=List.mem_map.mp hv
   have:y=z:=by simpa [ir] using e
   rw [← this]; exact hy
 . intro h
   exact ⟨.str z,List.mem_map.mpr ⟨z,h,rfl⟩,by simp [ir]⟩
theorem Ey (told:List Str):(told.map V.str).all iA=true:=by
 rw [List.all_eq_true]
 intro v hv
 obtain ⟨y,_,rfl⟩:=List.mem_map.mp hv
 rfl
theorem Ez {i:Nat}{c:Nat}(h:("abcdefghijklmnopqrstuvwxyz" : Str).cps[i]?=some c):aG[i]?=some c:=by
 rw [← Bh]
 simpa using h
theorem lH {α β:Type}{l:List α}{i:Nat}{c:α}(f:α->β) (h:l[i]?=some c):(l.take (i+1)).map f=(l.take i).map f++[f c]:=by
 rw [List.take_add_one,h]
 simp
theorem cA {i:Nat}{x:V}{σ:St}{H:Hp}{A B:St->Hp->Prop}(h:A (σ.set i (some x)) H):dr i x σ H (λgu H2=>sG gu H2 (λb H3=>if b=true then A gu H3 else B gu H3)):=by
 show (if true=true then A (σ.set i (some x)) H else B (σ.set i (some x)) H)
 rw [if_pos rfl]
 exact h
theorem Qv:(["_law_k", "_law_left", "_law_letters"]:List Str).Nodup:=by decide +kernel
theorem C1:(["_law_one", "_law_name"]:List Str).Nodup:=by decide +kernel
theorem V3:(["_law_one", "_law_told"]:List Str).Nodup:=by decide +kernel
section
variable {P:Program}{w:World}{K:W.Frag}{mg:Str->Option Value}{base:Heap}
abbrev EA:List Str:=["_law_left", "_law_told", "_law_letters", "_law_words", "_law_size", "_law_name", "_law_some"]
theorem iI:aQ EA ["_law_left", "_law_told"] (au iW):=⟨rfl,rfl,rfl,by decide +kernel,rfl,by decide +kernel,by decide +kernel⟩
theorem j6 {D:Addr}{te:TE}{Q:Hp->Prop}{H1:Hp}{nm:Str}(f:Nat->Str) (hD:H1 D=none)
 (he:∀(c:Nat) (H:Hp) (R:VK),c∈aG->R (.str (f c)) H->te [some (.str ⟨#[c]⟩),some (.str nm)] H R)
 (fin:Q (upd H1 D (.lst ((aG.map f).map V.str)))) :
 ∃W:Nat->Nat->St->Hp->Prop,(∃m,W 0 m [none,some (.str nm)] (upd H1 D (.lst [])))/\Bc D (dr 0) sG te (Mc "abcdefghijklmnopqrstuvwxyz") W Q:=by
 have hsz:("abcdefghijklmnopqrstuvwxyz" : Str).cps.size=26:=by decide +kernel
 have jZ:aG.length=26:=by decide
 refine cY 26 (λi acc σ H=>acc=((aG.take i).map f).map V.str/\(∃v,σ=[v,some (.str nm)])/\H=upd H1 D (.lst acc)) ⟨rfl,⟨none,rfl⟩,rfl⟩ ag ?_ ?_
 . rintro acc σ H _ ⟨rfl,_,rfl⟩
   refine ⟨hsz.symm,?_⟩
   rw [List.take_of_length_le (by rw [jZ]; decide)]
   exact fin
 . rintro i acc σ H hi aW ⟨rfl,⟨v,rfl⟩,rfl⟩
   refine ⟨by show i<_; rw [hsz]; exact hi,?_⟩
   rintro x H' ⟨rfl,c,hc,rfl⟩
   have eQ:=Ez hc
   refine cA ?_
   refine he c _ _ (List.mem_of_getElem? eQ) ?_
   refine ⟨_,ag,?_,bo hi ag ⟨?_,⟨_,rfl⟩,?_⟩⟩
   . rw [List.length_map,List.length_map,List.length_take]
     exact small (by omega)
   . rw [lH f eQ,List.map_append]
     rfl
   . rw [g7]
theorem yH:∀zs:List Str,(∀y∈zs,∃c∈aG,y=⟨#[c]⟩)->(zs.map (·.length)).sum=zs.length
 | [],_=>rfl
 | z::zs,h=>by
  obtain ⟨c,_,rfl⟩:=h z List.mem_cons_self
  have ih:=yH zs λy hy=>h y (List.mem_cons_of_mem _ hy)
  rw [List.map_cons,List.sum_cons,ih,List.length_cons]
  show 1+zs.length=zs.length+1
  omega
theorem sN (n:Str) (h:bw n) (k:Int):(Txt.slice n none (some k)).length<=8:=Nat.le_trans (Txt.slice_le n _ _) h.len
theorem kZ (c:Nat):(⟨#[c]⟩:Str).length=1:=rfl
theorem pI (a b:Str):(a++b).length=a.length+b.length:=Str.length_append a b
theorem gb {n:Nat}(h:n<=100):n<=sizeLine:=Nat.le_trans h (by decide)
abbrev Kv (P:Program) (w:World) (K:W.Frag) (mg:Str->Option Value) (base:Heap) (f:Addr) (cdv:Value) (A:Around) (outer:List Env) (s:Shared) (H:Hp) (E:XK):Cx:=
 (nJ aD P w K mg base EA "_law_spelt" (au iW) f cdv A outer s H E).xZ
abbrev wq:Str:="abcdefghijklmnopqrstuvwxyz"
theorem C3 {f:Addr}{cdv:Value}{A:Around}{outer:List Env}{s:Shared}{H:Hp}{E:XK}{Q:VK}{l t:Addr}{told:List Str}(hS:aq K H t (told.map V.str)) (cD:t≠l) (di:told.length<100) (uc:∃xs,H l=some (.lst xs))
 (kk:∀(z:Str) (ys:List V) (H':Hp),bw z->z∉told->d8 ys->H' l=some (.lst ys)->aV H H' l->Q (.str z) H') :
 ∃tR:TS,iR (Kv P w K mg base f cdv A outer s H E) (List.drop 5 (aI iW)) tR/\∀(nm:Str) (ys:List V) (H4:Hp) (w1:Addr) (sz:Int),bw nm->d8 ys->H4 l=some (.lst ys)->aV H H4 l->
  tR { nx:=λ_ H'=>Q .aS H',rt:=Q } [some (.ref l),some (.ref t),some (.str wq),some (.ref w1),some (.int sz),some (.str nm),none] H4:=by
 refine ⟨_,ak (aE (i:=6) iI.nd rfl (Or.inl rfl) (aH iu (aH iu (bt (ae (pv 5) ah))
  (cX (N:=["_law_one", "_law_name"]) (js:=[none,some 5]) (by kernel_rfl) rfl (ue (pv 2)) (λ_ _ _ _ _ _=>ax (i:=0) C1 rfl (Or.inl rfl) (.inr rfl)) (λ_ _ _ _ _ _=>bj)
   (λ_ _ _ _ _ _=>aH eC (jk uf (pv 1) kg (kh av)) (pv 0))))
  (cX (N:=["_law_one", "_law_name"]) (js:=[none,some 5]) (by kernel_rfl) rfl (ue (pv 2)) (λ_ _ _ _ _ _=>ax (i:=0) C1 rfl (Or.inl rfl) (.inr rfl)) (λ_ _ _ _ _ _=>bj)
   (λ_ _ _ _ _ _=>aH eC (aH eC (jk uf (pv 1) kg (kh av)) (pv 0)) aO))))
  (ak (aE (i:=6) iI.nd rfl (Or.inl rfl) (aH iu (aH iu (pv 6)
   (cX (N:=["_law_one", "_law_name"]) (js:=[none,some 5]) (by kernel_rfl) rfl (ue (pv 2)) (λ_ _ _ _ _ _=>ax (i:=0) C1 rfl (Or.inl rfl) (.inr rfl)) (λ_ _ _ _ _ _=>bj)
    (λ_ _ _ _ _ _=>aH eC (aH eC (jk uf (pv 1) kg (kh av)) (pv 0)) aO)))
   (cX (N:=["_law_one", "_law_name"]) (js:=[none,some 5]) (by kernel_rfl) rfl (ue (pv 2)) (λ_ _ _ _ _ _=>ax (i:=0) C1 rfl (Or.inl rfl) (.inr rfl)) (λ_ _ _ _ _ _=>bj)
    (λ_ _ _ _ _ _=>aH eC (aH eC (jk uf (pv 1) kg (kh av)) (pv 0)) aO))))
  (ar (aT (bz bJ
   (cX (N:=["_law_one", "_law_told"]) (js:=[none,some 1]) (by kernel_rfl) rfl (bU (pv 6)) (λ_ _ _ _ _ _=>ax (i:=0) V3 rfl (Or.inl rfl) (.inr rfl))
    (λ_ _ _ _ _ _=>nS (a8 (r:=Ij K true) yp (pv 0) (pv 1) (by with_unfolding_all rfl))) (λ_ _ _ _ _ _=>pv 0)) av (λ_ _=>rfl))))),?_⟩
 intro nm ys H4 w1 sz hn hp um jf
 have rm:∀g:Nat->Str,((aG.map g).map V.str).length=26:=λg=>by rw [List.length_map,List.length_map]; decide
 have h8:∀k:Int,nm.length<=sizeLine:=λ_=>gb (Nat.le_trans hn.len (by decide))
 refine ⟨_,rfl,(by show 1<=sizeLine; decide),λp1 EB=>?_⟩
 refine ⟨_,rfl,wq,rfl,λD1 Mh=>j6 (nm:=nm) (λc=>Txt.slice nm none (some 7)++⟨#[c]⟩) Mh (λc H R hc hR=>?_) ?_⟩
 . refine ⟨_,rfl,_,rfl,nm,7,rfl,rfl,rfl,h8 0,_,rfl,_,_,rfl,rfl,?_,hR⟩
   have:=sN nm hn 7
   rw [kZ]
   exact gb (by omega)
 have n1:p1≠D1:=af (ag (H:=H4)) Mh
 refine ⟨p1,D1,_,_,rfl,rfl,(by rw [ai n1,ag]),ag,?_,λp2 fw=>?_⟩
 . rw [rm]
   exact gb (by show 1+26<=100; decide)
 refine ⟨_,rfl,wq,rfl,λD2 mz=>j6 (nm:=nm) (λc=>Txt.slice nm none (some 6)++⟨#[c]⟩ ++ "q") mz (λc H R hc hR=>?_) ?_⟩
 . refine ⟨_,rfl,_,rfl,nm,6,rfl,rfl,rfl,h8 0,_,rfl,_,_,rfl,rfl,?_,_,_,rfl,rfl,?_,hR⟩
   . have:=sN nm hn 6
     rw [kZ]
     exact gb (by omega)
   . have:=sN nm hn 6
     have e1:("q" : Str).length=1:=by decide +kernel
     rw [pI,kZ,e1]
     exact gb (by omega)
 have n2:p2≠D2:=af (ag (H:=_)) mz
 refine ⟨p2,D2,_,_,rfl,rfl,(by rw [ai n2,ag]),ag,?_,λp3 lI=>?_⟩
 . rw [List.length_append,rm,rm]
   exact gb (by show 1+26+26<=100; decide)
 refine ⟨_,rfl,_,rfl,wq,rfl,λD3 wu=>j6 (nm:=nm) (λc=>Txt.slice nm none (some 6)++⟨#[c]⟩ ++ "z") wu (λc H R hc hR=>?_) ?_⟩
 . refine ⟨_,rfl,_,rfl,nm,6,rfl,rfl,rfl,h8 0,_,rfl,_,_,rfl,rfl,?_,_,_,rfl,rfl,?_,hR⟩
   . have:=sN nm hn 6
     rw [kZ]
     exact gb (by omega)
   . have:=sN nm hn 6
     have e1:("z" : Str).length=1:=by decide +kernel
     rw [pI,kZ,e1]
     exact gb (by omega)
 have n3:p3≠D3:=af (ag (H:=_)) wu
 refine ⟨p3,D3,_,_,rfl,rfl,(by rw [ai n3,ag]),ag,?_,λp4 e9=>?_⟩
 . rw [List.length_append,List.length_append,rm,rm,rm]
   exact gb (by show 1+26+26+26<=100; decide)
 refine ⟨_,rfl,wq,rfl,λD4 uo=>j6 (nm:=nm) (λc=>Txt.slice nm none (some 5)++⟨#[c]⟩ ++ "qz") uo (λc H R hc hR=>?_) ?_⟩
 . refine ⟨_,rfl,_,rfl,nm,5,rfl,rfl,rfl,h8 0,_,rfl,_,_,rfl,rfl,?_,_,_,rfl,rfl,?_,hR⟩
   . have:=sN nm hn 5
     rw [kZ]
     exact gb (by omega)
   . have:=sN nm hn 5
     have e1:("qz" : Str).length=2:=by decide +kernel
     rw [pI,kZ,e1]
     exact gb (by omega)
 have n4:p4≠D4:=af (ag (H:=_)) uo
 refine ⟨p4,D4,_,_,rfl,rfl,(by rw [ai n4,ag]),ag,?_,λp5 jE=>?_⟩
 . rw [List.length_append,List.length_append,List.length_append,rm,rm,rm,rm]
   exact kY (by show 1+26+26+26+26<=1000; decide)
 have V4:[V.str nm]++((aG.map λc=>Txt.slice nm none (some 7)++⟨#[c]⟩).map V.str)++((aG.map λc=>Txt.slice nm none (some 6)++⟨#[c]⟩ ++ "q").map V.str)++((aG.map λc=>Txt.slice nm none (some 6)++⟨#[c]⟩ ++ "z").map V.str)
  ++ ((aG.map λc=>Txt.slice nm none (some 5)++⟨#[c]⟩ ++ "qz").map V.str)=(cZ nm).map V.str:=by
  unfold cZ c7 Iq Ir c5
  simp only [List.map_append,List.map_cons,List.map_nil]
 rw [V4]
 have sm:∀o5,aj H4 (upd (upd (upd (upd (upd (upd (upd (upd (upd H4 p1 _) D1 _) p2 _) D2 _) p3 _) D3 _) p4 _) D4 _) p5 o5):=λo5=>
  (((((((((aj.ao EB).trans (aj.ao Mh)).trans (aj.ao fw)).trans (aj.ao mz)).trans (aj.ao lI)).trans (aj.ao wu)).trans (aj.ao e9)).trans (aj.ao uo)).trans (aj.ao jE))
 have Mi:=sm (.lst ((cZ nm).map V.str))
 generalize hG:upd _ p5 (HO.lst ((cZ nm).map V.str))=G at *
 have Mj:G p5=some (.lst ((cZ nm).map V.str)):=by rw [← hG,ag]
 refine ⟨_,rfl,p5,rfl,⟨_,aq.of Mj⟩,λD hD=>?_⟩
 obtain ⟨xs0,uc⟩:=uc
 have np:p5≠D:=af Mj hD
 have h5:∀o,(upd G D o) p5=some (.lst ((cZ nm).map V.str)):=λo=>by rw [ai np]; exact Mj
 have hSt:∀o,aq K (upd G D o) t (told.map V.str):=λo=>aj.seq (aj.ao hD) (aj.seq Mi (jf.seq uc hS cD))
 refine cY (cZ nm).length (λi acc σ H=>acc=(((cZ nm).take i).filter λz=>!decide (z∈told)).map V.str/\(∃v,σ=[v,some (.ref t)])/\H=upd G D (.lst acc)) ⟨rfl,⟨none,rfl⟩,rfl⟩ ag ?_ ?_
 . rintro acc σ H5 _ ⟨rfl,_,rfl⟩
   refine ⟨⟨_,aq.of (h5 _),by simp⟩,?_⟩
   rw [List.take_length]
   obtain ⟨z,hz,Iv⟩:=C0 nm told di
   have SQ:z∈(cZ nm).filter λz=>!decide (z∈told):=List.mem_filter.mpr ⟨hz,by simp [Iv]⟩
   cases pJ:(cZ nm).filter λz=>!decide (z∈told) with
   | nil=>rw [pJ] at SQ; cases SQ
   | cons z0 r=>
    have h0:z0∈(cZ nm).filter λz=>!decide (z∈told):=by rw [pJ]; exact List.mem_cons_self
    obtain ⟨m1,m2⟩:=List.mem_filter.mp h0
    have m3:z0∉told:=by simpa using m2
    have sl:G l=some (.lst ys):=Mi l _ um
    have nl:l≠D:=af sl hD
    exact ⟨D,_,0,.str z0,rfl,rfl,aq.of ag,(cV (j:=0) (by rfl):iq _ ((0:Nat):Int)=_),kk z0 ys _ (CZ hn m1) m3 hp (by rw [ai nl]; exact sl) ((jf.trans (aj.keep Mi l)).trans (aV.ao hD))⟩
 . rintro i acc σ H5 hi aW ⟨rfl,⟨v,rfl⟩,rfl⟩
   have Bm:(cZ nm)[i]?=some (cZ nm)[i]:=List.getElem?_eq_getElem hi
   have hx:((cZ nm).map V.str)[i]?=some (.str (cZ nm)[i]):=by rw [List.getElem?_map,Bm]; rfl
   refine ⟨⟨_,_,aq.of (h5 _),hx⟩,?_⟩
   rintro x H' ⟨rfl,cT⟩
   have ex:=cT _ (aq.of (h5 _))
   rw [hx] at ex
   cases ex
   refine ⟨_,rfl,_,rfl,t,_,rfl,.inl (hSt _),rfl,Ey told,_,rfl,?_⟩
   have V5:∀j,((((cZ nm).take j).filter λz=>!decide (z∈told)).map V.str).length<sizeLine:=λj=>by
    rw [List.length_map]
    refine Nat.lt_of_le_of_lt (List.length_filter_le _ _) ?_
    rw [List.length_take]
    have:(cZ nm).length=105:=by
     unfold cZ c7 Iq Ir c5
     simp only [List.length_append,List.length_map,List.length_singleton]
     decide
    exact small (by omega)
   refine dq (λh=>?_) (λh=>?_)
   . have k8:(cZ nm)[i]∉told:=by simpa [vb] using h
     refine ⟨_,rfl,_,ag,V5 i,bo hi ag ⟨?_,⟨_,rfl⟩,by rw [g7]⟩⟩
     rw [take_succ_filter _ _ _ _ Bm,if_pos (by simp [k8]),List.map_append]
     rfl
   . have k8:(cZ nm)[i]∈told:=by simpa [vb] using h
     refine bo hi ag ⟨?_,⟨_,rfl⟩,rfl⟩
     rw [take_succ_filter _ _ _ _ Bm,if_neg (by simp [k8]),List.append_nil]
theorem yI {f fP:Addr}{fd rp:FuncData}(F:cC K "_law_spelt" "_law_spelt" iW f fd) (T:Own mg) (FP:cC K "_law_pick" "_law_pick" j5 fP rp) (bP:Binds K rp ["_law_left", "_law_many"] []) (mP:mg "_law_pick" = some (.ref fP)) :
 aw P w K mg base aD 2 f fd ["_law_left", "_law_told"] (qw K):=by
 have GP:aw P w K mg base aD 1 fP rp ["_law_left", "_law_many"] pH:=va FP T
 refine F.ok iI (λvs H Q E h=>?_) (λcdv A outer s H vs Q E hr h=>?_)
 . obtain ⟨l,t,xs,told,rfl,_⟩:=h
   rfl
 . obtain ⟨l,t,xs,told,rfl,hl,hp,cD,hS,di,kk⟩:=h
   obtain ⟨tR,hR,rR⟩:=C3 (P:=P) (w:=w) (mg:=mg) (base:=base) (f:=f) (cdv:=cdv) (A:=A) (outer:=outer) (s:=s) (E:=E) hS cD di ⟨xs,hl⟩ kk
   refine ⟨_,ak (aE (i:=2) iI.nd rfl (Or.inr rfl) aO)
    (ak (aE (i:=3) iI.nd rfl (Or.inl rfl) (eD PySem.F.plainAttrs_str PySem.F.slot_str_split PySem.F.type_str_split GD aO (ae aO ah)))
    (ak (aE (i:=4) iI.nd rfl (Or.inl rfl) (aH cL av (aA GP hr rfl mP FP.kp bP .nil az (ae (pv 0) (ae av ah)))))
    (ak (aE (i:=5) iI.nd rfl (Or.inr rfl) (bz bJ (pv 3) (aA GP hr rfl mP FP.kp bP .nil az (ae (pv 0) (ae av ah))) (λ_ _=>rfl)))
    (ak (bY (a8 CD (pv 4) av (bp _))
     (ar (aE (i:=5) iI.nd rfl (Or.inr rfl) (eD PySem.F.plainAttrs_str PySem.F.slot_str_join PySem.F.type_str_join Kp aO (ae
      (cX (N:=["_law_k", "_law_left", "_law_letters"]) (js:=[none,some 0,some 2]) (by kernel_rfl) rfl (cO rfl T.range (ae (pv 4) ah)) (λ_ _ _ _ _ _=>ax (i:=0) Qv rfl (Or.inl rfl) (.inr rfl)) (λ_ _ _ _ _ _=>bj)
       (λ_ _ _ _ _ _=>bz tY (pv 2) (aA GP hr rfl mP FP.kp bP .nil az (ae (pv 1) (ae av ah))) (λ_ _=>rfl))) ah)))) aY) hR)))),?_⟩
   refine ⟨rfl,_,_,rfl,rfl,(by decide +kernel),(by decide +kernel),(by decide +kernel),λw1 SR=>?_⟩
   rw [AI]
   have nw:l≠w1:=af hl SR
   refine ⟨_,rfl,l,xs,9,rfl,(by rw [ai nw]; exact hl),hp,by decide,by decide,λd ys H2 d0 d1 fw c8 kp2=>⟨_,_,rfl,rfl,?_⟩⟩
   have Iw:H2 w1=some (.lst (eS.map V.str)):=kp2 w1 _ ag (Ne.symm nw)
   refine ⟨_,rfl,_,rfl,l,ys,11,rfl,c8,fw,by decide,by decide,λd2 jF H3 e0 e1 lI pK iJ=>?_⟩
   have Iy:H3 w1=some (.lst (eS.map V.str)):=iJ w1 _ Iw (Ne.symm nw)
   have Ml:aV H H3 l:=((aV.ao SR).trans kp2).trans iJ
   have hlen:eS.length=11:=by decide +kernel
   have hd2:d2.toNat<eS.length:=by rw [hlen]; omega
   have ed2:((d2.toNat:Nat):Int)=d2:=by omega
   have Eu:iq (eS.map V.str) ((d2.toNat:Nat):Int)=some (.str eS[d2.toNat]):=cV (by rw [List.getElem?_map,List.getElem?_eq_getElem hd2]; rfl)
   rw [ed2] at Eu
   have yJ:bw eS[d2.toNat]:=AJ _ (List.getElem_mem hd2)
   refine ⟨w1,_,_,.str eS[d2.toNat],rfl,rfl,aq.of Iy,Eu,?_⟩
   refine ⟨_,rfl,_,_,rfl,rfl,_,rfl,?_⟩
   refine dq (λhc=>?_) (λ_=>?_)
   . have eQ:(1:Int)+d<9:=of_decide_eq_true hc
     refine ⟨rfl,_,rfl,_,rfl,by omega,by omega,λD hD=>?_⟩
     have nD:l≠D:=af pK hD
     refine cY (1+d).toNat (λi acc σ H'=>∃(zs:List Str) (v:Option V) (yK:List V),acc=zs.map V.str/\zs.length=i/\(∀y∈zs,∃c∈aG,y=⟨#[c]⟩)/\σ=[v,some (.ref l),some (.str wq)]/\d8 yK/\H' l=some (.lst yK)/\aV H3 H' l)
      ⟨[],none,jF,rfl,rfl,λy hy=>(by cases hy),rfl,lI,(by rw [ai nD]; exact pK),aV.ao hD⟩ ag ?_ ?_
     . rintro acc σ H4 aW ⟨zs,v,yK,rfl,SS,hz,rfl,e9,um,jf⟩
       refine ⟨Nat.le_refl _,?_⟩
       refine ⟨"",D,zs,rfl,rfl,aq.of aW,?_,?_⟩
       . rw [yH zs hz]
         have e0:("" : Str).length=0:=by decide +kernel
         rw [e0]
         omega
       . exact rR _ yK H4 w1 _ (AK (by omega) (by omega) hz) e9 um (Ml.trans jf)
     . rintro i acc σ H4 hi aW ⟨zs,v,yK,rfl,SS,hz,rfl,e9,um,jf⟩
       refine ⟨hi,?_⟩
       rintro x H' ⟨rfl,rfl⟩
       refine cA ?_
       refine ⟨_,rfl,_,rfl,l,yK,26,rfl,um,e9,by decide,by decide,λd' pL H5 c0 c1 jE uq ff=>?_⟩
       have jZ:aG.length=26:=by decide
       have hd':d'.toNat<aG.length:=by omega
       have ed':((d'.toNat:Nat):Int)=d':=by omega
       have Mm:iq wq.cps.toList ((d'.toNat:Nat):Int)=some aG[d'.toNat]:=cV (by rw [Bh]; exact List.getElem?_eq_getElem hd')
       rw [ed'] at Mm
       have Mn:H5 D=some (.lst (zs.map V.str)):=ff D _ aW (Ne.symm nD)
       refine ⟨wq,d',aG[d'.toNat],rfl,rfl,(by decide +kernel),Mm,_,Mn,?_,bo hi ag ⟨zs++[⟨#[aG[d'.toNat]]⟩],_,pL,?_,?_,λy hy=>?_,rfl,jE,?_,?_⟩⟩
       . rw [List.length_map]
         exact small (by omega)
       . rw [List.map_append]
         rfl
       . rw [List.length_append,List.length_singleton,SS]
       . rcases List.mem_append.mp hy with hy | hy
         . exact hz y hy
         . have:y=⟨#[aG[d'.toNat]]⟩:=by simpa using hy
           exact ⟨_,List.getElem_mem hd',this⟩
       . rw [ai nD]
         exact uq
       . intro b o hb iX
         have nb:b≠D:=λz=>by rw [z,hD] at hb; cases hb
         rw [ai nb]
         exact ff b o (jf b o hb iX) iX
   . exact rR _ jF H3 w1 _ yJ lI pK Ml
end
end Gen
namespace Gen
open PySem L2
def Lit (names:List Str) (z:Str):Prop:=z = "0" \/ z = "1" \/ ∃x∈names,z=x\/z = "~" ++ x
inductive ur (K:W.Frag) (vs:List V) (H:Hp) (Q:VK):Prop
 | mk (l n:Addr) (xs:List V) (names:List Str) (h1:vs=[.ref l,.ref n]) (h2:H l=some (.lst xs)) (h3:d8 xs) (h4:n≠l) (h5:aq K H n (names.map V.str)) (h6:names.length<=200) (h7:(∀z∈names,bw z)) (h8:∀(z:Str) (ys:List V) (H':Hp),Lit names z->d8 ys->H' l=some (.lst ys)->aV H H' l->Q (.str z) H'):ur K vs H Q
def lJ (K:W.Frag):Sp:=λvs H Q _=>ur K vs H Q
theorem GJ {names:List Str}{i:Int}(h0:0<=i) (h1:i.toNat<names.length):iq (names.map V.str) i=some (.str names[i.toNat]):=by
 have e:((i.toNat:Nat):Int)=i:=by omega
 have:=cV (xs:=names.map V.str) (j:=i.toNat) (v:=.str names[i.toNat]) (by rw [List.getElem?_map,List.getElem?_eq_getElem h1]; rfl)
 rw [e] at this
 exact this
section
variable {P:Program}{w:World}{K:W.Frag}{mg:Str->Option Value}{base:Heap}
theorem wx:aQ ["_law_left", "_law_names", "_law_spot"] ["_law_left", "_law_names"] (au iD):=⟨rfl,rfl,rfl,by decide +kernel,rfl,by decide +kernel,by decide +kernel⟩
theorem uu {f fP:Addr}{fd rp:FuncData}(F:cC K "_law_literal" "_law_literal" iD f fd) (T:Own mg) (FP:cC K "_law_pick" "_law_pick" j5 fP rp) (bP:Binds K rp ["_law_left", "_law_many"] []) (mP:mg "_law_pick" = some (.ref fP)) :
 aw P w K mg base aD 2 f fd ["_law_left", "_law_names"] (lJ K):=by
 have GP:aw P w K mg base aD 1 fP rp ["_law_left", "_law_many"] pH:=va FP T
 refine F.ok wx (λvs H Q E h=>?_) (λcdv A outer s H vs Q E hr h=>?_)
 . obtain ⟨l,n,xs,names,rfl,_⟩:=h
   rfl
 . obtain ⟨l,n,xs,names,rfl,hl,hp,cD,hS,di,gn,kk⟩:=h
   refine ⟨_,ak (aE (i:=2) wx.nd rfl (Or.inl rfl) (aA GP hr rfl mP FP.kp bP .nil az (ae (pv 0) (ae (aH cL (aH ft av (aU bZ (by rfl) T.len PySem.boot_len (ae (pv 1) ah))) av) ah))))
    (ak (bY (a8 lC (pv 2) (aH jC (aH ft av (aU bZ (by rfl) T.len PySem.boot_len (ae (pv 1) ah))) av) (bp _))
     (ar (aT (bz tY aO (aH ij (pv 2) av) (λ_ _=>rfl)))) aY)
    (ar (aT (aH eC (bz bJ (bt (ae aO (ae aO ah))) (aH ij (pv 2) av) (λ_ _=>rfl)) (bz bJ (pv 1) (aH uW (pv 2) av) (λ_ _=>rfl)))))),?_⟩
   have el:((names.map V.str).length:Int)=(names.length:Int):=by rw [List.length_map]
   refine ⟨_,rfl,_,rfl,n,_,rfl,.inl hS,_,_,rfl,rfl,.inl ⟨by decide,by decide⟩,_,_,rfl,rfl,l,xs,_,rfl,hl,hp,(by rw [el]; omega),(by rw [el]; omega),λd ys H2 d0 d1 fw c8 kp2=>?_⟩
   rw [el] at d1
   have yL:aq K H2 n (names.map V.str):=kp2.seq hl hS cD
   refine ⟨_,rfl,_,rfl,n,_,rfl,.inl yL,_,_,rfl,rfl,.inl ⟨by decide,by decide⟩,_,_,rfl,rfl,_,_,rfl,rfl,_,rfl,?_⟩
   have m0:0<=d % 2:=Int.emod_nonneg _ (by decide)
   have m2:d % 2<2:=Int.emod_lt_of_pos _ (by decide)
   refine dq (λhc=>?_) (λhc=>?_)
   . have c2:("01" : Str).cps.toList=[48,49]:=by decide +kernel
     refine ⟨_,rfl,_,_,rfl,rfl,(by show (0:Int)<2; decide), "01",_,if d % 2=0 then 48 else 49,rfl,rfl,(by decide +kernel),?_,kk _ ys H2 ?_ fw c8 kp2⟩
     . rw [c2]
       rcases (show d % 2=0\/d % 2=1 by omega) with e | e
       . rw [e]; rfl
       . rw [e]; rfl
     . rcases (show d % 2=0\/d % 2=1 by omega) with e | e
       . rw [e]; exact .inl (by decide +kernel)
       . rw [e]; exact .inr (.inl (by decide +kernel))
   . have eQ:¬ (2*((names.map V.str).length:Int)-1<d):=λh=>hc (decide_eq_true h)
     rw [el] at eQ
     refine ⟨(by show 2<=sizeLine; decide),λp fk=>?_⟩
     have hd2:(d / 2).toNat<names.length:=by omega
     have hS3:aq K (upd H2 p (.lst [.str "",.str "~"])) n (names.map V.str):=aj.seq (aj.ao fk) yL
     have nl:l≠p:=af c8 fk
     refine ⟨_,rfl,_,_,rfl,rfl,(by show (0:Int)<2; decide),p,_,_,.str (if d % 2=0 then "" else "~"),rfl,rfl,aq.of ag,?_,_,rfl,_,rfl,_,_,rfl,rfl,⟨by decide,by decide⟩,n,_,_,_,rfl,rfl,hS3,GJ (by omega) hd2,_,_,rfl,rfl,?_,?_⟩
     . rcases (show d % 2=0\/d % 2=1 by omega) with e | e
       . rw [e]; rfl
       . rw [e]; rfl
     . have h8:=(gn _ (List.getElem_mem hd2)).len
       have h1:(if d % 2=0 then ("" : Str) else "~").length<=1:=by
        split
        . decide +kernel
        . decide +kernel
       exact gb (by omega)
     . refine kk _ ys _ ?_ fw (by rw [ai nl]; exact c8) (kp2.trans (aV.ao fk))
       refine .inr (.inr ⟨_,List.getElem_mem hd2,?_⟩)
       rcases (show d % 2=0\/d % 2=1 by omega) with e | e
       . left
         rw [if_pos e]
         exact Bi (by rw [my,wm,List.nil_append])
       . right
         rw [if_neg (by omega)]
end
def bq (H:Hp) (p:Addr) (rs:List (List V)):Prop:=∃ts:List Addr,H p=some (.lst (ts.map V.ref))/\Paired (λt r=>H t=some (.tup r)) ts rs
def jm (r:Str×Str):List V:=[.str r.1,.str r.2]
structure gx (names told:List Str) (rows:List (Str×Str)):Prop where
 nm:∀r∈rows,bw r.1
 lit:∀r∈rows,Lit names r.2
 ut:∀r∈rows,r.1∉told
 nd:(rows.map (·.1)).Nodup
theorem bq.keep {H H':Hp}{p l:Addr}{rs:List (List V)}{xs:List V}(h:bq H p rs) (k:aV H H' l) (hl:H l=some (.lst xs)) (hp:p≠l):bq H' p rs:=by
 obtain ⟨ts,h1,h2⟩:=h
 exact ⟨ts,k p _ h1 hp,Paired.bh h2 λt r e=>k t _ e (bu e hl (by intro z; cases z))⟩
theorem bq.same {H H':Hp}{p:Addr}{rs:List (List V)}(h:bq H p rs) (k:aj H H'):bq H' p rs:=by
 obtain ⟨ts,h1,h2⟩:=h
 exact ⟨ts,k p _ h1,Paired.bh h2 λt r e=>k t _ e⟩
theorem a9 {α β:Type}{F:α->β->Prop} : ∀{l₁:List α}{l₂:List β}{i:Nat}{b:β},Paired F l₁ l₂->l₂[i]?=some b->∃a,l₁[i]?=some a/\F a b
 | _,_,i,b,.nil,h=>by simp at h
 | _,_,0,b,.cons h t,e=>⟨_,rfl,by simpa using (show _=_ from Option.some.inj e) ▸ h⟩
 | _,_,i+1,b,.cons h t,e=>let ⟨a,h1,h2⟩:=a9 t (i:=i) (b:=b) (by simpa using e); ⟨a,by simpa using h1,h2⟩
theorem bq.snoc {H:Hp}{p t:Addr}{rs:List (List V)}{r:List V}{ts:List Addr}(h2:Paired (λt r=>H t=some (.tup r)) ts rs) (ht:H t=some (.tup r)) (hp:∀a xs,H a=some (.tup xs)->a≠p) :
 bq (upd H p (.lst (ts.map V.ref++[V.ref t]))) p (rs++[r]):=by
 refine ⟨ts++[t],?_,Paired.snoc (Paired.bh h2 λa b e=>?_) ?_⟩
 . rw [ag,List.map_append]
   rfl
 . rw [ai (hp a b e)]
   exact e
 . rw [ai (hp t r ht)]
   exact ht
inductive wy (K:W.Frag) (vs:List V) (H:Hp) (Q:VK):Prop
 | mk (l n t:Addr) (xs:List V) (names told:List Str) (m:Int) (h1:vs=[.ref l,.ref n,.ref t,.int m]) (h2:H l=some (.lst xs)) (h3:d8 xs) (h4:n≠l) (h5:t≠l) (h6:aq K H n (names.map V.str)) (h7:names.length<=200) (h8:(∀z∈names,bw z)) (h9:H t=some (.lst (told.map V.str))) (EC:told.length<=20) (SU:0<=m) (SV:m<=20) (SW:∀(p:Addr) (rows:List (Str×Str)) (ys:List V) (H':Hp),H p=none->gx names told rows->rows.length=m.toNat->bq H' p (rows.map jm)->d8 ys->H' l=some (.lst ys)->aV H H' l->Q (.ref p) H'):wy K vs H Q
def sO (K:W.Frag):Sp:=λvs H Q _=>wy K vs H Q
section
variable {P:Program}{w:World}{K:W.Frag}{mg:Str->Option Value}{base:Heap}
abbrev Kw:List Str:=["_law_left", "_law_names", "_law_told", "_law_many", "_law_found", "_law_k", "_law_wish"]
abbrev km:List Str:=["_law_left", "_law_names", "_law_told", "_law_many"]
theorem nT:aQ Kw km (au kj):=⟨rfl,rfl,rfl,by decide +kernel,rfl,by decide +kernel,by decide +kernel⟩
theorem Iz:(["_law_one"]:List Str).Nodup:=by decide +kernel
theorem wz {D p:Addr}{Q:Hp->Prop}{H1:Hp}{rows:List (Str×Str)}{ts:List Addr}(hD:H1 D=none) (hp:H1 p=some (.lst (ts.map V.ref))) (h2:Paired (λt r=>H1 t=some (.tup r)) ts (rows.map jm)) (hlen:rows.length<=100)
 (fin:Q (upd H1 D (.lst ((rows.map (·.1)).map V.str)))) :
 ∃W:Nat->Nat->St->Hp->Prop,(∃m,W 0 m [none] (upd H1 D (.lst [])))/\Bc D (dr 0) sG (vT (pj K) (oX 0) (tC (.int 0))) (vR K p) W Q:=by
 have np:p≠D:=af hp hD
 have yx:∀o,(upd H1 D o) p=some (.lst (ts.map V.ref)):=λo=>by rw [ai np]; exact hp
 have c8:=h2.length
 rw [List.length_map] at c8
 refine cY rows.length (λi acc σ H=>acc=((rows.take i).map (·.1)).map V.str/\(∃v,σ=[v])/\H=upd H1 D (.lst acc)) ⟨rfl,⟨none,rfl⟩,rfl⟩ ag ?_ ?_
 . rintro acc σ H _ ⟨rfl,_,rfl⟩
   refine ⟨⟨_,aq.of (yx _),by rw [List.length_map,c8]; exact Nat.le_refl _⟩,?_⟩
   rw [List.take_length]
   exact fin
 . rintro i acc σ H hi aW ⟨rfl,⟨v,rfl⟩,rfl⟩
   have gy:rows[i]?=some rows[i]:=List.getElem?_eq_getElem hi
   obtain ⟨t,ht,hT⟩:=a9 h2 (i:=i) (b:=jm rows[i]) (by rw [List.getElem?_map,gy]; rfl)
   have hx:(ts.map V.ref)[i]?=some (.ref t):=by rw [List.getElem?_map,ht]; rfl
   refine ⟨⟨_,_,aq.of (yx _),hx⟩,?_⟩
   rintro x H' ⟨rfl,cT⟩
   have ex:=cT _ (aq.of (yx _))
   rw [hx] at ex
   cases ex
   refine cA ?_
   have nt:t≠D:=af hT hD
   refine ⟨_,rfl,t,_,_,.str rows[i].1,rfl,rfl,aR.of (by rw [ai nt]; exact hT),rfl,_,ag,?_,bo hi ag ⟨?_,⟨_,rfl⟩,by rw [g7]⟩⟩
   . rw [List.length_map,List.length_map,List.length_take]
     exact small (by omega)
   . rw [lH (·.1) gy,List.map_append]
     rfl
theorem ED {f fS fL fP:Addr}{fd Mo Mp rp:FuncData}(F:cC K "_law_wishes" "_law_wishes" kj f fd) (T:Own mg) (FP:cC K "_law_pick" "_law_pick" j5 fP rp) (bP:Binds K rp ["_law_left", "_law_many"] []) (mP:mg "_law_pick" = some (.ref fP))
 (FS:cC K "_law_spelt" "_law_spelt" iW fS Mo) (bS:Binds K Mo ["_law_left", "_law_told"] []) (mS:mg "_law_spelt" = some (.ref fS)) (FL:cC K "_law_literal" "_law_literal" iD fL Mp) (bL:Binds K Mp ["_law_left", "_law_names"] []) (mL:mg "_law_literal" = some (.ref fL)) :
 aw P w K mg base aD 3 f fd km (sO K):=by
 have GS:aw P w K mg base aD 2 fS Mo ["_law_left", "_law_told"] (qw K):=yI FS T FP bP mP
 have GL:aw P w K mg base aD 2 fL Mp ["_law_left", "_law_names"] (lJ K):=uu FL T FP bP mP
 refine F.ok nT (λvs H Q E h=>?_) (λcdv A outer s H vs Q E hr h=>?_)
 . obtain ⟨l,n,t,xs,names,told,m,rfl,_⟩:=h
   rfl
 . obtain ⟨l,n,t,xs,names,told,m,rfl,hl,hp,kT,mE,hS,hnn,gn,hT,htn,m0,m1,kk⟩:=h
   refine ⟨_,ak (aE (i:=4) nT.nd rfl (Or.inl rfl) (bt ah))
    (ak (cc PassesOwn.never rfl (cO rfl T.range (ae (pv 3) ah)) (ax (i:=5) nT.nd rfl (Or.inl rfl))
     (ak (aE (i:=6) nT.nd rfl (Or.inl rfl) (aA GS hr rfl mS FS.kp bS .nil az (ae (pv 0) (ae (aH iu (pv 2)
      (cX (N:=["_law_one"]) (js:=[none]) (by kernel_rfl) rfl (bU (pv 4)) (λ_ _ _ _ _ _=>ax (i:=0) Iz rfl (Or.inl rfl) (.inr rfl)) (λ_ _ _ _ _ _=>bj)
       (λ_ _ _ _ _ _=>bz (r:=pj K) mm (pv 0) av (λ_ _=>rfl)))) ah))))
     (ar (dg (eD PySem.F.plainAttrs_list PySem.F.slot_list_append PySem.F.type_list_append dj (pv 4) (ae (eh (ae (pv 6) (ae (aA GL hr rfl mL FL.kp bL .nil az (ae (pv 0) (ae (pv 1) ah))) ah))) ah))))))
    (ar (aT (pv 4)))),?_⟩
   refine ⟨(by show 0<=sizeLine; decide),λp fk=>?_⟩
   have IA:l≠p:=af hl fk
   refine ⟨_,rfl,_,rfl,by omega,by omega,eI (n:=m.toNat) (λi σ H2=>∃(rows:List (Str×Str)) (v5 v6:Option V) (ys:List V),σ=[some (.ref l),some (.ref n),some (.ref t),some (.int m),some (.ref p),v5,v6]/\rows.length=i/\gx names told rows/\
    bq H2 p (rows.map jm)/\d8 ys/\H2 l=some (.lst ys)/\aV H H2 l) ?_ ?_ ?_⟩
   . exact ⟨[],none,none,xs,rfl,rfl,⟨(λ_ h=>nomatch h),(λ_ h=>nomatch h),(λ_ h=>nomatch h),List.nodup_nil⟩,⟨[],ag,.nil⟩,hp,(by rw [ai IA]; exact hl),aV.ao fk⟩
   . rintro i σ H2 hi ⟨rows,v5,v6,ys,rfl,rq,hw,⟨ts,fw,gz⟩,eU,c8,kp2⟩
     have mx:H2 t=some (.lst (told.map V.str)):=kp2 t _ hT mE
     have yL:aq K H2 n (names.map V.str):=kp2.seq hl hS kT
     have vc:=gz.length
     rw [List.length_map] at vc
     refine ⟨_,rfl,_,rfl,_,rfl,p,rfl,⟨_,aq.of fw⟩,λD hD=>wz hD fw gz (by omega) ?_⟩
     have nTD:t≠D:=af mx hD
     have nLD:l≠D:=af c8 hD
     refine ⟨t,D,_,_,rfl,rfl,(by rw [ai nTD]; exact mx),ag,?_,λq hq=>?_⟩
     . rw [List.length_map,List.length_map,List.length_map]
       exact kY (by omega)
     have nLq:l≠q:=af (by rw [ai nLD]; exact c8) hq
     have sm3:∀o3 o4,(upd H2 D o3) q=none->aj H2 (upd (upd H2 D o3) q o4):=λo3 o4 hz=>(aj.ao hD).trans (aj.ao hz)
     have Bn:=sm3 _ (.lst (told.map V.str++(rows.map (·.1)).map V.str)) hq
     generalize hG:upd _ q (HO.lst (told.map V.str++(rows.map (·.1)).map V.str))=H3 at *
     have Bo:H3 q=some (.lst ((told++rows.map (·.1)).map V.str)):=by rw [← hG,ag,List.map_append]
     have pK:H3 l=some (.lst ys):=Bn l _ c8
     refine ⟨l,q,ys,told++rows.map (·.1),rfl,pK,eU,Ne.symm nLq,aq.of Bo,(by rw [List.length_append,List.length_map]; omega),λz jF H4 hz Iv e9 um jf=>?_⟩
     have GK:aV H2 H4 l:=(aj.keep Bn l).trans jf
     have V6:H4 p=some (.lst (ts.map V.ref)):=GK p _ fw (Ne.symm IA)
     have hS4:aq K H4 n (names.map V.str):=GK.seq c8 yL kT
     refine ⟨_,rfl,.inl ⟨rfl,_,aq.of V6⟩,_,rfl,_,rfl,_,rfl,l,n,jF,names,rfl,um,e9,kT,hS4,hnn,gn,λz2 pL H5 lg jE uq ff=>?_⟩
     refine ⟨(by show 2<=sizeLine; decide),λTp gh=>?_⟩
     have GN:aV H2 H5 l:=GK.trans ff
     have iE:H5 p=some (.lst (ts.map V.ref)):=GN p _ fw (Ne.symm IA)
     have oM:p≠Tp:=af iE gh
     have nlT:l≠Tp:=af uq gh
     refine ⟨p,_,_,rfl,rfl,(by rw [ai oM]; exact iE),(by rw [List.length_map]; exact small (by omega)),?_⟩
     have hw':gx names told (rows++[(z,z2)]):=by
      have Mq:z∉told/\z∉rows.map (·.1):=by
       constructor
       . exact λh=>Iv (List.mem_append_left _ h)
       . exact λh=>Iv (List.mem_append_right _ h)
      refine ⟨λr hr=>?_,λr hr=>?_,λr hr=>?_,?_⟩
      . rcases List.mem_append.mp hr with hr | hr
        . exact hw.nm r hr
        . rw [List.mem_singleton.mp hr]; exact hz
      . rcases List.mem_append.mp hr with hr | hr
        . exact hw.lit r hr
        . rw [List.mem_singleton.mp hr]; exact lg
      . rcases List.mem_append.mp hr with hr | hr
        . exact hw.ut r hr
        . rw [List.mem_singleton.mp hr]; exact Mq.1
      . rw [List.map_append,List.nodup_append]
        refine ⟨hw.nd,by simp,λa ha b hb e=>?_⟩
        have:b=z:=by simpa using hb
        rw [this] at e
        exact Mq.2 (e ▸ ha)
     refine ⟨rows++[(z,z2)],_,_,pL,rfl,(by rw [List.length_append,List.length_singleton,rq]),hw',?_,jE,(by rw [ai IA,ai nlT]; exact uq),λb o hb iX=>?_⟩
     . rw [List.map_append]
       refine bq.snoc (Paired.bh gz λa r e=>?_) ag λa pM e z'=>?_
       . have ea:=GN a _ e (bu e c8 (by intro z; cases z))
         rw [ai (af ea gh)]
         exact ea
       . rw [z',ai oM,iE] at e
         cases e
     . have e5:=GN b o (kp2 b o hb iX) iX
       rw [ai (af hb fk),ai (af e5 gh)]
       exact e5
   . rintro σ H2 ⟨rows,v5,v6,ys,rfl,rq,hw,yM,eU,c8,kp2⟩
     exact ⟨_,rfl,kk p rows ys H2 fk hw rq yM eU c8 kp2⟩
end
end Gen
namespace Gen
open PySem L2
structure aN where
 switches:List Str
 keepers:List (Str×V)
 gates:List (Str×Str×Str)
 nexts:List (Str×Str)
 nevers:List (Str×Str)
 somes:List (Str×Str)
def iY (r:Str×V):List V:=[.str r.1,r.2]
def ma (r:Str×Str×Str):List V:=[.str r.1,.str r.2.1,.str r.2.2]
def qx (a1 a2 a3 a4 a5 a6:Addr):List (Key×V):=
 [(.inr "switches",.ref a1),(.inr "keepers",.ref a2),(.inr "gates",.ref a3),(.inr "nexts",.ref a4),(.inr "nevers",.ref a5),(.inr "somes",.ref a6)]
structure eu (H:Hp) (m:Addr) (M:aN) (a1 a2 a3 a4 a5 a6:Addr):Prop where
 top:H m=some (.dK (qx a1 a2 a3 a4 a5 a6))
 sw:H a1=some (.lst (M.switches.map V.str))
 kp:bq H a2 (M.keepers.map iY)
 gt:bq H a3 (M.gates.map ma)
 nx:bq H a4 (M.nexts.map jm)
 nv:bq H a5 (M.nevers.map jm)
 sm:bq H a6 (M.somes.map jm)
structure mH (M:aN) (names:List Str):Prop where
 all:names=M.switches++M.keepers.map (·.1)++M.gates.map (·.1)
 nm:∀z∈names,bw z
 nd:names.Nodup
 first:∀r∈M.keepers,r.2=.int 0\/r.2=.int 1\/r.2=.aS
 nxk:∀r∈M.nexts,r.1∈M.keepers.map (·.1)
 nxl:∀r∈M.nexts,Lit names r.2
 nxd:(M.nexts.map (·.1)).Nodup
 nvw:gx names [] M.nevers
 smw:gx names (M.nevers.map (·.1)) M.somes
 gl:∀(i:Nat) (r:Str×Str×Str),M.gates[i]?=some r->Lit (M.switches++M.keepers.map (·.1)++(M.gates.take i).map (·.1)) r.2.1/\Lit (M.switches++M.keepers.map (·.1)++(M.gates.take i).map (·.1)) r.2.2
def gk (K:W.Frag) (H:Hp) (z:Addr) (s0 s1 s2 s3:Int):Prop:=(aq K H z [.int s0,.int s1,.int s2,.int s3]\/aR K H z [.int s0,.int s1,.int s2,.int s3])/\(0<=s0/\s0<=12)/\(0<=s1/\s1<=16)/\(0<=s2/\s2<=60)/\1<=s3/\s3<=8
theorem aj.jn {K:W.Frag}{H H':Hp}{a:Addr}{xs:List V}(e:aj H H') (h:aR K H a xs):aR K H' a xs:=by
 rcases h with (h | ⟨o,h⟩) | h
 . exact .inl (.inl (e a _ h))
 . exact .inl (.inr ⟨o,e a _ h⟩)
 . exact .inr h
theorem gk.same {K:W.Frag}{H H':Hp}{z:Addr}{s0 s1 s2 s3:Int}(h:gk K H z s0 s1 s2 s3) (k:aj H H'):gk K H' z s0 s1 s2 s3:=⟨h.1.imp (aj.seq k) (aj.jn k),h.2⟩
theorem gk.ix {K:W.Frag}{H:Hp}{z:Addr}{s0 s1 s2 s3:Int}(h:gk K H z s0 s1 s2 s3){i:Int}{v:V}{Q:VK}(hi:iq [V.int s0,.int s1,.int s2,.int s3] i=some v) (q:Q v H):SD K (.ref z) (.int i) H Q:=by
 rcases h.1 with h | h
 . exact .inl ⟨z,_,i,v,rfl,rfl,h,hi,q⟩
 . exact .inr (.inl ⟨z,_,i,v,rfl,rfl,h,hi,q⟩)
abbrev Mr:List Str:=["_law_cells", "_law_sizes", "_law_k", "_law_a", "_law_b", "_law_c", "_law_names", "_law_switches", "_law_keepers", "_law_gates", "_law_name", "_law_nexts", "_law_keeper", "_law_first", "_law_nevers", "_law_somes", "_law_made_here"]
abbrev pN:List Str:=["_law_cells", "_law_sizes"]
theorem eV:aQ Mr pN (au dH):=⟨rfl,rfl,rfl,by decide +kernel,rfl,by decide +kernel,by decide +kernel⟩
abbrev xD (P:Program) (w:World) (K:W.Frag) (mg:Str->Option Value) (base:Heap) (f:Addr) (cdv:Value) (A:Around) (outer:List Env) (s:Shared) (H:Hp) (E:XK):Cx:=
 (nJ aD P w K mg base Mr "_law_machine_digits" (au dH) f cdv A outer s H E).xZ
section
variable {P:Program}{w:World}{K:W.Frag}{mg:Str->Option Value}{base:Heap}
structure Defs (P:Program) (w:World) (K:W.Frag) (mg:Str->Option Value) (base:Heap) (fP fS fL fW fR:Addr) (dP dS dL dW dR:FuncData):Prop where
 T:Own mg
 gP:aw P w K mg base aD 1 fP dP ["_law_left", "_law_many"] pH
 mP:mg "_law_pick" = some (.ref fP)
 kP:W.keepIn K (.ref fP)=true
 bP:Binds K dP ["_law_left", "_law_many"] []
 gS:aw P w K mg base aD 2 fS dS ["_law_left", "_law_told"] (qw K)
 mS:mg "_law_spelt" = some (.ref fS)
 kS:W.keepIn K (.ref fS)=true
 bS:Binds K dS ["_law_left", "_law_told"] []
 gL:aw P w K mg base aD 2 fL dL ["_law_left", "_law_names"] (lJ K)
 mL:mg "_law_literal" = some (.ref fL)
 kL:W.keepIn K (.ref fL)=true
 bL:Binds K dL ["_law_left", "_law_names"] []
 gW:aw P w K mg base aD 3 fW dW km (sO K)
 mW:mg "_law_wishes" = some (.ref fW)
 kW:W.keepIn K (.ref fW)=true
 bW:Binds K dW km []
 gR:aw P w K mg base aD 2 fR dR ["_law_cell", "_law_k"] ui
 mR:mg "_law_rich" = some (.ref fR)
 kR:W.keepIn K (.ref fR)=true
 bR:Binds K dR ["_law_cell", "_law_k"] []
variable {fP fS fL fW fR:Addr}{dP dS dL dW dR:FuncData}
structure yN (K:W.Frag) (H:Hp) (z c n a1 a2 a3 a4:Addr) (s0 s1 s2 s3:Int) (names sw:List Str) (kp:List (Str×V)) (gt:List (Str×Str×Str)) (nx:List (Str×Str)):Prop where
 pc:∃xs,H c=some (.lst xs)/\d8 xs
 hz:gk K H z s0 s1 s2 s3
 zc:z≠c
 hn:H n=some (.lst (names.map V.str))
 nc:n≠c
 nl:names.length<=100
 nm:∀x∈names,bw x
 h1:H a1=some (.lst (sw.map V.str))
 c1:a1≠c
 h2:bq H a2 (kp.map iY)
 c2:a2≠c
 h3:bq H a3 (gt.map ma)
 c3:a3≠c
 h4:bq H a4 (nx.map jm)
 c4:a4≠c
theorem aV.jn {H H':Hp}{a l:Addr}{xs n:List V}(e:aV H H' l) (hl:H l=some (.lst n)) (h:aR K H a xs) (cD:a≠l):aR K H' a xs:=by
 rcases h with (h | ⟨o,h⟩) | h
 . exact .inl (.inl (e a _ h cD))
 . exact .inl (.inr ⟨o,e a _ h cD⟩)
 . exact .inr h
theorem yN.keep {H H':Hp}{z c n a1 a2 a3 a4:Addr}{s0 s1 s2 s3:Int}{names sw:List Str}{kp:List (Str×V)}{gt:List (Str×Str×Str)}{nx:List (Str×Str)}{ys:List V}(h:yN K H z c n a1 a2 a3 a4 s0 s1 s2 s3 names sw kp gt nx) (k:aV H H' c) (hy:H' c=some (.lst ys)) (hp:d8 ys) :
 yN K H' z c n a1 a2 a3 a4 s0 s1 s2 s3 names sw kp gt nx:=by
 obtain ⟨xs,hc,_⟩:=h.pc
 exact ⟨⟨ys,hy,hp⟩,⟨h.hz.1.imp (λq=>k.seq hc q h.zc) (λq=>aV.jn k hc q h.zc),h.hz.2⟩,h.zc,k n _ h.hn h.nc,h.nc,h.nl,h.nm,k a1 _ h.h1 h.c1,h.c1,h.h2.keep k hc h.c2,h.c2,h.h3.keep k hc h.c3,h.c3,h.h4.keep k hc h.c4,h.c4⟩
theorem yN.same {H H':Hp}{z c n a1 a2 a3 a4:Addr}{s0 s1 s2 s3:Int}{names sw:List Str}{kp:List (Str×V)}{gt:List (Str×Str×Str)}{nx:List (Str×Str)}(h:yN K H z c n a1 a2 a3 a4 s0 s1 s2 s3 names sw kp gt nx) (k:aj H H') :
 yN K H' z c n a1 a2 a3 a4 s0 s1 s2 s3 names sw kp gt nx:=by
 obtain ⟨xs,hc,hp⟩:=h.pc
 exact ⟨⟨xs,k c _ hc,hp⟩,h.hz.same k,h.zc,k n _ h.hn,h.nc,h.nl,h.nm,k a1 _ h.h1,h.c1,h.h2.same k,h.c2,h.h3.same k,h.c3,h.h4.same k,h.c4⟩
theorem Qw (G:Defs P w K mg base fP fS fL fW fR dP dS dL dW dR){f:Addr}{cdv:Value}{A:Around}{outer:List Env}{s:Shared}{H:Hp}{E:XK}{Q:VK}(hr:bg 3 (A.deeper (PyProof.Rows.envOfC "_law_machine_digits" (au dH) s.heap.objs.size f cdv))) :
 ∃tR:TS,iR (xD P w K mg base f cdv A outer s H E) (List.drop 10 (aI dH)) tR/\∀(σ:St) (H1:Hp) (v0 v2 v3 v4 v10 jG jH:Option V) (z c n a1 a2 a3 a4:Addr) (s0 s1 s2 s3:Int) (names sw:List Str) (kp:List (Str×V)) (gt:List (Str×Str×Str)) (nx:List (Str×Str)),
  σ=[v0,some (.ref z),v2,v3,v4,some (.ref c),some (.ref n),some (.ref a1),some (.ref a2),some (.ref a3),v10,some (.ref a4),jG,jH,none,none,none]->
  yN K H1 z c n a1 a2 a3 a4 s0 s1 s2 s3 names sw kp gt nx->
  (∀(m:Addr) (nv sm:List (Str×Str)) (a5 a6:Addr) (H':Hp),gx names [] nv->gx names (nv.map (·.1)) sm->1<=nv.length->(nv.length:Int)<=s3->(sm.length:Int)<=s3->eu H' m ⟨sw,kp,gt,nx,nv,sm⟩ a1 a2 a3 a4 a5 a6->aV H1 H' c->Q (.ref m) H')->
  tR { nx:=λ_ H'=>Q .aS H',rt:=Q } σ H1:=by
 have cI:bg 1 _:=hr.mono (by decide)
 have hu:=eZ hr
 refine ⟨_,ak (aE (i:=14) eV.nd rfl (Or.inl rfl) (aA G.gW hr rfl G.mW G.kW G.bW .nil az (ae (pv 5) (ae (pv 6) (ae (bt ah) (ae (aH cL av (aA G.gP cI rfl G.mP G.kP G.bP .nil az (ae (pv 5) (ae (bz pk (pv 1) av (λ_ _=>rfl)) ah)))) ah))))))
  (ak (aE (i:=15) eV.nd rfl (Or.inl rfl) (aA G.gW hr rfl G.mW G.kW G.bW .nil az (ae (pv 5) (ae (pv 6) (ae
   (cX (N:=["_law_one"]) (js:=[none]) (by kernel_rfl) rfl (bU (pv 14)) (λ_ _ _ _ _ _=>ax (i:=0) Iz rfl (Or.inl rfl) (.inr rfl)) (λ_ _ _ _ _ _=>bj) (λ_ _ _ _ _ _=>bz (r:=pj K) mm (pv 0) av (λ_ _=>rfl)))
   (ae (aA G.gP cI rfl G.mP G.kP G.bP .nil az (ae (pv 5) (ae (aH cL (bz pk (pv 1) av (λ_ _=>rfl)) av) ah))) ah))))))
  (ak (aE (i:=16) eV.nd rfl (Or.inl rfl) (Ki (nM aO (pv 7) (nM aO (pv 8) (nM aO (pv 9) (nM aO (pv 11) Kh)))) rfl rfl (by simp) (by decide)))
  (ak (jj hu (pv 16) aO (pv 14) rfl)
  (ak (jj hu (pv 16) aO (pv 15) rfl)
  (ar (aT (pv 16))))))),?_⟩
 rintro σ H1 v0 v2 v3 v4 v10 jG jH z c n a1 a2 a3 a4 s0 s1 s2 s3 names sw kp gt nx rfl hA kk
 obtain ⟨xs,hc,hp⟩:=hA.pc
 obtain ⟨_,_,_,_,z1,z2⟩:=hA.hz
 have kT:=hA.nl
 refine ⟨_,rfl,_,rfl,(by show 0<=sizeLine; decide),λt0 rE=>?_⟩
 have A1:=hA.same (aj.ao (o:=.lst []) rE)
 have Ms:c≠t0:=af hc rE
 have rF:(upd H1 t0 (.lst [])) c=some (.lst xs):=by rw [ai Ms]; exact hc
 refine ⟨_,rfl,_,rfl,A1.hz.ix (i:=3) (v:=.int s3) rfl ?_⟩
 refine ⟨c,xs,s3,rfl,rF,hp,by omega,by omega,λd ys H2 d0 d1 fw c8 kp2=>⟨_,_,rfl,rfl,?_⟩⟩
 have A2:=A1.keep kp2 c8 fw
 have V7:H2 t0=some (.lst (([]:List Str).map V.str)):=kp2 t0 _ ag (Ne.symm Ms)
 refine ⟨c,n,t0,ys,names,[],1+d,rfl,c8,fw,A2.nc,Ne.symm Ms,aq.of A2.hn,by omega,A2.nm,V7,by decide,by omega,by omega,λa5 nv jF H3 wA hw5 aeR SX lI pK iJ=>?_⟩
 have A3:=A2.keep iJ pK lI
 have SY:a5≠c:=Ne.symm (af c8 wA)
 obtain ⟨ts,h5,gz⟩:=id SX
 refine ⟨_,rfl,_,rfl,_,rfl,a5,rfl,⟨_,aq.of h5⟩,λD hD=>wz hD h5 gz (by omega) ?_⟩
 have Mt:aj H3 (upd H3 D (.lst ((nv.map (·.1)).map V.str))):=aj.ao hD
 have A4:=A3.same Mt
 have Mu:c≠D:=af pK hD
 have EE:(upd H3 D (.lst ((nv.map (·.1)).map V.str))) c=some (.lst jF):=by rw [ai Mu]; exact pK
 refine ⟨_,rfl,_,rfl,A4.hz.ix (i:=3) (v:=.int s3) rfl ⟨_,_,rfl,rfl,c,jF,_,rfl,EE,lI,by omega,by omega,λd' pL H5 e0 e1 jE uq ff=>?_⟩⟩
 have A5:=A4.keep ff uq jE
 have Mn:H5 D=some (.lst ((nv.map (·.1)).map V.str)):=ff D _ ag (Ne.symm Mu)
 refine ⟨c,n,D,pL,names,nv.map (·.1),d',rfl,uq,jE,A5.nc,Ne.symm Mu,aq.of A5.hn,by omega,A5.nm,Mn,(by rw [List.length_map]; omega),by omega,by omega,λa6 sm IB H6 Mv hw6 aeS ht6 Bp hl6 Br=>?_⟩
 have A6:=A5.keep Br hl6 Bp
 have T5:bq H6 a5 (nv.map jm):=((SX.same Mt).keep ff EE SY).keep Br uq SY
 have nc6:a6≠c:=Ne.symm (af uq Mv)
 intro m hm
 refine ⟨_,rfl,_,rfl,_,rfl,_,rfl,ag,[(.inr "switches",.ref a1),(.inr "keepers",.ref a2),(.inr "gates",.ref a3),(.inr "nexts",.ref a4)],rfl,(by show 4<=15; decide),?_⟩
 rw [g7]
 have em:de [] [((.inr "switches" : Key),V.ref a1),(.inr "keepers",.ref a2),(.inr "gates",.ref a3),(.inr "nexts",.ref a4)]=[((.inr "switches" : Key),V.ref a1),(.inr "keepers",.ref a2),(.inr "gates",.ref a3),(.inr "nexts",.ref a4)]:=by rfl
 rw [em]
 refine ⟨_,rfl,_,rfl,m,_,rfl,kE.k (k:=.inr "nevers") ag (by show 4<sizeLine; decide),?_⟩
 rw [g7]
 have en:putK [((.inr "switches" : Key),V.ref a1),(.inr "keepers",.ref a2),(.inr "gates",.ref a3),(.inr "nexts",.ref a4)] (.inr "nevers") (.ref a5)=[((.inr "switches" : Key),V.ref a1),(.inr "keepers",.ref a2),(.inr "gates",.ref a3),(.inr "nexts",.ref a4),(.inr "nevers",.ref a5)]:=by rfl
 rw [en]
 refine ⟨_,rfl,_,rfl,m,_,rfl,kE.k (k:=.inr "somes") ag (by show 5<sizeLine; decide),?_⟩
 rw [g7]
 have es:putK [((.inr "switches" : Key),V.ref a1),(.inr "keepers",.ref a2),(.inr "gates",.ref a3),(.inr "nexts",.ref a4),(.inr "nevers",.ref a5)] (.inr "somes") (.ref a6)=qx a1 a2 a3 a4 a5 a6:=by rfl
 rw [es]
 have IC:aj H6 (upd H6 m (.dK (qx a1 a2 a3 a4 a5 a6))):=aj.ao hm
 have A7:=A6.same IC
 refine ⟨_,rfl,kk m nv sm a5 a6 _ hw5 hw6 (by omega) (by omega) (by omega) ⟨ag,A7.h1,A7.h2,A7.h3,A7.h4,T5.same IC,ht6.same IC⟩ ?_⟩
 exact (((((aV.ao rE).trans kp2).trans iJ).trans (aj.keep Mt c)).trans (ff.trans Br)).trans (aj.keep IC c)
end
end Gen
namespace Gen
open PySem L2
theorem rG {α β:Type}{F:α->β->Prop} : ∀{l₁:List α}{l₂:List β}(k:Nat),Paired F l₁ l₂->Paired F (l₁.take k) (l₂.take k)
 | _,_,k,.nil=>by simp only [List.take_nil]; exact .nil
 | _,_,0,.cons _ _=>.nil
 | _,_,k+1,.cons h t=>.cons h (rG k t)
theorem rH {α β:Type}{F:α->β->Prop} : ∀{l₁:List α}{l₂:List β}(k:Nat),Paired F l₁ l₂->Paired F (l₁.drop k) (l₂.drop k)
 | _,_,k,.nil=>by simp only [List.drop_nil]; exact .nil
 | _,_,0,.cons h t=>.cons h t
 | _,_,k+1,.cons h t=>rH k t
theorem bE {α β:Type}{F:α->β->Prop} : ∀{l₁ m₁:List α}{l₂ m₂:List β},Paired F l₁ l₂->Paired F m₁ m₂->Paired F (l₁++m₁) (l₂++m₂)
 | _,_,_,_,.nil,h=>h
 | _,_,_,_,.cons a t,h=>.cons a (bE t h)
section
variable {P:Program}{w:World}{K:W.Frag}{mg:Str->Option Value}{base:Heap}{fP fS fL fW fR:Addr}{dP dS dL dW dR:FuncData}
structure ID (K:W.Frag) (H:Hp) (z c n a1 a2 a3:Addr) (s0 s1 s2 s3:Int) (names sw:List Str) (kp:List (Str×V)) (gt:List (Str×Str×Str)):Prop where
 pc:∃xs,H c=some (.lst xs)/\d8 xs
 hz:gk K H z s0 s1 s2 s3
 zc:z≠c
 hn:H n=some (.lst (names.map V.str))
 nc:n≠c
 nl:names.length<=100
 nm:∀x∈names,bw x
 h1:H a1=some (.lst (sw.map V.str))
 c1:a1≠c
 h2:bq H a2 (kp.map iY)
 c2:a2≠c
 h3:bq H a3 (gt.map ma)
 c3:a3≠c
 kd:(kp.map (·.1)).Nodup
 kl:kp.length<=16
theorem ID.keep {H H':Hp}{z c n a1 a2 a3:Addr}{s0 s1 s2 s3:Int}{names sw:List Str}{kp:List (Str×V)}{gt:List (Str×Str×Str)}{ys:List V}(h:ID K H z c n a1 a2 a3 s0 s1 s2 s3 names sw kp gt) (k:aV H H' c) (hy:H' c=some (.lst ys)) (hp:d8 ys) :
 ID K H' z c n a1 a2 a3 s0 s1 s2 s3 names sw kp gt:=by
 obtain ⟨xs,hc,_⟩:=h.pc
 exact ⟨⟨ys,hy,hp⟩,⟨h.hz.1.imp (λq=>k.seq hc q h.zc) (λq=>aV.jn k hc q h.zc),h.hz.2⟩,h.zc,k n _ h.hn h.nc,h.nc,h.nl,h.nm,k a1 _ h.h1 h.c1,h.c1,h.h2.keep k hc h.c2,h.c2,h.h3.keep k hc h.c3,h.c3,h.kd,h.kl⟩
def C4 (names:List Str) (kp:List (Str×V)) (nx:List (Str×Str)):Prop:=(∀r∈nx,r.1∈kp.map (·.1)/\Lit names r.2)/\(nx.map (·.1)).Nodup
theorem EF {α:Type}{l:List α}{a:α}(h:l.Nodup) (ha:a∉l) (d:Nat):(l.take d++[a]++l.drop d).Nodup:=by
 have p:(l.take d++[a]++l.drop d).Perm (a::l):=by
  rw [List.append_assoc]
  have:=List.perm_middle (a:=a) (l₁:=l.take d) (l₂:=l.drop d)
  rw [List.take_append_drop] at this
  exact this
 exact p.nodup_iff.mpr (List.nodup_cons.mpr ⟨ha,h⟩)
theorem Bs {β:Type} : ∀{kp:List (Str×β)}{i:Nat}(hi:i<kp.length),(kp.map (·.1)).Nodup->kp[i].1∉(kp.take i).map (·.1)
 | x::r,0,_,_=>by simp
 | x::r,i+1,hi,h=>by
  rw [List.map_cons,List.nodup_cons] at h
  have ih:=Bs (kp:=r) (i:=i) (by simpa using hi) h.2
  simp only [List.getElem_cons_succ,List.take_succ_cons,List.map_cons,List.mem_cons,not_or]
  refine ⟨λe=>h.1 ?_,ih⟩
  rw [← e]
  exact List.mem_map.mpr ⟨_,List.getElem_mem _,rfl⟩
theorem sP {β:Type}{kp:List (Str×β)}{i j:Nat}{x:Str}(hij:i<=j) (h:x∈(kp.take i).map (·.1)):x∈(kp.take j).map (·.1):=by
 obtain ⟨r,hr,e⟩:=List.mem_map.mp h
 refine List.mem_map.mpr ⟨r,?_,e⟩
 have:kp.take i=(kp.take j).take i:=by rw [List.take_take,Nat.min_eq_left hij]
 rw [this] at hr
 exact List.mem_of_mem_take hr
abbrev Qx (Q:VK) (s3:Int) (H1:Hp) (c a1 a2 a3:Addr) (names sw:List Str) (kp:List (Str×V)) (gt:List (Str×Str×Str)):Prop:=
 ∀(m:Addr) (nx nv sm:List (Str×Str)) (a4 a5 a6:Addr) (H':Hp),C4 names kp nx->nx.length<=kp.length->gx names [] nv->gx names (nv.map (·.1)) sm->1<=nv.length->(nv.length:Int)<=s3->(sm.length:Int)<=s3->eu H' m ⟨sw,kp,gt,nx,nv,sm⟩ a1 a2 a3 a4 a5 a6->aV H1 H' c->Q (.ref m) H'
theorem Qy (G:Defs P w K mg base fP fS fL fW fR dP dS dL dW dR){f:Addr}{cdv:Value}{A:Around}{outer:List Env}{s:Shared}{H:Hp}{E:XK}{Q:VK}(hr:bg 3 (A.deeper (PyProof.Rows.envOfC "_law_machine_digits" (au dH) s.heap.objs.size f cdv))) :
 ∃tR:TS,iR (xD P w K mg base f cdv A outer s H E) (List.drop 8 (aI dH)) tR/\∀(σ:St) (H1:Hp) (v0 v2 v3 v4 v10:Option V) (z c n a1 a2 a3:Addr) (s0 s1 s2 s3:Int) (names sw:List Str) (kp:List (Str×V)) (gt:List (Str×Str×Str)),
  σ=[v0,some (.ref z),v2,v3,v4,some (.ref c),some (.ref n),some (.ref a1),some (.ref a2),some (.ref a3),v10,none,none,none,none,none,none]->
  ID K H1 z c n a1 a2 a3 s0 s1 s2 s3 names sw kp gt->Qx Q s3 H1 c a1 a2 a3 names sw kp gt->
  tR { nx:=λ_ H'=>Q .aS H',rt:=Q } σ H1:=by
 have cI:bg 1 _:=hr.mono (by decide)
 have fT:bg 2 _:=hr.mono (by decide)
 obtain ⟨tD,hD,rD⟩:=Qw G (outer:=outer) (H:=H) (E:=E) (Q:=Q) hr
 refine ⟨_,ak (aE (i:=11) eV.nd rfl (Or.inl rfl) (bt ah))
  (ak (cc PassesOwn.never rfl (bU (pv 8)) (eg rfl (aK (ax (i:=12) eV.nd rfl (Or.inl rfl)) (aK (ax (i:=13) eV.nd rfl (Or.inl rfl)) cU)))
   (ar (bY (a8 lC (aA G.gP cI rfl G.mP G.kP G.bP .nil az (ae (pv 5) (ae av ah))) av (bp _))
    (ar (dg (eD PySem.F.plainAttrs_list PySem.F.slot_list_insert PySem.F.type_list_insert En (pv 11) (ae
     (aA G.gP cI rfl G.mP G.kP G.bP .nil az (ae (pv 5) (ae (aH cL (aU bZ (by rfl) G.T.len PySem.boot_len (ae (pv 11) ah)) av) ah)))
     (ae (eh (ae (pv 12) (ae (aA G.gL fT rfl G.mL G.kL G.bL .nil az (ae (pv 5) (ae (pv 6) ah))) ah))) ah))))) aY))) hD),?_⟩
 rintro σ H1 v0 v2 v3 v4 v10 z c n a1 a2 a3 s0 s1 s2 s3 names sw kp gt rfl hA kk
 obtain ⟨xs,hc,hp⟩:=hA.pc
 obtain ⟨ts,h2,gz⟩:=id hA.h2
 have mJ:=hA.kl
 have kT:=hA.nl
 have mE:=gz.length
 rw [List.length_map] at mE
 refine ⟨(by show 0<=sizeLine; decide),λp fk=>?_⟩
 have pO:c≠p:=af hc fk
 have n2p:a2≠p:=af h2 fk
 refine ⟨_,rfl,a2,rfl,⟨_,aq.of (by rw [ai n2p]; exact h2)⟩,d7 (K:=K) (a:=a2) (xs:=ts.map V.ref) (λi σ H2=>∃(nx:List (Str×Str)) (jG jH:Option V) (ys:List V),
  σ=[v0,some (.ref z),v2,v3,v4,some (.ref c),some (.ref n),some (.ref a1),some (.ref a2),some (.ref a3),v10,some (.ref p),jG,jH,none,none,none]/\nx.length<=i/\C4 names (kp.take i) nx/\bq H2 p (nx.map jm)/\d8 ys/\H2 c=some (.lst ys)/\aV H1 H2 c) ?_ ?_ ?_ ?_⟩
 . exact ⟨[],none,none,xs,rfl,Nat.le_refl _,⟨(λ_ h=>nomatch h),List.nodup_nil⟩,⟨[],ag,.nil⟩,hp,(by rw [ai pO]; exact hc),aV.ao fk⟩
 . rintro i σ H2 _ ⟨nx,jG,jH,ys,_,_,_,_,_,_,kp2⟩
   exact aq.of (kp2 a2 _ h2 hA.c2)
 . rintro i x σ H2 hx ⟨nx,jG,jH,ys,rfl,EG,mK,⟨us,fw,cG⟩,eU,iV,kp2⟩
   have pP:i<(ts.map V.ref).length:=(List.getElem?_eq_some_iff.mp hx).1
   rw [List.length_map,mE] at pP
   have S0:kp[i]?=some kp[i]:=List.getElem?_eq_getElem pP
   obtain ⟨t,ht,hT⟩:=a9 gz (i:=i) (b:=iY kp[i]) (by rw [List.getElem?_map,S0]; rfl)
   have ex:x=.ref t:=by
    rw [List.getElem?_map,ht] at hx
    exact (Option.some.inj hx).symm
   subst ex
   have mx:H2 t=some (.tup (iY kp[i])):=kp2 t _ hT (bu hT hc (by intro z; cases z))
   refine ⟨t,_,rfl,aR.of mx,rfl,_,_,rfl,_,_,rfl,rfl,?_⟩
   refine ⟨_,rfl,c,ys,5,rfl,iV,eU,by decide,by decide,λd jF H3 d0 d1 lI EH iJ=>⟨_,_,rfl,rfl,_,rfl,?_⟩⟩
   have GO:aV H1 H3 c:=kp2.trans iJ
   have V8:bq H3 p (nx.map jm):=bq.keep ⟨us,fw,cG⟩ iJ iV (Ne.symm pO)
   refine dq (λ_=>?_) (λ_=>?_)
   . have pQ:H3 p=some (.lst (us.map V.ref)):=iJ p _ fw (Ne.symm pO)
     have gp:=cG.length
     rw [List.length_map] at gp
     refine ⟨_,rfl,.inl ⟨rfl,_,aq.of pQ⟩,_,rfl,_,rfl,p,_,rfl,.inl (aq.of pQ),_,_,rfl,rfl,c,jF,_,rfl,EH,lI,(by rw [List.length_map]; omega),(by rw [List.length_map]; omega),λd2 pL H4 e0 e1 e9 EE jf=>?_⟩
     rw [List.length_map] at e1
     have A4:=hA.keep (GO.trans jf) EE e9
     refine ⟨_,rfl,_,rfl,_,rfl,c,n,pL,names,rfl,EE,e9,A4.nc,aq.of A4.hn,by omega,A4.nm,λlt IB H5 lg jE IE ff=>?_⟩
     refine ⟨(by show 2<=sizeLine; decide),λTp gh=>?_⟩
     have iE:H5 p=some (.lst (us.map V.ref)):=ff p _ (jf p _ pQ (Ne.symm pO)) (Ne.symm pO)
     have oM:p≠Tp:=af iE gh
     have ncT:c≠Tp:=af IE gh
     refine ⟨p,_,d2,_,rfl,rfl,(by rw [ai oM]; exact iE),e0,(by rw [List.length_map]; omega),(by rw [List.length_map]; exact small (by omega)),?_⟩
     have V9:∀a pM,(upd H5 Tp (HO.tup [V.str kp[i].1,V.str lt])) a=some (.tup pM)->a≠p:=λa pM e z'=>by
      rw [z',ai oM,iE] at e
      cases e
     have yO:Paired (λt r=>(upd (upd H5 Tp (HO.tup [V.str kp[i].1,V.str lt])) p (.lst ((us.map V.ref).take d2.toNat++[V.ref Tp]++(us.map V.ref).drop d2.toNat))) t=some (.tup r)) us (nx.map jm):=Paired.bh cG λa r e=>by
      have ea:H5 a=some (.tup r):=ff a _ (jf a _ (iJ a _ e (bu e iV (by intro z; cases z))) (bu e iV (by intro z; cases z))) (bu e iV (by intro z; cases z))
      have eb:(upd H5 Tp (HO.tup [V.str kp[i].1,V.str lt])) a=some (.tup r):=by rw [ai (af ea gh)]; exact ea
      rw [ai (V9 a r eb)]
      exact eb
     refine ⟨nx.take d2.toNat++[(kp[i].1,lt)]++nx.drop d2.toNat,_,_,IB,rfl,?_,⟨λr hr=>?_,?_⟩,⟨us.take d2.toNat++[Tp]++us.drop d2.toNat,?_,?_⟩,jE,?_,λb o hb IF=>?_⟩
     . simp only [List.length_append,List.length_take,List.length_drop,List.length_singleton]
       omega
     . rcases List.mem_append.mp hr with hr | hr
       . rcases List.mem_append.mp hr with hr | hr
         . exact ⟨sP (Nat.le_succ _) (mK.1 r (List.mem_of_mem_take hr)).1,(mK.1 r (List.mem_of_mem_take hr)).2⟩
         . rw [List.mem_singleton.mp hr]
           refine ⟨?_,lg⟩
           rw [lH (·.1) S0]
           exact List.mem_append_right _ (List.mem_singleton.mpr rfl)
       . exact ⟨sP (Nat.le_succ _) (mK.1 r (List.mem_of_mem_drop hr)).1,(mK.1 r (List.mem_of_mem_drop hr)).2⟩
     . have hn:kp[i].1∉nx.map (·.1):=λhm=>by
        obtain ⟨r,hr,e⟩:=List.mem_map.mp hm
        exact Bs pP hA.kd (e ▸ (mK.1 r hr).1)
       have hq:=EF mK.2 hn d2.toNat
       rw [List.map_append,List.map_append,List.map_take,List.map_drop]
       exact hq
     . rw [ag]
       simp only [List.map_append,List.map_take,List.map_drop,List.map_cons,List.map_nil]
     . rw [List.map_append,List.map_append,List.map_take,List.map_drop]
       refine bE (bE (rG _ yO) (.cons ?_ .nil)) (rH _ yO)
       rw [ai (Ne.symm oM),ag]
       rfl
     . rw [ai pO,ai ncT]
       exact IE
     . have e5:=ff b o (jf b o (GO b o hb IF) IF) IF
       rw [ai (af hb fk),ai (af e5 gh)]
       exact e5
   . exact ⟨nx,_,_,jF,rfl,by omega,⟨λr hr=>⟨sP (Nat.le_succ _) (mK.1 r hr).1,(mK.1 r hr).2⟩,mK.2⟩,V8,lI,EH,GO⟩
 . rintro σ H2 ⟨nx,jG,jH,ys,rfl,EG,mK,yM,eU,iV,kp2⟩
   rw [List.length_map,mE] at EG mK
   rw [List.take_length] at mK
   have A2:=hA.keep kp2 iV eU
   refine rD _ H2 v0 v2 v3 v4 v10 jG jH z c n a1 a2 a3 p s0 s1 s2 s3 names sw kp gt nx rfl ⟨⟨ys,iV,eU⟩,A2.hz,A2.zc,A2.hn,A2.nc,A2.nl,A2.nm,A2.h1,A2.c1,A2.h2,A2.c2,A2.h3,A2.c3,yM,Ne.symm pO⟩ ?_
   intro m nv sm a5 a6 H' w1 w2 l1 l2 l3 hM uv
   exact kk m nx nv sm p a5 a6 H' mK EG w1 w2 l1 l2 l3 hM (kp2.trans uv)
end
end Gen
namespace Gen
open PySem L2
def eE (H H':Hp) (l n:Addr):Prop:=∀b o,H b=some o->b≠l->b≠n->H' b=some o
def Qz (H H':Hp) (l c n:Addr):Prop:=∀b o,H b=some o->b≠l->b≠c->b≠n->H' b=some o
theorem eE.seq {K:W.Frag}{H H':Hp}{a l n:Addr}{xs:List V}(e:eE H H' l n) (h:aq K H a xs) (h1:a≠l) (h2:a≠n):aq K H' a xs:=by
 rcases h with (h | ⟨o,h⟩) | h
 . exact .inl (.inl (e a _ h h1 h2))
 . exact .inl (.inr ⟨o,e a _ h h1 h2⟩)
 . exact .inr h
theorem eE.jn {K:W.Frag}{H H':Hp}{a l n:Addr}{xs:List V}(e:eE H H' l n) (h:aR K H a xs) (h1:a≠l) (h2:a≠n):aR K H' a xs:=by
 rcases h with (h | ⟨o,h⟩) | h
 . exact .inl (.inl (e a _ h h1 h2))
 . exact .inl (.inr ⟨o,e a _ h h1 h2⟩)
 . exact .inr h
theorem bq.xE {H H':Hp}{p l n:Addr}{rs:List (List V)}{xs ns:List V}(h:bq H p rs) (k:eE H H' l n) (hl:H l=some (.lst xs)) (hn:H n=some (.lst ns)) (h1:p≠l) (h2:p≠n):bq H' p rs:=by
 obtain ⟨ts,e1,e2⟩:=h
 exact ⟨ts,k p _ e1 h1 h2,Paired.bh e2 λt r e=>k t _ e (bu e hl (by intro z; cases z)) (bu e hn (by intro z; cases z))⟩
theorem aV.to2 {H H':Hp}{l:Addr}(k:aV H H' l) (n:Addr):eE H H' l n:=λb o h h1 _=>k b o h h1
theorem eE.trans {H H1 H2:Hp}{l n:Addr}(a:eE H H1 l n) (b:eE H1 H2 l n):eE H H2 l n:=λc o h h1 h2=>b c o (a c o h h1 h2) h1 h2
theorem eE.QA {H:Hp}{l n:Addr}{o:HO} : eE H (upd H n o) l n:=λb u h _ h2=>by rw [ai h2]; exact h
theorem gk.xE {K:W.Frag}{H H':Hp}{z l n:Addr}{s0 s1 s2 s3:Int}(h:gk K H z s0 s1 s2 s3) (k:eE H H' l n) (h1:z≠l) (h2:z≠n):gk K H' z s0 s1 s2 s3:=⟨h.1.imp (λq=>k.seq q h1 h2) (λq=>k.jn q h1 h2),h.2⟩
def mQ (names:List Str) (gt:List (Str×Str×Str)):Prop:=∀(i:Nat) (r:Str×Str×Str),gt[i]?=some r->Lit (names++(gt.take i).map (·.1)) r.2.1/\Lit (names++(gt.take i).map (·.1)) r.2.2
theorem mQ.snoc {names:List Str}{gt:List (Str×Str×Str)}{r:Str×Str×Str}(h:mQ names gt) (h1:Lit (names++gt.map (·.1)) r.2.1) (h2:Lit (names++gt.map (·.1)) r.2.2):mQ names (gt++[r]):=by
 intro i q e
 rcases Nat.lt_trichotomy i gt.length with hi | hi | hi
 . rw [List.getElem?_append_left hi] at e
   rw [List.take_append_of_le_length (Nat.le_of_lt hi)]
   exact h i q e
 . subst hi
   rw [List.getElem?_append_right (Nat.le_refl _),Nat.sub_self] at e
   have e':r=q:=by simpa using e
   subst e'
   rw [List.take_left']
   . exact ⟨h1,h2⟩
   . rfl
 . rw [List.getElem?_eq_none (by rw [List.length_append,List.length_singleton]; omega)] at e
   cases e
theorem j7 {α:Type}{l:List α}{a:α}(h:l.Nodup) (ha:a∉l):(l++[a]).Nodup:=by
 rw [List.nodup_append]
 refine ⟨h,by simp,λx hx y hy e=>?_⟩
 have:y=a:=by simpa using hy
 rw [this] at e
 exact ha (e ▸ hx)
section
variable {P:Program}{w:World}{K:W.Frag}{mg:Str->Option Value}{base:Heap}{fP fS fL fW fR:Addr}{dP dS dL dW dR:FuncData}
structure AtB (K:W.Frag) (H:Hp) (z b c n a1 a2:Addr) (s0 s1 s2 s3:Int) (names sw:List Str) (kp:List (Str×V)):Prop where
 pb:∃xs,H b=some (.lst xs)/\d8 xs
 pc:∃xs,H c=some (.lst xs)/\d8 xs
 hz:gk K H z s0 s1 s2 s3
 zb:z≠b
 zc:z≠c
 zn:z≠n
 bc:b≠c
 hn:H n=some (.lst (names.map V.str))
 nb:n≠b
 nc:n≠c
 nl:names.length<=28
 nm:∀x∈names,bw x
 nd:names.Nodup
 h1:H a1=some (.lst (sw.map V.str))
 b1:a1≠b
 c1:a1≠c
 n1:a1≠n
 h2:bq H a2 (kp.map iY)
 b2:a2≠b
 c2:a2≠c
 n2:a2≠n
 kd:(kp.map (·.1)).Nodup
 kl:kp.length<=16
abbrev QB (Q:VK) (s3:Int) (H1:Hp) (b c n a1 a2:Addr) (names sw:List Str) (kp:List (Str×V)):Prop:=
 ∀(m:Addr) (gt:List (Str×Str×Str)) (nx nv sm:List (Str×Str)) (a3 a4 a5 a6:Addr) (H':Hp),mQ names gt->(names++gt.map (·.1)).Nodup->(∀x∈names++gt.map (·.1),bw x)->gt.length<=60->C4 (names++gt.map (·.1)) kp nx->nx.length<=kp.length->
  gx (names++gt.map (·.1)) [] nv->gx (names++gt.map (·.1)) (nv.map (·.1)) sm->1<=nv.length->(nv.length:Int)<=s3->(sm.length:Int)<=s3->eu H' m ⟨sw,kp,gt,nx,nv,sm⟩ a1 a2 a3 a4 a5 a6->Qz H1 H' b c n->Q (.ref m) H'
theorem QC (G:Defs P w K mg base fP fS fL fW fR dP dS dL dW dR){f:Addr}{cdv:Value}{A:Around}{outer:List Env}{s:Shared}{H:Hp}{E:XK}{Q:VK}(hr:bg 3 (A.deeper (PyProof.Rows.envOfC "_law_machine_digits" (au dH) s.heap.objs.size f cdv))) :
 ∃tR:TS,iR (xD P w K mg base f cdv A outer s H E) (List.drop 6 (aI dH)) tR/\∀(σ:St) (H1:Hp) (v0 v2 v3:Option V) (z b c n a1 a2:Addr) (s0 s1 s2 s3:Int) (names sw:List Str) (kp:List (Str×V)),
  σ=[v0,some (.ref z),v2,v3,some (.ref b),some (.ref c),some (.ref n),some (.ref a1),some (.ref a2),none,none,none,none,none,none,none,none]->
  AtB K H1 z b c n a1 a2 s0 s1 s2 s3 names sw kp->QB Q s3 H1 b c n a1 a2 names sw kp->
  tR { nx:=λ_ H'=>Q .aS H',rt:=Q } σ H1:=by
 have cI:bg 1 _:=hr.mono (by decide)
 have fT:bg 2 _:=hr.mono (by decide)
 obtain ⟨tC,hC,rC⟩:=Qy G (outer:=outer) (H:=H) (E:=E) (Q:=Q) hr
 refine ⟨_,ak (aE (i:=9) eV.nd rfl (Or.inl rfl) (bt ah))
  (ak (cc PassesOwn.never rfl (cO rfl G.T.range (ae (aA G.gP cI rfl G.mP G.kP G.bP .nil az (ae (pv 4) (ae (aH cL (bz pk (pv 1) av (λ_ _=>rfl)) av) ah))) ah)) (ax (i:=2) eV.nd rfl (Or.inl rfl))
   (ak (aE (i:=10) eV.nd rfl (Or.inl rfl) (aA G.gS fT rfl G.mS G.kS G.bS .nil az (ae (pv 4) (ae (pv 6) ah))))
   (ak (dg (eD PySem.F.plainAttrs_list PySem.F.slot_list_append PySem.F.type_list_append dj (pv 9) (ae (eh (ae (pv 10) (ae (aA G.gL fT rfl G.mL G.kL G.bL .nil az (ae (pv 4) (ae (pv 6) ah))) (ae (aA G.gL fT rfl G.mL G.kL G.bL .nil az (ae (pv 4) (ae (pv 6) ah))) ah)))) ah)))
   (ar (dg (eD PySem.F.plainAttrs_list PySem.F.slot_list_append PySem.F.type_list_append dj (pv 6) (ae (pv 10) ah))))))) hC),?_⟩
 rintro σ H1 v0 v2 v3 z b c n a1 a2 s0 s1 s2 s3 names sw kp rfl hA kk
 obtain ⟨xs,hb,hp⟩:=hA.pb
 obtain ⟨xc,hc,yP⟩:=hA.pc
 obtain ⟨_,_,_,⟨z2a,z2b⟩,_,_⟩:=hA.hz
 have kT:=hA.nl
 refine ⟨(by show 0<=sizeLine; decide),λp fk=>?_⟩
 have wB:b≠p:=af hb fk
 have wC:n≠p:=af hA.hn fk
 have EI:gk K (upd H1 p (.lst [])) z s0 s1 s2 s3:=hA.hz.same (aj.ao fk)
 refine ⟨_,rfl,_,rfl,EI.ix (i:=2) (v:=.int s2) rfl ⟨_,_,rfl,rfl,b,xs,_,rfl,(by rw [ai wB]; exact hb),hp,by omega,by omega,λd EJ yQ d0 d1 lh uc pR=>?_⟩⟩
 have k0:eE H1 yQ b n:=λx o h h1 _=>pR x o (by rw [ai (af h fk)]; exact h) h1
 have hn0:yQ n=some (.lst (names.map V.str)):=pR n _ (by rw [ai wC]; exact hA.hn) hA.nb
 have GQ:yQ p=some (.lst []):=pR p _ ag (Ne.symm wB)
 refine ⟨_,rfl,by omega,by omega,eI (n:=d.toNat) (λi σ H2=>∃(gt:List (Str×Str×Str)) (uw v10:Option V) (ys:List V),
  σ=[v0,some (.ref z),uw,v3,some (.ref b),some (.ref c),some (.ref n),some (.ref a1),some (.ref a2),some (.ref p),v10,none,none,none,none,none,none]/\gt.length=i/\mQ names gt/\(names++gt.map (·.1)).Nodup/\(∀x∈names++gt.map (·.1),bw x)/\
  bq H2 p (gt.map ma)/\H2 n=some (.lst ((names++gt.map (·.1)).map V.str))/\d8 ys/\H2 b=some (.lst ys)/\eE H1 H2 b n) ?_ ?_ ?_⟩
 . refine ⟨[],v2,none,EJ,rfl,rfl,λi r e=>?_,?_,?_,⟨[],GQ,.nil⟩,?_,lh,uc,k0⟩
   . simp at e
   . simpa using hA.nd
   . simpa using hA.nm
   . simpa using hn0
 . rintro i σ H2 hi ⟨gt,uw,v10,ys,rfl,jI,Mw,dZ,gn,⟨us,fw,cG⟩,fi,eU,lK,kp2⟩
   have gp:=cG.length
   rw [List.length_map] at gp
   have Wa:(names++gt.map (·.1)).length=names.length+i:=by rw [List.length_append,List.length_map,jI]
   refine ⟨_,rfl,_,rfl,b,n,ys,names++gt.map (·.1),rfl,lK,eU,hA.nb,aq.of fi,by omega,λnw jF H3 yJ k8 lI IG iJ=>?_⟩
   have Bt:H3 n=_:=iJ n _ fi hA.nb
   have pQ:H3 p=some (.lst (us.map V.ref)):=iJ p _ fw (Ne.symm wB)
   refine ⟨_,rfl,.inl ⟨rfl,_,aq.of pQ⟩,_,rfl,_,rfl,_,rfl,b,n,jF,names++gt.map (·.1),rfl,IG,lI,hA.nb,aq.of Bt,by omega,gn,λl1 pL H4 fj e9 hb4 jf=>?_⟩
   have IH:H4 n=_:=jf n _ Bt hA.nb
   refine ⟨_,rfl,_,rfl,b,n,pL,names++gt.map (·.1),rfl,hb4,e9,hA.nb,aq.of IH,by omega,gn,λl2 IB H5 c8 jE Bu ff=>?_⟩
   have oN:H5 n=_:=ff n _ IH hA.nb
   have iE:H5 p=some (.lst (us.map V.ref)):=ff p _ (jf p _ pQ (Ne.symm wB)) (Ne.symm wB)
   refine ⟨(by show 3<=sizeLine; decide),λTp gh=>?_⟩
   have oM:p≠Tp:=af iE gh
   have nbT:b≠Tp:=af Bu gh
   have Mx:n≠Tp:=af oN gh
   refine ⟨p,_,_,rfl,rfl,(by rw [ai oM]; exact iE),(by rw [List.length_map]; exact small (by omega)),?_⟩
   have EK:(upd (upd H5 Tp (HO.tup [V.str nw,V.str l1,V.str l2])) p (.lst (us.map V.ref++[V.ref Tp]))) n=some (.lst ((names++gt.map (·.1)).map V.str)):=by rw [ai wC,ai Mx]; exact oN
   refine ⟨_,rfl,.inl ⟨rfl,_,aq.of EK⟩,_,rfl,n,_,_,rfl,rfl,EK,(by rw [List.length_map]; exact small (by omega)),?_⟩
   have Wb:nw∉names++gt.map (·.1):=k8
   have en:names++(gt++[(nw,l1,l2)]).map (·.1)=(names++gt.map (·.1))++[nw]:=by rw [List.map_append,← List.append_assoc]; rfl
   have tn:∀a pM,H5 a=some (HO.tup pM)->a≠n:=λa pM e=>bu e oN (by intro z; cases z)
   refine ⟨gt++[(nw,l1,l2)],_,_,IB,rfl,(by rw [List.length_append,List.length_singleton,jI]),Mw.snoc fj c8,(by rw [en]; exact j7 dZ Wb),λx hx=>?_,?_,?_,jE,?_,λx o hx h1 h2=>?_⟩
   . rw [en] at hx
     rcases List.mem_append.mp hx with hx | hx
     . exact gn x hx
     . rw [List.mem_singleton.mp hx]; exact yJ
   . have tp:=bq.snoc (H:=upd H5 Tp (HO.tup [V.str nw,V.str l1,V.str l2])) (p:=p) (t:=Tp) (rs:=gt.map ma) (r:=[V.str nw,V.str l1,V.str l2]) (ts:=us) (Paired.bh cG λa r e=>by
      have My:=bu e lK (by intro z; cases z)
      have ea:H5 a=some (.tup r):=ff a _ (jf a _ (iJ a _ e My) My) My
      rw [ai (af ea gh)]
      exact ea) ag (λa pM e z'=>by rw [z',ai oM,iE] at e; cases e)
     obtain ⟨gE,e1,e2⟩:=tp
     refine ⟨gE,by rw [ai (Ne.symm wC)]; exact e1,?_⟩
     have er:(gt++[(nw,l1,l2)]).map ma=gt.map ma++[[V.str nw,V.str l1,V.str l2]]:=by rw [List.map_append]; rfl
     rw [er]
     refine Paired.bh e2 λa r e=>?_
     rw [ai (bu e EK (by intro z; cases z))]
     exact e
   . rw [ag,en]
     simp only [List.map_append,List.map_cons,List.map_nil]
   . rw [ai (Ne.symm hA.nb),ai wB,ai nbT]
     exact Bu
   . have e5:H5 x=some o:=ff x o (jf x o (iJ x o (kp2 x o hx h1 h2) h1) h1) h1
     rw [ai h2,ai (af hx fk),ai (af e5 gh)]
     exact e5
 . rintro σ H2 ⟨gt,uw,v10,ys,rfl,jI,Mw,dZ,gn,yM,fi,eU,lK,kp2⟩
   have iV:H2 c=some (.lst xc):=kp2 c _ hc (Ne.symm hA.bc) (Ne.symm hA.nc)
   have pO:c≠p:=af hc fk
   refine rC _ H2 v0 uw v3 (some (.ref b)) v10 z c n a1 a2 p s0 s1 s2 s3 (names++gt.map (·.1)) sw kp gt rfl ⟨⟨xc,iV,yP⟩,hA.hz.xE kp2 hA.zb hA.zn,hA.zc,fi,hA.nc,(by rw [List.length_append,List.length_map]; omega),gn,
    kp2 a1 _ hA.h1 hA.b1 hA.n1,hA.c1,hA.h2.xE kp2 hb hA.hn hA.b2 hA.n2,hA.c2,yM,Ne.symm pO,hA.kd,hA.kl⟩ ?_
   intro m nx nv sm a4 a5 a6 H' q1 q2 w1 w2 l1 l2 l3 hM uv
   exact kk m gt nx nv sm p a4 a5 a6 H' Mw dZ gn (by omega) q1 q2 w1 w2 l1 l2 l3 hM λx o hx h1 h2 h3=>uv x o (kp2 x o hx h1 h3) h2
end
end Gen
namespace Gen
open PySem L2
def Mz (kp:List (Str×V)):Prop:=∀r∈kp,r.2=.int 0\/r.2=.int 1\/r.2=.aS
theorem GR {d:Int}(h0:0<=d) (h1:d<3):∃v:V,iq [V.int 0,.int 1,.aS] d=some v/\(v=.int 0\/v=.int 1\/v=.aS):=by
 rcases (show d=0\/d=1\/d=2 by omega) with rfl | rfl | rfl
 . exact ⟨_,rfl,.inl rfl⟩
 . exact ⟨_,rfl,.inr (.inl rfl)⟩
 . exact ⟨_,rfl,.inr (.inr rfl)⟩
section
variable {P:Program}{w:World}{K:W.Frag}{mg:Str->Option Value}{base:Heap}{fP fS fL fW fR:Addr}{dP dS dL dW dR:FuncData}
structure AtA (K:W.Frag) (H:Hp) (z a b c n:Addr) (s0 s1 s2 s3:Int) (sw:List Str):Prop where
 pa:∃xs,H a=some (.lst xs)/\d8 xs
 pb:∃xs,H b=some (.lst xs)/\d8 xs
 pc:∃xs,H c=some (.lst xs)/\d8 xs
 hz:gk K H z s0 s1 s2 s3
 za:z≠a
 zb:z≠b
 zc:z≠c
 zn:z≠n
 ab:a≠b
 ac:a≠c
 bc:b≠c
 hn:H n=some (.lst (sw.map V.str))
 na:n≠a
 nb:n≠b
 nc:n≠c
 nl:sw.length<=12
 nm:∀x∈sw,bw x
 nd:sw.Nodup
def QD (H H':Hp) (a b c n:Addr):Prop:=∀x o,H x=some o->x≠a->x≠b->x≠c->x≠n->H' x=some o
abbrev QE (Q:VK) (s1 s3:Int) (H1:Hp) (a b c n:Addr) (sw:List Str):Prop:=
 ∀(m:Addr) (M:aN) (names:List Str) (a1 a2 a3 a4 a5 a6:Addr) (H':Hp),M.switches=sw->mH M names->names.length<=88->((M.keepers.length:Int)<=s1/\M.keepers.length<=16)->M.gates.length<=60->M.nexts.length<=16->1<=M.nevers.length->(M.nevers.length:Int)<=s3->(M.somes.length:Int)<=s3->
  eu H' m M a1 a2 a3 a4 a5 a6->QD H1 H' a b c n->Q (.ref m) H'
theorem QF (G:Defs P w K mg base fP fS fL fW fR dP dS dL dW dR){f:Addr}{cdv:Value}{A:Around}{outer:List Env}{s:Shared}{H:Hp}{E:XK}{Q:VK}(hr:bg 3 (A.deeper (PyProof.Rows.envOfC "_law_machine_digits" (au dH) s.heap.objs.size f cdv))) :
 ∃tR:TS,iR (xD P w K mg base f cdv A outer s H E) (List.drop 3 (aI dH)) tR/\∀(σ:St) (H1:Hp) (v0 v2:Option V) (z a b c n:Addr) (s0 s1 s2 s3:Int) (sw:List Str),
  σ=[v0,some (.ref z),v2,some (.ref a),some (.ref b),some (.ref c),some (.ref n),none,none,none,none,none,none,none,none,none,none]->
  AtA K H1 z a b c n s0 s1 s2 s3 sw->QE Q s1 s3 H1 a b c n sw->
  tR { nx:=λ_ H'=>Q .aS H',rt:=Q } σ H1:=by
 have cI:bg 1 _:=hr.mono (by decide)
 have fT:bg 2 _:=hr.mono (by decide)
 obtain ⟨tB,hB,rB⟩:=QC G (outer:=outer) (H:=H) (E:=E) (Q:=Q) hr
 refine ⟨_,ak (aE (i:=7) eV.nd rfl (Or.inl rfl) (aL d5 (by rfl) G.T.list PyProof.Rows.boot_list (ae (pv 6) ah)))
  (ak (aE (i:=8) eV.nd rfl (Or.inl rfl) (bt ah))
  (ak (cc PassesOwn.never rfl (cO rfl G.T.range (ae (aA G.gP cI rfl G.mP G.kP G.bP .nil az (ae (pv 3) (ae (aH cL (bz pk (pv 1) av (λ_ _=>rfl)) av) ah))) ah)) (ax (i:=2) eV.nd rfl (Or.inl rfl))
   (ak (dg (eD PySem.F.plainAttrs_list PySem.F.slot_list_append PySem.F.type_list_append dj (pv 6) (ae (aA G.gS fT rfl G.mS G.kS G.bS .nil az (ae (pv 3) (ae (pv 6) ah))) ah)))
   (ar (dg (eD PySem.F.plainAttrs_list PySem.F.slot_list_append PySem.F.type_list_append dj (pv 8) (ae (eh (ae (bz bJ (pv 6) (g9 fu av) (λ_ _=>rfl))
    (ae (bz bJ (bt (ae av (ae av (ae tL ah)))) (aA G.gP cI rfl G.mP G.kP G.bP .nil az (ae (pv 3) (ae av ah))) (λ_ _=>rfl)) ah))) ah)))))) hB)),?_⟩
 rintro σ H0 v0 v2 z a b c n s0 s1 s2 s3 sw rfl hA kk
 obtain ⟨xs,ha,hp⟩:=hA.pa
 obtain ⟨xb,hb,hpb⟩:=hA.pb
 obtain ⟨xc,hc,yP⟩:=hA.pc
 obtain ⟨_,_,⟨z1a,z1b⟩,_,_,_⟩:=hA.hz
 have kT:=hA.nl
 refine ⟨_,rfl,n,_,rfl,.inl (aq.of hA.hn),λa1 Bv=>?_⟩
 have oO:aj H0 (upd H0 a1 (.lst (sw.map V.str))):=aj.ao Bv
 have S1:n≠a1:=af hA.hn Bv
 have aa1:a≠a1:=af ha Bv
 have ba1:b≠a1:=af hb Bv
 have ca1:c≠a1:=af hc Bv
 have h1:(upd H0 a1 (.lst (sw.map V.str))) a1=some (.lst (sw.map V.str)):=ag
 generalize hH1:upd H0 a1 (.lst (sw.map V.str))=H1 at *
 have S2:=oO a _ ha
 have jD:=oO b _ hb
 have eQ:=oO c _ hc
 have xS:=oO n _ hA.hn
 refine ⟨(by show 0<=sizeLine; decide),λp fk=>?_⟩
 have EL:a≠p:=af S2 fk
 have wB:b≠p:=af jD fk
 have pO:c≠p:=af eQ fk
 have wC:n≠p:=af xS fk
 have EI:gk K (upd H1 p (.lst [])) z s0 s1 s2 s3:=(hA.hz.same oO).same (aj.ao fk)
 refine ⟨_,rfl,_,rfl,EI.ix (i:=1) (v:=.int s1) rfl ⟨_,_,rfl,rfl,a,xs,_,rfl,(by rw [ai EL]; exact S2),hp,by omega,by omega,λd EJ yQ d0 d1 lh uc pR=>?_⟩⟩
 have k0:eE H1 yQ a n:=λx o h h1 _=>pR x o (by rw [ai (af h fk)]; exact h) h1
 have hn0:yQ n=some (.lst (sw.map V.str)):=pR n _ (by rw [ai wC]; exact xS) hA.na
 have GQ:yQ p=some (.lst []):=pR p _ ag (Ne.symm EL)
 refine ⟨_,rfl,by omega,by omega,eI (n:=d.toNat) (λi σ H2=>∃(kp:List (Str×V)) (uw:Option V) (ys:List V),
  σ=[v0,some (.ref z),uw,some (.ref a),some (.ref b),some (.ref c),some (.ref n),some (.ref a1),some (.ref p),none,none,none,none,none,none,none,none]/\kp.length=i/\Mz kp/\(sw++kp.map (·.1)).Nodup/\(∀x∈sw++kp.map (·.1),bw x)/\
  bq H2 p (kp.map iY)/\H2 n=some (.lst ((sw++kp.map (·.1)).map V.str))/\d8 ys/\H2 a=some (.lst ys)/\eE H1 H2 a n) ?_ ?_ ?_⟩
 . refine ⟨[],v2,EJ,rfl,rfl,(λ_ h=>nomatch h),?_,?_,⟨[],GQ,.nil⟩,?_,lh,uc,k0⟩
   . simpa using hA.nd
   . simpa using hA.nm
   . simpa using hn0
 . rintro i σ H2 hi ⟨kp,uw,ys,rfl,mJ,rJ,dZ,gn,⟨us,fw,cG⟩,fi,eU,MA,kp2⟩
   have gp:=cG.length
   rw [List.length_map] at gp
   have Wa:(sw++kp.map (·.1)).length=sw.length+i:=by rw [List.length_append,List.length_map,mJ]
   refine ⟨_,rfl,.inl ⟨rfl,_,aq.of fi⟩,_,rfl,_,rfl,a,n,ys,sw++kp.map (·.1),rfl,MA,eU,hA.na,aq.of fi,by omega,λnw jF H3 yJ k8 lI MB iJ=>?_⟩
   have Bt:H3 n=some (.lst ((sw++kp.map (·.1)).map V.str)):=iJ n _ fi hA.na
   have pQ:H3 p=some (.lst (us.map V.ref)):=iJ p _ fw (Ne.symm EL)
   refine ⟨n,_,_,rfl,rfl,Bt,(by rw [List.length_map]; exact small (by omega)),?_⟩
   have e9:(upd H3 n (.lst ((sw++kp.map (·.1)).map V.str++[V.str nw]))) p=some (.lst (us.map V.ref)):=by rw [ai (Ne.symm wC)]; exact pQ
   have II:(upd H3 n (.lst ((sw++kp.map (·.1)).map V.str++[V.str nw]))) a=some (.lst jF):=by rw [ai (Ne.symm hA.na)]; exact MB
   refine ⟨_,rfl,.inl ⟨rfl,_,aq.of e9⟩,_,rfl,_,rfl,n,_,_,.str nw,rfl,rfl,aq.of ag,yn _ _,(by show 3<=sizeLine; decide),λq hq=>?_⟩
   have S3:a≠q:=af II hq
   have npq:p≠q:=af e9 hq
   have nnq:n≠q:=af (ag (H:=H3) (a:=n)) hq
   refine ⟨_,rfl,a,jF,3,rfl,(by rw [ai S3]; exact II),lI,by decide,by decide,λd2 pL H5 e0 e1 jE wA ff=>?_⟩
   obtain ⟨fv,hfv,hfo⟩:=GR e0 e1
   have pS:H5 q=some (.lst [V.int 0,.int 1,.aS]):=ff q _ ag (Ne.symm S3)
   have iE:H5 p=some (.lst (us.map V.ref)):=ff p _ (by rw [ai npq]; exact e9) (Ne.symm EL)
   have oN:H5 n=some (.lst ((sw++kp.map (·.1)).map V.str++[V.str nw])):=ff n _ (by rw [ai nnq,ag]) hA.na
   refine ⟨q,_,d2,fv,rfl,rfl,aq.of pS,hfv,(by show 2<=sizeLine; decide),λTp gh=>?_⟩
   have oM:p≠Tp:=af iE gh
   have naT:a≠Tp:=af wA gh
   have Mx:n≠Tp:=af oN gh
   refine ⟨p,_,_,rfl,rfl,(by rw [ai oM]; exact iE),(by rw [List.length_map]; exact small (by omega)),?_⟩
   have en:sw++(kp++[(nw,fv)]).map (·.1)=(sw++kp.map (·.1))++[nw]:=by rw [List.map_append,← List.append_assoc]; rfl
   have S4:∀x o,H3 x=some o->x≠a->x≠n->H5 x=some o:=λx o hx h1 h2=>ff x o (by
    have e4:(upd H3 n (.lst ((sw++kp.map (·.1)).map V.str++[V.str nw]))) x=some o:=by rw [ai h2]; exact hx
    rw [ai (af e4 hq)]
    exact e4) h1
   refine ⟨kp++[(nw,fv)],_,pL,rfl,(by rw [List.length_append,List.length_singleton,mJ]),λr hr=>?_,(by rw [en]; exact j7 dZ k8),λx hx=>?_,?_,?_,jE,?_,λx o hx h1 h2=>?_⟩
   . rcases List.mem_append.mp hr with hr | hr
     . exact rJ r hr
     . rw [List.mem_singleton.mp hr]; exact hfo
   . rw [en] at hx
     rcases List.mem_append.mp hx with hx | hx
     . exact gn x hx
     . rw [List.mem_singleton.mp hx]; exact yJ
   . have er:(kp++[(nw,fv)]).map iY=kp.map iY++[[V.str nw,fv]]:=by rw [List.map_append]; rfl
     rw [er]
     refine bq.snoc (Paired.bh cG λx r e=>?_) ag (λx pM e z'=>by rw [z',ai oM,iE] at e; cases e)
     have S5:=bu e MA (by intro z; cases z)
     have nx2:=bu e fi (by intro z; cases z)
     have e5:H5 x=some (.tup r):=S4 x _ (iJ x _ e S5) S5 nx2
     rw [ai (af e5 gh)]
     exact e5
   . rw [ai wC,ai Mx,oN,en]
     simp only [List.map_append,List.map_cons,List.map_nil]
   . rw [ai EL,ai naT]
     exact wA
   . have e5:H5 x=some o:=S4 x o (iJ x o (kp2 x o hx h1 h2) h1) h1 h2
     rw [ai (af hx fk),ai (af e5 gh)]
     exact e5
 . rintro σ H2 ⟨kp,uw,ys,rfl,mJ,rJ,dZ,gn,yM,fi,eU,MA,kp2⟩
   have lK:H2 b=some (.lst xb):=kp2 b _ jD (Ne.symm hA.ab) (Ne.symm hA.nb)
   have iV:H2 c=some (.lst xc):=kp2 c _ eQ (Ne.symm hA.ac) (Ne.symm hA.nc)
   refine rB _ H2 v0 uw (some (.ref a)) z b c n a1 p s0 s1 s2 s3 (sw++kp.map (·.1)) sw kp rfl ⟨⟨xb,lK,hpb⟩,⟨xc,iV,yP⟩,(hA.hz.same oO).xE kp2 hA.za hA.zn,hA.zb,hA.zc,hA.zn,hA.bc,fi,hA.nb,hA.nc,(by rw [List.length_append,List.length_map]; omega),gn,dZ,
    kp2 a1 _ h1 (Ne.symm aa1) (Ne.symm S1),Ne.symm ba1,Ne.symm ca1,Ne.symm S1,yM,Ne.symm wB,Ne.symm pO,Ne.symm wC,(List.nodup_append.mp dZ).2.1,by omega⟩ ?_
   intro m gt nx nv sm a3 a4 a5 a6 H' q1 q2 q3 q4 q5 q6 w1 w2 l1 l2 l3 hM uv
   refine kk m ⟨sw,kp,gt,nx,nv,sm⟩ (sw++kp.map (·.1)++gt.map (·.1)) a1 p a3 a4 a5 a6 H' rfl ⟨rfl,q3,q2,rJ,λr hr=>(q5.1 r hr).1,λr hr=>(q5.1 r hr).2,q5.2,w1,w2,q1⟩ ?_ ⟨by show (kp.length:Int)<=s1; omega,by show kp.length<=16; omega⟩ q4 (by show nx.length<=16; omega) l1 l2 l3 hM ?_
   . simp only [List.length_append,List.length_map]
     omega
   . intro x o hx h1 h2 h3 h4
     exact uv x o (kp2 x o (oO x o hx) h1 h4) h2 h3 h4
end
end Gen
namespace Gen
open PySem L2
theorem pT {σ:St}{H:Hp}{A B:Hp->Prop}(h:A H):sG σ H (λb H3=>if b=true then A H3 else B H3):=by
 show (if true=true then A H else B H)
 rw [if_pos rfl]
 exact h
theorem C5:(["_law_k", "_law_cell"]:List Str).Nodup:=by decide +kernel
abbrev jo (Q:VK) (s0 s1 s3:Int) (H:Hp):Prop:=
 ∀(m:Addr) (M:aN) (names:List Str) (a1 a2 a3 a4 a5 a6:Addr) (H':Hp),mH M names->names.length<=88->((M.switches.length:Int)<=s0/\M.switches.length<=12)->((M.keepers.length:Int)<=s1/\M.keepers.length<=16)->M.gates.length<=60->M.nexts.length<=16->1<=M.nevers.length->(M.nevers.length:Int)<=s3->(M.somes.length:Int)<=s3->
  eu H' m M a1 a2 a3 a4 a5 a6->aj H H'->Q (.ref m) H'
inductive wD (K:W.Frag) (vs:List V) (H:Hp) (Q:VK):Prop
 | mk (ce z:Addr) (c0 c1 c2 s0 s1 s2 s3:Int) (h1:vs=[.ref ce,.ref z]) (h2:aq K H ce [.int c0,.int c1,.int c2]) (h3:gk K H z s0 s1 s2 s3) (h4:(∃o,H z=some o)) (h5:jo Q s0 s1 s3 H):wD K vs H Q
def nU (K:W.Frag):Sp:=λvs H Q _=>wD K vs H Q
section
variable {P:Program}{w:World}{K:W.Frag}{mg:Str->Option Value}{base:Heap}{fP fS fL fW fR:Addr}{dP dS dL dW dR:FuncData}
theorem EM {f:Addr}{fd:FuncData}(F:cC K "_law_machine_digits" "_law_machine_digits" dH f fd) (G:Defs P w K mg base fP fS fL fW fR dP dS dL dW dR):aw P w K mg base aD 4 f fd pN (nU K):=by
 refine F.ok eV (λvs H Q E h=>?_) (λcdv A outer s H vs Q E hr h=>?_)
 . obtain ⟨ce,z,c0,c1,c2,s0,s1,s2,s3,rfl,_⟩:=h
   rfl
 . obtain ⟨ce,z,c0,c1,c2,s0,s1,s2,s3,rfl,yR,hz,⟨oz,yS⟩,kk⟩:=h
   have cI:bg 1 _:=hr.mono (by decide)
   have fT:bg 2 _:=hr.mono (by decide)
   obtain ⟨tA,hA,rA⟩:=QF G (outer:=outer) (H:=H) (E:=E) (Q:=Q) hr
   refine ⟨_,ak (tO (cX (N:=["_law_k", "_law_cell"]) (js:=[none,none]) (g:=sq K 2 (g8 (dr 0) (g8 (dr 1) so))) (by kernel_rfl) rfl (Bg rfl G.T.enum (ae (pv 0) ah))
    (λ_ _ _ _ _ _=>eg rfl (aK (ax (i:=0) C5 rfl (Or.inl rfl) (.inr rfl)) (aK (ax (i:=1) C5 rfl (Or.inl rfl) (.inr rfl)) cU))) (λ_ _ _ _ _ _=>bj)
    (λ_ _ _ _ _ _=>bt (ae (pv 1) (ae (aA G.gR fT rfl G.mR G.kR G.bR .nil az (ae (pv 1) (ae (aH cL av (pv 0)) ah))) ah))))
    (Kr rfl (aK (ax (i:=3) eV.nd rfl (Or.inl rfl)) (aK (ax (i:=4) eV.nd rfl (Or.inl rfl)) (aK (ax (i:=5) eV.nd rfl (Or.inl rfl)) cU)))))
    (ak (aE (i:=6) eV.nd rfl (Or.inl rfl) (bt ah))
    (ak (cc PassesOwn.never rfl (cO rfl G.T.range (ae (aA G.gP cI rfl G.mP G.kP G.bP .nil az (ae (pv 3) (ae (aH cL (bz pk (pv 1) av (λ_ _=>rfl)) av) ah))) ah)) (ax (i:=2) eV.nd rfl (Or.inl rfl))
     (ar (dg (eD PySem.F.plainAttrs_list PySem.F.slot_list_append PySem.F.type_list_append dj (pv 6) (ae (aA G.gS fT rfl G.mS G.kS G.bS .nil az (ae (pv 3) (ae (pv 6) ah))) ah))))) hA)),?_⟩
   obtain ⟨_,⟨z0a,z0b⟩,_,_,_,_⟩:=id hz
   refine ⟨_,rfl,ce,rfl,⟨_,yR⟩,λD hD=>?_⟩
   refine cY 3 (λi acc σ H2=>∃(ls:List Addr) (u v:Option V),acc=ls.map V.ref/\ls.length=i/\ls.Nodup/\σ=[u,v]/\(∀l∈ls,H l=none/\l≠D/\∃x y:Int,H2 l=some (.lst [.int x,.int y]))/\aj H H2)
    ⟨[],none,none,rfl,rfl,List.nodup_nil,rfl,(λ_ h=>nomatch h),aj.ao hD⟩ ag ?_ ?_
   . -- a,b,c
     rintro acc σ H2 aW ⟨ls,u,v,rfl,jZ,dZ,rfl,Bw,eX⟩
     refine ⟨⟨_,aj.seq eX yR,Nat.le_refl _⟩,?_⟩
     obtain ⟨a,b,c,rfl⟩:∃a b c,ls=[a,b,c]:=by
      match ls,jZ with
      | [a,b,c],_=>exact ⟨a,b,c,rfl⟩
     obtain ⟨fa,_,xa,ya,ha⟩:=Bw a (by simp)
     obtain ⟨fb,_,xb,yb,hb⟩:=Bw b (by simp)
     obtain ⟨fc,_,xc,yc,hc⟩:=Bw c (by simp)
     have dist:a≠b/\a≠c/\b≠c:=by
      simp only [List.nodup_cons,List.mem_cons,List.not_mem_nil,or_false,not_or] at dZ
      exact ⟨dZ.1.1,dZ.1.2,dZ.2.1⟩
     obtain ⟨ab,ac,bc⟩:=dist
     refine ⟨D,_,rfl,aq.of aW,rfl,_,_,rfl,_,_,rfl,_,_,rfl,rfl,?_⟩
     refine ⟨(by show 0<=sizeLine; decide),λn hn=>?_⟩
     have an:a≠n:=af ha hn
     have bn:b≠n:=af hb hn
     have cn:c≠n:=af hc hn
     have Bn:aj H2 (upd H2 n (.lst [])):=aj.ao hn
     have MC:gk K (upd H2 n (.lst [])) z s0 s1 s2 s3:=(hz.same eX).same Bn
     refine ⟨_,rfl,_,rfl,MC.ix (i:=0) (v:=.int s0) rfl ⟨_,_,rfl,rfl,a,_,_,rfl,(by rw [ai an]; exact ha),.inr ⟨_,_,rfl⟩,by omega,by omega,λd EJ H4 d0 d1 lh II pR=>?_⟩⟩
     have IH:H4 n=some (.lst []):=pR n _ ag (Ne.symm an)
     have k04:aV H H4 a:=((aj.keep eX a).trans (aj.keep Bn a)).trans pR
     have k24:aV H2 H4 a:=(aj.keep Bn a).trans pR
     refine ⟨_,rfl,by omega,by omega,eI (n:=d.toNat) (λi σ H5=>∃(sw:List Str) (v2:Option V) (ys:List V),
      σ=[some (.ref ce),some (.ref z),v2,some (.ref a),some (.ref b),some (.ref c),some (.ref n),none,none,none,none,none,none,none,none,none,none]/\sw.length=i/\sw.Nodup/\(∀x∈sw,bw x)/\H5 n=some (.lst (sw.map V.str))/\d8 ys/\H5 a=some (.lst ys)/\eE H2 H5 a n) ?_ ?_ ?_⟩
     . exact ⟨[],none,EJ,rfl,rfl,List.nodup_nil,(λ_ h=>nomatch h),IH,lh,II,k24.to2 n⟩
     . rintro i σ H5 hi ⟨sw,v2,ys,rfl,S6,GU,gn,oN,eU,wA,ff⟩
       refine ⟨_,rfl,.inl ⟨rfl,_,aq.of oN⟩,_,rfl,_,rfl,a,n,ys,sw,rfl,wA,eU,Ne.symm an,aq.of oN,by omega,λnw jF H6 yJ k8 Bp Mv Br=>?_⟩
       have EK:H6 n=some (.lst (sw.map V.str)):=Br n _ oN (Ne.symm an)
       refine ⟨n,_,_,rfl,rfl,EK,(by rw [List.length_map]; exact small (by omega)),?_⟩
       refine ⟨sw++[nw],_,jF,rfl,(by rw [List.length_append,List.length_singleton,S6]),j7 GU k8,λx hx=>?_,?_,Bp,(by rw [ai an]; exact Mv),(ff.trans (Br.to2 n)).trans eE.QA⟩
       . rcases List.mem_append.mp hx with hx | hx
         . exact gn x hx
         . rw [List.mem_singleton.mp hx]; exact yJ
       . rw [ag,List.map_append]
         rfl
     . rintro σ H5 ⟨sw,v2,ys,rfl,S6,GU,gn,oN,eU,wA,ff⟩
       have Bu:=ff b _ hb (Ne.symm ab) bn
       have IE:=ff c _ hc (Ne.symm ac) cn
       have old:∀x o,H x=some o->x≠a/\x≠b/\x≠c/\x≠n:=λx o hx=>⟨af hx fa,af hx fb,af hx fc,af (eX x o hx) hn⟩
       have rK:aj H H5:=λx o hx=>ff x o (eX x o hx) (old x o hx).1 (old x o hx).2.2.2
       obtain ⟨za,zb,zc,zn⟩:=old z oz yS
       refine rA _ H5 (some (.ref ce)) v2 z a b c n s0 s1 s2 s3 sw rfl ⟨⟨ys,wA,eU⟩,⟨_,Bu,.inr ⟨_,_,rfl⟩⟩,⟨_,IE,.inr ⟨_,_,rfl⟩⟩,hz.same rK,za,zb,zc,zn,ab,ac,bc,oN,Ne.symm an,Ne.symm bn,Ne.symm cn,by omega,gn,GU⟩ ?_
       intro m M names a1 a2 a3 a4 a5 a6 H' eM ok l1 l2 l3 l4 l5 l6 l7 hM uv
       refine kk m M names a1 a2 a3 a4 a5 a6 H' ok l1 ⟨by rw [eM]; omega,by rw [eM]; omega⟩ l2 l3 l4 l5 l6 l7 hM λx o hx=>?_
       obtain ⟨q1,q2,q3,q4⟩:=old x o hx
       exact uv x o (rK x o hx) q1 q2 q3 q4
   . rintro i acc σ H2 hi aW ⟨ls,u,v,rfl,jZ,dZ,rfl,Bw,eX⟩
     obtain ⟨ci,hx⟩:∃ci:Int,[V.int c0,V.int c1,V.int c2][i]?=some (.int ci):=by
      rcases (show i=0\/i=1\/i=2 by omega) with rfl | rfl | rfl
      . exact ⟨_,rfl⟩
      . exact ⟨_,rfl⟩
      . exact ⟨_,rfl⟩
     refine ⟨⟨_,_,aj.seq eX yR,hx⟩,?_⟩
     rintro x H' ⟨T,xv,rfl,ud,rfl,cT⟩
     have ex:=cT _ (aj.seq eX yR)
     rw [hx] at ex
     cases ex
     refine ⟨T,_,rfl,aR.of ag,rfl,_,_,rfl,_,_,rfl,rfl,pT ?_⟩
     refine ⟨_,rfl,_,rfl,_,rfl,_,_,rfl,rfl,_,_,rfl,by omega,by omega,λv'=>⟨(by show 2<=sizeLine; decide),λl hl=>?_⟩⟩
     have Bx:D≠T:=af aW ud
     have IJ:aj H2 (upd H2 T (.tup [.int (i:Int),.int ci])):=aj.ao ud
     have yT:D≠l:=af (IJ D _ aW) hl
     have S7:aj H2 (upd (upd H2 T (.tup [.int (i:Int),.int ci])) l (.lst [.int ci,.int v'])):=IJ.trans (aj.ao hl)
     refine ⟨_,(by rw [ai yT,ai Bx]; exact aW),(by rw [List.length_map]; exact small (by omega)),bo hi ag ⟨ls++[l],_,_,?_,(by rw [List.length_append,List.length_singleton,jZ]),j7 dZ λhm=>?_,rfl,λy hy=>?_,λy o hy=>?_⟩⟩
     . rw [List.map_append]
       rfl
     . obtain ⟨_,_,_,_,e⟩:=Bw l hm
       rw [IJ l _ e] at hl
       cases hl
     . rcases List.mem_append.mp hy with hy | hy
       . obtain ⟨e1,e2,x1,y1,e3⟩:=Bw y hy
         exact ⟨e1,e2,x1,y1,by rw [ai e2]; exact S7 y _ e3⟩
       . rw [List.mem_singleton.mp hy]
         exact ⟨eX.free (IJ.free hl),Ne.symm yT,ci,v',by rw [ai (Ne.symm yT),ag]⟩
     . have nyD:y≠D:=af hy hD
       rw [ai nyD]
       exact S7 y _ (eX y _ hy)
end
end Gen
namespace Gen
open PySem L2
inductive ux (K:W.Frag) (vs:List V) (H:Hp) (Q:VK):Prop
 | mk (a z:Addr) (ns:List Int) (s0 s1 s2 s3:Int) (h1:vs=[.ref a,.ref z]) (h2:aq K H a (ns.map V.int)) (h3:gk K H z s0 s1 s2 s3) (h4:(∃o,H z=some o)) (h5:jo Q s0 s1 s3 H):ux K vs H Q
def pU (K:W.Frag):Sp:=λvs H Q _=>ux K vs H Q
abbrev MD:List Str:=["_law_script", "_law_sizes", "_law_cells"]
abbrev C6:List Str:=["_law_script", "_law_sizes"]
theorem C7:aQ MD C6 (au f9):=⟨rfl,rfl,rfl,by decide +kernel,rfl,by decide +kernel,by decide +kernel⟩
theorem Wc:(["_law_k", "_law_script"]:List Str).Nodup:=by decide +kernel
abbrev QG (P:Program) (w:World) (K:W.Frag) (mg:Str->Option Value) (base:Heap) (f:Addr) (cdv:Value) (A:Around) (outer:List Env) (s:Shared) (H:Hp) (E:XK):Cx:=
 (nJ aD P w K mg base MD "_law_machine" (au f9) f cdv A outer s H E).xZ
theorem jo.same {Q:VK}{s0 s1 s3:Int}{H H1:Hp}(k:jo Q s0 s1 s3 H) (s:aj H H1):jo Q s0 s1 s3 H1:=λm M names a1 a2 a3 a4 a5 a6 H' ok l1 l0 l2 l3 l4 l5 l6 l7 hM s1=>k m M names a1 a2 a3 a4 a5 a6 H' ok l1 l0 l2 l3 l4 l5 l6 l7 hM (s.trans s1)
section
variable {P:Program}{w:World}{K:W.Frag}{mg:Str->Option Value}{base:Heap}{fD fC fR:Addr}{dD dC dR:FuncData}
theorem EN (gD:aw P w K mg base aD 4 fD dD pN (nU K)) (mD:mg "_law_machine_digits" = some (.ref fD)) (kD:W.keepIn K (.ref fD)=true) (bD:Binds K dD pN [])
 {f:Addr}{cdv:Value}{A:Around}{outer:List Env}{s:Shared}{H:Hp}{E:XK}{Q:VK}(hr:bg 4 (A.deeper (PyProof.Rows.envOfC "_law_machine" (au f9) s.heap.objs.size f cdv))) :
 ∃tR:TS,iR (QG P w K mg base f cdv A outer s H E) (List.drop 2 (aI f9)) tR/\∀(H1:Hp) (v0:Option V) (z D:Addr) (c0 c1 c2 s0 s1 s2 s3:Int),H1 D=some (.lst [.int c0,.int c1,.int c2])->gk K H1 z s0 s1 s2 s3->(∃o,H1 z=some o)->jo Q s0 s1 s3 H1->
  tR { nx:=λ_ H'=>Q .aS H',rt:=Q } [v0,some (.ref z),some (.ref D)] H1:=by
 refine ⟨_,ar (aT (aA gD hr rfl mD kD bD .nil az (ae (bt (ae (bz bJ (pv 2) av (λ_ _=>rfl)) (ae (bz bJ (pv 2) av (λ_ _=>rfl)) (ae (aH uW (bz bJ (pv 2) av (λ_ _=>rfl)) av) ah)))) (ae (pv 1) ah)))),?_⟩
 intro H1 v0 z D c0 c1 c2 s0 s1 s2 s3 hD hz yS kk
 refine ⟨_,rfl,D,_,_,.int c0,rfl,rfl,aq.of hD,rfl,_,rfl,D,_,_,.int c1,rfl,rfl,aq.of hD,rfl,_,rfl,D,_,_,.int c2,rfl,rfl,aq.of hD,rfl,_,_,rfl,rfl,⟨by decide,by decide⟩,(by show 3<=sizeLine; decide),λp hp=>?_⟩
 have ME:aj H1 (upd H1 p (.lst [.int c0,.int c1,.int (c2 / 2)])):=aj.ao hp
 obtain ⟨o,ho⟩:=yS
 exact ⟨_,rfl,p,z,c0,c1,c2 / 2,s0,s1,s2,s3,rfl,aq.of ag,hz.same ME,⟨o,ME z o ho⟩,kk.same ME⟩
theorem C8 {f:Addr}{fd:FuncData}(F:cC K "_law_machine" "_law_machine" f9 f fd) (T:Own mg) (gD:aw P w K mg base aD 4 fD dD pN (nU K)) (mD:mg "_law_machine_digits" = some (.ref fD)) (kD:W.keepIn K (.ref fD)=true) (bD:Binds K dD pN [])
 (gC:aw P w K mg base aD 1 fC dC ["_law_script", "_law_k"] (pG K)) (mC:mg "_law_cell_at" = some (.ref fC)) (kC:W.keepIn K (.ref fC)=true) (bC:Binds K dC ["_law_script", "_law_k"] [])
 (gR:aw P w K mg base aD 2 fR dR ["_law_cell", "_law_k"] ui) (mR:mg "_law_rich" = some (.ref fR)) (kR:W.keepIn K (.ref fR)=true) (bR:Binds K dR ["_law_cell", "_law_k"] []) :
 aw P w K mg base aD 5 f fd C6 (pU K):=by
 refine F.ok C7 (λvs H Q E h=>?_) (λcdv A outer s H vs Q E hr h=>?_)
 . obtain ⟨a,z,ns,s0,s1,s2,s3,rfl,_⟩:=h
   rfl
 . obtain ⟨a,z,ns,s0,s1,s2,s3,rfl,hS,hz,⟨oz,yS⟩,kk⟩:=h
   have cI:bg 1 _:=hr.mono (by decide)
   have fT:bg 2 _:=hr.mono (by decide)
   obtain ⟨tR,hR,rR⟩:=EN gD mD kD bD (outer:=outer) (H:=H) (E:=E) (Q:=Q) hr
   refine ⟨_,ak (qq (i:=2) (N:=["_law_k", "_law_script"]) (js:=[none,some 0]) C7.nd rfl rfl (by kernel_rfl) rfl (cO rfl T.range (ae av ah)) (λ_ _ _ _ _ _=>ax (i:=0) Wc rfl (Or.inl rfl) (.inr rfl)) (λ_ _ _ _ _ _=>bj)
    (λ_ _ _ _ _ _=>aA gC cI rfl mC kC bC .nil az (ae (pv 1) (ae (pv 0) ah))))
    (ak (bY (a8 iU (aH ij (bz bJ (pv 2) av (λ_ _=>rfl)) av) av (bp _))
     (ar (qq (i:=2) (N:=["_law_k", "_law_cell"]) (js:=[none,none]) (g:=sq K 2 (g8 (dr 0) (g8 (dr 1) so))) C7.nd rfl rfl (by kernel_rfl) rfl (Bg rfl T.enum (ae (pv 2) ah))
      (λ_ _ _ _ _ _=>eg rfl (aK (ax (i:=0) C5 rfl (Or.inl rfl) (.inr rfl)) (aK (ax (i:=1) C5 rfl (Or.inl rfl) (.inr rfl)) cU))) (λ_ _ _ _ _ _=>bj)
      (λ_ _ _ _ _ _=>aA gR fT rfl mR kR bR .nil az (ae (pv 1) (ae (pv 0) ah))))) aY) hR),?_⟩
   refine ⟨3,rfl,by decide,by decide,λD hD=>?_⟩
   have nzD:z≠D:=af yS hD
   refine cY 3 (λi acc σ H2=>(∃cs:List Int,acc=cs.map V.int/\cs.length=i)/\(∃v,σ=[v,some (.ref a)])/\H2=upd H D (.lst acc)) ⟨⟨[],rfl,rfl⟩,⟨none,rfl⟩,rfl⟩ ag ?_ ?_
   . rintro acc σ H2 aW ⟨⟨cs,rfl,et⟩,_,rfl⟩
     obtain ⟨c0,c1,c2,rfl⟩:∃c0 c1 c2,cs=[c0,c1,c2]:=by
      match cs,et with
      | [c0,c1,c2],_=>exact ⟨c0,c1,c2,rfl⟩
     refine ⟨Nat.le_refl _,?_⟩
     have oO:aj H (upd H D (.lst [.int c0,.int c1,.int c2])):=aj.ao hD
     refine ⟨_,rfl,D,_,_,.int c2,rfl,rfl,aq.of ag,rfl,_,_,rfl,rfl,(by show (0:Int)<2; decide),rfl,_,rfl,?_⟩
     refine dq (λ_=>?_) (λ_=>?_)
     . refine ⟨_,rfl,D,rfl,⟨_,aq.of ag⟩,λD2 mz=>?_⟩
       have nDD:D≠D2:=af ag mz
       refine cY 3 (λi acc σ H3=>(∃cs:List Int,acc=cs.map V.int/\cs.length=i)/\(∃u v,σ=[u,v])/\aj (upd H D (.lst [.int c0,.int c1,.int c2])) H3) ⟨⟨[],rfl,rfl⟩,⟨none,none,rfl⟩,aj.ao mz⟩ ag ?_ ?_
       . rintro acc σ H3 C9 ⟨⟨cs,rfl,GW⟩,_,wF⟩
         obtain ⟨e0,e1,e2,rfl⟩:∃c0 c1 c2,cs=[c0,c1,c2]:=by
          match cs,GW with
          | [c0,c1,c2],_=>exact ⟨c0,c1,c2,rfl⟩
         refine ⟨⟨_,aq.of (wF D _ ag),Nat.le_refl _⟩,?_⟩
         have gH:=oO.trans wF
         exact rR H3 _ z D2 e0 e1 e2 s0 s1 s2 s3 C9 (hz.same gH) ⟨oz,gH z oz yS⟩ (kk.same gH)
       . rintro i acc σ H3 hi C9 ⟨⟨cs,rfl,GW⟩,⟨u,v,rfl⟩,wF⟩
         obtain ⟨ci,hx⟩:∃ci:Int,[V.int c0,V.int c1,V.int c2][i]?=some (.int ci):=by
          rcases (show i=0\/i=1\/i=2 by omega) with rfl | rfl | rfl
          . exact ⟨_,rfl⟩
          . exact ⟨_,rfl⟩
          . exact ⟨_,rfl⟩
         have wu:H3 D=some (.lst [V.int c0,V.int c1,V.int c2]):=wF D _ ag
         refine ⟨⟨_,_,aq.of wu,hx⟩,?_⟩
         rintro x H' ⟨Tp,xv,rfl,ud,rfl,cT⟩
         have ex:=cT _ (aq.of wu)
         rw [hx] at ex
         cases ex
         refine ⟨Tp,_,rfl,aR.of ag,rfl,_,_,rfl,_,_,rfl,rfl,pT ?_⟩
         have Bx:D2≠Tp:=af C9 ud
         refine ⟨_,rfl,_,rfl,_,_,rfl,by omega,by omega,λv'=>⟨_,(by rw [ai Bx]; exact C9),(by rw [List.length_map]; exact small (by omega)),bo hi ag ⟨⟨cs++[v'],?_,?_⟩,⟨_,_,rfl⟩,λy o hy=>?_⟩⟩⟩
         . rw [List.map_append]; rfl
         . rw [List.length_append,List.length_singleton,GW]
         . have e3:=wF y o hy
           rw [ai (af hy mz),ai (af e3 ud)]
           exact e3
     . exact rR _ _ z D c0 c1 c2 s0 s1 s2 s3 ag (hz.same oO) ⟨oz,oO z oz yS⟩ (kk.same oO)
   . rintro i acc σ H2 hi aW ⟨⟨cs,rfl,et⟩,⟨v,rfl⟩,rfl⟩
     refine ⟨hi,?_⟩
     rintro x H' ⟨rfl,rfl⟩
     refine cA ?_
     refine ⟨_,rfl,_,rfl,a,ns,_,rfl,aj.seq (aj.ao hD) hS,by omega,λv'=>⟨_,ag,(by rw [List.length_map]; exact small (by omega)),bo hi ag ⟨⟨cs++[v'],?_,?_⟩,⟨_,rfl⟩,by rw [g7]⟩⟩⟩
     . rw [List.map_append]; rfl
     . rw [List.length_append,List.length_singleton,et]
end
end Gen
namespace PySem
open Sem (wp)
theorem nV:typeLookup (.type "list") "__getattr__" = pure none:=by rw [typeLookup_type,builtinLookup_eq_fast]; kernel_rfl
theorem qX:typeLookup (.type "list") "keys" = pure none:=by rw [typeLookup_type,builtinLookup_eq_fast]; kernel_rfl
theorem nW {A:Around}{prog:Program}{w:World}{Q:Fin->Shared->Prop}{E:Value->Shared->Prop}{h:Heap}{g d t os} {a:Addr}{items:Array Value}{n:Nat}(u:Tok) (hx:h.get? a=some { cls:=.type "list",data:=.seq items n }) (hh:A.handled=none)
 (hE:∀h' tk e,Heap.NewAttrErr h h' e (.ref a) "keys" -> E (.ref e) ⟨h',g,d,tk,os⟩) :
 wpAny (model prog w) A (Builtin.«object.__getattribute__» ⟨[.ref a,.str "keys" u],[]⟩) Q E ⟨h,g,d,t,os⟩:=by
 have hT:∀t',(⟨h,g,d,t',os⟩:Shared).TypeIs (.ref a) "list":=λt'=>⟨_,hx,rfl⟩
 have By:=hT t
 have aeT:=qX
 have hc:[Str.ofString "__module__",Str.ofString "__name__",Str.ofString "__qualname__",Str.ofString "__doc__",Str.ofString "__annotations__"].contains (Str.ofString "keys")=false:=by decide +kernel
 unfold Builtin.«object.__getattribute__»
 repeat (any_goals (first | assumption | wp_step | refine wpAny_ite_false hc ?_))
 all_goals first
  | exact wpAny_raiseAttrError hh hE (attrMsg_fits (by decide +kernel) (by decide))
  | skip
theorem yU {A:Around}{prog:Program}{w:World}{R:Result->Shared->Prop}{h:Heap}{g d t os} {a:Addr}{items:Array Value}{n:Nat}{u:Tok}(hx:h.get? a=some { cls:=.type "list",data:=.seq items n }) (hh:A.handled=none)
 (hE:∀h' tk e,Heap.NewAttrErr h h' e (.ref a) "keys" -> R (.error (.ref e)) ⟨h',g,d,tk,os⟩) :
 codeAny (model prog w) A (.call (.builtin "list.__getattribute__") ⟨[.ref a,.str "keys" u],[]⟩) R ⟨h,g,d,t,os⟩:=
 codeAny_call_builtin F.slot_list_getattribute.plain F.entry_list_ga (F.slot_list_getattribute.check _ _ _ _ _ _ _ _ (show (⟨h,g,d,t,os⟩:Shared).TypeIs (.ref a) "list" from ⟨_,hx,rfl⟩) (F.args_list_getattribute_2 _ _) (nW u hx hh hE))
theorem yV {A:Around}{prog:Program}{w:World}{E:Value->Shared->Prop}{h:Heap}{g d t os} {a:Addr}{items:Array Value}{n:Nat}{Q:Option Value->Shared->Prop}(hx:h.get? a=some { cls:=.type "list",data:=.seq items n }) (hh:A.handled=none)
 (hQ:∀h' tk,(∀b o,h.get? b=some o->h'.get? b=some o)->Q none ⟨h',g,d,tk,os⟩):wpAny (model prog w) A (getAttr? (.ref a) "keys") Q E ⟨h,g,d,t,os⟩:=by
 have hT:(⟨h,g,d,t,os⟩:Shared).TypeIs (.ref a) "list":=⟨_,hx,rfl⟩
 have f1:=sub_AttributeError
 have f2:=F.slot_list_getattribute.lookup
 have f3:=F.slot_list_getattribute.bind (.ref a)
 have f5:=nV
 unfold getAttr? getAttrBy? getAttrBy
 repeat (any_goals (first | assumption | ((with_reducible show codeAny _ _ (Code.call (Value.builtin "list.__getattribute__") _) _ _); refine yU hx hh ?_; intro h' EO e rL; obtain ⟨t1,u1,he⟩:=rL.there) | wp_step))
 exact hQ h' EO rL.keeps
end PySem
namespace PySem
open Sem (wp)
namespace F
theorem iZ:entryFor table "dict.update.loop" = some Builtin.«dict.update.loop»:=entryFor_of_tree (by kernel_rfl)
theorem eF:plainId "dict.update.loop" = true:=by decide +kernel
end F
section
variable {prog:Program}{w:World}{K:Type}[DecidableEq K] {knd:KeyKind prog w K}{A:Around}{R:Result->Shared->Prop}
def yW (knd:KeyKind prog w K) (h:Heap) (u:Value) (kv:K×Value):Prop:=∃t key,u=.ref t/\h.IsTuple t #[key,kv.2]/\knd.is kv.1 key=true
theorem ve {d it l:Addr}{items:Array Value}{kvs:List (K×Value)}(hdi:d≠it) (rM:d≠l) (pP:l≠it) (hz:kvs.length<=sizeLine) (hh:A.handled=none) :
 ∀(k i:Nat) (s:Shared) (tk:Tok) (acc:List (K×Value)),items.size-i=k->i<=items.size->kvs.length=items.size->s.heap.IsListIter it l i->s.heap.IsList l items->s.heap.DictOf knd d acc->acc.length<=i->
 (∀(j:Nat) (u:Value) (kv:K×Value),items[j]?=some u->kvs[j]?=some kv->yW knd s.heap u kv/\(∀t,u=.ref t->t≠d/\t≠it))->
 (∀h' tk,h'.DictOf knd d ((kvs.drop i).foldl (λa kv=>stored a kv.1 kv.2) acc)->(∀b o,b≠d->b≠it->s.heap.get? b=some o->h'.get? b=some o)->R (.ok (.ret .none)) { s with heap:=h',toks:=tk })->
 codeAny (model prog w) A (.builtin "dict.update.loop" ⟨[.ref d,.ref it,.int (i:Int) tk,.none],[]⟩) R s:=by
 intro k
 induction k with
 | zero=>
  intro i s tk acc hk hi hlen hit hl hd Wd hp hR
  have dw:i=items.size:=by omega
  refine codeAny_builtin F.iZ ?_
  rw [Around.under_plainId F.eF _]
  show wpAny _ A.in1 (pyNext (.ref it) >>= _) _ _ s
  refine wpAny_bind (wpAny_pyNext_list_end (A:=A.in1) hh hit hl (Array.getElem?_eq_none (by omega)) λh' he=>?_)
  refine wpAny_bind (wpAny_pure (wpAny_pure ?_))
  have hd':h'.DictOf knd d acc:=let ⟨o,es,ep,ho,r⟩:=hd; ⟨o,es,ep,he d o hdi ho,r⟩
  refine hR h' s.toks ?_ λb o _ hb e=>he b o hb e
  rw [List.drop_of_length_le (by omega)]
  exact hd'
 | succ k ih=>
  intro i s tk acc hk hi hlen hit hl hd Wd hp hR
  have di:i<items.size:=by omega
  have hx:items[i]?=some items[i]:=Array.getElem?_eq_getElem di
  have gq:kvs[i]?=some kvs[i]:=List.getElem?_eq_getElem (by omega)
  obtain ⟨⟨t,key,ht,We,uX⟩,cD⟩:=hp i _ _ hx gq
  obtain ⟨ntd,nti⟩:=cD t ht
  refine codeAny_builtin F.iZ ?_
  rw [Around.under_plainId F.eF _]
  show wpAny _ A.in1 (pyNext (.ref it) >>= _) _ _ s
  refine wpAny_bind (wpAny_pyNext_list_item hit hl hx λh1 GF wk=>?_)
  rw [ht]
  have QH:h1.IsTuple t #[key,(kvs[i]).2]:=let ⟨o,e,r⟩:=We; ⟨o,(wk.2 t nti).trans e,r⟩
  refine wpAny_bind (wpAny_holding (wpAny_bind ?_))
  refine wpAny_tryCatch ?_
  unfold Builtin.Dict.pairItems
  obtain ⟨ot,e1,rF,n1,Bz⟩:=id QH
  refine wpAny_bind (wpAny_typeOf (show ({ s with heap:=h1 } : Shared).TypeIs (.ref t) "tuple" from ⟨ot,e1,rF⟩) ?_)
  rw [if_pos (by decide)]
  refine wpAny_bind (wpAny_seqItems e1 Bz (wpAny_pure ?_))
  show wpAny _ A.in1 (holding [key,(kvs[i]).2] (dictSet d key (kvs[i]).2)) _ _ _
  refine wpAny_holding ?_
  unfold dictSet
  try with_reducible refine wpAny_holding ?_
  have mT:h1.DictOf knd d acc:=let ⟨o,es,ep,ho,r⟩:=hd; ⟨o,es,ep,(wk.2 d hdi).trans ho,r⟩
  refine wpAny_bind (knd.pyHash uX ?_)
  refine wpAny_dictSetHashed_pairs uX mT (λh2 hd2 ig=>?_) (by omega)
  refine wpAny_pure ⟨plainId_quiet F.eF _,?_⟩
  have er:rawInt ((i:Int)+1)=Value.int (((i+1:Nat):Nat):Int) 0:=by simp [rawInt]
  rw [er]
  have keep:∀b o,b≠d->b≠it->s.heap.get? b=some o->h2.get? b=some o:=λb o b1 b2 e=>(ig.2 b b1).trans ((wk.2 b b2).trans e)
  refine ih (i+1) _ 0 (stored acc (kvs[i]).1 (kvs[i]).2) (by omega) (by omega) hlen ?_ ?_ hd2 ?_ ?_ ?_
  . obtain ⟨o,e,r⟩:=GF
    exact ⟨o,(ig.2 it (Ne.symm hdi)).trans e,r⟩
  . obtain ⟨o,e,r⟩:=hl
    exact ⟨o,keep l o (Ne.symm rM) pP e,r⟩
  . have:=stored_length_le acc (kvs[i]).1 (kvs[i]).2
    omega
  . intro j u kv hu Wf
    obtain ⟨⟨t',Wg,e',ER,gm⟩,GX⟩:=hp j u kv hu Wf
    obtain ⟨a1,a2⟩:=GX t' e'
    obtain ⟨o,e,r⟩:=ER
    exact ⟨⟨t',Wg,e',⟨o,keep t' o a1 a2 e,r⟩,gm⟩,GX⟩
  . intro h' EO hd' gm
    refine hR h' EO ?_ λb o b1 b2 e=>gm b o b1 b2 (keep b o b1 b2 e)
    rw [List.drop_eq_getElem_cons (by omega),List.foldl_cons]
    exact hd'
end
section
variable {prog:Program}{w:World}{K:Type}[DecidableEq K] {knd:KeyKind prog w K}{A:Around}{E:Value->Shared->Prop}{s:Shared}
theorem yX {l:Addr}{items:Array Value}{n:Nat}{kvs:List (K×Value)}{Q:Value->Shared->Prop}(hh:A.handled=none) (hl:s.heap.get? l=some { cls:=.type "list",data:=.seq items n }) (hlen:kvs.length=items.size) (hz:kvs.length<=sizeLine)
 (hp:∀(j:Nat) (u:Value) (kv:K×Value),items[j]?=some u->kvs[j]?=some kv->yW knd s.heap u kv)
 (h:∀h' tk,h'.DictOf knd s.heap.objs.size (merged [] kvs)->(∀b o,s.heap.get? b=some o->h'.get? b=some o)->Q (.ref s.heap.objs.size) { s with heap:=h',toks:=tk }) :
 wpAny (model prog w) A (call (.type "dict") [.ref l]) Q E s:=by
 refine callType_codes (Q₁:=λobj dm=>obj=.ref s.heap.objs.size/\dm = { s with heap:=s.heap.push { cls:=.type "dict",data:=.dict #[] } }) F.kt_called_dict (F.kt_typeCall_dict_1 _) F.entry_dict_init (kt_code_dict_new _ ⟨rfl,rfl⟩) ?_
 rintro obj dm ⟨rfl,rfl⟩
 have dJ:(s.heap.push { cls:=.type "dict",data:=.dict #[] }).DictOf knd s.heap.objs.size []:=Heap.DictOf.new s.heap
 have rg:(s.heap.push { cls:=.type "dict",data:=.dict #[] }).get? l=some { cls:=.type "list",data:=.seq items n }:=Heap.get?_push_of_some _ hl
 refine ⟨dJ.typeIs,F.args_dict_init_2 _ _,?_⟩
 unfold Builtin.«dict.__init__»
 refine wpAny_bind ?_
 unfold Builtin.Dict.selfAndRest
 refine wpAny_bind (wpAny_notOrdered_dict dJ.typeIs ?_)
 show wpAny _ _ (pure (s.heap.objs.size,[Value.ref l])) _ _ _
 refine wpAny_pure ?_
 show wpAny _ _ (Builtin.Dict.updateFrom "dict.__init__" s.heap.objs.size (.ref l) [] .none) _ _ _
 unfold Builtin.Dict.updateFrom
 refine wpAny_bind (wpAny_typeOf (show ({ s with heap:=s.heap.push { cls:=.type "dict",data:=.dict #[] } } : Shared).TypeIs (.ref l) "list" from ⟨_,rg,rfl⟩) ?_)
 rw [if_pos (by decide)]
 generalize wk:({ s with heap:=s.heap.push { cls:=.type "dict",data:=.dict #[] } } : Shared)=s1 at *
 obtain ⟨g1,g2,g3,g4,g5⟩:=s1
 cases wk
 refine wpAny_bind (yV rg (by first | exact hh | rfl) λh2 tk2 k2=>?_)
 rw [if_pos (show (none:Option Value).isNone=true from rfl)]
 have c8:h2.get? l=some { cls:=.type "list",data:=.seq items n }:=k2 _ _ rg
 have lt2:∀b o,(s.heap.push { cls:=.type "dict",data:=.dict #[] }).get? b=some o->b<h2.objs.size:=λb o e=>Heap.lt_size (k2 b o e)
 refine wpAny_bind (wpAny_rule (wpAny_bind (wpAny_pyIter_list (s:={ heap:=h2,gens:=s.gens,drawn:=s.drawn,toks:=tk2,os:=s.os }) (items:=items) ⟨_,c8,rfl,n,rfl⟩ ?_)))
 refine wpAny_pure ⟨plainId_quiet F.eF _,?_⟩
 have hd2:h2.DictOf knd s.heap.objs.size []:=let ⟨o,es,ep,ho,r⟩:=dJ; ⟨o,es,ep,k2 _ _ ho,r⟩
 have rM:s.heap.objs.size<h2.objs.size:=let ⟨o,es,ep,ho,r⟩:=dJ; lt2 _ _ ho
 have jZ:l<s.heap.objs.size:=Heap.lt_size hl
 refine ve (knd:=knd) (d:=s.heap.objs.size) (it:=h2.objs.size) (l:=l) (items:=items) (kvs:=kvs) (Nat.ne_of_lt rM) (Nat.ne_of_gt jZ) (Nat.ne_of_lt (Nat.lt_trans jZ rM)) hz (by first | exact hh | rfl) items.size 0 _ 0 [] rfl (Nat.zero_le _) hlen
  ⟨_,Heap.get?_push_size _ rfl,rfl,rfl⟩ ⟨_,Heap.get?_push_of_some _ c8,rfl,n,rfl⟩ ?_ (Nat.le_refl _) ?_ ?_
 . obtain ⟨o,es,ep,ho,r⟩:=hd2
   exact ⟨o,es,ep,Heap.get?_push_of_some _ ho,r⟩
 . intro j u kv hu gq
   obtain ⟨t,key,e,⟨o,eo,r⟩,hk⟩:=hp j u kv hu gq
   have ht:t<s.heap.objs.size:=Heap.lt_size eo
   refine ⟨⟨t,key,e,⟨o,Heap.get?_push_of_some _ (k2 _ _ (Heap.get?_push_of_some _ eo)),r⟩,hk⟩,λt' e'=>?_⟩
   rw [e] at e'
   cases e'
   exact ⟨Nat.ne_of_lt ht,Nat.ne_of_lt (Nat.lt_trans ht rM)⟩
 . intro h' EO hd' gm
   refine ⟨rfl,h h' EO ?_ λb o e=>?_⟩
   . simpa [merged] using hd'
   . have hb:b<s.heap.objs.size:=Heap.lt_size e
     exact gm b o (Nat.ne_of_lt hb) (Nat.ne_of_lt (Nat.lt_trans hb rM)) (Heap.get?_push_of_some _ (k2 _ _ (Heap.get?_push_of_some _ e)))
end
end PySem
namespace L2
open PySem PySem.Spec PyProof.Rows
section
variable {X:Cx}
theorem Dc {P:Program}{w:World}{k:Key}{u:Value}(h:(bb P w).is k u=true):RelV (kV k) u:=by
 rw [CA] at h
 cases k with
 | inl i=>cases u <;> first | (simp [iP,Value.isInt] at h; done) | (simp [iP,Value.isInt] at h; subst h; exact ⟨_,rfl⟩)
 | inr x=>cases u <;> first | (simp [iP,Value.isStrOf] at h; done) | (simp [iP,Value.isStrOf] at h; subst h; exact ⟨_,rfl⟩)
theorem pairs_at {P:Program}{w:World}{H:Hp}{h:Heap}(ok:eP P w H h):∀{ts:List Addr}{kvs:List (Key×V)}{us:List Value},Paired (λt kv=>H t=some (.tup [kV kv.1,kv.2])) ts kvs->Vals (ts.map V.ref) us->
 ∃vs:List (Key×Value),KV kvs vs/\Paired (λu kv=>yW (bb P w) h u kv) us vs
 | [],[],us,.nil,r=>by
  cases r
  exact ⟨[],.nil,.nil⟩
 | t::ts,kv::kvs,us,.cons e p,r=>by
  cases r with
  | @cons _ u _ gE ru r'=>
   obtain ⟨vs,k1,k2⟩:=pairs_at ok p r'
   cases (show u=Value.ref t from ru)
   obtain ⟨_,its,rv,ip⟩:=(show bH P w H h t (.tup [kV kv.1,kv.2]) from ok t _ e)
   obtain ⟨key,val,rfl,rk,rl⟩:=vals2 rv
   exact ⟨(kv.1,val)::vs,.cons ⟨rfl,rl⟩ k1,.cons ⟨t,key,rfl,ip,lE rk⟩ k2⟩
theorem jx {α β:Type}{F:α->β->Prop} : ∀{l₁:List α}{l₂:List β}{i:Nat}{a:α}{b:β},Paired F l₁ l₂->l₁[i]?=some a->l₂[i]?=some b->F a b
 | _,_,i,a,b,.nil,h,_=>by simp at h
 | _,_,0,a,b,.cons h t,e1,e2=>by
  simp at e1 e2
  subst e1 e2
  exact h
 | _,_,i+1,a,b,.cons h t,e1,e2=>jx (i:=i) t (by simpa using e1) (by simpa using e2)
theorem cP (hc:X.calm=true):eB X (.type "dict") (λxs H Q=>∃p ts kvs,xs=[.ref p]/\H p=some (.lst (ts.map V.ref))/\Paired (λt kv=>H t=some (.tup [kV kv.1,kv.2])) ts kvs/\∀d,H d=none->Q (.ref d) (upd H d (.dK (de [] kvs)))):=by
 intro pins s σ H xs us Q I r h
 obtain ⟨p,ts,kvs,rfl,hp,hT,q⟩:=h
 obtain ⟨u,rfl,rx⟩:=vals1 r
 cases (show u=Value.ref p from rx)
 obtain ⟨hz,its,n,rv,e⟩:=(show bH X.prog X.w H s.heap p (.lst (ts.map V.ref)) from I.hok p _ hp)
 obtain ⟨vs,kv,pv⟩:=pairs_at I.hok hT rv
 have l1:vs.length=its.toArray.size:=by rw [List.size_toArray]; exact pv.length.symm
 have l2:kvs.length=vs.length:=kv.length
 have l3:vs.length<=sizeLine:=by
  have:=hT.length
  rw [List.length_map] at hz
  omega
 refine yX (knd:=bb X.prog X.w) (kvs:=vs) (I.ok.hd hc) e l1 l3 (λj u kv hu gq=>jx pv (by simpa using hu) gq) λh' tk dd kk=>?_
 refine ⟨.ref s.heap.objs.size,_,I.laid (a:=s.heap.objs.size) (o:=.dK (de [] kvs)) kk (Nat.le_refl _) (pe ?_ (beq_eq_false_iff_ne.mpr (Ne.symm (Nat.ne_of_lt I.big))) (KV.merge kv .nil) dd),rfl,q _ (I.hok.fresh (Nat.le_refl _))⟩
 have:=jU kvs []
 simp at this
 omega
theorem eO:eB X (.type "dict") (λxs H Q=>∃p kvs,xs=[.ref p]/\Rd H p (.dK kvs)/\∀d,H d=none->Q (.ref d) (upd H d (.dK kvs))):=by
 intro pins s σ H xs us Q I r h
 obtain ⟨p,kvs,rfl,hp,q⟩:=h
 obtain ⟨u,rfl,rx⟩:=vals1 r
 cases (show u=Value.ref p from rx)
 exact Gs I hp λd s' hd I'=>⟨.ref d,_,I',rfl,q d hd⟩
theorem md:eB X (.builtin "isinstance") (λxs H Q=>∃x t c b,xs=[x,.ty c]/\ji X.K H x t/\W.kitOne X.K t (.type c)=some b/\Q (.bl b) H):=by
 intro pins s σ H xs us Q I r h
 obtain ⟨x,t,c,b,rfl,ty,e,q⟩:=h
 obtain ⟨u,v,rfl,rx,ry⟩:=vals2 r
 cases (show v=Value.type c from ry)
 exact DW I rx ty e λtk=>⟨.bl b,H,I.tok _,rfl,q⟩
theorem jq (hc:X.calm=true):eB X (.type "list") (λxs H Q=>∃p kvs,xs=[.ref p]/\Rd H p (.dK kvs)/\∀l,H l=none->Q (.ref l) (upd H l (.lst (kvs.map λkv=>kV kv.1)))):=by
 intro pins s σ H xs us Q I r h
 obtain ⟨p,kvs,rfl,hp,q⟩:=h
 obtain ⟨u,rfl,rx⟩:=vals1 r
 cases (show u=Value.ref p from rx)
 obtain ⟨z,hd,vs,rel,dd⟩:=iz I.hok hp
 obtain ⟨ep,da⟩:=dd.dictAt
 have hlen:kvs.length=vs.length:=rel.length
 refine W.kdl_call (W.kdl_dict (knd:=bb X.prog X.w) (ep:=ep) hd) (I.ok.hd hc) da (by omega) λh' tk GY c' kk e it=>?_
 have rv:Vals (kvs.map λkv=>kV kv.1) GY.toList:=by
  obtain ⟨i1,i2⟩:=it
  have gen:∀(kvs:List (Key×V)) (vs:List (Key×Value)) (us:List Value),KV kvs vs->us.length=vs.length->(∀(j:Nat) v,us[j]?=some v->∃k x,vs[j]?=some (k,x)/\(bb X.prog X.w).is k v=true)->Vals (kvs.map λkv=>kV kv.1) us:=by
   intro kvs vs us kv
   induction kv generalizing us with
   | nil=>
    intro hl _
    have:us=[]:=List.length_eq_zero_iff.mp hl
    subst this
    exact .nil
   | @cons a b as bs ES t ih=>
    intro hl hu
    match us,hl with
    | u::us,hl=>
     obtain ⟨k,x,e1,e2⟩:=hu 0 u rfl
     simp at e1
     have ek:k=a.1:=by rw [ES.1,e1]
     subst ek
     refine .cons (Dc e2) (ih us (by simpa using hl) λj v hj=>?_)
     obtain ⟨k',x',e3,e4⟩:=hu (j+1) v (by simpa using hj)
     exact ⟨k',x',by simpa using e3,e4⟩
  exact gen kvs vs GY.toList rel (by rw [Array.length_toList,i1]) λj v hj=>i2 j v (by rw [← Array.getElem?_toList]; exact hj)
 refine ⟨.ref s.heap.objs.size,_,I.laid (t':=tk) kk (Nat.le_refl _) (show bH X.prog X.w _ h' _ (.lst (kvs.map λkv=>kV kv.1)) from ⟨by rw [List.length_map]; exact z,GY.toList,c',rv,by simpa using e⟩),rfl,q _ (I.hok.fresh (Nat.le_refl _))⟩
end
section
variable {X:Cx}{pins:List (Addr×Obj)}{σ:St}{H:Hp}{s:Shared}{d:Addr}{kvs:List (Key×V)}
theorem Inv.freeze (I:Inv X pins σ H s) (e:H d=some (.dK kvs)):∃o,s.heap.get? d=some o/\Inv X pins σ (upd H d (.cz o (.dK kvs))) s:=by
 obtain ⟨z,hd,vs,rel,dd⟩:=tQ I.hok e
 obtain ⟨o,es,ep,ho,r⟩:=id dd
 refine ⟨o,ho,I.write (x:=d) (e:=d) (t':=s.toks) (h':=s.heap) (by rw [e]; trivial) (.inl rfl) (λb u _ q=>q) ⟨o,ho⟩ (show bH X.prog X.w _ s.heap d (.cz o (.dK kvs)) from ⟨ho,pe z hd rel dd⟩)⟩
theorem Inv.MG {o:Obj}(I:Inv X pins σ H s) (e:H d=some (.cz o (.dK kvs))) (hn:∀o' u,X.xt d≠some (.cz o' u)):Inv X pins σ (upd H d (.dK kvs)) s:=by
 have ne:∀b,H b=none->b≠d:=λb h z=>by rw [z,e] at h; cases h
 have up:∀b,H b=none->upd H d (.dK kvs) b=none:=λb h=>by rw [ai (ne b h)]; exact h
 refine ⟨I.ok,I.os,I.bare,⟨I.base.keep,I.base.slot,λb ob q n hx=>up b (I.base.free b ob q n hx),I.base.there,λb xs q=>?_,λb ob u q=>?_,λb ps q=>?_⟩,I.loc,I.cell,up _ I.free,λx c q=>up _ (I.freeC x c q),λp hp=>?_,λb u q=>?_,I.len⟩
 . have q1:=I.base.tups b xs q
   rw [ai (λz=>by rw [z,e] at q1; cases q1)]
   exact q1
 . have q1:=I.base.frzs b ob u q
   rw [ai (λz=>hn ob u (by rw [← z]; exact q))]
   exact q1
 . obtain ⟨more,q1⟩:=I.base.tbls b ps q
   exact ⟨more,by rw [ai (λz=>by rw [z,e] at q1; cases q1)]; exact q1⟩
 . obtain ⟨a1,a2,a3⟩:=I.pin p hp
   exact ⟨a1,up _ a2,a3⟩
 . by_cases hb:b=d
   . subst hb
     rw [ag] at q
     cases q
     obtain ⟨_,k⟩:=(show bH X.prog X.w H s.heap b (.cz o (.dK kvs)) from I.hok b _ e)
     exact k
   . rw [ai hb] at q
     exact (I.hok b u q).ku (λ_ _ _ z=>z) (λc z=>by rw [ai (λy=>by rw [y,e] at z; cases z)]; exact z) λc xs z=>by rw [ai (λy=>by rw [y,e] at z; cases z)]; exact z
end
section
variable {X:Cx}
def QI (xt:Hp) (t:TE):TE:=λσ H Q=>t σ H λv H1=>∃d o kvs,H1 d=some (.cz o (.dK kvs))/\(∀o' u,xt d≠some (.cz o' u))/\Q v (upd H1 d (.dK kvs))
theorem vf {e:Expr}{t:TE}(h:PE X e t):PE X e (QI X.xt t):=by
 intro pins s σ H Q I q
 refine aJ (h pins s σ H _ I q) λv s1 ⟨x,H1,I1,r1,q1⟩=>?_
 obtain ⟨d,o,kvs,e1,hn,q2⟩:=q1
 exact ⟨x,_,I1.MG e1 hn,r1,q2⟩
def S8 (d:Addr) (o:Obj) (kvs:List (Key×V)):It:=⟨λi H=>H d=some (.cz o (.dK kvs))/\i<kvs.length,λi H x H'=>H'=H/\∃kv,kvs[i]?=some kv/\x=kV kv.1,λi H=>H d=some (.cz o (.dK kvs))/\i=kvs.length⟩
theorem ET {P:Program}{w:World}{K:W.Frag}{tg:Expr}{d it:Addr}{o:Obj}{es:Array DictEntry}{ep:Nat}{kvs:List (Key×V)}(hd:o.data=.dict es ep) (cD:d≠it):Turn P w K tg (S8 d o kvs) [it] it (λi h=>h.IsKeyIter it d i kvs.length ep) where
 mem:=by simp
 obj:=λi h st b hb=>by
  have e:b=it:=by simpa using hb
  subst e
  obtain ⟨o,e,c,d⟩:=st
  exact ⟨o,e,λv z=>by rw [d] at z; cases z⟩
 keep:=λi h h' st k=>let ⟨o,e,r⟩:=st; ⟨o,k it (by simp) o e,r⟩
 item:=by
  intro X hP hw hK hc i pins s σ H E I hf st hg
  subst hP hw hK
  obtain ⟨f0,f1,f2,f3,f4,f5⟩:=hf it (by simp)
  obtain ⟨g1,g2⟩:=hg
  obtain ⟨ho,z,hs,vs,rel,o',xP,xQ,fq,r'⟩:=(show bH X.prog X.w H s.heap d (.cz o (.dK kvs)) from I.hok d _ g1)
  rw [ho] at fq
  cases fq
  have mT:=r'.2.1
  rw [hd] at mT
  cases mT
  have hl:kvs.length=vs.length:=rel.length
  refine (Walks.dictKeys (knd:=bb X.prog X.w) (I.ok.hd hc) it d cD vs ep).item i s _ _ (by omega) ⟨by rw [← hl]; exact st,o,es,ho,r'⟩ λv h' tk hv aP kk=>?_
  obtain ⟨k,x,ek,ik⟩:=hv
  have I1:Inv X pins σ H { s with heap:=h',toks:=tk }:=I.turned (λb o hb e=>kk b o (by simpa using hb) e) f0 f1 f3 f4 f5
  have qZ:h'.IsKeyIter it d (i+1) kvs.length ep:=by rw [hl]; exact aP.1
  obtain ⟨oi,e,oc,od⟩:=id qZ
  have EU:kvs[i]?=some kvs[i]:=List.getElem?_eq_getElem g2
  have yY:(kvs[i]).1=k:=(jx rel EU ek).1
  exact ⟨_,rfl,tP (s:={ s with heap:=h',toks:=tk }) e oc od (by decide) ⟨kV k,H,I1,Dc ik,⟨rfl,_,EU,by rw [yY]⟩,qZ,λb hb=>(hf b hb).1⟩⟩
 done:=by
  intro X hP hw hK hc i pins s σ H E I hf st hg
  subst hP hw hK
  obtain ⟨f0,f1,f2,f3,f4,f5⟩:=hf it (by simp)
  obtain ⟨g1,g2⟩:=hg
  subst g2
  obtain ⟨ho,z,hs,vs,rel,o',xP,xQ,fq,r'⟩:=(show bH X.prog X.w H s.heap d (.cz o (.dK kvs)) from I.hok d _ g1)
  rw [ho] at fq
  cases fq
  have mT:=r'.2.1
  rw [hd] at mT
  cases mT
  have hl:kvs.length=vs.length:=rel.length
  exact (Walks.dictKeys (knd:=bb X.prog X.w) (I.ok.hd hc) it d cD vs ep).done s _ _ ⟨by rw [← hl]; exact st,o,es,ho,r'⟩ λh' tk kk=>⟨rfl,I.turned (λb o hb e=>kk b o (by simpa using hb) e) f0 f1 f3 f4 f5⟩
 self:=λA i s Q E st h=>wpAny_pyIter_keyiter st h
def QJ (td:TE):TI:=λσ H R=>td σ H λx H1=>∃d kvs,x=.ref d/\H1 d=some (.dK kvs)/\∀o,R (S8 d o kvs) (upd H1 d (.cz o (.dK kvs)))
theorem vg {tg l:Expr}{tl:TE}(hl:PE X l tl):PI X tg l (QJ tl):=by
 intro pins s σ H R I h
 refine aJ (hl pins s σ H _ I h) λv s1 ⟨x,H1,I1,r1,q1⟩=>?_
 obtain ⟨d,kvs,e,hd,q⟩:=q1
 subst e
 cases (show v=Value.ref d from r1)
 obtain ⟨z,hm,vs,rel,dd⟩:=tQ I1.hok hd
 obtain ⟨o,es,ep,ho,r⟩:=id dd
 have hlen:kvs.length=vs.length:=rel.length
 obtain ⟨o',fq,I2⟩:=I1.freeze hd
 rw [ho] at fq
 cases fq
 refine wpAny_pyIter_dict (knd:=bb X.prog X.w) (ep:=ep) hm ⟨o,es,ho,r⟩ ?_
 have di:d<s1.heap.objs.size:=Heap.lt_size ho
 refine ⟨s1.heap.objs.size,[s1.heap.objs.size],_,_,_,rfl,I2.kept (t':=s1.toks) λb o e=>Heap.get?_push_of_some _ e,ET (es:=es) (ep:=ep) (o:=o) (kvs:=kvs) r.2.1 (Nat.ne_of_lt di),?_,?_,q o⟩
 . exact ⟨_,Heap.get?_push_size _ rfl,rfl,by rw [hlen]; rfl⟩
 . intro b hb
   have e:b=s1.heap.objs.size:=by simpa using hb
   subst e
   exact I2.nG (Nat.le_refl _) (I2.hok.fresh (Nat.le_refl _))
end
end L2
namespace PySem
open Sem (wp)
section
variable {prog:Program}{w:World}{A:Around}{E:Value->Shared->Prop}{s:Shared}
theorem nY {it t:Addr}{i:Nat}{items} {x:Value}{Q:Value->Shared->Prop}(hit:s.heap.IsTupleIter it t i) (ht:s.heap.IsTuple t items) (hx:items[i]?=some x)
 (hQ:∀h',h'.IsTupleIter it t (i+1)->Heap.SameBut it s.heap h'->Q x { s with heap:=h' }):wpAny (model prog w) A (Builtin.SmallTypes.nextOf (.ref it)) Q E s:=by
 obtain ⟨o,ho,hc,hd⟩:=id hit
 obtain ⟨ol,MH,_,nl,rM⟩:=ht
 unfold Builtin.SmallTypes.nextOf
 refine wpAny_bind (wpAny_callSpecial?_slot (name:=Str.ofString "__next__") hit.typeIs F.slot_tuple_iterator_next (wpAny_call_entry F.slot_tuple_iterator_next hit.typeIs F.entry_tuple_iterator_next ?_ (F.args_tuple_iterator_next_1 _)))
 show wpAny _ _ (field (.ref it) 0 >>= _) _ _ s
 refine wpAny_bind (wpAny_field ho hd (x:=.ref t) rfl ?_)
 show wpAny _ _ (if (Value.ref t == Value.none)=true then _ else _) _ _ s
 rw [if_neg (show ¬ ((Value.ref t == Value.none)=true) from Bool.false_ne_true)]
 show wpAny _ _ (field (.ref it) 1 >>= _) _ _ s
 refine wpAny_bind (wpAny_field ho hd (x:=.int i 0) rfl ?_)
 show wpAny _ _ (seqItems? (.ref t) >>= _) _ _ s
 refine wpAny_bind (wpAny_seqItems MH rM ?_)
 simp only [Int.toNat_natCast,hx]
 refine wpAny_bind (wpAny_setField ho hd (by simp) (wpAny_pure ⟨x,rfl,wpAny_pure (hQ _ ?_ (Heap.SameBut.update ..))⟩))
 exact ⟨_,Heap.get?_update_self _ ho (Obj.isFreed_of_fields (Obj.data_mapFields hd _)),(Obj.cls_mapFields ..).trans hc,by rw [Obj.data_mapFields hd]; simp [rawInt]⟩
theorem oW {it t:Addr}{i:Nat}{items} {Q:Value->Shared->Prop}(hh:A.handled=none) (hit:s.heap.IsTupleIter it t i) (ht:s.heap.IsTuple t items) (hx:items[i]?=none)
 (hE:∀h' e,Heap.ExtBut it s.heap h'->(∃o,h'.get? e=some o/\o.cls=.type "StopIteration")->E (.ref e) { s with heap:=h' }):wpAny (model prog w) A (Builtin.SmallTypes.nextOf (.ref it)) Q E s:=by
 obtain ⟨o,ho,hc,hd⟩:=id hit
 obtain ⟨ol,MH,_,nl,rM⟩:=ht
 unfold Builtin.SmallTypes.nextOf
 refine wpAny_bind (wpAny_callSpecial?_slot (name:=Str.ofString "__next__") hit.typeIs F.slot_tuple_iterator_next (wpAny_call_entry F.slot_tuple_iterator_next hit.typeIs F.entry_tuple_iterator_next ?_ (F.args_tuple_iterator_next_1 _)))
 show wpAny _ _ (field (.ref it) 0 >>= _) _ _ s
 refine wpAny_bind (wpAny_field ho hd (x:=.ref t) rfl ?_)
 show wpAny _ _ (if (Value.ref t == Value.none)=true then _ else _) _ _ s
 rw [if_neg (show ¬ ((Value.ref t == Value.none)=true) from Bool.false_ne_true)]
 show wpAny _ _ (field (.ref it) 1 >>= _) _ _ s
 refine wpAny_bind (wpAny_field ho hd (x:=.int i 0) rfl ?_)
 show wpAny _ _ (seqItems? (.ref t) >>= _) _ _ s
 refine wpAny_bind (wpAny_seqItems MH rM ?_)
 simp only [Int.toNat_natCast,hx]
 refine wpAny_bind (wpAny_rule (wpAny_bind (wpAny_setField ho hd (by simp) ?_)))
 show wpAny _ _ (newExc (.type "StopIteration") [] >>= _) _ _ _
 refine wpAny_bind ?_
 simp only [newExc,newTuple]
 refine wpAny_bind (wpAny_newObj_type ?_ (by size_fits))
 refine wpAny_bind (m:=firstArgMember _ _) (wpAny_of_eq (a:=Value.none) (by first | rfl | (simp only [firstArgMember]; rfl)) ?_)
 refine wpAny_newObj_type ?_ (by size_fits)
 simp only [raiseNew]
 refine wpAny_bind (wpAny_handled ?_)
 first | rw [show A.in1.handled=none from hh] | rw [hh]
 refine wpAny_bind (wpAny_pure (wpAny_throw ?_))
 exact hE _ _ (((Heap.SameBut.update ..).extBut.push _).push _) ⟨_,Heap.get?_push_size _ rfl,rfl⟩
end
def pV (tp:Bool) (h:Heap) (l:Addr) (xs:Array Value):Prop:=match tp with | true=>h.IsTuple l xs | false=>h.IsList l xs
def gJ (tp:Bool) (h:Heap) (i l:Addr) (k:Nat):Prop:=match tp with | true=>h.IsTupleIter i l k | false=>h.IsListIter i l k
theorem pV.at {tp:Bool}{h h':Heap}{l:Addr}{xs:Array Value}(x:pV tp h l xs) (k:∀o,h.get? l=some o->h'.get? l=some o):pV tp h' l xs:=by
 cases tp <;> (obtain ⟨o,e,r⟩:=x; exact ⟨o,k o e,r⟩)
theorem gJ.at {tp:Bool}{h h':Heap}{i l:Addr}{n:Nat}(x:gJ tp h i l n) (k:∀o,h.get? i=some o->h'.get? i=some o):gJ tp h' i l n:=by
 cases tp <;> (obtain ⟨o,e,r⟩:=x; exact ⟨o,k o e,r⟩)
theorem gJ.there {tp:Bool}{h:Heap}{i l:Addr}{n:Nat}(x:gJ tp h i l n):∃o,h.get? i=some o/\∃vs,o.data=.fields vs:=by
 cases tp <;> (obtain ⟨o,e,c,d⟩:=x; exact ⟨o,e,_,d⟩)
section
variable {prog:Program}{w:World}{A:Around}{E:Value->Shared->Prop}{s:Shared}{tp:Bool}
theorem qy {it l:Addr}{i:Nat}{items} {x:Value}{Q:Value->Shared->Prop}(hit:gJ tp s.heap it l i) (hl:pV tp s.heap l items) (hx:items[i]?=some x)
 (hQ:∀h',gJ tp h' it l (i+1)->Heap.SameBut it s.heap h'->Q x { s with heap:=h' }):wpAny (model prog w) A (Builtin.SmallTypes.nextOf (.ref it)) Q E s:=by
 cases tp
 . exact wpAny_nextOf_list_item hit hl hx hQ
 . exact nY hit hl hx hQ
theorem MI {it l:Addr}{i:Nat}{items} {Q:Value->Shared->Prop}(hh:A.handled=none) (hit:gJ tp s.heap it l i) (hl:pV tp s.heap l items) (hx:items[i]?=none)
 (hE:∀h' e,Heap.ExtBut it s.heap h'->(∃o,h'.get? e=some o/\o.cls=.type "StopIteration")->E (.ref e) { s with heap:=h' }):wpAny (model prog w) A (Builtin.SmallTypes.nextOf (.ref it)) Q E s:=by
 cases tp
 . exact wpAny_nextOf_list_end hh hit hl hx hE
 . exact oW hh hit hl hx hE
theorem aah {z TI TO i1 i2 l1 l2:Addr}{k:Nat}{xs ys:Array Value}{x y a b:Value}{Q:Option Value->Shared->Prop}(nd:[z,TI,TO,i1,i2].Nodup) (n1:l1∉[z,TI,TO,i1,i2]) (n2:l2∉[z,TI,TO,i1,i2])
 (hz:IsZip s.heap z TI TO .none) (lj:IsPair s.heap TI (.ref i1) (.ref i2)) (pW:IsPair s.heap TO a b) (h1:gJ tp s.heap i1 l1 k) (h2:gJ tp s.heap i2 l2 k) (fj:pV tp s.heap l1 xs) (c8:pV tp s.heap l2 ys) (hx:xs[k]?=some x) (hy:ys[k]?=some y)
 (hQ:∀h',IsZip h' z TI TO (rawInt s.heap.objs.size)->IsPair h' TO x y->gJ tp h' i1 l1 (k+1)->gJ tp h' i2 l2 (k+1)->IsPair h' s.heap.objs.size x y->
  (∀c o,c≠z->c≠TO->c≠i1->c≠i2->s.heap.get? c=some o->h'.get? c=some o)->Q (some (.ref s.heap.objs.size)) { s with heap:=h' }):wpAny (model prog w) A (pyNext (.ref z)) Q E s:=by
 simp only [List.nodup_cons,List.mem_cons,List.not_mem_nil,or_false,not_or] at nd n1 n2
 obtain ⟨⟨EV,oP,oQ,rN⟩,⟨TITO,TIi1,TIi2⟩,⟨TOi1,TOi2⟩,i12,_⟩:=nd
 obtain ⟨l1z,MJ,l1TO,l1i1,l1i2⟩:=n1
 obtain ⟨l2z,Wh,l2TO,l2i1,l2i2⟩:=n2
 have hT:s.TypeIs (.ref z) "zip":=⟨_,hz,rfl⟩
 unfold pyNext
 refine wpAny_bind (wpAny_attempt (wpAny_callSpecial?_slot (name:=Str.ofString "__next__") hT F.slot_zip_next (wpAny_call_entry F.slot_zip_next hT F.entry_zip_next ?_ (F.args_zip_next_1 _))))
 show wpAny _ _ (field (.ref z) 2 >>= _) _ _ _
 refine wpAny_bind (wpAny_field hz rfl (x:=.bool false) rfl ?_)
 show wpAny _ _ (field (.ref z) 3 >>= _) _ _ _
 refine wpAny_bind (wpAny_field hz rfl (x:=.ref TI) rfl ?_)
 refine wpAny_bind (wpAny_seqItems lj rfl ?_)
 show wpAny _ _ (Builtin.SmallTypes.ownedTupleIsFree (.ref z) >>= _) _ _ _
 refine wpAny_bind ?_
 unfold Builtin.SmallTypes.ownedTupleIsFree
 refine wpAny_bind (wpAny_field hz rfl (x:=.none) rfl (wpAny_pure ?_))
 simp only [if_true]
 refine wpAny_bind (wpAny_rule ?_)
 refine wpAny_bind (wpAny_field hz rfl (x:=.ref TO) rfl ?_)
 refine wpAny_bind (wpAny_setField_rec hz (by simp) λkI pX oK=>?_)
 replace pX:IsZip kI z TI TO .ellipsis:=pX
 refine wpAny_bind ?_
 simp only [List.zipIdx_cons,List.zipIdx_nil,List.forIn_cons,List.forIn_nil]
 have k1:∀c o,c≠z->s.heap.get? c=some o->kI.get? c=some o:=λc o n e=>oK.extBut _ _ n e
 refine wpAny_bind (wpAny_bind (wpAny_onRaise ?_))
 show wpAny _ _ (Builtin.SmallTypes.nextOf (.ref i1) >>= _) _ _ _
 refine wpAny_bind (qy (h1.at λo e=>k1 _ o (Ne.symm oQ) e) (fj.at λo e=>k1 _ o l1z e) hx λpf MK wG=>wpAny_pure ?_)
 have k2:∀c o,c≠i1->kI.get? c=some o->pf.get? c=some o:=λc o n e=>wG.extBut _ _ n e
 have yZ:IsPair pf TO a b:=k2 _ _ TOi1 (k1 _ _ (Ne.symm oP) pW)
 refine wpAny_bind (wpAny_seqItems yZ rfl ?_)
 refine wpAny_bind (wpAny_updateSeq_pair yZ λu0 sQ wH=>?_)
 replace sQ:IsPair u0 TO x b:=sQ
 have k3:∀c o,c≠TO->pf.get? c=some o->u0.get? c=some o:=λc o n e=>wH.extBut _ _ n e
 refine wpAny_bind (wpAny_letGo (wpAny_pure ?_))
 refine wpAny_bind (wpAny_bind (wpAny_onRaise ?_))
 show wpAny _ _ (Builtin.SmallTypes.nextOf (.ref i2) >>= _) _ _ _
 refine wpAny_bind (qy (h2.at λo e=>k3 _ o (Ne.symm TOi2) (k2 _ o (Ne.symm i12) (k1 _ o (Ne.symm rN) e))) (c8.at λo e=>k3 _ o l2TO (k2 _ o l2i1 (k1 _ o l2z e))) hy λCT ML EW=>wpAny_pure ?_)
 have k4:∀c o,c≠i2->u0.get? c=some o->CT.get? c=some o:=λc o n e=>EW.extBut _ _ n e
 have y0:IsPair CT TO x b:=k4 _ _ TOi2 sQ
 refine wpAny_bind (wpAny_seqItems y0 rfl ?_)
 refine wpAny_bind (wpAny_updateSeq_pair y0 λhZ nZ EX=>?_)
 replace nZ:IsPair hZ TO x y:=nZ
 have k5:∀c o,c≠TO->CT.get? c=some o->hZ.get? c=some o:=λc o n e=>EX.extBut _ _ n e
 refine wpAny_bind (wpAny_letGo (wpAny_pure (wpAny_pure ?_)))
 refine wpAny_bind (wpAny_seqItems nZ rfl ?_)
 refine wpAny_bind (wpAny_newTuple ?_)
 have hsz:hZ.objs.size=s.heap.objs.size:=by rw [EX.1,EW.1,wH.1,wG.1,oK.1]
 have EY:IsZip hZ z TI TO .ellipsis:=k5 _ _ oP (k4 _ _ rN (k3 _ _ oP (k2 _ _ oQ pX)))
 have MM:∀c o,c≠z->c≠TO->c≠i1->c≠i2->s.heap.get? c=some o->hZ.get? c=some o:=λc o c1 c2 c3 c4 e=>k5 _ _ c2 (k4 _ _ c4 (k3 _ _ c2 (k2 _ _ c3 (k1 _ _ c1 e))))
 have MN:gJ tp hZ i1 l1 (k+1):=MK.at λo e=>k5 _ _ (Ne.symm TOi1) (k4 _ _ i12 (k3 _ _ (Ne.symm TOi1) e))
 have MO:gJ tp hZ i2 l2 (k+1):=ML.at λo e=>k5 _ _ (Ne.symm TOi2) e
 have y4:z<hZ.objs.size:=Heap.lt_size EY
 show wpAny _ _ (Builtin.SmallTypes.ownedTupleHandOut (.ref z) (.ref hZ.objs.size) >>= _) _ _ _
 refine wpAny_bind ?_
 unfold Builtin.SmallTypes.ownedTupleHandOut
 have MP:IsZip (hZ.push { cls:=.type "tuple",data:=.seq #[x,y] }) z TI TO .ellipsis:=Heap.get?_push_of_some _ EY
 refine wpAny_bind (wpAny_setField_rec MP (by simp) λWi y6 EZ=>?_)
 replace y6:IsZip Wi z TI TO (rawInt hZ.objs.size):=y6
 refine wpAny_setField_rec y6 (by simp) λDe uy E3=>?_
 replace uy:IsZip De z TI TO (rawInt hZ.objs.size):=uy
 have up:∀c o,c≠z->hZ.get? c=some o->De.get? c=some o:=λc o c1 e=>E3.extBut _ _ c1 (EZ.extBut _ _ c1 (Heap.get?_push_of_some _ e))
 have E4:IsPair De hZ.objs.size x y:=E3.extBut _ _ (Nat.ne_of_gt y4) (EZ.extBut _ _ (Nat.ne_of_gt y4) (Heap.get?_push_size _ rfl))
 rw [hsz] at uy E4
 refine wpAny_pure ⟨.ref hZ.objs.size,rfl,wpAny_pure ?_⟩
 rw [hsz]
 exact hQ De uy (up _ _ (Ne.symm oP) nZ) (MN.at λo e=>up _ o (Ne.symm oQ) e) (MO.at λo e=>up _ o (Ne.symm rN) e) E4 λc o c1 c2 c3 c4 e=>up c o c1 (MM c o c1 c2 c3 c4 e)
theorem Kx {z TI TO i1 i2 l1:Addr}{k:Nat}{xs:Array Value}{a b:Value}{Q:Option Value->Shared->Prop}(hh:A.handled=none) (nd:[z,TI,TO,i1,i2].Nodup) (n1:l1∉[z,TI,TO,i1,i2])
 (hz:IsZip s.heap z TI TO .none) (lj:IsPair s.heap TI (.ref i1) (.ref i2)) (h1:gJ tp s.heap i1 l1 k) (fj:pV tp s.heap l1 xs) (hx:xs[k]?=none)
 (hQ:∀h',(∀c o,c≠z->c≠TO->c≠i1->c≠i2->s.heap.get? c=some o->h'.get? c=some o)->Q none { s with heap:=h' }):wpAny (model prog w) A (pyNext (.ref z)) Q E s:=by
 simp only [List.nodup_cons,List.mem_cons,List.not_mem_nil,or_false,not_or] at nd n1
 obtain ⟨⟨EV,oP,oQ,rN⟩,⟨TITO,TIi1,TIi2⟩,⟨TOi1,TOi2⟩,i12,_⟩:=nd
 obtain ⟨l1z,MJ,l1TO,l1i1,l1i2⟩:=n1
 have hT:s.TypeIs (.ref z) "zip":=⟨_,hz,rfl⟩
 unfold pyNext
 refine wpAny_bind (wpAny_attempt (wpAny_callSpecial?_slot (name:=Str.ofString "__next__") hT F.slot_zip_next (wpAny_call_entry F.slot_zip_next hT F.entry_zip_next ?_ (F.args_zip_next_1 _))))
 show wpAny _ _ (field (.ref z) 2 >>= _) _ _ _
 refine wpAny_bind (wpAny_field hz rfl (x:=.bool false) rfl ?_)
 show wpAny _ _ (field (.ref z) 3 >>= _) _ _ _
 refine wpAny_bind (wpAny_field hz rfl (x:=.ref TI) rfl ?_)
 refine wpAny_bind (wpAny_seqItems lj rfl ?_)
 show wpAny _ _ (Builtin.SmallTypes.ownedTupleIsFree (.ref z) >>= _) _ _ _
 refine wpAny_bind ?_
 unfold Builtin.SmallTypes.ownedTupleIsFree
 refine wpAny_bind (wpAny_field hz rfl (x:=.none) rfl (wpAny_pure ?_))
 simp only [if_true]
 refine wpAny_bind (wpAny_rule ?_)
 refine wpAny_bind (wpAny_field hz rfl (x:=.ref TO) rfl ?_)
 refine wpAny_bind (wpAny_setField_rec hz (by simp) λkI pX oK=>?_)
 replace pX:IsZip kI z TI TO .ellipsis:=pX
 refine wpAny_bind ?_
 simp only [List.zipIdx_cons,List.zipIdx_nil,List.forIn_cons,List.forIn_nil]
 refine wpAny_bind (wpAny_bind (wpAny_onRaise ?_))
 show wpAny _ _ (Builtin.SmallTypes.nextOf (.ref i1) >>= _) _ _ _
 refine wpAny_bind (MI (by first | exact hh | rfl) (h1.at λo e=>oK.extBut _ o (Ne.symm oQ) e) (fj.at λo e=>oK.extBut _ o l1z e) hx λpf e wG he=>?_)
 obtain ⟨oe,MQ,yR⟩:=he
 have S9:IsZip pf z TI TO .ellipsis:=wG _ _ oQ pX
 have hez:e≠z:=λx=>by subst x; rw [S9] at MQ; cases MQ; simp at yR
 refine wpAny_setField_rec S9 (by simp) λu0 _ wH=>?_
 refine wpAny_bind (wpAny_isInstance (T:="StopIteration") (b:=true) ⟨oe,wH.extBut _ _ hez MQ,yR⟩ isSubtype_stop ?_)
 exact wpAny_pure (hQ _ λc o c1 _ c3 _ x=>wH.extBut _ _ c1 (wG _ _ c3 (oK.extBut _ _ c1 x)))
end
end PySem
namespace PySem
section
variable {prog:Program}{w:World}{A:Around}{E:Value->Shared->Prop}{s:Shared}{tp:Bool}
end
end PySem
namespace L2
open PySem PySem.Spec PyProof.Rows
section
variable {X:Cx}
end
end L2
namespace PySem
open PySem PySem.Spec PyProof.Rows
section
variable {prog:Program}{w:World}{A:Around}{E:Value->Shared->Prop}{s:Shared}{tp tq:Bool}
theorem Ky {z TI TO i1 i2 l1 l2:Addr}{k:Nat}{xs ys:Array Value}{x y a b:Value}{Q:Option Value->Shared->Prop}(nd:[z,TI,TO,i1,i2].Nodup) (n1:l1∉[z,TI,TO,i1,i2]) (n2:l2∉[z,TI,TO,i1,i2])
 (hz:IsZip s.heap z TI TO .none) (lj:IsPair s.heap TI (.ref i1) (.ref i2)) (pW:IsPair s.heap TO a b) (h1:gJ tp s.heap i1 l1 k) (h2:gJ tq s.heap i2 l2 k) (fj:pV tp s.heap l1 xs) (c8:pV tq s.heap l2 ys) (hx:xs[k]?=some x) (hy:ys[k]?=some y)
 (hQ:∀h',IsZip h' z TI TO (rawInt s.heap.objs.size)->IsPair h' TO x y->gJ tp h' i1 l1 (k+1)->gJ tq h' i2 l2 (k+1)->IsPair h' s.heap.objs.size x y->
  (∀c o,c≠z->c≠TO->c≠i1->c≠i2->s.heap.get? c=some o->h'.get? c=some o)->Q (some (.ref s.heap.objs.size)) { s with heap:=h' }):wpAny (model prog w) A (pyNext (.ref z)) Q E s:=by
 simp only [List.nodup_cons,List.mem_cons,List.not_mem_nil,or_false,not_or] at nd n1 n2
 obtain ⟨⟨EV,oP,oQ,rN⟩,⟨TITO,TIi1,TIi2⟩,⟨TOi1,TOi2⟩,i12,_⟩:=nd
 obtain ⟨l1z,MJ,l1TO,l1i1,l1i2⟩:=n1
 obtain ⟨l2z,Wh,l2TO,l2i1,l2i2⟩:=n2
 have hT:s.TypeIs (.ref z) "zip":=⟨_,hz,rfl⟩
 unfold pyNext
 refine wpAny_bind (wpAny_attempt (wpAny_callSpecial?_slot (name:=Str.ofString "__next__") hT F.slot_zip_next (wpAny_call_entry F.slot_zip_next hT F.entry_zip_next ?_ (F.args_zip_next_1 _))))
 show wpAny _ _ (field (.ref z) 2 >>= _) _ _ _
 refine wpAny_bind (wpAny_field hz rfl (x:=.bool false) rfl ?_)
 show wpAny _ _ (field (.ref z) 3 >>= _) _ _ _
 refine wpAny_bind (wpAny_field hz rfl (x:=.ref TI) rfl ?_)
 refine wpAny_bind (wpAny_seqItems lj rfl ?_)
 show wpAny _ _ (Builtin.SmallTypes.ownedTupleIsFree (.ref z) >>= _) _ _ _
 refine wpAny_bind ?_
 unfold Builtin.SmallTypes.ownedTupleIsFree
 refine wpAny_bind (wpAny_field hz rfl (x:=.none) rfl (wpAny_pure ?_))
 simp only [if_true]
 refine wpAny_bind (wpAny_rule ?_)
 refine wpAny_bind (wpAny_field hz rfl (x:=.ref TO) rfl ?_)
 refine wpAny_bind (wpAny_setField_rec hz (by simp) λkI pX oK=>?_)
 replace pX:IsZip kI z TI TO .ellipsis:=pX
 refine wpAny_bind ?_
 simp only [List.zipIdx_cons,List.zipIdx_nil,List.forIn_cons,List.forIn_nil]
 have k1:∀c o,c≠z->s.heap.get? c=some o->kI.get? c=some o:=λc o n e=>oK.extBut _ _ n e
 refine wpAny_bind (wpAny_bind (wpAny_onRaise ?_))
 show wpAny _ _ (Builtin.SmallTypes.nextOf (.ref i1) >>= _) _ _ _
 refine wpAny_bind (qy (h1.at λo e=>k1 _ o (Ne.symm oQ) e) (fj.at λo e=>k1 _ o l1z e) hx λpf MK wG=>wpAny_pure ?_)
 have k2:∀c o,c≠i1->kI.get? c=some o->pf.get? c=some o:=λc o n e=>wG.extBut _ _ n e
 have yZ:IsPair pf TO a b:=k2 _ _ TOi1 (k1 _ _ (Ne.symm oP) pW)
 refine wpAny_bind (wpAny_seqItems yZ rfl ?_)
 refine wpAny_bind (wpAny_updateSeq_pair yZ λu0 sQ wH=>?_)
 replace sQ:IsPair u0 TO x b:=sQ
 have k3:∀c o,c≠TO->pf.get? c=some o->u0.get? c=some o:=λc o n e=>wH.extBut _ _ n e
 refine wpAny_bind (wpAny_letGo (wpAny_pure ?_))
 refine wpAny_bind (wpAny_bind (wpAny_onRaise ?_))
 show wpAny _ _ (Builtin.SmallTypes.nextOf (.ref i2) >>= _) _ _ _
 refine wpAny_bind (qy (h2.at λo e=>k3 _ o (Ne.symm TOi2) (k2 _ o (Ne.symm i12) (k1 _ o (Ne.symm rN) e))) (c8.at λo e=>k3 _ o l2TO (k2 _ o l2i1 (k1 _ o l2z e))) hy λCT ML EW=>wpAny_pure ?_)
 have k4:∀c o,c≠i2->u0.get? c=some o->CT.get? c=some o:=λc o n e=>EW.extBut _ _ n e
 have y0:IsPair CT TO x b:=k4 _ _ TOi2 sQ
 refine wpAny_bind (wpAny_seqItems y0 rfl ?_)
 refine wpAny_bind (wpAny_updateSeq_pair y0 λhZ nZ EX=>?_)
 replace nZ:IsPair hZ TO x y:=nZ
 have k5:∀c o,c≠TO->CT.get? c=some o->hZ.get? c=some o:=λc o n e=>EX.extBut _ _ n e
 refine wpAny_bind (wpAny_letGo (wpAny_pure (wpAny_pure ?_)))
 refine wpAny_bind (wpAny_seqItems nZ rfl ?_)
 refine wpAny_bind (wpAny_newTuple ?_)
 have hsz:hZ.objs.size=s.heap.objs.size:=by rw [EX.1,EW.1,wH.1,wG.1,oK.1]
 have EY:IsZip hZ z TI TO .ellipsis:=k5 _ _ oP (k4 _ _ rN (k3 _ _ oP (k2 _ _ oQ pX)))
 have MM:∀c o,c≠z->c≠TO->c≠i1->c≠i2->s.heap.get? c=some o->hZ.get? c=some o:=λc o c1 c2 c3 c4 e=>k5 _ _ c2 (k4 _ _ c4 (k3 _ _ c2 (k2 _ _ c3 (k1 _ _ c1 e))))
 have MN:gJ tp hZ i1 l1 (k+1):=MK.at λo e=>k5 _ _ (Ne.symm TOi1) (k4 _ _ i12 (k3 _ _ (Ne.symm TOi1) e))
 have MO:gJ tq hZ i2 l2 (k+1):=ML.at λo e=>k5 _ _ (Ne.symm TOi2) e
 have y4:z<hZ.objs.size:=Heap.lt_size EY
 show wpAny _ _ (Builtin.SmallTypes.ownedTupleHandOut (.ref z) (.ref hZ.objs.size) >>= _) _ _ _
 refine wpAny_bind ?_
 unfold Builtin.SmallTypes.ownedTupleHandOut
 have MP:IsZip (hZ.push { cls:=.type "tuple",data:=.seq #[x,y] }) z TI TO .ellipsis:=Heap.get?_push_of_some _ EY
 refine wpAny_bind (wpAny_setField_rec MP (by simp) λWi y6 EZ=>?_)
 replace y6:IsZip Wi z TI TO (rawInt hZ.objs.size):=y6
 refine wpAny_setField_rec y6 (by simp) λDe uy E3=>?_
 replace uy:IsZip De z TI TO (rawInt hZ.objs.size):=uy
 have up:∀c o,c≠z->hZ.get? c=some o->De.get? c=some o:=λc o c1 e=>E3.extBut _ _ c1 (EZ.extBut _ _ c1 (Heap.get?_push_of_some _ e))
 have E4:IsPair De hZ.objs.size x y:=E3.extBut _ _ (Nat.ne_of_gt y4) (EZ.extBut _ _ (Nat.ne_of_gt y4) (Heap.get?_push_size _ rfl))
 rw [hsz] at uy E4
 refine wpAny_pure ⟨.ref hZ.objs.size,rfl,wpAny_pure ?_⟩
 rw [hsz]
 exact hQ De uy (up _ _ (Ne.symm oP) nZ) (MN.at λo e=>up _ o (Ne.symm oQ) e) (MO.at λo e=>up _ o (Ne.symm rN) e) E4 λc o c1 c2 c3 c4 e=>up c o c1 (MM c o c1 c2 c3 c4 e)
end
end PySem
namespace L2
open PySem PySem.Spec PyProof.Rows
def ZK (K:W.Frag) (tp:Bool) (H:Hp) (a:Addr) (xs:List V):Prop:=match tp with | true=>aR K H a xs | false=>aq K H a xs
section
variable {X:Cx}{pins:List (Addr×Obj)}{σ:St}{H:Hp}{s:Shared}{tp:Bool}{a:Addr}{xs ys:List V}
theorem Inv.zk (I:Inv X pins σ H s) (h:ZK X.K tp H a xs):∃its:List Value,Vals xs its/\pV tp s.heap a its.toArray/\xs.length<=sizeLine:=by
 cases tp
 . obtain ⟨its,r,pl,z⟩:=I.list h
   exact ⟨its,r,pl.isList,z⟩
 . obtain ⟨its,r,⟨o,e,c,n,d⟩,z⟩:=I.tuple h
   exact ⟨its,r,⟨o,e,c,n,d⟩,z⟩
theorem Inv.E5 (I:Inv X pins σ H s) (h:ZK X.K tp H a xs) (h':ZK X.K tp H a ys):xs=ys:=by
 cases tp
 . exact I.nF h h'
 . exact I.lB h h'
theorem Inv.y8 {fp:List Addr}(I:Inv X pins σ H s) (h:ZK X.K tp H a xs) (hf:∀b∈fp,iT X pins H b):a∉fp:=λm=>by
 have own:∀o,X.K.lookup a=some o->False:=λo e=>by
  have eb:=I.ok.mod.kin a o e
  obtain ⟨_,_,_,h4,_⟩:=hf a m
  rcases h4 with h4 | h4
  . exact I.ok.noex a o eb h4
  . exact absurd (Nat.lt_of_lt_of_le (Heap.lt_size eb) (Nat.le_trans I.ok.bsz h4)) (Nat.lt_irrefl _)
 have aS:=(hf a m).1
 cases tp
 . rcases h with (h | ⟨o,h⟩) | ⟨o,_,_,e,_⟩
   . rw [aS] at h; cases h
   . rw [aS] at h; cases h
   . exact own o e
 . rcases h with (h | ⟨o,h⟩) | ⟨o,_,_,e,_⟩
   . rw [aS] at h; cases h
   . rw [aS] at h; cases h
   . exact own o e
end
def Itm (K:W.Frag) (tp tq:Bool) (a b:Addr):It:=
 ⟨λi H=>∃xs ys x y,ZK K tp H a xs/\ZK K tq H b ys/\xs[i]?=some x/\ys[i]?=some y,λi H v H'=>∃T x y,v=.ref T/\H T=none/\H'=upd H T (.tup [x,y])/\(∀xs,ZK K tp H a xs->xs[i]?=some x)/\∀ys,ZK K tq H b ys->ys[i]?=some y,
  λi H=>∃xs,ZK K tp H a xs/\xs.length<=i⟩
theorem Kz {P:Program}{w:World}{K:W.Frag}{es:List Expr}{kk:Nat}{pp:Pos}{tp tq:Bool}{a b z TI TO i1 i2:Addr}(nd:[z,TI,TO,i1,i2].Nodup) :
 Turn P w K (.Tuple es kk pp) (Itm K tp tq a b) [z,TI,TO,i1,i2] z (λi h=>IsZip h z TI TO .none/\IsPair h TI (.ref i1) (.ref i2)/\(∃a b,IsPair h TO a b)/\gJ tp h i1 a i/\gJ tq h i2 b i) where
 mem:=by simp
 obj:=λi h st c hc=>by
  obtain ⟨hz,lj,⟨u,v,pW⟩,h1,h2⟩:=st
  simp only [List.mem_cons,List.not_mem_nil,or_false] at hc
  rcases hc with rfl | rfl | rfl | rfl | rfl
  . exact ⟨_,hz,λv z=>by cases (show Data.fields _=Data.cell v from z)⟩
  . exact ⟨_,lj,λv z=>by cases (show Data.seq _=Data.cell v from z)⟩
  . exact ⟨_,pW,λv z=>by cases (show Data.seq _=Data.cell v from z)⟩
  . obtain ⟨o,e,vs,d⟩:=h1.there
    exact ⟨o,e,λv z=>by rw [d] at z; cases z⟩
  . obtain ⟨o,e,vs,d⟩:=h2.there
    exact ⟨o,e,λv z=>by rw [d] at z; cases z⟩
 keep:=λi h h' st k=>by
  obtain ⟨hz,lj,⟨u,v,pW⟩,h1,h2⟩:=st
  exact ⟨k z (by simp) _ hz,k TI (by simp) _ lj,⟨u,v,k TO (by simp) _ pW⟩,h1.at λo e=>k i1 (by simp) o e,h2.at λo e=>k i2 (by simp) o e⟩
 item:=by
  intro X hP hw hK hc i pins s σ H E I hf st hg
  subst hP hw hK
  obtain ⟨xs,ys,x,y,rO,MR,hx,hy⟩:=hg
  obtain ⟨its,rv,p,EI⟩:=I.zk rO
  obtain ⟨its',pY,p',aeZ⟩:=I.zk MR
  obtain ⟨u,hu,ru⟩:=rv.get hx
  obtain ⟨v,hv,rv2⟩:=pY.get hy
  obtain ⟨hz,lj,⟨c,d,pW⟩,h1,h2⟩:=st
  have na:a∉[z,TI,TO,i1,i2]:=I.y8 rO hf
  have nb:b∉[z,TI,TO,i1,i2]:=I.y8 MR hf
  refine Ky nd na nb hz lj pW h1 h2 p p' (x:=u) (y:=v) (by simpa using hu) (by simpa using hv) λh' a1 a2 a3 a4 a5 kk=>?_
  refine ⟨.ref s.heap.objs.size,rfl,?_⟩
  refine wpAny_letOwnedTupleGo_zip a1 λh3 MC Im=>?_
  have Ta:=nd
  simp only [List.nodup_cons,List.mem_cons,List.not_mem_nil,or_false,not_or] at Ta
  obtain ⟨⟨EV,oP,oQ,rN⟩,⟨TITO,TIi1,TIi2⟩,⟨TOi1,TOi2⟩,i12,_⟩:=Ta
  have lt:∀c∈[z,TI,TO,i1,i2],c≠s.heap.objs.size:=λc hc=>by
   simp only [List.mem_cons,List.not_mem_nil,or_false] at hc
   rcases hc with rfl | rfl | rfl | rfl | rfl
   . exact Nat.ne_of_lt (Heap.lt_size hz)
   . exact Nat.ne_of_lt (Heap.lt_size lj)
   . exact Nat.ne_of_lt (Heap.lt_size pW)
   . obtain ⟨o,e,_⟩:=h1.there
     exact Nat.ne_of_lt (Heap.lt_size e)
   . obtain ⟨o,e,_⟩:=h2.there
     exact Nat.ne_of_lt (Heap.lt_size e)
  have k3:∀c o,c≠z->h'.get? c=some o->h3.get? c=some o:=λc o n e=>Im.extBut _ _ n e
  have I1:Inv X pins σ (upd H s.heap.objs.size (.tup [x,y])) { s with heap:=h3,toks:=s.toks }:=I.qt (its:=[u,v]) hf (λb o hb e1=>by
   simp only [List.mem_cons,List.not_mem_nil,or_false,not_or] at hb
   exact k3 b o hb.1 (kk b o hb.1 hb.2.2.1 hb.2.2.2.1 hb.2.2.2.2 e1)) (Nat.le_refl _) ⟨_,k3 _ _ (Ne.symm (lt z (by simp))) a5,rfl,_,rfl⟩ (.cons ru (.cons rv2 .nil)) (by show 2<=sizeLine; decide)
  have fr:H s.heap.objs.size=none:=I.hok.fresh (Nat.le_refl _)
  refine ⟨.ref s.heap.objs.size,_,I1,rfl,⟨s.heap.objs.size,x,y,rfl,fr,rfl,λpM h=>by rw [I.E5 h rO]; exact hx,λyK h=>by rw [I.E5 h MR]; exact hy⟩,⟨MC,k3 _ _ (Ne.symm EV) (kk _ _ (Ne.symm EV) TITO TIi1 TIi2 lj),⟨_,_,k3 _ _ (Ne.symm oP) a2⟩,a3.at λo e=>k3 _ o (Ne.symm oQ) e,a4.at λo e=>k3 _ o (Ne.symm rN) e⟩,λb hb=>?_⟩
  rw [ai (lt b hb)]
  exact (hf b hb).1
 done:=by
  intro X hP hw hK hc i pins s σ H E I hf st hg
  subst hP hw hK
  obtain ⟨xs,rO,hx⟩:=hg
  obtain ⟨its,rv,p,EI⟩:=I.zk rO
  obtain ⟨hz,lj,⟨c,d,pW⟩,h1,h2⟩:=st
  have hl:=rv.length
  have na:a∉[z,TI,TO,i1,i2]:=I.y8 rO hf
  exact Kx (I.ok.hd hc) nd na hz lj h1 p (a:=.none) (b:=.none) (by simp; omega) λh' kk=>⟨rfl,I.qr (t':=s.toks) hf λb o hb e1=>by
   simp only [List.mem_cons,List.not_mem_nil,or_false,not_or] at hb
   exact kk b o hb.1 hb.2.2.1 hb.2.2.2.1 hb.2.2.2.2 e1⟩
 self:=λ_ _ _ _ _ st h=>wpAny_pyIter_zip st.1 h
section
variable {X:Cx}
end
end L2
namespace PySem
open PySem.Spec PyProof.Rows
section
variable {prog:Program}{w:World}{A:Around}{E:Value->Shared->Prop}{s:Shared}{z TI TO i1 i2:Addr}{m1 m2:List Addr}{n1 n2:Nat}{P1 P2:Nat->Value->Prop}{Tb qZ:Nat->Heap->Prop}
end
end PySem
namespace PySem
open PySem.Spec PyProof.Rows
section
variable {prog:Program}{w:World}{K:Type}[DecidableEq K] {knd:KeyKind prog w K}{A:Around}{E:Value->Shared->Prop}{s:Shared}
end
namespace F
end F
end PySem
namespace PySem
open PySem.Spec PyProof.Rows
section
variable {prog:Program}{w:World}{K:Type}[DecidableEq K] {knd:KeyKind prog w K}{A:Around}{R:Result->Shared->Prop}{z TI TO i1 i2:Addr}{m1 m2:List Addr}{n1 n2:Nat}{P1 P2:Nat->Value->Prop}{Tb qZ:Nat->Heap->Prop}
end
section
variable {prog:Program}{w:World}{K:Type}[DecidableEq K] {knd:KeyKind prog w K}{A:Around}{E:Value->Shared->Prop}{s:Shared}{z TI TO i1 i2:Addr}{m1 m2:List Addr}{n1 n2:Nat}{P1 P2:Nat->Value->Prop}{Tb qZ:Nat->Heap->Prop}
end
end PySem
namespace PySem
open PySem.Spec PyProof.Rows
abbrev vh (h:Heap) (o:Obj):Heap:=h.push o
abbrev Df (h:Heap) (o:Obj) (l2:Addr):Heap:=(vh h o).push { cls:=.type "tuple_iterator",data:=.fields #[.ref l2,.int 0 0] }
abbrev Dg (h:Heap) (o:Obj) (l2:Addr):Heap:=(Df h o l2).push { cls:=.type "tuple",data:=.seq #[.ref h.objs.size,.ref (vh h o).objs.size] }
abbrev y9 (h:Heap) (o:Obj) (l2:Addr):Heap:=(Dg h o l2).push { cls:=.type "tuple",data:=.seq #[.none,.none] }
abbrev jr (h:Heap) (o:Obj) (l2:Addr):Heap:=(y9 h o l2).push { cls:=.type "zip",data:=.fields #[.none,.bool false,.bool false,.ref (Df h o l2).objs.size,.ref (Dg h o l2).objs.size] }
abbrev qz (l:Addr):Obj:={ cls:=.type "list_iterator",data:=.fields #[.ref l,.int 0 0] }
theorem Dh (l1 l2:Addr) (xs ys:Array Value) :
 Meets (Builtin.«zip.__new__» ⟨[.type "zip",.ref l1,.ref l2],[]⟩) (λ_ R s=>s.heap.IsList l1 xs/\s.heap.IsTuple l2 ys/\R (.ok (.ret (.ref (y9 s.heap (qz l1) l2).objs.size))) { s with heap:=jr s.heap (qz l1) l2 }):=
 .of_wp λprog w A R s h=>by
  obtain ⟨hp,g,d,tk,os⟩:=s; obtain ⟨fj,c8,h⟩:=h
  have ae0:=sub_zip
  have hL1:Heap.IsList (Shared.heap ⟨hp,g,d,tk,os⟩) l1 xs:=fj
  have hL2:Heap.IsTuple (Shared.heap ⟨hp.push { cls:=.type "list_iterator",data:=.fields #[.ref l1,.int 0 0] },g,d,tk,os⟩) l2 ys:=Heap.IsTuple.push c8 _
  wp_walk using wpAny_pyIter_list hL1,wpAny_pyIter_tuple hL2
  exact ⟨_,rfl,h⟩
section
variable {prog:Program}{w:World}{A:Around}{E:Value->Shared->Prop}{s:Shared}
theorem KA (h:Heap) (o:Obj) (l2:Addr) (hg:(vh h o).get? h.objs.size=some o):IsZip (jr h o l2) (h.objs.size+4) (h.objs.size+2) (h.objs.size+3) .none/\IsPair (jr h o l2) (h.objs.size+2) (.ref h.objs.size) (.ref (h.objs.size+1))/\IsPair (jr h o l2) (h.objs.size+3) .none .none/\
 (jr h o l2).get? h.objs.size=some o/\(jr h o l2).IsTupleIter (h.objs.size+1) l2 0/\(∀c q,h.get? c=some q->(jr h o l2).get? c=some q)/\(y9 h o l2).objs.size=h.objs.size+4:=by
 have z1:(vh h o).objs.size=h.objs.size+1:=Heap.size_push ..
 have z2:(Df h o l2).objs.size=h.objs.size+2:=by rw [Heap.size_push,z1]
 have z3:(Dg h o l2).objs.size=h.objs.size+3:=by rw [Heap.size_push,z2]
 have z4:(y9 h o l2).objs.size=h.objs.size+4:=by rw [Heap.size_push,z3]
 have g5:(jr h o l2).get? (y9 h o l2).objs.size=some _:=Heap.get?_push_size _ rfl
 have g4:(jr h o l2).get? (Dg h o l2).objs.size=some _:=Heap.get?_push_of_some _ (Heap.get?_push_size _ rfl)
 have g3:(jr h o l2).get? (Df h o l2).objs.size=some _:=Heap.get?_push_of_some _ (Heap.get?_push_of_some _ (Heap.get?_push_size _ rfl))
 have g2:(jr h o l2).get? (vh h o).objs.size=some _:=Heap.get?_push_of_some _ (Heap.get?_push_of_some _ (Heap.get?_push_of_some _ (Heap.get?_push_size _ rfl)))
 have g1:(jr h o l2).get? h.objs.size=some _:=Heap.get?_push_of_some _ (Heap.get?_push_of_some _ (Heap.get?_push_of_some _ (Heap.get?_push_of_some _ hg)))
 rw [z2,z3,z4] at g5
 rw [z1,z2] at g3
 rw [z3] at g4
 rw [z1] at g2
 exact ⟨g5,g3,g4,g1,⟨_,g2,rfl,rfl⟩,λc q x=>Heap.get?_push_of_some _ (Heap.get?_push_of_some _ (Heap.get?_push_of_some _ (Heap.get?_push_of_some _ (Heap.get?_push_of_some _ x)))),z4⟩
end
end PySem
namespace L2
open PySem PySem.Spec PyProof.Rows
section
variable {X:Cx}{pins:List (Addr×Obj)}{σ:St}{H:Hp}{s:Shared}{h':Heap}
end
section
variable {X:Cx}
end
end L2
namespace PySem
open Builtin Builtin.Str
end PySem
namespace L2
open PySem PySem.Spec PyProof.Rows
section
variable {X:Cx}
def KC:V->List V->Hp->VK->Prop:=λx vs H Q=>∃z y,x=.str z/\vs=[.str y]/\Q (.bl (decide (0+y.length<=z.length) && Builtin.Str.subAt z y 0)) H
theorem wI:wc X "str.startswith" KC:=by
 intro pins s σ H x vs v us Q I rx rv h
 obtain ⟨z,y,rfl,rfl,q⟩:=h
 obtain ⟨t,rfl⟩:=rx
 obtain ⟨u,rfl,tu,rfl⟩:=rv.one
 exact call_gives F.slot_str_startswith (typeIs_str _ _ _) F.entry_str_startswith (F.args_str_startswith_2 _ _) (gives_str_startswith z y t tu) ⟨.bl _,H,I,rfl,q⟩
def Wj:V->Option Int->Option Int->Hp->VK->Prop:=λx lo hi H Q=>∃z j,x=.str z/\lo=some j/\hi=none/\z.length<=sizeLine/\Q (.str (Txt.slice z (some j) none)) H
theorem BA:Ii X Wj:=by
 intro pins s σ H x v vl vu lo hi sl Q I rx hs pl pu h
 obtain ⟨z,j,rfl,rfl,rfl,hz,q⟩:=h
 obtain ⟨t,rfl⟩:=rx
 cases pu
 cases pl with
 | int _ uj=>
  refine ⟨"str",_,F.slot_str_getitem.lookup,typeIs_str _ _ _,wpAny_getItem_str_slice (l:=some (j,uj)) (u:=none) (st:=none) hs rfl
   (post_val_or_str ⟨Nat.le_trans (Txt.slice_le z _ _) hz,λt' k=>⟨.str (Txt.slice z (some j) none),H,I.tok k,⟨t',rfl⟩,q⟩⟩)⟩
end
end L2
namespace PySem
open Builtin Builtin.Str
theorem n8 (z:Str) (c:Nat):(decide (0+(⟨#[c]⟩:Str).length<=z.length) && subAt z ⟨#[c]⟩ 0)=decide (z.cps.toList[0]?=some c):=by
 rw [Bool.eq_iff_iff,Bool.and_eq_true,decide_eq_true_eq,decide_eq_true_eq]
 exact StrLaws.subAt_one z c 0
theorem GZ (n:Nat):strSliceIndices (some 1) none 1 n=(List.range (n-1)).map (· + 1):=by
 cases n with
 | zero=>rfl
 | succ n=>
  have h1:¬ ((1:Int)<0):=by decide
  have e1:max (0:Int) (min 1 ((n+1:Nat):Int))=1:=by omega
  simp only [strSliceIndices,sliceRange,h1,if_false,show ((1:Int)>0)=True from by simp,if_true,e1]
  have e2:(if (1:Int)<((n+1:Nat):Int) then (((n+1:Nat):Int)-1+1-1) / 1 else 0).toNat=n:=by
   split
   . rw [Int.ediv_one]; omega
   . omega
  rw [e2]
  show _=(List.range n).map (· + 1)
  refine List.map_congr_left λk _=>?_
  omega
theorem E6:∀(l:List Nat) (L:List Nat),((List.range (L.length-1)).map (· + 1)).filterMap (λi=>L[i]?)=L.tail:=by
 intro _ L
 cases L with
 | nil=>rfl
 | cons x r=>
  show ((List.range r.length).map (· + 1)).filterMap (λi=>(x::r)[i]?)=r
  rw [List.filterMap_map]
  show (List.range r.length).filterMap (λi=>(x::r)[i+1]?)=r
  simp only [List.getElem?_cons_succ]
  have k:=Gen.rj r r.length (Nat.le_refl _)
  rw [List.take_length] at k
  exact k
theorem uz (z:Str):(Txt.slice z (some 1) none).cps.toList=z.cps.toList.tail:=by
 unfold Txt.slice
 rw [GZ]
 split
 . rename_i h
   have h2:((List.range (z.length-1)).map (· + 1)).length=z.length:=by simpa using h
   rw [List.length_map,List.length_range] at h2
   have h3:z.length=0:=by omega
   have h4:z.cps.toList=[]:=List.length_eq_zero_iff.mp (by simpa [Str.length] using h3)
   rw [h4]
   rfl
 . have e:z.length=z.cps.toList.length:=by simp [Str.length]
   rw [e]
   have k:=E6 [] z.cps.toList
   simpa using k
end PySem
namespace L2
open PySem PySem.Spec PyProof.Rows
section
variable {X:Cx}{pins:List (Addr×Obj)}{σ:St}{H:Hp}{s:Shared}{a:Addr}{kvs:List (Key×V)}{k:Key}{v:V}{u:Value}{E:Value->Shared->Prop}
end
section
variable {X:Cx}{o i:Expr}{pos:Pos}{td ty:TE}
end
end L2
namespace L2
open PySem PySem.Spec PyProof.Rows
section
variable {X:Cx}
def QK (K:W.Frag) (ta:TA):TI:=λσ H R=>ta σ H λvs H1=>∃a b,vs=[.ref a,.ref b]/\(∃xs,aq K H1 a xs)/\(∃ys,aR K H1 b ys)/\R (Itm K false true a b) H1
theorem mU {es:List Expr}{kk:Nat}{pp:Pos}{a b:Expr}{ta:TA}{p pos:Pos}(hg:Gl X "zip") (hm:X.mg "zip" = none) (ha:PA X [a,b] ta) (hs:starEach [a,b] X.env=(false,eval a X.env)::starEach [b] X.env:=by rfl) (hp:(backTo pos (starEach [b] X.env)).any (·.1)=false:=by rfl) :
 PI X (.Tuple es kk pp) (.Call (.Name "zip" p) [a,b] [] pos) (QK X.K ta):=by
 intro pins s σ H R I h
 refine Call_ (jA I hg hm boot_zip (PyProof.Rows.callWith_type1 (aJ (ha pos pins s σ H _ I h) λus s1 ⟨vs,H1,I1,r1,q1⟩=>?_) hs hp))
 obtain ⟨l,m,e,⟨xs,hx⟩,⟨ys,hy⟩,q⟩:=q1
 subst e
 obtain ⟨u,v,rfl,ru,rv⟩:=vals2 r1
 cases (show u=Value.ref l from ru)
 cases (show v=Value.ref m from rv)
 obtain ⟨its,_,p1,_⟩:=I1.zk (tp:=false) hx
 obtain ⟨its',_,p2,_⟩:=I1.zk (tp:=true) hy
 refine callType_new F.called_zip (by decide) (F.typeCall_zip_2 _ _) (F.newCall_zip_2 _ _) (λobj=>F.args_object_init_3 obj _ _) F.entry_zip_new (Dh l m its.toArray its'.toArray) ⟨p1,p2,?_⟩
 have yC:(vh s1.heap (qz l)).get? s1.heap.objs.size=some (qz l):=Heap.get?_push_size _ rfl
 obtain ⟨a1,a2,a3,a4,a5,kk',g6⟩:=KA s1.heap (qz l) m yC
 show _/\_
 rw [g6]
 refine ⟨⟨_,a1,rfl⟩,?_⟩
 refine wpAny_pyIter_zip a1 ?_
 have I2:Inv X pins σ H1 { s1 with heap:=jr s1.heap (qz l) m }:=I1.kept (t':=s1.toks) kk'
 refine ⟨_,_,_,_,H1,rfl,I2,Kz (tp:=false) (tq:=true) (a:=l) (b:=m) (z:=s1.heap.objs.size+4) (TI:=s1.heap.objs.size+2) (TO:=s1.heap.objs.size+3) (i1:=s1.heap.objs.size) (i2:=s1.heap.objs.size+1) ?_,⟨a1,a2,⟨_,_,a3⟩,⟨_,a4,rfl,rfl⟩,a5⟩,λb hb=>?_,q⟩
 . simp
 . have jD:s1.heap.objs.size<=b:=by
    simp only [List.mem_cons,List.not_mem_nil,or_false] at hb
    rcases hb with rfl | rfl | rfl | rfl | rfl
    . exact Nat.le_add_right _ _
    . exact Nat.le_add_right _ _
    . exact Nat.le_add_right _ _
    . exact Nat.le_refl _
    . exact Nat.le_add_right _ _
   exact I1.nG jD (I1.hok.fresh jD)
theorem qB {K:W.Frag}{tp tq:Bool}{a b:Addr}{xs ys:List V}{g:TG}{tb:TS}{D:Ends}{σ:St}{H:Hp}(hxy:xs.length<=ys.length) (Pv:Nat->St->Hp->Prop) (h0:Pv 0 σ H) (hl:∀i σ H,i<=xs.length->Pv i σ H->ZK K tp H a xs/\ZK K tq H b ys)
 (hs:∀i x y T σ H,xs[i]?=some x->ys[i]?=some y->H T=none->Pv i σ H->g (.ref T) σ (upd H T (.tup [x,y])) λgu H2=>tb { D with nx:=Pv (i+1),ct:=Pv (i+1),bk:=D.nx } gu H2) (hd:∀σ H,Pv xs.length σ H->D.nx σ H) :
 ∃W:Nat->Nat->St->Hp->Prop,(∃m,W 0 m σ H)/\∀i m σ H,W i m σ H->
  ((Itm K tp tq a b).stop i H/\D.nx σ H)\/((Itm K tp tq a b).go i H/\∃N:St->Hp->Prop,(∀bx H',N bx H'->∃m',m'<m/\W (i+1) m' bx H')/\∀x H',(Itm K tp tq a b).yld i H x H'->g x σ H' λgu H2=>tb { D with nx:=N,ct:=N,bk:=D.nx } gu H2):=by
 refine ⟨λi m σ H=>m=xs.length-i/\i<=xs.length/\Pv i σ H,⟨xs.length,by simp,Nat.zero_le _,h0⟩,?_⟩
 rintro i m σ H ⟨rfl,hi,p⟩
 obtain ⟨q1,q2⟩:=hl i σ H hi p
 by_cases di:i<xs.length
 . refine .inr ⟨⟨xs,ys,xs[i],ys[i]'(by omega),q1,q2,List.getElem?_eq_getElem di,List.getElem?_eq_getElem (by omega)⟩,Pv (i+1),λbx H' p'=>⟨xs.length-(i+1),by omega,rfl,di,p'⟩,λx H' y=>?_⟩
   obtain ⟨T,v,u,rfl,hT,rfl,hv,hu⟩:=y
   exact hs i v u T σ H (hv xs q1) (hu ys q2) hT p
 . refine .inl ⟨⟨xs,q1,by omega⟩,?_⟩
   obtain rfl:i=xs.length:=by omega
   exact hd σ H p
theorem ze:eB X (.type "int") (λxs H Q=>∃z n,xs=[.str z]/\PySem.intText? z=some n/\z.length<=640/\Q (.int n) H):=by
 intro pins s σ H xs us Q I r h
 obtain ⟨z,n,rfl,hn,hl,q⟩:=h
 obtain ⟨u,rfl,t,rfl⟩:=vals1 r
 exact W.KIN.call_text hn hl ⟨.int n,H,I.tok _,⟨_,rfl⟩,q⟩
end
end L2
namespace L2
open PySem PySem.Spec PyProof.Rows
section
variable {X:Cx}
def Wk (K:W.Frag):R2:=λx y H Q=>∃(p p':Addr) (ts:List Addr),x=.ref p/\y=.ref p'/\aq K H p (ts.map V.ref)/\aq K H p' (ts.map V.ref)/\Q (.bl false) H
theorem MS (hu:X.A.units+1<cLine):d6 X (compareOp .NotEq) (Wk X.K):=by
 intro pins s σ H x y v u Q I rx ry h
 obtain ⟨p,p',ts,rfl,rfl,h1,h2,q⟩:=h
 cases (show v=Value.ref p from rx)
 cases (show u=Value.ref p' from ry)
 obtain ⟨its,rv,pl,hz⟩:=I.list h1
 obtain ⟨its',pY,uA,rf⟩:=I.list h2
 have l1:=rv.length
 have l2:=pY.length
 have key:=SeqAt.RcNeAt.lists (A:=X.A) (s:=s) (e:=λ_=>true) pl.isList uA.isList (by simp only [List.size_toArray]; omega) (by omega) (λj g1 g2=>?_) X.prog X.w X.xe
 . exact key _ (by
    have e:(!(List.range its.toArray.size).all λ_=>true)=false:=by simp
    rw [e]
    exact ⟨.bl false,H,I,rfl,q⟩)
 . have hj:j<ts.length:=by simp only [List.size_toArray,List.length_map] at g1 l1; omega
   have hx:(ts.map V.ref)[j]?=some (.ref ts[j]):=by rw [List.getElem?_map,List.getElem?_eq_getElem hj]; rfl
   obtain ⟨w1,e1,r1⟩:=rv.get hx
   obtain ⟨w2,e2,r2⟩:=pY.get hx
   have a1:its.toArray[j]=w1:=by
    have:=(List.getElem?_eq_some_iff.mp e1).2
    simpa using this
   have a2:its'.toArray[j]=w2:=by
    have:=(List.getElem?_eq_some_iff.mp e2).2
    simpa using this
   rw [a1,a2,show w1=Value.ref ts[j] from r1,show w2=Value.ref ts[j] from r2]
   exact SeqAt.EqAt.same _
theorem pZ (ns:List Int):(ns.map V.int).all iA=true:=by
 rw [List.all_eq_true]
 intro z hz
 obtain ⟨n,_,rfl⟩:=List.mem_map.mp hz
 rfl
end
end L2
namespace L2
open PySem PySem.Spec PyProof.Rows
theorem MT (bs:List Bool):((List.range bs.length).any λi=>(bs[i]?).getD false)=bs.any _root_.id:=by
 rw [Bool.eq_iff_iff,List.any_eq_true,List.any_eq_true]
 constructor
 . rintro ⟨i,hi,h⟩
   have mw:=List.mem_range.mp hi
   rw [List.getElem?_eq_getElem mw] at h
   exact ⟨bs[i],List.getElem_mem mw,h⟩
 . rintro ⟨b,hb,h⟩
   obtain ⟨i,hi,e⟩:=List.getElem_of_mem hb
   refine ⟨i,List.mem_range.mpr hi,?_⟩
   rw [List.getElem?_eq_getElem hi,e]
   exact h
theorem vi {X:Cx}(hc:X.calm=true):eB X (.builtin "any") (λxs H Q=>∃(p:Addr) (bs:List Bool),xs=[.ref p]/\aq X.K H p (bs.map V.bl)/\Q (.bl (bs.any _root_.id)) H):=by
 intro pins s σ H xs us Q I r h
 obtain ⟨p,bs,rfl,hp,q⟩:=h
 obtain ⟨u,rfl,rx⟩:=vals1 r
 cases (show u=Value.ref p from rx)
 obtain ⟨its,rv,pl,hz⟩:=I.list hp
 have hl:=pl.isList
 have hlen:bs.length=its.length:=by
  have:=rv.length
  rw [List.length_map] at this
  exact this
 have di:p<s.heap.objs.size:=by obtain ⟨_,e,_⟩:=hl; exact Heap.lt_size e
 refine call_any_walk (wpAny_pyIter_list hl ?_)
 refine ⟨s.heap.objs.size,[s.heap.objs.size,p],[s.heap.objs.size],its.toArray.size,_,_,λi=>(bs[i]?).getD false,rfl,Walks.list (A:=X.A.in1) (by show X.A.in1.handled=none; exact I.ok.hd hc) _ p (Nat.ne_of_lt di) its.toArray,
  ⟨⟨_,Heap.get?_push_size _ rfl,rfl,rfl⟩,hl.push _⟩,λi v s' Q' E' hP hQ=>?_,λh' tk hk=>?_⟩
 . have hi:its[i]?=some v:=by simpa using hP
   have zf:i<bs.length:=by
    have:=(List.getElem?_eq_some_iff.mp hi).1
    omega
   obtain ⟨w',e1,e2⟩:=rv.get (x:=.bl bs[i]) (by rw [List.getElem?_map,List.getElem?_eq_getElem zf]; rfl)
   rw [hi] at e1
   cases e1
   cases (show v=Value.bool bs[i] from e2)
   simp only [List.getElem?_eq_getElem zf,Option.getD_some] at hQ
   exact wpAny_truthy_bool hQ
 . have e:((List.range its.toArray.size).any λi=>(bs[i]?).getD false)=bs.any _root_.id:=by
    rw [List.size_toArray,← hlen]
    exact MT bs
   rw [e]
   exact ⟨.bl _,H,I.kept (t':=tk) (λb o eb=>hk b o (λhm=>by rw [List.mem_singleton.mp hm] at eb; exact Nat.lt_irrefl _ (Heap.lt_size eb)) (Heap.get?_push_of_some _ eb)),rfl,q⟩
end L2
namespace L2
open PySem PySem.Spec PyProof.Rows
section
variable {X:Cx}
theorem MU (bs:List Bool):((List.range bs.length).all λi=>(bs[i]?).getD false)=bs.all _root_.id:=by
 rw [Bool.eq_iff_iff,List.all_eq_true,List.all_eq_true]
 constructor
 . intro h b hb
   obtain ⟨i,hi,e⟩:=List.getElem_of_mem hb
   have:=h i (List.mem_range.mpr hi)
   rw [List.getElem?_eq_getElem hi,e] at this
   exact this
 . intro h i hi
   have mw:=List.mem_range.mp hi
   rw [List.getElem?_eq_getElem mw]
   exact h _ (List.getElem_mem mw)
theorem vj (hc:X.calm=true):eB X (.builtin "all") (λxs H Q=>∃(p:Addr) (bs:List Bool),xs=[.ref p]/\aq X.K H p (bs.map V.bl)/\Q (.bl (bs.all _root_.id)) H):=by
 intro pins s σ H xs us Q I r h
 obtain ⟨p,bs,rfl,hp,q⟩:=h
 obtain ⟨u,rfl,rx⟩:=vals1 r
 cases (show u=Value.ref p from rx)
 obtain ⟨its,rv,pl,hz⟩:=I.list hp
 have hl:=pl.isList
 have hlen:bs.length=its.length:=by
  have:=rv.length
  rw [List.length_map] at this
  exact this
 have di:p<s.heap.objs.size:=by obtain ⟨_,e,_⟩:=hl; exact Heap.lt_size e
 refine call_all_walk (wpAny_pyIter_list hl ?_)
 refine ⟨s.heap.objs.size,[s.heap.objs.size,p],[s.heap.objs.size],its.toArray.size,_,_,λi=>(bs[i]?).getD false,rfl,Walks.list (A:=X.A.in1) (by show X.A.in1.handled=none; exact I.ok.hd hc) _ p (Nat.ne_of_lt di) its.toArray,
  ⟨⟨_,Heap.get?_push_size _ rfl,rfl,rfl⟩,hl.push _⟩,λi v s' Q' E' hP hQ=>?_,λh' tk hk=>?_⟩
 . have hi:its[i]?=some v:=by simpa using hP
   have zf:i<bs.length:=by
    have:=(List.getElem?_eq_some_iff.mp hi).1
    omega
   obtain ⟨w',e1,e2⟩:=rv.get (x:=.bl bs[i]) (by rw [List.getElem?_map,List.getElem?_eq_getElem zf]; rfl)
   rw [hi] at e1
   cases e1
   cases (show v=Value.bool bs[i] from e2)
   simp only [List.getElem?_eq_getElem zf,Option.getD_some] at hQ
   exact wpAny_truthy_bool hQ
 . have e:((List.range its.toArray.size).all λi=>(bs[i]?).getD false)=bs.all _root_.id:=by
    rw [List.size_toArray,← hlen]
    exact MU bs
   rw [e]
   exact ⟨.bl _,H,I.kept (t':=tk) (λb o eb=>hk b o (λhm=>by rw [List.mem_singleton.mp hm] at eb; exact Nat.lt_irrefl _ (Heap.lt_size eb)) (Heap.get?_push_of_some _ eb)),rfl,q⟩
end
end L2
namespace L2
open PySem PySem.Spec PyProof.Rows
theorem p8 {α β:Type}{F:α->β->Prop} : ∀{l₁:List α}{l₂:List β}{i:Nat}{b:β},Paired F l₁ l₂->l₂[i]?=some b->∃a,l₁[i]?=some a/\F a b
 | _,_,_,_,.nil,h=>by simp at h
 | _,_,0,_,.cons h t,e=>⟨_,rfl,by simp at e; subst e; exact h⟩
 | _,_,i+1,_,.cons h t,e=>by
  obtain ⟨a,h1,h2⟩:=p8 (i:=i) t (by simpa using e)
  exact ⟨a,by simpa using h1,h2⟩
section
variable {X:Cx}
def Wl (K:W.Frag):R2:=λx y H Q=>∃(t l:Addr) (a b:Str) (ts:List Addr) (ps:List (Str×Str)),x=.ref t/\y=.ref l/\H t=some (.tup [.str a,.str b])/\aq K H l (ts.map V.ref)/\Paired (λu p=>H u=some (.tup [.str p.1,.str p.2])) ts ps/\t∉ts/\Q (.bl (decide ((a,b)∈ps))) H
open Classical in
theorem PV (hu:X.A.units+1<cLine):d6 X (compareOp .In) (Wl X.K):=by
 intro pins s σ H x y v u Q I rx ry h
 obtain ⟨t,l,a,b,ts,ps,rfl,rfl,ht,hl,hp,hn,q⟩:=h
 cases (show v=Value.ref t from rx)
 cases (show u=Value.ref l from ry)
 obtain ⟨its,rv,pl,hz⟩:=I.list hl
 obtain ⟨jts,rt,pt,_⟩:=I.tuple (aR.of ht)
 obtain ⟨x1,x2,ej,r1,r2⟩:=vals2 rt
 subst ej
 have at_:∀w,w∈its->∃(d:Addr) (p:Str×Str),w=Value.ref d/\d∈ts/\p∈ps/\H d=some (.tup [.str p.1,.str p.2]):=by
  intro w hw
  obtain ⟨i,hi,e⟩:=List.getElem_of_mem hw
  have hlen:=rv.length
  rw [List.length_map] at hlen
  have BB:i<ts.length:=by omega
  have c8:=hp.length
  have Tc:i<ps.length:=by omega
  obtain ⟨w',e1,e2⟩:=rv.get (x:=.ref ts[i]) (by rw [List.getElem?_map,List.getElem?_eq_getElem BB]; rfl)
  rw [List.getElem?_eq_getElem hi,e] at e1
  cases e1
  obtain ⟨d,hd,hD⟩:=p8 hp (i:=i) (List.getElem?_eq_getElem Tc)
  rw [List.getElem?_eq_getElem BB] at hd
  cases hd
  exact ⟨ts[i],ps[i],e2,List.getElem_mem BB,List.getElem_mem Tc,hD⟩
 refine SeqAt.in_listAt (λw=>decide (∃d:Addr,w=Value.ref d/\H d=some (.tup [.str a,.str b]))) pl.isList (λw hw=>?_) ⟨.bl _,H,I,rfl,?_⟩
 . obtain ⟨d,p,rfl,hd,_,hD⟩:=at_ w (by simpa using hw)
   obtain ⟨dts,rd,pd,_⟩:=I.tuple (aR.of hD)
   obtain ⟨y1,y2,ed,s1,s2⟩:=vals2 rd
   subst ed
   have cD:d≠t:=λe=>hn (e ▸ hd)
   have key:=SeqAt.EqAt.of_refs cD (SeqAt.RcAt.tuples (A:=X.A.in1) (s:=s) (e:=λj=>if j=0 then ir (.str p.1) (.str a) else ir (.str p.2) (.str b)) pd pt (by show X.A.units+1<cLine; exact hu) (λj g1 g2=>?_))
   . have ee:((List.range (min [y1,y2].toArray.size [x1,x2].toArray.size)).all (λj=>if j=0 then ir (.str p.1) (.str a) else ir (.str p.2) (.str b)) && [y1,y2].toArray.size == [x1,x2].toArray.size)=decide (∃d':Addr,Value.ref d=Value.ref d'/\H d'=some (.tup [.str a,.str b])):=by
      show ((List.range 2).all _ && true)=_
      rw [Bool.and_true,Bool.eq_iff_iff,decide_eq_true_eq]
      simp only [List.range_succ,List.range_zero,List.nil_append,List.all_append,List.all_cons,List.all_nil,Bool.and_true,Bool.and_eq_true,if_pos,ir,beq_iff_eq]
      constructor
      . rintro ⟨e1,e2⟩
        refine ⟨d,rfl,?_⟩
        rw [hD,e1,show p.2=b by simpa using e2]
      . rintro ⟨d',e,h'⟩
        cases e
        rw [hD] at h'
        simp at h'
        exact ⟨h'.1,by simpa using h'.2⟩
     rw [ee] at key
     exact key
   . match j,g1 with
     | 0,_=>exact pq s1 r1 rfl rfl
     | 1,_=>exact pq s2 r2 rfl rfl
 . have e:its.toArray.any (λw=>decide (∃d:Addr,w=Value.ref d/\H d=some (.tup [.str a,.str b])))=decide ((a,b)∈ps):=by
    rw [Bool.eq_iff_iff,decide_eq_true_eq]
    rw [show its.toArray.any (λw=>decide (∃d:Addr,w=Value.ref d/\H d=some (.tup [.str a,.str b])))=its.any (λw=>decide (∃d:Addr,w=Value.ref d/\H d=some (.tup [.str a,.str b]))) by simp,List.any_eq_true]
    constructor
    . rintro ⟨w,hw,hd⟩
      obtain ⟨d,p,rfl,_,hpm,hD⟩:=at_ w hw
      obtain ⟨d',e,h'⟩:=of_decide_eq_true hd
      cases e
      rw [hD] at h'
      simp at h'
      have:p=(a,b):=Prod.ext h'.1 h'.2
      exact this ▸ hpm
    . intro hm
      obtain ⟨i,hi,e⟩:=List.getElem_of_mem hm
      obtain ⟨d,hd,hD⟩:=p8 hp (i:=i) (List.getElem?_eq_getElem hi)
      obtain ⟨w',e1,e2⟩:=rv.get (x:=.ref d) (by rw [List.getElem?_map,hd]; rfl)
      refine ⟨w',List.mem_of_getElem? e1,decide_eq_true ⟨d,e2,?_⟩⟩
      rw [hD,e]
   rw [e]
   exact q
end
end L2
namespace L2
open PySem PySem.Spec PyProof.Rows
section
variable {X:Cx}{N:List Str}{js:List (Option Nat)}{scope:Scope}{elt tg iter:Expr}{ifs:List Expr}{pos:Pos}{wi:TI}{g:TG}{ti:TT}{te:TE}
end
end L2
namespace L2
open PySem PySem.Spec PyProof.Rows
def E7 (d:Addr) (o:Obj) (kvs:List (Key×V)):It:=
 ⟨λi H=>H d=some (.cz o (.dK kvs))/\i<kvs.length,λi H x H'=>∃T kv,x=.ref T/\H T=none/\kvs[i]?=some kv/\H'=upd H T (.tup [kV kv.1,kv.2]),λi H=>H d=some (.cz o (.dK kvs))/\i=kvs.length⟩
theorem vk:entryFor table "dict_itemiterator.__iter__" = some Builtin.«dict_keyiterator.__iter__»:=entryFor_alias (id':="dict_keyiterator.__iter__") (by kernel_rfl) rfl (by decide +kernel) (by kernel_rfl)
theorem Di {P:Program}{w:World}{K:W.Frag}{MV:List Expr}{kk:Nat}{tp:Pos}{d it:Addr}{o:Obj}{es:Array DictEntry}{ep:Nat}{kvs:List (Key×V)}(hd:o.data=.dict es ep) (cD:d≠it):Turn P w K (.Tuple MV kk tp) (E7 d o kvs) [it] it (λi h=>∃ok ov,IsItemIter h it d i kvs.length ep ok ov) where
 mem:=by simp
 obj:=λi h st b hb=>by
  have e:b=it:=by simpa using hb
  subst e
  obtain ⟨ok,ov,e⟩:=st
  exact ⟨_,e,λv z=>by
   have z':Data.fields _=Data.cell v:=z
   cases z'⟩
 keep:=λi h h' st k=>let ⟨ok,ov,e⟩:=st; ⟨ok,ov,k it (by simp) _ e⟩
 item:=by
  intro X hP hw hK hc i pins s σ H E I hf st hg
  subst hP hw hK
  obtain ⟨g1,g2⟩:=hg
  obtain ⟨ho,z,hs,vs,rel,o',xP,xQ,fq,r'⟩:=(show bH X.prog X.w H s.heap d (.cz o (.dK kvs)) from I.hok d _ g1)
  rw [ho] at fq
  cases fq
  have mT:=r'.2.1
  rw [hd] at mT
  cases mT
  have hl:kvs.length=vs.length:=rel.length
  obtain ⟨ok,ov,hit⟩:=st
  have gv:i<vs.length:=by omega
  have EU:kvs[i]?=some kvs[i]:=List.getElem?_eq_getElem g2
  have ev:vs[i]?=some (vs[i].1,vs[i].2):=List.getElem?_eq_getElem gv
  obtain ⟨yY,fT⟩:=jx rel EU ev
  rw [hl] at hit
  refine wpAny_pyNext_items_item (knd:=bb X.prog X.w) hit ⟨o,es,ho,r'⟩ ev λkey h' uX hO hT hsz hk=>?_
  refine ⟨.ref s.heap.objs.size,rfl,?_⟩
  refine wpAny_letOwnedTupleGo_items hO λh2 Em ig=>?_
  have wg:s.heap.objs.size≠it:=Nat.ne_of_gt (Heap.lt_size hit)
  have mx:h2.get? s.heap.objs.size=some { cls:=.type "tuple",data:=.seq #[key,vs[i].2] }:=(ig.2 _ wg).trans hT
  have I1:Inv X pins σ (upd H s.heap.objs.size (.tup [kV kvs[i].1,kvs[i].2])) { s with heap:=h2,toks:=s.toks }:=I.qt (its:=[key,vs[i].2]) hf (λb o hb e1=>by
   have b1:b≠it:=λz=>hb (by simp [z])
   exact (ig.2 b b1).trans (hk b o b1 e1)) (Nat.le_refl _) ⟨_,mx,rfl,_,rfl⟩ (.cons (by rw [yY]; exact Dc uX) (.cons fT .nil)) (by show 2<=sizeLine; decide)
  have fr:H s.heap.objs.size=none:=I.hok.fresh (Nat.le_refl _)
  refine ⟨.ref s.heap.objs.size,_,I1,rfl,⟨s.heap.objs.size,kvs[i],rfl,fr,EU,rfl⟩,⟨_,_,by rw [hl]; exact Em⟩,λb hb=>?_⟩
  have jD:=(hf b hb).1
  have e:b=it:=by simpa using hb
  rw [ai (by rw [e]; exact Ne.symm wg)]
  exact jD
 done:=by
  intro X hP hw hK hc i pins s σ H E I hf st hg
  subst hP hw hK
  obtain ⟨g1,g2⟩:=hg
  subst g2
  obtain ⟨ho,z,hs,vs,rel,o',xP,xQ,fq,r'⟩:=(show bH X.prog X.w H s.heap d (.cz o (.dK kvs)) from I.hok d _ g1)
  rw [ho] at fq
  cases fq
  have mT:=r'.2.1
  rw [hd] at mT
  cases mT
  have hl:kvs.length=vs.length:=rel.length
  obtain ⟨ok,ov,hit⟩:=st
  rw [hl] at hit
  exact wpAny_pyNext_items_end (knd:=bb X.prog X.w) (I.ok.hd hc) hit ⟨o,es,ho,r'⟩ (by simp) λh' eb=>⟨rfl,I.qr (t':=s.toks) hf λb o hb e1=>eb b o (λz=>hb (by simp [z])) e1⟩
 self:=λA i s Q E st h=>by
  obtain ⟨ok,ov,hit⟩:=st
  have hT:s.TypeIs (.ref it) "dict_itemiterator":=⟨_,hit,rfl⟩
  refine wpAny_pyIter_slot hT F.slot_dict_itemiterator_iter (wpAny_call_entry F.slot_dict_itemiterator_iter hT vk ?_ (F.args_dict_itemiterator_iter_1 _))
  show wpAny _ _ (ret (.ref it)) _ _ s
  exact wpAny_pure ⟨_,rfl, "dict_itemiterator",_,hT,F.slot_dict_itemiterator_next.lookup,h⟩
section
variable {X:Cx}
def MW (td:TE):TI:=λσ H R=>td σ H λx H1=>∃d kvs,x=.ref d/\H1 d=some (.dK kvs)/\∀o,R (E7 d o kvs) (upd H1 d (.cz o (.dK kvs)))
theorem G1 {MV:List Expr}{kk:Nat}{tp:Pos}{o:Expr}{to:TE}{apos dE:Pos}(ho:PE X o to)
 (nO:attributeBase o "items" X.env (eval o X.env)=eval o X.env:=by rfl) (tZ:(apos.endLine == dE.line)=true:=by rfl):PI X (.Tuple MV kk tp) (.Call (.Attribute o "items" apos) [] [] dE) (MW to):=by
 intro pins s σ H R I h
 refine wpAny_Call_method0_late nO tZ (aJ (ho pins s σ H _ I h) λv s1 ⟨x,H1,I1,r1,d,kvs,e,hd,q⟩=>?_)
 subst e
 cases (show v=Value.ref d from r1)
 obtain ⟨h1,h2⟩:=yq (T:="dict") (x:=.ref d) I1 rfl (.inr (.inr (.inl ⟨rfl,.inl ⟨_,hd⟩⟩)))
 refine ⟨"dict", "dict.items",PySem.F.plainAttrs_dict,PySem.F.slot_dict_items,PySem.F.type_dict_items,h1,h2,Calls.callWith_builtin rfl (PySem.evalArgs_none ?_)⟩
 obtain ⟨z,hm,vs,rel,dd⟩:=tQ I1.hok hd
 obtain ⟨ob,es,ep,MX,r⟩:=id dd
 have hlen:kvs.length=vs.length:=rel.length
 obtain ⟨o',fq,I2⟩:=I1.freeze hd
 rw [MX] at fq
 cases fq
 refine call_meetsIn PySem.F.slot_dict_items h1 PySem.F.entry_dict_items (PySem.F.args_dict_items_1 _) (meets_dict_items (bb X.prog X.w) d hm) ⟨⟨vs,dd⟩,?_⟩
 have di:d<s1.heap.objs.size:=Heap.lt_size MX
 refine wpAny_pyIter_items (knd:=bb X.prog X.w) (kvs:=vs) (ep:=ep) (d:=d) ⟨_,Heap.get?_push_size _ rfl,rfl,rfl⟩ ⟨ob,es,Heap.get?_push_of_some _ MX,r⟩ ?_
 have I3:Inv X pins σ (upd H1 d (.cz ob (.dK kvs))) { s1 with heap:=s1.heap.push { cls:=.type "dict_items",data:=.fields #[.ref d] } }:=I2.kept (t':=s1.toks) λb o e=>Heap.get?_push_of_some _ e
 have I4:=I3.kept (h':=(s1.heap.push { cls:=.type "dict_items",data:=.fields #[.ref d] }).push { cls:=.type "dict_itemiterator",data:=.fields #[.none,.bool false,.ref d,.int 0 0,.int vs.length 0,.int ep 0,.none,.none] }) (t':=s1.toks) λb o e=>Heap.get?_push_of_some _ e
 refine ⟨(s1.heap.push { cls:=.type "dict_items",data:=.fields #[.ref d] }).objs.size,[(s1.heap.push { cls:=.type "dict_items",data:=.fields #[.ref d] }).objs.size],_,_,_,rfl,I4,Di (es:=es) (ep:=ep) (o:=ob) (kvs:=kvs) r.2.1 (Nat.ne_of_lt (by rw [Heap.size_push]; exact Nat.lt_succ_of_lt di)),?_,?_,q ob⟩
 . refine ⟨.none,.none,?_⟩
   show Heap.get? _ _=_
   rw [hlen]
   exact Heap.get?_push_size _ rfl
 . intro b hb
   have e:b=(s1.heap.push { cls:=.type "dict_items",data:=.fields #[.ref d] }).objs.size:=by simpa using hb
   subst e
   exact I3.nG (Nat.le_refl _) (I3.hok.fresh (Nat.le_refl _))
def MY (xt:Hp) (t:TS):TS:=λD σ H=>t { D with nx:=λAE H1=>∃d o kvs,H1 d=some (.cz o (.dK kvs))/\(∀o' u,xt d≠some (.cz o' u))/\D.nx AE (upd H1 d (.dK kvs)) } σ H
theorem KD {st:Stmt}{t:TS}(h:PS X st t):PS X st (MY X.xt t):=by
 intro pins s σ H D I q
 refine aJ (h pins s σ H _ I q) λf s1 hf=>?_
 cases f with
 | next=>
  obtain ⟨AE,H1,I1,d,o,kvs,e,hn,q1⟩:=hf
  exact ⟨AE,_,I1.MG e hn,q1⟩
 | _=>exact hf
theorem E8 {d:Addr}{o:Obj}{kvs:List (Key×V)}{g:TG}{tb:TS}{D:Ends}{σ:St}{H:Hp}(Pv:Nat->St->Hp->Prop) (h0:Pv 0 σ H) (hl:∀i σ H,i<=kvs.length->Pv i σ H->H d=some (.cz o (.dK kvs)))
 (hs:∀i kv T σ H,kvs[i]?=some kv->H T=none->Pv i σ H->g (.ref T) σ (upd H T (.tup [kV kv.1,kv.2])) λgu H2=>tb { D with nx:=Pv (i+1),ct:=Pv (i+1),bk:=D.nx } gu H2) (hd:∀σ H,Pv kvs.length σ H->D.nx σ H) :
 ∃W:Nat->Nat->St->Hp->Prop,(∃m,W 0 m σ H)/\∀i m σ H,W i m σ H->
  ((E7 d o kvs).stop i H/\D.nx σ H)\/((E7 d o kvs).go i H/\∃N:St->Hp->Prop,(∀bx H',N bx H'->∃m',m'<m/\W (i+1) m' bx H')/\∀x H',(E7 d o kvs).yld i H x H'->g x σ H' λgu H2=>tb { D with nx:=N,ct:=N,bk:=D.nx } gu H2):=by
 refine ⟨λi m σ H=>m=kvs.length-i/\i<=kvs.length/\Pv i σ H,⟨kvs.length,by simp,Nat.zero_le _,h0⟩,?_⟩
 rintro i m σ H ⟨rfl,hi,p⟩
 have q:=hl i σ H hi p
 by_cases di:i<kvs.length
 . refine .inr ⟨⟨q,di⟩,Pv (i+1),λbx H' p'=>⟨kvs.length-(i+1),by omega,rfl,di,p'⟩,λx H' y=>?_⟩
   obtain ⟨T,kv,rfl,hT,gq,rfl⟩:=y
   exact hs i kv T σ _ gq hT p
 . obtain rfl:i=kvs.length:=by omega
   exact .inl ⟨⟨q,rfl⟩,hd σ H p⟩
end
end L2
namespace Gen
open PySem L2
abbrev qD:Stmt:=inClass (top 1) 0
structure eY (mg:Str->Option Value):Prop where
 len:mg "len" = none
 list:mg "list" = none
 dict:mg "dict" = none
 tuple:mg "tuple" = none
 str:mg "str" = none
 int:mg "int" = none
 bool:mg "bool" = none
 zip:mg "zip" = none
 all:mg "all" = none
 isi:mg "isinstance" = none
structure MZ where
 sw:List Str
 kp:List (Key×V)
 gt:List Addr
 nx:List (Key×V)
 nv:List (Key×V)
 sm:List (Key×V)
structure Td (H:Hp) (F:MZ) (f1 f2 f3 f4 f5 f6:Addr):Prop where
 h1:H f1=some (.lst (F.sw.map V.str))
 h2:H f2=some (.dK F.kp)
 h3:H f3=some (.lst (F.gt.map V.ref))
 h4:H f4=some (.dK F.nx)
 h5:H f5=some (.dK F.nv)
 h6:H f6=some (.dK F.sm)
structure vm (K:W.Frag) (mg:Str->Option Value) (C:Addr):Prop where
 cl:lD K C
 n1:dc K C "switches"
 n2:dc K C "keepers"
 n3:dc K C "gates"
 n4:dc K C "nexts"
 n5:dc K C "nevers"
 n6:dc K C "somes"
 mgC:mg "Machine" = some (.ref C)
def ll (f1 f2 f3 f4 f5 f6:Addr):List (Str×V):=aB "somes" (.ref f6) (aB "nevers" (.ref f5) (aB "nexts" (.ref f4) (aB "gates" (.ref f3) (aB "keepers" (.ref f2) (aB "switches" (.ref f1) [])))))
section
variable (f1 f2 f3 f4 f5 f6:Addr)
theorem E9:(ll f1 f2 f3 f4 f5 f6).lookup ("switches" : Str)=some (.ref f1):=by
 unfold ll
 rw [ay,if_neg (by decide +kernel),ay,if_neg (by decide +kernel),ay,if_neg (by decide +kernel),ay,if_neg (by decide +kernel),ay,if_neg (by decide +kernel),ay,if_pos rfl]
theorem zi:(ll f1 f2 f3 f4 f5 f6).lookup ("keepers" : Str)=some (.ref f2):=by
 unfold ll
 rw [ay,if_neg (by decide +kernel),ay,if_neg (by decide +kernel),ay,if_neg (by decide +kernel),ay,if_neg (by decide +kernel),ay,if_pos rfl]
theorem zj:(ll f1 f2 f3 f4 f5 f6).lookup ("gates" : Str)=some (.ref f3):=by
 unfold ll
 rw [ay,if_neg (by decide +kernel),ay,if_neg (by decide +kernel),ay,if_neg (by decide +kernel),ay,if_pos rfl]
theorem Fb:(ll f1 f2 f3 f4 f5 f6).lookup ("nexts" : Str)=some (.ref f4):=by
 unfold ll
 rw [ay,if_neg (by decide +kernel),ay,if_neg (by decide +kernel),ay,if_pos rfl]
end
theorem aZ {f:Str}{v:V}{fs:List (Str×V)}{n:Nat}(h:fs.length<=n):(aB f v fs).length<=n+1:=Nat.le_trans (lX f v fs) (Nat.succ_le_succ h)
theorem lF {n m:Nat}(h:n<=m) (hm:m<1000):n<1000:=Nat.lt_of_le_of_lt h hm
theorem eJ {H:Hp}{p g C dx:Addr}{o:HO}{fs fs':List (Str×V)}(hp:H p=some (.ins C dx fs)) (hg:H g=none) :
 (upd (upd H g o) p (.ins C dx fs')) p=some (.ins C dx fs')/\(upd (upd H g o) p (.ins C dx fs')) g=some o/\(upd H g o) p=some (.ins C dx fs)/\∀b u,H b=some u->b≠p->(upd (upd H g o) p (.ins C dx fs')) b=some u:=by
 have n:=af hp hg
 refine ⟨ag,by rw [ai (Ne.symm n),ag],by rw [ai n]; exact hp,λb u hb nb=>by rw [ai nb,ai (af hb hg)]; exact hb⟩
abbrev qF:List Str:=["self", "switches", "keepers", "gates", "nexts", "nevers", "somes"]
inductive BC (C:Addr) (vs:List V) (H:Hp) (Q:VK):Prop
 | mk (p dx s1 s2 s3 s4 s5 s6:Addr) (F:MZ) (h1:vs=[.ref p,.ref s1,.ref s2,.ref s3,.ref s4,.ref s5,.ref s6]) (h2:H p=some (.ins C dx [])) (h3:Td H F s1 s2 s3 s4 s5 s6) (h4:∀(g1 g2 g3 g4 g5 g6:Addr) (H':Hp),(∀g∈[g1,g2,g3,g4,g5,g6],H g=none)->[g1,g2,g3,g4,g5,g6].Nodup->H' p=some (.ins C dx (ll g1 g2 g3 g4 g5 g6))->Td H' F g1 g2 g3 g4 g5 g6->aV H H' p->Q .aS H'):BC C vs H Q
def Fc (C:Addr):Sp:=λvs H Q _=>BC C vs H Q
theorem jJ {H H':Hp}{p g:Addr}(k:∀b u,H b=some u->b≠p->H' b=some u) (hg:H' g=none) (np:g≠p):H g=none:=by
 cases e:H g with
 | none=>rfl
 | some o=>rw [k g o e np] at hg; cases hg
section
variable {P:Program}{w:World}{K:W.Frag}{mg:Str->Option Value}{base:Heap}
theorem M0:aQ qF qF (au qD):=⟨rfl,rfl,rfl,by decide +kernel,rfl,by decide +kernel,by decide +kernel⟩
theorem KG {f C:Addr}{fd:FuncData}(F:cC K "__init__" "Machine.__init__" qD f fd) (T:vm K mg C) (O:eY mg):aw P w K mg base aD 1 f fd qF (Fc C):=by
 refine F.ok M0 (λvs H Q E h=>?_) (λcdv A outer s H vs Q E hr h=>?_)
 . obtain ⟨p,dx,s1,s2,s3,s4,s5,s6,F,rfl,_⟩:=h
   rfl
 . obtain ⟨p,dx,s1,s2,s3,s4,s5,s6,F,rfl,hp,hF,kk⟩:=h
   refine ⟨_,ak (gg (pv 0) (aL d5 (by rfl) O.list PyProof.Rows.boot_list (ae (pv 1) ah)) rfl)
    (ak (gg (pv 0) (aL eO (by rfl) O.dict PyProof.Rows.boot_dict (ae (pv 2) ah)) rfl)
    (ak (gg (pv 0) (aL d5 (by rfl) O.list PyProof.Rows.boot_list (ae (pv 3) ah)) rfl)
    (ak (gg (pv 0) (aL eO (by rfl) O.dict PyProof.Rows.boot_dict (ae (pv 4) ah)) rfl)
    (ak (gg (pv 0) (aL eO (by rfl) O.dict PyProof.Rows.boot_dict (ae (pv 5) ah)) rfl)
    (ar (gg (pv 0) (aL eO (by rfl) O.dict PyProof.Rows.boot_dict (ae (pv 6) ah)) rfl)))))),?_⟩
   have np:∀{b:Addr}{u:HO},H b=some u->(∀C dx fs,u≠.ins C dx fs)->b≠p:=λhb hu z=>by
    rw [z,hp] at hb
    exact hu _ _ _ (Option.some.inj hb).symm
   have m1:s1≠p:=np hF.h1 (λ_ _ _ z=>by cases z)
   have m2:s2≠p:=np hF.h2 (λ_ _ _ z=>by cases z)
   have m3:s3≠p:=np hF.h3 (λ_ _ _ z=>by cases z)
   have m4:s4≠p:=np hF.h4 (λ_ _ _ z=>by cases z)
   have m5:s5≠p:=np hF.h5 (λ_ _ _ z=>by cases z)
   have m6:s6≠p:=np hF.h6 (λ_ _ _ z=>by cases z)
   refine ⟨_,rfl,s1,_,rfl,.inl (aq.of hF.h1),λg1 e1=>?_⟩
   obtain ⟨p1,q1,r1,k1⟩:=eJ (o:=.lst (F.sw.map V.str)) (fs':=aB "switches" (.ref g1) []) hp e1
   have b1:g1≠p:=(af hp e1).symm
   refine ⟨_,rfl,p,C,dx,[],rfl,r1,T.cl,T.n1,(by show 0<1000; decide),?_⟩
   generalize upd (upd H g1 (.lst (F.sw.map V.str))) p (.ins C dx (aB "switches" (.ref g1) []))=H1 at p1 q1 k1 ⊢
   refine ⟨_,rfl,s2,_,rfl,.inl (k1 _ _ hF.h2 m2),λg2 e2=>?_⟩
   obtain ⟨p2,q2,r2,k2⟩:=eJ (o:=.dK F.kp) (fs':=aB "keepers" (.ref g2) (aB "switches" (.ref g1) [])) p1 e2
   have b2:g2≠p:=(af p1 e2).symm
   refine ⟨_,rfl,p,C,dx,_,rfl,r2,T.cl,T.n2,lF (aZ (Nat.le_refl _)) (by show 1<1000; decide),?_⟩
   generalize upd (upd H1 g2 (.dK F.kp)) p (.ins C dx (aB "keepers" (.ref g2) (aB "switches" (.ref g1) [])))=H2 at p2 q2 k2 ⊢
   refine ⟨_,rfl,s3,_,rfl,.inl (aq.of (k2 _ _ (k1 _ _ hF.h3 m3) m3)),λg3 e3=>?_⟩
   obtain ⟨p3,q3,r3,k3⟩:=eJ (o:=.lst (F.gt.map V.ref)) (fs':=aB "gates" (.ref g3) (aB "keepers" (.ref g2) (aB "switches" (.ref g1) []))) p2 e3
   have b3:g3≠p:=(af p2 e3).symm
   refine ⟨_,rfl,p,C,dx,_,rfl,r3,T.cl,T.n3,lF (aZ (aZ (Nat.le_refl _))) (by show 2<1000; decide),?_⟩
   generalize upd (upd H2 g3 (.lst (F.gt.map V.ref))) p (.ins C dx (aB "gates" (.ref g3) (aB "keepers" (.ref g2) (aB "switches" (.ref g1) []))))=H3 at p3 q3 k3 ⊢
   refine ⟨_,rfl,s4,_,rfl,.inl (k3 _ _ (k2 _ _ (k1 _ _ hF.h4 m4) m4) m4),λg4 e4=>?_⟩
   obtain ⟨p4,q4,r4,k4⟩:=eJ (o:=.dK F.nx) (fs':=aB "nexts" (.ref g4) (aB "gates" (.ref g3) (aB "keepers" (.ref g2) (aB "switches" (.ref g1) [])))) p3 e4
   have b4:g4≠p:=(af p3 e4).symm
   refine ⟨_,rfl,p,C,dx,_,rfl,r4,T.cl,T.n4,lF (aZ (aZ (aZ (Nat.le_refl _)))) (by show 3<1000; decide),?_⟩
   generalize upd (upd H3 g4 (.dK F.nx)) p (.ins C dx (aB "nexts" (.ref g4) (aB "gates" (.ref g3) (aB "keepers" (.ref g2) (aB "switches" (.ref g1) [])))))=H4 at p4 q4 k4 ⊢
   refine ⟨_,rfl,s5,_,rfl,.inl (k4 _ _ (k3 _ _ (k2 _ _ (k1 _ _ hF.h5 m5) m5) m5) m5),λg5 e5=>?_⟩
   obtain ⟨p5,q5,r5,k5⟩:=eJ (o:=.dK F.nv) (fs':=aB "nevers" (.ref g5) (aB "nexts" (.ref g4) (aB "gates" (.ref g3) (aB "keepers" (.ref g2) (aB "switches" (.ref g1) []))))) p4 e5
   have b5:g5≠p:=(af p4 e5).symm
   refine ⟨_,rfl,p,C,dx,_,rfl,r5,T.cl,T.n5,lF (aZ (aZ (aZ (aZ (Nat.le_refl _))))) (by show 4<1000; decide),?_⟩
   generalize upd (upd H4 g5 (.dK F.nv)) p (.ins C dx (aB "nevers" (.ref g5) (aB "nexts" (.ref g4) (aB "gates" (.ref g3) (aB "keepers" (.ref g2) (aB "switches" (.ref g1) []))))))=H5 at p5 q5 k5 ⊢
   refine ⟨_,rfl,s6,_,rfl,.inl (k5 _ _ (k4 _ _ (k3 _ _ (k2 _ _ (k1 _ _ hF.h6 m6) m6) m6) m6) m6),λg6 e6=>?_⟩
   obtain ⟨p6,q6,r6,k6⟩:=eJ (o:=.dK F.sm) (fs':=ll g1 g2 g3 g4 g5 g6) p5 e6
   have b6:g6≠p:=(af p5 e6).symm
   refine ⟨_,rfl,p,C,dx,_,rfl,r6,T.cl,T.n6,lF (aZ (aZ (aZ (aZ (aZ (Nat.le_refl _)))))) (by show 5<1000; decide),?_⟩
   refine kk g1 g2 g3 g4 g5 g6 _ ?_ ?nd p6 ⟨k6 _ _ (k5 _ _ (k4 _ _ (k3 _ _ (k2 _ _ q1 b1) b1) b1) b1) b1,k6 _ _ (k5 _ _ (k4 _ _ (k3 _ _ q2 b2) b2) b2) b2,k6 _ _ (k5 _ _ (k4 _ _ q3 b3) b3) b3,k6 _ _ (k5 _ _ q4 b4) b4,k6 _ _ q5 b5,q6⟩
    (λb o hb nb=>k6 _ _ (k5 _ _ (k4 _ _ (k3 _ _ (k2 _ _ (k1 _ _ hb nb) nb) nb) nb) nb) nb)
   have z1:∀{g},g≠p->H1 g=none->H g=none:=λn e=>jJ k1 e n
   have z2:∀{g},g≠p->H2 g=none->H g=none:=λn e=>z1 n (jJ k2 e n)
   have z3:∀{g},g≠p->H3 g=none->H g=none:=λn e=>z2 n (jJ k3 e n)
   have z4:∀{g},g≠p->H4 g=none->H g=none:=λn e=>z3 n (jJ k4 e n)
   have z5:∀{g},g≠p->H5 g=none->H g=none:=λn e=>z4 n (jJ k5 e n)
   case nd=>
    have d12:=af q1 e2
    have d13:=af (k2 _ _ q1 b1) e3
    have d14:=af (k3 _ _ (k2 _ _ q1 b1) b1) e4
    have d15:=af (k4 _ _ (k3 _ _ (k2 _ _ q1 b1) b1) b1) e5
    have d16:=af (k5 _ _ (k4 _ _ (k3 _ _ (k2 _ _ q1 b1) b1) b1) b1) e6
    have d23:=af q2 e3
    have d24:=af (k3 _ _ q2 b2) e4
    have d25:=af (k4 _ _ (k3 _ _ q2 b2) b2) e5
    have d26:=af (k5 _ _ (k4 _ _ (k3 _ _ q2 b2) b2) b2) e6
    have d34:=af q3 e4
    have d35:=af (k4 _ _ q3 b3) e5
    have d36:=af (k5 _ _ (k4 _ _ q3 b3) b3) e6
    have d45:=af q4 e5
    have d46:=af (k5 _ _ q4 b4) e6
    have d56:=af q5 e6
    simp only [List.nodup_cons,List.mem_cons,List.not_mem_nil,or_false,not_or,List.nodup_nil,and_true,not_false_eq_true]
    exact ⟨⟨d12,d13,d14,d15,d16⟩,⟨d23,d24,d25,d26⟩,⟨d34,d35,d36⟩,⟨d45,d46⟩,d56⟩
   intro g hg
   simp only [List.mem_cons,List.not_mem_nil,or_false] at hg
   rcases hg with rfl | rfl | rfl | rfl | rfl | rfl
   . exact e1
   . exact z1 b2 e2
   . exact z2 b3 e3
   . exact z3 b4 e4
   . exact z4 b5 e5
   . exact z5 b6 e6
end
end Gen
namespace Gen
open PySem L2
theorem vn (z:Str):z=⟨z.cps.toList.toArray⟩:=by cases z; simp
theorem lL (x:Str):(("~" : Str)++x).cps.toList=126::x.cps.toList:=by
 have e:("~" : Str)=⟨#[126]⟩:=by decide +kernel
 rw [e]
 show (#[126]++x.cps).toList=_
 simp
def b7 (l:List (Str×V)):List (Key×V):=l.map λr=>((.inr r.1:Key),r.2)
def cv (l:List (Str×Str)):List (Key×V):=l.map λr=>((.inr r.1:Key),V.str r.2)
theorem n9 (n:Str):∀l:List (Str×V),(cq (b7 l) (.inr n)).isSome=decide (n∈l.map (·.1))
 | []=>by simp [b7,cq]
 | r::l=>by
  have ih:=n9 n l
  by_cases e:r.1=n
  . have h1:cq (b7 (r::l)) (.inr n)=some r.2:=gw (p:=((.inr r.1:Key),r.2)) (by rw [e])
    rw [h1]
    simp [e]
  . have h1:cq (b7 (r::l)) (.inr n)=cq (b7 l) (.inr n):=f7 (p:=((.inr r.1:Key),r.2)) (λq=>e (Sum.inr.inj q))
    rw [h1,ih]
    have:¬ n=r.1:=λq=>e q.symm
    simp [this]
theorem IK (l:List (Str×Str)):cv l=b7 (l.map λr=>(r.1,V.str r.2)):=by unfold cv b7; rw [List.map_map]; rfl
theorem G2 {n:Str}{l:List (Str×Str)}(h:n∉l.map (·.1)):cq (cv l) (.inr n)=none:=by
 have:=n9 n (l.map λr=>(r.1,V.str r.2))
 rw [← IK,List.map_map,decide_eq_false (by simpa using h)] at this
 cases e:cq (cv l) (.inr n) with
 | none=>rfl
 | some v=>rw [e] at this; cases this
theorem Dj {z:Str}(h:bw z):¬ z.cps.toList[0]?=some 126:=λe=>by
 have:=jw.mp (h.2.2 126 (List.mem_of_getElem? e))
 omega
def G3 (z:Str):Prop:=z = "0" \/ z = "1" \/ bw z\/∃x,bw x/\z = "~" ++ x
theorem G3.len {z:Str}(h:G3 z):1<=z.length/\z.length<=9:=by
 rcases h with rfl | rfl | h | ⟨x,hx,rfl⟩
 . decide +kernel
 . decide +kernel
 . refine ⟨?_,Nat.le_trans h.len (by decide)⟩
   have:=h.1
   simpa [Str.length] using this
 . have e:=pI "~" x
   have t1:("~" : Str).length=1:=by decide +kernel
   have:=hx.len
   omega
theorem neS {a b:Str}{A B:Prop}(h:a≠b) (q:B):if decide (V.str a=V.str b)=true then A else B:=by
 rw [decide_eq_false (λe=>h (V.str.inj e))]
 exact pD q
theorem eqS {a:Str}{A B:Prop}(q:A):if decide (V.str a=V.str a)=true then A else B:=by
 rw [decide_eq_true rfl]
 exact yu q
theorem jt {α:Type}{l pre post:List α}{i:Nat}(h:(pre++l++post).Nodup) (hi:i<l.length):l[i]∉pre++l.take i:=by
 have e:l=l.take i++l[i]::l.drop (i+1):=by rw [← List.drop_eq_getElem_cons hi,List.take_append_drop]
 have h1:(pre++l).Nodup:=(List.nodup_append.mp h).1
 have h2:((pre++l.take i)++l[i]::l.drop (i+1)).Nodup:=by rw [List.append_assoc,← e]; exact h1
 intro hm
 exact (List.nodup_append.mp h2).2.2 _ hm _ List.mem_cons_self rfl
theorem eu.same {H H':Hp}{m:Addr}{M:aN}{a1 a2 a3 a4 a5 a6:Addr}(h:eu H m M a1 a2 a3 a4 a5 a6) (s:aj H H'):eu H' m M a1 a2 a3 a4 a5 a6:=
 ⟨s _ _ h.top,s _ _ h.sw,h.kp.same s,h.gt.same s,h.nx.same s,h.nv.same s,h.sm.same s⟩
theorem at0 {x:V}{r:List V} : iq (x::r) 0=some x:=cV (j:=0) rfl
end Gen
namespace Gen
open PySem L2
def dk (vv:List (Str×Int)):List (Key×V):=vv.map λr=>((.inr r.1:Key),V.int r.2)
def bT (vv:List (Str×Int)) (n:Str):Int:=((vv.find? λr=>decide (r.1=n)).map (·.2)).getD 0
theorem QL (vv:List (Str×Int)):dk vv=b7 (vv.map λr=>(r.1,V.int r.2)):=by unfold dk b7; rw [List.map_map]; rfl
theorem G4 {n:Str}{l:List (Str×Int)}(h:n∉l.map (·.1)):cq (dk l) (.inr n)=none:=by
 have:=n9 n (l.map λr=>(r.1,V.int r.2))
 rw [← QL,List.map_map,decide_eq_false (by simpa using h)] at this
 cases e:cq (dk l) (.inr n) with
 | none=>rfl
 | some v=>rw [e] at this; cases this
theorem zl {n:Str} : ∀{l:List (Str×Int)},n∈l.map (·.1)->cq (dk l) (.inr n)=some (.int (bT l n))
 | [],h=>by cases h
 | r::l,h=>by
  by_cases e:r.1=n
  . have h1:cq (dk (r::l)) (.inr n)=some (.int r.2):=gw (p:=((.inr r.1:Key),V.int r.2)) (by rw [e])
    rw [h1]
    unfold bT
    rw [List.find?_cons_of_pos (by simpa using e)]
    rfl
  . have h1:cq (dk (r::l)) (.inr n)=cq (dk l) (.inr n):=f7 (p:=((.inr r.1:Key),V.int r.2)) (λq=>e (Sum.inr.inj q))
    rw [h1,zl (l:=l) (by
     rw [List.map_cons,List.mem_cons] at h
     rcases h with h | h
     . exact absurd h.symm e
     . exact h)]
    unfold bT
    rw [List.find?_cons_of_neg (by simpa using e)]
def cN (vv:List (Str×Int)) (l:Str):Int:=if l = "0" then 0 else if l = "1" then 1 else if l.cps.toList[0]?=some 126 then 1-bT vv ⟨l.cps.toList.tail.toArray⟩ else bT vv l
def j8 (vv:List (Str×Int)) (l:Str):Prop:=l = "0" \/ l = "1" \/ (bw l/\l∈vv.map (·.1))\/∃x,bw x/\x∈vv.map (·.1)/\l = "~" ++ x
theorem uB (vv:List (Str×Int)):cN vv "0" = 0:=by rw [cN,if_pos rfl]
theorem uC (vv:List (Str×Int)):cN vv "1" = 1:=by rw [cN,if_neg (by decide +kernel),if_pos rfl]
theorem BD {z:Str}(h:bw z):z ≠ "0" /\ z ≠ "1" /\ ¬ z.cps.toList[0]?=some 126:=by
 have hl:∀c,z.cps.toList[0]?=some c->97<=c:=λc e=>(jw.mp (h.2.2 c (List.mem_of_getElem? e))).1
 refine ⟨λe=>?_,λe=>?_,Dj h⟩
 . have:=hl 48 (by rw [e]; decide +kernel)
   omega
 . have:=hl 49 (by rw [e]; decide +kernel)
   omega
theorem zm (x:Str):("~" : Str)++x ≠ "0" /\ ("~" : Str)++x ≠ "1":=by
 have hl:=lL x
 refine ⟨λe=>?_,λe=>?_⟩
 . rw [e] at hl
   have:(("0" : Str).cps.toList)[0]?=some 48:=by decide +kernel
   rw [hl] at this
   exact absurd this (by simp)
 . rw [e] at hl
   have:(("1" : Str).cps.toList)[0]?=some 49:=by decide +kernel
   rw [hl] at this
   exact absurd this (by simp)
theorem lM {vv:List (Str×Int)}{z:Str}(h:bw z):cN vv z=bT vv z:=by
 obtain ⟨a,b,c⟩:=BD h
 rw [cN,if_neg a,if_neg b,if_neg c]
theorem j9 {vv:List (Str×Int)}{x:Str} : cN vv ("~" ++ x)=1-bT vv x:=by
 obtain ⟨a,b⟩:=zm x
 rw [cN,if_neg a,if_neg b,lL,if_pos (show (126::x.cps.toList)[0]?=some 126 from rfl)]
 rw [show (⟨(126::x.cps.toList).tail.toArray⟩:Str)=x from (vn x).symm]
def sR (vv:List (Str×Int)):Prop:=∀r∈vv,r.2=0\/r.2=1
theorem lN {vv:List (Str×Int)}(h:sR vv) (n:Str):bT vv n=0\/bT vv n=1:=by
 unfold bT
 cases e:vv.find? λr=>decide (r.1=n) with
 | none=>exact .inl rfl
 | some r=>exact h r (List.mem_of_find?_eq_some e)
theorem lq {vv:List (Str×Int)}(h:sR vv) (l:Str):cN vv l=0\/cN vv l=1:=by
 unfold cN
 split
 . exact .inl rfl
 . split
   . exact .inr rfl
   . split
     . rcases lN h ⟨l.cps.toList.tail.toArray⟩ with e | e <;> rw [e]
       . exact .inr rfl
       . exact .inl rfl
     . exact lN h l
def d9 (acc:List (Str×Int)) (g:Str×Str×Str):List (Str×Int):=acc++[(g.1,cN acc g.2.1*cN acc g.2.2)]
def i3 (M:aN) (bs cs:List Int):List (Str×Int):=M.switches.zip bs++(M.keepers.map (·.1)).zip cs
def cJ (M:aN) (bs cs:List Int) (i:Nat):List (Str×Int):=(M.gates.take i).foldl d9 (i3 M bs cs)
theorem wJ:∀(gs:List (Str×Str×Str)) (acc:List (Str×Int)),(gs.foldl d9 acc).map (·.1)=acc.map (·.1)++gs.map (·.1)
 | [],acc=>by simp
 | g::gs,acc=>by
  rw [List.foldl_cons,wJ gs,d9,List.map_append,List.map_cons,List.append_assoc]
  rfl
theorem eT {α β:Type} : ∀{l:List α}{r:List β},l.length=r.length->(l.zip r).map (·.1)=l
 | [],[],_=>rfl
 | x::l,y::r,h=>by
  rw [List.zip_cons_cons,List.map_cons,eT (by simpa using h)]
theorem jK {M:aN}{bs cs:List Int}(h1:M.switches.length=bs.length) (h2:M.keepers.length=cs.length) (i:Nat):(cJ M bs cs i).map (·.1)=M.switches++M.keepers.map (·.1)++(M.gates.take i).map (·.1):=by
 unfold cJ i3
 rw [wJ,List.map_append,eT h1,eT (by rw [List.length_map]; exact h2)]
theorem p9 {M:aN}{bs cs:List Int}{i:Nat}(hi:i<M.gates.length):cJ M bs cs (i+1)=d9 (cJ M bs cs i) M.gates[i]:=by
 unfold cJ
 rw [List.take_succ,List.getElem?_eq_getElem hi,List.foldl_append]
 rfl
theorem zp {l:List Str}{bs:List Int}(h:∀b∈bs,b=0\/b=1):sR (l.zip bs):=λr hr=>h r.2 (List.of_mem_zip hr).2
theorem jL {M:aN}{bs cs:List Int}(h1:∀b∈bs,b=0\/b=1) (h2:∀b∈cs,b=0\/b=1) (i:Nat):sR (cJ M bs cs i):=by
 have base:sR (i3 M bs cs):=λr hr=>by
  rcases List.mem_append.mp hr with hr | hr
  . exact zp h1 r hr
  . exact zp h2 r hr
 have all:∀(gs:List (Str×Str×Str)) (acc:List (Str×Int)),sR acc->sR (gs.foldl d9 acc):=by
  intro gs
  induction gs with
  | nil=>intro acc h; exact h
  | cons g gs ih=>
   intro acc h
   refine ih _ λr hr=>?_
   rcases List.mem_append.mp hr with hr | hr
   . exact h r hr
   . rw [List.mem_singleton.mp hr]
     show cN acc g.2.1*cN acc g.2.2=0\/cN acc g.2.1*cN acc g.2.2=1
     rcases lq h g.2.1 with e | e <;> rcases lq h g.2.2 with e' | e' <;> rw [e,e'] <;> simp
 exact all _ _ base
theorem vo {acc:List (Str×Int)}{n:Str}{v:Int}(h:n∉acc.map (·.1)):putK (dk acc) (.inr n) (.int v)=dk (acc++[(n,v)]):=by
 rw [nK _ (G4 h)]
 unfold dk
 rw [List.map_append]
 rfl
theorem Lit.IL {names:List Str}{z:Str}{vv:List (Str×Int)}(h:Lit names z) (hn:∀x∈names,bw x) (hs:∀x∈names,x∈vv.map (·.1)):j8 vv z:=by
 rcases h with h | h | ⟨x,hx,h | h⟩
 . exact .inl h
 . exact .inr (.inl h)
 . exact .inr (.inr (.inl ⟨h ▸ hn x hx,h ▸ hs x hx⟩))
 . exact .inr (.inr (.inr ⟨x,hn x hx,hs x hx,h⟩))
theorem j8.len {vv:List (Str×Int)}{z:Str}(h:j8 vv z):1<=z.length/\z.length<=9:=by
 have hf:G3 z:=by
  rcases h with h | h | ⟨h,_⟩ | ⟨x,h,_,e⟩
  . exact .inl h
  . exact .inr (.inl h)
  . exact .inr (.inr (.inl h))
  . exact .inr (.inr (.inr ⟨x,h,e⟩))
 exact hf.len
end Gen
namespace Gen
open PySem L2
abbrev vp:Stmt:=top 21
inductive BE (vs:List V) (H:Hp) (Q:VK):Prop
 | mk (d:Addr) (vv:List (Str×Int)) (l:Str) (h1:vs=[.ref d,.str l]) (h2:Rd H d (.dK (dk vv))) (h3:j8 vv l) (h4:∀H',aj H H'->Q (.int (cN vv l)) H'):BE vs H Q
def qa:Sp:=λvs H Q _=>BE vs H Q
theorem zq {H:Hp}{d:Addr}{vv:List (Str×Int)}{n:Str}(h:Rd H d (.dK (dk vv))) (hn:n∈vv.map (·.1)):cw H d (.str n) (some (.int (bT vv n))):=.inl ⟨dk vv,.inr n,h,rfl,(zl hn).symm⟩
section
variable {P:Program}{w:World}{K:W.Frag}{mg:Str->Option Value}{base:Heap}
theorem QM:aQ ["_law_values_here", "_law_literal_here"] ["_law_values_here", "_law_literal_here"] (au vp):=⟨rfl,rfl,rfl,by decide +kernel,rfl,by decide +kernel,by decide +kernel⟩
theorem M3 {f:Addr}{fd:FuncData}(F:cC K "_law_bit" "_law_bit" vp f fd) (O:eY mg):aw P w K mg base aD 1 f fd ["_law_values_here", "_law_literal_here"] qa:=by
 refine F.ok QM (λvs H Q E h=>?_) (λcdv A outer s H vs Q E hr h=>?_)
 . obtain ⟨d,vv,l,rfl,_⟩:=h
   rfl
 . obtain ⟨d,vv,l,rfl,hd,hl,kk⟩:=h
   have hu:=eZ hr
   have M4:l.length<=sizeLine:=Nat.le_trans hl.len.2 (by decide)
   refine ⟨_,ak (bY (a8 lG (pv 1) (eh (ae aO (ae aO ah))) (by with_unfolding_all rfl)) (ar (aT (aL ze (by rfl) O.int PyProof.Rows.boot_int (ae (pv 1) ah)))) aY)
    (ak (bY (a8 iU (bz tY (pv 1) av (λ_ _=>rfl)) aO (bp _)) (ar (aT (aH jC av (cb hu (pv 0) (jk BA (pv 1) (kh av) kg) (λ_ _=>rfl))))) aY)
    (ar (aT (cb hu (pv 0) (pv 1) (λ_ _=>rfl))))),?_⟩
   refine ⟨_,rfl,(by show 2<=sizeLine; decide),λt ht=>?_⟩
   have st:aj H (upd H t (.tup [.str "0",.str "1"])):=aj.ao ht
   have hd':Rd (upd H t (.tup [.str "0",.str "1"])) d (.dK (dk vv)):=by
    rcases hd with hd | ⟨o,hd⟩
    . exact .inl (st _ _ hd)
    . exact .inr ⟨o,st _ _ hd⟩
   have k0:=kk _ st
   refine ⟨t,_,rfl,.inr (aR.of ag),rfl,rfl,_,rfl,?_⟩
   show if px (.str l) [.str "0",.str "1"]=true then _ else _
   have zr:l ≠ "0" -> l ≠ "1" -> px (.str l) [.str "0",.str "1"]=false:=λa b=>by
    have:=vb l ["0", "1"]
    rw [show px (V.str l) [.str "0",.str "1"]=decide (l∈(["0", "1"]:List Str)) from this]
    exact decide_eq_false (by simp [a,b])
   have tl:("~" : Str)=⟨#[126]⟩:=by decide +kernel
   rcases hl with rfl | rfl | ⟨hn,hm⟩ | ⟨x,hn,hm,rfl⟩
   . rw [uB] at k0
     rw [show px (V.str "0") [.str "0",.str "1"]=true from by decide +kernel]
     exact yu ⟨_,rfl, "0",0,rfl,by decide +kernel,by decide +kernel,k0⟩
   . rw [uC] at k0
     rw [show px (V.str "1") [.str "0",.str "1"]=true from by decide +kernel]
     exact yu ⟨_,rfl, "1",1,rfl,by decide +kernel,by decide +kernel,k0⟩
   . obtain ⟨n0,n1,n2⟩:=BD hn
     rw [lM hn] at k0
     rw [zr n0 n1]
     refine pD ?_
     obtain ⟨c,hc⟩:∃c,l.cps.toList[0]?=some c:=⟨_,List.getElem?_eq_getElem (by have:=hn.1; omega)⟩
     have QN:c≠126:=λe=>n2 (by rw [hc,e])
     refine ⟨_,rfl,l,0,c,rfl,rfl,M4,cV (j:=0) hc,rfl,_,rfl,neS (λq=>QN (by
      rw [tl] at q
      have e2:=congrArg (λs:Str=>s.cps.toList) q
      simpa using e2)) ?_⟩
     exact ⟨_,rfl,_,rfl,d,_,rfl,zq hd' hm,k0⟩
   . obtain ⟨n0,n1⟩:=zm x
     rw [j9] at k0
     rw [zr n0 n1]
     refine pD ?_
     have e0:(("~" : Str)++x).cps.toList[0]?=some 126:=by rw [lL]; rfl
     refine ⟨_,rfl,_,0,126,rfl,rfl,M4,cV (j:=0) e0,rfl,_,rfl,?_⟩
     rw [show (⟨#[126]⟩:Str) = "~" from tl.symm]
     refine eqS ?_
     refine ⟨_,rfl,_,rfl,_,rfl,_,1,rfl,rfl,rfl,M4,?_⟩
     have ts:Txt.slice (("~" : Str)++x) (some 1) none=x:=by
      rw [vn (Txt.slice (("~" : Str)++x) (some 1) none),uz,lL]
      exact (vn x).symm
     rw [ts]
     exact ⟨d,_,rfl,zq hd' hm,_,_,rfl,rfl,k0⟩
end
end Gen
namespace Gen
open PySem L2
structure gr (M:aN) (names:List Str) (bs cs:List Int):Prop where
 ok:mH M names
 l1:M.switches.length=bs.length
 l2:M.keepers.length=cs.length
 b1:∀b∈bs,b=0\/b=1
 b2:∀b∈cs,b=0\/b=1
 n1:M.switches.length<=12
 n2:M.keepers.length<=16
 n3:M.gates.length<=60
section
variable {M:aN}{names:List Str}{bs cs:List Int}
theorem gr.nd (h:gr M names bs cs):(M.switches++M.keepers.map (·.1)++M.gates.map (·.1)).Nodup:=by have:=h.ok.nd; rw [h.ok.all] at this; exact this
theorem gr.nm (h:gr M names bs cs):∀z∈M.switches++M.keepers.map (·.1)++M.gates.map (·.1),bw z:=λz hz=>h.ok.nm z (by rw [h.ok.all]; exact hz)
theorem gr.len (h:gr M names bs cs) (i:Nat):(cJ M bs cs i).length<=88:=by
 have:=congrArg List.length (jK h.l1 h.l2 i)
 simp only [List.length_map,List.length_append,List.length_take] at this
 have:=h.n1
 have:=h.n2
 have:=h.n3
 omega
theorem gr.gate (h:gr M names bs cs){i:Nat}(hi:i<M.gates.length):M.gates[i].1∉(cJ M bs cs i).map (·.1)/\j8 (cJ M bs cs i) M.gates[i].2.1/\j8 (cJ M bs cs i) M.gates[i].2.2:=by
 rw [jK h.l1 h.l2]
 have zu:∀x∈M.switches++M.keepers.map (·.1)++(M.gates.take i).map (·.1),bw x:=λx hx=>h.nm x (by
  rcases List.mem_append.mp hx with hx | hx
  . exact List.mem_append_left _ hx
  . obtain ⟨r,hr,e⟩:=List.mem_map.mp hx
    exact List.mem_append_right _ (List.mem_map.mpr ⟨r,List.mem_of_mem_take hr,e⟩))
 obtain ⟨g1,g2⟩:=h.ok.gl i _ (List.getElem?_eq_getElem hi)
 refine ⟨?_,g1.IL zu λx hx=>by rw [jK h.l1 h.l2]; exact hx,g2.IL zu λx hx=>by rw [jK h.l1 h.l2]; exact hx⟩
 have:=jt (l:=M.gates.map (·.1)) (pre:=M.switches++M.keepers.map (·.1)) (post:=[]) (by simpa using h.nd) (i:=i) (by rw [List.length_map]; exact hi)
 rw [List.getElem_map,← List.map_take] at this
 exact this
end
def vq (K:W.Frag) (H:Hp) (t:Addr) (bs:List Int):Prop:=aR K H t (bs.map V.int)
theorem aR.keep {K:W.Frag}{H H':Hp}{u:Addr}{xs:List V}(h:aR K H u xs) (k:∀o,(∀kvs,o≠.dK kvs)->(∀l,o≠.lst l)->H u=some o->H' u=some o):aR K H' u xs:=by
 rcases h with (h | ⟨o,h⟩) | h
 . exact .inl (.inl (k _ (by intro _ z; cases z) (by intro _ z; cases z) h))
 . exact .inl (.inr ⟨o,k _ (by intro _ z; cases z) (by intro _ z; cases z) h⟩)
 . exact .inr h
end Gen
namespace Gen
open PySem L2
abbrev kn:Stmt:=top 20
inductive wK (K:W.Frag) (vs:List V) (H:Hp) (Q:VK):Prop
 | mk (m a1 a2 a3 a4 a5 a6 st tl:Addr) (M:aN) (names:List Str) (bs cs:List Int) (h1:vs=[.ref m,.ref st,.ref tl]) (h2:eu H m M a1 a2 a3 a4 a5 a6) (h3:gr M names bs cs) (h4:vq K H st cs) (h5:vq K H tl bs) (h6:∀d H',H d=none->aj H H'->H' d=some (.dK (dk (cJ M bs cs M.gates.length)))->Q (.ref d) H'):wK K vs H Q
def oa (K:W.Frag):Sp:=λvs H Q _=>wK K vs H Q
abbrev nVs:List Str:=["_law_m", "_law_stand", "_law_told", "_law_values_here", "_law_name", "_law_bit_here", "_law_keeper", "_law_one", "_law_other"]
abbrev lO:List Str:=["_law_m", "_law_stand", "_law_told"]
theorem og {α β:Type}{l:List α}{r:List β}{i:Nat}(h1:i<l.length) (h2:i<r.length):(l.zip r).take (i+1)=(l.zip r).take i++[(l[i],r[i])]:=by
 rw [List.take_succ,List.getElem?_eq_getElem (by rw [List.length_zip]; omega),List.getElem_zip]
 rfl
section
variable {P:Program}{w:World}{K:W.Frag}{mg:Str->Option Value}{base:Heap}
theorem oh:aQ nVs lO (au kn):=⟨rfl,rfl,rfl,by decide +kernel,rfl,by decide +kernel,by decide +kernel⟩
theorem Fd {f fB:Addr}{fd dB:FuncData}(F:cC K "_law_values" "_law_values" kn f fd) (O:eY mg) (GB:aw P w K mg base aD 1 fB dB ["_law_values_here", "_law_literal_here"] qa) (mB:mg "_law_bit" = some (.ref fB)) (kB:W.keepIn K (.ref fB)=true) (bB:Binds K dB ["_law_values_here", "_law_literal_here"] []):aw P w K mg base aD 2 f fd lO (oa K):=by
 refine F.ok oh (λvs H Q E h=>?_) (λcdv A outer s H vs Q E hr h=>?_)
 . obtain ⟨m,a1,a2,a3,a4,a5,a6,st,tl,M,names,bs,cs,rfl,_⟩:=h
   rfl
 . obtain ⟨m,a1,a2,a3,a4,a5,a6,st,tl,M,names,bs,cs,rfl,hM,hf,gf,mE,kk⟩:=h
   have hu:=eZ hr
   have cI:bg 1 _:=hr
   have l1:=hf.l1
   have l2:=hf.l2
   have n1:=hf.n1
   have n2:=hf.n2
   have n3:=hf.n3
   refine ⟨_,ak (aE (i:=3) oh.nd rfl (Or.inl rfl) yk)
    (ak (cc PassesOwn.never rfl (mU (by rfl) O.zip (ae (cb hu (pv 0) aO (λ_ _=>rfl)) (ae (pv 2) ah))) (eg rfl (aK (ax (i:=4) oh.nd rfl (Or.inl rfl)) (aK (ax (i:=5) oh.nd rfl (Or.inl rfl)) cU)))
     (ar (jj hu (pv 3) (pv 4) (pv 5) rfl)))
    (ak (cc PassesOwn.never rfl (mU (by rfl) O.zip (ae (cb hu (pv 0) aO (λ_ _=>rfl)) (ae (pv 1) ah))) (eg rfl (aK (ax (i:=6) oh.nd rfl (Or.inl rfl)) (aK (ax (i:=5) oh.nd rfl (Or.inl rfl)) cU)))
     (ar (jj hu (pv 3) (bz mm (pv 6) av (λ_ _=>rfl)) (pv 5) rfl)))
    (ak (cc PassesOwn.never rfl (bU (cb hu (pv 0) aO (λ_ _=>rfl))) (eg rfl (aK (ax (i:=4) oh.nd rfl (Or.inl rfl)) (aK (ax (i:=7) oh.nd rfl (Or.inl rfl)) (aK (ax (i:=8) oh.nd rfl (Or.inl rfl)) cU))))
     (ar (jj hu (pv 3) (pv 4) (aH ft (aA GB cI rfl mB kB bB .nil az (ae (pv 3) (ae (pv 7) ah))) (aA GB cI rfl mB kB bB .nil az (ae (pv 3) (ae (pv 8) ah)))) rfl)))
    (ar (aT (pv 3)))))),?_⟩
   intro d hd
   have kp:∀b o,H b=some o->b≠d:=λb o hb=>af hb hd
   have s1:aj H (upd H d (.dK [])):=aj.ao hd
   have q1:(upd H d (.dK [])) d=some (.dK (dk ((M.switches.zip bs).take 0))):=ag
   generalize upd H d (.dK [])=H1 at s1 q1 ⊢
   have jM:=hM.same s1
   have ndS:M.switches.Nodup:=(List.nodup_append.mp (List.nodup_append.mp hf.nd).1).1
   refine ⟨_,rfl,m,.ref a1,rfl,cw.k (k:=.inr "switches") jM.top,_,rfl,a1,tl,rfl,⟨_,aq.of jM.sw⟩,⟨_,aj.jn s1 mE⟩,qB (K:=K) (tp:=false) (tq:=true) (a:=a1) (b:=tl) (xs:=M.switches.map V.str) (ys:=bs.map V.int) (by simp only [List.length_map]; omega)
    (λi σ H2=>∃v4 v5,σ=[some (.ref m),some (.ref st),some (.ref tl),some (.ref d),v4,v5,none,none,none]/\H2 d=some (.dK (dk ((M.switches.zip bs).take i)))/\aj H H2) ?_ ?_ ?_ ?_⟩
   . exact ⟨none,none,rfl,q1,s1⟩
   . rintro i σ H2 _ ⟨_,_,_,_,s2⟩
     exact ⟨aq.of (s2 _ _ hM.sw),aj.jn s2 mE⟩
   . rintro i xv yv Tp σ H2 hx hy hT ⟨v4,v5,rfl,hd2,s2⟩
     have hi:i<M.switches.length:=by
      have:=(List.getElem?_eq_some_iff.mp hx).1
      rwa [List.length_map] at this
     have qb:i<bs.length:=by omega
     have ex:xv=.str M.switches[i]:=by
      rw [List.getElem?_map,List.getElem?_eq_getElem hi] at hx
      exact (Option.some.inj hx).symm
     have ey:yv=.int bs[i]:=by
      rw [List.getElem?_map,List.getElem?_eq_getElem qb] at hy
      exact (Option.some.inj hy).symm
     subst ex ey
     have M5:d≠Tp:=af hd2 hT
     have Wm:(upd H2 Tp (.tup [.str M.switches[i],.int bs[i]])) d=some (.dK (dk ((M.switches.zip bs).take i))):=by rw [ai M5]; exact hd2
     refine ⟨Tp,_,rfl,aR.of ag,rfl,_,_,rfl,_,_,rfl,rfl,?_⟩
     refine ⟨_,rfl,_,rfl,_,rfl,d,_,rfl,kE.k (k:=.inr M.switches[i]) Wm ?_,?_⟩
     . unfold dk
       rw [List.length_map,List.length_take,List.length_zip]
       exact small (by omega)
     . refine ⟨_,_,rfl,?_,λb o hb=>?_⟩
       . rw [ag,vo,og hi qb]
         rw [List.map_take,eT l1]
         have:=jt (pre:=[]) (post:=[]) (by simpa using ndS) hi
         simpa using this
       . rw [ai (kp b o hb),ai (af (s2 _ _ hb) hT)]
         exact s2 _ _ hb
   rintro σ H2 ⟨v4,v5,rfl,hd2,s2⟩
   rw [List.length_map,List.take_of_length_le (by rw [List.length_zip]; omega)] at hd2
   have iK:=hM.same s2
   obtain ⟨us,wL,cG⟩:=id iK.kp
   have gp:=cG.length
   rw [List.length_map] at gp
   have ndK:=(List.nodup_append.mp hf.nd).1
   refine ⟨_,rfl,m,.ref a2,rfl,cw.k (k:=.inr "keepers") iK.top,_,rfl,a2,st,rfl,⟨_,aq.of wL⟩,⟨_,aj.jn s2 gf⟩,qB (K:=K) (tp:=false) (tq:=true) (a:=a2) (b:=st) (xs:=us.map V.ref) (ys:=cs.map V.int) (by simp only [List.length_map]; omega)
    (λi σ H3=>∃v5 v6,σ=[some (.ref m),some (.ref st),some (.ref tl),some (.ref d),v4,v5,v6,none,none]/\H3 d=some (.dK (dk (M.switches.zip bs++((M.keepers.map (·.1)).zip cs).take i)))/\(∀b o,H2 b=some o->b≠d->H3 b=some o)) ?_ ?_ ?_ ?_⟩
   . exact ⟨v5,none,rfl,by rw [List.take_zero,List.append_nil]; exact hd2,λ_ _ h _=>h⟩
   . rintro i σ H3 _ ⟨_,_,_,_,s3⟩
     refine ⟨aq.of (s3 _ _ wL ?_),aR.keep (aj.jn s2 gf) λo jg _ ho=>s3 _ _ ho (bu ho hd2 (jg _))⟩
     exact bu wL hd2 (by intro z; cases z)
   . rintro i xv yv Tp σ H3 hx hy hT ⟨Te,v6,rfl,hd3,s3⟩
     have hi:i<M.keepers.length:=by
      have:=(List.getElem?_eq_some_iff.mp hx).1
      rw [List.length_map] at this
      omega
     have qb:i<cs.length:=by omega
     obtain ⟨t,ht,By⟩:=a9 cG (i:=i) (b:=iY M.keepers[i]) (by rw [List.getElem?_map,List.getElem?_eq_getElem hi]; rfl)
     have ex:xv=.ref t:=by
      rw [List.getElem?_map,ht] at hx
      exact (Option.some.inj hx).symm
     have ey:yv=.int cs[i]:=by
      rw [List.getElem?_map,List.getElem?_eq_getElem qb] at hy
      exact (Option.some.inj hy).symm
     subst ex ey
     have M5:d≠Tp:=af hd3 hT
     have Wn:(upd H3 Tp (.tup [.ref t,.int cs[i]])) d=some (.dK (dk (M.switches.zip bs++((M.keepers.map (·.1)).zip cs).take i))):=by rw [ai M5]; exact hd3
     have htd:t≠d:=bu By hd2 (by intro z; cases z)
     have uD:=s3 _ _ By htd
     have ntT:t≠Tp:=af uD hT
     refine ⟨Tp,_,rfl,aR.of ag,rfl,_,_,rfl,_,_,rfl,rfl,?_⟩
     refine ⟨_,rfl,_,rfl,_,rfl,t,_,0,.str M.keepers[i].1,rfl,rfl,aR.of (by rw [ai ntT]; exact uD),at0,d,_,rfl,kE.k (k:=.inr M.keepers[i].1) Wn ?_,?_⟩
     . unfold dk
       simp only [List.length_map,List.length_append,List.length_take,List.length_zip]
       exact small (by omega)
     . refine ⟨_,_,rfl,?_,λb o hb BF=>?_⟩
       . rw [ag,vo]
         . rw [og (by rw [List.length_map]; exact hi) qb,List.getElem_map,List.append_assoc]
         . rw [List.map_append,eT l1,List.map_take,eT (by rw [List.length_map]; exact l2)]
           have:=jt (l:=M.keepers.map (·.1)) (pre:=M.switches) (post:=[]) (by simpa using ndK) (i:=i) (by rw [List.length_map]; exact hi)
           rw [List.getElem_map] at this
           exact this
       . rw [ai BF,ai (af (s3 _ _ hb BF) hT)]
         exact s3 _ _ hb BF
   rintro σ H3 ⟨Te,v6,rfl,hd3,s3⟩
   rw [List.length_map,gp,List.take_of_length_le (by rw [List.length_zip,List.length_map]; omega)] at hd3
   have gH:aj H H3:=λb o hb=>s3 _ _ (s2 _ _ hb) (kp b o hb)
   have Tf:=hM.same gH
   obtain ⟨ts,M6,rP⟩:=id Tf.gt
   have jI:=rP.length
   rw [List.length_map] at jI
   refine ⟨_,rfl,m,.ref a3,rfl,cw.k (k:=.inr "gates") Tf.top,a3,rfl,⟨_,aq.of M6⟩,d7 (K:=K) (a:=a3) (xs:=ts.map V.ref) (λi σ H4=>∃v4 v7 v8,σ=[some (.ref m),some (.ref st),some (.ref tl),some (.ref d),v4,Te,v6,v7,v8]/\H4 d=some (.dK (dk (cJ M bs cs i)))/\(∀b o,H3 b=some o->b≠d->H4 b=some o)) ?_ ?_ ?_ ?_⟩
   . exact ⟨v4,none,none,rfl,hd3,λ_ _ h _=>h⟩
   . rintro i σ H4 _ ⟨_,_,_,_,_,s4⟩
     exact aq.of (s4 _ _ M6 (bu M6 hd3 (by intro z; cases z)))
   . rintro i xv σ H4 hx ⟨v4',v7,v8,rfl,wM,s4⟩
     have pP:i<(ts.map V.ref).length:=(List.getElem?_eq_some_iff.mp hx).1
     rw [List.length_map,jI] at pP
     obtain ⟨t,ht,hT⟩:=a9 rP (i:=i) (b:=ma M.gates[i]) (by rw [List.getElem?_map,List.getElem?_eq_getElem pP]; rfl)
     have ex:xv=.ref t:=by
      rw [List.getElem?_map,ht] at hx
      exact (Option.some.inj hx).symm
     subst ex
     obtain ⟨dJ,fj,c8⟩:=hf.gate pP
     have hbt:=jL (M:=M) hf.b1 hf.b2 i
     refine ⟨t,_,rfl,aR.of (s4 _ _ hT (bu hT hd3 (by intro z; cases z))),rfl,_,_,rfl,_,_,rfl,_,_,rfl,rfl,?_⟩
     refine ⟨_,rfl,_,rfl,d,_,_,rfl,.inl wM,fj,λH5 s5=>?_⟩
     refine ⟨_,rfl,_,rfl,d,_,_,rfl,.inl (s5 _ _ wM),c8,λH6 s6=>?_⟩
     have hd6:=s6 _ _ (s5 _ _ wM)
     have hlen:=hf.len i
     refine ⟨_,_,rfl,rfl,.inl ?_,?_⟩
     . rcases lq hbt M.gates[i].2.1 with e | e <;> rw [e] <;> decide
     refine ⟨_,rfl,_,rfl,d,_,rfl,kE.k (k:=.inr M.gates[i].1) hd6 (by unfold dk; rw [List.length_map]; exact small (by omega)),?_⟩
     refine ⟨_,_,_,rfl,?_,λb o hb BF=>?_⟩
     . rw [ag,vo dJ,p9 pP]
       rfl
     . rw [ai BF]
       exact s6 _ _ (s5 _ _ (s4 _ _ hb BF))
   . rintro σ H4 ⟨v4',v7,v8,rfl,wM,s4⟩
     rw [List.length_map,jI] at wM
     exact ⟨_,rfl,kk d H4 hd (λb o hb=>s4 _ _ (gH _ _ hb) (kp b o hb)) wM⟩
end
end Gen
namespace Gen
open PySem L2
def cg (l:List (Str×Str)) (n:Str):Str:=((l.find? λr=>decide (r.1=n)).map (·.2)).getD n
theorem zv (n:Str):∀l:List (Str×Str),(cq (cv l) (.inr n)).getD (.str n)=.str (cg l n)
 | []=>rfl
 | r::l=>by
  by_cases e:r.1=n
  . have h1:cq (cv (r::l)) (.inr n)=some (.str r.2):=gw (p:=((.inr r.1:Key),V.str r.2)) (by rw [e])
    rw [h1,cg,List.find?_cons_of_pos (by simpa using e)]
    rfl
  . have h1:cq (cv (r::l)) (.inr n)=cq (cv l) (.inr n):=f7 (p:=((.inr r.1:Key),V.str r.2)) (λq=>e (Sum.inr.inj q))
    rw [h1,zv n l,cg,cg,List.find?_cons_of_neg (by simpa using e)]
def hU (M:aN) (bs cs:List Int):List Int:=M.keepers.map λr=>cN (cJ M bs cs M.gates.length) (cg M.nexts r.1)
section
variable {M:aN}{names:List Str}{bs cs:List Int}
theorem gr.keys (h:gr M names bs cs):(cJ M bs cs M.gates.length).map (·.1)=names:=by rw [jK h.l1 h.l2,List.take_length,h.ok.all]
theorem gr.next (h:gr M names bs cs){r:Str×V}(hr:r∈M.keepers):j8 (cJ M bs cs M.gates.length) (cg M.nexts r.1):=by
 have hk:=h.keys
 unfold cg
 cases e:M.nexts.find? λq=>decide (q.1=r.1) with
 | none=>
  have hm:r.1∈names:=by rw [h.ok.all]; exact List.mem_append_left _ (List.mem_append_right _ (List.mem_map.mpr ⟨r,hr,rfl⟩))
  exact .inr (.inr (.inl ⟨h.ok.nm _ hm,by rw [hk]; exact hm⟩))
 | some q=>exact (h.ok.nxl q (List.mem_of_find?_eq_some e)).IL h.ok.nm λx hx=>by rw [hk]; exact hx
theorem wN:(hU M bs cs).length=M.keepers.length:=by unfold hU; rw [List.length_map]
theorem gr.Fe (h:gr M names bs cs):∀b∈hU M bs cs,b=0\/b=1:=λb hb=>by
 obtain ⟨r,_,rfl⟩:=List.mem_map.mp hb
 exact lq (jL h.b1 h.b2 _) _
end
def du (M:aN) (cs:List Int) (bss:List (List Int)):List Int:=bss.foldl (λc b=>hU M b c) cs
def runs (M:aN) (cs:List Int) (bss:List (List Int)) (n:Nat):List (List Int):=(List.range n).map λi=>du M cs (bss.take i)
theorem uE {M:aN}{cs:List Int}{bss:List (List Int)}{i:Nat}(h:i<bss.length):du M cs (bss.take (i+1))=hU M bss[i] (du M cs (bss.take i)):=by
 unfold du
 rw [List.take_succ,List.getElem?_eq_getElem h,List.foldl_append]
 rfl
theorem wO (M:aN) (cs:List Int) (bss:List (List Int)) (n:Nat):runs M cs bss (n+1)=runs M cs bss n++[du M cs (bss.take n)]:=by
 unfold runs
 rw [List.range_succ,List.map_append]
 rfl
theorem om (M:aN) (cs:List Int) (bss:List (List Int)) (n:Nat):(runs M cs bss n).length=n:=by
 unfold runs
 rw [List.length_map,List.length_range]
structure Fm (M:aN) (names:List Str):Prop where
 ok:mH M names
 n1:M.switches.length<=12
 n2:M.keepers.length<=16
 n3:M.gates.length<=60
def fg (n:Nat) (bs:List Int):Prop:=n=bs.length/\∀b∈bs,b=0\/b=1
theorem Fm.fit {M:aN}{names:List Str}{bs cs:List Int}(h:Fm M names) (hb:fg M.switches.length bs) (hc:fg M.keepers.length cs):gr M names bs cs:=⟨h.ok,hb.1,hc.1,hb.2,hc.2,h.n1,h.n2,h.n3⟩
theorem Fm.step {M:aN}{names:List Str}{bs cs:List Int}(h:Fm M names) (hb:fg M.switches.length bs) (hc:fg M.keepers.length cs):fg M.keepers.length (hU M bs cs):=⟨wN.symm,(h.fit hb hc).Fe⟩
theorem Fm.du {M:aN}{names:List Str}(h:Fm M names):∀{bss:List (List Int)}{cs:List Int},(∀bs∈bss,fg M.switches.length bs)->fg M.keepers.length cs->fg M.keepers.length (Gen.du M cs bss)
 | [],_,_,hc=>hc
 | b::r,cs,hb,hc=>Fm.du h (bss:=r) (cs:=hU M b cs) (λx hx=>hb x (List.mem_cons_of_mem _ hx)) (h.step (hb b List.mem_cons_self) hc)
theorem uF {a b:List (Str×Int)}{n:Str}(h:n∈a.map (·.1)):bT (a++b) n=bT a n:=by
 unfold bT
 rw [List.find?_append]
 cases e:a.find? λr=>decide (r.1=n) with
 | some r=>rfl
 | none=>
  obtain ⟨r,hr,he⟩:=List.mem_map.mp h
  have:=List.find?_eq_none.mp e r hr
  exact absurd (decide_eq_true he) (by simpa using this)
theorem rQ {a b:List (Str×Int)}{n:Str}(h:n∉a.map (·.1)):bT (a++b) n=bT b n:=by
 unfold bT
 rw [List.find?_append]
 have e:(a.find? λr=>decide (r.1=n))=none:=List.find?_eq_none.mpr λr hr=>by
  simp only [decide_eq_true_eq]
  intro q
  exact h (List.mem_map.mpr ⟨r,hr,q⟩)
 rw [e]
 rfl
theorem hV:∀(gs:List (Str×Str×Str)) (acc:List (Str×Int)) (n:Str),n∈acc.map (·.1)->bT (gs.foldl d9 acc) n=bT acc n
 | [],_,_,_=>rfl
 | g::gs,acc,n,h=>by
  rw [List.foldl_cons,hV gs (d9 acc g) n (by unfold d9; rw [List.map_append]; exact List.mem_append_left _ h)]
  exact uF h
theorem qc:∀{ks:List Str}{cs:List Int}{i:Nat}(h:i<ks.length) (h2:i<cs.length),ks.Nodup->bT (ks.zip cs) ks[i]=cs[i]
 | k::ks,c::cs,0,_,_,_=>by
  unfold bT
  rw [List.zip_cons_cons,List.find?_cons_of_pos (by simp)]
  rfl
 | k::ks,c::cs,i+1,h,h2,nd=>by
  have hn:¬ k=ks[i]'(by simpa using h):=λe=>(List.nodup_cons.mp nd).1 (e ▸ List.getElem_mem _)
  have ih:=qc (ks:=ks) (cs:=cs) (i:=i) (by simpa using h) (by simpa using h2) (List.nodup_cons.mp nd).2
  unfold bT at ih ⊢
  rw [List.zip_cons_cons,List.getElem_cons_succ,List.find?_cons_of_neg (by simpa using hn),ih,List.getElem_cons_succ]
end Gen
namespace Gen
open PySem L2
abbrev qG:Stmt:=top 22
theorem dQ.k {K:W.Frag}{H:Hp}{t:Addr}{bs:List Int}(h:H t=some (.tup (bs.map V.int))):vq K H t bs:=aR.of h
def dQ (H:Hp) (t:Addr) (bs:List Int):Prop:=H t=some (.tup (bs.map V.int))
inductive BG (K:W.Frag) (vs:List V) (H:Hp) (Q:VK):Prop
 | mk (m a1 a2 a3 a4 a5 a6 st tl:Addr) (M:aN) (names:List Str) (bs cs:List Int) (h1:vs=[.ref m,.ref st,.ref tl]) (h2:eu H m M a1 a2 a3 a4 a5 a6) (h3:gr M names bs cs) (h4:vq K H st cs) (h5:vq K H tl bs) (h6:∀t H',H t=none->aj H H'->dQ H' t (hU M bs cs)->Q (.ref t) H'):BG K vs H Q
def zw (K:W.Frag):Sp:=λvs H Q _=>BG K vs H Q
abbrev nNx:List Str:=["_law_m", "_law_stand", "_law_told", "_law_values_here", "_law_nexts"]
theorem M7:(["_law_name", "_law_first", "_law_values_here", "_law_nexts"]:List Str).Nodup:=by decide +kernel
theorem lr {α β γ:Type} {F:α->β->Prop}{g:γ->β} : ∀{us:List α}{l:List γ},Paired F us (l.map g)->Paired (λt r=>F t (g r)) us l
 | [],[],_=>.nil
 | _::_,_::_,.cons h t=>.cons h (lr t)
 | _::_,[],h=>nomatch h
 | [],_::_,h=>nomatch h
theorem me {α β γ:Type} {F:α->β->Prop}{g:γ->β} : ∀{us:List α}{l:List γ},Paired (λt r=>F t (g r)) us l->Paired F us (l.map g)
 | _,_,.nil=>.nil
 | _,_,.cons h t=>.cons h (me t)
theorem wQ:∀(l:List (Str×Str)) (acc:List (Str×Str)),((acc++l).map (·.1)).Nodup->de (cv acc) (cv l)=cv (acc++l)
 | [],acc,_=>by rw [List.append_nil]; rfl
 | r::l,acc,h=>by
  have e:acc++r::l=(acc++[r])++l:=by simp
  have hn:r.1∉acc.map (·.1):=λhm=>by
   rw [List.map_append] at h
   exact (List.nodup_append.mp h).2.2 _ hm _ (by simp) rfl
  have h1:putK (cv acc) (.inr r.1) (.str r.2)=cv (acc++[r]):=by
   rw [nK _ (G2 hn)]
   unfold cv
   rw [List.map_append]
   rfl
  show de (putK (cv acc) (.inr r.1) (.str r.2)) (cv l)=_
  rw [h1,e]
  exact wQ l (acc++[r]) (by rw [← e]; exact h)
section
variable {P:Program}{w:World}{K:W.Frag}{mg:Str->Option Value}{base:Heap}
theorem G5:aQ nNx lO (au qG):=⟨rfl,rfl,rfl,by decide +kernel,rfl,by decide +kernel,by decide +kernel⟩
theorem G6 {f fV fB:Addr}{fd dV dB:FuncData}(F:cC K "_law_next" "_law_next" qG f fd) (O2:eY mg)
 (GV:aw P w K mg base aD 2 fV dV lO (oa K)) (mV:mg "_law_values" = some (.ref fV)) (M8:W.keepIn K (.ref fV)=true) (bV:Binds K dV lO [])
 (GB:aw P w K mg base aD 1 fB dB ["_law_values_here", "_law_literal_here"] qa) (mB:mg "_law_bit" = some (.ref fB)) (kB:W.keepIn K (.ref fB)=true) (bB:Binds K dB ["_law_values_here", "_law_literal_here"] []):aw P w K mg base aD 3 f fd lO (zw K):=by
 refine F.ok G5 (λvs H Q E h=>?_) (λcdv A outer s H vs Q E hr h=>?_)
 . obtain ⟨m,a1,a2,a3,a4,a5,a6,st,tl,M,names,bs,cs,rfl,_⟩:=h
   rfl
 . obtain ⟨m,a1,a2,a3,a4,a5,a6,st,tl,M,names,bs,cs,rfl,hM,hf,gf,mE,kk⟩:=h
   have hu:=eZ hr
   have cI:bg 1 _:=hr.mono (by decide)
   refine ⟨_,ak (aE (i:=3) G5.nd rfl (Or.inr rfl) (aA GV hr rfl mV M8 bV .nil az (ae (pv 0) (ae (pv 1) (ae (pv 2) ah)))))
    (ak (aE (i:=4) G5.nd rfl (Or.inr rfl) (aL (cP rfl) (by rfl) O2.dict PyProof.Rows.boot_dict (ae (cb hu (pv 0) aO (λ_ _=>rfl)) ah)))
    (ar (aT (aL jV (by rfl) O2.tuple PyProof.Rows.boot_tuple (ae (cX (N:=["_law_name", "_law_first", "_law_values_here", "_law_nexts"]) (js:=[none,none,some 3,some 4]) (g:=sq K 2 (g8 (dr 0) (g8 (dr 1) so))) (by kernel_rfl) rfl (bU (cb hu (pv 0) aO (λ_ _=>rfl)))
     (λ_ _ _ _ _ _=>eg rfl (aK (ax (i:=0) M7 rfl (Or.inl rfl) (.inr rfl)) (aK (ax (i:=1) M7 rfl (Or.inl rfl) (.inr rfl)) cU))) (λ_ _ _ _ _ _=>bj)
     (λ_ _ _ _ _ _=>aA GB cI rfl mB kB bB .nil az (ae (pv 2) (ae (sD hu (pv 3) (pv 0) (pv 0) ⟨rfl,rfl,rfl,rfl⟩) ah)))) ah))))),?_⟩
   refine ⟨_,rfl,_,rfl,_,rfl,m,a1,a2,a3,a4,a5,a6,st,tl,M,names,bs,cs,rfl,hM,hf,gf,mE,λd H1 hd s1 Bz=>?_⟩
   have jM:=hM.same s1
   obtain ⟨us,ha,cG⟩:=id jM.nx
   have Wo:Paired (λt kv=>H1 t=some (.tup [kV kv.1,kv.2])) us (cv M.nexts):=me (g:=λr:Str×Str=>((.inr r.1:Key),V.str r.2)) (lr (g:=jm) cG)
   refine ⟨_,rfl,m,.ref a4,rfl,cw.k (k:=.inr "nexts") jM.top,a4,us,cv M.nexts,rfl,ha,Wo,λe he=>?_⟩
   rw [show de [] (cv M.nexts)=cv M.nexts from wQ M.nexts [] hf.ok.nxd]
   have s2:aj H1 (upd H1 e (.dK (cv M.nexts))):=aj.ao he
   have q2:(upd H1 e (.dK (cv M.nexts))) e=some (.dK (cv M.nexts)):=ag
   generalize upd H1 e (.dK (cv M.nexts))=H2 at s2 q2 ⊢
   have iK:=jM.same s2
   have hd2:=s2 _ _ Bz
   obtain ⟨ws,hb,fE⟩:=id iK.kp
   have pC:=fE.length
   rw [List.length_map] at pC
   have n2:=hf.n2
   have eX:=s1.trans s2
   refine ⟨_,rfl,m,.ref a2,rfl,cw.k (k:=.inr "keepers") iK.top,a2,rfl,⟨_,aq.of hb⟩,λD hD=>?_⟩
   refine cY M.keepers.length (λi acc σ H3=>acc=((hU M bs cs).take i).map V.int/\(∃u v,σ=[u,v,some (.ref d),some (.ref e)])/\aj H2 H3) ⟨rfl,⟨none,none,rfl⟩,aj.ao hD⟩ ag ?_ ?_
   . rintro acc σ H3 aW ⟨rfl,_,s3⟩
     rw [List.take_of_length_le (by rw [wN]; exact Nat.le_refl _)] at aW
     refine ⟨⟨_,aq.of (s3 _ _ hb),by rw [List.length_map,pC]; exact Nat.le_refl _⟩,D,_,rfl,.inl ⟨aq.of aW,λt ht=>?_⟩⟩
     exact kk t _ (eX.free (s3.free ht)) ((eX.trans s3).trans (aj.ao ht)) ag
   . rintro i acc σ H3 hi aW ⟨rfl,⟨u,v,rfl⟩,s3⟩
     obtain ⟨t,ht,hT⟩:=a9 fE (i:=i) (b:=iY M.keepers[i]) (by rw [List.getElem?_map,List.getElem?_eq_getElem hi]; rfl)
     have ei:(ws.map V.ref)[i]?=some (.ref t):=by rw [List.getElem?_map,ht]; rfl
     refine ⟨⟨_,_,aq.of (s3 _ _ hb),ei⟩,?_⟩
     rintro x' H' ⟨rfl,cT⟩
     have ex:=cT _ (aq.of (s3 _ _ hb))
     rw [ei] at ex
     cases ex
     refine ⟨t,_,rfl,aR.of (s3 _ _ hT),rfl,_,_,rfl,_,_,rfl,rfl,pT ?_⟩
     have q3:=s3 _ _ q2
     refine ⟨_,rfl,_,rfl,e,rfl,.inl ⟨_,.inl q3⟩,_,rfl,_,rfl,_,cw.k (k:=.inr M.keepers[i].1) q3,?_⟩
     rw [zv]
     refine ⟨d,_,_,rfl,.inl (s3 _ _ hd2),hf.next (List.getElem_mem hi),λH4 s4=>?_⟩
     refine ⟨_,s4 _ _ aW,?_,bo hi ag ⟨?_,⟨_,_,rfl⟩,?_⟩⟩
     . rw [List.length_map,List.length_take]
       exact small (by omega)
     . have e:(hU M bs cs)[i]?=some (cN (cJ M bs cs M.gates.length) (cg M.nexts M.keepers[i].1)):=by
        unfold hU
        rw [List.getElem?_map,List.getElem?_eq_getElem hi]
        rfl
       rw [List.take_succ,e,List.map_append]
       rfl
     . intro y o hy
       rw [ai (af hy hD)]
       exact s4 y o (s3 y o hy)
end
end Gen
namespace L2
open PySem PySem.Spec PyProof.Rows
def rev:Nat->Nat->Nat
 | 0,_=>0
 | k+1,i=>(i % 2)*2 ^ k+rev k (i / 2)
def cB (k i j:Nat):Bool:=Nat.blt (rev k i) (rev k j)
def place (c:Nat->Nat->Bool) (p:Array Nat) (lo k:Nat):Nat->Nat->Nat->Nat
 | 0,l,_=>l
 | f+1,l,r=>if l≥r then l else if c (p.getD (lo+k) 0) (p.getD (lo+(l+r) / 2) 0)=true then place c p lo k f l ((l+r) / 2) else place c p lo k f ((l+r) / 2+1) r
def cK (c:Nat->Nat->Bool) (lo:Nat):Nat->Nat->Array Nat->Array Nat
 | 0,_,p=>p
 | f+1,k,p=>cK c lo f (k+1) (bubble p (lo+k) (lo+k-(lo+place c p lo k k 0 k)))
theorem wR {α β:Type}(f:α->β) (u v:Nat->Nat):∀(l:List Nat) (xs:Array α),l.foldl (λa k=>a.swapIfInBounds (u k) (v k)) (xs.map f)=(l.foldl (λa k=>a.swapIfInBounds (u k) (v k)) xs).map f
 | [],_=>rfl
 | k::l,xs=>by
  rw [List.foldl_cons,List.foldl_cons,W.kas_swap_map]
  exact wR f u v l _
section
variable {prog:Program}{w:World}{A:Around}{E:Value->Shared->Prop}{s:Shared}{κ:SortKind}{it:Nat->Keyed}{N:Nat}{c:Nat->Nat->Bool}{p:Array Nat}{pd:Array (Nat×Nat×Nat)}
def ia (prog:Program) (w:World) (A:Around) (s:Shared) (κ:SortKind) (it:Nat->Keyed) (N:Nat) (c:Nat->Nat->Bool):Prop:=
 ∀i j,i<N->j<N->∀(E:Value->Shared->Prop) (Q:Bool->Shared->Prop),Q (c i j) s->wpAny (model prog w) A (keyLt' κ (it i).1 (it j).1) Q E s
def cu (κ:SortKind) (it:Nat->Keyed) (p:Array Nat) (pd:Array (Nat×Nat×Nat)):SortSt:=SortSt.mk' κ (p.map it) pd 7 none
def i4 (N:Nat) (p:Array Nat):Prop:=∀i,i<p.size->p.getD i 0<N
theorem vt (C:ia prog w A s κ it N c){st:SortSt}{i j:Nat}{Q:Option Bool->SortSt->Prop}(hk:kindOf st=κ) (hi:i<N) (hj:j<N) (h:Q (some (c i j)) st):wpS (model prog w) A E s (lt' (it i) (it j)) Q st:=by
 rw [lt'_eq]
 refine wpS_bind (wpS_get ?_)
 rw [hk]
 refine wpS_bind (wpS_lift (wpAny_attempt (C i j hi hj _ _ ⟨rfl,?_⟩)))
 exact wpS_pure h
theorem fH {st:SortSt}{i:Nat}{Q:Keyed->SortSt->Prop}(hi:i<p.size) (h:Q (it (p.getD i 0)) st):wpS (model prog w) A E s (elem' (p.map it) i) Q st:=by
 rw [elem'_eq]
 have e:(p.map it)[i]?=some (it (p.getD i 0)):=by simp [Array.getD,hi]
 rw [e]
 exact wpS_pure h
theorem zx (C:ia prog w A s κ it N c){i j:Nat}{Q:Option Bool->SortSt->Prop}(B:i4 N p) (hi:i<p.size) (hj:j<p.size) (h:Q (some (c (p.getD i 0) (p.getD j 0))) (cu κ it p pd)):wpS (model prog w) A E s (ltAt' i j) Q (cu κ it p pd):=by
 rw [ltAt'_eq]
 refine wpS_bind (wpS_get (wpS_bind (fH hi (wpS_bind (fH hj ?_)))))
 exact vt C rfl (B i hi) (B j hj) h
theorem M9 {k l:Nat}{Q:Unit->SortSt->Prop}(h:Q () (cu κ it (bubble p k (k-l)) pd)):wpS (model prog w) A E s (moveDown' k l) Q (cu κ it p pd):=by
 rw [moveDown'_eq]
 refine wpS_modify ?_
 have e:bubble (p.map it) k (k-l)=(bubble p k (k-l)).map it:=wR it (λi=>k-i) (λi=>k-i-1) _ p
 show Q () (SortSt.mk' κ (bubble (p.map it) k (k-l)) pd 7 none)
 rw [e]
 exact h
theorem i4.perm {q:Array Nat}(B:i4 N p) (h:q.Perm p):i4 N q:=λi hi=>by
 have hs:q.size=p.size:=h.size_eq
 have hm:q.getD i 0∈p:=h.mem_iff.mp (by
  have:q.getD i 0=q[i]:=by simp [Array.getD,hi]
  rw [this]
  exact Array.getElem_mem hi)
 obtain ⟨j,hj,e⟩:=Array.mem_iff_getElem.mp hm
 rw [← e]
 have:p.getD j 0=p[j]:=by simp [Array.getD,hj]
 rw [← this]
 exact B j hj
theorem Dk (C:ia prog w A s κ it N c){lo n ok:Nat}{Q:Bool->SortSt->Prop}(B:i4 N p) (hz:lo+n<=p.size) (hok:1<=ok) (hn:ok<=n) (h:Q true (cu κ it (cK c lo (n-ok) ok p) pd)):wpS (model prog w) A E s (binarySort' lo n ok) Q (cu κ it p pd):=by
 rw [binarySort'_eq]
 have hm:max ok 1=ok:=by omega
 rw [hm]
 refine wpS_bind (wpS_mono (wpS_forRange (I:=λk d aP=>d=(none,())/\∃q:Array Nat,aP=cu κ it q pd/\q.Perm p/\cK c lo (n-k) k q=cK c lo (n-ok) ok p)
  (Q:=λd aP=>d=(none,())/\aP=cu κ it (cK c lo (n-ok) ok p) pd) ?step ?fin ⟨rfl,p,rfl,Array.Perm.refl _,rfl⟩) ?post)
 case post=>
  rintro d aP ⟨rfl,rfl⟩
  exact wpS_pure h
 case fin=>
  rintro d aP ⟨rfl,q,rfl,_,e⟩
  refine ⟨rfl,?_⟩
  rw [show n-max ok n=0 by omega] at e
  rw [← e]
  rfl
 case step=>
  rintro k d aP hk Tg ⟨rfl,q,rfl,hq,e⟩
  have hs:q.size=p.size:=hq.size_eq
  have Bq:=B.perm hq
  refine wpS_bind (wpS_mono (wpS_forRange (I:=λx d br=>br=cu κ it q pd/\∃l r,d=(none,l,r)/\l<=r/\r<=k/\place c q lo k (k-x) l r=place c q lo k k 0 k)
   (Q:=λd br=>br=cu κ it q pd/\∃l r,d=(none,l,r)/\l=place c q lo k k 0 k) ?istep ?ifin ⟨rfl,0,k,rfl,by omega,by omega,rfl⟩) ?ipost)
  case ifin=>
   rintro d br ⟨rfl,l,r,rfl,h1,h2,e2⟩
   refine ⟨rfl,l,r,rfl,?_⟩
   rw [show k-max 0 k=0 by omega] at e2
   exact e2
  case istep=>
   rintro x d br _ hx ⟨rfl,l,r,rfl,h1,h2,e2⟩
   obtain ⟨f,hf⟩:∃f,k-x=f+1:=⟨k-x-1,by omega⟩
   have Th:k-(x+1)=f:=by omega
   rw [hf,place] at e2
   dsimp only
   by_cases Ti:l≥r
   . rw [if_pos Ti] at e2 ⊢
     exact wpS_pure ⟨rfl,l,r,rfl,e2⟩
   . rw [if_neg Ti] at e2 ⊢
     refine wpS_bind (zx C Bq (by omega) (by omega) ?_)
     dsimp only
     cases hc:c (q.getD (lo+k) 0) (q.getD (lo+(l+r) / 2) 0) with
     | true=>
      rw [hc,if_pos rfl] at e2
      rw [if_pos rfl]
      exact wpS_pure ⟨rfl,l,(l+r) / 2,rfl,by omega,by omega,by rw [Th]; exact e2⟩
     | false=>
      rw [hc,if_neg (by decide)] at e2
      rw [if_neg (by decide)]
      exact wpS_pure ⟨rfl,(l+r) / 2+1,r,rfl,by omega,by omega,by rw [Th]; exact e2⟩
  case ipost=>
   rintro d br ⟨rfl,l,r,rfl,e2⟩
   refine wpS_bind (M9 (wpS_pure ⟨rfl,_,rfl,(bubble_perm _ _ _).trans hq,?_⟩))
   obtain ⟨f,hf⟩:∃f,n-k=f+1:=⟨n-k-1,by omega⟩
   rw [hf,cK,← e2] at e
   rw [show n-(k+1)=f by omega]
   exact e
theorem sS (C:ia prog w A s κ it N c){lo n:Nat}{Q:Option Nat->SortSt->Prop}(B:i4 N p) (hz:lo+n<=p.size) (hn:3<=n) (h1:c (p.getD (lo+1) 0) (p.getD lo 0)=false) (h2:c (p.getD (lo+2) 0) (p.getD (lo+1) 0)=true) (h3:c (p.getD lo 0) (p.getD (lo+1) 0)=true)
 (h:Q (some 2) (cu κ it p pd)):wpS (model prog w) A E s (countRun' lo n) Q (cu κ it p pd):=by
 rw [countRun'_eq]
 refine wpS_bind (wpS_mono (wpS_forRange (I:=λx d aP=>aP=cu κ it p pd/\((x=1/\d=(none,1))\/(x=2/\d=(none,2))))
  (Q:=λd aP=>aP=cu κ it p pd/\d=(none,2)) ?step ?fin ⟨rfl,.inl ⟨rfl,rfl⟩⟩) ?post)
 case fin=>
  rintro d aP ⟨rfl,⟨e,rfl⟩ | ⟨e,rfl⟩⟩
  . omega
  . exact ⟨rfl,rfl⟩
 case step=>
  rintro x d aP hx hxn ⟨rfl,⟨rfl,rfl⟩ | ⟨rfl,rfl⟩⟩
  . refine wpS_bind (zx C B (by omega) (by omega) ?_)
    rw [show lo+1-1=lo by omega,h1]
    exact wpS_pure ⟨rfl,.inr ⟨rfl,rfl⟩⟩
  . refine wpS_bind (zx C B (by omega) (by omega) ?_)
    rw [show lo+2-1=lo+1 by omega,h2]
    exact wpS_pure ⟨rfl,rfl⟩
 case post=>
  rintro d aP ⟨rfl,rfl⟩
  dsimp only
  rw [if_neg (by simp; omega),if_pos (by omega)]
  refine wpS_bind (zx C B (by omega) (by omega) ?_)
  rw [show lo+2-1=lo+1 by omega,h3]
  exact wpS_pure h
end
end L2
namespace L2
open PySem PySem.Spec PyProof.Rows
section
variable {prog:Program}{w:World}{A:Around}{E:Value->Shared->Prop}{s:Shared}{κ:SortKind}{it:Nat->Keyed}{N:Nat}{c:Nat->Nat->Bool}{p:Array Nat}{pd:Array (Nat×Nat×Nat)}
def BH:Bool->Keyed->Array Keyed->Nat->Nat->Nat->StateT SortSt Sem (Option Nat):=sortPriv% PySem.Builtin.gallop
def G7:Array Keyed->Array Keyed->StateT SortSt Sem (Array Keyed):=sortPriv% PySem.Builtin.mergeLo
theorem KH (C:ia prog w A s κ it N c){kb n base:Nat}{Q:Option Nat->SortSt->Prop}{st:SortSt}(hk:kindOf st=κ) (B:i4 N p) (hb:kb<N) (hn:2<=n) (hz:base+n<=p.size) (h1:c kb (p.getD base 0)=false) (h2:c kb (p.getD (base+1) 0)=true) (h:Q (some 1) st) :
 wpS (model prog w) A E s (BH false (it kb) (p.map it) base n 0) Q st:=by
 refine wpS_bind (wpS_bind (fH (show base+0<p.size by omega) ?_))
 rw [if_neg (by decide)]
 refine wpS_bind (vt C hk hb (B _ (by omega)) ?_)
 rw [Nat.add_zero,h1]
 refine wpS_pure ?_
 show wpS _ _ _ _ (do
  let r ← _
  _) _ _
 refine wpS_bind (wpS_mono (wpS_forRange (I:=λx d aP=>aP=st/\x=0/\d=(none,0,1)) (Q:=λd aP=>aP=st/\d=(none,0,1)) ?step ?fin ⟨rfl,rfl,rfl⟩) ?post)
 case fin=>
  rintro d aP ⟨_,e,_⟩
  omega
 case step=>
  rintro x d aP _ hx ⟨rfl,rfl,rfl⟩
  dsimp only
  rw [if_neg (by omega)]
  refine wpS_bind (wpS_bind (fH (show base+(0+1)<p.size by omega) ?_))
  rw [if_neg (by decide)]
  refine wpS_bind (vt C hk hb (B _ (by omega)) ?_)
  rw [Nat.zero_add,h2]
  exact wpS_pure (wpS_pure ⟨rfl,rfl⟩)
 case post=>
  rintro d aP ⟨rfl,rfl⟩
  dsimp only
  refine wpS_bind (wpS_mono (wpS_forRange (I:=λx d br=>br=aP/\d=(none,1,1)) (Q:=λd br=>br=aP/\d=(none,1,1)) ?step2 (λ_ _ z=>z) ⟨rfl,?ini⟩) ?post2)
  case ini=>
   rw [Nat.min_eq_left (by omega)]
  case step2=>
   rintro x d br _ hx ⟨rfl,rfl⟩
   dsimp only
   rw [if_pos (Nat.le_refl _)]
   exact wpS_pure ⟨rfl,rfl⟩
  case post2=>
   rintro d br ⟨rfl,rfl⟩
   exact wpS_pure h
theorem KI (C:ia prog w A s κ it N c){ka n base:Nat}{Q:Option Nat->SortSt->Prop}{st:SortSt}(hk:kindOf st=κ) (B:i4 N p) (hb:ka<N) (hn:2<=n) (hz:base+n<=p.size) (h1:c (p.getD (base+(n-1)) 0) ka=false) (h2:c (p.getD (base+(n-2)) 0) ka=true) (h:Q (some (n-1)) st) :
 wpS (model prog w) A E s (BH true (it ka) (p.map it) base n (n-1)) Q st:=by
 refine wpS_bind (wpS_bind (fH (show base+(n-1)<p.size by omega) ?_))
 rw [if_pos rfl]
 refine vt C hk (B _ (by omega)) hb ?_
 rw [h1]
 show wpS _ _ _ _ (do
  let r ← _
  _) _ _
 refine wpS_bind (wpS_mono (wpS_forRange (I:=λx d aP=>aP=st/\x=0/\d=(none,0,1)) (Q:=λd aP=>aP=st/\d=(none,0,1)) ?step ?fin ⟨rfl,rfl,rfl⟩) ?post)
 case fin=>
  rintro d aP ⟨_,e,_⟩
  omega
 case step=>
  rintro x d aP _ hx ⟨rfl,rfl,rfl⟩
  dsimp only
  rw [if_neg (by omega)]
  refine wpS_bind (wpS_bind (fH (show base+(n-1-1)<p.size by omega) ?_))
  rw [if_pos rfl]
  refine vt C hk (B _ (by omega)) hb ?_
  rw [show n-1-1=n-2 by omega,h2]
  exact wpS_pure ⟨rfl,rfl⟩
 case post=>
  rintro d aP ⟨rfl,rfl⟩
  dsimp only
  refine wpS_bind (wpS_mono (wpS_forRange (I:=λx d br=>br=aP/\d=(none,n-1,n-1)) (Q:=λd br=>br=aP/\d=(none,n-1,n-1)) ?step2 (λ_ _ z=>z) ⟨rfl,?ini⟩) ?post2)
  case ini=>
   rw [Nat.min_eq_left (by omega),show n-1+1-1=n-1 by omega,Nat.sub_zero]
  case step2=>
   rintro x d br _ hx ⟨rfl,rfl⟩
   dsimp only
   rw [if_pos (Nat.le_refl _)]
   exact wpS_pure ⟨rfl,rfl⟩
  case post2=>
   rintro d br ⟨rfl,rfl⟩
   exact wpS_pure h
end
end L2
namespace L2
open PySem PySem.Spec PyProof.Rows
def rS (X Y:Array Nat) (t:Nat):Nat:=if t % 2=0 then Y.getD (t / 2) 0 else X.getD (t / 2) 0
def fh (X Y:Array Nat) (t:Nat):Array Nat:=((List.range t).map (rS X Y)).toArray
theorem jN (X Y:Array Nat) (t:Nat):fh X Y (t+1)=(fh X Y t).push (rS X Y t):=by
 unfold fh
 rw [List.range_succ,List.map_append]
 simp
section
variable {prog:Program}{w:World}{A:Around}{E:Value->Shared->Prop}{s:Shared}{κ:SortKind}{it:Nat->Keyed}{N:Nat}{c:Nat->Nat->Bool}{X Y:Array Nat}{n:Nat}
theorem zy {Y:Array Nat}(hy:Y.size=n) (hn:1<=n):(Y.map it).extract (n-1) (Y.map it).size = #[it (Y.getD (n-1) 0)]:=by
 apply Array.ext
 . simp
   omega
 . intro i h1 h2
   simp at h2
   subst h2
   have di:n-1<Y.size:=by omega
   simp [Array.getD,di]
theorem Na (C:ia prog w A s κ it N c){Q:Array Keyed->SortSt->Prop}{st:SortSt}(hk:kindOf st=κ) (hg:gallopOf st=7) (BX:i4 N X) (BY:i4 N Y) (hx:X.size=n) (hy:Y.size=n) (hn:3<=n)
 (hA:∀i,i+1<n->c (Y.getD (i+1) 0) (X.getD i 0)=false) (hB:∀i,i<n->c (Y.getD i 0) (X.getD i 0)=true) (h:Q ((fh X Y (2*n)).map it) st) :
 wpS (model prog w) A E s (G7 (X.map it) (Y.map it)) Q st:=by
 refine wpS_bind (wpS_lift (wpAny_rule ⟨rfl,?_⟩))
 refine wpS_bind (fH (show 0<Y.size by omega) ?_)
 have sx:(X.map it).size=n:=by rw [Array.size_map,hx]
 have sy:(Y.map it).size=n:=by rw [Array.size_map,hy]
 dsimp only
 rw [if_neg (by rw [sy]; simp; omega),if_neg (by rw [sx]; simp; omega)]
 refine wpS_bind (wpS_get ?_)
 have yC:(sortPriv% PySem.Builtin.SortState.minGallop) st=7:=hg
 rw [yC]
 have e2n:(fh X Y (2*n)).map it=(fh X Y (2*n-2)).map it++(Y.map it).extract (n-1) (Y.map it).size++(X.map it).extract (n-1) (X.map it).size:=by
  rw [zy hy (by omega),zy hx (by omega)]
  have e1:2*n=2*n-2+1+1:=by omega
  have z1:rS X Y (2*n-2)=Y.getD (n-1) 0:=by
   unfold rS
   rw [if_pos (by omega),show (2*n-2) / 2=n-1 by omega]
  have z2:rS X Y (2*n-2+1)=X.getD (n-1) 0:=by
   unfold rS
   rw [if_neg (by omega),show (2*n-2+1) / 2=n-1 by omega]
  conv=>lhs; rw [e1,jN,jN,z1,z2]
  simp
 refine wpS_bind (wpS_mono (wpS_forRange (I:=λx d aP=>aP=st/\x=0/\d=(none,#[it (Y.getD 0 0)],0,1,7)) (Q:=λd aP=>aP=st/\d.1=some ((fh X Y (2*n)).map it)) ?step ?fin ⟨rfl,rfl,rfl⟩) ?post)
 case fin=>
  rintro d aP ⟨_,e,_⟩
  rw [sx,sy] at e
  omega
 case post=>
  rintro ⟨d1,d2⟩ aP ⟨rfl,e⟩
  cases (show d1=_ from e)
  exact wpS_pure h
 case step=>
  rintro x d aP _ hx0 ⟨rfl,rfl,rfl⟩
  dsimp only
  refine wpS_bind (wpS_mono (wpS_forRange (I:=λt d br=>br=aP/\t<=2*n-4/\∃ac bc,d=(none,(fh X Y (t+1)).map it,(t+1) / 2,t / 2+1,ac,bc)/\ac<=1/\bc<=1/\(t % 2=0->ac=0)/\(t % 2=1->bc=0))
   (Q:=λd br=>br=aP/\d.1=some ((fh X Y (2*n)).map it)) ?istep ?ifin ⟨rfl,by omega,0,0,?ini,by omega,by omega,λ_=>rfl,λ_=>rfl⟩) ?ipost)
  case ini=>
   have:fh X Y (0+1) = #[Y.getD 0 0]:=by
    rw [jN]
    rfl
   rw [this]
   simp
  case ifin=>
   rintro d br ⟨_,e,_⟩
   rw [sx,sy] at e
   omega
  case ipost=>
   rintro ⟨d1,d2⟩ br ⟨rfl,e⟩
   cases (show d1=_ from e)
   exact wpS_pure ⟨rfl,rfl⟩
  case istep=>
   rintro t d br _ ht ⟨rfl,ht4,ac,bc,rfl,Bv,IM,hae,hbo⟩
   dsimp only
   have iy:t / 2+1<Y.size:=by omega
   have ix:(t+1) / 2<X.size:=by omega
   refine wpS_bind (fH iy (wpS_bind (fH ix (wpS_bind (vt C hk (BY _ iy) (BX _ ix) ?_)))))
   rcases Nat.mod_two_eq_zero_or_one t with e | e
   . -- x wins
     have ei:(t+1) / 2=t / 2:=by omega
     have hc:c (Y.getD (t / 2+1) 0) (X.getD ((t+1) / 2) 0)=false:=by rw [ei]; exact hA _ (by omega)
     rw [hc]
     dsimp only
     rw [if_neg (by decide)]
     refine wpS_bind (fH ix ?_)
     have z1:rS X Y (t+1)=X.getD ((t+1) / 2) 0:=by
      unfold rS
      rw [if_neg (by omega)]
     have eo:((fh X Y (t+1)).map it).push (it (X.getD ((t+1) / 2) 0))=(fh X Y (t+1+1)).map it:=by
      rw [jN X Y (t+1),z1]
      simp
     rw [eo]
     by_cases he:t=2*n-4
     . rw [if_pos (by rw [sx]; simp; omega)]
       refine wpS_pure ⟨rfl,?_⟩
       show some _=some _
       rw [e2n,show (t+1) / 2+1=n-1 by omega,show t / 2+1=n-1 by omega,show t+1+1=2*n-2 by omega]
     . rw [if_neg (by rw [sx]; simp; omega),if_neg (by omega)]
       refine wpS_pure ⟨rfl,by omega,ac+1,0,?_,by have:=hae e; omega,by omega,λz=>by omega,λ_=>rfl⟩
       rw [show (t+1+1) / 2=(t+1) / 2+1 by omega,show (t+1) / 2+1=t / 2+1 by omega]
   . -- y wins
     have ei:(t+1) / 2=t / 2+1:=by omega
     have hc:c (Y.getD (t / 2+1) 0) (X.getD ((t+1) / 2) 0)=true:=by rw [ei]; exact hB _ (by omega)
     rw [hc]
     dsimp only
     rw [if_pos rfl]
     refine wpS_bind (fH iy ?_)
     have z1:rS X Y (t+1)=Y.getD (t / 2+1) 0:=by
      unfold rS
      rw [if_pos (by omega),ei]
     have eo:((fh X Y (t+1)).map it).push (it (Y.getD (t / 2+1) 0))=(fh X Y (t+1+1)).map it:=by
      rw [jN X Y (t+1),z1]
      simp
     rw [eo,if_neg (by rw [sy]; simp; omega),if_neg (by omega)]
     refine wpS_pure ⟨rfl,by omega,0,bc+1,?_,by omega,by have:=hbo e; omega,λ_=>rfl,λz=>by omega⟩
     rw [show (t+1+1) / 2=(t+1) / 2 by omega,show (t+1) / 2+1=t / 2+1+1 by omega]
end
end L2
namespace L2
open PySem PySem.Spec PyProof.Rows
def IP (p z:Array Nat):Array Nat:=z.toList.zipIdx.foldl (λa x=>a.setIfInBounds (1+x.2) x.1) p
theorem BI (it:Nat->Keyed):∀(l:List Nat) (i:Nat) (p:Array Nat),((l.map it).zipIdx i).foldl (λ(a:Array Keyed) x=>a.setIfInBounds (1+x.2) x.1) (p.map it)=((l.zipIdx i).foldl (λa x=>a.setIfInBounds (1+x.2) x.1) p).map it
 | [],_,_=>rfl
 | x::l,i,p=>by
  rw [List.map_cons,List.zipIdx_cons,List.zipIdx_cons,List.foldl_cons,List.foldl_cons,← BI it l (i+1)]
  congr 1
  simp
section
variable {prog:Program}{w:World}{A:Around}{E:Value->Shared->Prop}{s:Shared}{κ:SortKind}{it:Nat->Keyed}{N:Nat}{c:Nat->Nat->Bool}{p:Array Nat}{n:Nat}
theorem zz {i j k:Nat}(hj:j<=p.size) (hk:k<j-i):(p.extract i j).getD k 0=p.getD (i+k) 0:=by
 have h1:k<(p.extract i j).size:=by simp; omega
 have h2:i+k<p.size:=by omega
 simp only [Array.getD,h1,h2,dif_pos]
 simp
theorem Ff {i j:Nat}(hj:j<=p.size) (B:i4 N p):i4 N (p.extract i j):=λk hk=>by
 have gm:k<j-i:=by
  simp at hk
  omega
 rw [zz hj gm]
 exact B _ (by omega)
theorem Nb (C:ia prog w A s κ it N c){Q:Bool->SortSt->Prop}{pw:Nat}(B:i4 N p) (hp:p.size=2*n) (hn:4<=n)
 (hA:∀i,i<n->c (p.getD (n+i) 0) (p.getD i 0)=false) (hB:∀i,i+1<n->c (p.getD (n+i) 0) (p.getD (i+1) 0)=true)
 (h:Q true (cu κ it (IP p (fh (p.extract 1 n) (p.extract n (2*n-1)) (2*(n-1)))) #[(0,n+n,pw)])) :
 wpS (model prog w) A E s (mergeAt' 0) Q (cu κ it p #[(0,n,pw),(n,n,0)]):=by
 refine wpS_bind (wpS_get ?_)
 refine wpS_bind (wpS_modify ?_)
 have ep:((#[(0,n,pw),(n,n,0)]:Array (Nat×Nat×Nat)).setIfInBounds 0 (0,n+n,pw)).eraseIdxIfInBounds 1 = #[(0,n+n,pw)]:=by simp [Array.setIfInBounds,Array.eraseIdxIfInBounds]
 show wpS _ _ _ _ _ _ (SortSt.mk' κ (p.map it) (((#[(0,n,pw),(n,n,0)]:Array (Nat×Nat×Nat)).setIfInBounds 0 (0,n+n,pw)).eraseIdxIfInBounds 1) 7 none)
 rw [ep]
 refine wpS_bind (fH (show n<p.size by omega) ?_)
 refine wpS_bind (KH C rfl B (B _ (by omega)) (by omega) (show 0+n<=p.size by omega) ?_ ?_ ?_)
 . exact hA 0 (by omega)
 . exact hB 0 (by omega)
 dsimp only
 rw [if_neg (by simp; omega)]
 refine wpS_bind (fH (show 0+1+(n-1)-1<p.size by omega) ?_)
 refine wpS_bind (KI C rfl B (B _ (by omega)) (by omega) (show n+n<=p.size by omega) ?_ ?_ ?_)
 . rw [show 0+1+(n-1)-1=n-1 by omega]
   exact hA (n-1) (by omega)
 . have:=hB (n-2) (by omega)
   rw [show 0+1+(n-1)-1=n-2+1 by omega]
   exact this
 dsimp only
 rw [if_neg (by simp; omega),if_pos (by omega)]
 have ex:∀i j,(p.map it).extract i j=(p.extract i j).map it:=λi j=>by
  apply Array.ext
  . simp
  . intro k h1 h2
    simp
 have sX:(p.extract 1 n).size=n-1:=by
  simp
  omega
 have sY:(p.extract n (2*n-1)).size=n-1:=by
  simp
  omega
 have gX:∀i,i<n-1->(p.extract 1 n).getD i 0=p.getD (i+1) 0:=λi hi=>by rw [zz (by omega) (by omega),Nat.add_comm]
 have gY:∀i,i<n-1->(p.extract n (2*n-1)).getD i 0=p.getD (n+i) 0:=λi hi=>zz (by omega) (by omega)
 have key:=Na C (E:=E) (st:=SortSt.mk' κ (p.map it) #[(0,n+n,pw)] 7 none) (X:=p.extract 1 n) (Y:=p.extract n (2*n-1)) (n:=n-1)
  (Q:=λa aP=>a=(fh (p.extract 1 n) (p.extract n (2*n-1)) (2*(n-1))).map it/\aP=SortSt.mk' κ (p.map it) #[(0,n+n,pw)] 7 none) rfl rfl (Ff (by omega) B) (Ff (by omega) B) sX sY (by omega)
  (λi hi=>by rw [gX i (by omega),gY (i+1) (by omega)]; exact hA (i+1) (by omega)) (λi hi=>by rw [gX i hi,gY i hi]; exact hB i (by omega)) ⟨rfl,rfl⟩
 rw [← ex,← ex] at key
 have e1:n+(n-1)=2*n-1:=by omega
 rw [show (0+1:Nat)=1 from rfl,e1]
 refine wpS_bind (wpS_mono key λa aP hq=>?_)
 obtain ⟨rfl,rfl⟩:=hq
 refine wpS_bind (wpS_modify (wpS_bind (wpS_get (wpS_pure ?_))))
 have e2:=BI it (fh (p.extract 1 n) (p.extract n (2*n-1)) (2*(n-1))).toList 0 p
 have e3:SortSt.mk' κ ((((fh (p.extract 1 n) (p.extract n (2*n-1)) (2*(n-1))).map it).toList.zipIdx).foldl (λ(a:Array Keyed) x=>a.setIfInBounds (1+x.2) x.1) (p.map it)) #[(0,n+n,pw)] 7 none=cu κ it (IP p (fh (p.extract 1 n) (p.extract n (2*n-1)) (2*(n-1)))) #[(0,n+n,pw)]:=by
  unfold cu IP
  rw [Array.toList_map,e2]
 show Q true (SortSt.mk' κ ((((fh (p.extract 1 n) (p.extract n (2*n-1)) (2*(n-1))).map it).toList.zipIdx).foldl (λ(a:Array Keyed) x=>a.setIfInBounds (1+x.2) x.1) (p.map it)) #[(0,n+n,pw)] 7 none)
 rw [e3]
 exact h
end
end L2
namespace L2
open PySem PySem.Spec PyProof.Rows
section
variable {prog:Program}{w:World}{A:Around}{E:Value->Shared->Prop}{s:Shared}{κ:SortKind}{it:Nat->Keyed}{N:Nat}{c:Nat->Nat->Bool}{p:Array Nat}{n:Nat}
theorem qd (h0:1<=n) (h:n<64):minRun' n n 0=n:=by
 obtain ⟨f,hf⟩:∃f,n=f+1:=⟨n-1,by omega⟩
 have:minRun' (f+1) n 0=n:=by rw [minRun'_succ,if_pos h]; rfl
 rwa [← hf] at this
theorem jO (c:Nat->Nat->Bool) (lo:Nat):∀(f k:Nat) (p:Array Nat),(cK c lo f k p).Perm p
 | 0,_,_=>Array.Perm.refl _
 | f+1,k,p=>(jO c lo f (k+1) _).trans (bubble_perm _ _ _)
theorem Fg (C:ia prog w A s κ it N c){Q:Unit->SortSt->Prop}(B:i4 N p) (hp:p.size=n) (hn:3<=n) (BJ:n<64) (h1:c (p.getD 1 0) (p.getD 0 0)=false) (h2:c (p.getD 2 0) (p.getD 1 0)=true) (h3:c (p.getD 0 0) (p.getD 1 0)=true)
 (h:Q () (cu κ it (cK c 0 (n-2) 2 p) #[(0,n,0)])):wpS (model prog w) A E s sortRuns' Q (cu κ it p #[]):=by
 rw [sortRuns'_eq]
 refine wpS_bind (wpS_get ?_)
 have hs:(arrOf (cu κ it p #[])).size=n:=by show (p.map it).size=n; rw [Array.size_map,hp]
 simp only [hs,qd (by omega) BJ]
 refine wpS_bind (wpS_mono (wpS_forRange (I:=λx d aP=>(x=0/\d=(none,0)/\aP=cu κ it p #[])\/(1<=x/\d=(none,n)/\aP=cu κ it (cK c 0 (n-2) 2 p) #[(0,n,0)]))
  (Q:=λd aP=>d=(none,n)/\aP=cu κ it (cK c 0 (n-2) 2 p) #[(0,n,0)]) ?step ?fin (.inl ⟨rfl,rfl,rfl⟩)) ?post)
 case fin=>
  rintro d aP (⟨hx,_,_⟩ | ⟨_,hc,hD⟩)
  . omega
  . exact ⟨hc,hD⟩
 case step=>
  rintro x d aP _ hx (⟨rfl,rfl,rfl⟩ | ⟨rO,rfl,rfl⟩)
  . dsimp only
    rw [if_neg (by omega)]
    simp only [Nat.sub_zero,Nat.min_self,Nat.zero_add]
    refine wpS_bind (sS C B (by omega) hn h1 h2 h3 ?_)
    dsimp only
    rw [if_pos (by omega)]
    refine wpS_bind (wpS_lift (wpAny_rule ⟨rfl,?_⟩))
    refine wpS_bind (Dk C B (by omega) (by omega) (by omega) ?_)
    simp only [Bool.not_true,Bool.false_eq_true,if_false]
    refine wpS_bind (wpS_get ?_)
    exact wpS_bind (wpS_modify (wpS_pure (.inr ⟨by omega,rfl,rfl⟩)))
  . dsimp only
    rw [if_pos (Nat.le_refl _)]
    exact wpS_pure ⟨rfl,rfl⟩
 case post=>
  rintro d aP ⟨rfl,rfl⟩
  dsimp only
  refine wpS_bind (wpS_mono (wpS_forRange (I:=λ_ d br=>br=cu κ it (cK c 0 (n-2) 2 p) #[(0,n,0)]/\d=(none,())) (Q:=λd br=>br=cu κ it (cK c 0 (n-2) 2 p) #[(0,n,0)]/\d=(none,())) ?_ (λ_ _ hh=>hh) ⟨rfl,rfl⟩) ?_)
  . rintro x d br _ _ ⟨rfl,rfl⟩
    refine wpS_bind (wpS_get ?_)
    rw [if_pos (show (pendingOf (cu κ it (cK c 0 (n-2) 2 p) #[(0,n,0)])).size<=1 from Nat.le_refl 1)]
    exact wpS_pure ⟨rfl,rfl⟩
  . rintro d br ⟨rfl,rfl⟩
    exact wpS_pure h
theorem KJ (C:ia prog w A s κ it N c){Q:Unit->SortSt->Prop}(B:i4 N p) (hp:p.size=2) (h1:c (p.getD 1 0) (p.getD 0 0)=false)
 (h:Q () (cu κ it p #[(0,2,0)])):wpS (model prog w) A E s sortRuns' Q (cu κ it p #[]):=by
 rw [sortRuns'_eq]
 refine wpS_bind (wpS_get ?_)
 have hs:(arrOf (cu κ it p #[])).size=2:=by show (p.map it).size=2; rw [Array.size_map,hp]
 simp only [hs,qd (show 1<=2 by decide) (by decide)]
 refine wpS_bind (wpS_mono (wpS_forRange (I:=λx d aP=>(x=0/\d=(none,0)/\aP=cu κ it p #[])\/(1<=x/\d=(none,2)/\aP=cu κ it p #[(0,2,0)]))
  (Q:=λd aP=>d=(none,2)/\aP=cu κ it p #[(0,2,0)]) ?step ?fin (.inl ⟨rfl,rfl,rfl⟩)) ?post)
 case fin=>
  rintro d aP (⟨hx,_,_⟩ | ⟨_,hc,hD⟩)
  . omega
  . exact ⟨hc,hD⟩
 case step=>
  rintro x d aP _ hx (⟨rfl,rfl,rfl⟩ | ⟨rO,rfl,rfl⟩)
  . dsimp only
    rw [if_neg (by omega)]
    rw [countRun'_eq]
    refine wpS_bind (wpS_bind (wpS_mono (wpS_forRange (I:=λx d aP=>aP=cu κ it p #[]/\((x=1/\d=(none,1))\/(x=2/\d=(none,2)))) (Q:=λd aP=>aP=cu κ it p #[]/\d=(none,2)) ?cs ?cf ⟨rfl,.inl ⟨rfl,rfl⟩⟩) ?cp))
    case cf=>
     rintro d aP ⟨rfl,⟨e,rfl⟩ | ⟨e,rfl⟩⟩
     . omega
     . exact ⟨rfl,rfl⟩
    case cs=>
     rintro x d aP hx hxn ⟨rfl,⟨rfl,rfl⟩ | ⟨rfl,rfl⟩⟩
     . refine wpS_bind (zx C B (by omega) (by omega) ?_)
       rw [show 0+1-1=0 by omega,show 0+1=1 by omega,h1]
       exact wpS_pure ⟨rfl,.inr ⟨rfl,rfl⟩⟩
     . omega
    case cp=>
     rintro d aP ⟨rfl,rfl⟩
     refine wpS_pure ?_
     dsimp only
     rw [if_neg (by decide)]
     refine wpS_bind (wpS_get ?_)
     exact wpS_bind (wpS_modify (wpS_pure (.inr ⟨by omega,rfl,rfl⟩)))
  . dsimp only
    rw [if_pos (Nat.le_refl _)]
    exact wpS_pure ⟨rfl,rfl⟩
 case post=>
  rintro d aP ⟨rfl,rfl⟩
  dsimp only
  refine wpS_bind (wpS_mono (wpS_forRange (I:=λ_ d br=>br=cu κ it p #[(0,2,0)]/\d=(none,())) (Q:=λd br=>br=cu κ it p #[(0,2,0)]/\d=(none,())) ?_ (λ_ _ hh=>hh) ⟨rfl,rfl⟩) ?_)
  . rintro x d br _ _ ⟨rfl,rfl⟩
    refine wpS_bind (wpS_get ?_)
    rw [if_pos (show (pendingOf (cu κ it p #[(0,2,0)])).size<=1 from Nat.le_refl 1)]
    exact wpS_pure ⟨rfl,rfl⟩
  . rintro d br ⟨rfl,rfl⟩
    exact wpS_pure h
def two32 (c:Nat->Nat->Bool) (p:Array Nat):Array Nat:=cK c 32 30 2 (cK c 0 30 2 p)
def uG (c:Nat->Nat->Bool) (p:Array Nat):Array Nat:=IP (two32 c p) (fh ((two32 c p).extract 1 32) ((two32 c p).extract 32 63) 62)
theorem Nc (C:ia prog w A s κ it N c){Q:Unit->SortSt->Prop}(B:i4 N p) (hp:p.size=64) (h1:c (p.getD 1 0) (p.getD 0 0)=false) (h2:c (p.getD 2 0) (p.getD 1 0)=true) (h3:c (p.getD 0 0) (p.getD 1 0)=true)
 (k1:c ((cK c 0 30 2 p).getD 33 0) ((cK c 0 30 2 p).getD 32 0)=false) (k2:c ((cK c 0 30 2 p).getD 34 0) ((cK c 0 30 2 p).getD 33 0)=true) (k3:c ((cK c 0 30 2 p).getD 32 0) ((cK c 0 30 2 p).getD 33 0)=true)
 (hA:∀i,i<32->c ((two32 c p).getD (32+i) 0) ((two32 c p).getD i 0)=false) (hB:∀i,i+1<32->c ((two32 c p).getD (32+i) 0) ((two32 c p).getD (i+1) 0)=true)
 (h:∀pd,Q () (cu κ it (uG c p) pd)):wpS (model prog w) A E s sortRuns' Q (cu κ it p #[]):=by
 rw [sortRuns'_eq]
 refine wpS_bind (wpS_get ?_)
 have hs:(arrOf (cu κ it p #[])).size=64:=by show (p.map it).size=64; rw [Array.size_map,hp]
 have hm:minRun' 64 64 0=32:=by decide +kernel
 simp only [hs,hm]
 have B1:i4 N (cK c 0 30 2 p):=B.perm (jO ..)
 have s1:(cK c 0 30 2 p).size=64:=(jO c 0 30 2 p).size_eq.trans hp
 have B2:i4 N (two32 c p):=B1.perm (jO ..)
 have s2:(two32 c p).size=64:=(jO c 32 30 2 _).size_eq.trans s1
 generalize hpw:power' 64 (2*0+32) (2*0+32+32+32) 64=pw
 refine wpS_bind (wpS_mono (wpS_forRange (I:=λx d aP=>(x=0/\d=(none,0)/\aP=cu κ it p #[])\/(x=1/\d=(none,32)/\aP=cu κ it (cK c 0 30 2 p) #[(0,32,0)])\/(2<=x/\d=(none,64)/\aP=cu κ it (two32 c p) #[(0,32,pw),(32,32,0)]))
  (Q:=λd aP=>d=(none,64)/\aP=cu κ it (two32 c p) #[(0,32,pw),(32,32,0)]) ?step ?fin (.inl ⟨rfl,rfl,rfl⟩)) ?post)
 case fin=>
  rintro d aP (⟨hx,_,_⟩ | ⟨hx,_,_⟩ | ⟨_,hc,hD⟩)
  . omega
  . omega
  . exact ⟨hc,hD⟩
 case step=>
  rintro x d aP _ hx (⟨rfl,rfl,rfl⟩ | ⟨rfl,rfl,rfl⟩ | ⟨rO,rfl,rfl⟩)
  . dsimp only
    rw [if_neg (by omega)]
    refine wpS_bind (sS C B (by omega) (by omega) h1 h2 h3 ?_)
    dsimp only
    rw [if_pos (by omega)]
    refine wpS_bind (wpS_lift (wpAny_rule ⟨rfl,?_⟩))
    refine wpS_bind (Dk C B (show 0+32<=p.size by omega) (by omega) (show 2<=32 by omega) ?_)
    simp only [Bool.not_true,Bool.false_eq_true,if_false]
    refine wpS_bind (wpS_get ?_)
    exact wpS_bind (wpS_modify (wpS_pure (.inr (.inl ⟨trivial,rfl,rfl⟩))))
  . dsimp only
    rw [if_neg (by omega)]
    refine wpS_bind (sS C B1 (by omega) (by omega) k1 k2 k3 ?_)
    dsimp only
    rw [if_pos (by omega)]
    refine wpS_bind (wpS_lift (wpAny_rule ⟨rfl,?_⟩))
    refine wpS_bind (Dk C B1 (show 32+32<=(cK c 0 30 2 p).size by omega) (by omega) (show 2<=32 by omega) ?_)
    simp only [Bool.not_true,Bool.false_eq_true,if_false]
    refine wpS_bind (wpS_get ?_)
    refine wpS_bind (wpS_mono (wpS_forRange (I:=λ_ d br=>br=cu κ it (two32 c p) #[(0,32,0)]/\d=(none,())) (Q:=λd br=>br=cu κ it (two32 c p) #[(0,32,0)]/\d=(none,())) ?ws (λ_ _ hh=>hh) ⟨rfl,rfl⟩) ?wp)
    case ws=>
     rintro x d br _ _ ⟨rfl,rfl⟩
     refine wpS_bind (wpS_get ?_)
     exact wpS_pure ⟨rfl,rfl⟩
    case wp=>
     rintro d br ⟨rfl,rfl⟩
     refine wpS_bind (wpS_modify (wpS_bind (wpS_modify (wpS_pure (.inr (.inr ⟨by omega,rfl,?_⟩))))))
     rw [← hpw]
     rfl
  . dsimp only
    rw [if_pos (Nat.le_refl _)]
    exact wpS_pure ⟨rfl,rfl⟩
 case post=>
  rintro d aP ⟨rfl,rfl⟩
  dsimp only
  refine wpS_bind (wpS_mono (wpS_forRange (I:=λx d br=>d=(none,())/\((x=0/\br=cu κ it (two32 c p) #[(0,32,pw),(32,32,0)])\/(1<=x/\br=cu κ it (uG c p) #[(0,64,pw)]))) (Q:=λd br=>br=cu κ it (uG c p) #[(0,64,pw)]/\d=(none,())) ?ls ?lf ⟨rfl,.inl ⟨rfl,rfl⟩⟩) ?lp)
  case lf=>
   rintro d br ⟨rfl,⟨hx,_⟩ | ⟨_,rfl⟩⟩
   . omega
   . exact ⟨rfl,rfl⟩
  case lp=>
   rintro d br ⟨rfl,rfl⟩
   exact wpS_pure (h _)
  case ls=>
   rintro x d br _ _ ⟨rfl,⟨rfl,rfl⟩ | ⟨rO,rfl⟩⟩
   . refine wpS_bind (wpS_get ?_)
     rw [if_neg (show ¬ (pendingOf (cu κ it (two32 c p) #[(0,32,pw),(32,32,0)])).size<=1 from by show ¬ (2<=1); decide)]
     refine wpS_bind (Nb (n:=32) C B2 s2 (by decide) hA hB ?_)
     simp only [Bool.not_true,Bool.false_eq_true,if_false]
     exact wpS_pure ⟨rfl,.inr ⟨by omega,rfl⟩⟩
   . refine wpS_bind (wpS_get ?_)
     rw [if_pos (show (pendingOf (cu κ it (uG c p) #[(0,64,pw)])).size<=1 from Nat.le_refl 1)]
     exact wpS_pure ⟨rfl,rfl⟩
end
end L2
namespace L2
open PySem PySem.Spec PyProof.Rows PySem.W
def dQ (h:Heap) (v:Value) (ns:List Int):Prop:=∃a o xs n,v=.ref a/\h.get? a=some o/\o.cls=.type "tuple" /\ o.data=.seq xs n/\IntsAre xs.toList ns
theorem dQ.keep {h h':Heap}{v:Value}{ns:List Int}(x:dQ h v ns) (k:∀a o xs n,h.get? a=some o->o.cls=.type "tuple" -> o.data=.seq xs n->h'.get? a=some o):dQ h' v ns:=by
 obtain ⟨a,o,xs,n,e,h1,h2,h3,h4⟩:=x
 exact ⟨a,o,xs,n,e,k a o xs n h1 h2 h3,h2,h3,h4⟩
section
variable {prog:Program}{w:World}{A:Around}{E:Value->Shared->Prop}{s:Shared}{Q:Bool->Shared->Prop}
theorem KL {a b:Int}{t u:Tok}(f:Bool) (h:Q (decide (a<b)) s):wpAny (model prog w) A (oneLt' f (.int a t) (.int b u)) Q E s:=by
 cases f with
 | true=>exact oneLt_int h
 | false=>exact kat_one _ _ (PyProof.Rows.lt_int h)
theorem rT:∀{xs ys:List Value}{as bs:List Int}(i:Nat),IntsAre xs as->IntsAre ys bs->as.length=bs.length->Q (HT.lexLt as bs) s->KatLex prog w A true false Q (xs.zip ys) i s
 | _,_,_,_,_,.nil,.nil,_,h=>h
 | _,_,_,_,_,.nil,.cons _ _ _,h,_=>nomatch h
 | _,_,_,_,_,.cons _ _ _,.nil,h,_=>nomatch h
 | _,_,_,_,i,.cons a t r,.cons b u r',hl,h=>by
  rw [HT.CK] at h
  refine kat_cons (wpAny_eqBool_int ?_)
  by_cases e:a=b
  . rw [if_pos e] at h
    have:(a == b)=true:=by simpa using e
    rw [this]
    exact kat_yes (rT (i+1) r r' (Nat.succ.inj hl) h)
  . rw [if_neg e] at h
    have:(a == b)=false:=by simpa using e
    rw [this]
    exact kat_no (KL _ h)
theorem KN {v u:Value}{as bs:List Int}(hv:dQ s.heap v as) (hu:dQ s.heap u bs) (hl:as.length=bs.length) (h:Q (HT.lexLt as bs) s):wpAny (model prog w) A (keyLt' (tuples' true) v u) Q E s:=by
 obtain ⟨a,o,xs,n,rfl,h1,_,h3,h4⟩:=hv
 obtain ⟨b,o2,ys,m,rfl,k1,_,k3,k4⟩:=hu
 refine kat_lt h1 h3 k1 k3 ?_
 have e1:=h4.length
 have e2:=k4.length
 rw [Array.length_toList] at e1 e2
 have:decide (xs.size<ys.size)=false:=decide_eq_false (by omega)
 rw [this]
 exact rT 0 h4 k4 hl h
end
theorem wU {h:Heap} : ∀{vs:List Value}{bs:List (List Int)},Paired (dQ h) vs bs->(∀b∈bs,b≠[])->∃fs,KatTups h vs fs/\fs.length=vs.length/\∀v∈fs,∃i t,v=Value.int i t
 | _,_,.nil,_=>⟨[],.nil,rfl,λ_ h=>nomatch h⟩
 | v::vs,b::bs,.cons hv t,hb=>by
  obtain ⟨fs,h1,h2,h3⟩:=wU t λx hx=>hb x (List.mem_cons_of_mem _ hx)
  obtain ⟨a,o,xs,n,rfl,k1,k2,k3,k4⟩:=hv
  have hn:=hb b List.mem_cons_self
  generalize hx:xs.toList=l at k4
  cases k4 with
  | nil=>exact absurd rfl hn
  | cons i t r=>
   refine ⟨.int i t::fs,KatTups.cons k1 k2 k3 ?_ h1,by rw [List.length_cons,List.length_cons,h2],λz hz=>?_⟩
   . rw [← Array.getElem?_toList,hx]
     rfl
   . rcases List.mem_cons.mp hz with rfl | hz
     . exact ⟨i,t,rfl⟩
     . exact h3 z hz
def Nd (vs:List Value) (i:Nat):Keyed:=(vs.getD i .none,vs.getD i .none)
theorem KO (vs:List Value):vs.toArray.zip vs.toArray=((List.range vs.length).toArray).map (Nd vs):=by
 apply Array.ext
 . simp
 . intro i h1 h2
   simp at h1
   simp [Nd,h1]
theorem ke {α β:Type}{F:α->β->Prop}{d:α}{e:β} : ∀{l₁:List α}{l₂:List β},Paired F l₁ l₂->∀i,i<l₁.length->F (l₁.getD i d) (l₂.getD i e)
 | _,_,.nil,i,h=>absurd h (Nat.not_lt_zero _)
 | _,_,.cons h t,0,_=>by simpa using h
 | _,_,.cons h t,i+1,hi=>by simpa using ke t i (by simpa using hi)
section
variable {prog:Program}{w:World}{A:Around}{E:Value->Shared->Prop}{s:Shared}
def xF (prog:Program) (w:World) (bs:List (List Int)) (q:Array Nat):Prop:=q.size=bs.length/\∀(A:Around) (E:Value->Shared->Prop) (s:Shared) (it:Nat->Keyed),ia prog w A s (tuples' true) it bs.length (λi j=>HT.lexLt (bs.getD i []) (bs.getD j []))->
 wpS (model prog w) A E s sortRuns' (λ_ aP=>arrOf aP=q.map it/\failedOf aP=none) (cu (tuples' true) it (List.range bs.length).toArray #[])
theorem Fh {a:Addr}{vs:List Value}{bs:List (List Int)}{n k:Nat}{q:Array Nat}{P:Fin->Shared->Prop}(ho:s.heap.get? a=some (seqObj "list" vs.toArray n)) (hT:Paired (dQ s.heap) vs bs) (hk:∀b∈bs,b.length=k) (IQ:1<=k) (h2:2<=vs.length) (BJ:vs.length<=64)
 (hq:xF prog w bs q) (h:P (.done (.ret .none)) { s with heap:=sortedHeap s.heap a vs (q.map λi=>vs.getD i .none) }) :
 wpAny (model prog w) A (Builtin.«list.sort» ⟨[.ref a],[]⟩) P E s:=by
 rw [list_sort_plain]
 have ha:a<s.heap.objs.size:=Heap.lt_size ho
 have lb:=hT.length
 refine wpAny_bind (listItems_at ho rfl ?_)
 refine wpAny_bind (listUpdate_at ho rfl ?_ (by rw [List.size_toArray,sizeLine_eq]; omega) (Nat.zero_le _))
 obtain ⟨e1,Fi⟩:∃e1,(s.heap.update a (Obj.mapSeq λ_=>#[])).get? a=some (seqObj "list" #[] e1):=⟨_,get?_update_seq ho (λ_=>#[])⟩
 refine wpAny_bind (seqEpoch_at Fi rfl ?_)
 refine wpAny_bind (wpAny_newTuple ?_ (by show vs.length<=_; rw [sizeLine_eq]; omega))
 refine wpAny_bind (wpAny_newList ?_ (Nat.zero_le _))
 refine wpAny_holding ?_
 have BK:(((s.heap.update a (Obj.mapSeq λ_=>#[])).push (seqObj "tuple" vs.toArray 0)).push (seqObj "list" #[] 0)).get? a=some (seqObj "list" #[] e1):=by
  rw [Heap.get?_push_ne _ _ _ (by rw [size_push',Heap.size_update]; exact Nat.ne_of_lt (Nat.lt_succ_of_lt ha)),Heap.get?_push_ne _ _ _ (by rw [Heap.size_update]; exact Nat.ne_of_lt ha)]
  exact Fi
 show wpAny (model prog w) A _ P E { s with heap:=((s.heap.update a (Obj.mapSeq λ_=>#[])).push (seqObj "tuple" vs.toArray 0)).push (seqObj "list" #[] 0) }
 dsimp only
 have fi:¬ vs.toArray.size<2:=by rw [List.size_toArray]; omega
 rw [if_neg fi,if_neg fi]
 have uH:Paired (dQ (((s.heap.update a (Obj.mapSeq λ_=>#[])).push (seqObj "tuple" vs.toArray 0)).push (seqObj "list" #[] 0))) vs bs:=Paired.bh hT λv b x=>x.keep λb o xs n h1 h2 h3=>by
  have nb:b≠a:=λe=>by
   rw [e,ho] at h1
   cases (Option.some.inj h1)
   exact absurd (Value.type.inj (show Value.type "list" = Value.type "tuple" from h2)) (by decide)
  refine Heap.get?_push_of_some _ (Heap.get?_push_of_some _ ?_)
  rw [(Heap.SameBut.update s.heap a (Obj.mapSeq λ_=>(#[]:Array Value))).2 b nb]
  exact h1
 generalize hh6:((s.heap.update a (Obj.mapSeq λ_=>#[])).push (seqObj "tuple" vs.toArray 0)).push (seqObj "list" #[] 0)=h6 at BK uH
 obtain ⟨fs,f1,f2,f3⟩:=wU uH (λb hb e=>by have:=hk b hb; rw [e] at this; simp at this; omega)
 refine wpAny_bind (kat_kind (M:=model prog w) (T:=.type "int") f1 (by omega) (λv hv=>?_) rfl ?_)
 . obtain ⟨i,t,rfl⟩:=f3 v hv
   exact Looks.of_pure rfl
 have hb:∀i,i<bs.length->(bs.getD i []).length=k:=λi hi=>hk _ (by simp [hi])
 have C:ia prog w A { s with heap:=h6 } (tuples' true) (Nd vs) bs.length (λi j=>HT.lexLt (bs.getD i []) (bs.getD j [])):=λi j hi hj E Q hQ=>
  KN (ke uH i (by omega)) (ke uH j (by omega)) (by rw [hb i hi,hb j hj]) hQ
 have run:=hq.2 A E _ _ C
 rw [KO,lb]
 refine wpAny_bind (wpAny_mono run ?_ λ_ _ e=>e)
 rintro ⟨⟨⟩,aP⟩ s' ⟨rfl,har,hf⟩
 dsimp only
 have hsz:((arrOf aP).map (·.2))=q.map λi=>vs.getD i .none:=by
  rw [har,Array.map_map]
  rfl
 refine wpAny_bind (seqEpoch_at BK rfl ?_)
 refine wpAny_bind (listUpdate_at BK rfl ?_ (hsz2:=by rw [hsz,Array.size_map,hq.1,sizeLine_eq]; omega))
 have hf':(sortPriv% PySem.Builtin.SortState.failed) aP=none:=hf
 rw [hf]
 simp only [bne_self_eq_false,Bool.false_eq_true,if_false]
 refine wpAny_pure ?_
 rw [hsz,← hh6]
 exact h
theorem AL {l:Addr}{vs:List Value}{bs:List (List Int)}{k:Nat}{q:Array Nat}{Q:Value->Shared->Prop}(hl:s.heap.IsList l vs.toArray) (hT:Paired (dQ s.heap) vs bs) (hk:∀b∈bs,b.length=k) (IQ:1<=k) (h2:2<=vs.length) (BJ:vs.length<=64)
 (hq:xF prog w bs q) (h:Q (.ref (s.heap.objs.size+1)) { s with heap:=sortedAll s.heap vs (q.map λi=>vs.getD i .none) }) :
 wpAny (model prog w) A (call (.builtin "sorted") [.ref l]) Q E s:=by
 refine Calls.call_function_entry kind_sorted plain_sorted entry_sorted (args_sorted1 _) ?_
 unfold Builtin.«sorted»
 refine wpAny_bind (m:=checkCount "sorted" 1 1 _) (wpAny_pure ?_)
 refine wpAny_bind (collect_list hl ?_ (by rw [sizeLine_eq]; omega))
 refine wpAny_bind (wpAny_newList ?_ (by rw [sizeLine_eq]; omega))
 have hsz:((s.heap.push (seqObj "list" #[] 0)).update s.heap.objs.size (Obj.mapSeq (· ++ vs.toArray))).objs.size=s.heap.objs.size+1:=by
  rw [Heap.size_update,size_push']
 have xT:(((s.heap.push (seqObj "list" #[] 0)).update s.heap.objs.size (Obj.mapSeq (· ++ vs.toArray))).push (seqObj "list" vs.toArray 0)).get? (s.heap.objs.size+1)=some (seqObj "list" vs.toArray 0):=by
  rw [← hsz]; exact Heap.get?_push_size _ rfl
 have keep:∀b o,s.heap.get? b=some o->(((s.heap.push (seqObj "list" #[] 0)).update s.heap.objs.size (Obj.mapSeq (· ++ vs.toArray))).push (seqObj "list" vs.toArray 0)).get? b=some o:=λb o hb=>by
  refine Heap.get?_push_of_some _ ?_
  rw [(Heap.SameBut.update _ _ _).2 b (Nat.ne_of_lt (Heap.lt_size hb))]
  exact Heap.get?_push_of_some _ hb
 show wpAny _ _ _ _ _ { s with heap:=((s.heap.push (seqObj "list" #[] 0)).update s.heap.objs.size (Obj.mapSeq (· ++ vs.toArray))).push (seqObj "list" vs.toArray 0) }
 rw [hsz]
 refine wpAny_bind (wpAny_holding (wpAny_call_entry slot_list_sort ⟨_,xT,rfl⟩ entry_list_sort (Fh xT (Paired.bh hT λv b x=>x.keep λb o _ _ h1 _ _=>keep b o h1) hk IQ h2 BJ hq ⟨_,rfl,?_⟩) (args_list_sort _)))
 exact wpAny_pure ⟨_,rfl,h⟩
end
end L2
namespace L2
open PySem PySem.Spec PyProof.Rows PySem.W
def cQ:Nat->List (List Int)
 | 0=>[[]]
 | k+1=>(cQ k).map (· ++ [0])++(cQ k).map (· ++ [1])
def ef:Nat->List (List Int)
 | 0=>[[]]
 | k+1=>(ef k).flatMap λr=>[r++[0],r++[1]]
def i5 (k:Nat):Bool:=(cQ k).zipIdx.all λx=>(cQ k).zipIdx.all λy=>HT.lexLt x.1 y.1 == cB k x.2 y.2
theorem Fj:i5 1=true/\i5 2=true/\i5 3=true/\i5 4=true/\i5 5=true/\i5 6=true:=by decide +kernel
def p0 (k:Nat):Array Nat:=(List.range (2 ^ k)).toArray
def lP:Nat->Array Nat
 | 0=>p0 0
 | 1=>p0 1
 | 6=>uG (cB 6) (p0 6)
 | k=>cK (cB k) 0 (2 ^ k-2) 2 (p0 k)
theorem KP:∀k∈[0,1,2,3,4,5,6],((lP k).toList.map λi=>(cQ k).getD i [])=ef k:=by decide +kernel
theorem gK (k:Nat):(cQ k).length=2 ^ k:=by
 induction k with
 | zero=>rfl
 | succ k ih=>
  rw [cQ,List.length_append,List.length_map,List.length_map,ih,Nat.pow_succ]
  omega
theorem wV (k:Nat):∀b∈cQ k,b.length=k:=by
 induction k with
 | zero=>simp [cQ]
 | succ k ih=>
  intro b hb
  rw [cQ] at hb
  rcases List.mem_append.mp hb with h | h <;> (obtain ⟨r,hr,rfl⟩:=List.mem_map.mp h; rw [List.length_append,ih r hr]; rfl)
theorem sU {k i j:Nat}(h:i5 k=true) (hi:i<2 ^ k) (hj:j<2 ^ k):HT.lexLt ((cQ k).getD i []) ((cQ k).getD j [])=cB k i j:=by
 unfold i5 at h
 have mem:∀i,i<2 ^ k->((cQ k).getD i [],i)∈(cQ k).zipIdx:=λi hi=>by
  have hl:i<(cQ k).length:=by rw [gK]; exact hi
  rw [List.mem_zipIdx_iff_getElem?]
  simp [hl]
 have h1:=List.all_eq_true.mp h _ (mem i hi)
 have h2:=List.all_eq_true.mp h1 _ (mem j hj)
 simpa using h2
theorem G8 (k:Nat):i4 (2 ^ k) (p0 k):=λi hi=>by
 unfold p0 at hi ⊢
 simp at hi
 simp [Array.getD,hi]
theorem ia.congr {prog:Program}{w:World}{A:Around}{s:Shared}{κ:SortKind}{it:Nat->Keyed}{N:Nat}{c c':Nat->Nat->Bool}(C:ia prog w A s κ it N c) (h:∀i j,i<N->j<N->c i j=c' i j):ia prog w A s κ it N c':=λi j hi hj E Q hQ=>C i j hi hj E Q (by rw [h i j hi hj]; exact hQ)
def iL (k:Nat):Bool:=!cB k 1 0 && (cB k 2 1 && cB k 0 1)
theorem Fl:iL 2=true/\iL 3=true/\iL 4=true/\iL 5=true:=by decide +kernel
def IS:Bool:=iL 6 && (!cB 6 ((cK (cB 6) 0 30 2 (p0 6)).getD 33 0) ((cK (cB 6) 0 30 2 (p0 6)).getD 32 0) && (cB 6 ((cK (cB 6) 0 30 2 (p0 6)).getD 34 0) ((cK (cB 6) 0 30 2 (p0 6)).getD 33 0) && (cB 6 ((cK (cB 6) 0 30 2 (p0 6)).getD 32 0) ((cK (cB 6) 0 30 2 (p0 6)).getD 33 0) &&
 ((List.range 32).all (λi=>!cB 6 ((two32 (cB 6) (p0 6)).getD (32+i) 0) ((two32 (cB 6) (p0 6)).getD i 0)) && (List.range 31).all (λi=>cB 6 ((two32 (cB 6) (p0 6)).getD (32+i) 0) ((two32 (cB 6) (p0 6)).getD (i+1) 0))))))
theorem KQ:IS=true:=by decide +kernel
theorem Fn:∀k∈[0,1,2,3,4,5,6],(lP k).size=2 ^ k:=by decide +kernel
section
variable {prog:Program}{w:World}
theorem jy {k:Nat}(ha:i5 k=true) (ho:iL k=true) (h3:3<=2 ^ k) (BJ:2 ^ k<64) (hs:(cK (cB k) 0 (2 ^ k-2) 2 (p0 k)).size=2 ^ k):xF prog w (cQ k) (cK (cB k) 0 (2 ^ k-2) 2 (p0 k)):=by
 refine ⟨by rw [gK]; exact hs,λA E s it C=>?_⟩
 rw [gK] at C ⊢
 have C':=C.congr λi j hi hj=>sU ha hi hj
 unfold iL at ho
 rw [Bool.and_eq_true,Bool.and_eq_true,Bool.not_eq_true'] at ho
 have g:∀i,i<2 ^ k->(p0 k).getD i 0=i:=λi hi=>by
  unfold p0
  simp [Array.getD,hi]
 refine Fg C' (p:=p0 k) (n:=2 ^ k) (G8 k) (by unfold p0; simp) h3 BJ ?_ ?_ ?_ ⟨rfl,rfl⟩
 . rw [g 1 (by omega),g 0 (by omega)]; exact ho.1
 . rw [g 2 (by omega),g 1 (by omega)]; exact ho.2.1
 . rw [g 0 (by omega),g 1 (by omega)]; exact ho.2.2
theorem Fo (k:Nat) (h1:1<=k) (h6:k<=6):xF prog w (cQ k) (lP k):=by
 obtain ⟨a1,a2,a3,a4,a5,a6⟩:=Fj
 obtain ⟨b2,b3,b4,b5⟩:=Fl
 have qs:=λk hk=>Fn k hk
 rcases (show k=1\/k=2\/k=3\/k=4\/k=5\/k=6 by omega) with rfl | rfl | rfl | rfl | rfl | rfl
 . refine ⟨rfl,λA E s it C=>?_⟩
   have C':=C.congr λi j hi hj=>sU a1 hi hj
   exact KJ C' (p:=p0 1) (G8 1) rfl (by decide +kernel) ⟨rfl,rfl⟩
 . exact jy a2 b2 (by decide) (by decide) (qs 2 (by simp))
 . exact jy a3 b3 (by decide) (by decide) (qs 3 (by simp))
 . exact jy a4 b4 (by decide) (by decide) (qs 4 (by simp))
 . exact jy a5 b5 (by decide) (by decide) (qs 5 (by simp))
 . refine ⟨by rw [gK]; exact qs 6 (by simp),λA E s it C=>?_⟩
   rw [gK] at C ⊢
   have C':=C.congr λi j hi hj=>sU a6 hi hj
   have hb:=KQ
   unfold IS iL at hb
   simp only [Bool.and_eq_true,Bool.not_eq_true',List.all_eq_true,List.mem_range] at hb
   obtain ⟨⟨c1,c2,c3⟩,d1,d2,d3,e1,e2⟩:=hb
   have g:∀i,i<2 ^ 6->(p0 6).getD i 0=i:=λi hi=>by
    unfold p0
    simp [Array.getD,hi]
   refine Nc C' (p:=p0 6) (G8 6) rfl ?_ ?_ ?_ d1 d2 d3 (λi hi=>e1 i hi) (λi hi=>e2 i (by omega)) λpd=>⟨rfl,rfl⟩
   . rw [g 1 (by decide),g 0 (by decide)]; exact c1
   . rw [g 2 (by decide),g 1 (by decide)]; exact c2
   . rw [g 0 (by decide),g 1 (by decide)]; exact c3
end
end L2
namespace L2
open PySem PySem.Spec PyProof.Rows PySem.W
section
variable {X:Cx}
theorem oR (h:Heap) (vs:List Value) (out:Array Value):∃n,(sortedAll h vs out).get? (h.objs.size+1)=some (seqObj "list" out n):=by
 unfold sortedAll sortedHeap
 have hsz:((h.push (seqObj "list" #[] 0)).update h.objs.size (Obj.mapSeq (· ++ vs.toArray))).objs.size=h.objs.size+1:=by rw [Heap.size_update,size_push']
 have h1:(((h.push (seqObj "list" #[] 0)).update h.objs.size (Obj.mapSeq (· ++ vs.toArray))).push (seqObj "list" vs.toArray 0)).get? (h.objs.size+1)=some (seqObj "list" vs.toArray 0):=by
  rw [← hsz]; exact Heap.get?_push_size _ rfl
 exact ⟨_,get?_update_seq (Heap.get?_push_of_some _ (Heap.get?_push_of_some _ (get?_update_seq h1 λ_=>#[]))) λ_=>out⟩
theorem mY {h:Heap}{vs:List Value}{out:Array Value}{b:Addr}{o:Obj}(hb:h.get? b=some o):(sortedAll h vs out).get? b=some o:=by
 have lt:=Heap.lt_size hb
 have ne0:b≠h.objs.size:=Nat.ne_of_lt lt
 have ne1:b≠h.objs.size+1:=Nat.ne_of_lt (Nat.lt_succ_of_lt lt)
 unfold sortedAll sortedHeap
 rw [(Heap.SameBut.update _ _ _).2 b ne1]
 refine Heap.get?_push_of_some _ (Heap.get?_push_of_some _ ?_)
 rw [(Heap.SameBut.update _ _ _).2 b ne1]
 refine Heap.get?_push_of_some _ ?_
 rw [(Heap.SameBut.update _ _ _).2 b ne0]
 exact Heap.get?_push_of_some _ hb
theorem BL {pins:List (Addr×Obj)}{σ:St}{H:Hp}{s:Shared}(I:Inv X pins σ H s):∀{ts:List Addr}{vs:List Value}{bs:List (List Int)},Vals (ts.map V.ref) vs->Paired (λt b=>aR X.K H t (b.map V.int)) ts bs->Paired (dQ s.heap) vs bs
 | [],vs,_,r,.nil=>by
  rw [List.map_nil] at r
  cases r
  exact .nil
 | t::ts,vs,b::bs,r,.cons h p=>by
  rw [List.map_cons] at r
  cases r with
  | cons r1 r2=>
   cases r1
   obtain ⟨its,rv,⟨o,h1,h2,n,h3⟩,_⟩:=I.tuple h
   exact .cons ⟨t,o,_,n,rfl,h1,h2,h3,intsAre_of rv⟩ (BL I r2 p)
theorem G9 {ts:List Addr}{i:Nat}{d:Addr}(h:i<ts.length):(ts.map V.ref).getD i .aS=.ref (ts.getD i d):=by simp [h]
theorem KR {xs:List V}{vs:List Value}(r:Vals xs vs){i:Nat}(h:i<xs.length):RelV (xs.getD i .aS) (vs.getD i .none):=by
 obtain ⟨w',e,kH⟩:=r.get (i:=i) (List.getElem?_eq_getElem h)
 have e1:vs.getD i .none=w':=by simp [e]
 have e2:xs.getD i .aS=xs[i]:=by simp [h]
 rw [e1,e2]
 exact kH
theorem zA {xs:List V}{vs:List Value}(r:Vals xs vs):∀{l:List Nat},(∀i∈l,i<xs.length)->Vals (l.map λi=>xs.getD i .aS) (l.map λi=>vs.getD i .none)
 | [],_=>.nil
 | i::l,h=>.cons (KR r (h i List.mem_cons_self)) (zA r λj hj=>h j (List.mem_cons_of_mem _ hj))
theorem uI {α β:Type}{F:α->β->Prop}{d:α}{e:β}{l₁:List α}{l₂:List β}(p:Paired F l₁ l₂):∀{l:List Nat},(∀i∈l,i<l₁.length)->Paired F (l.map λi=>l₁.getD i d) (l.map λi=>l₂.getD i e)
 | [],_=>.nil
 | i::l,h=>.cons (ke p i (h i List.mem_cons_self)) (uI p λj hj=>h j (List.mem_cons_of_mem _ hj))
theorem Wq:∀k∈[0,1,2,3,4,5,6],((lP k).toList.all λi=>Nat.blt i (2 ^ k))=true:=by decide +kernel
def xG (K:W.Frag):R2:=λx y H Q=>∃a b xs ys,x=.ref a/\y=.ref b/\aR K H a xs/\aR K H b ys/\ys≠[]/\xs.length+ys.length<=sizeLine/\(xs=[]->Q (.ref b) H)/\(xs≠[]->∀p,H p=none->Q (.ref p) (upd H p (.tup (xs++ys))))
theorem BM:d6 X (binaryOp .Add) (xG X.K):=by
 intro pins s σ H x y v u Q I rx ry h
 obtain ⟨a,b,xs,ys,rfl,rfl,ha,hb,hy,hz,q1,q2⟩:=h
 by_cases hx:xs=[]
 . cases rx
   cases ry
   obtain ⟨its,r1,p1,_⟩:=I.tuple ha
   obtain ⟨lZ,r2,p2,_⟩:=I.tuple hb
   obtain ⟨⟨cls,dd,data,sl⟩,ho,hc,n,hd⟩:=id p1
   obtain ⟨⟨VN,Ih,data2,AY⟩,ym,iV,n2,hd2⟩:=id p2
   simp only at hc hd iV hd2
   subst hc hd iV hd2
   have he:its=[]:=r1.qo.mpr hx
   exact concat_meets ⟨_,ho,rfl⟩ ⟨_,ym,rfl⟩ noFill_tuple_add seq_tuple_add PySem.F.slot_tuple_add PySem.F.entry_tuple_add (PySem.F.args_tuple_add_2 _ _)
    (tuple_addW0 a b its.toArray lZ.toArray n n2 dd Ih sl AY (by simp [he])) ⟨ho,ym,⟨.ref b,H,I,rfl,q1 hx⟩⟩
 . exact Kl pins s σ H _ _ v u Q I rx ry ⟨a,b,xs,ys,rfl,rfl,ha,hb,hx,hz,λe=>absurd e hy,λ_=>q2 hx⟩
end
end L2
namespace L2
open PySem PySem.Spec PyProof.Rows PySem.W
section
variable {prog:Program}{w:World}{A:Around}{E:Value->Shared->Prop}{s:Shared}
theorem Ha {a:Addr}{vs:List Value}{n:Nat}{P:Fin->Shared->Prop}(ho:s.heap.get? a=some (seqObj "list" vs.toArray n)) (h2:vs.length<2) (h:P (.done (.ret .none)) { s with heap:=sortedHeap s.heap a vs vs.toArray }) :
 wpAny (model prog w) A (Builtin.«list.sort» ⟨[.ref a],[]⟩) P E s:=by
 rw [list_sort_plain]
 have ha:a<s.heap.objs.size:=Heap.lt_size ho
 refine wpAny_bind (listItems_at ho rfl ?_)
 refine wpAny_bind (listUpdate_at ho rfl ?_ (by rw [List.size_toArray,sizeLine_eq]; omega) (Nat.zero_le _))
 obtain ⟨e1,Fi⟩:∃e1,(s.heap.update a (Obj.mapSeq λ_=>#[])).get? a=some (seqObj "list" #[] e1):=⟨_,get?_update_seq ho (λ_=>#[])⟩
 refine wpAny_bind (seqEpoch_at Fi rfl ?_)
 refine wpAny_bind (wpAny_newTuple ?_ (by show vs.length<=_; rw [sizeLine_eq]; omega))
 refine wpAny_bind (wpAny_newList ?_ (Nat.zero_le _))
 refine wpAny_holding ?_
 have BK:(((s.heap.update a (Obj.mapSeq λ_=>#[])).push (seqObj "tuple" vs.toArray 0)).push (seqObj "list" #[] 0)).get? a=some (seqObj "list" #[] e1):=
  Heap.get?_push_of_some _ (Heap.get?_push_of_some _ Fi)
 show wpAny (model prog w) A _ P E { s with heap:=((s.heap.update a (Obj.mapSeq λ_=>#[])).push (seqObj "tuple" vs.toArray 0)).push (seqObj "list" #[] 0) }
 dsimp only
 have fi:vs.toArray.size<2:=by rw [List.size_toArray]; omega
 rw [if_pos fi,if_pos fi]
 refine wpAny_bind (wpAny_pure ?_)
 rw [StateT.run_pure]
 refine wpAny_bind (wpAny_pure ?_)
 dsimp only
 have hsz:((vs.toArray.zip vs.toArray).map (·.2))=vs.toArray:=by
  apply Array.ext
  . simp
  . intro i h1 h2
    simp
 refine wpAny_bind (seqEpoch_at BK rfl ?_)
 show wpAny _ _ (Builtin.List.listUpdate (.ref a) (λ_=>((vs.toArray.zip vs.toArray).map (·.2))) >>= _) _ _ _
 rw [hsz]
 refine wpAny_bind (listUpdate_at BK rfl ?_ (hsz2:=by rw [List.size_toArray,sizeLine_eq]; omega))
 simp only [bne_self_eq_false,Bool.false_eq_true,if_false]
 exact wpAny_pure h
theorem Dl {l:Addr}{vs:List Value}{Q:Value->Shared->Prop}(hl:s.heap.IsList l vs.toArray) (h2:vs.length<2) (h:Q (.ref (s.heap.objs.size+1)) { s with heap:=sortedAll s.heap vs vs.toArray }) :
 wpAny (model prog w) A (call (.builtin "sorted") [.ref l]) Q E s:=by
 refine Calls.call_function_entry kind_sorted plain_sorted entry_sorted (args_sorted1 _) ?_
 unfold Builtin.«sorted»
 refine wpAny_bind (m:=checkCount "sorted" 1 1 _) (wpAny_pure ?_)
 refine wpAny_bind (collect_list hl ?_ (by rw [sizeLine_eq]; omega))
 refine wpAny_bind (wpAny_newList ?_ (by rw [sizeLine_eq]; omega))
 have hsz:((s.heap.push (seqObj "list" #[] 0)).update s.heap.objs.size (Obj.mapSeq (· ++ vs.toArray))).objs.size=s.heap.objs.size+1:=by
  rw [Heap.size_update,size_push']
 have xT:(((s.heap.push (seqObj "list" #[] 0)).update s.heap.objs.size (Obj.mapSeq (· ++ vs.toArray))).push (seqObj "list" vs.toArray 0)).get? (s.heap.objs.size+1)=some (seqObj "list" vs.toArray 0):=by
  rw [← hsz]; exact Heap.get?_push_size _ rfl
 show wpAny _ _ _ _ _ { s with heap:=((s.heap.push (seqObj "list" #[] 0)).update s.heap.objs.size (Obj.mapSeq (· ++ vs.toArray))).push (seqObj "list" vs.toArray 0) }
 rw [hsz]
 refine wpAny_bind (wpAny_holding (wpAny_call_entry slot_list_sort ⟨_,xT,rfl⟩ entry_list_sort (Ha xT h2 ⟨_,rfl,?_⟩) (args_list_sort _)))
 exact wpAny_pure ⟨_,rfl,h⟩
end
theorem sV:∀{b c:List Int},b.map V.int=c.map V.int->b=c
 | [],[],_=>rfl
 | [],_::_,h=>nomatch h
 | _::_,[],h=>nomatch h
 | x::b,y::c,h=>by
  rw [List.map_cons,List.map_cons] at h
  have h1:=List.cons.inj h
  rw [V.int.inj h1.1,sV h1.2]
section
variable {X:Cx}
open Classical in
def Wr (K:W.Frag):R2:=λx y H Q=>∃(t p:Addr) (b:List Int) (ts:List Addr) (bs:List (List Int)),x=.ref t/\y=.ref p/\aR K H t (b.map V.int)/\aq K H p (ts.map V.ref)/\Paired (λt b=>aR K H t (b.map V.int)) ts bs/\Q (.bl (decide (b∈bs))) H
theorem KS {A:Around}{pins:List (Addr×Obj)}{σ:St}{H:Hp}{s:Shared}(I:Inv X pins σ H s) (hu:A.units+1<cLine){t u:Addr}{b c:List Int}(ht:aR X.K H t (b.map V.int)) (Tj:aR X.K H u (c.map V.int)):SeqAt.EqAt A s (.ref t) (.ref u) (decide (b=c)):=by
 by_cases e:t=u
 . subst e
   have e2:b=c:=sV (I.lB ht Tj)
   rw [decide_eq_true e2]
   exact SeqAt.EqAt.same _
 . refine SeqAt.EqAt.of_refs e ?_
   obtain ⟨its,rv,pl,_⟩:=I.tuple ht
   obtain ⟨its',pY,uA,_⟩:=I.tuple Tj
   have l1:=rv.length
   have l2:=pY.length
   rw [List.length_map] at l1 l2
   have key:=SeqAt.RcAt.tuples (A:=A) (s:=s) (e:=λj=>decide (b.getD j 0=c.getD j 0)) pl uA (by omega) (λj g1 g2=>?_)
   . have e3:((List.range (min its.toArray.size its'.toArray.size)).all (λj=>decide (b.getD j 0=c.getD j 0)) && its.toArray.size == its'.toArray.size)=decide (b=c):=by
      rw [Bool.eq_iff_iff,Bool.and_eq_true,decide_eq_true_eq,List.all_eq_true]
      simp only [List.size_toArray,beq_iff_eq,List.mem_range,decide_eq_true_eq]
      constructor
      . rintro ⟨h1,h2⟩
        apply List.ext_getElem (by omega)
        intro i g1 g2
        have:=h1 i (by omega)
        simpa [g1,g2] using this
      . rintro rfl
        exact ⟨λ_ _=>rfl,by omega⟩
     rw [← e3]
     exact key
   . simp only [List.size_toArray] at g1 g2
     have hj:j<b.length:=by omega
     have Tn:j<c.length:=by omega
     obtain ⟨w1,e1,r1⟩:=rv.get (x:=.int b[j]) (by rw [List.getElem?_map,List.getElem?_eq_getElem hj]; rfl)
     obtain ⟨w2,e2,r2⟩:=pY.get (x:=.int c[j]) (by rw [List.getElem?_map,List.getElem?_eq_getElem Tn]; rfl)
     have z:=pq (A:=A.in1) (s:=s) r1 r2 rfl rfl
     have a1:its.toArray[j]=w1:=by
      have:=(List.getElem?_eq_some_iff.mp e1).2
      simpa using this
     have a2:its'.toArray[j]=w2:=by
      have:=(List.getElem?_eq_some_iff.mp e2).2
      simpa using this
     rw [a1,a2]
     have e4:ir (.int b[j]) (.int c[j])=decide (b.getD j 0=c.getD j 0):=by
      simp [ir,hj,Tn]
      rfl
     rw [← e4]
     exact z
theorem zB {A:Around}{pins:List (Addr×Obj)}{σ:St}{H:Hp}{s:Shared}(I:Inv X pins σ H s) (hu:A.units+1<cLine){t:Addr}{b:List Int}(ht:aR X.K H t (b.map V.int)) (f:Value->Bool) (hf:∀u c,aR X.K H u (c.map V.int)->f (.ref u)=decide (c=b)):∀{ts:List Addr}{vs:List Value}{bs:List (List Int)},Vals (ts.map V.ref) vs->Paired (λt b=>aR X.K H t (b.map V.int)) ts bs->(∀v∈vs,SeqAt.EqAt A s v (.ref t) (f v))/\vs.any f=bs.any λc=>decide (c=b)
 | [],vs,_,r,.nil=>by
  rw [List.map_nil] at r
  cases r
  exact ⟨(λ_ h=>nomatch h),rfl⟩
 | u::ts,vs,c::bs,r,.cons h p=>by
  rw [List.map_cons] at r
  cases r with
  | cons r1 r2=>
   cases r1
   obtain ⟨h1,h2⟩:=zB I hu ht f hf r2 p
   refine ⟨λv hv=>?_,?_⟩
   . rcases List.mem_cons.mp hv with rfl | hv
     . rw [hf u c h]
       exact KS I hu h ht
     . exact h1 v hv
   . rw [List.any_cons,List.any_cons,h2,hf u c h]
open Classical in
theorem ab9 (hu:X.A.units+2<cLine):d6 X (compareOp .In) (Wr X.K):=by
 intro pins s σ H x y v u Q I rx ry h
 obtain ⟨t,p,b,ts,bs,rfl,rfl,ht,hp,hb,q⟩:=h
 cases (show v=Value.ref t from rx)
 cases (show u=Value.ref p from ry)
 obtain ⟨its,rv,pl,hz⟩:=I.list hp
 have hf:∀u c,aR X.K H u (c.map V.int)->(λv:Value=>decide (∃u,v=.ref u/\aR X.K H u (b.map V.int))) (.ref u)=decide (c=b):=λu c hc=>by
  show decide _=decide _
  congr 1
  refine propext ⟨?_,?_⟩
  . rintro ⟨u',e,h'⟩
    cases e
    exact sV (I.lB hc h')
  . rintro rfl
    exact ⟨u,rfl,hc⟩
 obtain ⟨m1,m2⟩:=zB (A:=X.A.in1) I (by show X.A.in1.units+1<cLine; exact hu) ht (λv:Value=>decide (∃u,v=.ref u/\aR X.K H u (b.map V.int))) hf rv hb
 refine SeqAt.in_listAt _ pl.isList (λw hw=>m1 w (by simpa using hw)) ⟨.bl _,H,I,rfl,?_⟩
 have e:its.toArray.any (λv:Value=>decide (∃u,v=.ref u/\aR X.K H u (b.map V.int)))=decide (b∈bs):=by
  rw [show its.toArray.any (λv:Value=>decide (∃u,v=.ref u/\aR X.K H u (b.map V.int)))=its.any (λv:Value=>decide (∃u,v=.ref u/\aR X.K H u (b.map V.int))) by simp,m2,Bool.eq_iff_iff,List.any_eq_true,decide_eq_true_eq]
  constructor
  . rintro ⟨c,hc,e⟩
    exact of_decide_eq_true e ▸ hc
  . intro h
    exact ⟨b,h,by simp⟩
 rw [e]
 exact q
end
end L2
namespace L2
open PySem PySem.Spec PyProof.Rows PySem.W
section
variable {X:Cx}
theorem zC:eB X (.builtin "sorted") (λxs H Q=>∃p ts k,xs=[.ref p]/\aq X.K H p (ts.map V.ref)/\Paired (λt b=>aR X.K H t (b.map V.int)) ts (cQ k)/\1<=k/\k<=6/\
 ∀D zD,H D=none->(∀F:Addr->List Int->Prop,Paired F ts (cQ k)->Paired F zD (ef k))->Q (.ref D) (upd H D (.lst (zD.map V.ref)))):=by
 intro pins s σ H xs us Q I r h
 obtain ⟨p,ts,k,rfl,hp,hb,h1,h6,q⟩:=h
 obtain ⟨u,rfl,rx⟩:=vals1 r
 cases (show u=Value.ref p from rx)
 obtain ⟨its,rv,pl,hz⟩:=I.list hp
 have l1:=rv.length
 rw [List.length_map] at l1
 have l2:=hb.length
 rw [gK] at l2
 have hk:k∈[0,1,2,3,4,5,6]:=by
  rcases (show k=1\/k=2\/k=3\/k=4\/k=5\/k=6 by omega) with rfl | rfl | rfl | rfl | rfl | rfl <;> simp
 have two:2<=2 ^ k/\2 ^ k<=64:=by
  rcases (show k=1\/k=2\/k=3\/k=4\/k=5\/k=6 by omega) with rfl | rfl | rfl | rfl | rfl | rfl <;> decide
 have dw:∀i∈(lP k).toList,i<2 ^ k:=λi hi=>by
  have:=List.all_eq_true.mp (Wq k hk) i hi
  rwa [Nat.blt_eq] at this
 refine AL (k:=k) (q:=lP k) pl.isList (BL I rv hb) (wV k) h1 (by omega) (by omega) (Fo k h1 h6) ?_
 obtain ⟨n,hn⟩:=oR s.heap its ((lP k).map λi=>its.getD i .none)
 have fw:∀F:Addr->List Int->Prop,Paired F ts (cQ k)->Paired F ((lP k).toList.map λi=>ts.getD i 0) (ef k):=λF hF=>by
  have:=uI (d:=0) (e:=[]) hF (l:=(lP k).toList) (λi hi=>by have:=dw i hi; omega)
  rwa [KP k hk] at this
 refine ⟨.ref (s.heap.objs.size+1),_,I.laid (t':=s.toks) (o:=.lst (((lP k).toList.map λi=>ts.getD i 0).map V.ref)) (λb o hb=>mY hb) (by omega) ?_,rfl,q _ _ (I.hok.fresh (by omega)) fw⟩
 refine ⟨?_,((lP k).map λi=>its.getD i .none).toList,n,?_,?_⟩
 . rw [List.length_map,List.length_map,Array.length_toList,Fn k hk,sizeLine_eq]
   omega
 . have v:=zA rv (l:=(lP k).toList) (λi hi=>by rw [List.length_map]; have:=dw i hi; omega)
   rw [Array.toList_map]
   have e:((lP k).toList.map λi=>ts.getD i 0).map V.ref=(lP k).toList.map λi=>(ts.map V.ref).getD i .aS:=by
    rw [List.map_map]
    refine List.map_congr_left λi hi=>?_
    show V.ref (ts.getD i 0)=_
    exact (G9 (by have:=dw i hi; omega)).symm
   rw [e]
   exact v
 . rw [Array.toArray_toList]
   exact hn
theorem xw:eB X (.builtin "sorted") (λxs H Q=>∃p ts k,xs=[.ref p]/\aq X.K H p (ts.map V.ref)/\Paired (λt b=>aR X.K H t (b.map V.int)) ts (cQ k)/\k<=6/\
 ∀D zD,H D=none->(∀F:Addr->List Int->Prop,Paired F ts (cQ k)->Paired F zD (ef k))->Q (.ref D) (upd H D (.lst (zD.map V.ref)))):=by
 intro pins s σ H xs us Q I r h
 obtain ⟨p,ts,k,rfl,hp,hb,h6,q⟩:=h
 by_cases hk:k=0
 . subst hk
   obtain ⟨u,rfl,rx⟩:=vals1 r
   cases (show u=Value.ref p from rx)
   obtain ⟨its,rv,pl,hz⟩:=I.list hp
   have l1:=rv.length
   rw [List.length_map] at l1
   have l2:=hb.length
   rw [gK] at l2
   obtain ⟨n,hn⟩:=oR s.heap its its.toArray
   refine Dl pl.isList (by omega) ⟨.ref (s.heap.objs.size+1),_,I.laid (t':=s.toks) (o:=.lst (ts.map V.ref)) (λb o hb=>mY hb) (by omega) ⟨hz,its,n,rv,hn⟩,rfl,q _ ts (I.hok.fresh (by omega)) λF hF=>hF⟩
 . exact zC pins s σ H _ us Q I r ⟨p,ts,k,rfl,hp,hb,by omega,h6,q⟩
end
end L2
namespace Gen
open PySem L2
abbrev qH:Stmt:=top 23
abbrev ko:Stmt:=top 24
def eA (v:V) (b:Int):Bool:=decide (v=.aS) || decide (v=.int b)
def fJ (fs:List V) (r:List Int):Bool:=(fs.zip r).all λp=>eA p.1 p.2
def vw (v:V):Prop:=v=.int 0\/v=.int 1\/v=.aS
def xH (v:V):List Int:=if v=.aS then [0,1] else if v=.int 0 then [0] else [1]
def qI (rows:List (List Int)) (f:V):List (List Int):=rows.flatMap λr=>(xH f).map λb=>r++[b]
def vx (fs:List V):List (List Int):=fs.foldl qI [[]]
theorem sW:∀(k:Nat),∀r∈ef k,r.length=k
 | 0,r,h=>by
  have:r=[]:=by simpa [ef] using h
  rw [this]; rfl
 | k+1,r,h=>by
  rw [ef] at h
  obtain ⟨q,hq,hr⟩:=List.mem_flatMap.mp h
  have:=sW k q hq
  simp only [List.mem_cons,List.not_mem_nil,or_false] at hr
  rcases hr with rfl | rfl <;> rw [List.length_append,this] <;> rfl
theorem vy:∀(k:Nat),(ef k).length=2 ^ k
 | 0=>rfl
 | k+1=>by
  have:∀l:List (List Int),(l.flatMap λr=>[r++[(0:Int)],r++[1]]).length=2*l.length:=λl=>by
   induction l with
   | nil=>rfl
   | cons x l ih=>rw [List.flatMap_cons,List.length_append,ih,List.length_cons]; simp; omega
  rw [ef,this,vy k,Nat.pow_succ]
  omega
theorem zE {fs:List V}{r:List Int}(f:V) (b:Int) (h:fs.length=r.length):fJ (fs++[f]) (r++[b])=(fJ fs r && eA f b):=by
 unfold fJ
 rw [List.zip_append h,List.all_append]
 simp
theorem Hb {f:V}(h:vw f) (r:List Int):([r++[0],r++[1]].filter λx=>eA f (x.getLast?.getD 0))=(xH f).map λb=>r++[b]:=by
 rcases h with rfl | rfl | rfl <;> simp [eA,xH]
theorem Fp (fs:List V) (f:V):vx (fs++[f])=qI (vx fs) f:=by
 unfold vx
 rw [List.foldl_append]
 rfl
theorem rV {α β:Type}{g:α->List β}{p:β->Bool}{q:α->Bool}{g':α->List β} : ∀(l:List α),(∀x∈l,(g x).filter p=if q x=true then g' x else [])->(l.flatMap g).filter p=(l.filter q).flatMap g'
 | [],_=>rfl
 | x::l,h=>by
  rw [List.flatMap_cons,List.filter_append,rV l λy hy=>h y (List.mem_cons_of_mem _ hy),h x List.mem_cons_self,List.filter_cons]
  split
  . rw [List.flatMap_cons]
  . rfl
theorem BN:∀(k:Nat) (fs:List V),fs.length=k->(∀f∈fs,vw f)->vx fs=(ef k).filter (fJ fs)
 | 0,fs,hl,_=>by
  have:fs=[]:=List.length_eq_zero_iff.mp hl
  subst this
  rfl
 | k+1,fs,hl,hf=>by
  obtain ⟨gs,f,rfl⟩:∃gs f,fs=gs++[f]:=by
   have cD:fs≠[]:=λe=>by rw [e] at hl; cases hl
   exact ⟨fs.dropLast,fs.getLast cD,(List.dropLast_concat_getLast cD).symm⟩
  have hg:gs.length=k:=by rw [List.length_append,List.length_singleton] at hl; omega
  have hff:=hf f (by simp)
  rw [Fp,BN k gs hg λx hx=>hf x (List.mem_append.mpr (.inl hx)),ef]
  unfold qI
  refine (rV (ef k) λr hr=>?_).symm
  have rq:=sW k r hr
  have o0:=zE (fs:=gs) (r:=r) f 0 (by omega)
  have o1:=zE (fs:=gs) (r:=r) f 1 (by omega)
  cases hq:fJ gs r with
  | true=>
   rw [if_pos rfl,← Hb hff r]
   rw [hq,Bool.true_and] at o0 o1
   simp [List.filter_cons,o0,o1]
  | false=>
   rw [if_neg (by decide)]
   rw [hq,Bool.false_and] at o0 o1
   simp [List.filter_cons,o0,o1]
def ck (H:Hp) (ts:List Addr) (bs:List (List Int)):Prop:=Paired (λt b=>H t=some (.tup (b.map V.int))) ts bs
theorem ck.same {H H':Hp}{ts:List Addr}{bs:List (List Int)}(h:ck H ts bs) (s:aj H H'):ck H' ts bs:=Paired.bh h λt b e=>s _ _ e
theorem KU (r:List Int) (b:Int):(r.map V.int++[V.int b])=(r++[b]).map V.int:=by rw [List.map_append]; rfl
def QO (K:W.Frag) (H:Hp) (ts:List Addr) (bs:List (List Int)):Prop:=Paired (λt b=>aR K H t (b.map V.int)) ts bs
theorem ck.t {K:W.Frag}{H:Hp}{ts:List Addr}{bs:List (List Int)}(h:ck H ts bs):QO K H ts bs:=Paired.bh h λt b e=>aR.of e
def qe (K:W.Frag):Sp:=λvs H Q _=>∃(k:Int),vs=[.int k]/\0<=k/\k<=6/\∀p us H',aj H H'->H p=none->H' p=some (.lst (us.map V.ref))->ck H' us (ef k.toNat)->Q (.ref p) H'
theorem Hc {fs:List V}{cs:List Int}(h:fs.length=cs.length):fJ fs cs=((fs.zip cs).map λp=>eA p.1 p.2).all _root_.id:=by
 unfold fJ
 rw [List.all_map]
 rfl
theorem Fq {K:W.Frag}{b:Int}{D p:Addr}{Q:Hp->Prop}{H1:Hp}{ts:List Addr}{bs:List (List Int)}(hD:H1 D=none) (hp:H1 p=some (.lst (ts.map V.ref))) (h2:ck H1 ts bs) (hlen:bs.length<=64) (hk:∀r∈bs,r.length<=6)
 (fin:∀H4 ws,aj H1 H4->H4 D=some (.lst (ws.map V.ref))->ck H4 ws (bs.map (· ++ [b]))->Q H4) :
 ∃W:Nat->Nat->St->Hp->Prop,(∃m,W 0 m [none] (upd H1 D (.lst [])))/\Bc D (dr 0) sG (vT (xG K) (oX 0) (LK (Ia (tC (.int b)) Gn))) (vR K p) W Q:=by
 have hl:=h2.length
 refine cY bs.length (λj acc bx H4=>(∃ws:List Addr,acc=ws.map V.ref/\ck H4 ws ((bs.take j).map (· ++ [b]))/\ws.length=j)/\(∃u,bx=[u])/\aj H1 H4) ⟨⟨[],rfl,.nil,rfl⟩,⟨none,rfl⟩,aj.ao hD⟩ ag ?_ ?_
 . rintro acc bx H4 aW ⟨⟨ws,rfl,fE,_⟩,_,s4⟩
   rw [List.take_length] at fE
   exact ⟨⟨_,aq.of (s4 _ _ hp),by rw [List.length_map,hl]; exact Nat.le_refl _⟩,fin H4 ws s4 aW fE⟩
 . rintro j acc bx H4 hj aW ⟨⟨ws,rfl,fE,pC⟩,⟨u,rfl⟩,s4⟩
   have Fs:bs[j]?=some bs[j]:=List.getElem?_eq_getElem hj
   obtain ⟨t,ht,hT⟩:=a9 h2 (i:=j) Fs
   have ej:(ts.map V.ref)[j]?=some (.ref t):=by rw [List.getElem?_map,ht]; rfl
   refine ⟨⟨_,_,aq.of (s4 _ _ hp),ej⟩,?_⟩
   rintro x' H' ⟨rfl,cT⟩
   have ex:=cT _ (aq.of (s4 _ _ hp))
   rw [ej] at ex
   cases ex
   refine cA ?_
   have dv:(bs.take (j+1)).map (· ++ [b])=(bs.take j).map (· ++ [b])++[bs[j]++[b]]:=by
    rw [List.take_succ,Fs,List.map_append]
    rfl
   have rq:=hk _ (List.getElem_mem hj)
   generalize bs[j]=r at hT dv rq
   have Nf:∀(R:Addr) (J:Hp),aj H' J->J R=some (.tup ((r++[b]).map V.int))->∃acc,J D=some (.lst acc)/\acc.length<sizeLine/\∃m',m'<bs.length-j/\Bd D bs.length (λj acc bx H4=>(∃ws:List Addr,acc=ws.map V.ref/\ck H4 ws ((bs.take j).map (· ++ [b]))/\ws.length=j)/\(∃u,bx=[u])/\aj H1 H4) (j+1) m' [some (.ref t)] (upd J D (.lst (acc++[.ref R]))):=by
    intro R J sJ hR
    have To:=sJ _ _ aW
    have nt:∀{b:Addr}{o:List V},J b=some (.tup o)->b≠D:=λhb e=>by rw [e,To] at hb; cases hb
    refine ⟨_,To,(by rw [List.length_map]; exact small (by omega)),bo hj ag ⟨⟨ws++[R],by rw [List.map_append]; rfl,?_,by rw [List.length_append,List.length_singleton,pC]⟩,⟨_,rfl⟩,?_⟩⟩
    . rw [dv]
      refine Paired.snoc (Paired.bh fE λc d e=>?_) ?_
      . have:=sJ _ _ e
        rw [ai (nt this)]
        exact this
      . rw [ai (nt hR)]
        exact hR
    . intro y o hy
      rw [ai (af hy hD)]
      exact sJ _ _ (s4 _ _ hy)
   refine ⟨_,rfl,(by show 1<=sizeLine; decide),λT1 hT1=>?_⟩
   have z1:aj H' (upd H' T1 (.tup [.int b])):=aj.ao hT1
   have z2:(upd H' T1 (.tup [.int b])) T1=some (.tup [.int b]):=ag
   generalize upd H' T1 (.tup [.int b])=J3 at z1 z2 ⊢
   refine ⟨t,T1,_,_,rfl,rfl,aR.of (z1 _ _ (s4 _ _ hT)),aR.of z2,(by simp),?_,λe=>?_,λ_ R hR=>?_⟩
   . rw [List.length_map]
     exact gb (by show r.length+1<=100; omega)
   . have:r=[]:=List.map_eq_nil_iff.mp e
     subst this
     exact Nf T1 J3 z1 z2
   . exact Nf R _ (z1.trans (aj.ao hR)) (by rw [ag,KU])
section
variable {P:Program}{w:World}{K:W.Frag}{mg:Str->Option Value}{base:Heap}{C:Addr}
theorem Dm:aQ ["_law_many", "_law_found", "_law_k"] ["_law_many"] (au qH):=⟨rfl,rfl,rfl,by decide +kernel,rfl,by decide +kernel,by decide +kernel⟩
theorem AM {f:Addr}{fd:FuncData}(F:cC K "_law_all_bits" "_law_all_bits" qH f fd) (O:Own mg) (hS:mg "sorted" = none):aw P w K mg base aD 1 f fd ["_law_many"] (qe K):=by
 refine F.ok Dm (λvs H Q E h=>?_) (λcdv A outer s H vs Q E hr h=>?_)
 . obtain ⟨k,rfl,_⟩:=h
   rfl
 . obtain ⟨k,rfl,k0,k6,kk⟩:=h
   refine ⟨_,ak (aE (i:=1) Dm.nd rfl (Or.inl rfl) (bt (ae (eh ah) ah)))
    (ak (cc PassesOwn.never rfl (cO rfl O.range (ae (pv 0) ah)) (ax (i:=2) Dm.nd rfl (Or.inl rfl))
     (ar (aE (i:=1) Dm.nd rfl (Or.inl rfl) (aH iu
      (cX (N:=["_law_one"]) (js:=[none]) (by kernel_rfl) rfl (bU (pv 1)) (λ_ _ _ _ _ _=>ax (i:=0) Iz rfl (Or.inl rfl) (.inr rfl)) (λ_ _ _ _ _ _=>bj) (λ_ _ _ _ _ _=>aH (r:=xG K) BM (pv 0) (eh (ae av ah))))
      (cX (N:=["_law_one"]) (js:=[none]) (by kernel_rfl) rfl (bU (pv 1)) (λ_ _ _ _ _ _=>ax (i:=0) Iz rfl (Or.inl rfl) (.inr rfl)) (λ_ _ _ _ _ _=>bj) (λ_ _ _ _ _ _=>aH (r:=xG K) BM (pv 0) (eh (ae av ah))))))))
    (ar (aT (aU xw (by rfl) hS PyProof.Rows.boot_sorted (ae (pv 1) ah))))),?_⟩
   refine ⟨(by show 0<=sizeLine; decide),λe he=>?_⟩
   have t0:aj H (upd H e (.tup [])):=aj.ao he
   have q0:(upd H e (.tup [])) e=some (.tup (([]:List Int).map V.int)):=ag
   generalize upd H e (.tup [])=H0 at t0 q0 ⊢
   refine ⟨(by show 1<=sizeLine; decide),λp0 lh=>?_⟩
   have t1:aj H0 (upd H0 p0 (.lst [.ref e])):=aj.ao lh
   have q1:(upd H0 p0 (.lst [.ref e])) p0=some (.lst ([e].map V.ref)):=ag
   generalize upd H0 p0 (.lst [.ref e])=H1 at t1 q1 ⊢
   have t01:=t0.trans t1
   refine ⟨_,rfl,k,rfl,by omega,by omega,eI (n:=k.toNat) (λi σ Hi=>∃(p:Addr) (ts:List Addr) (v2:Option V),σ=[some (.int k),some (.ref p),v2]/\Hi p=some (.lst (ts.map V.ref))/\ck Hi ts (cQ i)/\aj H Hi) ?_ ?_ ?_⟩
   . exact ⟨p0,[e],none,rfl,q1,.cons (t1 _ _ q0) .nil,t01⟩
   . rintro i σ Hi hi ⟨p,ts,v2,rfl,hp,gz,si⟩
     have iX:(cQ i).length<=64:=by
      rw [gK]
      have h2:2 ^ i<=2 ^ 6:=Nat.pow_le_pow_right (by decide) (by omega)
      omega
     have qY:∀r∈cQ i,r.length<=6:=λr zF=>by rw [wV i r zF]; omega
     refine ⟨_,rfl,p,rfl,⟨_,aq.of hp⟩,λD hD=>Fq hD hp gz iX qY λH2 ws s2 mz Iw=>?_⟩
     refine ⟨_,rfl,p,rfl,⟨_,aq.of (s2 _ _ hp)⟩,λD' hD'=>Fq hD' (s2 _ _ hp) (gz.same s2) iX qY λH3 ws' s3 wu Iy=>?_⟩
     have l1:=Iw.length
     have l2:=Iy.length
     rw [List.length_map] at l1 l2
     refine ⟨D,D',_,_,rfl,rfl,s3 _ _ mz,wu,(by rw [List.length_map,List.length_map]; exact kY (by omega)),λR hR=>⟨R,ws++ws',_,rfl,?_,?_,?_⟩⟩
     . rw [ag,List.map_append]
     . rw [cQ]
       exact bE (Paired.bh Iw λt b e=>by have:=s3 _ _ e; rw [ai (af this hR)]; exact this) (Paired.bh Iy λt b e=>by rw [ai (af e hR)]; exact e)
     . exact si.trans (s2.trans (s3.trans (aj.ao hR)))
   . rintro σ Hi ⟨p,ts,v2,rfl,hp,gz,si⟩
     refine ⟨_,rfl,p,ts,k.toNat,rfl,aq.of hp,gz.t,by omega,λD zD hD hF=>?_⟩
     exact kk D zD _ (si.trans (aj.ao hD)) (si.free hD) ag (ck.same (hF _ gz) (aj.ao hD))
end
theorem Dn:(["_law_name", "_law_first", "_law_bit_here"]:List Str).Nodup:=by decide +kernel
inductive wW (K:W.Frag) (vs:List V) (H:Hp) (Q:VK):Prop
 | mk (m a1 a2 a3 a4 a5 a6:Addr) (M:aN) (h1:vs=[.ref m]) (h2:eu H m M a1 a2 a3 a4 a5 a6) (h3:M.keepers.length<=6) (h4:(∀r∈M.keepers,vw r.2)) (h5:∀p us H',aj H H'->H p=none->H' p=some (.lst (us.map V.ref))->ck H' us ((ef M.keepers.length).filter (fJ (M.keepers.map (·.2))))->Q (.ref p) H'):wW K vs H Q
def oo (K:W.Frag):Sp:=λvs H Q _=>wW K vs H Q
theorem rW {α:Type}{p:α->Bool}{l:List α}{i:Nat}{x:α}(h:l[i]?=some x):(l.take (i+1)).filter p=(l.take i).filter p++if p x=true then [x] else []:=by
 rw [List.take_succ,h,List.filter_append]
 cases hp:p x <;> simp [hp]
section
variable {P:Program}{w:World}{K:W.Frag}{mg:Str->Option Value}{base:Heap}{C:Addr}
theorem Hd:aQ ["_law_m", "_law_found", "_law_stand"] ["_law_m"] (au ko):=⟨rfl,rfl,rfl,by decide +kernel,rfl,by decide +kernel,by decide +kernel⟩
theorem Ft {f fA:Addr}{fd dA:FuncData}(F:cC K "_law_firsts" "_law_firsts" ko f fd) (O2:eY mg)
 (gA:aw P w K mg base aD 1 fA dA ["_law_many"] (qe K)) (mA:mg "_law_all_bits" = some (.ref fA)) (kA:W.keepIn K (.ref fA)=true) (bA:Binds K dA ["_law_many"] []):aw P w K mg base aD 2 f fd ["_law_m"] (oo K):=by
 refine F.ok Hd (λvs H Q E h=>?_) (λcdv A outer s H vs Q E hr h=>?_)
 . obtain ⟨m,a1,a2,a3,a4,a5,a6,M,rfl,_⟩:=h
   rfl
 . obtain ⟨m,a1,a2,a3,a4,a5,a6,M,rfl,hM,hk6,Bb,kk⟩:=h
   have hu:=eZ hr
   refine ⟨_,ak (aE (i:=1) Hd.nd rfl (Or.inl rfl) (bt ah))
    (ak (cc PassesOwn.never rfl (bU (aA gA hr rfl mA kA bA .nil az (ae (aU bZ (by rfl) O2.len PySem.boot_len (ae (cb hu (pv 0) aO (λ_ _=>rfl)) ah)) ah))) (ax (i:=2) Hd.nd rfl (Or.inl rfl))
     (ar (bY (ie (aU (vj rfl) (by rfl) O2.all PyProof.Rows.boot_all (ae (cX (N:=["_law_name", "_law_first", "_law_bit_here"]) (js:=[none,none,none]) (g:=sq K 2 (g8 (sq K 2 (g8 (dr 0) (g8 (dr 1) so))) (g8 (dr 2) so))) (by kernel_rfl) rfl (mU (by rfl) O2.zip (ae (cb hu (pv 0) aO (λ_ _=>rfl)) (ae (pv 2) ah)))
      (λ_ _ _ _ _ _=>eg rfl (aK (eg rfl (aK (ax (i:=0) Dn rfl (Or.inl rfl) (.inr rfl)) (aK (ax (i:=1) Dn rfl (Or.inl rfl) (.inr rfl)) cU))) (aK (ax (i:=2) Dn rfl (Or.inl rfl) (.inr rfl)) cU))) (λ_ _ _ _ _ _=>bj)
      (λ_ _ _ _ _ _=>P0 (Lu (xX (pv 1))) (xY (jh iU (pv 1) (pv 2) (bp _))))) ah)))
      (ar (dg (eD PySem.F.plainAttrs_list PySem.F.slot_list_append PySem.F.type_list_append dj (pv 1) (ae (pv 2) ah)))) aY)))
    (ar (aT (pv 1)))),?_⟩
   refine ⟨(by show 0<=sizeLine; decide),λp hp=>?_⟩
   have t0:aj H (upd H p (.lst [])):=aj.ao hp
   have q0:(upd H p (.lst [])) p=some (.lst (([]:List Addr).map V.ref)):=ag
   generalize upd H p (.lst [])=H0 at t0 q0 ⊢
   have Ng:=hM.same t0
   obtain ⟨ks,lQ,Tq⟩:=id Ng.kp
   have Tr:=Tq.length
   rw [List.length_map] at Tr
   refine ⟨_,rfl,m,.ref a2,rfl,cw.k (k:=.inr "keepers") Ng.top,a2,_,rfl,.inl (aq.of lQ),?_⟩
   rw [List.length_map]
   refine ⟨_,rfl,by omega,by omega,λa us H1 s1 ha Ts cG=>?_⟩
   have ekn:((ks.length:Int)).toNat=M.keepers.length:=by omega
   rw [ekn] at cG
   have hlr:(ef M.keepers.length).length<=64:=by
    rw [vy]
    have h2:2 ^ M.keepers.length<=2 ^ 6:=Nat.pow_le_pow_right (by decide) hk6
    omega
   have gp:=cG.length
   have npa:a≠p:=λe=>by rw [e,q0] at ha; cases ha
   have EB:=s1 _ _ q0
   have Ws:∀v∈M.keepers.map (·.2),vw v:=λv hv=>by
    obtain ⟨r,zF,rfl⟩:=List.mem_map.mp hv
    exact Bb r zF
   have Tt:=sW M.keepers.length
   have a2p:a2≠p:=λe=>by
    obtain ⟨k2,h2,_⟩:=id hM.kp
    rw [e,hp] at h2
    cases h2
   have mp:m≠p:=λe=>by have:=hM.top; rw [e,hp] at this; cases this
   generalize aeU:ef M.keepers.length=rows at cG hlr gp kk Tt
   generalize rJ:M.keepers.map (·.2)=fs at Ws kk
   have pJ:fs.length=M.keepers.length:=by rw [← rJ,List.length_map]
   refine ⟨a,rfl,⟨_,aq.of Ts⟩,d7 (K:=K) (a:=a) (xs:=us.map V.ref) (λi σ Hi=>∃(ws:List Addr) (v2:Option V),σ=[some (.ref m),some (.ref p),v2]/\Hi p=some (.lst (ws.map V.ref))/\ck Hi ws ((rows.take i).filter (fJ fs))/\aV H1 Hi p) ?_ ?_ ?_ ?_⟩
   . exact ⟨[],none,rfl,EB,.nil,aV.refl _ _⟩
   . rintro i σ Hi _ ⟨_,_,_,_,_,ki⟩
     exact aq.of (ki _ _ Ts npa)
   . rintro i xv σ Hi hx ⟨ws,v2,rfl,mZ,fE,ki⟩
     have hi:i<us.length:=by
      have:=(List.getElem?_eq_some_iff.mp hx).1
      rwa [List.length_map] at this
     have Tu:i<rows.length:=by omega
     have gy:rows[i]?=some rows[i]:=List.getElem?_eq_getElem Tu
     obtain ⟨t,ht,hT⟩:=a9 cG (i:=i) gy
     have ex:xv=.ref t:=by
      rw [List.getElem?_map,ht] at hx
      exact (Option.some.inj hx).symm
     subst ex
     have rq:=Tt _ (List.getElem_mem Tu)
     have zG:=rW (p:=fJ fs) gy
     generalize rows[i]=r at hT rq zG
     have He:Hi t=some (.tup (r.map V.int)):=ki _ _ hT (bu hT EB (by intro z; cases z))
     have uJ:aR K Hi t (r.map V.int):=aR.of He
     have iK:Hi m=some (.dK (qx a1 a2 a3 a4 a5 a6)):=ki _ _ (s1 _ _ Ng.top) mp
     have yY:Hi a2=some (.lst (ks.map V.ref)):=ki _ _ (s1 _ _ lQ) a2p
     have pk2:Paired (λt r=>Hi t=some (.tup r)) ks (M.keepers.map iY):=Paired.bh Tq λt r e=>ki _ _ (s1 _ _ e) (bu (s1 _ _ e) EB (by intro z; cases z))
     have pC:=fE.length
     have ae1:((rows.take i).filter (fJ fs)).length<=64:=by
      refine Nat.le_trans (List.length_filter_le _ _) ?_
      rw [List.length_take]
      omega
     refine ⟨_,rfl,m,.ref a2,rfl,cw.k (k:=.inr "keepers") iK,_,rfl,a2,t,rfl,⟨_,aq.of yY⟩,⟨_,uJ⟩,λD hD=>?_⟩
     refine cY fs.length (λj acc σ H4=>acc=(((fs.zip r).take j).map λp=>eA p.1 p.2).map V.bl/\(∃u v x,σ=[u,v,x])/\aj Hi H4) ⟨rfl,⟨none,none,none,rfl⟩,aj.ao hD⟩ ag ?_ ?_
     . rintro acc σ H4 aW ⟨rfl,_,s4⟩
       rw [List.take_of_length_le (by rw [List.length_zip]; omega)] at aW
       refine ⟨⟨_,(show ZK K false H4 a2 _ from aq.of (s4 _ _ yY)),by rw [List.length_map,Tr,pJ]; exact Nat.le_refl _⟩,D,_,rfl,aq.of aW,?_⟩
       rw [← Hc (by omega)]
       have e9:=s4 _ _ mZ
       refine ⟨_,rfl,dq (λh=>?_) (λh=>?_)⟩
       . rw [if_pos h] at zG
         refine ⟨_,rfl,.inl ⟨rfl,_,aq.of e9⟩,_,rfl,p,_,_,rfl,rfl,e9,(by rw [List.length_map]; exact small (by omega)),ws++[t],_,rfl,(by rw [ag,List.map_append]; rfl),?_,?_⟩
         . rw [zG]
           have kp:aV H4 (upd H4 p (.lst (ws.map V.ref++[.ref t]))) p:=aV.kU
           exact Paired.snoc (Paired.bh fE λu b e=>kp _ _ (s4 _ _ e) (bu (s4 _ _ e) e9 (by intro z; cases z))) (kp _ _ (s4 _ _ He) (bu (s4 _ _ He) e9 (by intro z; cases z)))
         . intro b o hb hn
           rw [ai hn]
           exact s4 _ _ (ki _ _ hb hn)
       . rw [if_neg h,List.append_nil] at zG
         exact ⟨ws,_,rfl,e9,by rw [zG]; exact fE.same s4,λb o hb hn=>s4 _ _ (ki _ _ hb hn)⟩
     . rintro j acc σ H4 hj aW ⟨rfl,⟨u,v,x,rfl⟩,s4⟩
       have hjr:j<r.length:=by omega
       have Tw:j<M.keepers.length:=by omega
       have Tx:M.keepers[j]?=some M.keepers[j]:=List.getElem?_eq_getElem Tw
       obtain ⟨kt,hkt,eK⟩:=a9 pk2 (i:=j) (b:=iY M.keepers[j]) (by rw [List.getElem?_map,Tx]; rfl)
       have e1:(ks.map V.ref)[j]?=some (.ref kt):=by rw [List.getElem?_map,hkt]; rfl
       have e2:(r.map V.int)[j]?=some (.int r[j]):=by rw [List.getElem?_map,List.getElem?_eq_getElem hjr]; rfl
       have z1:ZK K false H4 a2 (ks.map V.ref):=aq.of (s4 _ _ yY)
       have z2:ZK K true H4 t (r.map V.int):=aj.jn s4 uJ
       refine ⟨⟨_,_,_,_,z1,z2,e1,e2⟩,?_⟩
       rintro x' H' ⟨Tp,xa,xb,rfl,gh,rfl,h1,h2⟩
       have e3:=h1 _ z1
       have e4:=h2 _ z2
       rw [e1] at e3
       rw [e2] at e4
       cases e3
       cases e4
       have sT:aj H4 (upd H4 Tp (.tup [.ref kt,.int r[j]])):=aj.ao gh
       have hDT:=sT _ _ aW
       have efj:fs[j]=M.keepers[j].2:=by
        have:fs[j]?=some M.keepers[j].2:=by rw [← rJ,List.getElem?_map,Tx]; rfl
        rw [List.getElem?_eq_getElem hj] at this
        exact Option.some.inj this
       have hz:(fs.zip r)[j]?=some (M.keepers[j].2,r[j]):=by rw [List.getElem?_eq_getElem (by rw [List.length_zip]; omega),List.getElem_zip,efj]
       have hvi:vw M.keepers[j].2:=Bb _ (List.getElem_mem Tw)
       refine ⟨Tp,_,rfl,aR.of ag,rfl,_,_,rfl,kt,_,rfl,aR.of (sT _ _ (s4 _ _ eK)),rfl,_,_,rfl,_,_,rfl,rfl,_,_,rfl,rfl,pT ?_⟩
       refine ⟨_,rfl,_,rfl,?_⟩
       have fin:∀b,b=eA M.keepers[j].2 r[j]->∃acc,(upd H4 Tp (.tup [.ref kt,.int r[j]])) D=some (.lst acc)/\acc.length<sizeLine/\∃m',m'<fs.length-j/\Bd D fs.length (λj acc σ H4=>acc=(((fs.zip r).take j).map λp=>eA p.1 p.2).map V.bl/\(∃u v x,σ=[u,v,x])/\aj Hi H4) (j+1) m' [some (.str M.keepers[j].1),some M.keepers[j].2,some (.int r[j])] (upd (upd H4 Tp (.tup [.ref kt,.int r[j]])) D (.lst (acc++[.bl b]))):=by
        rintro b rfl
        refine ⟨_,hDT,?_,bo hj ag ⟨?_,⟨_,_,_,rfl⟩,?_⟩⟩
        . rw [List.length_map,List.length_map,List.length_take]
          exact small (by omega)
        . rw [lH (λp:V×Int=>eA p.1 p.2) hz,List.map_append]
          rfl
        . intro y o hy
          rw [ai (af hy hD)]
          exact sT _ _ (s4 y o hy)
       rcases hvi with e | e | e
       . rw [e] at fin ⊢
         refine pD ⟨_,rfl,_,rfl,rfl,?_⟩
         exact fin _ (by rw [eA]; rfl)
       . rw [e] at fin ⊢
         refine pD ⟨_,rfl,_,rfl,rfl,?_⟩
         exact fin _ (by rw [eA]; rfl)
       . rw [e] at fin ⊢
         exact yu (fin _ (by rw [eA]; rfl))
   . rintro σ Hi ⟨ws,v2,rfl,mZ,fE,ki⟩
     rw [List.length_map,gp,List.take_length] at fE
     have s2:aj H Hi:=λb o hb=>ki _ _ (s1 _ _ (t0 _ _ hb)) (af hb hp)
     exact ⟨_,rfl,kk p ws Hi s2 hp mZ fE⟩
end
end Gen
namespace Gen
open PySem L2
abbrev qJ:Stmt:=top 6
abbrev BO:Stmt:=top 5
def dU (acc:List Int) (n:Int):List Int:=if n∈acc then acc else acc++[n]
def once (ns:List Int):List Int:=ns.foldl dU []
def kb (n:Int):Key×V:=(.inl n,.bl true)
theorem Nh (acc:List Int) (n:Int):((acc.map kb).any λkv=>decide (kv.1=(.inl n:Key)))=decide (n∈acc):=by
 rw [Bool.eq_iff_iff,decide_eq_true_eq,List.any_eq_true]
 constructor
 . rintro ⟨kv,hk,e⟩
   obtain ⟨x,hx,rfl⟩:=List.mem_map.mp hk
   have:=of_decide_eq_true e
   have e2:x=n:=Sum.inl.inj this
   exact e2 ▸ hx
 . intro h
   exact ⟨kb n,List.mem_map.mpr ⟨n,h,rfl⟩,decide_eq_true rfl⟩
theorem Ni (acc:List Int) (n:Int):putK (acc.map kb) (.inl n) (.bl true)=(dU acc n).map kb:=by
 unfold putK dU
 rw [Nh]
 by_cases h:n∈acc
 . rw [if_pos (decide_eq_true h),if_pos h,List.map_map]
   refine List.map_congr_left λx _=>?_
   show (if (Sum.inl x:Key)=.inl n then ((Sum.inl x:Key),V.bl true) else kb x)=kb x
   split <;> rfl
 . rw [if_neg (by simpa using h),if_neg h,List.map_append]
   rfl
theorem zH:∀(ns acc:List Int),de (acc.map kb) (ns.map kb)=(ns.foldl dU acc).map kb
 | [],acc=>rfl
 | n::ns,acc=>by
  show de (putK (acc.map kb) (.inl n) (.bl true)) (ns.map kb)=_
  rw [Ni,zH ns (dU acc n)]
  rfl
theorem zI (ns:List Int):(once ns).length<=ns.length:=by
 have key:∀(ns acc:List Int),(ns.foldl dU acc).length<=acc.length+ns.length:=by
  intro ns
  induction ns with
  | nil=>intro acc; exact Nat.le_refl _
  | cons n ns ih=>
   intro acc
   have h:=ih (dU acc n)
   have h2:(dU acc n).length<=acc.length+1:=by
    unfold dU
    split
    . omega
    . rw [List.length_append,List.length_singleton]; omega
   rw [List.foldl_cons,List.length_cons]
   omega
 have:=key ns []
 simpa [once] using this
inductive BP (vs:List V) (H:Hp) (Q:VK):Prop
 | mk (r:Addr) (ns:List Int) (h1:vs=[.ref r]) (h2:H r=some (.lst (ns.map V.int))) (h3:ns.length<=10) (h4:∀p H',H p=none->aj H H'->H' p=some (.lst ((once ns).map V.int))->Q (.ref p) H'):BP vs H Q
def Fu:Sp:=λvs H Q _=>BP vs H Q
theorem Wt:(["number"]:List Str).Nodup:=by decide +kernel
section
variable {P:Program}{w:World}{K:W.Frag}{mg:Str->Option Value}{base:Heap}
theorem Nj:aQ ["numbers"] ["numbers"] (au qJ):=⟨rfl,rfl,rfl,by decide +kernel,rfl,by decide +kernel,by decide +kernel⟩
theorem KW {f:Addr}{fd:FuncData}(F:cC K "each_once" "each_once" qJ f fd) (O:eY mg):aw P w K mg base aD 1 f fd ["numbers"] Fu:=by
 refine F.ok Nj (λvs H Q E h=>?_) (λcdv A outer s H vs Q E hr h=>?_)
 . obtain ⟨r,ns,rfl,_⟩:=h
   rfl
 . obtain ⟨r,ns,rfl,BQ,hl,kk⟩:=h
   refine ⟨_,ar (aT (aL (jq rfl) (by rfl) O.list PyProof.Rows.boot_list (ae (aL (cP rfl) (by rfl) O.dict PyProof.Rows.boot_dict (ae
    (cX (N:=["number"]) (js:=[none]) (by kernel_rfl) rfl (bU (pv 0)) (λ_ _ _ _ _ _=>ax (i:=0) Wt rfl (Or.inl rfl) (.inr rfl)) (λ_ _ _ _ _ _=>bj) (λ_ _ _ _ _ _=>eh (ae (pv 0) (ae j3 ah)))) ah)) ah))),?_⟩
   refine ⟨_,rfl,r,rfl,⟨_,aq.of BQ⟩,λD hD=>?_⟩
   refine cY ns.length (λj acc bx H4=>∃ts:List Addr,acc=ts.map V.ref/\Paired (λt n=>H4 t=some (.tup [.int n,.bl true])) ts (ns.take j)/\(∃u,bx=[u])/\aj H H4) ⟨[],rfl,.nil,⟨none,rfl⟩,aj.ao hD⟩ ag ?_ ?_
   . rintro acc bx H4 aW ⟨ts,rfl,hp,_,s4⟩
     rw [List.take_length] at hp
     have fw:Paired (λt kv=>H4 t=some (.tup [kV kv.1,kv.2])) ts (ns.map kb):=me (g:=kb) hp
     refine ⟨⟨_,aq.of (s4 _ _ BQ),by rw [List.length_map]; exact Nat.le_refl _⟩,D,ts,ns.map kb,rfl,aW,fw,λd hd=>?_⟩
     have em:de [] (ns.map kb)=(once ns).map kb:=zH ns []
     rw [em]
     have s5:aj H4 (upd H4 d (.dK ((once ns).map kb))):=aj.ao hd
     refine ⟨d,_,rfl,.inl ag,λl rg=>?_⟩
     have e3:((once ns).map kb).map (λkv=>kV kv.1)=(once ns).map V.int:=by rw [List.map_map]; rfl
     rw [e3]
     exact kk l _ ((s4.trans s5).free rg) ((s4.trans s5).trans (aj.ao rg)) ag
   . rintro j acc bx H4 hj aW ⟨ts,rfl,hp,⟨u,rfl⟩,s4⟩
     have ej:(ns.map V.int)[j]?=some (.int ns[j]):=by rw [List.getElem?_map,List.getElem?_eq_getElem hj]; rfl
     refine ⟨⟨_,_,aq.of (s4 _ _ BQ),ej⟩,?_⟩
     rintro x' H' ⟨rfl,cT⟩
     have ex:=cT _ (aq.of (s4 _ _ BQ))
     rw [ej] at ex
     cases ex
     refine cA ?_
     refine ⟨_,rfl,(by show 2<=sizeLine; decide),λT hT=>?_⟩
     have Bx:D≠T:=af aW hT
     have hlen:=hp.length
     rw [List.length_take] at hlen
     refine ⟨_,(ai Bx).trans aW,(by rw [List.length_map]; exact small (by omega)),bo hj ag ⟨ts++[T],?_,?_,⟨_,rfl⟩,?_⟩⟩
     . rw [List.map_append]; rfl
     . rw [List.take_succ,List.getElem?_eq_getElem hj]
       refine bE (Paired.bh hp λt n e=>?_) (.cons ?_ .nil)
       . rw [ai (λq=>by rw [q,aW] at e; cases e),ai (af e hT)]
         exact e
       . rw [ai (Ne.symm Bx),ag]
     . intro y o hy
       rw [ai (af hy hD),ai (af (s4 y o hy) hT)]
       exact s4 y o hy
end
end Gen
namespace Gen
open PySem L2
def df (c:List Int):Bool:=!(c.any λn=>decide (-n∈c))
def three (g a b:Int):List (List Int):=[[-g,a],[-g,b],[g,-a,-b]]
def clausesOf (g a b:Int):List (List Int):=((three g a b).map once).filter df
theorem BR (z:Int) (L:List Int):px (.int z) (L.map V.int)=decide (z∈L):=by
 unfold px
 rw [List.any_map,Bool.eq_iff_iff,decide_eq_true_eq,List.any_eq_true]
 constructor
 . rintro ⟨y,hy,e⟩
   have:y=z:=by simpa [ir] using e
   exact this ▸ hy
 . intro h
   exact ⟨z,h,by simp [ir]⟩
theorem pZ (L:List Int):(L.map V.int).all iA=true:=by
 rw [List.all_map,List.all_eq_true]
 intro _ _
 rfl
theorem i6 {α β:Type}{F G:α->β->Prop} : ∀{l₁:List α}{l₂:List β},Paired F l₁ l₂->(∀a b,a∈l₁->F a b->G a b)->Paired G l₁ l₂
 | _,_,.nil,_=>.nil
 | _,_,.cons r t,f=>.cons (f _ _ List.mem_cons_self r) (i6 t λa b h=>f a b (List.mem_cons_of_mem _ h))
structure LL (H0 H:Hp) (p:Addr) (ts:List Addr) (cs:List (List Int)):Prop where
 top:H p=some (.lst (ts.map V.ref))
 each:Paired (λt c=>H t=some (.lst (c.map V.int))) ts cs
 new:∀t∈ts,H0 t=none
 pn:H0 p=none
 np:p∉ts
abbrev nGC:List Str:=["gate", "one", "other", "told", "numbers", "clause"]
theorem Wu:(["number", "clause"]:List Str).Nodup:=by decide +kernel
def Hf:Sp:=λvs H Q _=>∃(g a b:Int),vs=[.int g,.int a,.int b]/\∀p ts H',aj H H'->LL H H' p ts (clausesOf g a b)->Q (.ref p) H'
section
variable {P:Program}{w:World}{K:W.Frag}{mg:Str->Option Value}{base:Heap}
theorem Dq:aQ nGC ["gate", "one", "other"] (au BO):=⟨rfl,rfl,rfl,by decide +kernel,rfl,by decide +kernel,by decide +kernel⟩
theorem QP {f fO:Addr}{fd dO:FuncData}(F:cC K "gate_clauses" "gate_clauses" BO f fd) (Hg:mg "any" = none)
 (gO:aw P w K mg base aD 1 fO dO ["numbers"] Fu) (mO:mg "each_once" = some (.ref fO)) (kO:W.keepIn K (.ref fO)=true) (bO:Binds K dO ["numbers"] []):aw P w K mg base aD 2 f fd ["gate", "one", "other"] Hf:=by
 refine F.ok Dq (λvs H Q E h=>?_) (λcdv A outer s H vs Q E hr h=>?_)
 . obtain ⟨g,a,b,rfl,_⟩:=h
   rfl
 . obtain ⟨g,a,b,rfl,kk⟩:=h
   refine ⟨_,ak (aE (i:=3) Dq.nd rfl (Or.inl rfl) (bt ah))
    (ak (cc PassesOwn.never rfl (LC (eh (ae (bt (ae (g9 fu (pv 0)) (ae (pv 1) ah))) (ae (bt (ae (g9 fu (pv 0)) (ae (pv 2) ah))) (ae (bt (ae (pv 0) (ae (g9 fu (pv 1)) (ae (g9 fu (pv 2)) ah)))) ah))))) (ax (i:=4) Dq.nd rfl (Or.inl rfl))
     (ak (aE (i:=5) Dq.nd rfl (Or.inr rfl) (aA gO hr rfl mO kO bO .nil az (ae (pv 4) ah)))
     (ar (bY (ky (ie (aU (vi rfl) (by rfl) Hg PyProof.Rows.boot_any (ae (cX (N:=["number", "clause"]) (js:=[none,some 5]) (te:=vT (Ij K false) (Sx (rU λi=>.int (-i)) (oX 0)) (oX 1)) (by kernel_rfl) rfl (bU (pv 5)) (λ_ _ _ _ _ _=>ax (i:=0) Wu rfl (Or.inl rfl) (.inr rfl)) (λ_ _ _ _ _ _=>bj)
      (λ_ _ _ _ _ _=>jh lG (g9 fu (pv 0)) (pv 1) (by with_unfolding_all rfl))) ah))))
      (ar (dg (eD PySem.F.plainAttrs_list PySem.F.slot_list_append PySem.F.type_list_append dj (pv 3) (ae (pv 5) ah)))) aY))))
    (ar (aT (pv 3)))),?_⟩
   refine ⟨(by show 0<=sizeLine; decide),λp hp=>?_⟩
   have t0:aj H (upd H p (.lst [])):=aj.ao hp
   have q0:(upd H p (.lst [])) p=some (.lst []):=ag
   generalize upd H p (.lst [])=H0 at t0 q0 ⊢
   refine ⟨_,rfl,_,rfl,_,rfl,(by show 2<=sizeLine; decide),λr1 cI=>?_⟩
   have t1:aj H0 (upd H0 r1 (.lst ([-g,a].map V.int))):=aj.ao cI
   have q1:(upd H0 r1 (.lst ([-g,a].map V.int))) r1=some (.lst ([-g,a].map V.int)):=ag
   have e1:([V.int (-g),.int a]:List V)=[-g,a].map V.int:=rfl
   rw [e1]
   generalize upd H0 r1 (.lst ([-g,a].map V.int))=H1 at t1 q1 ⊢
   refine ⟨_,rfl,_,rfl,_,rfl,(by show 2<=sizeLine; decide),λr2 fT=>?_⟩
   have t2:aj H1 (upd H1 r2 (.lst ([-g,b].map V.int))):=aj.ao fT
   have q2:(upd H1 r2 (.lst ([-g,b].map V.int))) r2=some (.lst ([-g,b].map V.int)):=ag
   have e2:([V.int (-g),.int b]:List V)=[-g,b].map V.int:=rfl
   rw [e2]
   generalize upd H1 r2 (.lst ([-g,b].map V.int))=H2 at t2 q2 ⊢
   refine ⟨_,rfl,_,rfl,_,rfl,_,rfl,_,rfl,(by show 3<=sizeLine; decide),λr3 rX=>?_⟩
   have t3:aj H2 (upd H2 r3 (.lst ([g,-a,-b].map V.int))):=aj.ao rX
   have q3:(upd H2 r3 (.lst ([g,-a,-b].map V.int))) r3=some (.lst ([g,-a,-b].map V.int)):=ag
   have e3:([V.int g,.int (-a),.int (-b)]:List V)=[g,-a,-b].map V.int:=rfl
   rw [e3]
   generalize upd H2 r3 (.lst ([g,-a,-b].map V.int))=H3 at t3 q3 ⊢
   refine ⟨(by show 3<=sizeLine; decide),λT hT=>?_⟩
   have t4:aj H3 (upd H3 T (.tup ([r1,r2,r3].map V.ref))):=aj.ao hT
   have q4:(upd H3 T (.tup ([r1,r2,r3].map V.ref))) T=some (.tup ([r1,r2,r3].map V.ref)):=ag
   have e4:([V.ref r1,.ref r2,.ref r3]:List V)=[r1,r2,r3].map V.ref:=rfl
   rw [e4]
   generalize upd H3 T (.tup ([r1,r2,r3].map V.ref))=H4 at t4 q4 ⊢
   have p4:H4 p=some (.lst []):=t4 _ _ (t3 _ _ (t2 _ _ (t1 _ _ q0)))
   have gQ:aj H H4:=t0.trans (t1.trans (t2.trans (t3.trans t4)))
   have IT:Paired (λr c=>H4 r=some (.lst (c.map V.int))/\r≠p) [r1,r2,r3] (three g a b):=
    .cons ⟨t4 _ _ (t3 _ _ (t2 _ _ q1)),(af q0 cI).symm⟩ (.cons ⟨t4 _ _ (t3 _ _ q2),(af (t1 _ _ q0) fT).symm⟩ (.cons ⟨t4 _ _ q3,(af (t2 _ _ (t1 _ _ q0)) rX).symm⟩ .nil))
   have gh:T≠p:=(af (t3 _ _ (t2 _ _ (t1 _ _ q0))) hT).symm
   have h3:∀c∈three g a b,c.length<=3:=λc hc=>by
    simp only [three,List.mem_cons,List.not_mem_nil,or_false] at hc
    rcases hc with rfl | rfl | rfl <;> simp
   have QQ:(three g a b).length=3:=rfl
   have Tz:∀p ts H',aj H H'->LL H H' p ts (((three g a b).map once).filter df)->Q (.ref p) H':=kk
   generalize three g a b=cs at IT h3 QQ Tz
   generalize [r1,r2,r3]=rs at IT q4 ⊢
   have rq:=IT.length
   refine ⟨T,rfl,⟨_,aR.of q4⟩,Ka (K:=K) (a:=T) (xs:=rs.map V.ref) (λi σ Hi=>∃(v4 v5:Option V) (ts:List Addr),σ=[some (.int g),some (.int a),some (.int b),some (.ref p),v4,v5]/\Hi p=some (.lst (ts.map V.ref))/\Paired (λt c=>Hi t=some (.lst (c.map V.int))) ts (((cs.take i).map once).filter df)/\(∀t∈ts,H t=none)/\p∉ts/\∀b o,H4 b=some o->b≠p->Hi b=some o) ?_ ?_ ?_ ?_⟩
   . exact ⟨none,none,[],rfl,p4,.nil,(λ_ h=>nomatch h),List.not_mem_nil,λ_ _ e _=>e⟩
   . rintro i σ Hi _ ⟨_,_,_,_,_,_,_,_,kp⟩
     exact aR.of (kp _ _ q4 gh)
   . rintro i xv σ Hi Nk ⟨v4,v5,ts,rfl,mZ,gz,dJ,Fv,kp⟩
     have hi:i<rs.length:=by
      have:=(List.getElem?_eq_some_iff.mp Nk).1
      rwa [List.length_map] at this
     have TB:i<cs.length:=by omega
     have Bm:cs[i]?=some cs[i]:=List.getElem?_eq_getElem TB
     obtain ⟨r,zF,hR,hrp⟩:=a9 IT (i:=i) Bm
     have ex:xv=.ref r:=by
      rw [List.getElem?_map,zF] at Nk
      exact (Option.some.inj Nk).symm
     subst ex
     have et:=h3 _ (List.getElem_mem TB)
     have dv:cs.take (i+1)=cs.take i++[cs[i]]:=by rw [List.take_succ,Bm]; rfl
     generalize cs[i]=c at hR et dv
     have Nl:=kp _ _ hR hrp
     refine ⟨_,rfl,r,c,rfl,Nl,by omega,λq H5 IU s5 pS=>?_⟩
     have jE:=s5 _ _ mZ
     have TC:q≠p:=λe=>by rw [e,mZ] at IU; cases IU
     have oS:(once c).length<=3:=Nat.le_trans (zI c) et
     have hqH:H q=none:=by
      cases e:H q with
      | none=>rfl
      | some o=>
       have:=kp _ _ (gQ _ _ e) (af e hp)
       rw [IU] at this
       cases this
     have hqt:q∉ts:=λhm=>by
      obtain ⟨j,hj,e⟩:=List.getElem_of_mem hm
      have hj2:j<(((cs.take i).map once).filter df).length:=by rw [← gz.length]; exact hj
      obtain ⟨t,ht,hd⟩:=a9 gz (i:=j) (List.getElem?_eq_getElem hj2)
      rw [List.getElem?_eq_getElem hj,e] at ht
      cases ht
      rw [IU] at hd
      cases hd
     have mE:ts.length<=3:=by
      have h1:=gz.length
      have h2:=List.length_filter_le df ((cs.take i).map once)
      rw [List.length_map,List.length_take] at h2
      omega
     refine ⟨_,rfl,q,rfl,⟨_,aq.of pS⟩,λD hD=>?_⟩
     refine cY (once c).length (λj acc bx H6=>acc=(((once c).take j).map (λn=>decide (-n∈once c))).map V.bl/\(∃u,bx=[u,some (.ref q)])/\aj H5 H6) ⟨rfl,⟨none,rfl⟩,aj.ao hD⟩ ag ?_ ?_
     . rintro acc bx H6 aW ⟨rfl,_,s6⟩
       rw [List.take_length] at aW
       have IV:=s5.trans s6
       have Dr:((cs.take (i+1)).map once).filter df=((cs.take i).map once).filter df++(if df (once c)=true then [once c] else []):=by
        rw [dv,List.map_append,List.filter_append]
        congr 1
        rw [List.map_cons,List.map_nil,List.filter_cons,List.filter_nil]
       have Wv:((once c).map (λn=>decide (-n∈once c))).any _root_.id=(once c).any λn=>decide (-n∈once c):=by
        rw [List.any_map]
        rfl
       refine ⟨⟨_,aq.of (s6 _ _ pS),by rw [List.length_map]; exact Nat.le_refl _⟩,D,_,rfl,aq.of aW,_,rfl,?_⟩
       rw [Wv]
       refine dq (λhc=>?_) (λhc=>?_)
       . have yP:df (once c)=true:=hc
         rw [if_pos yP] at Dr
         have Bp:=s6 _ _ jE
         refine ⟨_,rfl,.inl ⟨rfl,_,aq.of Bp⟩,_,rfl,p,_,_,rfl,rfl,Bp,(by rw [List.length_map]; exact small (by omega)),_,_,ts++[q],rfl,(by rw [ag,List.map_append]; rfl),?_,λt ht=>?_,?_,λb o hb hn=>?_⟩
         . rw [Dr]
           refine bE (i6 gz λt c' ht e=>?_) (.cons ?_ .nil)
           . rw [ai (show t≠p from λe2=>Fv (e2 ▸ ht))]
             exact IV _ _ e
           . rw [ai TC]
             exact s6 _ _ pS
         . rcases List.mem_append.mp ht with h | h
           . exact dJ t h
           . rw [List.mem_singleton.mp h]; exact hqH
         . intro h
           rcases List.mem_append.mp h with h | h
           . exact Fv h
           . exact TC (List.mem_singleton.mp h).symm
         . rw [ai hn]
           exact IV _ _ (kp b o hb hn)
       . have yP:¬ df (once c)=true:=hc
         rw [if_neg yP,List.append_nil] at Dr
         refine ⟨_,_,ts,rfl,s6 _ _ jE,?_,dJ,Fv,λb o hb hn=>IV _ _ (kp b o hb hn)⟩
         rw [Dr]
         exact Paired.bh gz λt c' e=>IV _ _ e
     . rintro j acc bx H6 hj aW ⟨rfl,⟨u,rfl⟩,s6⟩
       have ej:((once c).map V.int)[j]?=some (.int (once c)[j]):=by rw [List.getElem?_map,List.getElem?_eq_getElem hj]; rfl
       refine ⟨⟨_,_,aq.of (s6 _ _ pS),ej⟩,?_⟩
       rintro x' H' ⟨rfl,cT⟩
       have TF:=cT _ (aq.of (s6 _ _ pS))
       rw [ej] at TF
       cases TF
       refine cA ?_
       refine ⟨_,rfl,_,rfl,_,rfl,q,_,rfl,.inl (aq.of (s6 _ _ pS)),rfl,pZ _,_,aW,(by rw [List.length_map,List.length_map,List.length_take]; exact small (by omega)),bo hj ag ⟨?_,⟨_,rfl⟩,?_⟩⟩
       . rw [if_neg Bool.false_ne_true,BR,List.take_succ,List.getElem?_eq_getElem hj,List.map_append,List.map_append]
         rfl
       . intro y o hy
         rw [ai (af hy hD)]
         exact s6 y o hy
   . rintro σ Hi ⟨v4,v5,ts,rfl,mZ,gz,dJ,Fv,kp⟩
     rw [List.length_map,rq,List.take_length] at gz
     exact ⟨_,rfl,Tz p ts Hi (λb o hb=>kp _ _ (gQ _ _ hb) (af hb hp)) ⟨mZ,gz,dJ,hp,Fv⟩⟩
end
end Gen
namespace Gen
open PySem L2
abbrev m7:Stmt:=top 3
structure MF (C:Addr) (H:Hp) (x dx g1 g2 g3 g4 g5 g6:Addr) (ts:List Addr) (M:aN):Prop where
 hx:H x=some (.ins C dx (ll g1 g2 g3 g4 g5 g6))
 h1:H g1=some (.lst (M.switches.map V.str))
 h2:H g2=some (.dK (M.keepers.map λr=>((.inr r.1:Key),r.2)))
 h3:H g3=some (.lst (ts.map V.ref))
 hp:Paired (λt r=>H t=some (.tup (ma r))) ts M.gates
theorem MF.same {C:Addr}{H H':Hp}{x dx g1 g2 g3 g4 g5 g6:Addr}{ts:List Addr}{M:aN}(h:MF C H x dx g1 g2 g3 g4 g5 g6 ts M) (s:aj H H'):MF C H' x dx g1 g2 g3 g4 g5 g6 ts M:=
 ⟨s _ _ h.hx,s _ _ h.h1,s _ _ h.h2,s _ _ h.h3,Paired.bh h.hp λt r e=>s _ _ e⟩
def aa (M:aN):List Str:=M.switches++M.keepers.map (·.1)++M.gates.map (·.1)
inductive zJ (C:Addr) (vs:List V) (H:Hp) (Q:VK):Prop
 | mk (x dx g1 g2 g3 g4 g5 g6:Addr) (ts:List Addr) (M:aN) (h1:vs=[.ref x]) (h2:MF C H x dx g1 g2 g3 g4 g5 g6 ts M) (h3:M.switches.length<=100) (h4:M.keepers.length<=100) (h5:M.gates.length<=100) (h6:∀p H',H p=none->aj H H'->H' p=some (.lst ((aa M).map V.str))->Q (.ref p) H'):zJ C vs H Q
def BS (C:Addr):Sp:=λvs H Q _=>zJ C vs H Q
theorem Ww:(["gate"]:List Str).Nodup:=by decide +kernel
theorem Nm {x:V}{xs:List V} : iq (x::xs) 0=some x:=cV (j:=0) rfl
section
variable {P:Program}{w:World}{K:W.Frag}{mg:Str->Option Value}{base:Heap}{C:Addr}
theorem KY:aQ ["machine"] ["machine"] (au m7):=⟨rfl,rfl,rfl,by decide +kernel,rfl,by decide +kernel,by decide +kernel⟩
theorem Hh {f:Addr}{fd:FuncData}(F:cC K "names_of" "names_of" m7 f fd) (T:vm K mg C) (O:eY mg):aw P w K mg base aD 1 f fd ["machine"] (BS C):=by
 refine F.ok KY (λvs H Q E h=>?_) (λcdv A outer s H vs Q E hr h=>?_)
 . obtain ⟨x,dx,g1,g2,g3,g4,g5,g6,ts,M,rfl,_⟩:=h
   rfl
 . obtain ⟨x,dx,g1,g2,g3,g4,g5,g6,ts,M,rfl,hM,l1,l2,l3,kk⟩:=h
   refine ⟨_,ar (aT (aH iu (aH iu (cF (pv 0) rfl) (aL (jq rfl) (by rfl) O.list PyProof.Rows.boot_list (ae (cF (pv 0) rfl) ah)))
    (cX (N:=["gate"]) (js:=[none]) (te:=vT (pj K) (oX 0) (tC (.int 0))) (by kernel_rfl) rfl (bU (cF (pv 0) rfl)) (λ_ _ _ _ _ _=>ax (i:=0) Ww rfl (Or.inl rfl) (.inr rfl)) (λ_ _ _ _ _ _=>bj) (λ_ _ _ _ _ _=>bz (r:=pj K) mm (pv 0) av (λ_ _=>rfl))))),?_⟩
   refine ⟨_,rfl,x,C,dx,_,_,rfl,hM.hx,T.cl,T.n1,E9 ..,_,rfl,x,C,dx,_,_,rfl,hM.hx,T.cl,T.n2,zi ..,g2,_,rfl,.inl hM.h2,λq1 rY=>?_⟩
   have ek:(M.keepers.map λr=>((.inr r.1:Key),r.2)).map (λkv=>kV kv.1)=(M.keepers.map (·.1)).map V.str:=by rw [List.map_map,List.map_map]; rfl
   rw [ek]
   have s1:aj H (upd H q1 (.lst ((M.keepers.map (·.1)).map V.str))):=aj.ao rY
   have e1:(upd H q1 (.lst ((M.keepers.map (·.1)).map V.str))) q1=some (.lst ((M.keepers.map (·.1)).map V.str)):=ag
   generalize upd H q1 (.lst ((M.keepers.map (·.1)).map V.str))=H1 at s1 e1 ⊢
   have jM:=hM.same s1
   refine ⟨g1,q1,_,_,rfl,rfl,jM.h1,e1,(by simp only [List.length_map]; exact kY (by omega)),λq2 hq2=>?_⟩
   have s2:aj H1 (upd H1 q2 (.lst (M.switches.map V.str++(M.keepers.map (·.1)).map V.str))):=aj.ao hq2
   have e2:(upd H1 q2 (.lst (M.switches.map V.str++(M.keepers.map (·.1)).map V.str))) q2=some (.lst ((M.switches++M.keepers.map (·.1)).map V.str)):=by rw [ag,List.map_append]
   generalize upd H1 q2 (.lst (M.switches.map V.str++(M.keepers.map (·.1)).map V.str))=H2 at s2 e2 ⊢
   have iK:=jM.same s2
   have jY:=iK.hp.length
   refine ⟨_,rfl,x,C,dx,_,_,rfl,iK.hx,T.cl,T.n3,zj ..,g3,rfl,⟨_,aq.of iK.h3⟩,λD hD=>?_⟩
   refine cY M.gates.length (λj acc bx H4=>acc=((M.gates.take j).map (·.1)).map V.str/\(∃u,bx=[u])/\aj H2 H4) ⟨rfl,⟨none,rfl⟩,aj.ao hD⟩ ag ?_ ?_
   . rintro acc bx H4 aW ⟨rfl,_,s4⟩
     rw [List.take_length] at aW
     refine ⟨⟨_,aq.of (s4 _ _ iK.h3),by rw [List.length_map,jY]; exact Nat.le_refl _⟩,q2,D,_,_,rfl,rfl,s4 _ _ e2,aW,(by simp only [List.length_map,List.length_append]; exact kY (by omega)),λq3 Bo=>?_⟩
     have gQ:=(s1.trans s2).trans s4
     refine kk q3 _ (gQ.free Bo) (gQ.trans (aj.ao Bo)) ?_
     rw [ag,← List.map_append]
     rfl
   . rintro j acc bx H4 hj aW ⟨rfl,⟨u,rfl⟩,s4⟩
     have Fs:M.gates[j]?=some M.gates[j]:=List.getElem?_eq_getElem hj
     obtain ⟨t,ht,hT⟩:=a9 iK.hp (i:=j) Fs
     have ej:(ts.map V.ref)[j]?=some (.ref t):=by rw [List.getElem?_map,ht]; rfl
     refine ⟨⟨_,_,aq.of (s4 _ _ iK.h3),ej⟩,?_⟩
     rintro x' H' ⟨rfl,cT⟩
     have ex:=cT _ (aq.of (s4 _ _ iK.h3))
     rw [ej] at ex
     cases ex
     refine cA ?_
     refine ⟨_,rfl,t,_,0,_,rfl,rfl,aR.of (s4 _ _ hT),Nm,_,aW,(by rw [List.length_map,List.length_map,List.length_take]; exact small (by omega)),bo hj ag ⟨?_,⟨_,rfl⟩,?_⟩⟩
     . rw [List.take_succ,Fs,List.map_append,List.map_append]
       rfl
     . intro y o hy
       rw [ai (af hy hD)]
       exact s4 y o hy
end
end Gen
namespace Gen
open PySem L2
abbrev qK:Stmt:=top 19
theorem Hk {n:Str}{l:List (Str×V)}(h:n∉l.map (·.1)):cq (b7 l) (.inr n)=none:=by
 have:=n9 n l
 rw [decide_eq_false h] at this
 cases e:cq (b7 l) (.inr n) with
 | none=>rfl
 | some v=>rw [e] at this; cases this
theorem lR:∀(l:List (Str×V)) (acc:List (Str×V)),((acc++l).map (·.1)).Nodup->de (b7 acc) (b7 l)=b7 (acc++l)
 | [],acc,_=>by rw [List.append_nil]; rfl
 | r::l,acc,h=>by
  have e:acc++r::l=(acc++[r])++l:=by simp
  have hn:r.1∉acc.map (·.1):=λhm=>by
   rw [List.map_append] at h
   exact (List.nodup_append.mp h).2.2 _ hm _ (by simp) rfl
  have h1:putK (b7 acc) (.inr r.1) r.2=b7 (acc++[r]):=by
   rw [nK _ (Hk hn)]
   unfold b7
   rw [List.map_append]
   rfl
  show de (putK (b7 acc) (.inr r.1) r.2) (b7 l)=_
  rw [h1,e]
  exact lR l (acc++[r]) (by rw [← e]; exact h)
theorem lS {l:List (Str×Str)}(h:(l.map (·.1)).Nodup):de [] (cv l)=cv l:=by
 rw [IK]
 exact lR _ [] (by rw [List.nil_append,List.map_map]; exact h)
theorem uK {α β γ δ:Type} {F:α->γ->Prop}{F':α->δ->Prop}{g:β->γ}{h:β->δ} : ∀{ts:List α}{l:List β},Paired F ts (l.map g)->(∀t x,F t (g x)->F' t (h x))->Paired F' ts (l.map h)
 | [],[],_,_=>.nil
 | t::ts,x::l,.cons r p,k=>.cons (k t x r) (uK p k)
theorem m8 {H:Hp}{a:Addr}{α:Type}{l:List α}{g:α->List V}{h:α->Key×V}(e:∀x,g x=[kV (h x).1,(h x).2]) (t:bq H a (l.map g)):∃ts:List Addr,H a=some (.lst (ts.map V.ref))/\Paired (λt kv=>H t=some (.tup [kV kv.1,kv.2])) ts (l.map h):=by
 obtain ⟨ts,h1,h2⟩:=t
 exact ⟨ts,h1,uK h2 λt x hx=>by rw [← e x]; exact hx⟩
abbrev QR:List Str:=["_law_m", "_law_switches", "_law_gates"]
inductive BU (C:Addr) (vs:List V) (H:Hp) (Q:VK):Prop
 | mk (m:Addr) (M:aN) (a1 a2 a3 a4 a5 a6:Addr) (h1:vs=[.ref m]) (h2:eu H m M a1 a2 a3 a4 a5 a6) (h3:(M.keepers.map (·.1)).Nodup) (h4:(M.nexts.map (·.1)).Nodup) (h5:(M.nevers.map (·.1)).Nodup) (h6:(M.somes.map (·.1)).Nodup) (h7:∀(x dx g1 g2 g3 g4 g5 g6:Addr) (ts:List Addr) (H':Hp),aj H H'->MF C H' x dx g1 g2 g3 g4 g5 g6 ts M->H' g4=some (.dK (cv M.nexts))->H a3=some (.lst (ts.map V.ref))->g2≠g4->Q (.ref x) H'):BU C vs H Q
def zK (C:Addr):Sp:=λvs H Q _=>BU C vs H Q
section
variable {P:Program}{w:World}{K:W.Frag}{mg:Str->Option Value}{base:Heap}{C:Addr}
theorem zL:aQ QR ["_law_m"] (au qK):=⟨rfl,rfl,rfl,by decide +kernel,rfl,by decide +kernel,by decide +kernel⟩
theorem KZ {f fI:Addr}{fd dI:FuncData}(F:cC K "_law_made" "_law_made" qK f fd) (T:vm K mg C) (O:eY mg)
 (mI:Mk K C fI) (gI:aw P w K mg base aD 1 fI dI qF (Fc C)) (bI:Binds K dI qF []):aw P w K mg base aD 3 f fd ["_law_m"] (zK C):=by
 refine F.ok zL (λvs H Q E h=>?_) (λcdv A outer s H vs Q E hr h=>?_)
 . obtain ⟨m,M,a1,a2,a3,a4,a5,a6,rfl,_⟩:=h
   rfl
 . obtain ⟨m,M,a1,a2,a3,a4,a5,a6,rfl,hM,nd2,nd4,nd5,nd6,kk⟩:=h
   have hu:=eZ hr
   refine ⟨_,ak (aE (i:=1) zL.nd rfl (Or.inl rfl) (aL d5 (by rfl) O.list PyProof.Rows.boot_list (ae (cb hu (pv 0) aO (λ_ _=>rfl)) ah)))
    (ak (aE (i:=2) zL.nd rfl (Or.inl rfl) (aL d5 (by rfl) O.list PyProof.Rows.boot_list (ae (cb hu (pv 0) aO (λ_ _=>rfl)) ah)))
    (ar (aT (uY mI gI hr rfl T.mgC bI .nil az (ae (pv 1)
     (ae (aL (cP rfl) (by rfl) O.dict PyProof.Rows.boot_dict (ae (cb hu (pv 0) aO (λ_ _=>rfl)) ah))
     (ae (pv 2)
     (ae (aL (cP rfl) (by rfl) O.dict PyProof.Rows.boot_dict (ae (cb hu (pv 0) aO (λ_ _=>rfl)) ah))
     (ae (aL (cP rfl) (by rfl) O.dict PyProof.Rows.boot_dict (ae (cb hu (pv 0) aO (λ_ _=>rfl)) ah))
     (ae (aL (cP rfl) (by rfl) O.dict PyProof.Rows.boot_dict (ae (cb hu (pv 0) aO (λ_ _=>rfl)) ah)) ah)))))))))),?_⟩
   refine ⟨_,rfl,m,.ref a1,rfl,cw.k (k:=.inr "switches") hM.top,a1,_,rfl,.inl (aq.of hM.sw),λf1 e1=>?_⟩
   have s1:aj H (upd H f1 (.lst (M.switches.map V.str))):=aj.ao e1
   have q1:(upd H f1 (.lst (M.switches.map V.str))) f1=_:=ag
   generalize upd H f1 (.lst (M.switches.map V.str))=H1 at s1 q1 ⊢
   obtain ⟨us,h3,cG⟩:=id hM.gt
   refine ⟨_,rfl,m,.ref a3,rfl,cw.k (k:=.inr "gates") (hM.same s1).top,a3,_,rfl,.inl (aq.of (s1 _ _ h3)),λf3 e3=>?_⟩
   have s2:aj H1 (upd H1 f3 (.lst (us.map V.ref))):=aj.ao e3
   have q3:(upd H1 f3 (.lst (us.map V.ref))) f3=_:=ag
   generalize upd H1 f3 (.lst (us.map V.ref))=H2 at s2 q3 ⊢
   have eX:=s1.trans s2
   obtain ⟨t2,u2,v2⟩:=m8 (h:=λr:Str×V=>((.inr r.1:Key),r.2)) (λ_=>rfl) (hM.same eX).kp
   refine ⟨_,rfl,_,rfl,m,.ref a2,rfl,cw.k (k:=.inr "keepers") (hM.same eX).top,a2,t2,b7 M.keepers,rfl,u2,v2,λf2 e2=>?_⟩
   rw [show de [] (b7 M.keepers)=b7 M.keepers from lR M.keepers [] nd2]
   have s3:aj H2 (upd H2 f2 (.dK (b7 M.keepers))):=aj.ao e2
   have q2:(upd H2 f2 (.dK (b7 M.keepers))) f2=_:=ag
   generalize upd H2 f2 (.dK (b7 M.keepers))=H3 at s3 q2 ⊢
   have gH:=eX.trans s3
   obtain ⟨t4,u4,v4⟩:=m8 (h:=λr:Str×Str=>((.inr r.1:Key),V.str r.2)) (λ_=>rfl) (hM.same gH).nx
   refine ⟨_,rfl,_,rfl,m,.ref a4,rfl,cw.k (k:=.inr "nexts") (hM.same gH).top,a4,t4,cv M.nexts,rfl,u4,v4,λf4 e4=>?_⟩
   rw [lS nd4]
   have s4:aj H3 (upd H3 f4 (.dK (cv M.nexts))):=aj.ao e4
   have q4:(upd H3 f4 (.dK (cv M.nexts))) f4=_:=ag
   generalize upd H3 f4 (.dK (cv M.nexts))=H4 at s4 q4 ⊢
   have gQ:=gH.trans s4
   obtain ⟨t5,u5,v5⟩:=m8 (h:=λr:Str×Str=>((.inr r.1:Key),V.str r.2)) (λ_=>rfl) (hM.same gQ).nv
   refine ⟨_,rfl,m,.ref a5,rfl,cw.k (k:=.inr "nevers") (hM.same gQ).top,a5,t5,cv M.nevers,rfl,u5,v5,λf5 e5=>?_⟩
   rw [lS nd5]
   have s5:aj H4 (upd H4 f5 (.dK (cv M.nevers))):=aj.ao e5
   have q5:(upd H4 f5 (.dK (cv M.nevers))) f5=_:=ag
   generalize upd H4 f5 (.dK (cv M.nevers))=H5 at s5 q5 ⊢
   have rK:=gQ.trans s5
   obtain ⟨t6,u6,v6⟩:=m8 (h:=λr:Str×Str=>((.inr r.1:Key),V.str r.2)) (λ_=>rfl) (hM.same rK).sm
   refine ⟨_,rfl,m,.ref a6,rfl,cw.k (k:=.inr "somes") (hM.same rK).top,a6,t6,cv M.somes,rfl,u6,v6,λf6 e6=>?_⟩
   rw [lS nd6]
   have s6:aj H5 (upd H5 f6 (.dK (cv M.somes))):=aj.ao e6
   have q6:(upd H5 f6 (.dK (cv M.somes))) f6=_:=ag
   generalize upd H5 f6 (.dK (cv M.somes))=H6 at s6 q6 ⊢
   intro y dy hy Nn cD
   have t7:aj H6 (upd (upd H6 dy (.own y)) y (.ins C dy [])):=λb o hb=>by
    rw [ai (af hb hy),ai (af hb Nn)]
    exact hb
   have q7:(upd (upd H6 dy (.own y)) y (.ins C dy [])) y=some (.ins C dy []):=ag
   generalize upd (upd H6 dy (.own y)) y (.ins C dy [])=H7 at t7 q7 ⊢
   have TH:=s6.trans t7
   have zM:=s5.trans TH
   have TJ:=s4.trans zM
   have TK:=s3.trans TJ
   have zN:=rK.trans s6
   refine ⟨y,dy,f1,f2,f3,f4,f5,f6,⟨M.switches,b7 M.keepers,us,cv M.nexts,cv M.nevers,cv M.somes⟩,rfl,q7,⟨TK _ _ (s2 _ _ q1),TJ _ _ q2,TK _ _ q3,zM _ _ q4,TH _ _ q5,t7 _ _ q6⟩,λk1 k2 k3 k4 k5 k6 H8 hg dZ hp8 IW kp8=>⟨rfl,?_⟩⟩
   have TL:aj H H8:=λb o hb=>kp8 b o (t7 _ _ (zN _ _ hb)) (af (zN _ _ hb) hy)
   exact kk y dy k1 k2 k3 k4 k5 k6 us H8 TL ⟨hp8,IW.h1,IW.h2,IW.h3,Paired.bh (lr cG) λt r e=>TL _ _ e⟩ IW.h4 h3 (λe=>by rw [e] at dZ; simp at dZ)
end
end Gen
namespace Gen
open PySem L2
abbrev oq:Stmt:=inClass (top 8) 1
abbrev m9:Stmt:=inClass (top 8) 2
structure iF (K:W.Frag) (mg:Str->Option Value) (C2:Addr):Prop where
 cl:lD K C2
 n1:dc K C2 "count"
 n2:dc K C2 "switches"
 n3:dc K C2 "keepers"
 n4:dc K C2 "gates"
 n5:dc K C2 "moves"
 n6:dc K C2 "offsets"
 mgC:mg "Steps" = some (.ref C2)
def b8 (n:Int) (sw kp gt mv of:Addr):List (Str×V):=aB "offsets" (.ref of) (aB "moves" (.ref mv) (aB "gates" (.ref gt) (aB "keepers" (.ref kp) (aB "switches" (.ref sw) (aB "count" (.int n) [])))))
section
variable (n:Int) (sw kp gt mv of:Addr)
theorem zO:(b8 n sw kp gt mv of).lookup ("offsets" : Str)=some (.ref of):=by
 unfold b8
 rw [ay,if_pos rfl]
theorem Wx:(b8 n sw kp gt mv of).lookup ("moves" : Str)=some (.ref mv):=by
 unfold b8
 rw [ay,if_neg (by decide +kernel),ay,if_pos rfl]
theorem Wy:(b8 n sw kp gt mv of).lookup ("gates" : Str)=some (.ref gt):=by
 unfold b8
 rw [ay,if_neg (by decide +kernel),ay,if_neg (by decide +kernel),ay,if_pos rfl]
theorem Np:(b8 n sw kp gt mv of).lookup ("keepers" : Str)=some (.ref kp):=by
 unfold b8
 rw [ay,if_neg (by decide +kernel),ay,if_neg (by decide +kernel),ay,if_neg (by decide +kernel),ay,if_pos rfl]
theorem Wz:(b8 n sw kp gt mv of).lookup ("switches" : Str)=some (.ref sw):=by
 unfold b8
 rw [ay,if_neg (by decide +kernel),ay,if_neg (by decide +kernel),ay,if_neg (by decide +kernel),ay,if_neg (by decide +kernel),ay,if_pos rfl]
theorem Hl:(b8 n sw kp gt mv of).lookup ("count" : Str)=some (.int n):=by
 unfold b8
 rw [ay,if_neg (by decide +kernel),ay,if_neg (by decide +kernel),ay,if_neg (by decide +kernel),ay,if_neg (by decide +kernel),ay,if_neg (by decide +kernel),ay,if_pos rfl]
theorem ib {m:Str}(h1:m ≠ "offsets") (h2:m ≠ "moves") (h3:m ≠ "gates") (h4:m ≠ "keepers") (h5:m ≠ "switches") (h6:m ≠ "count"):(b8 n sw kp gt mv of).lookup m=none:=by
 unfold b8
 rw [ay,if_neg h1,ay,if_neg h2,ay,if_neg h3,ay,if_neg h4,ay,if_neg h5,ay,if_neg h6]
 rfl
end
def cy:Nat->List Str->List (Key×V)
 | _,[]=>[]
 | i,n::r=>(.inr n,.int ((i:Int)+1))::cy (i+1) r
theorem nh:∀(names:List Str) (i:Nat),(cy i names).length=names.length
 | [],_=>rfl
 | _::r,i=>by rw [cy,List.length_cons,List.length_cons,nh r]
theorem BV:∀(a b:List Str) (i:Nat),cy i (a++b)=cy i a++cy (i+a.length) b
 | [],b,i=>rfl
 | n::r,b,i=>by rw [List.cons_append,cy,cy,BV r b (i+1),List.cons_append,List.length_cons,show i+1+r.length=i+(r.length+1) by omega]
theorem zP:∀(names:List Str) (i j:Nat) (z:Str),names.Nodup->names[j]?=some z->cq (cy i names) (.inr z)=some (V.int (((i+j:Nat):Int)+1))
 | [],_,_,_,_,h=>by simp at h
 | n::r,i,0,z,_,h=>by
  have e:n=z:=by simpa using h
  subst e
  rw [cy,gw rfl]
  rfl
 | n::r,i,j+1,z,hn,h=>by
  have h2:r[j]?=some z:=by simpa using h
  have hz:z≠n:=λe=>(List.nodup_cons.mp hn).1 (e ▸ List.mem_of_getElem? h2)
  rw [cy,f7 (λq=>hz (Sum.inr.inj q).symm),zP r (i+1) j z (List.nodup_cons.mp hn).2 h2,show i+1+j=i+(j+1) by omega]
theorem xI:("~" : Str)=⟨#[126]⟩:=by decide +kernel
theorem sZ {n:Str}(h:bw n):n ≠ "1" /\ n ≠ "0" /\ ¬ n.cps.toList[0]?=some 126:=by
 have no:∀c:Nat,¬ (97<=c/\c<=122)->c∉n.cps.toList:=λc hc hm=>hc (jw.mp (h.2.2 c hm))
 refine ⟨λe=>?_,λe=>?_,λe=>no 126 (by omega) (List.mem_of_getElem? e)⟩
 . have e2:("1" : Str).cps.toList=[49]:=by decide +kernel
   exact no 49 (by omega) (by rw [e,e2]; simp)
 . have e2:("0" : Str).cps.toList=[48]:=by decide +kernel
   exact no 48 (by omega) (by rw [e,e2]; simp)
theorem kq (n:Str):("~" ++ n:Str).cps.toList=126::n.cps.toList:=by
 rw [my,xI]
 rfl
theorem BW {n:Str} : ("~" ++ n:Str) ≠ "1" /\ ("~" ++ n:Str) ≠ "0":=by
 refine ⟨λe=>?_,λe=>?_⟩
 . have:=kq n
   rw [e,show ("1" : Str).cps.toList=[49] by decide +kernel] at this
   cases this
 . have:=kq n
   rw [e,show ("0" : Str).cps.toList=[48] by decide +kernel] at this
   cases this
theorem zQ (n:Str):Txt.slice ("~" ++ n) (some 1) none=n:=by
 refine Bi ?_
 rw [uz,kq]
 rfl
theorem cE {b:Bool}{A B:Prop}(h:b=false) (k:B):if b=true then A else B:=by rw [h]; exact pD k
theorem gc {b:Bool}{A B:Prop}(h:b=true) (k:A):if b=true then A else B:=by rw [h]; exact yu k
inductive ou (names:List Str) (k:Nat):Str->Int->Prop
 | one:ou names k "1" 1
 | zero:ou names k "0" (-1)
 | pos {n:Str}{j:Nat} : names[j]?=some n->ou names k n ((j:Int)+2+(k:Int)*(names.length:Int))
 | neg {n:Str}{j:Nat} : names[j]?=some n->ou names k ("~" ++ n) (-((j:Int)+2+(k:Int)*(names.length:Int)))
structure SO (C2:Addr) (H:Hp) (y dy sw kp gt mv of:Addr) (ts us:List Addr) (c:Nat) (M:aN):Prop where
 hy:H y=some (.ins C2 dy (b8 (c:Int) sw kp gt mv of))
 hs:H sw=some (.lst (M.switches.map V.str))
 hk:H kp=some (.dK (b7 M.keepers))
 hg:H gt=some (.lst (ts.map V.ref))
 hp:Paired (λt r=>H t=some (.tup (ma r))) ts M.gates
 hm:H mv=some (.lst (us.map V.ref))
 hq:Paired (λt (r:Str×V)=>H t=some (.tup [.str r.1,.str (cg M.nexts r.1)])) us M.keepers
 ho:H of=some (.dK (cy 1 (aa M)))
 nk:of≠kp
theorem SO.same {C2:Addr}{H H':Hp}{y dy sw kp gt mv of:Addr}{ts us:List Addr}{c:Nat}{M:aN}(h:SO C2 H y dy sw kp gt mv of ts us c M) (s:aj H H'):SO C2 H' y dy sw kp gt mv of ts us c M:=
 ⟨s _ _ h.hy,s _ _ h.hs,s _ _ h.hk,s _ _ h.hg,Paired.bh h.hp λ_ _ e=>s _ _ e,s _ _ h.hm,Paired.bh h.hq λ_ _ e=>s _ _ e,s _ _ h.ho,h.nk⟩
inductive BZ (C2:Addr) (all:Bool) (vs:List V) (H:Hp) (Q:VK):Prop
 | mk (y dy sw kp gt mv of:Addr) (names:List Str) (c:Int) (l:Str) (k:Nat) (v:Int) (h1:vs=[.ref y,.str l,.int (k:Int)]) (h2:H y=some (.ins C2 dy (b8 c sw kp gt mv of))) (h3:H of=some (.dK (cy 1 names))) (h4:names.Nodup) (h5:(∀n∈names,bw n)) (h6:names.length<=1000) (h7:k<=1000) (h8:ou names k l v) (h9:(all=false->l∈names)) (EC:∀H',aj H H'->Q (.int v) H'):BZ C2 all vs H Q
def iw (C2:Addr) (all:Bool):Sp:=λvs H Q _=>BZ C2 all vs H Q
inductive zR (C2:Addr) (vs:List V) (H:Hp) (Q:VK):Prop
 | mk (y dy sw kp gt mv of:Addr) (names:List Str) (c:Nat) (h1:vs=[.ref y]) (h2:H y=some (.ins C2 dy (b8 (c:Int) sw kp gt mv of))) (h3:H of=some (.dK (cy 1 names))) (h4:names.length<=1000) (h5:c<=1000) (h6:Q (.int (1+(c:Int)*(names.length:Int))) H):zR C2 vs H Q
def ni (C2:Addr):Sp:=λvs H Q _=>zR C2 vs H Q
abbrev iM:List Str:=["self", "literal", "k"]
section
variable {P:Program}{w:World}{K:W.Frag}{mg:Str->Option Value}{base:Heap}{C2:Addr}
theorem Nq:aQ iM iM (au oq):=⟨rfl,rfl,rfl,by decide +kernel,rfl,by decide +kernel,by decide +kernel⟩
theorem Hm {f:Addr}{fd:FuncData}(F:cC K "number" "Steps.number" oq f fd) (T2:iF K mg C2) (O:eY mg):aw P w K mg base aD 1 f fd iM (iw C2 false):=by
 refine F.ok Nq (λvs H Q E h=>?_) (λcdv A outer s H vs Q E hr h=>?_)
 . obtain ⟨y,dy,sw,kp,gt,mv,of,names,c,l,k,v,rfl,_⟩:=h
   rfl
 . obtain ⟨y,dy,sw,kp,gt,mv,of,names,c,l,k,v,rfl,hy,ho,dZ,gn,hl,hk,iG,dw,kk⟩:=h
   have hu:=eZ hr
   refine ⟨_,ak (bY (a8 iU (pv 1) aO (bp _)) (ar cS) aY)
    (ak (bY (a8 iU (pv 1) aO (bp _)) (ar cS) aY)
    (ak (bY (ie (eD PySem.F.plainAttrs_str PySem.F.slot_str_startswith PySem.F.type_str_startswith wI (pv 1) (ae aO ah))) (ar cS) aY)
    (ar (aT (aH cL (cb hu (cF (pv 0) rfl) (pv 1) (λ_ _=>rfl)) (aH ft (pv 2) (aU pE (by rfl) O.len PySem.boot_len (ae (cF (pv 0) rfl) ah)))))))),?_⟩
   have hln:=gn l (dw rfl)
   obtain ⟨h1,h2,h3⟩:=sZ hln
   obtain ⟨j,hj,ev⟩:∃j:Nat,names[j]?=some l/\v=(j:Int)+2+(k:Int)*(names.length:Int):=by
    cases iG with
    | one=>exact absurd rfl h1
    | zero=>exact absurd rfl h2
    | pos hj=>exact ⟨_,hj,rfl⟩
    | neg hj=>exact absurd (by rw [kq]; rfl) h3
   refine ⟨_,rfl,rfl,_,rfl,dq (λh=>absurd (V.str.inj (of_decide_eq_true h)) h1) (λ_=>?_)⟩
   refine ⟨_,rfl,rfl,_,rfl,dq (λh=>absurd (V.str.inj (of_decide_eq_true h)) h2) (λ_=>?_)⟩
   refine ⟨_,rfl,rfl,l, "~",rfl,rfl,_,rfl,?_⟩
   rw [xI,n8]
   refine dq (λh=>absurd (of_decide_eq_true h) h3) (λ_=>?_)
   have Hn:=zP names 1 j l dZ hj
   refine ⟨_,rfl,y,C2,dy,_,_,rfl,hy,T2.cl,T2.n6,zO ..,_,rfl,of,_,rfl,.inl ⟨_,.inr l,.inl ho,rfl,Hn.symm⟩,_,rfl,_,rfl,y,C2,dy,_,_,rfl,hy,T2.cl,T2.n6,zO ..,of,_,rfl,ho,?_⟩
   rw [nh]
   refine ⟨_,_,rfl,rfl,.inl ⟨by omega,by omega⟩,_,_,rfl,rfl,?_⟩
   have Nr:((((1+j:Nat):Int)+1)+(k:Int)*(names.length:Int))=v:=by rw [ev]; omega
   show Q (.int ((((1+j:Nat):Int)+1)+(k:Int)*(names.length:Int))) H
   rw [Nr]
   exact kk H λ_ _ h=>h
theorem K0 {f:Addr}{fd:FuncData}(F:cC K "number" "Steps.number" oq f fd) (T2:iF K mg C2) (O:eY mg) (mN:Meth K C2 "number" f) (bN:Binds K fd iM []):aw P w K mg base aD 2 f fd iM (iw C2 true):=by
 have G0:aw P w K mg base aD 1 f fd iM (iw C2 false):=Hm F T2 O
 refine F.ok Nq (λvs H Q E h=>?_) (λcdv A outer s H vs Q E hr h=>?_)
 . obtain ⟨y,dy,sw,kp,gt,mv,of,names,c,l,k,v,rfl,_⟩:=h
   rfl
 . obtain ⟨y,dy,sw,kp,gt,mv,of,names,c,l,k,v,rfl,hy,ho,dZ,gn,hl,hk,iG,_,kk⟩:=h
   have hu:=eZ hr
   refine ⟨_,ak (bY (a8 iU (pv 1) aO (bp _)) (ar (aT av)) aY)
    (ak (bY (a8 iU (pv 1) aO (bp _)) (ar (aT (g9 fu av))) aY)
    (ak (bY (ie (eD PySem.F.plainAttrs_str PySem.F.slot_str_startswith PySem.F.type_str_startswith wI (pv 1) (ae aO ah))) (ar (aT (g9 fu (dh (pv 0) T2.cl mN G0 hr bN .nil az (ae (jk BA (pv 1) (kh av) kg) (ae (pv 2) ah)))))) aY)
    (ar (aT (aH cL (cb hu (cF (pv 0) rfl) (pv 1) (λ_ _=>rfl)) (aH ft (pv 2) (aU pE (by rfl) O.len PySem.boot_len (ae (cF (pv 0) rfl) ah)))))))),?_⟩
   have j0:(b8 c sw kp gt mv of).lookup ("number" : Str)=none:=ib _ _ _ _ _ _ (by decide +kernel) (by decide +kernel) (by decide +kernel) (by decide +kernel) (by decide +kernel) (by decide +kernel)
   cases iG with
   | one=>
    refine ⟨_,rfl,rfl,_,rfl,dq (λ_=>?_) (λh=>absurd (decide_eq_true rfl) h)⟩
    exact kk H λ_ _ h=>h
   | zero=>
    refine ⟨_,rfl,rfl,_,rfl,dq (λh=>absurd (V.str.inj (of_decide_eq_true h)) (by decide +kernel)) (λ_=>?_)⟩
    refine ⟨_,rfl,rfl,_,rfl,dq (λ_=>?_) (λh=>absurd (decide_eq_true rfl) h)⟩
    exact ⟨_,rfl,kk H λ_ _ h=>h⟩
   | @pos _ j hj=>
    obtain ⟨h1,h2,h3⟩:=sZ (gn l (List.mem_of_getElem? hj))
    refine ⟨_,rfl,rfl,_,rfl,dq (λh=>absurd (V.str.inj (of_decide_eq_true h)) h1) (λ_=>?_)⟩
    refine ⟨_,rfl,rfl,_,rfl,dq (λh=>absurd (V.str.inj (of_decide_eq_true h)) h2) (λ_=>?_)⟩
    refine ⟨_,rfl,rfl,l, "~",rfl,rfl,_,rfl,?_⟩
    rw [xI,n8]
    refine dq (λh=>absurd (of_decide_eq_true h) h3) (λ_=>?_)
    have Hn:=zP names 1 j l dZ hj
    refine ⟨_,rfl,y,C2,dy,_,_,rfl,hy,T2.cl,T2.n6,zO ..,_,rfl,of,_,rfl,.inl ⟨_,.inr l,.inl ho,rfl,Hn.symm⟩,_,rfl,_,rfl,y,C2,dy,_,_,rfl,hy,T2.cl,T2.n6,zO ..,of,_,rfl,ho,?_⟩
    rw [nh]
    refine ⟨_,_,rfl,rfl,.inl ⟨by omega,by omega⟩,_,_,rfl,rfl,?_⟩
    have Nr:((((1+j:Nat):Int)+1)+(k:Int)*(names.length:Int))=(j:Int)+2+(k:Int)*(names.length:Int):=by omega
    show Q (.int ((((1+j:Nat):Int)+1)+(k:Int)*(names.length:Int))) H
    rw [Nr]
    exact kk H λ_ _ h=>h
   | @neg n j hj=>
    have bK:=List.mem_of_getElem? hj
    have hn:=gn n bK
    obtain ⟨h1,h2⟩:=BW (n:=n)
    refine ⟨_,rfl,rfl,_,rfl,dq (λh=>absurd (V.str.inj (of_decide_eq_true h)) h1) (λ_=>?_)⟩
    refine ⟨_,rfl,rfl,_,rfl,dq (λh=>absurd (V.str.inj (of_decide_eq_true h)) h2) (λ_=>?_)⟩
    refine ⟨_,rfl,rfl,_, "~",rfl,rfl,_,rfl,?_⟩
    have gf:("~" ++ n:Str).cps.toList[0]?=some 126:=by rw [kq]; rfl
    generalize hz:("~" ++ n:Str)=z at gf
    rw [xI,n8]
    refine dq (λ_=>?_) (λh=>absurd (decide_eq_true gf) h)
    subst hz
    have rg:("~" ++ n:Str).length<=sizeLine:=by
     rw [pI]
     have e:("~" : Str).length=1:=by decide +kernel
     have:=hn.len
     exact gb (by omega)
    refine ⟨_,rfl,y,dy,_,rfl,hy,j0,_,rfl,_,rfl,_,1,rfl,rfl,rfl,rg,?_⟩
    rw [zQ]
    exact ⟨_,rfl,y,dy,sw,kp,gt,mv,of,names,c,n,k,_,rfl,hy,ho,dZ,gn,hl,hk,.pos hj,λ_=>bK,λH' s=>⟨_,rfl,kk H' s⟩⟩
theorem QS:aQ ["self"] ["self"] (au m9):=⟨rfl,rfl,rfl,by decide +kernel,rfl,by decide +kernel,by decide +kernel⟩
theorem Ho {f:Addr}{fd:FuncData}(F:cC K "many" "Steps.many" m9 f fd) (T2:iF K mg C2) (O:eY mg):aw P w K mg base aD 1 f fd ["self"] (ni C2):=by
 refine F.ok QS (λvs H Q E h=>?_) (λcdv A outer s H vs Q E hr h=>?_)
 . obtain ⟨y,dy,sw,kp,gt,mv,of,names,c,rfl,_⟩:=h
   rfl
 . obtain ⟨y,dy,sw,kp,gt,mv,of,names,c,rfl,hy,ho,hl,hc,kk⟩:=h
   refine ⟨_,ar (aT (aH cL av (aH ft (cF (pv 0) rfl) (aU pE (by rfl) O.len PySem.boot_len (ae (cF (pv 0) rfl) ah))))),?_⟩
   refine ⟨_,rfl,y,C2,dy,_,_,rfl,hy,T2.cl,T2.n1,Hl ..,_,rfl,y,C2,dy,_,_,rfl,hy,T2.cl,T2.n6,zO ..,of,_,rfl,ho,?_⟩
   rw [nh]
   exact ⟨_,_,rfl,rfl,.inl ⟨by omega,by omega⟩,_,_,rfl,rfl,kk⟩
end
end Gen
namespace Gen
open PySem L2
abbrev qL:Stmt:=inClass (top 8) 4
def gT:List Str->Str->Nat
 | [],_=>0
 | n::r,z=>if n=z then 0 else gT r z+1
theorem iN:∀{names:List Str}{z:Str},z∈names->names[gT names z]?=some z
 | [],_,h=>nomatch h
 | n::r,z,h=>by
  unfold gT
  by_cases e:n=z
  . rw [if_pos e,e]
    rfl
  . rw [if_neg e,List.getElem?_cons_succ]
    exact iN ((List.mem_cons.mp h).resolve_left λq=>e q.symm)
def a7 (names:List Str) (k:Nat) (z:Str):Int:=(gT names z:Int)+2+(k:Int)*(names.length:Int)
def aX (names:List Str) (k:Nat) (l:Str):Int:=if l = "1" then 1 else if l = "0" then -1 else if l.cps.toList[0]?=some 126 then -(a7 names k (Txt.slice l (some 1) none)) else a7 names k l
theorem lT {names:List Str}{k:Nat}{z:Str}(h:bw z):aX names k z=a7 names k z:=by
 obtain ⟨h1,h2,h3⟩:=sZ h
 unfold aX
 rw [if_neg h1,if_neg h2,if_neg h3]
theorem ow {names:List Str}{k:Nat}{z:Str} : aX names k ("~" ++ z) = -(a7 names k z):=by
 obtain ⟨h1,h2⟩:=BW (n:=z)
 unfold aX
 rw [if_neg h1,if_neg h2,if_pos (by rw [kq]; rfl),zQ]
theorem ou.name {names:List Str}{k:Nat}{z:Str}(h:z∈names):ou names k z (a7 names k z):=.pos (iN h)
theorem ou.of {names:List Str}{k:Nat}{l:Str}(hn:∀n∈names,bw n) (h:Lit names l):ou names k l (aX names k l):=by
 rcases h with rfl | rfl | ⟨x,hx,rfl | rfl⟩
 . have:aX names k "0" = -1:=by unfold aX; rw [if_neg (by decide +kernel),if_pos rfl]
   rw [this]
   exact .zero
 . have:aX names k "1" = 1:=by unfold aX; rw [if_pos rfl]
   rw [this]
   exact .one
 . rw [lT (hn _ hx)]
   exact .name hx
 . rw [ow]
   exact .neg (iN hx)
def gi (names:List Str) (r:Str×V):List (List Int):=if r.2=.aS then [] else [[if r.2=.int 1 then a7 names 0 r.1 else -(a7 names 0 r.1)]]
def dY (names:List Str) (ks:List (Str×V)):List (List Int):=[1]::ks.flatMap (gi names)
theorem ox (names:List Str) (ks:List (Str×V)):(ks.flatMap (gi names)).length<=ks.length:=by
 induction ks with
 | nil=>exact Nat.le_refl _
 | cons r ks ih=>
  rw [List.flatMap_cons,List.length_append,List.length_cons]
  have:(gi names r).length<=1:=by unfold gi; split <;> simp
  omega
structure Sm (M:aN):Prop where
 nd:(aa M).Nodup
 nm:∀n∈aa M,bw n
 n1:M.switches.length<=20
 n2:M.keepers.length<=20
 n3:M.gates.length<=60
 fs:∀r∈M.keepers,r.2=.int 0\/r.2=.int 1\/r.2=.aS
 nx:∀r∈M.keepers,Lit (aa M) (cg M.nexts r.1)
 gl:∀g∈M.gates,Lit (aa M) g.2.1/\Lit (aa M) g.2.2
theorem Sm.len {M:aN}(h:Sm M):(aa M).length<=100:=by
 unfold aa
 have:=h.n1
 have:=h.n2
 have:=h.n3
 rw [List.length_append,List.length_append,List.length_map,List.length_map]
 omega
inductive B0 (C2:Addr) (vs:List V) (H:Hp) (Q:VK):Prop
 | mk (y dy sw kp gt mv of:Addr) (ts us:List Addr) (c:Nat) (M:aN) (h1:vs=[.ref y]) (h2:SO C2 H y dy sw kp gt mv of ts us c M) (h3:Sm M) (h4:∀p us H',aj H H'->LL H H' p us (dY (aa M) M.keepers)->Q (.ref p) H'):B0 C2 vs H Q
def zS (C2:Addr):Sp:=λvs H Q _=>B0 C2 vs H Q
abbrev nFC:List Str:=["self", "told", "keeper", "first", "number"]
section
variable {P:Program}{w:World}{K:W.Frag}{mg:Str->Option Value}{base:Heap}{C2:Addr}
theorem i7 {α β:Type}{F:α->β->Prop} : ∀{l₁:List α}{l₂:List β}{i:Nat}{a:α},Paired F l₁ l₂->l₁[i]?=some a->∃b,l₂[i]?=some b/\F a b
 | _,_,i,a,.nil,h=>by simp at h
 | _,_,0,a,.cons h t,e=>⟨_,rfl,by simpa using (show _=_ from Option.some.inj e) ▸ h⟩
 | _,_,i+1,a,.cons h t,e=>let ⟨b,h1,h2⟩:=i7 t (i:=i) (a:=a) (by simpa using e); ⟨b,by simpa using h1,h2⟩
theorem Nt {H H4:Hp}{p kp y t0:Addr}{o:Obj}{kvs:List (Key×V)}{us:List Addr}{cs TM:List (List Int)}{b:Int}{x:List (List Int)}{v2 v3 v4:V}(lh:H p=none) (_:H t0=none) (e9:H4 p=some (.lst (us.map V.ref))) (nj:H4 kp=some (.cz o (.dK kvs))) (wX:∀b u,H b=some u->b≠kp->H4 b=some u) (cG:Paired (λt c=>H4 t=some (.lst (c.map V.int))) us cs) (wY:∀t∈us,∃c,H4 t=some (.lst c)) (dJ:∀t∈us,H t=none) (wZ:p∉us) (B3:p≠kp) (dv:TM=cs++x) (hb:x=[[b]]) (hl:us.length<=100) :
 1<=sizeLine/\∀t,H4 t=none->A0 (.ref p) [.ref t] (upd H4 t (.lst [.int b])) λ_ H'=>∃(w2 w3 w4:Option V) (us:List Addr),[some (V.ref y),some (.ref p),some v2,some v3,some v4]=[some (.ref y),some (.ref p),w2,w3,w4]/\H' kp=some (.cz o (.dK kvs))/\(∀b u,H b=some u->b≠kp->H' b=some u)/\H' p=some (.lst (us.map V.ref))/\Paired (λt c=>H' t=some (.lst (c.map V.int))) us TM/\(∀t∈us,H t=none)/\p∉us:=by
 refine ⟨by decide,λt ht=>?_⟩
 have B4:p≠t:=af e9 ht
 refine ⟨p,_,_,rfl,rfl,(ai B4).trans e9,(by rw [List.length_map]; exact small (by omega)),?_⟩
 refine ⟨_,_,_,us++[t],rfl,?_,λb u h n=>?_,by rw [ag,List.map_append]; rfl,?_,λa ha=>?_,λh=>?_⟩
 . rw [ai (Ne.symm B3),ai (af nj ht)]
   exact nj
 . rw [ai (af h lh),ai (af (wX b u h n) ht)]
   exact wX b u h n
 . rw [dv,hb]
   refine bE (i6 cG λa c ha e=>?_) (.cons ?_ .nil)
   . rw [ai (show a≠p from λz=>by rw [z] at ha; exact wZ ha),ai (af e ht)]
     exact e
   . rw [ai (Ne.symm B4),ag]
     rfl
 . rcases List.mem_append.mp ha with ha | ha
   . exact dJ a ha
   . rw [List.mem_singleton.mp ha]
     cases e:H t with
     | none=>rfl
     | some u=>
      by_cases n:t=kp
      . rw [n,nj] at ht
        cases ht
      . rw [wX t u e n] at ht
        cases ht
 . rcases List.mem_append.mp h with h | h
   . exact wZ h
   . exact B4 (List.mem_singleton.mp h)
theorem zT:aQ nFC ["self"] (au qL):=⟨rfl,rfl,rfl,by decide +kernel,rfl,by decide +kernel,by decide +kernel⟩
theorem K1 {f fN:Addr}{fd dN:FuncData}(F:cC K "first_clauses" "Steps.first_clauses" qL f fd) (T2:iF K mg C2)
 (gN:aw P w K mg base aD 2 fN dN iM (iw C2 true)) (mN:Meth K C2 "number" fN) (bN:Binds K dN iM []):aw P w K mg base aD 3 f fd ["self"] (zS C2):=by
 refine F.ok zT (λvs H Q E h=>?_) (λcdv A outer s H vs Q E hr h=>?_)
 . obtain ⟨y,dy,sw,kp,gt,mv,of,ts,us,c,M,rfl,_⟩:=h
   rfl
 . obtain ⟨y,dy,sw,kp,gt,mv,of,ts,us,c,M,rfl,hO,hM,kk⟩:=h
   refine ⟨_,ak (aE (i:=1) zT.nd rfl (Or.inl rfl) (bt (ae (bt (ae av ah)) ah)))
    (ak (KD (cc PassesOwn.never rfl (G1 (cF (pv 0) rfl)) (eg rfl (aK (ax (i:=2) zT.nd rfl (Or.inl rfl)) (aK (ax (i:=3) zT.nd rfl (Or.inl rfl)) cU)))
     (ar (bY (iS (qk (pv 3))) (ak (aE (i:=4) zT.nd rfl (Or.inl rfl) (dh (pv 0) T2.cl mN gN hr bN .nil az (ae (pv 2) (ae av ah))))
      (ar (dg (eD PySem.F.plainAttrs_list PySem.F.slot_list_append PySem.F.type_list_append dj (pv 1) (ae (bt (ae (sk (a8 iU (pv 3) av (bp _)) (pv 4) (g9 fu (pv 4))) ah)) ah))))) aY))))
    (ar (aT (pv 1)))),?_⟩
   have j0:(b8 (c:Int) sw kp gt mv of).lookup ("number" : Str)=none:=ib _ _ _ _ _ _ (by decide +kernel) (by decide +kernel) (by decide +kernel) (by decide +kernel) (by decide +kernel) (by decide +kernel)
   have lk:(b7 M.keepers).length=M.keepers.length:=List.length_map _
   have Nu:=hM.len
   have fi:=hM.n2
   refine ⟨(by show 1<=sizeLine; decide),λt0 rE=>⟨(by show 1<=sizeLine; decide),λp hp=>?_⟩⟩
   have s1:aj H (upd H t0 (.lst [.int 1])):=aj.ao rE
   have B4:t0≠p:=af (ag (H:=H) (a:=t0)) hp
   have lh:H p=none:=s1.free hp
   have s2:aj H (upd (upd H t0 (.lst [.int 1])) p (.lst [.ref t0])):=s1.trans (aj.ao hp)
   have u2:(upd (upd H t0 (.lst [.int 1])) p (.lst [.ref t0])) p=some (.lst ([t0].map V.ref)):=ag
   have v2:(upd (upd H t0 (.lst [.int 1])) p (.lst [.ref t0])) t0=some (.lst ([(1:Int)].map V.int)):=by rw [ai B4,ag]; rfl
   generalize upd (upd H t0 (.lst [.int 1])) p (.lst [.ref t0])=H2 at s2 u2 v2 ⊢
   have IX:y≠kp:=bu hO.hy hO.hk (by intro z; cases z)
   have B3:p≠kp:=λe=>by rw [e,hO.hk] at lh; cases lh
   have ntk:t0≠kp:=λe=>by rw [e,hO.hk] at rE; cases rE
   refine ⟨_,rfl,y,C2,dy,_,_,rfl,s2 _ _ hO.hy,T2.cl,T2.n3,Np ..,kp,b7 M.keepers,rfl,s2 _ _ hO.hk,λo=>E8 (λi σ Hi=>∃(v2 v3 v4:Option V) (us:List Addr),σ=[some (.ref y),some (.ref p),v2,v3,v4]/\Hi kp=some (.cz o (.dK (b7 M.keepers)))/\(∀b u,H b=some u->b≠kp->Hi b=some u)/\Hi p=some (.lst (us.map V.ref))/\Paired (λt c=>Hi t=some (.lst (c.map V.int))) us (dY (aa M) (M.keepers.take i))/\(∀t∈us,H t=none)/\p∉us) ?_ ?_ ?_ ?_⟩
   . refine ⟨none,none,none,[t0],rfl,ag,λb u hb nb=>by rw [ai nb]; exact s2 _ _ hb,by rw [ai B3]; exact u2,.cons (by rw [ai ntk]; exact v2) .nil,λt ht=>by rw [List.mem_singleton.mp ht]; exact rE,λh=>B4 (List.mem_singleton.mp h).symm⟩
   . rintro i σ Hi _ ⟨_,_,_,_,_,h,_⟩
     exact h
   . rintro i kv Tp σ Hi gq hT ⟨v2,v3,v4,us,rfl,hg,Nv,mZ,cG,dJ,wZ⟩
     have hi:i<M.keepers.length:=by
      have:=(List.getElem?_eq_some_iff.mp gq).1
      rwa [lk] at this
     have ek:kv=((.inr M.keepers[i].1:Key),M.keepers[i].2):=by
      unfold b7 at gq
      rw [List.getElem?_map,List.getElem?_eq_getElem hi] at gq
      exact (Option.some.inj gq).symm
     subst ek
     have bK:=List.getElem_mem hi
     have dv:dY (aa M) (M.keepers.take (i+1))=dY (aa M) (M.keepers.take i)++gi (aa M) M.keepers[i]:=by
      unfold dY
      rw [List.take_succ,List.getElem?_eq_getElem hi,List.flatMap_append]
      simp
     have gp:=cG.length
     have pJ:(dY (aa M) (M.keepers.take i)).length<=30:=by
      unfold dY
      rw [List.length_cons]
      have:=ox (aa M) (M.keepers.take i)
      rw [List.length_take] at this
      omega
     generalize M.keepers[i]=r at bK dv
     have dw:r.1∈aa M:=List.mem_append_left _ (List.mem_append_right _ (List.mem_map.mpr ⟨r,bK,rfl⟩))
     have s3:aj Hi (upd Hi Tp (.tup [.str r.1,r.2])):=aj.ao hT
     have u3:(upd Hi Tp (.tup [.str r.1,r.2])) Tp=some (.tup [.str r.1,r.2]):=ag
     have B5:∀b u,H b=some u->b≠kp->(upd Hi Tp (.tup [.str r.1,r.2])) b=some u:=λb u hb nb=>s3 _ _ (Nv b u hb nb)
     refine ⟨Tp,_,rfl,aR.of u3,rfl,_,_,rfl,_,_,rfl,rfl,?_⟩
     show Lv _ _ _ _ _ (upd Hi Tp (.tup [.str r.1,r.2]))
     generalize upd Hi Tp (.tup [.str r.1,r.2])=H3 at s3 u3 B5 ⊢
     refine ⟨_,rfl,_,rfl,?_⟩
     by_cases vz:r.2=.aS
     . have hf:gi (aa M) r=[]:=if_pos vz
       rw [hf,List.append_nil] at dv
       refine cE (by rw [decide_eq_true vz]; rfl) ⟨_,_,_,us,rfl,s3 _ _ hg,B5,s3 _ _ mZ,by rw [dv]; exact Paired.bh cG λ_ _ e=>s3 _ _ e,dJ,wZ⟩
     . refine gc (by rw [decide_eq_false vz]; rfl) ?_
       refine ⟨_,rfl,y,dy,_,rfl,B5 _ _ hO.hy IX,j0,_,rfl,y,dy,sw,kp,gt,mv,of,aa M,_,r.1,0,_,rfl,B5 _ _ hO.hy IX,B5 _ _ hO.ho hO.nk,hM.nd,hM.nm,by omega,by omega,.name dw,(λh=>nomatch h),λH4 s4=>?_⟩
       have e9:=s4 _ _ (s3 _ _ mZ)
       obtain ⟨bv,hb,TN⟩:∃bv:Int,gi (aa M) r=[[bv]]/\((r.2=.int 1/\bv=a7 (aa M) 0 r.1)\/(r.2=.int 0/\bv = -(a7 (aa M) 0 r.1))):=by
        unfold gi
        rw [if_neg vz]
        rcases hM.fs r bK with e | e | e
        . exact ⟨_,rfl,.inr ⟨e,by rw [e,if_neg (by intro z; cases z)]⟩⟩
        . exact ⟨_,rfl,.inl ⟨e,by rw [e,if_pos rfl]⟩⟩
        . exact absurd e vz
       obtain ⟨rn,rv⟩:=r
       simp only at TN vz dw bK s3 u3 hb dv
       refine ⟨_,rfl,.inl ⟨rfl,_,aq.of e9⟩,?_⟩
       have nj:=s4 _ _ (s3 _ _ hg)
       have wX:∀b u,H b=some u->b≠kp->H4 b=some u:=λb u h n=>s4 _ _ (B5 b u h n)
       have Hq:Paired (λt c=>H4 t=some (.lst (c.map V.int))) us (dY (aa M) (M.keepers.take i)):=Paired.bh cG λ_ _ e=>s4 _ _ (s3 _ _ e)
       have wY:∀t∈us,∃c,H4 t=some (.lst c):=λt ht=>by
        obtain ⟨j,hj⟩:=List.mem_iff_getElem?.mp ht
        obtain ⟨c,_,hc⟩:=i7 Hq hj
        exact ⟨_,hc⟩
       rcases TN with ⟨rfl,rfl⟩ | ⟨rfl,rfl⟩
       . refine ⟨_,rfl,rfl,_,rfl,gc (decide_eq_true rfl) ⟨_,rfl,?_⟩⟩
         exact Nt lh rE e9 nj wX Hq wY dJ wZ B3 dv hb (by omega)
       . refine ⟨_,rfl,rfl,_,rfl,cE (decide_eq_false (by intro z; cases z)) ⟨_,rfl,_,rfl,?_⟩⟩
         exact Nt lh rE e9 nj wX Hq wY dJ wZ B3 dv hb (by omega)
   . rintro σ Hi ⟨v2,v3,v4,us,rfl,hg,Nv,mZ,cG,dJ,wZ⟩
     rw [lk,List.take_length] at cG
     refine ⟨kp,o,_,hg,(λo' u e=>by have e':H kp=_:=e; rw [hO.hk] at e'; cases e'),_,rfl,kk p us _ (λb u hb=>?_) ⟨by rw [ai B3]; exact mZ,?_,dJ,lh,wZ⟩⟩
     . by_cases e:b=kp
       . rw [e] at hb ⊢
         rw [ag,← hb,hO.hk]
       . rw [ai e]
         exact Nv b u hb e
     . exact Paired.bh cG λt c e=>by rw [ai (bu e hg (by intro z; cases z))]; exact e
end
end Gen
namespace Gen
open PySem L2
abbrev vA:Stmt:=inClass (top 8) 5
def eW (names:List Str) (nx:List (Str×Str)) (k:Nat) (r:Str×V):List (List Int):=[[-(a7 names k r.1),aX names (k-1) (cg nx r.1)],[a7 names k r.1,-(aX names (k-1) (cg nx r.1))]]
def i8 (names:List Str) (k:Nat) (g:Str×Str×Str):List (List Int):=clausesOf (a7 names k g.1) (aX names k g.2.1) (aX names k g.2.2)
def qf (M:aN) (k:Nat):List (List Int):=(if k=0 then [] else M.keepers.flatMap (eW (aa M) M.nexts k))++M.gates.flatMap (i8 (aa M) k)
theorem LL.ext {H Hi H5:Hp}{p q:Addr}{us qs:List Addr}{cs x:List (List Int)}(h:LL H Hi p us cs) (si:aj H Hi) (s5:aj Hi H5) (hq:LL Hi H5 q qs x):LL H (upd H5 p (.lst (us.map V.ref++qs.map V.ref))) p (us++qs) (cs++x)/\aj H (upd H5 p (.lst (us.map V.ref++qs.map V.ref))):=by
 refine ⟨⟨by rw [ag,List.map_append],?_,λb hb=>?_,h.pn,λhm=>?_⟩,λb o hb=>?_⟩
 . refine bE (i6 h.each λb c hb e=>?_) (i6 hq.each λb c hb e=>?_)
   . rw [ai (show b≠p from λe2=>h.np (e2 ▸ hb))]
     exact s5 _ _ e
   . rw [ai (show b≠p from λe2=>by have:=hq.new b hb; rw [e2,h.top] at this; cases this)]
     exact e
 . rcases List.mem_append.mp hb with h1 | h1
   . exact h.new b h1
   . exact si.free (hq.new b h1)
 . rcases List.mem_append.mp hm with h1 | h1
   . exact h.np h1
   . have:=hq.new p h1
     rw [h.top] at this
     cases this
 . rw [ai (af hb h.pn)]
   exact s5 _ _ (si _ _ hb)
inductive Fw (C2:Addr) (vs:List V) (H:Hp) (Q:VK):Prop
 | mk (y dy sw kp gt mv of:Addr) (ts us:List Addr) (c:Nat) (M:aN) (k:Nat) (h1:vs=[.ref y,.int (k:Int)]) (h2:SO C2 H y dy sw kp gt mv of ts us c M) (h3:Sm M) (h4:k<=100) (h5:∀p us H',aj H H'->LL H H' p us (qf M k)->Q (.ref p) H'):Fw C2 vs H Q
def Ds (C2:Addr):Sp:=λvs H Q _=>Fw C2 vs H Q
abbrev nCK:List Str:=["self", "k", "told", "keeper", "literal", "there", "here", "name", "one", "other"]
theorem iO {α:Type}{f:α->List (List Int)}{n:Nat}(h:∀x,(f x).length<=n):∀l:List α,(l.flatMap f).length<=n*l.length
 | []=>by simp
 | x::l=>by
  rw [List.flatMap_cons,List.length_append,List.length_cons,Nat.mul_succ]
  have:=h x
  have:=iO h l
  omega
theorem Nw (g a b:Int):(clausesOf g a b).length<=3:=by
 unfold clausesOf
 refine Nat.le_trans (List.length_filter_le _ _) ?_
 rw [List.length_map]
 exact Nat.le_refl _
section
variable {P:Program}{w:World}{K:W.Frag}{mg:Str->Option Value}{base:Heap}{C2:Addr}
theorem oA:aQ nCK ["self", "k"] (au vA):=⟨rfl,rfl,rfl,by decide +kernel,rfl,by decide +kernel,by decide +kernel⟩
theorem Nx {f fN fG:Addr}{fd dN dG:FuncData}(F:cC K "clauses_of" "Steps.clauses_of" vA f fd) (T2:iF K mg C2)
 (gN:aw P w K mg base aD 2 fN dN iM (iw C2 true)) (mN:Meth K C2 "number" fN) (bN:Binds K dN iM [])
 (gG:aw P w K mg base aD 2 fG dG ["gate", "one", "other"] Hf) (mG:mg "gate_clauses" = some (.ref fG)) (kG:W.keepIn K (.ref fG)=true) (bG:Binds K dG ["gate", "one", "other"] []):aw P w K mg base aD 3 f fd ["self", "k"] (Ds C2):=by
 refine F.ok oA (λvs H Q E h=>?_) (λcdv A outer s H vs Q E hr h=>?_)
 . obtain ⟨y,dy,sw,kp,gt,mv,of,ts,us,c,M,k,rfl,_⟩:=h
   rfl
 . obtain ⟨y,dy,sw,kp,gt,mv,of,ts,us,c,M,k,rfl,hO,hM,hk,kk⟩:=h
   refine ⟨_,ak (aE (i:=2) oA.nd rfl (Or.inl rfl) (bt ah))
    (ak (bY (a8 lC (pv 1) av (bp _)) (ar (cc PassesOwn.never rfl (bU (cF (pv 0) rfl)) (eg rfl (aK (ax (i:=3) oA.nd rfl (Or.inl rfl)) (aK (ax (i:=4) oA.nd rfl (Or.inl rfl)) cU)))
     (ak (aE (i:=5) oA.nd rfl (Or.inl rfl) (dh (pv 0) T2.cl mN gN hr bN .nil az (ae (pv 3) (ae (pv 1) ah))))
     (ak (aE (i:=6) oA.nd rfl (Or.inl rfl) (dh (pv 0) T2.cl mN gN hr bN .nil az (ae (pv 4) (ae (aH jC (pv 1) av) ah))))
     (ar (dg (eD PySem.F.plainAttrs_list PySem.F.slot_list_extend PySem.F.type_list_extend pB (pv 2) (ae (bt (ae (bt (ae (g9 fu (pv 5)) (ae (pv 6) ah))) (ae (bt (ae (pv 5) (ae (g9 fu (pv 6)) ah))) ah))) ah)))))))) aY)
    (ak (cc PassesOwn.never rfl (bU (cF (pv 0) rfl)) (eg rfl (aK (ax (i:=7) oA.nd rfl (Or.inl rfl)) (aK (ax (i:=8) oA.nd rfl (Or.inl rfl)) (aK (ax (i:=9) oA.nd rfl (Or.inl rfl)) cU))))
     (ar (dg (eD PySem.F.plainAttrs_list PySem.F.slot_list_extend PySem.F.type_list_extend pB (pv 2) (ae (aA gG hr rfl mG kG bG .nil az
      (ae (dh (pv 0) T2.cl mN gN hr bN .nil az (ae (pv 7) (ae (pv 1) ah))) (ae (dh (pv 0) T2.cl mN gN hr bN .nil az (ae (pv 8) (ae (pv 1) ah))) (ae (dh (pv 0) T2.cl mN gN hr bN .nil az (ae (pv 9) (ae (pv 1) ah))) ah)))) ah)))))
    (ar (aT (pv 2))))),?_⟩
   have j0:(b8 (c:Int) sw kp gt mv of).lookup ("number" : Str)=none:=ib _ _ _ _ _ _ (by decide +kernel) (by decide +kernel) (by decide +kernel) (by decide +kernel) (by decide +kernel) (by decide +kernel)
   have Nu:=hM.len
   have fi:=hM.n2
   have Bt:=hM.n3
   refine ⟨(by show 0<=sizeLine; decide),λp hp=>?_⟩
   have s1:aj H (upd H p (.lst [])):=aj.ao hp
   have L1:LL H (upd H p (.lst [])) p [] []:=⟨ag,.nil,(λ_ h=>nomatch h),hp,List.not_mem_nil⟩
   generalize upd H p (.lst [])=H1 at s1 L1 ⊢
   dsimp only [dr]
   refine hide λR eR=>?_
   have rest:∀(Hx:Hp) (qs:List Addr) (v3 v4 v5 v6:Option V),aj H Hx->LL H Hx p qs (if k=0 then [] else M.keepers.flatMap (eW (aa M) M.nexts k))->R { nx:=λ_ H'=>Q .aS H',rt:=Q } [some (.ref y),some (.int (k:Int)),some (.ref p),v3,v4,v5,v6,none,none,none] Hx:=by
    subst eR
    intro Hx qs v3 v4 v5 v6 sx Lx
    have t8:(if k=0 then [] else M.keepers.flatMap (eW (aa M) M.nexts k)).length<=40:=by
     split
     . simp
     . have:=iO (f:=eW (aa M) M.nexts k) (n:=2) (λ_=>Nat.le_refl _) M.keepers
       omega
    have ek:qf M k=(if k=0 then [] else M.keepers.flatMap (eW (aa M) M.nexts k))++M.gates.flatMap (i8 (aa M) k):=rfl
    rw [ek] at kk
    generalize (if k=0 then [] else M.keepers.flatMap (eW (aa M) M.nexts k))=cs at Lx t8 kk
    have TQ:=hO.same sx
    have lt:=hO.hp.length
    refine ⟨_,rfl,y,C2,dy,_,_,rfl,TQ.hy,T2.cl,T2.n4,Wy ..,gt,rfl,⟨_,aq.of TQ.hg⟩,d7 (K:=K) (a:=gt) (xs:=ts.map V.ref) (λi σ Hi=>∃(v7 v8 v9:Option V) (us:List Addr),σ=[some (.ref y),some (.int (k:Int)),some (.ref p),v3,v4,v5,v6,v7,v8,v9]/\aj H Hi/\LL H Hi p us (cs++(M.gates.take i).flatMap (i8 (aa M) k))) ⟨none,none,none,qs,rfl,sx,by simpa using Lx⟩ ?_ ?_ ?_⟩
    . rintro i σ Hi _ ⟨_,_,_,_,_,si,_⟩
      exact aq.of (si _ _ hO.hg)
    . rintro i xv σ Hi hx ⟨v7,v8,v9,gE,rfl,si,Li⟩
      have hi:i<M.gates.length:=by
       have:=(List.getElem?_eq_some_iff.mp hx).1
       rw [List.length_map] at this
       omega
      obtain ⟨t,ht,hT⟩:=a9 hO.hp (i:=i) (List.getElem?_eq_getElem hi)
      have ex:xv=.ref t:=by
       rw [List.getElem?_map,ht] at hx
       exact (Option.some.inj hx).symm
      subst ex
      have bK:=List.getElem_mem hi
      have dv:(M.gates.take (i+1)).flatMap (i8 (aa M) k)=(M.gates.take i).flatMap (i8 (aa M) k)++i8 (aa M) k M.gates[i]:=by
       rw [List.take_succ,List.getElem?_eq_getElem hi,List.flatMap_append]
       simp
      have jI:=iO (f:=i8 (aa M) k) (n:=3) (λg=>Nw _ _ _) (M.gates.take i)
      rw [List.length_take] at jI
      have gp:=Li.each.length
      rw [List.length_append] at gp
      generalize M.gates[i]=g at hT bK dv
      obtain ⟨gl1,gl2⟩:=hM.gl g bK
      have dw:g.1∈aa M:=List.mem_append_right _ (List.mem_map.mpr ⟨g,bK,rfl⟩)
      have oT:=hO.same si
      refine ⟨t,_,rfl,aR.of (si _ _ hT),rfl,_,_,rfl,_,_,rfl,_,_,rfl,rfl,?_⟩
      refine ⟨_,rfl,.inl ⟨rfl,_,aq.of Li.top⟩,_,rfl,y,dy,_,rfl,oT.hy,j0,_,rfl,_,rfl,y,dy,sw,kp,gt,mv,of,aa M,_,g.1,k,_,rfl,oT.hy,oT.ho,hM.nd,hM.nm,by omega,by omega,.name dw,(λh=>nomatch h),λH4 s4=>?_⟩
      have j1:=oT.same s4
      refine ⟨_,rfl,y,dy,_,rfl,j1.hy,j0,_,rfl,_,rfl,y,dy,sw,kp,gt,mv,of,aa M,_,g.2.1,k,_,rfl,j1.hy,j1.ho,hM.nd,hM.nm,by omega,by omega,.of hM.nm gl1,(λh=>nomatch h),λH5 s5=>?_⟩
      have Fx:=j1.same s5
      refine ⟨_,rfl,y,dy,_,rfl,Fx.hy,j0,_,rfl,_,rfl,y,dy,sw,kp,gt,mv,of,aa M,_,g.2.2,k,_,rfl,Fx.hy,Fx.ho,hM.nd,hM.nm,by omega,by omega,.of hM.nm gl2,(λh=>nomatch h),λH6 s6=>?_⟩
      refine ⟨_,_,_,rfl,λq qs' H7 s7 hL=>?_⟩
      have Ny:=s4.trans (s5.trans s6)
      have TR:LL H H6 p gE (cs++(M.gates.take i).flatMap (i8 (aa M) k)):=⟨Ny _ _ Li.top,Paired.bh Li.each λ_ _ e=>Ny _ _ e,Li.new,Li.pn,Li.np⟩
      have oS:=hL.each.length
      have EH:=Nw (a7 (aa M) k g.1) (aX (aa M) k g.2.1) (aX (aa M) k g.2.2)
      refine ⟨p,q,_,_,rfl,rfl,s7 _ _ TR.top,hL.top,(by rw [List.length_map,List.length_map]; exact Nat.le_of_lt (small (by omega))),?_⟩
      obtain ⟨a1,a2⟩:=TR.ext (si.trans Ny) s7 hL
      refine ⟨_,_,_,gE++qs',rfl,a2,?_⟩
      rw [dv,← List.append_assoc]
      exact a1
    . rintro σ Hi ⟨v7,v8,v9,gE,rfl,si,Li⟩
      rw [List.length_map,lt,List.take_length] at Li
      exact ⟨_,rfl,kk p gE Hi si Li⟩
   refine ⟨_,rfl,_,_,rfl,rfl,_,rfl,dq (λh=>?_) (λh=>?_)⟩
   . have h0:0<k:=by
      have:=of_decide_eq_true h
      omega
     rw [if_neg (by omega)] at rest
     have qg:=hO.same s1
     have lu:=hO.hq.length
     refine ⟨_,rfl,y,C2,dy,_,_,rfl,qg.hy,T2.cl,T2.n5,Wx ..,mv,rfl,⟨_,aq.of qg.hm⟩,d7 (K:=K) (a:=mv) (xs:=us.map V.ref) (λi σ Hi=>∃(v3 v4 v5 v6:Option V) (gE:List Addr),σ=[some (.ref y),some (.int (k:Int)),some (.ref p),v3,v4,v5,v6,none,none,none]/\aj H Hi/\LL H Hi p gE ((M.keepers.take i).flatMap (eW (aa M) M.nexts k))) ⟨none,none,none,none,[],rfl,s1,L1⟩ ?_ ?_ ?_⟩
     . rintro i σ Hi _ ⟨_,_,_,_,_,_,si,_⟩
       exact aq.of (si _ _ hO.hm)
     . rintro i xv σ Hi hx ⟨v3,v4,v5,v6,gE,rfl,si,Li⟩
       have hi:i<M.keepers.length:=by
        have:=(List.getElem?_eq_some_iff.mp hx).1
        rw [List.length_map] at this
        omega
       obtain ⟨t,ht,hT⟩:=a9 hO.hq (i:=i) (List.getElem?_eq_getElem hi)
       have ex:xv=.ref t:=by
        rw [List.getElem?_map,ht] at hx
        exact (Option.some.inj hx).symm
       subst ex
       have bK:=List.getElem_mem hi
       have dv:(M.keepers.take (i+1)).flatMap (eW (aa M) M.nexts k)=(M.keepers.take i).flatMap (eW (aa M) M.nexts k)++eW (aa M) M.nexts k M.keepers[i]:=by
        rw [List.take_succ,List.getElem?_eq_getElem hi,List.flatMap_append]
        simp
       have jI:=iO (f:=eW (aa M) M.nexts k) (n:=2) (λg=>Nat.le_refl _) (M.keepers.take i)
       rw [List.length_take] at jI
       have gp:=Li.each.length
       generalize M.keepers[i]=r at hT bK dv
       have EG:=hM.nx r bK
       have dw:r.1∈aa M:=List.mem_append_left _ (List.mem_append_right _ (List.mem_map.mpr ⟨r,bK,rfl⟩))
       have oT:=hO.same si
       refine ⟨t,_,rfl,aR.of (si _ _ hT),rfl,_,_,rfl,_,_,rfl,rfl,?_⟩
       refine ⟨_,rfl,y,dy,_,rfl,oT.hy,j0,_,rfl,_,rfl,y,dy,sw,kp,gt,mv,of,aa M,_,r.1,k,_,rfl,oT.hy,oT.ho,hM.nd,hM.nm,by omega,by omega,.name dw,(λh=>nomatch h),λH4 s4=>?_⟩
       have j1:=oT.same s4
       refine ⟨_,rfl,y,dy,_,rfl,j1.hy,j0,_,rfl,_,rfl,_,_,rfl,rfl,y,dy,sw,kp,gt,mv,of,aa M,_,_,k-1,_,(by rw [show ((k-1:Nat):Int)=(k:Int)-1 by omega]; rfl),j1.hy,j1.ho,hM.nd,hM.nm,by omega,by omega,.of hM.nm EG,(λh=>nomatch h),λH5 s5=>?_⟩
       have Nz:=s4.trans s5
       have NA:LL H H5 p gE ((M.keepers.take i).flatMap (eW (aa M) M.nexts k)):=⟨Nz _ _ Li.top,Paired.bh Li.each λ_ _ e=>Nz _ _ e,Li.new,Li.pn,Li.np⟩
       have em:eW (aa M) M.nexts k r=[[-(a7 (aa M) k r.1),aX (aa M) (k-1) (cg M.nexts r.1)],[a7 (aa M) k r.1,-(aX (aa M) (k-1) (cg M.nexts r.1))]]:=rfl
       rw [em] at dv
       generalize a7 (aa M) k r.1=n1 at dv ⊢
       generalize aX (aa M) (k-1) (cg M.nexts r.1)=n2 at dv ⊢
       refine ⟨_,rfl,.inl ⟨rfl,_,aq.of NA.top⟩,_,rfl,_,rfl,_,rfl,(by show 2<=sizeLine; decide),λt1 IY=>?_⟩
       have z1:aj H5 (upd H5 t1 (.lst [.int (-n1),.int n2])):=aj.ao IY
       have w1:(upd H5 t1 (.lst [.int (-n1),.int n2])) t1=some (.lst ([-n1,n2].map V.int)):=ag
       generalize upd H5 t1 (.lst [.int (-n1),.int n2])=H6 at z1 w1 ⊢
       refine ⟨_,rfl,_,rfl,_,rfl,(by show 2<=sizeLine; decide),λt2 uJ=>?_⟩
       have z2:aj H6 (upd H6 t2 (.lst [.int n1,.int (-n2)])):=aj.ao uJ
       have w2:(upd H6 t2 (.lst [.int n1,.int (-n2)])) t2=some (.lst ([n1,-n2].map V.int)):=ag
       generalize upd H6 t2 (.lst [.int n1,.int (-n2)])=H7 at z2 w2 ⊢
       refine ⟨(by show 2<=sizeLine; decide),λq hq=>?_⟩
       have z3:aj H7 (upd H7 q (.lst [.ref t1,.ref t2])):=aj.ao hq
       have w3:(upd H7 q (.lst [.ref t1,.ref t2])) q=some (.lst ([t1,t2].map V.ref)):=ag
       generalize upd H7 q (.lst [.ref t1,.ref t2])=H8 at z3 w3 ⊢
       have TU:=z1.trans (z2.trans z3)
       have hL:LL H5 H8 q [t1,t2] [[-n1,n2],[n1,-n2]]:=by
        refine ⟨w3,.cons (z3 _ _ (z2 _ _ w1)) (.cons (z3 _ _ w2) .nil),λb hb=>?_,(z1.trans z2).free hq,λhm=>?_⟩
        . rcases List.mem_cons.mp hb with rfl | hb
          . exact IY
          . rw [List.mem_singleton.mp hb]
            exact z1.free uJ
        . rcases List.mem_cons.mp hm with rfl | hm
          . rw [z2 _ _ w1] at hq
            cases hq
          . rw [List.mem_singleton.mp hm] at hq
            rw [w2] at hq
            cases hq
       refine ⟨p,q,_,_,rfl,rfl,TU _ _ NA.top,hL.top,(by rw [List.length_map]; show gE.length+2<=sizeLine; exact Nat.le_of_lt (small (by omega))),?_⟩
       obtain ⟨b1,b2⟩:=NA.ext (si.trans Nz) TU hL
       refine ⟨_,_,_,_,gE++[t1,t2],rfl,b2,?_⟩
       rw [dv]
       exact b1
     . rintro σ Hi ⟨v3,v4,v5,v6,gE,rfl,si,Li⟩
       rw [List.length_map,lu,List.take_length] at Li
       exact rest Hi gE v3 v4 v5 v6 si Li
   . have h0:k=0:=by
      have:¬ (0<(k:Int)):=λq=>h (decide_eq_true q)
      omega
     rw [if_pos h0] at rest
     exact rest H1 [] none none none none s1 L1
end
end Gen
namespace Gen
open PySem L2
abbrev vC:Stmt:=inClass (top 8) 3
abbrev qM:Stmt:=inClass (top 8) 6
abbrev qN:Stmt:=inClass (top 8) 7
abbrev nq:Stmt:=inClass (top 8) 8
def cR (M:aN) (c:Nat):List (List Int):=dY (aa M) M.keepers++(List.range c).flatMap (qf M)
theorem vD {M:aN}(h:Sm M) (k:Nat):(qf M k).length<=220:=by
 unfold qf
 rw [List.length_append]
 have h1:=iO (f:=eW (aa M) M.nexts k) (n:=2) (λ_=>Nat.le_refl _) M.keepers
 have h2:=iO (f:=i8 (aa M) k) (n:=3) (λg=>Nw _ _ _) M.gates
 have:=h.n2
 have:=h.n3
 split
 . rw [List.length_nil]
   omega
 . omega
inductive Fy (C2:Addr) (vs:List V) (H:Hp) (Q:VK):Prop
 | mk (y dy sw kp gt mv of:Addr) (ts us:List Addr) (c:Nat) (M:aN) (h1:vs=[.ref y]) (h2:SO C2 H y dy sw kp gt mv of ts us c M) (h3:Sm M) (h4:c<=20) (h5:∀p us H',aj H H'->LL H H' p us (cR M c)->Q (.ref p) H'):Fy C2 vs H Q
def Dt (C2:Addr):Sp:=λvs H Q _=>Fy C2 vs H Q
abbrev nCS:List Str:=["self", "told", "k"]
section
variable {P:Program}{w:World}{K:W.Frag}{mg:Str->Option Value}{base:Heap}{C2:Addr}
theorem Hr:aQ nCS ["self"] (au vC):=⟨rfl,rfl,rfl,by decide +kernel,rfl,by decide +kernel,by decide +kernel⟩
theorem NB {f fF fC:Addr}{fd dF dC:FuncData}(F:cC K "clauses" "Steps.clauses" vC f fd) (T2:iF K mg C2) (T:Own mg)
 (gF:aw P w K mg base aD 3 fF dF ["self"] (zS C2)) (mF:Meth K C2 "first_clauses" fF) (bF:Binds K dF ["self"] [])
 (gC:aw P w K mg base aD 3 fC dC ["self", "k"] (Ds C2)) (mC:Meth K C2 "clauses_of" fC) (bC:Binds K dC ["self", "k"] []):aw P w K mg base aD 4 f fd ["self"] (Dt C2):=by
 refine F.ok Hr (λvs H Q E h=>?_) (λcdv A outer s H vs Q E hr h=>?_)
 . obtain ⟨y,dy,sw,kp,gt,mv,of,ts,us,c,M,rfl,_⟩:=h
   rfl
 . obtain ⟨y,dy,sw,kp,gt,mv,of,ts,us,c,M,rfl,hO,hM,hc,kk⟩:=h
   refine ⟨_,ak (aE (i:=1) Hr.nd rfl (Or.inl rfl) (fZ (pv 0) T2.cl mF gF hr bF .nil az))
    (ak (cc PassesOwn.never rfl (cO rfl T.range (ae (cF (pv 0) rfl) ah)) (ax (i:=2) Hr.nd rfl (Or.inl rfl))
     (ar (dg (eD PySem.F.plainAttrs_list PySem.F.slot_list_extend PySem.F.type_list_extend pB (pv 1) (ae (dh (pv 0) T2.cl mC gC hr bC .nil az (ae (pv 2) ah)) ah)))))
    (ar (aT (pv 1)))),?_⟩
   have WA:(b8 (c:Int) sw kp gt mv of).lookup ("first_clauses" : Str)=none:=ib _ _ _ _ _ _ (by decide +kernel) (by decide +kernel) (by decide +kernel) (by decide +kernel) (by decide +kernel) (by decide +kernel)
   have WB:(b8 (c:Int) sw kp gt mv of).lookup ("clauses_of" : Str)=none:=ib _ _ _ _ _ _ (by decide +kernel) (by decide +kernel) (by decide +kernel) (by decide +kernel) (by decide +kernel) (by decide +kernel)
   have fi:=hM.n2
   refine ⟨_,rfl,y,dy,_,rfl,hO.hy,WA,y,dy,sw,kp,gt,mv,of,ts,us,c,M,rfl,hO,hM,λp NC H1 s1 L1=>?_⟩
   have qg:=hO.same s1
   refine ⟨_,rfl,y,C2,dy,_,_,rfl,qg.hy,T2.cl,T2.n1,Hl ..,_,rfl,by omega,Int.lt_trans (by omega:(c:Int)<1000) (by decide),eI (n:=((c:Int)).toNat) (λi σ Hi=>∃(v2:Option V) (gE:List Addr),σ=[some (.ref y),some (.ref p),v2]/\aj H Hi/\LL H Hi p gE (dY (aa M) M.keepers++(List.range i).flatMap (qf M))) ⟨none,NC,rfl,s1,by simpa using L1⟩ ?_ ?_⟩
   . rintro i σ Hi hi ⟨v2,gE,rfl,si,Li⟩
     have oT:=hO.same si
     have gp:=Li.each.length
     have h1:=ox (aa M) M.keepers
     have h2:=iO (f:=qf M) (n:=220) (λk=>vD hM k) (List.range i)
     rw [List.length_range] at h2
     rw [List.length_append] at gp
     have h3:(dY (aa M) M.keepers).length<=21:=by unfold dY; rw [List.length_cons]; omega
     refine ⟨_,rfl,.inl ⟨rfl,_,aq.of Li.top⟩,_,rfl,y,dy,_,rfl,oT.hy,WB,_,rfl,y,dy,sw,kp,gt,mv,of,ts,us,c,M,i,(by show [V.ref y,V.int (0+(i:Int))]=_; rw [Int.zero_add]),oT,hM,by omega,λq qs H5 s5 hL=>?_⟩
     have oS:=hL.each.length
     have h4:=vD hM i
     refine ⟨p,q,_,_,rfl,rfl,s5 _ _ Li.top,hL.top,(by rw [List.length_map,List.length_map]; exact Nat.le_of_lt (Nat.lt_of_le_of_lt (by omega:gE.length+qs.length<=10000) (by decide))),?_⟩
     obtain ⟨b1,b2⟩:=Li.ext si s5 hL
     refine ⟨_,gE++qs,rfl,b2,?_⟩
     rw [List.range_succ,List.flatMap_append,← List.append_assoc]
     simpa using b1
   . rintro σ Hi ⟨v2,gE,rfl,si,Li⟩
     rw [show ((c:Int)).toNat=c by omega] at Li
     exact ⟨_,rfl,kk p gE Hi si Li⟩
end
end Gen
namespace Gen
open PySem L2
def fK (bits:List Int) (names:List Str) (k:Nat) (x:Str):Int:=bits.getD (gT names x+1+k*names.length) 0
theorem nr:∀{names:List Str}{z:Str},z∈names->gT names z<names.length:=λ{names z} h=>by
 have:=(List.getElem?_eq_some_iff.mp (iN h)).1
 exact this
theorem IZ {bits:List Int}{names:List Str}{k c:Nat}{x:Str}(hl:bits.length=1+c*names.length) (hk:k<c) (hx:x∈names):iq (bits.map V.int) (a7 names k x-1)=some (.int (fK bits names k x)):=by
 have h1:=nr hx
 have h2:(k+1)*names.length<=c*names.length:=Nat.mul_le_mul_right _ hk
 rw [Nat.succ_mul] at h2
 have hi:gT names x+1+k*names.length<bits.length:=by omega
 have e:a7 names k x-1=((gT names x+1+k*names.length:Nat):Int):=by
  unfold a7
  rw [Int.natCast_add,Int.natCast_add,Int.natCast_mul]
  omega
 rw [e]
 refine cV ?_
 rw [List.getElem?_map,List.getElem?_eq_getElem hi]
 unfold fK
 rw [List.getD_eq_getElem?_getD,List.getElem?_eq_getElem hi]
 rfl
inductive B6 (C2:Addr) (vs:List V) (H:Hp) (Q:VK):Prop
 | mk (y dy sw kp gt mv of ch:Addr) (ts us:List Addr) (c:Nat) (M:aN) (k:Nat) (bits:List Int) (h1:vs=[.ref y,.ref ch,.int (k:Int)]) (h2:SO C2 H y dy sw kp gt mv of ts us c M) (h3:Sm M) (h4:k<c) (h5:c<=20) (h6:H ch=some (.lst (bits.map V.int))) (h7:bits.length=1+c*(aa M).length) (h8:∀t H',aj H H'->H' t=some (.tup ((M.switches.map (fK bits (aa M) k)).map V.int))->Q (.ref t) H'):B6 C2 vs H Q
def zU (C2:Addr):Sp:=λvs H Q _=>B6 C2 vs H Q
abbrev lU:List Str:=["self", "choice", "k"]
theorem WC:(["switch", "choice", "self", "k"]:List Str).Nodup:=by decide +kernel
section
variable {P:Program}{w:World}{K:W.Frag}{mg:Str->Option Value}{base:Heap}{C2:Addr}
theorem WD:aQ lU lU (au qN):=⟨rfl,rfl,rfl,by decide +kernel,rfl,by decide +kernel,by decide +kernel⟩
theorem K2 {f fN:Addr}{fd dN:FuncData}(F:cC K "input_at" "Steps.input_at" qN f fd) (T2:iF K mg C2) (O2:eY mg)
 (gN:aw P w K mg base aD 2 fN dN iM (iw C2 true)) (mN:Meth K C2 "number" fN) (bN:Binds K dN iM []):aw P w K mg base aD 3 f fd lU (zU C2):=by
 refine F.ok WD (λvs H Q E h=>?_) (λcdv A outer s H vs Q E hr h=>?_)
 . obtain ⟨y,dy,sw,kp,gt,mv,of,ch,ts,us,c,M,k,bits,rfl,_⟩:=h
   rfl
 . obtain ⟨y,dy,sw,kp,gt,mv,of,ch,ts,us,c,M,k,bits,rfl,hO,hM,hk,hc,iQ,hl,kk⟩:=h
   refine ⟨_,ar (aT (aL jV (by rfl) O2.tuple PyProof.Rows.boot_tuple (ae (cX (N:=["switch", "choice", "self", "k"]) (js:=[none,some 1,some 0,some 2]) (by kernel_rfl) rfl (bU (cF (pv 0) rfl)) (λ_ _ _ _ _ _=>ax (i:=0) WC rfl (Or.inl rfl) (.inr rfl)) (λ_ _ _ _ _ _=>bj)
    (λ_ _ _ _ _ _=>bz (r:=jl K) bJ (pv 1) (aH jC (dh (pv 2) T2.cl mN gN hr bN .nil az (ae (pv 0) (ae (pv 3) ah))) av) (λ_ _=>rfl))) ah))),?_⟩
   have j0:(b8 (c:Int) sw kp gt mv of).lookup ("number" : Str)=none:=ib _ _ _ _ _ _ (by decide +kernel) (by decide +kernel) (by decide +kernel) (by decide +kernel) (by decide +kernel) (by decide +kernel)
   have Nu:=hM.len
   have zu:=hM.n1
   refine ⟨_,rfl,y,C2,dy,_,_,rfl,hO.hy,T2.cl,T2.n2,Wz ..,sw,rfl,⟨_,aq.of hO.hs⟩,λD hD=>?_⟩
   refine cY M.switches.length (λi acc σ H3=>acc=((M.switches.take i).map (fK bits (aa M) k)).map V.int/\(∃u,σ=[u,some (.ref ch),some (.ref y),some (.int (k:Int))])/\aj H H3) ⟨rfl,⟨none,rfl⟩,aj.ao hD⟩ ag ?_ ?_
   . rintro acc σ H3 aW ⟨rfl,_,s3⟩
     rw [List.take_length] at aW
     refine ⟨⟨_,aq.of (s3 _ _ hO.hs),by rw [List.length_map]; exact Nat.le_refl _⟩,D,_,rfl,.inl ⟨aq.of aW,λt ht=>?_⟩⟩
     exact kk t _ (s3.trans (aj.ao ht)) ag
   . rintro i acc σ H3 hi aW ⟨rfl,⟨u,rfl⟩,s3⟩
     have gy:M.switches[i]?=some M.switches[i]:=List.getElem?_eq_getElem hi
     have ei:(M.switches.map V.str)[i]?=some (.str M.switches[i]):=by rw [List.getElem?_map,gy]; rfl
     refine ⟨⟨_,_,aq.of (s3 _ _ hO.hs),ei⟩,?_⟩
     rintro x' H' ⟨rfl,cT⟩
     have ex:=cT _ (aq.of (s3 _ _ hO.hs))
     rw [ei] at ex
     cases ex
     refine cA ?_
     have dw:M.switches[i]∈aa M:=List.mem_append_left _ (List.mem_append_left _ (List.getElem_mem hi))
     have rZ:=hO.same s3
     refine ⟨_,rfl,_,rfl,y,dy,_,rfl,rZ.hy,j0,_,rfl,_,rfl,y,dy,sw,kp,gt,mv,of,aa M,_,M.switches[i],k,_,rfl,rZ.hy,rZ.ho,hM.nd,hM.nm,by omega,by omega,.name dw,(λh=>nomatch h),λH4 s4=>?_⟩
     refine ⟨_,_,rfl,rfl,ch,_,_,_,rfl,rfl,aq.of (s4 _ _ (s3 _ _ iQ)),IZ hl hk dw,?_⟩
     refine ⟨_,s4 _ _ aW,?_,bo hi ag ⟨?_,⟨_,rfl⟩,λy o hy=>?_⟩⟩
     . rw [List.length_map,List.length_map,List.length_take]
       exact small (by omega)
     . rw [List.take_succ,gy,List.map_append,List.map_append]
       rfl
     . rw [ai (af hy hD)]
       exact s4 _ _ (s3 y o hy)
end
end Gen
namespace Gen
open PySem L2
inductive B7 (C2:Addr) (vs:List V) (H:Hp) (Q:VK):Prop
 | mk (y dy sw kp gt mv of ch:Addr) (ts us:List Addr) (c:Nat) (M:aN) (k:Nat) (bits:List Int) (h1:vs=[.ref y,.ref ch,.int (k:Int)]) (h2:SO C2 H y dy sw kp gt mv of ts us c M) (h3:Sm M) (h4:k<c) (h5:c<=20) (h6:H ch=some (.lst (bits.map V.int))) (h7:bits.length=1+c*(aa M).length) (h8:∀t H',aj H H'->H' t=some (.tup (((M.keepers.map (·.1)).map (fK bits (aa M) k)).map V.int))->Q (.ref t) H'):B7 C2 vs H Q
def zV (C2:Addr):Sp:=λvs H Q _=>B7 C2 vs H Q
theorem WE:(["keeper", "choice", "self", "k"]:List Str).Nodup:=by decide +kernel
section
variable {P:Program}{w:World}{K:W.Frag}{mg:Str->Option Value}{base:Heap}{C2:Addr}
theorem WG:aQ lU lU (au qM):=⟨rfl,rfl,rfl,by decide +kernel,rfl,by decide +kernel,by decide +kernel⟩
theorem K3 {f fN:Addr}{fd dN:FuncData}(F:cC K "stand_at" "Steps.stand_at" qM f fd) (T2:iF K mg C2) (O2:eY mg)
 (gN:aw P w K mg base aD 2 fN dN iM (iw C2 true)) (mN:Meth K C2 "number" fN) (bN:Binds K dN iM []):aw P w K mg base aD 3 f fd lU (zV C2):=by
 refine F.ok WG (λvs H Q E h=>?_) (λcdv A outer s H vs Q E hr h=>?_)
 . obtain ⟨y,dy,sw,kp,gt,mv,of,ch,ts,us,c,M,k,bits,rfl,_⟩:=h
   rfl
 . obtain ⟨y,dy,sw,kp,gt,mv,of,ch,ts,us,c,M,k,bits,rfl,hO,hM,hk,hc,iQ,hl,kk⟩:=h
   refine ⟨_,ar (aT (aL jV (by rfl) O2.tuple PyProof.Rows.boot_tuple (ae (vf (cX (N:=["keeper", "choice", "self", "k"]) (js:=[none,some 1,some 0,some 2]) (by kernel_rfl) rfl (vg (cF (pv 0) rfl)) (λ_ _ _ _ _ _=>ax (i:=0) WE rfl (Or.inl rfl) (.inr rfl)) (λ_ _ _ _ _ _=>bj)
    (λ_ _ _ _ _ _=>bz (r:=jl K) bJ (pv 1) (aH jC (dh (pv 2) T2.cl mN gN hr bN .nil az (ae (pv 0) (ae (pv 3) ah))) av) (λ_ _=>rfl)))) ah))),?_⟩
   have j0:(b8 (c:Int) sw kp gt mv of).lookup ("number" : Str)=none:=ib _ _ _ _ _ _ (by decide +kernel) (by decide +kernel) (by decide +kernel) (by decide +kernel) (by decide +kernel) (by decide +kernel)
   have Nu:=hM.len
   have fi:=hM.n2
   have lk:(b7 M.keepers).length=M.keepers.length:=List.length_map _
   have IX:y≠kp:=bu hO.hy hO.hk (by intro z; cases z)
   have nck:ch≠kp:=bu iQ hO.hk (by intro z; cases z)
   refine ⟨_,rfl,y,C2,dy,_,_,rfl,hO.hy,T2.cl,T2.n3,Np ..,kp,b7 M.keepers,rfl,hO.hk,λo D hD=>?_⟩
   have Fz:D≠kp:=λe=>by rw [e,ag] at hD; cases hD
   have Be:H D=none:=by rw [ai Fz] at hD; exact hD
   have fz:(upd H kp (.cz o (.dK (b7 M.keepers)))) kp=some (.cz o (.dK (b7 M.keepers))):=ag
   have ot:∀b u,H b=some u->b≠kp->(upd H kp (.cz o (.dK (b7 M.keepers)))) b=some u:=λb u hb nb=>by rw [ai nb]; exact hb
   generalize upd H kp (.cz o (.dK (b7 M.keepers)))=H1 at hD fz ot ⊢
   refine cY M.keepers.length (λi acc σ H3=>acc=(((M.keepers.take i).map (·.1)).map (fK bits (aa M) k)).map V.int/\(∃u,σ=[u,some (.ref ch),some (.ref y),some (.int (k:Int))])/\aj H1 H3) ⟨rfl,⟨none,rfl⟩,aj.ao hD⟩ ag ?_ ?_
   . rintro acc σ H3 aW ⟨rfl,_,s3⟩
     rw [List.take_length] at aW
     refine ⟨⟨s3 _ _ fz,lk.symm⟩,kp,o,_,s3 _ _ fz,(λo' u e=>by have e':H kp=_:=e; rw [hO.hk] at e'; cases e'),?_⟩
     have s4:aj H (upd H3 kp (.dK (b7 M.keepers))):=λb u hb=>by
      by_cases e:b=kp
      . rw [e] at hb ⊢
        rw [ag,← hb,hO.hk]
      . rw [ai e]
        exact s3 _ _ (ot b u hb e)
     have uo:(upd H3 kp (.dK (b7 M.keepers))) D=some (.lst (((M.keepers.map (·.1)).map (fK bits (aa M) k)).map V.int)):=by rw [ai Fz]; exact aW
     generalize upd H3 kp (.dK (b7 M.keepers))=H4 at s4 uo ⊢
     exact ⟨D,_,rfl,.inl ⟨aq.of uo,λt ht=>kk t _ (s4.trans (aj.ao ht)) ag⟩⟩
   . rintro i acc σ H3 hi aW ⟨rfl,⟨u,rfl⟩,s3⟩
     have gy:M.keepers[i]?=some M.keepers[i]:=List.getElem?_eq_getElem hi
     have ei:(b7 M.keepers)[i]?=some ((.inr M.keepers[i].1:Key),M.keepers[i].2):=by unfold b7; rw [List.getElem?_map,gy]; rfl
     refine ⟨⟨s3 _ _ fz,by rw [lk]; exact hi⟩,?_⟩
     rintro x' H' ⟨rfl,kv,gq,rfl⟩
     rw [ei] at gq
     cases gq
     refine cA ?_
     have dw:M.keepers[i].1∈aa M:=List.mem_append_left _ (List.mem_append_right _ (List.mem_map.mpr ⟨_,List.getElem_mem hi,rfl⟩))
     have y3:=s3 _ _ (ot _ _ hO.hy IX)
     have o3:=s3 _ _ (ot _ _ hO.ho hO.nk)
     refine ⟨_,rfl,_,rfl,y,dy,_,rfl,y3,j0,_,rfl,_,rfl,y,dy,sw,kp,gt,mv,of,aa M,_,M.keepers[i].1,k,_,rfl,y3,o3,hM.nd,hM.nm,by omega,by omega,.name dw,(λh=>nomatch h),λH4 s4=>?_⟩
     refine ⟨_,_,rfl,rfl,ch,_,_,_,rfl,rfl,aq.of (s4 _ _ (s3 _ _ (ot _ _ iQ nck))),IZ hl hk dw,?_⟩
     refine ⟨_,s4 _ _ aW,?_,bo hi ag ⟨?_,⟨_,rfl⟩,λy o hy=>?_⟩⟩
     . rw [List.length_map,List.length_map,List.length_map,List.length_take]
       exact small (by omega)
     . rw [List.take_succ,gy,List.map_append,List.map_append,List.map_append]
       rfl
     . rw [ai (af hy hD)]
       exact s4 _ _ (s3 y o hy)
end
end Gen
namespace Gen
open PySem L2
inductive zW (C2:Addr) (vs:List V) (H:Hp) (Q:VK):Prop
 | mk (y dy sw kp gt mv of ch:Addr) (ts us:List Addr) (c:Nat) (M:aN) (bits:List Int) (h1:vs=[.ref y,.ref ch]) (h2:SO C2 H y dy sw kp gt mv of ts us c M) (h3:Sm M) (h4:1<=c) (h5:c<=20) (h6:H ch=some (.lst (bits.map V.int))) (h7:bits.length=1+c*(aa M).length) (h8:∀(r t q:Addr) (qs:List Addr) H',aj H H'->H' r=some (.tup [.ref t,.ref q])->H' t=some (.tup (((M.keepers.map (·.1)).map (fK bits (aa M) 0)).map V.int))->H' q=some (.lst (qs.map V.ref))->Paired (λu (k:Nat)=>H' u=some (.tup ((M.switches.map (fK bits (aa M) k)).map V.int))) qs (List.range c)->Q (.ref r) H'):zW C2 vs H Q
def vE (C2:Addr):Sp:=λvs H Q _=>zW C2 vs H Q
theorem QT:(["k", "self", "choice"]:List Str).Nodup:=by decide +kernel
section
variable {P:Program}{w:World}{K:W.Frag}{mg:Str->Option Value}{base:Heap}{C2:Addr}
theorem WH:aQ ["self", "choice"] ["self", "choice"] (au nq):=⟨rfl,rfl,rfl,by decide +kernel,rfl,by decide +kernel,by decide +kernel⟩
theorem Hs {f fS fI:Addr}{fd dS dI:FuncData}(F:cC K "run_of" "Steps.run_of" nq f fd) (T2:iF K mg C2) (T:Own mg)
 (gS:aw P w K mg base aD 3 fS dS lU (zV C2)) (mS:Meth K C2 "stand_at" fS) (bS:Binds K dS lU [])
 (gI:aw P w K mg base aD 3 fI dI lU (zU C2)) (mI:Meth K C2 "input_at" fI) (bI:Binds K dI lU []):aw P w K mg base aD 4 f fd ["self", "choice"] (vE C2):=by
 refine F.ok WH (λvs H Q E h=>?_) (λcdv A outer s H vs Q E hr h=>?_)
 . obtain ⟨y,dy,sw,kp,gt,mv,of,ch,ts,us,c,M,bits,rfl,_⟩:=h
   rfl
 . obtain ⟨y,dy,sw,kp,gt,mv,of,ch,ts,us,c,M,bits,rfl,hO,hM,rF,hc,iQ,hl,kk⟩:=h
   refine ⟨_,ar (aT (eh (ae (dh (pv 0) T2.cl mS gS hr bS .nil az (ae (pv 1) (ae av ah))) (ae
    (cX (N:=["k", "self", "choice"]) (js:=[none,some 0,some 1]) (by kernel_rfl) rfl (cO rfl T.range (ae (cF (pv 0) rfl) ah)) (λ_ _ _ _ _ _=>ax (i:=0) QT rfl (Or.inl rfl) (.inr rfl)) (λ_ _ _ _ _ _=>bj)
     (λ_ _ _ _ _ _=>dh (pv 1) T2.cl mI gI hr bI .nil az (ae (pv 2) (ae (pv 0) ah)))) ah)))),?_⟩
   have mn1:(b8 (c:Int) sw kp gt mv of).lookup ("stand_at" : Str)=none:=ib _ _ _ _ _ _ (by decide +kernel) (by decide +kernel) (by decide +kernel) (by decide +kernel) (by decide +kernel) (by decide +kernel)
   have mn2:(b8 (c:Int) sw kp gt mv of).lookup ("input_at" : Str)=none:=ib _ _ _ _ _ _ (by decide +kernel) (by decide +kernel) (by decide +kernel) (by decide +kernel) (by decide +kernel) (by decide +kernel)
   refine ⟨_,rfl,y,dy,_,rfl,hO.hy,mn1,_,rfl,y,dy,sw,kp,gt,mv,of,ch,ts,us,c,M,0,bits,rfl,hO,hM,by omega,hc,iQ,hl,λt H1 s1 IY=>?_⟩
   have qg:=hO.same s1
   refine ⟨_,rfl,y,C2,dy,_,_,rfl,qg.hy,T2.cl,T2.n1,Hl ..,_,rfl,by omega,Int.lt_trans (by omega:(c:Int)<1000) (by decide),λD hD=>?_⟩
   rw [show ((c:Int)).toNat=c by omega]
   refine cY c (λi acc σ H3=>(∃qs:List Addr,acc=qs.map V.ref/\Paired (λu (k:Nat)=>H3 u=some (.tup ((M.switches.map (fK bits (aa M) k)).map V.int))) qs (List.range i)/\qs.length=i)/\(∃u,σ=[u,some (.ref y),some (.ref ch)])/\aj H1 H3) ⟨⟨[],rfl,.nil,rfl⟩,⟨none,rfl⟩,aj.ao hD⟩ ag ?_ ?_
   . rintro acc σ H3 aW ⟨⟨qs,rfl,nu,_⟩,_,s3⟩
     refine ⟨Nat.le_refl _,(by show 2<=sizeLine; decide),λr hr=>?_⟩
     have s4:aj H3 (upd H3 r (.tup [.ref t,.ref D])):=aj.ao hr
     exact kk r t D qs _ (s1.trans (s3.trans s4)) ag (s4 _ _ (s3 _ _ IY)) (s4 _ _ aW) (Paired.bh nu λ_ _ e=>s4 _ _ e)
   . rintro i acc σ H3 hi aW ⟨⟨qs,rfl,nu,oS⟩,⟨u,rfl⟩,s3⟩
     refine ⟨hi,?_⟩
     rintro x H' ⟨rfl,rfl⟩
     refine cA ?_
     have rZ:=qg.same s3
     refine ⟨_,rfl,y,dy,_,rfl,rZ.hy,mn2,_,rfl,_,rfl,y,dy,sw,kp,gt,mv,of,ch,ts,us,c,M,i,bits,(by show [V.ref y,V.ref ch,V.int (0+(i:Int))]=_; rw [Int.zero_add]),rZ,hM,hi,hc,s3 _ _ (s1 _ _ iQ),hl,λv H4 s4 hv=>?_⟩
     have uo:=s4 _ _ aW
     have nt:∀{b:Addr}{xs:List V},H4 b=some (.tup xs)->b≠D:=λhb=>bu hb uo (by intro z; cases z)
     refine ⟨_,uo,(by rw [List.length_map]; exact small (by omega)),bo hi ag ⟨⟨qs++[v],by rw [List.map_append]; rfl,?_,by rw [List.length_append,List.length_singleton,oS]⟩,⟨_,rfl⟩,λy o hy=>?_⟩⟩
     . rw [List.range_succ]
       exact bE (Paired.bh nu λa b e=>by have:=s4 _ _ e; rw [ai (nt this)]; exact this) (.cons (by rw [ai (nt hv)]; exact hv) .nil)
     . rw [ai (af hy hD)]
       exact s4 _ _ (s3 y o hy)
end
end Gen
namespace Gen
open PySem L2
abbrev qO:Stmt:=top 27
def dz (l:List (Int×Int)):List (Key×V):=l.map λr=>((.inl r.1:Key),V.int r.2)
theorem zX {l:List (Int×Int)}{n:Int}(h:n∉l.map (·.1)):cq (dz l) (.inl n)=none:=by
 induction l with
 | nil=>rfl
 | cons r l ih=>
  have h1:r.1≠n:=λe=>h (by rw [← e]; exact List.mem_cons_self)
  show cq ((.inl r.1,V.int r.2)::dz l) (.inl n)=none
  rw [f7 (λq=>h1 (Sum.inl.inj q))]
  exact ih λhm=>h (List.mem_cons_of_mem _ hm)
theorem B8 {l:List (Int×Int)}{n b:Int}(h:n∉l.map (·.1)):putK (dz l) (.inl n) (.int b)=dz (l++[(n,b)]):=by
 rw [nK _ (zX h)]
 unfold dz
 rw [List.map_append]
 rfl
inductive B9 (vs:List V) (H:Hp) (Q:VK):Prop
 | mk (d:Addr) (l:List (Int×Int)) (n b:Int) (h1:vs=[.ref d,.int n,.int b]) (h2:H d=some (.dK (dz l))) (h3:0<n) (h4:n∉l.map (·.1)) (h5:l.length<=1000) (h6:Q (.bl true) (upd H d (.dK (dz (l++[(n,b)]))))):B9 vs H Q
def zY:Sp:=λvs H Q _=>B9 vs H Q
abbrev nWt:List Str:=["_law_told", "_law_number", "_law_bit_here", "_law_want"]
abbrev Ca:List Str:=["_law_told", "_law_number", "_law_bit_here"]
section
variable {P:Program}{w:World}{K:W.Frag}{mg:Str->Option Value}{base:Heap}
theorem ND:aQ nWt Ca (au qO):=⟨rfl,rfl,rfl,by decide +kernel,rfl,by decide +kernel,by decide +kernel⟩
theorem K4 {f:Addr}{fd:FuncData}(F:cC K "_law_wanted" "_law_wanted" qO f fd) (gU:mg "abs" = none):aw P w K mg base aD 1 f fd Ca zY:=by
 refine F.ok ND (λvs H Q E h=>?_) (λcdv A outer s H vs Q E hr h=>?_)
 . obtain ⟨d,l,n,b,rfl,_⟩:=h
   rfl
 . obtain ⟨d,l,n,b,rfl,hd,hn,kT,hl,kk⟩:=h
   have hu:=eZ hr
   refine ⟨_,ak (aE (i:=3) ND.nd rfl (Or.inl rfl) (sk (a8 lC (pv 1) av (bp _)) (pv 2) (aH jC av (pv 2))))
    (ak (bY (a8 xB (sD hu (pv 0) (aU fU (by rfl) gU PyProof.Rows.boot_abs (ae (pv 1) ah)) (pv 3) ⟨rfl,rfl,rfl,rfl⟩) (pv 3) (bp _)) (ar (aT j3)) aY)
    (ak (jj hu (pv 0) (aU fU (by rfl) gU PyProof.Rows.boot_abs (ae (pv 1) ah)) (pv 3) rfl)
    (ar (aT j3)))),?_⟩
   refine ⟨_,rfl,_,_,rfl,rfl,_,rfl,gc (decide_eq_true hn) ⟨_,rfl,?_⟩⟩
   have ea:(if n<0 then -n else n)=n:=if_neg (by omega)
   refine ⟨_,rfl,d,rfl,.inl ⟨_,.inl hd⟩,_,rfl,n,rfl,?_⟩
   rw [ea]
   refine ⟨_,rfl,_,cw.k (k:=.inl n) hd,?_⟩
   rw [zX kT]
   refine ⟨_,rfl,rfl,_,rfl,cE (by rw [decide_eq_true (show (none:Option V).getD (V.int b)=V.int b from rfl)]; rfl) ?_⟩
   refine ⟨_,rfl,_,rfl,_,rfl,n,rfl,?_⟩
   rw [ea]
   refine ⟨d,_,rfl,kE.k (k:=.inl n) hd (by unfold dz; rw [List.length_map]; exact small (by omega)),?_⟩
   rw [B8 kT]
   exact kk
end
end Gen
namespace Gen
open PySem L2
def b9 (l:List (Int×Int)) (n:Int):Option Int:=(l.find? λr=>decide (r.1=n)).map (·.2)
def aF (k:Int):Int:=if k<0 then -k else k
def fQ (k:Int):Int:=if decide (0<k)=true then 1 else 0
theorem iH (r:Int×Int) (l:List (Int×Int)) (n:Int):b9 (r::l) n=if r.1=n then some r.2 else b9 l n:=by
 unfold b9
 by_cases h:r.1=n
 . rw [List.find?_cons_of_pos (by simpa using h),if_pos h]
   rfl
 . rw [List.find?_cons_of_neg (by simpa using h),if_neg h]
theorem tf {l:List (Int×Int)}{n:Int} : b9 l n=none ↔ n∉l.map (·.1):=by
 induction l with
 | nil=>simp [b9]
 | cons r l ih=>
  rw [iH,List.map_cons,List.mem_cons,not_or]
  by_cases h:r.1=n
  . rw [if_pos h]
    simp [h]
  . rw [if_neg h,ih]
    exact ⟨λq=>⟨λe=>h e.symm,q⟩,λq=>q.2⟩
theorem vF {l:List (Int×Int)}{n b m:Int}(h:n∉l.map (·.1)):b9 (l++[(n,b)]) m=if n=m then some b else b9 l m:=by
 induction l with
 | nil=>rw [List.nil_append,iH]
 | cons r l ih=>
  rw [List.map_cons,List.mem_cons,not_or] at h
  rw [List.cons_append,iH,iH,ih h.2]
  by_cases e:r.1=m
  . rw [if_pos e,if_pos e,if_neg (λq=>h.1 (q.trans e.symm))]
  . rw [if_neg e,if_neg e]
theorem Du (l:List (Int×Int)) (n:Int):cq (dz l) (.inl n)=(b9 l n).map V.int:=by
 induction l with
 | nil=>rfl
 | cons r l ih=>
  rw [iH]
  show cq ((.inl r.1,V.int r.2)::dz l) (.inl n)=_
  by_cases h:r.1=n
  . rw [gw (by rw [h]),if_pos h]
    rfl
  . rw [f7 (λq=>h (Sum.inl.inj q)),if_neg h]
    exact ih
def cM (l:List (Int×Int)) (c:List Int):List Int:=c.filter λk=>decide (b9 l (aF k)=none)
def fo (l:List (Int×Int)) (c:List Int):List Int:=c.filter λk=>decide (b9 l (aF k)=some (fQ k))
def qh (l:List (Int×Int)) (c:List Int):Prop:=(cM l c).length<2->fo l c≠[]
def Sat (v:Int->Int) (cs:List (List Int)):Prop:=∀c∈cs,∃k∈c,v (aF k)=fQ k
def j2 (v:Int->Int) (l:List (Int×Int)):Prop:=∀n b,b9 l n=some b->v n=b
structure i9 (N:Nat) (l:List (Int×Int)):Prop where
 nd:(l.map (·.1)).Nodup
 lo:∀n∈l.map (·.1),1<=n/\n<=(N:Int)
theorem i9.len {N:Nat}{l:List (Int×Int)}(h:i9 N l):l.length<=N:=by
 have hs:l.map (·.1) ⊆ (List.range N).map (λi:Nat=>(i:Int)+1):=λn hn=>by
  obtain ⟨h1,h2⟩:=h.lo n hn
  exact List.mem_map.mpr ⟨n.toNat-1,List.mem_range.mpr (by omega),by omega⟩
 have:=h.nd.length_le_of_subset hs
 simpa using this
theorem i9.put {N:Nat}{l:List (Int×Int)}(h:i9 N l){n b:Int}(hn:n∉l.map (·.1)) (h1:1<=n) (h2:n<=(N:Int)):i9 N (l++[(n,b)]):=by
 refine ⟨?_,λm hm=>?_⟩
 . rw [List.map_append,List.nodup_append]
   refine ⟨h.nd,by simp,λa ha c hc e=>hn ?_⟩
   rw [List.map_singleton,List.mem_singleton] at hc
   have eQ:c=n:=hc
   rw [← eQ,← e]
   exact ha
 . rw [List.map_append,List.mem_append] at hm
   rcases hm with hm | hm
   . exact h.lo m hm
   . rw [List.map_singleton,List.mem_singleton] at hm
     rw [hm]
     exact ⟨h1,h2⟩
def Ext (l l':List (Int×Int)):Prop:=∀n b,b9 l n=some b->b9 l' n=some b
theorem zZ {v:Int->Int}{l:List (Int×Int)}{c:List Int}(ha:j2 v l) (ht:fo l c=[]) (hs:∃k∈c,v (aF k)=fQ k):∃k∈cM l c,v (aF k)=fQ k:=by
 obtain ⟨k,hk,e⟩:=hs
 refine ⟨k,?_,e⟩
 unfold cM
 rw [List.mem_filter]
 refine ⟨hk,decide_eq_true ?_⟩
 cases hb:b9 l (aF k) with
 | none=>rfl
 | some b=>
  have hv:=ha _ _ hb
  rw [e] at hv
  have:k∈fo l c:=by
   unfold fo
   rw [List.mem_filter]
   exact ⟨hk,decide_eq_true (by rw [hb,hv])⟩
  rw [ht] at this
  cases this
theorem qi {l:List (Int×Int)}{c:List Int}{k:Int}(h:k∈cM l c):k∈c/\aF k∉l.map (·.1):=by
 unfold cM at h
 rw [List.mem_filter] at h
 exact ⟨h.1,tf.mp (of_decide_eq_true h.2)⟩
theorem K5 {v:Int->Int}{l:List (Int×Int)}{c:List Int}{k:Int}(ha:j2 v l) (ht:fo l c=[]) (hl:cM l c=[k]) (hs:∃k∈c,v (aF k)=fQ k):j2 v (l++[(aF k,fQ k)]):=by
 obtain ⟨k',gm,e⟩:=zZ ha ht hs
 rw [hl,List.mem_singleton] at gm
 subst gm
 have hn:aF k'∉l.map (·.1):=(qi (c:=c) (by rw [hl]; exact List.mem_singleton_self _)).2
 intro n b hb
 rw [vF hn] at hb
 by_cases en:aF k'=n
 . rw [if_pos en] at hb
   rw [← en,e]
   exact Option.some.inj hb
 . rw [if_neg en] at hb
   exact ha n b hb
theorem NF {v:Int->Int}{l:List (Int×Int)}{c:List Int}(ha:j2 v l) (ht:fo l c=[]) (hl:cM l c=[]) (hs:∃k∈c,v (aF k)=fQ k):False:=by
 obtain ⟨k',gm,e⟩:=zZ ha ht hs
 rw [hl] at gm
 cases gm
theorem K6 {l:List (Int×Int)}{n b:Int}(hn:n∉l.map (·.1)):Ext l (l++[(n,b)]):=λm c hc=>by
 rw [vF hn]
 by_cases e:n=m
 . rw [← e,tf.mpr hn] at hc
   cases hc
 . rw [if_neg e]
   exact hc
structure r8 (N:Nat) (cs:List (List Int)) (told l:List (Int×Int)):Prop where
 ks:i9 N l
 ext:Ext told l
 shut:∀c∈cs,qh l c
 agr:∀v,Sat v cs->j2 v told->j2 v l
 bit:(∀n b,b9 told n=some b->b=0\/b=1)->∀n b,b9 l n=some b->b=0\/b=1
end Gen
namespace L2
open PySem PySem.Spec PyProof.Rows
mutual
inductive Dp (K:W.Frag) (H:Hp):V->PyData->Prop
 | aS:Dp K H .aS .none
 | bl (b):Dp K H (.bl b) (.bool b)
 | int (i):Dp K H (.int i) (.int i)
 | str (x):Dp K H (.str x) (.str x)
 | lst {a xs ds} : aq K H a xs->ny K H xs ds->Dp K H (.ref a) (.list ds)
 | tup {a xs ds} : aR K H a xs->ny K H xs ds->Dp K H (.ref a) (.tuple ds)
inductive ny (K:W.Frag) (H:Hp):List V->List PyData->Prop
 | nil:ny K H [] []
 | cons {x d xs ds} : Dp K H x d->ny K H xs ds->ny K H (x::xs) (d::ds)
end
section
variable {X:Cx}{pins:List (Addr×Obj)}{σ:St}{H:Hp}{s:Shared}
mutual
theorem Dp.reads (I:Inv X pins σ H s):∀{x:V}{d:PyData},Dp X.K H x d->∀{v:Value},RelV x v->∃as,Reads s.heap v d as
 | _,_,.aS,v,r=>by cases (show v=Value.none from r); exact ⟨_,.none⟩
 | _,_,.bl b,v,r=>by cases (show v=Value.bool b from r); exact ⟨_,.bool b⟩
 | _,_,.int i,v,r=>by obtain ⟨t,rfl⟩:=r; exact ⟨_,.int i t⟩
 | _,_,.str x,v,r=>by obtain ⟨t,rfl⟩:=r; exact ⟨_,.str x t⟩
 | _,_,.lst (a:=a) h1 h2,v,r=>by
  cases (show v=Value.ref a from r)
  obtain ⟨its,rv,⟨o,n,e,c,dn,dt⟩,_⟩:=I.list h1
  obtain ⟨as,ra⟩:=ny.reads I h2 rv
  exact ⟨_,.list e c dt ra⟩
 | _,_,.tup (a:=a) h1 h2,v,r=>by
  cases (show v=Value.ref a from r)
  obtain ⟨its,rv,⟨o,e,c,n,dt⟩,_⟩:=I.tuple h1
  obtain ⟨as,ra⟩:=ny.reads I h2 rv
  exact ⟨_,.tuple e c dt ra⟩
theorem ny.reads (I:Inv X pins σ H s):∀{xs:List V}{ds:List PyData},ny X.K H xs ds->∀{vs:List Value},Vals xs vs->∃as,ReadsAll s.heap vs ds as
 | _,_,.nil,_,.nil=>⟨_,.nil⟩
 | _,_,.cons h1 h2,_,.cons r1 r2=>by
  obtain ⟨as,ra⟩:=Dp.reads I h1 r1
  obtain ⟨bs,rb⟩:=ny.reads I h2 r2
  exact ⟨_,.cons ra rb⟩
end
theorem oB {K:W.Frag}{H:Hp}{α:Type}{f:α->PyData} : ∀{us:List Addr}{l:List α},Paired (λu a=>Dp K H (.ref u) (f a)) us l->ny K H (us.map V.ref) (l.map f)
 | _,_,.nil=>.nil
 | _,_,.cons h t=>.cons h (oB t)
theorem tj {K:W.Frag}{H:Hp} : ∀(ns:List Int),ny K H (ns.map V.int) (ns.map PyData.int)
 | []=>.nil
 | n::ns=>.cons (.int n) (tj ns)
abbrev dT (b:List Int):PyData:=.tuple (b.map PyData.int)
theorem qP {K:W.Frag}{H:Hp}{t:Addr}{b:List Int}(h:aR K H t (b.map V.int)):Dp K H (.ref t) (dT b):=.tup h (tj b)
theorem lay_ints:∀(b:List Int),PyData.canLayAll0 (b.map PyData.int)=true
 | []=>rfl
 | _::b=>by rw [List.map_cons,PyData.canLayAll0,lay_ints b]; rfl
theorem xJ (b:List Int):(dT b).canLay0=true:=by rw [PyData.canLay0]; exact lay_ints b
theorem tm:∀(b:List Int),PyData.depthAll (b.map PyData.int)=0
 | []=>rfl
 | _::b=>by rw [List.map_cons,PyData.depthAll,tm b]; rfl
theorem Dv (b:List Int):(dT b).depth=1:=by rw [PyData.depth,tm]
theorem Aa:∀(b c:List Int),PyData.eqvAll (b.map PyData.int) (c.map PyData.int)=decide (b=c)
 | [],[]=>rfl
 | [],_::_=>rfl
 | _::_,[]=>rfl
 | x::b,y::c=>by
  rw [List.map_cons,List.map_cons,PyData.eqvAll,Aa b c,PyData.eqv,Bool.eq_iff_iff,Bool.and_eq_true,decide_eq_true_eq,decide_eq_true_eq,beq_iff_eq,List.cons.injEq]
theorem I0 (b c:List Int):PyData.eqv (dT b) (dT c)=decide (b=c):=by rw [PyData.eqv]; exact Aa b c
theorem vG {l:List PyData}(h:∀d∈l,d.canLay0=true):PyData.canLayAll0 l=true:=by
 induction l with
 | nil=>rfl
 | cons d l ih=>rw [PyData.canLayAll0,h d List.mem_cons_self,ih λe he=>h e (List.mem_cons_of_mem _ he)]; rfl
theorem vH {l:List PyData}{n:Nat}(h:∀d∈l,d.depth<=n):PyData.depthAll l<=n:=by
 induction l with
 | nil=>exact Nat.zero_le _
 | cons d l ih=>rw [PyData.depthAll]; exact Nat.max_le.mpr ⟨h d List.mem_cons_self,ih λe he=>h e (List.mem_cons_of_mem _ he)⟩
def TV (K:W.Frag) (n:Nat) (f:PyData->PyData->Bool):R2:=λx y H Q=>∃da db,Dp K H x da/\Dp K H y db/\da.canLay0=true/\db.canLay0=true/\min da.depth db.depth<=n/\Q (.bl (f da db)) H
theorem aai {n:Nat}(hu:X.A.units+n<cLine):d6 X (compareOp .Eq) (TV X.K n PyData.eqv):=by
 intro pins s σ H x y v u Q I rx ry h
 obtain ⟨da,db,ha,hb,la,lb,hd,q⟩:=h
 obtain ⟨as,ra⟩:=ha.reads I rx
 obtain ⟨bs,rb⟩:=hb.reads I ry
 exact SeqAt.rcAt_reads ra rb la lb (by omega) X.prog X.w X.xe _ ⟨.bl _,H,I,rfl,q⟩
theorem Cb {n:Nat}(hu:X.A.units+n<cLine):d6 X (compareOp .NotEq) (TV X.K n λa b=>!PyData.eqv a b):=by
 intro pins s σ H x y v u Q I rx ry h
 obtain ⟨da,db,ha,hb,la,lb,hd,q⟩:=h
 obtain ⟨as,ra⟩:=ha.reads I rx
 obtain ⟨bs,rb⟩:=hb.reads I ry
 exact SeqAt.rcNeAt_reads ra rb la lb (by omega) X.prog X.w X.xe _ ⟨.bl _,H,I,rfl,q⟩
noncomputable def jP (h:Heap) (d:PyData) (v:Value):Bool:=@decide (∃e as,Reads h v e as/\e.canLay0=true/\PyData.eqv e d=true) (Classical.propDecidable _)
mutual
theorem xf {h:Heap} : ∀{d:PyData}{v:Value}{as:List Addr},Reads h v d as->d.canLay0=true->∀{e:PyData}{bs:List Addr},Reads h v e bs->e.canLay0=true->e=d
 | _,_,_,.none,_,_,_,.none,_=>rfl
 | _,_,_,.bool _,_,_,_,.bool _,_=>rfl
 | _,_,_,.int _ _,_,_,_,.int _ _,_=>rfl
 | _,_,_,.str _ _,_,_,_,.str _ _,_=>rfl
 | _,_,_,.list h1 c1 d1 r1,l1,_,_,r,l2=>by
  cases r with
  | list h2 c2 d2 r2=>
   rw [h1] at h2; cases h2
   rw [d1] at d2; cases d2
   rw [jW r1 (by rw [PyData.canLay0] at l1; exact l1) r2 (by rw [PyData.canLay0] at l2; exact l2)]
  | tuple h2 c2 d2 r2=>rw [h1] at h2; cases h2; rw [c1] at c2; exact absurd c2 (by decide)
  | dict h2 c2 d2 r2 r3=>rw [PyData.canLay0] at l2; cases l2
 | _,_,_,.tuple h1 c1 d1 r1,l1,_,_,r,l2=>by
  cases r with
  | tuple h2 c2 d2 r2=>
   rw [h1] at h2; cases h2
   rw [d1] at d2; cases d2
   rw [jW r1 (by rw [PyData.canLay0] at l1; exact l1) r2 (by rw [PyData.canLay0] at l2; exact l2)]
  | list h2 c2 d2 r2=>rw [h1] at h2; cases h2; rw [c1] at c2; exact absurd c2 (by decide)
  | dict h2 c2 d2 r2 r3=>rw [PyData.canLay0] at l2; cases l2
 | _,_,_,.dict _ _ _ _ _,l1,_,_,_,_=>by rw [PyData.canLay0] at l1; cases l1
theorem jW {h:Heap} : ∀{ds:List PyData}{vs:List Value}{as:List Addr},ReadsAll h vs ds as->PyData.canLayAll0 ds=true->∀{es:List PyData}{bs:List Addr},ReadsAll h vs es bs->PyData.canLayAll0 es=true->es=ds
 | _,_,_,.nil,_,_,_,.nil,_=>rfl
 | _,_,_,.cons r1 t1,l1,_,_,.cons r2 t2,l2=>by
  rw [PyData.canLayAll0,Bool.and_eq_true] at l1 l2
  rw [xf r1 l1.1 r2 l2.1,jW t1 l1.2 t2 l2.2]
end
theorem Ab {h:Heap}{v:Value}{d e:PyData}{as:List Addr}(r:Reads h v e as) (l:e.canLay0=true):jP h d v=PyData.eqv e d:=by
 unfold jP
 rw [Bool.eq_iff_iff,@decide_eq_true_eq _ (Classical.propDecidable _)]
 constructor
 . rintro ⟨e',bs,r',l',q⟩
   rwa [xf r l r' l'] at q
 . exact λq=>⟨e,as,r,l,q⟩
theorem readsAll_mem {h:Heap} : ∀{vs:List Value}{ds:List PyData}{as:List Addr},ReadsAll h vs ds as->∀v∈vs,∃d∈ds,∃bs,Reads h v d bs
 | _,_,_,.nil,v,hv=>nomatch hv
 | _,_,_,.cons r t,v,hv=>by
  rcases List.mem_cons.mp hv with rfl | hv
  . exact ⟨_,List.mem_cons_self,_,r⟩
  . obtain ⟨d,hd,bs,q⟩:=readsAll_mem t v hv
    exact ⟨d,List.mem_cons_of_mem _ hd,bs,q⟩
theorem gZ {h:Heap}{d:PyData} : ∀{vs:List Value}{ds:List PyData}{as:List Addr},ReadsAll h vs ds as->(∀e∈ds,e.canLay0=true)->vs.any (jP h d)=ds.any λe=>PyData.eqv e d
 | _,_,_,.nil,_=>rfl
 | _,_,_,.cons r t,l=>by
  rw [List.any_cons,List.any_cons,Ab r (l _ List.mem_cons_self),gZ t λe he=>l e (List.mem_cons_of_mem _ he)]
def NG (K:W.Frag) (n:Nat) (neg:Bool):R2:=λx y H Q=>∃(p:Addr) (xs:List V) (d:PyData) (ds:List PyData),y=.ref p/\(aq K H p xs\/aR K H p xs)/\ny K H xs ds/\Dp K H x d/\d.canLay0=true/\(∀e∈ds,e.canLay0=true)/\d.depth<=n/\
 Q (.bl (if neg=true then !(ds.any λe=>PyData.eqv e d) else ds.any λe=>PyData.eqv e d)) H
theorem acQ {n:Nat}(hu:X.A.units+n+1<cLine):d6 X (compareOp .In) (NG X.K n false):=by
 intro pins s σ H x y v u Q I rx ry h
 obtain ⟨p,xs,d,ds,rfl,hq,t9,hd,ld,uL,hn,q⟩:=h
 cases (show u=Value.ref p from ry)
 obtain ⟨bs,rb⟩:=hd.reads I rx
 have key:∀{vs:List Value}{as:List Addr},ReadsAll s.heap vs ds as->∀w∈vs,SeqAt.EqAt X.A.in1 s w v (jP s.heap d w):=λra w hw=>by
  obtain ⟨e,he,cs,rc⟩:=readsAll_mem ra w hw
  rw [Ab rc (uL e he)]
  exact SeqAt.eqAt_reads e d X.A.in1 s w v cs bs rc rb (uL e he) ld (by show X.A.units+1+min e.depth d.depth<cLine; omega)
 rcases hq with hq | hq
 . obtain ⟨its,r,pl,hz⟩:=I.list hq
   obtain ⟨as,ra⟩:=t9.reads I r
   refine SeqAt.in_listAt (jP s.heap d) pl.isList (λw hw=>key ra w (by simpa using hw)) ⟨.bl _,H,I,rfl,?_⟩
   rw [show its.toArray.any (jP s.heap d)=its.any (jP s.heap d) by simp,gZ ra uL]
   exact q
 . obtain ⟨its,r,pl,hz⟩:=I.tuple hq
   obtain ⟨as,ra⟩:=t9.reads I r
   refine SeqAt.in_tupleAt (jP s.heap d) pl (λw hw=>key ra w (by simpa using hw)) ⟨.bl _,H,I,rfl,?_⟩
   rw [show its.toArray.any (jP s.heap d)=its.any (jP s.heap d) by simp,gZ ra uL]
   exact q
theorem FA {n:Nat}(hu:X.A.units+n+1<cLine):d6 X (compareOp .NotIn) (NG X.K n true):=by
 intro pins s σ H x y v u Q I rx ry h
 obtain ⟨p,xs,d,ds,rfl,hq,t9,hd,ld,uL,hn,q⟩:=h
 cases (show u=Value.ref p from ry)
 obtain ⟨bs,rb⟩:=hd.reads I rx
 have key:∀{vs:List Value}{as:List Addr},ReadsAll s.heap vs ds as->∀w∈vs,SeqAt.EqAt X.A.in1 s w v (jP s.heap d w):=λra w hw=>by
  obtain ⟨e,he,cs,rc⟩:=readsAll_mem ra w hw
  rw [Ab rc (uL e he)]
  exact SeqAt.eqAt_reads e d X.A.in1 s w v cs bs rc rb (uL e he) ld (by show X.A.units+1+min e.depth d.depth<cLine; omega)
 rcases hq with hq | hq
 . obtain ⟨its,r,pl,hz⟩:=I.list hq
   obtain ⟨as,ra⟩:=t9.reads I r
   refine SeqAt.notIn_listAt (jP s.heap d) pl.isList (λw hw=>key ra w (by simpa using hw)) ⟨.bl _,H,I,rfl,?_⟩
   rw [show its.toArray.any (jP s.heap d)=its.any (jP s.heap d) by simp,gZ ra uL]
   exact q
 . obtain ⟨its,r,pl,hz⟩:=I.tuple hq
   obtain ⟨as,ra⟩:=t9.reads I r
   refine SeqAt.notIn_tupleAt (jP s.heap d) pl (λw hw=>key ra w (by simpa using hw)) ⟨.bl _,H,I,rfl,?_⟩
   rw [show its.toArray.any (jP s.heap d)=its.any (jP s.heap d) by simp,gZ ra uL]
   exact q
end
end L2
namespace L2
open PySem PySem.Spec PyProof.Rows
section
variable {X:Cx}
def NH (K:W.Frag) (neg:Bool):R2:=λx y H Q=>∃(p p':Addr) (xs:List V),x=.ref p/\y=.ref p'/\aq K H p xs/\aq K H p' []/\Q (.bl (if neg=true then !xs.isEmpty else xs.isEmpty)) H
theorem Ac (hu:X.A.units<cLine):d6 X (compareOp .Eq) (NH X.K false):=by
 intro pins s σ H x y v u Q I rx ry h
 obtain ⟨p,p',xs,rfl,rfl,h1,h2,q⟩:=h
 cases (show v=Value.ref p from rx)
 cases (show u=Value.ref p' from ry)
 obtain ⟨its,rv,pl,hz⟩:=I.list h1
 obtain ⟨its',pY,uA,rf⟩:=I.list h2
 have l1:=rv.length
 have l2:=pY.length
 cases xs with
 | nil=>
  have key:=SeqAt.RcAt.lists (A:=X.A) (s:=s) (e:=λ_=>true) pl.isList uA.isList (by simp only [List.size_toArray]; omega) hu (λj g1 g2=>by simp only [List.size_toArray,List.length_nil] at g1 l1; omega) X.prog X.w X.xe
  refine key _ ?_
  rw [show ((List.range its.toArray.size).all λ_=>true)=true by simp]
  exact ⟨.bl true,H,I,rfl,q⟩
 | cons a xs=>
  have key:=SeqAt.RcAt.lists_lengths (A:=X.A) (s:=s) pl.isList uA.isList (by simp only [List.size_toArray,List.length_cons,List.length_nil] at l1 l2 ⊢; rw [← l1,← l2]; rfl) hu X.prog X.w X.xe
  exact key _ ⟨.bl false,H,I,rfl,q⟩
theorem NI (hu:X.A.units<cLine):d6 X (compareOp .NotEq) (NH X.K true):=by
 intro pins s σ H x y v u Q I rx ry h
 obtain ⟨p,p',xs,rfl,rfl,h1,h2,q⟩:=h
 cases (show v=Value.ref p from rx)
 cases (show u=Value.ref p' from ry)
 obtain ⟨its,rv,pl,hz⟩:=I.list h1
 obtain ⟨its',pY,uA,rf⟩:=I.list h2
 have l1:=rv.length
 have l2:=pY.length
 cases xs with
 | nil=>
  have key:=SeqAt.RcNeAt.lists (A:=X.A) (s:=s) (e:=λ_=>true) pl.isList uA.isList (by simp only [List.size_toArray]; omega) hu (λj g1 g2=>by simp only [List.size_toArray,List.length_nil] at g1 l1; omega) X.prog X.w X.xe
  refine key _ ?_
  rw [show (!(List.range its.toArray.size).all λ_=>true)=false by simp]
  exact ⟨.bl false,H,I,rfl,q⟩
 | cons a xs=>
  have key:=SeqAt.RcNeAt.lists_lengths (A:=X.A) (s:=s) pl.isList uA.isList (by simp only [List.size_toArray,List.length_cons,List.length_nil] at l1 l2 ⊢; rw [← l1,← l2]; rfl) hu X.prog X.w X.xe
  exact key _ ⟨.bl true,H,I,rfl,q⟩
end
end L2
namespace Gen
open PySem L2
abbrev vI:Stmt:=top 25
structure Ad (N:Nat) (cs:List (List Int)) (told l:List (Int×Int)):Prop where
 ks:i9 N l
 ext:Ext told l
 agr:∀v,Sat v cs->j2 v told->j2 v l
 bit:(∀n b,b9 told n=some b->b=0\/b=1)->∀n b,b9 l n=some b->b=0\/b=1
theorem K7 (k:Int):fQ k=0\/fQ k=1:=by
 unfold fQ
 split
 . exact .inr rfl
 . exact .inl rfl
theorem Ad.put {N:Nat}{cs:List (List Int)}{told l:List (Int×Int)}(h:Ad N cs told l){c:List Int}{k:Int}(hc:c∈cs) (hN:∀k∈c,1<=aF k/\aF k<=(N:Int)) (ht:fo l c=[]) (hl:cM l c=[k]):Ad N cs told (l++[(aF k,fQ k)]):=by
 have hk:=qi (l:=l) (c:=c) (k:=k) (by rw [hl]; exact List.mem_singleton_self _)
 refine ⟨h.ks.put hk.2 (hN k hk.1).1 (hN k hk.1).2,λn b hb=>K6 hk.2 n b (h.ext n b hb),λv hs ha=>K5 (h.agr v hs ha) ht hl (hs c hc),λh0 n b hb=>?_⟩
 rw [vF hk.2] at hb
 by_cases e:aF k=n
 . rw [if_pos e] at hb
   rw [← Option.some.inj hb]
   exact K7 k
 . rw [if_neg e] at hb
   exact h.bit h0 n b hb
theorem FC {K:W.Frag}{D t:Addr}{c:List Int}{f:Int->Bool}{ti:TT}{u:V}{H:Hp}{Q:Hp->Prop}(hD:H D=none) (ht:H t=some (.lst (c.map V.int))) (hc:c.length<=1000)
 (QU:∀k acc R,k∈c->R (f k) (upd H D (.lst acc))->ti [some (.int k),some u] (upd H D (.lst acc)) R) (fin:Q (upd H D (.lst ((c.filter f).map V.int)))) :
 ∃W:Nat->Nat->St->Hp->Prop,(∃m,W 0 m [none,some u] (upd H D (.lst [])))/\Bc D (dr 0) ti (oX 0) (vR K t) W Q:=by
 have nt:t≠D:=af ht hD
 have uD:∀o,(upd H D o) t=some (.lst (c.map V.int)):=λo=>(ai nt).trans ht
 refine cY c.length (λi acc σ H3=>acc=((c.take i).filter f).map V.int/\(∃v,σ=[v,some u])/\H3=upd H D (.lst acc)) ⟨rfl,⟨none,rfl⟩,rfl⟩ ag ?_ ?_
 . rintro acc σ H3 aW ⟨rfl,_,rfl⟩
   rw [List.take_length]
   exact ⟨⟨_,aq.of (uD _),by rw [List.length_map]; exact Nat.le_refl _⟩,fin⟩
 . rintro i acc σ H3 hi aW ⟨rfl,⟨v,rfl⟩,rfl⟩
   have gy:c[i]?=some c[i]:=List.getElem?_eq_getElem hi
   have ei:(c.map V.int)[i]?=some (.int c[i]):=by rw [List.getElem?_map,gy]; rfl
   refine ⟨⟨_,_,aq.of (uD _),ei⟩,?_⟩
   rintro x' H' ⟨rfl,cT⟩
   have ex:=cT _ (aq.of (uD _))
   rw [ei] at ex
   cases ex
   refine QU c[i] _ _ (List.getElem_mem hi) ?_
   have pJ:=rW (p:=f) gy
   refine dq (λh=>?_) (λh=>?_)
   . rw [if_pos h] at pJ
     refine ⟨_,rfl,_,ag,?_,bo hi ag ⟨?_,⟨_,rfl⟩,?_⟩⟩
     . rw [List.length_map]
       refine small (Nat.le_trans (List.length_filter_le _ _) ?_)
       rw [List.length_take]
       omega
     . rw [pJ,List.map_append]
       rfl
     . rw [g7]
   . rw [if_neg h,List.append_nil] at pJ
     refine bo hi ag ⟨?_,⟨_,rfl⟩,rfl⟩
     rw [pJ]
structure CL (H:Hp) (p:Addr) (ts:List Addr) (cs:List (List Int)) (N:Nat):Prop where
 top:H p=some (.lst (ts.map V.ref))
 each:Paired (λt c=>H t=some (.lst (c.map V.int))) ts cs
 num:∀c∈cs,∀k∈c,1<=aF k/\aF k<=(N:Int)
 len:∀c∈cs,c.length<=1000
 nN:N<=1000
theorem CL.same {H H':Hp}{p:Addr}{ts:List Addr}{cs:List (List Int)}{N:Nat}(h:CL H p ts cs N) (s:aj H H'):CL H' p ts cs N:=⟨s _ _ h.top,Paired.bh h.each λ_ _ e=>s _ _ e,h.num,h.len,h.nN⟩
inductive FD (vs:List V) (H:Hp) (Q:VK):Prop
 | mk (p d:Addr) (ts:List Addr) (cs:List (List Int)) (told:List (Int×Int)) (N:Nat) (h1:vs=[.ref p,.ref d]) (h2:CL H p ts cs N) (h3:H d=some (.dK (dz told))) (h4:i9 N told) (h5:(∀H',aj H H'->(∀v,Sat v cs->j2 v told->False)->Q .aS H')) (h6:(∀q l H',aj H H'->H q=none->H' q=some (.dK (dz l))->r8 N cs told l->Q (.ref q) H')):FD vs H Q
def xK:Sp:=λvs H Q _=>FD vs H Q
abbrev nSp:List Str:=["_law_clauses", "_law_told", "_law_bits", "_law_going", "_law_clause", "_law_loose"]
abbrev xg:List Str:=["_law_clauses", "_law_told"]
theorem Dw:(["_law_k", "_law_bits"]:List Str).Nodup:=by decide +kernel
theorem tw (l:List (Int×Int)) (n:Int):(!(cq (dz l) (.inl n)).isSome)=decide (b9 l n=none):=by
 rw [Du]
 cases b9 l n with
 | none=>rfl
 | some b=>rfl
theorem NJ (l:List (Int×Int)) (n b:Int):decide ((cq (dz l) (.inl n)).getD .aS=.int b)=decide (b9 l n=some b):=by
 rw [Du]
 cases b9 l n with
 | none=>rfl
 | some c=>
  rw [Bool.eq_iff_iff,decide_eq_true_eq,decide_eq_true_eq]
  constructor
  . intro h
    have h1:V.int c=V.int b:=h
    rw [V.int.inj h1]
  . intro h
    rw [Option.some.inj h]
    rfl
section
variable {P:Program}{w:World}{K:W.Frag}{mg:Str->Option Value}{base:Heap}
theorem tE:aQ nSp xg (au vI):=⟨rfl,rfl,rfl,by decide +kernel,rfl,by decide +kernel,by decide +kernel⟩
theorem NK {f:Addr}{fd:FuncData}(F:cC K "_law_spread" "_law_spread" vI f fd) (O2:eY mg) (gU:mg "abs" = none):aw P w K mg base aD 1 f fd xg xK:=by
 refine F.ok tE (λvs H Q E h=>?_) (λcdv A outer s H vs Q E hr h=>?_)
 . obtain ⟨p,d,ts,cs,told,N,rfl,_⟩:=h
   rfl
 . obtain ⟨p,d,ts,cs,told,N,rfl,hC,hd,hK,k1,k2⟩:=h
   have hu:=eZ hr
   refine ⟨_,ak (aE (i:=2) tE.nd rfl (Or.inr rfl) (aL eO (by rfl) O2.dict PyProof.Rows.boot_dict (ae (pv 1) ah)))
    (ak (aE (i:=3) tE.nd rfl (Or.inl rfl) j3)
    (ak (x5 PassesOwn.never (ie (pv 3))
     (ak (aE (i:=3) tE.nd rfl (Or.inl rfl) j3)
     (ar (cc PassesOwn.never rfl (bU (pv 0)) (ax (i:=4) tE.nd rfl (Or.inl rfl))
      (ak (qq (i:=5) (N:=["_law_k", "_law_bits"]) (js:=[none,some 2]) tE.nd rfl rfl (by kernel_rfl) rfl (bU (pv 4)) (λ_ _ _ _ _ _=>ax (i:=0) Dw rfl (Or.inl rfl) (.inr rfl))
       (λ_ _ _ _ _ _=>nS (iS (ph hu (aU fU (by rfl) gU PyProof.Rows.boot_abs (ae (pv 0) ah)) (pv 1)) (by with_unfolding_all rfl))) (λ_ _ _ _ _ _=>pv 0))
      (ar (bY (PW.pt (tM (a8 CD (aU bZ (by rfl) O2.len PySem.boot_len (ae (pv 5) ah)) av (bp _))
       (ql (a8 (Ac (Nat.lt_of_succ_lt hu)) (cX (N:=["_law_k", "_law_bits"]) (js:=[none,some 2]) (by kernel_rfl) rfl (bU (pv 4)) (λ_ _ _ _ _ _=>ax (i:=0) Dw rfl (Or.inl rfl) (.inr rfl))
        (λ_ _ _ _ _ _=>nS (a8 iU (Gr hu (pv 1) (aU fU (by rfl) gU PyProof.Rows.boot_abs (ae (pv 0) ah)) ⟨rfl,rfl,rfl,rfl⟩) (aL o6 (by rfl) O2.int PyProof.Rows.boot_int (ae (jh lC (pv 0) av (bp _)) ah)) (bp _))) (λ_ _ _ _ _ _=>pv 0)) (bt ah) (bp _)))))
       (ak (bY (a8 (Ac (Nat.lt_of_succ_lt hu)) (pv 5) (bt ah) (bp _)) (ar (aT tL)) aY)
       (ak (jj hu (pv 2) (aU fU (by rfl) gU PyProof.Rows.boot_abs (ae (bz (r:=jl K) bJ (pv 5) av (λ_ _=>rfl)) ah)) (aL o6 (by rfl) O2.int PyProof.Rows.boot_int (ae (jh lC (bz (r:=jl K) bJ (pv 5) av (λ_ _=>rfl)) av (bp _)) ah)) rfl)
       (ar (aE (i:=3) tE.nd rfl (Or.inl rfl) j3)))) aY)))))))
    (ar (aT (pv 2))))),?_⟩
   have lt:=hC.each.length
   have mJ:=hK.len
   have hN:=hC.nN
   refine ⟨_,rfl,d,dz told,rfl,.inl hd,λb hb=>?_⟩
   have s1:aj H (upd H b (.dK (dz told))):=aj.ao hb
   have q1:(upd H b (.dK (dz told))) b=some (.dK (dz told)):=ag
   generalize upd H b (.dK (dz told))=H1 at s1 q1 ⊢
   refine ⟨λμ σ Hx=>∃(l:List (Int×Int)) (g:Bool) (v4 v5:Option V),σ=[some (.ref p),some (.ref d),some (.ref b),some (.bl g),v4,v5]/\Hx b=some (.dK (dz l))/\aj H Hx/\Ad N cs told l/\(g=false->∀c∈cs,qh l c)/\μ=2*(N-l.length)+(if g=true then 1 else 0),
    ⟨_,told,true,none,none,rfl,q1,s1,⟨hK,λ_ _ h=>h,λ_ _ h=>h,λh=>h⟩,(λh=>nomatch h),rfl⟩,?_⟩
   rintro μ σ Hx ⟨l0,g,v4,v5,rfl,NL,sx,G0,A8,rfl⟩
   refine ⟨_,rfl,g,rfl,dq (λhg=>?_) (λhg=>?_)⟩
   . subst hg
     refine ⟨λbx H'=>∃(l:List (Int×Int)) (g:Bool) (v4 v5:Option V),bx=[some (.ref p),some (.ref d),some (.ref b),some (.bl g),v4,v5]/\H' b=some (.dK (dz l))/\aj H H'/\Ad N cs told l/\(g=false->∀c∈cs,qh l c)/\l0.length<=l.length/\(g=true->l0.length<l.length),
      λbx H' ⟨l,g,v4,v5,e,h1,h2,h3,h4,h5,h6⟩=>⟨_,?_,l,g,v4,v5,e,h1,h2,h3,h4,rfl⟩,?_⟩
     . have:=h3.ks.len
       rw [if_pos rfl]
       cases g with
       | true=>
        have:=h6 rfl
        rw [if_pos rfl]
        omega
       | false=>
        rw [if_neg (by decide)]
        omega
     refine ⟨_,rfl,p,rfl,⟨_,aq.of (sx _ _ hC.top)⟩,d7 (K:=K) (a:=p) (xs:=ts.map V.ref) (λi σ Hi=>∃(l:List (Int×Int)) (g:Bool) (v4 v5:Option V),σ=[some (.ref p),some (.ref d),some (.ref b),some (.bl g),v4,v5]/\Hi b=some (.dK (dz l))/\aj H Hi/\Ad N cs told l/\(g=false->∀c∈cs.take i,qh l c)/\l0.length<=l.length/\(g=true->l0.length<l.length)) ⟨l0,false,v4,v5,rfl,NL,sx,G0,(λ_ _ h=>nomatch h),Nat.le_refl _,(λh=>nomatch h)⟩ ?_ ?_ ?_⟩
     . rintro i σ Hi _ ⟨_,_,_,_,_,_,si,_⟩
       exact aq.of (si _ _ hC.top)
     . rintro i xv σ Hi hx ⟨l,g,v4,v5,rfl,uM,si,G,Ja,jZ,jI⟩
       have hi:i<cs.length:=by
        have:=(List.getElem?_eq_some_iff.mp hx).1
        rw [List.length_map] at this
        omega
       obtain ⟨t,ht,hT⟩:=a9 hC.each (i:=i) (List.getElem?_eq_getElem hi)
       have ex:xv=.ref t:=by
        rw [List.getElem?_map,ht] at hx
        exact (Option.some.inj hx).symm
       subst ex
       have bK:=List.getElem_mem hi
       have dv:cs.take (i+1)=cs.take i++[cs[i]]:=by rw [List.take_succ,List.getElem?_eq_getElem hi]; rfl
       have et:=hC.len _ bK
       have NM:=hC.num _ bK
       generalize cs[i]=c at hT bK dv et NM
       have r9:=si _ _ hT
       refine ⟨_,rfl,t,rfl,⟨_,aq.of r9⟩,λD hD=>FC (f:=λk=>decide (b9 l (aF k)=none)) hD r9 et (λk acc R _ hR=>?_) ?_⟩
       . have NN:b≠D:=af uM hD
         refine ⟨_,rfl,k,rfl,_,rfl,b,_,rfl,cw.k (k:=.inl (aF k)) ((ai NN).trans uM),_,rfl,?_⟩
         rw [tw]
         exact hR
       dsimp only [dr]
       rw [show (c.filter λk=>decide (b9 l (aF k)=none))=cM l c from rfl]
       have s2:aj Hi (upd Hi D (.lst ((cM l c).map V.int))):=aj.ao hD
       have q2:(upd Hi D (.lst ((cM l c).map V.int))) D=some (.lst ((cM l c).map V.int)):=ag
       generalize upd Hi D (.lst ((cM l c).map V.int))=H2 at s2 q2 ⊢
       refine ⟨_,rfl,D,_,rfl,.inl (aq.of q2),_,_,rfl,rfl,_,rfl,?_⟩
       rw [List.length_map]
       have ku:∀H3,aj H2 H3->qh l c->∃(l:List (Int×Int)) (g':Bool) (v4 v5:Option V),([some (.ref p),some (.ref d),some (.ref b),some (.bl g),some (.ref t),some (.ref D)]:St)=[some (.ref p),some (.ref d),some (.ref b),some (.bl g'),v4,v5]/\H3 b=some (.dK (dz l))/\aj H H3/\Ad N cs told l/\(g'=false->∀c∈cs.take (i+1),qh l c)/\l0.length<=l.length/\(g'=true->l0.length<l.length):=λH3 s3 hs=>by
        refine ⟨l,g,_,_,rfl,s3 _ _ (s2 _ _ uM),(si.trans s2).trans s3,G,λhg c' eQ=>?_,jZ,jI⟩
        rw [dv,List.mem_append] at eQ
        rcases eQ with eQ | eQ
        . exact Ja hg c' eQ
        . rw [List.mem_singleton.mp eQ]
          exact hs
       refine dq (λh1=>?_) (λh1=>?_)
       . have h2:(cM l c).length<2:=by
          have:=of_decide_eq_true h1
          omega
         have mx:=s2 _ _ r9
         have lK:=s2 _ _ uM
         refine ⟨_,rfl,t,rfl,⟨_,aq.of mx⟩,λD2 mz=>FC (f:=λk=>decide (b9 l (aF k)=some (fQ k))) mz mx et (λk acc R _ hR=>?_) ?_⟩
         . have NN:b≠D2:=af lK mz
           have IG:(upd H2 D2 (.lst acc)) b=some (.dK (dz l)):=(ai NN).trans lK
           refine ⟨_,rfl,b,rfl,.inl ⟨_,.inl IG⟩,_,rfl,k,rfl,_,cw.k (k:=.inl (aF k)) IG,_,rfl,_,_,rfl,rfl,.inr ⟨_,rfl,?_⟩⟩
           refine ⟨?_,_,rfl,?_⟩
           . rw [Du]
             cases b9 l (aF k) <;> rfl
           . show R (decide ((cq (dz l) (.inl (aF k))).getD .aS=.int (fQ k))) _
             rw [NJ]
             exact hR
         have s3:aj H2 (upd H2 D2 (.lst ((fo l c).map V.int))):=aj.ao mz
         have q3:(upd H2 D2 (.lst ((fo l c).map V.int))) D2=some (.lst ((fo l c).map V.int)):=ag
         rw [show (c.filter λk=>decide (b9 l (aF k)=some (fQ k)))=fo l c from rfl]
         generalize upd H2 D2 (.lst ((fo l c).map V.int))=H3 at s3 q3 ⊢
         refine ⟨(by show 0<=sizeLine; decide),λE1 NO=>?_⟩
         have s4:aj H3 (upd H3 E1 (.lst [])):=aj.ao NO
         have q4:(upd H3 E1 (.lst [])) E1=some (.lst []):=ag
         generalize upd H3 E1 (.lst [])=H4 at s4 q4 ⊢
         have uN:=s3.trans s4
         refine ⟨D2,E1,_,rfl,rfl,aq.of (s4 _ _ q3),aq.of q4,_,rfl,?_⟩
         cases NP:fo l c with
         | cons k0 r=>
          refine cE rfl (ku H4 uN λ_=>?_)
          rw [NP]
          exact List.cons_ne_nil _ _
         | nil=>
          refine gc rfl ?_
          refine ⟨_,rfl,(by show 0<=sizeLine; decide),λE2 NQ=>?_⟩
          have s5:aj H4 (upd H4 E2 (.lst [])):=aj.ao NQ
          have q5:(upd H4 E2 (.lst [])) E2=some (.lst []):=ag
          generalize upd H4 E2 (.lst [])=H5 at s5 q5 ⊢
          have FE:=uN.trans s5
          refine ⟨D,E2,_,rfl,rfl,aq.of (FE _ _ q2),aq.of q5,_,rfl,?_⟩
          cases A9:cM l c with
          | nil=>
           refine gc rfl (k1 _ ((si.trans s2).trans FE) λv hs ha=>?_)
           exact NF (G.agr v hs ha) NP A9 (hs c bK)
          | cons k0 r=>
           have BQ:r=[]:=by
            rw [A9,List.length_cons] at h2
            exact List.eq_nil_of_length_eq_zero (by omega)
           subst BQ
           refine cE rfl ?_
           rw [A9] at q2
           have TX:=FE _ _ q2
           have Bu:=FE _ _ (s2 _ _ uM)
           have IQ:=qi (l:=l) (c:=c) (k:=k0) (by rw [A9]; exact List.mem_singleton_self _)
           have hGl:=G.ks.len
           refine ⟨_,rfl,D,_,0,_,rfl,rfl,aq.of TX,cV (j:=0) rfl,_,_,rfl,rfl,.inr ⟨_,rfl,?_⟩⟩
           refine ⟨_,rfl,_,rfl,D,_,0,_,rfl,rfl,aq.of TX,cV (j:=0) rfl,k0,rfl,b,_,rfl,kE.k (k:=.inl (aF k0)) Bu (by unfold dz; rw [List.length_map]; exact small (by omega)),?_⟩
           have WI:putK (dz l) (.inl (aF k0)) (.int (fQ k0))=dz (l++[(aF k0,fQ k0)]):=B8 IQ.2
           have WJ:putK (dz l) (.inl (aF k0)) (.int (if decide (0<k0)=true then 1 else 0))=dz (l++[(aF k0,fQ k0)]):=WI
           refine ⟨l++[(aF k0,fQ k0)],true,_,_,rfl,by rw [ag]; exact congrArg (λz=>some (HO.dK z)) WJ,λa o ha=>?_,G.put bK NM NP A9,(λh=>nomatch h),?_,λ_=>?_⟩
           . rw [ai (af ha hb)]
             exact FE _ _ (s2 _ _ (si _ _ ha))
           . rw [List.length_append]
             omega
           . rw [List.length_append]
             show l0.length<l.length+1
             omega
       . refine ku H2 (λ_ _ h=>h) λh=>absurd (decide_eq_true ?_) h1
         omega
     . rintro σ Hi ⟨l,g,v4,v5,rfl,uM,si,G,Ja,jZ,jI⟩
       rw [List.length_map,lt,List.take_length] at Ja
       exact ⟨l,g,v4,v5,rfl,uM,si,G,Ja,jZ,jI⟩
   . have yC:g=false:=by
      cases g with
      | true=>exact absurd rfl hg
      | false=>rfl
     exact ⟨_,rfl,k2 b l0 Hx sx hb NL ⟨G0.ks,G0.ext,A8 yC,G0.agr,G0.bit⟩⟩
end
end Gen
namespace Gen
open PySem L2
abbrev Cc:Stmt:=top 26
def oU (N:Nat) (l:List (Int×Int)):List Int:=(List.range N).map λi:Nat=>(b9 l ((i:Int)+1)).getD 0
inductive Jb (vs:List V) (H:Hp) (Q:VK):Prop
 | mk (p d:Addr) (ts:List Addr) (cs:List (List Int)) (told:List (Int×Int)) (N:Nat) (h1:vs=[.int (N:Int),.ref p,.ref d]) (h2:CL H p ts cs N) (h3:H d=some (.dK (dz told))) (h4:i9 N told) (h5:(∀l,r8 N cs told l->∀n:Nat,n<N->b9 l ((n:Int)+1)≠none)) (h6:(∀H',aj H H'->(∀v,Sat v cs->j2 v told->False)->Q .aS H')) (h7:(∀q l H',aj H H'->H q=none->H' q=some (.lst ((oU N l).map V.int))->r8 N cs told l->Q (.ref q) H')):Jb vs H Q
def Dx:Sp:=λvs H Q _=>Jb vs H Q
abbrev nCh:List Str:=["_law_many", "_law_clauses", "_law_told", "_law_waiting", "_law_bits", "_law_loose", "_law_bit_here", "_law_more"]
abbrev xh:List Str:=["_law_many", "_law_clauses", "_law_told"]
section
variable {P:Program}{w:World}{K:W.Frag}{mg:Str->Option Value}{base:Heap}
theorem Dy:aQ nCh xh (au Cc):=⟨rfl,rfl,rfl,by decide +kernel,rfl,by decide +kernel,by decide +kernel⟩
theorem QV {f fS:Addr}{fd dS:FuncData}(F:cC K "_law_choice" "_law_choice" Cc f fd) (O2:eY mg) (O:Own mg)
 (gS:aw P w K mg base aD 1 fS dS xg xK) (mS:mg "_law_spread" = some (.ref fS)) (kS:W.keepIn K (.ref fS)=true) (bS:Binds K dS xg []):aw P w K mg base aD 2 f fd xh Dx:=by
 refine F.ok Dy (λvs H Q E h=>?_) (λcdv A outer s H vs Q E hr h=>?_)
 . obtain ⟨p,d,ts,cs,told,N,rfl,_⟩:=h
   rfl
 . obtain ⟨p,d,ts,cs,told,N,rfl,hC,hd,hK,QW,k1,k2⟩:=h
   have hu:=eZ hr
   refine ⟨_,ak (aE (i:=3) Dy.nd rfl (Or.inl rfl) (bt (ae (pv 2) ah)))
    (ak (x5 PassesOwn.never (a8 (NI (Nat.lt_of_succ_lt hu)) (pv 3) (bt ah) (bp _))
     (ak (aE (i:=4) Dy.nd rfl (Or.inr rfl) (aA gS hr rfl mS kS bS .nil az (ae (pv 1) (ae (yr PySem.F.plainAttrs_list PySem.F.slot_list_pop PySem.F.type_list_pop D9 (pv 3)) ah))))
     (ar (bY (iS (qk (pv 4)))
      (ak (qq (i:=5) (N:=["_law_k", "_law_bits"]) (js:=[none,some 4]) Dy.nd rfl rfl (by kernel_rfl) rfl (vS rfl O.range (ae av (ae (aH cL (pv 0) av) ah))) (λ_ _ _ _ _ _=>ax (i:=0) Dw rfl (Or.inl rfl) (.inr rfl))
       (λ_ _ _ _ _ _=>nS (iS (ph hu (pv 0) (pv 1)) (by with_unfolding_all rfl))) (λ_ _ _ _ _ _=>pv 0))
      (ak (bY (a8 (Ac (Nat.lt_of_succ_lt hu)) (pv 5) (bt ah) (bp _))
       (ar (aT (cX (N:=["_law_k", "_law_bits"]) (js:=[none,some 4]) (by kernel_rfl) rfl (vS rfl O.range (ae av (ae (aH cL (pv 0) av) ah))) (λ_ _ _ _ _ _=>ax (i:=0) Dw rfl (Or.inl rfl) (.inr rfl))
        (λ_ _ _ _ _ _=>bj) (λ_ _ _ _ _ _=>cb hu (pv 1) (pv 0) (λ_ _=>rfl))))) aY)
      (ar cS))) aY))))
    (ar (aT tL))),?_⟩
   have hN:=hC.nN
   have TY:((N:Int)+1-1).toNat=N:=by omega
   have TZ : -(2 ^ 62)<=(1:Int)/\(1:Int)<2 ^ 62 /\ -(2 ^ 62)<=(N:Int)+1/\(N:Int)+1<2 ^ 62:=⟨by decide,by decide,Int.le_trans (by decide : -(2 ^ 62)<=(0:Int)) (by omega),Int.lt_trans (by omega:(N:Int)+1<2000) (by decide)⟩
   refine ⟨_,rfl,(by show 1<=sizeLine; decide),λwa T3=>?_⟩
   have s1:aj H (upd H wa (.lst [.ref d])):=aj.ao T3
   have q1:(upd H wa (.lst [.ref d])) wa=some (.lst [.ref d]):=ag
   generalize upd H wa (.lst [.ref d])=H1 at s1 q1 ⊢
   refine ⟨λμ σ Hx=>∃(v4:Option V),σ=[some (.int (N:Int)),some (.ref p),some (.ref d),some (.ref wa),v4,none,none,none]/\aj H Hx/\((μ=1/\Hx wa=some (.lst [.ref d]))\/(μ=0/\Hx wa=some (.lst [])/\∀v,Sat v cs->j2 v told->False)),
    ⟨1,none,rfl,s1,.inl ⟨rfl,q1⟩⟩,?_⟩
   rintro μ σ Hx ⟨v4,rfl,sx,hw⟩
   refine ⟨_,rfl,(by show 0<=sizeLine; decide),λE1 NO=>?_⟩
   have s2:aj Hx (upd Hx E1 (.lst [])):=aj.ao NO
   have q2:(upd Hx E1 (.lst [])) E1=some (.lst []):=ag
   generalize upd Hx E1 (.lst [])=H2 at s2 q2 ⊢
   have eX:=sx.trans s2
   rcases hw with ⟨rfl,hw⟩ | ⟨rfl,hw,jg⟩
   . refine ⟨wa,E1,_,rfl,rfl,aq.of (s2 _ _ hw),aq.of q2,_,rfl,gc rfl ?_⟩
     refine ⟨λbx H'=>∃(v4:Option V),bx=[some (.int (N:Int)),some (.ref p),some (.ref d),some (.ref wa),v4,none,none,none]/\aj H H'/\H' wa=some (.lst [])/\∀v,Sat v cs->j2 v told->False,
      λbx H' ⟨v4,e,h1,h2,h3⟩=>⟨0,by decide,v4,e,h1,.inr ⟨rfl,h2,h3⟩⟩,?_⟩
     refine ⟨_,rfl,_,rfl,.inl ⟨rfl,_,aq.of (s2 _ _ hw)⟩,wa,[.ref d],.ref d,rfl,rfl,s2 _ _ hw,rfl,?_⟩
     have s3:aj H (upd H2 wa (.lst ([V.ref d].dropLast))):=λa o ha=>by
      rw [ai (af ha T3)]
      exact eX _ _ ha
     have q3:(upd H2 wa (.lst ([V.ref d].dropLast))) wa=some (.lst []):=ag
     generalize upd H2 wa (.lst ([V.ref d].dropLast))=H3 at s3 q3 ⊢
     refine ⟨p,d,ts,cs,told,N,rfl,hC.same s3,s3 _ _ hd,hK,λH4 s4 jg=>?_,λq l H4 s4 hq NR hS=>?_⟩
     . refine ⟨_,rfl,_,rfl,cE rfl ⟨_,rfl,s3.trans s4,s4 _ _ q3,jg⟩⟩
     . refine ⟨_,rfl,_,rfl,gc rfl ?_⟩
       have hf:=QW l hS
       have gQ:=s3.trans s4
       refine ⟨_,rfl,_,_,rfl,rfl,1,(N:Int)+1,rfl,TZ,λD hD=>?_⟩
       rw [TY]
       have nqD:q≠D:=af NR hD
       refine cY N (λi acc σ H5=>acc=[]/\(∃u,σ=[u,some (.ref q)])/\H5=upd H4 D (.lst [])) ⟨rfl,⟨none,rfl⟩,rfl⟩ ag ?_ ?_
       . rintro acc σ H5 aW ⟨rfl,_,rfl⟩
         refine ⟨Nat.le_refl _,?_⟩
         have s5:aj H4 (upd H4 D (.lst [])):=aj.ao hD
         generalize upd H4 D (.lst [])=H5 at s5 aW ⊢
         refine ⟨_,rfl,(by show 0<=sizeLine; decide),λE2 NQ=>?_⟩
         have s6:aj H5 (upd H5 E2 (.lst [])):=aj.ao NQ
         have q6:(upd H5 E2 (.lst [])) E2=some (.lst []):=ag
         generalize upd H5 E2 (.lst [])=H6 at s6 q6 ⊢
         refine ⟨D,E2,_,rfl,rfl,aq.of (s6 _ _ aW),aq.of q6,_,rfl,gc rfl ?_⟩
         have Jc:=s5.trans s6
         have zN:=gQ.trans Jc
         have T4:=Jc _ _ NR
         refine ⟨_,rfl,_,_,rfl,rfl,1,(N:Int)+1,rfl,TZ,λR hR=>?_⟩
         rw [TY]
         have nqR:q≠R:=af T4 hR
         refine cY N (λi acc σ H7=>acc=((List.range i).map λi:Nat=>(b9 l ((i:Int)+1)).getD 0).map V.int/\(∃u,σ=[u,some (.ref q)])/\H7=upd H6 R (.lst acc)) ⟨rfl,⟨none,rfl⟩,rfl⟩ ag ?_ ?_
         . rintro acc σ H7 FF ⟨rfl,_,rfl⟩
           exact ⟨Nat.le_refl _,k2 R l _ (zN.trans (aj.ao hR)) (zN.free hR) ag hS⟩
         . rintro i acc σ H7 hi FF ⟨rfl,⟨u,rfl⟩,rfl⟩
           refine ⟨hi,?_⟩
           rintro x' H' ⟨rfl,rfl⟩
           refine cA ?_
           have e1:(1:Int)+(i:Int)=(i:Int)+1:=by omega
           obtain ⟨b,hb⟩:∃b,b9 l ((i:Int)+1)=some b:=by
            cases e:b9 l ((i:Int)+1) with
            | none=>exact absurd e (hf i hi)
            | some b=>exact ⟨b,rfl⟩
           refine ⟨_,rfl,_,rfl,q,.int b,rfl,.inl ⟨dz l,.inl ((i:Int)+1),.inl ((ai nqR).trans T4),(by rw [← e1]; rfl),by rw [Du,hb]; rfl⟩,_,ag,?_,bo hi ag ⟨?_,⟨_,rfl⟩,?_⟩⟩
           . rw [List.length_map,List.length_map,List.length_range]
             exact small (by omega)
           . rw [List.range_succ,List.map_append,List.map_append]
             show _=_++[V.int ((b9 l ((i:Int)+1)).getD 0)]
             rw [hb]
             rfl
           . rw [g7]
       . rintro i acc σ H5 hi aW ⟨rfl,⟨u,rfl⟩,rfl⟩
         refine ⟨hi,?_⟩
         rintro x' H' ⟨rfl,rfl⟩
         have e1:(1:Int)+(i:Int)=(i:Int)+1:=by omega
         refine ⟨_,rfl,_,rfl,q,_,rfl,cw.k (k:=.inl (1+(i:Int))) ((ai nqD).trans NR),_,rfl,?_⟩
         rw [tw,e1]
         exact cE (decide_eq_false (hf i hi)) (bo hi ag ⟨rfl,⟨_,rfl⟩,rfl⟩)
   . refine ⟨wa,E1,_,rfl,rfl,aq.of (s2 _ _ hw),aq.of q2,_,rfl,cE rfl ?_⟩
     exact k1 _ eX jg
end
end Gen
namespace Gen
open PySem L2
abbrev qQ:Stmt:=top 28
theorem lx:∀(k:Nat),∀r∈ef k,fg k r
 | 0,r,h=>by
  have:r=[]:=by simpa [ef] using h
  rw [this]
  exact ⟨rfl,λ_ hb=>nomatch hb⟩
 | k+1,r,h=>by
  rw [ef] at h
  obtain ⟨q,hq,hr⟩:=List.mem_flatMap.mp h
  have ih:=lx k q hq
  simp only [List.mem_cons,List.not_mem_nil,or_false] at hr
  rcases hr with rfl | rfl
  . refine ⟨by rw [List.length_append,← ih.1]; rfl,λb hb=>?_⟩
    rcases List.mem_append.mp hb with hb | hb
    . exact ih.2 b hb
    . exact .inl (List.mem_singleton.mp hb)
  . refine ⟨by rw [List.length_append,← ih.1]; rfl,λb hb=>?_⟩
    rcases List.mem_append.mp hb with hb | hb
    . exact ih.2 b hb
    . exact .inr (List.mem_singleton.mp hb)
theorem FG {rows:List (List Int)}{f:V}(h:rows≠[]):qI rows f≠[]:=by
 unfold qI
 cases rows with
 | nil=>exact absurd rfl h
 | cons r l=>
  rw [List.flatMap_cons]
  unfold xH
  split
  . simp
  . split <;> simp
theorem Ht (fs:List V):vx fs≠[]:=by
 unfold vx
 have:∀(fs:List V) (acc:List (List Int)),acc≠[]->fs.foldl qI acc≠[]:=λfs=>by
  induction fs with
  | nil=>exact λacc h=>h
  | cons f fs ih=>exact λacc h=>ih _ (FG h)
 exact this fs _ (by simp)
def qR (M:aN):List (List Int):=(ef M.keepers.length).filter (fJ (M.keepers.map (·.2)))
theorem Dz {M:aN}(h:∀r∈M.keepers,vw r.2):0<(qR M).length:=by
 unfold qR
 rw [← BN M.keepers.length (M.keepers.map (·.2)) (List.length_map ..) λv hv=>by
  obtain ⟨r,zF,rfl⟩:=List.mem_map.mp hv
  exact h r zF]
 exact List.length_pos_iff.mpr (Ht _)
theorem K8 (k:Nat):0<(ef k).length:=by rw [vy]; exact Nat.two_pow_pos k
theorem Cd {H:Hp}{us:List Addr}{L:List (List Int)}(h:ck H us L) (hp:0<L.length) (v:Int):∃t b,iq (us.map V.ref) (v % ((us.map V.ref).length:Int))=some (.ref t)/\b∈L/\dQ H t b:=by
 have hl:=h.length
 have h0:0<=v % (us.length:Int):=Int.emod_nonneg _ (by omega)
 have h1:v % (us.length:Int)<(us.length:Int):=Int.emod_lt_of_pos _ (by omega)
 rw [List.length_map]
 generalize v % (us.length:Int)=z at h0 h1
 obtain ⟨j,rfl⟩:=Int.eq_ofNat_of_zero_le h0
 have hj:j<L.length:=by omega
 obtain ⟨t,ht,hT⟩:=a9 h (i:=j) (List.getElem?_eq_getElem hj)
 refine ⟨t,L[j],cV (by rw [List.getElem?_map,ht]; rfl),List.getElem_mem hj,hT⟩
def QX (K:W.Frag):List V->Hp->VK->Prop:=λxs H Q=>∃p ys,xs=[V.ref p]/\(aq K H p ys\/aR K H p ys)/\Q (.int ys.length) H
inductive Ce (K:W.Frag) (vs:List V) (H:Hp) (Q:VK):Prop
 | mk (m a1 a2 a3 a4 a5 a6 sc:Addr) (M:aN) (names:List Str) (ns:List Int) (k:Int) (c:Nat) (h1:vs=[.ref m,.ref sc,.int k,.int (c:Int)]) (h2:eu H m M a1 a2 a3 a4 a5 a6) (h3:Fm M names) (h4:M.keepers.length<=6) (h5:M.switches.length<=6) (h6:aq K H sc (ns.map V.int)) (h7:0<=k) (h8:k<=100) (h9:c<=20) (EC:∀(t st rw g0:Addr) (us ws:List Addr) (cs:List Int) (bss:List (List Int)) (H':Hp),aj H H'->H' t=some (.tup [.ref st,.ref rw,.ref g0])->dQ H' st cs->cs∈qR M->H' rw=some (.lst (us.map V.ref))->ck H' us bss->(∀bs∈bss,fg M.switches.length bs)->bss.length=c->H' g0=some (.lst (ws.map V.ref))->ck H' ws (runs M cs bss (c+1))->Q (.ref t) H'):Ce K vs H Q
def Ae (K:W.Frag):Sp:=λvs H Q _=>Ce K vs H Q
abbrev nRD:List Str:=["_law_m", "_law_script", "_law_k", "_law_many", "_law_firsts_here", "_law_inputs", "_law_stand", "_law_row", "_law_stands", "_law_one"]
abbrev Cf:List Str:=["_law_m", "_law_script", "_law_k", "_law_many"]
theorem WK:(["_law_j", "_law_inputs", "_law_script", "_law_k"]:List Str).Nodup:=by decide +kernel
section
variable {P:Program}{w:World}{K:W.Frag}{mg:Str->Option Value}{base:Heap}
theorem tF:aQ nRD Cf (au qQ):=⟨rfl,rfl,rfl,by decide +kernel,rfl,by decide +kernel,by decide +kernel⟩
theorem K9 {f fA fF fN fC fX:Addr}{fd dA dF dN dC dX:FuncData}(F:cC K "_law_run" "_law_run" qQ f fd) (O2:eY mg) (O:Own mg)
 (gA:aw P w K mg base aD 1 fA dA ["_law_many"] (qe K)) (mA:mg "_law_all_bits" = some (.ref fA)) (kA:W.keepIn K (.ref fA)=true) (bA:Binds K dA ["_law_many"] [])
 (gF:aw P w K mg base aD 2 fF dF ["_law_m"] (oo K)) (mF:mg "_law_firsts" = some (.ref fF)) (kF:W.keepIn K (.ref fF)=true) (bF:Binds K dF ["_law_m"] [])
 (gN:aw P w K mg base aD 3 fN dN lO (zw K)) (mN:mg "_law_next" = some (.ref fN)) (kN:W.keepIn K (.ref fN)=true) (bN:Binds K dN lO [])
 (gC:aw P w K mg base aD 1 fC dC ["_law_script", "_law_k"] (pG K)) (mC:mg "_law_cell_at" = some (.ref fC)) (kC:W.keepIn K (.ref fC)=true) (bC:Binds K dC ["_law_script", "_law_k"] [])
 (gX:aw P w K mg base aD 1 fX dX ["_law_cell", "_law_k"] uh) (mX:mg "_law_mix" = some (.ref fX)) (kX:W.keepIn K (.ref fX)=true) (bX:Binds K dX ["_law_cell", "_law_k"] []):aw P w K mg base aD 4 f fd Cf (Ae K):=by
 refine F.ok tF (λvs H Q E h=>?_) (λcdv A outer s H vs Q E hr h=>?_)
 . obtain ⟨m,a1,a2,a3,a4,a5,a6,sc,M,names,ns,k,c,rfl,_⟩:=h
   rfl
 . obtain ⟨m,a1,a2,a3,a4,a5,a6,sc,M,names,ns,k,c,rfl,hM,hm,k6,w6,T6,k0,k1,hc,kk⟩:=h
   have hu:=eZ hr
   have cI:bg 1 _:=hr.mono (by decide)
   have fT:bg 2 _:=hr.mono (by decide)
   refine ⟨_,ak (aE (i:=4) tF.nd rfl (Or.inl rfl) (aA gF fT rfl mF kF bF .nil az (ae (pv 0) ah)))
    (ak (aE (i:=5) tF.nd rfl (Or.inr rfl) (aA gA cI rfl mA kA bA .nil az (ae (aU bZ (by rfl) O2.len PySem.boot_len (ae (cb hu (pv 0) aO (λ_ _=>rfl)) ah)) ah)))
    (ak (aE (i:=6) tF.nd rfl (Or.inl rfl) (bz (r:=jl K) bJ (pv 4) (aH ij (aA gX cI rfl mX kX bX .nil az (ae (aA gC cI rfl mC kC bC .nil az (ae (pv 1) (ae (aH cL av (pv 2)) ah))) (ae (pv 2) ah))) (aU bZ (by rfl) O2.len PySem.boot_len (ae (pv 4) ah))) (λ_ _=>rfl)))
    (ak (qq (i:=7) (N:=["_law_j", "_law_inputs", "_law_script", "_law_k"]) (js:=[none,some 5,some 1,some 2]) tF.nd rfl rfl (by kernel_rfl) rfl (cO rfl O.range (ae (pv 3) ah)) (λ_ _ _ _ _ _=>ax (i:=0) WK rfl (Or.inl rfl) (.inr rfl)) (λ_ _ _ _ _ _=>bj)
     (λ_ _ _ _ _ _=>bz (r:=jl K) bJ (pv 1) (aH ij (aA gX cI (by rfl) mX kX bX .nil az (ae (aA gC cI (by rfl) mC kC bC .nil az (ae (pv 2) (ae (aH cL (aH cL av (aH ft av (pv 3))) (pv 0)) ah))) (ae (pv 0) ah))) (aU (r:=QX K) bZ (by rfl) O2.len PySem.boot_len (ae (pv 1) ah))) (λ_ _=>rfl)))
    (ak (aE (i:=8) tF.nd rfl (Or.inl rfl) (bt (ae (pv 6) ah)))
    (ak (cc PassesOwn.never rfl (bU (pv 7)) (ax (i:=9) tF.nd rfl (Or.inl rfl))
     (ar (dg (eD PySem.F.plainAttrs_list PySem.F.slot_list_append PySem.F.type_list_append dj (pv 8) (ae (aA gN (hr.mono (by decide)) rfl mN kN bN .nil az (ae (pv 0) (ae (bz (r:=jl K) bJ (pv 8) (g9 fu av) (λ_ _=>rfl)) (ae (pv 9) ah)))) ah)))))
    (ar (aT (eh (ae (pv 6) (ae (pv 7) (ae (pv 8) ah))))))))))),?_⟩
   refine ⟨_,rfl,m,a1,a2,a3,a4,a5,a6,M,rfl,hM,k6,hm.ok.first,λfp fs H1 s1 hfp Hu rJ=>?_⟩
   have jM:=hM.same s1
   refine ⟨_,rfl,m,.ref a1,rfl,cw.k (k:=.inr "switches") jM.top,a1,_,rfl,.inl (aq.of jM.sw),?_⟩
   rw [List.length_map]
   refine ⟨_,rfl,by omega,by omega,λtl gs H2 s2 mE vc rP=>?_⟩
   rw [show ((M.switches.length:Int)).toNat=M.switches.length by omega] at rP
   have eX:=s1.trans s2
   have NS:ck H2 fs (qR M):=ck.same rJ s2
   have NT:=s2 _ _ Hu
   have QY:=Dz hm.ok.first
   have pJ:=NS.length
   refine ⟨_,rfl,_,rfl,_,rfl,_,_,rfl,rfl,sc,ns,4+k,rfl,aj.seq eX T6,by omega,λv1=>?_⟩
   refine ⟨_,rfl,v1,k,rfl,k0,by omega,λv2 _ _=>?_⟩
   refine ⟨_,rfl,fp,_,rfl,.inl (aq.of NT),_,_,rfl,rfl,(by rw [List.length_map]; omega),?_⟩
   obtain ⟨st,cs,gf,t8,T7⟩:=Cd NS QY v2
   refine ⟨fp,_,_,_,rfl,rfl,aq.of NT,gf,?_⟩
   have FH:fg M.keepers.length cs:=lx _ _ (List.mem_filter.mp t8).1
   have jI:=rP.length
   have hgp:=K8 M.switches.length
   refine ⟨_,rfl,_,rfl,by omega,Int.lt_trans (by omega:(c:Int)<1000) (by decide),λD hD=>?_⟩
   rw [show ((c:Int)).toNat=c by omega]
   refine cY c (λj acc σ H3=>(∃(us:List Addr) (bss:List (List Int)),acc=us.map V.ref/\ck H3 us bss/\(∀bs∈bss,fg M.switches.length bs)/\bss.length=j)/\(∃u,σ=[u,some (.ref tl),some (.ref sc),some (.int k)])/\aj H2 H3) ⟨⟨[],[],rfl,.nil,(λ_ h=>nomatch h),rfl⟩,⟨none,rfl⟩,aj.ao hD⟩ ag ?_ ?_
   . rintro acc σ H3 aW ⟨⟨us,bss,rfl,cG,xi,iX⟩,_,s3⟩
     refine ⟨Nat.le_refl _,?_⟩
     have gH:=eX.trans s3
     refine ⟨_,rfl,(by show 1<=sizeLine; decide),λg0 vJ=>?_⟩
     have s4:aj H3 (upd H3 g0 (.lst [.ref st])):=aj.ao vJ
     have q4:(upd H3 g0 (.lst [.ref st])) g0=some (.lst ([st].map V.ref)):=ag
     generalize upd H3 g0 (.lst [.ref st])=H4 at s4 q4 ⊢
     have wX:dQ H4 st cs:=s4 _ _ (s3 _ _ T7)
     have gp:=cG.length
     refine ⟨_,rfl,D,rfl,⟨_,aq.of (s4 _ _ aW)⟩,d7 (K:=K) (a:=D) (xs:=us.map V.ref) (λi σ Hi=>∃(v9:Option V) (ws:List Addr),σ=[some (.ref m),some (.ref sc),some (.int k),some (.int (c:Int)),some (.ref fp),some (.ref tl),some (.ref st),some (.ref D),some (.ref g0),v9]/\aj H3 Hi/\Hi g0=some (.lst (ws.map V.ref))/\ck Hi ws (runs M cs bss (i+1))) ⟨none,[st],rfl,s4,q4,.cons wX .nil⟩ ?_ ?_ ?_⟩
     . rintro i σ Hi _ ⟨_,_,_,si,_⟩
       exact aq.of (si _ _ aW)
     . rintro i xv σ Hi hx ⟨v9,ws,rfl,si,Af,fE⟩
       have hi:i<bss.length:=by
        have:=(List.getElem?_eq_some_iff.mp hx).1
        rw [List.length_map] at this
        omega
       obtain ⟨t,ht,hT⟩:=a9 cG (i:=i) (List.getElem?_eq_getElem hi)
       have ex:xv=.ref t:=by
        rw [List.getElem?_map,ht] at hx
        exact (Option.some.inj hx).symm
       subst ex
       have uM:=xi _ (List.getElem_mem hi)
       have WL:fg M.keepers.length (du M cs (bss.take i)):=hm.du (λb hb=>xi b (List.mem_of_mem_take hb)) FH
       obtain ⟨wl,wp,ews,pC⟩:∃(wl:Addr) (wp:List Addr),ws=wp++[wl]/\dQ Hi wl (du M cs (bss.take i)):=by
        rw [wO] at fE
        have Jd:=fE.length
        rw [List.length_append,om] at Jd
        have cD:ws≠[]:=λe=>by rw [e] at Jd; simp at Jd
        refine ⟨ws.getLast cD,ws.dropLast,(List.dropLast_concat_getLast cD).symm,?_⟩
        obtain ⟨t',ER,hT'⟩:=a9 fE (i:=i) (b:=du M cs (bss.take i)) (by rw [List.getElem?_append_right (by rw [om]; exact Nat.le_refl _),om,Nat.sub_self]; rfl)
        have e2:ws.getLast cD=t':=by
         rw [List.getLast_eq_getElem]
         have e3:ws.length-1=i:=by simp at Jd; omega
         have:=(List.getElem?_eq_some_iff.mp ER).2
         simp only [e3]
         exact this
        rw [e2]
        exact hT'
       have Je:=hM.same (gH.trans si)
       refine ⟨_,rfl,.inl ⟨rfl,_,aq.of Af⟩,_,rfl,_,rfl,1,rfl,g0,_,-1,.ref wl,rfl,rfl,aq.of Af,(by rw [ews,List.map_append]; exact yn _ _),_,rfl,m,a1,a2,a3,a4,a5,a6,wl,t,M,names,bss[i],du M cs (bss.take i),rfl,Je,hm.fit uM WL,dQ.k pC,dQ.k (si _ _ hT),λq H5 hq s5 pS=>?_⟩
       have WM:=fE.length
       rw [om] at WM
       refine ⟨g0,_,_,rfl,rfl,s5 _ _ Af,(by rw [List.length_map]; exact small (by omega)),?_⟩
       refine ⟨_,ws++[q],rfl,λa o ha=>?_,by rw [ag,List.map_append]; rfl,?_⟩
       . rw [ai (af ha vJ)]
         exact s5 _ _ (si _ _ ha)
       . rw [wO,uE hi]
         refine bE (Paired.bh fE λa b e=>?_) (.cons ?_ .nil)
         . have e':=s5 _ _ e
           show (upd _ _ _) a=_
           rw [ai (bu e' (s5 _ _ Af) (by intro z; cases z))]
           exact e'
         . show (upd _ _ _) q=_
           rw [ai (bu pS (s5 _ _ Af) (by intro z; cases z))]
           exact pS
     . rintro σ Hi ⟨v9,ws,rfl,si,Af,fE⟩
       rw [List.length_map,gp,iX] at fE
       refine ⟨_,rfl,_,rfl,_,rfl,(by show 3<=sizeLine; decide),λt ht=>?_⟩
       have s6:aj Hi (upd Hi t (.tup [.ref st,.ref D,.ref g0])):=aj.ao ht
       have Jf:=si.trans s6
       exact kk t st D g0 us ws cs bss _ (gH.trans Jf) ag (Jf _ _ (s3 _ _ T7)) t8 (Jf _ _ aW) (ck.same cG Jf) xi iX (s6 _ _ Af) (ck.same fE s6)
   . rintro j acc σ H3 hj aW ⟨⟨us,bss,rfl,cG,xi,iX⟩,⟨u,rfl⟩,s3⟩
     refine ⟨hj,?_⟩
     rintro x' H' ⟨rfl,rfl⟩
     refine cA ?_
     have e0:(0:Int)+(j:Int)=(j:Int):=Int.zero_add _
     refine ⟨_,rfl,_,rfl,_,rfl,_,_,rfl,rfl,.inl ⟨by decide,by decide⟩,_,_,rfl,rfl,_,rfl,_,_,rfl,rfl,sc,ns,_,rfl,aj.seq (eX.trans s3) T6,by omega,λv1=>?_⟩
     refine ⟨_,rfl,v1,_,rfl,by omega,by omega,λv2 _ _=>?_⟩
     have NU:=s3 _ _ vc
     refine ⟨_,rfl,tl,_,rfl,.inl (aq.of NU),_,_,rfl,rfl,(by rw [List.length_map]; omega),?_⟩
     obtain ⟨t,b,ht,hb,hT⟩:=Cd (ck.same rP s3) hgp v2
     have gp:=cG.length
     refine ⟨tl,_,_,_,rfl,rfl,aq.of NU,ht,_,aW,(by rw [List.length_map]; exact small (by omega)),bo hj ag ⟨⟨us++[t],bss++[b],by rw [List.map_append]; rfl,?_,λbs h=>?_,by rw [List.length_append,iX]; rfl⟩,⟨_,rfl⟩,λa o ha=>?_⟩⟩
     . refine bE (Paired.bh cG λa b' e=>?_) (.cons ?_ .nil)
       . show (upd _ _ _) a=_
         rw [ai (bu e aW (by intro z; cases z))]
         exact e
       . show (upd _ _ _) t=_
         rw [ai (bu hT aW (by intro z; cases z))]
         exact hT
     . rcases List.mem_append.mp h with h | h
       . exact xi bs h
       . rw [List.mem_singleton.mp h]
         exact lx _ _ hb
     . rw [ai (af ha hD)]
       exact s3 _ _ ha
end
end Gen
namespace Gen
open PySem L2
abbrev Cg:Stmt:=top 29
theorem cH (names:List Str) (k:Nat) (z:Str):2<=a7 names k z:=by
 unfold a7
 have h:0<=(k:Int)*(names.length:Int):=Int.mul_nonneg (by omega) (by omega)
 omega
theorem kf {names:List Str}{k c:Nat}{z:Str}(h:z∈names) (hk:k<c):a7 names k z<=((1+c*names.length:Nat):Int):=by
 have h1:=nr h
 have h2:(k+1)*names.length<=c*names.length:=Nat.mul_le_mul_right _ hk
 rw [Nat.succ_mul] at h2
 unfold a7
 have e:(k:Int)*(names.length:Int)=((k*names.length:Nat):Int):=by rw [Int.natCast_mul]
 rw [e]
 omega
theorem uO {names:List Str}{k k':Nat}{z z':Str}(h:z∈names) (h':z'∈names) (e:a7 names k z=a7 names k' z'):k=k'/\z=z':=by
 have h1:=nr h
 have h2:=nr h'
 have e2:gT names z+k*names.length=gT names z'+k'*names.length:=by
  unfold a7 at e
  have e1:(k:Int)*(names.length:Int)=((k*names.length:Nat):Int):=by rw [Int.natCast_mul]
  have e2:(k':Int)*(names.length:Int)=((k'*names.length:Nat):Int):=by rw [Int.natCast_mul]
  rw [e1,e2] at e
  omega
 have hp:0<names.length:=by omega
 have d1:(gT names z+k*names.length) / names.length=k:=by rw [Nat.add_mul_div_right _ _ hp,Nat.div_eq_of_lt h1,Nat.zero_add]
 have d2:(gT names z'+k'*names.length) / names.length=k':=by rw [Nat.add_mul_div_right _ _ hp,Nat.div_eq_of_lt h2,Nat.zero_add]
 have ek:k=k':=by rw [← d1,← d2,e2]
 subst ek
 have ep:gT names z=gT names z':=by omega
 refine ⟨rfl,?_⟩
 have a1:=iN h
 rw [ep,iN h'] at a1
 exact (Option.some.inj a1).symm
theorem FI {names:List Str}{k:Nat}{z:Str}(h:z∈names){l:List (Int×Int)}(hl:∀r∈l,∃k' z',r.1=a7 names k' z'/\z'∈names/\(k'≠k\/z'≠z)):a7 names k z∉l.map (·.1):=λhm=>by
 obtain ⟨r,hr,e⟩:=List.mem_map.mp hm
 obtain ⟨k',z',e1,rf,cD⟩:=hl r hr
 have e':r.1=a7 names k z:=e
 rw [e1] at e'
 obtain ⟨q1,q2⟩:=uO rf h e'
 rcases cD with n | n
 . exact n q1
 . exact n q2
def ja (M:aN) (cs:List Int):List (Int×Int):=((M.keepers.map (·.1)).zip cs).map λr=>(a7 (aa M) 0 r.1,r.2)
def lV (M:aN) (k:Nat) (bs:List Int):List (Int×Int):=(M.switches.zip bs).map λr=>(a7 (aa M) k r.1,r.2)
def ly (M:aN) (bss:List (List Int)) (k:Nat):List (Int×Int):=lV M k (bss.getD k [])
def eG (M:aN) (cs:List Int) (bss:List (List Int)):List (Int×Int):=ja M cs++(List.range bss.length).flatMap (ly M bss)
theorem hW {M:aN}{r:Str×V}(h:r∈M.keepers):r.1∈aa M:=List.mem_append_left _ (List.mem_append_right _ (List.mem_map.mpr ⟨r,h,rfl⟩))
theorem FJ {M:aN}{z:Str}(h:z∈M.keepers.map (·.1)):z∈aa M:=List.mem_append_left _ (List.mem_append_right _ h)
theorem oC {M:aN}{z:Str}(h:z∈M.switches):z∈aa M:=List.mem_append_left _ (List.mem_append_left _ h)
theorem Hv {M:aN}(h:(aa M).Nodup){z z':Str}(hz:z∈M.switches) (rf:z'∈M.keepers.map (·.1)):z'≠z:=λe=>by
 subst e
 exact (List.nodup_append.mp (List.nodup_append.mp h).1).2.2 _ hz _ rf rfl
inductive Jg (K:W.Frag) (C2:Addr) (vs:List V) (H:Hp) (Q:VK):Prop
 | mk (y dy sw kp gt mv of m a1 a2 a3 a4 a5 a6 st rw:Addr) (ts us qs:List Addr) (c:Nat) (M:aN) (cs:List Int) (bss:List (List Int)) (h1:vs=[.ref y,.ref m,.ref st,.ref rw]) (h2:SO C2 H y dy sw kp gt mv of ts us c M) (h3:Sm M) (h4:eu H m M a1 a2 a3 a4 a5 a6) (h5:vq K H st cs) (h6:M.keepers.length=cs.length) (h7:H rw=some (.lst (qs.map V.ref))) (h8:ck H qs bss) (h9:(∀bs∈bss,M.switches.length=bs.length)) (EC:bss.length<=c) (SU:1<=c) (SV:c<=9) (SW:(aa M).length<=100) (h14:∀d H',H d=none->aj H H'->H' d=some (.dK (dz (eG M cs bss)))->i9 (1+c*(aa M).length) (eG M cs bss)->Q (.ref d) H'):Jg K C2 vs H Q
def DA (K:W.Frag) (C2:Addr):Sp:=λvs H Q _=>Jg K C2 vs H Q
abbrev nBO:List Str:=["_law_steps", "_law_m", "_law_stand", "_law_row", "_law_told", "_law_good", "_law_keeper", "_law_bit_here", "_law_k", "_law_name"]
abbrev xj:List Str:=["_law_steps", "_law_m", "_law_stand", "_law_row"]
section
variable {P:Program}{w:World}{K:W.Frag}{mg:Str->Option Value}{base:Heap}{C2:Addr}
theorem mf:aQ nBO xj (au Cg):=⟨rfl,rfl,rfl,by decide +kernel,rfl,by decide +kernel,by decide +kernel⟩
theorem QZ {f fN fW:Addr}{fd dN dW:FuncData}(F:cC K "_law_bits_of" "_law_bits_of" Cg f fd) (T2:iF K mg C2) (O2:eY mg) (O:Own mg)
 (gN:aw P w K mg base aD 2 fN dN iM (iw C2 true)) (mN:Meth K C2 "number" fN) (bN:Binds K dN iM [])
 (gW:aw P w K mg base aD 1 fW dW Ca zY) (mW:mg "_law_wanted" = some (.ref fW)) (kW:W.keepIn K (.ref fW)=true) (bW:Binds K dW Ca []):aw P w K mg base aD 3 f fd xj (DA K C2):=by
 refine F.ok mf (λvs H Q E h=>?_) (λcdv A outer s H vs Q E hr h=>?_)
 . obtain ⟨y,dy,sw,kp,gt,mv,of,m,a1,a2,a3,a4,a5,a6,st,jb,ts,us,qs,c,M,cs,bss,rfl,_⟩:=h
   rfl
 . obtain ⟨y,dy,sw,kp,gt,mv,of,m,a1,a2,a3,a4,a5,a6,st,jb,ts,us,qs,c,M,cs,bss,rfl,hO,hm,hM,gf,et,uP,nu,iX,IF,rF,NV,Q0,kk⟩:=h
   have hu:=eZ hr
   have cI:bg 1 _:=hr.mono (by decide)
   refine ⟨_,ak (aE (i:=4) mf.nd rfl (Or.inl rfl) yk)
    (ak (aE (i:=5) mf.nd rfl (Or.inl rfl) j3)
    (ak (cc PassesOwn.never rfl (mU (by rfl) O2.zip (ae (cb hu (pv 1) aO (λ_ _=>rfl)) (ae (pv 2) ah))) (eg rfl (aK (ax (i:=6) mf.nd rfl (Or.inl rfl)) (aK (ax (i:=7) mf.nd rfl (Or.inl rfl)) cU)))
     (ar (aE (i:=5) mf.nd rfl (Or.inl rfl) (DN (pv 5) (xY (aA gW cI rfl mW kW bW .nil az (ae (pv 4) (ae (dh (pv 0) T2.cl mN gN hr bN .nil az (ae (bz (r:=pj K) mm (pv 6) av (λ_ _=>rfl)) (ae av ah))) (ae (pv 7) ah)))))))))
    (ak (cc PassesOwn.never rfl (cO rfl O.range (ae (aU bZ (by rfl) O2.len PySem.boot_len (ae (pv 3) ah)) ah)) (ax (i:=8) mf.nd rfl (Or.inl rfl))
     (ar (cc PassesOwn.never rfl (mU (by rfl) O2.zip (ae (cb hu (pv 1) aO (λ_ _=>rfl)) (ae (bz (r:=jl K) bJ (pv 3) (pv 8) (λ_ _=>rfl)) ah))) (eg rfl (aK (ax (i:=9) mf.nd rfl (Or.inl rfl)) (aK (ax (i:=7) mf.nd rfl (Or.inl rfl)) cU)))
      (ar (aE (i:=5) mf.nd rfl (Or.inl rfl) (DN (pv 5) (xY (aA gW cI rfl mW kW bW .nil az (ae (pv 4) (ae (dh (pv 0) T2.cl mN gN hr bN .nil az (ae (pv 9) (ae (pv 8) ah))) (ae (pv 7) ah)))))))))))
    (ar (aT (sk (ie (pv 5)) (pv 4) tL)))))),?_⟩
   have j0:(b8 (c:Int) sw kp gt mv of).lookup ("number" : Str)=none:=ib _ _ _ _ _ _ (by decide +kernel) (by decide +kernel) (by decide +kernel) (by decide +kernel) (by decide +kernel) (by decide +kernel)
   have zu:=hm.n1
   have fi:=hm.n2
   have ae2:1+c*(aa M).length<=1000:=by
    have:c*(aa M).length<=9*100:=Nat.mul_le_mul NV Q0
    omega
   intro d hd
   have s1:aj H (upd H d (.dK [])):=aj.ao hd
   have q1:(upd H d (.dK [])) d=some (.dK (dz ((ja M cs).take 0))):=ag
   generalize upd H d (.dK [])=H1 at s1 q1 ⊢
   have jM:=hM.same s1
   obtain ⟨ks,wL,lQ⟩:=id hM.kp
   have mJ:=lQ.length
   rw [List.length_map] at mJ
   have ndK:(M.keepers.map (·.1)).Nodup:=(List.nodup_append.mp (List.nodup_append.mp hm.nd).1).2.1
   have ndS:M.switches.Nodup:=(List.nodup_append.mp (List.nodup_append.mp hm.nd).1).1
   have kpl:(ja M cs).length=M.keepers.length:=by
    unfold ja
    rw [List.length_map,List.length_zip,List.length_map]
    omega
   refine ⟨_,rfl,m,.ref a2,rfl,cw.k (k:=.inr "keepers") jM.top,_,rfl,a2,st,rfl,⟨_,aq.of (s1 _ _ wL)⟩,⟨_,aj.jn s1 gf⟩,qB (K:=K) (tp:=false) (tq:=true) (a:=a2) (b:=st) (xs:=ks.map V.ref) (ys:=cs.map V.int) (by simp only [List.length_map]; omega)
    (λi σ H2=>∃v6 v7,σ=[some (.ref y),some (.ref m),some (.ref st),some (.ref jb),some (.ref d),some (.bl true),v6,v7,none,none]/\H2 d=some (.dK (dz ((ja M cs).take i)))/\aj H H2/\i9 (1+c*(aa M).length) ((ja M cs).take i)) ?_ ?_ ?_ ?_⟩
   . exact ⟨none,none,rfl,q1,s1,⟨by simp,by simp⟩⟩
   . rintro i σ H2 _ ⟨_,_,_,_,s2,_⟩
     exact ⟨aq.of (s2 _ _ wL),aj.jn s2 gf⟩
   . rintro i xv yv Tp σ H2 hx hy hT ⟨v6,v7,rfl,hd2,s2,hK2⟩
     have hi:i<M.keepers.length:=by
      have:=(List.getElem?_eq_some_iff.mp hx).1
      rw [List.length_map] at this
      omega
     have qb:i<cs.length:=by omega
     obtain ⟨t,ht,By⟩:=a9 lQ (i:=i) (b:=iY M.keepers[i]) (by rw [List.getElem?_map,List.getElem?_eq_getElem hi]; rfl)
     have ex:xv=.ref t:=by
      rw [List.getElem?_map,ht] at hx
      exact (Option.some.inj hx).symm
     have ey:yv=.int cs[i]:=by
      rw [List.getElem?_map,List.getElem?_eq_getElem qb] at hy
      exact (Option.some.inj hy).symm
     subst ex ey
     have bK:=List.getElem_mem hi
     have dv:(ja M cs).take (i+1)=(ja M cs).take i++[(a7 (aa M) 0 M.keepers[i].1,cs[i])]:=by
      unfold ja
      rw [← List.map_take,← List.map_take,og (by rw [List.length_map]; exact hi) qb,List.map_append,List.getElem_map]
      rfl
     have dJ:a7 (aa M) 0 M.keepers[i].1∉((ja M cs).take i).map (·.1):=by
      refine FI (hW bK) λr hr=>?_
      unfold ja at hr
      rw [← List.map_take] at hr
      obtain ⟨q,hq,rfl⟩:=List.mem_map.mp hr
      have rY:q.1∈(M.keepers.map (·.1)).take i:=by
       have:=List.mem_map_of_mem (f:=Prod.fst) hq
       rw [List.map_take,eT (by rw [List.length_map]; omega)] at this
       exact this
      refine ⟨0,q.1,rfl,FJ (List.mem_of_mem_take rY),.inr λe=>?_⟩
      have k8:=jt (pre:=[]) (post:=[]) (l:=M.keepers.map (·.1)) (i:=i) (by simpa using ndK) (by rw [List.length_map]; exact hi)
      rw [List.getElem_map,List.nil_append,← e] at k8
      exact k8 rY
     have s3:aj H2 (upd H2 Tp (.tup [.ref t,.int cs[i]])):=aj.ao hT
     have q3:(upd H2 Tp (.tup [.ref t,.int cs[i]])) Tp=some (.tup [.ref t,.int cs[i]]):=ag
     have hlen:=hK2.len
     have IM:=cH (aa M) 0 M.keepers[i].1
     have lK:=kf (hW bK) (show 0<c by omega)
     generalize M.keepers[i]=r at By bK dv dJ IM lK
     refine ⟨Tp,_,rfl,aR.of q3,rfl,_,_,rfl,_,_,rfl,rfl,?_⟩
     show x4 _ _ _ _ (upd H2 Tp (.tup [.ref t,.int cs[i]]))
     generalize upd H2 Tp (.tup [.ref t,.int cs[i]])=H3 at s3 q3 ⊢
     have gH:=s2.trans s3
     have rZ:=hO.same gH
     refine ⟨_,rfl,true,rfl,gc rfl ?_⟩
     refine ⟨_,rfl,_,rfl,y,dy,_,rfl,rZ.hy,j0,_,rfl,t,_,0,_,rfl,rfl,aR.of (gH _ _ By),Nm,y,dy,sw,kp,gt,mv,of,aa M,_,r.1,0,_,rfl,rZ.hy,rZ.ho,hm.nd,hm.nm,by omega,by omega,.name (hW bK),(λh=>nomatch h),λH4 s4=>?_⟩
     refine ⟨_,rfl,d,_,_,_,rfl,s4 _ _ (s3 _ _ hd2),by omega,dJ,by omega,?_⟩
     refine ⟨_,_,rfl,by rw [ag,dv],λb o hb=>?_,?_⟩
     . rw [ai (af hb hd)]
       exact s4 _ _ (gH _ _ hb)
     . rw [dv]
       exact hK2.put dJ (by omega) lK
   rintro σ H2 ⟨v6,v7,rfl,hd2,s2,hK2⟩
   rw [List.length_map,mJ,← kpl,List.take_length] at hd2 hK2
   have WN:=s2 _ _ uP
   have oS:=nu.length
   refine ⟨_,rfl,jb,_,rfl,.inl (aq.of WN),_,rfl,by omega,?_,?_⟩
   . rw [List.length_map,oS]
     exact Int.lt_trans (by omega:(bss.length:Int)<1000) (by decide)
   rw [List.length_map,oS,show ((bss.length:Int)).toNat=bss.length by omega]
   refine eI (n:=bss.length) (λk σ Hi=>∃v7 v8 v9,σ=[some (.ref y),some (.ref m),some (.ref st),some (.ref jb),some (.ref d),some (.bl true),v6,v7,v8,v9]/\Hi d=some (.dK (dz (ja M cs++(List.range k).flatMap (ly M bss))))/\aj H Hi/\i9 (1+c*(aa M).length) (ja M cs++(List.range k).flatMap (ly M bss))) ⟨v7,none,none,rfl,by simpa using hd2,s2,by simpa using hK2⟩ ?_ ?_
   . rintro k σ Hi hk ⟨v7,v8,v9,rfl,hdi,si,hKi⟩
     have Ci:bss[k]?=some bss[k]:=List.getElem?_eq_getElem hk
     obtain ⟨rt,NW,FK⟩:=a9 nu (i:=k) Ci
     have NX:=iX _ (List.getElem_mem hk)
     have NY:ly M bss k=lV M k bss[k]:=by
      unfold ly
      rw [List.getD_eq_getElem?_getD,Ci]
      rfl
     generalize xi:bss[k]=bs at FK NX NY
     have Je:=hM.same si
     have swl:(lV M k bs).length=M.switches.length:=by
      unfold lV
      rw [List.length_map,List.length_zip]
      omega
     have e0:(0:Int)+(k:Int)=(k:Int):=Int.zero_add _
     have Nl:=si _ _ FK
     refine ⟨_,rfl,m,.ref a1,rfl,cw.k (k:=.inr "switches") Je.top,_,rfl,_,rfl,jb,_,_,.ref rt,rfl,rfl,aq.of (si _ _ uP),(by rw [e0]; exact cV (by rw [List.getElem?_map,NW]; rfl)),a1,rt,rfl,⟨_,aq.of Je.sw⟩,⟨_,dQ.k Nl⟩,qB (K:=K) (tp:=false) (tq:=true) (a:=a1) (b:=rt) (xs:=M.switches.map V.str) (ys:=bs.map V.int) (by simp only [List.length_map]; omega)
      (λi σ H3=>∃v7 v9,σ=[some (.ref y),some (.ref m),some (.ref st),some (.ref jb),some (.ref d),some (.bl true),v6,v7,some (.int (0+(k:Int))),v9]/\H3 d=some (.dK (dz (ja M cs++(List.range k).flatMap (ly M bss)++(lV M k bs).take i)))/\aj H H3/\i9 (1+c*(aa M).length) (ja M cs++(List.range k).flatMap (ly M bss)++(lV M k bs).take i)) ?_ ?_ ?_ ?_⟩
     . exact ⟨v7,v9,rfl,by simpa using hdi,si,by simpa using hKi⟩
     . rintro i σ H3 _ ⟨_,_,_,_,s3,_⟩
       exact ⟨aq.of (s3 _ _ hM.sw),dQ.k (s3 _ _ FK)⟩
     . rintro i xv yv Tp σ H3 hx hy hT ⟨v7,v9,rfl,hd3,s3,hK3⟩
       have hi:i<M.switches.length:=by
        have:=(List.getElem?_eq_some_iff.mp hx).1
        rwa [List.length_map] at this
       have qb:i<bs.length:=by omega
       have ex:xv=.str M.switches[i]:=by
        rw [List.getElem?_map,List.getElem?_eq_getElem hi] at hx
        exact (Option.some.inj hx).symm
       have ey:yv=.int bs[i]:=by
        rw [List.getElem?_map,List.getElem?_eq_getElem qb] at hy
        exact (Option.some.inj hy).symm
       subst ex ey
       have bK:=List.getElem_mem hi
       have dv:(lV M k bs).take (i+1)=(lV M k bs).take i++[(a7 (aa M) k M.switches[i],bs[i])]:=by
        unfold lV
        rw [← List.map_take,← List.map_take,og hi qb,List.map_append]
        rfl
       have dJ:a7 (aa M) k M.switches[i]∉(ja M cs++(List.range k).flatMap (ly M bss)++(lV M k bs).take i).map (·.1):=by
        refine FI (oC bK) λr hr=>?_
        rcases List.mem_append.mp hr with hr | hr
        . rcases List.mem_append.mp hr with hr | hr
          . unfold ja at hr
            obtain ⟨q,hq,rfl⟩:=List.mem_map.mp hr
            have rY:=(List.of_mem_zip hq).1
            exact ⟨0,q.1,rfl,FJ rY,.inr (Hv hm.nd bK rY)⟩
          . obtain ⟨k',gm,hr⟩:=List.mem_flatMap.mp hr
            unfold ly lV at hr
            obtain ⟨q,hq,rfl⟩:=List.mem_map.mp hr
            exact ⟨k',q.1,rfl,oC (List.of_mem_zip hq).1,.inl (Nat.ne_of_lt (List.mem_range.mp gm))⟩
        . unfold lV at hr
          rw [← List.map_take] at hr
          obtain ⟨q,hq,rfl⟩:=List.mem_map.mp hr
          have rY:q.1∈M.switches.take i:=by
           have:=List.mem_map_of_mem (f:=Prod.fst) hq
           rw [List.map_take,eT NX] at this
           exact this
          refine ⟨k,q.1,rfl,oC (List.mem_of_mem_take rY),.inr λe=>?_⟩
          have k8:=jt (pre:=[]) (post:=[]) (l:=M.switches) (i:=i) (by simpa using ndS) hi
          rw [List.nil_append,← e] at k8
          exact k8 rY
       have hlen:=hK3.len
       have IM:=cH (aa M) k M.switches[i]
       have lK:=kf (oC bK) (show k<c by omega)
       generalize M.switches[i]=z at bK dv dJ IM lK
       have s4:aj H3 (upd H3 Tp (.tup [.str z,.int bs[i]])):=aj.ao hT
       have q4:(upd H3 Tp (.tup [.str z,.int bs[i]])) Tp=some (.tup [.str z,.int bs[i]]):=ag
       refine ⟨Tp,_,rfl,aR.of q4,rfl,_,_,rfl,_,_,rfl,rfl,?_⟩
       show x4 _ _ _ _ (upd H3 Tp (.tup [.str z,.int bs[i]]))
       generalize upd H3 Tp (.tup [.str z,.int bs[i]])=H4 at s4 q4 ⊢
       have gQ:=s3.trans s4
       have j1:=hO.same gQ
       refine ⟨_,rfl,true,rfl,gc rfl ?_⟩
       refine ⟨_,rfl,_,rfl,y,dy,_,rfl,j1.hy,j0,_,rfl,_,rfl,y,dy,sw,kp,gt,mv,of,aa M,_,z,k,_,(by show [V.ref y,V.str z,V.int (0+(k:Int))]=_; rw [Int.zero_add]),j1.hy,j1.ho,hm.nd,hm.nm,by omega,by omega,.name (oC bK),(λh=>nomatch h),λH5 s5=>?_⟩
       refine ⟨_,rfl,d,_,_,_,rfl,s5 _ _ (s4 _ _ hd3),by omega,dJ,by omega,?_⟩
       refine ⟨_,_,rfl,by rw [ag,dv,← List.append_assoc],λb o hb=>?_,?_⟩
       . rw [ai (af hb hd)]
         exact s5 _ _ (gQ _ _ hb)
       . rw [dv,← List.append_assoc]
         exact hK3.put dJ (by omega) lK
     . rintro σ H3 ⟨v7,v9,rfl,hd3,s3,hK3⟩
       rw [List.length_map,← swl,List.take_length,← NY] at hd3 hK3
       refine ⟨_,_,_,rfl,?_,s3,?_⟩
       . rw [List.range_succ,List.flatMap_append,← List.append_assoc]
         simpa using hd3
       . rw [List.range_succ,List.flatMap_append,← List.append_assoc]
         simpa using hK3
   . rintro σ Hi ⟨v7,v8,v9,rfl,hdi,si,hKi⟩
     exact ⟨_,rfl,true,rfl,gc rfl ⟨_,rfl,kk d Hi hd si hdi hKi⟩⟩
end
end Gen
namespace Gen
open PySem L2
def Tv (v:Int->Int) (x:Int):Prop:=v (aF x)=fQ x
def Hw (v:Int->Int):Prop:=∀n,v n=0\/v n=1
theorem cm (x:Int):aF (-x)=aF x:=by
 unfold aF
 split <;> split <;> omega
theorem qS {x:Int}(h:0<x):fQ x=1:=by unfold fQ; rw [if_pos (decide_eq_true h)]
theorem vK {x:Int}(h:¬ 0<x):fQ x=0:=by unfold fQ; rw [if_neg (λe=>h (of_decide_eq_true e))]
theorem ba {x:Int}(h:0<=x):aF x=x:=by unfold aF; rw [if_neg (by omega)]
theorem Tv.neg {v:Int->Int}(hb:Hw v){x:Int}(hx:x≠0):Tv v (-x) ↔ ¬ Tv v x:=by
 unfold Tv
 rw [cm]
 rcases (show 0<x\/x<0 by omega) with h | h
 . rw [qS h,vK (show ¬ 0 < -x by omega)]
   rcases hb (aF x) with e | e <;> rw [e] <;> simp
 . rw [vK (show ¬ 0<x by omega),qS (show 0 < -x by omega)]
   rcases hb (aF x) with e | e <;> rw [e] <;> simp
theorem Tv.pos {v:Int->Int}{x:Int}(h:0<x):Tv v x ↔ v x=1:=by
 unfold Tv
 rw [ba (by omega),qS h]
theorem sd {x:Int} : ∀(l acc:List Int),x∈l.foldl dU acc ↔ x∈acc\/x∈l
 | [],acc=>by simp
 | n::l,acc=>by
  rw [List.foldl_cons,sd l]
  unfold dU
  by_cases h:n∈acc
  . rw [if_pos h,List.mem_cons]
    constructor
    . rintro (q | q)
      . exact .inl q
      . exact .inr (.inr q)
    . rintro (q | q | q)
      . exact .inl q
      . exact .inl (q ▸ h)
      . exact .inr q
  . rw [if_neg h,List.mem_append,List.mem_singleton,List.mem_cons]
    constructor
    . rintro ((q | q) | q)
      . exact .inl q
      . exact .inr (.inl q)
      . exact .inr (.inr q)
    . rintro (q | q | q)
      . exact .inl (.inl q)
      . exact .inl (.inr q)
      . exact .inr q
theorem ju {x:Int}(l:List Int):x∈once l ↔ x∈l:=by
 unfold once
 rw [sd]
 simp
theorem uQ:∀(l acc:List Int),acc.Nodup->(l.foldl dU acc).Nodup
 | [],acc,h=>h
 | n::l,acc,h=>by
  rw [List.foldl_cons]
  refine uQ l _ ?_
  unfold dU
  by_cases e:n∈acc
  . rw [if_pos e]
    exact h
  . rw [if_neg e,List.nodup_append]
    refine ⟨h,by simp,λa ha c hc q=>e ?_⟩
    rw [List.mem_singleton] at hc
    rw [← hc,← q]
    exact ha
theorem vL (l:List Int):(once l).Nodup:=uQ l [] List.nodup_nil
theorem FN {c:List Int}(h:df c=true):∀x∈c,-x∉c:=λx hx hm=>by
 unfold df at h
 rw [Bool.not_eq_true',List.any_eq_false] at h
 exact h x hx (decide_eq_true hm)
theorem jQ {v:Int->Int}{l:List (Int×Int)}{c:List Int}{x:Int}(hs:qh l c) (ha:j2 v l) (dZ:c.Nodup) (ho:∀y∈c,y≠x->b9 l (aF y)≠none/\¬ Tv v y):b9 l (aF x)≠none:=λhx=>by
 have hl:∀y∈cM l c,y=x:=λy hy=>by
  unfold cM at hy
  rw [List.mem_filter] at hy
  by_cases e:y=x
  . exact e
  . exact absurd (of_decide_eq_true hy.2) (ho y hy.1 e).1
 have hlen:(cM l c).length<2:=by
  have h1:(cM l c).Nodup:=List.Nodup.sublist List.filter_sublist dZ
  match e:cM l c with
  | []=>simp
  | [_]=>simp
  | a::b::r=>
   rw [e] at hl h1
   have e1:=hl a (by simp)
   have e2:=hl b (by simp)
   rw [e1,e2] at h1
   simp at h1
 have ht:=hs hlen
 obtain ⟨y,hy⟩:=List.exists_mem_of_ne_nil _ ht
 unfold fo at hy
 rw [List.mem_filter] at hy
 have hb:=of_decide_eq_true hy.2
 by_cases e:y=x
 . rw [e,hx] at hb
   cases hb
 . exact (ho y hy.1 e).2 (ha _ _ hb)
theorem xk {gs:List (Str×Str×Str)}{acc:List (Str×Int)}{l:Str}(h:j8 acc l):cN (gs.foldl d9 acc) l=cN acc l:=by
 rcases h with rfl | rfl | ⟨h1,h2⟩ | ⟨x,h1,h2,rfl⟩
 . rw [uB,uB]
 . rw [uC,uC]
 . rw [lM h1,lM h1,hV _ _ _ h2]
 . rw [j9,j9,hV _ _ _ h2]
theorem jR {M:aN}{bs cs:List Int}{i:Nat}(hi:i<=M.gates.length):cJ M bs cs M.gates.length=(M.gates.drop i).foldl d9 (cJ M bs cs i):=by
 unfold cJ
 rw [← List.foldl_append,List.take_length,List.take_append_drop]
section
variable {M:aN}{names:List Str}{bs cs:List Int}
theorem gr.xl (h:gr M names bs cs){i:Nat}(hi:i<M.gates.length):bT (cJ M bs cs M.gates.length) M.gates[i].1=cN (cJ M bs cs M.gates.length) M.gates[i].2.1*cN (cJ M bs cs M.gates.length) M.gates[i].2.2:=by
 obtain ⟨g1,g2,g3⟩:=h.gate hi
 rw [jR (Nat.le_of_lt hi),xk g2,xk g3,← jR (Nat.le_of_lt hi),jR (i:=i+1) hi,hV,p9 hi]
 . unfold d9
   rw [rQ g1]
   unfold bT
   rw [List.find?_cons_of_pos (by simp)]
   rfl
 . rw [p9 hi]
   unfold d9
   rw [List.map_append]
   exact List.mem_append_right _ (by simp)
theorem gr.qU (h:gr M names bs cs){i:Nat}(hi:i<M.keepers.length) (hc:i<cs.length):bT (cJ M bs cs M.gates.length) M.keepers[i].1=cs[i]:=by
 have bK:M.keepers[i].1∈M.keepers.map (·.1):=List.mem_map.mpr ⟨_,List.getElem_mem hi,rfl⟩
 have hk:((M.keepers.map (·.1)).zip cs).map (·.1)=M.keepers.map (·.1):=eT (by rw [List.length_map]; exact h.l2)
 have hs:(M.switches.zip bs).map (·.1)=M.switches:=eT h.l1
 have dZ:=(List.nodup_append.mp h.nd).1
 rw [jR (Nat.zero_le _),hV]
 . show bT (i3 M bs cs) _=_
   unfold i3
   rw [rQ]
   . have:=qc (ks:=M.keepers.map (·.1)) (cs:=cs) (i:=i) (by rw [List.length_map]; exact hi) hc (List.nodup_append.mp dZ).2.1
     rwa [List.getElem_map] at this
   . rw [hs]
     exact λhm=>(List.nodup_append.mp dZ).2.2 _ hm _ bK rfl
 . show _∈(i3 M bs cs).map (·.1)
   unfold i3
   rw [List.map_append,hk]
   exact List.mem_append_right _ bK
theorem gr.Cj (h:gr M names bs cs){i:Nat}(hi:i<M.switches.length) (hb:i<bs.length):bT (cJ M bs cs M.gates.length) M.switches[i]=bs[i]:=by
 have bK:M.switches[i]∈M.switches:=List.getElem_mem hi
 have hs:(M.switches.zip bs).map (·.1)=M.switches:=eT h.l1
 have dZ:=(List.nodup_append.mp h.nd).1
 rw [jR (Nat.zero_le _),hV]
 . show bT (i3 M bs cs) _=_
   unfold i3
   rw [uF (by rw [hs]; exact bK)]
   exact qc hi hb (List.nodup_append.mp dZ).1
 . show _∈(i3 M bs cs).map (·.1)
   unfold i3
   rw [List.map_append,hs]
   exact List.mem_append_left _ bK
end
def valAt (M:aN) (cs:List Int) (bss:List (List Int)) (k:Nat):List (Str×Int):=cJ M (bss.getD k []) (du M cs (bss.take k)) M.gates.length
def Ag (M:aN) (cs:List Int) (bss:List (List Int)) (n:Int):Int:=if n=1 then 1 else if n<2 then 0 else bT (valAt M cs bss ((n-2).toNat / (aa M).length)) ((aa M).getD ((n-2).toNat % (aa M).length) "")
theorem La {M:aN}{cs:List Int}{bss:List (List Int)}{k:Nat}{z:Str}(h:z∈aa M):Ag M cs bss (a7 (aa M) k z)=bT (valAt M cs bss k) z:=by
 have h1:=nr h
 have h2:=cH (aa M) k z
 have hp:0<(aa M).length:=by omega
 have e:(a7 (aa M) k z-2).toNat=gT (aa M) z+k*(aa M).length:=by
  unfold a7
  have e1:(k:Int)*((aa M).length:Int)=((k*(aa M).length:Nat):Int):=by rw [Int.natCast_mul]
  rw [e1]
  omega
 unfold Ag
 rw [if_neg (by omega),if_neg (by omega),e,Nat.add_mul_div_right _ _ hp,Nat.div_eq_of_lt h1,Nat.zero_add,Nat.add_mul_mod_self_right,Nat.mod_eq_of_lt h1,List.getD_eq_getElem?_getD,iN h]
 rfl
structure cx (M:aN) (names:List Str) (c:Nat) (cs:List Int) (bss:List (List Int)):Prop where
 fm:Fm M names
 sm:Sm M
 hc:fg M.keepers.length cs
 hb:∀bs∈bss,fg M.switches.length bs
 hl:bss.length=c
 c1:1<=c
theorem cx.names {M:aN}{names:List Str}{c:Nat}{cs:List Int}{bss:List (List Int)}(h:cx M names c cs bss):names=aa M:=h.fm.ok.all
section
variable {M:aN}{names:List Str}{c:Nat}{cs:List Int}{bss:List (List Int)}
theorem cx.fit (h:cx M names c cs bss){k:Nat}(hk:k<c):gr M names (bss.getD k []) (du M cs (bss.take k)):=by
 have gm:k<bss.length:=by rw [h.hl]; exact hk
 refine h.fm.fit ?_ (h.fm.du (λb hb=>h.hb b (List.mem_of_mem_take hb)) h.hc)
 rw [List.getD_eq_getElem?_getD,List.getElem?_eq_getElem gm]
 exact h.hb _ (List.getElem_mem gm)
def vB (M:aN) (cs:List Int) (bss:List (List Int)) (c:Nat) (n:Int):Int:=if n<=((1+c*(aa M).length:Nat):Int) then Ag M cs bss n else 0
theorem jz {k:Nat}{z:Str}(h:z∈aa M) (hk:k<c):vB M cs bss c (a7 (aa M) k z)=bT (valAt M cs bss k) z:=by
 unfold vB
 rw [if_pos (kf h hk),La h]
theorem Ah:vB M cs bss c 1=1:=by
 unfold vB Ag
 rw [if_pos (by omega),if_pos rfl]
theorem cx.bits (h:cx M names c cs bss):Hw (vB M cs bss c):=λn=>by
 unfold vB
 split
 . next hn=>
   unfold Ag
   split
   . exact .inr rfl
   . split
     . exact .inl rfl
     . next h1 h2=>
       have hL:0<(aa M).length:=by
        rcases Nat.eq_zero_or_pos (aa M).length with e | e
        . rw [e,Nat.mul_zero] at hn
          omega
        . exact e
       have hk:(n-2).toNat / (aa M).length<c:=by
        rw [Nat.div_lt_iff_lt_mul hL]
        omega
       have hf:=h.fit hk
       exact lN (jL hf.b1 hf.b2 _) _
 . exact .inl rfl
theorem lz (h:cx M names c cs bss){k:Nat}(hk:k<c){l:Str}(hl:Lit (aa M) l):(Tv (vB M cs bss c) (aX (aa M) k l) ↔ cN (valAt M cs bss k) l=1)/\aX (aa M) k l≠0/\(aF (aX (aa M) k l)=1\/∃z∈aa M,(l=z\/l = "~" ++ z)/\aF (aX (aa M) k l)=a7 (aa M) k z):=by
 rcases hl with rfl | rfl | ⟨x,hx,rfl | rfl⟩
 . have e:aX (aa M) k "0" = -1:=by unfold aX; rw [if_neg (by decide +kernel),if_pos rfl]
   rw [e,uB]
   refine ⟨?_,by decide,.inl (by decide)⟩
   unfold Tv
   rw [show aF (-1)=1 by decide,Ah,show fQ (-1)=0 by decide]
   constructor <;> intro q <;> exact absurd q (by decide)
 . have e:aX (aa M) k "1" = 1:=by unfold aX; rw [if_pos rfl]
   rw [e,uC]
   refine ⟨?_,by decide,.inl (by decide)⟩
   unfold Tv
   rw [show aF 1=1 by decide,Ah,show fQ 1=1 by decide]
 . have hn:=h.sm.nm _ hx
   have hp:=cH (aa M) k l
   rw [lT hn,lM hn,Tv.pos (by omega),jz hx hk]
   exact ⟨Iff.rfl,by omega,.inr ⟨_,hx,.inl rfl,ba (by omega)⟩⟩
 . have hp:=cH (aa M) k x
   rw [ow,j9,Tv.neg h.bits (by omega),Tv.pos (by omega),jz hx hk]
   refine ⟨?_,by omega,.inr ⟨x,hx,.inr rfl,by rw [cm]; exact ba (by omega)⟩⟩
   have hf:=h.fit hk
   have hb:bT (valAt M cs bss k) x=0\/bT (valAt M cs bss k) x=1:=lN (jL hf.b1 hf.b2 _) _
   rcases hb with e | e <;> rw [e] <;> decide
end
end Gen
namespace Gen
open PySem L2
section
variable {M:aN}{names:List Str}{c:Nat}{cs:List Int}{bss:List (List Int)}
theorem qV (hm:Sm M){k:Nat}{l:Str}(hl:Lit (aa M) l):aX (aa M) k l≠0/\(aF (aX (aa M) k l)=1\/∃z∈aa M,(l=z\/l = "~" ++ z)/\aF (aX (aa M) k l)=a7 (aa M) k z):=by
 rcases hl with rfl | rfl | ⟨x,hx,rfl | rfl⟩
 . have e:aX (aa M) k "0" = -1:=by unfold aX; rw [if_neg (by decide +kernel),if_pos rfl]
   rw [e]
   exact ⟨by decide,.inl (by decide)⟩
 . have e:aX (aa M) k "1" = 1:=by unfold aX; rw [if_pos rfl]
   rw [e]
   exact ⟨by decide,.inl (by decide)⟩
 . have hn:=hm.nm _ hx
   have hp:=cH (aa M) k l
   rw [lT hn]
   exact ⟨by omega,.inr ⟨_,hx,.inl rfl,ba (by omega)⟩⟩
 . have hp:=cH (aa M) k x
   rw [ow]
   exact ⟨by omega,.inr ⟨x,hx,.inr rfl,by rw [cm]; exact ba (by omega)⟩⟩
theorem uR (hm:Sm M){k:Nat}(hk:k<c){l:Str}(hl:Lit (aa M) l):1<=aF (aX (aa M) k l)/\aF (aX (aa M) k l)<=((1+c*(aa M).length:Nat):Int):=by
 obtain ⟨_,h | ⟨z,hz,_,h⟩⟩:=qV hm (k:=k) hl
 . rw [h]
   omega
 . rw [h]
   have:=cH (aa M) k z
   exact ⟨by omega,kf hz hk⟩
theorem Ck (hm:Sm M){cl:List Int}(h:cl∈cR M c):cl=[1]\/(∃r∈M.keepers,(r.2=.int 1/\cl=[a7 (aa M) 0 r.1])\/(r.2=.int 0/\cl=[-(a7 (aa M) 0 r.1)]))\/
 (∃(k:Nat) (r:Str×V),k+1<c/\r∈M.keepers/\(cl=[-(a7 (aa M) (k+1) r.1),aX (aa M) k (cg M.nexts r.1)]\/cl=[a7 (aa M) (k+1) r.1,-(aX (aa M) k (cg M.nexts r.1))]))\/
 (∃(k:Nat) (g:Str×Str×Str) (raw:List Int),k<c/\g∈M.gates/\raw∈three (a7 (aa M) k g.1) (aX (aa M) k g.2.1) (aX (aa M) k g.2.2)/\cl=once raw/\df cl=true):=by
 unfold cR dY at h
 rcases List.mem_append.mp h with h | h
 . rcases List.mem_cons.mp h with h | h
   . exact .inl h
   . obtain ⟨r,hr,hc⟩:=List.mem_flatMap.mp h
     refine .inr (.inl ⟨r,hr,?_⟩)
     unfold gi at hc
     rcases hm.fs r hr with e | e | e
     . rw [e,if_neg (by intro z; cases z),if_neg (by intro z; cases z),List.mem_singleton] at hc
       exact .inr ⟨e,hc⟩
     . rw [e,if_neg (by intro z; cases z),if_pos rfl,List.mem_singleton] at hc
       exact .inl ⟨e,hc⟩
     . rw [e,if_pos rfl] at hc
       cases hc
 . obtain ⟨k,hk,hc⟩:=List.mem_flatMap.mp h
   have gm:=List.mem_range.mp hk
   unfold qf at hc
   rcases List.mem_append.mp hc with hc | hc
   . refine .inr (.inr (.inl ?_))
     by_cases e:k=0
     . rw [if_pos e] at hc
       cases hc
     . rw [if_neg e] at hc
       obtain ⟨r,hr,hc⟩:=List.mem_flatMap.mp hc
       obtain ⟨j,rfl⟩:∃j,k=j+1:=⟨k-1,by omega⟩
       refine ⟨j,r,gm,hr,?_⟩
       unfold eW at hc
       rw [Nat.add_sub_cancel] at hc
       simpa using hc
   . obtain ⟨g,hg,hc⟩:=List.mem_flatMap.mp hc
     unfold i8 clausesOf at hc
     obtain ⟨h1,h2⟩:=List.mem_filter.mp hc
     obtain ⟨raw,h3,h4⟩:=List.mem_map.mp h1
     exact .inr (.inr (.inr ⟨k,g,raw,gm,hg,h3,h4.symm,h2⟩))
theorem Hy {k:Nat}{r:Str×V}(hk:k+1<c) (hr:r∈M.keepers):[-(a7 (aa M) (k+1) r.1),aX (aa M) k (cg M.nexts r.1)]∈cR M c/\[a7 (aa M) (k+1) r.1,-(aX (aa M) k (cg M.nexts r.1))]∈cR M c:=by
 have h:∀x∈eW (aa M) M.nexts (k+1) r,x∈cR M c:=λx hx=>by
  unfold cR
  refine List.mem_append_right _ (List.mem_flatMap.mpr ⟨k+1,List.mem_range.mpr hk,?_⟩)
  unfold qf
  rw [if_neg (by omega)]
  exact List.mem_append_left _ (List.mem_flatMap.mpr ⟨r,hr,hx⟩)
 exact ⟨h _ (by unfold eW; rw [Nat.add_sub_cancel]; simp),h _ (by unfold eW; rw [Nat.add_sub_cancel]; simp)⟩
theorem Hz {k:Nat}{g:Str×Str×Str}{raw:List Int}(hk:k<c) (hg:g∈M.gates) (hr:raw∈three (a7 (aa M) k g.1) (aX (aa M) k g.2.1) (aX (aa M) k g.2.2)) (hp:df (once raw)=true):once raw∈cR M c:=by
 unfold cR
 refine List.mem_append_right _ (List.mem_flatMap.mpr ⟨k,List.mem_range.mpr hk,?_⟩)
 unfold qf
 refine List.mem_append_right _ (List.mem_flatMap.mpr ⟨g,hg,?_⟩)
 unfold i8 clausesOf
 exact List.mem_filter.mpr ⟨List.mem_map.mpr ⟨raw,hr,rfl⟩,hp⟩
theorem xm {r:Str×V}(hr:r∈M.keepers){cl:List Int}(h:cl∈gi (aa M) r):cl∈cR M c:=by
 unfold cR dY
 exact List.mem_append_left _ (List.mem_cons_of_mem _ (List.mem_flatMap.mpr ⟨r,hr,h⟩))
theorem Lb:[1]∈cR M c:=List.mem_append_left _ List.mem_cons_self
theorem DB (hm:Sm M) (h1:1<=c){cl:List Int}(h:cl∈cR M c):cl.Nodup/\(∀x∈cl,-x∉cl)/\(∀x∈cl,1<=aF x/\aF x<=((1+c*(aa M).length:Nat):Int))/\cl.length<=3:=by
 have one:∀(n:Int),2<=aF n->aF n<=((1+c*(aa M).length:Nat):Int)->[n].Nodup/\(∀x∈[n],-x∉[n])/\(∀x∈[n],1<=aF x/\aF x<=((1+c*(aa M).length:Nat):Int))/\[n].length<=3:=λn h2 h3=>by
  refine ⟨by simp,λx hx hm=>?_,λx hx=>?_,by simp⟩
  . rw [List.mem_singleton] at hx hm
    subst hx
    have:x=0:=by omega
    subst this
    revert h2
    decide
  . rw [List.mem_singleton.mp hx]
    exact ⟨by omega,h3⟩
 rcases Ck hm h with rfl | ⟨r,hr,⟨_,rfl⟩ | ⟨_,rfl⟩⟩ | ⟨k,r,hk,hr,e⟩ | ⟨k,g,raw,hk,hg,jv,rfl,hp⟩
 . refine ⟨by simp,by simp,λx hx=>?_,by simp⟩
   rw [List.mem_singleton.mp hx]
   exact ⟨by decide,by rw [show aF 1=1 by decide]; omega⟩
 . have hp:=cH (aa M) 0 r.1
   have hl:=kf (hW hr) (show 0<c by omega)
   exact one _ (by rw [ba (by omega)]; exact hp) (by rw [ba (by omega)]; exact hl)
 . have hp:=cH (aa M) 0 r.1
   have hl:=kf (hW hr) (show 0<c by omega)
   exact one _ (by rw [cm,ba (by omega)]; exact hp) (by rw [cm,ba (by omega)]; exact hl)
 . have hp:=cH (aa M) (k+1) r.1
   have hl:=kf (hW hr) hk
   have hn:=uR (c:=c) hm (k:=k) (by omega) (hm.nx r hr)
   obtain ⟨n0,zu⟩:=qV hm (k:=k) (hm.nx r hr)
   have cD:aF (aX (aa M) k (cg M.nexts r.1))≠a7 (aa M) (k+1) r.1:=λe=>by
    rcases zu with q | ⟨z,hz,_,q⟩
    . rw [q] at e
      omega
    . rw [q] at e
      have:=(uO hz (hW hr) e).1
      omega
   generalize aX (aa M) k (cg M.nexts r.1)=h' at *
   generalize a7 (aa M) (k+1) r.1=t at *
   have two:∀(a b:Int),aF a=t->aF b=aF h'->b≠0->[a,b].Nodup/\(∀x∈[a,b],-x∉[a,b])/\(∀x∈[a,b],1<=aF x/\aF x<=((1+c*(aa M).length:Nat):Int))/\[a,b].length<=3:=λa b ha hb NL=>by
    have ES:aF a≠aF b:=λe=>cD (by rw [← hb,← e,ha])
    have ha0:a≠0:=λe=>by rw [e,show aF 0=0 by decide] at ha; omega
    refine ⟨?_,λx hx hm=>?_,λx hx=>?_,by simp⟩
    . rw [List.nodup_cons]
      refine ⟨λhm=>?_,by simp⟩
      rw [List.mem_singleton] at hm
      exact ES (by rw [hm])
    . have rL:x=a\/x=b:=by simpa using hx
      have FO : -x=a \/ -x=b:=by simpa using hm
      rcases rL with rfl | rfl <;> rcases FO with e | e
      . omega
      . exact ES (by rw [← e,cm])
      . exact ES (by rw [← e,cm])
      . omega
    . have rL:x=a\/x=b:=by simpa using hx
      rcases rL with rfl | rfl
      . rw [ha]
        exact ⟨by omega,hl⟩
      . rw [hb]
        exact hn
   rcases e with rfl | rfl
   . exact two _ _ (by rw [cm,ba (by omega)]) rfl n0
   . exact two _ _ (ba (by omega)) (cm _) (Int.neg_ne_zero.mpr n0)
 . refine ⟨vL raw,FN hp,λx hx=>?_,?_⟩
   . rw [ju] at hx
     obtain ⟨g1,g2⟩:=hm.gl g hg
     have dw:g.1∈aa M:=List.mem_append_right _ (List.mem_map.mpr ⟨g,hg,rfl⟩)
     have p1:=cH (aa M) k g.1
     have p2:=kf dw hk
     have q1:=uR (c:=c) hm hk g1
     have q2:=uR (c:=c) hm hk g2
     have hxx:aF x=a7 (aa M) k g.1\/aF x=aF (aX (aa M) k g.2.1)\/aF x=aF (aX (aa M) k g.2.2):=by
      unfold three at jv
      simp only [List.mem_cons,List.not_mem_nil,or_false] at jv
      rcases jv with rfl | rfl | rfl
      . simp only [List.mem_cons,List.not_mem_nil,or_false] at hx
        rcases hx with rfl | rfl
        . exact .inl (by rw [cm,ba (by omega)])
        . exact .inr (.inl rfl)
      . simp only [List.mem_cons,List.not_mem_nil,or_false] at hx
        rcases hx with rfl | rfl
        . exact .inl (by rw [cm,ba (by omega)])
        . exact .inr (.inr rfl)
      . simp only [List.mem_cons,List.not_mem_nil,or_false] at hx
        rcases hx with rfl | rfl | rfl
        . exact .inl (ba (by omega))
        . exact .inr (.inl (cm _))
        . exact .inr (.inr (cm _))
     rcases hxx with e | e | e
     . rw [e]
       exact ⟨by omega,p2⟩
     . rw [e]
       exact q1
     . rw [e]
       exact q2
   . refine Nat.le_trans (zI raw) ?_
     unfold three at jv
     simp only [List.mem_cons,List.not_mem_nil,or_false] at jv
     rcases jv with rfl | rfl | rfl <;> simp
theorem NZ {fs:List V}{r:List Int}(h:fJ fs r=true){i:Nat}(h1:i<fs.length) (h2:i<r.length):eA fs[i] r[i]=true:=by
 unfold fJ at h
 rw [List.all_eq_true] at h
 have:=h (fs[i],r[i]) (by
  have e:(fs.zip r)[i]?=some (fs[i],r[i]):=by rw [List.getElem?_eq_getElem (by rw [List.length_zip]; omega),List.getElem_zip]
  exact List.mem_of_getElem? e)
 exact this
theorem tG {r:Str×V}(hr:r∈M.keepers):∃i,∃h:i<M.keepers.length,M.keepers[i]=r:=by
 obtain ⟨i,hi,e⟩:=List.mem_iff_getElem.mp hr
 exact ⟨i,hi,e⟩
theorem cx.qW (h:cx M names c cs bss){k:Nat}(hk:k<c) (l:Str):cN (valAt M cs bss k) l=0\/cN (valAt M cs bss k) l=1:=by
 have hf:=h.fit hk
 exact lq (jL hf.b1 hf.b2 _) _
theorem cx.move (h:cx M names c cs bss){k:Nat}(hk:k+1<c){r:Str×V}(hr:r∈M.keepers):bT (valAt M cs bss (k+1)) r.1=cN (valAt M cs bss k) (cg M.nexts r.1):=by
 obtain ⟨i,hi,rfl⟩:=tG hr
 have hf:=h.fit hk
 have T8:k<bss.length:=by rw [h.hl]; omega
 have c8:=hf.l2
 have e1:=hf.qU hi (by omega)
 show bT (cJ M (bss.getD (k+1) []) (du M cs (bss.take (k+1))) M.gates.length) _=_
 rw [e1]
 have e2:du M cs (bss.take (k+1))=hU M bss[k] (du M cs (bss.take k)):=uE T8
 have e3:bss.getD k []=bss[k]:=by rw [List.getD_eq_getElem?_getD,List.getElem?_eq_getElem T8]; rfl
 simp only [e2]
 unfold hU valAt
 rw [List.getElem_map,e3]
theorem cx.sat (h:cx M names c cs bss) (hf:fJ (M.keepers.map (·.2)) cs=true):Sat (vB M cs bss c) (cR M c):=by
 intro cl et
 have hB:=h.bits
 have c1:=h.c1
 show ∃k∈cl,Tv (vB M cs bss c) k
 rcases Ck h.sm et with rfl | ⟨r,hr,e⟩ | ⟨k,r,hk,hr,e⟩ | ⟨k,g,raw,hk,hg,jv,rfl,hp⟩
 . refine ⟨1,by simp,?_⟩
   rw [Tv.pos (by decide)]
   exact Ah
 . obtain ⟨i,hi,rfl⟩:=tG hr
   have c8:=h.hc.1
   have Cm:=NZ hf (i:=i) (by rw [List.length_map]; exact hi) (by omega)
   rw [List.getElem_map] at Cm
   have hv:vB M cs bss c (a7 (aa M) 0 M.keepers[i].1)=cs[i]:=by
    rw [jz (hW hr) (by omega)]
    exact (h.fit (show 0<c by omega)).qU hi (by show i<cs.length; omega)
   have hp:=cH (aa M) 0 M.keepers[i].1
   unfold eA at Cm
   rcases e with ⟨e1,rfl⟩ | ⟨e1,rfl⟩
   . rw [e1] at Cm
     have e2:cs[i]=1:=by simp at Cm; omega
     exact ⟨_,List.mem_singleton_self _,by rw [Tv.pos (by omega),hv,e2]⟩
   . rw [e1] at Cm
     have e2:cs[i]=0:=by simp at Cm; omega
     exact ⟨_,List.mem_singleton_self _,by rw [Tv.neg hB (by omega),Tv.pos (by omega),hv,e2]; decide⟩
 . have hl:=lz h (k:=k) (by omega) (h.sm.nx r hr)
   have hp:=cH (aa M) (k+1) r.1
   have ht:Tv (vB M cs bss c) (a7 (aa M) (k+1) r.1) ↔ cN (valAt M cs bss k) (cg M.nexts r.1)=1:=by rw [Tv.pos (by omega),jz (hW hr) hk,h.move hk hr]
   rw [← hl.1] at ht
   by_cases hT:Tv (vB M cs bss c) (a7 (aa M) (k+1) r.1)
   . rcases e with rfl | rfl
     . exact ⟨_,by simp,ht.mp hT⟩
     . exact ⟨_,by simp,hT⟩
   . rcases e with rfl | rfl
     . exact ⟨-(a7 (aa M) (k+1) r.1),by simp,(Tv.neg hB (by omega)).mpr hT⟩
     . exact ⟨-(aX (aa M) k (cg M.nexts r.1)),by simp,(Tv.neg hB hl.2.1).mpr λq=>hT (ht.mpr q)⟩
 . obtain ⟨g1,g2⟩:=h.sm.gl g hg
   have l1:=lz h hk g1
   have l2:=lz h hk g2
   have dw:g.1∈aa M:=List.mem_append_right _ (List.mem_map.mpr ⟨g,hg,rfl⟩)
   have yx:=cH (aa M) k g.1
   have N0:Tv (vB M cs bss c) (a7 (aa M) k g.1) ↔ cN (valAt M cs bss k) g.2.1=1/\cN (valAt M cs bss k) g.2.2=1:=by
    obtain ⟨i,hi,rfl⟩:=List.mem_iff_getElem.mp hg
    rw [Tv.pos (by omega),jz dw hk]
    have e:=(h.fit hk).xl hi
    have b1:=h.qW hk M.gates[i].2.1
    have b2:=h.qW hk M.gates[i].2.2
    unfold valAt at b1 b2 ⊢
    rw [e]
    rcases b1 with q1 | q1 <;> rcases b2 with q2 | q2 <;> rw [q1,q2] <;> decide
   rw [← l1.1,← l2.1] at N0
   have ex:∃x∈raw,Tv (vB M cs bss c) x:=by
    have ng:=Tv.neg (v:=vB M cs bss c) hB (x:=a7 (aa M) k g.1) (by omega)
    have n1:=Tv.neg (v:=vB M cs bss c) hB l1.2.1
    have n2:=Tv.neg (v:=vB M cs bss c) hB l2.2.1
    generalize a7 (aa M) k g.1=G at *
    generalize aX (aa M) k g.2.1=A at *
    generalize aX (aa M) k g.2.2=B at *
    unfold three at jv
    simp only [List.mem_cons,List.not_mem_nil,or_false] at jv
    by_cases hG:Tv (vB M cs bss c) G
    . obtain ⟨hA,Jh⟩:=N0.mp hG
      rcases jv with rfl | rfl | rfl
      . exact ⟨A,by simp,hA⟩
      . exact ⟨B,by simp,Jh⟩
      . exact ⟨G,by simp,hG⟩
    . rcases jv with rfl | rfl | rfl
      . exact ⟨-G,by simp,ng.mpr hG⟩
      . exact ⟨-G,by simp,ng.mpr hG⟩
      . by_cases hA:Tv (vB M cs bss c) A
        . by_cases Jh:Tv (vB M cs bss c) B
          . exact absurd (N0.mpr ⟨hA,Jh⟩) hG
          . exact ⟨-B,by simp,n2.mpr Jh⟩
        . exact ⟨-A,by simp,n1.mpr hA⟩
   obtain ⟨x,hx,hT⟩:=ex
   exact ⟨x,(ju raw).mpr hx,hT⟩
end
end Gen
namespace Gen
open PySem L2
theorem Lc {l:List (Int×Int)}{n b:Int}(h:b9 l n=some b):(n,b)∈l:=by
 induction l with
 | nil=>cases h
 | cons r l ih=>
  rw [iH] at h
  by_cases e:r.1=n
  . rw [if_pos e] at h
    have:r=(n,b):=by rw [← e,← Option.some.inj h]
    rw [this]
    exact List.mem_cons_self
  . rw [if_neg e] at h
    exact List.mem_cons_of_mem _ (ih h)
theorem Ld {l:List (Int×Int)}(dZ:(l.map (·.1)).Nodup){n b:Int}(h:(n,b)∈l):b9 l n=some b:=by
 induction l with
 | nil=>cases h
 | cons r l ih=>
  rw [List.map_cons,List.nodup_cons] at dZ
  rw [iH]
  rcases List.mem_cons.mp h with e | e
  . rw [← e,if_pos rfl]
  . rw [if_neg,ih dZ.2 e]
    intro q
    exact dZ.1 (List.mem_map.mpr ⟨(n,b),e,q.symm⟩)
theorem Ai {c:List Int}(h:∀x∈c,-x∉c):df c=true:=by
 unfold df
 rw [Bool.not_eq_true',List.any_eq_false]
 intro x hx q
 exact h x hx (of_decide_eq_true q)
theorem HF {names:List Str}(dZ:names.Nodup){j:Nat}(hj:j<names.length):gT names names[j]=j:=by
 have h1:=iN (List.getElem_mem hj)
 have h2:names[j]?=some names[j]:=List.getElem?_eq_getElem hj
 exact ((List.getElem?_inj hj dZ).mp (h2.trans h1.symm)).symm
section
variable {M:aN}{names:List Str}{c:Nat}{cs:List Int}{bss:List (List Int)}{l:List (Int×Int)}
theorem tH (h:cx M names c cs bss):j2 (vB M cs bss c) (eG M cs bss):=by
 intro n b hb
 have c1:=h.c1
 have hm:=Lc hb
 unfold eG at hm
 rcases List.mem_append.mp hm with hm | hm
 . unfold ja at hm
   obtain ⟨q,hq,e⟩:=List.mem_map.mp hm
   obtain ⟨i,hi,rfl⟩:=List.mem_iff_getElem.mp hq
   rw [List.length_zip,List.length_map] at hi
   rw [List.getElem_zip,List.getElem_map] at e
   obtain ⟨e1,e2⟩:=Prod.mk.inj e
   have hr:=List.getElem_mem (show i<M.keepers.length by omega)
   rw [← e1,← e2,jz (hW hr) (by omega)]
   exact (h.fit (show 0<c by omega)).qU (by omega) (by show i<cs.length; omega)
 . obtain ⟨k,hk,hm⟩:=List.mem_flatMap.mp hm
   have gm:=List.mem_range.mp hk
   unfold ly lV at hm
   obtain ⟨q,hq,e⟩:=List.mem_map.mp hm
   obtain ⟨i,hi,rfl⟩:=List.mem_iff_getElem.mp hq
   rw [List.length_zip] at hi
   rw [List.getElem_zip] at e
   obtain ⟨e1,e2⟩:=Prod.mk.inj e
   have hr:=List.getElem_mem (show i<M.switches.length by omega)
   have hl:=h.hl
   rw [← e1,← e2,jz (oC hr) (by omega)]
   exact (h.fit (show k<c by omega)).Cj (by omega) (by omega)
theorem Cn {i:Nat}(hi:i<M.keepers.length) (hc:i<cs.length):(a7 (aa M) 0 M.keepers[i].1,cs[i])∈eG M cs bss:=by
 unfold eG ja
 refine List.mem_append_left _ (List.mem_map.mpr ⟨(M.keepers[i].1,cs[i]),?_,rfl⟩)
 have e:((M.keepers.map (·.1)).zip cs)[i]?=some (M.keepers[i].1,cs[i]):=by
  rw [List.getElem?_eq_getElem (by rw [List.length_zip,List.length_map]; omega),List.getElem_zip,List.getElem_map]
 exact List.mem_of_getElem? e
theorem Co (hb:∀bs∈bss,fg M.switches.length bs){k:Nat}(hk:k<bss.length){z:Str}(hz:z∈M.switches):a7 (aa M) k z∈(eG M cs bss).map (·.1):=by
 obtain ⟨i,hi,rfl⟩:=List.mem_iff_getElem.mp hz
 have Ci:=(hb _ (List.getElem_mem hk)).1
 refine List.mem_map.mpr ⟨(a7 (aa M) k M.switches[i],bss[k][i]),?_,rfl⟩
 unfold eG
 refine List.mem_append_right _ (List.mem_flatMap.mpr ⟨k,List.mem_range.mpr hk,?_⟩)
 unfold ly lV
 rw [List.getD_eq_getElem?_getD,List.getElem?_eq_getElem hk]
 refine List.mem_map.mpr ⟨(M.switches[i],bss[k][i]),?_,rfl⟩
 have e:(M.switches.zip bss[k])[i]?=some (M.switches[i],bss[k][i]):=by
  rw [List.getElem?_eq_getElem (by rw [List.length_zip]; omega),List.getElem_zip]
 exact List.mem_of_getElem? e
theorem tI {told:List (Int×Int)}(he:Ext told l){n:Int}(h:n∈told.map (·.1)):b9 l n≠none:=by
 cases e:b9 told n with
 | none=>exact absurd h (tf.mp e)
 | some b=>rw [he n b e]; intro q; cases q
theorem FQ {v:Int->Int}(hB:Hw v) (ha:j2 v l){G A B:Int}(hG:2<=G) (hA:A≠0) (N1:B≠0) (nA:aF A≠G) (nB:aF B≠G) (tA:b9 l (aF A)≠none) (tB:b9 l (aF B)≠none) (hT:Tv v G ↔ Tv v A/\Tv v B) (A8:∀raw∈three G A B,df (once raw)=true->qh l (once raw)):b9 l G≠none:=by
 have two:∀X:Int,X≠0->aF X≠G->b9 l (aF X)≠none->¬ Tv v X->[-G,X]∈three G A B->b9 l G≠none:=λX hX nX tX fX dw=>by
  have jY:df (once [-G,X])=true:=Ai λx hx hm=>by
   rw [ju] at hx hm
   have rL:x = -G\/x=X:=by simpa using hx
   have FO : -x = -G \/ -x=X:=by simpa using hm
   rcases rL with rfl | rfl <;> rcases FO with e | e
   . omega
   . exact nX (by rw [← e,Int.neg_neg,ba (by omega)])
   . exact nX (by rw [show x=G by omega,ba (by omega)])
   . omega
  have:=jQ (x:=-G) (A8 _ dw jY) ha (vL _) λy hy cD=>by
   rw [ju] at hy
   have mq:y = -G\/y=X:=by simpa using hy
   rcases mq with rfl | rfl
   . exact absurd rfl cD
   . exact ⟨tX,fX⟩
  rwa [cm,ba (by omega)] at this
 by_cases fA:Tv v A
 . by_cases fB:Tv v B
   . have jY:df (once [G,-A,-B])=true:=Ai λx hx hm=>by
      rw [ju] at hx hm
      have rL:x=G\/x = -A\/x = -B:=by simpa using hx
      have FO : -x=G \/ -x = -A \/ -x = -B:=by simpa using hm
      have T9:A ≠ -B:=λe=>((Tv.neg hB N1).mp (by rw [← e]; exact fA)) fB
      rcases rL with rfl | rfl | rfl <;> rcases FO with e | e | e
      . omega
      . exact nA (by rw [show A=x by omega,ba (by omega)])
      . exact nB (by rw [show B=x by omega,ba (by omega)])
      . exact nA (by rw [show A=G by omega,ba (by omega)])
      . omega
      . exact T9 (by omega)
      . exact nB (by rw [show B=G by omega,ba (by omega)])
      . exact T9 (by omega)
      . omega
     have:=jQ (x:=G) (A8 [G,-A,-B] (by unfold three; simp) jY) ha (vL _) λy hy cD=>by
      rw [ju] at hy
      have mq:y=G\/y = -A\/y = -B:=by simpa using hy
      rcases mq with rfl | rfl | rfl
      . exact absurd rfl cD
      . exact ⟨by rw [cm]; exact tA,λq=>(Tv.neg hB hA).mp q fA⟩
      . exact ⟨by rw [cm]; exact tB,λq=>(Tv.neg hB N1).mp q fB⟩
     rwa [ba (by omega)] at this
   . exact two B N1 nB tB fB (by unfold three; simp)
 . exact two A hA nA tA fA (by unfold three; simp)
theorem cx.Le (h:cx M names c cs bss){k:Nat}(hk:k<c){g:Str×Str×Str}(hg:g∈M.gates):Tv (vB M cs bss c) (a7 (aa M) k g.1) ↔ Tv (vB M cs bss c) (aX (aa M) k g.2.1)/\Tv (vB M cs bss c) (aX (aa M) k g.2.2):=by
 obtain ⟨g1,g2⟩:=h.sm.gl g hg
 have dw:g.1∈aa M:=List.mem_append_right _ (List.mem_map.mpr ⟨g,hg,rfl⟩)
 have yx:=cH (aa M) k g.1
 rw [(lz h hk g1).1,(lz h hk g2).1,Tv.pos (by omega),jz dw hk]
 obtain ⟨i,hi,rfl⟩:=List.mem_iff_getElem.mp hg
 have e:=(h.fit hk).xl hi
 have b1:=h.qW hk M.gates[i].2.1
 have b2:=h.qW hk M.gates[i].2.2
 unfold valAt at b1 b2 ⊢
 rw [e]
 rcases b1 with q1 | q1 <;> rcases b2 with q2 | q2 <;> rw [q1,q2] <;> decide
theorem cx.all (h:cx M names c cs bss) (hf:fJ (M.keepers.map (·.2)) cs=true) (hS:r8 (1+c*(aa M).length) (cR M c) (eG M cs bss) l):b9 l 1≠none/\∀k,k<c->∀z∈aa M,b9 l (a7 (aa M) k z)≠none:=by
 have hB:=h.bits
 have ha:j2 (vB M cs bss c) l:=hS.agr _ (h.sat hf) (tH h)
 have t1:b9 l 1≠none:=by
  have:=jQ (x:=1) (hS.shut [1] Lb) ha (by simp) λy hy cD=>absurd (List.mem_singleton.mp hy) cD
  rwa [show aF 1=1 by decide] at this
 have iV:=h.hc.1
 have gates:∀k,k<c->(∀z∈M.switches++M.keepers.map (·.1),b9 l (a7 (aa M) k z)≠none)->∀z∈aa M,b9 l (a7 (aa M) k z)≠none:=λk hk nO=>by
  have ind:∀i,i<=M.gates.length->∀z∈M.switches++M.keepers.map (·.1)++(M.gates.take i).map (·.1),b9 l (a7 (aa M) k z)≠none:=λi=>by
   induction i with
   | zero=>
    intro _ z hz
    rw [List.take_zero,List.map_nil,List.append_nil] at hz
    exact nO z hz
   | succ i ih=>
    intro hi z hz
    have mw:i<M.gates.length:=hi
    have N2:=ih (Nat.le_of_lt mw)
    rw [List.take_succ,List.getElem?_eq_getElem mw,List.map_append,← List.append_assoc] at hz
    rcases List.mem_append.mp hz with hz | hz
    . exact N2 z hz
    . have ez:z=M.gates[i].1:=by simpa using hz
      have hg:=List.getElem_mem mw
      obtain ⟨g1,g2⟩:=h.fm.ok.gl i M.gates[i] (List.getElem?_eq_getElem mw)
      obtain ⟨f1,f2⟩:=h.sm.gl _ hg
      have dw:M.gates[i].1∈aa M:=List.mem_append_right _ (List.mem_map.mpr ⟨_,hg,rfl⟩)
      have zr:M.gates[i].1∉M.switches++M.keepers.map (·.1)++(M.gates.take i).map (·.1):=by
       have:=jt (pre:=M.switches++M.keepers.map (·.1)) (l:=M.gates.map (·.1)) (post:=[]) (i:=i) (by rw [List.append_nil]; exact h.sm.nd) (by rw [List.length_map]; exact mw)
       rw [List.getElem_map,← List.map_take] at this
       exact this
      have part:∀x:Str,Lit (M.switches++M.keepers.map (·.1)++(M.gates.take i).map (·.1)) x->b9 l (aF (aX (aa M) k x))≠none/\aF (aX (aa M) k x)≠a7 (aa M) k M.gates[i].1:=λx hx=>by
       have hG:=cH (aa M) k M.gates[i].1
       have sub:∀q∈M.switches++M.keepers.map (·.1)++(M.gates.take i).map (·.1),q∈aa M:=λq hq=>by
        rcases List.mem_append.mp hq with hq | hq
        . exact List.mem_append_left _ hq
        . obtain ⟨r,hr,rfl⟩:=List.mem_map.mp hq
          exact List.mem_append_right _ (List.mem_map.mpr ⟨r,List.mem_of_mem_take hr,rfl⟩)
       rcases hx with rfl | rfl | ⟨q,hq,rfl | rfl⟩
       . have e:aX (aa M) k "0" = -1:=by unfold aX; rw [if_neg (by decide +kernel),if_pos rfl]
         rw [e,show aF (-1)=1 by decide]
         exact ⟨t1,by omega⟩
       . have e:aX (aa M) k "1" = 1:=by unfold aX; rw [if_pos rfl]
         rw [e,show aF 1=1 by decide]
         exact ⟨t1,by omega⟩
       . have hp:=cH (aa M) k x
         rw [lT (h.sm.nm _ (sub x hq)),ba (by omega)]
         refine ⟨N2 x hq,λe=>zr ?_⟩
         rw [← (uO (sub x hq) dw e).2]
         exact hq
       . have hp:=cH (aa M) k q
         rw [ow,cm,ba (by omega)]
         refine ⟨N2 q hq,λe=>zr ?_⟩
         rw [← (uO (sub q hq) dw e).2]
         exact hq
      obtain ⟨ta,na⟩:=part _ g1
      obtain ⟨tb,nb⟩:=part _ g2
      rw [ez]
      exact FQ hB ha (cH _ _ _) (qV h.sm f1).1 (qV h.sm f2).1 na nb ta tb (h.Le hk hg) λraw jv hp=>hS.shut _ (Hz hk hg jv hp)
  have:=ind M.gates.length (Nat.le_refl _)
  rw [List.take_length] at this
  exact this
 refine ⟨t1,λk=>?_⟩
 induction k with
 | zero=>
  intro hk
  refine gates 0 hk λz hz=>?_
  rcases List.mem_append.mp hz with hz | hz
  . exact tI hS.ext (Co h.hb (by rw [h.hl]; exact hk) hz)
  . obtain ⟨r,hr,rfl⟩:=List.mem_map.mp hz
    obtain ⟨i,hi,rfl⟩:=tG hr
    exact tI hS.ext (List.mem_map.mpr ⟨_,Cn hi (by omega),rfl⟩)
 | succ k ih=>
  intro hk
  have ihk:=ih (by omega)
  refine gates (k+1) hk λz hz=>?_
  rcases List.mem_append.mp hz with hz | hz
  . exact tI hS.ext (Co h.hb (by rw [h.hl]; exact hk) hz)
  . obtain ⟨r,hr,rfl⟩:=List.mem_map.mp hz
    have hp:=cH (aa M) (k+1) r.1
    have lg:=h.sm.nx r hr
    have hl:=lz h (k:=k) (by omega) lg
    have ht:Tv (vB M cs bss c) (a7 (aa M) (k+1) r.1) ↔ Tv (vB M cs bss c) (aX (aa M) k (cg M.nexts r.1)):=by rw [Tv.pos (by omega),jz (hW hr) hk,h.move hk hr,hl.1]
    have tl:b9 l (aF (aX (aa M) k (cg M.nexts r.1)))≠none:=by
     rcases hl.2.2 with e | ⟨q,hq,_,e⟩
     . rw [e]
       exact t1
     . rw [e]
       exact ihk q hq
    obtain ⟨m1,m2⟩:=Hy (M:=M) hk hr
    have o1:=DB h.sm h.c1 m1
    have o2:=DB h.sm h.c1 m2
    by_cases hT:Tv (vB M cs bss c) (aX (aa M) k (cg M.nexts r.1))
    . have:=jQ (x:=a7 (aa M) (k+1) r.1) (hS.shut _ m2) ha o2.1 λy hy cD=>by
       have mq:y=a7 (aa M) (k+1) r.1\/y = -(aX (aa M) k (cg M.nexts r.1)):=by simpa using hy
       rcases mq with e | e
       . exact absurd e cD
       . rw [e,cm]
         exact ⟨tl,λq=>(Tv.neg hB hl.2.1).mp q hT⟩
      rwa [ba (by omega)] at this
    . have:=jQ (x:=-(a7 (aa M) (k+1) r.1)) (hS.shut _ m1) ha o1.1 λy hy cD=>by
       have mq:y = -(a7 (aa M) (k+1) r.1)\/y=aX (aa M) k (cg M.nexts r.1):=by simpa using hy
       rcases mq with e | e
       . exact absurd e cD
       . rw [e]
         exact ⟨tl,hT⟩
      rwa [cm,ba (by omega)] at this
theorem cx.full (h:cx M names c cs bss) (hf:fJ (M.keepers.map (·.2)) cs=true) (hS:r8 (1+c*(aa M).length) (cR M c) (eG M cs bss) l) (n:Nat) (hn:n<1+c*(aa M).length):b9 l ((n:Int)+1)≠none:=by
 obtain ⟨t1,ta⟩:=h.all hf hS
 rcases Nat.eq_zero_or_pos n with rfl | hp
 . exact t1
 . have hL:0<(aa M).length:=by
    rcases Nat.eq_zero_or_pos (aa M).length with e | e
    . rw [e,Nat.mul_zero] at hn
      omega
    . exact e
   have hk:(n-1) / (aa M).length<c:=by
    rw [Nat.div_lt_iff_lt_mul hL]
    omega
   have hj:(n-1) % (aa M).length<(aa M).length:=Nat.mod_lt _ hL
   have e:((n:Int)+1)=a7 (aa M) ((n-1) / (aa M).length) (aa M)[(n-1) % (aa M).length]:=by
    unfold a7
    rw [HF h.sm.nd hj]
    have e1:(((n-1) / (aa M).length:Nat):Int)*((aa M).length:Int)=(((n-1) / (aa M).length*(aa M).length:Nat):Int):=by rw [Int.natCast_mul]
    rw [e1]
    have e2:=Nat.mod_add_div' (n-1) (aa M).length
    omega
   rw [e]
   exact ta _ hk _ (List.getElem_mem hj)
theorem FR (hm:Sm M) (rF:1<=c) (hc:fg M.keepers.length cs) (jg:fJ (M.keepers.map (·.2)) cs=false) (hK:i9 (1+c*(aa M).length) (eG M cs bss)) (hS:r8 (1+c*(aa M).length) (cR M c) (eG M cs bss) l):False:=by
 obtain ⟨i,hi,hf⟩:∃i,∃hi:i<M.keepers.length,eA M.keepers[i].2 (cs[i]'(by have:=hc.1; omega))=false:=by
  unfold fJ at jg
  rw [List.all_eq_false] at jg
  obtain ⟨p,hp,hq⟩:=jg
  obtain ⟨i,hi,rfl⟩:=List.mem_iff_getElem.mp hp
  rw [List.length_zip,List.length_map] at hi
  refine ⟨i,by omega,?_⟩
  rw [List.getElem_zip,List.getElem_map] at hq
  simpa using hq
 have et:i<cs.length:=by have:=hc.1; omega
 have hr:=List.getElem_mem hi
 have hb:b9 l (a7 (aa M) 0 M.keepers[i].1)=some cs[i]:=hS.ext _ _ (Ld hK.nd (Cn hi et))
 have hp:=cH (aa M) 0 M.keepers[i].1
 have ae3:=hc.2 _ (List.getElem_mem et)
 have bad:∀x:Int,[x]∈cR M c->aF x=a7 (aa M) 0 M.keepers[i].1->fQ x≠cs[i]->False:=λx hx ex cD=>by
  have h1:cM l [x]=[]:=by
   unfold cM
   rw [List.filter_cons_of_neg (by rw [ex,hb]; simp)]
   rfl
  have h2:fo l [x]=[]:=by
   unfold fo
   rw [List.filter_cons_of_neg (by rw [ex,hb]; simp; exact λe=>cD e.symm)]
   rfl
  exact hS.shut [x] hx (by rw [h1]; decide) h2
 unfold eA at hf
 rcases hm.fs _ hr with e | e | e
 . refine bad (-(a7 (aa M) 0 M.keepers[i].1)) (xm hr ?_) (by rw [cm,ba (by omega)]) ?_
   . unfold gi
     rw [e,if_neg (by intro z; cases z),if_neg (by intro z; cases z)]
     exact List.mem_singleton_self _
   . rw [vK (by omega)]
     intro q
     rw [e,← q] at hf
     simp at hf
 . refine bad (a7 (aa M) 0 M.keepers[i].1) (xm hr ?_) (ba (by omega)) ?_
   . unfold gi
     rw [e,if_neg (by intro z; cases z),if_pos rfl]
     exact List.mem_singleton_self _
   . rw [qS (by omega)]
     intro q
     rw [e,← q] at hf
     simp at hf
 . rw [e] at hf
   simp at hf
end
end Gen
namespace Gen
open PySem L2
abbrev Cp:Stmt:=top 31
theorem HG {X:Cx}{e:Expr} : PT X e (λ_ _ _=>False):=λ_ _ _ _ _ _ h=>h.elim
section
variable {M:aN}{names:List Str}{c:Nat}{cs:List Int}{bss:List (List Int)}{l:List (Int×Int)}
theorem Lf (N:Nat) (l:List (Int×Int)):(oU N l).length=N:=by unfold oU; rw [List.length_map,List.length_range]
theorem FT {N:Nat}{n:Nat}(hn:n<N):(oU N l)[n]?=some ((b9 l ((n:Int)+1)).getD 0):=by
 unfold oU
 rw [List.getElem?_map,List.getElem?_range hn]
 rfl
theorem cx.choice (h:cx M names c cs bss) (hf:fJ (M.keepers.map (·.2)) cs=true) (hS:r8 (1+c*(aa M).length) (cR M c) (eG M cs bss) l){x:Int}(h1:1<=x) (h2:x<=((1+c*(aa M).length:Nat):Int)):b9 l x=some (vB M cs bss c x):=by
 have Ua:=h.full hf hS (x.toNat-1) (by omega)
 rw [show (((x.toNat-1:Nat):Int)+1)=x by omega] at Ua
 cases e:b9 l x with
 | none=>exact absurd e Ua
 | some b=>rw [hS.agr _ (h.sat hf) (tH h) x b e]
theorem cx.fK (h:cx M names c cs bss) (hf:fJ (M.keepers.map (·.2)) cs=true) (hS:r8 (1+c*(aa M).length) (cR M c) (eG M cs bss) l){k:Nat}(hk:k<c){z:Str}(hz:z∈aa M):Gen.fK (oU (1+c*(aa M).length) l) (aa M) k z=bT (valAt M cs bss k) z:=by
 have hp:=cH (aa M) k z
 have hl:=kf hz hk
 unfold Gen.fK
 have e:((gT (aa M) z+1+k*(aa M).length:Nat):Int)+1=a7 (aa M) k z:=by
  unfold a7
  rw [Int.natCast_add,Int.natCast_add,Int.natCast_mul]
  omega
 rw [List.getD_eq_getElem?_getD,FT (by omega),e,h.choice hf hS (by omega) hl,jz hz hk]
 rfl
theorem cx.Q1 (h:cx M names c cs bss) (hf:fJ (M.keepers.map (·.2)) cs=true) (hS:r8 (1+c*(aa M).length) (cR M c) (eG M cs bss) l):(M.keepers.map (·.1)).map (Gen.fK (oU (1+c*(aa M).length) l) (aa M) 0)=cs:=by
 have hl:=h.hc.1
 have c1:=h.c1
 refine List.ext_getElem (by rw [List.length_map,List.length_map]; exact hl) λi h1 h2=>?_
 rw [List.length_map,List.length_map] at h1
 rw [List.getElem_map,List.getElem_map,h.fK hf hS (by omega) (hW (List.getElem_mem h1))]
 exact (h.fit (show 0<c by omega)).qU h1 h2
theorem cx.input (h:cx M names c cs bss) (hf:fJ (M.keepers.map (·.2)) cs=true) (hS:r8 (1+c*(aa M).length) (cR M c) (eG M cs bss) l){k:Nat}(hk:k<bss.length):M.switches.map (Gen.fK (oU (1+c*(aa M).length) l) (aa M) k)=bss[k]:=by
 have hl:=(h.hb _ (List.getElem_mem hk)).1
 have Cq:k<c:=by rw [← h.hl]; exact hk
 refine List.ext_getElem (by rw [List.length_map]; exact hl) λi h1 h2=>?_
 rw [List.length_map] at h1
 rw [List.getElem_map,h.fK hf hS Cq (oC (List.getElem_mem h1))]
 have e:=(h.fit Cq).Cj h1 (by rw [List.getD_eq_getElem?_getD,List.getElem?_eq_getElem hk]; exact h2)
 unfold valAt
 rw [e]
 simp only [List.getD_eq_getElem?_getD,List.getElem?_eq_getElem hk]
 rfl
end
def xo (z:Str):Str:="~" ++ z
def iC (names:List Str):List Str:=names++names.map xo++(["0", "1"]:List Str)
theorem FU {names:List Str}{x:Str}(h:x∈iC names):Lit names x:=by
 unfold iC at h
 rcases List.mem_append.mp h with h | h
 . rcases List.mem_append.mp h with h | h
   . exact .inr (.inr ⟨x,h,.inl rfl⟩)
   . obtain ⟨z,hz,rfl⟩:=List.mem_map.mp h
     exact .inr (.inr ⟨z,hz,.inr rfl⟩)
 . have:x = "0" \/ x = "1":=by simpa using h
   rcases this with rfl | rfl
   . exact .inl rfl
   . exact .inr (.inl rfl)
def oE (cs:List Int) (bss:List (List Int)):PyData:=.tuple [dT cs,.list (bss.map dT)]
theorem vM (cs:List Int) (bss:List (List Int)):(oE cs bss).canLay0=true:=by
 unfold oE
 rw [PyData.canLay0]
 refine vG λd hd=>?_
 have:d=dT cs\/d=.list (bss.map dT):=by simpa using hd
 rcases this with rfl | rfl
 . exact xJ _
 . rw [PyData.canLay0]
   refine vG λd hd=>?_
   obtain ⟨b,_,rfl⟩:=List.mem_map.mp hd
   exact xJ _
theorem Lg (cs:List Int) (bss:List (List Int)):(oE cs bss).depth<=3:=by
 unfold oE
 rw [PyData.depth]
 have:PyData.depthAll [dT cs,.list (bss.map dT)]<=2:=vH λd hd=>by
  have:d=dT cs\/d=.list (bss.map dT):=by simpa using hd
  rcases this with rfl | rfl
  . rw [Dv]
    decide
  . rw [PyData.depth]
    have:PyData.depthAll (bss.map dT)<=1:=vH λd hd=>by
     obtain ⟨b,_,rfl⟩:=List.mem_map.mp hd
     rw [Dv]
     exact Nat.le_refl _
    omega
 omega
theorem FV {K:W.Frag}{H:Hp}{r t q:Addr}{qs:List Addr}{cs:List Int}{bss:List (List Int)}(hr:H r=some (.tup [.ref t,.ref q])) (ht:H t=some (.tup (cs.map V.int))) (hq:H q=some (.lst (qs.map V.ref))) (nu:ck H qs bss):Dp K H (.ref r) (oE cs bss):=
 .tup (aR.of hr) (.cons (qP (aR.of ht)) (.cons (.lst (aq.of hq) (oB (Paired.bh nu λ_ _ e=>qP (aR.of e)))) .nil))
inductive Ji (K:W.Frag) (C2:Addr) (vs:List V) (H:Hp) (Q:VK):Prop
 | mk (y dy sw kp gt mv of m a1 a2 a3 a4 a5 a6 p rh st rw g0:Addr) (ts us ps qs ws:List Addr) (c:Nat) (M:aN) (names:List Str) (cs:List Int) (bss:List (List Int)) (h1:vs=[.ref y,.ref m,.ref p,.ref rh]) (h2:SO C2 H y dy sw kp gt mv of ts us c M) (h3:cx M names c cs bss) (h4:fJ (M.keepers.map (·.2)) cs=true) (h5:eu H m M a1 a2 a3 a4 a5 a6) (h6:CL H p ps (cR M c) (1+c*(aa M).length)) (h7:H rh=some (.tup [.ref st,.ref rw,.ref g0])) (h8:dQ H st cs) (h9:H rw=some (.lst (qs.map V.ref))) (EC:ck H qs bss) (SU:H g0=some (.lst (ws.map V.ref))) (SV:ck H ws (runs M cs bss (c+1))) (SW:c<=9) (h14:∀H',aj H H'->Q (.bl true) H'):Ji K C2 vs H Q
def HH (K:W.Frag) (C2:Addr):Sp:=λvs H Q _=>Ji K C2 vs H Q
abbrev nRR:List Str:=["_law_steps", "_law_m", "_law_clauses", "_law_run_here", "_law_stand", "_law_row", "_law_stands", "_law_told", "_law_choice_here", "_law_sure", "_law_k", "_law_values_here", "_law_literal_here", "_law_number", "_law_bit_here"]
abbrev Cr:List Str:=["_law_steps", "_law_m", "_law_clauses", "_law_run_here"]
theorem Q2:(["_law_name"]:List Str).Nodup:=by decide +kernel
section
variable {P:Program}{w:World}{K:W.Frag}{mg:Str->Option Value}{base:Heap}{C2:Addr}
theorem jX:aQ nRR Cr (au Cp):=⟨rfl,rfl,rfl,by decide +kernel,rfl,by decide +kernel,by decide +kernel⟩
theorem Q3 {f fN se Ub fB Aj fS fV N3:Addr}{fd dN sf Uc dB FW dS dV Ud:FuncData}(F:cC K "_law_run_right" "_law_run_right" Cp f fd) (T2:iF K mg C2) (O2:eY mg) (O:Own mg) (gU:mg "abs" = none)
 (gN:aw P w K mg base aD 2 fN dN iM (iw C2 true)) (mN:Meth K C2 "number" fN) (bN:Binds K dN iM [])
 (gMn:aw P w K mg base aD 1 se sf ["self"] (ni C2)) (mMn:Meth K C2 "many" se) (bMn:Binds K sf ["self"] [])
 (N4:aw P w K mg base aD 4 Ub Uc ["self", "choice"] (vE C2)) (mRo:Meth K C2 "run_of" Ub) (bRo:Binds K Uc ["self", "choice"] [])
 (gB:aw P w K mg base aD 3 fB dB xj (DA K C2)) (mB:mg "_law_bits_of" = some (.ref fB)) (kB:W.keepIn K (.ref fB)=true) (bB:Binds K dB xj [])
 (Cs:aw P w K mg base aD 2 Aj FW xh Dx) (N5:mg "_law_choice" = some (.ref Aj)) (N6:W.keepIn K (.ref Aj)=true) (N7:Binds K FW xh [])
 (gS:aw P w K mg base aD 1 fS dS xg xK) (mS:mg "_law_spread" = some (.ref fS)) (kS:W.keepIn K (.ref fS)=true) (bS:Binds K dS xg [])
 (gV:aw P w K mg base aD 2 fV dV lO (oa K)) (mV:mg "_law_values" = some (.ref fV)) (M8:W.keepIn K (.ref fV)=true) (bV:Binds K dV lO [])
 (Ue:aw P w K mg base aD 1 N3 Ud ["_law_values_here", "_law_literal_here"] qa) (Ug:mg "_law_bit" = some (.ref N3)) (Uh:W.keepIn K (.ref N3)=true) (Ui:Binds K Ud ["_law_values_here", "_law_literal_here"] []):aw P w K mg base aD 5 f fd Cr (HH K C2):=by
 refine F.ok jX (λvs H Q E h=>?_) (λcdv A outer s H vs Q E hr h=>?_)
 . obtain ⟨y,dy,sw,kp,gt,mv,of,m,a1,a2,a3,a4,a5,a6,p,rh,st,jb,g0,ts,us,ps,qs,ws,c,M,names,cs,bss,rfl,_⟩:=h
   rfl
 . obtain ⟨y,dy,sw,kp,gt,mv,of,m,a1,a2,a3,a4,a5,a6,p,rh,st,jb,g0,ts,us,ps,qs,ws,c,M,names,cs,bss,rfl,hO,hR,hf,hM,hC,hrh,gf,uP,nu,vJ,fE,NV,kk⟩:=h
   have hu:=eZ hr
   have hu3:=Nat.lt_of_le_of_lt (Nat.add_le_add_left (by decide:3<=64) _) hr.units
   have cI:bg 1 _:=hr.mono (by decide)
   have fT:bg 2 _:=hr.mono (by decide)
   have rX:bg 3 _:=hr.mono (by decide)
   refine ⟨_,ak (tO (pv 3) (eg rfl (aK (ax (i:=4) jX.nd rfl (Or.inl rfl)) (aK (ax (i:=5) jX.nd rfl (Or.inl rfl)) (aK (ax (i:=6) jX.nd rfl (Or.inl rfl)) cU)))))
    (ak (aE (i:=7) jX.nd rfl (Or.inl rfl) (aA gB rX rfl mB kB bB .nil az (ae (pv 0) (ae (pv 1) (ae (pv 4) (ae (pv 5) ah))))))
    (ak (bY (iS (xX (pv 7))) (ar cS) aY)
    (ak (aE (i:=8) jX.nd rfl (Or.inl rfl) (aA Cs fT rfl N5 N6 N7 .nil az (ae (fZ (pv 0) T2.cl mMn gMn cI bMn .nil az) (ae (pv 2) (ae (pv 7) ah)))))
    (ak (bY (PW.pt (nE (iS (xX (pv 8))) (mi (a8 (Cb (n:=3) hu3) (dh (pv 0) T2.cl mRo N4 (hr.mono (by decide)) bRo .nil az (ae (pv 8) ah)) (eh (ae (pv 4) (ae (pv 5) ah))) (bp _))))) (ar cS) aY)
    (ak (aE (i:=9) jX.nd rfl (Or.inl rfl) (aA gS cI rfl mS kS bS .nil az (ae (pv 2) (ae (pv 7) ah))))
    (ak (cc PassesOwn.never rfl (cO rfl O.range (ae (aU bZ (by rfl) O2.len PySem.boot_len (ae (pv 5) ah)) ah)) (ax (i:=10) jX.nd rfl (Or.inl rfl))
     (ak (aE (i:=11) jX.nd rfl (Or.inl rfl) (aA gV fT rfl mV M8 bV .nil az (ae (pv 1) (ae (bz (r:=jl K) bJ (pv 6) (pv 10) (λ_ _=>rfl)) (ae (bz (r:=jl K) bJ (pv 5) (pv 10) (λ_ _=>rfl)) ah)))))
     (ar (cc PassesOwn.never rfl (bU (aH iu (aH iu (aL (jq rfl) (by rfl) O2.list PyProof.Rows.boot_list (ae (pv 11) ah))
      (vf (cX (N:=["_law_name"]) (js:=[none]) (by kernel_rfl) rfl (vg (pv 11)) (λ_ _ _ _ _ _=>ax (i:=0) Q2 rfl (Or.inl rfl) (.inr rfl)) (λ_ _ _ _ _ _=>bj) (λ_ _ _ _ _ _=>aH eC aO (pv 0)))))
      (bt (ae aO (ae aO ah))))) (ax (i:=12) jX.nd rfl (Or.inl rfl))
      (ak (aE (i:=13) jX.nd rfl (Or.inl rfl) (dh (pv 0) T2.cl mN gN fT bN .nil az (ae (pv 12) (ae (pv 10) ah))))
      (ak (bY (PW.pt (nE (ky (yf xC xC av (aU fU (by rfl) gU PyProof.Rows.boot_abs (ae (pv 13) ah)) (fZ (pv 0) T2.cl mMn gMn cI bMn .nil az)))
       (mi (ky (ie (aU md (by rfl) O2.isi PyProof.Rows.boot_isinstance (ae (pv 13) (ae (uV (v:=.ty "int") (by rfl) O2.int PyProof.Rows.boot_int rfl) ah)))))))) (ar cS) aY)
      (ak (bY (a8 xB (jh iU (bz (r:=jl K) bJ (pv 8) (aH jC (aU fU (by rfl) gU PyProof.Rows.boot_abs (ae (pv 13) ah)) av) (λ_ _=>rfl)) (aL o6 (by rfl) O2.int PyProof.Rows.boot_int (ae (jh lC (pv 13) av (bp _)) ah)) (bp _))
       (jh iU (aA Ue cI rfl Ug Uh Ui .nil az (ae (pv 11) (ae (pv 12) ah))) av (bp _)) (bp _)) (ar cS) aY)
      (ak (aE (i:=14) jX.nd rfl (Or.inl rfl) (aA Ue cI rfl Ug Uh Ui .nil az (ae (pv 11) (ae (pv 12) ah))))
      (ar (bY (PW.pt (tM (iS (ph hu (aU fU (by rfl) gU PyProof.Rows.boot_abs (ae (pv 13) ah)) (pv 9)) (by with_unfolding_all rfl)) (ql HG))) (ar cS) aY))))))))))
    (ar (aT j3)))))))),?_⟩
   have WO:(b8 (c:Int) sw kp gt mv of).lookup ("number" : Str)=none:=ib _ _ _ _ _ _ (by decide +kernel) (by decide +kernel) (by decide +kernel) (by decide +kernel) (by decide +kernel) (by decide +kernel)
   have qj:(b8 (c:Int) sw kp gt mv of).lookup ("many" : Str)=none:=ib _ _ _ _ _ _ (by decide +kernel) (by decide +kernel) (by decide +kernel) (by decide +kernel) (by decide +kernel) (by decide +kernel)
   have WQ:(b8 (c:Int) sw kp gt mv of).lookup ("run_of" : Str)=none:=ib _ _ _ _ _ _ (by decide +kernel) (by decide +kernel) (by decide +kernel) (by decide +kernel) (by decide +kernel) (by decide +kernel)
   have hm:=hR.sm
   have c1:=hR.c1
   have iX:=hR.hl
   have hlen:=hm.len
   have hN:=hC.nN
   have eN:(1+(c:Int)*((aa M).length:Int))=((1+c*(aa M).length:Nat):Int):=by rw [Int.natCast_add,Int.natCast_mul]; rfl
   refine ⟨_,rfl,rh,_,rfl,aR.of hrh,rfl,_,_,rfl,_,_,rfl,_,_,rfl,rfl,?_⟩
   refine ⟨_,rfl,_,rfl,_,rfl,_,rfl,y,dy,sw,kp,gt,mv,of,m,a1,a2,a3,a4,a5,a6,st,jb,ts,us,qs,c,M,cs,bss,rfl,hO,hm,hM,dQ.k gf,hR.hc.1,uP,nu,λbs hb=>(hR.hb bs hb).1,by omega,c1,NV,hlen,λd H1 hd s1 Bz hK=>?_⟩
   refine ⟨_,rfl,_,rfl,cE rfl ?_⟩
   have qg:=hO.same s1
   refine ⟨_,rfl,y,dy,_,rfl,qg.hy,qj,y,dy,sw,kp,gt,mv,of,aa M,c,rfl,qg.hy,qg.ho,by omega,by omega,?_⟩
   have N8:=hR.sat hf
   have N9:=tH hR
   refine ⟨_,rfl,_,rfl,p,d,ps,cR M c,eG M cs bss,1+c*(aa M).length,(by rw [← eN]; rfl),hC.same s1,Bz,hK,λl hS n hn=>hR.full hf hS n hn,λH2 _ jg=>absurd (jg _ N8 N9) id,λch l H2 s2 iQ Oa hS=>?_⟩
   have eX:=s1.trans s2
   have Uj:=hO.same eX
   refine ⟨_,rfl,_,rfl,cE rfl ?_⟩
   refine ⟨_,rfl,y,dy,_,rfl,Uj.hy,WQ,_,rfl,y,dy,sw,kp,gt,mv,of,ch,ts,us,c,M,_,rfl,Uj,hm,c1,by omega,Oa,Lf _ _,λr t q Uk H3 s3 rX uD Bo Ob=>?_⟩
   have Oc:ck H3 Uk bss:=by
    have oS:=Ob.length
    rw [List.length_range] at oS
    have gen:∀{us:List Addr}{n:Nat}{L:List (List Int)},Paired (λu (k:Nat)=>H3 u=some (.tup ((M.switches.map (fK (oU (1+c*(aa M).length) l) (aa M) k)).map V.int))) us (List.range' n L.length)->(∀k (hk:k<L.length),M.switches.map (fK (oU (1+c*(aa M).length) l) (aa M) (n+k))=L[k])->ck H3 us L:=by
     intro us n L
     induction L generalizing us n with
     | nil=>intro h _; cases h; exact .nil
     | cons b L ih=>
      intro h he
      rw [List.length_cons,List.range'_succ] at h
      cases h with
      | cons h1 h2=>
       have e0:=he 0 (by simp)
       refine .cons ?_ (ih h2 λk hk=>?_)
       . rw [show n+0=n from rfl] at e0
         rw [e0] at h1
         exact h1
       . have:=he (k+1) (by simpa using hk)
         rw [show n+1+k=n+(k+1) by omega]
         simpa using this
    have h0:Paired (λu (k:Nat)=>H3 u=some (.tup ((M.switches.map (fK (oU (1+c*(aa M).length) l) (aa M) k)).map V.int))) Uk (List.range' 0 bss.length):=by
     rw [iX,← List.range_eq_range']
     exact Ob
    exact gen h0 λk hk=>by
     rw [Nat.zero_add]
     exact hR.input hf hS hk
   rw [hR.Q1 hf hS] at uD
   have gH:=eX.trans s3
   refine ⟨_,rfl,_,rfl,(by show 2<=sizeLine; decide),λpr hpr=>?_⟩
   have s4:aj H3 (upd H3 pr (.tup [.ref st,.ref jb])):=aj.ao hpr
   have q4:(upd H3 pr (.tup [.ref st,.ref jb])) pr=some (.tup [.ref st,.ref jb]):=ag
   generalize upd H3 pr (.tup [.ref st,.ref jb])=H4 at s4 q4 ⊢
   have gQ:=gH.trans s4
   refine ⟨oE cs bss,oE cs bss,FV (s4 _ _ rX) (s4 _ _ uD) (s4 _ _ Bo) (ck.same Oc s4),FV q4 (gQ _ _ gf) (gQ _ _ uP) (ck.same nu gQ),vM _ _,vM _ _,Nat.le_trans (Nat.min_le_left _ _) (Lg _ _),_,rfl,?_⟩
   refine cE (b:=!PyData.eqv (oE cs bss) (oE cs bss)) (by rw [PySem.SeqAt.eqv_refl _ (vM _ _)]; rfl) ?_
   have uN:=s3.trans s4
   have Ct:=s2.trans uN
   refine ⟨_,rfl,_,rfl,p,d,ps,cR M c,eG M cs bss,1+c*(aa M).length,rfl,hC.same gQ,Ct _ _ Bz,hK,λH5 _ jg=>absurd (jg _ N8 N9) id,λsr l' H5 s5 hsr WR hS'=>?_⟩
   have rK:=gQ.trans s5
   have WS:=s5 _ _ (uN _ _ Oa)
   have WT:=rK _ _ uP
   have oS:=nu.length
   refine ⟨_,rfl,jb,_,rfl,.inl (aq.of WT),_,rfl,by omega,?_,?_⟩
   . rw [List.length_map,oS]
     exact Int.lt_trans (by omega:(bss.length:Int)<1000) (by decide)
   rw [List.length_map,oS,show ((bss.length:Int)).toNat=bss.length by omega]
   refine eI (n:=bss.length) (λk σ Hi=>∃v10 v11 jG jH xp,σ=[some (.ref y),some (.ref m),some (.ref p),some (.ref rh),some (.ref st),some (.ref jb),some (.ref g0),some (.ref d),some (.ref ch),some (.ref sr),v10,v11,jG,jH,xp]/\aj H5 Hi) ⟨none,none,none,none,none,rfl,λ_ _ h=>h⟩ ?_ ?_
   . rintro k σ Hi hk ⟨v10,v11,jG,jH,xp,rfl,si⟩
     have Cq:k<c:=by omega
     have uS:=rK.trans si
     have Ci:bss[k]?=some bss[k]:=List.getElem?_eq_getElem hk
     obtain ⟨rt,NW,FK⟩:=a9 nu (i:=k) Ci
     have yD:=hR.fit Cq
     have eb:bss.getD k []=bss[k]:=by rw [List.getD_eq_getElem?_getD,Ci]; rfl
     rw [eb] at yD
     obtain ⟨wt,hwt,hWt⟩:=a9 fE (i:=k) (b:=du M cs (bss.take k)) (by
      unfold runs
      rw [List.getElem?_map,List.getElem?_range (by omega)]
      rfl)
     have e0:(0:Int)+(k:Int)=(k:Int):=Int.zero_add _
     refine ⟨_,rfl,_,rfl,_,rfl,g0,_,_,.ref wt,rfl,rfl,aq.of (uS _ _ vJ),(by rw [e0]; exact cV (by rw [List.getElem?_map,hwt]; rfl)),_,rfl,_,rfl,jb,_,_,.ref rt,rfl,rfl,aq.of (uS _ _ uP),(by rw [e0]; exact cV (by rw [List.getElem?_map,NW]; rfl)),m,a1,a2,a3,a4,a5,a6,wt,rt,M,names,bss[k],du M cs (bss.take k),rfl,hM.same uS,yD,dQ.k (uS _ _ hWt),dQ.k (uS _ _ FK),λvd H6 hvd s6 DC=>?_⟩
     have ev:cJ M bss[k] (du M cs (bss.take k)) M.gates.length=valAt M cs bss k:=by unfold valAt; rw [eb]
     rw [ev] at DC
     have ek:(valAt M cs bss k).map (·.1)=aa M:=by
      rw [← ev,yD.keys,hR.names]
     have Ul:(valAt M cs bss k).length<=100:=by
      have:=congrArg List.length ek
      rw [List.length_map] at this
      omega
     have zN:=uS.trans s6
     have WU:H vd=none:=uS.free hvd
     refine ⟨_,rfl,vd,_,rfl,.inl DC,λl1 fj=>?_⟩
     have ek1:(dk (valAt M cs bss k)).map (λkv=>kV kv.1)=(aa M).map V.str:=by
      rw [← ek]
      unfold dk
      rw [List.map_map,List.map_map]
      rfl
     rw [ek1]
     have s7:aj H6 (upd H6 l1 (.lst ((aa M).map V.str))):=aj.ao fj
     have q7:(upd H6 l1 (.lst ((aa M).map V.str))) l1=some (.lst ((aa M).map V.str)):=ag
     generalize upd H6 l1 (.lst ((aa M).map V.str))=H7 at s7 q7 ⊢
     have Od:=s7 _ _ DC
     refine ⟨_,rfl,vd,_,rfl,Od,λo D hD=>?_⟩
     have Um:D≠vd:=λe=>by rw [e,ag] at hD; cases hD
     have hD7:H7 D=none:=by rw [ai Um] at hD; exact hD
     have fz:(upd H7 vd (.cz o (.dK (dk (valAt M cs bss k))))) vd=some (.cz o (.dK (dk (valAt M cs bss k)))):=ag
     have ot:∀b u,H7 b=some u->b≠vd->(upd H7 vd (.cz o (.dK (dk (valAt M cs bss k))))) b=some u:=λb u hb nb=>by rw [ai nb]; exact hb
     generalize upd H7 vd (.cz o (.dK (dk (valAt M cs bss k))))=H8 at hD fz ot ⊢
     have Oe:(dk (valAt M cs bss k)).length=(aa M).length:=by
      unfold dk
      rw [List.length_map,← ek,List.length_map]
     refine cY (aa M).length (λi acc σ H9=>acc=(((aa M).take i).map xo).map V.str/\(∃u,σ=[u])/\aj H8 H9) ⟨rfl,⟨none,rfl⟩,aj.ao hD⟩ ag ?_ ?_
     . rintro acc σ H9 aW ⟨rfl,_,s9⟩
       rw [List.take_length] at aW
       refine ⟨⟨s9 _ _ fz,Oe.symm⟩,vd,o,_,s9 _ _ fz,(λo' u e=>by have e':H vd=_:=e; rw [WU] at e'; cases e'),?_⟩
       have Ei:aj H7 (upd H9 vd (.dK (dk (valAt M cs bss k)))):=λb u hb=>by
        by_cases e:b=vd
        . rw [e] at hb ⊢
          rw [ag,← hb,Od]
        . rw [ai e]
          exact s9 _ _ (ot b u hb e)
       have Of:(upd H9 vd (.dK (dk (valAt M cs bss k)))) D=some (.lst (((aa M).map xo).map V.str)):=by rw [ai Um]; exact aW
       generalize upd H9 vd (.dK (dk (valAt M cs bss k)))=yA at Ei Of ⊢
       refine ⟨l1,D,_,_,rfl,rfl,Ei _ _ q7,Of,(by simp only [List.length_map]; exact kY (by omega)),λl2 c8=>?_⟩
       have L9:aj yA (upd yA l2 (.lst ((aa M).map V.str++((aa M).map xo).map V.str))):=aj.ao c8
       have Uo:(upd yA l2 (.lst ((aa M).map V.str++((aa M).map xo).map V.str))) l2=some (.lst ((aa M).map V.str++((aa M).map xo).map V.str)):=ag
       generalize upd yA l2 (.lst ((aa M).map V.str++((aa M).map xo).map V.str))=Ej at L9 Uo ⊢
       refine ⟨(by show 2<=sizeLine; decide),λl3 pK=>?_⟩
       have Og:aj Ej (upd Ej l3 (.lst [.str "0",.str "1"])):=aj.ao pK
       have Up:(upd Ej l3 (.lst [.str "0",.str "1"])) l3=some (.lst [.str "0",.str "1"]):=ag
       generalize upd Ej l3 (.lst [.str "0",.str "1"])=Jj at Og Up ⊢
       refine ⟨l2,l3,_,_,rfl,rfl,Og _ _ Uo,Up,(by simp only [List.length_append,List.length_map]; exact kY (by show (aa M).length+(aa M).length+2<=1000; omega)),λl4 um=>?_⟩
       have eL:(aa M).map V.str++((aa M).map xo).map V.str++[.str "0",.str "1"]=(iC (aa M)).map V.str:=by
        unfold iC
        rw [List.map_append,List.map_append]
        rfl
       rw [eL]
       have wF:aj Jj (upd Jj l4 (.lst ((iC (aa M)).map V.str))):=aj.ao um
       have Oh:(upd Jj l4 (.lst ((iC (aa M)).map V.str))) l4=some (.lst ((iC (aa M)).map V.str)):=ag
       generalize upd Jj l4 (.lst ((iC (aa M)).map V.str))=H13 at wF Oh ⊢
       have Oi:=s7.trans (Ei.trans (L9.trans (Og.trans wF)))
       refine ⟨l4,rfl,⟨_,aq.of Oh⟩,d7 (K:=K) (a:=l4) (xs:=(iC (aa M)).map V.str) (λi σ Hj=>∃jG jH xp,σ=[some (.ref y),some (.ref m),some (.ref p),some (.ref rh),some (.ref st),some (.ref jb),some (.ref g0),some (.ref d),some (.ref ch),some (.ref sr),some (.int (0+(k:Int))),some (.ref vd),jG,jH,xp]/\aj H13 Hj) ⟨jG,jH,xp,rfl,λ_ _ h=>h⟩ ?_ ?_ ?_⟩
       . rintro i σ Hj _ ⟨_,_,_,_,sj⟩
         exact aq.of (sj _ _ Oh)
       . rintro i xv σ Hj hx ⟨jG,jH,xp,rfl,sj⟩
         have hi:i<(iC (aa M)).length:=by
          have:=(List.getElem?_eq_some_iff.mp hx).1
          rwa [List.length_map] at this
         have ex:xv=.str (iC (aa M))[i]:=by
          rw [List.getElem?_map,List.getElem?_eq_getElem hi] at hx
          exact (Option.some.inj hx).symm
         subst ex
         have lg:=FU (List.getElem_mem hi)
         generalize (iC (aa M))[i]=lt at lg
         have Oj:=Oi.trans sj
         have Uq:=zN.trans Oj
         have Ak:=hO.same Uq
         have iG:=uR (c:=c) hm Cq lg
         have Ol:=(lz hR Cq lg).1
         have Om:j8 (valAt M cs bss k) lt:=lg.IL hm.nm λx hx=>by rw [ek]; exact hx
         refine ⟨_,rfl,y,dy,_,rfl,Ak.hy,WO,_,rfl,_,rfl,y,dy,sw,kp,gt,mv,of,aa M,_,lt,k,_,(by show [V.ref y,V.str lt,V.int (0+(k:Int))]=_; rw [Int.zero_add]),Ak.hy,Ak.ho,hm.nd,hm.nm,by omega,by omega,.of hm.nm lg,(λh=>nomatch h),λH14 Ct=>?_⟩
         generalize aX (aa M) k lt=n at iG Ol
         have s0k:=Uq.trans Ct
         have Oo:=hO.same s0k
         have ae4:(if n<0 then -n else n)=aF n:=rfl
         refine ⟨_,rfl,n,rfl,_,_,rfl,rfl,true,(by show V.bl (decide ((1:Int)<=aF n))=V.bl true; rw [decide_eq_true iG.1]),gc rfl ?_⟩
         refine ⟨_,rfl,y,dy,_,rfl,Oo.hy,qj,y,dy,sw,kp,gt,mv,of,aa M,c,rfl,Oo.hy,Oo.ho,by omega,by omega,?_⟩
         refine ⟨_,_,rfl,rfl,true,(by show V.bl (decide (aF n<=1+(c:Int)*((aa M).length:Int)))=V.bl true; rw [decide_eq_true (by rw [eN]; exact iG.2)]),cE rfl ?_⟩
         refine ⟨_,rfl,.int n,_, "int",true,rfl,.int n,rfl,true,rfl,cE rfl ?_⟩
         have Ur:=si.trans (s6.trans (Oj.trans Ct))
         have WV:=Ur _ _ WS
         have hix:iq ((oU (1+c*(aa M).length) l).map V.int) (aF n-1)=some (.int (vB M cs bss c (aF n))):=by
          have e:aF n-1=(((aF n).toNat-1:Nat):Int):=by omega
          rw [e]
          refine cV ?_
          rw [List.getElem?_map,FT (by omega),show ((((aF n).toNat-1:Nat):Int)+1)=aF n by omega,hR.choice hf hS iG.1 iG.2]
          rfl
         refine ⟨_,rfl,_,rfl,n,rfl,_,_,rfl,rfl,ch,_,_,_,rfl,rfl,aq.of WV,hix,_,rfl,_,_,rfl,rfl,.inr ⟨_,rfl,rfl,?_⟩⟩
         have Oq:=Ct _ _ (Oj _ _ DC)
         refine ⟨_,rfl,_,rfl,vd,_,lt,rfl,.inl Oq,Om,λH15 Ot=>?_⟩
         refine ⟨rfl,rfl,_,rfl,?_⟩
         have Q4:decide (V.int (vB M cs bss c (aF n))=V.int (fQ n))=decide (V.int (cN (valAt M cs bss k) lt)=V.int 1):=by
          rw [Bool.eq_iff_iff,decide_eq_true_eq,decide_eq_true_eq]
          constructor
          . intro h
            rw [Ol.mp (V.int.inj h)]
          . intro h
            exact congrArg V.int (Ol.mpr (V.int.inj h))
         have WW:decide (V.int (vB M cs bss c (aF n))=V.int (if decide (0<n)=true then 1 else 0))=decide (V.int (cN (valAt M cs bss k) lt)=V.int 1):=Q4
         rw [WW]
         refine cE (by rw [decide_eq_true rfl]; rfl) ?_
         refine ⟨_,rfl,_,rfl,vd,_,lt,rfl,.inl (Ot _ _ Oq),Om,λH16 Us=>?_⟩
         have s5m:=Ur.trans (Ot.trans Us)
         refine ⟨_,rfl,n,rfl,_,rfl,sr,_,rfl,cw.k (k:=.inl (aF n)) (s5m _ _ WR),_,rfl,?_⟩
         rw [tw]
         have cD:b9 l' (aF n)≠none:=by
          rw [hR.choice hf hS' iG.1 iG.2]
          intro z
          cases z
         exact cE (decide_eq_false cD) (cE rfl ⟨_,_,_,rfl,sj.trans (Ct.trans (Ot.trans Us))⟩)
       . rintro σ Hj ⟨jG,jH,xp,rfl,sj⟩
         exact ⟨_,_,_,_,_,rfl,si.trans (s6.trans (Oi.trans sj))⟩
     . rintro i acc σ H9 hi aW ⟨rfl,⟨u,rfl⟩,s9⟩
       have gy:(aa M)[i]?=some (aa M)[i]:=List.getElem?_eq_getElem hi
       obtain ⟨bv,ei⟩:∃bv,(dk (valAt M cs bss k))[i]?=some ((.inr (aa M)[i]:Key),bv):=by
        have BB:i<(valAt M cs bss k).length:=by rw [← ek,List.length_map] at hi; exact hi
        refine ⟨V.int (valAt M cs bss k)[i].2,?_⟩
        unfold dk
        rw [List.getElem?_map,List.getElem?_eq_getElem BB]
        have:(valAt M cs bss k)[i].1=(aa M)[i]:=by
         have e2:((valAt M cs bss k).map (·.1))[i]?=(aa M)[i]?:=by rw [ek]
         rw [List.getElem?_map,List.getElem?_eq_getElem BB,gy] at e2
         exact Option.some.inj e2
        rw [← this]
        rfl
       refine ⟨⟨s9 _ _ fz,by rw [Oe]; exact hi⟩,?_⟩
       rintro x' H' ⟨rfl,kv,gq,rfl⟩
       rw [ei] at gq
       cases gq
       refine cA ?_
       have kT:=(hm.nm _ (List.getElem_mem hi)).len
       refine ⟨_,rfl,_,_,rfl,rfl,?_,_,aW,?_,bo hi ag ⟨?_,⟨_,rfl⟩,λb o' hb=>?_⟩⟩
       . have e:("~" : Str).length=1:=by decide +kernel
         exact gb (by omega)
       . rw [List.length_map,List.length_map,List.length_take]
         exact small (by omega)
       . rw [List.take_succ,gy,List.map_append,List.map_append]
         rfl
       . rw [ai (af hb hD)]
         exact s9 _ _ hb
   . rintro σ Hi ⟨v10,v11,jG,jH,xp,rfl,si⟩
     exact kk Hi (rK.trans si)
end
end Gen
namespace Gen
open PySem L2
abbrev Cu:Stmt:=top 32
theorem Q5 (l:List (List Int)) (c:List Int):((l.map dT).any λe=>PyData.eqv e (dT c))=decide (c∈l):=by
 rw [List.any_map,Bool.eq_iff_iff,List.any_eq_true,decide_eq_true_eq]
 constructor
 . rintro ⟨x,hx,e⟩
   have e':PyData.eqv (dT x) (dT c)=true:=e
   rw [I0] at e'
   exact of_decide_eq_true e' ▸ hx
 . intro h
   refine ⟨c,h,?_⟩
   show PyData.eqv (dT c) (dT c)=true
   rw [I0]
   exact decide_eq_true rfl
theorem Ou (l:List (List Int)):∀e∈l.map dT,e.canLay0=true:=λe he=>by
 obtain ⟨c,_,rfl⟩:=List.mem_map.mp he
 exact xJ c
inductive Jk (K:W.Frag) (C2:Addr) (vs:List V) (H:Hp) (Q:VK):Prop
 | mk (y dy sw kp gt mv of m a1 a2 a3 a4 a5 a6 p:Addr) (ts us ps:List Addr) (c:Nat) (M:aN) (names:List Str) (h1:vs=[.ref y,.ref m,.ref p]) (h2:SO C2 H y dy sw kp gt mv of ts us c M) (h3:Sm M) (h4:Fm M names) (h5:M.keepers.length<=6) (h6:eu H m M a1 a2 a3 a4 a5 a6) (h7:CL H p ps (cR M c) (1+c*(aa M).length)) (h8:1<=c) (h9:c<=9) (EC:∀H',aj H H'->Q (.bl true) H'):Jk K C2 vs H Q
def HI (K:W.Frag) (C2:Addr):Sp:=λvs H Q _=>Jk K C2 vs H Q
abbrev nNE:List Str:=["_law_steps", "_law_m", "_law_clauses", "_law_firsts_here", "_law_stand", "_law_told"]
abbrev Cv:List Str:=["_law_steps", "_law_m", "_law_clauses"]
section
variable {P:Program}{w:World}{K:W.Frag}{mg:Str->Option Value}{base:Heap}{C2:Addr}
theorem DD:aQ nNE Cv (au Cu):=⟨rfl,rfl,rfl,by decide +kernel,rfl,by decide +kernel,by decide +kernel⟩
theorem Q6 {f se fB Aj fA fF:Addr}{fd sf dB FW dA dF:FuncData}(F:cC K "_law_none_else" "_law_none_else" Cu f fd) (T2:iF K mg C2) (O2:eY mg)
 (gMn:aw P w K mg base aD 1 se sf ["self"] (ni C2)) (mMn:Meth K C2 "many" se) (bMn:Binds K sf ["self"] [])
 (gB:aw P w K mg base aD 3 fB dB xj (DA K C2)) (mB:mg "_law_bits_of" = some (.ref fB)) (kB:W.keepIn K (.ref fB)=true) (bB:Binds K dB xj [])
 (Cs:aw P w K mg base aD 2 Aj FW xh Dx) (N5:mg "_law_choice" = some (.ref Aj)) (N6:W.keepIn K (.ref Aj)=true) (N7:Binds K FW xh [])
 (gA:aw P w K mg base aD 1 fA dA ["_law_many"] (qe K)) (mA:mg "_law_all_bits" = some (.ref fA)) (kA:W.keepIn K (.ref fA)=true) (bA:Binds K dA ["_law_many"] [])
 (gF:aw P w K mg base aD 2 fF dF ["_law_m"] (oo K)) (mF:mg "_law_firsts" = some (.ref fF)) (kF:W.keepIn K (.ref fF)=true) (bF:Binds K dF ["_law_m"] []):aw P w K mg base aD 4 f fd Cv (HI K C2):=by
 refine F.ok DD (λvs H Q E h=>?_) (λcdv A outer s H vs Q E hr h=>?_)
 . obtain ⟨y,dy,sw,kp,gt,mv,of,m,a1,a2,a3,a4,a5,a6,p,ts,us,ps,c,M,names,rfl,_⟩:=h
   rfl
 . obtain ⟨y,dy,sw,kp,gt,mv,of,m,a1,a2,a3,a4,a5,a6,p,ts,us,ps,c,M,names,rfl,hO,hm,hFm,k6,hM,hC,c1,c9,kk⟩:=h
   have hu:=eZ hr
   have Ov:=Nat.lt_of_le_of_lt (Nat.add_le_add_left (by decide:2<=64) _) hr.units
   have cI:bg 1 _:=hr.mono (by decide)
   have fT:bg 2 _:=hr.mono (by decide)
   refine ⟨_,ak (aE (i:=3) DD.nd rfl (Or.inl rfl) (aA gF fT rfl mF kF bF .nil az (ae (pv 1) ah)))
    (ak (cc PassesOwn.never rfl (bU (aA gA cI rfl mA kA bA .nil az (ae (aU bZ (by rfl) O2.len PySem.boot_len (ae (cb hu (pv 1) aO (λ_ _=>rfl)) ah)) ah))) (ax (i:=4) DD.nd rfl (Or.inl rfl))
     (ar (bY (a8 (FA (n:=1) Ov) (pv 4) (pv 3) (by with_unfolding_all rfl))
      (ak (aE (i:=5) DD.nd rfl (Or.inl rfl) (aA gB (hr.mono (by decide)) rfl mB kB bB .nil az (ae (pv 0) (ae (pv 1) (ae (pv 4) (ae (bt ah) ah))))))
      (ar (bY (PW.pt (tM (iS (qk (pv 5))) (ql (iS (qk (aA Cs fT rfl N5 N6 N7 .nil az (ae (fZ (pv 0) T2.cl mMn gMn cI bMn .nil az) (ae (pv 2) (ae (pv 5) ah))))))))) (ar cS) aY))) aY)))
    (ar (aT j3))),?_⟩
   have qj:(b8 (c:Int) sw kp gt mv of).lookup ("many" : Str)=none:=ib _ _ _ _ _ _ (by decide +kernel) (by decide +kernel) (by decide +kernel) (by decide +kernel) (by decide +kernel) (by decide +kernel)
   have hlen:=hm.len
   have eN:(1+(c:Int)*((aa M).length:Int))=((1+c*(aa M).length:Nat):Int):=by rw [Int.natCast_add,Int.natCast_mul]; rfl
   refine ⟨_,rfl,m,a1,a2,a3,a4,a5,a6,M,rfl,hM,k6,hFm.ok.first,λfp fs H1 s1 hfp Hu rJ=>?_⟩
   have jM:=hM.same s1
   obtain ⟨ks,wL,lQ⟩:=id jM.kp
   have mJ:=lQ.length
   rw [List.length_map] at mJ
   refine ⟨_,rfl,m,.ref a2,rfl,cw.k (k:=.inr "keepers") jM.top,a2,_,rfl,.inl (aq.of wL),?_⟩
   rw [List.length_map,mJ]
   refine ⟨_,rfl,by omega,by omega,λtl gs H2 s2 mE vc rP=>?_⟩
   rw [show ((M.keepers.length:Int)).toNat=M.keepers.length by omega] at rP
   have eX:=s1.trans s2
   have jI:=rP.length
   refine ⟨tl,rfl,⟨_,aq.of vc⟩,d7 (K:=K) (a:=tl) (xs:=gs.map V.ref) (λi σ Hi=>∃v4 v5,σ=[some (.ref y),some (.ref m),some (.ref p),some (.ref fp),v4,v5]/\aj H2 Hi) ⟨none,none,rfl,λ_ _ h=>h⟩ ?_ ?_ ?_⟩
   . rintro i σ Hi _ ⟨_,_,_,si⟩
     exact aq.of (si _ _ vc)
   . rintro i xv σ Hi hx ⟨v4,v5,rfl,si⟩
     have hi:i<(ef M.keepers.length).length:=by
      have:=(List.getElem?_eq_some_iff.mp hx).1
      rw [List.length_map] at this
      omega
     obtain ⟨t,ht,hT⟩:=a9 rP (i:=i) (List.getElem?_eq_getElem hi)
     have ex:xv=.ref t:=by
      rw [List.getElem?_map,ht] at hx
      exact (Option.some.inj hx).symm
     subst ex
     have bK:=List.getElem_mem hi
     generalize (ef M.keepers.length)[i]=cs at hT bK
     have FH:=lx _ _ bK
     have uS:=eX.trans si
     have r9:dQ Hi t cs:=si _ _ hT
     refine ⟨_,rfl,_,rfl,fp,_,dT cs,_,rfl,.inl (aq.of (si _ _ (s2 _ _ Hu))),oB (Paired.bh (ck.same rJ (s2.trans si)) λ_ _ e=>qP (aR.of e)),qP (aR.of r9),xJ _,Ou _,(by rw [Dv]; exact Nat.le_refl _),_,rfl,?_⟩
     rw [if_pos rfl,Q5]
     by_cases dw:cs∈(ef M.keepers.length).filter (fJ (M.keepers.map (·.2)))
     . exact cE (by rw [decide_eq_true dw]; rfl) ⟨_,_,rfl,si⟩
     . have jg:fJ (M.keepers.map (·.2)) cs=false:=by
        cases e:fJ (M.keepers.map (·.2)) cs with
        | false=>rfl
        | true=>exact absurd (List.mem_filter.mpr ⟨bK,e⟩) dw
       refine gc (by rw [decide_eq_false dw]; rfl) ?_
       refine ⟨_,rfl,_,rfl,_,rfl,(by show 0<=sizeLine; decide),λem hem=>?_⟩
       have s3:aj Hi (upd Hi em (.lst [])):=aj.ao hem
       have q3:(upd Hi em (.lst [])) em=some (.lst (([]:List Addr).map V.ref)):=ag
       generalize upd Hi em (.lst [])=H3 at s3 q3 ⊢
       have gH:=uS.trans s3
       refine ⟨y,dy,sw,kp,gt,mv,of,m,a1,a2,a3,a4,a5,a6,t,em,ts,us,[],c,M,cs,[],rfl,hO.same gH,hm,hM.same gH,dQ.k (s3 _ _ r9),FH.1,q3,.nil,(λ_ h=>nomatch h),Nat.zero_le _,c1,c9,hlen,λd H4 hd s4 wM hK=>?_⟩
       have gQ:=gH.trans s4
       have j1:=hO.same gQ
       refine ⟨_,rfl,_,rfl,gc rfl ?_⟩
       refine ⟨_,rfl,y,dy,_,rfl,j1.hy,qj,y,dy,sw,kp,gt,mv,of,aa M,c,rfl,j1.hy,j1.ho,by omega,by omega,?_⟩
       refine ⟨_,rfl,_,rfl,p,d,ps,cR M c,eG M cs [],1+c*(aa M).length,(by rw [← eN]; rfl),hC.same gQ,wM,hK,λl hS _ _=>absurd (FR hm c1 FH jg hK hS) id,λH5 s5 _=>?_,λch l H5 _ _ _ hS=>absurd (FR hm c1 FH jg hK hS) id⟩
       exact ⟨_,rfl,cE rfl ⟨_,_,rfl,(si.trans s3).trans (s4.trans s5)⟩⟩
   . rintro σ Hi ⟨v4,v5,rfl,si⟩
     exact kk Hi (eX.trans si)
end
end Gen
namespace PySem
section
variable {prog:Program}{w:World}{A:Around}{E:Value->Shared->Prop}{s:Shared}
def jc (l:Addr) (h:Heap):Heap:=(h.push { cls:=.type "list_iterator",data:=.fields #[.ref l,.int 0 0] }).push { cls:=.type "enumerate",data:=.fields #[.none,.bool false,.ref h.objs.size,rawInt 2,.none,.none] }
theorem FX {l:Addr}{its:Array Value}{o:Obj}{n:Nat}{t:Tok}(dt:o.data=.seq its n) (cl:o.cls=.type "list") :
 Meets (Builtin.«enumerate.__new__» ⟨[.type "enumerate",.ref l],[("start",.int 2 t)]⟩) λ_ R z=>z.heap.get? l=some o/\R (.ok (.ret (.ref (z.heap.objs.size+1)))) { z with heap:=jc l z.heap }:=.of_wp λ_ _ _ R z hz=>by
 obtain ⟨zh,zg,zd,zt,zo⟩:=z
 obtain ⟨oc,od,ot,os⟩:=o
 cases (show ot=.seq its n from dt)
 cases (show oc=.type "list" from cl)
 obtain ⟨gl,hR⟩:=hz
 have s0:=sub_enumerate
 have Ow:Heap.IsList (Shared.heap ⟨zh,zg,zd,zt,zo⟩) l its:=⟨_,gl,rfl,n,rfl⟩
 have sz:(zh.push { cls:=.type "list_iterator",data:=.fields #[.ref l,.int 0 0] }).objs.size=zh.objs.size+1:=Heap.size_push ..
 unfold jc at hR
 wp_walk using AutoSeq1.wpAny_loadPart' gl
 refine wpAny_stack_any λ_=>wpAny_pure ?_
 split <;> try (rename_i c _ _ _ _ _; cases (c == Value.type "enumerate"))
 all_goals
  wp_walk using AutoSeq1.wpAny_loadPart' gl,wpAny_pyIter_list Ow
  exact ⟨_,rfl,by rw [← sz] at hR; exact hR⟩
theorem DE {l:Addr}{its:Array Value}{t:Tok}{Q:Value->Shared->Prop}(Ow:s.heap.IsList l its) (fin:Q (.ref (s.heap.objs.size+1)) { s with heap:=jc l s.heap }) :
 wpAny (model prog w) A (call (.type "enumerate") [.ref l] [("start",.int 2 t)]) Q E s:=by
 obtain ⟨ob,gl,cl,k,dl⟩:=Ow
 have ct:checkTypeCall "enumerate" ⟨[.ref l],[("start",.int 2 t)]⟩=pure ():=by kernel_rfl
 have cn:checkBuiltinCall "enumerate.__new__" ⟨[.type "enumerate",.ref l],[("start",.int 2 t)]⟩=pure ():=by kernel_rfl
 have ci:∀x,argsOk "object.__init__" ⟨[x,.ref l],[("start",.int 2 t)]⟩:=λx=>by unfold argsOk; rw [signature?_of (id:="object.__init__") (n:="__tini__".toList) (o:="tcejbo".toList) (by kernel_rfl) F.owner_object]; kernel_rfl
 have T:=F.called_enumerate
 obtain ⟨_,_,m0⟩:=T.mro
 have m1:=T.made; have m2:=T.sub; have m3:=T.notType; have m4:=T.canCreate; have m5:=T.init.lookup
 have ty:∀z:Shared,z.heap=jc l s.heap->z.TypeIs (.ref (s.heap.objs.size+1)) "enumerate":=λz e=>by
  refine ⟨{ cls:=.type "enumerate",data:=.fields #[.none,.bool false,.ref s.heap.objs.size,rawInt 2,.none,.none] },?_,rfl⟩
  rw [e]
  have:=Heap.get?_push_size (s.heap.push { cls:=.type "list_iterator",data:=.fields #[.ref l,.int 0 0] }) (o:={ cls:=.type "enumerate",data:=.fields #[.none,.bool false,.ref s.heap.objs.size,rawInt 2,.none,.none] }) rfl
  rwa [Heap.size_push] at this
 apply wpAny_call; apply codeAny_of_tree
 show wpAny _ _ (callAny (.type "enumerate") _) _ _ _
 apply wpAny_pure; refine ⟨Code.quiet_builtin _ (by decide +kernel),?_⟩; apply codeAny_builtin F.entry_type_call; rw [Around.under_plain rfl rfl]
 repeat any_goals (first | assumption | wp_step)
 refine codeAny_mono (codeAny_call_builtin T.plain F.entry_enumerate_new (wpAny_of_eq cn (FX dl cl prog w A.in1 (wants (λr z=>r=.ref (s.heap.objs.size+1)/\z = { s with heap:=jc l s.heap }) E) s ⟨gl,rfl,rfl⟩))) λr z hz=>?_
 match r,hz with
 | .error _,hz=>exact hz
 | .ok (.ret _),⟨e1,e2⟩=>
  subst e1 e2
  have b0:=T.init.bind (.ref (s.heap.objs.size+1))
  have tz:=ty { s with heap:=jc l s.heap } rfl
  have oi:Meets (Builtin.«object.__init__» ⟨[.ref (s.heap.objs.size+1),.ref l],[("start",.int 2 t)]⟩) λ_ R z=>z.TypeIs (.ref (s.heap.objs.size+1)) "enumerate" /\ R (.ok (.ret .none)) z:=Meets.of_wp λ_ _ _ _ _ hy=>by
   obtain ⟨y1,y2⟩:=hy
   have m6:(some "enumerate.__new__" != some "object.__new__")=true:=by decide
   repeat any_goals (first | assumption | wp_step)
   exact ⟨_,rfl,y2⟩
  repeat any_goals (first | assumption | wp_step)
  refine codeAny_mono (codeAny_call_builtin T.init.plain F.entry_object_init (T.init.check _ _ _ _ _ _ _ _ (ty _ rfl) (ci _) (oi prog w A.in1 (wants (λr z=>r=.none/\z = { s with heap:=jc l s.heap }) E) _ ⟨ty _ rfl,rfl,rfl⟩))) λr z hz=>?_
  match r,hz with
  | .error _,hz=>exact hz
  | .ok (.ret _),⟨e1,e2⟩=>
   subst e1 e2
   repeat any_goals (first | assumption | wp_step)
theorem AN (l:Addr) (h:Heap):IsEnum (jc l h) (h.objs.size+1) h.objs.size 2 .none/\(jc l h).IsListIter h.objs.size l 0/\∀b o,h.get? b=some o->(jc l h).get? b=some o:=by
 refine ⟨?_,⟨_,Heap.get?_push_of_some _ (Heap.get?_push_size _ rfl),rfl,rfl⟩,λb o x=>Heap.get?_push_of_some _ (Heap.get?_push_of_some _ x)⟩
 have:=Heap.get?_push_size (h.push { cls:=.type "list_iterator",data:=.fields #[.ref l,.int 0 0] }) (o:={ cls:=.type "enumerate",data:=.fields #[.none,.bool false,.ref h.objs.size,rawInt 2,.none,.none] }) rfl
 rwa [Heap.size_push] at this
theorem Ox {it l:Addr}{its:Array Value}(hh:A.handled=none) (ne:l≠it):Draws prog w A it [it,l] (its.size+2) (λj x=>its[j-2]?=some x) λj h=>2<=j/\h.IsListIter it l (j-2)/\h.IsList l its where
 live:=λ_ _ ⟨_,⟨o,e,_⟩,_⟩=>⟨o,e⟩
 frame:=λ_ _ _ ⟨a,b,c⟩ k=>⟨a,b.at λo e=>k it (by simp) o e,let ⟨o,e,r⟩:=c; ⟨o,k l (by simp) o e,r⟩⟩
 item:=λj z _ _ hj ⟨a,b,c⟩ q=>by
  have hx:its[j-2]?=some its[j-2]:=Array.getElem?_eq_getElem (by omega)
  refine wpAny_nextOf_list_item b c hx λh' i' sb=>q _ h' z.toks hx ⟨by omega,?_,?_⟩ sb
  . rw [show j+1-2=j-2+1 by omega]
    exact i'
  . obtain ⟨o,e,r⟩:=c
    exact ⟨o,sb.extBut l o ne e,r⟩
 done:=λ_ _ _ ⟨_,b,c⟩ q=>wpAny_nextOf_list_end hh b c (Array.getElem?_eq_none (by omega)) λh' x eb st=>q h' x eb st
end
theorem xx {M:Model}{A:Around}{E:Value->Shared->Prop}{s:Shared}{pos:Pos}{T:String}{args:List (Bool×Sem Value)}{Ic:List (Option Str×Sem Value)}{Q:Value->Shared->Prop}
 (h1:args.any (·.1)=false) (h2:Ic.any (·.1.isNone)=false) (h:wpAny M A (evalArgs (.type T) true args Ic) (λa z=>wpAny M A (call (.type T) a.pos a.kw) Q E z) E s):wpAny M A (callWith pos (.type T) [] args Ic) Q E s:=by
 rw [callWith]
 apply wpAny_bind; apply wpAny_holding; refine wpAny_mono h (λa z hz=>?_) λ_ _ x=>x
 apply wpAny_bind; apply wpAny_standAt; rw [h1,h2]; apply wpAny_bind; apply wpAny_pure; apply wpAny_bind
 exact wpAny_mono hz (λ_ _ q=>wpAny_bind (wpAny_holding (wpAny_point (wpAny_pure q)))) λ_ _ x=>x
end PySem
namespace L2
open PySem PySem.Spec PyProof.Rows
def Oy (K:W.Frag) (a:Addr):It:=
 ⟨λi H=>∃xs x,aq K H a xs/\xs[i]?=some x,λi H v H'=>∃T x,v=.ref T/\H T=none/\H'=upd H T (.tup [.int ((i:Int)+2),x])/\∀xs,aq K H a xs->xs[i]?=some x,λi H=>∃xs,aq K H a xs/\xs.length<=i⟩
theorem DF {P:Program}{w:World}{K:W.Frag}{es:List Expr}{kk:Nat}{tp:Pos}(a e it:Addr) (Bf:e≠it) (hai:a≠it) (hea:e≠a):Turn P w K (.Tuple es kk tp) (Oy K a) [e,it] e (λi h=>(∃old,IsEnum h e it ((i+2:Nat):Int) old)/\h.IsListIter it a i) where
 mem:=by simp
 obj:=λi h st b hb=>by
  obtain ⟨⟨old,he⟩,o,e1,c,d⟩:=st
  rcases List.mem_cons.mp hb with z | z
  . subst z
    exact ⟨_,he,λv z=>by
     have z':Data.fields _=Data.cell v:=z
     cases z'⟩
  . have z':b=it:=by simpa using z
    subst z'
    exact ⟨o,e1,λv z=>by rw [d] at z; cases z⟩
 keep:=λi h h' st k=>⟨let ⟨old,he⟩:=st.1; ⟨old,k e (by simp) _ he⟩,st.2.at λo e1=>k it (by simp) o e1⟩
 item:=by
  intro X hP hw hK hc i pins s σ H E I hf st hg
  subst hP hw hK
  obtain ⟨xs,x,hq,hx⟩:=hg
  obtain ⟨its,rv,p,hz⟩:=I.list hq
  obtain ⟨u,hu,ru⟩:=rv.get hx
  obtain ⟨⟨old,he⟩,hit⟩:=st
  have pP:i<its.length:=(List.getElem?_eq_some_iff.mp hu).1
  refine wpAny_pyNext_enum_itemD (Ox (its:=its.toArray) (I.ok.hd hc) hai) he ⟨by omega,by rw [Nat.add_sub_cancel]; exact hit,p.isList⟩ (by simp; omega) Bf (by simp; exact ⟨Bf,hea⟩) λx' h' tk hPx ho gf hT hsz hk=>?_
  have ex:x'=u:=by
   rw [Nat.add_sub_cancel] at hPx
   have:its[i]?=some x':=by simpa using hPx
   rw [hu] at this
   exact (Option.some.inj this).symm
  subst ex
  refine ⟨.ref s.heap.objs.size,rfl,?_⟩
  refine wpAny_letOwnedTupleGo_enum ho λh2 Em ig=>?_
  have wg:s.heap.objs.size≠e:=Nat.ne_of_gt (Heap.lt_size he)
  have e2:((i+2:Nat):Int)=(i:Int)+2:=by omega
  have mx:h2.get? s.heap.objs.size=some { cls:=.type "tuple",data:=.seq #[.int ((i:Int)+2) tk,x'] }:=by rw [← e2]; exact (ig.2 _ wg).trans hT
  have I1:Inv X pins σ (upd H s.heap.objs.size (.tup [.int ((i:Int)+2),x])) { s with heap:=h2,toks:=tk+1 }:=I.qt (its:=[.int ((i:Int)+2) tk,x']) hf (λb o hb e1=>by
   have b1:b≠e:=λz=>hb (by simp [z])
   have b2:b≠it:=λz=>hb (by simp [z])
   exact (ig.2 b b1).trans (hk b o b1 b2 e1)) (Nat.le_refl _) ⟨_,mx,rfl,_,rfl⟩ (.cons ⟨_,rfl⟩ (.cons ru .nil)) (by show 2<=sizeLine; decide)
  have fr:H s.heap.objs.size=none:=I.hok.fresh (Nat.le_refl _)
  refine ⟨.ref s.heap.objs.size,_,I1,rfl,⟨s.heap.objs.size,x,rfl,fr,rfl,λys hy=>by rw [I.nF hy hq]; exact hx⟩,⟨⟨x',?_⟩,?_⟩,λb hb=>?_⟩
  . have e3:((i+1+2:Nat):Int)=((i+2:Nat):Int)+1:=by omega
    rw [e3]
    exact Em
  . have h1:=gf.2.1
    rw [show i+2+1-2=i+1 by omega] at h1
    exact h1.at λo e1=>(ig.2 it Bf.symm).trans e1
  . have jD:=(hf b hb).1
    have nb:b≠s.heap.objs.size:=by
     rcases List.mem_cons.mp hb with z | z
     . rw [z]; exact Ne.symm wg
     . have z':b=it:=by simpa using z
       rw [z']
       obtain ⟨o,e1,_⟩:=hit
       exact Nat.ne_of_lt (Heap.lt_size e1)
    rw [ai nb]
    exact jD
 done:=by
  intro X hP hw hK hc i pins s σ H E I hf st hg
  subst hP hw hK
  obtain ⟨xs,hq,hx⟩:=hg
  obtain ⟨its,rv,p,hz⟩:=I.list hq
  obtain ⟨⟨old,he⟩,hit⟩:=st
  have hl:=rv.length
  have nth:its.toArray[i]?=none:=by simp; omega
  obtain ⟨o,ho⟩:=(show ∃o,s.heap.get? e=some o from ⟨_,he⟩)
  have hT:s.TypeIs (.ref e) "enumerate":=⟨_,he,rfl⟩
  unfold pyNext
  apply wpAny_bind; apply wpAny_attempt; refine wpAny_callSpecial?_slot (name:=Str.ofString "__next__") hT F.slot_enumerate_next (wpAny_call_entry F.slot_enumerate_next hT F.entry_enumerate_next ?_ (F.args_enumerate_next_1 _))
  show wpAny _ _ (field (.ref e) 2 >>= _) _ _ s
  apply wpAny_bind; refine wpAny_field he rfl (x:=.ref it) rfl ?_
  apply wpAny_bind; refine wpAny_nextOf_list_end (I.ok.hd hc) hit p.isList nth λh' y eb hy=>?_
  obtain ⟨oy,g1,g2⟩:=hy
  apply wpAny_bind; refine wpAny_isInstance (T:="StopIteration") (b:=true) ⟨oy,g1,g2⟩ isSubtype_stop (wpAny_pure ?_)
  exact ⟨rfl,I.qr (t':=s.toks) hf λb o hb e1=>eb b o (λz=>hb (by simp [z])) e1⟩
 self:=λ_ _ _ _ _ st h=>let ⟨old,he⟩:=st.1; wpAny_pyIter_enum he h
section
variable {X:Cx}
def Oz (K:W.Frag) (ta:TA):TI:=λσ H R=>ta σ H λvs H1=>∃a,vs=[.ref a]/\(∃xs,aq K H1 a xs)/\R (Oy K a) H1
theorem HJ {es:List Expr}{kk:Nat}{tp:Pos}{a:Expr}{ta:TA}{p pos kp cp:Pos}{cj:Nat}(hg:Gl X "enumerate") (hm:X.mg "enumerate" = none) (ha:PA X [a] ta) (hs:starEach [a] X.env=[(false,eval a X.env)]:=by rfl) :
 PI X (.Tuple es kk tp) (.Call (.Name "enumerate" p) [a] [⟨some "start",.Constant (.int 2) cj cp,kp⟩] pos) (Oz X.K ta):=by
 intro pins s σ H R I h
 have ec:eval (.Call (.Name "enumerate" p) [a] [⟨some "start",.Constant (.int 2) cj cp,kp⟩] pos) X.env=(do callWith pos (← eval (.Name "enumerate" p) X.env) [] (backTo pos (starEach [a] X.env)) (backToKw pos (keywordEach [⟨some "start",.Constant (.int 2) cj cp,kp⟩] X.env))):=by rfl
 rw [ec]
 refine wpAny_bind (jA I hg hm boot_enumerate (xx (by rw [hs]; rfl) rfl ?_))
 have he:backTo pos (starEach [a] X.env)=(false,eval a X.env)::[]:=by rw [hs]; rfl
 rw [he]
 refine evalArgs_kwB rfl ?_
 rw [← he]
 refine aJ (ha pos pins s σ H _ I h) λus s1 ⟨vs,H1,I1,r1,q1⟩=>?_
 refine kws_cons (wpAny_Constant_int (kws_nil ?_))
 obtain ⟨l,e,⟨xs,hq⟩,q⟩:=q1
 subst e
 cases r1 with
 | cons r rr=>
  cases rr
  cases r
  have Ut:Inv X pins σ H1 { s1 with toks:=s1.toks+1 }:=I1.tok _
  obtain ⟨its,rv,pl,hz⟩:=Ut.list hq
  have jZ:l<s1.heap.objs.size:=by
   obtain ⟨o,e1,_⟩:=pl.isList
   exact Heap.lt_size e1
  obtain ⟨f1,f2,f3⟩:=AN l s1.heap
  refine DE (s:={ s1 with toks:=s1.toks+1 }) pl.isList ?_
  refine wpAny_pyIter_enum f1 ?_
  have I2:Inv X pins σ H1 { s1 with heap:=jc l s1.heap,toks:=s1.toks+1 }:=Ut.kept (t':=s1.toks+1) f3
  refine ⟨s1.heap.objs.size+1,[s1.heap.objs.size+1,s1.heap.objs.size],_,_,H1,rfl,I2,DF l _ _ (Nat.ne_of_gt (Nat.lt_succ_self _)) (Nat.ne_of_lt jZ) (Nat.ne_of_gt (Nat.lt_succ_of_lt jZ)),⟨⟨_,f1⟩,f2⟩,λb hb=>?_,q⟩
  have jD:s1.heap.objs.size<=b:=by
   rcases List.mem_cons.mp hb with z | z
   . rw [z]; exact Nat.le_succ _
   . have z':b=s1.heap.objs.size:=by simpa using z
     rw [z']; exact Nat.le_refl _
  exact I1.nG jD (I1.hok.fresh jD)
end
end L2
namespace Gen
open PySem L2
abbrev kr:Stmt:=top 2
abbrev nz:Stmt:=inClass (top 8) 0
inductive xq (K:W.Frag) (vs:List V) (H:Hp) (Q:VK):Prop
 | mk (x C dx g:Addr) (fs:List (Str×V)) (kvs:List (Key×V)) (k:Str) (h1:vs=[.ref x,.str k]) (h2:H x=some (.ins C dx fs)) (h3:lD K C) (h4:dc K C "nexts") (h5:fs.lookup ("nexts" : Str)=some (.ref g)) (h6:H g=some (.dK kvs)) (h7:Q ((cq kvs (.inr k)).getD (.str k)) H):xq K vs H Q
def Al (K:W.Frag):Sp:=λvs H Q _=>xq K vs H Q
inductive Am (C C2:Addr) (vs:List V) (H:Hp) (Q:VK):Prop
 | mk (p dy x dx g1 g2 g3 g4 g5 g6:Addr) (ts:List Addr) (c:Nat) (M:aN) (h1:vs=[.ref p,.ref x,.int (c:Int)]) (h2:H p=some (.ins C2 dy [])) (h3:MF C H x dx g1 g2 g3 g4 g5 g6 ts M) (h4:H g4=some (.dK (cv M.nexts))) (h5:g2≠g4) (h6:x≠p) (h7:Sm M) (h8:∀(sw kp gt mv of:Addr) (us:List Addr) (H':Hp),SO C2 H' p dy sw kp gt mv of ts us c M->aV H H' p->Q .aS H'):Am C C2 vs H Q
def vN (C C2:Addr):Sp:=λvs H Q _=>Am C C2 vs H Q
def An:Nat->List Str->List (Str×V)
 | _,[]=>[]
 | i,n::r=>(n,.int ((i:Int)+1))::An (i+1) r
theorem Cw:∀(names:List Str) (i:Nat),b7 (An i names)=cy i names
 | [],_=>rfl
 | n::r,i=>by
  have:=Cw r (i+1)
  unfold b7 at this ⊢
  rw [An,List.map_cons,this,cy]
theorem xr:∀(names:List Str) (i:Nat),(An i names).map (·.1)=names
 | [],_=>rfl
 | n::r,i=>by rw [An,List.map_cons,xr r]
theorem FY {names:List Str}(h:names.Nodup) (i:Nat):de [] (cy i names)=cy i names:=by
 rw [← Cw]
 exact lR _ [] (by rw [List.nil_append,xr]; exact h)
abbrev Ao:List Str:=["self", "machine", "many"]
theorem WX:(["keeper", "machine"]:List Str).Nodup:=by decide +kernel
theorem Jl:(["offset", "name"]:List Str).Nodup:=by decide +kernel
section
variable {P:Program}{w:World}{K:W.Frag}{mg:Str->Option Value}{base:Heap}{C C2:Addr}
theorem HK:aQ ["machine", "keeper"] ["machine", "keeper"] (au kr):=⟨rfl,rfl,rfl,by decide +kernel,rfl,by decide +kernel,by decide +kernel⟩
theorem DG {f:Addr}{fd:FuncData}(F:cC K "next_of" "next_of" kr f fd):aw P w K mg base aD 1 f fd ["machine", "keeper"] (Al K):=by
 refine F.ok HK (λvs H Q E h=>?_) (λcdv A outer s H vs Q E hr h=>?_)
 . obtain ⟨x,C,dx,g,fs,kvs,k,rfl,_⟩:=h
   rfl
 . obtain ⟨x,C,dx,g,fs,kvs,k,rfl,hx,hC,hn,hl,hg,kk⟩:=h
   have hu:=eZ hr
   refine ⟨_,ar (aT (sD hu (cF (pv 0) rfl) (pv 1) (pv 1) ⟨rfl,rfl,rfl,rfl⟩)),?_⟩
   exact ⟨_,rfl,x,C,dx,fs,_,rfl,hx,hC,hn,hl,g,rfl,.inl ⟨kvs,.inl hg⟩,_,rfl,_,rfl,_,cw.k (k:=.inr k) hg,kk⟩
theorem WY:aQ Ao Ao (au nz):=⟨rfl,rfl,rfl,by decide +kernel,rfl,by decide +kernel,by decide +kernel⟩
theorem HL {f fX fM:Addr}{fd dX dM:FuncData}(F:cC K "__init__" "Steps.__init__" nz f fd) (T:vm K mg C) (T2:iF K mg C2) (O2:eY mg) (O:Own mg)
 (gX:aw P w K mg base aD 1 fX dX ["machine", "keeper"] (Al K)) (mX:mg "next_of" = some (.ref fX)) (kX:W.keepIn K (.ref fX)=true) (bX:Binds K dX ["machine", "keeper"] [])
 (gM:aw P w K mg base aD 1 fM dM ["machine"] (BS C)) (mM:mg "names_of" = some (.ref fM)) (kM:W.keepIn K (.ref fM)=true) (bM:Binds K dM ["machine"] []):aw P w K mg base aD 2 f fd Ao (vN C C2):=by
 refine F.ok WY (λvs H Q E h=>?_) (λcdv A outer s H vs Q E hr h=>?_)
 . obtain ⟨p,dy,x,dx,g1,g2,g3,g4,g5,g6,ts,c,M,rfl,_⟩:=h
   rfl
 . obtain ⟨p,dy,x,dx,g1,g2,g3,g4,g5,g6,ts,c,M,rfl,hp,hM,nj,Jm,FZ,hm,kk⟩:=h
   refine ⟨_,ak (gg (pv 0) (pv 2) rfl)
    (ak (gg (pv 0) (aL d5 (by rfl) O2.list PyProof.Rows.boot_list (ae (cF (pv 1) rfl) ah)) rfl)
    (ak (gg (pv 0) (aL eO (by rfl) O2.dict PyProof.Rows.boot_dict (ae (cF (pv 1) rfl) ah)) rfl)
    (ak (gg (pv 0) (aL d5 (by rfl) O2.list PyProof.Rows.boot_list (ae (cF (pv 1) rfl) ah)) rfl)
    (ak (gg (pv 0) (vf (cX (N:=["keeper", "machine"]) (js:=[none,some 1]) (by kernel_rfl) rfl (vg (cF (pv 1) rfl)) (λ_ _ _ _ _ _=>ax (i:=0) WX rfl (Or.inl rfl) (.inr rfl)) (λ_ _ _ _ _ _=>bj)
     (λ_ _ _ _ _ _=>eh (ae (pv 0) (ae (aA gX hr (by rfl) mX kX bX .nil az (ae (pv 1) (ae (pv 0) ah))) ah))))) rfl)
    (ar (gg (pv 0) (aL (cP rfl) (by rfl) O2.dict PyProof.Rows.boot_dict (ae (cX (N:=["offset", "name"]) (js:=[none,none]) (g:=sq K 2 (g8 (dr 0) (g8 (dr 1) so))) (by kernel_rfl) rfl (HJ rfl O.enum (ae (aA gM hr rfl mM kM bM .nil az (ae (pv 1) ah)) ah))
     (λ_ _ _ _ _ _=>eg rfl (aK (ax (i:=0) Jl rfl (Or.inl rfl) (.inr rfl)) (aK (ax (i:=1) Jl rfl (Or.inl rfl) (.inr rfl)) cU))) (λ_ _ _ _ _ _=>bj)
     (λ_ _ _ _ _ _=>eh (ae (pv 1) (ae (pv 0) ah)))) ah)) rfl)))))),?_⟩
   have hlen:=hm.len
   have zu:=hm.n1
   have fi:=hm.n2
   have Bt:=hm.n3
   have np:∀{b:Addr}{u:HO},H b=some u->(∀C dx fs,u≠.ins C dx fs)->b≠p:=λhb hu z=>by
    rw [z,hp] at hb
    exact hu _ _ _ (Option.some.inj hb).symm
   refine ⟨_,rfl,_,rfl,p,C2,dy,_,rfl,hp,T2.cl,T2.n1,(by show 0<1000; decide),?_⟩
   have p0:(upd H p (.ins C2 dy (aB "count" (.int (c:Int)) []))) p=some (.ins C2 dy (aB "count" (.int (c:Int)) [])):=ag
   have k0:aV H (upd H p (.ins C2 dy (aB "count" (.int (c:Int)) []))) p:=λb o hb nb=>by rw [ai nb]; exact hb
   generalize upd H p (.ins C2 dy (aB "count" (.int (c:Int)) []))=H0 at p0 k0 ⊢
   have m1:g1≠p:=np hM.h1 (λ_ _ _ z=>by cases z)
   have m2:g2≠p:=np hM.h2 (λ_ _ _ z=>by cases z)
   have m3:g3≠p:=np hM.h3 (λ_ _ _ z=>by cases z)
   have m4:g4≠p:=np nj (λ_ _ _ z=>by cases z)
   refine ⟨_,rfl,x,C,dx,_,_,rfl,k0 _ _ hM.hx FZ,T.cl,T.n1,E9 ..,g1,_,rfl,.inl (aq.of (k0 _ _ hM.h1 m1)),λsw e1=>?_⟩
   obtain ⟨p1,q1,r1,k1⟩:=eJ (o:=.lst (M.switches.map V.str)) (fs':=aB "switches" (.ref sw) (aB "count" (.int (c:Int)) [])) p0 e1
   have b1:sw≠p:=(af p0 e1).symm
   refine ⟨_,rfl,p,C2,dy,_,rfl,r1,T2.cl,T2.n2,lF (aZ (Nat.le_refl _)) (by show 1<1000; decide),?_⟩
   generalize upd (upd H0 sw (.lst (M.switches.map V.str))) p (.ins C2 dy (aB "switches" (.ref sw) (aB "count" (.int (c:Int)) [])))=H1 at p1 q1 k1 ⊢
   have OA:aV H H1 p:=λb o hb nb=>k1 _ _ (k0 _ _ hb nb) nb
   refine ⟨_,rfl,x,C,dx,_,_,rfl,OA _ _ hM.hx FZ,T.cl,T.n2,zi ..,g2,_,rfl,.inl (OA _ _ hM.h2 m2),λkp e2=>?_⟩
   obtain ⟨p2,q2,r2,k2⟩:=eJ (o:=.dK (b7 M.keepers)) (fs':=aB "keepers" (.ref kp) (aB "switches" (.ref sw) (aB "count" (.int (c:Int)) []))) p1 e2
   have b2:kp≠p:=(af p1 e2).symm
   refine ⟨_,rfl,p,C2,dy,_,rfl,r2,T2.cl,T2.n3,lF (aZ (aZ (Nat.le_refl _))) (by show 2<1000; decide),?_⟩
   show x3 _ _ _ _ (upd (upd H1 kp (.dK (b7 M.keepers))) p (.ins C2 dy (aB "keepers" (.ref kp) (aB "switches" (.ref sw) (aB "count" (.int (c:Int)) [])))))
   generalize upd (upd H1 kp (.dK (b7 M.keepers))) p (.ins C2 dy (aB "keepers" (.ref kp) (aB "switches" (.ref sw) (aB "count" (.int (c:Int)) []))))=H2 at p2 q2 k2 ⊢
   have OB:aV H H2 p:=λb o hb nb=>k2 _ _ (OA _ _ hb nb) nb
   refine ⟨_,rfl,x,C,dx,_,_,rfl,OB _ _ hM.hx FZ,T.cl,T.n3,zj ..,g3,_,rfl,.inl (aq.of (OB _ _ hM.h3 m3)),λgt e3=>?_⟩
   obtain ⟨p3,q3,r3,k3⟩:=eJ (o:=.lst (ts.map V.ref)) (fs':=aB "gates" (.ref gt) (aB "keepers" (.ref kp) (aB "switches" (.ref sw) (aB "count" (.int (c:Int)) [])))) p2 e3
   have b3:gt≠p:=(af p2 e3).symm
   refine ⟨_,rfl,p,C2,dy,_,rfl,r3,T2.cl,T2.n4,lF (aZ (aZ (aZ (Nat.le_refl _)))) (by show 3<1000; decide),?_⟩
   generalize upd (upd H2 gt (.lst (ts.map V.ref))) p (.ins C2 dy (aB "gates" (.ref gt) (aB "keepers" (.ref kp) (aB "switches" (.ref sw) (aB "count" (.int (c:Int)) [])))))=H3 at p3 q3 k3 ⊢
   have Jn:aV H H3 p:=λb o hb nb=>k3 _ _ (OB _ _ hb nb) nb
   have Uu:=Jn _ _ hM.hx FZ
   have h43:=Jn _ _ nj m4
   have Uv:=Jn _ _ hM.h2 m2
   refine ⟨_,rfl,x,C,dx,_,_,rfl,Uu,T.cl,T.n2,zi ..,g2,b7 M.keepers,rfl,Uv,λo D hD=>?_⟩
   have Fz:D≠g2:=λe=>by rw [e,ag] at hD; cases hD
   have Be:H3 D=none:=by rw [ai Fz] at hD; exact hD
   have nxg:x≠g2:=bu hM.hx hM.h2 (by intro z; cases z)
   have fz:(upd H3 g2 (.cz o (.dK (b7 M.keepers)))) g2=some (.cz o (.dK (b7 M.keepers))):=ag
   have ot:∀b u,H3 b=some u->b≠g2->(upd H3 g2 (.cz o (.dK (b7 M.keepers)))) b=some u:=λb u hb nb=>by rw [ai nb]; exact hb
   generalize upd H3 g2 (.cz o (.dK (b7 M.keepers)))=H4 at hD fz ot ⊢
   have lk:(b7 M.keepers).length=M.keepers.length:=List.length_map _
   refine cY M.keepers.length (λi acc σ H5=>(∃us:List Addr,acc=us.map V.ref/\Paired (λt (r:Str×V)=>H5 t=some (.tup [.str r.1,.str (cg M.nexts r.1)])) us (M.keepers.take i))/\(∃u,σ=[u,some (.ref x)])/\aj H4 H5) ⟨⟨[],rfl,.nil⟩,⟨none,rfl⟩,aj.ao hD⟩ ag ?_ ?_
   . rintro acc σ H5 aW ⟨⟨us,rfl,cG⟩,_,s5⟩
     rw [List.take_length] at cG
     refine ⟨⟨s5 _ _ fz,lk.symm⟩,g2,o,_,s5 _ _ fz,(λo' u e=>by have e':H g2=_:=e; rw [hM.h2] at e'; cases e'),?_⟩
     have s6:aj H3 (upd H5 g2 (.dK (b7 M.keepers))):=λb u hb=>by
      by_cases e:b=g2
      . rw [e] at hb ⊢
        rw [ag,← hb,Uv]
        rfl
      . rw [ai e]
        exact s5 _ _ (ot b u hb e)
     have Uw:(upd H5 g2 (.dK (b7 M.keepers))) D=some (.lst (us.map V.ref)):=by rw [ai Fz]; exact aW
     have yO:Paired (λt (r:Str×V)=>(upd H5 g2 (.dK (b7 M.keepers))) t=some (.tup [.str r.1,.str (cg M.nexts r.1)])) us M.keepers:=Paired.bh cG λt r e=>by rw [ai (bu e (s5 _ _ fz) (by intro z; cases z))]; exact e
     generalize upd H5 g2 (.dK (b7 M.keepers))=H6 at s6 Uw yO ⊢
     refine ⟨_,rfl,p,C2,dy,_,rfl,s6 _ _ p3,T2.cl,T2.n5,lF (aZ (aZ (aZ (aZ (Nat.le_refl _))))) (by show 4<1000; decide),?_⟩
     have p7:(upd H6 p (.ins C2 dy (aB "moves" (.ref D) (aB "gates" (.ref gt) (aB "keepers" (.ref kp) (aB "switches" (.ref sw) (aB "count" (.int (c:Int)) []))))))) p=some (.ins C2 dy (aB "moves" (.ref D) (aB "gates" (.ref gt) (aB "keepers" (.ref kp) (aB "switches" (.ref sw) (aB "count" (.int (c:Int)) [])))))):=ag
     have k7:∀b u,H6 b=some u->b≠p->(upd H6 p (.ins C2 dy (aB "moves" (.ref D) (aB "gates" (.ref gt) (aB "keepers" (.ref kp) (aB "switches" (.ref sw) (aB "count" (.int (c:Int)) []))))))) b=some u:=λb u hb nb=>by rw [ai nb]; exact hb
     have bD:D≠p:=λe=>by rw [e,p3] at Be; cases Be
     have OC:Paired (λt (r:Str×V)=>(upd H6 p (.ins C2 dy (aB "moves" (.ref D) (aB "gates" (.ref gt) (aB "keepers" (.ref kp) (aB "switches" (.ref sw) (aB "count" (.int (c:Int)) []))))))) t=some (.tup [.str r.1,.str (cg M.nexts r.1)])) us M.keepers:=Paired.bh yO λt r e=>k7 _ _ e (bu e (s6 _ _ p3) (by intro z; cases z))
     have nkD:kp≠D:=λe=>by
      have:=k3 _ _ q2 b2
      rw [e,Be] at this
      cases this
     generalize upd H6 p (.ins C2 dy (aB "moves" (.ref D) (aB "gates" (.ref gt) (aB "keepers" (.ref kp) (aB "switches" (.ref sw) (aB "count" (.int (c:Int)) []))))))=H7 at p7 k7 OC ⊢
     have F1:∀b u,H3 b=some u->b≠p->H7 b=some u:=λb u hb nb=>k7 _ _ (s6 _ _ hb) nb
     have Cy:aV H H7 p:=λb u hb nb=>F1 _ _ (Jn _ _ hb nb) nb
     have Ux:MF C H7 x dx g1 g2 g3 g4 g5 g6 ts M:=⟨Cy _ _ hM.hx FZ,Cy _ _ hM.h1 m1,Cy _ _ hM.h2 m2,Cy _ _ hM.h3 m3,Paired.bh hM.hp λt r e=>Cy _ _ e (np e (λ_ _ _ z=>by cases z))⟩
     refine ⟨_,rfl,x,dx,g1,g2,g3,g4,g5,g6,ts,M,rfl,Ux,by omega,by omega,by omega,λnl H8 kT s8 DH=>?_⟩
     refine ⟨nl,rfl,⟨_,aq.of DH⟩,λR hR=>?_⟩
     refine cY (aa M).length (λi acc σ H9=>(∃vs:List Addr,acc=vs.map V.ref/\Paired (λt (kv:Key×V)=>H9 t=some (.tup [kV kv.1,kv.2])) vs (cy 1 ((aa M).take i)))/\(∃u v,σ=[u,v])/\aj H8 H9) ⟨⟨[],rfl,.nil⟩,⟨none,none,rfl⟩,aj.ao hR⟩ ag ?_ ?_
     . rintro acc σ H9 FF ⟨⟨vs,rfl,F4⟩,_,s9⟩
       rw [List.take_length] at F4
       refine ⟨⟨_,aq.of (s9 _ _ DH),by rw [List.length_map]; exact Nat.le_refl _⟩,R,vs,_,rfl,FF,F4,λof Uy=>?_⟩
       rw [FY hm.nd]
       have OD:=s8.trans s9
       obtain ⟨pA,qA,rA,kA⟩:=eJ (o:=.dK (cy 1 (aa M))) (fs':=b8 (c:Int) sw kp gt D of) (OD _ _ p7) Uy
       refine ⟨_,rfl,p,C2,dy,_,rfl,rA,T2.cl,T2.n6,lF (aZ (aZ (aZ (aZ (aZ (Nat.le_refl _)))))) (by show 5<1000; decide),?_⟩
       have kz:∀b u,H7 b=some u->b≠p->(upd (upd H9 of (.dK (cy 1 (aa M)))) p (.ins C2 dy (b8 (c:Int) sw kp gt D of))) b=some u:=λb u hb nb=>kA _ _ (OD _ _ hb) nb
       have hk9:=OD _ _ (F1 _ _ (k3 _ _ q2 b2) b2)
       refine kk sw kp gt D of us _ ⟨pA,kz _ _ (F1 _ _ (k3 _ _ (k2 _ _ q1 b1) b1) b1) b1,kz _ _ (F1 _ _ (k3 _ _ q2 b2) b2) b2,kz _ _ (F1 _ _ q3 b3) b3,?_,kz _ _ (k7 _ _ Uw bD) bD,?_,qA,(af hk9 Uy).symm⟩ λb u hb nb=>kz _ _ (Cy _ _ hb nb) nb
       . exact Paired.bh Ux.hp λt r e=>kz _ _ e (bu e p7 (by intro z; cases z))
       . exact Paired.bh OC λt r e=>kz _ _ e (bu e p7 (by intro z; cases z))
     . rintro i acc σ H9 hi FF ⟨⟨vs,rfl,F4⟩,⟨u,v,rfl⟩,s9⟩
       have gy:(aa M)[i]?=some (aa M)[i]:=List.getElem?_eq_getElem hi
       have ei:((aa M).map V.str)[i]?=some (.str (aa M)[i]):=by rw [List.getElem?_map,gy]; rfl
       refine ⟨⟨_,_,aq.of (s9 _ _ DH),ei⟩,?_⟩
       rintro x' H' ⟨Tp,xv,rfl,ud,rfl,cT⟩
       have ex:=cT _ (aq.of (s9 _ _ DH))
       rw [ei] at ex
       cases ex
       have sT:aj H9 (upd H9 Tp (.tup [.int ((i:Int)+2),.str (aa M)[i]])):=aj.ao ud
       have qT:(upd H9 Tp (.tup [.int ((i:Int)+2),.str (aa M)[i]])) Tp=some (.tup [.int ((i:Int)+2),.str (aa M)[i]]):=ag
       refine ⟨Tp,_,rfl,aR.of qT,rfl,_,_,rfl,_,_,rfl,rfl,?_⟩
       show sG _ (upd H9 Tp (.tup [.int ((i:Int)+2),.str (aa M)[i]])) _
       generalize upd H9 Tp (.tup [.int ((i:Int)+2),.str (aa M)[i]])=HT at sT qT ⊢
       refine pT ?_
       refine ⟨_,rfl,_,rfl,(by show 2<=sizeLine; decide),λt2 uJ=>?_⟩
       have OE:=sT _ _ FF
       have nR:R≠t2:=af OE uJ
       have Ul:=F4.length
       rw [nh,List.length_take] at Ul
       refine ⟨_,(ai nR).trans OE,(by rw [List.length_map]; exact small (by omega)),bo hi ag ⟨⟨vs++[t2],by rw [List.map_append]; rfl,?_⟩,⟨_,_,rfl⟩,λb o' hb=>?_⟩⟩
       . rw [List.take_succ,gy,Option.toList_some,BV,List.length_take,Nat.min_eq_left (Nat.le_of_lt hi)]
         refine bE (Paired.bh F4 λt kv e=>?_) (.cons ?_ .nil)
         . have e':=sT _ _ e
           rw [ai (bu e' OE (by intro z; cases z)),ai (af e' uJ)]
           exact e'
         . rw [ai (Ne.symm nR),ag]
           show some (HO.tup [V.str (aa M)[i],V.int ((i:Int)+2)])=some (HO.tup [V.str (aa M)[i],V.int (((1+i:Nat):Int)+1)])
           rw [show (((1+i:Nat):Int)+1)=(i:Int)+2 by omega]
       . rw [ai (af hb hR),ai (af (sT _ _ (s9 _ _ hb)) uJ)]
         exact sT _ _ (s9 _ _ hb)
   . rintro i acc σ H5 hi aW ⟨⟨us,rfl,cG⟩,⟨u,rfl⟩,s5⟩
     have gy:M.keepers[i]?=some M.keepers[i]:=List.getElem?_eq_getElem hi
     have ei:(b7 M.keepers)[i]?=some ((.inr M.keepers[i].1:Key),M.keepers[i].2):=by unfold b7; rw [List.getElem?_map,gy]; rfl
     refine ⟨⟨s5 _ _ fz,by rw [lk]; exact hi⟩,?_⟩
     rintro x' H' ⟨rfl,kv,gq,rfl⟩
     rw [ei] at gq
     cases gq
     refine cA ?_
     have hx5:=s5 _ _ (ot _ _ Uu nxg)
     have h45:=s5 _ _ (ot _ _ h43 (Ne.symm Jm))
     refine ⟨_,rfl,_,rfl,_,rfl,x,C,dx,g4,_,cv M.nexts,M.keepers[i].1,rfl,hx5,T.cl,T.n4,Fb ..,h45,?_⟩
     rw [zv]
     refine ⟨(by show 2<=sizeLine; decide),λt ht=>?_⟩
     have Uz:D≠t:=af aW ht
     have gp:=cG.length
     rw [List.length_take] at gp
     refine ⟨_,(ai Uz).trans aW,(by rw [List.length_map]; exact small (by omega)),bo hi ag ⟨⟨us++[t],by rw [List.map_append]; rfl,?_⟩,⟨_,rfl⟩,λb o' hb=>?_⟩⟩
     . rw [List.take_succ,gy,Option.toList_some]
       refine bE (Paired.bh cG λa r e=>?_) (.cons ?_ .nil)
       . rw [ai (bu e aW (by intro z; cases z)),ai (af e ht)]
         exact e
       . rw [ai (Ne.symm Uz),ag]
         rfl
     . rw [ai (af hb hD),ai (af (s5 _ _ hb) ht)]
       exact s5 _ _ hb
end
end Gen
namespace L2
open PySem PySem.Spec PyProof.Rows
theorem Cz {ns:List Int}(hn:ns.Nodup):∀i,i<=ns.length->firstMet (λi=>ns.getD i 0) i=ns.take i
 | 0,_=>rfl
 | i+1,h=>by
  have hi:i<ns.length:=h
  rw [firstMet_succ,Cz hn i (by omega),List.take_succ,List.getElem?_eq_getElem hi]
  have e:ns.getD i 0=ns[i]:=by rw [List.getD_eq_getElem?_getD,List.getElem?_eq_getElem hi]; rfl
  have jg:(ns.take i).any (· == ns.getD i 0)=false:=by
   rw [List.any_eq_false]
   intro x hx q
   rw [e] at q
   have:x=ns[i]:=by simpa using q
   obtain ⟨j,hj,ej⟩:=List.mem_iff_getElem.mp hx
   rw [List.getElem_take] at ej
   rw [List.length_take] at hj
   have:=(List.getElem_inj hn).mp (ej.trans this)
   omega
  show step_dedup (ns.take i) (ns.getD i 0)=_
  unfold step_dedup
  rw [if_neg (by rw [jg]; exact Bool.false_ne_true),e]
  rfl
section
variable {X:Cx}
theorem xy (hc:X.calm=true):eB X (.type "set") (λxs H Q=>∃(p:Addr) (ns:List Int),xs=[.ref p]/\aq X.K H p (ns.map V.int)/\ns.Nodup/\ns.length<=1000/\∀q,H q=none->Q (.ref q) (upd H q (.set (λk=>ns.any (· == k)) ns.length))):=by
 intro pins s σ H xs us Q I r h
 obtain ⟨p,ns,rfl,hp,hn,hl,q⟩:=h
 obtain ⟨u,rfl,rx⟩:=vals1 r
 cases (show u=Value.ref p from rx)
 obtain ⟨its,rv,pl,hz⟩:=I.list hp
 have el:its.length=ns.length:=by have:=rv.length; rw [List.length_map] at this; exact this.symm
 have em:firstMet (λi=>ns.getD i 0) its.toArray.size=ns:=by
  rw [List.size_toArray,el,Cz hn _ (Nat.le_refl _),List.take_length]
 refine call_set_list (ns:=ns) (I.ok.hd hc) pl.isList (by simpa using intsAre_of rv) (by rw [List.size_toArray,el]; show ns.length+1<4096; omega) λh' tk hS hk=>?_
 rw [em] at hS
 exact ⟨.ref s.heap.objs.size,_,I.laid (t':=tk) (λb o e=>hk b o (Heap.lt_size e) e) (Nat.le_refl _) (show bH X.prog X.w _ h' _ (.set (λk=>ns.any (· == k)) ns.length) from hS),rfl,q _ (I.hok.fresh (Nat.le_refl _))⟩
theorem xA:eB X (.builtin "len") (λxs H Q=>∃p S n,xs=[.ref p]/\H p=some (.set S n)/\Q (.int (n:Nat)) H):=by
 intro pins s σ H xs us Q I r h
 obtain ⟨p,S,n,rfl,hp,q⟩:=h
 obtain ⟨u,rfl,rx⟩:=vals1 r
 cases (show u=Value.ref p from rx)
 obtain ⟨o,es,ep,t,g,ex,dt,_,_,hb,hf,hn⟩:=(show s.heap.SetOf (intKind X.prog X.w) p S n from I.hok p _ hp)
 refine call_len_set g ex dt hf (Int.lt_trans (by have:es.size<4096:=hb; omega:(es.size:Int)<4096) (by decide)) ⟨.int (n:Nat),H,I.tok _,⟨_,by rw [hn]⟩,q⟩
theorem Jo:∀{kvs:List (Key×V)}{vs:List (Key×Value)}{k:Key}{v:V},KV kvs vs->(kvs.map (·.1)).Nodup->(k,v)∈kvs->∃u,valueAt vs k=some u/\RelV v u
 | _,_,_,_,.nil,_,h=>nomatch h
 | kv::_,q::_,k,v,.cons ⟨e1,e2⟩ r,hn,h=>by
  rw [List.map_cons,List.nodup_cons] at hn
  unfold valueAt
  rcases List.mem_cons.mp h with e | e
  . have ek:q.1=k:=by rw [← e1,← e]
    rw [List.find?_cons_of_pos (by simpa using ek)]
    exact ⟨q.2,rfl,by rw [← e] at e2; exact e2⟩
  . have ek:¬ q.1=k:=λz=>hn.1 (List.mem_map.mpr ⟨(k,v),e,by rw [e1]; exact z.symm⟩)
    rw [List.find?_cons_of_neg (by simpa using ek)]
    exact Jo r hn.2 e
def WZ:R2:=λx y H Q=>∃p p' kvs,x=.ref p/\y=.ref p'/\Rd H p (.dK kvs)/\Rd H p' (.dK kvs)/\(kvs.map (·.1)).Nodup/\(∀kv∈kvs,iA kv.2=true/\ir kv.2 kv.2=true)/\Q (.bl false) H
theorem OF (hu:X.A.units+1<cLine):d6 X (compareOp .NotEq) WZ:=by
 intro pins s σ H x y v u Q I rx ry h
 obtain ⟨p,p',kvs,rfl,rfl,h1,h2,hn,hf,q⟩:=h
 cases (show v=Value.ref p from rx)
 cases (show u=Value.ref p' from ry)
 obtain ⟨_,z1,vs,r1,d1⟩:=iz I.hok h1
 obtain ⟨_,z2,ws,r2,d2⟩:=iz I.hok h2
 have l1:kvs.length=vs.length:=Paired.length r1
 have l2:kvs.length=ws.length:=Paired.length r2
 refine W.keq_ne (r:=true) z1 z2 d1 d2 (by omega) (λ_=>?_) ?_
 . have gen:∀{ks:List (Key×V)}{us:List (Key×Value)},KV ks us->(∀kv∈ks,kv∈kvs)->W.KeqHits X.A.in1 s ws us true:=by
    intro ks us h
    induction h with
    | nil=>intro _; exact .nil
    | @cons kv q ks us h0 _ ih=>
     intro hm
     have dw:=hm kv List.mem_cons_self
     obtain ⟨y,hy,ry⟩:=Jo r2 hn dw
     obtain ⟨f1,f2⟩:=hf kv dw
     have z:=pq (A:=X.A.in1) (s:=s) h0.2 ry f1 f1
     rw [f2] at z
     have:=W.KeqHits.hit (k:=q.1) (v:=q.2) (by rw [← h0.1]; exact hy) z (ih λk h=>hm k (List.mem_cons_of_mem _ h))
     simpa using this
   exact gen r1 λ_ h=>h
 . rw [← l1,← l2]
   exact ⟨.bl false,H,I,by simp [RelV],q⟩
end
end L2
namespace Gen
open PySem L2
abbrev oF:Stmt:=top 33
def xM (K:W.Frag):Sp:=λvs H Q _=>∃(a:Addr) (ns:List Int),vs=[.ref a]/\aq K H a (ns.map V.int)/\∀H',Q (.bl true) H'
theorem Lit.up {a b:List Str}{x:Str}(h:Lit a x) (s:∀z∈a,z∈b):Lit b x:=by
 rcases h with h | h | ⟨z,hz,h⟩
 . exact .inl h
 . exact .inr (.inl h)
 . exact .inr (.inr ⟨z,s z hz,h⟩)
theorem mH.sm {M:aN}{names:List Str}(h:mH M names) (h1:M.switches.length<=20) (h2:M.keepers.length<=20) (h3:M.gates.length<=60):Sm M:=by
 have e:names=aa M:=h.all
 refine ⟨e ▸ h.nd,e ▸ h.nm,h1,h2,h3,h.first,λr hr=>?_,λg hg=>?_⟩
 . unfold cg
   cases hf:M.nexts.find? λq=>decide (q.1=r.1) with
   | none=>exact .inr (.inr ⟨r.1,hW hr,.inl rfl⟩)
   | some q=>
    rw [← e]
    exact h.nxl q (List.mem_of_find?_eq_some hf)
 . obtain ⟨i,hi,rfl⟩:=List.mem_iff_getElem.mp hg
   obtain ⟨l1,l2⟩:=h.gl i _ (List.getElem?_eq_getElem hi)
   have sub:∀q∈M.switches++M.keepers.map (·.1)++(M.gates.take i).map (·.1),q∈aa M:=λq hq=>by
    rcases List.mem_append.mp hq with hq | hq
    . exact List.mem_append_left _ hq
    . obtain ⟨r,hr,rfl⟩:=List.mem_map.mp hq
      exact List.mem_append_right _ (List.mem_map.mpr ⟨r,List.mem_of_mem_take hr,rfl⟩)
   exact ⟨l1.up sub,l2.up sub⟩
theorem oV {α β:Type}{f:α->β}(hf:∀a b,f a=f b->a=b):∀{l:List α},l.Nodup->(l.map f).Nodup
 | [],_=>List.nodup_nil
 | x::l,h=>by
  rw [List.nodup_cons] at h
  rw [List.map_cons,List.nodup_cons]
  refine ⟨λhm=>?_,oV hf h.2⟩
  obtain ⟨y,hy,e⟩:=List.mem_map.mp hm
  exact h.1 (hf _ _ e ▸ hy)
def Jp (b:List Int):PyData:=.list (b.map PyData.int)
def uT (l:List (List Int)):PyData:=.list (l.map Jp)
theorem Ap (l:List (List Int)):(uT l).canLay0=true:=by
 unfold uT
 rw [PyData.canLay0]
 refine vG λd hd=>?_
 obtain ⟨b,_,rfl⟩:=List.mem_map.mp hd
 unfold Jp
 rw [PyData.canLay0]
 exact lay_ints b
theorem OG (l:List (List Int)):(uT l).depth<=2:=by
 unfold uT
 rw [PyData.depth]
 have:PyData.depthAll (l.map Jp)<=1:=vH λd hd=>by
  obtain ⟨b,_,rfl⟩:=List.mem_map.mp hd
  unfold Jp
  rw [PyData.depth,tm]
  exact Nat.le_refl _
 omega
theorem Jq {K:W.Frag}{H:Hp}{p:Addr}{ts:List Addr}{cs:List (List Int)}(h:H p=some (.lst (ts.map V.ref))) (h2:Paired (λt c=>H t=some (.lst (c.map V.int))) ts cs):Dp K H (.ref p) (uT cs):=
 .lst (aq.of h) (oB (Paired.bh h2 λ_ _ e=>.lst (aq.of e) (tj _)))
def W0 (K:W.Frag):List V->Hp->VK->Prop:=λxs H Q=>∃p ys,xs=[.ref p]/\(aq K H p ys\/aR K H p ys)/\∀l,H l=none->Q (.ref l) (upd H l (.lst ys))
abbrev W2:List Str:=["_law_script", "_law_m", "_law_machine_here", "_law_many", "_law_steps", "_law_clauses", "_law_clause", "_law_k", "_law_kept"]
theorem Q7:(["_law_clause"]:List Str).Nodup:=by decide +kernel
structure OH (P:Program) (w:World) (K:W.Frag) (mg:Str->Option Value) (base:Heap) (C C2 fM F7 fX fC Jr Js se F8 F9 Ga:Addr) (dM Jt dX dC Ju Jv sf Jw Jx Jy:FuncData):Prop where
 gM:aw P w K mg base aD 5 fM dM ["_law_script", "_law_sizes"] (pU K)
 mM:mg "_law_machine" = some (.ref fM)
 kM:W.keepIn K (.ref fM)=true
 bM:Binds K dM ["_law_script", "_law_sizes"] []
 gMd:aw P w K mg base aD 3 F7 Jt ["_law_m"] (zK C)
 mMd:mg "_law_made" = some (.ref F7)
 kMd:W.keepIn K (.ref F7)=true
 bMd:Binds K Jt ["_law_m"] []
 gX:aw P w K mg base aD 1 fX dX ["_law_cell", "_law_k"] uh
 mX:mg "_law_mix" = some (.ref fX)
 kX:W.keepIn K (.ref fX)=true
 bX:Binds K dX ["_law_cell", "_law_k"] []
 gC:aw P w K mg base aD 1 fC dC ["_law_script", "_law_k"] (pG K)
 mC:mg "_law_cell_at" = some (.ref fC)
 kC:W.keepIn K (.ref fC)=true
 bC:Binds K dC ["_law_script", "_law_k"] []
 mkS:Mk K C2 Jr
 gIS:aw P w K mg base aD 2 Jr Ju Ao (vN C C2)
 bIS:Binds K Ju Ao []
 mCl:Meth K C2 "clauses" Js
 gCl:aw P w K mg base aD 4 Js Jv ["self"] (Dt C2)
 bCl:Binds K Jv ["self"] []
 mMn:Meth K C2 "many" se
 gMn:aw P w K mg base aD 1 se sf ["self"] (ni C2)
 bMn:Binds K sf ["self"] []
 gRR:aw P w K mg base aD 5 F8 Jw Cr (HH K C2)
 mRR:mg "_law_run_right" = some (.ref F8)
 kRR:W.keepIn K (.ref F8)=true
 bRR:Binds K Jw Cr []
 gRD:aw P w K mg base aD 4 F9 Jx Cf (Ae K)
 mRD:mg "_law_run" = some (.ref F9)
 kRD:W.keepIn K (.ref F9)=true
 bRD:Binds K Jx Cf []
 gNE:aw P w K mg base aD 4 Ga Jy Cv (HI K C2)
 mNE:mg "_law_none_else" = some (.ref Ga)
 kNE:W.keepIn K (.ref Ga)=true
 bNE:Binds K Jy Cv []
section
variable {P:Program}{w:World}{K:W.Frag}{mg:Str->Option Value}{base:Heap}{C C2 fM F7 fX fC Jr Js se F8 F9 Ga:Addr}{dM Jt dX dC Ju Jv sf Jw Jx Jy:FuncData}
theorem jd:aQ W2 ["_law_script"] (au oF):=⟨rfl,rfl,rfl,by decide +kernel,rfl,by decide +kernel,by decide +kernel⟩
theorem OI {f:Addr}{fd:FuncData}(F:cC K "law" "law" oF f fd) (T:vm K mg C) (T2:iF K mg C2) (O:Own mg) (O2:eY mg) (gU:mg "abs" = none) (HM:mg "set" = none) (G:OH P w K mg base C C2 fM F7 fX fC Jr Js se F8 F9 Ga dM Jt dX dC Ju Jv sf Jw Jx Jy):aw P w K mg base aD 6 f fd ["_law_script"] (xM K):=by
 refine F.ok jd (λvs H Q E h=>?_) (λcdv A outer s H vs Q E hr h=>?_)
 . obtain ⟨a,ns,rfl,_⟩:=h
   rfl
 . obtain ⟨a,ns,rfl,hS,kk⟩:=h
   have hu:=eZ hr
   have Ov:=Nat.lt_of_le_of_lt (Nat.add_le_add_left (by decide:2<=64) _) hr.units
   have cI:bg 1 _:=hr.mono (by decide)
   have rX:bg 3 _:=hr.mono (by decide)
   have Jz:bg 4 _:=hr.mono (by decide)
   have UA:bg 5 _:=hr
   refine ⟨_,ak (aE (i:=1) jd.nd rfl (Or.inl rfl) (aA G.gM UA rfl G.mM G.kM G.bM .nil az (ae (pv 0) (ae (bt (ae av (ae av (ae av (ae av ah))))) ah))))
    (ak (aE (i:=2) jd.nd rfl (Or.inl rfl) (aA G.gMd rX rfl G.mMd G.kMd G.bMd .nil az (ae (pv 1) ah)))
    (ak (aE (i:=3) jd.nd rfl (Or.inl rfl) (aH cL av (aH ij (aA G.gX cI rfl G.mX G.kX G.bX .nil az (ae (aA G.gC cI rfl G.mC G.kC G.bC .nil az (ae (pv 0) (ae av ah))) (ae av ah))) av)))
    (ak (aE (i:=4) jd.nd rfl (Or.inl rfl) (uY G.mkS G.gIS rX rfl T2.mgC G.bIS .nil az (ae (pv 2) (ae (pv 3) ah))))
    (ak (aE (i:=5) jd.nd rfl (Or.inl rfl) (fZ (pv 4) T2.cl G.mCl G.gCl Jz G.bCl .nil az))
    (ak (cc PassesOwn.never rfl (bU (pv 5)) (ax (i:=6) jd.nd rfl (Or.inl rfl))
     (ak (bY (PW.pt (nE (ky (ie (aU md (by rfl) O2.isi PyProof.Rows.boot_isinstance (ae (pv 6) (ae (uV (v:=.ty "list") (by rfl) O2.list PyProof.Rows.boot_list rfl) ah)))))
      (mi (a8 xB (aU xA (by rfl) O2.len PySem.boot_len (ae (aL (xy rfl) (by rfl) HM PyProof.Rows.boot_set (ae (pv 6) ah)) ah)) (aU bZ (by rfl) O2.len PySem.boot_len (ae (pv 6) ah)) (bp _))))) (ar cS) aY)
     (ar (cc PassesOwn.never rfl (bU (pv 6)) (ax (i:=7) jd.nd rfl (Or.inl rfl))
      (ar (bY (PW.pt (nE (ky (ie (aU md (by rfl) O2.isi PyProof.Rows.boot_isinstance (ae (pv 7) (ae (uV (v:=.ty "int") (by rfl) O2.int PyProof.Rows.boot_int rfl) ah)))))
       (nE (ky (yf xC xC av (aU fU (by rfl) gU PyProof.Rows.boot_abs (ae (pv 7) ah)) (fZ (pv 4) T2.cl G.mMn G.gMn cI G.bMn .nil az)))
       (mi (a8 lG (aH jC av (pv 7)) (pv 6) (by with_unfolding_all rfl)))))) (ar cS) aY))))))
    (ak (qq (i:=8) (N:=["_law_clause"]) (js:=[none]) jd.nd rfl rfl (by kernel_rfl) rfl (bU (pv 5)) (λ_ _ _ _ _ _=>ax (i:=0) Q7 rfl (Or.inl rfl) (.inr rfl)) (λ_ _ _ _ _ _=>bj) (λ_ _ _ _ _ _=>aL (r:=W0 K) d5 (by rfl) O2.list PyProof.Rows.boot_list (ae (pv 0) ah)))
    (ak (cc PassesOwn.never rfl (cO rfl O.range (ae av ah)) (ax (i:=7) jd.nd rfl (Or.inl rfl))
     (ar (bY (ky (ie (aA G.gRR UA rfl G.mRR G.kRR G.bRR .nil az (ae (pv 4) (ae (pv 1) (ae (pv 8) (ae (aA G.gRD Jz rfl G.mRD G.kRD G.bRD .nil az (ae (pv 1) (ae (pv 0) (ae (pv 7) (ae (pv 3) ah))))) ah))))))) (ar cS) aY)))
    (ak (cc PassesOwn.never rfl (bU (pv 5)) (ax (i:=6) jd.nd rfl (Or.inl rfl))
     (ar (dg (eD PySem.F.plainAttrs_list PySem.F.slot_list_append PySem.F.type_list_append dj (pv 6) (ae av ah)))))
    (ak (dg (yr PySem.F.plainAttrs_list PySem.F.slot_list_clear PySem.F.type_list_clear Gv (pv 5)))
    (ak (bY (PW.pt (nE (a8 (Cb (n:=2) Ov) (fZ (pv 4) T2.cl G.mCl G.gCl Jz G.bCl .nil az) (pv 8) (bp _)) (mi (a8 xB (fZ (uY G.mkS G.gIS rX rfl T2.mgC G.bIS .nil az (ae (pv 2) (ae (pv 3) ah))) T2.cl G.mMn G.gMn cI G.bMn .nil az) (fZ (pv 4) T2.cl G.mMn G.gMn cI G.bMn .nil az) (bp _))))) (ar cS) aY)
    (ak (bY (PW.pt (nE (a8 (MS hu) (cF (pv 2) rfl) (cb hu (pv 1) aO (λ_ _=>rfl)) (bp _)) (mi (a8 (OF hu) (cF (pv 2) rfl) (aL (cP rfl) (by rfl) O2.dict PyProof.Rows.boot_dict (ae (cb hu (pv 1) aO (λ_ _=>rfl)) ah)) (bp _))))) (ar cS) aY)
    (ar (aT (aA G.gNE Jz rfl G.mNE G.kNE G.bNE .nil az (ae (pv 4) (ae (pv 1) (ae (pv 8) ah))))))))))))))))),?_⟩
   refine ⟨_,rfl,(by show 4<=sizeLine; decide),λz hz=>?_⟩
   have st:aj H (upd H z (.lst [.int 2,.int 3,.int 8,.int 2])):=aj.ao hz
   refine ⟨a,z,ns,2,3,8,2,rfl,aj.seq st hS,⟨.inl (aq.of ag),by decide,by decide,by decide,by decide,by decide⟩,⟨_,ag⟩,λm M names a1 a2 a3 a4 a5 a6 H1 ok l1 l0 l2 l3 l4 l5 l6 l7 hM s1=>?_⟩
   have hS1:=aj.seq s1 (aj.seq st hS)
   have hm:Fm M names:=⟨ok,l0.2,l2.2,l3⟩
   have sg:Sm M:=ok.sm (by omega) (by omega) l3
   have en:names=aa M:=ok.all
   have ndA:=sg.nd
   have hlen:=sg.len
   have OJ:M.keepers.length<=6:=by omega
   have W3:M.switches.length<=6:=by omega
   refine ⟨_,rfl,m,M,a1,a2,a3,a4,a5,a6,rfl,hM,(List.nodup_append.mp (List.nodup_append.mp ndA).1).2.1,ok.nxd,ok.nvw.nd,ok.smw.nd,λx dx g1 g2 g3 g4 g5 g6 ts H2 s2 hF nj MB Jm=>?_⟩
   have yL:=aj.seq s2 hS1
   have iK:=hM.same s2
   have W4:=s2 _ _ MB
   refine ⟨_,rfl,a,ns,3,rfl,yL,by decide,λv1=>⟨v1,3,rfl,by decide,by decide,λv2 _ _=>?_⟩⟩
   refine ⟨_,_,rfl,rfl,(by show (0:Int)<3; decide),_,_,rfl,rfl,?_⟩
   obtain ⟨c,ec,rF,EH⟩:∃c:Nat,(1+v2 % 3:Int)=(c:Int)/\1<=c/\c<=3:=⟨(1+v2 % 3).toNat,by omega,by omega,by omega⟩
   dsimp only [dr]
   rw [ec]
   refine ⟨_,rfl,_,rfl,λy dy hy Nn cD=>?_⟩
   have t3:aj H2 (upd (upd H2 dy (.own y)) y (.ins C2 dy [])):=λb o hb=>by
    rw [ai (af hb hy),ai (af hb Nn)]
    exact hb
   have q3:(upd (upd H2 dy (.own y)) y (.ins C2 dy [])) y=some (.ins C2 dy []):=ag
   generalize upd (upd H2 dy (.own y)) y (.ins C2 dy [])=H3 at t3 q3 ⊢
   have nxy:x≠y:=af hF.hx hy
   refine ⟨y,dy,x,dx,g1,g2,g3,g4,g5,g6,ts,c,M,rfl,q3,hF.same t3,t3 _ _ nj,Jm,nxy,sg,λsw kp gt mv of wY H4 hO k4=>⟨rfl,?_⟩⟩
   have uN:aj H2 H4:=λb o hb=>k4 _ _ (t3 _ _ hb) (af hb hy)
   have OK:(b8 (c:Int) sw kp gt mv of).lookup ("clauses" : Str)=none:=ib _ _ _ _ _ _ (by decide +kernel) (by decide +kernel) (by decide +kernel) (by decide +kernel) (by decide +kernel) (by decide +kernel)
   have qj:∀{sw kp gt mv of:Addr},(b8 (c:Int) sw kp gt mv of).lookup ("many" : Str)=none:=ib _ _ _ _ _ _ (by decide +kernel) (by decide +kernel) (by decide +kernel) (by decide +kernel) (by decide +kernel) (by decide +kernel)
   refine ⟨_,rfl,y,dy,_,rfl,hO.hy,OK,y,dy,sw,kp,gt,mv,of,ts,wY,c,M,rfl,hO,sg,by omega,λp us H5 s5 L5=>?_⟩
   have eN:(1+(c:Int)*((aa M).length:Int))=((1+c*(aa M).length:Nat):Int):=by rw [Int.natCast_add,Int.natCast_mul]; rfl
   have hN:1+c*(aa M).length<=1000:=by
    have:c*(aa M).length<=3*100:=Nat.mul_le_mul EH hlen
    omega
   have et:∀cl∈cR M c,cl.Nodup/\(∀x∈cl,-x∉cl)/\(∀x∈cl,1<=aF x/\aF x<=((1+c*(aa M).length:Nat):Int))/\cl.length<=3:=λcl h=>DB sg rF h
   have gp:=L5.each.length
   have NM:(cR M c).length<=900:=by
    unfold cR dY
    rw [List.length_append,List.length_cons]
    have h1:=ox (aa M) M.keepers
    have h2:=iO (f:=qf M) (n:=220) (λk=>vD sg k) (List.range c)
    rw [List.length_range] at h2
    omega
   have Fx:=hO.same s5
   refine ⟨_,rfl,p,rfl,⟨_,aq.of L5.top⟩,d7 (K:=K) (a:=p) (xs:=us.map V.ref) (λi σ Hi=>∃v6 v7,σ=[some (.ref a),some (.ref m),some (.ref x),some (.int (c:Int)),some (.ref y),some (.ref p),v6,v7,none]/\aj H5 Hi) ⟨none,none,rfl,λ_ _ h=>h⟩ ?_ ?_ ?_⟩
   . rintro i σ Hi _ ⟨_,_,_,si⟩
     exact aq.of (si _ _ L5.top)
   . rintro i xv σ Hi hx ⟨v6,v7,rfl,si⟩
     have hi:i<(cR M c).length:=by
      have:=(List.getElem?_eq_some_iff.mp hx).1
      rw [List.length_map] at this
      omega
     obtain ⟨t,ht,hT⟩:=a9 L5.each (i:=i) (List.getElem?_eq_getElem hi)
     have ex:xv=.ref t:=by
      rw [List.getElem?_map,ht] at hx
      exact (Option.some.inj hx).symm
     subst ex
     obtain ⟨c1,c2,c3,c4⟩:=et _ (List.getElem_mem hi)
     generalize (cR M c)[i]=cl at hT c1 c2 c3 c4
     have r9:=si _ _ hT
     refine ⟨_,rfl,.ref t,_, "list",true,rfl,.lst r9,rfl,true,rfl,cE rfl ?_⟩
     refine ⟨_,rfl,t,cl,rfl,aq.of r9,c1,by omega,λq hq=>?_⟩
     have s6:aj Hi (upd Hi q (.set (λk=>cl.any (· == k)) cl.length)):=aj.ao hq
     have q6:(upd Hi q (.set (λk=>cl.any (· == k)) cl.length)) q=some (.set (λk=>cl.any (· == k)) cl.length):=ag
     generalize upd Hi q (.set (λk=>cl.any (· == k)) cl.length)=H6 at s6 q6 ⊢
     have uH:=s6 _ _ r9
     refine ⟨q,_,_,rfl,q6,_,rfl,t,_,rfl,.inl (aq.of uH),rfl,_,rfl,?_⟩
     rw [List.length_map,decide_eq_true rfl]
     refine cE rfl ?_
     refine ⟨_,rfl,t,rfl,⟨_,aq.of uH⟩,d7 (K:=K) (a:=t) (xs:=cl.map V.int) (λj σ Hj=>∃v7,σ=[some (.ref a),some (.ref m),some (.ref x),some (.int (c:Int)),some (.ref y),some (.ref p),some (.ref t),v7,none]/\aj H6 Hj) ⟨v7,rfl,λ_ _ h=>h⟩ ?_ ?_ ?_⟩
     . rintro j σ Hj _ ⟨_,_,sj⟩
       exact aq.of (sj _ _ uH)
     . rintro j xv σ Hj hx ⟨v7,rfl,sj⟩
       have hj:j<cl.length:=by
        have:=(List.getElem?_eq_some_iff.mp hx).1
        rwa [List.length_map] at this
       have ex:xv=.int cl[j]:=by
        rw [List.getElem?_map,List.getElem?_eq_getElem hj] at hx
        exact (Option.some.inj hx).symm
       subst ex
       have OL:=c2 _ (List.getElem_mem hj)
       have iG:=c3 _ (List.getElem_mem hj)
       generalize cl[j]=n at OL iG
       have Ak:=Fx.same (si.trans (s6.trans sj))
       refine ⟨_,rfl,.int n,_, "int",true,rfl,.int n,rfl,true,rfl,cE rfl ?_⟩
       refine ⟨_,rfl,n,rfl,_,_,rfl,rfl,true,(by show V.bl (decide ((1:Int)<=aF n))=V.bl true; rw [decide_eq_true iG.1]),gc rfl ?_⟩
       refine ⟨_,rfl,y,dy,_,rfl,Ak.hy,qj,y,dy,sw,kp,gt,mv,of,aa M,c,rfl,Ak.hy,Ak.ho,by omega,by omega,?_⟩
       refine ⟨_,_,rfl,rfl,true,(by show V.bl (decide (aF n<=1+(c:Int)*((aa M).length:Int)))=V.bl true; rw [decide_eq_true (by rw [eN]; exact iG.2)]),cE rfl ?_⟩
       refine ⟨_,rfl,_,_,rfl,rfl,_,rfl,t,_,rfl,.inl (aq.of (sj _ _ uH)),rfl,pZ cl,_,rfl,?_⟩
       rw [if_neg (by decide),BR,decide_eq_false (by rw [Int.zero_sub]; exact OL)]
       exact cE rfl ⟨_,rfl,sj⟩
     . rintro σ Hj ⟨v7,rfl,sj⟩
       exact ⟨_,_,rfl,si.trans (s6.trans sj)⟩
   rintro σ H6 ⟨v6,v7,rfl,s6⟩
   have L6:LL H4 H6 p us (cR M c):=⟨s6 _ _ L5.top,Paired.bh L5.each λ_ _ e=>s6 _ _ e,L5.new,L5.pn,L5.np⟩
   have Jc:=s5.trans s6
   refine ⟨_,rfl,p,rfl,⟨_,aq.of L6.top⟩,λD hD=>?_⟩
   refine cY (cR M c).length (λi acc σ H7=>(∃ks:List Addr,acc=ks.map V.ref/\Paired (λt cl=>H6 t=none/\t≠D/\H7 t=some (.lst (cl.map V.int))) ks ((cR M c).take i))/\(∃u,σ=[u])/\aj H6 H7) ⟨⟨[],rfl,.nil⟩,⟨none,rfl⟩,aj.ao hD⟩ ag ?_ ?_
   . rintro acc σ H7 aW ⟨⟨ks,rfl,lQ⟩,_,s7⟩
     rw [List.take_length] at lQ
     refine ⟨⟨_,aq.of (s7 _ _ L6.top),by rw [List.length_map,gp]; exact Nat.le_refl _⟩,?_⟩
     have zM:=Jc.trans s7
     have hC7:CL H7 D ks (cR M c) (1+c*(aa M).length):=⟨aW,Paired.bh lQ λ_ _ e=>e.2.2,λcl h=>(et cl h).2.2.1,λcl h=>Nat.le_trans (et cl h).2.2.2 (by decide),hN⟩
     have L7:LL H4 H7 p us (cR M c):=⟨s7 _ _ L6.top,Paired.bh L6.each λ_ _ e=>s7 _ _ e,L6.new,L6.pn,L6.np⟩
     have hS7:=aj.seq (uN.trans zM) yL
     refine ⟨2,rfl,by decide,by decide,eI (n:=2) (λi σ Hi=>∃v7,σ=[some (.ref a),some (.ref m),some (.ref x),some (.int (c:Int)),some (.ref y),some (.ref p),v6,v7,some (.ref D)]/\aj H7 Hi) ⟨v7,rfl,λ_ _ h=>h⟩ ?_ ?_⟩
     . rintro i σ Hi hi ⟨v7,rfl,si⟩
       have UB:=uN.trans (zM.trans si)
       refine ⟨_,rfl,_,rfl,_,rfl,_,rfl,_,rfl,_,rfl,_,rfl,m,a1,a2,a3,a4,a5,a6,a,M,names,ns,_,c,rfl,iK.same UB,hm,OJ,W3,aj.seq si hS7,by omega,by omega,by omega,λt st0 jb g0 NC ws cs bss H8 s8 ht gf t8 uP W5 xi iX vJ fE=>?_⟩
       have s28:=UB.trans s8
       have hR:cx M names c cs bss:=⟨hm,sg,lx _ _ (List.mem_filter.mp t8).1,xi,iX,rF⟩
       refine ⟨y,dy,sw,kp,gt,mv,of,m,a1,a2,a3,a4,a5,a6,D,t,st0,jb,g0,ts,wY,ks,NC,ws,c,M,names,cs,bss,rfl,hO.same ((zM.trans si).trans s8),hR,(List.mem_filter.mp t8).2,iK.same s28,hC7.same (si.trans s8),ht,gf,uP,W5,vJ,fE,by omega,λH9 s9=>?_⟩
       exact ⟨true,rfl,cE rfl ⟨_,rfl,si.trans (s8.trans s9)⟩⟩
     rintro σ H8 ⟨v7,rfl,s8⟩
     have s48:=zM.trans s8
     have hDn:D∉us:=λh=>by
      obtain ⟨j,hj⟩:=List.mem_iff_getElem?.mp h
      obtain ⟨cl,_,e⟩:=i7 L6.each hj
      rw [e] at hD
      cases hD
     have Tg:Paired (λt cl=>t∉us/\t≠p/\H8 t=some (.lst (cl.map V.int))) ks (cR M c):=Paired.bh lQ λt cl e=>by
      refine ⟨λh=>?_,λh=>?_,s8 _ _ e.2.2⟩
      . obtain ⟨j,hj⟩:=List.mem_iff_getElem?.mp h
        obtain ⟨cl',_,e'⟩:=i7 L6.each hj
        rw [e.1] at e'
        cases e'
      . have:=e.1
        rw [h,L6.top] at this
        cases this
     have hDp:D≠p:=λh=>by
      rw [h,L6.top] at hD
      cases hD
     refine ⟨_,rfl,p,rfl,⟨_,aq.of (s8 _ _ L7.top)⟩,d7 (K:=K) (a:=p) (xs:=us.map V.ref) (λi σ Hi=>∃v6,σ=[some (.ref a),some (.ref m),some (.ref x),some (.int (c:Int)),some (.ref y),some (.ref p),v6,v7,some (.ref D)]/\(∀b o,H8 b=some o->b∉us->Hi b=some o)/\∀t∈us,∃xs:List V,Hi t=some (.lst xs)/\xs.length<=3+i) ⟨v6,rfl,λ_ _ h _=>h,λt h=>?_⟩ ?_ ?_ ?_⟩
     . obtain ⟨j,hj⟩:=List.mem_iff_getElem?.mp h
       obtain ⟨cl,W6,e⟩:=i7 L7.each hj
       exact ⟨_,s8 _ _ e,by rw [List.length_map]; exact (et cl (List.mem_of_getElem? W6)).2.2.2⟩
     . rintro i σ Hi _ ⟨_,_,k,_⟩
       exact aq.of (k _ _ (s8 _ _ L7.top) L7.np)
     . rintro i xv σ Hi hx ⟨v6,rfl,k,hl⟩
       have hi:i<us.length:=by
        have:=(List.getElem?_eq_some_iff.mp hx).1
        rwa [List.length_map] at this
       have ex:xv=.ref us[i]:=by
        rw [List.getElem?_map,List.getElem?_eq_getElem hi] at hx
        exact (Option.some.inj hx).symm
       subst ex
       have bK:=List.getElem_mem hi
       generalize us[i]=t at bK
       obtain ⟨xs,UC,hxl⟩:=hl t bK
       refine ⟨_,rfl,.inl ⟨rfl,_,aq.of UC⟩,t,_,_,rfl,rfl,UC,small (by omega),?_⟩
       refine ⟨_,rfl,λb o hb nb=>?_,λt' ER=>?_⟩
       . rw [ai (show b≠t from λe=>nb (by rw [e]; exact bK))]
         exact k b o hb nb
       . by_cases e:t'=t
         . rw [e,ag]
           exact ⟨_,rfl,by rw [List.length_append]; show xs.length+1<=3+(i+1); omega⟩
         . rw [ai e]
           obtain ⟨pM,h1,h2⟩:=hl t' ER
           exact ⟨pM,h1,by omega⟩
     rintro σ H9 ⟨v6,rfl,k9,_⟩
     have UD:=k9 _ _ (s8 _ _ L7.top) L7.np
     refine ⟨_,rfl,.inl ⟨rfl,_,aq.of UD⟩,p,_,rfl,rfl,UD,?_⟩
     have sA:aj H4 (upd H9 p (.lst [])):=λb o hb=>by
      rw [ai (af hb L5.pn)]
      exact k9 _ _ (s48 _ _ hb) λh=>by
       have:=L5.new b h
       rw [hb] at this
       cases this
     have UE:(upd H9 p (.lst [])) D=some (.lst (ks.map V.ref)):=by
      rw [ai hDp]
      exact k9 _ _ (s8 _ _ aW) hDn
     have UG:Paired (λt cl=>(upd H9 p (.lst [])) t=some (.lst (cl.map V.int))) ks (cR M c):=Paired.bh Tg λt cl e=>by
      rw [ai e.2.1]
      exact k9 _ _ e.2.2 e.1
     show x3 _ _ _ _ (upd H9 p (.lst []))
     generalize upd H9 p (.lst [])=HA at sA UE UG ⊢
     have UH:=hO.same sA
     refine ⟨_,rfl,y,dy,_,rfl,UH.hy,OK,y,dy,sw,kp,gt,mv,of,ts,wY,c,M,rfl,UH,sg,by omega,λp' gE HB sB LB=>?_⟩
     have OM:=sA.trans sB
     have ON:CL HB D ks (cR M c) (1+c*(aa M).length):=⟨sB _ _ UE,Paired.bh UG λ_ _ e=>sB _ _ e,λcl h=>(et cl h).2.2.1,λcl h=>Nat.le_trans (et cl h).2.2.2 (by decide),hN⟩
     refine ⟨_,rfl,uT (cR M c),uT (cR M c),Jq LB.top LB.each,Jq ON.top ON.each,Ap _,Ap _,Nat.le_trans (Nat.min_le_left _ _) (OG _),_,rfl,?_⟩
     refine cE (b:=!PyData.eqv (uT (cR M c)) (uT (cR M c))) (by rw [PySem.SeqAt.eqv_refl _ (Ap _)]; rfl) ?_
     have OO:=uN.trans OM
     have UI:=hF.same OO
     refine ⟨_,rfl,_,rfl,λy' sh mq W7 GX=>?_⟩
     have tC:aj HB (upd (upd HB sh (.own y')) y' (.ins C2 sh [])):=λb o hb=>by
      rw [ai (af hb mq),ai (af hb W7)]
      exact hb
     have qC:(upd (upd HB sh (.own y')) y' (.ins C2 sh [])) y'=some (.ins C2 sh []):=ag
     generalize upd (upd HB sh (.own y')) y' (.ins C2 sh [])=HC at tC qC ⊢
     refine ⟨y',sh,x,dx,g1,g2,g3,g4,g5,g6,ts,c,M,rfl,qC,UI.same tC,tC _ _ (OO _ _ nj),Jm,af UI.hx mq,sg,λsw' uv gt' mv' of' ae5 HD OP kD=>⟨rfl,?_⟩⟩
     have OQ:aj HB HD:=λb o hb=>kD _ _ (tC _ _ hb) (af hb mq)
     have Gb:=OO.trans OQ
     refine ⟨y',sh,_,rfl,OP.hy,qj,y',sh,sw',uv,gt',mv',of',aa M,c,rfl,OP.hy,OP.ho,by omega,by omega,?_⟩
     have OR:=hO.same (OM.trans OQ)
     refine ⟨_,rfl,y,dy,_,rfl,OR.hy,qj,y,dy,sw,kp,gt,mv,of,aa M,c,rfl,OR.hy,OR.ho,by omega,by omega,?_⟩
     refine ⟨rfl,_,rfl,cE (by rw [decide_eq_true rfl]; rfl) ?_⟩
     have OS:=hF.same Gb
     have OT:=iK.same Gb
     refine ⟨_,rfl,x,C,dx,_,_,rfl,OS.hx,T.cl,T.n3,zj ..,_,rfl,m,.ref a3,rfl,cw.k (k:=.inr "gates") OT.top,g3,a3,ts,rfl,rfl,aq.of OS.h3,aq.of (Gb _ _ W4),_,rfl,cE rfl ?_⟩
     obtain ⟨t4,u4,v4⟩:=m8 (h:=λr:Str×Str=>((.inr r.1:Key),V.str r.2)) (λ_=>rfl) OT.nx
     refine ⟨_,rfl,x,C,dx,_,_,rfl,OS.hx,T.cl,T.n4,Fb ..,_,rfl,m,.ref a4,rfl,cw.k (k:=.inr "nexts") OT.top,a4,t4,cv M.nexts,rfl,u4,v4,λf4 e4=>?_⟩
     rw [lS ok.nxd]
     have sE:aj HD (upd HD f4 (.dK (cv M.nexts))):=aj.ao e4
     have qE:(upd HD f4 (.dK (cv M.nexts))) f4=some (.dK (cv M.nexts)):=ag
     generalize upd HD f4 (.dK (cv M.nexts))=HE at sE qE ⊢
     refine ⟨g4,f4,cv M.nexts,rfl,rfl,.inl (sE _ _ (Gb _ _ nj)),.inl qE,?_,λkv gq=>?_,_,rfl,cE rfl ?_⟩
     . unfold cv
       rw [List.map_map]
       have e:((λkv:Key×V=>kv.1)∘λr:Str×Str=>((.inr r.1:Key),V.str r.2))=(λz:Str=>(.inr z:Key))∘(·.1):=rfl
       rw [e,← List.map_map]
       exact oV (λa b q=>Sum.inr.inj q) ok.nxd
     . unfold cv at gq
       obtain ⟨r,_,rfl⟩:=List.mem_map.mp gq
       exact ⟨rfl,by simp [ir]⟩
     have UJ:=OQ.trans sE
     refine ⟨_,rfl,_,rfl,_,rfl,y,dy,sw,kp,gt,mv,of,m,a1,a2,a3,a4,a5,a6,D,ts,wY,ks,c,M,names,rfl,hO.same (OM.trans UJ),sg,hm,OJ,iK.same (Gb.trans sE),ON.same UJ,rF,by omega,λH' _=>kk H'⟩
   . rintro i acc σ H7 hi aW ⟨⟨ks,rfl,lQ⟩,⟨u,rfl⟩,s7⟩
     obtain ⟨t,ht,hT⟩:=a9 L6.each (i:=i) (List.getElem?_eq_getElem hi)
     have ei:(us.map V.ref)[i]?=some (.ref t):=by rw [List.getElem?_map,ht]; rfl
     refine ⟨⟨_,_,aq.of (s7 _ _ L6.top),ei⟩,?_⟩
     rintro x' H' ⟨rfl,cT⟩
     have ex:=cT _ (aq.of (s7 _ _ L6.top))
     rw [ei] at ex
     cases ex
     refine cA ?_
     refine ⟨_,rfl,t,_,rfl,.inl (aq.of (s7 _ _ hT)),λl hl=>?_⟩
     have yT:D≠l:=af aW hl
     have mJ:=lQ.length
     rw [List.length_take] at mJ
     refine ⟨_,(ai yT).trans aW,(by rw [List.length_map]; exact small (by omega)),bo hi ag ⟨⟨ks++[l],by rw [List.map_append]; rfl,?_⟩,⟨_,rfl⟩,λb o hb=>?_⟩⟩
     . rw [List.take_succ,List.getElem?_eq_getElem hi,Option.toList_some]
       refine bE (Paired.bh lQ λb cl e=>⟨e.1,e.2.1,?_⟩) (.cons ⟨s7.free hl,Ne.symm yT,?_⟩ .nil)
       . rw [ai e.2.1,ai (af e.2.2 hl)]
         exact e.2.2
       . rw [ai (Ne.symm yT),ag]
     . rw [ai (af hb hD),ai (af (s7 _ _ hb) hl)]
       exact s7 _ _ hb
end
end Gen
namespace L2
open PySem PySem.Spec PyProof.Rows
theorem oG {α:Type} : ∀{us:List α},us.length=1->∃a,us=[a]
 | [a],_=>⟨a,rfl⟩
theorem vO {α:Type} : ∀{us:List α}{n:Nat},us.length=n+1->∃a r,us=a::r/\r.length=n
 | a::r,_,h=>⟨a,r,rfl,Nat.succ.inj h⟩
theorem je {α:Type}{us:List α}(h:us.length=2):∃a b,us=[a,b]:=by
 obtain ⟨a,r,rfl,h1⟩:=vO h
 obtain ⟨b,rfl⟩:=oG h1
 exact ⟨a,b,rfl⟩
theorem lA {α:Type}{us:List α}(h:us.length=3):∃a b c,us=[a,b,c]:=by
 obtain ⟨a,r,rfl,h1⟩:=vO h
 obtain ⟨b,c,rfl⟩:=je h1
 exact ⟨a,b,c,rfl⟩
theorem Aq {α:Type}{us:List α}(h:us.length=4):∃a b c d,us=[a,b,c,d]:=by
 obtain ⟨a,r,rfl,h1⟩:=vO h
 obtain ⟨b,c,d,rfl⟩:=lA h1
 exact ⟨a,b,c,d,rfl⟩
theorem W8 {α:Type}{us:List α}(h:us.length=7):∃a b c d e f g,us=[a,b,c,d,e,f,g]:=by
 obtain ⟨a,r,rfl,h1⟩:=vO h
 obtain ⟨b,r2,rfl,h2⟩:=vO h1
 obtain ⟨c,r3,rfl,h3⟩:=vO h2
 obtain ⟨d,e,f,g,rfl⟩:=Aq h3
 exact ⟨a,b,c,d,e,f,g,rfl⟩
end L2
namespace Gen
open PySem L2
section
theorem all_mk {l:W.OpenLaw}{w:World}{K:W.Frag}{h:Heap}{mg:Str->Option Value}{fa C C2 f0 Ar As Au Av Aw Ax Ay Az AA f2 f3 f5 f6 JA JB JC JD JE JF JG JH JI JJ JK JL JM JN JO JP JQ JR JS JT JU JV OU:Addr}(X:K.In h) (G:h.Ns mainGlobals mg) (hfa:mg "law" = some (.ref fa))
 {od0 an0 Q8 Q9 Ra Rb Rc Rf Rg Rh Ri Rj Rk Rl Rm Rn Ro Rp Rq Rr od2 an2 od3 an3 od5 an5 od6 an6 W9 Xa Xb Xc Xd Xe Xf Xg Xh Xi Xj Xk Xl Xm Xn Xo Xp Xq Xr Xs Xt Xu Xv Xw Xx Xy Xz XA XB XC XD XE XF XG XH XI XJ XM XN XO XQ XR XS XT XU OV:Option Addr}{sl0 Rt Ru Rv Rw Rx Ry Rz RA RB AY sl3 sl5 sl6 XW XX XY XZ X0 X1 X2 X3 X4 X5 X6 X7 X8 X9 Ya Yb Yc Yd Ye Yf Yg Yh Yi:Array (Option Value)}{oc0 kV0 dc0 pm0 UK ct0 RC RD RE RF JW RG RH RI RJ RK JX RL RM RN RO RP JY RQ RR RS RT RU JZ RV RW RX RY RZ J0 R0 R1 R3 R4 R5 J1 R6 R7 R8 R9 Sa J2 Sb Sd Se Sf Sg J4 Sh Si Sj Sk Sl J5 Sn oc2 kV2 dc2 pm2 UL ct2 oc3 kV3 dc3 pm3 UM ct3 oc5 kV5 dc5 pm5 UN ct5 oc6 kV6 dc6 pm6 UO ct6 Yj Yk Yl Ym OW Yn Yo Yp Yq Yr OX Ys Yt Yu Yv Yw OY Yx Yy Yz YA YB OZ YC YD YE YF YG O0 YH YI YJ YK YL O1 YM YN YO YQ YR O3 YS YT YU YV YW O4 YX YY YZ Y0 Y1 O5 Y2 Y3 Y4 Y5 Y6 O6 Y7 Y8 Y9 Za Zb O7 Zc Zd Ze Zf Zg O8 Zh Zi Zj Zk Zl O9 Zm Zn Zo Zp Zq Pa Zr Zs Zt Zu Zv Pb Zw Zx Zy Zz ZA Pc ZC ZD ZE ZF ZG Pd ZH ZI ZJ ZL ZM Pe ZN ZO ZP ZQ ZR Pf ZS ZT ZU ZV ZW Pg ZX ZY ZZ Z0 Z1 Ph Z2 Z3 Z4 Z5 Z6 Pj Z7 Z8 Pk Pl Pm HN Pn:Value}
 (aC:W.nsIn K mainGlobals "Machine" = some (some (.ref C))) (aC2:W.nsIn K mainGlobals "Steps" = some (some (.ref C2)))
 (a0:W.findIn K (.ref C) "__init__" = some (some (.ref f0))) (i0:W.isFn K (.ref f0)=true) (l0:K.lookup f0=some ⟨oc0,od0,.func (W.fnOf "__init__" "Machine.__init__" (aM qD) (aI qD) (au qD) .none kV0 dc0 pm0 an0 UK ct0),sl0⟩) (c0:W.codeIn K UK "Machine.__init__" = true) (k0:W.keepIn K (.ref f0)=true)
 (a100:W.findIn K (.ref C2) "__init__" = some (some (.ref Ar))) (i100:W.isFn K (.ref Ar)=true) (l100:K.lookup Ar=some ⟨RC,Q8,.func (W.fnOf "__init__" "Steps.__init__" (aM nz) (aI nz) (au nz) .none RD RE RF Q9 JW RG),Rt⟩) (c100:W.codeIn K JW "Steps.__init__" = true) (k100:W.keepIn K (.ref Ar)=true)
 (a101:W.findIn K (.ref C2) "number" = some (some (.ref As))) (i101:W.isFn K (.ref As)=true) (l101:K.lookup As=some ⟨RH,Ra,.func (W.fnOf "number" "Steps.number" (aM oq) (aI oq) (au oq) .none RI RJ RK Rb JX RL),Ru⟩) (c101:W.codeIn K JX "Steps.number" = true) (k101:W.keepIn K (.ref As)=true)
 (a102:W.findIn K (.ref C2) "many" = some (some (.ref Au))) (i102:W.isFn K (.ref Au)=true) (l102:K.lookup Au=some ⟨RM,Rc,.func (W.fnOf "many" "Steps.many" (aM m9) (aI m9) (au m9) .none RN RO RP Rf JY RQ),Rv⟩) (c102:W.codeIn K JY "Steps.many" = true) (k102:W.keepIn K (.ref Au)=true)
 (a103:W.findIn K (.ref C2) "clauses" = some (some (.ref Av))) (i103:W.isFn K (.ref Av)=true) (l103:K.lookup Av=some ⟨RR,Rg,.func (W.fnOf "clauses" "Steps.clauses" (aM vC) (aI vC) (au vC) .none RS RT RU Rh JZ RV),Rw⟩) (c103:W.codeIn K JZ "Steps.clauses" = true) (k103:W.keepIn K (.ref Av)=true)
 (a104:W.findIn K (.ref C2) "first_clauses" = some (some (.ref Aw))) (i104:W.isFn K (.ref Aw)=true) (l104:K.lookup Aw=some ⟨RW,Ri,.func (W.fnOf "first_clauses" "Steps.first_clauses" (aM qL) (aI qL) (au qL) .none RX RY RZ Rj J0 R0),Rx⟩) (c104:W.codeIn K J0 "Steps.first_clauses" = true) (k104:W.keepIn K (.ref Aw)=true)
 (a105:W.findIn K (.ref C2) "clauses_of" = some (some (.ref Ax))) (i105:W.isFn K (.ref Ax)=true) (l105:K.lookup Ax=some ⟨R1,Rk,.func (W.fnOf "clauses_of" "Steps.clauses_of" (aM vA) (aI vA) (au vA) .none R3 R4 R5 Rl J1 R6),Ry⟩) (c105:W.codeIn K J1 "Steps.clauses_of" = true) (k105:W.keepIn K (.ref Ax)=true)
 (a106:W.findIn K (.ref C2) "stand_at" = some (some (.ref Ay))) (i106:W.isFn K (.ref Ay)=true) (l106:K.lookup Ay=some ⟨R7,Rm,.func (W.fnOf "stand_at" "Steps.stand_at" (aM qM) (aI qM) (au qM) .none R8 R9 Sa Rn J2 Sb),Rz⟩) (c106:W.codeIn K J2 "Steps.stand_at" = true) (k106:W.keepIn K (.ref Ay)=true)
 (a107:W.findIn K (.ref C2) "input_at" = some (some (.ref Az))) (i107:W.isFn K (.ref Az)=true) (l107:K.lookup Az=some ⟨Sd,Ro,.func (W.fnOf "input_at" "Steps.input_at" (aM qN) (aI qN) (au qN) .none Se Sf Sg Rp J4 Sh),RA⟩) (c107:W.codeIn K J4 "Steps.input_at" = true) (k107:W.keepIn K (.ref Az)=true)
 (a108:W.findIn K (.ref C2) "run_of" = some (some (.ref AA))) (i108:W.isFn K (.ref AA)=true) (l108:K.lookup AA=some ⟨Si,Rq,.func (W.fnOf "run_of" "Steps.run_of" (aM nq) (aI nq) (au nq) .none Sj Sk Sl Rr J5 Sn),RB⟩) (c108:W.codeIn K J5 "Steps.run_of" = true) (k108:W.keepIn K (.ref AA)=true)
 (a2:W.nsIn K mainGlobals "next_of" = some (some (.ref f2))) (l2:K.lookup f2=some ⟨oc2,od2,.func (W.fnOf "next_of" "next_of" (aM kr) (aI kr) (au kr) .none kV2 dc2 pm2 an2 UL ct2),AY⟩) (c2:W.codeIn K UL "next_of" = true) (k2:W.keepIn K (.ref f2)=true)
 (a3:W.nsIn K mainGlobals "names_of" = some (some (.ref f3))) (l3:K.lookup f3=some ⟨oc3,od3,.func (W.fnOf "names_of" "names_of" (aM m7) (aI m7) (au m7) .none kV3 dc3 pm3 an3 UM ct3),sl3⟩) (c3:W.codeIn K UM "names_of" = true) (k3:W.keepIn K (.ref f3)=true)
 (a5:W.nsIn K mainGlobals "gate_clauses" = some (some (.ref f5))) (l5:K.lookup f5=some ⟨oc5,od5,.func (W.fnOf "gate_clauses" "gate_clauses" (aM BO) (aI BO) (au BO) .none kV5 dc5 pm5 an5 UN ct5),sl5⟩) (c5:W.codeIn K UN "gate_clauses" = true) (k5:W.keepIn K (.ref f5)=true)
 (a6:W.nsIn K mainGlobals "each_once" = some (some (.ref f6))) (l6:K.lookup f6=some ⟨oc6,od6,.func (W.fnOf "each_once" "each_once" (aM qJ) (aI qJ) (au qJ) .none kV6 dc6 pm6 an6 UO ct6),sl6⟩) (c6:W.codeIn K UO "each_once" = true) (k6:W.keepIn K (.ref f6)=true)
 (a10:W.nsIn K mainGlobals "_law_cell_at" = some (some (.ref JA))) (l10:K.lookup JA=some ⟨Yj,W9,.func (W.fnOf "_law_cell_at" "_law_cell_at" (aM qu) (aI qu) (au qu) .none Yk Yl Ym Xa OW Yn),XW⟩) (c10:W.codeIn K OW "_law_cell_at" = true) (k10:W.keepIn K (.ref JA)=true)
 (a11:W.nsIn K mainGlobals "_law_mix" = some (some (.ref JB))) (l11:K.lookup JB=some ⟨Yo,Xb,.func (W.fnOf "_law_mix" "_law_mix" (aM sM) (aI sM) (au sM) .none Yp Yq Yr Xc OX Ys),XX⟩) (c11:W.codeIn K OX "_law_mix" = true) (k11:W.keepIn K (.ref JB)=true)
 (a12:W.nsIn K mainGlobals "_law_rich" = some (some (.ref JC))) (l12:K.lookup JC=some ⟨Yt,Xd,.func (W.fnOf "_law_rich" "_law_rich" (aM qv) (aI qv) (au qv) .none Yu Yv Yw Xe OY Yx),XY⟩) (c12:W.codeIn K OY "_law_rich" = true) (k12:W.keepIn K (.ref JC)=true)
 (a13:W.nsIn K mainGlobals "_law_pick" = some (some (.ref JD))) (l13:K.lookup JD=some ⟨Yy,Xf,.func (W.fnOf "_law_pick" "_law_pick" (aM j5) (aI j5) (au j5) .none Yz YA YB Xg OZ YC),XZ⟩) (c13:W.codeIn K OZ "_law_pick" = true) (k13:W.keepIn K (.ref JD)=true)
 (a14:W.nsIn K mainGlobals "_law_spelt" = some (some (.ref JE))) (l14:K.lookup JE=some ⟨YD,Xh,.func (W.fnOf "_law_spelt" "_law_spelt" (aM iW) (aI iW) (au iW) .none YE YF YG Xi O0 YH),X0⟩) (c14:W.codeIn K O0 "_law_spelt" = true) (k14:W.keepIn K (.ref JE)=true)
 (a15:W.nsIn K mainGlobals "_law_literal" = some (some (.ref JF))) (l15:K.lookup JF=some ⟨YI,Xj,.func (W.fnOf "_law_literal" "_law_literal" (aM iD) (aI iD) (au iD) .none YJ YK YL Xk O1 YM),X1⟩) (c15:W.codeIn K O1 "_law_literal" = true) (k15:W.keepIn K (.ref JF)=true)
 (a16:W.nsIn K mainGlobals "_law_wishes" = some (some (.ref JG))) (l16:K.lookup JG=some ⟨YN,Xl,.func (W.fnOf "_law_wishes" "_law_wishes" (aM kj) (aI kj) (au kj) .none YO YQ YR Xm O3 YS),X2⟩) (c16:W.codeIn K O3 "_law_wishes" = true) (k16:W.keepIn K (.ref JG)=true)
 (a17:W.nsIn K mainGlobals "_law_machine_digits" = some (some (.ref JH))) (l17:K.lookup JH=some ⟨YT,Xn,.func (W.fnOf "_law_machine_digits" "_law_machine_digits" (aM dH) (aI dH) (au dH) .none YU YV YW Xo O4 YX),X3⟩) (c17:W.codeIn K O4 "_law_machine_digits" = true) (k17:W.keepIn K (.ref JH)=true)
 (a18:W.nsIn K mainGlobals "_law_machine" = some (some (.ref JI))) (l18:K.lookup JI=some ⟨YY,Xp,.func (W.fnOf "_law_machine" "_law_machine" (aM f9) (aI f9) (au f9) .none YZ Y0 Y1 Xq O5 Y2),X4⟩) (c18:W.codeIn K O5 "_law_machine" = true) (k18:W.keepIn K (.ref JI)=true)
 (a19:W.nsIn K mainGlobals "_law_made" = some (some (.ref JJ))) (l19:K.lookup JJ=some ⟨Y3,Xr,.func (W.fnOf "_law_made" "_law_made" (aM qK) (aI qK) (au qK) .none Y4 Y5 Y6 Xs O6 Y7),X5⟩) (c19:W.codeIn K O6 "_law_made" = true) (k19:W.keepIn K (.ref JJ)=true)
 (a20:W.nsIn K mainGlobals "_law_values" = some (some (.ref JK))) (l20:K.lookup JK=some ⟨Y8,Xt,.func (W.fnOf "_law_values" "_law_values" (aM kn) (aI kn) (au kn) .none Y9 Za Zb Xu O7 Zc),X6⟩) (c20:W.codeIn K O7 "_law_values" = true) (k20:W.keepIn K (.ref JK)=true)
 (a21:W.nsIn K mainGlobals "_law_bit" = some (some (.ref JL))) (l21:K.lookup JL=some ⟨Zd,Xv,.func (W.fnOf "_law_bit" "_law_bit" (aM vp) (aI vp) (au vp) .none Ze Zf Zg Xw O8 Zh),X7⟩) (c21:W.codeIn K O8 "_law_bit" = true) (k21:W.keepIn K (.ref JL)=true)
 (a22:W.nsIn K mainGlobals "_law_next" = some (some (.ref JM))) (l22:K.lookup JM=some ⟨Zi,Xx,.func (W.fnOf "_law_next" "_law_next" (aM qG) (aI qG) (au qG) .none Zj Zk Zl Xy O9 Zm),X8⟩) (c22:W.codeIn K O9 "_law_next" = true) (k22:W.keepIn K (.ref JM)=true)
 (a23:W.nsIn K mainGlobals "_law_all_bits" = some (some (.ref JN))) (l23:K.lookup JN=some ⟨Zn,Xz,.func (W.fnOf "_law_all_bits" "_law_all_bits" (aM qH) (aI qH) (au qH) .none Zo Zp Zq XA Pa Zr),X9⟩) (c23:W.codeIn K Pa "_law_all_bits" = true) (k23:W.keepIn K (.ref JN)=true)
 (a24:W.nsIn K mainGlobals "_law_firsts" = some (some (.ref JO))) (l24:K.lookup JO=some ⟨Zs,XB,.func (W.fnOf "_law_firsts" "_law_firsts" (aM ko) (aI ko) (au ko) .none Zt Zu Zv XC Pb Zw),Ya⟩) (c24:W.codeIn K Pb "_law_firsts" = true) (k24:W.keepIn K (.ref JO)=true)
 (a25:W.nsIn K mainGlobals "_law_spread" = some (some (.ref JP))) (l25:K.lookup JP=some ⟨Zx,XD,.func (W.fnOf "_law_spread" "_law_spread" (aM vI) (aI vI) (au vI) .none Zy Zz ZA XE Pc ZC),Yb⟩) (c25:W.codeIn K Pc "_law_spread" = true) (k25:W.keepIn K (.ref JP)=true)
 (a26:W.nsIn K mainGlobals "_law_choice" = some (some (.ref JQ))) (l26:K.lookup JQ=some ⟨ZD,XF,.func (W.fnOf "_law_choice" "_law_choice" (aM Cc) (aI Cc) (au Cc) .none ZE ZF ZG XG Pd ZH),Yc⟩) (c26:W.codeIn K Pd "_law_choice" = true) (k26:W.keepIn K (.ref JQ)=true)
 (a27:W.nsIn K mainGlobals "_law_wanted" = some (some (.ref JR))) (l27:K.lookup JR=some ⟨ZI,XH,.func (W.fnOf "_law_wanted" "_law_wanted" (aM qO) (aI qO) (au qO) .none ZJ ZL ZM XI Pe ZN),Yd⟩) (c27:W.codeIn K Pe "_law_wanted" = true) (k27:W.keepIn K (.ref JR)=true)
 (a28:W.nsIn K mainGlobals "_law_run" = some (some (.ref JS))) (l28:K.lookup JS=some ⟨ZO,XJ,.func (W.fnOf "_law_run" "_law_run" (aM qQ) (aI qQ) (au qQ) .none ZP ZQ ZR XM Pf ZS),Ye⟩) (c28:W.codeIn K Pf "_law_run" = true) (k28:W.keepIn K (.ref JS)=true)
 (a29:W.nsIn K mainGlobals "_law_bits_of" = some (some (.ref JT))) (l29:K.lookup JT=some ⟨ZT,XN,.func (W.fnOf "_law_bits_of" "_law_bits_of" (aM Cg) (aI Cg) (au Cg) .none ZU ZV ZW XO Pg ZX),Yf⟩) (c29:W.codeIn K Pg "_law_bits_of" = true) (k29:W.keepIn K (.ref JT)=true)
 (a31:W.nsIn K mainGlobals "_law_run_right" = some (some (.ref JU))) (l31:K.lookup JU=some ⟨ZY,XQ,.func (W.fnOf "_law_run_right" "_law_run_right" (aM Cp) (aI Cp) (au Cp) .none ZZ Z0 Z1 XR Ph Z2),Yg⟩) (c31:W.codeIn K Ph "_law_run_right" = true) (k31:W.keepIn K (.ref JU)=true)
 (a32:W.nsIn K mainGlobals "_law_none_else" = some (some (.ref JV))) (l32:K.lookup JV=some ⟨Z3,XS,.func (W.fnOf "_law_none_else" "_law_none_else" (aM Cu) (aI Cu) (au Cu) .none Z4 Z5 Z6 XT Pj Z7),Yh⟩) (c32:W.codeIn K Pj "_law_none_else" = true) (k32:W.keepIn K (.ref JV)=true)
 (a33:W.nsIn K mainGlobals "law" = some (some (.ref OU))) (l33:K.lookup OU=some ⟨Z8,XU,.func (W.fnOf "law" "law" (aM oF) (aI oF) (au oF) .none Pk Pl Pm OV HN Pn),Yi⟩) (c33:W.codeIn K HN "law" = true) (k33:W.keepIn K (.ref OU)=true)
 (pg:W.plainGet K C Str.empty=true) (hd:W.hasDictIn K C=true) (po:W.plainOver K C=true) (sa:W.findIn K (.ref C) "__setattr__" = some (some (.builtin "object.__setattr__"))) (mk:W.makesIn K C=true) (kc:W.keepIn K (.ref C)=true)
 (pg2:W.plainGet K C2 Str.empty=true) (hd2:W.hasDictIn K C2=true) (po2:W.plainOver K C2=true) (sa2:W.findIn K (.ref C2) "__setattr__" = some (some (.builtin "object.__setattr__"))) (mk2:W.makesIn K C2=true) (kc2:W.keepIn K (.ref C2)=true)
 (n1:W.findIn K (.ref C) "switches" = some none) (n2:W.findIn K (.ref C) "keepers" = some none) (n3:W.findIn K (.ref C) "gates" = some none) (n4:W.findIn K (.ref C) "nexts" = some none) (n5:W.findIn K (.ref C) "nevers" = some none) (n6:W.findIn K (.ref C) "somes" = some none) (r1:W.findIn K (.ref C2) "count" = some none) (r2:W.findIn K (.ref C2) "switches" = some none) (r3:W.findIn K (.ref C2) "keepers" = some none) (r4:W.findIn K (.ref C2) "gates" = some none) (r5:W.findIn K (.ref C2) "moves" = some none) (r6:W.findIn K (.ref C2) "offsets" = some none)
 (z0:W.nsIn K mainGlobals "len" = some none) (z1:W.nsIn K mainGlobals "range" = some none) (z2:W.nsIn K mainGlobals "enumerate" = some none) (z3:W.nsIn K mainGlobals "list" = some none) (z4:W.nsIn K mainGlobals "dict" = some none) (z5:W.nsIn K mainGlobals "tuple" = some none) (z6:W.nsIn K mainGlobals "str" = some none) (z7:W.nsIn K mainGlobals "int" = some none) (z8:W.nsIn K mainGlobals "bool" = some none) (z9:W.nsIn K mainGlobals "zip" = some none) (z10:W.nsIn K mainGlobals "all" = some none) (z11:W.nsIn K mainGlobals "isinstance" = some none) (z12:W.nsIn K mainGlobals "any" = some none) (z13:W.nsIn K mainGlobals "abs" = some none) (z14:W.nsIn K mainGlobals "set" = some none) (z15:W.nsIn K mainGlobals "sorted" = some none)
 :
 ∃fd:FuncData,(∀(s:Shared) (v:Value),BindsTo s fd ⟨[v],[]⟩ [("_law_script",v)])/\∀base:Heap,K.In base->base.Ns mainGlobals mg->aw l.prog w K mg base aD 6 fa fd ["_law_script"] (xM K):=by
 have e:=hfa.symm.trans (W.mg_of X G a33)
 cases e
 have T:vm K mg C:=⟨⟨pg,hd,po,sa⟩,n1,n2,n3,n4,n5,n6,W.mg_of X G aC⟩
 have T2:iF K mg C2:=⟨⟨pg2,hd2,po2,sa2⟩,r1,r2,r3,r4,r5,r6,W.mg_of X G aC2⟩
 have O:Own mg:=⟨W.mg_none_of X G z0,W.mg_none_of X G z1,W.mg_none_of X G z2,W.mg_none_of X G z3⟩
 have O2:eY mg:=⟨W.mg_none_of X G z0,W.mg_none_of X G z3,W.mg_none_of X G z4,W.mg_none_of X G z5,W.mg_none_of X G z6,W.mg_none_of X G z7,W.mg_none_of X G z8,W.mg_none_of X G z9,W.mg_none_of X G z10,W.mg_none_of X G z11⟩
 have Hg:mg "any" = none:=W.mg_none_of X G z12
 have gU:mg "abs" = none:=W.mg_none_of X G z13
 have HM:mg "set" = none:=W.mg_none_of X G z14
 have Lh:mg "sorted" = none:=W.mg_none_of X G z15
 have F0:=bf (st:=qD) l0 c0 k0
 have b0:=F0.binds (ps:=qF) λ_ _ _ _ _ _ us hl=>by obtain ⟨_,_,_,_,_,_,_,rfl⟩:=W8 hl; rfl
 have Po:=bf (st:=nz) l100 c100 k100
 have Z9:=Po.binds (ps:=Ao) λ_ _ _ _ _ _ us hl=>by obtain ⟨_,_,_,rfl⟩:=lA hl; rfl
 have Pp:=bf (st:=oq) l101 c101 k101
 have tJ:=Pp.binds (ps:=iM) λ_ _ _ _ _ _ us hl=>by obtain ⟨_,_,_,rfl⟩:=lA hl; rfl
 have Pq:=bf (st:=m9) l102 c102 k102
 have HP:=Pq.binds (ps:=["self"]) λ_ _ _ _ _ _ us hl=>by obtain ⟨_,rfl⟩:=oG hl; rfl
 have Pr:=bf (st:=vC) l103 c103 k103
 have aaa:=Pr.binds (ps:=["self"]) λ_ _ _ _ _ _ us hl=>by obtain ⟨_,rfl⟩:=oG hl; rfl
 have Pt:=bf (st:=qL) l104 c104 k104
 have aab:=Pt.binds (ps:=["self"]) λ_ _ _ _ _ _ us hl=>by obtain ⟨_,rfl⟩:=oG hl; rfl
 have Pu:=bf (st:=vA) l105 c105 k105
 have aac:=Pu.binds (ps:=["self", "k"]) λ_ _ _ _ _ _ us hl=>by obtain ⟨_,_,rfl⟩:=je hl; rfl
 have Pw:=bf (st:=qM) l106 c106 k106
 have aad:=Pw.binds (ps:=lU) λ_ _ _ _ _ _ us hl=>by obtain ⟨_,_,_,rfl⟩:=lA hl; rfl
 have Px:=bf (st:=qN) l107 c107 k107
 have aae:=Px.binds (ps:=lU) λ_ _ _ _ _ _ us hl=>by obtain ⟨_,_,_,rfl⟩:=lA hl; rfl
 have Py:=bf (st:=nq) l108 c108 k108
 have aaf:=Py.binds (ps:=["self", "choice"]) λ_ _ _ _ _ _ us hl=>by obtain ⟨_,_,rfl⟩:=je hl; rfl
 have F2:=bf (st:=kr) l2 c2 k2
 have m2:=W.mg_of X G a2
 have b2:=F2.binds (ps:=["machine", "keeper"]) λ_ _ _ _ _ _ us hl=>by obtain ⟨_,_,rfl⟩:=je hl; rfl
 have F3:=bf (st:=m7) l3 c3 k3
 have m3:=W.mg_of X G a3
 have b3:=F3.binds (ps:=["machine"]) λ_ _ _ _ _ _ us hl=>by obtain ⟨_,rfl⟩:=oG hl; rfl
 have F5:=bf (st:=BO) l5 c5 k5
 have m5:=W.mg_of X G a5
 have b5:=F5.binds (ps:=["gate", "one", "other"]) λ_ _ _ _ _ _ us hl=>by obtain ⟨_,_,_,rfl⟩:=lA hl; rfl
 have F6:=bf (st:=qJ) l6 c6 k6
 have m6:=W.mg_of X G a6
 have b6:=F6.binds (ps:=["numbers"]) λ_ _ _ _ _ _ us hl=>by obtain ⟨_,rfl⟩:=oG hl; rfl
 have UP:=bf (st:=qu) l10 c10 k10
 have Pz:=W.mg_of X G a10
 have PB:=UP.binds (ps:=["_law_script", "_law_k"]) λ_ _ _ _ _ _ us hl=>by obtain ⟨_,_,rfl⟩:=je hl; rfl
 have PD:=bf (st:=sM) l11 c11 k11
 have PF:=W.mg_of X G a11
 have PH:=PD.binds (ps:=["_law_cell", "_law_k"]) λ_ _ _ _ _ _ us hl=>by obtain ⟨_,_,rfl⟩:=je hl; rfl
 have UQ:=bf (st:=qv) l12 c12 k12
 have UR:=W.mg_of X G a12
 have US:=UQ.binds (ps:=["_law_cell", "_law_k"]) λ_ _ _ _ _ _ us hl=>by obtain ⟨_,_,rfl⟩:=je hl; rfl
 have Gd:=bf (st:=j5) l13 c13 k13
 have J6:=W.mg_of X G a13
 have J7:=Gd.binds (ps:=["_law_left", "_law_many"]) λ_ _ _ _ _ _ us hl=>by obtain ⟨_,_,rfl⟩:=je hl; rfl
 have PJ:=bf (st:=iW) l14 c14 k14
 have UT:=W.mg_of X G a14
 have UU:=PJ.binds (ps:=["_law_left", "_law_told"]) λ_ _ _ _ _ _ us hl=>by obtain ⟨_,_,rfl⟩:=je hl; rfl
 have PK:=bf (st:=iD) l15 c15 k15
 have UW:=W.mg_of X G a15
 have UX:=PK.binds (ps:=["_law_left", "_law_names"]) λ_ _ _ _ _ _ us hl=>by obtain ⟨_,_,rfl⟩:=je hl; rfl
 have UY:=bf (st:=kj) l16 c16 k16
 have m16:=W.mg_of X G a16
 have b16:=UY.binds (ps:=km) λ_ _ _ _ _ _ us hl=>by obtain ⟨_,_,_,_,rfl⟩:=Aq hl; rfl
 have UZ:=bf (st:=dH) l17 c17 k17
 have m17:=W.mg_of X G a17
 have b17:=UZ.binds (ps:=pN) λ_ _ _ _ _ _ us hl=>by obtain ⟨_,_,rfl⟩:=je hl; rfl
 have U0:=bf (st:=f9) l18 c18 k18
 have m18:=W.mg_of X G a18
 have b18:=U0.binds (ps:=C6) λ_ _ _ _ _ _ us hl=>by obtain ⟨_,_,rfl⟩:=je hl; rfl
 have U1:=bf (st:=qK) l19 c19 k19
 have m19:=W.mg_of X G a19
 have b19:=U1.binds (ps:=["_law_m"]) λ_ _ _ _ _ _ us hl=>by obtain ⟨_,rfl⟩:=oG hl; rfl
 have U2:=bf (st:=kn) l20 c20 k20
 have U3:=W.mg_of X G a20
 have U4:=U2.binds (ps:=lO) λ_ _ _ _ _ _ us hl=>by obtain ⟨_,_,_,rfl⟩:=lA hl; rfl
 have U5:=bf (st:=vp) l21 c21 k21
 have PL:=W.mg_of X G a21
 have PM:=U5.binds (ps:=["_law_values_here", "_law_literal_here"]) λ_ _ _ _ _ _ us hl=>by obtain ⟨_,_,rfl⟩:=je hl; rfl
 have U6:=bf (st:=qG) l22 c22 k22
 have m22:=W.mg_of X G a22
 have b22:=U6.binds (ps:=lO) λ_ _ _ _ _ _ us hl=>by obtain ⟨_,_,_,rfl⟩:=lA hl; rfl
 have U7:=bf (st:=qH) l23 c23 k23
 have PN:=W.mg_of X G a23
 have PQ:=U7.binds (ps:=["_law_many"]) λ_ _ _ _ _ _ us hl=>by obtain ⟨_,rfl⟩:=oG hl; rfl
 have U8:=bf (st:=ko) l24 c24 k24
 have U9:=W.mg_of X G a24
 have Va:=U8.binds (ps:=["_law_m"]) λ_ _ _ _ _ _ us hl=>by obtain ⟨_,rfl⟩:=oG hl; rfl
 have Vb:=bf (st:=vI) l25 c25 k25
 have Vc:=W.mg_of X G a25
 have Vd:=Vb.binds (ps:=xg) λ_ _ _ _ _ _ us hl=>by obtain ⟨_,_,rfl⟩:=je hl; rfl
 have Ve:=bf (st:=Cc) l26 c26 k26
 have Vf:=W.mg_of X G a26
 have Vg:=Ve.binds (ps:=xh) λ_ _ _ _ _ _ us hl=>by obtain ⟨_,_,_,rfl⟩:=lA hl; rfl
 have Vh:=bf (st:=qO) l27 c27 k27
 have m27:=W.mg_of X G a27
 have b27:=Vh.binds (ps:=Ca) λ_ _ _ _ _ _ us hl=>by obtain ⟨_,_,_,rfl⟩:=lA hl; rfl
 have Vi:=bf (st:=qQ) l28 c28 k28
 have m28:=W.mg_of X G a28
 have b28:=Vi.binds (ps:=Cf) λ_ _ _ _ _ _ us hl=>by obtain ⟨_,_,_,_,rfl⟩:=Aq hl; rfl
 have Vj:=bf (st:=Cg) l29 c29 k29
 have Vk:=W.mg_of X G a29
 have Vl:=Vj.binds (ps:=xj) λ_ _ _ _ _ _ us hl=>by obtain ⟨_,_,_,_,rfl⟩:=Aq hl; rfl
 have Vm:=bf (st:=Cp) l31 c31 k31
 have m31:=W.mg_of X G a31
 have b31:=Vm.binds (ps:=Cr) λ_ _ _ _ _ _ us hl=>by obtain ⟨_,_,_,_,rfl⟩:=Aq hl; rfl
 have Vn:=bf (st:=Cu) l32 c32 k32
 have m32:=W.mg_of X G a32
 have b32:=Vn.binds (ps:=Cv) λ_ _ _ _ _ _ us hl=>by obtain ⟨_,_,_,rfl⟩:=lA hl; rfl
 have F33:=bf (st:=oF) l33 c33 k33
 have m33:=W.mg_of X G a33
 refine ⟨W.fnOf "law" "law" (aM oF) (aI oF) (au oF) .none Pk Pl Pm OV HN Pn,λs v=>.of_eq rfl,λbase _ _=>?_⟩
 have gP:aw l.prog w K mg base aD 1 JD _ ["_law_left", "_law_many"] pH:=va Gd O
 have gS:aw l.prog w K mg base aD 2 JE _ ["_law_left", "_law_told"] (qw K):=yI PJ O Gd J7 J6
 have gL:aw l.prog w K mg base aD 2 JF _ ["_law_left", "_law_names"] (lJ K):=uu PK O Gd J7 J6
 have gW:aw l.prog w K mg base aD 3 JG _ km (sO K):=ED UY O Gd J7 J6 PJ UU UT PK UX UW
 have gR:aw l.prog w K mg base aD 2 JC _ ["_law_cell", "_law_k"] ui:=Ku UQ O PD PH PF
 have gD:aw l.prog w K mg base aD 4 JH _ pN (nU K):=EM UZ ⟨O,gP,J6,k13,J7,gS,UT,k14,UU,gL,UW,k15,UX,gW,m16,k16,b16,gR,UR,k12,US⟩
 have gC:aw l.prog w K mg base aD 1 JA _ ["_law_script", "_law_k"] (pG K):=Kt UP O
 have gM:aw l.prog w K mg base aD 5 JI _ C6 (pU K):=C8 U0 O gD m17 k17 b17 gC Pz k10 PB gR UR k12 US
 have gMd:aw l.prog w K mg base aD 3 JJ _ ["_law_m"] (zK C):=KZ U1 T O2 ⟨mk,a0,i0,kc⟩ (KG F0 T O2) b0
 have gIS:aw l.prog w K mg base aD 2 Ar _ Ao (vN C C2):=HL Po T T2 O2 O (DG F2) m2 k2 b2 (Hh F3 T O2) m3 k3 b3
 have gN:aw l.prog w K mg base aD 2 As _ iM (iw C2 true):=K0 Pp T2 O2 ⟨a101,i101,k101⟩ tJ
 have gMn:aw l.prog w K mg base aD 1 Au _ ["self"] (ni C2):=Ho Pq T2 O2
 have gGC:aw l.prog w K mg base aD 2 f5 _ ["gate", "one", "other"] Hf:=QP F5 Hg (KW F6 O2) m6 k6 b6
 have gFC:aw l.prog w K mg base aD 3 Aw _ ["self"] (zS C2):=K1 Pt T2 gN ⟨a101,i101,k101⟩ tJ
 have gCK:aw l.prog w K mg base aD 3 Ax _ ["self", "k"] (Ds C2):=Nx Pu T2 gN ⟨a101,i101,k101⟩ tJ gGC m5 k5 b5
 have gCl:aw l.prog w K mg base aD 4 Av _ ["self"] (Dt C2):=NB Pr T2 O gFC ⟨a104,i104,k104⟩ aab gCK ⟨a105,i105,k105⟩ aac
 have gSA:aw l.prog w K mg base aD 3 Ay _ lU (zV C2):=K3 Pw T2 O2 gN ⟨a101,i101,k101⟩ tJ
 have gIA:aw l.prog w K mg base aD 3 Az _ lU (zU C2):=K2 Px T2 O2 gN ⟨a101,i101,k101⟩ tJ
 have N4:aw l.prog w K mg base aD 4 AA _ ["self", "choice"] (vE C2):=Hs Py T2 O gSA ⟨a106,i106,k106⟩ aad gIA ⟨a107,i107,k107⟩ aae
 have HQ:aw l.prog w K mg base aD 1 JL _ ["_law_values_here", "_law_literal_here"] qa:=M3 U5 O2
 have Vo:aw l.prog w K mg base aD 2 JK _ lO (oa K):=Fd U2 O2 HQ PL k21 PM
 have gNx:aw l.prog w K mg base aD 3 JM _ lO (zw K):=G6 U6 O2 Vo U3 k20 U4 HQ PL k21 PM
 have PR:aw l.prog w K mg base aD 1 JN _ ["_law_many"] (qe K):=AM U7 O Lh
 have Vp:aw l.prog w K mg base aD 2 JO _ ["_law_m"] (oo K):=Ft U8 O2 PR PN k23 PQ
 have Vq:aw l.prog w K mg base aD 1 JP _ xg xK:=NK Vb O2 gU
 have Cs:aw l.prog w K mg base aD 2 JQ _ xh Dx:=QV Ve O2 O Vq Vc k25 Vd
 have gWt:aw l.prog w K mg base aD 1 JR _ Ca zY:=K4 Vh gU
 have gX:aw l.prog w K mg base aD 1 JB _ ["_law_cell", "_law_k"] uh:=Ew PD
 have gRD:aw l.prog w K mg base aD 4 JS _ Cf (Ae K):=K9 Vi O2 O PR PN k23 PQ Vp U9 k24 Va gNx m22 k22 b22 gC Pz k10 PB gX PF k11 PH
 have Vr:aw l.prog w K mg base aD 3 JT _ xj (DA K C2):=QZ Vj T2 O2 O gN ⟨a101,i101,k101⟩ tJ gWt m27 k27 b27
 have gRR:aw l.prog w K mg base aD 5 JU _ Cr (HH K C2):=Q3 Vm T2 O2 O gU gN ⟨a101,i101,k101⟩ tJ gMn ⟨a102,i102,k102⟩ HP N4 ⟨a108,i108,k108⟩ aaf Vr Vk k29 Vl Cs Vf k26 Vg Vq Vc k25 Vd Vo U3 k20 U4 HQ PL k21 PM
 have gNE:aw l.prog w K mg base aD 4 JV _ Cv (HI K C2):=Q6 Vn T2 O2 gMn ⟨a102,i102,k102⟩ HP Vr Vk k29 Vl Cs Vf k26 Vg PR PN k23 PQ Vp U9 k24 Va
 exact OI F33 T T2 O O2 gU HM ⟨gM,m18,k18,b18,gMd,m19,k19,b19,gX,PF,k11,PH,gC,Pz,k10,PB,⟨mk2,a100,i100,kc2⟩,gIS,Z9,⟨a103,i103,k103⟩,gCl,aaa,⟨a102,i102,k102⟩,gMn,HP,gRR,m31,k31,b31,gRD,m28,k28,b28,gNE,m32,k32,b32⟩
theorem walk {l:W.OpenLaw}{q:Program}{loose:List Str}{XP:(Str->Option Value)->Heap->Prop}{YP:World->Heap->Prop}{d:DefRec}{K:Params->W.Frag}(hn:l.most=some 63) (Ec:d.params.defaults=[])
 (hY:∀(w:World) (h:Heap),YP w h->(K w.params).In h)
 (F:∀(w:World) (mg:Str->Option Value) (fa:Addr) (h:Heap),(K w.params).In h->h.Ns mainGlobals mg->mg d.name=some (.ref fa)->
  ∃fd:FuncData,(∀(s:Shared) (u:Value),BindsTo s fd ⟨[u],[]⟩ [("_law_script",u)])/\∀base:Heap,(K w.params).In base->base.Ns mainGlobals mg->aw l.prog w (K w.params) mg base aD 6 fa fd ["_law_script"] (xM (K w.params))) :
 W.WalkO q loose XP YP l.row.toRowW d [] (λf vs=>PySem.call f vs):=
 L2.Ko (n:=63) (k:=6) (x:="_law_script") (CX:=λ_=>aD) (sp:=λw=>xM (K w.params)) hn (by decide) Ec ⟨rfl,by decide,by decide⟩ hY F (λ_ _ a ns hl _ hS=>⟨a,ns,rfl,hS,λ_=>rfl⟩) λ_ _ _ _ _ z=>z
end
end Gen
open PySem PySem.W PyProof.Rows
inductive PySem.W.Fast : Prop
|tw1925470991634952901
|tw2032071399321650648
|tw14453300102862705409
|tw4962974160346381491
|tw10660435938226832166
|tw8243850414830163329
|tw11581741857031549529
|tw15048864328306836055
|tw17588440826565180474
|tw14169843185682328447
|tw6691961139811764439
|tw2727781591712889248
|tw13000700749198349863
|tw2571771902855834273
|tw16842778590095393542
|tw10832501529071299204
|tw17345885780097429977
|tw17592921119219190353
|tw14208401540876730558
|tw4557898213845955203
|tw10045084618988005674
|tw16365399537444694353
|tw4231607177956839912
|tw4892129619682291745
|tw9874785697623822265
|tw8437310369387744741
|tw11275161792102386717
|tw6557481941297186088
|tw11912435502503607820
|tw4663842490551394578
|tw8130990745966611272
|tw10625926490124685769
|tw11666868237974989192
|tw9421160851888891942
|tw5637846326117910327
|tw3886785260820777313
|tw5231105537966829284
|tw12463874581657342760
|tw10285841235308071918
|tw17904514354027251029
|tw12808901188876508701
|tw18086506093514399824
|tw6216230459460143531
|tw5400950332923574848
|tw18126733573431094200
|tw6745758707257843633
|tw17804658621785938261
|tw4820340721889610787
|tw207665242035458928
|tw1850812722166779405
|tw12411427314123866796
|tw11963315195011523259
|te11963315195011523259
|tw10709129548309322588
|tw6888296860177337319
|tw13401210813138094164
|tw3640940107216975474
|tw851697636984960806
|tw13391078580083985630
|tw2366276237793559994
|tw17751970880994801341
|tw3574579362271601217
|tw13326045927282536788
|tw328735872590427646
|tw10414878001857705937
|tw14544726192445917580
|tw10906529427268961613
|tw13910088444076521625
|tw11258938995458695923
|tw10217157680760796825
|tw103095234188946368
|tw15037956156836353251
|tw14084647304918385096
|tw16431524510735558613
|tw8560993220118914879
|tw14032502888691990901
|tw11625307636570097784
|tw3627348415322702278
|tw13459684514690288442
|tw15897682124195905941
|tw14985694508312475117
|tw6460482432592430647
|tw7774158438679975954
|tw13387486111310361714
|tw11465622608840893407
|tw567930238699646822
|tw2599588722679417122
|tw15364990135513053958
|tw16021339069148267460
|tw18127315468736979231
|tw16318951496663846992
|tw13921221660288944893
|tw5230441770633254675
|tw16941619283753307695
|tw7057513725431447203
|tw5498937994413969942
|tw13426626162355015377
|tw8686724248030677556
|tw2398544967094103113
|tw12697588753491090984
|tw5035064977005841424
|tw3716751583203452519
|tw7011906621186879428
|tw3538326431241581615
|tw13512141342324318838
|tw3333923934031317458
|tw12263909673130139236
|tw14157583991200654287
|tw7123978600490725886
|tw10691601695971556747
|tw17992578588787659579
|tw3284886993841851117
|tw16555906514664197811
|tw12591423223588547631
|tw11330851526364811915
|tw16347922513689594392
|tw11993603537777756663
|tw13041544067606630727
|tw11858127883198442770
|tw5280287879263934352
|tw17666952677658614191
|tw4010647394573482901
|tw14382089821708383100
|tw7838728010461024839
|tw13206402434393036590
|tw14932618687147143994
|tw1391329667459652528
|tw13162376151330551911
|tw14030721982776731842
|tw18350528212776859158
|tw6398321364109615672
|tw2686028087825989150
|tw2808088884260547741
|tw12113872298845977676
|tw16768489176811459026
|tw15735791384151062975
|tw212778755421557501
|tw263733839103608844
|tw14701050391714162511
|tw11375927183092240731
|tw18358257598440767067
|tw11570852589247383604
|tw6680600157224118116
|tw3035769784911183982
|tw6645628281330704100
|tw3827672626108897993
|tw9058392462027001329
|tw17225272758954106239
|tw15235141912538999267
|tw4049290511860643934
|tw11189201515036906795
set_option maxRecDepth 100000 in
set_option maxHeartbeats 0 in
theorem PySem.Challenge.cw_everguard_k20_steps_are_runs_holds : PySem.Challenge.rw_everguard_k20_steps_are_runs.Holds := by
 w_on; o_law; k_head; (case hw=>w_witness2)
 k_fill
 refine Gen.walk (l:=PySem.Challenge.rw_everguard_k20_steps_are_runs) rfl rfl (λw h Y=>W.kIn_of Y) ?F
 case F=>
  intro w mg fa h KX G Ed
  refine' Gen.all_mk KX G Ed ?aC ?aC2 ?a0 ?i0 ?l0 ?c0 ?k0 ?a100 ?i100 ?l100 ?c100 ?k100 ?a101 ?i101 ?l101 ?c101 ?k101 ?a102 ?i102 ?l102 ?c102 ?k102 ?a103 ?i103 ?l103 ?c103 ?k103 ?a104 ?i104 ?l104 ?c104 ?k104 ?a105 ?i105 ?l105 ?c105 ?k105 ?a106 ?i106 ?l106 ?c106 ?k106 ?a107 ?i107 ?l107 ?c107 ?k107 ?a108 ?i108 ?l108 ?c108 ?k108 ?a2 ?l2 ?c2 ?k2 ?a3 ?l3 ?c3 ?k3 ?a5 ?l5 ?c5 ?k5 ?a6 ?l6 ?c6 ?k6 ?a10 ?l10 ?c10 ?k10 ?a11 ?l11 ?c11 ?k11 ?a12 ?l12 ?c12 ?k12 ?a13 ?l13 ?c13 ?k13 ?a14 ?l14 ?c14 ?k14 ?a15 ?l15 ?c15 ?k15 ?a16 ?l16 ?c16 ?k16 ?a17 ?l17 ?c17 ?k17 ?a18 ?l18 ?c18 ?k18 ?a19 ?l19 ?c19 ?k19 ?a20 ?l20 ?c20 ?k20 ?a21 ?l21 ?c21 ?k21 ?a22 ?l22 ?c22 ?k22 ?a23 ?l23 ?c23 ?k23 ?a24 ?l24 ?c24 ?k24 ?a25 ?l25 ?c25 ?k25 ?a26 ?l26 ?c26 ?k26 ?a27 ?l27 ?c27 ?k27 ?a28 ?l28 ?c28 ?k28 ?a29 ?l29 ?c29 ?k29 ?a31 ?l31 ?c31 ?k31 ?a32 ?l32 ?c32 ?k32 ?a33 ?l33 ?c33 ?k33 ?pg ?hd ?po ?sa ?mk ?kc ?pg2 ?hd2 ?po2 ?sa2 ?mk2 ?kc2 ?n1 ?n2 ?n3 ?n4 ?n5 ?n6 ?r1 ?r2 ?r3 ?r4 ?r5 ?r6 ?z0 ?z1 ?z2 ?z3 ?z4 ?z5 ?z6 ?z7 ?z8 ?z9 ?z10 ?z11 ?z12 ?z13 ?z14 ?z15
  (case aC=>k_is); (case aC2=>k_is); (case a0=>k_is); (case i0=>k_is); (case l0=>k_is); (case c0=>k_is)
  (case k0=>k_is); (case a100=>k_is); (case i100=>k_is); (case l100=>k_is); (case c100=>k_is); (case k100=>k_is)
  (case a101=>k_is); (case i101=>k_is); (case l101=>k_is); (case c101=>k_is); (case k101=>k_is); (case a102=>k_is)
  (case i102=>k_is); (case l102=>k_is); (case c102=>k_is); (case k102=>k_is); (case a103=>k_is); (case i103=>k_is)
  (case l103=>k_is); (case c103=>k_is); (case k103=>k_is); (case a104=>k_is); (case i104=>k_is); (case l104=>k_is)
  (case c104=>k_is); (case k104=>k_is); (case a105=>k_is); (case i105=>k_is); (case l105=>k_is); (case c105=>k_is)
  (case k105=>k_is); (case a106=>k_is); (case i106=>k_is); (case l106=>k_is); (case c106=>k_is); (case k106=>k_is)
  (case a107=>k_is); (case i107=>k_is); (case l107=>k_is); (case c107=>k_is); (case k107=>k_is); (case a108=>k_is)
  (case i108=>k_is); (case l108=>k_is); (case c108=>k_is); (case k108=>k_is); (case a2=>k_is); (case l2=>k_is)
  (case c2=>k_is); (case k2=>k_is); (case a3=>k_is); (case l3=>k_is); (case c3=>k_is); (case k3=>k_is)
  (case a5=>k_is); (case l5=>k_is); (case c5=>k_is); (case k5=>k_is); (case a6=>k_is); (case l6=>k_is)
  (case c6=>k_is); (case k6=>k_is); (case a10=>k_is); (case l10=>k_is); (case c10=>k_is); (case k10=>k_is)
  (case a11=>k_is); (case l11=>k_is); (case c11=>k_is); (case k11=>k_is); (case a12=>k_is); (case l12=>k_is)
  (case c12=>k_is); (case k12=>k_is); (case a13=>k_is); (case l13=>k_is); (case c13=>k_is); (case k13=>k_is)
  (case a14=>k_is); (case l14=>k_is); (case c14=>k_is); (case k14=>k_is); (case a15=>k_is); (case l15=>k_is)
  (case c15=>k_is); (case k15=>k_is); (case a16=>k_is); (case l16=>k_is); (case c16=>k_is); (case k16=>k_is)
  (case a17=>k_is); (case l17=>k_is); (case c17=>k_is); (case k17=>k_is); (case a18=>k_is); (case l18=>k_is)
  (case c18=>k_is); (case k18=>k_is); (case a19=>k_is); (case l19=>k_is); (case c19=>k_is); (case k19=>k_is)
  (case a20=>k_is); (case l20=>k_is); (case c20=>k_is); (case k20=>k_is); (case a21=>k_is); (case l21=>k_is)
  (case c21=>k_is); (case k21=>k_is); (case a22=>k_is); (case l22=>k_is); (case c22=>k_is); (case k22=>k_is)
  (case a23=>k_is); (case l23=>k_is); (case c23=>k_is); (case k23=>k_is); (case a24=>k_is); (case l24=>k_is)
  (case c24=>k_is); (case k24=>k_is); (case a25=>k_is); (case l25=>k_is); (case c25=>k_is); (case k25=>k_is)
  (case a26=>k_is); (case l26=>k_is); (case c26=>k_is); (case k26=>k_is); (case a27=>k_is); (case l27=>k_is)
  (case c27=>k_is); (case k27=>k_is); (case a28=>k_is); (case l28=>k_is); (case c28=>k_is); (case k28=>k_is)
  (case a29=>k_is); (case l29=>k_is); (case c29=>k_is); (case k29=>k_is); (case a31=>k_is); (case l31=>k_is)
  (case c31=>k_is); (case k31=>k_is); (case a32=>k_is); (case l32=>k_is); (case c32=>k_is); (case k32=>k_is)
  (case a33=>k_is); (case l33=>k_is); (case c33=>k_is); (case k33=>k_is); (case pg=>k_is); (case hd=>k_is)
  (case po=>k_is); (case sa=>k_is); (case mk=>k_is); (case kc=>k_is); (case pg2=>k_is); (case hd2=>k_is)
  (case po2=>k_is); (case sa2=>k_is); (case mk2=>k_is); (case kc2=>k_is); (case n1=>k_is); (case n2=>k_is)
  (case n3=>k_is); (case n4=>k_is); (case n5=>k_is); (case n6=>k_is); (case r1=>k_is); (case r2=>k_is)
  (case r3=>k_is); (case r4=>k_is); (case r5=>k_is); (case r6=>k_is); (case z0=>k_is); (case z1=>k_is)
  (case z2=>k_is); (case z3=>k_is); (case z4=>k_is); (case z5=>k_is); (case z6=>k_is); (case z7=>k_is)
  (case z8=>k_is); (case z9=>k_is); (case z10=>k_is); (case z11=>k_is); (case z12=>k_is); (case z13=>k_is)
  (case z14=>k_is); (case z15=>k_is)
#print axioms PySem.Challenge.cw_everguard_k20_steps_are_runs_holds
