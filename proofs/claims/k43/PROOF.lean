import PyProof.Rows.All
import Wide.All
import OpenK.AllK
import Wide.FinOn
import Lean
import PyProof.EqAt
import PyProof.EqKinds
import PyProof.TupleCall
import PyProof.StrBlockL
import PyProof.IsiH_list
import PyProof.AttrMiss
import PyProof.ConsumeWalk
import PyProof.TupleIter
import KE.KDictOf
import PyProof.DictWalks
import KE.KDictList
import PyProof.NeKinds
import PyProof.ZipIter
import PyProof.StrLawsOcc
import Wide.Txt
import KE.KIntText
import PyProof.DictValues
import PyProof.StrOps2
import PyProof.StrCalls6
import PyProof.StrCalls5
import PyProof.DictItems
import PyProof.Rows.FStr
import PyProof.Rows.SortRuns
import KE.KSortTup
import PyProof.NeData
import PyProof.P3Eq
import PyProof.Rows.Chain
import PyProof.Rows.RuleIs
import PyProof.DictRoadsH
import PyProof.TupleKey
import Wide.Seal
import PyProof.MaxThree
import KE.KRevIter
import PyProof.ListNew
import PyProof.Rows.FactsT2
import PySem.Challenge.RW_everguard_k43_trees_of_literals
set_option Elab.async false
set_option linter.all false
set_option maxRecDepth 100000
namespace L2
open PySem PySem.Spec PyProof.Rows
abbrev Key:=Sum Int Str
def iO:Key->Value->Bool
 | .inl k,v=>Value.isInt k v
 | .inr x,v=>Value.isStrOf x v
def UD (w:World):Key->Int
 | .inl k=>hashInt k
 | .inr x=>hashStr w x
theorem dm:∀{k:Key}{v:Value},iO k v=true->(∃i t,k=Sum.inl i/\v=Value.int i t)\/(∃x t,k=Sum.inr x/\v=Value.str x t)
 | .inl i,v,h=>by
  obtain ⟨t,e⟩:=Value.isInt_shape (k:=i) (v:=v) h
  exact .inl ⟨i,t,rfl,e⟩
 | .inr x,v,h=>by
  obtain ⟨t,e⟩:=Value.isStrOf_shape (x:=x) (v:=v) h
  exact .inr ⟨x,t,rfl,e⟩
theorem C2 (i:Int) (t:Tok):iO (.inl i) (.int i t)=true:=by simp [iO,Value.isInt]
theorem C3 (x:Str) (t:Tok):iO (.inr x) (.str x t)=true:=by simp [iO,Value.isStrOf]
theorem Kl (a b:Int):decide ((Sum.inl a:Key)=Sum.inl b)=(a == b):=by
 by_cases e:a=b
 . subst e; simp
 . have h:¬ (Sum.inl a:Key)=Sum.inl b:=λq=>e (Sum.inl.inj q)
   rw [decide_eq_false h]
   exact (beq_eq_false_iff_ne.mpr e).symm
theorem Km (a b:Str):decide ((Sum.inr a:Key)=Sum.inr b)=decide (a=b):=by
 by_cases e:a=b
 . subst e; simp
 . have h:¬ (Sum.inr a:Key)=Sum.inr b:=λq=>e (Sum.inr.inj q)
   rw [decide_eq_false h,decide_eq_false e]
theorem Kn (a:Int) (b:Str):decide ((Sum.inl a:Key)=Sum.inr b)=false:=decide_eq_false (λq=>nomatch q)
theorem Ko (a:Str) (b:Int):decide ((Sum.inr a:Key)=Sum.inl b)=false:=decide_eq_false (λq=>nomatch q)
def bx (prog:Program) (w:World):PySem.KeyKind prog w Key where
 is:=iO
 hash:=UD w
 inj:=λv a b ha hb=>by
  rcases dm ha with ⟨i,t,rfl,rfl⟩ | ⟨x,t,rfl,rfl⟩
  . rcases dm hb with ⟨j,u,rfl,e⟩ | ⟨y,u,rfl,e⟩
    . injection e with e1 _; rw [e1]
    . exact nomatch e
  . rcases dm hb with ⟨j,u,rfl,e⟩ | ⟨y,u,rfl,e⟩
    . exact nomatch e
    . injection e with e1 _; rw [e1]
 byValue:=λk v h=>by
  rcases dm h with ⟨i,t,rfl,rfl⟩ | ⟨x,t,rfl,rfl⟩ <;> rfl
 pyHash:=λhv h=>by
  rcases dm hv with ⟨i,t,rfl,rfl⟩ | ⟨x,t,rfl,rfl⟩
  . exact wpAny_pyHash_int h
  . exact wpAny_pyHash_str h
 eqBool:=λhu hv h=>by
  rcases dm hu with ⟨i,t,rfl,rfl⟩ | ⟨x,t,rfl,rfl⟩
  . rcases dm hv with ⟨j,u,rfl,rfl⟩ | ⟨y,u,rfl,rfl⟩
    . rw [Kl] at h; exact wpAny_eqBool_int h
    . rw [Kn] at h; exact SeqAt.EqAt.int_str i t y u _ _ _ _ h
  . rcases dm hv with ⟨j,u,rfl,rfl⟩ | ⟨y,u,rfl,rfl⟩
    . rw [Ko] at h; exact SeqAt.EqAt.str_int x t j u _ _ _ _ h
    . rw [Km] at h; exact wpAny_eqBool_str h
 «strs»:=λk x t v h=>by
  rcases dm h with ⟨i,u,rfl,e⟩ | ⟨y,u,rfl,e⟩
  . exact nomatch e
  . injection e with e1 _
    subst e1
    cases v <;> rfl
theorem BD (prog:Program) (w:World) (k:Key) (v:Value):(bx prog w).is k v=iO k v:=rfl
theorem zH (prog:Program) (w:World) (i:Int) (t:Tok):(bx prog w).is (.inl i) (.int i t)=true:=C2 i t
theorem zI (prog:Program) (w:World) (x:Str) (t:Tok):(bx prog w).is (.inr x) (.str x t)=true:=C3 x t
end L2
namespace L2
open PySem PySem.Spec PyProof.Rows
inductive V where
 | aQ | bl (b:Bool) | int (i:Int) | str (x:Str) | l9 (b:Array UInt8) | vn (b:UInt64) | ref (a:Addr) | ty (n:String)
 deriving DecidableEq
def RelV:V->Value->Prop
 | .aQ,u=>u=Value.none
 | .bl b,u=>u=Value.bool b
 | .int i,u=>∃t,u=Value.int i t
 | .str x,u=>∃t,u=Value.str x t
 | .l9 b,u=>∃t,u=Value.bytes b t
 | .vn b,u=>∃t,u=Value.float b t
 | .ref a,u=>u=Value.ref a
 | .ty n,u=>u=Value.type n
abbrev Vals:List V->List Value->Prop:=Paired RelV
theorem Vals.length {xs:List V}{us:List Value}(r:Vals xs us):xs.length=us.length:=Paired.length r
theorem Vals.get:∀{xs:List V}{us:List Value}{i:Nat}{x:V},Vals xs us->xs[i]?=some x->∃u,us[i]?=some u/\RelV x u
 | _,_,_,_,.nil,e=>by simp at e
 | _,_,0,_,.cons r _,e=>by simp at e; subst e; exact ⟨_,rfl,r⟩
 | _,_,i+1,x,.cons _ t,e=>by
  obtain ⟨u,h1,h2⟩:=Vals.get (i:=i) (x:=x) t (by simpa using e)
  exact ⟨u,by simpa using h1,h2⟩
theorem Vals.set {x:V}{u:Value}(r:RelV x u):∀{xs:List V}{us:List Value}(i:Nat),Vals xs us->Vals (xs.set i x) (us.set i u)
 | _,_,_,.nil=>.nil
 | _,_,0,.cons _ t=>.cons r t
 | _,_,i+1,.cons q t=>.cons q (Vals.set r i t)
theorem Vals.append:∀{xs ys:List V}{us ws:List Value},Vals xs us->Vals ys ws->Vals (xs++ys) (us++ws)
 | _,_,_,_,.nil,s=>s
 | _,_,_,_,.cons r t,s=>.cons r (Vals.append t s)
theorem Vals.take:∀{xs:List V}{us:List Value}(n:Nat),Vals xs us->Vals (xs.take n) (us.take n)
 | _,_,0,_=>.nil
 | _,_,_+1,.nil=>.nil
 | _,_,n+1,.cons r t=>.cons r (Vals.take n t)
theorem Vals.drop:∀{xs:List V}{us:List Value}(n:Nat),Vals xs us->Vals (xs.drop n) (us.drop n)
 | _,_,0,r=>r
 | _,_,_+1,.nil=>.nil
 | _,_,n+1,.cons _ t=>Vals.drop n t
def gd:Option V->Option Value->Prop
 | some v,some u=>RelV v u
 | none,none=>True
 | _,_=>False
def KV {κ:Type} : List (κ×V)->List (κ×Value)->Prop:=Paired λ(p:κ×V) (q:κ×Value)=>p.1=q.1/\RelV p.2 q.2
def kV:Key->V
 | .inl i=>.int i
 | .inr x=>.str x
inductive HO where
 /-- a list -/
 | lst (xs:List V)
 /-- a tuple (never changes) -/
 | tup (xs:List V)
 /-- a dict whose keys are ints and texts; one whose keys are tuples of ints and texts (the empty one is both) -/
 | dK (kvs:List (Key×V)) | dT (kvs:List (List Key×V))
 /-- a set of ints: its members,its size -/
 | set (S:Int->Bool) (n:Nat)
 /-- an instance of the class at C,its dict at dx,its attributes -/
 | ins (C dx:Addr) (fs:List (Str×V))
 /-- the dict of the instance at x -/
 | own (x:Addr)
 /-- the dict of an exception -/
 | xd (fs:List (Str×V))
 /-- a bound method,f of x -/
 | met (f x:Addr)
 /-- a range object lo,lo+1,.. below hi -/
 | Kq (lo hi:Int)
 /-- a thing that is known to the object (the script; a dict while a loop walks it): read,never written while it is so -/
 | lH (o:Obj) (u:HO)
 /-- a code object's table -/
 | wU (ps:Array Value)
 /-- any other thing,by what is true of its one object (a def of one's own: SetO a S n:=HO.ext λh=>..) -/
 | ext (φ:Heap->Prop)
abbrev Hp:=Addr->Option HO
def upd (H:Hp) (a:Addr) (o:HO):Hp:=λb=>if b=a then some o else H b
theorem af {H:Hp}{a:Addr}{o:HO} : upd H a o a=some o:=by unfold upd; rw [if_pos rfl]
theorem ag {H:Hp}{a b:Addr}{o:HO}(h:b≠a):upd H a o b=H b:=by unfold upd; rw [if_neg h]
theorem eV {H:Hp}{a:Addr}{o u:HO} : upd (upd H a o) a u=upd H a u:=by
 funext b; unfold upd; split <;> rfl
theorem a9 {H:Hp}{a b:Addr}{o u:HO}(h:H a=some o) (h':H b=some u) (d:o≠u):a≠b:=by
 intro e; subst e; rw [h] at h'; exact d (Option.some.inj h')
theorem ae {H:Hp}{a b:Addr}{o:HO}(h:H a=some o) (h':H b=none):a≠b:=by
 intro e; subst e; rw [h] at h'; cases h'
section
variable (P:Program) (w:World)
def bJ (H:Hp) (h:Heap) (a:Addr):HO->Prop
 | .lst xs=>xs.length<=sizeLine/\∃(its:List Value) (n:Nat),Vals xs its/\h.get? a=some { cls:=.type "list",data:=.seq its.toArray n }
 | .tup xs=>xs.length<=sizeLine/\∃its:List Value,Vals xs its/\IsTup h a its.toArray
 | .dK kvs=>kvs.length<=sizeLine/\(a == sysModules)=false/\∃vs,KV kvs vs/\h.DictOf (bx P w) a vs
 | .dT kvs=>kvs.length<=sizeLine/\(a == sysModules)=false/\∃xs:List (List Key×Addr×Value),
  Paired (λ(p:List Key×V) (q:List Key×Addr×Value)=>p.1=q.1/\H q.2.1=some (.tup (p.1.map kV))/\RelV p.2 q.2.2) kvs xs/\
  ∃o es ep,h.get? a=some o/\o.ExactDict/\o.data=.dict es ep/\es.toList=xs.map (entryOfKey (tupleKind (bx P w)))/\(xs.map (·.1)).Nodup
 | .set S n=>h.SetOf (intKind P w) a S n
 | .ins C dx fs=>H dx=some (.own a)/\fs.length<=1000/\dx≠a/\h.get? a=some (W.instObj C dx)/\
  ∃mA,h.Ns1 dx mA/\(∀f,gd (fs.lookup f) (mA f))/\PySem.Within mA (fs.map (·.1))
 | .own _=>∃o,h.get? a=some o
 | .xd fs=>∃mA,h.Ns1 a mA/\∀f,gd (fs.lookup f) (mA f)
 | .Kq lo hi=>∃t u v,h.get? a=some { cls:=.type "range",data:=.fields #[.int lo t,.int hi u,.int 1 v] }
 | .lH o u=>h.get? a=some o/\bJ H h a u
 | .wU ps=>h.get? a=some { cls:=.none,data:=.fields ps }
 | .met f x=>h.get? a=some (W.methodObj (.ref f) (.ref x))
 | .ext φ=>φ h/\(∃o,h.get? a=some o)/\∀h1 h2:Heap,φ h1->(∀o,h1.get? a=some o->h2.get? a=some o)->φ h2
def d9 (H:Hp) (h:Heap):Prop:=∀a o,H a=some o->bJ P w H h a o
end
section
variable {P:Program}{w:World}{H H':Hp}{h h':Heap}{a:Addr}{o:HO}
theorem bJ.lt (x:bJ P w H h a o):a<h.objs.size:=by
 cases o with
 | lst xs=>obtain ⟨_,_,_,_,e⟩:=x; exact Heap.lt_size e
 | tup xs=>obtain ⟨_,_,_,p⟩:=x; exact p.lt
 | dK kvs=>obtain ⟨_,_,_,_,o,_,_,e,_⟩:=x; exact Heap.lt_size e
 | dT kvs=>obtain ⟨_,_,_,_,o,_,_,e,_⟩:=x; exact Heap.lt_size e
 | set S n=>obtain ⟨o,_,_,_,e,_⟩:=x; exact Heap.lt_size e
 | ins C dx fs=>obtain ⟨_,_,_,e,_⟩:=x; exact Heap.lt_size e
 | own y=>obtain ⟨_,e⟩:=x; exact Heap.lt_size e
 | xd fs=>obtain ⟨_,⟨_,_,_,e,_⟩,_⟩:=x; exact Heap.lt_size e
 | Kq lo hi=>obtain ⟨_,_,_,e⟩:=x; exact Heap.lt_size e
 | lH ob u=>obtain ⟨e,_⟩:=x; exact Heap.lt_size e
 | wU ps=>exact Heap.lt_size (show h.get? a=some _ from x)
 | met f y=>exact Heap.lt_size (show h.get? a=some _ from x)
 | ext φ=>obtain ⟨_,⟨_,e⟩,_⟩:=x; exact Heap.lt_size e
theorem Paired.cb {α β:Type}{F G:α->β->Prop} : ∀{l₁:List α}{l₂:List β},Paired F l₁ l₂->(∀a b,F a b->G a b)->Paired G l₁ l₂
 | _,_,.nil,_=>.nil
 | _,_,.cons r t,f=>.cons (f _ _ r) (Paired.cb t f)
theorem bJ.jQ (x:bJ P w H h a o) (k:∀b u,(b=a\/H b=some (.own a))->h.get? b=some u->h'.get? b=some u)
 (ho:∀b,H b=some (.own a)->H' b=some (.own a)) (ht:∀b xs,H b=some (.tup xs)->H' b=some (.tup xs)):bJ P w H' h' a o:=by
 induction o with
 | lst xs=>obtain ⟨z,its,n,r,e⟩:=x; exact ⟨z,its,n,r,k _ _ (.inl rfl) e⟩
 | tup xs=>obtain ⟨z,its,r,ob,e,c⟩:=x; exact ⟨z,its,r,ob,k _ _ (.inl rfl) e,c⟩
 | dK kvs=>obtain ⟨z,y,vs,r,ob,es,ep,e,c⟩:=x; exact ⟨z,y,vs,r,ob,es,ep,k _ _ (.inl rfl) e,c⟩
 | dT kvs=>
  obtain ⟨z,y,xs,r,ob,es,ep,e,c⟩:=x
  exact ⟨z,y,xs,Paired.cb r λp q z=>⟨z.1,ht _ _ z.2.1,z.2.2⟩,ob,es,ep,k _ _ (.inl rfl) e,c⟩
 | set S n=>obtain ⟨ob,es,ep,t,e,c⟩:=x; exact ⟨ob,es,ep,t,k _ _ (.inl rfl) e,c⟩
 | ins C dx fs=>
  obtain ⟨d,z,ne,e,mA,⟨od,es,ep,e2,c⟩,r⟩:=x
  exact ⟨ho _ d,z,ne,k _ _ (.inl rfl) e,mA,⟨od,es,ep,k _ _ (.inr d) e2,c⟩,r⟩
 | own y=>obtain ⟨ob,e⟩:=x; exact ⟨ob,k _ _ (.inl rfl) e⟩
 | xd fs=>obtain ⟨mA,⟨od,es,ep,e,c⟩,r⟩:=x; exact ⟨mA,⟨od,es,ep,k _ _ (.inl rfl) e,c⟩,r⟩
 | Kq lo hi=>obtain ⟨t,u,v,e⟩:=x; exact ⟨t,u,v,k _ _ (.inl rfl) e⟩
 | lH ob u ih=>obtain ⟨e,q⟩:=x; exact ⟨k _ _ (.inl rfl) e,ih q⟩
 | wU ps=>
  have e:h.get? a=some { cls:=.none,data:=.fields ps }:=x
  show h'.get? a=some { cls:=.none,data:=.fields ps }
  exact k a _ (.inl rfl) e
 | met f y=>
  have e:h.get? a=some (W.methodObj (.ref f) (.ref y)):=x
  show h'.get? a=some (W.methodObj (.ref f) (.ref y))
  exact k a _ (.inl rfl) e
 | ext φ=>obtain ⟨p,⟨o,e⟩,st⟩:=x; exact ⟨st _ _ p λo q=>k _ _ (.inl rfl) q,⟨o,k _ _ (.inl rfl) e⟩,st⟩
theorem d9.lt (x:d9 P w H h) (e:H a=some o):a<h.objs.size:=(x a o e).lt
theorem d9.fresh (x:d9 P w H h) (e:h.objs.size<=a):H a=none:=by
 cases q:H a with
 | none=>rfl
 | some u=>exact absurd (Nat.lt_of_lt_of_le (x.lt q) e) (Nat.lt_irrefl _)
theorem d9.kept (x:d9 P w H h) (k:∀b u,h.get? b=some u->h'.get? b=some u):d9 P w H h':=λa o e=>
 (x a o e).jQ (λb u _ q=>k b u q) (λ_ q=>q) λ_ _ q=>q
theorem d9.laid (x:d9 P w H h) (k:∀b u,h.get? b=some u->h'.get? b=some u) (hp:h.objs.size<=a) (new:bJ P w (upd H a o) h' a o):d9 P w (upd H a o) h':=λb u e=>by
 have hn:=x.fresh hp
 by_cases hb:b=a
 . subst hb; rw [af] at e; cases e; exact new
 . rw [ag hb] at e
   exact (x b u e).jQ (λc v _ q=>k c v q) (λc q=>by rw [ag (ae q hn)]; exact q) λc xs q=>by rw [ag (ae q hn)]; exact q
end
def Rd (H:Hp) (a:Addr) (u:HO):Prop:=H a=some u\/∃o,H a=some (.lH o u)
theorem Rd.of {H:Hp}{a:Addr}{u:HO}(h:H a=some u):Rd H a u:=.inl h
theorem Rd.ok {P:Program}{w:World}{H:Hp}{h:Heap}{a:Addr}{u:HO}(r:Rd H a u) (x:d9 P w H h):bJ P w H h a u:=by
 rcases r with r | ⟨o,r⟩
 . exact x a u r
 . obtain ⟨_,q⟩:=x a _ r
   exact q
def C4:Option HO->Prop
 | some (.lst _)=>True
 | some (.dK _)=>True
 | some (.dT _)=>True
 | some (.set _ _)=>True
 | some (.ins _ _ _)=>True
 | some (.ext _)=>True
 | _=>False
section
variable {P:Program}{w:World}{H:Hp}{h h':Heap}{x e:Addr}{o':HO}
theorem d9.write (ok:d9 P w H h) (mu:C4 (H x)) (he:e=x\/H e=some (.own x)) (k:∀b u,b≠e->h.get? b=some u->h'.get? b=some u) (zS:∃u,h'.get? e=some u)
 (new:bJ P w (upd H x o') h' x o'):d9 P w (upd H x o') h':=λb u q=>by
 have BE:∀c y,H c=some (.own y)->c≠x:=λc y r z=>by subst z; rw [r] at mu; exact mu
 have UE:∀c xs,H c=some (.tup xs)->c≠x:=λc xs r z=>by subst z; rw [r] at mu; exact mu
 by_cases hb:b=x
 . subst hb; rw [af] at q; cases q; exact new
 . rw [ag hb] at q
   by_cases me:b=e
   . have q':H b=some (.own x):=by
      rcases he with z | z
      . exact absurd (me.trans z) hb
      . rw [me]; exact z
     rw [q] at q'; cases q'
     obtain ⟨v,hv⟩:=zS
     exact ⟨v,by rw [me]; exact hv⟩
   . refine (ok b u q).jQ (λc v hc r=>k c v ?_ r) (λc r=>by rw [ag (BE c b r)]; exact r) λc xs r=>by rw [ag (UE c xs r)]; exact r
     rcases hc with rfl | hc
     . exact me
     . rintro rfl
       rcases he with z | z
       . exact BE c b hc z
       . rw [hc] at z; cases z; exact hb rfl
end
structure Un (fs ex:List Addr) (H H':Hp) (h h':Heap):Prop where
 keep:∀b o,h.get? b=some o->H b=none->b∉fs->b∉ex->h'.get? b=some o
 slot:∀b o,h.get? b=some o->H b=none->b∈fs->b∉ex->∃sl,h'.get? b=some { o with slots:=sl }
 free:∀b o,h.get? b=some o->H b=none->b∉ex->H' b=none
 there:∀b o,h.get? b=some o->b∉ex->∃o',h'.get? b=some o'
 ir:∀b xs,H b=some (.tup xs)->H' b=some (.tup xs)
 frzs:∀b o u,H b=some (.lH o u)->H' b=some (.lH o u)
 tbls:∀b ps,H b=some (.wU ps)->∃more,H' b=some (.wU (ps++more))
section
variable {fs fs' ex ex':List Addr}{H H1 H2:Hp}{h h1 h2 h':Heap}{a x e:Addr}{o:HO}
theorem Un.any (u:Un fs ex H H1 h h1){b:Addr}{ob:Obj}(q:h.get? b=some ob) (n:H b=none) (hx:b∉ex):∃sl,h1.get? b=some { ob with slots:=sl }:=by
 by_cases hb:b∈fs
 . exact u.slot b ob q n hb hx
 . exact ⟨ob.slots,u.keep b ob q n hb hx⟩
theorem Un.trans (a:Un fs ex H H1 h h1) (b:Un fs ex H1 H2 h1 h2):Un fs ex H H2 h h2 where
 keep:=λc ob q n hc hx=>b.keep c ob (a.keep c ob q n hc hx) (a.free c ob q n hx) hc hx
 slot:=λc ob q n hc hx=>by
  obtain ⟨sl,e1⟩:=a.slot c ob q n hc hx
  obtain ⟨Kr,e2⟩:=b.slot c _ e1 (a.free c ob q n hx) hc hx
  exact ⟨Kr,e2⟩
 free:=λc ob q n hx=>by
  obtain ⟨o',e1⟩:=a.there c ob q hx
  exact b.free c o' e1 (a.free c ob q n hx) hx
 there:=λc ob q hx=>by
  obtain ⟨o',e1⟩:=a.there c ob q hx
  exact b.there c o' e1 hx
 ir:=λc xs q=>b.ir c xs (a.ir c xs q)
 frzs:=λc ob xs q=>b.frzs c ob xs (a.frzs c ob xs q)
 tbls:=λc ps q=>by
  obtain ⟨m1,e1⟩:=a.tbls c ps q
  obtain ⟨m2,e2⟩:=b.tbls c _ e1
  exact ⟨m1++m2,by rw [e2,Array.append_assoc]⟩
theorem Un.kept (k:∀b u,h.get? b=some u->h'.get? b=some u):Un fs ex H H h h':=
 ⟨λb ob q _ _ _=>k b ob q,λb ob q _ _ _=>⟨ob.slots,k b ob q⟩,λ_ _ _ n _=>n,λb ob q _=>⟨ob,k b ob q⟩,λ_ _ q=>q,λ_ _ _ q=>q,λ_ ps q=>⟨#[],by rw [q]; simp⟩⟩
theorem Un.refl:Un fs ex H H h h:=Un.kept λ_ _ q=>q
theorem Un.laid (k:∀b u,h.get? b=some u->h'.get? b=some u) (hp:h.objs.size<=a) (hn:H a=none):Un fs ex H (upd H a o) h h' where
 keep:=λb u q _ _ _=>k b u q
 slot:=λb u q _ _ _=>⟨u.slots,k b u q⟩
 free:=λb u q n _=>by rw [ag (Nat.ne_of_lt (Nat.lt_of_lt_of_le (Heap.lt_size q) hp))]; exact n
 there:=λb u q _=>⟨u,k b u q⟩
 ir:=λb xs q=>by rw [ag (ae q hn)]; exact q
 frzs:=λb u xs q=>by rw [ag (ae q hn)]; exact q
 tbls:=λb ps q=>⟨#[],by rw [ag (ae q hn),q]; simp⟩
theorem Un.write (mu:C4 (H x)) (he:e=x\/H e=some (.own x)) (k:∀b u,b≠e->h.get? b=some u->h'.get? b=some u) (zS:∃u,h'.get? e=some u):Un fs ex H (upd H x o) h h':=by
 have hx:∀b,H b=none->b≠x:=λb n z=>by subst z; rw [n] at mu; exact mu
 have hb:∀b,H b=none->b≠e:=λb n z=>by
  subst z
  rcases he with r | r
  . exact hx b n r
  . rw [n] at r; cases r
 have hm:∀b u,H b=some u->¬ C4 (some u)->b≠x:=λb u q nm z=>by subst z; rw [q] at mu; exact nm mu
 refine ⟨λb u q n _ _=>k b u (hb b n) q,λb u q n _ _=>⟨u.slots,k b u (hb b n) q⟩,λb u q n _=>by rw [ag (hx b n)]; exact n,λb u q _=>?_,
  λb xs q=>by rw [ag (hm b _ q λz=>z)]; exact q,λb u xs q=>by rw [ag (hm b _ q λz=>z)]; exact q,λb ps q=>⟨#[],by rw [ag (hm b _ q λz=>z),q]; simp⟩⟩
 by_cases me:b=e
 . subst me; exact zS
 . exact ⟨u,k b u me q⟩
end
def G5 (h:Heap) (H:Hp):List Addr:=(List.range h.objs.size).filter λa=>(H a).isSome
def nA (h:Heap) (H:Hp):Heap:=W.hideAll h (G5 h H)
theorem C5 (h:Heap) (H:Hp):(nA h H).objs.size=h.objs.size:=W.hideAll_size _ _
theorem Fs {h:Heap}{H:Hp}{b:Addr}{o:Obj}(e:h.get? b=some o) (n:H b=none):(nA h H).get? b=some o:=
 W.hideAll_get _ e λhm=>by
  have q:(H b).isSome=true:=(List.mem_filter.mp hm).2
  rw [n] at q; simp at q
theorem Jm {h:Heap}{H:Hp}{b:Addr}{o:Obj}(e:(nA h H).get? b=some o):h.get? b=some o/\H b=none:=by
 have e':h.get? b=some o:=W.of_hideAll (G5 h H) e
 refine ⟨e',?_⟩
 cases q:H b with
 | none=>rfl
 | some x=>
  have hm:b∈G5 h H:=List.mem_filter.mpr ⟨List.mem_range.mpr (Heap.lt_size e'),by simp [q]⟩
  have z:(nA h H).get? b=none:=W.hideAll_none (G5 h H) hm
  rw [z] at e; cases e
def Jn (g h:Heap) (L:Addr):List (Addr×Obj):=(List.range h.objs.size).filterMap λa=>if a=L\/(g.get? a).isSome=true then none else (h.get? a).map λo=>(a,o)
def rest (g h:Heap) (L d:Addr):List (Addr×Obj):=(Jn g h L).filter λp=>decide (p.1≠d)
end L2
namespace L2
open PySem PySem.Spec PyProof.Rows
structure Mod (K:W.Frag) (mg:Str->Option Value) (base:Heap):Prop where
 kin:K.In base
 glob:base.Ns mainGlobals mg
 blt:∃mb,base.Ns builtinsNs mb/\∀x:Str,x ≠ "__name__" -> mb x=bootBuiltins x
 nolimit:base.NoLimit
structure Cx where
 prog:Program
 w:World
 K:W.Frag
 mg:Str->Option Value
 base:Heap
 A:Around
 N:List Str
 jR:Shared
 Ks:Hp
 env:Env
 outer:List Env
 stack:List Env
 ex:List Addr
 fn:Str->Bool
 calm:Bool
 pn:List (Addr×Obj)
 xe:Value->Shared->Prop
def oq (l:List Env):List Addr:=l.filterMap (·.frame)
abbrev Cx.fs (X:Cx):List Addr:=oq X.outer
def Kt (sc:Scope) (x:Str):Prop:=sc.names.lookup x=some .local\/sc.names.lookup x=some .cell\/sc.names.lookup x=some .free
def Loc (sc:Scope) (x:Str):Prop:=sc.names.lookup x=some .local\/sc.names.lookup x=some .cell
def Look (env:Env) (h:Heap) (m:Str->Option Value) (x:Str) (u:Value):Prop:=
 (env.kindOf x=some .local/\m x=some u)\/((env.kindOf x=some .cell\/env.kindOf x=some .free)/\∃c,env.cells.lookup x=some c/\h.IsCell c (some u))
structure Cx.Ok (X:Cx):Prop where
 mod:Mod X.K X.mg X.base
 kind:X.env.scope.kind=.function
 glob:X.env.globals=mainGlobals
 blt:X.env.builtins=builtinsNs
 above:X.jR.heap.objs.size<=X.env.locals
 inj:∀x y c,X.env.cells.lookup x=some c->X.env.cells.lookup y=some c->x=y
 has:∀x,(X.env.kindOf x=some .cell\/X.env.kindOf x=some .free)->∃c,X.env.cells.lookup x=some c
 cab:∀x c,X.fn x=true->X.env.cells.lookup x=some c->X.jR.heap.objs.size<=c
 hd:X.calm=true->X.A.handled=none
 frames:X.A.frames=some X.stack
 stk:X.stack=X.outer\/(X.stack=X.env::X.outer/\X.env.frame=some X.env.locals)
 exf:∀b∈X.ex,b≠X.env.locals/\∀x c,X.env.cells.lookup x=some c->c≠b
 bs:∀b o,X.base.get? b=some o->X.jR.heap.get? b=some o/\X.Ks b=none
 bsz:X.base.objs.size<=X.jR.heap.objs.size
 noex:∀b o,X.base.get? b=some o->b∉X.ex
 exfs:∀b∈X.ex,b∉X.fs
 ja:X.jR.heap.FunFrames X.base X.outer
 frf:∀b∈X.fs,X.Ks b=none
structure Inv (X:Cx) (pins:List (Addr×Obj)) (σ:List (Option V)) (H:Hp) (s:Shared):Prop where
 ok:X.Ok
 os:s.os=X.jR.os
 bare:AllBare s.gens
 base:Un X.fs X.ex X.Ks H X.jR.heap s.heap
 loc:∃m,s.heap.Ns X.env.locals m/\∀(i:Nat) (x:Str) (v:V),X.N[i]?=some x->σ[i]?=some (some v)->Kt X.env.scope x->∃u,RelV v u/\Look X.env s.heap m x u
 cell:∀x c,X.env.cells.lookup x=some c->∃v,s.heap.IsCell c v
 free:H X.env.locals=none
 freeC:∀x c,X.env.cells.lookup x=some c->H c=none
 pin:∀p∈X.pn++pins,s.heap.get? p.1=some p.2/\H p.1=none/\p.1≠X.env.locals/\p.1∉X.fs/\∀v,p.2.data≠.cell v
 hok:d9 X.prog X.w H s.heap
 len:σ.length=X.N.length
section
variable {X:Cx}{pins:List (Addr×Obj)}{σ:List (Option V)}{H H':Hp}{s:Shared}{h':Heap}
theorem Cx.Ok.UG (ok:X.Ok){b:Addr}{o:Obj}(e:X.base.get? b=some o):b∉X.fs:=λhb=>by
 have:=(ok.ja.mem hb).1
 rw [e] at this; cases this
theorem Inv.bs (I:Inv X pins σ H s):∀b o,X.base.get? b=some o->s.heap.get? b=some o/\H b=none:=λb o e=>
 ⟨I.base.keep b o (I.ok.bs b o e).1 (I.ok.bs b o e).2 (I.ok.UG e) (I.ok.noex b o e),I.base.free b o (I.ok.bs b o e).1 (I.ok.bs b o e).2 (I.ok.noex b o e)⟩
theorem Inv.bk (I:Inv X pins σ H s):∀b o,X.base.get? b=some o->s.heap.get? b=some o:=λb o e=>(I.bs b o e).1
theorem Inv.mod (I:Inv X pins σ H s):Mod X.K X.mg X.base:=I.ok.mod
theorem Inv.gk (I:Inv X pins σ H s):X.K.In s.heap:=I.ok.mod.kin.keeps I.bk
theorem Inv.lt (I:Inv X pins σ H s):X.env.locals<s.heap.objs.size:=let ⟨_,hn,_⟩:=I.loc; hn.lt
theorem Inv.sz (I:Inv X pins σ H s):X.jR.heap.objs.size<=s.heap.objs.size:=Nat.le_trans I.ok.above (Nat.le_of_lt I.lt)
theorem Inv.UH (I:Inv X pins σ H s){a:Addr}(h:s.heap.objs.size<=a):a∉X.fs:=λhb=>by
 obtain ⟨_,o,ho,_⟩:=I.ok.ja.mem hb
 exact absurd (Nat.lt_of_lt_of_le (Heap.lt_size ho) (Nat.le_trans I.sz h)) (Nat.lt_irrefl _)
theorem Inv.wV (I:Inv X pins σ H s):∀x c,X.env.cells.lookup x=some c->c≠X.env.locals:=λx c e z=>by
 obtain ⟨v,o,ho,hd⟩:=I.cell x c e
 obtain ⟨m,⟨o',es,ep,wW,hd',_⟩,_⟩:=I.loc
 rw [z,wW] at ho; cases ho; rw [hd'] at hd; cases hd
theorem Inv.ja (I:Inv X pins σ H s):s.heap.FunFrames X.base X.outer:=by
 have all:∀(l:List Env),(∀b∈oq l,b∈X.fs)->X.jR.heap.FunFrames X.base l->s.heap.FunFrames X.base l:=by
  intro l
  induction l with
  | nil=>intro _ _; trivial
  | cons env r ih=>
   intro hs hl
   obtain ⟨hk,⟨L,o,hf,hn,ho,hd⟩,hr⟩:=hl
   have hL:L∈X.fs:=hs L (by unfold oq; rw [List.filterMap_cons,hf]; exact List.mem_cons_self)
   obtain ⟨sl,e⟩:=I.base.slot L o ho (I.ok.frf L hL) hL λz=>I.ok.exfs L z hL
   exact ⟨hk,⟨L,_,hf,hn,e,hd⟩,ih (λb hb=>hs b (by unfold oq; rw [List.filterMap_cons,hf]; exact List.mem_cons_of_mem _ hb)) hr⟩
 exact all X.outer (λ_ hb=>hb) I.ok.ja
theorem Inv.stack (I:Inv X pins σ H s):s.heap.FunFrames X.base X.stack:=by
 rcases I.ok.stk with e | ⟨e,hf⟩
 . rw [e]; exact I.ja
 . rw [e]
   obtain ⟨m,hn,_⟩:=I.loc
   refine .cons (by rw [I.ok.kind]; decide) hf hn ?_ I.ja
   exact Heap.get?_none_of_le (Nat.le_trans I.ok.bsz I.ok.above)
theorem Inv.sU (I:Inv X pins σ H s):∀b∈oq X.stack,b∈X.env.locals::X.fs:=λb hb=>by
 rcases I.ok.stk with e | ⟨e,hf⟩
 . rw [e] at hb; exact List.mem_cons_of_mem _ hb
 . rw [e] at hb
   unfold oq at hb
   rw [List.filterMap_cons,hf] at hb
   exact hb
theorem Inv.zT (I:Inv X pins σ H s):∀b∈oq X.stack,H b=none:=λb hb=>by
 rcases List.mem_cons.mp (I.sU b hb) with e | hb
 . rw [e]; exact I.free
 . obtain ⟨_,o,ho,_⟩:=I.ok.ja.mem hb
   exact I.base.free b o ho (I.ok.frf b hb) λz=>I.ok.exfs b z hb
theorem Inv.step {g':Array GenState}{t':Nat}{d':Drawn}{ch:List Addr}(I:Inv X pins σ H s)
 (qQ:∀b∈ch,(b∈X.ex\/X.jR.heap.objs.size<=b)/\b≠X.env.locals/\(∀x c,X.env.cells.lookup x=some c->c≠b)/\∀p∈X.pn++pins,p.1≠b)
 (keep:∀b o,b≠X.env.locals->b∉X.fs->b∉ch->s.heap.get? b=some o->H b=none->h'.get? b=some o)
 (slot:∀b o,b≠X.env.locals->b∈X.fs->b∉ch->s.heap.get? b=some o->H b=none->∃sl,h'.get? b=some { o with slots:=sl }) (free:∀b o,b∉ch->s.heap.get? b=some o->H b=none->H' b=none)
 (there:∀b o,b∉ch->s.heap.get? b=some o->∃o',h'.get? b=some o')
 (ir:∀b xs,H b=some (.tup xs)->H' b=some (.tup xs)) (frzs:∀b o u,H b=some (.lH o u)->H' b=some (.lH o u)) (tbls:∀b ps,H b=some (.wU ps)->∃more,H' b=some (.wU (ps++more)))
 (ns:∀m,s.heap.Ns X.env.locals m->h'.Ns X.env.locals m) (hok:d9 X.prog X.w H' h') (hg:AllBare g') :
 Inv X pins σ H' { s with heap:=h',gens:=g',drawn:=d',toks:=t' }:=by
 have RH:∀b o,X.jR.heap.get? b=some o->b≠X.env.locals:=λb o e=>Nat.ne_of_lt (Nat.lt_of_lt_of_le (Heap.lt_size e) I.ok.above)
 have G6:∀b o,X.jR.heap.get? b=some o->b∉X.ex->b∉ch:=λb o e hx hb=>by
  rcases (qQ b hb).1 with z | z
  . exact hx z
  . exact absurd (Nat.lt_of_lt_of_le (Heap.lt_size e) z) (Nat.lt_irrefl _)
 have cellK:∀x c,X.env.cells.lookup x=some c->∀v,s.heap.IsCell c v->h'.IsCell c v:=λx c e v ⟨o,ho,hd⟩=>by
  have C6:c∉ch:=λz=>(qQ c z).2.2.1 x c e rfl
  by_cases hc:c∈X.fs
  . obtain ⟨sl,q⟩:=slot c o (I.wV x c e) hc C6 ho (I.freeC x c e)
    exact ⟨_,q,hd⟩
  . exact ⟨o,keep c o (I.wV x c e) hc C6 ho (I.freeC x c e),hd⟩
 refine ⟨I.ok,I.os,hg,⟨λb o e n hb hx=>?_,λb o e n hb hx=>?_,λb o e n hx=>?_,λb o e hx=>?_,λb xs e=>ir b xs (I.base.ir b xs e),λb o xs e=>frzs b o xs (I.base.frzs b o xs e),λb ps e=>?_⟩,?_,λx c e=>?_,?_,λx c e=>?_,λp hp=>?_,hok,I.len⟩
 . exact keep b o (RH b o e) hb (G6 b o e hx) (I.base.keep b o e n hb hx) (I.base.free b o e n hx)
 . obtain ⟨sl,e1⟩:=I.base.slot b o e n hb hx
   obtain ⟨Kr,e2⟩:=slot b _ (RH b o e) hb (G6 b o e hx) e1 (I.base.free b o e n hx)
   exact ⟨Kr,e2⟩
 . obtain ⟨o',e1⟩:=I.base.there b o e hx
   exact free b o' (G6 b o e hx) e1 (I.base.free b o e n hx)
 . obtain ⟨o',e1⟩:=I.base.there b o e hx
   exact there b o' (G6 b o e hx) e1
 . obtain ⟨m1,e1⟩:=I.base.tbls b ps e
   obtain ⟨m2,e2⟩:=tbls b _ e1
   exact ⟨m1++m2,by rw [e2,Array.append_assoc]⟩
 . obtain ⟨m,hn,hl⟩:=I.loc
   refine ⟨m,ns m hn,λi x v e1 e2 e3=>?_⟩
   obtain ⟨u,r,l⟩:=hl i x v e1 e2 e3
   refine ⟨u,r,?_⟩
   rcases l with l | ⟨k,c,e,z⟩
   . exact .inl l
   . exact .inr ⟨k,c,e,cellK x c e _ z⟩
 . obtain ⟨v,z⟩:=I.cell x c e
   exact ⟨v,cellK x c e v z⟩
 . obtain ⟨m,⟨o,_,_,ho,_⟩,_⟩:=I.loc
   exact free _ o (λz=>(qQ _ z).2.1 rfl) ho I.free
 . obtain ⟨v,o,ho,hd⟩:=I.cell x c e
   exact free c o (λz=>(qQ c z).2.2.1 x c e rfl) ho (I.freeC x c e)
 . obtain ⟨e,n,ne,nf,d⟩:=I.pin p hp
   have C6:p.1∉ch:=λz=>(qQ p.1 z).2.2.2 p hp rfl
   exact ⟨keep p.1 p.2 ne nf C6 e n,free p.1 p.2 C6 e n,ne,nf,d⟩
theorem Inv.un {t':Nat}(I:Inv X pins σ H s) (u:Un X.fs [] H H' s.heap h') (hok:d9 X.prog X.w H' h'):Inv X pins σ H' { s with heap:=h',toks:=t' }:=by
 obtain ⟨m,⟨o,es,ep,ho,r⟩,_⟩:=id I.loc
 obtain ⟨sl,hL⟩:=u.any ho I.free (by simp)
 exact I.step (g':=s.gens) (d':=s.drawn) (ch:=[]) (λ_ z=>nomatch z) (λb o _ hb _ e n=>u.keep b o e n hb (by simp)) (λb o _ hb _ e n=>u.slot b o e n hb (by simp)) (λb o _ e n=>u.free b o e n (by simp)) (λb o _ e=>u.there b o e (by simp)) u.ir u.frzs u.tbls (λm' hm=>by
  obtain ⟨o',Ku,Kv,wW,r'⟩:=hm
  rw [ho] at wW; cases wW
  exact ⟨_,Ku,Kv,hL,r'⟩) hok I.bare
theorem Inv.call {g':Array GenState}{t':Nat}{d':Drawn}{ch:List Addr}(I:Inv X pins σ H s) (u:Un (oq X.stack) ch H H' s.heap h') (hok:d9 X.prog X.w H' h') (hg:AllBare g')
 (qQ:∀b∈ch,(b∈X.ex\/X.jR.heap.objs.size<=b)/\b≠X.env.locals/\(∀x c,X.env.cells.lookup x=some c->c≠b)/\∀p∈X.pn++pins,p.1≠b) :
 Inv X pins σ H' { s with heap:=h',gens:=g',drawn:=d',toks:=t' }:=by
 obtain ⟨m,⟨o,es,ep,ho,r⟩,_⟩:=id I.loc
 obtain ⟨sl,hL⟩:=u.any ho I.free λz=>(qQ _ z).2.1 rfl
 exact I.step (ch:=ch) qQ (λb o hL hb hc e n=>u.keep b o e n (λz=>(List.mem_cons.mp (I.sU b z)).elim hL hb) hc) (λb o _ _ hc e n=>u.any e n hc) (λb o hc e n=>u.free b o e n hc) (λb o hc e=>u.there b o e hc) u.ir u.frzs u.tbls (λm' hm=>by
  obtain ⟨o',Ku,Kv,wW,r'⟩:=hm
  rw [ho] at wW; cases wW
  exact ⟨_,Ku,Kv,hL,r'⟩) hok hg
theorem Inv.turned {t':Nat}{it:Addr}(I:Inv X pins σ H s) (k:∀b o,b≠it->s.heap.get? b=some o->h'.get? b=some o) (hn:H it=none) (hL:it≠X.env.locals)
 (h1:it∈X.ex\/X.jR.heap.objs.size<=it) (h2:∀x c,X.env.cells.lookup x=some c->c≠it) (h3:∀p∈X.pn++pins,p.1≠it):Inv X pins σ H { s with heap:=h',toks:=t' }:=by
 have RI:∀b u,H b=some u->b≠it:=λb u e z=>by rw [z,hn] at e; cases e
 refine I.step (g':=s.gens) (d':=s.drawn) (ch:=[it]) (λb hb=>?_) (λb o _ _ hc e _=>k b o (λz=>hc (by simp [z])) e) (λb o _ _ hc e _=>⟨o.slots,k b o (λz=>hc (by simp [z])) e⟩) (λ_ _ _ _ n=>n)
  (λb o hc e=>⟨o,k b o (λz=>hc (by simp [z])) e⟩) (λ_ _ e=>e) (λ_ _ _ e=>e) (λb ps e=>⟨#[],by rw [e]; simp⟩) (λm hm=>?_) (λb u e=>?_) I.bare
 . have e:b=it:=by simpa using hb
   subst e
   exact ⟨h1,hL,h2,h3⟩
 . obtain ⟨o,es,ep,ho,r⟩:=hm
   exact ⟨o,es,ep,k _ o (Ne.symm hL) ho,r⟩
 . refine (I.hok b u e).jQ (λc v hc q=>k c v ?_ q) (λ_ q=>q) λ_ _ q=>q
   rcases hc with z | z
   . rw [z]; exact RI b u e
   . exact RI c _ z
theorem Inv.tok (I:Inv X pins σ H s) (t:Nat):Inv X pins σ H { s with toks:=t }:=I.un (h':=s.heap) (t':=t) Un.refl I.hok
theorem Inv.kept {t':Nat}(I:Inv X pins σ H s) (k:∀b u,s.heap.get? b=some u->h'.get? b=some u):Inv X pins σ H { s with heap:=h',toks:=t' }:=I.un (Un.kept k) (I.hok.kept k)
theorem Inv.laid {a:Addr}{o:HO}{t':Nat}(I:Inv X pins σ H s) (k:∀b u,s.heap.get? b=some u->h'.get? b=some u) (hp:s.heap.objs.size<=a) (new:bJ X.prog X.w (upd H a o) h' a o) :
 Inv X pins σ (upd H a o) { s with heap:=h',toks:=t' }:=I.un (Un.laid k hp (I.hok.fresh hp)) (I.hok.laid k hp new)
theorem Inv.write {x e:Addr}{o:HO}{t':Nat}(I:Inv X pins σ H s) (mu:C4 (H x)) (he:e=x\/H e=some (.own x)) (k:∀b u,b≠e->s.heap.get? b=some u->h'.get? b=some u) (zS:∃u,h'.get? e=some u)
 (new:bJ X.prog X.w (upd H x o) h' x o):Inv X pins σ (upd H x o) { s with heap:=h',toks:=t' }:=I.un (Un.write mu he k zS) (I.hok.write mu he k zS new)
theorem Inv.zU {G7:List (Addr×Obj)}(I:Inv X pins σ H s) (h:∀p∈G7,s.heap.get? p.1=some p.2/\H p.1=none/\p.1≠X.env.locals/\p.1∉X.fs/\∀v,p.2.data≠.cell v):Inv X G7 σ H s:=
 ⟨I.ok,I.os,I.bare,I.base,I.loc,I.cell,I.free,I.freeC,λp hp=>(List.mem_append.mp hp).elim (λz=>I.pin p (List.mem_append_left _ z)) (h p),I.hok,I.len⟩
theorem wX {N:List Str}(hN:N.Nodup){i j:Nat}{x:Str}(a:N[i]?=some x) (b:N[j]?=some x):i=j:=by
 obtain ⟨h1,e1⟩:=List.getElem?_eq_some_iff.mp a
 obtain ⟨h2,e2⟩:=List.getElem?_eq_some_iff.mp b
 exact (List.getElem_inj hN).mp (e1.trans e2.symm)
theorem vo {M:Model}{A:Around}{E:Value->Shared->Prop}{i:Nat}{x:Str}{v:V}{u:Value}{Q:Unit->Shared->Prop}(I:Inv X pins σ H s) (hN:X.N.Nodup) (hi:X.N[i]?=some x) (hx:Loc X.env.scope x) (r:RelV v u)
 (h:∀s',Inv X pins (σ.set i (some v)) H s'->(∃a,Heap.SameBut a s.heap s'.heap/\(a=X.env.locals\/X.env.cells.lookup x=some a))->Q () s') (hf:X.fn x=true\/X.env.scope.names.lookup x=some .local:=by first | exact .inl rfl | exact .inr rfl | assumption):wpAny M A (storeName X.env x u) Q E s:=by
 obtain ⟨m,hn,hl⟩:=id I.loc
 have UI:(X.env.scope.kind == .class || (X.env.scope.kind == .module && X.env.locals != X.env.globals))=false:=by rw [I.ok.kind]; rfl
 have hiσ:i < σ.length:=by rw [I.len]; exact (List.getElem?_eq_some_iff.mp hi).1
 have wV:=I.wV
 have tracked:∀{a:Addr}{h':Heap},(∃o,s.heap.get? a=some o/\H a=none)->Heap.SameBut a s.heap h'->d9 X.prog X.w H h':=λ{a h'} ha hs b ob e=>by
  obtain ⟨_,_,G8⟩:=ha
  refine (I.hok b ob e).jQ (λc w' hc q=>(hs.2 c ?_).trans q) (λ_ q=>q) λ_ _ q=>q
  rintro rfl
  rcases hc with rfl | hc
  . rw [G8] at e; cases e
  . rw [G8] at hc; cases hc
 rcases hx with hk | hk
 . refine wpAny_storeName_local hk hn (λh' wY hs=>?_) UI
   obtain ⟨oL,_,_,wZ,_⟩:=id hn
   refine h _ ⟨I.ok,I.os,I.bare,⟨λb o e n hb hx=>?_,λb o e n hb hx=>?_,I.base.free,λb o e hx=>?_,I.base.ir,I.base.frzs,I.base.tbls⟩,⟨_,wY,λj y v' e1 e2 e3=>?_⟩,λy c e=>?_,I.free,I.freeC,λp hp=>?_,tracked ⟨oL,wZ,I.free⟩ hs,by simpa using I.len⟩ ⟨_,hs,.inl rfl⟩
   . exact (hs.2 b (Nat.ne_of_lt (Nat.lt_of_lt_of_le (Heap.lt_size e) I.ok.above))).trans (I.base.keep b o e n hb hx)
   . obtain ⟨sl,e1⟩:=I.base.slot b o e n hb hx
     exact ⟨sl,(hs.2 b (Nat.ne_of_lt (Nat.lt_of_lt_of_le (Heap.lt_size e) I.ok.above))).trans e1⟩
   . obtain ⟨o',e1⟩:=I.base.there b o e hx
     exact ⟨o',(hs.2 b (Nat.ne_of_lt (Nat.lt_of_lt_of_le (Heap.lt_size e) I.ok.above))).trans e1⟩
   . by_cases hj:j=i
     . subst hj
       rw [hi] at e1; cases e1
       rw [List.getElem?_set_self hiσ] at e2
       cases e2
       exact ⟨u,r,.inl ⟨hk,by simp⟩⟩
     . rw [List.getElem?_set_ne (Ne.symm hj)] at e2
       obtain ⟨u',r',q⟩:=hl j y v' e1 e2 e3
       refine ⟨u',r',?_⟩
       rcases q with ⟨k,e⟩ | ⟨k,c,e,z⟩
       . refine .inl ⟨k,?_⟩
         have:y≠x:=λe=>hj (wX hN e1 (e ▸ hi))
         simp [this,e]
       . exact .inr ⟨k,c,e,z.sameBut hs (wV y c e)⟩
   . obtain ⟨w',z⟩:=I.cell y c e
     exact ⟨w',z.sameBut hs (wV y c e)⟩
   . obtain ⟨e,n,ne,nf,d⟩:=I.pin p hp
     exact ⟨(hs.2 p.1 ne).trans e,n,ne,nf,d⟩
 . have Kw:X.fn x=true:=by
    rcases hf with z | z
    . exact z
    . rw [z] at hk; cases hk
   obtain ⟨c,hc⟩:=I.ok.has x (.inl hk)
   obtain ⟨w',z⟩:=I.cell x c hc
   refine wpAny_storeName_cell I.ok.kind hk hc z (λh' fi hs=>?_)
   obtain ⟨oc,RJ,UJ⟩:=id z
   refine h { s with heap:=h' } ⟨I.ok,I.os,I.bare,⟨λb o e n hb hx=>?_,λb o e n hb hx=>?_,I.base.free,λb o e hx=>?_,I.base.ir,I.base.frzs,I.base.tbls⟩,⟨m,hn.sameBut hs (Ne.symm (wV x c hc)),λj y v' e1 e2 e3=>?_⟩,λy c' e=>?_,I.free,I.freeC,λp hp=>?_,tracked ⟨oc,RJ,I.freeC x c hc⟩ hs,by simpa using I.len⟩ ⟨c,hs,.inr hc⟩
   . exact (hs.2 b (Nat.ne_of_lt (Nat.lt_of_lt_of_le (Heap.lt_size e) (I.ok.cab x c Kw hc)))).trans (I.base.keep b o e n hb hx)
   . obtain ⟨sl,e1⟩:=I.base.slot b o e n hb hx
     exact ⟨sl,(hs.2 b (Nat.ne_of_lt (Nat.lt_of_lt_of_le (Heap.lt_size e) (I.ok.cab x c Kw hc)))).trans e1⟩
   . obtain ⟨o',e1⟩:=I.base.there b o e hx
     exact ⟨o',(hs.2 b (Nat.ne_of_lt (Nat.lt_of_lt_of_le (Heap.lt_size e) (I.ok.cab x c Kw hc)))).trans e1⟩
   . by_cases hj:j=i
     . subst hj
       rw [hi] at e1; cases e1
       rw [List.getElem?_set_self hiσ] at e2
       cases e2
       exact ⟨u,r,.inr ⟨.inl hk,c,hc,fi⟩⟩
     . rw [List.getElem?_set_ne (Ne.symm hj)] at e2
       obtain ⟨u',r',q⟩:=hl j y v' e1 e2 e3
       refine ⟨u',r',?_⟩
       rcases q with q | ⟨k,c',e,z'⟩
       . exact .inl q
       . refine .inr ⟨k,c',e,z'.sameBut hs ?_⟩
         rintro rfl
         exact hj (wX hN e1 (I.ok.inj _ _ _ e hc ▸ hi))
   . by_cases RK:c'=c
     . subst RK; exact ⟨_,fi⟩
     . obtain ⟨w2,z2⟩:=I.cell y c' e
       exact ⟨w2,z2.sameBut hs RK⟩
   . obtain ⟨e,n,ne,nf,d⟩:=I.pin p hp
     refine ⟨(hs.2 p.1 ?_).trans e,n,ne,nf,d⟩
     intro q
     rw [q,RJ] at e
     have q':oc=p.2:=Option.some.inj e
     exact d w' (by rw [← q']; exact UJ)
theorem kz {M:Model}{A:Around}{E:Value->Shared->Prop}{i:Nat}{x:Str}{v:V}{u:Value}{Q:Unit->Shared->Prop}(I:Inv X pins σ H s) (hN:X.N.Nodup) (hi:X.N[i]?=some x) (hx:Loc X.env.scope x) (r:RelV v u)
 (h:∀s',Inv X pins (σ.set i (some v)) H s'->Q () s') (hf:X.fn x=true\/X.env.scope.names.lookup x=some .local:=by first | exact .inl rfl | exact .inr rfl | assumption):wpAny M A (storeName X.env x u) Q E s:=
 vo I hN hi hx r (λs' I' _=>h s' I') hf
theorem Inv.OI {s':Shared}{ch:List Addr}(I:Inv X pins σ H s) (ho:s'.os=s.os) (u:Un (oq X.stack) ch H H' s.heap s'.heap) (hok:d9 X.prog X.w H' s'.heap) (hg:AllBare s'.gens)
 (qQ:∀b∈ch,(b∈X.ex\/X.jR.heap.objs.size<=b)/\b≠X.env.locals/\(∀x c,X.env.cells.lookup x=some c->c≠b)/\∀p∈X.pn++pins,p.1≠b):Inv X pins σ H' s':=by
 obtain ⟨h',g',d',t',o'⟩:=s'
 have e:o'=s.os:=ho
 subst e
 exact I.call (g':=g') (t':=t') (d':=d') u hok hg qQ
end
abbrev XK:=Value->Option Addr->Hp->Prop
abbrev St:=List (Option V)
abbrev VK:=V->Hp->Prop
abbrev TE:=St->Hp->VK->Prop
abbrev TT:=St->Hp->(Bool->Hp->Prop)->Prop
abbrev TA:=St->Hp->(List V->Hp->Prop)->Prop
structure Ends where
 nx:St->Hp->Prop
 rt:VK
 bk:St->Hp->Prop:=λ_ _=>False
 ct:St->Hp->Prop:=λ_ _=>False
abbrev TS:=Ends->St->Hp->Prop
def EP (X:Cx) (pins:List (Addr×Obj)) (σ:St) (Q:VK) (u:Value) (s':Shared):Prop:=∃v H',Inv X pins σ H' s'/\RelV v u/\Q v H'
def TP (X:Cx) (pins:List (Addr×Obj)) (σ:St) (Q:Bool->Hp->Prop) (b:Bool) (s':Shared):Prop:=∃H',Inv X pins σ H' s'/\Q b H'
def AP (X:Cx) (pins:List (Addr×Obj)) (σ:St) (Q:List V->Hp->Prop) (us:List Value) (s':Shared):Prop:=∃vs H',Inv X pins σ H' s'/\Vals vs us/\Q vs H'
def SP (X:Cx) (pins:List (Addr×Obj)) (D:Ends) (f:Flow) (s':Shared):Prop:=
 match f with
 | .next=>∃cA H',Inv X pins cA H' s'/\D.nx cA H'
 | .brk=>∃cA H',Inv X pins cA H' s'/\D.bk cA H'
 | .cont=>∃cA H',Inv X pins cA H' s'/\D.ct cA H'
 | .ret u=>∃v cA H',Inv X pins cA H' s'/\RelV v u/\D.rt v H'
def PE (X:Cx) (e:Expr) (t:TE):Prop:=
 ∀(pins:List (Addr×Obj)) (s:Shared) (σ:St) (H:Hp) (Q:VK),Inv X pins σ H s->t σ H Q->wpAny (model X.prog X.w) X.A (eval e X.env) (EP X pins σ Q) X.xe s
def PT (X:Cx) (e:Expr) (t:TT):Prop:=
 ∀(pins:List (Addr×Obj)) (s:Shared) (σ:St) (H:Hp) (Q:Bool->Hp->Prop),Inv X pins σ H s->t σ H Q->wpAny (model X.prog X.w) X.A (isTrue e X.env (eval e X.env)) (TP X pins σ Q) X.xe s
def PW (X:Cx) (e:Expr) (t:TT):Prop:=
 ∀(whole:Sem Value) (pins:List (Addr×Obj)) (s:Shared) (σ:St) (H:Hp) (Q:Bool->Hp->Prop),Inv X pins σ H s->t σ H Q->wpAny (model X.prog X.w) X.A (isTrue e X.env whole) (TP X pins σ Q) X.xe s
theorem PW.pt {X:Cx}{e:Expr}{t:TT}(h:PW X e t):PT X e t:=h _
def PA (X:Cx) (es:List Expr) (t:TA):Prop:=
 ∀(pos:Pos) (pins:List (Addr×Obj)) (s:Shared) (σ:St) (H:Hp) (Q:List V->Hp->Prop),Inv X pins σ H s->t σ H Q->wpAny (model X.prog X.w) X.A (spliced (backTo pos (starEach es X.env))) (AP X pins σ Q) X.xe s
def PS (X:Cx) (st:Stmt) (t:TS):Prop:=
 ∀(pins:List (Addr×Obj)) (s:Shared) (σ:St) (H:Hp) (D:Ends),Inv X pins σ H s->t D σ H->wpAny (model X.prog X.w) X.A (exec st X.env) (SP X pins D) X.xe s
def iP (X:Cx) (st:List Stmt) (t:TS):Prop:=
 ∀(pins:List (Addr×Obj)) (s:Shared) (σ:St) (H:Hp) (D:Ends),Inv X pins σ H s->t D σ H->wpAny (model X.prog X.w) X.A (execs st X.env) (SP X pins D) X.xe s
theorem aN {α:Type}{t:Sem α}{Q Q':α->Shared->Prop}{M:Model}{A:Around}{E:Value->Shared->Prop}{s:Shared}(h:wpAny M A t Q E s) (hQ:∀a s,Q a s->Q' a s):wpAny M A t Q' E s:=wpAny_mono h hQ λ_ _ x=>x
end L2
namespace L2
open PySem PySem.Spec PyProof.Rows
section
variable {X:Cx}
theorem bin {a b:Expr}{ta tb:TE}(ha:PE X a ta) (hb:PE X b tb){pins:List (Addr×Obj)}{s:Shared}{σ:St}{H:Hp}{R:V->V->Hp->Prop}(I:Inv X pins σ H s) (h:ta σ H λx H1=>tb σ H1 λy H2=>R x y H2)
 {α:Type}{Q:α->Shared->Prop}{f:Value->Value->Sem α}
 (hf:∀v u s2 x y H2,Inv X pins σ H2 s2->RelV x v->RelV y u->R x y H2->wpAny (model X.prog X.w) X.A (f v u) Q X.xe s2) :
 wpAny (model X.prog X.w) X.A (eval a X.env) (λv cW=>wpAny (model X.prog X.w) X.A (eval b X.env) (λu uK=>wpAny (model X.prog X.w) X.A (f v u) Q X.xe uK) X.xe cW) X.xe s:=by
 refine aN (ha pins s σ H _ I h) λv s1 ⟨x,H1,I1,r1,q1⟩=>?_
 refine aN (hb pins s1 σ H1 _ I1 q1) λu s2 ⟨y,H2,I2,r2,q2⟩=>?_
 exact hf v u s2 x y H2 I2 r1 r2 q2
def kE (i:Nat):TE:=λσ H Q=>∃v,σ[i]?=some (some v)/\Q v H
def tC (v:V):TE:=λ_ H Q=>Q v H
theorem Kx {i:Nat}{x:Str}{pos:Pos}(hN:X.N[i]?=some x) (hv:Kt X.env.scope x) (hd:(x == ("__debug__" : Str))=false:=by decide) (oN:(x == ("__classdict__" : Str))=false:=by decide):PE X (.Name x pos) (kE i):=by
 intro pins s σ H Q I h
 obtain ⟨v,e,h⟩:=h
 obtain ⟨m,hn,hl⟩:=I.loc
 obtain ⟨u,r,l⟩:=hl i x v hN e hv
 have fin:EP X pins σ Q u s:=⟨v,H,I,r,h⟩
 rcases l with ⟨hk,hm⟩ | ⟨hk,c,hc,G9⟩
 . exact wpAny_Name (wpAny_loadName_local I.ok.kind hk hn hm fin) hd
 . rcases hk with hk | hk
   . exact wpAny_Name (wpAny_loadName_cell I.ok.kind hk hc G9 fin) hd
   . exact wpAny_Name (wpAny_loadName_free I.ok.kind hk hc G9 fin oN) hd
theorem aq {i j pos} : PE X (.Constant (.int i) j pos) (tC (.int i)):=λ_ _ _ H _ I h=>wpAny_Constant_int ⟨.int i,H,I.tok _,⟨_,rfl⟩,h⟩
theorem j3 {b j pos} : PE X (.Constant (.bool b) j pos) (tC (.bl b)):=λ_ _ _ H _ I h=>Constant_bool ⟨.bl b,H,I,rfl,h⟩
theorem Ky {j pos} : PE X (.Constant .none j pos) (tC .aQ):=λ_ _ _ H _ I h=>Constant_none ⟨.aQ,H,I,rfl,h⟩
theorem aU {x j pos} : PE X (.Constant (.str x) j pos) (tC (.str x)):=λ_ _ _ H _ I h=>Calls.Constant_str ⟨.str x,H,I.tok _,⟨_,rfl⟩,h⟩
def Gl (X:Cx) (x:Str):Prop:=X.env.kindOf x=some .globalImplicit
theorem zV {E:Value->Shared->Prop}{pins:List (Addr×Obj)}{s:Shared}{σ:St}{H:Hp}{x:Str}{u:Value}{pos:Pos}{Q:Value->Shared->Prop}(I:Inv X pins σ H s) (hg:Gl X x) (hm:X.mg x=some u) (h:Q u s)
 (hd:(x == ("__debug__" : Str))=false:=by decide):wpAny (model X.prog X.w) X.A (eval (.Name x pos) X.env) Q E s:=
 Calls.Name_function_global I.ok.kind hg (Calls.loadGlobal_global (by rw [I.ok.glob]; exact I.mod.glob.keeps I.bk) hm h) hd
theorem iQ {E:Value->Shared->Prop}{pins:List (Addr×Obj)}{s:Shared}{σ:St}{H:Hp}{x:Str}{u:Value}{pos:Pos}{Q:Value->Shared->Prop}(I:Inv X pins σ H s) (hg:Gl X x) (hm:X.mg x=none) (hv:bootBuiltins x=some u) (h:Q u s)
 (hn:x ≠ "__name__":=by decide) (hd:(x == ("__debug__" : Str))=false:=by decide):wpAny (model X.prog X.w) X.A (eval (.Name x pos) X.env) Q E s:=by
 obtain ⟨mb,h1,h2⟩:=I.mod.blt
 exact Calls.Name_function_global I.ok.kind hg (Calls.loadGlobal_builtin (by rw [I.ok.glob]; exact I.mod.glob.keeps I.bk) hm (by rw [I.ok.blt]; exact h1.keeps I.bk) ((h2 x hn).trans hv) h) hd
theorem jb {x:Str}{v:V}{u:Value}{pos:Pos}(hg:Gl X x) (hm:X.mg x=none) (hv:bootBuiltins x=some u) (r:RelV v u) (hn:x ≠ "__name__":=by decide) (hd:(x == ("__debug__" : Str))=false:=by decide):PE X (.Name x pos) (tC v):=
 λ_ _ _ H _ I h=>iQ I hg hm hv ⟨v,H,I,r,h⟩ hn hd
variable {a b:Expr}{ta tb:TE}{pos:Pos}
def PC (X:Cx) (op:CmpOp) (a b:Expr) (t:TE):Prop:=
 ∀(pins:List (Addr×Obj)) (s:Shared) (σ:St) (H:Hp) (Q:VK),Inv X pins σ H s->t σ H Q->
  wpAny (model X.prog X.w) X.A (eval a X.env) (λv cW=>wpAny (model X.prog X.w) X.A (eval b X.env) (λu uK=>wpAny (model X.prog X.w) X.A (compareOp op v u) (EP X pins σ Q) X.xe uK) X.xe cW) X.xe s
theorem Ft (b:Expr){op:CmpOp}(h:op≠.In) (h2:op≠.NotIn):behindInMarks op b=false:=by
 have e1:(op == CmpOp.In)=false:=by cases op <;> first | rfl | exact absurd rfl h
 have e2:(op == CmpOp.NotIn)=false:=by cases op <;> first | rfl | exact absurd rfl h2
 cases b <;> simp [behindInMarks,e1,e2]
def UK (ta:TE):TE:=λσ H Q=>ta σ H λx H1=>Q (.bl (decide (x=.aQ))) H1
theorem RelV.Fu {x:V}{v:Value}(r:RelV x v):(v == Value.none)=decide (x=.aQ):=by
 cases x with
 | aQ=>cases r; rfl
 | bl _=>cases r; rfl
 | int _=>obtain ⟨t,rfl⟩:=r; rfl
 | str _=>obtain ⟨t,rfl⟩:=r; rfl
 | l9 _=>obtain ⟨t,rfl⟩:=r; rfl
 | vn _=>obtain ⟨t,rfl⟩:=r; rfl
 | ref _=>cases r; rfl
 | ty _=>cases r; rfl
theorem w4 {j pos'} (ha:PE X a ta):PC X .Is a (.Constant .none j pos') (UK ta):=by
 intro pins s σ H Q I h
 refine aN (ha pins s σ H _ I h) λv s1 ⟨x,H1,I1,r1,q1⟩=>?_
 exact Constant_none (is_none_gen ⟨.bl _,H1,I1,by rw [r1.Fu]; rfl,q1⟩)
def tB (t:TE):TT:=λσ H Q=>t σ H λx H1=>∃c,x=.bl c/\Q c H1
theorem jx {op:CmpOp}{t:TE}(h:PC X op a b t) (h1:behindInMarks op b=false:=by first | exact Ft _ (by decide) (by decide) | rfl):PT X (.Compare a [op] [b] pos) (tB t):=by
 intro pins s σ H Q I hw
 refine wpAny_isTrue_Compare1 (aN (h pins s σ H _ I hw) λv s1 h1=>aN h1 λu s2 h2=>aN h2 λc s3 ⟨x,H1,I1,r1,q1⟩=>?_) h1
 obtain ⟨d,rfl,q⟩:=q1
 cases r1
 exact wpAny_truthy_bool ⟨H1,I1,q⟩
theorem iR {e:Expr}{t:TE}(h:PE X e t) (he:∀whole,isTrue e X.env whole=(do let v ← whole; standAt e.pos; holding [v] (truthy v)):=by intro _; rfl):PT X e (tB t):=by
 intro pins s σ H Q I hw
 refine isTrue_plain (aN (h pins s σ H _ I hw) λv s1 ⟨x,H1,I1,r1,q1⟩=>?_) (he _)
 obtain ⟨d,rfl,q⟩:=q1
 cases r1
 exact wpAny_truthy_bool ⟨H1,I1,q⟩
variable {tA Hn:TT}{rest:List Expr}
def UL (t u:TT):TT:=λσ H Q=>t σ H λc H1=>if c=true then u σ H1 Q else Q false H1
def YV (t u:TT):TT:=λσ H Q=>t σ H λc H1=>if c=true then Q true H1 else u σ H1 Q
def UM (t:TT):TT:=λσ H Q=>t σ H λc H1=>Q (!c) H1
theorem Jo (ha:PT X a tA):PW X (.BoolOp .And [a] pos) tA:=by
 intro wh pins s σ H Q I h
 refine isTrue_and (aN (ha pins s σ H Q I h) λc s1 e=>?_)
 cases c with
 | true=>exact isTrue_and_nil e
 | false=>exact e
theorem sV (ha:PT X a tA):PW X (.BoolOp .Or [a] pos) tA:=by
 intro wh pins s σ H Q I h
 refine isTrue_or (aN (ha pins s σ H Q I h) λc s1 e=>?_)
 cases c with
 | false=>exact isTrue_or_nil e
 | true=>exact e
theorem Kz (ha:PT X a tA) (hb:PW X (.BoolOp .And (b::rest) pos) Hn):PW X (.BoolOp .And (a::b::rest) pos) (UL tA Hn):=by
 intro wh pins s σ H Q I h
 refine isTrue_and (aN (ha pins s σ H _ I h) λc s1 ⟨H1,I1,q1⟩=>?_)
 cases c with
 | true=>exact hb wh pins s1 σ H1 Q I1 q1
 | false=>exact ⟨H1,I1,q1⟩
theorem pY (ha:PT X a tA) (hb:PW X (.BoolOp .Or (b::rest) pos) Hn):PW X (.BoolOp .Or (a::b::rest) pos) (YV tA Hn):=by
 intro wh pins s σ H Q I h
 refine isTrue_or (aN (ha pins s σ H _ I h) λc s1 ⟨H1,I1,q1⟩=>?_)
 cases c with
 | true=>exact ⟨H1,I1,q1⟩
 | false=>exact hb wh pins s1 σ H1 Q I1 q1
theorem sW (ha:PT X a tA):PT X (.UnaryOp .Not a pos) (UM tA):=by
 intro pins s σ H Q I h
 exact isTrue_not (ha pins s σ H (λc H1=>Q (!c) H1) I h)
def OJ (ta tb:TE):TE:=λσ H Q=>ta σ H λx H1=>∃c,x=.bl c/\if c=true then tb σ H1 Q else Q (.bl false) H1
theorem w6 {op} {t:TE}(h:PE X a t):PE X (.BoolOp op [a] pos) t:=λpins s σ H Q I hw=>BoolOp_one (h pins s σ H Q I hw)
theorem oO (ha:PE X a ta) (hb:PE X (.BoolOp .And (b::rest) pos) tb):PE X (.BoolOp .And (a::b::rest) pos) (OJ ta tb):=by
 intro pins s σ H Q I h
 refine BoolOp_and (aN (ha pins s σ H _ I h) λv s1 ⟨x,H1,I1,r1,q1⟩=>?_)
 obtain ⟨c,rfl,q1⟩:=q1
 cases r1
 refine wpAny_truthy_bool ?_
 cases c with
 | true=>exact hb pins s1 σ H1 Q I1 q1
 | false=>exact ⟨.bl false,H1,I1,rfl,q1⟩
def YW (t:TT) (ta tb:TE):TE:=λσ H Q=>t σ H λc H1=>if c=true then ta σ H1 Q else tb σ H1 Q
theorem xa {c:Expr}(hc:PT X c tA) (ha:PE X a ta) (hb:PE X b tb):PE X (.IfExp c a b pos) (YW tA ta tb):=by
 intro pins s σ H Q I h
 refine wpAny_IfExp (aN (hc pins s σ H _ I h) λd s1 ⟨H1,I1,q1⟩=>?_)
 cases d with
 | true=>exact ha pins s1 σ H1 Q I1 q1
 | false=>exact hb pins s1 σ H1 Q I1 q1
end
end L2
namespace L2
open PySem PySem.Spec PyProof.Rows
def av (K:W.Frag) (H:Hp) (a:Addr) (xs:List V):Prop:=
 Rd H a (.lst xs)\/
  ∃(o:Obj) (its:Array Value) (n:Nat),K.lookup a=some o/\o.cls=.type "list" /\ o.dict=none/\o.data=.seq its n/\its.size<=sizeLine/\Vals xs its.toList
def aR (K:W.Frag) (H:Hp) (a:Addr) (xs:List V):Prop:=
 Rd H a (.tup xs)\/
  ∃(o:Obj) (its:Array Value) (n:Nat),K.lookup a=some o/\o.cls=.type "tuple" /\ o.data=.seq its n/\its.size<=sizeLine/\Vals xs its.toList
def UN:Value->Option V
 | .none=>some .aQ
 | .bool b=>some (.bl b)
 | .int i _=>some (.int i)
 | .str x _=>some (.str x)
 | .bytes b _=>some (.l9 b)
 | .float b _=>some (.vn b)
 | .ref a=>some (.ref a)
 | .type n=>some (.ty n)
 | _=>none
theorem RelV.abs {x:V}{u:Value}(r:RelV x u):UN u=some x:=by
 cases x with
 | aQ=>cases r; rfl
 | bl _=>cases r; rfl
 | int _=>obtain ⟨t,rfl⟩:=r; rfl
 | str _=>obtain ⟨t,rfl⟩:=r; rfl
 | l9 _=>obtain ⟨t,rfl⟩:=r; rfl
 | vn _=>obtain ⟨t,rfl⟩:=r; rfl
 | ref _=>cases r; rfl
 | ty _=>cases r; rfl
theorem RelV.inj {x y:V}{u:Value}(r:RelV x u) (q:RelV y u):x=y:=Option.some.inj (r.abs.symm.trans q.abs)
theorem Vals.inj:∀{xs ys:List V}{us:List Value},Vals xs us->Vals ys us->xs=ys
 | _,_,_,.nil,.nil=>rfl
 | _,_,_,.cons r t,.cons r' t'=>by rw [r.inj r',Vals.inj t t']
section
variable {X:Cx}{pins:List (Addr×Obj)}{σ:St}{H:Hp}{s:Shared}{a:Addr}{xs ys:List V}
theorem av.of {K:W.Frag}(h:H a=some (.lst xs)):av K H a xs:=.inl (.inl h)
theorem aR.of {K:W.Frag}(h:H a=some (.tup xs)):aR K H a xs:=.inl (.inl h)
theorem Inv.list (I:Inv X pins σ H s) (h:av X.K H a xs):∃its:List Value,Vals xs its/\PlainL s.heap a its.toArray/\xs.length<=sizeLine:=by
 rcases h with h | ⟨o,its,n,hk,hc,hd,hs,hz,r⟩
 . obtain ⟨z,its,n,r,e⟩:=h.ok I.hok
   exact ⟨its,r,⟨_,n,e,rfl,rfl,rfl⟩,z⟩
 . refine ⟨its.toList,r,⟨o,n,I.gk a o hk,hc,hd,by simpa using hs⟩,?_⟩
   have e:=r.length
   simp only [Array.length_toList] at e
   omega
theorem Inv.tuple (I:Inv X pins σ H s) (h:aR X.K H a xs):∃its:List Value,Vals xs its/\IsTup s.heap a its.toArray/\xs.length<=sizeLine:=by
 rcases h with h | ⟨o,its,n,hk,hc,hs,hz,r⟩
 . obtain ⟨z,its,r,p⟩:=h.ok I.hok
   exact ⟨its,r,p,z⟩
 . refine ⟨its.toList,r,⟨o,I.gk a o hk,hc,n,by simpa using hs⟩,?_⟩
   have e:=r.length
   simp only [Array.length_toList] at e
   omega
theorem Inv.rN (I:Inv X pins σ H s) (h:av X.K H a xs) (h':av X.K H a ys):xs=ys:=by
 obtain ⟨its,r,⟨o,n,e,_,_,d⟩,_⟩:=I.list h
 obtain ⟨its',r',⟨o',n',e',_,_,d'⟩,_⟩:=I.list h'
 rw [e] at e'; cases e'
 rw [d] at d'
 injection d' with d1 _
 have:its=its':=by simpa using congrArg Array.toList d1
 subst this
 exact r.inj r'
theorem Inv.oP (I:Inv X pins σ H s) (h:aR X.K H a xs) (h':aR X.K H a ys):xs=ys:=by
 obtain ⟨its,r,⟨o,e,_,n,d⟩,_⟩:=I.tuple h
 obtain ⟨its',r',⟨o',e',_,n',d'⟩,_⟩:=I.tuple h'
 rw [e] at e'; cases e'
 rw [d] at d'
 injection d' with d1 _
 have:its=its':=by simpa using congrArg Array.toList d1
 subst this
 exact r.inj r'
end
abbrev Cx.lT (X:Cx) (E:Value->Shared->Prop):Cx:={ X with xe:=E }
abbrev Cx.xf (X:Cx):Cx:=X.lT λ_ _=>False
theorem Cx.Ok.lT {X:Cx}(ok:X.Ok) (E:Value->Shared->Prop):(X.lT E).Ok:=
 ⟨ok.mod,ok.kind,ok.glob,ok.blt,ok.above,ok.inj,ok.has,ok.cab,ok.hd,ok.frames,ok.stk,ok.exf,ok.bs,ok.bsz,ok.noex,ok.exfs,ok.ja,ok.frf⟩
theorem Cx.Ok.jy {X:Cx}{E:Value->Shared->Prop}(ok:(X.lT E).Ok):X.Ok:=
 ⟨ok.mod,ok.kind,ok.glob,ok.blt,ok.above,ok.inj,ok.has,ok.cab,ok.hd,ok.frames,ok.stk,ok.exf,ok.bs,ok.bsz,ok.noex,ok.exfs,ok.ja,ok.frf⟩
section
variable {X:Cx}{pins:List (Addr×Obj)}{σ:St}{H:Hp}{s:Shared}{E:Value->Shared->Prop}
theorem Inv.lT (I:Inv X pins σ H s) (E:Value->Shared->Prop):Inv (X.lT E) pins σ H s:=⟨I.ok.lT E,I.os,I.bare,I.base,I.loc,I.cell,I.free,I.freeC,I.pin,I.hok,I.len⟩
theorem Inv.jy (I:Inv (X.lT E) pins σ H s):Inv X pins σ H s:=⟨I.ok.jy,I.os,I.bare,I.base,I.loc,I.cell,I.free,I.freeC,I.pin,I.hok,I.len⟩
theorem SP.jy {D:Ends}{f:Flow}{s':Shared}(h:SP (X.lT E) pins D f s'):SP X pins D f s':=by
 cases f with
 | next=>obtain ⟨cA,H',I,q⟩:=h; exact ⟨cA,H',I.jy,q⟩
 | brk=>obtain ⟨cA,H',I,q⟩:=h; exact ⟨cA,H',I.jy,q⟩
 | cont=>obtain ⟨cA,H',I,q⟩:=h; exact ⟨cA,H',I.jy,q⟩
 | ret u=>obtain ⟨v,cA,H',I,r,q⟩:=h; exact ⟨v,cA,H',I.jy,r,q⟩
theorem iP.xf {st:List Stmt}{t:TS}(h:iP X.xf st t):iP X st t:=λpins s σ H D I hw=>
 wpAny_mono (h pins s σ H D (I.lT _) hw) (λ_ _ q=>q.jy) λ_ _ z=>False.elim z
end
section
variable {X:Cx}{st:Stmt}{rest:List Stmt}{t u:TS}{e:Expr}{te:TE}{pos:Pos}
def OK:TS:=λD σ H=>D.nx σ H
def dU (t u:TS):TS:=λD σ H=>t { D with nx:=u D } σ H
theorem bz:iP X [] OK:=λ_ _ σ H _ I h=>wpAny_execs_nil ⟨σ,H,I,h⟩
theorem ai (h1:PS X st t) (h2:iP X rest u):iP X (st::rest) (dU t u):=by
 intro pins s σ H D I h
 refine wpAny_execs_cons (aN (h1 pins s σ H { D with nx:=u D } I h) λf s1 q=>?_)
 cases f with
 | next=>
  obtain ⟨cA,H',I',q⟩:=q
  exact h2 pins s1 cA H' D I' q
 | ret v=>exact q
 | brk=>exact q
 | cont=>exact q
theorem aw (h1:PS X st t):iP X [st] t:=by
 intro pins s σ H D I h
 refine wpAny_execs_cons (aN (h1 pins s σ H D I h) λf s1 q=>?_)
 cases f with
 | next=>exact wpAny_execs_nil q
 | ret v=>exact q
 | brk=>exact q
 | cont=>exact q
theorem Inv.quiet {pins:List (Addr×Obj)}{σ:St}{H:Hp}{s:Shared}(I:Inv X pins σ H s):interactive X.env=false:=by simp [interactive,I.ok.kind]
def OL (te:TE):TS:=λD σ H=>te σ H λ_ H1=>D.nx σ H1
theorem d6 (he:PE X e te) (hs:swapsWith e none pos.line X.env=pure false:=by rfl):PS X (.Expr e pos) (OL te):=by
 intro pins s σ H D I h
 exact wpAny_Expr_any (aN (he pins s σ H _ I h) λv s1 ⟨x,H1,I1,r1,q1⟩=>⟨σ,H1,I1,q1⟩) I.quiet hs
def UO (te:TE):TS:=λD σ H=>te σ H D.rt
theorem aW (he:PE X e te):PS X (.Return (some e) pos) (UO te):=by
 intro pins s σ H D I h
 exact wpAny_Return_some (aN (he pins s σ H _ I h) λv s1 ⟨x,H1,I1,r1,q1⟩=>⟨x,σ,H1,I1,r1,q1⟩)
def OM:TS:=λD _ H=>D.rt .aQ H
theorem zW:PS X (.Return none pos) OM:=λ_ _ σ H _ I h=>wpAny_Return_none ⟨.aQ,σ,H,I,rfl,h⟩
def UP (c:TT) (t u:TS):TS:=λD σ H=>c σ H λb H1=>if b=true then t D σ H1 else u D σ H1
theorem cS {c:Expr}{a b:List Stmt}{tc:TT}(hc:PT X c tc) (ha:iP X a t) (hb:iP X b u):PS X (.If c a b pos) (UP tc t u):=by
 intro pins s σ H D I h
 refine wpAny_If (aN (hc pins s σ H _ I h) λd s1 ⟨H1,I1,q1⟩=>?_)
 cases d with
 | true=>exact ha pins s1 σ H1 D I1 q1
 | false=>exact hb pins s1 σ H1 D I1 q1
def KA:TS:=λ_ _ _=>False
theorem C7 {YX:List Stmt} : iP X YX KA:=λ_ _ _ _ _ _ h=>h.elim
end
abbrev TG:=V->St->Hp->(St->Hp->Prop)->Prop
abbrev xg:=List V->St->Hp->(St->Hp->Prop)->Prop
def PG (X:Cx) (target:Expr) (t:TG):Prop:=
 ∀(pins:List (Addr×Obj)) (s:Shared) (σ:St) (H:Hp) (v:V) (u:Value) (Q:St->Hp->Prop),Inv X pins σ H s->RelV v u->t v σ H Q->
  wpAny (model X.prog X.w) X.A (assign target X.env u) (λ_ s'=>∃cA H',Inv X pins cA H' s'/\Q cA H') X.xe s
def Ho (X:Cx) (ts:List Expr) (t:xg):Prop:=
 ∀(pins:List (Addr×Obj)) (s:Shared) (σ:St) (H:Hp) (vs:List V) (us:List Value) (Q:St->Hp->Prop),Inv X pins σ H s->Vals vs us->t vs σ H Q->
  wpAny (model X.prog X.w) X.A (assignInOrder ((assignEach ts X.env).map (·.2)) us) (λ_ s'=>∃cA H',Inv X pins cA H' s'/\Q cA H') X.xe s
abbrev Fv:=V->V->V->Hp->(Hp->Prop)->Prop
def KC (X:Cx) (t:Fv):Prop:=
 ∀(pins:List (Addr×Obj)) (s:Shared) (σ:St) (H:Hp) (o i v:V) (ov iv u:Value) (Q:Hp->Prop),Inv X pins σ H s->RelV o ov->RelV i iv->RelV v u->t o i v H Q->
  wpAny (model X.prog X.w) X.A (setItem ov iv u) (λ_ s'=>∃H',Inv X pins σ H' s'/\Q H') X.xe s
section
variable {X:Cx}{pos:Pos}
def eS (i:Nat):TG:=λv σ H Q=>Q (σ.set i (some v)) H
theorem aF {i:Nat}{x:Str}(hN:X.N.Nodup) (hi:X.N[i]?=some x) (hx:Loc X.env.scope x) (hf:X.fn x=true\/X.env.scope.names.lookup x=some .local:=by first | exact .inl rfl | exact .inr rfl | assumption):PG X (.Name x pos) (eS i):=by
 intro pins s σ H v u Q I r h
 exact wpAny_assign_Name (kz I hN hi hx r (λs' I'=>⟨_,H,I',h⟩) hf)
def Fw:xg:=λvs σ H Q=>vs=[]/\Q σ H
def sZ (t:TG) (u:xg):xg:=λvs σ H Q=>∃v r,vs=v::r/\t v σ H λcA H'=>u r cA H' Q
theorem iD:Ho X [] Fw:=by
 intro pins s σ H vs us Q I r h
 obtain ⟨e,h⟩:=h
 subst e
 cases r
 exact assignInOrder_nil ⟨σ,H,I,h⟩
theorem bY {e:Expr}{es:List Expr}{t:TG}{u:xg}(h1:PG X e t) (h2:Ho X es u)
 (hs:(assignEach (e::es) X.env).map (·.2)=assign e X.env::(assignEach es X.env).map (·.2):=by rfl):Ho X (e::es) (sZ t u):=by
 intro pins s σ H vs us Q I r h
 obtain ⟨v,vr,e1,h⟩:=h
 subst e1
 cases r with
 | cons r rr=>
  rw [hs]
  refine assignInOrder_cons (aN (h1 pins s σ H _ _ _ I r h) λ_ s1 ⟨σ1,H1,I1,q1⟩=>?_)
  exact h2 pins s1 σ1 H1 _ _ Q I1 rr q1
def Fx (K:W.Frag) (n:Nat) (t:xg):TG:=λv σ H Q=>∃a xs,v=.ref a/\aR K H a xs/\xs.length=n/\t xs σ H Q
theorem jz {es:List Expr}{k:Nat}{t:xg}{n:Nat}(hc:X.calm=true) (h:Ho X es t)
 (hn:(assignEach es X.env).length=n:=by rfl) (jA:(assignEach es X.env).findIdx? (·.1)=none:=by rfl):PG X (.Tuple es k pos) (Fx X.K n t):=by
 intro pins s σ H v u Q I r hw
 obtain ⟨a,xs,e1,hq,hl,hw⟩:=hw
 subst e1
 cases r
 obtain ⟨its,rv,ht,hz⟩:=I.tuple hq
 refine assign_Tuple_tuple (I.ok.hd hc) ht (by simp [hn,← hl,rv.length]) jA λh' hx=>?_
 have I1:Inv X pins σ H { s with heap:=h' }:=I.kept (t':=s.toks) λb o e=>hx b o (Nat.ne_of_lt (Heap.lt_size e)) e
 exact h pins _ σ H xs _ Q I1 (by simpa using rv) hw
def UQ (to ti:TE) (t:Fv):TG:=λv σ H Q=>to σ H λo H1=>ti σ H1 λi H2=>t o i v H2 λH3=>Q σ H3
theorem KD {o i:Expr}{to ti:TE}{t:Fv}(ho:PE X o to) (hi:PE X i ti) (hs:KC X t)
 (ha:∀v,assign (.Subscript o i pos) X.env v=(do
  let ov ← holding [v] (eval o X.env)
  let iv ← holding [v,ov] (eval i X.env)
  standAt pos
  holding [v,ov,iv] (setItem ov iv v)
  release [v,ov,iv] []):=by intro _; rfl):PG X (.Subscript o i pos) (UQ to ti t):=by
 intro pins s σ H v u Q I r h
 rw [ha]
 refine wpAny_bind (wpAny_holding (aN (ho pins s σ H _ I h) λov s1 ⟨x,H1,I1,r1,q1⟩=>?_))
 refine wpAny_bind (wpAny_holding (aN (hi pins s1 σ H1 _ I1 q1) λiv s2 ⟨y,H2,I2,r2,q2⟩=>?_))
 refine wpAny_bind (wpAny_standAt (wpAny_bind (wpAny_holding (aN (hs pins s2 σ H2 x y v ov iv u _ I2 r1 r2 r q2) λ_ s3 ⟨H3,I3,q3⟩=>?_))))
 exact wpAny_release ⟨σ,H3,I3,q3⟩
def Fy (te:TE) (g:TG):TS:=λD σ H=>te σ H λx H1=>g x σ H1 D.nx
theorem KH {tg e:Expr}{te:TE}{g:TG}(he:PE X e te) (hg:PG X tg g) (hs:swapsWithSole [tg] e pos.line X.env=pure false:=by rfl) (hw:swappedStores [tg] e X.env=pure none:=by rfl)
 (h1:(assignEach [tg] X.env).map (·.2)=[assign tg X.env]:=by rfl):PS X (.Assign [tg] e pos) (Fy te g):=by
 intro pins s σ H D I h
 refine wpAny_Assign_stores (aN (he pins s σ H _ I h) λv s1 ⟨x,H1,I1,r1,q1⟩=>?_) hs hw
 rw [h1]
 exact aN (hg pins s1 σ H1 x v _ I1 r1 q1) λ_ s2 q=>q
theorem aE {i:Nat}{x:Str}{e:Expr}{te:TE}{pos':Pos}(hN:X.N.Nodup) (hi:X.N[i]?=some x) (hx:Loc X.env.scope x) (he:PE X e te) (hs:swapsWith e (some (.Name x pos')) pos.line X.env=pure false:=by rfl) (hf:X.fn x=true\/X.env.scope.names.lookup x=some .local:=by first | exact .inl rfl | exact .inr rfl | assumption) :
 PS X (.Assign [.Name x pos'] e pos) (Fy te (eS i)):=by
 intro pins s σ H D I h
 refine wpAny_Assign_Name (aN (he pins s σ H _ I h) λv s1 ⟨y,H1,I1,r1,q1⟩=>?_) hs
 exact kz I1 hN hi hx r1 (λs2 I2=>⟨_,H1,I2,q1⟩) hf
end
section
variable {X:Cx}{pos:Pos}
end
structure It where
 go:Nat->Hp->Prop
 yld:Nat->Hp->V->Hp->Prop
 stop:Nat->Hp->Prop
def iS (X:Cx) (pins:List (Addr×Obj)) (H:Hp) (b:Addr):Prop:=
 H b=none/\b≠X.env.locals/\b∉X.fs/\(b∈X.ex\/X.jR.heap.objs.size<=b)/\(∀x c,X.env.cells.lookup x=some c->c≠b)/\∀p∈X.pn++pins,p.1≠b
theorem Inv.uL {X:Cx}{pins:List (Addr×Obj)}{σ:St}{H H':Hp}{s:Shared}{b:Addr}(I:Inv X pins σ H s) (hb:s.heap.objs.size<=b) (hn:H' b=none):iS X pins H' b:=by
 refine ⟨hn,Nat.ne_of_gt (Nat.lt_of_lt_of_le I.lt hb),I.UH hb,.inr (Nat.le_trans I.sz hb),λx c e z=>?_,λp hp z=>?_⟩
 . obtain ⟨v,q⟩:=I.cell x c e
   exact absurd (Nat.lt_of_lt_of_le q.lt (by rw [z]; exact hb)) (Nat.lt_irrefl _)
 . exact absurd (Nat.lt_of_lt_of_le (Heap.lt_size (I.pin p hp).1) (by rw [z]; exact hb)) (Nat.lt_irrefl _)
structure Turn (P:Program) (w:World) (K:W.Frag) (tg:Expr) (J:It) (fp:List Addr) (it:Addr) (tn:Nat->Heap->Prop):Prop where
 mem:it∈fp
 obj:∀i h,tn i h->∀b∈fp,∃o,h.get? b=some o/\∀v,o.data≠.cell v
 keep:∀i h h',tn i h->(∀b∈fp,∀o,h.get? b=some o->h'.get? b=some o)->tn i h'
 item:∀(X:Cx),X.prog=P->X.w=w->X.K=K->X.calm=true->∀(i:Nat) (pins:List (Addr×Obj)) (s:Shared) (σ:St) (H:Hp) (E:Value->Shared->Prop),Inv X pins σ H s->(∀b∈fp,iS X pins H b)->tn i s.heap->J.go i H->
  wpAny (model P w) X.A (pyNext (.ref it)) (λr s1=>∃u,r=some u/\
   wpAny (model P w) X.A (letOwnedTupleGo tg (.ref it) u) (λ_ s2=>∃x H',Inv X pins σ H' s2/\RelV x u/\J.yld i H x H'/\tn (i+1) s2.heap/\∀b∈fp,H' b=none) E s1) E s
 done:∀(X:Cx),X.prog=P->X.w=w->X.K=K->X.calm=true->∀(i:Nat) (pins:List (Addr×Obj)) (s:Shared) (σ:St) (H:Hp) (E:Value->Shared->Prop),Inv X pins σ H s->(∀b∈fp,iS X pins H b)->tn i s.heap->J.stop i H->
  wpAny (model P w) X.A (pyNext (.ref it)) (λr s1=>r=none/\Inv X pins σ H s1) E s
 self:∀(A:Around) (i:Nat) (s:Shared) (Q:Value->Shared->Prop) (E:Value->Shared->Prop),tn i s.heap->Q (.ref it) s->wpAny (model P w) A (pyIter (.ref it)) Q E s
abbrev TI:=St->Hp->(It->Hp->Prop)->Prop
def RL (X:Cx) (pins:List (Addr×Obj)) (σ:St) (tg:Expr) (R:It->Hp->Prop) (KI:Value) (s2:Shared):Prop:=
 ∃(it:Addr) (fp:List Addr) (tn:Nat->Heap->Prop) (J:It) (H':Hp),KI=.ref it/\Inv X pins σ H' s2/\Turn X.prog X.w X.K tg J fp it tn/\tn 0 s2.heap/\(∀b∈fp,iS X pins H' b)/\R J H'
def PI (X:Cx) (tg iter:Expr) (wi:TI):Prop:=
 ∀(pins:List (Addr×Obj)) (s:Shared) (σ:St) (H:Hp) (R:It->Hp->Prop),Inv X pins σ H s->wi σ H R->
  wpAny (model X.prog X.w) X.A (eval iter X.env) (λv s1=>wpAny (model X.prog X.w) X.A (pyIter v) (RL X pins σ tg R) X.xe s1) X.xe s
theorem wG {M:Model}{A:Around}{E:Value->Shared->Prop}{s:Shared}{tg:Expr}{it:Addr}{u:Value}{o:Obj}{n:String}{vs:Array Value}{Q:Unit->Shared->Prop}(ho:s.heap.get? it=some o) (hc:o.cls=.type n) (hd:o.data=.fields vs)
 (hn:["enumerate", "zip", "dict_itemiterator", "dict_reverseitemiterator", "odict_iterator", "itertools.zip_longest", "itertools.pairwise"].contains n=false) (hQ:Q () s):wpAny M A (letOwnedTupleGo tg (.ref it) u) Q E s:=by
 unfold letOwnedTupleGo
 cases tg <;> first
  | exact wpAny_pure hQ
  | (cases u <;> first
      | exact wpAny_pure hQ
      | (refine wpAny_bind (wpAny_load ho ?_)
         rw [hc,hd]
         show wpAny M A (if (["enumerate", "zip", "dict_itemiterator", "dict_reverseitemiterator", "odict_iterator", "itertools.zip_longest", "itertools.pairwise"].contains n && vs[0]? == some (rawInt _))=true then _ else _) Q E s
         rw [if_neg (by intro h; rw [hn,Bool.false_and] at h; cases h)]
         exact wpAny_pure hQ))
def oQ (K:W.Frag) (a:Addr):It:=
 ⟨λi H=>∃xs x,av K H a xs/\xs[i]?=some x,λi H x H'=>H'=H/\∀xs,av K H a xs->xs[i]?=some x,λi H=>∃xs,av K H a xs/\xs.length<=i⟩
def zX (lo:Int) (n:Nat):It:=⟨λi _=>i<n,λi H x H'=>H'=H/\x=.int (lo+i),λi _=>n<=i⟩
theorem C8 {P:Program}{w:World}{K:W.Frag}{tg:Expr}(a it:Addr):Turn P w K tg (oQ K a) [it] it (λi h=>h.IsListIter it a i) where
 mem:=by simp
 obj:=λi h st b hb=>by
  have e:b=it:=by simpa using hb
  subst e
  obtain ⟨o,e,c,d⟩:=st
  exact ⟨o,e,λv z=>by rw [d] at z; cases z⟩
 keep:=λi h h' st k=>st.at λo e=>k it (by simp) o e
 item:=by
  intro X hP hw hK hc i pins s σ H E I hf st hg
  subst hP hw hK
  obtain ⟨xs,x,hq,hx⟩:=hg
  obtain ⟨its,rv,p,hz⟩:=I.list hq
  obtain ⟨u,hu,ru⟩:=rv.get hx
  obtain ⟨f0,f1,f2,f3,f4,f5⟩:=hf it (by simp)
  refine wpAny_pyNext_list_item st p.isList (x:=u) (by simpa using hu) λh' aG sb=>?_
  have I1:Inv X pins σ H { s with heap:=h' }:=I.turned (t':=s.toks) (λb o hb e=>(sb.2 b hb).trans e) f0 f1 f3 f4 f5
  obtain ⟨o,e,c,d⟩:=id aG
  exact ⟨u,rfl,wG (s:={ s with heap:=h' }) e c d (by decide) ⟨x,H,I1,ru,⟨rfl,λys hy=>by rw [I.rN hy hq]; exact hx⟩,aG,λb hb=>(hf b hb).1⟩⟩
 done:=by
  intro X hP hw hK hc i pins s σ H E I hf st hg
  subst hP hw hK
  obtain ⟨xs,hq,hx⟩:=hg
  obtain ⟨its,rv,p,hz⟩:=I.list hq
  obtain ⟨f0,f1,f2,f3,f4,f5⟩:=hf it (by simp)
  have hl:=rv.length
  exact wpAny_pyNext_list_end (I.ok.hd hc) st p.isList (by simp; omega) λh' eb=>⟨rfl,I.turned (t':=s.toks) (λb o hb e=>eb b o hb e) f0 f1 f3 f4 f5⟩
 self:=λ_ _ _ _ _ st h=>wpAny_pyIter_listiter st h
theorem BF {P:Program}{w:World}{K:W.Frag}{tg:Expr}(it:Addr) (lo:Int) (n:Nat):Turn P w K tg (zX lo n) [it] it (λi h=>IsRangeIter h it (lo+(i:Nat)*1) ((n:Int)-(i:Nat)) 1) where
 mem:=by simp
 obj:=λi h st b hb=>by
  have e:b=it:=by simpa using hb
  subst e
  exact ⟨_,st,λv z=>by
   have z':Data.fields _=Data.cell v:=z
   cases z'⟩
 keep:=λi h h' st k=>k it (by simp) _ st
 item:=by
  intro X hP hw hK hc i pins s σ H E I hf st hg
  subst hP hw hK
  obtain ⟨f0,f1,f2,f3,f4,f5⟩:=hf it (by simp)
  have W:=Walks.range (prog:=X.prog) (w:=X.w) (I.ok.hd hc) it lo 1 n
  refine W.item i s _ _ hg st λv h' tk hv aG kk=>?_
  obtain ⟨t,rfl⟩:=hv
  have I1:Inv X pins σ H { s with heap:=h',toks:=tk }:=I.turned (λb o hb e=>kk b o (by simpa using hb) e) f0 f1 f3 f4 f5
  refine ⟨_,rfl,wG (s:={ s with heap:=h',toks:=tk }) (n:="range_iterator") aG rfl rfl (by decide) ⟨.int (lo+i),H,I1,⟨t,?_⟩,⟨rfl,rfl⟩,aG,λb hb=>(hf b hb).1⟩⟩
  rw [Int.mul_one]
 done:=by
  intro X hP hw hK hc i pins s σ H E I hf st hg
  subst hP hw hK
  obtain ⟨f0,f1,f2,f3,f4,f5⟩:=hf it (by simp)
  exact wpAny_pyNext_range_end (I.ok.hd hc) st (by have:n<=i:=hg; omega) λh' eb=>⟨rfl,I.turned (t':=s.toks) (λb o hb e=>eb b o hb e) f0 f1 f3 f4 f5⟩
 self:=λ_ _ _ _ _ st h=>wpAny_pyIter_rangeiter st h
end L2
namespace L2
open PySem PySem.Spec PyProof.Rows
section
variable {X:Cx}{tg:Expr}
def ON (K:W.Frag) (tl:TE):TI:=λσ H R=>tl σ H λx H1=>∃a,x=.ref a/\(∃xs,av K H1 a xs)/\R (oQ K a) H1
theorem cG {l:Expr}{tl:TE}(hl:PE X l tl):PI X tg l (ON X.K tl):=by
 intro pins s σ H R I h
 refine aN (hl pins s σ H _ I h) λv s1 ⟨x,H1,I1,r1,q1⟩=>?_
 obtain ⟨a,e,⟨xs,hq⟩,q⟩:=q1
 subst e
 cases r1
 obtain ⟨its,rv,p,hz⟩:=I1.list hq
 refine wpAny_pyIter_list p.isList ?_
 refine ⟨s1.heap.objs.size,[s1.heap.objs.size],_,_,H1,rfl,I1.kept (t':=s1.toks) λb o e=>Heap.get?_push_of_some _ e,C8 a _,⟨_,Heap.get?_push_size _ rfl,rfl,rfl⟩,λb hb=>?_,q⟩
 have e:b=s1.heap.objs.size:=by simpa using hb
 subst e
 exact I1.uL (Nat.le_refl _) (I1.hok.fresh (Nat.le_refl _))
theorem Fz {pins:List (Addr×Obj)}{σ:St}{H:Hp}{s:Shared}{R:It->Hp->Prop}{E:Value->Shared->Prop}{lo hi:Int}{t u v:Tok}{tk:Nat}(I:Inv X pins σ H s) (h1 : -(2 ^ 62)<=lo) (h2:lo<2 ^ 62) (h3 : -(2 ^ 62)<=hi) (h4:hi<2 ^ 62)
 (q:R (zX lo (hi-lo).toNat) H):wpAny (model X.prog X.w) X.A (pyIter (.ref s.heap.objs.size)) (RL X pins σ tg R) E { s with heap:=s.heap.push { cls:=.type "range",data:=.fields #[.int lo t,.int hi u,.int 1 v] },toks:=tk }:=by
 refine wpAny_pyIter_range (IsRange.new ..) (small_one h1 h2 h3 h4) ?_
 have I1:Inv X pins σ H { s with heap:=s.heap.push { cls:=.type "range",data:=.fields #[.int lo t,.int hi u,.int 1 v] },toks:=tk }:=I.kept λb o e=>Heap.get?_push_of_some _ e
 refine ⟨(s.heap.push { cls:=.type "range",data:=.fields #[.int lo t,.int hi u,.int 1 v] }).objs.size,[(s.heap.push { cls:=.type "range",data:=.fields #[.int lo t,.int hi u,.int 1 v] }).objs.size],_,_,H,rfl,
  I1.kept (t':=tk) λb o e=>Heap.get?_push_of_some _ e,BF _ lo (hi-lo).toNat,?_,λb hb=>?_,q⟩
 . have e1:lo+((0:Nat):Int)*1=lo:=by simp
   have e2:(((hi-lo).toNat:Nat):Int)-((0:Nat):Int)=Builtin.Range.rangeSize lo hi 1:=by rw [rangeSize_one]; split <;> omega
   show IsRangeIter _ _ (lo+((0:Nat):Int)*1) ((((hi-lo).toNat:Nat):Int)-((0:Nat):Int)) 1
   rw [e1,e2]
   exact Heap.get?_push_size _ rfl
 . have e:b=(s.heap.push { cls:=.type "range",data:=.fields #[.int lo t,.int hi u,.int 1 v] }).objs.size:=by simpa using hb
   subst e
   exact I1.uL (Nat.le_refl _) (I1.hok.fresh (Nat.le_refl _))
def OO (ta:TA):TI:=λσ H R=>ta σ H λvs H1=>∃j:Int,vs=[.int j] /\ -(2 ^ 62)<=j/\j<2 ^ 62/\R (zX 0 j.toNat) H1
theorem fj {a:Expr}{ta:TA}{p pos:Pos}(hg:Gl X "range") (hm:X.mg "range" = none) (ha:PA X [a] ta) (hs:starEach [a] X.env=[(false,eval a X.env)]:=by rfl):PI X tg (.Call (.Name "range" p) [a] [] pos) (OO ta):=by
 intro pins s σ H R I h
 refine Call_ (iQ I hg hm boot_range (PyProof.Rows.callWith_type1 (aN (ha pos pins s σ H _ I h) λus s1 ⟨vs,H1,I1,r1,q1⟩=>?_) hs rfl))
 obtain ⟨j,e,q1,q2,q⟩:=q1
 subst e
 cases r1 with
 | cons r rr=>
  cases rr
  obtain ⟨t,rfl⟩:=r
  exact call_range_1 (Fz I1 (by omega) (by omega) q1 q2 (by simpa using q))
def UR (wi:TI) (g:TG) (tb:TS):TS:=λD σ H=>wi σ H λJ H1=>∃W:Nat->Nat->St->Hp->Prop,(∃m,W 0 m σ H1)/\∀i m σ H,W i m σ H->
 (J.stop i H/\D.nx σ H)\/(J.go i H/\∃N:St->Hp->Prop,(∀cA H',N cA H'->∃m',m'<m/\W (i+1) m' cA H')/\∀x H',J.yld i H x H'->g x σ H' λiu H2=>tb { D with nx:=N,ct:=N,bk:=D.nx } iu H2)
def oR (fp:List Addr) (h:Heap):List (Addr×Obj):=fp.filterMap λb=>(h.get? b).map λo=>(b,o)
theorem j4 {fp:List Addr}{h:Heap}{b:Addr}{o:Obj}(hb:b∈fp) (e:h.get? b=some o):(b,o)∈oR fp h:=List.mem_filterMap.mpr ⟨b,hb,by rw [e]; rfl⟩
theorem C9 {fp:List Addr}{h:Heap}{p:Addr×Obj}(hp:p∈oR fp h):p.1∈fp/\h.get? p.1=some p.2:=by
 obtain ⟨b,hb,e⟩:=List.mem_filterMap.mp hp
 cases q:h.get? b with
 | none=>rw [q] at e; cases e
 | some o=>
  rw [q] at e
  have e':(b,o)=p:=Option.some.inj e
  subst e'
  exact ⟨hb,q⟩
theorem Inv.pinned {pins:List (Addr×Obj)}{σ:St}{H:Hp}{s:Shared}{fp:List Addr}(I:Inv X pins σ H s) (hf:∀b∈fp,iS X pins H b) (ho:∀b∈fp,∃o,s.heap.get? b=some o/\∀v,o.data≠.cell v):Inv X (pins++oR fp s.heap) σ H s:=
 I.zU λp hp=>(List.mem_append.mp hp).elim (λz=>I.pin p (List.mem_append_right _ z)) λz=>by
  obtain ⟨hb,e⟩:=C9 z
  obtain ⟨f0,f1,f2,_⟩:=hf p.1 hb
  obtain ⟨o,e',d⟩:=ho p.1 hb
  rw [e] at e'; cases e'
  exact ⟨e,f0,f1,f2,d⟩
theorem Inv.nB {pins pl:List (Addr×Obj)}{σ:St}{H:Hp}{s:Shared}(I:Inv X (pins++pl) σ H s):Inv X pins σ H s:=I.zU λp hp=>I.pin p (List.mem_append_right _ (List.mem_append_left _ hp))
theorem dG {iter:Expr}{body:List Stmt}{wi:TI}{g:TG}{tb:TS}{pos:Pos}(hp:PassesOwn (model X.prog X.w) X.A X.env X.xe) (hc:X.calm=true) (hi:PI X tg iter wi) (hg:PG X tg g) (hb:iP X body tb)
 (hs:∀x,foldedSetIterable iter X.env x=pure x:=by intro _; rfl):PS X (.For tg iter body [] pos) (UR wi g tb):=by
 intro pins s σ H D I h
 refine wpAny_For (aN (hi pins s σ H _ I h) λv s1 h1=>aN h1 λKI s2 h2=>?_) hs
 obtain ⟨it,fp,tn,J,H2,e,I2,T,xh,f2,W,⟨m0,w0⟩,turn⟩:=h2
 subst e
 have FA:∀{H':Hp},(∀b∈fp,H' b=none)->∀b∈fp,iS X pins H' b:=λhn b hb=>⟨hn b hb,(f2 b hb).2⟩
 refine codeAny_forLoop_any (λn s'=>∃i cA H',Inv X pins cA H' s'/\tn i s'.heap/\(∀b∈fp,H' b=none)/\W i n cA H') ?_ m0 ⟨0,σ,H2,I2,xh,λb hb=>(f2 b hb).1,w0⟩
 rintro n s3 ⟨i,KJ,H3,I3,RM,RN,w3⟩
 rcases turn i n KJ H3 w3 with ⟨stop,qn⟩ | ⟨go,N,hN,step⟩
 . refine wpAny_passesOwn hp (aN (T.done X rfl rfl rfl hc i pins s3 KJ H3 X.xe I3 (FA RN) RM stop) λr s4 ⟨hr,I4⟩=>?_)
   subst hr
   exact wpAny_execs_nil ⟨KJ,H3,I4,qn⟩
 . refine wpAny_passesOwn hp (aN (T.item X rfl rfl rfl hc i pins s3 KJ H3 X.xe I3 (FA RN) RM go) λr s4 ⟨u,hr,h4⟩=>?_)
   subst hr
   refine wpAny_passesOwn hp (aN h4 λ_ s5 ⟨x,H5,I5,r5,y5,zY,Hq⟩=>?_)
   have YY:=I5.pinned (FA Hq) (T.obj _ _ zY)
   refine wpAny_passesOwn hp (aN (hg _ s5 KJ H5 x u _ YY r5 (step x H5 y5)) λ_ s6 ⟨σ6,H6,I6,q6⟩=>?_)
   refine wpAny_passesOwn hp (aN (hb _ s6 σ6 H6 _ I6 q6) λf s7 q7=>?_)
   have again:∀{xi:St}{H7:Hp},Inv X (pins++oR fp s5.heap) xi H7 s7->N xi H7->∃m,m<n/\∃i cA H',Inv X pins cA H' s7/\tn i s7.heap/\(∀b∈fp,H' b=none)/\W i m cA H':=λ{xi H7} I7 n7=>by
    obtain ⟨m',hm,w7⟩:=hN xi H7 n7
    refine ⟨m',hm,i+1,xi,H7,I7.nB,T.keep _ _ _ zY λb hb o e=>(I7.pin (b,o) (List.mem_append_right _ (List.mem_append_right _ (j4 hb e)))).1,λb hb=>?_,w7⟩
    obtain ⟨o,e,d⟩:=T.obj _ _ zY b hb
    exact (I7.pin (b,o) (List.mem_append_right _ (List.mem_append_right _ (j4 hb e)))).2.1
   cases f with
   | next=>obtain ⟨xi,H7,I7,n7⟩:=q7; exact again I7 n7
   | cont=>obtain ⟨xi,H7,I7,n7⟩:=q7; exact again I7 n7
   | brk=>obtain ⟨xi,H7,I7,q7⟩:=q7; exact ⟨xi,H7,I7.nB,q7⟩
   | ret v=>obtain ⟨x7,xi,H7,I7,r7,q7⟩:=q7; exact ⟨x7,xi,H7,I7.nB,r7,q7⟩
end
theorem iw {K:W.Frag}{a:Addr}{xs:List V}{g:TG}{tb:TS}{D:Ends}{σ:St}{H:Hp}(Pv:Nat->St->Hp->Prop) (h0:Pv 0 σ H) (hl:∀i σ H,i<=xs.length->Pv i σ H->av K H a xs)
 (hs:∀i x σ H,xs[i]?=some x->Pv i σ H->g x σ H λiu H2=>tb { D with nx:=Pv (i+1),ct:=Pv (i+1),bk:=D.nx } iu H2) (hd:∀σ H,Pv xs.length σ H->D.nx σ H) :
 ∃W:Nat->Nat->St->Hp->Prop,(∃m,W 0 m σ H)/\∀i m σ H,W i m σ H->
  ((oQ K a).stop i H/\D.nx σ H)\/((oQ K a).go i H/\∃N:St->Hp->Prop,(∀cA H',N cA H'->∃m',m'<m/\W (i+1) m' cA H')/\∀x H',(oQ K a).yld i H x H'->g x σ H' λiu H2=>tb { D with nx:=N,ct:=N,bk:=D.nx } iu H2):=by
 refine ⟨λi m σ H=>m=xs.length-i/\i<=xs.length/\Pv i σ H,⟨xs.length,by simp,Nat.zero_le _,h0⟩,?_⟩
 rintro i m σ H ⟨rfl,hi,p⟩
 have q:=hl i σ H hi p
 by_cases eW:i<xs.length
 . refine .inr ⟨⟨xs,xs[i],q,by simp [eW]⟩,Pv (i+1),λcA H' p'=>⟨xs.length-(i+1),by omega,rfl,eW,p'⟩,λx H' y=>?_⟩
   obtain ⟨e,y⟩:=y
   subst e
   exact hs i x σ _ (y xs q) p
 . have e:i=xs.length:=by omega
   subst e
   exact .inl ⟨⟨xs,q,Nat.le_refl _⟩,hd σ H p⟩
theorem iE {lo:Int}{n:Nat}{g:TG}{tb:TS}{D:Ends}{σ:St}{H:Hp}(Pv:Nat->St->Hp->Prop) (h0:Pv 0 σ H)
 (hs:∀i σ H,i<n->Pv i σ H->g (.int (lo+i)) σ H λiu H2=>tb { D with nx:=Pv (i+1),ct:=Pv (i+1),bk:=D.nx } iu H2) (hd:∀σ H,Pv n σ H->D.nx σ H) :
 ∃W:Nat->Nat->St->Hp->Prop,(∃m,W 0 m σ H)/\∀i m σ H,W i m σ H->
  ((zX lo n).stop i H/\D.nx σ H)\/((zX lo n).go i H/\∃N:St->Hp->Prop,(∀cA H',N cA H'->∃m',m'<m/\W (i+1) m' cA H')/\∀x H',(zX lo n).yld i H x H'->g x σ H' λiu H2=>tb { D with nx:=N,ct:=N,bk:=D.nx } iu H2):=by
 refine ⟨λi m σ H=>m=n-i/\i<=n/\Pv i σ H,⟨n,by simp,Nat.zero_le _,h0⟩,?_⟩
 rintro i m σ H ⟨rfl,hi,p⟩
 by_cases eW:i<n
 . refine .inr ⟨eW,Pv (i+1),λcA H' p'=>⟨n-(i+1),by omega,rfl,eW,p'⟩,λx H' y=>?_⟩
   obtain ⟨e,y⟩:=y
   subst e y
   exact hs i σ _ eW p
 . have e:i=n:=by omega
   subst e
   exact .inl ⟨Nat.le_refl _,hd σ H p⟩
end L2
namespace L2
open PySem PySem.Spec PyProof.Rows
abbrev R2:=V->V->Hp->VK->Prop
def fk (X:Cx) (f:Value->Value->Sem Value) (r:R2):Prop:=
 ∀(pins:List (Addr×Obj)) (s:Shared) (σ:St) (H:Hp) (x y:V) (v u:Value) (Q:VK),Inv X pins σ H s->RelV x v->RelV y u->r x y H Q->
  wpAny (model X.prog X.w) X.A (f v u) (EP X pins σ Q) X.xe s
def KL (X:Cx) (f:Value->Sem Value) (r:V->Hp->VK->Prop):Prop:=
 ∀(pins:List (Addr×Obj)) (s:Shared) (σ:St) (H:Hp) (x:V) (v:Value) (Q:VK),Inv X pins σ H s->RelV x v->r x H Q->
  wpAny (model X.prog X.w) X.A (f v) (EP X pins σ Q) X.xe s
def gp (X:Cx) (f:Value) (r:List V->Hp->VK->Prop):Prop:=
 ∀(pins:List (Addr×Obj)) (s:Shared) (σ:St) (H:Hp) (xs:List V) (us:List Value) (Q:VK),Inv X pins σ H s->Vals xs us->r xs H Q->
  wpAny (model X.prog X.w) X.A (call f us) (EP X pins σ Q) X.xe s
def qR (r:R2) (ta tb:TE):TE:=λσ H Q=>ta σ H λx H1=>tb σ H1 λy H2=>r x y H2 Q
def YZ (r:V->Hp->VK->Prop) (ta:TE):TE:=λσ H Q=>ta σ H λx H1=>r x H1 Q
def rI (C:Int->Int->Prop) (g:Int->Int->V):R2:=λx y H Q=>∃i j,x=.int i/\y=.int j/\C i j/\Q (g i j) H
def zZ (g:Int->Int->V):R2:=λx y H Q=>∃i j,x=.int i/\y=.int j/\Q (g i j) H
def rU (g:Int->V):V->Hp->VK->Prop:=λx H Q=>∃i,x=.int i/\Q (g i) H
section
variable {X:Cx}{a b c:Expr}{ta tb tc:TE}{pos:Pos}
theorem FC (ha:PE X a ta) (hb:PE X b tb){pins:List (Addr×Obj)}{s:Shared}{σ:St}{H:Hp}{R:V->V->Hp->Prop}(I:Inv X pins σ H s)
 (h:ta σ H λx H1=>tb σ H1 λy H2=>R x y H2){Q:Value->Shared->Prop}{f:Value->Value->Sem Value}
 (hf:∀v u s2 x y H2,Inv X pins σ H2 s2->RelV x v->RelV y u->R x y H2->wpAny (model X.prog X.w) X.A (f v u) Q X.xe s2) :
 wpAny (model X.prog X.w) X.A (eval a X.env) (λv cW=>wpAny (model X.prog X.w) X.A (eval b X.env) (λu uK=>wpAny (model X.prog X.w) X.A (f v u) Q X.xe uK) X.xe cW) X.xe s:=by
 refine aN (ha pins s σ H _ I h) λv s1 ⟨x,H1,I1,r1,q1⟩=>?_
 refine aN (hb pins s1 σ H1 _ I1 q1) λu s2 ⟨y,H2,I2,r2,q2⟩=>?_
 exact hf v u s2 x y H2 I2 r1 r2 q2
theorem aK {op:Operator}{r:R2}(ho:fk X (binaryOp op) r) (ha:PE X a ta) (hb:PE X b tb):PE X (.BinOp a op b pos) (qR r ta tb):=by
 intro pins s σ H Q I h
 exact wpAny_BinOp (FC ha hb I h λv u s2 x y H2 I2 rx ry q=>ho pins s2 σ H2 x y v u Q I2 rx ry q)
theorem Hr {op:UnaryOp}{r:V->Hp->VK->Prop}(ho:KL X (unaryOp op) r) (ha:PE X a ta):PE X (.UnaryOp op a pos) (YZ r ta):=by
 intro pins s σ H Q I h
 exact UnaryOp_ (aN (ha pins s σ H _ I h) λv s1 ⟨x,H1,I1,r1,q1⟩=>ho pins s1 σ H1 x v Q I1 r1 q1)
theorem KN {f:Value->Value->Sem Value}{C:Int->Int->Prop}{g:Int->Int->Int}
 (rule:∀(i j:Int) (t u:Tok) (s:Shared) (Q:Value->Shared->Prop) (E:Value->Shared->Prop),C i j->Q (.int (g i j) s.toks) { s with toks:=s.toks+1 } -> wpAny (model X.prog X.w) X.A (f (.int i t) (.int j u)) Q E s) :
 fk X f (rI C λi j=>.int (g i j)):=by
 intro pins s σ H x y v u Q I rx ry h
 obtain ⟨i,j,rfl,rfl,hc,q⟩:=h
 obtain ⟨t,rfl⟩:=rx
 obtain ⟨t',rfl⟩:=ry
 exact rule i j t t' s _ _ hc ⟨.int (g i j),H,I.tok _,⟨_,rfl⟩,q⟩
theorem KO {f:Value->Value->Sem Value}{g:Int->Int->Int}
 (rule:∀(i j:Int) (t u:Tok) (s:Shared) (Q:Value->Shared->Prop) (E:Value->Shared->Prop),Q (.int (g i j) s.toks) { s with toks:=s.toks+1 } -> wpAny (model X.prog X.w) X.A (f (.int i t) (.int j u)) Q E s) :
 fk X f (zZ λi j=>.int (g i j)):=by
 intro pins s σ H x y v u Q I rx ry h
 obtain ⟨i,j,rfl,rfl,q⟩:=h
 obtain ⟨t,rfl⟩:=rx
 obtain ⟨t',rfl⟩:=ry
 exact rule i j t t' s _ _ ⟨.int (g i j),H,I.tok _,⟨_,rfl⟩,q⟩
theorem KP {f:Value->Value->Sem Value}{g:Int->Int->Bool}
 (rule:∀(i j:Int) (t u:Tok) (s:Shared) (Q:Value->Shared->Prop) (E:Value->Shared->Prop),Q (.bool (g i j)) s->wpAny (model X.prog X.w) X.A (f (.int i t) (.int j u)) Q E s) :
 fk X f (zZ λi j=>.bl (g i j)):=by
 intro pins s σ H x y v u Q I rx ry h
 obtain ⟨i,j,rfl,rfl,q⟩:=h
 obtain ⟨t,rfl⟩:=rx
 obtain ⟨t',rfl⟩:=ry
 exact rule i j t t' s _ _ ⟨.bl (g i j),H,I,rfl,q⟩
def US (i j:Int):Prop:=0<j/\j<1073741824
def FD (i j:Int):Prop:=(-(2 ^ 64)<i/\i<2 ^ 64)\/(-(2 ^ 64)<j/\j<2 ^ 64)
theorem FD.ok {i j:Int}(h:FD i j):IntMulOk i j:=by
 rcases h with ⟨h1,h2⟩ | ⟨h1,h2⟩
 . exact .of_left (intBits_le_64 h1 h2)
 . exact .of_right (intBits_le_64 h1 h2)
theorem fJ:fk X (binaryOp .Add) (zZ λi j=>.int (i+j)):=KO λ_ _ _ _ _ _ _ q=>add_int q
theorem Dc:fk X (binaryOp .Sub) (zZ λi j=>.int (i-j)):=KO λ_ _ _ _ _ _ _ q=>sub_int q
theorem iT:fk X (binaryOp .Mult) (rI FD λi j=>.int (i*j)):=KN λ_ _ _ _ _ _ _ hc q=>mul_int q hc.ok
theorem pZ:fk X (binaryOp .FloorDiv) (rI US λi j=>.int (i / j)):=KN λi j _ _ _ _ _ hc q=>by
 have h1:(0:Int)<j:=hc.1
 have h2:j<1073741824:=hc.2
 exact floordiv_int (by omega) (by rw [Int.fdiv_eq_ediv_of_nonneg i (by omega)]; exact q) (.inl (PyProof.noPylong_small (by omega)))
theorem kF:fk X (binaryOp .Mod) (rI (λ_ j=>0<j) λi j=>.int (i % j)):=KN λi j _ _ _ _ _ hc q=>by
 have h1:(0:Int)<j:=hc
 exact mod_int' (by omega) (by rw [Int.fmod_eq_emod_of_nonneg i (by omega)]; exact q)
theorem Y0 {f:Value->Sem Value}{g:Int->Int}
 (rule:∀(i:Int) (t:Tok) (s:Shared) (Q:Value->Shared->Prop) (E:Value->Shared->Prop),Q (.int (g i) s.toks) { s with toks:=s.toks+1 } -> wpAny (model X.prog X.w) X.A (f (.int i t)) Q E s) :
 KL X f (rU λi=>.int (g i)):=by
 intro pins s σ H x v Q I rx h
 obtain ⟨i,rfl,q⟩:=h
 obtain ⟨t,rfl⟩:=rx
 exact rule i t s _ _ ⟨.int (g i),H,I.tok _,⟨_,rfl⟩,q⟩
theorem De:KL X (unaryOp .USub) (rU λi=>.int (-i)):=Y0 λ_ _ _ _ _ q=>neg_int q
end
def KQ:V->V->Bool
 | .aQ,.aQ=>true | .aQ,.int _=>true | .int _,.aQ=>true | .aQ,.bl _=>true | .bl _,.aQ=>true | .aQ,.str _=>true | .str _,.aQ=>true
 | .int _,.int _=>true | .bl _,.bl _=>true | .str _,.str _=>true | .l9 _,.l9 _=>true
 | .int _,.str _=>true | .str _,.int _=>true | .bl _,.str _=>true | .str _,.bl _=>true
 | _,_=>false
def Y1:R2:=λx y H Q=>KQ x y=true/\Q (.bl (decide (x=y))) H
def Y2:R2:=λx y H Q=>KQ x y=true/\Q (.bl (!decide (x=y))) H
theorem Aa {i j:Int} : decide (V.int i=V.int j)=(i == j):=by
 rw [Bool.eq_iff_iff]
 simp
theorem Df {i j:Bool} : decide (V.bl i=V.bl j)=(i == j):=by
 rw [Bool.eq_iff_iff]
 simp
theorem Ab {i j:Str} : decide (V.str i=V.str j)=(i == j):=by
 rw [Bool.eq_iff_iff]
 simp
theorem Ac {i j:Array UInt8} : decide (V.l9 i=V.l9 j)=(i.toList == j.toList):=by
 rw [Bool.eq_iff_iff]
 cases i
 cases j
 simp
section
variable {X:Cx}{a b c:Expr}{ta tb tc:TE}{pos:Pos}
theorem bu {pins:List (Addr×Obj)}{σ:St}{H:Hp}{s:Shared}{Q:VK}{k k':Bool}(I:Inv X pins σ H s) (q:Q (.bl k) H) (e:k=k'):EP X pins σ Q (.bool k') s:=by
 subst e
 exact ⟨.bl k,H,I,rfl,q⟩
theorem j5:fk X (compareOp .Eq) Y1:=by
 intro pins s σ H x y v u Q I rx ry h
 obtain ⟨hs,q⟩:=h
 cases x with
 | aQ=>
  cases rx
  cases y with
  | aQ=>cases ry; exact PySem.EqNone.eq_none_none (bu I q (by simp))
  | bl j=>cases ry; exact PySem.EqNone.eq_none_bool (bu I q (by simp))
  | int j=>obtain ⟨t',rfl⟩:=ry; exact PySem.EqNone.eq_none_int (bu I q (by simp))
  | str j=>obtain ⟨t',rfl⟩:=ry; exact PySem.EqNone.eq_none_str (bu I q (by simp))
  | _=>exact absurd (show false=true from hs) Bool.false_ne_true
 | bl i=>
  cases rx
  cases y with
  | aQ=>cases ry; exact PySem.EqNone.eq_bool_none (bu I q (by simp))
  | bl j=>cases ry; exact eq_bool (bu I q Df)
  | str j=>obtain ⟨t',rfl⟩:=ry; exact PySem.EqMixed.eq_bool_str (bu I q (by simp))
  | _=>exact absurd (show false=true from hs) Bool.false_ne_true
 | int i=>
  obtain ⟨t,rfl⟩:=rx
  cases y with
  | aQ=>cases ry; exact PySem.EqNone.eq_int_none (bu I q (by simp))
  | int j=>obtain ⟨t',rfl⟩:=ry; exact eq_int (bu I q Aa)
  | str j=>obtain ⟨t',rfl⟩:=ry; exact PySem.EqMixed.eq_int_str (bu I q (by simp))
  | _=>exact absurd (show false=true from hs) Bool.false_ne_true
 | str i=>
  obtain ⟨t,rfl⟩:=rx
  cases y with
  | aQ=>cases ry; exact PySem.EqNone.eq_str_none (bu I q (by simp))
  | bl j=>cases ry; exact PySem.EqMixed.eq_str_bool (bu I q (by simp))
  | int j=>obtain ⟨t',rfl⟩:=ry; exact PySem.EqMixed.eq_str_int (bu I q (by simp))
  | str j=>obtain ⟨t',rfl⟩:=ry; exact eq_str (bu I q Ab)
  | _=>exact absurd (show false=true from hs) Bool.false_ne_true
 | l9 i=>
  obtain ⟨t,rfl⟩:=rx
  cases y with
  | l9 j=>obtain ⟨t',rfl⟩:=ry; exact W.eq_bytes (bu I q Ac)
  | _=>exact absurd (show false=true from hs) Bool.false_ne_true
 | _=>cases y <;> exact absurd (show false=true from hs) Bool.false_ne_true
theorem Hs:fk X (compareOp .NotEq) Y2:=by
 intro pins s σ H x y v u Q I rx ry h
 obtain ⟨hs,q⟩:=h
 cases x with
 | aQ=>
  cases rx
  cases y with
  | aQ=>cases ry; exact PySem.EqNone.ne_none_none (bu I q (by simp))
  | bl j=>cases ry; exact PySem.EqNone.ne_none_bool (bu I q (by simp))
  | int j=>obtain ⟨t',rfl⟩:=ry; exact PySem.EqNone.ne_none_int (bu I q (by simp))
  | str j=>obtain ⟨t',rfl⟩:=ry; exact PySem.EqNone.ne_none_str (bu I q (by simp))
  | _=>exact absurd (show false=true from hs) Bool.false_ne_true
 | bl i=>
  cases rx
  cases y with
  | aQ=>cases ry; exact PySem.EqNone.ne_bool_none (bu I q (by simp))
  | bl j=>cases ry; exact ne_bool (bu I q (congrArg not Df))
  | str j=>obtain ⟨t',rfl⟩:=ry; exact PySem.EqMixed.ne_bool_str (bu I q (by simp))
  | _=>exact absurd (show false=true from hs) Bool.false_ne_true
 | int i=>
  obtain ⟨t,rfl⟩:=rx
  cases y with
  | aQ=>cases ry; exact PySem.EqNone.ne_int_none (bu I q (by simp))
  | int j=>obtain ⟨t',rfl⟩:=ry; exact ne_int (bu I q (congrArg not Aa))
  | str j=>obtain ⟨t',rfl⟩:=ry; exact PySem.EqMixed.ne_int_str (bu I q (by simp))
  | _=>exact absurd (show false=true from hs) Bool.false_ne_true
 | str i=>
  obtain ⟨t,rfl⟩:=rx
  cases y with
  | aQ=>cases ry; exact PySem.EqNone.ne_str_none (bu I q (by simp))
  | bl j=>cases ry; exact PySem.EqMixed.ne_str_bool (bu I q (by simp))
  | int j=>obtain ⟨t',rfl⟩:=ry; exact PySem.EqMixed.ne_str_int (bu I q (by simp))
  | str j=>obtain ⟨t',rfl⟩:=ry; exact ne_str (bu I q (congrArg not Ab))
  | _=>exact absurd (show false=true from hs) Bool.false_ne_true
 | l9 i=>
  obtain ⟨t,rfl⟩:=rx
  cases y with
  | l9 j=>obtain ⟨t',rfl⟩:=ry; exact W.ne_bytes (bu I q (congrArg not Ac))
  | _=>exact absurd (show false=true from hs) Bool.false_ne_true
 | _=>cases y <;> exact absurd (show false=true from hs) Bool.false_ne_true
theorem Ht:fk X (compareOp .Lt) (zZ λi j=>.bl (decide (i<j))):=KP λ_ _ _ _ _ _ _ q=>lt_int q
theorem Hu:fk X (compareOp .Gt) (zZ λi j=>.bl (decide (j<i))):=KP λ_ _ _ _ _ _ _ q=>gt_int q
theorem dh (b:Expr){op:CmpOp}(h:op≠.In:=by decide) (h2:op≠.NotIn:=by decide):behindInMarks op b=false:=by
 have e1:(op == CmpOp.In)=false:=by cases op <;> first | rfl | exact absurd rfl h
 have e2:(op == CmpOp.NotIn)=false:=by cases op <;> first | rfl | exact absurd rfl h2
 cases b <;> simp [behindInMarks,e1,e2]
theorem uM {op:CmpOp}{r:R2}(ho:fk X (compareOp op) r) (ha:PE X a ta) (hb:PE X b tb) (hm:behindInMarks op b=false):PE X (.Compare a [op] [b] pos) (qR r ta tb):=by
 intro pins s σ H Q I h
 exact wpAny_Compare1 (FC ha hb I h λv u s2 x y H2 I2 rx ry q=>ho pins s2 σ H2 x y v u Q I2 rx ry q) hm
def OP (t:TE):TT:=λσ H Q=>t σ H λx H'=>∃k,x=.bl k/\Q k H'
theorem cN {op:CmpOp}{r:R2}(ho:fk X (compareOp op) r) (ha:PE X a ta) (hb:PE X b tb) (hm:behindInMarks op b=false):PT X (.Compare a [op] [b] pos) (OP (qR r ta tb)):=by
 intro pins s σ H Q I h
 refine wpAny_isTrue_Compare1 (aN (ha pins s σ H _ I h) λv s1 ⟨x,H1,I1,r1,q1⟩=>aN (hb pins s1 σ H1 _ I1 q1) λu s2 ⟨y,H2,I2,r2,q2⟩=>
  aN (ho pins s2 σ H2 x y v u _ I2 r1 r2 q2) λc s3 ⟨z,H3,I3,r3,k,e,q3⟩=>?_) hm
 subst e
 cases r3
 exact wpAny_truthy_bool ⟨H3,I3,q3⟩
theorem mh:(sizeLine:Nat)<2 ^ 63:=by rw [sizeLine_eq]; decide
theorem dX:fk X (binaryOp .Add) (λx y H Q=>∃i j,x=.str i/\y=.str j/\i.length+j.length<=sizeLine/\Q (.str (i++j)) H):=by
 intro pins s σ H x y v u Q I rx ry h
 obtain ⟨i,j,rfl,rfl,hz,q⟩:=h
 obtain ⟨t,rfl⟩:=rx
 obtain ⟨t',rfl⟩:=ry
 exact add_str (λt' tk=>⟨.str (i++j),H,I.tok _,⟨_,rfl⟩,q⟩) hz
theorem vals1 {x:V}{us:List Value}(r:Vals [x] us):∃u,us=[u]/\RelV x u:=by
 cases r with
 | cons r1 r2=>cases r2; exact ⟨_,rfl,r1⟩
theorem vals2 {x y:V}{us:List Value}(r:Vals [x,y] us):∃u w',us=[u,w']/\RelV x u/\RelV y w':=by
 cases r with
 | cons r1 r2=>
  cases r2 with
  | cons r3 r4=>cases r4; exact ⟨_,_,rfl,r1,r3⟩
end
end L2
namespace L2
open PySem PySem.Spec PyProof.Rows
structure rO (h:Heap) (x dx C:Addr) (mA:Str->Option Value):Prop where
 obj:h.get? x=some (W.instObj C dx)
 ns:h.Ns1 dx mA
 ne:dx≠x
theorem Dh {h:Heap}{dx:Addr}{mA:Str->Option Value}(n:h.Ns1 dx mA):∃od,h.get? dx=some od/\∀name,W.lookIn name od=some (mA name):=by
 obtain ⟨o,es,ep,ho,hd,hk,_,hm⟩:=n
 refine ⟨o,ho,λname=>?_⟩
 have e:=hm name
 unfold nsFind findBy at e
 rw [← Array.find?_toList] at e
 unfold W.lookIn
 rw [hd]
 dsimp only
 split
 . rename_i y q
   rw [q] at e
   exact congrArg some e
 . rename_i q
   rw [q] at e
   have a:es.toList.any (·.refKey)=false:=by
    rw [List.any_eq_false]
    intro y hy
    obtain ⟨z,t,kG⟩:=hk y (Array.mem_toList_iff.mp hy)
    simp [DictEntry.refKey,kG]
   have a':¬ es.toList.any (·.refKey)=true:=by rw [a]; exact Bool.false_ne_true
   rw [if_neg a']
   exact congrArg some e
theorem rO.look {h:Heap}{x dx C:Addr}{mA:Str->Option Value}(I:rO h x dx C mA):∃od,W.InstAt h x (W.instObj C dx) C (some od)/\∀name,W.lookIn name od=some (mA name):=
 let ⟨od,ho,hl⟩:=Dh I.ns
 ⟨od,⟨I.obj,rfl,rfl,ho⟩,hl⟩
section
variable {prog:Program}{w:World}{A:Around}{E:Value->Shared->Prop}{s:Shared}{K:W.Frag}{x dx C f:Addr}{mA:Str->Option Value}{name:Str}{v:Value}
theorem get_map {expr:Bool}{Q:Value->Shared->Prop}(X:K.In s.heap) (I:rO s.heap x dx C mA) (hg:W.plainGet K C name=true) (hh:W.hasDictIn K C=true)
 (ha:W.findIn K (.ref C) name=some none) (hv:mA name=some v) (Y3:W.handedIn v=true) (h:Q v { s with toks:=s.toks+1 }) :
 wpAny (model prog w) A (getAttr (.ref x) name expr) Q E s:=by
 obtain ⟨od,J,hl⟩:=I.look
 exact W.get_value X J (W.plainGet_of hg).1 (W.findObj_own hh ha rfl (by rw [hl,hv])) Y3 h
theorem FE {pl:Sem Bool}{Q:Value×List Value->Shared->Prop}(X:K.In s.heap) (I:rO s.heap x dx C mA) (hg:W.plainGet K C name=true)
 (hf:W.findIn K (.ref C) name=some (some (.ref f))) (ht:W.isFn K (.ref f)=true) (hv:mA name=none) (h:Q (.ref f,[.ref x]) s) :
 wpAny (model prog w) A (getMethod (.ref x) name pl) Q E s:=by
 obtain ⟨od,J,hl⟩:=I.look
 exact W.method_fn X J (W.plainGet_of hg).1 (W.plainGet_of hg).2 hf (beq_iff_eq.mp ht) (by show (W.lookIn name od).map (·.isSome)=some false; rw [hl,hv]; rfl) h
theorem Jp {ns:List Str}{Q:Unit->Shared->Prop}(X:K.In s.heap) (I:rO s.heap x dx C mA)
 (hs:W.findIn K (.ref C) "__setattr__" = some (some (.builtin "object.__setattr__"))) (hp:W.plainOver K C=true) (ht:W.takerIn K C name=some none) (hh:W.hasDictIn K C=true)
 (hw:PySem.Within mA ns) (hsz:ns.length<=sizeLine)
 (h:∀h',rO h' x dx C (λy=>if y=name then some v else mA y)->Heap.SameBut dx s.heap h'->Q () { s with heap:=h',toks:=s.toks+2 }) :
 wpAny (model prog w) A (setAttr (.ref x) name v) Q E s:=by
 obtain ⟨od,J,hl⟩:=I.look
 refine W.set_plain X J hs (W.osa_open (s:={ s with toks:=s.toks+1 }) (r:=none) X J hp ht λb=>?_)
 obtain ⟨cd,hc,hd'⟩:=W.any_some hh
 have hx:s.heap.get? x=some ⟨.ref C,some dx,.plain,#[]⟩:=I.obj
 refine wpAny_bind (wpAny_pure (wpAny_bind (wpAny_bind (wpAny_loadPart hx (wpAny_bind (W.Looks.here (s:={ s with toks:=s.toks+1 }) (W.looks_clsIn X hc) ?_))))))
 rw [hd']
 refine wpAny_pure (a:=some dx) (wpAny_bind (wpAny_pure (wpAny_bind ?_)))
 refine wpAny_nsSet1 (s:={ s with toks:=s.toks+1 }) I.ns λh' hV oS=>?_
 obtain ⟨oD,esD,epD,Y4,Y5,Y6⟩:=hV.count (PySem.Within.cons name v hw)
 refine wpAny_bind (wpAny_lookBehind Y4 (by rw [Y5]; exact pastItsLine_dict (Nat.le_trans Y6 (by rw [List.length_cons]; omega))) ?_)
 exact wpAny_pure (h _ ⟨(oS.2 _ (Ne.symm I.ne)).trans I.obj,hV,I.ne⟩ oS)
theorem FF {R:Result->Shared->Prop}{vs:List Value}{kw:List (Str×Value)}(X:K.In s.heap) (hm:W.makesIn K C=true)
 (hi:W.findIn K (.ref C) "__init__" = some (some (.ref f))) (hf:W.typeIn K (.ref f)=some (.type "function"))
 (h:codeAny (model prog w) (A.under (.builtin "type.__call__" ⟨.ref C::vs,kw⟩)) (.call (.ref f) ⟨.ref (s.heap.objs.size+1)::vs,kw⟩) (W.InitBack (s.heap.objs.size+1) R)
  { s with heap:=(s.heap.push W.emptyDict).push (W.instObj C s.heap.objs.size) }) :
 codeAny (model prog w) A (.call (.ref C) ⟨vs,kw⟩) R s:=by
 obtain ⟨hh,g,d,t,os⟩:=s
 exact W.make_core (W.makes_of X hm) (W.looks_findIn X hi) (λself=>W.bind_fn X self hf) (.inl rfl) h
end
def ao (f:Str) (v:V):List (Str×V)->List (Str×V)
 | []=>[(f,v)]
 | (g,x)::r=>if g=f then (g,v)::r else (g,x)::ao f v r
theorem aj (f g:Str) (v:V):∀fs:List (Str×V),(ao f v fs).lookup g=if g=f then some v else fs.lookup g
 | []=>by
  show List.lookup g [(f,v)]=_
  by_cases h:g=f
  . have hb:(g == f)=true:=beq_iff_eq.mpr h
    simp only [List.lookup,hb,if_pos h]
  . have hb:(g == f)=false:=beq_eq_false_iff_ne.mpr h
    simp only [List.lookup,hb,if_neg h]
 | (k,x)::r=>by
  have ih:=aj f g v r
  rw [show ao f v ((k,x)::r)=(if k=f then (k,v)::r else (k,x)::ao f v r) from rfl]
  by_cases hk:k=f
  . rw [if_pos hk]
    by_cases h:g=k
    . have hb:(g == k)=true:=beq_iff_eq.mpr h
      simp only [List.lookup,hb,if_pos (h.trans hk)]
    . have hb:(g == k)=false:=beq_eq_false_iff_ne.mpr h
      simp only [List.lookup,hb,if_neg (λe:g=f=>h (e.trans hk.symm))]
  . rw [if_neg hk]
    by_cases h:g=k
    . have hb:(g == k)=true:=beq_iff_eq.mpr h
      simp only [List.lookup,hb,if_neg (λe:g=f=>hk (h.symm.trans e))]
    . have hb:(g == k)=false:=beq_eq_false_iff_ne.mpr h
      simp only [List.lookup,hb]
      exact ih
theorem oT (f:Str) (v:V):∀fs:List (Str×V),f∈(ao f v fs).map (·.1)/\∀g,g∈fs.map (·.1)->g∈(ao f v fs).map (·.1)
 | []=>⟨by simp [ao],λg h=>by simp at h⟩
 | (k,x)::r=>by
  obtain ⟨i1,i2⟩:=oT f v r
  rw [show ao f v ((k,x)::r)=(if k=f then (k,v)::r else (k,x)::ao f v r) from rfl]
  by_cases hk:k=f
  . rw [if_pos hk]
    subst hk
    exact ⟨by simp,λg h=>by simpa using h⟩
  . rw [if_neg hk]
    refine ⟨?_,λg h=>?_⟩
    . rw [List.map_cons]
      exact List.mem_cons_of_mem _ i1
    . rw [List.map_cons] at h ⊢
      rcases List.mem_cons.mp h with e | e
      . exact List.mem_cons.mpr (.inl e)
      . exact List.mem_cons_of_mem _ (i2 g e)
theorem lU (f:Str) (v:V):∀fs:List (Str×V),(ao f v fs).length<=fs.length+1
 | []=>by simp [ao]
 | (k,x)::r=>by
  have ih:=lU f v r
  rw [show ao f v ((k,x)::r)=(if k=f then (k,v)::r else (k,x)::ao f v r) from rfl]
  by_cases hk:k=f
  . rw [if_pos hk,List.length_cons,List.length_cons]; omega
  . rw [if_neg hk,List.length_cons,List.length_cons]; omega
theorem gd.some_of {v:V}{o:Option Value}(r:gd (some v) o):∃u,o=some u/\RelV v u:=by
 cases o with
 | none=>exact (show False from r).elim
 | some u=>exact ⟨u,rfl,r⟩
theorem gd.none_of {o:Option Value}(r:gd none o):o=none:=by
 cases o with
 | none=>rfl
 | some u=>exact (show False from r).elim
theorem Di {v:V}{u:Value}(r:RelV v u):W.handedIn u=true:=by
 cases v with
 | aQ=>cases (show u=Value.none from r); rfl
 | bl b=>cases (show u=Value.bool b from r); rfl
 | int i=>obtain ⟨t,e⟩:=(show ∃t,u=Value.int i t from r); cases e; rfl
 | str x=>obtain ⟨t,e⟩:=(show ∃t,u=Value.str x t from r); cases e; rfl
 | l9 b=>obtain ⟨t,e⟩:=(show ∃t,u=Value.bytes b t from r); cases e; rfl
 | vn b=>obtain ⟨t,e⟩:=(show ∃t,u=Value.float b t from r); cases e; rfl
 | ref a=>cases (show u=Value.ref a from r); rfl
 | ty n=>cases (show u=Value.type n from r); rfl
section
variable {P:Program}{w:World}{H H':Hp}{h h':Heap}{a C dx:Addr}{fs fs':List (Str×V)}
theorem qd (hok:d9 P w H h) (e:H a=some (.ins C dx fs)):∃mA,rO h a dx C mA/\(∀f,gd (fs.lookup f) (mA f))/\PySem.Within mA (fs.map (·.1))/\fs.length<=1000/\H dx=some (.own a):=by
 obtain ⟨d,z,ne,ob,mA,n,r,q⟩:=(show bJ P w H h a (.ins C dx fs) from hok a _ e)
 exact ⟨mA,⟨ob,n,ne⟩,r,q,z,d⟩
end
structure mj (K:W.Frag) (C:Addr):Prop where
 pg:W.plainGet K C Str.empty=true
 hd:W.hasDictIn K C=true
 po:W.plainOver K C=true
 sa:W.findIn K (.ref C) "__setattr__" = some (some (.builtin "object.__setattr__"))
theorem mj.get {K:W.Frag}{C:Addr}(c:mj K C) (f:Str):W.plainGet K C f=true:=c.pg
def bU (K:W.Frag) (C:Addr) (f:Str):Prop:=W.findIn K (.ref C) f=some none
theorem bU.OQ {K:W.Frag}{C:Addr}{f:Str}(n:bU K C f):W.takerIn K C f=some none:=by
 unfold W.takerIn
 rw [show W.findIn K (.ref C) f=some none from n]
 rfl
structure Meth (K:W.Frag) (C:Addr) (m:Str) (f:Addr):Prop where
 at_:W.findIn K (.ref C) m=some (some (.ref f))
 fn:W.isFn K (.ref f)=true
 kp:W.keepIn K (.ref f)=true
section
variable {X:Cx}{pins:List (Addr×Obj)}{σ:St}{H:Hp}{s:Shared}{a C dx:Addr}{fs:List (Str×V)}{f:Str}{v:V}{A:Around}{E:Value->Shared->Prop}
theorem BG {b:Bool}{Q:Value->Shared->Prop}(I:Inv X pins σ H s) (e:H a=some (.ins C dx fs)) (c:mj X.K C) (n:bU X.K C f) (l:fs.lookup f=some v)
 (h:∀u s',Inv X pins σ H s'->RelV v u->Q u s'):wpAny (model X.prog X.w) A (getAttr (.ref a) f b) Q E s:=by
 obtain ⟨mA,O,r,_,_,_⟩:=qd I.hok e
 obtain ⟨u,hu,ru⟩:=gd.some_of (v:=v) (o:=mA f) (by rw [← l]; exact r f)
 exact get_map I.gk O (c.get f) c.hd n hu (Di ru) (h u _ (I.tok _) ru)
theorem tf {m:Str}{g:Addr}{pl:Sem Bool}{Q:Value×List Value->Shared->Prop}(I:Inv X pins σ H s) (e:H a=some (.ins C dx fs)) (c:mj X.K C) (k:Meth X.K C m g) (l:fs.lookup m=none)
 (h:Q (.ref g,[.ref a]) s):wpAny (model X.prog X.w) A (getMethod (.ref a) m pl) Q E s:=by
 obtain ⟨mA,O,r,_,_,_⟩:=qd I.hok e
 have hn:mA m=none:=gd.none_of (by rw [← l]; exact r m)
 exact FE I.gk O (c.get m) k.at_ k.fn hn h
theorem BH {y:V}{u:Value}{Q:Unit->Shared->Prop}(I:Inv X pins σ H s) (e:H a=some (.ins C dx fs)) (c:mj X.K C) (n:bU X.K C f) (hl:fs.length<1000) (ry:RelV y u)
 (h:∀s',Inv X pins σ (upd H a (.ins C dx (ao f y fs))) s'->Q () s'):wpAny (model X.prog X.w) A (setAttr (.ref a) f u) Q E s:=by
 obtain ⟨mA,O,r,wi,_,ho⟩:=qd I.hok e
 have hz:(fs.map (·.1)).length<=sizeLine:=by rw [List.length_map,sizeLine_eq]; omega
 refine Jp I.gk O c.sa c.po n.OQ c.hd wi hz λh' O' sb=>h _ ?_
 have hd:∃o,h'.get? dx=some o:=let ⟨o,_,_,e',_⟩:=O'.ns; ⟨o,e'⟩
 refine I.write (x:=a) (e:=dx) (by rw [e]; exact True.intro) (.inr ho) (λb q hb z=>(sb.2 b hb).trans z) hd ?_
 refine ⟨by rw [ag O.ne]; exact ho,?_,O.ne,O'.obj,_,O'.ns,λg=>?_,λg hg=>?_⟩
 . have:=lU f y fs; omega
 . show gd ((ao f y fs).lookup g) (if g=f then some u else mA g)
   rw [aj]
   by_cases q:g=f
   . rw [if_pos q,if_pos q]; exact ry
   . rw [if_neg q,if_neg q]; exact r g
 . by_cases q:g=f
   . rw [q]; exact (oT f y fs).1
   . refine (oT f y fs).2 g (wi g λz=>hg ?_)
     show (if g=f then some u else mA g)=none
     rw [if_neg q]; exact z
theorem Inv.made (I:Inv X pins σ H s):Inv X pins σ (upd (upd H s.heap.objs.size (.own (s.heap.objs.size+1))) (s.heap.objs.size+1) (.ins C s.heap.objs.size []))
 { s with heap:=(s.heap.push W.emptyDict).push (W.instObj C s.heap.objs.size) }:=by
 have e1:(s.heap.push W.emptyDict).get? s.heap.objs.size=some W.emptyDict:=Heap.get?_push_size s.heap rfl
 have e2:((s.heap.push W.emptyDict).push (W.instObj C s.heap.objs.size)).get? (s.heap.objs.size+1)=some (W.instObj C s.heap.objs.size):=by
  have:=Heap.get?_push_size (s.heap.push W.emptyDict) (o:=W.instObj C s.heap.objs.size) rfl
  rwa [Heap.size_push] at this
 have e3:(s.heap.push W.emptyDict).Ns s.heap.objs.size (λ_=>none):=⟨W.emptyDict,#[],_,e1,rfl,(λe he=>absurd he (by simp)),λ_=>rfl⟩
 have I1:=I.laid (a:=s.heap.objs.size) (o:=.own (s.heap.objs.size+1)) (h':=s.heap.push W.emptyDict) (t':=s.toks) (λb u q=>Heap.get?_push_of_some _ q) (Nat.le_refl _) ⟨_,e1⟩
 refine I1.laid (a:=s.heap.objs.size+1) (o:=.ins C s.heap.objs.size []) (t':=s.toks) (λb u q=>Heap.get?_push_of_some _ q) (Nat.le_of_eq (Heap.size_push _ _)) ?_
 have ne:s.heap.objs.size≠s.heap.objs.size+1:=Nat.ne_of_lt (Nat.lt_succ_self _)
 refine ⟨by rw [ag ne,af],Nat.zero_le _,ne,e2,λ_=>none,(Heap.Ns1.of_empty e3).at λo q=>Heap.get?_push_of_some _ q,λ_=>True.intro,λy hy=>absurd rfl hy⟩
theorem Jq {prog:Program}{w:World}{env:Env}{e:Expr}{f:Str}{pos:Pos}{s:Shared}{Q:Value->Shared->Prop}(hb:attributeBase e f env (eval e env)=eval e env)
 (h:wpAny (model prog w) A (eval e env) (λo cW=>wpAny (model prog w) A (getAttr o f true) Q E cW) E s):wpAny (model prog w) A (eval (.Attribute e f pos) env) Q E s:=
 Attribute_any_ h (by rw [arm_eval_Attribute,hb])
end
def UT (K:W.Frag) (ta:TE) (f:Str):TE:=λσ H Q=>ta σ H λx H1=>∃a C dx fs v,x=.ref a/\H1 a=some (.ins C dx fs)/\mj K C/\bU K C f/\fs.lookup f=some v/\Q v H1
def UU (K:W.Frag) (ta tv:TE) (f:Str):TS:=λD σ H=>tv σ H λy H1=>ta σ H1 λx H2=>∃a C dx fs,x=.ref a/\H2 a=some (.ins C dx fs)/\mj K C/\bU K C f/\fs.length<1000/\
 D.nx σ (upd H2 a (.ins C dx (ao f y fs)))
section
variable {X:Cx}{o e value:Expr}{f:Str}{pos pos' UW:Pos}{ta tv:TE}
theorem bg (he:PE X e ta) (hb:attributeBase e f X.env (eval e X.env)=eval e X.env):PE X (.Attribute e f pos) (UT X.K ta f):=by
 intro pins s σ H Q I h
 refine Jq hb (aN (he pins s σ H _ I h) λu s1 ⟨x,H1,I1,rx,a,C,dx,fs,v,ex,ea,c,n,l,q⟩=>?_)
 subst ex
 obtain rfl:u=Value.ref a:=rx
 exact BG I1 ea c n l λu' s2 I2 ru=>⟨v,H1,I2,ru,q⟩
theorem cO (ha:PE X o ta) (hv:PE X value tv) (hs:swapsWith value (some (.Attribute o f pos')) pos.line X.env=pure false):PS X (.Assign [.Attribute o f pos'] value pos) (UU X.K ta tv f):=by
 intro pins s σ H D I h
 refine plainObj_wpAny_Assign_Attribute (aN (hv pins s σ H _ I h) λu s1 ⟨y,H1,I1,ry,q⟩=>aN (ha pins s1 σ H1 _ I1 q) λov s2 ⟨x,H2,I2,rx,a,C,dx,fs,ex,ea,c,n,l,q2⟩=>?_) hs
 subst ex
 obtain rfl:ov=Value.ref a:=rx
 exact BH I2 ea c n l ry λs3 I3=>⟨σ,_,I3,q2⟩
theorem OG {pl:Sem Bool}{m:Str}{apos:Pos}{args:List Expr}{pins:List (Addr×Obj)}{s:Shared}{σ:St}{H:Hp}{Q:Value->Shared->Prop}{te:TE}(he:PE X e te) (I:Inv X pins σ H s)
 (h:te σ H λx H1=>∃a C dx fs g,x=.ref a/\H1 a=some (.ins C dx fs)/\mj X.K C/\Meth X.K C m g/\fs.lookup m=none/\
  ∀s1,Inv X pins σ H1 s1->wpAny (model X.prog X.w) X.A (callWith pos (.ref g) [.ref a] (backTo pos (starEach args X.env)) (backToKw pos (keywordEach [] X.env))) Q X.xe s1)
 (ht:eval (.Call (.Attribute e m apos) args [] pos) X.env=(do
  let ov ← eval e X.env
  standAt apos.atName
  let (f,first) ← holding [ov] (getMethod ov m pl)
  callWith pos f first (backTo pos (starEach args X.env)) (backToKw pos (keywordEach [] X.env)))) :
 wpAny (model X.prog X.w) X.A (eval (.Call (.Attribute e m apos) args [] pos) X.env) Q X.xe s:=by
 refine W.methodCall_KW (pl:=pl) (aN (he pins s σ H _ I h) λu s1 ⟨x,H1,I1,rx,a,C,dx,fs,g,ex,ea,c,k,l,q⟩=>?_) ht
 subst ex
 obtain rfl:u=Value.ref a:=rx
 exact tf I1 ea c k l (q s1 I1)
end
section
variable {X:Cx}{pins:List (Addr×Obj)}{σ:St}{H:Hp}{s:Shared}{A:Around}{E:Value->Shared->Prop}{Q:Value->Shared->Prop}{c:Value}{b:Bool}
inductive jc (K:W.Frag) (H:Hp):V->Value->Prop where
 | aQ:jc K H .aQ (.type "NoneType")
 | bl (x:Bool):jc K H (.bl x) (.type "bool")
 | int (i:Int):jc K H (.int i) (.type "int")
 | str (x:Str):jc K H (.str x) (.type "str")
 | vn (x:UInt64):jc K H (.vn x) (.type "float")
 | lst {a:Addr}{xs:List V}(e:H a=some (.lst xs)):jc K H (.ref a) (.type "list")
 | lH {a:Addr}{o:Obj}{xs:List V}(e:H a=some (.lH o (.lst xs))):jc K H (.ref a) (.type "list")
 | tup {a:Addr}{xs:List V}(e:H a=some (.tup xs)):jc K H (.ref a) (.type "tuple")
 | dK {a:Addr}{kvs:List (Key×V)}(e:H a=some (.dK kvs)):jc K H (.ref a) (.type "dict")
 | dT {a:Addr}{kvs:List (List Key×V)}(e:H a=some (.dT kvs)):jc K H (.ref a) (.type "dict")
 | ins {a C dx:Addr}{fs:List (Str×V)}(e:H a=some (.ins C dx fs)) (cl:mj K C) (ha:W.findIn K (.ref C) "__class__" = some (some (.builtin "object.__class__")))
  (hn:W.specialIn K (.builtin "object.__class__") "__get__" = some (some (.builtin "getset_descriptor.__get__"))) (Dj:W.takesIn K (.builtin "object.__class__")=some true)
  (hm:W.mroIn K C (.type "object")=some true):jc K H (.ref a) (.ref C)
theorem Dk {x:V}{u t:Value}(I:Inv X pins σ H s) (rx:RelV x u) (ty:jc X.K H x t) (e:W.kitOne X.K t c=some b) (h:∀tk,Q (.bool b) { s with toks:=tk }) :
 wpAny (model X.prog X.w) A (call (.builtin "isinstance") [u,c]) Q E s:=by
 cases ty with
 | aQ=>cases (show u=Value.none from rx); exact W.kia_one W.kitx_none I.gk True.intro e (λz=>nomatch z) h
 | bl y=>cases (show u=Value.bool y from rx); exact W.kia_one W.kitx_bool I.gk True.intro e (λz=>nomatch z) h
 | int i=>obtain ⟨t,q⟩:=(show ∃t,u=Value.int i t from rx); cases q; exact W.kia_one W.kitx_int I.gk True.intro e (λz=>nomatch z) h
 | str y=>obtain ⟨t,q⟩:=(show ∃t,u=Value.str y t from rx); cases q; exact W.kia_one W.kitx_str I.gk True.intro e (λz=>nomatch z) h
 | vn y=>obtain ⟨t,q⟩:=(show ∃t,u=Value.float y t from rx); cases q; exact W.kia_one W.kitx_float I.gk True.intro e (λz=>nomatch z) h
 | @lst a xs ea=>
  cases (show u=Value.ref a from rx)
  obtain ⟨_,_,n,_,h1⟩:=(show bJ X.prog X.w H s.heap a (.lst xs) from I.hok a _ ea)
  exact W.kia_one W.kitx_list I.gk ⟨_,h1,rfl⟩ e (λz=>nomatch z) h
 | @lH a ob xs ea=>
  cases (show u=Value.ref a from rx)
  obtain ⟨_,_,_,n,_,h1⟩:=(show bJ X.prog X.w H s.heap a (.lH ob (.lst xs)) from I.hok a _ ea)
  exact W.kia_one W.kitx_list I.gk ⟨_,h1,rfl⟩ e (λz=>nomatch z) h
 | @tup a xs ea=>
  cases (show u=Value.ref a from rx)
  obtain ⟨_,_,_,p⟩:=(show bJ X.prog X.w H s.heap a (.tup xs) from I.hok a _ ea)
  obtain ⟨o,h1,h2,_⟩:=p
  exact W.kia_one W.kitx_tuple I.gk ⟨o,h1,h2⟩ e (λz=>nomatch z) h
 | @dK a kvs ea=>
  cases (show u=Value.ref a from rx)
  obtain ⟨_,_,vs,_,p⟩:=(show bJ X.prog X.w H s.heap a (.dK kvs) from I.hok a _ ea)
  obtain ⟨o,es,ep,h1,h2,_⟩:=p
  exact W.kia_one W.kitx_dict I.gk ⟨o,h1,h2.1⟩ e (λz=>nomatch z) h
 | @dT a kvs ea=>
  cases (show u=Value.ref a from rx)
  obtain ⟨_,_,xs,_,o,es,ep,h1,h2,_⟩:=(show bJ X.prog X.w H s.heap a (.dT kvs) from I.hok a _ ea)
  exact W.kia_one W.kitx_dict I.gk ⟨o,h1,h2.1⟩ e (λz=>nomatch z) h
 | @ins a C dx fs ea cl ha hn Dj hm=>
  cases (show u=Value.ref a from rx)
  obtain ⟨mA,O,_⟩:=qd I.hok ea
  obtain ⟨od,J,_⟩:=O.look
  exact W.kia_one (W.kitx_own (cl.get _) cl.hd ha hn Dj hm) I.gk J e (λz=>nomatch z) h
end
end L2
namespace L2
open PySem PySem.Spec PyProof.Rows
structure bb (k:Nat) (A:Around):Prop where
 hd:A.handled=none
 dp:A.depth+3*k+5<recursionLimit
 un:A.units+16*k+200<cLine
theorem bb.mono {j k:Nat}{A:Around}(r:bb k A) (h:j<=k):bb j A:=⟨r.hd,by have:=r.dp; omega,by have:=r.un; omega⟩
theorem bb.deeper {k:Nat}{A:Around}(r:bb (k+1) A) (env:Env):bb k (A.deeper env):=
 ⟨r.hd,by have:=r.dp; show A.depth+1+3*k+5<_; omega,by have:=r.un; show A.units+3+16*k+200<_; omega⟩
theorem bb.in1 {k:Nat}{A:Around}(r:bb (k+1) A):bb k A.in1:=
 ⟨r.hd,by have:=r.dp; show A.depth+3*k+5<_; omega,by have:=r.un; show A.units+1+16*k+200<_; omega⟩
theorem BI {A:Around}{C:Addr}{us:List Value}{kw:List (Str×Value)} : (A.under (.builtin "type.__call__" ⟨.ref C::us,kw⟩)).depth=A.depth+1:=by
 first | rfl | simp [Around.under,Code.weight,Code.isCreation,Code.isGuard,Code.isCaller,Code.frames,Code.isFrame,guardIds]
theorem BJ {A:Around}{C:Addr}{us:List Value}{kw:List (Str×Value)} : (A.under (.builtin "type.__call__" ⟨.ref C::us,kw⟩)).units=A.units+1:=by
 first | rfl | simp [Around.under,Code.cUnits,Code.frames,Code.isFrame]
theorem bb.make {k:Nat}{A:Around}(r:bb (k+1) A) (C:Addr) (us:List Value) (kw:List (Str×Value)):bb k (A.under (.builtin "type.__call__" ⟨.ref C::us,kw⟩)):=
 ⟨r.hd,by have:=r.dp; rw [BI]; omega,by have:=r.un; rw [BJ]; omega⟩
theorem bb.depth {k:Nat}{A:Around}(r:bb k A):A.depth<recursionLimit:=by have:=r.dp; omega
theorem bb.units {k:Nat}{A:Around}(r:bb k A):A.units+64<cLine:=by have:=r.un; omega
def xj:TA:=λ_ H Q=>Q [] H
def j6 (ta:TE) (tr:TA):TA:=λσ H Q=>ta σ H λx H1=>tr σ H1 λxs H2=>Q (x::xs) H2
section
variable {X:Cx}{e:Expr}{es:List Expr}{te:TE}{t:TA}{pos:Pos}
theorem ah:PA X [] xj:=λ_ _ _ _ H Q I h=>Calls.spliced_nil ⟨[],H,I,.nil,h⟩
theorem aa (ha:PE X e te) (hr:PA X es t) (hs:starEach (e::es) X.env=(false,eval e X.env)::starEach es X.env:=by rfl):PA X (e::es) (j6 te t):=by
 intro pos pins s σ H Q I h
 rw [hs]
 show wpAny _ _ (spliced ((false,eval e X.env)::backTo pos (starEach es X.env))) _ _ s
 refine Calls.spliced_cons (aN (ha pins s σ H _ I h) λu s1 ⟨x,H1,I1,r1,q1⟩=>?_)
 exact aN (hr pos pins s1 σ H1 _ I1 q1) λus s2 ⟨xs,H2,I2,r2,q2⟩=>⟨x::xs,H2,I2,.cons r1 r2,q2⟩
def FG (t:TA):TE:=λσ H Q=>t σ H λxs H1=>xs.length<=sizeLine/\∀p,H1 p=none->Q (.ref p) (upd H1 p (.tup xs))
def UX (t:TA):TE:=λσ H Q=>t σ H λxs H1=>xs.length<=sizeLine/\∀p,H1 p=none->Q (.ref p) (upd H1 p (.lst xs))
theorem dJ {x1} (h:PA X es t):PE X (.Tuple es x1 pos) (FG t):=by
 intro pins s σ H Q I hq
 refine wpAny_Tuple_spliced (aN (h pos pins s σ H _ I hq) λus s1 ⟨xs,H1,I1,r,z,q⟩=>⟨by rw [← r.length]; exact z,?_⟩)
 have hf:H1 s1.heap.objs.size=none:=I1.hok.fresh (Nat.le_refl _)
 refine ⟨.ref s1.heap.objs.size,upd H1 s1.heap.objs.size (.tup xs),I1.laid (t':=s1.toks) (λb u e=>Heap.get?_push_of_some _ e) (Nat.le_refl _) ?_,rfl,q _ hf⟩
 exact ⟨z,us,r,⟨_,Heap.get?_push_size _ rfl,rfl,_,rfl⟩⟩
theorem cP (h:PA X es t):PE X (.List es pos) (UX t):=by
 intro pins s σ H Q I hq
 refine wpAny_List_spliced (aN (h pos pins s σ H _ I hq) λus s1 ⟨xs,H1,I1,r,z,q⟩=>⟨by rw [← r.length]; exact z,?_⟩)
 have hf:H1 s1.heap.objs.size=none:=I1.hok.fresh (Nat.le_refl _)
 refine ⟨.ref s1.heap.objs.size,upd H1 s1.heap.objs.size (.lst xs),I1.laid (t':=s1.toks) (λb u e=>Heap.get?_push_of_some _ e) (Nat.le_refl _) ?_,rfl,q _ hf⟩
 exact ⟨z,us,0,r,Heap.get?_push_size _ rfl⟩
end
abbrev Sp:=List V->Hp->VK->XK->Prop
abbrev oU:=List Env->Hp->Shared->XK->Value->Shared->Prop
structure lV (P:Program) (w:World) (K:W.Frag) (mg:Str->Option Value) (base:Heap) (A:Around) (outer:List Env) (s:Shared) (H:Hp):Prop where
 frames:A.frames=some outer
 mod:Mod K mg base
 bs:∀b o,base.get? b=some o->s.heap.get? b=some o/\H b=none
 bsz:base.objs.size<=s.heap.objs.size
 ja:s.heap.FunFrames base outer
 frf:∀b∈oq outer,H b=none
 hok:d9 P w H s.heap
 bare:AllBare s.gens
def CE (outer:List Env) (P:Program) (w:World) (H:Hp) (s:Shared) (Q:VK) (u:Value) (s':Shared):Prop:=
 ∃v H',s'.os=s.os/\AllBare s'.gens/\Un (oq outer) [] H H' s.heap s'.heap/\d9 P w H' s'.heap/\RelV v u/\Q v H'
def CR (CX:oU) (outer:List Env) (P:Program) (w:World) (H:Hp) (s:Shared) (Q:VK) (E:XK) (r:Result) (s':Shared):Prop:=
 match r with
 | .ok (.ret u)=>CE outer P w H s Q u s'
 | .ok _=>False
 | .error e=>CX outer H s E e s'
structure ax (P:Program) (w:World) (K:W.Frag) (mg:Str->Option Value) (base:Heap) (CX:oU) (k:Nat) (f:Addr) (fd:FuncData) (ps:List Str) (sp:Sp):Prop where
 len:∀vs H Q E,sp vs H Q E->vs.length=ps.length
 run:∀(A:Around) (outer:List Env) (s:Shared) (H:Hp) (args:Args) (us:List Value) (vs:List V) (Q:VK) (E:XK),bb k A->lV P w K mg base A outer s H->BindsTo s fd args (ps.zip us)->Vals vs us->sp vs H Q E->
  codeAny (model P w) A (.call (.ref f) args) (CR CX outer P w H s Q E) s
theorem lV.make {P:Program}{w:World}{K:W.Frag}{mg:Str->Option Value}{base:Heap}{A:Around}{outer:List Env}{s:Shared}{H:Hp}(e:lV P w K mg base A outer s H) (C:Addr) (us:List Value) (kw:List (Str×Value)) :
 lV P w K mg base (A.under (.builtin "type.__call__" ⟨.ref C::us,kw⟩)) outer s H:=⟨by first | exact e.frames | (simpa [Around.under,Code.envs,Code.isFrame,pushEnvs] using e.frames),e.mod,e.bs,e.bsz,e.ja,e.frf,e.hok,e.bare⟩
theorem lV.in1 {P:Program}{w:World}{K:W.Frag}{mg:Str->Option Value}{base:Heap}{A:Around}{outer:List Env}{s:Shared}{H:Hp}(e:lV P w K mg base A outer s H) :
 lV P w K mg base A.in1 outer s H:=⟨e.frames,e.mod,e.bs,e.bsz,e.ja,e.frf,e.hok,e.bare⟩
section
variable {X:Cx}{pins:List (Addr×Obj)}{σ:St}{H:Hp}{s s':Shared}
theorem Inv.KR (I:Inv X pins σ H s):lV X.prog X.w X.K X.mg X.base X.A X.stack s H:=
 ⟨I.ok.frames,I.ok.mod,I.bs,Nat.le_trans I.ok.bsz I.sz,I.stack,I.zT,I.hok,I.bare⟩
theorem Inv.after {Q:VK}{u:Value}(I:Inv X pins σ H s) (h:CE X.stack X.prog X.w H s Q u s'):EP X pins σ Q u s':=by
 obtain ⟨v,H',os,bare,un,hok,r,q⟩:=h
 obtain ⟨hh,g,d,t,Y7⟩:=s'
 obtain rfl:Y7=s.os:=os
 exact ⟨v,H',I.call (h':=hh) (g':=g) (d':=d) (t':=t) (ch:=[]) un hok bare (λb z=>absurd z (by simp)),r,q⟩
end
def Hv (sp:Sp) (iU:List V) (E:XK) (t:TA):TE:=λσ H Q=>t σ H λvs H1=>sp (vs++iU) H1 Q E
def OR (C:Addr) (m:Str) (sp:Sp) (iU:List V) (E:XK) (ta:TE) (t:TA):TE:=λσ H Q=>ta σ H λx H1=>∃a dx fs,x=.ref a/\H1 a=some (.ins C dx fs)/\fs.lookup m=none/\
 t σ H1 λvs H2=>sp (x::(vs++iU)) H2 Q E
def OS (C:Addr) (sp:Sp) (iU:List V) (E:XK) (t:TA):TE:=λσ H Q=>t σ H λvs H1=>∀x dx,H1 x=none->H1 dx=none->dx≠x->
 sp (.ref x::(vs++iU)) (upd (upd H1 dx (.own x)) x (.ins C dx [])) (λv H2=>v=.aQ/\Q (.ref x) H2) E
def Binds (K:W.Frag) (fd:FuncData) (ps:List Str) (ds:List Value):Prop:=
 ∀(s:Shared) (us:List Value),K.In s.heap->(us++ds).length=ps.length->BindsTo s fd ⟨us,[]⟩ (ps.zip (us++ds))
theorem Binds.all {K:W.Frag}{fd:FuncData}{ps:List Str}(h:∀us:List Value,us.length=ps.length->bindArgs fd ⟨us,[]⟩=pure (ps.zip us)):Binds K fd ps []:=λs us _ hl=>by
 rw [List.append_nil] at hl ⊢
 exact .of_eq (h us hl)
def Passes (CX:oU) (X:Cx) (E:XK):Prop:=∀(pins:List (Addr×Obj)) (σ:St) (H:Hp) (s:Shared) (e:Value) (s':Shared),Inv X pins σ H s->CX X.stack H s E e s'->X.xe e s'
section
variable {X:Cx}{CX:oU}{k:Nat}{f C:Addr}{fd:FuncData}{ps:List Str}{sp:Sp}{iU:List V}{ds:List Value}{E:XK}{x m:Str}{p pos apos:Pos}{e o:Expr}{es:List Expr}{ta:TE}{t:TA}
theorem Dm {pins:List (Addr×Obj)}{σ:St}{H:Hp}{s:Shared}{Q:VK}{us:List Value}{vs:List V}(F:ax X.prog X.w X.K X.mg X.base CX k f fd ps sp) (hr:bb k X.A) (hb:Binds X.K fd ps ds) (hd:Vals iU ds) (hx:Passes CX X E)
 (I:Inv X pins σ H s) (r:Vals vs us) (h:sp (vs++iU) H Q E):wpAny (model X.prog X.w) X.A (call (.ref f) us) (EP X pins σ Q) X.xe s:=by
 have r2:Vals (vs++iU) (us++ds):=r.append hd
 have hl:(us++ds).length=ps.length:=by rw [← r2.length]; exact F.len _ _ _ _ h
 refine wpAny_call (codeAny_mono (F.run X.A X.stack s H ⟨us,[]⟩ (us++ds) (vs++iU) Q E hr I.KR (hb s us I.gk hl) r2 h) λr s' hq=>?_)
 cases r with
 | error e=>exact hx pins σ H s e s' I hq
 | ok fl=>
  cases fl with
  | ret u=>exact I.after hq
  | next=>exact False.elim hq
  | brk=>exact False.elim hq
  | cont=>exact False.elim hq
theorem aB (F:ax X.prog X.w X.K X.mg X.base CX k f fd ps sp) (hr:bb k X.A) (hg:Gl X x) (hm:X.mg x=some (.ref f)) (hk:W.keepIn X.K (.ref f)=true) (hb:Binds X.K fd ps ds) (hd:Vals iU ds) (hx:Passes CX X E)
 (ha:PA X (e::es) t) (qS:(x == ("__debug__" : Str))=false:=by decide) (he:starEach (e::es) X.env=(false,eval e X.env)::starEach es X.env:=by rfl) (iF:(backTo pos (starEach es X.env)).any (·.1)=false:=by rfl) :
 PE X (.Call (.Name x p) (e::es) [] pos) (Hv sp iU E t):=by
 intro pins s σ H Q I h
 refine wpAny_Call_Name_kw (zV I hg hm ?_ qS)
 refine W.callWith_K (h₀:=X.base) I.ok.mod.kin hk (aN (ha pos pins s σ H _ I h) λus s1 ⟨vs,H1,I1,r,q⟩=>⟨I1.gk,?_⟩) he iF
 exact Dm F hr hb hd hx I1 r q
theorem bX {pl:Sem Bool}(he:PE X o ta) (c:mj X.K C) (hm:Meth X.K C m f) (F:ax X.prog X.w X.K X.mg X.base CX k f fd ps sp) (hr:bb k X.A) (hb:Binds X.K fd ps ds) (hd:Vals iU ds) (hx:Passes CX X E) (ha:PA X (e::es) t)
 (jA:starEach (e::es) X.env=(false,eval e X.env)::starEach es X.env:=by rfl) (iF:(backTo pos (starEach es X.env)).any (·.1)=false:=by rfl)
 (ht:eval (.Call (.Attribute o m apos) (e::es) [] pos) X.env=(do
  let ov ← eval o X.env
  standAt apos.atName
  let (f,first) ← holding [ov] (getMethod ov m pl)
  callWith pos f first (backTo pos (starEach (e::es) X.env)) (backToKw pos (keywordEach [] X.env))):=by rfl) :
 PE X (.Call (.Attribute o m apos) (e::es) [] pos) (OR C m sp iU E ta t):=by
 intro pins s σ H Q I h
 refine W.methodCall_KW (pl:=pl) (aN (he pins s σ H _ I h) λu s1 ⟨x,H1,I1,rx,a,dx,fs,ex,ea,l,q⟩=>?_) ht
 subst ex
 obtain rfl:u=Value.ref a:=rx
 refine tf I1 ea c hm l ?_
 refine W.callWith_K (first:=[.ref a]) (h₀:=X.base) I.ok.mod.kin hm.kp (aN (ha pos pins s1 σ H1 _ I1 q) λus s2 ⟨vs,H2,I2,r,q2⟩=>⟨I2.gk,?_⟩) jA iF
 exact Dm (us:=.ref a::us) (vs:=.ref a::vs) F hr hb hd hx I2 (.cons rfl r) q2
structure Mk (K:W.Frag) (C f:Addr):Prop where
 makes:W.makesIn K C=true
 init:W.findIn K (.ref C) "__init__" = some (some (.ref f))
 fn:W.isFn K (.ref f)=true
 kp:W.keepIn K (.ref C)=true
theorem FH {pins:List (Addr×Obj)}{σ:St}{H:Hp}{s:Shared}{Q:VK}{us:List Value}{vs:List V}(M:Mk X.K C f) (F:ax X.prog X.w X.K X.mg X.base CX k f fd ps sp) (hr:bb (k+1) X.A) (hb:Binds X.K fd ps ds) (hd:Vals iU ds)
 (hx:Passes CX X E) (I:Inv X pins σ H s) (r:Vals vs us)
 (h:∀x dx,H x=none->H dx=none->dx≠x->sp (.ref x::(vs++iU)) (upd (upd H dx (.own x)) x (.ins C dx [])) (λv H2=>v=.aQ/\Q (.ref x) H2) E) :
 wpAny (model X.prog X.w) X.A (call (.ref C) us) (EP X pins σ Q) X.xe s:=by
 have hq:=h (s.heap.objs.size+1) s.heap.objs.size (I.hok.fresh (Nat.le_succ _)) (I.hok.fresh (Nat.le_refl _)) (Nat.ne_of_lt (Nat.lt_succ_self _))
 have I2:=Inv.made (C:=C) I
 have r2:Vals (V.ref (s.heap.objs.size+1)::(vs++iU)) (Value.ref (s.heap.objs.size+1)::(us++ds)):=.cons rfl (r.append hd)
 have hl:(Value.ref (s.heap.objs.size+1)::us++ds).length=ps.length:=by
  have e:=r2.length
  rw [F.len _ _ _ _ hq] at e
  exact e.symm
 refine wpAny_call (FF (f:=f) I.gk M.makes M.init (beq_iff_eq.mp M.fn) (codeAny_mono (F.run _ X.stack _ _ ⟨Value.ref (s.heap.objs.size+1)::us,[]⟩ (Value.ref (s.heap.objs.size+1)::(us++ds)) _ _ E (hr.make C us [])
  (I2.KR.make C us []) (hb _ (Value.ref (s.heap.objs.size+1)::us) I2.gk hl) r2 hq) λr s' Dn=>?_))
 cases r with
 | error e=>exact hx pins σ _ _ e s' I2 Dn
 | ok fl=>
  cases fl with
  | ret u=>
   obtain ⟨v,H',I3,rv,ev,q3⟩:=I2.after Dn
   subst ev
   exact ⟨rv,⟨V.ref (s.heap.objs.size+1),H',I3,rfl,q3⟩⟩
  | next=>exact False.elim Dn
  | brk=>exact False.elim Dn
  | cont=>exact False.elim Dn
theorem uN (M:Mk X.K C f) (F:ax X.prog X.w X.K X.mg X.base CX k f fd ps sp) (hr:bb (k+1) X.A) (hg:Gl X x) (hm:X.mg x=some (.ref C)) (hb:Binds X.K fd ps ds) (hd:Vals iU ds) (hx:Passes CX X E)
 (ha:PA X (e::es) t) (qS:(x == ("__debug__" : Str))=false:=by decide) (he:starEach (e::es) X.env=(false,eval e X.env)::starEach es X.env:=by rfl) (iF:(backTo pos (starEach es X.env)).any (·.1)=false:=by rfl) :
 PE X (.Call (.Name x p) (e::es) [] pos) (OS C sp iU E t):=by
 intro pins s σ H Q I h
 refine wpAny_Call_Name_kw (zV I hg hm ?_ qS)
 refine W.callWith_K (h₀:=X.base) I.ok.mod.kin M.kp (aN (ha pos pins s σ H _ I h) λus s1 ⟨vs,H1,I1,r,q⟩=>⟨I1.gk,?_⟩) he iF
 exact FH M F hr hb hd hx I1 r q
end
section
variable {X:Cx}{CX:oU}{k:Nat}{f C:Addr}{fd:FuncData}{ps ks:List Str}{sp:Sp}{E:XK}{x m:Str}{p pos apos adO:Pos}{e o:Expr}{es:List Expr}{kws:List Keyword}{te ta:TE}{t tk:TA}{nm:Option Str}
variable {g:List Value->List Value->List Value}{gV:List V->List V->List V}
end
structure aY (N P:List Str) (sc:Scope):Prop where
 kind:sc.kind=.function
 co:sc.isCoroutine=false
 gen:sc.isGenerator=false
 nd:N.Nodup
 pre:N.take P.length=P
 par:∀x∈P,sc.names.lookup x=some .local\/sc.names.lookup x=some .cell
 nofree:∀y∈sc.names,y.2≠.free
theorem vp {kindOf:Str->Option NameKind}{x:Str} : ∀{binds:List (Str×Value)}{m:Str->Option Value},(∀v,(x,v)∉binds)->bindL kindOf binds m x=m x
 | [],_,_=>rfl
 | (n,v)::r,m,h=>by
  unfold bindL
  rw [vp λw hw=>h w (List.mem_cons_of_mem _ hw)]
  split
  . have:x≠n:=by rintro rfl; exact h v List.mem_cons_self
    simp [this]
  . rfl
theorem vq {kindOf:Str->Option NameKind}{x:Str} : ∀{binds:List (Str×Value)}{m:Str->Option Value},(∀v,(x,v)∉binds)->bindC kindOf binds m x=m x
 | [],_,_=>rfl
 | (n,v)::r,m,h=>by
  unfold bindC
  rw [vq λw hw=>h w (List.mem_cons_of_mem _ hw)]
  split
  . rfl
  . have:x≠n:=by rintro rfl; exact h v List.mem_cons_self
    simp [this]
theorem vw {kindOf:Str->Option NameKind}{x:Str}{v:Value} : ∀{P:List Str}{vs:List Value}{i:Nat}{m:Str->Option Value},P.Nodup->P[i]?=some x->vs[i]?=some v->kindOf x=some .local->
 bindL kindOf (P.zip vs) m x=some v
 | [],_,_,_,_,h,_,_=>by simp at h
 | _::_,[],_,_,_,_,h,_=>by simp at h
 | p::P,w::vs,0,m,nd,h1,h2,hk=>by
  simp at h1 h2; subst h1; subst h2
  show bindL kindOf ((p,w)::P.zip vs) m p=_
  unfold bindL
  rw [vp λv hv=>(List.nodup_cons.mp nd).1 (List.of_mem_zip hv).1,if_pos hk]
  simp
 | p::P,w::vs,i+1,m,nd,h1,h2,hk=>by
  show bindL kindOf ((p,w)::P.zip vs) m x=_
  unfold bindL
  exact vw (i:=i) (List.nodup_cons.mp nd).2 (by simpa using h1) (by simpa using h2) hk
theorem vx {kindOf:Str->Option NameKind}{x:Str}{v:Value} : ∀{P:List Str}{vs:List Value}{i:Nat}{m:Str->Option Value},P.Nodup->P[i]?=some x->vs[i]?=some v->kindOf x≠some .local->
 bindC kindOf (P.zip vs) m x=some v
 | [],_,_,_,_,h,_,_=>by simp at h
 | _::_,[],_,_,_,_,h,_=>by simp at h
 | p::P,w::vs,0,m,nd,h1,h2,hk=>by
  simp at h1 h2; subst h1; subst h2
  show bindC kindOf ((p,w)::P.zip vs) m p=_
  unfold bindC
  rw [vq λv hv=>(List.nodup_cons.mp nd).1 (List.of_mem_zip hv).1,if_neg hk]
  simp
 | p::P,w::vs,i+1,m,nd,h1,h2,hk=>by
  show bindC kindOf ((p,w)::P.zip vs) m x=_
  unfold bindC
  exact vx (i:=i) (List.nodup_cons.mp nd).2 (by simpa using h1) (by simpa using h2) hk
def start (N:List Str) (vs:List V):St:=vs.map some++List.replicate (N.length-vs.length) none
def nE (CX:oU) (P:Program) (w:World) (K:W.Frag) (mg:Str->Option Value) (base:Heap) (N:List Str) (qual:Str) (scope:Scope) (f:Addr) (cd:Value) (A:Around) (outer:List Env) (s:Shared) (H:Hp) (E:XK):Cx where
 prog:=P
 w:=w
 K:=K
 mg:=mg
 base:=base
 A:=A.deeper (envOfC qual scope s.heap.objs.size f cd)
 N:=N
 jR:=s
 Ks:=H
 env:=envOfC qual scope s.heap.objs.size f cd
 outer:=outer
 stack:=envOfC qual scope s.heap.objs.size f cd::outer
 ex:=[]
 calm:=true
 fn:=λ_=>true
 pn:=[]
 xe:=λe s'=>wpAny (model P w) (A.deeper (envOfC qual scope s.heap.objs.size f cd)) (leaving (envOfC qual scope s.heap.objs.size f cd) e) (λ_ Dq=>CX outer H s E e Dq) (λe' Dq=>CX outer H s E e' Dq) s'
theorem xk {sc:Scope}{n:Nat}{x:Str}(h:sc.names.lookup x=some .cell):∃c,(cellsFrom n sc.names []).lookup x=some c:=by
 have q:=W.cellsFrom_some sc.names n [] (.inl h)
 exact Option.isSome_iff_exists.mp q
theorem Dr {CX:oU}{P:Program}{w:World}{K:W.Frag}{mg:Str->Option Value}{base:Heap}{N ps:List Str}{qual:Str}{scope:Scope}{f:Addr}{cd:Value}{A:Around}{outer:List Env}{s s1:Shared}{H:Hp}{E:XK}{us:List Value}{vs:List V}
 (S:aY N ps scope) (hd:A.handled=none) (e0:lV P w K mg base A outer s H) (hl:vs.length=ps.length) (r:Vals vs us)
 (x:InCallC s s.heap.objs.size (bindL (envOfC qual scope s.heap.objs.size f cd).kindOf (ps.zip us) λ_=>none) (cellsFrom (s.heap.objs.size+1) scope.names []) (bindC (envOfC qual scope s.heap.objs.size f cd).kindOf (ps.zip us) λ_=>none) s1) :
 Inv (nE CX P w K mg base N qual scope f cd A outer s H E) [] (start N vs) H s1:=by
 have iF:ps.length<=N.length:=by have:=congrArg List.length S.pre; rw [List.length_take] at this; omega
 obtain ⟨h1,tk,rfl,hk⟩:=x.done
 have Ds:∀b:Addr,b∉(nE CX P w K mg base N qual scope f cd A outer s H E).ex:=λb z=>absurd (show b∈([]:List Addr) from z) (by simp)
 refine ⟨⟨e0.mod,S.kind,rfl,rfl,Nat.le_refl _,λy z c h1 h2=>?_,λy hy=>?_,λy c _ h=>?_,λ_=>hd,Around.frames_deeper e0.frames,.inr ⟨rfl,rfl⟩,λb z=>absurd z (Ds b),e0.bs,e0.bsz,λb _ _=>Ds b,λb z=>absurd z (Ds b),e0.ja,e0.frf⟩,
  rfl,e0.bare,Un.kept hk,⟨_,x.toInCall.ns,λi y v h1 h2 h3=>?_⟩,λy c h=>⟨_,x.cell y c h⟩,e0.hok.fresh (Nat.le_refl _),λy c h=>?_,λp hp=>absurd (show p∈([]:List (Addr×Obj)) from hp) (by simp),e0.hok.kept hk,?_⟩
 . exact name_of_addr x.apart (PySem.mem_of_lookup h1) (PySem.mem_of_lookup h2)
 . have hy:scope.names.lookup y=some .cell\/scope.names.lookup y=some .free:=hy
   rcases hy with hy | hy
   . exact xk hy
   . exact absurd rfl (S.nofree _ (PySem.mem_of_lookup hy))
 . exact Nat.le_of_lt (x.above y c (PySem.mem_of_lookup h))
 . have hi:i<vs.length:=by
    unfold start at h2
    by_cases hi:i<vs.length
    . exact hi
    . rw [List.getElem?_append_right (by simpa using hi)] at h2
      rw [List.getElem?_replicate] at h2
      split at h2 <;> cases h2
   have ha:vs[i]?=some v:=by
    unfold start at h2
    rw [List.getElem?_append_left (by simpa using hi),List.getElem?_map] at h2
    cases e:vs[i]? with
    | none=>rw [e] at h2; cases h2
    | some a=>rw [e] at h2; cases h2; rfl
   obtain ⟨u,hu,rv⟩:=r.get ha
   have hp:ps[i]?=some y:=by
    rw [← S.pre,List.getElem?_take_of_lt (by omega)]; exact h1
   have RO:ps.Nodup:=by rw [← S.pre]; exact S.nd.sublist (List.take_sublist _ _)
   refine ⟨u,rv,?_⟩
   rcases S.par y (List.mem_of_getElem? hp) with k | k
   . exact .inl ⟨k,vw RO hp hu k⟩
   . obtain ⟨c,e⟩:=xk (n:=s.heap.objs.size+1) k
     refine .inr ⟨.inl k,c,e,?_⟩
     have q:=x.cell y c e
     rw [vx RO hp hu (by show scope.names.lookup y≠_; rw [k]; decide)] at q
     exact q
 . exact e0.hok.fresh (Nat.le_of_lt (x.above y c (PySem.mem_of_lookup h)))
 . unfold start
   show _=N.length
   rw [List.length_append,List.length_map,List.length_replicate]
   omega
theorem OT {CX:oU}{P:Program}{w:World}{K:W.Frag}{mg:Str->Option Value}{base:Heap}{k:Nat}{f:Addr}{name qual:Str}{params:Arguments}{body:List Stmt}{scope:Scope}{dV kV doc pm cdv ct oc:Value}{an od:Option Addr}
 {vy:Array (Option Value)}{N ps:List Str}{sp:Sp}(lk:K.lookup f=some ⟨oc,od,.func (W.fnOf name qual params body scope dV kV doc pm an cdv ct),vy⟩) (oN:W.codeIn K cdv qual=true) (S:aY N ps scope)
 (len:∀vs H Q E,sp vs H Q E->vs.length=ps.length)
 (BK:∀(A:Around) (outer:List Env) (s:Shared) (H:Hp) (vs:List V) (Q:VK) (E:XK),bb k (A.deeper (envOfC qual scope s.heap.objs.size f cdv))->sp vs H Q E->
  ∃t,iP (nE CX P w K mg base N qual scope f cdv A outer s H E) body t/\t { nx:=λ_ H'=>Q .aQ H',rt:=Q } (start N vs) H) :
 ax P w K mg base CX (k+1) f (W.fnOf name qual params body scope dV kV doc pm an cdv ct) ps sp:=by
 refine ⟨len,λA outer s H args us vs Q E hr e0 hb r ou=>?_⟩
 have hl:=len _ _ _ _ ou
 have KX:K.In s.heap:=e0.mod.kin.keeps λb o e=>(e0.bs b o e).1
 have lim:s.heap.NoLimit:=e0.mod.nolimit.keeps λb o e=>(e0.bs b o e).1
 have OU:∀y∈ps.zip us,scope.names.lookup y.1=some .local\/(scope.names.lookup y.1=some .cell/\((cellsFrom (s.heap.objs.size+1) scope.names []).lookup y.1).isSome=true):=λ⟨n,v⟩ hy=>by
  rcases S.par n (List.of_mem_zip hy).1 with q | q
  . exact .inl q
  . exact .inr ⟨q,W.cellsFrom_some _ _ _ (.inl q)⟩
 refine codeAny_call_function hr.depth (KX _ _ lk) rfl S.co S.gen rfl (W.codeRec_of KX oN) (hb _ _ _ _ ?_)
 refine wpAny_newFunctionEnv_cells S.kind OU λenv he s1 x=>?_
 subst he
 refine ⟨lim.keeps x.toInCall.keep,codeAny_func ?_⟩
 obtain ⟨t,ht,hq⟩:=BK A outer s H vs Q E (hr.deeper _) ou
 have I:Inv (nE CX P w K mg base N qual scope f cdv A outer s H E) [] (start N vs) H s1:=Dr S hr.hd e0 hl r x
 refine wpAny_mono (ht [] s1 (start N vs) H _ I hq) (λfl s' hs=>?_) λe s' hs=>hs
 have fin:∀{cA:St}{H':Hp}{v:V}{u:Value},Inv (nE CX P w K mg base N qual scope f cdv A outer s H E) [] cA H' s'->RelV v u->Q v H'->CE outer P w H s Q u s':=
  λ{cA H' v u} J rv q=>⟨v,H',J.os,J.bare,J.base,J.hok,rv,q⟩
 cases fl with
 | ret u=>
  obtain ⟨v,cA,H',J,rv,q⟩:=hs
  exact fin J rv q
 | next=>
  obtain ⟨cA,H',J,q⟩:=hs
  exact fin (v:=V.aQ) (u:=Value.none) J rfl q
 | brk=>
  obtain ⟨_,_,_,q⟩:=hs
  exact False.elim q
 | cont=>
  obtain ⟨_,_,_,q⟩:=hs
  exact False.elim q
end L2
namespace L2
open PySem PySem.Spec PyProof.Rows
section
variable {X:Cx}{x:Str}{p pos:Pos}{e:Expr}{es:List Expr}{t:TA}{id T:String}{r:List V->Hp->VK->Prop}
def RP (r:List V->Hp->VK->Prop) (t:TA):TE:=λσ H Q=>t σ H λvs H1=>r vs H1 Q
theorem bG (hc:gp X (.builtin id) r) (hg:Gl X x) (hm:X.mg x=none) (hv:bootBuiltins x=some (.builtin id)) (ha:PA X (e::es) t) (hn:x ≠ "__name__":=by decide) (qS:(x == ("__debug__" : Str))=false:=by decide)
 (he:starEach (e::es) X.env=(false,eval e X.env)::starEach es X.env:=by rfl) (iF:(backTo pos (starEach es X.env)).any (·.1)=false:=by rfl):PE X (.Call (.Name x p) (e::es) [] pos) (RP r t):=by
 intro pins s σ H Q I h
 refine wpAny_Call_Name_kw (iQ I hg hm hv ?_ hn qS)
 exact PyProof.Rows.callWith_builtin1 (aN (ha pos pins s σ H _ I h) λus s1 ⟨vs,H1,I1,r1,q1⟩=>hc pins s1 σ H1 vs us Q I1 r1 q1) he iF
theorem bt (hc:gp X (.type T) r) (hg:Gl X x) (hm:X.mg x=none) (hv:bootBuiltins x=some (.type T)) (ha:PA X (e::es) t) (hn:x ≠ "__name__":=by decide) (qS:(x == ("__debug__" : Str))=false:=by decide)
 (he:starEach (e::es) X.env=(false,eval e X.env)::starEach es X.env:=by rfl) (iF:(backTo pos (starEach es X.env)).any (·.1)=false:=by rfl):PE X (.Call (.Name x p) (e::es) [] pos) (RP r t):=by
 intro pins s σ H Q I h
 refine wpAny_Call_Name_kw (iQ I hg hm hv ?_ hn qS)
 exact PyProof.Rows.callWith_type1 (aN (ha pos pins s σ H _ I h) λus s1 ⟨vs,H1,I1,r1,q1⟩=>hc pins s1 σ H1 vs us Q I1 r1 q1) he iF
end
end L2
namespace L2
open PySem PySem.Spec PyProof.Rows
section
variable {κ:Type}[DecidableEq κ]
def aZ (kvs:List (κ×V)) (k:κ):Option V:=(kvs.find? λkv=>decide (kv.1=k)).map (·.2)
def putK (kvs:List (κ×V)) (k:κ) (v:V):List (κ×V):=
 if (kvs.any λkv=>decide (kv.1=k))=true then kvs.map (λkv=>if kv.1=k then (kv.1,v) else kv) else kvs++[(k,v)]
theorem cj {p:κ×V}{r:List (κ×V)}{k:κ}(e:p.1=k):aZ (p::r) k=some p.2:=by simp [aZ,List.find?_cons,e]
theorem bZ {p:κ×V}{r:List (κ×V)}{k:κ}(e:¬ p.1=k):aZ (p::r) k=aZ r k:=by simp [aZ,List.find?_cons,e]
theorem kH (k:κ):∀kvs:List (κ×V),(kvs.any λkv=>decide (kv.1=k))=(aZ kvs k).isSome
 | []=>rfl
 | p::r=>by
  rw [List.any_cons]
  by_cases e:p.1=k
  . simp only [cj e,decide_eq_true e,Bool.true_or,Option.isSome_some]
  . rw [bZ e,decide_eq_false e,Bool.false_or]; exact kH k r
theorem xl (k j:κ) (y:V):∀kvs:List (κ×V),aZ (kvs.map λkv=>if kv.1=k then (kv.1,y) else kv) j=(aZ kvs j).map λx=>if j=k then y else x
 | []=>rfl
 | p::r=>by
  have ih:=xl k j y r
  rw [List.map_cons]
  by_cases h:p.1=k
  . rw [if_pos h]
    by_cases e:p.1=j
    . rw [cj (p:=(p.1,y)) e,cj e,Option.map_some,if_pos (e.symm.trans h)]
    . rw [bZ (p:=(p.1,y)) e,bZ e,ih]
  . rw [if_neg h]
    by_cases e:p.1=j
    . rw [cj (p:=p) e,cj e,Option.map_some,if_neg (λz=>h (e.trans z))]
    . rw [bZ (p:=p) e,bZ e,ih]
theorem oV (k j:κ) (y:V):∀kvs:List (κ×V),aZ kvs k=none->aZ (kvs++[(k,y)]) j=if j=k then some y else aZ kvs j
 | [],_=>by
  by_cases e:k=j
  . rw [if_pos e.symm]; exact cj (p:=(k,y)) e
  . rw [if_neg (λz=>e z.symm)]; exact bZ (p:=(k,y)) e
 | p::r,hn=>by
  rw [List.cons_append]
  have hk:¬ p.1=k:=λz=>by rw [cj z] at hn; cases hn
  rw [bZ hk] at hn
  have ih:=oV k j y r hn
  by_cases e:p.1=j
  . rw [cj e,cj e,if_neg (λz=>hk (e.trans z))]
  . rw [bZ e,bZ e,ih]
theorem gr (kvs:List (κ×V)) (k j:κ) (y:V):aZ (putK kvs k y) j=if j=k then some y else aZ kvs j:=by
 unfold putK
 by_cases a:(kvs.any λkv=>decide (kv.1=k))=true
 . rw [if_pos a,xl]
   rw [kH] at a
   by_cases e:j=k
   . obtain ⟨x,hx⟩:=Option.isSome_iff_exists.mp a
     rw [if_pos e,e,hx,Option.map_some,if_pos rfl]
   . rw [if_neg e]
     cases aZ kvs j with
     | none=>rfl
     | some x=>rw [Option.map_some,if_neg e]
 . rw [if_neg a]
   refine oV k j y kvs ?_
   rw [kH] at a
   cases q:aZ kvs k with
   | none=>rfl
   | some x=>rw [q] at a; exact (a rfl).elim
theorem fZ (kvs:List (κ×V)) (k:κ) (v:V):(putK kvs k v).length<=kvs.length+1:=by
 unfold putK
 split
 . rw [List.length_map]; omega
 . rw [List.length_append,List.length_cons,List.length_nil]; omega
theorem kI {kvs:List (κ×V)}{k:κ}(v:V) (h:aZ kvs k=none):putK kvs k v=kvs++[(k,v)]:=by
 unfold putK
 rw [kH,h]
 exact if_neg (by decide)
theorem gd.jB {o:Option V}{u:Option Value}(r:gd o u):o.isSome=u.isSome:=by
 cases o with
 | none=>cases u with
  | none=>rfl
  | some _=>exact (show False from r).elim
 | some _=>cases u with
  | none=>exact (show False from r).elim
  | some _=>rfl
theorem gd.getD {o:Option V}{u:Option Value}{d:V}{d':Value}(r:gd o u) (rd:RelV d d'):RelV (o.getD d) (u.getD d'):=by
 cases o with
 | none=>cases u with
  | none=>exact rd
  | some _=>exact (show False from r).elim
 | some _=>cases u with
  | none=>exact (show False from r).elim
  | some _=>exact r
theorem KV.val {kvs:List (κ×V)}{vs:List (κ×Value)}(r:KV kvs vs) (k:κ):gd (aZ kvs k) (valueAt vs k):=by
 unfold KV at r
 induction r with
 | nil=>exact True.intro
 | @cons p q ps qs h t ih=>
  obtain ⟨h1,h2⟩:=h
  by_cases e:p.1=k
  . have e':q.1=k:=h1.symm.trans e
    have b:valueAt (q::qs) k=some q.2:=by simp [valueAt,List.find?_cons,e']
    rw [cj e,b]; exact h2
  . have e':¬ q.1=k:=λz=>e (h1.trans z)
    have b:valueAt (q::qs) k=valueAt qs k:=by simp [valueAt,List.find?_cons,e']
    rw [bZ e,b]; exact ih
theorem KV.any {kvs:List (κ×V)}{vs:List (κ×Value)}(r:KV kvs vs) (k:κ):(kvs.any λkv=>decide (kv.1=k))=vs.any λkv=>decide (kv.1=k):=by
 unfold KV at r
 induction r with
 | nil=>rfl
 | cons h t ih=>rw [List.any_cons,List.any_cons,ih,h.1]
theorem KV.FI {kvs:List (κ×V)}{vs:List (κ×Value)}(r:KV kvs vs) (k:κ){y:V}{u:Value}(ry:RelV y u) :
 KV (kvs.map λkv=>if kv.1=k then (kv.1,y) else kv) (vs.map λkv=>if kv.1=k then (kv.1,u) else kv):=by
 unfold KV at r ⊢
 induction r with
 | nil=>exact .nil
 | @cons p q ps qs h t ih=>
  rw [List.map_cons,List.map_cons]
  refine .cons ?_ ih
  obtain ⟨h1,h2⟩:=h
  by_cases e:p.1=k
  . rw [if_pos e,if_pos (h1.symm.trans e)]; exact ⟨h1,ry⟩
  . rw [if_neg e,if_neg (λz=>e (h1.trans z))]; exact ⟨h1,h2⟩
theorem KV.put {kvs:List (κ×V)}{vs:List (κ×Value)}(r:KV kvs vs) (k:κ){y:V}{u:Value}(ry:RelV y u):KV (putK kvs k y) (stored vs k u):=by
 unfold putK stored
 rw [r.any k]
 by_cases e:(vs.any λkv=>decide (kv.1=k))=true
 . rw [if_pos e,if_pos e]; exact r.FI k ry
 . rw [if_neg e,if_neg e]; exact Paired.snoc r ⟨rfl,ry⟩
theorem KV.length {kvs:List (κ×V)}{vs:List (κ×Value)}(r:KV kvs vs):kvs.length=vs.length:=Paired.length r
end
theorem lI {P:Program}{w:World}{k:Key}{u:Value}(r:RelV (kV k) u):(bx P w).is k u=true:=by
 cases k with
 | inl i=>obtain ⟨t,e⟩:=(show ∃t,u=Value.int i t from r); subst e; exact zH P w i t
 | inr x=>obtain ⟨t,e⟩:=(show ∃t,u=Value.str x t from r); subst e; exact zI P w x t
theorem vz {P:Program}{w:World} : ∀{ks:List Key}{us:List Value},Vals (ks.map kV) us->ItemsAre (bx P w) ks us
 | [],_,r=>by rw [List.map_nil] at r; cases r; exact .nil
 | k::ks,_,r=>by
  rw [List.map_cons] at r
  cases r with
  | cons h t=>exact .cons (lI h) (vz t)
abbrev KT (H:Hp):List (List Key×V)->List (List Key×Addr×Value)->Prop:=Paired λp q=>p.1=q.1/\H q.2.1=some (.tup (p.1.map kV))/\RelV p.2 q.2.2
theorem KT.val {H:Hp}{kvs:List (List Key×V)}{xs:List (List Key×Addr×Value)}(r:KT H kvs xs) (k:List Key):gd (aZ kvs k) ((atKey xs k).map (·.2)):=by
 induction r with
 | nil=>exact True.intro
 | @cons p q ps qs h t ih=>
  obtain ⟨h1,_,h2⟩:=h
  by_cases e:p.1=k
  . have e':q.1=k:=h1.symm.trans e
    have b:atKey (q::qs) k=some q.2:=by simp [atKey,List.find?_cons,e']
    rw [cj e,b]; exact h2
  . have e':¬ q.1=k:=λz=>e (h1.trans z)
    have b:atKey (q::qs) k=atKey qs k:=by simp [atKey,List.find?_cons,e']
    rw [bZ e,b]; exact ih
theorem KT.FI {H:Hp}{kvs:List (List Key×V)}{xs:List (List Key×Addr×Value)}(r:KT H kvs xs) (k:List Key){y:V}{u:Value}(ry:RelV y u) :
 KT H (kvs.map λkv=>if kv.1=k then (kv.1,y) else kv) (xs.map (putAt k u)):=by
 induction r with
 | nil=>exact .nil
 | @cons p q ps qs h t ih=>
  rw [List.map_cons,List.map_cons]
  refine .cons ?_ ih
  obtain ⟨h1,h2,h3⟩:=h
  unfold putAt
  by_cases e:p.1=k
  . rw [if_pos e,if_pos (h1.symm.trans e)]; exact ⟨h1,h2,ry⟩
  . rw [if_neg e,if_neg (λz=>e (h1.trans z))]; exact ⟨h1,h2,h3⟩
theorem KT.put {H:Hp}{kvs:List (List Key×V)}{xs:List (List Key×Addr×Value)}(r:KT H kvs xs) (k:List Key){b:Addr}{y:V}{u:Value}(hb:H b=some (.tup (k.map kV))) (ry:RelV y u) :
 KT H (putK kvs k y) (storedH xs k b u):=by
 have e:(kvs.any λkv=>decide (kv.1=k))=(atKey xs k).isSome:=by
  rw [kH,(r.val k).jB,Option.isSome_map]
 unfold putK storedH
 rw [e]
 by_cases q:(atKey xs k).isSome=true
 . rw [if_pos q,if_pos q]; exact r.FI k ry
 . rw [if_neg q,if_neg q]; exact Paired.snoc r ⟨rfl,hb,ry⟩
theorem KT.keeps {H H':Hp}{kvs:List (List Key×V)}{xs:List (List Key×Addr×Value)}(r:KT H kvs xs) (ht:∀b ys,H b=some (.tup ys)->H' b=some (.tup ys)):KT H' kvs xs:=
 Paired.cb r λ_ _ z=>⟨z.1,ht _ _ z.2.1,z.2.2⟩
section
variable {P:Program}{w:World}{H:Hp}{h:Heap}{a:Addr}
theorem Hw {u:HO}(ok:d9 P w H h) (e:Rd H a u):bJ P w H h a u:=e.ok ok
theorem jt {kvs:List (Key×V)}(ok:d9 P w H h) (e:Rd H a (.dK kvs)):kvs.length<=sizeLine/\(a == sysModules)=false/\∃vs,KV kvs vs/\h.DictOf (bx P w) a vs:=
 show bJ P w H h a (.dK kvs) from Hw ok e
theorem BL {kvs:List (Key×V)}(ok:d9 P w H h) (e:H a=some (.dK kvs)):kvs.length<=sizeLine/\(a == sysModules)=false/\∃vs,KV kvs vs/\h.DictOf (bx P w) a vs:=jt ok (.inl e)
theorem mm {ks:List Key}(ok:d9 P w H h) (e:H a=some (.tup (ks.map kV))):(tupleKind (bx P w)).is h ks a:=by
 obtain ⟨_,its,r,o,h1,h2,n,h3⟩:=(show bJ P w H h a (.tup (ks.map kV)) from ok a _ e)
 exact ⟨o,its.toArray,n,h1,h2,h3,by simpa using vz r⟩
theorem nF {kvs:List (List Key×V)}(ok:d9 P w H h) (e:Rd H a (.dT kvs)):kvs.length<=sizeLine/\(a == sysModules)=false/\
 ∃xs,KT H kvs xs/\h.DictOfH (tupleKind (bx P w)) a xs:=by
 obtain ⟨z,y,xs,r,o,es,ep,h1,h2,h3,h4,h5⟩:=(show bJ P w H h a (.dT kvs) from Hw ok e)
 refine ⟨z,y,xs,r,o,es,ep,h1,h2,h3,h4,λx hx=>?_,h5⟩
 have all:∀{l:List (List Key×V)}{m:List (List Key×Addr×Value)},KT H l m->∀x∈m,(tupleKind (bx P w)).is h x.1 x.2.1:=by
  intro l m q
  induction q with
  | nil=>intro x hx; exact nomatch hx
  | @cons p q ps qs hq t ih=>
   intro x hx
   rcases List.mem_cons.mp hx with e | hx
   . subst e
     exact mm ok (by rw [← hq.1]; exact hq.2.1)
   . exact ih x hx
 exact all r x hx
theorem OV {kvs:List (List Key×V)}(ok:d9 P w H h) (e:H a=some (.dT kvs)):kvs.length<=sizeLine/\(a == sysModules)=false/\
 ∃xs,KT H kvs xs/\h.DictOfH (tupleKind (bx P w)) a xs:=nF ok (.inl e)
end
def b0 (H:Hp) (a:Addr) (y:V) (r:Option V):Prop:=
 (∃kvs k,Rd H a (.dK kvs)/\y=kV k/\r=aZ kvs k)\/∃kvs k b,Rd H a (.dT kvs)/\y=.ref b/\H b=some (.tup (k.map kV))/\r=aZ kvs k
def gu (H:Hp) (a:Addr) (y v:V) (H':Hp):Prop:=
 (∃kvs k,H a=some (.dK kvs)/\y=kV k/\kvs.length<sizeLine/\H'=upd H a (.dK (putK kvs k v)))\/
 ∃kvs k b,H a=some (.dT kvs)/\y=.ref b/\H b=some (.tup (k.map kV))/\kvs.length<sizeLine/\H'=upd H a (.dT (putK kvs k v))
theorem b0.k {H:Hp}{a:Addr}{kvs:List (Key×V)}{k:Key}(e:H a=some (.dK kvs)):b0 H a (kV k) (aZ kvs k):=.inl ⟨kvs,k,.inl e,rfl,rfl⟩
theorem b0.t {H:Hp}{a b:Addr}{kvs:List (List Key×V)}{k:List Key}(e:H a=some (.dT kvs)) (eb:H b=some (.tup (k.map kV))):b0 H a (.ref b) (aZ kvs k):=.inr ⟨kvs,k,b,.inl e,rfl,eb,rfl⟩
theorem gu.k {H:Hp}{a:Addr}{kvs:List (Key×V)}{k:Key}{v:V}(e:H a=some (.dK kvs)) (hl:kvs.length<sizeLine):gu H a (kV k) v (upd H a (.dK (putK kvs k v))):=.inl ⟨kvs,k,e,rfl,hl,rfl⟩
theorem gu.t {H:Hp}{a b:Addr}{kvs:List (List Key×V)}{k:List Key}{v:V}(e:H a=some (.dT kvs)) (eb:H b=some (.tup (k.map kV))) (hl:kvs.length<sizeLine) :
 gu H a (.ref b) v (upd H a (.dT (putK kvs k v))):=.inr ⟨kvs,k,b,e,rfl,eb,hl,rfl⟩
section
variable {X:Cx}{pins:List (Addr×Obj)}{σ:St}{H:Hp}{s:Shared}{a:Addr}{y v:V}{u r:Value}{o:Option V}{A:Around}{E:Value->Shared->Prop}
theorem Inv.big (I:Inv X pins σ H s):sysModules<s.heap.objs.size:=by
 have h:mainGlobals<s.heap.objs.size:=(I.mod.glob.keeps I.bk).lt
 exact Nat.lt_trans (by decide) h
theorem Du {Q:Value->Shared->Prop}(hu:A.units+1<cLine) (I:Inv X pins σ H s) (g:b0 H a y (some v)) (ry:RelV y u) (h:∀w' s',Inv X pins σ H s'->RelV v w'->Q w' s') :
 wpAny (model X.prog X.w) A (getItem (.ref a) u) Q E s:=by
 rcases g with ⟨kvs,k,e,ey,l⟩ | ⟨kvs,k,b,e,ey,eb,l⟩
 . subst ey
   obtain ⟨z,hd,vs,rel,dd⟩:=jt I.hok e
   obtain ⟨w',hw,kJ⟩:=gd.some_of (v:=v) (o:=valueAt vs k) (by rw [l]; exact rel.val k)
   exact wpAny_getItem_of (lI ry) dd.mapOf hw (h w' _ (I.tok _) kJ)
 . subst ey
   cases (show u=Value.ref b from ry)
   obtain ⟨z,hd,xs,rel,dd⟩:=nF I.hok e
   obtain ⟨w',hw,kJ⟩:=gd.some_of (v:=v) (o:=(atKey xs k).map (·.2)) (by rw [l]; exact rel.val k)
   obtain ⟨p,hp,dQ⟩:=Option.map_eq_some_iff.mp hw
   refine wpAny_getItem_heap (tupleKind_room_in1 hu) (mm I.hok eb) dd hp ?_
   rw [dQ]
   exact h w' _ (I.tok _) kJ
theorem UY {Q:Value->Shared->Prop}(hu:A.units+1<cLine) (I:Inv X pins σ H s) (g:b0 H a y o) (ry:RelV y u) (h:∀s',Inv X pins σ H s'->Q (.bool o.isSome) s') :
 wpAny (model X.prog X.w) A (compareOp .In u (.ref a)) Q E s:=by
 rcases g with ⟨kvs,k,e,ey,l⟩ | ⟨kvs,k,b,e,ey,eb,l⟩
 . subst ey
   obtain ⟨z,hd,vs,rel,dd⟩:=jt I.hok e
   refine wpAny_in_of (lI ry) hd dd.mapOf ?_
   rw [← (rel.val k).jB,← l]
   exact h _ (I.tok _)
 . subst ey
   cases (show u=Value.ref b from ry)
   obtain ⟨z,hd,xs,rel,dd⟩:=nF I.hok e
   refine wpAny_in_heap (tupleKind_room_in1 hu) (mm I.hok eb) hd dd ?_
   have q:=(rel.val k).jB
   rw [Option.isSome_map] at q
   rw [← q,← l]
   exact h _ (I.tok _)
theorem Jr {Q:Value->Shared->Prop}(hu:A.units+1<cLine) (I:Inv X pins σ H s) (g:b0 H a y o) (ry:RelV y u) (h:∀s',Inv X pins σ H s'->Q (.bool (!o.isSome)) s') :
 wpAny (model X.prog X.w) A (compareOp .NotIn u (.ref a)) Q E s:=by
 rcases g with ⟨kvs,k,e,ey,l⟩ | ⟨kvs,k,b,e,ey,eb,l⟩
 . subst ey
   obtain ⟨z,hd,vs,rel,dd⟩:=jt I.hok e
   refine wpAny_notIn_of (lI ry) hd dd.mapOf ?_
   rw [← (rel.val k).jB,← l]
   exact h _ (I.tok _)
 . subst ey
   cases (show u=Value.ref b from ry)
   obtain ⟨z,hd,xs,rel,dd⟩:=nF I.hok e
   refine wpAny_notIn_heap (tupleKind_room_in1 hu) (mm I.hok eb) hd dd ?_
   have q:=(rel.val k).jB
   rw [Option.isSome_map] at q
   rw [← q,← l]
   exact h _ (I.tok _)
theorem qh {h':Heap}{t':Nat}{ob:HO}(I:Inv X pins σ H s) (mu:C4 (H a)) (hs:Heap.SameBut a s.heap h') (he:∃q,h'.get? a=some q) (new:bJ X.prog X.w (upd H a ob) h' a ob) :
 Inv X pins σ (upd H a ob) { s with heap:=h',toks:=t' } :=
 I.write (x:=a) (e:=a) mu (.inl rfl) (λb q hb z=>(hs.2 b hb).trans z) he new
theorem oW {P:Program}{w:World}{H':Hp}{h':Heap}{kvs:List (Key×V)}{vs:List (Key×Value)}(z:kvs.length<=sizeLine) (hd:(a == sysModules)=false) (rel:KV kvs vs) (dd:h'.DictOf (bx P w) a vs) :
 bJ P w H' h' a (.dK kvs):=⟨z,hd,vs,rel,dd⟩
theorem Dv {H':Hp}{Q:Unit->Shared->Prop}(hu:A.units+1<cLine) (I:Inv X pins σ H s) (g:gu H a y v H') (ry:RelV y u) (rv:RelV v r) (h:∀s',Inv X pins σ H' s'->Q () s') :
 wpAny (model X.prog X.w) A (setItem (.ref a) u r) Q E s:=by
 rcases g with ⟨kvs,k,e,ey,l,eH⟩ | ⟨kvs,k,b,e,ey,eb,l,eH⟩
 . subst ey eH
   obtain ⟨z,hd,vs,rel,dd⟩:=BL I.hok e
   have hz:vs.length<=sizeLine:=by rw [← rel.length]; exact z
   have hl:(putK kvs k v).length<=sizeLine:=by have:=fZ kvs k v; omega
   refine wpAny_setItem_pairs (hsz:=hz) (lI ry) dd λh' ow hs=>h _ ?_
   have he:∃q,h'.get? a=some q:=let ⟨q,_,_,hq,_⟩:=ow; ⟨q,hq⟩
   exact qh I (by rw [e]; exact True.intro) hs he (oW hl hd (rel.put k rv) ow)
 . subst ey eH
   cases (show u=Value.ref b from ry)
   obtain ⟨z,hd,xs,rel,dd⟩:=OV I.hok e
   have hz:xs.length<=sizeLine:=by rw [← Paired.length rel]; exact z
   have hl:(putK kvs k v).length<=sizeLine:=by have:=fZ kvs k v; omega
   refine wpAny_setItem_heap (hsz:=hz) (tupleKind_room_in1 hu) (mm I.hok eb) dd λh' ow hs=>h _ ?_
   obtain ⟨q,es,ep,hq,h2,h3,h4,_,h5⟩:=ow
   refine qh I (by rw [e]; exact True.intro) hs ⟨q,hq⟩ ⟨hl,hd,_,(rel.put k eb rv).keeps λc ys ec=>?_,q,es,ep,hq,h2,h3,h4,h5⟩
   rw [ag (a9 ec e (λz=>nomatch z))]
   exact ec
end
section
variable {X:Cx}{pins:List (Addr×Obj)}{σ:St}{H:Hp}{s:Shared}{a:Addr}{kvs:List (Key×V)}{k:Key}{u:Value}{A:Around}{E:Value->Shared->Prop}
end
def KS (i:Expr):Prop:=∀ov iv,subscripted i false ov iv=operate [ov,iv] (getItem ov iv)
theorem Js {prog:Program}{w:World}{A:Around}{E:Value->Shared->Prop}{s:Shared}{env:Env}{value slice:Expr}{pos:Pos}{T id:String}{Q:Value->Shared->Prop}
 (hl:typeLookup (.type T) "__getitem__" = pure (some (.builtin id))) (hs:KS slice)
 (h:wpAny (model prog w) A (eval value env) (λo cW=>wpAny (model prog w) A (eval slice env) (λi uK=>uK.TypeIs o T/\wpAny (model prog w) A (getItem o i) Q E uK) E cW) E s) :
 wpAny (model prog w) A (eval (.Subscript value slice pos) env) Q E s:=by
 refine Subscript_ (wpAny_mono h (λo cW kN=>wpAny_mono kN (λi uK rP=>?_) λ_ _ x=>x) λ_ _ x=>x)
 obtain ⟨hT,rP⟩:=rP
 unfold subscriptTail
 refine wpAny_bind ?_
 rw [getitemInPython_of_ne hT.not_modules]
 refine wpAny_bind (wpAny_specialOf hT hl ?_)
 have fin:wpAny (model prog w) A (subscripted slice false o i) (λr Jt=>wpAny (model prog w) A (letTemporaryGo value o r >>= λ_=>pure r) Q E Jt) E uK:=by
  rw [hs o i]
  exact wpAny_operating (wpAny_mono rP (λr Jt uO=>wpAny_bind (wpAny_letTemporaryGo (wpAny_pure uO))) λ_ _ x=>x)
 first
  | exact wpAny_pure (wpAny_bind fin)
  | exact wpAny_bind (wpAny_pure (wpAny_bind fin))
  | exact wpAny_bind fin
theorem zJ {X:Cx}{pins:List (Addr×Obj)}{σ:St}{H:Hp}{s:Shared}{a:Addr}{y:V}{o:Option V}(I:Inv X pins σ H s) (g:b0 H a y o):s.TypeIs (.ref a) "dict":=by
 rcases g with ⟨kvs,k,e,_,_⟩ | ⟨kvs,k,b,e,_,_,_⟩
 . obtain ⟨_,_,vs,_,dd⟩:=jt I.hok e
   exact dd.typeIs
 . obtain ⟨_,_,xs,_,dd⟩:=nF I.hok e
   exact dd.typeIs
def OW (td ty:TE):TE:=λσ H Q=>td σ H λx H1=>ty σ H1 λy H2=>∃a v,x=.ref a/\b0 H2 a y (some v)/\Q v H2
def UZ (ty td:TE):TE:=λσ H Q=>ty σ H λy H1=>td σ H1 λx H2=>∃a o,x=.ref a/\b0 H2 a y o/\Q (.bl o.isSome) H2
def Ju (ty td:TE):TE:=λσ H Q=>ty σ H λy H1=>td σ H1 λx H2=>∃a o,x=.ref a/\b0 H2 a y o/\Q (.bl (!o.isSome)) H2
def OX (td ty tv:TE):TS:=λD σ H=>tv σ H λv H1=>td σ H1 λx H2=>ty σ H2 λy H3=>∃a H4,x=.ref a/\gu H3 a y v H4/\D.nx σ H4
section
variable {X:Cx}{o i e value:Expr}{pos pos' UW:Pos}{td ty tv:TE}
theorem cC (hu:X.A.units+1<cLine) (ho:PE X o td) (hi:PE X i ty) (hs:KS i):PE X (.Subscript o i pos) (OW td ty):=by
 intro pins s σ H Q I h
 refine Js PySem.F.slot_dict_getitem.lookup hs (aN (ho pins s σ H _ I h) λu s1 ⟨x,H1,I1,rx,q1⟩=>aN (hi pins s1 σ H1 _ I1 q1) λiv s2 ⟨y,H2,I2,ry,a,v,ex,g,q2⟩=>?_)
 subst ex
 obtain rfl:u=Value.ref a:=rx
 exact ⟨zJ I2 g,Du hu I2 g ry λw' s3 I3 kJ=>⟨v,H2,I3,kJ,q2⟩⟩
theorem tj (hu:X.A.units+1<cLine) (hi:PE X i ty) (ho:PE X o td):PC X .In i o (UZ ty td):=by
 intro pins s σ H Q I h
 refine aN (hi pins s σ H _ I h) λiv s1 ⟨y,H1,I1,ry,q1⟩=>aN (ho pins s1 σ H1 _ I1 q1) λu s2 ⟨x,H2,I2,rx,a,ov,ex,g,q2⟩=>?_
 subst ex
 obtain rfl:u=Value.ref a:=rx
 exact UY hu I2 g ry λs3 I3=>⟨.bl ov.isSome,H2,I3,rfl,q2⟩
theorem Dw (hu:X.A.units+1<cLine) (hi:PE X i ty) (ho:PE X o td):PC X .NotIn i o (Ju ty td):=by
 intro pins s σ H Q I h
 refine aN (hi pins s σ H _ I h) λiv s1 ⟨y,H1,I1,ry,q1⟩=>aN (ho pins s1 σ H1 _ I1 q1) λu s2 ⟨x,H2,I2,rx,a,ov,ex,g,q2⟩=>?_
 subst ex
 obtain rfl:u=Value.ref a:=rx
 exact Jr hu I2 g ry λs3 I3=>⟨.bl (!ov.isSome),H2,I3,rfl,q2⟩
theorem eX (hu:X.A.units+1<cLine) (ho:PE X o td) (hi:PE X i ty) (hv:PE X value tv) (hs:swapsWith value (some (.Subscript o i pos')) pos.line X.env=pure false) :
 PS X (.Assign [.Subscript o i pos'] value pos) (OX td ty tv):=by
 intro pins s σ H D I h
 refine wpAny_Assign_Subscript (aN (hv pins s σ H _ I h) λr s1 ⟨v,H1,I1,rv,q1⟩=>aN (ho pins s1 σ H1 _ I1 q1) λu s2 ⟨x,H2,I2,rx,q2⟩=>aN (hi pins s2 σ H2 _ I2 q2) λiv s3 ⟨y,H3,I3,ry,a,H4,ex,g,q3⟩=>?_) hs
 subst ex
 obtain rfl:u=Value.ref a:=rx
 exact Dv hu I3 g ry rv λs4 I4=>⟨σ,H4,I4,q3⟩
end
theorem xm {P:Program}{w:World}{H:Hp}(h:Heap) (hb:sysModules<h.objs.size):bJ P w H (h.push { cls:=.type "dict",data:=.dict #[] }) h.objs.size (.dK []):=
 ⟨Nat.zero_le _,beq_eq_false_iff_ne.mpr (Ne.symm (Nat.ne_of_lt hb)),[],.nil,Heap.DictOf.new h⟩
theorem FJ {P:Program}{w:World}{H:Hp}(h:Heap) (hb:sysModules<h.objs.size):bJ P w H (h.push { cls:=.type "dict",data:=.dict #[] }) h.objs.size (.dT []):=
 ⟨Nat.zero_le _,beq_eq_false_iff_ne.mpr (Ne.symm (Nat.ne_of_lt hb)),[],.nil,_,#[],0,Heap.get?_push_size _ rfl,⟨rfl,rfl,rfl⟩,rfl,rfl,List.nodup_nil⟩
def KU:TE:=λ_ H Q=>∀p,H p=none->Q (.ref p) (upd H p (.dK []))
def KW:TE:=λ_ H Q=>∀p,H p=none->Q (.ref p) (upd H p (.dT []))
section
variable {X:Cx}{pos:Pos}
theorem nG:PE X (.Dict [] [] pos) KU:=λpins s σ H Q I h=>
 wpAny_Dict_empty ⟨.ref s.heap.objs.size,_,I.laid (a:=s.heap.objs.size) (o:=.dK []) (t':=s.toks) (λ_ _ q=>Heap.get?_push_of_some _ q) (Nat.le_refl _) (xm s.heap I.big),rfl,h _ (I.hok.fresh (Nat.le_refl _))⟩
theorem xo:PE X (.Dict [] [] pos) KW:=λpins s σ H Q I h=>
 wpAny_Dict_empty ⟨.ref s.heap.objs.size,_,I.laid (a:=s.heap.objs.size) (o:=.dT []) (t':=s.toks) (λ_ _ q=>Heap.get?_push_of_some _ q) (Nat.le_refl _) (FJ s.heap I.big),rfl,h _ (I.hok.fresh (Nat.le_refl _))⟩
end
def xp:List (TE×TE)->St->Hp->(List (V×V)->Hp->Prop)->Prop
 | [],_,H,Q=>Q [] H
 | (tk,tv)::r,σ,H,Q=>tk σ H λx H1=>tv σ H1 λy H2=>xp r σ H2 λps H3=>Q ((x,y)::ps) H3
abbrev VV:List (V×V)->List (Value×Value)->Prop:=Paired λp q=>RelV p.1 q.1/\RelV p.2 q.2
def Hz (X:Cx) (pos:Pos) (keys:List (Option Expr)) (values:List Expr) (tm:List (TE×TE)):Prop:=
 ∀(pins:List (Addr×Obj)) (s:Shared) (σ:St) (H:Hp) (Q:List (V×V)->Hp->Prop),Inv X pins σ H s->xp tm σ H Q->
  wpAny (model X.prog X.w) X.A (evalPairs (pairTrees keys values X.env pos)) (λvs s'=>∃ps H',Inv X pins σ H' s'/\VV ps vs/\Q ps H') X.xe s
theorem mn {X:Cx}{pos:Pos} : Hz X pos [] [] []:=λpins s σ H Q I h=>pairTrees_nil_walk ⟨[],H,I,.nil,h⟩
theorem ef {X:Cx}{pos:Pos}{k v:Expr}{ks:List (Option Expr)}{vs:List Expr}{tk tv:TE}{tm:List (TE×TE)}(hk:PE X k tk) (hv:PE X v tv) (hr:Hz X pos ks vs tm) :
 Hz X pos (some k::ks) (v::vs) ((tk,tv)::tm):=λpins s σ H Q I h=>
 pairTrees_cons_walk (aN (hk pins s σ H _ I h) λu s1 ⟨x,H1,I1,rx,q1⟩=>aN (hv pins s1 σ H1 _ I1 q1) λw2 s2 ⟨y,H2,I2,ry,q2⟩=>
  aN (hr pins s2 σ H2 _ I2 q2) λws s3 ⟨ps,H3,I3,rel,q3⟩=>⟨(x,y)::ps,H3,I3,.cons ⟨rx,ry⟩ rel,q3⟩)
def bw (kvs more:List (Key×V)):List (Key×V):=more.foldl (λacc kv=>putK acc kv.1 kv.2) kvs
theorem KV.merge:∀{more:List (Key×V)}{rs:List (Key×Value)}{kvs:List (Key×V)}{vs:List (Key×Value)},KV more rs->KV kvs vs->KV (bw kvs more) (merged vs rs):=by
 intro more rs kvs vs r
 unfold KV at r
 induction r generalizing kvs vs with
 | nil=>intro q; exact q
 | @cons p q ps qs h t ih=>
  intro r0
  have e:KV (putK kvs p.1 p.2) (stored vs q.1 q.2):=by
   have:=r0.put p.1 h.2
   rw [← h.1]; exact this
  exact ih e
theorem eI:∀(more kvs:List (Key×V)),(bw kvs more).length<=kvs.length+more.length
 | [],kvs=>by show kvs.length<=kvs.length+0; omega
 | p::r,kvs=>by
  have h1:=eI r (putK kvs p.1 p.2)
  have h2:=fZ kvs p.1 p.2
  show (bw (putK kvs p.1 p.2) r).length<=_
  rw [List.length_cons]; omega
theorem tw {P:Program}{w:World} : ∀{kvs:List (Key×V)}{ws:List (Value×Value)},VV (kvs.map λkv=>(kV kv.1,kv.2)) ws->∃rs,Carries (bx P w) ws rs/\KV kvs rs
 | [],_,r=>by rw [List.map_nil] at r; cases r; exact ⟨[],True.intro,.nil⟩
 | p::kvs,_,r=>by
  rw [List.map_cons] at r
  cases r with
  | @cons a b as bs h t=>
   obtain ⟨rs,c,q⟩:=tw (P:=P) (w:=w) t
   obtain ⟨b1,b2⟩:=b
   exact ⟨(p.1,b2)::rs,⟨lI h.1,rfl,c⟩,.cons ⟨rfl,h.2⟩ q⟩
def OY (tm:List (TE×TE)):TE:=λσ H Q=>∀p,H p=none->xp tm σ (upd H p (.dK [])) λps H2=>H2 p=some (.dK [])/\∃kvs:List (Key×V),ps=kvs.map (λkv=>(kV kv.1,kv.2))/\kvs.length<=15/\Q (.ref p) (upd H2 p (.dK (bw [] kvs)))
theorem mq {X:Cx}{pos:Pos}{keys:List (Option Expr)}{values:List Expr}{tm:List (TE×TE)}(h:Hz X pos keys values tm) (iz:keys.all (·.isSome)=true) (hl:keys.length=values.length) (h0:keys≠[])
 (Y8:keys.length<=15):PE X (.Dict keys values pos) (OY tm):=by
 intro pins s σ H Q I q
 have hn:=I.hok.fresh (Nat.le_refl s.heap.objs.size)
 have I1:=I.laid (a:=s.heap.objs.size) (o:=.dK []) (h':=s.heap.push { cls:=.type "dict",data:=.dict #[] }) (t':=s.toks) (λ_ _ q=>Heap.get?_push_of_some _ q) (Nat.le_refl _) (xm s.heap I.big)
 refine wpAny_Dict_walk (knd:=bx X.prog X.w) iz hl h0 Y8 (aN (h pins _ σ _ _ I1 (q _ hn)) λws s2 ⟨ps,H2,I2,rel,e,kvs,ep,lk,q2⟩=>?_)
 subst ep
 obtain ⟨rs,c,rk⟩:=tw (P:=X.prog) (w:=X.w) rel
 obtain ⟨z,hd,vs0,r0,dd⟩:=BL I2.hok e
 cases r0
 refine ⟨rs,c,dd,λh' ow hs=>⟨.ref s.heap.objs.size,_,?_,rfl,q2⟩⟩
 have hz:(bw [] kvs).length<=sizeLine:=by
  have h1:=eI kvs []
  rw [List.length_nil] at h1
  rw [sizeLine_eq]; omega
 have he:∃q,h'.get? s.heap.objs.size=some q:=let ⟨q,_,_,hq,_⟩:=ow; ⟨q,hq⟩
 exact qh I2 (by rw [e]; exact True.intro) hs he (oW hz hd (rk.merge .nil) ow)
structure M1 (X:Cx) (o:Expr) (m:Str) (apos:Pos) (e:Expr) (gf:Pos):Prop where
 base:attributeBase o m X.env (eval o X.env)=eval o X.env
 iV:((backTo gf (starEach [e] X.env)).all (λx=>!x.1) && (backToKw gf (keywordEach [] X.env)).all (λx=>x.1.isSome)
  && decide (([e]:List Expr).length+([]:List Keyword).length+(if ([]:List Keyword).isEmpty then 0 else 1)<30))=true
 line:(apos.endLine == gf.line)=true
 trees:backTo gf (starEach [e] X.env)=[(false,eval e X.env)]
def RQ (H:Hp) (a:Addr):Prop:=(∃kvs,Rd H a (.dK kvs))\/∃kvs,Rd H a (.dT kvs)
theorem KY {X:Cx}{pins:List (Addr×Obj)}{σ:St}{H:Hp}{s:Shared}{a:Addr}(I:Inv X pins σ H s) (d:RQ H a) :
 s.TypeIs (.ref a) "dict" /\ (∀b,Value.ref a=.ref b->∃ob,s.heap.get? b=some ob/\ob.dict=none)/\(a == sysModules)=false:=by
 rcases d with ⟨kvs,e⟩ | ⟨kvs,e⟩
 . obtain ⟨_,hd,vs,_,dd⟩:=jt I.hok e
   refine ⟨dd.typeIs,λb q=>?_,hd⟩
   cases q
   obtain ⟨ob,_,_,h1,h2,_⟩:=dd
   exact ⟨ob,h1,h2.2.1⟩
 . obtain ⟨_,hd,xs,_,dd⟩:=nF I.hok e
   refine ⟨dd.typeIs,λb q=>?_,hd⟩
   cases q
   obtain ⟨ob,_,_,h1,h2,_⟩:=dd
   exact ⟨ob,h1,h2.2.1⟩
section
variable {X:Cx}{pins:List (Addr×Obj)}{σ:St}{H:Hp}{s:Shared}{a:Addr}{y d:V}{u r:Value}{o:Option V}{A:Around}{E:Value->Shared->Prop}
theorem KZ {Q:Value->Shared->Prop}(hu:A.units+1<cLine) (I:Inv X pins σ H s) (g:b0 H a y o) (ry:RelV y u) (h:∀w' s',Inv X pins σ H s'->RelV (o.getD .aQ) w'->Q w' s') :
 wpAny (model X.prog X.w) A (call (.builtin "dict.get") [.ref a,u]) Q E s:=by
 rcases g with ⟨kvs,k,e,ey,l⟩ | ⟨kvs,k,b,e,ey,eb,l⟩
 . subst ey
   obtain ⟨z,hd,vs,rel,dd⟩:=jt I.hok e
   refine call_meetsIn PySem.F.slot_dict_get dd.typeIs PySem.F.entry_dict_get (PySem.F.args_dict_get_2 _ _) (meets_dict_get (bx X.prog X.w) a (lI ry) hd) ⟨_,dd.mapOf,h _ _ (I.tok _) ?_⟩
   rw [l]
   exact (rel.val k).getD rfl
 . subst ey
   cases (show u=Value.ref b from ry)
   obtain ⟨z,hd,xs,rel,dd⟩:=nF I.hok e
   refine call_meetsIn PySem.F.slot_dict_get dd.typeIs PySem.F.entry_dict_get (PySem.F.args_dict_get_2 _ _) (meetsH_dict_get (tupleKind (bx X.prog X.w)) a b hd) ⟨tupleKind_room_in1 hu,k,xs,mm I.hok eb,dd,h _ _ (I.tok _) ?_⟩
   rw [l]
   exact (rel.val k).getD rfl
end
def K0 (td ty:TE):TE:=λσ H Q=>td σ H λx H1=>∃a,x=.ref a/\RQ H1 a/\ty σ H1 λy H2=>∃o,b0 H2 a y o/\Q (o.getD .aQ) H2
section
variable {X:Cx}{o e f:Expr}{apos gf:Pos}{td ty tx:TE}
theorem rQ (hu:X.A.units+1<cLine) (ho:PE X o td) (he:PE X e ty) (m:M1 X o "get" apos e gf):PE X (.Call (.Attribute o "get" apos) [e] [] gf) (K0 td ty):=by
 intro pins s σ H Q I h
 refine wpAny_Call_method m.base m.iV m.line PySem.F.plainAttrs_dict PySem.F.slot_dict_get PySem.F.type_dict_get (aN (ho pins s σ H _ I h) λu s1 ⟨x,H1,I1,rx,a,ex,d,q1⟩=>?_)
 subst ex
 obtain rfl:u=Value.ref a:=rx
 obtain ⟨t1,t2,_⟩:=KY I1 d
 refine ⟨t1,t2,?_⟩
 rw [m.trees]
 refine Calls.callWith_builtin rfl (Calls.evalArgs_plain (Calls.spliced_cons (aN (he pins s1 σ H1 _ I1 q1) λiv s2 ⟨y,H2,I2,ry,ov,g,q2⟩=>Calls.spliced_nil ?_)))
 exact KZ hu I2 g ry λw' s3 I3 kJ=>⟨_,H2,I3,kJ,q2⟩
end
section
variable {X:Cx}{pins:List (Addr×Obj)}{σ:St}{H:Hp}{s:Shared}{a:Addr}{kvs:List (Key×V)}{A:Around}{E:Value->Shared->Prop}
theorem FK {Q:Value->Shared->Prop}(I:Inv X pins σ H s) (e:Rd H a (.dK kvs)) (h:∀p s',H p=none->Inv X pins σ (upd H p (.dK kvs)) s'->Q (.ref p) s'):wpAny (model X.prog X.w) A (call (.type "dict") [.ref a]) Q E s:=by
 obtain ⟨z,hd,vs,rel,dd⟩:=jt I.hok e
 refine kt_call_dict hd dd (by rw [← rel.length]; exact z) λh' ow hs=>?_
 refine h _ _ (I.hok.fresh (Nat.le_refl _)) (I.laid (a:=s.heap.objs.size) (o:=.dK kvs) (t':=s.toks) (λb q hq=>?_) (Nat.le_refl _) (oW z (beq_eq_false_iff_ne.mpr (Ne.symm (Nat.ne_of_lt I.big))) rel ow))
 exact (hs.2 b (Nat.ne_of_lt (Heap.lt_size hq))).trans (Heap.get?_push_of_some _ hq)
end
section
variable {X:Cx}{pins:List (Addr×Obj)}{σ:St}{H:Hp}{s:Shared}{a:Addr}{y:V}{u:Value}{A:Around}{E:Value->Shared->Prop}
end
end L2
namespace HT
open PySem PyProof.Rows
def lexLt:List Int->List Int->Bool
 | [],[]=>false
 | [],_::_=>true
 | _::_,[]=>false
 | x::xs,y::ys=>if x=y then lexLt xs ys else decide (x<y)
theorem j7 (x y:Int) (xs ys:List Int):lexLt (x::xs) (y::ys)=if x=y then lexLt xs ys else decide (x<y):=rfl
theorem wD:lexLt [] []=false:=rfl
section
open PySem.SeqAt
open PySem.AutoSeq1 (wpAny_loadPart')
open PySem.MeetsSeq PySem.MeetsSeq2 PySem.MeetsSeq3
end
section
variable {prog:Program}{w:World}{A:Around}{E:Value->Shared->Prop}{s:Shared}
theorem Jv {t b:Addr}{vs ws:List Value}{Q:Value->Shared->Prop}(ht:IsTup s.heap t vs.toArray) (hb:IsTup s.heap b ws.toArray) (hv:vs≠[])
 (h1:ws=[]->Q (.ref t) s) (h2:ws≠[]->Q (.ref s.heap.objs.size) { s with heap:=s.heap.push { cls:=.type "tuple",data:=.seq (vs++ws).toArray } })
 (hsz:vs.length+ws.length<=sizeLine):wpAny (model prog w) A (binaryOp .Add (.ref t) (.ref b)) Q E s:=by
 obtain ⟨⟨cls,dd,data,sl⟩,ho,hc,n,hd⟩:=id ht
 obtain ⟨⟨U0,Ad,data2,HA⟩,xq,i8,n2,hd2⟩:=id hb
 simp only at hc hd i8 hd2
 subst hc hd i8 hd2
 have e:vs.toArray++ws.toArray=(vs++ws).toArray:=by simp
 by_cases hw:ws=[]
 . exact concat_meets ⟨_,ho,rfl⟩ ⟨_,xq,rfl⟩ noFill_tuple_add seq_tuple_add PySem.F.slot_tuple_add PySem.F.entry_tuple_add (PySem.F.args_tuple_add_2 _ _)
    (tuple_addW1 t b vs.toArray ws.toArray n n2 dd Ad sl HA (by simpa using hv) (by simp [hw])) ⟨ho,xq,h1 hw⟩
 . refine concat_meets ⟨_,ho,rfl⟩ ⟨_,xq,rfl⟩ noFill_tuple_add seq_tuple_add PySem.F.slot_tuple_add PySem.F.entry_tuple_add (PySem.F.args_tuple_add_2 _ _)
    (tuple_addW2 t b vs.toArray ws.toArray n n2 dd Ad sl HA (by simpa using hv) (by simpa using hw) (by rw [List.size_toArray,List.size_toArray]; exact hsz)) ⟨ho,xq,?_⟩
   rw [e]
   exact h2 hw
def jC (n d:Nat):Option Int->Nat
 | none=>d
 | some v=>if v<0 then (v+(n:Int)).toNat else min v.toNat n
theorem xr (n d:Nat):jC n d none=d:=rfl
theorem Ae (n d k:Nat):jC n d (some (k:Int))=min k n:=by
 show (if (k:Int)<0 then ((k:Int)+(n:Int)).toNat else min (k:Int).toNat n)=min k n
 rw [if_neg (by omega),Int.toNat_natCast]
end
end HT
namespace L2
open PySem PySem.Spec PyProof.Rows
abbrev TO:=St->Hp->(Option Int->Hp->Prop)->Prop
def PO (X:Cx) (e:Option Expr) (t:TO):Prop:=
 ∀(pins:List (Addr×Obj)) (s:Shared) (σ:St) (H:Hp) (Q:Option Int->Hp->Prop),Inv X pins σ H s->t σ H Q->
  wpAny (model X.prog X.w) X.A (evalPart e X.env) (λu s'=>∃o H',Inv X pins σ H' s'/\IsPart u o/\Q o H') X.xe s
def Jw:TO:=λ_ H Q=>Q none H
def OZ (t:TE):TO:=λσ H Q=>t σ H λx H1=>∃i,x=.int i/\Q (some i) H1
theorem intsAre_of {ns:List Int} : ∀{us:List Value},Vals (ns.map V.int) us->IntsAre us ns:=by
 induction ns with
 | nil=>intro us r; rw [List.map_nil] at r; cases r; exact .nil
 | cons n ns ih=>
  intro us r
  rw [List.map_cons] at r
  cases r with
  | cons r1 r2=>
   obtain ⟨t,e⟩:=r1
   subst e
   exact .cons n t (ih r2)
section
variable {X:Cx}{e:Expr}{te:TE}{lo hi:Option Expr}{tl th:TO}{pos p2:Pos}
theorem eY:PO X none Jw:=by
 intro pins s σ H Q I h
 rw [evalPart_none]
 exact wpAny_pure ⟨none,H,I,.none,h⟩
theorem eZ (h:PE X e te):PO X (some e) (OZ te):=by
 intro pins s σ H Q I hw
 rw [evalPart_some]
 refine aN (h pins s σ H _ I hw) λu s1 ⟨x,H1,I1,r1,q1⟩=>?_
 obtain ⟨i,rfl,q⟩:=q1
 obtain ⟨t,rfl⟩:=r1
 exact ⟨some i,H1,I1,.int i t,q⟩
def HB (X:Cx) (r:V->Option Int->Option Int->Hp->VK->Prop):Prop:=
 ∀(pins:List (Addr×Obj)) (s:Shared) (σ:St) (H:Hp) (x:V) (v vl vu:Value) (lo hi:Option Int) (sl:Addr) (Q:VK),Inv X pins σ H s->RelV x v->s.heap.IsSliceOf sl vl vu .none->IsPart vl lo->IsPart vu hi->r x lo hi H Q->
  ∃T id,typeLookup (.type T) "__getitem__" = pure (some (.builtin id))/\s.TypeIs v T/\wpAny (model X.prog X.w) X.A (getItem v (.ref sl)) (EP X pins σ Q) X.xe s
def Y9 (r:V->Option Int->Option Int->Hp->VK->Prop) (te:TE) (tl th:TO):TE:=λσ H Q=>te σ H λx H1=>tl σ H1 λl H2=>th σ H2 λu H3=>r x l u H3 Q
theorem eu {r:V->Option Int->Option Int->Hp->VK->Prop}(hr:HB X r) (he:PE X e te) (hl:PO X lo tl) (hu:PO X hi th):PE X (.Subscript e (.Slice lo hi none p2) pos) (Y9 r te tl th):=by
 intro pins s σ H Q I h
 refine Subscript_ (aN (he pins s σ H _ I h) λv s1 ⟨x,H1,I1,r1,q1⟩=>?_)
 refine wpAny_Slice (aN (hl pins s1 σ H1 _ I1 q1) λvl s2 ⟨l,H2,I2,pl,q2⟩=>aN (hu pins s2 σ H2 _ I2 q2) λvu s3 ⟨u,H3,I3,pu,q3⟩=>?_)
 rw [evalPart_none]
 refine wpAny_pure ?_
 have I4:Inv X pins σ H3 { s3 with heap:=s3.heap.push { cls:=.type "slice",data:=.fields #[vl,vu,.none] } }:=I3.kept (t':=s3.toks) λb ob q=>Heap.get?_push_of_some _ q
 obtain ⟨T,id,hT,ht,hg⟩:=hr pins { s3 with heap:=s3.heap.push { cls:=.type "slice",data:=.fields #[vl,vu,.none] } } σ H3 x v vl vu l u s3.heap.objs.size Q I4 r1 (Heap.IsSliceOf.new ..) pl pu q3
 show wpAny (model X.prog X.w) X.A (subscriptTail e (.Slice lo hi none p2) v (.ref s3.heap.objs.size)) (EP X pins σ Q) X.xe { s3 with heap:=s3.heap.push { cls:=.type "slice",data:=.fields #[vl,vu,.none] } }
 exact tail_any (ops:=[.ref s3.heap.objs.size,v]) ht hT hg (by with_unfolding_all rfl)
def hZ (xs:List V) (lo hi:Option Int):List V:=(xs.drop (HT.jC xs.length 0 lo)).take (HT.jC xs.length xs.length hi-HT.jC xs.length 0 lo)
theorem zK (xs:List V) (lo hi:Option Int):(hZ xs lo hi).length<=xs.length:=by
 unfold hZ
 rw [List.length_take,List.length_drop]
 omega
def O0 (K:W.Frag):R2:=λx y H Q=>∃a b xs ys,x=.ref a/\y=.ref b/\aR K H a xs/\aR K H b ys/\xs≠[]/\xs.length+ys.length<=sizeLine/\
 (ys=[]->Q (.ref a) H)/\(ys≠[]->∀p,H p=none->Q (.ref p) (upd H p (.tup (xs++ys))))
theorem Vals.qk {xs:List V}{us:List Value}(r:Vals xs us):us=[] ↔ xs=[]:=by
 cases r with
 | nil=>simp
 | cons _ _=>simp
theorem Jx:fk X (binaryOp .Add) (O0 X.K):=by
 intro pins s σ H x y v u Q I rx ry h
 obtain ⟨a,b,xs,ys,rfl,rfl,ha,hb,hx,hz,q1,q2⟩:=h
 cases rx
 cases ry
 obtain ⟨its,r1,p1,_⟩:=I.tuple ha
 obtain ⟨lW,r2,p2,_⟩:=I.tuple hb
 refine HT.Jv p1 p2 (λz=>hx (r1.qk.mp z)) (λz=>⟨.ref a,H,I,rfl,q1 (r2.qk.mp z)⟩) (λz=>?_) (by rw [← r1.length,← r2.length]; exact hz)
 refine ⟨.ref s.heap.objs.size,_,I.laid (t':=s.toks) (o:=.tup (xs++ys)) (λb ob q=>Heap.get?_push_of_some _ q) (Nat.le_refl _) ?_,rfl,q2 (λw=>z (r2.qk.mpr w)) _ (I.hok.fresh (Nat.le_refl _))⟩
 exact ⟨by rw [List.length_append]; exact hz,_,r1.append r2,IsTup.new _ _⟩
theorem zL:gp X (.type "tuple") (λxs H Q=>∃a ys,xs=[.ref a]/\aR X.K H a ys/\Q (.ref a) H):=by
 intro pins s σ H xs us Q I r h
 obtain ⟨a,ys,rfl,ha,q⟩:=h
 obtain ⟨u,rfl,ru⟩:=vals1 r
 cases ru
 obtain ⟨its,_,p1,_⟩:=I.tuple ha
 exact call_tuple_same (items:=its.toArray) p1 ⟨.ref a,H,I,rfl,q⟩
end
end L2
namespace L2
open PySem PySem.Spec PyProof.Rows
def tE (n:Nat) (i:Int):Option Nat:=if 0<=i then (if i<n then some i.toNat else none) else if -(n:Int)<=i then some (i+n).toNat else none
def jD {α:Type}(xs:List α) (i:Int):Option α:=(tE xs.length i).bind λj=>xs[j]?
theorem Af {n:Nat}{i:Int}{j:Nat}(h:tE n i=some j):seqIndex? i n=some j/\j<n /\ -(n:Int)<=i/\i<n:=by
 unfold tE at h
 by_cases h0:0<=i
 . rw [if_pos h0] at h
   by_cases h1:i<n
   . rw [if_pos h1] at h
     have e:i.toNat=j:=Option.some.inj h
     exact ⟨by rw [seqIndex_of h0 h1,e],by omega,by omega,h1⟩
   . rw [if_neg h1] at h; cases h
 . rw [if_neg h0] at h
   by_cases h1 : -(n:Int)<=i
   . rw [if_pos h1] at h
     have e:(i+n).toNat=j:=Option.some.inj h
     exact ⟨by rw [seqIndex_neg (by omega) h1,e],by omega,h1,by omega⟩
   . rw [if_neg h1] at h; cases h
theorem uP {α:Type}{xs:List α}{i:Int}{v:α}(h:jD xs i=some v):∃j,seqIndex? i xs.length=some j/\xs[j]?=some v/\j<xs.length /\ -(xs.length:Int)<=i/\i<xs.length:=by
 unfold jD at h
 cases e:tE xs.length i with
 | none=>rw [e] at h; cases h
 | some j=>
  rw [e] at h
  obtain ⟨h1,h2,h3,h4⟩:=Af e
  exact ⟨j,h1,h,h2,h3,h4⟩
theorem a0 {α:Type}{xs:List α}{j:Nat}{v:α}(h:xs[j]?=some v):jD xs (j:Int)=some v:=by
 have hj:j<xs.length:=(List.getElem?_eq_some_iff.mp h).1
 have e:tE xs.length (j:Int)=some j:=by
  unfold tE
  rw [if_pos (by omega),if_pos (by omega)]; simp
 unfold jD; rw [e]; exact h
theorem FN {α:Type}(xs:List α) (v:α):jD (xs++[v]) (-1)=some v:=by
 have hl:(xs++[v]).length=xs.length+1:=by simp
 have e:tE (xs++[v]).length (-1)=some xs.length:=by
  unfold tE
  rw [hl,if_neg (by decide),if_pos (by omega)]
  congr 1
  omega
 unfold jD
 rw [e]
 show (xs++[v])[xs.length]?=some v
 simp
def Jy (b:Expr):Prop:=∀o i,subscripted b false o i=operate [o,i] (getItem o i)
def tF (X:Cx) (r:R2):Prop:=
 ∀(value slice:Expr) (pins:List (Addr×Obj)) (s:Shared) (σ:St) (H:Hp) (x y:V) (v u:Value) (Q:VK),Inv X pins σ H s->RelV x v->RelV y u->r x y H Q->
  subscripted slice false v u=operate [v,u] (getItem v u)->wpAny (model X.prog X.w) X.A (subscriptTail value slice v u) (EP X pins σ Q) X.xe s
def RR (X:Cx) (id:String) (r:V->List V->Hp->VK->Prop):Prop:=
 ∀(pins:List (Addr×Obj)) (s:Shared) (σ:St) (H:Hp) (x:V) (xs:List V) (v:Value) (us:List Value) (Q:VK),Inv X pins σ H s->RelV x v->Vals xs us->r x xs H Q->
  wpAny (model X.prog X.w) X.A (call (.builtin id) (v::us)) (EP X pins σ Q) X.xe s
section
variable {X:Cx}{a b:Expr}{ta tb:TE}{pos:Pos}
theorem tF.or {r r':R2}(h:tF X r) (h':tF X r'):tF X (λx y H Q=>r x y H Q\/r' x y H Q):=by
 intro value slice pins s σ H x y v u Q I rx ry q hs
 rcases q with q | q
 . exact h value slice pins s σ H x y v u Q I rx ry q hs
 . exact h' value slice pins s σ H x y v u Q I rx ry q hs
theorem aP {r:R2}(hr:tF X r) (ha:PE X a ta) (hb:PE X b tb) (hs:Jy b):PE X (.Subscript a b pos) (qR r ta tb):=by
 intro pins s σ H Q I h
 exact Subscript_ (FC ha hb I h λv u s2 x y H2 I2 rx ry q=>hr a b pins s2 σ H2 x y v u Q I2 rx ry q (hs _ _))
def iA (K:W.Frag):R2:=λx y H Q=>∃p xs i v,x=.ref p/\y=.int i/\av K H p xs/\jD xs i=some v/\Q v H
def dv (K:W.Frag):R2:=λx y H Q=>∃p xs i v,x=.ref p/\y=.int i/\aR K H p xs/\jD xs i=some v/\Q v H
def K1:R2:=λx y H Q=>∃z i c,x=.str z/\y=.int i/\z.length<=sizeLine/\jD z.cps.toList i=some c/\Q (.str ⟨#[c]⟩) H
theorem br:tF X (iA X.K):=by
 intro value slice pins s σ H x y v u Q I rx ry h hs
 obtain ⟨p,xs,i,z,rfl,rfl,hq,he,q⟩:=h
 cases rx
 obtain ⟨t,rfl⟩:=ry
 obtain ⟨its,r,pl,hz⟩:=I.list hq
 obtain ⟨j,h1,h2,h3,h4,h5⟩:=uP he
 obtain ⟨w,ew,kJ⟩:=r.get h2
 have hl:=r.length
 have hn:=mh
 have fin:EP X pins σ Q w s:=⟨z,H,I,kJ,q⟩
 by_cases h0:0<=i
 . have hj:i.toNat=j:=by
    rw [seqIndex_of h0 h5] at h1
    exact Option.some.inj h1
   exact item_listR pl.isList h0 (by omega) (by rw [hj]; simpa using ew) fin hs
 . have hj:(i+(its.toArray.size:Int)).toNat=j:=by
    rw [seqIndex_neg (by omega) h4] at h1
    rw [List.size_toArray,← hl]
    exact Option.some.inj h1
   exact subscriptTail_builtinR (x:=w) pl.isList.typeIs slot_list_getitem.lookup
    (wpAny_getItem_list_neg (Q:=λr s'=>r=w/\EP X pins σ Q r s') pl.isList (by omega) (by rw [List.size_toArray] <;> omega) (by omega) (by rw [hj]; simpa using ew) ⟨rfl,fin⟩) hs
theorem cI:tF X (dv X.K):=by
 intro value slice pins s σ H x y v u Q I rx ry h hs
 obtain ⟨p,xs,i,z,rfl,rfl,hq,he,q⟩:=h
 cases rx
 obtain ⟨t,rfl⟩:=ry
 obtain ⟨its,r,pl,hz⟩:=I.tuple hq
 obtain ⟨j,h1,h2,h3,h4,h5⟩:=uP he
 obtain ⟨w,ew,kJ⟩:=r.get h2
 have hl:=r.length
 have hn:=mh
 have fin:EP X pins σ Q w s:=⟨z,H,I,kJ,q⟩
 exact subscriptTail_builtinR (x:=w) pl.typeIs slot_tuple_getitem.lookup
  (getItem_tuple (j:=j) (Q:=λr s'=>r=w/\EP X pins σ Q r s') pl (by omega) (by omega) (by rw [List.size_toArray,← hl]; exact h1) (by simpa using ew) ⟨rfl,fin⟩) hs
theorem tG:tF X K1:=by
 intro value slice pins s σ H x y v u Q I rx ry h hs
 obtain ⟨z,i,c,rfl,rfl,hz,he,q⟩:=h
 obtain ⟨t,rfl⟩:=rx
 obtain ⟨t',rfl⟩:=ry
 obtain ⟨j,h1,h2,h3,h4,h5⟩:=uP he
 have hl:z.cps.toList.length=z.length:=by simp [Str.length]
 rw [hl] at h1 h4 h5
 have hn:=mh
 exact tail_any (typeIs_str s z t) slot_str_getitem.lookup (getItem_str (c:=c) (by
  have e1:decide (i < -(2 ^ 63:Int))=false:=decide_eq_false (by omega)
  have e2:decide (i≥2 ^ 63)=false:=decide_eq_false (by omega)
  rw [e1,e2,Bool.or_false]) (by rw [h1]; simpa using h2) ⟨.str ⟨#[c]⟩,H,I.tok _,⟨_,rfl⟩,q⟩) hs
def RS (K:W.Frag):R2:=λx y H Q=>iA K x y H Q\/dv K x y H Q\/K1 x y H Q
theorem oX:tF X (RS X.K):=br.or (cI.or tG)
theorem BM (its:List Value) (n j:Nat) (u:Value):Obj.mapSeq (·.setIfInBounds j u) { cls:=.type "list",data:=.seq its.toArray n } = { cls:=.type "list",data:=.seq (its.set j u).toArray n }:=by
 simp [Obj.mapSeq]
theorem Inv.lst {pins:List (Addr×Obj)}{σ:St}{H:Hp}{s:Shared}{p:Addr}{xs:List V}(I:Inv X pins σ H s) (h:H p=some (.lst xs)) :
 ∃(its:List Value) (n:Nat),Vals xs its/\s.heap.get? p=some { cls:=.type "list",data:=.seq its.toArray n } /\ xs.length<=sizeLine:=by
 obtain ⟨z,its,n,r,e⟩:=I.hok p _ h
 exact ⟨its,n,r,e,z⟩
theorem Inv.K2 {pins:List (Addr×Obj)}{σ:St}{H:Hp}{s:Shared}{p:Addr}{xs ys:List V}{its its':List Value}{n n':Nat}{f:Obj->Obj}(I:Inv X pins σ H s) (h:H p=some (.lst xs))
 (ho:s.heap.get? p=some { cls:=.type "list",data:=.seq its.toArray n }) (hf:f { cls:=.type "list",data:=.seq its.toArray n } = { cls:=.type "list",data:=.seq its'.toArray n' }) (r:Vals ys its') (hz:ys.length<=sizeLine) (t:Nat) :
 Inv X pins σ (upd H p (.lst ys)) { s with heap:=s.heap.update p f,toks:=t }:=by
 have e:(s.heap.update p f).get? p=some { cls:=.type "list",data:=.seq its'.toArray n' }:=by
  rw [Heap.get?_update_self f ho (by rw [hf] <;> rfl),hf]
 refine I.write (x:=p) (e:=p) (by rw [h]; trivial) (.inl rfl) (λb u hb q=>(Heap.get?_update_other _ _ (Ne.symm hb)).trans q) ⟨_,e⟩ ?_
 exact ⟨hz,its',n',r,e⟩
def O1:V->V->V->Hp->(Hp->Prop)->Prop:=λo i v H Q=>∃p xs k j,o=.ref p/\i=.int k/\H p=some (.lst xs)/\tE xs.length k=some j/\Q (upd H p (.lst (xs.set j v)))
theorem set_list:KC X O1:=by
 intro pins s σ H o i v ov iv u Q I ro ri rv h
 obtain ⟨p,xs,k,j,rfl,rfl,hp,hj,q⟩:=h
 cases ro
 obtain ⟨t,rfl⟩:=ri
 obtain ⟨its,n,r,ho,hz⟩:=I.lst hp
 obtain ⟨h1,h2,h3,h4⟩:=Af hj
 have hl:=r.length
 have hn:=mh
 have I':Inv X pins σ (upd H p (.lst (xs.set j v))) { s with heap:=s.heap.update p (Obj.mapSeq (·.setIfInBounds j u)) } :=
  I.K2 hp ho (BM its n j u) (r.set rv j) (by rw [List.length_set]; exact hz) s.toks
 by_cases h0:0<=k
 . have hk:k.toNat=j:=by
    rw [seqIndex_of h0 h4] at h1
    exact Option.some.inj h1
   exact W.ki_setAt ho h0 (by omega) (by rw [List.size_toArray,← hl]; exact h4) (by rw [hk]; exact ⟨_,I',q⟩)
 . have hk:(k+(its.toArray.size:Int)).toNat=j:=by
    rw [seqIndex_neg (by omega) h3] at h1
    rw [List.size_toArray,← hl]
    exact Option.some.inj h1
   exact W.ki_setBack ho (by omega) (by rw [List.size_toArray,← hl]; exact h3) (by omega) (by rw [hk]; exact ⟨_,I',q⟩)
theorem xt (lo hi:Option Int) (n:Nat):(sliceBounds lo hi none n).1=((HT.jC n 0 lo:Nat):Int)/\(sliceBounds lo hi none n).2.1=((HT.jC n n hi:Nat):Int)/\(sliceBounds lo hi none n).2.2=1:=by
 refine ⟨?_,?_,rfl⟩
 . cases lo with
   | none=>simp [sliceBounds,HT.jC]
   | some i=>
    simp only [sliceBounds,HT.jC,Option.getD_none,show (1:Int)>0 by decide,if_true]
    by_cases h:i<0
    . simp only [h,if_true] <;> omega
    . simp only [h,if_false] <;> omega
 . cases hi with
   | none=>simp [sliceBounds,HT.jC]
   | some i=>
    simp only [sliceBounds,HT.jC,Option.getD_none,show (1:Int)>0 by decide,if_true]
    by_cases h:i<0
    . simp only [h,if_true] <;> omega
    . simp only [h,if_false] <;> omega
theorem wF (its:List Value) (lo hi:Option Int):slicePick its.toArray lo hi none=((its.drop (HT.jC its.length 0 lo)).take (HT.jC its.length its.length hi-HT.jC its.length 0 lo)).toArray:=by
 obtain ⟨h1,h2,h3⟩:=xt lo hi its.toArray.size
 unfold slicePick
 rw [h1,h2,h3]
 simp only [sliceRange_one,pick_run,List.size_toArray] <;> rfl
def K3 (K:W.Frag):V->Option Int->Option Int->Hp->VK->Prop:=λx lo hi H Q=>∃a xs,x=.ref a/\av K H a xs/\∀p,H p=none->Q (.ref p) (upd H p (.lst (hZ xs lo hi)))
theorem mr:HB X (K3 X.K):=by
 intro pins s σ H x v vl vu lo hi sl Q I rx hs pl pu h
 obtain ⟨a,xs,rfl,hx,q⟩:=h
 cases rx
 obtain ⟨its,r,ht,hz⟩:=I.list hx
 have hlen:=r.length
 refine ⟨"list",_,slot_list_getitem.lookup,ht.isList.typeIs,?_⟩
 refine wpAny_getItem_list_slice ht.isList hs pl pu .none (by simp) ?_ (by rw [List.size_toArray] <;> omega)
 rw [wF,← hlen]
 refine ⟨.ref s.heap.objs.size,_,I.laid (t':=s.toks) (o:=.lst (hZ xs lo hi)) (λb ob q=>Heap.get?_push_of_some _ q) (Nat.le_refl _) ?_,rfl,q _ (I.hok.fresh (Nat.le_refl _))⟩
 exact ⟨Nat.le_trans (zK xs lo hi) hz,_,0,(r.drop (HT.jC xs.length 0 lo)).take (HT.jC xs.length xs.length hi-HT.jC xs.length 0 lo),Heap.get?_push_size _ rfl⟩
def iW:V->Bool
 | .aQ=>true
 | .bl _=>true
 | .int _=>true
 | .str _=>true
 | _=>false
def iG:V->V->Bool
 | .aQ,.aQ=>true
 | .bl a,.bl b=>a == b
 | .bl a,.int b=>(if a then 1 else 0) == b
 | .int a,.bl b=>a == (if b then 1 else 0)
 | .int a,.int b=>a == b
 | .str a,.str b=>a == b
 | _,_=>false
theorem oY {A:Around}{s:Shared}{y x:V}{u v:Value}(ry:RelV y u) (rx:RelV x v) (fy:iW y=true) (fx:iW x=true):SeqAt.EqAt A s u v (iG y x):=by
 cases y with
 | aQ=>
  cases ry
  cases x with
  | aQ=>cases rx; exact SeqAt.EqAt.same _
  | bl b=>cases rx; exact SeqAt.EqAt.none_bool b
  | int b=>obtain ⟨t,rfl⟩:=rx; exact SeqAt.EqAt.none_int b t
  | str b=>obtain ⟨t,rfl⟩:=rx; exact SeqAt.EqAt.none_str b t
  | _=>exact absurd (show false=true from fx) Bool.false_ne_true
 | bl a=>
  cases ry
  cases x with
  | aQ=>cases rx; exact SeqAt.EqAt.bool_none a
  | bl b=>cases rx; exact SeqAt.EqAt.bool_bool a b
  | int b=>obtain ⟨t,rfl⟩:=rx; exact SeqAt.EqAt.bool_int a b t
  | str b=>obtain ⟨t,rfl⟩:=rx; exact SeqAt.EqAt.bool_str a b t
  | _=>exact absurd (show false=true from fx) Bool.false_ne_true
 | int a=>
  obtain ⟨t',rfl⟩:=ry
  cases x with
  | aQ=>cases rx; exact SeqAt.EqAt.int_none a t'
  | bl b=>cases rx; exact SeqAt.EqAt.int_bool a t' b
  | int b=>obtain ⟨t,rfl⟩:=rx; exact SeqAt.EqAt.int_int a t' b t
  | str b=>obtain ⟨t,rfl⟩:=rx; exact SeqAt.EqAt.int_str a t' b t
  | _=>exact absurd (show false=true from fx) Bool.false_ne_true
 | str a=>
  obtain ⟨t',rfl⟩:=ry
  cases x with
  | aQ=>cases rx; exact SeqAt.EqAt.str_none a t'
  | bl b=>cases rx; exact SeqAt.EqAt.str_bool a t' b
  | int b=>obtain ⟨t,rfl⟩:=rx; exact SeqAt.EqAt.str_int a t' b t
  | str b=>obtain ⟨t,rfl⟩:=rx; exact SeqAt.EqAt.str_str a t' b t
  | _=>exact absurd (show false=true from fx) Bool.false_ne_true
 | _=>exact absurd (show false=true from fy) Bool.false_ne_true
def kQ (x:V) (u:Value):Bool:=match u with
 | .none=>iG .aQ x
 | .bool b=>iG (.bl b) x
 | .int i _=>iG (.int i) x
 | .str z _=>iG (.str z) x
 | _=>false
theorem Dx {x y:V}{u:Value}(r:RelV y u) (f:iW y=true):kQ x u=iG y x:=by
 cases y with
 | aQ=>cases r; rfl
 | bl b=>cases r; rfl
 | int i=>obtain ⟨t,rfl⟩:=r; rfl
 | str z=>obtain ⟨t,rfl⟩:=r; rfl
 | _=>exact absurd (show false=true from f) Bool.false_ne_true
theorem mv {x:V} : ∀{xs:List V}{us:List Value},Vals xs us->xs.all iW=true->us.any (kQ x)=xs.any λy=>iG y x
 | _,_,.nil,_=>rfl
 | y::xs,u::us,.cons r t,f=>by
  rw [List.all_cons,Bool.and_eq_true] at f
  rw [List.any_cons,List.any_cons,Dx r f.1,mv t f.2]
theorem kU {A:Around}{s:Shared}{x:V}{v:Value}(rx:RelV x v) (fx:iW x=true):∀{xs:List V}{us:List Value},Vals xs us->xs.all iW=true->∀u∈us,SeqAt.EqAt A s u v (kQ x u)
 | _,_,.nil,_=>λu hu=>by cases hu
 | y::xs,u::us,.cons r t,f=>λu' hu=>by
  rw [List.all_cons,Bool.and_eq_true] at f
  rcases List.mem_cons.mp hu with rfl | hu
  . rw [Dx r f.1]; exact oY r rx f.1 fx
  . exact kU rx fx t f.2 u' hu
def tH (x:V) (xs:List V):Bool:=xs.any λy=>iG y x
def K4 (K:W.Frag) (neg:Bool):R2:=λx y H Q=>∃p xs,y=.ref p/\(av K H p xs\/aR K H p xs)/\iW x=true/\xs.all iW=true/\Q (.bl (if neg then !tH x xs else tH x xs)) H
theorem Dy:fk X (compareOp .In) (K4 X.K false):=by
 intro pins s σ H x y v u Q I rx ry h
 obtain ⟨p,xs,rfl,hq,fx,fs,q⟩:=h
 cases ry
 rcases hq with hq | hq
 . obtain ⟨its,r,pl,hz⟩:=I.list hq
   refine SeqAt.in_listAt (kQ x) pl.isList (λw hw=>kU rx fx r fs w (by simpa using hw)) ⟨.bl _,H,I,rfl,?_⟩
   rw [show its.toArray.any (kQ x)=its.any (kQ x) by simp,mv r fs]
   exact q
 . obtain ⟨its,r,pl,hz⟩:=I.tuple hq
   refine SeqAt.in_tupleAt (kQ x) pl (λw hw=>kU rx fx r fs w (by simpa using hw)) ⟨.bl _,H,I,rfl,?_⟩
   rw [show its.toArray.any (kQ x)=its.any (kQ x) by simp,mv r fs]
   exact q
theorem xu:fk X (compareOp .NotIn) (K4 X.K true):=by
 intro pins s σ H x y v u Q I rx ry h
 obtain ⟨p,xs,rfl,hq,fx,fs,q⟩:=h
 cases ry
 rcases hq with hq | hq
 . obtain ⟨its,r,pl,hz⟩:=I.list hq
   refine SeqAt.notIn_listAt (kQ x) pl.isList (λw hw=>kU rx fx r fs w (by simpa using hw)) ⟨.bl _,H,I,rfl,?_⟩
   rw [show its.toArray.any (kQ x)=its.any (kQ x) by simp,mv r fs]
   exact q
 . obtain ⟨its,r,pl,hz⟩:=I.tuple hq
   refine SeqAt.notIn_tupleAt (kQ x) pl (λw hw=>kU rx fx r fs w (by simpa using hw)) ⟨.bl _,H,I,rfl,?_⟩
   rw [show its.toArray.any (kQ x)=its.any (kQ x) by simp,mv r fs]
   exact q
theorem cw:gp X (.builtin "len") (λxs H Q=>∃p ys,xs=[.ref p]/\(av X.K H p ys\/aR X.K H p ys)/\Q (.int ys.length) H):=by
 intro pins s σ H xs us Q I r h
 obtain ⟨p,ys,rfl,hq,q⟩:=h
 obtain ⟨u,rfl,rx⟩:=vals1 r
 cases rx
 have hn:=mh
 rcases hq with hq | hq
 . obtain ⟨its,r',pl,hz⟩:=I.list hq
   have hlen:=r'.length
   exact Calls.call_len_list pl.isList (by simp only [List.size_toArray] <;> omega) ⟨.int ys.length,H,I.tok _,⟨s.toks+1,by rw [List.size_toArray,hlen]⟩,q⟩
 . obtain ⟨its,r',pl,hz⟩:=I.tuple hq
   have hlen:=r'.length
   exact len_tuple pl (by simp only [List.size_toArray] <;> omega) ⟨.int ys.length,H,I.tok _,⟨s.toks+1,by rw [List.size_toArray,hlen]⟩,q⟩
theorem gv:gp X (.type "list") (λxs H Q=>∃p ys,xs=[.ref p]/\(av X.K H p ys\/aR X.K H p ys)/\∀l,H l=none->Q (.ref l) (upd H l (.lst ys))):=by
 intro pins s σ H xs us Q I r h
 obtain ⟨p,ys,rfl,hq,q⟩:=h
 obtain ⟨u,rfl,rx⟩:=vals1 r
 cases rx
 have fin:∀(its:List Value),Vals ys its->ys.length<=sizeLine->∀(h':Heap) (c':Nat),(∀b o',s.heap.get? b=some o'->h'.get? b=some o')->
  h'.get? s.heap.objs.size=some { cls:=.type "list",dict:=none,data:=.seq its.toArray c',slots:=#[] } -> EP X pins σ Q (.ref s.heap.objs.size) { s with heap:=h' }:=λits r' hz h' c' kp e=>
  ⟨.ref s.heap.objs.size,_,I.laid (t':=s.toks) kp (Nat.le_refl _) (show bJ X.prog X.w _ h' _ (.lst ys) from ⟨hz,its,c',r',e⟩),rfl,q _ (I.hok.fresh (Nat.le_refl _))⟩
 rcases hq with hq | hq
 . obtain ⟨its,r',pl,hz⟩:=I.list hq
   have hlen:=r'.length
   obtain ⟨o,ho,hc,n,hd⟩:=pl.isList
   exact call_list_seq p (.inl rfl) ho hc hd (λh' c' kp e=>fin its r' hz h' c' kp e) (by simp only [List.size_toArray] <;> omega)
 . obtain ⟨its,r',pl,hz⟩:=I.tuple hq
   have hlen:=r'.length
   obtain ⟨o,ho,hc,n,hd⟩:=pl
   exact call_list_seq p (.inr rfl) ho hc hd (λh' c' kp e=>fin its r' hz h' c' kp e) (by simp only [List.size_toArray] <;> omega)
def K5 (K:W.Frag) (T:String) (x:V) (H:Hp):Prop:=match x with
 | .str _=>T = "str"
 | .int _=>T = "int"
 | .ref p=>(T = "list" /\ ∃xs,av K H p xs)\/(T = "tuple" /\ ∃o,K.lookup p=some o/\o.cls=.type "tuple" /\ o.dict=none)\/
  (T = "dict" /\ ((∃kvs,H p=some (.dK kvs))\/∃kvs,H p=some (.dT kvs)))\/(T = "set" /\ ∃S n,H p=some (.set S n))
 | _=>False
theorem Dz {pins:List (Addr×Obj)}{σ:St}{H:Hp}{s:Shared}{T:String}{x:V}{v:Value}(I:Inv X pins σ H s) (r:RelV x v) (ty:K5 X.K T x H) :
 s.TypeIs v T/\∀a,v=.ref a->∃ob,s.heap.get? a=some ob/\ob.dict=none:=by
 cases x with
 | str z=>
  obtain ⟨t,rfl⟩:=r
  cases (show T = "str" from ty)
  exact ⟨typeIs_str s z t,λ_ e=>nomatch e⟩
 | int i=>
  obtain ⟨t,rfl⟩:=r
  cases (show T = "int" from ty)
  exact ⟨typeIs_int s i t,λ_ e=>nomatch e⟩
 | ref p=>
  cases r
  rcases ty with ⟨rfl,xs,hq⟩ | ⟨rfl,o,hk,hc,hd⟩ | ⟨rfl,hk⟩ | ⟨rfl,S,n,hk⟩
  . obtain ⟨its,_,pl,_⟩:=I.list hq
    refine ⟨pl.isList.typeIs,λa e=>?_⟩
    cases e
    obtain ⟨o,n,e,c,hd,_⟩:=pl
    exact ⟨o,e,hd⟩
  . refine ⟨⟨o,I.gk p o hk,hc⟩,λa e=>?_⟩
    cases e
    exact ⟨o,I.gk _ o hk,hd⟩
  . have z:∃o,s.heap.get? p=some o/\o.ExactDict:=by
     rcases hk with ⟨kvs,hk⟩ | ⟨kvs,hk⟩
     . obtain ⟨_,_,_,_,o,_,_,e,ex,_⟩:=I.hok p _ hk
       exact ⟨o,e,ex⟩
     . obtain ⟨_,_,_,_,o,_,_,e,ex,_⟩:=I.hok p _ hk
       exact ⟨o,e,ex⟩
    obtain ⟨o,e,ex⟩:=z
    refine ⟨⟨o,e,ex.1⟩,λa e2=>?_⟩
    cases e2
    exact ⟨o,e,ex.2.1⟩
  . obtain ⟨o,_,_,_,e,ex,_⟩:=I.hok p _ hk
    refine ⟨⟨o,e,ex.1⟩,λa e2=>?_⟩
    cases e2
    exact ⟨o,e,ex.2.1⟩
 | _=>exact False.elim ty
def U1 (K:W.Frag) (T:String) (r:V->List V->Hp->VK->Prop) (to:TE):TE:=λσ H Q=>to σ H λx H1=>K5 K T x H1/\r x [] H1 Q
def Za (K:W.Frag) (T:String) (r:V->List V->Hp->VK->Prop) (to:TE) (t:TA):TE:=λσ H Q=>to σ H λx H1=>K5 K T x H1/\t σ H1 λxs H2=>r x xs H2 Q
variable {o e:Expr}{es:List Expr}{to:TE}{t:TA}{name:Str}{apos gf:Pos}{T id:String}{r:V->List V->Hp->VK->Prop}
theorem K6 (pa:PlainAttrs T) (slot:Slot T name id) (K7:typeOf (.builtin id)=pure (.type "method_descriptor")) (hm:RR X id r) (ho:PE X o to)
 (BN:attributeBase o name X.env (eval o X.env)=eval o X.env:=by rfl) (BO:(apos.endLine == gf.line)=true:=by rfl):PE X (.Call (.Attribute o name apos) [] [] gf) (U1 X.K T r to):=by
 intro pins s σ H Q I h
 refine wpAny_Call_method0_late BN BO (aN (ho pins s σ H _ I h) λv s1 ⟨x,H1,I1,r1,ty,q1⟩=>?_)
 obtain ⟨h1,h2⟩:=Dz I1 r1 ty
 exact ⟨T,id,pa,slot,K7,h1,h2,Calls.callWith_builtin rfl (PySem.evalArgs_none (hm pins s1 σ H1 x [] v [] Q I1 r1 .nil q1))⟩
theorem ft (pa:PlainAttrs T) (slot:Slot T name id) (K7:typeOf (.builtin id)=pure (.type "method_descriptor")) (hm:RR X id r) (ho:PE X o to) (ha:PA X (e::es) t)
 (BN:attributeBase o name X.env (eval o X.env)=eval o X.env:=by rfl)
 (U2:((backTo gf (starEach (e::es) X.env)).all (λx=>!x.1) && (backToKw gf (keywordEach [] X.env)).all (λx=>x.1.isSome)
  && decide ((e::es).length+([]:List Keyword).length+(if ([]:List Keyword).isEmpty then 0 else 1)<30))=true:=by rfl)
 (BO:(apos.endLine == gf.line)=true:=by rfl) (hs:starEach (e::es) X.env=(false,eval e X.env)::starEach es X.env:=by rfl) (K8:(backTo gf (starEach es X.env)).any (·.1)=false:=by rfl) :
 PE X (.Call (.Attribute o name apos) (e::es) [] gf) (Za X.K T r to t):=by
 intro pins s σ H Q I h
 refine wpAny_Call_method_late BN U2 BO rfl (aN (ho pins s σ H _ I h) λv s1 ⟨x,H1,I1,r1,ty,q1⟩=>?_)
 obtain ⟨h1,h2⟩:=Dz I1 r1 ty
 refine ⟨T,id,pa,slot,K7,h1,h2,?_⟩
 have hA:=ha gf pins s1 σ H1 _ I1 q1
 rw [hs] at hA ⊢
 refine Calls.callWith_builtin (by show (false || (backTo gf (starEach es X.env)).any (·.1))=false; rw [K8] <;> rfl) (Calls.evalArgs_plain ?_)
 exact aN hA λus s2 ⟨vs,H2,I2,r2,q2⟩=>hm pins s2 σ H2 x vs v us Q I2 r1 r2 q2
end
end L2
namespace L2
open PySem PySem.Spec PyProof.Rows
def tI (X:Cx) (id:String) (r:V->List V->Hp->VK->Prop):Prop:=
 ∀(pins:List (Addr×Obj)) (s:Shared) (σ:St) (H:Hp) (x:V) (xs:List V) (v:Value) (us:List Value) (Q:VK),Inv X pins σ H s->RelV x v->Vals xs us->r x xs H Q->
  wpAny (model X.prog X.w) X.A (call (.builtin id) (v::us)) (EP X pins σ Q) X.xe s
theorem Vals.one:∀{x:V}{us:List Value},Vals [x] us->∃u,us=[u]/\RelV x u
 | _,_,.cons r .nil=>⟨_,rfl,r⟩
theorem Vals.two:∀{x y:V}{us:List Value},Vals [x,y] us->∃u v,us=[u,v]/\RelV x u/\RelV y v
 | _,_,_,.cons r (.cons q .nil)=>⟨_,_,rfl,r,q⟩
theorem Vals.zero:∀{us:List Value},Vals [] us->us=[]
 | _,.nil=>rfl
theorem Vals.dropLast {xs:List V}{us:List Value}(h:Vals xs us):Vals xs.dropLast us.dropLast:=by
 induction h with
 | nil=>exact .nil
 | cons r t ih=>
  cases t with
  | nil=>exact .nil
  | cons q t'=>exact .cons r ih
theorem Vals.eraseIdx:∀{xs:List V}{us:List Value}(i:Nat),Vals xs us->Vals (xs.eraseIdx i) (us.eraseIdx i)
 | _,_,_,.nil=>.nil
 | _,_,0,.cons _ t=>t
 | _,_,i+1,.cons r t=>.cons r (Vals.eraseIdx i t)
theorem Vals.reverse {xs:List V}{us:List Value}(h:Vals xs us):Vals xs.reverse us.reverse:=by
 induction h with
 | nil=>exact .nil
 | cons r t ih=>rw [List.reverse_cons,List.reverse_cons]; exact Vals.append ih (.cons r .nil)
theorem BP {α:Type}(l:List α):l.eraseIdx (l.length-1)=l.dropLast:=by
 induction l with
 | nil=>rfl
 | cons a r ih=>
  cases r with
  | nil=>rfl
  | cons b r=>
   have e:(a::b::r).length-1=((b::r).length-1)+1:=by
    have h1:(a::b::r).length=r.length+2:=rfl
    have h2:(b::r).length=r.length+1:=rfl
    omega
   rw [e,List.eraseIdx_cons_succ,ih]
   all_goals rfl
section
variable {X:Cx}{pins:List (Addr×Obj)}{σ:St}{H:Hp}{s:Shared}{l b:Addr}{xs ys zs:List V}
theorem Inv.xw {its its':List Value}{n:Nat}{f:Array Value->Array Value}{t':Nat}(I:Inv X pins σ H s) (hH:H l=some (.lst xs))
 (e:s.heap.get? l=some { cls:=.type "list",data:=.seq its.toArray n }) (hf:f its.toArray=its'.toArray) (hv:Vals ys its') (hz:ys.length<=sizeLine) :
 Inv X pins σ (upd H l (.lst ys)) { s with heap:=s.heap.update l (Obj.mapSeq f),toks:=t' }:=by
 have q:=PySem.IsL.update e f
 rw [hf] at q
 refine I.write (x:=l) (e:=l) (by rw [hH]; exact trivial) (.inl rfl) (λb' u hb hu=>(Heap.get?_update_other s.heap (Obj.mapSeq f) (Ne.symm hb)).trans hu) ⟨_,q⟩ ?_
 exact ⟨hz,its',_,hv,q⟩
theorem Inv.FQ {its:List Value}{t':Nat}(I:Inv X pins σ H s) (hv:Vals ys its) (hz:ys.length<=sizeLine) :
 Inv X pins σ (upd H s.heap.objs.size (.lst ys)) { s with heap:=s.heap.push { cls:=.type "list",data:=.seq its.toArray },toks:=t' } :=
 I.laid (λ_ _ q=>Heap.get?_push_of_some _ q) (Nat.le_refl _) ⟨hz,its,0,hv,Heap.get?_push_size _ rfl⟩
theorem Inv.fresh (I:Inv X pins σ H s):H s.heap.objs.size=none:=I.hok.fresh (Nat.le_refl _)
theorem Inv.oZ (I:Inv X pins σ H s) (hH:H l=some (.lst xs)):xs.length<=sizeLine/\∃(its:List Value) (n:Nat),Vals xs its/\xs.length=its.length/\s.heap.get? l=some { cls:=.type "list",data:=.seq its.toArray n }:=by
 obtain ⟨z,its,n,r,e⟩:=I.hok l _ hH
 exact ⟨z,its,n,r,r.length,e⟩
theorem rS {n:Nat}(h:n<=sizeLine):Builtin.List.listTooLong n=false:=by
 unfold Builtin.List.listTooLong
 exact decide_eq_false (by omega)
end
section
variable {X:Cx}
def Jz:V->List V->Hp->VK->Prop:=λx vs H Q=>∃l xs y,x=.ref l/\vs=[y]/\H l=some (.lst xs)/\xs.length<sizeLine/\Q .aQ (upd H l (.lst (xs++[y])))
theorem d4:tI X "list.append" Jz:=by
 intro pins s σ H x vs v us Q I rx rv h
 obtain ⟨l,xs,y,rfl,rfl,hH,hz,q⟩:=h
 cases rx
 obtain ⟨u,rfl,ru⟩:=rv.one
 obtain ⟨z,its,n,r,hl,e⟩:=I.oZ hH
 refine call_meets F.slot_list_append ⟨_,e,rfl⟩ F.entry_list_append (F.args_list_append_2 _ _) (PySem.list_append l its.toArray n u (by rw [List.size_toArray]; omega)) ⟨e,?_⟩
 refine ⟨.aQ,_,I.xw (its':=its++[u]) hH e (by simp) (r.append (.cons ru .nil)) ?_,rfl,q⟩
 rw [List.length_append,List.length_singleton]
 omega
def JA:V->List V->Hp->VK->Prop:=λx vs H Q=>∃l b xs zs,x=.ref l/\vs=[.ref b]/\H l=some (.lst xs)/\H b=some (.lst zs)/\xs.length+zs.length<=sizeLine/\Q .aQ (upd H l (.lst (xs++zs)))
theorem RT:tI X "list.extend" JA:=by
 intro pins s σ H x vs v us Q I rx rv h
 obtain ⟨l,b,xs,zs,rfl,rfl,hH,hB,hz,q⟩:=h
 cases rx
 obtain ⟨u,rfl,ru⟩:=rv.one
 cases ru
 obtain ⟨z,its,n,r,hl,e⟩:=I.oZ hH
 obtain ⟨z2,lW,n2,r2,cV,e2⟩:=I.oZ hB
 have hsz:its.toArray.size+lW.toArray.size<=sizeLine:=by rw [List.size_toArray,List.size_toArray]; omega
 have O3:¬ (!its.toArray.isEmpty && Builtin.List.listTooLong (its.toArray.size+lW.toArray.size))=true:=by
  rw [rS hsz,Bool.and_false]
  exact Bool.false_ne_true
 refine call_meets F.slot_list_extend ⟨_,e,rfl⟩ F.entry_list_extend (F.args_list_extend_2 _ _)
  (AutoSeq1.list_extend_list_list_0 l its.toArray n b lW.toArray n2 O3 (by rw [List.size_toArray]; omega) (by omega)) ⟨e,e2,?_⟩
 refine ⟨.aQ,_,I.xw (its':=its++lW) hH e (by simp) (r.append r2) ?_,rfl,q⟩
 rw [List.length_append]
 omega
def U3:V->List V->Hp->VK->Prop:=λx vs H Q=>∃l xs y,x=.ref l/\vs=[]/\H l=some (.lst xs)/\xs[xs.length-1]?=some y/\Q y (upd H l (.lst xs.dropLast))
theorem Zb:tI X "list.pop" U3:=by
 intro pins s σ H x vs v us Q I rx rv h
 obtain ⟨l,xs,y,rfl,rfl,hH,hy,q⟩:=h
 cases rx
 have gw:=rv.zero
 subst gw
 obtain ⟨z,its,n,r,hl,e⟩:=I.oZ hH
 obtain ⟨u,hu,ru⟩:=r.get hy
 have K9:its.toArray[its.toArray.size-1]?=some u:=by
  show its.toArray[its.length-1]?=some u
  rw [← Array.getElem?_toList,← hl]
  exact hu
 refine call_meets F.slot_list_pop ⟨_,e,rfl⟩ F.entry_list_pop (F.args_list_pop_1 _) (MeetsSeq.list_pop_last l its.toArray n u K9 (by rw [List.size_toArray]; omega)) ⟨e,?_⟩
 refine ⟨y,_,I.xw (its':=its.dropLast) hH e ?_ r.dropLast ?_,ru,q⟩
 . show its.toArray.eraseIdxIfInBounds (its.toArray.size-1)=its.dropLast.toArray
   rw [List.size_toArray,List.eraseIdxIfInBounds_toArray,BP]
 . rw [List.length_dropLast]
   omega
def FR:V->List V->Hp->VK->Prop:=λx vs H Q=>∃l xs,x=.ref l/\vs=[]/\H l=some (.lst xs)/\Q .aQ (upd H l (.lst xs.reverse))
theorem BQ:tI X "list.reverse" FR:=by
 intro pins s σ H x vs v us Q I rx rv h
 obtain ⟨l,xs,rfl,rfl,hH,q⟩:=h
 cases rx
 have gw:=rv.zero
 subst gw
 obtain ⟨z,its,n,r,hl,e⟩:=I.oZ hH
 refine call_meets F.slot_list_reverse ⟨_,e,rfl⟩ F.entry_list_reverse (F.args_list_reverse_1 _) (AutoSeq1.list_reverse_list_0 l its.toArray n (by rw [List.size_toArray]; omega)) ⟨e,?_⟩
 refine ⟨.aQ,_,I.xw (its':=its.reverse) hH e (by simp) r.reverse ?_,rfl,q⟩
 rw [List.length_reverse]
 omega
def U4:R2:=λx y H Q=>∃l b xs zs,x=.ref l/\y=.ref b/\H l=some (.lst xs)/\H b=some (.lst zs)/\xs.length+zs.length<=sizeLine/\∀p,H p=none->Q (.ref p) (upd H p (.lst (xs++zs)))
theorem fQ:fk X (binaryOp .Add) U4:=by
 intro pins s σ H x y v u Q I rx ry h
 obtain ⟨l,b,xs,zs,rfl,rfl,hH,hB,hz,q⟩:=h
 cases rx
 cases ry
 obtain ⟨z,its,n,r,hl,e⟩:=I.oZ hH
 obtain ⟨z2,lW,n2,r2,cV,e2⟩:=I.oZ hB
 refine PySem.P.add_list e e2 ?_ (by rw [List.size_toArray,List.size_toArray]; omega)
 have ea:its.toArray++lW.toArray=(its++lW).toArray:=by simp
 rw [ea]
 exact ⟨.ref _,_,I.FQ (t':=s.toks) (r.append r2) (by rw [List.length_append]; omega),rfl,q _ I.fresh⟩
end
section
variable {prog:Program}{w:World}{A:Around}{E:Value->Shared->Prop}{s:Shared}
theorem BR {a c n:Nat}(RU:a<=c) (hc:c<=n):sliceBounds (some (a:Int)) (some (c:Int)) none n=((a:Int),(c:Int),1):=by
 simp only [sliceBounds,Option.getD_none]
 have h1:¬ ((a:Int)<0):=by omega
 have h2:¬ ((c:Int)<0):=by omega
 simp only [h1,h2,if_false,show (1:Int)>0 by decide,if_true]
 congr 1
 . omega
 . congr 1; omega
set_option maxRecDepth 100000 in
theorem Kk {l b sl:Addr}{items new:Array Value}{n n2:Nat}{vl vu:Value}{a c:Nat}{Q:Unit->Shared->Prop}
 (e:s.heap.get? l=some { cls:=.type "list",data:=.seq items n }) (e2:s.heap.get? b=some { cls:=.type "list",data:=.seq new n2 }) (cJ:l≠b)
 (hs:s.heap.IsSliceOf sl vl vu .none) (pl:IsPart vl (some (a:Int))) (pu:IsPart vu (some (c:Int))) (RU:a<=c) (hc:c<=items.size)
 (hsz:items.size+new.size<=sizeLine) (h:Q () { s with heap:=s.heap.update l (Obj.mapSeq λxs=>xs.extract 0 a++new++xs.extract c xs.size) }) :
 wpAny (model prog w) A (setItem (.ref l) (.ref sl) (.ref b)) Q E s:=by
 have hl:s.heap.IsList l items:=PySem.IsL.isList e
 have hb:s.heap.IsList b new:=PySem.IsL.isList e2
 obtain ⟨os,HC,Zc,La⟩:=id hs
 have RV:s.TypeIs (.ref sl) "slice":=⟨os,HC,Zc⟩
 have O4:¬ ((rawPart none == rawInt 0)=true):=Bool.false_ne_true
 have BS:Builtin.List.listSameRef (.ref l) (.ref b)=false:=by
  unfold Builtin.List.listSameRef
  exact beq_eq_false_iff_ne.mpr cJ
 have U5:(max (a:Int) (c:Int)).toNat=c:=by omega
 have DA:((λxs:Array Value=>xs.extract 0 a++new++xs.extract c xs.size) items).size<=sizeLine+1:=by
  simp only [Array.size_append,Array.size_extract]
  omega
 unfold setItem
 try with_reducible refine wpAny_holding ?_
 first | refine wpAny_bind (wpAny_pure ?_) | skip
 refine wpAny_bind (wpAny_sequenceKey hl.typeIs (by decide) ?_)
 refine wpAny_bind (wpAny_callSpecial?_slot (name:=Str.ofString "__setitem__") hl.typeIs slot_list_setitem
  (wpAny_call_entry slot_list_setitem hl.typeIs entry_list_setitem ?_ (args_list_setitem _ _ _)))
 show wpAny _ _ (Builtin.List.listSubscript? (.ref sl) >>= _) _ _ s
 refine wpAny_bind ?_
 unfold Builtin.List.listSubscript?
 refine wpAny_bind (wpAny_specialOf RV slice_no_index ?_)
 simp only [Option.isNone_none,if_true]
 refine wpAny_pure ?_
 show wpAny _ _ (typeOf (.ref sl) >>= _) _ _ s
 refine wpAny_bind (wpAny_typeOf RV ?_)
 first
  | rw [if_neg (by decide)]
  | refine W.KFB.if_not (by decide) ?_
 rw [listSliceParts_eq]
 refine wpAny_bind (wpAny_bind (wpAny_field HC La (x:=.none) rfl (wpAny_bind (wpAny_listPart .none ?_))))
 rw [if_neg O4]
 refine wpAny_bind (wpAny_field HC La (x:=vl) rfl (wpAny_bind (wpAny_listPart pl ?_)))
 refine wpAny_bind (wpAny_field HC La (x:=vu) rfl (wpAny_bind (wpAny_listPart pu (wpAny_pure ?_))))
 first
  | simp only [BS,Bool.false_eq_true,if_false]
  | refine W.KFB.if_not BS ?_
  | (dsimp only
     rw [if_neg (by rw [BS]; exact Bool.false_ne_true)])
 refine wpAny_bind (m:=Builtin.List.listAllItems (.ref b) "must assign iterable to extended slice") ?_
 unfold Builtin.List.listAllItems
 refine wpAny_bind (wpAny_typeOf hb.typeIs ?_)
 first
  | refine W.KFB.if_so (by decide) ?_
  | rw [if_pos (by decide)]
  | simp only [beq_self_eq_true,Bool.true_or,if_true]
 unfold Builtin.List.listItems
 refine wpAny_bind (wpAny_seqItems e2 rfl (wpAny_pure ?_))
 refine wpAny_bind (wpAny_bind (wpAny_seqItems e rfl (wpAny_pure ?_)))
 refine wpAny_bind (wpAny_of_eq ((sliceIndices_raw (some (a:Int)) (some (c:Int)) none items.size (by simp)).trans (congrArg (pure:Int×Int×Int->Sem (Int×Int×Int)) (BR RU hc))) ?_)
 show wpAny _ _ (if ((1:Int) == 1)=true then _ else _) _ _ s
 rw [if_pos (by decide)]
 refine wpAny_bind (wpAny_rule ?_)
 first
  | simp only [rS hsz,Bool.false_eq_true,if_false]
  | refine W.KFB.if_not (rS hsz) ?_
 first | refine wpAny_bind (wpAny_pure ?_) | skip
 show wpAny _ _ (updateSeq l (λxs=>xs.extract 0 ((a:Int)).toNat++new++xs.extract (max (a:Int) (c:Int)).toNat xs.size) >>= _) _ _ s
 rw [U5,Int.toNat_natCast]
 refine wpAny_bind (wpAny_updateSeq (hz:=Nat.le_trans (Nat.le_add_right _ _) hsz) (_hz':=DA) e rfl ?_)
 refine wpAny_bind (wpAny_letGo ?_)
 first
  | exact wpAny_bind (wpAny_pure (wpAny_pure ⟨.none,rfl,wpAny_pure h⟩))
  | exact wpAny_pure ⟨.none,rfl,wpAny_pure h⟩
end
section
variable {X:Cx}
end
end L2
namespace RW
open PySem PySem.W PySem.Calls PyProof.Rows
theorem tJ {P:Params}{h:Heap} : ∀(ns:List Int) (vs:List Value),WellAll P h vs (ns.map WData.int)->IntsAre vs ns:=by
 intro ns
 induction ns with
 | nil=>
  intro vs w
  rw [List.map_nil] at w
  cases w
  exact .nil
 | cons n ns ih=>
  intro vs w
  rw [List.map_cons] at w
  cases w with
  | cons a b=>
   cases a
   exact .cons _ _ (ih _ b)
theorem DB {l:OpenLaw}{n:Nat}(hn:l.most=some n){P:Params}{h:Heap}{args:List WData}{vals:List Value}
 (BU:l.row.toRowW.claim.pre args=true) (xx:WellAll P h vals args) :
 ∃a vs ns,vals=[Value.ref a]/\args=[WData.list (ns.map WData.int)]/\h.get? a=some { cls:=.type "list",data:=.seq vs.toArray } /\ IntsAre vs ns/\ns.length<=n:=by
 have Zd:WShape.hasAll [] args [.list .int]=true:=(pre_splitW BU).1
 have hc:l.pre.holds [] { args:=args } = true:=(pre_splitW BU).2
 obtain ⟨d,r,rfl,h1,h2⟩:=hasAllW_cons Zd
 obtain rfl:=hasAllW_nil h2
 obtain ⟨xs,rfl,h3⟩:=hasW_list h1
 obtain ⟨ns,rfl⟩:=items_int h3
 have hlen:ns.length<=n:=by
  unfold OpenLaw.pre at hc
  have h4:(WTm.not (.lt (.lit (.int (n:Int))) (.len (.arg 0)))).holds [] { args:=[.list (ns.map .int)] } = true:=by
   have h4:=(holds_andW hc).1
   rw [hn] at h4
   exact h4
  have h5:=condW_of h4 (w_not (w_lt w_lit (w_len_list (w_arg rfl))))
  rw [List.length_map] at h5
  refine Nat.le_of_not_lt λq=>?_
  have q':(n:Int)<((ns.length:Nat):Int):=by omega
  first
   | (rw [decide_eq_true q'] at h5; exact absurd h5 (by decide))
   | (simp at h5; omega)
 cases xx with
 | cons w1 w2=>
  cases w2
  cases w1 with
  | list ho iz=>exact ⟨_,_,ns,rfl,rfl,ho,tJ ns _ iz,hlen⟩
theorem DC (l:OpenLaw) (args:List WData):l.row.toRowW.claim.post args (.bool true) args=true:=
 postW_of (r:=l.row.toRowW) (X:=(true == true))
  (show WShape.has [] (.bool true) .bool=true by first | rfl | decide | simp [WShape.has,WShape.arms,WShape.armsAll])
  (show (WTm.eq .res (.lit (.bool true))).value [] { args:=args,res:=some (.bool true),after:=args } = some (.bool (true == true)) from w_eq_bool (w_res rfl) w_lit) rfl
theorem zM {l:OpenLaw}{n:Nat}{q:Program}{loose:List Str}{XP:(Str->Option Value)->Heap->Prop}{YP:World->Heap->Prop}{d:DefRec}
 (hn:l.most=some n) (DD:d.params.defaults=[])
 (call:∀(w:World) (jR cW:Shared) (mg mb:Str->Option Value) (fa:Addr) (o:Obj) (pm cd doc:Value) (a:Addr) (vs:List Value) (ns:List Int),
  Ground q loose [] XP w jR mg mb cW.heap->YP w cW.heap->
  cW.heap.get? fa=some o->o.data=.func (docDef d.name d.params d.body d.scope pm cd doc)->cW.heap.CodeRec cd d.name->mg d.name=some (.ref fa)->
  cW.heap.get? a=some { cls:=.type "list",data:=.seq vs.toArray } -> IntsAre vs ns->ns.length<=n->cW.gens = #[]->
  codeAny (model l.prog w) callerA (.call (.ref fa) ⟨[.ref a],[]⟩) (λr s'=>r=.ok (.ret (.bool true))/\OldK cW.heap s'.heap/\s'.os=cW.os/\AllBare s'.gens) cW) :
 WalkO q loose XP YP l.row.toRowW d [] (λf vs=>PySem.call f vs):=by
 intro w jR cW mg mb G Y fa o pm cd doc dV kV ho hd oN hD DE hg args vals as BU adP hrd xx Lb
 obtain rfl:dV=.none:=Dflts.none hD DD
 obtain rfl:kV=.none:=Dflts.noKw hD
 obtain ⟨a,vs,ns,rfl,rfl,FT,hints,hlen⟩:=DB hn BU xx
 refine enter_call (codeAny_mono (call w jR cW mg mb fa o pm cd doc a vs ns G Y ho (fd_plain hd) oN DE FT hints hlen hg) λr s' hq=>?_)
 obtain ⟨rfl,h2,h3,h4⟩:=hq
 exact ⟨.inl ⟨.bool true,.bool true,[],rfl,λ_=>rfl,.bool true,DC l _,λ_=>⟨List.Pairwise.nil,λ_ hm=>(nomatch hm)⟩⟩,h2,h3,h4⟩
section
variable {prog:Program}{w:World}{A:Around}{E:Value->Shared->Prop}{s:Shared}{K:Frag}
end
end RW
namespace L2
open PySem PySem.Spec PyProof.Rows
theorem vA:∀{vs:List Value}{ns:List Int},IntsAre vs ns->Vals (ns.map V.int) vs
 | _,_,.nil=>.nil
 | _,_,.cons n t h=>.cons ⟨t,rfl⟩ (vA h)
def FU (H:Hp):Prop:=∀b,H b=none\/∃o xs,H b=some (.lH o (.lst xs))
theorem FV {P:Program}{w:World}{K:W.Frag}{mg mb:Str->Option Value}{CX:oU}{k:Nat}{fa a:Addr}{fd:FuncData}{x:Str}{sp:Sp}{cW:Shared}{vs:List Value}{ns:List Int}
 (KX:K.In cW.heap) (RX:cW.heap.Ns mainGlobals mg) (hb:cW.heap.Ns builtinsNs mb) (Ze:∀x:Str,x ≠ "__name__" -> mb x=bootBuiltins x) (U6:cW.heap.NoLimit) (hg:cW.gens = #[])
 (ha:cW.heap.get? a=some { cls:=.type "list",data:=.seq vs.toArray }) (hi:IntsAre vs ns) (hl:ns.length<=sizeLine) (hr:bb k callerA)
 (F:∀base:Heap,K.In base->base.Ns mainGlobals mg->ax P w K mg base CX k fa fd [x] sp) (O5:∀(s:Shared) (u:Value),BindsTo s fd ⟨[u],[]⟩ [(x,u)])
 (ou:∀H:Hp,FU H->av K H a (ns.map V.int)->sp [.ref a] H (λv _=>v=.bl true) λ_ _ _=>False)
 (Lc:∀H e s',CX [] H cW (λ_ _ _=>False) e s'->False) :
 codeAny (model P w) callerA (.call (.ref fa) ⟨[.ref a],[]⟩) (λr s'=>r=.ok (.ret (.bool true))/\OldK cW.heap s'.heap/\s'.os=cW.os/\AllBare s'.gens) cW:=by
 have rv:=vA hi
 have U7:=hi.length
 have core:∀H:Hp,FU H->av K H a (ns.map V.int)->d9 P w H cW.heap->(∀b,H b≠none->b=a)->(H a≠none->K.lookup a=none)->
  codeAny (model P w) callerA (.call (.ref fa) ⟨[.ref a],[]⟩) (λr s'=>r=.ok (.ret (.bool true))/\OldK cW.heap s'.heap/\s'.os=cW.os/\AllBare s'.gens) cW:=by
  intro H hO hS hok hA hK
  have Ag:∀{b:Addr}{o:Obj},cW.heap.get? b=some o->H b=none->(nA cW.heap H).get? b=some o:=λe n=>Fs e n
  have Ds:∀{b:Addr}{o:Obj}{es:Array DictEntry}{ep:Nat},cW.heap.get? b=some o->o.data=.dict es ep->H b=none:=λ{b o es ep} e d=>by
   cases q:H b with
   | none=>rfl
   | some u=>
    have e':b=a:=hA b (by rw [q]; simp)
    subst e'
    rw [ha] at e; cases e
    have d':Data.seq vs.toArray _=Data.dict es ep:=d
    cases d'
  have HD:∀{b:Addr}{m:Str->Option Value},cW.heap.Ns b m->(nA cW.heap H).Ns b m:=λ{b m} ⟨o,es,ep,e,d,r⟩=>⟨o,es,ep,Ag e (Ds e d),d,r⟩
  have RY:K.In (nA cW.heap H):=λb o e=>Ag (KX b o e) (by
   cases q:H b with
   | none=>rfl
   | some u=>
    have e':b=a:=hA b (by rw [q]; simp)
    subst e'
    rw [hK (by rw [q]; simp)] at e; cases e)
  have hM:Mod K mg (nA cW.heap H):=⟨RY,HD RX,⟨mb,HD hb,Ze⟩,let ⟨mc,h1,h2⟩:=U6; ⟨mc,HD h1,h2⟩⟩
  have e0:lV P w K mg (nA cW.heap H) callerA [] cW H:=⟨rfl,hM,λb o e=>Jm e,Nat.le_of_eq (C5 _ _),trivial,λb hb=>absurd (show b∈([]:List Addr) from hb) (by simp),hok,.of_eq hg⟩
  refine codeAny_mono ((F _ RY (HD RX)).run callerA [] cW H ⟨[.ref a],[]⟩ [.ref a] [.ref a] _ _ hr e0 (O5 cW (.ref a)) (.cons rfl .nil) (ou H hO hS)) λr s' h=>?_
  cases r with
  | error e=>exact (Lc H e s' h).elim
  | ok fl=>
   cases fl with
   | next=>exact False.elim h
   | brk=>exact False.elim h
   | cont=>exact False.elim h
   | ret u=>
    obtain ⟨v,H',os,bare,un,U8,r',q⟩:=h
    have q':v=.bl true:=q
    subst q'
    obtain rfl:u=Value.bool true:=r'
    refine ⟨rfl,OldK.of_keep λb o e=>?_,os,bare⟩
    cases q:H b with
    | none=>exact un.keep b o e q (by intro z; exact absurd (show b∈([]:List Addr) from z) (by simp)) (by simp)
    | some u=>
     rcases hO b with z | ⟨ob,xs,z⟩
     . rw [q] at z; cases z
     . have z2:=un.frzs b ob _ z
       obtain ⟨e1,_⟩:=hok b _ z
       obtain ⟨e2,_⟩:=U8 b _ z2
       rw [e] at e1; cases e1
       exact e2
 cases hk:K.lookup a with
 | some o=>
  have e:=KX a o hk
  rw [ha] at e
  cases e
  refine core (λ_=>none) (λ_=>.inl rfl) (.inr ⟨_,vs.toArray,_,hk,rfl,rfl,rfl,by rw [List.size_toArray,U7]; exact hl,by simpa using rv⟩) (λb u z=>by have z':(none:Option HO)=some u:=z; cases z') (λb z=>absurd rfl z) λz=>absurd rfl z
 | none=>
  refine core (λb=>if b=a then some (.lH { cls:=.type "list",data:=.seq vs.toArray } (.lst (ns.map V.int))) else none) (λb=>?_) (.inl (.inr ⟨{ cls:=.type "list",data:=.seq vs.toArray },if_pos rfl⟩)) (λb u z=>?_) (λb z=>?_) λ_=>hk
  . by_cases hb:b=a
    . exact .inr ⟨_,_,if_pos hb⟩
    . exact .inl (if_neg hb)
  . by_cases hb:b=a
    . have z':=(if_pos hb).symm.trans z
      cases z'
      subst hb
      exact ⟨ha,by rw [List.length_map]; exact hl,vs,_,rv,ha⟩
    . have z':=(if_neg hb).symm.trans z
      cases z'
  . by_cases hb:b=a
    . exact hb
    . exact absurd (if_neg hb) z
end L2
namespace L2
open PySem PySem.Spec PyProof.Rows
theorem JB {l:W.OpenLaw}{n k:Nat}{q:Program}{loose:List Str}{XP:(Str->Option Value)->Heap->Prop}{YP:World->Heap->Prop}{d:DefRec}{K:Params->W.Frag}{CX:World->oU}{sp:World->Sp}{x:Str}
 (hn:l.most=some n) (hV:n<=sizeLine) (DD:d.params.defaults=[]) (hr:bb k callerA)
 (hY:∀(w:World) (h:Heap),YP w h->(K w.params).In h)
 (F:∀(w:World) (mg:Str->Option Value) (fa:Addr) (h:Heap),(K w.params).In h->h.Ns mainGlobals mg->mg d.name=some (.ref fa)->
  ∃fd:FuncData,(∀(s:Shared) (u:Value),BindsTo s fd ⟨[u],[]⟩ [(x,u)])/\
   ∀base:Heap,(K w.params).In base->base.Ns mainGlobals mg->ax l.prog w (K w.params) mg base (CX w) k fa fd [x] (sp w))
 (ou:∀(w:World) (H:Hp) (a:Addr) (ns:List Int),ns.length<=n->FU H->av (K w.params) H a (ns.map V.int)->sp w [.ref a] H (λv _=>v=.bl true) λ_ _ _=>False)
 (Lc:∀(w:World) (H:Hp) (s:Shared) (e:Value) (s':Shared),CX w [] H s (λ_ _ _=>False) e s'->False) :
 W.WalkO q loose XP YP l.row.toRowW d [] (λf vs=>PySem.call f vs):=by
 refine RW.zM hn DD λw jR cW mg mb fa o pm cd doc a vs ns G Y ho hd oN DE FT hints hlen hg=>?_
 have KX:=hY w _ Y
 obtain ⟨fd,hb,hF⟩:=F w mg fa _ KX G.T.g DE
 exact FV KX G.T.g G.T.b G.T.builtins G.T.nolimit hg FT hints (Nat.le_trans hlen hV) hr hF hb (λH hO hS=>ou w H a ns hlen hO hS) λH e s'=>Lc w H cW e s'
end L2
namespace L2
open PySem PySem.Spec PyProof.Rows
def inClass (s:Stmt) (j:Nat):Stmt:=match s with
 | .ClassDef _ _ _ body _ _ _ _ _ _ _=>body.getD j (.Pass ⟨0,0,0,0⟩)
 | _=>.Pass ⟨0,0,0,0⟩
def aT (s:Stmt):Arguments:=match s with
 | .FunctionDef _ a _ _ _ _ _ _ _ _=>a
 | _=>{ posonlyargs:=[],args:=[],vararg:=none,kwonlyargs:=[],kw_defaults:=[],kwarg:=none,defaults:=[] }
def aI (s:Stmt):List Stmt:=match s with
 | .FunctionDef _ _ b _ _ _ _ _ _ _=>b
 | _=>[]
def ar (s:Stmt):Scope:=match s with
 | .FunctionDef _ _ _ _ _ _ sc _ _ _=>sc
 | _=>{ kind:=.function,names:=[],isGenerator:=false,isCoroutine:=false }
abbrev aD:oU:=λ_ _ _ _ _ _=>False
abbrev E0:XK:=λ_ _ _=>False
theorem aA {X:Cx} : Passes aD X E0:=λ_ _ _ _ _ _ _ h=>h.elim
structure cq (K:W.Frag) (x qual:Str) (st:Stmt) (f:Addr) (fd:FuncData):Prop where
 ex:∃(oc:Value) (od:Option Addr) (kV doc pm:Value) (an:Option Addr) (cdv ct:Value) (vy:Array (Option Value)),
  fd=W.fnOf x qual (aT st) (aI st) (ar st) .none kV doc pm an cdv ct/\K.lookup f=some ⟨oc,od,.func fd,vy⟩/\W.codeIn K cdv qual=true
 kp:W.keepIn K (.ref f)=true
section
variable {P:Program}{w:World}{K:W.Frag}{mg:Str->Option Value}{base:Heap}
theorem cq.ok {x qual:Str}{st:Stmt}{f:Addr}{fd:FuncData}{N ps:List Str}{k:Nat}{sp:Sp}(F:cq K x qual st f fd) (S:aY N ps (ar st)) (len:∀vs H Q E,sp vs H Q E->vs.length=ps.length)
 (BK:∀(cdv:Value) (A:Around) (outer:List Env) (s:Shared) (H:Hp) (vs:List V) (Q:VK) (E:XK),bb k (A.deeper (envOfC qual (ar st) s.heap.objs.size f cdv))->sp vs H Q E->
  ∃t,iP (nE aD P w K mg base N qual (ar st) f cdv A outer s H E).xf (aI st) t/\t { nx:=λ_ H'=>Q .aQ H',rt:=Q } (start N vs) H):ax P w K mg base aD (k+1) f fd ps sp:=by
 obtain ⟨oc,od,kV,doc,pm,an,cdv,ct,vy,rfl,lk,oN⟩:=F.ex
 refine OT lk oN S len λA outer s H vs Q E hr ou=>?_
 obtain ⟨t,h,q⟩:=BK cdv A outer s H vs Q E hr ou
 exact ⟨t,h.xf,q⟩
theorem cq.binds {x qual:Str}{st:Stmt}{f:Addr}{fd:FuncData}{ps:List Str}(F:cq K x qual st f fd)
 (h:∀(kV doc pm:Value) (an:Option Addr) (cdv ct:Value) (us:List Value),us.length=ps.length->bindArgs (W.fnOf x qual (aT st) (aI st) (ar st) .none kV doc pm an cdv ct) ⟨us,[]⟩=pure (ps.zip us)):Binds K fd ps []:=by
 obtain ⟨oc,od,kV,doc,pm,an,cdv,ct,vy,rfl,lk,oN⟩:=F.ex
 exact .all (h kV doc pm an cdv ct)
theorem bp {x qual:Str}{st:Stmt}{f:Addr}{oc:Value}{od an:Option Addr}{vy:Array (Option Value)}{kV doc pm cdv ct:Value}(l:K.lookup f=some ⟨oc,od,.func (W.fnOf x qual (aT st) (aI st) (ar st) .none kV doc pm an cdv ct),vy⟩)
 (c:W.codeIn K cdv qual=true) (k:W.keepIn K (.ref f)=true):cq K x qual st f (W.fnOf x qual (aT st) (aI st) (ar st) .none kV doc pm an cdv ct):=⟨⟨oc,od,kV,doc,pm,an,cdv,ct,vy,rfl,l,c⟩,k⟩
end
theorem fu {A:Around}{k:Nat}(hr:bb k A):A.units+1<cLine:=Nat.lt_of_le_of_lt (Nat.add_le_add_left (by decide:1<=64) _) hr.units
theorem vB {n:Nat}(h:n<=1000):n<sizeLine:=Nat.lt_of_le_of_lt h (by decide)
section
variable {X:Cx}
theorem pv (i:Nat){x:Str}{pos:Pos}(hN:X.N[i]?=some x:=by rfl) (hv:Kt X.env.scope x:=by first | exact Or.inl rfl | exact Or.inr (Or.inl rfl) | exact Or.inr (Or.inr rfl)) (hd:(x == ("__debug__" : Str))=false:=by decide)
 (oN:(x == ("__classdict__" : Str))=false:=by decide):PE X (.Name x pos) (kE i):=Kx hN hv hd oN
end
theorem iX {A B:Prop}(h:B):if false=true then A else B:=by
 rw [if_neg Bool.false_ne_true]
 exact h
theorem kX {A B:Prop}(h:A):if true=true then A else B:=by
 rw [if_pos rfl]
 exact h
theorem jS {c A B:Prop}[Decidable c] (h1:c->A) (h2:¬ c->B):if c then A else B:=by
 by_cases h:c
 . rw [if_pos h]
   exact h1 h
 . rw [if_neg h]
   exact h2 h
def ak (H H':Hp):Prop:=∀b o,H b=some o->H' b=some o
theorem ak.trans {H H1 H2:Hp}(a:ak H H1) (b:ak H1 H2):ak H H2:=λc o h=>b c o (a c o h)
theorem ak.free {H H':Hp}(e:ak H H'){l:Addr}(h:H' l=Option.none):H l=Option.none:=by
 cases q:H l with
 | none=>rfl
 | some o=>
  rw [e l o q] at h
  cases h
theorem ak.seq {K:W.Frag}{H H':Hp}{a:Addr}{xs:List V}(e:ak H H') (h:av K H a xs):av K H' a xs:=by
 rcases h with (h | ⟨o,h⟩) | h
 . exact .inl (.inl (e _ _ h))
 . exact .inl (.inr ⟨o,e _ _ h⟩)
 . exact .inr h
end L2
namespace L2
open PySem PySem.Spec PyProof.Rows
section
variable {X:Cx}
end
end L2
set_option maxHeartbeats 4000000
namespace L2
open PySem PySem.Spec PyProof.Rows
theorem nI {env:Env}(f:Str×NameKind->List (Str×Addr)->Sem (ForInStep (List (Str×Addr))))
 (hf:∀n k cs,f (n,k) cs=if (k == NameKind.free)=true then (cellOf env n >>= λa=>pure (ForInStep.yield ((n,a)::cs))) else pure (ForInStep.yield cs)) :
 ∀(names:List (Str×NameKind)) (acc:List (Str×Addr)),(∀x∈names,x.2=NameKind.free->∃c,env.cells.lookup x.1=some c)->(∀x c,acc.lookup x=some c->env.cells.lookup x=some c)->
  ∃cl,forIn names acc f=(pure cl:Sem (List (Str×Addr)))/\(∀x c,cl.lookup x=some c->env.cells.lookup x=some c)/\(∀x c,acc.lookup x=some c->∃c',cl.lookup x=some c')/\∀x∈names,x.2=NameKind.free->∃c,cl.lookup x.1=some c
 | [],acc,_,ha=>⟨acc,by simp,ha,λx c e=>⟨c,e⟩,λx hx=>by simp at hx⟩
 | (n,k)::r,acc,hn,ha=>by
  have wY:∀x∈r,x.2=NameKind.free->∃c,env.cells.lookup x.1=some c:=λx hx=>hn x (List.mem_cons_of_mem _ hx)
  cases hk:k == NameKind.free with
  | false=>
   obtain ⟨cl,e,h1,h2,h3⟩:=nI f hf r acc wY ha
   refine ⟨cl,?_,h1,h2,λx hx hz=>?_⟩
   . rw [List.forIn_cons,hf,hk,if_neg Bool.false_ne_true,pure_bind]
     exact e
   . rcases List.mem_cons.mp hx with z | hx
     . subst z
       have DA:k=NameKind.free:=hz
       rw [DA] at hk
       exact absurd hk (by decide)
     . exact h3 x hx hz
  | true=>
   have qU:k=NameKind.free:=by cases k <;> first | rfl | exact absurd hk (by decide)
   obtain ⟨c,hc⟩:=hn (n,k) List.mem_cons_self qU
   have fi:env.cells.lookup n=some c:=hc
   obtain ⟨cl,e,h1,h2,h3⟩:=nI f hf r ((n,c)::acc) wY (λx d ed=>by
    rw [List.lookup_cons] at ed
    cases hx:x == n with
    | true=>
     rw [hx] at ed
     rw [eq_of_beq hx,fi]
     exact ed
    | false=>
     rw [hx] at ed
     exact ha x d ed)
   have ox:∃c',cl.lookup n=some c':=h2 n c (by rw [List.lookup_cons,beq_self_eq_true])
   refine ⟨cl,?_,h1,λx d ed=>?_,λx hx hz=>?_⟩
   . rw [List.forIn_cons,hf,hk,if_pos rfl]
     unfold cellOf
     rw [fi]
     rw [pure_bind,pure_bind]
     exact e
   . cases hx:x == n with
     | true=>
      rw [eq_of_beq hx]
      exact ox
     | false=>
      refine h2 x d ?_
      rw [List.lookup_cons,hx]
      exact ed
   . rcases List.mem_cons.mp hx with z | hx
     . subst z
       exact ox
     . exact h3 x hx hz
theorem uQ {scope:Scope}{env:Env}(h:∀x∈scope.names,x.2=NameKind.free->∃c,env.cells.lookup x.1=some c) :
 ∃cl,closureFor scope env=pure cl/\(∀x c,cl.lookup x=some c->env.cells.lookup x=some c)/\∀x∈scope.names,x.2=NameKind.free->∃c,cl.lookup x.1=some c:=by
 obtain ⟨cl,e,h1,_,h3⟩:=nI (env:=env) (λp cs=>if (p.2 == NameKind.free)=true then (cellOf env p.1 >>= λa=>pure (ForInStep.yield ((p.1,a)::cs))) else pure (ForInStep.yield cs)) (λn k cs=>rfl) scope.names [] h (λx c z=>by simp at z)
 refine ⟨cl,?_,h1,h3⟩
 have key:closureFor scope env=(forIn scope.names ([]:List (Str×Addr)) (λ(p:Str×NameKind) cs=>if (p.2 == NameKind.free)=true then (cellOf env p.1 >>= λa=>pure (ForInStep.yield ((p.1,a)::cs))) else pure (ForInStep.yield cs)) >>= λcs=>pure cs):=rfl
 rw [key,e,pure_bind]
theorem lookup_mem {names:List (Str×NameKind)}{x:Str}{k:NameKind}(h:names.lookup x=some k):(x,k)∈names:=by
 induction names with
 | nil=>simp at h
 | cons p r ih=>
  obtain ⟨n,j⟩:=p
  rw [List.lookup_cons] at h
  cases hx:x == n with
  | true=>
   rw [hx] at h
   have e:j=k:=Option.some.inj h
   rw [eq_of_beq hx,e]
   exact List.mem_cons_self
  | false=>
   rw [hx] at h
   exact List.mem_cons_of_mem _ (ih h)
def lX (env:Env) (p:Str×NameKind):Str×NameKind:=if (p.2 == NameKind.free && env.scope.kind == .function && env.kindOf p.1 == some .cell) then (p.1,.cell) else p
theorem oy (scope:Scope) (env:Env):(relabel scope env).names=scope.names.map (lX env):=rfl
theorem lY {env:Env} : ∀(names:List (Str×NameKind)) (x:Str),(names.map (lX env)).lookup x=(names.lookup x).map λk=>(lX env (x,k)).2
 | [],x=>rfl
 | (n,k)::r,x=>by
  rw [List.map_cons]
  have e1:(lX env (n,k)).1=n:=by unfold lX; split <;> rfl
  have:lX env (n,k)=(n,(lX env (n,k)).2):=Prod.ext e1 rfl
  rw [this,List.lookup_cons,List.lookup_cons]
  cases hx:x == n with
  | true=>
   rw [eq_of_beq hx]
   rfl
  | false=>exact lY r x
theorem FW {scope:Scope}{env:Env}{x:Str}(h:scope.names.lookup x=some .free):(relabel scope env).names.lookup x=some .cell\/(relabel scope env).names.lookup x=some .free:=by
 rw [oy,lY,h]
 unfold lX
 simp only [Option.map_some]
 split
 . exact .inl rfl
 . exact .inr rfl
theorem DF {scope:Scope}{env:Env}{x:Str}(hc:∀y∈scope.names,y.2≠.cell) (h:(relabel scope env).names.lookup x=some .cell\/(relabel scope env).names.lookup x=some .free):scope.names.lookup x=some .free:=by
 rw [oy,lY] at h
 cases e:scope.names.lookup x with
 | none=>rw [e] at h; rcases h with h | h <;> cases h
 | some k=>
  rw [e] at h
  have hm:=lookup_mem e
  have nk:k≠.cell:=hc _ hm
  simp only [Option.map_some,Option.some.injEq] at h
  by_cases hf:k=.free
  . rw [hf]
  . have hb:(k == NameKind.free)=false:=by cases k <;> first | rfl | exact absurd rfl hf
    have:(lX env (x,k)).2=k:=by
     unfold lX
     simp [hb]
    rw [this] at h
    rcases h with h | h
    . exact absurd h nk
    . exact absurd h hf
def cQ (X:Cx) (N:List Str) (scope:Scope) (cl:List (Str×Addr)) (C:Addr) (s:Shared) (H:Hp) (fp:List Addr) (pn:List (Addr×Obj)):Cx where
 prog:=X.prog
 w:=X.w
 K:=X.K
 mg:=X.mg
 base:=X.base
 A:=X.A
 N:=N
 jR:=s
 Ks:=H
 env:=compEnvC scope cl C X.env
 outer:=X.stack
 stack:=X.stack
 ex:=fp
 fn:=λ_=>false
 calm:=true
 pn:=pn
 xe:=λ_ _=>False
structure mx (X:Cx) (N:List Str) (js:List (Option Nat)) (scope:Scope):Prop where
 kind:scope.kind=.function
 nocell:∀y∈scope.names,y.2≠.cell
 names:∀y∈scope.names,y.2=.local->scope.names.lookup y.1=some .local
 frees:∀y∈scope.names,y.2=.free->X.env.kindOf y.1=some .cell\/X.env.kindOf y.1=some .free
 len:js.length=N.length
 pull:∀(i j:Nat) (x:Str),js[i]?=some (some j)->N[i]?=some x->X.N[j]?=some x/\scope.names.lookup x=some .free
def eJ (xn:List Str) (names:List (Str×NameKind)):List Str->List (Option Nat)->Bool
 | [],[]=>true
 | _::N,none::js=>eJ xn names N js
 | x::N,some j::js=>(match xn[j]? with | some y=>decide (y=x) | none=>false) && (match names.lookup x with | some .free=>true | _=>false) && eJ xn names N js
 | _,_=>false
theorem nJ {xn:List Str}{names:List (Str×NameKind)} : ∀{N:List Str}{js:List (Option Nat)},eJ xn names N js=true->js.length=N.length
 | [],[],_=>rfl
 | x::N,none::js,h=>by
  have:=nJ (N:=N) (js:=js) (by simpa [eJ] using h)
  simp [this]
 | x::N,some j::js,h=>by
  have h':eJ xn names N js=true:=by
   simp only [eJ,Bool.and_eq_true] at h
   exact h.2
  simp [nJ h']
 | [],_::_,h=>by simp [eJ] at h
 | _::_,[],h=>by simp [eJ] at h
theorem o7 {xn:List Str}{names:List (Str×NameKind)} : ∀{N:List Str}{js:List (Option Nat)},eJ xn names N js=true->∀(i j:Nat) (x:Str),js[i]?=some (some j)->N[i]?=some x->xn[j]?=some x/\names.lookup x=some .free
 | [],[],_,i,j,x,e,_=>by simp at e
 | y::N,none::js,h,i,j,x,e1,e2=>by
  cases i with
  | zero=>simp at e1
  | succ i=>
   exact o7 (N:=N) (js:=js) (by simpa [eJ] using h) i j x (by simpa using e1) (by simpa using e2)
 | y::N,some j'::js,h,i,j,x,e1,e2=>by
  simp only [eJ,Bool.and_eq_true] at h
  obtain ⟨⟨h1,h2⟩,h3⟩:=h
  cases i with
  | zero=>
   have ej:j'=j:=by simpa using e1
   have ey:y=x:=by simpa using e2
   subst ej ey
   constructor
   . cases q:xn[j']? with
     | none=>rw [q] at h1; cases h1
     | some z=>
      rw [q] at h1
      rw [of_decide_eq_true h1]
   . cases q:names.lookup y with
     | none=>rw [q] at h2; cases h2
     | some k=>
      rw [q] at h2
      cases k <;> first | rfl | cases h2
  | succ i=>exact o7 h3 i j x (by simpa using e1) (by simpa using e2)
 | [],_::_,h,_,_,_,_,_=>by simp [eJ] at h
 | _::_,[],h,_,_,_,_,_=>by simp [eJ] at h
def isFn:ScopeKind->Bool
 | .function=>true
 | _=>false
def tK (xn:List Str) (xs:List (Str×NameKind)) (N:List Str) (js:List (Option Nat)) (scope:Scope):Bool:=
 isFn scope.kind && (scope.names.all λy=>match y.2 with
  | .cell=>false
  | .local=>(match scope.names.lookup y.1 with | some .local=>true | _=>false)
  | .free=>(match xs.lookup y.1 with | some .cell=>true | some .free=>true | _=>false)
  | _=>true) && eJ xn scope.names N js
theorem mx.of {X:Cx}{N:List Str}{js:List (Option Nat)}{scope:Scope}(h:tK X.N X.env.scope.names N js scope=true):mx X N js scope:=by
 unfold tK at h
 simp only [Bool.and_eq_true,List.all_eq_true] at h
 obtain ⟨⟨h1,h2⟩,h3⟩:=h
 refine ⟨?_,λy hy e=>?_,λy hy e=>?_,λy hy e=>?_,nJ h3,o7 h3⟩
 . cases q:scope.kind <;> rw [q] at h1 <;> first | rfl | cases h1
 . have:=h2 y hy
   rw [e] at this
   cases this
 . have:=h2 y hy
   rw [e] at this
   cases q:scope.names.lookup y.1 with
   | none=>rw [q] at this; cases this
   | some k=>rw [q] at this; cases k <;> first | rfl | cases this
 . have:=h2 y hy
   rw [e] at this
   show X.env.scope.names.lookup y.1=some .cell\/X.env.scope.names.lookup y.1=some .free
   cases q:X.env.scope.names.lookup y.1 with
   | none=>rw [q] at this; cases this
   | some k=>rw [q] at this; cases k <;> first | exact .inl rfl | exact .inr rfl | cases this
def qm (js:List (Option Nat)) (σ:St):St:=js.map λoj=>match oj with | none=>none | some j=>(σ[j]?).getD none
section
variable {X:Cx}{pins:List (Addr×Obj)}{σ:St}{H:Hp}{s:Shared}
theorem Inv.enter {N:List Str}{js:List (Option Nat)}{scope:Scope}{cl:List (Str×Addr)}{C:Addr}{fp:List Addr}{h':Heap}{m:Str->Option Value}{tk:Nat}(I:Inv X pins σ H s) (S:mx X N js scope) (hc:X.calm=true)
 (gz:∀x c,cl.lookup x=some c->X.env.cells.lookup x=some c) (Ld:∀x∈scope.names,x.2=NameKind.free->∃c,cl.lookup x.1=some c) (hC:C=s.heap.objs.size)
 (hf:∀b∈fp,iS X pins H b) (hl:∀b∈fp,b<s.heap.objs.size) (hn:h'.Ns C m) (k:∀b o,s.heap.get? b=some o->h'.get? b=some o) :
 Inv (cQ X N scope cl C s H fp (X.pn++pins)) [] (qm js σ) H { s with heap:=h',toks:=tk }:=by
 have lt:∀b o,s.heap.get? b=some o->b≠C:=λb o e=>by
  rw [hC]
  exact Nat.ne_of_lt (Heap.lt_size e)
 have DG:∀x,scope.names.lookup x=some .free->∃c,cl.lookup x=some c:=λx e=>Ld _ (lookup_mem e) rfl
 have stk:∀b,b≠X.env.locals->b∉X.fs->b∉oq X.stack:=λb h1 h2 z=>(List.mem_cons.mp (I.sU b z)).elim h1 h2
 have ok:(cQ X N scope cl C s H fp (X.pn++pins)).Ok:=by
  refine ⟨I.ok.mod,S.kind,I.ok.glob,I.ok.blt,Nat.le_of_eq hC.symm,λx y c e1 e2=>I.ok.inj x y c (gz x c e1) (gz y c e2),λx hx=>DG x (DF S.nocell hx),λx c e _=>?_,λ_=>I.ok.hd hc,
   I.ok.frames,.inl rfl,λb hb=>⟨?_,λx c e=>(hf b hb).2.2.2.2.1 x c (gz x c e)⟩,I.bs,Nat.le_trans I.ok.bsz I.sz,λb o e hb=>?_,λb hb=>stk b (hf b hb).2.1 (hf b hb).2.2.1,I.stack,I.zT⟩
  . cases e
  . show b≠C
    rw [hC]
    exact Nat.ne_of_lt (hl b hb)
  . rcases (hf b hb).2.2.2.1 with z | z
    . exact I.ok.noex b o e z
    . exact absurd (Nat.lt_of_lt_of_le (Heap.lt_size e) (Nat.le_trans I.ok.bsz z)) (Nat.lt_irrefl _)
 refine ⟨ok,rfl,I.bare,Un.kept k,⟨m,hn,λi x v e1 e2 e3=>?_⟩,λx c e=>?_,?_,λx c e=>I.freeC x c (gz x c e),λp hp=>?_,I.hok.kept k,?_⟩
 . -- a name that the block closes over
   have xy:(qm js σ)[i]?=some (some v):=e2
   unfold qm at xy
   rw [List.getElem?_map] at xy
   cases q:js[i]? with
   | none=>rw [q] at xy; cases xy
   | some oj=>
    rw [q] at xy
    cases oj with
    | none=>cases xy
    | some j=>
     have ev:(σ[j]?).getD none=some v:=Option.some.inj xy
     have Zf:σ[j]?=some (some v):=by
      cases z:σ[j]? with
      | none=>rw [z] at ev; cases ev
      | some o=>rw [z] at ev; exact congrArg some ev
     obtain ⟨n1,n2⟩:=S.pull i j x q e1
     obtain ⟨c,fi⟩:=DG x n2
     have Zg:=gz x c fi
     obtain ⟨m0,_,qV⟩:=I.loc
     have kx:=S.frees (x,.free) (lookup_mem n2) rfl
     have RZ:X.env.kindOf x=some .cell\/X.env.kindOf x=some .free:=kx
     obtain ⟨u,ru,lk⟩:=qV j x v n1 Zf (RZ.elim (λz=>.inr (.inl z)) λz=>.inr (.inr z))
     refine ⟨u,ru,.inr ⟨FW n2,c,fi,?_⟩⟩
     rcases lk with ⟨kl,_⟩ | ⟨_,c2,e2,ic⟩
     . rcases RZ with z | z <;> (rw [kl] at z; cases z)
     . rw [Zg] at e2
       cases e2
       obtain ⟨o,ho,hd⟩:=ic
       exact ⟨o,k c o ho,hd⟩
 . obtain ⟨v,o,ho,hd⟩:=I.cell x c (gz x c e)
   exact ⟨v,o,k c o ho,hd⟩
 . show H C=none
   rw [hC]
   exact I.hok.fresh (Nat.le_refl _)
 . have DH:p∈X.pn++pins:=by simpa [cQ] using hp
   obtain ⟨e,n,ne,nf,d⟩:=I.pin p DH
   exact ⟨k _ _ e,n,lt _ _ e,stk _ ne nf,d⟩
 . show (qm js σ).length=N.length
   unfold qm
   rw [List.length_map]
   exact S.len
theorem Inv.left {N:List Str}{scope:Scope}{cl:List (Str×Addr)}{C:Addr}{fp:List Addr}{σc:St}{H':Hp}{s':Shared}{pn:List (Addr×Obj)}(I:Inv X pins σ H s) (hf:∀b∈fp,iS X pins H b)
 (J:Inv (cQ X N scope cl C s H fp pn) [] σc H' s'):Inv X pins σ H' s':=
 I.OI (ch:=fp) J.os J.base J.hok J.bare λb hb=>⟨(hf b hb).2.2.2.1,(hf b hb).2.1,(hf b hb).2.2.2.2.1,(hf b hb).2.2.2.2.2⟩
end
def xA (X:Cx) (ifs:List Expr) (t:TT):Prop:=
 ∀(pins:List (Addr×Obj)) (s:Shared) (σ:St) (H:Hp) (Q:Bool->Hp->Prop),Inv X pins σ H s->t σ H Q->
  wpAny (model X.prog X.w) X.A (forIn ifs true λc r=>if r=true then do let ok ← isTrue c X.env (eval c X.env); pure (ForInStep.yield ok) else pure (ForInStep.yield r)) (TP X pins σ Q) X.xe s
def kY:TT:=λ_ H Q=>Q true H
theorem cm {X:Cx} : xA X [] kY:=λpins s σ H Q I h=>by
 rw [List.forIn_nil]
 exact wpAny_pure ⟨H,I,h⟩
theorem FX {X:Cx}{c:Expr}{t:TT}(hc:PT X c t):xA X [c] t:=λpins s σ H Q I h=>by
 rw [List.forIn_cons]
 refine wpAny_bind ?_
 rw [if_pos rfl]
 refine wpAny_bind (aN (hc pins s σ H Q I h) λb s1 h1=>?_)
 refine wpAny_pure ?_
 show wpAny _ _ (forIn [] b _) _ _ _
 rw [List.forIn_nil]
 exact wpAny_pure h1
theorem xB {prog:Program}{w:World}{A:Around}{R:Result->Shared->Prop}{s:Shared}{elt target iter:Expr}{ifs:List Expr}{scope:Scope}{pos:Pos}{it acc:Value}{env:Env}(I:Nat->Shared->Prop)
 (turn:∀n s,I n s->wpAny (model prog w) A (pyNext it) (λr cW=>match r with
  | none=>R (.ok .next) cW
  | some v=>wpAny (model prog w) A (letOwnedTupleGo target it v) (λ_ R0=>wpAny (model prog w) A (assign target env v) (λ_ uK=>
   wpAny (model prog w) A (forIn ifs true λc r=>if r=true then do let ok ← isTrue c env (eval c env); pure (ForInStep.yield ok) else pure (ForInStep.yield r)) (λok Jt=>
    if ok=true then wpAny (model prog w) A (eval elt env) (λx Zh=>
     wpAny (model prog w) A (call (.builtin "list.append") [acc,x]) (λ_ Zi=>∃m,m<n/\I m Zi) (λ_ _=>False) Zh) (λ_ _=>False) Jt
    else ∃m,m<n/\I m Jt) (λ_ _=>False) uK) (λ_ _=>False) R0) (λ_ _=>False) cW) (λ_ _=>False) s)
 (n:Nat) (h:I n s) :
 codeAny (model prog w) A (.compLoop (.ListComp elt [⟨target,iter,ifs,0⟩] scope pos) 0 it acc env) R s:=by
 refine codeAny_loop rfl I (λn s hI=>?_) n h
 show wpAny _ A ((compTurn (.ListComp elt [⟨target,iter,ifs,0⟩] scope pos) 0 it acc env).onRaise (λx=>do noteFrame x env; theTreesLotGoes x)) _ _ s
 refine wpAny_noted ?_
 rw [compTurn_list]
 refine wpAny_bind (wpAny_standAt (wpAny_bind (wpAny_mono (turn n s hI) (λr cW kN=>?_) λ_ _ h'=>h'.elim)))
 cases r with
 | none=>exact wpAny_pure kN
 | some v=>
  refine wpAny_bind (wpAny_mono kN (λ_ R0 Zj=>?_) λ_ _ h'=>h'.elim)
  refine wpAny_bind (wpAny_mono Zj (λ_ uK rP=>wpAny_bind (wpAny_mono rP (λok Jt uO=>?_) λ_ _ h'=>h'.elim)) λ_ _ h'=>h'.elim)
  cases ok with
  | false=>exact wpAny_pure ⟨rfl,uO⟩
  | true=>
   exact wpAny_bind (wpAny_bind (wpAny_mono uO (λx Zh BV=>wpAny_bind (wpAny_mono BV (λ_ Zi ia=>wpAny_pure (wpAny_pure ⟨rfl,ia⟩)) λ_ _ h'=>h'.elim)) λ_ _ h'=>h'.elim))
def tL (D:Addr) (g:TG) (ti:TT) (te:TE) (J:It) (W:Nat->Nat->St->Hp->Prop) (Q:Hp->Prop):Prop:=∀i m σ H,W i m σ H->
 (J.stop i H/\Q H)\/(J.go i H/\∀x H',J.yld i H x H'->g x σ H' λiu H2=>ti iu H2 λb H3=>
  if b=true then te iu H3 λy H4=>∃acc,H4 D=some (.lst acc)/\acc.length<sizeLine/\∃m',m'<m/\W (i+1) m' iu (upd H4 D (.lst (acc++[y])))
  else ∃m',m'<m/\W (i+1) m' iu H3)
def Le (js:List (Option Nat)) (wi:TI) (g:TG) (ti:TT) (te:TE):TE:=λσ H Q=>wi σ H λJ H1=>∀D,H1 D=none->
 ∃W:Nat->Nat->St->Hp->Prop,(∃m,W 0 m (qm js σ) (upd H1 D (.lst [])))/\tL D g ti te J W (λH'=>Q (.ref D) H')
section
variable {X:Cx}{N:List Str}{js:List (Option Nat)}{scope:Scope}{elt tg iter:Expr}{ifs:List Expr}{pos:Pos}{wi:TI}{g:TG}{ti:TT}{te:TE}
theorem DI {use:Option (Value->Sem Unit)}{R:Value->Shared->Prop}(S:mx X N js scope) (hc:X.calm=true) (hi:PI X tg iter wi)
 (hg:∀cl C s H fp pn,PG (cQ X N scope cl C s H fp pn) tg g) (ht:∀cl C s H fp pn,xA (cQ X N scope cl C s H fp pn) ifs ti) (he:∀cl C s H fp pn,PE (cQ X N scope cl C s H fp pn) elt te)
 (hs:∀x,foldedSetIterable iter X.env x=pure x){pins:List (Addr×Obj)}{s:Shared}{σ:St}{H:Hp}{Q:V->Hp->Prop}(I:Inv X pins σ H s) (h:Le js wi g ti te σ H Q)
 (hR:∀D C (H':Hp) (s':Shared),Inv X pins σ H' s'->(∃m,s'.heap.Ns C m)->H' C=none->C≠X.env.locals->(C∈X.ex\/X.jR.heap.objs.size<=C)->(∀x c,X.env.cells.lookup x=some c->c≠C)->(∀p∈X.pn++pins,p.1≠C)->Q (.ref D) H'->
  compPost (model X.prog X.w) X.A X.xe use R (.ref D) C (.ok .next) s') :
 wpAny (model X.prog X.w) X.A (comprehension (.ListComp elt [⟨tg,iter,ifs,0⟩] scope pos) scope X.env (firstIterPos [⟨tg,iter,ifs,0⟩] pos) (newList []) false (eval iter X.env) use) R X.xe s:=by
 obtain ⟨cl,O6,gz,Ld⟩:=uQ (scope:=scope) (env:=X.env) λx hx hk=>I.ok.has x.1 (S.frees x hx hk)
 refine wpAny_comprehension_free (use:=use) rfl hs O6 S.kind S.names (aN (hi pins s σ H _ I h) λxv s1 h1=>aN h1 λKI s2 h2=>?_)
 obtain ⟨it,fp,tn,J,H2,e,I2,T,xh,f2,q2⟩:=h2
 subst e
 refine wpAny_newObj_type (wpAny_newFunctionEnv S.nocell (by intro y hy; simp at hy) (λkN FY FZ=>?_) S.kind)
 dsimp only at FY FZ ⊢
 have I3:Inv X pins σ (upd H2 s2.heap.objs.size (.lst [])) { s2 with heap:=s2.heap.push { cls:=.type "list",data:=.seq ([]:List Value).toArray },toks:=s2.toks }:=I2.FQ .nil (by show 0<=sizeLine; decide)
 have lt2:∀b∈fp,b<s2.heap.objs.size:=λb hb=>let ⟨o,e,_⟩:=T.obj _ _ xh b hb; Heap.lt_size e
 have f3:∀b∈fp,iS X pins (upd H2 s2.heap.objs.size (.lst [])) b:=λb hb=>⟨by rw [ag (Nat.ne_of_lt (lt2 b hb))]; exact (f2 b hb).1,(f2 b hb).2⟩
 obtain ⟨W,⟨m0,w0⟩,turn⟩:=q2 s2.heap.objs.size (I2.hok.fresh (Nat.le_refl _))
 generalize HE:({ s2 with heap:=s2.heap.push { cls:=.type "list",data:=.seq ([]:List Value).toArray },toks:=s2.toks } : Shared)=s3 at I3
 have e3:s3.heap=s2.heap.push { cls:=.type "list",data:=.seq ([]:List Value).toArray }:=by rw [← HE]
 have z3:s3.heap.objs.size=s2.heap.objs.size+1:=by rw [e3,Heap.size_push]
 have k1:∀b o,s3.heap.get? b=some o->kN.get? b=some o:=λb o e=>by
  have hb:b<s3.heap.objs.size:=Heap.lt_size e
  refine FZ.extBut b o ?_ (Heap.get?_push_of_some _ (by rw [← e3]; exact e))
  rw [← e3]
  exact Nat.ne_of_lt hb
 have hC:(s2.heap.push { cls:=.type "list",data:=.seq ([]:List Value).toArray }).objs.size=s3.heap.objs.size:=by rw [e3]
 have I4:=I3.enter (N:=N) (js:=js) (scope:=scope) (cl:=cl) (fp:=fp) (C:=(s2.heap.push { cls:=.type "list",data:=.seq ([]:List Value).toArray }).objs.size) (h':=kN) (tk:=s2.toks+([]:List (Str×Value)).length) S hc gz Ld hC f3
  (λb hb=>by rw [z3]; exact Nat.lt_succ_of_lt (lt2 b hb)) FY k1
 have R1:tn 0 kN:=T.keep _ _ _ xh λb hb o e=>k1 b o (by rw [e3]; exact Heap.get?_push_of_some _ e)
 generalize hCC:(s2.heap.push { cls:=.type "list",data:=.seq ([]:List Value).toArray }).objs.size=C at FY FZ hC I4 ⊢
 have Zk:({ s3 with heap:=kN,toks:=s2.toks+([]:List (Str×Value)).length } : Shared) = { s2 with heap:=kN,toks:=s2.toks+([]:List (Str×Value)).length }:=by rw [← HE]
 rw [Zk] at I4
 have fY:∀{H':Hp},(∀b∈fp,H' b=none)->∀b∈fp,iS (cQ X N scope cl C s3 (upd H2 s2.heap.objs.size (.lst [])) fp (X.pn++pins)) [] H' b:=λhn b hb=>by
  obtain ⟨f0,fa,fb,fc,fd,fe⟩:=f3 b hb
  refine ⟨hn b hb,?_,λz=>(List.mem_cons.mp (I3.sU b z)).elim fa fb,.inl hb,λx c e=>fd x c (gz x c e),λp hp=>fe p (by simpa [cQ] using hp)⟩
  show b≠C
  rw [hC,z3]
  exact Nat.ne_of_lt (Nat.lt_succ_of_lt (lt2 b hb))
 have loop:codeAny (model X.prog X.w) X.A (.compLoop (.ListComp elt [⟨tg,iter,ifs,0⟩] scope pos) 0 (.ref it) (.ref s2.heap.objs.size) (compEnvC scope cl C X.env))
  (compPost (model X.prog X.w) X.A X.xe use R (.ref s2.heap.objs.size) C) { s2 with heap:=kN,toks:=s2.toks+([]:List (Str×Value)).length }:=by
  refine xB (λn s'=>∃i cA H',Inv (cQ X N scope cl C s3 (upd H2 s2.heap.objs.size (.lst [])) fp (X.pn++pins)) [] cA H' s'/\tn i s'.heap/\(∀b∈fp,H' b=none)/\W i n cA H') ?_ m0
   ⟨0,_,_,I4,R1,λb hb=>(f3 b hb).1,w0⟩
  rintro n s5 ⟨i,O7,H5,I5,zY,Hq,w5⟩
  rcases turn i n O7 H5 w5 with ⟨stop,qn⟩ | ⟨go,step⟩
  . refine aN (T.done (cQ X N scope cl C s3 (upd H2 s2.heap.objs.size (.lst [])) fp (X.pn++pins)) rfl rfl rfl rfl i [] s5 O7 H5 (λ_ _=>False) I5 (fY Hq) zY stop) λr s6 ⟨hr,I6⟩=>?_
    subst hr
    have I7:Inv X pins σ H5 s6:=I3.left f3 I6
    have Zl:X.jR.heap.objs.size<=C:=by rw [hC]; exact I3.sz
    refine hR s2.heap.objs.size C H5 s6 I7 (let ⟨m,hn,_⟩:=I6.loc; ⟨m,hn⟩) I6.free ?_ (.inr Zl) (λx c e z=>?_) (λp hp z=>?_) qn
    . rw [hC]
      exact Nat.ne_of_gt I3.lt
    . obtain ⟨v,o,ho,_⟩:=I3.cell x c e
      have:=Heap.lt_size ho
      rw [z,hC] at this
      exact Nat.lt_irrefl _ this
    . obtain ⟨e,_⟩:=I3.pin p hp
      have:=Heap.lt_size e
      rw [z,hC] at this
      exact Nat.lt_irrefl _ this
  . refine aN (T.item (cQ X N scope cl C s3 (upd H2 s2.heap.objs.size (.lst [])) fp (X.pn++pins)) rfl rfl rfl rfl i [] s5 O7 H5 (λ_ _=>False) I5 (fY Hq) zY go) λr s6 ⟨u,hr,h6⟩=>?_
    subst hr
    refine aN h6 λ_ s7 ⟨x,H7,I7,r7,y7,Lf,Zm⟩=>?_
    have Zn:=I7.pinned (fY Zm) (T.obj _ _ Lf)
    have again:∀{n':Nat}{DJ:St}{H8:Hp}{s8:Shared},Inv (cQ X N scope cl C s3 (upd H2 s2.heap.objs.size (.lst [])) fp (X.pn++pins)) ([]++oR fp s7.heap) DJ H8 s8->n'<n->W (i+1) n' DJ H8->
     ∃m,m<n/\∃i cA H',Inv (cQ X N scope cl C s3 (upd H2 s2.heap.objs.size (.lst [])) fp (X.pn++pins)) [] cA H' s8/\tn i s8.heap/\(∀b∈fp,H' b=none)/\W i m cA H':=λ{n' DJ H8 s8} I8 hm w8=>by
     refine ⟨n',hm,i+1,DJ,H8,I8.nB,T.keep _ _ _ Lf λb hb o e=>(I8.pin (b,o) (List.mem_append_right _ (List.mem_append_right _ (j4 hb e)))).1,λb hb=>?_,w8⟩
     obtain ⟨o,e,d⟩:=T.obj _ _ Lf b hb
     exact (I8.pin (b,o) (List.mem_append_right _ (List.mem_append_right _ (j4 hb e)))).2.1
    refine aN (hg _ _ _ _ _ _ _ s7 O7 H7 x u _ Zn r7 (step x H7 y7)) λ_ s8 ⟨DJ,H8,I8,q8⟩=>?_
    refine aN (ht _ _ _ _ _ _ _ s8 DJ H8 _ I8 q8) λok s9 ⟨H9,I9,q9⟩=>?_
    cases ok with
    | false=>
     rw [if_neg Bool.false_ne_true] at q9 ⊢
     obtain ⟨m',hm,w9⟩:=q9
     exact again I9 hm w9
    | true=>
     rw [if_pos rfl] at q9 ⊢
     refine aN (he _ _ _ _ _ _ _ s9 DJ H9 _ I9 q9) λyv Zo ⟨y,R3,Zp,Zq,acc,hD,hl,m',hm,Zr⟩=>?_
     refine aN (d4 _ Zo DJ R3 (.ref s2.heap.objs.size) [y] (.ref s2.heap.objs.size) [yv] (λ_ H'=>H'=upd R3 s2.heap.objs.size (.lst (acc++[y]))) Zp rfl (.cons Zq .nil) ⟨s2.heap.objs.size,acc,y,rfl,rfl,hD,hl,rfl⟩) λ_ s11 ⟨_,H11,Zs,_,Zt⟩=>?_
     subst Zt
     exact again Zs hm Zr
 exact codeAny_compStart_list loop (T.self _ 0 _ _ _ R1 loop)
theorem eT (S:tK X.N X.env.scope.names N js scope=true) (hc:X.calm=true) (hi:PI X tg iter wi)
 (hg:∀cl C s H fp pn,PG (cQ X N scope cl C s H fp pn) tg g) (ht:∀cl C s H fp pn,xA (cQ X N scope cl C s H fp pn) ifs ti) (he:∀cl C s H fp pn,PE (cQ X N scope cl C s H fp pn) elt te)
 (hs:∀x,foldedSetIterable iter X.env x=pure x:=by intro _; rfl):PE X (.ListComp elt [⟨tg,iter,ifs,0⟩] scope pos) (Le js wi g ti te):=by
 intro pins s σ H Q I h
 rw [eval_ListComp]
 refine DI (use:=none) (mx.of S) hc hi hg ht he hs I h ?_
 rintro D C H' s' I' ⟨m,hn⟩ c1 c2 c3 c4 c5 q
 refine ⟨m,hn,λh' Lg=>?_⟩
 exact ⟨.ref D,H',I'.turned (t':=s'.toks) (λb o hb e=>Lg.extBut b o hb e) c1 c2 c3 c4 c5,rfl,q⟩
theorem BW {i:Nat}{x:Str}{pos' Lh:Pos}(hN:X.N.Nodup) (Zu:X.N[i]?=some x) (hx:X.env.scope.names.lookup x=some .local) (S:tK X.N X.env.scope.names N js scope=true) (hc:X.calm=true) (hi:PI X tg iter wi)
 (hg:∀cl C s H fp pn,PG (cQ X N scope cl C s H fp pn) tg g) (ht:∀cl C s H fp pn,xA (cQ X N scope cl C s H fp pn) ifs ti) (he:∀cl C s H fp pn,PE (cQ X N scope cl C s H fp pn) elt te)
 (Zv:swapsWith (.ListComp elt [⟨tg,iter,ifs,0⟩] scope pos) (some (.Name x pos')) Lh.line X.env=pure true:=by rfl)
 (hs:∀x,foldedSetIterable iter X.env x=pure x:=by intro _; rfl):PS X (.Assign [.Name x pos'] (.ListComp elt [⟨tg,iter,ifs,0⟩] scope pos) Lh) (Fy (Le js wi g ti te) (eS i)):=by
 intro pins s σ H D I h
 rw [exec_Assign_Name_used _ _ _ _ Zv]
 refine wpAny_bind (wpAny_standAt (wpAny_bind ?_))
 show wpAny _ X.A (do let _ ← comprehension (.ListComp elt [⟨tg,iter,ifs,0⟩] scope pos) scope X.env _ (newList []) false (eval iter X.env) (some (assign (.Name x pos') X.env))) _ _ s
 refine wpAny_bind (aN (DI (use:=some (assign (.Name x pos') X.env)) (R:=λ_ s'=>SP X pins D .next s') (mx.of S) hc hi hg ht he hs I h ?_) λ_ s' hq=>wpAny_pure (wpAny_pure hq))
 rintro Dd C H' s' I' ⟨m,hn⟩ c1 c2 c3 c4 c5 q
 show wpAny _ X.A (assign (.Name x pos') X.env (.ref Dd)) _ _ _
 refine wpAny_assign_Name (vo I' hN Zu (.inl hx) (v:=.ref Dd) rfl (λDq Zw ⟨a,sb,ha⟩=>?_) (.inr hx))
 have ea:a≠C:=by
  rcases ha with ha | ha
  . rw [ha]
    exact Ne.symm c2
  . exact c4 x a ha
 refine ⟨m,hn.sameBut sb (Ne.symm ea),λh' Lg=>?_⟩
 exact ⟨_,_,Zw.turned (t':=Dq.toks) (λb o hb e=>Lg.extBut b o hb e) c1 c2 c3 c4 c5,q⟩
end
def DK (D:Addr) (n:Nat) (Pv:Nat->List V->St->Hp->Prop):Nat->Nat->St->Hp->Prop:=λi m σ H=>i<=n/\m=n-i/\∃acc,H D=some (.lst acc)/\Pv i acc σ H
theorem cX {D:Addr}{n i:Nat}{Pv:Nat->List V->St->Hp->Prop}{acc:List V}{σ:St}{H:Hp}(hi:i<n) (hD:H D=some (.lst acc)) (hp:Pv (i+1) acc σ H):∃m',m'<n-i/\DK D n Pv (i+1) m' σ H:=
 ⟨n-(i+1),by omega,hi,rfl,acc,hD,hp⟩
theorem gZ {D:Addr}{g:TG}{ti:TT}{te:TE}{J:It}{Q:Hp->Prop}{Zx:St}{H0:Hp}(n:Nat) (Pv:Nat->List V->St->Hp->Prop) (h0:Pv 0 [] Zx H0) (Zy:H0 D=some (.lst []))
 (fin:∀acc σ H,H D=some (.lst acc)->Pv n acc σ H->J.stop n H/\Q H)
 (step:∀i acc σ H,i<n->H D=some (.lst acc)->Pv i acc σ H->J.go i H/\∀x H',J.yld i H x H'->g x σ H' λiu H2=>ti iu H2 λb H3=>
  if b=true then te iu H3 λy H4=>∃acc,H4 D=some (.lst acc)/\acc.length<sizeLine/\∃m',m'<n-i/\DK D n Pv (i+1) m' iu (upd H4 D (.lst (acc++[y]))) else ∃m',m'<n-i/\DK D n Pv (i+1) m' iu H3) :
 ∃W:Nat->Nat->St->Hp->Prop,(∃m,W 0 m Zx H0)/\tL D g ti te J W Q:=by
 refine ⟨DK D n Pv,⟨n,Nat.zero_le _,rfl,[],Zy,h0⟩,?_⟩
 rintro i m σ H ⟨hi,rfl,acc,hD,hp⟩
 rcases Nat.lt_or_ge i n with h | h
 . exact .inr (step i acc σ H h hD hp)
 . have e:i=n:=Nat.le_antisymm hi h
   subst e
   exact .inl (fin acc σ H hD hp)
end L2
namespace L2
open PySem PySem.Spec PyProof.Rows
section
variable {X:Cx}{pins:List (Addr×Obj)}{σ:St}{H:Hp}{s:Shared}{h':Heap}
theorem Inv.Ah {t':Nat}{fp:List Addr}(I:Inv X pins σ H s) (hf:∀b∈fp,iS X pins H b) (k:∀b o,b∉fp->s.heap.get? b=some o->h'.get? b=some o):Inv X pins σ H { s with heap:=h',toks:=t' }:=by
 have DL:∀b u,H b=some u->b∉fp:=λb u e z=>by rw [(hf b z).1] at e; cases e
 refine I.step (g':=s.gens) (d':=s.drawn) (ch:=fp) (λb hb=>⟨(hf b hb).2.2.2.1,(hf b hb).2.1,(hf b hb).2.2.2.2.1,(hf b hb).2.2.2.2.2⟩) (λb o _ _ hc e _=>k b o hc e) (λb o _ _ hc e _=>⟨o.slots,k b o hc e⟩) (λ_ _ _ _ n=>n)
  (λb o hc e=>⟨o,k b o hc e⟩) (λ_ _ e=>e) (λ_ _ _ e=>e) (λb ps e=>⟨#[],by rw [e]; simp⟩) (λm hm=>?_) (λb u e=>?_) I.bare
 . obtain ⟨o,es,ep,ho,r⟩:=hm
   exact ⟨o,es,ep,k _ o (λz=>(hf _ z).2.1 rfl) ho,r⟩
 . refine (I.hok b u e).jQ (λc v hc q=>k c v ?_ q) (λ_ q=>q) λ_ _ q=>q
   rcases hc with z | z
   . rw [z]; exact DL b u e
   . exact DL c _ z
theorem Inv.Ai {t':Nat}{fp:List Addr}{T:Addr}{xs:List V}{its:List Value}(I:Inv X pins σ H s) (hf:∀b∈fp,iS X pins H b) (k:∀b o,b∉fp->s.heap.get? b=some o->h'.get? b=some o)
 (hT:s.heap.objs.size<=T) (ht:IsTup h' T its.toArray) (rv:Vals xs its) (hz:xs.length<=sizeLine):Inv X pins σ (upd H T (.tup xs)) { s with heap:=h',toks:=t' }:=by
 have DL:∀b u,H b=some u->b∉fp:=λb u e z=>by rw [(hf b z).1] at e; cases e
 have Aj:H T=none:=I.hok.fresh hT
 have neT:∀b u,H b=some u->b≠T:=λb u e z=>by rw [z,Aj] at e; cases e
 have Zz:∀b o,s.heap.get? b=some o->b≠T:=λb o e=>Nat.ne_of_lt (Nat.lt_of_lt_of_le (Heap.lt_size e) hT)
 refine I.step (g':=s.gens) (d':=s.drawn) (ch:=fp) (λb hb=>⟨(hf b hb).2.2.2.1,(hf b hb).2.1,(hf b hb).2.2.2.2.1,(hf b hb).2.2.2.2.2⟩) (λb o _ _ hc e _=>k b o hc e) (λb o _ _ hc e _=>⟨o.slots,k b o hc e⟩)
  (λb o _ e n=>by rw [ag (Zz b o e)]; exact n) (λb o hc e=>⟨o,k b o hc e⟩) (λb ys e=>by rw [ag (neT b _ e)]; exact e) (λb o u e=>by rw [ag (neT b _ e)]; exact e)
  (λb ps e=>⟨#[],by rw [ag (neT b _ e),e]; simp⟩) (λm hm=>?_) (λb u e=>?_) I.bare
 . obtain ⟨o,es,ep,ho,r⟩:=hm
   exact ⟨o,es,ep,k _ o (λz=>(hf _ z).2.1 rfl) ho,r⟩
 . by_cases hb:b=T
   . subst hb
     rw [af] at e
     cases e
     exact ⟨hz,its,rv,ht⟩
   . rw [ag hb] at e
     refine (I.hok b u e).jQ (λc v hc q=>k c v ?_ q) (λc q=>by rw [ag (neT c _ q)]; exact q) λc ys q=>by rw [ag (neT c _ q)]; exact q
     rcases hc with z | z
     . rw [z]; exact DL b u e
     . exact DL c _ z
end
def Li (z:Str):It:=⟨λi _=>i<z.cps.size,λi H x H'=>H'=H/\∃c,z.cps[i]?=some c/\x=.str ⟨#[c]⟩,λi _=>i=z.cps.size⟩
theorem xC {P:Program}{w:World}{K:W.Frag}{tg:Expr}(it:Addr) (z:Str) (t:Tok) (ty:String) (W:∀A:Around,A.handled=none->Walks P w A it [it] [it] z.cps.size (SignAt z) (λi h=>h.IsStrIter it ty z t i))
 (hs:∀(A:Around) (i:Nat) (s:Shared) (Q:Value->Shared->Prop) (E:Value->Shared->Prop),s.heap.IsStrIter it ty z t i->Q (.ref it) s->wpAny (model P w) A (pyIter (.ref it)) Q E s)
 (hn:["enumerate", "zip", "dict_itemiterator", "dict_reverseitemiterator", "odict_iterator", "itertools.zip_longest", "itertools.pairwise"].contains ty=false) :
 Turn P w K tg (Li z) [it] it (λi h=>h.IsStrIter it ty z t i) where
 mem:=by simp
 obj:=λi h st b hb=>by
  have e:b=it:=by simpa using hb
  subst e
  obtain ⟨o,e,c,d⟩:=st
  exact ⟨o,e,λv z=>by rw [d] at z; cases z⟩
 keep:=λi h h' st k=>let ⟨o,e,r⟩:=st; ⟨o,k it (by simp) o e,r⟩
 item:=by
  intro X hP hw hK hc i pins s σ H E I hf st hg
  subst hP hw hK
  obtain ⟨f0,f1,f2,f3,f4,f5⟩:=hf it (by simp)
  refine (W X.A (I.ok.hd hc)).item i s _ _ hg st λv h' tk hv aG kk=>?_
  obtain ⟨c,u,ec,rfl⟩:=hv
  have I1:Inv X pins σ H { s with heap:=h',toks:=tk }:=I.turned (λb o hb e=>kk b o (by simpa using hb) e) f0 f1 f3 f4 f5
  obtain ⟨o,e,oc,od⟩:=id aG
  exact ⟨_,rfl,wG (s:={ s with heap:=h',toks:=tk }) e oc od hn ⟨.str ⟨#[c]⟩,H,I1,⟨u,rfl⟩,⟨rfl,c,ec,rfl⟩,aG,λb hb=>(hf b hb).1⟩⟩
 done:=by
  intro X hP hw hK hc i pins s σ H E I hf st hg
  subst hP hw hK
  obtain ⟨f0,f1,f2,f3,f4,f5⟩:=hf it (by simp)
  have my:i=z.cps.size:=hg
  subst my
  exact (W X.A (I.ok.hd hc)).done s _ _ st λh' tk kk=>⟨rfl,I.turned (λb o hb e=>kk b o (by simpa using hb) e) f0 f1 f3 f4 f5⟩
 self:=λA i s Q E st h=>hs A i s Q E st h
section
variable {X:Cx}{tg:Expr}
def U9 (ts:TE):TI:=λσ H R=>ts σ H λx H1=>∃z,x=.str z/\R (Li z) H1
theorem tM {l:Expr}{tl:TE}(hl:PE X l tl):PI X tg l (U9 tl):=by
 intro pins s σ H R I h
 refine aN (hl pins s σ H _ I h) λv s1 ⟨x,H1,I1,r1,q1⟩=>?_
 obtain ⟨z,e,q⟩:=q1
 subst e
 obtain ⟨t,rfl⟩:=r1
 have fin:∀b∈[s1.heap.objs.size],iS X pins H1 b:=λb hb=>by
  have e:b=s1.heap.objs.size:=by simpa using hb
  subst e
  exact I1.uL (Nat.le_refl _) (I1.hok.fresh (Nat.le_refl _))
 cases ha:z.cps.all (· < 128) with
 | true=>
  refine wpAny_pyIter_ascii ha ?_
  exact ⟨s1.heap.objs.size,[s1.heap.objs.size],_,_,H1,rfl,I1.kept (t':=s1.toks) λb o e=>Heap.get?_push_of_some _ e,
   xC _ z t "str_ascii_iterator" (λA hA=>Walks.strAscii hA _ z t) (λ_ _ _ _ _ st h=>wpAny_pyIter_striter_ascii st h) (by decide),⟨_,Heap.get?_push_size _ rfl,rfl,rfl⟩,fin,q⟩
 | false=>
  refine wpAny_pyIter_wide ha ?_
  exact ⟨s1.heap.objs.size,[s1.heap.objs.size],_,_,H1,rfl,I1.kept (t':=s1.toks) λb o e=>Heap.get?_push_of_some _ e,
   xC _ z t "str_iterator" (λA hA=>Walks.strWide hA _ z t) (λ_ _ _ _ _ st h=>wpAny_pyIter_striter_wide st h) (by decide),⟨_,Heap.get?_push_size _ rfl,rfl,rfl⟩,fin,q⟩
end
def R4 (K:W.Frag) (a:Addr):It:=
 ⟨λi H=>∃xs x,av K H a xs/\xs[i]?=some x,λi H v H'=>∃T x,v=.ref T/\H T=none/\H'=upd H T (.tup [.int (i:Int),x])/\∀xs,av K H a xs->xs[i]?=some x,λi H=>∃xs,av K H a xs/\xs.length<=i⟩
theorem DM {P:Program}{w:World}{K:W.Frag}{es:List Expr}{kk:Nat}{tp:Pos}(a e it:Addr) (R5:e≠it):Turn P w K (.Tuple es kk tp) (R4 K a) [e,it] e (λi h=>(∃old,IsEnum h e it (i:Int) old)/\h.IsListIter it a i) where
 mem:=by simp
 obj:=λi h st b hb=>by
  obtain ⟨⟨old,he⟩,o,e1,c,d⟩:=st
  rcases List.mem_cons.mp hb with z | z
  . subst z
    exact ⟨_,he,λv z=>by
     have z':Data.fields _=Data.cell v:=z
     cases z'⟩
  . have z':b=it:=by simpa using z
    subst z'
    exact ⟨o,e1,λv z=>by rw [d] at z; cases z⟩
 keep:=λi h h' st k=>⟨let ⟨old,he⟩:=st.1; ⟨old,k e (by simp) _ he⟩,st.2.at λo e1=>k it (by simp) o e1⟩
 item:=by
  intro X hP hw hK hc i pins s σ H E I hf st hg
  subst hP hw hK
  obtain ⟨xs,x,hq,hx⟩:=hg
  obtain ⟨its,rv,p,hz⟩:=I.list hq
  obtain ⟨u,hu,ru⟩:=rv.get hx
  obtain ⟨⟨old,he⟩,hit⟩:=st
  refine wpAny_pyNext_enum_item he hit p.isList (x:=u) (by simpa using hu) R5 λh' ho Va hT hsz hk=>?_
  refine ⟨.ref s.heap.objs.size,rfl,?_⟩
  refine wpAny_letOwnedTupleGo_enum ho λh2 HF oS=>?_
  have R6:s.heap.objs.size≠e:=Nat.ne_of_gt (Heap.lt_size he)
  have Ak:h2.get? s.heap.objs.size=some { cls:=.type "tuple",data:=.seq #[.int i s.toks,u] }:=(oS.2 _ R6).trans hT
  have I1:Inv X pins σ (upd H s.heap.objs.size (.tup [.int (i:Int),x])) { s with heap:=h2,toks:=s.toks+1 }:=I.Ai (its:=[.int i s.toks,u]) hf (λb o hb e1=>by
   have b1:b≠e:=λz=>hb (by simp [z])
   have b2:b≠it:=λz=>hb (by simp [z])
   exact (oS.2 b b1).trans (hk b o b1 b2 e1)) (Nat.le_refl _) ⟨_,Ak,rfl,_,rfl⟩ (.cons ⟨_,rfl⟩ (.cons ru .nil)) (by show 2<=sizeLine; decide)
  have fr:H s.heap.objs.size=none:=I.hok.fresh (Nat.le_refl _)
  refine ⟨.ref s.heap.objs.size,_,I1,rfl,⟨s.heap.objs.size,x,rfl,fr,rfl,λys hy=>by rw [I.rN hy hq]; exact hx⟩,⟨⟨u,?_⟩,Va.at λo e1=>(oS.2 it R5.symm).trans e1⟩,λb hb=>?_⟩
  . have e3:(((i+1:Nat):Nat):Int)=(i:Int)+1:=by omega
    rw [e3]
    exact HF
  . have qW:=(hf b hb).1
    have nb:b≠s.heap.objs.size:=by
     rcases List.mem_cons.mp hb with z | z
     . rw [z]; exact Ne.symm R6
     . have z':b=it:=by simpa using z
       rw [z']
       obtain ⟨o,e1,_⟩:=hit
       exact Nat.ne_of_lt (Heap.lt_size e1)
    rw [ag nb]
    exact qW
 done:=by
  intro X hP hw hK hc i pins s σ H E I hf st hg
  subst hP hw hK
  obtain ⟨xs,hq,hx⟩:=hg
  obtain ⟨its,rv,p,hz⟩:=I.list hq
  obtain ⟨⟨old,he⟩,hit⟩:=st
  have hl:=rv.length
  exact wpAny_pyNext_enum_end (I.ok.hd hc) he hit p.isList (by simp; omega) λh' eb=>⟨rfl,I.Ah (t':=s.toks) hf λb o hb e1=>eb b o (λz=>hb (by simp [z])) e1⟩
 self:=λ_ _ _ _ _ st h=>let ⟨old,he⟩:=st.1; wpAny_pyIter_enum he h
section
variable {X:Cx}
def O8 (K:W.Frag) (ta:TA):TI:=λσ H R=>ta σ H λvs H1=>∃a,vs=[.ref a]/\(∃xs,av K H1 a xs)/\R (R4 K a) H1
theorem Al {es:List Expr}{kk:Nat}{tp:Pos}{a:Expr}{ta:TA}{p pos:Pos}(hg:Gl X "enumerate") (hm:X.mg "enumerate" = none) (ha:PA X [a] ta) (hs:starEach [a] X.env=[(false,eval a X.env)]:=by rfl) :
 PI X (.Tuple es kk tp) (.Call (.Name "enumerate" p) [a] [] pos) (O8 X.K ta):=by
 intro pins s σ H R I h
 refine Call_ (iQ I hg hm boot_enumerate (PyProof.Rows.callWith_type1 (aN (ha pos pins s σ H _ I h) λus s1 ⟨vs,H1,I1,r1,q1⟩=>?_) hs rfl))
 obtain ⟨l,e,⟨xs,hq⟩,q⟩:=q1
 subst e
 cases r1 with
 | cons r rr=>
  cases rr
  cases r
  obtain ⟨its,rv,pl,hz⟩:=I1.list hq
  refine call_enumerate_list pl.isList λh' he hit hsz hk=>?_
  refine wpAny_pyIter_enum he ?_
  have I2:Inv X pins σ H1 { s1 with heap:=h' }:=I1.kept (t':=s1.toks) hk
  refine ⟨s1.heap.objs.size+1,[s1.heap.objs.size+1,s1.heap.objs.size],_,_,H1,rfl,I2,DM l _ _ (Nat.ne_of_gt (Nat.lt_succ_self _)),⟨⟨_,he⟩,hit⟩,λb hb=>?_,q⟩
  have qW:s1.heap.objs.size<=b:=by
   rcases List.mem_cons.mp hb with z | z
   . rw [z]; exact Nat.le_succ _
   . have z':b=s1.heap.objs.size:=by simpa using z
     rw [z']; exact Nat.le_refl _
  exact I1.uL qW (I1.hok.fresh qW)
end
section
variable {X:Cx}
def Vb:V->Option Int->Option Int->Hp->VK->Prop:=λx lo hi H Q=>∃z j,x=.str z/\lo=none/\hi=some j/\z.length<=sizeLine/\Q (.str (Txt.slice z none (some j))) H
theorem tN:HB X Vb:=by
 intro pins s σ H x v vl vu lo hi sl Q I rx hs pl pu h
 obtain ⟨z,j,rfl,rfl,rfl,hz,q⟩:=h
 obtain ⟨t,rfl⟩:=rx
 cases pl
 cases pu with
 | int _ uj=>
  refine ⟨"str",_,F.slot_str_getitem.lookup,typeIs_str _ _ _,wpAny_getItem_str_slice (l:=none) (u:=some (j,uj)) (st:=none) hs rfl
   (post_val_or_str ⟨Nat.le_trans (Txt.slice_le z _ _) hz,λt' k=>⟨.str (Txt.slice z none (some j)),H,I.tok k,⟨t',rfl⟩,q⟩⟩)⟩
def rJoin (K:W.Frag):V->List V->Hp->VK->Prop:=λx vs H Q=>∃z a ys,x=.str z/\vs=[.ref a]/\av K H a (ys.map V.str)/\(ys.map (·.length)).sum+ys.length*z.length<=16777216/\Q (.str (Txt.join z ys)) H
theorem tO:∀{ys:List Str}{us:List Value},Vals (ys.map V.str) us->StrsAre us ys
 | [],us,r=>by
  cases r
  exact .nil
 | y::ys,us,r=>by
  cases r with
  | cons h t=>
   obtain ⟨tk,rfl⟩:=h
   exact .cons _ _ (tO t)
theorem JC:tI X "str.join" (rJoin X.K):=by
 intro pins s σ H x vs v us Q I rx rv h
 obtain ⟨z,a,ys,rfl,rfl,hq,hl,q⟩:=h
 obtain ⟨t,rfl⟩:=rx
 obtain ⟨u,rfl,ru⟩:=rv.one
 cases ru
 obtain ⟨its,r,pl,_⟩:=I.list hq
 exact join_list pl.isList (by simpa using tO r) hl λt' k=>⟨.str (Txt.join z ys),H,I.tok k,⟨t',rfl⟩,q⟩
def Lj:V->List V->Hp->VK->Prop:=λx vs H Q=>∃z y,x=.str z/\vs=[.str y]/\z.length<=sizeLine/\(y.length == 0)=false/\
 (Builtin.Str.partsBetween z (Builtin.Str.occurrences z y 0 z.length (z.length+1)) y.length).length<=sizeLine/\∀p,H p=none->Q (.ref p) (upd H p (.lst ((Txt.split z y).map V.str)))
theorem oA:∀(tk:Nat) (xs:List Str),Vals (xs.map V.str) (strValues (numbered tk xs))
 | _,[]=>.nil
 | tk,x::r=>.cons ⟨tk,rfl⟩ (oA (tk+1) r)
theorem split_le (z y:Str) (h:(Builtin.Str.partsBetween z (Builtin.Str.occurrences z y 0 z.length (z.length+1)) y.length).length<=sizeLine):(Txt.split z y).length<=sizeLine:=by
 unfold Txt.split
 split
 . show 1<=sizeLine; decide
 . split
   . show 1<=sizeLine; decide
   . exact h
theorem F2:tI X "str.split" Lj:=by
 intro pins s σ H x vs v us Q I rx rv h
 obtain ⟨z,y,rfl,rfl,hz,hy,hl,q⟩:=h
 obtain ⟨t,rfl⟩:=rx
 obtain ⟨u,rfl,tu,rfl⟩:=rv.one
 have tP:=split_le z y hl
 have fin:∀(l:List (Str×Tok)) (tk:Nat),Vals ((Txt.split z y).map V.str) (strValues l)->
  EP X pins σ Q (.ref s.heap.objs.size) { s with heap:=s.heap.push { cls:=.type "list",data:=.seq (strValues l).toArray },toks:=tk }:=λl tk r=>
  ⟨.ref s.heap.objs.size,_,I.FQ r (by rw [List.length_map]; exact tP),rfl,q _ (I.hok.fresh (Nat.le_refl _))⟩
 cases h1:(decide (z.length<y.length) || decide (Builtin.Str.strKind z<Builtin.Str.strKind y)) with
 | true=>
  refine call_meets F.slot_str_split (typeIs_str _ _ _) F.entry_str_split (F.args_str_split_2 _ _) (meets_str_split_cannot_occur z y t tu h1) ?_
  exact fin [(z,t)] s.toks (by
   have e:Txt.split z y=[z]:=if_pos h1
   rw [e]
   exact .cons ⟨t,rfl⟩ .nil)
 | false=>
  cases hf:(Builtin.Str.occurrences z y 0 z.length (z.length+1)).isEmpty with
  | true=>
   refine call_meets F.slot_str_split (typeIs_str _ _ _) F.entry_str_split (F.args_str_split_2 _ _) (meets_str_split_not_found z y t tu h1 hy hf) ?_
   exact fin [(z,t)] s.toks (by
    have e:Txt.split z y=[z]:=(if_neg (ne_true_of_eq_false h1)).trans (if_pos hf)
    rw [e]
    exact .cons ⟨t,rfl⟩ .nil)
  | false=>
   refine call_meets F.slot_str_split (typeIs_str _ _ _) F.entry_str_split (F.args_str_split_2 _ _) (meets_str_split_sep z y t tu h1 hy hf hz hl) ?_
   have e:Txt.split z y=Builtin.Str.partsBetween z (Builtin.Str.occurrences z y 0 z.length (z.length+1)) y.length:=(if_neg (ne_true_of_eq_false h1)).trans (if_neg (ne_true_of_eq_false hf))
   have:=fin (numbered s.toks (Builtin.Str.partsBetween z (Builtin.Str.occurrences z y 0 z.length (z.length+1)) y.length)) (s.toks+(Builtin.Str.partsBetween z (Builtin.Str.occurrences z y 0 z.length (z.length+1)) y.length).length) (by
    rw [e]
    exact oA _ _)
   show EP X pins σ Q _ { s with toks:=_,heap:=s.heap.push { cls:=.type "list",data:=.seq (strsFrom s.toks (Builtin.Str.partsBetween z (Builtin.Str.occurrences z y 0 z.length (z.length+1)) y.length)).toArray } }
   rw [strsFrom_eq]
   exact this
end
section
variable {X:Cx}
def JD:V->List V->Hp->VK->Prop:=λx vs H Q=>∃l xs i y,x=.ref l/\vs=[.int i,y]/\H l=some (.lst xs)/\0<=i/\i<=xs.length/\xs.length<sizeLine/\Q .aQ (upd H l (.lst (xs.take i.toNat++[y]++xs.drop i.toNat)))
theorem DN:tI X "list.insert" JD:=by
 intro pins s σ H x vs v us Q I rx rv h
 obtain ⟨l,xs,i,y,rfl,rfl,hH,h0,hi,hz,q⟩:=h
 cases rx
 obtain ⟨u1,u2,rfl,r1,r2⟩:=rv.two
 obtain ⟨t1,rfl⟩:=r1
 obtain ⟨z,its,n,r,hl,e⟩:=I.oZ hH
 have hn:=mh
 have Vc:¬ (!Builtin.List.listFitsIndex i)=true:=by
  have:Builtin.List.listFitsIndex i=true:=by
   unfold Builtin.List.listFitsIndex
   simp only [Bool.and_eq_true,decide_eq_true_eq]
   constructor <;> omega
  rw [this]
  decide
 refine call_meets F.slot_list_insert ⟨_,e,rfl⟩ F.entry_list_insert (F.args_list_insert_3 _ _ _) (AutoListH.list_insert_list_int_val_1 l its.toArray n i t1 u2 Vc (by rw [List.size_toArray]; omega)) ⟨e,?_⟩
 refine ⟨.aQ,_,I.xw (its':=its.take i.toNat++[u2]++its.drop i.toNat) hH e ?_ (((r.take i.toNat).append (.cons r2 .nil)).append (r.drop i.toNat)) ?_,rfl,q⟩
 . have e1:(if i<0 then (i+((its.toArray.size:Nat):Int)).toNat else min i.toNat its.toArray.size)=i.toNat:=by
    rw [if_neg (by omega),List.size_toArray]
    omega
   show (its.toArray.extract 0 _).push u2++its.toArray.extract _=_
   rw [e1]
   apply Array.toList_inj.mp
   simp [List.take_of_length_le]
 . simp only [List.length_append,List.length_take,List.length_drop,List.length_singleton]
   omega
end
section
variable {prog:Program}{w:World}{A:Around}{E:Value->Shared->Prop}
end
section
variable {X:Cx}{pos:Pos}
end
end L2
namespace Gen
open PySem
theorem xD {α:Type}[DecidableEq α]:∀(l t:List α),l.Nodup->(∀x∈l,x∈t)->l.length<=t.length
 | [],t,_,_=>Nat.zero_le _
 | a::l,t,hn,hs=>by
  have ha:a∈t:=hs a List.mem_cons_self
  obtain ⟨h1,h2⟩:=List.nodup_cons.mp hn
  have:=xD l (t.erase a) h2 λx hx=>(List.mem_erase_of_ne (λ(e:x=a)=>h1 (by rw [← e]; exact hx))).mpr (hs x (List.mem_cons_of_mem _ hx))
  rw [List.length_erase_of_mem ha] at this
  have:0<t.length:=List.length_pos_of_mem ha
  simp only [List.length_cons]
  omega
theorem BZ (k len:Nat):Builtin.Str.strSliceIndices none (some (k:Int)) 1 len=List.range (min k len):=by
 have h1:¬ ((k:Int)<0):=by omega
 have e:max (0:Int) (min (k:Int) (len:Int))=((min k len:Nat):Int):=by omega
 simp only [Builtin.Str.strSliceIndices,sliceRange,h1,if_false,show ((1:Int)>0)=True from by simp,if_true,e]
 by_cases h:(0:Int)<((min k len:Nat):Int)
 . have e3:(((min k len:Nat):Int)-0+1-1) / 1=((min k len:Nat):Int):=by simp
   rw [if_pos h,e3,Int.toNat_natCast]
   conv=>rhs; rw [← List.map_id (List.range (min k len))]
   exact List.map_congr_left λj _=>by simp
 . have:min k len=0:=by omega
   simp [this]
theorem qX {α:Type}(l:List α) (n:Nat) (h:n<=l.length):(List.range n).filterMap (l[·]?)=l.take n:=by
 have:=StrLaws.picks l n 0 (by omega)
 simpa using this
theorem rT (x:Str) (k:Nat):(Txt.slice x none (some (k:Int))).cps.toList=x.cps.toList.take k:=by
 unfold Txt.slice
 rw [BZ]
 have hl:x.cps.toList.length=x.length:=by simp [Str.length]
 split
 . rename_i h
   simp only [beq_self_eq_true,Bool.true_and,List.length_range,beq_iff_eq] at h
   rw [List.take_of_length_le]
   omega
 . have e:(λ(i:Nat)=>x.cps[i]?)=(λ(i:Nat)=>x.cps.toList[i]?):=by funext i; simp
   show (List.filterMap (λ(i:Nat)=>x.cps[i]?) (List.range (min k x.length))).toArray.toList=_
   rw [List.toList_toArray,e,qX _ _ (by omega)]
   rcases Nat.le_total k x.length with h | h
   . rw [Nat.min_eq_left h]
   . rw [Nat.min_eq_right h,List.take_of_length_le (by omega),List.take_of_length_le (by omega)]
def az:List Nat:=(List.range 26).map (· + 97)
theorem ju {c:Nat} : c∈az ↔ 97<=c/\c<=122:=by
 unfold az
 simp only [List.mem_map,List.mem_range]
 constructor
 . rintro ⟨a,h,rfl⟩; omega
 . intro h; exact ⟨c-97,by omega,by omega⟩
def isName (n:List Nat):Prop:=1<=n.length/\n.length<=8/\∀c∈n,c∈az
def rV (n:List Nat):List (List Nat):=
 [n]++az.map (λc=>n.take 7++[c])++az.map (λc=>n.take 6++[c,113])++az.map (λc=>n.take 6++[c,122])++az.map (λc=>n.take 5++[c,113,122])
theorem DO {n x:List Nat}(hn:isName n) (hx:x∈rV n):isName x:=by
 obtain ⟨h1,h2,h3⟩:=hn
 have tk:∀k,∀c∈n.take k,c∈az:=λk c hc=>h3 c (List.mem_of_mem_take hc)
 have F3:113∈az:=by decide
 have F5:122∈az:=by decide
 unfold rV at hx
 simp only [List.mem_append,List.mem_singleton,List.mem_map] at hx
 rcases hx with (((rfl | ⟨c,hc,rfl⟩) | ⟨c,hc,rfl⟩) | ⟨c,hc,rfl⟩) | ⟨c,hc,rfl⟩
 . exact ⟨h1,h2,h3⟩
 all_goals
  refine ⟨by simp,by simp only [List.length_append,List.length_take,List.length_cons,List.length_nil]; omega,λd hd=>?_⟩
  simp only [List.mem_append,List.mem_cons,List.not_mem_nil,or_false] at hd
  rcases hd with hd | hd
  . exact tk _ d hd
  . rcases hd with rfl | hd <;> first | exact hc | (rcases hd with rfl | hd <;> first | exact F3 | exact F5 | (rcases hd with rfl <;> first | exact F3 | exact F5)) | (subst hd; first | exact F3 | exact F5)
def sub (n:List Nat):List (List Nat):=
 (az.filter λc=>decide (c≠113/\c≠122)).map (λc=>n.take 7++[c])++az.map (λc=>n.take 6++[c,113])++az.map (λc=>n.take 6++[c,122])
  ++ (az.filter λc=>decide (some c≠n[5]?)).map (λc=>n.take 5++[c,113,122])
theorem F6 {n x:List Nat}(h:x∈sub n):x∈rV n:=by
 unfold sub at h
 unfold rV
 simp only [List.mem_append,List.mem_singleton,List.mem_map,List.mem_filter] at h ⊢
 rcases h with ((⟨c,⟨hc,_⟩,rfl⟩ | ⟨c,hc,rfl⟩) | ⟨c,hc,rfl⟩) | ⟨c,⟨hc,_⟩,rfl⟩
 . exact .inl (.inl (.inl (.inr ⟨c,hc,rfl⟩)))
 . exact .inl (.inl (.inr ⟨c,hc,rfl⟩))
 . exact .inl (.inr ⟨c,hc,rfl⟩)
 . exact .inr ⟨c,hc,rfl⟩
theorem il:az.Nodup:=by decide
theorem hJ {l:List Nat}(hl:l.Nodup) (p q:List Nat):(l.map λc=>p++c::q).Nodup:=by
 induction l with
 | nil=>exact List.nodup_nil
 | cons a l ih=>
  obtain ⟨h1,h2⟩:=List.nodup_cons.mp hl
  rw [List.map_cons,List.nodup_cons]
  refine ⟨λh=>?_,ih h2⟩
  obtain ⟨b,hb,e⟩:=List.mem_map.mp h
  have:=List.append_cancel_left e
  injection this with e1 _
  exact h1 (e1 ▸ hb)
theorem JE {p:List Nat}{a:Nat} : (p++[a]).getLast?=some a:=by simp
theorem DP (n:List Nat):(sub n).Nodup:=by
 unfold sub
 have B0:∀x∈az.map (λc=>n.take 6++[c,113]),x.getLast?=some 113:=λx hx=>by
  obtain ⟨c,_,rfl⟩:=List.mem_map.mp hx
  simp
 have HG:∀x∈az.map (λc=>n.take 6++[c,122]),x.getLast?=some 122:=λx hx=>by
  obtain ⟨c,_,rfl⟩:=List.mem_map.mp hx
  simp
 have HH:∀x∈(az.filter λc=>decide (some c≠n[5]?)).map (λc=>n.take 5++[c,113,122]),x.getLast?=some 122:=λx hx=>by
  obtain ⟨c,_,rfl⟩:=List.mem_map.mp hx
  simp
 have B5:∀x∈(az.filter λc=>decide (c≠113/\c≠122)).map (λc=>n.take 7++[c]),x.getLast?≠some 113/\x.getLast?≠some 122:=λx hx=>by
  obtain ⟨c,hc,rfl⟩:=List.mem_map.mp hx
  obtain ⟨_,hc⟩:=List.mem_filter.mp hc
  have fi:=of_decide_eq_true hc
  rw [JE]
  exact ⟨λe=>fi.1 (Option.some.inj e),λe=>fi.2 (Option.some.inj e)⟩
 refine List.nodup_append.mpr ⟨List.nodup_append.mpr ⟨List.nodup_append.mpr ⟨hJ (il.filter _) _ _,hJ il _ _,?_⟩,hJ il _ _,?_⟩,hJ (il.filter _) _ _,?_⟩
 . intro a ha b hb e
   exact (B5 a ha).1 (e ▸ B0 b hb)
 . intro a ha b hb e
   rcases List.mem_append.mp ha with ha | ha
   . exact (B5 a ha).2 (e ▸ HG b hb)
   . have:=B0 a ha
     rw [e,HG b hb] at this
     cases this
 . intro a ha b hb e
   rcases List.mem_append.mp ha with ha | ha
   . rcases List.mem_append.mp ha with ha | ha
     . exact (B5 a ha).2 (e ▸ HH b hb)
     . have:=B0 a ha
       rw [e,HH b hb] at this
       cases this
   . obtain ⟨c,_,rfl⟩:=List.mem_map.mp ha
     obtain ⟨d,hd,rfl⟩:=List.mem_map.mp hb
     obtain ⟨_,hd⟩:=List.mem_filter.mp hd
     have hd':some d≠n[5]?:=of_decide_eq_true hd
     rcases Nat.lt_or_ge 5 n.length with hl | hl
     . -- both have eight letters
       have e5:(n.take 6++[c,122])[5]?=(n.take 5++[d,113,122])[5]?:=by rw [e]
       have t6:(n.take 6).length=6:=by rw [List.length_take]; omega
       have t5:(n.take 5).length=5:=by rw [List.length_take]; omega
       rw [List.getElem?_append_left (by omega),List.getElem?_append_right (by omega),t5,List.getElem?_take] at e5
       simp at e5
       exact hd' e5.symm
     . have el:=congrArg List.length e
       simp only [List.length_append,List.length_take,List.length_cons,List.length_nil] at el
       omega
theorem B7 (n:List Nat):100<=(sub n).length:=by
 unfold sub
 simp only [List.length_append,List.length_map]
 have h1:az.length=26:=by decide
 have h2:(az.filter λc=>decide (c≠113/\c≠122)).length=24:=by decide
 have h3:25<=(az.filter λc=>decide (some c≠n[5]?)).length:=by
  cases n[5]? with
  | none=>
   have:(az.filter λc=>decide (some c≠none))=az:=List.filter_eq_self.mpr λc _=>by simp
   rw [this,h1]
   decide
  | some d=>
   have e:(az.filter λc=>decide (some c≠some d))=az.filter λc=>c != d:=by
    apply List.filter_congr
    intro c _
    by_cases h:c=d
    . subst h; simp
    . simp [h]
   rw [e]
   by_cases hd:d∈az
   . obtain ⟨a,b⟩:=ju.mp hd
     have:∀k,k<26->25<=(az.filter λc=>c != k+97).length:=by decide
     have:=this (d-97) (by omega)
     rw [show d-97+97=d by omega] at this
     exact this
   . have:(az.filter λc=>c != d)=az:=List.filter_eq_self.mpr λc hc=>by
      have:c≠d:=λe=>hd (e ▸ hc)
      simpa using this
     rw [this,h1]
     decide
 rw [h1,h2]
 omega
theorem DQ (n:List Nat) (told:List (List Nat)) (h:told.length<100):∃x∈rV n,x∉told:=by
 apply Classical.byContradiction
 intro hx
 have all:∀x∈sub n,x∈told:=λx hs=>Classical.byContradiction λht=>hx ⟨x,F6 hs,ht⟩
 have:=xD (sub n) told (DP n) all
 have:=B7 n
 omega
end Gen
namespace Gen
open PySem
theorem vC:("" : Str).cps.toList=[]:=by decide +kernel
theorem O9:("q" : Str).cps.toList=[113]:=by decide +kernel
theorem Pa:("z" : Str).cps.toList=[122]:=by decide +kernel
theorem Lk:("qz" : Str).cps.toList=[113,122]:=by decide +kernel
theorem Am:("abcdefghijklmnopqrstuvwxyz" : Str).cps.toList=az:=by decide +kernel
theorem qo (a b:Str):(a++b).cps.toList=a.cps.toList++b.cps.toList:=by rw [Str.cps_append,Array.toList_append]
theorem xE:∀ys:List Str,(Str.join "" ys).cps.toList=(ys.map (·.cps.toList)).flatten
 | []=>rfl
 | [x]=>by simp [Str.join]
 | x::y::r=>by
  have ih:=xE (y::r)
  show (x ++ "" ++ Str.join "" (y::r)).cps.toList=_
  rw [qo,qo,ih,vC]
  simp
theorem DR (ys:List Str):(Txt.join "" ys).cps.toList=(ys.map (·.cps.toList)).flatten:=by
 unfold Txt.join
 rw [StrLaws.glued_eq_join]
 exact xE ys
def c7 (n:Str):List Str:=az.map λc=>Txt.slice n none (some 7)++⟨#[c]⟩
def HI (n:Str):List Str:=az.map λc=>Txt.slice n none (some 6)++⟨#[c]⟩ ++ "q"
def HJ (n:Str):List Str:=az.map λc=>Txt.slice n none (some 6)++⟨#[c]⟩ ++ "z"
def c5 (n:Str):List Str:=az.map λc=>Txt.slice n none (some 5)++⟨#[c]⟩ ++ "qz"
def cT (n:Str):List Str:=[n]++c7 n++HI n++HJ n++c5 n
theorem vD (n:Str):(cT n).map (·.cps.toList)=rV n.cps.toList:=by
 have s7:=rT n 7
 have s6:=rT n 6
 have s5:=rT n 5
 have e7:((7:Nat):Int)=7:=rfl
 have e6:((6:Nat):Int)=6:=rfl
 have e5:((5:Nat):Int)=5:=rfl
 rw [e7] at s7
 rw [e6] at s6
 rw [e5] at s5
 unfold cT rV c7 HI HJ c5
 simp only [List.map_append,List.map_map,List.map_cons,List.map_nil,Function.comp_def,qo,s7,s6,s5,O9,Pa,Lk,List.append_assoc,List.cons_append,List.nil_append]
theorem JF {a b:Str}(h:a.cps.toList=b.cps.toList):a=b:=Str.ext' (Array.toList_inj.mp h)
def ba (z:Str):Prop:=isName z.cps.toList
theorem B8 {n z:Str}(hn:ba n) (hz:z∈cT n):ba z:=by
 refine DO hn ?_
 rw [← vD]
 exact List.mem_map.mpr ⟨z,hz,rfl⟩
theorem B9 (n:Str) (told:List Str) (h:told.length<100):∃x∈cT n,x∉told:=by
 obtain ⟨x,hx,ht⟩:=DQ n.cps.toList (told.map (·.cps.toList)) (by simpa using h)
 rw [← vD] at hx
 obtain ⟨z,hz,rfl⟩:=List.mem_map.mp hx
 exact ⟨z,hz,λhm=>ht (List.mem_map.mpr ⟨z,hm,rfl⟩)⟩
def eB:List Str:=["switch", "keep", "gate", "next", "never", "some", "wall", "row", "step", "piece", "lasso"]
theorem zN:Txt.split "switch keep gate next never some wall row step piece lasso" " " = eB:=by decide +kernel
theorem zO:∀x∈eB,ba x:=by
 have h:eB.all (λx=>decide (1<=x.cps.toList.length) && decide (x.cps.toList.length<=8) && x.cps.toList.all λc=>decide (c∈az))=true:=by decide +kernel
 intro x hx
 have:=List.all_eq_true.mp h x hx
 simp only [Bool.and_eq_true,decide_eq_true_eq,List.all_eq_true] at this
 exact ⟨this.1.1,this.1.2,this.2⟩
theorem ba.len {z:Str}(h:ba z):z.length<=8:=by
 have:=h.2.1
 simpa [Str.length] using this
theorem zP {ys:List Str}(h1:1<=ys.length) (h2:ys.length<=8) (h:∀y∈ys,∃c∈az,y=⟨#[c]⟩):ba (Txt.join "" ys):=by
 have e:∀zs:List Str,(∀y∈zs,∃c∈az,y=⟨#[c]⟩)->(zs.map (·.cps.toList)).flatten.length=zs.length/\∀c∈(zs.map (·.cps.toList)).flatten,c∈az:=by
  intro zs
  induction zs with
  | nil=>intro _; exact ⟨rfl,λc hc=>by simp at hc⟩
  | cons z zs ih=>
   intro hz
   obtain ⟨c,hc,rfl⟩:=hz z List.mem_cons_self
   obtain ⟨i1,i2⟩:=ih λy hy=>hz y (List.mem_cons_of_mem _ hy)
   refine ⟨?_,λd hd=>?_⟩
   . rw [List.map_cons,List.flatten_cons,List.length_append,i1]
     simp
     omega
   . rw [List.map_cons,List.flatten_cons,List.mem_append] at hd
     rcases hd with hd | hd
     . have:d=c:=by simpa using hd
       rw [this]; exact hc
     . exact i2 d hd
 obtain ⟨e1,e2⟩:=e ys h
 unfold ba isName
 rw [DR,e1]
 exact ⟨h1,h2,e2⟩
end Gen
namespace Gen
open PySem L2
def top (i:Nat):Stmt:=PySem.Challenge.pw_everguard_k43_trees_of_literals.main.body.getD i (.Pass ⟨0,0,0,0⟩)
abbrev qp:Stmt:=top 13
abbrev rW:Stmt:=top 14
abbrev qq:Stmt:=top 15
abbrev j8:Stmt:=top 16
abbrev iY:Stmt:=top 17
abbrev iB:Stmt:=top 18
abbrev ko:Stmt:=top 19
abbrev di:Stmt:=top 20
abbrev fw:Stmt:=top 21
structure Own (mg:Str->Option Value):Prop where
 len:mg "len" = none
 range:mg "range" = none
 enum:mg "enumerate" = none
 list:mg "list" = none
def dw (xs:List V):Prop:=(∃a:Int,xs=[.int a])\/∃a b:Int,xs=[.int a,.int b]
def aO (H H':Hp) (l:Addr):Prop:=∀b o,H b=some o->b≠l->H' b=some o
theorem aO.trans {H H1 H2:Hp}{l:Addr}(a:aO H H1 l) (b:aO H1 H2 l):aO H H2 l:=λc o h n=>b c o (a c o h n) n
theorem ak.keep {H H':Hp}(s:ak H H') (l:Addr):aO H H' l:=λb o h _=>s b o h
theorem aO.au {H:Hp}{l p:Addr}{o:HO}(hp:H p=none):aO H (upd H p o) l:=λb u h _=>by rw [ag (ae h hp)]; exact h
theorem ak.au {H:Hp}{p:Addr}{o:HO}(hp:H p=none):ak H (upd H p o):=λb u h=>by rw [ag (ae h hp)]; exact h
theorem aO.DS {H:Hp}{l:Addr}{o:HO} : aO H (upd H l o) l:=λb u h n=>by rw [ag n]; exact h
theorem aO.seq {K:W.Frag}{H H':Hp}{a l:Addr}{xs:List V}{n:List V}(e:aO H H' l) (hl:H l=some (.lst n)) (h:av K H a xs) (cJ:a≠l):av K H' a xs:=by
 rcases h with (h | ⟨o,h⟩) | h
 . exact .inl (.inl (e a _ h cJ))
 . exact .inl (.inr ⟨o,e a _ h cJ⟩)
 . exact .inr h
inductive An (K:W.Frag) (vs:List V) (H:Hp) (Q:VK):Prop
 | mk (a:Addr) (ns:List Int) (k:Int) (h1:vs=[.ref a,.int k]) (h2:av K H a (ns.map V.int)) (h3:0<=k) (h4:∀v:Int,Q (.int v) H):An K vs H Q
def xF (K:W.Frag):Sp:=λvs H Q _=>An K vs H Q
inductive DT (vs:List V) (H:Hp) (Q:VK):Prop
 | mk (c k:Int) (h1:vs=[.int c,.int k]) (h2:0<=k) (h3:k<=1000000) (h4:∀v:Int,0<=v->v<1999999973->Q (.int v) H):DT vs H Q
def HK:Sp:=λvs H Q _=>DT vs H Q
inductive Ao (vs:List V) (H:Hp) (Q:VK):Prop
 | mk (c k:Int) (h1:vs=[.int c,.int k]) (h2:0<=k) (h3:k<=1000) (h4:∀v:Int,Q (.int v) H):Ao vs H Q
def tQ:Sp:=λvs H Q _=>Ao vs H Q
inductive Ap (vs:List V) (H:Hp) (Q:VK):Prop
 | mk (l:Addr) (xs:List V) (m:Int) (h1:vs=[.ref l,.int m]) (h2:H l=some (.lst xs)) (h3:dw xs) (h4:0<m) (h5:m<1073741824) (h6:∀(d:Int) (ys:List V) (H':Hp),0<=d->d<m->dw ys->H' l=some (.lst ys)->aO H H' l->Q (.int d) H'):Ap vs H Q
def o8:Sp:=λvs H Q _=>Ap vs H Q
section
variable {P:Program}{w:World}{K:W.Frag}{mg:Str->Option Value}{base:Heap}
theorem Ll:aY ["_law_script", "_law_k"] ["_law_script", "_law_k"] (ar qp):=⟨rfl,rfl,rfl,by decide +kernel,rfl,by decide +kernel,by decide +kernel⟩
theorem JG {f:Addr}{fd:FuncData}(F:cq K "_law_cell_at" "_law_cell_at" qp f fd) (T:Own mg):ax P w K mg base aD 1 f fd ["_law_script", "_law_k"] (xF K):=by
 refine F.ok Ll (λvs H Q E h=>?_) (λcdv A outer s H vs Q E hr h=>?_)
 . obtain ⟨a,ns,k,rfl,_⟩:=h
   rfl
 . obtain ⟨a,ns,k,rfl,hS,h0,kk⟩:=h
   refine ⟨_,ai (cS (cN Ht (pv 1) (bG cw (by rfl) T.len PySem.boot_len (aa (pv 0) ah)) (dh _)) (aw (aW (aP br (pv 0) (pv 1) (λ_ _=>rfl)))) bz)
    (aw (aW aq)),?_⟩
   refine ⟨_,rfl,_,rfl,a,_,rfl,.inl hS,_,_,rfl,rfl,_,rfl,?_⟩
   refine jS (λhc=>?_) (λ_=>kk 0)
   have fi:k<((ns.map V.int).length:Int):=of_decide_eq_true hc
   rw [List.length_map] at fi
   have hk:k.toNat<ns.length:=by omega
   have e:((k.toNat:Nat):Int)=k:=by omega
   have DU:jD (ns.map V.int) ((k.toNat:Nat):Int)=some (.int ns[k.toNat]):=a0 (by rw [List.getElem?_map,List.getElem?_eq_getElem hk]; rfl)
   rw [e] at DU
   exact ⟨_,rfl,_,rfl,a,_,_,.int ns[k.toNat],rfl,rfl,hS,DU,kk _⟩
theorem HL:aY ["_law_cell", "_law_k", "_law_m"] ["_law_cell", "_law_k"] (ar rW):=⟨rfl,rfl,rfl,by decide +kernel,rfl,by decide +kernel,by decide +kernel⟩
theorem Lm {f:Addr}{fd:FuncData}(F:cq K "_law_mix" "_law_mix" rW f fd):ax P w K mg base aD 1 f fd ["_law_cell", "_law_k"] HK:=by
 refine F.ok HL (λvs H Q E h=>?_) (λcdv A outer s H vs Q E hr h=>?_)
 . obtain ⟨c,k,rfl,_⟩:=h
   rfl
 . obtain ⟨c,k,rfl,h0,h1,kk⟩:=h
   refine ⟨_,ai (aE (i:=2) HL.nd rfl (Or.inl rfl) (aK kF (aK iT (aK fJ (aK fJ (aK kF (pv 0) aq) (aK iT (aK iT (pv 1) (pv 1)) aq)) aq) aq) aq))
    (aw (aW (aK kF (aK iT (pv 2) (pv 2)) aq))),?_⟩
   refine ⟨_,rfl,_,_,rfl,rfl,(by show (0:Int)<2147483629; decide),_,rfl,_,rfl,_,_,rfl,rfl,.inl ⟨by omega,by omega⟩,_,_,rfl,rfl,.inr ⟨by decide,by decide⟩,_,_,rfl,rfl,_,_,rfl,rfl,
    _,_,rfl,rfl,.inr ⟨by decide,by decide⟩,_,_,rfl,rfl,(by show (0:Int)<2147483647; decide),?_⟩
   generalize hm:((c % 2147483629+k*k*7919+11)*48271 % 2147483647:Int)=m
   have m0:0<=m:=by rw [← hm]; exact Int.emod_nonneg _ (by decide)
   have m1:m<2147483647:=by rw [← hm]; exact Int.emod_lt_of_pos _ (by decide)
   refine ⟨_,rfl,_,rfl,_,_,rfl,rfl,.inl ⟨by omega,by omega⟩,_,_,rfl,rfl,(by show (0:Int)<1999999973; decide),?_⟩
   exact kk _ (Int.emod_nonneg _ (by decide)) (Int.emod_lt_of_pos _ (by decide))
theorem tS:aY ["_law_cell", "_law_k", "_law_number", "_law_j"] ["_law_cell", "_law_k"] (ar qq):=⟨rfl,rfl,rfl,by decide +kernel,rfl,by decide +kernel,by decide +kernel⟩
theorem JH {f fM:Addr}{fd Ln:FuncData}(F:cq K "_law_rich" "_law_rich" qq f fd) (T:Own mg) (FM:cq K "_law_mix" "_law_mix" rW fM Ln) (bM:Binds K Ln ["_law_cell", "_law_k"] []) (mM:mg "_law_mix" = some (.ref fM)) :
 ax P w K mg base aD 2 f fd ["_law_cell", "_law_k"] tQ:=by
 have GM:ax P w K mg base aD 1 fM Ln ["_law_cell", "_law_k"] HK:=Lm FM
 refine F.ok tS (λvs H Q E h=>?_) (λcdv A outer s H vs Q E hr h=>?_)
 . obtain ⟨c,k,rfl,_⟩:=h
   rfl
 . obtain ⟨c,k,rfl,h0,h1,kk⟩:=h
   refine ⟨_,ai (aE (i:=2) tS.nd rfl (Or.inl rfl) aq)
    (ai (dG PassesOwn.never rfl (fj rfl T.range (aa aq ah)) (aF (i:=3) tS.nd rfl (Or.inl rfl))
     (aw (aE (i:=2) tS.nd rfl (Or.inl rfl) (aK fJ (aK iT (pv 2) aq) (aB GM hr rfl mM FM.kp bM .nil aA (aa (pv 0) (aa (aK fJ (aK iT aq (pv 1)) (pv 3)) ah)))))))
    (aw (aW (pv 2)))),?_⟩
   refine ⟨12,rfl,by decide,by decide,iE (n:=12) (λi σ H2=>H2=H/\∃(n:Int) (v:Option V),σ=[some (.int c),some (.int k),some (.int n),v]) ⟨rfl,0,none,rfl⟩ ?_ ?_⟩
   . rintro i σ H2 hi ⟨rfl,n,v,rfl⟩
     refine ⟨_,rfl,_,_,rfl,rfl,.inr ⟨by decide,by decide⟩,_,rfl,_,rfl,_,_,rfl,rfl,.inl ⟨by decide,by decide⟩,_,rfl,_,_,rfl,rfl,?_⟩
     refine ⟨_,_,rfl,by omega,by omega,λv R7 hv1=>⟨_,_,rfl,rfl,rfl,_,_,rfl⟩⟩
   . rintro σ H2 ⟨rfl,n,v,rfl⟩
     exact ⟨_,rfl,kk n⟩
theorem DV:aY ["_law_left", "_law_many", "_law_digit"] ["_law_left", "_law_many"] (ar j8):=⟨rfl,rfl,rfl,by decide +kernel,rfl,by decide +kernel,by decide +kernel⟩
theorem uR {f:Addr}{fd:FuncData}(F:cq K "_law_pick" "_law_pick" j8 f fd) (T:Own mg):ax P w K mg base aD 1 f fd ["_law_left", "_law_many"] o8:=by
 refine F.ok DV (λvs H Q E h=>?_) (λcdv A outer s H vs Q E hr h=>?_)
 . obtain ⟨l,xs,m,rfl,_⟩:=h
   rfl
 . obtain ⟨l,xs,m,rfl,hl,hp,m0,m1,kk⟩:=h
   refine ⟨_,ai (aE (i:=2) DV.nd rfl (Or.inl rfl) (aK kF (aP br (pv 0) aq (λ_ _=>rfl)) (pv 1)))
    (ai (KH (aK pZ (aP br (pv 0) aq (λ_ _=>rfl)) (pv 1)) (KD (pv 0) aq set_list))
    (aw (aW (pv 2)))),?_⟩
   rcases hp with ⟨a,rfl⟩ | ⟨a,b,rfl⟩
   . refine ⟨_,rfl,l,_,_,.int a,rfl,rfl,av.of hl,rfl,_,rfl,_,_,rfl,rfl,m0,?_⟩
     refine ⟨_,rfl,l,_,_,.int a,rfl,rfl,av.of hl,rfl,_,rfl,_,_,rfl,rfl,⟨m0,m1⟩,_,rfl,l,_,_,0,rfl,rfl,hl,rfl,?_⟩
     exact ⟨_,rfl,kk _ _ _ (Int.emod_nonneg _ (by omega)) (Int.emod_lt_of_pos _ m0) (.inl ⟨_,rfl⟩) af aO.DS⟩
   . refine ⟨_,rfl,l,_,_,.int a,rfl,rfl,av.of hl,rfl,_,rfl,_,_,rfl,rfl,m0,?_⟩
     refine ⟨_,rfl,l,_,_,.int a,rfl,rfl,av.of hl,rfl,_,rfl,_,_,rfl,rfl,⟨m0,m1⟩,_,rfl,l,_,_,0,rfl,rfl,hl,rfl,?_⟩
     exact ⟨_,rfl,kk _ _ _ (Int.emod_nonneg _ (by omega)) (Int.emod_lt_of_pos _ m0) (.inr ⟨_,_,rfl⟩) af aO.DS⟩
end
end Gen
namespace Gen
open PySem L2
theorem small {n:Nat}(h:n<=1000):n<sizeLine:=vB h
theorem fU {n:Nat}(h:n<=1000):n<=sizeLine:=Nat.le_of_lt (vB h)
inductive xG (K:W.Frag) (vs:List V) (H:Hp) (Q:VK):Prop
 | mk (l t:Addr) (xs:List V) (told:List Str) (h1:vs=[.ref l,.ref t]) (h2:H l=some (.lst xs)) (h3:dw xs) (h4:t≠l) (h5:av K H t (told.map V.str)) (h6:told.length<100) (h7:∀(z:Str) (ys:List V) (H':Hp),ba z->z∉told->dw ys->H' l=some (.lst ys)->aO H H' l->Q (.str z) H'):xG K vs H Q
def qr (K:W.Frag):Sp:=λvs H Q _=>xG K vs H Q
theorem uS (z:Str) (told:List Str):tH (.str z) (told.map V.str)=decide (z∈told):=by
 unfold tH
 rw [Bool.eq_iff_iff,List.any_eq_true,decide_eq_true_eq]
 constructor
 . rintro ⟨v,hv,e⟩
   obtain ⟨y,hy,rfl⟩:=List.mem_map.mp hv
   have:y=z:=by simpa [iG] using e
   rw [← this]; exact hy
 . intro h
   exact ⟨.str z,List.mem_map.mpr ⟨z,h,rfl⟩,by simp [iG]⟩
theorem vF (told:List Str):(told.map V.str).all iW=true:=by
 rw [List.all_eq_true]
 intro v hv
 obtain ⟨y,_,rfl⟩:=List.mem_map.mp hv
 rfl
theorem DW {i:Nat}{c:Nat}(h:("abcdefghijklmnopqrstuvwxyz" : Str).cps[i]?=some c):az[i]?=some c:=by
 rw [← Am]
 simpa using h
theorem o9 {α β:Type}{l:List α}{i:Nat}{c:α}(f:α->β) (h:l[i]?=some c):(l.take (i+1)).map f=(l.take i).map f++[f c]:=by
 rw [List.take_add_one,h]
 simp
theorem d5 {i:Nat}{x:V}{σ:St}{H:Hp}{A B:St->Hp->Prop}(h:A (σ.set i (some x)) H):eS i x σ H (λiu H2=>kY iu H2 (λb H3=>if b=true then A iu H3 else B iu H3)):=by
 show (if true=true then A (σ.set i (some x)) H else B (σ.set i (some x)) H)
 rw [if_pos rfl]
 exact h
theorem Pb:(["_law_k", "_law_left", "_law_letters"]:List Str).Nodup:=by decide +kernel
theorem Ca:(["_law_one", "_law_name"]:List Str).Nodup:=by decide +kernel
theorem Vd:(["_law_one", "_law_told"]:List Str).Nodup:=by decide +kernel
section
variable {P:Program}{w:World}{K:W.Frag}{mg:Str->Option Value}{base:Heap}
abbrev DX:List Str:=["_law_left", "_law_told", "_law_letters", "_law_words", "_law_size", "_law_name", "_law_some"]
theorem iH:aY DX ["_law_left", "_law_told"] (ar iY):=⟨rfl,rfl,rfl,by decide +kernel,rfl,by decide +kernel,by decide +kernel⟩
theorem j9 {D:Addr}{te:TE}{Q:Hp->Prop}{H1:Hp}{nm:Str}(f:Nat->Str) (hD:H1 D=none)
 (he:∀(c:Nat) (H:Hp) (R:VK),c∈az->R (.str (f c)) H->te [some (.str ⟨#[c]⟩),some (.str nm)] H R)
 (fin:Q (upd H1 D (.lst ((az.map f).map V.str)))) :
 ∃W:Nat->Nat->St->Hp->Prop,(∃m,W 0 m [none,some (.str nm)] (upd H1 D (.lst [])))/\tL D (eS 0) kY te (Li "abcdefghijklmnopqrstuvwxyz") W Q:=by
 have hsz:("abcdefghijklmnopqrstuvwxyz" : Str).cps.size=26:=by decide +kernel
 have DY:az.length=26:=by decide
 refine gZ 26 (λi acc σ H=>acc=((az.take i).map f).map V.str/\(∃v,σ=[v,some (.str nm)])/\H=upd H1 D (.lst acc)) ⟨rfl,⟨none,rfl⟩,rfl⟩ af ?_ ?_
 . rintro acc σ H _ ⟨rfl,_,rfl⟩
   refine ⟨hsz.symm,?_⟩
   rw [List.take_of_length_le (by rw [DY]; decide)]
   exact fin
 . rintro i acc σ H hi dc ⟨rfl,⟨v,rfl⟩,rfl⟩
   refine ⟨by show i<_; rw [hsz]; exact hi,?_⟩
   rintro x H' ⟨rfl,c,hc,rfl⟩
   have fi:=DW hc
   refine d5 ?_
   refine he c _ _ (List.mem_of_getElem? fi) ?_
   refine ⟨_,af,?_,cX hi af ⟨?_,⟨_,rfl⟩,?_⟩⟩
   . rw [List.length_map,List.length_map,List.length_take]
     exact small (by omega)
   . rw [o9 f fi,List.map_append]
     rfl
   . rw [eV]
theorem xH:∀zs:List Str,(∀y∈zs,∃c∈az,y=⟨#[c]⟩)->(zs.map (·.length)).sum=zs.length
 | [],_=>rfl
 | z::zs,h=>by
  obtain ⟨c,_,rfl⟩:=h z List.mem_cons_self
  have ih:=xH zs λy hy=>h y (List.mem_cons_of_mem _ hy)
  rw [List.map_cons,List.sum_cons,ih,List.length_cons]
  show 1+zs.length=zs.length+1
  omega
theorem rX (n:Str) (h:ba n) (k:Int):(Txt.slice n none (some k)).length<=8:=Nat.le_trans (Txt.slice_le n _ _) h.len
theorem kZ (c:Nat):(⟨#[c]⟩:Str).length=1:=rfl
theorem tT (a b:Str):(a++b).length=a.length+b.length:=Str.length_append a b
theorem iq {n:Nat}(h:n<=100):n<=sizeLine:=Nat.le_trans h (by decide)
abbrev JI (P:Program) (w:World) (K:W.Frag) (mg:Str->Option Value) (base:Heap) (f:Addr) (cdv:Value) (A:Around) (outer:List Env) (s:Shared) (H:Hp) (E:XK):Cx:=
 (nE aD P w K mg base DX "_law_spelt" (ar iY) f cdv A outer s H E).xf
abbrev vG:Str:="abcdefghijklmnopqrstuvwxyz"
theorem Cb {f:Addr}{cdv:Value}{A:Around}{outer:List Env}{s:Shared}{H:Hp}{E:XK}{Q:VK}{l t:Addr}{told:List Str}(hS:av K H t (told.map V.str)) (cJ:t≠l) (eW:told.length<100) (qV:∃xs,H l=some (.lst xs))
 (kk:∀(z:Str) (ys:List V) (H':Hp),ba z->z∉told->dw ys->H' l=some (.lst ys)->aO H H' l->Q (.str z) H') :
 ∃tR:TS,iP (JI P w K mg base f cdv A outer s H E) (List.drop 5 (aI iY)) tR/\∀(nm:Str) (ys:List V) (H4:Hp) (w1:Addr) (sz:Int),ba nm->dw ys->H4 l=some (.lst ys)->aO H H4 l->
  tR { nx:=λ_ H'=>Q .aQ H',rt:=Q } [some (.ref l),some (.ref t),some (.str vG),some (.ref w1),some (.int sz),some (.str nm),none] H4:=by
 refine ⟨_,ai (aE (i:=6) iH.nd rfl (Or.inl rfl) (aK fQ (aK fQ (cP (aa (pv 5) ah))
  (eT (N:=["_law_one", "_law_name"]) (js:=[none,some 5]) (by kernel_rfl) rfl (tM (pv 2)) (λ_ _ _ _ _ _=>aF (i:=0) Ca rfl (Or.inl rfl) (.inr rfl)) (λ_ _ _ _ _ _=>cm)
   (λ_ _ _ _ _ _=>aK dX (eu tN (pv 1) eY (eZ aq)) (pv 0))))
  (eT (N:=["_law_one", "_law_name"]) (js:=[none,some 5]) (by kernel_rfl) rfl (tM (pv 2)) (λ_ _ _ _ _ _=>aF (i:=0) Ca rfl (Or.inl rfl) (.inr rfl)) (λ_ _ _ _ _ _=>cm)
   (λ_ _ _ _ _ _=>aK dX (aK dX (eu tN (pv 1) eY (eZ aq)) (pv 0)) aU))))
  (ai (aE (i:=6) iH.nd rfl (Or.inl rfl) (aK fQ (aK fQ (pv 6)
   (eT (N:=["_law_one", "_law_name"]) (js:=[none,some 5]) (by kernel_rfl) rfl (tM (pv 2)) (λ_ _ _ _ _ _=>aF (i:=0) Ca rfl (Or.inl rfl) (.inr rfl)) (λ_ _ _ _ _ _=>cm)
    (λ_ _ _ _ _ _=>aK dX (aK dX (eu tN (pv 1) eY (eZ aq)) (pv 0)) aU)))
   (eT (N:=["_law_one", "_law_name"]) (js:=[none,some 5]) (by kernel_rfl) rfl (tM (pv 2)) (λ_ _ _ _ _ _=>aF (i:=0) Ca rfl (Or.inl rfl) (.inr rfl)) (λ_ _ _ _ _ _=>cm)
    (λ_ _ _ _ _ _=>aK dX (aK dX (eu tN (pv 1) eY (eZ aq)) (pv 0)) aU))))
  (aw (aW (aP br
   (eT (N:=["_law_one", "_law_told"]) (js:=[none,some 1]) (by kernel_rfl) rfl (cG (pv 6)) (λ_ _ _ _ _ _=>aF (i:=0) Vd rfl (Or.inl rfl) (.inr rfl))
    (λ_ _ _ _ _ _=>FX (cN (r:=K4 K true) xu (pv 0) (pv 1) (by with_unfolding_all rfl))) (λ_ _ _ _ _ _=>pv 0)) aq (λ_ _=>rfl))))),?_⟩
 intro nm ys H4 w1 sz hn hp xI i9
 have qY:∀g:Nat->Str,((az.map g).map V.str).length=26:=λg=>by rw [List.length_map,List.length_map]; decide
 have h8:∀k:Int,nm.length<=sizeLine:=λ_=>iq (Nat.le_trans hn.len (by decide))
 refine ⟨_,rfl,(by show 1<=sizeLine; decide),λp1 ZA=>?_⟩
 refine ⟨_,rfl,vG,rfl,λD1 Lo=>j9 (nm:=nm) (λc=>Txt.slice nm none (some 7)++⟨#[c]⟩) Lo (λc H R hc hR=>?_) ?_⟩
 . refine ⟨_,rfl,_,rfl,nm,7,rfl,rfl,rfl,h8 0,_,rfl,_,_,rfl,rfl,?_,hR⟩
   have:=rX nm hn 7
   rw [kZ]
   exact iq (by omega)
 have n1:p1≠D1:=ae (af (H:=H4)) Lo
 refine ⟨p1,D1,_,_,rfl,rfl,(by rw [ag n1,af]),af,?_,λp2 dQ=>?_⟩
 . rw [qY]
   exact iq (by show 1+26<=100; decide)
 refine ⟨_,rfl,vG,rfl,λD2 pe=>j9 (nm:=nm) (λc=>Txt.slice nm none (some 6)++⟨#[c]⟩ ++ "q") pe (λc H R hc hR=>?_) ?_⟩
 . refine ⟨_,rfl,_,rfl,nm,6,rfl,rfl,rfl,h8 0,_,rfl,_,_,rfl,rfl,?_,_,_,rfl,rfl,?_,hR⟩
   . have:=rX nm hn 6
     rw [kZ]
     exact iq (by omega)
   . have:=rX nm hn 6
     have e1:("q" : Str).length=1:=by decide +kernel
     rw [tT,kZ,e1]
     exact iq (by omega)
 have n2:p2≠D2:=ae (af (H:=_)) pe
 refine ⟨p2,D2,_,_,rfl,rfl,(by rw [ag n2,af]),af,?_,λp3 lJ=>?_⟩
 . rw [List.length_append,qY,qY]
   exact iq (by show 1+26+26<=100; decide)
 refine ⟨_,rfl,_,rfl,vG,rfl,λD3 vH=>j9 (nm:=nm) (λc=>Txt.slice nm none (some 6)++⟨#[c]⟩ ++ "z") vH (λc H R hc hR=>?_) ?_⟩
 . refine ⟨_,rfl,_,rfl,nm,6,rfl,rfl,rfl,h8 0,_,rfl,_,_,rfl,rfl,?_,_,_,rfl,rfl,?_,hR⟩
   . have:=rX nm hn 6
     rw [kZ]
     exact iq (by omega)
   . have:=rX nm hn 6
     have e1:("z" : Str).length=1:=by decide +kernel
     rw [tT,kZ,e1]
     exact iq (by omega)
 have n3:p3≠D3:=ae (af (H:=_)) vH
 refine ⟨p3,D3,_,_,rfl,rfl,(by rw [ag n3,af]),af,?_,λp4 jX=>?_⟩
 . rw [List.length_append,List.length_append,qY,qY,qY]
   exact iq (by show 1+26+26+26<=100; decide)
 refine ⟨_,rfl,vG,rfl,λD4 Lp=>j9 (nm:=nm) (λc=>Txt.slice nm none (some 5)++⟨#[c]⟩ ++ "qz") Lp (λc H R hc hR=>?_) ?_⟩
 . refine ⟨_,rfl,_,rfl,nm,5,rfl,rfl,rfl,h8 0,_,rfl,_,_,rfl,rfl,?_,_,_,rfl,rfl,?_,hR⟩
   . have:=rX nm hn 5
     rw [kZ]
     exact iq (by omega)
   . have:=rX nm hn 5
     have e1:("qz" : Str).length=2:=by decide +kernel
     rw [tT,kZ,e1]
     exact iq (by omega)
 have n4:p4≠D4:=ae (af (H:=_)) Lp
 refine ⟨p4,D4,_,_,rfl,rfl,(by rw [ag n4,af]),af,?_,λp5 jY=>?_⟩
 . rw [List.length_append,List.length_append,List.length_append,qY,qY,qY,qY]
   exact fU (by show 1+26+26+26+26<=1000; decide)
 have Ve:[V.str nm]++((az.map λc=>Txt.slice nm none (some 7)++⟨#[c]⟩).map V.str)++((az.map λc=>Txt.slice nm none (some 6)++⟨#[c]⟩ ++ "q").map V.str)++((az.map λc=>Txt.slice nm none (some 6)++⟨#[c]⟩ ++ "z").map V.str)
  ++ ((az.map λc=>Txt.slice nm none (some 5)++⟨#[c]⟩ ++ "qz").map V.str)=(cT nm).map V.str:=by
  unfold cT c7 HI HJ c5
  simp only [List.map_append,List.map_cons,List.map_nil]
 rw [Ve]
 have sm:∀o5,ak H4 (upd (upd (upd (upd (upd (upd (upd (upd (upd H4 p1 _) D1 _) p2 _) D2 _) p3 _) D3 _) p4 _) D4 _) p5 o5):=λo5=>
  (((((((((ak.au ZA).trans (ak.au Lo)).trans (ak.au dQ)).trans (ak.au pe)).trans (ak.au lJ)).trans (ak.au vH)).trans (ak.au jX)).trans (ak.au Lp)).trans (ak.au jY))
 have Lq:=sm (.lst ((cT nm).map V.str))
 generalize hG:upd _ p5 (HO.lst ((cT nm).map V.str))=G at *
 have Lr:G p5=some (.lst ((cT nm).map V.str)):=by rw [← hG,af]
 refine ⟨_,rfl,p5,rfl,⟨_,av.of Lr⟩,λD hD=>?_⟩
 obtain ⟨xs0,qV⟩:=qV
 have np:p5≠D:=ae Lr hD
 have h5:∀o,(upd G D o) p5=some (.lst ((cT nm).map V.str)):=λo=>by rw [ag np]; exact Lr
 have ZC:∀o,av K (upd G D o) t (told.map V.str):=λo=>ak.seq (ak.au hD) (ak.seq Lq (i9.seq qV hS cJ))
 refine gZ (cT nm).length (λi acc σ H=>acc=(((cT nm).take i).filter λz=>!decide (z∈told)).map V.str/\(∃v,σ=[v,some (.ref t)])/\H=upd G D (.lst acc)) ⟨rfl,⟨none,rfl⟩,rfl⟩ af ?_ ?_
 . rintro acc σ H5 _ ⟨rfl,_,rfl⟩
   refine ⟨⟨_,av.of (h5 _),by simp⟩,?_⟩
   rw [List.take_length]
   obtain ⟨z,hz,HM⟩:=B9 nm told eW
   have R8:z∈(cT nm).filter λz=>!decide (z∈told):=List.mem_filter.mpr ⟨hz,by simp [HM]⟩
   cases R9:(cT nm).filter λz=>!decide (z∈told) with
   | nil=>rw [R9] at R8; cases R8
   | cons z0 r=>
    have h0:z0∈(cT nm).filter λz=>!decide (z∈told):=by rw [R9]; exact List.mem_cons_self
    obtain ⟨m1,m2⟩:=List.mem_filter.mp h0
    have m3:z0∉told:=by simpa using m2
    have sl:G l=some (.lst ys):=Lq l _ xI
    have nl:l≠D:=ae sl hD
    exact ⟨D,_,0,.str z0,rfl,rfl,av.of af,(a0 (j:=0) (by rfl):jD _ ((0:Nat):Int)=_),kk z0 ys _ (B8 hn m1) m3 hp (by rw [ag nl]; exact sl) ((i9.trans (ak.keep Lq l)).trans (aO.au hD))⟩
 . rintro i acc σ H5 hi dc ⟨rfl,⟨v,rfl⟩,rfl⟩
   have pf:(cT nm)[i]?=some (cT nm)[i]:=List.getElem?_eq_getElem hi
   have hx:((cT nm).map V.str)[i]?=some (.str (cT nm)[i]):=by rw [List.getElem?_map,pf]; rfl
   refine ⟨⟨_,_,av.of (h5 _),hx⟩,?_⟩
   rintro x H' ⟨rfl,iz⟩
   have ex:=iz _ (av.of (h5 _))
   rw [hx] at ex
   cases ex
   refine ⟨_,rfl,_,rfl,t,_,rfl,.inl (ZC _),rfl,vF told,_,rfl,?_⟩
   have Vf:∀j,((((cT nm).take j).filter λz=>!decide (z∈told)).map V.str).length<sizeLine:=λj=>by
    rw [List.length_map]
    refine Nat.lt_of_le_of_lt (List.length_filter_le _ _) ?_
    rw [List.length_take]
    have:(cT nm).length=105:=by
     unfold cT c7 HI HJ c5
     simp only [List.length_append,List.length_map,List.length_singleton]
     decide
    exact small (by omega)
   refine jS (λh=>?_) (λh=>?_)
   . have tU:(cT nm)[i]∉told:=by simpa [uS] using h
     refine ⟨_,rfl,_,af,Vf i,cX hi af ⟨?_,⟨_,rfl⟩,by rw [eV]⟩⟩
     rw [take_succ_filter _ _ _ _ pf,if_pos (by simp [tU]),List.map_append]
     rfl
   . have tU:(cT nm)[i]∈told:=by simpa [uS] using h
     refine cX hi af ⟨?_,⟨_,rfl⟩,rfl⟩
     rw [take_succ_filter _ _ _ _ pf,if_neg (by simp [tU]),List.append_nil]
theorem xJ {f fP:Addr}{fd qZ:FuncData}(F:cq K "_law_spelt" "_law_spelt" iY f fd) (T:Own mg) (FP:cq K "_law_pick" "_law_pick" j8 fP qZ) (bP:Binds K qZ ["_law_left", "_law_many"] []) (mP:mg "_law_pick" = some (.ref fP)) :
 ax P w K mg base aD 2 f fd ["_law_left", "_law_told"] (qr K):=by
 have GP:ax P w K mg base aD 1 fP qZ ["_law_left", "_law_many"] o8:=uR FP T
 refine F.ok iH (λvs H Q E h=>?_) (λcdv A outer s H vs Q E hr h=>?_)
 . obtain ⟨l,t,xs,told,rfl,_⟩:=h
   rfl
 . obtain ⟨l,t,xs,told,rfl,hl,hp,cJ,hS,eW,kk⟩:=h
   obtain ⟨tR,hR,rR⟩:=Cb (P:=P) (w:=w) (mg:=mg) (base:=base) (f:=f) (cdv:=cdv) (A:=A) (outer:=outer) (s:=s) (E:=E) hS cJ eW ⟨xs,hl⟩ kk
   refine ⟨_,ai (aE (i:=2) iH.nd rfl (Or.inr rfl) aU)
    (ai (aE (i:=3) iH.nd rfl (Or.inl rfl) (ft PySem.F.plainAttrs_str PySem.F.slot_str_split PySem.F.type_str_split F2 aU (aa aU ah)))
    (ai (aE (i:=4) iH.nd rfl (Or.inl rfl) (aK fJ aq (aB GP hr rfl mP FP.kp bP .nil aA (aa (pv 0) (aa aq ah)))))
    (ai (aE (i:=5) iH.nd rfl (Or.inr rfl) (aP br (pv 3) (aB GP hr rfl mP FP.kp bP .nil aA (aa (pv 0) (aa aq ah))) (λ_ _=>rfl)))
    (ai (cS (cN Ht (pv 4) aq (dh _))
     (aw (aE (i:=5) iH.nd rfl (Or.inr rfl) (ft PySem.F.plainAttrs_str PySem.F.slot_str_join PySem.F.type_str_join JC aU (aa
      (eT (N:=["_law_k", "_law_left", "_law_letters"]) (js:=[none,some 0,some 2]) (by kernel_rfl) rfl (fj rfl T.range (aa (pv 4) ah)) (λ_ _ _ _ _ _=>aF (i:=0) Pb rfl (Or.inl rfl) (.inr rfl)) (λ_ _ _ _ _ _=>cm)
       (λ_ _ _ _ _ _=>aP tG (pv 2) (aB GP hr rfl mP FP.kp bP .nil aA (aa (pv 1) (aa aq ah))) (λ_ _=>rfl))) ah)))) bz) hR)))),?_⟩
   refine ⟨rfl,_,_,rfl,rfl,(by decide +kernel),(by decide +kernel),(by decide +kernel),λw1 Sa=>?_⟩
   rw [zN]
   have nw:l≠w1:=ae hl Sa
   refine ⟨_,rfl,l,xs,9,rfl,(by rw [ag nw]; exact hl),hp,by decide,by decide,λd ys H2 d0 d1 dQ cV kp2=>⟨_,_,rfl,rfl,?_⟩⟩
   have HN:H2 w1=some (.lst (eB.map V.str)):=kp2 w1 _ af (Ne.symm nw)
   refine ⟨_,rfl,_,rfl,l,ys,11,rfl,cV,dQ,by decide,by decide,λd2 jE H3 e0 e1 lJ pj iI=>?_⟩
   have HP:H3 w1=some (.lst (eB.map V.str)):=iI w1 _ HN (Ne.symm nw)
   have Ls:aO H H3 l:=((aO.au Sa).trans kp2).trans iI
   have hlen:eB.length=11:=by decide +kernel
   have hd2:d2.toNat<eB.length:=by rw [hlen]; omega
   have ZD:((d2.toNat:Nat):Int)=d2:=by omega
   have DU:jD (eB.map V.str) ((d2.toNat:Nat):Int)=some (.str eB[d2.toNat]):=a0 (by rw [List.getElem?_map,List.getElem?_eq_getElem hd2]; rfl)
   rw [ZD] at DU
   have xK:ba eB[d2.toNat]:=zO _ (List.getElem_mem hd2)
   refine ⟨w1,_,_,.str eB[d2.toNat],rfl,rfl,av.of HP,DU,?_⟩
   refine ⟨_,rfl,_,_,rfl,rfl,_,rfl,?_⟩
   refine jS (λhc=>?_) (λ_=>?_)
   . have fi:(1:Int)+d<9:=of_decide_eq_true hc
     refine ⟨rfl,_,rfl,_,rfl,by omega,by omega,λD hD=>?_⟩
     have nD:l≠D:=ae pj hD
     refine gZ (1+d).toNat (λi acc σ H'=>∃(zs:List Str) (v:Option V) (xM:List V),acc=zs.map V.str/\zs.length=i/\(∀y∈zs,∃c∈az,y=⟨#[c]⟩)/\σ=[v,some (.ref l),some (.str vG)]/\dw xM/\H' l=some (.lst xM)/\aO H3 H' l)
      ⟨[],none,jE,rfl,rfl,λy hy=>(by cases hy),rfl,lJ,(by rw [ag nD]; exact pj),aO.au hD⟩ af ?_ ?_
     . rintro acc σ H4 dc ⟨zs,v,xM,rfl,DZ,hz,rfl,jX,xI,i9⟩
       refine ⟨Nat.le_refl _,?_⟩
       refine ⟨"",D,zs,rfl,rfl,av.of dc,?_,?_⟩
       . rw [xH zs hz]
         have e0:("" : Str).length=0:=by decide +kernel
         rw [e0]
         omega
       . exact rR _ xM H4 w1 _ (zP (by omega) (by omega) hz) jX xI (Ls.trans i9)
     . rintro i acc σ H4 hi dc ⟨zs,v,xM,rfl,DZ,hz,rfl,jX,xI,i9⟩
       refine ⟨hi,?_⟩
       rintro x H' ⟨rfl,rfl⟩
       refine d5 ?_
       refine ⟨_,rfl,_,rfl,l,xM,26,rfl,xI,jX,by decide,by decide,λd' pq H5 c0 c1 jY tV eK=>?_⟩
       have DY:az.length=26:=by decide
       have hd':d'.toNat<az.length:=by omega
       have ZE:((d'.toNat:Nat):Int)=d':=by omega
       have Lu:jD vG.cps.toList ((d'.toNat:Nat):Int)=some az[d'.toNat]:=a0 (by rw [Am]; exact List.getElem?_eq_getElem hd')
       rw [ZE] at Lu
       have Lv:H5 D=some (.lst (zs.map V.str)):=eK D _ dc (Ne.symm nD)
       refine ⟨vG,d',az[d'.toNat],rfl,rfl,(by decide +kernel),Lu,_,Lv,?_,cX hi af ⟨zs++[⟨#[az[d'.toNat]]⟩],_,pq,?_,?_,λy hy=>?_,rfl,jY,?_,?_⟩⟩
       . rw [List.length_map]
         exact small (by omega)
       . rw [List.map_append]
         rfl
       . rw [List.length_append,List.length_singleton,DZ]
       . rcases List.mem_append.mp hy with hy | hy
         . exact hz y hy
         . have:y=⟨#[az[d'.toNat]]⟩:=by simpa using hy
           exact ⟨_,List.getElem_mem hd',this⟩
       . rw [ag nD]
         exact tV
       . intro b o hb vI
         have nb:b≠D:=λz=>by rw [z,hD] at hb; cases hb
         rw [ag nb]
         exact eK b o (i9 b o hb vI) vI
   . exact rR _ jE H3 w1 _ xK lJ pj Ls
end
end Gen
namespace Gen
open PySem L2
def Lit (names:List Str) (z:Str):Prop:=z = "0" \/ z = "1" \/ ∃x∈names,z=x\/z = "~" ++ x
inductive tW (K:W.Frag) (vs:List V) (H:Hp) (Q:VK):Prop
 | mk (l n:Addr) (xs:List V) (names:List Str) (h1:vs=[.ref l,.ref n]) (h2:H l=some (.lst xs)) (h3:dw xs) (h4:n≠l) (h5:av K H n (names.map V.str)) (h6:names.length<=200) (h7:(∀z∈names,ba z)) (h8:∀(z:Str) (ys:List V) (H':Hp),Lit names z->dw ys->H' l=some (.lst ys)->aO H H' l->Q (.str z) H'):tW K vs H Q
def lK (K:W.Frag):Sp:=λvs H Q _=>tW K vs H Q
theorem F9 {names:List Str}{i:Int}(h0:0<=i) (h1:i.toNat<names.length):jD (names.map V.str) i=some (.str names[i.toNat]):=by
 have e:((i.toNat:Nat):Int)=i:=by omega
 have:=a0 (xs:=names.map V.str) (j:=i.toNat) (v:=.str names[i.toNat]) (by rw [List.getElem?_map,List.getElem?_eq_getElem h1]; rfl)
 rw [e] at this
 exact this
section
variable {P:Program}{w:World}{K:W.Frag}{mg:Str->Option Value}{base:Heap}
theorem vJ:aY ["_law_left", "_law_names", "_law_spot"] ["_law_left", "_law_names"] (ar iB):=⟨rfl,rfl,rfl,by decide +kernel,rfl,by decide +kernel,by decide +kernel⟩
theorem tX {f fP:Addr}{fd qZ:FuncData}(F:cq K "_law_literal" "_law_literal" iB f fd) (T:Own mg) (FP:cq K "_law_pick" "_law_pick" j8 fP qZ) (bP:Binds K qZ ["_law_left", "_law_many"] []) (mP:mg "_law_pick" = some (.ref fP)) :
 ax P w K mg base aD 2 f fd ["_law_left", "_law_names"] (lK K):=by
 have GP:ax P w K mg base aD 1 fP qZ ["_law_left", "_law_many"] o8:=uR FP T
 refine F.ok vJ (λvs H Q E h=>?_) (λcdv A outer s H vs Q E hr h=>?_)
 . obtain ⟨l,n,xs,names,rfl,_⟩:=h
   rfl
 . obtain ⟨l,n,xs,names,rfl,hl,hp,cJ,hS,eW,ib,kk⟩:=h
   refine ⟨_,ai (aE (i:=2) vJ.nd rfl (Or.inl rfl) (aB GP hr rfl mP FP.kp bP .nil aA (aa (pv 0) (aa (aK fJ (aK iT aq (bG cw (by rfl) T.len PySem.boot_len (aa (pv 1) ah))) aq) ah))))
    (ai (cS (cN Hu (pv 2) (aK Dc (aK iT aq (bG cw (by rfl) T.len PySem.boot_len (aa (pv 1) ah))) aq) (dh _))
     (aw (aW (aP tG aU (aK kF (pv 2) aq) (λ_ _=>rfl)))) bz)
    (aw (aW (aK dX (aP br (cP (aa aU (aa aU ah))) (aK kF (pv 2) aq) (λ_ _=>rfl)) (aP br (pv 1) (aK pZ (pv 2) aq) (λ_ _=>rfl)))))),?_⟩
   have el:((names.map V.str).length:Int)=(names.length:Int):=by rw [List.length_map]
   refine ⟨_,rfl,_,rfl,n,_,rfl,.inl hS,_,_,rfl,rfl,.inl ⟨by decide,by decide⟩,_,_,rfl,rfl,l,xs,_,rfl,hl,hp,(by rw [el]; omega),(by rw [el]; omega),λd ys H2 d0 d1 dQ cV kp2=>?_⟩
   rw [el] at d1
   have HQ:av K H2 n (names.map V.str):=kp2.seq hl hS cJ
   refine ⟨_,rfl,_,rfl,n,_,rfl,.inl HQ,_,_,rfl,rfl,.inl ⟨by decide,by decide⟩,_,_,rfl,rfl,_,_,rfl,rfl,_,rfl,?_⟩
   have m0:0<=d % 2:=Int.emod_nonneg _ (by decide)
   have m2:d % 2<2:=Int.emod_lt_of_pos _ (by decide)
   refine jS (λhc=>?_) (λhc=>?_)
   . have c2:("01" : Str).cps.toList=[48,49]:=by decide +kernel
     refine ⟨_,rfl,_,_,rfl,rfl,(by show (0:Int)<2; decide), "01",_,if d % 2=0 then 48 else 49,rfl,rfl,(by decide +kernel),?_,kk _ ys H2 ?_ dQ cV kp2⟩
     . rw [c2]
       rcases (show d % 2=0\/d % 2=1 by omega) with e | e
       . rw [e]; rfl
       . rw [e]; rfl
     . rcases (show d % 2=0\/d % 2=1 by omega) with e | e
       . rw [e]; exact .inl (by decide +kernel)
       . rw [e]; exact .inr (.inl (by decide +kernel))
   . have fi:¬ (2*((names.map V.str).length:Int)-1<d):=λh=>hc (decide_eq_true h)
     rw [el] at fi
     refine ⟨(by show 2<=sizeLine; decide),λp eR=>?_⟩
     have hd2:(d / 2).toNat<names.length:=by omega
     have ZF:av K (upd H2 p (.lst [.str "",.str "~"])) n (names.map V.str):=ak.seq (ak.au eR) HQ
     have nl:l≠p:=ae cV eR
     refine ⟨_,rfl,_,_,rfl,rfl,(by show (0:Int)<2; decide),p,_,_,.str (if d % 2=0 then "" else "~"),rfl,rfl,av.of af,?_,_,rfl,_,rfl,_,_,rfl,rfl,⟨by decide,by decide⟩,n,_,_,_,rfl,rfl,ZF,F9 (by omega) hd2,_,_,rfl,rfl,?_,?_⟩
     . rcases (show d % 2=0\/d % 2=1 by omega) with e | e
       . rw [e]; rfl
       . rw [e]; rfl
     . have h8:=(ib _ (List.getElem_mem hd2)).len
       have h1:(if d % 2=0 then ("" : Str) else "~").length<=1:=by
        split
        . decide +kernel
        . decide +kernel
       exact iq (by omega)
     . refine kk _ ys _ ?_ dQ (by rw [ag nl]; exact cV) (kp2.trans (aO.au eR))
       refine .inr (.inr ⟨_,List.getElem_mem hd2,?_⟩)
       rcases (show d % 2=0\/d % 2=1 by omega) with e | e
       . left
         rw [if_pos e]
         exact JF (by rw [qo,vC,List.nil_append])
       . right
         rw [if_neg (by omega)]
end
def bj (H:Hp) (p:Addr) (rs:List (List V)):Prop:=∃ts:List Addr,H p=some (.lst (ts.map V.ref))/\Paired (λt r=>H t=some (.tup r)) ts rs
def jT (r:Str×Str):List V:=[.str r.1,.str r.2]
structure gE (names told:List Str) (rows:List (Str×Str)):Prop where
 nm:∀r∈rows,ba r.1
 lit:∀r∈rows,Lit names r.2
 ut:∀r∈rows,r.1∉told
 nd:(rows.map (·.1)).Nodup
theorem bj.keep {H H':Hp}{p l:Addr}{rs:List (List V)}{xs:List V}(h:bj H p rs) (k:aO H H' l) (hl:H l=some (.lst xs)) (hp:p≠l):bj H' p rs:=by
 obtain ⟨ts,h1,h2⟩:=h
 exact ⟨ts,k p _ h1 hp,Paired.cb h2 λt r e=>k t _ e (a9 e hl (by intro z; cases z))⟩
theorem bj.same {H H':Hp}{p:Addr}{rs:List (List V)}(h:bj H p rs) (k:ak H H'):bj H' p rs:=by
 obtain ⟨ts,h1,h2⟩:=h
 exact ⟨ts,k p _ h1,Paired.cb h2 λt r e=>k t _ e⟩
theorem cF {α β:Type}{F:α->β->Prop} : ∀{l₁:List α}{l₂:List β}{i:Nat}{b:β},Paired F l₁ l₂->l₂[i]?=some b->∃a,l₁[i]?=some a/\F a b
 | _,_,i,b,.nil,h=>by simp at h
 | _,_,0,b,.cons h t,e=>⟨_,rfl,by simpa using (show _=_ from Option.some.inj e) ▸ h⟩
 | _,_,i+1,b,.cons h t,e=>let ⟨a,h1,h2⟩:=cF t (i:=i) (b:=b) (by simpa using e); ⟨a,by simpa using h1,h2⟩
theorem bj.snoc {H:Hp}{p t:Addr}{rs:List (List V)}{r:List V}{ts:List Addr}(h2:Paired (λt r=>H t=some (.tup r)) ts rs) (ht:H t=some (.tup r)) (hp:∀a xs,H a=some (.tup xs)->a≠p) :
 bj (upd H p (.lst (ts.map V.ref++[V.ref t]))) p (rs++[r]):=by
 refine ⟨ts++[t],?_,Paired.snoc (Paired.cb h2 λa b e=>?_) ?_⟩
 . rw [af,List.map_append]
   rfl
 . rw [ag (hp a b e)]
   exact e
 . rw [ag (hp t r ht)]
   exact ht
inductive vK (K:W.Frag) (vs:List V) (H:Hp) (Q:VK):Prop
 | mk (l n t:Addr) (xs:List V) (names told:List Str) (m:Int) (h1:vs=[.ref l,.ref n,.ref t,.int m]) (h2:H l=some (.lst xs)) (h3:dw xs) (h4:n≠l) (h5:t≠l) (h6:av K H n (names.map V.str)) (h7:names.length<=200) (h8:(∀z∈names,ba z)) (h9:H t=some (.lst (told.map V.str))) (ZG:told.length<=20) (h11:0<=m) (h12:m<=20) (Sb:∀(p:Addr) (rows:List (Str×Str)) (ys:List V) (H':Hp),H p=none->gE names told rows->rows.length=m.toNat->bj H' p (rows.map jT)->dw ys->H' l=some (.lst ys)->aO H H' l->Q (.ref p) H'):vK K vs H Q
def rY (K:W.Frag):Sp:=λvs H Q _=>vK K vs H Q
section
variable {P:Program}{w:World}{K:W.Frag}{mg:Str->Option Value}{base:Heap}
abbrev JJ:List Str:=["_law_left", "_law_names", "_law_told", "_law_many", "_law_found", "_law_k", "_law_wish"]
abbrev kq:List Str:=["_law_left", "_law_names", "_law_told", "_law_many"]
theorem nK:aY JJ kq (ar ko):=⟨rfl,rfl,rfl,by decide +kernel,rfl,by decide +kernel,by decide +kernel⟩
theorem HR:(["_law_one"]:List Str).Nodup:=by decide +kernel
theorem vL {D p:Addr}{Q:Hp->Prop}{H1:Hp}{rows:List (Str×Str)}{ts:List Addr}(hD:H1 D=none) (hp:H1 p=some (.lst (ts.map V.ref))) (h2:Paired (λt r=>H1 t=some (.tup r)) ts (rows.map jT)) (hlen:rows.length<=100)
 (fin:Q (upd H1 D (.lst ((rows.map (·.1)).map V.str)))) :
 ∃W:Nat->Nat->St->Hp->Prop,(∃m,W 0 m [none] (upd H1 D (.lst [])))/\tL D (eS 0) kY (qR (dv K) (kE 0) (tC (.int 0))) (oQ K p) W Q:=by
 have np:p≠D:=ae hp hD
 have DH:∀o,(upd H1 D o) p=some (.lst (ts.map V.ref)):=λo=>by rw [ag np]; exact hp
 have cV:=h2.length
 rw [List.length_map] at cV
 refine gZ rows.length (λi acc σ H=>acc=((rows.take i).map (·.1)).map V.str/\(∃v,σ=[v])/\H=upd H1 D (.lst acc)) ⟨rfl,⟨none,rfl⟩,rfl⟩ af ?_ ?_
 . rintro acc σ H _ ⟨rfl,_,rfl⟩
   refine ⟨⟨_,av.of (DH _),by rw [List.length_map,cV]; exact Nat.le_refl _⟩,?_⟩
   rw [List.take_length]
   exact fin
 . rintro i acc σ H hi dc ⟨rfl,⟨v,rfl⟩,rfl⟩
   have tY:rows[i]?=some rows[i]:=List.getElem?_eq_getElem hi
   obtain ⟨t,ht,hT⟩:=cF h2 (i:=i) (b:=jT rows[i]) (by rw [List.getElem?_map,tY]; rfl)
   have hx:(ts.map V.ref)[i]?=some (.ref t):=by rw [List.getElem?_map,ht]; rfl
   refine ⟨⟨_,_,av.of (DH _),hx⟩,?_⟩
   rintro x H' ⟨rfl,iz⟩
   have ex:=iz _ (av.of (DH _))
   rw [hx] at ex
   cases ex
   refine d5 ?_
   have nt:t≠D:=ae hT hD
   refine ⟨_,rfl,t,_,_,.str rows[i].1,rfl,rfl,aR.of (by rw [ag nt]; exact hT),rfl,_,af,?_,cX hi af ⟨?_,⟨_,rfl⟩,by rw [eV]⟩⟩
   . rw [List.length_map,List.length_map,List.length_take]
     exact small (by omega)
   . rw [o9 (·.1) tY,List.map_append]
     rfl
theorem D0 {f fS fL fP:Addr}{fd Lw Lx qZ:FuncData}(F:cq K "_law_wishes" "_law_wishes" ko f fd) (T:Own mg) (FP:cq K "_law_pick" "_law_pick" j8 fP qZ) (bP:Binds K qZ ["_law_left", "_law_many"] []) (mP:mg "_law_pick" = some (.ref fP))
 (FS:cq K "_law_spelt" "_law_spelt" iY fS Lw) (bS:Binds K Lw ["_law_left", "_law_told"] []) (mS:mg "_law_spelt" = some (.ref fS)) (FL:cq K "_law_literal" "_law_literal" iB fL Lx) (bL:Binds K Lx ["_law_left", "_law_names"] []) (mL:mg "_law_literal" = some (.ref fL)) :
 ax P w K mg base aD 3 f fd kq (rY K):=by
 have GS:ax P w K mg base aD 2 fS Lw ["_law_left", "_law_told"] (qr K):=xJ FS T FP bP mP
 have GL:ax P w K mg base aD 2 fL Lx ["_law_left", "_law_names"] (lK K):=tX FL T FP bP mP
 refine F.ok nK (λvs H Q E h=>?_) (λcdv A outer s H vs Q E hr h=>?_)
 . obtain ⟨l,n,t,xs,names,told,m,rfl,_⟩:=h
   rfl
 . obtain ⟨l,n,t,xs,names,told,m,rfl,hl,hp,ox,rf,hS,ZI,ib,hT,htn,m0,m1,kk⟩:=h
   refine ⟨_,ai (aE (i:=4) nK.nd rfl (Or.inl rfl) (cP ah))
    (ai (dG PassesOwn.never rfl (fj rfl T.range (aa (pv 3) ah)) (aF (i:=5) nK.nd rfl (Or.inl rfl))
     (ai (aE (i:=6) nK.nd rfl (Or.inl rfl) (aB GS hr rfl mS FS.kp bS .nil aA (aa (pv 0) (aa (aK fQ (pv 2)
      (eT (N:=["_law_one"]) (js:=[none]) (by kernel_rfl) rfl (cG (pv 4)) (λ_ _ _ _ _ _=>aF (i:=0) HR rfl (Or.inl rfl) (.inr rfl)) (λ_ _ _ _ _ _=>cm)
       (λ_ _ _ _ _ _=>aP (r:=dv K) cI (pv 0) aq (λ_ _=>rfl)))) ah))))
     (aw (d6 (ft PySem.F.plainAttrs_list PySem.F.slot_list_append PySem.F.type_list_append d4 (pv 4) (aa (dJ (aa (pv 6) (aa (aB GL hr rfl mL FL.kp bL .nil aA (aa (pv 0) (aa (pv 1) ah))) ah))) ah))))))
    (aw (aW (pv 4)))),?_⟩
   refine ⟨(by show 0<=sizeLine; decide),λp eR=>?_⟩
   have HS:l≠p:=ae hl eR
   refine ⟨_,rfl,_,rfl,by omega,by omega,iE (n:=m.toNat) (λi σ H2=>∃(rows:List (Str×Str)) (v5 v6:Option V) (ys:List V),σ=[some (.ref l),some (.ref n),some (.ref t),some (.int m),some (.ref p),v5,v6]/\rows.length=i/\gE names told rows/\
    bj H2 p (rows.map jT)/\dw ys/\H2 l=some (.lst ys)/\aO H H2 l) ?_ ?_ ?_⟩
   . exact ⟨[],none,none,xs,rfl,rfl,⟨(λ_ h=>nomatch h),(λ_ h=>nomatch h),(λ_ h=>nomatch h),List.nodup_nil⟩,⟨[],af,.nil⟩,hp,(by rw [ag HS]; exact hl),aO.au eR⟩
   . rintro i σ H2 hi ⟨rows,v5,v6,ys,rfl,xN,hw,⟨ts,dQ,iJ⟩,eF,cV,kp2⟩
     have Ak:H2 t=some (.lst (told.map V.str)):=kp2 t _ hT rf
     have HQ:av K H2 n (names.map V.str):=kp2.seq hl hS ox
     have Vg:=iJ.length
     rw [List.length_map] at Vg
     refine ⟨_,rfl,_,rfl,_,rfl,p,rfl,⟨_,av.of dQ⟩,λD hD=>vL hD dQ iJ (by omega) ?_⟩
     have ZJ:t≠D:=ae Ak hD
     have ZL:l≠D:=ae cV hD
     refine ⟨t,D,_,_,rfl,rfl,(by rw [ag ZJ]; exact Ak),af,?_,λq hq=>?_⟩
     . rw [List.length_map,List.length_map,List.length_map]
       exact fU (by omega)
     have ZM:l≠q:=ae (by rw [ag ZL]; exact cV) hq
     have ZN:∀o3 o4,(upd H2 D o3) q=none->ak H2 (upd (upd H2 D o3) q o4):=λo3 o4 hz=>(ak.au hD).trans (ak.au hz)
     have Aq:=ZN _ (.lst (told.map V.str++(rows.map (·.1)).map V.str)) hq
     generalize hG:upd _ q (HO.lst (told.map V.str++(rows.map (·.1)).map V.str))=H3 at *
     have ZO:H3 q=some (.lst ((told++rows.map (·.1)).map V.str)):=by rw [← hG,af,List.map_append]
     have pj:H3 l=some (.lst ys):=Aq l _ cV
     refine ⟨l,q,ys,told++rows.map (·.1),rfl,pj,eF,Ne.symm ZM,av.of ZO,(by rw [List.length_append,List.length_map]; omega),λz jE H4 hz HM jX xI i9=>?_⟩
     have Ga:aO H2 H4 l:=(ak.keep Aq l).trans i9
     have Vh:H4 p=some (.lst (ts.map V.ref)):=Ga p _ dQ (Ne.symm HS)
     have ZP:av K H4 n (names.map V.str):=Ga.seq cV HQ ox
     refine ⟨_,rfl,.inl ⟨rfl,_,av.of Vh⟩,_,rfl,_,rfl,_,rfl,l,n,jE,names,rfl,xI,jX,ox,ZP,ZI,ib,λz2 pq H5 Gb jY tV eK=>?_⟩
     refine ⟨(by show 2<=sizeLine; decide),λTp ie=>?_⟩
     have Gd:aO H2 H5 l:=Ga.trans eK
     have iC:H5 p=some (.lst (ts.map V.ref)):=Gd p _ dQ (Ne.symm HS)
     have oB:p≠Tp:=ae iC ie
     have ZQ:l≠Tp:=ae tV ie
     refine ⟨p,_,_,rfl,rfl,(by rw [ag oB]; exact iC),(by rw [List.length_map]; exact small (by omega)),?_⟩
     have ZR:gE names told (rows++[(z,z2)]):=by
      have Ly:z∉told/\z∉rows.map (·.1):=by
       constructor
       . exact λh=>HM (List.mem_append_left _ h)
       . exact λh=>HM (List.mem_append_right _ h)
      refine ⟨λr hr=>?_,λr hr=>?_,λr hr=>?_,?_⟩
      . rcases List.mem_append.mp hr with hr | hr
        . exact hw.nm r hr
        . rw [List.mem_singleton.mp hr]; exact hz
      . rcases List.mem_append.mp hr with hr | hr
        . exact hw.lit r hr
        . rw [List.mem_singleton.mp hr]; exact Gb
      . rcases List.mem_append.mp hr with hr | hr
        . exact hw.ut r hr
        . rw [List.mem_singleton.mp hr]; exact Ly.1
      . rw [List.map_append,List.nodup_append]
        refine ⟨hw.nd,by simp,λa ha b hb e=>?_⟩
        have:b=z:=by simpa using hb
        rw [this] at e
        exact Ly.2 (e ▸ ha)
     refine ⟨rows++[(z,z2)],_,_,pq,rfl,(by rw [List.length_append,List.length_singleton,xN]),ZR,?_,jY,(by rw [ag HS,ag ZQ]; exact tV),λb o hb vI=>?_⟩
     . rw [List.map_append]
       refine bj.snoc (Paired.cb iJ λa r e=>?_) af λa tZ e z'=>?_
       . have ea:=Gd a _ e (a9 e cV (by intro z; cases z))
         rw [ag (ae ea ie)]
         exact ea
       . rw [z',ag oB,iC] at e
         cases e
     . have e5:=Gd b o (kp2 b o hb vI) vI
       rw [ag (ae hb eR),ag (ae e5 ie)]
       exact e5
   . rintro σ H2 ⟨rows,v5,v6,ys,rfl,xN,hw,xO,eF,cV,kp2⟩
     exact ⟨_,rfl,kk p rows ys H2 eR hw xN xO eF cV kp2⟩
end
end Gen
namespace Gen
open PySem L2
structure aS where
 switches:List Str
 keepers:List (Str×V)
 gates:List (Str×Str×Str)
 nexts:List (Str×Str)
 nevers:List (Str×Str)
 somes:List (Str×Str)
def jd (r:Str×V):List V:=[.str r.1,r.2]
def jU (r:Str×Str×Str):List V:=[.str r.1,.str r.2.1,.str r.2.2]
def cR (a1 a2 a3 a4 a5 a6:Addr):List (Key×V):=
 [(.inr "switches",.ref a1),(.inr "keepers",.ref a2),(.inr "gates",.ref a3),(.inr "nexts",.ref a4),(.inr "nevers",.ref a5),(.inr "somes",.ref a6)]
structure eL (H:Hp) (m:Addr) (M:aS) (a1 a2 a3 a4 a5 a6:Addr):Prop where
 top:H m=some (.dK (cR a1 a2 a3 a4 a5 a6))
 sw:H a1=some (.lst (M.switches.map V.str))
 kp:bj H a2 (M.keepers.map jd)
 gt:bj H a3 (M.gates.map jU)
 nx:bj H a4 (M.nexts.map jT)
 nv:bj H a5 (M.nevers.map jT)
 sm:bj H a6 (M.somes.map jT)
structure cy (M:aS) (names:List Str):Prop where
 all:names=M.switches++M.keepers.map (·.1)++M.gates.map (·.1)
 nm:∀z∈names,ba z
 nd:names.Nodup
 first:∀r∈M.keepers,r.2=.int 0\/r.2=.int 1\/r.2=.aQ
 nxk:∀r∈M.nexts,r.1∈M.keepers.map (·.1)
 nxl:∀r∈M.nexts,Lit names r.2
 nxd:(M.nexts.map (·.1)).Nodup
 nvw:gE names [] M.nevers
 smw:gE names (M.nevers.map (·.1)) M.somes
 gl:∀(i:Nat) (r:Str×Str×Str),M.gates[i]?=some r->Lit (M.switches++M.keepers.map (·.1)++(M.gates.take i).map (·.1)) r.2.1/\Lit (M.switches++M.keepers.map (·.1)++(M.gates.take i).map (·.1)) r.2.2
def gg (K:W.Frag) (H:Hp) (z:Addr) (s0 s1 s2 s3:Int):Prop:=(av K H z [.int s0,.int s1,.int s2,.int s3]\/aR K H z [.int s0,.int s1,.int s2,.int s3])/\(0<=s0/\s0<=12)/\(0<=s1/\s1<=16)/\(0<=s2/\s2<=60)/\1<=s3/\s3<=8
theorem ak.lg {K:W.Frag}{H H':Hp}{a:Addr}{xs:List V}(e:ak H H') (h:aR K H a xs):aR K H' a xs:=by
 rcases h with (h | ⟨o,h⟩) | h
 . exact .inl (.inl (e a _ h))
 . exact .inl (.inr ⟨o,e a _ h⟩)
 . exact .inr h
theorem gg.same {K:W.Frag}{H H':Hp}{z:Addr}{s0 s1 s2 s3:Int}(h:gg K H z s0 s1 s2 s3) (k:ak H H'):gg K H' z s0 s1 s2 s3:=⟨h.1.imp (ak.seq k) (ak.lg k),h.2⟩
theorem gg.ix {K:W.Frag}{H:Hp}{z:Addr}{s0 s1 s2 s3:Int}(h:gg K H z s0 s1 s2 s3){i:Int}{v:V}{Q:VK}(hi:jD [V.int s0,.int s1,.int s2,.int s3] i=some v) (q:Q v H):RS K (.ref z) (.int i) H Q:=by
 rcases h.1 with h | h
 . exact .inl ⟨z,_,i,v,rfl,rfl,h,hi,q⟩
 . exact .inr (.inl ⟨z,_,i,v,rfl,rfl,h,hi,q⟩)
abbrev Lz:List Str:=["_law_cells", "_law_sizes", "_law_k", "_law_a", "_law_b", "_law_c", "_law_names", "_law_switches", "_law_keepers", "_law_gates", "_law_name", "_law_nexts", "_law_keeper", "_law_first", "_law_nevers", "_law_somes", "_law_made_here"]
abbrev pB:List Str:=["_law_cells", "_law_sizes"]
theorem eU:aY Lz pB (ar di):=⟨rfl,rfl,rfl,by decide +kernel,rfl,by decide +kernel,by decide +kernel⟩
abbrev wH (P:Program) (w:World) (K:W.Frag) (mg:Str->Option Value) (base:Heap) (f:Addr) (cdv:Value) (A:Around) (outer:List Env) (s:Shared) (H:Hp) (E:XK):Cx:=
 (nE aD P w K mg base Lz "_law_machine_digits" (ar di) f cdv A outer s H E).xf
section
variable {P:Program}{w:World}{K:W.Frag}{mg:Str->Option Value}{base:Heap}
structure Defs (P:Program) (w:World) (K:W.Frag) (mg:Str->Option Value) (base:Heap) (fP fS fL fW fR:Addr) (dP dS dL dW dR:FuncData):Prop where
 T:Own mg
 gP:ax P w K mg base aD 1 fP dP ["_law_left", "_law_many"] o8
 mP:mg "_law_pick" = some (.ref fP)
 kP:W.keepIn K (.ref fP)=true
 bP:Binds K dP ["_law_left", "_law_many"] []
 gS:ax P w K mg base aD 2 fS dS ["_law_left", "_law_told"] (qr K)
 mS:mg "_law_spelt" = some (.ref fS)
 kS:W.keepIn K (.ref fS)=true
 bS:Binds K dS ["_law_left", "_law_told"] []
 gL:ax P w K mg base aD 2 fL dL ["_law_left", "_law_names"] (lK K)
 mL:mg "_law_literal" = some (.ref fL)
 kL:W.keepIn K (.ref fL)=true
 bL:Binds K dL ["_law_left", "_law_names"] []
 gW:ax P w K mg base aD 3 fW dW kq (rY K)
 mW:mg "_law_wishes" = some (.ref fW)
 kW:W.keepIn K (.ref fW)=true
 bW:Binds K dW kq []
 gR:ax P w K mg base aD 2 fR dR ["_law_cell", "_law_k"] tQ
 mR:mg "_law_rich" = some (.ref fR)
 kR:W.keepIn K (.ref fR)=true
 bR:Binds K dR ["_law_cell", "_law_k"] []
variable {fP fS fL fW fR:Addr}{dP dS dL dW dR:FuncData}
structure xP (K:W.Frag) (H:Hp) (z c n a1 a2 a3 a4:Addr) (s0 s1 s2 s3:Int) (names sw:List Str) (kp:List (Str×V)) (gt:List (Str×Str×Str)) (nx:List (Str×Str)):Prop where
 pc:∃xs,H c=some (.lst xs)/\dw xs
 hz:gg K H z s0 s1 s2 s3
 zc:z≠c
 hn:H n=some (.lst (names.map V.str))
 nc:n≠c
 nl:names.length<=100
 nm:∀x∈names,ba x
 h1:H a1=some (.lst (sw.map V.str))
 c1:a1≠c
 h2:bj H a2 (kp.map jd)
 c2:a2≠c
 h3:bj H a3 (gt.map jU)
 c3:a3≠c
 h4:bj H a4 (nx.map jT)
 c4:a4≠c
theorem aO.lg {H H':Hp}{a l:Addr}{xs n:List V}(e:aO H H' l) (hl:H l=some (.lst n)) (h:aR K H a xs) (cJ:a≠l):aR K H' a xs:=by
 rcases h with (h | ⟨o,h⟩) | h
 . exact .inl (.inl (e a _ h cJ))
 . exact .inl (.inr ⟨o,e a _ h cJ⟩)
 . exact .inr h
theorem xP.keep {H H':Hp}{z c n a1 a2 a3 a4:Addr}{s0 s1 s2 s3:Int}{names sw:List Str}{kp:List (Str×V)}{gt:List (Str×Str×Str)}{nx:List (Str×Str)}{ys:List V}(h:xP K H z c n a1 a2 a3 a4 s0 s1 s2 s3 names sw kp gt nx) (k:aO H H' c) (hy:H' c=some (.lst ys)) (hp:dw ys) :
 xP K H' z c n a1 a2 a3 a4 s0 s1 s2 s3 names sw kp gt nx:=by
 obtain ⟨xs,hc,_⟩:=h.pc
 exact ⟨⟨ys,hy,hp⟩,⟨h.hz.1.imp (λq=>k.seq hc q h.zc) (λq=>aO.lg k hc q h.zc),h.hz.2⟩,h.zc,k n _ h.hn h.nc,h.nc,h.nl,h.nm,k a1 _ h.h1 h.c1,h.c1,h.h2.keep k hc h.c2,h.c2,h.h3.keep k hc h.c3,h.c3,h.h4.keep k hc h.c4,h.c4⟩
theorem xP.same {H H':Hp}{z c n a1 a2 a3 a4:Addr}{s0 s1 s2 s3:Int}{names sw:List Str}{kp:List (Str×V)}{gt:List (Str×Str×Str)}{nx:List (Str×Str)}(h:xP K H z c n a1 a2 a3 a4 s0 s1 s2 s3 names sw kp gt nx) (k:ak H H') :
 xP K H' z c n a1 a2 a3 a4 s0 s1 s2 s3 names sw kp gt nx:=by
 obtain ⟨xs,hc,hp⟩:=h.pc
 exact ⟨⟨xs,k c _ hc,hp⟩,h.hz.same k,h.zc,k n _ h.hn,h.nc,h.nl,h.nm,k a1 _ h.h1,h.c1,h.h2.same k,h.c2,h.h3.same k,h.c3,h.h4.same k,h.c4⟩
theorem Pc (G:Defs P w K mg base fP fS fL fW fR dP dS dL dW dR){f:Addr}{cdv:Value}{A:Around}{outer:List Env}{s:Shared}{H:Hp}{E:XK}{Q:VK}(hr:bb 3 (A.deeper (PyProof.Rows.envOfC "_law_machine_digits" (ar di) s.heap.objs.size f cdv))) :
 ∃tR:TS,iP (wH P w K mg base f cdv A outer s H E) (List.drop 10 (aI di)) tR/\∀(σ:St) (H1:Hp) (v0 v2 v3 v4 v10 vM vN:Option V) (z c n a1 a2 a3 a4:Addr) (s0 s1 s2 s3:Int) (names sw:List Str) (kp:List (Str×V)) (gt:List (Str×Str×Str)) (nx:List (Str×Str)),
  σ=[v0,some (.ref z),v2,v3,v4,some (.ref c),some (.ref n),some (.ref a1),some (.ref a2),some (.ref a3),v10,some (.ref a4),vM,vN,none,none,none]->
  xP K H1 z c n a1 a2 a3 a4 s0 s1 s2 s3 names sw kp gt nx->
  (∀(m:Addr) (nv sm:List (Str×Str)) (a5 a6:Addr) (H':Hp),gE names [] nv->gE names (nv.map (·.1)) sm->1<=nv.length->(nv.length:Int)<=s3->(sm.length:Int)<=s3->eL H' m ⟨sw,kp,gt,nx,nv,sm⟩ a1 a2 a3 a4 a5 a6->aO H1 H' c->Q (.ref m) H')->
  tR { nx:=λ_ H'=>Q .aQ H',rt:=Q } σ H1:=by
 have cM:bb 1 _:=hr.mono (by decide)
 have hu:=fu hr
 refine ⟨_,ai (aE (i:=14) eU.nd rfl (Or.inl rfl) (aB G.gW hr rfl G.mW G.kW G.bW .nil aA (aa (pv 5) (aa (pv 6) (aa (cP ah) (aa (aK fJ aq (aB G.gP cM rfl G.mP G.kP G.bP .nil aA (aa (pv 5) (aa (aP oX (pv 1) aq (λ_ _=>rfl)) ah)))) ah))))))
  (ai (aE (i:=15) eU.nd rfl (Or.inl rfl) (aB G.gW hr rfl G.mW G.kW G.bW .nil aA (aa (pv 5) (aa (pv 6) (aa
   (eT (N:=["_law_one"]) (js:=[none]) (by kernel_rfl) rfl (cG (pv 14)) (λ_ _ _ _ _ _=>aF (i:=0) HR rfl (Or.inl rfl) (.inr rfl)) (λ_ _ _ _ _ _=>cm) (λ_ _ _ _ _ _=>aP (r:=dv K) cI (pv 0) aq (λ_ _=>rfl)))
   (aa (aB G.gP cM rfl G.mP G.kP G.bP .nil aA (aa (pv 5) (aa (aK fJ (aP oX (pv 1) aq (λ_ _=>rfl)) aq) ah))) ah))))))
  (ai (aE (i:=16) eU.nd rfl (Or.inl rfl) (mq (ef aU (pv 7) (ef aU (pv 8) (ef aU (pv 9) (ef aU (pv 11) mn)))) rfl rfl (by simp) (by decide)))
  (ai (eX hu (pv 16) aU (pv 14) rfl)
  (ai (eX hu (pv 16) aU (pv 15) rfl)
  (aw (aW (pv 16))))))),?_⟩
 rintro σ H1 v0 v2 v3 v4 v10 vM vN z c n a1 a2 a3 a4 s0 s1 s2 s3 names sw kp gt nx rfl hA kk
 obtain ⟨xs,hc,hp⟩:=hA.pc
 obtain ⟨_,_,_,_,z1,z2⟩:=hA.hz
 have ox:=hA.nl
 refine ⟨_,rfl,_,rfl,(by show 0<=sizeLine; decide),λt0 D5=>?_⟩
 have A1:=hA.same (ak.au (o:=.lst []) D5)
 have LA:c≠t0:=ae hc D5
 have LB:(upd H1 t0 (.lst [])) c=some (.lst xs):=by rw [ag LA]; exact hc
 refine ⟨_,rfl,_,rfl,A1.hz.ix (i:=3) (v:=.int s3) rfl ?_⟩
 refine ⟨c,xs,s3,rfl,LB,hp,by omega,by omega,λd ys H2 d0 d1 dQ cV kp2=>⟨_,_,rfl,rfl,?_⟩⟩
 have A2:=A1.keep kp2 cV dQ
 have Vi:H2 t0=some (.lst (([]:List Str).map V.str)):=kp2 t0 _ af (Ne.symm LA)
 refine ⟨c,n,t0,ys,names,[],1+d,rfl,cV,dQ,A2.nc,Ne.symm LA,av.of A2.hn,by omega,A2.nm,Vi,by decide,by omega,by omega,λa5 nv jE H3 vO ZS adH Sd lJ pj iI=>?_⟩
 have A3:=A2.keep iI pj lJ
 have Se:a5≠c:=Ne.symm (ae cV vO)
 obtain ⟨ts,h5,iJ⟩:=id Sd
 refine ⟨_,rfl,_,rfl,_,rfl,a5,rfl,⟨_,av.of h5⟩,λD hD=>vL hD h5 iJ (by omega) ?_⟩
 have LC:ak H3 (upd H3 D (.lst ((nv.map (·.1)).map V.str))):=ak.au hD
 have A4:=A3.same LC
 have LD:c≠D:=ae pj hD
 have D6:(upd H3 D (.lst ((nv.map (·.1)).map V.str))) c=some (.lst jE):=by rw [ag LD]; exact pj
 refine ⟨_,rfl,_,rfl,A4.hz.ix (i:=3) (v:=.int s3) rfl ⟨_,_,rfl,rfl,c,jE,_,rfl,D6,lJ,by omega,by omega,λd' pq H5 e0 e1 jY tV eK=>?_⟩⟩
 have A5:=A4.keep eK tV jY
 have Lv:H5 D=some (.lst ((nv.map (·.1)).map V.str)):=eK D _ af (Ne.symm LD)
 refine ⟨c,n,D,pq,names,nv.map (·.1),d',rfl,tV,jY,A5.nc,Ne.symm LD,av.of A5.hn,by omega,A5.nm,Lv,(by rw [List.length_map]; omega),by omega,by omega,λa6 sm HU H6 LF ZT adI ZU t8 ZV Ar=>?_⟩
 have A6:=A5.keep Ar ZV t8
 have T5:bj H6 a5 (nv.map jT):=((Sd.same LC).keep eK D6 Se).keep Ar tV Se
 have nc6:a6≠c:=Ne.symm (ae tV LF)
 intro m hm
 refine ⟨_,rfl,_,rfl,_,rfl,_,rfl,af,[(.inr "switches",.ref a1),(.inr "keepers",.ref a2),(.inr "gates",.ref a3),(.inr "nexts",.ref a4)],rfl,(by show 4<=15; decide),?_⟩
 rw [eV]
 have em:bw [] [((.inr "switches" : Key),V.ref a1),(.inr "keepers",.ref a2),(.inr "gates",.ref a3),(.inr "nexts",.ref a4)]=[((.inr "switches" : Key),V.ref a1),(.inr "keepers",.ref a2),(.inr "gates",.ref a3),(.inr "nexts",.ref a4)]:=by rfl
 rw [em]
 refine ⟨_,rfl,_,rfl,m,_,rfl,gu.k (k:=.inr "nevers") af (by show 4<sizeLine; decide),?_⟩
 rw [eV]
 have en:putK [((.inr "switches" : Key),V.ref a1),(.inr "keepers",.ref a2),(.inr "gates",.ref a3),(.inr "nexts",.ref a4)] (.inr "nevers") (.ref a5)=[((.inr "switches" : Key),V.ref a1),(.inr "keepers",.ref a2),(.inr "gates",.ref a3),(.inr "nexts",.ref a4),(.inr "nevers",.ref a5)]:=by rfl
 rw [en]
 refine ⟨_,rfl,_,rfl,m,_,rfl,gu.k (k:=.inr "somes") af (by show 5<sizeLine; decide),?_⟩
 rw [eV]
 have es:putK [((.inr "switches" : Key),V.ref a1),(.inr "keepers",.ref a2),(.inr "gates",.ref a3),(.inr "nexts",.ref a4),(.inr "nevers",.ref a5)] (.inr "somes") (.ref a6)=cR a1 a2 a3 a4 a5 a6:=by rfl
 rw [es]
 have HV:ak H6 (upd H6 m (.dK (cR a1 a2 a3 a4 a5 a6))):=ak.au hm
 have A7:=A6.same HV
 refine ⟨_,rfl,kk m nv sm a5 a6 _ ZS ZT (by omega) (by omega) (by omega) ⟨af,A7.h1,A7.h2,A7.h3,A7.h4,T5.same HV,ZU.same HV⟩ ?_⟩
 exact (((((aO.au D5).trans kp2).trans iI).trans (ak.keep LC c)).trans (eK.trans Ar)).trans (ak.keep HV c)
end
end Gen
namespace Gen
open PySem L2
theorem rg {α β:Type}{F:α->β->Prop} : ∀{l₁:List α}{l₂:List β}(k:Nat),Paired F l₁ l₂->Paired F (l₁.take k) (l₂.take k)
 | _,_,k,.nil=>by simp only [List.take_nil]; exact .nil
 | _,_,0,.cons _ _=>.nil
 | _,_,k+1,.cons h t=>.cons h (rg k t)
theorem rh {α β:Type}{F:α->β->Prop} : ∀{l₁:List α}{l₂:List β}(k:Nat),Paired F l₁ l₂->Paired F (l₁.drop k) (l₂.drop k)
 | _,_,k,.nil=>by simp only [List.drop_nil]; exact .nil
 | _,_,0,.cons h t=>.cons h t
 | _,_,k+1,.cons h t=>rh k t
theorem cL {α β:Type}{F:α->β->Prop} : ∀{l₁ m₁:List α}{l₂ m₂:List β},Paired F l₁ l₂->Paired F m₁ m₂->Paired F (l₁++m₁) (l₂++m₂)
 | _,_,_,_,.nil,h=>h
 | _,_,_,_,.cons a t,h=>.cons a (cL t h)
section
variable {P:Program}{w:World}{K:W.Frag}{mg:Str->Option Value}{base:Heap}{fP fS fL fW fR:Addr}{dP dS dL dW dR:FuncData}
structure HW (K:W.Frag) (H:Hp) (z c n a1 a2 a3:Addr) (s0 s1 s2 s3:Int) (names sw:List Str) (kp:List (Str×V)) (gt:List (Str×Str×Str)):Prop where
 pc:∃xs,H c=some (.lst xs)/\dw xs
 hz:gg K H z s0 s1 s2 s3
 zc:z≠c
 hn:H n=some (.lst (names.map V.str))
 nc:n≠c
 nl:names.length<=100
 nm:∀x∈names,ba x
 h1:H a1=some (.lst (sw.map V.str))
 c1:a1≠c
 h2:bj H a2 (kp.map jd)
 c2:a2≠c
 h3:bj H a3 (gt.map jU)
 c3:a3≠c
 kd:(kp.map (·.1)).Nodup
 kl:kp.length<=16
theorem HW.keep {H H':Hp}{z c n a1 a2 a3:Addr}{s0 s1 s2 s3:Int}{names sw:List Str}{kp:List (Str×V)}{gt:List (Str×Str×Str)}{ys:List V}(h:HW K H z c n a1 a2 a3 s0 s1 s2 s3 names sw kp gt) (k:aO H H' c) (hy:H' c=some (.lst ys)) (hp:dw ys) :
 HW K H' z c n a1 a2 a3 s0 s1 s2 s3 names sw kp gt:=by
 obtain ⟨xs,hc,_⟩:=h.pc
 exact ⟨⟨ys,hy,hp⟩,⟨h.hz.1.imp (λq=>k.seq hc q h.zc) (λq=>aO.lg k hc q h.zc),h.hz.2⟩,h.zc,k n _ h.hn h.nc,h.nc,h.nl,h.nm,k a1 _ h.h1 h.c1,h.c1,h.h2.keep k hc h.c2,h.c2,h.h3.keep k hc h.c3,h.c3,h.kd,h.kl⟩
def Cc (names:List Str) (kp:List (Str×V)) (nx:List (Str×Str)):Prop:=(∀r∈nx,r.1∈kp.map (·.1)/\Lit names r.2)/\(nx.map (·.1)).Nodup
theorem D7 {α:Type}{l:List α}{a:α}(h:l.Nodup) (ha:a∉l) (d:Nat):(l.take d++[a]++l.drop d).Nodup:=by
 have p:(l.take d++[a]++l.drop d).Perm (a::l):=by
  rw [List.append_assoc]
  have:=List.perm_middle (a:=a) (l₁:=l.take d) (l₂:=l.drop d)
  rw [List.take_append_drop] at this
  exact this
 exact p.nodup_iff.mpr (List.nodup_cons.mpr ⟨ha,h⟩)
theorem As {β:Type} : ∀{kp:List (Str×β)}{i:Nat}(hi:i<kp.length),(kp.map (·.1)).Nodup->kp[i].1∉(kp.take i).map (·.1)
 | x::r,0,_,_=>by simp
 | x::r,i+1,hi,h=>by
  rw [List.map_cons,List.nodup_cons] at h
  have ih:=As (kp:=r) (i:=i) (by simpa using hi) h.2
  simp only [List.getElem_cons_succ,List.take_succ_cons,List.map_cons,List.mem_cons,not_or]
  refine ⟨λe=>h.1 ?_,ih⟩
  rw [← e]
  exact List.mem_map.mpr ⟨_,List.getElem_mem _,rfl⟩
theorem rZ {β:Type}{kp:List (Str×β)}{i j:Nat}{x:Str}(xQ:i<=j) (h:x∈(kp.take i).map (·.1)):x∈(kp.take j).map (·.1):=by
 obtain ⟨r,hr,e⟩:=List.mem_map.mp h
 refine List.mem_map.mpr ⟨r,?_,e⟩
 have:kp.take i=(kp.take j).take i:=by rw [List.take_take,Nat.min_eq_left xQ]
 rw [this] at hr
 exact List.mem_of_mem_take hr
abbrev Pe (Q:VK) (s3:Int) (H1:Hp) (c a1 a2 a3:Addr) (names sw:List Str) (kp:List (Str×V)) (gt:List (Str×Str×Str)):Prop:=
 ∀(m:Addr) (nx nv sm:List (Str×Str)) (a4 a5 a6:Addr) (H':Hp),Cc names kp nx->nx.length<=kp.length->gE names [] nv->gE names (nv.map (·.1)) sm->1<=nv.length->(nv.length:Int)<=s3->(sm.length:Int)<=s3->eL H' m ⟨sw,kp,gt,nx,nv,sm⟩ a1 a2 a3 a4 a5 a6->aO H1 H' c->Q (.ref m) H'
theorem Pf (G:Defs P w K mg base fP fS fL fW fR dP dS dL dW dR){f:Addr}{cdv:Value}{A:Around}{outer:List Env}{s:Shared}{H:Hp}{E:XK}{Q:VK}(hr:bb 3 (A.deeper (PyProof.Rows.envOfC "_law_machine_digits" (ar di) s.heap.objs.size f cdv))) :
 ∃tR:TS,iP (wH P w K mg base f cdv A outer s H E) (List.drop 8 (aI di)) tR/\∀(σ:St) (H1:Hp) (v0 v2 v3 v4 v10:Option V) (z c n a1 a2 a3:Addr) (s0 s1 s2 s3:Int) (names sw:List Str) (kp:List (Str×V)) (gt:List (Str×Str×Str)),
  σ=[v0,some (.ref z),v2,v3,v4,some (.ref c),some (.ref n),some (.ref a1),some (.ref a2),some (.ref a3),v10,none,none,none,none,none,none]->
  HW K H1 z c n a1 a2 a3 s0 s1 s2 s3 names sw kp gt->Pe Q s3 H1 c a1 a2 a3 names sw kp gt->
  tR { nx:=λ_ H'=>Q .aQ H',rt:=Q } σ H1:=by
 have cM:bb 1 _:=hr.mono (by decide)
 have mE:bb 2 _:=hr.mono (by decide)
 obtain ⟨tD,hD,rD⟩:=Pc G (outer:=outer) (H:=H) (E:=E) (Q:=Q) hr
 refine ⟨_,ai (aE (i:=11) eU.nd rfl (Or.inl rfl) (cP ah))
  (ai (dG PassesOwn.never rfl (cG (pv 8)) (jz rfl (bY (aF (i:=12) eU.nd rfl (Or.inl rfl)) (bY (aF (i:=13) eU.nd rfl (Or.inl rfl)) iD)))
   (aw (cS (cN Hu (aB G.gP cM rfl G.mP G.kP G.bP .nil aA (aa (pv 5) (aa aq ah))) aq (dh _))
    (aw (d6 (ft PySem.F.plainAttrs_list PySem.F.slot_list_insert PySem.F.type_list_insert DN (pv 11) (aa
     (aB G.gP cM rfl G.mP G.kP G.bP .nil aA (aa (pv 5) (aa (aK fJ (bG cw (by rfl) G.T.len PySem.boot_len (aa (pv 11) ah)) aq) ah)))
     (aa (dJ (aa (pv 12) (aa (aB G.gL mE rfl G.mL G.kL G.bL .nil aA (aa (pv 5) (aa (pv 6) ah))) ah))) ah))))) bz))) hD),?_⟩
 rintro σ H1 v0 v2 v3 v4 v10 z c n a1 a2 a3 s0 s1 s2 s3 names sw kp gt rfl hA kk
 obtain ⟨xs,hc,hp⟩:=hA.pc
 obtain ⟨ts,h2,iJ⟩:=id hA.h2
 have HX:=hA.kl
 have ox:=hA.nl
 have rf:=iJ.length
 rw [List.length_map] at rf
 refine ⟨(by show 0<=sizeLine; decide),λp eR=>?_⟩
 have pC:c≠p:=ae hc eR
 have ZW:a2≠p:=ae h2 eR
 refine ⟨_,rfl,a2,rfl,⟨_,av.of (by rw [ag ZW]; exact h2)⟩,iw (K:=K) (a:=a2) (xs:=ts.map V.ref) (λi σ H2=>∃(nx:List (Str×Str)) (vM vN:Option V) (ys:List V),
  σ=[v0,some (.ref z),v2,v3,v4,some (.ref c),some (.ref n),some (.ref a1),some (.ref a2),some (.ref a3),v10,some (.ref p),vM,vN,none,none,none]/\nx.length<=i/\Cc names (kp.take i) nx/\bj H2 p (nx.map jT)/\dw ys/\H2 c=some (.lst ys)/\aO H1 H2 c) ?_ ?_ ?_ ?_⟩
 . exact ⟨[],none,none,xs,rfl,Nat.le_refl _,⟨(λ_ h=>nomatch h),List.nodup_nil⟩,⟨[],af,.nil⟩,hp,(by rw [ag pC]; exact hc),aO.au eR⟩
 . rintro i σ H2 _ ⟨nx,vM,vN,ys,_,_,_,_,_,_,kp2⟩
   exact av.of (kp2 a2 _ h2 hA.c2)
 . rintro i x σ H2 hx ⟨nx,vM,vN,ys,rfl,hnx,mG,⟨us,dQ,gw⟩,eF,i8,kp2⟩
   have rj:i<(ts.map V.ref).length:=(List.getElem?_eq_some_iff.mp hx).1
   rw [List.length_map,rf] at rj
   have Sf:kp[i]?=some kp[i]:=List.getElem?_eq_getElem rj
   obtain ⟨t,ht,hT⟩:=cF iJ (i:=i) (b:=jd kp[i]) (by rw [List.getElem?_map,Sf]; rfl)
   have ex:x=.ref t:=by
    rw [List.getElem?_map,ht] at hx
    exact (Option.some.inj hx).symm
   subst ex
   have Ak:H2 t=some (.tup (jd kp[i])):=kp2 t _ hT (a9 hT hc (by intro z; cases z))
   refine ⟨t,_,rfl,aR.of Ak,rfl,_,_,rfl,_,_,rfl,rfl,?_⟩
   refine ⟨_,rfl,c,ys,5,rfl,i8,eF,by decide,by decide,λd jE H3 d0 d1 lJ Sg iI=>⟨_,_,rfl,rfl,_,rfl,?_⟩⟩
   have Ge:aO H1 H3 c:=kp2.trans iI
   have Vj:bj H3 p (nx.map jT):=bj.keep ⟨us,dQ,gw⟩ iI i8 (Ne.symm pC)
   refine jS (λ_=>?_) (λ_=>?_)
   . have pD:H3 p=some (.lst (us.map V.ref)):=iI p _ dQ (Ne.symm pC)
     have vP:=gw.length
     rw [List.length_map] at vP
     refine ⟨_,rfl,.inl ⟨rfl,_,av.of pD⟩,_,rfl,_,rfl,p,_,rfl,.inl (av.of pD),_,_,rfl,rfl,c,jE,_,rfl,Sg,lJ,(by rw [List.length_map]; omega),(by rw [List.length_map]; omega),λd2 pq H4 e0 e1 jX D6 i9=>?_⟩
     rw [List.length_map] at e1
     have A4:=hA.keep (Ge.trans i9) D6 jX
     refine ⟨_,rfl,_,rfl,_,rfl,c,n,pq,names,rfl,D6,jX,A4.nc,av.of A4.hn,by omega,A4.nm,λlt HU H5 Gb jY HY eK=>?_⟩
     refine ⟨(by show 2<=sizeLine; decide),λTp ie=>?_⟩
     have iC:H5 p=some (.lst (us.map V.ref)):=eK p _ (i9 p _ pD (Ne.symm pC)) (Ne.symm pC)
     have oB:p≠Tp:=ae iC ie
     have ZX:c≠Tp:=ae HY ie
     refine ⟨p,_,d2,_,rfl,rfl,(by rw [ag oB]; exact iC),e0,(by rw [List.length_map]; omega),(by rw [List.length_map]; exact small (by omega)),?_⟩
     have Vk:∀a tZ,(upd H5 Tp (HO.tup [V.str kp[i].1,V.str lt])) a=some (.tup tZ)->a≠p:=λa tZ e z'=>by
      rw [z',ag oB,iC] at e
      cases e
     have LG:Paired (λt r=>(upd (upd H5 Tp (HO.tup [V.str kp[i].1,V.str lt])) p (.lst ((us.map V.ref).take d2.toNat++[V.ref Tp]++(us.map V.ref).drop d2.toNat))) t=some (.tup r)) us (nx.map jT):=Paired.cb gw λa r e=>by
      have ea:H5 a=some (.tup r):=eK a _ (i9 a _ (iI a _ e (a9 e i8 (by intro z; cases z))) (a9 e i8 (by intro z; cases z))) (a9 e i8 (by intro z; cases z))
      have eb:(upd H5 Tp (HO.tup [V.str kp[i].1,V.str lt])) a=some (.tup r):=by rw [ag (ae ea ie)]; exact ea
      rw [ag (Vk a r eb)]
      exact eb
     refine ⟨nx.take d2.toNat++[(kp[i].1,lt)]++nx.drop d2.toNat,_,_,HU,rfl,?_,⟨λr hr=>?_,?_⟩,⟨us.take d2.toNat++[Tp]++us.drop d2.toNat,?_,?_⟩,jY,?_,λb o hb LH=>?_⟩
     . simp only [List.length_append,List.length_take,List.length_drop,List.length_singleton]
       omega
     . rcases List.mem_append.mp hr with hr | hr
       . rcases List.mem_append.mp hr with hr | hr
         . exact ⟨rZ (Nat.le_succ _) (mG.1 r (List.mem_of_mem_take hr)).1,(mG.1 r (List.mem_of_mem_take hr)).2⟩
         . rw [List.mem_singleton.mp hr]
           refine ⟨?_,Gb⟩
           rw [o9 (·.1) Sf]
           exact List.mem_append_right _ (List.mem_singleton.mpr rfl)
       . exact ⟨rZ (Nat.le_succ _) (mG.1 r (List.mem_of_mem_drop hr)).1,(mG.1 r (List.mem_of_mem_drop hr)).2⟩
     . have hn:kp[i].1∉nx.map (·.1):=λhm=>by
        obtain ⟨r,hr,e⟩:=List.mem_map.mp hm
        exact As rj hA.kd (e ▸ (mG.1 r hr).1)
       have hq:=D7 mG.2 hn d2.toNat
       rw [List.map_append,List.map_append,List.map_take,List.map_drop]
       exact hq
     . rw [af]
       simp only [List.map_append,List.map_take,List.map_drop,List.map_cons,List.map_nil]
     . rw [List.map_append,List.map_append,List.map_take,List.map_drop]
       refine cL (cL (rg _ LG) (.cons ?_ .nil)) (rh _ LG)
       rw [ag (Ne.symm oB),af]
       rfl
     . rw [ag pC,ag ZX]
       exact HY
     . have e5:=eK b o (i9 b o (Ge b o hb LH) LH) LH
       rw [ag (ae hb eR),ag (ae e5 ie)]
       exact e5
   . exact ⟨nx,_,_,jE,rfl,by omega,⟨λr hr=>⟨rZ (Nat.le_succ _) (mG.1 r hr).1,(mG.1 r hr).2⟩,mG.2⟩,Vj,lJ,Sg,Ge⟩
 . rintro σ H2 ⟨nx,vM,vN,ys,rfl,hnx,mG,xO,eF,i8,kp2⟩
   rw [List.length_map,rf] at hnx mG
   rw [List.take_length] at mG
   have A2:=hA.keep kp2 i8 eF
   refine rD _ H2 v0 v2 v3 v4 v10 vM vN z c n a1 a2 a3 p s0 s1 s2 s3 names sw kp gt nx rfl ⟨⟨ys,i8,eF⟩,A2.hz,A2.zc,A2.hn,A2.nc,A2.nl,A2.nm,A2.h1,A2.c1,A2.h2,A2.c2,A2.h3,A2.c3,xO,Ne.symm pC⟩ ?_
   intro m nv sm a5 a6 H' w1 w2 l1 l2 l3 hM xR
   exact kk m nx nv sm p a5 a6 H' mG hnx w1 w2 l1 l2 l3 hM (kp2.trans xR)
end
end Gen
namespace Gen
open PySem L2
def dY (H H':Hp) (l n:Addr):Prop:=∀b o,H b=some o->b≠l->b≠n->H' b=some o
def Pg (H H':Hp) (l c n:Addr):Prop:=∀b o,H b=some o->b≠l->b≠c->b≠n->H' b=some o
theorem dY.seq {K:W.Frag}{H H':Hp}{a l n:Addr}{xs:List V}(e:dY H H' l n) (h:av K H a xs) (h1:a≠l) (h2:a≠n):av K H' a xs:=by
 rcases h with (h | ⟨o,h⟩) | h
 . exact .inl (.inl (e a _ h h1 h2))
 . exact .inl (.inr ⟨o,e a _ h h1 h2⟩)
 . exact .inr h
theorem dY.lg {K:W.Frag}{H H':Hp}{a l n:Addr}{xs:List V}(e:dY H H' l n) (h:aR K H a xs) (h1:a≠l) (h2:a≠n):aR K H' a xs:=by
 rcases h with (h | ⟨o,h⟩) | h
 . exact .inl (.inl (e a _ h h1 h2))
 . exact .inl (.inr ⟨o,e a _ h h1 h2⟩)
 . exact .inr h
theorem bj.wI {H H':Hp}{p l n:Addr}{rs:List (List V)}{xs ns:List V}(h:bj H p rs) (k:dY H H' l n) (hl:H l=some (.lst xs)) (hn:H n=some (.lst ns)) (h1:p≠l) (h2:p≠n):bj H' p rs:=by
 obtain ⟨ts,e1,e2⟩:=h
 exact ⟨ts,k p _ e1 h1 h2,Paired.cb e2 λt r e=>k t _ e (a9 e hl (by intro z; cases z)) (a9 e hn (by intro z; cases z))⟩
theorem aO.to2 {H H':Hp}{l:Addr}(k:aO H H' l) (n:Addr):dY H H' l n:=λb o h h1 _=>k b o h h1
theorem dY.trans {H H1 H2:Hp}{l n:Addr}(a:dY H H1 l n) (b:dY H1 H2 l n):dY H H2 l n:=λc o h h1 h2=>b c o (a c o h h1 h2) h1 h2
theorem dY.Ph {H:Hp}{l n:Addr}{o:HO} : dY H (upd H n o) l n:=λb u h _ h2=>by rw [ag h2]; exact h
theorem gg.wI {K:W.Frag}{H H':Hp}{z l n:Addr}{s0 s1 s2 s3:Int}(h:gg K H z s0 s1 s2 s3) (k:dY H H' l n) (h1:z≠l) (h2:z≠n):gg K H' z s0 s1 s2 s3:=⟨h.1.imp (λq=>k.seq q h1 h2) (λq=>k.lg q h1 h2),h.2⟩
def mJ (names:List Str) (gt:List (Str×Str×Str)):Prop:=∀(i:Nat) (r:Str×Str×Str),gt[i]?=some r->Lit (names++(gt.take i).map (·.1)) r.2.1/\Lit (names++(gt.take i).map (·.1)) r.2.2
theorem mJ.snoc {names:List Str}{gt:List (Str×Str×Str)}{r:Str×Str×Str}(h:mJ names gt) (h1:Lit (names++gt.map (·.1)) r.2.1) (h2:Lit (names++gt.map (·.1)) r.2.2):mJ names (gt++[r]):=by
 intro i q e
 rcases Nat.lt_trichotomy i gt.length with hi | hi | hi
 . rw [List.getElem?_append_left hi] at e
   rw [List.take_append_of_le_length (Nat.le_of_lt hi)]
   exact h i q e
 . subst hi
   rw [List.getElem?_append_right (Nat.le_refl _),Nat.sub_self] at e
   have e':r=q:=by simpa using e
   subst e'
   rw [List.take_left']
   . exact ⟨h1,h2⟩
   . rfl
 . rw [List.getElem?_eq_none (by rw [List.length_append,List.length_singleton]; omega)] at e
   cases e
theorem nL {α:Type}{l:List α}{a:α}(h:l.Nodup) (ha:a∉l):(l++[a]).Nodup:=by
 rw [List.nodup_append]
 refine ⟨h,by simp,λx hx y hy e=>?_⟩
 have:y=a:=by simpa using hy
 rw [this] at e
 exact ha (e ▸ hx)
section
variable {P:Program}{w:World}{K:W.Frag}{mg:Str->Option Value}{base:Heap}{fP fS fL fW fR:Addr}{dP dS dL dW dR:FuncData}
structure ZY (K:W.Frag) (H:Hp) (z b c n a1 a2:Addr) (s0 s1 s2 s3:Int) (names sw:List Str) (kp:List (Str×V)):Prop where
 pb:∃xs,H b=some (.lst xs)/\dw xs
 pc:∃xs,H c=some (.lst xs)/\dw xs
 hz:gg K H z s0 s1 s2 s3
 zb:z≠b
 zc:z≠c
 zn:z≠n
 bc:b≠c
 hn:H n=some (.lst (names.map V.str))
 nb:n≠b
 nc:n≠c
 nl:names.length<=28
 nm:∀x∈names,ba x
 nd:names.Nodup
 h1:H a1=some (.lst (sw.map V.str))
 b1:a1≠b
 c1:a1≠c
 n1:a1≠n
 h2:bj H a2 (kp.map jd)
 b2:a2≠b
 c2:a2≠c
 n2:a2≠n
 kd:(kp.map (·.1)).Nodup
 kl:kp.length<=16
abbrev Pj (Q:VK) (s3:Int) (H1:Hp) (b c n a1 a2:Addr) (names sw:List Str) (kp:List (Str×V)):Prop:=
 ∀(m:Addr) (gt:List (Str×Str×Str)) (nx nv sm:List (Str×Str)) (a3 a4 a5 a6:Addr) (H':Hp),mJ names gt->(names++gt.map (·.1)).Nodup->(∀x∈names++gt.map (·.1),ba x)->gt.length<=60->Cc (names++gt.map (·.1)) kp nx->nx.length<=kp.length->
  gE (names++gt.map (·.1)) [] nv->gE (names++gt.map (·.1)) (nv.map (·.1)) sm->1<=nv.length->(nv.length:Int)<=s3->(sm.length:Int)<=s3->eL H' m ⟨sw,kp,gt,nx,nv,sm⟩ a1 a2 a3 a4 a5 a6->Pg H1 H' b c n->Q (.ref m) H'
theorem Pk (G:Defs P w K mg base fP fS fL fW fR dP dS dL dW dR){f:Addr}{cdv:Value}{A:Around}{outer:List Env}{s:Shared}{H:Hp}{E:XK}{Q:VK}(hr:bb 3 (A.deeper (PyProof.Rows.envOfC "_law_machine_digits" (ar di) s.heap.objs.size f cdv))) :
 ∃tR:TS,iP (wH P w K mg base f cdv A outer s H E) (List.drop 6 (aI di)) tR/\∀(σ:St) (H1:Hp) (v0 v2 v3:Option V) (z b c n a1 a2:Addr) (s0 s1 s2 s3:Int) (names sw:List Str) (kp:List (Str×V)),
  σ=[v0,some (.ref z),v2,v3,some (.ref b),some (.ref c),some (.ref n),some (.ref a1),some (.ref a2),none,none,none,none,none,none,none,none]->
  ZY K H1 z b c n a1 a2 s0 s1 s2 s3 names sw kp->Pj Q s3 H1 b c n a1 a2 names sw kp->
  tR { nx:=λ_ H'=>Q .aQ H',rt:=Q } σ H1:=by
 have cM:bb 1 _:=hr.mono (by decide)
 have mE:bb 2 _:=hr.mono (by decide)
 obtain ⟨tC,hC,rC⟩:=Pf G (outer:=outer) (H:=H) (E:=E) (Q:=Q) hr
 refine ⟨_,ai (aE (i:=9) eU.nd rfl (Or.inl rfl) (cP ah))
  (ai (dG PassesOwn.never rfl (fj rfl G.T.range (aa (aB G.gP cM rfl G.mP G.kP G.bP .nil aA (aa (pv 4) (aa (aK fJ (aP oX (pv 1) aq (λ_ _=>rfl)) aq) ah))) ah)) (aF (i:=2) eU.nd rfl (Or.inl rfl))
   (ai (aE (i:=10) eU.nd rfl (Or.inl rfl) (aB G.gS mE rfl G.mS G.kS G.bS .nil aA (aa (pv 4) (aa (pv 6) ah))))
   (ai (d6 (ft PySem.F.plainAttrs_list PySem.F.slot_list_append PySem.F.type_list_append d4 (pv 9) (aa (dJ (aa (pv 10) (aa (aB G.gL mE rfl G.mL G.kL G.bL .nil aA (aa (pv 4) (aa (pv 6) ah))) (aa (aB G.gL mE rfl G.mL G.kL G.bL .nil aA (aa (pv 4) (aa (pv 6) ah))) ah)))) ah)))
   (aw (d6 (ft PySem.F.plainAttrs_list PySem.F.slot_list_append PySem.F.type_list_append d4 (pv 6) (aa (pv 10) ah))))))) hC),?_⟩
 rintro σ H1 v0 v2 v3 z b c n a1 a2 s0 s1 s2 s3 names sw kp rfl hA kk
 obtain ⟨xs,hb,hp⟩:=hA.pb
 obtain ⟨xc,hc,LI⟩:=hA.pc
 obtain ⟨_,_,_,⟨z2a,z2b⟩,_,_⟩:=hA.hz
 have ox:=hA.nl
 refine ⟨(by show 0<=sizeLine; decide),λp eR=>?_⟩
 have vQ:b≠p:=ae hb eR
 have vS:n≠p:=ae hA.hn eR
 have D8:gg K (upd H1 p (.lst [])) z s0 s1 s2 s3:=hA.hz.same (ak.au eR)
 refine ⟨_,rfl,_,rfl,D8.ix (i:=2) (v:=.int s2) rfl ⟨_,_,rfl,rfl,b,xs,_,rfl,(by rw [ag vQ]; exact hb),hp,by omega,by omega,λd D9 xS d0 d1 xT qV pE=>?_⟩⟩
 have k0:dY H1 xS b n:=λx o h h1 _=>pE x o (by rw [ag (ae h eR)]; exact h) h1
 have hn0:xS n=some (.lst (names.map V.str)):=pE n _ (by rw [ag vS]; exact hA.hn) hA.nb
 have Gf:xS p=some (.lst []):=pE p _ af (Ne.symm vQ)
 refine ⟨_,rfl,by omega,by omega,iE (n:=d.toNat) (λi σ H2=>∃(gt:List (Str×Str×Str)) (t9 v10:Option V) (ys:List V),
  σ=[v0,some (.ref z),t9,v3,some (.ref b),some (.ref c),some (.ref n),some (.ref a1),some (.ref a2),some (.ref p),v10,none,none,none,none,none,none]/\gt.length=i/\mJ names gt/\(names++gt.map (·.1)).Nodup/\(∀x∈names++gt.map (·.1),ba x)/\
  bj H2 p (gt.map jU)/\H2 n=some (.lst ((names++gt.map (·.1)).map V.str))/\dw ys/\H2 b=some (.lst ys)/\dY H1 H2 b n) ?_ ?_ ?_⟩
 . refine ⟨[],v2,none,D9,rfl,rfl,λi r e=>?_,?_,?_,⟨[],Gf,.nil⟩,?_,xT,qV,k0⟩
   . simp at e
   . simpa using hA.nd
   . simpa using hA.nm
   . simpa using hn0
 . rintro i σ H2 hi ⟨gt,t9,v10,ys,rfl,xU,LJ,mQ,ib,⟨us,dQ,gw⟩,hV,eF,rm,kp2⟩
   have vP:=gw.length
   rw [List.length_map] at vP
   have Vl:(names++gt.map (·.1)).length=names.length+i:=by rw [List.length_append,List.length_map,xU]
   refine ⟨_,rfl,_,rfl,b,n,ys,names++gt.map (·.1),rfl,rm,eF,hA.nb,av.of hV,by omega,λnw jE H3 xK tU lJ ZZ iI=>?_⟩
   have HZ:H3 n=_:=iI n _ hV hA.nb
   have pD:H3 p=some (.lst (us.map V.ref)):=iI p _ dQ (Ne.symm vQ)
   refine ⟨_,rfl,.inl ⟨rfl,_,av.of pD⟩,_,rfl,_,rfl,_,rfl,b,n,jE,names++gt.map (·.1),rfl,ZZ,lJ,hA.nb,av.of HZ,by omega,ib,λl1 pq H4 jF jX Z0 i9=>?_⟩
   have Ia:H4 n=_:=i9 n _ HZ hA.nb
   refine ⟨_,rfl,_,rfl,b,n,pq,names++gt.map (·.1),rfl,Z0,jX,hA.nb,av.of Ia,by omega,ib,λl2 HU H5 cV jY Ib eK=>?_⟩
   have oC:H5 n=_:=eK n _ Ia hA.nb
   have iC:H5 p=some (.lst (us.map V.ref)):=eK p _ (i9 p _ pD (Ne.symm vQ)) (Ne.symm vQ)
   refine ⟨(by show 3<=sizeLine; decide),λTp ie=>?_⟩
   have oB:p≠Tp:=ae iC ie
   have Z1:b≠Tp:=ae Ib ie
   have LK:n≠Tp:=ae oC ie
   refine ⟨p,_,_,rfl,rfl,(by rw [ag oB]; exact iC),(by rw [List.length_map]; exact small (by omega)),?_⟩
   have Ea:(upd (upd H5 Tp (HO.tup [V.str nw,V.str l1,V.str l2])) p (.lst (us.map V.ref++[V.ref Tp]))) n=some (.lst ((names++gt.map (·.1)).map V.str)):=by rw [ag vS,ag LK]; exact oC
   refine ⟨_,rfl,.inl ⟨rfl,_,av.of Ea⟩,_,rfl,n,_,_,rfl,rfl,Ea,(by rw [List.length_map]; exact small (by omega)),?_⟩
   have Vm:nw∉names++gt.map (·.1):=tU
   have en:names++(gt++[(nw,l1,l2)]).map (·.1)=(names++gt.map (·.1))++[nw]:=by rw [List.map_append,← List.append_assoc]; rfl
   have tn:∀a tZ,H5 a=some (HO.tup tZ)->a≠n:=λa tZ e=>a9 e oC (by intro z; cases z)
   refine ⟨gt++[(nw,l1,l2)],_,_,HU,rfl,(by rw [List.length_append,List.length_singleton,xU]),LJ.snoc jF cV,(by rw [en]; exact nL mQ Vm),λx hx=>?_,?_,?_,jY,?_,λx o hx h1 h2=>?_⟩
   . rw [en] at hx
     rcases List.mem_append.mp hx with hx | hx
     . exact ib x hx
     . rw [List.mem_singleton.mp hx]; exact xK
   . have tp:=bj.snoc (H:=upd H5 Tp (HO.tup [V.str nw,V.str l1,V.str l2])) (p:=p) (t:=Tp) (rs:=gt.map jU) (r:=[V.str nw,V.str l1,V.str l2]) (ts:=us) (Paired.cb gw λa r e=>by
      have LL:=a9 e rm (by intro z; cases z)
      have ea:H5 a=some (.tup r):=eK a _ (i9 a _ (iI a _ e LL) LL) LL
      rw [ag (ae ea ie)]
      exact ea) af (λa tZ e z'=>by rw [z',ag oB,iC] at e; cases e)
     obtain ⟨Sh,e1,e2⟩:=tp
     refine ⟨Sh,by rw [ag (Ne.symm vS)]; exact e1,?_⟩
     have er:(gt++[(nw,l1,l2)]).map jU=gt.map jU++[[V.str nw,V.str l1,V.str l2]]:=by rw [List.map_append]; rfl
     rw [er]
     refine Paired.cb e2 λa r e=>?_
     rw [ag (a9 e Ea (by intro z; cases z))]
     exact e
   . rw [af,en]
     simp only [List.map_append,List.map_cons,List.map_nil]
   . rw [ag (Ne.symm hA.nb),ag vQ,ag Z1]
     exact Ib
   . have e5:H5 x=some o:=eK x o (i9 x o (iI x o (kp2 x o hx h1 h2) h1) h1) h1
     rw [ag h2,ag (ae hx eR),ag (ae e5 ie)]
     exact e5
 . rintro σ H2 ⟨gt,t9,v10,ys,rfl,xU,LJ,mQ,ib,xO,hV,eF,rm,kp2⟩
   have i8:H2 c=some (.lst xc):=kp2 c _ hc (Ne.symm hA.bc) (Ne.symm hA.nc)
   have pC:c≠p:=ae hc eR
   refine rC _ H2 v0 t9 v3 (some (.ref b)) v10 z c n a1 a2 p s0 s1 s2 s3 (names++gt.map (·.1)) sw kp gt rfl ⟨⟨xc,i8,LI⟩,hA.hz.wI kp2 hA.zb hA.zn,hA.zc,hV,hA.nc,(by rw [List.length_append,List.length_map]; omega),ib,
    kp2 a1 _ hA.h1 hA.b1 hA.n1,hA.c1,hA.h2.wI kp2 hb hA.hn hA.b2 hA.n2,hA.c2,xO,Ne.symm pC,hA.kd,hA.kl⟩ ?_
   intro m nx nv sm a4 a5 a6 H' q1 q2 w1 w2 l1 l2 l3 hM xR
   exact kk m gt nx nv sm p a4 a5 a6 H' LJ mQ ib (by omega) q1 q2 w1 w2 l1 l2 l3 hM λx o hx h1 h2 h3=>xR x o (kp2 x o hx h1 h3) h2
end
end Gen
namespace Gen
open PySem L2
def LM (kp:List (Str×V)):Prop:=∀r∈kp,r.2=.int 0\/r.2=.int 1\/r.2=.aQ
theorem Gg {d:Int}(h0:0<=d) (h1:d<3):∃v:V,jD [V.int 0,.int 1,.aQ] d=some v/\(v=.int 0\/v=.int 1\/v=.aQ):=by
 rcases (show d=0\/d=1\/d=2 by omega) with rfl | rfl | rfl
 . exact ⟨_,rfl,.inl rfl⟩
 . exact ⟨_,rfl,.inr (.inl rfl)⟩
 . exact ⟨_,rfl,.inr (.inr rfl)⟩
section
variable {P:Program}{w:World}{K:W.Frag}{mg:Str->Option Value}{base:Heap}{fP fS fL fW fR:Addr}{dP dS dL dW dR:FuncData}
structure Z2 (K:W.Frag) (H:Hp) (z a b c n:Addr) (s0 s1 s2 s3:Int) (sw:List Str):Prop where
 pa:∃xs,H a=some (.lst xs)/\dw xs
 pb:∃xs,H b=some (.lst xs)/\dw xs
 pc:∃xs,H c=some (.lst xs)/\dw xs
 hz:gg K H z s0 s1 s2 s3
 za:z≠a
 zb:z≠b
 zc:z≠c
 zn:z≠n
 ab:a≠b
 ac:a≠c
 bc:b≠c
 hn:H n=some (.lst (sw.map V.str))
 na:n≠a
 nb:n≠b
 nc:n≠c
 nl:sw.length<=12
 nm:∀x∈sw,ba x
 nd:sw.Nodup
def Pl (H H':Hp) (a b c n:Addr):Prop:=∀x o,H x=some o->x≠a->x≠b->x≠c->x≠n->H' x=some o
abbrev Pm (Q:VK) (s1 s3:Int) (H1:Hp) (a b c n:Addr) (sw:List Str):Prop:=
 ∀(m:Addr) (M:aS) (names:List Str) (a1 a2 a3 a4 a5 a6:Addr) (H':Hp),M.switches=sw->cy M names->names.length<=88->((M.keepers.length:Int)<=s1/\M.keepers.length<=16)->M.gates.length<=60->M.nexts.length<=16->1<=M.nevers.length->(M.nevers.length:Int)<=s3->(M.somes.length:Int)<=s3->
  eL H' m M a1 a2 a3 a4 a5 a6->Pl H1 H' a b c n->Q (.ref m) H'
theorem Pn (G:Defs P w K mg base fP fS fL fW fR dP dS dL dW dR){f:Addr}{cdv:Value}{A:Around}{outer:List Env}{s:Shared}{H:Hp}{E:XK}{Q:VK}(hr:bb 3 (A.deeper (PyProof.Rows.envOfC "_law_machine_digits" (ar di) s.heap.objs.size f cdv))) :
 ∃tR:TS,iP (wH P w K mg base f cdv A outer s H E) (List.drop 3 (aI di)) tR/\∀(σ:St) (H1:Hp) (v0 v2:Option V) (z a b c n:Addr) (s0 s1 s2 s3:Int) (sw:List Str),
  σ=[v0,some (.ref z),v2,some (.ref a),some (.ref b),some (.ref c),some (.ref n),none,none,none,none,none,none,none,none,none,none]->
  Z2 K H1 z a b c n s0 s1 s2 s3 sw->Pm Q s1 s3 H1 a b c n sw->
  tR { nx:=λ_ H'=>Q .aQ H',rt:=Q } σ H1:=by
 have cM:bb 1 _:=hr.mono (by decide)
 have mE:bb 2 _:=hr.mono (by decide)
 obtain ⟨tB,hB,rB⟩:=Pk G (outer:=outer) (H:=H) (E:=E) (Q:=Q) hr
 refine ⟨_,ai (aE (i:=7) eU.nd rfl (Or.inl rfl) (bt gv (by rfl) G.T.list PyProof.Rows.boot_list (aa (pv 6) ah)))
  (ai (aE (i:=8) eU.nd rfl (Or.inl rfl) (cP ah))
  (ai (dG PassesOwn.never rfl (fj rfl G.T.range (aa (aB G.gP cM rfl G.mP G.kP G.bP .nil aA (aa (pv 3) (aa (aK fJ (aP oX (pv 1) aq (λ_ _=>rfl)) aq) ah))) ah)) (aF (i:=2) eU.nd rfl (Or.inl rfl))
   (ai (d6 (ft PySem.F.plainAttrs_list PySem.F.slot_list_append PySem.F.type_list_append d4 (pv 6) (aa (aB G.gS mE rfl G.mS G.kS G.bS .nil aA (aa (pv 3) (aa (pv 6) ah))) ah)))
   (aw (d6 (ft PySem.F.plainAttrs_list PySem.F.slot_list_append PySem.F.type_list_append d4 (pv 8) (aa (dJ (aa (aP br (pv 6) (Hr De aq) (λ_ _=>rfl))
    (aa (aP br (cP (aa aq (aa aq (aa Ky ah)))) (aB G.gP cM rfl G.mP G.kP G.bP .nil aA (aa (pv 3) (aa aq ah))) (λ_ _=>rfl)) ah))) ah)))))) hB)),?_⟩
 rintro σ H0 v0 v2 z a b c n s0 s1 s2 s3 sw rfl hA kk
 obtain ⟨xs,ha,hp⟩:=hA.pa
 obtain ⟨xb,hb,Z3⟩:=hA.pb
 obtain ⟨xc,hc,LI⟩:=hA.pc
 obtain ⟨_,_,⟨z1a,z1b⟩,_,_,_⟩:=hA.hz
 have ox:=hA.nl
 refine ⟨_,rfl,n,_,rfl,.inl (av.of hA.hn),λa1 Au=>?_⟩
 have oE:ak H0 (upd H0 a1 (.lst (sw.map V.str))):=ak.au Au
 have Si:n≠a1:=ae hA.hn Au
 have Z4:a≠a1:=ae ha Au
 have Z5:b≠a1:=ae hb Au
 have Z6:c≠a1:=ae hc Au
 have h1:(upd H0 a1 (.lst (sw.map V.str))) a1=some (.lst (sw.map V.str)):=af
 generalize hH1:upd H0 a1 (.lst (sw.map V.str))=H1 at *
 have vT:=oE a _ ha
 have qW:=oE b _ hb
 have fi:=oE c _ hc
 have wY:=oE n _ hA.hn
 refine ⟨(by show 0<=sizeLine; decide),λp eR=>?_⟩
 have Eb:a≠p:=ae vT eR
 have vQ:b≠p:=ae qW eR
 have pC:c≠p:=ae fi eR
 have vS:n≠p:=ae wY eR
 have D8:gg K (upd H1 p (.lst [])) z s0 s1 s2 s3:=(hA.hz.same oE).same (ak.au eR)
 refine ⟨_,rfl,_,rfl,D8.ix (i:=1) (v:=.int s1) rfl ⟨_,_,rfl,rfl,a,xs,_,rfl,(by rw [ag Eb]; exact vT),hp,by omega,by omega,λd D9 xS d0 d1 xT qV pE=>?_⟩⟩
 have k0:dY H1 xS a n:=λx o h h1 _=>pE x o (by rw [ag (ae h eR)]; exact h) h1
 have hn0:xS n=some (.lst (sw.map V.str)):=pE n _ (by rw [ag vS]; exact wY) hA.na
 have Gf:xS p=some (.lst []):=pE p _ af (Ne.symm Eb)
 refine ⟨_,rfl,by omega,by omega,iE (n:=d.toNat) (λi σ H2=>∃(kp:List (Str×V)) (t9:Option V) (ys:List V),
  σ=[v0,some (.ref z),t9,some (.ref a),some (.ref b),some (.ref c),some (.ref n),some (.ref a1),some (.ref p),none,none,none,none,none,none,none,none]/\kp.length=i/\LM kp/\(sw++kp.map (·.1)).Nodup/\(∀x∈sw++kp.map (·.1),ba x)/\
  bj H2 p (kp.map jd)/\H2 n=some (.lst ((sw++kp.map (·.1)).map V.str))/\dw ys/\H2 a=some (.lst ys)/\dY H1 H2 a n) ?_ ?_ ?_⟩
 . refine ⟨[],v2,D9,rfl,rfl,(λ_ h=>nomatch h),?_,?_,⟨[],Gf,.nil⟩,?_,xT,qV,k0⟩
   . simpa using hA.nd
   . simpa using hA.nm
   . simpa using hn0
 . rintro i σ H2 hi ⟨kp,t9,ys,rfl,HX,LN,mQ,ib,⟨us,dQ,gw⟩,hV,eF,LO,kp2⟩
   have vP:=gw.length
   rw [List.length_map] at vP
   have Vl:(sw++kp.map (·.1)).length=sw.length+i:=by rw [List.length_append,List.length_map,HX]
   refine ⟨_,rfl,.inl ⟨rfl,_,av.of hV⟩,_,rfl,_,rfl,a,n,ys,sw++kp.map (·.1),rfl,LO,eF,hA.na,av.of hV,by omega,λnw jE H3 xK tU lJ Z7 iI=>?_⟩
   have HZ:H3 n=some (.lst ((sw++kp.map (·.1)).map V.str)):=iI n _ hV hA.na
   have pD:H3 p=some (.lst (us.map V.ref)):=iI p _ dQ (Ne.symm Eb)
   refine ⟨n,_,_,rfl,rfl,HZ,(by rw [List.length_map]; exact small (by omega)),?_⟩
   have jX:(upd H3 n (.lst ((sw++kp.map (·.1)).map V.str++[V.str nw]))) p=some (.lst (us.map V.ref)):=by rw [ag (Ne.symm vS)]; exact pD
   have Ic:(upd H3 n (.lst ((sw++kp.map (·.1)).map V.str++[V.str nw]))) a=some (.lst jE):=by rw [ag (Ne.symm hA.na)]; exact Z7
   refine ⟨_,rfl,.inl ⟨rfl,_,av.of jX⟩,_,rfl,_,rfl,n,_,_,.str nw,rfl,rfl,av.of af,FN _ _,(by show 3<=sizeLine; decide),λq hq=>?_⟩
   have Sj:a≠q:=ae Ic hq
   have Z8:p≠q:=ae jX hq
   have Z9:n≠q:=ae (af (H:=H3) (a:=n)) hq
   refine ⟨_,rfl,a,jE,3,rfl,(by rw [ag Sj]; exact Ic),lJ,by decide,by decide,λd2 pq H5 e0 e1 jY vO eK=>?_⟩
   obtain ⟨fv,hfv,Av⟩:=Gg e0 e1
   have hq5:H5 q=some (.lst [V.int 0,.int 1,.aQ]):=eK q _ af (Ne.symm Sj)
   have iC:H5 p=some (.lst (us.map V.ref)):=eK p _ (by rw [ag Z8]; exact jX) (Ne.symm Eb)
   have oC:H5 n=some (.lst ((sw++kp.map (·.1)).map V.str++[V.str nw])):=eK n _ (by rw [ag Z9,af]) hA.na
   refine ⟨q,_,d2,fv,rfl,rfl,av.of hq5,hfv,(by show 2<=sizeLine; decide),λTp ie=>?_⟩
   have oB:p≠Tp:=ae iC ie
   have naT:a≠Tp:=ae vO ie
   have LK:n≠Tp:=ae oC ie
   refine ⟨p,_,_,rfl,rfl,(by rw [ag oB]; exact iC),(by rw [List.length_map]; exact small (by omega)),?_⟩
   have en:sw++(kp++[(nw,fv)]).map (·.1)=(sw++kp.map (·.1))++[nw]:=by rw [List.map_append,← List.append_assoc]; rfl
   have Sk:∀x o,H3 x=some o->x≠a->x≠n->H5 x=some o:=λx o hx h1 h2=>eK x o (by
    have e4:(upd H3 n (.lst ((sw++kp.map (·.1)).map V.str++[V.str nw]))) x=some o:=by rw [ag h2]; exact hx
    rw [ag (ae e4 hq)]
    exact e4) h1
   refine ⟨kp++[(nw,fv)],_,pq,rfl,(by rw [List.length_append,List.length_singleton,HX]),λr hr=>?_,(by rw [en]; exact nL mQ tU),λx hx=>?_,?_,?_,jY,?_,λx o hx h1 h2=>?_⟩
   . rcases List.mem_append.mp hr with hr | hr
     . exact LN r hr
     . rw [List.mem_singleton.mp hr]; exact Av
   . rw [en] at hx
     rcases List.mem_append.mp hx with hx | hx
     . exact ib x hx
     . rw [List.mem_singleton.mp hx]; exact xK
   . have er:(kp++[(nw,fv)]).map jd=kp.map jd++[[V.str nw,fv]]:=by rw [List.map_append]; rfl
     rw [er]
     refine bj.snoc (Paired.cb gw λx r e=>?_) af (λx tZ e z'=>by rw [z',ag oB,iC] at e; cases e)
     have Sl:=a9 e LO (by intro z; cases z)
     have nx2:=a9 e hV (by intro z; cases z)
     have e5:H5 x=some (.tup r):=Sk x _ (iI x _ e Sl) Sl nx2
     rw [ag (ae e5 ie)]
     exact e5
   . rw [ag vS,ag LK,oC,en]
     simp only [List.map_append,List.map_cons,List.map_nil]
   . rw [ag Eb,ag naT]
     exact vO
   . have e5:H5 x=some o:=Sk x o (iI x o (kp2 x o hx h1 h2) h1) h1 h2
     rw [ag (ae hx eR),ag (ae e5 ie)]
     exact e5
 . rintro σ H2 ⟨kp,t9,ys,rfl,HX,LN,mQ,ib,xO,hV,eF,LO,kp2⟩
   have rm:H2 b=some (.lst xb):=kp2 b _ qW (Ne.symm hA.ab) (Ne.symm hA.nb)
   have i8:H2 c=some (.lst xc):=kp2 c _ fi (Ne.symm hA.ac) (Ne.symm hA.nc)
   refine rB _ H2 v0 t9 (some (.ref a)) z b c n a1 p s0 s1 s2 s3 (sw++kp.map (·.1)) sw kp rfl ⟨⟨xb,rm,Z3⟩,⟨xc,i8,LI⟩,(hA.hz.same oE).wI kp2 hA.za hA.zn,hA.zb,hA.zc,hA.zn,hA.bc,hV,hA.nb,hA.nc,(by rw [List.length_append,List.length_map]; omega),ib,mQ,
    kp2 a1 _ h1 (Ne.symm Z4) (Ne.symm Si),Ne.symm Z5,Ne.symm Z6,Ne.symm Si,xO,Ne.symm vQ,Ne.symm pC,Ne.symm vS,(List.nodup_append.mp mQ).2.1,by omega⟩ ?_
   intro m gt nx nv sm a3 a4 a5 a6 H' q1 q2 q3 q4 q5 q6 w1 w2 l1 l2 l3 hM xR
   refine kk m ⟨sw,kp,gt,nx,nv,sm⟩ (sw++kp.map (·.1)++gt.map (·.1)) a1 p a3 a4 a5 a6 H' rfl ⟨rfl,q3,q2,LN,λr hr=>(q5.1 r hr).1,λr hr=>(q5.1 r hr).2,q5.2,w1,w2,q1⟩ ?_ ⟨by show (kp.length:Int)<=s1; omega,by show kp.length<=16; omega⟩ q4 (by show nx.length<=16; omega) l1 l2 l3 hM ?_
   . simp only [List.length_append,List.length_map]
     omega
   . intro x o hx h1 h2 h3 h4
     exact xR x o (kp2 x o (oE x o hx) h1 h4) h2 h3 h4
end
end Gen
namespace L2
open PySem PySem.Spec PyProof.Rows
section
variable {X:Cx}
def Po (i j k:Nat) (ta:TA):TS:=λD σ H=>ta σ H λvs H1=>∃v w z,vs=[v,w,z]/\D.nx (((σ.set i (some v)).set j (some w)).set k (some z)) H1
theorem JK {i j k:Nat}{x y z:Str}{a b c:Expr}{ta:TA}{px py pz pt pos:Pos}{kt k2 LP} (hc:X.calm=true) (hN:X.N.Nodup) (hi:X.N[i]?=some x) (hj:X.N[j]?=some y) (hk:X.N[k]?=some z) (xQ:i≠j) (hik:i≠k) (hjk:j≠k)
 (hx:X.env.scope.names.lookup x=some .local) (hy:X.env.scope.names.lookup y=some .local) (hz:X.env.scope.names.lookup z=some .local) (ha:PA X [a,b,c] ta)
 (hw:swappedStores [.Tuple [.Name x px,.Name y py,.Name z pz] kt pt] (.Tuple [a,b,c] k2 LP) X.env=pure (some [x,y,z]))
 (hs:swapsWithSole [.Tuple [.Name x px,.Name y py,.Name z pz] kt pt] (.Tuple [a,b,c] k2 LP) pos.line X.env=pure false:=by rfl) :
 PS X (.Assign [.Tuple [.Name x px,.Name y py,.Name z pz] kt pt] (.Tuple [a,b,c] k2 LP) pos) (Po i j k ta):=by
 intro pins s σ H D I h
 rw [exec_Assign_arm]
 refine wpAny_bind (wpAny_standAt ?_)
 rw [hs]
 refine wpAny_bind (wpAny_pure ?_)
 rw [if_neg (by decide)]
 refine wpAny_bind (Tuple_ (aN (ha _ pins s σ H _ I h) λus s1 ⟨vs,H1,I1,r1,q1⟩=>?_))
 obtain ⟨v,w,t,e1,q1⟩:=q1
 subst e1
 obtain ⟨u1,u2,u3,rfl,rv,kJ,rt⟩:∃u1 u2 u3,us=[u1,u2,u3]/\RelV v u1/\RelV w u2/\RelV t u3:=by
  cases r1 with
  | cons p q=>
   cases q with
   | cons p' q'=>
    cases q' with
    | cons p2 q2=>
     cases q2
     exact ⟨_,_,_,rfl,p,p',p2⟩
 refine wpAny_newObj_type ?_ (by show 3<=sizeLine; decide)
 have I2:Inv X pins σ H1 { s1 with heap:=s1.heap.push { cls:=.type "tuple",data:=.seq [u1,u2,u3].toArray } }:=I1.kept (t':=s1.toks) λb o e=>Heap.get?_push_of_some _ e
 rw [hw]
 refine wpAny_bind (wpAny_pure ?_)
 show wpAny (model X.prog X.w) X.A (do rule "assign.swapped-stores"; let items ← unpackItems (.ref s1.heap.objs.size) 3 none; assignInOrder [λv=>bindName X.env z v,λv=>bindName X.env y v,λv=>bindName X.env x v] items.reverse; pure Flow.next) _ _ _
 refine wpAny_bind (wpAny_rule (wpAny_bind (unpackItems_tuple (items:=#[u1,u2,u3]) (I.ok.hd hc) (IsTup.new s1.heap _) λh' Aw=>?_)))
 have I3:=I2.kept (h':=h') (t':=s1.toks) λb o e=>Aw b o (Nat.ne_of_lt (Heap.lt_size e)) e
 show wpAny _ _ (assignInOrder [λv=>bindName X.env z v,λv=>bindName X.env y v,λv=>bindName X.env x v] [u3,u2,u1] >>= λ_=>pure Flow.next) _ _ _
 refine wpAny_bind (assignInOrder_cons (wpAny_bindName (kz I3 hN hk (.inl hz) rt (λs2 I4=>?_) (.inr hz))))
 refine assignInOrder_cons (wpAny_bindName (kz I4 hN hj (.inl hy) kJ (λs3 I5=>?_) (.inr hy)))
 refine assignInOrder_cons (wpAny_bindName (kz I5 hN hi (.inl hx) rv (λs4 I6=>assignInOrder_nil (wpAny_pure ?_)) (.inr hx)))
 have e:((σ.set k (some t)).set j (some w)).set i (some v)=((σ.set i (some v)).set j (some w)).set k (some t):=by
  rw [List.set_comm _ _ (Ne.symm xQ),List.set_comm (some t) (some v) (Ne.symm hik),List.set_comm (some t) (some w) (Ne.symm hjk)]
 rw [e] at I6
 exact ⟨_,H1,I6,q1⟩
end
end L2
namespace Gen
open PySem L2
theorem Ec {σ:St}{H:Hp}{A B:Hp->Prop}(h:A H):kY σ H (λb H3=>if b=true then A H3 else B H3):=by
 show (if true=true then A H else B H)
 rw [if_pos rfl]
 exact h
theorem LQ:(["_law_k", "_law_cell"]:List Str).Nodup:=by decide +kernel
abbrev je (Q:VK) (s0 s1 s3:Int) (H:Hp):Prop:=
 ∀(m:Addr) (M:aS) (names:List Str) (a1 a2 a3 a4 a5 a6:Addr) (H':Hp),cy M names->names.length<=88->((M.switches.length:Int)<=s0/\M.switches.length<=12)->((M.keepers.length:Int)<=s1/\M.keepers.length<=16)->M.gates.length<=60->M.nexts.length<=16->1<=M.nevers.length->(M.nevers.length:Int)<=s3->(M.somes.length:Int)<=s3->
  eL H' m M a1 a2 a3 a4 a5 a6->ak H H'->Q (.ref m) H'
inductive vU (K:W.Frag) (vs:List V) (H:Hp) (Q:VK):Prop
 | mk (ce z:Addr) (c0 c1 c2 s0 s1 s2 s3:Int) (h1:vs=[.ref ce,.ref z]) (h2:av K H ce [.int c0,.int c1,.int c2]) (h3:gg K H z s0 s1 s2 s3) (h4:(∃o,H z=some o)) (h5:je Q s0 s1 s3 H):vU K vs H Q
def nM (K:W.Frag):Sp:=λvs H Q _=>vU K vs H Q
section
variable {P:Program}{w:World}{K:W.Frag}{mg:Str->Option Value}{base:Heap}{fP fS fL fW fR:Addr}{dP dS dL dW dR:FuncData}
theorem Ed {f:Addr}{fd:FuncData}(F:cq K "_law_machine_digits" "_law_machine_digits" di f fd) (G:Defs P w K mg base fP fS fL fW fR dP dS dL dW dR):ax P w K mg base aD 4 f fd pB (nM K):=by
 refine F.ok eU (λvs H Q E h=>?_) (λcdv A outer s H vs Q E hr h=>?_)
 . obtain ⟨ce,z,c0,c1,c2,s0,s1,s2,s3,rfl,_⟩:=h
   rfl
 . obtain ⟨ce,z,c0,c1,c2,s0,s1,s2,s3,rfl,Ax,hz,⟨oz,ua⟩,kk⟩:=h
   have cM:bb 1 _:=hr.mono (by decide)
   have mE:bb 2 _:=hr.mono (by decide)
   obtain ⟨tA,hA,rA⟩:=Pn G (outer:=outer) (H:=H) (E:=E) (Q:=Q) hr
   refine ⟨_,ai (JK (i:=3) (j:=4) (k:=5) rfl eU.nd rfl rfl rfl (by decide) (by decide) (by decide) rfl rfl rfl (aa (cP (aa (aP (r:=iA K) br (pv 0) aq (λ_ _=>rfl)) ah)) (aa (cP (aa (aP (r:=iA K) br (pv 0) aq (λ_ _=>rfl)) ah)) (aa (cP (aa (aP (r:=iA K) br (pv 0) aq (λ_ _=>rfl)) ah)) ah))) rfl)
    (ai (aE (i:=6) eU.nd rfl (Or.inl rfl) (cP ah))
    (ai (dG PassesOwn.never rfl (fj rfl G.T.range (aa (aB G.gP cM rfl G.mP G.kP G.bP .nil aA (aa (pv 3) (aa (aK fJ (aP oX (pv 1) aq (λ_ _=>rfl)) aq) ah))) ah)) (aF (i:=2) eU.nd rfl (Or.inl rfl))
     (aw (d6 (ft PySem.F.plainAttrs_list PySem.F.slot_list_append PySem.F.type_list_append d4 (pv 6) (aa (aB G.gS mE rfl G.mS G.kS G.bS .nil aA (aa (pv 3) (aa (pv 6) ah))) ah))))) hA)),?_⟩
   obtain ⟨_,⟨z0a,z0b⟩,_,_,_,_⟩:=id hz
   refine ⟨_,rfl,ce,_,_,.int c0,rfl,rfl,Ax,rfl,(by show 1<=sizeLine; decide),λa fa=>?_⟩
   have t1:ak H (upd H a (.lst [.int c0])):=ak.au fa
   have qa:(upd H a (.lst [.int c0])) a=some (.lst [.int c0]):=af
   generalize upd H a (.lst [.int c0])=Ha at t1 qa ⊢
   refine ⟨_,rfl,ce,_,_,.int c1,rfl,rfl,ak.seq t1 Ax,rfl,(by show 1<=sizeLine; decide),λb LR=>?_⟩
   have t2:ak Ha (upd Ha b (.lst [.int c1])):=ak.au LR
   have qb:(upd Ha b (.lst [.int c1])) b=some (.lst [.int c1]):=af
   have ab:a≠b:=ae qa LR
   generalize upd Ha b (.lst [.int c1])=Hb at t2 qb ⊢
   refine ⟨_,rfl,ce,_,_,.int c2,rfl,rfl,ak.seq (t1.trans t2) Ax,rfl,(by show 1<=sizeLine; decide),λc Ie=>?_⟩
   have t3:ak Hb (upd Hb c (.lst [.int c2])):=ak.au Ie
   have hc:(upd Hb c (.lst [.int c2])) c=some (.lst [.int c2]):=af
   have bc:b≠c:=ae qb Ie
   have ac:a≠c:=ae (t2 _ _ qa) Ie
   show ∃v w z,_/\dU _ _ _ _ (upd Hb c (.lst [.int c2]))
   generalize upd Hb c (.lst [.int c2])=H2 at t3 hc ⊢
   have lL:ak H H2:=t1.trans (t2.trans t3)
   have ha:=t3 _ _ (t2 _ _ qa)
   have hb:=t3 _ _ qb
   have back:∀{Hx:Hp}{d:Addr},ak H Hx->Hx d=none->H d=none:=λs h=>by
    cases e:H _ with
    | none=>rfl
    | some o=>rw [s _ _ e] at h; cases h
   have fb:H b=none:=back t1 LR
   have fc:H c=none:=back (t1.trans t2) Ie
   refine ⟨_,_,_,rfl,?_⟩
   . -- names
     refine ⟨(by show 0<=sizeLine; decide),λn hn=>?_⟩
     have an:a≠n:=ae ha hn
     have bn:b≠n:=ae hb hn
     have cn:c≠n:=ae hc hn
     have Aq:ak H2 (upd H2 n (.lst [])):=ak.au hn
     have LS:gg K (upd H2 n (.lst [])) z s0 s1 s2 s3:=(hz.same lL).same Aq
     refine ⟨_,rfl,_,rfl,LS.ix (i:=0) (v:=.int s0) rfl ⟨_,_,rfl,rfl,a,_,_,rfl,(by rw [ag an]; exact ha),.inl ⟨_,rfl⟩,by omega,by omega,λd D9 H4 d0 d1 xT Ic pE=>?_⟩⟩
     have Ia:H4 n=some (.lst []):=pE n _ af (Ne.symm an)
     have Sm:aO H H4 a:=((ak.keep lL a).trans (ak.keep Aq a)).trans pE
     have k24:aO H2 H4 a:=(ak.keep Aq a).trans pE
     refine ⟨_,rfl,by omega,by omega,iE (n:=d.toNat) (λi σ H5=>∃(sw:List Str) (v2:Option V) (ys:List V),
      σ=[some (.ref ce),some (.ref z),v2,some (.ref a),some (.ref b),some (.ref c),some (.ref n),none,none,none,none,none,none,none,none,none,none]/\sw.length=i/\sw.Nodup/\(∀x∈sw,ba x)/\H5 n=some (.lst (sw.map V.str))/\dw ys/\H5 a=some (.lst ys)/\dY H2 H5 a n) ?_ ?_ ?_⟩
     . exact ⟨[],none,D9,rfl,rfl,List.nodup_nil,(λ_ h=>nomatch h),Ia,xT,Ic,k24.to2 n⟩
     . rintro i σ H5 hi ⟨sw,v2,ys,rfl,mU,Gh,ib,oC,eF,vO,eK⟩
       refine ⟨_,rfl,.inl ⟨rfl,_,av.of oC⟩,_,rfl,_,rfl,a,n,ys,sw,rfl,vO,eF,Ne.symm an,av.of oC,by omega,λnw jE H6 xK tU t8 LF Ar=>?_⟩
       have Ea:H6 n=some (.lst (sw.map V.str)):=Ar n _ oC (Ne.symm an)
       refine ⟨n,_,_,rfl,rfl,Ea,(by rw [List.length_map]; exact small (by omega)),?_⟩
       refine ⟨sw++[nw],_,jE,rfl,(by rw [List.length_append,List.length_singleton,mU]),nL Gh tU,λx hx=>?_,?_,t8,(by rw [ag an]; exact LF),(eK.trans (Ar.to2 n)).trans dY.Ph⟩
       . rcases List.mem_append.mp hx with hx | hx
         . exact ib x hx
         . rw [List.mem_singleton.mp hx]; exact xK
       . rw [af,List.map_append]
         rfl
     . rintro σ H5 ⟨sw,v2,ys,rfl,mU,Gh,ib,oC,eF,vO,eK⟩
       have Ib:=eK b _ hb (Ne.symm ab) bn
       have HY:=eK c _ hc (Ne.symm ac) cn
       have old:∀x o,H x=some o->x≠a/\x≠b/\x≠c/\x≠n:=λx o hx=>⟨ae hx fa,ae hx fb,ae hx fc,ae (lL x o hx) hn⟩
       have vV:ak H H5:=λx o hx=>eK x o (lL x o hx) (old x o hx).1 (old x o hx).2.2.2
       obtain ⟨za,zb,zc,zn⟩:=old z oz ua
       refine rA _ H5 (some (.ref ce)) v2 z a b c n s0 s1 s2 s3 sw rfl ⟨⟨ys,vO,eF⟩,⟨_,Ib,.inl ⟨_,rfl⟩⟩,⟨_,HY,.inl ⟨_,rfl⟩⟩,hz.same vV,za,zb,zc,zn,ab,ac,bc,oC,Ne.symm an,Ne.symm bn,Ne.symm cn,by omega,ib,Gh⟩ ?_
       intro m M names a1 a2 a3 a4 a5 a6 H' eM ok l1 l2 l3 l4 l5 l6 l7 hM xR
       refine kk m M names a1 a2 a3 a4 a5 a6 H' ok l1 ⟨by rw [eM]; omega,by rw [eM]; omega⟩ l2 l3 l4 l5 l6 l7 hM λx o hx=>?_
       obtain ⟨q1,q2,q3,q4⟩:=old x o hx
       exact xR x o (vV x o hx) q1 q2 q3 q4
end
end Gen
namespace Gen
open PySem L2
inductive ub (K:W.Frag) (vs:List V) (H:Hp) (Q:VK):Prop
 | mk (a z:Addr) (ns:List Int) (s0 s1 s2 s3:Int) (h1:vs=[.ref a,.ref z]) (h2:av K H a (ns.map V.int)) (h3:gg K H z s0 s1 s2 s3) (h4:(∃o,H z=some o)) (h5:je Q s0 s1 s3 H):ub K vs H Q
def pF (K:W.Frag):Sp:=λvs H Q _=>ub K vs H Q
abbrev LU:List Str:=["_law_script", "_law_sizes", "_law_cells"]
abbrev uT:List Str:=["_law_script", "_law_sizes"]
theorem Cd:aY LU uT (ar fw):=⟨rfl,rfl,rfl,by decide +kernel,rfl,by decide +kernel,by decide +kernel⟩
theorem Vn:(["_law_k", "_law_script"]:List Str).Nodup:=by decide +kernel
abbrev Pp (P:Program) (w:World) (K:W.Frag) (mg:Str->Option Value) (base:Heap) (f:Addr) (cdv:Value) (A:Around) (outer:List Env) (s:Shared) (H:Hp) (E:XK):Cx:=
 (nE aD P w K mg base LU "_law_machine" (ar fw) f cdv A outer s H E).xf
theorem je.same {Q:VK}{s0 s1 s3:Int}{H H1:Hp}(k:je Q s0 s1 s3 H) (s:ak H H1):je Q s0 s1 s3 H1:=λm M names a1 a2 a3 a4 a5 a6 H' ok l1 l0 l2 l3 l4 l5 l6 l7 hM s1=>k m M names a1 a2 a3 a4 a5 a6 H' ok l1 l0 l2 l3 l4 l5 l6 l7 hM (s.trans s1)
section
variable {P:Program}{w:World}{K:W.Frag}{mg:Str->Option Value}{base:Heap}{fD fC fR:Addr}{dD dC dR:FuncData}
theorem Ee (gD:ax P w K mg base aD 4 fD dD pB (nM K)) (mD:mg "_law_machine_digits" = some (.ref fD)) (kD:W.keepIn K (.ref fD)=true) (bD:Binds K dD pB [])
 {f:Addr}{cdv:Value}{A:Around}{outer:List Env}{s:Shared}{H:Hp}{E:XK}{Q:VK}(hr:bb 4 (A.deeper (PyProof.Rows.envOfC "_law_machine" (ar fw) s.heap.objs.size f cdv))) :
 ∃tR:TS,iP (Pp P w K mg base f cdv A outer s H E) (List.drop 2 (aI fw)) tR/\∀(H1:Hp) (v0:Option V) (z D:Addr) (c0 c1 c2 s0 s1 s2 s3:Int),H1 D=some (.lst [.int c0,.int c1,.int c2])->gg K H1 z s0 s1 s2 s3->(∃o,H1 z=some o)->je Q s0 s1 s3 H1->
  tR { nx:=λ_ H'=>Q .aQ H',rt:=Q } [v0,some (.ref z),some (.ref D)] H1:=by
 refine ⟨_,aw (aW (aB gD hr rfl mD kD bD .nil aA (aa (cP (aa (aP br (pv 2) aq (λ_ _=>rfl)) (aa (aP br (pv 2) aq (λ_ _=>rfl)) (aa (aK pZ (aP br (pv 2) aq (λ_ _=>rfl)) aq) ah)))) (aa (pv 1) ah)))),?_⟩
 intro H1 v0 z D c0 c1 c2 s0 s1 s2 s3 hD hz ua kk
 refine ⟨_,rfl,D,_,_,.int c0,rfl,rfl,av.of hD,rfl,_,rfl,D,_,_,.int c1,rfl,rfl,av.of hD,rfl,_,rfl,D,_,_,.int c2,rfl,rfl,av.of hD,rfl,_,_,rfl,rfl,⟨by decide,by decide⟩,(by show 3<=sizeLine; decide),λp hp=>?_⟩
 have vW:ak H1 (upd H1 p (.lst [.int c0,.int c1,.int (c2 / 2)])):=ak.au hp
 obtain ⟨o,ho⟩:=ua
 exact ⟨_,rfl,p,z,c0,c1,c2 / 2,s0,s1,s2,s3,rfl,av.of af,hz.same vW,⟨o,vW z o ho⟩,kk.same vW⟩
theorem Ce {f:Addr}{fd:FuncData}(F:cq K "_law_machine" "_law_machine" fw f fd) (T:Own mg) (gD:ax P w K mg base aD 4 fD dD pB (nM K)) (mD:mg "_law_machine_digits" = some (.ref fD)) (kD:W.keepIn K (.ref fD)=true) (bD:Binds K dD pB [])
 (gC:ax P w K mg base aD 1 fC dC ["_law_script", "_law_k"] (xF K)) (mC:mg "_law_cell_at" = some (.ref fC)) (kC:W.keepIn K (.ref fC)=true) (bC:Binds K dC ["_law_script", "_law_k"] [])
 (gR:ax P w K mg base aD 2 fR dR ["_law_cell", "_law_k"] tQ) (mR:mg "_law_rich" = some (.ref fR)) (kR:W.keepIn K (.ref fR)=true) (bR:Binds K dR ["_law_cell", "_law_k"] []) :
 ax P w K mg base aD 5 f fd uT (pF K):=by
 refine F.ok Cd (λvs H Q E h=>?_) (λcdv A outer s H vs Q E hr h=>?_)
 . obtain ⟨a,z,ns,s0,s1,s2,s3,rfl,_⟩:=h
   rfl
 . obtain ⟨a,z,ns,s0,s1,s2,s3,rfl,hS,hz,⟨oz,ua⟩,kk⟩:=h
   have cM:bb 1 _:=hr.mono (by decide)
   have mE:bb 2 _:=hr.mono (by decide)
   obtain ⟨tR,hR,rR⟩:=Ee gD mD kD bD (outer:=outer) (H:=H) (E:=E) (Q:=Q) hr
   refine ⟨_,ai (BW (i:=2) (N:=["_law_k", "_law_script"]) (js:=[none,some 0]) Cd.nd rfl rfl (by kernel_rfl) rfl (fj rfl T.range (aa aq ah)) (λ_ _ _ _ _ _=>aF (i:=0) Vn rfl (Or.inl rfl) (.inr rfl)) (λ_ _ _ _ _ _=>cm)
    (λ_ _ _ _ _ _=>aB gC cM rfl mC kC bC .nil aA (aa (pv 1) (aa (pv 0) ah))))
    (ai (cS (cN j5 (aK kF (aP br (pv 2) aq (λ_ _=>rfl)) aq) aq (dh _))
     (aw (BW (i:=2) (N:=["_law_k", "_law_cell"]) (js:=[none,none]) (g:=Fx K 2 (sZ (eS 0) (sZ (eS 1) Fw))) Cd.nd rfl rfl (by kernel_rfl) rfl (Al rfl T.enum (aa (pv 2) ah))
      (λ_ _ _ _ _ _=>jz rfl (bY (aF (i:=0) LQ rfl (Or.inl rfl) (.inr rfl)) (bY (aF (i:=1) LQ rfl (Or.inl rfl) (.inr rfl)) iD))) (λ_ _ _ _ _ _=>cm)
      (λ_ _ _ _ _ _=>aB gR mE rfl mR kR bR .nil aA (aa (pv 1) (aa (pv 0) ah))))) bz) hR),?_⟩
   refine ⟨3,rfl,by decide,by decide,λD hD=>?_⟩
   have nzD:z≠D:=ae ua hD
   refine gZ 3 (λi acc σ H2=>(∃cs:List Int,acc=cs.map V.int/\cs.length=i)/\(∃v,σ=[v,some (.ref a)])/\H2=upd H D (.lst acc)) ⟨⟨[],rfl,rfl⟩,⟨none,rfl⟩,rfl⟩ af ?_ ?_
   . rintro acc σ H2 dc ⟨⟨cs,rfl,gz⟩,_,rfl⟩
     obtain ⟨c0,c1,c2,rfl⟩:∃c0 c1 c2,cs=[c0,c1,c2]:=by
      match cs,gz with
      | [c0,c1,c2],_=>exact ⟨c0,c1,c2,rfl⟩
     refine ⟨Nat.le_refl _,?_⟩
     have oE:ak H (upd H D (.lst [.int c0,.int c1,.int c2])):=ak.au hD
     refine ⟨_,rfl,D,_,_,.int c2,rfl,rfl,av.of af,rfl,_,_,rfl,rfl,(by show (0:Int)<2; decide),rfl,_,rfl,?_⟩
     refine jS (λ_=>?_) (λ_=>?_)
     . refine ⟨_,rfl,D,rfl,⟨_,av.of af⟩,λD2 pe=>?_⟩
       have nDD:D≠D2:=ae af pe
       refine gZ 3 (λi acc σ H3=>(∃cs:List Int,acc=cs.map V.int/\cs.length=i)/\(∃u v,σ=[u,v])/\ak (upd H D (.lst [.int c0,.int c1,.int c2])) H3) ⟨⟨[],rfl,rfl⟩,⟨none,none,rfl⟩,ak.au pe⟩ af ?_ ?_
       . rintro acc σ H3 Cf ⟨⟨cs,rfl,Gi⟩,_,mX⟩
         obtain ⟨e0,e1,e2,rfl⟩:∃c0 c1 c2,cs=[c0,c1,c2]:=by
          match cs,Gi with
          | [c0,c1,c2],_=>exact ⟨c0,c1,c2,rfl⟩
         refine ⟨⟨_,av.of (mX D _ af),Nat.le_refl _⟩,?_⟩
         have vX:=oE.trans mX
         exact rR H3 _ z D2 e0 e1 e2 s0 s1 s2 s3 Cf (hz.same vX) ⟨oz,vX z oz ua⟩ (kk.same vX)
       . rintro i acc σ H3 hi Cf ⟨⟨cs,rfl,Gi⟩,⟨u,v,rfl⟩,mX⟩
         obtain ⟨ci,hx⟩:∃ci:Int,[V.int c0,V.int c1,V.int c2][i]?=some (.int ci):=by
          rcases (show i=0\/i=1\/i=2 by omega) with rfl | rfl | rfl
          . exact ⟨_,rfl⟩
          . exact ⟨_,rfl⟩
          . exact ⟨_,rfl⟩
         have vH:H3 D=some (.lst [V.int c0,V.int c1,V.int c2]):=mX D _ af
         refine ⟨⟨_,_,av.of vH,hx⟩,?_⟩
         rintro x H' ⟨Tp,xv,rfl,Aj,rfl,iz⟩
         have ex:=iz _ (av.of vH)
         rw [hx] at ex
         cases ex
         refine ⟨Tp,_,rfl,aR.of af,rfl,_,_,rfl,_,_,rfl,rfl,Ec ?_⟩
         have nDT:D2≠Tp:=ae Cf Aj
         refine ⟨_,rfl,_,rfl,_,_,rfl,by omega,by omega,λv'=>⟨_,(by rw [ag nDT]; exact Cf),(by rw [List.length_map]; exact small (by omega)),cX hi af ⟨⟨cs++[v'],?_,?_⟩,⟨_,_,rfl⟩,λy o hy=>?_⟩⟩⟩
         . rw [List.map_append]; rfl
         . rw [List.length_append,List.length_singleton,Gi]
         . have e3:=mX y o hy
           rw [ag (ae hy pe),ag (ae e3 Aj)]
           exact e3
     . exact rR _ _ z D c0 c1 c2 s0 s1 s2 s3 af (hz.same oE) ⟨oz,oE z oz ua⟩ (kk.same oE)
   . rintro i acc σ H2 hi dc ⟨⟨cs,rfl,gz⟩,⟨v,rfl⟩,rfl⟩
     refine ⟨hi,?_⟩
     rintro x H' ⟨rfl,rfl⟩
     refine d5 ?_
     refine ⟨_,rfl,_,rfl,a,ns,_,rfl,ak.seq (ak.au hD) hS,by omega,λv'=>⟨_,af,(by rw [List.length_map]; exact small (by omega)),cX hi af ⟨⟨cs++[v'],?_,?_⟩,⟨_,rfl⟩,by rw [eV]⟩⟩⟩
     . rw [List.map_append]; rfl
     . rw [List.length_append,List.length_singleton,gz]
end
end Gen
namespace PySem
open Sem (wp)
theorem nO:typeLookup (.type "list") "__getattr__" = pure none:=by rw [typeLookup_type,builtinLookup_eq_fast]; kernel_rfl
theorem qP:typeLookup (.type "list") "keys" = pure none:=by rw [typeLookup_type,builtinLookup_eq_fast]; kernel_rfl
theorem nP {A:Around}{prog:Program}{w:World}{Q:Fin->Shared->Prop}{E:Value->Shared->Prop}{h:Heap}{g d t os} {a:Addr}{items:Array Value}{n:Nat}(u:Tok) (hx:h.get? a=some { cls:=.type "list",data:=.seq items n }) (hh:A.handled=none)
 (hE:∀h' tk e,Heap.NewAttrErr h h' e (.ref a) "keys" -> E (.ref e) ⟨h',g,d,tk,os⟩) :
 wpAny (model prog w) A (Builtin.«object.__getattribute__» ⟨[.ref a,.str "keys" u],[]⟩) Q E ⟨h,g,d,t,os⟩:=by
 have hT:∀t',(⟨h,g,d,t',os⟩:Shared).TypeIs (.ref a) "list":=λt'=>⟨_,hx,rfl⟩
 have LV:=hT t
 have adJ:=qP
 have hc:[Str.ofString "__module__",Str.ofString "__name__",Str.ofString "__qualname__",Str.ofString "__doc__",Str.ofString "__annotations__"].contains (Str.ofString "keys")=false:=by decide +kernel
 unfold Builtin.«object.__getattribute__»
 repeat (any_goals (first | assumption | wp_step | refine wpAny_ite_false hc ?_))
 all_goals first
  | exact wpAny_raiseAttrError hh hE (attrMsg_fits (by decide +kernel) (by decide))
  | skip
theorem xV {A:Around}{prog:Program}{w:World}{R:Result->Shared->Prop}{h:Heap}{g d t os} {a:Addr}{items:Array Value}{n:Nat}{u:Tok}(hx:h.get? a=some { cls:=.type "list",data:=.seq items n }) (hh:A.handled=none)
 (hE:∀h' tk e,Heap.NewAttrErr h h' e (.ref a) "keys" -> R (.error (.ref e)) ⟨h',g,d,tk,os⟩) :
 codeAny (model prog w) A (.call (.builtin "list.__getattribute__") ⟨[.ref a,.str "keys" u],[]⟩) R ⟨h,g,d,t,os⟩:=
 codeAny_call_builtin F.slot_list_getattribute.plain F.entry_list_ga (F.slot_list_getattribute.check _ _ _ _ _ _ _ _ (show (⟨h,g,d,t,os⟩:Shared).TypeIs (.ref a) "list" from ⟨_,hx,rfl⟩) (F.args_list_getattribute_2 _ _) (nP u hx hh hE))
theorem xW {A:Around}{prog:Program}{w:World}{E:Value->Shared->Prop}{h:Heap}{g d t os} {a:Addr}{items:Array Value}{n:Nat}{Q:Option Value->Shared->Prop}(hx:h.get? a=some { cls:=.type "list",data:=.seq items n }) (hh:A.handled=none)
 (hQ:∀h' tk,(∀b o,h.get? b=some o->h'.get? b=some o)->Q none ⟨h',g,d,tk,os⟩):wpAny (model prog w) A (getAttr? (.ref a) "keys") Q E ⟨h,g,d,t,os⟩:=by
 have hT:(⟨h,g,d,t,os⟩:Shared).TypeIs (.ref a) "list":=⟨_,hx,rfl⟩
 have f1:=sub_AttributeError
 have f2:=F.slot_list_getattribute.lookup
 have f3:=F.slot_list_getattribute.bind (.ref a)
 have f5:=nO
 unfold getAttr? getAttrBy? getAttrBy
 repeat (any_goals (first | assumption | ((with_reducible show codeAny _ _ (Code.call (Value.builtin "list.__getattribute__") _) _ _); refine xV hx hh ?_; intro h' Ef e Aw; obtain ⟨t1,u1,he⟩:=Aw.there) | wp_step))
 exact hQ h' Ef Aw.keeps
end PySem
namespace PySem
open Sem (wp)
namespace F
theorem iZ:entryFor table "dict.update.loop" = some Builtin.«dict.update.loop»:=entryFor_of_tree (by kernel_rfl)
theorem dZ:plainId "dict.update.loop" = true:=by decide +kernel
end F
section
variable {prog:Program}{w:World}{K:Type}[DecidableEq K] {knd:KeyKind prog w K}{A:Around}{R:Result->Shared->Prop}
def xX (knd:KeyKind prog w K) (h:Heap) (u:Value) (kv:K×Value):Prop:=∃t key,u=.ref t/\h.IsTuple t #[key,kv.2]/\knd.is kv.1 key=true
theorem uU {d it l:Addr}{items:Array Value}{kvs:List (K×Value)}(LW:d≠it) (mY:d≠l) (rj:l≠it) (hz:kvs.length<=sizeLine) (hh:A.handled=none) :
 ∀(k i:Nat) (s:Shared) (tk:Tok) (acc:List (K×Value)),items.size-i=k->i<=items.size->kvs.length=items.size->s.heap.IsListIter it l i->s.heap.IsList l items->s.heap.DictOf knd d acc->acc.length<=i->
 (∀(j:Nat) (u:Value) (kv:K×Value),items[j]?=some u->kvs[j]?=some kv->xX knd s.heap u kv/\(∀t,u=.ref t->t≠d/\t≠it))->
 (∀h' tk,h'.DictOf knd d ((kvs.drop i).foldl (λa kv=>stored a kv.1 kv.2) acc)->(∀b o,b≠d->b≠it->s.heap.get? b=some o->h'.get? b=some o)->R (.ok (.ret .none)) { s with heap:=h',toks:=tk })->
 codeAny (model prog w) A (.builtin "dict.update.loop" ⟨[.ref d,.ref it,.int (i:Int) tk,.none],[]⟩) R s:=by
 intro k
 induction k with
 | zero=>
  intro i s tk acc hk hi hlen hit hl hd nQ hp hR
  have hin:i=items.size:=by omega
  refine codeAny_builtin F.iZ ?_
  rw [Around.under_plainId F.dZ _]
  show wpAny _ A.in1 (pyNext (.ref it) >>= _) _ _ s
  refine wpAny_bind (wpAny_pyNext_list_end (A:=A.in1) hh hit hl (Array.getElem?_eq_none (by omega)) λh' he=>?_)
  refine wpAny_bind (wpAny_pure (wpAny_pure ?_))
  have hd':h'.DictOf knd d acc:=let ⟨o,es,ep,ho,r⟩:=hd; ⟨o,es,ep,he d o LW ho,r⟩
  refine hR h' s.toks ?_ λb o _ hb e=>he b o hb e
  rw [List.drop_of_length_le (by omega)]
  exact hd'
 | succ k ih=>
  intro i s tk acc hk hi hlen hit hl hd nQ hp hR
  have eW:i<items.size:=by omega
  have hx:items[i]?=some items[i]:=Array.getElem?_eq_getElem eW
  have cv:kvs[i]?=some kvs[i]:=List.getElem?_eq_getElem (by omega)
  obtain ⟨⟨t,key,ht,Vo,kG⟩,cJ⟩:=hp i _ _ hx cv
  obtain ⟨ntd,nti⟩:=cJ t ht
  refine codeAny_builtin F.iZ ?_
  rw [Around.under_plainId F.dZ _]
  show wpAny _ A.in1 (pyNext (.ref it) >>= _) _ _ s
  refine wpAny_bind (wpAny_pyNext_list_item hit hl hx λh1 Vp Eg=>?_)
  rw [ht]
  have Pq:h1.IsTuple t #[key,(kvs[i]).2]:=let ⟨o,e,r⟩:=Vo; ⟨o,(Eg.2 t nti).trans e,r⟩
  refine wpAny_bind (wpAny_holding (wpAny_bind ?_))
  refine wpAny_tryCatch ?_
  unfold Builtin.Dict.pairItems
  obtain ⟨ot,e1,LB,n1,hd1⟩:=id Pq
  refine wpAny_bind (wpAny_typeOf (show ({ s with heap:=h1 } : Shared).TypeIs (.ref t) "tuple" from ⟨ot,e1,LB⟩) ?_)
  rw [if_pos (by decide)]
  refine wpAny_bind (wpAny_seqItems e1 hd1 (wpAny_pure ?_))
  show wpAny _ A.in1 (holding [key,(kvs[i]).2] (dictSet d key (kvs[i]).2)) _ _ _
  refine wpAny_holding ?_
  unfold dictSet
  try with_reducible refine wpAny_holding ?_
  have Ig:h1.DictOf knd d acc:=let ⟨o,es,ep,ho,r⟩:=hd; ⟨o,es,ep,(Eg.2 d LW).trans ho,r⟩
  refine wpAny_bind (knd.pyHash kG ?_)
  refine wpAny_dictSetHashed_pairs kG Ig (λh2 hd2 oS=>?_) (by omega)
  refine wpAny_pure ⟨plainId_quiet F.dZ _,?_⟩
  have er:rawInt ((i:Int)+1)=Value.int (((i+1:Nat):Nat):Int) 0:=by simp [rawInt]
  rw [er]
  have keep:∀b o,b≠d->b≠it->s.heap.get? b=some o->h2.get? b=some o:=λb o b1 b2 e=>(oS.2 b b1).trans ((Eg.2 b b2).trans e)
  refine ih (i+1) _ 0 (stored acc (kvs[i]).1 (kvs[i]).2) (by omega) (by omega) hlen ?_ ?_ hd2 ?_ ?_ ?_
  . obtain ⟨o,e,r⟩:=Vp
    exact ⟨o,(oS.2 it (Ne.symm LW)).trans e,r⟩
  . obtain ⟨o,e,r⟩:=hl
    exact ⟨o,keep l o (Ne.symm mY) rj e,r⟩
  . have:=stored_length_le acc (kvs[i]).1 (kvs[i]).2
    omega
  . intro j u kv hu Vq
    obtain ⟨⟨t',Vr,e',ht',qU⟩,LX⟩:=hp j u kv hu Vq
    obtain ⟨a1,a2⟩:=LX t' e'
    obtain ⟨o,e,r⟩:=ht'
    exact ⟨⟨t',Vr,e',⟨o,keep t' o a1 a2 e,r⟩,qU⟩,LX⟩
  . intro h' Ef hd' qU
    refine hR h' Ef ?_ λb o b1 b2 e=>qU b o b1 b2 (keep b o b1 b2 e)
    rw [List.drop_eq_getElem_cons (by omega),List.foldl_cons]
    exact hd'
end
section
variable {prog:Program}{w:World}{K:Type}[DecidableEq K] {knd:KeyKind prog w K}{A:Around}{E:Value->Shared->Prop}{s:Shared}
theorem xY {l:Addr}{items:Array Value}{n:Nat}{kvs:List (K×Value)}{Q:Value->Shared->Prop}(hh:A.handled=none) (hl:s.heap.get? l=some { cls:=.type "list",data:=.seq items n }) (hlen:kvs.length=items.size) (hz:kvs.length<=sizeLine)
 (hp:∀(j:Nat) (u:Value) (kv:K×Value),items[j]?=some u->kvs[j]?=some kv->xX knd s.heap u kv)
 (h:∀h' tk,h'.DictOf knd s.heap.objs.size (merged [] kvs)->(∀b o,s.heap.get? b=some o->h'.get? b=some o)->Q (.ref s.heap.objs.size) { s with heap:=h',toks:=tk }) :
 wpAny (model prog w) A (call (.type "dict") [.ref l]) Q E s:=by
 refine callType_codes (Q₁:=λobj cW=>obj=.ref s.heap.objs.size/\cW = { s with heap:=s.heap.push { cls:=.type "dict",data:=.dict #[] } }) F.kt_called_dict (F.kt_typeCall_dict_1 _) F.entry_dict_init (kt_code_dict_new _ ⟨rfl,rfl⟩) ?_
 rintro obj cW ⟨rfl,rfl⟩
 have jV:(s.heap.push { cls:=.type "dict",data:=.dict #[] }).DictOf knd s.heap.objs.size []:=Heap.DictOf.new s.heap
 have tP:(s.heap.push { cls:=.type "dict",data:=.dict #[] }).get? l=some { cls:=.type "list",data:=.seq items n }:=Heap.get?_push_of_some _ hl
 refine ⟨jV.typeIs,F.args_dict_init_2 _ _,?_⟩
 unfold Builtin.«dict.__init__»
 refine wpAny_bind ?_
 unfold Builtin.Dict.selfAndRest
 refine wpAny_bind (wpAny_notOrdered_dict jV.typeIs ?_)
 show wpAny _ _ (pure (s.heap.objs.size,[Value.ref l])) _ _ _
 refine wpAny_pure ?_
 show wpAny _ _ (Builtin.Dict.updateFrom "dict.__init__" s.heap.objs.size (.ref l) [] .none) _ _ _
 unfold Builtin.Dict.updateFrom
 refine wpAny_bind (wpAny_typeOf (show ({ s with heap:=s.heap.push { cls:=.type "dict",data:=.dict #[] } } : Shared).TypeIs (.ref l) "list" from ⟨_,tP,rfl⟩) ?_)
 rw [if_pos (by decide)]
 generalize Eg:({ s with heap:=s.heap.push { cls:=.type "dict",data:=.dict #[] } } : Shared)=s1 at *
 obtain ⟨g1,g2,g3,g4,g5⟩:=s1
 cases Eg
 refine wpAny_bind (xW tP (by first | exact hh | rfl) λh2 tk2 k2=>?_)
 rw [if_pos (show (none:Option Value).isNone=true from rfl)]
 have cV:h2.get? l=some { cls:=.type "list",data:=.seq items n }:=k2 _ _ tP
 have lt2:∀b o,(s.heap.push { cls:=.type "dict",data:=.dict #[] }).get? b=some o->b<h2.objs.size:=λb o e=>Heap.lt_size (k2 b o e)
 refine wpAny_bind (wpAny_rule (wpAny_bind (wpAny_pyIter_list (s:={ heap:=h2,gens:=s.gens,drawn:=s.drawn,toks:=tk2,os:=s.os }) (items:=items) ⟨_,cV,rfl,n,rfl⟩ ?_)))
 refine wpAny_pure ⟨plainId_quiet F.dZ _,?_⟩
 have hd2:h2.DictOf knd s.heap.objs.size []:=let ⟨o,es,ep,ho,r⟩:=jV; ⟨o,es,ep,k2 _ _ ho,r⟩
 have mY:s.heap.objs.size<h2.objs.size:=let ⟨o,es,ep,ho,r⟩:=jV; lt2 _ _ ho
 have DY:l<s.heap.objs.size:=Heap.lt_size hl
 refine uU (knd:=knd) (d:=s.heap.objs.size) (it:=h2.objs.size) (l:=l) (items:=items) (kvs:=kvs) (Nat.ne_of_lt mY) (Nat.ne_of_gt DY) (Nat.ne_of_lt (Nat.lt_trans DY mY)) hz (by first | exact hh | rfl) items.size 0 _ 0 [] rfl (Nat.zero_le _) hlen
  ⟨_,Heap.get?_push_size _ rfl,rfl,rfl⟩ ⟨_,Heap.get?_push_of_some _ cV,rfl,n,rfl⟩ ?_ (Nat.le_refl _) ?_ ?_
 . obtain ⟨o,es,ep,ho,r⟩:=hd2
   exact ⟨o,es,ep,Heap.get?_push_of_some _ ho,r⟩
 . intro j u kv hu cv
   obtain ⟨t,key,e,⟨o,eo,r⟩,hk⟩:=hp j u kv hu cv
   have ht:t<s.heap.objs.size:=Heap.lt_size eo
   refine ⟨⟨t,key,e,⟨o,Heap.get?_push_of_some _ (k2 _ _ (Heap.get?_push_of_some _ eo)),r⟩,hk⟩,λt' e'=>?_⟩
   rw [e] at e'
   cases e'
   exact ⟨Nat.ne_of_lt ht,Nat.ne_of_lt (Nat.lt_trans ht mY)⟩
 . intro h' Ef hd' qU
   refine ⟨rfl,h h' Ef ?_ λb o e=>?_⟩
   . simpa [merged] using hd'
   . have hb:b<s.heap.objs.size:=Heap.lt_size e
     exact qU b o (Nat.ne_of_lt hb) (Nat.ne_of_lt (Nat.lt_trans hb mY)) (Heap.get?_push_of_some _ (k2 _ _ (Heap.get?_push_of_some _ e)))
end
end PySem
namespace L2
open PySem PySem.Spec PyProof.Rows
section
variable {X:Cx}
theorem Pr {P:Program}{w:World}{k:Key}{u:Value}(h:(bx P w).is k u=true):RelV (kV k) u:=by
 rw [BD] at h
 cases k with
 | inl i=>cases u <;> first | (simp [iO,Value.isInt] at h; done) | (simp [iO,Value.isInt] at h; subst h; exact ⟨_,rfl⟩)
 | inr x=>cases u <;> first | (simp [iO,Value.isStrOf] at h; done) | (simp [iO,Value.isStrOf] at h; subst h; exact ⟨_,rfl⟩)
theorem pairs_at {P:Program}{w:World}{H:Hp}{h:Heap}(ok:d9 P w H h):∀{ts:List Addr}{kvs:List (Key×V)}{us:List Value},Paired (λt kv=>H t=some (.tup [kV kv.1,kv.2])) ts kvs->Vals (ts.map V.ref) us->
 ∃vs:List (Key×Value),KV kvs vs/\Paired (λu kv=>xX (bx P w) h u kv) us vs
 | [],[],us,.nil,r=>by
  cases r
  exact ⟨[],.nil,.nil⟩
 | t::ts,kv::kvs,us,.cons e p,r=>by
  cases r with
  | @cons _ u _ Sh ru r'=>
   obtain ⟨vs,k1,k2⟩:=pairs_at ok p r'
   cases (show u=Value.ref t from ru)
   obtain ⟨_,its,rv,ip⟩:=(show bJ P w H h t (.tup [kV kv.1,kv.2]) from ok t _ e)
   obtain ⟨key,val,rfl,rk,rl⟩:=vals2 rv
   exact ⟨(kv.1,val)::vs,.cons ⟨rfl,rl⟩ k1,.cons ⟨t,key,rfl,ip,lI rk⟩ k2⟩
theorem rn {α β:Type}{F:α->β->Prop} : ∀{l₁:List α}{l₂:List β}{i:Nat}{a:α}{b:β},Paired F l₁ l₂->l₁[i]?=some a->l₂[i]?=some b->F a b
 | _,_,i,a,b,.nil,h,_=>by simp at h
 | _,_,0,a,b,.cons h t,e1,e2=>by
  simp at e1 e2
  subst e1 e2
  exact h
 | _,_,i+1,a,b,.cons h t,e1,e2=>rn (i:=i) t (by simpa using e1) (by simpa using e2)
theorem du (hc:X.calm=true):gp X (.type "dict") (λxs H Q=>∃p ts kvs,xs=[.ref p]/\H p=some (.lst (ts.map V.ref))/\Paired (λt kv=>H t=some (.tup [kV kv.1,kv.2])) ts kvs/\∀d,H d=none->Q (.ref d) (upd H d (.dK (bw [] kvs)))):=by
 intro pins s σ H xs us Q I r h
 obtain ⟨p,ts,kvs,rfl,hp,hT,q⟩:=h
 obtain ⟨u,rfl,rx⟩:=vals1 r
 cases (show u=Value.ref p from rx)
 obtain ⟨hz,its,n,rv,e⟩:=(show bJ X.prog X.w H s.heap p (.lst (ts.map V.ref)) from I.hok p _ hp)
 obtain ⟨vs,kv,pv⟩:=pairs_at I.hok hT rv
 have l1:vs.length=its.toArray.size:=by rw [List.size_toArray]; exact pv.length.symm
 have l2:kvs.length=vs.length:=kv.length
 have l3:vs.length<=sizeLine:=by
  have:=hT.length
  rw [List.length_map] at hz
  omega
 refine xY (knd:=bx X.prog X.w) (kvs:=vs) (I.ok.hd hc) e l1 l3 (λj u kv hu cv=>rn pv (by simpa using hu) cv) λh' tk dd kk=>?_
 refine ⟨.ref s.heap.objs.size,_,I.laid (a:=s.heap.objs.size) (o:=.dK (bw [] kvs)) kk (Nat.le_refl _) (oW ?_ (beq_eq_false_iff_ne.mpr (Ne.symm (Nat.ne_of_lt I.big))) (KV.merge kv .nil) dd),rfl,q _ (I.hok.fresh (Nat.le_refl _))⟩
 have:=eI kvs []
 simp at this
 omega
theorem ff:gp X (.type "dict") (λxs H Q=>∃p kvs,xs=[.ref p]/\Rd H p (.dK kvs)/\∀d,H d=none->Q (.ref d) (upd H d (.dK kvs))):=by
 intro pins s σ H xs us Q I r h
 obtain ⟨p,kvs,rfl,hp,q⟩:=h
 obtain ⟨u,rfl,rx⟩:=vals1 r
 cases (show u=Value.ref p from rx)
 exact FK I hp λd s' hd I'=>⟨.ref d,_,I',rfl,q d hd⟩
theorem eO:gp X (.builtin "isinstance") (λxs H Q=>∃x t c b,xs=[x,.ty c]/\jc X.K H x t/\W.kitOne X.K t (.type c)=some b/\Q (.bl b) H):=by
 intro pins s σ H xs us Q I r h
 obtain ⟨x,t,c,b,rfl,ty,e,q⟩:=h
 obtain ⟨u,v,rfl,rx,ry⟩:=vals2 r
 cases (show v=Value.type c from ry)
 exact Dk I rx ty e λtk=>⟨.bl b,H,I.tok _,rfl,q⟩
theorem mZ (hc:X.calm=true):gp X (.type "list") (λxs H Q=>∃p kvs,xs=[.ref p]/\Rd H p (.dK kvs)/\∀l,H l=none->Q (.ref l) (upd H l (.lst (kvs.map λkv=>kV kv.1)))):=by
 intro pins s σ H xs us Q I r h
 obtain ⟨p,kvs,rfl,hp,q⟩:=h
 obtain ⟨u,rfl,rx⟩:=vals1 r
 cases (show u=Value.ref p from rx)
 obtain ⟨z,hd,vs,rel,dd⟩:=jt I.hok hp
 obtain ⟨ep,da⟩:=dd.dictAt
 have hlen:kvs.length=vs.length:=rel.length
 refine W.kdl_call (W.kdl_dict (knd:=bx X.prog X.w) (ep:=ep) hd) (I.ok.hd hc) da (by omega) λh' tk dz c' kk e it=>?_
 have rv:Vals (kvs.map λkv=>kV kv.1) dz.toList:=by
  obtain ⟨i1,i2⟩:=it
  have gen:∀(kvs:List (Key×V)) (vs:List (Key×Value)) (us:List Value),KV kvs vs->us.length=vs.length->(∀(j:Nat) v,us[j]?=some v->∃k x,vs[j]?=some (k,x)/\(bx X.prog X.w).is k v=true)->Vals (kvs.map λkv=>kV kv.1) us:=by
   intro kvs vs us kv
   induction kv generalizing us with
   | nil=>
    intro hl _
    have:us=[]:=List.length_eq_zero_iff.mp hl
    subst this
    exact .nil
   | @cons a b as bs hab t ih=>
    intro hl hu
    match us,hl with
    | u::us,hl=>
     obtain ⟨k,x,e1,e2⟩:=hu 0 u rfl
     simp at e1
     have ek:k=a.1:=by rw [hab.1,e1]
     subst ek
     refine .cons (Pr e2) (ih us (by simpa using hl) λj v hj=>?_)
     obtain ⟨k',x',e3,e4⟩:=hu (j+1) v (by simpa using hj)
     exact ⟨k',x',by simpa using e3,e4⟩
  exact gen kvs vs dz.toList rel (by rw [Array.length_toList,i1]) λj v hj=>i2 j v (by rw [← Array.getElem?_toList]; exact hj)
 refine ⟨.ref s.heap.objs.size,_,I.laid (t':=tk) kk (Nat.le_refl _) (show bJ X.prog X.w _ h' _ (.lst (kvs.map λkv=>kV kv.1)) from ⟨by rw [List.length_map]; exact z,dz.toList,c',rv,by simpa using e⟩),rfl,q _ (I.hok.fresh (Nat.le_refl _))⟩
end
section
variable {X:Cx}{pins:List (Addr×Obj)}{σ:St}{H:Hp}{s:Shared}{d:Addr}{kvs:List (Key×V)}
end
section
variable {X:Cx}
def Vs (K:W.Frag):R2:=λx y H Q=>∃p p' xs,x=.ref p/\y=.ref p'/\av K H p xs/\av K H p' xs/\xs.all iW=true/\(∀z∈xs,iG z z=true)/\Q (.bl false) H
theorem LY (hu:X.A.units+1<cLine):fk X (compareOp .NotEq) (Vs X.K):=by
 intro pins s σ H x y v u Q I rx ry h
 obtain ⟨p,p',xs,rfl,rfl,h1,h2,hf,hs,q⟩:=h
 cases (show v=Value.ref p from rx)
 cases (show u=Value.ref p' from ry)
 obtain ⟨its,rv,pl,hz⟩:=I.list h1
 obtain ⟨its',uc,Ay,DA⟩:=I.list h2
 have l1:=rv.length
 have l2:=uc.length
 have key:=SeqAt.RcNeAt.lists (A:=X.A) (s:=s) (e:=λ_=>true) pl.isList Ay.isList (by simp only [List.size_toArray]; omega) (by omega) (λj g1 g2=>?_) X.prog X.w X.xe
 . exact key _ (by
    have e:(!(List.range its.toArray.size).all λ_=>true)=false:=by simp
    rw [e]
    exact ⟨.bl false,H,I,rfl,q⟩)
 . have hj:j<xs.length:=by simp only [List.size_toArray] at g1; omega
   obtain ⟨w1,e1,r1⟩:=rv.get (List.getElem?_eq_getElem hj)
   obtain ⟨w2,e2,r2⟩:=uc.get (List.getElem?_eq_getElem hj)
   have fl:iW xs[j]=true:=List.all_eq_true.mp hf _ (List.getElem_mem hj)
   have z:=oY (A:=X.A.in1) (s:=s) r1 r2 fl fl
   rw [hs _ (List.getElem_mem hj)] at z
   have a1:its.toArray[j]=w1:=by
    have:=(List.getElem?_eq_some_iff.mp e1).2
    simpa using this
   have a2:its'.toArray[j]=w2:=by
    have:=(List.getElem?_eq_some_iff.mp e2).2
    simpa using this
   rw [a1,a2]
   exact z
end
end L2
namespace PySem
open Sem (wp)
section
variable {prog:Program}{w:World}{A:Around}{E:Value->Shared->Prop}{s:Shared}
theorem nS {it t:Addr}{i:Nat}{items} {x:Value}{Q:Value->Shared->Prop}(hit:s.heap.IsTupleIter it t i) (ht:s.heap.IsTuple t items) (hx:items[i]?=some x)
 (hQ:∀h',h'.IsTupleIter it t (i+1)->Heap.SameBut it s.heap h'->Q x { s with heap:=h' }):wpAny (model prog w) A (Builtin.SmallTypes.nextOf (.ref it)) Q E s:=by
 obtain ⟨o,ho,hc,hd⟩:=id hit
 obtain ⟨ol,LZ,_,nl,mY⟩:=ht
 unfold Builtin.SmallTypes.nextOf
 refine wpAny_bind (wpAny_callSpecial?_slot (name:=Str.ofString "__next__") hit.typeIs F.slot_tuple_iterator_next (wpAny_call_entry F.slot_tuple_iterator_next hit.typeIs F.entry_tuple_iterator_next ?_ (F.args_tuple_iterator_next_1 _)))
 show wpAny _ _ (field (.ref it) 0 >>= _) _ _ s
 refine wpAny_bind (wpAny_field ho hd (x:=.ref t) rfl ?_)
 show wpAny _ _ (if (Value.ref t == Value.none)=true then _ else _) _ _ s
 rw [if_neg (show ¬ ((Value.ref t == Value.none)=true) from Bool.false_ne_true)]
 show wpAny _ _ (field (.ref it) 1 >>= _) _ _ s
 refine wpAny_bind (wpAny_field ho hd (x:=.int i 0) rfl ?_)
 show wpAny _ _ (seqItems? (.ref t) >>= _) _ _ s
 refine wpAny_bind (wpAny_seqItems LZ mY ?_)
 simp only [Int.toNat_natCast,hx]
 refine wpAny_bind (wpAny_setField ho hd (by simp) (wpAny_pure ⟨x,rfl,wpAny_pure (hQ _ ?_ (Heap.SameBut.update ..))⟩))
 exact ⟨_,Heap.get?_update_self _ ho (Obj.isFreed_of_fields (Obj.data_mapFields hd _)),(Obj.cls_mapFields ..).trans hc,by rw [Obj.data_mapFields hd]; simp [rawInt]⟩
theorem oM {it t:Addr}{i:Nat}{items} {Q:Value->Shared->Prop}(hh:A.handled=none) (hit:s.heap.IsTupleIter it t i) (ht:s.heap.IsTuple t items) (hx:items[i]?=none)
 (hE:∀h' e,Heap.ExtBut it s.heap h'->(∃o,h'.get? e=some o/\o.cls=.type "StopIteration")->E (.ref e) { s with heap:=h' }):wpAny (model prog w) A (Builtin.SmallTypes.nextOf (.ref it)) Q E s:=by
 obtain ⟨o,ho,hc,hd⟩:=id hit
 obtain ⟨ol,LZ,_,nl,mY⟩:=ht
 unfold Builtin.SmallTypes.nextOf
 refine wpAny_bind (wpAny_callSpecial?_slot (name:=Str.ofString "__next__") hit.typeIs F.slot_tuple_iterator_next (wpAny_call_entry F.slot_tuple_iterator_next hit.typeIs F.entry_tuple_iterator_next ?_ (F.args_tuple_iterator_next_1 _)))
 show wpAny _ _ (field (.ref it) 0 >>= _) _ _ s
 refine wpAny_bind (wpAny_field ho hd (x:=.ref t) rfl ?_)
 show wpAny _ _ (if (Value.ref t == Value.none)=true then _ else _) _ _ s
 rw [if_neg (show ¬ ((Value.ref t == Value.none)=true) from Bool.false_ne_true)]
 show wpAny _ _ (field (.ref it) 1 >>= _) _ _ s
 refine wpAny_bind (wpAny_field ho hd (x:=.int i 0) rfl ?_)
 show wpAny _ _ (seqItems? (.ref t) >>= _) _ _ s
 refine wpAny_bind (wpAny_seqItems LZ mY ?_)
 simp only [Int.toNat_natCast,hx]
 refine wpAny_bind (wpAny_rule (wpAny_bind (wpAny_setField ho hd (by simp) ?_)))
 show wpAny _ _ (newExc (.type "StopIteration") [] >>= _) _ _ _
 refine wpAny_bind ?_
 simp only [newExc,newTuple]
 refine wpAny_bind (wpAny_newObj_type ?_ (by size_fits))
 refine wpAny_bind (m:=firstArgMember _ _) (wpAny_of_eq (a:=Value.none) (by first | rfl | (simp only [firstArgMember]; rfl)) ?_)
 refine wpAny_newObj_type ?_ (by size_fits)
 simp only [raiseNew]
 refine wpAny_bind (wpAny_handled ?_)
 first | rw [show A.in1.handled=none from hh] | rw [hh]
 refine wpAny_bind (wpAny_pure (wpAny_throw ?_))
 exact hE _ _ (((Heap.SameBut.update ..).extBut.push _).push _) ⟨_,Heap.get?_push_size _ rfl,rfl⟩
end
def m7 (tp:Bool) (h:Heap) (l:Addr) (xs:Array Value):Prop:=match tp with | true=>h.IsTuple l xs | false=>h.IsList l xs
def gG (tp:Bool) (h:Heap) (i l:Addr) (k:Nat):Prop:=match tp with | true=>h.IsTupleIter i l k | false=>h.IsListIter i l k
theorem m7.at {tp:Bool}{h h':Heap}{l:Addr}{xs:Array Value}(x:m7 tp h l xs) (k:∀o,h.get? l=some o->h'.get? l=some o):m7 tp h' l xs:=by
 cases tp <;> (obtain ⟨o,e,r⟩:=x; exact ⟨o,k o e,r⟩)
theorem gG.at {tp:Bool}{h h':Heap}{i l:Addr}{n:Nat}(x:gG tp h i l n) (k:∀o,h.get? i=some o->h'.get? i=some o):gG tp h' i l n:=by
 cases tp <;> (obtain ⟨o,e,r⟩:=x; exact ⟨o,k o e,r⟩)
theorem gG.there {tp:Bool}{h:Heap}{i l:Addr}{n:Nat}(x:gG tp h i l n):∃o,h.get? i=some o/\∃vs,o.data=.fields vs:=by
 cases tp <;> (obtain ⟨o,e,c,d⟩:=x; exact ⟨o,e,_,d⟩)
theorem m7.there {tp:Bool}{h:Heap}{l:Addr}{xs:Array Value}(x:m7 tp h l xs):∃o,h.get? l=some o:=by
 cases tp <;> (obtain ⟨o,e,r⟩:=x; exact ⟨o,e⟩)
section
variable {prog:Program}{w:World}{A:Around}{E:Value->Shared->Prop}{s:Shared}{tp:Bool}
theorem qt {it l:Addr}{i:Nat}{items} {x:Value}{Q:Value->Shared->Prop}(hit:gG tp s.heap it l i) (hl:m7 tp s.heap l items) (hx:items[i]?=some x)
 (hQ:∀h',gG tp h' it l (i+1)->Heap.SameBut it s.heap h'->Q x { s with heap:=h' }):wpAny (model prog w) A (Builtin.SmallTypes.nextOf (.ref it)) Q E s:=by
 cases tp
 . exact wpAny_nextOf_list_item hit hl hx hQ
 . exact nS hit hl hx hQ
theorem L3 {it l:Addr}{i:Nat}{items} {Q:Value->Shared->Prop}(hh:A.handled=none) (hit:gG tp s.heap it l i) (hl:m7 tp s.heap l items) (hx:items[i]?=none)
 (hE:∀h' e,Heap.ExtBut it s.heap h'->(∃o,h'.get? e=some o/\o.cls=.type "StopIteration")->E (.ref e) { s with heap:=h' }):wpAny (model prog w) A (Builtin.SmallTypes.nextOf (.ref it)) Q E s:=by
 cases tp
 . exact wpAny_nextOf_list_end hh hit hl hx hE
 . exact oM hh hit hl hx hE
theorem YT {z TI TO i1 i2 l1 l2:Addr}{k:Nat}{xs ys:Array Value}{x y a b:Value}{Q:Option Value->Shared->Prop}(nd:[z,TI,TO,i1,i2].Nodup) (n1:l1∉[z,TI,TO,i1,i2]) (n2:l2∉[z,TI,TO,i1,i2])
 (hz:IsZip s.heap z TI TO .none) (lj:IsPair s.heap TI (.ref i1) (.ref i2)) (pG:IsPair s.heap TO a b) (h1:gG tp s.heap i1 l1 k) (h2:gG tp s.heap i2 l2 k) (jF:m7 tp s.heap l1 xs) (cV:m7 tp s.heap l2 ys) (hx:xs[k]?=some x) (hy:ys[k]?=some y)
 (hQ:∀h',IsZip h' z TI TO (rawInt s.heap.objs.size)->IsPair h' TO x y->gG tp h' i1 l1 (k+1)->gG tp h' i2 l2 (k+1)->IsPair h' s.heap.objs.size x y->
  (∀c o,c≠z->c≠TO->c≠i1->c≠i2->s.heap.get? c=some o->h'.get? c=some o)->Q (some (.ref s.heap.objs.size)) { s with heap:=h' }):wpAny (model prog w) A (pyNext (.ref z)) Q E s:=by
 simp only [List.nodup_cons,List.mem_cons,List.not_mem_nil,or_false,not_or] at nd n1 n2
 obtain ⟨⟨Eh,oF,oG,rp⟩,⟨TITO,TIi1,TIi2⟩,⟨TOi1,TOi2⟩,i12,_⟩:=nd
 obtain ⟨l1z,L4,l1TO,l1i1,l1i2⟩:=n1
 obtain ⟨l2z,Vt,l2TO,l2i1,l2i2⟩:=n2
 have hT:s.TypeIs (.ref z) "zip":=⟨_,hz,rfl⟩
 unfold pyNext
 refine wpAny_bind (wpAny_attempt (wpAny_callSpecial?_slot (name:=Str.ofString "__next__") hT F.slot_zip_next (wpAny_call_entry F.slot_zip_next hT F.entry_zip_next ?_ (F.args_zip_next_1 _))))
 show wpAny _ _ (field (.ref z) 2 >>= _) _ _ _
 refine wpAny_bind (wpAny_field hz rfl (x:=.bool false) rfl ?_)
 show wpAny _ _ (field (.ref z) 3 >>= _) _ _ _
 refine wpAny_bind (wpAny_field hz rfl (x:=.ref TI) rfl ?_)
 refine wpAny_bind (wpAny_seqItems lj rfl ?_)
 show wpAny _ _ (Builtin.SmallTypes.ownedTupleIsFree (.ref z) >>= _) _ _ _
 refine wpAny_bind ?_
 unfold Builtin.SmallTypes.ownedTupleIsFree
 refine wpAny_bind (wpAny_field hz rfl (x:=.none) rfl (wpAny_pure ?_))
 simp only [if_true]
 refine wpAny_bind (wpAny_rule ?_)
 refine wpAny_bind (wpAny_field hz rfl (x:=.ref TO) rfl ?_)
 refine wpAny_bind (wpAny_setField_rec hz (by simp) λkN pH ud=>?_)
 replace pH:IsZip kN z TI TO .ellipsis:=pH
 refine wpAny_bind ?_
 simp only [List.zipIdx_cons,List.zipIdx_nil,List.forIn_cons,List.forIn_nil]
 have k1:∀c o,c≠z->s.heap.get? c=some o->kN.get? c=some o:=λc o n e=>ud.extBut _ _ n e
 refine wpAny_bind (wpAny_bind (wpAny_onRaise ?_))
 show wpAny _ _ (Builtin.SmallTypes.nextOf (.ref i1) >>= _) _ _ _
 refine wpAny_bind (qt (h1.at λo e=>k1 _ o (Ne.symm oG) e) (jF.at λo e=>k1 _ o l1z e) hx λrP L5 vY=>wpAny_pure ?_)
 have k2:∀c o,c≠i1->kN.get? c=some o->rP.get? c=some o:=λc o n e=>vY.extBut _ _ n e
 have xZ:IsPair rP TO a b:=k2 _ _ TOi1 (k1 _ _ (Ne.symm oF) pG)
 refine wpAny_bind (wpAny_seqItems xZ rfl ?_)
 refine wpAny_bind (wpAny_updateSeq_pair xZ λuO sq vZ=>?_)
 replace sq:IsPair uO TO x b:=sq
 have k3:∀c o,c≠TO->rP.get? c=some o->uO.get? c=some o:=λc o n e=>vZ.extBut _ _ n e
 refine wpAny_bind (wpAny_letGo (wpAny_pure ?_))
 refine wpAny_bind (wpAny_bind (wpAny_onRaise ?_))
 show wpAny _ _ (Builtin.SmallTypes.nextOf (.ref i2) >>= _) _ _ _
 refine wpAny_bind (qt (h2.at λo e=>k3 _ o (Ne.symm TOi2) (k2 _ o (Ne.symm i12) (k1 _ o (Ne.symm rp) e))) (cV.at λo e=>k3 _ o l2TO (k2 _ o l2i1 (k1 _ o l2z e))) hy λBV L6 Ei=>wpAny_pure ?_)
 have k4:∀c o,c≠i2->uO.get? c=some o->BV.get? c=some o:=λc o n e=>Ei.extBut _ _ n e
 have x8:IsPair BV TO x b:=k4 _ _ TOi2 sq
 refine wpAny_bind (wpAny_seqItems x8 rfl ?_)
 refine wpAny_bind (wpAny_updateSeq_pair x8 λia nT Ej=>?_)
 replace nT:IsPair ia TO x y:=nT
 have k5:∀c o,c≠TO->BV.get? c=some o->ia.get? c=some o:=λc o n e=>Ej.extBut _ _ n e
 refine wpAny_bind (wpAny_letGo (wpAny_pure (wpAny_pure ?_)))
 refine wpAny_bind (wpAny_seqItems nT rfl ?_)
 refine wpAny_bind (wpAny_newTuple ?_)
 have hsz:ia.objs.size=s.heap.objs.size:=by rw [Ej.1,Ei.1,vZ.1,vY.1,ud.1]
 have Ek:IsZip ia z TI TO .ellipsis:=k5 _ _ oF (k4 _ _ rp (k3 _ _ oF (k2 _ _ oG pH)))
 have L7:∀c o,c≠z->c≠TO->c≠i1->c≠i2->s.heap.get? c=some o->ia.get? c=some o:=λc o c1 c2 c3 c4 e=>k5 _ _ c2 (k4 _ _ c4 (k3 _ _ c2 (k2 _ _ c3 (k1 _ _ c1 e))))
 have L8:gG tp ia i1 l1 (k+1):=L5.at λo e=>k5 _ _ (Ne.symm TOi1) (k4 _ _ i12 (k3 _ _ (Ne.symm TOi1) e))
 have L9:gG tp ia i2 l2 (k+1):=L6.at λo e=>k5 _ _ (Ne.symm TOi2) e
 have x9:z<ia.objs.size:=Heap.lt_size Ek
 show wpAny _ _ (Builtin.SmallTypes.ownedTupleHandOut (.ref z) (.ref ia.objs.size) >>= _) _ _ _
 refine wpAny_bind ?_
 unfold Builtin.SmallTypes.ownedTupleHandOut
 have Ma:IsZip (ia.push { cls:=.type "tuple",data:=.seq #[x,y] }) z TI TO .ellipsis:=Heap.get?_push_of_some _ Ek
 refine wpAny_bind (wpAny_setField_rec Ma (by simp) λVu ya El=>?_)
 replace ya:IsZip Vu z TI TO (rawInt ia.objs.size):=ya
 refine wpAny_setField_rec ya (by simp) λCi ue Em=>?_
 replace ue:IsZip Ci z TI TO (rawInt ia.objs.size):=ue
 have up:∀c o,c≠z->ia.get? c=some o->Ci.get? c=some o:=λc o c1 e=>Em.extBut _ _ c1 (El.extBut _ _ c1 (Heap.get?_push_of_some _ e))
 have En:IsPair Ci ia.objs.size x y:=Em.extBut _ _ (Nat.ne_of_gt x9) (El.extBut _ _ (Nat.ne_of_gt x9) (Heap.get?_push_size _ rfl))
 rw [hsz] at ue En
 refine wpAny_pure ⟨.ref ia.objs.size,rfl,wpAny_pure ?_⟩
 rw [hsz]
 exact hQ Ci ue (up _ _ (Ne.symm oF) nT) (L8.at λo e=>up _ o (Ne.symm oG) e) (L9.at λo e=>up _ o (Ne.symm rp) e) En λc o c1 c2 c3 c4 e=>up c o c1 (L7 c o c1 c2 c3 c4 e)
theorem JL {z TI TO i1 i2 l1:Addr}{k:Nat}{xs:Array Value}{a b:Value}{Q:Option Value->Shared->Prop}(hh:A.handled=none) (nd:[z,TI,TO,i1,i2].Nodup) (n1:l1∉[z,TI,TO,i1,i2])
 (hz:IsZip s.heap z TI TO .none) (lj:IsPair s.heap TI (.ref i1) (.ref i2)) (h1:gG tp s.heap i1 l1 k) (jF:m7 tp s.heap l1 xs) (hx:xs[k]?=none)
 (hQ:∀h',(∀c o,c≠z->c≠TO->c≠i1->c≠i2->s.heap.get? c=some o->h'.get? c=some o)->Q none { s with heap:=h' }):wpAny (model prog w) A (pyNext (.ref z)) Q E s:=by
 simp only [List.nodup_cons,List.mem_cons,List.not_mem_nil,or_false,not_or] at nd n1
 obtain ⟨⟨Eh,oF,oG,rp⟩,⟨TITO,TIi1,TIi2⟩,⟨TOi1,TOi2⟩,i12,_⟩:=nd
 obtain ⟨l1z,L4,l1TO,l1i1,l1i2⟩:=n1
 have hT:s.TypeIs (.ref z) "zip":=⟨_,hz,rfl⟩
 unfold pyNext
 refine wpAny_bind (wpAny_attempt (wpAny_callSpecial?_slot (name:=Str.ofString "__next__") hT F.slot_zip_next (wpAny_call_entry F.slot_zip_next hT F.entry_zip_next ?_ (F.args_zip_next_1 _))))
 show wpAny _ _ (field (.ref z) 2 >>= _) _ _ _
 refine wpAny_bind (wpAny_field hz rfl (x:=.bool false) rfl ?_)
 show wpAny _ _ (field (.ref z) 3 >>= _) _ _ _
 refine wpAny_bind (wpAny_field hz rfl (x:=.ref TI) rfl ?_)
 refine wpAny_bind (wpAny_seqItems lj rfl ?_)
 show wpAny _ _ (Builtin.SmallTypes.ownedTupleIsFree (.ref z) >>= _) _ _ _
 refine wpAny_bind ?_
 unfold Builtin.SmallTypes.ownedTupleIsFree
 refine wpAny_bind (wpAny_field hz rfl (x:=.none) rfl (wpAny_pure ?_))
 simp only [if_true]
 refine wpAny_bind (wpAny_rule ?_)
 refine wpAny_bind (wpAny_field hz rfl (x:=.ref TO) rfl ?_)
 refine wpAny_bind (wpAny_setField_rec hz (by simp) λkN pH ud=>?_)
 replace pH:IsZip kN z TI TO .ellipsis:=pH
 refine wpAny_bind ?_
 simp only [List.zipIdx_cons,List.zipIdx_nil,List.forIn_cons,List.forIn_nil]
 refine wpAny_bind (wpAny_bind (wpAny_onRaise ?_))
 show wpAny _ _ (Builtin.SmallTypes.nextOf (.ref i1) >>= _) _ _ _
 refine wpAny_bind (L3 (by first | exact hh | rfl) (h1.at λo e=>ud.extBut _ o (Ne.symm oG) e) (jF.at λo e=>ud.extBut _ o l1z e) hx λrP e vY he=>?_)
 obtain ⟨oe,Mb,Ax⟩:=he
 have Sn:IsZip rP z TI TO .ellipsis:=vY _ _ oG pH
 have hez:e≠z:=λx=>by subst x; rw [Sn] at Mb; cases Mb; simp at Ax
 refine wpAny_setField_rec Sn (by simp) λuO _ vZ=>?_
 refine wpAny_bind (wpAny_isInstance (T:="StopIteration") (b:=true) ⟨oe,vZ.extBut _ _ hez Mb,Ax⟩ isSubtype_stop ?_)
 exact wpAny_pure (hQ _ λc o c1 _ c3 _ x=>vZ.extBut _ _ c1 (vY _ _ c3 (ud.extBut _ _ c1 x)))
end
end PySem
namespace PySem
section
variable {prog:Program}{w:World}{A:Around}{E:Value->Shared->Prop}{s:Shared}{tp:Bool}
end
end PySem
namespace L2
open PySem PySem.Spec PyProof.Rows
def ZH (tp:Bool) (H:Hp) (a:Addr) (xs:List V):Prop:=match tp with | true=>H a=some (.tup xs) | false=>H a=some (.lst xs)
theorem ZH.inj {tp:Bool}{H:Hp}{a:Addr}{xs ys:List V}(h:ZH tp H a xs) (h':ZH tp H a ys):xs=ys:=by
 cases tp <;> (have e:=(show H a=_ from h).symm.trans (show H a=_ from h'); cases e; rfl)
theorem ZH.same {tp:Bool}{H H':Hp}{a:Addr}{xs:List V}(h:ZH tp H a xs) (k:∀o,H a=some o->H' a=some o):ZH tp H' a xs:=by cases tp <;> exact k _ h
section
variable {X:Cx}
end
end L2
namespace PySem
open PySem PySem.Spec PyProof.Rows
section
variable {prog:Program}{w:World}{A:Around}{E:Value->Shared->Prop}{s:Shared}{tp tq:Bool}
theorem JM {z TI TO i1 i2 l1 l2:Addr}{k:Nat}{xs ys:Array Value}{x y a b:Value}{Q:Option Value->Shared->Prop}(nd:[z,TI,TO,i1,i2].Nodup) (n1:l1∉[z,TI,TO,i1,i2]) (n2:l2∉[z,TI,TO,i1,i2])
 (hz:IsZip s.heap z TI TO .none) (lj:IsPair s.heap TI (.ref i1) (.ref i2)) (pG:IsPair s.heap TO a b) (h1:gG tp s.heap i1 l1 k) (h2:gG tq s.heap i2 l2 k) (jF:m7 tp s.heap l1 xs) (cV:m7 tq s.heap l2 ys) (hx:xs[k]?=some x) (hy:ys[k]?=some y)
 (hQ:∀h',IsZip h' z TI TO (rawInt s.heap.objs.size)->IsPair h' TO x y->gG tp h' i1 l1 (k+1)->gG tq h' i2 l2 (k+1)->IsPair h' s.heap.objs.size x y->
  (∀c o,c≠z->c≠TO->c≠i1->c≠i2->s.heap.get? c=some o->h'.get? c=some o)->Q (some (.ref s.heap.objs.size)) { s with heap:=h' }):wpAny (model prog w) A (pyNext (.ref z)) Q E s:=by
 simp only [List.nodup_cons,List.mem_cons,List.not_mem_nil,or_false,not_or] at nd n1 n2
 obtain ⟨⟨Eh,oF,oG,rp⟩,⟨TITO,TIi1,TIi2⟩,⟨TOi1,TOi2⟩,i12,_⟩:=nd
 obtain ⟨l1z,L4,l1TO,l1i1,l1i2⟩:=n1
 obtain ⟨l2z,Vt,l2TO,l2i1,l2i2⟩:=n2
 have hT:s.TypeIs (.ref z) "zip":=⟨_,hz,rfl⟩
 unfold pyNext
 refine wpAny_bind (wpAny_attempt (wpAny_callSpecial?_slot (name:=Str.ofString "__next__") hT F.slot_zip_next (wpAny_call_entry F.slot_zip_next hT F.entry_zip_next ?_ (F.args_zip_next_1 _))))
 show wpAny _ _ (field (.ref z) 2 >>= _) _ _ _
 refine wpAny_bind (wpAny_field hz rfl (x:=.bool false) rfl ?_)
 show wpAny _ _ (field (.ref z) 3 >>= _) _ _ _
 refine wpAny_bind (wpAny_field hz rfl (x:=.ref TI) rfl ?_)
 refine wpAny_bind (wpAny_seqItems lj rfl ?_)
 show wpAny _ _ (Builtin.SmallTypes.ownedTupleIsFree (.ref z) >>= _) _ _ _
 refine wpAny_bind ?_
 unfold Builtin.SmallTypes.ownedTupleIsFree
 refine wpAny_bind (wpAny_field hz rfl (x:=.none) rfl (wpAny_pure ?_))
 simp only [if_true]
 refine wpAny_bind (wpAny_rule ?_)
 refine wpAny_bind (wpAny_field hz rfl (x:=.ref TO) rfl ?_)
 refine wpAny_bind (wpAny_setField_rec hz (by simp) λkN pH ud=>?_)
 replace pH:IsZip kN z TI TO .ellipsis:=pH
 refine wpAny_bind ?_
 simp only [List.zipIdx_cons,List.zipIdx_nil,List.forIn_cons,List.forIn_nil]
 have k1:∀c o,c≠z->s.heap.get? c=some o->kN.get? c=some o:=λc o n e=>ud.extBut _ _ n e
 refine wpAny_bind (wpAny_bind (wpAny_onRaise ?_))
 show wpAny _ _ (Builtin.SmallTypes.nextOf (.ref i1) >>= _) _ _ _
 refine wpAny_bind (qt (h1.at λo e=>k1 _ o (Ne.symm oG) e) (jF.at λo e=>k1 _ o l1z e) hx λrP L5 vY=>wpAny_pure ?_)
 have k2:∀c o,c≠i1->kN.get? c=some o->rP.get? c=some o:=λc o n e=>vY.extBut _ _ n e
 have xZ:IsPair rP TO a b:=k2 _ _ TOi1 (k1 _ _ (Ne.symm oF) pG)
 refine wpAny_bind (wpAny_seqItems xZ rfl ?_)
 refine wpAny_bind (wpAny_updateSeq_pair xZ λuO sq vZ=>?_)
 replace sq:IsPair uO TO x b:=sq
 have k3:∀c o,c≠TO->rP.get? c=some o->uO.get? c=some o:=λc o n e=>vZ.extBut _ _ n e
 refine wpAny_bind (wpAny_letGo (wpAny_pure ?_))
 refine wpAny_bind (wpAny_bind (wpAny_onRaise ?_))
 show wpAny _ _ (Builtin.SmallTypes.nextOf (.ref i2) >>= _) _ _ _
 refine wpAny_bind (qt (h2.at λo e=>k3 _ o (Ne.symm TOi2) (k2 _ o (Ne.symm i12) (k1 _ o (Ne.symm rp) e))) (cV.at λo e=>k3 _ o l2TO (k2 _ o l2i1 (k1 _ o l2z e))) hy λBV L6 Ei=>wpAny_pure ?_)
 have k4:∀c o,c≠i2->uO.get? c=some o->BV.get? c=some o:=λc o n e=>Ei.extBut _ _ n e
 have x8:IsPair BV TO x b:=k4 _ _ TOi2 sq
 refine wpAny_bind (wpAny_seqItems x8 rfl ?_)
 refine wpAny_bind (wpAny_updateSeq_pair x8 λia nT Ej=>?_)
 replace nT:IsPair ia TO x y:=nT
 have k5:∀c o,c≠TO->BV.get? c=some o->ia.get? c=some o:=λc o n e=>Ej.extBut _ _ n e
 refine wpAny_bind (wpAny_letGo (wpAny_pure (wpAny_pure ?_)))
 refine wpAny_bind (wpAny_seqItems nT rfl ?_)
 refine wpAny_bind (wpAny_newTuple ?_)
 have hsz:ia.objs.size=s.heap.objs.size:=by rw [Ej.1,Ei.1,vZ.1,vY.1,ud.1]
 have Ek:IsZip ia z TI TO .ellipsis:=k5 _ _ oF (k4 _ _ rp (k3 _ _ oF (k2 _ _ oG pH)))
 have L7:∀c o,c≠z->c≠TO->c≠i1->c≠i2->s.heap.get? c=some o->ia.get? c=some o:=λc o c1 c2 c3 c4 e=>k5 _ _ c2 (k4 _ _ c4 (k3 _ _ c2 (k2 _ _ c3 (k1 _ _ c1 e))))
 have L8:gG tp ia i1 l1 (k+1):=L5.at λo e=>k5 _ _ (Ne.symm TOi1) (k4 _ _ i12 (k3 _ _ (Ne.symm TOi1) e))
 have L9:gG tq ia i2 l2 (k+1):=L6.at λo e=>k5 _ _ (Ne.symm TOi2) e
 have x9:z<ia.objs.size:=Heap.lt_size Ek
 show wpAny _ _ (Builtin.SmallTypes.ownedTupleHandOut (.ref z) (.ref ia.objs.size) >>= _) _ _ _
 refine wpAny_bind ?_
 unfold Builtin.SmallTypes.ownedTupleHandOut
 have Ma:IsZip (ia.push { cls:=.type "tuple",data:=.seq #[x,y] }) z TI TO .ellipsis:=Heap.get?_push_of_some _ Ek
 refine wpAny_bind (wpAny_setField_rec Ma (by simp) λVu ya El=>?_)
 replace ya:IsZip Vu z TI TO (rawInt ia.objs.size):=ya
 refine wpAny_setField_rec ya (by simp) λCi ue Em=>?_
 replace ue:IsZip Ci z TI TO (rawInt ia.objs.size):=ue
 have up:∀c o,c≠z->ia.get? c=some o->Ci.get? c=some o:=λc o c1 e=>Em.extBut _ _ c1 (El.extBut _ _ c1 (Heap.get?_push_of_some _ e))
 have En:IsPair Ci ia.objs.size x y:=Em.extBut _ _ (Nat.ne_of_gt x9) (El.extBut _ _ (Nat.ne_of_gt x9) (Heap.get?_push_size _ rfl))
 rw [hsz] at ue En
 refine wpAny_pure ⟨.ref ia.objs.size,rfl,wpAny_pure ?_⟩
 rw [hsz]
 exact hQ Ci ue (up _ _ (Ne.symm oF) nT) (L8.at λo e=>up _ o (Ne.symm oG) e) (L9.at λo e=>up _ o (Ne.symm rp) e) En λc o c1 c2 c3 c4 e=>up c o c1 (L7 c o c1 c2 c3 c4 e)
end
end PySem
namespace L2
open PySem PySem.Spec PyProof.Rows
def ZK (K:W.Frag) (tp:Bool) (H:Hp) (a:Addr) (xs:List V):Prop:=match tp with | true=>aR K H a xs | false=>av K H a xs
section
variable {X:Cx}{pins:List (Addr×Obj)}{σ:St}{H:Hp}{s:Shared}{tp:Bool}{a:Addr}{xs ys:List V}
theorem Inv.zk (I:Inv X pins σ H s) (h:ZK X.K tp H a xs):∃its:List Value,Vals xs its/\m7 tp s.heap a its.toArray/\xs.length<=sizeLine:=by
 cases tp
 . obtain ⟨its,r,pl,z⟩:=I.list h
   exact ⟨its,r,pl.isList,z⟩
 . obtain ⟨its,r,⟨o,e,c,n,d⟩,z⟩:=I.tuple h
   exact ⟨its,r,⟨o,e,c,n,d⟩,z⟩
theorem Inv.Eo (I:Inv X pins σ H s) (h:ZK X.K tp H a xs) (h':ZK X.K tp H a ys):xs=ys:=by
 cases tp
 . exact I.rN h h'
 . exact I.oP h h'
theorem Inv.yb {fp:List Addr}(I:Inv X pins σ H s) (h:ZK X.K tp H a xs) (hf:∀b∈fp,iS X pins H b):a∉fp:=λm=>by
 have own:∀o,X.K.lookup a=some o->False:=λo e=>by
  have eb:=I.ok.mod.kin a o e
  obtain ⟨_,_,_,h4,_⟩:=hf a m
  rcases h4 with h4 | h4
  . exact I.ok.noex a o eb h4
  . exact absurd (Nat.lt_of_lt_of_le (Heap.lt_size eb) (Nat.le_trans I.ok.bsz h4)) (Nat.lt_irrefl _)
 have aQ:=(hf a m).1
 cases tp
 . rcases h with (h | ⟨o,h⟩) | ⟨o,_,_,e,_⟩
   . rw [aQ] at h; cases h
   . rw [aQ] at h; cases h
   . exact own o e
 . rcases h with (h | ⟨o,h⟩) | ⟨o,_,_,e,_⟩
   . rw [aQ] at h; cases h
   . rw [aQ] at h; cases h
   . exact own o e
end
def Itm (K:W.Frag) (tp tq:Bool) (a b:Addr):It:=
 ⟨λi H=>∃xs ys x y,ZK K tp H a xs/\ZK K tq H b ys/\xs[i]?=some x/\ys[i]?=some y,λi H v H'=>∃T x y,v=.ref T/\H T=none/\H'=upd H T (.tup [x,y])/\(∀xs,ZK K tp H a xs->xs[i]?=some x)/\∀ys,ZK K tq H b ys->ys[i]?=some y,
  λi H=>∃xs,ZK K tp H a xs/\xs.length<=i⟩
theorem JN {P:Program}{w:World}{K:W.Frag}{es:List Expr}{kk:Nat}{pp:Pos}{tp tq:Bool}{a b z TI TO i1 i2:Addr}(nd:[z,TI,TO,i1,i2].Nodup) :
 Turn P w K (.Tuple es kk pp) (Itm K tp tq a b) [z,TI,TO,i1,i2] z (λi h=>IsZip h z TI TO .none/\IsPair h TI (.ref i1) (.ref i2)/\(∃a b,IsPair h TO a b)/\gG tp h i1 a i/\gG tq h i2 b i) where
 mem:=by simp
 obj:=λi h st c hc=>by
  obtain ⟨hz,lj,⟨u,v,pG⟩,h1,h2⟩:=st
  simp only [List.mem_cons,List.not_mem_nil,or_false] at hc
  rcases hc with rfl | rfl | rfl | rfl | rfl
  . exact ⟨_,hz,λv z=>by cases (show Data.fields _=Data.cell v from z)⟩
  . exact ⟨_,lj,λv z=>by cases (show Data.seq _=Data.cell v from z)⟩
  . exact ⟨_,pG,λv z=>by cases (show Data.seq _=Data.cell v from z)⟩
  . obtain ⟨o,e,vs,d⟩:=h1.there
    exact ⟨o,e,λv z=>by rw [d] at z; cases z⟩
  . obtain ⟨o,e,vs,d⟩:=h2.there
    exact ⟨o,e,λv z=>by rw [d] at z; cases z⟩
 keep:=λi h h' st k=>by
  obtain ⟨hz,lj,⟨u,v,pG⟩,h1,h2⟩:=st
  exact ⟨k z (by simp) _ hz,k TI (by simp) _ lj,⟨u,v,k TO (by simp) _ pG⟩,h1.at λo e=>k i1 (by simp) o e,h2.at λo e=>k i2 (by simp) o e⟩
 item:=by
  intro X hP hw hK hc i pins s σ H E I hf st hg
  subst hP hw hK
  obtain ⟨xs,ys,x,y,lM,Mc,hx,hy⟩:=hg
  obtain ⟨its,rv,p,D8⟩:=I.zk lM
  obtain ⟨its',uc,p',adR⟩:=I.zk Mc
  obtain ⟨u,hu,ru⟩:=rv.get hx
  obtain ⟨v,hv,rv2⟩:=uc.get hy
  obtain ⟨hz,lj,⟨c,d,pG⟩,h1,h2⟩:=st
  have na:a∉[z,TI,TO,i1,i2]:=I.yb lM hf
  have nb:b∉[z,TI,TO,i1,i2]:=I.yb Mc hf
  refine JM nd na nb hz lj pG h1 h2 p p' (x:=u) (y:=v) (by simpa using hu) (by simpa using hv) λh' a1 a2 a3 a4 a5 kk=>?_
  refine ⟨.ref s.heap.objs.size,rfl,?_⟩
  refine wpAny_letOwnedTupleGo_zip a1 λh3 LS HE=>?_
  have So:=nd
  simp only [List.nodup_cons,List.mem_cons,List.not_mem_nil,or_false,not_or] at So
  obtain ⟨⟨Eh,oF,oG,rp⟩,⟨TITO,TIi1,TIi2⟩,⟨TOi1,TOi2⟩,i12,_⟩:=So
  have lt:∀c∈[z,TI,TO,i1,i2],c≠s.heap.objs.size:=λc hc=>by
   simp only [List.mem_cons,List.not_mem_nil,or_false] at hc
   rcases hc with rfl | rfl | rfl | rfl | rfl
   . exact Nat.ne_of_lt (Heap.lt_size hz)
   . exact Nat.ne_of_lt (Heap.lt_size lj)
   . exact Nat.ne_of_lt (Heap.lt_size pG)
   . obtain ⟨o,e,_⟩:=h1.there
     exact Nat.ne_of_lt (Heap.lt_size e)
   . obtain ⟨o,e,_⟩:=h2.there
     exact Nat.ne_of_lt (Heap.lt_size e)
  have k3:∀c o,c≠z->h'.get? c=some o->h3.get? c=some o:=λc o n e=>HE.extBut _ _ n e
  have I1:Inv X pins σ (upd H s.heap.objs.size (.tup [x,y])) { s with heap:=h3,toks:=s.toks }:=I.Ai (its:=[u,v]) hf (λb o hb e1=>by
   simp only [List.mem_cons,List.not_mem_nil,or_false,not_or] at hb
   exact k3 b o hb.1 (kk b o hb.1 hb.2.2.1 hb.2.2.2.1 hb.2.2.2.2 e1)) (Nat.le_refl _) ⟨_,k3 _ _ (Ne.symm (lt z (by simp))) a5,rfl,_,rfl⟩ (.cons ru (.cons rv2 .nil)) (by show 2<=sizeLine; decide)
  have fr:H s.heap.objs.size=none:=I.hok.fresh (Nat.le_refl _)
  refine ⟨.ref s.heap.objs.size,_,I1,rfl,⟨s.heap.objs.size,x,y,rfl,fr,rfl,λtZ h=>by rw [I.Eo h lM]; exact hx,λxM h=>by rw [I.Eo h Mc]; exact hy⟩,⟨LS,k3 _ _ (Ne.symm Eh) (kk _ _ (Ne.symm Eh) TITO TIi1 TIi2 lj),⟨_,_,k3 _ _ (Ne.symm oF) a2⟩,a3.at λo e=>k3 _ o (Ne.symm oG) e,a4.at λo e=>k3 _ o (Ne.symm rp) e⟩,λb hb=>?_⟩
  rw [ag (lt b hb)]
  exact (hf b hb).1
 done:=by
  intro X hP hw hK hc i pins s σ H E I hf st hg
  subst hP hw hK
  obtain ⟨xs,lM,hx⟩:=hg
  obtain ⟨its,rv,p,D8⟩:=I.zk lM
  obtain ⟨hz,lj,⟨c,d,pG⟩,h1,h2⟩:=st
  have hl:=rv.length
  have na:a∉[z,TI,TO,i1,i2]:=I.yb lM hf
  exact JL (I.ok.hd hc) nd na hz lj h1 p (a:=.none) (b:=.none) (by simp; omega) λh' kk=>⟨rfl,I.Ah (t':=s.toks) hf λb o hb e1=>by
   simp only [List.mem_cons,List.not_mem_nil,or_false,not_or] at hb
   exact kk b o hb.1 hb.2.2.1 hb.2.2.2.1 hb.2.2.2.2 e1⟩
 self:=λ_ _ _ _ _ st h=>wpAny_pyIter_zip st.1 h
section
variable {X:Cx}
end
end L2
namespace PySem
open PySem.Spec PyProof.Rows
section
variable {prog:Program}{w:World}{A:Around}{E:Value->Shared->Prop}{s:Shared}{z TI TO i1 i2:Addr}{m1 m2:List Addr}{n1 n2:Nat}{P1 P2:Nat->Value->Prop}{Sq xh:Nat->Heap->Prop}
end
end PySem
namespace PySem
open PySem.Spec PyProof.Rows
section
variable {prog:Program}{w:World}{K:Type}[DecidableEq K] {knd:KeyKind prog w K}{A:Around}{E:Value->Shared->Prop}{s:Shared}
end
namespace F
end F
end PySem
namespace PySem
open PySem.Spec PyProof.Rows
section
variable {prog:Program}{w:World}{K:Type}[DecidableEq K] {knd:KeyKind prog w K}{A:Around}{R:Result->Shared->Prop}{z TI TO i1 i2:Addr}{m1 m2:List Addr}{n1 n2:Nat}{P1 P2:Nat->Value->Prop}{Sq xh:Nat->Heap->Prop}
end
section
variable {prog:Program}{w:World}{K:Type}[DecidableEq K] {knd:KeyKind prog w K}{A:Around}{E:Value->Shared->Prop}{s:Shared}{z TI TO i1 i2:Addr}{m1 m2:List Addr}{n1 n2:Nat}{P1 P2:Nat->Value->Prop}{Sq xh:Nat->Heap->Prop}
end
end PySem
namespace PySem
open PySem.Spec PyProof.Rows
abbrev uV (h:Heap) (o:Obj):Heap:=h.push o
abbrev Cj (h:Heap) (o:Obj) (l2:Addr):Heap:=(uV h o).push { cls:=.type "tuple_iterator",data:=.fields #[.ref l2,.int 0 0] }
abbrev Ck (h:Heap) (o:Obj) (l2:Addr):Heap:=(Cj h o l2).push { cls:=.type "tuple",data:=.seq #[.ref h.objs.size,.ref (uV h o).objs.size] }
abbrev yc (h:Heap) (o:Obj) (l2:Addr):Heap:=(Ck h o l2).push { cls:=.type "tuple",data:=.seq #[.none,.none] }
abbrev jf (h:Heap) (o:Obj) (l2:Addr):Heap:=(yc h o l2).push { cls:=.type "zip",data:=.fields #[.none,.bool false,.bool false,.ref (Cj h o l2).objs.size,.ref (Ck h o l2).objs.size] }
abbrev qu (l:Addr):Obj:={ cls:=.type "list_iterator",data:=.fields #[.ref l,.int 0 0] }
theorem Cm (l1 l2:Addr) (xs ys:Array Value) :
 Meets (Builtin.«zip.__new__» ⟨[.type "zip",.ref l1,.ref l2],[]⟩) (λ_ R s=>s.heap.IsList l1 xs/\s.heap.IsTuple l2 ys/\R (.ok (.ret (.ref (yc s.heap (qu l1) l2).objs.size))) { s with heap:=jf s.heap (qu l1) l2 }):=
 .of_wp λprog w A R s h=>by
  obtain ⟨hp,g,d,tk,os⟩:=s; obtain ⟨jF,cV,h⟩:=h
  have adS:=sub_zip
  have hL1:Heap.IsList (Shared.heap ⟨hp,g,d,tk,os⟩) l1 xs:=jF
  have hL2:Heap.IsTuple (Shared.heap ⟨hp.push { cls:=.type "list_iterator",data:=.fields #[.ref l1,.int 0 0] },g,d,tk,os⟩) l2 ys:=Heap.IsTuple.push cV _
  wp_walk using wpAny_pyIter_list hL1,wpAny_pyIter_tuple hL2
  exact ⟨_,rfl,h⟩
section
variable {prog:Program}{w:World}{A:Around}{E:Value->Shared->Prop}{s:Shared}
theorem JO (h:Heap) (o:Obj) (l2:Addr) (hg:(uV h o).get? h.objs.size=some o):IsZip (jf h o l2) (h.objs.size+4) (h.objs.size+2) (h.objs.size+3) .none/\IsPair (jf h o l2) (h.objs.size+2) (.ref h.objs.size) (.ref (h.objs.size+1))/\IsPair (jf h o l2) (h.objs.size+3) .none .none/\
 (jf h o l2).get? h.objs.size=some o/\(jf h o l2).IsTupleIter (h.objs.size+1) l2 0/\(∀c q,h.get? c=some q->(jf h o l2).get? c=some q)/\(yc h o l2).objs.size=h.objs.size+4:=by
 have z1:(uV h o).objs.size=h.objs.size+1:=Heap.size_push ..
 have z2:(Cj h o l2).objs.size=h.objs.size+2:=by rw [Heap.size_push,z1]
 have z3:(Ck h o l2).objs.size=h.objs.size+3:=by rw [Heap.size_push,z2]
 have z4:(yc h o l2).objs.size=h.objs.size+4:=by rw [Heap.size_push,z3]
 have g5:(jf h o l2).get? (yc h o l2).objs.size=some _:=Heap.get?_push_size _ rfl
 have g4:(jf h o l2).get? (Ck h o l2).objs.size=some _:=Heap.get?_push_of_some _ (Heap.get?_push_size _ rfl)
 have g3:(jf h o l2).get? (Cj h o l2).objs.size=some _:=Heap.get?_push_of_some _ (Heap.get?_push_of_some _ (Heap.get?_push_size _ rfl))
 have g2:(jf h o l2).get? (uV h o).objs.size=some _:=Heap.get?_push_of_some _ (Heap.get?_push_of_some _ (Heap.get?_push_of_some _ (Heap.get?_push_size _ rfl)))
 have g1:(jf h o l2).get? h.objs.size=some _:=Heap.get?_push_of_some _ (Heap.get?_push_of_some _ (Heap.get?_push_of_some _ (Heap.get?_push_of_some _ hg)))
 rw [z2,z3,z4] at g5
 rw [z1,z2] at g3
 rw [z3] at g4
 rw [z1] at g2
 exact ⟨g5,g3,g4,g1,⟨_,g2,rfl,rfl⟩,λc q x=>Heap.get?_push_of_some _ (Heap.get?_push_of_some _ (Heap.get?_push_of_some _ (Heap.get?_push_of_some _ (Heap.get?_push_of_some _ x)))),z4⟩
end
end PySem
namespace L2
open PySem PySem.Spec PyProof.Rows
section
variable {X:Cx}{pins:List (Addr×Obj)}{σ:St}{H:Hp}{s:Shared}{h':Heap}
end
section
variable {X:Cx}
end
end L2
namespace PySem
open Builtin Builtin.Str
def adK (c:Nat) (L:List Nat) (a k:Nat):List Nat:=(List.range' a k).filter λi=>decide (L[i]?=some c)
end PySem
namespace L2
open PySem PySem.Spec PyProof.Rows
section
variable {X:Cx}
def JP:V->List V->Hp->VK->Prop:=λx vs H Q=>∃z y,x=.str z/\vs=[.str y]/\Q (.bl (decide (0+y.length<=z.length) && Builtin.Str.subAt z y 0)) H
theorem wa:tI X "str.startswith" JP:=by
 intro pins s σ H x vs v us Q I rx rv h
 obtain ⟨z,y,rfl,rfl,q⟩:=h
 obtain ⟨t,rfl⟩:=rx
 obtain ⟨u,rfl,tu,rfl⟩:=rv.one
 exact call_gives F.slot_str_startswith (typeIs_str _ _ _) F.entry_str_startswith (F.args_str_startswith_2 _ _) (gives_str_startswith z y t tu) ⟨.bl _,H,I,rfl,q⟩
def Vv:V->Option Int->Option Int->Hp->VK->Prop:=λx lo hi H Q=>∃z j,x=.str z/\lo=some j/\hi=none/\z.length<=sizeLine/\Q (.str (Txt.slice z (some j) none)) H
theorem Az:HB X Vv:=by
 intro pins s σ H x v vl vu lo hi sl Q I rx hs pl pu h
 obtain ⟨z,j,rfl,rfl,rfl,hz,q⟩:=h
 obtain ⟨t,rfl⟩:=rx
 cases pu
 cases pl with
 | int _ uj=>
  refine ⟨"str",_,F.slot_str_getitem.lookup,typeIs_str _ _ _,wpAny_getItem_str_slice (l:=some (j,uj)) (u:=none) (st:=none) hs rfl
   (post_val_or_str ⟨Nat.le_trans (Txt.slice_le z _ _) hz,λt' k=>⟨.str (Txt.slice z (some j) none),H,I.tok k,⟨t',rfl⟩,q⟩⟩)⟩
end
end L2
namespace PySem
open Builtin Builtin.Str
theorem uf (z:Str) (c:Nat):(decide (0+(⟨#[c]⟩:Str).length<=z.length) && subAt z ⟨#[c]⟩ 0)=decide (z.cps.toList[0]?=some c):=by
 rw [Bool.eq_iff_iff,Bool.and_eq_true,decide_eq_true_eq,decide_eq_true_eq]
 exact StrLaws.subAt_one z c 0
theorem Gj (n:Nat):strSliceIndices (some 1) none 1 n=(List.range (n-1)).map (· + 1):=by
 cases n with
 | zero=>rfl
 | succ n=>
  have h1:¬ ((1:Int)<0):=by decide
  have e1:max (0:Int) (min 1 ((n+1:Nat):Int))=1:=by omega
  simp only [strSliceIndices,sliceRange,h1,if_false,show ((1:Int)>0)=True from by simp,if_true,e1]
  have e2:(if (1:Int)<((n+1:Nat):Int) then (((n+1:Nat):Int)-1+1-1) / 1 else 0).toNat=n:=by
   split
   . rw [Int.ediv_one]; omega
   . omega
  rw [e2]
  show _=(List.range n).map (· + 1)
  refine List.map_congr_left λk _=>?_
  omega
theorem Ep:∀(l:List Nat) (L:List Nat),((List.range (L.length-1)).map (· + 1)).filterMap (λi=>L[i]?)=L.tail:=by
 intro _ L
 cases L with
 | nil=>rfl
 | cons x r=>
  show ((List.range r.length).map (· + 1)).filterMap (λi=>(x::r)[i]?)=r
  rw [List.filterMap_map]
  show (List.range r.length).filterMap (λi=>(x::r)[i+1]?)=r
  simp only [List.getElem?_cons_succ]
  have k:=Gen.qX r r.length (Nat.le_refl _)
  rw [List.take_length] at k
  exact k
theorem ug (z:Str):(Txt.slice z (some 1) none).cps.toList=z.cps.toList.tail:=by
 unfold Txt.slice
 rw [Gj]
 split
 . rename_i h
   have h2:((List.range (z.length-1)).map (· + 1)).length=z.length:=by simpa using h
   rw [List.length_map,List.length_range] at h2
   have h3:z.length=0:=by omega
   have h4:z.cps.toList=[]:=List.length_eq_zero_iff.mp (by simpa [Str.length] using h3)
   rw [h4]
   rfl
 . have e:z.length=z.cps.toList.length:=by simp [Str.length]
   rw [e]
   have k:=Ep [] z.cps.toList
   simpa using k
end PySem
namespace L2
open PySem PySem.Spec PyProof.Rows
section
variable {X:Cx}{pins:List (Addr×Obj)}{σ:St}{H:Hp}{s:Shared}{a:Addr}{kvs:List (Key×V)}{k:Key}{v:V}{u:Value}{E:Value->Shared->Prop}
end
section
variable {X:Cx}{o i:Expr}{pos:Pos}{td ty:TE}
end
end L2
namespace L2
open PySem PySem.Spec PyProof.Rows
section
variable {X:Cx}
def Pt (K:W.Frag) (ta:TA):TI:=λσ H R=>ta σ H λvs H1=>∃a b,vs=[.ref a,.ref b]/\(∃xs,av K H1 a xs)/\(∃ys,aR K H1 b ys)/\R (Itm K false true a b) H1
theorem AA {es:List Expr}{kk:Nat}{pp:Pos}{a b:Expr}{ta:TA}{p pos:Pos}(hg:Gl X "zip") (hm:X.mg "zip" = none) (ha:PA X [a,b] ta) (hs:starEach [a,b] X.env=(false,eval a X.env)::starEach [b] X.env:=by rfl) (hp:(backTo pos (starEach [b] X.env)).any (·.1)=false:=by rfl) :
 PI X (.Tuple es kk pp) (.Call (.Name "zip" p) [a,b] [] pos) (Pt X.K ta):=by
 intro pins s σ H R I h
 refine Call_ (iQ I hg hm boot_zip (PyProof.Rows.callWith_type1 (aN (ha pos pins s σ H _ I h) λus s1 ⟨vs,H1,I1,r1,q1⟩=>?_) hs hp))
 obtain ⟨l,m,e,⟨xs,hx⟩,⟨ys,hy⟩,q⟩:=q1
 subst e
 obtain ⟨u,v,rfl,ru,rv⟩:=vals2 r1
 cases (show u=Value.ref l from ru)
 cases (show v=Value.ref m from rv)
 obtain ⟨its,_,p1,_⟩:=I1.zk (tp:=false) hx
 obtain ⟨its',_,p2,_⟩:=I1.zk (tp:=true) hy
 refine callType_new F.called_zip (by decide) (F.typeCall_zip_2 _ _) (F.newCall_zip_2 _ _) (λobj=>F.args_object_init_3 obj _ _) F.entry_zip_new (Cm l m its.toArray its'.toArray) ⟨p1,p2,?_⟩
 have my:(uV s1.heap (qu l)).get? s1.heap.objs.size=some (qu l):=Heap.get?_push_size _ rfl
 obtain ⟨a1,a2,a3,a4,a5,kk',g6⟩:=JO s1.heap (qu l) m my
 show _/\_
 rw [g6]
 refine ⟨⟨_,a1,rfl⟩,?_⟩
 refine wpAny_pyIter_zip a1 ?_
 have I2:Inv X pins σ H1 { s1 with heap:=jf s1.heap (qu l) m }:=I1.kept (t':=s1.toks) kk'
 refine ⟨_,_,_,_,H1,rfl,I2,JN (tp:=false) (tq:=true) (a:=l) (b:=m) (z:=s1.heap.objs.size+4) (TI:=s1.heap.objs.size+2) (TO:=s1.heap.objs.size+3) (i1:=s1.heap.objs.size) (i2:=s1.heap.objs.size+1) ?_,⟨a1,a2,⟨_,_,a3⟩,⟨_,a4,rfl,rfl⟩,a5⟩,λb hb=>?_,q⟩
 . simp
 . have qW:s1.heap.objs.size<=b:=by
    simp only [List.mem_cons,List.not_mem_nil,or_false] at hb
    rcases hb with rfl | rfl | rfl | rfl | rfl
    . exact Nat.le_add_right _ _
    . exact Nat.le_add_right _ _
    . exact Nat.le_add_right _ _
    . exact Nat.le_refl _
    . exact Nat.le_add_right _ _
   exact I1.uL qW (I1.hok.fresh qW)
theorem AB {K:W.Frag}{tp tq:Bool}{a b:Addr}{xs ys:List V}{g:TG}{tb:TS}{D:Ends}{σ:St}{H:Hp}(hxy:xs.length<=ys.length) (Pv:Nat->St->Hp->Prop) (h0:Pv 0 σ H) (hl:∀i σ H,i<=xs.length->Pv i σ H->ZK K tp H a xs/\ZK K tq H b ys)
 (hs:∀i x y T σ H,xs[i]?=some x->ys[i]?=some y->H T=none->Pv i σ H->g (.ref T) σ (upd H T (.tup [x,y])) λiu H2=>tb { D with nx:=Pv (i+1),ct:=Pv (i+1),bk:=D.nx } iu H2) (hd:∀σ H,Pv xs.length σ H->D.nx σ H) :
 ∃W:Nat->Nat->St->Hp->Prop,(∃m,W 0 m σ H)/\∀i m σ H,W i m σ H->
  ((Itm K tp tq a b).stop i H/\D.nx σ H)\/((Itm K tp tq a b).go i H/\∃N:St->Hp->Prop,(∀cA H',N cA H'->∃m',m'<m/\W (i+1) m' cA H')/\∀x H',(Itm K tp tq a b).yld i H x H'->g x σ H' λiu H2=>tb { D with nx:=N,ct:=N,bk:=D.nx } iu H2):=by
 refine ⟨λi m σ H=>m=xs.length-i/\i<=xs.length/\Pv i σ H,⟨xs.length,by simp,Nat.zero_le _,h0⟩,?_⟩
 rintro i m σ H ⟨rfl,hi,p⟩
 obtain ⟨q1,q2⟩:=hl i σ H hi p
 by_cases eW:i<xs.length
 . refine .inr ⟨⟨xs,ys,xs[i],ys[i]'(by omega),q1,q2,List.getElem?_eq_getElem eW,List.getElem?_eq_getElem (by omega)⟩,Pv (i+1),λcA H' p'=>⟨xs.length-(i+1),by omega,rfl,eW,p'⟩,λx H' y=>?_⟩
   obtain ⟨T,v,u,rfl,hT,rfl,hv,hu⟩:=y
   exact hs i v u T σ H (hv xs q1) (hu ys q2) hT p
 . refine .inl ⟨⟨xs,q1,by omega⟩,?_⟩
   obtain rfl:i=xs.length:=by omega
   exact hd σ H p
def JQ:V->List V->Hp->VK->Prop:=λx vs H Q=>∃d e kvs more,x=.ref d/\vs=[.ref e]/\H d=some (.dK kvs)/\Rd H e (.dK more)/\d≠e/\kvs.length+more.length<=sizeLine/\Q .aQ (upd H d (.dK (bw kvs more)))
theorem Er:tI X "dict.update" JQ:=by
 intro pins s σ H x vs v us Q I rx rv h
 obtain ⟨d,e,kvs,more,rfl,rfl,hd,he,cJ,hsz,q⟩:=h
 cases (show v=Value.ref d from rx)
 obtain ⟨u,rfl,ru⟩:=rv.one
 cases (show u=Value.ref e from ru)
 obtain ⟨z1,n1,vs1,Md,Sr⟩:=BL I.hok hd
 obtain ⟨z2,n2,vs2,Me,Ad⟩:=jt I.hok he
 have e1:=Md.length
 have e2:=Me.length
 refine call_meetsIn PySem.F.slot_dict_update Sr.typeIs PySem.F.entry_dict_update (PySem.F.args_dict_update_2 _ _) (meets_dict_update (bx X.prog X.w) d e cJ n2) ⟨vs1,vs2,Sr,Ad,by omega,λh' ow _ hs=>?_⟩
 have he':∃q,h'.get? d=some q:=let ⟨q,_,_,hq,_⟩:=ow; ⟨q,hq⟩
 refine ⟨.aQ,_,qh I (by rw [hd]; trivial) hs he' (oW ?_ n1 (KV.merge Me Md) ow),rfl,q⟩
 have:=eI more kvs
 omega
theorem yd:gp X (.type "int") (λxs H Q=>∃z n,xs=[.str z]/\PySem.intText? z=some n/\z.length<=640/\Q (.int n) H):=by
 intro pins s σ H xs us Q I r h
 obtain ⟨z,n,rfl,hn,hl,q⟩:=h
 obtain ⟨u,rfl,t,rfl⟩:=vals1 r
 exact W.KIN.call_text hn hl ⟨.int n,H,I.tok _,⟨_,rfl⟩,q⟩
end
end L2
namespace L2
open PySem PySem.Spec PyProof.Rows
section
variable {X:Cx}
end
end L2
namespace L2
open PySem PySem.Spec PyProof.Rows
end L2
namespace L2
open PySem PySem.Spec PyProof.Rows
section
variable {X:Cx}
end
end L2
namespace L2
open PySem PySem.Spec PyProof.Rows
theorem pI {α β:Type}{F:α->β->Prop} : ∀{l₁:List α}{l₂:List β}{i:Nat}{b:β},Paired F l₁ l₂->l₂[i]?=some b->∃a,l₁[i]?=some a/\F a b
 | _,_,_,_,.nil,h=>by simp at h
 | _,_,0,_,.cons h t,e=>⟨_,rfl,by simp at e; subst e; exact h⟩
 | _,_,i+1,_,.cons h t,e=>by
  obtain ⟨a,h1,h2⟩:=pI (i:=i) t (by simpa using e)
  exact ⟨a,by simpa using h1,h2⟩
section
variable {X:Cx}
def Vw (K:W.Frag):R2:=λx y H Q=>∃(t l:Addr) (a b:Str) (ts:List Addr) (ps:List (Str×Str)),x=.ref t/\y=.ref l/\H t=some (.tup [.str a,.str b])/\av K H l (ts.map V.ref)/\Paired (λu p=>H u=some (.tup [.str p.1,.str p.2])) ts ps/\t∉ts/\Q (.bl (decide ((a,b)∈ps))) H
open Classical in
theorem OH (hu:X.A.units+1<cLine):fk X (compareOp .In) (Vw X.K):=by
 intro pins s σ H x y v u Q I rx ry h
 obtain ⟨t,l,a,b,ts,ps,rfl,rfl,ht,hl,hp,hn,q⟩:=h
 cases (show v=Value.ref t from rx)
 cases (show u=Value.ref l from ry)
 obtain ⟨its,rv,pl,hz⟩:=I.list hl
 obtain ⟨jts,rt,pt,_⟩:=I.tuple (aR.of ht)
 obtain ⟨x1,x2,ej,r1,r2⟩:=vals2 rt
 subst ej
 have at_:∀w,w∈its->∃(d:Addr) (p:Str×Str),w=Value.ref d/\d∈ts/\p∈ps/\H d=some (.tup [.str p.1,.str p.2]):=by
  intro w hw
  obtain ⟨i,hi,e⟩:=List.getElem_of_mem hw
  have hlen:=rv.length
  rw [List.length_map] at hlen
  have Es:i<ts.length:=by omega
  have cV:=hp.length
  have Ss:i<ps.length:=by omega
  obtain ⟨w',e1,e2⟩:=rv.get (x:=.ref ts[i]) (by rw [List.getElem?_map,List.getElem?_eq_getElem Es]; rfl)
  rw [List.getElem?_eq_getElem hi,e] at e1
  cases e1
  obtain ⟨d,hd,hD⟩:=pI hp (i:=i) (List.getElem?_eq_getElem Ss)
  rw [List.getElem?_eq_getElem Es] at hd
  cases hd
  exact ⟨ts[i],ps[i],e2,List.getElem_mem Es,List.getElem_mem Ss,hD⟩
 refine SeqAt.in_listAt (λw=>decide (∃d:Addr,w=Value.ref d/\H d=some (.tup [.str a,.str b]))) pl.isList (λw hw=>?_) ⟨.bl _,H,I,rfl,?_⟩
 . obtain ⟨d,p,rfl,hd,_,hD⟩:=at_ w (by simpa using hw)
   obtain ⟨dts,rd,pd,_⟩:=I.tuple (aR.of hD)
   obtain ⟨y1,y2,ed,s1,s2⟩:=vals2 rd
   subst ed
   have cJ:d≠t:=λe=>hn (e ▸ hd)
   have key:=SeqAt.EqAt.of_refs cJ (SeqAt.RcAt.tuples (A:=X.A.in1) (s:=s) (e:=λj=>if j=0 then iG (.str p.1) (.str a) else iG (.str p.2) (.str b)) pd pt (by show X.A.units+1<cLine; exact hu) (λj g1 g2=>?_))
   . have ee:((List.range (min [y1,y2].toArray.size [x1,x2].toArray.size)).all (λj=>if j=0 then iG (.str p.1) (.str a) else iG (.str p.2) (.str b)) && [y1,y2].toArray.size == [x1,x2].toArray.size)=decide (∃d':Addr,Value.ref d=Value.ref d'/\H d'=some (.tup [.str a,.str b])):=by
      show ((List.range 2).all _ && true)=_
      rw [Bool.and_true,Bool.eq_iff_iff,decide_eq_true_eq]
      simp only [List.range_succ,List.range_zero,List.nil_append,List.all_append,List.all_cons,List.all_nil,Bool.and_true,Bool.and_eq_true,if_pos,iG,beq_iff_eq]
      constructor
      . rintro ⟨e1,e2⟩
        refine ⟨d,rfl,?_⟩
        rw [hD,e1,show p.2=b by simpa using e2]
      . rintro ⟨d',e,h'⟩
        cases e
        rw [hD] at h'
        simp at h'
        exact ⟨h'.1,by simpa using h'.2⟩
     rw [ee] at key
     exact key
   . match j,g1 with
     | 0,_=>exact oY s1 r1 rfl rfl
     | 1,_=>exact oY s2 r2 rfl rfl
 . have e:its.toArray.any (λw=>decide (∃d:Addr,w=Value.ref d/\H d=some (.tup [.str a,.str b])))=decide ((a,b)∈ps):=by
    rw [Bool.eq_iff_iff,decide_eq_true_eq]
    rw [show its.toArray.any (λw=>decide (∃d:Addr,w=Value.ref d/\H d=some (.tup [.str a,.str b])))=its.any (λw=>decide (∃d:Addr,w=Value.ref d/\H d=some (.tup [.str a,.str b]))) by simp,List.any_eq_true]
    constructor
    . rintro ⟨w,hw,hd⟩
      obtain ⟨d,p,rfl,_,hpm,hD⟩:=at_ w hw
      obtain ⟨d',e,h'⟩:=of_decide_eq_true hd
      cases e
      rw [hD] at h'
      simp at h'
      have:p=(a,b):=Prod.ext h'.1 h'.2
      exact this ▸ hpm
    . intro hm
      obtain ⟨i,hi,e⟩:=List.getElem_of_mem hm
      obtain ⟨d,hd,hD⟩:=pI hp (i:=i) (List.getElem?_eq_getElem hi)
      obtain ⟨w',e1,e2⟩:=rv.get (x:=.ref d) (by rw [List.getElem?_map,hd]; rfl)
      refine ⟨w',List.mem_of_getElem? e1,decide_eq_true ⟨d,e2,?_⟩⟩
      rw [hD,e]
   rw [e]
   exact q
end
end L2
namespace L2
open PySem PySem.Spec PyProof.Rows
section
variable {X:Cx}{N:List Str}{js:List (Option Nat)}{scope:Scope}{elt tg iter:Expr}{ifs:List Expr}{pos:Pos}{wi:TI}{g:TG}{ti:TT}{te:TE}
end
end L2
namespace L2
open PySem PySem.Spec PyProof.Rows
section
variable {X:Cx}
end
end L2
namespace Gen
open PySem L2
abbrev qv:Stmt:=inClass (top 2) 0
structure gh (mg:Str->Option Value):Prop where
 len:mg "len" = none
 list:mg "list" = none
 dict:mg "dict" = none
 tuple:mg "tuple" = none
 str:mg "str" = none
 int:mg "int" = none
 bool:mg "bool" = none
 zip:mg "zip" = none
 all:mg "all" = none
 isi:mg "isinstance" = none
 min:mg "min" = none
 rev:mg "reversed" = none
 max:mg "max" = none
structure Cn where
 sw:List Str
 kp:List (Key×V)
 gt:List Addr
 nx:List (Key×V)
 nv:List (Key×V)
 sm:List (Key×V)
structure wb (H:Hp) (F:Cn) (f1 f2 f3 f4 f5 f6:Addr):Prop where
 h1:H f1=some (.lst (F.sw.map V.str))
 h2:H f2=some (.dK F.kp)
 h3:H f3=some (.lst (F.gt.map V.ref))
 h4:H f4=some (.dK F.nx)
 h5:H f5=some (.dK F.nv)
 h6:H f6=some (.dK F.sm)
theorem wb.keep {H H':Hp}{F:Cn}{f1 f2 f3 f4 f5 f6:Addr}(h:wb H F f1 f2 f3 f4 f5 f6) (k:∀b∈[f1,f2,f3,f4,f5,f6],∀o,H b=some o->H' b=some o):wb H' F f1 f2 f3 f4 f5 f6:=
 ⟨k f1 (by simp) _ h.h1,k f2 (by simp) _ h.h2,k f3 (by simp) _ h.h3,k f4 (by simp) _ h.h4,k f5 (by simp) _ h.h5,k f6 (by simp) _ h.h6⟩
theorem wb.same {H H':Hp}{F:Cn}{f1 f2 f3 f4 f5 f6:Addr}(h:wb H F f1 f2 f3 f4 f5 f6) (k:ak H H'):wb H' F f1 f2 f3 f4 f5 f6:=h.keep λb _ o e=>k b o e
structure uW (K:W.Frag) (mg:Str->Option Value) (C:Addr):Prop where
 cl:mj K C
 n1:bU K C "switches"
 n2:bU K C "keepers"
 n3:bU K C "gates"
 n4:bU K C "nexts"
 n5:bU K C "nevers"
 n6:bU K C "somes"
 mgC:mg "Machine" = some (.ref C)
def nU (f1 f2 f3 f4 f5 f6:Addr):List (Str×V):=ao "somes" (.ref f6) (ao "nevers" (.ref f5) (ao "nexts" (.ref f4) (ao "gates" (.ref f3) (ao "keepers" (.ref f2) (ao "switches" (.ref f1) [])))))
section
variable (f1 f2 f3 f4 f5 f6:Addr)
theorem ye:(nU f1 f2 f3 f4 f5 f6).lookup ("switches" : Str)=some (.ref f1):=by
 unfold nU
 rw [aj,if_neg (by decide +kernel),aj,if_neg (by decide +kernel),aj,if_neg (by decide +kernel),aj,if_neg (by decide +kernel),aj,if_neg (by decide +kernel),aj,if_pos rfl]
theorem Et:(nU f1 f2 f3 f4 f5 f6).lookup ("keepers" : Str)=some (.ref f2):=by
 unfold nU
 rw [aj,if_neg (by decide +kernel),aj,if_neg (by decide +kernel),aj,if_neg (by decide +kernel),aj,if_neg (by decide +kernel),aj,if_pos rfl]
theorem Eu:(nU f1 f2 f3 f4 f5 f6).lookup ("gates" : Str)=some (.ref f3):=by
 unfold nU
 rw [aj,if_neg (by decide +kernel),aj,if_neg (by decide +kernel),aj,if_neg (by decide +kernel),aj,if_pos rfl]
end
theorem ay {f:Str}{v:V}{fs:List (Str×V)}{n:Nat}(h:fs.length<=n):(ao f v fs).length<=n+1:=Nat.le_trans (lU f v fs) (Nat.succ_le_succ h)
theorem iV {n m:Nat}(h:n<=m) (hm:m<1000):n<1000:=Nat.lt_of_le_of_lt h hm
theorem bE {H:Hp}{p g C dx:Addr}{o:HO}{fs fs':List (Str×V)}(hp:H p=some (.ins C dx fs)) (hg:H g=none) :
 (upd (upd H g o) p (.ins C dx fs')) p=some (.ins C dx fs')/\(upd (upd H g o) p (.ins C dx fs')) g=some o/\(upd H g o) p=some (.ins C dx fs)/\∀b u,H b=some u->b≠p->(upd (upd H g o) p (.ins C dx fs')) b=some u:=by
 have n:=ae hp hg
 refine ⟨af,by rw [ag (Ne.symm n),af],by rw [ag n]; exact hp,λb u hb nb=>by rw [ag nb,ag (ae hb hg)]; exact hb⟩
abbrev qx:List Str:=["self", "switches", "keepers", "gates", "nexts", "nevers", "somes"]
inductive AD (C:Addr) (vs:List V) (H:Hp) (Q:VK):Prop
 | mk (p dx s1 s2 s3 s4 s5 s6:Addr) (F:Cn) (h1:vs=[.ref p,.ref s1,.ref s2,.ref s3,.ref s4,.ref s5,.ref s6]) (h2:H p=some (.ins C dx [])) (h3:wb H F s1 s2 s3 s4 s5 s6) (h4:∀(g1 g2 g3 g4 g5 g6:Addr) (H':Hp),(∀g∈[g1,g2,g3,g4,g5,g6],H g=none)->[g1,g2,g3,g4,g5,g6].Nodup->H' p=some (.ins C dx (nU g1 g2 g3 g4 g5 g6))->wb H' F g1 g2 g3 g4 g5 g6->aO H H' p->Q .aQ H'):AD C vs H Q
def Ew (C:Addr):Sp:=λvs H Q _=>AD C vs H Q
theorem cg {H H':Hp}{p g:Addr}(k:∀b u,H b=some u->b≠p->H' b=some u) (hg:H' g=none) (np:g≠p):H g=none:=by
 cases e:H g with
 | none=>rfl
 | some o=>rw [k g o e np] at hg; cases hg
section
variable {P:Program}{w:World}{K:W.Frag}{mg:Str->Option Value}{base:Heap}
theorem Mf:aY qx qx (ar qv):=⟨rfl,rfl,rfl,by decide +kernel,rfl,by decide +kernel,by decide +kernel⟩
theorem JR {f C:Addr}{fd:FuncData}(F:cq K "__init__" "Machine.__init__" qv f fd) (T:uW K mg C) (O:gh mg):ax P w K mg base aD 1 f fd qx (Ew C):=by
 refine F.ok Mf (λvs H Q E h=>?_) (λcdv A outer s H vs Q E hr h=>?_)
 . obtain ⟨p,dx,s1,s2,s3,s4,s5,s6,F,rfl,_⟩:=h
   rfl
 . obtain ⟨p,dx,s1,s2,s3,s4,s5,s6,F,rfl,hp,hF,kk⟩:=h
   refine ⟨_,ai (cO (pv 0) (bt gv (by rfl) O.list PyProof.Rows.boot_list (aa (pv 1) ah)) rfl)
    (ai (cO (pv 0) (bt ff (by rfl) O.dict PyProof.Rows.boot_dict (aa (pv 2) ah)) rfl)
    (ai (cO (pv 0) (bt gv (by rfl) O.list PyProof.Rows.boot_list (aa (pv 3) ah)) rfl)
    (ai (cO (pv 0) (bt ff (by rfl) O.dict PyProof.Rows.boot_dict (aa (pv 4) ah)) rfl)
    (ai (cO (pv 0) (bt ff (by rfl) O.dict PyProof.Rows.boot_dict (aa (pv 5) ah)) rfl)
    (aw (cO (pv 0) (bt ff (by rfl) O.dict PyProof.Rows.boot_dict (aa (pv 6) ah)) rfl)))))),?_⟩
   have np:∀{b:Addr}{u:HO},H b=some u->(∀C dx fs,u≠.ins C dx fs)->b≠p:=λhb hu z=>by
    rw [z,hp] at hb
    exact hu _ _ _ (Option.some.inj hb).symm
   have m1:s1≠p:=np hF.h1 (λ_ _ _ z=>by cases z)
   have m2:s2≠p:=np hF.h2 (λ_ _ _ z=>by cases z)
   have m3:s3≠p:=np hF.h3 (λ_ _ _ z=>by cases z)
   have m4:s4≠p:=np hF.h4 (λ_ _ _ z=>by cases z)
   have m5:s5≠p:=np hF.h5 (λ_ _ _ z=>by cases z)
   have m6:s6≠p:=np hF.h6 (λ_ _ _ z=>by cases z)
   refine ⟨_,rfl,s1,_,rfl,.inl (av.of hF.h1),λg1 e1=>?_⟩
   obtain ⟨p1,q1,r1,k1⟩:=bE (o:=.lst (F.sw.map V.str)) (fs':=ao "switches" (.ref g1) []) hp e1
   have b1:g1≠p:=(ae hp e1).symm
   refine ⟨_,rfl,p,C,dx,[],rfl,r1,T.cl,T.n1,(by show 0<1000; decide),?_⟩
   generalize upd (upd H g1 (.lst (F.sw.map V.str))) p (.ins C dx (ao "switches" (.ref g1) []))=H1 at p1 q1 k1 ⊢
   refine ⟨_,rfl,s2,_,rfl,.inl (k1 _ _ hF.h2 m2),λg2 e2=>?_⟩
   obtain ⟨p2,q2,r2,k2⟩:=bE (o:=.dK F.kp) (fs':=ao "keepers" (.ref g2) (ao "switches" (.ref g1) [])) p1 e2
   have b2:g2≠p:=(ae p1 e2).symm
   refine ⟨_,rfl,p,C,dx,_,rfl,r2,T.cl,T.n2,iV (ay (Nat.le_refl _)) (by show 1<1000; decide),?_⟩
   generalize upd (upd H1 g2 (.dK F.kp)) p (.ins C dx (ao "keepers" (.ref g2) (ao "switches" (.ref g1) [])))=H2 at p2 q2 k2 ⊢
   refine ⟨_,rfl,s3,_,rfl,.inl (av.of (k2 _ _ (k1 _ _ hF.h3 m3) m3)),λg3 e3=>?_⟩
   obtain ⟨p3,q3,r3,k3⟩:=bE (o:=.lst (F.gt.map V.ref)) (fs':=ao "gates" (.ref g3) (ao "keepers" (.ref g2) (ao "switches" (.ref g1) []))) p2 e3
   have b3:g3≠p:=(ae p2 e3).symm
   refine ⟨_,rfl,p,C,dx,_,rfl,r3,T.cl,T.n3,iV (ay (ay (Nat.le_refl _))) (by show 2<1000; decide),?_⟩
   generalize upd (upd H2 g3 (.lst (F.gt.map V.ref))) p (.ins C dx (ao "gates" (.ref g3) (ao "keepers" (.ref g2) (ao "switches" (.ref g1) []))))=H3 at p3 q3 k3 ⊢
   refine ⟨_,rfl,s4,_,rfl,.inl (k3 _ _ (k2 _ _ (k1 _ _ hF.h4 m4) m4) m4),λg4 e4=>?_⟩
   obtain ⟨p4,q4,r4,k4⟩:=bE (o:=.dK F.nx) (fs':=ao "nexts" (.ref g4) (ao "gates" (.ref g3) (ao "keepers" (.ref g2) (ao "switches" (.ref g1) [])))) p3 e4
   have b4:g4≠p:=(ae p3 e4).symm
   refine ⟨_,rfl,p,C,dx,_,rfl,r4,T.cl,T.n4,iV (ay (ay (ay (Nat.le_refl _)))) (by show 3<1000; decide),?_⟩
   generalize upd (upd H3 g4 (.dK F.nx)) p (.ins C dx (ao "nexts" (.ref g4) (ao "gates" (.ref g3) (ao "keepers" (.ref g2) (ao "switches" (.ref g1) [])))))=H4 at p4 q4 k4 ⊢
   refine ⟨_,rfl,s5,_,rfl,.inl (k4 _ _ (k3 _ _ (k2 _ _ (k1 _ _ hF.h5 m5) m5) m5) m5),λg5 e5=>?_⟩
   obtain ⟨p5,q5,r5,k5⟩:=bE (o:=.dK F.nv) (fs':=ao "nevers" (.ref g5) (ao "nexts" (.ref g4) (ao "gates" (.ref g3) (ao "keepers" (.ref g2) (ao "switches" (.ref g1) []))))) p4 e5
   have b5:g5≠p:=(ae p4 e5).symm
   refine ⟨_,rfl,p,C,dx,_,rfl,r5,T.cl,T.n5,iV (ay (ay (ay (ay (Nat.le_refl _))))) (by show 4<1000; decide),?_⟩
   generalize upd (upd H4 g5 (.dK F.nv)) p (.ins C dx (ao "nevers" (.ref g5) (ao "nexts" (.ref g4) (ao "gates" (.ref g3) (ao "keepers" (.ref g2) (ao "switches" (.ref g1) []))))))=H5 at p5 q5 k5 ⊢
   refine ⟨_,rfl,s6,_,rfl,.inl (k5 _ _ (k4 _ _ (k3 _ _ (k2 _ _ (k1 _ _ hF.h6 m6) m6) m6) m6) m6),λg6 e6=>?_⟩
   obtain ⟨p6,q6,r6,k6⟩:=bE (o:=.dK F.sm) (fs':=nU g1 g2 g3 g4 g5 g6) p5 e6
   have b6:g6≠p:=(ae p5 e6).symm
   refine ⟨_,rfl,p,C,dx,_,rfl,r6,T.cl,T.n6,iV (ay (ay (ay (ay (ay (Nat.le_refl _)))))) (by show 5<1000; decide),?_⟩
   refine kk g1 g2 g3 g4 g5 g6 _ ?_ ?nd p6 ⟨k6 _ _ (k5 _ _ (k4 _ _ (k3 _ _ (k2 _ _ q1 b1) b1) b1) b1) b1,k6 _ _ (k5 _ _ (k4 _ _ (k3 _ _ q2 b2) b2) b2) b2,k6 _ _ (k5 _ _ (k4 _ _ q3 b3) b3) b3,k6 _ _ (k5 _ _ q4 b4) b4,k6 _ _ q5 b5,q6⟩
    (λb o hb nb=>k6 _ _ (k5 _ _ (k4 _ _ (k3 _ _ (k2 _ _ (k1 _ _ hb nb) nb) nb) nb) nb) nb)
   have z1:∀{g},g≠p->H1 g=none->H g=none:=λn e=>cg k1 e n
   have z2:∀{g},g≠p->H2 g=none->H g=none:=λn e=>z1 n (cg k2 e n)
   have z3:∀{g},g≠p->H3 g=none->H g=none:=λn e=>z2 n (cg k3 e n)
   have z4:∀{g},g≠p->H4 g=none->H g=none:=λn e=>z3 n (cg k4 e n)
   have z5:∀{g},g≠p->H5 g=none->H g=none:=λn e=>z4 n (cg k5 e n)
   case nd=>
    have d12:=ae q1 e2
    have d13:=ae (k2 _ _ q1 b1) e3
    have d14:=ae (k3 _ _ (k2 _ _ q1 b1) b1) e4
    have d15:=ae (k4 _ _ (k3 _ _ (k2 _ _ q1 b1) b1) b1) e5
    have d16:=ae (k5 _ _ (k4 _ _ (k3 _ _ (k2 _ _ q1 b1) b1) b1) b1) e6
    have d23:=ae q2 e3
    have d24:=ae (k3 _ _ q2 b2) e4
    have d25:=ae (k4 _ _ (k3 _ _ q2 b2) b2) e5
    have d26:=ae (k5 _ _ (k4 _ _ (k3 _ _ q2 b2) b2) b2) e6
    have d34:=ae q3 e4
    have d35:=ae (k4 _ _ q3 b3) e5
    have d36:=ae (k5 _ _ (k4 _ _ q3 b3) b3) e6
    have d45:=ae q4 e5
    have d46:=ae (k5 _ _ q4 b4) e6
    have d56:=ae q5 e6
    simp only [List.nodup_cons,List.mem_cons,List.not_mem_nil,or_false,not_or,List.nodup_nil,and_true,not_false_eq_true]
    exact ⟨⟨d12,d13,d14,d15,d16⟩,⟨d23,d24,d25,d26⟩,⟨d34,d35,d36⟩,⟨d45,d46⟩,d56⟩
   intro g hg
   simp only [List.mem_cons,List.not_mem_nil,or_false] at hg
   rcases hg with rfl | rfl | rfl | rfl | rfl | rfl
   . exact e1
   . exact z1 b2 e2
   . exact z2 b3 e3
   . exact z3 b4 e4
   . exact z4 b5 e5
   . exact z5 b6 e6
end
end Gen
namespace Gen
open PySem L2
theorem m8 (z:Str):z=⟨z.cps.toList.toArray⟩:=by cases z; simp
theorem gJ (x:Str):(("~" : Str)++x).cps.toList=126::x.cps.toList:=by
 have e:("~" : Str)=⟨#[126]⟩:=by decide +kernel
 rw [e]
 show (#[126]++x.cps).toList=_
 simp
def fq (l:List (Str×V)):List (Key×V):=l.map λr=>((.inr r.1:Key),r.2)
def gQ (l:List (Str×Str)):List (Key×V):=l.map λr=>((.inr r.1:Key),V.str r.2)
theorem sr (n:Str):∀l:List (Str×V),(aZ (fq l) (.inr n)).isSome=decide (n∈l.map (·.1))
 | []=>by simp [fq,aZ]
 | r::l=>by
  have ih:=sr n l
  by_cases e:r.1=n
  . have h1:aZ (fq (r::l)) (.inr n)=some r.2:=cj (p:=((.inr r.1:Key),r.2)) (by rw [e])
    rw [h1]
    simp [e]
  . have h1:aZ (fq (r::l)) (.inr n)=aZ (fq l) (.inr n):=bZ (p:=((.inr r.1:Key),r.2)) (λq=>e (Sum.inr.inj q))
    rw [h1,ih]
    have:¬ n=r.1:=λq=>e q.symm
    simp [this]
theorem Pu (l:List (Str×Str)):gQ l=fq (l.map λr=>(r.1,V.str r.2)):=by unfold gQ fq; rw [List.map_map]; rfl
theorem nV {z:Str}(h:ba z):¬ z.cps.toList[0]?=some 126:=λe=>by
 have:=ju.mp (h.2.2 126 (List.mem_of_getElem? e))
 omega
def Co (z:Str):Prop:=z = "0" \/ z = "1" \/ ba z\/∃x,ba x/\z = "~" ++ x
theorem Co.len {z:Str}(h:Co z):1<=z.length/\z.length<=9:=by
 rcases h with rfl | rfl | h | ⟨x,hx,rfl⟩
 . decide +kernel
 . decide +kernel
 . refine ⟨?_,Nat.le_trans h.len (by decide)⟩
   have:=h.1
   simpa [Str.length] using this
 . have e:=tT "~" x
   have t1:("~" : Str).length=1:=by decide +kernel
   have:=hx.len
   omega
theorem neS {a b:Str}{A B:Prop}(h:a≠b) (q:B):if decide (V.str a=V.str b)=true then A else B:=by
 rw [decide_eq_false (λe=>h (V.str.inj e))]
 exact iX q
theorem eqS {a:Str}{A B:Prop}(q:A):if decide (V.str a=V.str a)=true then A else B:=by
 rw [decide_eq_true rfl]
 exact kX q
theorem su {α:Type}{l pre post:List α}{i:Nat}(h:(pre++l++post).Nodup) (hi:i<l.length):l[i]∉pre++l.take i:=by
 have e:l=l.take i++l[i]::l.drop (i+1):=by rw [← List.drop_eq_getElem_cons hi,List.take_append_drop]
 have h1:(pre++l).Nodup:=(List.nodup_append.mp h).1
 have h2:((pre++l.take i)++l[i]::l.drop (i+1)).Nodup:=by rw [List.append_assoc,← e]; exact h1
 intro hm
 exact (List.nodup_append.mp h2).2.2 _ hm _ List.mem_cons_self rfl
theorem eL.same {H H':Hp}{m:Addr}{M:aS}{a1 a2 a3 a4 a5 a6:Addr}(h:eL H m M a1 a2 a3 a4 a5 a6) (s:ak H H'):eL H' m M a1 a2 a3 a4 a5 a6:=
 ⟨s _ _ h.top,s _ _ h.sw,h.kp.same s,h.gt.same s,h.nx.same s,h.nv.same s,h.sm.same s⟩
theorem Su {x:V}{r:List V} : jD (x::r) 0=some x:=a0 (j:=0) rfl
end Gen
namespace Gen
open PySem L2
def eN (vv:List (Str×Int)):List (Key×V):=vv.map λr=>((.inr r.1:Key),V.int r.2)
def cD (vv:List (Str×Int)) (n:Str):Int:=((vv.find? λr=>decide (r.1=n)).map (·.2)).getD 0
theorem Pw (vv:List (Str×Int)):eN vv=fq (vv.map λr=>(r.1,V.int r.2)):=by unfold eN fq; rw [List.map_map]; rfl
theorem Gk {n:Str}{l:List (Str×Int)}(h:n∉l.map (·.1)):aZ (eN l) (.inr n)=none:=by
 have:=sr n (l.map λr=>(r.1,V.int r.2))
 rw [← Pw,List.map_map,decide_eq_false (by simpa using h)] at this
 cases e:aZ (eN l) (.inr n) with
 | none=>rfl
 | some v=>rw [e] at this; cases this
theorem yf {n:Str} : ∀{l:List (Str×Int)},n∈l.map (·.1)->aZ (eN l) (.inr n)=some (.int (cD l n))
 | [],h=>by cases h
 | r::l,h=>by
  by_cases e:r.1=n
  . have h1:aZ (eN (r::l)) (.inr n)=some (.int r.2):=cj (p:=((.inr r.1:Key),V.int r.2)) (by rw [e])
    rw [h1]
    unfold cD
    rw [List.find?_cons_of_pos (by simpa using e)]
    rfl
  . have h1:aZ (eN (r::l)) (.inr n)=aZ (eN l) (.inr n):=bZ (p:=((.inr r.1:Key),V.int r.2)) (λq=>e (Sum.inr.inj q))
    rw [h1,yf (l:=l) (by
     rw [List.map_cons,List.mem_cons] at h
     rcases h with h | h
     . exact absurd h.symm e
     . exact h)]
    unfold cD
    rw [List.find?_cons_of_neg (by simpa using e)]
def df (vv:List (Str×Int)) (l:Str):Int:=if l = "0" then 0 else if l = "1" then 1 else if l.cps.toList[0]?=some 126 then 1-cD vv ⟨l.cps.toList.tail.toArray⟩ else cD vv l
def nW (vv:List (Str×Int)) (l:Str):Prop:=l = "0" \/ l = "1" \/ (ba l/\l∈vv.map (·.1))\/∃x,ba x/\x∈vv.map (·.1)/\l = "~" ++ x
theorem uh (vv:List (Str×Int)):df vv "0" = 0:=by rw [df,if_pos rfl]
theorem ui (vv:List (Str×Int)):df vv "1" = 1:=by rw [df,if_neg (by decide +kernel),if_pos rfl]
theorem qy {z:Str}(h:ba z):z ≠ "0" /\ z ≠ "1" /\ ¬ z.cps.toList[0]?=some 126:=by
 have hl:∀c,z.cps.toList[0]?=some c->97<=c:=λc e=>(ju.mp (h.2.2 c (List.mem_of_getElem? e))).1
 refine ⟨λe=>?_,λe=>?_,nV h⟩
 . have:=hl 48 (by rw [e]; decide +kernel)
   omega
 . have:=hl 49 (by rw [e]; decide +kernel)
   omega
theorem yg (x:Str):("~" : Str)++x ≠ "0" /\ ("~" : Str)++x ≠ "1":=by
 have hl:=gJ x
 refine ⟨λe=>?_,λe=>?_⟩
 . rw [e] at hl
   have:(("0" : Str).cps.toList)[0]?=some 48:=by decide +kernel
   rw [hl] at this
   exact absurd this (by simp)
 . rw [e] at hl
   have:(("1" : Str).cps.toList)[0]?=some 49:=by decide +kernel
   rw [hl] at this
   exact absurd this (by simp)
theorem iK {vv:List (Str×Int)}{z:Str}(h:ba z):df vv z=cD vv z:=by
 obtain ⟨a,b,c⟩:=qy h
 rw [df,if_neg a,if_neg b,if_neg c]
theorem ke {vv:List (Str×Int)}{x:Str} : df vv ("~" ++ x)=1-cD vv x:=by
 obtain ⟨a,b⟩:=yg x
 rw [df,if_neg a,if_neg b,gJ,if_pos (show (126::x.cps.toList)[0]?=some 126 from rfl)]
 rw [show (⟨(126::x.cps.toList).tail.toArray⟩:Str)=x from (m8 x).symm]
def nX (vv:List (Str×Int)):Prop:=∀r∈vv,r.2=0\/r.2=1
theorem pJ {vv:List (Str×Int)}(h:nX vv) (n:Str):cD vv n=0\/cD vv n=1:=by
 unfold cD
 cases e:vv.find? λr=>decide (r.1=n) with
 | none=>exact .inl rfl
 | some r=>exact h r (List.mem_of_find?_eq_some e)
theorem jg {vv:List (Str×Int)}(h:nX vv) (l:Str):df vv l=0\/df vv l=1:=by
 unfold df
 split
 . exact .inl rfl
 . split
   . exact .inr rfl
   . split
     . rcases pJ h ⟨l.cps.toList.tail.toArray⟩ with e | e <;> rw [e]
       . exact .inr rfl
       . exact .inl rfl
     . exact pJ h l
def eC (acc:List (Str×Int)) (g:Str×Str×Str):List (Str×Int):=acc++[(g.1,df acc g.2.1*df acc g.2.2)]
def uk (M:aS) (bs cs:List Int):List (Str×Int):=M.switches.zip bs++(M.keepers.map (·.1)).zip cs
def cU (M:aS) (bs cs:List Int) (i:Nat):List (Str×Int):=(M.gates.take i).foldl eC (uk M bs cs)
theorem wc:∀(gs:List (Str×Str×Str)) (acc:List (Str×Int)),(gs.foldl eC acc).map (·.1)=acc.map (·.1)++gs.map (·.1)
 | [],acc=>by simp
 | g::gs,acc=>by
  rw [List.foldl_cons,wc gs,eC,List.map_append,List.map_cons,List.append_assoc]
  rfl
theorem eP {α β:Type} : ∀{l:List α}{r:List β},l.length=r.length->(l.zip r).map (·.1)=l
 | [],[],_=>rfl
 | x::l,y::r,h=>by
  rw [List.zip_cons_cons,List.map_cons,eP (by simpa using h)]
theorem iL {M:aS}{bs cs:List Int}(h1:M.switches.length=bs.length) (h2:M.keepers.length=cs.length) (i:Nat):(cU M bs cs i).map (·.1)=M.switches++M.keepers.map (·.1)++(M.gates.take i).map (·.1):=by
 unfold cU uk
 rw [wc,List.map_append,eP h1,eP (by rw [List.length_map]; exact h2)]
theorem wd {M:aS}{bs cs:List Int}{i:Nat}(hi:i<M.gates.length):cU M bs cs (i+1)=eC (cU M bs cs i) M.gates[i]:=by
 unfold cU
 rw [List.take_succ,List.getElem?_eq_getElem hi,List.foldl_append]
 rfl
theorem yh {l:List Str}{bs:List Int}(h:∀b∈bs,b=0\/b=1):nX (l.zip bs):=λr hr=>h r.2 (List.of_mem_zip hr).2
theorem pK {M:aS}{bs cs:List Int}(h1:∀b∈bs,b=0\/b=1) (h2:∀b∈cs,b=0\/b=1) (i:Nat):nX (cU M bs cs i):=by
 have base:nX (uk M bs cs):=λr hr=>by
  rcases List.mem_append.mp hr with hr | hr
  . exact yh h1 r hr
  . exact yh h2 r hr
 have all:∀(gs:List (Str×Str×Str)) (acc:List (Str×Int)),nX acc->nX (gs.foldl eC acc):=by
  intro gs
  induction gs with
  | nil=>intro acc h; exact h
  | cons g gs ih=>
   intro acc h
   refine ih _ λr hr=>?_
   rcases List.mem_append.mp hr with hr | hr
   . exact h r hr
   . rw [List.mem_singleton.mp hr]
     show df acc g.2.1*df acc g.2.2=0\/df acc g.2.1*df acc g.2.2=1
     rcases jg h g.2.1 with e | e <;> rcases jg h g.2.2 with e' | e' <;> rw [e,e'] <;> simp
 exact all _ _ base
theorem uX {acc:List (Str×Int)}{n:Str}{v:Int}(h:n∉acc.map (·.1)):putK (eN acc) (.inr n) (.int v)=eN (acc++[(n,v)]):=by
 rw [kI _ (Gk h)]
 unfold eN
 rw [List.map_append]
 rfl
theorem Lit.Mg {names:List Str}{z:Str}{vv:List (Str×Int)}(h:Lit names z) (hn:∀x∈names,ba x) (hs:∀x∈names,x∈vv.map (·.1)):nW vv z:=by
 rcases h with h | h | ⟨x,hx,h | h⟩
 . exact .inl h
 . exact .inr (.inl h)
 . exact .inr (.inr (.inl ⟨h ▸ hn x hx,h ▸ hs x hx⟩))
 . exact .inr (.inr (.inr ⟨x,hn x hx,hs x hx,h⟩))
theorem nW.len {vv:List (Str×Int)}{z:Str}(h:nW vv z):1<=z.length/\z.length<=9:=by
 have hf:Co z:=by
  rcases h with h | h | ⟨h,_⟩ | ⟨x,h,_,e⟩
  . exact .inl h
  . exact .inr (.inl h)
  . exact .inr (.inr (.inl h))
  . exact .inr (.inr (.inr ⟨x,h,e⟩))
 exact hf.len
end Gen
namespace Gen
open PySem L2
abbrev uY:Stmt:=top 23
inductive AE (vs:List V) (H:Hp) (Q:VK):Prop
 | mk (d:Addr) (vv:List (Str×Int)) (l:Str) (h1:vs=[.ref d,.str l]) (h2:Rd H d (.dK (eN vv))) (h3:nW vv l) (h4:∀H',ak H H'->Q (.int (df vv l)) H'):AE vs H Q
def pL:Sp:=λvs H Q _=>AE vs H Q
theorem yi {H:Hp}{d:Addr}{vv:List (Str×Int)}{n:Str}(h:Rd H d (.dK (eN vv))) (hn:n∈vv.map (·.1)):b0 H d (.str n) (some (.int (cD vv n))):=.inl ⟨eN vv,.inr n,h,rfl,(yf hn).symm⟩
section
variable {P:Program}{w:World}{K:W.Frag}{mg:Str->Option Value}{base:Heap}
theorem Px:aY ["_law_values_here", "_law_literal_here"] ["_law_values_here", "_law_literal_here"] (ar uY):=⟨rfl,rfl,rfl,by decide +kernel,rfl,by decide +kernel,by decide +kernel⟩
theorem Mh {f:Addr}{fd:FuncData}(F:cq K "_law_bit" "_law_bit" uY f fd) (O:gh mg):ax P w K mg base aD 1 f fd ["_law_values_here", "_law_literal_here"] pL:=by
 refine F.ok Px (λvs H Q E h=>?_) (λcdv A outer s H vs Q E hr h=>?_)
 . obtain ⟨d,vv,l,rfl,_⟩:=h
   rfl
 . obtain ⟨d,vv,l,rfl,hd,hl,kk⟩:=h
   have hu:=fu hr
   have Ex:l.length<=sizeLine:=Nat.le_trans hl.len.2 (by decide)
   refine ⟨_,ai (cS (cN Dy (pv 1) (dJ (aa aU (aa aU ah))) (by with_unfolding_all rfl)) (aw (aW (bt yd (by rfl) O.int PyProof.Rows.boot_int (aa (pv 1) ah)))) bz)
    (ai (cS (cN j5 (aP tG (pv 1) aq (λ_ _=>rfl)) aU (dh _)) (aw (aW (aK Dc aq (cC hu (pv 0) (eu Az (pv 1) (eZ aq) eY) (λ_ _=>rfl))))) bz)
    (aw (aW (cC hu (pv 0) (pv 1) (λ_ _=>rfl))))),?_⟩
   refine ⟨_,rfl,(by show 2<=sizeLine; decide),λt ht=>?_⟩
   have st:ak H (upd H t (.tup [.str "0",.str "1"])):=ak.au ht
   have hd':Rd (upd H t (.tup [.str "0",.str "1"])) d (.dK (eN vv)):=by
    rcases hd with hd | ⟨o,hd⟩
    . exact .inl (st _ _ hd)
    . exact .inr ⟨o,st _ _ hd⟩
   have k0:=kk _ st
   refine ⟨t,_,rfl,.inr (aR.of af),rfl,rfl,_,rfl,?_⟩
   show if tH (.str l) [.str "0",.str "1"]=true then _ else _
   have Gm:l ≠ "0" -> l ≠ "1" -> tH (.str l) [.str "0",.str "1"]=false:=λa b=>by
    have:=uS l ["0", "1"]
    rw [show tH (V.str l) [.str "0",.str "1"]=decide (l∈(["0", "1"]:List Str)) from this]
    exact decide_eq_false (by simp [a,b])
   have tl:("~" : Str)=⟨#[126]⟩:=by decide +kernel
   rcases hl with rfl | rfl | ⟨hn,hm⟩ | ⟨x,hn,hm,rfl⟩
   . rw [uh] at k0
     rw [show tH (V.str "0") [.str "0",.str "1"]=true from by decide +kernel]
     exact kX ⟨_,rfl, "0",0,rfl,by decide +kernel,by decide +kernel,k0⟩
   . rw [ui] at k0
     rw [show tH (V.str "1") [.str "0",.str "1"]=true from by decide +kernel]
     exact kX ⟨_,rfl, "1",1,rfl,by decide +kernel,by decide +kernel,k0⟩
   . obtain ⟨n0,n1,n2⟩:=qy hn
     rw [iK hn] at k0
     rw [Gm n0 n1]
     refine iX ?_
     obtain ⟨c,hc⟩:∃c,l.cps.toList[0]?=some c:=⟨_,List.getElem?_eq_getElem (by have:=hn.1; omega)⟩
     have Py:c≠126:=λe=>n2 (by rw [hc,e])
     refine ⟨_,rfl,l,0,c,rfl,rfl,Ex,a0 (j:=0) hc,rfl,_,rfl,neS (λq=>Py (by
      rw [tl] at q
      have e2:=congrArg (λs:Str=>s.cps.toList) q
      simpa using e2)) ?_⟩
     exact ⟨_,rfl,_,rfl,d,_,rfl,yi hd' hm,k0⟩
   . obtain ⟨n0,n1⟩:=yg x
     rw [ke] at k0
     rw [Gm n0 n1]
     refine iX ?_
     have e0:(("~" : Str)++x).cps.toList[0]?=some 126:=by rw [gJ]; rfl
     refine ⟨_,rfl,_,0,126,rfl,rfl,Ex,a0 (j:=0) e0,rfl,_,rfl,?_⟩
     rw [show (⟨#[126]⟩:Str) = "~" from tl.symm]
     refine eqS ?_
     refine ⟨_,rfl,_,rfl,_,rfl,_,1,rfl,rfl,rfl,Ex,?_⟩
     have ts:Txt.slice (("~" : Str)++x) (some 1) none=x:=by
      rw [m8 (Txt.slice (("~" : Str)++x) (some 1) none),ug,gJ]
      exact (m8 x).symm
     rw [ts]
     exact ⟨d,_,rfl,yi hd' hm,_,_,rfl,rfl,k0⟩
end
end Gen
namespace Gen
open PySem L2
structure rq (M:aS) (names:List Str) (bs cs:List Int):Prop where
 ok:cy M names
 l1:M.switches.length=bs.length
 l2:M.keepers.length=cs.length
 b1:∀b∈bs,b=0\/b=1
 b2:∀b∈cs,b=0\/b=1
 n1:M.switches.length<=12
 n2:M.keepers.length<=16
 n3:M.gates.length<=60
section
variable {M:aS}{names:List Str}{bs cs:List Int}
theorem rq.nd (h:rq M names bs cs):(M.switches++M.keepers.map (·.1)++M.gates.map (·.1)).Nodup:=by have:=h.ok.nd; rw [h.ok.all] at this; exact this
theorem rq.nm (h:rq M names bs cs):∀z∈M.switches++M.keepers.map (·.1)++M.gates.map (·.1),ba z:=λz hz=>h.ok.nm z (by rw [h.ok.all]; exact hz)
theorem rq.len (h:rq M names bs cs) (i:Nat):(cU M bs cs i).length<=88:=by
 have:=congrArg List.length (iL h.l1 h.l2 i)
 simp only [List.length_map,List.length_append,List.length_take] at this
 have:=h.n1
 have:=h.n2
 have:=h.n3
 omega
theorem rq.gate (h:rq M names bs cs){i:Nat}(hi:i<M.gates.length):M.gates[i].1∉(cU M bs cs i).map (·.1)/\nW (cU M bs cs i) M.gates[i].2.1/\nW (cU M bs cs i) M.gates[i].2.2:=by
 rw [iL h.l1 h.l2]
 have Sv:∀x∈M.switches++M.keepers.map (·.1)++(M.gates.take i).map (·.1),ba x:=λx hx=>h.nm x (by
  rcases List.mem_append.mp hx with hx | hx
  . exact List.mem_append_left _ hx
  . obtain ⟨r,hr,e⟩:=List.mem_map.mp hx
    exact List.mem_append_right _ (List.mem_map.mpr ⟨r,List.mem_of_mem_take hr,e⟩))
 obtain ⟨g1,g2⟩:=h.ok.gl i _ (List.getElem?_eq_getElem hi)
 refine ⟨?_,g1.Mg Sv λx hx=>by rw [iL h.l1 h.l2]; exact hx,g2.Mg Sv λx hx=>by rw [iL h.l1 h.l2]; exact hx⟩
 have:=su (l:=M.gates.map (·.1)) (pre:=M.switches++M.keepers.map (·.1)) (post:=[]) (by simpa using h.nd) (i:=i) (by rw [List.length_map]; exact hi)
 rw [List.getElem_map,← List.map_take] at this
 exact this
end
def sv (K:W.Frag) (H:Hp) (t:Addr) (bs:List Int):Prop:=aR K H t (bs.map V.int)
theorem sv.same {K:W.Frag}{H H':Hp}{t:Addr}{bs:List Int}(h:sv K H t bs) (s:ak H H'):sv K H' t bs:=ak.lg s h
theorem aR.keep {K:W.Frag}{H H':Hp}{u:Addr}{xs:List V}(h:aR K H u xs) (k:∀o,(∀kvs,o≠.dK kvs)->(∀l,o≠.lst l)->H u=some o->H' u=some o):aR K H' u xs:=by
 rcases h with (h | ⟨o,h⟩) | h
 . exact .inl (.inl (k _ (by intro _ z; cases z) (by intro _ z; cases z) h))
 . exact .inl (.inr ⟨o,k _ (by intro _ z; cases z) (by intro _ z; cases z) h⟩)
 . exact .inr h
end Gen
namespace Gen
open PySem L2
abbrev kr:Stmt:=top 22
inductive we (K:W.Frag) (vs:List V) (H:Hp) (Q:VK):Prop
 | mk (m a1 a2 a3 a4 a5 a6 st tl:Addr) (M:aS) (names:List Str) (bs cs:List Int) (h1:vs=[.ref m,.ref st,.ref tl]) (h2:eL H m M a1 a2 a3 a4 a5 a6) (h3:rq M names bs cs) (h4:sv K H st cs) (h5:sv K H tl bs) (h6:∀d H',H d=none->ak H H'->H' d=some (.dK (eN (cU M bs cs M.gates.length)))->Q (.ref d) H'):we K vs H Q
def sA (K:W.Frag):Sp:=λvs H Q _=>we K vs H Q
abbrev nVs:List Str:=["_law_m", "_law_stand", "_law_told", "_law_values_here", "_law_name", "_law_bit_here", "_law_keeper", "_law_one", "_law_other"]
abbrev AF:List Str:=["_law_m", "_law_stand", "_law_told"]
theorem yj {α β:Type}{l:List α}{r:List β}{i:Nat}(h1:i<l.length) (h2:i<r.length):(l.zip r).take (i+1)=(l.zip r).take i++[(l[i],r[i])]:=by
 rw [List.take_succ,List.getElem?_eq_getElem (by rw [List.length_zip]; omega),List.getElem_zip]
 rfl
section
variable {P:Program}{w:World}{K:W.Frag}{mg:Str->Option Value}{base:Heap}
theorem nY:aY nVs AF (ar kr):=⟨rfl,rfl,rfl,by decide +kernel,rfl,by decide +kernel,by decide +kernel⟩
theorem Ey {f fB:Addr}{fd dB:FuncData}(F:cq K "_law_values" "_law_values" kr f fd) (O:gh mg) (GB:ax P w K mg base aD 1 fB dB ["_law_values_here", "_law_literal_here"] pL) (mB:mg "_law_bit" = some (.ref fB)) (kB:W.keepIn K (.ref fB)=true) (bB:Binds K dB ["_law_values_here", "_law_literal_here"] []):ax P w K mg base aD 2 f fd AF (sA K):=by
 refine F.ok nY (λvs H Q E h=>?_) (λcdv A outer s H vs Q E hr h=>?_)
 . obtain ⟨m,a1,a2,a3,a4,a5,a6,st,tl,M,names,bs,cs,rfl,_⟩:=h
   rfl
 . obtain ⟨m,a1,a2,a3,a4,a5,a6,st,tl,M,names,bs,cs,rfl,hM,hf,jA,rf,kk⟩:=h
   have hu:=fu hr
   have cM:bb 1 _:=hr
   have l1:=hf.l1
   have l2:=hf.l2
   have n1:=hf.n1
   have n2:=hf.n2
   have n3:=hf.n3
   refine ⟨_,ai (aE (i:=3) nY.nd rfl (Or.inl rfl) nG)
    (ai (dG PassesOwn.never rfl (AA (by rfl) O.zip (aa (cC hu (pv 0) aU (λ_ _=>rfl)) (aa (pv 2) ah))) (jz rfl (bY (aF (i:=4) nY.nd rfl (Or.inl rfl)) (bY (aF (i:=5) nY.nd rfl (Or.inl rfl)) iD)))
     (aw (eX hu (pv 3) (pv 4) (pv 5) rfl)))
    (ai (dG PassesOwn.never rfl (AA (by rfl) O.zip (aa (cC hu (pv 0) aU (λ_ _=>rfl)) (aa (pv 1) ah))) (jz rfl (bY (aF (i:=6) nY.nd rfl (Or.inl rfl)) (bY (aF (i:=5) nY.nd rfl (Or.inl rfl)) iD)))
     (aw (eX hu (pv 3) (aP cI (pv 6) aq (λ_ _=>rfl)) (pv 5) rfl)))
    (ai (dG PassesOwn.never rfl (cG (cC hu (pv 0) aU (λ_ _=>rfl))) (jz rfl (bY (aF (i:=4) nY.nd rfl (Or.inl rfl)) (bY (aF (i:=7) nY.nd rfl (Or.inl rfl)) (bY (aF (i:=8) nY.nd rfl (Or.inl rfl)) iD))))
     (aw (eX hu (pv 3) (pv 4) (aK iT (aB GB cM rfl mB kB bB .nil aA (aa (pv 3) (aa (pv 7) ah))) (aB GB cM rfl mB kB bB .nil aA (aa (pv 3) (aa (pv 8) ah)))) rfl)))
    (aw (aW (pv 3)))))),?_⟩
   intro d hd
   have kp:∀b o,H b=some o->b≠d:=λb o hb=>ae hb hd
   have s1:ak H (upd H d (.dK [])):=ak.au hd
   have q1:(upd H d (.dK [])) d=some (.dK (eN ((M.switches.zip bs).take 0))):=af
   generalize upd H d (.dK [])=H1 at s1 q1 ⊢
   have oH:=hM.same s1
   have ndS:M.switches.Nodup:=(List.nodup_append.mp (List.nodup_append.mp hf.nd).1).1
   refine ⟨_,rfl,m,.ref a1,rfl,b0.k (k:=.inr "switches") oH.top,_,rfl,a1,tl,rfl,⟨_,av.of oH.sw⟩,⟨_,ak.lg s1 rf⟩,AB (K:=K) (tp:=false) (tq:=true) (a:=a1) (b:=tl) (xs:=M.switches.map V.str) (ys:=bs.map V.int) (by simp only [List.length_map]; omega)
    (λi σ H2=>∃v4 v5,σ=[some (.ref m),some (.ref st),some (.ref tl),some (.ref d),v4,v5,none,none,none]/\H2 d=some (.dK (eN ((M.switches.zip bs).take i)))/\ak H H2) ?_ ?_ ?_ ?_⟩
   . exact ⟨none,none,rfl,q1,s1⟩
   . rintro i σ H2 _ ⟨_,_,_,_,s2⟩
     exact ⟨av.of (s2 _ _ hM.sw),ak.lg s2 rf⟩
   . rintro i xv yv Tp σ H2 hx hy hT ⟨v4,v5,rfl,hd2,s2⟩
     have hi:i<M.switches.length:=by
      have:=(List.getElem?_eq_some_iff.mp hx).1
      rwa [List.length_map] at this
     have Ez:i<bs.length:=by omega
     have ex:xv=.str M.switches[i]:=by
      rw [List.getElem?_map,List.getElem?_eq_getElem hi] at hx
      exact (Option.some.inj hx).symm
     have ey:yv=.int bs[i]:=by
      rw [List.getElem?_map,List.getElem?_eq_getElem Ez] at hy
      exact (Option.some.inj hy).symm
     subst ex ey
     have Mi:d≠Tp:=ae hd2 hT
     have Vx:(upd H2 Tp (.tup [.str M.switches[i],.int bs[i]])) d=some (.dK (eN ((M.switches.zip bs).take i))):=by rw [ag Mi]; exact hd2
     refine ⟨Tp,_,rfl,aR.of af,rfl,_,_,rfl,_,_,rfl,rfl,?_⟩
     refine ⟨_,rfl,_,rfl,_,rfl,d,_,rfl,gu.k (k:=.inr M.switches[i]) Vx ?_,?_⟩
     . unfold eN
       rw [List.length_map,List.length_take,List.length_zip]
       exact small (by omega)
     . refine ⟨_,_,rfl,?_,λb o hb=>?_⟩
       . rw [af,uX,yj hi Ez]
         rw [List.map_take,eP l1]
         have:=su (pre:=[]) (post:=[]) (by simpa using ndS) hi
         simpa using this
       . rw [ag (kp b o hb),ag (ae (s2 _ _ hb) hT)]
         exact s2 _ _ hb
   rintro σ H2 ⟨v4,v5,rfl,hd2,s2⟩
   rw [List.length_map,List.take_of_length_le (by rw [List.length_zip]; omega)] at hd2
   have wg:=hM.same s2
   obtain ⟨us,Mj,gw⟩:=id wg.kp
   have vP:=gw.length
   rw [List.length_map] at vP
   have i0:=(List.nodup_append.mp hf.nd).1
   refine ⟨_,rfl,m,.ref a2,rfl,b0.k (k:=.inr "keepers") wg.top,_,rfl,a2,st,rfl,⟨_,av.of Mj⟩,⟨_,ak.lg s2 jA⟩,AB (K:=K) (tp:=false) (tq:=true) (a:=a2) (b:=st) (xs:=us.map V.ref) (ys:=cs.map V.int) (by simp only [List.length_map]; omega)
    (λi σ H3=>∃v5 v6,σ=[some (.ref m),some (.ref st),some (.ref tl),some (.ref d),v4,v5,v6,none,none]/\H3 d=some (.dK (eN (M.switches.zip bs++((M.keepers.map (·.1)).zip cs).take i)))/\(∀b o,H2 b=some o->b≠d->H3 b=some o)) ?_ ?_ ?_ ?_⟩
   . exact ⟨v5,none,rfl,by rw [List.take_zero,List.append_nil]; exact hd2,λ_ _ h _=>h⟩
   . rintro i σ H3 _ ⟨_,_,_,_,s3⟩
     refine ⟨av.of (s3 _ _ Mj ?_),aR.keep (ak.lg s2 jA) λo Ml _ ho=>s3 _ _ ho (a9 ho hd2 (Ml _))⟩
     exact a9 Mj hd2 (by intro z; cases z)
   . rintro i xv yv Tp σ H3 hx hy hT ⟨Sw,v6,rfl,yk,s3⟩
     have hi:i<M.keepers.length:=by
      have:=(List.getElem?_eq_some_iff.mp hx).1
      rw [List.length_map] at this
      omega
     have Ez:i<cs.length:=by omega
     obtain ⟨t,ht,LV⟩:=cF gw (i:=i) (b:=jd M.keepers[i]) (by rw [List.getElem?_map,List.getElem?_eq_getElem hi]; rfl)
     have ex:xv=.ref t:=by
      rw [List.getElem?_map,ht] at hx
      exact (Option.some.inj hx).symm
     have ey:yv=.int cs[i]:=by
      rw [List.getElem?_map,List.getElem?_eq_getElem Ez] at hy
      exact (Option.some.inj hy).symm
     subst ex ey
     have Mi:d≠Tp:=ae yk hT
     have Vy:(upd H3 Tp (.tup [.ref t,.int cs[i]])) d=some (.dK (eN (M.switches.zip bs++((M.keepers.map (·.1)).zip cs).take i))):=by rw [ag Mi]; exact yk
     have htd:t≠d:=a9 LV hd2 (by intro z; cases z)
     have Sx:=s3 _ _ LV htd
     have ntT:t≠Tp:=ae Sx hT
     refine ⟨Tp,_,rfl,aR.of af,rfl,_,_,rfl,_,_,rfl,rfl,?_⟩
     refine ⟨_,rfl,_,rfl,_,rfl,t,_,0,.str M.keepers[i].1,rfl,rfl,aR.of (by rw [ag ntT]; exact Sx),Su,d,_,rfl,gu.k (k:=.inr M.keepers[i].1) Vy ?_,?_⟩
     . unfold eN
       simp only [List.length_map,List.length_append,List.length_take,List.length_zip]
       exact small (by omega)
     . refine ⟨_,_,rfl,?_,λb o hb AG=>?_⟩
       . rw [af,uX]
         . rw [yj (by rw [List.length_map]; exact hi) Ez,List.getElem_map,List.append_assoc]
         . rw [List.map_append,eP l1,List.map_take,eP (by rw [List.length_map]; exact l2)]
           have:=su (l:=M.keepers.map (·.1)) (pre:=M.switches) (post:=[]) (by simpa using i0) (i:=i) (by rw [List.length_map]; exact hi)
           rw [List.getElem_map] at this
           exact this
       . rw [ag AG,ag (ae (s3 _ _ hb AG) hT)]
         exact s3 _ _ hb AG
   rintro σ H3 ⟨Sw,v6,rfl,yk,s3⟩
   rw [List.length_map,vP,List.take_of_length_le (by rw [List.length_zip,List.length_map]; omega)] at yk
   have vX:ak H H3:=λb o hb=>s3 _ _ (s2 _ _ hb) (kp b o hb)
   have Sy:=hM.same vX
   obtain ⟨ts,Mm,Sz⟩:=id Sy.gt
   have xU:=Sz.length
   rw [List.length_map] at xU
   refine ⟨_,rfl,m,.ref a3,rfl,b0.k (k:=.inr "gates") Sy.top,a3,rfl,⟨_,av.of Mm⟩,iw (K:=K) (a:=a3) (xs:=ts.map V.ref) (λi σ H4=>∃v4 v7 v8,σ=[some (.ref m),some (.ref st),some (.ref tl),some (.ref d),v4,Sw,v6,v7,v8]/\H4 d=some (.dK (eN (cU M bs cs i)))/\(∀b o,H3 b=some o->b≠d->H4 b=some o)) ?_ ?_ ?_ ?_⟩
   . exact ⟨v4,none,none,rfl,yk,λ_ _ h _=>h⟩
   . rintro i σ H4 _ ⟨_,_,_,_,_,s4⟩
     exact av.of (s4 _ _ Mm (a9 Mm yk (by intro z; cases z)))
   . rintro i xv σ H4 hx ⟨v4',v7,v8,rfl,AH,s4⟩
     have rj:i<(ts.map V.ref).length:=(List.getElem?_eq_some_iff.mp hx).1
     rw [List.length_map,xU] at rj
     obtain ⟨t,ht,hT⟩:=cF Sz (i:=i) (b:=jU M.gates[i]) (by rw [List.getElem?_map,List.getElem?_eq_getElem rj]; rfl)
     have ex:xv=.ref t:=by
      rw [List.getElem?_map,ht] at hx
      exact (Option.some.inj hx).symm
     subst ex
     obtain ⟨jV,jF,cV⟩:=hf.gate rj
     have hbt:=pK (M:=M) hf.b1 hf.b2 i
     refine ⟨t,_,rfl,aR.of (s4 _ _ hT (a9 hT yk (by intro z; cases z))),rfl,_,_,rfl,_,_,rfl,_,_,rfl,rfl,?_⟩
     refine ⟨_,rfl,_,rfl,d,_,_,rfl,.inl AH,jF,λH5 s5=>?_⟩
     refine ⟨_,rfl,_,rfl,d,_,_,rfl,.inl (s5 _ _ AH),cV,λH6 s6=>?_⟩
     have hd6:=s6 _ _ (s5 _ _ AH)
     have hlen:=hf.len i
     refine ⟨_,_,rfl,rfl,.inl ?_,?_⟩
     . rcases jg hbt M.gates[i].2.1 with e | e <;> rw [e] <;> decide
     refine ⟨_,rfl,_,rfl,d,_,rfl,gu.k (k:=.inr M.gates[i].1) hd6 (by unfold eN; rw [List.length_map]; exact small (by omega)),?_⟩
     refine ⟨_,_,_,rfl,?_,λb o hb AG=>?_⟩
     . rw [af,uX jV,wd rj]
       rfl
     . rw [ag AG]
       exact s6 _ _ (s5 _ _ (s4 _ _ hb AG))
   . rintro σ H4 ⟨v4',v7,v8,rfl,AH,s4⟩
     rw [List.length_map,xU] at AH
     exact ⟨_,rfl,kk d H4 hd (λb o hb=>s4 _ _ (vX _ _ hb) (kp b o hb)) AH⟩
end
end Gen
namespace L2
open PySem PySem.Spec PyProof.Rows
def rev:Nat->Nat->Nat
 | 0,_=>0
 | k+1,i=>(i % 2)*2 ^ k+rev k (i / 2)
def cB (k i j:Nat):Bool:=Nat.blt (rev k i) (rev k j)
def place (c:Nat->Nat->Bool) (p:Array Nat) (lo k:Nat):Nat->Nat->Nat->Nat
 | 0,l,_=>l
 | f+1,l,r=>if l≥r then l else if c (p.getD (lo+k) 0) (p.getD (lo+(l+r) / 2) 0)=true then place c p lo k f l ((l+r) / 2) else place c p lo k f ((l+r) / 2+1) r
def bQ (c:Nat->Nat->Bool) (lo:Nat):Nat->Nat->Array Nat->Array Nat
 | 0,_,p=>p
 | f+1,k,p=>bQ c lo f (k+1) (bubble p (lo+k) (lo+k-(lo+place c p lo k k 0 k)))
theorem wj {α β:Type}(f:α->β) (u v:Nat->Nat):∀(l:List Nat) (xs:Array α),l.foldl (λa k=>a.swapIfInBounds (u k) (v k)) (xs.map f)=(l.foldl (λa k=>a.swapIfInBounds (u k) (v k)) xs).map f
 | [],_=>rfl
 | k::l,xs=>by
  rw [List.foldl_cons,List.foldl_cons,W.kas_swap_map]
  exact wj f u v l _
section
variable {prog:Program}{w:World}{A:Around}{E:Value->Shared->Prop}{s:Shared}{κ:SortKind}{it:Nat->Keyed}{N:Nat}{c:Nat->Nat->Bool}{p:Array Nat}{pd:Array (Nat×Nat×Nat)}
def fg (prog:Program) (w:World) (A:Around) (s:Shared) (κ:SortKind) (it:Nat->Keyed) (N:Nat) (c:Nat->Nat->Bool):Prop:=
 ∀i j,i<N->j<N->∀(E:Value->Shared->Prop) (Q:Bool->Shared->Prop),Q (c i j) s->wpAny (model prog w) A (keyLt' κ (it i).1 (it j).1) Q E s
def aX (κ:SortKind) (it:Nat->Keyed) (p:Array Nat) (pd:Array (Nat×Nat×Nat)):SortSt:=SortSt.mk' κ (p.map it) pd 7 none
def ig (N:Nat) (p:Array Nat):Prop:=∀i,i<p.size->p.getD i 0<N
theorem uZ (C:fg prog w A s κ it N c){st:SortSt}{i j:Nat}{Q:Option Bool->SortSt->Prop}(hk:kindOf st=κ) (hi:i<N) (hj:j<N) (h:Q (some (c i j)) st):wpS (model prog w) A E s (lt' (it i) (it j)) Q st:=by
 rw [lt'_eq]
 refine wpS_bind (wpS_get ?_)
 rw [hk]
 refine wpS_bind (wpS_lift (wpAny_attempt (C i j hi hj _ _ ⟨rfl,?_⟩)))
 exact wpS_pure h
theorem eD {st:SortSt}{i:Nat}{Q:Keyed->SortSt->Prop}(hi:i<p.size) (h:Q (it (p.getD i 0)) st):wpS (model prog w) A E s (elem' (p.map it) i) Q st:=by
 rw [elem'_eq]
 have e:(p.map it)[i]?=some (it (p.getD i 0)):=by simp [Array.getD,hi]
 rw [e]
 exact wpS_pure h
theorem yl (C:fg prog w A s κ it N c){i j:Nat}{Q:Option Bool->SortSt->Prop}(B:ig N p) (hi:i<p.size) (hj:j<p.size) (h:Q (some (c (p.getD i 0) (p.getD j 0))) (aX κ it p pd)):wpS (model prog w) A E s (ltAt' i j) Q (aX κ it p pd):=by
 rw [ltAt'_eq]
 refine wpS_bind (wpS_get (wpS_bind (eD hi (wpS_bind (eD hj ?_)))))
 exact uZ C rfl (B i hi) (B j hj) h
theorem Mn {k l:Nat}{Q:Unit->SortSt->Prop}(h:Q () (aX κ it (bubble p k (k-l)) pd)):wpS (model prog w) A E s (moveDown' k l) Q (aX κ it p pd):=by
 rw [moveDown'_eq]
 refine wpS_modify ?_
 have e:bubble (p.map it) k (k-l)=(bubble p k (k-l)).map it:=wj it (λi=>k-i) (λi=>k-i-1) _ p
 show Q () (SortSt.mk' κ (bubble (p.map it) k (k-l)) pd 7 none)
 rw [e]
 exact h
theorem ig.perm {q:Array Nat}(B:ig N p) (h:q.Perm p):ig N q:=λi hi=>by
 have hs:q.size=p.size:=h.size_eq
 have hm:q.getD i 0∈p:=h.mem_iff.mp (by
  have:q.getD i 0=q[i]:=by simp [Array.getD,hi]
  rw [this]
  exact Array.getElem_mem hi)
 obtain ⟨j,hj,e⟩:=Array.mem_iff_getElem.mp hm
 rw [← e]
 have:p.getD j 0=p[j]:=by simp [Array.getD,hj]
 rw [← this]
 exact B j hj
theorem wJ (C:fg prog w A s κ it N c){lo n ok:Nat}{Q:Bool->SortSt->Prop}(B:ig N p) (hz:lo+n<=p.size) (hok:1<=ok) (hn:ok<=n) (h:Q true (aX κ it (bQ c lo (n-ok) ok p) pd)):wpS (model prog w) A E s (binarySort' lo n ok) Q (aX κ it p pd):=by
 rw [binarySort'_eq]
 have hm:max ok 1=ok:=by omega
 rw [hm]
 refine wpS_bind (wpS_mono (wpS_forRange (I:=λk d aG=>d=(none,())/\∃q:Array Nat,aG=aX κ it q pd/\q.Perm p/\bQ c lo (n-k) k q=bQ c lo (n-ok) ok p)
  (Q:=λd aG=>d=(none,())/\aG=aX κ it (bQ c lo (n-ok) ok p) pd) ?step ?fin ⟨rfl,p,rfl,Array.Perm.refl _,rfl⟩) ?post)
 case post=>
  rintro d aG ⟨rfl,rfl⟩
  exact wpS_pure h
 case fin=>
  rintro d aG ⟨rfl,q,rfl,_,e⟩
  refine ⟨rfl,?_⟩
  rw [show n-max ok n=0 by omega] at e
  rw [← e]
  rfl
 case step=>
  rintro k d aG hk hkn ⟨rfl,q,rfl,hq,e⟩
  have hs:q.size=p.size:=hq.size_eq
  have Bq:=B.perm hq
  refine wpS_bind (wpS_mono (wpS_forRange (I:=λx d aV=>aV=aX κ it q pd/\∃l r,d=(none,l,r)/\l<=r/\r<=k/\place c q lo k (k-x) l r=place c q lo k k 0 k)
   (Q:=λd aV=>aV=aX κ it q pd/\∃l r,d=(none,l,r)/\l=place c q lo k k 0 k) ?istep ?ifin ⟨rfl,0,k,rfl,by omega,by omega,rfl⟩) ?ipost)
  case ifin=>
   rintro d aV ⟨rfl,l,r,rfl,h1,h2,e2⟩
   refine ⟨rfl,l,r,rfl,?_⟩
   rw [show k-max 0 k=0 by omega] at e2
   exact e2
  case istep=>
   rintro x d aV _ hx ⟨rfl,l,r,rfl,h1,h2,e2⟩
   obtain ⟨f,hf⟩:∃f,k-x=f+1:=⟨k-x-1,by omega⟩
   have Ih:k-(x+1)=f:=by omega
   rw [hf,place] at e2
   dsimp only
   by_cases SA:l≥r
   . rw [if_pos SA] at e2 ⊢
     exact wpS_pure ⟨rfl,l,r,rfl,e2⟩
   . rw [if_neg SA] at e2 ⊢
     refine wpS_bind (yl C Bq (by omega) (by omega) ?_)
     dsimp only
     cases hc:c (q.getD (lo+k) 0) (q.getD (lo+(l+r) / 2) 0) with
     | true=>
      rw [hc,if_pos rfl] at e2
      rw [if_pos rfl]
      exact wpS_pure ⟨rfl,l,(l+r) / 2,rfl,by omega,by omega,by rw [Ih]; exact e2⟩
     | false=>
      rw [hc,if_neg (by decide)] at e2
      rw [if_neg (by decide)]
      exact wpS_pure ⟨rfl,(l+r) / 2+1,r,rfl,by omega,by omega,by rw [Ih]; exact e2⟩
  case ipost=>
   rintro d aV ⟨rfl,l,r,rfl,e2⟩
   refine wpS_bind (Mn (wpS_pure ⟨rfl,_,rfl,(bubble_perm _ _ _).trans hq,?_⟩))
   obtain ⟨f,hf⟩:∃f,n-k=f+1:=⟨n-k-1,by omega⟩
   rw [hf,bQ,← e2] at e
   rw [show n-(k+1)=f by omega]
   exact e
theorem nZ (C:fg prog w A s κ it N c){lo n:Nat}{Q:Option Nat->SortSt->Prop}(B:ig N p) (hz:lo+n<=p.size) (hn:3<=n) (h1:c (p.getD (lo+1) 0) (p.getD lo 0)=false) (h2:c (p.getD (lo+2) 0) (p.getD (lo+1) 0)=true) (h3:c (p.getD lo 0) (p.getD (lo+1) 0)=true)
 (h:Q (some 2) (aX κ it p pd)):wpS (model prog w) A E s (countRun' lo n) Q (aX κ it p pd):=by
 rw [countRun'_eq]
 refine wpS_bind (wpS_mono (wpS_forRange (I:=λx d aG=>aG=aX κ it p pd/\((x=1/\d=(none,1))\/(x=2/\d=(none,2))))
  (Q:=λd aG=>aG=aX κ it p pd/\d=(none,2)) ?step ?fin ⟨rfl,.inl ⟨rfl,rfl⟩⟩) ?post)
 case fin=>
  rintro d aG ⟨rfl,⟨e,rfl⟩ | ⟨e,rfl⟩⟩
  . omega
  . exact ⟨rfl,rfl⟩
 case step=>
  rintro x d aG hx Mo ⟨rfl,⟨rfl,rfl⟩ | ⟨rfl,rfl⟩⟩
  . refine wpS_bind (yl C B (by omega) (by omega) ?_)
    rw [show lo+1-1=lo by omega,h1]
    exact wpS_pure ⟨rfl,.inr ⟨rfl,rfl⟩⟩
  . refine wpS_bind (yl C B (by omega) (by omega) ?_)
    rw [show lo+2-1=lo+1 by omega,h2]
    exact wpS_pure ⟨rfl,rfl⟩
 case post=>
  rintro d aG ⟨rfl,rfl⟩
  dsimp only
  rw [if_neg (by simp; omega),if_pos (by omega)]
  refine wpS_bind (yl C B (by omega) (by omega) ?_)
  rw [show lo+2-1=lo+1 by omega,h3]
  exact wpS_pure h
end
end L2
namespace L2
open PySem PySem.Spec PyProof.Rows
section
variable {prog:Program}{w:World}{A:Around}{E:Value->Shared->Prop}{s:Shared}{κ:SortKind}{it:Nat->Keyed}{N:Nat}{c:Nat->Nat->Bool}{p:Array Nat}{pd:Array (Nat×Nat×Nat)}
def AI:Bool->Keyed->Array Keyed->Nat->Nat->Nat->StateT SortSt Sem (Option Nat):=sortPriv% PySem.Builtin.gallop
def Gn:Array Keyed->Array Keyed->StateT SortSt Sem (Array Keyed):=sortPriv% PySem.Builtin.mergeLo
theorem AJ (C:fg prog w A s κ it N c){kb n base:Nat}{Q:Option Nat->SortSt->Prop}{st:SortSt}(hk:kindOf st=κ) (B:ig N p) (hb:kb<N) (hn:2<=n) (hz:base+n<=p.size) (h1:c kb (p.getD base 0)=false) (h2:c kb (p.getD (base+1) 0)=true) (h:Q (some 1) st) :
 wpS (model prog w) A E s (AI false (it kb) (p.map it) base n 0) Q st:=by
 refine wpS_bind (wpS_bind (eD (show base+0<p.size by omega) ?_))
 rw [if_neg (by decide)]
 refine wpS_bind (uZ C hk hb (B _ (by omega)) ?_)
 rw [Nat.add_zero,h1]
 refine wpS_pure ?_
 show wpS _ _ _ _ (do
  let r ← _
  _) _ _
 refine wpS_bind (wpS_mono (wpS_forRange (I:=λx d aG=>aG=st/\x=0/\d=(none,0,1)) (Q:=λd aG=>aG=st/\d=(none,0,1)) ?step ?fin ⟨rfl,rfl,rfl⟩) ?post)
 case fin=>
  rintro d aG ⟨_,e,_⟩
  omega
 case step=>
  rintro x d aG _ hx ⟨rfl,rfl,rfl⟩
  dsimp only
  rw [if_neg (by omega)]
  refine wpS_bind (wpS_bind (eD (show base+(0+1)<p.size by omega) ?_))
  rw [if_neg (by decide)]
  refine wpS_bind (uZ C hk hb (B _ (by omega)) ?_)
  rw [Nat.zero_add,h2]
  exact wpS_pure (wpS_pure ⟨rfl,rfl⟩)
 case post=>
  rintro d aG ⟨rfl,rfl⟩
  dsimp only
  refine wpS_bind (wpS_mono (wpS_forRange (I:=λx d aV=>aV=aG/\d=(none,1,1)) (Q:=λd aV=>aV=aG/\d=(none,1,1)) ?step2 (λ_ _ z=>z) ⟨rfl,?ini⟩) ?post2)
  case ini=>
   rw [Nat.min_eq_left (by omega)]
  case step2=>
   rintro x d aV _ hx ⟨rfl,rfl⟩
   dsimp only
   rw [if_pos (Nat.le_refl _)]
   exact wpS_pure ⟨rfl,rfl⟩
  case post2=>
   rintro d aV ⟨rfl,rfl⟩
   exact wpS_pure h
theorem AK (C:fg prog w A s κ it N c){ka n base:Nat}{Q:Option Nat->SortSt->Prop}{st:SortSt}(hk:kindOf st=κ) (B:ig N p) (hb:ka<N) (hn:2<=n) (hz:base+n<=p.size) (h1:c (p.getD (base+(n-1)) 0) ka=false) (h2:c (p.getD (base+(n-2)) 0) ka=true) (h:Q (some (n-1)) st) :
 wpS (model prog w) A E s (AI true (it ka) (p.map it) base n (n-1)) Q st:=by
 refine wpS_bind (wpS_bind (eD (show base+(n-1)<p.size by omega) ?_))
 rw [if_pos rfl]
 refine uZ C hk (B _ (by omega)) hb ?_
 rw [h1]
 show wpS _ _ _ _ (do
  let r ← _
  _) _ _
 refine wpS_bind (wpS_mono (wpS_forRange (I:=λx d aG=>aG=st/\x=0/\d=(none,0,1)) (Q:=λd aG=>aG=st/\d=(none,0,1)) ?step ?fin ⟨rfl,rfl,rfl⟩) ?post)
 case fin=>
  rintro d aG ⟨_,e,_⟩
  omega
 case step=>
  rintro x d aG _ hx ⟨rfl,rfl,rfl⟩
  dsimp only
  rw [if_neg (by omega)]
  refine wpS_bind (wpS_bind (eD (show base+(n-1-1)<p.size by omega) ?_))
  rw [if_pos rfl]
  refine uZ C hk (B _ (by omega)) hb ?_
  rw [show n-1-1=n-2 by omega,h2]
  exact wpS_pure ⟨rfl,rfl⟩
 case post=>
  rintro d aG ⟨rfl,rfl⟩
  dsimp only
  refine wpS_bind (wpS_mono (wpS_forRange (I:=λx d aV=>aV=aG/\d=(none,n-1,n-1)) (Q:=λd aV=>aV=aG/\d=(none,n-1,n-1)) ?step2 (λ_ _ z=>z) ⟨rfl,?ini⟩) ?post2)
  case ini=>
   rw [Nat.min_eq_left (by omega),show n-1+1-1=n-1 by omega,Nat.sub_zero]
  case step2=>
   rintro x d aV _ hx ⟨rfl,rfl⟩
   dsimp only
   rw [if_pos (Nat.le_refl _)]
   exact wpS_pure ⟨rfl,rfl⟩
  case post2=>
   rintro d aV ⟨rfl,rfl⟩
   exact wpS_pure h
end
end L2
namespace L2
open PySem PySem.Spec PyProof.Rows
def oI (X Y:Array Nat) (t:Nat):Nat:=if t % 2=0 then Y.getD (t / 2) 0 else X.getD (t / 2) 0
def cE (X Y:Array Nat) (t:Nat):Array Nat:=((List.range t).map (oI X Y)).toArray
theorem jG (X Y:Array Nat) (t:Nat):cE X Y (t+1)=(cE X Y t).push (oI X Y t):=by
 unfold cE
 rw [List.range_succ,List.map_append]
 simp
section
variable {prog:Program}{w:World}{A:Around}{E:Value->Shared->Prop}{s:Shared}{κ:SortKind}{it:Nat->Keyed}{N:Nat}{c:Nat->Nat->Bool}{X Y:Array Nat}{n:Nat}
theorem ym {Y:Array Nat}(hy:Y.size=n) (hn:1<=n):(Y.map it).extract (n-1) (Y.map it).size = #[it (Y.getD (n-1) 0)]:=by
 apply Array.ext
 . simp
   omega
 . intro i h1 h2
   simp at h2
   subst h2
   have eW:n-1<Y.size:=by omega
   simp [Array.getD,eW]
theorem EA (C:fg prog w A s κ it N c){Q:Array Keyed->SortSt->Prop}{st:SortSt}(hk:kindOf st=κ) (hg:gallopOf st=7) (BX:ig N X) (BY:ig N Y) (hx:X.size=n) (hy:Y.size=n) (hn:3<=n)
 (hA:∀i,i+1<n->c (Y.getD (i+1) 0) (X.getD i 0)=false) (hB:∀i,i<n->c (Y.getD i 0) (X.getD i 0)=true) (h:Q ((cE X Y (2*n)).map it) st) :
 wpS (model prog w) A E s (Gn (X.map it) (Y.map it)) Q st:=by
 refine wpS_bind (wpS_lift (wpAny_rule ⟨rfl,?_⟩))
 refine wpS_bind (eD (show 0<Y.size by omega) ?_)
 have sx:(X.map it).size=n:=by rw [Array.size_map,hx]
 have sy:(Y.map it).size=n:=by rw [Array.size_map,hy]
 dsimp only
 rw [if_neg (by rw [sy]; simp; omega),if_neg (by rw [sx]; simp; omega)]
 refine wpS_bind (wpS_get ?_)
 have my:(sortPriv% PySem.Builtin.SortState.minGallop) st=7:=hg
 rw [my]
 have e2n:(cE X Y (2*n)).map it=(cE X Y (2*n-2)).map it++(Y.map it).extract (n-1) (Y.map it).size++(X.map it).extract (n-1) (X.map it).size:=by
  rw [ym hy (by omega),ym hx (by omega)]
  have e1:2*n=2*n-2+1+1:=by omega
  have z1:oI X Y (2*n-2)=Y.getD (n-1) 0:=by
   unfold oI
   rw [if_pos (by omega),show (2*n-2) / 2=n-1 by omega]
  have z2:oI X Y (2*n-2+1)=X.getD (n-1) 0:=by
   unfold oI
   rw [if_neg (by omega),show (2*n-2+1) / 2=n-1 by omega]
  conv=>lhs; rw [e1,jG,jG,z1,z2]
  simp
 refine wpS_bind (wpS_mono (wpS_forRange (I:=λx d aG=>aG=st/\x=0/\d=(none,#[it (Y.getD 0 0)],0,1,7)) (Q:=λd aG=>aG=st/\d.1=some ((cE X Y (2*n)).map it)) ?step ?fin ⟨rfl,rfl,rfl⟩) ?post)
 case fin=>
  rintro d aG ⟨_,e,_⟩
  rw [sx,sy] at e
  omega
 case post=>
  rintro ⟨d1,d2⟩ aG ⟨rfl,e⟩
  cases (show d1=_ from e)
  exact wpS_pure h
 case step=>
  rintro x d aG _ hx0 ⟨rfl,rfl,rfl⟩
  dsimp only
  refine wpS_bind (wpS_mono (wpS_forRange (I:=λt d aV=>aV=aG/\t<=2*n-4/\∃ac bc,d=(none,(cE X Y (t+1)).map it,(t+1) / 2,t / 2+1,ac,bc)/\ac<=1/\bc<=1/\(t % 2=0->ac=0)/\(t % 2=1->bc=0))
   (Q:=λd aV=>aV=aG/\d.1=some ((cE X Y (2*n)).map it)) ?istep ?ifin ⟨rfl,by omega,0,0,?ini,by omega,by omega,λ_=>rfl,λ_=>rfl⟩) ?ipost)
  case ini=>
   have:cE X Y (0+1) = #[Y.getD 0 0]:=by
    rw [jG]
    rfl
   rw [this]
   simp
  case ifin=>
   rintro d aV ⟨_,e,_⟩
   rw [sx,sy] at e
   omega
  case ipost=>
   rintro ⟨d1,d2⟩ aV ⟨rfl,e⟩
   cases (show d1=_ from e)
   exact wpS_pure ⟨rfl,rfl⟩
  case istep=>
   rintro t d aV _ ht ⟨rfl,ht4,ac,bc,rfl,Au,lN,hae,hbo⟩
   dsimp only
   have iy:t / 2+1<Y.size:=by omega
   have ix:(t+1) / 2<X.size:=by omega
   refine wpS_bind (eD iy (wpS_bind (eD ix (wpS_bind (uZ C hk (BY _ iy) (BX _ ix) ?_)))))
   rcases Nat.mod_two_eq_zero_or_one t with e | e
   . -- x wins
     have ei:(t+1) / 2=t / 2:=by omega
     have hc:c (Y.getD (t / 2+1) 0) (X.getD ((t+1) / 2) 0)=false:=by rw [ei]; exact hA _ (by omega)
     rw [hc]
     dsimp only
     rw [if_neg (by decide)]
     refine wpS_bind (eD ix ?_)
     have z1:oI X Y (t+1)=X.getD ((t+1) / 2) 0:=by
      unfold oI
      rw [if_neg (by omega)]
     have eo:((cE X Y (t+1)).map it).push (it (X.getD ((t+1) / 2) 0))=(cE X Y (t+1+1)).map it:=by
      rw [jG X Y (t+1),z1]
      simp
     rw [eo]
     by_cases he:t=2*n-4
     . rw [if_pos (by rw [sx]; simp; omega)]
       refine wpS_pure ⟨rfl,?_⟩
       show some _=some _
       rw [e2n,show (t+1) / 2+1=n-1 by omega,show t / 2+1=n-1 by omega,show t+1+1=2*n-2 by omega]
     . rw [if_neg (by rw [sx]; simp; omega),if_neg (by omega)]
       refine wpS_pure ⟨rfl,by omega,ac+1,0,?_,by have:=hae e; omega,by omega,λz=>by omega,λ_=>rfl⟩
       rw [show (t+1+1) / 2=(t+1) / 2+1 by omega,show (t+1) / 2+1=t / 2+1 by omega]
   . -- y wins
     have ei:(t+1) / 2=t / 2+1:=by omega
     have hc:c (Y.getD (t / 2+1) 0) (X.getD ((t+1) / 2) 0)=true:=by rw [ei]; exact hB _ (by omega)
     rw [hc]
     dsimp only
     rw [if_pos rfl]
     refine wpS_bind (eD iy ?_)
     have z1:oI X Y (t+1)=Y.getD (t / 2+1) 0:=by
      unfold oI
      rw [if_pos (by omega),ei]
     have eo:((cE X Y (t+1)).map it).push (it (Y.getD (t / 2+1) 0))=(cE X Y (t+1+1)).map it:=by
      rw [jG X Y (t+1),z1]
      simp
     rw [eo,if_neg (by rw [sy]; simp; omega),if_neg (by omega)]
     refine wpS_pure ⟨rfl,by omega,0,bc+1,?_,by omega,by have:=hbo e; omega,λ_=>rfl,λz=>by omega⟩
     rw [show (t+1+1) / 2=(t+1) / 2 by omega,show (t+1) / 2+1=t / 2+1+1 by omega]
end
end L2
namespace L2
open PySem PySem.Spec PyProof.Rows
def Ii (p z:Array Nat):Array Nat:=z.toList.zipIdx.foldl (λa x=>a.setIfInBounds (1+x.2) x.1) p
theorem AL (it:Nat->Keyed):∀(l:List Nat) (i:Nat) (p:Array Nat),((l.map it).zipIdx i).foldl (λ(a:Array Keyed) x=>a.setIfInBounds (1+x.2) x.1) (p.map it)=((l.zipIdx i).foldl (λa x=>a.setIfInBounds (1+x.2) x.1) p).map it
 | [],_,_=>rfl
 | x::l,i,p=>by
  rw [List.map_cons,List.zipIdx_cons,List.zipIdx_cons,List.foldl_cons,List.foldl_cons,← AL it l (i+1)]
  congr 1
  simp
section
variable {prog:Program}{w:World}{A:Around}{E:Value->Shared->Prop}{s:Shared}{κ:SortKind}{it:Nat->Keyed}{N:Nat}{c:Nat->Nat->Bool}{p:Array Nat}{n:Nat}
theorem lq {i j k:Nat}(hj:j<=p.size) (hk:k<j-i):(p.extract i j).getD k 0=p.getD (i+k) 0:=by
 have h1:k<(p.extract i j).size:=by simp; omega
 have h2:i+k<p.size:=by omega
 simp only [Array.getD,h1,h2,dif_pos]
 simp
theorem um {i j:Nat}(hj:j<=p.size) (B:ig N p):ig N (p.extract i j):=λk hk=>by
 have qU:k<j-i:=by
  simp at hk
  omega
 rw [lq hj qU]
 exact B _ (by omega)
theorem Mp (C:fg prog w A s κ it N c){Q:Bool->SortSt->Prop}{pw:Nat}(B:ig N p) (hp:p.size=2*n) (hn:4<=n)
 (hA:∀i,i<n->c (p.getD (n+i) 0) (p.getD i 0)=false) (hB:∀i,i+1<n->c (p.getD (n+i) 0) (p.getD (i+1) 0)=true)
 (h:Q true (aX κ it (Ii p (cE (p.extract 1 n) (p.extract n (2*n-1)) (2*(n-1)))) #[(0,n+n,pw)])) :
 wpS (model prog w) A E s (mergeAt' 0) Q (aX κ it p #[(0,n,pw),(n,n,0)]):=by
 refine wpS_bind (wpS_get ?_)
 refine wpS_bind (wpS_modify ?_)
 have ep:((#[(0,n,pw),(n,n,0)]:Array (Nat×Nat×Nat)).setIfInBounds 0 (0,n+n,pw)).eraseIdxIfInBounds 1 = #[(0,n+n,pw)]:=by simp [Array.setIfInBounds,Array.eraseIdxIfInBounds]
 show wpS _ _ _ _ _ _ (SortSt.mk' κ (p.map it) (((#[(0,n,pw),(n,n,0)]:Array (Nat×Nat×Nat)).setIfInBounds 0 (0,n+n,pw)).eraseIdxIfInBounds 1) 7 none)
 rw [ep]
 refine wpS_bind (eD (show n<p.size by omega) ?_)
 refine wpS_bind (AJ C rfl B (B _ (by omega)) (by omega) (show 0+n<=p.size by omega) ?_ ?_ ?_)
 . exact hA 0 (by omega)
 . exact hB 0 (by omega)
 dsimp only
 rw [if_neg (by simp; omega)]
 refine wpS_bind (eD (show 0+1+(n-1)-1<p.size by omega) ?_)
 refine wpS_bind (AK C rfl B (B _ (by omega)) (by omega) (show n+n<=p.size by omega) ?_ ?_ ?_)
 . rw [show 0+1+(n-1)-1=n-1 by omega]
   exact hA (n-1) (by omega)
 . have:=hB (n-2) (by omega)
   rw [show 0+1+(n-1)-1=n-2+1 by omega]
   exact this
 dsimp only
 rw [if_neg (by simp; omega),if_pos (by omega)]
 have ex:∀i j,(p.map it).extract i j=(p.extract i j).map it:=λi j=>by
  apply Array.ext
  . simp
  . intro k h1 h2
    simp
 have sX:(p.extract 1 n).size=n-1:=by
  simp
  omega
 have sY:(p.extract n (2*n-1)).size=n-1:=by
  simp
  omega
 have gX:∀i,i<n-1->(p.extract 1 n).getD i 0=p.getD (i+1) 0:=λi hi=>by rw [lq (by omega) (by omega),Nat.add_comm]
 have gY:∀i,i<n-1->(p.extract n (2*n-1)).getD i 0=p.getD (n+i) 0:=λi hi=>lq (by omega) (by omega)
 have key:=EA C (E:=E) (st:=SortSt.mk' κ (p.map it) #[(0,n+n,pw)] 7 none) (X:=p.extract 1 n) (Y:=p.extract n (2*n-1)) (n:=n-1)
  (Q:=λa aG=>a=(cE (p.extract 1 n) (p.extract n (2*n-1)) (2*(n-1))).map it/\aG=SortSt.mk' κ (p.map it) #[(0,n+n,pw)] 7 none) rfl rfl (um (by omega) B) (um (by omega) B) sX sY (by omega)
  (λi hi=>by rw [gX i (by omega),gY (i+1) (by omega)]; exact hA (i+1) (by omega)) (λi hi=>by rw [gX i hi,gY i hi]; exact hB i (by omega)) ⟨rfl,rfl⟩
 rw [← ex,← ex] at key
 have e1:n+(n-1)=2*n-1:=by omega
 rw [show (0+1:Nat)=1 from rfl,e1]
 refine wpS_bind (wpS_mono key λa aG hq=>?_)
 obtain ⟨rfl,rfl⟩:=hq
 refine wpS_bind (wpS_modify (wpS_bind (wpS_get (wpS_pure ?_))))
 have e2:=AL it (cE (p.extract 1 n) (p.extract n (2*n-1)) (2*(n-1))).toList 0 p
 have e3:SortSt.mk' κ ((((cE (p.extract 1 n) (p.extract n (2*n-1)) (2*(n-1))).map it).toList.zipIdx).foldl (λ(a:Array Keyed) x=>a.setIfInBounds (1+x.2) x.1) (p.map it)) #[(0,n+n,pw)] 7 none=aX κ it (Ii p (cE (p.extract 1 n) (p.extract n (2*n-1)) (2*(n-1)))) #[(0,n+n,pw)]:=by
  unfold aX Ii
  rw [Array.toList_map,e2]
 show Q true (SortSt.mk' κ ((((cE (p.extract 1 n) (p.extract n (2*n-1)) (2*(n-1))).map it).toList.zipIdx).foldl (λ(a:Array Keyed) x=>a.setIfInBounds (1+x.2) x.1) (p.map it)) #[(0,n+n,pw)] 7 none)
 rw [e3]
 exact h
end
end L2
namespace L2
open PySem PySem.Spec PyProof.Rows
section
variable {prog:Program}{w:World}{A:Around}{E:Value->Shared->Prop}{s:Shared}{κ:SortKind}{it:Nat->Keyed}{N:Nat}{c:Nat->Nat->Bool}{p:Array Nat}{n:Nat}
theorem pM (h0:1<=n) (h:n<64):minRun' n n 0=n:=by
 obtain ⟨f,hf⟩:∃f,n=f+1:=⟨n-1,by omega⟩
 have:minRun' (f+1) n 0=n:=by rw [minRun'_succ,if_pos h]; rfl
 rwa [← hf] at this
theorem jH (c:Nat->Nat->Bool) (lo:Nat):∀(f k:Nat) (p:Array Nat),(bQ c lo f k p).Perm p
 | 0,_,_=>Array.Perm.refl _
 | f+1,k,p=>(jH c lo f (k+1) _).trans (bubble_perm _ _ _)
theorem EB (C:fg prog w A s κ it N c){Q:Unit->SortSt->Prop}(B:ig N p) (hp:p.size=n) (hn:3<=n) (AM:n<64) (h1:c (p.getD 1 0) (p.getD 0 0)=false) (h2:c (p.getD 2 0) (p.getD 1 0)=true) (h3:c (p.getD 0 0) (p.getD 1 0)=true)
 (h:Q () (aX κ it (bQ c 0 (n-2) 2 p) #[(0,n,0)])):wpS (model prog w) A E s sortRuns' Q (aX κ it p #[]):=by
 rw [sortRuns'_eq]
 refine wpS_bind (wpS_get ?_)
 have hs:(arrOf (aX κ it p #[])).size=n:=by show (p.map it).size=n; rw [Array.size_map,hp]
 simp only [hs,pM (by omega) AM]
 refine wpS_bind (wpS_mono (wpS_forRange (I:=λx d aG=>(x=0/\d=(none,0)/\aG=aX κ it p #[])\/(1<=x/\d=(none,n)/\aG=aX κ it (bQ c 0 (n-2) 2 p) #[(0,n,0)]))
  (Q:=λd aG=>d=(none,n)/\aG=aX κ it (bQ c 0 (n-2) 2 p) #[(0,n,0)]) ?step ?fin (.inl ⟨rfl,rfl,rfl⟩)) ?post)
 case fin=>
  rintro d aG (⟨hx,_,_⟩ | ⟨_,hc,hD⟩)
  . omega
  . exact ⟨hc,hD⟩
 case step=>
  rintro x d aG _ hx (⟨rfl,rfl,rfl⟩ | ⟨lM,rfl,rfl⟩)
  . dsimp only
    rw [if_neg (by omega)]
    simp only [Nat.sub_zero,Nat.min_self,Nat.zero_add]
    refine wpS_bind (nZ C B (by omega) hn h1 h2 h3 ?_)
    dsimp only
    rw [if_pos (by omega)]
    refine wpS_bind (wpS_lift (wpAny_rule ⟨rfl,?_⟩))
    refine wpS_bind (wJ C B (by omega) (by omega) (by omega) ?_)
    simp only [Bool.not_true,Bool.false_eq_true,if_false]
    refine wpS_bind (wpS_get ?_)
    exact wpS_bind (wpS_modify (wpS_pure (.inr ⟨by omega,rfl,rfl⟩)))
  . dsimp only
    rw [if_pos (Nat.le_refl _)]
    exact wpS_pure ⟨rfl,rfl⟩
 case post=>
  rintro d aG ⟨rfl,rfl⟩
  dsimp only
  refine wpS_bind (wpS_mono (wpS_forRange (I:=λ_ d aV=>aV=aX κ it (bQ c 0 (n-2) 2 p) #[(0,n,0)]/\d=(none,())) (Q:=λd aV=>aV=aX κ it (bQ c 0 (n-2) 2 p) #[(0,n,0)]/\d=(none,())) ?_ (λ_ _ hh=>hh) ⟨rfl,rfl⟩) ?_)
  . rintro x d aV _ _ ⟨rfl,rfl⟩
    refine wpS_bind (wpS_get ?_)
    rw [if_pos (show (pendingOf (aX κ it (bQ c 0 (n-2) 2 p) #[(0,n,0)])).size<=1 from Nat.le_refl 1)]
    exact wpS_pure ⟨rfl,rfl⟩
  . rintro d aV ⟨rfl,rfl⟩
    exact wpS_pure h
theorem JS (C:fg prog w A s κ it N c){Q:Unit->SortSt->Prop}(B:ig N p) (hp:p.size=2) (h1:c (p.getD 1 0) (p.getD 0 0)=false)
 (h:Q () (aX κ it p #[(0,2,0)])):wpS (model prog w) A E s sortRuns' Q (aX κ it p #[]):=by
 rw [sortRuns'_eq]
 refine wpS_bind (wpS_get ?_)
 have hs:(arrOf (aX κ it p #[])).size=2:=by show (p.map it).size=2; rw [Array.size_map,hp]
 simp only [hs,pM (show 1<=2 by decide) (by decide)]
 refine wpS_bind (wpS_mono (wpS_forRange (I:=λx d aG=>(x=0/\d=(none,0)/\aG=aX κ it p #[])\/(1<=x/\d=(none,2)/\aG=aX κ it p #[(0,2,0)]))
  (Q:=λd aG=>d=(none,2)/\aG=aX κ it p #[(0,2,0)]) ?step ?fin (.inl ⟨rfl,rfl,rfl⟩)) ?post)
 case fin=>
  rintro d aG (⟨hx,_,_⟩ | ⟨_,hc,hD⟩)
  . omega
  . exact ⟨hc,hD⟩
 case step=>
  rintro x d aG _ hx (⟨rfl,rfl,rfl⟩ | ⟨lM,rfl,rfl⟩)
  . dsimp only
    rw [if_neg (by omega)]
    rw [countRun'_eq]
    refine wpS_bind (wpS_bind (wpS_mono (wpS_forRange (I:=λx d aG=>aG=aX κ it p #[]/\((x=1/\d=(none,1))\/(x=2/\d=(none,2)))) (Q:=λd aG=>aG=aX κ it p #[]/\d=(none,2)) ?cs ?cf ⟨rfl,.inl ⟨rfl,rfl⟩⟩) ?cp))
    case cf=>
     rintro d aG ⟨rfl,⟨e,rfl⟩ | ⟨e,rfl⟩⟩
     . omega
     . exact ⟨rfl,rfl⟩
    case cs=>
     rintro x d aG hx Mo ⟨rfl,⟨rfl,rfl⟩ | ⟨rfl,rfl⟩⟩
     . refine wpS_bind (yl C B (by omega) (by omega) ?_)
       rw [show 0+1-1=0 by omega,show 0+1=1 by omega,h1]
       exact wpS_pure ⟨rfl,.inr ⟨rfl,rfl⟩⟩
     . omega
    case cp=>
     rintro d aG ⟨rfl,rfl⟩
     refine wpS_pure ?_
     dsimp only
     rw [if_neg (by decide)]
     refine wpS_bind (wpS_get ?_)
     exact wpS_bind (wpS_modify (wpS_pure (.inr ⟨by omega,rfl,rfl⟩)))
  . dsimp only
    rw [if_pos (Nat.le_refl _)]
    exact wpS_pure ⟨rfl,rfl⟩
 case post=>
  rintro d aG ⟨rfl,rfl⟩
  dsimp only
  refine wpS_bind (wpS_mono (wpS_forRange (I:=λ_ d aV=>aV=aX κ it p #[(0,2,0)]/\d=(none,())) (Q:=λd aV=>aV=aX κ it p #[(0,2,0)]/\d=(none,())) ?_ (λ_ _ hh=>hh) ⟨rfl,rfl⟩) ?_)
  . rintro x d aV _ _ ⟨rfl,rfl⟩
    refine wpS_bind (wpS_get ?_)
    rw [if_pos (show (pendingOf (aX κ it p #[(0,2,0)])).size<=1 from Nat.le_refl 1)]
    exact wpS_pure ⟨rfl,rfl⟩
  . rintro d aV ⟨rfl,rfl⟩
    exact wpS_pure h
def two32 (c:Nat->Nat->Bool) (p:Array Nat):Array Nat:=bQ c 32 30 2 (bQ c 0 30 2 p)
def uo (c:Nat->Nat->Bool) (p:Array Nat):Array Nat:=Ii (two32 c p) (cE ((two32 c p).extract 1 32) ((two32 c p).extract 32 63) 62)
theorem Mq (C:fg prog w A s κ it N c){Q:Unit->SortSt->Prop}(B:ig N p) (hp:p.size=64) (h1:c (p.getD 1 0) (p.getD 0 0)=false) (h2:c (p.getD 2 0) (p.getD 1 0)=true) (h3:c (p.getD 0 0) (p.getD 1 0)=true)
 (k1:c ((bQ c 0 30 2 p).getD 33 0) ((bQ c 0 30 2 p).getD 32 0)=false) (k2:c ((bQ c 0 30 2 p).getD 34 0) ((bQ c 0 30 2 p).getD 33 0)=true) (k3:c ((bQ c 0 30 2 p).getD 32 0) ((bQ c 0 30 2 p).getD 33 0)=true)
 (hA:∀i,i<32->c ((two32 c p).getD (32+i) 0) ((two32 c p).getD i 0)=false) (hB:∀i,i+1<32->c ((two32 c p).getD (32+i) 0) ((two32 c p).getD (i+1) 0)=true)
 (h:∀pd,Q () (aX κ it (uo c p) pd)):wpS (model prog w) A E s sortRuns' Q (aX κ it p #[]):=by
 rw [sortRuns'_eq]
 refine wpS_bind (wpS_get ?_)
 have hs:(arrOf (aX κ it p #[])).size=64:=by show (p.map it).size=64; rw [Array.size_map,hp]
 have hm:minRun' 64 64 0=32:=by decide +kernel
 simp only [hs,hm]
 have B1:ig N (bQ c 0 30 2 p):=B.perm (jH ..)
 have s1:(bQ c 0 30 2 p).size=64:=(jH c 0 30 2 p).size_eq.trans hp
 have B2:ig N (two32 c p):=B1.perm (jH ..)
 have s2:(two32 c p).size=64:=(jH c 32 30 2 _).size_eq.trans s1
 generalize EC:power' 64 (2*0+32) (2*0+32+32+32) 64=pw
 refine wpS_bind (wpS_mono (wpS_forRange (I:=λx d aG=>(x=0/\d=(none,0)/\aG=aX κ it p #[])\/(x=1/\d=(none,32)/\aG=aX κ it (bQ c 0 30 2 p) #[(0,32,0)])\/(2<=x/\d=(none,64)/\aG=aX κ it (two32 c p) #[(0,32,pw),(32,32,0)]))
  (Q:=λd aG=>d=(none,64)/\aG=aX κ it (two32 c p) #[(0,32,pw),(32,32,0)]) ?step ?fin (.inl ⟨rfl,rfl,rfl⟩)) ?post)
 case fin=>
  rintro d aG (⟨hx,_,_⟩ | ⟨hx,_,_⟩ | ⟨_,hc,hD⟩)
  . omega
  . omega
  . exact ⟨hc,hD⟩
 case step=>
  rintro x d aG _ hx (⟨rfl,rfl,rfl⟩ | ⟨rfl,rfl,rfl⟩ | ⟨lM,rfl,rfl⟩)
  . dsimp only
    rw [if_neg (by omega)]
    refine wpS_bind (nZ C B (by omega) (by omega) h1 h2 h3 ?_)
    dsimp only
    rw [if_pos (by omega)]
    refine wpS_bind (wpS_lift (wpAny_rule ⟨rfl,?_⟩))
    refine wpS_bind (wJ C B (show 0+32<=p.size by omega) (by omega) (show 2<=32 by omega) ?_)
    simp only [Bool.not_true,Bool.false_eq_true,if_false]
    refine wpS_bind (wpS_get ?_)
    exact wpS_bind (wpS_modify (wpS_pure (.inr (.inl ⟨trivial,rfl,rfl⟩))))
  . dsimp only
    rw [if_neg (by omega)]
    refine wpS_bind (nZ C B1 (by omega) (by omega) k1 k2 k3 ?_)
    dsimp only
    rw [if_pos (by omega)]
    refine wpS_bind (wpS_lift (wpAny_rule ⟨rfl,?_⟩))
    refine wpS_bind (wJ C B1 (show 32+32<=(bQ c 0 30 2 p).size by omega) (by omega) (show 2<=32 by omega) ?_)
    simp only [Bool.not_true,Bool.false_eq_true,if_false]
    refine wpS_bind (wpS_get ?_)
    refine wpS_bind (wpS_mono (wpS_forRange (I:=λ_ d aV=>aV=aX κ it (two32 c p) #[(0,32,0)]/\d=(none,())) (Q:=λd aV=>aV=aX κ it (two32 c p) #[(0,32,0)]/\d=(none,())) ?ws (λ_ _ hh=>hh) ⟨rfl,rfl⟩) ?wp)
    case ws=>
     rintro x d aV _ _ ⟨rfl,rfl⟩
     refine wpS_bind (wpS_get ?_)
     exact wpS_pure ⟨rfl,rfl⟩
    case wp=>
     rintro d aV ⟨rfl,rfl⟩
     refine wpS_bind (wpS_modify (wpS_bind (wpS_modify (wpS_pure (.inr (.inr ⟨by omega,rfl,?_⟩))))))
     rw [← EC]
     rfl
  . dsimp only
    rw [if_pos (Nat.le_refl _)]
    exact wpS_pure ⟨rfl,rfl⟩
 case post=>
  rintro d aG ⟨rfl,rfl⟩
  dsimp only
  refine wpS_bind (wpS_mono (wpS_forRange (I:=λx d aV=>d=(none,())/\((x=0/\aV=aX κ it (two32 c p) #[(0,32,pw),(32,32,0)])\/(1<=x/\aV=aX κ it (uo c p) #[(0,64,pw)]))) (Q:=λd aV=>aV=aX κ it (uo c p) #[(0,64,pw)]/\d=(none,())) ?ls ?lf ⟨rfl,.inl ⟨rfl,rfl⟩⟩) ?lp)
  case lf=>
   rintro d aV ⟨rfl,⟨hx,_⟩ | ⟨_,rfl⟩⟩
   . omega
   . exact ⟨rfl,rfl⟩
  case lp=>
   rintro d aV ⟨rfl,rfl⟩
   exact wpS_pure (h _)
  case ls=>
   rintro x d aV _ _ ⟨rfl,⟨rfl,rfl⟩ | ⟨lM,rfl⟩⟩
   . refine wpS_bind (wpS_get ?_)
     rw [if_neg (show ¬ (pendingOf (aX κ it (two32 c p) #[(0,32,pw),(32,32,0)])).size<=1 from by show ¬ (2<=1); decide)]
     refine wpS_bind (Mp (n:=32) C B2 s2 (by decide) hA hB ?_)
     simp only [Bool.not_true,Bool.false_eq_true,if_false]
     exact wpS_pure ⟨rfl,.inr ⟨by omega,rfl⟩⟩
   . refine wpS_bind (wpS_get ?_)
     rw [if_pos (show (pendingOf (aX κ it (uo c p) #[(0,64,pw)])).size<=1 from Nat.le_refl 1)]
     exact wpS_pure ⟨rfl,rfl⟩
end
end L2
namespace L2
open PySem PySem.Spec PyProof.Rows PySem.W
def lZ (h:Heap) (v:Value) (ns:List Int):Prop:=∃a o xs n,v=.ref a/\h.get? a=some o/\o.cls=.type "tuple" /\ o.data=.seq xs n/\IntsAre xs.toList ns
theorem lZ.keep {h h':Heap}{v:Value}{ns:List Int}(x:lZ h v ns) (k:∀a o xs n,h.get? a=some o->o.cls=.type "tuple" -> o.data=.seq xs n->h'.get? a=some o):lZ h' v ns:=by
 obtain ⟨a,o,xs,n,e,h1,h2,h3,h4⟩:=x
 exact ⟨a,o,xs,n,e,k a o xs n h1 h2 h3,h2,h3,h4⟩
section
variable {prog:Program}{w:World}{A:Around}{E:Value->Shared->Prop}{s:Shared}{Q:Bool->Shared->Prop}
theorem JT {a b:Int}{t u:Tok}(f:Bool) (h:Q (decide (a<b)) s):wpAny (model prog w) A (oneLt' f (.int a t) (.int b u)) Q E s:=by
 cases f with
 | true=>exact oneLt_int h
 | false=>exact kat_one _ _ (PyProof.Rows.lt_int h)
theorem rz:∀{xs ys:List Value}{as bs:List Int}(i:Nat),IntsAre xs as->IntsAre ys bs->as.length=bs.length->Q (HT.lexLt as bs) s->KatLex prog w A true false Q (xs.zip ys) i s
 | _,_,_,_,_,.nil,.nil,_,h=>h
 | _,_,_,_,_,.nil,.cons _ _ _,h,_=>nomatch h
 | _,_,_,_,_,.cons _ _ _,.nil,h,_=>nomatch h
 | _,_,_,_,i,.cons a t r,.cons b u r',hl,h=>by
  rw [HT.j7] at h
  refine kat_cons (wpAny_eqBool_int ?_)
  by_cases e:a=b
  . rw [if_pos e] at h
    have:(a == b)=true:=by simpa using e
    rw [this]
    exact kat_yes (rz (i+1) r r' (Nat.succ.inj hl) h)
  . rw [if_neg e] at h
    have:(a == b)=false:=by simpa using e
    rw [this]
    exact kat_no (JT _ h)
theorem JU {v u:Value}{as bs:List Int}(hv:lZ s.heap v as) (hu:lZ s.heap u bs) (hl:as.length=bs.length) (h:Q (HT.lexLt as bs) s):wpAny (model prog w) A (keyLt' (tuples' true) v u) Q E s:=by
 obtain ⟨a,o,xs,n,rfl,h1,_,h3,h4⟩:=hv
 obtain ⟨b,o2,ys,m,rfl,k1,_,k3,k4⟩:=hu
 refine kat_lt h1 h3 k1 k3 ?_
 have e1:=h4.length
 have e2:=k4.length
 rw [Array.length_toList] at e1 e2
 have:decide (xs.size<ys.size)=false:=decide_eq_false (by omega)
 rw [this]
 exact rz 0 h4 k4 hl h
end
theorem wk {h:Heap} : ∀{vs:List Value}{bs:List (List Int)},Paired (lZ h) vs bs->(∀b∈bs,b≠[])->∃fs,KatTups h vs fs/\fs.length=vs.length/\∀v∈fs,∃i t,v=Value.int i t
 | _,_,.nil,_=>⟨[],.nil,rfl,λ_ h=>nomatch h⟩
 | v::vs,b::bs,.cons hv t,hb=>by
  obtain ⟨fs,h1,h2,h3⟩:=wk t λx hx=>hb x (List.mem_cons_of_mem _ hx)
  obtain ⟨a,o,xs,n,rfl,k1,k2,k3,k4⟩:=hv
  have hn:=hb b List.mem_cons_self
  generalize hx:xs.toList=l at k4
  cases k4 with
  | nil=>exact absurd rfl hn
  | cons i t r=>
   refine ⟨.int i t::fs,KatTups.cons k1 k2 k3 ?_ h1,by rw [List.length_cons,List.length_cons,h2],λz hz=>?_⟩
   . rw [← Array.getElem?_toList,hx]
     rfl
   . rcases List.mem_cons.mp hz with rfl | hz
     . exact ⟨i,t,rfl⟩
     . exact h3 z hz
def Mr (vs:List Value) (i:Nat):Keyed:=(vs.getD i .none,vs.getD i .none)
theorem JV (vs:List Value):vs.toArray.zip vs.toArray=((List.range vs.length).toArray).map (Mr vs):=by
 apply Array.ext
 . simp
 . intro i h1 h2
   simp at h1
   simp [Mr,h1]
theorem kf {α β:Type}{F:α->β->Prop}{d:α}{e:β} : ∀{l₁:List α}{l₂:List β},Paired F l₁ l₂->∀i,i<l₁.length->F (l₁.getD i d) (l₂.getD i e)
 | _,_,.nil,i,h=>absurd h (Nat.not_lt_zero _)
 | _,_,.cons h t,0,_=>by simpa using h
 | _,_,.cons h t,i+1,hi=>by simpa using kf t i (by simpa using hi)
section
variable {prog:Program}{w:World}{A:Around}{E:Value->Shared->Prop}{s:Shared}
def lO (prog:Program) (w:World) (bs:List (List Int)) (q:Array Nat):Prop:=q.size=bs.length/\∀(A:Around) (E:Value->Shared->Prop) (s:Shared) (it:Nat->Keyed),fg prog w A s (tuples' true) it bs.length (λi j=>HT.lexLt (bs.getD i []) (bs.getD j []))->
 wpS (model prog w) A E s sortRuns' (λ_ aG=>arrOf aG=q.map it/\failedOf aG=none) (aX (tuples' true) it (List.range bs.length).toArray #[])
theorem ED {a:Addr}{vs:List Value}{bs:List (List Int)}{n k:Nat}{q:Array Nat}{P:Fin->Shared->Prop}(ho:s.heap.get? a=some (seqObj "list" vs.toArray n)) (hT:Paired (lZ s.heap) vs bs) (hk:∀b∈bs,b.length=k) (SD:1<=k) (h2:2<=vs.length) (AM:vs.length<=1000)
 (hq:lO prog w bs q) (h:P (.done (.ret .none)) { s with heap:=sortedHeap s.heap a vs (q.map λi=>vs.getD i .none) }) :
 wpAny (model prog w) A (Builtin.«list.sort» ⟨[.ref a],[]⟩) P E s:=by
 rw [list_sort_plain]
 have ha:a<s.heap.objs.size:=Heap.lt_size ho
 have lb:=hT.length
 refine wpAny_bind (listItems_at ho rfl ?_)
 refine wpAny_bind (listUpdate_at ho rfl ?_ (by rw [List.size_toArray,sizeLine_eq]; omega) (Nat.zero_le _))
 obtain ⟨e1,jZ⟩:∃e1,(s.heap.update a (Obj.mapSeq λ_=>#[])).get? a=some (seqObj "list" #[] e1):=⟨_,get?_update_seq ho (λ_=>#[])⟩
 refine wpAny_bind (seqEpoch_at jZ rfl ?_)
 refine wpAny_bind (wpAny_newTuple ?_ (by show vs.length<=_; rw [sizeLine_eq]; omega))
 refine wpAny_bind (wpAny_newList ?_ (Nat.zero_le _))
 refine wpAny_holding ?_
 have AN:(((s.heap.update a (Obj.mapSeq λ_=>#[])).push (seqObj "tuple" vs.toArray 0)).push (seqObj "list" #[] 0)).get? a=some (seqObj "list" #[] e1):=by
  rw [Heap.get?_push_ne _ _ _ (by rw [size_push',Heap.size_update]; exact Nat.ne_of_lt (Nat.lt_succ_of_lt ha)),Heap.get?_push_ne _ _ _ (by rw [Heap.size_update]; exact Nat.ne_of_lt ha)]
  exact jZ
 show wpAny (model prog w) A _ P E { s with heap:=((s.heap.update a (Obj.mapSeq λ_=>#[])).push (seqObj "tuple" vs.toArray 0)).push (seqObj "list" #[] 0) }
 dsimp only
 have hV:¬ vs.toArray.size<2:=by rw [List.size_toArray]; omega
 rw [if_neg hV,if_neg hV]
 have Ij:Paired (lZ (((s.heap.update a (Obj.mapSeq λ_=>#[])).push (seqObj "tuple" vs.toArray 0)).push (seqObj "list" #[] 0))) vs bs:=Paired.cb hT λv b x=>x.keep λb o xs n h1 h2 h3=>by
  have nb:b≠a:=λe=>by
   rw [e,ho] at h1
   cases (Option.some.inj h1)
   exact absurd (Value.type.inj (show Value.type "list" = Value.type "tuple" from h2)) (by decide)
  refine Heap.get?_push_of_some _ (Heap.get?_push_of_some _ ?_)
  rw [(Heap.SameBut.update s.heap a (Obj.mapSeq λ_=>(#[]:Array Value))).2 b nb]
  exact h1
 generalize hh6:((s.heap.update a (Obj.mapSeq λ_=>#[])).push (seqObj "tuple" vs.toArray 0)).push (seqObj "list" #[] 0)=h6 at AN Ij
 obtain ⟨fs,f1,f2,f3⟩:=wk Ij (λb hb e=>by have:=hk b hb; rw [e] at this; simp at this; omega)
 refine wpAny_bind (kat_kind (M:=model prog w) (T:=.type "int") f1 (by omega) (λv hv=>?_) rfl ?_)
 . obtain ⟨i,t,rfl⟩:=f3 v hv
   exact Looks.of_pure rfl
 have hb:∀i,i<bs.length->(bs.getD i []).length=k:=λi hi=>hk _ (by simp [hi])
 have C:fg prog w A { s with heap:=h6 } (tuples' true) (Mr vs) bs.length (λi j=>HT.lexLt (bs.getD i []) (bs.getD j [])):=λi j hi hj E Q hQ=>
  JU (kf Ij i (by omega)) (kf Ij j (by omega)) (by rw [hb i hi,hb j hj]) hQ
 have run:=hq.2 A E _ _ C
 rw [JV,lb]
 refine wpAny_bind (wpAny_mono run ?_ λ_ _ e=>e)
 rintro ⟨⟨⟩,aG⟩ s' ⟨rfl,har,hf⟩
 dsimp only
 have hsz:((arrOf aG).map (·.2))=q.map λi=>vs.getD i .none:=by
  rw [har,Array.map_map]
  rfl
 refine wpAny_bind (seqEpoch_at AN rfl ?_)
 refine wpAny_bind (listUpdate_at AN rfl ?_ (hsz2:=by rw [hsz,Array.size_map,hq.1,sizeLine_eq]; omega))
 have hf':(sortPriv% PySem.Builtin.SortState.failed) aG=none:=hf
 rw [hf]
 simp only [bne_self_eq_false,Bool.false_eq_true,if_false]
 refine wpAny_pure ?_
 rw [hsz,← hh6]
 exact h
theorem rE {l:Addr}{vs:List Value}{bs:List (List Int)}{k:Nat}{q:Array Nat}{Q:Value->Shared->Prop}(hl:s.heap.IsList l vs.toArray) (hT:Paired (lZ s.heap) vs bs) (hk:∀b∈bs,b.length=k) (SD:1<=k) (h2:2<=vs.length) (AM:vs.length<=1000)
 (hq:lO prog w bs q) (h:Q (.ref (s.heap.objs.size+1)) { s with heap:=sortedAll s.heap vs (q.map λi=>vs.getD i .none) }) :
 wpAny (model prog w) A (call (.builtin "sorted") [.ref l]) Q E s:=by
 refine Calls.call_function_entry kind_sorted plain_sorted entry_sorted (args_sorted1 _) ?_
 unfold Builtin.«sorted»
 refine wpAny_bind (m:=checkCount "sorted" 1 1 _) (wpAny_pure ?_)
 refine wpAny_bind (collect_list hl ?_ (by rw [sizeLine_eq]; omega))
 refine wpAny_bind (wpAny_newList ?_ (by rw [sizeLine_eq]; omega))
 have hsz:((s.heap.push (seqObj "list" #[] 0)).update s.heap.objs.size (Obj.mapSeq (· ++ vs.toArray))).objs.size=s.heap.objs.size+1:=by
  rw [Heap.size_update,size_push']
 have wZ:(((s.heap.push (seqObj "list" #[] 0)).update s.heap.objs.size (Obj.mapSeq (· ++ vs.toArray))).push (seqObj "list" vs.toArray 0)).get? (s.heap.objs.size+1)=some (seqObj "list" vs.toArray 0):=by
  rw [← hsz]; exact Heap.get?_push_size _ rfl
 have keep:∀b o,s.heap.get? b=some o->(((s.heap.push (seqObj "list" #[] 0)).update s.heap.objs.size (Obj.mapSeq (· ++ vs.toArray))).push (seqObj "list" vs.toArray 0)).get? b=some o:=λb o hb=>by
  refine Heap.get?_push_of_some _ ?_
  rw [(Heap.SameBut.update _ _ _).2 b (Nat.ne_of_lt (Heap.lt_size hb))]
  exact Heap.get?_push_of_some _ hb
 show wpAny _ _ _ _ _ { s with heap:=((s.heap.push (seqObj "list" #[] 0)).update s.heap.objs.size (Obj.mapSeq (· ++ vs.toArray))).push (seqObj "list" vs.toArray 0) }
 rw [hsz]
 refine wpAny_bind (wpAny_holding (wpAny_call_entry slot_list_sort ⟨_,wZ,rfl⟩ entry_list_sort (ED wZ (Paired.cb hT λv b x=>x.keep λb o _ _ h1 _ _=>keep b o h1) hk SD h2 AM hq ⟨_,rfl,?_⟩) (args_list_sort _)))
 exact wpAny_pure ⟨_,rfl,h⟩
end
end L2
namespace L2
open PySem PySem.Spec PyProof.Rows PySem.W
def bo:Nat->List (List Int)
 | 0=>[[]]
 | k+1=>(bo k).map (· ++ [0])++(bo k).map (· ++ [1])
def bf:Nat->List (List Int)
 | 0=>[[]]
 | k+1=>(bf k).flatMap λr=>[r++[0],r++[1]]
def i5 (k:Nat):Bool:=(bo k).zipIdx.all λx=>(bo k).zipIdx.all λy=>HT.lexLt x.1 y.1 == cB k x.2 y.2
theorem EE:i5 1=true/\i5 2=true/\i5 3=true/\i5 4=true/\i5 5=true/\i5 6=true:=by decide +kernel
def p0 (k:Nat):Array Nat:=(List.range (2 ^ k)).toArray
def m9:Nat->Array Nat
 | 0=>p0 0
 | 1=>p0 1
 | 6=>uo (cB 6) (p0 6)
 | k=>bQ (cB k) 0 (2 ^ k-2) 2 (p0 k)
theorem AO:∀k∈[0,1,2,3,4,5,6],((m9 k).toList.map λi=>(bo k).getD i [])=bf k:=by decide +kernel
theorem dj (k:Nat):(bo k).length=2 ^ k:=by
 induction k with
 | zero=>rfl
 | succ k ih=>
  rw [bo,List.length_append,List.length_map,List.length_map,ih,Nat.pow_succ]
  omega
theorem lP (k:Nat):∀b∈bo k,b.length=k:=by
 induction k with
 | zero=>simp [bo]
 | succ k ih=>
  intro b hb
  rw [bo] at hb
  rcases List.mem_append.mp hb with h | h <;> (obtain ⟨r,hr,rfl⟩:=List.mem_map.mp h; rw [List.length_append,ih r hr]; rfl)
theorem sC {k i j:Nat}(h:i5 k=true) (hi:i<2 ^ k) (hj:j<2 ^ k):HT.lexLt ((bo k).getD i []) ((bo k).getD j [])=cB k i j:=by
 unfold i5 at h
 have mem:∀i,i<2 ^ k->((bo k).getD i [],i)∈(bo k).zipIdx:=λi hi=>by
  have hl:i<(bo k).length:=by rw [dj]; exact hi
  rw [List.mem_zipIdx_iff_getElem?]
  simp [hl]
 have h1:=List.all_eq_true.mp h _ (mem i hi)
 have h2:=List.all_eq_true.mp h1 _ (mem j hj)
 simpa using h2
theorem Gp (k:Nat):ig (2 ^ k) (p0 k):=λi hi=>by
 unfold p0 at hi ⊢
 simp at hi
 simp [Array.getD,hi]
theorem fg.congr {prog:Program}{w:World}{A:Around}{s:Shared}{κ:SortKind}{it:Nat->Keyed}{N:Nat}{c c':Nat->Nat->Bool}(C:fg prog w A s κ it N c) (h:∀i j,i<N->j<N->c i j=c' i j):fg prog w A s κ it N c':=λi j hi hj E Q hQ=>C i j hi hj E Q (by rw [h i j hi hj]; exact hQ)
def iM (k:Nat):Bool:=!cB k 1 0 && (cB k 2 1 && cB k 0 1)
theorem EF:iM 2=true/\iM 3=true/\iM 4=true/\iM 5=true:=by decide +kernel
def Ik:Bool:=iM 6 && (!cB 6 ((bQ (cB 6) 0 30 2 (p0 6)).getD 33 0) ((bQ (cB 6) 0 30 2 (p0 6)).getD 32 0) && (cB 6 ((bQ (cB 6) 0 30 2 (p0 6)).getD 34 0) ((bQ (cB 6) 0 30 2 (p0 6)).getD 33 0) && (cB 6 ((bQ (cB 6) 0 30 2 (p0 6)).getD 32 0) ((bQ (cB 6) 0 30 2 (p0 6)).getD 33 0) &&
 ((List.range 32).all (λi=>!cB 6 ((two32 (cB 6) (p0 6)).getD (32+i) 0) ((two32 (cB 6) (p0 6)).getD i 0)) && (List.range 31).all (λi=>cB 6 ((two32 (cB 6) (p0 6)).getD (32+i) 0) ((two32 (cB 6) (p0 6)).getD (i+1) 0))))))
theorem JW:Ik=true:=by decide +kernel
theorem yn:∀k∈[0,1,2,3,4,5,6],(m9 k).size=2 ^ k:=by decide +kernel
section
variable {prog:Program}{w:World}
theorem jv {k:Nat}(ha:i5 k=true) (ho:iM k=true) (h3:3<=2 ^ k) (AM:2 ^ k<64) (hs:(bQ (cB k) 0 (2 ^ k-2) 2 (p0 k)).size=2 ^ k):lO prog w (bo k) (bQ (cB k) 0 (2 ^ k-2) 2 (p0 k)):=by
 refine ⟨by rw [dj]; exact hs,λA E s it C=>?_⟩
 rw [dj] at C ⊢
 have C':=C.congr λi j hi hj=>sC ha hi hj
 unfold iM at ho
 rw [Bool.and_eq_true,Bool.and_eq_true,Bool.not_eq_true'] at ho
 have g:∀i,i<2 ^ k->(p0 k).getD i 0=i:=λi hi=>by
  unfold p0
  simp [Array.getD,hi]
 refine EB C' (p:=p0 k) (n:=2 ^ k) (Gp k) (by unfold p0; simp) h3 AM ?_ ?_ ?_ ⟨rfl,rfl⟩
 . rw [g 1 (by omega),g 0 (by omega)]; exact ho.1
 . rw [g 2 (by omega),g 1 (by omega)]; exact ho.2.1
 . rw [g 0 (by omega),g 1 (by omega)]; exact ho.2.2
theorem wm (k:Nat) (h1:1<=k) (h6:k<=6):lO prog w (bo k) (m9 k):=by
 obtain ⟨a1,a2,a3,a4,a5,a6⟩:=EE
 obtain ⟨b2,b3,b4,b5⟩:=EF
 have qs:=λk hk=>yn k hk
 rcases (show k=1\/k=2\/k=3\/k=4\/k=5\/k=6 by omega) with rfl | rfl | rfl | rfl | rfl | rfl
 . refine ⟨rfl,λA E s it C=>?_⟩
   have C':=C.congr λi j hi hj=>sC a1 hi hj
   exact JS C' (p:=p0 1) (Gp 1) rfl (by decide +kernel) ⟨rfl,rfl⟩
 . exact jv a2 b2 (by decide) (by decide) (qs 2 (by simp))
 . exact jv a3 b3 (by decide) (by decide) (qs 3 (by simp))
 . exact jv a4 b4 (by decide) (by decide) (qs 4 (by simp))
 . exact jv a5 b5 (by decide) (by decide) (qs 5 (by simp))
 . refine ⟨by rw [dj]; exact qs 6 (by simp),λA E s it C=>?_⟩
   rw [dj] at C ⊢
   have C':=C.congr λi j hi hj=>sC a6 hi hj
   have hb:=JW
   unfold Ik iM at hb
   simp only [Bool.and_eq_true,Bool.not_eq_true',List.all_eq_true,List.mem_range] at hb
   obtain ⟨⟨c1,c2,c3⟩,d1,d2,d3,e1,e2⟩:=hb
   have g:∀i,i<2 ^ 6->(p0 6).getD i 0=i:=λi hi=>by
    unfold p0
    simp [Array.getD,hi]
   refine Mq C' (p:=p0 6) (Gp 6) rfl ?_ ?_ ?_ d1 d2 d3 (λi hi=>e1 i hi) (λi hi=>e2 i (by omega)) λpd=>⟨rfl,rfl⟩
   . rw [g 1 (by decide),g 0 (by decide)]; exact c1
   . rw [g 2 (by decide),g 1 (by decide)]; exact c2
   . rw [g 0 (by decide),g 1 (by decide)]; exact c3
end
end L2
namespace L2
open PySem PySem.Spec PyProof.Rows PySem.W
section
variable {X:Cx}
theorem jW (h:Heap) (vs:List Value) (out:Array Value):∃n,(sortedAll h vs out).get? (h.objs.size+1)=some (seqObj "list" out n):=by
 unfold sortedAll sortedHeap
 have hsz:((h.push (seqObj "list" #[] 0)).update h.objs.size (Obj.mapSeq (· ++ vs.toArray))).objs.size=h.objs.size+1:=by rw [Heap.size_update,size_push']
 have h1:(((h.push (seqObj "list" #[] 0)).update h.objs.size (Obj.mapSeq (· ++ vs.toArray))).push (seqObj "list" vs.toArray 0)).get? (h.objs.size+1)=some (seqObj "list" vs.toArray 0):=by
  rw [← hsz]; exact Heap.get?_push_size _ rfl
 exact ⟨_,get?_update_seq (Heap.get?_push_of_some _ (Heap.get?_push_of_some _ (get?_update_seq h1 λ_=>#[]))) λ_=>out⟩
theorem jh {h:Heap}{vs:List Value}{out:Array Value}{b:Addr}{o:Obj}(hb:h.get? b=some o):(sortedAll h vs out).get? b=some o:=by
 have lt:=Heap.lt_size hb
 have ne0:b≠h.objs.size:=Nat.ne_of_lt lt
 have ne1:b≠h.objs.size+1:=Nat.ne_of_lt (Nat.lt_succ_of_lt lt)
 unfold sortedAll sortedHeap
 rw [(Heap.SameBut.update _ _ _).2 b ne1]
 refine Heap.get?_push_of_some _ (Heap.get?_push_of_some _ ?_)
 rw [(Heap.SameBut.update _ _ _).2 b ne1]
 refine Heap.get?_push_of_some _ ?_
 rw [(Heap.SameBut.update _ _ _).2 b ne0]
 exact Heap.get?_push_of_some _ hb
theorem u0 {pins:List (Addr×Obj)}{σ:St}{H:Hp}{s:Shared}(I:Inv X pins σ H s):∀{ts:List Addr}{vs:List Value}{bs:List (List Int)},Vals (ts.map V.ref) vs->Paired (λt b=>aR X.K H t (b.map V.int)) ts bs->Paired (lZ s.heap) vs bs
 | [],vs,_,r,.nil=>by
  rw [List.map_nil] at r
  cases r
  exact .nil
 | t::ts,vs,b::bs,r,.cons h p=>by
  rw [List.map_cons] at r
  cases r with
  | cons r1 r2=>
   cases r1
   obtain ⟨its,rv,⟨o,h1,h2,n,h3⟩,_⟩:=I.tuple h
   exact .cons ⟨t,o,_,n,rfl,h1,h2,h3,intsAre_of rv⟩ (u0 I r2 p)
theorem yo {ts:List Addr}{i:Nat}{d:Addr}(h:i<ts.length):(ts.map V.ref).getD i .aQ=.ref (ts.getD i d):=by simp [h]
theorem JX {xs:List V}{vs:List Value}(r:Vals xs vs){i:Nat}(h:i<xs.length):RelV (xs.getD i .aQ) (vs.getD i .none):=by
 obtain ⟨w',e,kJ⟩:=r.get (i:=i) (List.getElem?_eq_getElem h)
 have e1:vs.getD i .none=w':=by simp [e]
 have e2:xs.getD i .aQ=xs[i]:=by simp [h]
 rw [e1,e2]
 exact kJ
theorem sD {xs:List V}{vs:List Value}(r:Vals xs vs):∀{l:List Nat},(∀i∈l,i<xs.length)->Vals (l.map λi=>xs.getD i .aQ) (l.map λi=>vs.getD i .none)
 | [],_=>.nil
 | i::l,h=>.cons (JX r (h i List.mem_cons_self)) (sD r λj hj=>h j (List.mem_cons_of_mem _ hj))
theorem n9 {α β:Type}{F:α->β->Prop}{d:α}{e:β}{l₁:List α}{l₂:List β}(p:Paired F l₁ l₂):∀{l:List Nat},(∀i∈l,i<l₁.length)->Paired F (l.map λi=>l₁.getD i d) (l.map λi=>l₂.getD i e)
 | [],_=>.nil
 | i::l,h=>.cons (kf p i (h i List.mem_cons_self)) (n9 p λj hj=>h j (List.mem_cons_of_mem _ hj))
theorem Ms:∀k∈[0,1,2,3,4,5,6],((m9 k).toList.all λi=>Nat.blt i (2 ^ k))=true:=by decide +kernel
theorem yp:gp X (.builtin "sorted") (λxs H Q=>∃p ts k,xs=[.ref p]/\av X.K H p (ts.map V.ref)/\Paired (λt b=>aR X.K H t (b.map V.int)) ts (bo k)/\1<=k/\k<=6/\
 ∀D rF,H D=none->Paired (λt b=>aR X.K H t (b.map V.int)) rF (bf k)->Q (.ref D) (upd H D (.lst (rF.map V.ref)))):=by
 intro pins s σ H xs us Q I r h
 obtain ⟨p,ts,k,rfl,hp,hb,h1,h6,q⟩:=h
 obtain ⟨u,rfl,rx⟩:=vals1 r
 cases (show u=Value.ref p from rx)
 obtain ⟨its,rv,pl,hz⟩:=I.list hp
 have l1:=rv.length
 rw [List.length_map] at l1
 have l2:=hb.length
 rw [dj] at l2
 have hk:k∈[0,1,2,3,4,5,6]:=by
  rcases (show k=1\/k=2\/k=3\/k=4\/k=5\/k=6 by omega) with rfl | rfl | rfl | rfl | rfl | rfl <;> simp
 have two:2<=2 ^ k/\2 ^ k<=64:=by
  rcases (show k=1\/k=2\/k=3\/k=4\/k=5\/k=6 by omega) with rfl | rfl | rfl | rfl | rfl | rfl <;> decide
 have hin:∀i∈(m9 k).toList,i<2 ^ k:=λi hi=>by
  have:=List.all_eq_true.mp (Ms k hk) i hi
  rwa [Nat.blt_eq] at this
 refine rE (k:=k) (q:=m9 k) pl.isList (u0 I rv hb) (lP k) h1 (by omega) (by omega) (wm k h1 h6) ?_
 obtain ⟨n,hn⟩:=jW s.heap its ((m9 k).map λi=>its.getD i .none)
 have dQ:=n9 (d:=0) (e:=[]) hb (l:=(m9 k).toList) (λi hi=>by have:=hin i hi; omega)
 rw [AO k hk] at dQ
 refine ⟨.ref (s.heap.objs.size+1),_,I.laid (t':=s.toks) (o:=.lst (((m9 k).toList.map λi=>ts.getD i 0).map V.ref)) (λb o hb=>jh hb) (by omega) ?_,rfl,q _ _ (I.hok.fresh (by omega)) dQ⟩
 refine ⟨?_,((m9 k).map λi=>its.getD i .none).toList,n,?_,?_⟩
 . rw [List.length_map,List.length_map,Array.length_toList,yn k hk,sizeLine_eq]
   omega
 . have v:=sD rv (l:=(m9 k).toList) (λi hi=>by rw [List.length_map]; have:=hin i hi; omega)
   rw [Array.toList_map]
   have e:((m9 k).toList.map λi=>ts.getD i 0).map V.ref=(m9 k).toList.map λi=>(ts.map V.ref).getD i .aQ:=by
    rw [List.map_map]
    refine List.map_congr_left λi hi=>?_
    show V.ref (ts.getD i 0)=_
    exact (yo (by have:=hin i hi; omega)).symm
   rw [e]
   exact v
 . rw [Array.toArray_toList]
   exact hn
def wK (K:W.Frag):R2:=λx y H Q=>∃a b xs ys,x=.ref a/\y=.ref b/\aR K H a xs/\aR K H b ys/\ys≠[]/\xs.length+ys.length<=sizeLine/\(xs=[]->Q (.ref b) H)/\(xs≠[]->∀p,H p=none->Q (.ref p) (upd H p (.tup (xs++ys))))
theorem AQ:fk X (binaryOp .Add) (wK X.K):=by
 intro pins s σ H x y v u Q I rx ry h
 obtain ⟨a,b,xs,ys,rfl,rfl,ha,hb,hy,hz,q1,q2⟩:=h
 by_cases hx:xs=[]
 . cases rx
   cases ry
   obtain ⟨its,r1,p1,_⟩:=I.tuple ha
   obtain ⟨lW,r2,p2,_⟩:=I.tuple hb
   obtain ⟨⟨cls,dd,data,sl⟩,ho,hc,n,hd⟩:=id p1
   obtain ⟨⟨U0,Ad,data2,HA⟩,xq,i8,n2,hd2⟩:=id p2
   simp only at hc hd i8 hd2
   subst hc hd i8 hd2
   have he:its=[]:=r1.qk.mpr hx
   exact concat_meets ⟨_,ho,rfl⟩ ⟨_,xq,rfl⟩ noFill_tuple_add seq_tuple_add PySem.F.slot_tuple_add PySem.F.entry_tuple_add (PySem.F.args_tuple_add_2 _ _)
    (tuple_addW0 a b its.toArray lW.toArray n n2 dd Ad sl HA (by simp [he])) ⟨ho,xq,⟨.ref b,H,I,rfl,q1 hx⟩⟩
 . exact Jx pins s σ H _ _ v u Q I rx ry ⟨a,b,xs,ys,rfl,rfl,ha,hb,hx,hz,λe=>absurd e hy,λ_=>q2 hx⟩
end
end L2
namespace L2
open PySem PySem.Spec PyProof.Rows PySem.W
section
variable {prog:Program}{w:World}{A:Around}{E:Value->Shared->Prop}{s:Shared}
theorem Gq {a:Addr}{vs:List Value}{n:Nat}{P:Fin->Shared->Prop}(ho:s.heap.get? a=some (seqObj "list" vs.toArray n)) (h2:vs.length<2) (h:P (.done (.ret .none)) { s with heap:=sortedHeap s.heap a vs vs.toArray }) :
 wpAny (model prog w) A (Builtin.«list.sort» ⟨[.ref a],[]⟩) P E s:=by
 rw [list_sort_plain]
 have ha:a<s.heap.objs.size:=Heap.lt_size ho
 refine wpAny_bind (listItems_at ho rfl ?_)
 refine wpAny_bind (listUpdate_at ho rfl ?_ (by rw [List.size_toArray,sizeLine_eq]; omega) (Nat.zero_le _))
 obtain ⟨e1,jZ⟩:∃e1,(s.heap.update a (Obj.mapSeq λ_=>#[])).get? a=some (seqObj "list" #[] e1):=⟨_,get?_update_seq ho (λ_=>#[])⟩
 refine wpAny_bind (seqEpoch_at jZ rfl ?_)
 refine wpAny_bind (wpAny_newTuple ?_ (by show vs.length<=_; rw [sizeLine_eq]; omega))
 refine wpAny_bind (wpAny_newList ?_ (Nat.zero_le _))
 refine wpAny_holding ?_
 have AN:(((s.heap.update a (Obj.mapSeq λ_=>#[])).push (seqObj "tuple" vs.toArray 0)).push (seqObj "list" #[] 0)).get? a=some (seqObj "list" #[] e1):=
  Heap.get?_push_of_some _ (Heap.get?_push_of_some _ jZ)
 show wpAny (model prog w) A _ P E { s with heap:=((s.heap.update a (Obj.mapSeq λ_=>#[])).push (seqObj "tuple" vs.toArray 0)).push (seqObj "list" #[] 0) }
 dsimp only
 have hV:vs.toArray.size<2:=by rw [List.size_toArray]; omega
 rw [if_pos hV,if_pos hV]
 refine wpAny_bind (wpAny_pure ?_)
 rw [StateT.run_pure]
 refine wpAny_bind (wpAny_pure ?_)
 dsimp only
 have hsz:((vs.toArray.zip vs.toArray).map (·.2))=vs.toArray:=by
  apply Array.ext
  . simp
  . intro i h1 h2
    simp
 refine wpAny_bind (seqEpoch_at AN rfl ?_)
 show wpAny _ _ (Builtin.List.listUpdate (.ref a) (λ_=>((vs.toArray.zip vs.toArray).map (·.2))) >>= _) _ _ _
 rw [hsz]
 refine wpAny_bind (listUpdate_at AN rfl ?_ (hsz2:=by rw [List.size_toArray,sizeLine_eq]; omega))
 simp only [bne_self_eq_false,Bool.false_eq_true,if_false]
 exact wpAny_pure h
theorem Cp {l:Addr}{vs:List Value}{Q:Value->Shared->Prop}(hl:s.heap.IsList l vs.toArray) (h2:vs.length<2) (h:Q (.ref (s.heap.objs.size+1)) { s with heap:=sortedAll s.heap vs vs.toArray }) :
 wpAny (model prog w) A (call (.builtin "sorted") [.ref l]) Q E s:=by
 refine Calls.call_function_entry kind_sorted plain_sorted entry_sorted (args_sorted1 _) ?_
 unfold Builtin.«sorted»
 refine wpAny_bind (m:=checkCount "sorted" 1 1 _) (wpAny_pure ?_)
 refine wpAny_bind (collect_list hl ?_ (by rw [sizeLine_eq]; omega))
 refine wpAny_bind (wpAny_newList ?_ (by rw [sizeLine_eq]; omega))
 have hsz:((s.heap.push (seqObj "list" #[] 0)).update s.heap.objs.size (Obj.mapSeq (· ++ vs.toArray))).objs.size=s.heap.objs.size+1:=by
  rw [Heap.size_update,size_push']
 have wZ:(((s.heap.push (seqObj "list" #[] 0)).update s.heap.objs.size (Obj.mapSeq (· ++ vs.toArray))).push (seqObj "list" vs.toArray 0)).get? (s.heap.objs.size+1)=some (seqObj "list" vs.toArray 0):=by
  rw [← hsz]; exact Heap.get?_push_size _ rfl
 show wpAny _ _ _ _ _ { s with heap:=((s.heap.push (seqObj "list" #[] 0)).update s.heap.objs.size (Obj.mapSeq (· ++ vs.toArray))).push (seqObj "list" vs.toArray 0) }
 rw [hsz]
 refine wpAny_bind (wpAny_holding (wpAny_call_entry slot_list_sort ⟨_,wZ,rfl⟩ entry_list_sort (Gq wZ h2 ⟨_,rfl,?_⟩) (args_list_sort _)))
 exact wpAny_pure ⟨_,rfl,h⟩
end
theorem sE:∀{b c:List Int},b.map V.int=c.map V.int->b=c
 | [],[],_=>rfl
 | [],_::_,h=>nomatch h
 | _::_,[],h=>nomatch h
 | x::b,y::c,h=>by
  rw [List.map_cons,List.map_cons] at h
  have h1:=List.cons.inj h
  rw [V.int.inj h1.1,sE h1.2]
section
variable {X:Cx}
theorem yq:gp X (.builtin "sorted") (λxs H Q=>∃p ts k,xs=[.ref p]/\av X.K H p (ts.map V.ref)/\Paired (λt b=>aR X.K H t (b.map V.int)) ts (bo k)/\k<=6/\
 ∀D rF,H D=none->Paired (λt b=>aR X.K H t (b.map V.int)) rF (bf k)->Q (.ref D) (upd H D (.lst (rF.map V.ref)))):=by
 intro pins s σ H xs us Q I r h
 obtain ⟨p,ts,k,rfl,hp,hb,h6,q⟩:=h
 by_cases hk:k=0
 . subst hk
   obtain ⟨u,rfl,rx⟩:=vals1 r
   cases (show u=Value.ref p from rx)
   obtain ⟨its,rv,pl,hz⟩:=I.list hp
   have l1:=rv.length
   rw [List.length_map] at l1
   have l2:=hb.length
   rw [dj] at l2
   obtain ⟨n,hn⟩:=jW s.heap its its.toArray
   refine Cp pl.isList (by omega) ⟨.ref (s.heap.objs.size+1),_,I.laid (t':=s.toks) (o:=.lst (ts.map V.ref)) (λb o hb=>jh hb) (by omega) ⟨hz,its,n,rv,hn⟩,rfl,q _ ts (I.hok.fresh (by omega)) hb⟩
 . exact yp pins s σ H _ us Q I r ⟨p,ts,k,rfl,hp,hb,by omega,h6,q⟩
open Classical in
def Vz (K:W.Frag):R2:=λx y H Q=>∃(t p:Addr) (b:List Int) (ts:List Addr) (bs:List (List Int)),x=.ref t/\y=.ref p/\aR K H t (b.map V.int)/\av K H p (ts.map V.ref)/\Paired (λt b=>aR K H t (b.map V.int)) ts bs/\Q (.bl (decide (b∈bs))) H
theorem JY {A:Around}{pins:List (Addr×Obj)}{σ:St}{H:Hp}{s:Shared}(I:Inv X pins σ H s) (hu:A.units+1<cLine){t u:Addr}{b c:List Int}(ht:aR X.K H t (b.map V.int)) (EG:aR X.K H u (c.map V.int)):SeqAt.EqAt A s (.ref t) (.ref u) (decide (b=c)):=by
 by_cases e:t=u
 . subst e
   have e2:b=c:=sE (I.oP ht EG)
   rw [decide_eq_true e2]
   exact SeqAt.EqAt.same _
 . refine SeqAt.EqAt.of_refs e ?_
   obtain ⟨its,rv,pl,_⟩:=I.tuple ht
   obtain ⟨its',uc,Ay,_⟩:=I.tuple EG
   have l1:=rv.length
   have l2:=uc.length
   rw [List.length_map] at l1 l2
   have key:=SeqAt.RcAt.tuples (A:=A) (s:=s) (e:=λj=>decide (b.getD j 0=c.getD j 0)) pl Ay (by omega) (λj g1 g2=>?_)
   . have e3:((List.range (min its.toArray.size its'.toArray.size)).all (λj=>decide (b.getD j 0=c.getD j 0)) && its.toArray.size == its'.toArray.size)=decide (b=c):=by
      rw [Bool.eq_iff_iff,Bool.and_eq_true,decide_eq_true_eq,List.all_eq_true]
      simp only [List.size_toArray,beq_iff_eq,List.mem_range,decide_eq_true_eq]
      constructor
      . rintro ⟨h1,h2⟩
        apply List.ext_getElem (by omega)
        intro i g1 g2
        have:=h1 i (by omega)
        simpa [g1,g2] using this
      . rintro rfl
        exact ⟨λ_ _=>rfl,by omega⟩
     rw [← e3]
     exact key
   . simp only [List.size_toArray] at g1 g2
     have hj:j<b.length:=by omega
     have SE:j<c.length:=by omega
     obtain ⟨w1,e1,r1⟩:=rv.get (x:=.int b[j]) (by rw [List.getElem?_map,List.getElem?_eq_getElem hj]; rfl)
     obtain ⟨w2,e2,r2⟩:=uc.get (x:=.int c[j]) (by rw [List.getElem?_map,List.getElem?_eq_getElem SE]; rfl)
     have z:=oY (A:=A.in1) (s:=s) r1 r2 rfl rfl
     have a1:its.toArray[j]=w1:=by
      have:=(List.getElem?_eq_some_iff.mp e1).2
      simpa using this
     have a2:its'.toArray[j]=w2:=by
      have:=(List.getElem?_eq_some_iff.mp e2).2
      simpa using this
     rw [a1,a2]
     have e4:iG (.int b[j]) (.int c[j])=decide (b.getD j 0=c.getD j 0):=by
      simp [iG,hj,SE]
      rfl
     rw [← e4]
     exact z
theorem yr {A:Around}{pins:List (Addr×Obj)}{σ:St}{H:Hp}{s:Shared}(I:Inv X pins σ H s) (hu:A.units+1<cLine){t:Addr}{b:List Int}(ht:aR X.K H t (b.map V.int)) (f:Value->Bool) (hf:∀u c,aR X.K H u (c.map V.int)->f (.ref u)=decide (c=b)):∀{ts:List Addr}{vs:List Value}{bs:List (List Int)},Vals (ts.map V.ref) vs->Paired (λt b=>aR X.K H t (b.map V.int)) ts bs->(∀v∈vs,SeqAt.EqAt A s v (.ref t) (f v))/\vs.any f=bs.any λc=>decide (c=b)
 | [],vs,_,r,.nil=>by
  rw [List.map_nil] at r
  cases r
  exact ⟨(λ_ h=>nomatch h),rfl⟩
 | u::ts,vs,c::bs,r,.cons h p=>by
  rw [List.map_cons] at r
  cases r with
  | cons r1 r2=>
   cases r1
   obtain ⟨h1,h2⟩:=yr I hu ht f hf r2 p
   refine ⟨λv hv=>?_,?_⟩
   . rcases List.mem_cons.mp hv with rfl | hv
     . rw [hf u c h]
       exact JY I hu h ht
     . exact h1 v hv
   . rw [List.any_cons,List.any_cons,h2,hf u c h]
open Classical in
theorem aaV (hu:X.A.units+2<cLine):fk X (compareOp .In) (Vz X.K):=by
 intro pins s σ H x y v u Q I rx ry h
 obtain ⟨t,p,b,ts,bs,rfl,rfl,ht,hp,hb,q⟩:=h
 cases (show v=Value.ref t from rx)
 cases (show u=Value.ref p from ry)
 obtain ⟨its,rv,pl,hz⟩:=I.list hp
 have hf:∀u c,aR X.K H u (c.map V.int)->(λv:Value=>decide (∃u,v=.ref u/\aR X.K H u (b.map V.int))) (.ref u)=decide (c=b):=λu c hc=>by
  show decide _=decide _
  congr 1
  refine propext ⟨?_,?_⟩
  . rintro ⟨u',e,h'⟩
    cases e
    exact sE (I.oP hc h')
  . rintro rfl
    exact ⟨u,rfl,hc⟩
 obtain ⟨m1,m2⟩:=yr (A:=X.A.in1) I (by show X.A.in1.units+1<cLine; exact hu) ht (λv:Value=>decide (∃u,v=.ref u/\aR X.K H u (b.map V.int))) hf rv hb
 refine SeqAt.in_listAt _ pl.isList (λw hw=>m1 w (by simpa using hw)) ⟨.bl _,H,I,rfl,?_⟩
 have e:its.toArray.any (λv:Value=>decide (∃u,v=.ref u/\aR X.K H u (b.map V.int)))=decide (b∈bs):=by
  rw [show its.toArray.any (λv:Value=>decide (∃u,v=.ref u/\aR X.K H u (b.map V.int)))=its.any (λv:Value=>decide (∃u,v=.ref u/\aR X.K H u (b.map V.int))) by simp,m2,Bool.eq_iff_iff,List.any_eq_true,decide_eq_true_eq]
  constructor
  . rintro ⟨c,hc,e⟩
    exact of_decide_eq_true e ▸ hc
  . intro h
    exact ⟨b,h,by simp⟩
 rw [e]
 exact q
end
end L2
namespace L2
open PySem PySem.Spec PyProof.Rows
mutual
inductive Dp (K:W.Frag) (H:Hp):V->PyData->Prop
 | aQ:Dp K H .aQ .none
 | bl (b):Dp K H (.bl b) (.bool b)
 | int (i):Dp K H (.int i) (.int i)
 | str (x):Dp K H (.str x) (.str x)
 | lst {a xs ds} : av K H a xs->lQ K H xs ds->Dp K H (.ref a) (.list ds)
 | tup {a xs ds} : aR K H a xs->lQ K H xs ds->Dp K H (.ref a) (.tuple ds)
inductive lQ (K:W.Frag) (H:Hp):List V->List PyData->Prop
 | nil:lQ K H [] []
 | cons {x d xs ds} : Dp K H x d->lQ K H xs ds->lQ K H (x::xs) (d::ds)
end
section
variable {X:Cx}{pins:List (Addr×Obj)}{σ:St}{H:Hp}{s:Shared}
mutual
theorem Dp.reads (I:Inv X pins σ H s):∀{x:V}{d:PyData},Dp X.K H x d->∀{v:Value},RelV x v->∃as,Reads s.heap v d as
 | _,_,.aQ,v,r=>by cases (show v=Value.none from r); exact ⟨_,.none⟩
 | _,_,.bl b,v,r=>by cases (show v=Value.bool b from r); exact ⟨_,.bool b⟩
 | _,_,.int i,v,r=>by obtain ⟨t,rfl⟩:=r; exact ⟨_,.int i t⟩
 | _,_,.str x,v,r=>by obtain ⟨t,rfl⟩:=r; exact ⟨_,.str x t⟩
 | _,_,.lst (a:=a) h1 h2,v,r=>by
  cases (show v=Value.ref a from r)
  obtain ⟨its,rv,⟨o,n,e,c,dn,dt⟩,_⟩:=I.list h1
  obtain ⟨as,ra⟩:=lQ.reads I h2 rv
  exact ⟨_,.list e c dt ra⟩
 | _,_,.tup (a:=a) h1 h2,v,r=>by
  cases (show v=Value.ref a from r)
  obtain ⟨its,rv,⟨o,e,c,n,dt⟩,_⟩:=I.tuple h1
  obtain ⟨as,ra⟩:=lQ.reads I h2 rv
  exact ⟨_,.tuple e c dt ra⟩
theorem lQ.reads (I:Inv X pins σ H s):∀{xs:List V}{ds:List PyData},lQ X.K H xs ds->∀{vs:List Value},Vals xs vs->∃as,ReadsAll s.heap vs ds as
 | _,_,.nil,_,.nil=>⟨_,.nil⟩
 | _,_,.cons h1 h2,_,.cons r1 r2=>by
  obtain ⟨as,ra⟩:=Dp.reads I h1 r1
  obtain ⟨bs,rb⟩:=lQ.reads I h2 r2
  exact ⟨_,.cons ra rb⟩
end
theorem lQ.get {K:W.Frag}{H:Hp} : ∀{xs:List V}{ds:List PyData}{i:Nat}{d:PyData},lQ K H xs ds->ds[i]?=some d->∃x,xs[i]?=some x/\Dp K H x d
 | _,_,_,_,.nil,e=>by simp at e
 | _,_,0,_,.cons h _,e=>by simp at e; subst e; exact ⟨_,rfl,h⟩
 | _,_,i+1,_,.cons _ t,e=>by
  obtain ⟨x,h1,h2⟩:=lQ.get (i:=i) t (by simpa using e)
  exact ⟨x,by simpa using h1,h2⟩
theorem sF {K:W.Frag}{H:Hp} : ∀(ns:List Str),lQ K H (ns.map V.str) (ns.map PyData.str)
 | []=>.nil
 | n::ns=>.cons (.str n) (sF ns)
abbrev dT (b:List Int):PyData:=.tuple (b.map PyData.int)
theorem AR {l:List PyData}(h:∀d∈l,d.canLay0=true):PyData.canLayAll0 l=true:=by
 induction l with
 | nil=>rfl
 | cons d l ih=>rw [PyData.canLayAll0,h d List.mem_cons_self,ih λe he=>h e (List.mem_cons_of_mem _ he)]; rfl
theorem JZ {l:List PyData}{n:Nat}(h:∀d∈l,d.depth<=n):PyData.depthAll l<=n:=by
 induction l with
 | nil=>exact Nat.zero_le _
 | cons d l ih=>rw [PyData.depthAll]; exact Nat.max_le.mpr ⟨h d List.mem_cons_self,ih λe he=>h e (List.mem_cons_of_mem _ he)⟩
def rDp (K:W.Frag) (n:Nat) (f:PyData->PyData->Bool):R2:=λx y H Q=>∃da db,Dp K H x da/\Dp K H y db/\da.canLay0=true/\db.canLay0=true/\min da.depth db.depth<=n/\Q (.bl (f da db)) H
theorem J0 {n:Nat}(hu:X.A.units+n<cLine):fk X (compareOp .Eq) (rDp X.K n PyData.eqv):=by
 intro pins s σ H x y v u Q I rx ry h
 obtain ⟨da,db,ha,hb,la,lb,hd,q⟩:=h
 obtain ⟨as,ra⟩:=ha.reads I rx
 obtain ⟨bs,rb⟩:=hb.reads I ry
 exact SeqAt.rcAt_reads ra rb la lb (by omega) X.prog X.w X.xe _ ⟨.bl _,H,I,rfl,q⟩
end
end L2
namespace L2
open PySem PySem.Spec PyProof.Rows
section
variable {X:Cx}
def VA (K:W.Frag) (neg:Bool):R2:=λx y H Q=>∃(p p':Addr) (xs:List V),x=.ref p/\y=.ref p'/\av K H p xs/\av K H p' []/\Q (.bl (if neg=true then !xs.isEmpty else xs.isEmpty)) H
theorem Mt (hu:X.A.units<cLine):fk X (compareOp .Eq) (VA X.K false):=by
 intro pins s σ H x y v u Q I rx ry h
 obtain ⟨p,p',xs,rfl,rfl,h1,h2,q⟩:=h
 cases (show v=Value.ref p from rx)
 cases (show u=Value.ref p' from ry)
 obtain ⟨its,rv,pl,hz⟩:=I.list h1
 obtain ⟨its',uc,Ay,DA⟩:=I.list h2
 have l1:=rv.length
 have l2:=uc.length
 cases xs with
 | nil=>
  have key:=SeqAt.RcAt.lists (A:=X.A) (s:=s) (e:=λ_=>true) pl.isList Ay.isList (by simp only [List.size_toArray]; omega) hu (λj g1 g2=>by simp only [List.size_toArray,List.length_nil] at g1 l1; omega) X.prog X.w X.xe
  refine key _ ?_
  rw [show ((List.range its.toArray.size).all λ_=>true)=true by simp]
  exact ⟨.bl true,H,I,rfl,q⟩
 | cons a xs=>
  have key:=SeqAt.RcAt.lists_lengths (A:=X.A) (s:=s) pl.isList Ay.isList (by simp only [List.size_toArray,List.length_cons,List.length_nil] at l1 l2 ⊢; rw [← l1,← l2]; rfl) hu X.prog X.w X.xe
  exact key _ ⟨.bl false,H,I,rfl,q⟩
end
end L2
namespace L2
open PySem PySem.Spec PyProof.Rows
inductive Tr where
 | leaf (b:Bool) | node (n:Str) (l r:Tr)
 deriving DecidableEq
def Tr.dep:Tr->Nat
 | .leaf _=>0
 | .node _ l r=>max l.dep r.dep+1
def eE (h:Heap):Tr->Value->Prop
 | .leaf b,v=>v=.bool b
 | .node n l r,v=>∃a o k t vl vr,v=.ref a/\h.get? a=some o/\o.cls=.type "tuple" /\ o.data=.seq #[.str n t,vl,vr] k/\eE h l vl/\eE h r vr
def lR (w:World):Tr->Int
 | .leaf b=>reduceHash (if b=true then 1 else 0)
 | .node n l r=>reduceHash (Builtin.Tuple.tupleHashOf [hashStr w n,lR w l,lR w r])
def jI:Tr->Nat
 | .leaf _=>1
 | .node _ l r=>1+jI l+jI r+1
theorem eE.inj {h:Heap} : ∀{x y:Tr}{v:Value},eE h x v->eE h y v->x=y
 | .leaf _,.leaf _,_,e1,e2=>by
  rw [show _=Value.bool _ from e1] at e2
  injection (show Value.bool _=Value.bool _ from e2) with e
  rw [e]
 | .leaf _,.node ..,_,e1,⟨_,_,_,_,_,_,e2,_⟩=>by
  rw [show _=Value.bool _ from e1] at e2
  cases e2
 | .node ..,.leaf _,_,⟨_,_,_,_,_,_,e2,_⟩,e1=>by
  rw [show _=Value.bool _ from e1] at e2
  cases e2
 | .node ..,.node ..,_,⟨a,o,k,t,vl,vr,e,g,_,d,hl,hr⟩,⟨a',o',k',t',vl',vr',e',g',_,d',tP,EH⟩=>by
  rw [e] at e'
  injection e' with ea
  subst ea
  rw [g] at g'
  injection g' with eo
  subst eo
  rw [d] at d'
  injection d' with e1 e2
  have SF:=congrArg Array.toList e1
  simp only [List.cons.injEq,and_true] at SF
  obtain ⟨q1,q2,q3⟩:=SF
  injection q1 with n1 _
  subst n1 q2 q3
  rw [eE.inj hl tP,eE.inj hr EH]
theorem eE.keep {h h':Heap}(k:∀a o its n,h.get? a=some o->o.cls=.type "tuple" -> o.data=.seq its n->h'.get? a=some o):∀{t:Tr}{v:Value},eE h t v->eE h' t v
 | .leaf _,_,e=>e
 | .node ..,_,⟨a,o,n,t,vl,vr,e,g,c,d,hl,hr⟩=>⟨a,o,n,t,vl,vr,e,k _ _ _ _ g c d,c,d,hl.keep k,hr.keep k⟩
section
variable {prog:Program}{w:World}{E:Value->Shared->Prop}
theorem eE.hash:∀(t:Tr) (v:Value) (A:Around) (s:Shared) (Q:Int->Shared->Prop),eE s.heap t v->A.units+t.dep<cLine->Q (lR w t) { s with toks:=s.toks+jI t } -> wpAny (model prog w) A (pyHash v) Q E s
 | .leaf b,v,A,s,Q,e,hu,q=>by
  cases (show v=.bool b from e)
  refine W.pyHash_slot (T:="bool") rfl PySem.F.slot_bool_hash entry_int_hash (args_int_hash _) (beq_builtin_none _) (.inr (by omega)) ?_
  cases b
  . exact (show wpAny _ _ (do ret (← mkInt 0)) _ _ s from wpAny_bind (wpAny_mkInt (wpAny_pure ⟨_,_,rfl,q⟩)))
  . exact (show wpAny _ _ (do ret (← mkInt 1)) _ _ s from wpAny_bind (wpAny_mkInt (wpAny_pure ⟨_,_,rfl,q⟩)))
 | .node n l r,v,A,s,Q,⟨a,o,k,t,vl,vr,e,g,c,d,hl,hr⟩,hu,q=>by
  subst e
  have EG:A.units+(max l.dep r.dep+1)<cLine:=hu
  refine W.pyHash_slot (T:="tuple") ⟨o,g,c⟩ PySem.F.slot_tuple_hash PySem.F.entry_tuple_hash (PySem.F.args_tuple_hash_1 _) (beq_builtin_none _) (.inr (by omega)) ?_
  show wpAny _ _ (Builtin.Tuple.tupleItemsOf (.ref a) >>= _) _ _ s
  refine wpAny_bind (wpAny_tupleItemsOf g d (wpAny_bind ?_))
  rw [← Array.forIn_toList]
  refine wpAny_forIn_list _ (λrest (b:Array Int) z=>(rest=[.str n t,vl,vr]/\b = #[]/\z=s)\/(rest=[vl,vr]/\b = #[hashStr w n]/\z = { s with toks:=s.toks+1 })\/(rest=[vr]/\b = #[hashStr w n,lR w l]/\z = { s with toks:=s.toks+(1+jI l) })\/(rest=[]/\b = #[hashStr w n,lR w l,lR w r]/\z = { s with toks:=s.toks+(1+jI l+jI r) })) _ ?_ ?_ _ _ (.inl ⟨rfl,rfl,rfl⟩)
  . rintro x rest b z (⟨e1,rfl,rfl⟩ | ⟨e1,rfl,rfl⟩ | ⟨e1,rfl,rfl⟩ | ⟨e1,_⟩)
    . injection e1 with e1 e2
      subst e1 e2
      exact wpAny_bind (wpAny_pyHash_str (wpAny_pure (.inr (.inl ⟨rfl,rfl,rfl⟩))))
    . injection e1 with e1 e2
      subst e1 e2
      exact wpAny_bind (eE.hash l _ _ _ _ hl (by simp only [Around.in1_units]; omega) (wpAny_pure (.inr (.inr (.inl ⟨rfl,rfl,by simp only [Nat.add_assoc]⟩)))))
    . injection e1 with e1 e2
      subst e1 e2
      exact wpAny_bind (eE.hash r _ _ _ _ hr (by simp only [Around.in1_units]; omega) (wpAny_pure (.inr (.inr (.inr ⟨rfl,rfl,by simp only [Nat.add_assoc]⟩)))))
    . cases e1
  . rintro b z (⟨e1,_⟩ | ⟨e1,_⟩ | ⟨e1,_⟩ | ⟨_,rfl,rfl⟩)
    . cases e1
    . cases e1
    . cases e1
    . exact (show wpAny _ _ (retInt _) _ _ _ from wpAny_bind (wpAny_mkInt (wpAny_pure ⟨_,_,rfl,by simpa only [Nat.add_assoc,jI,lR] using q⟩)))
theorem eE.calm:∀(t:Tr) (v:Value) (k:Nat) (A:Around) (s:Shared) (Q:Bool->Shared->Prop),eE s.heap t v->t.dep<=k->Q true s->wpAny (model prog w) A (eqIsQuiet k v) Q E s
 | .leaf b,v,k,A,s,Q,e,_,q=>by
  cases (show v=.bool b from e)
  rw [eqIsQuiet_byValue _ rfl]
  exact wpAny_pure q
 | .node n l r,v,0,A,s,Q,_,hk,_=>absurd hk (Nat.not_succ_le_zero _)
 | .node n l r,v,k+1,A,s,Q,⟨a,o,m,t,vl,vr,e,g,c,d,hl,hr⟩,hk,q=>by
  subst e
  have qU:max l.dep r.dep+1<=k+1:=hk
  have hT:s.TypeIs (.ref a) "tuple":=⟨o,g,c⟩
  unfold eqIsQuiet
  refine wpAny_bind (wpAny_specialOf hT PySem.F.slot_tuple_eq.lookup ?_)
  show wpAny _ _ (isInstance (.ref a) (.type "tuple") >>= _) _ _ s
  refine wpAny_bind (wpAny_isInstance hT isSubtype_tuple_tuple ?_)
  simp only [Bool.not_true,Bool.false_eq_true,if_false]
  refine wpAny_bind (wpAny_seqItems g d (wpAny_bind ?_))
  show wpAny _ _ (forIn #[Value.str n t,vl,vr] _ _) _ _ s
  rw [← Array.forIn_toList]
  refine wpAny_forIn_list _ (λrest x z=>x.1=none/\z=s/\(rest=[.str n t,vl,vr]\/rest=[vl,vr]\/rest=[vr]\/rest=[])) _ ?_ ?_ _ _ ⟨rfl,rfl,.inl rfl⟩
  . rintro x rest b z ⟨hb,rfl,e1 | e1 | e1 | e1⟩
    . injection e1 with e1 e2
      subst e1 e2
      rw [eqIsQuiet_byValue _ rfl]
      refine wpAny_bind (wpAny_pure ?_)
      rw [if_neg (show ¬ (!true)=true by decide)]
      exact wpAny_pure ⟨rfl,rfl,.inr (.inl rfl)⟩
    . injection e1 with e1 e2
      subst e1 e2
      refine wpAny_bind (eE.calm l _ k _ _ _ hl (by omega) ?_)
      rw [if_neg (show ¬ (!true)=true by decide)]
      exact wpAny_pure ⟨rfl,rfl,.inr (.inr (.inl rfl))⟩
    . injection e1 with e1 e2
      subst e1 e2
      refine wpAny_bind (eE.calm r _ k _ _ _ hr (by omega) ?_)
      rw [if_neg (show ¬ (!true)=true by decide)]
      exact wpAny_pure ⟨rfl,rfl,.inr (.inr (.inr rfl))⟩
    . cases e1
  . rintro ⟨r1,r2⟩ z ⟨hb,rfl,_⟩
    simp only at hb
    subst hb
    exact wpAny_pure q
end
def Tr.pd:Tr->PyData
 | .leaf b=>.bool b
 | .node n l r=>.tuple [.str n,l.pd,r.pd]
def Tr.EI:Tr->Prop
 | .leaf _=>True
 | .node n l r=>PyData.strOk n=true/\l.EI/\r.EI
theorem Tr.ur:∀t:Tr,t.EI->t.pd.canLay0=true
 | .leaf _,_=>rfl
 | .node n l r,⟨h1,h2,h3⟩=>by
  rw [Tr.pd,PyData.canLay0]
  refine AR λd hd=>?_
  have:d=.str n\/d=l.pd\/d=r.pd:=by simpa using hd
  rcases this with rfl | rfl | rfl
  . rw [PyData.canLay0]
    exact h1
  . exact l.ur h2
  . exact r.ur h3
theorem Tr.yt:∀t:Tr,t.pd.depth<=t.dep
 | .leaf _=>Nat.le_refl _
 | .node n l r=>by
  rw [Tr.pd,PyData.depth,Tr.dep]
  have hl:=l.yt
  have hr:=r.yt
  have:PyData.depthAll [.str n,l.pd,r.pd]<=max l.dep r.dep:=JZ λd hd=>by
   have:d=.str n\/d=l.pd\/d=r.pd:=by simpa using hd
   rcases this with rfl | rfl | rfl
   . exact Nat.zero_le _
   . omega
   . omega
  omega
theorem Tr.yu:∀x y:Tr,PyData.eqv x.pd y.pd=decide (x=y)
 | .leaf a,.leaf b=>by
  rw [Tr.pd,Tr.pd,PyData.eqv,Bool.eq_iff_iff,decide_eq_true_eq]
  simp
 | .leaf _,.node ..=>by rw [decide_eq_false (by intro z; cases z)]; rfl
 | .node ..,.leaf _=>by rw [decide_eq_false (by intro z; cases z)]; rfl
 | .node n l r,.node n' l' r'=>by
  rw [Tr.pd,Tr.pd,PyData.eqv]
  have h1:=Tr.yu l l'
  have h2:=Tr.yu r r'
  have h3:PyData.eqv (.str n) (.str n')=decide (n=n'):=by rw [PyData.eqv,Bool.eq_iff_iff,decide_eq_true_eq]; simp
  simp only [PyData.eqvAll,h1,h2,h3,Bool.and_true]
  rw [Bool.eq_iff_iff]
  simp
theorem eE.reads {h:Heap} : ∀{t:Tr}{v:Value},eE h t v->∃as,Reads h v t.pd as
 | .leaf b,v,e=>by cases (show v=.bool b from e); exact ⟨_,.bool b⟩
 | .node ..,_,⟨a,o,k,t,vl,vr,e,g,c,d,hl,hr⟩=>by
  subst e
  obtain ⟨as,ra⟩:=hl.reads
  obtain ⟨bs,rb⟩:=hr.reads
  exact ⟨_,.tuple g c d (.cons (.str _ _) (.cons ra (.cons rb .nil)))⟩
def Mu (prog:Program) (w:World):HeapKind prog w Tr where
 is:=λh t a=>eE h t (.ref a)/\t.dep<=8/\t.EI
 hash:=lR w
 draws:=jI
 room:=λA=>A.units+16<cLine
 inj:=λhx hy=>hx.1.inj hy.1
 keeps:=λhk g d sb=>by
  refine ⟨hk.1.keep λa o its n ga _ da=>sb.extBut a o (λe=>?_) ga,hk.2⟩
  subst e
  rw [ga] at g
  injection g with eo
  subst eo
  rw [da] at d
  cases d
 pyHash:=λ{A E s k a Q} hu hk q=>eE.hash k (.ref a) A s Q hk.1 (by have:=hk.2.1; omega) q
 eqBool:=λ{A E s x y a b Q} hu hx hy q=>by
  obtain ⟨as,ra⟩:=hx.1.reads
  obtain ⟨bs,rb⟩:=hy.1.reads
  have d1:=x.yt
  have h8:=hx.2.1
  have z:=SeqAt.eqAt_reads x.pd y.pd A s _ _ as bs ra rb (x.ur hx.2.2) (y.ur hy.2.2) (by omega)
  rw [Tr.yu] at z
  exact z prog w E Q q
 quiet:=λ{A E s k a Q} hk q=>eE.calm k (.ref a) 8 A s Q hk.1 hk.2.1 q
end L2
namespace L2
open PySem PySem.Spec PyProof.Rows
abbrev VB (L:List (Tr×Addr×V)) (vs:List (Tr×Addr×Value)):Prop:=Paired (λp q=>p.1=q.1/\p.2.1=q.2.1/\RelV p.2.2 q.2.2) L vs
def SG (P:Program) (w:World) (a:Addr) (L:List (Tr×Addr×V)) (h:Heap):Prop:=
 L.length<=sizeLine/\(a == sysModules)=false/\∃vs,VB L vs/\∃o es ep,h.get? a=some o/\o.ExactDict/\o.data=.dict es ep/\es.toList=vs.map (entryOfKey (Mu P w))/\(vs.map (·.1)).Nodup
def pN (P:Program) (w:World) (a:Addr) (L:List (Tr×Addr×V)):HO:=.ext (SG P w a L)
theorem Mv {P:Program}{w:World}{H:Hp}{h:Heap}{a:Addr}{L:List (Tr×Addr×V)}(x:SG P w a L h):bJ P w H h a (pN P w a L):=by
 refine ⟨x,?_,λh1 h2 y k=>?_⟩
 . obtain ⟨_,_,vs,_,o,_,_,g,_⟩:=x
   exact ⟨o,g⟩
 . obtain ⟨y0,y1,vs,y2,o,es,ep,g,r⟩:=y
   exact ⟨y0,y1,vs,y2,o,es,ep,k o g,r⟩
def fz (H:Hp):Tr->V->Prop
 | .leaf b,v=>v=.bl b
 | .node n l r,v=>∃a vl vr,v=.ref a/\H a=some (.tup [.str n,vl,vr])/\fz H l vl/\fz H r vr
theorem fz.keep {H H':Hp}(k:∀a xs,H a=some (.tup xs)->H' a=some (.tup xs)):∀{t:Tr}{v:V},fz H t v->fz H' t v
 | .leaf _,_,e=>e
 | .node ..,_,⟨a,vl,vr,e,g,hl,hr⟩=>⟨a,vl,vr,e,k _ _ g,hl.keep k,hr.keep k⟩
structure yw (H:Hp) (t:Tr) (b:Addr):Prop where
 at_:fz H t (.ref b)
 d8:t.dep<=8
 sk:t.EI
theorem yw.keep {H H':Hp}{t:Tr}{b:Addr}(h:yw H t b) (k:∀a xs,H a=some (.tup xs)->H' a=some (.tup xs)):yw H' t b:=⟨h.at_.keep k,h.d8,h.sk⟩
section
variable {X:Cx}{o i value e:Expr}{pos pos' apos gf:Pos}{td ty tv:TE}
def Pz (P:Program) (w:World):TE:=λ_ H Q=>∀p,H p=none->Q (.ref p) (upd H p (pN P w p []))
theorem Gr:PE X (.Dict [] [] pos) (Pz X.prog X.w):=λpins s σ H Q I h=>
 wpAny_Dict_empty ⟨.ref s.heap.objs.size,_,I.laid (a:=s.heap.objs.size) (o:=pN X.prog X.w s.heap.objs.size []) (t':=s.toks) (λ_ _ q=>Heap.get?_push_of_some _ q) (Nat.le_refl _)
  (Mv ⟨Nat.zero_le _,beq_eq_false_iff_ne.mpr (Ne.symm (Nat.ne_of_lt I.big)),[],.nil,_,#[],0,Heap.get?_push_size _ rfl,⟨rfl,rfl,rfl⟩,rfl,rfl,List.nodup_nil⟩),rfl,h _ (I.hok.fresh (Nat.le_refl _))⟩
end
end L2
namespace Gen
open PySem L2
def ev (e:Str->Bool):Tr->Bool
 | .leaf b=>b
 | .node n l r=>if e n then ev e r else ev e l
inductive fX:List Str->Tr->Prop
 | leaf (ns:List Str) (b:Bool):fX ns (.leaf b)
 | node {n:Str}{r:List Str}{l h:Tr} : l≠h->fX r l->fX r h->fX (n::r) (.node n l h)
 | skip {n:Str}{r:List Str}{t:Tr} : fX r t->fX (n::r) t
def put (e:Str->Bool) (n:Str) (b:Bool):Str->Bool:=λz=>if z=n then b else e z
theorem jJ {ns:List Str}{t:Tr}(h:fX ns t){n:Str}(hn:n∉ns) (e:Str->Bool) (b:Bool):ev (put e n b) t=ev e t:=by
 induction h with
 | leaf=>rfl
 | @node k r l h _ _ _ ih1 ih2=>
  rw [List.mem_cons,not_or] at hn
  unfold ev
  rw [ih1 hn.2,ih2 hn.2]
  have:put e n b k=e k:=if_neg λq=>hn.1 q.symm
  rw [this]
 | @skip k r t _ ih=>
  rw [List.mem_cons,not_or] at hn
  exact ih hn.2
theorem iN:∀{ns:List Str}{t t':Tr},ns.Nodup->fX ns t->fX ns t'->(∀e,ev e t=ev e t')->t=t'
 | [],_,_,_,.leaf _ a,.leaf _ b,h=>by rw [show a=b from h λ_=>true]
 | n::r,t,t',hn,h1,h2,h=>by
  rw [List.nodup_cons] at hn
  have split:∀{l u x:Tr},fX r l->fX r u->fX r x->(∀e,ev e (.node n l u)=ev e x)->l=u:=λ{l u x} cl cu cx hh=>by
   have e1:l=x:=iN hn.2 cl cx λe=>by
    have:=hh (put e n false)
    rw [jJ cx hn.1] at this
    rw [← this,ev,show put e n false n=false from if_pos rfl,if_neg (by decide),jJ cl hn.1]
   have e2:u=x:=iN hn.2 cu cx λe=>by
    have:=hh (put e n true)
    rw [jJ cx hn.1] at this
    rw [← this,ev,show put e n true n=true from if_pos rfl,if_pos rfl,jJ cu hn.1]
   rw [e1,e2]
  have both:∀{l u l' u':Tr},fX r l->fX r u->fX r l'->fX r u'->(∀e,ev e (.node n l u)=ev e (.node n l' u'))->l=l'/\u=u':=λ{l u l' u'} cl cu Il Im hh=>by
   refine ⟨iN hn.2 cl Il λe=>?_,iN hn.2 cu Im λe=>?_⟩
   . have:=hh (put e n false)
     rw [ev,ev,show put e n false n=false from if_pos rfl,if_neg (by decide),if_neg (by decide),jJ cl hn.1,jJ Il hn.1] at this
     exact this
   . have:=hh (put e n true)
     rw [ev,ev,show put e n true n=true from if_pos rfl,if_pos rfl,if_pos rfl,jJ cu hn.1,jJ Im hn.1] at this
     exact this
  cases h1 with
  | leaf _ a=>
   cases h2 with
   | leaf _ b=>rw [show a=b from h λ_=>true]
   | node ne cl cu=>exact absurd (split cl cu (.leaf r a) λe=>(h e).symm) ne
   | skip c=>exact iN hn.2 (.leaf r a) c h
  | node ne cl cu=>
   cases h2 with
   | leaf _ b=>exact absurd (split cl cu (.leaf r b) h) ne
   | node ne' Il Im=>
    obtain ⟨q1,q2⟩:=both cl cu Il Im h
    rw [q1,q2]
   | skip c=>exact absurd (split cl cu c h) ne
  | skip c=>
   cases h2 with
   | leaf _ b=>exact iN hn.2 c (.leaf r b) h
   | node ne cl cu=>exact absurd (split cl cu c λe=>(h e).symm) ne
   | skip c'=>exact iN hn.2 c c' h
theorem u7 {ns:List Str}{t:Tr}(h:fX ns t):t.dep<=ns.length:=by
 induction h with
 | leaf=>exact Nat.zero_le _
 | node _ _ _ i1 i2=>unfold Tr.dep; rw [List.length_cons]; omega
 | skip _ i=>rw [List.length_cons]; omega
theorem Mw {a b:List Str}{t:Tr}(h:fX b t):fX (a++b) t:=by
 induction a with
 | nil=>exact h
 | cons n a ih=>exact .skip ih
theorem sG {ns:List Str}{i j:Nat}{t:Tr}(h:fX (ns.drop j) t) (xQ:i<=j):fX (ns.drop i) t:=by
 have e:ns.drop j=(ns.drop i).drop (j-i):=by rw [List.drop_drop]; congr 1; omega
 rw [e] at h
 rw [← List.take_append_drop (j-i) (ns.drop i)]
 exact Mw h
def neg:Tr->Tr
 | .leaf b=>.leaf (!b)
 | .node n l r=>.node n (neg l) (neg r)
abbrev Nd:=Nat×Nat×Nat
def aJ (N:List Nd) (i:Nat):Nat:=(N.getD i (0,0,0)).1
def low (N:List Nd) (i:Nat):Nat:=(N.getD i (0,0,0)).2.1
def i6 (N:List Nd) (i:Nat):Nat:=(N.getD i (0,0,0)).2.2
def aH (TS:List Tr) (i:Nat):Tr:=TS.getD i (.leaf false)
structure FS (names:List Str) (N:List Nd) (TS:List Tr):Prop where
 len:N.length=TS.length
 two:2<=N.length
 z0:N.getD 0 (0,0,0)=(names.length,0,0)
 z1:N.getD 1 (0,0,0)=(names.length,1,1)
 t0:aH TS 0=.leaf false
 t1:aH TS 1=.leaf true
 nd:∀i,2<=i->i<N.length->aJ N i<names.length/\low N i<i/\i6 N i<i/\low N i≠i6 N i/\aJ N i<aJ N (low N i)/\aJ N i<aJ N (i6 N i)/\aH TS i=.node (names.getD (aJ N i) "") (aH TS (low N i)) (aH TS (i6 N i))
 uq:∀i j,2<=i->2<=j->i<N.length->j<N.length->N.getD i (0,0,0)=N.getD j (0,0,0)->i=j
section
variable {names:List Str}{N:List Nd}{TS:List Tr}
theorem FS.inj (h:FS names N TS) (hn:names.Nodup):∀i j,i<N.length->j<N.length->aH TS i=aH TS j->i=j:=by
 intro i
 induction i using Nat.strongRecOn with
 | ind i ih=>
  intro j hi hj e
  have wL:∀k,k<2->aH TS k=.leaf (decide (k=1)):=λk hk=>by
   rcases (show k=0\/k=1 by omega) with rfl | rfl
   . exact h.t0
   . exact h.t1
  by_cases i2:i<2
  . by_cases j2:j<2
    . rw [wL i i2,wL j j2] at e
      injection e with e
      rcases (show i=0\/i=1 by omega) with rfl | rfl <;> rcases (show j=0\/j=1 by omega) with rfl | rfl <;> first | rfl | (revert e; decide)
    . rw [wL i i2,(h.nd j (by omega) hj).2.2.2.2.2.2] at e
      cases e
  . by_cases j2:j<2
    . rw [wL j j2,(h.nd i (by omega) hi).2.2.2.2.2.2] at e
      cases e
    . obtain ⟨a1,a2,a3,_,_,_,a7⟩:=h.nd i (by omega) hi
      obtain ⟨b1,b2,b3,_,_,_,b7⟩:=h.nd j (by omega) hj
      rw [a7,b7] at e
      injection e with e1 e2 e3
      have q2:=ih _ a2 _ (by omega) (by omega) e2
      have q3:=ih _ a3 _ (by omega) (by omega) e3
      have q1:aJ N i=aJ N j:=by
       rw [List.getD_eq_getElem?_getD,List.getD_eq_getElem?_getD,List.getElem?_eq_getElem a1,List.getElem?_eq_getElem b1] at e1
       exact (List.getElem_inj hn).mp e1
      refine h.uq i j (by omega) (by omega) hi hj ?_
      exact Prod.ext q1 (Prod.ext q2 q3)
theorem FS.YU (h:FS names N TS){i:Nat}(hi:i<N.length):aJ N i<=names.length:=by
 by_cases i2:i<2
 . unfold aJ
   rcases (show i=0\/i=1 by omega) with rfl | rfl
   . rw [h.z0]
     exact Nat.le_refl _
   . rw [h.z1]
     exact Nat.le_refl _
 . exact Nat.le_of_lt (h.nd i (by omega) hi).1
theorem FS.can (h:FS names N TS) (hn:names.Nodup):∀i,i<N.length->fX (names.drop (aJ N i)) (aH TS i):=by
 intro i
 induction i using Nat.strongRecOn with
 | ind i ih=>
  intro hi
  by_cases i2:i<2
  . rcases (show i=0\/i=1 by omega) with rfl | rfl
    . rw [h.t0]
      exact .leaf _ _
    . rw [h.t1]
      exact .leaf _ _
  . obtain ⟨a1,a2,a3,a4,a5,a6,a7⟩:=h.nd i (by omega) hi
    rw [a7,List.drop_eq_getElem_cons a1,List.getD_eq_getElem?_getD,List.getElem?_eq_getElem a1]
    refine .node (λq=>a4 (h.inj hn _ _ (by omega) (by omega) q)) (sG (ih _ a2 (by omega)) a5) (sG (ih _ a3 (by omega)) a6)
theorem oa {α:Type}{l m:List α}{d:α}{i:Nat}(h:i<l.length):(l++m).getD i d=l.getD i d:=by
 rw [List.getD_eq_getElem?_getD,List.getD_eq_getElem?_getD,List.getElem?_append_left h]
theorem og {α:Type}{l:List α}{x d:α} : (l++[x]).getD l.length d=x:=by
 rw [List.getD_eq_getElem?_getD,List.getElem?_append_right (Nat.le_refl _),Nat.sub_self]
 rfl
theorem FS.push (h:FS names N TS){s l u:Nat}(hs:s<names.length) (hl:l<N.length) (hu:u<N.length) (ne:l≠u) (s1:s<aJ N l) (s2:s<aJ N u) (jV:∀i,2<=i->i<N.length->N.getD i (0,0,0)≠(s,l,u)) :
 FS names (N++[(s,l,u)]) (TS++[.node (names.getD s "") (aH TS l) (aH TS u)]):=by
 have h2:=h.two
 have hlen:=h.len
 have ji:∀i,i<N.length->(N++[(s,l,u)]).getD i (0,0,0)=N.getD i (0,0,0):=λi hi=>oa hi
 have sH:∀i,i<N.length->aH (TS++[.node (names.getD s "") (aH TS l) (aH TS u)]) i=aH TS i:=λi hi=>oa (by omega)
 have yx:(N++[(s,l,u)]).getD N.length (0,0,0)=(s,l,u):=og
 refine ⟨by rw [List.length_append,List.length_append,hlen]; rfl,by rw [List.length_append]; omega,by rw [ji 0 (by omega)]; exact h.z0,by rw [ji 1 (by omega)]; exact h.z1,by rw [sH 0 (by omega)]; exact h.t0,by rw [sH 1 (by omega)]; exact h.t1,λi i2 hi=>?_,λi j i2 j2 hi hj e=>?_⟩
 . rw [List.length_append,List.length_singleton] at hi
   by_cases q:i<N.length
   . obtain ⟨a1,a2,a3,a4,a5,a6,a7⟩:=h.nd i i2 q
     have e1:aJ (N++[(s,l,u)]) i=aJ N i:=by unfold aJ; rw [ji i q]
     have e2:low (N++[(s,l,u)]) i=low N i:=by unfold low; rw [ji i q]
     have e3:i6 (N++[(s,l,u)]) i=i6 N i:=by unfold i6; rw [ji i q]
     have e4:aJ (N++[(s,l,u)]) (low N i)=aJ N (low N i):=by unfold aJ; rw [ji _ (by omega)]
     have e5:aJ (N++[(s,l,u)]) (i6 N i)=aJ N (i6 N i):=by unfold aJ; rw [ji _ (by omega)]
     rw [e1,e2,e3,e4,e5,sH i q,sH _ (by omega),sH _ (by omega)]
     exact ⟨a1,a2,a3,a4,a5,a6,a7⟩
   . have ei:i=N.length:=by omega
     subst ei
     have e1:aJ (N++[(s,l,u)]) N.length=s:=by unfold aJ; rw [yx]
     have e2:low (N++[(s,l,u)]) N.length=l:=by unfold low; rw [yx]
     have e3:i6 (N++[(s,l,u)]) N.length=u:=by unfold i6; rw [yx]
     have e4:aJ (N++[(s,l,u)]) l=aJ N l:=by unfold aJ; rw [ji _ hl]
     have e5:aJ (N++[(s,l,u)]) u=aJ N u:=by unfold aJ; rw [ji _ hu]
     rw [e1,e2,e3,e4,e5,sH _ hl,sH _ hu]
     refine ⟨hs,hl,hu,ne,s1,s2,?_⟩
     rw [hlen]
     exact og
 . rw [List.length_append,List.length_singleton] at hi hj
   by_cases qi:i<N.length
   . by_cases qj:j<N.length
     . rw [ji i qi,ji j qj] at e
       exact h.uq i j i2 j2 qi qj e
     . rw [ji i qi,show j=N.length by omega,yx] at e
       exact absurd e (jV i i2 qi)
   . by_cases qj:j<N.length
     . rw [ji j qj,show i=N.length by omega,yx] at e
       exact absurd e.symm (jV j j2 qj)
     . omega
end
end Gen
namespace Gen
open PySem L2
abbrev qz:Stmt:=inClass (top 6) 1
abbrev qB:Stmt:=inClass (top 6) 6
structure jj (K:W.Frag) (mg:Str->Option Value) (C:Addr):Prop where
 cl:mj K C
 n1:bU K C "names"
 n2:bU K C "spots"
 n3:bU K C "nodes"
 n4:bU K C "known"
 n5:bU K C "choices"
 n6:bU K C "imported"
 n7:bU K C "exported"
 mgC:mg "Forest" = some (.ref C)
def dq (nm sp nd kn ch im ex:Addr):List (Str×V):=ao "exported" (.ref ex) (ao "imported" (.ref im) (ao "choices" (.ref ch) (ao "known" (.ref kn) (ao "nodes" (.ref nd) (ao "spots" (.ref sp) (ao "names" (.ref nm) []))))))
section
variable (nm sp nd kn ch im ex:Addr)
theorem VC:(dq nm sp nd kn ch im ex).lookup ("names" : Str)=some (.ref nm):=by
 unfold dq
 rw [aj,if_neg (by decide +kernel),aj,if_neg (by decide +kernel),aj,if_neg (by decide +kernel),aj,if_neg (by decide +kernel),aj,if_neg (by decide +kernel),aj,if_neg (by decide +kernel),aj,if_pos rfl]
theorem VD:(dq nm sp nd kn ch im ex).lookup ("spots" : Str)=some (.ref sp):=by
 unfold dq
 rw [aj,if_neg (by decide +kernel),aj,if_neg (by decide +kernel),aj,if_neg (by decide +kernel),aj,if_neg (by decide +kernel),aj,if_neg (by decide +kernel),aj,if_pos rfl]
theorem sI:(dq nm sp nd kn ch im ex).lookup ("nodes" : Str)=some (.ref nd):=by
 unfold dq
 rw [aj,if_neg (by decide +kernel),aj,if_neg (by decide +kernel),aj,if_neg (by decide +kernel),aj,if_neg (by decide +kernel),aj,if_pos rfl]
theorem Mx:(dq nm sp nd kn ch im ex).lookup ("known" : Str)=some (.ref kn):=by
 unfold dq
 rw [aj,if_neg (by decide +kernel),aj,if_neg (by decide +kernel),aj,if_neg (by decide +kernel),aj,if_pos rfl]
theorem My:(dq nm sp nd kn ch im ex).lookup ("choices" : Str)=some (.ref ch):=by
 unfold dq
 rw [aj,if_neg (by decide +kernel),aj,if_neg (by decide +kernel),aj,if_pos rfl]
theorem Mz:(dq nm sp nd kn ch im ex).lookup ("exported" : Str)=some (.ref ex):=by
 unfold dq
 rw [aj,if_pos rfl]
theorem sL {m:Str}(h1:m ≠ "names") (h2:m ≠ "spots") (h3:m ≠ "nodes") (h4:m ≠ "known") (h5:m ≠ "choices") (h6:m ≠ "imported") (h7:m ≠ "exported"):(dq nm sp nd kn ch im ex).lookup m=none:=by
 unfold dq
 rw [aj,if_neg h7,aj,if_neg h6,aj,if_neg h5,aj,if_neg h4,aj,if_neg h3,aj,if_neg h2,aj,if_neg h1]
 rfl
end
theorem hU {b:Bool}{A B:Prop}(h:b=false) (k:B):if b=true then A else B:=by rw [h]; exact iX k
theorem gq {b:Bool}{A B:Prop}(h:b=true) (k:A):if b=true then A else B:=by rw [h]; exact kX k
def ij:Nat->List Str->List (Key×V)
 | _,[]=>[]
 | i,n::r=>(.inr n,.int (i:Int))::ij (i+1) r
theorem EJ:∀(names:List Str) (i j:Nat) (z:Str),names.Nodup->names[j]?=some z->aZ (ij i names) (.inr z)=some (V.int ((i+j:Nat):Int))
 | [],_,_,_,_,h=>by simp at h
 | n::r,i,0,z,_,h=>by
  have e:n=z:=by simpa using h
  subst e
  rw [ij,cj rfl]
  rfl
 | n::r,i,j+1,z,hn,h=>by
  have h2:r[j]?=some z:=by simpa using h
  have hz:z≠n:=λe=>(List.nodup_cons.mp hn).1 (e ▸ List.mem_of_getElem? h2)
  rw [ij,bZ (λq=>hz (Sum.inr.inj q).symm),EJ r (i+1) j z (List.nodup_cons.mp hn).2 h2,show i+1+j=i+(j+1) by omega]
def hW (p:Nd):List V:=[.int (p.1:Int),.int (p.2.1:Int),.int (p.2.2:Int)]
def i0 (p:Nd):List Key:=[.inl (p.1:Int),.inl (p.2.1:Int),.inl (p.2.2:Int)]
theorem u9 {p q:Nd}(h:i0 p=i0 q):p=q:=by
 unfold i0 at h
 simp only [List.cons.injEq,Sum.inl.injEq,and_true] at h
 obtain ⟨h1,h2,h3⟩:=h
 exact Prod.ext (by omega) (Prod.ext (by omega) (by omega))
def gU:Nat->List Nd->List (List Key×V)
 | _,[]=>[]
 | i,p::r=>(i0 p,.int (i:Int))::gU (i+1) r
theorem AS:∀(l:List Nd) (i:Nat),(gU i l).length=l.length
 | [],_=>rfl
 | _::r,i=>by rw [gU,List.length_cons,List.length_cons,AS r]
theorem AU:∀(a b:List Nd) (i:Nat),gU i (a++b)=gU i a++gU (i+a.length) b
 | [],b,i=>rfl
 | p::r,b,i=>by rw [List.cons_append,gU,gU,AU r b (i+1),List.cons_append,List.length_cons,show i+1+r.length=i+(r.length+1) by omega]
theorem yy:∀(l:List Nd) (i:Nat) (p:Nd),aZ (gU i l) (i0 p)=none->p∉l
 | [],_,_,_=>List.not_mem_nil
 | q::r,i,p,h=>by
  by_cases e:q=p
  . rw [e,gU,cj rfl] at h
    cases h
  . rw [gU,bZ (λz=>e (u9 z))] at h
    rw [List.mem_cons,not_or]
    exact ⟨λz=>e z.symm,yy r (i+1) p h⟩
theorem yz:∀(l:List Nd) (i:Nat) (p:Nd) (v:V),aZ (gU i l) (i0 p)=some v->∃j,l[j]?=some p/\v=.int ((i+j:Nat):Int)
 | [],_,_,_,h=>nomatch h
 | q::r,i,p,v,h=>by
  by_cases e:q=p
  . rw [e,gU,cj rfl] at h
    exact ⟨0,by rw [e]; rfl,(Option.some.inj h).symm⟩
  . rw [gU,bZ (λz=>e (u9 z))] at h
    obtain ⟨j,h1,h2⟩:=yz r (i+1) p v h
    exact ⟨j+1,by simpa using h1,by rw [h2,show i+1+j=i+(j+1) by omega]⟩
structure cY where
 N:List Nd
 TS:List Tr
 ts:List Addr
 CH:List (List Key×V)
 IM:List (Tr×Addr×V)
 EX:List (Key×V)
def sM (N:List Nd) (TS:List Tr) (e:List Key×V):Prop:=∃t h l n:Nat,e.1=[.inl (t:Int),.inl (h:Int),.inl (l:Int)]/\e.2=.int (n:Int)/\t<N.length/\h<N.length/\l<N.length/\n<N.length/\
 (∀v,ev v (aH TS n)=if ev v (aH TS t)=true then ev v (aH TS h) else ev v (aH TS l))/\min (aJ N t) (min (aJ N h) (aJ N l))<=aJ N n
structure FO (P:Program) (w:World) (C:Addr) (H:Hp) (y dy nm sp nd kn ch im ex:Addr) (names:List Str) (S:cY):Prop where
 hy:H y=some (.ins C dy (dq nm sp nd kn ch im ex))
 hn:H nm=some (.lst (names.map V.str))
 hs:H sp=some (.dK (ij 0 names))
 hd:H nd=some (.lst (S.ts.map V.ref))
 ht:Paired (λt p=>H t=some (.tup (hW p))) S.ts S.N
 hk:H kn=some (.dT (gU 2 (S.N.drop 2)))
 hc:H ch=some (.dT S.CH)
 ck:∀e∈S.CH,sM S.N S.TS e
 hi:H im=some (pN P w im S.IM)
 ik:∀p∈S.IM,yw H p.1 p.2.1/\∃i:Nat,i<S.N.length/\p.2.2=.int (i:Int)/\aH S.TS i=p.1
 he:H ex=some (.dK S.EX)
 ek:∀kv∈S.EX,∃i:Nat,kv.1=.inl (i:Int)/\i<S.N.length/\fz H (aH S.TS i) kv.2
 e0:aZ S.EX (.inl 0)=some (.bl false)/\aZ S.EX (.inl 1)=some (.bl true)
 fs:FS names S.N S.TS
 nn:names.Nodup
 ns:∀n∈names,PyData.strOk n=true
 n8:names.length<=8
 d1:nd≠nm
 d2:kn≠ch
 d3:sp≠ex
def Kp (H H':Hp) (nd kn ch im ex:Addr):Prop:=∀b o,H b=some o->b≠nd->b≠kn->b≠ch->b≠im->b≠ex->H' b=some o
structure Bd (S:cY) (b:Nat):Prop where
 b1:S.N.length<=b
 b2:S.CH.length<=b
 b3:S.IM.length<=b
 b4:S.EX.length<=b
structure dr (S S':cY):Prop where
 gn:∃a,S'.N=S.N++a
 gt:∃a,S'.TS=S.TS++a
theorem dr.refl (S:cY):dr S S:=⟨⟨[],by simp⟩,⟨[],by simp⟩⟩
theorem dr.trans {S S1 S2:cY}(a:dr S S1) (b:dr S1 S2):dr S S2:=by
 obtain ⟨⟨x,hx⟩,⟨y,hy⟩⟩:=a
 obtain ⟨⟨x',Aw⟩,⟨y',K9⟩⟩:=b
 exact ⟨⟨x++x',by rw [Aw,hx,List.append_assoc]⟩,⟨y++y',by rw [K9,hy,List.append_assoc]⟩⟩
theorem dr.le {S S':cY}(a:dr S S'):S.N.length<=S'.N.length:=by
 obtain ⟨⟨x,hx⟩,_⟩:=a
 rw [hx,List.length_append]
 omega
theorem dr.nd {S S':cY}(a:dr S S'){i:Nat}(h:i<S.N.length):S'.N.getD i (0,0,0)=S.N.getD i (0,0,0):=by
 obtain ⟨⟨x,hx⟩,_⟩:=a
 rw [hx]
 exact oa h
theorem dr.aJ {S S':cY}(a:dr S S'){i:Nat}(h:i<S.N.length):Gen.aJ S'.N i=Gen.aJ S.N i:=by unfold Gen.aJ; rw [a.nd h]
theorem dr.aH {S S':cY}(a:dr S S'){i:Nat}(h:i<S.TS.length):Gen.aH S'.TS i=Gen.aH S.TS i:=by
 obtain ⟨_,⟨x,hx⟩⟩:=a
 unfold Gen.aH
 rw [hx]
 exact oa h
theorem sM.grow {S S':cY}(a:dr S S') (hl:S.N.length=S.TS.length){e:List Key×V}(h:sM S.N S.TS e):sM S'.N S'.TS e:=by
 obtain ⟨t,h',l,n,e1,e2,l1,l2,l3,l4,hv,hm⟩:=h
 have:=a.le
 refine ⟨t,h',l,n,e1,e2,by omega,by omega,by omega,by omega,λv=>?_,?_⟩
 . rw [a.aH (by omega),a.aH (by omega),a.aH (by omega),a.aH (by omega)]
   exact hv v
 . rw [a.aJ l1,a.aJ l2,a.aJ l3,a.aJ l4]
   exact hm
section
variable {P:Program}{w:World}{K:W.Frag}{mg:Str->Option Value}{base:Heap}{C y dy nm sp nd kn ch im ex:Addr}{names:List Str}{S:cY}{H H':Hp}
theorem Kp.of (s:ak H H'):Kp H H' nd kn ch im ex:=λb o h _ _ _ _ _=>s b o h
theorem Kp.trans {H1:Hp}(a:Kp H H1 nd kn ch im ex) (b:Kp H1 H' nd kn ch im ex):Kp H H' nd kn ch im ex:=λc o h h1 h2 h3 h4 h5=>b c o (a c o h h1 h2 h3 h4 h5) h1 h2 h3 h4 h5
theorem FO.ir (h:FO P w C H y dy nm sp nd kn ch im ex names S) (k:Kp H H' nd kn ch im ex):∀a xs,H a=some (.tup xs)->H' a=some (.tup xs):=λa xs e=>
 k a _ e (a9 e h.hd (by intro z; cases z)) (a9 e h.hk (by intro z; cases z)) (a9 e h.hc (by intro z; cases z)) (a9 e h.hi (by intro z; cases z)) (a9 e h.he (by intro z; cases z))
theorem FO.same (h:FO P w C H y dy nm sp nd kn ch im ex names S) (s:ak H H'):FO P w C H' y dy nm sp nd kn ch im ex names S:=
 ⟨s _ _ h.hy,s _ _ h.hn,s _ _ h.hs,s _ _ h.hd,Paired.cb h.ht λ_ _ e=>s _ _ e,s _ _ h.hk,s _ _ h.hc,h.ck,s _ _ h.hi,λp hp=>⟨(h.ik p hp).1.keep λa xs e=>s _ _ e,(h.ik p hp).2⟩,s _ _ h.he,
  λkv cv=>let ⟨i,a,b,c⟩:=h.ek kv cv; ⟨i,a,b,c.keep λa xs e=>s _ _ e⟩,h.e0,h.fs,h.nn,h.ns,h.n8,h.d1,h.d2,h.d3⟩
theorem FO.node (h:FO P w C H y dy nm sp nd kn ch im ex names S){i:Nat}(hi:i<S.N.length):∃t,S.ts[i]?=some t/\H t=some (.tup (hW (S.N.getD i (0,0,0)))):=by
 obtain ⟨t,h1,h2⟩:=cF h.ht (i:=i) (List.getElem?_eq_getElem hi)
 refine ⟨t,h1,?_⟩
 rw [h2,List.getD_eq_getElem?_getD,List.getElem?_eq_getElem hi]
 rfl
inductive AV (P:Program) (w:World) (C:Addr) (vs:List V) (H:Hp) (Q:VK):Prop
 | mk (y dy nm sp nd kn ch im ex:Addr) (names:List Str) (S:cY) (x s:Nat) (b:Bool) (h1:vs=[.ref y,.int (x:Int),.int (s:Int),.int (if b=true then 2 else 1)]) (h2:FO P w C H y dy nm sp nd kn ch im ex names S) (h3:x<S.N.length) (h4:Q (.int ((if aJ S.N x=s then (if b=true then i6 S.N x else low S.N x) else x:Nat):Int)) H):AV P w C vs H Q
def uu (P:Program) (w:World) (C:Addr):Sp:=λvs H Q _=>AV P w C vs H Q
theorem EK:aY ["self", "number", "spot", "side", "node"] ["self", "number", "spot", "side"] (ar qB):=⟨rfl,rfl,rfl,by decide +kernel,rfl,by decide +kernel,by decide +kernel⟩
theorem J1 {f:Addr}{fd:FuncData}(F:cq K "half" "Forest.half" qB f fd) (T:jj K mg C):ax P w K mg base aD 1 f fd ["self", "number", "spot", "side"] (uu P w C):=by
 refine F.ok EK (λvs H Q E h=>?_) (λcdv A outer s H vs Q E hr h=>?_)
 . obtain ⟨y,dy,nm,sp,nd,kn,ch,im,ex,names,S,x,s0,b,rfl,_⟩:=h
   rfl
 . obtain ⟨y,dy,nm,sp,nd,kn,ch,im,ex,names,S,x,s0,b,rfl,hO,hx,kk⟩:=h
   refine ⟨_,ai (aE (i:=4) EK.nd rfl (Or.inl rfl) (aP (r:=iA K) br (bg (pv 0) rfl) (pv 1) (λ_ _=>rfl)))
    (aw (aW (xa (cN j5 (aP (r:=dv K) cI (pv 4) aq (λ_ _=>rfl)) (pv 2) (dh _)) (aP (r:=dv K) cI (pv 4) (pv 3) (λ_ _=>rfl)) (pv 1)))),?_⟩
   obtain ⟨t,h1,h2⟩:=hO.node hx
   refine ⟨_,rfl,y,C,dy,_,_,rfl,hO.hy,T.cl,T.n3,sI ..,_,rfl,nd,_,_,.ref t,rfl,rfl,av.of hO.hd,a0 (by rw [List.getElem?_map,h1]; rfl),?_⟩
   refine ⟨_,rfl,t,_,0,_,rfl,rfl,aR.of h2,a0 (j:=0) rfl,_,rfl,rfl,_,rfl,?_⟩
   by_cases e:aJ S.N x=s0
   . rw [if_pos e] at kk
     refine gq (decide_eq_true (by rw [← e]; rfl)) ?_
     refine ⟨_,rfl,_,rfl,t,_,_,_,rfl,rfl,aR.of h2,?_,kk⟩
     cases b
     . exact a0 (j:=1) rfl
     . exact a0 (j:=2) rfl
   . rw [if_neg e] at kk
     refine hU (decide_eq_false λz=>e ?_) ⟨_,rfl,kk⟩
     have:=V.int.inj z
     have q:((aJ S.N x:Nat):Int)=(s0:Int):=this
     omega
inductive AW (P:Program) (w:World) (C:Addr) (vs:List V) (H:Hp) (Q:VK):Prop
 | mk (y dy nm sp nd kn ch im ex:Addr) (names:List Str) (S:cY) (s l u b:Nat) (h1:vs=[.ref y,.int (s:Int),.int (l:Int),.int (u:Int)]) (h2:FO P w C H y dy nm sp nd kn ch im ex names S) (h3:s<names.length) (h4:l<S.N.length) (h5:u<S.N.length) (h6:s<aJ S.N l) (h7:s<aJ S.N u) (h8:Bd S b) (h9:b<4000000) (ZG:∀(n:Nat) (S':cY) (H':Hp),FO P w C H' y dy nm sp nd kn ch im ex names S'->Kp H H' nd kn ch im ex->dr S S'->Bd S' (b+1)->S'.CH=S.CH->S'.IM=S.IM->S'.EX=S.EX->n<S'.N.length->s<=aJ S'.N n->aH S'.TS n=(if l=u then aH S.TS l else .node (names.getD s "") (aH S.TS l) (aH S.TS u))->Q (.int (n:Int)) H'):AW P w C vs H Q
def pO (P:Program) (w:World) (C:Addr):Sp:=λvs H Q _=>AW P w C vs H Q
abbrev nNo:List Str:=["self", "spot", "low", "high", "key", "number"]
abbrev rG:List Str:=["self", "spot", "low", "high"]
theorem Cq:aY nNo rG (ar qz):=⟨rfl,rfl,rfl,by decide +kernel,rfl,by decide +kernel,by decide +kernel⟩
theorem big {n:Nat}(h:n<=8000000):n<sizeLine:=Nat.lt_of_le_of_lt h (by decide)
theorem Gs {α:Type}{l:List α}{j:Nat}{x d:α}(h:(l.drop 2)[j]?=some x):2+j<l.length/\l.getD (2+j) d=x:=by
 rw [List.getElem?_drop] at h
 have:=(List.getElem?_eq_some_iff.mp h).1
 exact ⟨this,by rw [List.getD_eq_getElem?_getD,h]; rfl⟩
theorem J2 {f:Addr}{fd:FuncData}(F:cq K "node" "Forest.node" qz f fd) (T:jj K mg C) (O2:gh mg):ax P w K mg base aD 1 f fd rG (pO P w C):=by
 refine F.ok Cq (λvs H Q E h=>?_) (λcdv A outer s H vs Q E hr h=>?_)
 . obtain ⟨y,dy,nm,sp,nd,kn,ch,im,ex,names,S,s0,l,u,b,rfl,_⟩:=h
   rfl
 . obtain ⟨y,dy,nm,sp,nd,kn,ch,im,ex,names,S,s0,l,u,b,rfl,hO,hs,hl,EG,s1,s2,hB,hb,kk⟩:=h
   have hu:=fu hr
   refine ⟨_,ai (cS (cN j5 (pv 2) (pv 3) (dh _)) (aw (aW (pv 2))) bz)
    (ai (aE (i:=4) Cq.nd rfl (Or.inl rfl) (dJ (aa (pv 1) (aa (pv 2) (aa (pv 3) ah)))))
    (ai (aE (i:=5) Cq.nd rfl (Or.inl rfl) (rQ hu (bg (pv 0) rfl) (pv 4) ⟨rfl,rfl,rfl,rfl⟩))
    (ai (cS (jx (w4 (pv 5)))
     (ai (aE (i:=5) Cq.nd rfl (Or.inl rfl) (bG cw (by rfl) O2.len PySem.boot_len (aa (bg (pv 0) rfl) ah)))
     (ai (d6 (ft PySem.F.plainAttrs_list PySem.F.slot_list_append PySem.F.type_list_append d4 (bg (pv 0) rfl) (aa (pv 4) ah)))
     (aw (eX hu (bg (pv 0) rfl) (pv 4) (pv 5) rfl)))) bz)
    (aw (aW (pv 5)))))),?_⟩
   refine ⟨_,rfl,_,rfl,rfl,_,rfl,?_⟩
   by_cases e:l=u
   . refine gq (decide_eq_true (by rw [e])) ⟨_,rfl,kk l S H hO (λ_ _ h _ _ _ _ _=>h) (.refl S) ⟨Nat.le_succ_of_le hB.b1,Nat.le_succ_of_le hB.b2,Nat.le_succ_of_le hB.b3,Nat.le_succ_of_le hB.b4⟩ rfl rfl rfl hl (Nat.le_of_lt s1) (by rw [if_pos e])⟩
   . refine hU (decide_eq_false λz=>e (by have:=V.int.inj z; omega)) ?_
     refine ⟨_,rfl,_,rfl,_,rfl,(by show 3<=sizeLine; decide),λt ht=>?_⟩
     have q1:(upd H t (.tup (hW (s0,l,u)))) t=some (.tup (hW (s0,l,u))):=af
     have vW:ak H (upd H t (.tup (hW (s0,l,u)))):=ak.au ht
     show dU _ _ _ _ (upd H t (.tup (hW (s0,l,u))))
     generalize upd H t (.tup (hW (s0,l,u)))=H1 at q1 vW ⊢
     have bh:=hO.same vW
     have hlen:=bh.fs.len
     have kG:H1 t=some (.tup ((i0 (s0,l,u)).map kV)):=q1
     refine ⟨_,rfl,y,C,dy,_,_,rfl,bh.hy,T.cl,T.n4,Mx ..,kn,rfl,.inr ⟨_,.inl bh.hk⟩,_,rfl,_,b0.t (k:=i0 (s0,l,u)) bh.hk kG,?_⟩
     cases hv:aZ (gU 2 (S.N.drop 2)) (i0 (s0,l,u)) with
     | some v=>
      obtain ⟨j,hj,rfl⟩:=yz _ _ _ _ hv
      obtain ⟨j1,j2⟩:=Gs (d:=(0,0,0)) hj
      refine ⟨_,rfl,_,rfl,hU rfl ⟨_,rfl,kk (2+j) S H1 bh (.of vW) (.refl S) ⟨Nat.le_succ_of_le hB.b1,Nat.le_succ_of_le hB.b2,Nat.le_succ_of_le hB.b3,Nat.le_succ_of_le hB.b4⟩ rfl rfl rfl j1 ?_ ?_⟩⟩
      . unfold aJ
        rw [j2]
        exact Nat.le_refl _
      . obtain ⟨_,_,_,_,_,_,a7⟩:=bh.fs.nd (2+j) (by omega) j1
        rw [a7,if_neg e]
        unfold aJ low i6
        rw [j2]
     | none=>
      have Ml:=yy _ _ _ hv
      have SH:=bh.ht.length
      refine ⟨_,rfl,_,rfl,gq rfl ?_⟩
      refine ⟨_,rfl,y,C,dy,_,_,rfl,bh.hy,T.cl,T.n3,sI ..,nd,_,rfl,.inl (av.of bh.hd),?_⟩
      rw [List.length_map,SH]
      refine ⟨_,rfl,y,C,dy,_,_,rfl,bh.hy,T.cl,T.n3,sI ..,.inl ⟨rfl,_,av.of bh.hd⟩,_,rfl,nd,_,_,rfl,rfl,bh.hd,(by rw [List.length_map,SH]; exact big (by have:=hB.b1; omega)),?_⟩
      have q2:(upd H1 nd (.lst (S.ts.map V.ref++[.ref t]))) nd=some (.lst ((S.ts++[t]).map V.ref)):=by rw [af,List.map_append]; rfl
      have k2:∀b o,H1 b=some o->b≠nd->(upd H1 nd (.lst (S.ts.map V.ref++[.ref t]))) b=some o:=λb o h n=>by rw [ag n]; exact h
      generalize upd H1 nd (.lst (S.ts.map V.ref++[.ref t]))=H2 at q2 k2 ⊢
      have nl:∀{b:Addr}{o:HO},H1 b=some o->(∀xs,o≠.lst xs)->b≠nd:=λhb ho z=>by
       rw [z,bh.hd] at hb
       exact ho _ (Option.some.inj hb).symm
      have y2:=k2 _ _ bh.hy (nl bh.hy (λ_ z=>by cases z))
      have kn2:=k2 _ _ bh.hk (nl bh.hk (λ_ z=>by cases z))
      have t2:=k2 _ _ kG (nl kG (λ_ z=>by cases z))
      refine ⟨_,rfl,_,rfl,y,C,dy,_,_,rfl,y2,T.cl,T.n4,Mx ..,_,rfl,kn,_,rfl,gu.t (k:=i0 (s0,l,u)) kn2 t2 (by rw [AS]; exact big (by have:=hB.b1; rw [List.length_drop]; omega)),?_⟩
      have VE:putK (gU 2 (S.N.drop 2)) (i0 (s0,l,u)) (.int (S.N.length:Int))=gU 2 ((S.N++[(s0,l,u)]).drop 2):=by
       have h2:=bh.fs.two
       rw [kI _ hv,List.drop_append_of_le_length h2,AU,List.length_drop,show 2+(S.N.length-2)=S.N.length by omega]
       rfl
      rw [VE]
      have q3:(upd H2 kn (.dT (gU 2 ((S.N++[(s0,l,u)]).drop 2)))) kn=some (.dT (gU 2 ((S.N++[(s0,l,u)]).drop 2))):=af
      have k3:∀b o,H1 b=some o->b≠nd->b≠kn->(upd H2 kn (.dT (gU 2 ((S.N++[(s0,l,u)]).drop 2)))) b=some o:=λb o h n1 n2=>by rw [ag n2]; exact k2 b o h n1
      have SI:(upd H2 kn (.dT (gU 2 ((S.N++[(s0,l,u)]).drop 2)))) nd=some (.lst ((S.ts++[t]).map V.ref)):=by rw [ag (Ne.symm (nl bh.hk (λ_ z=>by cases z)))]; exact q2
      generalize upd H2 kn (.dT (gU 2 ((S.N++[(s0,l,u)]).drop 2)))=H3 at q3 k3 SI ⊢
      have kt:∀{b:Addr}{o:HO},H1 b=some o->(∀xs,o≠.lst xs)->(∀xs,o≠.dT xs)->H3 b=some o:=λhb ho hd=>k3 _ _ hb (nl hb ho) λz=>by
       rw [z,bh.hk] at hb
       exact hd _ (Option.some.inj hb).symm
      have G:dr S { S with N:=S.N++[(s0,l,u)],TS:=S.TS++[.node (names.getD s0 "") (aH S.TS l) (aH S.TS u)],ts:=S.ts++[t] }:=⟨⟨_,rfl⟩,⟨_,rfl⟩⟩
      have fs':=bh.fs.push hs hl EG e s1 s2 λi i2 hi z=>Ml (by
       rw [List.mem_iff_getElem?]
       refine ⟨i-2,?_⟩
       rw [List.getElem?_drop,show 2+(i-2)=i by omega,List.getElem?_eq_getElem hi]
       rw [List.getD_eq_getElem?_getD,List.getElem?_eq_getElem hi] at z
       exact congrArg some z)
      have Cr:∀a xs,H1 a=some (.tup xs)->H3 a=some (.tup xs):=λa xs h=>kt h (λ_ z=>by cases z) (λ_ z=>by cases z)
      refine ⟨_,rfl,kk S.N.length { S with N:=S.N++[(s0,l,u)],TS:=S.TS++[.node (names.getD s0 "") (aH S.TS l) (aH S.TS u)],ts:=S.ts++[t] } H3 ⟨kt bh.hy (λ_ z=>by cases z) (λ_ z=>by cases z),k3 _ _ bh.hn (Ne.symm bh.d1) (a9 bh.hn bh.hk (by intro z; cases z)),kt bh.hs (λ_ z=>by cases z) (λ_ z=>by cases z),SI,cL (Paired.cb bh.ht λ_ _ h=>Cr _ _ h) (.cons (Cr _ _ q1) .nil),q3,k3 _ _ bh.hc (nl bh.hc (λ_ z=>by cases z)) (Ne.symm bh.d2),λe' h=>sM.grow G hlen (bh.ck e' h),kt bh.hi (λ_ z=>by cases z) (λ_ z=>by cases z),λp hp=>?_,kt bh.he (λ_ z=>by cases z) (λ_ z=>by cases z),λkv cv=>?_,bh.e0,fs',bh.nn,bh.ns,bh.n8,bh.d1,bh.d2,bh.d3⟩ (λb o h n1 n2 _ _ _=>k3 _ _ (vW _ _ h) n1 n2) G ⟨by rw [List.length_append]; have:=hB.b1; show S.N.length+1<=b+1; omega,Nat.le_succ_of_le hB.b2,Nat.le_succ_of_le hB.b3,Nat.le_succ_of_le hB.b4⟩ rfl rfl rfl (by rw [List.length_append]; exact Nat.lt_succ_self _) ?_ ?_⟩
      . obtain ⟨h1,i,i1,i2,i3⟩:=bh.ik p hp
        exact ⟨h1.keep Cr,i,by rw [List.length_append]; show i<S.N.length+1; omega,i2,by rw [← i3]; exact G.aH (by omega)⟩
      . obtain ⟨i,i1,i2,i3⟩:=bh.ek kv cv
        have e9:aH (S.TS++[.node (names.getD s0 "") (aH S.TS l) (aH S.TS u)]) i=aH S.TS i:=G.aH (by omega)
        exact ⟨i,i1,by rw [List.length_append]; show i<S.N.length+1; omega,by rw [e9]; exact i3.keep Cr⟩
      . show s0<=aJ (S.N++[(s0,l,u)]) S.N.length
        unfold aJ
        rw [og]
        exact Nat.le_refl _
      . rw [if_neg e,hlen]
        exact og
end
end Gen
namespace L2
open PySem PySem.Spec PyProof.Rows
section
variable {X:Cx}{a:Expr}{ta:TE}
theorem EL (hc:X.calm=true):gp X (.builtin "min") (λxs H Q=>∃i j k,xs=[.int i,.int j,.int k]/\Q (.int (min i (min j k))) H):=by
 intro pins s σ H xs us Q I r h
 obtain ⟨i,j,k,rfl,q⟩:=h
 cases r with
 | cons r1 r=>
  cases r with
  | cons r2 r=>
   cases r with
   | cons r3 r=>
    cases r
    obtain ⟨t1,rfl⟩:=r1
    obtain ⟨t2,rfl⟩:=r2
    obtain ⟨t3,rfl⟩:=r3
    refine min_three_ints (I.ok.hd hc) λh' tk kp=>⟨_,H,I.kept kp,?_,q⟩
    by_cases h1:j<i
    . rw [if_pos h1]
      by_cases h2:k<j
      . rw [if_pos h2,show min i (min j k)=k by omega]; exact ⟨_,rfl⟩
      . rw [if_neg h2,show min i (min j k)=j by omega]; exact ⟨_,rfl⟩
    . rw [if_neg h1]
      by_cases h2:k<i
      . rw [if_pos h2,show min i (min j k)=k by omega]; exact ⟨_,rfl⟩
      . rw [if_neg h2,show min i (min j k)=i by omega]; exact ⟨_,rfl⟩
end
end L2
namespace Gen
open PySem L2
abbrev jk:Stmt:=inClass (top 6) 4
def oJ:Tr->Nat
 | .leaf _=>0
 | .node _ l r=>oJ l+oJ r+2
theorem jK {κ:Type}[DecidableEq κ] {k:κ}{v:V} : ∀{kvs:List (κ×V)},aZ kvs k=some v->(k,v)∈kvs
 | [],h=>nomatch h
 | (k',v')::r,h=>by
  by_cases e:k'=k
  . subst e
    rw [cj rfl] at h
    cases h
    exact List.mem_cons_self
  . rw [bZ e] at h
    exact List.mem_cons_of_mem _ (jK h)
theorem pP {κ:Type}[DecidableEq κ] {k:κ} : ∀{kvs:List (κ×V)},(∀kv∈kvs,kv.1≠k)->aZ kvs k=none
 | [],_=>rfl
 | (k',v')::r,h=>by
  rw [bZ (h _ List.mem_cons_self)]
  exact pP λkv hk=>h kv (List.mem_cons_of_mem _ hk)
theorem va {κ:Type}[DecidableEq κ] {k:κ} : ∀{kvs:List (κ×V)},aZ kvs k=none->∀kv∈kvs,kv.1≠k
 | [],_,_,h=>nomatch h
 | (k',v')::r,h,kv,hk=>by
  by_cases e:k'=k
  . subst e
    rw [cj rfl] at h
    cases h
  . rw [bZ e] at h
    rcases List.mem_cons.mp hk with rfl | hk
    . exact e
    . exact va h kv hk
theorem Gu {κ:Type}[DecidableEq κ] {kvs:List (κ×V)}{k:κ}{v:V}{e:κ×V}(h:e∈putK kvs k v):e∈kvs\/e=(k,v):=by
 unfold putK at h
 split at h
 . obtain ⟨p,hp,rfl⟩:=List.mem_map.mp h
   by_cases q:p.1=k
   . rw [if_pos q]
     exact .inr (by rw [q])
   . rw [if_neg q]
     exact .inl hp
 . rcases List.mem_append.mp h with h | h
   . exact .inl h
   . exact .inr (List.mem_singleton.mp h)
section
variable {P:Program}{w:World}{K:W.Frag}{mg:Str->Option Value}{base:Heap}{C y dy nm sp nd kn ch im ex:Addr}{names:List Str}{S:cY}{H H':Hp}
theorem Bd.up {S:cY}{b c:Nat}(h:Bd S b) (hc:b<=c):Bd S c:=⟨Nat.le_trans h.b1 hc,Nat.le_trans h.b2 hc,Nat.le_trans h.b3 hc,Nat.le_trans h.b4 hc⟩
theorem Bd.pex {S:cY}{b:Nat}(h:Bd S b) (e:Key×V):Bd { S with EX:=S.EX++[e] } (b+1):=⟨Nat.le_succ_of_le h.b1,Nat.le_succ_of_le h.b2,Nat.le_succ_of_le h.b3,by rw [List.length_append]; exact Nat.succ_le_succ h.b4⟩
theorem Bd.pch {S:cY}{b:Nat}(h:Bd S b) (k:List Key) (v:V):Bd { S with CH:=putK S.CH k v } (b+1):=⟨Nat.le_succ_of_le h.b1,Nat.le_trans (fZ _ _ _) (Nat.succ_le_succ h.b2),Nat.le_succ_of_le h.b3,Nat.le_succ_of_le h.b4⟩
theorem Io {a:Addr}{o:HO}(h:a=nd\/a=kn\/a=ch\/a=im\/a=ex):Kp H (upd H a o) nd kn ch im ex:=λb ob hb h1 h2 h3 h4 h5=>by
 rw [ag (by rcases h with rfl | rfl | rfl | rfl | rfl <;> assumption)]
 exact hb
theorem FO.adL (h:FO P w C H y dy nm sp nd kn ch im ex names S){t:Tr}{b:Addr}{i:Nat}(hk:yw H t b) (hi:i<S.N.length) (ht:aH S.TS i=t) :
 FO P w C (upd H im (pN P w im (S.IM++[(t,b,.int (i:Int))]))) y dy nm sp nd kn ch im ex names { S with IM:=S.IM++[(t,b,.int (i:Int))] }:=by
 have k:∀{a:Addr}{o:HO},H a=some o->o≠pN P w im S.IM->(upd H im (pN P w im (S.IM++[(t,b,.int (i:Int))]))) a=some o:=λha ho=>by
  rw [ag (a9 ha h.hi ho)]
  exact ha
 have kt:∀a xs,H a=some (.tup xs)->(upd H im (pN P w im (S.IM++[(t,b,.int (i:Int))]))) a=some (.tup xs):=λa xs ha=>k ha (by intro z; cases z)
 refine ⟨k h.hy (by intro z; cases z),k h.hn (by intro z; cases z),k h.hs (by intro z; cases z),k h.hd (by intro z; cases z),Paired.cb h.ht λ_ _ e=>kt _ _ e,k h.hk (by intro z; cases z),k h.hc (by intro z; cases z),h.ck,af,λp hp=>?_,k h.he (by intro z; cases z),
  λkv cv=>let ⟨i,a,b,c⟩:=h.ek kv cv; ⟨i,a,b,c.keep kt⟩,h.e0,h.fs,h.nn,h.ns,h.n8,h.d1,h.d2,h.d3⟩
 rcases List.mem_append.mp hp with hp | hp
 . exact ⟨(h.ik p hp).1.keep kt,(h.ik p hp).2⟩
 . rw [List.mem_singleton] at hp
   subst hp
   exact ⟨hk.keep kt,i,hi,rfl,ht⟩
theorem FO.PB (h:FO P w C H y dy nm sp nd kn ch im ex names S){v:V}{i:Nat}(hv:fz H (aH S.TS i) v) (hi:i<S.N.length) (hn:aZ S.EX (.inl (i:Int))=none) :
 FO P w C (upd H ex (.dK (S.EX++[(.inl (i:Int),v)]))) y dy nm sp nd kn ch im ex names { S with EX:=S.EX++[(.inl (i:Int),v)] }:=by
 have k:∀{a:Addr}{o:HO},H a=some o->(∀q,o≠.dK q)->(upd H ex (.dK (S.EX++[(.inl (i:Int),v)]))) a=some o:=λha ho=>by
  rw [ag (a9 ha h.he (ho _))]
  exact ha
 have kt:∀a xs,H a=some (.tup xs)->(upd H ex (.dK (S.EX++[(.inl (i:Int),v)]))) a=some (.tup xs):=λa xs ha=>k ha (by intro _ z; cases z)
 refine ⟨k h.hy (by intro _ z; cases z),k h.hn (by intro _ z; cases z),by rw [ag h.d3]; exact h.hs,k h.hd (by intro _ z; cases z),Paired.cb h.ht λ_ _ e=>kt _ _ e,k h.hk (by intro _ z; cases z),k h.hc (by intro _ z; cases z),h.ck,k h.hi (by intro _ z; cases z),λp hp=>⟨(h.ik p hp).1.keep kt,(h.ik p hp).2⟩,af,
  λkv cv=>?_,?_,h.fs,h.nn,h.ns,h.n8,h.d1,h.d2,h.d3⟩
 . rcases List.mem_append.mp cv with cv | cv
   . obtain ⟨i,a,b,c⟩:=h.ek kv cv
     exact ⟨i,a,b,c.keep kt⟩
   . rw [List.mem_singleton] at cv
     subst cv
     exact ⟨i,rfl,hi,hv.keep kt⟩
 . have old:∀(c:Int) (u:V),aZ S.EX (.inl c)=some u->aZ (S.EX++[(.inl (i:Int),v)]) (.inl c)=some u:=λc u hc=>by
    rw [oV _ _ _ _ hn,if_neg (λz=>by rw [z,hn] at hc; cases hc)]
    exact hc
   exact ⟨old 0 _ h.e0.1,old 1 _ h.e0.2⟩
theorem FO.PF (h:FO P w C H y dy nm sp nd kn ch im ex names S){k':List Key}{u:V}(hc:sM S.N S.TS (k',u)) :
 FO P w C (upd H ch (.dT (putK S.CH k' u))) y dy nm sp nd kn ch im ex names { S with CH:=putK S.CH k' u }:=by
 have k:∀{a:Addr}{o:HO},H a=some o->(∀q,o≠.dT q)->(upd H ch (.dT (putK S.CH k' u))) a=some o:=λha ho=>by
  rw [ag (a9 ha h.hc (ho _))]
  exact ha
 have kt:∀a xs,H a=some (.tup xs)->(upd H ch (.dT (putK S.CH k' u))) a=some (.tup xs):=λa xs ha=>k ha (by intro _ z; cases z)
 refine ⟨k h.hy (by intro _ z; cases z),k h.hn (by intro _ z; cases z),k h.hs (by intro _ z; cases z),k h.hd (by intro _ z; cases z),Paired.cb h.ht λ_ _ e=>kt _ _ e,by rw [ag h.d2]; exact h.hk,af,λe' he=>?_,k h.hi (by intro _ z; cases z),λp hp=>⟨(h.ik p hp).1.keep kt,(h.ik p hp).2⟩,k h.he (by intro _ z; cases z),
  λkv cv=>let ⟨i,a,b,c⟩:=h.ek kv cv; ⟨i,a,b,c.keep kt⟩,h.e0,h.fs,h.nn,h.ns,h.n8,h.d1,h.d2,h.d3⟩
 rcases Gu he with he | he
 . exact h.ck e' he
 . subst he
   exact hc
theorem qC:Kp H H nd kn ch im ex:=λ_ _ h _ _ _ _ _=>h
inductive wo (P:Program) (w:World) (C:Addr) (d:Nat) (vs:List V) (H:Hp) (Q:VK):Prop
 | mk (y dy nm sp nd kn ch im ex:Addr) (names:List Str) (S:cY) (n b:Nat) (h1:vs=[.ref y,.int (n:Int)]) (h2:FO P w C H y dy nm sp nd kn ch im ex names S) (h3:n<S.N.length) (h4:(aH S.TS n).dep<d) (h5:Bd S b) (h6:b+oJ (aH S.TS n)<4000000) (h7:∀(v:V) (S':cY) (H':Hp),FO P w C H' y dy nm sp nd kn ch im ex names S'->Kp H H' nd kn ch im ex->S'.N=S.N->S'.TS=S.TS->Bd S' (b+oJ (aH S.TS n))->(∀kv∈S'.EX,kv∈S.EX\/∃i:Nat,kv.1=.inl (i:Int)/\(aH S.TS i).dep<=(aH S.TS n).dep)->fz H' (aH S.TS n) v->Q v H'):wo P w C d vs H Q
def oh (P:Program) (w:World) (C:Addr) (d:Nat):Sp:=λvs H Q _=>wo P w C d vs H Q
abbrev nTa:List Str:=["self", "number", "tree", "node"]
theorem Cs:aY nTa ["self", "number"] (ar jk):=⟨rfl,rfl,rfl,by decide +kernel,rfl,by decide +kernel,by decide +kernel⟩
theorem Ct {f:Addr}{fd:FuncData}{d k:Nat}(F:cq K "tree_at" "Forest.tree_at" jk f fd) (T:jj K mg C) (G:ax P w K mg base aD k f fd ["self", "number"] (oh P w C d)) (mT:Meth K C "tree_at" f) (bT:Binds K fd ["self", "number"] []) :
 ax P w K mg base aD (k+1) f fd ["self", "number"] (oh P w C (d+1)):=by
 refine F.ok Cs (λvs H Q E h=>?_) (λcdv A outer s H vs Q E hr h=>?_)
 . obtain ⟨y,dy,nm,sp,nd,kn,ch,im,ex,names,S,n,b,rfl,_⟩:=h
   rfl
 . obtain ⟨y,dy,nm,sp,nd,kn,ch,im,ex,names,S,n,b,rfl,hO,hn,hd,hB,hb,kk⟩:=h
   have hu:=fu hr
   refine ⟨_,ai (aE (i:=2) Cs.nd rfl (Or.inl rfl) (rQ hu (bg (pv 0) rfl) (pv 1) ⟨rfl,rfl,rfl,rfl⟩))
    (ai (cS (jx (w4 (pv 2)))
     (ai (aE (i:=3) Cs.nd rfl (Or.inl rfl) (aP (r:=iA K) br (bg (pv 0) rfl) (pv 1) (λ_ _=>rfl)))
     (ai (aE (i:=2) Cs.nd rfl (Or.inl rfl) (dJ (aa (aP (r:=iA K) br (bg (pv 0) rfl) (aP (r:=dv K) cI (pv 3) aq (λ_ _=>rfl)) (λ_ _=>rfl))
      (aa (bX (pv 0) T.cl mT G hr bT .nil aA (aa (aP (r:=dv K) cI (pv 3) aq (λ_ _=>rfl)) ah))
      (aa (bX (pv 0) T.cl mT G hr bT .nil aA (aa (aP (r:=dv K) cI (pv 3) aq (λ_ _=>rfl)) ah)) ah)))))
     (aw (eX hu (bg (pv 0) rfl) (pv 1) (pv 2) rfl)))) bz)
    (aw (aW (pv 2)))),?_⟩
   refine ⟨_,rfl,y,C,dy,_,_,rfl,hO.hy,T.cl,T.n7,Mz ..,ex,rfl,.inl ⟨_,.inl hO.he⟩,_,rfl,_,b0.k (k:=.inl (n:Int)) hO.he,?_⟩
   cases hv:aZ S.EX (.inl (n:Int)) with
   | some v=>
    obtain ⟨i,e1,i1,i2⟩:=hO.ek _ (jK hv)
    have ei:i=n:=by have:=Sum.inl.inj e1; omega
    subst ei
    have R7:v≠.aQ:=λz=>by
     have i3:fz H (aH S.TS i) v:=i2
     rw [z] at i3
     cases ht:aH S.TS i with
     | leaf c=>rw [ht] at i3; cases (show V.aQ=.bl c from i3)
     | node a l r=>rw [ht] at i3; obtain ⟨_,_,_,z,_⟩:=i3; cases z
    refine ⟨_,rfl,_,rfl,hU (decide_eq_false R7) ⟨_,rfl,?_⟩⟩
    exact kk v S H hO qC rfl rfl (hB.up (Nat.le_add_right ..)) (λkv h=>.inl h) i2
   | none=>
    have n2:2<=n:=Nat.le_of_not_lt λq=>by
     rcases (show n=0\/n=1 by omega) with rfl | rfl
     . rw [show ((0:Nat):Int)=0 from rfl,hO.e0.1] at hv
       cases hv
     . rw [show ((1:Nat):Int)=1 from rfl,hO.e0.2] at hv
       cases hv
    obtain ⟨a1,a2,a3,a4,a5,a6,a7⟩:=hO.fs.nd n n2 hn
    have VF:low S.N n<S.N.length:=by omega
    have VG:i6 S.N n<S.N.length:=by omega
    have hsz:oJ (aH S.TS n)=oJ (aH S.TS (low S.N n))+oJ (aH S.TS (i6 S.N n))+2:=by rw [a7]; rfl
    have VH:(aH S.TS n).dep=max (aH S.TS (low S.N n)).dep (aH S.TS (i6 S.N n)).dep+1:=by rw [a7]; rfl
    obtain ⟨t,h1,h2⟩:=hO.node hn
    refine ⟨_,rfl,_,rfl,gq rfl ?_⟩
    refine ⟨_,rfl,y,C,dy,_,_,rfl,hO.hy,T.cl,T.n3,sI ..,_,rfl,nd,_,_,.ref t,rfl,rfl,av.of hO.hd,a0 (by rw [List.getElem?_map,h1]; rfl),?_⟩
    refine ⟨_,rfl,y,C,dy,_,_,rfl,hO.hy,T.cl,T.n1,VC ..,_,rfl,t,_,0,_,rfl,rfl,aR.of h2,a0 (j:=0) rfl,nm,_,_,.str (names.getD (aJ S.N n) ""),rfl,rfl,av.of hO.hn,a0 (by rw [List.getElem?_map]; exact (show names[aJ S.N n]?.map V.str=some (.str (names.getD (aJ S.N n) "")) by rw [List.getD_eq_getElem?_getD,List.getElem?_eq_getElem a1]; rfl)),?_⟩
    refine ⟨_,rfl,y,dy,_,rfl,hO.hy,sL _ _ _ _ _ _ _ (by decide +kernel) (by decide +kernel) (by decide +kernel) (by decide +kernel) (by decide +kernel) (by decide +kernel) (by decide +kernel),?_⟩
    refine ⟨_,rfl,t,_,1,_,rfl,rfl,aR.of h2,a0 (j:=1) rfl,?_⟩
    refine ⟨y,dy,nm,sp,nd,kn,ch,im,ex,names,S,low S.N n,b,rfl,hO,VF,by omega,hB,by omega,λv1 S1 H1 bh k1 g1 t1 B1 x1 r1=>?_⟩
    have h21:=hO.ir k1 _ _ h2
    refine ⟨_,rfl,y,dy,_,rfl,bh.hy,sL _ _ _ _ _ _ _ (by decide +kernel) (by decide +kernel) (by decide +kernel) (by decide +kernel) (by decide +kernel) (by decide +kernel) (by decide +kernel),?_⟩
    refine ⟨_,rfl,t,_,2,_,rfl,rfl,aR.of h21,a0 (j:=2) rfl,?_⟩
    refine ⟨y,dy,nm,sp,nd,kn,ch,im,ex,names,S1,i6 S.N n,b+oJ (aH S.TS (low S.N n)),rfl,bh,by rw [g1]; exact VG,by rw [t1]; omega,B1,by rw [t1]; omega,λv2 S2 H2 lr k2 g2 t2 B2 x2 r2=>?_⟩
    rw [t1] at t2 B2 x2 r2
    refine ⟨(by show 3<=sizeLine; decide),λq hq=>?_⟩
    have s3:ak H2 (upd H2 q (.tup [.str (names.getD (aJ S.N n) ""),v1,v2])):=ak.au hq
    have q3:(upd H2 q (.tup [.str (names.getD (aJ S.N n) ""),v1,v2])) q=some (.tup [.str (names.getD (aJ S.N n) ""),v1,v2]):=af
    show dU _ _ _ _ (upd H2 q (.tup [.str (names.getD (aJ S.N n) ""),v1,v2]))
    generalize upd H2 q (.tup [.str (names.getD (aJ S.N n) ""),v1,v2])=H3 at s3 q3 ⊢
    have rH:=lr.same s3
    have SJ:∀a xs,H2 a=some (.tup xs)->H3 a=some (.tup xs):=λa xs h=>s3 _ _ h
    have uv:=(k1.trans k2).trans (Kp.of s3)
    have hT:fz H3 (aH S.TS n) (.ref q):=by
     rw [a7]
     exact ⟨q,v1,v2,rfl,q3,(r1.keep (bh.ir k2)).keep SJ,r2.keep SJ⟩
    have jV:aZ S2.EX (.inl (n:Int))=none:=pP λkv cv z=>by
     rcases x2 kv cv with cv | ⟨i,e1,e2⟩
     . rcases x1 kv cv with cv | ⟨i,e1,e2⟩
       . exact va hv kv cv z
       . rw [e1] at z
         have:i=n:=by have:=Sum.inl.inj z; omega
         rw [this] at e2
         omega
     . rw [e1] at z
       have:i=n:=by have:=Sum.inl.inj z; omega
       rw [this] at e2
       omega
    refine ⟨_,rfl,_,rfl,y,C,dy,_,_,rfl,rH.hy,T.cl,T.n7,Mz ..,_,rfl,ex,_,rfl,gu.k (k:=.inl (n:Int)) rH.he (big (by have:=B2.b4; omega)),?_⟩
    rw [kI _ jV]
    have wq:=rH.PB (i:=n) (v:=.ref q) (by rw [t2]; exact hT) (by rw [g2,g1]; exact hn) jV
    refine ⟨_,rfl,kk (.ref q) _ _ wq (uv.trans (Io (.inr (.inr (.inr (.inr rfl)))))) (g2.trans g1) t2 ((B2.pex _).up (by omega)) (λkv cv=>?_) (hT.keep λa xs e=>by rw [ag (a9 e rH.he (by intro z; cases z))]; exact e)⟩
    rcases List.mem_append.mp cv with cv | cv
    . rcases x2 kv cv with cv | ⟨i,e1,e2⟩
      . rcases x1 kv cv with cv | ⟨i,e1,e2⟩
        . exact .inl cv
        . exact .inr ⟨i,e1,by omega⟩
      . exact .inr ⟨i,e1,by omega⟩
    . rw [List.mem_singleton] at cv
      subst cv
      exact .inr ⟨n,rfl,Nat.le_refl _⟩
end
end Gen
namespace Gen
open PySem L2
abbrev jl:Stmt:=inClass (top 6) 5
def cst:Nat->Nat
 | 0=>0
 | d+1=>2*cst d+2
def hf (N:List Nd) (s:Nat) (b:Bool) (n:Nat):Nat:=if aJ N n=s then (if b=true then i6 N n else low N n) else n
section
variable {names:List Str}{N:List Nd}{TS:List Tr}
theorem FS.at2 (h:FS names N TS){n:Nat}(hn:n<N.length) (hs:aJ N n<names.length):2<=n:=Nat.le_of_not_lt λq=>by
 unfold aJ at hs
 rcases (show n=0\/n=1 by omega) with rfl | rfl
 . rw [h.z0] at hs
   exact Nat.lt_irrefl _ hs
 . rw [h.z1] at hs
   exact Nat.lt_irrefl _ hs
theorem FS.Cu (h:FS names N TS){n s:Nat}{b:Bool}(hn:n<N.length) (hs:s<names.length):hf N s b n<N.length:=by
 unfold hf
 split
 . next e=>
   obtain ⟨_,a2,a3,_⟩:=h.nd n (h.at2 hn (by omega)) hn
   split <;> omega
 . exact hn
theorem FS.yA (h:FS names N TS){n s:Nat}{b:Bool}(hn:n<N.length) (hs:s<names.length) (hle:s<=aJ N n):s<aJ N (hf N s b n):=by
 unfold hf
 split
 . next e=>
   obtain ⟨_,_,_,_,a5,a6,_⟩:=h.nd n (h.at2 hn (by omega)) hn
   split <;> omega
 . next e=>omega
theorem FS.Cv (h:FS names N TS){n s:Nat}(hn:n<N.length) (hs:s<names.length) (v:Str->Bool):ev v (aH TS n)=if v (names.getD s "")=true then ev v (aH TS (hf N s true n)) else ev v (aH TS (hf N s false n)):=by
 unfold hf
 by_cases e:aJ N n=s
 . obtain ⟨_,_,_,_,_,_,a7⟩:=h.nd n (h.at2 hn (by omega)) hn
   rw [if_pos e,if_pos e,a7,e]
   rfl
 . rw [if_neg e,if_neg e]
   split <;> rfl
end
inductive wt (P:Program) (w:World) (C:Addr) (d:Nat) (vs:List V) (H:Hp) (Q:VK):Prop
 | mk (y dy nm sp nd kn ch im ex:Addr) (names:List Str) (S:cY) (t h l b:Nat) (h1:vs=[.ref y,.int (t:Int),.int (h:Int),.int (l:Int)]) (h2:FO P w C H y dy nm sp nd kn ch im ex names S) (h3:t<S.N.length) (h4:h<S.N.length) (h5:l<S.N.length) (h6:names.length-min (aJ S.N t) (min (aJ S.N h) (aJ S.N l))<d) (h7:Bd S b) (h8:b+cst d<4000000) (h9:∀(n:Nat) (S':cY) (H':Hp),FO P w C H' y dy nm sp nd kn ch im ex names S'->Kp H H' nd kn ch im ex->dr S S'->Bd S' (b+cst d)->S'.IM=S.IM->S'.EX=S.EX->n<S'.N.length->(∀v,ev v (aH S'.TS n)=if ev v (aH S.TS t)=true then ev v (aH S.TS h) else ev v (aH S.TS l))->min (aJ S.N t) (min (aJ S.N h) (aJ S.N l))<=aJ S'.N n->Q (.int (n:Int)) H'):wt P w C d vs H Q
def lu (P:Program) (w:World) (C:Addr) (d:Nat):Sp:=λvs H Q _=>wt P w C d vs H Q
abbrev nCh:List Str:=["self", "test", "high", "low", "key", "number", "spot", "lows", "highs"]
abbrev pQ:List Str:=["self", "test", "high", "low"]
theorem sN:aY nCh pQ (ar jl):=⟨rfl,rfl,rfl,by decide +kernel,rfl,by decide +kernel,by decide +kernel⟩
section
variable {P:Program}{w:World}{K:W.Frag}{mg:Str->Option Value}{base:Heap}{C:Addr}
theorem EM {f fN fH:Addr}{fd dN dH:FuncData}{d k:Nat}(F:cq K "chosen" "Forest.chosen" jl f fd) (T:jj K mg C) (O2:gh mg) (G:ax P w K mg base aD (k+1) f fd pQ (lu P w C d)) (mC:Meth K C "chosen" f) (bC:Binds K fd pQ [])
 (gN:ax P w K mg base aD 1 fN dN rG (pO P w C)) (mN:Meth K C "node" fN) (bN:Binds K dN rG [])
 (gH:ax P w K mg base aD 1 fH dH ["self", "number", "spot", "side"] (uu P w C)) (mH:Meth K C "half" fH) (bH:Binds K dH ["self", "number", "spot", "side"] []):ax P w K mg base aD (k+1+1) f fd pQ (lu P w C (d+1)):=by
 refine F.ok sN (λvs H Q E h=>?_) (λcdv A outer s H vs Q E hr h=>?_)
 . obtain ⟨y,dy,nm,sp,nd,kn,ch,im,ex,names,S,t,h,l,b,rfl,_⟩:=h
   rfl
 . obtain ⟨y,dy,nm,sp,nd,kn,ch,im,ex,names,S,t,h,l,b,rfl,hO,ht,hh,hl,hd,hB,hb,kk⟩:=h
   have hu:=fu hr
   have cM:=hr.mono (Nat.succ_le_succ (Nat.zero_le k))
   refine ⟨_,ai (cS (PW.pt (pY (cN j5 (pv 1) aq (dh _)) (sV (cN j5 (pv 2) (pv 3) (dh _))))) (aw (aW (pv 2))) bz)
    (ai (cS (cN j5 (pv 1) aq (dh _)) (aw (aW (pv 3))) bz)
    (ai (aE (i:=4) sN.nd rfl (Or.inl rfl) (dJ (aa (pv 1) (aa (pv 2) (aa (pv 3) ah)))))
    (ai (aE (i:=5) sN.nd rfl (Or.inl rfl) (rQ hu (bg (pv 0) rfl) (pv 4) ⟨rfl,rfl,rfl,rfl⟩))
    (ai (cS (jx (w4 (pv 5)))
     (ai (aE (i:=6) sN.nd rfl (Or.inl rfl) (bG (EL rfl) (by rfl) O2.min PyProof.Rows.boot_min (aa (aP (r:=dv K) cI (aP (r:=iA K) br (bg (pv 0) rfl) (pv 1) (λ_ _=>rfl)) aq (λ_ _=>rfl))
      (aa (aP (r:=dv K) cI (aP (r:=iA K) br (bg (pv 0) rfl) (pv 2) (λ_ _=>rfl)) aq (λ_ _=>rfl)) (aa (aP (r:=dv K) cI (aP (r:=iA K) br (bg (pv 0) rfl) (pv 3) (λ_ _=>rfl)) aq (λ_ _=>rfl)) ah)))))
     (ai (aE (i:=7) sN.nd rfl (Or.inl rfl) (bX (pv 0) T.cl mC G hr bC .nil aA (aa (bX (pv 0) T.cl mH gH cM bH .nil aA (aa (pv 1) (aa (pv 6) (aa aq ah))))
      (aa (bX (pv 0) T.cl mH gH cM bH .nil aA (aa (pv 2) (aa (pv 6) (aa aq ah)))) (aa (bX (pv 0) T.cl mH gH cM bH .nil aA (aa (pv 3) (aa (pv 6) (aa aq ah)))) ah)))))
     (ai (aE (i:=8) sN.nd rfl (Or.inl rfl) (bX (pv 0) T.cl mC G hr bC .nil aA (aa (bX (pv 0) T.cl mH gH cM bH .nil aA (aa (pv 1) (aa (pv 6) (aa aq ah))))
      (aa (bX (pv 0) T.cl mH gH cM bH .nil aA (aa (pv 2) (aa (pv 6) (aa aq ah)))) (aa (bX (pv 0) T.cl mH gH cM bH .nil aA (aa (pv 3) (aa (pv 6) (aa aq ah)))) ah)))))
     (ai (aE (i:=5) sN.nd rfl (Or.inl rfl) (bX (pv 0) T.cl mN gN cM bN .nil aA (aa (pv 6) (aa (pv 7) (aa (pv 8) ah)))))
     (aw (eX hu (bg (pv 0) rfl) (pv 4) (pv 5) rfl)))))) bz)
    (aw (aW (pv 5))))))),?_⟩
   have adT:cst (d+1)=2*cst d+2:=rfl
   have jQ:∀{H1:Hp}{n:Nat},FO P w C H1 y dy nm sp nd kn ch im ex names S->Kp H H1 nd kn ch im ex->n<S.N.length->(∀v,ev v (aH S.TS n)=if ev v (aH S.TS t)=true then ev v (aH S.TS h) else ev v (aH S.TS l))->min (aJ S.N t) (min (aJ S.N h) (aJ S.N l))<=aJ S.N n->Q (.int (n:Int)) H1:=
    λo1 k1 n1 v1 m1=>kk _ S _ o1 k1 (.refl S) (hB.up (Nat.le_add_right ..)) rfl rfl n1 v1 m1
   refine ⟨_,rfl,rfl,_,rfl,?_⟩
   by_cases e1:t=1
   . refine gq (decide_eq_true (by rw [e1]; rfl)) (gq rfl ⟨_,rfl,jQ hO qC hh (λv=>?_) (by omega)⟩)
     rw [e1,hO.fs.t1]
     exact (if_pos rfl).symm
   refine hU (decide_eq_false λz=>e1 (by have:=V.int.inj z; omega)) ⟨_,rfl,_,rfl,rfl,_,rfl,?_⟩
   by_cases e2:h=l
   . refine gq (decide_eq_true (by rw [e2])) ⟨_,rfl,jQ hO qC hh (λv=>?_) (by omega)⟩
     rw [e2]
     split <;> rfl
   refine hU (decide_eq_false λz=>e2 (by have:=V.int.inj z; omega)) ⟨_,rfl,rfl,_,rfl,?_⟩
   by_cases e3:t=0
   . refine gq (decide_eq_true (by rw [e3]; rfl)) ⟨_,rfl,jQ hO qC hl (λv=>?_) (by omega)⟩
     rw [e3,hO.fs.t0]
     exact (if_neg (λz=>by cases z)).symm
   refine hU (decide_eq_false λz=>e3 (by have:=V.int.inj z; omega)) ?_
   refine ⟨_,rfl,_,rfl,_,rfl,(by show 3<=sizeLine; decide),λq hq=>?_⟩
   have q1:(upd H q (.tup (hW (t,h,l)))) q=some (.tup (hW (t,h,l))):=af
   have s1:ak H (upd H q (.tup (hW (t,h,l)))):=ak.au hq
   show dU _ _ _ _ (upd H q (.tup (hW (t,h,l))))
   generalize upd H q (.tup (hW (t,h,l)))=H1 at q1 s1 ⊢
   have bh:=hO.same s1
   have kG:H1 q=some (.tup ((i0 (t,h,l)).map kV)):=q1
   refine ⟨_,rfl,y,C,dy,_,_,rfl,bh.hy,T.cl,T.n5,My ..,ch,rfl,.inr ⟨_,.inl bh.hc⟩,_,rfl,_,b0.t (k:=i0 (t,h,l)) bh.hc kG,?_⟩
   cases hv:aZ S.CH (i0 (t,h,l)) with
   | some u=>
    obtain ⟨t',h',l',n,ek,en,_,_,_,l4,Ip,hmn⟩:=bh.ck _ (jK hv)
    have ek':=u9 (p:=(t,h,l)) (q:=(t',h',l')) ek
    cases ek'
    cases (show u=.int (n:Int) from en)
    exact ⟨_,rfl,_,rfl,hU rfl ⟨_,rfl,jQ bh (.of s1) l4 Ip hmn⟩⟩
   | none=>
    have tl:aJ S.N t<names.length:=(hO.fs.nd t (by omega) ht).1
    refine ⟨_,rfl,_,rfl,gq rfl ?_⟩
    obtain ⟨r1,x1,x1'⟩:=bh.node ht
    obtain ⟨r2,x2,x2'⟩:=bh.node hh
    obtain ⟨r3,x3,x3'⟩:=bh.node hl
    obtain ⟨s0,hs0⟩:∃s0,s0=min (aJ S.N t) (min (aJ S.N h) (aJ S.N l)):=⟨_,rfl⟩
    have mU:s0<names.length:=by omega
    refine ⟨_,rfl,y,C,dy,_,_,rfl,bh.hy,T.cl,T.n3,sI ..,_,rfl,nd,_,_,.ref r1,rfl,rfl,av.of bh.hd,a0 (by rw [List.getElem?_map,x1]; rfl),r1,_,0,.int (aJ S.N t:Int),rfl,rfl,aR.of x1',a0 (j:=0) rfl,?_⟩
    refine ⟨_,rfl,y,C,dy,_,_,rfl,bh.hy,T.cl,T.n3,sI ..,_,rfl,nd,_,_,.ref r2,rfl,rfl,av.of bh.hd,a0 (by rw [List.getElem?_map,x2]; rfl),r2,_,0,.int (aJ S.N h:Int),rfl,rfl,aR.of x2',a0 (j:=0) rfl,?_⟩
    refine ⟨_,rfl,y,C,dy,_,_,rfl,bh.hy,T.cl,T.n3,sI ..,_,rfl,nd,_,_,.ref r3,rfl,rfl,av.of bh.hd,a0 (by rw [List.getElem?_map,x3]; rfl),r3,_,0,.int (aJ S.N l:Int),rfl,rfl,aR.of x3',a0 (j:=0) rfl,?_⟩
    refine ⟨_,_,_,rfl,?_⟩
    rw [show min ((aJ S.N t:Nat):Int) (min ((aJ S.N h:Nat):Int) ((aJ S.N l:Nat):Int))=((s0:Nat):Int) by omega]
    have MA:∀m∈["half", "chosen", "node"],(dq nm sp nd kn ch im ex).lookup (m:Str)=none:=λm hm=>by
     simp only [List.mem_cons,List.not_mem_nil,or_false] at hm
     rcases hm with rfl | rfl | rfl <;> exact sL _ _ _ _ _ _ _ (by decide +kernel) (by decide +kernel) (by decide +kernel) (by decide +kernel) (by decide +kernel) (by decide +kernel) (by decide +kernel)
    have nH:=MA "half" (by decide)
    have nC:=MA "chosen" (by decide)
    have nN:=MA "node" (by decide)
    have lt:=λb=>hO.fs.Cu (b:=b) ht mU
    have lh:=λb=>hO.fs.Cu (b:=b) hh mU
    have ll:=λb=>hO.fs.Cu (b:=b) hl mU
    have pt:=λb=>hO.fs.yA (b:=b) ht mU (by omega)
    have ph:=λb=>hO.fs.yA (b:=b) hh mU (by omega)
    have pl:=λb=>hO.fs.yA (b:=b) hl mU (by omega)
    refine ⟨_,rfl,y,dy,_,rfl,bh.hy,nC,?_⟩
    refine ⟨_,rfl,y,dy,_,rfl,bh.hy,nH,_,rfl,_,rfl,y,dy,nm,sp,nd,kn,ch,im,ex,names,S,t,s0,false,rfl,bh,ht,?_⟩
    refine ⟨_,rfl,y,dy,_,rfl,bh.hy,nH,_,rfl,_,rfl,y,dy,nm,sp,nd,kn,ch,im,ex,names,S,h,s0,false,rfl,bh,hh,?_⟩
    refine ⟨_,rfl,y,dy,_,rfl,bh.hy,nH,_,rfl,_,rfl,y,dy,nm,sp,nd,kn,ch,im,ex,names,S,l,s0,false,rfl,bh,hl,?_⟩
    have m1:=pt false
    have m2:=ph false
    have m3:=pl false
    refine ⟨y,dy,nm,sp,nd,kn,ch,im,ex,names,S,hf S.N s0 false t,hf S.N s0 false h,hf S.N s0 false l,b,rfl,bh,lt false,lh false,ll false,by omega,hB,by omega,λn2 S2 H2 lr k2 g2 B2 i2 x2 l2 v2 p2=>?_⟩
    have gl2:=g2.le
    have AX:∀{i:Nat},i<S.N.length->aJ S2.N i=aJ S.N i:=λhi=>g2.aJ hi
    have MB:∀{i:Nat},i<S.N.length->aH S2.TS i=aH S.TS i:=λhi=>g2.aH (by rw [← hO.fs.len]; exact hi)
    have yB:∀{i:Nat},i<S.N.length->∀b,hf S2.N s0 b i=hf S.N s0 b i:=λhi b=>by unfold hf aJ low i6; rw [g2.nd hi]
    refine ⟨_,rfl,y,dy,_,rfl,lr.hy,nC,?_⟩
    refine ⟨_,rfl,y,dy,_,rfl,lr.hy,nH,_,rfl,_,rfl,y,dy,nm,sp,nd,kn,ch,im,ex,names,S2,t,s0,true,rfl,lr,by omega,?_⟩
    refine ⟨_,rfl,y,dy,_,rfl,lr.hy,nH,_,rfl,_,rfl,y,dy,nm,sp,nd,kn,ch,im,ex,names,S2,h,s0,true,rfl,lr,by omega,?_⟩
    refine ⟨_,rfl,y,dy,_,rfl,lr.hy,nH,_,rfl,_,rfl,y,dy,nm,sp,nd,kn,ch,im,ex,names,S2,l,s0,true,rfl,lr,by omega,?_⟩
    have m4:=pt true
    have m5:=ph true
    have m6:=pl true
    have lt':=lt true
    have MC:=lh true
    have MD:=ll true
    have e4:=yB ht true
    have e5:=yB hh true
    have e6:=yB hl true
    refine ⟨y,dy,nm,sp,nd,kn,ch,im,ex,names,S2,hf S2.N s0 true t,hf S2.N s0 true h,hf S2.N s0 true l,b+cst d,rfl,lr,by omega,by omega,by omega,?_,B2,by omega,λn3 S3 H3 rH k3 g3 B3 i3 x3 l3 v3 p3=>?_⟩
    . rw [e4,e5,e6,AX lt',AX MC,AX MD]
      omega
    rw [e4,e5,e6,AX lt',AX MC,AX MD] at p3
    rw [e4,e5,e6,MB lt',MB MC,MB MD] at v3
    have l2':n2<S3.N.length:=Nat.lt_of_lt_of_le l2 g3.le
    have sp3:aJ S3.N n2=aJ S2.N n2:=g3.aJ l2
    have tr3:aH S3.TS n2=aH S2.TS n2:=g3.aH (by rw [← lr.fs.len]; exact l2)
    refine ⟨_,rfl,y,dy,_,rfl,rH.hy,nN,_,rfl,_,rfl,_,rfl,y,dy,nm,sp,nd,kn,ch,im,ex,names,S3,s0,n2,n3,b+cst d+cst d,rfl,rH,mU,l2',l3,by omega,by omega,B3,by omega,λn4 S4 H4 wq k4 g4 B4 c4 i4 x4 l4 s4 t4=>?_⟩
    have Sm:=(((Kp.of s1).trans k2).trans k3).trans k4
    have uw:=(g2.trans g3).trans g4
    have Ip:∀v,ev v (aH S4.TS n4)=if ev v (aH S.TS t)=true then ev v (aH S.TS h) else ev v (aH S.TS l):=λv=>by
     have e7:ev v (aH S4.TS n4)=if v (names.getD s0 "")=true then ev v (aH S3.TS n3) else ev v (aH S3.TS n2):=by
      rw [t4]
      by_cases z:n2=n3
      . rw [if_pos z,z]
        split <;> rfl
      . rw [if_neg z]
        rfl
     rw [e7,tr3,v2 v,v3 v,hO.fs.Cv ht mU v,hO.fs.Cv hh mU v,hO.fs.Cv hl mU v]
     cases v (names.getD s0 "") <;> rfl
    have gl4:=uw.le
    have hq4:H4 q=some (.tup ((i0 (t,h,l)).map kV)):=bh.ir ((k2.trans k3).trans k4) _ _ kG
    have hck:sM S4.N S4.TS (i0 (t,h,l),.int (n4:Int)):=by
     refine ⟨t,h,l,n4,rfl,rfl,by omega,by omega,by omega,l4,λv=>?_,?_⟩
     . rw [Ip v,uw.aH (by rw [← hO.fs.len]; exact ht),uw.aH (by rw [← hO.fs.len]; exact hh),uw.aH (by rw [← hO.fs.len]; exact hl)]
     . rw [uw.aJ ht,uw.aJ hh,uw.aJ hl]
       omega
    refine ⟨_,rfl,_,rfl,y,C,dy,_,_,rfl,wq.hy,T.cl,T.n5,My ..,_,rfl,ch,_,rfl,gu.t (k:=i0 (t,h,l)) wq.hc hq4 (big (by have:=B4.b2; omega)),?_⟩
    have jL:=wq.PF hck
    exact ⟨_,rfl,kk n4 _ _ jL (Sm.trans (Io (.inr (.inr (.inl rfl))))) ⟨uw.gn,uw.gt⟩ ((B4.pch _ _).up (by omega)) (i4.trans (i3.trans i2)) (x4.trans (x3.trans x2)) l4 Ip (by rw [← hs0]; exact s4)⟩
end
end Gen
namespace Gen
open PySem L2
abbrev ng:Stmt:=inClass (top 6) 0
theorem i7:∀(kvs acc:List (Key×V)),((acc++kvs).map (·.1)).Nodup->bw acc kvs=acc++kvs
 | [],acc,_=>(List.append_nil acc).symm
 | (k,v)::r,acc,h=>by
  have hn:aZ acc k=none:=pP λkv cv z=>by
   rw [List.map_append,List.map_cons,List.nodup_append] at h
   exact h.2.2 _ (List.mem_map.mpr ⟨kv,cv,z⟩) _ List.mem_cons_self rfl
  show bw (putK acc k v) r=acc++(k,v)::r
  rw [kI v hn,i7 r (acc++[(k,v)]) (by rw [List.append_assoc]; exact h),List.append_assoc]
  rfl
theorem yC:∀(names:List Str) (i:Nat),(ij i names).map (·.1)=names.map Sum.inr
 | [],_=>rfl
 | n::r,i=>by rw [ij,List.map_cons,List.map_cons,yC r]
theorem AY:∀(names:List Str) (i:Nat),(ij i names).length=names.length
 | [],_=>rfl
 | n::r,i=>by rw [ij,List.length_cons,List.length_cons,AY r]
theorem AZ:∀(a b:List Str) (i:Nat),ij i (a++b)=ij i a++ij (i+a.length) b
 | [],b,i=>rfl
 | p::r,b,i=>by rw [List.cons_append,ij,ij,AZ r b (i+1),List.cons_append,List.length_cons,show i+1+r.length=i+(r.length+1) by omega]
theorem EN {names:List Str}(h:names.Nodup):bw [] (ij 0 names)=ij 0 names:=i7 _ [] (by
 rw [List.nil_append,yC]
 exact List.pairwise_map.mpr (List.Pairwise.imp (λh z=>h (Sum.inr.inj z)) h))
def EO (n:Nat) (t0 t1:Addr):cY:=⟨[(n,0,0),(n,1,1)],[.leaf false,.leaf true],[t0,t1],[],[],[(.inl 0,.bl false),(.inl 1,.bl true)]⟩
theorem fs0 (names:List Str) (t0 t1:Addr):FS names (EO names.length t0 t1).N (EO names.length t0 t1).TS:=
 ⟨rfl,Nat.le_refl _,rfl,rfl,rfl,rfl,λi h2 hi=>absurd (show i<2 from hi) (by omega),λi j h2 _ hi=>absurd (show i<2 from hi) (by omega)⟩
inductive yD (P:Program) (w:World) (C:Addr) (vs:List V) (H:Hp) (Q:VK):Prop
 | mk (p dy o:Addr) (names:List Str) (h1:vs=[.ref p,.ref o]) (h2:H p=some (.ins C dy [])) (h3:H o=some (.lst (names.map V.str))) (h4:names.Nodup) (h5:(∀n∈names,PyData.strOk n=true)) (h6:names.length<=8) (h7:∀(nm sp nd kn ch im ex t0 t1:Addr) (H':Hp),FO P w C H' p dy nm sp nd kn ch im ex names (EO names.length t0 t1)->aO H H' p->(∀g∈[nd,kn,ch,im,ex],H g=none)->H sp=none->Q .aQ H'):yD P w C vs H Q
def vb (P:Program) (w:World) (C:Addr):Sp:=λvs H Q _=>yD P w C vs H Q
theorem ME:(["spot", "name"]:List Str).Nodup:=by decide +kernel
section
variable {P:Program}{w:World}{K:W.Frag}{mg:Str->Option Value}{base:Heap}{C:Addr}
theorem VI:aY ["self", "order"] ["self", "order"] (ar ng):=⟨rfl,rfl,rfl,by decide +kernel,rfl,by decide +kernel,by decide +kernel⟩
theorem Gv {f:Addr}{fd:FuncData}(F:cq K "__init__" "Forest.__init__" ng f fd) (T:jj K mg C) (O2:gh mg) (O:Own mg):ax P w K mg base aD 1 f fd ["self", "order"] (vb P w C):=by
 refine F.ok VI (λvs H Q E h=>?_) (λcdv A outer s H vs Q E hr h=>?_)
 . obtain ⟨p,dy,o,names,rfl,_⟩:=h
   rfl
 . obtain ⟨p,dy,o,names,rfl,hp,ho,nn,ns,n8,kk⟩:=h
   refine ⟨_,ai (cO (pv 0) (bt gv (by rfl) O2.list PyProof.Rows.boot_list (aa (pv 1) ah)) rfl)
    (ai (cO (pv 0) (bt (du rfl) (by rfl) O2.dict PyProof.Rows.boot_dict (aa (eT (N:=["spot", "name"]) (js:=[none,none]) (g:=Fx K 2 (sZ (eS 0) (sZ (eS 1) Fw))) (by kernel_rfl) rfl (Al rfl O.enum (aa (pv 1) ah))
     (λ_ _ _ _ _ _=>jz rfl (bY (aF (i:=0) ME rfl (Or.inl rfl) (.inr rfl)) (bY (aF (i:=1) ME rfl (Or.inl rfl) (.inr rfl)) iD))) (λ_ _ _ _ _ _=>cm)
     (λ_ _ _ _ _ _=>dJ (aa (pv 1) (aa (pv 0) ah)))) ah)) rfl)
    (ai (cO (pv 0) (cP (aa (dJ (aa (bG cw (by rfl) O2.len PySem.boot_len (aa (bg (pv 0) rfl) ah)) (aa aq (aa aq ah))))
     (aa (dJ (aa (bG cw (by rfl) O2.len PySem.boot_len (aa (bg (pv 0) rfl) ah)) (aa aq (aa aq ah)))) ah))) rfl)
    (ai (cO (pv 0) xo rfl)
    (ai (cO (pv 0) xo rfl)
    (ai (cO (pv 0) Gr rfl)
    (aw (cO (pv 0) (mq (ef aq j3 (ef aq j3 mn)) rfl rfl (by simp) (by decide)) rfl))))))),?_⟩
   have np:∀{b:Addr}{u:HO},H b=some u->(∀C dx fs,u≠.ins C dx fs)->b≠p:=λhb hu z=>by
    rw [z,hp] at hb
    exact hu _ _ _ (Option.some.inj hb).symm
   have nop:o≠p:=np ho (λ_ _ _ z=>by cases z)
   refine ⟨_,rfl,o,_,rfl,.inl (av.of ho),λnm e1=>?_⟩
   obtain ⟨p1,q1,r1,k1⟩:=bE (o:=.lst (names.map V.str)) (fs':=ao "names" (.ref nm) []) hp e1
   have b1:nm≠p:=(ae hp e1).symm
   refine ⟨_,rfl,p,C,dy,_,rfl,r1,T.cl,T.n1,(by show 0<1000; decide),?_⟩
   show dU _ _ _ _ (upd (upd H nm (.lst (names.map V.str))) p (.ins C dy (ao "names" (.ref nm) [])))
   generalize upd (upd H nm (.lst (names.map V.str))) p (.ins C dy (ao "names" (.ref nm) []))=H1 at p1 q1 k1 ⊢
   have jZ:=k1 _ _ ho nop
   refine ⟨_,rfl,o,rfl,⟨_,av.of jZ⟩,λR hR=>?_⟩
   refine gZ names.length (λi acc σ H9=>(∃vs:List Addr,acc=vs.map V.ref/\Paired (λt (kv:Key×V)=>H9 t=some (.tup [kV kv.1,kv.2])) vs (ij 0 (names.take i)))/\(∃u v,σ=[u,v])/\ak H1 H9) ⟨⟨[],rfl,.nil⟩,⟨none,none,rfl⟩,ak.au hR⟩ af ?_ ?_
   . rintro acc σ H2 MH ⟨⟨vs,rfl,ER⟩,_,s2⟩
     rw [List.take_length] at ER
     refine ⟨⟨_,av.of (s2 _ _ jZ),by rw [List.length_map]; exact Nat.le_refl _⟩,R,vs,_,rfl,MH,ER,λsp ou=>?_⟩
     rw [EN nn]
     obtain ⟨p3,q3,r3,k3⟩:=bE (o:=.dK (ij 0 names)) (fs':=ao "spots" (.ref sp) (ao "names" (.ref nm) [])) (s2 _ _ p1) ou
     have b3:sp≠p:=(ae (s2 _ _ p1) ou).symm
     have k13:∀b u,H1 b=some u->b≠p->(upd (upd H2 sp (.dK (ij 0 names))) p (.ins C dy (ao "spots" (.ref sp) (ao "names" (.ref nm) [])))) b=some u:=λb u hb nb=>k3 _ _ (s2 _ _ hb) nb
     refine ⟨_,rfl,p,C,dy,_,rfl,r3,T.cl,T.n2,iV (ay (Nat.le_refl _)) (by show 1<1000; decide),?_⟩
     show dU _ _ _ _ (upd (upd H2 sp (.dK (ij 0 names))) p (.ins C dy (ao "spots" (.ref sp) (ao "names" (.ref nm) []))))
     generalize upd (upd H2 sp (.dK (ij 0 names))) p (.ins C dy (ao "spots" (.ref sp) (ao "names" (.ref nm) [])))=H3 at p3 q3 k13 ⊢
     have uv:aO H H3 p:=λb u hb nb=>k13 _ _ (k1 _ _ hb nb) nb
     have Iq:=k13 _ _ q1 b1
     have SK:∀{f:Str}{v:V}{r:List (Str×V)},f ≠ "names" -> (ao f v r).lookup ("names" : Str)=r.lookup ("names" : Str):=λh=>by rw [aj,if_neg (Ne.symm h)]
     refine ⟨_,rfl,p,C,dy,_,_,rfl,p3,T.cl,T.n1,(by rw [SK (by decide +kernel),aj,if_pos rfl]),nm,_,rfl,.inl (av.of Iq),?_⟩
     rw [List.length_map]
     refine ⟨(by show 3<=sizeLine; decide),λt0 D5=>?_⟩
     have s4:ak H3 (upd H3 t0 (.tup (hW (names.length,0,0)))):=ak.au D5
     have q4:(upd H3 t0 (.tup (hW (names.length,0,0)))) t0=some (.tup (hW (names.length,0,0))):=af
     show j6 _ _ _ (upd H3 t0 (.tup (hW (names.length,0,0)))) _
     generalize upd H3 t0 (.tup (hW (names.length,0,0)))=H4 at s4 q4 ⊢
     refine ⟨_,rfl,p,C,dy,_,_,rfl,s4 _ _ p3,T.cl,T.n1,(by rw [SK (by decide +kernel),aj,if_pos rfl]),nm,_,rfl,.inl (av.of (s4 _ _ Iq)),?_⟩
     rw [List.length_map]
     refine ⟨(by show 3<=sizeLine; decide),λt1 ht1=>?_⟩
     have s5:ak H4 (upd H4 t1 (.tup (hW (names.length,1,1)))):=ak.au ht1
     have q5:(upd H4 t1 (.tup (hW (names.length,1,1)))) t1=some (.tup (hW (names.length,1,1))):=af
     show xj _ (upd H4 t1 (.tup (hW (names.length,1,1)))) _
     generalize upd H4 t1 (.tup (hW (names.length,1,1)))=H5 at s5 q5 ⊢
     refine ⟨(by show 2<=sizeLine; decide),λnd e6=>?_⟩
     have jM:=s4.trans s5
     obtain ⟨p6,q6,r6,k6⟩:=bE (o:=.lst [.ref t0,.ref t1]) (fs':=ao "nodes" (.ref nd) (ao "spots" (.ref sp) (ao "names" (.ref nm) []))) (jM _ _ p3) e6
     have b6:nd≠p:=(ae (jM _ _ p3) e6).symm
     have d1:nd≠nm:=(ae (jM _ _ Iq) e6).symm
     refine ⟨_,rfl,p,C,dy,_,rfl,r6,T.cl,T.n3,iV (ay (ay (Nat.le_refl _))) (by show 2<1000; decide),?_⟩
     show dU _ _ _ _ (upd (upd H5 nd (.lst [.ref t0,.ref t1])) p (.ins C dy (ao "nodes" (.ref nd) (ao "spots" (.ref sp) (ao "names" (.ref nm) [])))))
     have f6:H nd=none:=cg (λb u hb nb=>jM _ _ (uv _ _ hb nb)) e6 b6
     have ES:∀b u,H3 b=some u->b≠p->(upd (upd H5 nd (.lst [.ref t0,.ref t1])) p (.ins C dy (ao "nodes" (.ref nd) (ao "spots" (.ref sp) (ao "names" (.ref nm) []))))) b=some u:=λb u hb nb=>k6 _ _ (jM _ _ hb) nb
     have tp:∀{b:Addr}{xs:List V},H5 b=some (.tup xs)->b≠p:=λhb=>a9 hb (jM _ _ p3) (by intro z; cases z)
     have SM:=k6 _ _ (s5 _ _ q4) (tp (s5 _ _ q4))
     have SN:=k6 _ _ q5 (tp q5)
     have n0:t0≠p:=tp (s5 _ _ q4)
     have n1:t1≠p:=tp q5
     generalize upd (upd H5 nd (.lst [.ref t0,.ref t1])) p (.ins C dy (ao "nodes" (.ref nd) (ao "spots" (.ref sp) (ao "names" (.ref nm) []))))=H6 at p6 q6 ES SM SN ⊢
     have SO:aO H H6 p:=λb u hb nb=>ES _ _ (uv _ _ hb nb) nb
     intro kn e7
     obtain ⟨p7,q7,r7,k7⟩:=bE (o:=.dT []) (fs':=ao "known" (.ref kn) (ao "nodes" (.ref nd) (ao "spots" (.ref sp) (ao "names" (.ref nm) [])))) p6 e7
     have b7:kn≠p:=(ae p6 e7).symm
     refine ⟨_,rfl,p,C,dy,_,rfl,r7,T.cl,T.n4,iV (ay (ay (ay (Nat.le_refl _)))) (by show 3<1000; decide),?_⟩
     show dU _ _ _ _ (upd (upd H6 kn (.dT [])) p (.ins C dy (ao "known" (.ref kn) (ao "nodes" (.ref nd) (ao "spots" (.ref sp) (ao "names" (.ref nm) []))))))
     have f7:H kn=none:=cg SO e7 b7
     generalize upd (upd H6 kn (.dT [])) p (.ins C dy (ao "known" (.ref kn) (ao "nodes" (.ref nd) (ao "spots" (.ref sp) (ao "names" (.ref nm) [])))))=H7 at p7 q7 k7 ⊢
     have SQ:aO H H7 p:=λb u hb nb=>k7 _ _ (SO _ _ hb nb) nb
     intro ch e8
     obtain ⟨p8,q8,r8,k8⟩:=bE (o:=.dT []) (fs':=ao "choices" (.ref ch) (ao "known" (.ref kn) (ao "nodes" (.ref nd) (ao "spots" (.ref sp) (ao "names" (.ref nm) []))))) p7 e8
     have b8:ch≠p:=(ae p7 e8).symm
     have d2:kn≠ch:=ae q7 e8
     refine ⟨_,rfl,p,C,dy,_,rfl,r8,T.cl,T.n5,iV (ay (ay (ay (ay (Nat.le_refl _))))) (by show 4<1000; decide),?_⟩
     show dU _ _ _ _ (upd (upd H7 ch (.dT [])) p (.ins C dy (ao "choices" (.ref ch) (ao "known" (.ref kn) (ao "nodes" (.ref nd) (ao "spots" (.ref sp) (ao "names" (.ref nm) [])))))))
     have f8:H ch=none:=cg SQ e8 b8
     generalize upd (upd H7 ch (.dT [])) p (.ins C dy (ao "choices" (.ref ch) (ao "known" (.ref kn) (ao "nodes" (.ref nd) (ao "spots" (.ref sp) (ao "names" (.ref nm) []))))))=H8 at p8 q8 k8 ⊢
     have Ir:aO H H8 p:=λb u hb nb=>k8 _ _ (SQ _ _ hb nb) nb
     intro im e9
     obtain ⟨p9,q9,r9,k9⟩:=bE (o:=pN P w im []) (fs':=ao "imported" (.ref im) (ao "choices" (.ref ch) (ao "known" (.ref kn) (ao "nodes" (.ref nd) (ao "spots" (.ref sp) (ao "names" (.ref nm) [])))))) p8 e9
     have b9:im≠p:=(ae p8 e9).symm
     refine ⟨_,rfl,p,C,dy,_,rfl,r9,T.cl,T.n6,iV (ay (ay (ay (ay (ay (Nat.le_refl _)))))) (by show 5<1000; decide),?_⟩
     show dU _ _ _ _ (upd (upd H8 im (pN P w im [])) p (.ins C dy (ao "imported" (.ref im) (ao "choices" (.ref ch) (ao "known" (.ref kn) (ao "nodes" (.ref nd) (ao "spots" (.ref sp) (ao "names" (.ref nm) []))))))))
     have f9:H im=none:=cg Ir e9 b9
     generalize upd (upd H8 im (pN P w im [])) p (.ins C dy (ao "imported" (.ref im) (ao "choices" (.ref ch) (ao "known" (.ref kn) (ao "nodes" (.ref nd) (ao "spots" (.ref sp) (ao "names" (.ref nm) [])))))))=H9 at p9 q9 k9 ⊢
     have Iu:aO H H9 p:=λb u hb nb=>k9 _ _ (Ir _ _ hb nb) nb
     intro ex eA
     refine ⟨af,[(.inl 0,.bl false),(.inl 1,.bl true)],rfl,(by show 2<=15; decide),?_⟩
     have bA:ex≠p:=(ae p9 eA).symm
     have fA:H ex=none:=cg Iu eA bA
     have hup:∀o':HO,upd (upd H9 ex (.dK [])) ex o'=upd H9 ex o':=λo'=>by
      funext b
      by_cases e:b=ex
      . rw [e,af,af]
      . rw [ag e,ag e,ag e]
     rw [show bw [] [((.inl 0:Key),V.bl false),(.inl 1,.bl true)]=[(.inl 0,.bl false),(.inl 1,.bl true)] from i7 _ [] (by decide),hup]
     obtain ⟨pA,qA,rA,kA⟩:=bE (o:=.dK [(.inl 0,.bl false),(.inl 1,.bl true)]) (fs':=dq nm sp nd kn ch im ex) p9 eA
     refine ⟨_,rfl,p,C,dy,_,rfl,rA,T.cl,T.n7,iV (ay (ay (ay (ay (ay (ay (Nat.le_refl _))))))) (by show 6<1000; decide),?_⟩
     have ET:∀b u,H6 b=some u->b≠p->(upd (upd H9 ex (.dK [(.inl 0,.bl false),(.inl 1,.bl true)])) p (.ins C dy (dq nm sp nd kn ch im ex))) b=some u:=λb u hb nb=>kA _ _ (k9 _ _ (k8 _ _ (k7 _ _ hb nb) nb) nb) nb
     have hs9:=k9 _ _ (k8 _ _ (k7 _ _ (ES _ _ q3 b3) b3) b3) b3
     have f3:H sp=none:=cg (λb u hb nb=>s2 _ _ (k1 _ _ hb nb)) ou b3
     refine kk nm sp nd kn ch im ex t0 t1 _ ⟨pA,ET _ _ (ES _ _ Iq b1) b1,ET _ _ (ES _ _ q3 b3) b3,ET _ _ q6 b6,.cons (ET _ _ SM n0) (.cons (ET _ _ SN n1) .nil),kA _ _ (k9 _ _ (k8 _ _ q7 b7) b7) b7,kA _ _ (k9 _ _ q8 b8) b8,(λ_ h=>nomatch h),kA _ _ q9 b9,(λ_ h=>nomatch h),qA,?_,⟨rfl,rfl⟩,fs0 names t0 t1,nn,ns,n8,d1,d2,ae hs9 eA⟩ (λb u hb nb=>kA _ _ (Iu _ _ hb nb) nb) ?_ f3
     . intro kv cv
       rcases List.mem_cons.mp cv with rfl | cv
       . exact ⟨0,rfl,Nat.zero_lt_two,rfl⟩
       . rw [List.mem_singleton] at cv
         subst cv
         exact ⟨1,rfl,Nat.one_lt_two,rfl⟩
     . intro g hg
       simp only [List.mem_cons,List.not_mem_nil,or_false] at hg
       rcases hg with rfl | rfl | rfl | rfl | rfl <;> assumption
   . rintro i acc σ H9 hi MH ⟨⟨vs,rfl,ER⟩,⟨u,v,rfl⟩,s9⟩
     have tY:names[i]?=some names[i]:=List.getElem?_eq_getElem hi
     have ei:(names.map V.str)[i]?=some (.str names[i]):=by rw [List.getElem?_map,tY]; rfl
     refine ⟨⟨_,_,av.of (s9 _ _ jZ),ei⟩,?_⟩
     rintro x' H' ⟨Tp,xv,rfl,Aj,rfl,iz⟩
     have ex:=iz _ (av.of (s9 _ _ jZ))
     rw [ei] at ex
     cases ex
     have sT:ak H9 (upd H9 Tp (.tup [.int (i:Int),.str names[i]])):=ak.au Aj
     have qT:(upd H9 Tp (.tup [.int (i:Int),.str names[i]])) Tp=some (.tup [.int (i:Int),.str names[i]]):=af
     refine ⟨Tp,_,rfl,aR.of qT,rfl,_,_,rfl,_,_,rfl,rfl,?_⟩
     show kY _ (upd H9 Tp (.tup [.int (i:Int),.str names[i]])) _
     generalize upd H9 Tp (.tup [.int (i:Int),.str names[i]])=HT at sT qT ⊢
     refine Ec ?_
     refine ⟨_,rfl,_,rfl,(by show 2<=sizeLine; decide),λt2 MJ=>?_⟩
     have MK:=sT _ _ MH
     have nR:R≠t2:=ae MK MJ
     have hvl:=ER.length
     rw [AY,List.length_take] at hvl
     refine ⟨_,(ag nR).trans MK,(by rw [List.length_map]; exact small (by omega)),cX hi af ⟨⟨vs++[t2],by rw [List.map_append]; rfl,?_⟩,⟨_,_,rfl⟩,λb o' hb=>?_⟩⟩
     . rw [List.take_succ,tY,Option.toList_some,AZ,List.length_take,Nat.min_eq_left (Nat.le_of_lt hi)]
       refine cL (Paired.cb ER λt kv e=>?_) (.cons ?_ .nil)
       . have e':=sT _ _ e
         rw [ag (a9 e' MK (by intro z; cases z)),ag (ae e' MJ)]
         exact e'
       . rw [ag (Ne.symm nR),af]
         show some (HO.tup [V.str names[i],V.int (i:Int)])=some (HO.tup [V.str names[i],V.int ((0+i:Nat):Int)])
         rw [Nat.zero_add]
     . rw [ag (ae hb hR),ag (ae (sT _ _ (s9 _ _ hb)) MJ)]
       exact sT _ _ (s9 _ _ hb)
end
end Gen
namespace Gen
open PySem L2
theorem yE:∀t:Tr,oJ t+2<=2*2 ^ t.dep
 | .leaf _=>Nat.le_refl _
 | .node _ l r=>by
  have h1:=yE l
  have h2:=yE r
  have e1:2 ^ l.dep<=2 ^ max l.dep r.dep:=Nat.pow_le_pow_right (by decide) (by omega)
  have e2:2 ^ r.dep<=2 ^ max l.dep r.dep:=Nat.pow_le_pow_right (by decide) (by omega)
  show oJ l+oJ r+2+2<=2*2 ^ (max l.dep r.dep+1)
  rw [Nat.pow_succ]
  omega
theorem PH {t:Tr}(h:t.dep<=8):oJ t<=510:=by
 have h1:=yE t
 have h2:2 ^ t.dep<=2 ^ 8:=Nat.pow_le_pow_right (by decide) h
 omega
section
variable (P:Program) (w:World) (K:W.Frag) (mg:Str->Option Value) (base:Heap) (C:Addr)
end
theorem wM {H H':Hp}(s:ak H H'):∀a xs,H a=some (.tup xs)->H' a=some (.tup xs):=λa xs e=>s _ _ e
section
variable {P:Program}{w:World}{K:W.Frag}{mg:Str->Option Value}{base:Heap}{C fI fT fC fA:Addr}{dI dT dC dA:FuncData}
theorem bd0 {n:Nat}{t0 t1:Addr} : Bd (EO n t0 t1) 2:=⟨Nat.le_refl _,Nat.zero_le _,Nat.zero_le _,Nat.le_refl _⟩
theorem Gw {H H1:Hp}{x dx C:Addr}(hx:H x=none) (ML:H dx=none) (k1:aO (upd (upd H dx (.own x)) x (.ins C dx [])) H1 x):ak H H1:=λb o hb=>by
 have n1:=ae hb hx
 have n2:=ae hb ML
 exact k1 b o (by rw [ag n1,ag n2]; exact hb) n1
theorem yF {H:Hp}{x dx C g:Addr}(hx:H x=none) (ML:H dx=none) (hg:(upd (upd H dx (.own x)) x (.ins C dx [])) g=none):H g=none:=by
 cases e:H g with
 | none=>rfl
 | some o=>
  rw [ag (ae e hx),ag (ae e ML),e] at hg
  cases hg
end
end Gen
namespace Gen
open PySem L2
abbrev qD:Stmt:=inClass (top 6) 2
section
variable {P:Program}{w:World}{K:W.Frag}{mg:Str->Option Value}{base:Heap}{C y dy nm sp nd kn ch im ex:Addr}{names:List Str}{S:cY}{H H':Hp}
theorem FO.putD (h:FO P w C H y dy nm sp nd kn ch im ex names S){md:Addr}{M M':List (Key×V)}(hm:H md=some (.dK M)) (n1:md≠sp) (n2:md≠ex):FO P w C (upd H md (.dK M')) y dy nm sp nd kn ch im ex names S:=by
 have k:∀{a:Addr}{o:HO},H a=some o->(∀q,o≠.dK q)->(upd H md (.dK M')) a=some o:=λha ho=>by
  rw [ag (a9 ha hm (ho _))]
  exact ha
 have kt:∀a xs,H a=some (.tup xs)->(upd H md (.dK M')) a=some (.tup xs):=λa xs ha=>k ha (by intro _ z; cases z)
 exact ⟨k h.hy (by intro _ z; cases z),k h.hn (by intro _ z; cases z),by rw [ag (Ne.symm n1)]; exact h.hs,k h.hd (by intro _ z; cases z),Paired.cb h.ht λ_ _ e=>kt _ _ e,k h.hk (by intro _ z; cases z),k h.hc (by intro _ z; cases z),h.ck,k h.hi (by intro _ z; cases z),λp hp=>⟨(h.ik p hp).1.keep kt,(h.ik p hp).2⟩,by rw [ag (Ne.symm n2)]; exact h.he,
  λkv cv=>let ⟨i,a,b,c⟩:=h.ek kv cv; ⟨i,a,b,c.keep kt⟩,h.e0,h.fs,h.nn,h.ns,h.n8,h.d1,h.d2,h.d3⟩
theorem FO.dk (h:FO P w C H y dy nm sp nd kn ch im ex names S){b:Addr}{M:List (Key×V)}(hb:H b=some (.dK M)) (n2:b≠ex) (k:Kp H H' nd kn ch im ex):H' b=some (.dK M):=
 k b _ hb (a9 hb h.hd (by intro z; cases z)) (a9 hb h.hk (by intro z; cases z)) (a9 hb h.hc (by intro z; cases z)) (a9 hb h.hi (by intro z; cases z)) n2
inductive A0 (P:Program) (w:World) (C:Addr) (vs:List V) (H:Hp) (Q:VK):Prop
 | mk (y dy nm sp nd kn ch im ex:Addr) (names:List Str) (S:cY) (n:Str) (j b:Nat) (h1:vs=[.ref y,.str n]) (h2:FO P w C H y dy nm sp nd kn ch im ex names S) (h3:names[j]?=some n) (h4:Bd S b) (h5:b<3000000) (h6:∀(i:Nat) (S':cY) (H':Hp),FO P w C H' y dy nm sp nd kn ch im ex names S'->Kp H H' nd kn ch im ex->dr S S'->Bd S' (b+1)->S'.IM=S.IM->S'.EX=S.EX->i<S'.N.length->aH S'.TS i=.node n (.leaf false) (.leaf true)->Q (.int (i:Int)) H'):A0 P w C vs H Q
def EU (P:Program) (w:World) (C:Addr):Sp:=λvs H Q _=>A0 P w C vs H Q
theorem VJ:aY ["self", "name"] ["self", "name"] (ar qD):=⟨rfl,rfl,rfl,by decide +kernel,rfl,by decide +kernel,by decide +kernel⟩
theorem J4 {f fN:Addr}{fd dN:FuncData}(F:cq K "leaf_of" "Forest.leaf_of" qD f fd) (T:jj K mg C)
 (gN:ax P w K mg base aD 1 fN dN rG (pO P w C)) (mN:Meth K C "node" fN) (bN:Binds K dN rG []):ax P w K mg base aD 2 f fd ["self", "name"] (EU P w C):=by
 refine F.ok VJ (λvs H Q E h=>?_) (λcdv A outer s H vs Q E hr h=>?_)
 . obtain ⟨y,dy,nm,sp,nd,kn,ch,im,ex,names,S,n,j,b,rfl,_⟩:=h
   rfl
 . obtain ⟨y,dy,nm,sp,nd,kn,ch,im,ex,names,S,n,j,b,rfl,hO,hj,hB,hb,kk⟩:=h
   have hu:=fu hr
   refine ⟨_,aw (aW (bX (pv 0) T.cl mN gN hr bN .nil aA (aa (cC hu (bg (pv 0) rfl) (pv 1) (λ_ _=>rfl)) (aa aq (aa aq ah))))),?_⟩
   have two:=hO.fs.two
   have hjl:=(List.getElem?_eq_some_iff.mp hj).1
   have z0:aJ S.N 0=names.length:=by unfold aJ; rw [hO.fs.z0]
   have z1:aJ S.N 1=names.length:=by unfold aJ; rw [hO.fs.z1]
   refine ⟨_,rfl,y,dy,_,rfl,hO.hy,sL _ _ _ _ _ _ _ (by decide +kernel) (by decide +kernel) (by decide +kernel) (by decide +kernel) (by decide +kernel) (by decide +kernel) (by decide +kernel),?_⟩
   refine ⟨_,rfl,y,C,dy,_,_,rfl,hO.hy,T.cl,T.n2,VD ..,_,rfl,sp,.int ((0+j:Nat):Int),rfl,?_,?_⟩
   . have:=b0.k (k:=.inr n) hO.hs
     rw [EJ names 0 j n hO.nn hj] at this
     exact this
   refine ⟨y,dy,nm,sp,nd,kn,ch,im,ex,names,S,j,0,1,b,by rw [Nat.zero_add]; rfl,hO,hjl,by omega,by omega,by omega,by omega,hB,by omega,λi S' H' hO' k' g' B' c' m' x' l' s' t'=>?_⟩
   refine kk i S' H' hO' k' g' B' m' x' l' ?_
   rw [t',if_neg (by decide),hO.fs.t0,hO.fs.t1,List.getD_eq_getElem?_getD,hj]
   rfl
end
end Gen
namespace Gen
open PySem L2
abbrev lx:Stmt:=top 25
abbrev ly:Stmt:=top 26
def bV (b:Bool):V:=.int (if b=true then 1 else 0)
def cn:List Str->List Bool->Tr
 | [],bs=>.leaf (bs.headD false)
 | n::r,bs=>if cn r (bs.take (bs.length / 2))=cn r (bs.drop (bs.length / 2)) then cn r (bs.take (bs.length / 2)) else .node n (cn r (bs.take (bs.length / 2))) (cn r (bs.drop (bs.length / 2)))
theorem vc (n:Str) (r:List Str) (bs:List Bool):cn (n::r) bs=if cn r (bs.take (bs.length / 2))=cn r (bs.drop (bs.length / 2)) then cn r (bs.take (bs.length / 2)) else .node n (cn r (bs.take (bs.length / 2))) (cn r (bs.drop (bs.length / 2))):=rfl
theorem pR:∀(names:List Str) (bs:List Bool),fX names (cn names bs)
 | [],bs=>.leaf _ _
 | n::r,bs=>by
  rw [vc]
  by_cases e:cn r (bs.take (bs.length / 2))=cn r (bs.drop (bs.length / 2))
  . rw [if_pos e]
    exact .skip (pR r _)
  . rw [if_neg e]
    exact .node e (pR r _) (pR r _)
theorem PJ (e:Str->Bool) (n:Str) (r:List Str) (bs:List Bool):ev e (cn (n::r) bs)=if e n=true then ev e (cn r (bs.drop (bs.length / 2))) else ev e (cn r (bs.take (bs.length / 2))):=by
 rw [vc]
 by_cases q:cn r (bs.take (bs.length / 2))=cn r (bs.drop (bs.length / 2))
 . rw [if_pos q,q]
   split <;> rfl
 . rw [if_neg q]
   rfl
theorem yG (n:Nat):2 ^ (n+1) / 2=2 ^ n:=by rw [Nat.pow_succ]; omega
inductive yH (d:Nat) (vs:List V) (H:Hp) (Q:VK):Prop
 | mk (u v:V) (t t':Tr) (h1:vs=[u,v]) (h2:fz H t u) (h3:fz H t' v) (h4:t.dep<d) (h5:Q (.bl (decide (t=t'))) H):yH d vs H Q
def jm (d:Nat):Sp:=λvs H Q _=>yH d vs H Q
section
variable {P:Program}{w:World}{K:W.Frag}{mg:Str->Option Value}{base:Heap}
abbrev lz:List Str:=["_law_found", "_law_due"]
theorem VL:aY lz lz (ar ly):=⟨rfl,rfl,rfl,by decide +kernel,rfl,by decide +kernel,by decide +kernel⟩
theorem yI {f:Addr}{fd:FuncData}{d k:Nat}(F:cq K "_law_same_tree" "_law_same_tree" ly f fd) (T:gh mg) (G:ax P w K mg base aD k f fd lz (jm d)) (mS:mg "_law_same_tree" = some (.ref f)) (bS:Binds K fd lz []):ax P w K mg base aD (k+1) f fd lz (jm (d+1)):=by
 refine F.ok VL (λvs H Q E h=>?_) (λcdv A outer s H vs Q E hr h=>?_)
 . obtain ⟨u,v,t,t',rfl,_⟩:=h
   rfl
 . obtain ⟨u,v,t,t',rfl,hu,hv,hd,kk⟩:=h
   refine ⟨_,ai (cS (PW.pt (pY (iR (bG eO (by rfl) T.isi PyProof.Rows.boot_isinstance (aa (pv 1) (aa (jb (v:=.ty "bool") (by rfl) T.bool PyProof.Rows.boot_bool rfl) ah))))
    (sV (iR (bG eO (by rfl) T.isi PyProof.Rows.boot_isinstance (aa (pv 0) (aa (jb (v:=.ty "bool") (by rfl) T.bool PyProof.Rows.boot_bool rfl) ah)))))))
    (aw (aW (oO (bG eO (by rfl) T.isi PyProof.Rows.boot_isinstance (aa (pv 1) (aa (jb (v:=.ty "bool") (by rfl) T.bool PyProof.Rows.boot_bool rfl) ah)))
     (oO (bG eO (by rfl) T.isi PyProof.Rows.boot_isinstance (aa (pv 0) (aa (jb (v:=.ty "bool") (by rfl) T.bool PyProof.Rows.boot_bool rfl) ah))) (w6 (uM j5 (pv 0) (pv 1) (dh _))))))) bz)
    (ai (cS (PW.pt (pY (sW (iR (bG eO (by rfl) T.isi PyProof.Rows.boot_isinstance (aa (pv 0) (aa (jb (v:=.ty "tuple") (by rfl) T.tuple PyProof.Rows.boot_tuple rfl) ah)))))
     (pY (cN Hs (bG cw (by rfl) T.len PySem.boot_len (aa (pv 0) ah)) aq (dh _))
     (pY (sW (iR (bG eO (by rfl) T.isi PyProof.Rows.boot_isinstance (aa (aP (r:=dv K) cI (pv 0) aq (λ_ _=>rfl)) (aa (jb (v:=.ty "str") (by rfl) T.str PyProof.Rows.boot_str rfl) ah)))))
     (sV (cN Hs (aP (r:=dv K) cI (pv 0) aq (λ_ _=>rfl)) (aP (r:=dv K) cI (pv 1) aq (λ_ _=>rfl)) (dh _)))))))
     (aw (aW j3)) bz)
    (aw (aW (oO (aB G hr rfl mS F.kp bS .nil aA (aa (aP (r:=dv K) cI (pv 0) aq (λ_ _=>rfl)) (aa (aP (r:=dv K) cI (pv 1) aq (λ_ _=>rfl)) ah)))
     (w6 (aB G hr rfl mS F.kp bS .nil aA (aa (aP (r:=dv K) cI (pv 0) aq (λ_ _=>rfl)) (aa (aP (r:=dv K) cI (pv 1) aq (λ_ _=>rfl)) ah)))))))),?_⟩
   have fin:∀{b:Bool},(b=true ↔ t=t')->Q (.bl b) H:=λ{b} hb=>by
    rw [show b=decide (t=t') by rw [Bool.eq_iff_iff,hb,decide_eq_true_iff]]
    exact kk
   cases t' with
   | leaf c'=>
    cases (show v=.bl c' from hv)
    refine ⟨_,rfl,_,_, "bool",true,rfl,.bl _,rfl,_,rfl,kX (kX ?_)⟩
    refine ⟨_,rfl,_,_, "bool",true,rfl,.bl _,rfl,_,rfl,kX ?_⟩
    cases t with
    | leaf c=>
     cases (show u=.bl c from hu)
     refine ⟨_,rfl,_,_, "bool",true,rfl,.bl _,rfl,_,rfl,kX ⟨_,rfl,_,rfl,rfl,fin ?_⟩⟩
     rw [decide_eq_true_iff]
     exact ⟨λz=>(by cases z; rfl),λz=>(by cases z; rfl)⟩
    | node n l r=>
     obtain ⟨a,vl,vr,rfl,ha,_,_⟩:=hu
     exact ⟨_,rfl,_,_, "bool",false,rfl,.tup ha,rfl,_,rfl,iX (fin ⟨λz=>(by cases z),λz=>(by cases z)⟩)⟩
   | node n' l' r'=>
    obtain ⟨a',vl',vr',rfl,vT,tP,EH⟩:=hv
    refine ⟨_,rfl,_,_, "bool",false,rfl,.tup vT,rfl,_,rfl,iX ?_⟩
    cases t with
    | leaf c=>
     cases (show u=.bl c from hu)
     refine ⟨_,rfl,_,_, "bool",true,rfl,.bl _,rfl,_,rfl,kX ?_⟩
     exact ⟨_,rfl,_,_, "bool",false,rfl,.tup vT,rfl,_,rfl,iX (fin ⟨λz=>(by cases z),λz=>(by cases z)⟩)⟩
    | node n l r=>
     obtain ⟨a,vl,vr,rfl,ha,hl,hR⟩:=hu
     have VH:(Tr.node n l r).dep=max l.dep r.dep+1:=rfl
     refine ⟨_,rfl,_,_, "bool",false,rfl,.tup ha,rfl,_,rfl,iX ?_⟩
     refine ⟨_,rfl,_,_, "tuple",true,rfl,.tup ha,rfl,_,rfl,iX ?_⟩
     refine ⟨_,rfl,a,_,rfl,.inr (aR.of ha),rfl,_,rfl,iX ?_⟩
     refine ⟨_,rfl,a,_,0,_,rfl,rfl,aR.of ha,a0 (j:=0) rfl,_,_, "str",true,rfl,.str n,rfl,_,rfl,iX ?_⟩
     refine ⟨_,rfl,a,_,0,_,rfl,rfl,aR.of ha,a0 (j:=0) rfl,_,rfl,a',_,0,_,rfl,rfl,aR.of vT,a0 (j:=0) rfl,rfl,_,rfl,?_⟩
     by_cases en:n=n'
     . subst en
       refine hU (by rw [decide_eq_true rfl]; rfl) ?_
       refine ⟨_,rfl,a,_,1,_,rfl,rfl,aR.of ha,a0 (j:=1) rfl,_,rfl,a',_,1,_,rfl,rfl,aR.of vT,a0 (j:=1) rfl,_,_,l,l',rfl,hl,tP,by omega,_,rfl,?_⟩
       by_cases el:l=l'
       . subst el
         refine gq (decide_eq_true rfl) ?_
         refine ⟨_,rfl,a,_,2,_,rfl,rfl,aR.of ha,a0 (j:=2) rfl,_,rfl,a',_,2,_,rfl,rfl,aR.of vT,a0 (j:=2) rfl,_,_,r,r',rfl,hR,EH,by omega,fin ?_⟩
         rw [decide_eq_true_iff]
         exact ⟨λz=>(by rw [z]),λz=>(by injection z)⟩
       . refine hU (decide_eq_false el) (fin ?_)
         exact ⟨λz=>(nomatch z),λz=>absurd (by injection z) el⟩
     . refine gq (by rw [decide_eq_false (λz=>en (V.str.inj z))]; rfl) (fin ⟨λz=>(nomatch z),λz=>absurd (by injection z) en⟩)
inductive yJ (d:Nat) (vs:List V) (H:Hp) (Q:VK):Prop
 | mk (p q:Addr) (names:List Str) (bs:List Bool) (h1:vs=[.ref p,.ref q]) (h2:H p=some (.lst (names.map V.str))) (h3:H q=some (.lst (bs.map bV))) (h4:names.length<d) (h5:names.length<=8) (h6:bs.length=2 ^ names.length) (h7:∀(v:V) (H':Hp),ak H H'->fz H' (cn names bs) v->Q v H'):yJ d vs H Q
def nh (d:Nat):Sp:=λvs H Q _=>yJ d vs H Q
abbrev nCn:List Str:=["_law_names", "_law_bits", "_law_half", "_law_low", "_law_high"]
abbrev rJ:List Str:=["_law_names", "_law_bits"]
theorem Cw:aY nCn rJ (ar lx):=⟨rfl,rfl,rfl,by decide +kernel,rfl,by decide +kernel,by decide +kernel⟩
theorem yK {xs:List V}{k:Nat}(h:k<=xs.length):hZ xs (some (k:Int)) none=xs.drop k:=by
 unfold hZ
 rw [HT.Ae,HT.xr,Nat.min_eq_left h]
 exact List.take_of_length_le (by rw [List.length_drop]; exact Nat.le_refl _)
theorem MM {xs:List V}{k:Nat}(h:k<=xs.length):hZ xs none (some (k:Int))=xs.take k:=by
 unfold hZ
 rw [HT.Ae,HT.xr,Nat.min_eq_left h]
 rfl
theorem Gx {f fS:Addr}{fd dS:FuncData}{d k:Nat}(F:cq K "_law_canon" "_law_canon" lx f fd) (O2:gh mg) (G:ax P w K mg base aD (k+9) f fd rJ (nh d)) (mC:mg "_law_canon" = some (.ref f)) (bC:Binds K fd rJ [])
 (gS:ax P w K mg base aD 9 fS dS lz (jm 9)) (mS:mg "_law_same_tree" = some (.ref fS)) (kS:W.keepIn K (.ref fS)=true) (bS:Binds K dS lz []):ax P w K mg base aD (k+9+1) f fd rJ (nh (d+1)):=by
 refine F.ok Cw (λvs H Q E h=>?_) (λcdv A outer s H vs Q E hr h=>?_)
 . obtain ⟨p,q,names,bs,rfl,_⟩:=h
   rfl
 . obtain ⟨p,q,names,bs,rfl,hp,hq,hd,n8,hlen,kk⟩:=h
   have hu:=fu hr
   have MN:=hr.mono (Nat.le_add_left 9 k)
   refine ⟨_,ai (cS (cN (Mt (Nat.lt_of_succ_lt hu)) (pv 0) (cP ah) (dh _)) (aw (aW (uM j5 (aP (r:=iA K) br (pv 1) aq (λ_ _=>rfl)) aq (dh _)))) bz)
    (ai (aE (i:=2) Cw.nd rfl (Or.inl rfl) (aK pZ (bG cw (by rfl) O2.len PySem.boot_len (aa (pv 1) ah)) aq))
    (ai (aE (i:=3) Cw.nd rfl (Or.inl rfl) (aB G hr rfl mC F.kp bC .nil aA (aa (eu mr (pv 0) (eZ aq) eY) (aa (eu mr (pv 1) eY (eZ (pv 2))) ah))))
    (ai (aE (i:=4) Cw.nd rfl (Or.inl rfl) (aB G hr rfl mC F.kp bC .nil aA (aa (eu mr (pv 0) (eZ aq) eY) (aa (eu mr (pv 1) (eZ (pv 2)) eY) ah))))
    (ai (cS (iR (aB gS MN rfl mS kS bS .nil aA (aa (pv 3) (aa (pv 4) ah)))) (aw (aW (pv 3))) bz)
    (aw (aW (dJ (aa (aP (r:=iA K) br (pv 0) aq (λ_ _=>rfl)) (aa (pv 3) (aa (pv 4) ah)))))))))),?_⟩
   refine ⟨_,rfl,(by show 0<=sizeLine; decide),λe0 he0=>?_⟩
   have s1:ak H (upd H e0 (.lst [])):=ak.au he0
   have q1:(upd H e0 (.lst [])) e0=some (.lst []):=af
   generalize upd H e0 (.lst [])=H1 at s1 q1 ⊢
   refine ⟨p,e0,_,rfl,rfl,av.of (s1 _ _ hp),av.of q1,_,rfl,?_⟩
   cases names with
   | nil=>
    match bs,hlen with
    | [b],_=>
     refine gq rfl ⟨_,rfl,q,_,0,_,rfl,rfl,av.of (s1 _ _ hq),a0 (j:=0) rfl,rfl,kk _ H1 s1 ?_⟩
     cases b <;> rfl
   | cons n r=>
    rw [List.length_cons] at hd n8 hlen
    have EC:=yG r.length
    have hps:=Nat.pow_succ 2 r.length
    have hh:bs.length / 2=2 ^ r.length:=by rw [hlen,EC]
    refine hU rfl ⟨_,rfl,q,_,rfl,.inl (av.of (s1 _ _ hq)),_,_,rfl,rfl,⟨by decide,by decide⟩,?_⟩
    have eh:V.int ((((bs.map bV).length:Nat):Int) / 2)=V.int ((2 ^ r.length:Nat):Int):=by rw [List.length_map,← hh]; rfl
    show eS 2 (V.int ((((bs.map bV).length:Nat):Int) / 2)) _ _ _
    rw [eh]
    have hle:2 ^ r.length<=(bs.map bV).length:=by rw [List.length_map]; omega
    have n1:hZ ((n::r).map V.str) (some 1) none=r.map V.str:=yK (k:=1) (by rw [List.length_map,List.length_cons]; omega)
    have SR:r.length<=8:=by omega
    refine ⟨_,rfl,_,rfl,p,_,rfl,av.of (s1 _ _ hp),λp2 dQ=>?_⟩
    rw [n1]
    have s2:ak H1 (upd H1 p2 (.lst (r.map V.str))):=ak.au dQ
    have q2:(upd H1 p2 (.lst (r.map V.str))) p2=some (.lst (r.map V.str)):=af
    show j6 _ _ _ (upd H1 p2 (.lst (r.map V.str))) _
    generalize upd H1 p2 (.lst (r.map V.str))=H2 at s2 q2 ⊢
    have lL:=s1.trans s2
    refine ⟨_,rfl,_,rfl,_,rfl,q,_,rfl,av.of (lL _ _ hq),λb2 rm=>?_⟩
    rw [MM hle,← List.map_take]
    have s3:ak H2 (upd H2 b2 (.lst ((bs.take (2 ^ r.length)).map bV))):=ak.au rm
    have q3:(upd H2 b2 (.lst ((bs.take (2 ^ r.length)).map bV))) b2=some (.lst ((bs.take (2 ^ r.length)).map bV)):=af
    refine ⟨p2,b2,r,bs.take (2 ^ r.length),rfl,s3 _ _ q2,q3,by omega,SR,by rw [List.length_take]; omega,λv1 H4 s4 r1=>?_⟩
    have yL:=(lL.trans s3).trans s4
    refine ⟨_,rfl,_,rfl,p,_,rfl,av.of (yL _ _ hp),λp5 jY=>?_⟩
    rw [n1]
    have s5:ak H4 (upd H4 p5 (.lst (r.map V.str))):=ak.au jY
    have q5:(upd H4 p5 (.lst (r.map V.str))) p5=some (.lst (r.map V.str)):=af
    show j6 _ _ _ (upd H4 p5 (.lst (r.map V.str))) _
    generalize upd H4 p5 (.lst (r.map V.str))=H5 at s5 q5 ⊢
    have vV:=yL.trans s5
    refine ⟨_,rfl,_,rfl,_,rfl,q,_,rfl,av.of (vV _ _ hq),λb6 MO=>?_⟩
    rw [yK hle,← List.map_drop]
    have s6:ak H5 (upd H5 b6 (.lst ((bs.drop (2 ^ r.length)).map bV))):=ak.au MO
    have q6:(upd H5 b6 (.lst ((bs.drop (2 ^ r.length)).map bV))) b6=some (.lst ((bs.drop (2 ^ r.length)).map bV)):=af
    refine ⟨p5,b6,r,bs.drop (2 ^ r.length),rfl,s6 _ _ q5,q6,by omega,SR,by rw [List.length_drop]; omega,λv2 H7 s7 r2=>?_⟩
    have SS:=(s5.trans s6).trans s7
    have wu:=yL.trans SS
    have MP:=r1.keep (wM SS)
    have c1:=u7 (pR r (bs.take (2 ^ r.length)))
    refine ⟨_,rfl,_,rfl,_,_,_,_,rfl,MP,r2,by omega,_,rfl,?_⟩
    have ec:=vc n r bs
    rw [hh] at ec
    by_cases e:cn r (bs.take (2 ^ r.length))=cn r (bs.drop (2 ^ r.length))
    . refine gq (decide_eq_true e) ⟨_,rfl,kk v1 H7 wu ?_⟩
      rw [ec,if_pos e]
      exact MP
    . refine hU (decide_eq_false e) ?_
      refine ⟨_,rfl,p,_,0,_,rfl,rfl,av.of (wu _ _ hp),a0 (j:=0) rfl,_,rfl,_,rfl,(by show 3<=sizeLine; decide),λt ht=>?_⟩
      have s8:ak H7 (upd H7 t (.tup [.str n,v1,v2])):=ak.au ht
      refine kk (.ref t) _ (wu.trans s8) ?_
      rw [ec,if_neg e]
      exact ⟨t,v1,v2,rfl,af,MP.keep (wM s8),r2.keep (wM s8)⟩
end
end Gen
namespace PySem
section
theorem EV:typeLookup (.type "list_reverseiterator") "__len__" = pure none:=by rw [typeLookup_type,builtinLookup_eq_fast]; kernel_rfl
theorem Gy:typeLookup (.type "list_reverseiterator") "__length_hint__" = pure (some (.builtin "list_reverseiterator.__length_hint__")):=by rw [typeLookup_type,builtinLookup_eq_fast]; kernel_rfl
variable {prog:Program}{w:World}{A:Around}{s:Shared}{R:Result->Shared->Prop}
variable {I:Addr}{fp wr:List Addr}{G:Array GenState->Array GenState->Prop}{n:Nat}{P:Nat->Value->Prop}{St:Nat->Shared->Prop}
theorem Cy (W:WalksS prog w A.in1 I fp wr G n P St) (hT:∀i s,St i s->s.TypeIs (.ref I) "list_reverseiterator") (S:Addr) (res:Value) (c₀:Nat) (jA:St 0 s) (yM:S∉fp) (hI:I∈fp)
 (hS:s.heap.get? S=some { cls:=.type "list",data:=.seq #[] c₀ })
 (hR:∀s' dz c',Moved (S::wr) G s s'->s'.heap.get? S=some { cls:=.type "list",dict:=none,data:=.seq dz c',slots:=#[] } -> ItemsOf P dz n->R (.ok (.ret res)) s') (hn:n<=sizeLine) :
 wpAny (model prog w) A.in1 (Builtin.List.listExtendWith (.ref S) (.ref I) res)
  (λfin s'=>match fin with | .done f=>R (.ok f) s' | .again c'=>c'.quiet=true/\codeAny (model prog w) A c' R s') (λe s'=>R (.error e) s') s:=by
 have hSI:S≠I:=λe=>yM (e ▸ hI)
 unfold Builtin.List.listExtendWith
 refine wpAny_bind (wpAny_typeOf (hT 0 _ jA) ?_)
 have h1:Builtin.List.listSameRef (.ref S) (.ref I)=false:=by simp [Builtin.List.listSameRef,hSI]
 have h2:(Value.type "list_reverseiterator" == Value.type "list")=false:=by decide
 have h3:(Value.type "list_reverseiterator" == Value.type "tuple")=false:=by decide
 rw [if_neg (by rw [h1]; decide)]
 refine wpAny_bind (W.self 0 _ _ _ jA ?_)
 refine wpAny_bind (wpAny_holding ?_)
 unfold Builtin.List.listLengthHint
 refine wpAny_bind (wpAny_specialOf (hT 0 _ jA) EV ?_)
 show wpAny _ A.in1 (specialOf (Value.ref I) (Str.ofString "__length_hint__") >>= _) _ _ _
 refine wpAny_bind (wpAny_specialOf (hT 0 _ jA) Gy ?_)
 generalize EW:("list_reverseiterator.__length_hint__" : String)=id0
 wp_delta
 rw [show splitId id0=some ("list_reverseiterator", "__length_hint__") from by subst EW; decide +kernel]
 subst EW
 refine wpAny_bind (wpAny_isInstance (b:=true) (hT 0 _ jA) (by rw [isSubtype_type]; kernel_rfl) ?_)
 refine wpAny_pure ?_
 rw [if_neg (by decide)]
 exact wpAny_pure ⟨plainId_quiet F.plain_extend_loop _,codeAny_extend_loopS W hn _ yM _ n 0 _ _ _ rfl (Nat.zero_le _) jA hS (ItemsOf.nil P) λs' dz c' hm yN nQ=>hR s' dz c' hm yN nQ⟩
theorem Gz (W:WalksS prog w A.in1 I fp wr G n P St) (hT:∀i s,St i s->s.TypeIs (.ref I) "list_reverseiterator") (S:Addr) (jA:St 0 s) (yM:S∉fp) (hI:I∈fp)
 (hS:s.heap.get? S=some { cls:=.type "list",data:=.seq #[] })
 (hR:∀s' dz c',Moved (S::wr) G s s'->s'.heap.get? S=some { cls:=.type "list",dict:=none,data:=.seq dz c',slots:=#[] } -> ItemsOf P dz n->R (.ok (.ret .none)) s') (hn:n<=sizeLine) :
 wpAny (model prog w) A.in1 (Builtin.«list.__init__» ⟨[.ref S,.ref I],[]⟩)
  (λfin s'=>match fin with | .done f=>R (.ok f) s' | .again c'=>c'.quiet=true/\codeAny (model prog w) A c' R s') (λe s'=>R (.error e) s') s:=by
 show wpAny _ A.in1 (do let old ← Builtin.List.listItems (.ref S); Builtin.List.listUpdate (.ref S) (λ_=>#[]); letGo old.toList.reverse; Builtin.List.listExtendWith (.ref S) (.ref I) .none) _ _ s
 refine wpAny_bind ?_
 unfold Builtin.List.listItems
 refine wpAny_bind (wpAny_seqItems hS rfl (wpAny_pure ?_))
 show wpAny _ A.in1 (updateSeq S (λ_=>#[]) >>= λ_=>letGo (#[]:Array Value).toList.reverse >>= λ_=>Builtin.List.listExtendWith (.ref S) (.ref I) .none) _ _ s
 refine wpAny_bind (wpAny_updateSeq hS rfl ?_)
 have abz:=Heap.get?_update_self (Obj.mapSeq (λ_=>(#[]:Array Value))) hS rfl
 have SU:∀b o,b≠S->s.heap.get? b=some o->(s.heap.update S (Obj.mapSeq (λ_=>(#[]:Array Value)))).get? b=some o:=
  λb o hb e=>(Heap.get?_update_other _ _ (Ne.symm hb)).trans e
 refine wpAny_bind (wpAny_letGo ?_)
 refine Cy W hT S .none _ (W.frame 0 s _ s.toks jA (Nat.le_refl _) λb hb o e=>SU b o (λh=>yM (h ▸ hb)) e) yM hI abz (λs' dz c' hm yN nQ=>?_) hn
 exact hR s' dz c' (Moved.trans W.gtrans ((Moved.refl W.grefl).then_heap (Nat.le_refl _) λb o hb e=>SU b o (λh=>hb (h ▸ List.mem_cons_self)) e) hm) yN nQ
theorem GC {E:Value->Shared->Prop}{Q:Value->Shared->Prop}(W:WalksS prog w A.in1.in1 I fp wr G n P St) (hT:∀i s,St i s->s.TypeIs (.ref I) "list_reverseiterator") (jA:St 0 s) (hfp:∀b∈fp,b<s.heap.objs.size) (hI:I∈fp)
 (hQ:∀s' dz c',Moved (s.heap.objs.size::wr) G { s with heap:=s.heap.push { cls:=.type "list",data:=.seq #[] } } s'->
  s'.heap.get? s.heap.objs.size=some { cls:=.type "list",dict:=none,data:=.seq dz c',slots:=#[] } -> ItemsOf P dz n->Q (.ref s.heap.objs.size) s') (hn:n<=sizeLine) :
 wpAny (model prog w) A (call (.type "list") [.ref I]) Q E s:=by
 have yM:s.heap.objs.size∉fp:=λhm=>Nat.lt_irrefl _ (hfp _ hm)
 refine callType_codes (Q₁:=λobj cW=>obj=.ref s.heap.objs.size/\cW = { s with heap:=s.heap.push { cls:=.type "list",data:=.seq #[] } }) F.called_list (F.typeCall_list_1 _) F.entry_list_init
  (code_list_new _ ⟨rfl,rfl⟩) λobj cW kN=>?_
 obtain ⟨rfl,rfl⟩:=kN
 have hS:(s.heap.push { cls:=.type "list",data:=.seq #[] }).get? s.heap.objs.size=some { cls:=.type "list",data:=.seq #[] }:=Heap.get?_push_size _ rfl
 refine ⟨⟨_,hS,rfl⟩,F.args_list_init_2 _ _,Gz W hT _ (W.frame 0 s _ s.toks jA (Nat.le_refl _) λb _ o e=>Heap.get?_push_of_some _ e) yM hI hS (λs' dz c' hm yN nQ=>?_) hn⟩
 exact ⟨rfl,hQ s' dz c' hm yN nQ⟩
end
end PySem
namespace L2
open PySem PySem.Spec PyProof.Rows
section
variable {X:Cx}
theorem yO:∀{xs:List V}{us:List Value},Vals xs us->Vals xs.reverse us.reverse
 | _,_,.nil=>.nil
 | _,_,.cons h t=>by
  rw [List.reverse_cons,List.reverse_cons]
  exact (yO t).append (.cons h .nil)
def VM (K:W.Frag) (ta:TA):TE:=λσ H Q=>ta σ H λvs H1=>∃p ys,vs=[.ref p]/\av K H1 p ys/\∀l,H1 l=none->Q (.ref l) (upd H1 l (.lst ys.reverse))
theorem MQ {a:Expr}{ta:TA}{p1 p2 pos yP:Pos}(hgD:Gl X "list") (hmD:X.mg "list" = none) (hgZ:Gl X "reversed") (hmZ:X.mg "reversed" = none) (hc:X.calm=true) (ha:PA X [a] ta)
 (hs:starEach [Expr.Call (.Name "reversed" p2) [a] [] yP] X.env=(false,eval (Expr.Call (.Name "reversed" p2) [a] [] yP) X.env)::starEach [] X.env:=by rfl) (iF:(backTo pos (starEach [] X.env)).any (·.1)=false:=by rfl)
 (oS:starEach [a] X.env=(false,eval a X.env)::starEach [] X.env:=by rfl) (dQ:(backTo yP (starEach [] X.env)).any (·.1)=false:=by rfl) :
 PE X (.Call (.Name "list" p1) [.Call (.Name "reversed" p2) [a] [] yP] [] pos) (VM X.K ta):=by
 intro pins s σ H Q I h
 refine wpAny_Call_Name_kw (iQ I hgD hmD PyProof.Rows.boot_list ?_ (by decide) (by decide))
 refine PyProof.Rows.callWith_type1 ?_ hs iF
 rw [hs]
 show wpAny _ _ (spliced ((false,eval _ X.env)::backTo pos (starEach [] X.env))) _ _ s
 refine Calls.spliced_cons ?_
 refine Call_ (iQ I hgZ hmZ PyProof.Rows.boot_reversed (PyProof.Rows.callWith_type1 (aN (ha yP pins s σ H _ I h) λus s1 ⟨vs,H1,I1,r1,q1⟩=>?_) oS dQ))
 obtain ⟨p,ys,e,hp,q⟩:=q1
 subst e
 obtain ⟨u,rfl,ru⟩:=vals1 r1
 cases (show u=Value.ref p from ru)
 obtain ⟨its,rv,pl,hz⟩:=I1.list hp
 have hl:=pl.isList
 have eW:p<s1.heap.objs.size:=by obtain ⟨_,e,_⟩:=hl; exact Heap.lt_size e
 refine call_reversed_list hl (Calls.spliced_nil ?_)
 have W:=Walks.listRev (prog:=X.prog) (w:=X.w) (A:=X.A.in1.in1) (by show X.A.handled=none; exact I1.ok.hd hc) s1.heap.objs.size p (Nat.ne_of_lt eW) its.toArray
 have hsz:(s1.heap.push (revObj p ((its.toArray.size:Int)-1))).objs.size=s1.heap.objs.size+1:=by simp [Heap.push]
 have hle:its.toArray.size<=sizeLine:=by rw [List.size_toArray,← rv.length]; exact hz
 refine GC W.toS (λi s x=>x.2.1.typeIs) ⟨Nat.zero_le _,⟨_,Heap.get?_push_size _ rfl,rfl,by simp [revObj]⟩,hl.at λo e=>Heap.get?_push_of_some _ e⟩ (λb hb=>?_) (by simp) (λs' dz c' hm yN nQ=>?_) hle
 . show b<(s1.heap.push (revObj p ((its.toArray.size:Int)-1))).objs.size
   rw [hsz]
   simp only [List.mem_cons,List.not_mem_nil,or_false] at hb
   rcases hb with rfl | rfl
   . exact Nat.lt_succ_self _
   . exact Nat.lt_succ_of_lt eW
 . have hS'':s'.heap.get? (s1.heap.objs.size+1)=some { cls:=.type "list",dict:=none,data:=.seq dz c',slots:=#[] }:=by
    have:=yN
    rw [show (s1.heap.push (revObj p ((its.toArray.size:Int)-1))).objs.size=s1.heap.objs.size+1 from hsz] at this
    exact this
   have kk:∀b u,s1.heap.get? b=some u->s'.heap.get? b=some u:=λb u e=>by
    have hb:=Heap.lt_size e
    refine hm.heap b u (λGD=>?_) (Heap.get?_push_of_some _ (Heap.get?_push_of_some _ e))
    rcases List.mem_cons.mp GD with z | GD
    . exact absurd hb (by rw [z.trans hsz]; exact Nat.not_lt.mpr (Nat.le_succ _))
    . exact absurd hb (by rw [List.mem_singleton.mp GD]; exact Nat.lt_irrefl _)
   have ea:dz.toList=its.reverse:=by
    obtain ⟨i1,i2⟩:=nQ
    have jF:dz.toList.length=its.length:=by rw [Array.length_toList,i1,List.size_toArray]
    refine List.ext_getElem (by rw [jF,List.length_reverse]) λj g1 g2=>?_
    have:=i2 j dz.toList[j] (by rw [← Array.getElem?_toList]; exact List.getElem?_eq_getElem g1)
    rw [List.size_toArray,List.getElem?_toArray] at this
    have hj:j<its.length:=by omega
    rw [List.getElem_reverse]
    rw [List.getElem?_eq_getElem (by omega)] at this
    exact (Option.some.inj this).symm
   have rr:Vals ys.reverse dz.toList:=by rw [ea]; exact yO rv
   rw [Moved.eq_with hm]
   refine ⟨.ref (s1.heap.objs.size+1),_,I1.laid (a:=s1.heap.objs.size+1) (t':=s'.toks) kk (Nat.le_succ _) (show bJ X.prog X.w _ s'.heap _ (.lst ys.reverse) from ⟨by rw [List.length_reverse]; exact hz,dz.toList,c',rr,by simpa using hS''⟩),?_,q _ (I1.hok.fresh (Nat.le_succ _))⟩
   show Value.ref _=Value.ref _
   rw [hsz]
end
end L2
namespace L2
open PySem PySem.Spec PyProof.Rows
section
variable {X:Cx}{a:Expr}{ta:TE}
end
end L2
namespace L2
open PySem PySem.Spec PyProof.Rows PySem.W
theorem lA:∀(m i:Nat),rev m i<2 ^ m
 | 0,_=>Nat.one_pos
 | m+1,i=>by
  have:=lA m (i / 2)
  have h2:i % 2<2:=Nat.mod_lt _ (by decide)
  rw [rev,Nat.pow_succ]
  rcases (show i % 2=0\/i % 2=1 by omega) with e | e <;> rw [e] <;> omega
theorem lS:∀(m j y u:Nat),u<2 ^ m->rev (m+j) (2 ^ m*y+u)=rev m u*2 ^ j+rev j y
 | 0,j,y,u,h=>by
  have:u=0:=by rw [Nat.pow_zero] at h; omega
  rw [this,Nat.zero_add,Nat.pow_zero,Nat.one_mul,Nat.add_zero]
  show rev j y=0*2 ^ j+rev j y
  omega
 | m+1,j,y,u,h=>by
  rw [Nat.pow_succ] at h
  have e1:(2 ^ (m+1)*y+u) % 2=u % 2:=by rw [Nat.pow_succ,show 2 ^ m*2*y=2*(2 ^ m*y) by rw [Nat.mul_comm (2 ^ m) 2,Nat.mul_assoc]]; omega
  have e2:(2 ^ (m+1)*y+u) / 2=2 ^ m*y+u / 2:=by rw [Nat.pow_succ,show 2 ^ m*2*y=2*(2 ^ m*y) by rw [Nat.mul_comm (2 ^ m) 2,Nat.mul_assoc]]; omega
  rw [show m+1+j=(m+j)+1 by omega,rev,e1,e2,lS m j y (u / 2) (by omega),rev,Nat.add_mul,Nat.pow_add,Nat.mul_assoc]
  omega
theorem ni (m u b:Nat) (h:u<2 ^ m) (hb:b<2):rev (m+1) (2 ^ m*b+u)=2*rev m u+b:=by
 rw [lS m 1 b u h]
 have:rev 1 b=b:=by rcases (show b=0\/b=1 by omega) with rfl | rfl <;> rfl
 rw [this]
 omega
theorem rev_rev:∀(m i:Nat),i<2 ^ m->rev m (rev m i)=i
 | 0,i,h=>by rw [Nat.pow_zero] at h; show 0=i; omega
 | m+1,i,h=>by
  rw [Nat.pow_succ] at h
  rw [show rev (m+1) i=2 ^ m*(i % 2)+rev m (i / 2) by rw [rev,Nat.mul_comm],ni m _ _ (lA _ _) (Nat.mod_lt _ (by decide)),rev_rev m (i / 2) (by omega)]
  omega
theorem rev_inj {m i j:Nat}(hi:i<2 ^ m) (hj:j<2 ^ m) (h:rev m i=rev m j):i=j:=by rw [← rev_rev m i hi,← rev_rev m j hj,h]
theorem nj (k:Nat){b u:Nat}(h:u<2 ^ k) (hb:b<2):(bo (k+1)).getD (2 ^ k*b+u) []=(bo k).getD u []++[(b:Int)]:=by
 have hl:=dj k
 rw [bo,List.getD_eq_getElem?_getD,List.getD_eq_getElem?_getD]
 rcases (show b=0\/b=1 by omega) with rfl | rfl
 . rw [Nat.mul_zero,Nat.zero_add,List.getElem?_append_left (by rw [List.length_map,hl]; exact h),List.getElem?_map,List.getElem?_eq_getElem (by omega)]
   rfl
 . rw [Nat.mul_one,List.getElem?_append_right (by rw [List.length_map,hl]; omega),List.length_map,hl,Nat.add_sub_cancel_left,List.getElem?_map,List.getElem?_eq_getElem (by omega)]
   rfl
theorem yQ:∀(x y:List Int) (a b:Int),x.length=y.length->HT.lexLt (x++[a]) (y++[b])=(HT.lexLt x y || (decide (x=y) && decide (a<b)))
 | [],[],a,b,_=>by
  rw [List.nil_append,List.nil_append,HT.j7,HT.wD]
  by_cases h:a=b
  . rw [if_pos h,h]
    simp
  . rw [if_neg h]
    simp
 | [],_::_,_,_,h=>nomatch h
 | _::_,[],_,_,h=>nomatch h
 | p::x,q::y,a,b,h=>by
  rw [List.cons_append,List.cons_append,HT.j7,HT.j7,yQ x y a b (Nat.succ.inj h)]
  by_cases e:p=q
  . subst e
    rw [if_pos rfl,if_pos rfl]
    simp
  . rw [if_neg e,if_neg e]
    simp [e]
theorem wN {k i:Nat}(h:i<2 ^ (k+1)):∃b u,b<2/\u<2 ^ k/\i=2 ^ k*b+u:=by
 rw [Nat.pow_succ] at h
 by_cases q:i<2 ^ k
 . exact ⟨0,i,by decide,q,by omega⟩
 . exact ⟨1,i-2 ^ k,by decide,by omega,by omega⟩
theorem yR:∀(k:Nat){i j:Nat},i<2 ^ k->j<2 ^ k->(bo k).getD i []=(bo k).getD j []->i=j
 | 0,i,j,h1,h2,_=>by rw [Nat.pow_zero] at h1 h2; omega
 | k+1,i,j,h1,h2,h=>by
  obtain ⟨b,u,hb,hu,rfl⟩:=wN h1
  obtain ⟨c,v,hc,hv,rfl⟩:=wN h2
  rw [nj k hu hb,nj k hv hc] at h
  obtain ⟨e1,e2⟩:=List.append_inj' h rfl
  rw [yR k hu hv e1]
  have:=List.cons.inj e2
  have:b=c:=by have:=this.1; omega
  rw [this]
theorem ux {k i:Nat}(h:i<2 ^ k):((bo k).getD i []).length=k:=by
 refine lP k _ ?_
 rw [List.getD_eq_getElem?_getD,List.getElem?_eq_getElem (by rw [dj]; exact h)]
 exact List.getElem_mem _
theorem agree:∀(k:Nat){i j:Nat},i<2 ^ k->j<2 ^ k->HT.lexLt ((bo k).getD i []) ((bo k).getD j [])=cB k i j
 | 0,i,j,h1,h2=>by
  rw [Nat.pow_zero] at h1 h2
  have:i=0:=by omega
  have:j=0:=by omega
  subst i j
  rfl
 | k+1,i,j,h1,h2=>by
  obtain ⟨b,u,hb,hu,rfl⟩:=wN h1
  obtain ⟨c,v,hc,hv,rfl⟩:=wN h2
  rw [nj k hu hb,nj k hv hc,yQ _ _ _ _ (by rw [ux hu,ux hv]),agree k hu hv]
  unfold cB
  rw [ni k u b hu hb,ni k v c hv hc,Bool.eq_iff_iff]
  simp only [Bool.or_eq_true,Bool.and_eq_true,decide_eq_true_eq,Nat.blt_eq]
  constructor
  . rintro (h | ⟨h,h'⟩)
    . omega
    . have:=yR k hu hv h
      subst this
      omega
  . intro h
    by_cases e:rev k u=rev k v
    . have:=rev_inj hu hv e
      subst this
      exact .inr ⟨rfl,by omega⟩
    . exact .inl (by omega)
theorem cH:∀k,(bf k).length=2 ^ k
 | 0=>rfl
 | k+1=>by
  rw [bf,List.length_flatMap,Nat.pow_succ,← cH k]
  generalize bf k=l
  induction l with
  | nil=>rfl
  | cons a l ih=>rw [List.map_cons,List.sum_cons,ih,List.length_cons]; show 2+l.length*2=(l.length+1)*2; omega
theorem A8:∀(l:List (List Int)) (t:Nat),t<2*l.length->(l.flatMap λr=>[r++[0],r++[1]])[t]?=some (l.getD (t / 2) []++[((t % 2:Nat):Int)])
 | [],t,h=>by simp at h
 | a::l,0,h=>rfl
 | a::l,1,h=>rfl
 | a::l,t+2,h=>by
  rw [List.flatMap_cons,List.getElem?_append_right (by show 2<=t+2; omega)]
  have:=A8 l t (by rw [List.length_cons] at h; omega)
  rw [show t+2 - [a++[(0:Int)],a++[1]].length=t from rfl,this,show (t+2) / 2=t / 2+1 by omega,show (t+2) % 2=t % 2 by omega]
  rfl
theorem EY:∀(k t:Nat),t<2 ^ k->(bf k)[t]?=some ((bo k).getD (rev k t) [])
 | 0,t,h=>by
  rw [Nat.pow_zero] at h
  have:t=0:=by omega
  subst this
  rfl
 | k+1,t,h=>by
  rw [Nat.pow_succ] at h
  rw [bf,A8 _ _ (by rw [cH]; omega),rev,Nat.mul_comm (t % 2),nj k (lA _ _) (Nat.mod_lt _ (by decide))]
  have:=EY k (t / 2) (by omega)
  rw [List.getD_eq_getElem?_getD,this]
  rfl
def aM (N:Nat) (f:Nat->Nat):Array Nat:=((List.range N).map f).toArray
theorem de (N:Nat) (f:Nat->Nat):(aM N f).size=N:=by unfold aM; simp
theorem cZ {N i:Nat}(f:Nat->Nat) (h:i<N):(aM N f).getD i 0=f i:=by
 unfold aM
 simp [Array.getD,h]
theorem yS {N:Nat}{p:Array Nat}{f:Nat->Nat}(hs:p.size=N) (h:∀i,i<N->p.getD i 0=f i):p=aM N f:=by
 apply Array.ext
 . rw [hs,de]
 . intro i h1 h2
   have e1:=h i (by omega)
   have e2:=cZ f (show i<N by omega)
   rw [← e1] at e2
   simp only [Array.getD,h1,h2,dif_pos] at e2
   exact e2.symm
theorem yT {N M:Nat}{f:Nat->Nat}(h:∀i,i<N->f i<M):ig M (aM N f):=λi hi=>by
 rw [de] at hi
 rw [cZ f hi]
 exact h i hi
def seg (f:Nat->Nat) (a n m:Nat):Nat->Nat:=λi=>if a<=i/\i<a+n then a+rev m (i-a) else f i
theorem uy {f:Nat->Nat}{a n m t:Nat}(h:t<n):seg f a n m (a+t)=a+rev m t:=by
 unfold seg
 rw [if_pos ⟨by omega,by omega⟩,Nat.add_sub_cancel_left]
theorem A9 {f:Nat->Nat}{a n m i:Nat}(h:¬ (a<=i/\i<a+n)):seg f a n m i=f i:=if_neg h
theorem Be {f:Nat->Nat}{a m N:Nat}(hf:∀i,i<N->f i<N) (h:a+2 ^ m<=N):∀i,i<N->seg f a (2 ^ m) m i<N:=λi hi=>by
 unfold seg
 split
 . have:=lA m (i-a)
   omega
 . exact hf i hi
end L2
namespace L2
open PySem PySem.Spec PyProof.Rows PySem.W
theorem qE {p:Array Nat}{x y i:Nat}(hx:x<p.size) (hy:y<p.size):(p.swapIfInBounds x y).getD i 0=if i=x then p.getD y 0 else if i=y then p.getD x 0 else p.getD i 0:=by
 have e:p.swapIfInBounds x y=p.swap x y hx hy:=by simp [Array.swapIfInBounds,hx,hy]
 rw [e]
 by_cases h:i<p.size
 . have h':i<(p.swap x y hx hy).size:=by simpa using h
   simp only [Array.getD,h,h',hx,hy,dif_pos]
   by_cases e1:i=x
   . subst e1
     rw [if_pos rfl]
     simp
   . rw [if_neg e1]
     by_cases e2:i=y
     . subst e2
       rw [if_pos rfl]
       simp
     . rw [if_neg e2]
       show (p.swap x y hx hy)[i]=p[i]
       rw [Array.getElem_swap]
       simp [e1,e2]
 . rw [if_neg (by omega),if_neg (by omega)]
   have h':¬ i<(p.swap x y hx hy).size:=by simpa using h
   simp only [Array.getD,h,h',dif_neg,not_false_eq_true]
structure fE (lo N:Nat) (g:Nat->Nat) (p q:Array Nat):Prop where
 sz:p.size=N
 qs:q.size=32
 ins:∀t,t<32->p.getD (lo+t) 0=lo+q.getD t 0
 out:∀i,i<N->¬ (lo<=i/\i<lo+32)->p.getD i 0=g i
 bq:∀t,t<32->q.getD t 0<32
theorem fE.swap {lo N:Nat}{g:Nat->Nat}{p q:Array Nat}(h:fE lo N g p q) (hN:lo+32<=N){x y:Nat}(hx:x<32) (hy:y<32):fE lo N g (p.swapIfInBounds (lo+x) (lo+y)) (q.swapIfInBounds x y):=by
 have s1:=h.sz
 have s2:=h.qs
 refine ⟨by simpa using s1,by simpa using s2,λt ht=>?_,λi hi ho=>?_,λt ht=>?_⟩
 . rw [qE (by omega) (by omega),qE (by omega) (by omega)]
   by_cases e1:t=x
   . rw [if_pos (by omega),if_pos e1,h.ins y hy]
   . rw [if_neg (by omega),if_neg e1]
     by_cases e2:t=y
     . rw [if_pos (by omega),if_pos e2,h.ins x hx]
     . rw [if_neg (by omega),if_neg e2,h.ins t ht]
 . rw [qE (by omega) (by omega),if_neg (by omega),if_neg (by omega)]
   exact h.out i hi ho
 . rw [qE (by omega) (by omega)]
   split
   . exact h.bq y hy
   . split
     . exact h.bq x hx
     . exact h.bq t ht
theorem fE.bubble {lo N:Nat}{g:Nat->Nat}{p q:Array Nat}(h:fE lo N g p q) (hN:lo+32<=N){k:Nat}(hk:k<32):∀d,d<=k->fE lo N g (PyProof.Rows.bubble p (lo+k) d) (PyProof.Rows.bubble q k d)
 | 0,_=>h
 | d+1,hd=>by
  rw [bubble_succ,bubble_succ,show lo+k-d=lo+(k-d) by omega,show lo+(k-d)-1=lo+(k-d-1) by omega]
  exact (fE.bubble h hN hk d (by omega)).swap hN (by omega) (by omega)
theorem fE.place {lo N:Nat}{g:Nat->Nat}{p q:Array Nat}(h:fE lo N g p q){c c':Nat->Nat->Bool}(hc:∀u v,u<32->v<32->c (lo+u) (lo+v)=c' u v){k:Nat}(hk:k<32):∀f l r,r<=k->L2.place c p lo k f l r=L2.place c' q 0 k f l r/\(l<=k->L2.place c' q 0 k f l r<=k)
 | 0,l,r,_=>⟨rfl,λh=>h⟩
 | f+1,l,r,hr=>by
  unfold L2.place
  by_cases e:l≥r
  . rw [if_pos e,if_pos e]
    exact ⟨rfl,λh=>h⟩
  . rw [if_neg e,if_neg e,h.ins k hk,h.ins ((l+r) / 2) (by omega),hc _ _ (h.bq k hk) (h.bq _ (by omega)),Nat.zero_add,Nat.zero_add]
    by_cases e2:c' (q.getD k 0) (q.getD ((l+r) / 2) 0)=true
    . rw [if_pos e2,if_pos e2]
      exact ⟨(fE.place h hc hk f l ((l+r) / 2) (by omega)).1,λhl=>(fE.place h hc hk f l ((l+r) / 2) (by omega)).2 hl⟩
    . rw [if_neg e2,if_neg e2]
      exact ⟨(fE.place h hc hk f ((l+r) / 2+1) r hr).1,λhl=>(fE.place h hc hk f ((l+r) / 2+1) r hr).2 (by omega)⟩
theorem fE.bin {lo N:Nat}{g:Nat->Nat}{c c':Nat->Nat->Bool}(hc:∀u v,u<32->v<32->c (lo+u) (lo+v)=c' u v) (hN:lo+32<=N):∀(f k:Nat) (p q:Array Nat),k+f<=32->fE lo N g p q->fE lo N g (bQ c lo f k p) (bQ c' 0 f k q)
 | 0,_,_,_,_,h=>h
 | f+1,k,p,q,hk,h=>by
  obtain ⟨e1,e2⟩:=h.place hc (show k<32 by omega) k 0 k (Nat.le_refl _)
  have e2:=e2 (Nat.zero_le _)
  unfold bQ
  rw [e1,show lo+k-(lo+L2.place c' q 0 k k 0 k)=k-L2.place c' q 0 k k 0 k by omega,Nat.zero_add,Nat.zero_add]
  exact fE.bin hc hN f (k+1) _ _ (by omega) (h.bubble hN (by omega) _ (by omega))
theorem q5:∀t,t<32->(bQ (cB 5) 0 30 2 (p0 5)).getD t 0=rev 5 t:=by
 have:(List.range 32).all (λt=>(bQ (cB 5) 0 30 2 (p0 5)).getD t 0 == rev 5 t)=true:=by decide +kernel
 intro t ht
 have:=List.all_eq_true.mp this t (List.mem_range.mpr ht)
 exact eq_of_beq this
theorem sO {m j y u v:Nat}(hu:u<2 ^ m) (hv:v<2 ^ m):cB (m+j) (2 ^ m*y+u) (2 ^ m*y+v)=cB m u v:=by
 unfold cB
 rw [lS m j y u hu,lS m j y v hv,Bool.eq_iff_iff,Nat.blt_eq,Nat.blt_eq]
 constructor
 . intro h
   exact Nat.lt_of_mul_lt_mul_right (show rev m u*2 ^ j<rev m v*2 ^ j by omega)
 . intro h
   have:=Nat.mul_lt_mul_of_pos_right h (Nat.two_pow_pos j)
   omega
theorem J5 {j y N:Nat}{f:Nat->Nat}(hN:32*y+32<=N) (hf:∀t,t<32->f (32*y+t)=32*y+t):bQ (cB (5+j)) (32*y) 30 2 (aM N f)=aM N (seg f (32*y) 32 5):=by
 have L0:fE (32*y) N f (aM N f) (p0 5):=⟨de _ _,rfl,λt ht=>by
  rw [cZ f (by omega),hf t ht]
  have:(p0 5).getD t 0=t:=by unfold p0; simp [Array.getD,ht]
  rw [this],λi hi _=>cZ f hi,λt ht=>by
  have:(p0 5).getD t 0=t:=by unfold p0; simp [Array.getD,ht]
  omega⟩
 have L1:=fE.bin (c:=cB (5+j)) (c':=cB 5) (λu v hu hv=>sO (m:=5) (j:=j) (y:=y) hu hv) hN 30 2 _ _ (Nat.le_refl _) L0
 refine yS L1.sz λi hi=>?_
 by_cases h:32*y<=i/\i<32*y+32
 . have e:i=32*y+(i-32*y):=by omega
   rw [e,L1.ins _ (by omega),q5 _ (by omega),uy (by omega)]
 . rw [L1.out i hi h,A9 h]
section
variable {prog:Program}{w:World}{A:Around}{E:Value->Shared->Prop}{s:Shared}{κ:SortKind}{it:Nat->Keyed}{N:Nat}{c:Nat->Nat->Bool}{p:Array Nat}{pd:Array (Nat×Nat×Nat)}{n a i pw Iv:Nat}
def ve (p:Array Nat) (o:Nat) (z:Array Nat):Array Nat:=z.toList.zipIdx.foldl (λa x=>a.setIfInBounds (o+x.2) x.1) p
theorem yU (it:Nat->Keyed) (o:Nat):∀(l:List Nat) (i:Nat) (p:Array Nat),((l.map it).zipIdx i).foldl (λ(a:Array Keyed) x=>a.setIfInBounds (o+x.2) x.1) (p.map it)=((l.zipIdx i).foldl (λa x=>a.setIfInBounds (o+x.2) x.1) p).map it
 | [],_,_=>rfl
 | x::l,i,p=>by
  rw [List.map_cons,List.zipIdx_cons,List.zipIdx_cons,List.foldl_cons,List.foldl_cons,← yU it o l (i+1)]
  congr 1
  simp
theorem J6 (C:fg prog w A s κ it N c){Q:Bool->SortSt->Prop}(B:ig N p) (hp:a+2*n<=p.size) (hn:4<=n) (h0:pd[i]?=some (a,n,pw)) (h1:pd[i+1]?=some (a+n,n,Iv))
 (hA:∀i,i<n->c (p.getD (a+n+i) 0) (p.getD (a+i) 0)=false) (hB:∀i,i+1<n->c (p.getD (a+n+i) 0) (p.getD (a+i+1) 0)=true)
 (h:Q true (aX κ it (ve p (a+1) (cE (p.extract (a+1) (a+n)) (p.extract (a+n) (a+2*n-1)) (2*(n-1)))) ((pd.setIfInBounds i (a,n+n,pw)).eraseIdxIfInBounds (i+1)))) :
 wpS (model prog w) A E s (mergeAt' i) Q (aX κ it p pd):=by
 refine wpS_bind (wpS_get ?_)
 have g0:(pendingOf (aX κ it p pd))[i]?=some (a,n,pw):=h0
 have g1:(pendingOf (aX κ it p pd))[i+1]?=some (a+n,n,Iv):=h1
 simp only [g0,g1]
 refine wpS_bind (wpS_modify ?_)
 generalize hpd:(pd.setIfInBounds i (a,n+n,pw)).eraseIdxIfInBounds (i+1)=pd' at h
 show wpS _ _ _ _ _ _ (SortSt.mk' κ (p.map it) ((pd.setIfInBounds i (a,n+n,pw)).eraseIdxIfInBounds (i+1)) 7 none)
 rw [hpd]
 refine wpS_bind (eD (show a+n<p.size by omega) ?_)
 refine wpS_bind (AJ C rfl B (B _ (by omega)) (by omega) (show a+n<=p.size by omega) ?_ ?_ ?_)
 . exact hA 0 (by omega)
 . exact hB 0 (by omega)
 dsimp only
 rw [if_neg (by simp; omega)]
 refine wpS_bind (eD (show a+1+(n-1)-1<p.size by omega) ?_)
 refine wpS_bind (AK C rfl B (B _ (by omega)) (by omega) (show a+n+n<=p.size by omega) ?_ ?_ ?_)
 . rw [show a+1+(n-1)-1=a+(n-1) by omega]
   exact hA (n-1) (by omega)
 . have:=hB (n-2) (by omega)
   rw [show a+1+(n-1)-1=a+(n-2)+1 by omega]
   exact this
 dsimp only
 rw [if_neg (by simp; omega),if_pos (by omega)]
 have ex:∀i j,(p.map it).extract i j=(p.extract i j).map it:=λi j=>by
  apply Array.ext
  . simp
  . intro k h1 h2
    simp
 have sX:(p.extract (a+1) (a+n)).size=n-1:=by
  simp
  omega
 have sY:(p.extract (a+n) (a+2*n-1)).size=n-1:=by
  simp
  omega
 have gX:∀i,i<n-1->(p.extract (a+1) (a+n)).getD i 0=p.getD (a+i+1) 0:=λi hi=>by rw [lq (by omega) (by omega),show a+1+i=a+i+1 by omega]
 have gY:∀i,i<n-1->(p.extract (a+n) (a+2*n-1)).getD i 0=p.getD (a+n+i) 0:=λi hi=>lq (by omega) (by omega)
 have key:=EA C (E:=E) (st:=SortSt.mk' κ (p.map it) pd' 7 none) (X:=p.extract (a+1) (a+n)) (Y:=p.extract (a+n) (a+2*n-1)) (n:=n-1)
  (Q:=λz aG=>z=(cE (p.extract (a+1) (a+n)) (p.extract (a+n) (a+2*n-1)) (2*(n-1))).map it/\aG=SortSt.mk' κ (p.map it) pd' 7 none) rfl rfl (um (by omega) B) (um (by omega) B) sX sY (by omega)
  (λi hi=>by rw [gX i (by omega),gY (i+1) (by omega)]; exact hA (i+1) (by omega)) (λi hi=>by rw [gX i hi,gY i hi]; exact hB i (by omega)) ⟨rfl,rfl⟩
 rw [← ex,← ex] at key
 have e1:a+n+(n-1)=a+2*n-1:=by omega
 rw [e1]
 refine wpS_bind (wpS_mono key λz aG hq=>?_)
 obtain ⟨rfl,rfl⟩:=hq
 refine wpS_bind (wpS_modify (wpS_bind (wpS_get (wpS_pure ?_))))
 have e2:=yU it (a+1) (cE (p.extract (a+1) (a+n)) (p.extract (a+n) (a+2*n-1)) (2*(n-1))).toList 0 p
 have e3:SortSt.mk' κ ((((cE (p.extract (a+1) (a+n)) (p.extract (a+n) (a+2*n-1)) (2*(n-1))).map it).toList.zipIdx).foldl (λ(b:Array Keyed) x=>b.setIfInBounds (a+1+x.2) x.1) (p.map it)) pd' 7 none=aX κ it (ve p (a+1) (cE (p.extract (a+1) (a+n)) (p.extract (a+n) (a+2*n-1)) (2*(n-1)))) pd':=by
  unfold aX ve
  rw [Array.toList_map,e2]
 show Q true (SortSt.mk' κ ((((cE (p.extract (a+1) (a+n)) (p.extract (a+n) (a+2*n-1)) (2*(n-1))).map it).toList.zipIdx).foldl (λ(b:Array Keyed) x=>b.setIfInBounds (a+1+x.2) x.1) (p.map it)) pd' 7 none)
 rw [e3]
 exact h
end
theorem J7 {p:Array Nat}{x i v:Nat}(hx:x<p.size):(p.setIfInBounds x v).getD i 0=if i=x then v else p.getD i 0:=by
 by_cases h:i<p.size
 . have h':i<(p.setIfInBounds x v).size:=by simpa using h
   simp only [Array.getD,h,h',dif_pos]
   show (p.setIfInBounds x v)[i]=_
   rw [Array.getElem_setIfInBounds]
   by_cases e:i=x
   . rw [if_pos e.symm,if_pos e]
   . rw [if_neg (Ne.symm e),if_neg e]
     rfl
 . have h':¬ i<(p.setIfInBounds x v).size:=by simpa using h
   rw [if_neg (by omega)]
   simp only [Array.getD,h,h',dif_neg,not_false_eq_true]
theorem yV:∀(l:List Nat) (o j:Nat) (p:Array Nat),o+j+l.length<=p.size->((l.zipIdx j).foldl (λa x=>a.setIfInBounds (o+x.2) x.1) p).size=p.size/\∀i,((l.zipIdx j).foldl (λa x=>a.setIfInBounds (o+x.2) x.1) p).getD i 0=if o+j<=i/\i<o+j+l.length then l.getD (i-(o+j)) 0 else p.getD i 0
 | [],o,j,p,_=>⟨rfl,λi=>by rw [if_neg (by show ¬ (o+j<=i/\i<o+j+0); omega)]; rfl⟩
 | v::l,o,j,p,h=>by
  rw [List.length_cons] at h
  rw [List.zipIdx_cons,List.foldl_cons]
  obtain ⟨h1,h2⟩:=yV l o (j+1) (p.setIfInBounds (o+j) v) (by rw [Array.size_setIfInBounds]; omega)
  refine ⟨by rw [h1,Array.size_setIfInBounds],λi=>?_⟩
  rw [h2 i,J7 (by omega),List.length_cons]
  by_cases e:i=o+j
  . subst e
    rw [if_neg (by omega),if_pos rfl,if_pos (by omega),Nat.sub_self]
    rfl
  . by_cases e2:o+(j+1)<=i/\i<o+(j+1)+l.length
    . rw [if_pos e2,if_pos (by omega),show i-(o+j)=(i-(o+(j+1)))+1 by omega]
      rfl
    . rw [if_neg e2,if_neg e,if_neg (by omega)]
theorem J8 {N a m:Nat}{f:Nat->Nat}(hN:a+2*2 ^ m<=N) (h0:∀t,t<2 ^ m->f (a+t)=a+rev m t) (h1:∀t,t<2 ^ m->f (a+2 ^ m+t)=a+2 ^ m+rev m t) :
 ve (aM N f) (a+1) (cE ((aM N f).extract (a+1) (a+2 ^ m)) ((aM N f).extract (a+2 ^ m) (a+2*2 ^ m-1)) (2*(2 ^ m-1)))=aM N (seg f a (2*2 ^ m) (m+1)):=by
 have hs:=de N f
 have VN:=Nat.two_pow_pos m
 have hz:(cE ((aM N f).extract (a+1) (a+2 ^ m)) ((aM N f).extract (a+2 ^ m) (a+2*2 ^ m-1)) (2*(2 ^ m-1))).toList.length=2*(2 ^ m-1):=by unfold cE; simp
 obtain ⟨e1,e2⟩:=yV (cE ((aM N f).extract (a+1) (a+2 ^ m)) ((aM N f).extract (a+2 ^ m) (a+2*2 ^ m-1)) (2*(2 ^ m-1))).toList (a+1) 0 (aM N f) (by rw [hz,hs]; omega)
 refine yS (by unfold ve; rw [e1,hs]) λi hi=>?_
 have e3:(ve (aM N f) (a+1) (cE ((aM N f).extract (a+1) (a+2 ^ m)) ((aM N f).extract (a+2 ^ m) (a+2*2 ^ m-1)) (2*(2 ^ m-1)))).getD i 0=_:=e2 i
 rw [e3,hz]
 by_cases hin:a<=i/\i<a+2*2 ^ m
 . obtain ⟨s,rfl⟩:∃s,i=a+s:=⟨i-a,by omega⟩
   rw [uy (by omega)]
   have er:rev (m+1) s=(s % 2)*2 ^ m+rev m (s / 2):=rfl
   by_cases MR:a+1+0<=a+s/\a+s<a+1+0+2*(2 ^ m-1)
   . rw [if_pos MR]
     have ez:(cE ((aM N f).extract (a+1) (a+2 ^ m)) ((aM N f).extract (a+2 ^ m) (a+2*2 ^ m-1)) (2*(2 ^ m-1))).toList.getD (a+s-(a+1+0)) 0=oI ((aM N f).extract (a+1) (a+2 ^ m)) ((aM N f).extract (a+2 ^ m) (a+2*2 ^ m-1)) (s-1):=by
      unfold cE
      rw [show a+s-(a+1+0)=s-1 by omega]
      simp [show s-1<2*(2 ^ m-1) by omega]
     rw [ez]
     unfold oI
     by_cases od:s % 2=1
     . rw [if_pos (by omega),lq (by omega) (by omega),cZ f (by omega),h1 _ (by omega),er,od,show (s-1) / 2=s / 2 by omega]
       omega
     . rw [if_neg (by omega),lq (by omega) (by omega),cZ f (by omega),show a+1+(s-1) / 2=a+s / 2 by omega,h0 _ (by omega),er,show s % 2=0 by omega]
       omega
   . rw [if_neg MR,cZ f hi]
     rcases (show s=0\/s=2*2 ^ m-1 by omega) with rfl | rfl
     . rw [h0 0 VN,er]
       simp
     . rw [show a+(2*2 ^ m-1)=a+2 ^ m+(2 ^ m-1) by omega,h1 _ (by omega),er,show (2*2 ^ m-1) % 2=1 by omega,show (2*2 ^ m-1) / 2=2 ^ m-1 by omega]
       omega
 . rw [A9 hin,if_neg (by omega),cZ f hi]
end L2
namespace L2
open PySem PySem.Spec PyProof.Rows PySem.W
abbrev Pd:=Array (Nat×Nat×Nat)
def Fb (k:Nat) (f:Nat->Nat):Prop:=∀i,i<2 ^ k->f i<2 ^ k
structure yW (k:Nat) (f:Nat->Nat) (a m:Nat):Prop where
 le:a+2*2 ^ m<=2 ^ k
 at_:∃y j,a=2 ^ (m+1)*y/\k=m+1+j
 m2:2<=m
 lo:∀t,t<2 ^ m->f (a+t)=a+rev m t
 hi:∀t,t<2 ^ m->f (a+2 ^ m+t)=a+2 ^ m+rev m t
theorem yW.fb {k a m:Nat}{f:Nat->Nat}(h:yW k f a m) (hf:Fb k f):Fb k (seg f a (2*2 ^ m) (m+1)):=by
 have e:2*2 ^ m=2 ^ (m+1):=by rw [Nat.pow_succ]; omega
 rw [e]
 exact Be hf (by have:=h.le; omega)
def yX (pd:Pd) (i a n pw:Nat):Pd:=(pd.setIfInBounds i (a,n+n,pw)).eraseIdxIfInBounds (i+1)
section
variable {prog:Program}{w:World}{A:Around}{E:Value->Shared->Prop}{s:Shared}{κ:SortKind}{it:Nat->Keyed}{k:Nat}
theorem Iw (C:fg prog w A s κ it (2 ^ k) (cB k)){Q:Bool->SortSt->Prop}{f:Nat->Nat}{pd:Pd}{i a m pw Iv:Nat}(hf:Fb k f) (ok:yW k f a m) (h0:pd[i]?=some (a,2 ^ m,pw)) (h1:pd[i+1]?=some (a+2 ^ m,2 ^ m,Iv))
 (h:Q true (aX κ it (aM (2 ^ k) (seg f a (2*2 ^ m) (m+1))) (yX pd i a (2 ^ m) pw))):wpS (model prog w) A E s (mergeAt' i) Q (aX κ it (aM (2 ^ k) f) pd):=by
 have hle:=ok.le
 have h4:2 ^ 2<=2 ^ m:=Nat.pow_le_pow_right (by decide) ok.m2
 obtain ⟨y,j,rfl,rfl⟩:=ok.at_
 have adU:2 ^ (m+1)=2 ^ m*2:=Nat.pow_succ ..
 have key:∀u v,u<2 ^ m->v<2 ^ m->∀b,b<2->cB (m+1+j) (2 ^ (m+1)*y+2 ^ m+rev m u) (2 ^ (m+1)*y+rev m v)=Nat.blt (2*u+1) (2*v):=λu v hu hv b hb=>by
  have l1:=lA m u
  have l2:=lA m v
  rw [show 2 ^ (m+1)*y+2 ^ m+rev m u=2 ^ (m+1)*y+(2 ^ m*1+rev m u) by omega,show 2 ^ (m+1)*y+rev m v=2 ^ (m+1)*y+(2 ^ m*0+rev m v) by omega,sO (by omega) (by omega)]
  unfold cB
  rw [ni m _ 1 l1 (by decide),ni m _ 0 l2 (by decide),rev_rev m u hu,rev_rev m v hv]
  rfl
 refine J6 C (a:=2 ^ (m+1)*y) (n:=2 ^ m) (yT hf) (by rw [de]; exact hle) h4 h0 h1 (λi hi=>?_) (λi hi=>?_) ?_
 . rw [cZ f (by omega),cZ f (by omega),ok.hi i hi,ok.lo i hi,key i i hi hi 0 (by decide)]
   rw [Bool.eq_false_iff,ne_eq,Nat.blt_eq]
   omega
 . rw [cZ f (by omega),cZ f (by omega),ok.hi i (by omega),show 2 ^ (m+1)*y+i+1=2 ^ (m+1)*y+(i+1) by omega,ok.lo (i+1) hi,key i (i+1) (by omega) hi 0 (by decide),Nat.blt_eq]
   omega
 . rw [J8 hle ok.lo ok.hi]
   exact h
end
inductive uz (k pw:Nat):Nat->(Nat->Nat)->Pd->(Nat->Nat)->Pd->Prop
 | one {f:Nat->Nat}{pd:Pd} : pd.size<=1->uz k pw 0 f pd f pd
 | stop {f:Nat->Nat}{pd:Pd}{a n o:Nat} : 1<pd.size->pd[pd.size-2]?=some (a,n,o)->o<=pw->uz k pw 0 f pd f pd
 | step {l:Nat}{f f':Nat->Nat}{pd pd':Pd}{a m o o2:Nat} : 1<pd.size->pd[pd.size-2]?=some (a,2 ^ m,o)->pd[pd.size-2+1]?=some (a+2 ^ m,2 ^ m,o2)->pw<o->yW k f a m->uz k pw l (seg f a (2*2 ^ m) (m+1)) (yX pd (pd.size-2) a (2 ^ m) o) f' pd'->uz k pw (l+1) f pd f' pd'
def Iy (pd:Pd):Nat:=if ((if pd.size-2>0 then pd[pd.size-2-1]?.map (·.2.1) else none):Option Nat).any (· < (pd[pd.size-2+1]?.elim 0 (·.2.1))) then pd.size-2-1 else pd.size-2
inductive oi (k:Nat):Nat->(Nat->Nat)->Pd->(Nat->Nat)->Pd->Prop
 | one {f:Nat->Nat}{pd:Pd} : pd.size<=1->oi k 0 f pd f pd
 | step {l:Nat}{f f':Nat->Nat}{pd pd':Pd}{a m o o2:Nat} : 1<pd.size->pd[Iy pd]?=some (a,2 ^ m,o)->pd[Iy pd+1]?=some (a+2 ^ m,2 ^ m,o2)->yW k f a m->oi k l (seg f a (2*2 ^ m) (m+1)) (yX pd (Iy pd) a (2 ^ m) o) f' pd'->oi k (l+1) f pd f' pd'
inductive Run (k:Nat) (x:Nat) (f:Nat->Nat) (pd:Pd):(Nat->Nat)->Pd->Prop
 | first:pd = #[]->Run k x f pd (seg f (32*x) 32 5) (pd.push (32*x,32,0))
 | more {s n o pw l:Nat}{f':Nat->Nat}{pd':Pd} : pd.back?=some (s,n,o)->power' (2 ^ k) (2*s+n) (2*s+n+n+32) (2 ^ k)=pw->uz k pw l (seg f (32*x) 32 5) pd f' pd'->l<=2 ^ k->Run k x f pd f' ((pd'.modify (pd'.size-1) λ(st,len,_)=>(st,len,pw)).push (32*x,32,0))
section
variable {prog:Program}{w:World}{A:Around}{E:Value->Shared->Prop}{s:Shared}{κ:SortKind}{it:Nat->Keyed}{j:Nat}
theorem yY (C:fg prog w A s κ it (2 ^ (5+j)) (cB (5+j))){Q:Unit->SortSt->Prop}(F:Nat->Nat->Nat) (PD:Nat->Pd) (hj:1<=j) (VO:minRun' (2 ^ (5+j)) (2 ^ (5+j)) 0=32) (F0:F 0=id) (P0:PD 0 = #[]) (hb:∀x,x<=2 ^ j->Fb (5+j) (F x))
 (EW:∀x,x<2 ^ j->∀t,t<32->F x (32*x+t)=32*x+t) (VP:∀x,x<2 ^ j->Run (5+j) x (F x) (PD x) (F (x+1)) (PD (x+1))){l:Nat}{f':Nat->Nat}{pd':Pd}(hl:l<=2 ^ (5+j)) (VQ:oi (5+j) l (F (2 ^ j)) (PD (2 ^ j)) f' pd')
 (h:Q () (aX κ it (aM (2 ^ (5+j)) f') pd')):wpS (model prog w) A E s sortRuns' Q (aX κ it (aM (2 ^ (5+j)) id) #[]):=by
 have hN:2 ^ (5+j)=32*2 ^ j:=Nat.pow_add 2 5 j
 have hpj:=Nat.two_pow_pos j
 have hb0:Fb (5+j) id:=λi hi=>hi
 rw [sortRuns'_eq]
 refine wpS_bind (wpS_get ?_)
 have hs:(arrOf (aX κ it (aM (2 ^ (5+j)) id) #[])).size=2 ^ (5+j):=by show ((aM (2 ^ (5+j)) id).map it).size=_; rw [Array.size_map,de]
 simp only [hs,VO]
 refine wpS_bind (wpS_mono (wpS_forRange (I:=λx d aG=>(x<=2 ^ j/\d=(none,32*x)/\aG=aX κ it (aM (2 ^ (5+j)) (F x)) (PD x))\/(2 ^ j<x/\d=(none,32*2 ^ j)/\aG=aX κ it (aM (2 ^ (5+j)) (F (2 ^ j))) (PD (2 ^ j))))
  (Q:=λd aG=>d=(none,32*2 ^ j)/\aG=aX κ it (aM (2 ^ (5+j)) (F (2 ^ j))) (PD (2 ^ j))) ?step ?fin (.inl ⟨Nat.zero_le _,rfl,by rw [F0,P0]⟩)) ?post)
 case fin=>
  rintro d aG (⟨hx,_,_⟩ | ⟨_,hc,hD⟩)
  . omega
  . exact ⟨hc,hD⟩
 case step=>
  rintro x d aG _ hx (⟨lM,rfl,rfl⟩ | ⟨lM,rfl,rfl⟩)
  . dsimp only
    by_cases hxe:x=2 ^ j
    . subst hxe
      rw [if_pos (by omega)]
      exact wpS_pure ⟨rfl,rfl⟩
    . have uA:x<2 ^ j:=by omega
      rw [if_neg (by omega)]
      have hle:32*x+32<=2 ^ (5+j):=by omega
      have g:∀t,t<32->(aM (2 ^ (5+j)) (F x)).getD (32*x+t) 0=32*x+t:=λt ht=>by rw [cZ _ (by omega),EW x uA t ht]
      have cc:∀u v,u<32->v<32->cB (5+j) (32*x+u) (32*x+v)=cB 5 u v:=λu v hu hv=>sO (m:=5) hu hv
      have B:=yT (hb x lM)
      refine wpS_bind (nZ C B (by rw [de]; omega) (by omega) ?_ ?_ ?_ ?_)
      . rw [g 1 (by decide),show 32*x=32*x+0 from rfl,g 0 (by decide),cc 1 0 (by decide) (by decide)]
        decide +kernel
      . rw [g 2 (by decide),g 1 (by decide),cc 2 1 (by decide) (by decide)]
        decide +kernel
      . rw [g 1 (by decide),show (aM (2 ^ (5+j)) (F x)).getD (32*x) 0=32*x+0 from g 0 (by decide),cc 0 1 (by decide) (by decide)]
        decide +kernel
      dsimp only
      rw [if_pos (by decide)]
      refine wpS_bind (wpS_lift (wpAny_rule ⟨rfl,?_⟩))
      rw [show min (2 ^ (5+j)-32*x) 32=32 by omega]
      refine wpS_bind (wJ C B (show 32*x+32<=(aM (2 ^ (5+j)) (F x)).size by rw [de]; exact hle) (by omega) (show 2<=32 by omega) ?_)
      rw [show 32-2=30 from rfl,J5 hle (EW x uA)]
      simp only [Bool.not_true,Bool.false_eq_true,if_false]
      refine wpS_bind (wpS_get ?_)
      have hr:=VP x uA
      generalize hF:F (x+1)=F1 at hr
      generalize hP:PD (x+1)=P1 at hr
      cases hr with
      | first he=>
       have MS:(pendingOf (aX κ it (aM (2 ^ (5+j)) (seg (F x) (32*x) 32 5)) (PD x))).back?=none:=by show (PD x).back?=none; rw [he]; rfl
       simp only [MS]
       exact wpS_bind (wpS_modify (wpS_pure (.inl ⟨uA,by rw [Nat.mul_succ],rfl⟩)))
      | @more s0 n0 o pw l0 _ wx MS EC VR qV=>
       have VS:(pendingOf (aX κ it (aM (2 ^ (5+j)) (seg (F x) (32*x) 32 5)) (PD x))).back?=some (s0,n0,o):=MS
       simp only [VS,EC]
       refine wpS_bind (wpS_mono (wpS_forRange (I:=λx d aV=>d=(none,())/\∃(l:Nat) (f:Nat->Nat) (pd:Pd),aV=aX κ it (aM (2 ^ (5+j)) f) pd/\Fb (5+j) f/\uz (5+j) pw l f pd F1 wx/\l+x<=2 ^ (5+j)) (Q:=λd aV=>d=(none,())/\aV=aX κ it (aM (2 ^ (5+j)) F1) wx) ?ws ?wf ⟨rfl,l0,_,_,rfl,Be (m:=5) (hb x lM) hle,VR,by omega⟩) ?wp)
       case ws=>
        rintro z d aV _ _ ⟨rfl,l,f,pd,rfl,yZ,hc,EZ⟩
        refine wpS_bind (wpS_get ?_)
        cases hc with
        | one h1=>
         have e:(if (pendingOf (aX κ it (aM (2 ^ (5+j)) F1) wx)).size>1 then (pendingOf (aX κ it (aM (2 ^ (5+j)) F1) wx))[(pendingOf (aX κ it (aM (2 ^ (5+j)) F1) wx)).size-2]? else none)=none:=if_neg (Nat.not_lt.mpr h1)
         simp only [e]
         exact wpS_pure ⟨rfl,rfl⟩
        | @stop _ _ a n o' h1 h2 h3=>
         have e:(if (pendingOf (aX κ it (aM (2 ^ (5+j)) F1) wx)).size>1 then (pendingOf (aX κ it (aM (2 ^ (5+j)) F1) wx))[(pendingOf (aX κ it (aM (2 ^ (5+j)) F1) wx)).size-2]? else none)=some (a,n,o'):=(if_pos h1).trans h2
         simp only [e]
         rw [if_pos h3]
         exact wpS_pure ⟨rfl,rfl⟩
        | @step l' _ _ _ _ a m o' o2 h1 h2 MT h3 ok fi=>
         have e:(if (pendingOf (aX κ it (aM (2 ^ (5+j)) f) pd)).size>1 then (pendingOf (aX κ it (aM (2 ^ (5+j)) f) pd))[(pendingOf (aX κ it (aM (2 ^ (5+j)) f) pd)).size-2]? else none)=some (a,2 ^ m,o'):=(if_pos h1).trans h2
         simp only [e]
         rw [if_neg (by omega)]
         refine wpS_bind (Iw C yZ ok h2 MT ?_)
         simp only [Bool.not_true,Bool.false_eq_true,if_false]
         exact wpS_pure ⟨rfl,l',_,_,rfl,ok.fb yZ,fi,by omega⟩
       case wf=>
        rintro d aV ⟨rfl,l,f,pd,rfl,yZ,hc,EZ⟩
        rw [Nat.max_eq_right (Nat.zero_le _)] at EZ
        have MU:l=0:=by omega
        subst MU
        cases hc with
        | one=>exact ⟨rfl,rfl⟩
        | stop=>exact ⟨rfl,rfl⟩
       case wp=>
        rintro d aV ⟨rfl,rfl⟩
        exact wpS_bind (wpS_modify (wpS_bind (wpS_modify (wpS_pure (.inl ⟨uA,by rw [Nat.mul_succ],rfl⟩)))))
  . dsimp only
    rw [if_pos (by omega)]
    exact wpS_pure ⟨rfl,rfl⟩
 case post=>
  rintro d aG ⟨rfl,rfl⟩
  dsimp only
  refine wpS_bind (wpS_mono (wpS_forRange (I:=λx d aV=>d=(none,())/\∃(l:Nat) (f:Nat->Nat) (pd:Pd),aV=aX κ it (aM (2 ^ (5+j)) f) pd/\Fb (5+j) f/\oi (5+j) l f pd f' pd'/\l+x<=2 ^ (5+j)) (Q:=λd aV=>d=(none,())/\aV=aX κ it (aM (2 ^ (5+j)) f') pd') ?ls ?lf ⟨rfl,l,_,_,rfl,hb _ (Nat.le_refl _),VQ,by omega⟩) ?lp)
  case lf=>
   rintro d aV ⟨rfl,l,f,pd,rfl,yZ,hc,EZ⟩
   rw [Nat.max_eq_right (Nat.zero_le _)] at EZ
   have MU:l=0:=by omega
   subst MU
   cases hc with
   | one=>exact ⟨rfl,rfl⟩
  case lp=>
   rintro d aV ⟨rfl,rfl⟩
   exact wpS_pure h
  case ls=>
   rintro z d aV _ _ ⟨rfl,l,f,pd,rfl,yZ,hc,EZ⟩
   refine wpS_bind (wpS_get ?_)
   cases hc with
   | one h1=>
    rw [if_pos (show (pendingOf (aX κ it (aM (2 ^ (5+j)) f') pd')).size<=1 from h1)]
    exact wpS_pure ⟨rfl,rfl⟩
   | @step l' _ _ _ _ a m o' o2 h1 h2 MT ok fi=>
    rw [if_neg (show ¬ (pendingOf (aX κ it (aM (2 ^ (5+j)) f) pd)).size<=1 from Nat.not_le.mpr h1)]
    refine wpS_bind (Iw C yZ ok h2 MT ?_)
    simp only [Bool.not_true,Bool.false_eq_true,if_false]
    exact wpS_pure ⟨rfl,l',_,_,rfl,ok.fb yZ,fi,by omega⟩
end
end L2
namespace L2
open PySem PySem.Spec PyProof.Rows PySem.W
theorem eQ {k x:Nat}{f:Nat->Nat}{pd:Pd}{s n o pw l:Nat}{f':Nat->Nat}{pd' P1:Pd}(h1:pd.back?=some (s,n,o)) (h2:power' (2 ^ k) (2*s+n) (2*s+n+n+32) (2 ^ k)=pw) (h3:uz k pw l (seg f (32*x) 32 5) pd f' pd') (h4:l<=2 ^ k)
 (h5:P1=(pd'.modify (pd'.size-1) λ(st,len,_)=>(st,len,pw)).push (32*x,32,0)):Run k x f pd f' P1:=h5 ▸ Run.more h1 h2 h3 h4
theorem lB {k pw l:Nat}{f f':Nat->Nat}{pd pd' p1:Pd}(a m o o2:Nat) (h1:1<pd.size) (h2:pd[pd.size-2]?=some (a,2 ^ m,o)) (h3:pd[pd.size-2+1]?=some (a+2 ^ m,2 ^ m,o2)) (h4:pw<o) (ok:yW k f a m) (hp:yX pd (pd.size-2) a (2 ^ m) o=p1) (h:uz k pw l (seg f a (2*2 ^ m) (m+1)) p1 f' pd'):uz k pw (l+1) f pd f' pd':=.step h1 h2 h3 h4 ok (hp ▸ h)
theorem lC {k l:Nat}{f f':Nat->Nat}{pd pd' p1:Pd}(i a m o o2:Nat) (h1:1<pd.size) (hi:Iy pd=i) (h2:pd[i]?=some (a,2 ^ m,o)) (h3:pd[i+1]?=some (a+2 ^ m,2 ^ m,o2)) (ok:yW k f a m) (hp:yX pd i a (2 ^ m) o=p1) (h:oi k l (seg f a (2*2 ^ m) (m+1)) p1 f' pd'):oi k (l+1) f pd f' pd':=.step h1 (by rw [hi]; exact h2) (by rw [hi]; exact h3) ok (by rw [hi,hp]; exact h)
def a7:Nat->Nat:=seg id (32*0) 32 5
def b7:Nat->Nat:=seg a7 (32*1) 32 5
def c7:Nat->Nat:=seg (seg b7 (32*2) 32 5) 0 (2*2 ^ 5) (5+1)
def d7:Nat->Nat:=seg c7 (32*3) 32 5
def e7:Nat->Nat:=seg d7 64 (2*2 ^ 5) (5+1)
def z7:Nat->Nat:=seg e7 0 (2*2 ^ 6) (6+1)
def F7:Nat->Nat->Nat
 | 0=>id | 1=>a7 | 2=>b7 | 3=>c7 | _=>d7
def P7:Nat->Pd
 | 0=>#[] | 1=>#[(0,32,0)] | 2=>#[(0,32,2),(32,32,0)] | 3=>#[(0,64,1),(64,32,0)] | _=>#[(0,64,1),(64,32,2),(96,32,0)]
theorem VT:∀x,x<2 ^ 2->Run (5+2) x (F7 x) (P7 x) (F7 (x+1)) (P7 (x+1))
 | 0,_=>.first rfl
 | 1,_=>eQ (pw:=2) (l:=0) (pd':=#[(0,32,0)]) rfl (by decide +kernel) (.one (by decide)) (by decide) (by decide +kernel)
 | 2,_=>eQ (pw:=1) (l:=1) (pd':=#[(0,64,2)]) rfl (by decide +kernel) (lB 0 5 2 0 (by decide) rfl rfl (by decide) ⟨by decide,⟨0,1,rfl,rfl⟩,by decide,by decide +kernel,by decide +kernel⟩ (p1:=#[(0,64,2)]) (by decide +kernel) (.one (by decide))) (by decide) (by decide +kernel)
 | 3,_=>eQ (pw:=2) (l:=0) (pd':=#[(0,64,1),(64,32,0)]) rfl (by decide +kernel) (.stop (a:=0) (n:=64) (o:=1) (by decide) rfl (by decide)) (by decide) (by decide +kernel)
 | x+4,h=>absurd h (by show ¬ x+4<4; omega)
theorem VU:oi (5+2) 2 (F7 (2 ^ 2)) (P7 (2 ^ 2)) z7 #[(0,128,1)]:=
 lC 1 64 5 2 0 (by decide) (by decide +kernel) rfl rfl ⟨by decide,⟨1,1,rfl,rfl⟩,by decide,by decide +kernel,by decide +kernel⟩ (p1:=#[(0,64,1),(64,64,2)]) (by decide +kernel)
  (lC 0 0 6 1 2 (by decide) (by decide +kernel) rfl rfl ⟨by decide,⟨0,0,rfl,rfl⟩,by decide,by decide +kernel,by decide +kernel⟩ (p1:=#[(0,128,1)]) (by decide +kernel) (.one (by decide)))
theorem fb7:∀x,x<=2 ^ 2->Fb (5+2) (F7 x):=by
 unfold Fb
 decide +kernel
theorem id7:∀x,x<2 ^ 2->∀t,t<32->F7 x (32*x+t)=32*x+t:=by decide +kernel
def a8:Nat->Nat:=seg id (32*0) 32 5
def b8:Nat->Nat:=seg a8 (32*1) 32 5
def c8:Nat->Nat:=seg (seg b8 (32*2) 32 5) 0 (2*2 ^ 5) (5+1)
def d8:Nat->Nat:=seg c8 (32*3) 32 5
def e8:Nat->Nat:=seg (seg (seg d8 (32*4) 32 5) 64 (2*2 ^ 5) (5+1)) 0 (2*2 ^ 6) (6+1)
def f8:Nat->Nat:=seg e8 (32*5) 32 5
def g8:Nat->Nat:=seg (seg f8 (32*6) 32 5) 128 (2*2 ^ 5) (5+1)
def h8:Nat->Nat:=seg g8 (32*7) 32 5
def y8:Nat->Nat:=seg (seg h8 192 (2*2 ^ 5) (5+1)) 128 (2*2 ^ 6) (6+1)
def z8:Nat->Nat:=seg y8 0 (2*2 ^ 7) (7+1)
def F8:Nat->Nat->Nat
 | 0=>id | 1=>a8 | 2=>b8 | 3=>c8 | 4=>d8 | 5=>e8 | 6=>f8 | 7=>g8 | _=>h8
def P8:Nat->Pd
 | 0=>#[] | 1=>#[(0,32,0)] | 2=>#[(0,32,3),(32,32,0)] | 3=>#[(0,64,2),(64,32,0)] | 4=>#[(0,64,2),(64,32,3),(96,32,0)] | 5=>#[(0,128,1),(128,32,0)] | 6=>#[(0,128,1),(128,32,3),(160,32,0)] | 7=>#[(0,128,1),(128,64,2),(192,32,0)] | _=>#[(0,128,1),(128,64,2),(192,32,3),(224,32,0)]
theorem VW:∀x,x<2 ^ 3->Run (5+3) x (F8 x) (P8 x) (F8 (x+1)) (P8 (x+1))
 | 0,_=>.first rfl
 | 1,_=>eQ (pw:=3) (l:=0) (pd':=#[(0,32,0)]) rfl (by decide +kernel) (.one (by decide)) (by decide) (by decide +kernel)
 | 2,_=>eQ (pw:=2) (l:=1) (pd':=#[(0,64,3)]) rfl (by decide +kernel) (lB 0 5 3 0 (by decide) rfl rfl (by decide) ⟨by decide,⟨0,2,rfl,rfl⟩,by decide,by decide +kernel,by decide +kernel⟩ (p1:=#[(0,64,3)]) (by decide +kernel) (.one (by decide))) (by decide) (by decide +kernel)
 | 3,_=>eQ (pw:=3) (l:=0) (pd':=#[(0,64,2),(64,32,0)]) rfl (by decide +kernel) (.stop (a:=0) (n:=64) (o:=2) (by decide) rfl (by decide)) (by decide) (by decide +kernel)
 | 4,_=>eQ (pw:=1) (l:=2) (pd':=#[(0,128,2)]) rfl (by decide +kernel) (lB 64 5 3 0 (by decide) rfl rfl (by decide) ⟨by decide,⟨1,2,rfl,rfl⟩,by decide,by decide +kernel,by decide +kernel⟩ (p1:=#[(0,64,2),(64,64,3)]) (by decide +kernel) (lB 0 6 2 3 (by decide) rfl rfl (by decide) ⟨by decide,⟨0,1,rfl,rfl⟩,by decide,by decide +kernel,by decide +kernel⟩ (p1:=#[(0,128,2)]) (by decide +kernel) (.one (by decide)))) (by decide) (by decide +kernel)
 | 5,_=>eQ (pw:=3) (l:=0) (pd':=#[(0,128,1),(128,32,0)]) rfl (by decide +kernel) (.stop (a:=0) (n:=128) (o:=1) (by decide) rfl (by decide)) (by decide) (by decide +kernel)
 | 6,_=>eQ (pw:=2) (l:=1) (pd':=#[(0,128,1),(128,64,3)]) rfl (by decide +kernel) (lB 128 5 3 0 (by decide) rfl rfl (by decide) ⟨by decide,⟨2,2,rfl,rfl⟩,by decide,by decide +kernel,by decide +kernel⟩ (p1:=#[(0,128,1),(128,64,3)]) (by decide +kernel) (.stop (a:=0) (n:=128) (o:=1) (by decide) rfl (by decide))) (by decide) (by decide +kernel)
 | 7,_=>eQ (pw:=3) (l:=0) (pd':=#[(0,128,1),(128,64,2),(192,32,0)]) rfl (by decide +kernel) (.stop (a:=128) (n:=64) (o:=2) (by decide) rfl (by decide)) (by decide) (by decide +kernel)
 | x+8,h=>absurd h (by show ¬ x+8<8; omega)
theorem VX:oi (5+3) 3 (F8 (2 ^ 3)) (P8 (2 ^ 3)) z8 #[(0,256,1)]:=
 lC 2 192 5 3 0 (by decide) (by decide +kernel) rfl rfl ⟨by decide,⟨3,2,rfl,rfl⟩,by decide,by decide +kernel,by decide +kernel⟩ (p1:=#[(0,128,1),(128,64,2),(192,64,3)]) (by decide +kernel)
  (lC 1 128 6 2 3 (by decide) (by decide +kernel) rfl rfl ⟨by decide,⟨1,1,rfl,rfl⟩,by decide,by decide +kernel,by decide +kernel⟩ (p1:=#[(0,128,1),(128,128,2)]) (by decide +kernel)
   (lC 0 0 7 1 2 (by decide) (by decide +kernel) rfl rfl ⟨by decide,⟨0,0,rfl,rfl⟩,by decide,by decide +kernel,by decide +kernel⟩ (p1:=#[(0,256,1)]) (by decide +kernel) (.one (by decide))))
theorem fb8:∀x,x<=2 ^ 3->Fb (5+3) (F8 x):=by
 unfold Fb
 decide +kernel
theorem id8:∀x,x<2 ^ 3->∀t,t<32->F8 x (32*x+t)=32*x+t:=by decide +kernel
section
variable {prog:Program}{w:World}
theorem y9 {k:Nat}(h:∀(A:Around) (E:Value->Shared->Prop) (s:Shared) (it:Nat->Keyed),fg prog w A s (tuples' true) it (2 ^ k) (cB k)->wpS (model prog w) A E s sortRuns' (λ_ aG=>arrOf aG=(aM (2 ^ k) (rev k)).map it/\failedOf aG=none) (aX (tuples' true) it (aM (2 ^ k) id) #[])):lO prog w (bo k) (aM (2 ^ k) (rev k)):=by
 refine ⟨by rw [de,dj],λA E s it C=>?_⟩
 rw [dj] at C ⊢
 have e:(List.range (2 ^ k)).toArray=aM (2 ^ k) id:=by unfold aM; rw [List.map_id]
 rw [e]
 exact h A E s it (C.congr λi j hi hj=>agree k hi hj)
theorem Bf {N:Nat}{f g:Nat->Nat}(h:∀i,i<N->f i=g i):aM N f=aM N g:=yS (de _ _) λi hi=>by rw [cZ f hi,h i hi]
theorem MV:lO prog w (bo 7) (aM (2 ^ 7) (rev 7)):=y9 λA E s it C=>by
 refine yY (j:=2) C F7 P7 (by decide) (by decide +kernel) rfl rfl fb7 id7 VT (l:=2) (f':=z7) (pd':=#[(0,128,1)]) (by decide) VU ?_
 rw [show aM (2 ^ (5+2)) z7=aM (2 ^ 7) (rev 7) from Bf λi hi=>by
  have:=uy (f:=e7) (a:=0) (n:=2*2 ^ 6) (m:=6+1) (t:=i) hi
  rw [Nat.zero_add,Nat.zero_add] at this
  exact this]
 exact ⟨rfl,rfl⟩
theorem MX:lO prog w (bo 8) (aM (2 ^ 8) (rev 8)):=y9 λA E s it C=>by
 refine yY (j:=3) C F8 P8 (by decide) (by decide +kernel) rfl rfl fb8 id8 VW (l:=3) (f':=z8) (pd':=#[(0,256,1)]) (by decide) VX ?_
 rw [show aM (2 ^ (5+3)) z8=aM (2 ^ 8) (rev 8) from Bf λi hi=>by
  have:=uy (f:=y8) (a:=0) (n:=2*2 ^ 7) (m:=7+1) (t:=i) hi
  rw [Nat.zero_add,Nat.zero_add] at this
  exact this]
 exact ⟨rfl,rfl⟩
theorem Bg (k:Nat):((aM (2 ^ k) (rev k)).toList.map λi=>(bo k).getD i [])=bf k:=by
 apply List.ext_getElem?
 intro t
 unfold aM
 rw [List.map_map]
 by_cases h:t<2 ^ k
 . rw [EY k t h,List.getElem?_map,List.getElem?_range h]
   rfl
 . rw [List.getElem?_eq_none (by rw [List.length_map,List.length_range]; omega),List.getElem?_eq_none (by rw [cH]; omega)]
theorem E1 (k:Nat) (h1:1<=k) (h8:k<=8):∃q,lO prog w (bo k) q/\q.size=2 ^ k/\(q.toList.map λi=>(bo k).getD i [])=bf k/\∀i∈q.toList,i<2 ^ k:=by
 by_cases h6:k<=6
 . have hk:k∈[0,1,2,3,4,5,6]:=by
    rcases (show k=1\/k=2\/k=3\/k=4\/k=5\/k=6 by omega) with rfl | rfl | rfl | rfl | rfl | rfl <;> simp
   exact ⟨_,wm k h1 h6,yn k hk,AO k hk,λi hi=>by
    have:=List.all_eq_true.mp (Ms k hk) i hi
    rwa [Nat.blt_eq] at this⟩
 . have hr:∀i∈(aM (2 ^ k) (rev k)).toList,i<2 ^ k:=λi hi=>by
    unfold aM at hi
    obtain ⟨t,_,rfl⟩:=List.mem_map.mp hi
    exact lA _ _
   rcases (show k=7\/k=8 by omega) with rfl | rfl
   . exact ⟨_,MV,de _ _,Bg 7,hr⟩
   . exact ⟨_,MX,de _ _,Bg 8,hr⟩
end
section
variable {X:Cx}
theorem zd:gp X (.builtin "sorted") (λxs H Q=>∃p ts k,xs=[.ref p]/\av X.K H p (ts.map V.ref)/\Paired (λt b=>aR X.K H t (b.map V.int)) ts (bo k)/\k<=8/\
 ∀D rF,H D=none->Paired (λt b=>aR X.K H t (b.map V.int)) rF (bf k)->Q (.ref D) (upd H D (.lst (rF.map V.ref)))):=by
 intro pins s σ H xs us Q I r h
 obtain ⟨p,ts,k,rfl,hp,hb,h8,q⟩:=h
 by_cases hk:k=0
 . exact yq pins s σ H _ us Q I r ⟨p,ts,k,rfl,hp,hb,by omega,q⟩
 obtain ⟨u,rfl,rx⟩:=vals1 r
 cases (show u=Value.ref p from rx)
 obtain ⟨its,rv,pl,hz⟩:=I.list hp
 have l1:=rv.length
 rw [List.length_map] at l1
 have l2:=hb.length
 rw [dj] at l2
 have two:2 ^ 1<=2 ^ k/\2 ^ k<=2 ^ 8:=⟨Nat.pow_le_pow_right (by decide) (by omega),Nat.pow_le_pow_right (by decide) h8⟩
 obtain ⟨Z,hS,hsz,VY,hin⟩:=E1 (prog:=X.prog) (w:=X.w) k (by omega) h8
 refine rE (k:=k) (q:=Z) pl.isList (u0 I rv hb) (lP k) (by omega) (by omega) (by omega) hS ?_
 obtain ⟨n,hn⟩:=jW s.heap its (Z.map λi=>its.getD i .none)
 have dQ:=n9 (d:=0) (e:=[]) hb (l:=Z.toList) (λi hi=>by have:=hin i hi; omega)
 rw [VY] at dQ
 refine ⟨.ref (s.heap.objs.size+1),_,I.laid (t':=s.toks) (o:=.lst ((Z.toList.map λi=>ts.getD i 0).map V.ref)) (λb o hb=>jh hb) (by omega) ?_,rfl,q _ _ (I.hok.fresh (by omega)) dQ⟩
 refine ⟨?_,(Z.map λi=>its.getD i .none).toList,n,?_,?_⟩
 . rw [List.length_map,List.length_map,Array.length_toList,hsz,sizeLine_eq]
   omega
 . have v:=sD rv (l:=Z.toList) (λi hi=>by rw [List.length_map]; have:=hin i hi; omega)
   rw [Array.toList_map]
   have e:(Z.toList.map λi=>ts.getD i 0).map V.ref=Z.toList.map λi=>(ts.map V.ref).getD i .aQ:=by
    rw [List.map_map]
    refine List.map_congr_left λi hi=>?_
    show V.ref (ts.getD i 0)=_
    exact (yo (by have:=hin i hi; omega)).symm
   rw [e]
   exact v
 . rw [Array.toArray_toList]
   exact hn
end
end L2
namespace Gen
open PySem L2
theorem Cz {n:Nat}(h:n<=8):2 ^ n<=256:=Nat.pow_le_pow_right (by decide) h
abbrev qF:Stmt:=top 24
def jw (H:Hp) (ts:List Addr) (bs:List (List Int)):Prop:=Paired (λt b=>H t=some (.tup (b.map V.int))) ts bs
theorem jw.same {H H':Hp}{ts:List Addr}{bs:List (List Int)}(h:jw H ts bs) (s:ak H H'):jw H' ts bs:=Paired.cb h λt b e=>s _ _ e
def qG (K:W.Frag) (H:Hp) (ts:List Addr) (bs:List (List Int)):Prop:=Paired (λt b=>aR K H t (b.map V.int)) ts bs
theorem jw.t {K:W.Frag}{H:Hp}{ts:List Addr}{bs:List (List Int)}(h:jw H ts bs):qG K H ts bs:=Paired.cb h λt b e=>aR.of e
theorem E2 {K:W.Frag}{H H':Hp}{a:Addr}{xs:List V}(e:ak H H') (h:aR K H a xs):aR K H' a xs:=by
 rcases h with (h | ⟨o,h⟩) | h
 . exact .inl (.inl (e a _ h))
 . exact .inl (.inr ⟨o,e a _ h⟩)
 . exact .inr h
theorem qG.same {K:W.Frag}{H H':Hp}{ts:List Addr}{bs:List (List Int)}(h:qG K H ts bs) (s:ak H H'):qG K H' ts bs:=Paired.cb h λt b e=>E2 s e
def ze (K:W.Frag):Sp:=λvs H Q _=>∃(n:Nat),vs=[.int (n:Int)]/\n<=8/\∀p us H',ak H H'->H p=none->H' p=some (.lst (us.map V.ref))->qG K H' us (bf n)->Q (.ref p) H'
theorem J9 (r:List Int) (b:Int):(r.map V.int++[V.int b])=(r++[b]).map V.int:=by rw [List.map_append]; rfl
theorem E3 {K:W.Frag}{b:Int}{D p:Addr}{Q:Hp->Prop}{H1:Hp}{ts:List Addr}{bs:List (List Int)}(hD:H1 D=none) (hp:H1 p=some (.lst (ts.map V.ref))) (h2:jw H1 ts bs) (hlen:bs.length<=256) (hk:∀r∈bs,r.length<=8)
 (fin:∀H4 ws,ak H1 H4->H4 D=some (.lst (ws.map V.ref))->jw H4 ws (bs.map (· ++ [b]))->Q H4) :
 ∃W:Nat->Nat->St->Hp->Prop,(∃m,W 0 m [none] (upd H1 D (.lst [])))/\tL D (eS 0) kY (qR (wK K) (kE 0) (FG (j6 (tC (.int b)) xj))) (oQ K p) W Q:=by
 have hl:=h2.length
 refine gZ bs.length (λj acc cA H4=>(∃ws:List Addr,acc=ws.map V.ref/\jw H4 ws ((bs.take j).map (· ++ [b]))/\ws.length=j)/\(∃u,cA=[u])/\ak H1 H4) ⟨⟨[],rfl,.nil,rfl⟩,⟨none,rfl⟩,ak.au hD⟩ af ?_ ?_
 . rintro acc cA H4 dc ⟨⟨ws,rfl,Iz,_⟩,_,s4⟩
   rw [List.take_length] at Iz
   exact ⟨⟨_,av.of (s4 _ _ hp),by rw [List.length_map,hl]; exact Nat.le_refl _⟩,fin H4 ws s4 dc Iz⟩
 . rintro j acc cA H4 hj dc ⟨⟨ws,rfl,Iz,xx⟩,⟨u,rfl⟩,s4⟩
   have zf:bs[j]?=some bs[j]:=List.getElem?_eq_getElem hj
   obtain ⟨t,ht,hT⟩:=cF h2 (i:=j) zf
   have ej:(ts.map V.ref)[j]?=some (.ref t):=by rw [List.getElem?_map,ht]; rfl
   refine ⟨⟨_,_,av.of (s4 _ _ hp),ej⟩,?_⟩
   rintro x' H' ⟨rfl,iz⟩
   have ex:=iz _ (av.of (s4 _ _ hp))
   rw [ej] at ex
   cases ex
   refine d5 ?_
   have Dj:(bs.take (j+1)).map (· ++ [b])=(bs.take j).map (· ++ [b])++[bs[j]++[b]]:=by
    rw [List.take_succ,zf,List.map_append]
    rfl
   have xN:=hk _ (List.getElem_mem hj)
   generalize bs[j]=r at hT Dj xN
   have MY:∀(R:Addr) (J:Hp),ak H' J->J R=some (.tup ((r++[b]).map V.int))->∃acc,J D=some (.lst acc)/\acc.length<sizeLine/\∃m',m'<bs.length-j/\DK D bs.length (λj acc cA H4=>(∃ws:List Addr,acc=ws.map V.ref/\jw H4 ws ((bs.take j).map (· ++ [b]))/\ws.length=j)/\(∃u,cA=[u])/\ak H1 H4) (j+1) m' [some (.ref t)] (upd J D (.lst (acc++[.ref R]))):=by
    intro R J sJ hR
    have SV:=sJ _ _ dc
    have nt:∀{b:Addr}{o:List V},J b=some (.tup o)->b≠D:=λhb e=>by rw [e,SV] at hb; cases hb
    refine ⟨_,SV,(by rw [List.length_map]; exact small (by omega)),cX hj af ⟨⟨ws++[R],by rw [List.map_append]; rfl,?_,by rw [List.length_append,List.length_singleton,xx]⟩,⟨_,rfl⟩,?_⟩⟩
    . rw [Dj]
      refine Paired.snoc (Paired.cb Iz λc d e=>?_) ?_
      . have:=sJ _ _ e
        rw [ag (nt this)]
        exact this
      . rw [ag (nt hR)]
        exact hR
    . intro y o hy
      rw [ag (ae hy hD)]
      exact sJ _ _ (s4 _ _ hy)
   refine ⟨_,rfl,(by show 1<=sizeLine; decide),λT1 hT1=>?_⟩
   have z1:ak H' (upd H' T1 (.tup [.int b])):=ak.au hT1
   have z2:(upd H' T1 (.tup [.int b])) T1=some (.tup [.int b]):=af
   generalize upd H' T1 (.tup [.int b])=J3 at z1 z2 ⊢
   refine ⟨t,T1,_,_,rfl,rfl,aR.of (z1 _ _ (s4 _ _ hT)),aR.of z2,(by simp),?_,λe=>?_,λ_ R hR=>?_⟩
   . rw [List.length_map]
     exact fU (by show r.length+1<=1000; omega)
   . have:r=[]:=List.map_eq_nil_iff.mp e
     subst this
     exact MY T1 J3 z1 z2
   . exact MY R _ (z1.trans (ak.au hR)) (by rw [af,J9])
section
variable {P:Program}{w:World}{K:W.Frag}{mg:Str->Option Value}{base:Heap}
theorem E4 {H H':Hp}{D:Addr}(s:ak H H') (h:H' D=none):H D=none:=by
 cases e:H D with
 | none=>rfl
 | some o=>rw [s _ _ e] at h; cases h
theorem CA:aY ["_law_many", "_law_found", "_law_k"] ["_law_many"] (ar qF):=⟨rfl,rfl,rfl,by decide +kernel,rfl,by decide +kernel,by decide +kernel⟩
theorem zQ {f:Addr}{fd:FuncData}(F:cq K "_law_all_bits" "_law_all_bits" qF f fd) (O:Own mg) (hS:mg "sorted" = none):ax P w K mg base aD 1 f fd ["_law_many"] (ze K):=by
 refine F.ok CA (λvs H Q E h=>?_) (λcdv A outer s H vs Q E hr h=>?_)
 . obtain ⟨k,rfl,_⟩:=h
   rfl
 . obtain ⟨n,rfl,n8,kk⟩:=h
   refine ⟨_,ai (aE (i:=1) CA.nd rfl (Or.inl rfl) (cP (aa (dJ ah) ah)))
    (ai (dG PassesOwn.never rfl (fj rfl O.range (aa (pv 0) ah)) (aF (i:=2) CA.nd rfl (Or.inl rfl))
     (aw (aE (i:=1) CA.nd rfl (Or.inl rfl) (aK fQ
      (eT (N:=["_law_one"]) (js:=[none]) (by kernel_rfl) rfl (cG (pv 1)) (λ_ _ _ _ _ _=>aF (i:=0) HR rfl (Or.inl rfl) (.inr rfl)) (λ_ _ _ _ _ _=>cm) (λ_ _ _ _ _ _=>aK (r:=wK K) AQ (pv 0) (dJ (aa aq ah))))
      (eT (N:=["_law_one"]) (js:=[none]) (by kernel_rfl) rfl (cG (pv 1)) (λ_ _ _ _ _ _=>aF (i:=0) HR rfl (Or.inl rfl) (.inr rfl)) (λ_ _ _ _ _ _=>cm) (λ_ _ _ _ _ _=>aK (r:=wK K) AQ (pv 0) (dJ (aa aq ah))))))))
    (aw (aW (bG zd (by rfl) hS PyProof.Rows.boot_sorted (aa (pv 1) ah))))),?_⟩
   refine ⟨(by show 0<=sizeLine; decide),λe he=>?_⟩
   have t0:ak H (upd H e (.tup [])):=ak.au he
   have q0:(upd H e (.tup [])) e=some (.tup (([]:List Int).map V.int)):=af
   generalize upd H e (.tup [])=H0 at t0 q0 ⊢
   refine ⟨(by show 1<=sizeLine; decide),λp0 xT=>?_⟩
   have t1:ak H0 (upd H0 p0 (.lst [.ref e])):=ak.au xT
   have q1:(upd H0 p0 (.lst [.ref e])) p0=some (.lst ([e].map V.ref)):=af
   generalize upd H0 p0 (.lst [.ref e])=H1 at t1 q1 ⊢
   have t01:=t0.trans t1
   refine ⟨_,rfl,_,rfl,Int.le_trans (by decide : -(2 ^ 62)<=(0:Int)) (by omega),Int.lt_of_le_of_lt (by omega:((n:Nat):Int)<=256) (by decide),iE (n:=((n:Int)).toNat) (λi σ Hi=>∃(p:Addr) (ts:List Addr) (v2:Option V),σ=[some (.int (n:Int)),some (.ref p),v2]/\Hi p=some (.lst (ts.map V.ref))/\jw Hi ts (bo i)/\ak H Hi) ?_ ?_ ?_⟩
   . exact ⟨p0,[e],none,rfl,q1,.cons (t1 _ _ q0) .nil,t01⟩
   . rintro i σ Hi hi ⟨p,ts,v2,rfl,hp,iJ,si⟩
     rw [Int.toNat_natCast] at hi
     have vI:(bo i).length<=256:=by
      rw [dj]
      exact Cz (by omega)
     have me:∀r∈bo i,r.length<=8:=λr EH=>by rw [lP i r EH]; omega
     refine ⟨_,rfl,p,rfl,⟨_,av.of hp⟩,λD hD=>E3 hD hp iJ vI me λH2 ws s2 pe HN=>?_⟩
     refine ⟨_,rfl,p,rfl,⟨_,av.of (s2 _ _ hp)⟩,λD' hD'=>E3 hD' (s2 _ _ hp) (iJ.same s2) vI me λH3 ws' s3 vH HP=>?_⟩
     have l1:=HN.length
     have l2:=HP.length
     rw [List.length_map] at l1 l2
     refine ⟨D,D',_,_,rfl,rfl,s3 _ _ pe,vH,(by rw [List.length_map,List.length_map]; exact fU (by omega)),λR hR=>⟨R,ws++ws',_,rfl,?_,?_,?_⟩⟩
     . rw [af,List.map_append]
     . rw [bo]
       exact cL (Paired.cb HN λt b e=>by have:=s3 _ _ e; rw [ag (ae this hR)]; exact this) (Paired.cb HP λt b e=>by rw [ag (ae e hR)]; exact e)
     . exact si.trans (s2.trans (s3.trans (ak.au hR)))
   . rintro σ Hi ⟨p,ts,v2,rfl,hp,iJ,si⟩
     rw [Int.toNat_natCast] at iJ
     refine ⟨_,rfl,p,ts,n,rfl,av.of hp,iJ.t,n8,λD rF hD VZ=>?_⟩
     exact kk D rF _ (si.trans (ak.au hD)) (E4 si hD) af (qG.same VZ (ak.au hD))
end
def bI (b:Bool):Int:=if b=true then 1 else 0
def rowOf (e:Str->Bool) (names:List Str):List Int:=names.map λn=>bI (e n)
theorem jn:∀k,bf (k+1)=(bf k).map (0 :: ·)++(bf k).map (1 :: ·)
 | 0=>rfl
 | k+1=>by
  have dist:∀(x:Int) (l:List (List Int)),(l.map (x :: ·)).flatMap (λr=>[r++[(0:Int)],r++[1]])=(l.flatMap λr=>[r++[(0:Int)],r++[1]]).map (x :: ·):=λx l=>by
   induction l with
   | nil=>rfl
   | cons a l ih=>rw [List.map_cons,List.flatMap_cons,ih,List.flatMap_cons,List.map_append]; rfl
  have h:=jn k
  rw [show bf (k+1+1)=(bf (k+1)).flatMap λr=>[r++[0],r++[1]] from rfl,h,List.flatMap_append,dist,dist,← h]
  rfl
theorem zg {k t:Nat}(h:t<2 ^ k):(bf (k+1))[t]?=((bf k)[t]?).map (0 :: ·):=by
 rw [jn,List.getElem?_append_left (by rw [List.length_map,cH]; exact h),List.getElem?_map]
theorem zh {k t:Nat}(h:¬ t<2 ^ k):(bf (k+1))[t]?=((bf k)[t-2 ^ k]?).map (1 :: ·):=by
 rw [jn,List.getElem?_append_right (by rw [List.length_map,cH]; omega),List.length_map,cH,List.getElem?_map]
theorem zi (e:Str->Bool):∀(names:List Str) (bs:List Bool) (t:Nat),bs.length=2 ^ names.length->(bf names.length)[t]?=some (rowOf e names)->ev e (cn names bs)=bs.getD t false
 | [],bs,t,h1,h2=>by
  match bs,h1 with
  | [b],_=>
   have:t<1:=(List.getElem?_eq_some_iff.mp h2).1
   have:t=0:=by omega
   subst this
   rfl
 | n::r,bs,t,h1,h2=>by
  rw [List.length_cons] at h1 h2
  have hp:=yG r.length
  have hq:=Nat.pow_succ 2 r.length
  have lt:=(List.getElem?_eq_some_iff.mp h2).1
  rw [cH] at lt
  rw [PJ,h1,hp]
  by_cases q:t<2 ^ r.length
  . rw [zg q,Option.map_eq_some_iff] at h2
    obtain ⟨x,hx,e1⟩:=h2
    have e2:=List.cons.inj e1
    have en:e n=false:=by
     cases h:e n
     . rfl
     . have:=e2.1
       rw [show (λn=>bI (e n)) n=1 by show bI (e n)=1; rw [h]; rfl] at this
       cases this
    rw [en,if_neg (by decide),zi e r _ t (by rw [List.length_take]; omega) (by rw [hx,e2.2]; rfl),List.getD_eq_getElem?_getD,List.getD_eq_getElem?_getD,List.getElem?_take_of_lt q]
  . rw [zh q,Option.map_eq_some_iff] at h2
    obtain ⟨x,hx,e1⟩:=h2
    have e2:=List.cons.inj e1
    have en:e n=true:=by
     cases h:e n
     . have:=e2.1
       rw [show (λn=>bI (e n)) n=0 by show bI (e n)=0; rw [h]; rfl] at this
       cases this
     . rfl
    rw [en,if_pos rfl,zi e r _ (t-2 ^ r.length) (by rw [List.length_drop]; omega) (by rw [hx,e2.2]; rfl),List.getD_eq_getElem?_getD,List.getD_eq_getElem?_getD,List.getElem?_drop,show 2 ^ r.length+(t-2 ^ r.length)=t by omega]
theorem E5 (e:Str->Bool):∀(names:List Str),∃t,t<2 ^ names.length/\(bf names.length)[t]?=some (rowOf e names)
 | []=>⟨0,by decide,rfl⟩
 | n::r=>by
  obtain ⟨t,h1,h2⟩:=E5 e r
  rw [List.length_cons]
  have hq:=Nat.pow_succ 2 r.length
  cases h:e n
  . refine ⟨t,by omega,?_⟩
    rw [zg h1,h2]
    show some (0::rowOf e r)=some (bI (e n)::rowOf e r)
    rw [h]
    rfl
  . refine ⟨2 ^ r.length+t,by omega,?_⟩
    rw [zh (by omega),Nat.add_sub_cancel_left,h2]
    show some (1::rowOf e r)=some (bI (e n)::rowOf e r)
    rw [h]
    rfl
theorem lD:∀(k:Nat),∀r∈bf k,r.length=k/\∀x∈r,x=0\/x=1
 | 0,r,h=>by
  rw [show r=[] from List.mem_singleton.mp h]
  exact ⟨rfl,λ_ h=>nomatch h⟩
 | k+1,r,h=>by
  rw [jn] at h
  rcases List.mem_append.mp h with h | h
  . obtain ⟨q,hq,rfl⟩:=List.mem_map.mp h
    obtain ⟨l,b⟩:=lD k q hq
    exact ⟨by rw [List.length_cons,l],λx hx=>by rcases List.mem_cons.mp hx with rfl | hx; exact .inl rfl; exact b x hx⟩
  . obtain ⟨q,hq,rfl⟩:=List.mem_map.mp h
    obtain ⟨l,b⟩:=lD k q hq
    exact ⟨by rw [List.length_cons,l],λx hx=>by rcases List.mem_cons.mp hx with rfl | hx; exact .inr rfl; exact b x hx⟩
end Gen
namespace Gen
open PySem L2
section
variable {M:aS}{names:List Str}{bs cs:List Int}
end
structure Fm (M:aS) (names:List Str):Prop where
 ok:cy M names
 n1:M.switches.length<=12
 n2:M.keepers.length<=16
 n3:M.gates.length<=60
def wO (n:Nat) (bs:List Int):Prop:=n=bs.length/\∀b∈bs,b=0\/b=1
theorem Fm.fit {M:aS}{names:List Str}{bs cs:List Int}(h:Fm M names) (hb:wO M.switches.length bs) (hc:wO M.keepers.length cs):rq M names bs cs:=⟨h.ok,hb.1,hc.1,hb.2,hc.2,h.n1,h.n2,h.n3⟩
theorem uB {a b:List (Str×Int)}{n:Str}(h:n∈a.map (·.1)):cD (a++b) n=cD a n:=by
 unfold cD
 rw [List.find?_append]
 cases e:a.find? λr=>decide (r.1=n) with
 | some r=>rfl
 | none=>
  obtain ⟨r,hr,he⟩:=List.mem_map.mp h
  have:=List.find?_eq_none.mp e r hr
  exact absurd (decide_eq_true he) (by simpa using this)
theorem rK {a b:List (Str×Int)}{n:Str}(h:n∉a.map (·.1)):cD (a++b) n=cD b n:=by
 unfold cD
 rw [List.find?_append]
 have e:(a.find? λr=>decide (r.1=n))=none:=List.find?_eq_none.mpr λr hr=>by
  simp only [decide_eq_true_eq]
  intro q
  exact h (List.mem_map.mpr ⟨r,hr,q⟩)
 rw [e]
 rfl
theorem kg:∀(gs:List (Str×Str×Str)) (acc:List (Str×Int)) (n:Str),n∈acc.map (·.1)->cD (gs.foldl eC acc) n=cD acc n
 | [],_,_,_=>rfl
 | g::gs,acc,n,h=>by
  rw [List.foldl_cons,kg gs (eC acc g) n (by unfold eC; rw [List.map_append]; exact List.mem_append_left _ h)]
  exact uB h
end Gen
namespace L2
open PySem PySem.Spec PyProof.Rows
def E6 (K:W.Frag) (a:Addr) (xs:List V):It:=⟨λi H=>av K H a xs/\i<xs.length,λi H x H'=>H'=H/\xs.reverse[i]?=some x,λi H=>i=xs.length⟩
theorem GF {P:Program}{w:World}{K:W.Frag}{tg:Expr}{xs:List V}(a it:Addr):Turn P w K tg (E6 K a xs) [it] it (λi h=>i<=xs.length/\h.IsRevIter it a ((xs.length:Int)-1-(i:Int))) where
 mem:=by simp
 obj:=λi h st b hb=>by
  have e:b=it:=by simpa using hb
  subst e
  obtain ⟨_,o,e,c,d⟩:=st
  exact ⟨o,e,λv z=>by rw [d] at z; cases z⟩
 keep:=λi h h' st k=>⟨st.1,st.2.at λo e=>k it (by simp) o e⟩
 item:=by
  intro X hP hw hK hc i pins s σ H E I hf st hg
  subst hP hw hK
  obtain ⟨hq,hi⟩:=hg
  obtain ⟨its,rv,p,hz⟩:=I.list hq
  have hl:=rv.length
  have hx:xs[xs.length-1-i]?=some (xs[xs.length-1-i]'(by omega)):=List.getElem?_eq_getElem (by omega)
  obtain ⟨u,hu,ru⟩:=rv.get hx
  obtain ⟨f0,f1,f2,f3,f4,f5⟩:=hf it (by simp)
  have hit:=st.2
  have e:(xs.length:Int)-1-(i:Int)=((xs.length-1-i:Nat):Int):=by omega
  rw [e] at hit
  refine wpAny_pyNext_rev_item hit p.isList (x:=u) (by simpa using hu) λh' aG sb=>?_
  have I1:Inv X pins σ H { s with heap:=h' }:=I.turned (t':=s.toks) (λb o hb e=>(sb.2 b hb).trans e) f0 f1 f3 f4 f5
  obtain ⟨o,e1,c,d⟩:=id aG
  have e2:((xs.length-1-i:Nat):Int)-1=(xs.length:Int)-1-((i+1:Nat):Int):=by omega
  rw [e2] at aG
  refine ⟨u,rfl,wG (s:={ s with heap:=h' }) e1 c d (by decide) ⟨_,H,I1,ru,⟨rfl,?_⟩,⟨hi,aG⟩,λb hb=>(hf b hb).1⟩⟩
  rw [List.getElem?_reverse (by omega)]
  exact hx
 done:=by
  intro X hP hw hK hc i pins s σ H E I hf st hg
  subst hP hw hK
  obtain ⟨f0,f1,f2,f3,f4,f5⟩:=hf it (by simp)
  have hit:=st.2
  have hi:i=xs.length:=hg
  have e:(xs.length:Int)-1-(i:Int) = -1:=by omega
  rw [e] at hit
  exact wpAny_pyNext_rev_end (I.ok.hd hc) hit λh' eb=>⟨rfl,I.turned (t':=s.toks) (λb o hb e=>eb b o hb e) f0 f1 f3 f4 f5⟩
 self:=λ_ _ _ _ _ st h=>wpAny_pyIter_revIter st.2 h
section
variable {X:Cx}{tg:Expr}
def PK (K:W.Frag) (ta:TA):TI:=λσ H R=>ta σ H λvs H1=>∃a xs,vs=[.ref a]/\av K H1 a xs/\R (E6 K a xs) H1
theorem M0 {a:Expr}{ta:TA}{p pos:Pos}(hg:Gl X "reversed") (hm:X.mg "reversed" = none) (ha:PA X [a] ta) (hs:starEach [a] X.env=[(false,eval a X.env)]:=by rfl) :
 PI X tg (.Call (.Name "reversed" p) [a] [] pos) (PK X.K ta):=by
 intro pins s σ H R I h
 refine Call_ (iQ I hg hm PyProof.Rows.boot_reversed (PyProof.Rows.callWith_type1 (aN (ha pos pins s σ H _ I h) λus s1 ⟨vs,H1,I1,r1,q1⟩=>?_) hs rfl))
 obtain ⟨l,xs,e,hq,q⟩:=q1
 subst e
 cases r1 with
 | cons r rr=>
  cases rr
  cases r
  obtain ⟨its,rv,pl,hz⟩:=I1.list hq
  have hl:=rv.length
  refine call_reversed_list pl.isList ?_
  have hit:(s1.heap.push (revObj l ((its.toArray.size:Int)-1))).IsRevIter s1.heap.objs.size l ((xs.length:Int)-1-((0:Nat):Int)):=⟨_,Heap.get?_push_size _ rfl,rfl,by simp [revObj,hl]⟩
  refine wpAny_pyIter_revIter hit ?_
  refine ⟨s1.heap.objs.size,[s1.heap.objs.size],_,_,H1,rfl,I1.kept (t':=s1.toks) λb o e=>Heap.get?_push_of_some _ e,GF (xs:=xs) l _,⟨Nat.zero_le _,hit⟩,λb hb=>?_,q⟩
  have e:b=s1.heap.objs.size:=by simpa using hb
  subst e
  exact I1.uL (Nat.le_refl _) (I1.hok.fresh (Nat.le_refl _))
end
theorem Ka {K:W.Frag}{a:Addr}{xs:List V}{g:TG}{tb:TS}{D:Ends}{σ:St}{H:Hp}(Pv:Nat->St->Hp->Prop) (h0:Pv 0 σ H) (hl:∀i σ H,i<=xs.length->Pv i σ H->av K H a xs)
 (hs:∀i x σ H,xs.reverse[i]?=some x->Pv i σ H->g x σ H λiu H2=>tb { D with nx:=Pv (i+1),ct:=Pv (i+1),bk:=D.nx } iu H2) (hd:∀σ H,Pv xs.length σ H->D.nx σ H) :
 ∃W:Nat->Nat->St->Hp->Prop,(∃m,W 0 m σ H)/\∀i m σ H,W i m σ H->
  ((E6 K a xs).stop i H/\D.nx σ H)\/((E6 K a xs).go i H/\∃N:St->Hp->Prop,(∀cA H',N cA H'->∃m',m'<m/\W (i+1) m' cA H')/\∀x H',(E6 K a xs).yld i H x H'->g x σ H' λiu H2=>tb { D with nx:=N,ct:=N,bk:=D.nx } iu H2):=by
 refine ⟨λi m σ H=>m=xs.length-i/\i<=xs.length/\Pv i σ H,⟨xs.length,by simp,Nat.zero_le _,h0⟩,?_⟩
 rintro i m σ H ⟨rfl,hi,p⟩
 have q:=hl i σ H hi p
 by_cases eW:i<xs.length
 . refine .inr ⟨⟨q,eW⟩,Pv (i+1),λcA H' p'=>⟨xs.length-(i+1),by omega,rfl,eW,p'⟩,λx H' y=>?_⟩
   obtain ⟨e,y⟩:=y
   subst e
   exact hs i x σ _ y p
 . have e:i=xs.length:=by omega
   subst e
   exact .inl ⟨rfl,hd σ H p⟩
end L2
namespace Gen
open PySem L2
structure MF (C:Addr) (H:Hp) (x dx g1 g2 g3 g4 g5 g6:Addr) (ts:List Addr) (M:aS):Prop where
 hx:H x=some (.ins C dx (nU g1 g2 g3 g4 g5 g6))
 h1:H g1=some (.lst (M.switches.map V.str))
 h2:H g2=some (.dK (M.keepers.map λr=>((.inr r.1:Key),r.2)))
 h3:H g3=some (.lst (ts.map V.ref))
 hp:Paired (λt r=>H t=some (.tup (jU r))) ts M.gates
theorem MF.same {C:Addr}{H H':Hp}{x dx g1 g2 g3 g4 g5 g6:Addr}{ts:List Addr}{M:aS}(h:MF C H x dx g1 g2 g3 g4 g5 g6 ts M) (s:ak H H'):MF C H' x dx g1 g2 g3 g4 g5 g6 ts M:=
 ⟨s _ _ h.hx,s _ _ h.h1,s _ _ h.h2,s _ _ h.h3,Paired.cb h.hp λt r e=>s _ _ e⟩
theorem GG {n:Str}{l:List (Str×V)}(h:n∉l.map (·.1)):aZ (fq l) (.inr n)=none:=by
 have:=sr n l
 rw [decide_eq_false h] at this
 cases e:aZ (fq l) (.inr n) with
 | none=>rfl
 | some v=>rw [e] at this; cases this
theorem pS:∀(l:List (Str×V)) (acc:List (Str×V)),((acc++l).map (·.1)).Nodup->bw (fq acc) (fq l)=fq (acc++l)
 | [],acc,_=>by rw [List.append_nil]; rfl
 | r::l,acc,h=>by
  have e:acc++r::l=(acc++[r])++l:=by simp
  have hn:r.1∉acc.map (·.1):=λhm=>by
   rw [List.map_append] at h
   exact (List.nodup_append.mp h).2.2 _ hm _ (by simp) rfl
  have h1:putK (fq acc) (.inr r.1) r.2=fq (acc++[r]):=by
   rw [kI _ (GG hn)]
   unfold fq
   rw [List.map_append]
   rfl
  show bw (putK (fq acc) (.inr r.1) r.2) (fq l)=_
  rw [h1,e]
  exact pS l (acc++[r]) (by rw [← e]; exact h)
theorem pT {l:List (Str×Str)}(h:(l.map (·.1)).Nodup):bw [] (gQ l)=gQ l:=by
 rw [Pu]
 exact pS _ [] (by rw [List.nil_append,List.map_map]; exact h)
theorem kh {α β γ δ:Type} {F:α->γ->Prop}{F':α->δ->Prop}{g:β->γ}{h:β->δ} : ∀{ts:List α}{l:List β},Paired F ts (l.map g)->(∀t x,F t (g x)->F' t (h x))->Paired F' ts (l.map h)
 | [],[],_,_=>.nil
 | t::ts,x::l,.cons r p,k=>.cons (k t x r) (kh p k)
theorem qH {H:Hp}{a:Addr}{α:Type}{l:List α}{g:α->List V}{h:α->Key×V}(e:∀x,g x=[kV (h x).1,(h x).2]) (t:bj H a (l.map g)):∃ts:List Addr,H a=some (.lst (ts.map V.ref))/\Paired (λt kv=>H t=some (.tup [kV kv.1,kv.2])) ts (l.map h):=by
 obtain ⟨ts,h1,h2⟩:=t
 exact ⟨ts,h1,kh h2 λt x hx=>by rw [← e x]; exact hx⟩
theorem pU {α β γ:Type} {F:α->β->Prop}{g:γ->β} : ∀{us:List α}{l:List γ},Paired F us (l.map g)->Paired (λt r=>F t (g r)) us l
 | [],[],_=>.nil
 | _::_,_::_,.cons h t=>.cons h (pU t)
 | _::_,[],h=>nomatch h
 | [],_::_,h=>nomatch h
def vE (M:aS) (e:Str->Bool):List (Str×Int):=cU M (rowOf e M.switches) (rowOf e (M.keepers.map (·.1))) M.gates.length
def dE (M:aS) (e:Str->Bool) (n:Str):Bool:=decide (df (vE M e) n=1)
theorem uC (e:Str->Bool) (l:List Str):∀b∈rowOf e l,b=0\/b=1:=λb hb=>by
 unfold rowOf at hb
 obtain ⟨n,_,rfl⟩:=List.mem_map.mp hb
 unfold bI
 cases e n
 . exact .inl rfl
 . exact .inr rfl
theorem vf (M:aS) (e:Str->Bool):nX (vE M e):=pK (uC e _) (uC e _) _
theorem vg (M:aS) (e:Str->Bool) (i:Nat):(cU M (rowOf e M.switches) (rowOf e (M.keepers.map (·.1))) i).map (·.1)=M.switches++M.keepers.map (·.1)++(M.gates.take i).map (·.1):=iL (by unfold rowOf; rw [List.length_map]) (by unfold rowOf; rw [List.length_map,List.length_map]) i
theorem pV (e:Str->Bool):∀{l:List Str}{n:Str},n∈l->cD (l.zip (rowOf e l)) n=bI (e n)
 | [],_,h=>nomatch h
 | x::l,n,h=>by
  by_cases q:x=n
  . subst q
    show cD ((x,bI (e x))::l.zip (rowOf e l)) x=_
    unfold cD
    rw [List.find?_cons_of_pos (by simp)]
    rfl
  . have h':n∈l:=by
     rcases List.mem_cons.mp h with z | z
     . exact absurd z.symm q
     . exact z
    have ih:=pV e h'
    show cD ((x,bI (e x))::l.zip (rowOf e l)) n=_
    unfold cD at ih ⊢
    rw [List.find?_cons_of_neg (by simpa using q)]
    exact ih
theorem Bh (b:Bool):decide (bI b=1)=b:=by cases b <;> decide
theorem M3 (M:aS) (e:Str->Bool):dE M e "0" = false:=by unfold dE; rw [uh]; decide
theorem M4 (M:aS) (e:Str->Bool):dE M e "1" = true:=by unfold dE; rw [ui]; decide
section
variable {M:aS}{names:List Str}
theorem jN (ok:cy M names):(M.switches++M.keepers.map (·.1)++M.gates.map (·.1)).Nodup:=ok.all ▸ ok.nd
theorem E7 (ok:cy M names) (e:Str->Bool){n:Str}(h:n∈M.keepers.map (·.1)++M.switches):dE M e n=e n:=by
 have hn:n∈M.switches++M.keepers.map (·.1):=by
  rcases List.mem_append.mp h with h | h
  . exact List.mem_append_right _ h
  . exact List.mem_append_left _ h
 have hN:ba n:=ok.nm n (by rw [ok.all]; exact List.mem_append_left _ hn)
 unfold dE vE cU
 rw [iK hN,kg _ _ _ (by
  unfold uk
  rw [List.map_append,eP (by simp [rowOf]),eP (by simp [rowOf])]
  exact hn)]
 unfold uk
 by_cases hs:n∈M.switches
 . rw [uB (by rw [eP (by simp [rowOf])]; exact hs),pV e hs,Bh]
 . have hk:n∈M.keepers.map (·.1):=by
    rcases List.mem_append.mp hn with z | z
    . exact absurd z hs
    . exact z
   rw [rK (by rw [eP (by simp [rowOf])]; exact hs),pV e hk,Bh]
theorem CC (e:Str->Bool) (x:Str) (hx:ba x):dE M e ("~" ++ x) = !dE M e x:=by
 unfold dE
 rw [ke,iK hx]
 rcases pJ (vf M e) x with h | h <;> rw [h] <;> decide
theorem uD (e:Str->Bool){i:Nat}{z:Str}(hz:Lit (M.switches++M.keepers.map (·.1)++(M.gates.take i).map (·.1)) z) (ok:cy M names):df (cU M (rowOf e M.switches) (rowOf e (M.keepers.map (·.1))) i) z=df (vE M e) z:=by
 have key:∀x∈M.switches++M.keepers.map (·.1)++(M.gates.take i).map (·.1),cD (vE M e) x=cD (cU M (rowOf e M.switches) (rowOf e (M.keepers.map (·.1))) i) x:=λx hx=>by
  have es:vE M e=(M.gates.drop i).foldl eC (cU M (rowOf e M.switches) (rowOf e (M.keepers.map (·.1))) i):=by
   unfold vE cU
   rw [List.take_length,← List.foldl_append,List.take_append_drop]
  rw [es]
  exact kg _ _ _ (by rw [vg]; exact hx)
 have nm:∀x∈M.switches++M.keepers.map (·.1)++(M.gates.take i).map (·.1),ba x:=λx hx=>ok.nm x (by
  rw [ok.all]
  rcases List.mem_append.mp hx with h | h
  . exact List.mem_append_left _ h
  . obtain ⟨g,hg,rfl⟩:=List.mem_map.mp h
    exact List.mem_append_right _ (List.mem_map.mpr ⟨g,List.mem_of_mem_take hg,rfl⟩))
 rcases hz with rfl | rfl | ⟨x,hx,rfl | rfl⟩
 . rw [uh,uh]
 . rw [ui,ui]
 . rw [iK (nm _ hx),iK (nm _ hx),key _ hx]
 . rw [ke,ke,key _ hx]
theorem E8 (ok:cy M names) (e:Str->Bool){i:Nat}{g:Str×Str×Str}(hg:M.gates[i]?=some g):dE M e g.1=(dE M e g.2.1 && dE M e g.2.2):=by
 have hi:=(List.getElem?_eq_some_iff.mp hg).1
 have eg:M.gates[i]=g:=(List.getElem?_eq_some_iff.mp hg).2
 obtain ⟨l1,l2⟩:=ok.gl i g hg
 have hN:ba g.1:=ok.nm _ (by rw [ok.all]; exact List.mem_append_right _ (List.mem_map.mpr ⟨g,List.mem_of_getElem? hg,rfl⟩))
 have hn:g.1∉(cU M (rowOf e M.switches) (rowOf e (M.keepers.map (·.1))) i).map (·.1):=by
  rw [vg]
  have:=jN ok
  intro hm
  have e2:M.gates.map (·.1)=(M.gates.take i).map (·.1)++g.1::(M.gates.drop (i+1)).map (·.1):=by
   rw [← eg,← List.map_cons (f:=(·.1)) (a:=M.gates[i]),← List.drop_eq_getElem_cons hi,← List.map_append,List.take_append_drop]
  rw [e2,← List.append_assoc] at this
  exact (List.nodup_append.mp this).2.2 _ hm _ List.mem_cons_self rfl
 have ex:df (vE M e) g.1=df (vE M e) g.2.1*df (vE M e) g.2.2:=by
  have es:vE M e=(M.gates.drop (i+1)).foldl eC (cU M (rowOf e M.switches) (rowOf e (M.keepers.map (·.1))) (i+1)):=by
   unfold vE cU
   rw [List.take_length,← List.foldl_append,List.take_append_drop]
  rw [iK hN]
  conv=>lhs; rw [es]
  rw [kg _ _ _ (by rw [vg]; exact List.mem_append_right _ (List.mem_map.mpr ⟨g,by rw [← eg]; exact List.mem_take_iff_getElem.mpr ⟨i,by omega,rfl⟩,rfl⟩)),wd hi,eg]
  unfold eC
  rw [rK hn,uD e l1 ok,uD e l2 ok]
  unfold cD
  rw [List.find?_cons_of_pos (by simp)]
  rfl
 unfold dE
 rw [ex]
 rcases jg (vf M e) g.2.1 with h | h <;> rcases jg (vf M e) g.2.2 with h' | h' <;> rw [h,h'] <;> decide
end
section
variable {P:Program}{w:World}{K:W.Frag}{mg:Str->Option Value}{base:Heap}
abbrev qI:Stmt:=top 4
def aL (z:Str):Str:=if z.cps.toList[0]?=some 126 then ⟨z.cps.toList.tail.toArray⟩ else z
def E9:Sp:=λvs H Q _=>∃z:Str,vs=[.str z]/\z.length<=1000/\Q (.str (aL z)) H
theorem M5:aY ["literal"] ["literal"] (ar qI):=⟨rfl,rfl,rfl,by decide +kernel,rfl,by decide +kernel,by decide +kernel⟩
theorem Kb {f:Addr}{fd:FuncData}(F:cq K "bare_name" "bare_name" qI f fd):ax P w K mg base aD 1 f fd ["literal"] E9:=by
 refine F.ok M5 (λvs H Q E h=>?_) (λcdv A outer s H vs Q E hr h=>?_)
 . obtain ⟨z,rfl,_⟩:=h
   rfl
 . obtain ⟨z,rfl,hz,kk⟩:=h
   have Ex:z.length<=sizeLine:=Nat.le_trans hz (by decide)
   refine ⟨_,ai (cS (iR (ft PySem.F.plainAttrs_str PySem.F.slot_str_startswith PySem.F.type_str_startswith wa (pv 0) (aa aU ah))) (aw (aW (eu Az (pv 0) (eZ aq) eY))) bz)
    (aw (aW (pv 0))),?_⟩
   have tl:("~" : Str)=⟨#[126]⟩:=by decide +kernel
   refine ⟨_,rfl,rfl,z, "~",rfl,rfl,_,rfl,?_⟩
   rw [tl,uf]
   refine jS (λh=>?_) (λh2=>?_)
   . have e:z.cps.toList[0]?=some 126:=of_decide_eq_true h
     refine ⟨_,rfl,_,rfl,z,1,rfl,rfl,rfl,Ex,?_⟩
     have ts:aL z=Txt.slice z (some 1) none:=by
      rw [aL,if_pos e,m8 (Txt.slice z (some 1) none),ug]
     rw [← ts]
     exact kk
   . have e:¬ z.cps.toList[0]?=some 126:=λe=>h2 (decide_eq_true e)
     rw [aL,if_neg e] at kk
     exact ⟨_,rfl,kk⟩
end
theorem wy {x:Str}(h:ba x):aL x=x:=if_neg (nV h)
theorem uE (x:Str):aL ("~" ++ x)=x:=by
 unfold aL
 rw [if_pos (by rw [gJ]; rfl),gJ]
 exact (m8 x).symm
theorem Fc:aL "0" = "0":=by decide +kernel
theorem Fd:aL "1" = "1":=by decide +kernel
theorem GH:¬ ("0" : Str).cps.toList[0]?=some 126:=by decide +kernel
theorem GI:¬ ("1" : Str).cps.toList[0]?=some 126:=by decide +kernel
theorem zj {names:List Str}{z:Str}(h:Lit names z) (hn:∀x∈names,ba x):aL z = "0" \/ aL z = "1" \/ aL z∈names:=by
 rcases h with rfl | rfl | ⟨x,hx,rfl | rfl⟩
 . exact .inl Fc
 . exact .inr (.inl Fd)
 . rw [wy (hn _ hx)]
   exact .inr (.inr hx)
 . rw [uE]
   exact .inr (.inr hx)
theorem Fe {M:aS}{names:List Str}(e:Str->Bool){z:Str}(h:Lit names z) (hn:∀x∈names,ba x):dE M e z=if z.cps.toList[0]?=some 126 then !dE M e (aL z) else dE M e (aL z):=by
 rcases h with rfl | rfl | ⟨x,hx,rfl | rfl⟩
 . rw [if_neg GH,Fc]
 . rw [if_neg GI,Fd]
 . rw [if_neg (nV (hn _ hx)),wy (hn _ hx)]
 . rw [if_pos (by rw [gJ]; rfl),uE,CC e x (hn _ hx)]
end Gen
namespace Gen
open PySem L2
abbrev qJ:Stmt:=inClass (top 8) 3
abbrev nq:Stmt:=inClass (top 8) 4
structure pW (K:W.Frag) (mg:Str->Option Value) (C:Addr):Prop where
 cl:mj K C
 n1:bU K C "machine"
 n2:bU K C "forest"
 n3:bU K C "planted"
 n4:bU K C "inputs"
 n5:bU K C "nexts"
 n6:bU K C "made_into"
 n7:bU K C "made_without"
 mgC:mg "Grove" = some (.ref C)
def fG (x y pl cK nx mi mw:Addr):List (Str×V):=ao "made_without" (.ref mw) (ao "made_into" (.ref mi) (ao "nexts" (.ref nx) (ao "inputs" (.ref cK) (ao "planted" (.ref pl) (ao "forest" (.ref y) (ao "machine" (.ref x) []))))))
section
variable (x y pl cK nx mi mw:Addr)
theorem M6:(fG x y pl cK nx mi mw).lookup ("machine" : Str)=some (.ref x):=by
 unfold fG
 rw [aj,if_neg (by decide +kernel),aj,if_neg (by decide +kernel),aj,if_neg (by decide +kernel),aj,if_neg (by decide +kernel),aj,if_neg (by decide +kernel),aj,if_neg (by decide +kernel),aj,if_pos rfl]
theorem GJ:(fG x y pl cK nx mi mw).lookup ("forest" : Str)=some (.ref y):=by
 unfold fG
 rw [aj,if_neg (by decide +kernel),aj,if_neg (by decide +kernel),aj,if_neg (by decide +kernel),aj,if_neg (by decide +kernel),aj,if_neg (by decide +kernel),aj,if_pos rfl]
theorem zl:(fG x y pl cK nx mi mw).lookup ("planted" : Str)=some (.ref pl):=by
 unfold fG
 rw [aj,if_neg (by decide +kernel),aj,if_neg (by decide +kernel),aj,if_neg (by decide +kernel),aj,if_neg (by decide +kernel),aj,if_pos rfl]
theorem V0 {m:Str}(h1:m ≠ "machine") (h2:m ≠ "forest") (h3:m ≠ "planted") (h4:m ≠ "inputs") (h5:m ≠ "nexts") (h6:m ≠ "made_into") (h7:m ≠ "made_without"):(fG x y pl cK nx mi mw).lookup m=none:=by
 unfold fG
 rw [aj,if_neg h7,aj,if_neg h6,aj,if_neg h5,aj,if_neg h4,aj,if_neg h3,aj,if_neg h2,aj,if_neg h1]
 rfl
end
structure GA where
 (g dg x dx f1 f2 f3 f4 f5 f6 y dy nm sp nd kn ch im ex pl cK nx mi mw:Addr)
 ts:List Addr
structure GS where
 S:cY
 (PL NX MI MW:List (Key×V))
def GA.own (a:GA):List Addr:=[a.nd,a.kn,a.ch,a.im,a.ex,a.pl,a.nx,a.mi,a.mw]
def KG (H H':Hp) (a:GA):Prop:=∀b o,H b=some o->b∉a.own->H' b=some o
theorem KG.refl {H:Hp}{a:GA} : KG H H a:=λ_ _ h _=>h
theorem KG.trans {H H1 H2:Hp}{a:GA}(x:KG H H1 a) (y:KG H1 H2 a):KG H H2 a:=λb o h n=>y b o (x b o h n) n
theorem KG.of {H H':Hp}{a:GA}(k:Kp H H' a.nd a.kn a.ch a.im a.ex):KG H H' a:=λb o h n=>by
 simp only [GA.own,List.mem_cons,List.not_mem_nil,or_false,not_or] at n
 exact k b o h n.1 n.2.1 n.2.2.1 n.2.2.2.1 n.2.2.2.2.1
theorem KG.same {H H':Hp}{a:GA}(s:ak H H'):KG H H' a:=λb o h _=>s b o h
structure GB (s:GS) (b:Nat):Prop where
 bd:Bd s.S b
 b1:s.PL.length<=b
 b2:s.NX.length<=b
 b3:s.MI.length<=b
 b4:s.MW.length<=b
theorem GB.up {s:GS}{b c:Nat}(h:GB s b) (l:b<=c):GB s c:=⟨h.bd.up l,Nat.le_trans h.b1 l,Nat.le_trans h.b2 l,Nat.le_trans h.b3 l,Nat.le_trans h.b4 l⟩
def Ff (l:List Str):List (Key×V):=l.map λz=>((.inr z:Key),V.bl true)
def aC (M:aS):List Str:=M.keepers.map (·.1)++M.switches
def sP (M:aS) (S:cY) (PL:List (Key×V)):Prop:=∀n v,aZ PL (.inr n)=some v->∃i:Nat,v=.int (i:Int)/\i<S.N.length/\∀e,ev e (aH S.TS i)=dE M e n
theorem sP.grow {M:aS}{S S':cY}{PL:List (Key×V)}(h:sP M S PL) (g:dr S S') (hl:S.N.length=S.TS.length):sP M S' PL:=λn v hv=>by
 obtain ⟨i,e1,l,e2⟩:=h n v hv
 have:=g.le
 exact ⟨i,e1,by omega,λe=>by rw [g.aH (by omega)]; exact e2 e⟩
structure GO (P:Program) (w:World) (CF CM CG:Addr) (H:Hp) (a:GA) (M:aS) (s:GS):Prop where
 hg:H a.g=some (.ins CG a.dg (fG a.x a.y a.pl a.cK a.nx a.mi a.mw))
 fo:FO P w CF H a.y a.dy a.nm a.sp a.nd a.kn a.ch a.im a.ex (aC M) s.S
 mf:MF CM H a.x a.dx a.f1 a.f2 a.f3 a.f4 a.f5 a.f6 a.ts M
 h4:H a.f4=some (.dK (gQ M.nexts))
 h5:H a.f5=some (.dK (gQ M.nevers))
 hp:H a.pl=some (.dK s.PL)
 hin:H a.cK=some (.dK (Ff M.switches))
 hnx:H a.nx=some (.dK s.NX)
 hmi:H a.mi=some (.dK s.MI)
 hmw:H a.mw=some (.dK s.MW)
 ok:∃all,cy M all
 n60:M.gates.length<=60
 pk:sP M s.S s.PL
 p0:∀n:Str,(n = "0" \/ n = "1" \/ n∈aC M)->(aZ s.PL (.inr n)).isSome=true
 d1:a.f1≠a.nd
 d3:a.f3≠a.nd
 dd:[a.f2,a.f4,a.f5,a.pl,a.cK,a.nx,a.mi,a.mw,a.sp,a.ex].Nodup
section
variable {P:Program}{w:World}{CF CM CG:Addr}{H H':Hp}{a:GA}{M:aS}{s:GS}
theorem GO.same (h:GO P w CF CM CG H a M s) (k:ak H H'):GO P w CF CM CG H' a M s:=
 ⟨k _ _ h.hg,h.fo.same k,h.mf.same k,k _ _ h.h4,k _ _ h.h5,k _ _ h.hp,k _ _ h.hin,k _ _ h.hnx,k _ _ h.hmi,k _ _ h.hmw,h.ok,h.n60,h.pk,h.p0,h.d1,h.d3,h.dd⟩
theorem GO.ne (h:GO P w CF CM CG H a M s){i j:Nat}{x y:Addr}(hi:[a.f2,a.f4,a.f5,a.pl,a.cK,a.nx,a.mi,a.mw,a.sp,a.ex][i]?=some x) (hj:[a.f2,a.f4,a.f5,a.pl,a.cK,a.nx,a.mi,a.mw,a.sp,a.ex][j]?=some y) (xQ:i≠j):x≠y:=λe=>by
 subst e
 exact xQ ((List.getElem?_inj (List.getElem?_eq_some_iff.mp hi).1 h.dd).mp (hi.trans hj.symm))
theorem GO.keep (h:GO P w CF CM CG H a M s){S':cY}{eG SW SX SY:List (Key×V)}(fo:FO P w CF H' a.y a.dy a.nm a.sp a.nd a.kn a.ch a.im a.ex (aC M) S') (k:KG H H' a) (hp:H' a.pl=some (.dK eG)) (hnx:H' a.nx=some (.dK SW)) (hmi:H' a.mi=some (.dK SX)) (hmw:H' a.mw=some (.dK SY))
 (pk:sP M S' eG) (p0:∀n:Str,(n = "0" \/ n = "1" \/ n∈aC M)->(aZ eG (.inr n)).isSome=true):GO P w CF CM CG H' a M ⟨S',eG,SW,SX,SY⟩:=by
 have ki:∀{b:Addr}{C dx:Addr}{fs:List (Str×V)},H b=some (.ins C dx fs)->H' b=some (.ins C dx fs):=λ{b} {C} {dx} {fs} hb=>k b _ hb λhm=>by
  simp only [GA.own,List.mem_cons,List.not_mem_nil,or_false] at hm
  rcases hm with e | e | e | e | e | e | e | e | e <;> rw [e] at hb
  . rw [h.fo.hd] at hb; cases hb
  . rw [h.fo.hk] at hb; cases hb
  . rw [h.fo.hc] at hb; cases hb
  . rw [h.fo.hi] at hb; cases hb
  . rw [h.fo.he] at hb; cases hb
  . rw [h.hp] at hb; cases hb
  . rw [h.hnx] at hb; cases hb
  . rw [h.hmi] at hb; cases hb
  . rw [h.hmw] at hb; cases hb
 have kt:∀{b:Addr}{xs:List V},H b=some (.tup xs)->H' b=some (.tup xs):=λ{b} {xs} hb=>k b _ hb λhm=>by
  simp only [GA.own,List.mem_cons,List.not_mem_nil,or_false] at hm
  rcases hm with e | e | e | e | e | e | e | e | e <;> rw [e] at hb
  . rw [h.fo.hd] at hb; cases hb
  . rw [h.fo.hk] at hb; cases hb
  . rw [h.fo.hc] at hb; cases hb
  . rw [h.fo.hi] at hb; cases hb
  . rw [h.fo.he] at hb; cases hb
  . rw [h.hp] at hb; cases hb
  . rw [h.hnx] at hb; cases hb
  . rw [h.hmi] at hb; cases hb
  . rw [h.hmw] at hb; cases hb
 have kl:∀{b:Addr}{xs:List V},H b=some (.lst xs)->b≠a.nd->H' b=some (.lst xs):=λ{b} {xs} hb nb=>k b _ hb λhm=>by
  simp only [GA.own,List.mem_cons,List.not_mem_nil,or_false] at hm
  rcases hm with e | e | e | e | e | e | e | e | e
  . exact nb e
  all_goals rw [e] at hb
  . rw [h.fo.hk] at hb; cases hb
  . rw [h.fo.hc] at hb; cases hb
  . rw [h.fo.hi] at hb; cases hb
  . rw [h.fo.he] at hb; cases hb
  . rw [h.hp] at hb; cases hb
  . rw [h.hnx] at hb; cases hb
  . rw [h.hmi] at hb; cases hb
  . rw [h.hmw] at hb; cases hb
 have kd:∀{b:Addr}{M:List (Key×V)}{i:Nat},H b=some (.dK M)->[a.f2,a.f4,a.f5,a.pl,a.cK,a.nx,a.mi,a.mw,a.sp,a.ex][i]?=some b->(i=0\/i=1\/i=2\/i=4)->H' b=some (.dK M):=λ{b} {M} {i} hb hi h4=>k b _ hb λhm=>by
  simp only [GA.own,List.mem_cons,List.not_mem_nil,or_false] at hm
  rcases hm with e | e | e | e | e | e | e | e | e
  . rw [e,h.fo.hd] at hb; cases hb
  . rw [e,h.fo.hk] at hb; cases hb
  . rw [e,h.fo.hc] at hb; cases hb
  . rw [e,h.fo.hi] at hb; cases hb
  . exact h.ne hi (j:=9) rfl (by omega) e
  . exact h.ne hi (j:=3) rfl (by omega) e
  . exact h.ne hi (j:=5) rfl (by omega) e
  . exact h.ne hi (j:=6) rfl (by omega) e
  . exact h.ne hi (j:=7) rfl (by omega) e
 exact ⟨ki h.hg,fo,⟨ki h.mf.hx,kl h.mf.h1 h.d1,kd h.mf.h2 (i:=0) rfl (by omega),kl h.mf.h3 h.d3,Paired.cb h.mf.hp λ_ _ e=>kt e⟩,kd h.h4 (i:=1) rfl (by omega),kd h.h5 (i:=2) rfl (by omega),hp,kd h.hin (i:=4) rfl (by omega),hnx,hmi,hmw,h.ok,h.n60,pk,p0,h.d1,h.d3,h.dd⟩
theorem GO.grown (h:GO P w CF CM CG H a M s){S':cY}(fo:FO P w CF H' a.y a.dy a.nm a.sp a.nd a.kn a.ch a.im a.ex (aC M) S') (k:Kp H H' a.nd a.kn a.ch a.im a.ex) (g:dr s.S S'):GO P w CF CM CG H' a M ⟨S',s.PL,s.NX,s.MI,s.MW⟩:=
 h.keep fo (KG.of k) (h.fo.dk h.hp (h.ne (i:=3) (j:=9) rfl rfl (by decide)) k) (h.fo.dk h.hnx (h.ne (i:=5) (j:=9) rfl rfl (by decide)) k) (h.fo.dk h.hmi (h.ne (i:=6) (j:=9) rfl rfl (by decide)) k) (h.fo.dk h.hmw (h.ne (i:=7) (j:=9) rfl rfl (by decide)) k) (h.pk.grow g h.fo.fs.len) h.p0
theorem GO.PM (h:GO P w CF CM CG H a M s){n:Str}{i:Nat}(hi:i<s.S.N.length) (he:∀e,ev e (aH s.S.TS i)=dE M e n):GO P w CF CM CG (upd H a.pl (.dK (putK s.PL (.inr n) (.int (i:Int))))) a M ⟨s.S,putK s.PL (.inr n) (.int (i:Int)),s.NX,s.MI,s.MW⟩:=by
 refine h.keep (h.fo.putD h.hp (h.ne (i:=3) (j:=8) rfl rfl (by decide)) (h.ne (i:=3) (j:=9) rfl rfl (by decide))) (λb o hb nb=>?_) af ?_ ?_ ?_ (λm v hv=>?_) (λm hm=>?_)
 . rw [ag λe=>nb (by rw [e]; simp [GA.own])]
   exact hb
 . rw [ag (h.ne (i:=5) (j:=3) rfl rfl (by decide))]; exact h.hnx
 . rw [ag (h.ne (i:=6) (j:=3) rfl rfl (by decide))]; exact h.hmi
 . rw [ag (h.ne (i:=7) (j:=3) rfl rfl (by decide))]; exact h.hmw
 . rw [gr] at hv
   by_cases e:(.inr m:Key)=.inr n
   . rw [if_pos e] at hv
     cases hv
     cases Sum.inr.inj e
     exact ⟨i,rfl,hi,he⟩
   . rw [if_neg e] at hv
     exact h.pk m v hv
 . rw [gr]
   by_cases e:(.inr m:Key)=.inr n
   . rw [if_pos e]; rfl
   . rw [if_neg e]; exact h.p0 m hm
end
inductive zm (P:Program) (w:World) (CF CM CG:Addr) (vs:List V) (H:Hp) (Q:VK):Prop
 | mk (a:GA) (M:aS) (s:GS) (i j b:Nat) (h1:vs=[.ref a.g,.int (i:Int),.int (j:Int)]) (h2:GO P w CF CM CG H a M s) (h3:i<s.S.N.length) (h4:j<s.S.N.length) (h5:GB s b) (h6:b+1022<3000000) (h7:∀(n:Nat) (S':cY) (H':Hp),GO P w CF CM CG H' a M ⟨S',s.PL,s.NX,s.MI,s.MW⟩->Kp H H' a.nd a.kn a.ch a.im a.ex->dr s.S S'->GB ⟨S',s.PL,s.NX,s.MI,s.MW⟩ (b+1022)->n<S'.N.length->(∀e,ev e (aH S'.TS n)=(ev e (aH s.S.TS i) && ev e (aH s.S.TS j)))->Q (.int (n:Int)) H'):zm P w CF CM CG vs H Q
def Bj (P:Program) (w:World) (CF CM CG:Addr):Sp:=λvs H Q _=>zm P w CF CM CG vs H Q
inductive Bk (P:Program) (w:World) (CF CM CG:Addr) (vs:List V) (H:Hp) (Q:VK):Prop
 | mk (a:GA) (M:aS) (s:GS) (i b:Nat) (h1:vs=[.ref a.g,.int (i:Int)]) (h2:GO P w CF CM CG H a M s) (h3:i<s.S.N.length) (h4:GB s b) (h5:b+1022<3000000) (h6:∀(n:Nat) (S':cY) (H':Hp),GO P w CF CM CG H' a M ⟨S',s.PL,s.NX,s.MI,s.MW⟩->Kp H H' a.nd a.kn a.ch a.im a.ex->dr s.S S'->GB ⟨S',s.PL,s.NX,s.MI,s.MW⟩ (b+1022)->n<S'.N.length->(∀e,ev e (aH S'.TS n) = !ev e (aH s.S.TS i))->Q (.int (n:Int)) H'):Bk P w CF CM CG vs H Q
def Fg (P:Program) (w:World) (CF CM CG:Addr):Sp:=λvs H Q _=>Bk P w CF CM CG vs H Q
section
variable {P:Program}{w:World}{K:W.Frag}{mg:Str->Option Value}{base:Heap}{CF CM CG:Addr}
theorem c9:cst 9=1022:=rfl
theorem V1:aY ["self", "one", "other"] ["self", "one", "other"] (ar nq):=⟨rfl,rfl,rfl,by decide +kernel,rfl,by decide +kernel,by decide +kernel⟩
theorem PN:aY ["self", "number"] ["self", "number"] (ar qJ):=⟨rfl,rfl,rfl,by decide +kernel,rfl,by decide +kernel,by decide +kernel⟩
theorem uF (nm sp nd kn ch im ex:Addr):(dq nm sp nd kn ch im ex).lookup ("chosen" : Str)=none:=sL _ _ _ _ _ _ _ (by decide +kernel) (by decide +kernel) (by decide +kernel) (by decide +kernel) (by decide +kernel) (by decide +kernel) (by decide +kernel)
theorem GK {f fC:Addr}{fd dC:FuncData}(F:cq K "both_of" "Grove.both_of" nq f fd) (TG:pW K mg CG) (TF:jj K mg CF)
 (gC:ax P w K mg base aD 10 fC dC pQ (lu P w CF 9)) (mC:Meth K CF "chosen" fC) (bC:Binds K dC pQ []):ax P w K mg base aD 11 f fd ["self", "one", "other"] (Bj P w CF CM CG):=by
 refine F.ok V1 (λvs H Q E h=>?_) (λcdv A outer s H vs Q E hr h=>?_)
 . obtain ⟨a,M,s,i,j,b,rfl,_⟩:=h
   rfl
 . obtain ⟨a,M,s,i,j,b,rfl,hG,hi,hj,hB,hb,kk⟩:=h
   refine ⟨_,aw (aW (bX (bg (pv 0) rfl) TF.cl mC gC hr bC .nil aA (aa (pv 1) (aa (pv 2) (aa aq ah))))),?_⟩
   have two:=hG.fo.fs.two
   have n8:=hG.fo.n8
   refine ⟨_,rfl,a.g,CG,a.dg,_,_,rfl,hG.hg,TG.cl,TG.n2,GJ ..,a.y,a.dy,_,rfl,hG.fo.hy,uF ..,_,rfl,_,rfl,a.y,a.dy,a.nm,a.sp,a.nd,a.kn,a.ch,a.im,a.ex,aC M,s.S,i,j,0,b,rfl,hG.fo,hi,hj,by omega,by omega,hB.bd,by rw [c9]; omega,λn S' H' fo k g B _ _ l e _=>?_⟩
   refine kk n S' H' (hG.grown fo k g) k g ⟨B,Nat.le_trans hB.b1 (Nat.le_add_right ..),Nat.le_trans hB.b2 (Nat.le_add_right ..),Nat.le_trans hB.b3 (Nat.le_add_right ..),Nat.le_trans hB.b4 (Nat.le_add_right ..)⟩ l λv=>?_
   rw [e v,hG.fo.fs.t0]
   show (if _ then _ else false)=_
   cases ev v (aH s.S.TS i) <;> simp
theorem Kc {f fC:Addr}{fd dC:FuncData}(F:cq K "opposite_of" "Grove.opposite_of" qJ f fd) (TG:pW K mg CG) (TF:jj K mg CF)
 (gC:ax P w K mg base aD 10 fC dC pQ (lu P w CF 9)) (mC:Meth K CF "chosen" fC) (bC:Binds K dC pQ []):ax P w K mg base aD 11 f fd ["self", "number"] (Fg P w CF CM CG):=by
 refine F.ok PN (λvs H Q E h=>?_) (λcdv A outer s H vs Q E hr h=>?_)
 . obtain ⟨a,M,s,i,b,rfl,_⟩:=h
   rfl
 . obtain ⟨a,M,s,i,b,rfl,hG,hi,hB,hb,kk⟩:=h
   refine ⟨_,aw (aW (bX (bg (pv 0) rfl) TF.cl mC gC hr bC .nil aA (aa (pv 1) (aa aq (aa aq ah))))),?_⟩
   have two:=hG.fo.fs.two
   have n8:=hG.fo.n8
   refine ⟨_,rfl,a.g,CG,a.dg,_,_,rfl,hG.hg,TG.cl,TG.n2,GJ ..,a.y,a.dy,_,rfl,hG.fo.hy,uF ..,_,rfl,a.y,a.dy,a.nm,a.sp,a.nd,a.kn,a.ch,a.im,a.ex,aC M,s.S,i,0,1,b,rfl,hG.fo,hi,by omega,by omega,by omega,hB.bd,by rw [c9]; omega,λn S' H' fo k g B _ _ l e _=>?_⟩
   refine kk n S' H' (hG.grown fo k g) k g ⟨B,Nat.le_trans hB.b1 (Nat.le_add_right ..),Nat.le_trans hB.b2 (Nat.le_add_right ..),Nat.le_trans hB.b3 (Nat.le_add_right ..),Nat.le_trans hB.b4 (Nat.le_add_right ..)⟩ l λv=>?_
   rw [e v,hG.fo.fs.t0,hG.fo.fs.t1]
   show (if _ then false else true)=_
   cases ev v (aH s.S.TS i) <;> simp
end
end Gen
namespace Gen
open PySem L2
abbrev qK:Stmt:=inClass (top 8) 1
abbrev jo:Stmt:=inClass (top 8) 2
abbrev cz (kvs:List (Key×V)) (n:Str):Prop:=(aZ kvs (.inr n)).isSome=true
theorem jO:∀(kvs acc:List (Key×V)) (n:Str),cz (bw acc kvs) n ↔ ((∃kv∈kvs,kv.1=(.inr n:Key))\/cz acc n)
 | [],acc,n=>⟨λh=>.inr h,λh=>h.elim (λ⟨_,z,_⟩=>nomatch z) id⟩
 | kv::r,acc,n=>by
  show cz (bw (putK acc kv.1 kv.2) r) n ↔ _
  rw [jO r]
  unfold cz
  rw [gr]
  constructor
  . rintro (⟨q,hq,e⟩ | h)
    . exact .inl ⟨q,List.mem_cons_of_mem _ hq,e⟩
    . by_cases e:(.inr n:Key)=kv.1
      . exact .inl ⟨kv,List.mem_cons_self,e.symm⟩
      . rw [if_neg e] at h
        exact .inr h
  . rintro (⟨q,hq,e⟩ | h)
    . rcases List.mem_cons.mp hq with rfl | hq
      . exact .inr (by rw [if_pos e.symm]; rfl)
      . exact .inl ⟨q,hq,e⟩
    . refine .inr ?_
      by_cases e:(.inr n:Key)=kv.1
      . rw [if_pos e]; rfl
      . rw [if_neg e]; exact h
theorem qL {kvs:List (Key×V)}{n:Str}(h:∃kv∈kvs,kv.1=(.inr n:Key)):cz kvs n:=by
 unfold cz
 cases e:aZ kvs (.inr n) with
 | some v=>rfl
 | none=>obtain ⟨kv,hk,q⟩:=h; exact absurd q (va e kv hk)
theorem Bl {kvs:List (Key×V)}{n:Str}(h:cz kvs n):∃kv∈kvs,kv.1=(.inr n:Key):=by
 unfold cz at h
 cases e:aZ kvs (.inr n) with
 | some v=>exact ⟨_,jK e,rfl⟩
 | none=>rw [e] at h; cases h
theorem ku {ND:List (Key×V)}{x y n:Str} : cz (bw ND (bw [] [(.inr x,.bl true),(.inr y,.bl true)])) n ↔ (n=x\/n=y\/cz ND n):=by
 rw [jO]
 constructor
 . rintro (h | h)
   . have h2:=(jO [(.inr x,.bl true),(.inr y,.bl true)] [] n).mp (qL h)
     rcases h2 with ⟨kv,hk,e⟩ | h2
     . rcases List.mem_cons.mp hk with rfl | hk
       . exact .inl (Sum.inr.inj e).symm
       . rw [List.mem_singleton.mp hk] at e
         exact .inr (.inl (Sum.inr.inj e).symm)
     . cases h2
   . exact .inr (.inr h)
 . rintro (rfl | rfl | h)
   . exact .inl (Bl ((jO _ _ _).mpr (.inl ⟨_,List.mem_cons_self,rfl⟩)))
   . exact .inl (Bl ((jO _ _ _).mpr (.inl ⟨_,List.mem_cons_of_mem _ List.mem_cons_self,rfl⟩)))
   . exact .inr h
theorem uG {M:aS}{all:List Str}(ok:cy M all){i:Nat}{g:Str×Str×Str}{z:Str}(hg:M.gates[i]?=some g) (hz:z=g.2.1\/z=g.2.2):aL z = "0" \/ aL z = "1" \/ aL z∈aC M\/∃j g',j<i/\M.gates[j]?=some g'/\aL z=g'.1:=by
 have hl:Lit (M.switches++M.keepers.map (·.1)++(M.gates.take i).map (·.1)) z:=by
  rcases hz with rfl | rfl
  . exact (ok.gl i g hg).1
  . exact (ok.gl i g hg).2
 have nm:∀x∈M.switches++M.keepers.map (·.1)++(M.gates.take i).map (·.1),ba x:=λx hx=>ok.nm x (by
  rw [ok.all]
  rcases List.mem_append.mp hx with h | h
  . exact List.mem_append_left _ h
  . obtain ⟨g,hg,rfl⟩:=List.mem_map.mp h
    exact List.mem_append_right _ (List.mem_map.mpr ⟨g,List.mem_of_mem_take hg,rfl⟩))
 rcases zj hl nm with h | h | h
 . exact .inl h
 . exact .inr (.inl h)
 . rcases List.mem_append.mp h with h | h
   . refine .inr (.inr (.inl ?_))
     unfold aC
     rcases List.mem_append.mp h with h | h
     . exact List.mem_append_right _ h
     . exact List.mem_append_left _ h
   . obtain ⟨g',my,e⟩:=List.mem_map.mp h
     obtain ⟨j,hj,ej⟩:=List.mem_take_iff_getElem.mp my
     exact .inr (.inr (.inr ⟨j,g',by omega,by rw [List.getElem?_eq_getElem (by omega),ej],e.symm⟩))
theorem zp {M:aS}{all:List Str}(ok:cy M all){i j:Nat}{g g':Str×Str×Str}{z:Str}(hg:M.gates[i]?=some g) (my:M.gates[j]?=some g') (xQ:i<j) (hz:z=g.2.1\/z=g.2.2):g'.1≠aL z:=λe=>by
 have nd:=jN ok
 have hN:ba g'.1:=ok.nm _ (by rw [ok.all]; exact List.mem_append_right _ (List.mem_map.mpr ⟨g',List.mem_of_getElem? my,rfl⟩))
 rcases uG ok hg hz with h | h | h | ⟨k,g2,hk,S0,h⟩
 . exact (qy hN).1 (e.trans h)
 . exact (qy hN).2.1 (e.trans h)
 . have h1:g'.1∈M.switches++M.keepers.map (·.1):=by
    rw [e]
    unfold aC at h
    rcases List.mem_append.mp h with h | h
    . exact List.mem_append_right _ h
    . exact List.mem_append_left _ h
   exact (List.nodup_append.mp nd).2.2 _ h1 _ (List.mem_map.mpr ⟨g',List.mem_of_getElem? my,rfl⟩) rfl
 . have yB:=(List.nodup_append.mp nd).2.1
   have e1:(M.gates.map (·.1))[k]?=(M.gates.map (·.1))[j]?:=by rw [List.getElem?_map,List.getElem?_map,S0,my,Option.map_some,Option.map_some,e,h]
   have:=(List.getElem?_inj (by rw [List.length_map]; exact (List.getElem?_eq_some_iff.mp S0).1) yB).mp e1
   omega
theorem nr {all:List Str}{z:Str}(h:Lit all z) (hn:∀x∈all,ba x):z.length<=1000:=by
 have:Co z:=by
  rcases h with rfl | rfl | ⟨x,hx,rfl | rfl⟩
  . exact .inl rfl
  . exact .inr (.inl rfl)
  . exact .inr (.inr (.inl (hn _ hx)))
  . exact .inr (.inr (.inr ⟨x,hn _ hx,rfl⟩))
 exact Nat.le_trans this.len.2 (by decide)
theorem sQ {a b:List Str}{z:Str}(h:Lit a z) (hs:∀x∈a,x∈b):Lit b z:=by
 rcases h with h | h | ⟨x,hx,h⟩
 . exact .inl h
 . exact .inr (.inl h)
 . exact .inr (.inr ⟨x,hs x hx,h⟩)
inductive zq (P:Program) (w:World) (CF CM CG:Addr) (d:Nat) (vs:List V) (H:Hp) (Q:VK):Prop
 | mk (a:GA) (M:aS) (s:GS) (z:Str) (all:List Str) (b:Nat) (h1:vs=[.ref a.g,.str z]) (h2:GO P w CF CM CG H a M s) (h3:cy M all) (h4:Lit all z) (h5:(d=0->cz s.PL (aL z))) (h6:GB s b) (h7:b+190000*d<2900000) (h8:∀(S':cY) (eG:List (Key×V)) (H':Hp),GO P w CF CM CG H' a M ⟨S',eG,s.NX,s.MI,s.MW⟩->KG H H' a->dr s.S S'->GB ⟨S',eG,s.NX,s.MI,s.MW⟩ (b+190000*d)->(∀n,cz s.PL n->cz eG n)->cz eG (aL z)->Q .aQ H'):zq P w CF CM CG d vs H Q
def vh (P:Program) (w:World) (CF CM CG:Addr) (d:Nat):Sp:=λvs H Q _=>zq P w CF CM CG d vs H Q
inductive Fh (P:Program) (w:World) (CF CM CG:Addr) (d:Nat) (vs:List V) (H:Hp) (Q:VK):Prop
 | mk (a:GA) (M:aS) (s:GS) (z:Str) (all:List Str) (b:Nat) (h1:vs=[.ref a.g,.str z]) (h2:GO P w CF CM CG H a M s) (h3:cy M all) (h4:Lit all z) (h5:(d=0->cz s.PL (aL z))) (h6:GB s b) (h7:b+190000*d<2895000) (h8:∀(n:Nat) (S':cY) (eG:List (Key×V)) (H':Hp),GO P w CF CM CG H' a M ⟨S',eG,s.NX,s.MI,s.MW⟩->KG H H' a->dr s.S S'->GB ⟨S',eG,s.NX,s.MI,s.MW⟩ (b+190000*d+1022)->(∀n,cz s.PL n->cz eG n)->n<S'.N.length->(∀e,ev e (aH S'.TS n)=dE M e z)->Q (.int (n:Int)) H'):Fh P w CF CM CG d vs H Q
def CD (P:Program) (w:World) (CF CM CG:Addr) (d:Nat):Sp:=λvs H Q _=>Fh P w CF CM CG d vs H Q
abbrev nPt:List Str:=["self", "literal", "needed", "name", "one", "other"]
section
variable (P:Program) (w:World) (K:W.Frag) (mg:Str->Option Value) (base:Heap)
structure wQ (fB:Addr) (dB:FuncData):Prop where
 gB:ax P w K mg base aD 1 fB dB ["literal"] E9
 mB:mg "bare_name" = some (.ref fB)
 kB:W.keepIn K (.ref fB)=true
 bB:Binds K dB ["literal"] []
end
section
variable {P:Program}{w:World}{K:W.Frag}{mg:Str->Option Value}{base:Heap}{CF CM CG:Addr}{fB:Addr}{dB:FuncData}
theorem M7:aY ["self", "literal", "number"] ["self", "literal"] (ar qK):=⟨rfl,rfl,rfl,by decide +kernel,rfl,by decide +kernel,by decide +kernel⟩
theorem om:aY nPt ["self", "literal"] (ar jo):=⟨rfl,rfl,rfl,by decide +kernel,rfl,by decide +kernel,by decide +kernel⟩
theorem vi {x y pl cK nx mi mw:Addr} : ∀m∈["plant", "number_of", "opposite_of", "both_of", "either_of", "next_number", "moves_into", "stands_of", "first_stands"],(fG x y pl cK nx mi mw).lookup (m:Str)=none:=λm hm=>by
 simp only [List.mem_cons,List.not_mem_nil,or_false] at hm
 rcases hm with rfl | rfl | rfl | rfl | rfl | rfl | rfl | rfl | rfl <;> exact V0 _ _ _ _ _ _ _ (by decide +kernel) (by decide +kernel) (by decide +kernel) (by decide +kernel) (by decide +kernel) (by decide +kernel) (by decide +kernel)
theorem Bm {f fP fO:Addr}{fd dP dO:FuncData}{d k:Nat}(F:cq K "number_of" "Grove.number_of" qK f fd) (TG:pW K mg CG) (B:wQ P w K mg base fB dB)
 (gP:ax P w K mg base aD (k+11) fP dP ["self", "literal"] (vh P w CF CM CG d)) (mP:Meth K CG "plant" fP) (bP:Binds K dP ["self", "literal"] [])
 (gO:ax P w K mg base aD 11 fO dO ["self", "number"] (Fg P w CF CM CG)) (mO:Meth K CG "opposite_of" fO) (bO:Binds K dO ["self", "number"] []):ax P w K mg base aD (k+11+1) f fd ["self", "literal"] (CD P w CF CM CG d):=by
 refine F.ok M7 (λvs H Q E h=>?_) (λcdv A outer s H vs Q E hr h=>?_)
 . obtain ⟨a,M,s,z,all,b,rfl,_⟩:=h
   rfl
 . obtain ⟨a,M,s,z,all,b,rfl,hG,ok,hz,h0,hB,hb,kk⟩:=h
   have hu:=fu hr
   have cM:bb 1 _:=hr.mono (by omega)
   have hrO:bb 11 _:=hr.mono (by omega)
   have hlen:=nr hz ok.nm
   refine ⟨_,ai (d6 (bX (pv 0) TG.cl mP gP hr bP .nil aA (aa (pv 1) ah)))
    (ai (aE (i:=2) M7.nd rfl (Or.inl rfl) (cC hu (bg (pv 0) rfl) (aB B.gB cM rfl B.mB B.kB B.bB .nil aA (aa (pv 1) ah)) (λ_ _=>rfl)))
    (aw (aW (xa (iR (ft PySem.F.plainAttrs_str PySem.F.slot_str_startswith PySem.F.type_str_startswith wa (pv 1) (aa aU ah))) (bX (pv 0) TG.cl mO gO hrO bO .nil aA (aa (pv 2) ah)) (pv 2))))),?_⟩
   refine ⟨_,rfl,a.g,a.dg,_,rfl,hG.hg,vi _ (by simp),_,rfl,a,M,s,z,all,b,rfl,hG,ok,hz,h0,hB,by omega,λS1 Bn H1 oK k1 g1 B1 m1 p1=>?_⟩
   obtain ⟨v,hv⟩:∃v,aZ Bn (.inr (aL z))=some v:=by
    cases e:aZ Bn (.inr (aL z)) with
    | some v=>exact ⟨v,rfl⟩
    | none=>unfold cz at p1; rw [e] at p1; cases p1
   obtain ⟨i,rfl,li,ei⟩:=oK.pk _ _ hv
   refine ⟨_,rfl,a.g,CG,a.dg,_,_,rfl,oK.hg,TG.cl,TG.n3,zl ..,_,rfl,z,rfl,hlen,a.pl,.int (i:Int),rfl,?_,?_⟩
   . have:=b0.k (k:=.inr (aL z)) oK.hp
     rw [show aZ Bn (.inr (aL z))=some (.int (i:Int)) from hv] at this
     exact this
   have tl:("~" : Str)=⟨#[126]⟩:=by decide +kernel
   refine ⟨_,rfl,rfl,z, "~",rfl,rfl,_,rfl,?_⟩
   rw [tl,uf]
   have me:∀e,dE M e z=if z.cps.toList[0]?=some 126 then !dE M e (aL z) else dE M e (aL z):=λe=>Fe e hz ok.nm
   refine jS (λh=>?_) (λh=>?_)
   . have GN:=of_decide_eq_true h
     refine ⟨_,rfl,a.g,a.dg,_,rfl,oK.hg,vi _ (by simp),_,rfl,a,M,_,i,b+190000*d,rfl,oK,li,B1,by omega,λn S2 H2 Bo k2 g2 B2 l2 e2=>?_⟩
     refine kk n S2 Bn H2 Bo (k1.trans (KG.of k2)) (g1.trans g2) B2 m1 l2 λe=>?_
     rw [e2 e,me e,if_pos GN,ei e]
   . have GN:¬ z.cps.toList[0]?=some 126:=λe=>h (decide_eq_true e)
     refine ⟨_,rfl,kk i S1 Bn H1 oK k1 g1 (B1.up (by omega)) m1 li λe=>?_⟩
     rw [me e,if_neg GN,ei e]
theorem CI {f:Addr}{fd:FuncData}(F:cq K "plant" "Grove.plant" jo f fd) (TG:pW K mg CG) (B:wQ P w K mg base fB dB):ax P w K mg base aD 11 f fd ["self", "literal"] (vh P w CF CM CG 0):=by
 refine F.ok om (λvs H Q E h=>?_) (λcdv A outer s H vs Q E hr h=>?_)
 . obtain ⟨a,M,s,z,all,b,rfl,_⟩:=h
   rfl
 . obtain ⟨a,M,s,z,all,b,rfl,hG,ok,hz,h0,hB,hb,kk⟩:=h
   have hu:=fu hr
   have cM:bb 1 _:=hr.mono (by omega)
   refine ⟨_,ai (cS (jx (tj hu (aB B.gB cM rfl B.mB B.kB B.bB .nil aA (aa (pv 1) ah)) (bg (pv 0) rfl)) (by with_unfolding_all rfl)) (aw zW) bz) C7,?_⟩
   refine ⟨_,rfl,z,rfl,nr hz ok.nm,_,rfl,a.g,CG,a.dg,_,_,rfl,hG.hg,TG.cl,TG.n3,zl ..,a.pl,_,rfl,b0.k (k:=.inr (aL z)) hG.hp,_,rfl,gq (h0 rfl) ?_⟩
   exact kk s.S s.PL H hG KG.refl (.refl _) (hB.up (by omega)) (λ_ h=>h) (h0 rfl)
end
end Gen
namespace Gen
open PySem L2
section
variable {P:Program}{w:World}{K:W.Frag}{mg:Str->Option Value}{base:Heap}{CF CM CG:Addr}{fB:Addr}{dB:FuncData}
theorem eV {H:Hp}{p:Addr}{o o':HO} : upd (upd H p o) p o'=upd H p o':=by
 funext b
 by_cases e:b=p
 . rw [e,af,af]
 . rw [ag e,ag e,ag e]
theorem CJ {f:Addr}{fd:FuncData}(F:cq K "plant" "Grove.plant" jo f fd) (TG:pW K mg CG) (TM:uW K mg CM) (O2:gh mg) (B:wQ P w K mg base fB dB)
 {fN fA:Addr}{dN dA:FuncData}(gN:ax P w K mg base aD 12 fN dN ["self", "literal"] (CD P w CF CM CG 0)) (mN:Meth K CG "number_of" fN) (bN:Binds K dN ["self", "literal"] [])
 (gA:ax P w K mg base aD 11 fA dA ["self", "one", "other"] (Bj P w CF CM CG)) (mA:Meth K CG "both_of" fA) (bA:Binds K dA ["self", "one", "other"] []):ax P w K mg base aD 13 f fd ["self", "literal"] (vh P w CF CM CG 1):=by
 refine F.ok om (λvs H Q E h=>?_) (λcdv A outer s H vs Q E hr h=>?_)
 . obtain ⟨a,M,s,z,all,b,rfl,_⟩:=h
   rfl
 . obtain ⟨a,M,s,z,all,b,rfl,hG,ok,hz,_,hB,hb,kk⟩:=h
   have hu:=fu hr
   have cM:bb 1 _:=hr.mono (by omega)
   have hrA:bb 11 _:=hr.mono (by omega)
   refine ⟨_,ai (cS (jx (tj hu (aB B.gB cM rfl B.mB B.kB B.bB .nil aA (aa (pv 1) ah)) (bg (pv 0) rfl)) (by with_unfolding_all rfl)) (aw zW) bz)
    (ai (aE (i:=2) om.nd rfl (Or.inl rfl) (mq (ef (aB B.gB cM rfl B.mB B.kB B.bB .nil aA (aa (pv 1) ah)) j3 mn) rfl rfl (by simp) (by decide)))
    (ai (dG PassesOwn.never rfl (M0 rfl O2.rev (aa (bg (bg (pv 0) rfl) rfl) ah)) (jz rfl (bY (aF (i:=3) om.nd rfl (Or.inl rfl)) (bY (aF (i:=4) om.nd rfl (Or.inl rfl)) (bY (aF (i:=5) om.nd rfl (Or.inl rfl)) iD))))
     (aw (cS (jx (tj hu (pv 3) (pv 2)) (by with_unfolding_all rfl)) (aw (d6 (ft PySem.F.plainAttrs_dict PySem.F.slot_dict_update PySem.F.type_dict_update Er (pv 2) (aa (mq (ef (aB B.gB cM rfl B.mB B.kB B.bB .nil aA (aa (pv 4) ah)) j3 (ef (aB B.gB cM rfl B.mB B.kB B.bB .nil aA (aa (pv 5) ah)) j3 mn)) rfl rfl (by simp) (by decide)) ah)))) bz)))
    (aw (dG PassesOwn.never rfl (cG (bg (bg (pv 0) rfl) rfl)) (jz rfl (bY (aF (i:=3) om.nd rfl (Or.inl rfl)) (bY (aF (i:=4) om.nd rfl (Or.inl rfl)) (bY (aF (i:=5) om.nd rfl (Or.inl rfl)) iD))))
     (aw (cS (PW.pt (Kz (jx (tj hu (pv 3) (pv 2)) (by with_unfolding_all rfl)) (Jo (jx (Dw hu (pv 3) (bg (pv 0) rfl)) (by with_unfolding_all rfl))))) (aw (eX hu (bg (pv 0) rfl) (pv 3) (bX (pv 0) TG.cl mA gA hrA bA .nil aA (aa (bX (pv 0) TG.cl mN gN hr bN .nil aA (aa (pv 4) ah)) (aa (bX (pv 0) TG.cl mN gN hr bN .nil aA (aa (pv 5) ah)) ah))) rfl)) bz)))))),?_⟩
   have hlen:=nr hz ok.nm
   have S5:∀{i:Nat}{g:Str×Str×Str},M.gates[i]?=some g->Lit all g.2.1/\Lit all g.2.2:=λ{i} {g} hg=>by
    have hs:∀x∈M.switches++M.keepers.map (·.1)++(M.gates.take i).map (·.1),x∈all:=λx hx=>by
     rw [ok.all]
     rcases List.mem_append.mp hx with h | h
     . exact List.mem_append_left _ h
     . obtain ⟨g,hg,rfl⟩:=List.mem_map.mp h
       exact List.mem_append_right _ (List.mem_map.mpr ⟨g,List.mem_of_mem_take hg,rfl⟩)
    exact ⟨sQ (ok.gl i g hg).1 hs,sQ (ok.gl i g hg).2 hs⟩
   refine ⟨_,rfl,z,rfl,hlen,_,rfl,a.g,CG,a.dg,_,_,rfl,hG.hg,TG.cl,TG.n3,zl ..,a.pl,_,rfl,b0.k (k:=.inr (aL z)) hG.hp,_,rfl,jS (λh=>?_) (λGm=>?_)⟩
   . exact kk s.S s.PL H hG KG.refl (.refl _) (hB.up (by omega)) (λ_ h=>h) h
   refine λne cJ=>⟨_,rfl,z,rfl,hlen,af,[(.inr (aL z),.bl true)],rfl,(by show 1<=15; decide),?_⟩
   show dU _ _ _ _ (upd (upd H ne (.dK [])) ne (.dK [(.inr (aL z),.bl true)]))
   rw [eV]
   have s1:ak H (upd H ne (.dK [(.inr (aL z),.bl true)])):=ak.au cJ
   have q1:(upd H ne (.dK [(.inr (aL z),.bl true)])) ne=some (.dK [(.inr (aL z),.bl true)]):=af
   generalize upd H ne (.dK [(.inr (aL z),.bl true)])=H1 at s1 q1 ⊢
   have oK:=hG.same s1
   have M8:=hG.mf.hp.length
   have n60:=hG.n60
   have nn:∀{x:Addr}{o:HO},H x=some o->x≠ne:=λh=>ae h cJ
   have BE:ne∉a.own:=λhm=>by
    simp only [GA.own,List.mem_cons,List.not_mem_nil,or_false] at hm
    rcases hm with e | e | e | e | e | e | e | e | e <;> rw [e] at cJ
    . rw [hG.fo.hd] at cJ; cases cJ
    . rw [hG.fo.hk] at cJ; cases cJ
    . rw [hG.fo.hc] at cJ; cases cJ
    . rw [hG.fo.hi] at cJ; cases cJ
    . rw [hG.fo.he] at cJ; cases cJ
    . rw [hG.hp] at cJ; cases cJ
    . rw [hG.hnx] at cJ; cases cJ
    . rw [hG.hmi] at cJ; cases cJ
    . rw [hG.hmw] at cJ; cases cJ
   refine ⟨_,rfl,a.g,CG,a.dg,_,_,rfl,oK.hg,TG.cl,TG.n1,M6 ..,a.x,CM,a.dx,_,_,rfl,oK.mf.hx,TM.cl,TM.n3,Eu ..,a.f3,_,rfl,av.of oK.mf.h3,Ka (K:=K) (a:=a.f3) (xs:=a.ts.map V.ref) (λi σ Hi=>∃(ND:List (Key×V)) (v3 v4 v5:Option V),σ=[some (.ref a.g),some (.str z),some (.ref ne),v3,v4,v5]/\(∀b u,H1 b=some u->b≠ne->Hi b=some u)/\Hi ne=some (.dK ND)/\ND.length<=1+2*i/\cz ND (aL z)/\∀j g,M.gates[j]?=some g->M.gates.length<=j+i->cz ND g.1->cz ND (aL g.2.1)/\cz ND (aL g.2.2)) ?_ ?_ ?_ ?_⟩
   . refine ⟨_,none,none,none,rfl,λ_ _ h _=>h,q1,Nat.le_refl _,qL ⟨_,List.mem_cons_self,rfl⟩,λj g hg hj _=>?_⟩
     have:=(List.getElem?_eq_some_iff.mp hg).1
     omega
   . rintro i σ Hi _ ⟨ND,v3,v4,v5,rfl,ki,_⟩
     exact av.of (ki _ _ oK.mf.h3 (nn hG.mf.h3))
   . rintro i xv σ Hi hx ⟨ND,v3,v4,v5,rfl,ki,zr,hNl,IA,gz⟩
     have hi:i<M.gates.length:=by
      have:=(List.getElem?_eq_some_iff.mp hx).1
      rw [List.length_reverse,List.length_map] at this
      omega
     rw [List.getElem?_reverse (by rw [List.length_map]; omega),List.length_map,M8] at hx
     have hj0:M.gates.length-1-i<M.gates.length:=by omega
     have lE:M.gates[M.gates.length-1-i]?=some M.gates[M.gates.length-1-i]:=List.getElem?_eq_getElem hj0
     obtain ⟨t,ht,hT⟩:=cF oK.mf.hp lE
     rw [List.getElem?_map,ht] at hx
     cases hx
     generalize M.gates[M.gates.length-1-i]=g0 at lE hT
     have hTi:=ki _ _ hT (a9 hT q1 (by intro z; cases z))
     obtain ⟨lo,lt⟩:=S5 lE
     refine ⟨t,_,rfl,aR.of hTi,rfl,_,_,rfl,_,_,rfl,_,_,rfl,rfl,?_⟩
     refine ⟨_,rfl,_,rfl,ne,_,rfl,b0.k (k:=.inr g0.1) zr,_,rfl,jS (λhin=>?_) (λGQ=>?_)⟩
     . refine ⟨_,rfl,.inr (.inr (.inl ⟨rfl,.inl ⟨_,zr⟩⟩)),λe2 HF=>⟨_,rfl,_,rfl,nr lo ok.nm,_,rfl,_,rfl,nr lt ok.nm,af,[(.inr (aL g0.2.1),.bl true),(.inr (aL g0.2.2),.bl true)],rfl,(by show 2<=15; decide),?_⟩⟩
       rw [eV]
       have s2:ak Hi (upd Hi e2 (.dK (bw [] [(.inr (aL g0.2.1),.bl true),(.inr (aL g0.2.2),.bl true)]))):=ak.au HF
       have q2:(upd Hi e2 (.dK (bw [] [(.inr (aL g0.2.1),.bl true),(.inr (aL g0.2.2),.bl true)]))) e2=some (.dK (bw [] [(.inr (aL g0.2.1),.bl true),(.inr (aL g0.2.2),.bl true)])):=af
       have nne:ne≠e2:=ae zr HF
       have ml:(bw [] [((.inr (aL g0.2.1):Key),V.bl true),(.inr (aL g0.2.2),.bl true)]).length<=2:=by
        have:=eI [((.inr (aL g0.2.1):Key),V.bl true),(.inr (aL g0.2.2),.bl true)] []
        simpa using this
       generalize upd Hi e2 (.dK (bw [] [(.inr (aL g0.2.1),.bl true),(.inr (aL g0.2.2),.bl true)]))=Hj at s2 q2 ⊢
       have hlm:=eI (bw [] [((.inr (aL g0.2.1):Key),V.bl true),(.inr (aL g0.2.2),.bl true)]) ND
       refine ⟨ne,e2,ND,_,rfl,rfl,s2 _ _ zr,.inl q2,nne,fU (by omega),?_⟩
       refine ⟨_,_,_,_,rfl,λb u hb nb=>?_,af,by omega,ku.mpr (.inr (.inr IA)),λj g hg hj hh=>?_⟩
       . rw [ag nb]
         exact s2 _ _ (ki b u hb nb)
       . by_cases ej:j=M.gates.length-1-i
         . subst ej
           rw [lE] at hg
           cases hg
           exact ⟨ku.mpr (.inl rfl),ku.mpr (.inr (.inl rfl))⟩
         . have eW:M.gates.length-1-i<j:=by omega
           rcases ku.mp hh with h | h | h
           . exact absurd h (zp ok lE hg eW (.inl rfl))
           . exact absurd h (zp ok lE hg eW (.inr rfl))
           . obtain ⟨c1,c2⟩:=gz j g hg (by omega) h
             exact ⟨ku.mpr (.inr (.inr c1)),ku.mpr (.inr (.inr c2))⟩
     . refine ⟨ND,_,_,_,rfl,ki,zr,by omega,IA,λj g hg hj hh=>?_⟩
       by_cases ej:j=M.gates.length-1-i
       . subst ej
         rw [lE] at hg
         cases hg
         exact absurd hh GQ
       . exact gz j g hg (by omega) hh
   . rintro σ H2 ⟨ND,v3,v4,v5,rfl,k2,zr,hNl,IA,gz⟩
     rw [List.length_map,M8] at gz
     have lL:ak H H2:=λb u hb=>k2 _ _ (s1 _ _ hb) (nn hb)
     have Bo:=hG.same lL
     refine ⟨_,rfl,a.g,CG,a.dg,_,_,rfl,Bo.hg,TG.cl,TG.n1,M6 ..,a.x,CM,a.dx,_,_,rfl,Bo.mf.hx,TM.cl,TM.n3,Eu ..,a.f3,rfl,⟨_,av.of Bo.mf.h3⟩,iw (K:=K) (a:=a.f3) (xs:=a.ts.map V.ref) (λi σ Hi=>∃(S':cY) (eG:List (Key×V)) (v3 v4 v5:Option V),σ=[some (.ref a.g),some (.str z),some (.ref ne),v3,v4,v5]/\GO P w CF CM CG Hi a M ⟨S',eG,s.NX,s.MI,s.MW⟩/\KG H2 Hi a/\dr s.S S'/\GB ⟨S',eG,s.NX,s.MI,s.MW⟩ (b+3067*i)/\(∀n,cz s.PL n->cz eG n)/\∀j g,M.gates[j]?=some g->j<i->cz ND g.1->cz eG g.1) ?_ ?_ ?_ ?_⟩
     . exact ⟨s.S,s.PL,v3,v4,v5,rfl,Bo,KG.refl,.refl _,hB,λ_ h=>h,λj g hg hj=>absurd hj (Nat.not_lt_zero _)⟩
     . rintro i σ Hi _ ⟨S',eG,v3,v4,v5,rfl,nu,_⟩
       exact av.of nu.mf.h3
     . rintro i xv σ Hi hx ⟨S',eG,v3,v4,v5,rfl,nu,ki,gi,Bi,mi,pi⟩
       have hi:i<M.gates.length:=by
        have:=(List.getElem?_eq_some_iff.mp hx).1
        rw [List.length_map] at this
        omega
       have lE:M.gates[i]?=some M.gates[i]:=List.getElem?_eq_getElem hi
       obtain ⟨t,ht,hT⟩:=cF nu.mf.hp lE
       rw [List.getElem?_map,ht] at hx
       cases hx
       generalize M.gates[i]=g0 at lE hT
       obtain ⟨lo,lt⟩:=S5 lE
       refine ⟨t,_,rfl,aR.of hT,rfl,_,_,rfl,_,_,rfl,_,_,rfl,rfl,?_⟩
       have V2:=ki _ _ zr BE
       have keep:∀{GR:List (Key×V)},(∀n,cz eG n->cz GR n)->(cz ND g0.1->cz GR g0.1)->∀j g,M.gates[j]?=some g->j<i+1->cz ND g.1->cz GR g.1:=λh1 h2 j g hg hj hh=>by
        by_cases ej:j=i
        . subst ej
          rw [lE] at hg
          cases hg
          exact h2 hh
        . exact h1 _ (pi j g hg (by omega) hh)
       refine ⟨_,rfl,_,rfl,ne,_,rfl,b0.k (k:=.inr g0.1) V2,_,rfl,jS (λhin=>?_) (λGQ=>iX ?_)⟩
       . refine ⟨_,rfl,_,rfl,a.g,CG,a.dg,_,_,rfl,nu.hg,TG.cl,TG.n3,zl ..,a.pl,_,rfl,b0.k (k:=.inr g0.1) nu.hp,_,rfl,jS (λhnp=>?_) (λiF=>?_)⟩
         . have early:∀x,(x=g0.2.1\/x=g0.2.2)->cz eG (aL x):=λx hx=>by
            obtain ⟨c1,c2⟩:=gz i g0 lE (by omega) hin
            have Mo:cz ND (aL x):=by
             rcases hx with rfl | rfl
             . exact c1
             . exact c2
            rcases uG ok lE hx with h | h | h | ⟨j,g',hj,my,h⟩
            . exact nu.p0 _ (.inl h)
            . exact nu.p0 _ (.inr (.inl h))
            . exact nu.p0 _ (.inr (.inr h))
            . rw [h]
              exact pi j g' my hj (by rw [← h]; exact Mo)
           refine ⟨_,rfl,a.g,a.dg,_,rfl,nu.hg,vi _ (by simp),?_⟩
           refine ⟨_,rfl,a.g,a.dg,_,rfl,nu.hg,vi _ (by simp),_,rfl,a,M,_,g0.2.1,all,b+3067*i,rfl,nu,ok,lo,λ_=>early _ (.inl rfl),Bi,by omega,λn1 S1 Bn Ha M9 ka ga Ba ma la ea=>?_⟩
           refine ⟨_,rfl,a.g,a.dg,_,rfl,M9.hg,vi _ (by simp),_,rfl,a,M,_,g0.2.2,all,_,rfl,M9,ok,lt,λ_=>ma _ (early _ (.inr rfl)),Ba,by omega,λn2 S2 IB Hb hGb kb gb Bb mb lb eb=>?_⟩
           have gl:S1.N.length<=S2.N.length:=gb.le
           refine ⟨a,M,_,n1,n2,_,rfl,hGb,by show n1<S2.N.length; omega,lb,Bb,by omega,λn3 S3 Hc Na kc gc Bc lc ec=>?_⟩
           refine ⟨_,rfl,a.g,CG,a.dg,_,_,rfl,Na.hg,TG.cl,TG.n3,zl ..,_,rfl,a.pl,_,rfl,gu.k (k:=.inr g0.1) Na.hp (big (by have:=Bc.b1; omega)),?_⟩
           have V3:∀e,ev e (aH S3.TS n3)=dE M e g0.1:=λe=>by
            rw [ec e,E8 ok e lE]
            show (ev e (aH S2.TS n1) && ev e (aH S2.TS n2))=_
            rw [gb.aH (i:=n1) (by have:=M9.fo.fs.len; show n1<S1.TS.length; rw [← this]; exact la),ea e,eb e]
           have hGp:=Na.PM (n:=g0.1) lc V3
           have vj:∀n,cz IB n->cz (putK IB (.inr g0.1) (.int (n3:Int))) n:=λn h=>by
            unfold cz
            rw [gr]
            split
            . rfl
            . exact h
           refine ⟨S3,_,_,_,_,rfl,hGp,((ki.trans ka).trans (kb.trans (KG.of kc))).trans (λx o hx nx=>?_),(gi.trans ga).trans (gb.trans gc),⟨Bc.bd.up (by omega),?_,Nat.le_trans Bc.b2 (by omega),Nat.le_trans Bc.b3 (by omega),Nat.le_trans Bc.b4 (by omega)⟩,λn h=>vj _ (mb _ (ma _ (mi _ h))),keep (λn h=>vj _ (mb _ (ma _ h))) λ_=>?_⟩
           . rw [ag λe=>nx (by rw [e]; simp [GA.own])]
             exact hx
           . have:=Bc.b1
             exact Nat.le_trans (fZ _ _ _) (by show IB.length+1<=_; have h2:IB.length<=_:=this; omega)
           . unfold cz
             rw [gr,if_pos rfl]
             rfl
         . have V4:cz eG g0.1:=by
            cases e:aZ eG (.inr g0.1) with
            | some v=>unfold cz; rw [e]; rfl
            | none=>rw [show aZ (GS.PL ⟨S',eG,s.NX,s.MI,s.MW⟩) (.inr g0.1)=none from e] at iF; exact absurd rfl iF
           exact ⟨S',eG,_,_,_,rfl,nu,ki,gi,Bi.up (by omega),mi,keep (λ_ h=>h) λ_=>V4⟩
       . exact ⟨S',eG,_,_,_,rfl,nu,ki,gi,Bi.up (by omega),mi,keep (λ_ h=>h) λh=>absurd h GQ⟩
     . rintro σ H3 ⟨S',eG,v3,v4,v5,rfl,zt,k3,g3,B3,m3,p3⟩
       rw [List.length_map,M8] at B3 p3
       refine kk S' eG H3 zt (λx o hx nx=>k3 _ _ (lL _ _ hx) nx) g3 (B3.up (by omega)) m3 ?_
       rcases zj hz ok.nm with h | h | h
       . exact zt.p0 _ (.inl h)
       . exact zt.p0 _ (.inr (.inl h))
       . rw [ok.all] at h
         rcases List.mem_append.mp h with h | h
         . refine zt.p0 _ (.inr (.inr ?_))
           unfold aC
           rcases List.mem_append.mp h with h | h
           . exact List.mem_append_right _ h
           . exact List.mem_append_left _ h
         . obtain ⟨g,hg,e⟩:=List.mem_map.mp h
           obtain ⟨j,hj⟩:=List.getElem?_of_mem hg
           have:=(List.getElem?_eq_some_iff.mp hj).1
           rw [← e]
           exact p3 j g hj (by omega) (by rw [e]; exact IA)
end
end Gen
namespace Gen
open PySem L2
abbrev ny:Stmt:=inClass (top 8) 0
abbrev jq:Stmt:=top 10
theorem Kd {D a:Addr}{l:List Str}{K:W.Frag}{Q:Hp->Prop}{H:Hp}(hl:l.length<=600) (hD:H D=none) (ha:H a=some (.lst (l.map V.str)))
 (fin:∀H' (ts:List Addr),ak H H'->H' D=some (.lst (ts.map V.ref))->Paired (λt (kv:Key×V)=>H' t=some (.tup [kV kv.1,kv.2])) ts (l.map λz=>((.inr z:Key),V.bl true))->Q H') :
 ∃W:Nat->Nat->St->Hp->Prop,(∃m,W 0 m [none] (upd H D (.lst [])))/\tL D (eS 0) kY (FG (j6 (kE 0) (j6 (tC (.bl true)) xj))) (oQ K a) W Q:=by
 refine gZ l.length (λi acc σ H9=>(∃ts:List Addr,acc=ts.map V.ref/\Paired (λt (kv:Key×V)=>H9 t=some (.tup [kV kv.1,kv.2])) ts ((l.take i).map λz=>((.inr z:Key),V.bl true)))/\(∃u,σ=[u])/\ak H H9) ⟨⟨[],rfl,.nil⟩,⟨none,rfl⟩,ak.au hD⟩ af ?_ ?_
 . rintro acc σ H9 dc ⟨⟨ts,rfl,iJ⟩,_,s9⟩
   rw [List.take_length] at iJ
   exact ⟨⟨_,av.of (s9 _ _ ha),by rw [List.length_map]; exact Nat.le_refl _⟩,fin H9 ts s9 dc iJ⟩
 . rintro i acc σ H9 hi dc ⟨⟨ts,rfl,iJ⟩,⟨u,rfl⟩,s9⟩
   have pf:l[i]?=some l[i]:=List.getElem?_eq_getElem hi
   have hx:(l.map V.str)[i]?=some (.str l[i]):=by rw [List.getElem?_map,pf]; rfl
   refine ⟨⟨_,_,av.of (s9 _ _ ha),hx⟩,?_⟩
   rintro x H' ⟨rfl,iz⟩
   have ex:=iz _ (av.of (s9 _ _ ha))
   rw [hx] at ex
   cases ex
   refine d5 ⟨_,rfl,(by show 2<=sizeLine; decide),λt ht=>?_⟩
   have S6:D≠t:=ae dc ht
   have rf:=iJ.length
   rw [List.length_map,List.length_take] at rf
   refine ⟨_,(ag S6).trans dc,(by rw [List.length_map]; exact small (by omega)),cX hi af ⟨⟨ts++[t],by rw [List.map_append]; rfl,?_⟩,⟨_,rfl⟩,λb o hb=>?_⟩⟩
   . rw [List.take_succ,pf,Option.toList_some,List.map_append]
     refine cL (Paired.cb iJ λb kv e=>?_) (.cons ?_ .nil)
     . rw [ag (a9 e dc (by intro z; cases z)),ag (ae e ht)]
       exact e
     . rw [ag (Ne.symm S6),af]
       rfl
   . rw [ag (ae hb hD),ag (ae (s9 _ _ hb) ht)]
     exact s9 _ _ hb
theorem FO.CK {P:Program}{w:World}{C y dy nm sp nd kn ch im ex g:Addr}{names:List Str}{S:cY}{H H':Hp}{Cg dg:Addr}{fs:List (Str×V)}(h:FO P w C H y dy nm sp nd kn ch im ex names S) (hg:H g=some (.ins Cg dg fs)) (hy:g≠y) (k:aO H H' g):FO P w C H' y dy nm sp nd kn ch im ex names S:=by
 have ne:∀{b:Addr}{o:HO},H b=some o->(∀C d f,o≠.ins C d f)->b≠g:=λhb ho e=>by
  rw [e,hg] at hb
  exact ho _ _ _ (Option.some.inj hb).symm
 have kt:∀b xs,H b=some (.tup xs)->H' b=some (.tup xs):=λb xs hb=>k _ _ hb (ne hb (by intro _ _ _ z; cases z))
 exact ⟨k _ _ h.hy (Ne.symm hy),k _ _ h.hn (ne h.hn (by intro _ _ _ z; cases z)),k _ _ h.hs (ne h.hs (by intro _ _ _ z; cases z)),k _ _ h.hd (ne h.hd (by intro _ _ _ z; cases z)),Paired.cb h.ht λ_ _ e=>kt _ _ e,k _ _ h.hk (ne h.hk (by intro _ _ _ z; cases z)),k _ _ h.hc (ne h.hc (by intro _ _ _ z; cases z)),h.ck,k _ _ h.hi (ne h.hi (by intro _ _ _ z; cases z)),λp hp=>⟨(h.ik p hp).1.keep kt,(h.ik p hp).2⟩,k _ _ h.he (ne h.he (by intro _ _ _ z; cases z)),
  λkv cv=>let ⟨i,a,b,c⟩:=h.ek kv cv; ⟨i,a,b,c.keep kt⟩,h.e0,h.fs,h.nn,h.ns,h.n8,h.d1,h.d2,h.d3⟩
structure MG (CM:Addr) (H:Hp) (x dx f1 f2 f3 f4 f5 f6:Addr) (ts:List Addr) (M:aS):Prop where
 mf:MF CM H x dx f1 f2 f3 f4 f5 f6 ts M
 h4:H f4=some (.dK (gQ M.nexts))
 h5:H f5=some (.dK (gQ M.nevers))
 ok:∃all,cy M all
 n60:M.gates.length<=60
 n8:(aC M).length<=8
 d24:f2≠f4
 d25:f2≠f5
 d45:f4≠f5
theorem MG.same {CM:Addr}{H H':Hp}{x dx f1 f2 f3 f4 f5 f6:Addr}{ts:List Addr}{M:aS}(h:MG CM H x dx f1 f2 f3 f4 f5 f6 ts M) (s:ak H H'):MG CM H' x dx f1 f2 f3 f4 f5 f6 ts M:=⟨h.mf.same s,s _ _ h.h4,s _ _ h.h5,h.ok,h.n60,h.n8,h.d24,h.d25,h.d45⟩
theorem qM {M:aS}{all:List Str}(ok:cy M all):(aC M).Nodup:=by
 have h:=(List.nodup_append.mp (jN ok)).1
 unfold aC
 rw [List.nodup_append] at h ⊢
 exact ⟨h.2.1,h.1,λa ha b hb e=>h.2.2 b hb a ha e.symm⟩
theorem Bp {M:aS}{all:List Str}(ok:cy M all):∀n∈aC M,ba n:=λn hn=>ok.nm n (by
 rw [ok.all]
 unfold aC at hn
 refine List.mem_append_left _ ?_
 rcases List.mem_append.mp hn with h | h
 . exact List.mem_append_right _ h
 . exact List.mem_append_left _ h)
theorem Br {x:Str}(h:ba x):PyData.strOk x=true:=by
 unfold PyData.strOk
 rw [Array.all_eq_true']
 refine λc hc=>decide_eq_true ?_
 have:=ju.mp (h.2.2 c (Array.mem_toList_iff.mpr hc))
 omega
inductive uH (CM:Addr) (vs:List V) (H:Hp) (Q:VK):Prop
 | mk (x dx f1 f2 f3 f4 f5 f6:Addr) (ts:List Addr) (M:aS) (h1:vs=[.ref x]) (h2:MF CM H x dx f1 f2 f3 f4 f5 f6 ts M) (h3:(aC M).length<=100) (h4:∀p H',H p=none->ak H H'->H' p=some (.lst ((aC M).map V.str))->Q (.ref p) H'):uH CM vs H Q
def pX (CM:Addr):Sp:=λvs H Q _=>uH CM vs H Q
inductive zu (P:Program) (w:World) (CF CM CG:Addr) (vs:List V) (H:Hp) (Q:VK):Prop
 | mk (g dg o x dx f1 f2 f3 f4 f5 f6:Addr) (ts:List Addr) (M:aS) (h1:vs=[.ref g,.ref x,.ref o]) (h2:H g=some (.ins CG dg [])) (h3:g≠x) (h4:MG CM H x dx f1 f2 f3 f4 f5 f6 ts M) (h5:H o=some (.lst ((aC M).map V.str))) (h6:∀(y dy nm sp nd kn ch im ex pl cK nx mi mw:Addr) (S:cY) (PL:List (Key×V)) (H':Hp),GO P w CF CM CG H' ⟨g,dg,x,dx,f1,f2,f3,f4,f5,f6,y,dy,nm,sp,nd,kn,ch,im,ex,pl,cK,nx,mi,mw,ts⟩ M ⟨S,PL,[],[],[]⟩->aO H H' g->(∀b∈[nd,kn,ch,im,ex,pl,nx,mi,mw],H b=none)->GB ⟨S,PL,[],[],[]⟩ 20->Q .aQ H'):zu P w CF CM CG vs H Q
def Bs (P:Program) (w:World) (CF CM CG:Addr):Sp:=λvs H Q _=>zu P w CF CM CG vs H Q
abbrev nGI:List Str:=["self", "machine", "order", "name"]
section
variable {P:Program}{w:World}{K:W.Frag}{mg:Str->Option Value}{base:Heap}{CF CM CG:Addr}
theorem PQ:aY ["machine"] ["machine"] (ar jq):=⟨rfl,rfl,rfl,by decide +kernel,rfl,by decide +kernel,by decide +kernel⟩
theorem IC (l:List (Str×V)):(l.map λr=>((.inr r.1:Key),r.2)).map (λkv=>kV kv.1)=(l.map (·.1)).map V.str:=by rw [List.map_map,List.map_map]; rfl
theorem zR {f:Addr}{fd:FuncData}(F:cq K "order_of" "order_of" jq f fd) (TM:uW K mg CM) (O2:gh mg):ax P w K mg base aD 1 f fd ["machine"] (pX CM):=by
 refine F.ok PQ (λvs H Q E h=>?_) (λcdv A outer s H vs Q E hr h=>?_)
 . obtain ⟨x,dx,f1,f2,f3,f4,f5,f6,ts,M,rfl,_⟩:=h
   rfl
 . obtain ⟨x,dx,f1,f2,f3,f4,f5,f6,ts,M,rfl,hM,hl,kk⟩:=h
   refine ⟨_,aw (aW (aK fQ (bt (mZ rfl) (by rfl) O2.list PyProof.Rows.boot_list (aa (bg (pv 0) rfl) ah)) (bg (pv 0) rfl))),?_⟩
   refine ⟨_,rfl,x,CM,dx,_,_,rfl,hM.hx,TM.cl,TM.n2,Et ..,f2,_,rfl,.inl hM.h2,λq1 hq1=>?_⟩
   rw [IC]
   have s1:ak H (upd H q1 (.lst ((M.keepers.map (·.1)).map V.str))):=ak.au hq1
   have e1:(upd H q1 (.lst ((M.keepers.map (·.1)).map V.str))) q1=some (.lst ((M.keepers.map (·.1)).map V.str)):=af
   generalize upd H q1 (.lst ((M.keepers.map (·.1)).map V.str))=H1 at s1 e1 ⊢
   have oH:=hM.same s1
   have cV:(aC M).length=M.keepers.length+M.switches.length:=by unfold aC; rw [List.length_append,List.length_map]
   refine ⟨_,rfl,x,CM,dx,_,_,rfl,oH.hx,TM.cl,TM.n1,ye ..,q1,f1,_,_,rfl,rfl,e1,oH.h1,(by simp only [List.length_map]; exact fU (by omega)),λq2 Nb=>?_⟩
   have hn:H q2=none:=by
    cases e:H q2 with
    | none=>rfl
    | some u=>rw [s1 _ _ e] at Nb; cases Nb
   refine kk q2 _ hn (s1.trans (ak.au Nb)) ?_
   rw [af,← List.map_append]
   rfl
theorem Nc:aY nGI ["self", "machine", "order"] (ar ny):=⟨rfl,rfl,rfl,by decide +kernel,rfl,by decide +kernel,by decide +kernel⟩
theorem V5:(["name"]:List Str).Nodup:=by decide +kernel
theorem Fi (nm sp nd kn ch im ex:Addr):(dq nm sp nd kn ch im ex).lookup ("leaf_of" : Str)=none:=sL _ _ _ _ _ _ _ (by decide +kernel) (by decide +kernel) (by decide +kernel) (by decide +kernel) (by decide +kernel) (by decide +kernel) (by decide +kernel)
theorem GU {f fF fL:Addr}{fd dF dL:FuncData}(F:cq K "__init__" "Grove.__init__" ny f fd) (TG:pW K mg CG) (TF:jj K mg CF) (TM:uW K mg CM) (O2:gh mg)
 (mF:Mk K CF fF) (gF:ax P w K mg base aD 1 fF dF ["self", "order"] (vb P w CF)) (bF:Binds K dF ["self", "order"] [])
 (gL:ax P w K mg base aD 2 fL dL ["self", "name"] (EU P w CF)) (mL:Meth K CF "leaf_of" fL) (bL:Binds K dL ["self", "name"] []):ax P w K mg base aD 3 f fd ["self", "machine", "order"] (Bs P w CF CM CG):=by
 refine F.ok Nc (λvs H Q E h=>?_) (λcdv A outer s H vs Q E hr h=>?_)
 . obtain ⟨g,dg,o,x,dx,f1,f2,f3,f4,f5,f6,ts,M,rfl,_⟩:=h
   rfl
 . obtain ⟨g,dg,o,x,dx,f1,f2,f3,f4,f5,f6,ts,M,rfl,hg,gx,hM,ho,kk⟩:=h
   have hu:=fu hr
   refine ⟨_,ai (cO (pv 0) (pv 1) rfl)
    (ai (cO (pv 0) (uN mF gF hr rfl TF.mgC bF .nil aA (aa (pv 2) ah)) rfl)
    (ai (cO (pv 0) (mq (ef aU aq (ef aU aq mn)) rfl rfl (by simp) (by decide)) rfl)
    (ai (dG PassesOwn.never rfl (cG (aK fQ (bt (mZ rfl) (by rfl) O2.list PyProof.Rows.boot_list (aa (bg (pv 1) rfl) ah)) (bg (pv 1) rfl))) (aF (i:=3) Nc.nd rfl (Or.inl rfl))
     (aw (eX hu (bg (pv 0) rfl) (pv 3) (bX (bg (pv 0) rfl) TF.cl mL gL hr bL .nil aA (aa (pv 3) ah)) rfl)))
    (ai (cO (pv 0) (bt (du rfl) (by rfl) O2.dict PyProof.Rows.boot_dict (aa (eT (N:=["name"]) (js:=[none]) (by kernel_rfl) rfl (cG (bg (pv 1) rfl)) (λ_ _ _ _ _ _=>aF (i:=0) V5 rfl (Or.inl rfl) (.inr rfl)) (λ_ _ _ _ _ _=>cm) (λ_ _ _ _ _ _=>dJ (aa (pv 0) (aa j3 ah)))) ah)) rfl)
    (ai (cO (pv 0) nG rfl)
    (ai (cO (pv 0) nG rfl)
    (aw (cO (pv 0) nG rfl)))))))),?_⟩
   obtain ⟨all,ok⟩:=hM.ok
   have n8:=hM.n8
   have np:∀{b:Addr}{u:HO},H b=some u->(∀C dx fs,u≠.ins C dx fs)->b≠g:=λhb hu z=>by
    rw [z,hg] at hb
    exact hu _ _ _ (Option.some.inj hb).symm
   refine ⟨_,rfl,_,rfl,g,CG,dg,[],rfl,hg,TG.cl,TG.n1,(by show 0<1000; decide),?_⟩
   have k1:aO H (upd H g (.ins CG dg (ao "machine" (.ref x) []))) g:=λb u hb nb=>by rw [ag nb]; exact hb
   have g1:(upd H g (.ins CG dg (ao "machine" (.ref x) []))) g=some (.ins CG dg (ao "machine" (.ref x) [])):=af
   have n1:∀b,(upd H g (.ins CG dg (ao "machine" (.ref x) []))) b=none->H b=none:=λb hb=>by
    by_cases e:b=g
    . rw [e,af] at hb; cases hb
    . rw [ag e] at hb; exact hb
   show dU _ _ _ _ (upd H g (.ins CG dg (ao "machine" (.ref x) [])))
   generalize upd H g (.ins CG dg (ao "machine" (.ref x) []))=H1 at k1 g1 n1 ⊢
   refine ⟨_,rfl,λy dy hy Bt ndy=>?_⟩
   have jZ:=k1 _ _ ho (np ho (by intro _ _ _ z; cases z))
   refine ⟨y,dy,o,aC M,rfl,af,by rw [ag (ae jZ hy),ag (ae jZ Bt)]; exact jZ,qM ok,λn hn=>Br (Bp ok n hn),n8,λnm sp nd kn ch im ex t0 t1 Hm bh km fr0 V6=>⟨rfl,?_⟩⟩
   have sm:=Gw hy Bt km
   have fr:∀b∈[nd,kn,ch,im,ex],H1 b=none:=λb hb=>yF hy Bt (fr0 b hb)
   have fsp:H1 sp=none:=yF hy Bt V6
   have gm:=sm _ _ g1
   have gy:g≠y:=ae g1 hy
   refine ⟨_,rfl,g,CG,dg,_,rfl,gm,TG.cl,TG.n2,iV (ay (Nat.le_refl _)) (by show 1<1000; decide),?_⟩
   have k2:aO Hm (upd Hm g (.ins CG dg (ao "forest" (.ref y) (ao "machine" (.ref x) [])))) g:=λb u hb nb=>by rw [ag nb]; exact hb
   have g2:(upd Hm g (.ins CG dg (ao "forest" (.ref y) (ao "machine" (.ref x) [])))) g=some (.ins CG dg (ao "forest" (.ref y) (ao "machine" (.ref x) []))):=af
   show dU _ _ _ _ (upd Hm g (.ins CG dg (ao "forest" (.ref y) (ao "machine" (.ref x) []))))
   generalize upd Hm g (.ins CG dg (ao "forest" (.ref y) (ao "machine" (.ref x) [])))=H2 at k2 g2 ⊢
   have lr:=bh.CK gm gy k2
   have S7:aO H H2 g:=λb u hb nb=>k2 _ _ (sm _ _ (k1 _ _ hb nb)) nb
   refine λpl iF=>⟨af,[(.inr "0",.int 0),(.inr "1",.int 1)],rfl,(by show 2<=15; decide),?_⟩
   rw [show bw [] [((.inr "0" : Key),V.int 0),(.inr "1",.int 1)]=[(.inr "0",.int 0),(.inr "1",.int 1)] from i7 _ [] (by decide +kernel),eV]
   obtain ⟨g3,q3,r3,k3⟩:=bE (o:=.dK [(.inr "0",.int 0),(.inr "1",.int 1)]) (fs':=ao "planted" (.ref pl) (ao "forest" (.ref y) (ao "machine" (.ref x) []))) g2 iF
   refine ⟨_,rfl,g,CG,dg,_,rfl,r3,TG.cl,TG.n3,iV (ay (ay (Nat.le_refl _))) (by show 2<1000; decide),?_⟩
   show dU _ _ _ _ (upd (upd H2 pl (.dK [(.inr "0",.int 0),(.inr "1",.int 1)])) g (.ins CG dg (ao "planted" (.ref pl) (ao "forest" (.ref y) (ao "machine" (.ref x) [])))))
   have S8:∀{b:Addr}{u:HO},H2 b=some u->pl≠b:=λhb=>(ae hb iF).symm
   have Nf:=S8 lr.hs
   have GV:=S8 lr.he
   have Ng:pl≠g:=(ae g2 iF).symm
   have Bu:H pl=none:=cg S7 iF Ng
   have adV:f2≠pl:=ae hM.mf.h2 Bu
   have adW:f4≠pl:=ae hM.h4 Bu
   have adX:f5≠pl:=ae hM.h5 Bu
   generalize upd (upd H2 pl (.dK [(.inr "0",.int 0),(.inr "1",.int 1)])) g (.ins CG dg (ao "planted" (.ref pl) (ao "forest" (.ref y) (ao "machine" (.ref x) []))))=H3 at g3 q3 k3 ⊢
   have rH:=lr.CK g2 gy k3
   have uv:aO H H3 g:=λb u hb nb=>k3 _ _ (S7 _ _ hb nb) nb
   have S9:H3 x=_:=uv _ _ hM.mf.hx (Ne.symm gx)
   have h23:=uv _ _ hM.mf.h2 (np hM.mf.h2 (by intro _ _ _ z; cases z))
   have Sb:=uv _ _ hM.mf.h1 (np hM.mf.h1 (by intro _ _ _ z; cases z))
   refine ⟨_,rfl,x,CM,dx,_,_,rfl,S9,TM.cl,TM.n2,Et ..,f2,_,rfl,.inl h23,λl1 jF=>?_⟩
   rw [IC]
   have s4:ak H3 (upd H3 l1 (.lst ((M.keepers.map (·.1)).map V.str))):=ak.au jF
   have q4:(upd H3 l1 (.lst ((M.keepers.map (·.1)).map V.str))) l1=some (.lst ((M.keepers.map (·.1)).map V.str)):=af
   generalize upd H3 l1 (.lst ((M.keepers.map (·.1)).map V.str))=H4 at s4 q4 ⊢
   have cV:(aC M).length=M.keepers.length+M.switches.length:=by unfold aC; rw [List.length_append,List.length_map]
   refine ⟨_,rfl,x,CM,dx,_,_,rfl,s4 _ _ S9,TM.cl,TM.n1,ye ..,l1,f1,_,_,rfl,rfl,q4,s4 _ _ Sb,(by simp only [List.length_map]; exact fU (by omega)),λl2 Nh=>?_⟩
   rw [show (M.keepers.map (·.1)).map V.str++M.switches.map V.str=(aC M).map V.str by rw [← List.map_append]; rfl]
   have s5:ak H4 (upd H4 l2 (.lst ((aC M).map V.str))):=ak.au Nh
   have q5:(upd H4 l2 (.lst ((aC M).map V.str))) l2=some (.lst ((aC M).map V.str)):=af
   have nl2:∀{b:Addr}{u:HO},H4 b=some u->l2≠b:=λhb=>(ae hb Nh).symm
   have V7:l2≠nd:=nl2 (s4 _ _ rH.hd)
   generalize upd H4 l2 (.lst ((aC M).map V.str))=H5 at s5 q5 ⊢
   have jM:=s4.trans s5
   have jL:=rH.same jM
   have pk0:sP M (EO (aC M).length t0 t1) [(.inr "0",.int 0),(.inr "1",.int 1)]:=λn v hv=>by
    rcases List.mem_cons.mp (jK hv) with e | e
    . cases Sum.inr.inj (Prod.mk.inj e).1
      exact ⟨0,(Prod.mk.inj e).2,(by show 0<2; decide),λe=>(M3 M e).symm⟩
    . have e:=List.mem_singleton.mp e
      cases Sum.inr.inj (Prod.mk.inj e).1
      exact ⟨1,(Prod.mk.inj e).2,(by show 1<2; decide),λe=>(M4 M e).symm⟩
   refine ⟨l2,rfl,⟨_,av.of q5⟩,iw (K:=K) (a:=l2) (xs:=(aC M).map V.str) (λi σ Hi=>∃(S:cY) (PL:List (Key×V)) (v3:Option V),σ=[some (.ref g),some (.ref x),some (.ref o),v3]/\FO P w CF Hi y dy nm sp nd kn ch im ex (aC M) S/\Hi pl=some (.dK PL)/\(∀b u,H5 b=some u->b∉[nd,kn,ch,im,ex,pl]->Hi b=some u)/\Bd S (2+i)/\PL.length<=2+i/\sP M S PL/\cz PL "0" /\ cz PL "1" /\ ∀n∈(aC M).take i,cz PL n) ?_ ?_ ?_ ?_⟩
   . exact ⟨_,_,none,rfl,jL,jM _ _ q3,λ_ _ h _=>h,bd0,Nat.le_refl _,pk0,qL ⟨_,List.mem_cons_self,rfl⟩,qL ⟨_,List.mem_cons_of_mem _ List.mem_cons_self,rfl⟩,(λn hn=>by cases hn)⟩
   . rintro i σ Hi _ ⟨S,PL,v3,rfl,rL,Ta,ki,_⟩
     refine av.of (ki _ _ q5 λhm=>?_)
     simp only [List.mem_cons,List.not_mem_nil,or_false] at hm
     rcases hm with e | e | e | e | e | e
     . exact V7 e
     . rw [e,jL.hk] at q5; cases q5
     . rw [e,jL.hc] at q5; cases q5
     . rw [e,jL.hi] at q5; cases q5
     . rw [e,jL.he] at q5; cases q5
     . rw [e,jM _ _ q3] at q5; cases q5
   . rintro i xv σ Hi hx ⟨S,PL,v3,rfl,rL,Ta,ki,Bi,li,pki,p0,p1,pn⟩
     have hi:i<(aC M).length:=by
      have:=(List.getElem?_eq_some_iff.mp hx).1
      rwa [List.length_map] at this
     have j0:(aC M)[i]?=some (aC M)[i]:=List.getElem?_eq_getElem hi
     rw [List.getElem?_map,j0] at hx
     cases hx
     generalize (aC M)[i]=n at j0
     have gi:Hi g=_:=ki _ _ (jM _ _ g3) λhm=>by
      have g5:=jM _ _ g3
      simp only [List.mem_cons,List.not_mem_nil,or_false] at hm
      rcases hm with e | e | e | e | e | e <;> rw [e] at g5
      . rw [jL.hd] at g5; cases g5
      . rw [jL.hk] at g5; cases g5
      . rw [jL.hc] at g5; cases g5
      . rw [jL.hi] at g5; cases g5
      . rw [jL.he] at g5; cases g5
      . rw [jM _ _ q3] at g5; cases g5
     refine ⟨_,rfl,g,CG,dg,_,_,rfl,gi,TG.cl,TG.n2,(by rw [aj,if_neg (by decide +kernel),aj,if_pos rfl]),y,dy,_,rfl,rL.hy,Fi ..,_,rfl,y,dy,nm,sp,nd,kn,ch,im,ex,aC M,S,n,i,2+i,rfl,rL,j0,Bi,by omega,λm S' H6 Ni k6 g6 B6 _ _ l6 t6=>?_⟩
     have t8:=rL.dk Ta GV k6
     have g6':H6 g=_:=k6 _ _ gi (a9 gi rL.hd (by intro z; cases z)) (a9 gi rL.hk (by intro z; cases z)) (a9 gi rL.hc (by intro z; cases z)) (a9 gi rL.hi (by intro z; cases z)) (a9 gi rL.he (by intro z; cases z))
     refine ⟨_,rfl,g,CG,dg,_,_,rfl,g6',TG.cl,TG.n3,(by rw [aj,if_pos rfl]),_,rfl,pl,_,rfl,gu.k (k:=.inr n) t8 (small (by omega)),?_⟩
     have vj:∀z,cz PL z->cz (putK PL (.inr n) (.int (m:Int))) z:=λz h=>by
      unfold cz
      rw [gr]
      split
      . rfl
      . exact h
     have hlen:=rL.fs.len
     refine ⟨S',_,_,rfl,Ni.putD t8 Nf GV,af,λb u hb nb=>?_,by rw [← Nat.add_assoc]; exact B6,Nat.le_trans (fZ _ _ _) (by omega),λz v hv=>?_,vj _ p0,vj _ p1,λz hz=>?_⟩
     . have MO:=ki b u hb nb
       simp only [List.mem_cons,List.not_mem_nil,or_false,not_or] at nb
       rw [ag nb.2.2.2.2.2]
       exact k6 _ _ MO nb.1 nb.2.1 nb.2.2.1 nb.2.2.2.1 nb.2.2.2.2.1
     . rw [gr] at hv
       by_cases e:(.inr z:Key)=.inr n
       . rw [if_pos e] at hv
         cases hv
         cases Sum.inr.inj e
         refine ⟨m,rfl,l6,λe=>?_⟩
         rw [t6,E7 ok e (List.mem_of_getElem? j0)]
         show (if e n=true then true else false)=e n
         cases e n <;> rfl
       . rw [if_neg e] at hv
         exact pki.grow g6 hlen z v hv
     . rw [List.take_succ,j0] at hz
       rcases List.mem_append.mp hz with h | h
       . exact vj _ (pn z h)
       . have:z=n:=by simpa using h
         rw [this]
         unfold cz
         rw [gr,if_pos rfl]
         rfl
   . rintro σ H6 ⟨S,PL,v3,rfl,Ni,t8,k6,B6,l6,pk6,p0,p1,pn⟩
     rw [List.length_map] at B6 l6 pn
     rw [List.take_length] at pn
     have old:∀b u,H b=some u->b≠g->H6 b=some u/\b∉[nd,kn,ch,im,ex,pl]:=λb u hb nb=>by
      have ib:b∉[nd,kn,ch,im,ex,pl]:=λhm=>by
       have lN:=k1 _ _ hb nb
       simp only [List.mem_cons,List.not_mem_nil,or_false] at hm
       rcases hm with e | e | e | e | e | e
       . rw [e,fr nd (by simp)] at lN; cases lN
       . rw [e,fr kn (by simp)] at lN; cases lN
       . rw [e,fr ch (by simp)] at lN; cases lN
       . rw [e,fr im (by simp)] at lN; cases lN
       . rw [e,fr ex (by simp)] at lN; cases lN
       . rw [e,Bu] at hb; cases hb
      exact ⟨k6 _ _ (jM _ _ (uv _ _ hb nb)) ib,ib⟩
     have gi:H6 g=_:=k6 _ _ (jM _ _ g3) λhm=>by
      have g5:=jM _ _ g3
      simp only [List.mem_cons,List.not_mem_nil,or_false] at hm
      rcases hm with e | e | e | e | e | e <;> rw [e] at g5
      . rw [jL.hd] at g5; cases g5
      . rw [jL.hk] at g5; cases g5
      . rw [jL.hc] at g5; cases g5
      . rw [jL.hi] at g5; cases g5
      . rw [jL.he] at g5; cases g5
      . rw [jM _ _ q3] at g5; cases g5
     have o6:aO H H6 g:=λb u hb nb=>(old b u hb nb).1
     have hx6:=o6 _ _ hM.mf.hx (Ne.symm gx)
     have Tb:=o6 _ _ hM.mf.h1 (np hM.mf.h1 (by intro _ _ _ z; cases z))
     refine ⟨_,rfl,x,CM,dx,_,_,rfl,hx6,TM.cl,TM.n1,ye ..,f1,rfl,⟨_,av.of Tb⟩,λD hD=>Kd (by omega) hD Tb λH7 tt s7 hD7 htt=>?_⟩
     refine ⟨D,tt,_,rfl,hD7,htt,λcK GW=>?_⟩
     have nds:(M.switches.map λz=>((.inr z:Key),V.bl true)).map (·.1)=M.switches.map Sum.inr:=by rw [List.map_map]; rfl
     have ndw:M.switches.Nodup:=by
      have:=qM ok
      unfold aC at this
      exact (List.nodup_append.mp this).2.1
     rw [show bw [] (M.switches.map λz=>((.inr z:Key),V.bl true))=Ff M.switches from i7 _ [] (by
      rw [List.nil_append,nds]
      exact List.pairwise_map.mpr (List.Pairwise.imp (λh z=>h (Sum.inr.inj z)) ndw))]
     have g7:=s7 _ _ gi
     obtain ⟨g8,q8,r8,k8⟩:=bE (o:=.dK (Ff M.switches)) (fs':=ao "inputs" (.ref cK) (ao "planted" (.ref pl) (ao "forest" (.ref y) (ao "machine" (.ref x) [])))) g7 GW
     refine ⟨_,rfl,g,CG,dg,_,rfl,r8,TG.cl,TG.n4,iV (ay (ay (ay (Nat.le_refl _)))) (by show 3<1000; decide),?_⟩
     have Bv:=Ni.same s7
     have CL:∀{b:Addr}{u:HO},H7 b=some u->cK≠b:=λhb=>(ae hb GW).symm
     have zv:cK≠g:=CL g7
     have i1:=CL Bv.hs
     have i2:=CL Bv.he
     have i3:=CL (s7 _ _ t8)
     show dU _ _ _ _ (upd (upd H7 cK (.dK (Ff M.switches))) g (.ins CG dg (ao "inputs" (.ref cK) (ao "planted" (.ref pl) (ao "forest" (.ref y) (ao "machine" (.ref x) []))))))
     generalize upd (upd H7 cK (.dK (Ff M.switches))) g (.ins CG dg (ao "inputs" (.ref cK) (ao "planted" (.ref pl) (ao "forest" (.ref y) (ao "machine" (.ref x) [])))))=H8 at g8 q8 k8 ⊢
     refine λnx hnx=>?_
     obtain ⟨g9,q9,r9,k9⟩:=bE (o:=.dK []) (fs':=ao "nexts" (.ref nx) (ao "inputs" (.ref cK) (ao "planted" (.ref pl) (ao "forest" (.ref y) (ao "machine" (.ref x) []))))) g8 hnx
     refine ⟨_,rfl,g,CG,dg,_,rfl,r9,TG.cl,TG.n5,iV (ay (ay (ay (ay (Nat.le_refl _))))) (by show 4<1000; decide),?_⟩
     have Nj:nx≠g:=(ae g8 hnx).symm
     show dU _ _ _ _ (upd (upd H8 nx (.dK [])) g (.ins CG dg (ao "nexts" (.ref nx) (ao "inputs" (.ref cK) (ao "planted" (.ref pl) (ao "forest" (.ref y) (ao "machine" (.ref x) [])))))))
     generalize upd (upd H8 nx (.dK [])) g (.ins CG dg (ao "nexts" (.ref nx) (ao "inputs" (.ref cK) (ao "planted" (.ref pl) (ao "forest" (.ref y) (ao "machine" (.ref x) []))))))=H9 at g9 q9 k9 ⊢
     refine λmi hmi=>?_
     obtain ⟨ga,qa,ra,ka⟩:=bE (o:=.dK []) (fs':=ao "made_into" (.ref mi) (ao "nexts" (.ref nx) (ao "inputs" (.ref cK) (ao "planted" (.ref pl) (ao "forest" (.ref y) (ao "machine" (.ref x) [])))))) g9 hmi
     refine ⟨_,rfl,g,CG,dg,_,rfl,ra,TG.cl,TG.n6,iV (ay (ay (ay (ay (ay (Nat.le_refl _)))))) (by show 5<1000; decide),?_⟩
     have Tc:mi≠g:=(ae g9 hmi).symm
     show dU _ _ _ _ (upd (upd H9 mi (.dK [])) g (.ins CG dg (ao "made_into" (.ref mi) (ao "nexts" (.ref nx) (ao "inputs" (.ref cK) (ao "planted" (.ref pl) (ao "forest" (.ref y) (ao "machine" (.ref x) []))))))))
     generalize upd (upd H9 mi (.dK [])) g (.ins CG dg (ao "made_into" (.ref mi) (ao "nexts" (.ref nx) (ao "inputs" (.ref cK) (ao "planted" (.ref pl) (ao "forest" (.ref y) (ao "machine" (.ref x) [])))))))=Ha at ga qa ka ⊢
     refine λmw hmw=>?_
     obtain ⟨gb,qb,rb,kb⟩:=bE (o:=.dK []) (fs':=fG x y pl cK nx mi mw) ga hmw
     refine ⟨_,rfl,g,CG,dg,_,rfl,rb,TG.cl,TG.n7,iV (ay (ay (ay (ay (ay (ay (Nat.le_refl _))))))) (by show 6<1000; decide),?_⟩
     have mwg:mw≠g:=(ae ga hmw).symm
     have Td:aO H9 (upd (upd Ha mw (.dK [])) g (.ins CG dg (fG x y pl cK nx mi mw))) g:=λb u hb nb=>kb _ _ (ka _ _ hb nb) nb
     have Te:aO H8 (upd (upd Ha mw (.dK [])) g (.ins CG dg (fG x y pl cK nx mi mw))) g:=λb u hb nb=>Td _ _ (k9 _ _ hb nb) nb
     have Nk:aO H7 (upd (upd Ha mw (.dK [])) g (.ins CG dg (fG x y pl cK nx mi mw))) g:=λb u hb nb=>Te _ _ (k8 _ _ hb nb) nb
     have wz:aO H (upd (upd Ha mw (.dK [])) g (.ins CG dg (fG x y pl cK nx mi mw))) g:=λb u hb nb=>Nk _ _ (s7 _ _ (o6 _ _ hb nb)) nb
     have k0a:aO H Ha g:=λb u hb nb=>ka _ _ (k9 _ _ (k8 _ _ (s7 _ _ (o6 _ _ hb nb)) nb) nb) nb
     have Iu:aO H H9 g:=λb u hb nb=>k9 _ _ (k8 _ _ (s7 _ _ (o6 _ _ hb nb)) nb) nb
     have Ir:aO H H8 g:=λb u hb nb=>k8 _ _ (s7 _ _ (o6 _ _ hb nb)) nb
     have Tf:H nx=none:=cg Ir hnx Nj
     have Tg:H mi=none:=cg Iu hmi Tc
     have Th:H mw=none:=cg k0a hmw mwg
     have V8:H cK=none:=cg (λb u hb nb=>s7 _ _ (o6 _ _ hb nb)) GW zv
     have dd:∀{b:Addr}{u:HO},H b=some u->b≠g->b≠pl/\b≠cK/\b≠nx/\b≠mi/\b≠mw/\b≠sp/\b≠ex:=λ{b} {u} hb nb=>⟨ae hb Bu,ae hb V8,ae hb Tf,ae hb Tg,ae hb Th,ae (k1 _ _ hb nb) fsp,ae (k1 _ _ hb nb) (fr ex (by simp))⟩
     have e2:=dd hM.mf.h2 (np hM.mf.h2 (by intro _ _ _ z; cases z))
     have e4:=dd hM.h4 (np hM.h4 (by intro _ _ _ z; cases z))
     have e5:=dd hM.h5 (np hM.h5 (by intro _ _ _ z; cases z))
     have Nl:=Bv.hs
     have Nm:=Bv.he
     have Ti:∀{b:Addr}{u:HO},H7 b=some u->(∀C dx fs,u≠.ins C dx fs)->b≠g:=λhb hu z=>by
      rw [z,g7] at hb
      exact hu _ _ _ (Option.some.inj hb).symm
     have spg:=Ti Nl (by intro _ _ _ z; cases z)
     have exg:=Ti Nm (by intro _ _ _ z; cases z)
     have Tj:=s7 _ _ t8
     have a8:∀{b:Addr}{u:HO},H7 b=some u->b≠g->nx≠b/\mi≠b/\mw≠b:=λhb nb=>⟨(ae (k8 _ _ hb nb) hnx).symm,(ae (k9 _ _ (k8 _ _ hb nb) nb) hmi).symm,(ae (ka _ _ (k9 _ _ (k8 _ _ hb nb) nb) nb) hmw).symm⟩
     have b1:=a8 Nl spg
     have b2:=a8 Nm exg
     have b3:=a8 Tj Ng
     have c1:nx≠cK:=(ae q8 hnx).symm
     have c2:mi≠cK:=(ae (k9 _ _ q8 zv) hmi).symm
     have c3:mw≠cK:=(ae (ka _ _ (k9 _ _ q8 zv) zv) hmw).symm
     have c4:mi≠nx:=(ae q9 hmi).symm
     have c5:mw≠nx:=(ae (ka _ _ q9 Nj) hmw).symm
     have c6:mw≠mi:=(ae qa hmw).symm
     have sx:=Bv.d3
     refine kk y dy nm sp nd kn ch im ex pl cK nx mi mw S PL _ ⟨gb,Bv.CK g7 gy Nk,⟨wz _ _ hM.mf.hx (Ne.symm gx),wz _ _ hM.mf.h1 (np hM.mf.h1 (by intro _ _ _ z; cases z)),wz _ _ hM.mf.h2 (np hM.mf.h2 (by intro _ _ _ z; cases z)),wz _ _ hM.mf.h3 (np hM.mf.h3 (by intro _ _ _ z; cases z)),Paired.cb hM.mf.hp λ_ _ e=>wz _ _ e (np e (by intro _ _ _ z; cases z))⟩,wz _ _ hM.h4 (np hM.h4 (by intro _ _ _ z; cases z)),wz _ _ hM.h5 (np hM.h5 (by intro _ _ _ z; cases z)),Nk _ _ Tj Ng,Te _ _ q8 zv,Td _ _ q9 Nj,kb _ _ qa Tc,qb,hM.ok,hM.n60,pk6,λn hn=>?_,?_,?_,?_⟩ wz (λb hb=>?_) ⟨B6.up (by omega),by show PL.length<=20; omega,Nat.zero_le _,Nat.zero_le _,Nat.zero_le _⟩
     . rcases hn with rfl | rfl | hn
       . exact p0
       . exact p1
       . exact pn n hn
     . exact ae (k1 _ _ hM.mf.h1 (np hM.mf.h1 (by intro _ _ _ z; cases z))) (fr nd (by simp))
     . exact ae (k1 _ _ hM.mf.h3 (np hM.mf.h3 (by intro _ _ _ z; cases z))) (fr nd (by simp))
     . have Nn:=hM.d24
       have ID:=hM.d25
       have m45:=hM.d45
       obtain ⟨x1,x2,x3,x4,x5,x6,x7⟩:=e2
       obtain ⟨y1,y2,y3,y4,y5,y6,y7⟩:=e4
       obtain ⟨z1,z2,z3,z4,z5,z6,z7⟩:=e5
       obtain ⟨u1,u2,u3⟩:=b1
       obtain ⟨w1,w2,w3⟩:=b2
       obtain ⟨t1,t2,t3⟩:=b3
       simp only [List.nodup_cons,List.mem_cons,List.not_mem_nil,or_false,not_or,List.nodup_nil,and_true,not_false_eq_true]
       exact ⟨⟨Nn,ID,x1,x2,x3,x4,x5,x6,x7⟩,⟨m45,y1,y2,y3,y4,y5,y6,y7⟩,⟨z1,z2,z3,z4,z5,z6,z7⟩,⟨i3.symm,t1.symm,t2.symm,t3.symm,Nf,GV⟩,⟨c1.symm,c2.symm,c3.symm,i1,i2⟩,⟨c4.symm,c5.symm,u1,w1⟩,⟨c6.symm,u2,w2⟩,⟨u3,w3⟩,sx⟩
     . simp only [List.mem_cons,List.not_mem_nil,or_false] at hb
       rcases hb with rfl | rfl | rfl | rfl | rfl | rfl | rfl | rfl | rfl
       . exact n1 _ (fr _ (by simp))
       . exact n1 _ (fr _ (by simp))
       . exact n1 _ (fr _ (by simp))
       . exact n1 _ (fr _ (by simp))
       . exact n1 _ (fr _ (by simp))
       . exact Bu
       . exact Tf
       . exact Tg
       . exact Th
end
end Gen
namespace Gen
open PySem L2
abbrev qN:Stmt:=top 27
structure MZ (M:aS) (all:List Str):Prop where
 ok:cy M all
 n60:M.gates.length<=60
 n8:(aC M).length<=8
theorem lF (M:aS):(aC M).length=M.keepers.length+M.switches.length:=by unfold aC; rw [List.length_append,List.length_map]
theorem MZ.fm {M:aS}{all:List Str}(h:MZ M all):Fm M all:=by
 have:=h.n8
 rw [lF] at this
 exact ⟨h.ok,by omega,by omega,h.n60⟩
theorem MZ.wn {M:aS}{all:List Str}(h:MZ M all):(M.nevers.map (·.1)).Nodup/\(M.somes.map (·.1)).Nodup/\(M.keepers.map (·.1)).Nodup:=by
 refine ⟨h.ok.nvw.nd,h.ok.smw.nd,?_⟩
 have:=(List.nodup_append.mp (List.nodup_append.mp (jN h.ok)).1).2.1
 exact this
def PR (K:W.Frag):List V->Hp->VK->Prop:=λxs H Q=>∃a ys,xs=[.ref a]/\aR K H a ys/\Q (.ref a) H
inductive Bw (CM:Addr) (vs:List V) (H:Hp) (Q:VK):Prop
 | mk (m:Addr) (M:aS) (all:List Str) (a1 a2 a3 a4 a5 a6:Addr) (h1:vs=[.ref m]) (h2:eL H m M a1 a2 a3 a4 a5 a6) (h3:MZ M all) (h4:∀(x dx f1 f2 f3 f4 f5 f6:Addr) (ts:List Addr) (H':Hp),ak H H'->MG CM H' x dx f1 f2 f3 f4 f5 f6 ts M->Q (.ref x) H'):Bw CM vs H Q
def zw (CM:Addr):Sp:=λvs H Q _=>Bw CM vs H Q
abbrev PU:List Str:=["_law_m", "_law_gates", "_law_wishes_here"]
theorem Np:(["_law_gate"]:List Str).Nodup:=by decide +kernel
section
variable {P:Program}{w:World}{K:W.Frag}{mg:Str->Option Value}{base:Heap}{CF CM CG:Addr}
theorem zx:aY PU ["_law_m"] (ar qN):=⟨rfl,rfl,rfl,by decide +kernel,rfl,by decide +kernel,by decide +kernel⟩
theorem Ke {f fI:Addr}{fd dI:FuncData}(F:cq K "_law_made" "_law_made" qN f fd) (T:uW K mg CM) (O:gh mg)
 (mI:Mk K CM fI) (gI:ax P w K mg base aD 1 fI dI qx (Ew CM)) (bI:Binds K dI qx []):ax P w K mg base aD 3 f fd ["_law_m"] (zw CM):=by
 refine F.ok zx (λvs H Q E h=>?_) (λcdv A outer s H vs Q E hr h=>?_)
 . obtain ⟨m,M,all,a1,a2,a3,a4,a5,a6,rfl,_⟩:=h
   rfl
 . obtain ⟨m,M,all,a1,a2,a3,a4,a5,a6,rfl,hM,mz,kk⟩:=h
   have hu:=fu hr
   obtain ⟨nd5,nd6,yB⟩:=mz.wn
   have nd4:=mz.ok.nxd
   have n60:=mz.n60
   refine ⟨_,ai (BW (i:=1) (N:=["_law_gate"]) (js:=[none]) zx.nd rfl rfl (by kernel_rfl) rfl (cG (cC hu (pv 0) aU (λ_ _=>rfl))) (λ_ _ _ _ _ _=>aF (i:=0) Np rfl (Or.inl rfl) (.inr rfl)) (λ_ _ _ _ _ _=>cm) (λ_ _ _ _ _ _=>bt (r:=PR K) zL (by rfl) O.tuple PyProof.Rows.boot_tuple (aa (pv 0) ah)))
    (ai (aE (i:=2) zx.nd rfl (Or.inl rfl) (cP (aa (bt (du rfl) (by rfl) O.dict PyProof.Rows.boot_dict (aa (cC hu (pv 0) aU (λ_ _=>rfl)) ah)) (aa (bt (du rfl) (by rfl) O.dict PyProof.Rows.boot_dict (aa (cC hu (pv 0) aU (λ_ _=>rfl)) ah)) ah))))
    (aw (aW (uN mI gI hr rfl T.mgC bI .nil aA (aa (bt gv (by rfl) O.list PyProof.Rows.boot_list (aa (cC hu (pv 0) aU (λ_ _=>rfl)) ah))
     (aa (bt (du rfl) (by rfl) O.dict PyProof.Rows.boot_dict (aa (cC hu (pv 0) aU (λ_ _=>rfl)) ah))
     (aa (pv 1)
     (aa (bt (du rfl) (by rfl) O.dict PyProof.Rows.boot_dict (aa (cC hu (pv 0) aU (λ_ _=>rfl)) ah))
     (aa (aP (r:=iA K) br (pv 2) aq (λ_ _=>rfl))
     (aa (aP (r:=iA K) br (pv 2) aq (λ_ _=>rfl)) ah)))))))))),?_⟩
   obtain ⟨us,h3,gw⟩:=id hM.gt
   have Tn:=gw.length
   rw [List.length_map] at Tn
   refine ⟨_,rfl,m,.ref a3,rfl,b0.k (k:=.inr "gates") hM.top,a3,rfl,⟨_,av.of h3⟩,λD hD=>?_⟩
   refine gZ us.length (λi acc σ H9=>acc=(us.take i).map V.ref/\(∃u,σ=[u])/\ak H H9) ⟨rfl,⟨none,rfl⟩,ak.au hD⟩ af ?fin ?step
   case step=>
    rintro i acc σ H9 hi dc ⟨rfl,⟨u,rfl⟩,s9⟩
    have hx:(us.map V.ref)[i]?=some (.ref us[i]):=by rw [List.getElem?_map,List.getElem?_eq_getElem hi]; rfl
    refine ⟨⟨_,_,av.of (s9 _ _ h3),hx⟩,?_⟩
    rintro xv H' ⟨rfl,hv⟩
    have ex:=hv _ (av.of (s9 _ _ h3))
    rw [hx] at ex
    cases ex
    have hg:(M.gates.map jU)[i]?=some (jU (M.gates[i]'(by omega))):=by rw [List.getElem?_map,List.getElem?_eq_getElem (by omega)]; rfl
    obtain ⟨t,ht,hT⟩:=cF gw hg
    rw [List.getElem?_eq_getElem hi] at ht
    cases ht
    refine d5 ⟨_,rfl,us[i],_,rfl,aR.of (s9 _ _ hT),_,dc,by rw [List.length_map,List.length_take]; exact small (by omega),cX hi af ⟨?_,⟨_,rfl⟩,λb o hb=>?_⟩⟩
    . rw [List.take_succ,List.getElem?_eq_getElem hi,List.map_append]
      rfl
    . rw [ag (ae hb hD)]
      exact s9 _ _ hb
   case fin=>
   rintro acc σ H1 dc ⟨rfl,_,s1⟩
   rw [List.take_length] at dc
   refine ⟨⟨_,av.of (s1 _ _ h3),by rw [List.length_map]; exact Nat.le_refl _⟩,?_⟩
   obtain ⟨t5,u5,v5⟩:=qH (h:=λr:Str×Str=>((.inr r.1:Key),V.str r.2)) (λ_=>rfl) (hM.same s1).nv
   refine ⟨_,rfl,m,.ref a5,rfl,b0.k (k:=.inr "nevers") (hM.same s1).top,a5,t5,gQ M.nevers,rfl,u5,v5,λf5 e5=>?_⟩
   rw [pT nd5]
   have s2:ak H1 (upd H1 f5 (.dK (gQ M.nevers))):=ak.au e5
   have q5:(upd H1 f5 (.dK (gQ M.nevers))) f5=_:=af
   generalize upd H1 f5 (.dK (gQ M.nevers))=H2 at s2 q5 ⊢
   have lL:=s1.trans s2
   obtain ⟨t6,u6,v6⟩:=qH (h:=λr:Str×Str=>((.inr r.1:Key),V.str r.2)) (λ_=>rfl) (hM.same lL).sm
   refine ⟨_,rfl,m,.ref a6,rfl,b0.k (k:=.inr "somes") (hM.same lL).top,a6,t6,gQ M.somes,rfl,u6,v6,λf6 e6=>?_⟩
   rw [pT nd6]
   have s3:ak H2 (upd H2 f6 (.dK (gQ M.somes))):=ak.au e6
   have q6:(upd H2 f6 (.dK (gQ M.somes))) f6=_:=af
   generalize upd H2 f6 (.dK (gQ M.somes))=H3 at s3 q6 ⊢
   have vX:=lL.trans s3
   refine ⟨(by show 2<=sizeLine; decide),λwl xx=>?_⟩
   have s4:ak H3 (upd H3 wl (.lst [.ref f5,.ref f6])):=ak.au xx
   have qw:(upd H3 wl (.lst [.ref f5,.ref f6])) wl=some (.lst [.ref f5,.ref f6]):=af
   generalize upd H3 wl (.lst [.ref f5,.ref f6])=H4 at s4 qw ⊢
   have yL:=vX.trans s4
   refine ⟨_,rfl,m,.ref a1,rfl,b0.k (k:=.inr "switches") (hM.same yL).top,a1,_,rfl,.inl (av.of (hM.same yL).sw),λf1 e1=>?_⟩
   have s5:ak H4 (upd H4 f1 (.lst (M.switches.map V.str))):=ak.au e1
   have q1:(upd H4 f1 (.lst (M.switches.map V.str))) f1=_:=af
   generalize upd H4 f1 (.lst (M.switches.map V.str))=H5 at s5 q1 ⊢
   have vV:=yL.trans s5
   obtain ⟨t2,u2,v2⟩:=qH (h:=λr:Str×V=>((.inr r.1:Key),r.2)) (λ_=>rfl) (hM.same vV).kp
   refine ⟨_,rfl,m,.ref a2,rfl,b0.k (k:=.inr "keepers") (hM.same vV).top,a2,t2,fq M.keepers,rfl,u2,v2,λf2 e2=>?_⟩
   rw [show bw [] (fq M.keepers)=fq M.keepers from pS M.keepers [] yB]
   have s6:ak H5 (upd H5 f2 (.dK (fq M.keepers))):=ak.au e2
   have q2:(upd H5 f2 (.dK (fq M.keepers))) f2=_:=af
   generalize upd H5 f2 (.dK (fq M.keepers))=H6 at s6 q2 ⊢
   have Bx:=vV.trans s6
   obtain ⟨t4,u4,v4⟩:=qH (h:=λr:Str×Str=>((.inr r.1:Key),V.str r.2)) (λ_=>rfl) (hM.same Bx).nx
   refine ⟨_,rfl,_,rfl,m,.ref a4,rfl,b0.k (k:=.inr "nexts") (hM.same Bx).top,a4,t4,gQ M.nexts,rfl,u4,v4,λf4 e4=>?_⟩
   rw [pT nd4]
   have s7:ak H6 (upd H6 f4 (.dK (gQ M.nexts))):=ak.au e4
   have q4:(upd H6 f4 (.dK (gQ M.nexts))) f4=_:=af
   generalize upd H6 f4 (.dK (gQ M.nexts))=H7 at s7 q4 ⊢
   have Fj:=s5.trans (s6.trans s7)
   refine ⟨_,rfl,wl,_,_,_,rfl,rfl,av.of (Fj _ _ qw),a0 (j:=0) rfl,_,rfl,wl,_,_,_,rfl,rfl,av.of (Fj _ _ qw),a0 (j:=1) rfl,?_⟩
   intro y dy hy Bt cJ
   have t7:ak H7 (upd (upd H7 dy (.own y)) y (.ins CM dy [])):=λb o hb=>by
    rw [ag (ae hb hy),ag (ae hb Bt)]
    exact hb
   have q7:(upd (upd H7 dy (.own y)) y (.ins CM dy [])) y=some (.ins CM dy []):=af
   generalize upd (upd H7 dy (.own y)) y (.ins CM dy [])=H8 at t7 q7 ⊢
   have wu:=Bx.trans s7
   have s18:=s2.trans (s3.trans (s4.trans (Fj.trans t7)))
   refine ⟨y,dy,f1,f2,D,f4,f5,f6,⟨M.switches,fq M.keepers,us,gQ M.nexts,gQ M.nevers,gQ M.somes⟩,rfl,q7,⟨t7 _ _ (s7 _ _ (s6 _ _ q1)),t7 _ _ (s7 _ _ q2),s18 _ _ dc,t7 _ _ q4,t7 _ _ (Fj _ _ (s4 _ _ (s3 _ _ q5))),t7 _ _ (Fj _ _ (s4 _ _ q6))⟩,λk1 k2 k3 k4 k5 k6 H9 hg mQ Nq Fl kp8=>⟨rfl,?_⟩⟩
   have To:ak H H9:=λb o hb=>kp8 b o (t7 _ _ (wu _ _ hb)) (ae (wu _ _ hb) hy)
   simp only [List.nodup_cons,List.mem_cons,List.not_mem_nil,or_false,not_or] at mQ
   exact kk y dy k1 k2 k3 k4 k5 k6 us H9 To ⟨⟨Nq,Fl.h1,Fl.h2,Fl.h3,Paired.cb (pU gw) λt r e=>To _ _ e⟩,Fl.h4,Fl.h5,⟨all,mz.ok⟩,mz.n60,mz.n8,mQ.2.1.2.1,mQ.2.1.2.2.1,mQ.2.2.2.1.1⟩
end
end Gen
namespace Gen
open PySem L2
abbrev ky:Stmt:=top 11
inductive wA (CM:Addr) (vs:List V) (H:Hp) (Q:VK):Prop
 | mk (x dx f1 f2 f3 f4 f5 f6:Addr) (ts:List Addr) (M:aS) (all:List Str) (z:Str) (h1:vs=[.ref x,.str z]) (h2:MG CM H x dx f1 f2 f3 f4 f5 f6 ts M) (h3:cy M all) (h4:Lit all z) (h5:∀(v:V) (t:Tr) (H':Hp),ak H H'->fz H' t v->fX (aC M) t->(∀e,ev e t=dE M e z)->Q v H'):wA CM vs H Q
def zy (CM:Addr):Sp:=λvs H Q _=>wA CM vs H Q
section
variable {P:Program}{w:World}{K:W.Frag}{mg:Str->Option Value}{base:Heap}{CF CM CG:Addr}
section
variable (P:Program) (w:World) (K:W.Frag) (mg:Str->Option Value) (base:Heap) (CF CM CG:Addr)
structure Nr (fI fO fN fA:Addr) (dI dO dN dA:FuncData):Prop where
 gI:ax P w K mg base aD 3 fI dI ["self", "machine", "order"] (Bs P w CF CM CG)
 mI:Mk K CG fI
 bI:Binds K dI ["self", "machine", "order"] []
 gO:ax P w K mg base aD 1 fO dO ["machine"] (pX CM)
 mO:mg "order_of" = some (.ref fO)
 kO:W.keepIn K (.ref fO)=true
 bO:Binds K dO ["machine"] []
 gN:ax P w K mg base aD 14 fN dN ["self", "literal"] (CD P w CF CM CG 1)
 mN:Meth K CG "number_of" fN
 bN:Binds K dN ["self", "literal"] []
 gA:ax P w K mg base aD 10 fA dA ["self", "number"] (oh P w CF 9)
 mA:Meth K CF "tree_at" fA
 bA:Binds K dA ["self", "number"] []
end
theorem Nt:aY ["machine", "literal", "grove"] ["machine", "literal"] (ar ky):=⟨rfl,rfl,rfl,by decide +kernel,rfl,by decide +kernel,by decide +kernel⟩
theorem CN (nm sp nd kn ch im ex:Addr):(dq nm sp nd kn ch im ex).lookup ("tree_at" : Str)=none:=sL _ _ _ _ _ _ _ (by decide +kernel) (by decide +kernel) (by decide +kernel) (by decide +kernel) (by decide +kernel) (by decide +kernel) (by decide +kernel)
theorem Kf {H:Hp}{g dg CG:Addr}(hg:H g=none) (Nu:H dg=none):ak H (upd (upd H dg (.own g)) g (.ins CG dg [])):=λb o hb=>by
 rw [ag (ae hb hg),ag (ae hb Nu)]
 exact hb
theorem CO {f fI fO fN fA:Addr}{fd dI dO dN dA:FuncData}(F:cq K "tree_of" "tree_of" ky f fd) (TG:pW K mg CG) (TF:jj K mg CF) (G:Nr P w K mg base CF CM CG fI fO fN fA dI dO dN dA):ax P w K mg base aD 15 f fd ["machine", "literal"] (zy CM):=by
 refine F.ok Nt (λvs H Q E h=>?_) (λcdv A outer s H vs Q E hr h=>?_)
 . obtain ⟨x,dx,f1,f2,f3,f4,f5,f6,ts,M,all,z,rfl,_⟩:=h
   rfl
 . obtain ⟨x,dx,f1,f2,f3,f4,f5,f6,ts,M,all,z,rfl,hM,ok,hz,kk⟩:=h
   have cM:bb 1 _:=hr.mono (by decide)
   have hr4:bb 4 _:=hr.mono (by decide)
   have V9:bb 10 _:=hr.mono (by decide)
   refine ⟨_,ai (aE (i:=2) Nt.nd rfl (Or.inl rfl) (uN G.mI G.gI hr4 rfl TG.mgC G.bI .nil aA (aa (pv 0) (aa (aB G.gO cM rfl G.mO G.kO G.bO .nil aA (aa (pv 0) ah)) ah))))
    (aw (aW (bX (bg (pv 2) rfl) TF.cl G.mA G.gA V9 G.bA .nil aA (aa (bX (pv 2) TG.cl G.mN G.gN hr G.bN .nil aA (aa (pv 1) ah)) ah)))),?_⟩
   have n8:=hM.n8
   refine ⟨_,rfl,_,rfl,x,dx,f1,f2,f3,f4,f5,f6,ts,M,rfl,hM.mf,by omega,λo H1 ho0 s1 jZ=>?_⟩
   intro g dg hg Nu cJ
   have s2:=Kf (CG:=CG) hg Nu
   have oH:=hM.same s1
   refine ⟨g,dg,o,x,dx,f1,f2,f3,f4,f5,f6,ts,M,rfl,af,(ae oH.mf.hx hg).symm,oH.same s2,s2 _ _ jZ,λy dy nm sp nd kn ch im ex pl cK nx mi mw S PL H2 hG k2 fr B=>⟨rfl,?_⟩⟩
   have s12:ak H1 H2:=λb u hb=>k2 _ _ (s2 _ _ hb) (ae hb hg)
   have By:∀b∈[nd,kn,ch,im,ex,pl,nx,mi,mw],H1 b=none:=λb hb=>by
    have:=fr b hb
    cases e:H1 b with
    | none=>rfl
    | some u=>rw [s2 _ _ e] at this; cases this
   refine ⟨_,rfl,g,CG,dg,_,_,rfl,hG.hg,TG.cl,TG.n2,GJ ..,y,dy,_,rfl,hG.fo.hy,CN ..,?_⟩
   refine ⟨_,rfl,g,dg,_,rfl,hG.hg,vi _ (by simp),_,rfl,_,M,_,z,all,20,rfl,hG,ok,hz,(λe=>absurd e (by decide)),B,by decide,λn S' eG H3 zt k3 g3 B3 m3 l3 e3=>?_⟩
   have mX:ak H1 H3:=λb u hb=>k3 _ _ (s12 _ _ hb) λhm=>by
    have:=By b hm
    rw [hb] at this
    cases this
   have Tq:fX (aC M) (aH S'.TS n):=sG (i:=0) (ns:=aC M) (zt.fo.fs.can (qM ok) n l3) (Nat.zero_le _)
   have y6:=Nat.le_trans (u7 Tq) n8
   have z6:=PH y6
   refine ⟨y,dy,nm,sp,nd,kn,ch,im,ex,aC M,S',n,_,rfl,zt.fo,l3,by omega,B3.bd,by omega,λv S4 H4 wq k4 _ _ _ _ r4=>?_⟩
   refine kk v _ H4 (s1.trans λb u hb=>k4 _ _ (mX _ _ hb) (λe=>?_) (λe=>?_) (λe=>?_) (λe=>?_) (λe=>?_)) r4 Tq e3
   . have:=By b (by rw [e]; simp); rw [hb] at this; cases this
   . have:=By b (by rw [e]; simp); rw [hb] at this; cases this
   . have:=By b (by rw [e]; simp); rw [hb] at this; cases this
   . have:=By b (by rw [e]; simp); rw [hb] at this; cases this
   . have:=By b (by rw [e]; simp); rw [hb] at this; cases this
end
theorem Bz:∀(a b:Nat),bf (a+b)=(bf a).flatMap λc=>(bf b).map (c ++ ·)
 | 0,b=>by
  rw [Nat.zero_add]
  show bf b=([[]]:List (List Int)).flatMap λc=>(bf b).map (c ++ ·)
  simp
 | a+1,b=>by
  rw [show a+1+b=a+b+1 by omega,jn (a+b),jn a,List.flatMap_append,Bz a b]
  simp [List.map_flatMap,List.flatMap_map,List.map_map,Function.comp_def]
def vR (M:aS) (r:List Int):List (Str×Int):=cU M (r.drop M.keepers.length) (r.take M.keepers.length) M.gates.length
theorem Fn (M:aS){c d:List Int}(h:c.length=M.keepers.length):vR M (c++d)=cU M d c M.gates.length:=by
 unfold vR
 rw [← h,List.drop_left,List.take_left]
theorem Nv (M:aS) (e:Str->Bool):vR M (rowOf e (aC M))=vE M e:=by
 have:rowOf e (aC M)=rowOf e (M.keepers.map (·.1))++rowOf e M.switches:=by unfold rowOf aC; rw [List.map_append]
 rw [this,Fn M (by unfold rowOf; rw [List.length_map,List.length_map])]
 rfl
def lG (M:aS) (z:Str):List Bool:=(bf (aC M).length).map λr=>decide (df (vR M r) z=1)
theorem sR (M:aS) (z:Str):(lG M z).length=2 ^ (aC M).length:=by unfold lG; rw [List.length_map,cH]
theorem Kg (M:aS) (z:Str) (e:Str->Bool):ev e (cn (aC M) (lG M z))=dE M e z:=by
 obtain ⟨t,h1,h2⟩:=E5 e (aC M)
 rw [zi e (aC M) (lG M z) t (sR M z) h2,List.getD_eq_getElem?_getD]
 unfold lG
 rw [List.getElem?_map,h2,Option.map_some,Nv]
 rfl
theorem BA:∀(b:List Str),PyData.eqvAll (b.map PyData.str) (b.map PyData.str)=true
 | []=>rfl
 | x::b=>by rw [List.map_cons,PyData.eqvAll,BA b,PyData.eqv,beq_self_eq_true]; rfl
theorem BB:∀(b:List Str),PyData.depthAll (b.map PyData.str)=0
 | []=>rfl
 | _::b=>by rw [List.map_cons,PyData.depthAll,BB b]; rfl
theorem GX (l:List Str):∀z∈l.map V.str,iG z z=true:=λz hz=>by
 obtain ⟨x,_,rfl⟩:=List.mem_map.mp hz
 simp [iG]
theorem Fo {K:W.Frag}{D a:Addr}{us:List Addr}{ns:List Str}{Q:Hp->Prop}{H:Hp}(hD:H D=none) (ha:H a=some (.lst (us.map V.ref))) (hp:Paired (λt n=>∃r,H t=some (.tup (.str n::r))) us ns) (hl:ns.length<=600)
 (fin:∀H',ak H H'->H' D=some (.lst (ns.map V.str))->Q H'):∃W:Nat->Nat->St->Hp->Prop,(∃m,W 0 m [none] (upd H D (.lst [])))/\tL D (eS 0) kY (qR (dv K) (kE 0) (tC (.int 0))) (oQ K a) W Q:=by
 have Tn:=hp.length
 refine gZ ns.length (λi acc σ H9=>acc=(ns.take i).map V.str/\(∃u,σ=[u])/\ak H H9) ⟨rfl,⟨none,rfl⟩,ak.au hD⟩ af ?_ ?_
 . rintro acc σ H9 dc ⟨rfl,_,s9⟩
   rw [List.take_length] at dc
   exact ⟨⟨_,av.of (s9 _ _ ha),by rw [List.length_map]; omega⟩,fin H9 s9 dc⟩
 . rintro i acc σ H9 hi dc ⟨rfl,⟨u,rfl⟩,s9⟩
   have j0:ns[i]?=some ns[i]:=List.getElem?_eq_getElem hi
   obtain ⟨t,ht,r,hT⟩:=cF hp j0
   have hx:(us.map V.ref)[i]?=some (.ref t):=by rw [List.getElem?_map,ht]; rfl
   refine ⟨⟨_,_,av.of (s9 _ _ ha),hx⟩,?_⟩
   rintro xv H' ⟨rfl,hv⟩
   have ex:=hv _ (av.of (s9 _ _ ha))
   rw [hx] at ex
   cases ex
   refine d5 ⟨_,rfl,t,_,0,.str ns[i],rfl,rfl,aR.of (s9 _ _ hT),Su,_,dc,by rw [List.length_map,List.length_take]; exact small (by omega),cX hi af ⟨?_,⟨_,rfl⟩,λb o hb=>?_⟩⟩
   . rw [List.take_succ,j0,List.map_append]
     rfl
   . rw [ag (ae hb hD)]
     exact s9 _ _ hb
theorem Nw {H:Hp}{ts:List Addr}{l:List (Str×V)}(h:Paired (λt r=>H t=some (.tup r)) ts (l.map jd)):Paired (λt n=>∃r,H t=some (.tup (.str n::r))) ts (l.map (·.1)):=kh h λt x e=>⟨_,e⟩
theorem Nx {H:Hp}{ts:List Addr}{l:List (Str×Str×Str)}(h:Paired (λt r=>H t=some (.tup r)) ts (l.map jU)):Paired (λt n=>∃r,H t=some (.tup (.str n::r))) ts (l.map (·.1)):=kh h λt x e=>⟨_,e⟩
end Gen
namespace Gen
open PySem L2
abbrev nz:Stmt:=top 28
abbrev nRt:List Str:=["_law_m", "_law_most", "_law_machine_here", "_law_names", "_law_found", "_law_rows", "_law_stand", "_law_told", "_law_some", "_law_literal_here", "_law_due"]
abbrev BC:List Str:=["_law_m", "_law_most"]
inductive zz (vs:List V) (H:Hp) (Q:VK):Prop
 | mk (m:Addr) (q:Int) (M:aS) (all:List Str) (a1 a2 a3 a4 a5 a6:Addr) (h1:vs=[.ref m,.int q]) (h2:eL H m M a1 a2 a3 a4 a5 a6) (h3:MZ M all) (h4:∀H',ak H H'->Q (.bl true) H'):zz vs H Q
def vk:Sp:=λvs H Q _=>zz vs H Q
section
variable (P:Program) (w:World) (K:W.Frag) (mg:Str->Option Value) (base:Heap) (CF CM CG:Addr)
structure Ny (fM fO fA fV fK fB fS fT:Addr) (dM dO dA dV dK dB dS dT:FuncData):Prop where
 gM:ax P w K mg base aD 3 fM dM ["_law_m"] (zw CM)
 mM:mg "_law_made" = some (.ref fM)
 kM:W.keepIn K (.ref fM)=true
 bM:Binds K dM ["_law_m"] []
 gO:ax P w K mg base aD 1 fO dO ["machine"] (pX CM)
 mO:mg "order_of" = some (.ref fO)
 kO:W.keepIn K (.ref fO)=true
 bO:Binds K dO ["machine"] []
 gA:ax P w K mg base aD 1 fA dA ["_law_many"] (ze K)
 mA:mg "_law_all_bits" = some (.ref fA)
 kA:W.keepIn K (.ref fA)=true
 bA:Binds K dA ["_law_many"] []
 gV:ax P w K mg base aD 2 fV dV AF (sA K)
 mV:mg "_law_values" = some (.ref fV)
 kV:W.keepIn K (.ref fV)=true
 bV:Binds K dV AF []
 gK:ax P w K mg base aD 18 fK dK rJ (nh 9)
 mK:mg "_law_canon" = some (.ref fK)
 kK:W.keepIn K (.ref fK)=true
 bK:Binds K dK rJ []
 gB:ax P w K mg base aD 1 fB dB ["_law_values_here", "_law_literal_here"] pL
 mB:mg "_law_bit" = some (.ref fB)
 kB:W.keepIn K (.ref fB)=true
 bB:Binds K dB ["_law_values_here", "_law_literal_here"] []
 gS:ax P w K mg base aD 9 fS dS lz (jm 9)
 mS:mg "_law_same_tree" = some (.ref fS)
 kS:W.keepIn K (.ref fS)=true
 bS:Binds K dS lz []
 gT:ax P w K mg base aD 15 fT dT ["machine", "literal"] (zy CM)
 mT:mg "tree_of" = some (.ref fT)
 kT:W.keepIn K (.ref fT)=true
 bT:Binds K dT ["machine", "literal"] []
end
theorem PV:(["_law_keeper"]:List Str).Nodup:=by decide +kernel
theorem PX:(["_law_name"]:List Str).Nodup:=by decide +kernel
theorem Wa:(["_law_values_here", "_law_literal_here"]:List Str).Nodup:=by decide +kernel
def gj (M:aS):List Str:=aC M++M.gates.map (·.1)
def jP (x:Str):Str:="~" ++ x
def jr (M:aS):List Str:=(["0", "1"]:List Str)++(gj M).map jP++gj M
theorem sS {M:aS}{all:List Str}(ok:cy M all){z:Str}(h:z∈gj M):z∈all:=by
 rw [ok.all]
 unfold gj aC at h
 rcases List.mem_append.mp h with h | h
 . refine List.mem_append_left _ ?_
   rcases List.mem_append.mp h with h | h
   . exact List.mem_append_right _ h
   . exact List.mem_append_left _ h
 . exact List.mem_append_right _ h
theorem GY {M:aS}{all:List Str}(ok:cy M all){z:Str}(h:z∈jr M):Lit all z:=by
 unfold jr at h
 rcases List.mem_append.mp h with h | h
 . rcases List.mem_append.mp h with h | h
   . rcases List.mem_cons.mp h with rfl | h
     . exact .inl rfl
     . exact .inr (.inl (List.mem_singleton.mp h))
   . obtain ⟨x,hx,rfl⟩:=List.mem_map.mp h
     exact .inr (.inr ⟨x,sS ok hx,.inr rfl⟩)
 . exact .inr (.inr ⟨z,sS ok h,.inl rfl⟩)
theorem Kh {xs:List V}{lo hi:Option Int}{v:V}(h:v∈hZ xs lo hi):v∈xs:=by
 unfold hZ at h
 exact List.mem_of_mem_drop (List.mem_of_mem_take h)
theorem Ki {K:W.Frag}{D a:Addr}{rs:List Addr}{M:aS}{all:List Str}{z:Str}{E:XK}{Q:Hp->Prop}{H:Hp}(mz:MZ M all) (hz:Lit all z) (hD:H D=none) (ha:H a=some (.lst (rs.map V.ref))) (hp:Paired (λt r=>H t=some (.dK (eN (vR M r)))) rs (bf (aC M).length))
 (fin:∀H',ak H H'->H' D=some (.lst ((lG M z).map bV))->Q H'):∃W:Nat->Nat->St->Hp->Prop,(∃m,W 0 m [none,some (.str z)] (upd H D (.lst [])))/\tL D (eS 0) kY (Hv pL [] E (j6 (kE 0) (j6 (kE 1) xj))) (oQ K a) W Q:=by
 have Ts:=hp.length
 have n8:=mz.n8
 have Nq:=Cz n8
 have Wb:(bf (aC M).length).length=2 ^ (aC M).length:=cH _
 refine gZ (bf (aC M).length).length (λi acc σ H9=>acc=((lG M z).take i).map bV/\(∃u,σ=[u,some (.str z)])/\ak H H9) ⟨rfl,⟨none,rfl⟩,ak.au hD⟩ af ?_ ?_
 . rintro acc σ H9 dc ⟨rfl,_,s9⟩
   rw [Wb,← sR M z,List.take_length] at dc
   exact ⟨⟨_,av.of (s9 _ _ ha),by rw [List.length_map]; omega⟩,fin H9 s9 dc⟩
 . rintro i acc σ H9 hi dc ⟨rfl,⟨u,rfl⟩,s9⟩
   have j0:(bf (aC M).length)[i]?=some (bf (aC M).length)[i]:=List.getElem?_eq_getElem hi
   obtain ⟨t,ht,hT⟩:=cF hp j0
   obtain ⟨xN,Nz⟩:=lD _ _ (List.mem_of_getElem? j0)
   have hx:(rs.map V.ref)[i]?=some (.ref t):=by rw [List.getElem?_map,ht]; rfl
   refine ⟨⟨_,_,av.of (s9 _ _ ha),hx⟩,?_⟩
   rintro xv H' ⟨rfl,hv⟩
   have ex:=hv _ (av.of (s9 _ _ ha))
   rw [hx] at ex
   cases ex
   have Tt:(lG M z)[i]?=some (decide (df (vR M (bf (aC M).length)[i]) z=1)):=by unfold lG; rw [List.getElem?_map,j0]; rfl
   generalize (bf (aC M).length)[i]=r at j0 hT xN Nz Tt
   have l1:(aC M).length=M.keepers.length+M.switches.length:=lF M
   have lN:wO M.switches.length (r.drop M.keepers.length):=⟨by rw [List.length_drop]; omega,λb hb=>Nz b (List.mem_of_mem_drop hb)⟩
   have rm:wO M.keepers.length (r.take M.keepers.length):=⟨by rw [List.length_take]; omega,λb hb=>Nz b (List.mem_of_mem_take hb)⟩
   have PY:nX (vR M r):=pK lN.2 rm.2 _
   have PZ:(vR M r).map (·.1)=M.switches++M.keepers.map (·.1)++M.gates.map (·.1):=by
    unfold vR
    rw [iL lN.1 rm.1,List.take_length]
   have hin:nW (vR M r) z:=hz.Mg mz.ok.nm λx hx=>by rw [PZ,← mz.ok.all]; exact hx
   refine d5 ⟨_,rfl,_,rfl,t,vR M r,z,rfl,.inl (s9 _ _ hT),hin,λH2 s2=>?_⟩
   refine ⟨_,s2 _ _ dc,by rw [List.length_map,List.length_take]; exact small (by omega),cX hi af ⟨?_,⟨_,rfl⟩,λb o hb=>?_⟩⟩
   . rw [List.take_succ,Tt,List.map_append]
     congr 1
     show [V.int (df (vR M r) z)]=[bV (decide (df (vR M r) z=1))]
     rcases jg PY z with h | h <;> rw [h] <;> rfl
   . rw [ag (ae hb hD)]
     exact s2 _ _ (s9 _ _ hb)
theorem GZ {K:W.Frag}{D a:Addr}{ns:List Str}{Q:Hp->Prop}{H:Hp}(hD:H D=none) (ha:H a=some (.lst (ns.map V.str))) (hl:ns.length<=600) (hn:∀x∈ns,ba x)
 (fin:∀H',ak H H'->H' D=some (.lst ((ns.map jP).map V.str))->Q H'):∃W:Nat->Nat->St->Hp->Prop,(∃m,W 0 m [none] (upd H D (.lst [])))/\tL D (eS 0) kY (qR (λx y H Q=>∃i j,x=.str i/\y=.str j/\i.length+j.length<=sizeLine/\Q (.str (i++j)) H) (tC (.str "~")) (kE 0)) (oQ K a) W Q:=by
 refine gZ ns.length (λi acc σ H9=>acc=((ns.take i).map jP).map V.str/\(∃u,σ=[u])/\ak H H9) ⟨rfl,⟨none,rfl⟩,ak.au hD⟩ af ?_ ?_
 . rintro acc σ H9 dc ⟨rfl,_,s9⟩
   rw [List.take_length] at dc
   exact ⟨⟨_,av.of (s9 _ _ ha),by rw [List.length_map]; omega⟩,fin H9 s9 dc⟩
 . rintro i acc σ H9 hi dc ⟨rfl,⟨u,rfl⟩,s9⟩
   have j0:ns[i]?=some ns[i]:=List.getElem?_eq_getElem hi
   have hx:(ns.map V.str)[i]?=some (.str ns[i]):=by rw [List.getElem?_map,j0]; rfl
   refine ⟨⟨_,_,av.of (s9 _ _ ha),hx⟩,?_⟩
   rintro xv H' ⟨rfl,hv⟩
   have ex:=hv _ (av.of (s9 _ _ ha))
   rw [hx] at ex
   cases ex
   have hlen:ns[i].length<=8:=(hn _ (List.getElem_mem hi)).len
   have t1:("~" : Str).length=1:=by decide +kernel
   refine d5 ⟨_,rfl,_,_,rfl,rfl,by rw [t1]; exact fU (by omega),_,dc,by rw [List.length_map,List.length_map,List.length_take]; exact small (by omega),cX hi af ⟨?_,⟨_,rfl⟩,λb o hb=>?_⟩⟩
   . rw [List.take_succ,j0,List.map_append,List.map_append]
     rfl
   . rw [ag (ae hb hD)]
     exact s9 _ _ hb
end Gen
namespace Gen
open PySem L2
section
variable {P:Program}{w:World}{K:W.Frag}{mg:Str->Option Value}{base:Heap}{CF CM CG:Addr}{fM fO fA fV fK fB fS fT:Addr}{dM dO dA dV dK dB dS dT:FuncData}
theorem l8:aY nRt BC (ar nz):=⟨rfl,rfl,rfl,by decide +kernel,rfl,by decide +kernel,by decide +kernel⟩
theorem G0 {f:Addr}{fd:FuncData}(F:cq K "_law_right" "_law_right" nz f fd) (O2:gh mg) (G:Ny P w K mg base CM fM fO fA fV fK fB fS fT dM dO dA dV dK dB dS dT):ax P w K mg base aD 19 f fd BC vk:=by
 refine F.ok l8 (λvs H Q E h=>?_) (λcdv A outer s H vs Q E hr h=>?_)
 . obtain ⟨m,q,M,all,a1,a2,a3,a4,a5,a6,rfl,_⟩:=h
   rfl
 . obtain ⟨m,q,M,all,a1,a2,a3,a4,a5,a6,rfl,hM,mz,kk⟩:=h
   have hu:=fu hr
   have cM:bb 1 _:=hr.mono (by decide)
   have mE:bb 2 _:=hr.mono (by decide)
   have hr3:bb 3 _:=hr.mono (by decide)
   have MN:bb 9 _:=hr.mono (by decide)
   have Wc:bb 15 _:=hr.mono (by decide)
   refine ⟨_,ai (aE (i:=2) l8.nd rfl (Or.inl rfl) (aB G.gM hr3 rfl G.mM G.kM G.bM .nil aA (aa (pv 0) ah)))
    (ai (aE (i:=3) l8.nd rfl (Or.inl rfl) (aK fQ (eT (N:=["_law_keeper"]) (js:=[none]) (te:=qR (dv K) (kE 0) (tC (.int 0))) (by kernel_rfl) rfl (cG (cC hu (pv 0) aU (λ_ _=>rfl))) (λ_ _ _ _ _ _=>aF (i:=0) PV rfl (Or.inl rfl) (.inr rfl)) (λ_ _ _ _ _ _=>cm) (λ_ _ _ _ _ _=>aP (r:=dv K) cI (pv 0) aq (λ_ _=>rfl))) (cC hu (pv 0) aU (λ_ _=>rfl))))
    (ai (aE (i:=4) l8.nd rfl (Or.inl rfl) (aB G.gO cM rfl G.mO G.kO G.bO .nil aA (aa (pv 2) ah)))
    (ai (cS (PW.pt (pY (sW (iR (bG eO (by rfl) O2.isi PyProof.Rows.boot_isinstance (aa (pv 4) (aa (jb (v:=.ty "list") (by rfl) O2.list PyProof.Rows.boot_list rfl) ah))))) (sV (cN (LY hu) (pv 4) (pv 3) (dh _))))) (aw (aW j3)) bz)
    (ai (d6 (K6 PySem.F.plainAttrs_list PySem.F.slot_list_reverse PySem.F.type_list_reverse BQ (pv 4)))
    (ai (d6 (ft PySem.F.plainAttrs_list PySem.F.slot_list_append PySem.F.type_list_append d4 (pv 4) (aa aU ah)))
    (ai (aE (i:=5) l8.nd rfl (Or.inl rfl) (cP ah))
    (ai (dG PassesOwn.never rfl (cG (aB G.gA cM rfl G.mA G.kA G.bA .nil aA (aa (bG cw (by rfl) O2.len PySem.boot_len (aa (cC hu (pv 0) aU (λ_ _=>rfl)) ah)) ah))) (aF (i:=6) l8.nd rfl (Or.inl rfl))
     (aw (dG PassesOwn.never rfl (cG (aB G.gA cM rfl G.mA G.kA G.bA .nil aA (aa (bG cw (by rfl) O2.len PySem.boot_len (aa (cC hu (pv 0) aU (λ_ _=>rfl)) ah)) ah))) (aF (i:=7) l8.nd rfl (Or.inl rfl))
      (aw (d6 (ft PySem.F.plainAttrs_list PySem.F.slot_list_append PySem.F.type_list_append d4 (pv 5) (aa (aB G.gV mE rfl G.mV G.kV G.bV .nil aA (aa (pv 0) (aa (pv 6) (aa (pv 7) ah)))) ah)))))))
    (ai (aE (i:=8) l8.nd rfl (Or.inl rfl) (aK fQ (pv 3) (eT (N:=["_law_gate"]) (js:=[none]) (te:=qR (dv K) (kE 0) (tC (.int 0))) (by kernel_rfl) rfl (cG (cC hu (pv 0) aU (λ_ _=>rfl))) (λ_ _ _ _ _ _=>aF (i:=0) Np rfl (Or.inl rfl) (.inr rfl)) (λ_ _ _ _ _ _=>cm) (λ_ _ _ _ _ _=>aP (r:=dv K) cI (pv 0) aq (λ_ _=>rfl)))))
    (ai (dG PassesOwn.never rfl (cG (eu (r:=K3 K) mr (aK fQ (aK fQ (cP (aa aU (aa aU ah))) (eT (N:=["_law_name"]) (js:=[none]) (by kernel_rfl) rfl (cG (pv 8)) (λ_ _ _ _ _ _=>aF (i:=0) PX rfl (Or.inl rfl) (.inr rfl)) (λ_ _ _ _ _ _=>cm) (λ_ _ _ _ _ _=>aK dX aU (pv 0)))) (pv 8)) (eZ (Hr De (pv 1))) eY)) (aF (i:=9) l8.nd rfl (Or.inr rfl))
     (ai (aE (i:=10) l8.nd rfl (Or.inl rfl) (aB G.gK hr rfl G.mK G.kK G.bK .nil aA (aa (pv 3) (aa (eT (N:=["_law_values_here", "_law_literal_here"]) (js:=[none,some 9]) (by kernel_rfl) rfl (cG (pv 5)) (λ_ _ _ _ _ _=>aF (i:=0) Wa rfl (Or.inl rfl) (.inr rfl)) (λ_ _ _ _ _ _=>cm) (λ_ _ _ _ _ _=>aB G.gB cM rfl G.mB G.kB G.bB .nil aA (aa (pv 0) (aa (pv 1) ah)))) ah))))
     (aw (cS (sW (iR (aB G.gS MN rfl G.mS G.kS G.bS .nil aA (aa (aB G.gT Wc rfl G.mT G.kT G.bT .nil aA (aa (pv 2) (aa (pv 9) ah))) (aa (pv 10) ah))))) (aw (aW j3)) bz))))
    (aw (aW (uM (J0 (n:=1) hu) (aB G.gO cM rfl G.mO G.kO G.bO .nil aA (aa (pv 2) ah)) (pv 3) (dh _))))))))))))),?_⟩
   have n8:=mz.n8
   have n60:=mz.n60
   have Lb:(aC M).length=M.keepers.length+M.switches.length:=lF M
   have Nq:=Cz n8
   refine ⟨_,rfl,m,M,all,a1,a2,a3,a4,a5,a6,rfl,hM,mz,λx dx f1 f2 f3 f4 f5 f6 ts H1 s1 hX=>?_⟩
   have oH:=hM.same s1
   obtain ⟨t2,h2,p2⟩:=id oH.kp
   refine ⟨_,rfl,m,.ref a2,rfl,b0.k (k:=.inr "keepers") oH.top,a2,rfl,⟨_,av.of h2⟩,λD hD=>Fo hD h2 (Nw p2) (by rw [List.length_map]; omega) λH2 s2 pe=>?_⟩
   have wg:=oH.same s2
   refine ⟨_,rfl,m,.ref a1,rfl,b0.k (k:=.inr "switches") wg.top,D,a1,_,_,rfl,rfl,pe,wg.sw,(by simp only [List.length_map]; exact fU (by omega)),λnl ox=>?_⟩
   rw [show (M.keepers.map (·.1)).map V.str++M.switches.map V.str=(aC M).map V.str by rw [← List.map_append]; rfl]
   have s3:ak H2 (upd H2 nl (.lst ((aC M).map V.str))):=ak.au ox
   have q3:(upd H2 nl (.lst ((aC M).map V.str))) nl=some (.lst ((aC M).map V.str)):=af
   show dU _ _ _ _ (upd H2 nl (.lst ((aC M).map V.str)))
   generalize upd H2 nl (.lst ((aC M).map V.str))=H3 at s3 q3 ⊢
   have mX:=s2.trans s3
   refine ⟨_,rfl,x,dx,f1,f2,f3,f4,f5,f6,ts,M,rfl,(hX.same mX).mf,by omega,λfo H4 NA s4 Av=>?_⟩
   refine ⟨_,rfl,_,_, "list",true,rfl,.lst Av,rfl,_,rfl,iX ?_⟩
   refine ⟨_,rfl,_,rfl,fo,nl,_,rfl,rfl,av.of Av,av.of (s4 _ _ q3),vF _,GX _,_,rfl,iX ?_⟩
   refine ⟨_,rfl,.inl ⟨rfl,_,av.of Av⟩,fo,_,rfl,rfl,Av,?_⟩
   have s5:ak H3 (upd H4 fo (.lst ((aC M).map V.str).reverse)):=λb u hb=>by
    rw [ag (ae hb NA)]
    exact s4 _ _ hb
   have q5:(upd H4 fo (.lst ((aC M).map V.str).reverse)) fo=some (.lst ((aC M).map V.str).reverse):=af
   show dU _ _ _ _ (upd H4 fo (.lst ((aC M).map V.str).reverse))
   generalize upd H4 fo (.lst ((aC M).map V.str).reverse)=H5 at s5 q5 ⊢
   refine ⟨_,rfl,.inl ⟨rfl,_,av.of q5⟩,fo,_,_,rfl,rfl,q5,(by rw [List.length_reverse,List.length_map]; exact small (by omega)),?_⟩
   have s6:ak H3 (upd H5 fo (.lst (((aC M).map V.str).reverse++[.str "x"]))):=λb u hb=>by
    rw [ag (ae hb NA)]
    exact s5 _ _ hb
   show dU _ _ _ _ (upd H5 fo (.lst (((aC M).map V.str).reverse++[.str "x"])))
   generalize upd H5 fo (.lst (((aC M).map V.str).reverse++[.str "x"]))=H6 at s6 ⊢
   refine ⟨(by show 0<=sizeLine; decide),λro Tu=>?_⟩
   have s7:ak H6 (upd H6 ro (.lst [])):=ak.au Tu
   have q7:(upd H6 ro (.lst [])) ro=some (.lst (([]:List Addr).map V.ref)):=af
   show dU _ _ _ _ (upd H6 ro (.lst []))
   generalize upd H6 ro (.lst [])=H7 at s7 q7 ⊢
   have s37:=s6.trans s7
   have s17:=mX.trans s37
   have wu:=s1.trans s17
   have Tv:=hM.same wu
   obtain ⟨t27,h27,p27⟩:=id Tv.kp
   have NB:=p27.length
   rw [List.length_map] at NB
   have NC:∀{b:Addr}{u:HO},H6 b=some u->b≠ro:=λhb=>ae hb Tu
   refine ⟨_,rfl,m,.ref a2,rfl,b0.k (k:=.inr "keepers") Tv.top,a2,_,rfl,.inl (av.of h27),M.keepers.length,(by rw [List.length_map,NB]; rfl),by omega,λR us H8 s8 Tw hR gw=>?_⟩
   have Tx:=gw.length
   rw [cH] at Tx
   have k2:2 ^ M.keepers.length*2 ^ M.switches.length=2 ^ (aC M).length:=by rw [← Nat.pow_add,Lb]
   refine ⟨R,rfl,⟨_,av.of hR⟩,iw (K:=K) (a:=R) (xs:=us.map V.ref) (λi σ Hi=>∃(rs:List Addr) (v6 v7:Option V),σ=[some (.ref m),some (.int q),some (.ref x),some (.ref nl),some (.ref fo),some (.ref ro),v6,v7,none,none,none]/\(∀b u,H8 b=some u->b≠ro->Hi b=some u)/\Hi ro=some (.lst (rs.map V.ref))/\Paired (λt r=>Hi t=some (.dK (eN (vR M r)))) rs (((bf M.keepers.length).take i).flatMap λc=>(bf M.switches.length).map (c ++ ·))) ?_ ?_ ?_ ?_⟩
   . exact ⟨[],none,none,rfl,λ_ _ h _=>h,s8 _ _ q7,.nil⟩
   . rintro i σ Hi _ ⟨rs,v6,v7,rfl,ki,_⟩
     refine av.of (ki _ _ hR λe=>?_)
     rw [e,q7] at Tw
     cases Tw
   . rintro i xv σ Hi hx ⟨rs,v6,v7,rfl,ki,tY,pri⟩
     have hi:i<us.length:=by
      have:=(List.getElem?_eq_some_iff.mp hx).1
      rwa [List.length_map] at this
     have Es:i<(bf M.keepers.length).length:=by rw [cH]; omega
     have pf:(bf M.keepers.length)[i]?=some (bf M.keepers.length)[i]:=List.getElem?_eq_getElem Es
     obtain ⟨ca,hca,Tz⟩:=cF gw pf
     have ex:xv=.ref ca:=by
      rw [List.getElem?_map,hca] at hx
      exact (Option.some.inj hx).symm
     subst ex
     obtain ⟨gz,TB⟩:=lD _ _ (List.mem_of_getElem? pf)
     generalize (bf M.keepers.length)[i]=c at pf Tz gz TB
     have TC:∀{Hx:Hp},(∀b u,H8 b=some u->b≠ro->Hx b=some u)->∀b u,H6 b=some u->Hx b=some u:=λk b u hb=>k b u (s8 _ _ (s7 _ _ hb)) (NC hb)
     have Bx:=s1.trans (mX.trans s6)
     have TH:eL Hi m M a1 a2 a3 a4 a5 a6:=(hM.same Bx).same (TC ki)
     have lsw:(M.switches.map V.str).length=M.switches.length:=List.length_map ..
     refine ⟨_,rfl,m,.ref a1,rfl,b0.k (k:=.inr "switches") TH.top,a1,_,rfl,.inl (av.of TH.sw),M.switches.length,(by rw [lsw]; rfl),by omega,λR2 TJ H9 s9 NF TK NG=>?_⟩
     have NH:=NG.length
     rw [cH] at NH
     have NI:∀{Hx Hy:Hp}{a:Addr}{xs:List V},aR K Hx a xs->(∀b u,Hx b=some u->(∀l,u≠.lst l)->Hy b=some u)->aR K Hy a xs:=λh k=>by
      rcases h with (h | ⟨o,h⟩) | h
      . exact .inl (.inl (k _ _ h (by intro _ z; cases z)))
      . exact .inl (.inr ⟨o,k _ _ h (by intro _ z; cases z)⟩)
      . exact .inr h
     refine ⟨R2,rfl,⟨_,av.of TK⟩,iw (K:=K) (a:=R2) (xs:=TJ.map V.ref) (λj σ Hj=>∃(wB:List Addr) (v7:Option V),σ=[some (.ref m),some (.int q),some (.ref x),some (.ref nl),some (.ref fo),some (.ref ro),some (.ref ca),v7,none,none,none]/\(∀b u,H9 b=some u->b≠ro->Hj b=some u)/\Hj ro=some (.lst (wB.map V.ref))/\Paired (λt r=>Hj t=some (.dK (eN (vR M r)))) wB ((((bf M.keepers.length).take i).flatMap λc=>(bf M.switches.length).map (c ++ ·))++((bf M.switches.length).take j).map (c ++ ·))) ?_ ?_ ?_ ?_⟩
     . refine ⟨rs,v7,rfl,λ_ _ h _=>h,s9 _ _ tY,?_⟩
       rw [List.take_zero,List.map_nil,List.append_nil]
       exact Paired.cb pri λt r e=>s9 _ _ e
     . rintro j σ Hj _ ⟨wB,v7,rfl,kj,_⟩
       refine av.of (kj _ _ TK λe=>?_)
       rw [e,tY] at NF
       cases NF
     . rintro j xv2 σ Hj uA ⟨wB,v7',rfl,kj,zf,Fp⟩
       have hj:j<TJ.length:=by
        have:=(List.getElem?_eq_some_iff.mp uA).1
        rwa [List.length_map] at this
       have hj2:j<(bf M.switches.length).length:=by rw [cH]; omega
       have IE:(bf M.switches.length)[j]?=some (bf M.switches.length)[j]:=List.getElem?_eq_getElem hj2
       obtain ⟨da,hda,TL⟩:=cF NG IE
       have ex2:xv2=.ref da:=by
        rw [List.getElem?_map,hda] at uA
        exact (Option.some.inj uA).symm
       subst ex2
       obtain ⟨mY,qS⟩:=lD _ _ (List.mem_of_getElem? IE)
       generalize (bf M.switches.length)[j]=d at IE TL mY qS
       have k6j:∀b u,H6 b=some u->Hj b=some u:=λb u hb=>kj b u (s9 _ _ (TC ki b u hb)) (NC hb)
       have hMj:eL Hj m M a1 a2 a3 a4 a5 a6:=(hM.same Bx).same k6j
       have rol:H9 ro=some (.lst (rs.map V.ref)):=s9 _ _ tY
       have NJ:∀{b:Addr}{u:HO},H9 b=some u->(∀l,u≠.lst l)->b≠ro:=λhb hn e=>by
        rw [e,rol] at hb
        exact hn _ (Option.some.inj hb).symm
       have IF:∀{b:Addr}{u:HO},H8 b=some u->(∀l,u≠.lst l)->b≠ro:=λhb hn e=>by
        rw [e,s8 _ _ q7] at hb
        exact hn _ (Option.some.inj hb).symm
       have hcj:sv K Hj ca c:=NI Tz λb u hb hn=>kj _ _ (s9 _ _ (ki _ _ hb (IF hb hn))) (NJ (s9 _ _ (ki _ _ hb (IF hb hn))) hn)
       have Wd:sv K Hj da d:=NI TL λb u hb hn=>kj _ _ hb (NJ hb hn)
       refine ⟨_,rfl,.inl ⟨rfl,_,av.of zf⟩,_,rfl,_,rfl,_,rfl,m,a1,a2,a3,a4,a5,a6,ca,da,M,all,d,c,rfl,hMj,mz.fm.fit ⟨mY.symm,qS⟩ ⟨gz.symm,TB⟩,hcj,Wd,λdd Ha adY sa Ig=>?_⟩
       have NK:=sa _ _ zf
       have Ts:=Fp.length
       have hlen:wB.length<=512:=by
        rw [Ts,List.length_append,List.length_map,List.length_take]
        have hf:(((bf M.keepers.length).take i).flatMap λc=>(bf M.switches.length).map (c ++ ·)).length<=256:=by
         rw [List.length_flatMap]
         have:(((bf M.keepers.length).take i).map λc=>((bf M.switches.length).map (c ++ ·)).length)=((bf M.keepers.length).take i).map λ_=>2 ^ M.switches.length:=List.map_congr_left λc _=>by rw [List.length_map,cH]
         rw [this,List.map_const',List.sum_replicate_nat,List.length_take,cH]
         have:min i (2 ^ M.keepers.length)*2 ^ M.switches.length<=2 ^ M.keepers.length*2 ^ M.switches.length:=Nat.mul_le_mul_right _ (Nat.min_le_right _ _)
         omega
        have:(bf M.switches.length).length<=256:=by rw [cH]; exact Cz (by omega)
        omega
       refine ⟨ro,_,_,rfl,rfl,NK,(by rw [List.length_map]; exact small (by omega)),?_⟩
       refine ⟨wB++[dd],_,rfl,λb u hb nb=>by rw [ag nb]; exact sa _ _ (kj b u hb nb),by rw [af,List.map_append]; rfl,?_⟩
       rw [List.take_succ,IE,Option.toList_some,List.map_append,← List.append_assoc]
       refine cL (Paired.cb Fp λt r e=>?_) (.cons ?_ .nil)
       . rw [ag (a9 (sa _ _ e) NK (by intro z; cases z))]
         exact sa _ _ e
       . rw [ag (a9 Ig NK (by intro z; cases z)),Fn M gz]
         exact Ig
     . rintro σ Hj ⟨wB,v7',rfl,kj,zf,Fp⟩
       rw [List.length_map,NH,← cH M.switches.length,List.take_length] at Fp
       refine ⟨wB,_,_,rfl,λb u hb nb=>kj _ _ (s9 _ _ (ki b u hb nb)) nb,zf,?_⟩
       rw [List.take_succ,pf,Option.toList_some,List.flatMap_append,List.flatMap_cons,List.flatMap_nil,List.append_nil]
       exact Fp
   . rintro σ H9 ⟨rs,v6,v7,rfl,k9,We,TN⟩
     rw [List.length_map,Tx,← cH M.keepers.length,List.take_length,← Bz,← Lb] at TN
     have s69:ak H6 H9:=λb u hb=>k9 b u (s8 _ _ (s7 _ _ hb)) (NC hb)
     have NL:=s6.trans s69
     have s19:=mX.trans NL
     have s09:=s1.trans s19
     have TQ:=hM.same s09
     obtain ⟨t3,h3,p3⟩:=id TQ.gt
     refine ⟨_,rfl,_,rfl,m,.ref a3,rfl,b0.k (k:=.inr "gates") TQ.top,a3,rfl,⟨_,av.of h3⟩,λDg hDg=>Fo hDg h3 (Nx p3) (by rw [List.length_map]; omega) λHa sa hDa=>?_⟩
     refine ⟨nl,Dg,_,_,rfl,rfl,sa _ _ (NL _ _ q3),hDa,(by simp only [List.length_map]; exact fU (by omega)),λso hso=>?_⟩
     rw [show (aC M).map V.str++(M.gates.map (·.1)).map V.str=(gj M).map V.str by rw [← List.map_append]; rfl]
     have sb:ak Ha (upd Ha so (.lst ((gj M).map V.str))):=ak.au hso
     have qb:(upd Ha so (.lst ((gj M).map V.str))) so=some (.lst ((gj M).map V.str)):=af
     show dU _ _ _ _ (upd Ha so (.lst ((gj M).map V.str)))
     generalize upd Ha so (.lst ((gj M).map V.str))=Hb at sb qb ⊢
     have hal:(gj M).length<=68:=by unfold gj; rw [List.length_append,List.length_map]; omega
     have s9b:=sa.trans sb
     refine ⟨(by show 2<=sizeLine; decide),λzo ua=>?_⟩
     have sc:ak Hb (upd Hb zo (.lst [.str "0",.str "1"])):=ak.au ua
     have qc:(upd Hb zo (.lst [.str "0",.str "1"])) zo=some (.lst [.str "0",.str "1"]):=af
     generalize upd Hb zo (.lst [.str "0",.str "1"])=Hc at sc qc ⊢
     refine ⟨_,rfl,so,rfl,⟨_,av.of (sc _ _ qb)⟩,λDt hDt=>GZ hDt (sc _ _ qb) (by omega) (λz hz=>mz.ok.nm z (sS mz.ok hz)) λHd sd hDd=>?_⟩
     refine ⟨zo,Dt,_,_,rfl,rfl,sd _ _ qc,hDd,(by simp only [List.length_map,List.length_cons,List.length_nil]; exact fU (by omega)),λl1 jF=>?_⟩
     have se:ak Hd (upd Hd l1 (.lst ([.str "0",.str "1"]++((gj M).map jP).map V.str))):=ak.au jF
     have qe:(upd Hd l1 (.lst ([.str "0",.str "1"]++((gj M).map jP).map V.str))) l1=some (.lst ([.str "0",.str "1"]++((gj M).map jP).map V.str)):=af
     generalize upd Hd l1 (.lst ([.str "0",.str "1"]++((gj M).map jP).map V.str))=He at se qe ⊢
     refine ⟨_,rfl,l1,so,_,_,rfl,rfl,qe,se _ _ (sd _ _ (sc _ _ qb)),(by simp only [List.length_map,List.length_append,List.length_cons,List.length_nil]; exact fU (by omega)),λl2 cV=>?_⟩
     rw [show ([.str "0",.str "1"]:List V)++((gj M).map jP).map V.str++(gj M).map V.str=(jr M).map V.str by unfold jr; rw [List.map_append,List.map_append]; rfl]
     have sf:ak He (upd He l2 (.lst ((jr M).map V.str))):=ak.au cV
     have qf:(upd He l2 (.lst ((jr M).map V.str))) l2=some (.lst ((jr M).map V.str)):=af
     generalize upd He l2 (.lst ((jr M).map V.str))=Hf at sf qf ⊢
     refine ⟨_,rfl,_,rfl,_,rfl,l2,_,rfl,av.of qf,λl3 pj=>?_⟩
     have sg:ak Hf (upd Hf l3 (.lst (hZ ((jr M).map V.str) (some (-q)) none))):=ak.au pj
     have qg:(upd Hf l3 (.lst (hZ ((jr M).map V.str) (some (-q)) none))) l3=some (.lst (hZ ((jr M).map V.str) (some (-q)) none)):=af
     generalize upd Hf l3 (.lst (hZ ((jr M).map V.str) (some (-q)) none))=Hg at sg qg ⊢
     have NM:ak H9 Hg:=s9b.trans (sc.trans (sd.trans (se.trans (sf.trans sg))))
     have TR:=NL.trans NM
     have TU:=mX.trans TR
     have s0g:=s1.trans TU
     have TV:=NM _ _ We
     have prg:Paired (λt r=>Hg t=some (.dK (eN (vR M r)))) rs (bf (aC M).length):=Paired.cb TN λt r e=>NM _ _ e
     have TX:=hX.same TU
     have TY:=TR _ _ q3
     refine ⟨l3,rfl,⟨_,av.of qg⟩,iw (K:=K) (a:=l3) (xs:=hZ ((jr M).map V.str) (some (-q)) none) (λi σ Hi=>∃(v9 v10:Option V),σ=[some (.ref m),some (.int q),some (.ref x),some (.ref nl),some (.ref fo),some (.ref ro),v6,v7,some (.ref so),v9,v10]/\ak Hg Hi) ?_ ?_ ?_ ?_⟩
     . exact ⟨none,none,rfl,λ_ _ h=>h⟩
     . rintro i σ Hi _ ⟨v9,v10,rfl,si⟩
       exact av.of (si _ _ qg)
     . rintro i xv σ Hi hx ⟨v9,v10,rfl,si⟩
       obtain ⟨z,hz,rfl⟩:=List.mem_map.mp (Kh (List.mem_of_getElem? hx))
       have DZ:=GY mz.ok hz
       refine ⟨_,rfl,_,rfl,ro,rfl,⟨_,av.of (si _ _ TV)⟩,λDl hDl=>Ki mz DZ hDl (si _ _ TV) (Paired.cb prg λt r e=>si _ _ e) λHj sj hDj=>?_⟩
       have TZ:=si.trans sj
       refine ⟨nl,Dl,aC M,lG M z,rfl,TZ _ _ TY,hDj,by omega,n8,sR M z,λvd Hk sk rd=>?_⟩
       have T2:=TZ.trans sk
       refine ⟨_,rfl,_,rfl,x,dx,f1,f2,f3,f4,f5,f6,ts,M,all,z,rfl,TX.same T2,mz.ok,DZ,λvt t Hl sl rt ct et=>?_⟩
       have eq:t=cn (aC M) (lG M z):=iN (qM mz.ok) ct (pR _ _) λe=>by rw [et e,Kg]
       refine ⟨_,rfl,_,_,_,_,rfl,rt,rd.keep (wM sl),Nat.lt_of_le_of_lt (u7 ct) (by omega),_,rfl,hU (by rw [decide_eq_true eq]; rfl) ?_⟩
       exact ⟨_,_,rfl,T2.trans sl⟩
     . rintro σ Hh ⟨v9,v10,rfl,sh⟩
       refine ⟨_,rfl,x,dx,f1,f2,f3,f4,f5,f6,ts,M,rfl,(TX.same sh).mf,by omega,λfo2 Hi adZ si Ih=>?_⟩
       have lay:(PyData.list ((aC M).map PyData.str)).canLay0=true:=by
        rw [PyData.canLay0]
        exact AR λd hd=>by
         obtain ⟨z,hz,rfl⟩:=List.mem_map.mp hd
         rw [PyData.canLay0]
         exact Br (Bp mz.ok z hz)
       refine ⟨_,rfl,.list ((aC M).map PyData.str),.list ((aC M).map PyData.str),.lst (av.of Ih) (sF _),.lst (av.of (si _ _ (sh _ _ TY))) (sF _),lay,lay,?_,?_⟩
       . rw [PyData.depth,BB]
         exact Nat.min_le_left _ _
       . rw [PyData.eqv,BA]
         exact kk Hi (s0g.trans (sh.trans si))
end
end Gen
namespace Gen
open PySem L2
abbrev oo:Stmt:=top 29
def wR (K:W.Frag):Sp:=λvs H Q _=>∃(a:Addr) (ns:List Int),vs=[.ref a]/\av K H a (ns.map V.int)/\∀H',Q (.bl true) H'
abbrev Wf:List Str:=["_law_script", "_law_m", "_law_other"]
def aS.rev (M:aS):aS:={ M with keepers:=M.keepers.reverse }
theorem cy.rev {M:aS}{all:List Str}(h:cy M all):cy M.rev (M.switches++(M.keepers.map (·.1)).reverse++M.gates.map (·.1)):=by
 have mem:∀x,x∈M.switches++(M.keepers.map (·.1)).reverse++M.gates.map (·.1) ↔ x∈all:=λx=>by
  rw [h.all]
  simp only [List.mem_append,List.mem_reverse]
 have lit:∀{a b:List Str}{z:Str},(∀x,x∈a->x∈b)->Lit a z->Lit b z:=λhs hl=>sQ hl hs
 have nd:=jN h
 refine ⟨by unfold aS.rev; rw [List.map_reverse],λz hz=>h.nm z ((mem z).mp hz),?_,λr hr=>h.first r (List.mem_reverse.mp hr),λr hr=>?_,λr hr=>lit (λx=>(mem x).mpr) (h.nxl r hr),h.nxd,?_,?_,λi r hr=>?_⟩
 . rw [List.nodup_append,List.nodup_append] at nd ⊢
   refine ⟨⟨nd.1.1,List.pairwise_reverse.mpr (List.Pairwise.imp (λh z=>h z.symm) nd.1.2.1),λa ha b hb=>nd.1.2.2 a ha b (List.mem_reverse.mp hb)⟩,nd.2.1,λa ha b hb=>nd.2.2 a ?_ b hb⟩
   rcases List.mem_append.mp ha with ha | ha
   . exact List.mem_append_left _ ha
   . exact List.mem_append_right _ (List.mem_reverse.mp ha)
 . have:=h.nxk r hr
   show r.1∈M.keepers.reverse.map (·.1)
   rw [List.map_reverse]
   exact List.mem_reverse.mpr this
 . exact ⟨h.nvw.nm,λr hr=>lit (λx=>(mem x).mpr) (h.nvw.lit r hr),h.nvw.ut,h.nvw.nd⟩
 . exact ⟨h.smw.nm,λr hr=>lit (λx=>(mem x).mpr) (h.smw.lit r hr),h.smw.ut,h.smw.nd⟩
 . have hs:∀x,x∈M.switches++M.keepers.map (·.1)++(M.gates.take i).map (·.1)->x∈M.rev.switches++M.rev.keepers.map (·.1)++(M.rev.gates.take i).map (·.1):=λx hx=>by
    show x∈M.switches++M.keepers.reverse.map (·.1)++(M.gates.take i).map (·.1)
    rw [List.map_reverse]
    simp only [List.mem_append,List.mem_reverse] at hx ⊢
    exact hx
   exact ⟨lit hs (h.gl i r hr).1,lit hs (h.gl i r hr).2⟩
theorem MZ.rev {M:aS}{all:List Str}(h:MZ M all):MZ M.rev (M.switches++(M.keepers.map (·.1)).reverse++M.gates.map (·.1)):=by
 refine ⟨h.ok.rev,h.n60,?_⟩
 have:=h.n8
 rw [lF] at this ⊢
 show M.keepers.reverse.length+M.switches.length<=8
 rw [List.length_reverse]
 exact this
theorem uI {α β:Type}{F:α->β->Prop} : ∀{l:List α}{r:List β},Paired F l r->Paired F l.reverse r.reverse
 | _,_,.nil=>.nil
 | _,_,.cons a t=>by
  rw [List.reverse_cons,List.reverse_cons]
  exact cL (uI t) (.cons a .nil)
theorem NN (a1 a2 a3 a4 a5 a6 x:Addr):putK (cR a1 a2 a3 a4 a5 a6) (.inr "keepers") (.ref x)=cR a1 x a3 a4 a5 a6:=by
 have n1:¬ (Sum.inr "switches" : Key)=.inr "keepers":=by decide +kernel
 have n3:¬ (Sum.inr "gates" : Key)=.inr "keepers":=by decide +kernel
 have n4:¬ (Sum.inr "nexts" : Key)=.inr "keepers":=by decide +kernel
 have n5:¬ (Sum.inr "nevers" : Key)=.inr "keepers":=by decide +kernel
 have n6:¬ (Sum.inr "somes" : Key)=.inr "keepers":=by decide +kernel
 unfold putK cR
 have ha:([((.inr "switches" : Key),V.ref a1),(.inr "keepers",.ref a2),(.inr "gates",.ref a3),(.inr "nexts",.ref a4),(.inr "nevers",.ref a5),(.inr "somes",.ref a6)].any λkv=>decide (kv.1=.inr "keepers"))=true:=List.any_eq_true.mpr ⟨((.inr "keepers" : Key),V.ref a2),List.mem_cons_of_mem _ List.mem_cons_self,decide_eq_true rfl⟩
 rw [if_pos ha]
 simp only [List.map_cons,List.map_nil,n1,n3,n4,n5,n6,if_false,if_true]
section
variable {P:Program}{w:World}{K:W.Frag}{mg:Str->Option Value}{base:Heap}{fM fR:Addr}{dM dR:FuncData}
theorem CP:aY Wf ["_law_script"] (ar oo):=⟨rfl,rfl,rfl,by decide +kernel,rfl,by decide +kernel,by decide +kernel⟩
theorem NO {f:Addr}{fd:FuncData}(F:cq K "law" "law" oo f fd) (O2:gh mg)
 (gM:ax P w K mg base aD 5 fM dM uT (pF K)) (mM:mg "_law_machine" = some (.ref fM)) (kM:W.keepIn K (.ref fM)=true) (bM:Binds K dM uT [])
 (gR:ax P w K mg base aD 19 fR dR BC vk) (mR:mg "_law_right" = some (.ref fR)) (kR:W.keepIn K (.ref fR)=true) (bR:Binds K dR BC []):ax P w K mg base aD 20 f fd ["_law_script"] (wR K):=by
 refine F.ok CP (λvs H Q E h=>?_) (λcdv A outer s H vs Q E hr h=>?_)
 . obtain ⟨a,ns,rfl,_⟩:=h
   rfl
 . obtain ⟨a,ns,rfl,ha,kk⟩:=h
   have hu:=fu hr
   have hr5:bb 5 _:=hr.mono (by decide)
   refine ⟨_,ai (aE (i:=1) CP.nd rfl (Or.inl rfl) (aB gM hr5 rfl mM kM bM .nil aA (aa (pv 0) (aa (cP (aa aq (aa aq (aa aq (aa aq ah))))) ah))))
    (ai (aE (i:=2) CP.nd rfl (Or.inl rfl) (bt ff (by rfl) O2.dict PyProof.Rows.boot_dict (aa (pv 1) ah)))
    (ai (eX hu (pv 2) aU (MQ (by rfl) O2.list (by rfl) O2.rev rfl (aa (cC hu (pv 1) aU (λ_ _=>rfl)) ah)) rfl)
    (aw (aW (oO (aB gR hr rfl mR kR bR .nil aA (aa (pv 1) (aa aq ah))) (oO (aB gR hr rfl mR kR bR .nil aA (aa (pv 2) (aa aq ah))) (w6 (aB gR hr rfl mR kR bR .nil aA (aa (pv 1) (aa aq ah)))))))))),?_⟩
   refine ⟨_,rfl,(by show 4<=sizeLine; decide),λz hz=>?_⟩
   have st:ak H (upd H z (.lst [.int 3,.int 4,.int 10,.int 2])):=ak.au hz
   refine ⟨a,z,ns,3,4,10,2,rfl,ak.seq st ha,⟨.inl (av.of af),by decide,by decide,by decide,by decide,by decide⟩,⟨_,af⟩,λm M all a1 a2 a3 a4 a5 a6 H1 ok l1 l0 l2 l3 l4 l5 l6 l7 hM s1=>?_⟩
   have mz:MZ M all:=⟨ok,l3,by rw [lF]; omega⟩
   refine ⟨_,rfl,m,_,rfl,.inl hM.top,λo ho=>?_⟩
   have s2:ak H1 (upd H1 o (.dK (cR a1 a2 a3 a4 a5 a6))):=ak.au ho
   have q2:(upd H1 o (.dK (cR a1 a2 a3 a4 a5 a6))) o=some (.dK (cR a1 a2 a3 a4 a5 a6)):=af
   show dU _ _ _ _ (upd H1 o (.dK (cR a1 a2 a3 a4 a5 a6)))
   generalize upd H1 o (.dK (cR a1 a2 a3 a4 a5 a6))=H2 at s2 q2 ⊢
   have wg:=hM.same s2
   obtain ⟨t2,h2,p2⟩:=id wg.kp
   refine ⟨_,rfl,m,.ref a2,rfl,b0.k (k:=.inr "keepers") wg.top,a2,_,rfl,av.of h2,λl hl=>?_⟩
   rw [← List.map_reverse]
   have s3:ak H2 (upd H2 l (.lst (t2.reverse.map V.ref))):=ak.au hl
   have q3:(upd H2 l (.lst (t2.reverse.map V.ref))) l=some (.lst (t2.reverse.map V.ref)):=af
   generalize upd H2 l (.lst (t2.reverse.map V.ref))=H3 at s3 q3 ⊢
   refine ⟨_,rfl,o,_,rfl,gu.k (k:=.inr "keepers") (s3 _ _ q2) (by show 6<sizeLine; decide),?_⟩
   rw [NN]
   have T3:=s3 _ _ q2
   have s4:ak H1 (upd H3 o (.dK (cR a1 l a3 a4 a5 a6))):=λb u hb=>by
    rw [ag (ae hb ho)]
    exact s3 _ _ (s2 _ _ hb)
   have q4:(upd H3 o (.dK (cR a1 l a3 a4 a5 a6))) o=some (.dK (cR a1 l a3 a4 a5 a6)):=af
   have ql:(upd H3 o (.dK (cR a1 l a3 a4 a5 a6))) l=some (.lst (t2.reverse.map V.ref)):=by rw [ag (a9 q3 T3 (by intro z; cases z))]; exact q3
   have pl:Paired (λt r=>(upd H3 o (.dK (cR a1 l a3 a4 a5 a6))) t=some (.tup r)) t2.reverse (M.rev.keepers.map jd):=by
    show Paired _ t2.reverse (M.keepers.reverse.map jd)
    rw [List.map_reverse]
    refine uI (Paired.cb p2 λt r e=>?_)
    rw [ag (a9 (s3 _ _ e) T3 (by intro z; cases z))]
    exact s3 _ _ e
   generalize upd H3 o (.dK (cR a1 l a3 a4 a5 a6))=H4 at s4 q4 ql pl ⊢
   have zA:=hM.same s4
   have wq:eL H4 o M.rev a1 l a3 a4 a5 a6:=⟨q4,zA.sw,⟨_,ql,pl⟩,zA.gt,zA.nx,zA.nv,zA.sm⟩
   refine ⟨_,rfl,m,99,M,all,a1,a2,a3,a4,a5,a6,rfl,zA,mz,λH5 s5=>⟨_,rfl,kX ?_⟩⟩
   refine ⟨_,rfl,o,4,M.rev,_,a1,l,a3,a4,a5,a6,rfl,wq.same s5,mz.rev,λH6 s6=>⟨_,rfl,kX ?_⟩⟩
   exact ⟨_,rfl,m,4,M,all,a1,a2,a3,a4,a5,a6,rfl,zA.same (s5.trans s6),mz,λH7 s7=>kk H7⟩
end
end Gen
namespace Gen
open PySem L2
section
variable {P:Program}{w:World}{K:W.Frag}{mg:Str->Option Value}{base:Heap}{C:Addr}
theorem qO {k:Nat}{f:Addr}{fd:FuncData}{ps:List Str}{sp:Sp}(h:∀vs H Q E,¬ sp vs H Q E):ax P w K mg base aD k f fd ps sp:=⟨λvs H Q E q=>(h _ _ _ _ q).elim,λA outer s H args us vs Q E _ _ _ _ q=>(h _ _ _ _ q).elim⟩
theorem rM {f:Addr}{fd:FuncData}(F:cq K "tree_at" "Forest.tree_at" jk f fd) (T:jj K mg C) (mT:Meth K C "tree_at" f) (bT:Binds K fd ["self", "number"] []):∀d,ax P w K mg base aD (d+1) f fd ["self", "number"] (oh P w C d)
 | 0=>qO λvs H Q E q=>by first | (obtain ⟨_,_,_,_,_,_,_,_,_,_,_,_,_,_,_,_,h,_⟩:=q; exact Nat.not_lt_zero _ h) | (cases q; omega)
 | d+1=>Ct F T (rM F T mT bT d) mT bT
theorem uJ {f fN fH:Addr}{fd dN dH:FuncData}(F:cq K "chosen" "Forest.chosen" jl f fd) (T:jj K mg C) (O2:gh mg) (mC:Meth K C "chosen" f) (bC:Binds K fd pQ []) (gN:ax P w K mg base aD 1 fN dN rG (pO P w C)) (mN:Meth K C "node" fN) (bN:Binds K dN rG [])
 (gH:ax P w K mg base aD 1 fH dH ["self", "number", "spot", "side"] (uu P w C)) (mH:Meth K C "half" fH) (bH:Binds K dH ["self", "number", "spot", "side"] []):∀d,ax P w K mg base aD (d+1) f fd pQ (lu P w C d)
 | 0=>qO λvs H Q E q=>by first | (obtain ⟨_,_,_,_,_,_,_,_,_,_,_,_,_,_,_,_,_,_,_,_,h,_⟩:=q; exact Nat.not_lt_zero _ h) | (cases q; omega)
 | d+1=>EM F T O2 (uJ F T O2 mC bC gN mN bN gH mH bH d) mC bC gN mN bN gH mH bH
theorem zB {f:Addr}{fd:FuncData}(F:cq K "_law_same_tree" "_law_same_tree" ly f fd) (T:gh mg) (mS:mg "_law_same_tree" = some (.ref f)) (bS:Binds K fd lz []):∀d,ax P w K mg base aD d f fd lz (jm d)
 | 0=>qO λvs H Q E q=>by first | (obtain ⟨_,_,_,_,_,_,_,h,_⟩:=q; exact Nat.not_lt_zero _ h) | (cases q; omega)
 | d+1=>yI F T (zB F T mS bS d) mS bS
theorem wC {f fS:Addr}{fd dS:FuncData}(F:cq K "_law_canon" "_law_canon" lx f fd) (O2:gh mg) (mC:mg "_law_canon" = some (.ref f)) (bC:Binds K fd rJ [])
 (gS:ax P w K mg base aD 9 fS dS lz (jm 9)) (mS:mg "_law_same_tree" = some (.ref fS)) (kS:W.keepIn K (.ref fS)=true) (bS:Binds K dS lz []):∀d,ax P w K mg base aD (d+9) f fd rJ (nh d)
 | 0=>qO λvs H Q E q=>by first | (obtain ⟨_,_,_,_,_,_,_,h,_⟩:=q; exact Nat.not_lt_zero _ h) | (cases q; omega)
 | d+1=>(show d+9+1=d+1+9 by omega) ▸ Gx F O2 (wC F O2 mC bC gS mS kS bS d) mC bC gS mS kS bS
end
end Gen
namespace L2
open PySem PySem.Spec PyProof.Rows
theorem zC {α:Type} : ∀{us:List α},us.length=1->∃a,us=[a]
 | [a],_=>⟨a,rfl⟩
theorem vm {α:Type} : ∀{us:List α}{n:Nat},us.length=n+1->∃a r,us=a::r/\r.length=n
 | a::r,_,h=>⟨a,r,rfl,Nat.succ.inj h⟩
theorem fh {α:Type}{us:List α}(h:us.length=2):∃a b,us=[a,b]:=by
 obtain ⟨a,r,rfl,h1⟩:=vm h
 obtain ⟨b,rfl⟩:=zC h1
 exact ⟨a,b,rfl⟩
theorem CQ {α:Type}{us:List α}(h:us.length=3):∃a b c,us=[a,b,c]:=by
 obtain ⟨a,r,rfl,h1⟩:=vm h
 obtain ⟨b,c,rfl⟩:=fh h1
 exact ⟨a,b,c,rfl⟩
theorem zD {α:Type}{us:List α}(h:us.length=4):∃a b c d,us=[a,b,c,d]:=by
 obtain ⟨a,r,rfl,h1⟩:=vm h
 obtain ⟨b,c,d,rfl⟩:=CQ h1
 exact ⟨a,b,c,d,rfl⟩
theorem Wg {α:Type}{us:List α}(h:us.length=7):∃a b c d e f g,us=[a,b,c,d,e,f,g]:=by
 obtain ⟨a,r,rfl,h1⟩:=vm h
 obtain ⟨b,r2,rfl,h2⟩:=vm h1
 obtain ⟨c,r3,rfl,h3⟩:=vm h2
 obtain ⟨d,e,f,g,rfl⟩:=zD h3
 exact ⟨a,b,c,d,e,f,g,rfl⟩
end L2
namespace Gen
open PySem L2
section
theorem all_mk {l:W.OpenLaw}{w:World}{K:W.Frag}{h:Heap}{mg:Str->Option Value}{fa CM CF CG CS zE zF CT CU zG CV CW CY CZ C0 C1 f4 NP NQ IG NR IH II IJ IK IL IP IQ IS IT IU IV IW IX IY NS:Addr}(X:K.In h) (G:h.Ns mainGlobals mg) (hfa:mg "law" = some (.ref fa))
 {P4 P5 P6 P9 Qa Qb Qc Qd Qe Qf Qg Qh Qi Qj Qk Ql Qm Qn Qo Qp Qq Qr Qs Qt od4 an4 Wh Wi Wj Wk Wl Wm Wn Wo Wq Wr Ws Wt Wu Wv Ww Wx Wy Wz WA WB WC WD WE WG WH WI WJ WK WL WM WN WO WQ WR WS WT WU NT:Option Addr}{Qu Qv Qw Qx Qy Qz QA QB QC QD QE QF sl4 WV WW WX WY WZ W0 W2 W3 W4 W5 W6 W7 W8 W9 Xa Xb Xc Xd Xe:Array (Option Value)}{QG QH QI QJ IZ QK QL QM QN QO I0 QP QQ QR QS QT Ja QU QV QW QX QY Jb QZ Q0 Q1 Q2 Q3 Jc Q4 Q5 Q6 Q7 Q8 Jd Q9 Ra Rb Rc Rf Je Rg Rh Ri Rj Rk Jf Rl Rm Rn Ro Rp Jg Rq Rr Rt Ru Rv Jh Rw Rx Ry Rz RA Ji RB RC RD RE RF Jj RG oc4 kV4 dc4 pm4 T4 ct4 Xf Xg Xh Xi NU Xj Xk Xl Xm Xn NV Xo Xp Xq Xr Xs NW Xt Xu Xv Xw Xx NY Xy Xz XA XB XC NZ XD XE XF XG XH N0 XI XJ XM XN XO N1 XQ XR XS XT XU N2 XW XX XY XZ X0 N3 X1 X2 X3 X4 X5 N4 X6 X7 X8 X9 Ya N5 Yb Yc Yd Ye Yf N6 Yg Yh Yi Yj Yk N7 Yl Ym Yn Yo Yp N8 Yq Yr Ys Yt Yu N9 Yv Yw Yx Yy Yz Oa YA YB YC YD YE Ob YF YG YH YI YJ Oc YK YL Od Oe Of G1 Og:Value}
 (aCM:W.nsIn K mainGlobals "Machine" = some (some (.ref CM))) (aCF:W.nsIn K mainGlobals "Forest" = some (some (.ref CF))) (aCG:W.nsIn K mainGlobals "Grove" = some (some (.ref CG)))
 (a200:W.findIn K (.ref CM) "__init__" = some (some (.ref CS))) (i200:W.isFn K (.ref CS)=true) (l200:K.lookup CS=some ⟨QG,P4,.func (W.fnOf "__init__" "Machine.__init__" (aT qv) (aI qv) (ar qv) .none QH QI QJ P5 IZ QK),Qu⟩) (c200:W.codeIn K IZ "Machine.__init__" = true) (k200:W.keepIn K (.ref CS)=true)
 (a100:W.findIn K (.ref CF) "__init__" = some (some (.ref zE))) (i100:W.isFn K (.ref zE)=true) (l100:K.lookup zE=some ⟨QL,P6,.func (W.fnOf "__init__" "Forest.__init__" (aT ng) (aI ng) (ar ng) .none QM QN QO P9 I0 QP),Qv⟩) (c100:W.codeIn K I0 "Forest.__init__" = true) (k100:W.keepIn K (.ref zE)=true)
 (a101:W.findIn K (.ref CF) "node" = some (some (.ref zF))) (i101:W.isFn K (.ref zF)=true) (l101:K.lookup zF=some ⟨QQ,Qa,.func (W.fnOf "node" "Forest.node" (aT qz) (aI qz) (ar qz) .none QR QS QT Qb Ja QU),Qw⟩) (c101:W.codeIn K Ja "Forest.node" = true) (k101:W.keepIn K (.ref zF)=true)
 (a103:W.findIn K (.ref CF) "tree_at" = some (some (.ref CT))) (i103:W.isFn K (.ref CT)=true) (l103:K.lookup CT=some ⟨QV,Qc,.func (W.fnOf "tree_at" "Forest.tree_at" (aT jk) (aI jk) (ar jk) .none QW QX QY Qd Jb QZ),Qx⟩) (c103:W.codeIn K Jb "Forest.tree_at" = true) (k103:W.keepIn K (.ref CT)=true)
 (a104:W.findIn K (.ref CF) "chosen" = some (some (.ref CU))) (i104:W.isFn K (.ref CU)=true) (l104:K.lookup CU=some ⟨Q0,Qe,.func (W.fnOf "chosen" "Forest.chosen" (aT jl) (aI jl) (ar jl) .none Q1 Q2 Q3 Qf Jc Q4),Qy⟩) (c104:W.codeIn K Jc "Forest.chosen" = true) (k104:W.keepIn K (.ref CU)=true)
 (a105:W.findIn K (.ref CF) "half" = some (some (.ref zG))) (i105:W.isFn K (.ref zG)=true) (l105:K.lookup zG=some ⟨Q5,Qg,.func (W.fnOf "half" "Forest.half" (aT qB) (aI qB) (ar qB) .none Q6 Q7 Q8 Qh Jd Q9),Qz⟩) (c105:W.codeIn K Jd "Forest.half" = true) (k105:W.keepIn K (.ref zG)=true)
 (a106:W.findIn K (.ref CF) "leaf_of" = some (some (.ref CV))) (i106:W.isFn K (.ref CV)=true) (l106:K.lookup CV=some ⟨Ra,Qi,.func (W.fnOf "leaf_of" "Forest.leaf_of" (aT qD) (aI qD) (ar qD) .none Rb Rc Rf Qj Je Rg),QA⟩) (c106:W.codeIn K Je "Forest.leaf_of" = true) (k106:W.keepIn K (.ref CV)=true)
 (a300:W.findIn K (.ref CG) "__init__" = some (some (.ref CW))) (i300:W.isFn K (.ref CW)=true) (l300:K.lookup CW=some ⟨Rh,Qk,.func (W.fnOf "__init__" "Grove.__init__" (aT ny) (aI ny) (ar ny) .none Ri Rj Rk Ql Jf Rl),QB⟩) (c300:W.codeIn K Jf "Grove.__init__" = true) (k300:W.keepIn K (.ref CW)=true)
 (a301:W.findIn K (.ref CG) "number_of" = some (some (.ref CY))) (i301:W.isFn K (.ref CY)=true) (l301:K.lookup CY=some ⟨Rm,Qm,.func (W.fnOf "number_of" "Grove.number_of" (aT qK) (aI qK) (ar qK) .none Rn Ro Rp Qn Jg Rq),QC⟩) (c301:W.codeIn K Jg "Grove.number_of" = true) (k301:W.keepIn K (.ref CY)=true)
 (a302:W.findIn K (.ref CG) "plant" = some (some (.ref CZ))) (i302:W.isFn K (.ref CZ)=true) (l302:K.lookup CZ=some ⟨Rr,Qo,.func (W.fnOf "plant" "Grove.plant" (aT jo) (aI jo) (ar jo) .none Rt Ru Rv Qp Jh Rw),QD⟩) (c302:W.codeIn K Jh "Grove.plant" = true) (k302:W.keepIn K (.ref CZ)=true)
 (a303:W.findIn K (.ref CG) "opposite_of" = some (some (.ref C0))) (i303:W.isFn K (.ref C0)=true) (l303:K.lookup C0=some ⟨Rx,Qq,.func (W.fnOf "opposite_of" "Grove.opposite_of" (aT qJ) (aI qJ) (ar qJ) .none Ry Rz RA Qr Ji RB),QE⟩) (c303:W.codeIn K Ji "Grove.opposite_of" = true) (k303:W.keepIn K (.ref C0)=true)
 (a304:W.findIn K (.ref CG) "both_of" = some (some (.ref C1))) (i304:W.isFn K (.ref C1)=true) (l304:K.lookup C1=some ⟨RC,Qs,.func (W.fnOf "both_of" "Grove.both_of" (aT nq) (aI nq) (ar nq) .none RD RE RF Qt Jj RG),QF⟩) (c304:W.codeIn K Jj "Grove.both_of" = true) (k304:W.keepIn K (.ref C1)=true)
 (a4:W.nsIn K mainGlobals "bare_name" = some (some (.ref f4))) (l4:K.lookup f4=some ⟨oc4,od4,.func (W.fnOf "bare_name" "bare_name" (aT qI) (aI qI) (ar qI) .none kV4 dc4 pm4 an4 T4 ct4),sl4⟩) (c4:W.codeIn K T4 "bare_name" = true) (k4:W.keepIn K (.ref f4)=true)
 (a10:W.nsIn K mainGlobals "order_of" = some (some (.ref NP))) (l10:K.lookup NP=some ⟨Xf,Wh,.func (W.fnOf "order_of" "order_of" (aT jq) (aI jq) (ar jq) .none Xg Xh Xi Wi NU Xj),WV⟩) (c10:W.codeIn K NU "order_of" = true) (k10:W.keepIn K (.ref NP)=true)
 (a11:W.nsIn K mainGlobals "tree_of" = some (some (.ref NQ))) (l11:K.lookup NQ=some ⟨Xk,Wj,.func (W.fnOf "tree_of" "tree_of" (aT ky) (aI ky) (ar ky) .none Xl Xm Xn Wk NV Xo),WW⟩) (c11:W.codeIn K NV "tree_of" = true) (k11:W.keepIn K (.ref NQ)=true)
 (a13:W.nsIn K mainGlobals "_law_cell_at" = some (some (.ref IG))) (l13:K.lookup IG=some ⟨Xp,Wl,.func (W.fnOf "_law_cell_at" "_law_cell_at" (aT qp) (aI qp) (ar qp) .none Xq Xr Xs Wm NW Xt),WX⟩) (c13:W.codeIn K NW "_law_cell_at" = true) (k13:W.keepIn K (.ref IG)=true)
 (a14:W.nsIn K mainGlobals "_law_mix" = some (some (.ref NR))) (l14:K.lookup NR=some ⟨Xu,Wn,.func (W.fnOf "_law_mix" "_law_mix" (aT rW) (aI rW) (ar rW) .none Xv Xw Xx Wo NY Xy),WY⟩) (c14:W.codeIn K NY "_law_mix" = true) (k14:W.keepIn K (.ref NR)=true)
 (a15:W.nsIn K mainGlobals "_law_rich" = some (some (.ref IH))) (l15:K.lookup IH=some ⟨Xz,Wq,.func (W.fnOf "_law_rich" "_law_rich" (aT qq) (aI qq) (ar qq) .none XA XB XC Wr NZ XD),WZ⟩) (c15:W.codeIn K NZ "_law_rich" = true) (k15:W.keepIn K (.ref IH)=true)
 (a16:W.nsIn K mainGlobals "_law_pick" = some (some (.ref II))) (l16:K.lookup II=some ⟨XE,Ws,.func (W.fnOf "_law_pick" "_law_pick" (aT j8) (aI j8) (ar j8) .none XF XG XH Wt N0 XI),W0⟩) (c16:W.codeIn K N0 "_law_pick" = true) (k16:W.keepIn K (.ref II)=true)
 (a17:W.nsIn K mainGlobals "_law_spelt" = some (some (.ref IJ))) (l17:K.lookup IJ=some ⟨XJ,Wu,.func (W.fnOf "_law_spelt" "_law_spelt" (aT iY) (aI iY) (ar iY) .none XM XN XO Wv N1 XQ),W2⟩) (c17:W.codeIn K N1 "_law_spelt" = true) (k17:W.keepIn K (.ref IJ)=true)
 (a18:W.nsIn K mainGlobals "_law_literal" = some (some (.ref IK))) (l18:K.lookup IK=some ⟨XR,Ww,.func (W.fnOf "_law_literal" "_law_literal" (aT iB) (aI iB) (ar iB) .none XS XT XU Wx N2 XW),W3⟩) (c18:W.codeIn K N2 "_law_literal" = true) (k18:W.keepIn K (.ref IK)=true)
 (a19:W.nsIn K mainGlobals "_law_wishes" = some (some (.ref IL))) (l19:K.lookup IL=some ⟨XX,Wy,.func (W.fnOf "_law_wishes" "_law_wishes" (aT ko) (aI ko) (ar ko) .none XY XZ X0 Wz N3 X1),W4⟩) (c19:W.codeIn K N3 "_law_wishes" = true) (k19:W.keepIn K (.ref IL)=true)
 (a20:W.nsIn K mainGlobals "_law_machine_digits" = some (some (.ref IP))) (l20:K.lookup IP=some ⟨X2,WA,.func (W.fnOf "_law_machine_digits" "_law_machine_digits" (aT di) (aI di) (ar di) .none X3 X4 X5 WB N4 X6),W5⟩) (c20:W.codeIn K N4 "_law_machine_digits" = true) (k20:W.keepIn K (.ref IP)=true)
 (a21:W.nsIn K mainGlobals "_law_machine" = some (some (.ref IQ))) (l21:K.lookup IQ=some ⟨X7,WC,.func (W.fnOf "_law_machine" "_law_machine" (aT fw) (aI fw) (ar fw) .none X8 X9 Ya WD N5 Yb),W6⟩) (c21:W.codeIn K N5 "_law_machine" = true) (k21:W.keepIn K (.ref IQ)=true)
 (a22:W.nsIn K mainGlobals "_law_values" = some (some (.ref IS))) (l22:K.lookup IS=some ⟨Yc,WE,.func (W.fnOf "_law_values" "_law_values" (aT kr) (aI kr) (ar kr) .none Yd Ye Yf WG N6 Yg),W7⟩) (c22:W.codeIn K N6 "_law_values" = true) (k22:W.keepIn K (.ref IS)=true)
 (a23:W.nsIn K mainGlobals "_law_bit" = some (some (.ref IT))) (l23:K.lookup IT=some ⟨Yh,WH,.func (W.fnOf "_law_bit" "_law_bit" (aT uY) (aI uY) (ar uY) .none Yi Yj Yk WI N7 Yl),W8⟩) (c23:W.codeIn K N7 "_law_bit" = true) (k23:W.keepIn K (.ref IT)=true)
 (a24:W.nsIn K mainGlobals "_law_all_bits" = some (some (.ref IU))) (l24:K.lookup IU=some ⟨Ym,WJ,.func (W.fnOf "_law_all_bits" "_law_all_bits" (aT qF) (aI qF) (ar qF) .none Yn Yo Yp WK N8 Yq),W9⟩) (c24:W.codeIn K N8 "_law_all_bits" = true) (k24:W.keepIn K (.ref IU)=true)
 (a25:W.nsIn K mainGlobals "_law_canon" = some (some (.ref IV))) (l25:K.lookup IV=some ⟨Yr,WL,.func (W.fnOf "_law_canon" "_law_canon" (aT lx) (aI lx) (ar lx) .none Ys Yt Yu WM N9 Yv),Xa⟩) (c25:W.codeIn K N9 "_law_canon" = true) (k25:W.keepIn K (.ref IV)=true)
 (a26:W.nsIn K mainGlobals "_law_same_tree" = some (some (.ref IW))) (l26:K.lookup IW=some ⟨Yw,WN,.func (W.fnOf "_law_same_tree" "_law_same_tree" (aT ly) (aI ly) (ar ly) .none Yx Yy Yz WO Oa YA),Xb⟩) (c26:W.codeIn K Oa "_law_same_tree" = true) (k26:W.keepIn K (.ref IW)=true)
 (a27:W.nsIn K mainGlobals "_law_made" = some (some (.ref IX))) (l27:K.lookup IX=some ⟨YB,WQ,.func (W.fnOf "_law_made" "_law_made" (aT qN) (aI qN) (ar qN) .none YC YD YE WR Ob YF),Xc⟩) (c27:W.codeIn K Ob "_law_made" = true) (k27:W.keepIn K (.ref IX)=true)
 (a28:W.nsIn K mainGlobals "_law_right" = some (some (.ref IY))) (l28:K.lookup IY=some ⟨YG,WS,.func (W.fnOf "_law_right" "_law_right" (aT nz) (aI nz) (ar nz) .none YH YI YJ WT Oc YK),Xd⟩) (c28:W.codeIn K Oc "_law_right" = true) (k28:W.keepIn K (.ref IY)=true)
 (a29:W.nsIn K mainGlobals "law" = some (some (.ref NS))) (l29:K.lookup NS=some ⟨YL,WU,.func (W.fnOf "law" "law" (aT oo) (aI oo) (ar oo) .none Od Oe Of NT G1 Og),Xe⟩) (c29:W.codeIn K G1 "law" = true) (k29:W.keepIn K (.ref NS)=true)
 (pgM:W.plainGet K CM Str.empty=true) (hdM:W.hasDictIn K CM=true) (poM:W.plainOver K CM=true) (saM:W.findIn K (.ref CM) "__setattr__" = some (some (.builtin "object.__setattr__"))) (mkM:W.makesIn K CM=true) (kcM:W.keepIn K (.ref CM)=true)
 (n1:W.findIn K (.ref CM) "switches" = some none) (n2:W.findIn K (.ref CM) "keepers" = some none) (n3:W.findIn K (.ref CM) "gates" = some none) (n4:W.findIn K (.ref CM) "nexts" = some none) (n5:W.findIn K (.ref CM) "nevers" = some none) (n6:W.findIn K (.ref CM) "somes" = some none)
 (pgF:W.plainGet K CF Str.empty=true) (hdF:W.hasDictIn K CF=true) (poF:W.plainOver K CF=true) (saF:W.findIn K (.ref CF) "__setattr__" = some (some (.builtin "object.__setattr__"))) (mkF:W.makesIn K CF=true) (kcF:W.keepIn K (.ref CF)=true)
 (q1:W.findIn K (.ref CF) "names" = some none) (q2:W.findIn K (.ref CF) "spots" = some none) (q3:W.findIn K (.ref CF) "nodes" = some none) (q4:W.findIn K (.ref CF) "known" = some none) (q5:W.findIn K (.ref CF) "choices" = some none) (q6:W.findIn K (.ref CF) "imported" = some none) (q7:W.findIn K (.ref CF) "exported" = some none)
 (pgG:W.plainGet K CG Str.empty=true) (hdG:W.hasDictIn K CG=true) (poG:W.plainOver K CG=true) (saG:W.findIn K (.ref CG) "__setattr__" = some (some (.builtin "object.__setattr__"))) (mkG:W.makesIn K CG=true) (kcG:W.keepIn K (.ref CG)=true)
 (g1:W.findIn K (.ref CG) "machine" = some none) (g2:W.findIn K (.ref CG) "forest" = some none) (g3:W.findIn K (.ref CG) "planted" = some none) (g4:W.findIn K (.ref CG) "inputs" = some none) (g5:W.findIn K (.ref CG) "nexts" = some none) (g6:W.findIn K (.ref CG) "made_into" = some none) (g7:W.findIn K (.ref CG) "made_without" = some none)
 (z0:W.nsIn K mainGlobals "len" = some none) (z1:W.nsIn K mainGlobals "range" = some none) (z2:W.nsIn K mainGlobals "enumerate" = some none) (z3:W.nsIn K mainGlobals "list" = some none) (z4:W.nsIn K mainGlobals "dict" = some none) (z5:W.nsIn K mainGlobals "tuple" = some none) (z6:W.nsIn K mainGlobals "str" = some none) (z7:W.nsIn K mainGlobals "int" = some none) (z8:W.nsIn K mainGlobals "bool" = some none) (z9:W.nsIn K mainGlobals "zip" = some none) (z10:W.nsIn K mainGlobals "all" = some none) (z11:W.nsIn K mainGlobals "isinstance" = some none) (z12:W.nsIn K mainGlobals "min" = some none) (z13:W.nsIn K mainGlobals "reversed" = some none) (z14:W.nsIn K mainGlobals "max" = some none) (z15:W.nsIn K mainGlobals "sorted" = some none)
 :
 ∃fd:FuncData,(∀(s:Shared) (v:Value),BindsTo s fd ⟨[v],[]⟩ [("_law_script",v)])/\∀base:Heap,K.In base->base.Ns mainGlobals mg->ax l.prog w K mg base aD 20 fa fd ["_law_script"] (wR K):=by
 have e:=hfa.symm.trans (W.mg_of X G a29)
 cases e
 have TM:uW K mg CM:=⟨⟨pgM,hdM,poM,saM⟩,n1,n2,n3,n4,n5,n6,W.mg_of X G aCM⟩
 have TF:jj K mg CF:=⟨⟨pgF,hdF,poF,saF⟩,q1,q2,q3,q4,q5,q6,q7,W.mg_of X G aCF⟩
 have TG:pW K mg CG:=⟨⟨pgG,hdG,poG,saG⟩,g1,g2,g3,g4,g5,g6,g7,W.mg_of X G aCG⟩
 have O:Own mg:=⟨W.mg_none_of X G z0,W.mg_none_of X G z1,W.mg_none_of X G z2,W.mg_none_of X G z3⟩
 have O2:gh mg:=⟨W.mg_none_of X G z0,W.mg_none_of X G z3,W.mg_none_of X G z4,W.mg_none_of X G z5,W.mg_none_of X G z6,W.mg_none_of X G z7,W.mg_none_of X G z8,W.mg_none_of X G z9,W.mg_none_of X G z10,W.mg_none_of X G z11,W.mg_none_of X G z12,W.mg_none_of X G z13,W.mg_none_of X G z14⟩
 have Kj:mg "sorted" = none:=W.mg_none_of X G z15
 have Oh:=bp (st:=qv) l200 c200 k200
 have YM:=Oh.binds (ps:=qx) λ_ _ _ _ _ _ us hl=>by obtain ⟨_,_,_,_,_,_,_,rfl⟩:=Wg hl; rfl
 have Oi:=bp (st:=ng) l100 c100 k100
 have YN:=Oi.binds (ps:=["self", "order"]) λ_ _ _ _ _ _ us hl=>by obtain ⟨_,_,rfl⟩:=fh hl; rfl
 have Oj:=bp (st:=qz) l101 c101 k101
 have Ol:=Oj.binds (ps:=rG) λ_ _ _ _ _ _ us hl=>by obtain ⟨_,_,_,_,rfl⟩:=zD hl; rfl
 have Om:=bp (st:=jk) l103 c103 k103
 have Oo:=Om.binds (ps:=["self", "number"]) λ_ _ _ _ _ _ us hl=>by obtain ⟨_,_,rfl⟩:=fh hl; rfl
 have Oq:=bp (st:=jl) l104 c104 k104
 have G2:=Oq.binds (ps:=pQ) λ_ _ _ _ _ _ us hl=>by obtain ⟨_,_,_,_,rfl⟩:=zD hl; rfl
 have Ot:=bp (st:=qB) l105 c105 k105
 have YO:=Ot.binds (ps:=["self", "number", "spot", "side"]) λ_ _ _ _ _ _ us hl=>by obtain ⟨_,_,_,_,rfl⟩:=zD hl; rfl
 have Ou:=bp (st:=qD) l106 c106 k106
 have YQ:=Ou.binds (ps:=["self", "name"]) λ_ _ _ _ _ _ us hl=>by obtain ⟨_,_,rfl⟩:=fh hl; rfl
 have Ov:=bp (st:=ny) l300 c300 k300
 have YR:=Ov.binds (ps:=["self", "machine", "order"]) λ_ _ _ _ _ _ us hl=>by obtain ⟨_,_,_,rfl⟩:=CQ hl; rfl
 have G3:=bp (st:=qK) l301 c301 k301
 have Ow:=G3.binds (ps:=["self", "literal"]) λ_ _ _ _ _ _ us hl=>by obtain ⟨_,_,rfl⟩:=fh hl; rfl
 have G4:=bp (st:=jo) l302 c302 k302
 have Ox:=G4.binds (ps:=["self", "literal"]) λ_ _ _ _ _ _ us hl=>by obtain ⟨_,_,rfl⟩:=fh hl; rfl
 have Oy:=bp (st:=qJ) l303 c303 k303
 have Oz:=Oy.binds (ps:=["self", "number"]) λ_ _ _ _ _ _ us hl=>by obtain ⟨_,_,rfl⟩:=fh hl; rfl
 have OA:=bp (st:=nq) l304 c304 k304
 have YS:=OA.binds (ps:=["self", "one", "other"]) λ_ _ _ _ _ _ us hl=>by obtain ⟨_,_,_,rfl⟩:=CQ hl; rfl
 have F4:=bp (st:=qI) l4 c4 k4
 have m4:=W.mg_of X G a4
 have b4:=F4.binds (ps:=["literal"]) λ_ _ _ _ _ _ us hl=>by obtain ⟨_,rfl⟩:=zC hl; rfl
 have T6:=bp (st:=jq) l10 c10 k10
 have T7:=W.mg_of X G a10
 have T8:=T6.binds (ps:=["machine"]) λ_ _ _ _ _ _ us hl=>by obtain ⟨_,rfl⟩:=zC hl; rfl
 have T9:=bp (st:=ky) l11 c11 k11
 have m11:=W.mg_of X G a11
 have b11:=T9.binds (ps:=["machine", "literal"]) λ_ _ _ _ _ _ us hl=>by obtain ⟨_,_,rfl⟩:=fh hl; rfl
 have Ua:=bp (st:=qp) l13 c13 k13
 have m13:=W.mg_of X G a13
 have b13:=Ua.binds (ps:=["_law_script", "_law_k"]) λ_ _ _ _ _ _ us hl=>by obtain ⟨_,_,rfl⟩:=fh hl; rfl
 have Ub:=bp (st:=rW) l14 c14 k14
 have m14:=W.mg_of X G a14
 have b14:=Ub.binds (ps:=["_law_cell", "_law_k"]) λ_ _ _ _ _ _ us hl=>by obtain ⟨_,_,rfl⟩:=fh hl; rfl
 have Uc:=bp (st:=qq) l15 c15 k15
 have Ud:=W.mg_of X G a15
 have Ue:=Uc.binds (ps:=["_law_cell", "_law_k"]) λ_ _ _ _ _ _ us hl=>by obtain ⟨_,_,rfl⟩:=fh hl; rfl
 have Fq:=bp (st:=j8) l16 c16 k16
 have Jk:=W.mg_of X G a16
 have Jl:=Fq.binds (ps:=["_law_left", "_law_many"]) λ_ _ _ _ _ _ us hl=>by obtain ⟨_,_,rfl⟩:=fh hl; rfl
 have OB:=bp (st:=iY) l17 c17 k17
 have Ug:=W.mg_of X G a17
 have Uh:=OB.binds (ps:=["_law_left", "_law_told"]) λ_ _ _ _ _ _ us hl=>by obtain ⟨_,_,rfl⟩:=fh hl; rfl
 have OC:=bp (st:=iB) l18 c18 k18
 have Ui:=W.mg_of X G a18
 have Uj:=OC.binds (ps:=["_law_left", "_law_names"]) λ_ _ _ _ _ _ us hl=>by obtain ⟨_,_,rfl⟩:=fh hl; rfl
 have Uk:=bp (st:=ko) l19 c19 k19
 have m19:=W.mg_of X G a19
 have b19:=Uk.binds (ps:=kq) λ_ _ _ _ _ _ us hl=>by obtain ⟨_,_,_,_,rfl⟩:=zD hl; rfl
 have Ul:=bp (st:=di) l20 c20 k20
 have m20:=W.mg_of X G a20
 have b20:=Ul.binds (ps:=pB) λ_ _ _ _ _ _ us hl=>by obtain ⟨_,_,rfl⟩:=fh hl; rfl
 have Um:=bp (st:=fw) l21 c21 k21
 have m21:=W.mg_of X G a21
 have b21:=Um.binds (ps:=uT) λ_ _ _ _ _ _ us hl=>by obtain ⟨_,_,rfl⟩:=fh hl; rfl
 have Uo:=bp (st:=kr) l22 c22 k22
 have m22:=W.mg_of X G a22
 have b22:=Uo.binds (ps:=AF) λ_ _ _ _ _ _ us hl=>by obtain ⟨_,_,_,rfl⟩:=CQ hl; rfl
 have Up:=bp (st:=uY) l23 c23 k23
 have Uq:=W.mg_of X G a23
 have Ur:=Up.binds (ps:=["_law_values_here", "_law_literal_here"]) λ_ _ _ _ _ _ us hl=>by obtain ⟨_,_,rfl⟩:=fh hl; rfl
 have Us:=bp (st:=qF) l24 c24 k24
 have Nn:=W.mg_of X G a24
 have b24:=Us.binds (ps:=["_law_many"]) λ_ _ _ _ _ _ us hl=>by obtain ⟨_,rfl⟩:=zC hl; rfl
 have Ut:=bp (st:=lx) l25 c25 k25
 have ID:=W.mg_of X G a25
 have Uu:=Ut.binds (ps:=rJ) λ_ _ _ _ _ _ us hl=>by obtain ⟨_,_,rfl⟩:=fh hl; rfl
 have Uv:=bp (st:=ly) l26 c26 k26
 have OD:=W.mg_of X G a26
 have OE:=Uv.binds (ps:=lz) λ_ _ _ _ _ _ us hl=>by obtain ⟨_,_,rfl⟩:=fh hl; rfl
 have Uw:=bp (st:=qN) l27 c27 k27
 have m27:=W.mg_of X G a27
 have b27:=Uw.binds (ps:=["_law_m"]) λ_ _ _ _ _ _ us hl=>by obtain ⟨_,rfl⟩:=zC hl; rfl
 have Ux:=bp (st:=nz) l28 c28 k28
 have m28:=W.mg_of X G a28
 have b28:=Ux.binds (ps:=BC) λ_ _ _ _ _ _ us hl=>by obtain ⟨_,_,rfl⟩:=fh hl; rfl
 have F29:=bp (st:=oo) l29 c29 k29
 have m29:=W.mg_of X G a29
 refine ⟨W.fnOf "law" "law" (aT oo) (aI oo) (ar oo) .none Od Oe Of NT G1 Og,λs v=>.of_eq rfl,λbase _ _=>?_⟩
 have gP:ax l.prog w K mg base aD 1 II _ ["_law_left", "_law_many"] o8:=uR Fq O
 have gS:ax l.prog w K mg base aD 2 IJ _ ["_law_left", "_law_told"] (qr K):=xJ OB O Fq Jl Jk
 have gL:ax l.prog w K mg base aD 2 IK _ ["_law_left", "_law_names"] (lK K):=tX OC O Fq Jl Jk
 have gW:ax l.prog w K mg base aD 3 IL _ kq (rY K):=D0 Uk O Fq Jl Jk OB Uh Ug OC Uj Ui
 have gR:ax l.prog w K mg base aD 2 IH _ ["_law_cell", "_law_k"] tQ:=JH Uc O Ub b14 m14
 have gD:ax l.prog w K mg base aD 4 IP _ pB (nM K):=Ed Ul ⟨O,gP,Jk,k16,Jl,gS,Ug,k17,Uh,gL,Ui,k18,Uj,gW,m19,k19,b19,gR,Ud,k15,Ue⟩
 have gC:ax l.prog w K mg base aD 1 IG _ ["_law_script", "_law_k"] (xF K):=JG Ua O
 have gM:ax l.prog w K mg base aD 5 IQ _ uT (pF K):=Ce Um O gD m20 k20 b20 gC m13 k13 b13 gR Ud k15 Ue
 have gMd:ax l.prog w K mg base aD 3 IX _ ["_law_m"] (zw CM):=Ke Uw TM O2 ⟨mkM,a200,i200,kcM⟩ (JR Oh TM O2) YM
 have OF:ax l.prog w K mg base aD 1 IT _ ["_law_values_here", "_law_literal_here"] pL:=Mh Up O2
 have gVs:ax l.prog w K mg base aD 2 IS _ AF (sA K):=Ey Uo O2 OF Uq k23 Ur
 have gAB:ax l.prog w K mg base aD 1 IU _ ["_law_many"] (ze K):=zQ Us O Kj
 have Uy:ax l.prog w K mg base aD 1 zF _ rG (pO l.prog w CF):=J2 Oj TF O2
 have gHa:ax l.prog w K mg base aD 1 zG _ ["self", "number", "spot", "side"] (uu l.prog w CF):=J1 Ot TF
 have Uz:=uJ Oq TF O2 ⟨a104,i104,k104⟩ G2 Uy ⟨a101,i101,k101⟩ Ol gHa ⟨a105,i105,k105⟩ YO 9
 have gA:=rM (P:=l.prog) (w:=w) (base:=base) Om TF ⟨a103,i103,k103⟩ Oo 9
 have gFI:ax l.prog w K mg base aD 1 zE _ ["self", "order"] (vb l.prog w CF):=Gv Oi TF O2 O
 have gLf:=J4 Ou TF Uy ⟨a101,i101,k101⟩ Ol
 have UA:ax l.prog w K mg base aD 9 IW _ lz (jm 9):=zB Uv O2 OD OE 9
 have gK:ax l.prog w K mg base aD 18 IV _ rJ (nh 9):=wC Ut O2 ID Uu UA OD k26 OE 9
 have CB:wQ l.prog w K mg base f4 _:=⟨Kb F4,m4,k4,b4⟩
 have gGI:=GU Ov TG TF TM O2 ⟨mkF,a100,i100,kcF⟩ gFI YN gLf ⟨a106,i106,k106⟩ YQ
 have gGB:=GK (CM:=CM) OA TG TF Uz ⟨a104,i104,k104⟩ G2
 have UB:=Kc (CM:=CM) Oy TG TF Uz ⟨a104,i104,k104⟩ G2
 have gP0:=CI (CF:=CF) (CM:=CM) G4 TG CB
 have gN0:=Bm (k:=0) G3 TG CB gP0 ⟨a302,i302,k302⟩ Ox UB ⟨a303,i303,k303⟩ Oz
 have gP1:=CJ G4 TG TM O2 CB gN0 ⟨a301,i301,k301⟩ Ow gGB ⟨a304,i304,k304⟩ YS
 have gN1:=Bm (k:=2) G3 TG CB gP1 ⟨a302,i302,k302⟩ Ox UB ⟨a303,i303,k303⟩ Oz
 have UC:=zR (P:=l.prog) (w:=w) (base:=base) T6 TM O2
 have gTO:=CO T9 TG TF ⟨gGI,⟨mkG,a300,i300,kcG⟩,YR,UC,T7,k10,T8,gN1,⟨a301,i301,k301⟩,Ow,gA,⟨a103,i103,k103⟩,Oo⟩
 have gRt:ax l.prog w K mg base aD 19 IY _ BC vk:=G0 Ux O2 ⟨gMd,m27,k27,b27,UC,T7,k10,T8,gAB,Nn,k24,b24,gVs,m22,k22,b22,gK,ID,k25,Uu,OF,Uq,k23,Ur,UA,OD,k26,OE,gTO,m11,k11,b11⟩
 exact NO F29 O2 gM m21 k21 b21 gRt m28 k28 b28
theorem walk {l:W.OpenLaw}{q:Program}{loose:List Str}{XP:(Str->Option Value)->Heap->Prop}{YP:World->Heap->Prop}{d:DefRec}{K:Params->W.Frag}(hn:l.most=some 63) (DD:d.params.defaults=[])
 (hY:∀(w:World) (h:Heap),YP w h->(K w.params).In h)
 (F:∀(w:World) (mg:Str->Option Value) (fa:Addr) (h:Heap),(K w.params).In h->h.Ns mainGlobals mg->mg d.name=some (.ref fa)->
  ∃fd:FuncData,(∀(s:Shared) (u:Value),BindsTo s fd ⟨[u],[]⟩ [("_law_script",u)])/\∀base:Heap,(K w.params).In base->base.Ns mainGlobals mg->ax l.prog w (K w.params) mg base aD 20 fa fd ["_law_script"] (wR (K w.params))) :
 W.WalkO q loose XP YP l.row.toRowW d [] (λf vs=>PySem.call f vs):=
 L2.JB (n:=63) (k:=20) (x:="_law_script") (CX:=λ_=>aD) (sp:=λw=>wR (K w.params)) hn (by decide) DD ⟨rfl,by decide,by decide⟩ hY F (λ_ _ a ns hl _ hS=>⟨a,ns,rfl,hS,λ_=>rfl⟩) λ_ _ _ _ _ z=>z
end
end Gen
open PySem PySem.W PyProof.Rows
inductive PySem.W.Fast : Prop
|tw6015491949213188606
|tw16672414829200841095
|tw7848430269345187522
|tw11690910067900539054
|tw7128371447692867973
|tw16894467565271635611
|tw3099711806072957109
|tw5583059365469300540
|tw4188887255481325986
|tw1444354278630741585
|tw13938599945919351009
|tw9047102894567259504
|tw8094086461033767291
|tw12730761218981509688
|tw13203031930477284615
|tw77079750932225400
|tw8271585073484890758
|tw18422055580869302766
|tw12769311694452673932
|tw8749684406798832172
|tw8522273670619834575
|tw15841992411710173684
|tw1521645830440508814
|tw9647053028419239091
|tw10716521189679606110
|tw6515459487216063734
|tw17874195643775089890
|tw8801510983189892677
|tw5753054741071463024
|tw3212407474756844803
|tw6294056608480096980
|tw16820608433586554558
|tw2526346055423856661
|tw18036743591919915802
|tw4780126996152135758
|tw15426411745020789638
|tw13132057419383882246
|tw710323334870672441
|tw1788986967801242515
|tw16964783944314189002
|tw14934912314820797126
|tw1230722612907735545
|tw13770223834765034984
|tw10895647735247403387
|tw15028479960529239685
|tw18302809795891884874
|tw7123853455659268497
|tw18349319973612781290
|tw10284603988828879557
|tw14860468678082343604
|tw8259033837579137874
|te8259033837579137874
|tw13840834319197296343
|tw15884785217006341625
|tw9927637174346828247
|tw2019588742326945142
|tw5833804496188833977
|tw10507347183676738695
|tw15115205601350695038
|tw11938389979956767680
|tw2862430214661106944
|tw809819327936420540
|tw16212722785828933701
|tw9198348710368633983
|tw4934489143118702059
|tw17397960485715938070
|tw7260441288390325652
|tw7963838290978285262
|tw13004698413985919934
|tw6907081338211863757
|tw3876562908586234374
|tw11344530182007528218
|tw8062693497849332543
|tw13222524765964004982
|tw8538807160151939320
|tw6557037200377768653
|tw12993982203281846428
|tw16619224932157468705
|tw11130036537429999807
|tw1766165387318551410
|tw12285337214719236905
|tw16484534511812977663
|tw6864949885033333069
|tw17754994140123467898
|tw13811435642079437298
|tw16123207047150102303
|tw4222864055274456970
|tw13321404405865067056
|tw12158133868589931329
|tw10447114118624800043
|tw13834463324046460348
|tw16580281249832906655
|tw10571918948156790658
|tw16563384047661585379
|tw16992941007039688636
|tw3169580753173006135
|tw13571286546891070536
|tw467233517716677371
|tw12517446018515739652
|tw14000271378023287925
|tw8770512079216938902
|tw15894581163352451169
|tw8983479450225439592
|tw2715978157680513260
|tw18051013237050499641
|tw13629593910133909853
|tw5574878603075244677
|tw2896061606444899349
|tw7823770960446111588
|tw11038040693327490062
|tw15794270807531803222
|tw17860567402034725725
|tw6580178750236719801
|tw4327971392800117413
|tw3130792276105618810
|tw11017368520459165808
|tw5211397966016834342
|tw15799892059654382047
|tw6930149093301152192
|tw13489239173029629127
|tw3076275552664253270
|tw17021638130094919914
|tw13801953651441260142
|tw1223260393595659542
|tw7222830985822645296
|tw3672905827603353717
|tw1905715001400213244
|tw15508552610002731579
|tw8184810025884292619
|tw10461975045592878134
|tw3402177269619606042
|tw6232745242688008716
|tw17523919300314348253
|tw14901293938789662083
|tw5514450099874269943
|tw1362964106022636465
|tw8852504105616138685
|tw16841750002339790364
|tw6807609233540626722
|tw8300780117268358966
|tw6729767673003829230
|tw7843339609453769703
|tw1116964357731543904
|tw15791370975252139617
|tw9214980356563297499
|tw13998193957844114425
|tw16610862490234658217
|tw6655567103159365436
|tw11809866728875284835
|tw2685816522110874566
|tw3516350448711620084
|tw10750148913132406492
|tw13007674410747251687
|tw8351460032403249803
|tw7013435094252132262
|tw9262463177825670421
|tw12486145461633834951
|tw10230017194326536855
|tw875961611666820426
|tw5675453033769562726
|tw17899593767509609701
|tw14211382195167285084
|tw7284219043114505005
|tw5613215341737507919
|tw12255143214020799505
|tw13951365151760089573
|tw11985186738717423585
|tw4730156359703462653
|tw9070560709064418979
|tw7833185796734378755
|tw9368563091719593543
|tw14244291657478423419
|tw12281079646922770824
|tw11734260059859522209
|tw15069168140965482358
|tw9859808574824707085
|tw4951990783593112378
|tw11470965648270606993
|tw18259143098405188714
|tw14795796097448554875
|tw97568224393551335
|tw14243705987167483166
set_option maxRecDepth 100000 in
set_option maxHeartbeats 0 in
theorem PySem.Challenge.cw_everguard_k43_trees_of_literals_holds : PySem.Challenge.rw_everguard_k43_trees_of_literals.Holds := by
 w_on; o_law; k_head; (case hw=>w_witness2)
 k_fill
 refine Gen.walk (l:=PySem.Challenge.rw_everguard_k43_trees_of_literals) rfl rfl (λw h Y=>W.kIn_of Y) ?F
 case F=>
  intro w mg fa h KX G DE
  refine' Gen.all_mk KX G DE ?aCM ?aCF ?aCG ?a200 ?i200 ?l200 ?c200 ?k200 ?a100 ?i100 ?l100 ?c100 ?k100 ?a101 ?i101 ?l101 ?c101 ?k101 ?a103 ?i103 ?l103 ?c103 ?k103 ?a104 ?i104 ?l104 ?c104 ?k104 ?a105 ?i105 ?l105 ?c105 ?k105 ?a106 ?i106 ?l106 ?c106 ?k106 ?a300 ?i300 ?l300 ?c300 ?k300 ?a301 ?i301 ?l301 ?c301 ?k301 ?a302 ?i302 ?l302 ?c302 ?k302 ?a303 ?i303 ?l303 ?c303 ?k303 ?a304 ?i304 ?l304 ?c304 ?k304 ?a4 ?l4 ?c4 ?k4 ?a10 ?l10 ?c10 ?k10 ?a11 ?l11 ?c11 ?k11 ?a13 ?l13 ?c13 ?k13 ?a14 ?l14 ?c14 ?k14 ?a15 ?l15 ?c15 ?k15 ?a16 ?l16 ?c16 ?k16 ?a17 ?l17 ?c17 ?k17 ?a18 ?l18 ?c18 ?k18 ?a19 ?l19 ?c19 ?k19 ?a20 ?l20 ?c20 ?k20 ?a21 ?l21 ?c21 ?k21 ?a22 ?l22 ?c22 ?k22 ?a23 ?l23 ?c23 ?k23 ?a24 ?l24 ?c24 ?k24 ?a25 ?l25 ?c25 ?k25 ?a26 ?l26 ?c26 ?k26 ?a27 ?l27 ?c27 ?k27 ?a28 ?l28 ?c28 ?k28 ?a29 ?l29 ?c29 ?k29 ?pgM ?hdM ?poM ?saM ?mkM ?kcM ?n1 ?n2 ?n3 ?n4 ?n5 ?n6 ?pgF ?hdF ?poF ?saF ?mkF ?kcF ?q1 ?q2 ?q3 ?q4 ?q5 ?q6 ?q7 ?pgG ?hdG ?poG ?saG ?mkG ?kcG ?g1 ?g2 ?g3 ?g4 ?g5 ?g6 ?g7 ?z0 ?z1 ?z2 ?z3 ?z4 ?z5 ?z6 ?z7 ?z8 ?z9 ?z10 ?z11 ?z12 ?z13 ?z14 ?z15
  (case aCM=>k_is); (case aCF=>k_is); (case aCG=>k_is); (case a200=>k_is); (case i200=>k_is); (case l200=>k_is)
  (case c200=>k_is); (case k200=>k_is); (case a100=>k_is); (case i100=>k_is); (case l100=>k_is); (case c100=>k_is)
  (case k100=>k_is); (case a101=>k_is); (case i101=>k_is); (case l101=>k_is); (case c101=>k_is); (case k101=>k_is)
  (case a103=>k_is); (case i103=>k_is); (case l103=>k_is); (case c103=>k_is); (case k103=>k_is); (case a104=>k_is)
  (case i104=>k_is); (case l104=>k_is); (case c104=>k_is); (case k104=>k_is); (case a105=>k_is); (case i105=>k_is)
  (case l105=>k_is); (case c105=>k_is); (case k105=>k_is); (case a106=>k_is); (case i106=>k_is); (case l106=>k_is)
  (case c106=>k_is); (case k106=>k_is); (case a300=>k_is); (case i300=>k_is); (case l300=>k_is); (case c300=>k_is)
  (case k300=>k_is); (case a301=>k_is); (case i301=>k_is); (case l301=>k_is); (case c301=>k_is); (case k301=>k_is)
  (case a302=>k_is); (case i302=>k_is); (case l302=>k_is); (case c302=>k_is); (case k302=>k_is); (case a303=>k_is)
  (case i303=>k_is); (case l303=>k_is); (case c303=>k_is); (case k303=>k_is); (case a304=>k_is); (case i304=>k_is)
  (case l304=>k_is); (case c304=>k_is); (case k304=>k_is); (case a4=>k_is); (case l4=>k_is); (case c4=>k_is)
  (case k4=>k_is); (case a10=>k_is); (case l10=>k_is); (case c10=>k_is); (case k10=>k_is); (case a11=>k_is)
  (case l11=>k_is); (case c11=>k_is); (case k11=>k_is); (case a13=>k_is); (case l13=>k_is); (case c13=>k_is)
  (case k13=>k_is); (case a14=>k_is); (case l14=>k_is); (case c14=>k_is); (case k14=>k_is); (case a15=>k_is)
  (case l15=>k_is); (case c15=>k_is); (case k15=>k_is); (case a16=>k_is); (case l16=>k_is); (case c16=>k_is)
  (case k16=>k_is); (case a17=>k_is); (case l17=>k_is); (case c17=>k_is); (case k17=>k_is); (case a18=>k_is)
  (case l18=>k_is); (case c18=>k_is); (case k18=>k_is); (case a19=>k_is); (case l19=>k_is); (case c19=>k_is)
  (case k19=>k_is); (case a20=>k_is); (case l20=>k_is); (case c20=>k_is); (case k20=>k_is); (case a21=>k_is)
  (case l21=>k_is); (case c21=>k_is); (case k21=>k_is); (case a22=>k_is); (case l22=>k_is); (case c22=>k_is)
  (case k22=>k_is); (case a23=>k_is); (case l23=>k_is); (case c23=>k_is); (case k23=>k_is); (case a24=>k_is)
  (case l24=>k_is); (case c24=>k_is); (case k24=>k_is); (case a25=>k_is); (case l25=>k_is); (case c25=>k_is)
  (case k25=>k_is); (case a26=>k_is); (case l26=>k_is); (case c26=>k_is); (case k26=>k_is); (case a27=>k_is)
  (case l27=>k_is); (case c27=>k_is); (case k27=>k_is); (case a28=>k_is); (case l28=>k_is); (case c28=>k_is)
  (case k28=>k_is); (case a29=>k_is); (case l29=>k_is); (case c29=>k_is); (case k29=>k_is); (case pgM=>k_is)
  (case hdM=>k_is); (case poM=>k_is); (case saM=>k_is); (case mkM=>k_is); (case kcM=>k_is); (case n1=>k_is)
  (case n2=>k_is); (case n3=>k_is); (case n4=>k_is); (case n5=>k_is); (case n6=>k_is); (case pgF=>k_is)
  (case hdF=>k_is); (case poF=>k_is); (case saF=>k_is); (case mkF=>k_is); (case kcF=>k_is); (case q1=>k_is)
  (case q2=>k_is); (case q3=>k_is); (case q4=>k_is); (case q5=>k_is); (case q6=>k_is); (case q7=>k_is)
  (case pgG=>k_is); (case hdG=>k_is); (case poG=>k_is); (case saG=>k_is); (case mkG=>k_is); (case kcG=>k_is)
  (case g1=>k_is); (case g2=>k_is); (case g3=>k_is); (case g4=>k_is); (case g5=>k_is); (case g6=>k_is)
  (case g7=>k_is); (case z0=>k_is); (case z1=>k_is); (case z2=>k_is); (case z3=>k_is); (case z4=>k_is)
  (case z5=>k_is); (case z6=>k_is); (case z7=>k_is); (case z8=>k_is); (case z9=>k_is); (case z10=>k_is)
  (case z11=>k_is); (case z12=>k_is); (case z13=>k_is); (case z14=>k_is); (case z15=>k_is)
#print axioms PySem.Challenge.cw_everguard_k43_trees_of_literals_holds
