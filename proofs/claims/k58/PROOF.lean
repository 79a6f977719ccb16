import PyProof.Rows.All
import Wide.All
import OpenK.AllK
import Wide.FinOn
import Lean
import PyProof.EqAt
import PyProof.EqKinds
import PyProof.TupleCall
import PyProof.StrBlockL
import PyProof.StrLawsOcc
import Wide.Txt
import PyProof.IsiH_list
import PyProof.AttrMiss
import PyProof.ConsumeWalk
import PyProof.TupleIter
import KE.KDictOf
import PyProof.DictWalks
import KE.KDictList
import PyProof.NeKinds
import PyProof.ZipIter
import Wide.Seal
import KE.KIntText
import PyProof.DictValues
import PyProof.Rows.SortRuns
import KE.KSortTup
import PyProof.NeData
import PyProof.P3Eq
import PyProof.Rows.Chain
import PyProof.Rows.RuleIs
import PySem.Challenge.RW_everguard_k58_lassos
set_option Elab.async false
set_option linter.all false
set_option maxRecDepth 100000
namespace L2
open PySem PySem.Spec PyProof.Rows
abbrev Key:=Sum Int Str
def ib:Key->Value->Bool
 | .inl k,v=>Value.isInt k v
 | .inr x,v=>Value.isStrOf x v
def LA (w:World):Key->Int
 | .inl k=>hashInt k
 | .inr x=>hashStr w x
theorem cP:∀{k:Key}{v:Value},ib k v=true->(∃i t,k=Sum.inl i/\v=Value.int i t)\/(∃x t,k=Sum.inr x/\v=Value.str x t)
 | .inl i,v,h=>by
  obtain ⟨t,e⟩:=Value.isInt_shape (k:=i) (v:=v) h
  exact .inl ⟨i,t,rfl,e⟩
 | .inr x,v,h=>by
  obtain ⟨t,e⟩:=Value.isStrOf_shape (x:=x) (v:=v) h
  exact .inr ⟨x,t,rfl,e⟩
theorem DS (i:Int) (t:Tok):ib (.inl i) (.int i t)=true:=by simp [ib,Value.isInt]
theorem DT (x:Str) (t:Tok):ib (.inr x) (.str x t)=true:=by simp [ib,Value.isStrOf]
theorem LB (a b:Int):decide ((Sum.inl a:Key)=Sum.inl b)=(a == b):=by
 by_cases e:a=b
 . subst e; simp
 . have h:¬ (Sum.inl a:Key)=Sum.inl b:=λq=>e (Sum.inl.inj q)
   rw [decide_eq_false h]
   exact (beq_eq_false_iff_ne.mpr e).symm
theorem LC (a b:Str):decide ((Sum.inr a:Key)=Sum.inr b)=decide (a=b):=by
 by_cases e:a=b
 . subst e; simp
 . have h:¬ (Sum.inr a:Key)=Sum.inr b:=λq=>e (Sum.inr.inj q)
   rw [decide_eq_false h,decide_eq_false e]
theorem LD (a:Int) (b:Str):decide ((Sum.inl a:Key)=Sum.inr b)=false:=decide_eq_false (λq=>nomatch q)
theorem LF (a:Str) (b:Int):decide ((Sum.inr a:Key)=Sum.inl b)=false:=decide_eq_false (λq=>nomatch q)
def aR (prog:Program) (w:World):PySem.KeyKind prog w Key where
 is:=ib
 hash:=LA w
 inj:=λv a b ha hb=>by
  rcases cP ha with ⟨i,t,rfl,rfl⟩ | ⟨x,t,rfl,rfl⟩
  . rcases cP hb with ⟨j,u,rfl,e⟩ | ⟨y,u,rfl,e⟩
    . injection e with e1 _; rw [e1]
    . exact nomatch e
  . rcases cP hb with ⟨j,u,rfl,e⟩ | ⟨y,u,rfl,e⟩
    . exact nomatch e
    . injection e with e1 _; rw [e1]
 byValue:=λk v h=>by
  rcases cP h with ⟨i,t,rfl,rfl⟩ | ⟨x,t,rfl,rfl⟩ <;> rfl
 pyHash:=λhv h=>by
  rcases cP hv with ⟨i,t,rfl,rfl⟩ | ⟨x,t,rfl,rfl⟩
  . exact wpAny_pyHash_int h
  . exact wpAny_pyHash_str h
 eqBool:=λhu hv h=>by
  rcases cP hu with ⟨i,t,rfl,rfl⟩ | ⟨x,t,rfl,rfl⟩
  . rcases cP hv with ⟨j,u,rfl,rfl⟩ | ⟨y,u,rfl,rfl⟩
    . rw [LB] at h; exact wpAny_eqBool_int h
    . rw [LD] at h; exact SeqAt.EqAt.int_str i t y u _ _ _ _ h
  . rcases cP hv with ⟨j,u,rfl,rfl⟩ | ⟨y,u,rfl,rfl⟩
    . rw [LF] at h; exact SeqAt.EqAt.str_int x t j u _ _ _ _ h
    . rw [LC] at h; exact wpAny_eqBool_str h
 «strs»:=λk x t v h=>by
  rcases cP h with ⟨i,u,rfl,e⟩ | ⟨y,u,rfl,e⟩
  . exact nomatch e
  . injection e with e1 _
    subst e1
    cases v <;> rfl
theorem Ct (prog:Program) (w:World) (k:Key) (v:Value):(aR prog w).is k v=ib k v:=rfl
theorem AK (prog:Program) (w:World) (i:Int) (t:Tok):(aR prog w).is (.inl i) (.int i t)=true:=DS i t
theorem mO (prog:Program) (w:World) (x:Str) (t:Tok):(aR prog w).is (.inr x) (.str x t)=true:=DT x t
end L2
namespace L2
open PySem PySem.Spec PyProof.Rows
inductive V where
 | aZ | bl (b:Bool) | int (i:Int) | str (x:Str) | m9 (b:Array UInt8) | DU (b:UInt64) | ref (a:Addr) | ty (n:String)
 deriving DecidableEq
def RelV:V->Value->Prop
 | .aZ,u=>u=Value.none
 | .bl b,u=>u=Value.bool b
 | .int i,u=>∃t,u=Value.int i t
 | .str x,u=>∃t,u=Value.str x t
 | .m9 b,u=>∃t,u=Value.bytes b t
 | .DU b,u=>∃t,u=Value.float b t
 | .ref a,u=>u=Value.ref a
 | .ty n,u=>u=Value.type n
abbrev Vals:List V->List Value->Prop:=Paired RelV
theorem Vals.length {xs:List V}{us:List Value}(r:Vals xs us):xs.length=us.length:=Paired.length r
theorem Vals.get:∀{xs:List V}{us:List Value}{i:Nat}{x:V},Vals xs us->xs[i]?=some x->∃u,us[i]?=some u/\RelV x u
 | _,_,_,_,.nil,e=>by simp at e
 | _,_,0,_,.cons r _,e=>by simp at e; subst e; exact ⟨_,rfl,r⟩
 | _,_,i+1,x,.cons _ t,e=>by
  obtain ⟨u,h1,h2⟩:=Vals.get (i:=i) (x:=x) t (by simpa using e)
  exact ⟨u,by simpa using h1,h2⟩
theorem Vals.set {x:V}{u:Value}(r:RelV x u):∀{xs:List V}{us:List Value}(i:Nat),Vals xs us->Vals (xs.set i x) (us.set i u)
 | _,_,_,.nil=>.nil
 | _,_,0,.cons _ t=>.cons r t
 | _,_,i+1,.cons q t=>.cons q (Vals.set r i t)
theorem Vals.append:∀{xs ys:List V}{us ws:List Value},Vals xs us->Vals ys ws->Vals (xs++ys) (us++ws)
 | _,_,_,_,.nil,s=>s
 | _,_,_,_,.cons r t,s=>.cons r (Vals.append t s)
theorem Vals.take:∀{xs:List V}{us:List Value}(n:Nat),Vals xs us->Vals (xs.take n) (us.take n)
 | _,_,0,_=>.nil
 | _,_,_+1,.nil=>.nil
 | _,_,n+1,.cons r t=>.cons r (Vals.take n t)
theorem Vals.drop:∀{xs:List V}{us:List Value}(n:Nat),Vals xs us->Vals (xs.drop n) (us.drop n)
 | _,_,0,r=>r
 | _,_,_+1,.nil=>.nil
 | _,_,n+1,.cons _ t=>Vals.drop n t
def iu:Option V->Option Value->Prop
 | some v,some u=>RelV v u
 | none,none=>True
 | _,_=>False
def KV {κ:Type} : List (κ×V)->List (κ×Value)->Prop:=Paired λ(p:κ×V) (q:κ×Value)=>p.1=q.1/\RelV p.2 q.2
def kV:Key->V
 | .inl i=>.int i
 | .inr x=>.str x
inductive HO where
 /-- a list -/
 | lst (xs:List V)
 /-- a tuple (never changes) -/
 | tup (xs:List V)
 /-- a dict whose keys are ints and texts; one whose keys are tuples of ints and texts (the empty one is both) -/
 | dK (kvs:List (Key×V)) | dT (kvs:List (List Key×V))
 /-- a set of ints: its members,its size -/
 | set (S:Int->Bool) (n:Nat)
 /-- an instance of the class at C,its dict at dx,its attributes -/
 | ins (C dx:Addr) (fs:List (Str×V))
 /-- the dict of the instance at x -/
 | own (x:Addr)
 /-- the dict of an exception -/
 | xd (fs:List (Str×V))
 /-- a bound method,f of x -/
 | met (f x:Addr)
 /-- a range object lo,lo+1,.. below hi -/
 | LG (lo hi:Int)
 /-- a thing that is known to the object (the script; a dict while a loop walks it): read,never written while it is so -/
 | fO (o:Obj) (u:HO)
 /-- a code object's table -/
 | yx (ps:Array Value)
 /-- any other thing,by what is true of its one object (a def of one's own: SetO a S n:=HO.ext λh=>..) -/
 | ext (φ:Heap->Prop)
abbrev Hp:=Addr->Option HO
def upd (H:Hp) (a:Addr) (o:HO):Hp:=λb=>if b=a then some o else H b
theorem ae {H:Hp}{a:Addr}{o:HO} : upd H a o a=some o:=by unfold upd; rw [if_pos rfl]
theorem ag {H:Hp}{a b:Addr}{o:HO}(h:b≠a):upd H a o b=H b:=by unfold upd; rw [if_neg h]
theorem ie {H:Hp}{a:Addr}{o u:HO} : upd (upd H a o) a u=upd H a u:=by
 funext b; unfold upd; split <;> rfl
theorem bg {H:Hp}{a b:Addr}{o u:HO}(h:H a=some o) (h':H b=some u) (d:o≠u):a≠b:=by
 intro e; subst e; rw [h] at h'; exact d (Option.some.inj h')
theorem af {H:Hp}{a b:Addr}{o:HO}(h:H a=some o) (h':H b=none):a≠b:=by
 intro e; subst e; rw [h] at h'; cases h'
section
variable (P:Program) (w:World)
def cv (H:Hp) (h:Heap) (a:Addr):HO->Prop
 | .lst xs=>xs.length<=sizeLine/\∃(its:List Value) (n:Nat),Vals xs its/\h.get? a=some { cls:=.type "list",data:=.seq its.toArray n }
 | .tup xs=>xs.length<=sizeLine/\∃its:List Value,Vals xs its/\IsTup h a its.toArray
 | .dK kvs=>kvs.length<=sizeLine/\(a == sysModules)=false/\∃vs,KV kvs vs/\h.DictOf (aR P w) a vs
 | .dT kvs=>kvs.length<=sizeLine/\(a == sysModules)=false/\∃xs:List (List Key×Addr×Value),
  Paired (λ(p:List Key×V) (q:List Key×Addr×Value)=>p.1=q.1/\H q.2.1=some (.tup (p.1.map kV))/\RelV p.2 q.2.2) kvs xs/\
  ∃o es ep,h.get? a=some o/\o.ExactDict/\o.data=.dict es ep/\es.toList=xs.map (entryOfKey (tupleKind (aR P w)))/\(xs.map (·.1)).Nodup
 | .set S n=>h.SetOf (intKind P w) a S n
 | .ins C dx fs=>H dx=some (.own a)/\fs.length<=1000/\dx≠a/\h.get? a=some (W.instObj C dx)/\
  ∃mA,h.Ns1 dx mA/\(∀f,iu (fs.lookup f) (mA f))/\PySem.Within mA (fs.map (·.1))
 | .own _=>∃o,h.get? a=some o
 | .xd fs=>∃mA,h.Ns1 a mA/\∀f,iu (fs.lookup f) (mA f)
 | .LG lo hi=>∃t u v,h.get? a=some { cls:=.type "range",data:=.fields #[.int lo t,.int hi u,.int 1 v] }
 | .fO o u=>h.get? a=some o/\cv H h a u
 | .yx ps=>h.get? a=some { cls:=.none,data:=.fields ps }
 | .met f x=>h.get? a=some (W.methodObj (.ref f) (.ref x))
 | .ext φ=>φ h/\(∃o,h.get? a=some o)/\∀h1 h2:Heap,φ h1->(∀o,h1.get? a=some o->h2.get? a=some o)->φ h2
def eg (H:Hp) (h:Heap):Prop:=∀a o,H a=some o->cv P w H h a o
end
section
variable {P:Program}{w:World}{H H':Hp}{h h':Heap}{a:Addr}{o:HO}
theorem cv.lt (x:cv P w H h a o):a<h.objs.size:=by
 cases o with
 | lst xs=>obtain ⟨_,_,_,_,e⟩:=x; exact Heap.lt_size e
 | tup xs=>obtain ⟨_,_,_,p⟩:=x; exact p.lt
 | dK kvs=>obtain ⟨_,_,_,_,o,_,_,e,_⟩:=x; exact Heap.lt_size e
 | dT kvs=>obtain ⟨_,_,_,_,o,_,_,e,_⟩:=x; exact Heap.lt_size e
 | set S n=>obtain ⟨o,_,_,_,e,_⟩:=x; exact Heap.lt_size e
 | ins C dx fs=>obtain ⟨_,_,_,e,_⟩:=x; exact Heap.lt_size e
 | own y=>obtain ⟨_,e⟩:=x; exact Heap.lt_size e
 | xd fs=>obtain ⟨_,⟨_,_,_,e,_⟩,_⟩:=x; exact Heap.lt_size e
 | LG lo hi=>obtain ⟨_,_,_,e⟩:=x; exact Heap.lt_size e
 | fO ob u=>obtain ⟨e,_⟩:=x; exact Heap.lt_size e
 | yx ps=>exact Heap.lt_size (show h.get? a=some _ from x)
 | met f y=>exact Heap.lt_size (show h.get? a=some _ from x)
 | ext φ=>obtain ⟨_,⟨_,e⟩,_⟩:=x; exact Heap.lt_size e
theorem Paired.bE {α β:Type}{F G:α->β->Prop} : ∀{l₁:List α}{l₂:List β},Paired F l₁ l₂->(∀a b,F a b->G a b)->Paired G l₁ l₂
 | _,_,.nil,_=>.nil
 | _,_,.cons r t,f=>.cons (f _ _ r) (Paired.bE t f)
theorem cv.pI (x:cv P w H h a o) (k:∀b u,(b=a\/H b=some (.own a))->h.get? b=some u->h'.get? b=some u)
 (ho:∀b,H b=some (.own a)->H' b=some (.own a)) (ht:∀b xs,H b=some (.tup xs)->H' b=some (.tup xs)):cv P w H' h' a o:=by
 induction o with
 | lst xs=>obtain ⟨z,its,n,r,e⟩:=x; exact ⟨z,its,n,r,k _ _ (.inl rfl) e⟩
 | tup xs=>obtain ⟨z,its,r,ob,e,c⟩:=x; exact ⟨z,its,r,ob,k _ _ (.inl rfl) e,c⟩
 | dK kvs=>obtain ⟨z,y,vs,r,ob,es,ep,e,c⟩:=x; exact ⟨z,y,vs,r,ob,es,ep,k _ _ (.inl rfl) e,c⟩
 | dT kvs=>
  obtain ⟨z,y,xs,r,ob,es,ep,e,c⟩:=x
  exact ⟨z,y,xs,Paired.bE r λp q z=>⟨z.1,ht _ _ z.2.1,z.2.2⟩,ob,es,ep,k _ _ (.inl rfl) e,c⟩
 | set S n=>obtain ⟨ob,es,ep,t,e,c⟩:=x; exact ⟨ob,es,ep,t,k _ _ (.inl rfl) e,c⟩
 | ins C dx fs=>
  obtain ⟨d,z,ne,e,mA,⟨od,es,ep,e2,c⟩,r⟩:=x
  exact ⟨ho _ d,z,ne,k _ _ (.inl rfl) e,mA,⟨od,es,ep,k _ _ (.inr d) e2,c⟩,r⟩
 | own y=>obtain ⟨ob,e⟩:=x; exact ⟨ob,k _ _ (.inl rfl) e⟩
 | xd fs=>obtain ⟨mA,⟨od,es,ep,e,c⟩,r⟩:=x; exact ⟨mA,⟨od,es,ep,k _ _ (.inl rfl) e,c⟩,r⟩
 | LG lo hi=>obtain ⟨t,u,v,e⟩:=x; exact ⟨t,u,v,k _ _ (.inl rfl) e⟩
 | fO ob u ih=>obtain ⟨e,q⟩:=x; exact ⟨k _ _ (.inl rfl) e,ih q⟩
 | yx ps=>
  have e:h.get? a=some { cls:=.none,data:=.fields ps }:=x
  show h'.get? a=some { cls:=.none,data:=.fields ps }
  exact k a _ (.inl rfl) e
 | met f y=>
  have e:h.get? a=some (W.methodObj (.ref f) (.ref y)):=x
  show h'.get? a=some (W.methodObj (.ref f) (.ref y))
  exact k a _ (.inl rfl) e
 | ext φ=>obtain ⟨p,⟨o,e⟩,st⟩:=x; exact ⟨st _ _ p λo q=>k _ _ (.inl rfl) q,⟨o,k _ _ (.inl rfl) e⟩,st⟩
theorem eg.lt (x:eg P w H h) (e:H a=some o):a<h.objs.size:=(x a o e).lt
theorem eg.fresh (x:eg P w H h) (e:h.objs.size<=a):H a=none:=by
 cases q:H a with
 | none=>rfl
 | some u=>exact absurd (Nat.lt_of_lt_of_le (x.lt q) e) (Nat.lt_irrefl _)
theorem eg.kept (x:eg P w H h) (k:∀b u,h.get? b=some u->h'.get? b=some u):eg P w H h':=λa o e=>
 (x a o e).pI (λb u _ q=>k b u q) (λ_ q=>q) λ_ _ q=>q
theorem eg.laid (x:eg P w H h) (k:∀b u,h.get? b=some u->h'.get? b=some u) (hp:h.objs.size<=a) (new:cv P w (upd H a o) h' a o):eg P w (upd H a o) h':=λb u e=>by
 have hn:=x.fresh hp
 by_cases hb:b=a
 . subst hb; rw [ae] at e; cases e; exact new
 . rw [ag hb] at e
   exact (x b u e).pI (λc v _ q=>k c v q) (λc q=>by rw [ag (af q hn)]; exact q) λc xs q=>by rw [ag (af q hn)]; exact q
end
def Rd (H:Hp) (a:Addr) (u:HO):Prop:=H a=some u\/∃o,H a=some (.fO o u)
theorem Rd.ok {P:Program}{w:World}{H:Hp}{h:Heap}{a:Addr}{u:HO}(r:Rd H a u) (x:eg P w H h):cv P w H h a u:=by
 rcases r with r | ⟨o,r⟩
 . exact x a u r
 . obtain ⟨_,q⟩:=x a _ r
   exact q
def DV:Option HO->Prop
 | some (.lst _)=>True
 | some (.dK _)=>True
 | some (.dT _)=>True
 | some (.set _ _)=>True
 | some (.ins _ _ _)=>True
 | some (.ext _)=>True
 | _=>False
section
variable {P:Program}{w:World}{H:Hp}{h h':Heap}{x e:Addr}{o':HO}
theorem eg.write (ok:eg P w H h) (mu:DV (H x)) (he:e=x\/H e=some (.own x)) (k:∀b u,b≠e->h.get? b=some u->h'.get? b=some u) (Bc:∃u,h'.get? e=some u)
 (new:cv P w (upd H x o') h' x o'):eg P w (upd H x o') h':=λb u q=>by
 have LH:∀c y,H c=some (.own y)->c≠x:=λc y r z=>by subst z; rw [r] at mu; exact mu
 have Uh:∀c xs,H c=some (.tup xs)->c≠x:=λc xs r z=>by subst z; rw [r] at mu; exact mu
 by_cases hb:b=x
 . subst hb; rw [ae] at q; cases q; exact new
 . rw [ag hb] at q
   by_cases rK:b=e
   . have q':H b=some (.own x):=by
      rcases he with z | z
      . exact absurd (rK.trans z) hb
      . rw [rK]; exact z
     rw [q] at q'; cases q'
     obtain ⟨v,hv⟩:=Bc
     exact ⟨v,by rw [rK]; exact hv⟩
   . refine (ok b u q).pI (λc v hc r=>k c v ?_ r) (λc r=>by rw [ag (LH c b r)]; exact r) λc xs r=>by rw [ag (Uh c xs r)]; exact r
     rcases hc with rfl | hc
     . exact rK
     . rintro rfl
       rcases he with z | z
       . exact LH c b hc z
       . rw [hc] at z; cases z; exact hb rfl
end
structure Un (fs ex:List Addr) (H H':Hp) (h h':Heap):Prop where
 keep:∀b o,h.get? b=some o->H b=none->b∉fs->b∉ex->h'.get? b=some o
 slot:∀b o,h.get? b=some o->H b=none->b∈fs->b∉ex->∃sl,h'.get? b=some { o with slots:=sl }
 free:∀b o,h.get? b=some o->H b=none->b∉ex->H' b=none
 there:∀b o,h.get? b=some o->b∉ex->∃o',h'.get? b=some o'
 tups:∀b xs,H b=some (.tup xs)->H' b=some (.tup xs)
 frzs:∀b o u,H b=some (.fO o u)->H' b=some (.fO o u)
 tbls:∀b ps,H b=some (.yx ps)->∃more,H' b=some (.yx (ps++more))
section
variable {fs fs' ex ex':List Addr}{H H1 H2:Hp}{h h1 h2 h':Heap}{a x e:Addr}{o:HO}
theorem Un.any (u:Un fs ex H H1 h h1){b:Addr}{ob:Obj}(q:h.get? b=some ob) (n:H b=none) (hx:b∉ex):∃sl,h1.get? b=some { ob with slots:=sl }:=by
 by_cases hb:b∈fs
 . exact u.slot b ob q n hb hx
 . exact ⟨ob.slots,u.keep b ob q n hb hx⟩
theorem Un.kept (k:∀b u,h.get? b=some u->h'.get? b=some u):Un fs ex H H h h':=
 ⟨λb ob q _ _ _=>k b ob q,λb ob q _ _ _=>⟨ob.slots,k b ob q⟩,λ_ _ _ n _=>n,λb ob q _=>⟨ob,k b ob q⟩,λ_ _ q=>q,λ_ _ _ q=>q,λ_ ps q=>⟨#[],by rw [q]; simp⟩⟩
theorem Un.refl:Un fs ex H H h h:=Un.kept λ_ _ q=>q
theorem Un.laid (k:∀b u,h.get? b=some u->h'.get? b=some u) (hp:h.objs.size<=a) (hn:H a=none):Un fs ex H (upd H a o) h h' where
 keep:=λb u q _ _ _=>k b u q
 slot:=λb u q _ _ _=>⟨u.slots,k b u q⟩
 free:=λb u q n _=>by rw [ag (Nat.ne_of_lt (Nat.lt_of_lt_of_le (Heap.lt_size q) hp))]; exact n
 there:=λb u q _=>⟨u,k b u q⟩
 tups:=λb xs q=>by rw [ag (af q hn)]; exact q
 frzs:=λb u xs q=>by rw [ag (af q hn)]; exact q
 tbls:=λb ps q=>⟨#[],by rw [ag (af q hn),q]; simp⟩
theorem Un.write (mu:DV (H x)) (he:e=x\/H e=some (.own x)) (k:∀b u,b≠e->h.get? b=some u->h'.get? b=some u) (Bc:∃u,h'.get? e=some u):Un fs ex H (upd H x o) h h':=by
 have hx:∀b,H b=none->b≠x:=λb n z=>by subst z; rw [n] at mu; exact mu
 have hb:∀b,H b=none->b≠e:=λb n z=>by
  subst z
  rcases he with r | r
  . exact hx b n r
  . rw [n] at r; cases r
 have hm:∀b u,H b=some u->¬ DV (some u)->b≠x:=λb u q nm z=>by subst z; rw [q] at mu; exact nm mu
 refine ⟨λb u q n _ _=>k b u (hb b n) q,λb u q n _ _=>⟨u.slots,k b u (hb b n) q⟩,λb u q n _=>by rw [ag (hx b n)]; exact n,λb u q _=>?_,
  λb xs q=>by rw [ag (hm b _ q λz=>z)]; exact q,λb u xs q=>by rw [ag (hm b _ q λz=>z)]; exact q,λb ps q=>⟨#[],by rw [ag (hm b _ q λz=>z),q]; simp⟩⟩
 by_cases rK:b=e
 . subst rK; exact Bc
 . exact ⟨u,k b u rK q⟩
end
def Iz (h:Heap) (H:Hp):List Addr:=(List.range h.objs.size).filter λa=>(H a).isSome
def og (h:Heap) (H:Hp):Heap:=W.hideAll h (Iz h H)
theorem DW (h:Heap) (H:Hp):(og h H).objs.size=h.objs.size:=W.hideAll_size _ _
theorem Gs {h:Heap}{H:Hp}{b:Addr}{o:Obj}(e:h.get? b=some o) (n:H b=none):(og h H).get? b=some o:=
 W.hideAll_get _ e λhm=>by
  have q:(H b).isSome=true:=(List.mem_filter.mp hm).2
  rw [n] at q; simp at q
theorem Kf {h:Heap}{H:Hp}{b:Addr}{o:Obj}(e:(og h H).get? b=some o):h.get? b=some o/\H b=none:=by
 have e':h.get? b=some o:=W.of_hideAll (Iz h H) e
 refine ⟨e',?_⟩
 cases q:H b with
 | none=>rfl
 | some x=>
  have hm:b∈Iz h H:=List.mem_filter.mpr ⟨List.mem_range.mpr (Heap.lt_size e'),by simp [q]⟩
  have z:(og h H).get? b=none:=W.hideAll_none (Iz h H) hm
  rw [z] at e; cases e
def Kg (g h:Heap) (L:Addr):List (Addr×Obj):=(List.range h.objs.size).filterMap λa=>if a=L\/(g.get? a).isSome=true then none else (h.get? a).map λo=>(a,o)
def rest (g h:Heap) (L d:Addr):List (Addr×Obj):=(Kg g h L).filter λp=>decide (p.1≠d)
end L2
namespace L2
open PySem PySem.Spec PyProof.Rows
structure Mod (K:W.Frag) (mg:Str->Option Value) (base:Heap):Prop where
 kin:K.In base
 glob:base.Ns mainGlobals mg
 blt:∃mb,base.Ns builtinsNs mb/\∀x:Str,x ≠ "__name__" -> mb x=bootBuiltins x
 nolimit:base.NoLimit
structure Cx where
 prog:Program
 w:World
 K:W.Frag
 mg:Str->Option Value
 base:Heap
 A:Around
 N:List Str
 kj:Shared
 LI:Hp
 env:Env
 outer:List Env
 stack:List Env
 ex:List Addr
 fn:Str->Bool
 calm:Bool
 pn:List (Addr×Obj)
 xe:Value->Shared->Prop
def oZ (l:List Env):List Addr:=l.filterMap (·.frame)
abbrev Cx.fs (X:Cx):List Addr:=oZ X.outer
def LJ (sc:Scope) (x:Str):Prop:=sc.names.lookup x=some .local\/sc.names.lookup x=some .cell\/sc.names.lookup x=some .free
def Loc (sc:Scope) (x:Str):Prop:=sc.names.lookup x=some .local\/sc.names.lookup x=some .cell
def Look (env:Env) (h:Heap) (m:Str->Option Value) (x:Str) (u:Value):Prop:=
 (env.kindOf x=some .local/\m x=some u)\/((env.kindOf x=some .cell\/env.kindOf x=some .free)/\∃c,env.cells.lookup x=some c/\h.IsCell c (some u))
structure Cx.Ok (X:Cx):Prop where
 mod:Mod X.K X.mg X.base
 kind:X.env.scope.kind=.function
 glob:X.env.globals=mainGlobals
 blt:X.env.builtins=builtinsNs
 above:X.kj.heap.objs.size<=X.env.locals
 inj:∀x y c,X.env.cells.lookup x=some c->X.env.cells.lookup y=some c->x=y
 has:∀x,(X.env.kindOf x=some .cell\/X.env.kindOf x=some .free)->∃c,X.env.cells.lookup x=some c
 cab:∀x c,X.fn x=true->X.env.cells.lookup x=some c->X.kj.heap.objs.size<=c
 hd:X.calm=true->X.A.handled=none
 frames:X.A.frames=some X.stack
 stk:X.stack=X.outer\/(X.stack=X.env::X.outer/\X.env.frame=some X.env.locals)
 exf:∀b∈X.ex,b≠X.env.locals/\∀x c,X.env.cells.lookup x=some c->c≠b
 bs:∀b o,X.base.get? b=some o->X.kj.heap.get? b=some o/\X.LI b=none
 bsz:X.base.objs.size<=X.kj.heap.objs.size
 noex:∀b o,X.base.get? b=some o->b∉X.ex
 exfs:∀b∈X.ex,b∉X.fs
 ko:X.kj.heap.FunFrames X.base X.outer
 frf:∀b∈X.fs,X.LI b=none
structure Inv (X:Cx) (pins:List (Addr×Obj)) (σ:List (Option V)) (H:Hp) (s:Shared):Prop where
 ok:X.Ok
 os:s.os=X.kj.os
 bare:AllBare s.gens
 base:Un X.fs X.ex X.LI H X.kj.heap s.heap
 loc:∃m,s.heap.Ns X.env.locals m/\∀(i:Nat) (x:Str) (v:V),X.N[i]?=some x->σ[i]?=some (some v)->LJ X.env.scope x->∃u,RelV v u/\Look X.env s.heap m x u
 cell:∀x c,X.env.cells.lookup x=some c->∃v,s.heap.IsCell c v
 free:H X.env.locals=none
 freeC:∀x c,X.env.cells.lookup x=some c->H c=none
 pin:∀p∈X.pn++pins,s.heap.get? p.1=some p.2/\H p.1=none/\p.1≠X.env.locals/\p.1∉X.fs/\∀v,p.2.data≠.cell v
 hok:eg X.prog X.w H s.heap
 len:σ.length=X.N.length
section
variable {X:Cx}{pins:List (Addr×Obj)}{σ:List (Option V)}{H H':Hp}{s:Shared}{h':Heap}
theorem Cx.Ok.Ui (ok:X.Ok){b:Addr}{o:Obj}(e:X.base.get? b=some o):b∉X.fs:=λhb=>by
 have:=(ok.ko.mem hb).1
 rw [e] at this; cases this
theorem Inv.bs (I:Inv X pins σ H s):∀b o,X.base.get? b=some o->s.heap.get? b=some o/\H b=none:=λb o e=>
 ⟨I.base.keep b o (I.ok.bs b o e).1 (I.ok.bs b o e).2 (I.ok.Ui e) (I.ok.noex b o e),I.base.free b o (I.ok.bs b o e).1 (I.ok.bs b o e).2 (I.ok.noex b o e)⟩
theorem Inv.bk (I:Inv X pins σ H s):∀b o,X.base.get? b=some o->s.heap.get? b=some o:=λb o e=>(I.bs b o e).1
theorem Inv.mod (I:Inv X pins σ H s):Mod X.K X.mg X.base:=I.ok.mod
theorem Inv.o6 (I:Inv X pins σ H s):X.K.In s.heap:=I.ok.mod.kin.keeps I.bk
theorem Inv.lt (I:Inv X pins σ H s):X.env.locals<s.heap.objs.size:=let ⟨_,hn,_⟩:=I.loc; hn.lt
theorem Inv.sz (I:Inv X pins σ H s):X.kj.heap.objs.size<=s.heap.objs.size:=Nat.le_trans I.ok.above (Nat.le_of_lt I.lt)
theorem Inv.Uj (I:Inv X pins σ H s){a:Addr}(h:s.heap.objs.size<=a):a∉X.fs:=λhb=>by
 obtain ⟨_,o,ho,_⟩:=I.ok.ko.mem hb
 exact absurd (Nat.lt_of_lt_of_le (Heap.lt_size ho) (Nat.le_trans I.sz h)) (Nat.lt_irrefl _)
theorem Inv.yy (I:Inv X pins σ H s):∀x c,X.env.cells.lookup x=some c->c≠X.env.locals:=λx c e z=>by
 obtain ⟨v,o,ho,hd⟩:=I.cell x c e
 obtain ⟨m,⟨o',es,ep,jf,hd',_⟩,_⟩:=I.loc
 rw [z,jf] at ho; cases ho; rw [hd'] at hd; cases hd
theorem Inv.ko (I:Inv X pins σ H s):s.heap.FunFrames X.base X.outer:=by
 have all:∀(l:List Env),(∀b∈oZ l,b∈X.fs)->X.kj.heap.FunFrames X.base l->s.heap.FunFrames X.base l:=by
  intro l
  induction l with
  | nil=>intro _ _; trivial
  | cons env r ih=>
   intro hs hl
   obtain ⟨hk,⟨L,o,hf,hn,ho,hd⟩,hr⟩:=hl
   have hL:L∈X.fs:=hs L (by unfold oZ; rw [List.filterMap_cons,hf]; exact List.mem_cons_self)
   obtain ⟨sl,e⟩:=I.base.slot L o ho (I.ok.frf L hL) hL λz=>I.ok.exfs L z hL
   exact ⟨hk,⟨L,_,hf,hn,e,hd⟩,ih (λb hb=>hs b (by unfold oZ; rw [List.filterMap_cons,hf]; exact List.mem_cons_of_mem _ hb)) hr⟩
 exact all X.outer (λ_ hb=>hb) I.ok.ko
theorem Inv.stack (I:Inv X pins σ H s):s.heap.FunFrames X.base X.stack:=by
 rcases I.ok.stk with e | ⟨e,hf⟩
 . rw [e]; exact I.ko
 . rw [e]
   obtain ⟨m,hn,_⟩:=I.loc
   refine .cons (by rw [I.ok.kind]; decide) hf hn ?_ I.ko
   exact Heap.get?_none_of_le (Nat.le_trans I.ok.bsz I.ok.above)
theorem Inv.ud (I:Inv X pins σ H s):∀b∈oZ X.stack,b∈X.env.locals::X.fs:=λb hb=>by
 rcases I.ok.stk with e | ⟨e,hf⟩
 . rw [e] at hb; exact List.mem_cons_of_mem _ hb
 . rw [e] at hb
   unfold oZ at hb
   rw [List.filterMap_cons,hf] at hb
   exact hb
theorem Inv.Bd (I:Inv X pins σ H s):∀b∈oZ X.stack,H b=none:=λb hb=>by
 rcases List.mem_cons.mp (I.ud b hb) with e | hb
 . rw [e]; exact I.free
 . obtain ⟨_,o,ho,_⟩:=I.ok.ko.mem hb
   exact I.base.free b o ho (I.ok.frf b hb) λz=>I.ok.exfs b z hb
theorem Inv.step {g':Array GenState}{t':Nat}{d':Drawn}{ch:List Addr}(I:Inv X pins σ H s)
 (rM:∀b∈ch,(b∈X.ex\/X.kj.heap.objs.size<=b)/\b≠X.env.locals/\(∀x c,X.env.cells.lookup x=some c->c≠b)/\∀p∈X.pn++pins,p.1≠b)
 (keep:∀b o,b≠X.env.locals->b∉X.fs->b∉ch->s.heap.get? b=some o->H b=none->h'.get? b=some o)
 (slot:∀b o,b≠X.env.locals->b∈X.fs->b∉ch->s.heap.get? b=some o->H b=none->∃sl,h'.get? b=some { o with slots:=sl }) (free:∀b o,b∉ch->s.heap.get? b=some o->H b=none->H' b=none)
 (there:∀b o,b∉ch->s.heap.get? b=some o->∃o',h'.get? b=some o')
 (tups:∀b xs,H b=some (.tup xs)->H' b=some (.tup xs)) (frzs:∀b o u,H b=some (.fO o u)->H' b=some (.fO o u)) (tbls:∀b ps,H b=some (.yx ps)->∃more,H' b=some (.yx (ps++more)))
 (ns:∀m,s.heap.Ns X.env.locals m->h'.Ns X.env.locals m) (hok:eg X.prog X.w H' h') (hg:AllBare g') :
 Inv X pins σ H' { s with heap:=h',gens:=g',drawn:=d',toks:=t' }:=by
 have Rq:∀b o,X.kj.heap.get? b=some o->b≠X.env.locals:=λb o e=>Nat.ne_of_lt (Nat.lt_of_lt_of_le (Heap.lt_size e) I.ok.above)
 have IA:∀b o,X.kj.heap.get? b=some o->b∉X.ex->b∉ch:=λb o e hx hb=>by
  rcases (rM b hb).1 with z | z
  . exact hx z
  . exact absurd (Nat.lt_of_lt_of_le (Heap.lt_size e) z) (Nat.lt_irrefl _)
 have cellK:∀x c,X.env.cells.lookup x=some c->∀v,s.heap.IsCell c v->h'.IsCell c v:=λx c e v ⟨o,ho,hd⟩=>by
  have DX:c∉ch:=λz=>(rM c z).2.2.1 x c e rfl
  by_cases hc:c∈X.fs
  . obtain ⟨sl,q⟩:=slot c o (I.yy x c e) hc DX ho (I.freeC x c e)
    exact ⟨_,q,hd⟩
  . exact ⟨o,keep c o (I.yy x c e) hc DX ho (I.freeC x c e),hd⟩
 refine ⟨I.ok,I.os,hg,⟨λb o e n hb hx=>?_,λb o e n hb hx=>?_,λb o e n hx=>?_,λb o e hx=>?_,λb xs e=>tups b xs (I.base.tups b xs e),λb o xs e=>frzs b o xs (I.base.frzs b o xs e),λb ps e=>?_⟩,?_,λx c e=>?_,?_,λx c e=>?_,λp hp=>?_,hok,I.len⟩
 . exact keep b o (Rq b o e) hb (IA b o e hx) (I.base.keep b o e n hb hx) (I.base.free b o e n hx)
 . obtain ⟨sl,e1⟩:=I.base.slot b o e n hb hx
   obtain ⟨sl',e2⟩:=slot b _ (Rq b o e) hb (IA b o e hx) e1 (I.base.free b o e n hx)
   exact ⟨sl',e2⟩
 . obtain ⟨o',e1⟩:=I.base.there b o e hx
   exact free b o' (IA b o e hx) e1 (I.base.free b o e n hx)
 . obtain ⟨o',e1⟩:=I.base.there b o e hx
   exact there b o' (IA b o e hx) e1
 . obtain ⟨m1,e1⟩:=I.base.tbls b ps e
   obtain ⟨m2,e2⟩:=tbls b _ e1
   exact ⟨m1++m2,by rw [e2,Array.append_assoc]⟩
 . obtain ⟨m,hn,hl⟩:=I.loc
   refine ⟨m,ns m hn,λi x v e1 e2 e3=>?_⟩
   obtain ⟨u,r,l⟩:=hl i x v e1 e2 e3
   refine ⟨u,r,?_⟩
   rcases l with l | ⟨k,c,e,z⟩
   . exact .inl l
   . exact .inr ⟨k,c,e,cellK x c e _ z⟩
 . obtain ⟨v,z⟩:=I.cell x c e
   exact ⟨v,cellK x c e v z⟩
 . obtain ⟨m,⟨o,_,_,ho,_⟩,_⟩:=I.loc
   exact free _ o (λz=>(rM _ z).2.1 rfl) ho I.free
 . obtain ⟨v,o,ho,hd⟩:=I.cell x c e
   exact free c o (λz=>(rM c z).2.2.1 x c e rfl) ho (I.freeC x c e)
 . obtain ⟨e,n,ne,nf,d⟩:=I.pin p hp
   have DX:p.1∉ch:=λz=>(rM p.1 z).2.2.2 p hp rfl
   exact ⟨keep p.1 p.2 ne nf DX e n,free p.1 p.2 DX e n,ne,nf,d⟩
theorem Inv.un {t':Nat}(I:Inv X pins σ H s) (u:Un X.fs [] H H' s.heap h') (hok:eg X.prog X.w H' h'):Inv X pins σ H' { s with heap:=h',toks:=t' }:=by
 obtain ⟨m,⟨o,es,ep,ho,r⟩,_⟩:=id I.loc
 obtain ⟨sl,hL⟩:=u.any ho I.free (by simp)
 exact I.step (g':=s.gens) (d':=s.drawn) (ch:=[]) (λ_ z=>nomatch z) (λb o _ hb _ e n=>u.keep b o e n hb (by simp)) (λb o _ hb _ e n=>u.slot b o e n hb (by simp)) (λb o _ e n=>u.free b o e n (by simp)) (λb o _ e=>u.there b o e (by simp)) u.tups u.frzs u.tbls (λm' hm=>by
  obtain ⟨o',Be,Bf,jf,r'⟩:=hm
  rw [ho] at jf; cases jf
  exact ⟨_,Be,Bf,hL,r'⟩) hok I.bare
theorem Inv.call {g':Array GenState}{t':Nat}{d':Drawn}{ch:List Addr}(I:Inv X pins σ H s) (u:Un (oZ X.stack) ch H H' s.heap h') (hok:eg X.prog X.w H' h') (hg:AllBare g')
 (rM:∀b∈ch,(b∈X.ex\/X.kj.heap.objs.size<=b)/\b≠X.env.locals/\(∀x c,X.env.cells.lookup x=some c->c≠b)/\∀p∈X.pn++pins,p.1≠b) :
 Inv X pins σ H' { s with heap:=h',gens:=g',drawn:=d',toks:=t' }:=by
 obtain ⟨m,⟨o,es,ep,ho,r⟩,_⟩:=id I.loc
 obtain ⟨sl,hL⟩:=u.any ho I.free λz=>(rM _ z).2.1 rfl
 exact I.step (ch:=ch) rM (λb o hL hb hc e n=>u.keep b o e n (λz=>(List.mem_cons.mp (I.ud b z)).elim hL hb) hc) (λb o _ _ hc e n=>u.any e n hc) (λb o hc e n=>u.free b o e n hc) (λb o hc e=>u.there b o e hc) u.tups u.frzs u.tbls (λm' hm=>by
  obtain ⟨o',Be,Bf,jf,r'⟩:=hm
  rw [ho] at jf; cases jf
  exact ⟨_,Be,Bf,hL,r'⟩) hok hg
theorem Inv.turned {t':Nat}{it:Addr}(I:Inv X pins σ H s) (k:∀b o,b≠it->s.heap.get? b=some o->h'.get? b=some o) (hn:H it=none) (hL:it≠X.env.locals)
 (h1:it∈X.ex\/X.kj.heap.objs.size<=it) (h2:∀x c,X.env.cells.lookup x=some c->c≠it) (h3:∀p∈X.pn++pins,p.1≠it):Inv X pins σ H { s with heap:=h',toks:=t' }:=by
 have Rr:∀b u,H b=some u->b≠it:=λb u e z=>by rw [z,hn] at e; cases e
 refine I.step (g':=s.gens) (d':=s.drawn) (ch:=[it]) (λb hb=>?_) (λb o _ _ hc e _=>k b o (λz=>hc (by simp [z])) e) (λb o _ _ hc e _=>⟨o.slots,k b o (λz=>hc (by simp [z])) e⟩) (λ_ _ _ _ n=>n)
  (λb o hc e=>⟨o,k b o (λz=>hc (by simp [z])) e⟩) (λ_ _ e=>e) (λ_ _ _ e=>e) (λb ps e=>⟨#[],by rw [e]; simp⟩) (λm hm=>?_) (λb u e=>?_) I.bare
 . have e:b=it:=by simpa using hb
   subst e
   exact ⟨h1,hL,h2,h3⟩
 . obtain ⟨o,es,ep,ho,r⟩:=hm
   exact ⟨o,es,ep,k _ o (Ne.symm hL) ho,r⟩
 . refine (I.hok b u e).pI (λc v hc q=>k c v ?_ q) (λ_ q=>q) λ_ _ q=>q
   rcases hc with z | z
   . rw [z]; exact Rr b u e
   . exact Rr c _ z
theorem Inv.tok (I:Inv X pins σ H s) (t:Nat):Inv X pins σ H { s with toks:=t }:=I.un (h':=s.heap) (t':=t) Un.refl I.hok
theorem Inv.kept {t':Nat}(I:Inv X pins σ H s) (k:∀b u,s.heap.get? b=some u->h'.get? b=some u):Inv X pins σ H { s with heap:=h',toks:=t' }:=I.un (Un.kept k) (I.hok.kept k)
theorem Inv.laid {a:Addr}{o:HO}{t':Nat}(I:Inv X pins σ H s) (k:∀b u,s.heap.get? b=some u->h'.get? b=some u) (hp:s.heap.objs.size<=a) (new:cv X.prog X.w (upd H a o) h' a o) :
 Inv X pins σ (upd H a o) { s with heap:=h',toks:=t' }:=I.un (Un.laid k hp (I.hok.fresh hp)) (I.hok.laid k hp new)
theorem Inv.write {x e:Addr}{o:HO}{t':Nat}(I:Inv X pins σ H s) (mu:DV (H x)) (he:e=x\/H e=some (.own x)) (k:∀b u,b≠e->s.heap.get? b=some u->h'.get? b=some u) (Bc:∃u,h'.get? e=some u)
 (new:cv X.prog X.w (upd H x o) h' x o):Inv X pins σ (upd H x o) { s with heap:=h',toks:=t' }:=I.un (Un.write mu he k Bc) (I.hok.write mu he k Bc new)
theorem Inv.Bg {IB:List (Addr×Obj)}(I:Inv X pins σ H s) (h:∀p∈IB,s.heap.get? p.1=some p.2/\H p.1=none/\p.1≠X.env.locals/\p.1∉X.fs/\∀v,p.2.data≠.cell v):Inv X IB σ H s:=
 ⟨I.ok,I.os,I.bare,I.base,I.loc,I.cell,I.free,I.freeC,λp hp=>(List.mem_append.mp hp).elim (λz=>I.pin p (List.mem_append_left _ z)) (h p),I.hok,I.len⟩
theorem yz {N:List Str}(hN:N.Nodup){i j:Nat}{x:Str}(a:N[i]?=some x) (b:N[j]?=some x):i=j:=by
 obtain ⟨h1,e1⟩:=List.getElem?_eq_some_iff.mp a
 obtain ⟨h2,e2⟩:=List.getElem?_eq_some_iff.mp b
 exact (List.getElem_inj hN).mp (e1.trans e2.symm)
theorem wu {M:Model}{A:Around}{E:Value->Shared->Prop}{i:Nat}{x:Str}{v:V}{u:Value}{Q:Unit->Shared->Prop}(I:Inv X pins σ H s) (hN:X.N.Nodup) (hi:X.N[i]?=some x) (hx:Loc X.env.scope x) (r:RelV v u)
 (h:∀s',Inv X pins (σ.set i (some v)) H s'->(∃a,Heap.SameBut a s.heap s'.heap/\(a=X.env.locals\/X.env.cells.lookup x=some a))->Q () s') (hf:X.fn x=true\/X.env.scope.names.lookup x=some .local:=by first | exact .inl rfl | exact .inr rfl | assumption):wpAny M A (storeName X.env x u) Q E s:=by
 obtain ⟨m,hn,hl⟩:=id I.loc
 have Uk:(X.env.scope.kind == .class || (X.env.scope.kind == .module && X.env.locals != X.env.globals))=false:=by rw [I.ok.kind]; rfl
 have hiσ:i < σ.length:=by rw [I.len]; exact (List.getElem?_eq_some_iff.mp hi).1
 have yy:=I.yy
 have tracked:∀{a:Addr}{h':Heap},(∃o,s.heap.get? a=some o/\H a=none)->Heap.SameBut a s.heap h'->eg X.prog X.w H h':=λ{a h'} ha hs b ob e=>by
  obtain ⟨_,_,ue⟩:=ha
  refine (I.hok b ob e).pI (λc w' hc q=>(hs.2 c ?_).trans q) (λ_ q=>q) λ_ _ q=>q
  rintro rfl
  rcases hc with rfl | hc
  . rw [ue] at e; cases e
  . rw [ue] at hc; cases hc
 rcases hx with hk | hk
 . refine wpAny_storeName_local hk hn (λh' uf hs=>?_) Uk
   obtain ⟨oL,_,_,yA,_⟩:=id hn
   refine h _ ⟨I.ok,I.os,I.bare,⟨λb o e n hb hx=>?_,λb o e n hb hx=>?_,I.base.free,λb o e hx=>?_,I.base.tups,I.base.frzs,I.base.tbls⟩,⟨_,uf,λj y v' e1 e2 e3=>?_⟩,λy c e=>?_,I.free,I.freeC,λp hp=>?_,tracked ⟨oL,yA,I.free⟩ hs,by simpa using I.len⟩ ⟨_,hs,.inl rfl⟩
   . exact (hs.2 b (Nat.ne_of_lt (Nat.lt_of_lt_of_le (Heap.lt_size e) I.ok.above))).trans (I.base.keep b o e n hb hx)
   . obtain ⟨sl,e1⟩:=I.base.slot b o e n hb hx
     exact ⟨sl,(hs.2 b (Nat.ne_of_lt (Nat.lt_of_lt_of_le (Heap.lt_size e) I.ok.above))).trans e1⟩
   . obtain ⟨o',e1⟩:=I.base.there b o e hx
     exact ⟨o',(hs.2 b (Nat.ne_of_lt (Nat.lt_of_lt_of_le (Heap.lt_size e) I.ok.above))).trans e1⟩
   . by_cases hj:j=i
     . subst hj
       rw [hi] at e1; cases e1
       rw [List.getElem?_set_self hiσ] at e2
       cases e2
       exact ⟨u,r,.inl ⟨hk,by simp⟩⟩
     . rw [List.getElem?_set_ne (Ne.symm hj)] at e2
       obtain ⟨u',r',q⟩:=hl j y v' e1 e2 e3
       refine ⟨u',r',?_⟩
       rcases q with ⟨k,e⟩ | ⟨k,c,e,z⟩
       . refine .inl ⟨k,?_⟩
         have:y≠x:=λe=>hj (yz hN e1 (e ▸ hi))
         simp [this,e]
       . exact .inr ⟨k,c,e,z.sameBut hs (yy y c e)⟩
   . obtain ⟨w',z⟩:=I.cell y c e
     exact ⟨w',z.sameBut hs (yy y c e)⟩
   . obtain ⟨e,n,ne,nf,d⟩:=I.pin p hp
     exact ⟨(hs.2 p.1 ne).trans e,n,ne,nf,d⟩
 . have LK:X.fn x=true:=by
    rcases hf with z | z
    . exact z
    . rw [z] at hk; cases hk
   obtain ⟨c,hc⟩:=I.ok.has x (.inl hk)
   obtain ⟨w',z⟩:=I.cell x c hc
   refine wpAny_storeName_cell I.ok.kind hk hc z (λh' cH hs=>?_)
   obtain ⟨oc,Rt,Ul⟩:=id z
   refine h { s with heap:=h' } ⟨I.ok,I.os,I.bare,⟨λb o e n hb hx=>?_,λb o e n hb hx=>?_,I.base.free,λb o e hx=>?_,I.base.tups,I.base.frzs,I.base.tbls⟩,⟨m,hn.sameBut hs (Ne.symm (yy x c hc)),λj y v' e1 e2 e3=>?_⟩,λy c' e=>?_,I.free,I.freeC,λp hp=>?_,tracked ⟨oc,Rt,I.freeC x c hc⟩ hs,by simpa using I.len⟩ ⟨c,hs,.inr hc⟩
   . exact (hs.2 b (Nat.ne_of_lt (Nat.lt_of_lt_of_le (Heap.lt_size e) (I.ok.cab x c LK hc)))).trans (I.base.keep b o e n hb hx)
   . obtain ⟨sl,e1⟩:=I.base.slot b o e n hb hx
     exact ⟨sl,(hs.2 b (Nat.ne_of_lt (Nat.lt_of_lt_of_le (Heap.lt_size e) (I.ok.cab x c LK hc)))).trans e1⟩
   . obtain ⟨o',e1⟩:=I.base.there b o e hx
     exact ⟨o',(hs.2 b (Nat.ne_of_lt (Nat.lt_of_lt_of_le (Heap.lt_size e) (I.ok.cab x c LK hc)))).trans e1⟩
   . by_cases hj:j=i
     . subst hj
       rw [hi] at e1; cases e1
       rw [List.getElem?_set_self hiσ] at e2
       cases e2
       exact ⟨u,r,.inr ⟨.inl hk,c,hc,cH⟩⟩
     . rw [List.getElem?_set_ne (Ne.symm hj)] at e2
       obtain ⟨u',r',q⟩:=hl j y v' e1 e2 e3
       refine ⟨u',r',?_⟩
       rcases q with q | ⟨k,c',e,z'⟩
       . exact .inl q
       . refine .inr ⟨k,c',e,z'.sameBut hs ?_⟩
         rintro rfl
         exact hj (yz hN e1 (I.ok.inj _ _ _ e hc ▸ hi))
   . by_cases Ru:c'=c
     . subst Ru; exact ⟨_,cH⟩
     . obtain ⟨w2,z2⟩:=I.cell y c' e
       exact ⟨w2,z2.sameBut hs Ru⟩
   . obtain ⟨e,n,ne,nf,d⟩:=I.pin p hp
     refine ⟨(hs.2 p.1 ?_).trans e,n,ne,nf,d⟩
     intro q
     rw [q,Rt] at e
     have q':oc=p.2:=Option.some.inj e
     exact d w' (by rw [← q']; exact Ul)
theorem yB {M:Model}{A:Around}{E:Value->Shared->Prop}{i:Nat}{x:Str}{v:V}{u:Value}{Q:Unit->Shared->Prop}(I:Inv X pins σ H s) (hN:X.N.Nodup) (hi:X.N[i]?=some x) (hx:Loc X.env.scope x) (r:RelV v u)
 (h:∀s',Inv X pins (σ.set i (some v)) H s'->Q () s') (hf:X.fn x=true\/X.env.scope.names.lookup x=some .local:=by first | exact .inl rfl | exact .inr rfl | assumption):wpAny M A (storeName X.env x u) Q E s:=
 wu I hN hi hx r (λs' I' _=>h s' I') hf
theorem Inv.P7 {s':Shared}{ch:List Addr}(I:Inv X pins σ H s) (ho:s'.os=s.os) (u:Un (oZ X.stack) ch H H' s.heap s'.heap) (hok:eg X.prog X.w H' s'.heap) (hg:AllBare s'.gens)
 (rM:∀b∈ch,(b∈X.ex\/X.kj.heap.objs.size<=b)/\b≠X.env.locals/\(∀x c,X.env.cells.lookup x=some c->c≠b)/\∀p∈X.pn++pins,p.1≠b):Inv X pins σ H' s':=by
 obtain ⟨h',g',d',t',o'⟩:=s'
 have e:o'=s.os:=ho
 subst e
 exact I.call (g':=g') (t':=t') (d':=d') u hok hg rM
end
abbrev XK:=Value->Option Addr->Hp->Prop
abbrev St:=List (Option V)
abbrev VK:=V->Hp->Prop
abbrev TE:=St->Hp->VK->Prop
abbrev TT:=St->Hp->(Bool->Hp->Prop)->Prop
abbrev TA:=St->Hp->(List V->Hp->Prop)->Prop
structure Ends where
 nx:St->Hp->Prop
 rt:VK
 bk:St->Hp->Prop:=λ_ _=>False
 ct:St->Hp->Prop:=λ_ _=>False
abbrev TS:=Ends->St->Hp->Prop
def EP (X:Cx) (pins:List (Addr×Obj)) (σ:St) (Q:VK) (u:Value) (s':Shared):Prop:=∃v H',Inv X pins σ H' s'/\RelV v u/\Q v H'
def TP (X:Cx) (pins:List (Addr×Obj)) (σ:St) (Q:Bool->Hp->Prop) (b:Bool) (s':Shared):Prop:=∃H',Inv X pins σ H' s'/\Q b H'
def AP (X:Cx) (pins:List (Addr×Obj)) (σ:St) (Q:List V->Hp->Prop) (us:List Value) (s':Shared):Prop:=∃vs H',Inv X pins σ H' s'/\Vals vs us/\Q vs H'
def SP (X:Cx) (pins:List (Addr×Obj)) (D:Ends) (f:Flow) (s':Shared):Prop:=
 match f with
 | .next=>∃bu H',Inv X pins bu H' s'/\D.nx bu H'
 | .brk=>∃bu H',Inv X pins bu H' s'/\D.bk bu H'
 | .cont=>∃bu H',Inv X pins bu H' s'/\D.ct bu H'
 | .ret u=>∃v bu H',Inv X pins bu H' s'/\RelV v u/\D.rt v H'
def PE (X:Cx) (e:Expr) (t:TE):Prop:=
 ∀(pins:List (Addr×Obj)) (s:Shared) (σ:St) (H:Hp) (Q:VK),Inv X pins σ H s->t σ H Q->wpAny (model X.prog X.w) X.A (eval e X.env) (EP X pins σ Q) X.xe s
def PT (X:Cx) (e:Expr) (t:TT):Prop:=
 ∀(pins:List (Addr×Obj)) (s:Shared) (σ:St) (H:Hp) (Q:Bool->Hp->Prop),Inv X pins σ H s->t σ H Q->wpAny (model X.prog X.w) X.A (isTrue e X.env (eval e X.env)) (TP X pins σ Q) X.xe s
def PW (X:Cx) (e:Expr) (t:TT):Prop:=
 ∀(whole:Sem Value) (pins:List (Addr×Obj)) (s:Shared) (σ:St) (H:Hp) (Q:Bool->Hp->Prop),Inv X pins σ H s->t σ H Q->wpAny (model X.prog X.w) X.A (isTrue e X.env whole) (TP X pins σ Q) X.xe s
theorem PW.pt {X:Cx}{e:Expr}{t:TT}(h:PW X e t):PT X e t:=h _
def PA (X:Cx) (es:List Expr) (t:TA):Prop:=
 ∀(pos:Pos) (pins:List (Addr×Obj)) (s:Shared) (σ:St) (H:Hp) (Q:List V->Hp->Prop),Inv X pins σ H s->t σ H Q->wpAny (model X.prog X.w) X.A (spliced (backTo pos (starEach es X.env))) (AP X pins σ Q) X.xe s
def PS (X:Cx) (st:Stmt) (t:TS):Prop:=
 ∀(pins:List (Addr×Obj)) (s:Shared) (σ:St) (H:Hp) (D:Ends),Inv X pins σ H s->t D σ H->wpAny (model X.prog X.w) X.A (exec st X.env) (SP X pins D) X.xe s
def gx (X:Cx) (st:List Stmt) (t:TS):Prop:=
 ∀(pins:List (Addr×Obj)) (s:Shared) (σ:St) (H:Hp) (D:Ends),Inv X pins σ H s->t D σ H->wpAny (model X.prog X.w) X.A (execs st X.env) (SP X pins D) X.xe s
theorem aP {α:Type}{t:Sem α}{Q Q':α->Shared->Prop}{M:Model}{A:Around}{E:Value->Shared->Prop}{s:Shared}(h:wpAny M A t Q E s) (hQ:∀a s,Q a s->Q' a s):wpAny M A t Q' E s:=wpAny_mono h hQ λ_ _ x=>x
end L2
namespace L2
open PySem PySem.Spec PyProof.Rows
section
variable {X:Cx}
theorem bin {a b:Expr}{ta tb:TE}(ha:PE X a ta) (hb:PE X b tb){pins:List (Addr×Obj)}{s:Shared}{σ:St}{H:Hp}{R:V->V->Hp->Prop}(I:Inv X pins σ H s) (h:ta σ H λx H1=>tb σ H1 λy H2=>R x y H2)
 {α:Type}{Q:α->Shared->Prop}{f:Value->Value->Sem α}
 (hf:∀v u s2 x y H2,Inv X pins σ H2 s2->RelV x v->RelV y u->R x y H2->wpAny (model X.prog X.w) X.A (f v u) Q X.xe s2) :
 wpAny (model X.prog X.w) X.A (eval a X.env) (λv di=>wpAny (model X.prog X.w) X.A (eval b X.env) (λu vz=>wpAny (model X.prog X.w) X.A (f v u) Q X.xe vz) X.xe di) X.xe s:=by
 refine aP (ha pins s σ H _ I h) λv s1 ⟨x,H1,I1,r1,q1⟩=>?_
 refine aP (hb pins s1 σ H1 _ I1 q1) λu s2 ⟨y,H2,I2,r2,q2⟩=>?_
 exact hf v u s2 x y H2 I2 r1 r2 q2
def vA (i:Nat):TE:=λσ H Q=>∃v,σ[i]?=some (some v)/\Q v H
def tC (v:V):TE:=λ_ H Q=>Q v H
theorem LL {i:Nat}{x:Str}{pos:Pos}(hN:X.N[i]?=some x) (hv:LJ X.env.scope x) (hd:(x == ("__debug__" : Str))=false:=by decide) (ng:(x == ("__classdict__" : Str))=false:=by decide):PE X (.Name x pos) (vA i):=by
 intro pins s σ H Q I h
 obtain ⟨v,e,h⟩:=h
 obtain ⟨m,hn,hl⟩:=I.loc
 obtain ⟨u,r,l⟩:=hl i x v hN e hv
 have fin:EP X pins σ Q u s:=⟨v,H,I,r,h⟩
 rcases l with ⟨hk,hm⟩ | ⟨hk,c,hc,IC⟩
 . exact wpAny_Name (wpAny_loadName_local I.ok.kind hk hn hm fin) hd
 . rcases hk with hk | hk
   . exact wpAny_Name (wpAny_loadName_cell I.ok.kind hk hc IC fin) hd
   . exact wpAny_Name (wpAny_loadName_free I.ok.kind hk hc IC fin ng) hd
theorem ar {i j pos} : PE X (.Constant (.int i) j pos) (tC (.int i)):=λ_ _ _ H _ I h=>wpAny_Constant_int ⟨.int i,H,I.tok _,⟨_,rfl⟩,h⟩
theorem fk {b j pos} : PE X (.Constant (.bool b) j pos) (tC (.bl b)):=λ_ _ _ H _ I h=>Constant_bool ⟨.bl b,H,I,rfl,h⟩
theorem DY {j pos} : PE X (.Constant .none j pos) (tC .aZ):=λ_ _ _ H _ I h=>Constant_none ⟨.aZ,H,I,rfl,h⟩
theorem ay {x j pos} : PE X (.Constant (.str x) j pos) (tC (.str x)):=λ_ _ _ H _ I h=>Calls.Constant_str ⟨.str x,H,I.tok _,⟨_,rfl⟩,h⟩
def Gl (X:Cx) (x:Str):Prop:=X.env.kindOf x=some .globalImplicit
theorem vB {E:Value->Shared->Prop}{pins:List (Addr×Obj)}{s:Shared}{σ:St}{H:Hp}{x:Str}{u:Value}{pos:Pos}{Q:Value->Shared->Prop}(I:Inv X pins σ H s) (hg:Gl X x) (hm:X.mg x=some u) (h:Q u s)
 (hd:(x == ("__debug__" : Str))=false:=by decide):wpAny (model X.prog X.w) X.A (eval (.Name x pos) X.env) Q E s:=
 Calls.Name_function_global I.ok.kind hg (Calls.loadGlobal_global (by rw [I.ok.glob]; exact I.mod.glob.keeps I.bk) hm h) hd
theorem iC {E:Value->Shared->Prop}{pins:List (Addr×Obj)}{s:Shared}{σ:St}{H:Hp}{x:Str}{u:Value}{pos:Pos}{Q:Value->Shared->Prop}(I:Inv X pins σ H s) (hg:Gl X x) (hm:X.mg x=none) (hv:bootBuiltins x=some u) (h:Q u s)
 (hn:x ≠ "__name__":=by decide) (hd:(x == ("__debug__" : Str))=false:=by decide):wpAny (model X.prog X.w) X.A (eval (.Name x pos) X.env) Q E s:=by
 obtain ⟨mb,h1,h2⟩:=I.mod.blt
 exact Calls.Name_function_global I.ok.kind hg (Calls.loadGlobal_builtin (by rw [I.ok.glob]; exact I.mod.glob.keeps I.bk) hm (by rw [I.ok.blt]; exact h1.keeps I.bk) ((h2 x hn).trans hv) h) hd
theorem fq {x:Str}{v:V}{u:Value}{pos:Pos}(hg:Gl X x) (hm:X.mg x=some u) (r:RelV v u) (hd:(x == ("__debug__" : Str))=false:=by decide):PE X (.Name x pos) (tC v):=
 λ_ _ _ H _ I h=>vB I hg hm ⟨v,H,I,r,h⟩ hd
variable {a b:Expr}{ta tb:TE}{pos:Pos}
def PC (X:Cx) (op:CmpOp) (a b:Expr) (t:TE):Prop:=
 ∀(pins:List (Addr×Obj)) (s:Shared) (σ:St) (H:Hp) (Q:VK),Inv X pins σ H s->t σ H Q->
  wpAny (model X.prog X.w) X.A (eval a X.env) (λv di=>wpAny (model X.prog X.w) X.A (eval b X.env) (λu vz=>wpAny (model X.prog X.w) X.A (compareOp op v u) (EP X pins σ Q) X.xe vz) X.xe di) X.xe s
theorem yC (b:Expr){op:CmpOp}(h:op≠.In) (h2:op≠.NotIn):behindInMarks op b=false:=by
 have e1:(op == CmpOp.In)=false:=by cases op <;> first | rfl | exact absurd rfl h
 have e2:(op == CmpOp.NotIn)=false:=by cases op <;> first | rfl | exact absurd rfl h2
 cases b <;> simp [behindInMarks,e1,e2]
def Um (ta:TE):TE:=λσ H Q=>ta σ H λx H1=>Q (.bl (decide (x=.aZ))) H1
def P8 (ta:TE):TE:=λσ H Q=>ta σ H λx H1=>Q (.bl (!decide (x=.aZ))) H1
theorem RelV.yD {x:V}{v:Value}(r:RelV x v):(v == Value.none)=decide (x=.aZ):=by
 cases x with
 | aZ=>cases r; rfl
 | bl _=>cases r; rfl
 | int _=>obtain ⟨t,rfl⟩:=r; rfl
 | str _=>obtain ⟨t,rfl⟩:=r; rfl
 | m9 _=>obtain ⟨t,rfl⟩:=r; rfl
 | DU _=>obtain ⟨t,rfl⟩:=r; rfl
 | ref _=>cases r; rfl
 | ty _=>cases r; rfl
theorem DZ {j pos'} (ha:PE X a ta):PC X .Is a (.Constant .none j pos') (Um ta):=by
 intro pins s σ H Q I h
 refine aP (ha pins s σ H _ I h) λv s1 ⟨x,H1,I1,r1,q1⟩=>?_
 exact Constant_none (is_none_gen ⟨.bl _,H1,I1,by rw [r1.yD]; rfl,q1⟩)
theorem Kh {j pos'} (ha:PE X a ta):PC X .IsNot a (.Constant .none j pos') (P8 ta):=by
 intro pins s σ H Q I h
 refine aP (ha pins s σ H _ I h) λv s1 ⟨x,H1,I1,r1,q1⟩=>?_
 exact Constant_none (isnot_none_gen ⟨.bl _,H1,I1,by rw [r1.yD]; rfl,q1⟩)
def tB (t:TE):TT:=λσ H Q=>t σ H λx H1=>∃c,x=.bl c/\Q c H1
theorem nh {op:CmpOp}{t:TE}(h:PC X op a b t) (h1:behindInMarks op b=false:=by first | exact yC _ (by decide) (by decide) | rfl):PE X (.Compare a [op] [b] pos) t:=λpins s σ H Q I hw=>wpAny_Compare1 (h pins s σ H Q I hw) h1
theorem pJ {op:CmpOp}{t:TE}(h:PC X op a b t) (h1:behindInMarks op b=false:=by first | exact yC _ (by decide) (by decide) | rfl):PT X (.Compare a [op] [b] pos) (tB t):=by
 intro pins s σ H Q I hw
 refine wpAny_isTrue_Compare1 (aP (h pins s σ H _ I hw) λv s1 h1=>aP h1 λu s2 h2=>aP h2 λc s3 ⟨x,H1,I1,r1,q1⟩=>?_) h1
 obtain ⟨d,rfl,q⟩:=q1
 cases r1
 exact wpAny_truthy_bool ⟨H1,I1,q⟩
theorem jU {e:Expr}{t:TE}(h:PE X e t) (he:∀whole,isTrue e X.env whole=(do let v ← whole; standAt e.pos; holding [v] (truthy v)):=by intro _; rfl):PT X e (tB t):=by
 intro pins s σ H Q I hw
 refine isTrue_plain (aP (h pins s σ H _ I hw) λv s1 ⟨x,H1,I1,r1,q1⟩=>?_) (he _)
 obtain ⟨d,rfl,q⟩:=q1
 cases r1
 exact wpAny_truthy_bool ⟨H1,I1,q⟩
variable {tA ID:TT}{rest:List Expr}
def Uo (t u:TT):TT:=λσ H Q=>t σ H λc H1=>if c=true then u σ H1 Q else Q false H1
def tOr (t u:TT):TT:=λσ H Q=>t σ H λc H1=>if c=true then Q true H1 else u σ H1 Q
def Up (t:TT):TT:=λσ H Q=>t σ H λc H1=>Q (!c) H1
theorem ni (ha:PT X a tA):PW X (.BoolOp .And [a] pos) tA:=by
 intro wh pins s σ H Q I h
 refine isTrue_and (aP (ha pins s σ H Q I h) λc s1 e=>?_)
 cases c with
 | true=>exact isTrue_and_nil e
 | false=>exact e
theorem pK (ha:PT X a tA):PW X (.BoolOp .Or [a] pos) tA:=by
 intro wh pins s σ H Q I h
 refine isTrue_or (aP (ha pins s σ H Q I h) λc s1 e=>?_)
 cases c with
 | false=>exact isTrue_or_nil e
 | true=>exact e
theorem pL (ha:PT X a tA) (hb:PW X (.BoolOp .And (b::rest) pos) ID):PW X (.BoolOp .And (a::b::rest) pos) (Uo tA ID):=by
 intro wh pins s σ H Q I h
 refine isTrue_and (aP (ha pins s σ H _ I h) λc s1 ⟨H1,I1,q1⟩=>?_)
 cases c with
 | true=>exact hb wh pins s1 σ H1 Q I1 q1
 | false=>exact ⟨H1,I1,q1⟩
theorem oh (ha:PT X a tA) (hb:PW X (.BoolOp .Or (b::rest) pos) ID):PW X (.BoolOp .Or (a::b::rest) pos) (tOr tA ID):=by
 intro wh pins s σ H Q I h
 refine isTrue_or (aP (ha pins s σ H _ I h) λc s1 ⟨H1,I1,q1⟩=>?_)
 cases c with
 | true=>exact ⟨H1,I1,q1⟩
 | false=>exact hb wh pins s1 σ H1 Q I1 q1
theorem yE (ha:PT X a tA):PT X (.UnaryOp .Not a pos) (Up tA):=by
 intro pins s σ H Q I h
 exact isTrue_not (ha pins s σ H (λc H1=>Q (!c) H1) I h)
def Uq (ta tb:TE):TE:=λσ H Q=>ta σ H λx H1=>∃c,x=.bl c/\if c=true then Q (.bl true) H1 else tb σ H1 Q
def P9 (ta:TE):TE:=λσ H Q=>ta σ H λx H1=>∃c,x=.bl c/\Q (.bl (!c)) H1
theorem yF {op} {t:TE}(h:PE X a t):PE X (.BoolOp op [a] pos) t:=λpins s σ H Q I hw=>BoolOp_one (h pins s σ H Q I hw)
theorem Cu (ha:PE X a ta) (hb:PE X (.BoolOp .Or (b::rest) pos) tb):PE X (.BoolOp .Or (a::b::rest) pos) (Uq ta tb):=by
 intro pins s σ H Q I h
 refine BoolOp_or (aP (ha pins s σ H _ I h) λv s1 ⟨x,H1,I1,r1,q1⟩=>?_)
 obtain ⟨c,rfl,q1⟩:=q1
 cases r1
 refine wpAny_truthy_bool ?_
 cases c with
 | false=>exact hb pins s1 σ H1 Q I1 q1
 | true=>exact ⟨.bl true,H1,I1,rfl,q1⟩
theorem LM (ha:PE X a ta):PE X (.UnaryOp .Not a pos) (P9 ta):=by
 intro pins s σ H Q I h
 refine UnaryOp_ (aP (ha pins s σ H _ I h) λv s1 ⟨x,H1,I1,r1,q1⟩=>?_)
 obtain ⟨c,rfl,q1⟩:=q1
 cases r1
 exact not_of (wpAny_truthy_bool ⟨.bl (!c),H1,I1,rfl,q1⟩)
def tIf (t:TT) (ta tb:TE):TE:=λσ H Q=>t σ H λc H1=>if c=true then ta σ H1 Q else tb σ H1 Q
theorem Gu {c:Expr}(hc:PT X c tA) (ha:PE X a ta) (hb:PE X b tb):PE X (.IfExp c a b pos) (tIf tA ta tb):=by
 intro pins s σ H Q I h
 refine wpAny_IfExp (aP (hc pins s σ H _ I h) λd s1 ⟨H1,I1,q1⟩=>?_)
 cases d with
 | true=>exact ha pins s1 σ H1 Q I1 q1
 | false=>exact hb pins s1 σ H1 Q I1 q1
end
end L2
namespace L2
open PySem PySem.Spec PyProof.Rows
def ak (K:W.Frag) (H:Hp) (a:Addr) (xs:List V):Prop:=
 Rd H a (.lst xs)\/
  ∃(o:Obj) (its:Array Value) (n:Nat),K.lookup a=some o/\o.cls=.type "list" /\ o.dict=none/\o.data=.seq its n/\its.size<=sizeLine/\Vals xs its.toList
def aV (K:W.Frag) (H:Hp) (a:Addr) (xs:List V):Prop:=
 Rd H a (.tup xs)\/
  ∃(o:Obj) (its:Array Value) (n:Nat),K.lookup a=some o/\o.cls=.type "tuple" /\ o.data=.seq its n/\its.size<=sizeLine/\Vals xs its.toList
def Ur:Value->Option V
 | .none=>some .aZ
 | .bool b=>some (.bl b)
 | .int i _=>some (.int i)
 | .str x _=>some (.str x)
 | .bytes b _=>some (.m9 b)
 | .float b _=>some (.DU b)
 | .ref a=>some (.ref a)
 | .type n=>some (.ty n)
 | _=>none
theorem RelV.abs {x:V}{u:Value}(r:RelV x u):Ur u=some x:=by
 cases x with
 | aZ=>cases r; rfl
 | bl _=>cases r; rfl
 | int _=>obtain ⟨t,rfl⟩:=r; rfl
 | str _=>obtain ⟨t,rfl⟩:=r; rfl
 | m9 _=>obtain ⟨t,rfl⟩:=r; rfl
 | DU _=>obtain ⟨t,rfl⟩:=r; rfl
 | ref _=>cases r; rfl
 | ty _=>cases r; rfl
theorem RelV.inj {x y:V}{u:Value}(r:RelV x u) (q:RelV y u):x=y:=Option.some.inj (r.abs.symm.trans q.abs)
theorem Vals.inj:∀{xs ys:List V}{us:List Value},Vals xs us->Vals ys us->xs=ys
 | _,_,_,.nil,.nil=>rfl
 | _,_,_,.cons r t,.cons r' t'=>by rw [r.inj r',Vals.inj t t']
section
variable {X:Cx}{pins:List (Addr×Obj)}{σ:St}{H:Hp}{s:Shared}{a:Addr}{xs ys:List V}
theorem ak.of {K:W.Frag}(h:H a=some (.lst xs)):ak K H a xs:=.inl (.inl h)
theorem aV.of {K:W.Frag}(h:H a=some (.tup xs)):aV K H a xs:=.inl (.inl h)
theorem Inv.list (I:Inv X pins σ H s) (h:ak X.K H a xs):∃its:List Value,Vals xs its/\PlainL s.heap a its.toArray/\xs.length<=sizeLine:=by
 rcases h with h | ⟨o,its,n,hk,hc,hd,hs,hz,r⟩
 . obtain ⟨z,its,n,r,e⟩:=h.ok I.hok
   exact ⟨its,r,⟨_,n,e,rfl,rfl,rfl⟩,z⟩
 . refine ⟨its.toList,r,⟨o,n,I.o6 a o hk,hc,hd,by simpa using hs⟩,?_⟩
   have e:=r.length
   simp only [Array.length_toList] at e
   omega
theorem Inv.tuple (I:Inv X pins σ H s) (h:aV X.K H a xs):∃its:List Value,Vals xs its/\IsTup s.heap a its.toArray/\xs.length<=sizeLine:=by
 rcases h with h | ⟨o,its,n,hk,hc,hs,hz,r⟩
 . obtain ⟨z,its,r,p⟩:=h.ok I.hok
   exact ⟨its,r,p,z⟩
 . refine ⟨its.toList,r,⟨o,I.o6 a o hk,hc,n,by simpa using hs⟩,?_⟩
   have e:=r.length
   simp only [Array.length_toList] at e
   omega
theorem Inv.sD (I:Inv X pins σ H s) (h:ak X.K H a xs) (h':ak X.K H a ys):xs=ys:=by
 obtain ⟨its,r,⟨o,n,e,_,_,d⟩,_⟩:=I.list h
 obtain ⟨its',r',⟨o',n',e',_,_,d'⟩,_⟩:=I.list h'
 rw [e] at e'; cases e'
 rw [d] at d'
 injection d' with d1 _
 have:its=its':=by simpa using congrArg Array.toList d1
 subst this
 exact r.inj r'
theorem Inv.pM (I:Inv X pins σ H s) (h:aV X.K H a xs) (h':aV X.K H a ys):xs=ys:=by
 obtain ⟨its,r,⟨o,e,_,n,d⟩,_⟩:=I.tuple h
 obtain ⟨its',r',⟨o',e',_,n',d'⟩,_⟩:=I.tuple h'
 rw [e] at e'; cases e'
 rw [d] at d'
 injection d' with d1 _
 have:its=its':=by simpa using congrArg Array.toList d1
 subst this
 exact r.inj r'
end
abbrev Cx.kq (X:Cx) (E:Value->Shared->Prop):Cx:={ X with xe:=E }
abbrev Cx.nj (X:Cx):Cx:=X.kq λ_ _=>False
theorem Cx.Ok.kq {X:Cx}(ok:X.Ok) (E:Value->Shared->Prop):(X.kq E).Ok:=
 ⟨ok.mod,ok.kind,ok.glob,ok.blt,ok.above,ok.inj,ok.has,ok.cab,ok.hd,ok.frames,ok.stk,ok.exf,ok.bs,ok.bsz,ok.noex,ok.exfs,ok.ko,ok.frf⟩
theorem Cx.Ok.jV {X:Cx}{E:Value->Shared->Prop}(ok:(X.kq E).Ok):X.Ok:=
 ⟨ok.mod,ok.kind,ok.glob,ok.blt,ok.above,ok.inj,ok.has,ok.cab,ok.hd,ok.frames,ok.stk,ok.exf,ok.bs,ok.bsz,ok.noex,ok.exfs,ok.ko,ok.frf⟩
section
variable {X:Cx}{pins:List (Addr×Obj)}{σ:St}{H:Hp}{s:Shared}{E:Value->Shared->Prop}
theorem Inv.kq (I:Inv X pins σ H s) (E:Value->Shared->Prop):Inv (X.kq E) pins σ H s:=⟨I.ok.kq E,I.os,I.bare,I.base,I.loc,I.cell,I.free,I.freeC,I.pin,I.hok,I.len⟩
theorem Inv.jV (I:Inv (X.kq E) pins σ H s):Inv X pins σ H s:=⟨I.ok.jV,I.os,I.bare,I.base,I.loc,I.cell,I.free,I.freeC,I.pin,I.hok,I.len⟩
theorem SP.jV {D:Ends}{f:Flow}{s':Shared}(h:SP (X.kq E) pins D f s'):SP X pins D f s':=by
 cases f with
 | next=>obtain ⟨bu,H',I,q⟩:=h; exact ⟨bu,H',I.jV,q⟩
 | brk=>obtain ⟨bu,H',I,q⟩:=h; exact ⟨bu,H',I.jV,q⟩
 | cont=>obtain ⟨bu,H',I,q⟩:=h; exact ⟨bu,H',I.jV,q⟩
 | ret u=>obtain ⟨v,bu,H',I,r,q⟩:=h; exact ⟨v,bu,H',I.jV,r,q⟩
theorem gx.nj {st:List Stmt}{t:TS}(h:gx X.nj st t):gx X st t:=λpins s σ H D I hw=>
 wpAny_mono (h pins s σ H D (I.kq _) hw) (λ_ _ q=>q.jV) λ_ _ z=>False.elim z
end
section
variable {X:Cx}{st:Stmt}{rest:List Stmt}{t u:TS}{e:Expr}{te:TE}{pos:Pos}
def Qa:TS:=λD σ H=>D.nx σ H
def Us (t u:TS):TS:=λD σ H=>t { D with nx:=u D } σ H
theorem aT:gx X [] Qa:=λ_ _ σ H _ I h=>wpAny_execs_nil ⟨σ,H,I,h⟩
theorem aj (h1:PS X st t) (h2:gx X rest u):gx X (st::rest) (Us t u):=by
 intro pins s σ H D I h
 refine wpAny_execs_cons (aP (h1 pins s σ H { D with nx:=u D } I h) λf s1 q=>?_)
 cases f with
 | next=>
  obtain ⟨bu,H',I',q⟩:=q
  exact h2 pins s1 bu H' D I' q
 | ret v=>exact q
 | brk=>exact q
 | cont=>exact q
theorem au (h1:PS X st t):gx X [st] t:=by
 intro pins s σ H D I h
 refine wpAny_execs_cons (aP (h1 pins s σ H D I h) λf s1 q=>?_)
 cases f with
 | next=>exact wpAny_execs_nil q
 | ret v=>exact q
 | brk=>exact q
 | cont=>exact q
theorem Inv.quiet {pins:List (Addr×Obj)}{σ:St}{H:Hp}{s:Shared}(I:Inv X pins σ H s):interactive X.env=false:=by simp [interactive,I.ok.kind]
def Qb (te:TE):TS:=λD σ H=>te σ H λ_ H1=>D.nx σ H1
theorem cZ (he:PE X e te) (hs:swapsWith e none pos.line X.env=pure false:=by rfl):PS X (.Expr e pos) (Qb te):=by
 intro pins s σ H D I h
 exact wpAny_Expr_any (aP (he pins s σ H _ I h) λv s1 ⟨x,H1,I1,r1,q1⟩=>⟨σ,H1,I1,q1⟩) I.quiet hs
def Ut (te:TE):TS:=λD σ H=>te σ H D.rt
theorem aB (he:PE X e te):PS X (.Return (some e) pos) (Ut te):=by
 intro pins s σ H D I h
 exact wpAny_Return_some (aP (he pins s σ H _ I h) λv s1 ⟨x,H1,I1,r1,q1⟩=>⟨x,σ,H1,I1,r1,q1⟩)
def Uu (c:TT) (t u:TS):TS:=λD σ H=>c σ H λb H1=>if b=true then t D σ H1 else u D σ H1
theorem bh {c:Expr}{a b:List Stmt}{tc:TT}(hc:PT X c tc) (ha:gx X a t) (hb:gx X b u):PS X (.If c a b pos) (Uu tc t u):=by
 intro pins s σ H D I h
 refine wpAny_If (aP (hc pins s σ H _ I h) λd s1 ⟨H1,I1,q1⟩=>?_)
 cases d with
 | true=>exact ha pins s1 σ H1 D I1 q1
 | false=>exact hb pins s1 σ H1 D I1 q1
def LN:TS:=λ_ _ _=>False
theorem Gv:PS X st LN:=λ_ _ _ _ _ _ h=>h.elim
end
abbrev TG:=V->St->Hp->(St->Hp->Prop)->Prop
abbrev ug:=List V->St->Hp->(St->Hp->Prop)->Prop
def PG (X:Cx) (target:Expr) (t:TG):Prop:=
 ∀(pins:List (Addr×Obj)) (s:Shared) (σ:St) (H:Hp) (v:V) (u:Value) (Q:St->Hp->Prop),Inv X pins σ H s->RelV v u->t v σ H Q->
  wpAny (model X.prog X.w) X.A (assign target X.env u) (λ_ s'=>∃bu H',Inv X pins bu H' s'/\Q bu H') X.xe s
def D0 (X:Cx) (ts:List Expr) (t:ug):Prop:=
 ∀(pins:List (Addr×Obj)) (s:Shared) (σ:St) (H:Hp) (vs:List V) (us:List Value) (Q:St->Hp->Prop),Inv X pins σ H s->Vals vs us->t vs σ H Q->
  wpAny (model X.prog X.w) X.A (assignInOrder ((assignEach ts X.env).map (·.2)) us) (λ_ s'=>∃bu H',Inv X pins bu H' s'/\Q bu H') X.xe s
abbrev Gw:=V->V->V->Hp->(Hp->Prop)->Prop
def LO (X:Cx) (t:Gw):Prop:=
 ∀(pins:List (Addr×Obj)) (s:Shared) (σ:St) (H:Hp) (o i v:V) (ov iv u:Value) (Q:Hp->Prop),Inv X pins σ H s->RelV o ov->RelV i iv->RelV v u->t o i v H Q->
  wpAny (model X.prog X.w) X.A (setItem ov iv u) (λ_ s'=>∃H',Inv X pins σ H' s'/\Q H') X.xe s
section
variable {X:Cx}{pos:Pos}
def cw (i:Nat):TG:=λv σ H Q=>Q (σ.set i (some v)) H
theorem ax {i:Nat}{x:Str}(hN:X.N.Nodup) (hi:X.N[i]?=some x) (hx:Loc X.env.scope x) (hf:X.fn x=true\/X.env.scope.names.lookup x=some .local:=by first | exact .inl rfl | exact .inr rfl | assumption):PG X (.Name x pos) (cw i):=by
 intro pins s σ H v u Q I r h
 exact wpAny_assign_Name (yB I hN hi hx r (λs' I'=>⟨_,H,I',h⟩) hf)
def kr:ug:=λvs σ H Q=>vs=[]/\Q σ H
def dj (t:TG) (u:ug):ug:=λvs σ H Q=>∃v r,vs=v::r/\t v σ H λbu H'=>u r bu H' Q
theorem b8:D0 X [] kr:=by
 intro pins s σ H vs us Q I r h
 obtain ⟨e,h⟩:=h
 subst e
 cases r
 exact assignInOrder_nil ⟨σ,H,I,h⟩
theorem aJ {e:Expr}{es:List Expr}{t:TG}{u:ug}(h1:PG X e t) (h2:D0 X es u)
 (hs:(assignEach (e::es) X.env).map (·.2)=assign e X.env::(assignEach es X.env).map (·.2):=by rfl):D0 X (e::es) (dj t u):=by
 intro pins s σ H vs us Q I r h
 obtain ⟨v,vr,e1,h⟩:=h
 subst e1
 cases r with
 | cons r rr=>
  rw [hs]
  refine assignInOrder_cons (aP (h1 pins s σ H _ _ _ I r h) λ_ s1 ⟨σ1,H1,I1,q1⟩=>?_)
  exact h2 pins s1 σ1 H1 _ _ Q I1 rr q1
def ku (K:W.Frag) (n:Nat) (t:ug):TG:=λv σ H Q=>∃a xs,v=.ref a/\aV K H a xs/\xs.length=n/\t xs σ H Q
theorem cJ {es:List Expr}{k:Nat}{t:ug}{n:Nat}(hc:X.calm=true) (h:D0 X es t)
 (hn:(assignEach es X.env).length=n:=by rfl) (hst:(assignEach es X.env).findIdx? (·.1)=none:=by rfl):PG X (.Tuple es k pos) (ku X.K n t):=by
 intro pins s σ H v u Q I r hw
 obtain ⟨a,xs,e1,hq,hl,hw⟩:=hw
 subst e1
 cases r
 obtain ⟨its,rv,ht,hz⟩:=I.tuple hq
 refine assign_Tuple_tuple (I.ok.hd hc) ht (by simp [hn,← hl,rv.length]) hst λh' hx=>?_
 have I1:Inv X pins σ H { s with heap:=h' }:=I.kept (t':=s.toks) λb o e=>hx b o (Nat.ne_of_lt (Heap.lt_size e)) e
 exact h pins _ σ H xs _ Q I1 (by simpa using rv) hw
def Uv (to ti:TE) (t:Gw):TG:=λv σ H Q=>to σ H λo H1=>ti σ H1 λi H2=>t o i v H2 λH3=>Q σ H3
theorem D5 {o i:Expr}{to ti:TE}{t:Gw}(ho:PE X o to) (hi:PE X i ti) (hs:LO X t)
 (ha:∀v,assign (.Subscript o i pos) X.env v=(do
  let ov ← holding [v] (eval o X.env)
  let iv ← holding [v,ov] (eval i X.env)
  standAt pos
  holding [v,ov,iv] (setItem ov iv v)
  release [v,ov,iv] []):=by intro _; rfl):PG X (.Subscript o i pos) (Uv to ti t):=by
 intro pins s σ H v u Q I r h
 rw [ha]
 refine wpAny_bind (wpAny_holding (aP (ho pins s σ H _ I h) λov s1 ⟨x,H1,I1,r1,q1⟩=>?_))
 refine wpAny_bind (wpAny_holding (aP (hi pins s1 σ H1 _ I1 q1) λiv s2 ⟨y,H2,I2,r2,q2⟩=>?_))
 refine wpAny_bind (wpAny_standAt (wpAny_bind (wpAny_holding (aP (hs pins s2 σ H2 x y v ov iv u _ I2 r1 r2 r q2) λ_ s3 ⟨H3,I3,q3⟩=>?_))))
 exact wpAny_release ⟨σ,H3,I3,q3⟩
def Gx (te:TE) (g:TG):TS:=λD σ H=>te σ H λx H1=>g x σ H1 D.nx
theorem pN {tg e:Expr}{te:TE}{g:TG}(he:PE X e te) (hg:PG X tg g) (hs:swapsWithSole [tg] e pos.line X.env=pure false:=by rfl) (hw:swappedStores [tg] e X.env=pure none:=by rfl)
 (h1:(assignEach [tg] X.env).map (·.2)=[assign tg X.env]:=by rfl):PS X (.Assign [tg] e pos) (Gx te g):=by
 intro pins s σ H D I h
 refine wpAny_Assign_stores (aP (he pins s σ H _ I h) λv s1 ⟨x,H1,I1,r1,q1⟩=>?_) hs hw
 rw [h1]
 exact aP (hg pins s1 σ H1 x v _ I1 r1 q1) λ_ s2 q=>q
theorem aK {i:Nat}{x:Str}{e:Expr}{te:TE}{pos':Pos}(hN:X.N.Nodup) (hi:X.N[i]?=some x) (hx:Loc X.env.scope x) (he:PE X e te) (hs:swapsWith e (some (.Name x pos')) pos.line X.env=pure false:=by rfl) (hf:X.fn x=true\/X.env.scope.names.lookup x=some .local:=by first | exact .inl rfl | exact .inr rfl | assumption) :
 PS X (.Assign [.Name x pos'] e pos) (Gx te (cw i)):=by
 intro pins s σ H D I h
 refine wpAny_Assign_Name (aP (he pins s σ H _ I h) λv s1 ⟨y,H1,I1,r1,q1⟩=>?_) hs
 exact yB I1 hN hi hx r1 (λs2 I2=>⟨_,H1,I2,q1⟩) hf
end
section
variable {X:Cx}{pos:Pos}
end
structure It where
 go:Nat->Hp->Prop
 yld:Nat->Hp->V->Hp->Prop
 stop:Nat->Hp->Prop
def iP (X:Cx) (pins:List (Addr×Obj)) (H:Hp) (b:Addr):Prop:=
 H b=none/\b≠X.env.locals/\b∉X.fs/\(b∈X.ex\/X.kj.heap.objs.size<=b)/\(∀x c,X.env.cells.lookup x=some c->c≠b)/\∀p∈X.pn++pins,p.1≠b
theorem Inv.om {X:Cx}{pins:List (Addr×Obj)}{σ:St}{H H':Hp}{s:Shared}{b:Addr}(I:Inv X pins σ H s) (hb:s.heap.objs.size<=b) (hn:H' b=none):iP X pins H' b:=by
 refine ⟨hn,Nat.ne_of_gt (Nat.lt_of_lt_of_le I.lt hb),I.Uj hb,.inr (Nat.le_trans I.sz hb),λx c e z=>?_,λp hp z=>?_⟩
 . obtain ⟨v,q⟩:=I.cell x c e
   exact absurd (Nat.lt_of_lt_of_le q.lt (by rw [z]; exact hb)) (Nat.lt_irrefl _)
 . exact absurd (Nat.lt_of_lt_of_le (Heap.lt_size (I.pin p hp).1) (by rw [z]; exact hb)) (Nat.lt_irrefl _)
structure Turn (P:Program) (w:World) (K:W.Frag) (tg:Expr) (J:It) (fp:List Addr) (it:Addr) (tn:Nat->Heap->Prop):Prop where
 mem:it∈fp
 obj:∀i h,tn i h->∀b∈fp,∃o,h.get? b=some o/\∀v,o.data≠.cell v
 keep:∀i h h',tn i h->(∀b∈fp,∀o,h.get? b=some o->h'.get? b=some o)->tn i h'
 item:∀(X:Cx),X.prog=P->X.w=w->X.K=K->X.calm=true->∀(i:Nat) (pins:List (Addr×Obj)) (s:Shared) (σ:St) (H:Hp) (E:Value->Shared->Prop),Inv X pins σ H s->(∀b∈fp,iP X pins H b)->tn i s.heap->J.go i H->
  wpAny (model P w) X.A (pyNext (.ref it)) (λr s1=>∃u,r=some u/\
   wpAny (model P w) X.A (letOwnedTupleGo tg (.ref it) u) (λ_ s2=>∃x H',Inv X pins σ H' s2/\RelV x u/\J.yld i H x H'/\tn (i+1) s2.heap/\∀b∈fp,H' b=none) E s1) E s
 done:∀(X:Cx),X.prog=P->X.w=w->X.K=K->X.calm=true->∀(i:Nat) (pins:List (Addr×Obj)) (s:Shared) (σ:St) (H:Hp) (E:Value->Shared->Prop),Inv X pins σ H s->(∀b∈fp,iP X pins H b)->tn i s.heap->J.stop i H->
  wpAny (model P w) X.A (pyNext (.ref it)) (λr s1=>r=none/\Inv X pins σ H s1) E s
 self:∀(A:Around) (i:Nat) (s:Shared) (Q:Value->Shared->Prop) (E:Value->Shared->Prop),tn i s.heap->Q (.ref it) s->wpAny (model P w) A (pyIter (.ref it)) Q E s
abbrev TI:=St->Hp->(It->Hp->Prop)->Prop
def Rv (X:Cx) (pins:List (Addr×Obj)) (σ:St) (tg:Expr) (R:It->Hp->Prop) (LP:Value) (s2:Shared):Prop:=
 ∃(it:Addr) (fp:List Addr) (tn:Nat->Heap->Prop) (J:It) (H':Hp),LP=.ref it/\Inv X pins σ H' s2/\Turn X.prog X.w X.K tg J fp it tn/\tn 0 s2.heap/\(∀b∈fp,iP X pins H' b)/\R J H'
def PI (X:Cx) (tg iter:Expr) (wi:TI):Prop:=
 ∀(pins:List (Addr×Obj)) (s:Shared) (σ:St) (H:Hp) (R:It->Hp->Prop),Inv X pins σ H s->wi σ H R->
  wpAny (model X.prog X.w) X.A (eval iter X.env) (λv s1=>wpAny (model X.prog X.w) X.A (pyIter v) (Rv X pins σ tg R) X.xe s1) X.xe s
theorem yi {M:Model}{A:Around}{E:Value->Shared->Prop}{s:Shared}{tg:Expr}{it:Addr}{u:Value}{o:Obj}{n:String}{vs:Array Value}{Q:Unit->Shared->Prop}(ho:s.heap.get? it=some o) (hc:o.cls=.type n) (hd:o.data=.fields vs)
 (hn:["enumerate", "zip", "dict_itemiterator", "dict_reverseitemiterator", "odict_iterator", "itertools.zip_longest", "itertools.pairwise"].contains n=false) (hQ:Q () s):wpAny M A (letOwnedTupleGo tg (.ref it) u) Q E s:=by
 unfold letOwnedTupleGo
 cases tg <;> first
  | exact wpAny_pure hQ
  | (cases u <;> first
      | exact wpAny_pure hQ
      | (refine wpAny_bind (wpAny_load ho ?_)
         rw [hc,hd]
         show wpAny M A (if (["enumerate", "zip", "dict_itemiterator", "dict_reverseitemiterator", "odict_iterator", "itertools.zip_longest", "itertools.pairwise"].contains n && vs[0]? == some (rawInt _))=true then _ else _) Q E s
         rw [if_neg (by intro h; rw [hn,Bool.false_and] at h; cases h)]
         exact wpAny_pure hQ))
def wx (K:W.Frag) (a:Addr):It:=
 ⟨λi H=>∃xs x,ak K H a xs/\xs[i]?=some x,λi H x H'=>H'=H/\∀xs,ak K H a xs->xs[i]?=some x,λi H=>∃xs,ak K H a xs/\xs.length<=i⟩
def Bh (lo:Int) (n:Nat):It:=⟨λi _=>i<n,λi H x H'=>H'=H/\x=.int (lo+i),λi _=>n<=i⟩
theorem D6 {P:Program}{w:World}{K:W.Frag}{tg:Expr}(a it:Addr):Turn P w K tg (wx K a) [it] it (λi h=>h.IsListIter it a i) where
 mem:=by simp
 obj:=λi h st b hb=>by
  have e:b=it:=by simpa using hb
  subst e
  obtain ⟨o,e,c,d⟩:=st
  exact ⟨o,e,λv z=>by rw [d] at z; cases z⟩
 keep:=λi h h' st k=>st.at λo e=>k it (by simp) o e
 item:=by
  intro X hP hw hK hc i pins s σ H E I hf st hg
  subst hP hw hK
  obtain ⟨xs,x,hq,hx⟩:=hg
  obtain ⟨its,rv,p,hz⟩:=I.list hq
  obtain ⟨u,hu,ru⟩:=rv.get hx
  obtain ⟨f0,f1,f2,f3,f4,f5⟩:=hf it (by simp)
  refine wpAny_pyNext_list_item st p.isList (x:=u) (by simpa using hu) λh' a7 sb=>?_
  have I1:Inv X pins σ H { s with heap:=h' }:=I.turned (t':=s.toks) (λb o hb e=>(sb.2 b hb).trans e) f0 f1 f3 f4 f5
  obtain ⟨o,e,c,d⟩:=id a7
  exact ⟨u,rfl,yi (s:={ s with heap:=h' }) e c d (by decide) ⟨x,H,I1,ru,⟨rfl,λys hy=>by rw [I.sD hy hq]; exact hx⟩,a7,λb hb=>(hf b hb).1⟩⟩
 done:=by
  intro X hP hw hK hc i pins s σ H E I hf st hg
  subst hP hw hK
  obtain ⟨xs,hq,hx⟩:=hg
  obtain ⟨its,rv,p,hz⟩:=I.list hq
  obtain ⟨f0,f1,f2,f3,f4,f5⟩:=hf it (by simp)
  have hl:=rv.length
  exact wpAny_pyNext_list_end (I.ok.hd hc) st p.isList (by simp; omega) λh' eb=>⟨rfl,I.turned (t':=s.toks) (λb o hb e=>eb b o hb e) f0 f1 f3 f4 f5⟩
 self:=λ_ _ _ _ _ st h=>wpAny_pyIter_listiter st h
theorem Cv {P:Program}{w:World}{K:W.Frag}{tg:Expr}(it:Addr) (lo:Int) (n:Nat):Turn P w K tg (Bh lo n) [it] it (λi h=>IsRangeIter h it (lo+(i:Nat)*1) ((n:Int)-(i:Nat)) 1) where
 mem:=by simp
 obj:=λi h st b hb=>by
  have e:b=it:=by simpa using hb
  subst e
  exact ⟨_,st,λv z=>by
   have z':Data.fields _=Data.cell v:=z
   cases z'⟩
 keep:=λi h h' st k=>k it (by simp) _ st
 item:=by
  intro X hP hw hK hc i pins s σ H E I hf st hg
  subst hP hw hK
  obtain ⟨f0,f1,f2,f3,f4,f5⟩:=hf it (by simp)
  have W:=Walks.range (prog:=X.prog) (w:=X.w) (I.ok.hd hc) it lo 1 n
  refine W.item i s _ _ hg st λv h' tk hv a7 kk=>?_
  obtain ⟨t,rfl⟩:=hv
  have I1:Inv X pins σ H { s with heap:=h',toks:=tk }:=I.turned (λb o hb e=>kk b o (by simpa using hb) e) f0 f1 f3 f4 f5
  refine ⟨_,rfl,yi (s:={ s with heap:=h',toks:=tk }) (n:="range_iterator") a7 rfl rfl (by decide) ⟨.int (lo+i),H,I1,⟨t,?_⟩,⟨rfl,rfl⟩,a7,λb hb=>(hf b hb).1⟩⟩
  rw [Int.mul_one]
 done:=by
  intro X hP hw hK hc i pins s σ H E I hf st hg
  subst hP hw hK
  obtain ⟨f0,f1,f2,f3,f4,f5⟩:=hf it (by simp)
  exact wpAny_pyNext_range_end (I.ok.hd hc) st (by have:n<=i:=hg; omega) λh' eb=>⟨rfl,I.turned (t':=s.toks) (λb o hb e=>eb b o hb e) f0 f1 f3 f4 f5⟩
 self:=λ_ _ _ _ _ st h=>wpAny_pyIter_rangeiter st h
end L2
namespace L2
open PySem PySem.Spec PyProof.Rows
section
variable {X:Cx}{tg:Expr}
def Qc (K:W.Frag) (tl:TE):TI:=λσ H R=>tl σ H λx H1=>∃a,x=.ref a/\(∃xs,ak K H1 a xs)/\R (wx K a) H1
theorem bO {l:Expr}{tl:TE}(hl:PE X l tl):PI X tg l (Qc X.K tl):=by
 intro pins s σ H R I h
 refine aP (hl pins s σ H _ I h) λv s1 ⟨x,H1,I1,r1,q1⟩=>?_
 obtain ⟨a,e,⟨xs,hq⟩,q⟩:=q1
 subst e
 cases r1
 obtain ⟨its,rv,p,hz⟩:=I1.list hq
 refine wpAny_pyIter_list p.isList ?_
 refine ⟨s1.heap.objs.size,[s1.heap.objs.size],_,_,H1,rfl,I1.kept (t':=s1.toks) λb o e=>Heap.get?_push_of_some _ e,D6 a _,⟨_,Heap.get?_push_size _ rfl,rfl,rfl⟩,λb hb=>?_,q⟩
 have e:b=s1.heap.objs.size:=by simpa using hb
 subst e
 exact I1.om (Nat.le_refl _) (I1.hok.fresh (Nat.le_refl _))
theorem Gy {pins:List (Addr×Obj)}{σ:St}{H:Hp}{s:Shared}{R:It->Hp->Prop}{E:Value->Shared->Prop}{lo hi:Int}{t u v:Tok}{tk:Nat}(I:Inv X pins σ H s) (h1 : -(2 ^ 62)<=lo) (h2:lo<2 ^ 62) (h3 : -(2 ^ 62)<=hi) (h4:hi<2 ^ 62)
 (q:R (Bh lo (hi-lo).toNat) H):wpAny (model X.prog X.w) X.A (pyIter (.ref s.heap.objs.size)) (Rv X pins σ tg R) E { s with heap:=s.heap.push { cls:=.type "range",data:=.fields #[.int lo t,.int hi u,.int 1 v] },toks:=tk }:=by
 refine wpAny_pyIter_range (IsRange.new ..) (small_one h1 h2 h3 h4) ?_
 have I1:Inv X pins σ H { s with heap:=s.heap.push { cls:=.type "range",data:=.fields #[.int lo t,.int hi u,.int 1 v] },toks:=tk }:=I.kept λb o e=>Heap.get?_push_of_some _ e
 refine ⟨(s.heap.push { cls:=.type "range",data:=.fields #[.int lo t,.int hi u,.int 1 v] }).objs.size,[(s.heap.push { cls:=.type "range",data:=.fields #[.int lo t,.int hi u,.int 1 v] }).objs.size],_,_,H,rfl,
  I1.kept (t':=tk) λb o e=>Heap.get?_push_of_some _ e,Cv _ lo (hi-lo).toNat,?_,λb hb=>?_,q⟩
 . have e1:lo+((0:Nat):Int)*1=lo:=by simp
   have e2:(((hi-lo).toNat:Nat):Int)-((0:Nat):Int)=Builtin.Range.rangeSize lo hi 1:=by rw [rangeSize_one]; split <;> omega
   show IsRangeIter _ _ (lo+((0:Nat):Int)*1) ((((hi-lo).toNat:Nat):Int)-((0:Nat):Int)) 1
   rw [e1,e2]
   exact Heap.get?_push_size _ rfl
 . have e:b=(s.heap.push { cls:=.type "range",data:=.fields #[.int lo t,.int hi u,.int 1 v] }).objs.size:=by simpa using hb
   subst e
   exact I1.om (Nat.le_refl _) (I1.hok.fresh (Nat.le_refl _))
def Qd (ta:TA):TI:=λσ H R=>ta σ H λvs H1=>∃j:Int,vs=[.int j] /\ -(2 ^ 62)<=j/\j<2 ^ 62/\R (Bh 0 j.toNat) H1
theorem eQ {a:Expr}{ta:TA}{p pos:Pos}(hg:Gl X "range") (hm:X.mg "range" = none) (ha:PA X [a] ta) (hs:starEach [a] X.env=[(false,eval a X.env)]:=by rfl):PI X tg (.Call (.Name "range" p) [a] [] pos) (Qd ta):=by
 intro pins s σ H R I h
 refine Call_ (iC I hg hm boot_range (PyProof.Rows.callWith_type1 (aP (ha pos pins s σ H _ I h) λus s1 ⟨vs,H1,I1,r1,q1⟩=>?_) hs rfl))
 obtain ⟨j,e,q1,q2,q⟩:=q1
 subst e
 cases r1 with
 | cons r rr=>
  cases rr
  obtain ⟨t,rfl⟩:=r
  exact call_range_1 (Gy I1 (by omega) (by omega) q1 q2 (by simpa using q))
def Uw (wi:TI) (g:TG) (tb:TS):TS:=λD σ H=>wi σ H λJ H1=>∃W:Nat->Nat->St->Hp->Prop,(∃m,W 0 m σ H1)/\∀i m σ H,W i m σ H->
 (J.stop i H/\D.nx σ H)\/(J.go i H/\∃N:St->Hp->Prop,(∀bu H',N bu H'->∃m',m'<m/\W (i+1) m' bu H')/\∀x H',J.yld i H x H'->g x σ H' λiQ H2=>tb { D with nx:=N,ct:=N,bk:=D.nx } iQ H2)
def pO (fp:List Addr) (h:Heap):List (Addr×Obj):=fp.filterMap λb=>(h.get? b).map λo=>(b,o)
theorem lg {fp:List Addr}{h:Heap}{b:Addr}{o:Obj}(hb:b∈fp) (e:h.get? b=some o):(b,o)∈pO fp h:=List.mem_filterMap.mpr ⟨b,hb,by rw [e]; rfl⟩
theorem D7 {fp:List Addr}{h:Heap}{p:Addr×Obj}(hp:p∈pO fp h):p.1∈fp/\h.get? p.1=some p.2:=by
 obtain ⟨b,hb,e⟩:=List.mem_filterMap.mp hp
 cases q:h.get? b with
 | none=>rw [q] at e; cases e
 | some o=>
  rw [q] at e
  have e':(b,o)=p:=Option.some.inj e
  subst e'
  exact ⟨hb,q⟩
theorem Inv.pinned {pins:List (Addr×Obj)}{σ:St}{H:Hp}{s:Shared}{fp:List Addr}(I:Inv X pins σ H s) (hf:∀b∈fp,iP X pins H b) (ho:∀b∈fp,∃o,s.heap.get? b=some o/\∀v,o.data≠.cell v):Inv X (pins++pO fp s.heap) σ H s:=
 I.Bg λp hp=>(List.mem_append.mp hp).elim (λz=>I.pin p (List.mem_append_right _ z)) λz=>by
  obtain ⟨hb,e⟩:=D7 z
  obtain ⟨f0,f1,f2,_⟩:=hf p.1 hb
  obtain ⟨o,e',d⟩:=ho p.1 hb
  rw [e] at e'; cases e'
  exact ⟨e,f0,f1,f2,d⟩
theorem Inv.oo {pins pl:List (Addr×Obj)}{σ:St}{H:Hp}{s:Shared}(I:Inv X (pins++pl) σ H s):Inv X pins σ H s:=I.Bg λp hp=>I.pin p (List.mem_append_right _ (List.mem_append_left _ hp))
theorem dk {iter:Expr}{body:List Stmt}{wi:TI}{g:TG}{tb:TS}{pos:Pos}(hp:PassesOwn (model X.prog X.w) X.A X.env X.xe) (hc:X.calm=true) (hi:PI X tg iter wi) (hg:PG X tg g) (hb:gx X body tb)
 (hs:∀x,foldedSetIterable iter X.env x=pure x:=by intro _; rfl):PS X (.For tg iter body [] pos) (Uw wi g tb):=by
 intro pins s σ H D I h
 refine wpAny_For (aP (hi pins s σ H _ I h) λv s1 h1=>aP h1 λLP s2 h2=>?_) hs
 obtain ⟨it,fp,tn,J,H2,e,I2,T,jW,f2,W,⟨m0,w0⟩,turn⟩:=h2
 subst e
 have Gz:∀{H':Hp},(∀b∈fp,H' b=none)->∀b∈fp,iP X pins H' b:=λhn b hb=>⟨hn b hb,(f2 b hb).2⟩
 refine codeAny_forLoop_any (λn s'=>∃i bu H',Inv X pins bu H' s'/\tn i s'.heap/\(∀b∈fp,H' b=none)/\W i n bu H') ?_ m0 ⟨0,σ,H2,I2,jW,λb hb=>(f2 b hb).1,w0⟩
 rintro n s3 ⟨i,LQ,H3,I3,Rw,Rx,w3⟩
 rcases turn i n LQ H3 w3 with ⟨stop,qn⟩ | ⟨go,N,hN,step⟩
 . refine wpAny_passesOwn hp (aP (T.done X rfl rfl rfl hc i pins s3 LQ H3 X.xe I3 (Gz Rx) Rw stop) λr s4 ⟨hr,I4⟩=>?_)
   subst hr
   exact wpAny_execs_nil ⟨LQ,H3,I4,qn⟩
 . refine wpAny_passesOwn hp (aP (T.item X rfl rfl rfl hc i pins s3 LQ H3 X.xe I3 (Gz Rx) Rw go) λr s4 ⟨u,hr,h4⟩=>?_)
   subst hr
   refine wpAny_passesOwn hp (aP h4 λ_ s5 ⟨x,H5,I5,r5,y5,Bi,IE⟩=>?_)
   have I5':=I5.pinned (Gz IE) (T.obj _ _ Bi)
   refine wpAny_passesOwn hp (aP (hg _ s5 LQ H5 x u _ I5' r5 (step x H5 y5)) λ_ s6 ⟨σ6,H6,I6,q6⟩=>?_)
   refine wpAny_passesOwn hp (aP (hb _ s6 σ6 H6 _ I6 q6) λf s7 q7=>?_)
   have again:∀{yG:St}{H7:Hp},Inv X (pins++pO fp s5.heap) yG H7 s7->N yG H7->∃m,m<n/\∃i bu H',Inv X pins bu H' s7/\tn i s7.heap/\(∀b∈fp,H' b=none)/\W i m bu H':=λ{yG H7} I7 n7=>by
    obtain ⟨m',hm,w7⟩:=hN yG H7 n7
    refine ⟨m',hm,i+1,yG,H7,I7.oo,T.keep _ _ _ Bi λb hb o e=>(I7.pin (b,o) (List.mem_append_right _ (List.mem_append_right _ (lg hb e)))).1,λb hb=>?_,w7⟩
    obtain ⟨o,e,d⟩:=T.obj _ _ Bi b hb
    exact (I7.pin (b,o) (List.mem_append_right _ (List.mem_append_right _ (lg hb e)))).2.1
   cases f with
   | next=>obtain ⟨yG,H7,I7,n7⟩:=q7; exact again I7 n7
   | cont=>obtain ⟨yG,H7,I7,n7⟩:=q7; exact again I7 n7
   | brk=>obtain ⟨yG,H7,I7,q7⟩:=q7; exact ⟨yG,H7,I7.oo,q7⟩
   | ret v=>obtain ⟨x7,yG,H7,I7,r7,q7⟩:=q7; exact ⟨x7,yG,H7,I7.oo,r7,q7⟩
end
theorem gQ {K:W.Frag}{a:Addr}{xs:List V}{g:TG}{tb:TS}{D:Ends}{σ:St}{H:Hp}(Pv:Nat->St->Hp->Prop) (h0:Pv 0 σ H) (hl:∀i σ H,i<=xs.length->Pv i σ H->ak K H a xs)
 (hs:∀i x σ H,xs[i]?=some x->Pv i σ H->g x σ H λiQ H2=>tb { D with nx:=Pv (i+1),ct:=Pv (i+1),bk:=D.nx } iQ H2) (hd:∀σ H,Pv xs.length σ H->D.nx σ H) :
 ∃W:Nat->Nat->St->Hp->Prop,(∃m,W 0 m σ H)/\∀i m σ H,W i m σ H->
  ((wx K a).stop i H/\D.nx σ H)\/((wx K a).go i H/\∃N:St->Hp->Prop,(∀bu H',N bu H'->∃m',m'<m/\W (i+1) m' bu H')/\∀x H',(wx K a).yld i H x H'->g x σ H' λiQ H2=>tb { D with nx:=N,ct:=N,bk:=D.nx } iQ H2):=by
 refine ⟨λi m σ H=>m=xs.length-i/\i<=xs.length/\Pv i σ H,⟨xs.length,by simp,Nat.zero_le _,h0⟩,?_⟩
 rintro i m σ H ⟨rfl,hi,p⟩
 have q:=hl i σ H hi p
 by_cases cq:i<xs.length
 . refine .inr ⟨⟨xs,xs[i],q,by simp [cq]⟩,Pv (i+1),λbu H' p'=>⟨xs.length-(i+1),by omega,rfl,cq,p'⟩,λx H' y=>?_⟩
   obtain ⟨e,y⟩:=y
   subst e
   exact hs i x σ _ (y xs q) p
 . have e:i=xs.length:=by omega
   subst e
   exact .inl ⟨⟨xs,q,Nat.le_refl _⟩,hd σ H p⟩
theorem gT {lo:Int}{n:Nat}{g:TG}{tb:TS}{D:Ends}{σ:St}{H:Hp}(Pv:Nat->St->Hp->Prop) (h0:Pv 0 σ H)
 (hs:∀i σ H,i<n->Pv i σ H->g (.int (lo+i)) σ H λiQ H2=>tb { D with nx:=Pv (i+1),ct:=Pv (i+1),bk:=D.nx } iQ H2) (hd:∀σ H,Pv n σ H->D.nx σ H) :
 ∃W:Nat->Nat->St->Hp->Prop,(∃m,W 0 m σ H)/\∀i m σ H,W i m σ H->
  ((Bh lo n).stop i H/\D.nx σ H)\/((Bh lo n).go i H/\∃N:St->Hp->Prop,(∀bu H',N bu H'->∃m',m'<m/\W (i+1) m' bu H')/\∀x H',(Bh lo n).yld i H x H'->g x σ H' λiQ H2=>tb { D with nx:=N,ct:=N,bk:=D.nx } iQ H2):=by
 refine ⟨λi m σ H=>m=n-i/\i<=n/\Pv i σ H,⟨n,by simp,Nat.zero_le _,h0⟩,?_⟩
 rintro i m σ H ⟨rfl,hi,p⟩
 by_cases cq:i<n
 . refine .inr ⟨cq,Pv (i+1),λbu H' p'=>⟨n-(i+1),by omega,rfl,cq,p'⟩,λx H' y=>?_⟩
   obtain ⟨e,y⟩:=y
   subst e y
   exact hs i σ _ cq p
 . have e:i=n:=by omega
   subst e
   exact .inl ⟨Nat.le_refl _,hd σ H p⟩
end L2
namespace L2
open PySem PySem.Spec PyProof.Rows
abbrev R2:=V->V->Hp->VK->Prop
def dH (X:Cx) (f:Value->Value->Sem Value) (r:R2):Prop:=
 ∀(pins:List (Addr×Obj)) (s:Shared) (σ:St) (H:Hp) (x y:V) (v u:Value) (Q:VK),Inv X pins σ H s->RelV x v->RelV y u->r x y H Q->
  wpAny (model X.prog X.w) X.A (f v u) (EP X pins σ Q) X.xe s
def LR (X:Cx) (f:Value->Sem Value) (r:V->Hp->VK->Prop):Prop:=
 ∀(pins:List (Addr×Obj)) (s:Shared) (σ:St) (H:Hp) (x:V) (v:Value) (Q:VK),Inv X pins σ H s->RelV x v->r x H Q->
  wpAny (model X.prog X.w) X.A (f v) (EP X pins σ Q) X.xe s
def fX (X:Cx) (f:Value) (r:List V->Hp->VK->Prop):Prop:=
 ∀(pins:List (Addr×Obj)) (s:Shared) (σ:St) (H:Hp) (xs:List V) (us:List Value) (Q:VK),Inv X pins σ H s->Vals xs us->r xs H Q->
  wpAny (model X.prog X.w) X.A (call f us) (EP X pins σ Q) X.xe s
def wy (r:R2) (ta tb:TE):TE:=λσ H Q=>ta σ H λx H1=>tb σ H1 λy H2=>r x y H2 Q
def tUn (r:V->Hp->VK->Prop) (ta:TE):TE:=λσ H Q=>ta σ H λx H1=>r x H1 Q
def rI (C:Int->Int->Prop) (g:Int->Int->V):R2:=λx y H Q=>∃i j,x=.int i/\y=.int j/\C i j/\Q (g i j) H
def wz (g:Int->Int->V):R2:=λx y H Q=>∃i j,x=.int i/\y=.int j/\Q (g i j) H
def rU (g:Int->V):V->Hp->VK->Prop:=λx H Q=>∃i,x=.int i/\Q (g i) H
section
variable {X:Cx}{a b c:Expr}{ta tb tc:TE}{pos:Pos}
theorem GC (ha:PE X a ta) (hb:PE X b tb){pins:List (Addr×Obj)}{s:Shared}{σ:St}{H:Hp}{R:V->V->Hp->Prop}(I:Inv X pins σ H s)
 (h:ta σ H λx H1=>tb σ H1 λy H2=>R x y H2){Q:Value->Shared->Prop}{f:Value->Value->Sem Value}
 (hf:∀v u s2 x y H2,Inv X pins σ H2 s2->RelV x v->RelV y u->R x y H2->wpAny (model X.prog X.w) X.A (f v u) Q X.xe s2) :
 wpAny (model X.prog X.w) X.A (eval a X.env) (λv di=>wpAny (model X.prog X.w) X.A (eval b X.env) (λu vz=>wpAny (model X.prog X.w) X.A (f v u) Q X.xe vz) X.xe di) X.xe s:=by
 refine aP (ha pins s σ H _ I h) λv s1 ⟨x,H1,I1,r1,q1⟩=>?_
 refine aP (hb pins s1 σ H1 _ I1 q1) λu s2 ⟨y,H2,I2,r2,q2⟩=>?_
 exact hf v u s2 x y H2 I2 r1 r2 q2
theorem aM {op:Operator}{r:R2}(ho:dH X (binaryOp op) r) (ha:PE X a ta) (hb:PE X b tb):PE X (.BinOp a op b pos) (wy r ta tb):=by
 intro pins s σ H Q I h
 exact wpAny_BinOp (GC ha hb I h λv u s2 x y H2 I2 rx ry q=>ho pins s2 σ H2 x y v u Q I2 rx ry q)
theorem oq {op:UnaryOp}{r:V->Hp->VK->Prop}(ho:LR X (unaryOp op) r) (ha:PE X a ta):PE X (.UnaryOp op a pos) (tUn r ta):=by
 intro pins s σ H Q I h
 exact UnaryOp_ (aP (ha pins s σ H _ I h) λv s1 ⟨x,H1,I1,r1,q1⟩=>ho pins s1 σ H1 x v Q I1 r1 q1)
theorem LS {f:Value->Value->Sem Value}{C:Int->Int->Prop}{g:Int->Int->Int}
 (rule:∀(i j:Int) (t u:Tok) (s:Shared) (Q:Value->Shared->Prop) (E:Value->Shared->Prop),C i j->Q (.int (g i j) s.toks) { s with toks:=s.toks+1 } -> wpAny (model X.prog X.w) X.A (f (.int i t) (.int j u)) Q E s) :
 dH X f (rI C λi j=>.int (g i j)):=by
 intro pins s σ H x y v u Q I rx ry h
 obtain ⟨i,j,rfl,rfl,hc,q⟩:=h
 obtain ⟨t,rfl⟩:=rx
 obtain ⟨t',rfl⟩:=ry
 exact rule i j t t' s _ _ hc ⟨.int (g i j),H,I.tok _,⟨_,rfl⟩,q⟩
theorem LU {f:Value->Value->Sem Value}{g:Int->Int->Int}
 (rule:∀(i j:Int) (t u:Tok) (s:Shared) (Q:Value->Shared->Prop) (E:Value->Shared->Prop),Q (.int (g i j) s.toks) { s with toks:=s.toks+1 } -> wpAny (model X.prog X.w) X.A (f (.int i t) (.int j u)) Q E s) :
 dH X f (wz λi j=>.int (g i j)):=by
 intro pins s σ H x y v u Q I rx ry h
 obtain ⟨i,j,rfl,rfl,q⟩:=h
 obtain ⟨t,rfl⟩:=rx
 obtain ⟨t',rfl⟩:=ry
 exact rule i j t t' s _ _ ⟨.int (g i j),H,I.tok _,⟨_,rfl⟩,q⟩
theorem Cw {f:Value->Value->Sem Value}{g:Int->Int->Bool}
 (rule:∀(i j:Int) (t u:Tok) (s:Shared) (Q:Value->Shared->Prop) (E:Value->Shared->Prop),Q (.bool (g i j)) s->wpAny (model X.prog X.w) X.A (f (.int i t) (.int j u)) Q E s) :
 dH X f (wz λi j=>.bl (g i j)):=by
 intro pins s σ H x y v u Q I rx ry h
 obtain ⟨i,j,rfl,rfl,q⟩:=h
 obtain ⟨t,rfl⟩:=rx
 obtain ⟨t',rfl⟩:=ry
 exact rule i j t t' s _ _ ⟨.bl (g i j),H,I,rfl,q⟩
def Ux (i j:Int):Prop:=0<j/\j<1073741824
def GD (i j:Int):Prop:=(-(2 ^ 64)<i/\i<2 ^ 64)\/(-(2 ^ 64)<j/\j<2 ^ 64)
theorem GD.ok {i j:Int}(h:GD i j):IntMulOk i j:=by
 rcases h with ⟨h1,h2⟩ | ⟨h1,h2⟩
 . exact .of_left (intBits_le_64 h1 h2)
 . exact .of_right (intBits_le_64 h1 h2)
theorem dJ:dH X (binaryOp .Add) (wz λi j=>.int (i+j)):=LU λ_ _ _ _ _ _ _ q=>add_int q
theorem uh:dH X (binaryOp .Sub) (wz λi j=>.int (i-j)):=LU λ_ _ _ _ _ _ _ q=>sub_int q
theorem iD:dH X (binaryOp .Mult) (rI GD λi j=>.int (i*j)):=LS λ_ _ _ _ _ _ _ hc q=>mul_int q hc.ok
theorem vC:dH X (binaryOp .FloorDiv) (rI Ux λi j=>.int (i / j)):=LS λi j _ _ _ _ _ hc q=>by
 have h1:(0:Int)<j:=hc.1
 have h2:j<1073741824:=hc.2
 exact floordiv_int (by omega) (by rw [Int.fdiv_eq_ediv_of_nonneg i (by omega)]; exact q) (.inl (PyProof.noPylong_small (by omega)))
theorem jX:dH X (binaryOp .Mod) (rI (λ_ j=>0<j) λi j=>.int (i % j)):=LS λi j _ _ _ _ _ hc q=>by
 have h1:(0:Int)<j:=hc
 exact mod_int' (by omega) (by rw [Int.fmod_eq_emod_of_nonneg i (by omega)]; exact q)
theorem unI {f:Value->Sem Value}{g:Int->Int}
 (rule:∀(i:Int) (t:Tok) (s:Shared) (Q:Value->Shared->Prop) (E:Value->Shared->Prop),Q (.int (g i) s.toks) { s with toks:=s.toks+1 } -> wpAny (model X.prog X.w) X.A (f (.int i t)) Q E s) :
 LR X f (rU λi=>.int (g i)):=by
 intro pins s σ H x v Q I rx h
 obtain ⟨i,rfl,q⟩:=h
 obtain ⟨t,rfl⟩:=rx
 exact rule i t s _ _ ⟨.int (g i),H,I.tok _,⟨_,rfl⟩,q⟩
theorem lI:LR X (unaryOp .USub) (rU λi=>.int (-i)):=unI λ_ _ _ _ _ q=>neg_int q
end
def LV:V->V->Bool
 | .aZ,.aZ=>true | .aZ,.int _=>true | .int _,.aZ=>true | .aZ,.bl _=>true | .bl _,.aZ=>true | .aZ,.str _=>true | .str _,.aZ=>true
 | .int _,.int _=>true | .bl _,.bl _=>true | .str _,.str _=>true | .m9 _,.m9 _=>true
 | .int _,.str _=>true | .str _,.int _=>true | .bl _,.str _=>true | .str _,.bl _=>true
 | _,_=>false
def rEq:R2:=λx y H Q=>LV x y=true/\Q (.bl (decide (x=y))) H
def rNe:R2:=λx y H Q=>LV x y=true/\Q (.bl (!decide (x=y))) H
theorem Bj {i j:Int} : decide (V.int i=V.int j)=(i == j):=by
 rw [Bool.eq_iff_iff]
 simp
theorem D8 {i j:Bool} : decide (V.bl i=V.bl j)=(i == j):=by
 rw [Bool.eq_iff_iff]
 simp
theorem Bk {i j:Str} : decide (V.str i=V.str j)=(i == j):=by
 rw [Bool.eq_iff_iff]
 simp
theorem Bl {i j:Array UInt8} : decide (V.m9 i=V.m9 j)=(i.toList == j.toList):=by
 rw [Bool.eq_iff_iff]
 cases i
 cases j
 simp
section
variable {X:Cx}{a b c:Expr}{ta tb tc:TE}{pos:Pos}
theorem bG {pins:List (Addr×Obj)}{σ:St}{H:Hp}{s:Shared}{Q:VK}{k k':Bool}(I:Inv X pins σ H s) (q:Q (.bl k) H) (e:k=k'):EP X pins σ Q (.bool k') s:=by
 subst e
 exact ⟨.bl k,H,I,rfl,q⟩
theorem cU:dH X (compareOp .Eq) rEq:=by
 intro pins s σ H x y v u Q I rx ry h
 obtain ⟨hs,q⟩:=h
 cases x with
 | aZ=>
  cases rx
  cases y with
  | aZ=>cases ry; exact PySem.EqNone.eq_none_none (bG I q (by simp))
  | bl j=>cases ry; exact PySem.EqNone.eq_none_bool (bG I q (by simp))
  | int j=>obtain ⟨t',rfl⟩:=ry; exact PySem.EqNone.eq_none_int (bG I q (by simp))
  | str j=>obtain ⟨t',rfl⟩:=ry; exact PySem.EqNone.eq_none_str (bG I q (by simp))
  | _=>exact absurd (show false=true from hs) Bool.false_ne_true
 | bl i=>
  cases rx
  cases y with
  | aZ=>cases ry; exact PySem.EqNone.eq_bool_none (bG I q (by simp))
  | bl j=>cases ry; exact eq_bool (bG I q D8)
  | str j=>obtain ⟨t',rfl⟩:=ry; exact PySem.EqMixed.eq_bool_str (bG I q (by simp))
  | _=>exact absurd (show false=true from hs) Bool.false_ne_true
 | int i=>
  obtain ⟨t,rfl⟩:=rx
  cases y with
  | aZ=>cases ry; exact PySem.EqNone.eq_int_none (bG I q (by simp))
  | int j=>obtain ⟨t',rfl⟩:=ry; exact eq_int (bG I q Bj)
  | str j=>obtain ⟨t',rfl⟩:=ry; exact PySem.EqMixed.eq_int_str (bG I q (by simp))
  | _=>exact absurd (show false=true from hs) Bool.false_ne_true
 | str i=>
  obtain ⟨t,rfl⟩:=rx
  cases y with
  | aZ=>cases ry; exact PySem.EqNone.eq_str_none (bG I q (by simp))
  | bl j=>cases ry; exact PySem.EqMixed.eq_str_bool (bG I q (by simp))
  | int j=>obtain ⟨t',rfl⟩:=ry; exact PySem.EqMixed.eq_str_int (bG I q (by simp))
  | str j=>obtain ⟨t',rfl⟩:=ry; exact eq_str (bG I q Bk)
  | _=>exact absurd (show false=true from hs) Bool.false_ne_true
 | m9 i=>
  obtain ⟨t,rfl⟩:=rx
  cases y with
  | m9 j=>obtain ⟨t',rfl⟩:=ry; exact W.eq_bytes (bG I q Bl)
  | _=>exact absurd (show false=true from hs) Bool.false_ne_true
 | _=>cases y <;> exact absurd (show false=true from hs) Bool.false_ne_true
theorem Cy:dH X (compareOp .NotEq) rNe:=by
 intro pins s σ H x y v u Q I rx ry h
 obtain ⟨hs,q⟩:=h
 cases x with
 | aZ=>
  cases rx
  cases y with
  | aZ=>cases ry; exact PySem.EqNone.ne_none_none (bG I q (by simp))
  | bl j=>cases ry; exact PySem.EqNone.ne_none_bool (bG I q (by simp))
  | int j=>obtain ⟨t',rfl⟩:=ry; exact PySem.EqNone.ne_none_int (bG I q (by simp))
  | str j=>obtain ⟨t',rfl⟩:=ry; exact PySem.EqNone.ne_none_str (bG I q (by simp))
  | _=>exact absurd (show false=true from hs) Bool.false_ne_true
 | bl i=>
  cases rx
  cases y with
  | aZ=>cases ry; exact PySem.EqNone.ne_bool_none (bG I q (by simp))
  | bl j=>cases ry; exact ne_bool (bG I q (congrArg not D8))
  | str j=>obtain ⟨t',rfl⟩:=ry; exact PySem.EqMixed.ne_bool_str (bG I q (by simp))
  | _=>exact absurd (show false=true from hs) Bool.false_ne_true
 | int i=>
  obtain ⟨t,rfl⟩:=rx
  cases y with
  | aZ=>cases ry; exact PySem.EqNone.ne_int_none (bG I q (by simp))
  | int j=>obtain ⟨t',rfl⟩:=ry; exact ne_int (bG I q (congrArg not Bj))
  | str j=>obtain ⟨t',rfl⟩:=ry; exact PySem.EqMixed.ne_int_str (bG I q (by simp))
  | _=>exact absurd (show false=true from hs) Bool.false_ne_true
 | str i=>
  obtain ⟨t,rfl⟩:=rx
  cases y with
  | aZ=>cases ry; exact PySem.EqNone.ne_str_none (bG I q (by simp))
  | bl j=>cases ry; exact PySem.EqMixed.ne_str_bool (bG I q (by simp))
  | int j=>obtain ⟨t',rfl⟩:=ry; exact PySem.EqMixed.ne_str_int (bG I q (by simp))
  | str j=>obtain ⟨t',rfl⟩:=ry; exact ne_str (bG I q (congrArg not Bk))
  | _=>exact absurd (show false=true from hs) Bool.false_ne_true
 | m9 i=>
  obtain ⟨t,rfl⟩:=rx
  cases y with
  | m9 j=>obtain ⟨t',rfl⟩:=ry; exact W.ne_bytes (bG I q (congrArg not Bl))
  | _=>exact absurd (show false=true from hs) Bool.false_ne_true
 | _=>cases y <;> exact absurd (show false=true from hs) Bool.false_ne_true
theorem ui:dH X (compareOp .Lt) (wz λi j=>.bl (decide (i<j))):=Cw λ_ _ _ _ _ _ _ q=>lt_int q
theorem Qe:dH X (compareOp .LtE) (wz λi j=>.bl (decide (i<=j))):=Cw λ_ _ _ _ _ _ _ q=>le_int q
theorem mj:dH X (compareOp .Gt) (wz λi j=>.bl (decide (j<i))):=Cw λ_ _ _ _ _ _ _ q=>gt_int q
theorem uk:dH X (compareOp .GtE) (wz λi j=>.bl (decide (j<=i))):=Cw λ_ _ _ _ _ _ _ q=>ge_int q
theorem aS (b:Expr){op:CmpOp}(h:op≠.In:=by decide) (h2:op≠.NotIn:=by decide):behindInMarks op b=false:=by
 have e1:(op == CmpOp.In)=false:=by cases op <;> first | rfl | exact absurd rfl h
 have e2:(op == CmpOp.NotIn)=false:=by cases op <;> first | rfl | exact absurd rfl h2
 cases b <;> simp [behindInMarks,e1,e2]
theorem gp {op:CmpOp}{r:R2}(ho:dH X (compareOp op) r) (ha:PE X a ta) (hb:PE X b tb) (hm:behindInMarks op b=false):PE X (.Compare a [op] [b] pos) (wy r ta tb):=by
 intro pins s σ H Q I h
 exact wpAny_Compare1 (GC ha hb I h λv u s2 x y H2 I2 rx ry q=>ho pins s2 σ H2 x y v u Q I2 rx ry q) hm
def IF (t:TE):TT:=λσ H Q=>t σ H λx H'=>∃k,x=.bl k/\Q k H'
theorem aL {op:CmpOp}{r:R2}(ho:dH X (compareOp op) r) (ha:PE X a ta) (hb:PE X b tb) (hm:behindInMarks op b=false):PT X (.Compare a [op] [b] pos) (IF (wy r ta tb)):=by
 intro pins s σ H Q I h
 refine wpAny_isTrue_Compare1 (aP (ha pins s σ H _ I h) λv s1 ⟨x,H1,I1,r1,q1⟩=>aP (hb pins s1 σ H1 _ I1 q1) λu s2 ⟨y,H2,I2,r2,q2⟩=>
  aP (ho pins s2 σ H2 x y v u _ I2 r1 r2 q2) λc s3 ⟨z,H3,I3,r3,k,e,q3⟩=>?_) hm
 subst e
 cases r3
 exact wpAny_truthy_bool ⟨H3,I3,q3⟩
def LW (r r':R2) (ta tb tc:TE):TE:=λσ H Q=>ta σ H λx H1=>tb σ H1 λy H2=>r x y H2 λz H3=>∃k,z=.bl k/\
 (if k=true then tc σ H3 λw' H4=>r' y w' H4 Q else Q (.bl false) H3)
theorem GG {op LX:CmpOp}{r r':R2}(ho:dH X (compareOp op) r) (jf:dH X (compareOp LX) r') (ha:PE X a ta) (hb:PE X b tb) (hc:PE X c tc)
 (hm:lastMarks [op,LX] [b,c]=false:=by with_unfolding_all rfl):PT X (.Compare a [op,LX] [b,c] pos) (IF (LW r r' ta tb tc)):=by
 intro pins s σ H Q I h
 refine isTrue_chain (aP (ha pins s σ H _ I h) λv s1 ⟨x,H1,I1,r1,q1⟩=>test_link (aP (hb pins s1 σ H1 _ I1 q1) λu s2 ⟨y,H2,I2,r2,q2⟩=>
  aP (ho pins s2 σ H2 x y v u _ I2 r1 r2 q2) λd s3 ⟨z,H3,I3,r3,k,e,q3⟩=>?_)) hm
 subst e
 cases r3
 refine wpAny_truthy_bool ?_
 cases k with
 | false=>
  obtain ⟨k',e',q'⟩:=q3
  cases e'
  exact ite_ff ⟨H3,I3,q'⟩
 | true=>
  refine ite_tt (test_last (aP (hc pins s3 σ H3 _ I3 q3) λw' s4 ⟨z',H4,I4,r4,q4⟩=>aP (jf pins s4 σ H4 y z' u w' _ I4 r2 r4 q4) λd' s5 ⟨z2,H5,I5,r5,k2,e2,q5⟩=>?_))
  subst e2
  cases r5
  exact wpAny_truthy_bool ⟨H5,I5,q5⟩
theorem lJ:(sizeLine:Nat)<2 ^ 63:=by rw [sizeLine_eq]; decide
theorem bQ:dH X (binaryOp .Add) (λx y H Q=>∃i j,x=.str i/\y=.str j/\i.length+j.length<=sizeLine/\Q (.str (i++j)) H):=by
 intro pins s σ H x y v u Q I rx ry h
 obtain ⟨i,j,rfl,rfl,hz,q⟩:=h
 obtain ⟨t,rfl⟩:=rx
 obtain ⟨t',rfl⟩:=ry
 exact add_str (λt' tk=>⟨.str (i++j),H,I.tok _,⟨_,rfl⟩,q⟩) hz
theorem vals1 {x:V}{us:List Value}(r:Vals [x] us):∃u,us=[u]/\RelV x u:=by
 cases r with
 | cons r1 r2=>cases r2; exact ⟨_,rfl,r1⟩
theorem vals2 {x y:V}{us:List Value}(r:Vals [x,y] us):∃u w',us=[u,w']/\RelV x u/\RelV y w':=by
 cases r with
 | cons r1 r2=>
  cases r2 with
  | cons r3 r4=>cases r4; exact ⟨_,_,rfl,r1,r3⟩
end
end L2
namespace L2
open PySem PySem.Spec PyProof.Rows
structure vD (h:Heap) (x dx C:Addr) (mA:Str->Option Value):Prop where
 obj:h.get? x=some (W.instObj C dx)
 ns:h.Ns1 dx mA
 ne:dx≠x
theorem D9 {h:Heap}{dx:Addr}{mA:Str->Option Value}(n:h.Ns1 dx mA):∃od,h.get? dx=some od/\∀name,W.lookIn name od=some (mA name):=by
 obtain ⟨o,es,ep,ho,hd,hk,_,hm⟩:=n
 refine ⟨o,ho,λname=>?_⟩
 have e:=hm name
 unfold nsFind findBy at e
 rw [← Array.find?_toList] at e
 unfold W.lookIn
 rw [hd]
 dsimp only
 split
 . rename_i y q
   rw [q] at e
   exact congrArg some e
 . rename_i q
   rw [q] at e
   have a:es.toList.any (·.refKey)=false:=by
    rw [List.any_eq_false]
    intro y hy
    obtain ⟨z,t,ou⟩:=hk y (Array.mem_toList_iff.mp hy)
    simp [DictEntry.refKey,ou]
   have a':¬ es.toList.any (·.refKey)=true:=by rw [a]; exact Bool.false_ne_true
   rw [if_neg a']
   exact congrArg some e
theorem vD.look {h:Heap}{x dx C:Addr}{mA:Str->Option Value}(I:vD h x dx C mA):∃od,W.InstAt h x (W.instObj C dx) C (some od)/\∀name,W.lookIn name od=some (mA name):=
 let ⟨od,ho,hl⟩:=D9 I.ns
 ⟨od,⟨I.obj,rfl,rfl,ho⟩,hl⟩
section
variable {prog:Program}{w:World}{A:Around}{E:Value->Shared->Prop}{s:Shared}{K:W.Frag}{x dx C f:Addr}{mA:Str->Option Value}{name:Str}{v:Value}
theorem get_map {expr:Bool}{Q:Value->Shared->Prop}(X:K.In s.heap) (I:vD s.heap x dx C mA) (hg:W.plainGet K C name=true) (hh:W.hasDictIn K C=true)
 (ha:W.findIn K (.ref C) name=some none) (hv:mA name=some v) (hv':W.handedIn v=true) (h:Q v { s with toks:=s.toks+1 }) :
 wpAny (model prog w) A (getAttr (.ref x) name expr) Q E s:=by
 obtain ⟨od,J,hl⟩:=I.look
 exact W.get_value X J (W.plainGet_of hg).1 (W.findObj_own hh ha rfl (by rw [hl,hv])) hv' h
theorem Ki {ns:List Str}{Q:Unit->Shared->Prop}(X:K.In s.heap) (I:vD s.heap x dx C mA)
 (hs:W.findIn K (.ref C) "__setattr__" = some (some (.builtin "object.__setattr__"))) (hp:W.plainOver K C=true) (ht:W.takerIn K C name=some none) (hh:W.hasDictIn K C=true)
 (hw:PySem.Within mA ns) (hsz:ns.length<=sizeLine)
 (h:∀h',vD h' x dx C (λy=>if y=name then some v else mA y)->Heap.SameBut dx s.heap h'->Q () { s with heap:=h',toks:=s.toks+2 }) :
 wpAny (model prog w) A (setAttr (.ref x) name v) Q E s:=by
 obtain ⟨od,J,hl⟩:=I.look
 refine W.set_plain X J hs (W.osa_open (s:={ s with toks:=s.toks+1 }) (r:=none) X J hp ht λb=>?_)
 obtain ⟨cd,hc,hd'⟩:=W.any_some hh
 have hx:s.heap.get? x=some ⟨.ref C,some dx,.plain,#[]⟩:=I.obj
 refine wpAny_bind (wpAny_pure (wpAny_bind (wpAny_bind (wpAny_loadPart hx (wpAny_bind (W.Looks.here (s:={ s with toks:=s.toks+1 }) (W.looks_clsIn X hc) ?_))))))
 rw [hd']
 refine wpAny_pure (a:=some dx) (wpAny_bind (wpAny_pure (wpAny_bind ?_)))
 refine wpAny_nsSet1 (s:={ s with toks:=s.toks+1 }) I.ns λh' gh jY=>?_
 obtain ⟨oD,esD,epD,hoD,hdD,hcD⟩:=gh.count (PySem.Within.cons name v hw)
 refine wpAny_bind (wpAny_lookBehind hoD (by rw [hdD]; exact pastItsLine_dict (Nat.le_trans hcD (by rw [List.length_cons]; omega))) ?_)
 exact wpAny_pure (h _ ⟨(jY.2 _ (Ne.symm I.ne)).trans I.obj,gh,I.ne⟩ jY)
theorem GH {R:Result->Shared->Prop}{vs:List Value}{kw:List (Str×Value)}(X:K.In s.heap) (hm:W.makesIn K C=true)
 (hi:W.findIn K (.ref C) "__init__" = some (some (.ref f))) (hf:W.typeIn K (.ref f)=some (.type "function"))
 (h:codeAny (model prog w) (A.under (.builtin "type.__call__" ⟨.ref C::vs,kw⟩)) (.call (.ref f) ⟨.ref (s.heap.objs.size+1)::vs,kw⟩) (W.InitBack (s.heap.objs.size+1) R)
  { s with heap:=(s.heap.push W.emptyDict).push (W.instObj C s.heap.objs.size) }) :
 codeAny (model prog w) A (.call (.ref C) ⟨vs,kw⟩) R s:=by
 obtain ⟨hh,g,d,t,os⟩:=s
 exact W.make_core (W.makes_of X hm) (W.looks_findIn X hi) (λself=>W.bind_fn X self hf) (.inl rfl) h
end
def bt (f:Str) (v:V):List (Str×V)->List (Str×V)
 | []=>[(f,v)]
 | (g,x)::r=>if g=f then (g,v)::r else (g,x)::bt f v r
theorem ba (f g:Str) (v:V):∀fs:List (Str×V),(bt f v fs).lookup g=if g=f then some v else fs.lookup g
 | []=>by
  show List.lookup g [(f,v)]=_
  by_cases h:g=f
  . have hb:(g == f)=true:=beq_iff_eq.mpr h
    simp only [List.lookup,hb,if_pos h]
  . have hb:(g == f)=false:=beq_eq_false_iff_ne.mpr h
    simp only [List.lookup,hb,if_neg h]
 | (k,x)::r=>by
  have ih:=ba f g v r
  rw [show bt f v ((k,x)::r)=(if k=f then (k,v)::r else (k,x)::bt f v r) from rfl]
  by_cases hk:k=f
  . rw [if_pos hk]
    by_cases h:g=k
    . have hb:(g == k)=true:=beq_iff_eq.mpr h
      simp only [List.lookup,hb,if_pos (h.trans hk)]
    . have hb:(g == k)=false:=beq_eq_false_iff_ne.mpr h
      simp only [List.lookup,hb,if_neg (λe:g=f=>h (e.trans hk.symm))]
  . rw [if_neg hk]
    by_cases h:g=k
    . have hb:(g == k)=true:=beq_iff_eq.mpr h
      simp only [List.lookup,hb,if_neg (λe:g=f=>hk (h.symm.trans e))]
    . have hb:(g == k)=false:=beq_eq_false_iff_ne.mpr h
      simp only [List.lookup,hb]
      exact ih
theorem pP (f:Str) (v:V):∀fs:List (Str×V),f∈(bt f v fs).map (·.1)/\∀g,g∈fs.map (·.1)->g∈(bt f v fs).map (·.1)
 | []=>⟨by simp [bt],λg h=>by simp at h⟩
 | (k,x)::r=>by
  obtain ⟨i1,i2⟩:=pP f v r
  rw [show bt f v ((k,x)::r)=(if k=f then (k,v)::r else (k,x)::bt f v r) from rfl]
  by_cases hk:k=f
  . rw [if_pos hk]
    subst hk
    exact ⟨by simp,λg h=>by simpa using h⟩
  . rw [if_neg hk]
    refine ⟨?_,λg h=>?_⟩
    . rw [List.map_cons]
      exact List.mem_cons_of_mem _ i1
    . rw [List.map_cons] at h ⊢
      rcases List.mem_cons.mp h with e | e
      . exact List.mem_cons.mpr (.inl e)
      . exact List.mem_cons_of_mem _ (i2 g e)
theorem mQ (f:Str) (v:V):∀fs:List (Str×V),(bt f v fs).length<=fs.length+1
 | []=>by simp [bt]
 | (k,x)::r=>by
  have ih:=mQ f v r
  rw [show bt f v ((k,x)::r)=(if k=f then (k,v)::r else (k,x)::bt f v r) from rfl]
  by_cases hk:k=f
  . rw [if_pos hk,List.length_cons,List.length_cons]; omega
  . rw [if_neg hk,List.length_cons,List.length_cons]; omega
theorem iu.some_of {v:V}{o:Option Value}(r:iu (some v) o):∃u,o=some u/\RelV v u:=by
 cases o with
 | none=>exact (show False from r).elim
 | some u=>exact ⟨u,rfl,r⟩
theorem Ea {v:V}{u:Value}(r:RelV v u):W.handedIn u=true:=by
 cases v with
 | aZ=>cases (show u=Value.none from r); rfl
 | bl b=>cases (show u=Value.bool b from r); rfl
 | int i=>obtain ⟨t,e⟩:=(show ∃t,u=Value.int i t from r); cases e; rfl
 | str x=>obtain ⟨t,e⟩:=(show ∃t,u=Value.str x t from r); cases e; rfl
 | m9 b=>obtain ⟨t,e⟩:=(show ∃t,u=Value.bytes b t from r); cases e; rfl
 | DU b=>obtain ⟨t,e⟩:=(show ∃t,u=Value.float b t from r); cases e; rfl
 | ref a=>cases (show u=Value.ref a from r); rfl
 | ty n=>cases (show u=Value.type n from r); rfl
section
variable {P:Program}{w:World}{H H':Hp}{h h':Heap}{a C dx:Addr}{fs fs':List (Str×V)}
theorem Bm (hok:eg P w H h) (e:H a=some (.ins C dx fs)):∃mA,vD h a dx C mA/\(∀f,iu (fs.lookup f) (mA f))/\PySem.Within mA (fs.map (·.1))/\fs.length<=1000/\H dx=some (.own a):=by
 obtain ⟨d,z,ne,ob,mA,n,r,q⟩:=(show cv P w H h a (.ins C dx fs) from hok a _ e)
 exact ⟨mA,⟨ob,n,ne⟩,r,q,z,d⟩
end
structure um (K:W.Frag) (C:Addr):Prop where
 pg:W.plainGet K C Str.empty=true
 hd:W.hasDictIn K C=true
 po:W.plainOver K C=true
 sa:W.findIn K (.ref C) "__setattr__" = some (some (.builtin "object.__setattr__"))
theorem um.get {K:W.Frag}{C:Addr}(c:um K C) (f:Str):W.plainGet K C f=true:=c.pg
def dZ (K:W.Frag) (C:Addr) (f:Str):Prop:=W.findIn K (.ref C) f=some none
theorem dZ.Qf {K:W.Frag}{C:Addr}{f:Str}(n:dZ K C f):W.takerIn K C f=some none:=by
 unfold W.takerIn
 rw [show W.findIn K (.ref C) f=some none from n]
 rfl
section
variable {X:Cx}{pins:List (Addr×Obj)}{σ:St}{H:Hp}{s:Shared}{a C dx:Addr}{fs:List (Str×V)}{f:Str}{v:V}{A:Around}{E:Value->Shared->Prop}
theorem Cz {b:Bool}{Q:Value->Shared->Prop}(I:Inv X pins σ H s) (e:H a=some (.ins C dx fs)) (c:um X.K C) (n:dZ X.K C f) (l:fs.lookup f=some v)
 (h:∀u s',Inv X pins σ H s'->RelV v u->Q u s'):wpAny (model X.prog X.w) A (getAttr (.ref a) f b) Q E s:=by
 obtain ⟨mA,O,r,_,_,_⟩:=Bm I.hok e
 obtain ⟨u,hu,ru⟩:=iu.some_of (v:=v) (o:=mA f) (by rw [← l]; exact r f)
 exact get_map I.o6 O (c.get f) c.hd n hu (Ea ru) (h u _ (I.tok _) ru)
theorem CA {y:V}{u:Value}{Q:Unit->Shared->Prop}(I:Inv X pins σ H s) (e:H a=some (.ins C dx fs)) (c:um X.K C) (n:dZ X.K C f) (hl:fs.length<1000) (ry:RelV y u)
 (h:∀s',Inv X pins σ (upd H a (.ins C dx (bt f y fs))) s'->Q () s'):wpAny (model X.prog X.w) A (setAttr (.ref a) f u) Q E s:=by
 obtain ⟨mA,O,r,wi,_,ho⟩:=Bm I.hok e
 have hz:(fs.map (·.1)).length<=sizeLine:=by rw [List.length_map,sizeLine_eq]; omega
 refine Ki I.o6 O c.sa c.po n.Qf c.hd wi hz λh' O' sb=>h _ ?_
 have hd:∃o,h'.get? dx=some o:=let ⟨o,_,_,e',_⟩:=O'.ns; ⟨o,e'⟩
 refine I.write (x:=a) (e:=dx) (by rw [e]; exact True.intro) (.inr ho) (λb q hb z=>(sb.2 b hb).trans z) hd ?_
 refine ⟨by rw [ag O.ne]; exact ho,?_,O.ne,O'.obj,_,O'.ns,λg=>?_,λg hg=>?_⟩
 . have:=mQ f y fs; omega
 . show iu ((bt f y fs).lookup g) (if g=f then some u else mA g)
   rw [ba]
   by_cases q:g=f
   . rw [if_pos q,if_pos q]; exact ry
   . rw [if_neg q,if_neg q]; exact r g
 . by_cases q:g=f
   . rw [q]; exact (pP f y fs).1
   . refine (pP f y fs).2 g (wi g λz=>hg ?_)
     show (if g=f then some u else mA g)=none
     rw [if_neg q]; exact z
theorem Inv.made (I:Inv X pins σ H s):Inv X pins σ (upd (upd H s.heap.objs.size (.own (s.heap.objs.size+1))) (s.heap.objs.size+1) (.ins C s.heap.objs.size []))
 { s with heap:=(s.heap.push W.emptyDict).push (W.instObj C s.heap.objs.size) }:=by
 have e1:(s.heap.push W.emptyDict).get? s.heap.objs.size=some W.emptyDict:=Heap.get?_push_size s.heap rfl
 have e2:((s.heap.push W.emptyDict).push (W.instObj C s.heap.objs.size)).get? (s.heap.objs.size+1)=some (W.instObj C s.heap.objs.size):=by
  have:=Heap.get?_push_size (s.heap.push W.emptyDict) (o:=W.instObj C s.heap.objs.size) rfl
  rwa [Heap.size_push] at this
 have e3:(s.heap.push W.emptyDict).Ns s.heap.objs.size (λ_=>none):=⟨W.emptyDict,#[],_,e1,rfl,(λe he=>absurd he (by simp)),λ_=>rfl⟩
 have I1:=I.laid (a:=s.heap.objs.size) (o:=.own (s.heap.objs.size+1)) (h':=s.heap.push W.emptyDict) (t':=s.toks) (λb u q=>Heap.get?_push_of_some _ q) (Nat.le_refl _) ⟨_,e1⟩
 refine I1.laid (a:=s.heap.objs.size+1) (o:=.ins C s.heap.objs.size []) (t':=s.toks) (λb u q=>Heap.get?_push_of_some _ q) (Nat.le_of_eq (Heap.size_push _ _)) ?_
 have ne:s.heap.objs.size≠s.heap.objs.size+1:=Nat.ne_of_lt (Nat.lt_succ_self _)
 refine ⟨by rw [ag ne,ae],Nat.zero_le _,ne,e2,λ_=>none,(Heap.Ns1.of_empty e3).at λo q=>Heap.get?_push_of_some _ q,λ_=>True.intro,λy hy=>absurd rfl hy⟩
theorem Kj {prog:Program}{w:World}{env:Env}{e:Expr}{f:Str}{pos:Pos}{s:Shared}{Q:Value->Shared->Prop}(hb:attributeBase e f env (eval e env)=eval e env)
 (h:wpAny (model prog w) A (eval e env) (λo di=>wpAny (model prog w) A (getAttr o f true) Q E di) E s):wpAny (model prog w) A (eval (.Attribute e f pos) env) Q E s:=
 Attribute_any_ h (by rw [arm_eval_Attribute,hb])
end
def Uy (K:W.Frag) (ta:TE) (f:Str):TE:=λσ H Q=>ta σ H λx H1=>∃a C dx fs v,x=.ref a/\H1 a=some (.ins C dx fs)/\um K C/\dZ K C f/\fs.lookup f=some v/\Q v H1
def Uz (K:W.Frag) (ta tv:TE) (f:Str):TS:=λD σ H=>tv σ H λy H1=>ta σ H1 λx H2=>∃a C dx fs,x=.ref a/\H2 a=some (.ins C dx fs)/\um K C/\dZ K C f/\fs.length<1000/\
 D.nx σ (upd H2 a (.ins C dx (bt f y fs)))
section
variable {X:Cx}{o e value:Expr}{f:Str}{pos pos' UA:Pos}{ta tv:TE}
theorem b9 (he:PE X e ta) (hb:attributeBase e f X.env (eval e X.env)=eval e X.env):PE X (.Attribute e f pos) (Uy X.K ta f):=by
 intro pins s σ H Q I h
 refine Kj hb (aP (he pins s σ H _ I h) λu s1 ⟨x,H1,I1,rx,a,C,dx,fs,v,ex,ea,c,n,l,q⟩=>?_)
 subst ex
 obtain rfl:u=Value.ref a:=rx
 exact Cz I1 ea c n l λu' s2 I2 ru=>⟨v,H1,I2,ru,q⟩
theorem nq (ha:PE X o ta) (hv:PE X value tv) (hs:swapsWith value (some (.Attribute o f pos')) pos.line X.env=pure false):PS X (.Assign [.Attribute o f pos'] value pos) (Uz X.K ta tv f):=by
 intro pins s σ H D I h
 refine plainObj_wpAny_Assign_Attribute (aP (hv pins s σ H _ I h) λu s1 ⟨y,H1,I1,ry,q⟩=>aP (ha pins s1 σ H1 _ I1 q) λov s2 ⟨x,H2,I2,rx,a,C,dx,fs,ex,ea,c,n,l,q2⟩=>?_) hs
 subst ex
 obtain rfl:ov=Value.ref a:=rx
 exact CA I2 ea c n l ry λs3 I3=>⟨σ,_,I3,q2⟩
end
section
variable {X:Cx}{pins:List (Addr×Obj)}{σ:St}{H:Hp}{s:Shared}{A:Around}{E:Value->Shared->Prop}{Q:Value->Shared->Prop}{c:Value}{b:Bool}
end
end L2
namespace L2
open PySem PySem.Spec PyProof.Rows
structure aX (k:Nat) (A:Around):Prop where
 hd:A.handled=none
 dp:A.depth+3*k+5<recursionLimit
 un:A.units+16*k+200<cLine
theorem aX.mono {j k:Nat}{A:Around}(r:aX k A) (h:j<=k):aX j A:=⟨r.hd,by have:=r.dp; omega,by have:=r.un; omega⟩
theorem aX.deeper {k:Nat}{A:Around}(r:aX (k+1) A) (env:Env):aX k (A.deeper env):=
 ⟨r.hd,by have:=r.dp; show A.depth+1+3*k+5<_; omega,by have:=r.un; show A.units+3+16*k+200<_; omega⟩
theorem CB {A:Around}{C:Addr}{us:List Value}{kw:List (Str×Value)} : (A.under (.builtin "type.__call__" ⟨.ref C::us,kw⟩)).depth=A.depth+1:=by
 first | rfl | simp [Around.under,Code.weight,Code.isCreation,Code.isGuard,Code.isCaller,Code.frames,Code.isFrame,guardIds]
theorem CC {A:Around}{C:Addr}{us:List Value}{kw:List (Str×Value)} : (A.under (.builtin "type.__call__" ⟨.ref C::us,kw⟩)).units=A.units+1:=by
 first | rfl | simp [Around.under,Code.cUnits,Code.frames,Code.isFrame]
theorem aX.make {k:Nat}{A:Around}(r:aX (k+1) A) (C:Addr) (us:List Value) (kw:List (Str×Value)):aX k (A.under (.builtin "type.__call__" ⟨.ref C::us,kw⟩)):=
 ⟨r.hd,by have:=r.dp; rw [CB]; omega,by have:=r.un; rw [CC]; omega⟩
theorem aX.depth {k:Nat}{A:Around}(r:aX k A):A.depth<recursionLimit:=by have:=r.dp; omega
theorem aX.units {k:Nat}{A:Around}(r:aX k A):A.units+64<cLine:=by have:=r.un; omega
def CD:TA:=λ_ H Q=>Q [] H
def yj (ta:TE) (tr:TA):TA:=λσ H Q=>ta σ H λx H1=>tr σ H1 λxs H2=>Q (x::xs) H2
section
variable {X:Cx}{e:Expr}{es:List Expr}{te:TE}{t:TA}{pos:Pos}
theorem ah:PA X [] CD:=λ_ _ _ _ H Q I h=>Calls.spliced_nil ⟨[],H,I,.nil,h⟩
theorem aa (ha:PE X e te) (hr:PA X es t) (hs:starEach (e::es) X.env=(false,eval e X.env)::starEach es X.env:=by rfl):PA X (e::es) (yj te t):=by
 intro pos pins s σ H Q I h
 rw [hs]
 show wpAny _ _ (spliced ((false,eval e X.env)::backTo pos (starEach es X.env))) _ _ s
 refine Calls.spliced_cons (aP (ha pins s σ H _ I h) λu s1 ⟨x,H1,I1,r1,q1⟩=>?_)
 exact aP (hr pos pins s1 σ H1 _ I1 q1) λus s2 ⟨xs,H2,I2,r2,q2⟩=>⟨x::xs,H2,I2,.cons r1 r2,q2⟩
def LY (t:TA):TE:=λσ H Q=>t σ H λxs H1=>xs.length<=sizeLine/\∀p,H1 p=none->Q (.ref p) (upd H1 p (.tup xs))
def UB (t:TA):TE:=λσ H Q=>t σ H λxs H1=>xs.length<=sizeLine/\∀p,H1 p=none->Q (.ref p) (upd H1 p (.lst xs))
theorem dm {x1} (h:PA X es t):PE X (.Tuple es x1 pos) (LY t):=by
 intro pins s σ H Q I hq
 refine wpAny_Tuple_spliced (aP (h pos pins s σ H _ I hq) λus s1 ⟨xs,H1,I1,r,z,q⟩=>⟨by rw [← r.length]; exact z,?_⟩)
 have hf:H1 s1.heap.objs.size=none:=I1.hok.fresh (Nat.le_refl _)
 refine ⟨.ref s1.heap.objs.size,upd H1 s1.heap.objs.size (.tup xs),I1.laid (t':=s1.toks) (λb u e=>Heap.get?_push_of_some _ e) (Nat.le_refl _) ?_,rfl,q _ hf⟩
 exact ⟨z,us,r,⟨_,Heap.get?_push_size _ rfl,rfl,_,rfl⟩⟩
theorem cg (h:PA X es t):PE X (.List es pos) (UB t):=by
 intro pins s σ H Q I hq
 refine wpAny_List_spliced (aP (h pos pins s σ H _ I hq) λus s1 ⟨xs,H1,I1,r,z,q⟩=>⟨by rw [← r.length]; exact z,?_⟩)
 have hf:H1 s1.heap.objs.size=none:=I1.hok.fresh (Nat.le_refl _)
 refine ⟨.ref s1.heap.objs.size,upd H1 s1.heap.objs.size (.lst xs),I1.laid (t':=s1.toks) (λb u e=>Heap.get?_push_of_some _ e) (Nat.le_refl _) ?_,rfl,q _ hf⟩
 exact ⟨z,us,0,r,Heap.get?_push_size _ rfl⟩
end
abbrev Sp:=List V->Hp->VK->XK->Prop
abbrev pQ:=List Env->Hp->Shared->XK->Value->Shared->Prop
structure sE (P:Program) (w:World) (K:W.Frag) (mg:Str->Option Value) (base:Heap) (A:Around) (outer:List Env) (s:Shared) (H:Hp):Prop where
 frames:A.frames=some outer
 mod:Mod K mg base
 bs:∀b o,base.get? b=some o->s.heap.get? b=some o/\H b=none
 bsz:base.objs.size<=s.heap.objs.size
 ko:s.heap.FunFrames base outer
 frf:∀b∈oZ outer,H b=none
 hok:eg P w H s.heap
 bare:AllBare s.gens
def CE (outer:List Env) (P:Program) (w:World) (H:Hp) (s:Shared) (Q:VK) (u:Value) (s':Shared):Prop:=
 ∃v H',s'.os=s.os/\AllBare s'.gens/\Un (oZ outer) [] H H' s.heap s'.heap/\eg P w H' s'.heap/\RelV v u/\Q v H'
def CR (CX:pQ) (outer:List Env) (P:Program) (w:World) (H:Hp) (s:Shared) (Q:VK) (E:XK) (r:Result) (s':Shared):Prop:=
 match r with
 | .ok (.ret u)=>CE outer P w H s Q u s'
 | .ok _=>False
 | .error e=>CX outer H s E e s'
structure av (P:Program) (w:World) (K:W.Frag) (mg:Str->Option Value) (base:Heap) (CX:pQ) (k:Nat) (f:Addr) (fd:FuncData) (ps:List Str) (sp:Sp):Prop where
 len:∀vs H Q E,sp vs H Q E->vs.length=ps.length
 run:∀(A:Around) (outer:List Env) (s:Shared) (H:Hp) (args:Args) (us:List Value) (vs:List V) (Q:VK) (E:XK),aX k A->sE P w K mg base A outer s H->BindsTo s fd args (ps.zip us)->Vals vs us->sp vs H Q E->
  codeAny (model P w) A (.call (.ref f) args) (CR CX outer P w H s Q E) s
theorem sE.make {P:Program}{w:World}{K:W.Frag}{mg:Str->Option Value}{base:Heap}{A:Around}{outer:List Env}{s:Shared}{H:Hp}(e:sE P w K mg base A outer s H) (C:Addr) (us:List Value) (kw:List (Str×Value)) :
 sE P w K mg base (A.under (.builtin "type.__call__" ⟨.ref C::us,kw⟩)) outer s H:=⟨by first | exact e.frames | (simpa [Around.under,Code.envs,Code.isFrame,pushEnvs] using e.frames),e.mod,e.bs,e.bsz,e.ko,e.frf,e.hok,e.bare⟩
section
variable {X:Cx}{pins:List (Addr×Obj)}{σ:St}{H:Hp}{s s':Shared}
theorem Inv.LZ (I:Inv X pins σ H s):sE X.prog X.w X.K X.mg X.base X.A X.stack s H:=
 ⟨I.ok.frames,I.ok.mod,I.bs,Nat.le_trans I.ok.bsz I.sz,I.stack,I.Bd,I.hok,I.bare⟩
theorem Inv.after {Q:VK}{u:Value}(I:Inv X pins σ H s) (h:CE X.stack X.prog X.w H s Q u s'):EP X pins σ Q u s':=by
 obtain ⟨v,H',os,bare,un,hok,r,q⟩:=h
 obtain ⟨hh,g,d,t,os'⟩:=s'
 obtain rfl:os'=s.os:=os
 exact ⟨v,H',I.call (h':=hh) (g':=g) (d':=d) (t':=t) (ch:=[]) un hok bare (λb z=>absurd z (by simp)),r,q⟩
end
def Qg (sp:Sp) (lK:List V) (E:XK) (t:TA):TE:=λσ H Q=>t σ H λvs H1=>sp (vs++lK) H1 Q E
def Qh (C:Addr) (sp:Sp) (lK:List V) (E:XK) (t:TA):TE:=λσ H Q=>t σ H λvs H1=>∀x dx,H1 x=none->H1 dx=none->dx≠x->
 sp (.ref x::(vs++lK)) (upd (upd H1 dx (.own x)) x (.ins C dx [])) (λv H2=>v=.aZ/\Q (.ref x) H2) E
def Binds (K:W.Frag) (fd:FuncData) (ps:List Str) (ds:List Value):Prop:=
 ∀(s:Shared) (us:List Value),K.In s.heap->(us++ds).length=ps.length->BindsTo s fd ⟨us,[]⟩ (ps.zip (us++ds))
theorem Binds.all {K:W.Frag}{fd:FuncData}{ps:List Str}(h:∀us:List Value,us.length=ps.length->bindArgs fd ⟨us,[]⟩=pure (ps.zip us)):Binds K fd ps []:=λs us _ hl=>by
 rw [List.append_nil] at hl ⊢
 exact .of_eq (h us hl)
def Passes (CX:pQ) (X:Cx) (E:XK):Prop:=∀(pins:List (Addr×Obj)) (σ:St) (H:Hp) (s:Shared) (e:Value) (s':Shared),Inv X pins σ H s->CX X.stack H s E e s'->X.xe e s'
section
variable {X:Cx}{CX:pQ}{k:Nat}{f C:Addr}{fd:FuncData}{ps:List Str}{sp:Sp}{lK:List V}{ds:List Value}{E:XK}{x m:Str}{p pos apos:Pos}{e o:Expr}{es:List Expr}{ta:TE}{t:TA}
theorem L0 {pins:List (Addr×Obj)}{σ:St}{H:Hp}{s:Shared}{Q:VK}{us:List Value}{vs:List V}(F:av X.prog X.w X.K X.mg X.base CX k f fd ps sp) (hr:aX k X.A) (hb:Binds X.K fd ps ds) (hd:Vals lK ds) (hx:Passes CX X E)
 (I:Inv X pins σ H s) (r:Vals vs us) (h:sp (vs++lK) H Q E):wpAny (model X.prog X.w) X.A (call (.ref f) us) (EP X pins σ Q) X.xe s:=by
 have r2:Vals (vs++lK) (us++ds):=r.append hd
 have hl:(us++ds).length=ps.length:=by rw [← r2.length]; exact F.len _ _ _ _ h
 refine wpAny_call (codeAny_mono (F.run X.A X.stack s H ⟨us,[]⟩ (us++ds) (vs++lK) Q E hr I.LZ (hb s us I.o6 hl) r2 h) λr s' hq=>?_)
 cases r with
 | error e=>exact hx pins σ H s e s' I hq
 | ok fl=>
  cases fl with
  | ret u=>exact I.after hq
  | next=>exact False.elim hq
  | brk=>exact False.elim hq
  | cont=>exact False.elim hq
theorem aw (F:av X.prog X.w X.K X.mg X.base CX k f fd ps sp) (hr:aX k X.A) (hg:Gl X x) (hm:X.mg x=some (.ref f)) (hk:W.keepIn X.K (.ref f)=true) (hb:Binds X.K fd ps ds) (hd:Vals lK ds) (hx:Passes CX X E)
 (ha:PA X (e::es) t) (yH:(x == ("__debug__" : Str))=false:=by decide) (he:starEach (e::es) X.env=(false,eval e X.env)::starEach es X.env:=by rfl) (mm:(backTo pos (starEach es X.env)).any (·.1)=false:=by rfl) :
 PE X (.Call (.Name x p) (e::es) [] pos) (Qg sp lK E t):=by
 intro pins s σ H Q I h
 refine wpAny_Call_Name_kw (vB I hg hm ?_ yH)
 refine W.callWith_K (h₀:=X.base) I.ok.mod.kin hk (aP (ha pos pins s σ H _ I h) λus s1 ⟨vs,H1,I1,r,q⟩=>⟨I1.o6,?_⟩) he mm
 exact L0 F hr hb hd hx I1 r q
structure Mk (K:W.Frag) (C f:Addr):Prop where
 makes:W.makesIn K C=true
 init:W.findIn K (.ref C) "__init__" = some (some (.ref f))
 fn:W.isFn K (.ref f)=true
 kp:W.keepIn K (.ref C)=true
theorem GJ {pins:List (Addr×Obj)}{σ:St}{H:Hp}{s:Shared}{Q:VK}{us:List Value}{vs:List V}(M:Mk X.K C f) (F:av X.prog X.w X.K X.mg X.base CX k f fd ps sp) (hr:aX (k+1) X.A) (hb:Binds X.K fd ps ds) (hd:Vals lK ds)
 (hx:Passes CX X E) (I:Inv X pins σ H s) (r:Vals vs us)
 (h:∀x dx,H x=none->H dx=none->dx≠x->sp (.ref x::(vs++lK)) (upd (upd H dx (.own x)) x (.ins C dx [])) (λv H2=>v=.aZ/\Q (.ref x) H2) E) :
 wpAny (model X.prog X.w) X.A (call (.ref C) us) (EP X pins σ Q) X.xe s:=by
 have hq:=h (s.heap.objs.size+1) s.heap.objs.size (I.hok.fresh (Nat.le_succ _)) (I.hok.fresh (Nat.le_refl _)) (Nat.ne_of_lt (Nat.lt_succ_self _))
 have I2:=Inv.made (C:=C) I
 have r2:Vals (V.ref (s.heap.objs.size+1)::(vs++lK)) (Value.ref (s.heap.objs.size+1)::(us++ds)):=.cons rfl (r.append hd)
 have hl:(Value.ref (s.heap.objs.size+1)::us++ds).length=ps.length:=by
  have e:=r2.length
  rw [F.len _ _ _ _ hq] at e
  exact e.symm
 refine wpAny_call (GH (f:=f) I.o6 M.makes M.init (beq_iff_eq.mp M.fn) (codeAny_mono (F.run _ X.stack _ _ ⟨Value.ref (s.heap.objs.size+1)::us,[]⟩ (Value.ref (s.heap.objs.size+1)::(us++ds)) _ _ E (hr.make C us [])
  (I2.LZ.make C us []) (hb _ (Value.ref (s.heap.objs.size+1)::us) I2.o6 hl) r2 hq) λr s' pR=>?_))
 cases r with
 | error e=>exact hx pins σ _ _ e s' I2 pR
 | ok fl=>
  cases fl with
  | ret u=>
   obtain ⟨v,H',I3,rv,ev,q3⟩:=I2.after pR
   subst ev
   exact ⟨rv,⟨V.ref (s.heap.objs.size+1),H',I3,rfl,q3⟩⟩
  | next=>exact False.elim pR
  | brk=>exact False.elim pR
  | cont=>exact False.elim pR
theorem Kk (M:Mk X.K C f) (F:av X.prog X.w X.K X.mg X.base CX k f fd ps sp) (hr:aX (k+1) X.A) (hg:Gl X x) (hm:X.mg x=some (.ref C)) (hb:Binds X.K fd ps ds) (hd:Vals lK ds) (hx:Passes CX X E)
 (ha:PA X (e::es) t) (yH:(x == ("__debug__" : Str))=false:=by decide) (he:starEach (e::es) X.env=(false,eval e X.env)::starEach es X.env:=by rfl) (mm:(backTo pos (starEach es X.env)).any (·.1)=false:=by rfl) :
 PE X (.Call (.Name x p) (e::es) [] pos) (Qh C sp lK E t):=by
 intro pins s σ H Q I h
 refine wpAny_Call_Name_kw (vB I hg hm ?_ yH)
 refine W.callWith_K (h₀:=X.base) I.ok.mod.kin M.kp (aP (ha pos pins s σ H _ I h) λus s1 ⟨vs,H1,I1,r,q⟩=>⟨I1.o6,?_⟩) he mm
 exact GJ M F hr hb hd hx I1 r q
end
section
variable {X:Cx}{CX:pQ}{k:Nat}{f C:Addr}{fd:FuncData}{ps ks:List Str}{sp:Sp}{E:XK}{x m:Str}{p pos apos ago:Pos}{e o:Expr}{es:List Expr}{kws:List Keyword}{te ta:TE}{t tk:TA}{nm:Option Str}
variable {g:List Value->List Value->List Value}{gV:List V->List V->List V}
end
structure aO (N P:List Str) (sc:Scope):Prop where
 kind:sc.kind=.function
 co:sc.isCoroutine=false
 gen:sc.isGenerator=false
 nd:N.Nodup
 pre:N.take P.length=P
 par:∀x∈P,sc.names.lookup x=some .local\/sc.names.lookup x=some .cell
 nofree:∀y∈sc.names,y.2≠.free
theorem wA {kindOf:Str->Option NameKind}{x:Str} : ∀{binds:List (Str×Value)}{m:Str->Option Value},(∀v,(x,v)∉binds)->bindL kindOf binds m x=m x
 | [],_,_=>rfl
 | (n,v)::r,m,h=>by
  unfold bindL
  rw [wA λw hw=>h w (List.mem_cons_of_mem _ hw)]
  split
  . have:x≠n:=by rintro rfl; exact h v List.mem_cons_self
    simp [this]
  . rfl
theorem wB {kindOf:Str->Option NameKind}{x:Str} : ∀{binds:List (Str×Value)}{m:Str->Option Value},(∀v,(x,v)∉binds)->bindC kindOf binds m x=m x
 | [],_,_=>rfl
 | (n,v)::r,m,h=>by
  unfold bindC
  rw [wB λw hw=>h w (List.mem_cons_of_mem _ hw)]
  split
  . rfl
  . have:x≠n:=by rintro rfl; exact h v List.mem_cons_self
    simp [this]
theorem wC {kindOf:Str->Option NameKind}{x:Str}{v:Value} : ∀{P:List Str}{vs:List Value}{i:Nat}{m:Str->Option Value},P.Nodup->P[i]?=some x->vs[i]?=some v->kindOf x=some .local->
 bindL kindOf (P.zip vs) m x=some v
 | [],_,_,_,_,h,_,_=>by simp at h
 | _::_,[],_,_,_,_,h,_=>by simp at h
 | p::P,w::vs,0,m,nd,h1,h2,hk=>by
  simp at h1 h2; subst h1; subst h2
  show bindL kindOf ((p,w)::P.zip vs) m p=_
  unfold bindL
  rw [wA λv hv=>(List.nodup_cons.mp nd).1 (List.of_mem_zip hv).1,if_pos hk]
  simp
 | p::P,w::vs,i+1,m,nd,h1,h2,hk=>by
  show bindL kindOf ((p,w)::P.zip vs) m x=_
  unfold bindL
  exact wC (i:=i) (List.nodup_cons.mp nd).2 (by simpa using h1) (by simpa using h2) hk
theorem wD {kindOf:Str->Option NameKind}{x:Str}{v:Value} : ∀{P:List Str}{vs:List Value}{i:Nat}{m:Str->Option Value},P.Nodup->P[i]?=some x->vs[i]?=some v->kindOf x≠some .local->
 bindC kindOf (P.zip vs) m x=some v
 | [],_,_,_,_,h,_,_=>by simp at h
 | _::_,[],_,_,_,_,h,_=>by simp at h
 | p::P,w::vs,0,m,nd,h1,h2,hk=>by
  simp at h1 h2; subst h1; subst h2
  show bindC kindOf ((p,w)::P.zip vs) m p=_
  unfold bindC
  rw [wB λv hv=>(List.nodup_cons.mp nd).1 (List.of_mem_zip hv).1,if_neg hk]
  simp
 | p::P,w::vs,i+1,m,nd,h1,h2,hk=>by
  show bindC kindOf ((p,w)::P.zip vs) m x=_
  unfold bindC
  exact wD (i:=i) (List.nodup_cons.mp nd).2 (by simpa using h1) (by simpa using h2) hk
def start (N:List Str) (vs:List V):St:=vs.map some++List.replicate (N.length-vs.length) none
def iR (CX:pQ) (P:Program) (w:World) (K:W.Frag) (mg:Str->Option Value) (base:Heap) (N:List Str) (qual:Str) (scope:Scope) (f:Addr) (cd:Value) (A:Around) (outer:List Env) (s:Shared) (H:Hp) (E:XK):Cx where
 prog:=P
 w:=w
 K:=K
 mg:=mg
 base:=base
 A:=A.deeper (envOfC qual scope s.heap.objs.size f cd)
 N:=N
 kj:=s
 LI:=H
 env:=envOfC qual scope s.heap.objs.size f cd
 outer:=outer
 stack:=envOfC qual scope s.heap.objs.size f cd::outer
 ex:=[]
 calm:=true
 fn:=λ_=>true
 pn:=[]
 xe:=λe s'=>wpAny (model P w) (A.deeper (envOfC qual scope s.heap.objs.size f cd)) (leaving (envOfC qual scope s.heap.objs.size f cd) e) (λ_ Eb=>CX outer H s E e Eb) (λe' Eb=>CX outer H s E e' Eb) s'
theorem yI {sc:Scope}{n:Nat}{x:Str}(h:sc.names.lookup x=some .cell):∃c,(cellsFrom n sc.names []).lookup x=some c:=by
 have q:=W.cellsFrom_some sc.names n [] (.inl h)
 exact Option.isSome_iff_exists.mp q
theorem Ec {CX:pQ}{P:Program}{w:World}{K:W.Frag}{mg:Str->Option Value}{base:Heap}{N ps:List Str}{qual:Str}{scope:Scope}{f:Addr}{cd:Value}{A:Around}{outer:List Env}{s s1:Shared}{H:Hp}{E:XK}{us:List Value}{vs:List V}
 (S:aO N ps scope) (hd:A.handled=none) (e0:sE P w K mg base A outer s H) (hl:vs.length=ps.length) (r:Vals vs us)
 (x:InCallC s s.heap.objs.size (bindL (envOfC qual scope s.heap.objs.size f cd).kindOf (ps.zip us) λ_=>none) (cellsFrom (s.heap.objs.size+1) scope.names []) (bindC (envOfC qual scope s.heap.objs.size f cd).kindOf (ps.zip us) λ_=>none) s1) :
 Inv (iR CX P w K mg base N qual scope f cd A outer s H E) [] (start N vs) H s1:=by
 have mm:ps.length<=N.length:=by have:=congrArg List.length S.pre; rw [List.length_take] at this; omega
 obtain ⟨h1,tk,rfl,hk⟩:=x.done
 have Ed:∀b:Addr,b∉(iR CX P w K mg base N qual scope f cd A outer s H E).ex:=λb z=>absurd (show b∈([]:List Addr) from z) (by simp)
 refine ⟨⟨e0.mod,S.kind,rfl,rfl,Nat.le_refl _,λy z c h1 h2=>?_,λy hy=>?_,λy c _ h=>?_,λ_=>hd,Around.frames_deeper e0.frames,.inr ⟨rfl,rfl⟩,λb z=>absurd z (Ed b),e0.bs,e0.bsz,λb _ _=>Ed b,λb z=>absurd z (Ed b),e0.ko,e0.frf⟩,
  rfl,e0.bare,Un.kept hk,⟨_,x.toInCall.ns,λi y v h1 h2 h3=>?_⟩,λy c h=>⟨_,x.cell y c h⟩,e0.hok.fresh (Nat.le_refl _),λy c h=>?_,λp hp=>absurd (show p∈([]:List (Addr×Obj)) from hp) (by simp),e0.hok.kept hk,?_⟩
 . exact name_of_addr x.apart (PySem.mem_of_lookup h1) (PySem.mem_of_lookup h2)
 . have hy:scope.names.lookup y=some .cell\/scope.names.lookup y=some .free:=hy
   rcases hy with hy | hy
   . exact yI hy
   . exact absurd rfl (S.nofree _ (PySem.mem_of_lookup hy))
 . exact Nat.le_of_lt (x.above y c (PySem.mem_of_lookup h))
 . have hi:i<vs.length:=by
    unfold start at h2
    by_cases hi:i<vs.length
    . exact hi
    . rw [List.getElem?_append_right (by simpa using hi)] at h2
      rw [List.getElem?_replicate] at h2
      split at h2 <;> cases h2
   have ha:vs[i]?=some v:=by
    unfold start at h2
    rw [List.getElem?_append_left (by simpa using hi),List.getElem?_map] at h2
    cases e:vs[i]? with
    | none=>rw [e] at h2; cases h2
    | some a=>rw [e] at h2; cases h2; rfl
   obtain ⟨u,hu,rv⟩:=r.get ha
   have hp:ps[i]?=some y:=by
    rw [← S.pre,List.getElem?_take_of_lt (by omega)]; exact h1
   have Ry:ps.Nodup:=by rw [← S.pre]; exact S.nd.sublist (List.take_sublist _ _)
   refine ⟨u,rv,?_⟩
   rcases S.par y (List.mem_of_getElem? hp) with k | k
   . exact .inl ⟨k,wC Ry hp hu k⟩
   . obtain ⟨c,e⟩:=yI (n:=s.heap.objs.size+1) k
     refine .inr ⟨.inl k,c,e,?_⟩
     have q:=x.cell y c e
     rw [wD Ry hp hu (by show scope.names.lookup y≠_; rw [k]; decide)] at q
     exact q
 . exact e0.hok.fresh (Nat.le_of_lt (x.above y c (PySem.mem_of_lookup h)))
 . unfold start
   show _=N.length
   rw [List.length_append,List.length_map,List.length_replicate]
   omega
theorem Qi {CX:pQ}{P:Program}{w:World}{K:W.Frag}{mg:Str->Option Value}{base:Heap}{k:Nat}{f:Addr}{name qual:Str}{params:Arguments}{body:List Stmt}{scope:Scope}{dV kV doc pm cdv ct oc:Value}{an od:Option Addr}
 {wF:Array (Option Value)}{N ps:List Str}{sp:Sp}(lk:K.lookup f=some ⟨oc,od,.func (W.fnOf name qual params body scope dV kV doc pm an cdv ct),wF⟩) (ng:W.codeIn K cdv qual=true) (S:aO N ps scope)
 (len:∀vs H Q E,sp vs H Q E->vs.length=ps.length)
 (CF:∀(A:Around) (outer:List Env) (s:Shared) (H:Hp) (vs:List V) (Q:VK) (E:XK),aX k (A.deeper (envOfC qual scope s.heap.objs.size f cdv))->sp vs H Q E->
  ∃t,gx (iR CX P w K mg base N qual scope f cdv A outer s H E) body t/\t { nx:=λ_ H'=>Q .aZ H',rt:=Q } (start N vs) H) :
 av P w K mg base CX (k+1) f (W.fnOf name qual params body scope dV kV doc pm an cdv ct) ps sp:=by
 refine ⟨len,λA outer s H args us vs Q E hr e0 hb r lL=>?_⟩
 have hl:=len _ _ _ _ lL
 have KX:K.In s.heap:=e0.mod.kin.keeps λb o e=>(e0.bs b o e).1
 have lim:s.heap.NoLimit:=e0.mod.nolimit.keeps λb o e=>(e0.bs b o e).1
 have Qj:∀y∈ps.zip us,scope.names.lookup y.1=some .local\/(scope.names.lookup y.1=some .cell/\((cellsFrom (s.heap.objs.size+1) scope.names []).lookup y.1).isSome=true):=λ⟨n,v⟩ hy=>by
  rcases S.par n (List.of_mem_zip hy).1 with q | q
  . exact .inl q
  . exact .inr ⟨q,W.cellsFrom_some _ _ _ (.inl q)⟩
 refine codeAny_call_function hr.depth (KX _ _ lk) rfl S.co S.gen rfl (W.codeRec_of KX ng) (hb _ _ _ _ ?_)
 refine wpAny_newFunctionEnv_cells S.kind Qj λenv he s1 x=>?_
 subst he
 refine ⟨lim.keeps x.toInCall.keep,codeAny_func ?_⟩
 obtain ⟨t,ht,hq⟩:=CF A outer s H vs Q E (hr.deeper _) lL
 have I:Inv (iR CX P w K mg base N qual scope f cdv A outer s H E) [] (start N vs) H s1:=Ec S hr.hd e0 hl r x
 refine wpAny_mono (ht [] s1 (start N vs) H _ I hq) (λfl s' hs=>?_) λe s' hs=>hs
 have fin:∀{bu:St}{H':Hp}{v:V}{u:Value},Inv (iR CX P w K mg base N qual scope f cdv A outer s H E) [] bu H' s'->RelV v u->Q v H'->CE outer P w H s Q u s':=
  λ{bu H' v u} J rv q=>⟨v,H',J.os,J.bare,J.base,J.hok,rv,q⟩
 cases fl with
 | ret u=>
  obtain ⟨v,bu,H',J,rv,q⟩:=hs
  exact fin J rv q
 | next=>
  obtain ⟨bu,H',J,q⟩:=hs
  exact fin (v:=V.aZ) (u:=Value.none) J rfl q
 | brk=>
  obtain ⟨_,_,_,q⟩:=hs
  exact False.elim q
 | cont=>
  obtain ⟨_,_,_,q⟩:=hs
  exact False.elim q
end L2
namespace L2
open PySem PySem.Spec PyProof.Rows
section
variable {X:Cx}{x:Str}{p pos:Pos}{e:Expr}{es:List Expr}{t:TA}{id T:String}{r:List V->Hp->VK->Prop}
def L1 (r:List V->Hp->VK->Prop) (t:TA):TE:=λσ H Q=>t σ H λvs H1=>r vs H1 Q
theorem bb (hc:fX X (.builtin id) r) (hg:Gl X x) (hm:X.mg x=none) (hv:bootBuiltins x=some (.builtin id)) (ha:PA X (e::es) t) (hn:x ≠ "__name__":=by decide) (yH:(x == ("__debug__" : Str))=false:=by decide)
 (he:starEach (e::es) X.env=(false,eval e X.env)::starEach es X.env:=by rfl) (mm:(backTo pos (starEach es X.env)).any (·.1)=false:=by rfl):PE X (.Call (.Name x p) (e::es) [] pos) (L1 r t):=by
 intro pins s σ H Q I h
 refine wpAny_Call_Name_kw (iC I hg hm hv ?_ hn yH)
 exact PyProof.Rows.callWith_builtin1 (aP (ha pos pins s σ H _ I h) λus s1 ⟨vs,H1,I1,r1,q1⟩=>hc pins s1 σ H1 vs us Q I1 r1 q1) he mm
theorem c6 (hc:fX X (.type T) r) (hg:Gl X x) (hm:X.mg x=none) (hv:bootBuiltins x=some (.type T)) (ha:PA X (e::es) t) (hn:x ≠ "__name__":=by decide) (yH:(x == ("__debug__" : Str))=false:=by decide)
 (he:starEach (e::es) X.env=(false,eval e X.env)::starEach es X.env:=by rfl) (mm:(backTo pos (starEach es X.env)).any (·.1)=false:=by rfl):PE X (.Call (.Name x p) (e::es) [] pos) (L1 r t):=by
 intro pins s σ H Q I h
 refine wpAny_Call_Name_kw (iC I hg hm hv ?_ hn yH)
 exact PyProof.Rows.callWith_type1 (aP (ha pos pins s σ H _ I h) λus s1 ⟨vs,H1,I1,r1,q1⟩=>hc pins s1 σ H1 vs us Q I1 r1 q1) he mm
end
end L2
namespace L2
open PySem PySem.Spec PyProof.Rows
section
variable {κ:Type}[DecidableEq κ]
def bf (kvs:List (κ×V)) (k:κ):Option V:=(kvs.find? λkv=>decide (kv.1=k)).map (·.2)
def putK (kvs:List (κ×V)) (k:κ) (v:V):List (κ×V):=
 if (kvs.any λkv=>decide (kv.1=k))=true then kvs.map (λkv=>if kv.1=k then (kv.1,v) else kv) else kvs++[(k,v)]
theorem fZ {p:κ×V}{r:List (κ×V)}{k:κ}(e:p.1=k):bf (p::r) k=some p.2:=by simp [bf,List.find?_cons,e]
theorem gU {p:κ×V}{r:List (κ×V)}{k:κ}(e:¬ p.1=k):bf (p::r) k=bf r k:=by simp [bf,List.find?_cons,e]
theorem sH (k:κ):∀kvs:List (κ×V),(kvs.any λkv=>decide (kv.1=k))=(bf kvs k).isSome
 | []=>rfl
 | p::r=>by
  rw [List.any_cons]
  by_cases e:p.1=k
  . simp only [fZ e,decide_eq_true e,Bool.true_or,Option.isSome_some]
  . rw [gU e,decide_eq_false e,Bool.false_or]; exact sH k r
theorem mU (kvs:List (κ×V)) (k:κ) (v:V):(putK kvs k v).length<=kvs.length+1:=by
 unfold putK
 split
 . rw [List.length_map]; omega
 . rw [List.length_append,List.length_cons,List.length_nil]; omega
theorem jz {kvs:List (κ×V)}{k:κ}(v:V) (h:bf kvs k=none):putK kvs k v=kvs++[(k,v)]:=by
 unfold putK
 rw [sH,h]
 exact if_neg (by decide)
theorem iu.gZ {o:Option V}{u:Option Value}(r:iu o u):o.isSome=u.isSome:=by
 cases o with
 | none=>cases u with
  | none=>rfl
  | some _=>exact (show False from r).elim
 | some _=>cases u with
  | none=>exact (show False from r).elim
  | some _=>rfl
theorem iu.getD {o:Option V}{u:Option Value}{d:V}{d':Value}(r:iu o u) (rd:RelV d d'):RelV (o.getD d) (u.getD d'):=by
 cases o with
 | none=>cases u with
  | none=>exact rd
  | some _=>exact (show False from r).elim
 | some _=>cases u with
  | none=>exact (show False from r).elim
  | some _=>exact r
theorem KV.val {kvs:List (κ×V)}{vs:List (κ×Value)}(r:KV kvs vs) (k:κ):iu (bf kvs k) (valueAt vs k):=by
 unfold KV at r
 induction r with
 | nil=>exact True.intro
 | @cons p q ps qs h t ih=>
  obtain ⟨h1,h2⟩:=h
  by_cases e:p.1=k
  . have e':q.1=k:=h1.symm.trans e
    have b:valueAt (q::qs) k=some q.2:=by simp [valueAt,List.find?_cons,e']
    rw [fZ e,b]; exact h2
  . have e':¬ q.1=k:=λz=>e (h1.trans z)
    have b:valueAt (q::qs) k=valueAt qs k:=by simp [valueAt,List.find?_cons,e']
    rw [gU e,b]; exact ih
theorem KV.any {kvs:List (κ×V)}{vs:List (κ×Value)}(r:KV kvs vs) (k:κ):(kvs.any λkv=>decide (kv.1=k))=vs.any λkv=>decide (kv.1=k):=by
 unfold KV at r
 induction r with
 | nil=>rfl
 | cons h t ih=>rw [List.any_cons,List.any_cons,ih,h.1]
theorem KV.GO {kvs:List (κ×V)}{vs:List (κ×Value)}(r:KV kvs vs) (k:κ){y:V}{u:Value}(ry:RelV y u) :
 KV (kvs.map λkv=>if kv.1=k then (kv.1,y) else kv) (vs.map λkv=>if kv.1=k then (kv.1,u) else kv):=by
 unfold KV at r ⊢
 induction r with
 | nil=>exact .nil
 | @cons p q ps qs h t ih=>
  rw [List.map_cons,List.map_cons]
  refine .cons ?_ ih
  obtain ⟨h1,h2⟩:=h
  by_cases e:p.1=k
  . rw [if_pos e,if_pos (h1.symm.trans e)]; exact ⟨h1,ry⟩
  . rw [if_neg e,if_neg (λz=>e (h1.trans z))]; exact ⟨h1,h2⟩
theorem KV.put {kvs:List (κ×V)}{vs:List (κ×Value)}(r:KV kvs vs) (k:κ){y:V}{u:Value}(ry:RelV y u):KV (putK kvs k y) (stored vs k u):=by
 unfold putK stored
 rw [r.any k]
 by_cases e:(vs.any λkv=>decide (kv.1=k))=true
 . rw [if_pos e,if_pos e]; exact r.GO k ry
 . rw [if_neg e,if_neg e]; exact Paired.snoc r ⟨rfl,ry⟩
theorem KV.length {kvs:List (κ×V)}{vs:List (κ×Value)}(r:KV kvs vs):kvs.length=vs.length:=Paired.length r
end
theorem iL {P:Program}{w:World}{k:Key}{u:Value}(r:RelV (kV k) u):(aR P w).is k u=true:=by
 cases k with
 | inl i=>obtain ⟨t,e⟩:=(show ∃t,u=Value.int i t from r); subst e; exact AK P w i t
 | inr x=>obtain ⟨t,e⟩:=(show ∃t,u=Value.str x t from r); subst e; exact mO P w x t
theorem wG {P:Program}{w:World} : ∀{ks:List Key}{us:List Value},Vals (ks.map kV) us->ItemsAre (aR P w) ks us
 | [],_,r=>by rw [List.map_nil] at r; cases r; exact .nil
 | k::ks,_,r=>by
  rw [List.map_cons] at r
  cases r with
  | cons h t=>exact .cons (iL h) (wG t)
abbrev KT (H:Hp):List (List Key×V)->List (List Key×Addr×Value)->Prop:=Paired λp q=>p.1=q.1/\H q.2.1=some (.tup (p.1.map kV))/\RelV p.2 q.2.2
theorem KT.val {H:Hp}{kvs:List (List Key×V)}{xs:List (List Key×Addr×Value)}(r:KT H kvs xs) (k:List Key):iu (bf kvs k) ((atKey xs k).map (·.2)):=by
 induction r with
 | nil=>exact True.intro
 | @cons p q ps qs h t ih=>
  obtain ⟨h1,_,h2⟩:=h
  by_cases e:p.1=k
  . have e':q.1=k:=h1.symm.trans e
    have b:atKey (q::qs) k=some q.2:=by simp [atKey,List.find?_cons,e']
    rw [fZ e,b]; exact h2
  . have e':¬ q.1=k:=λz=>e (h1.trans z)
    have b:atKey (q::qs) k=atKey qs k:=by simp [atKey,List.find?_cons,e']
    rw [gU e,b]; exact ih
theorem KT.GO {H:Hp}{kvs:List (List Key×V)}{xs:List (List Key×Addr×Value)}(r:KT H kvs xs) (k:List Key){y:V}{u:Value}(ry:RelV y u) :
 KT H (kvs.map λkv=>if kv.1=k then (kv.1,y) else kv) (xs.map (putAt k u)):=by
 induction r with
 | nil=>exact .nil
 | @cons p q ps qs h t ih=>
  rw [List.map_cons,List.map_cons]
  refine .cons ?_ ih
  obtain ⟨h1,h2,h3⟩:=h
  unfold putAt
  by_cases e:p.1=k
  . rw [if_pos e,if_pos (h1.symm.trans e)]; exact ⟨h1,h2,ry⟩
  . rw [if_neg e,if_neg (λz=>e (h1.trans z))]; exact ⟨h1,h2,h3⟩
theorem KT.put {H:Hp}{kvs:List (List Key×V)}{xs:List (List Key×Addr×Value)}(r:KT H kvs xs) (k:List Key){b:Addr}{y:V}{u:Value}(hb:H b=some (.tup (k.map kV))) (ry:RelV y u) :
 KT H (putK kvs k y) (storedH xs k b u):=by
 have e:(kvs.any λkv=>decide (kv.1=k))=(atKey xs k).isSome:=by
  rw [sH,(r.val k).gZ,Option.isSome_map]
 unfold putK storedH
 rw [e]
 by_cases q:(atKey xs k).isSome=true
 . rw [if_pos q,if_pos q]; exact r.GO k ry
 . rw [if_neg q,if_neg q]; exact Paired.snoc r ⟨rfl,hb,ry⟩
theorem KT.keeps {H H':Hp}{kvs:List (List Key×V)}{xs:List (List Key×Addr×Value)}(r:KT H kvs xs) (ht:∀b ys,H b=some (.tup ys)->H' b=some (.tup ys)):KT H' kvs xs:=
 Paired.bE r λ_ _ z=>⟨z.1,ht _ _ z.2.1,z.2.2⟩
section
variable {P:Program}{w:World}{H:Hp}{h:Heap}{a:Addr}
theorem IG {u:HO}(ok:eg P w H h) (e:Rd H a u):cv P w H h a u:=e.ok ok
theorem gy {kvs:List (Key×V)}(ok:eg P w H h) (e:Rd H a (.dK kvs)):kvs.length<=sizeLine/\(a == sysModules)=false/\∃vs,KV kvs vs/\h.DictOf (aR P w) a vs:=
 show cv P w H h a (.dK kvs) from IG ok e
theorem yk {kvs:List (Key×V)}(ok:eg P w H h) (e:H a=some (.dK kvs)):kvs.length<=sizeLine/\(a == sysModules)=false/\∃vs,KV kvs vs/\h.DictOf (aR P w) a vs:=gy ok (.inl e)
theorem nr {ks:List Key}(ok:eg P w H h) (e:H a=some (.tup (ks.map kV))):(tupleKind (aR P w)).is h ks a:=by
 obtain ⟨_,its,r,o,h1,h2,n,h3⟩:=(show cv P w H h a (.tup (ks.map kV)) from ok a _ e)
 exact ⟨o,its.toArray,n,h1,h2,h3,by simpa using wG r⟩
theorem ow {kvs:List (List Key×V)}(ok:eg P w H h) (e:Rd H a (.dT kvs)):kvs.length<=sizeLine/\(a == sysModules)=false/\
 ∃xs,KT H kvs xs/\h.DictOfH (tupleKind (aR P w)) a xs:=by
 obtain ⟨z,y,xs,r,o,es,ep,h1,h2,h3,h4,h5⟩:=(show cv P w H h a (.dT kvs) from IG ok e)
 refine ⟨z,y,xs,r,o,es,ep,h1,h2,h3,h4,λx hx=>?_,h5⟩
 have all:∀{l:List (List Key×V)}{m:List (List Key×Addr×Value)},KT H l m->∀x∈m,(tupleKind (aR P w)).is h x.1 x.2.1:=by
  intro l m q
  induction q with
  | nil=>intro x hx; exact nomatch hx
  | @cons p q ps qs hq t ih=>
   intro x hx
   rcases List.mem_cons.mp hx with e | hx
   . subst e
     exact nr ok (by rw [← hq.1]; exact hq.2.1)
   . exact ih x hx
 exact all r x hx
theorem Qk {kvs:List (List Key×V)}(ok:eg P w H h) (e:H a=some (.dT kvs)):kvs.length<=sizeLine/\(a == sysModules)=false/\
 ∃xs,KT H kvs xs/\h.DictOfH (tupleKind (aR P w)) a xs:=ow ok (.inl e)
end
def bH (H:Hp) (a:Addr) (y:V) (r:Option V):Prop:=
 (∃kvs k,Rd H a (.dK kvs)/\y=kV k/\r=bf kvs k)\/∃kvs k b,Rd H a (.dT kvs)/\y=.ref b/\H b=some (.tup (k.map kV))/\r=bf kvs k
def iS (H:Hp) (a:Addr) (y v:V) (H':Hp):Prop:=
 (∃kvs k,H a=some (.dK kvs)/\y=kV k/\kvs.length<sizeLine/\H'=upd H a (.dK (putK kvs k v)))\/
 ∃kvs k b,H a=some (.dT kvs)/\y=.ref b/\H b=some (.tup (k.map kV))/\kvs.length<sizeLine/\H'=upd H a (.dT (putK kvs k v))
theorem bH.k {H:Hp}{a:Addr}{kvs:List (Key×V)}{k:Key}(e:H a=some (.dK kvs)):bH H a (kV k) (bf kvs k):=.inl ⟨kvs,k,.inl e,rfl,rfl⟩
theorem iS.k {H:Hp}{a:Addr}{kvs:List (Key×V)}{k:Key}{v:V}(e:H a=some (.dK kvs)) (hl:kvs.length<sizeLine):iS H a (kV k) v (upd H a (.dK (putK kvs k v))):=.inl ⟨kvs,k,e,rfl,hl,rfl⟩
section
variable {X:Cx}{pins:List (Addr×Obj)}{σ:St}{H:Hp}{s:Shared}{a:Addr}{y v:V}{u r:Value}{o:Option V}{A:Around}{E:Value->Shared->Prop}
theorem Inv.big (I:Inv X pins σ H s):sysModules<s.heap.objs.size:=by
 have h:mainGlobals<s.heap.objs.size:=(I.mod.glob.keeps I.bk).lt
 exact Nat.lt_trans (by decide) h
theorem Ee {Q:Value->Shared->Prop}(hu:A.units+1<cLine) (I:Inv X pins σ H s) (g:bH H a y (some v)) (ry:RelV y u) (h:∀w' s',Inv X pins σ H s'->RelV v w'->Q w' s') :
 wpAny (model X.prog X.w) A (getItem (.ref a) u) Q E s:=by
 rcases g with ⟨kvs,k,e,ey,l⟩ | ⟨kvs,k,b,e,ey,eb,l⟩
 . subst ey
   obtain ⟨z,hd,vs,rel,dd⟩:=gy I.hok e
   obtain ⟨w',hw,eR⟩:=iu.some_of (v:=v) (o:=valueAt vs k) (by rw [l]; exact rel.val k)
   exact wpAny_getItem_of (iL ry) dd.mapOf hw (h w' _ (I.tok _) eR)
 . subst ey
   cases (show u=Value.ref b from ry)
   obtain ⟨z,hd,xs,rel,dd⟩:=ow I.hok e
   obtain ⟨w',hw,eR⟩:=iu.some_of (v:=v) (o:=(atKey xs k).map (·.2)) (by rw [l]; exact rel.val k)
   obtain ⟨p,hp,cx⟩:=Option.map_eq_some_iff.mp hw
   refine wpAny_getItem_heap (tupleKind_room_in1 hu) (nr I.hok eb) dd hp ?_
   rw [cx]
   exact h w' _ (I.tok _) eR
theorem UC {Q:Value->Shared->Prop}(hu:A.units+1<cLine) (I:Inv X pins σ H s) (g:bH H a y o) (ry:RelV y u) (h:∀s',Inv X pins σ H s'->Q (.bool o.isSome) s') :
 wpAny (model X.prog X.w) A (compareOp .In u (.ref a)) Q E s:=by
 rcases g with ⟨kvs,k,e,ey,l⟩ | ⟨kvs,k,b,e,ey,eb,l⟩
 . subst ey
   obtain ⟨z,hd,vs,rel,dd⟩:=gy I.hok e
   refine wpAny_in_of (iL ry) hd dd.mapOf ?_
   rw [← (rel.val k).gZ,← l]
   exact h _ (I.tok _)
 . subst ey
   cases (show u=Value.ref b from ry)
   obtain ⟨z,hd,xs,rel,dd⟩:=ow I.hok e
   refine wpAny_in_heap (tupleKind_room_in1 hu) (nr I.hok eb) hd dd ?_
   have q:=(rel.val k).gZ
   rw [Option.isSome_map] at q
   rw [← q,← l]
   exact h _ (I.tok _)
theorem Kl {Q:Value->Shared->Prop}(hu:A.units+1<cLine) (I:Inv X pins σ H s) (g:bH H a y o) (ry:RelV y u) (h:∀s',Inv X pins σ H s'->Q (.bool (!o.isSome)) s') :
 wpAny (model X.prog X.w) A (compareOp .NotIn u (.ref a)) Q E s:=by
 rcases g with ⟨kvs,k,e,ey,l⟩ | ⟨kvs,k,b,e,ey,eb,l⟩
 . subst ey
   obtain ⟨z,hd,vs,rel,dd⟩:=gy I.hok e
   refine wpAny_notIn_of (iL ry) hd dd.mapOf ?_
   rw [← (rel.val k).gZ,← l]
   exact h _ (I.tok _)
 . subst ey
   cases (show u=Value.ref b from ry)
   obtain ⟨z,hd,xs,rel,dd⟩:=ow I.hok e
   refine wpAny_notIn_heap (tupleKind_room_in1 hu) (nr I.hok eb) hd dd ?_
   have q:=(rel.val k).gZ
   rw [Option.isSome_map] at q
   rw [← q,← l]
   exact h _ (I.tok _)
theorem qI {h':Heap}{t':Nat}{ob:HO}(I:Inv X pins σ H s) (mu:DV (H a)) (hs:Heap.SameBut a s.heap h') (he:∃q,h'.get? a=some q) (new:cv X.prog X.w (upd H a ob) h' a ob) :
 Inv X pins σ (upd H a ob) { s with heap:=h',toks:=t' } :=
 I.write (x:=a) (e:=a) mu (.inl rfl) (λb q hb z=>(hs.2 b hb).trans z) he new
theorem lM {P:Program}{w:World}{H':Hp}{h':Heap}{kvs:List (Key×V)}{vs:List (Key×Value)}(z:kvs.length<=sizeLine) (hd:(a == sysModules)=false) (rel:KV kvs vs) (dd:h'.DictOf (aR P w) a vs) :
 cv P w H' h' a (.dK kvs):=⟨z,hd,vs,rel,dd⟩
theorem Ef {H':Hp}{Q:Unit->Shared->Prop}(hu:A.units+1<cLine) (I:Inv X pins σ H s) (g:iS H a y v H') (ry:RelV y u) (rv:RelV v r) (h:∀s',Inv X pins σ H' s'->Q () s') :
 wpAny (model X.prog X.w) A (setItem (.ref a) u r) Q E s:=by
 rcases g with ⟨kvs,k,e,ey,l,eH⟩ | ⟨kvs,k,b,e,ey,eb,l,eH⟩
 . subst ey eH
   obtain ⟨z,hd,vs,rel,dd⟩:=yk I.hok e
   have hz:vs.length<=sizeLine:=by rw [← rel.length]; exact z
   have hl:(putK kvs k v).length<=sizeLine:=by have:=mU kvs k v; omega
   refine wpAny_setItem_pairs (hsz:=hz) (iL ry) dd λh' o7 hs=>h _ ?_
   have he:∃q,h'.get? a=some q:=let ⟨q,_,_,hq,_⟩:=o7; ⟨q,hq⟩
   exact qI I (by rw [e]; exact True.intro) hs he (lM hl hd (rel.put k rv) o7)
 . subst ey eH
   cases (show u=Value.ref b from ry)
   obtain ⟨z,hd,xs,rel,dd⟩:=Qk I.hok e
   have hz:xs.length<=sizeLine:=by rw [← Paired.length rel]; exact z
   have hl:(putK kvs k v).length<=sizeLine:=by have:=mU kvs k v; omega
   refine wpAny_setItem_heap (hsz:=hz) (tupleKind_room_in1 hu) (nr I.hok eb) dd λh' o7 hs=>h _ ?_
   obtain ⟨q,es,ep,hq,h2,h3,h4,_,h5⟩:=o7
   refine qI I (by rw [e]; exact True.intro) hs ⟨q,hq⟩ ⟨hl,hd,_,(rel.put k eb rv).keeps λc ys ec=>?_,q,es,ep,hq,h2,h3,h4,h5⟩
   rw [ag (bg ec e (λz=>nomatch z))]
   exact ec
end
section
variable {X:Cx}{pins:List (Addr×Obj)}{σ:St}{H:Hp}{s:Shared}{a:Addr}{kvs:List (Key×V)}{k:Key}{u:Value}{A:Around}{E:Value->Shared->Prop}
theorem Ql {Q:Value->Shared->Prop}(I:Inv X pins σ H s) (e:Rd H a (.dK kvs)) (h:∀t s',Inv X pins σ H s'->Q (.int kvs.length t) s'):wpAny (model X.prog X.w) A (call (.builtin "len") [.ref a]) Q E s:=by
 obtain ⟨z,hd,vs,rel,dd⟩:=gy I.hok e
 refine call_len_dict hd dd (by rw [← rel.length]; rw [sizeLine_eq] at z; omega) ?_
 rw [← rel.length]
 exact h _ _ (I.tok _)
end
def GQ (i:Expr):Prop:=∀ov iv,subscripted i false ov iv=operate [ov,iv] (getItem ov iv)
theorem Bn {prog:Program}{w:World}{A:Around}{E:Value->Shared->Prop}{s:Shared}{env:Env}{value slice:Expr}{pos:Pos}{T id:String}{Q:Value->Shared->Prop}
 (hl:typeLookup (.type T) "__getitem__" = pure (some (.builtin id))) (hs:GQ slice)
 (h:wpAny (model prog w) A (eval value env) (λo di=>wpAny (model prog w) A (eval slice env) (λi vz=>vz.TypeIs o T/\wpAny (model prog w) A (getItem o i) Q E vz) E di) E s) :
 wpAny (model prog w) A (eval (.Subscript value slice pos) env) Q E s:=by
 refine Subscript_ (wpAny_mono h (λo di gu=>wpAny_mono gu (λi vz jA=>?_) λ_ _ x=>x) λ_ _ x=>x)
 obtain ⟨hT,jA⟩:=jA
 unfold subscriptTail
 refine wpAny_bind ?_
 rw [getitemInPython_of_ne hT.not_modules]
 refine wpAny_bind (wpAny_specialOf hT hl ?_)
 have fin:wpAny (model prog w) A (subscripted slice false o i) (λr Km=>wpAny (model prog w) A (letTemporaryGo value o r >>= λ_=>pure r) Q E Km) E vz:=by
  rw [hs o i]
  exact wpAny_operating (wpAny_mono jA (λr Km jB=>wpAny_bind (wpAny_letTemporaryGo (wpAny_pure jB))) λ_ _ x=>x)
 first
  | exact wpAny_pure (wpAny_bind fin)
  | exact wpAny_bind (wpAny_pure (wpAny_bind fin))
  | exact wpAny_bind fin
theorem AL {X:Cx}{pins:List (Addr×Obj)}{σ:St}{H:Hp}{s:Shared}{a:Addr}{y:V}{o:Option V}(I:Inv X pins σ H s) (g:bH H a y o):s.TypeIs (.ref a) "dict":=by
 rcases g with ⟨kvs,k,e,_,_⟩ | ⟨kvs,k,b,e,_,_,_⟩
 . obtain ⟨_,_,vs,_,dd⟩:=gy I.hok e
   exact dd.typeIs
 . obtain ⟨_,_,xs,_,dd⟩:=ow I.hok e
   exact dd.typeIs
def Qm (td ty:TE):TE:=λσ H Q=>td σ H λx H1=>ty σ H1 λy H2=>∃a v,x=.ref a/\bH H2 a y (some v)/\Q v H2
def UD (ty td:TE):TE:=λσ H Q=>ty σ H λy H1=>td σ H1 λx H2=>∃a o,x=.ref a/\bH H2 a y o/\Q (.bl o.isSome) H2
def Kn (ty td:TE):TE:=λσ H Q=>ty σ H λy H1=>td σ H1 λx H2=>∃a o,x=.ref a/\bH H2 a y o/\Q (.bl (!o.isSome)) H2
def Qn (td ty tv:TE):TS:=λD σ H=>tv σ H λv H1=>td σ H1 λx H2=>ty σ H2 λy H3=>∃a H4,x=.ref a/\iS H3 a y v H4/\D.nx σ H4
section
variable {X:Cx}{o i e value:Expr}{pos pos' UA:Pos}{td ty tv:TE}
theorem bz (hu:X.A.units+1<cLine) (ho:PE X o td) (hi:PE X i ty) (hs:GQ i):PE X (.Subscript o i pos) (Qm td ty):=by
 intro pins s σ H Q I h
 refine Bn PySem.F.slot_dict_getitem.lookup hs (aP (ho pins s σ H _ I h) λu s1 ⟨x,H1,I1,rx,q1⟩=>aP (hi pins s1 σ H1 _ I1 q1) λiv s2 ⟨y,H2,I2,ry,a,v,ex,g,q2⟩=>?_)
 subst ex
 obtain rfl:u=Value.ref a:=rx
 exact ⟨AL I2 g,Ee hu I2 g ry λw' s3 I3 eR=>⟨v,H2,I3,eR,q2⟩⟩
theorem pS (hu:X.A.units+1<cLine) (hi:PE X i ty) (ho:PE X o td):PC X .In i o (UD ty td):=by
 intro pins s σ H Q I h
 refine aP (hi pins s σ H _ I h) λiv s1 ⟨y,H1,I1,ry,q1⟩=>aP (ho pins s1 σ H1 _ I1 q1) λu s2 ⟨x,H2,I2,rx,a,ov,ex,g,q2⟩=>?_
 subst ex
 obtain rfl:u=Value.ref a:=rx
 exact UC hu I2 g ry λs3 I3=>⟨.bl ov.isSome,H2,I3,rfl,q2⟩
theorem Eg (hu:X.A.units+1<cLine) (hi:PE X i ty) (ho:PE X o td):PC X .NotIn i o (Kn ty td):=by
 intro pins s σ H Q I h
 refine aP (hi pins s σ H _ I h) λiv s1 ⟨y,H1,I1,ry,q1⟩=>aP (ho pins s1 σ H1 _ I1 q1) λu s2 ⟨x,H2,I2,rx,a,ov,ex,g,q2⟩=>?_
 subst ex
 obtain rfl:u=Value.ref a:=rx
 exact Kl hu I2 g ry λs3 I3=>⟨.bl (!ov.isSome),H2,I3,rfl,q2⟩
theorem ft (hu:X.A.units+1<cLine) (ho:PE X o td) (hi:PE X i ty) (hv:PE X value tv) (hs:swapsWith value (some (.Subscript o i pos')) pos.line X.env=pure false) :
 PS X (.Assign [.Subscript o i pos'] value pos) (Qn td ty tv):=by
 intro pins s σ H D I h
 refine wpAny_Assign_Subscript (aP (hv pins s σ H _ I h) λr s1 ⟨v,H1,I1,rv,q1⟩=>aP (ho pins s1 σ H1 _ I1 q1) λu s2 ⟨x,H2,I2,rx,q2⟩=>aP (hi pins s2 σ H2 _ I2 q2) λiv s3 ⟨y,H3,I3,ry,a,H4,ex,g,q3⟩=>?_) hs
 subst ex
 obtain rfl:u=Value.ref a:=rx
 exact Ef hu I3 g ry rv λs4 I4=>⟨σ,H4,I4,q3⟩
end
theorem yJ {P:Program}{w:World}{H:Hp}(h:Heap) (hb:sysModules<h.objs.size):cv P w H (h.push { cls:=.type "dict",data:=.dict #[] }) h.objs.size (.dK []):=
 ⟨Nat.zero_le _,beq_eq_false_iff_ne.mpr (Ne.symm (Nat.ne_of_lt hb)),[],.nil,Heap.DictOf.new h⟩
def L3:TE:=λ_ H Q=>∀p,H p=none->Q (.ref p) (upd H p (.dK []))
section
variable {X:Cx}{pos:Pos}
theorem lN:PE X (.Dict [] [] pos) L3:=λpins s σ H Q I h=>
 wpAny_Dict_empty ⟨.ref s.heap.objs.size,_,I.laid (a:=s.heap.objs.size) (o:=.dK []) (t':=s.toks) (λ_ _ q=>Heap.get?_push_of_some _ q) (Nat.le_refl _) (yJ s.heap I.big),rfl,h _ (I.hok.fresh (Nat.le_refl _))⟩
end
def yK:List (TE×TE)->St->Hp->(List (V×V)->Hp->Prop)->Prop
 | [],_,H,Q=>Q [] H
 | (tk,tv)::r,σ,H,Q=>tk σ H λx H1=>tv σ H1 λy H2=>yK r σ H2 λps H3=>Q ((x,y)::ps) H3
abbrev VV:List (V×V)->List (Value×Value)->Prop:=Paired λp q=>RelV p.1 q.1/\RelV p.2 q.2
def IH (X:Cx) (pos:Pos) (keys:List (Option Expr)) (values:List Expr) (uo:List (TE×TE)):Prop:=
 ∀(pins:List (Addr×Obj)) (s:Shared) (σ:St) (H:Hp) (Q:List (V×V)->Hp->Prop),Inv X pins σ H s->yK uo σ H Q->
  wpAny (model X.prog X.w) X.A (evalPairs (pairTrees keys values X.env pos)) (λvs s'=>∃ps H',Inv X pins σ H' s'/\VV ps vs/\Q ps H') X.xe s
theorem Bo {X:Cx}{pos:Pos} : IH X pos [] [] []:=λpins s σ H Q I h=>pairTrees_nil_walk ⟨[],H,I,.nil,h⟩
theorem jC {X:Cx}{pos:Pos}{k v:Expr}{ks:List (Option Expr)}{vs:List Expr}{tk tv:TE}{uo:List (TE×TE)}(hk:PE X k tk) (hv:PE X v tv) (hr:IH X pos ks vs uo) :
 IH X pos (some k::ks) (v::vs) ((tk,tv)::uo):=λpins s σ H Q I h=>
 pairTrees_cons_walk (aP (hk pins s σ H _ I h) λu s1 ⟨x,H1,I1,rx,q1⟩=>aP (hv pins s1 σ H1 _ I1 q1) λw2 s2 ⟨y,H2,I2,ry,q2⟩=>
  aP (hr pins s2 σ H2 _ I2 q2) λws s3 ⟨ps,H3,I3,rel,q3⟩=>⟨(x,y)::ps,H3,I3,.cons ⟨rx,ry⟩ rel,q3⟩)
def c8 (kvs more:List (Key×V)):List (Key×V):=more.foldl (λacc kv=>putK acc kv.1 kv.2) kvs
theorem KV.merge:∀{more:List (Key×V)}{rs:List (Key×Value)}{kvs:List (Key×V)}{vs:List (Key×Value)},KV more rs->KV kvs vs->KV (c8 kvs more) (merged vs rs):=by
 intro more rs kvs vs r
 unfold KV at r
 induction r generalizing kvs vs with
 | nil=>intro q; exact q
 | @cons p q ps qs h t ih=>
  intro r0
  have e:KV (putK kvs p.1 p.2) (stored vs q.1 q.2):=by
   have:=r0.put p.1 h.2
   rw [← h.1]; exact this
  exact ih e
theorem gi:∀(more kvs:List (Key×V)),(c8 kvs more).length<=kvs.length+more.length
 | [],kvs=>by show kvs.length<=kvs.length+0; omega
 | p::r,kvs=>by
  have h1:=gi r (putK kvs p.1 p.2)
  have h2:=mU kvs p.1 p.2
  show (c8 (putK kvs p.1 p.2) r).length<=_
  rw [List.length_cons]; omega
theorem uq {P:Program}{w:World} : ∀{kvs:List (Key×V)}{ws:List (Value×Value)},VV (kvs.map λkv=>(kV kv.1,kv.2)) ws->∃rs,Carries (aR P w) ws rs/\KV kvs rs
 | [],_,r=>by rw [List.map_nil] at r; cases r; exact ⟨[],True.intro,.nil⟩
 | p::kvs,_,r=>by
  rw [List.map_cons] at r
  cases r with
  | @cons a b as bs h t=>
   obtain ⟨rs,c,q⟩:=uq (P:=P) (w:=w) t
   obtain ⟨b1,b2⟩:=b
   exact ⟨(p.1,b2)::rs,⟨iL h.1,rfl,c⟩,.cons ⟨rfl,h.2⟩ q⟩
def Qo (uo:List (TE×TE)):TE:=λσ H Q=>∀p,H p=none->yK uo σ (upd H p (.dK [])) λps H2=>H2 p=some (.dK [])/\∃kvs:List (Key×V),ps=kvs.map (λkv=>(kV kv.1,kv.2))/\kvs.length<=15/\Q (.ref p) (upd H2 p (.dK (c8 [] kvs)))
theorem Bp {X:Cx}{pos:Pos}{keys:List (Option Expr)}{values:List Expr}{uo:List (TE×TE)}(h:IH X pos keys values uo) (bX:keys.all (·.isSome)=true) (hl:keys.length=values.length) (h0:keys≠[])
 (h15:keys.length<=15):PE X (.Dict keys values pos) (Qo uo):=by
 intro pins s σ H Q I q
 have hn:=I.hok.fresh (Nat.le_refl s.heap.objs.size)
 have I1:=I.laid (a:=s.heap.objs.size) (o:=.dK []) (h':=s.heap.push { cls:=.type "dict",data:=.dict #[] }) (t':=s.toks) (λ_ _ q=>Heap.get?_push_of_some _ q) (Nat.le_refl _) (yJ s.heap I.big)
 refine wpAny_Dict_walk (knd:=aR X.prog X.w) bX hl h0 h15 (aP (h pins _ σ _ _ I1 (q _ hn)) λws s2 ⟨ps,H2,I2,rel,e,kvs,ep,lk,q2⟩=>?_)
 subst ep
 obtain ⟨rs,c,rk⟩:=uq (P:=X.prog) (w:=X.w) rel
 obtain ⟨z,hd,vs0,r0,dd⟩:=yk I2.hok e
 cases r0
 refine ⟨rs,c,dd,λh' o7 hs=>⟨.ref s.heap.objs.size,_,?_,rfl,q2⟩⟩
 have hz:(c8 [] kvs).length<=sizeLine:=by
  have h1:=gi kvs []
  rw [List.length_nil] at h1
  rw [sizeLine_eq]; omega
 have he:∃q,h'.get? s.heap.objs.size=some q:=let ⟨q,_,_,hq,_⟩:=o7; ⟨q,hq⟩
 exact qI I2 (by rw [e]; exact True.intro) hs he (lM hz hd (rk.merge .nil) o7)
structure M1 (X:Cx) (o:Expr) (m:Str) (apos:Pos) (e:Expr) (dg:Pos):Prop where
 base:attributeBase o m X.env (eval o X.env)=eval o X.env
 ur:((backTo dg (starEach [e] X.env)).all (λx=>!x.1) && (backToKw dg (keywordEach [] X.env)).all (λx=>x.1.isSome)
  && decide (([e]:List Expr).length+([]:List Keyword).length+(if ([]:List Keyword).isEmpty then 0 else 1)<30))=true
 line:(apos.endLine == dg.line)=true
 trees:backTo dg (starEach [e] X.env)=[(false,eval e X.env)]
structure M2 (X:Cx) (o:Expr) (m:Str) (apos:Pos) (e f:Expr) (dg:Pos):Prop where
 base:attributeBase o m X.env (eval o X.env)=eval o X.env
 ur:((backTo dg (starEach [e,f] X.env)).all (λx=>!x.1) && (backToKw dg (keywordEach [] X.env)).all (λx=>x.1.isSome)
  && decide (([e,f]:List Expr).length+([]:List Keyword).length+(if ([]:List Keyword).isEmpty then 0 else 1)<30))=true
 line:(apos.endLine == dg.line)=true
 trees:backTo dg (starEach [e,f] X.env)=[(false,eval e X.env),(false,eval f X.env)]
def L4 (H:Hp) (a:Addr):Prop:=(∃kvs,Rd H a (.dK kvs))\/∃kvs,Rd H a (.dT kvs)
theorem Eh {X:Cx}{pins:List (Addr×Obj)}{σ:St}{H:Hp}{s:Shared}{a:Addr}(I:Inv X pins σ H s) (d:L4 H a) :
 s.TypeIs (.ref a) "dict" /\ (∀b,Value.ref a=.ref b->∃ob,s.heap.get? b=some ob/\ob.dict=none)/\(a == sysModules)=false:=by
 rcases d with ⟨kvs,e⟩ | ⟨kvs,e⟩
 . obtain ⟨_,hd,vs,_,dd⟩:=gy I.hok e
   refine ⟨dd.typeIs,λb q=>?_,hd⟩
   cases q
   obtain ⟨ob,_,_,h1,h2,_⟩:=dd
   exact ⟨ob,h1,h2.2.1⟩
 . obtain ⟨_,hd,xs,_,dd⟩:=ow I.hok e
   refine ⟨dd.typeIs,λb q=>?_,hd⟩
   cases q
   obtain ⟨ob,_,_,h1,h2,_⟩:=dd
   exact ⟨ob,h1,h2.2.1⟩
section
variable {X:Cx}{pins:List (Addr×Obj)}{σ:St}{H:Hp}{s:Shared}{a:Addr}{y d:V}{u r:Value}{o:Option V}{A:Around}{E:Value->Shared->Prop}
theorem Ei {Q:Value->Shared->Prop}(hu:A.units+1<cLine) (I:Inv X pins σ H s) (g:bH H a y o) (ry:RelV y u) (rd:RelV d r) (h:∀w' s',Inv X pins σ H s'->RelV (o.getD d) w'->Q w' s') :
 wpAny (model X.prog X.w) A (call (.builtin "dict.get") [.ref a,u,r]) Q E s:=by
 rcases g with ⟨kvs,k,e,ey,l⟩ | ⟨kvs,k,b,e,ey,eb,l⟩
 . subst ey
   obtain ⟨z,hd,vs,rel,dd⟩:=gy I.hok e
   refine call_meetsIn PySem.F.slot_dict_get dd.typeIs PySem.F.entry_dict_get (PySem.F.args_dict_get_3 _ _ _) (meets_dict_get_default (aR X.prog X.w) a (iL ry) hd r) ⟨_,dd.mapOf,h _ _ (I.tok _) ?_⟩
   rw [l]
   exact (rel.val k).getD rd
 . subst ey
   cases (show u=Value.ref b from ry)
   obtain ⟨z,hd,xs,rel,dd⟩:=ow I.hok e
   refine call_meetsIn PySem.F.slot_dict_get dd.typeIs PySem.F.entry_dict_get (PySem.F.args_dict_get_3 _ _ _) (meetsH_dict_get_default (tupleKind (aR X.prog X.w)) a b hd r) ⟨tupleKind_room_in1 hu,k,xs,nr I.hok eb,dd,h _ _ (I.tok _) ?_⟩
   rw [l]
   exact (rel.val k).getD rd
end
def L5 (td ty tx:TE):TE:=λσ H Q=>td σ H λx H1=>∃a,x=.ref a/\L4 H1 a/\ty σ H1 λy H2=>tx σ H2 λz H3=>∃o,bH H3 a y o/\Q (o.getD z) H3
section
variable {X:Cx}{o e f:Expr}{apos dg:Pos}{td ty tx:TE}
theorem yL (hu:X.A.units+1<cLine) (ho:PE X o td) (he:PE X e ty) (hf:PE X f tx) (m:M2 X o "get" apos e f dg):PE X (.Call (.Attribute o "get" apos) [e,f] [] dg) (L5 td ty tx):=by
 intro pins s σ H Q I h
 refine wpAny_Call_method m.base m.ur m.line PySem.F.plainAttrs_dict PySem.F.slot_dict_get PySem.F.type_dict_get (aP (ho pins s σ H _ I h) λu s1 ⟨x,H1,I1,rx,a,ex,d,q1⟩=>?_)
 subst ex
 obtain rfl:u=Value.ref a:=rx
 obtain ⟨t1,t2,_⟩:=Eh I1 d
 refine ⟨t1,t2,?_⟩
 rw [m.trees]
 refine Calls.callWith_builtin rfl (Calls.evalArgs_plain (Calls.spliced_cons (aP (he pins s1 σ H1 _ I1 q1) λiv s2 ⟨y,H2,I2,ry,q2⟩=>
  Calls.spliced_cons (aP (hf pins s2 σ H2 _ I2 q2) λfv s3 ⟨z,H3,I3,rz,ov,g,q3⟩=>Calls.spliced_nil ?_))))
 exact Ei hu I3 g ry rz λw' s4 I4 eR=>⟨_,H3,I4,eR,q3⟩
end
section
variable {X:Cx}{pins:List (Addr×Obj)}{σ:St}{H:Hp}{s:Shared}{a:Addr}{kvs:List (Key×V)}{A:Around}{E:Value->Shared->Prop}
theorem GR {Q:Value->Shared->Prop}(I:Inv X pins σ H s) (e:Rd H a (.dK kvs)) (h:∀p s',H p=none->Inv X pins σ (upd H p (.dK kvs)) s'->Q (.ref p) s'):wpAny (model X.prog X.w) A (call (.type "dict") [.ref a]) Q E s:=by
 obtain ⟨z,hd,vs,rel,dd⟩:=gy I.hok e
 refine kt_call_dict hd dd (by rw [← rel.length]; exact z) λh' o7 hs=>?_
 refine h _ _ (I.hok.fresh (Nat.le_refl _)) (I.laid (a:=s.heap.objs.size) (o:=.dK kvs) (t':=s.toks) (λb q hq=>?_) (Nat.le_refl _) (lM z (beq_eq_false_iff_ne.mpr (Ne.symm (Nat.ne_of_lt I.big))) rel o7))
 exact (hs.2 b (Nat.ne_of_lt (Heap.lt_size hq))).trans (Heap.get?_push_of_some _ hq)
end
section
variable {X:Cx}{pins:List (Addr×Obj)}{σ:St}{H:Hp}{s:Shared}{a:Addr}{y:V}{u:Value}{A:Around}{E:Value->Shared->Prop}
end
end L2
namespace HT
open PySem PyProof.Rows
def lexLt:List Int->List Int->Bool
 | [],[]=>false
 | [],_::_=>true
 | _::_,[]=>false
 | x::xs,y::ys=>if x=y then lexLt xs ys else decide (x<y)
theorem CG (x y:Int) (xs ys:List Int):lexLt (x::xs) (y::ys)=if x=y then lexLt xs ys else decide (x<y):=rfl
section
open PySem.SeqAt
open PySem.AutoSeq1 (wpAny_loadPart')
open PySem.MeetsSeq PySem.MeetsSeq2 PySem.MeetsSeq3
end
section
variable {prog:Program}{w:World}{A:Around}{E:Value->Shared->Prop}{s:Shared}
theorem Ko {t b:Addr}{vs ws:List Value}{Q:Value->Shared->Prop}(ht:IsTup s.heap t vs.toArray) (hb:IsTup s.heap b ws.toArray) (hv:vs≠[])
 (h1:ws=[]->Q (.ref t) s) (h2:ws≠[]->Q (.ref s.heap.objs.size) { s with heap:=s.heap.push { cls:=.type "tuple",data:=.seq (vs++ws).toArray } })
 (hsz:vs.length+ws.length<=sizeLine):wpAny (model prog w) A (binaryOp .Add (.ref t) (.ref b)) Q E s:=by
 obtain ⟨⟨cls,dd,data,sl⟩,ho,hc,n,hd⟩:=id ht
 obtain ⟨⟨UE,Br,data2,Bs⟩,yM,hc2,n2,hd2⟩:=id hb
 simp only at hc hd hc2 hd2
 subst hc hd hc2 hd2
 have e:vs.toArray++ws.toArray=(vs++ws).toArray:=by simp
 by_cases hw:ws=[]
 . exact concat_meets ⟨_,ho,rfl⟩ ⟨_,yM,rfl⟩ noFill_tuple_add seq_tuple_add PySem.F.slot_tuple_add PySem.F.entry_tuple_add (PySem.F.args_tuple_add_2 _ _)
    (tuple_addW1 t b vs.toArray ws.toArray n n2 dd Br sl Bs (by simpa using hv) (by simp [hw])) ⟨ho,yM,h1 hw⟩
 . refine concat_meets ⟨_,ho,rfl⟩ ⟨_,yM,rfl⟩ noFill_tuple_add seq_tuple_add PySem.F.slot_tuple_add PySem.F.entry_tuple_add (PySem.F.args_tuple_add_2 _ _)
    (tuple_addW2 t b vs.toArray ws.toArray n n2 dd Br sl Bs (by simpa using hv) (by simpa using hw) (by rw [List.size_toArray,List.size_toArray]; exact hsz)) ⟨ho,yM,?_⟩
   rw [e]
   exact h2 hw
def jt (n d:Nat):Option Int->Nat
 | none=>d
 | some v=>if v<0 then (v+(n:Int)).toNat else min v.toNat n
theorem GU (n d:Nat):jt n d none=d:=rfl
theorem Kp (n d k:Nat):jt n d (some (k:Int))=min k n:=by
 show (if (k:Int)<0 then ((k:Int)+(n:Int)).toNat else min (k:Int).toNat n)=min k n
 rw [if_neg (by omega),Int.toNat_natCast]
end
end HT
namespace L2
open PySem PySem.Spec PyProof.Rows
abbrev TO:=St->Hp->(Option Int->Hp->Prop)->Prop
def PO (X:Cx) (e:Option Expr) (t:TO):Prop:=
 ∀(pins:List (Addr×Obj)) (s:Shared) (σ:St) (H:Hp) (Q:Option Int->Hp->Prop),Inv X pins σ H s->t σ H Q->
  wpAny (model X.prog X.w) X.A (evalPart e X.env) (λu s'=>∃o H',Inv X pins σ H' s'/\IsPart u o/\Q o H') X.xe s
def Kq:TO:=λ_ H Q=>Q none H
def Qp (t:TE):TO:=λσ H Q=>t σ H λx H1=>∃i,x=.int i/\Q (some i) H1
theorem intsAre_of {ns:List Int} : ∀{us:List Value},Vals (ns.map V.int) us->IntsAre us ns:=by
 induction ns with
 | nil=>intro us r; rw [List.map_nil] at r; cases r; exact .nil
 | cons n ns ih=>
  intro us r
  rw [List.map_cons] at r
  cases r with
  | cons r1 r2=>
   obtain ⟨t,e⟩:=r1
   subst e
   exact .cons n t (ih r2)
section
variable {X:Cx}{e:Expr}{te:TE}{lo hi:Option Expr}{tl th:TO}{pos p2:Pos}
theorem gq:PO X none Kq:=by
 intro pins s σ H Q I h
 rw [evalPart_none]
 exact wpAny_pure ⟨none,H,I,.none,h⟩
theorem eO (h:PE X e te):PO X (some e) (Qp te):=by
 intro pins s σ H Q I hw
 rw [evalPart_some]
 refine aP (h pins s σ H _ I hw) λu s1 ⟨x,H1,I1,r1,q1⟩=>?_
 obtain ⟨i,rfl,q⟩:=q1
 obtain ⟨t,rfl⟩:=r1
 exact ⟨some i,H1,I1,.int i t,q⟩
def II (X:Cx) (r:V->Option Int->Option Int->Hp->VK->Prop):Prop:=
 ∀(pins:List (Addr×Obj)) (s:Shared) (σ:St) (H:Hp) (x:V) (v vl vu:Value) (lo hi:Option Int) (sl:Addr) (Q:VK),Inv X pins σ H s->RelV x v->s.heap.IsSliceOf sl vl vu .none->IsPart vl lo->IsPart vu hi->r x lo hi H Q->
  ∃T id,typeLookup (.type T) "__getitem__" = pure (some (.builtin id))/\s.TypeIs v T/\wpAny (model X.prog X.w) X.A (getItem v (.ref sl)) (EP X pins σ Q) X.xe s
def tSl (r:V->Option Int->Option Int->Hp->VK->Prop) (te:TE) (tl th:TO):TE:=λσ H Q=>te σ H λx H1=>tl σ H1 λl H2=>th σ H2 λu H3=>r x l u H3 Q
theorem eh {r:V->Option Int->Option Int->Hp->VK->Prop}(hr:II X r) (he:PE X e te) (hl:PO X lo tl) (hu:PO X hi th):PE X (.Subscript e (.Slice lo hi none p2) pos) (tSl r te tl th):=by
 intro pins s σ H Q I h
 refine Subscript_ (aP (he pins s σ H _ I h) λv s1 ⟨x,H1,I1,r1,q1⟩=>?_)
 refine wpAny_Slice (aP (hl pins s1 σ H1 _ I1 q1) λvl s2 ⟨l,H2,I2,pl,q2⟩=>aP (hu pins s2 σ H2 _ I2 q2) λvu s3 ⟨u,H3,I3,pu,q3⟩=>?_)
 rw [evalPart_none]
 refine wpAny_pure ?_
 have I4:Inv X pins σ H3 { s3 with heap:=s3.heap.push { cls:=.type "slice",data:=.fields #[vl,vu,.none] } }:=I3.kept (t':=s3.toks) λb ob q=>Heap.get?_push_of_some _ q
 obtain ⟨T,id,hT,ht,hg⟩:=hr pins { s3 with heap:=s3.heap.push { cls:=.type "slice",data:=.fields #[vl,vu,.none] } } σ H3 x v vl vu l u s3.heap.objs.size Q I4 r1 (Heap.IsSliceOf.new ..) pl pu q3
 show wpAny (model X.prog X.w) X.A (subscriptTail e (.Slice lo hi none p2) v (.ref s3.heap.objs.size)) (EP X pins σ Q) X.xe { s3 with heap:=s3.heap.push { cls:=.type "slice",data:=.fields #[vl,vu,.none] } }
 exact tail_any (ops:=[.ref s3.heap.objs.size,v]) ht hT hg (by with_unfolding_all rfl)
def ox (xs:List V) (lo hi:Option Int):List V:=(xs.drop (HT.jt xs.length 0 lo)).take (HT.jt xs.length xs.length hi-HT.jt xs.length 0 lo)
theorem AM (xs:List V) (lo hi:Option Int):(ox xs lo hi).length<=xs.length:=by
 unfold ox
 rw [List.length_take,List.length_drop]
 omega
def Qq (K:W.Frag):R2:=λx y H Q=>∃a b xs ys,x=.ref a/\y=.ref b/\aV K H a xs/\aV K H b ys/\xs≠[]/\xs.length+ys.length<=sizeLine/\
 (ys=[]->Q (.ref a) H)/\(ys≠[]->∀p,H p=none->Q (.ref p) (upd H p (.tup (xs++ys))))
theorem Vals.qJ {xs:List V}{us:List Value}(r:Vals xs us):us=[] ↔ xs=[]:=by
 cases r with
 | nil=>simp
 | cons _ _=>simp
theorem Kr:dH X (binaryOp .Add) (Qq X.K):=by
 intro pins s σ H x y v u Q I rx ry h
 obtain ⟨a,b,xs,ys,rfl,rfl,ha,hb,hx,hz,q1,q2⟩:=h
 cases rx
 cases ry
 obtain ⟨its,r1,p1,_⟩:=I.tuple ha
 obtain ⟨mX,r2,p2,_⟩:=I.tuple hb
 refine HT.Ko p1 p2 (λz=>hx (r1.qJ.mp z)) (λz=>⟨.ref a,H,I,rfl,q1 (r2.qJ.mp z)⟩) (λz=>?_) (by rw [← r1.length,← r2.length]; exact hz)
 refine ⟨.ref s.heap.objs.size,_,I.laid (t':=s.toks) (o:=.tup (xs++ys)) (λb ob q=>Heap.get?_push_of_some _ q) (Nat.le_refl _) ?_,rfl,q2 (λw=>z (r2.qJ.mpr w)) _ (I.hok.fresh (Nat.le_refl _))⟩
 exact ⟨by rw [List.length_append]; exact hz,_,r1.append r2,IsTup.new _ _⟩
end
end L2
namespace L2
open PySem PySem.Spec PyProof.Rows
def uu (n:Nat) (i:Int):Option Nat:=if 0<=i then (if i<n then some i.toNat else none) else if -(n:Int)<=i then some (i+n).toNat else none
def iE {α:Type}(xs:List α) (i:Int):Option α:=(uu xs.length i).bind λj=>xs[j]?
theorem Bt {n:Nat}{i:Int}{j:Nat}(h:uu n i=some j):seqIndex? i n=some j/\j<n /\ -(n:Int)<=i/\i<n:=by
 unfold uu at h
 by_cases h0:0<=i
 . rw [if_pos h0] at h
   by_cases h1:i<n
   . rw [if_pos h1] at h
     have e:i.toNat=j:=Option.some.inj h
     exact ⟨by rw [seqIndex_of h0 h1,e],by omega,by omega,h1⟩
   . rw [if_neg h1] at h; cases h
 . rw [if_neg h0] at h
   by_cases h1 : -(n:Int)<=i
   . rw [if_pos h1] at h
     have e:(i+n).toNat=j:=Option.some.inj h
     exact ⟨by rw [seqIndex_neg (by omega) h1,e],by omega,h1,by omega⟩
   . rw [if_neg h1] at h; cases h
theorem vE {α:Type}{xs:List α}{i:Int}{v:α}(h:iE xs i=some v):∃j,seqIndex? i xs.length=some j/\xs[j]?=some v/\j<xs.length /\ -(xs.length:Int)<=i/\i<xs.length:=by
 unfold iE at h
 cases e:uu xs.length i with
 | none=>rw [e] at h; cases h
 | some j=>
  rw [e] at h
  obtain ⟨h1,h2,h3,h4⟩:=Bt e
  exact ⟨j,h1,h,h2,h3,h4⟩
theorem c9 {α:Type}{xs:List α}{j:Nat}{v:α}(h:xs[j]?=some v):iE xs (j:Int)=some v:=by
 have hj:j<xs.length:=(List.getElem?_eq_some_iff.mp h).1
 have e:uu xs.length (j:Int)=some j:=by
  unfold uu
  rw [if_pos (by omega),if_pos (by omega)]; simp
 unfold iE; rw [e]; exact h
theorem lO {α:Type}(xs:List α) (v:α):iE (xs++[v]) (-1)=some v:=by
 have hl:(xs++[v]).length=xs.length+1:=by simp
 have e:uu (xs++[v]).length (-1)=some xs.length:=by
  unfold uu
  rw [hl,if_neg (by decide),if_pos (by omega)]
  congr 1
  omega
 unfold iE
 rw [e]
 show (xs++[v])[xs.length]?=some v
 simp
def Ks (b:Expr):Prop:=∀o i,subscripted b false o i=operate [o,i] (getItem o i)
def uv (X:Cx) (r:R2):Prop:=
 ∀(value slice:Expr) (pins:List (Addr×Obj)) (s:Shared) (σ:St) (H:Hp) (x y:V) (v u:Value) (Q:VK),Inv X pins σ H s->RelV x v->RelV y u->r x y H Q->
  subscripted slice false v u=operate [v,u] (getItem v u)->wpAny (model X.prog X.w) X.A (subscriptTail value slice v u) (EP X pins σ Q) X.xe s
def L6 (X:Cx) (id:String) (r:V->List V->Hp->VK->Prop):Prop:=
 ∀(pins:List (Addr×Obj)) (s:Shared) (σ:St) (H:Hp) (x:V) (xs:List V) (v:Value) (us:List Value) (Q:VK),Inv X pins σ H s->RelV x v->Vals xs us->r x xs H Q->
  wpAny (model X.prog X.w) X.A (call (.builtin id) (v::us)) (EP X pins σ Q) X.xe s
section
variable {X:Cx}{a b:Expr}{ta tb:TE}{pos:Pos}
theorem uv.or {r r':R2}(h:uv X r) (h':uv X r'):uv X (λx y H Q=>r x y H Q\/r' x y H Q):=by
 intro value slice pins s σ H x y v u Q I rx ry q hs
 rcases q with q | q
 . exact h value slice pins s σ H x y v u Q I rx ry q hs
 . exact h' value slice pins s σ H x y v u Q I rx ry q hs
theorem aY {r:R2}(hr:uv X r) (ha:PE X a ta) (hb:PE X b tb) (hs:Ks b):PE X (.Subscript a b pos) (wy r ta tb):=by
 intro pins s σ H Q I h
 exact Subscript_ (GC ha hb I h λv u s2 x y H2 I2 rx ry q=>hr a b pins s2 σ H2 x y v u Q I2 rx ry q (hs _ _))
def L7 (K:W.Frag):R2:=λx y H Q=>∃p xs i v,x=.ref p/\y=.int i/\ak K H p xs/\iE xs i=some v/\Q v H
def mY (K:W.Frag):R2:=λx y H Q=>∃p xs i v,x=.ref p/\y=.int i/\aV K H p xs/\iE xs i=some v/\Q v H
def L8:R2:=λx y H Q=>∃z i c,x=.str z/\y=.int i/\z.length<=sizeLine/\iE z.cps.toList i=some c/\Q (.str ⟨#[c]⟩) H
theorem aU:uv X (L7 X.K):=by
 intro value slice pins s σ H x y v u Q I rx ry h hs
 obtain ⟨p,xs,i,z,rfl,rfl,hq,he,q⟩:=h
 cases rx
 obtain ⟨t,rfl⟩:=ry
 obtain ⟨its,r,pl,hz⟩:=I.list hq
 obtain ⟨j,h1,h2,h3,h4,h5⟩:=vE he
 obtain ⟨w,ew,eR⟩:=r.get h2
 have hl:=r.length
 have hn:=lJ
 have fin:EP X pins σ Q w s:=⟨z,H,I,eR,q⟩
 by_cases h0:0<=i
 . have hj:i.toNat=j:=by
    rw [seqIndex_of h0 h5] at h1
    exact Option.some.inj h1
   exact item_listR pl.isList h0 (by omega) (by rw [hj]; simpa using ew) fin hs
 . have hj:(i+(its.toArray.size:Int)).toNat=j:=by
    rw [seqIndex_neg (by omega) h4] at h1
    rw [List.size_toArray,← hl]
    exact Option.some.inj h1
   exact subscriptTail_builtinR (x:=w) pl.isList.typeIs slot_list_getitem.lookup
    (wpAny_getItem_list_neg (Q:=λr s'=>r=w/\EP X pins σ Q r s') pl.isList (by omega) (by rw [List.size_toArray] <;> omega) (by omega) (by rw [hj]; simpa using ew) ⟨rfl,fin⟩) hs
theorem jZ:uv X (mY X.K):=by
 intro value slice pins s σ H x y v u Q I rx ry h hs
 obtain ⟨p,xs,i,z,rfl,rfl,hq,he,q⟩:=h
 cases rx
 obtain ⟨t,rfl⟩:=ry
 obtain ⟨its,r,pl,hz⟩:=I.tuple hq
 obtain ⟨j,h1,h2,h3,h4,h5⟩:=vE he
 obtain ⟨w,ew,eR⟩:=r.get h2
 have hl:=r.length
 have hn:=lJ
 have fin:EP X pins σ Q w s:=⟨z,H,I,eR,q⟩
 exact subscriptTail_builtinR (x:=w) pl.typeIs slot_tuple_getitem.lookup
  (getItem_tuple (j:=j) (Q:=λr s'=>r=w/\EP X pins σ Q r s') pl (by omega) (by omega) (by rw [List.size_toArray,← hl]; exact h1) (by simpa using ew) ⟨rfl,fin⟩) hs
theorem uw:uv X L8:=by
 intro value slice pins s σ H x y v u Q I rx ry h hs
 obtain ⟨z,i,c,rfl,rfl,hz,he,q⟩:=h
 obtain ⟨t,rfl⟩:=rx
 obtain ⟨t',rfl⟩:=ry
 obtain ⟨j,h1,h2,h3,h4,h5⟩:=vE he
 have hl:z.cps.toList.length=z.length:=by simp [Str.length]
 rw [hl] at h1 h4 h5
 have hn:=lJ
 exact tail_any (typeIs_str s z t) slot_str_getitem.lookup (getItem_str (c:=c) (by
  have e1:decide (i < -(2 ^ 63:Int))=false:=decide_eq_false (by omega)
  have e2:decide (i≥2 ^ 63)=false:=decide_eq_false (by omega)
  rw [e1,e2,Bool.or_false]) (by rw [h1]; simpa using h2) ⟨.str ⟨#[c]⟩,H,I.tok _,⟨_,rfl⟩,q⟩) hs
def Rz (K:W.Frag):R2:=λx y H Q=>L7 K x y H Q\/mY K x y H Q\/L8 x y H Q
theorem pT:uv X (Rz X.K):=aU.or (jZ.or uw)
theorem CH (its:List Value) (n j:Nat) (u:Value):Obj.mapSeq (·.setIfInBounds j u) { cls:=.type "list",data:=.seq its.toArray n } = { cls:=.type "list",data:=.seq (its.set j u).toArray n }:=by
 simp [Obj.mapSeq]
theorem Inv.lst {pins:List (Addr×Obj)}{σ:St}{H:Hp}{s:Shared}{p:Addr}{xs:List V}(I:Inv X pins σ H s) (h:H p=some (.lst xs)) :
 ∃(its:List Value) (n:Nat),Vals xs its/\s.heap.get? p=some { cls:=.type "list",data:=.seq its.toArray n } /\ xs.length<=sizeLine:=by
 obtain ⟨z,its,n,r,e⟩:=I.hok p _ h
 exact ⟨its,n,r,e,z⟩
theorem Inv.L9 {pins:List (Addr×Obj)}{σ:St}{H:Hp}{s:Shared}{p:Addr}{xs ys:List V}{its its':List Value}{n n':Nat}{f:Obj->Obj}(I:Inv X pins σ H s) (h:H p=some (.lst xs))
 (ho:s.heap.get? p=some { cls:=.type "list",data:=.seq its.toArray n }) (hf:f { cls:=.type "list",data:=.seq its.toArray n } = { cls:=.type "list",data:=.seq its'.toArray n' }) (r:Vals ys its') (hz:ys.length<=sizeLine) (t:Nat) :
 Inv X pins σ (upd H p (.lst ys)) { s with heap:=s.heap.update p f,toks:=t }:=by
 have e:(s.heap.update p f).get? p=some { cls:=.type "list",data:=.seq its'.toArray n' }:=by
  rw [Heap.get?_update_self f ho (by rw [hf] <;> rfl),hf]
 refine I.write (x:=p) (e:=p) (by rw [h]; trivial) (.inl rfl) (λb u hb q=>(Heap.get?_update_other _ _ (Ne.symm hb)).trans q) ⟨_,e⟩ ?_
 exact ⟨hz,its',n',r,e⟩
def Qr:V->V->V->Hp->(Hp->Prop)->Prop:=λo i v H Q=>∃p xs k j,o=.ref p/\i=.int k/\H p=some (.lst xs)/\uu xs.length k=some j/\Q (upd H p (.lst (xs.set j v)))
theorem set_list:LO X Qr:=by
 intro pins s σ H o i v ov iv u Q I ro ri rv h
 obtain ⟨p,xs,k,j,rfl,rfl,hp,hj,q⟩:=h
 cases ro
 obtain ⟨t,rfl⟩:=ri
 obtain ⟨its,n,r,ho,hz⟩:=I.lst hp
 obtain ⟨h1,h2,h3,h4⟩:=Bt hj
 have hl:=r.length
 have hn:=lJ
 have I':Inv X pins σ (upd H p (.lst (xs.set j v))) { s with heap:=s.heap.update p (Obj.mapSeq (·.setIfInBounds j u)) } :=
  I.L9 hp ho (CH its n j u) (r.set rv j) (by rw [List.length_set]; exact hz) s.toks
 by_cases h0:0<=k
 . have hk:k.toNat=j:=by
    rw [seqIndex_of h0 h4] at h1
    exact Option.some.inj h1
   exact W.ki_setAt ho h0 (by omega) (by rw [List.size_toArray,← hl]; exact h4) (by rw [hk]; exact ⟨_,I',q⟩)
 . have hk:(k+(its.toArray.size:Int)).toNat=j:=by
    rw [seqIndex_neg (by omega) h3] at h1
    rw [List.size_toArray,← hl]
    exact Option.some.inj h1
   exact W.ki_setBack ho (by omega) (by rw [List.size_toArray,← hl]; exact h3) (by omega) (by rw [hk]; exact ⟨_,I',q⟩)
theorem yN (lo hi:Option Int) (n:Nat):(sliceBounds lo hi none n).1=((HT.jt n 0 lo:Nat):Int)/\(sliceBounds lo hi none n).2.1=((HT.jt n n hi:Nat):Int)/\(sliceBounds lo hi none n).2.2=1:=by
 refine ⟨?_,?_,rfl⟩
 . cases lo with
   | none=>simp [sliceBounds,HT.jt]
   | some i=>
    simp only [sliceBounds,HT.jt,Option.getD_none,show (1:Int)>0 by decide,if_true]
    by_cases h:i<0
    . simp only [h,if_true] <;> omega
    . simp only [h,if_false] <;> omega
 . cases hi with
   | none=>simp [sliceBounds,HT.jt]
   | some i=>
    simp only [sliceBounds,HT.jt,Option.getD_none,show (1:Int)>0 by decide,if_true]
    by_cases h:i<0
    . simp only [h,if_true] <;> omega
    . simp only [h,if_false] <;> omega
theorem yg (its:List Value) (lo hi:Option Int):slicePick its.toArray lo hi none=((its.drop (HT.jt its.length 0 lo)).take (HT.jt its.length its.length hi-HT.jt its.length 0 lo)).toArray:=by
 obtain ⟨h1,h2,h3⟩:=yN lo hi its.toArray.size
 unfold slicePick
 rw [h1,h2,h3]
 simp only [sliceRange_one,pick_run,List.size_toArray] <;> rfl
def UG (K:W.Frag):V->Option Int->Option Int->Hp->VK->Prop:=λx lo hi H Q=>∃a xs,x=.ref a/\ak K H a xs/\∀p,H p=none->Q (.ref p) (upd H p (.lst (ox xs lo hi)))
theorem qK:II X (UG X.K):=by
 intro pins s σ H x v vl vu lo hi sl Q I rx hs pl pu h
 obtain ⟨a,xs,rfl,hx,q⟩:=h
 cases rx
 obtain ⟨its,r,ht,hz⟩:=I.list hx
 have hlen:=r.length
 refine ⟨"list",_,slot_list_getitem.lookup,ht.isList.typeIs,?_⟩
 refine wpAny_getItem_list_slice ht.isList hs pl pu .none (by simp) ?_ (by rw [List.size_toArray] <;> omega)
 rw [yg,← hlen]
 refine ⟨.ref s.heap.objs.size,_,I.laid (t':=s.toks) (o:=.lst (ox xs lo hi)) (λb ob q=>Heap.get?_push_of_some _ q) (Nat.le_refl _) ?_,rfl,q _ (I.hok.fresh (Nat.le_refl _))⟩
 exact ⟨Nat.le_trans (AM xs lo hi) hz,_,0,(r.drop (HT.jt xs.length 0 lo)).take (HT.jt xs.length xs.length hi-HT.jt xs.length 0 lo),Heap.get?_push_size _ rfl⟩
def jP:V->Bool
 | .aZ=>true
 | .bl _=>true
 | .int _=>true
 | .str _=>true
 | _=>false
def o8:V->V->Bool
 | .aZ,.aZ=>true
 | .bl a,.bl b=>a == b
 | .bl a,.int b=>(if a then 1 else 0) == b
 | .int a,.bl b=>a == (if b then 1 else 0)
 | .int a,.int b=>a == b
 | .str a,.str b=>a == b
 | _,_=>false
theorem Ej {A:Around}{s:Shared}{y x:V}{u v:Value}(ry:RelV y u) (rx:RelV x v) (fy:jP y=true) (fx:jP x=true):SeqAt.EqAt A s u v (o8 y x):=by
 cases y with
 | aZ=>
  cases ry
  cases x with
  | aZ=>cases rx; exact SeqAt.EqAt.same _
  | bl b=>cases rx; exact SeqAt.EqAt.none_bool b
  | int b=>obtain ⟨t,rfl⟩:=rx; exact SeqAt.EqAt.none_int b t
  | str b=>obtain ⟨t,rfl⟩:=rx; exact SeqAt.EqAt.none_str b t
  | _=>exact absurd (show false=true from fx) Bool.false_ne_true
 | bl a=>
  cases ry
  cases x with
  | aZ=>cases rx; exact SeqAt.EqAt.bool_none a
  | bl b=>cases rx; exact SeqAt.EqAt.bool_bool a b
  | int b=>obtain ⟨t,rfl⟩:=rx; exact SeqAt.EqAt.bool_int a b t
  | str b=>obtain ⟨t,rfl⟩:=rx; exact SeqAt.EqAt.bool_str a b t
  | _=>exact absurd (show false=true from fx) Bool.false_ne_true
 | int a=>
  obtain ⟨t',rfl⟩:=ry
  cases x with
  | aZ=>cases rx; exact SeqAt.EqAt.int_none a t'
  | bl b=>cases rx; exact SeqAt.EqAt.int_bool a t' b
  | int b=>obtain ⟨t,rfl⟩:=rx; exact SeqAt.EqAt.int_int a t' b t
  | str b=>obtain ⟨t,rfl⟩:=rx; exact SeqAt.EqAt.int_str a t' b t
  | _=>exact absurd (show false=true from fx) Bool.false_ne_true
 | str a=>
  obtain ⟨t',rfl⟩:=ry
  cases x with
  | aZ=>cases rx; exact SeqAt.EqAt.str_none a t'
  | bl b=>cases rx; exact SeqAt.EqAt.str_bool a t' b
  | int b=>obtain ⟨t,rfl⟩:=rx; exact SeqAt.EqAt.str_int a t' b t
  | str b=>obtain ⟨t,rfl⟩:=rx; exact SeqAt.EqAt.str_str a t' b t
  | _=>exact absurd (show false=true from fx) Bool.false_ne_true
 | _=>exact absurd (show false=true from fy) Bool.false_ne_true
def lP (x:V) (u:Value):Bool:=match u with
 | .none=>o8 .aZ x
 | .bool b=>o8 (.bl b) x
 | .int i _=>o8 (.int i) x
 | .str z _=>o8 (.str z) x
 | _=>false
theorem Ek {x y:V}{u:Value}(r:RelV y u) (f:jP y=true):lP x u=o8 y x:=by
 cases y with
 | aZ=>cases r; rfl
 | bl b=>cases r; rfl
 | int i=>obtain ⟨t,rfl⟩:=r; rfl
 | str z=>obtain ⟨t,rfl⟩:=r; rfl
 | _=>exact absurd (show false=true from f) Bool.false_ne_true
theorem nu {x:V} : ∀{xs:List V}{us:List Value},Vals xs us->xs.all jP=true->us.any (lP x)=xs.any λy=>o8 y x
 | _,_,.nil,_=>rfl
 | y::xs,u::us,.cons r t,f=>by
  rw [List.all_cons,Bool.and_eq_true] at f
  rw [List.any_cons,List.any_cons,Ek r f.1,nu t f.2]
theorem lQ {A:Around}{s:Shared}{x:V}{v:Value}(rx:RelV x v) (fx:jP x=true):∀{xs:List V}{us:List Value},Vals xs us->xs.all jP=true->∀u∈us,SeqAt.EqAt A s u v (lP x u)
 | _,_,.nil,_=>λu hu=>by cases hu
 | y::xs,u::us,.cons r t,f=>λu' hu=>by
  rw [List.all_cons,Bool.and_eq_true] at f
  rcases List.mem_cons.mp hu with rfl | hu
  . rw [Ek r f.1]; exact Ej r rx f.1 fx
  . exact lQ rx fx t f.2 u' hu
def kQ (x:V) (xs:List V):Bool:=xs.any λy=>o8 y x
def Ma (K:W.Frag) (neg:Bool):R2:=λx y H Q=>∃p xs,y=.ref p/\(ak K H p xs\/aV K H p xs)/\jP x=true/\xs.all jP=true/\Q (.bl (if neg then !kQ x xs else kQ x xs)) H
theorem iZ:dH X (compareOp .In) (Ma X.K false):=by
 intro pins s σ H x y v u Q I rx ry h
 obtain ⟨p,xs,rfl,hq,fx,fs,q⟩:=h
 cases ry
 rcases hq with hq | hq
 . obtain ⟨its,r,pl,hz⟩:=I.list hq
   refine SeqAt.in_listAt (lP x) pl.isList (λw hw=>lQ rx fx r fs w (by simpa using hw)) ⟨.bl _,H,I,rfl,?_⟩
   rw [show its.toArray.any (lP x)=its.any (lP x) by simp,nu r fs]
   exact q
 . obtain ⟨its,r,pl,hz⟩:=I.tuple hq
   refine SeqAt.in_tupleAt (lP x) pl (λw hw=>lQ rx fx r fs w (by simpa using hw)) ⟨.bl _,H,I,rfl,?_⟩
   rw [show its.toArray.any (lP x)=its.any (lP x) by simp,nu r fs]
   exact q
theorem yO:dH X (compareOp .NotIn) (Ma X.K true):=by
 intro pins s σ H x y v u Q I rx ry h
 obtain ⟨p,xs,rfl,hq,fx,fs,q⟩:=h
 cases ry
 rcases hq with hq | hq
 . obtain ⟨its,r,pl,hz⟩:=I.list hq
   refine SeqAt.notIn_listAt (lP x) pl.isList (λw hw=>lQ rx fx r fs w (by simpa using hw)) ⟨.bl _,H,I,rfl,?_⟩
   rw [show its.toArray.any (lP x)=its.any (lP x) by simp,nu r fs]
   exact q
 . obtain ⟨its,r,pl,hz⟩:=I.tuple hq
   refine SeqAt.notIn_tupleAt (lP x) pl (λw hw=>lQ rx fx r fs w (by simpa using hw)) ⟨.bl _,H,I,rfl,?_⟩
   rw [show its.toArray.any (lP x)=its.any (lP x) by simp,nu r fs]
   exact q
theorem bj:fX X (.builtin "len") (λxs H Q=>∃p ys,xs=[.ref p]/\(ak X.K H p ys\/aV X.K H p ys)/\Q (.int ys.length) H):=by
 intro pins s σ H xs us Q I r h
 obtain ⟨p,ys,rfl,hq,q⟩:=h
 obtain ⟨u,rfl,rx⟩:=vals1 r
 cases rx
 have hn:=lJ
 rcases hq with hq | hq
 . obtain ⟨its,r',pl,hz⟩:=I.list hq
   have hlen:=r'.length
   exact Calls.call_len_list pl.isList (by simp only [List.size_toArray] <;> omega) ⟨.int ys.length,H,I.tok _,⟨s.toks+1,by rw [List.size_toArray,hlen]⟩,q⟩
 . obtain ⟨its,r',pl,hz⟩:=I.tuple hq
   have hlen:=r'.length
   exact len_tuple pl (by simp only [List.size_toArray] <;> omega) ⟨.int ys.length,H,I.tok _,⟨s.toks+1,by rw [List.size_toArray,hlen]⟩,q⟩
theorem pU:fX X (.builtin "len") (λxs H Q=>∃z,xs=[.str z]/\z.length<=sizeLine/\Q (.int z.length) H):=by
 intro pins s σ H xs us Q I r h
 obtain ⟨z,rfl,hz,q⟩:=h
 obtain ⟨u,rfl,t,rfl⟩:=vals1 r
 have hn:=lJ
 exact len_str (by omega) ⟨.int z.length,H,I.tok _,⟨_,rfl⟩,q⟩
theorem g0:fX X (.type "list") (λxs H Q=>∃p ys,xs=[.ref p]/\(ak X.K H p ys\/aV X.K H p ys)/\∀l,H l=none->Q (.ref l) (upd H l (.lst ys))):=by
 intro pins s σ H xs us Q I r h
 obtain ⟨p,ys,rfl,hq,q⟩:=h
 obtain ⟨u,rfl,rx⟩:=vals1 r
 cases rx
 have fin:∀(its:List Value),Vals ys its->ys.length<=sizeLine->∀(h':Heap) (c':Nat),(∀b o',s.heap.get? b=some o'->h'.get? b=some o')->
  h'.get? s.heap.objs.size=some { cls:=.type "list",dict:=none,data:=.seq its.toArray c',slots:=#[] } -> EP X pins σ Q (.ref s.heap.objs.size) { s with heap:=h' }:=λits r' hz h' c' kp e=>
  ⟨.ref s.heap.objs.size,_,I.laid (t':=s.toks) kp (Nat.le_refl _) (show cv X.prog X.w _ h' _ (.lst ys) from ⟨hz,its,c',r',e⟩),rfl,q _ (I.hok.fresh (Nat.le_refl _))⟩
 rcases hq with hq | hq
 . obtain ⟨its,r',pl,hz⟩:=I.list hq
   have hlen:=r'.length
   obtain ⟨o,ho,hc,n,hd⟩:=pl.isList
   exact call_list_seq p (.inl rfl) ho hc hd (λh' c' kp e=>fin its r' hz h' c' kp e) (by simp only [List.size_toArray] <;> omega)
 . obtain ⟨its,r',pl,hz⟩:=I.tuple hq
   have hlen:=r'.length
   obtain ⟨o,ho,hc,n,hd⟩:=pl
   exact call_list_seq p (.inr rfl) ho hc hd (λh' c' kp e=>fin its r' hz h' c' kp e) (by simp only [List.size_toArray] <;> omega)
theorem o9:fX X (.type "tuple") (λxs H Q=>∃p ys,xs=[.ref p]/\((ak X.K H p ys/\∀l,H l=none->Q (.ref l) (upd H l (.tup ys)))\/(aV X.K H p ys/\Q (.ref p) H))):=by
 intro pins s σ H xs us Q I r h
 obtain ⟨p,ys,rfl,h⟩:=h
 obtain ⟨u,rfl,rx⟩:=vals1 r
 cases rx
 rcases h with ⟨hq,q⟩ | ⟨hq,q⟩
 . obtain ⟨its,r',pl,hz⟩:=I.list hq
   have hlen:=r'.length
   refine call_tuple_list pl.isList (λh' kp=>?_) (by simp only [List.size_toArray] <;> omega)
   have I1:Inv X pins σ H { s with heap:=h' }:=I.kept (t':=s.toks) kp
   have I2:Inv X pins σ (upd H h'.objs.size (.tup ys)) { s with heap:=h'.push { cls:=.type "tuple",data:=.seq its.toArray } } :=
    I1.laid (t':=s.toks) (λb o e=>Heap.get?_push_of_some _ e) (Nat.le_refl _) (show cv X.prog X.w _ _ _ (.tup ys) from ⟨hz,its,r',IsTup.new _ _⟩)
   exact ⟨.ref h'.objs.size,_,I2,rfl,q _ (I1.hok.fresh (Nat.le_refl _))⟩
 . obtain ⟨its,r',pl,hz⟩:=I.tuple hq
   exact call_tuple_same pl ⟨.ref p,H,I,rfl,q⟩
def Mb (K:W.Frag) (T:String) (x:V) (H:Hp):Prop:=match x with
 | .str _=>T = "str"
 | .int _=>T = "int"
 | .ref p=>(T = "list" /\ ∃xs,ak K H p xs)\/(T = "tuple" /\ ∃o,K.lookup p=some o/\o.cls=.type "tuple" /\ o.dict=none)\/
  (T = "dict" /\ ((∃kvs,H p=some (.dK kvs))\/∃kvs,H p=some (.dT kvs)))\/(T = "set" /\ ∃S n,H p=some (.set S n))
 | _=>False
theorem El {pins:List (Addr×Obj)}{σ:St}{H:Hp}{s:Shared}{T:String}{x:V}{v:Value}(I:Inv X pins σ H s) (r:RelV x v) (ty:Mb X.K T x H) :
 s.TypeIs v T/\∀a,v=.ref a->∃ob,s.heap.get? a=some ob/\ob.dict=none:=by
 cases x with
 | str z=>
  obtain ⟨t,rfl⟩:=r
  cases (show T = "str" from ty)
  exact ⟨typeIs_str s z t,λ_ e=>nomatch e⟩
 | int i=>
  obtain ⟨t,rfl⟩:=r
  cases (show T = "int" from ty)
  exact ⟨typeIs_int s i t,λ_ e=>nomatch e⟩
 | ref p=>
  cases r
  rcases ty with ⟨rfl,xs,hq⟩ | ⟨rfl,o,hk,hc,hd⟩ | ⟨rfl,hk⟩ | ⟨rfl,S,n,hk⟩
  . obtain ⟨its,_,pl,_⟩:=I.list hq
    refine ⟨pl.isList.typeIs,λa e=>?_⟩
    cases e
    obtain ⟨o,n,e,c,hd,_⟩:=pl
    exact ⟨o,e,hd⟩
  . refine ⟨⟨o,I.o6 p o hk,hc⟩,λa e=>?_⟩
    cases e
    exact ⟨o,I.o6 _ o hk,hd⟩
  . have z:∃o,s.heap.get? p=some o/\o.ExactDict:=by
     rcases hk with ⟨kvs,hk⟩ | ⟨kvs,hk⟩
     . obtain ⟨_,_,_,_,o,_,_,e,ex,_⟩:=I.hok p _ hk
       exact ⟨o,e,ex⟩
     . obtain ⟨_,_,_,_,o,_,_,e,ex,_⟩:=I.hok p _ hk
       exact ⟨o,e,ex⟩
    obtain ⟨o,e,ex⟩:=z
    refine ⟨⟨o,e,ex.1⟩,λa e2=>?_⟩
    cases e2
    exact ⟨o,e,ex.2.1⟩
  . obtain ⟨o,_,_,_,e,ex,_⟩:=I.hok p _ hk
    refine ⟨⟨o,e,ex.1⟩,λa e2=>?_⟩
    cases e2
    exact ⟨o,e,ex.2.1⟩
 | _=>exact False.elim ty
def UH (K:W.Frag) (T:String) (r:V->List V->Hp->VK->Prop) (to:TE):TE:=λσ H Q=>to σ H λx H1=>Mb K T x H1/\r x [] H1 Q
def RA (K:W.Frag) (T:String) (r:V->List V->Hp->VK->Prop) (to:TE) (t:TA):TE:=λσ H Q=>to σ H λx H1=>Mb K T x H1/\t σ H1 λxs H2=>r x xs H2 Q
variable {o e:Expr}{es:List Expr}{to:TE}{t:TA}{name:Str}{apos dg:Pos}{T id:String}{r:V->List V->Hp->VK->Prop}
theorem Mc (pa:PlainAttrs T) (slot:Slot T name id) (Md:typeOf (.builtin id)=pure (.type "method_descriptor")) (hm:L6 X id r) (ho:PE X o to)
 (ux:attributeBase o name X.env (eval o X.env)=eval o X.env:=by rfl) (uy:(apos.endLine == dg.line)=true:=by rfl):PE X (.Call (.Attribute o name apos) [] [] dg) (UH X.K T r to):=by
 intro pins s σ H Q I h
 refine wpAny_Call_method0_late ux uy (aP (ho pins s σ H _ I h) λv s1 ⟨x,H1,I1,r1,ty,q1⟩=>?_)
 obtain ⟨h1,h2⟩:=El I1 r1 ty
 exact ⟨T,id,pa,slot,Md,h1,h2,Calls.callWith_builtin rfl (PySem.evalArgs_none (hm pins s1 σ H1 x [] v [] Q I1 r1 .nil q1))⟩
theorem cV (pa:PlainAttrs T) (slot:Slot T name id) (Md:typeOf (.builtin id)=pure (.type "method_descriptor")) (hm:L6 X id r) (ho:PE X o to) (ha:PA X (e::es) t)
 (ux:attributeBase o name X.env (eval o X.env)=eval o X.env:=by rfl)
 (UI:((backTo dg (starEach (e::es) X.env)).all (λx=>!x.1) && (backToKw dg (keywordEach [] X.env)).all (λx=>x.1.isSome)
  && decide ((e::es).length+([]:List Keyword).length+(if ([]:List Keyword).isEmpty then 0 else 1)<30))=true:=by rfl)
 (uy:(apos.endLine == dg.line)=true:=by rfl) (hs:starEach (e::es) X.env=(false,eval e X.env)::starEach es X.env:=by rfl) (Me:(backTo dg (starEach es X.env)).any (·.1)=false:=by rfl) :
 PE X (.Call (.Attribute o name apos) (e::es) [] dg) (RA X.K T r to t):=by
 intro pins s σ H Q I h
 refine wpAny_Call_method_late ux UI uy rfl (aP (ho pins s σ H _ I h) λv s1 ⟨x,H1,I1,r1,ty,q1⟩=>?_)
 obtain ⟨h1,h2⟩:=El I1 r1 ty
 refine ⟨T,id,pa,slot,Md,h1,h2,?_⟩
 have hA:=ha dg pins s1 σ H1 _ I1 q1
 rw [hs] at hA ⊢
 refine Calls.callWith_builtin (by show (false || (backTo dg (starEach es X.env)).any (·.1))=false; rw [Me] <;> rfl) (Calls.evalArgs_plain ?_)
 exact aP hA λus s2 ⟨vs,H2,I2,r2,q2⟩=>hm pins s2 σ H2 x vs v us Q I2 r1 r2 q2
end
end L2
namespace L2
open PySem PySem.Spec PyProof.Rows
def wH (X:Cx) (id:String) (r:V->List V->Hp->VK->Prop):Prop:=
 ∀(pins:List (Addr×Obj)) (s:Shared) (σ:St) (H:Hp) (x:V) (xs:List V) (v:Value) (us:List Value) (Q:VK),Inv X pins σ H s->RelV x v->Vals xs us->r x xs H Q->
  wpAny (model X.prog X.w) X.A (call (.builtin id) (v::us)) (EP X pins σ Q) X.xe s
theorem Vals.one:∀{x:V}{us:List Value},Vals [x] us->∃u,us=[u]/\RelV x u
 | _,_,.cons r .nil=>⟨_,rfl,r⟩
theorem Vals.two:∀{x y:V}{us:List Value},Vals [x,y] us->∃u v,us=[u,v]/\RelV x u/\RelV y v
 | _,_,_,.cons r (.cons q .nil)=>⟨_,_,rfl,r,q⟩
theorem Vals.zero:∀{us:List Value},Vals [] us->us=[]
 | _,.nil=>rfl
theorem Vals.dropLast {xs:List V}{us:List Value}(h:Vals xs us):Vals xs.dropLast us.dropLast:=by
 induction h with
 | nil=>exact .nil
 | cons r t ih=>
  cases t with
  | nil=>exact .nil
  | cons q t'=>exact .cons r ih
theorem CI {α:Type}(l:List α):l.eraseIdx (l.length-1)=l.dropLast:=by
 induction l with
 | nil=>rfl
 | cons a r ih=>
  cases r with
  | nil=>rfl
  | cons b r=>
   have e:(a::b::r).length-1=((b::r).length-1)+1:=by
    have h1:(a::b::r).length=r.length+2:=rfl
    have h2:(b::r).length=r.length+1:=rfl
    omega
   rw [e,List.eraseIdx_cons_succ,ih]
   all_goals rfl
section
variable {X:Cx}{pins:List (Addr×Obj)}{σ:St}{H:Hp}{s:Shared}{l b:Addr}{xs ys zs:List V}
theorem Inv.CJ {its its':List Value}{n:Nat}{f:Array Value->Array Value}{t':Nat}(I:Inv X pins σ H s) (hH:H l=some (.lst xs))
 (e:s.heap.get? l=some { cls:=.type "list",data:=.seq its.toArray n }) (hf:f its.toArray=its'.toArray) (hv:Vals ys its') (hz:ys.length<=sizeLine) :
 Inv X pins σ (upd H l (.lst ys)) { s with heap:=s.heap.update l (Obj.mapSeq f),toks:=t' }:=by
 have q:=PySem.IsL.update e f
 rw [hf] at q
 refine I.write (x:=l) (e:=l) (by rw [hH]; exact trivial) (.inl rfl) (λb' u hb hu=>(Heap.get?_update_other s.heap (Obj.mapSeq f) (Ne.symm hb)).trans hu) ⟨_,q⟩ ?_
 exact ⟨hz,its',_,hv,q⟩
theorem Inv.GX {its:List Value}{t':Nat}(I:Inv X pins σ H s) (hv:Vals ys its) (hz:ys.length<=sizeLine) :
 Inv X pins σ (upd H s.heap.objs.size (.lst ys)) { s with heap:=s.heap.push { cls:=.type "list",data:=.seq its.toArray },toks:=t' } :=
 I.laid (λ_ _ q=>Heap.get?_push_of_some _ q) (Nat.le_refl _) ⟨hz,its,0,hv,Heap.get?_push_size _ rfl⟩
theorem Inv.fresh (I:Inv X pins σ H s):H s.heap.objs.size=none:=I.hok.fresh (Nat.le_refl _)
theorem Inv.sI (I:Inv X pins σ H s) (hH:H l=some (.lst xs)):xs.length<=sizeLine/\∃(its:List Value) (n:Nat),Vals xs its/\xs.length=its.length/\s.heap.get? l=some { cls:=.type "list",data:=.seq its.toArray n }:=by
 obtain ⟨z,its,n,r,e⟩:=I.hok l _ hH
 exact ⟨z,its,n,r,r.length,e⟩
theorem sL {n:Nat}(h:n<=sizeLine):Builtin.List.listTooLong n=false:=by
 unfold Builtin.List.listTooLong
 exact decide_eq_false (by omega)
end
section
variable {X:Cx}
def Kt:V->List V->Hp->VK->Prop:=λx vs H Q=>∃l xs y,x=.ref l/\vs=[y]/\H l=some (.lst xs)/\xs.length<sizeLine/\Q .aZ (upd H l (.lst (xs++[y])))
theorem cz:wH X "list.append" Kt:=by
 intro pins s σ H x vs v us Q I rx rv h
 obtain ⟨l,xs,y,rfl,rfl,hH,hz,q⟩:=h
 cases rx
 obtain ⟨u,rfl,ru⟩:=rv.one
 obtain ⟨z,its,n,r,hl,e⟩:=I.sI hH
 refine call_meets F.slot_list_append ⟨_,e,rfl⟩ F.entry_list_append (F.args_list_append_2 _ _) (PySem.list_append l its.toArray n u (by rw [List.size_toArray]; omega)) ⟨e,?_⟩
 refine ⟨.aZ,_,I.CJ (its':=its++[u]) hH e (by simp) (r.append (.cons ru .nil)) ?_,rfl,q⟩
 rw [List.length_append,List.length_singleton]
 omega
def Ku:V->List V->Hp->VK->Prop:=λx vs H Q=>∃l b xs zs,x=.ref l/\vs=[.ref b]/\H l=some (.lst xs)/\H b=some (.lst zs)/\xs.length+zs.length<=sizeLine/\Q .aZ (upd H l (.lst (xs++zs)))
theorem RB:wH X "list.extend" Ku:=by
 intro pins s σ H x vs v us Q I rx rv h
 obtain ⟨l,b,xs,zs,rfl,rfl,hH,hB,hz,q⟩:=h
 cases rx
 obtain ⟨u,rfl,ru⟩:=rv.one
 cases ru
 obtain ⟨z,its,n,r,hl,e⟩:=I.sI hH
 obtain ⟨z2,mX,n2,r2,cj,e2⟩:=I.sI hB
 have hsz:its.toArray.size+mX.toArray.size<=sizeLine:=by rw [List.size_toArray,List.size_toArray]; omega
 have Qs:¬ (!its.toArray.isEmpty && Builtin.List.listTooLong (its.toArray.size+mX.toArray.size))=true:=by
  rw [sL hsz,Bool.and_false]
  exact Bool.false_ne_true
 refine call_meets F.slot_list_extend ⟨_,e,rfl⟩ F.entry_list_extend (F.args_list_extend_2 _ _)
  (AutoSeq1.list_extend_list_list_0 l its.toArray n b mX.toArray n2 Qs (by rw [List.size_toArray]; omega) (by omega)) ⟨e,e2,?_⟩
 refine ⟨.aZ,_,I.CJ (its':=its++mX) hH e (by simp) (r.append r2) ?_,rfl,q⟩
 rw [List.length_append]
 omega
def UJ:V->List V->Hp->VK->Prop:=λx vs H Q=>∃l xs y,x=.ref l/\vs=[]/\H l=some (.lst xs)/\xs[xs.length-1]?=some y/\Q y (upd H l (.lst xs.dropLast))
theorem Mf:wH X "list.pop" UJ:=by
 intro pins s σ H x vs v us Q I rx rv h
 obtain ⟨l,xs,y,rfl,rfl,hH,hy,q⟩:=h
 cases rx
 have eu:=rv.zero
 subst eu
 obtain ⟨z,its,n,r,hl,e⟩:=I.sI hH
 obtain ⟨u,hu,ru⟩:=r.get hy
 have hy':its.toArray[its.toArray.size-1]?=some u:=by
  show its.toArray[its.length-1]?=some u
  rw [← Array.getElem?_toList,← hl]
  exact hu
 refine call_meets F.slot_list_pop ⟨_,e,rfl⟩ F.entry_list_pop (F.args_list_pop_1 _) (MeetsSeq.list_pop_last l its.toArray n u hy' (by rw [List.size_toArray]; omega)) ⟨e,?_⟩
 refine ⟨y,_,I.CJ (its':=its.dropLast) hH e ?_ r.dropLast ?_,ru,q⟩
 . show its.toArray.eraseIdxIfInBounds (its.toArray.size-1)=its.dropLast.toArray
   rw [List.size_toArray,List.eraseIdxIfInBounds_toArray,CI]
 . rw [List.length_dropLast]
   omega
def UK:R2:=λx y H Q=>∃l b xs zs,x=.ref l/\y=.ref b/\H l=some (.lst xs)/\H b=some (.lst zs)/\xs.length+zs.length<=sizeLine/\∀p,H p=none->Q (.ref p) (upd H p (.lst (xs++zs)))
theorem gj:dH X (binaryOp .Add) UK:=by
 intro pins s σ H x y v u Q I rx ry h
 obtain ⟨l,b,xs,zs,rfl,rfl,hH,hB,hz,q⟩:=h
 cases rx
 cases ry
 obtain ⟨z,its,n,r,hl,e⟩:=I.sI hH
 obtain ⟨z2,mX,n2,r2,cj,e2⟩:=I.sI hB
 refine PySem.P.add_list e e2 ?_ (by rw [List.size_toArray,List.size_toArray]; omega)
 have ea:its.toArray++mX.toArray=(its++mX).toArray:=by simp
 rw [ea]
 exact ⟨.ref _,_,I.GX (t':=s.toks) (r.append r2) (by rw [List.length_append]; omega),rfl,q _ I.fresh⟩
end
section
variable {prog:Program}{w:World}{A:Around}{E:Value->Shared->Prop}{s:Shared}
theorem CK {a c n:Nat}(rN:a<=c) (hc:c<=n):sliceBounds (some (a:Int)) (some (c:Int)) none n=((a:Int),(c:Int),1):=by
 simp only [sliceBounds,Option.getD_none]
 have h1:¬ ((a:Int)<0):=by omega
 have h2:¬ ((c:Int)<0):=by omega
 simp only [h1,h2,if_false,show (1:Int)>0 by decide,if_true]
 congr 1
 . omega
 . congr 1; omega
set_option maxRecDepth 100000 in
theorem Lz {l b sl:Addr}{items new:Array Value}{n n2:Nat}{vl vu:Value}{a c:Nat}{Q:Unit->Shared->Prop}
 (e:s.heap.get? l=some { cls:=.type "list",data:=.seq items n }) (e2:s.heap.get? b=some { cls:=.type "list",data:=.seq new n2 }) (dh:l≠b)
 (hs:s.heap.IsSliceOf sl vl vu .none) (pl:IsPart vl (some (a:Int))) (pu:IsPart vu (some (c:Int))) (rN:a<=c) (hc:c<=items.size)
 (hsz:items.size+new.size<=sizeLine) (h:Q () { s with heap:=s.heap.update l (Obj.mapSeq λxs=>xs.extract 0 a++new++xs.extract c xs.size) }) :
 wpAny (model prog w) A (setItem (.ref l) (.ref sl) (.ref b)) Q E s:=by
 have hl:s.heap.IsList l items:=PySem.IsL.isList e
 have hb:s.heap.IsList b new:=PySem.IsL.isList e2
 obtain ⟨os,IJ,hcs,jg⟩:=id hs
 have RC:s.TypeIs (.ref sl) "slice":=⟨os,IJ,hcs⟩
 have Qt:¬ ((rawPart none == rawInt 0)=true):=Bool.false_ne_true
 have CL:Builtin.List.listSameRef (.ref l) (.ref b)=false:=by
  unfold Builtin.List.listSameRef
  exact beq_eq_false_iff_ne.mpr dh
 have UL:(max (a:Int) (c:Int)).toNat=c:=by omega
 have ny:((λxs:Array Value=>xs.extract 0 a++new++xs.extract c xs.size) items).size<=sizeLine+1:=by
  simp only [Array.size_append,Array.size_extract]
  omega
 unfold setItem
 try with_reducible refine wpAny_holding ?_
 first | refine wpAny_bind (wpAny_pure ?_) | skip
 refine wpAny_bind (wpAny_sequenceKey hl.typeIs (by decide) ?_)
 refine wpAny_bind (wpAny_callSpecial?_slot (name:=Str.ofString "__setitem__") hl.typeIs slot_list_setitem
  (wpAny_call_entry slot_list_setitem hl.typeIs entry_list_setitem ?_ (args_list_setitem _ _ _)))
 show wpAny _ _ (Builtin.List.listSubscript? (.ref sl) >>= _) _ _ s
 refine wpAny_bind ?_
 unfold Builtin.List.listSubscript?
 refine wpAny_bind (wpAny_specialOf RC slice_no_index ?_)
 simp only [Option.isNone_none,if_true]
 refine wpAny_pure ?_
 show wpAny _ _ (typeOf (.ref sl) >>= _) _ _ s
 refine wpAny_bind (wpAny_typeOf RC ?_)
 first
  | rw [if_neg (by decide)]
  | refine W.KFB.if_not (by decide) ?_
 rw [listSliceParts_eq]
 refine wpAny_bind (wpAny_bind (wpAny_field IJ jg (x:=.none) rfl (wpAny_bind (wpAny_listPart .none ?_))))
 rw [if_neg Qt]
 refine wpAny_bind (wpAny_field IJ jg (x:=vl) rfl (wpAny_bind (wpAny_listPart pl ?_)))
 refine wpAny_bind (wpAny_field IJ jg (x:=vu) rfl (wpAny_bind (wpAny_listPart pu (wpAny_pure ?_))))
 first
  | simp only [CL,Bool.false_eq_true,if_false]
  | refine W.KFB.if_not CL ?_
  | (dsimp only
     rw [if_neg (by rw [CL]; exact Bool.false_ne_true)])
 refine wpAny_bind (m:=Builtin.List.listAllItems (.ref b) "must assign iterable to extended slice") ?_
 unfold Builtin.List.listAllItems
 refine wpAny_bind (wpAny_typeOf hb.typeIs ?_)
 first
  | refine W.KFB.if_so (by decide) ?_
  | rw [if_pos (by decide)]
  | simp only [beq_self_eq_true,Bool.true_or,if_true]
 unfold Builtin.List.listItems
 refine wpAny_bind (wpAny_seqItems e2 rfl (wpAny_pure ?_))
 refine wpAny_bind (wpAny_bind (wpAny_seqItems e rfl (wpAny_pure ?_)))
 refine wpAny_bind (wpAny_of_eq ((sliceIndices_raw (some (a:Int)) (some (c:Int)) none items.size (by simp)).trans (congrArg (pure:Int×Int×Int->Sem (Int×Int×Int)) (CK rN hc))) ?_)
 show wpAny _ _ (if ((1:Int) == 1)=true then _ else _) _ _ s
 rw [if_pos (by decide)]
 refine wpAny_bind (wpAny_rule ?_)
 first
  | simp only [sL hsz,Bool.false_eq_true,if_false]
  | refine W.KFB.if_not (sL hsz) ?_
 first | refine wpAny_bind (wpAny_pure ?_) | skip
 show wpAny _ _ (updateSeq l (λxs=>xs.extract 0 ((a:Int)).toNat++new++xs.extract (max (a:Int) (c:Int)).toNat xs.size) >>= _) _ _ s
 rw [UL,Int.toNat_natCast]
 refine wpAny_bind (wpAny_updateSeq (hz:=Nat.le_trans (Nat.le_add_right _ _) hsz) (_hz':=ny) e rfl ?_)
 refine wpAny_bind (wpAny_letGo ?_)
 first
  | exact wpAny_bind (wpAny_pure (wpAny_pure ⟨.none,rfl,wpAny_pure h⟩))
  | exact wpAny_pure ⟨.none,rfl,wpAny_pure h⟩
end
section
variable {X:Cx}
end
end L2
namespace RD
open PySem PySem.W PySem.Calls PyProof.Rows
theorem uz {P:Params}{h:Heap} : ∀(ns:List Int) (vs:List Value),WellAll P h vs (ns.map WData.int)->IntsAre vs ns:=by
 intro ns
 induction ns with
 | nil=>
  intro vs w
  rw [List.map_nil] at w
  cases w
  exact .nil
 | cons n ns ih=>
  intro vs w
  rw [List.map_cons] at w
  cases w with
  | cons a b=>
   cases a
   exact .cons _ _ (ih _ b)
theorem Em {l:OpenLaw}{n:Nat}(hn:l.most=some n){P:Params}{h:Heap}{args:List WData}{vals:List Value}
 (CM:l.row.toRowW.claim.pre args=true) (mn:WellAll P h vals args) :
 ∃a vs ns,vals=[Value.ref a]/\args=[WData.list (ns.map WData.int)]/\h.get? a=some { cls:=.type "list",data:=.seq vs.toArray } /\ IntsAre vs ns/\ns.length<=n:=by
 have Mg:WShape.hasAll [] args [.list .int]=true:=(pre_splitW CM).1
 have hc:l.pre.holds [] { args:=args } = true:=(pre_splitW CM).2
 obtain ⟨d,r,rfl,h1,h2⟩:=hasAllW_cons Mg
 obtain rfl:=hasAllW_nil h2
 obtain ⟨xs,rfl,h3⟩:=hasW_list h1
 obtain ⟨ns,rfl⟩:=items_int h3
 have hlen:ns.length<=n:=by
  unfold OpenLaw.pre at hc
  have h4:(WTm.not (.lt (.lit (.int (n:Int))) (.len (.arg 0)))).holds [] { args:=[.list (ns.map .int)] } = true:=by
   have h4:=(holds_andW hc).1
   rw [hn] at h4
   exact h4
  have h5:=condW_of h4 (w_not (w_lt w_lit (w_len_list (w_arg rfl))))
  rw [List.length_map] at h5
  refine Nat.le_of_not_lt λq=>?_
  have q':(n:Int)<((ns.length:Nat):Int):=by omega
  first
   | (rw [decide_eq_true q'] at h5; exact absurd h5 (by decide))
   | (simp at h5; omega)
 cases mn with
 | cons w1 w2=>
  cases w2
  cases w1 with
  | list ho bX=>exact ⟨_,_,ns,rfl,rfl,ho,uz ns _ bX,hlen⟩
theorem En (l:OpenLaw) (args:List WData):l.row.toRowW.claim.post args (.bool true) args=true:=
 postW_of (r:=l.row.toRowW) (X:=(true == true))
  (show WShape.has [] (.bool true) .bool=true by first | rfl | decide | simp [WShape.has,WShape.arms,WShape.armsAll])
  (show (WTm.eq .res (.lit (.bool true))).value [] { args:=args,res:=some (.bool true),after:=args } = some (.bool (true == true)) from w_eq_bool (w_res rfl) w_lit) rfl
theorem AN {l:OpenLaw}{n:Nat}{q:Program}{loose:List Str}{XP:(Str->Option Value)->Heap->Prop}{YP:World->Heap->Prop}{d:DefRec}
 (hn:l.most=some n) (Eo:d.params.defaults=[])
 (call:∀(w:World) (kj di:Shared) (mg mb:Str->Option Value) (fa:Addr) (o:Obj) (pm cd doc:Value) (a:Addr) (vs:List Value) (ns:List Int),
  Ground q loose [] XP w kj mg mb di.heap->YP w di.heap->
  di.heap.get? fa=some o->o.data=.func (docDef d.name d.params d.body d.scope pm cd doc)->di.heap.CodeRec cd d.name->mg d.name=some (.ref fa)->
  di.heap.get? a=some { cls:=.type "list",data:=.seq vs.toArray } -> IntsAre vs ns->ns.length<=n->di.gens = #[]->
  codeAny (model l.prog w) callerA (.call (.ref fa) ⟨[.ref a],[]⟩) (λr s'=>r=.ok (.ret (.bool true))/\OldK di.heap s'.heap/\s'.os=di.os/\AllBare s'.gens) di) :
 WalkO q loose XP YP l.row.toRowW d [] (λf vs=>PySem.call f vs):=by
 intro w kj di mg mb G Y fa o pm cd doc dV kV ho hd ng hD Ep hg args vals as CM agp IK mn hlo
 obtain rfl:dV=.none:=Dflts.none hD Eo
 obtain rfl:kV=.none:=Dflts.noKw hD
 obtain ⟨a,vs,ns,rfl,rfl,GY,hints,hlen⟩:=Em hn CM mn
 refine enter_call (codeAny_mono (call w kj di mg mb fa o pm cd doc a vs ns G Y ho (fd_plain hd) ng Ep GY hints hlen hg) λr s' hq=>?_)
 obtain ⟨rfl,h2,h3,h4⟩:=hq
 exact ⟨.inl ⟨.bool true,.bool true,[],rfl,λ_=>rfl,.bool true,En l _,λ_=>⟨List.Pairwise.nil,λ_ hm=>(nomatch hm)⟩⟩,h2,h3,h4⟩
section
variable {prog:Program}{w:World}{A:Around}{E:Value->Shared->Prop}{s:Shared}{K:Frag}
end
end RD
namespace L2
open PySem PySem.Spec PyProof.Rows
theorem wI:∀{vs:List Value}{ns:List Int},IntsAre vs ns->Vals (ns.map V.int) vs
 | _,_,.nil=>.nil
 | _,_,.cons n t h=>.cons ⟨t,rfl⟩ (wI h)
def GZ (H:Hp):Prop:=∀b,H b=none\/∃o xs,H b=some (.fO o (.lst xs))
theorem G0 {P:Program}{w:World}{K:W.Frag}{mg mb:Str->Option Value}{CX:pQ}{k:Nat}{fa a:Addr}{fd:FuncData}{x:Str}{sp:Sp}{di:Shared}{vs:List Value}{ns:List Int}
 (KX:K.In di.heap) (Mh:di.heap.Ns mainGlobals mg) (hb:di.heap.Ns builtinsNs mb) (hbb:∀x:Str,x ≠ "__name__" -> mb x=bootBuiltins x) (UM:di.heap.NoLimit) (hg:di.gens = #[])
 (ha:di.heap.get? a=some { cls:=.type "list",data:=.seq vs.toArray }) (hi:IntsAre vs ns) (hl:ns.length<=sizeLine) (hr:aX k callerA)
 (F:∀base:Heap,K.In base->base.Ns mainGlobals mg->av P w K mg base CX k fa fd [x] sp) (Qu:∀(s:Shared) (u:Value),BindsTo s fd ⟨[u],[]⟩ [(x,u)])
 (lL:∀H:Hp,GZ H->ak K H a (ns.map V.int)->sp [.ref a] H (λv _=>v=.bl true) λ_ _ _=>False)
 (Mj:∀H e s',CX [] H di (λ_ _ _=>False) e s'->False) :
 codeAny (model P w) callerA (.call (.ref fa) ⟨[.ref a],[]⟩) (λr s'=>r=.ok (.ret (.bool true))/\OldK di.heap s'.heap/\s'.os=di.os/\AllBare s'.gens) di:=by
 have rv:=wI hi
 have UN:=hi.length
 have core:∀H:Hp,GZ H->ak K H a (ns.map V.int)->eg P w H di.heap->(∀b,H b≠none->b=a)->(H a≠none->K.lookup a=none)->
  codeAny (model P w) callerA (.call (.ref fa) ⟨[.ref a],[]⟩) (λr s'=>r=.ok (.ret (.bool true))/\OldK di.heap s'.heap/\s'.os=di.os/\AllBare s'.gens) di:=by
  intro H hO hS hok hA hK
  have Bu:∀{b:Addr}{o:Obj},di.heap.get? b=some o->H b=none->(og di.heap H).get? b=some o:=λe n=>Gs e n
  have Ed:∀{b:Addr}{o:Obj}{es:Array DictEntry}{ep:Nat},di.heap.get? b=some o->o.data=.dict es ep->H b=none:=λ{b o es ep} e d=>by
   cases q:H b with
   | none=>rfl
   | some u=>
    have e':b=a:=hA b (by rw [q]; simp)
    subst e'
    rw [ha] at e; cases e
    have d':Data.seq vs.toArray _=Data.dict es ep:=d
    cases d'
  have IL:∀{b:Addr}{m:Str->Option Value},di.heap.Ns b m->(og di.heap H).Ns b m:=λ{b m} ⟨o,es,ep,e,d,r⟩=>⟨o,es,ep,Bu e (Ed e d),d,r⟩
  have RE:K.In (og di.heap H):=λb o e=>Bu (KX b o e) (by
   cases q:H b with
   | none=>rfl
   | some u=>
    have e':b=a:=hA b (by rw [q]; simp)
    subst e'
    rw [hK (by rw [q]; simp)] at e; cases e)
  have hM:Mod K mg (og di.heap H):=⟨RE,IL Mh,⟨mb,IL hb,hbb⟩,let ⟨mc,h1,h2⟩:=UM; ⟨mc,IL h1,h2⟩⟩
  have e0:sE P w K mg (og di.heap H) callerA [] di H:=⟨rfl,hM,λb o e=>Kf e,Nat.le_of_eq (DW _ _),trivial,λb hb=>absurd (show b∈([]:List Addr) from hb) (by simp),hok,.of_eq hg⟩
  refine codeAny_mono ((F _ RE (IL Mh)).run callerA [] di H ⟨[.ref a],[]⟩ [.ref a] [.ref a] _ _ hr e0 (Qu di (.ref a)) (.cons rfl .nil) (lL H hO hS)) λr s' h=>?_
  cases r with
  | error e=>exact (Mj H e s' h).elim
  | ok fl=>
   cases fl with
   | next=>exact False.elim h
   | brk=>exact False.elim h
   | cont=>exact False.elim h
   | ret u=>
    obtain ⟨v,H',os,bare,un,UO,r',q⟩:=h
    have q':v=.bl true:=q
    subst q'
    obtain rfl:u=Value.bool true:=r'
    refine ⟨rfl,OldK.of_keep λb o e=>?_,os,bare⟩
    cases q:H b with
    | none=>exact un.keep b o e q (by intro z; exact absurd (show b∈([]:List Addr) from z) (by simp)) (by simp)
    | some u=>
     rcases hO b with z | ⟨ob,xs,z⟩
     . rw [q] at z; cases z
     . have z2:=un.frzs b ob _ z
       obtain ⟨e1,_⟩:=hok b _ z
       obtain ⟨e2,_⟩:=UO b _ z2
       rw [e] at e1; cases e1
       exact e2
 cases hk:K.lookup a with
 | some o=>
  have e:=KX a o hk
  rw [ha] at e
  cases e
  refine core (λ_=>none) (λ_=>.inl rfl) (.inr ⟨_,vs.toArray,_,hk,rfl,rfl,rfl,by rw [List.size_toArray,UN]; exact hl,by simpa using rv⟩) (λb u z=>by have z':(none:Option HO)=some u:=z; cases z') (λb z=>absurd rfl z) λz=>absurd rfl z
 | none=>
  refine core (λb=>if b=a then some (.fO { cls:=.type "list",data:=.seq vs.toArray } (.lst (ns.map V.int))) else none) (λb=>?_) (.inl (.inr ⟨{ cls:=.type "list",data:=.seq vs.toArray },if_pos rfl⟩)) (λb u z=>?_) (λb z=>?_) λ_=>hk
  . by_cases hb:b=a
    . exact .inr ⟨_,_,if_pos hb⟩
    . exact .inl (if_neg hb)
  . by_cases hb:b=a
    . have z':=(if_pos hb).symm.trans z
      cases z'
      subst hb
      exact ⟨ha,by rw [List.length_map]; exact hl,vs,_,rv,ha⟩
    . have z':=(if_neg hb).symm.trans z
      cases z'
  . by_cases hb:b=a
    . exact hb
    . exact absurd (if_neg hb) z
end L2
namespace L2
open PySem PySem.Spec PyProof.Rows
theorem Kv {l:W.OpenLaw}{n k:Nat}{q:Program}{loose:List Str}{XP:(Str->Option Value)->Heap->Prop}{YP:World->Heap->Prop}{d:DefRec}{K:Params->W.Frag}{CX:World->pQ}{sp:World->Sp}{x:Str}
 (hn:l.most=some n) (gh:n<=sizeLine) (Eo:d.params.defaults=[]) (hr:aX k callerA)
 (hY:∀(w:World) (h:Heap),YP w h->(K w.params).In h)
 (F:∀(w:World) (mg:Str->Option Value) (fa:Addr) (h:Heap),(K w.params).In h->h.Ns mainGlobals mg->mg d.name=some (.ref fa)->
  ∃fd:FuncData,(∀(s:Shared) (u:Value),BindsTo s fd ⟨[u],[]⟩ [(x,u)])/\
   ∀base:Heap,(K w.params).In base->base.Ns mainGlobals mg->av l.prog w (K w.params) mg base (CX w) k fa fd [x] (sp w))
 (lL:∀(w:World) (H:Hp) (a:Addr) (ns:List Int),ns.length<=n->GZ H->ak (K w.params) H a (ns.map V.int)->sp w [.ref a] H (λv _=>v=.bl true) λ_ _ _=>False)
 (Mj:∀(w:World) (H:Hp) (s:Shared) (e:Value) (s':Shared),CX w [] H s (λ_ _ _=>False) e s'->False) :
 W.WalkO q loose XP YP l.row.toRowW d [] (λf vs=>PySem.call f vs):=by
 refine RD.AN hn Eo λw kj di mg mb fa o pm cd doc a vs ns G Y ho hd ng Ep GY hints hlen hg=>?_
 have KX:=hY w _ Y
 obtain ⟨fd,hb,hF⟩:=F w mg fa _ KX G.T.g Ep
 exact G0 KX G.T.g G.T.b G.T.builtins G.T.nolimit hg GY hints (Nat.le_trans hlen gh) hr hF hb (λH hO hS=>lL w H a ns hlen hO hS) λH e s'=>Mj w H di e s'
end L2
namespace L2
open PySem PySem.Spec PyProof.Rows
def inClass (s:Stmt) (j:Nat):Stmt:=match s with
 | .ClassDef _ _ _ body _ _ _ _ _ _ _=>body.getD j (.Pass ⟨0,0,0,0⟩)
 | _=>.Pass ⟨0,0,0,0⟩
def aN (s:Stmt):Arguments:=match s with
 | .FunctionDef _ a _ _ _ _ _ _ _ _=>a
 | _=>{ posonlyargs:=[],args:=[],vararg:=none,kwonlyargs:=[],kw_defaults:=[],kwarg:=none,defaults:=[] }
def aD (s:Stmt):List Stmt:=match s with
 | .FunctionDef _ _ b _ _ _ _ _ _ _=>b
 | _=>[]
def ao (s:Stmt):Scope:=match s with
 | .FunctionDef _ _ _ _ _ _ sc _ _ _=>sc
 | _=>{ kind:=.function,names:=[],isGenerator:=false,isCoroutine:=false }
abbrev az:pQ:=λ_ _ _ _ _ _=>False
abbrev E0:XK:=λ_ _ _=>False
theorem aA {X:Cx} : Passes az X E0:=λ_ _ _ _ _ _ _ h=>h.elim
structure bJ (K:W.Frag) (x qual:Str) (st:Stmt) (f:Addr) (fd:FuncData):Prop where
 ex:∃(oc:Value) (od:Option Addr) (kV doc pm:Value) (an:Option Addr) (cdv ct:Value) (wF:Array (Option Value)),
  fd=W.fnOf x qual (aN st) (aD st) (ao st) .none kV doc pm an cdv ct/\K.lookup f=some ⟨oc,od,.func fd,wF⟩/\W.codeIn K cdv qual=true
 kp:W.keepIn K (.ref f)=true
section
variable {P:Program}{w:World}{K:W.Frag}{mg:Str->Option Value}{base:Heap}
theorem bJ.ok {x qual:Str}{st:Stmt}{f:Addr}{fd:FuncData}{N ps:List Str}{k:Nat}{sp:Sp}(F:bJ K x qual st f fd) (S:aO N ps (ao st)) (len:∀vs H Q E,sp vs H Q E->vs.length=ps.length)
 (CF:∀(cdv:Value) (A:Around) (outer:List Env) (s:Shared) (H:Hp) (vs:List V) (Q:VK) (E:XK),aX k (A.deeper (envOfC qual (ao st) s.heap.objs.size f cdv))->sp vs H Q E->
  ∃t,gx (iR az P w K mg base N qual (ao st) f cdv A outer s H E).nj (aD st) t/\t { nx:=λ_ H'=>Q .aZ H',rt:=Q } (start N vs) H):av P w K mg base az (k+1) f fd ps sp:=by
 obtain ⟨oc,od,kV,doc,pm,an,cdv,ct,wF,rfl,lk,ng⟩:=F.ex
 refine Qi lk ng S len λA outer s H vs Q E hr lL=>?_
 obtain ⟨t,h,q⟩:=CF cdv A outer s H vs Q E hr lL
 exact ⟨t,h.nj,q⟩
theorem bJ.binds {x qual:Str}{st:Stmt}{f:Addr}{fd:FuncData}{ps:List Str}(F:bJ K x qual st f fd)
 (h:∀(kV doc pm:Value) (an:Option Addr) (cdv ct:Value) (us:List Value),us.length=ps.length->bindArgs (W.fnOf x qual (aN st) (aD st) (ao st) .none kV doc pm an cdv ct) ⟨us,[]⟩=pure (ps.zip us)):Binds K fd ps []:=by
 obtain ⟨oc,od,kV,doc,pm,an,cdv,ct,wF,rfl,lk,ng⟩:=F.ex
 exact .all (h kV doc pm an cdv ct)
theorem a8 {x qual:Str}{st:Stmt}{f:Addr}{oc:Value}{od an:Option Addr}{wF:Array (Option Value)}{kV doc pm cdv ct:Value}(l:K.lookup f=some ⟨oc,od,.func (W.fnOf x qual (aN st) (aD st) (ao st) .none kV doc pm an cdv ct),wF⟩)
 (c:W.codeIn K cdv qual=true) (k:W.keepIn K (.ref f)=true):bJ K x qual st f (W.fnOf x qual (aN st) (aD st) (ao st) .none kV doc pm an cdv ct):=⟨⟨oc,od,kV,doc,pm,an,cdv,ct,wF,rfl,l,c⟩,k⟩
end
theorem cM {A:Around}{k:Nat}(hr:aX k A):A.units+1<cLine:=Nat.lt_of_le_of_lt (Nat.add_le_add_left (by decide:1<=64) _) hr.units
theorem wJ {n:Nat}(h:n<=1000):n<sizeLine:=Nat.lt_of_le_of_lt h (by decide)
section
variable {X:Cx}
theorem pv (i:Nat){x:Str}{pos:Pos}(hN:X.N[i]?=some x:=by rfl) (hv:LJ X.env.scope x:=by first | exact Or.inl rfl | exact Or.inr (Or.inl rfl) | exact Or.inr (Or.inr rfl)) (hd:(x == ("__debug__" : Str))=false:=by decide)
 (ng:(x == ("__classdict__" : Str))=false:=by decide):PE X (.Name x pos) (vA i):=LL hN hv hd ng
end
theorem cu {A B:Prop}(h:B):if false=true then A else B:=by
 rw [if_neg Bool.false_ne_true]
 exact h
theorem gv {A B:Prop}(h:A):if true=true then A else B:=by
 rw [if_pos rfl]
 exact h
theorem cA {c A B:Prop}[Decidable c] (h1:c->A) (h2:¬ c->B):if c then A else B:=by
 by_cases h:c
 . rw [if_pos h]
   exact h1 h
 . rw [if_neg h]
   exact h2 h
theorem Qv {c A B:Prop}[Decidable c] (hc:c) (h:B):if (!decide c)=true then A else B:=by
 rw [decide_eq_true hc]
 exact cu h
def ai (H H':Hp):Prop:=∀b o,H b=some o->H' b=some o
theorem ai.trans {H H1 H2:Hp}(a:ai H H1) (b:ai H1 H2):ai H H2:=λc o h=>b c o (a c o h)
theorem ai.free {H H':Hp}(e:ai H H'){l:Addr}(h:H' l=Option.none):H l=Option.none:=by
 cases q:H l with
 | none=>rfl
 | some o=>
  rw [e l o q] at h
  cases h
theorem ai.seq {K:W.Frag}{H H':Hp}{a:Addr}{xs:List V}(e:ai H H') (h:ak K H a xs):ak K H' a xs:=by
 rcases h with (h | ⟨o,h⟩) | h
 . exact .inl (.inl (e _ _ h))
 . exact .inl (.inr ⟨o,e _ _ h⟩)
 . exact .inr h
end L2
namespace L2
open PySem PySem.Spec PyProof.Rows
section
variable {X:Cx}
theorem pV:fX X (.builtin "len") (λxs H Q=>∃a kvs,xs=[V.ref a]/\H a=some (.dK kvs)/\Q (.int kvs.length) H):=by
 intro pins s σ H xs us Q I r h
 obtain ⟨a,kvs,rfl,ha,q⟩:=h
 obtain ⟨u,rfl,ru⟩:=vals1 r
 cases ru
 exact Ql I (.inl ha) λt s' I'=>⟨.int kvs.length,H,I',⟨t,rfl⟩,q⟩
end
end L2
set_option maxHeartbeats 4000000
namespace Gen
open PySem
theorem yP {α:Type}[DecidableEq α]:∀(l t:List α),l.Nodup->(∀x∈l,x∈t)->l.length<=t.length
 | [],t,_,_=>Nat.zero_le _
 | a::l,t,hn,hs=>by
  have ha:a∈t:=hs a List.mem_cons_self
  obtain ⟨h1,h2⟩:=List.nodup_cons.mp hn
  have:=yP l (t.erase a) h2 λx hx=>(List.mem_erase_of_ne (λ(e:x=a)=>h1 (by rw [← e]; exact hx))).mpr (hs x (List.mem_cons_of_mem _ hx))
  rw [List.length_erase_of_mem ha] at this
  have:0<t.length:=List.length_pos_of_mem ha
  simp only [List.length_cons]
  omega
theorem CN (k len:Nat):Builtin.Str.strSliceIndices none (some (k:Int)) 1 len=List.range (min k len):=by
 have h1:¬ ((k:Int)<0):=by omega
 have e:max (0:Int) (min (k:Int) (len:Int))=((min k len:Nat):Int):=by omega
 simp only [Builtin.Str.strSliceIndices,sliceRange,h1,if_false,show ((1:Int)>0)=True from by simp,if_true,e]
 by_cases h:(0:Int)<((min k len:Nat):Int)
 . have e3:(((min k len:Nat):Int)-0+1-1) / 1=((min k len:Nat):Int):=by simp
   rw [if_pos h,e3,Int.toNat_natCast]
   conv=>rhs; rw [← List.map_id (List.range (min k len))]
   exact List.map_congr_left λj _=>by simp
 . have:min k len=0:=by omega
   simp [this]
theorem rO {α:Type}(l:List α) (n:Nat) (h:n<=l.length):(List.range n).filterMap (l[·]?)=l.take n:=by
 have:=StrLaws.picks l n 0 (by omega)
 simpa using this
theorem sN (x:Str) (k:Nat):(Txt.slice x none (some (k:Int))).cps.toList=x.cps.toList.take k:=by
 unfold Txt.slice
 rw [CN]
 have hl:x.cps.toList.length=x.length:=by simp [Str.length]
 split
 . rename_i h
   simp only [beq_self_eq_true,Bool.true_and,List.length_range,beq_iff_eq] at h
   rw [List.take_of_length_le]
   omega
 . have e:(λ(i:Nat)=>x.cps[i]?)=(λ(i:Nat)=>x.cps.toList[i]?):=by funext i; simp
   show (List.filterMap (λ(i:Nat)=>x.cps[i]?) (List.range (min k x.length))).toArray.toList=_
   rw [List.toList_toArray,e,rO _ _ (by omega)]
   rcases Nat.le_total k x.length with h | h
   . rw [Nat.min_eq_left h]
   . rw [Nat.min_eq_right h,List.take_of_length_le (by omega),List.take_of_length_le (by omega)]
def aH:List Nat:=(List.range 26).map (· + 97)
theorem jQ {c:Nat} : c∈aH ↔ 97<=c/\c<=122:=by
 unfold aH
 simp only [List.mem_map,List.mem_range]
 constructor
 . rintro ⟨a,h,rfl⟩; omega
 . intro h; exact ⟨c-97,by omega,by omega⟩
def isName (n:List Nat):Prop:=1<=n.length/\n.length<=8/\∀c∈n,c∈aH
def sO (n:List Nat):List (List Nat):=
 [n]++aH.map (λc=>n.take 7++[c])++aH.map (λc=>n.take 6++[c,113])++aH.map (λc=>n.take 6++[c,122])++aH.map (λc=>n.take 5++[c,113,122])
theorem Er {n x:List Nat}(hn:isName n) (hx:x∈sO n):isName x:=by
 obtain ⟨h1,h2,h3⟩:=hn
 have tk:∀k,∀c∈n.take k,c∈aH:=λk c hc=>h3 c (List.mem_of_mem_take hc)
 have G5:113∈aH:=by decide
 have G6:122∈aH:=by decide
 unfold sO at hx
 simp only [List.mem_append,List.mem_singleton,List.mem_map] at hx
 rcases hx with (((rfl | ⟨c,hc,rfl⟩) | ⟨c,hc,rfl⟩) | ⟨c,hc,rfl⟩) | ⟨c,hc,rfl⟩
 . exact ⟨h1,h2,h3⟩
 all_goals
  refine ⟨by simp,by simp only [List.length_append,List.length_take,List.length_cons,List.length_nil]; omega,λd hd=>?_⟩
  simp only [List.mem_append,List.mem_cons,List.not_mem_nil,or_false] at hd
  rcases hd with hd | hd
  . exact tk _ d hd
  . rcases hd with rfl | hd <;> first | exact hc | (rcases hd with rfl | hd <;> first | exact G5 | exact G6 | (rcases hd with rfl <;> first | exact G5 | exact G6)) | (subst hd; first | exact G5 | exact G6)
def sub (n:List Nat):List (List Nat):=
 (aH.filter λc=>decide (c≠113/\c≠122)).map (λc=>n.take 7++[c])++aH.map (λc=>n.take 6++[c,113])++aH.map (λc=>n.take 6++[c,122])
  ++ (aH.filter λc=>decide (some c≠n[5]?)).map (λc=>n.take 5++[c,113,122])
theorem G7 {n x:List Nat}(h:x∈sub n):x∈sO n:=by
 unfold sub at h
 unfold sO
 simp only [List.mem_append,List.mem_singleton,List.mem_map,List.mem_filter] at h ⊢
 rcases h with ((⟨c,⟨hc,_⟩,rfl⟩ | ⟨c,hc,rfl⟩) | ⟨c,hc,rfl⟩) | ⟨c,⟨hc,_⟩,rfl⟩
 . exact .inl (.inl (.inl (.inr ⟨c,hc,rfl⟩)))
 . exact .inl (.inl (.inr ⟨c,hc,rfl⟩))
 . exact .inl (.inr ⟨c,hc,rfl⟩)
 . exact .inr ⟨c,hc,rfl⟩
theorem iM:aH.Nodup:=by decide
theorem ig {l:List Nat}(hl:l.Nodup) (p q:List Nat):(l.map λc=>p++c::q).Nodup:=by
 induction l with
 | nil=>exact List.nodup_nil
 | cons a l ih=>
  obtain ⟨h1,h2⟩:=List.nodup_cons.mp hl
  rw [List.map_cons,List.nodup_cons]
  refine ⟨λh=>?_,ih h2⟩
  obtain ⟨b,hb,e⟩:=List.mem_map.mp h
  have:=List.append_cancel_left e
  injection this with e1 _
  exact h1 (e1 ▸ hb)
theorem Kw {p:List Nat}{a:Nat} : (p++[a]).getLast?=some a:=by simp
theorem Es (n:List Nat):(sub n).Nodup:=by
 unfold sub
 have CO:∀x∈aH.map (λc=>n.take 6++[c,113]),x.getLast?=some 113:=λx hx=>by
  obtain ⟨c,_,rfl⟩:=List.mem_map.mp hx
  simp
 have IM:∀x∈aH.map (λc=>n.take 6++[c,122]),x.getLast?=some 122:=λx hx=>by
  obtain ⟨c,_,rfl⟩:=List.mem_map.mp hx
  simp
 have IP:∀x∈(aH.filter λc=>decide (some c≠n[5]?)).map (λc=>n.take 5++[c,113,122]),x.getLast?=some 122:=λx hx=>by
  obtain ⟨c,_,rfl⟩:=List.mem_map.mp hx
  simp
 have CP:∀x∈(aH.filter λc=>decide (c≠113/\c≠122)).map (λc=>n.take 7++[c]),x.getLast?≠some 113/\x.getLast?≠some 122:=λx hx=>by
  obtain ⟨c,hc,rfl⟩:=List.mem_map.mp hx
  obtain ⟨_,hc⟩:=List.mem_filter.mp hc
  have cH:=of_decide_eq_true hc
  rw [Kw]
  exact ⟨λe=>cH.1 (Option.some.inj e),λe=>cH.2 (Option.some.inj e)⟩
 refine List.nodup_append.mpr ⟨List.nodup_append.mpr ⟨List.nodup_append.mpr ⟨ig (iM.filter _) _ _,ig iM _ _,?_⟩,ig iM _ _,?_⟩,ig (iM.filter _) _ _,?_⟩
 . intro a ha b hb e
   exact (CP a ha).1 (e ▸ CO b hb)
 . intro a ha b hb e
   rcases List.mem_append.mp ha with ha | ha
   . exact (CP a ha).2 (e ▸ IM b hb)
   . have:=CO a ha
     rw [e,IM b hb] at this
     cases this
 . intro a ha b hb e
   rcases List.mem_append.mp ha with ha | ha
   . rcases List.mem_append.mp ha with ha | ha
     . exact (CP a ha).2 (e ▸ IP b hb)
     . have:=CO a ha
       rw [e,IP b hb] at this
       cases this
   . obtain ⟨c,_,rfl⟩:=List.mem_map.mp ha
     obtain ⟨d,hd,rfl⟩:=List.mem_map.mp hb
     obtain ⟨_,hd⟩:=List.mem_filter.mp hd
     have hd':some d≠n[5]?:=of_decide_eq_true hd
     rcases Nat.lt_or_ge 5 n.length with hl | hl
     . -- both have eight letters
       have e5:(n.take 6++[c,122])[5]?=(n.take 5++[d,113,122])[5]?:=by rw [e]
       have t6:(n.take 6).length=6:=by rw [List.length_take]; omega
       have t5:(n.take 5).length=5:=by rw [List.length_take]; omega
       rw [List.getElem?_append_left (by omega),List.getElem?_append_right (by omega),t5,List.getElem?_take] at e5
       simp at e5
       exact hd' e5.symm
     . have el:=congrArg List.length e
       simp only [List.length_append,List.length_take,List.length_cons,List.length_nil] at el
       omega
theorem CQ (n:List Nat):100<=(sub n).length:=by
 unfold sub
 simp only [List.length_append,List.length_map]
 have h1:aH.length=26:=by decide
 have h2:(aH.filter λc=>decide (c≠113/\c≠122)).length=24:=by decide
 have h3:25<=(aH.filter λc=>decide (some c≠n[5]?)).length:=by
  cases n[5]? with
  | none=>
   have:(aH.filter λc=>decide (some c≠none))=aH:=List.filter_eq_self.mpr λc _=>by simp
   rw [this,h1]
   decide
  | some d=>
   have e:(aH.filter λc=>decide (some c≠some d))=aH.filter λc=>c != d:=by
    apply List.filter_congr
    intro c _
    by_cases h:c=d
    . subst h; simp
    . simp [h]
   rw [e]
   by_cases hd:d∈aH
   . obtain ⟨a,b⟩:=jQ.mp hd
     have:∀k,k<26->25<=(aH.filter λc=>c != k+97).length:=by decide
     have:=this (d-97) (by omega)
     rw [show d-97+97=d by omega] at this
     exact this
   . have:(aH.filter λc=>c != d)=aH:=List.filter_eq_self.mpr λc hc=>by
      have:c≠d:=λe=>hd (e ▸ hc)
      simpa using this
     rw [this,h1]
     decide
 rw [h1,h2]
 omega
theorem Et (n:List Nat) (told:List (List Nat)) (h:told.length<100):∃x∈sO n,x∉told:=by
 apply Classical.byContradiction
 intro hx
 have all:∀x∈sub n,x∈told:=λx hs=>Classical.byContradiction λht=>hx ⟨x,G7 hs,ht⟩
 have:=yP (sub n) told (Es n) all
 have:=CQ n
 omega
end Gen
namespace Gen
open PySem
theorem wK:("" : Str).cps.toList=[]:=by decide +kernel
theorem Qw:("q" : Str).cps.toList=[113]:=by decide +kernel
theorem Qx:("z" : Str).cps.toList=[122]:=by decide +kernel
theorem Ml:("qz" : Str).cps.toList=[113,122]:=by decide +kernel
theorem Bv:("abcdefghijklmnopqrstuvwxyz" : Str).cps.toList=aH:=by decide +kernel
theorem ef (a b:Str):(a++b).cps.toList=a.cps.toList++b.cps.toList:=by rw [Str.cps_append,Array.toList_append]
theorem yQ:∀ys:List Str,(Str.join "" ys).cps.toList=(ys.map (·.cps.toList)).flatten
 | []=>rfl
 | [x]=>by simp [Str.join]
 | x::y::r=>by
  have ih:=yQ (y::r)
  show (x ++ "" ++ Str.join "" (y::r)).cps.toList=_
  rw [ef,ef,ih,wK]
  simp
theorem Eu (ys:List Str):(Txt.join "" ys).cps.toList=(ys.map (·.cps.toList)).flatten:=by
 unfold Txt.join
 rw [StrLaws.glued_eq_join]
 exact yQ ys
def c7 (n:Str):List Str:=aH.map λc=>Txt.slice n none (some 7)++⟨#[c]⟩
def IQ (n:Str):List Str:=aH.map λc=>Txt.slice n none (some 6)++⟨#[c]⟩ ++ "q"
def IS (n:Str):List Str:=aH.map λc=>Txt.slice n none (some 6)++⟨#[c]⟩ ++ "z"
def c5 (n:Str):List Str:=aH.map λc=>Txt.slice n none (some 5)++⟨#[c]⟩ ++ "qz"
def dc (n:Str):List Str:=[n]++c7 n++IQ n++IS n++c5 n
theorem wL (n:Str):(dc n).map (·.cps.toList)=sO n.cps.toList:=by
 have s7:=sN n 7
 have s6:=sN n 6
 have s5:=sN n 5
 have e7:((7:Nat):Int)=7:=rfl
 have e6:((6:Nat):Int)=6:=rfl
 have e5:((5:Nat):Int)=5:=rfl
 rw [e7] at s7
 rw [e6] at s6
 rw [e5] at s5
 unfold dc sO c7 IQ IS c5
 simp only [List.map_append,List.map_map,List.map_cons,List.map_nil,Function.comp_def,ef,s7,s6,s5,Qw,Qx,Ml,List.append_assoc,List.cons_append,List.nil_append]
theorem nz {a b:Str}(h:a.cps.toList=b.cps.toList):a=b:=Str.ext' (Array.toList_inj.mp h)
def aW (z:Str):Prop:=isName z.cps.toList
theorem CS {n z:Str}(hn:aW n) (hz:z∈dc n):aW z:=by
 refine Er hn ?_
 rw [← wL]
 exact List.mem_map.mpr ⟨z,hz,rfl⟩
theorem CU (n:Str) (told:List Str) (h:told.length<100):∃x∈dc n,x∉told:=by
 obtain ⟨x,hx,ht⟩:=Et n.cps.toList (told.map (·.cps.toList)) (by simpa using h)
 rw [← wL] at hx
 obtain ⟨z,hz,rfl⟩:=List.mem_map.mp hx
 exact ⟨z,hz,λhm=>ht (List.mem_map.mpr ⟨z,hm,rfl⟩)⟩
def eA:List Str:=["switch", "keep", "gate", "next", "never", "some", "wall", "row", "step", "piece", "lasso"]
theorem AO:Txt.split "switch keep gate next never some wall row step piece lasso" " " = eA:=by decide +kernel
theorem AQ:∀x∈eA,aW x:=by
 have h:eA.all (λx=>decide (1<=x.cps.toList.length) && decide (x.cps.toList.length<=8) && x.cps.toList.all λc=>decide (c∈aH))=true:=by decide +kernel
 intro x hx
 have:=List.all_eq_true.mp h x hx
 simp only [Bool.and_eq_true,decide_eq_true_eq,List.all_eq_true] at this
 exact ⟨this.1.1,this.1.2,this.2⟩
theorem aW.len {z:Str}(h:aW z):z.length<=8:=by
 have:=h.2.1
 simpa [Str.length] using this
theorem AR {ys:List Str}(h1:1<=ys.length) (h2:ys.length<=8) (h:∀y∈ys,∃c∈aH,y=⟨#[c]⟩):aW (Txt.join "" ys):=by
 have e:∀zs:List Str,(∀y∈zs,∃c∈aH,y=⟨#[c]⟩)->(zs.map (·.cps.toList)).flatten.length=zs.length/\∀c∈(zs.map (·.cps.toList)).flatten,c∈aH:=by
  intro zs
  induction zs with
  | nil=>intro _; exact ⟨rfl,λc hc=>by simp at hc⟩
  | cons z zs ih=>
   intro hz
   obtain ⟨c,hc,rfl⟩:=hz z List.mem_cons_self
   obtain ⟨i1,i2⟩:=ih λy hy=>hz y (List.mem_cons_of_mem _ hy)
   refine ⟨?_,λd hd=>?_⟩
   . rw [List.map_cons,List.flatten_cons,List.length_append,i1]
     simp
     omega
   . rw [List.map_cons,List.flatten_cons,List.mem_append] at hd
     rcases hd with hd | hd
     . have:d=c:=by simpa using hd
       rw [this]; exact hc
     . exact i2 d hd
 obtain ⟨e1,e2⟩:=e ys h
 unfold aW isName
 rw [Eu,e1]
 exact ⟨h1,h2,e2⟩
end Gen
namespace PySem
open Builtin Builtin.Str
def eN (c:Nat):List Nat->List (List Nat)
 | []=>[[]]
 | x::r=>if x=c then []::eN c r else match eN c r with
  | []=>[[x]]
  | h::t=>(x::h)::t
theorem qL (c:Nat):∀l,∃h t,eN c l=h::t
 | []=>⟨[],[],rfl⟩
 | x::r=>by
  obtain ⟨h,t,e⟩:=qL c r
  by_cases hx:x=c
  . exact ⟨[],eN c r,by simp [eN,hx]⟩
  . exact ⟨x::h,t,by simp [eN,hx,e]⟩
theorem wM {c:Nat} : ∀{l:List Nat},c∉l->eN c l=[l]
 | [],_=>rfl
 | x::r,h=>by
  have h1:¬ x=c:=λz=>h (by simp [z])
  have h2:=wM (l:=r) λz=>h (List.mem_cons_of_mem _ z)
  simp [eN,h1,h2]
theorem Bw {c:Nat}{r:List Nat} : ∀{l:List Nat},c∉l->eN c (l++c::r)=l::eN c r
 | [],_=>by simp [eN]
 | x::l,h=>by
  have h1:¬ x=c:=λz=>h (by simp [z])
  have h2:=Bw (r:=r) (l:=l) λz=>h (List.mem_cons_of_mem _ z)
  simp [eN,h1,h2]
def gw (c:Nat):List (List Nat)->List Nat
 | []=>[]
 | [x]=>x
 | x::y::r=>x++c::gw c (y::r)
theorem wN {c:Nat} : ∀{rows:List (List Nat)},rows≠[]->(∀l∈rows,c∉l)->eN c (gw c rows)=rows
 | [],h,_=>absurd rfl h
 | [x],_,h=>wM (h x (by simp))
 | x::y::r,_,h=>by
  rw [gw,Bw (h x (by simp)),wN (rows:=y::r) (by simp) λl hl=>h l (List.mem_cons_of_mem _ hl)]
def de (c:Nat) (L:List Nat) (a k:Nat):List Nat:=(List.range' a k).filter λi=>decide (L[i]?=some c)
theorem pW {z:Str}{c:Nat}{limit:Nat} : ∀(k a:Nat) (acc:Array Nat) (free:Nat),free<=a->acc.size+k<=limit->
 (forIn (List.range' a k) (acc,free) (StrLaws.occBody z ⟨#[c]⟩ z.length limit)).run.fst.toList=acc.toList++de c z.cps.toList a k
 | 0,a,acc,free,_,_=>by simp [de]
 | k+1,a,acc,free,h1,h2=>by
  rw [List.range'_succ,List.forIn_cons]
  unfold StrLaws.occBody
  have key:=StrLaws.subAt_one z c a
  by_cases hc:z.cps.toList[a]?=some c
  . have k1:=key.mpr hc
    rw [if_pos ⟨⟨⟨(by show acc.size<limit; omega),h1⟩,k1.1⟩,k1.2⟩]
    have ih:=pW (z:=z) (c:=c) (limit:=limit) k (a+1) (acc.push a) (a+(⟨#[c]⟩:Str).length) (by show a+1<=a+1; exact Nat.le_refl _) (by rw [Array.size_push]; omega)
    refine ih.trans ?_
    have hs:de c z.cps.toList a (k+1)=a::de c z.cps.toList (a+1) k:=by
     unfold de
     rw [List.range'_succ,List.filter_cons,if_pos (decide_eq_true hc)]
    rw [hs]
    simp
  . rw [if_neg (λh=>hc (key.mp ⟨h.1.2,h.2⟩))]
    have ih:=pW (z:=z) (c:=c) (limit:=limit) k (a+1) acc free (by omega) (by omega)
    refine ih.trans ?_
    have hs:de c z.cps.toList a (k+1)=de c z.cps.toList (a+1) k:=by
     unfold de
     rw [List.range'_succ,List.filter_cons,if_neg (by simpa using hc)]
    rw [hs]
theorem Ew {c:Nat}{L:List Nat}{n:Nat}(h:L.length=n) (a k:Nat):de c L a (k+1)=de c L a k\/a+k<n:=by
 by_cases hk:a+k<n
 . exact .inr hk
 . refine .inl ?_
   unfold de
   have e:List.range' a (k+1)=List.range' a k++[a+k]:=by simpa using List.range'_concat (s:=a) (n:=k) (step:=1)
   rw [e,List.filter_append]
   have e2:L[a+k]?=none:=List.getElem?_eq_none (by omega)
   simp [e2]
theorem Ex (z:Str) (c:Nat):occurrences z ⟨#[c]⟩ 0 z.length (z.length+1)=de c z.cps.toList 0 z.length:=by
 rw [StrLaws.occ_eq]
 have h:=pW (z:=z) (c:=c) (limit:=z.length+1) (z.length+1-0) 0 #[] 0 (Nat.le_refl _) (by simp)
 refine h.trans ?_
 have hn:z.cps.toList.length=z.length:=by simp [Str.length]
 rcases Ew (c:=c) hn 0 z.length with e | e
 . simpa using e
 . omega
def cutAt (L:List Nat) (s:Nat) (yR:List Nat) (n:Nat):List (List Nat):=((s::yR.map (· + 1)).zip (yR++[n])).map λp=>(L.drop p.1).take (p.2-p.1)
theorem sP {c:Nat}{L:List Nat} : ∀(k a s:Nat),a+k=L.length->s<=a->∀h t,eN c (L.drop a)=h::t->cutAt L s (de c L a k) L.length=((L.drop s).take (a-s)++h)::t
 | 0,a,s,hk,hs,h,t,e=>by
  have:L.drop a=[]:=List.drop_eq_nil_of_le (by omega)
  rw [this] at e
  simp [eN] at e
  obtain ⟨rfl,rfl⟩:=e
  have ha:a=L.length:=by omega
  subst ha
  simp [cutAt,de]
 | k+1,a,s,hk,hs,h,t,e=>by
  have ha:a<L.length:=by omega
  rw [List.drop_eq_getElem_cons ha] at e
  obtain ⟨h',t',e'⟩:=qL c (L.drop (a+1))
  by_cases hc:L[a]=c
  . have lL:de c L a (k+1)=a::de c L (a+1) k:=by
     unfold de
     rw [List.range'_succ,List.filter_cons,if_pos (by simp [List.getElem?_eq_getElem ha,hc])]
    have ih:=sP (c:=c) (L:=L) k (a+1) (a+1) (by omega) (Nat.le_refl _) h' t' e'
    rw [eN,if_pos hc,e'] at e
    cases e
    have e3:cutAt L s (a::de c L (a+1) k) L.length=(L.drop s).take (a-s)::cutAt L (a+1) (de c L (a+1) k) L.length:=rfl
    rw [lL,e3,ih]
    simp
  . have lL:de c L a (k+1)=de c L (a+1) k:=by
     unfold de
     rw [List.range'_succ,List.filter_cons,if_neg (by simp [List.getElem?_eq_getElem ha,hc])]
    have ih:=sP (c:=c) (L:=L) k (a+1) s (by omega) (by omega) h' t' e'
    rw [eN,if_neg hc,e'] at e
    cases e
    rw [lL,ih]
    have e4:(L.drop s).take (a+1-s)=(L.drop s).take (a-s)++[L[a]]:=by
     have e5:a+1-s=(a-s)+1:=by omega
     rw [e5,List.take_add_one]
     have e6:(L.drop s)[a-s]?=some L[a]:=by
      rw [List.getElem?_drop,show s+(a-s)=a by omega,List.getElem?_eq_getElem ha]
     rw [e6]
     rfl
    rw [e4]
    simp
def wO (l:List Nat):Str:=⟨l.toArray⟩
theorem pX (z:Str) (yR:List Nat):partsBetween z yR 1=(cutAt z.cps.toList 0 yR z.length).map wO:=by
 unfold partsBetween cutAt
 rw [List.map_map]
 refine List.map_congr_left λp _=>?_
 show strSub z p.1 p.2=wO _
 unfold strSub wO
 congr 1
 apply Array.toList_inj.mp
 simp [Array.toList_extract,List.extract_eq_take_drop]
theorem oy (z:Str) (c:Nat) (hc:c<256):Txt.split z ⟨#[c]⟩=(eN c z.cps.toList).map wO:=by
 have gen:partsBetween z (occurrences z ⟨#[c]⟩ 0 z.length (z.length+1)) 1=(eN c z.cps.toList).map wO:=by
  obtain ⟨h,t,e⟩:=qL c z.cps.toList
  have hn:z.cps.toList.length=z.length:=by simp [Str.length]
  have k:=sP (c:=c) (L:=z.cps.toList) z.length 0 0 (by omega) (Nat.le_refl _) h t (by simpa using e)
  rw [Ex,pX,← hn,hn,e]
  rw [hn] at k
  rw [k]
  simp
 have kz:1<=Builtin.Str.strKind z:=by
  unfold Builtin.Str.strKind
  split
  . exact Nat.le_refl _
  . split <;> decide
 have kc:Builtin.Str.strKind (⟨#[c]⟩:Str)=1:=by
  unfold Builtin.Str.strKind
  rw [if_pos (by simp [hc])]
 unfold Txt.split
 split
 . rename_i h
   rw [kc] at h
   have h0:z.length<1:=by
    rcases Bool.or_eq_true_iff.mp h with h | h
    . exact of_decide_eq_true h
    . exact absurd (of_decide_eq_true h) (by omega)
   have hz:z=⟨#[]⟩:=by
    cases z with
    | mk cps=>
     have:cps.size=0:=by simpa [Str.length] using h0
     rw [Array.eq_empty_of_size_eq_zero this]
   subst hz
   rfl
 . split
   . rename_i h1 h2
     have e0:=List.isEmpty_iff.mp h2
     rw [e0] at gen
     have e1:partsBetween z [] 1=[z]:=by
      have:=pX z []
      rw [this]
      simp [cutAt,wO,Str.length]
      rw [List.take_of_length_le (by simp)]
     rw [e1] at gen
     exact gen
   . exact gen
theorem eS (c:Nat) (rows:List Str):(Txt.join ⟨#[c]⟩ rows).cps.toList=gw c (rows.map λz=>z.cps.toList):=by
 show (glued ⟨#[c]⟩ rows).cps.toList=_
 rw [StrLaws.glued_eq_join]
 induction rows with
 | nil=>rfl
 | cons x r ih=>
  cases r with
  | nil=>rfl
  | cons y r=>
   show (x.cps ++ #[c]++(Str.join ⟨#[c]⟩ (y::r)).cps).toList=x.cps.toList++c::gw c _
   rw [Array.toList_append,Array.toList_append,ih]
   simp
theorem uA {c:Nat}{rows:List Str}(hc:c<256) (h0:rows≠[]) (h:∀z∈rows,c∉z.cps.toList):Txt.split (Txt.join ⟨#[c]⟩ rows) ⟨#[c]⟩=rows:=by
 rw [oy _ c hc,eS,wN (by simpa using h0) (λl hl=>by
  obtain ⟨z,hz,rfl⟩:=List.mem_map.mp hl
  exact h z hz),List.map_map]
 have e:(wO∘λz:Str=>z.cps.toList)=_root_.id:=by
  funext z
  cases z with
  | mk cps=>simp [wO]
 rw [e,List.map_id]
end PySem
namespace L2
open PySem PySem.Spec PyProof.Rows
theorem oA {env:Env}(f:Str×NameKind->List (Str×Addr)->Sem (ForInStep (List (Str×Addr))))
 (hf:∀n k cs,f (n,k) cs=if (k == NameKind.free)=true then (cellOf env n >>= λa=>pure (ForInStep.yield ((n,a)::cs))) else pure (ForInStep.yield cs)) :
 ∀(names:List (Str×NameKind)) (acc:List (Str×Addr)),(∀x∈names,x.2=NameKind.free->∃c,env.cells.lookup x.1=some c)->(∀x c,acc.lookup x=some c->env.cells.lookup x=some c)->
  ∃cl,forIn names acc f=(pure cl:Sem (List (Str×Addr)))/\(∀x c,cl.lookup x=some c->env.cells.lookup x=some c)/\(∀x c,acc.lookup x=some c->∃c',cl.lookup x=some c')/\∀x∈names,x.2=NameKind.free->∃c,cl.lookup x.1=some c
 | [],acc,_,ha=>⟨acc,by simp,ha,λx c e=>⟨c,e⟩,λx hx=>by simp at hx⟩
 | (n,k)::r,acc,hn,ha=>by
  have uf:∀x∈r,x.2=NameKind.free->∃c,env.cells.lookup x.1=some c:=λx hx=>hn x (List.mem_cons_of_mem _ hx)
  cases hk:k == NameKind.free with
  | false=>
   obtain ⟨cl,e,h1,h2,h3⟩:=oA f hf r acc uf ha
   refine ⟨cl,?_,h1,h2,λx hx hz=>?_⟩
   . rw [List.forIn_cons,hf,hk,if_neg Bool.false_ne_true,pure_bind]
     exact e
   . rcases List.mem_cons.mp hx with z | hx
     . subst z
       have ny:k=NameKind.free:=hz
       rw [ny] at hk
       exact absurd hk (by decide)
     . exact h3 x hx hz
  | true=>
   have j0:k=NameKind.free:=by cases k <;> first | rfl | exact absurd hk (by decide)
   obtain ⟨c,hc⟩:=hn (n,k) List.mem_cons_self j0
   have cH:env.cells.lookup n=some c:=hc
   obtain ⟨cl,e,h1,h2,h3⟩:=oA f hf r ((n,c)::acc) uf (λx d ed=>by
    rw [List.lookup_cons] at ed
    cases hx:x == n with
    | true=>
     rw [hx] at ed
     rw [eq_of_beq hx,cH]
     exact ed
    | false=>
     rw [hx] at ed
     exact ha x d ed)
   have rP:∃c',cl.lookup n=some c':=h2 n c (by rw [List.lookup_cons,beq_self_eq_true])
   refine ⟨cl,?_,h1,λx d ed=>?_,λx hx hz=>?_⟩
   . rw [List.forIn_cons,hf,hk,if_pos rfl]
     unfold cellOf
     rw [cH]
     rw [pure_bind,pure_bind]
     exact e
   . cases hx:x == n with
     | true=>
      rw [eq_of_beq hx]
      exact rP
     | false=>
      refine h2 x d ?_
      rw [List.lookup_cons,hx]
      exact ed
   . rcases List.mem_cons.mp hx with z | hx
     . subst z
       exact rP
     . exact h3 x hx hz
theorem vF {scope:Scope}{env:Env}(h:∀x∈scope.names,x.2=NameKind.free->∃c,env.cells.lookup x.1=some c) :
 ∃cl,closureFor scope env=pure cl/\(∀x c,cl.lookup x=some c->env.cells.lookup x=some c)/\∀x∈scope.names,x.2=NameKind.free->∃c,cl.lookup x.1=some c:=by
 obtain ⟨cl,e,h1,_,h3⟩:=oA (env:=env) (λp cs=>if (p.2 == NameKind.free)=true then (cellOf env p.1 >>= λa=>pure (ForInStep.yield ((p.1,a)::cs))) else pure (ForInStep.yield cs)) (λn k cs=>rfl) scope.names [] h (λx c z=>by simp at z)
 refine ⟨cl,?_,h1,h3⟩
 have key:closureFor scope env=(forIn scope.names ([]:List (Str×Addr)) (λ(p:Str×NameKind) cs=>if (p.2 == NameKind.free)=true then (cellOf env p.1 >>= λa=>pure (ForInStep.yield ((p.1,a)::cs))) else pure (ForInStep.yield cs)) >>= λcs=>pure cs):=rfl
 rw [key,e,pure_bind]
theorem lookup_mem {names:List (Str×NameKind)}{x:Str}{k:NameKind}(h:names.lookup x=some k):(x,k)∈names:=by
 induction names with
 | nil=>simp at h
 | cons p r ih=>
  obtain ⟨n,j⟩:=p
  rw [List.lookup_cons] at h
  cases hx:x == n with
  | true=>
   rw [hx] at h
   have e:j=k:=Option.some.inj h
   rw [eq_of_beq hx,e]
   exact List.mem_cons_self
  | false=>
   rw [hx] at h
   exact List.mem_cons_of_mem _ (ih h)
def mZ (env:Env) (p:Str×NameKind):Str×NameKind:=if (p.2 == NameKind.free && env.scope.kind == .function && env.kindOf p.1 == some .cell) then (p.1,.cell) else p
theorem pe (scope:Scope) (env:Env):(relabel scope env).names=scope.names.map (mZ env):=rfl
theorem m7 {env:Env} : ∀(names:List (Str×NameKind)) (x:Str),(names.map (mZ env)).lookup x=(names.lookup x).map λk=>(mZ env (x,k)).2
 | [],x=>rfl
 | (n,k)::r,x=>by
  rw [List.map_cons]
  have e1:(mZ env (n,k)).1=n:=by unfold mZ; split <;> rfl
  have:mZ env (n,k)=(n,(mZ env (n,k)).2):=Prod.ext e1 rfl
  rw [this,List.lookup_cons,List.lookup_cons]
  cases hx:x == n with
  | true=>
   rw [eq_of_beq hx]
   rfl
  | false=>exact m7 r x
theorem G8 {scope:Scope}{env:Env}{x:Str}(h:scope.names.lookup x=some .free):(relabel scope env).names.lookup x=some .cell\/(relabel scope env).names.lookup x=some .free:=by
 rw [pe,m7,h]
 unfold mZ
 simp only [Option.map_some]
 split
 . exact .inl rfl
 . exact .inr rfl
theorem Ey {scope:Scope}{env:Env}{x:Str}(hc:∀y∈scope.names,y.2≠.cell) (h:(relabel scope env).names.lookup x=some .cell\/(relabel scope env).names.lookup x=some .free):scope.names.lookup x=some .free:=by
 rw [pe,m7] at h
 cases e:scope.names.lookup x with
 | none=>rw [e] at h; rcases h with h | h <;> cases h
 | some k=>
  rw [e] at h
  have hm:=lookup_mem e
  have nk:k≠.cell:=hc _ hm
  simp only [Option.map_some,Option.some.injEq] at h
  by_cases hf:k=.free
  . rw [hf]
  . have hb:(k == NameKind.free)=false:=by cases k <;> first | rfl | exact absurd rfl hf
    have:(mZ env (x,k)).2=k:=by
     unfold mZ
     simp [hb]
    rw [this] at h
    rcases h with h | h
    . exact absurd h nk
    . exact absurd h hf
def cQ (X:Cx) (N:List Str) (scope:Scope) (cl:List (Str×Addr)) (C:Addr) (s:Shared) (H:Hp) (fp:List Addr) (pn:List (Addr×Obj)):Cx where
 prog:=X.prog
 w:=X.w
 K:=X.K
 mg:=X.mg
 base:=X.base
 A:=X.A
 N:=N
 kj:=s
 LI:=H
 env:=compEnvC scope cl C X.env
 outer:=X.stack
 stack:=X.stack
 ex:=fp
 fn:=λ_=>false
 calm:=true
 pn:=pn
 xe:=λ_ _=>False
structure nA (X:Cx) (N:List Str) (js:List (Option Nat)) (scope:Scope):Prop where
 kind:scope.kind=.function
 nocell:∀y∈scope.names,y.2≠.cell
 names:∀y∈scope.names,y.2=.local->scope.names.lookup y.1=some .local
 frees:∀y∈scope.names,y.2=.free->X.env.kindOf y.1=some .cell\/X.env.kindOf y.1=some .free
 len:js.length=N.length
 pull:∀(i j:Nat) (x:Str),js[i]?=some (some j)->N[i]?=some x->X.N[j]?=some x/\scope.names.lookup x=some .free
def eT (xn:List Str) (names:List (Str×NameKind)):List Str->List (Option Nat)->Bool
 | [],[]=>true
 | _::N,none::js=>eT xn names N js
 | x::N,some j::js=>(match xn[j]? with | some y=>decide (y=x) | none=>false) && (match names.lookup x with | some .free=>true | _=>false) && eT xn names N js
 | _,_=>false
theorem oB {xn:List Str}{names:List (Str×NameKind)} : ∀{N:List Str}{js:List (Option Nat)},eT xn names N js=true->js.length=N.length
 | [],[],_=>rfl
 | x::N,none::js,h=>by
  have:=oB (N:=N) (js:=js) (by simpa [eT] using h)
  simp [this]
 | x::N,some j::js,h=>by
  have h':eT xn names N js=true:=by
   simp only [eT,Bool.and_eq_true] at h
   exact h.2
  simp [oB h']
 | [],_::_,h=>by simp [eT] at h
 | _::_,[],h=>by simp [eT] at h
theorem pY {xn:List Str}{names:List (Str×NameKind)} : ∀{N:List Str}{js:List (Option Nat)},eT xn names N js=true->∀(i j:Nat) (x:Str),js[i]?=some (some j)->N[i]?=some x->xn[j]?=some x/\names.lookup x=some .free
 | [],[],_,i,j,x,e,_=>by simp at e
 | y::N,none::js,h,i,j,x,e1,e2=>by
  cases i with
  | zero=>simp at e1
  | succ i=>
   exact pY (N:=N) (js:=js) (by simpa [eT] using h) i j x (by simpa using e1) (by simpa using e2)
 | y::N,some j'::js,h,i,j,x,e1,e2=>by
  simp only [eT,Bool.and_eq_true] at h
  obtain ⟨⟨h1,h2⟩,h3⟩:=h
  cases i with
  | zero=>
   have ej:j'=j:=by simpa using e1
   have ey:y=x:=by simpa using e2
   subst ej ey
   constructor
   . cases q:xn[j']? with
     | none=>rw [q] at h1; cases h1
     | some z=>
      rw [q] at h1
      rw [of_decide_eq_true h1]
   . cases q:names.lookup y with
     | none=>rw [q] at h2; cases h2
     | some k=>
      rw [q] at h2
      cases k <;> first | rfl | cases h2
  | succ i=>exact pY h3 i j x (by simpa using e1) (by simpa using e2)
 | [],_::_,h,_,_,_,_,_=>by simp [eT] at h
 | _::_,[],h,_,_,_,_,_=>by simp [eT] at h
def isFn:ScopeKind->Bool
 | .function=>true
 | _=>false
def uB (xn:List Str) (xs:List (Str×NameKind)) (N:List Str) (js:List (Option Nat)) (scope:Scope):Bool:=
 isFn scope.kind && (scope.names.all λy=>match y.2 with
  | .cell=>false
  | .local=>(match scope.names.lookup y.1 with | some .local=>true | _=>false)
  | .free=>(match xs.lookup y.1 with | some .cell=>true | some .free=>true | _=>false)
  | _=>true) && eT xn scope.names N js
theorem nA.of {X:Cx}{N:List Str}{js:List (Option Nat)}{scope:Scope}(h:uB X.N X.env.scope.names N js scope=true):nA X N js scope:=by
 unfold uB at h
 simp only [Bool.and_eq_true,List.all_eq_true] at h
 obtain ⟨⟨h1,h2⟩,h3⟩:=h
 refine ⟨?_,λy hy e=>?_,λy hy e=>?_,λy hy e=>?_,oB h3,pY h3⟩
 . cases q:scope.kind <;> rw [q] at h1 <;> first | rfl | cases h1
 . have:=h2 y hy
   rw [e] at this
   cases this
 . have:=h2 y hy
   rw [e] at this
   cases q:scope.names.lookup y.1 with
   | none=>rw [q] at this; cases this
   | some k=>rw [q] at this; cases k <;> first | rfl | cases this
 . have:=h2 y hy
   rw [e] at this
   show X.env.scope.names.lookup y.1=some .cell\/X.env.scope.names.lookup y.1=some .free
   cases q:X.env.scope.names.lookup y.1 with
   | none=>rw [q] at this; cases this
   | some k=>rw [q] at this; cases k <;> first | exact .inl rfl | exact .inr rfl | cases this
def qM (js:List (Option Nat)) (σ:St):St:=js.map λoj=>match oj with | none=>none | some j=>(σ[j]?).getD none
section
variable {X:Cx}{pins:List (Addr×Obj)}{σ:St}{H:Hp}{s:Shared}
theorem Inv.enter {N:List Str}{js:List (Option Nat)}{scope:Scope}{cl:List (Str×Addr)}{C:Addr}{fp:List Addr}{h':Heap}{m:Str->Option Value}{tk:Nat}(I:Inv X pins σ H s) (S:nA X N js scope) (hc:X.calm=true)
 (nB:∀x c,cl.lookup x=some c->X.env.cells.lookup x=some c) (wQ:∀x∈scope.names,x.2=NameKind.free->∃c,cl.lookup x.1=some c) (hC:C=s.heap.objs.size)
 (hf:∀b∈fp,iP X pins H b) (hl:∀b∈fp,b<s.heap.objs.size) (hn:h'.Ns C m) (k:∀b o,s.heap.get? b=some o->h'.get? b=some o) :
 Inv (cQ X N scope cl C s H fp (X.pn++pins)) [] (qM js σ) H { s with heap:=h',toks:=tk }:=by
 have lt:∀b o,s.heap.get? b=some o->b≠C:=λb o e=>by
  rw [hC]
  exact Nat.ne_of_lt (Heap.lt_size e)
 have Ez:∀x,scope.names.lookup x=some .free->∃c,cl.lookup x=some c:=λx e=>wQ _ (lookup_mem e) rfl
 have stk:∀b,b≠X.env.locals->b∉X.fs->b∉oZ X.stack:=λb h1 h2 z=>(List.mem_cons.mp (I.ud b z)).elim h1 h2
 have ok:(cQ X N scope cl C s H fp (X.pn++pins)).Ok:=by
  refine ⟨I.ok.mod,S.kind,I.ok.glob,I.ok.blt,Nat.le_of_eq hC.symm,λx y c e1 e2=>I.ok.inj x y c (nB x c e1) (nB y c e2),λx hx=>Ez x (Ey S.nocell hx),λx c e _=>?_,λ_=>I.ok.hd hc,
   I.ok.frames,.inl rfl,λb hb=>⟨?_,λx c e=>(hf b hb).2.2.2.2.1 x c (nB x c e)⟩,I.bs,Nat.le_trans I.ok.bsz I.sz,λb o e hb=>?_,λb hb=>stk b (hf b hb).2.1 (hf b hb).2.2.1,I.stack,I.Bd⟩
  . cases e
  . show b≠C
    rw [hC]
    exact Nat.ne_of_lt (hl b hb)
  . rcases (hf b hb).2.2.2.1 with z | z
    . exact I.ok.noex b o e z
    . exact absurd (Nat.lt_of_lt_of_le (Heap.lt_size e) (Nat.le_trans I.ok.bsz z)) (Nat.lt_irrefl _)
 refine ⟨ok,rfl,I.bare,Un.kept k,⟨m,hn,λi x v e1 e2 e3=>?_⟩,λx c e=>?_,?_,λx c e=>I.freeC x c (nB x c e),λp hp=>?_,I.hok.kept k,?_⟩
 . -- a name that the block closes over
   have yS:(qM js σ)[i]?=some (some v):=e2
   unfold qM at yS
   rw [List.getElem?_map] at yS
   cases q:js[i]? with
   | none=>rw [q] at yS; cases yS
   | some oj=>
    rw [q] at yS
    cases oj with
    | none=>cases yS
    | some j=>
     have ev:(σ[j]?).getD none=some v:=Option.some.inj yS
     have ev':σ[j]?=some (some v):=by
      cases z:σ[j]? with
      | none=>rw [z] at ev; cases ev
      | some o=>rw [z] at ev; exact congrArg some ev
     obtain ⟨n1,n2⟩:=S.pull i j x q e1
     obtain ⟨c,cH⟩:=Ez x n2
     have hcX:=nB x c cH
     obtain ⟨m0,_,hl0⟩:=I.loc
     have kx:=S.frees (x,.free) (lookup_mem n2) rfl
     have RF:X.env.kindOf x=some .cell\/X.env.kindOf x=some .free:=kx
     obtain ⟨u,ru,lk⟩:=hl0 j x v n1 ev' (RF.elim (λz=>.inr (.inl z)) λz=>.inr (.inr z))
     refine ⟨u,ru,.inr ⟨G8 n2,c,cH,?_⟩⟩
     rcases lk with ⟨kl,_⟩ | ⟨_,c2,e2,ic⟩
     . rcases RF with z | z <;> (rw [kl] at z; cases z)
     . rw [hcX] at e2
       cases e2
       obtain ⟨o,ho,hd⟩:=ic
       exact ⟨o,k c o ho,hd⟩
 . obtain ⟨v,o,ho,hd⟩:=I.cell x c (nB x c e)
   exact ⟨v,o,k c o ho,hd⟩
 . show H C=none
   rw [hC]
   exact I.hok.fresh (Nat.le_refl _)
 . have ju:p∈X.pn++pins:=by simpa [cQ] using hp
   obtain ⟨e,n,ne,nf,d⟩:=I.pin p ju
   exact ⟨k _ _ e,n,lt _ _ e,stk _ ne nf,d⟩
 . show (qM js σ).length=N.length
   unfold qM
   rw [List.length_map]
   exact S.len
theorem Inv.left {N:List Str}{scope:Scope}{cl:List (Str×Addr)}{C:Addr}{fp:List Addr}{σc:St}{H':Hp}{s':Shared}{pn:List (Addr×Obj)}(I:Inv X pins σ H s) (hf:∀b∈fp,iP X pins H b)
 (J:Inv (cQ X N scope cl C s H fp pn) [] σc H' s'):Inv X pins σ H' s':=
 I.P7 (ch:=fp) J.os J.base J.hok J.bare λb hb=>⟨(hf b hb).2.2.2.1,(hf b hb).2.1,(hf b hb).2.2.2.2.1,(hf b hb).2.2.2.2.2⟩
end
def yT (X:Cx) (ifs:List Expr) (t:TT):Prop:=
 ∀(pins:List (Addr×Obj)) (s:Shared) (σ:St) (H:Hp) (Q:Bool->Hp->Prop),Inv X pins σ H s->t σ H Q->
  wpAny (model X.prog X.w) X.A (forIn ifs true λc r=>if r=true then do let ok ← isTrue c X.env (eval c X.env); pure (ForInStep.yield ok) else pure (ForInStep.yield r)) (TP X pins σ Q) X.xe s
def sQ:TT:=λ_ H Q=>Q true H
theorem br {X:Cx} : yT X [] sQ:=λpins s σ H Q I h=>by
 rw [List.forIn_nil]
 exact wpAny_pure ⟨H,I,h⟩
theorem oC {X:Cx}{c:Expr}{t:TT}(hc:PT X c t):yT X [c] t:=λpins s σ H Q I h=>by
 rw [List.forIn_cons]
 refine wpAny_bind ?_
 rw [if_pos rfl]
 refine wpAny_bind (aP (hc pins s σ H Q I h) λb s1 h1=>?_)
 refine wpAny_pure ?_
 show wpAny _ _ (forIn [] b _) _ _ _
 rw [List.forIn_nil]
 exact wpAny_pure h1
theorem yU {prog:Program}{w:World}{A:Around}{R:Result->Shared->Prop}{s:Shared}{elt target iter:Expr}{ifs:List Expr}{scope:Scope}{pos:Pos}{it acc:Value}{env:Env}(I:Nat->Shared->Prop)
 (turn:∀n s,I n s->wpAny (model prog w) A (pyNext it) (λr di=>match r with
  | none=>R (.ok .next) di
  | some v=>wpAny (model prog w) A (letOwnedTupleGo target it v) (λ_ RG=>wpAny (model prog w) A (assign target env v) (λ_ vz=>
   wpAny (model prog w) A (forIn ifs true λc r=>if r=true then do let ok ← isTrue c env (eval c env); pure (ForInStep.yield ok) else pure (ForInStep.yield r)) (λok Km=>
    if ok=true then wpAny (model prog w) A (eval elt env) (λx abH=>
     wpAny (model prog w) A (call (.builtin "list.append") [acc,x]) (λ_ abI=>∃m,m<n/\I m abI) (λ_ _=>False) abH) (λ_ _=>False) Km
    else ∃m,m<n/\I m Km) (λ_ _=>False) vz) (λ_ _=>False) RG) (λ_ _=>False) di) (λ_ _=>False) s)
 (n:Nat) (h:I n s) :
 codeAny (model prog w) A (.compLoop (.ListComp elt [⟨target,iter,ifs,0⟩] scope pos) 0 it acc env) R s:=by
 refine codeAny_loop rfl I (λn s hI=>?_) n h
 show wpAny _ A ((compTurn (.ListComp elt [⟨target,iter,ifs,0⟩] scope pos) 0 it acc env).onRaise (λx=>do noteFrame x env; theTreesLotGoes x)) _ _ s
 refine wpAny_noted ?_
 rw [compTurn_list]
 refine wpAny_bind (wpAny_standAt (wpAny_bind (wpAny_mono (turn n s hI) (λr di gu=>?_) λ_ _ h'=>h'.elim)))
 cases r with
 | none=>exact wpAny_pure gu
 | some v=>
  refine wpAny_bind (wpAny_mono gu (λ_ RG abJ=>?_) λ_ _ h'=>h'.elim)
  refine wpAny_bind (wpAny_mono abJ (λ_ vz jA=>wpAny_bind (wpAny_mono jA (λok Km jB=>?_) λ_ _ h'=>h'.elim)) λ_ _ h'=>h'.elim)
  cases ok with
  | false=>exact wpAny_pure ⟨rfl,jB⟩
  | true=>
   exact wpAny_bind (wpAny_bind (wpAny_mono jB (λx abH vG=>wpAny_bind (wpAny_mono vG (λ_ abI eG=>wpAny_pure (wpAny_pure ⟨rfl,eG⟩)) λ_ _ h'=>h'.elim)) λ_ _ h'=>h'.elim))
def Bx (D:Addr) (g:TG) (ti:TT) (te:TE) (J:It) (W:Nat->Nat->St->Hp->Prop) (Q:Hp->Prop):Prop:=∀i m σ H,W i m σ H->
 (J.stop i H/\Q H)\/(J.go i H/\∀x H',J.yld i H x H'->g x σ H' λiQ H2=>ti iQ H2 λb H3=>
  if b=true then te iQ H3 λy H4=>∃acc,H4 D=some (.lst acc)/\acc.length<sizeLine/\∃m',m'<m/\W (i+1) m' iQ (upd H4 D (.lst (acc++[y])))
  else ∃m',m'<m/\W (i+1) m' iQ H3)
def Mm (js:List (Option Nat)) (wi:TI) (g:TG) (ti:TT) (te:TE):TE:=λσ H Q=>wi σ H λJ H1=>∀D,H1 D=none->
 ∃W:Nat->Nat->St->Hp->Prop,(∃m,W 0 m (qM js σ) (upd H1 D (.lst [])))/\Bx D g ti te J W (λH'=>Q (.ref D) H')
section
variable {X:Cx}{N:List Str}{js:List (Option Nat)}{scope:Scope}{elt tg iter:Expr}{ifs:List Expr}{pos:Pos}{wi:TI}{g:TG}{ti:TT}{te:TE}
theorem EA {use:Option (Value->Sem Unit)}{R:Value->Shared->Prop}(S:nA X N js scope) (hc:X.calm=true) (hi:PI X tg iter wi)
 (hg:∀cl C s H fp pn,PG (cQ X N scope cl C s H fp pn) tg g) (ht:∀cl C s H fp pn,yT (cQ X N scope cl C s H fp pn) ifs ti) (he:∀cl C s H fp pn,PE (cQ X N scope cl C s H fp pn) elt te)
 (hs:∀x,foldedSetIterable iter X.env x=pure x){pins:List (Addr×Obj)}{s:Shared}{σ:St}{H:Hp}{Q:V->Hp->Prop}(I:Inv X pins σ H s) (h:Mm js wi g ti te σ H Q)
 (hR:∀D C (H':Hp) (s':Shared),Inv X pins σ H' s'->(∃m,s'.heap.Ns C m)->H' C=none->C≠X.env.locals->(C∈X.ex\/X.kj.heap.objs.size<=C)->(∀x c,X.env.cells.lookup x=some c->c≠C)->(∀p∈X.pn++pins,p.1≠C)->Q (.ref D) H'->
  compPost (model X.prog X.w) X.A X.xe use R (.ref D) C (.ok .next) s') :
 wpAny (model X.prog X.w) X.A (comprehension (.ListComp elt [⟨tg,iter,ifs,0⟩] scope pos) scope X.env (firstIterPos [⟨tg,iter,ifs,0⟩] pos) (newList []) false (eval iter X.env) use) R X.xe s:=by
 obtain ⟨cl,Qy,nB,wQ⟩:=vF (scope:=scope) (env:=X.env) λx hx hk=>I.ok.has x.1 (S.frees x hx hk)
 refine wpAny_comprehension_free (use:=use) rfl hs Qy S.kind S.names (aP (hi pins s σ H _ I h) λxv s1 h1=>aP h1 λLP s2 h2=>?_)
 obtain ⟨it,fp,tn,J,H2,e,I2,T,jW,f2,q2⟩:=h2
 subst e
 refine wpAny_newObj_type (wpAny_newFunctionEnv S.nocell (by intro y hy; simp at hy) (λgu G9 Ha=>?_) S.kind)
 dsimp only at G9 Ha ⊢
 have I3:Inv X pins σ (upd H2 s2.heap.objs.size (.lst [])) { s2 with heap:=s2.heap.push { cls:=.type "list",data:=.seq ([]:List Value).toArray },toks:=s2.toks }:=I2.GX .nil (by show 0<=sizeLine; decide)
 have lt2:∀b∈fp,b<s2.heap.objs.size:=λb hb=>let ⟨o,e,_⟩:=T.obj _ _ jW b hb; Heap.lt_size e
 have f3:∀b∈fp,iP X pins (upd H2 s2.heap.objs.size (.lst [])) b:=λb hb=>⟨by rw [ag (Nat.ne_of_lt (lt2 b hb))]; exact (f2 b hb).1,(f2 b hb).2⟩
 obtain ⟨W,⟨m0,w0⟩,turn⟩:=q2 s2.heap.objs.size (I2.hok.fresh (Nat.le_refl _))
 generalize By:({ s2 with heap:=s2.heap.push { cls:=.type "list",data:=.seq ([]:List Value).toArray },toks:=s2.toks } : Shared)=s3 at I3
 have e3:s3.heap=s2.heap.push { cls:=.type "list",data:=.seq ([]:List Value).toArray }:=by rw [← By]
 have z3:s3.heap.objs.size=s2.heap.objs.size+1:=by rw [e3,Heap.size_push]
 have k1:∀b o,s3.heap.get? b=some o->gu.get? b=some o:=λb o e=>by
  have hb:b<s3.heap.objs.size:=Heap.lt_size e
  refine Ha.extBut b o ?_ (Heap.get?_push_of_some _ (by rw [← e3]; exact e))
  rw [← e3]
  exact Nat.ne_of_lt hb
 have hC:(s2.heap.push { cls:=.type "list",data:=.seq ([]:List Value).toArray }).objs.size=s3.heap.objs.size:=by rw [e3]
 have I4:=I3.enter (N:=N) (js:=js) (scope:=scope) (cl:=cl) (fp:=fp) (C:=(s2.heap.push { cls:=.type "list",data:=.seq ([]:List Value).toArray }).objs.size) (h':=gu) (tk:=s2.toks+([]:List (Str×Value)).length) S hc nB wQ hC f3
  (λb hb=>by rw [z3]; exact Nat.lt_succ_of_lt (lt2 b hb)) G9 k1
 have RH:tn 0 gu:=T.keep _ _ _ jW λb hb o e=>k1 b o (by rw [e3]; exact Heap.get?_push_of_some _ e)
 generalize hCC:(s2.heap.push { cls:=.type "list",data:=.seq ([]:List Value).toArray }).objs.size=C at G9 Ha hC I4 ⊢
 have Mn:({ s3 with heap:=gu,toks:=s2.toks+([]:List (Str×Value)).length } : Shared) = { s2 with heap:=gu,toks:=s2.toks+([]:List (Str×Value)).length }:=by rw [← By]
 rw [Mn] at I4
 have fY:∀{H':Hp},(∀b∈fp,H' b=none)->∀b∈fp,iP (cQ X N scope cl C s3 (upd H2 s2.heap.objs.size (.lst [])) fp (X.pn++pins)) [] H' b:=λhn b hb=>by
  obtain ⟨f0,fa,fb,fc,fd,fe⟩:=f3 b hb
  refine ⟨hn b hb,?_,λz=>(List.mem_cons.mp (I3.ud b z)).elim fa fb,.inl hb,λx c e=>fd x c (nB x c e),λp hp=>fe p (by simpa [cQ] using hp)⟩
  show b≠C
  rw [hC,z3]
  exact Nat.ne_of_lt (Nat.lt_succ_of_lt (lt2 b hb))
 have loop:codeAny (model X.prog X.w) X.A (.compLoop (.ListComp elt [⟨tg,iter,ifs,0⟩] scope pos) 0 (.ref it) (.ref s2.heap.objs.size) (compEnvC scope cl C X.env))
  (compPost (model X.prog X.w) X.A X.xe use R (.ref s2.heap.objs.size) C) { s2 with heap:=gu,toks:=s2.toks+([]:List (Str×Value)).length }:=by
  refine yU (λn s'=>∃i bu H',Inv (cQ X N scope cl C s3 (upd H2 s2.heap.objs.size (.lst [])) fp (X.pn++pins)) [] bu H' s'/\tn i s'.heap/\(∀b∈fp,H' b=none)/\W i n bu H') ?_ m0
   ⟨0,_,_,I4,RH,λb hb=>(f3 b hb).1,w0⟩
  rintro n s5 ⟨i,Qz,H5,I5,Bi,IE,w5⟩
  rcases turn i n Qz H5 w5 with ⟨stop,qn⟩ | ⟨go,step⟩
  . refine aP (T.done (cQ X N scope cl C s3 (upd H2 s2.heap.objs.size (.lst [])) fp (X.pn++pins)) rfl rfl rfl rfl i [] s5 Qz H5 (λ_ _=>False) I5 (fY IE) Bi stop) λr s6 ⟨hr,I6⟩=>?_
    subst hr
    have I7:Inv X pins σ H5 s6:=I3.left f3 I6
    have hCs:X.kj.heap.objs.size<=C:=by rw [hC]; exact I3.sz
    refine hR s2.heap.objs.size C H5 s6 I7 (let ⟨m,hn,_⟩:=I6.loc; ⟨m,hn⟩) I6.free ?_ (.inr hCs) (λx c e z=>?_) (λp hp z=>?_) qn
    . rw [hC]
      exact Nat.ne_of_gt I3.lt
    . obtain ⟨v,o,ho,_⟩:=I3.cell x c e
      have:=Heap.lt_size ho
      rw [z,hC] at this
      exact Nat.lt_irrefl _ this
    . obtain ⟨e,_⟩:=I3.pin p hp
      have:=Heap.lt_size e
      rw [z,hC] at this
      exact Nat.lt_irrefl _ this
  . refine aP (T.item (cQ X N scope cl C s3 (upd H2 s2.heap.objs.size (.lst [])) fp (X.pn++pins)) rfl rfl rfl rfl i [] s5 Qz H5 (λ_ _=>False) I5 (fY IE) Bi go) λr s6 ⟨u,hr,h6⟩=>?_
    subst hr
    refine aP h6 λ_ s7 ⟨x,H7,I7,r7,y7,Mo,fr7⟩=>?_
    have I7':=I7.pinned (fY fr7) (T.obj _ _ Mo)
    have again:∀{n':Nat}{EB:St}{H8:Hp}{s8:Shared},Inv (cQ X N scope cl C s3 (upd H2 s2.heap.objs.size (.lst [])) fp (X.pn++pins)) ([]++pO fp s7.heap) EB H8 s8->n'<n->W (i+1) n' EB H8->
     ∃m,m<n/\∃i bu H',Inv (cQ X N scope cl C s3 (upd H2 s2.heap.objs.size (.lst [])) fp (X.pn++pins)) [] bu H' s8/\tn i s8.heap/\(∀b∈fp,H' b=none)/\W i m bu H':=λ{n' EB H8 s8} I8 hm w8=>by
     refine ⟨n',hm,i+1,EB,H8,I8.oo,T.keep _ _ _ Mo λb hb o e=>(I8.pin (b,o) (List.mem_append_right _ (List.mem_append_right _ (lg hb e)))).1,λb hb=>?_,w8⟩
     obtain ⟨o,e,d⟩:=T.obj _ _ Mo b hb
     exact (I8.pin (b,o) (List.mem_append_right _ (List.mem_append_right _ (lg hb e)))).2.1
    refine aP (hg _ _ _ _ _ _ _ s7 Qz H7 x u _ I7' r7 (step x H7 y7)) λ_ s8 ⟨EB,H8,I8,q8⟩=>?_
    refine aP (ht _ _ _ _ _ _ _ s8 EB H8 _ I8 q8) λok s9 ⟨H9,I9,q9⟩=>?_
    cases ok with
    | false=>
     rw [if_neg Bool.false_ne_true] at q9 ⊢
     obtain ⟨m',hm,w9⟩:=q9
     exact again I9 hm w9
    | true=>
     rw [if_pos rfl] at q9 ⊢
     refine aP (he _ _ _ _ _ _ _ s9 EB H9 _ I9 q9) λyv EC ⟨y,IT,I10,r10,acc,hD,hl,m',hm,w10⟩=>?_
     refine aP (cz _ EC EB IT (.ref s2.heap.objs.size) [y] (.ref s2.heap.objs.size) [yv] (λ_ H'=>H'=upd IT s2.heap.objs.size (.lst (acc++[y]))) I10 rfl (.cons r10 .nil) ⟨s2.heap.objs.size,acc,y,rfl,rfl,hD,hl,rfl⟩) λ_ s11 ⟨_,H11,I11,_,e11⟩=>?_
     subst e11
     exact again I11 hm w10
 exact codeAny_compStart_list loop (T.self _ 0 _ _ _ RH loop)
theorem cO (S:uB X.N X.env.scope.names N js scope=true) (hc:X.calm=true) (hi:PI X tg iter wi)
 (hg:∀cl C s H fp pn,PG (cQ X N scope cl C s H fp pn) tg g) (ht:∀cl C s H fp pn,yT (cQ X N scope cl C s H fp pn) ifs ti) (he:∀cl C s H fp pn,PE (cQ X N scope cl C s H fp pn) elt te)
 (hs:∀x,foldedSetIterable iter X.env x=pure x:=by intro _; rfl):PE X (.ListComp elt [⟨tg,iter,ifs,0⟩] scope pos) (Mm js wi g ti te):=by
 intro pins s σ H Q I h
 rw [eval_ListComp]
 refine EA (use:=none) (nA.of S) hc hi hg ht he hs I h ?_
 rintro D C H' s' I' ⟨m,hn⟩ c1 c2 c3 c4 c5 q
 refine ⟨m,hn,λh' Mp=>?_⟩
 exact ⟨.ref D,H',I'.turned (t':=s'.toks) (λb o hb e=>Mp.extBut b o hb e) c1 c2 c3 c4 c5,rfl,q⟩
theorem qN {i:Nat}{x:Str}{pos' Mq:Pos}(hN:X.N.Nodup) (pf:X.N[i]?=some x) (hx:X.env.scope.names.lookup x=some .local) (S:uB X.N X.env.scope.names N js scope=true) (hc:X.calm=true) (hi:PI X tg iter wi)
 (hg:∀cl C s H fp pn,PG (cQ X N scope cl C s H fp pn) tg g) (ht:∀cl C s H fp pn,yT (cQ X N scope cl C s H fp pn) ifs ti) (he:∀cl C s H fp pn,PE (cQ X N scope cl C s H fp pn) elt te)
 (hsw:swapsWith (.ListComp elt [⟨tg,iter,ifs,0⟩] scope pos) (some (.Name x pos')) Mq.line X.env=pure true:=by rfl)
 (hs:∀x,foldedSetIterable iter X.env x=pure x:=by intro _; rfl):PS X (.Assign [.Name x pos'] (.ListComp elt [⟨tg,iter,ifs,0⟩] scope pos) Mq) (Gx (Mm js wi g ti te) (cw i)):=by
 intro pins s σ H D I h
 rw [exec_Assign_Name_used _ _ _ _ hsw]
 refine wpAny_bind (wpAny_standAt (wpAny_bind ?_))
 show wpAny _ X.A (do let _ ← comprehension (.ListComp elt [⟨tg,iter,ifs,0⟩] scope pos) scope X.env _ (newList []) false (eval iter X.env) (some (assign (.Name x pos') X.env))) _ _ s
 refine wpAny_bind (aP (EA (use:=some (assign (.Name x pos') X.env)) (R:=λ_ s'=>SP X pins D .next s') (nA.of S) hc hi hg ht he hs I h ?_) λ_ s' hq=>wpAny_pure (wpAny_pure hq))
 rintro Dd C H' s' I' ⟨m,hn⟩ c1 c2 c3 c4 c5 q
 show wpAny _ X.A (assign (.Name x pos') X.env (.ref Dd)) _ _ _
 refine wpAny_assign_Name (wu I' hN pf (.inl hx) (v:=.ref Dd) rfl (λEb I'' ⟨a,sb,ha⟩=>?_) (.inr hx))
 have ea:a≠C:=by
  rcases ha with ha | ha
  . rw [ha]
    exact Ne.symm c2
  . exact c4 x a ha
 refine ⟨m,hn.sameBut sb (Ne.symm ea),λh' Mp=>?_⟩
 exact ⟨_,_,I''.turned (t':=Eb.toks) (λb o hb e=>Mp.extBut b o hb e) c1 c2 c3 c4 c5,q⟩
end
def yV (D:Addr) (n:Nat) (Pv:Nat->List V->St->Hp->Prop):Nat->Nat->St->Hp->Prop:=λi m σ H=>i<=n/\m=n-i/\∃acc,H D=some (.lst acc)/\Pv i acc σ H
theorem bo {D:Addr}{n i:Nat}{Pv:Nat->List V->St->Hp->Prop}{acc:List V}{σ:St}{H:Hp}(hi:i<n) (hD:H D=some (.lst acc)) (hp:Pv (i+1) acc σ H):∃m',m'<n-i/\yV D n Pv (i+1) m' σ H:=
 ⟨n-(i+1),by omega,hi,rfl,acc,hD,hp⟩
theorem cX {D:Addr}{g:TG}{ti:TT}{te:TE}{J:It}{Q:Hp->Prop}{σ0:St}{H0:Hp}(n:Nat) (Pv:Nat->List V->St->Hp->Prop) (h0:Pv 0 [] σ0 H0) (Mr:H0 D=some (.lst []))
 (fin:∀acc σ H,H D=some (.lst acc)->Pv n acc σ H->J.stop n H/\Q H)
 (step:∀i acc σ H,i<n->H D=some (.lst acc)->Pv i acc σ H->J.go i H/\∀x H',J.yld i H x H'->g x σ H' λiQ H2=>ti iQ H2 λb H3=>
  if b=true then te iQ H3 λy H4=>∃acc,H4 D=some (.lst acc)/\acc.length<sizeLine/\∃m',m'<n-i/\yV D n Pv (i+1) m' iQ (upd H4 D (.lst (acc++[y]))) else ∃m',m'<n-i/\yV D n Pv (i+1) m' iQ H3) :
 ∃W:Nat->Nat->St->Hp->Prop,(∃m,W 0 m σ0 H0)/\Bx D g ti te J W Q:=by
 refine ⟨yV D n Pv,⟨n,Nat.zero_le _,rfl,[],Mr,h0⟩,?_⟩
 rintro i m σ H ⟨hi,rfl,acc,hD,hp⟩
 rcases Nat.lt_or_ge i n with h | h
 . exact .inr (step i acc σ H h hD hp)
 . have e:i=n:=Nat.le_antisymm hi h
   subst e
   exact .inl (fin acc σ H hD hp)
end L2
namespace L2
open PySem PySem.Spec PyProof.Rows
section
variable {X:Cx}{pins:List (Addr×Obj)}{σ:St}{H:Hp}{s:Shared}{h':Heap}
theorem Inv.Bz {t':Nat}{fp:List Addr}(I:Inv X pins σ H s) (hf:∀b∈fp,iP X pins H b) (k:∀b o,b∉fp->s.heap.get? b=some o->h'.get? b=some o):Inv X pins σ H { s with heap:=h',toks:=t' }:=by
 have wR:∀b u,H b=some u->b∉fp:=λb u e z=>by rw [(hf b z).1] at e; cases e
 refine I.step (g':=s.gens) (d':=s.drawn) (ch:=fp) (λb hb=>⟨(hf b hb).2.2.2.1,(hf b hb).2.1,(hf b hb).2.2.2.2.1,(hf b hb).2.2.2.2.2⟩) (λb o _ _ hc e _=>k b o hc e) (λb o _ _ hc e _=>⟨o.slots,k b o hc e⟩) (λ_ _ _ _ n=>n)
  (λb o hc e=>⟨o,k b o hc e⟩) (λ_ _ e=>e) (λ_ _ _ e=>e) (λb ps e=>⟨#[],by rw [e]; simp⟩) (λm hm=>?_) (λb u e=>?_) I.bare
 . obtain ⟨o,es,ep,ho,r⟩:=hm
   exact ⟨o,es,ep,k _ o (λz=>(hf _ z).2.1 rfl) ho,r⟩
 . refine (I.hok b u e).pI (λc v hc q=>k c v ?_ q) (λ_ q=>q) λ_ _ q=>q
   rcases hc with z | z
   . rw [z]; exact wR b u e
   . exact wR c _ z
theorem Inv.BA {t':Nat}{fp:List Addr}{T:Addr}{xs:List V}{its:List Value}(I:Inv X pins σ H s) (hf:∀b∈fp,iP X pins H b) (k:∀b o,b∉fp->s.heap.get? b=some o->h'.get? b=some o)
 (hT:s.heap.objs.size<=T) (ht:IsTup h' T its.toArray) (rv:Vals xs its) (hz:xs.length<=sizeLine):Inv X pins σ (upd H T (.tup xs)) { s with heap:=h',toks:=t' }:=by
 have wR:∀b u,H b=some u->b∉fp:=λb u e z=>by rw [(hf b z).1] at e; cases e
 have kX:H T=none:=I.hok.fresh hT
 have neT:∀b u,H b=some u->b≠T:=λb u e z=>by rw [z,kX] at e; cases e
 have Ms:∀b o,s.heap.get? b=some o->b≠T:=λb o e=>Nat.ne_of_lt (Nat.lt_of_lt_of_le (Heap.lt_size e) hT)
 refine I.step (g':=s.gens) (d':=s.drawn) (ch:=fp) (λb hb=>⟨(hf b hb).2.2.2.1,(hf b hb).2.1,(hf b hb).2.2.2.2.1,(hf b hb).2.2.2.2.2⟩) (λb o _ _ hc e _=>k b o hc e) (λb o _ _ hc e _=>⟨o.slots,k b o hc e⟩)
  (λb o _ e n=>by rw [ag (Ms b o e)]; exact n) (λb o hc e=>⟨o,k b o hc e⟩) (λb ys e=>by rw [ag (neT b _ e)]; exact e) (λb o u e=>by rw [ag (neT b _ e)]; exact e)
  (λb ps e=>⟨#[],by rw [ag (neT b _ e),e]; simp⟩) (λm hm=>?_) (λb u e=>?_) I.bare
 . obtain ⟨o,es,ep,ho,r⟩:=hm
   exact ⟨o,es,ep,k _ o (λz=>(hf _ z).2.1 rfl) ho,r⟩
 . by_cases hb:b=T
   . subst hb
     rw [ae] at e
     cases e
     exact ⟨hz,its,rv,ht⟩
   . rw [ag hb] at e
     refine (I.hok b u e).pI (λc v hc q=>k c v ?_ q) (λc q=>by rw [ag (neT c _ q)]; exact q) λc ys q=>by rw [ag (neT c _ q)]; exact q
     rcases hc with z | z
     . rw [z]; exact wR b u e
     . exact wR c _ z
end
def Mt (z:Str):It:=⟨λi _=>i<z.cps.size,λi H x H'=>H'=H/\∃c,z.cps[i]?=some c/\x=.str ⟨#[c]⟩,λi _=>i=z.cps.size⟩
theorem yW {P:Program}{w:World}{K:W.Frag}{tg:Expr}(it:Addr) (z:Str) (t:Tok) (ty:String) (W:∀A:Around,A.handled=none->Walks P w A it [it] [it] z.cps.size (SignAt z) (λi h=>h.IsStrIter it ty z t i))
 (hs:∀(A:Around) (i:Nat) (s:Shared) (Q:Value->Shared->Prop) (E:Value->Shared->Prop),s.heap.IsStrIter it ty z t i->Q (.ref it) s->wpAny (model P w) A (pyIter (.ref it)) Q E s)
 (hn:["enumerate", "zip", "dict_itemiterator", "dict_reverseitemiterator", "odict_iterator", "itertools.zip_longest", "itertools.pairwise"].contains ty=false) :
 Turn P w K tg (Mt z) [it] it (λi h=>h.IsStrIter it ty z t i) where
 mem:=by simp
 obj:=λi h st b hb=>by
  have e:b=it:=by simpa using hb
  subst e
  obtain ⟨o,e,c,d⟩:=st
  exact ⟨o,e,λv z=>by rw [d] at z; cases z⟩
 keep:=λi h h' st k=>let ⟨o,e,r⟩:=st; ⟨o,k it (by simp) o e,r⟩
 item:=by
  intro X hP hw hK hc i pins s σ H E I hf st hg
  subst hP hw hK
  obtain ⟨f0,f1,f2,f3,f4,f5⟩:=hf it (by simp)
  refine (W X.A (I.ok.hd hc)).item i s _ _ hg st λv h' tk hv a7 kk=>?_
  obtain ⟨c,u,ec,rfl⟩:=hv
  have I1:Inv X pins σ H { s with heap:=h',toks:=tk }:=I.turned (λb o hb e=>kk b o (by simpa using hb) e) f0 f1 f3 f4 f5
  obtain ⟨o,e,oc,od⟩:=id a7
  exact ⟨_,rfl,yi (s:={ s with heap:=h',toks:=tk }) e oc od hn ⟨.str ⟨#[c]⟩,H,I1,⟨u,rfl⟩,⟨rfl,c,ec,rfl⟩,a7,λb hb=>(hf b hb).1⟩⟩
 done:=by
  intro X hP hw hK hc i pins s σ H E I hf st hg
  subst hP hw hK
  obtain ⟨f0,f1,f2,f3,f4,f5⟩:=hf it (by simp)
  have ED:i=z.cps.size:=hg
  subst ED
  exact (W X.A (I.ok.hd hc)).done s _ _ st λh' tk kk=>⟨rfl,I.turned (λb o hb e=>kk b o (by simpa using hb) e) f0 f1 f3 f4 f5⟩
 self:=λA i s Q E st h=>hs A i s Q E st h
section
variable {X:Cx}{tg:Expr}
def UP (ts:TE):TI:=λσ H R=>ts σ H λx H1=>∃z,x=.str z/\R (Mt z) H1
theorem pZ {l:Expr}{tl:TE}(hl:PE X l tl):PI X tg l (UP tl):=by
 intro pins s σ H R I h
 refine aP (hl pins s σ H _ I h) λv s1 ⟨x,H1,I1,r1,q1⟩=>?_
 obtain ⟨z,e,q⟩:=q1
 subst e
 obtain ⟨t,rfl⟩:=r1
 have fin:∀b∈[s1.heap.objs.size],iP X pins H1 b:=λb hb=>by
  have e:b=s1.heap.objs.size:=by simpa using hb
  subst e
  exact I1.om (Nat.le_refl _) (I1.hok.fresh (Nat.le_refl _))
 cases ha:z.cps.all (· < 128) with
 | true=>
  refine wpAny_pyIter_ascii ha ?_
  exact ⟨s1.heap.objs.size,[s1.heap.objs.size],_,_,H1,rfl,I1.kept (t':=s1.toks) λb o e=>Heap.get?_push_of_some _ e,
   yW _ z t "str_ascii_iterator" (λA hA=>Walks.strAscii hA _ z t) (λ_ _ _ _ _ st h=>wpAny_pyIter_striter_ascii st h) (by decide),⟨_,Heap.get?_push_size _ rfl,rfl,rfl⟩,fin,q⟩
 | false=>
  refine wpAny_pyIter_wide ha ?_
  exact ⟨s1.heap.objs.size,[s1.heap.objs.size],_,_,H1,rfl,I1.kept (t':=s1.toks) λb o e=>Heap.get?_push_of_some _ e,
   yW _ z t "str_iterator" (λA hA=>Walks.strWide hA _ z t) (λ_ _ _ _ _ st h=>wpAny_pyIter_striter_wide st h) (by decide),⟨_,Heap.get?_push_size _ rfl,rfl,rfl⟩,fin,q⟩
end
def EE (K:W.Frag) (a:Addr):It:=
 ⟨λi H=>∃xs x,ak K H a xs/\xs[i]?=some x,λi H v H'=>∃T x,v=.ref T/\H T=none/\H'=upd H T (.tup [.int (i:Int),x])/\∀xs,ak K H a xs->xs[i]?=some x,λi H=>∃xs,ak K H a xs/\xs.length<=i⟩
theorem EF {P:Program}{w:World}{K:W.Frag}{es:List Expr}{kk:Nat}{tp:Pos}(a e it:Addr) (RI:e≠it):Turn P w K (.Tuple es kk tp) (EE K a) [e,it] e (λi h=>(∃old,IsEnum h e it (i:Int) old)/\h.IsListIter it a i) where
 mem:=by simp
 obj:=λi h st b hb=>by
  obtain ⟨⟨old,he⟩,o,e1,c,d⟩:=st
  rcases List.mem_cons.mp hb with z | z
  . subst z
    exact ⟨_,he,λv z=>by
     have z':Data.fields _=Data.cell v:=z
     cases z'⟩
  . have z':b=it:=by simpa using z
    subst z'
    exact ⟨o,e1,λv z=>by rw [d] at z; cases z⟩
 keep:=λi h h' st k=>⟨let ⟨old,he⟩:=st.1; ⟨old,k e (by simp) _ he⟩,st.2.at λo e1=>k it (by simp) o e1⟩
 item:=by
  intro X hP hw hK hc i pins s σ H E I hf st hg
  subst hP hw hK
  obtain ⟨xs,x,hq,hx⟩:=hg
  obtain ⟨its,rv,p,hz⟩:=I.list hq
  obtain ⟨u,hu,ru⟩:=rv.get hx
  obtain ⟨⟨old,he⟩,hit⟩:=st
  refine wpAny_pyNext_enum_item he hit p.isList (x:=u) (by simpa using hu) RI λh' ho CV hT hsz hk=>?_
  refine ⟨.ref s.heap.objs.size,rfl,?_⟩
  refine wpAny_letOwnedTupleGo_enum ho λh2 he2 jY=>?_
  have RJ:s.heap.objs.size≠e:=Nat.ne_of_gt (Heap.lt_size he)
  have BB:h2.get? s.heap.objs.size=some { cls:=.type "tuple",data:=.seq #[.int i s.toks,u] }:=(jY.2 _ RJ).trans hT
  have I1:Inv X pins σ (upd H s.heap.objs.size (.tup [.int (i:Int),x])) { s with heap:=h2,toks:=s.toks+1 }:=I.BA (its:=[.int i s.toks,u]) hf (λb o hb e1=>by
   have b1:b≠e:=λz=>hb (by simp [z])
   have b2:b≠it:=λz=>hb (by simp [z])
   exact (jY.2 b b1).trans (hk b o b1 b2 e1)) (Nat.le_refl _) ⟨_,BB,rfl,_,rfl⟩ (.cons ⟨_,rfl⟩ (.cons ru .nil)) (by show 2<=sizeLine; decide)
  have fr:H s.heap.objs.size=none:=I.hok.fresh (Nat.le_refl _)
  refine ⟨.ref s.heap.objs.size,_,I1,rfl,⟨s.heap.objs.size,x,rfl,fr,rfl,λys hy=>by rw [I.sD hy hq]; exact hx⟩,⟨⟨u,?_⟩,CV.at λo e1=>(jY.2 it RI.symm).trans e1⟩,λb hb=>?_⟩
  . have e3:(((i+1:Nat):Nat):Int)=(i:Int)+1:=by omega
    rw [e3]
    exact he2
  . have ee:=(hf b hb).1
    have nb:b≠s.heap.objs.size:=by
     rcases List.mem_cons.mp hb with z | z
     . rw [z]; exact Ne.symm RJ
     . have z':b=it:=by simpa using z
       rw [z']
       obtain ⟨o,e1,_⟩:=hit
       exact Nat.ne_of_lt (Heap.lt_size e1)
    rw [ag nb]
    exact ee
 done:=by
  intro X hP hw hK hc i pins s σ H E I hf st hg
  subst hP hw hK
  obtain ⟨xs,hq,hx⟩:=hg
  obtain ⟨its,rv,p,hz⟩:=I.list hq
  obtain ⟨⟨old,he⟩,hit⟩:=st
  have hl:=rv.length
  exact wpAny_pyNext_enum_end (I.ok.hd hc) he hit p.isList (by simp; omega) λh' eb=>⟨rfl,I.Bz (t':=s.toks) hf λb o hb e1=>eb b o (λz=>hb (by simp [z])) e1⟩
 self:=λ_ _ _ _ _ st h=>let ⟨old,he⟩:=st.1; wpAny_pyIter_enum he h
section
variable {X:Cx}
def QA (K:W.Frag) (ta:TA):TI:=λσ H R=>ta σ H λvs H1=>∃a,vs=[.ref a]/\(∃xs,ak K H1 a xs)/\R (EE K a) H1
theorem qO {es:List Expr}{kk:Nat}{tp:Pos}{a:Expr}{ta:TA}{p pos:Pos}(hg:Gl X "enumerate") (hm:X.mg "enumerate" = none) (ha:PA X [a] ta) (hs:starEach [a] X.env=[(false,eval a X.env)]:=by rfl) :
 PI X (.Tuple es kk tp) (.Call (.Name "enumerate" p) [a] [] pos) (QA X.K ta):=by
 intro pins s σ H R I h
 refine Call_ (iC I hg hm boot_enumerate (PyProof.Rows.callWith_type1 (aP (ha pos pins s σ H _ I h) λus s1 ⟨vs,H1,I1,r1,q1⟩=>?_) hs rfl))
 obtain ⟨l,e,⟨xs,hq⟩,q⟩:=q1
 subst e
 cases r1 with
 | cons r rr=>
  cases rr
  cases r
  obtain ⟨its,rv,pl,hz⟩:=I1.list hq
  refine call_enumerate_list pl.isList λh' he hit hsz hk=>?_
  refine wpAny_pyIter_enum he ?_
  have I2:Inv X pins σ H1 { s1 with heap:=h' }:=I1.kept (t':=s1.toks) hk
  refine ⟨s1.heap.objs.size+1,[s1.heap.objs.size+1,s1.heap.objs.size],_,_,H1,rfl,I2,EF l _ _ (Nat.ne_of_gt (Nat.lt_succ_self _)),⟨⟨_,he⟩,hit⟩,λb hb=>?_,q⟩
  have ee:s1.heap.objs.size<=b:=by
   rcases List.mem_cons.mp hb with z | z
   . rw [z]; exact Nat.le_succ _
   . have z':b=s1.heap.objs.size:=by simpa using z
     rw [z']; exact Nat.le_refl _
  exact I1.om ee (I1.hok.fresh ee)
end
section
variable {X:Cx}
def UQ:V->Option Int->Option Int->Hp->VK->Prop:=λx lo hi H Q=>∃z j,x=.str z/\lo=none/\hi=some j/\z.length<=sizeLine/\Q (.str (Txt.slice z none (some j))) H
theorem uC:II X UQ:=by
 intro pins s σ H x v vl vu lo hi sl Q I rx hs pl pu h
 obtain ⟨z,j,rfl,rfl,rfl,hz,q⟩:=h
 obtain ⟨t,rfl⟩:=rx
 cases pl
 cases pu with
 | int _ uj=>
  refine ⟨"str",_,F.slot_str_getitem.lookup,typeIs_str _ _ _,wpAny_getItem_str_slice (l:=none) (u:=some (j,uj)) (st:=none) hs rfl
   (post_val_or_str ⟨Nat.le_trans (Txt.slice_le z _ _) hz,λt' k=>⟨.str (Txt.slice z none (some j)),H,I.tok k,⟨t',rfl⟩,q⟩⟩)⟩
def rJoin (K:W.Frag):V->List V->Hp->VK->Prop:=λx vs H Q=>∃z a ys,x=.str z/\vs=[.ref a]/\ak K H a (ys.map V.str)/\(ys.map (·.length)).sum+ys.length*z.length<=16777216/\Q (.str (Txt.join z ys)) H
theorem uD:∀{ys:List Str}{us:List Value},Vals (ys.map V.str) us->StrsAre us ys
 | [],us,r=>by
  cases r
  exact .nil
 | y::ys,us,r=>by
  cases r with
  | cons h t=>
   obtain ⟨tk,rfl⟩:=h
   exact .cons _ _ (uD t)
theorem vH:wH X "str.join" (rJoin X.K):=by
 intro pins s σ H x vs v us Q I rx rv h
 obtain ⟨z,a,ys,rfl,rfl,hq,hl,q⟩:=h
 obtain ⟨t,rfl⟩:=rx
 obtain ⟨u,rfl,ru⟩:=rv.one
 cases ru
 obtain ⟨its,r,pl,_⟩:=I.list hq
 exact join_list pl.isList (by simpa using uD r) hl λt' k=>⟨.str (Txt.join z ys),H,I.tok k,⟨t',rfl⟩,q⟩
def Mu:V->List V->Hp->VK->Prop:=λx vs H Q=>∃z y,x=.str z/\vs=[.str y]/\z.length<=sizeLine/\(y.length == 0)=false/\
 (Builtin.Str.partsBetween z (Builtin.Str.occurrences z y 0 z.length (z.length+1)) y.length).length<=sizeLine/\∀p,H p=none->Q (.ref p) (upd H p (.lst ((Txt.split z y).map V.str)))
theorem ph:∀(tk:Nat) (xs:List Str),Vals (xs.map V.str) (strValues (numbered tk xs))
 | _,[]=>.nil
 | tk,x::r=>.cons ⟨tk,rfl⟩ (ph (tk+1) r)
theorem split_le (z y:Str) (h:(Builtin.Str.partsBetween z (Builtin.Str.occurrences z y 0 z.length (z.length+1)) y.length).length<=sizeLine):(Txt.split z y).length<=sizeLine:=by
 unfold Txt.split
 split
 . show 1<=sizeLine; decide
 . split
   . show 1<=sizeLine; decide
   . exact h
theorem sR:wH X "str.split" Mu:=by
 intro pins s σ H x vs v us Q I rx rv h
 obtain ⟨z,y,rfl,rfl,hz,hy,hl,q⟩:=h
 obtain ⟨t,rfl⟩:=rx
 obtain ⟨u,rfl,tu,rfl⟩:=rv.one
 have BC:=split_le z y hl
 have fin:∀(l:List (Str×Tok)) (tk:Nat),Vals ((Txt.split z y).map V.str) (strValues l)->
  EP X pins σ Q (.ref s.heap.objs.size) { s with heap:=s.heap.push { cls:=.type "list",data:=.seq (strValues l).toArray },toks:=tk }:=λl tk r=>
  ⟨.ref s.heap.objs.size,_,I.GX r (by rw [List.length_map]; exact BC),rfl,q _ (I.hok.fresh (Nat.le_refl _))⟩
 cases h1:(decide (z.length<y.length) || decide (Builtin.Str.strKind z<Builtin.Str.strKind y)) with
 | true=>
  refine call_meets F.slot_str_split (typeIs_str _ _ _) F.entry_str_split (F.args_str_split_2 _ _) (meets_str_split_cannot_occur z y t tu h1) ?_
  exact fin [(z,t)] s.toks (by
   have e:Txt.split z y=[z]:=if_pos h1
   rw [e]
   exact .cons ⟨t,rfl⟩ .nil)
 | false=>
  cases hf:(Builtin.Str.occurrences z y 0 z.length (z.length+1)).isEmpty with
  | true=>
   refine call_meets F.slot_str_split (typeIs_str _ _ _) F.entry_str_split (F.args_str_split_2 _ _) (meets_str_split_not_found z y t tu h1 hy hf) ?_
   exact fin [(z,t)] s.toks (by
    have e:Txt.split z y=[z]:=(if_neg (ne_true_of_eq_false h1)).trans (if_pos hf)
    rw [e]
    exact .cons ⟨t,rfl⟩ .nil)
  | false=>
   refine call_meets F.slot_str_split (typeIs_str _ _ _) F.entry_str_split (F.args_str_split_2 _ _) (meets_str_split_sep z y t tu h1 hy hf hz hl) ?_
   have e:Txt.split z y=Builtin.Str.partsBetween z (Builtin.Str.occurrences z y 0 z.length (z.length+1)) y.length:=(if_neg (ne_true_of_eq_false h1)).trans (if_neg (ne_true_of_eq_false hf))
   have:=fin (numbered s.toks (Builtin.Str.partsBetween z (Builtin.Str.occurrences z y 0 z.length (z.length+1)) y.length)) (s.toks+(Builtin.Str.partsBetween z (Builtin.Str.occurrences z y 0 z.length (z.length+1)) y.length).length) (by
    rw [e]
    exact ph _ _)
   show EP X pins σ Q _ { s with toks:=_,heap:=s.heap.push { cls:=.type "list",data:=.seq (strsFrom s.toks (Builtin.Str.partsBetween z (Builtin.Str.occurrences z y 0 z.length (z.length+1)) y.length)).toArray } }
   rw [strsFrom_eq]
   exact this
end
section
variable {X:Cx}
def Kx:V->List V->Hp->VK->Prop:=λx vs H Q=>∃l xs i y,x=.ref l/\vs=[.int i,y]/\H l=some (.lst xs)/\0<=i/\i<=xs.length/\xs.length<sizeLine/\Q .aZ (upd H l (.lst (xs.take i.toNat++[y]++xs.drop i.toNat)))
theorem EG:wH X "list.insert" Kx:=by
 intro pins s σ H x vs v us Q I rx rv h
 obtain ⟨l,xs,i,y,rfl,rfl,hH,h0,hi,hz,q⟩:=h
 cases rx
 obtain ⟨u1,u2,rfl,r1,r2⟩:=rv.two
 obtain ⟨t1,rfl⟩:=r1
 obtain ⟨z,its,n,r,hl,e⟩:=I.sI hH
 have hn:=lJ
 have iw:¬ (!Builtin.List.listFitsIndex i)=true:=by
  have:Builtin.List.listFitsIndex i=true:=by
   unfold Builtin.List.listFitsIndex
   simp only [Bool.and_eq_true,decide_eq_true_eq]
   constructor <;> omega
  rw [this]
  decide
 refine call_meets F.slot_list_insert ⟨_,e,rfl⟩ F.entry_list_insert (F.args_list_insert_3 _ _ _) (AutoListH.list_insert_list_int_val_1 l its.toArray n i t1 u2 iw (by rw [List.size_toArray]; omega)) ⟨e,?_⟩
 refine ⟨.aZ,_,I.CJ (its':=its.take i.toNat++[u2]++its.drop i.toNat) hH e ?_ (((r.take i.toNat).append (.cons r2 .nil)).append (r.drop i.toNat)) ?_,rfl,q⟩
 . have e1:(if i<0 then (i+((its.toArray.size:Nat):Int)).toNat else min i.toNat its.toArray.size)=i.toNat:=by
    rw [if_neg (by omega),List.size_toArray]
    omega
   show (its.toArray.extract 0 _).push u2++its.toArray.extract _=_
   rw [e1]
   apply Array.toList_inj.mp
   simp [List.take_of_length_le]
 . simp only [List.length_append,List.length_take,List.length_drop,List.length_singleton]
   omega
end
section
variable {prog:Program}{w:World}{A:Around}{E:Value->Shared->Prop}
theorem wU {l it:Addr}{items:Array Value}(cq:l≠it):∀(n i:Nat) (s:Shared) (Q:List Value->Shared->Prop),s.heap.IsListIter it l i->s.heap.IsList l items->i+n<=items.size->
 (∀h',h'.IsListIter it l (i+n)->Heap.SameBut it s.heap h'->Q ((items.toList.drop i).take n) { s with heap:=h' })->wpAny (model prog w) A (draw (.ref it) n) Q E s
 | 0,i,s,Q,hit,hl,_,hQ=>by
  unfold draw
  exact wpAny_pure (by simpa using hQ s.heap hit (.refl ..))
 | n+1,i,s,Q,hit,hl,hn,hQ=>by
  unfold draw
  have hx:items[i]?=some items[i]:=Array.getElem?_eq_getElem (by omega)
  refine wpAny_bind (wpAny_pyNext_list_item hit hl hx λh1 Hb pj=>?_)
  refine wpAny_bind (wpAny_holding (wU cq n (i+1) { s with heap:=h1 } _ Hb (hl.extBut pj.extBut cq) (by omega) λh2 UR jY=>?_))
  refine wpAny_pure ?_
  have hd:(items.toList.drop i).take (n+1)=items[i]::(items.toList.drop (i+1)).take n:=by
   rw [List.drop_eq_getElem_cons (by simpa using (show i<items.size by omega)),List.take_succ_cons]
   simp
  have:=hQ h2 (by rw [show i+(n+1)=i+1+n by omega]; exact UR) (pj.trans jY)
  rw [hd] at this
  exact this
theorem sS {s:Shared}{l:Addr}{items:Array Value}{Q:List Value->Shared->Prop}(hh:A.handled=none) (hl:s.heap.IsList l items)
 (hQ:∀h',Heap.ExtBut s.heap.objs.size s.heap h'->Q items.toList { s with heap:=h' }):wpAny (model prog w) A (unpackItems (.ref l) items.size none) Q E s:=by
 have cq:l≠s.heap.objs.size:=by obtain ⟨o,ho,_⟩:=hl; exact Nat.ne_of_lt (Heap.lt_size ho)
 unfold unpackItems
 refine wpAny_bind ?_
 unfold notIterableAtAll
 refine wpAny_bind (wpAny_specialOf hl.typeIs slot_list_iter.lookup ?_)
 refine wpAny_pure ?_
 simp only [Bool.false_eq_true,if_false]
 refine wpAny_bind (wpAny_holding (wpAny_pyIter_list hl ?_))
 refine wpAny_bind (wpAny_holding (wU cq items.size 0 _ _ ⟨_,Heap.get?_push_size _ rfl,rfl,rfl⟩ (hl.push _) (by omega) λgu US fh=>?_))
 have bX:List.take items.size (List.drop 0 items.toList)=items.toList:=by
  rw [List.drop_zero]; exact List.take_of_length_le (by simp)
 rw [bX]
 rw [if_neg (by simp)]
 have abW:gu.IsList l items:=(hl.push _).extBut fh.extBut cq
 refine wpAny_bind (wpAny_holding (wpAny_pyNext_list_end hh US abW (by simp) λjA abX=>?_))
 simp only [Option.isSome_none,Bool.false_eq_true,if_false]
 exact wpAny_pure (hQ jA λb o hb e=>abX b o hb (fh.extBut b o hb (Heap.get?_push_of_some _ e)))
end
section
variable {X:Cx}{pos:Pos}
def QB (K:W.Frag) (n:Nat) (t:ug):TG:=λv σ H Q=>∃a xs,v=.ref a/\ak K H a xs/\xs.length=n/\t xs σ H Q
theorem Ky {es:List Expr}{k:Nat}{t:ug}{n:Nat}(hc:X.calm=true) (h:D0 X es t)
 (hn:(assignEach es X.env).length=n:=by rfl) (hst:(assignEach es X.env).findIdx? (·.1)=none:=by rfl):PG X (.Tuple es k pos) (QB X.K n t):=by
 intro pins s σ H v u Q I r hw
 obtain ⟨a,xs,e1,hq,hl,hw⟩:=hw
 subst e1
 cases r
 obtain ⟨its,rv,pl,hz⟩:=I.list hq
 rw [assign_Tuple]
 refine wpAny_bind (wpAny_standAt ?_)
 unfold unpack
 have e2:(assignEach es X.env).length=its.toArray.size:=by rw [List.size_toArray,hn,← hl,rv.length]
 rw [e2,hst]
 refine wpAny_bind (wpAny_holding (sS (I.ok.hd hc) pl.isList λh' hx=>?_))
 have I1:Inv X pins σ H { s with heap:=h' }:=I.kept (t':=s.toks) λb o e=>hx b o (Nat.ne_of_lt (Heap.lt_size e)) e
 exact h pins _ σ H xs _ Q I1 (by simpa using rv) hw
end
end L2
namespace L2
open PySem PySem.Spec PyProof.Rows
section
variable {X:Cx}
def Kz:V->List V->Hp->VK->Prop:=λx vs H Q=>∃z y,x=.str z/\vs=[.str y]/\Q (.bl (decide (0+y.length<=z.length) && Builtin.Str.subAt z y 0)) H
theorem wV:wH X "str.startswith" Kz:=by
 intro pins s σ H x vs v us Q I rx rv h
 obtain ⟨z,y,rfl,rfl,q⟩:=h
 obtain ⟨t,rfl⟩:=rx
 obtain ⟨u,rfl,tu,rfl⟩:=rv.one
 exact call_gives F.slot_str_startswith (typeIs_str _ _ _) F.entry_str_startswith (F.args_str_startswith_2 _ _) (gives_str_startswith z y t tu) ⟨.bl _,H,I,rfl,q⟩
def UT:V->Option Int->Option Int->Hp->VK->Prop:=λx lo hi H Q=>∃z j,x=.str z/\lo=some j/\hi=none/\z.length<=sizeLine/\Q (.str (Txt.slice z (some j) none)) H
theorem vI:II X UT:=by
 intro pins s σ H x v vl vu lo hi sl Q I rx hs pl pu h
 obtain ⟨z,j,rfl,rfl,rfl,hz,q⟩:=h
 obtain ⟨t,rfl⟩:=rx
 cases pu
 cases pl with
 | int _ uj=>
  refine ⟨"str",_,F.slot_str_getitem.lookup,typeIs_str _ _ _,wpAny_getItem_str_slice (l:=some (j,uj)) (u:=none) (st:=none) hs rfl
   (post_val_or_str ⟨Nat.le_trans (Txt.slice_le z _ _) hz,λt' k=>⟨.str (Txt.slice z (some j) none),H,I.tok k,⟨t',rfl⟩,q⟩⟩)⟩
end
end L2
namespace PySem
open Builtin Builtin.Str
theorem oE (z:Str) (c:Nat):(decide (0+(⟨#[c]⟩:Str).length<=z.length) && subAt z ⟨#[c]⟩ 0)=decide (z.cps.toList[0]?=some c):=by
 rw [Bool.eq_iff_iff,Bool.and_eq_true,decide_eq_true_eq,decide_eq_true_eq]
 exact StrLaws.subAt_one z c 0
theorem Hc (n:Nat):strSliceIndices (some 1) none 1 n=(List.range (n-1)).map (· + 1):=by
 cases n with
 | zero=>rfl
 | succ n=>
  have h1:¬ ((1:Int)<0):=by decide
  have e1:max (0:Int) (min 1 ((n+1:Nat):Int))=1:=by omega
  simp only [strSliceIndices,sliceRange,h1,if_false,show ((1:Int)>0)=True from by simp,if_true,e1]
  have e2:(if (1:Int)<((n+1:Nat):Int) then (((n+1:Nat):Int)-1+1-1) / 1 else 0).toNat=n:=by
   split
   . rw [Int.ediv_one]; omega
   . omega
  rw [e2]
  show _=(List.range n).map (· + 1)
  refine List.map_congr_left λk _=>?_
  omega
theorem EH:∀(l:List Nat) (L:List Nat),((List.range (L.length-1)).map (· + 1)).filterMap (λi=>L[i]?)=L.tail:=by
 intro _ L
 cases L with
 | nil=>rfl
 | cons x r=>
  show ((List.range r.length).map (· + 1)).filterMap (λi=>(x::r)[i]?)=r
  rw [List.filterMap_map]
  show (List.range r.length).filterMap (λi=>(x::r)[i+1]?)=r
  simp only [List.getElem?_cons_succ]
  have k:=Gen.rO r r.length (Nat.le_refl _)
  rw [List.take_length] at k
  exact k
theorem oF (z:Str):(Txt.slice z (some 1) none).cps.toList=z.cps.toList.tail:=by
 unfold Txt.slice
 rw [Hc]
 split
 . rename_i h
   have h2:((List.range (z.length-1)).map (· + 1)).length=z.length:=by simpa using h
   rw [List.length_map,List.length_range] at h2
   have h3:z.length=0:=by omega
   have h4:z.cps.toList=[]:=List.length_eq_zero_iff.mp (by simpa [Str.length] using h3)
   rw [h4]
   rfl
 . have e:z.length=z.cps.toList.length:=by simp [Str.length]
   rw [e]
   have k:=EH [] z.cps.toList
   simpa using k
end PySem
namespace PySem
open Sem (wp)
theorem oG:typeLookup (.type "list") "__getattr__" = pure none:=by rw [typeLookup_type,builtinLookup_eq_fast]; kernel_rfl
theorem rJ:typeLookup (.type "list") "keys" = pure none:=by rw [typeLookup_type,builtinLookup_eq_fast]; kernel_rfl
theorem oH {A:Around}{prog:Program}{w:World}{Q:Fin->Shared->Prop}{E:Value->Shared->Prop}{h:Heap}{g d t os} {a:Addr}{items:Array Value}{n:Nat}(u:Tok) (hx:h.get? a=some { cls:=.type "list",data:=.seq items n }) (hh:A.handled=none)
 (hE:∀h' tk e,Heap.NewAttrErr h h' e (.ref a) "keys" -> E (.ref e) ⟨h',g,d,tk,os⟩) :
 wpAny (model prog w) A (Builtin.«object.__getattribute__» ⟨[.ref a,.str "keys" u],[]⟩) Q E ⟨h,g,d,t,os⟩:=by
 have hT:∀t',(⟨h,g,d,t',os⟩:Shared).TypeIs (.ref a) "list":=λt'=>⟨_,hx,rfl⟩
 have rQ:=hT t
 have QC:=rJ
 have hc:[Str.ofString "__module__",Str.ofString "__name__",Str.ofString "__qualname__",Str.ofString "__doc__",Str.ofString "__annotations__"].contains (Str.ofString "keys")=false:=by decide +kernel
 unfold Builtin.«object.__getattribute__»
 repeat (any_goals (first | assumption | wp_step | refine wpAny_ite_false hc ?_))
 all_goals first
  | exact wpAny_raiseAttrError hh hE (attrMsg_fits (by decide +kernel) (by decide))
  | skip
theorem yX {A:Around}{prog:Program}{w:World}{R:Result->Shared->Prop}{h:Heap}{g d t os} {a:Addr}{items:Array Value}{n:Nat}{u:Tok}(hx:h.get? a=some { cls:=.type "list",data:=.seq items n }) (hh:A.handled=none)
 (hE:∀h' tk e,Heap.NewAttrErr h h' e (.ref a) "keys" -> R (.error (.ref e)) ⟨h',g,d,tk,os⟩) :
 codeAny (model prog w) A (.call (.builtin "list.__getattribute__") ⟨[.ref a,.str "keys" u],[]⟩) R ⟨h,g,d,t,os⟩:=
 codeAny_call_builtin F.slot_list_getattribute.plain F.entry_list_ga (F.slot_list_getattribute.check _ _ _ _ _ _ _ _ (show (⟨h,g,d,t,os⟩:Shared).TypeIs (.ref a) "list" from ⟨_,hx,rfl⟩) (F.args_list_getattribute_2 _ _) (oH u hx hh hE))
theorem yY {A:Around}{prog:Program}{w:World}{E:Value->Shared->Prop}{h:Heap}{g d t os} {a:Addr}{items:Array Value}{n:Nat}{Q:Option Value->Shared->Prop}(hx:h.get? a=some { cls:=.type "list",data:=.seq items n }) (hh:A.handled=none)
 (hQ:∀h' tk,(∀b o,h.get? b=some o->h'.get? b=some o)->Q none ⟨h',g,d,tk,os⟩):wpAny (model prog w) A (getAttr? (.ref a) "keys") Q E ⟨h,g,d,t,os⟩:=by
 have hT:(⟨h,g,d,t,os⟩:Shared).TypeIs (.ref a) "list":=⟨_,hx,rfl⟩
 have f1:=sub_AttributeError
 have f2:=F.slot_list_getattribute.lookup
 have f3:=F.slot_list_getattribute.bind (.ref a)
 have f5:=oG
 unfold getAttr? getAttrBy? getAttrBy
 repeat (any_goals (first | assumption | ((with_reducible show codeAny _ _ (Code.call (Value.builtin "list.__getattribute__") _) _ _); refine yX hx hh ?_; intro h' p7 e EI; obtain ⟨t1,u1,he⟩:=EI.there) | wp_step))
 exact hQ h' p7 EI.keeps
end PySem
namespace PySem
open Sem (wp)
namespace F
theorem d7:entryFor table "dict.update.loop" = some Builtin.«dict.update.loop»:=entryFor_of_tree (by kernel_rfl)
theorem bU:plainId "dict.update.loop" = true:=by decide +kernel
end F
section
variable {prog:Program}{w:World}{K:Type}[DecidableEq K] {knd:KeyKind prog w K}{A:Around}{R:Result->Shared->Prop}
def yZ (knd:KeyKind prog w K) (h:Heap) (u:Value) (kv:K×Value):Prop:=∃t key,u=.ref t/\h.IsTuple t #[key,kv.2]/\knd.is kv.1 key=true
theorem vJ {d it l:Addr}{items:Array Value}{kvs:List (K×Value)}(Mv:d≠it) (nC:d≠l) (lR:l≠it) (hz:kvs.length<=sizeLine) (hh:A.handled=none) :
 ∀(k i:Nat) (s:Shared) (tk:Tok) (acc:List (K×Value)),items.size-i=k->i<=items.size->kvs.length=items.size->s.heap.IsListIter it l i->s.heap.IsList l items->s.heap.DictOf knd d acc->acc.length<=i->
 (∀(j:Nat) (u:Value) (kv:K×Value),items[j]?=some u->kvs[j]?=some kv->yZ knd s.heap u kv/\(∀t,u=.ref t->t≠d/\t≠it))->
 (∀h' tk,h'.DictOf knd d ((kvs.drop i).foldl (λa kv=>stored a kv.1 kv.2) acc)->(∀b o,b≠d->b≠it->s.heap.get? b=some o->h'.get? b=some o)->R (.ok (.ret .none)) { s with heap:=h',toks:=tk })->
 codeAny (model prog w) A (.builtin "dict.update.loop" ⟨[.ref d,.ref it,.int (i:Int) tk,.none],[]⟩) R s:=by
 intro k
 induction k with
 | zero=>
  intro i s tk acc hk hi hlen hit hl hd Hd hp hR
  have pk:i=items.size:=by omega
  refine codeAny_builtin F.d7 ?_
  rw [Around.under_plainId F.bU _]
  show wpAny _ A.in1 (pyNext (.ref it) >>= _) _ _ s
  refine wpAny_bind (wpAny_pyNext_list_end (A:=A.in1) hh hit hl (Array.getElem?_eq_none (by omega)) λh' he=>?_)
  refine wpAny_bind (wpAny_pure (wpAny_pure ?_))
  have hd':h'.DictOf knd d acc:=let ⟨o,es,ep,ho,r⟩:=hd; ⟨o,es,ep,he d o Mv ho,r⟩
  refine hR h' s.toks ?_ λb o _ hb e=>he b o hb e
  rw [List.drop_of_length_le (by omega)]
  exact hd'
 | succ k ih=>
  intro i s tk acc hk hi hlen hit hl hd Hd hp hR
  have cq:i<items.size:=by omega
  have hx:items[i]?=some items[i]:=Array.getElem?_eq_getElem cq
  have p8:kvs[i]?=some kvs[i]:=List.getElem?_eq_getElem (by omega)
  obtain ⟨⟨t,key,ht,UU,ou⟩,dh⟩:=hp i _ _ hx p8
  obtain ⟨ntd,nti⟩:=dh t ht
  refine codeAny_builtin F.d7 ?_
  rw [Around.under_plainId F.bU _]
  show wpAny _ A.in1 (pyNext (.ref it) >>= _) _ _ s
  refine wpAny_bind (wpAny_pyNext_list_item hit hl hx λh1 Hb pj=>?_)
  rw [ht]
  have QD:h1.IsTuple t #[key,(kvs[i]).2]:=let ⟨o,e,r⟩:=UU; ⟨o,(pj.2 t nti).trans e,r⟩
  refine wpAny_bind (wpAny_holding (wpAny_bind ?_))
  refine wpAny_tryCatch ?_
  unfold Builtin.Dict.pairItems
  obtain ⟨ot,e1,hc1,n1,y0⟩:=id QD
  refine wpAny_bind (wpAny_typeOf (show ({ s with heap:=h1 } : Shared).TypeIs (.ref t) "tuple" from ⟨ot,e1,hc1⟩) ?_)
  rw [if_pos (by decide)]
  refine wpAny_bind (wpAny_seqItems e1 y0 (wpAny_pure ?_))
  show wpAny _ A.in1 (holding [key,(kvs[i]).2] (dictSet d key (kvs[i]).2)) _ _ _
  refine wpAny_holding ?_
  unfold dictSet
  try with_reducible refine wpAny_holding ?_
  have lS:h1.DictOf knd d acc:=let ⟨o,es,ep,ho,r⟩:=hd; ⟨o,es,ep,(pj.2 d Mv).trans ho,r⟩
  refine wpAny_bind (knd.pyHash ou ?_)
  refine wpAny_dictSetHashed_pairs ou lS (λh2 hd2 jY=>?_) (by omega)
  refine wpAny_pure ⟨plainId_quiet F.bU _,?_⟩
  have er:rawInt ((i:Int)+1)=Value.int (((i+1:Nat):Nat):Int) 0:=by simp [rawInt]
  rw [er]
  have keep:∀b o,b≠d->b≠it->s.heap.get? b=some o->h2.get? b=some o:=λb o b1 b2 e=>(jY.2 b b1).trans ((pj.2 b b2).trans e)
  refine ih (i+1) _ 0 (stored acc (kvs[i]).1 (kvs[i]).2) (by omega) (by omega) hlen ?_ ?_ hd2 ?_ ?_ ?_
  . obtain ⟨o,e,r⟩:=Hb
    exact ⟨o,(jY.2 it (Ne.symm Mv)).trans e,r⟩
  . obtain ⟨o,e,r⟩:=hl
    exact ⟨o,keep l o (Ne.symm nC) lR e,r⟩
  . have:=stored_length_le acc (kvs[i]).1 (kvs[i]).2
    omega
  . intro j u kv hu UW
    obtain ⟨⟨t',UX,e',ht',j0⟩,Mw⟩:=hp j u kv hu UW
    obtain ⟨a1,a2⟩:=Mw t' e'
    obtain ⟨o,e,r⟩:=ht'
    exact ⟨⟨t',UX,e',⟨o,keep t' o a1 a2 e,r⟩,j0⟩,Mw⟩
  . intro h' p7 hd' j0
    refine hR h' p7 ?_ λb o b1 b2 e=>j0 b o b1 b2 (keep b o b1 b2 e)
    rw [List.drop_eq_getElem_cons (by omega),List.foldl_cons]
    exact hd'
end
section
variable {prog:Program}{w:World}{K:Type}[DecidableEq K] {knd:KeyKind prog w K}{A:Around}{E:Value->Shared->Prop}{s:Shared}
theorem y2 {l:Addr}{items:Array Value}{n:Nat}{kvs:List (K×Value)}{Q:Value->Shared->Prop}(hh:A.handled=none) (hl:s.heap.get? l=some { cls:=.type "list",data:=.seq items n }) (hlen:kvs.length=items.size) (hz:kvs.length<=sizeLine)
 (hp:∀(j:Nat) (u:Value) (kv:K×Value),items[j]?=some u->kvs[j]?=some kv->yZ knd s.heap u kv)
 (h:∀h' tk,h'.DictOf knd s.heap.objs.size (merged [] kvs)->(∀b o,s.heap.get? b=some o->h'.get? b=some o)->Q (.ref s.heap.objs.size) { s with heap:=h',toks:=tk }) :
 wpAny (model prog w) A (call (.type "dict") [.ref l]) Q E s:=by
 refine callType_codes (Q₁:=λobj di=>obj=.ref s.heap.objs.size/\di = { s with heap:=s.heap.push { cls:=.type "dict",data:=.dict #[] } }) F.kt_called_dict (F.kt_typeCall_dict_1 _) F.entry_dict_init (kt_code_dict_new _ ⟨rfl,rfl⟩) ?_
 rintro obj di ⟨rfl,rfl⟩
 have ky:(s.heap.push { cls:=.type "dict",data:=.dict #[] }).DictOf knd s.heap.objs.size []:=Heap.DictOf.new s.heap
 have BC:(s.heap.push { cls:=.type "dict",data:=.dict #[] }).get? l=some { cls:=.type "list",data:=.seq items n }:=Heap.get?_push_of_some _ hl
 refine ⟨ky.typeIs,F.args_dict_init_2 _ _,?_⟩
 unfold Builtin.«dict.__init__»
 refine wpAny_bind ?_
 unfold Builtin.Dict.selfAndRest
 refine wpAny_bind (wpAny_notOrdered_dict ky.typeIs ?_)
 show wpAny _ _ (pure (s.heap.objs.size,[Value.ref l])) _ _ _
 refine wpAny_pure ?_
 show wpAny _ _ (Builtin.Dict.updateFrom "dict.__init__" s.heap.objs.size (.ref l) [] .none) _ _ _
 unfold Builtin.Dict.updateFrom
 refine wpAny_bind (wpAny_typeOf (show ({ s with heap:=s.heap.push { cls:=.type "dict",data:=.dict #[] } } : Shared).TypeIs (.ref l) "list" from ⟨_,BC,rfl⟩) ?_)
 rw [if_pos (by decide)]
 generalize pj:({ s with heap:=s.heap.push { cls:=.type "dict",data:=.dict #[] } } : Shared)=s1 at *
 obtain ⟨g1,g2,g3,g4,g5⟩:=s1
 cases pj
 refine wpAny_bind (yY BC (by first | exact hh | rfl) λh2 Mx k2=>?_)
 rw [if_pos (show (none:Option Value).isNone=true from rfl)]
 have cj:h2.get? l=some { cls:=.type "list",data:=.seq items n }:=k2 _ _ BC
 have lt2:∀b o,(s.heap.push { cls:=.type "dict",data:=.dict #[] }).get? b=some o->b<h2.objs.size:=λb o e=>Heap.lt_size (k2 b o e)
 refine wpAny_bind (wpAny_rule (wpAny_bind (wpAny_pyIter_list (s:={ heap:=h2,gens:=s.gens,drawn:=s.drawn,toks:=Mx,os:=s.os }) (items:=items) ⟨_,cj,rfl,n,rfl⟩ ?_)))
 refine wpAny_pure ⟨plainId_quiet F.bU _,?_⟩
 have hd2:h2.DictOf knd s.heap.objs.size []:=let ⟨o,es,ep,ho,r⟩:=ky; ⟨o,es,ep,k2 _ _ ho,r⟩
 have nC:s.heap.objs.size<h2.objs.size:=let ⟨o,es,ep,ho,r⟩:=ky; lt2 _ _ ho
 have p9:l<s.heap.objs.size:=Heap.lt_size hl
 refine vJ (knd:=knd) (d:=s.heap.objs.size) (it:=h2.objs.size) (l:=l) (items:=items) (kvs:=kvs) (Nat.ne_of_lt nC) (Nat.ne_of_gt p9) (Nat.ne_of_lt (Nat.lt_trans p9 nC)) hz (by first | exact hh | rfl) items.size 0 _ 0 [] rfl (Nat.zero_le _) hlen
  ⟨_,Heap.get?_push_size _ rfl,rfl,rfl⟩ ⟨_,Heap.get?_push_of_some _ cj,rfl,n,rfl⟩ ?_ (Nat.le_refl _) ?_ ?_
 . obtain ⟨o,es,ep,ho,r⟩:=hd2
   exact ⟨o,es,ep,Heap.get?_push_of_some _ ho,r⟩
 . intro j u kv hu p8
   obtain ⟨t,key,e,⟨o,eo,r⟩,hk⟩:=hp j u kv hu p8
   have ht:t<s.heap.objs.size:=Heap.lt_size eo
   refine ⟨⟨t,key,e,⟨o,Heap.get?_push_of_some _ (k2 _ _ (Heap.get?_push_of_some _ eo)),r⟩,hk⟩,λt' e'=>?_⟩
   rw [e] at e'
   cases e'
   exact ⟨Nat.ne_of_lt ht,Nat.ne_of_lt (Nat.lt_trans ht nC)⟩
 . intro h' p7 hd' j0
   refine ⟨rfl,h h' p7 ?_ λb o e=>?_⟩
   . simpa [merged] using hd'
   . have hb:b<s.heap.objs.size:=Heap.lt_size e
     exact j0 b o (Nat.ne_of_lt hb) (Nat.ne_of_lt (Nat.lt_trans hb nC)) (Heap.get?_push_of_some _ (k2 _ _ (Heap.get?_push_of_some _ e)))
end
end PySem
namespace L2
open PySem PySem.Spec PyProof.Rows
section
variable {X:Cx}
theorem QE {P:Program}{w:World}{k:Key}{u:Value}(h:(aR P w).is k u=true):RelV (kV k) u:=by
 rw [Ct] at h
 cases k with
 | inl i=>cases u <;> first | (simp [ib,Value.isInt] at h; done) | (simp [ib,Value.isInt] at h; subst h; exact ⟨_,rfl⟩)
 | inr x=>cases u <;> first | (simp [ib,Value.isStrOf] at h; done) | (simp [ib,Value.isStrOf] at h; subst h; exact ⟨_,rfl⟩)
theorem pairs_at {P:Program}{w:World}{H:Hp}{h:Heap}(ok:eg P w H h):∀{ts:List Addr}{kvs:List (Key×V)}{us:List Value},Paired (λt kv=>H t=some (.tup [kV kv.1,kv.2])) ts kvs->Vals (ts.map V.ref) us->
 ∃vs:List (Key×Value),KV kvs vs/\Paired (λu kv=>yZ (aR P w) h u kv) us vs
 | [],[],us,.nil,r=>by
  cases r
  exact ⟨[],.nil,.nil⟩
 | t::ts,kv::kvs,us,.cons e p,r=>by
  cases r with
  | @cons _ u _ uE ru r'=>
   obtain ⟨vs,k1,k2⟩:=pairs_at ok p r'
   cases (show u=Value.ref t from ru)
   obtain ⟨_,its,rv,ip⟩:=(show cv P w H h t (.tup [kV kv.1,kv.2]) from ok t _ e)
   obtain ⟨key,val,rfl,rk,rl⟩:=vals2 rv
   exact ⟨(kv.1,val)::vs,.cons ⟨rfl,rl⟩ k1,.cons ⟨t,key,rfl,ip,iL rk⟩ k2⟩
theorem gr {α β:Type}{F:α->β->Prop} : ∀{l₁:List α}{l₂:List β}{i:Nat}{a:α}{b:β},Paired F l₁ l₂->l₁[i]?=some a->l₂[i]?=some b->F a b
 | _,_,i,a,b,.nil,h,_=>by simp at h
 | _,_,0,a,b,.cons h t,e1,e2=>by
  simp at e1 e2
  subst e1 e2
  exact h
 | _,_,i+1,a,b,.cons h t,e1,e2=>gr (i:=i) t (by simpa using e1) (by simpa using e2)
theorem uF (hc:X.calm=true):fX X (.type "dict") (λxs H Q=>∃p ts kvs,xs=[.ref p]/\H p=some (.lst (ts.map V.ref))/\Paired (λt kv=>H t=some (.tup [kV kv.1,kv.2])) ts kvs/\∀d,H d=none->Q (.ref d) (upd H d (.dK (c8 [] kvs)))):=by
 intro pins s σ H xs us Q I r h
 obtain ⟨p,ts,kvs,rfl,hp,hT,q⟩:=h
 obtain ⟨u,rfl,rx⟩:=vals1 r
 cases (show u=Value.ref p from rx)
 obtain ⟨hz,its,n,rv,e⟩:=(show cv X.prog X.w H s.heap p (.lst (ts.map V.ref)) from I.hok p _ hp)
 obtain ⟨vs,kv,pv⟩:=pairs_at I.hok hT rv
 have l1:vs.length=its.toArray.size:=by rw [List.size_toArray]; exact pv.length.symm
 have l2:kvs.length=vs.length:=kv.length
 have l3:vs.length<=sizeLine:=by
  have:=hT.length
  rw [List.length_map] at hz
  omega
 refine y2 (knd:=aR X.prog X.w) (kvs:=vs) (I.ok.hd hc) e l1 l3 (λj u kv hu p8=>gr pv (by simpa using hu) p8) λh' tk dd kk=>?_
 refine ⟨.ref s.heap.objs.size,_,I.laid (a:=s.heap.objs.size) (o:=.dK (c8 [] kvs)) kk (Nat.le_refl _) (lM ?_ (beq_eq_false_iff_ne.mpr (Ne.symm (Nat.ne_of_lt I.big))) (KV.merge kv .nil) dd),rfl,q _ (I.hok.fresh (Nat.le_refl _))⟩
 have:=gi kvs []
 simp at this
 omega
theorem ij:fX X (.type "dict") (λxs H Q=>∃p kvs,xs=[.ref p]/\Rd H p (.dK kvs)/\∀d,H d=none->Q (.ref d) (upd H d (.dK kvs))):=by
 intro pins s σ H xs us Q I r h
 obtain ⟨p,kvs,rfl,hp,q⟩:=h
 obtain ⟨u,rfl,rx⟩:=vals1 r
 cases (show u=Value.ref p from rx)
 exact GR I hp λd s' hd I'=>⟨.ref d,_,I',rfl,q d hd⟩
theorem pq (hc:X.calm=true):fX X (.builtin "all") (λxs H Q=>∃p ys,xs=[.ref p]/\ak X.K H p ys/\(∀y∈ys,y=.bl true)/\Q (.bl true) H):=by
 intro pins s σ H xs us Q I r h
 obtain ⟨p,ys,rfl,hp,hy,q⟩:=h
 obtain ⟨u,rfl,rx⟩:=vals1 r
 cases (show u=Value.ref p from rx)
 obtain ⟨its,rv,pl,hz⟩:=I.list hp
 have hl:=pl.isList
 have cq:p<s.heap.objs.size:=by obtain ⟨_,e,_⟩:=hl; exact Heap.lt_size e
 refine call_all_walk (wpAny_pyIter_list hl ?_)
 refine ⟨s.heap.objs.size,[s.heap.objs.size,p],[s.heap.objs.size],its.toArray.size,_,_,λ_=>true,rfl,Walks.list (A:=X.A.in1) (by show X.A.in1.handled=none; exact I.ok.hd hc) _ p (Nat.ne_of_lt cq) its.toArray,
  ⟨⟨_,Heap.get?_push_size _ rfl,rfl,rfl⟩,hl.push _⟩,λi v s' Q' E' hP hQ=>?_,λh' tk hk=>?_⟩
 . have hi:its[i]?=some v:=by simpa using hP
   have hlen:=rv.length
   have qa:i<ys.length:=by
    have:=(List.getElem?_eq_some_iff.mp hi).1
    omega
   obtain ⟨w',e1,e2⟩:=rv.get (List.getElem?_eq_getElem qa)
   rw [hi] at e1
   cases e1
   rw [hy _ (List.getElem_mem qa)] at e2
   cases (show v=Value.bool true from e2)
   exact wpAny_truthy_bool hQ
 . have e:((List.range its.toArray.size).all λ_=>true)=true:=by simp
   rw [e]
   exact ⟨.bl true,H,I.kept (t':=tk) (λb o eb=>hk b o (λhm=>by rw [List.mem_singleton.mp hm] at eb; exact Nat.lt_irrefl _ (Heap.lt_size eb)) (Heap.get?_push_of_some _ eb)),rfl,q⟩
end
section
variable {X:Cx}{pins:List (Addr×Obj)}{σ:St}{H:Hp}{s:Shared}{d:Addr}{kvs:List (Key×V)}
theorem Inv.freeze (I:Inv X pins σ H s) (e:H d=some (.dK kvs)):∃o,s.heap.get? d=some o/\Inv X pins σ (upd H d (.fO o (.dK kvs))) s:=by
 obtain ⟨z,hd,vs,rel,dd⟩:=yk I.hok e
 obtain ⟨o,es,ep,ho,r⟩:=id dd
 refine ⟨o,ho,I.write (x:=d) (e:=d) (t':=s.toks) (h':=s.heap) (by rw [e]; trivial) (.inl rfl) (λb u _ q=>q) ⟨o,ho⟩ (show cv X.prog X.w _ s.heap d (.fO o (.dK kvs)) from ⟨ho,lM z hd rel dd⟩)⟩
end
section
variable {X:Cx}
def RK (d:Addr) (o:Obj) (kvs:List (Key×V)):It:=⟨λi H=>H d=some (.fO o (.dK kvs))/\i<kvs.length,λi H x H'=>H'=H/\∃kv,kvs[i]?=some kv/\x=kV kv.1,λi H=>H d=some (.fO o (.dK kvs))/\i=kvs.length⟩
theorem EJ {P:Program}{w:World}{K:W.Frag}{tg:Expr}{d it:Addr}{o:Obj}{es:Array DictEntry}{ep:Nat}{kvs:List (Key×V)}(hd:o.data=.dict es ep) (dh:d≠it):Turn P w K tg (RK d o kvs) [it] it (λi h=>h.IsKeyIter it d i kvs.length ep) where
 mem:=by simp
 obj:=λi h st b hb=>by
  have e:b=it:=by simpa using hb
  subst e
  obtain ⟨o,e,c,d⟩:=st
  exact ⟨o,e,λv z=>by rw [d] at z; cases z⟩
 keep:=λi h h' st k=>let ⟨o,e,r⟩:=st; ⟨o,k it (by simp) o e,r⟩
 item:=by
  intro X hP hw hK hc i pins s σ H E I hf st hg
  subst hP hw hK
  obtain ⟨f0,f1,f2,f3,f4,f5⟩:=hf it (by simp)
  obtain ⟨g1,g2⟩:=hg
  obtain ⟨ho,z,hs,vs,rel,o',Be,Bf,jf,r'⟩:=(show cv X.prog X.w H s.heap d (.fO o (.dK kvs)) from I.hok d _ g1)
  rw [ho] at jf
  cases jf
  have lS:=r'.2.1
  rw [hd] at lS
  cases lS
  have hl:kvs.length=vs.length:=rel.length
  refine (Walks.dictKeys (knd:=aR X.prog X.w) (I.ok.hd hc) it d dh vs ep).item i s _ _ (by omega) ⟨by rw [← hl]; exact st,o,es,ho,r'⟩ λv h' tk hv a7 kk=>?_
  obtain ⟨k,x,ek,ik⟩:=hv
  have I1:Inv X pins σ H { s with heap:=h',toks:=tk }:=I.turned (λb o hb e=>kk b o (by simpa using hb) e) f0 f1 f3 f4 f5
  have jW:h'.IsKeyIter it d (i+1) kvs.length ep:=by rw [hl]; exact a7.1
  obtain ⟨oi,e,oc,od⟩:=id jW
  have RL:kvs[i]?=some kvs[i]:=List.getElem?_eq_getElem g2
  have wX:(kvs[i]).1=k:=(gr rel RL ek).1
  exact ⟨_,rfl,yi (s:={ s with heap:=h',toks:=tk }) e oc od (by decide) ⟨kV k,H,I1,QE ik,⟨rfl,_,RL,by rw [wX]⟩,jW,λb hb=>(hf b hb).1⟩⟩
 done:=by
  intro X hP hw hK hc i pins s σ H E I hf st hg
  subst hP hw hK
  obtain ⟨f0,f1,f2,f3,f4,f5⟩:=hf it (by simp)
  obtain ⟨g1,g2⟩:=hg
  subst g2
  obtain ⟨ho,z,hs,vs,rel,o',Be,Bf,jf,r'⟩:=(show cv X.prog X.w H s.heap d (.fO o (.dK kvs)) from I.hok d _ g1)
  rw [ho] at jf
  cases jf
  have lS:=r'.2.1
  rw [hd] at lS
  cases lS
  have hl:kvs.length=vs.length:=rel.length
  exact (Walks.dictKeys (knd:=aR X.prog X.w) (I.ok.hd hc) it d dh vs ep).done s _ _ ⟨by rw [← hl]; exact st,o,es,ho,r'⟩ λh' tk kk=>⟨rfl,I.turned (λb o hb e=>kk b o (by simpa using hb) e) f0 f1 f3 f4 f5⟩
 self:=λA i s Q E st h=>wpAny_pyIter_keyiter st h
end
end L2
namespace PySem
open Sem (wp)
section
variable {prog:Program}{w:World}{A:Around}{E:Value->Shared->Prop}{s:Shared}
theorem oI {it t:Addr}{i:Nat}{items} {x:Value}{Q:Value->Shared->Prop}(hit:s.heap.IsTupleIter it t i) (ht:s.heap.IsTuple t items) (hx:items[i]?=some x)
 (hQ:∀h',h'.IsTupleIter it t (i+1)->Heap.SameBut it s.heap h'->Q x { s with heap:=h' }):wpAny (model prog w) A (Builtin.SmallTypes.nextOf (.ref it)) Q E s:=by
 obtain ⟨o,ho,hc,hd⟩:=id hit
 obtain ⟨ol,rS,_,nl,nC⟩:=ht
 unfold Builtin.SmallTypes.nextOf
 refine wpAny_bind (wpAny_callSpecial?_slot (name:=Str.ofString "__next__") hit.typeIs F.slot_tuple_iterator_next (wpAny_call_entry F.slot_tuple_iterator_next hit.typeIs F.entry_tuple_iterator_next ?_ (F.args_tuple_iterator_next_1 _)))
 show wpAny _ _ (field (.ref it) 0 >>= _) _ _ s
 refine wpAny_bind (wpAny_field ho hd (x:=.ref t) rfl ?_)
 show wpAny _ _ (if (Value.ref t == Value.none)=true then _ else _) _ _ s
 rw [if_neg (show ¬ ((Value.ref t == Value.none)=true) from Bool.false_ne_true)]
 show wpAny _ _ (field (.ref it) 1 >>= _) _ _ s
 refine wpAny_bind (wpAny_field ho hd (x:=.int i 0) rfl ?_)
 show wpAny _ _ (seqItems? (.ref t) >>= _) _ _ s
 refine wpAny_bind (wpAny_seqItems rS nC ?_)
 simp only [Int.toNat_natCast,hx]
 refine wpAny_bind (wpAny_setField ho hd (by simp) (wpAny_pure ⟨x,rfl,wpAny_pure (hQ _ ?_ (Heap.SameBut.update ..))⟩))
 exact ⟨_,Heap.get?_update_self _ ho (Obj.isFreed_of_fields (Obj.data_mapFields hd _)),(Obj.cls_mapFields ..).trans hc,by rw [Obj.data_mapFields hd]; simp [rawInt]⟩
theorem pH {it t:Addr}{i:Nat}{items} {Q:Value->Shared->Prop}(hh:A.handled=none) (hit:s.heap.IsTupleIter it t i) (ht:s.heap.IsTuple t items) (hx:items[i]?=none)
 (hE:∀h' e,Heap.ExtBut it s.heap h'->(∃o,h'.get? e=some o/\o.cls=.type "StopIteration")->E (.ref e) { s with heap:=h' }):wpAny (model prog w) A (Builtin.SmallTypes.nextOf (.ref it)) Q E s:=by
 obtain ⟨o,ho,hc,hd⟩:=id hit
 obtain ⟨ol,rS,_,nl,nC⟩:=ht
 unfold Builtin.SmallTypes.nextOf
 refine wpAny_bind (wpAny_callSpecial?_slot (name:=Str.ofString "__next__") hit.typeIs F.slot_tuple_iterator_next (wpAny_call_entry F.slot_tuple_iterator_next hit.typeIs F.entry_tuple_iterator_next ?_ (F.args_tuple_iterator_next_1 _)))
 show wpAny _ _ (field (.ref it) 0 >>= _) _ _ s
 refine wpAny_bind (wpAny_field ho hd (x:=.ref t) rfl ?_)
 show wpAny _ _ (if (Value.ref t == Value.none)=true then _ else _) _ _ s
 rw [if_neg (show ¬ ((Value.ref t == Value.none)=true) from Bool.false_ne_true)]
 show wpAny _ _ (field (.ref it) 1 >>= _) _ _ s
 refine wpAny_bind (wpAny_field ho hd (x:=.int i 0) rfl ?_)
 show wpAny _ _ (seqItems? (.ref t) >>= _) _ _ s
 refine wpAny_bind (wpAny_seqItems rS nC ?_)
 simp only [Int.toNat_natCast,hx]
 refine wpAny_bind (wpAny_rule (wpAny_bind (wpAny_setField ho hd (by simp) ?_)))
 show wpAny _ _ (newExc (.type "StopIteration") [] >>= _) _ _ _
 refine wpAny_bind ?_
 simp only [newExc,newTuple]
 refine wpAny_bind (wpAny_newObj_type ?_ (by size_fits))
 refine wpAny_bind (m:=firstArgMember _ _) (wpAny_of_eq (a:=Value.none) (by first | rfl | (simp only [firstArgMember]; rfl)) ?_)
 refine wpAny_newObj_type ?_ (by size_fits)
 simp only [raiseNew]
 refine wpAny_bind (wpAny_handled ?_)
 first | rw [show A.in1.handled=none from hh] | rw [hh]
 refine wpAny_bind (wpAny_pure (wpAny_throw ?_))
 exact hE _ _ (((Heap.SameBut.update ..).extBut.push _).push _) ⟨_,Heap.get?_push_size _ rfl,rfl⟩
end
def jv (tp:Bool) (h:Heap) (l:Addr) (xs:Array Value):Prop:=match tp with | true=>h.IsTuple l xs | false=>h.IsList l xs
def eI (tp:Bool) (h:Heap) (i l:Addr) (k:Nat):Prop:=match tp with | true=>h.IsTupleIter i l k | false=>h.IsListIter i l k
theorem jv.at {tp:Bool}{h h':Heap}{l:Addr}{xs:Array Value}(x:jv tp h l xs) (k:∀o,h.get? l=some o->h'.get? l=some o):jv tp h' l xs:=by
 cases tp <;> (obtain ⟨o,e,r⟩:=x; exact ⟨o,k o e,r⟩)
theorem eI.at {tp:Bool}{h h':Heap}{i l:Addr}{n:Nat}(x:eI tp h i l n) (k:∀o,h.get? i=some o->h'.get? i=some o):eI tp h' i l n:=by
 cases tp <;> (obtain ⟨o,e,r⟩:=x; exact ⟨o,k o e,r⟩)
theorem eI.there {tp:Bool}{h:Heap}{i l:Addr}{n:Nat}(x:eI tp h i l n):∃o,h.get? i=some o/\∃vs,o.data=.fields vs:=by
 cases tp <;> (obtain ⟨o,e,c,d⟩:=x; exact ⟨o,e,_,d⟩)
section
variable {prog:Program}{w:World}{A:Around}{E:Value->Shared->Prop}{s:Shared}{tp:Bool}
theorem nE {it l:Addr}{i:Nat}{items} {x:Value}{Q:Value->Shared->Prop}(hit:eI tp s.heap it l i) (hl:jv tp s.heap l items) (hx:items[i]?=some x)
 (hQ:∀h',eI tp h' it l (i+1)->Heap.SameBut it s.heap h'->Q x { s with heap:=h' }):wpAny (model prog w) A (Builtin.SmallTypes.nextOf (.ref it)) Q E s:=by
 cases tp
 . exact wpAny_nextOf_list_item hit hl hx hQ
 . exact oI hit hl hx hQ
theorem EK {it l:Addr}{i:Nat}{items} {Q:Value->Shared->Prop}(hh:A.handled=none) (hit:eI tp s.heap it l i) (hl:jv tp s.heap l items) (hx:items[i]?=none)
 (hE:∀h' e,Heap.ExtBut it s.heap h'->(∃o,h'.get? e=some o/\o.cls=.type "StopIteration")->E (.ref e) { s with heap:=h' }):wpAny (model prog w) A (Builtin.SmallTypes.nextOf (.ref it)) Q E s:=by
 cases tp
 . exact wpAny_nextOf_list_end hh hit hl hx hE
 . exact pH hh hit hl hx hE
theorem abk {z TI TO i1 i2 l1 l2:Addr}{k:Nat}{xs ys:Array Value}{x y a b:Value}{Q:Option Value->Shared->Prop}(nd:[z,TI,TO,i1,i2].Nodup) (n1:l1∉[z,TI,TO,i1,i2]) (n2:l2∉[z,TI,TO,i1,i2])
 (hz:IsZip s.heap z TI TO .none) (fj:IsPair s.heap TI (.ref i1) (.ref i2)) (gz:IsPair s.heap TO a b) (h1:eI tp s.heap i1 l1 k) (h2:eI tp s.heap i2 l2 k) (cC:jv tp s.heap l1 xs) (cj:jv tp s.heap l2 ys) (hx:xs[k]?=some x) (hy:ys[k]?=some y)
 (hQ:∀h',IsZip h' z TI TO (rawInt s.heap.objs.size)->IsPair h' TO x y->eI tp h' i1 l1 (k+1)->eI tp h' i2 l2 (k+1)->IsPair h' s.heap.objs.size x y->
  (∀c o,c≠z->c≠TO->c≠i1->c≠i2->s.heap.get? c=some o->h'.get? c=some o)->Q (some (.ref s.heap.objs.size)) { s with heap:=h' }):wpAny (model prog w) A (pyNext (.ref z)) Q E s:=by
 simp only [List.nodup_cons,List.mem_cons,List.not_mem_nil,or_false,not_or] at nd n1 n2
 obtain ⟨⟨rV,jh,iF,j1⟩,⟨TITO,TIi1,TIi2⟩,⟨TOi1,TOi2⟩,i12,_⟩:=nd
 obtain ⟨l1z,My,l1TO,l1i1,l1i2⟩:=n1
 obtain ⟨l2z,UY,l2TO,l2i1,l2i2⟩:=n2
 have hT:s.TypeIs (.ref z) "zip":=⟨_,hz,rfl⟩
 unfold pyNext
 refine wpAny_bind (wpAny_attempt (wpAny_callSpecial?_slot (name:=Str.ofString "__next__") hT F.slot_zip_next (wpAny_call_entry F.slot_zip_next hT F.entry_zip_next ?_ (F.args_zip_next_1 _))))
 show wpAny _ _ (field (.ref z) 2 >>= _) _ _ _
 refine wpAny_bind (wpAny_field hz rfl (x:=.bool false) rfl ?_)
 show wpAny _ _ (field (.ref z) 3 >>= _) _ _ _
 refine wpAny_bind (wpAny_field hz rfl (x:=.ref TI) rfl ?_)
 refine wpAny_bind (wpAny_seqItems fj rfl ?_)
 show wpAny _ _ (Builtin.SmallTypes.ownedTupleIsFree (.ref z) >>= _) _ _ _
 refine wpAny_bind ?_
 unfold Builtin.SmallTypes.ownedTupleIsFree
 refine wpAny_bind (wpAny_field hz rfl (x:=.none) rfl (wpAny_pure ?_))
 simp only [if_true]
 refine wpAny_bind (wpAny_rule ?_)
 refine wpAny_bind (wpAny_field hz rfl (x:=.ref TO) rfl ?_)
 refine wpAny_bind (wpAny_setField_rec hz (by simp) λgu fQ fh=>?_)
 replace fQ:IsZip gu z TI TO .ellipsis:=fQ
 refine wpAny_bind ?_
 simp only [List.zipIdx_cons,List.zipIdx_nil,List.forIn_cons,List.forIn_nil]
 have k1:∀c o,c≠z->s.heap.get? c=some o->gu.get? c=some o:=λc o n e=>fh.extBut _ _ n e
 refine wpAny_bind (wpAny_bind (wpAny_onRaise ?_))
 show wpAny _ _ (Builtin.SmallTypes.nextOf (.ref i1) >>= _) _ _ _
 refine wpAny_bind (nE (h1.at λo e=>k1 _ o (Ne.symm iF) e) (cC.at λo e=>k1 _ o l1z e) hx λjA y3 ji=>wpAny_pure ?_)
 have k2:∀c o,c≠i1->gu.get? c=some o->jA.get? c=some o:=λc o n e=>ji.extBut _ _ n e
 have qb:IsPair jA TO a b:=k2 _ _ TOi1 (k1 _ _ (Ne.symm jh) gz)
 refine wpAny_bind (wpAny_seqItems qb rfl ?_)
 refine wpAny_bind (wpAny_updateSeq_pair qb λjB lT j2=>?_)
 replace lT:IsPair jB TO x b:=lT
 have k3:∀c o,c≠TO->jA.get? c=some o->jB.get? c=some o:=λc o n e=>j2.extBut _ _ n e
 refine wpAny_bind (wpAny_letGo (wpAny_pure ?_))
 refine wpAny_bind (wpAny_bind (wpAny_onRaise ?_))
 show wpAny _ _ (Builtin.SmallTypes.nextOf (.ref i2) >>= _) _ _ _
 refine wpAny_bind (nE (h2.at λo e=>k3 _ o (Ne.symm TOi2) (k2 _ o (Ne.symm i12) (k1 _ o (Ne.symm j1) e))) (cj.at λo e=>k3 _ o l2TO (k2 _ o l2i1 (k1 _ o l2z e))) hy λvG EL wY=>wpAny_pure ?_)
 have k4:∀c o,c≠i2->jB.get? c=some o->vG.get? c=some o:=λc o n e=>wY.extBut _ _ n e
 have qc:IsPair vG TO x b:=k4 _ _ TOi2 lT
 refine wpAny_bind (wpAny_seqItems qc rfl ?_)
 refine wpAny_bind (wpAny_updateSeq_pair qc λeG jj wZ=>?_)
 replace jj:IsPair eG TO x y:=jj
 have k5:∀c o,c≠TO->vG.get? c=some o->eG.get? c=some o:=λc o n e=>wZ.extBut _ _ n e
 refine wpAny_bind (wpAny_letGo (wpAny_pure (wpAny_pure ?_)))
 refine wpAny_bind (wpAny_seqItems jj rfl ?_)
 refine wpAny_bind (wpAny_newTuple ?_)
 have hsz:eG.objs.size=s.heap.objs.size:=by rw [wZ.1,wY.1,j2.1,ji.1,fh.1]
 have w4:IsZip eG z TI TO .ellipsis:=k5 _ _ jh (k4 _ _ j1 (k3 _ _ jh (k2 _ _ iF fQ)))
 have Mz:∀c o,c≠z->c≠TO->c≠i1->c≠i2->s.heap.get? c=some o->eG.get? c=some o:=λc o c1 c2 c3 c4 e=>k5 _ _ c2 (k4 _ _ c4 (k3 _ _ c2 (k2 _ _ c3 (k1 _ _ c1 e))))
 have MA:eI tp eG i1 l1 (k+1):=y3.at λo e=>k5 _ _ (Ne.symm TOi1) (k4 _ _ i12 (k3 _ _ (Ne.symm TOi1) e))
 have MB:eI tp eG i2 l2 (k+1):=EL.at λo e=>k5 _ _ (Ne.symm TOi2) e
 have qd:z<eG.objs.size:=Heap.lt_size w4
 show wpAny _ _ (Builtin.SmallTypes.ownedTupleHandOut (.ref z) (.ref eG.objs.size) >>= _) _ _ _
 refine wpAny_bind ?_
 unfold Builtin.SmallTypes.ownedTupleHandOut
 have EM:IsZip (eG.push { cls:=.type "tuple",data:=.seq #[x,y] }) z TI TO .ellipsis:=Heap.get?_push_of_some _ w4
 refine wpAny_bind (wpAny_setField_rec EM (by simp) λMC qe xf=>?_)
 replace qe:IsZip MC z TI TO (rawInt eG.objs.size):=qe
 refine wpAny_setField_rec qe (by simp) λsU mq xg=>?_
 replace mq:IsZip sU z TI TO (rawInt eG.objs.size):=mq
 have up:∀c o,c≠z->eG.get? c=some o->sU.get? c=some o:=λc o c1 e=>xg.extBut _ _ c1 (xf.extBut _ _ c1 (Heap.get?_push_of_some _ e))
 have uG:IsPair sU eG.objs.size x y:=xg.extBut _ _ (Nat.ne_of_gt qd) (xf.extBut _ _ (Nat.ne_of_gt qd) (Heap.get?_push_size _ rfl))
 rw [hsz] at mq uG
 refine wpAny_pure ⟨.ref eG.objs.size,rfl,wpAny_pure ?_⟩
 rw [hsz]
 exact hQ sU mq (up _ _ (Ne.symm jh) jj) (MA.at λo e=>up _ o (Ne.symm iF) e) (MB.at λo e=>up _ o (Ne.symm j1) e) uG λc o c1 c2 c3 c4 e=>up c o c1 (Mz c o c1 c2 c3 c4 e)
theorem KA {z TI TO i1 i2 l1:Addr}{k:Nat}{xs:Array Value}{a b:Value}{Q:Option Value->Shared->Prop}(hh:A.handled=none) (nd:[z,TI,TO,i1,i2].Nodup) (n1:l1∉[z,TI,TO,i1,i2])
 (hz:IsZip s.heap z TI TO .none) (fj:IsPair s.heap TI (.ref i1) (.ref i2)) (h1:eI tp s.heap i1 l1 k) (cC:jv tp s.heap l1 xs) (hx:xs[k]?=none)
 (hQ:∀h',(∀c o,c≠z->c≠TO->c≠i1->c≠i2->s.heap.get? c=some o->h'.get? c=some o)->Q none { s with heap:=h' }):wpAny (model prog w) A (pyNext (.ref z)) Q E s:=by
 simp only [List.nodup_cons,List.mem_cons,List.not_mem_nil,or_false,not_or] at nd n1
 obtain ⟨⟨rV,jh,iF,j1⟩,⟨TITO,TIi1,TIi2⟩,⟨TOi1,TOi2⟩,i12,_⟩:=nd
 obtain ⟨l1z,My,l1TO,l1i1,l1i2⟩:=n1
 have hT:s.TypeIs (.ref z) "zip":=⟨_,hz,rfl⟩
 unfold pyNext
 refine wpAny_bind (wpAny_attempt (wpAny_callSpecial?_slot (name:=Str.ofString "__next__") hT F.slot_zip_next (wpAny_call_entry F.slot_zip_next hT F.entry_zip_next ?_ (F.args_zip_next_1 _))))
 show wpAny _ _ (field (.ref z) 2 >>= _) _ _ _
 refine wpAny_bind (wpAny_field hz rfl (x:=.bool false) rfl ?_)
 show wpAny _ _ (field (.ref z) 3 >>= _) _ _ _
 refine wpAny_bind (wpAny_field hz rfl (x:=.ref TI) rfl ?_)
 refine wpAny_bind (wpAny_seqItems fj rfl ?_)
 show wpAny _ _ (Builtin.SmallTypes.ownedTupleIsFree (.ref z) >>= _) _ _ _
 refine wpAny_bind ?_
 unfold Builtin.SmallTypes.ownedTupleIsFree
 refine wpAny_bind (wpAny_field hz rfl (x:=.none) rfl (wpAny_pure ?_))
 simp only [if_true]
 refine wpAny_bind (wpAny_rule ?_)
 refine wpAny_bind (wpAny_field hz rfl (x:=.ref TO) rfl ?_)
 refine wpAny_bind (wpAny_setField_rec hz (by simp) λgu fQ fh=>?_)
 replace fQ:IsZip gu z TI TO .ellipsis:=fQ
 refine wpAny_bind ?_
 simp only [List.zipIdx_cons,List.zipIdx_nil,List.forIn_cons,List.forIn_nil]
 refine wpAny_bind (wpAny_bind (wpAny_onRaise ?_))
 show wpAny _ _ (Builtin.SmallTypes.nextOf (.ref i1) >>= _) _ _ _
 refine wpAny_bind (EK (by first | exact hh | rfl) (h1.at λo e=>fh.extBut _ o (Ne.symm iF) e) (cC.at λo e=>fh.extBut _ o l1z e) hx λjA e ji he=>?_)
 obtain ⟨oe,uH,pz⟩:=he
 have EN:IsZip jA z TI TO .ellipsis:=ji _ _ iF fQ
 have MD:e≠z:=λx=>by subst x; rw [EN] at uH; cases uH; simp at pz
 refine wpAny_setField_rec EN (by simp) λjB _ j2=>?_
 refine wpAny_bind (wpAny_isInstance (T:="StopIteration") (b:=true) ⟨oe,j2.extBut _ _ MD uH,pz⟩ isSubtype_stop ?_)
 exact wpAny_pure (hQ _ λc o c1 _ c3 _ x=>j2.extBut _ _ c1 (ji _ _ c3 (fh.extBut _ _ c1 x)))
end
end PySem
namespace PySem
abbrev CW (h:Heap) (l1:Addr):Heap:=h.push { cls:=.type "tuple_iterator",data:=.fields #[.ref l1,.int 0 0] }
abbrev CY (h:Heap) (l1 l2:Addr):Heap:=(CW h l1).push { cls:=.type "tuple_iterator",data:=.fields #[.ref l2,.int 0 0] }
abbrev CZ (h:Heap) (l1 l2:Addr):Heap:=(CY h l1 l2).push { cls:=.type "tuple",data:=.seq #[.ref h.objs.size,.ref (CW h l1).objs.size] }
abbrev C1 (h:Heap) (l1 l2:Addr):Heap:=(CZ h l1 l2).push { cls:=.type "tuple",data:=.seq #[.none,.none] }
abbrev vK (h:Heap) (l1 l2:Addr):Heap:=(C1 h l1 l2).push { cls:=.type "zip",data:=.fields #[.none,.bool false,.bool false,.ref (CY h l1 l2).objs.size,.ref (CZ h l1 l2).objs.size] }
theorem y4 (l1 l2:Addr) (xs ys:Array Value) :
 Meets (Builtin.«zip.__new__» ⟨[.type "zip",.ref l1,.ref l2],[]⟩) (λ_ R s=>s.heap.IsTuple l1 xs/\s.heap.IsTuple l2 ys/\R (.ok (.ret (.ref (C1 s.heap l1 l2).objs.size))) { s with heap:=vK s.heap l1 l2 }):=
 .of_wp λprog w A R s h=>by
  obtain ⟨hp,g,d,tk,os⟩:=s; obtain ⟨cC,cj,h⟩:=h
  have He:=sub_zip
  have EO:Heap.IsTuple (Shared.heap ⟨hp,g,d,tk,os⟩) l1 xs:=cC
  have y6:Heap.IsTuple (Shared.heap ⟨hp.push { cls:=.type "tuple_iterator",data:=.fields #[.ref l1,.int 0 0] },g,d,tk,os⟩) l2 ys:=Heap.IsTuple.push cj _
  wp_walk using wpAny_pyIter_tuple EO,wpAny_pyIter_tuple y6
  exact ⟨_,rfl,h⟩
section
variable {prog:Program}{w:World}{A:Around}{E:Value->Shared->Prop}{s:Shared}{tp:Bool}
theorem KC {l1 l2:Addr}{xs ys:Array Value}{Q:Value->Shared->Prop}(cC:jv tp s.heap l1 xs) (cj:jv tp s.heap l2 ys)
 (h:∀h',IsZip h' (s.heap.objs.size+4) (s.heap.objs.size+2) (s.heap.objs.size+3) .none->IsPair h' (s.heap.objs.size+2) (.ref s.heap.objs.size) (.ref (s.heap.objs.size+1))->
  IsPair h' (s.heap.objs.size+3) .none .none->eI tp h' s.heap.objs.size l1 0->eI tp h' (s.heap.objs.size+1) l2 0->(∀c o,s.heap.get? c=some o->h'.get? c=some o)->Q (.ref (s.heap.objs.size+4)) { s with heap:=h' }) :
 wpAny (model prog w) A (call (.type "zip") [.ref l1,.ref l2]) Q E s:=by
 cases tp
 . exact call_zip_2 cC cj λh' a b c d e _ f=>h h' a b c d e f
 . refine callType_new F.called_zip (by decide) (F.typeCall_zip_2 _ _) (F.newCall_zip_2 _ _) (λobj=>F.args_object_init_3 obj _ _) F.entry_zip_new (y4 l1 l2 xs ys) ⟨cC,cj,?_⟩
   have z1:(CW s.heap l1).objs.size=s.heap.objs.size+1:=Heap.size_push ..
   have z2:(CY s.heap l1 l2).objs.size=s.heap.objs.size+2:=by rw [Heap.size_push,z1]
   have z3:(CZ s.heap l1 l2).objs.size=s.heap.objs.size+3:=by rw [Heap.size_push,z2]
   have z4:(C1 s.heap l1 l2).objs.size=s.heap.objs.size+4:=by rw [Heap.size_push,z3]
   have g5:(vK s.heap l1 l2).get? (C1 s.heap l1 l2).objs.size=some _:=Heap.get?_push_size _ rfl
   have g4:(vK s.heap l1 l2).get? (CZ s.heap l1 l2).objs.size=some _:=Heap.get?_push_of_some _ (Heap.get?_push_size _ rfl)
   have g3:(vK s.heap l1 l2).get? (CY s.heap l1 l2).objs.size=some _:=Heap.get?_push_of_some _ (Heap.get?_push_of_some _ (Heap.get?_push_size _ rfl))
   have g2:(vK s.heap l1 l2).get? (CW s.heap l1).objs.size=some _:=Heap.get?_push_of_some _ (Heap.get?_push_of_some _ (Heap.get?_push_of_some _ (Heap.get?_push_size _ rfl)))
   have g1:(vK s.heap l1 l2).get? s.heap.objs.size=some _:=Heap.get?_push_of_some _ (Heap.get?_push_of_some _ (Heap.get?_push_of_some _ (Heap.get?_push_of_some _ (Heap.get?_push_size _ rfl))))
   show _/\_
   rw [z2,z3,z4] at g5
   rw [z1,z2] at g3
   rw [z3] at g4
   rw [z1] at g2
   rw [z4]
   exact ⟨⟨_,g5,rfl⟩,h _ g5 g3 g4 ⟨_,g1,rfl,rfl⟩ ⟨_,g2,rfl,rfl⟩ λc o x=>
    Heap.get?_push_of_some _ (Heap.get?_push_of_some _ (Heap.get?_push_of_some _ (Heap.get?_push_of_some _ (Heap.get?_push_of_some _ x))))⟩
end
end PySem
namespace L2
open PySem PySem.Spec PyProof.Rows
section
variable {X:Cx}
end
end L2
namespace L2
open PySem PySem.Spec PyProof.Rows
def KD (P:Program) (w:World) (K:W.Frag) (a:Addr) (kvs:List (Key×V)):Prop:=
 (a == sysModules)=false/\∃(o:Obj) (es:Array DictEntry) (ep:Nat) (vs:List (Key×Value)),K.lookup a=some o/\o.ExactDict/\o.data=.dict es ep/\KeysOf (aR P w) es/\Pairs (aR P w) es.toList vs/\(vs.map (·.1)).Nodup/\KV kvs vs
section
variable {X:Cx}{pins:List (Addr×Obj)}{σ:St}{H:Hp}{s:Shared}{a:Addr}{kvs:List (Key×V)}{k:Key}{v:V}{u:Value}{E:Value->Shared->Prop}
theorem Inv.kd (I:Inv X pins σ H s) (h:KD X.prog X.w X.K a kvs):(a == sysModules)=false/\∃vs,KV kvs vs/\s.heap.DictOf (aR X.prog X.w) a vs:=by
 obtain ⟨hs,o,es,ep,vs,hk,h1,h2,h3,h4,h5,rel⟩:=h
 exact ⟨hs,vs,rel,o,es,ep,I.o6 a o hk,h1,h2,h3,h4,h5⟩
theorem ER {Q:Value->Shared->Prop}{A:Around}(I:Inv X pins σ H s) (h:KD X.prog X.w X.K a kvs) (l:bf kvs k=some v) (ry:RelV (kV k) u) (q:∀w' s',Inv X pins σ H s'->RelV v w'->Q w' s'):wpAny (model X.prog X.w) A (getItem (.ref a) u) Q E s:=by
 obtain ⟨hs,vs,rel,dd⟩:=I.kd h
 obtain ⟨w',hw,eR⟩:=iu.some_of (v:=v) (o:=valueAt vs k) (by rw [← l]; exact rel.val k)
 exact wpAny_getItem_of (iL ry) dd.mapOf hw (q w' _ (I.tok _) eR)
end
section
variable {X:Cx}{o i:Expr}{pos:Pos}{td ty:TE}
def QF (P:Program) (w:World) (K:W.Frag) (td ty:TE):TE:=λσ H Q=>td σ H λx H1=>ty σ H1 λy H2=>∃a kvs k v,x=.ref a/\y=kV k/\KD P w K a kvs/\bf kvs k=some v/\Q v H2
theorem vL (ho:PE X o td) (hi:PE X i ty) (hs:GQ i):PE X (.Subscript o i pos) (QF X.prog X.w X.K td ty):=by
 intro pins s σ H Q I h
 refine Bn PySem.F.slot_dict_getitem.lookup hs (aP (ho pins s σ H _ I h) λu s1 ⟨x,H1,I1,rx,q1⟩=>aP (hi pins s1 σ H1 _ I1 q1) λiv s2 ⟨y,H2,I2,ry,a,kvs,k,v,ex,ey,g,l,q2⟩=>?_)
 subst ex ey
 obtain rfl:u=Value.ref a:=rx
 obtain ⟨_,vs,_,dd⟩:=I2.kd g
 exact ⟨dd.typeIs,ER I2 g l ry λw' s3 I3 eR=>⟨v,H2,I3,eR,q2⟩⟩
def ME (P:Program) (w:World) (K:W.Frag) (neg:Bool) (ty td:TE):TE:=λσ H Q=>ty σ H λy H1=>td σ H1 λx H2=>∃a kvs k,x=.ref a/\y=kV k/\KD P w K a kvs/\Q (.bl (if neg then !(bf kvs k).isSome else (bf kvs k).isSome)) H2
theorem MF (hi:PE X i ty) (ho:PE X o td):PC X .In i o (ME X.prog X.w X.K false ty td):=by
 intro pins s σ H Q I h
 refine aP (hi pins s σ H _ I h) λiv s1 ⟨y,H1,I1,ry,q1⟩=>aP (ho pins s1 σ H1 _ I1 q1) λu s2 ⟨x,H2,I2,rx,a,kvs,k,ex,ey,g,q2⟩=>?_
 subst ex ey
 obtain rfl:u=Value.ref a:=rx
 obtain ⟨hs,vs,rel,dd⟩:=I2.kd g
 refine wpAny_in_of (iL ry) hs dd.mapOf ?_
 rw [← (rel.val k).gZ]
 exact ⟨.bl _,H2,I2.tok _,rfl,q2⟩
theorem ES (hi:PE X i ty) (ho:PE X o td):PC X .NotIn i o (ME X.prog X.w X.K true ty td):=by
 intro pins s σ H Q I h
 refine aP (hi pins s σ H _ I h) λiv s1 ⟨y,H1,I1,ry,q1⟩=>aP (ho pins s1 σ H1 _ I1 q1) λu s2 ⟨x,H2,I2,rx,a,kvs,k,ex,ey,g,q2⟩=>?_
 subst ex ey
 obtain rfl:u=Value.ref a:=rx
 obtain ⟨hs,vs,rel,dd⟩:=I2.kd g
 refine wpAny_notIn_of (iL ry) hs dd.mapOf ?_
 rw [← (rel.val k).gZ]
 exact ⟨.bl _,H2,I2.tok _,rfl,q2⟩
end
end L2
namespace L2
open PySem PySem.Spec PyProof.Rows
theorem MG (bs:List Bool):((List.range bs.length).any λi=>(bs[i]?).getD false)=bs.any _root_.id:=by
 rw [Bool.eq_iff_iff,List.any_eq_true,List.any_eq_true]
 constructor
 . rintro ⟨i,hi,h⟩
   have pf:=List.mem_range.mp hi
   rw [List.getElem?_eq_getElem pf] at h
   exact ⟨bs[i],List.getElem_mem pf,h⟩
 . rintro ⟨b,hb,h⟩
   obtain ⟨i,hi,e⟩:=List.getElem_of_mem hb
   refine ⟨i,List.mem_range.mpr hi,?_⟩
   rw [List.getElem?_eq_getElem hi,e]
   exact h
theorem nF {X:Cx}(hc:X.calm=true):fX X (.builtin "any") (λxs H Q=>∃(p:Addr) (bs:List Bool),xs=[.ref p]/\ak X.K H p (bs.map V.bl)/\Q (.bl (bs.any _root_.id)) H):=by
 intro pins s σ H xs us Q I r h
 obtain ⟨p,bs,rfl,hp,q⟩:=h
 obtain ⟨u,rfl,rx⟩:=vals1 r
 cases (show u=Value.ref p from rx)
 obtain ⟨its,rv,pl,hz⟩:=I.list hp
 have hl:=pl.isList
 have hlen:bs.length=its.length:=by
  have:=rv.length
  rw [List.length_map] at this
  exact this
 have cq:p<s.heap.objs.size:=by obtain ⟨_,e,_⟩:=hl; exact Heap.lt_size e
 refine call_any_walk (wpAny_pyIter_list hl ?_)
 refine ⟨s.heap.objs.size,[s.heap.objs.size,p],[s.heap.objs.size],its.toArray.size,_,_,λi=>(bs[i]?).getD false,rfl,Walks.list (A:=X.A.in1) (by show X.A.in1.handled=none; exact I.ok.hd hc) _ p (Nat.ne_of_lt cq) its.toArray,
  ⟨⟨_,Heap.get?_push_size _ rfl,rfl,rfl⟩,hl.push _⟩,λi v s' Q' E' hP hQ=>?_,λh' tk hk=>?_⟩
 . have hi:its[i]?=some v:=by simpa using hP
   have qa:i<bs.length:=by
    have:=(List.getElem?_eq_some_iff.mp hi).1
    omega
   obtain ⟨w',e1,e2⟩:=rv.get (x:=.bl bs[i]) (by rw [List.getElem?_map,List.getElem?_eq_getElem qa]; rfl)
   rw [hi] at e1
   cases e1
   cases (show v=Value.bool bs[i] from e2)
   simp only [List.getElem?_eq_getElem qa,Option.getD_some] at hQ
   exact wpAny_truthy_bool hQ
 . have e:((List.range its.toArray.size).any λi=>(bs[i]?).getD false)=bs.any _root_.id:=by
    rw [List.size_toArray,← hlen]
    exact MG bs
   rw [e]
   exact ⟨.bl _,H,I.kept (t':=tk) (λb o eb=>hk b o (λhm=>by rw [List.mem_singleton.mp hm] at eb; exact Nat.lt_irrefl _ (Heap.lt_size eb)) (Heap.get?_push_of_some _ eb)),rfl,q⟩
end L2
namespace PySem
open PySem PySem.Spec PyProof.Rows
section
variable {prog:Program}{w:World}{A:Around}{E:Value->Shared->Prop}{s:Shared}{tp tq:Bool}
theorem KG {z TI TO i1 i2 l1 l2:Addr}{k:Nat}{xs ys:Array Value}{x y a b:Value}{Q:Option Value->Shared->Prop}(nd:[z,TI,TO,i1,i2].Nodup) (n1:l1∉[z,TI,TO,i1,i2]) (n2:l2∉[z,TI,TO,i1,i2])
 (hz:IsZip s.heap z TI TO .none) (fj:IsPair s.heap TI (.ref i1) (.ref i2)) (gz:IsPair s.heap TO a b) (h1:eI tp s.heap i1 l1 k) (h2:eI tq s.heap i2 l2 k) (cC:jv tp s.heap l1 xs) (cj:jv tq s.heap l2 ys) (hx:xs[k]?=some x) (hy:ys[k]?=some y)
 (hQ:∀h',IsZip h' z TI TO (rawInt s.heap.objs.size)->IsPair h' TO x y->eI tp h' i1 l1 (k+1)->eI tq h' i2 l2 (k+1)->IsPair h' s.heap.objs.size x y->
  (∀c o,c≠z->c≠TO->c≠i1->c≠i2->s.heap.get? c=some o->h'.get? c=some o)->Q (some (.ref s.heap.objs.size)) { s with heap:=h' }):wpAny (model prog w) A (pyNext (.ref z)) Q E s:=by
 simp only [List.nodup_cons,List.mem_cons,List.not_mem_nil,or_false,not_or] at nd n1 n2
 obtain ⟨⟨rV,jh,iF,j1⟩,⟨TITO,TIi1,TIi2⟩,⟨TOi1,TOi2⟩,i12,_⟩:=nd
 obtain ⟨l1z,My,l1TO,l1i1,l1i2⟩:=n1
 obtain ⟨l2z,UY,l2TO,l2i1,l2i2⟩:=n2
 have hT:s.TypeIs (.ref z) "zip":=⟨_,hz,rfl⟩
 unfold pyNext
 refine wpAny_bind (wpAny_attempt (wpAny_callSpecial?_slot (name:=Str.ofString "__next__") hT F.slot_zip_next (wpAny_call_entry F.slot_zip_next hT F.entry_zip_next ?_ (F.args_zip_next_1 _))))
 show wpAny _ _ (field (.ref z) 2 >>= _) _ _ _
 refine wpAny_bind (wpAny_field hz rfl (x:=.bool false) rfl ?_)
 show wpAny _ _ (field (.ref z) 3 >>= _) _ _ _
 refine wpAny_bind (wpAny_field hz rfl (x:=.ref TI) rfl ?_)
 refine wpAny_bind (wpAny_seqItems fj rfl ?_)
 show wpAny _ _ (Builtin.SmallTypes.ownedTupleIsFree (.ref z) >>= _) _ _ _
 refine wpAny_bind ?_
 unfold Builtin.SmallTypes.ownedTupleIsFree
 refine wpAny_bind (wpAny_field hz rfl (x:=.none) rfl (wpAny_pure ?_))
 simp only [if_true]
 refine wpAny_bind (wpAny_rule ?_)
 refine wpAny_bind (wpAny_field hz rfl (x:=.ref TO) rfl ?_)
 refine wpAny_bind (wpAny_setField_rec hz (by simp) λgu fQ fh=>?_)
 replace fQ:IsZip gu z TI TO .ellipsis:=fQ
 refine wpAny_bind ?_
 simp only [List.zipIdx_cons,List.zipIdx_nil,List.forIn_cons,List.forIn_nil]
 have k1:∀c o,c≠z->s.heap.get? c=some o->gu.get? c=some o:=λc o n e=>fh.extBut _ _ n e
 refine wpAny_bind (wpAny_bind (wpAny_onRaise ?_))
 show wpAny _ _ (Builtin.SmallTypes.nextOf (.ref i1) >>= _) _ _ _
 refine wpAny_bind (nE (h1.at λo e=>k1 _ o (Ne.symm iF) e) (cC.at λo e=>k1 _ o l1z e) hx λjA y3 ji=>wpAny_pure ?_)
 have k2:∀c o,c≠i1->gu.get? c=some o->jA.get? c=some o:=λc o n e=>ji.extBut _ _ n e
 have qb:IsPair jA TO a b:=k2 _ _ TOi1 (k1 _ _ (Ne.symm jh) gz)
 refine wpAny_bind (wpAny_seqItems qb rfl ?_)
 refine wpAny_bind (wpAny_updateSeq_pair qb λjB lT j2=>?_)
 replace lT:IsPair jB TO x b:=lT
 have k3:∀c o,c≠TO->jA.get? c=some o->jB.get? c=some o:=λc o n e=>j2.extBut _ _ n e
 refine wpAny_bind (wpAny_letGo (wpAny_pure ?_))
 refine wpAny_bind (wpAny_bind (wpAny_onRaise ?_))
 show wpAny _ _ (Builtin.SmallTypes.nextOf (.ref i2) >>= _) _ _ _
 refine wpAny_bind (nE (h2.at λo e=>k3 _ o (Ne.symm TOi2) (k2 _ o (Ne.symm i12) (k1 _ o (Ne.symm j1) e))) (cj.at λo e=>k3 _ o l2TO (k2 _ o l2i1 (k1 _ o l2z e))) hy λvG EL wY=>wpAny_pure ?_)
 have k4:∀c o,c≠i2->jB.get? c=some o->vG.get? c=some o:=λc o n e=>wY.extBut _ _ n e
 have qc:IsPair vG TO x b:=k4 _ _ TOi2 lT
 refine wpAny_bind (wpAny_seqItems qc rfl ?_)
 refine wpAny_bind (wpAny_updateSeq_pair qc λeG jj wZ=>?_)
 replace jj:IsPair eG TO x y:=jj
 have k5:∀c o,c≠TO->vG.get? c=some o->eG.get? c=some o:=λc o n e=>wZ.extBut _ _ n e
 refine wpAny_bind (wpAny_letGo (wpAny_pure (wpAny_pure ?_)))
 refine wpAny_bind (wpAny_seqItems jj rfl ?_)
 refine wpAny_bind (wpAny_newTuple ?_)
 have hsz:eG.objs.size=s.heap.objs.size:=by rw [wZ.1,wY.1,j2.1,ji.1,fh.1]
 have w4:IsZip eG z TI TO .ellipsis:=k5 _ _ jh (k4 _ _ j1 (k3 _ _ jh (k2 _ _ iF fQ)))
 have Mz:∀c o,c≠z->c≠TO->c≠i1->c≠i2->s.heap.get? c=some o->eG.get? c=some o:=λc o c1 c2 c3 c4 e=>k5 _ _ c2 (k4 _ _ c4 (k3 _ _ c2 (k2 _ _ c3 (k1 _ _ c1 e))))
 have MA:eI tp eG i1 l1 (k+1):=y3.at λo e=>k5 _ _ (Ne.symm TOi1) (k4 _ _ i12 (k3 _ _ (Ne.symm TOi1) e))
 have MB:eI tq eG i2 l2 (k+1):=EL.at λo e=>k5 _ _ (Ne.symm TOi2) e
 have qd:z<eG.objs.size:=Heap.lt_size w4
 show wpAny _ _ (Builtin.SmallTypes.ownedTupleHandOut (.ref z) (.ref eG.objs.size) >>= _) _ _ _
 refine wpAny_bind ?_
 unfold Builtin.SmallTypes.ownedTupleHandOut
 have EM:IsZip (eG.push { cls:=.type "tuple",data:=.seq #[x,y] }) z TI TO .ellipsis:=Heap.get?_push_of_some _ w4
 refine wpAny_bind (wpAny_setField_rec EM (by simp) λMC qe xf=>?_)
 replace qe:IsZip MC z TI TO (rawInt eG.objs.size):=qe
 refine wpAny_setField_rec qe (by simp) λsU mq xg=>?_
 replace mq:IsZip sU z TI TO (rawInt eG.objs.size):=mq
 have up:∀c o,c≠z->eG.get? c=some o->sU.get? c=some o:=λc o c1 e=>xg.extBut _ _ c1 (xf.extBut _ _ c1 (Heap.get?_push_of_some _ e))
 have uG:IsPair sU eG.objs.size x y:=xg.extBut _ _ (Nat.ne_of_gt qd) (xf.extBut _ _ (Nat.ne_of_gt qd) (Heap.get?_push_size _ rfl))
 rw [hsz] at mq uG
 refine wpAny_pure ⟨.ref eG.objs.size,rfl,wpAny_pure ?_⟩
 rw [hsz]
 exact hQ sU mq (up _ _ (Ne.symm jh) jj) (MA.at λo e=>up _ o (Ne.symm iF) e) (MB.at λo e=>up _ o (Ne.symm j1) e) uG λc o c1 c2 c3 c4 e=>up c o c1 (Mz c o c1 c2 c3 c4 e)
abbrev C2 (h:Heap) (l1:Addr):Heap:=h.push { cls:=.type "tuple_iterator",data:=.fields #[.ref l1,.int 0 0] }
abbrev C3 (h:Heap) (l1 l2:Addr):Heap:=(C2 h l1).push { cls:=.type "list_iterator",data:=.fields #[.ref l2,.int 0 0] }
abbrev C4 (h:Heap) (l1 l2:Addr):Heap:=(C3 h l1 l2).push { cls:=.type "tuple",data:=.seq #[.ref h.objs.size,.ref (C2 h l1).objs.size] }
abbrev C5 (h:Heap) (l1 l2:Addr):Heap:=(C4 h l1 l2).push { cls:=.type "tuple",data:=.seq #[.none,.none] }
abbrev vM (h:Heap) (l1 l2:Addr):Heap:=(C5 h l1 l2).push { cls:=.type "zip",data:=.fields #[.none,.bool false,.bool false,.ref (C3 h l1 l2).objs.size,.ref (C4 h l1 l2).objs.size] }
theorem y8 (l1 l2:Addr) (xs ys:Array Value) :
 Meets (Builtin.«zip.__new__» ⟨[.type "zip",.ref l1,.ref l2],[]⟩) (λ_ R s=>s.heap.IsTuple l1 xs/\s.heap.IsList l2 ys/\R (.ok (.ret (.ref (C5 s.heap l1 l2).objs.size))) { s with heap:=vM s.heap l1 l2 }):=
 .of_wp λprog w A R s h=>by
  obtain ⟨hp,g,d,tk,os⟩:=s; obtain ⟨cC,cj,h⟩:=h
  have He:=sub_zip
  have EO:Heap.IsTuple (Shared.heap ⟨hp,g,d,tk,os⟩) l1 xs:=cC
  have y6:Heap.IsList (Shared.heap ⟨hp.push { cls:=.type "tuple_iterator",data:=.fields #[.ref l1,.int 0 0] },g,d,tk,os⟩) l2 ys:=Heap.IsList.push cj _
  wp_walk using wpAny_pyIter_tuple EO,wpAny_pyIter_list y6
  exact ⟨_,rfl,h⟩
theorem KH {l1 l2:Addr}{xs ys:Array Value}{Q:Value->Shared->Prop}(cC:jv true s.heap l1 xs) (cj:jv false s.heap l2 ys)
 (h:∀h',IsZip h' (s.heap.objs.size+4) (s.heap.objs.size+2) (s.heap.objs.size+3) .none->IsPair h' (s.heap.objs.size+2) (.ref s.heap.objs.size) (.ref (s.heap.objs.size+1))->
  IsPair h' (s.heap.objs.size+3) .none .none->eI true h' s.heap.objs.size l1 0->eI false h' (s.heap.objs.size+1) l2 0->(∀c o,s.heap.get? c=some o->h'.get? c=some o)->Q (.ref (s.heap.objs.size+4)) { s with heap:=h' }) :
 wpAny (model prog w) A (call (.type "zip") [.ref l1,.ref l2]) Q E s:=by
 refine callType_new F.called_zip (by decide) (F.typeCall_zip_2 _ _) (F.newCall_zip_2 _ _) (λobj=>F.args_object_init_3 obj _ _) F.entry_zip_new (y8 l1 l2 xs ys) ⟨cC,cj,?_⟩
 have z1:(C2 s.heap l1).objs.size=s.heap.objs.size+1:=Heap.size_push ..
 have z2:(C3 s.heap l1 l2).objs.size=s.heap.objs.size+2:=by rw [Heap.size_push,z1]
 have z3:(C4 s.heap l1 l2).objs.size=s.heap.objs.size+3:=by rw [Heap.size_push,z2]
 have z4:(C5 s.heap l1 l2).objs.size=s.heap.objs.size+4:=by rw [Heap.size_push,z3]
 have g5:(vM s.heap l1 l2).get? (C5 s.heap l1 l2).objs.size=some _:=Heap.get?_push_size _ rfl
 have g4:(vM s.heap l1 l2).get? (C4 s.heap l1 l2).objs.size=some _:=Heap.get?_push_of_some _ (Heap.get?_push_size _ rfl)
 have g3:(vM s.heap l1 l2).get? (C3 s.heap l1 l2).objs.size=some _:=Heap.get?_push_of_some _ (Heap.get?_push_of_some _ (Heap.get?_push_size _ rfl))
 have g2:(vM s.heap l1 l2).get? (C2 s.heap l1).objs.size=some _:=Heap.get?_push_of_some _ (Heap.get?_push_of_some _ (Heap.get?_push_of_some _ (Heap.get?_push_size _ rfl)))
 have g1:(vM s.heap l1 l2).get? s.heap.objs.size=some _:=Heap.get?_push_of_some _ (Heap.get?_push_of_some _ (Heap.get?_push_of_some _ (Heap.get?_push_of_some _ (Heap.get?_push_size _ rfl))))
 show _/\_
 rw [z2,z3,z4] at g5
 rw [z1,z2] at g3
 rw [z3] at g4
 rw [z1] at g2
 rw [z4]
 exact ⟨⟨_,g5,rfl⟩,h _ g5 g3 g4 ⟨_,g1,rfl,rfl⟩ ⟨_,g2,rfl,rfl⟩ λc o x=>
  Heap.get?_push_of_some _ (Heap.get?_push_of_some _ (Heap.get?_push_of_some _ (Heap.get?_push_of_some _ (Heap.get?_push_of_some _ x))))⟩
end
end PySem
namespace L2
open PySem PySem.Spec PyProof.Rows
def ZK (K:W.Frag) (tp:Bool) (H:Hp) (a:Addr) (xs:List V):Prop:=match tp with | true=>aV K H a xs | false=>ak K H a xs
section
variable {X:Cx}{pins:List (Addr×Obj)}{σ:St}{H:Hp}{s:Shared}{tp:Bool}{a:Addr}{xs ys:List V}
theorem Inv.zk (I:Inv X pins σ H s) (h:ZK X.K tp H a xs):∃its:List Value,Vals xs its/\jv tp s.heap a its.toArray/\xs.length<=sizeLine:=by
 cases tp
 . obtain ⟨its,r,pl,z⟩:=I.list h
   exact ⟨its,r,pl.isList,z⟩
 . obtain ⟨its,r,⟨o,e,c,n,d⟩,z⟩:=I.tuple h
   exact ⟨its,r,⟨o,e,c,n,d⟩,z⟩
theorem Inv.ET (I:Inv X pins σ H s) (h:ZK X.K tp H a xs) (h':ZK X.K tp H a ys):xs=ys:=by
 cases tp
 . exact I.sD h h'
 . exact I.pM h h'
theorem Inv.y9 {fp:List Addr}(I:Inv X pins σ H s) (h:ZK X.K tp H a xs) (hf:∀b∈fp,iP X pins H b):a∉fp:=λm=>by
 have own:∀o,X.K.lookup a=some o->False:=λo e=>by
  have eb:=I.ok.mod.kin a o e
  obtain ⟨_,_,_,h4,_⟩:=hf a m
  rcases h4 with h4 | h4
  . exact I.ok.noex a o eb h4
  . exact absurd (Nat.lt_of_lt_of_le (Heap.lt_size eb) (Nat.le_trans I.ok.bsz h4)) (Nat.lt_irrefl _)
 have aZ:=(hf a m).1
 cases tp
 . rcases h with (h | ⟨o,h⟩) | ⟨o,_,_,e,_⟩
   . rw [aZ] at h; cases h
   . rw [aZ] at h; cases h
   . exact own o e
 . rcases h with (h | ⟨o,h⟩) | ⟨o,_,_,e,_⟩
   . rw [aZ] at h; cases h
   . rw [aZ] at h; cases h
   . exact own o e
end
def Itm (K:W.Frag) (tp tq:Bool) (a b:Addr):It:=
 ⟨λi H=>∃xs ys x y,ZK K tp H a xs/\ZK K tq H b ys/\xs[i]?=some x/\ys[i]?=some y,λi H v H'=>∃T x y,v=.ref T/\H T=none/\H'=upd H T (.tup [x,y])/\(∀xs,ZK K tp H a xs->xs[i]?=some x)/\∀ys,ZK K tq H b ys->ys[i]?=some y,
  λi H=>∃xs,ZK K tp H a xs/\xs.length<=i⟩
theorem vN {P:Program}{w:World}{K:W.Frag}{es:List Expr}{kk:Nat}{pp:Pos}{tp tq:Bool}{a b z TI TO i1 i2:Addr}(nd:[z,TI,TO,i1,i2].Nodup) :
 Turn P w K (.Tuple es kk pp) (Itm K tp tq a b) [z,TI,TO,i1,i2] z (λi h=>IsZip h z TI TO .none/\IsPair h TI (.ref i1) (.ref i2)/\(∃a b,IsPair h TO a b)/\eI tp h i1 a i/\eI tq h i2 b i) where
 mem:=by simp
 obj:=λi h st c hc=>by
  obtain ⟨hz,fj,⟨u,v,gz⟩,h1,h2⟩:=st
  simp only [List.mem_cons,List.not_mem_nil,or_false] at hc
  rcases hc with rfl | rfl | rfl | rfl | rfl
  . exact ⟨_,hz,λv z=>by cases (show Data.fields _=Data.cell v from z)⟩
  . exact ⟨_,fj,λv z=>by cases (show Data.seq _=Data.cell v from z)⟩
  . exact ⟨_,gz,λv z=>by cases (show Data.seq _=Data.cell v from z)⟩
  . obtain ⟨o,e,vs,d⟩:=h1.there
    exact ⟨o,e,λv z=>by rw [d] at z; cases z⟩
  . obtain ⟨o,e,vs,d⟩:=h2.there
    exact ⟨o,e,λv z=>by rw [d] at z; cases z⟩
 keep:=λi h h' st k=>by
  obtain ⟨hz,fj,⟨u,v,gz⟩,h1,h2⟩:=st
  exact ⟨k z (by simp) _ hz,k TI (by simp) _ fj,⟨u,v,k TO (by simp) _ gz⟩,h1.at λo e=>k i1 (by simp) o e,h2.at λo e=>k i2 (by simp) o e⟩
 item:=by
  intro X hP hw hK hc i pins s σ H E I hf st hg
  subst hP hw hK
  obtain ⟨xs,ys,x,y,rW,MH,hx,hy⟩:=hg
  obtain ⟨its,rv,p,EU⟩:=I.zk rW
  obtain ⟨its',qf,p',agr⟩:=I.zk MH
  obtain ⟨u,hu,ru⟩:=rv.get hx
  obtain ⟨v,hv,rv2⟩:=qf.get hy
  obtain ⟨hz,fj,⟨c,d,gz⟩,h1,h2⟩:=st
  have na:a∉[z,TI,TO,i1,i2]:=I.y9 rW hf
  have nb:b∉[z,TI,TO,i1,i2]:=I.y9 MH hf
  refine KG nd na nb hz fj gz h1 h2 p p' (x:=u) (y:=v) (by simpa using hu) (by simpa using hv) λh' a1 a2 a3 a4 a5 kk=>?_
  refine ⟨.ref s.heap.objs.size,rfl,?_⟩
  refine wpAny_letOwnedTupleGo_zip a1 λh3 MI By=>?_
  have xh:=nd
  simp only [List.nodup_cons,List.mem_cons,List.not_mem_nil,or_false,not_or] at xh
  obtain ⟨⟨rV,jh,iF,j1⟩,⟨TITO,TIi1,TIi2⟩,⟨TOi1,TOi2⟩,i12,_⟩:=xh
  have lt:∀c∈[z,TI,TO,i1,i2],c≠s.heap.objs.size:=λc hc=>by
   simp only [List.mem_cons,List.not_mem_nil,or_false] at hc
   rcases hc with rfl | rfl | rfl | rfl | rfl
   . exact Nat.ne_of_lt (Heap.lt_size hz)
   . exact Nat.ne_of_lt (Heap.lt_size fj)
   . exact Nat.ne_of_lt (Heap.lt_size gz)
   . obtain ⟨o,e,_⟩:=h1.there
     exact Nat.ne_of_lt (Heap.lt_size e)
   . obtain ⟨o,e,_⟩:=h2.there
     exact Nat.ne_of_lt (Heap.lt_size e)
  have k3:∀c o,c≠z->h'.get? c=some o->h3.get? c=some o:=λc o n e=>By.extBut _ _ n e
  have I1:Inv X pins σ (upd H s.heap.objs.size (.tup [x,y])) { s with heap:=h3,toks:=s.toks }:=I.BA (its:=[u,v]) hf (λb o hb e1=>by
   simp only [List.mem_cons,List.not_mem_nil,or_false,not_or] at hb
   exact k3 b o hb.1 (kk b o hb.1 hb.2.2.1 hb.2.2.2.1 hb.2.2.2.2 e1)) (Nat.le_refl _) ⟨_,k3 _ _ (Ne.symm (lt z (by simp))) a5,rfl,_,rfl⟩ (.cons ru (.cons rv2 .nil)) (by show 2<=sizeLine; decide)
  have fr:H s.heap.objs.size=none:=I.hok.fresh (Nat.le_refl _)
  refine ⟨.ref s.heap.objs.size,_,I1,rfl,⟨s.heap.objs.size,x,y,rfl,fr,rfl,λuI h=>by rw [I.ET h rW]; exact hx,λzd h=>by rw [I.ET h MH]; exact hy⟩,⟨MI,k3 _ _ (Ne.symm rV) (kk _ _ (Ne.symm rV) TITO TIi1 TIi2 fj),⟨_,_,k3 _ _ (Ne.symm jh) a2⟩,a3.at λo e=>k3 _ o (Ne.symm iF) e,a4.at λo e=>k3 _ o (Ne.symm j1) e⟩,λb hb=>?_⟩
  rw [ag (lt b hb)]
  exact (hf b hb).1
 done:=by
  intro X hP hw hK hc i pins s σ H E I hf st hg
  subst hP hw hK
  obtain ⟨xs,rW,hx⟩:=hg
  obtain ⟨its,rv,p,EU⟩:=I.zk rW
  obtain ⟨hz,fj,⟨c,d,gz⟩,h1,h2⟩:=st
  have hl:=rv.length
  have na:a∉[z,TI,TO,i1,i2]:=I.y9 rW hf
  exact KA (I.ok.hd hc) nd na hz fj h1 p (a:=.none) (b:=.none) (by simp; omega) λh' kk=>⟨rfl,I.Bz (t':=s.toks) hf λb o hb e1=>by
   simp only [List.mem_cons,List.not_mem_nil,or_false,not_or] at hb
   exact kk b o hb.1 hb.2.2.1 hb.2.2.2.1 hb.2.2.2.2 e1⟩
 self:=λ_ _ _ _ _ st h=>wpAny_pyIter_zip st.1 h
section
variable {X:Cx}
def QG (K:W.Frag) (ta:TA):TI:=λσ H R=>ta σ H λvs H1=>∃a b,vs=[.ref a,.ref b]/\(∃xs,aV K H1 a xs)/\(∃ys,ak K H1 b ys)/\R (Itm K true false a b) H1
theorem BD {es:List Expr}{kk:Nat}{pp:Pos}{a b:Expr}{ta:TA}{p pos:Pos}(hg:Gl X "zip") (hm:X.mg "zip" = none) (ha:PA X [a,b] ta) (hs:starEach [a,b] X.env=(false,eval a X.env)::starEach [b] X.env:=by rfl) (hp:(backTo pos (starEach [b] X.env)).any (·.1)=false:=by rfl) :
 PI X (.Tuple es kk pp) (.Call (.Name "zip" p) [a,b] [] pos) (QG X.K ta):=by
 intro pins s σ H R I h
 refine Call_ (iC I hg hm boot_zip (PyProof.Rows.callWith_type1 (aP (ha pos pins s σ H _ I h) λus s1 ⟨vs,H1,I1,r1,q1⟩=>?_) hs hp))
 obtain ⟨l,m,e,⟨xs,hx⟩,⟨ys,hy⟩,q⟩:=q1
 subst e
 obtain ⟨u,v,rfl,ru,rv⟩:=vals2 r1
 cases (show u=Value.ref l from ru)
 cases (show v=Value.ref m from rv)
 obtain ⟨its,_,p1,_⟩:=I1.zk (tp:=true) hx
 obtain ⟨its',_,p2,_⟩:=I1.zk (tp:=false) hy
 refine KH p1 p2 λh' a1 a2 a3 a4 a5 kk=>?_
 refine wpAny_pyIter_zip a1 ?_
 have I2:Inv X pins σ H1 { s1 with heap:=h' }:=I1.kept (t':=s1.toks) kk
 refine ⟨_,_,_,_,H1,rfl,I2,vN (tp:=true) (tq:=false) (a:=l) (b:=m) (z:=s1.heap.objs.size+4) (TI:=s1.heap.objs.size+2) (TO:=s1.heap.objs.size+3) (i1:=s1.heap.objs.size) (i2:=s1.heap.objs.size+1) ?_,⟨a1,a2,⟨_,_,a3⟩,a4,a5⟩,λb hb=>?_,q⟩
 . simp
 . have ee:s1.heap.objs.size<=b:=by
    simp only [List.mem_cons,List.not_mem_nil,or_false] at hb
    rcases hb with rfl | rfl | rfl | rfl | rfl
    . exact Nat.le_add_right _ _
    . exact Nat.le_add_right _ _
    . exact Nat.le_add_right _ _
    . exact Nat.le_refl _
    . exact Nat.le_add_right _ _
   exact I1.om ee (I1.hok.fresh ee)
end
end L2
namespace L2
open PySem PySem.Spec PyProof.Rows
def C6:Value->Bool
 | .none=>true
 | _=>false
theorem eZ {v:Value}(h:C6 v=true):v=.none:=by cases v <;> first | rfl | cases h
theorem C7 {prog:Program}{w:World}{A:Around}{E:Value->Shared->Prop}{s:Shared}{Q:Int->Shared->Prop}(h:Q 4238894112 { s with toks:=s.toks+1 }):wpAny (model prog w) A (pyHash .none) Q E s:=by
 unfold pyHash
 have hv:[Value.none].any Value.onHeap=false:=rfl
 have hT:s.TypeIs .none "NoneType":=rfl
 refine wpAny_bind ?_
 rw [cRoomFor,if_neg (by rw [hv]; exact Bool.false_ne_true)]; refine wpAny_pure ?_
 refine wpAny_bind (wpAny_specialOf hT F.slot_NoneType_hash.lookup ?_)
 show wpAny _ _ (if (some (Value.builtin "NoneType.__hash__") == some Value.none)=true then _ else _) Q E s
 rw [if_neg (by rw [PySem.beq_builtin_none]; exact Bool.false_ne_true)]
 refine wpAny_bind (wpAny_specialOf hT F.slot_NoneType_hash.lookup ?_)
 show wpAny _ _ (callSpecialIfBoundUnlessNone? .none "__hash__" _ >>= _) Q E s
 refine wpAny_bind (wpAny_callSpecialIfBoundUnlessNone?_slot hT F.slot_NoneType_hash
  (wpAny_call_entry F.slot_NoneType_hash hT F.entry_NoneType_hash
   (show wpAny _ _ (do ret (← mkInt 4238894112)) _ _ s from wpAny_ret_mkInt ?_) (F.args_NoneType_hash_1 _)))
 show wpAny _ _ (if (decide (-(2:Int) ^ 63<=4238894112) && decide ((4238894112:Int)<2 ^ 63))=true then _ else _) Q E _
 rw [if_pos (by decide)]
 exact wpAny_pure h
def C8:Option Key->Value->Bool
 | some k,v=>ib k v
 | none,v=>C6 v
theorem xi {k:Key} : ib k .none=false:=by cases k <;> rfl
def vO (prog:Program) (w:World):PySem.KeyKind prog w (Option Key) where
 is:=C8
 hash:=λk=>match k with | some k=>LA w k | none=>4238894112
 inj:=λv a b ha hb=>by
  cases a with
  | none=>
   have e:=eZ ha
   subst e
   cases b with
   | none=>rfl
   | some k=>rw [show C8 (some k) .none=false from xi] at hb; cases hb
  | some k=>
   cases b with
   | none=>
    have e:=eZ hb
    subst e
    rw [show C8 (some k) .none=false from xi] at ha
    cases ha
   | some k'=>exact congrArg some ((aR prog w).inj v k k' ha hb)
 byValue:=λk v h=>by
  cases k with
  | none=>rw [eZ h]; rfl
  | some k=>exact (aR prog w).byValue k v h
 pyHash:=λ{A E s k v Q} hv h=>by
  cases k with
  | none=>rw [eZ hv]; exact C7 h
  | some k=>exact (aR prog w).pyHash hv h
 eqBool:=λ{A E s a b u v Q} hu hv h=>by
  cases a with
  | none=>
   have e:=eZ hu
   subst e
   cases b with
   | none=>
    have e:=eZ hv
    subst e
    rw [decide_eq_true rfl] at h
    unfold eqBool
    refine wpAny_holding ?_
    refine wpAny_ite_split (λ_=>?_) (λMJ=>absurd (by rfl) MJ)
    exact wpAny_bind (wpAny_rule (wpAny_pure h))
   | some k=>
    rw [decide_eq_false (λz=>nomatch z)] at h
    rcases cP hv with ⟨i,t,rfl,rfl⟩ | ⟨x,t,rfl,rfl⟩
    . exact SeqAt.EqAt.none_int i t _ _ _ _ h
    . exact SeqAt.EqAt.none_str x t _ _ _ _ h
  | some k=>
   cases b with
   | none=>
    have e:=eZ hv
    subst e
    rw [decide_eq_false (λz=>nomatch z)] at h
    rcases cP hu with ⟨i,t,rfl,rfl⟩ | ⟨x,t,rfl,rfl⟩
    . exact SeqAt.EqAt.int_none i t _ _ _ _ h
    . exact SeqAt.EqAt.str_none x t _ _ _ _ h
   | some k'=>
    refine (aR prog w).eqBool hu hv ?_
    have e:decide (k=k')=decide ((some k:Option Key)=some k'):=by
     by_cases z:k=k'
     . subst z; simp
     . rw [decide_eq_false z,decide_eq_false (λq=>z (Option.some.inj q))]
    rw [e]
    exact h
 «strs»:=λk x t v h=>by
  cases k with
  | none=>exact absurd (show C6 (Value.str x t)=true from h) Bool.false_ne_true
  | some k=>exact (aR prog w).strs k x t v h
theorem xj {P:Program}{w:World} : ∀{es:List DictEntry}{vs:List (Key×Value)},Pairs (aR P w) es vs->Pairs (vO P w) es (vs.map λkv=>(some kv.1,kv.2))
 | _,_,.nil=>.nil
 | _,_,.cons h1 h2 t=>.cons h1 h2 (xj t)
theorem Hf {P:Program}{w:World}{h:Heap}{a:Addr}{vs:List (Key×Value)}(d:h.DictOf (aR P w) a vs):h.DictOf (vO P w) a (vs.map λkv=>(some kv.1,kv.2)):=by
 obtain ⟨o,es,ep,ho,hc,hd,hk,hp,hn⟩:=d
 refine ⟨o,es,ep,ho,hc,hd,λe he=>?_,xj hp,?_⟩
 . obtain ⟨k,h1,h2⟩:=hk e he
   exact ⟨some k,h1,h2⟩
 . rw [List.map_map]
   have:((λx:Option Key×Value=>x.1)∘λkv:Key×Value=>(some kv.1,kv.2))=some∘(λkv:Key×Value=>kv.1):=rfl
   rw [this,← List.map_map]
   exact uJ hn
where uJ:∀{l:List Key},l.Nodup->(l.map some).Nodup
 | [],_=>List.nodup_nil
 | x::r,h=>by
  rw [List.nodup_cons] at h
  rw [List.map_cons,List.nodup_cons]
  exact ⟨λm=>by simp at m; exact h.1 m,uJ h.2⟩
theorem MK (vs:List (Key×Value)):valueAt (vs.map λkv=>((some kv.1:Option Key),kv.2)) none=none:=by
 unfold valueAt
 rw [List.find?_eq_none.mpr]
 . rfl
 . intro x hx
   obtain ⟨kv,_,rfl⟩:=List.mem_map.mp hx
   simp
section
variable {X:Cx}{pins:List (Addr×Obj)}{σ:St}{H:Hp}{s:Shared}{a:Addr}{r:Value}{d:V}{A:Around}{E:Value->Shared->Prop}
theorem ML {Q:Value->Shared->Prop}{kvs:List (Key×V)}(I:Inv X pins σ H s) (g:Rd H a (.dK kvs)) (rd:RelV d r) (h:∀w' s',Inv X pins σ H s'->RelV d w'->Q w' s') :
 wpAny (model X.prog X.w) A (call (.builtin "dict.get") [.ref a,.none,r]) Q E s:=by
 obtain ⟨z,hd,vs,rel,dd⟩:=gy I.hok g
 refine call_meetsIn PySem.F.slot_dict_get dd.typeIs PySem.F.entry_dict_get (PySem.F.args_dict_get_3 _ _ _) (meets_dict_get_default (vO X.prog X.w) a (k:=none) (by rfl) hd r) ⟨_,(Hf dd).mapOf,h _ _ (I.tok _) ?_⟩
 rw [MK]
 exact rd
end
def MM (td ty tx:TE):TE:=λσ H Q=>td σ H λx H1=>∃a,x=.ref a/\L4 H1 a/\ty σ H1 λy H2=>tx σ H2 λz H3=>(∃o,bH H3 a y o/\Q (o.getD z) H3)\/(y=.aZ/\(∃kvs,Rd H3 a (.dK kvs))/\Q z H3)
section
variable {X:Cx}{o e f:Expr}{apos dg:Pos}{td ty tx:TE}
theorem Hg (hu:X.A.units+1<cLine) (ho:PE X o td) (he:PE X e ty) (hf:PE X f tx) (m:M2 X o "get" apos e f dg):PE X (.Call (.Attribute o "get" apos) [e,f] [] dg) (MM td ty tx):=by
 intro pins s σ H Q I h
 refine wpAny_Call_method m.base m.ur m.line PySem.F.plainAttrs_dict PySem.F.slot_dict_get PySem.F.type_dict_get (aP (ho pins s σ H _ I h) λu s1 ⟨x,H1,I1,rx,a,ex,d,q1⟩=>?_)
 subst ex
 obtain rfl:u=Value.ref a:=rx
 obtain ⟨t1,t2,_⟩:=Eh I1 d
 refine ⟨t1,t2,?_⟩
 rw [m.trees]
 refine Calls.callWith_builtin rfl (Calls.evalArgs_plain (Calls.spliced_cons (aP (he pins s1 σ H1 _ I1 q1) λiv s2 ⟨y,H2,I2,ry,q2⟩=>
  Calls.spliced_cons (aP (hf pins s2 σ H2 _ I2 q2) λfv s3 ⟨z,H3,I3,rz,q3⟩=>Calls.spliced_nil ?_))))
 rcases q3 with ⟨ov,g,q3⟩ | ⟨rfl,⟨kvs,g⟩,q3⟩
 . exact Ei hu I3 g ry rz λw' s4 I4 eR=>⟨_,H3,I4,eR,q3⟩
 . cases (show iv=Value.none from ry)
   exact ML I3 g rz λw' s4 I4 eR=>⟨_,H3,I4,eR,q3⟩
end
end L2
namespace PySem
open PySem.Spec PyProof.Rows
theorem kY {M:Model}{A:Around}{E:Value->Shared->Prop}{s:Shared}{a:Addr}{Q:Option Obj->Shared->Prop}(h:Q (s.heap.get? a) s):wpAny M A (loadIfAlive a) Q E s:=λΓ p hp=>by
 unfold loadIfAlive
 simp only [Sem.wp_loadIfAlive]
 exact wpAny_pure (M:=M) (A:=A) (E:=E) (s:=s) h Γ p hp
structure gE (prog:Program) (w:World) (it:Addr) (more:List Addr) (n:Nat) (P:Nat->Value->Prop) (st:Nat->Heap->Prop):Prop where
 «at» : ∀{i:Nat}{h h':Heap},st i h->(∀b∈it::more,∀o,h.get? b=some o->h'.get? b=some o)->st i h'
 there:∀{i:Nat}{h:Heap},st i h->∃o,h.get? it=some o
 item:∀{A:Around}{E:Value->Shared->Prop}{s:Shared}{i:Nat}{Q:Value->Shared->Prop},i<n->st i s.heap->(∀x h',P i x->st (i+1) h'->Heap.SameBut it s.heap h'->Q x { s with heap:=h' })->wpAny (model prog w) A (Builtin.SmallTypes.nextOf (.ref it)) Q E s
 fin:∀{A:Around}{E:Value->Shared->Prop}{s:Shared}{Q:Value->Shared->Prop},A.handled=none->st n s.heap->(∀h' e,Heap.ExtBut it s.heap h'->(∃o,h'.get? e=some o/\o.cls=.type "StopIteration")->E (.ref e) { s with heap:=h' })->wpAny (model prog w) A (Builtin.SmallTypes.nextOf (.ref it)) Q E s
theorem xk {prog:Program}{w:World}{tp:Bool}{it l:Addr}{items:Array Value}(dh:l≠it):gE prog w it [l] items.size (λi x=>items[i]?=some x) (λi h=>eI tp h it l i/\jv tp h l items) where
 «at»:=λst k=>⟨st.1.at λo e=>k it (by simp) o e,st.2.at λo e=>k l (by simp) o e⟩
 there:=λst=>let ⟨o,e,_⟩:=st.1.there; ⟨o,e⟩
 item:=λ{A E s i Q} hi st h=>nE st.1 st.2 (Array.getElem?_eq_getElem hi) λh' i' sb=>h _ h' (Array.getElem?_eq_getElem hi) ⟨i',st.2.at λo e=>(sb.2 l dh).trans e⟩ sb
 fin:=λ{A E s Q} hh st h=>EK hh st.1 st.2 (Array.getElem?_eq_none (Nat.le_refl _)) h
def ZS (h:Heap) (z TI TO i1 i2:Addr):Prop:=
 IsPair h TI (.ref i1) (.ref i2)/\(∃a b,IsPair h TO a b)/\(IsZip h z TI TO .none\/∃(a:Addr) (o:Obj) (b1:Bool),a∉[z,TI,TO,i1,i2]/\h.get? a=some o/\h.get? z=some { cls:=.type "zip",dict:=none,data:=.fields #[rawInt a,.bool b1,.bool false,.ref TI,.ref TO],slots:=#[] })
section
variable {prog:Program}{w:World}{A:Around}{E:Value->Shared->Prop}{s:Shared}{z TI TO i1 i2:Addr}{m1 m2:List Addr}{n1 n2:Nat}{P1 P2:Nat->Value->Prop}{lU jW:Nat->Heap->Prop}
theorem KI {k:Nat}{Q:Option Value->Shared->Prop}(nd:[z,TI,TO,i1,i2].Nodup) (a1:∀b∈m1,b∉[z,TI,TO,i1,i2]) (a2:∀b∈m2,b∉[z,TI,TO,i1,i2])
 (D1:gE prog w i1 m1 n1 P1 lU) (D2:gE prog w i2 m2 n2 P2 jW) (hz:ZS s.heap z TI TO i1 i2) (h1:lU k s.heap) (h2:jW k s.heap) (RN:k<n1) (wX:k<n2)
 (hQ:∀x y h' T,P1 k x->P2 k y->ZS h' z TI TO i1 i2->lU (k+1) h'->jW (k+1) h'->T∉[z,TI,TO,i1,i2]->s.heap.get? T=none->IsPair h' T x y->
  (∀c o,c∉[z,TI,TO,i1,i2]->s.heap.get? c=some o->h'.get? c=some o)->Q (some (.ref T)) { s with heap:=h' }):wpAny (model prog w) A (pyNext (.ref z)) Q E s:=by
 have xh:=nd
 simp only [List.nodup_cons,List.mem_cons,List.not_mem_nil,or_false,not_or] at xh
 obtain ⟨⟨rV,jh,iF,j1⟩,⟨TITO,TIi1,TIi2⟩,⟨TOi1,TOi2⟩,i12,_⟩:=xh
 obtain ⟨fj,⟨a,b,gz⟩,hz⟩:=hz
 have lt:∀c∈[z,TI,TO,i1,i2],∀o,s.heap.get? c=some o->c≠s.heap.objs.size:=λc _ o e=>Nat.ne_of_lt (Heap.lt_size e)
 rcases hz with hz | ⟨al,ol,b1,pA,rS,hz⟩
 . have hT:s.TypeIs (.ref z) "zip":=⟨_,hz,rfl⟩
   unfold pyNext
   refine wpAny_bind (wpAny_attempt (wpAny_callSpecial?_slot (name:=Str.ofString "__next__") hT F.slot_zip_next (wpAny_call_entry F.slot_zip_next hT F.entry_zip_next ?_ (F.args_zip_next_1 _))))
   show wpAny _ _ (field (.ref z) 2 >>= _) _ _ _
   refine wpAny_bind (wpAny_field hz rfl (x:=.bool false) rfl ?_)
   show wpAny _ _ (field (.ref z) 3 >>= _) _ _ _
   refine wpAny_bind (wpAny_field hz rfl (x:=.ref TI) rfl ?_)
   refine wpAny_bind (wpAny_seqItems fj rfl ?_)
   show wpAny _ _ (Builtin.SmallTypes.ownedTupleIsFree (.ref z) >>= _) _ _ _
   refine wpAny_bind ?_
   unfold Builtin.SmallTypes.ownedTupleIsFree
   refine wpAny_bind (wpAny_field hz rfl (x:=.none) rfl (wpAny_pure ?_))
   simp only [if_true]
   refine wpAny_bind (wpAny_rule ?_)
   refine wpAny_bind (wpAny_field hz rfl (x:=.ref TO) rfl ?_)
   refine wpAny_bind (wpAny_setField_rec hz (by simp) λgu fQ fh=>?_)
   replace fQ:IsZip gu z TI TO .ellipsis:=fQ
   refine wpAny_bind ?_
   simp only [List.zipIdx_cons,List.zipIdx_nil,List.forIn_cons,List.forIn_nil]
   have k1:∀c o,c≠z->s.heap.get? c=some o->gu.get? c=some o:=λc o n e=>fh.extBut _ _ n e
   refine wpAny_bind (wpAny_bind (wpAny_onRaise ?_))
   show wpAny _ _ (Builtin.SmallTypes.nextOf (.ref i1) >>= _) _ _ _
   refine wpAny_bind (D1.item RN (D1.at h1 λb hb o e=>k1 b o (by
    rcases List.mem_cons.mp hb with rfl | hb
    . exact Ne.symm iF
    . exact λq=>a1 b hb (by rw [q]; simp)) e) λx jA px y3 ji=>wpAny_pure ?_)
   have k2:∀c o,c≠i1->gu.get? c=some o->jA.get? c=some o:=λc o n e=>ji.extBut _ _ n e
   have qb:IsPair jA TO a b:=k2 _ _ TOi1 (k1 _ _ (Ne.symm jh) gz)
   refine wpAny_bind (wpAny_seqItems qb rfl ?_)
   refine wpAny_bind (wpAny_updateSeq_pair qb λjB lT j2=>?_)
   replace lT:IsPair jB TO x b:=lT
   have k3:∀c o,c≠TO->jA.get? c=some o->jB.get? c=some o:=λc o n e=>j2.extBut _ _ n e
   refine wpAny_bind (wpAny_letGo (wpAny_pure ?_))
   refine wpAny_bind (wpAny_bind (wpAny_onRaise ?_))
   show wpAny _ _ (Builtin.SmallTypes.nextOf (.ref i2) >>= _) _ _ _
   refine wpAny_bind (D2.item wX (D2.at h2 λc hc o e=>k3 c o (by
    rcases List.mem_cons.mp hc with rfl | hc
    . exact Ne.symm TOi2
    . exact λq=>a2 c hc (by rw [q]; simp)) (k2 c o (by
    rcases List.mem_cons.mp hc with rfl | hc
    . exact Ne.symm i12
    . exact λq=>a2 c hc (by rw [q]; simp)) (k1 c o (by
    rcases List.mem_cons.mp hc with rfl | hc
    . exact Ne.symm j1
    . exact λq=>a2 c hc (by rw [q]; simp)) e))) λy vG py EL wY=>wpAny_pure ?_)
   have k4:∀c o,c≠i2->jB.get? c=some o->vG.get? c=some o:=λc o n e=>wY.extBut _ _ n e
   have qc:IsPair vG TO x b:=k4 _ _ TOi2 lT
   refine wpAny_bind (wpAny_seqItems qc rfl ?_)
   refine wpAny_bind (wpAny_updateSeq_pair qc λeG jj wZ=>?_)
   replace jj:IsPair eG TO x y:=jj
   have k5:∀c o,c≠TO->vG.get? c=some o->eG.get? c=some o:=λc o n e=>wZ.extBut _ _ n e
   refine wpAny_bind (wpAny_letGo (wpAny_pure (wpAny_pure ?_)))
   refine wpAny_bind (wpAny_seqItems jj rfl ?_)
   refine wpAny_bind (wpAny_newTuple ?_)
   have hsz:eG.objs.size=s.heap.objs.size:=by rw [wZ.1,wY.1,j2.1,ji.1,fh.1]
   have w4:IsZip eG z TI TO .ellipsis:=k5 _ _ jh (k4 _ _ j1 (k3 _ _ jh (k2 _ _ iF fQ)))
   have qd:z<eG.objs.size:=Heap.lt_size w4
   show wpAny _ _ (Builtin.SmallTypes.ownedTupleHandOut (.ref z) (.ref eG.objs.size) >>= _) _ _ _
   refine wpAny_bind ?_
   unfold Builtin.SmallTypes.ownedTupleHandOut
   have EM:IsZip (eG.push { cls:=.type "tuple",data:=.seq #[x,y] }) z TI TO .ellipsis:=Heap.get?_push_of_some _ w4
   refine wpAny_bind (wpAny_setField_rec EM (by simp) λMC qe xf=>?_)
   replace qe:IsZip MC z TI TO (rawInt eG.objs.size):=qe
   refine wpAny_setField_rec qe (by simp) λsU mq xg=>?_
   replace mq:IsZip sU z TI TO (rawInt eG.objs.size):=mq
   have up:∀c o,c≠z->eG.get? c=some o->sU.get? c=some o:=λc o c1 e=>xg.extBut _ _ c1 (xf.extBut _ _ c1 (Heap.get?_push_of_some _ e))
   have uG:IsPair sU eG.objs.size x y:=xg.extBut _ _ (Nat.ne_of_gt qd) (xf.extBut _ _ (Nat.ne_of_gt qd) (Heap.get?_push_size _ rfl))
   rw [hsz] at mq uG
   refine wpAny_pure ⟨.ref eG.objs.size,rfl,wpAny_pure ?_⟩
   rw [hsz]
   have ze:∀c o,c∉[z,TI,TO,i1,i2]->s.heap.get? c=some o->sU.get? c=some o:=λc o hc e=>by
    simp only [List.mem_cons,List.not_mem_nil,or_false,not_or] at hc
    obtain ⟨c1,c2,c3,c4,c5⟩:=hc
    exact up c o c1 (k5 _ _ c3 (k4 _ _ c5 (k3 _ _ c3 (k2 _ _ c4 (k1 _ _ c1 e)))))
   have yl:s.heap.objs.size∉[z,TI,TO,i1,i2]:=λhm=>by
    obtain ⟨o1,e1⟩:=D1.there h1
    obtain ⟨o2,e2⟩:=D2.there h2
    have g1:=Heap.lt_size e1
    have g2:=Heap.lt_size e2
    have g3:=Heap.lt_size hz
    have g4:=Heap.lt_size fj
    have g5:=Heap.lt_size gz
    simp only [List.mem_cons,List.not_mem_nil,or_false] at hm
    rcases hm with e | e | e | e | e
    . exact Nat.ne_of_gt g3 e
    . exact Nat.ne_of_gt g4 e
    . exact Nat.ne_of_gt g5 e
    . exact Nat.ne_of_gt g1 e
    . exact Nat.ne_of_gt g2 e
   refine hQ x y sU s.heap.objs.size px py ⟨up _ _ (Ne.symm rV) (k5 _ _ TITO (k4 _ _ TIi2 (k3 _ _ TITO (k2 _ _ TIi1 (k1 _ _ (Ne.symm rV) fj))))),⟨_,_,up _ _ (Ne.symm jh) jj⟩,.inr ⟨_,_,false,yl,uG,mq⟩⟩ ?_ ?_ yl (Heap.get?_none_of_le (Nat.le_refl _)) uG ze
   . refine D1.at y3 λc hc o e=>?_
     have q:c≠z/\c≠TO/\c≠i2:=by
      rcases List.mem_cons.mp hc with rfl | hc
      . exact ⟨Ne.symm iF,Ne.symm TOi1,i12⟩
      . exact ⟨λq=>a1 c hc (by rw [q]; simp),λq=>a1 c hc (by rw [q]; simp),λq=>a1 c hc (by rw [q]; simp)⟩
     exact up c o q.1 (k5 _ _ q.2.1 (k4 _ _ q.2.2 (k3 _ _ q.2.1 e)))
   . refine D2.at EL λc hc o e=>?_
     have q:c≠z/\c≠TO:=by
      rcases List.mem_cons.mp hc with rfl | hc
      . exact ⟨Ne.symm j1,Ne.symm TOi2⟩
      . exact ⟨λq=>a2 c hc (by rw [q]; simp),λq=>a2 c hc (by rw [q]; simp)⟩
     exact up c o q.1 (k5 _ _ q.2 e)
 . have hT:s.TypeIs (.ref z) "zip":=⟨_,hz,rfl⟩
   unfold pyNext
   refine wpAny_bind (wpAny_attempt (wpAny_callSpecial?_slot (name:=Str.ofString "__next__") hT F.slot_zip_next (wpAny_call_entry F.slot_zip_next hT F.entry_zip_next ?_ (F.args_zip_next_1 _))))
   show wpAny _ _ (field (.ref z) 2 >>= _) _ _ _
   refine wpAny_bind (wpAny_field hz rfl (x:=.bool false) rfl ?_)
   show wpAny _ _ (field (.ref z) 3 >>= _) _ _ _
   refine wpAny_bind (wpAny_field hz rfl (x:=.ref TI) rfl ?_)
   refine wpAny_bind (wpAny_seqItems fj rfl ?_)
   show wpAny _ _ (Builtin.SmallTypes.ownedTupleIsFree (.ref z) >>= _) _ _ _
   refine wpAny_bind ?_
   unfold Builtin.SmallTypes.ownedTupleIsFree
   refine wpAny_bind (wpAny_field hz rfl (x:=rawInt al) rfl ?_)
   show wpAny _ _ (loadIfAlive ((al:Int)).toNat >>= _) _ _ _
   refine wpAny_bind (kY ?_)
   rw [Int.toNat_natCast,rS]
   show wpAny _ _ (field (.ref z) 1 >>= _) _ _ _
   refine wpAny_bind (wpAny_field hz rfl (x:=.bool b1) rfl ?_)
   refine wpAny_mono (Q:=λ(r:Bool) (s':Shared)=>r=false/\∃h',s' = { s with heap:=h' } /\ Heap.SameBut z s.heap h'/\h'.get? z=some { cls:=.type "zip",dict:=none,data:=.fields #[rawInt al,.bool true,.bool false,.ref TI,.ref TO],slots:=#[] }) ?_ ?_ (λ_ _ x=>x)
   . cases b1
     . show wpAny _ _ (setField (.ref z) 1 (.bool true) >>= _) _ _ _
       refine wpAny_bind (wpAny_setField_rec hz (by simp) λgu fQ fh=>wpAny_pure ⟨rfl,gu,rfl,fh,fQ⟩)
     . exact wpAny_pure ⟨rfl,s.heap,rfl,⟨rfl,λ_ _=>rfl⟩,hz⟩
   rintro r s' ⟨rfl,gu,rfl,fh,fQ⟩
   have k1:∀c o,c≠z->s.heap.get? c=some o->gu.get? c=some o:=λc o n e=>fh.extBut _ _ n e
   show wpAny _ _ (forIn #[Value.ref i1,Value.ref i2] _ _ >>= _) _ _ _
   rw [← Array.forIn_toList]
   simp only [List.forIn_cons,List.forIn_nil]
   refine wpAny_bind (wpAny_bind (wpAny_bind (wpAny_holding ?_)))
   show wpAny _ _ (Builtin.SmallTypes.nextOf (.ref i1) >>= _) _ _ _
   have ne1:∀c∈i1::m1,c≠z/\c≠TO/\c≠i2:=λc hc=>by
    rcases List.mem_cons.mp hc with rfl | hc
    . exact ⟨Ne.symm iF,Ne.symm TOi1,i12⟩
    . exact ⟨λq=>a1 c hc (by rw [q]; simp),λq=>a1 c hc (by rw [q]; simp),λq=>a1 c hc (by rw [q]; simp)⟩
   have ne2:∀c∈i2::m2,c≠z/\c≠i1:=λc hc=>by
    rcases List.mem_cons.mp hc with rfl | hc
    . exact ⟨Ne.symm j1,Ne.symm i12⟩
    . exact ⟨λq=>a2 c hc (by rw [q]; simp),λq=>a2 c hc (by rw [q]; simp)⟩
   refine wpAny_bind (D1.item RN (D1.at h1 λc hc o e=>k1 c o (ne1 c hc).1 e) λx jA px y3 ji=>wpAny_pure (wpAny_pure ?_))
   have k2:∀c o,c≠i1->gu.get? c=some o->jA.get? c=some o:=λc o n e=>ji.extBut _ _ n e
   refine wpAny_bind (wpAny_bind (wpAny_holding ?_))
   show wpAny _ _ (Builtin.SmallTypes.nextOf (.ref i2) >>= _) _ _ _
   refine wpAny_bind (D2.item wX (D2.at h2 λc hc o e=>k2 c o (ne2 c hc).2 (k1 c o (ne2 c hc).1 e)) λy jB py ab1 j2=>wpAny_pure (wpAny_pure (wpAny_pure ?_)))
   have k3:∀c o,c≠i2->jA.get? c=some o->jB.get? c=some o:=λc o n e=>j2.extBut _ _ n e
   show wpAny _ _ (newTuple [x,y] >>= _) _ _ _
   refine wpAny_bind (wpAny_newTuple ?_)
   have hsz:jB.objs.size=s.heap.objs.size:=by rw [j2.1,ji.1,fh.1]
   have ab2:=k3 _ _ j1 (k2 _ _ iF fQ)
   have up:∀c o,jB.get? c=some o->(jB.push { cls:=.type "tuple",data:=.seq #[x,y] }).get? c=some o:=λc o e=>Heap.get?_push_of_some _ e
   have yl:s.heap.objs.size∉[z,TI,TO,i1,i2]:=λhm=>by
    obtain ⟨o1,e1⟩:=D1.there h1
    obtain ⟨o2,e2⟩:=D2.there h2
    have g1:=Heap.lt_size e1
    have g2:=Heap.lt_size e2
    have g3:=Heap.lt_size hz
    have g4:=Heap.lt_size fj
    have g5:=Heap.lt_size gz
    simp only [List.mem_cons,List.not_mem_nil,or_false] at hm
    rcases hm with e | e | e | e | e
    . exact Nat.ne_of_gt g3 e
    . exact Nat.ne_of_gt g4 e
    . exact Nat.ne_of_gt g5 e
    . exact Nat.ne_of_gt g1 e
    . exact Nat.ne_of_gt g2 e
   have RO:IsPair (jB.push { cls:=.type "tuple",data:=.seq #[x,y] }) jB.objs.size x y:=Heap.get?_push_size _ rfl
   have ze:∀c o,c∉[z,TI,TO,i1,i2]->s.heap.get? c=some o->(jB.push { cls:=.type "tuple",data:=.seq #[x,y] }).get? c=some o:=λc o hc e=>by
    simp only [List.mem_cons,List.not_mem_nil,or_false,not_or] at hc
    obtain ⟨c1,c2,c3,c4,c5⟩:=hc
    exact up c o (k3 _ _ c5 (k2 _ _ c4 (k1 _ _ c1 e)))
   refine wpAny_pure ⟨.ref jB.objs.size,rfl,wpAny_pure ?_⟩
   rw [hsz] at RO ⊢
   refine hQ x y _ s.heap.objs.size px py ⟨up _ _ (k3 _ _ TIi2 (k2 _ _ TIi1 (k1 _ _ (Ne.symm rV) fj))),⟨_,_,up _ _ (k3 _ _ TOi2 (k2 _ _ TOi1 (k1 _ _ (Ne.symm jh) gz)))⟩,.inr ⟨al,ol,true,pA,ze _ _ pA rS,up _ _ ab2⟩⟩ ?_ ?_ yl (Heap.get?_none_of_le (Nat.le_refl _)) RO ze
   . exact D1.at y3 λc hc o e=>up c o (k3 _ _ (ne1 c hc).2.2 e)
   . exact D2.at ab1 λc hc o e=>up c o e
theorem KJ {Q:Option Value->Shared->Prop}(hh:A.handled=none) (nd:[z,TI,TO,i1,i2].Nodup) (a1:∀b∈m1,b∉[z,TI,TO,i1,i2])
 (D1:gE prog w i1 m1 n1 P1 lU) (hz:ZS s.heap z TI TO i1 i2) (h1:lU n1 s.heap)
 (hQ:∀h',(∀c o,c∉[z,TI,TO,i1,i2]->s.heap.get? c=some o->h'.get? c=some o)->Q none { s with heap:=h' }):wpAny (model prog w) A (pyNext (.ref z)) Q E s:=by
 have xh:=nd
 simp only [List.nodup_cons,List.mem_cons,List.not_mem_nil,or_false,not_or] at xh
 obtain ⟨⟨rV,jh,iF,j1⟩,⟨TITO,TIi1,TIi2⟩,⟨TOi1,TOi2⟩,i12,_⟩:=xh
 obtain ⟨fj,⟨a,b,gz⟩,hz⟩:=hz
 have ne1:∀c∈i1::m1,c≠z:=λc hc=>by
  rcases List.mem_cons.mp hc with rfl | hc
  . exact Ne.symm iF
  . exact λq=>a1 c hc (by rw [q]; simp)
 rcases hz with hz | ⟨al,ol,b1,pA,rS,hz⟩
 . have hT:s.TypeIs (.ref z) "zip":=⟨_,hz,rfl⟩
   unfold pyNext
   refine wpAny_bind (wpAny_attempt (wpAny_callSpecial?_slot (name:=Str.ofString "__next__") hT F.slot_zip_next (wpAny_call_entry F.slot_zip_next hT F.entry_zip_next ?_ (F.args_zip_next_1 _))))
   show wpAny _ _ (field (.ref z) 2 >>= _) _ _ _
   refine wpAny_bind (wpAny_field hz rfl (x:=.bool false) rfl ?_)
   show wpAny _ _ (field (.ref z) 3 >>= _) _ _ _
   refine wpAny_bind (wpAny_field hz rfl (x:=.ref TI) rfl ?_)
   refine wpAny_bind (wpAny_seqItems fj rfl ?_)
   show wpAny _ _ (Builtin.SmallTypes.ownedTupleIsFree (.ref z) >>= _) _ _ _
   refine wpAny_bind ?_
   unfold Builtin.SmallTypes.ownedTupleIsFree
   refine wpAny_bind (wpAny_field hz rfl (x:=.none) rfl (wpAny_pure ?_))
   simp only [if_true]
   refine wpAny_bind (wpAny_rule ?_)
   refine wpAny_bind (wpAny_field hz rfl (x:=.ref TO) rfl ?_)
   refine wpAny_bind (wpAny_setField_rec hz (by simp) λgu fQ fh=>?_)
   replace fQ:IsZip gu z TI TO .ellipsis:=fQ
   refine wpAny_bind ?_
   simp only [List.zipIdx_cons,List.zipIdx_nil,List.forIn_cons,List.forIn_nil]
   refine wpAny_bind (wpAny_bind (wpAny_onRaise ?_))
   show wpAny _ _ (Builtin.SmallTypes.nextOf (.ref i1) >>= _) _ _ _
   refine wpAny_bind (D1.fin (by first | exact hh | rfl) (D1.at h1 λc hc o e=>fh.extBut _ o (ne1 c hc) e) λjA e ji he=>?_)
   obtain ⟨oe,uH,pz⟩:=he
   have EN:IsZip jA z TI TO .ellipsis:=ji _ _ iF fQ
   have MD:e≠z:=λx=>by subst x; rw [EN] at uH; cases uH; simp at pz
   refine wpAny_setField_rec EN (by simp) λjB _ j2=>?_
   refine wpAny_bind (wpAny_isInstance (T:="StopIteration") (b:=true) ⟨oe,j2.extBut _ _ MD uH,pz⟩ isSubtype_stop ?_)
   refine wpAny_pure (hQ _ λc o hc x=>?_)
   simp only [List.mem_cons,List.not_mem_nil,or_false,not_or] at hc
   exact j2.extBut _ _ hc.1 (ji _ _ hc.2.2.2.1 (fh.extBut _ _ hc.1 x))
 . have hT:s.TypeIs (.ref z) "zip":=⟨_,hz,rfl⟩
   unfold pyNext
   refine wpAny_bind (wpAny_attempt (wpAny_callSpecial?_slot (name:=Str.ofString "__next__") hT F.slot_zip_next (wpAny_call_entry F.slot_zip_next hT F.entry_zip_next ?_ (F.args_zip_next_1 _))))
   show wpAny _ _ (field (.ref z) 2 >>= _) _ _ _
   refine wpAny_bind (wpAny_field hz rfl (x:=.bool false) rfl ?_)
   show wpAny _ _ (field (.ref z) 3 >>= _) _ _ _
   refine wpAny_bind (wpAny_field hz rfl (x:=.ref TI) rfl ?_)
   refine wpAny_bind (wpAny_seqItems fj rfl ?_)
   show wpAny _ _ (Builtin.SmallTypes.ownedTupleIsFree (.ref z) >>= _) _ _ _
   refine wpAny_bind ?_
   unfold Builtin.SmallTypes.ownedTupleIsFree
   refine wpAny_bind (wpAny_field hz rfl (x:=rawInt al) rfl ?_)
   show wpAny _ _ (loadIfAlive ((al:Int)).toNat >>= _) _ _ _
   refine wpAny_bind (kY ?_)
   rw [Int.toNat_natCast,rS]
   show wpAny _ _ (field (.ref z) 1 >>= _) _ _ _
   refine wpAny_bind (wpAny_field hz rfl (x:=.bool b1) rfl ?_)
   refine wpAny_mono (Q:=λ(r:Bool) (s':Shared)=>r=false/\∃h',s' = { s with heap:=h' } /\ Heap.SameBut z s.heap h'/\h'.get? z=some { cls:=.type "zip",dict:=none,data:=.fields #[rawInt al,.bool true,.bool false,.ref TI,.ref TO],slots:=#[] }) ?_ ?_ (λ_ _ x=>x)
   . cases b1
     . show wpAny _ _ (setField (.ref z) 1 (.bool true) >>= _) _ _ _
       refine wpAny_bind (wpAny_setField_rec hz (by simp) λgu fQ fh=>wpAny_pure ⟨rfl,gu,rfl,fh,fQ⟩)
     . exact wpAny_pure ⟨rfl,s.heap,rfl,⟨rfl,λ_ _=>rfl⟩,hz⟩
   rintro r s' ⟨rfl,gu,rfl,fh,fQ⟩
   show wpAny _ _ (forIn #[Value.ref i1,Value.ref i2] _ _ >>= _) _ _ _
   rw [← Array.forIn_toList]
   simp only [List.forIn_cons,List.forIn_nil]
   refine wpAny_bind (wpAny_bind (wpAny_bind (wpAny_holding ?_)))
   show wpAny _ _ (Builtin.SmallTypes.nextOf (.ref i1) >>= _) _ _ _
   refine wpAny_bind (D1.fin (by first | exact hh | rfl) (D1.at h1 λc hc o e=>fh.extBut _ o (ne1 c hc) e) λjA e ji he=>?_)
   obtain ⟨oe,uH,pz⟩:=he
   refine wpAny_bind (wpAny_isInstance (T:="StopIteration") (b:=true) ⟨oe,uH,pz⟩ isSubtype_stop ?_)
   refine wpAny_pure (hQ _ λc o hc x=>?_)
   simp only [List.mem_cons,List.not_mem_nil,or_false,not_or] at hc
   exact ji _ _ hc.2.2.2.1 (fh.extBut _ _ hc.1 x)
end
end PySem
namespace PySem
open PySem.Spec PyProof.Rows
section
variable {prog:Program}{w:World}{K:Type}[DecidableEq K] {knd:KeyKind prog w K}{A:Around}{E:Value->Shared->Prop}{s:Shared}
theorem AS {it d:Addr}{i ep:Nat}{kvs:List (K×Value)}{k:K}{v:Value}{Q:Value->Shared->Prop}(hit:s.heap.IsKeyIter it d i kvs.length ep)
 (hm:s.heap.DictAt knd d kvs ep) (hx:kvs[i]?=some (k,v))
 (hQ:∀key h',knd.is k key=true->h'.IsKeyIter it d (i+1) kvs.length ep->Heap.SameBut it s.heap h'->Q key { s with heap:=h' }) :
 wpAny (model prog w) A (Builtin.SmallTypes.nextOf (.ref it)) Q E s:=by
 obtain ⟨o,ho,hc,hd⟩:=id hit
 obtain ⟨od,es,xl,ng,lS,hk,hp,hn⟩:=id hm
 unfold Builtin.SmallTypes.nextOf
 refine wpAny_bind (wpAny_callSpecial?_slot (name:=Str.ofString "__next__") hit.typeIs F.slot_dict_keyiterator_next
  (wpAny_call_entry F.slot_dict_keyiterator_next hit.typeIs F.entry_dict_keyiterator_next ?_ (F.args_dict_keyiterator_next_1 _)))
 refine wpAny_bind (wpAny_pure ?_)
 refine wpAny_bind ?_
 refine wpAny_bind ?_
 first | refine wpAny_bind (wpAny_typeNameOfWhole_keyiter hit.typeIs (wpAny_pure ?_)) | refine wpAny_bind (wpAny_typeNameOf_keyiter hit.typeIs (wpAny_pure ?_))
 refine wpAny_bind (wpAny_fieldsOf ho hd ?_)
 have Hh:Builtin.Dict_items.ownsTuple "dict_keyiterator" = false:=by decide
 simp only [Hh,Bool.false_eq_true,if_false]
 show wpAny _ _ (if (Value.ref d == Value.none)=true then _ else _) _ _ s
 rw [if_neg (show ¬ ((Value.ref d == Value.none)=true) from Bool.false_ne_true)]
 refine wpAny_bind (wpAny_pure ?_)
 refine wpAny_bind (wpAny_dictEntries xl lS ?_)
 have hsz:es.size=kvs.length:=by rw [← hp.length]; simp
 rw [if_neg (by rw [hsz]; simp)]
 refine wpAny_bind (wpAny_pure ?_)
 refine wpAny_bind (wpAny_dictEpoch xl lS ?_)
 rw [if_neg (by simp)]
 refine wpAny_pure ?_
 have cq:i<kvs.length:=by
  rcases Nat.lt_or_ge i kvs.length with h | h
  . exact h
  . simp [List.getElem?_eq_none h] at hx
 have MN:i<es.size:=by rw [hsz]; exact cq
 have ou:knd.is k es[i].key=true:=(hp.get? (e:=es[i]) (by simp [MN]) hx).1
 simp only [show ¬ ((i:Int)<0) from by omega,if_false,Int.toNat_natCast,Array.getElem?_eq_getElem MN]
 refine wpAny_bind ?_
 first | refine wpAny_bind (wpAny_typeNameOfWhole_keyiter hit.typeIs (wpAny_pure ?_)) | refine wpAny_bind (wpAny_typeNameOf_keyiter hit.typeIs (wpAny_pure ?_))
 refine wpAny_bind (wpAny_isOneOf_keyiter hit.typeIs ?_)
 show wpAny _ _ (setField (.ref it) 1 (rawInt ((i:Int)+1)) >>= _) _ _ s
 refine wpAny_bind (wpAny_setField ho hd (by simp) ?_)
 have CV:(s.heap.update it (Obj.mapFields (·.setIfInBounds 1 (rawInt ((i:Int)+1))))).IsKeyIter it d (i+1) kvs.length ep:=
  ⟨_,Heap.get?_update_self _ ho (Obj.isFreed_of_fields (Obj.data_mapFields hd _)),(Obj.cls_mapFields ..).trans hc,by rw [Obj.data_mapFields hd]; simp [rawInt]⟩
 refine wpAny_bind (wpAny_holding ?_)
 refine wpAny_bind (wpAny_isOneOf_keyiter (s:={ s with heap:=s.heap.update it (Obj.mapFields (·.setIfInBounds 1 (rawInt ((i:Int)+1)))) }) CV.typeIs ?_)
 show wpAny _ _ (pure es[i].key) _ _ _
 exact wpAny_pure (wpAny_pure ⟨_,rfl,wpAny_pure (hQ _ _ ou CV (Heap.SameBut.update ..))⟩)
theorem C9 {it d:Addr}{i ep:Nat}{kvs:List (K×Value)}{Q:Value->Shared->Prop}(hh:A.handled=none) (hit:s.heap.IsKeyIter it d i kvs.length ep)
 (hm:s.heap.DictAt knd d kvs ep) (hx:kvs[i]?=none)
 (hE:∀h' e,Heap.ExtBut it s.heap h'->(∃o,h'.get? e=some o/\o.cls=.type "StopIteration")->E (.ref e) { s with heap:=h' }):wpAny (model prog w) A (Builtin.SmallTypes.nextOf (.ref it)) Q E s:=by
 obtain ⟨o,ho,hc,hd⟩:=id hit
 obtain ⟨od,es,xl,ng,lS,hk,hp,hn⟩:=id hm
 unfold Builtin.SmallTypes.nextOf
 refine wpAny_bind (wpAny_callSpecial?_slot (name:=Str.ofString "__next__") hit.typeIs F.slot_dict_keyiterator_next
  (wpAny_call_entry F.slot_dict_keyiterator_next hit.typeIs F.entry_dict_keyiterator_next ?_ (F.args_dict_keyiterator_next_1 _)))
 refine wpAny_bind (wpAny_pure ?_)
 refine wpAny_bind ?_
 refine wpAny_bind ?_
 first | refine wpAny_bind (wpAny_typeNameOfWhole_keyiter hit.typeIs (wpAny_pure ?_)) | refine wpAny_bind (wpAny_typeNameOf_keyiter hit.typeIs (wpAny_pure ?_))
 refine wpAny_bind (wpAny_fieldsOf ho hd ?_)
 have Hh:Builtin.Dict_items.ownsTuple "dict_keyiterator" = false:=by decide
 simp only [Hh,Bool.false_eq_true,if_false]
 show wpAny _ _ (if (Value.ref d == Value.none)=true then _ else _) _ _ s
 rw [if_neg (show ¬ ((Value.ref d == Value.none)=true) from Bool.false_ne_true)]
 refine wpAny_bind (wpAny_pure ?_)
 refine wpAny_bind (wpAny_dictEntries xl lS ?_)
 have hsz:es.size=kvs.length:=by rw [← hp.length]; simp
 rw [if_neg (by rw [hsz]; simp)]
 refine wpAny_bind (wpAny_pure ?_)
 refine wpAny_bind (wpAny_dictEpoch xl lS ?_)
 rw [if_neg (by simp)]
 refine wpAny_pure ?_
 have IU:es.size<=i:=by rw [hsz]; simpa using hx
 simp only [show ¬ ((i:Int)<0) from by omega,if_false,Int.toNat_natCast,Array.getElem?_eq_none IU]
 refine wpAny_bind ?_
 first | refine wpAny_bind (wpAny_typeNameOfWhole_keyiter hit.typeIs (wpAny_pure ?_)) | refine wpAny_bind (wpAny_typeNameOf_keyiter hit.typeIs (wpAny_pure ?_))
 show wpAny _ _ (setField (.ref it) 0 .none >>= _) _ _ s
 refine wpAny_bind (wpAny_setField ho hd (by simp) ?_)
 show wpAny _ _ (newExc (.type "StopIteration") [] >>= _) _ _ _
 refine wpAny_bind ?_
 simp only [newExc,newTuple]
 refine wpAny_bind (wpAny_newObj_type ?_ (by size_fits))
 refine wpAny_bind (m:=firstArgMember _ _) (wpAny_of_eq (a:=Value.none) (by first | rfl | (simp only [firstArgMember]; rfl)) ?_)
 refine wpAny_newObj_type ?_ (by size_fits)
 simp only [raiseNew]
 refine wpAny_bind (wpAny_handled ?_)
 first | rw [show A.in1.handled=none from hh] | rw [hh]
 refine wpAny_bind (wpAny_pure (wpAny_throw ?_))
 exact hE _ _ (((Heap.SameBut.update ..).extBut.push _).push _) ⟨_,Heap.get?_push_size _ rfl,rfl⟩
theorem Dc {it d:Addr}{kvs:List (K×Value)}{ep:Nat}(dh:d≠it):gE prog w it [d] kvs.length (λi x=>∃kv,kvs[i]?=some kv/\knd.is kv.1 x=true) (λi h=>h.IsKeyIter it d i kvs.length ep/\h.DictAt knd d kvs ep) where
 «at»:=λst k=>⟨st.1.at λo e=>k it (by simp) o e,st.2.at' λo e=>k d (by simp) o e⟩
 there:=λst=>let ⟨o,e,_⟩:=st.1; ⟨o,e⟩
 item:=λ{A E s i Q} hi st h=>AS st.1 st.2 (k:=kvs[i].1) (v:=kvs[i].2) (List.getElem?_eq_getElem hi) λkey h' hk i' sb=>h key h' ⟨_,List.getElem?_eq_getElem hi,hk⟩ ⟨i',st.2.extBut sb.extBut dh⟩ sb
 fin:=λ{A E s Q} hh st h=>C9 hh st.1 st.2 (List.getElem?_eq_none (Nat.le_refl _)) h
end
theorem uK:typeLookup (.type "zip") "__getattr__" = pure none:=by rw [typeLookup_type,builtinLookup_eq_fast]; kernel_rfl
theorem zf:typeLookup (.type "zip") "keys" = pure none:=by rw [typeLookup_type,builtinLookup_eq_fast]; kernel_rfl
namespace F
theorem AU:entryFor table "zip.__getattribute__" = some Builtin.«object.__getattribute__»:=entryFor_alias (id':="object.__getattribute__") (by kernel_rfl) (by first | rfl | decide +kernel) (by decide +kernel) (by kernel_rfl)
end F
theorem oJ {A:Around}{prog:Program}{w:World}{Q:Fin->Shared->Prop}{E:Value->Shared->Prop}{h:Heap}{g d t os} {a:Addr}{fs:Array Value}(u:Tok) (hx:h.get? a=some { cls:=.type "zip",dict:=none,data:=.fields fs,slots:=#[] }) (hh:A.handled=none)
 (hE:∀h' tk e,Heap.NewAttrErr h h' e (.ref a) "keys" -> E (.ref e) ⟨h',g,d,tk,os⟩) :
 wpAny (model prog w) A (Builtin.«object.__getattribute__» ⟨[.ref a,.str "keys" u],[]⟩) Q E ⟨h,g,d,t,os⟩:=by
 have hT:∀t',(⟨h,g,d,t',os⟩:Shared).TypeIs (.ref a) "zip":=λt'=>⟨_,hx,rfl⟩
 have rQ:=hT t
 have QC:=zf
 have hc:[Str.ofString "__module__",Str.ofString "__name__",Str.ofString "__qualname__",Str.ofString "__doc__",Str.ofString "__annotations__"].contains (Str.ofString "keys")=false:=by decide +kernel
 unfold Builtin.«object.__getattribute__»
 repeat (any_goals (first | assumption | wp_step | refine wpAny_ite_false hc ?_))
 all_goals first
  | exact wpAny_raiseAttrError hh hE (attrMsg_fits (by decide +kernel) (by decide))
  | skip
theorem zg {A:Around}{prog:Program}{w:World}{R:Result->Shared->Prop}{h:Heap}{g d t os} {a:Addr}{fs:Array Value}{u:Tok}(hx:h.get? a=some { cls:=.type "zip",dict:=none,data:=.fields fs,slots:=#[] }) (hh:A.handled=none)
 (hE:∀h' tk e,Heap.NewAttrErr h h' e (.ref a) "keys" -> R (.error (.ref e)) ⟨h',g,d,tk,os⟩) :
 codeAny (model prog w) A (.call (.builtin "zip.__getattribute__") ⟨[.ref a,.str "keys" u],[]⟩) R ⟨h,g,d,t,os⟩:=
 codeAny_call_builtin F.slot_zip_getattribute.plain F.AU (F.slot_zip_getattribute.check _ _ _ _ _ _ _ _ (show (⟨h,g,d,t,os⟩:Shared).TypeIs (.ref a) "zip" from ⟨_,hx,rfl⟩) (F.args_zip_getattribute_2 _ _) (oJ u hx hh hE))
theorem zh {A:Around}{prog:Program}{w:World}{E:Value->Shared->Prop}{h:Heap}{g d t os} {a:Addr}{fs:Array Value}{Q:Option Value->Shared->Prop}(hx:h.get? a=some { cls:=.type "zip",dict:=none,data:=.fields fs,slots:=#[] }) (hh:A.handled=none)
 (hQ:∀h' tk,(∀b o,h.get? b=some o->h'.get? b=some o)->Q none ⟨h',g,d,tk,os⟩):wpAny (model prog w) A (getAttr? (.ref a) "keys") Q E ⟨h,g,d,t,os⟩:=by
 have hT:(⟨h,g,d,t,os⟩:Shared).TypeIs (.ref a) "zip":=⟨_,hx,rfl⟩
 have f1:=sub_AttributeError
 have f2:=F.slot_zip_getattribute.lookup
 have f3:=F.slot_zip_getattribute.bind (.ref a)
 have f5:=uK
 unfold getAttr? getAttrBy? getAttrBy
 repeat (any_goals (first | assumption | ((with_reducible show codeAny _ _ (Code.call (Value.builtin "zip.__getattribute__") _) _ _); refine zg hx hh ?_; intro h' p7 e EI; obtain ⟨t1,u1,he⟩:=EI.there) | wp_step))
 exact hQ h' p7 EI.keeps
end PySem
namespace PySem
open PySem.Spec PyProof.Rows
section
variable {prog:Program}{w:World}{K:Type}[DecidableEq K] {knd:KeyKind prog w K}{A:Around}{R:Result->Shared->Prop}{z TI TO i1 i2:Addr}{m1 m2:List Addr}{n1 n2:Nat}{P1 P2:Nat->Value->Prop}{lU jW:Nat->Heap->Prop}
theorem vP {d:Addr}{kvs:List (K×Value)}(nd:[z,TI,TO,i1,i2].Nodup) (a1:∀b∈m1,b∉[z,TI,TO,i1,i2]) (a2:∀b∈m2,b∉[z,TI,TO,i1,i2]) (IV:d∉[z,TI,TO,i1,i2]) (y0:d∉m1) (hd2:d∉m2)
 (D1:gE prog w i1 m1 n1 P1 lU) (D2:gE prog w i2 m2 n2 P2 jW) (jw:kvs.length=n1) (gh:n1<=n2) (hP:∀(i:Nat) (x y:Value) (kv:K×Value),kvs[i]?=some kv->P1 i x->P2 i y->knd.is kv.1 x=true/\y=kv.2) (hz:kvs.length<=sizeLine) (hh:A.handled=none) :
 ∀(k i:Nat) (s:Shared) (tk:Tok) (acc:List (K×Value)),kvs.length-i=k->i<=kvs.length->ZS s.heap z TI TO i1 i2->lU i s.heap->jW i s.heap->s.heap.DictOf knd d acc->acc.length<=i->
 (∀h' tk,h'.DictOf knd d ((kvs.drop i).foldl (λa kv=>stored a kv.1 kv.2) acc)->(∀b o,b≠d->b∉[z,TI,TO,i1,i2]->s.heap.get? b=some o->h'.get? b=some o)->R (.ok (.ret .none)) { s with heap:=h',toks:=tk })->
 codeAny (model prog w) A (.builtin "dict.update.loop" ⟨[.ref d,.ref z,.int (i:Int) tk,.none],[]⟩) R s:=by
 intro k
 induction k with
 | zero=>
  intro i s tk acc hk hi MO h1 h2 hd Hd hR
  have pk:i=n1:=by omega
  subst pk
  refine codeAny_builtin F.d7 ?_
  rw [Around.under_plainId F.bU _]
  show wpAny _ A.in1 (pyNext (.ref z) >>= _) _ _ s
  refine wpAny_bind (KJ (A:=A.in1) hh nd a1 D1 MO h1 λh' he=>?_)
  refine wpAny_bind (wpAny_pure (wpAny_pure ?_))
  have hd':h'.DictOf knd d acc:=let ⟨o,es,ep,ho,r⟩:=hd; ⟨o,es,ep,he d o IV ho,r⟩
  refine hR h' s.toks ?_ λb o _ hb e=>he b o hb e
  rw [List.drop_of_length_le (by omega)]
  exact hd'
 | succ k ih=>
  intro i s tk acc hk hi MO h1 h2 hd Hd hR
  have cq:i<kvs.length:=by omega
  have p8:kvs[i]?=some kvs[i]:=List.getElem?_eq_getElem cq
  refine codeAny_builtin F.d7 ?_
  rw [Around.under_plainId F.bU _]
  show wpAny _ A.in1 (pyNext (.ref z) >>= _) _ _ s
  refine wpAny_bind (KI nd a1 a2 D1 D2 MO h1 h2 (by omega) (by omega) λx y MP T px py UZ IW h21 kX RP IX IY=>?_)
  obtain ⟨ou,rfl⟩:=hP i x y _ p8 px py
  obtain ⟨od,esd,epd,xl,rd⟩:=id hd
  have hTd:T≠d:=λe=>by rw [e,xl] at RP; cases RP
  refine wpAny_bind (wpAny_holding (wpAny_bind ?_))
  refine wpAny_tryCatch ?_
  unfold Builtin.Dict.pairItems
  refine wpAny_bind (wpAny_typeOf (show ({ s with heap:=MP } : Shared).TypeIs (.ref T) "tuple" from ⟨_,IX,rfl⟩) ?_)
  rw [if_pos (by decide)]
  refine wpAny_bind (wpAny_seqItems IX rfl (wpAny_pure ?_))
  show wpAny _ A.in1 (holding [x,(kvs[i]).2] (dictSet d x (kvs[i]).2)) _ _ _
  refine wpAny_holding ?_
  unfold dictSet
  try with_reducible refine wpAny_holding ?_
  have lS:MP.DictOf knd d acc:=⟨od,esd,epd,IY d od IV xl,rd⟩
  refine wpAny_bind (knd.pyHash ou ?_)
  refine wpAny_dictSetHashed_pairs ou lS (λEV De jY=>?_) (by omega)
  refine wpAny_pure ⟨plainId_quiet F.bU _,?_⟩
  have er:rawInt ((i:Int)+1)=Value.int (((i+1:Nat):Nat):Int) 0:=by simp [rawInt]
  rw [er]
  have k2:∀b o,b≠d->MP.get? b=some o->EV.get? b=some o:=λb o b1 e=>(jY.2 b b1).trans e
  have n5:∀b∈[z,TI,TO,i1,i2],b≠d:=λb hb e=>IV (e ▸ hb)
  refine ih (i+1) _ 0 (stored acc (kvs[i]).1 (kvs[i]).2) (by omega) (by omega) ?_ ?_ ?_ De ?_ ?_
  . obtain ⟨q1,⟨q2a,q2b,q2⟩,q3⟩:=UZ
    refine ⟨k2 _ _ (n5 TI (by simp)) q1,⟨_,_,k2 _ _ (n5 TO (by simp)) q2⟩,?_⟩
    rcases q3 with q3 | ⟨al,ol,b1,pA,rS,q3⟩
    . exact .inl (k2 _ _ (n5 z (by simp)) q3)
    . by_cases e:al=d
      . subst e
        obtain ⟨o',Be,Bf,jf,_⟩:=De
        exact .inr ⟨al,o',b1,pA,jf,k2 _ _ (n5 z (by simp)) q3⟩
      . exact .inr ⟨al,ol,b1,pA,k2 _ _ e rS,k2 _ _ (n5 z (by simp)) q3⟩
  . exact D1.at IW λb hb o e=>k2 b o (by
     rcases List.mem_cons.mp hb with rfl | hb
     . exact n5 _ (by simp)
     . exact λq=>y0 (q ▸ hb)) e
  . exact D2.at h21 λb hb o e=>k2 b o (by
     rcases List.mem_cons.mp hb with rfl | hb
     . exact n5 _ (by simp)
     . exact λq=>hd2 (q ▸ hb)) e
  . have:=stored_length_le acc (kvs[i]).1 (kvs[i]).2
    omega
  . intro h' p7 hd' j0
    refine hR h' p7 ?_ λb o b1 b2 e=>j0 b o b1 b2 (k2 b o b1 (IY b o b2 e))
    rw [List.drop_eq_getElem_cons (by omega),List.foldl_cons]
    exact hd'
end
section
variable {prog:Program}{w:World}{K:Type}[DecidableEq K] {knd:KeyKind prog w K}{A:Around}{E:Value->Shared->Prop}{s:Shared}{z TI TO i1 i2:Addr}{m1 m2:List Addr}{n1 n2:Nat}{P1 P2:Nat->Value->Prop}{lU jW:Nat->Heap->Prop}
theorem zi {kvs:List (K×Value)}{Q:Value->Shared->Prop}(hh:A.handled=none) (nd:[z,TI,TO,i1,i2].Nodup) (a1:∀b∈m1,b∉[z,TI,TO,i1,i2]) (a2:∀b∈m2,b∉[z,TI,TO,i1,i2]) (l1:∀b∈m1,b<s.heap.objs.size) (l2:∀b∈m2,b<s.heap.objs.size)
 (D1:gE prog w i1 m1 n1 P1 lU) (D2:gE prog w i2 m2 n2 P2 jW) (jw:kvs.length=n1) (gh:n1<=n2) (hP:∀(i:Nat) (x y:Value) (kv:K×Value),kvs[i]?=some kv->P1 i x->P2 i y->knd.is kv.1 x=true/\y=kv.2) (zj:kvs.length<=sizeLine)
 (hz:IsZip s.heap z TI TO .none) (fj:IsPair s.heap TI (.ref i1) (.ref i2)) (gz:∃a b,IsPair s.heap TO a b) (h1:lU 0 s.heap) (h2:jW 0 s.heap)
 (h:∀h' tk,h'.DictOf knd s.heap.objs.size (merged [] kvs)->(∀b o,b∉[z,TI,TO,i1,i2]->s.heap.get? b=some o->h'.get? b=some o)->Q (.ref s.heap.objs.size) { s with heap:=h',toks:=tk }) :
 wpAny (model prog w) A (call (.type "dict") [.ref z]) Q E s:=by
 refine callType_codes (Q₁:=λobj di=>obj=.ref s.heap.objs.size/\di = { s with heap:=s.heap.push { cls:=.type "dict",data:=.dict #[] } }) F.kt_called_dict (F.kt_typeCall_dict_1 _) F.entry_dict_init (kt_code_dict_new _ ⟨rfl,rfl⟩) ?_
 rintro obj di ⟨rfl,rfl⟩
 have ky:(s.heap.push { cls:=.type "dict",data:=.dict #[] }).DictOf knd s.heap.objs.size []:=Heap.DictOf.new s.heap
 have ny:IsZip (s.heap.push { cls:=.type "dict",data:=.dict #[] }) z TI TO .none:=Heap.get?_push_of_some _ hz
 refine ⟨ky.typeIs,F.args_dict_init_2 _ _,?_⟩
 unfold Builtin.«dict.__init__»
 refine wpAny_bind ?_
 unfold Builtin.Dict.selfAndRest
 refine wpAny_bind (wpAny_notOrdered_dict ky.typeIs ?_)
 show wpAny _ _ (pure (s.heap.objs.size,[Value.ref z])) _ _ _
 refine wpAny_pure ?_
 show wpAny _ _ (Builtin.Dict.updateFrom "dict.__init__" s.heap.objs.size (.ref z) [] .none) _ _ _
 unfold Builtin.Dict.updateFrom
 refine wpAny_bind (wpAny_typeOf (show ({ s with heap:=s.heap.push { cls:=.type "dict",data:=.dict #[] } } : Shared).TypeIs (.ref z) "zip" from ⟨_,ny,rfl⟩) ?_)
 rw [if_pos (by decide)]
 have MQ:s.heap.objs.size∉[z,TI,TO,i1,i2]:=λhm=>by
  obtain ⟨o1,e1⟩:=D1.there h1
  obtain ⟨o2,e2⟩:=D2.there h2
  obtain ⟨ta,tb,gz⟩:=gz
  simp only [List.mem_cons,List.not_mem_nil,or_false] at hm
  rcases hm with e | e | e | e | e
  . exact Nat.ne_of_gt (Heap.lt_size hz) e
  . exact Nat.ne_of_gt (Heap.lt_size fj) e
  . exact Nat.ne_of_gt (Heap.lt_size gz) e
  . exact Nat.ne_of_gt (Heap.lt_size e1) e
  . exact Nat.ne_of_gt (Heap.lt_size e2) e
 generalize pj:({ s with heap:=s.heap.push { cls:=.type "dict",data:=.dict #[] } } : Shared)=s1 at *
 obtain ⟨g1,g2,g3,g4,g5⟩:=s1
 cases pj
 refine wpAny_bind (zh ny (by first | exact hh | rfl) λEV Mx k2=>?_)
 rw [if_pos (show (none:Option Value).isNone=true from rfl)]
 have up:∀b o,s.heap.get? b=some o->EV.get? b=some o:=λb o e=>k2 _ _ (Heap.get?_push_of_some _ e)
 refine wpAny_bind (wpAny_rule (wpAny_bind (wpAny_pyIter_zip (s:={ heap:=EV,gens:=s.gens,drawn:=s.drawn,toks:=Mx,os:=s.os }) (up _ _ hz) ?_)))
 refine wpAny_pure ⟨plainId_quiet F.bU _,?_⟩
 have hd2:EV.DictOf knd s.heap.objs.size []:=let ⟨o,es,ep,ho,r⟩:=ky; ⟨o,es,ep,k2 _ _ ho,r⟩
 refine vP (knd:=knd) (d:=s.heap.objs.size) (kvs:=kvs) nd a1 a2 MQ (λq=>Nat.lt_irrefl _ (l1 _ q)) (λq=>Nat.lt_irrefl _ (l2 _ q)) D1 D2 jw gh hP zj (by first | exact hh | rfl) kvs.length 0 _ 0 [] rfl (Nat.zero_le _) ?_ ?_ ?_ hd2 (Nat.le_refl _) ?_
 . obtain ⟨ta,tb,gz⟩:=gz
   exact ⟨up _ _ fj,⟨_,_,up _ _ gz⟩,.inl (up _ _ hz)⟩
 . exact D1.at h1 λb _ o e=>up b o e
 . exact D2.at h2 λb _ o e=>up b o e
 . intro h' p7 hd' j0
   refine ⟨rfl,h h' p7 ?_ λb o hb e=>?_⟩
   . simpa [merged] using hd'
   . exact j0 b o (Nat.ne_of_lt (Heap.lt_size e)) hb (up b o e)
end
end PySem
namespace PySem
open PySem.Spec PyProof.Rows
abbrev oK (h:Heap) (o:Obj):Heap:=h.push o
abbrev Df (h:Heap) (o:Obj) (l2:Addr):Heap:=(oK h o).push { cls:=.type "tuple_iterator",data:=.fields #[.ref l2,.int 0 0] }
abbrev Dg (h:Heap) (o:Obj) (l2:Addr):Heap:=(Df h o l2).push { cls:=.type "tuple",data:=.seq #[.ref h.objs.size,.ref (oK h o).objs.size] }
abbrev vQ (h:Heap) (o:Obj) (l2:Addr):Heap:=(Dg h o l2).push { cls:=.type "tuple",data:=.seq #[.none,.none] }
abbrev f7 (h:Heap) (o:Obj) (l2:Addr):Heap:=(vQ h o l2).push { cls:=.type "zip",data:=.fields #[.none,.bool false,.bool false,.ref (Df h o l2).objs.size,.ref (Dg h o l2).objs.size] }
abbrev jR (l:Addr):Obj:={ cls:=.type "list_iterator",data:=.fields #[.ref l,.int 0 0] }
abbrev qP (d n ep:Nat):Obj:={ cls:=.type "dict_keyiterator",data:=.fields #[.ref d,.int 0 0,.int n 0,.int ep 0] }
theorem uL (l1 l2:Addr) (xs ys:Array Value) :
 Meets (Builtin.«zip.__new__» ⟨[.type "zip",.ref l1,.ref l2],[]⟩) (λ_ R s=>s.heap.IsList l1 xs/\s.heap.IsTuple l2 ys/\R (.ok (.ret (.ref (vQ s.heap (jR l1) l2).objs.size))) { s with heap:=f7 s.heap (jR l1) l2 }):=
 .of_wp λprog w A R s h=>by
  obtain ⟨hp,g,d,tk,os⟩:=s; obtain ⟨cC,cj,h⟩:=h
  have He:=sub_zip
  have EO:Heap.IsList (Shared.heap ⟨hp,g,d,tk,os⟩) l1 xs:=cC
  have y6:Heap.IsTuple (Shared.heap ⟨hp.push { cls:=.type "list_iterator",data:=.fields #[.ref l1,.int 0 0] },g,d,tk,os⟩) l2 ys:=Heap.IsTuple.push cj _
  wp_walk using wpAny_pyIter_list EO,wpAny_pyIter_tuple y6
  exact ⟨_,rfl,h⟩
theorem Dh {prog:Program}{w:World}{K:Type}[DecidableEq K] (knd:KeyKind prog w K) (l1 l2:Addr) (kvs:List (K×Value)) (ep:Nat) (ys:Array Value) (hs:(l1 == sysModules)=false) :
 MeetsIn prog w (Builtin.«zip.__new__» ⟨[.type "zip",.ref l1,.ref l2],[]⟩) (λ_ R s=>s.heap.DictAt knd l1 kvs ep/\s.heap.IsTuple l2 ys/\R (.ok (.ret (.ref (vQ s.heap (qP l1 kvs.length ep) l2).objs.size))) { s with heap:=f7 s.heap (qP l1 kvs.length ep) l2 }):=
 .of_wp λA R s h=>by
  obtain ⟨hp,g,d,tk,os⟩:=s; obtain ⟨hm,cj,h⟩:=h
  have He:=sub_zip
  have hM:Heap.DictAt knd (Shared.heap ⟨hp,g,d,tk,os⟩) l1 kvs ep:=hm
  have y6:Heap.IsTuple (Shared.heap ⟨hp.push { cls:=.type "dict_keyiterator",data:=.fields #[.ref l1,.int 0 0,.int kvs.length 0,.int ep 0] },g,d,tk,os⟩) l2 ys:=Heap.IsTuple.push cj _
  wp_walk using wpAny_pyIter_dict hs hM,wpAny_pyIter_tuple y6
  exact ⟨_,rfl,h⟩
section
variable {prog:Program}{w:World}{A:Around}{E:Value->Shared->Prop}{s:Shared}
theorem qQ (h:Heap) (o:Obj) (l2:Addr) (hg:(oK h o).get? h.objs.size=some o):IsZip (f7 h o l2) (h.objs.size+4) (h.objs.size+2) (h.objs.size+3) .none/\IsPair (f7 h o l2) (h.objs.size+2) (.ref h.objs.size) (.ref (h.objs.size+1))/\IsPair (f7 h o l2) (h.objs.size+3) .none .none/\
 (f7 h o l2).get? h.objs.size=some o/\(f7 h o l2).IsTupleIter (h.objs.size+1) l2 0/\(∀c q,h.get? c=some q->(f7 h o l2).get? c=some q)/\(vQ h o l2).objs.size=h.objs.size+4:=by
 have z1:(oK h o).objs.size=h.objs.size+1:=Heap.size_push ..
 have z2:(Df h o l2).objs.size=h.objs.size+2:=by rw [Heap.size_push,z1]
 have z3:(Dg h o l2).objs.size=h.objs.size+3:=by rw [Heap.size_push,z2]
 have z4:(vQ h o l2).objs.size=h.objs.size+4:=by rw [Heap.size_push,z3]
 have g5:(f7 h o l2).get? (vQ h o l2).objs.size=some _:=Heap.get?_push_size _ rfl
 have g4:(f7 h o l2).get? (Dg h o l2).objs.size=some _:=Heap.get?_push_of_some _ (Heap.get?_push_size _ rfl)
 have g3:(f7 h o l2).get? (Df h o l2).objs.size=some _:=Heap.get?_push_of_some _ (Heap.get?_push_of_some _ (Heap.get?_push_size _ rfl))
 have g2:(f7 h o l2).get? (oK h o).objs.size=some _:=Heap.get?_push_of_some _ (Heap.get?_push_of_some _ (Heap.get?_push_of_some _ (Heap.get?_push_size _ rfl)))
 have g1:(f7 h o l2).get? h.objs.size=some _:=Heap.get?_push_of_some _ (Heap.get?_push_of_some _ (Heap.get?_push_of_some _ (Heap.get?_push_of_some _ hg)))
 rw [z2,z3,z4] at g5
 rw [z1,z2] at g3
 rw [z3] at g4
 rw [z1] at g2
 exact ⟨g5,g3,g4,g1,⟨_,g2,rfl,rfl⟩,λc q x=>Heap.get?_push_of_some _ (Heap.get?_push_of_some _ (Heap.get?_push_of_some _ (Heap.get?_push_of_some _ (Heap.get?_push_of_some _ x)))),z4⟩
end
end PySem
namespace L2
open PySem PySem.Spec PyProof.Rows
section
variable {X:Cx}{pins:List (Addr×Obj)}{σ:St}{H:Hp}{s:Shared}{h':Heap}
theorem Inv.KL {t':Nat}{fp:List Addr}{T:Addr}{ob:HO}(I:Inv X pins σ H s) (hf:∀b∈fp,iP X pins H b) (k:∀b o,b∉fp->s.heap.get? b=some o->h'.get? b=some o)
 (hT:s.heap.objs.size<=T) (new:cv X.prog X.w (upd H T ob) h' T ob):Inv X pins σ (upd H T ob) { s with heap:=h',toks:=t' }:=by
 have wR:∀b u,H b=some u->b∉fp:=λb u e z=>by rw [(hf b z).1] at e; cases e
 have kX:H T=none:=I.hok.fresh hT
 have neT:∀b u,H b=some u->b≠T:=λb u e z=>by rw [z,kX] at e; cases e
 have Ms:∀b o,s.heap.get? b=some o->b≠T:=λb o e=>Nat.ne_of_lt (Nat.lt_of_lt_of_le (Heap.lt_size e) hT)
 refine I.step (g':=s.gens) (d':=s.drawn) (ch:=fp) (λb hb=>⟨(hf b hb).2.2.2.1,(hf b hb).2.1,(hf b hb).2.2.2.2.1,(hf b hb).2.2.2.2.2⟩) (λb o _ _ hc e _=>k b o hc e) (λb o _ _ hc e _=>⟨o.slots,k b o hc e⟩)
  (λb o _ e n=>by rw [ag (Ms b o e)]; exact n) (λb o hc e=>⟨o,k b o hc e⟩) (λb ys e=>by rw [ag (neT b _ e)]; exact e) (λb o u e=>by rw [ag (neT b _ e)]; exact e)
  (λb ps e=>⟨#[],by rw [ag (neT b _ e),e]; simp⟩) (λm hm=>?_) (λb u e=>?_) I.bare
 . obtain ⟨o,es,ep,ho,r⟩:=hm
   exact ⟨o,es,ep,k _ o (λz=>(hf _ z).2.1 rfl) ho,r⟩
 . by_cases hb:b=T
   . subst hb
     rw [ae] at e
     cases e
     exact new
   . rw [ag hb] at e
     refine (I.hok b u e).pI (λc v hc q=>k c v ?_ q) (λc q=>by rw [ag (neT c _ q)]; exact q) λc ys q=>by rw [ag (neT c _ q)]; exact q
     rcases hc with z | z
     . rw [z]; exact wR b u e
     . exact wR c _ z
end
theorem EW:∀{ks:List Key}{ys:List V}{its:List Value},Vals ys its->KV (ks.zip ys) (ks.zip its)
 | [],_,_,_=>.nil
 | _::_,_,_,.nil=>.nil
 | k::ks,_,_,.cons h t=>.cons ⟨rfl,h⟩ (EW t)
section
variable {X:Cx}
def QH (K:W.Frag) (ta:TA):TE:=λσ H Q=>ta σ H λvs H1=>∃(a b:Addr) (ks:List Key) (ys:List V),vs=[.ref a,.ref b]/\(ak K H1 a (ks.map kV)\/∃kvs,Rd H1 a (.dK kvs)/\ks=kvs.map (·.1))/\aV K H1 b ys/\ks.length<=ys.length/\
 ∀d,H1 d=none->Q (.ref d) (upd H1 d (.dK (c8 [] (ks.zip ys))))
theorem KN {pins:List (Addr×Obj)}{σ:St}{H1:Hp}{s1:Shared}{a b:Addr}{ks:List Key}{ys:List V}{Q:VK}(hc:X.calm=true) (I1:Inv X pins σ H1 s1) (hk:ak X.K H1 a (ks.map kV)\/∃kvs,Rd H1 a (.dK kvs)/\ks=kvs.map (·.1)) (hb:aV X.K H1 b ys) (hl:ks.length<=ys.length)
 (q:∀d,H1 d=none->Q (.ref d) (upd H1 d (.dK (c8 [] (ks.zip ys))))) :
 wpAny (model X.prog X.w) X.A (call (.type "zip") [.ref a,.ref b]) (λv s2=>wpAny (model X.prog X.w) X.A (call (.type "dict") [v]) (EP X pins σ Q) X.xe s2) X.xe s1:=by
 obtain ⟨its,rv,⟨ot,et,ct,nt,dt⟩,hyz⟩:=I1.tuple hb
 have BE:s1.heap.IsTuple b its.toArray:=⟨ot,et,ct,nt,dt⟩
 have hlen:ys.length=its.length:=rv.length
 have rest:∀(o:Obj) (m1:List Addr) (P1:Nat->Value->Prop) (lU:Nat->Heap->Prop),(oK s1.heap o).get? s1.heap.objs.size=some o->(∀c∈m1,c<s1.heap.objs.size)->gE X.prog X.w s1.heap.objs.size m1 ks.length P1 lU->lU 0 (f7 s1.heap o b)->
  (∀(i:Nat) (x:Value) (k:Key),ks[i]?=some k->P1 i x->(aR X.prog X.w).is k x=true)->
  wpAny (model X.prog X.w) X.A (call (.type "dict") [.ref (s1.heap.objs.size+4)]) (EP X pins σ Q) X.xe { s1 with heap:=f7 s1.heap o b }:=by
  intro o m1 P1 lU hg RQ D1 h1 hP
  obtain ⟨g1,g2,g3,g4,g5,kk,g6⟩:=qQ s1.heap o b hg
  have nG:b<s1.heap.objs.size:=Heap.lt_size et
  have I2:Inv X pins σ H1 { s1 with heap:=f7 s1.heap o b }:=I1.kept (t':=s1.toks) kk
  have MR:∀c∈[s1.heap.objs.size+4,s1.heap.objs.size+2,s1.heap.objs.size+3,s1.heap.objs.size,s1.heap.objs.size+1],s1.heap.objs.size<=c:=λc cH=>by
   simp only [List.mem_cons,List.not_mem_nil,or_false] at cH
   rcases cH with rfl | rfl | rfl | rfl | rfl
   . exact Nat.le_add_right _ _
   . exact Nat.le_add_right _ _
   . exact Nat.le_add_right _ _
   . exact Nat.le_refl _
   . exact Nat.le_add_right _ _
  have out:∀c,c<s1.heap.objs.size->c∉[s1.heap.objs.size+4,s1.heap.objs.size+2,s1.heap.objs.size+3,s1.heap.objs.size,s1.heap.objs.size+1]:=λc cq hm=>Nat.lt_irrefl _ (Nat.lt_of_lt_of_le cq (MR c hm))
  have hsz:s1.heap.objs.size<=(f7 s1.heap o b).objs.size:=by rw [Heap.size_push,g6]; exact Nat.le_trans (Nat.le_add_right _ 4) (Nat.le_add_right _ 1)
  have D2:gE X.prog X.w (s1.heap.objs.size+1) [b] its.toArray.size (λi x=>its.toArray[i]?=some x) (λi h=>eI true h (s1.heap.objs.size+1) b i/\jv true h b its.toArray):=xk (λe=>by rw [e] at nG; exact absurd nG (Nat.not_lt.mpr (Nat.le_add_right _ _)))
  have l1:(ks.zip its).length=ks.length:=by rw [List.length_zip]; omega
  have l3:(ks.zip its).length<=sizeLine:=by rw [l1]; omega
  refine zi (knd:=aR X.prog X.w) (kvs:=ks.zip its) (A:=X.A) (I1.ok.hd hc) (by simp) (λc cH=>out c (RQ c cH)) (λc cH=>out c (by rw [List.mem_singleton.mp cH]; exact nG)) (λc cH=>Nat.lt_of_lt_of_le (RQ c cH) hsz) (λc cH=>Nat.lt_of_lt_of_le (by rw [List.mem_singleton.mp cH]; exact nG) hsz) D1 D2 l1 (by rw [List.size_toArray]; omega)
   (λi x y kv e p1 p2=>?_) l3 g1 g2 ⟨_,_,g3⟩ h1 ⟨g5,⟨ot,kk _ _ et,ct,nt,dt⟩⟩ λh' tk dd hkk=>?_
  . have hi:i<(ks.zip its).length:=(List.getElem?_eq_some_iff.mp e).1
    have e2:kv=(ks[i]'(by omega),its[i]'(by omega)):=by
     rw [List.getElem?_eq_getElem hi,List.getElem_zip] at e
     exact (Option.some.inj e).symm
    subst e2
    refine ⟨hP i x _ (List.getElem?_eq_getElem _) p1,?_⟩
    have p3:its[i]?=some y:=by simpa using p2
    rw [List.getElem?_eq_getElem (by omega)] at p3
    exact (Option.some.inj p3).symm
  . refine ⟨.ref (f7 s1.heap o b).objs.size,_,I2.KL (fp:=[s1.heap.objs.size+4,s1.heap.objs.size+2,s1.heap.objs.size+3,s1.heap.objs.size,s1.heap.objs.size+1]) (ob:=.dK (c8 [] (ks.zip ys))) (λc cH=>I1.om (MR c cH) (I1.hok.fresh (MR c cH))) (λc q' cH e=>hkk c q' cH e) (Nat.le_refl _) (lM ?_ (beq_eq_false_iff_ne.mpr (Ne.symm (Nat.ne_of_lt I2.big))) (KV.merge (EW rv) .nil) dd),rfl,q _ (I2.hok.fresh (Nat.le_refl _))⟩
    have:=gi (ks.zip ys) []
    rw [List.length_zip] at this
    simp at this
    omega
 rcases hk with hk | ⟨kvs,hk,rfl⟩
 . obtain ⟨zl,rj,pl,_⟩:=I1.list hk
   have cC:=pl.isList
   have pA:a<s1.heap.objs.size:=by obtain ⟨_,e,_⟩:=cC; exact Heap.lt_size e
   have hjl:ks.length=zl.length:=by have:=rj.length; rw [List.length_map] at this; exact this
   refine callType_new F.called_zip (by decide) (F.typeCall_zip_2 _ _) (F.newCall_zip_2 _ _) (λobj=>F.args_object_init_3 obj _ _) F.entry_zip_new (uL a b zl.toArray its.toArray) ⟨cC,BE,?_⟩
   have hg:(oK s1.heap (jR a)).get? s1.heap.objs.size=some (jR a):=Heap.get?_push_size _ rfl
   obtain ⟨g1,g2,g3,g4,g5,kk,g6⟩:=qQ s1.heap (jR a) b hg
   show _/\_
   rw [g6]
   have D1:gE X.prog X.w s1.heap.objs.size [a] zl.toArray.size (λi x=>zl.toArray[i]?=some x) (λi h=>eI false h s1.heap.objs.size a i/\jv false h a zl.toArray):=xk (Nat.ne_of_lt pA)
   have ez:zl.toArray.size=ks.length:=by rw [hjl]; exact List.size_toArray ..
   rw [ez] at D1
   obtain ⟨ol,el,rl⟩:=cC
   refine ⟨⟨_,g1,rfl⟩,rest (jR a) [a] _ _ hg (λc cH=>by rw [List.mem_singleton.mp cH]; exact pA) D1 ⟨⟨_,g4,rfl,rfl⟩,⟨ol,kk _ _ el,rl⟩⟩ λi x k e p=>?_⟩
   obtain ⟨u,hu,ru⟩:=rj.get (x:=kV k) (by rw [List.getElem?_map,e]; rfl)
   have p3:zl[i]?=some x:=by simpa using p
   rw [hu] at p3
   cases p3
   exact iL ru
 . obtain ⟨hz,hs,vs,rel,dd⟩:=gy I1.hok hk
   obtain ⟨ep,da⟩:=dd.dictAt
   have pA:=da.lt_size
   have hjl:kvs.length=vs.length:=rel.length
   refine callType_newIn F.called_zip (by decide) (F.typeCall_zip_2 _ _) (F.newCall_zip_2 _ _) (λobj=>F.args_object_init_3 obj _ _) F.entry_zip_new (Dh (aR X.prog X.w) a b vs ep its.toArray hs) ⟨da,BE,?_⟩
   have hg:(oK s1.heap (qP a vs.length ep)).get? s1.heap.objs.size=some (qP a vs.length ep):=Heap.get?_push_size _ rfl
   obtain ⟨g1,g2,g3,g4,g5,kk,g6⟩:=qQ s1.heap (qP a vs.length ep) b hg
   show _/\_
   rw [g6]
   have D1:gE X.prog X.w s1.heap.objs.size [a] vs.length (λi x=>∃kv,vs[i]?=some kv/\(aR X.prog X.w).is kv.1 x=true) (λi h=>h.IsKeyIter s1.heap.objs.size a i vs.length ep/\h.DictAt (aR X.prog X.w) a vs ep):=Dc (Nat.ne_of_lt pA)
   have D1':gE X.prog X.w s1.heap.objs.size [a] (kvs.map (·.1)).length (λi x=>∃kv,vs[i]?=some kv/\(aR X.prog X.w).is kv.1 x=true) (λi h=>h.IsKeyIter s1.heap.objs.size a i vs.length ep/\h.DictAt (aR X.prog X.w) a vs ep):=by rw [List.length_map,hjl]; exact D1
   refine ⟨⟨_,g1,rfl⟩,rest (qP a vs.length ep) [a] _ _ hg (λc cH=>by rw [List.mem_singleton.mp cH]; exact pA) D1' ⟨⟨_,g4,rfl,rfl⟩,da.keep kk⟩ λi x k e p=>?_⟩
   obtain ⟨kv,e1,e2⟩:=p
   rw [List.getElem?_map] at e
   cases e3:kvs[i]? with
   | none=>rw [e3] at e; cases e
   | some p'=>
    rw [e3] at e
    have hq:=(gr rel e3 e1).1
    have j0:k=p'.1:=(Option.some.inj e).symm
    rw [j0,hq]
    exact e2
theorem BF {a b:Expr}{ta:TA}{p1 p2 pos zm:Pos}(hgD:Gl X "dict") (hmD:X.mg "dict" = none) (hgZ:Gl X "zip") (hmZ:X.mg "zip" = none) (hc:X.calm=true) (ha:PA X [a,b] ta)
 (hs:starEach [Expr.Call (.Name "zip" p2) [a,b] [] zm] X.env=(false,eval (Expr.Call (.Name "zip" p2) [a,b] [] zm) X.env)::starEach [] X.env:=by rfl) (mm:(backTo pos (starEach [] X.env)).any (·.1)=false:=by rfl)
 (jY:starEach [a,b] X.env=(false,eval a X.env)::starEach [b] X.env:=by rfl) (cx:(backTo zm (starEach [b] X.env)).any (·.1)=false:=by rfl) :
 PE X (.Call (.Name "dict" p1) [.Call (.Name "zip" p2) [a,b] [] zm] [] pos) (QH X.K ta):=by
 intro pins s σ H Q I h
 refine wpAny_Call_Name_kw (iC I hgD hmD PyProof.Rows.boot_dict ?_ (by decide) (by decide))
 refine PyProof.Rows.callWith_type1 ?_ hs mm
 rw [hs]
 show wpAny _ _ (spliced ((false,eval _ X.env)::backTo pos (starEach [] X.env))) _ _ s
 refine Calls.spliced_cons ?_
 refine Call_ (iC I hgZ hmZ boot_zip (PyProof.Rows.callWith_type1 (aP (ha zm pins s σ H _ I h) λus s1 ⟨vs,H1,I1,r1,q1⟩=>?_) jY cx))
 obtain ⟨l,m,ks,ys,e,hk,hb,hl,q⟩:=q1
 subst e
 obtain ⟨u,v,rfl,ru,rv⟩:=vals2 r1
 cases (show u=Value.ref l from ru)
 cases (show v=Value.ref m from rv)
 exact aP (KN hc I1 hk hb hl q) λv s2 hv=>Calls.spliced_nil hv
end
end L2
namespace L2
open PySem PySem.Spec PyProof.Rows
section
variable {X:Cx}
def QI (K:W.Frag) (ta:TA):TI:=λσ H R=>ta σ H λvs H1=>∃a b,vs=[.ref a,.ref b]/\(∃xs,ak K H1 a xs)/\(∃ys,aV K H1 b ys)/\R (Itm K false true a b) H1
theorem qR {es:List Expr}{kk:Nat}{pp:Pos}{a b:Expr}{ta:TA}{p pos:Pos}(hg:Gl X "zip") (hm:X.mg "zip" = none) (ha:PA X [a,b] ta) (hs:starEach [a,b] X.env=(false,eval a X.env)::starEach [b] X.env:=by rfl) (hp:(backTo pos (starEach [b] X.env)).any (·.1)=false:=by rfl) :
 PI X (.Tuple es kk pp) (.Call (.Name "zip" p) [a,b] [] pos) (QI X.K ta):=by
 intro pins s σ H R I h
 refine Call_ (iC I hg hm boot_zip (PyProof.Rows.callWith_type1 (aP (ha pos pins s σ H _ I h) λus s1 ⟨vs,H1,I1,r1,q1⟩=>?_) hs hp))
 obtain ⟨l,m,e,⟨xs,hx⟩,⟨ys,hy⟩,q⟩:=q1
 subst e
 obtain ⟨u,v,rfl,ru,rv⟩:=vals2 r1
 cases (show u=Value.ref l from ru)
 cases (show v=Value.ref m from rv)
 obtain ⟨its,_,p1,_⟩:=I1.zk (tp:=false) hx
 obtain ⟨its',_,p2,_⟩:=I1.zk (tp:=true) hy
 refine callType_new F.called_zip (by decide) (F.typeCall_zip_2 _ _) (F.newCall_zip_2 _ _) (λobj=>F.args_object_init_3 obj _ _) F.entry_zip_new (uL l m its.toArray its'.toArray) ⟨p1,p2,?_⟩
 have ED:(oK s1.heap (jR l)).get? s1.heap.objs.size=some (jR l):=Heap.get?_push_size _ rfl
 obtain ⟨a1,a2,a3,a4,a5,kk',g6⟩:=qQ s1.heap (jR l) m ED
 show _/\_
 rw [g6]
 refine ⟨⟨_,a1,rfl⟩,?_⟩
 refine wpAny_pyIter_zip a1 ?_
 have I2:Inv X pins σ H1 { s1 with heap:=f7 s1.heap (jR l) m }:=I1.kept (t':=s1.toks) kk'
 refine ⟨_,_,_,_,H1,rfl,I2,vN (tp:=false) (tq:=true) (a:=l) (b:=m) (z:=s1.heap.objs.size+4) (TI:=s1.heap.objs.size+2) (TO:=s1.heap.objs.size+3) (i1:=s1.heap.objs.size) (i2:=s1.heap.objs.size+1) ?_,⟨a1,a2,⟨_,_,a3⟩,⟨_,a4,rfl,rfl⟩,a5⟩,λb hb=>?_,q⟩
 . simp
 . have ee:s1.heap.objs.size<=b:=by
    simp only [List.mem_cons,List.not_mem_nil,or_false] at hb
    rcases hb with rfl | rfl | rfl | rfl | rfl
    . exact Nat.le_add_right _ _
    . exact Nat.le_add_right _ _
    . exact Nat.le_add_right _ _
    . exact Nat.le_refl _
    . exact Nat.le_add_right _ _
   exact I1.om ee (I1.hok.fresh ee)
theorem BG {K:W.Frag}{tp tq:Bool}{a b:Addr}{xs ys:List V}{g:TG}{tb:TS}{D:Ends}{σ:St}{H:Hp}(hxy:xs.length<=ys.length) (Pv:Nat->St->Hp->Prop) (h0:Pv 0 σ H) (hl:∀i σ H,i<=xs.length->Pv i σ H->ZK K tp H a xs/\ZK K tq H b ys)
 (hs:∀i x y T σ H,xs[i]?=some x->ys[i]?=some y->H T=none->Pv i σ H->g (.ref T) σ (upd H T (.tup [x,y])) λiQ H2=>tb { D with nx:=Pv (i+1),ct:=Pv (i+1),bk:=D.nx } iQ H2) (hd:∀σ H,Pv xs.length σ H->D.nx σ H) :
 ∃W:Nat->Nat->St->Hp->Prop,(∃m,W 0 m σ H)/\∀i m σ H,W i m σ H->
  ((Itm K tp tq a b).stop i H/\D.nx σ H)\/((Itm K tp tq a b).go i H/\∃N:St->Hp->Prop,(∀bu H',N bu H'->∃m',m'<m/\W (i+1) m' bu H')/\∀x H',(Itm K tp tq a b).yld i H x H'->g x σ H' λiQ H2=>tb { D with nx:=N,ct:=N,bk:=D.nx } iQ H2):=by
 refine ⟨λi m σ H=>m=xs.length-i/\i<=xs.length/\Pv i σ H,⟨xs.length,by simp,Nat.zero_le _,h0⟩,?_⟩
 rintro i m σ H ⟨rfl,hi,p⟩
 obtain ⟨q1,q2⟩:=hl i σ H hi p
 by_cases cq:i<xs.length
 . refine .inr ⟨⟨xs,ys,xs[i],ys[i]'(by omega),q1,q2,List.getElem?_eq_getElem cq,List.getElem?_eq_getElem (by omega)⟩,Pv (i+1),λbu H' p'=>⟨xs.length-(i+1),by omega,rfl,cq,p'⟩,λx H' y=>?_⟩
   obtain ⟨T,v,u,rfl,hT,rfl,hv,hu⟩:=y
   exact hs i v u T σ H (hv xs q1) (hu ys q2) hT p
 . refine .inl ⟨⟨xs,q1,by omega⟩,?_⟩
   obtain rfl:i=xs.length:=by omega
   exact hd σ H p
def KO:V->List V->Hp->VK->Prop:=λx vs H Q=>∃d e kvs more,x=.ref d/\vs=[.ref e]/\H d=some (.dK kvs)/\Rd H e (.dK more)/\d≠e/\kvs.length+more.length<=sizeLine/\Q .aZ (upd H d (.dK (c8 kvs more)))
theorem EX:wH X "dict.update" KO:=by
 intro pins s σ H x vs v us Q I rx rv h
 obtain ⟨d,e,kvs,more,rfl,rfl,hd,he,dh,hsz,q⟩:=h
 cases (show v=Value.ref d from rx)
 obtain ⟨u,rfl,ru⟩:=rv.one
 cases (show u=Value.ref e from ru)
 obtain ⟨z1,n1,vs1,MS,RR⟩:=yk I.hok hd
 obtain ⟨z2,n2,vs2,MU,Br⟩:=gy I.hok he
 have e1:=MS.length
 have e2:=MU.length
 refine call_meetsIn PySem.F.slot_dict_update RR.typeIs PySem.F.entry_dict_update (PySem.F.args_dict_update_2 _ _) (meets_dict_update (aR X.prog X.w) d e dh n2) ⟨vs1,vs2,RR,Br,by omega,λh' o7 _ hs=>?_⟩
 have MV:∃q,h'.get? d=some q:=let ⟨q,_,_,hq,_⟩:=o7; ⟨q,hq⟩
 refine ⟨.aZ,_,qI I (by rw [hd]; trivial) hs MV (lM ?_ n1 (KV.merge MU MS) o7),rfl,q⟩
 have:=gi more kvs
 omega
def MW (td:TE):TI:=λσ H R=>td σ H λx H1=>∃d o kvs,x=.ref d/\H1 d=some (.fO o (.dK kvs))/\R (RK d o kvs) H1
theorem Hl {tg l:Expr}{tl:TE}(hl:PE X l tl):PI X tg l (MW tl):=by
 intro pins s σ H R I h
 refine aP (hl pins s σ H _ I h) λv s1 ⟨x,H1,I1,r1,q1⟩=>?_
 obtain ⟨d,o,kvs,e,hd,q⟩:=q1
 subst e
 cases (show v=Value.ref d from r1)
 obtain ⟨MX,_⟩:=(show cv X.prog X.w H1 s1.heap d (.fO o (.dK kvs)) from I1.hok d _ hd)
 obtain ⟨z,hm,vs,rel,dd⟩:=gy I1.hok (.inr ⟨o,hd⟩)
 obtain ⟨o',es,ep,ho,r⟩:=id dd
 rw [MX] at ho
 cases ho
 have hlen:kvs.length=vs.length:=rel.length
 refine wpAny_pyIter_dict (knd:=aR X.prog X.w) (ep:=ep) hm ⟨o,es,MX,r⟩ ?_
 have cq:d<s1.heap.objs.size:=Heap.lt_size MX
 refine ⟨s1.heap.objs.size,[s1.heap.objs.size],_,_,H1,rfl,I1.kept (t':=s1.toks) λb o e=>Heap.get?_push_of_some _ e,EJ (es:=es) (ep:=ep) (o:=o) (kvs:=kvs) r.2.1 (Nat.ne_of_lt cq),?_,?_,q⟩
 . exact ⟨_,Heap.get?_push_size _ rfl,rfl,by rw [hlen]; rfl⟩
 . intro b hb
   have e:b=s1.heap.objs.size:=by simpa using hb
   subst e
   exact I1.om (Nat.le_refl _) (I1.hok.fresh (Nat.le_refl _))
theorem zo:fX X (.type "int") (λxs H Q=>∃z n,xs=[.str z]/\PySem.intText? z=some n/\z.length<=640/\Q (.int n) H):=by
 intro pins s σ H xs us Q I r h
 obtain ⟨z,n,rfl,hn,hl,q⟩:=h
 obtain ⟨u,rfl,t,rfl⟩:=vals1 r
 exact W.KIN.call_text hn hl ⟨.int n,H,I.tok _,⟨_,rfl⟩,q⟩
end
end L2
namespace L2
open PySem PySem.Spec PyProof.Rows
section
variable {X:Cx}
def U0 (K:W.Frag):R2:=λx y H Q=>∃(p p':Addr) (ts:List Addr),x=.ref p/\y=.ref p'/\ak K H p (ts.map V.ref)/\ak K H p' (ts.map V.ref)/\Q (.bl false) H
theorem MY (hu:X.A.units+1<cLine):dH X (compareOp .NotEq) (U0 X.K):=by
 intro pins s σ H x y v u Q I rx ry h
 obtain ⟨p,p',ts,rfl,rfl,h1,h2,q⟩:=h
 cases (show v=Value.ref p from rx)
 cases (show u=Value.ref p' from ry)
 obtain ⟨its,rv,pl,hz⟩:=I.list h1
 obtain ⟨its',qf,uM,ny⟩:=I.list h2
 have l1:=rv.length
 have l2:=qf.length
 have key:=SeqAt.RcNeAt.lists (A:=X.A) (s:=s) (e:=λ_=>true) pl.isList uM.isList (by simp only [List.size_toArray]; omega) (by omega) (λj g1 g2=>?_) X.prog X.w X.xe
 . exact key _ (by
    have e:(!(List.range its.toArray.size).all λ_=>true)=false:=by simp
    rw [e]
    exact ⟨.bl false,H,I,rfl,q⟩)
 . have hj:j<ts.length:=by simp only [List.size_toArray,List.length_map] at g1 l1; omega
   have hx:(ts.map V.ref)[j]?=some (.ref ts[j]):=by rw [List.getElem?_map,List.getElem?_eq_getElem hj]; rfl
   obtain ⟨w1,e1,r1⟩:=rv.get hx
   obtain ⟨w2,e2,r2⟩:=qf.get hx
   have a1:its.toArray[j]=w1:=by
    have:=(List.getElem?_eq_some_iff.mp e1).2
    simpa using this
   have a2:its'.toArray[j]=w2:=by
    have:=(List.getElem?_eq_some_iff.mp e2).2
    simpa using this
   rw [a1,a2,show w1=Value.ref ts[j] from r1,show w2=Value.ref ts[j] from r2]
   exact SeqAt.EqAt.same _
def U1 (t:TE):TE:=λσ H Q=>t σ H λv H1=>∃d kvs,H1 d=some (.dK kvs)/\∀o,Q v (upd H1 d (.fO o (.dK kvs)))
theorem MZ {e:Expr}{t:TE}(h:PE X e t):PE X e (U1 t):=by
 intro pins s σ H Q I hq
 refine aP (h pins s σ H _ I hq) λv s1 ⟨x,H1,I1,r1,d,kvs,hd,q⟩=>?_
 obtain ⟨o,_,I2⟩:=I1.freeze hd
 exact ⟨x,_,I2,r1,q o⟩
def QJ (K:W.Frag) (ta:TA):TI:=λσ H R=>ta σ H λvs H1=>∃a b,vs=[.ref a,.ref b]/\(∃xs,ak K H1 a xs)/\(∃ys,ak K H1 b ys)/\R (Itm K false false a b) H1
theorem KP {es:List Expr}{kk:Nat}{pp:Pos}{a b:Expr}{ta:TA}{p pos:Pos}(hg:Gl X "zip") (hm:X.mg "zip" = none) (ha:PA X [a,b] ta) (hs:starEach [a,b] X.env=(false,eval a X.env)::starEach [b] X.env:=by rfl) (hp:(backTo pos (starEach [b] X.env)).any (·.1)=false:=by rfl) :
 PI X (.Tuple es kk pp) (.Call (.Name "zip" p) [a,b] [] pos) (QJ X.K ta):=by
 intro pins s σ H R I h
 refine Call_ (iC I hg hm boot_zip (PyProof.Rows.callWith_type1 (aP (ha pos pins s σ H _ I h) λus s1 zq=>?_) hs hp))
 obtain ⟨vs,H1,I1,r1,l,m,e,⟨xs,hx⟩,⟨ys,hy⟩,q⟩:=zq
 subst e
 obtain ⟨u,v,rfl,ru,rv⟩:=vals2 r1
 cases (show u=Value.ref l from ru)
 cases (show v=Value.ref m from rv)
 obtain ⟨its,_,p1,_⟩:=I1.zk (tp:=false) hx
 obtain ⟨its',_,p2,_⟩:=I1.zk (tp:=false) hy
 refine KC p1 p2 λh' a1 a2 a3 a4 a5 kk=>?_
 refine wpAny_pyIter_zip a1 ?_
 have I2:Inv X pins σ H1 { s1 with heap:=h' }:=I1.kept (t':=s1.toks) kk
 refine ⟨_,_,_,_,H1,rfl,I2,vN (tp:=false) (tq:=false) (a:=l) (b:=m) (z:=s1.heap.objs.size+4) (TI:=s1.heap.objs.size+2) (TO:=s1.heap.objs.size+3) (i1:=s1.heap.objs.size) (i2:=s1.heap.objs.size+1) ?_,⟨a1,a2,⟨_,_,a3⟩,a4,a5⟩,λb hb=>?_,q⟩
 . simp
 . have ee:s1.heap.objs.size<=b:=by
    simp only [List.mem_cons,List.not_mem_nil,or_false] at hb
    rcases hb with rfl | rfl | rfl | rfl | rfl
    . exact Nat.le_add_right _ _
    . exact Nat.le_add_right _ _
    . exact Nat.le_add_right _ _
    . exact Nat.le_refl _
    . exact Nat.le_add_right _ _
   exact I1.om ee (I1.hok.fresh ee)
end
end L2
namespace L2
open PySem PySem.Spec PyProof.Rows
section
variable {X:Cx}
theorem BH {P:Program}{w:World} : ∀{kvs:List (Key×V)}{vs:List (Key×Value)}{us:List Value},KV kvs vs->us.length=vs.length->(∀(j:Nat) v,us[j]?=some v->∃k,vs[j]?=some (k,v))->Vals (kvs.map λkv=>kv.2) us
 | _,_,us,.nil,hl,_=>by
  have:us=[]:=List.length_eq_zero_iff.mp hl
  subst this
  exact .nil
 | _,_,[],.cons _ _,hl,_=>by simp at hl
 | _,_,u::us,.cons (a:=a) (b:=b) MJ t,hl,hu=>by
  obtain ⟨k,e⟩:=hu 0 u rfl
  simp at e
  refine .cons (by rw [show u=b.2 by rw [e]]; exact MJ.2) (BH (P:=P) (w:=w) t (by simpa using hl) λj v hj=>?_)
  obtain ⟨k',e'⟩:=hu (j+1) v (by simpa using hj)
  exact ⟨k',by simpa using e'⟩
def M0 (to:TE):TE:=λσ H Q=>to σ H λx H1=>∃d kvs,x=.ref d/\Rd H1 d (.dK kvs)/\∀l,H1 l=none->Q (.ref l) (upd H1 l (.lst (kvs.map λkv=>kv.2)))
theorem Hm {o:Expr}{to:TE}{p1 apos dg pos:Pos}(hc:X.calm=true) (hgL:Gl X "list") (hmL:X.mg "list" = none) (ho:PE X o to)
 (hs:starEach [Expr.Call (.Attribute o "values" apos) [] [] dg] X.env=(false,eval (Expr.Call (.Attribute o "values" apos) [] [] dg) X.env)::starEach [] X.env:=by rfl) (mm:(backTo pos (starEach [] X.env)).any (·.1)=false:=by rfl)
 (ux:attributeBase o "values" X.env (eval o X.env)=eval o X.env:=by rfl) (uy:(apos.endLine == dg.line)=true:=by rfl) :
 PE X (.Call (.Name "list" p1) [.Call (.Attribute o "values" apos) [] [] dg] [] pos) (M0 to):=by
 intro pins s σ H Q I h
 refine wpAny_Call_Name_kw (iC I hgL hmL PyProof.Rows.boot_list ?_ (by decide) (by decide))
 refine PyProof.Rows.callWith_type1 ?_ hs mm
 rw [hs]
 show wpAny _ _ (spliced ((false,eval _ X.env)::backTo pos (starEach [] X.env))) _ _ s
 refine Calls.spliced_cons ?_
 refine wpAny_Call_method0_late ux uy (aP (ho pins s σ H _ I h) λv s1 ⟨x,H1,I1,r1,q1⟩=>?_)
 obtain ⟨d,kvs,rfl,hd,q⟩:=q1
 cases (show v=Value.ref d from r1)
 obtain ⟨z,hs0,vs,rel,dd⟩:=gy I1.hok hd
 obtain ⟨ep,da⟩:=id dd.dictAt
 have hlen:kvs.length=vs.length:=rel.length
 refine ⟨"dict", "dict.values",PySem.F.plainAttrs_dict,PySem.F.slot_dict_values,PySem.F.type_dict_values,dd.typeIs,λa e=>?_,Calls.callWith_builtin rfl (PySem.evalArgs_none ?_)⟩
 . cases e
   obtain ⟨o',es,jf,ex,_⟩:=da
   exact ⟨o',jf,ex.2.1⟩
 refine call_meetsIn PySem.F.slot_dict_values dd.typeIs PySem.F.entry_dict_values (PySem.F.args_dict_values_1 _) (meets_dict_values (aR X.prog X.w) d hs0) ⟨⟨vs,dd⟩,?_⟩
 refine Calls.spliced_nil ?_
 have I2:Inv X pins σ H1 { s1 with heap:=s1.heap.push { cls:=.type "dict_values",data:=.fields #[.ref d] } }:=I1.kept (t':=s1.toks) λb u e=>Heap.get?_push_of_some _ e
 refine W.kdl_call (W.kdl_values (knd:=aR X.prog X.w) (d:=d) (ep:=ep) (kvs:=vs)) (I1.ok.hd hc) ⟨⟨_,Heap.get?_push_size _ rfl,rfl,rfl⟩,da.push _⟩ (by omega) λh' tk M3 c' kk e it=>?_
 obtain ⟨i1,i2⟩:=it
 have rv:Vals (kvs.map λkv=>kv.2) M3.toList:=BH (P:=X.prog) (w:=X.w) rel (by rw [Array.length_toList,i1]) λj v hj=>i2 j v (by rw [← Array.getElem?_toList]; exact hj)
 exact ⟨.ref _,_,I2.laid (t':=tk) kk (Nat.le_refl _) (show cv X.prog X.w _ h' _ (.lst (kvs.map λkv=>kv.2)) from ⟨by rw [List.length_map]; exact z,M3.toList,c',rv,by simpa using e⟩),rfl,q _ (I2.hok.fresh (Nat.le_refl _))⟩
theorem M4 (bs:List Bool):((List.range bs.length).all λi=>(bs[i]?).getD false)=bs.all _root_.id:=by
 rw [Bool.eq_iff_iff,List.all_eq_true,List.all_eq_true]
 constructor
 . intro h b hb
   obtain ⟨i,hi,e⟩:=List.getElem_of_mem hb
   have:=h i (List.mem_range.mpr hi)
   rw [List.getElem?_eq_getElem hi,e] at this
   exact this
 . intro h i hi
   have pf:=List.mem_range.mp hi
   rw [List.getElem?_eq_getElem pf]
   exact h _ (List.getElem_mem pf)
theorem jD (hc:X.calm=true):fX X (.builtin "all") (λxs H Q=>∃(p:Addr) (bs:List Bool),xs=[.ref p]/\ak X.K H p (bs.map V.bl)/\Q (.bl (bs.all _root_.id)) H):=by
 intro pins s σ H xs us Q I r h
 obtain ⟨p,bs,rfl,hp,q⟩:=h
 obtain ⟨u,rfl,rx⟩:=vals1 r
 cases (show u=Value.ref p from rx)
 obtain ⟨its,rv,pl,hz⟩:=I.list hp
 have hl:=pl.isList
 have hlen:bs.length=its.length:=by
  have:=rv.length
  rw [List.length_map] at this
  exact this
 have cq:p<s.heap.objs.size:=by obtain ⟨_,e,_⟩:=hl; exact Heap.lt_size e
 refine call_all_walk (wpAny_pyIter_list hl ?_)
 refine ⟨s.heap.objs.size,[s.heap.objs.size,p],[s.heap.objs.size],its.toArray.size,_,_,λi=>(bs[i]?).getD false,rfl,Walks.list (A:=X.A.in1) (by show X.A.in1.handled=none; exact I.ok.hd hc) _ p (Nat.ne_of_lt cq) its.toArray,
  ⟨⟨_,Heap.get?_push_size _ rfl,rfl,rfl⟩,hl.push _⟩,λi v s' Q' E' hP hQ=>?_,λh' tk hk=>?_⟩
 . have hi:its[i]?=some v:=by simpa using hP
   have qa:i<bs.length:=by
    have:=(List.getElem?_eq_some_iff.mp hi).1
    omega
   obtain ⟨w',e1,e2⟩:=rv.get (x:=.bl bs[i]) (by rw [List.getElem?_map,List.getElem?_eq_getElem qa]; rfl)
   rw [hi] at e1
   cases e1
   cases (show v=Value.bool bs[i] from e2)
   simp only [List.getElem?_eq_getElem qa,Option.getD_some] at hQ
   exact wpAny_truthy_bool hQ
 . have e:((List.range its.toArray.size).all λi=>(bs[i]?).getD false)=bs.all _root_.id:=by
    rw [List.size_toArray,← hlen]
    exact M4 bs
   rw [e]
   exact ⟨.bl _,H,I.kept (t':=tk) (λb o eb=>hk b o (λhm=>by rw [List.mem_singleton.mp hm] at eb; exact Nat.lt_irrefl _ (Heap.lt_size eb)) (Heap.get?_push_of_some _ eb)),rfl,q⟩
end
end L2
namespace L2
open PySem PySem.Spec PyProof.Rows
def rev:Nat->Nat->Nat
 | 0,_=>0
 | k+1,i=>(i % 2)*2 ^ k+rev k (i / 2)
def cB (k i j:Nat):Bool:=Nat.blt (rev k i) (rev k j)
def place (c:Nat->Nat->Bool) (p:Array Nat) (lo k:Nat):Nat->Nat->Nat->Nat
 | 0,l,_=>l
 | f+1,l,r=>if l≥r then l else if c (p.getD (lo+k) 0) (p.getD (lo+(l+r) / 2) 0)=true then place c p lo k f l ((l+r) / 2) else place c p lo k f ((l+r) / 2+1) r
def cI (c:Nat->Nat->Bool) (lo:Nat):Nat->Nat->Array Nat->Array Nat
 | 0,_,p=>p
 | f+1,k,p=>cI c lo f (k+1) (bubble p (lo+k) (lo+k-(lo+place c p lo k k 0 k)))
theorem xm {α β:Type}(f:α->β) (u v:Nat->Nat):∀(l:List Nat) (xs:Array α),l.foldl (λa k=>a.swapIfInBounds (u k) (v k)) (xs.map f)=(l.foldl (λa k=>a.swapIfInBounds (u k) (v k)) xs).map f
 | [],_=>rfl
 | k::l,xs=>by
  rw [List.foldl_cons,List.foldl_cons,W.kas_swap_map]
  exact xm f u v l _
section
variable {prog:Program}{w:World}{A:Around}{E:Value->Shared->Prop}{s:Shared}{κ:SortKind}{it:Nat->Keyed}{N:Nat}{c:Nat->Nat->Bool}{p:Array Nat}{pd:Array (Nat×Nat×Nat)}
def iz (prog:Program) (w:World) (A:Around) (s:Shared) (κ:SortKind) (it:Nat->Keyed) (N:Nat) (c:Nat->Nat->Bool):Prop:=
 ∀i j,i<N->j<N->∀(E:Value->Shared->Prop) (Q:Bool->Shared->Prop),Q (c i j) s->wpAny (model prog w) A (keyLt' κ (it i).1 (it j).1) Q E s
def ck (κ:SortKind) (it:Nat->Keyed) (p:Array Nat) (pd:Array (Nat×Nat×Nat)):SortSt:=SortSt.mk' κ (p.map it) pd 7 none
def jk (N:Nat) (p:Array Nat):Prop:=∀i,i<p.size->p.getD i 0<N
theorem vR (C:iz prog w A s κ it N c){st:SortSt}{i j:Nat}{Q:Option Bool->SortSt->Prop}(hk:kindOf st=κ) (hi:i<N) (hj:j<N) (h:Q (some (c i j)) st):wpS (model prog w) A E s (lt' (it i) (it j)) Q st:=by
 rw [lt'_eq]
 refine wpS_bind (wpS_get ?_)
 rw [hk]
 refine wpS_bind (wpS_lift (wpAny_attempt (C i j hi hj _ _ ⟨rfl,?_⟩)))
 exact wpS_pure h
theorem fu {st:SortSt}{i:Nat}{Q:Keyed->SortSt->Prop}(hi:i<p.size) (h:Q (it (p.getD i 0)) st):wpS (model prog w) A E s (elem' (p.map it) i) Q st:=by
 rw [elem'_eq]
 have e:(p.map it)[i]?=some (it (p.getD i 0)):=by simp [Array.getD,hi]
 rw [e]
 exact wpS_pure h
theorem zp (C:iz prog w A s κ it N c){i j:Nat}{Q:Option Bool->SortSt->Prop}(B:jk N p) (hi:i<p.size) (hj:j<p.size) (h:Q (some (c (p.getD i 0) (p.getD j 0))) (ck κ it p pd)):wpS (model prog w) A E s (ltAt' i j) Q (ck κ it p pd):=by
 rw [ltAt'_eq]
 refine wpS_bind (wpS_get (wpS_bind (fu hi (wpS_bind (fu hj ?_)))))
 exact vR C rfl (B i hi) (B j hj) h
theorem M5 {k l:Nat}{Q:Unit->SortSt->Prop}(h:Q () (ck κ it (bubble p k (k-l)) pd)):wpS (model prog w) A E s (moveDown' k l) Q (ck κ it p pd):=by
 rw [moveDown'_eq]
 refine wpS_modify ?_
 have e:bubble (p.map it) k (k-l)=(bubble p k (k-l)).map it:=xm it (λi=>k-i) (λi=>k-i-1) _ p
 show Q () (SortSt.mk' κ (bubble (p.map it) k (k-l)) pd 7 none)
 rw [e]
 exact h
theorem jk.perm {q:Array Nat}(B:jk N p) (h:q.Perm p):jk N q:=λi hi=>by
 have hs:q.size=p.size:=h.size_eq
 have hm:q.getD i 0∈p:=h.mem_iff.mp (by
  have:q.getD i 0=q[i]:=by simp [Array.getD,hi]
  rw [this]
  exact Array.getElem_mem hi)
 obtain ⟨j,hj,e⟩:=Array.mem_iff_getElem.mp hm
 rw [← e]
 have:p.getD j 0=p[j]:=by simp [Array.getD,hj]
 rw [← this]
 exact B j hj
theorem Di (C:iz prog w A s κ it N c){lo n ok:Nat}{Q:Bool->SortSt->Prop}(B:jk N p) (hz:lo+n<=p.size) (hok:1<=ok) (hn:ok<=n) (h:Q true (ck κ it (cI c lo (n-ok) ok p) pd)):wpS (model prog w) A E s (binarySort' lo n ok) Q (ck κ it p pd):=by
 rw [binarySort'_eq]
 have hm:max ok 1=ok:=by omega
 rw [hm]
 refine wpS_bind (wpS_mono (wpS_forRange (I:=λk d a7=>d=(none,())/\∃q:Array Nat,a7=ck κ it q pd/\q.Perm p/\cI c lo (n-k) k q=cI c lo (n-ok) ok p)
  (Q:=λd a7=>d=(none,())/\a7=ck κ it (cI c lo (n-ok) ok p) pd) ?step ?fin ⟨rfl,p,rfl,Array.Perm.refl _,rfl⟩) ?post)
 case post=>
  rintro d a7 ⟨rfl,rfl⟩
  exact wpS_pure h
 case fin=>
  rintro d a7 ⟨rfl,q,rfl,_,e⟩
  refine ⟨rfl,?_⟩
  rw [show n-max ok n=0 by omega] at e
  rw [← e]
  rfl
 case step=>
  rintro k d a7 hk xo ⟨rfl,q,rfl,hq,e⟩
  have hs:q.size=p.size:=hq.size_eq
  have Bq:=B.perm hq
  refine wpS_bind (wpS_mono (wpS_forRange (I:=λx d bx=>bx=ck κ it q pd/\∃l r,d=(none,l,r)/\l<=r/\r<=k/\place c q lo k (k-x) l r=place c q lo k k 0 k)
   (Q:=λd bx=>bx=ck κ it q pd/\∃l r,d=(none,l,r)/\l=place c q lo k k 0 k) ?istep ?ifin ⟨rfl,0,k,rfl,by omega,by omega,rfl⟩) ?ipost)
  case ifin=>
   rintro d bx ⟨rfl,l,r,rfl,h1,h2,e2⟩
   refine ⟨rfl,l,r,rfl,?_⟩
   rw [show k-max 0 k=0 by omega] at e2
   exact e2
  case istep=>
   rintro x d bx _ hx ⟨rfl,l,r,rfl,h1,h2,e2⟩
   obtain ⟨f,hf⟩:∃f,k-x=f+1:=⟨k-x-1,by omega⟩
   have RS:k-(x+1)=f:=by omega
   rw [hf,place] at e2
   dsimp only
   by_cases IU:l≥r
   . rw [if_pos IU] at e2 ⊢
     exact wpS_pure ⟨rfl,l,r,rfl,e2⟩
   . rw [if_neg IU] at e2 ⊢
     refine wpS_bind (zp C Bq (by omega) (by omega) ?_)
     dsimp only
     cases hc:c (q.getD (lo+k) 0) (q.getD (lo+(l+r) / 2) 0) with
     | true=>
      rw [hc,if_pos rfl] at e2
      rw [if_pos rfl]
      exact wpS_pure ⟨rfl,l,(l+r) / 2,rfl,by omega,by omega,by rw [RS]; exact e2⟩
     | false=>
      rw [hc,if_neg (by decide)] at e2
      rw [if_neg (by decide)]
      exact wpS_pure ⟨rfl,(l+r) / 2+1,r,rfl,by omega,by omega,by rw [RS]; exact e2⟩
  case ipost=>
   rintro d bx ⟨rfl,l,r,rfl,e2⟩
   refine wpS_bind (M5 (wpS_pure ⟨rfl,_,rfl,(bubble_perm _ _ _).trans hq,?_⟩))
   obtain ⟨f,hf⟩:∃f,n-k=f+1:=⟨n-k-1,by omega⟩
   rw [hf,cI,← e2] at e
   rw [show n-(k+1)=f by omega]
   exact e
theorem sV (C:iz prog w A s κ it N c){lo n:Nat}{Q:Option Nat->SortSt->Prop}(B:jk N p) (hz:lo+n<=p.size) (hn:3<=n) (h1:c (p.getD (lo+1) 0) (p.getD lo 0)=false) (h2:c (p.getD (lo+2) 0) (p.getD (lo+1) 0)=true) (h3:c (p.getD lo 0) (p.getD (lo+1) 0)=true)
 (h:Q (some 2) (ck κ it p pd)):wpS (model prog w) A E s (countRun' lo n) Q (ck κ it p pd):=by
 rw [countRun'_eq]
 refine wpS_bind (wpS_mono (wpS_forRange (I:=λx d a7=>a7=ck κ it p pd/\((x=1/\d=(none,1))\/(x=2/\d=(none,2))))
  (Q:=λd a7=>a7=ck κ it p pd/\d=(none,2)) ?step ?fin ⟨rfl,.inl ⟨rfl,rfl⟩⟩) ?post)
 case fin=>
  rintro d a7 ⟨rfl,⟨e,rfl⟩ | ⟨e,rfl⟩⟩
  . omega
  . exact ⟨rfl,rfl⟩
 case step=>
  rintro x d a7 hx hxn ⟨rfl,⟨rfl,rfl⟩ | ⟨rfl,rfl⟩⟩
  . refine wpS_bind (zp C B (by omega) (by omega) ?_)
    rw [show lo+1-1=lo by omega,h1]
    exact wpS_pure ⟨rfl,.inr ⟨rfl,rfl⟩⟩
  . refine wpS_bind (zp C B (by omega) (by omega) ?_)
    rw [show lo+2-1=lo+1 by omega,h2]
    exact wpS_pure ⟨rfl,rfl⟩
 case post=>
  rintro d a7 ⟨rfl,rfl⟩
  dsimp only
  rw [if_neg (by simp; omega),if_pos (by omega)]
  refine wpS_bind (zp C B (by omega) (by omega) ?_)
  rw [show lo+2-1=lo+1 by omega,h3]
  exact wpS_pure h
end
end L2
namespace L2
open PySem PySem.Spec PyProof.Rows
section
variable {prog:Program}{w:World}{A:Around}{E:Value->Shared->Prop}{s:Shared}{κ:SortKind}{it:Nat->Keyed}{N:Nat}{c:Nat->Nat->Bool}{p:Array Nat}{pd:Array (Nat×Nat×Nat)}
def BI:Bool->Keyed->Array Keyed->Nat->Nat->Nat->StateT SortSt Sem (Option Nat):=sortPriv% PySem.Builtin.gallop
def Hn:Array Keyed->Array Keyed->StateT SortSt Sem (Array Keyed):=sortPriv% PySem.Builtin.mergeLo
theorem KQ (C:iz prog w A s κ it N c){kb n base:Nat}{Q:Option Nat->SortSt->Prop}{st:SortSt}(hk:kindOf st=κ) (B:jk N p) (hb:kb<N) (hn:2<=n) (hz:base+n<=p.size) (h1:c kb (p.getD base 0)=false) (h2:c kb (p.getD (base+1) 0)=true) (h:Q (some 1) st) :
 wpS (model prog w) A E s (BI false (it kb) (p.map it) base n 0) Q st:=by
 refine wpS_bind (wpS_bind (fu (show base+0<p.size by omega) ?_))
 rw [if_neg (by decide)]
 refine wpS_bind (vR C hk hb (B _ (by omega)) ?_)
 rw [Nat.add_zero,h1]
 refine wpS_pure ?_
 show wpS _ _ _ _ (do
  let r ← _
  _) _ _
 refine wpS_bind (wpS_mono (wpS_forRange (I:=λx d a7=>a7=st/\x=0/\d=(none,0,1)) (Q:=λd a7=>a7=st/\d=(none,0,1)) ?step ?fin ⟨rfl,rfl,rfl⟩) ?post)
 case fin=>
  rintro d a7 ⟨_,e,_⟩
  omega
 case step=>
  rintro x d a7 _ hx ⟨rfl,rfl,rfl⟩
  dsimp only
  rw [if_neg (by omega)]
  refine wpS_bind (wpS_bind (fu (show base+(0+1)<p.size by omega) ?_))
  rw [if_neg (by decide)]
  refine wpS_bind (vR C hk hb (B _ (by omega)) ?_)
  rw [Nat.zero_add,h2]
  exact wpS_pure (wpS_pure ⟨rfl,rfl⟩)
 case post=>
  rintro d a7 ⟨rfl,rfl⟩
  dsimp only
  refine wpS_bind (wpS_mono (wpS_forRange (I:=λx d bx=>bx=a7/\d=(none,1,1)) (Q:=λd bx=>bx=a7/\d=(none,1,1)) ?step2 (λ_ _ z=>z) ⟨rfl,?ini⟩) ?post2)
  case ini=>
   rw [Nat.min_eq_left (by omega)]
  case step2=>
   rintro x d bx _ hx ⟨rfl,rfl⟩
   dsimp only
   rw [if_pos (Nat.le_refl _)]
   exact wpS_pure ⟨rfl,rfl⟩
  case post2=>
   rintro d bx ⟨rfl,rfl⟩
   exact wpS_pure h
theorem KR (C:iz prog w A s κ it N c){ka n base:Nat}{Q:Option Nat->SortSt->Prop}{st:SortSt}(hk:kindOf st=κ) (B:jk N p) (hb:ka<N) (hn:2<=n) (hz:base+n<=p.size) (h1:c (p.getD (base+(n-1)) 0) ka=false) (h2:c (p.getD (base+(n-2)) 0) ka=true) (h:Q (some (n-1)) st) :
 wpS (model prog w) A E s (BI true (it ka) (p.map it) base n (n-1)) Q st:=by
 refine wpS_bind (wpS_bind (fu (show base+(n-1)<p.size by omega) ?_))
 rw [if_pos rfl]
 refine vR C hk (B _ (by omega)) hb ?_
 rw [h1]
 show wpS _ _ _ _ (do
  let r ← _
  _) _ _
 refine wpS_bind (wpS_mono (wpS_forRange (I:=λx d a7=>a7=st/\x=0/\d=(none,0,1)) (Q:=λd a7=>a7=st/\d=(none,0,1)) ?step ?fin ⟨rfl,rfl,rfl⟩) ?post)
 case fin=>
  rintro d a7 ⟨_,e,_⟩
  omega
 case step=>
  rintro x d a7 _ hx ⟨rfl,rfl,rfl⟩
  dsimp only
  rw [if_neg (by omega)]
  refine wpS_bind (wpS_bind (fu (show base+(n-1-1)<p.size by omega) ?_))
  rw [if_pos rfl]
  refine vR C hk (B _ (by omega)) hb ?_
  rw [show n-1-1=n-2 by omega,h2]
  exact wpS_pure ⟨rfl,rfl⟩
 case post=>
  rintro d a7 ⟨rfl,rfl⟩
  dsimp only
  refine wpS_bind (wpS_mono (wpS_forRange (I:=λx d bx=>bx=a7/\d=(none,n-1,n-1)) (Q:=λd bx=>bx=a7/\d=(none,n-1,n-1)) ?step2 (λ_ _ z=>z) ⟨rfl,?ini⟩) ?post2)
  case ini=>
   rw [Nat.min_eq_left (by omega),show n-1+1-1=n-1 by omega,Nat.sub_zero]
  case step2=>
   rintro x d bx _ hx ⟨rfl,rfl⟩
   dsimp only
   rw [if_pos (Nat.le_refl _)]
   exact wpS_pure ⟨rfl,rfl⟩
  case post2=>
   rintro d bx ⟨rfl,rfl⟩
   exact wpS_pure h
end
end L2
namespace L2
open PySem PySem.Spec PyProof.Rows
def rX (X Y:Array Nat) (t:Nat):Nat:=if t % 2=0 then Y.getD (t / 2) 0 else X.getD (t / 2) 0
def ff (X Y:Array Nat) (t:Nat):Array Nat:=((List.range t).map (rX X Y)).toArray
theorem j3 (X Y:Array Nat) (t:Nat):ff X Y (t+1)=(ff X Y t).push (rX X Y t):=by
 unfold ff
 rw [List.range_succ,List.map_append]
 simp
section
variable {prog:Program}{w:World}{A:Around}{E:Value->Shared->Prop}{s:Shared}{κ:SortKind}{it:Nat->Keyed}{N:Nat}{c:Nat->Nat->Bool}{X Y:Array Nat}{n:Nat}
theorem zr {Y:Array Nat}(hy:Y.size=n) (hn:1<=n):(Y.map it).extract (n-1) (Y.map it).size = #[it (Y.getD (n-1) 0)]:=by
 apply Array.ext
 . simp
   omega
 . intro i h1 h2
   simp at h2
   subst h2
   have cq:n-1<Y.size:=by omega
   simp [Array.getD,cq]
theorem M6 (C:iz prog w A s κ it N c){Q:Array Keyed->SortSt->Prop}{st:SortSt}(hk:kindOf st=κ) (hg:gallopOf st=7) (BX:jk N X) (BY:jk N Y) (hx:X.size=n) (hy:Y.size=n) (hn:3<=n)
 (hA:∀i,i+1<n->c (Y.getD (i+1) 0) (X.getD i 0)=false) (hB:∀i,i<n->c (Y.getD i 0) (X.getD i 0)=true) (h:Q ((ff X Y (2*n)).map it) st) :
 wpS (model prog w) A E s (Hn (X.map it) (Y.map it)) Q st:=by
 refine wpS_bind (wpS_lift (wpAny_rule ⟨rfl,?_⟩))
 refine wpS_bind (fu (show 0<Y.size by omega) ?_)
 have sx:(X.map it).size=n:=by rw [Array.size_map,hx]
 have sy:(Y.map it).size=n:=by rw [Array.size_map,hy]
 dsimp only
 rw [if_neg (by rw [sy]; simp; omega),if_neg (by rw [sx]; simp; omega)]
 refine wpS_bind (wpS_get ?_)
 have ED:(sortPriv% PySem.Builtin.SortState.minGallop) st=7:=hg
 rw [ED]
 have e2n:(ff X Y (2*n)).map it=(ff X Y (2*n-2)).map it++(Y.map it).extract (n-1) (Y.map it).size++(X.map it).extract (n-1) (X.map it).size:=by
  rw [zr hy (by omega),zr hx (by omega)]
  have e1:2*n=2*n-2+1+1:=by omega
  have z1:rX X Y (2*n-2)=Y.getD (n-1) 0:=by
   unfold rX
   rw [if_pos (by omega),show (2*n-2) / 2=n-1 by omega]
  have z2:rX X Y (2*n-2+1)=X.getD (n-1) 0:=by
   unfold rX
   rw [if_neg (by omega),show (2*n-2+1) / 2=n-1 by omega]
  conv=>lhs; rw [e1,j3,j3,z1,z2]
  simp
 refine wpS_bind (wpS_mono (wpS_forRange (I:=λx d a7=>a7=st/\x=0/\d=(none,#[it (Y.getD 0 0)],0,1,7)) (Q:=λd a7=>a7=st/\d.1=some ((ff X Y (2*n)).map it)) ?step ?fin ⟨rfl,rfl,rfl⟩) ?post)
 case fin=>
  rintro d a7 ⟨_,e,_⟩
  rw [sx,sy] at e
  omega
 case post=>
  rintro ⟨d1,d2⟩ a7 ⟨rfl,e⟩
  cases (show d1=_ from e)
  exact wpS_pure h
 case step=>
  rintro x d a7 _ hx0 ⟨rfl,rfl,rfl⟩
  dsimp only
  refine wpS_bind (wpS_mono (wpS_forRange (I:=λt d bx=>bx=a7/\t<=2*n-4/\∃ac bc,d=(none,(ff X Y (t+1)).map it,(t+1) / 2,t / 2+1,ac,bc)/\ac<=1/\bc<=1/\(t % 2=0->ac=0)/\(t % 2=1->bc=0))
   (Q:=λd bx=>bx=a7/\d.1=some ((ff X Y (2*n)).map it)) ?istep ?ifin ⟨rfl,by omega,0,0,?ini,by omega,by omega,λ_=>rfl,λ_=>rfl⟩) ?ipost)
  case ini=>
   have:ff X Y (0+1) = #[Y.getD 0 0]:=by
    rw [j3]
    rfl
   rw [this]
   simp
  case ifin=>
   rintro d bx ⟨_,e,_⟩
   rw [sx,sy] at e
   omega
  case ipost=>
   rintro ⟨d1,d2⟩ bx ⟨rfl,e⟩
   cases (show d1=_ from e)
   exact wpS_pure ⟨rfl,rfl⟩
  case istep=>
   rintro t d bx _ ht ⟨rfl,RT,ac,bc,rfl,BJ,hb1,hae,hbo⟩
   dsimp only
   have iy:t / 2+1<Y.size:=by omega
   have ix:(t+1) / 2<X.size:=by omega
   refine wpS_bind (fu iy (wpS_bind (fu ix (wpS_bind (vR C hk (BY _ iy) (BX _ ix) ?_)))))
   rcases Nat.mod_two_eq_zero_or_one t with e | e
   . -- x wins
     have ei:(t+1) / 2=t / 2:=by omega
     have hc:c (Y.getD (t / 2+1) 0) (X.getD ((t+1) / 2) 0)=false:=by rw [ei]; exact hA _ (by omega)
     rw [hc]
     dsimp only
     rw [if_neg (by decide)]
     refine wpS_bind (fu ix ?_)
     have z1:rX X Y (t+1)=X.getD ((t+1) / 2) 0:=by
      unfold rX
      rw [if_neg (by omega)]
     have eo:((ff X Y (t+1)).map it).push (it (X.getD ((t+1) / 2) 0))=(ff X Y (t+1+1)).map it:=by
      rw [j3 X Y (t+1),z1]
      simp
     rw [eo]
     by_cases he:t=2*n-4
     . rw [if_pos (by rw [sx]; simp; omega)]
       refine wpS_pure ⟨rfl,?_⟩
       show some _=some _
       rw [e2n,show (t+1) / 2+1=n-1 by omega,show t / 2+1=n-1 by omega,show t+1+1=2*n-2 by omega]
     . rw [if_neg (by rw [sx]; simp; omega),if_neg (by omega)]
       refine wpS_pure ⟨rfl,by omega,ac+1,0,?_,by have:=hae e; omega,by omega,λz=>by omega,λ_=>rfl⟩
       rw [show (t+1+1) / 2=(t+1) / 2+1 by omega,show (t+1) / 2+1=t / 2+1 by omega]
   . -- y wins
     have ei:(t+1) / 2=t / 2+1:=by omega
     have hc:c (Y.getD (t / 2+1) 0) (X.getD ((t+1) / 2) 0)=true:=by rw [ei]; exact hB _ (by omega)
     rw [hc]
     dsimp only
     rw [if_pos rfl]
     refine wpS_bind (fu iy ?_)
     have z1:rX X Y (t+1)=Y.getD (t / 2+1) 0:=by
      unfold rX
      rw [if_pos (by omega),ei]
     have eo:((ff X Y (t+1)).map it).push (it (Y.getD (t / 2+1) 0))=(ff X Y (t+1+1)).map it:=by
      rw [j3 X Y (t+1),z1]
      simp
     rw [eo,if_neg (by rw [sy]; simp; omega),if_neg (by omega)]
     refine wpS_pure ⟨rfl,by omega,0,bc+1,?_,by omega,by have:=hbo e; omega,λ_=>rfl,λz=>by omega⟩
     rw [show (t+1+1) / 2=(t+1) / 2 by omega,show (t+1) / 2+1=t / 2+1+1 by omega]
end
end L2
namespace L2
open PySem PySem.Spec PyProof.Rows
def IZ (p z:Array Nat):Array Nat:=z.toList.zipIdx.foldl (λa x=>a.setIfInBounds (1+x.2) x.1) p
theorem BK (it:Nat->Keyed):∀(l:List Nat) (i:Nat) (p:Array Nat),((l.map it).zipIdx i).foldl (λ(a:Array Keyed) x=>a.setIfInBounds (1+x.2) x.1) (p.map it)=((l.zipIdx i).foldl (λa x=>a.setIfInBounds (1+x.2) x.1) p).map it
 | [],_,_=>rfl
 | x::l,i,p=>by
  rw [List.map_cons,List.zipIdx_cons,List.zipIdx_cons,List.foldl_cons,List.foldl_cons,← BK it l (i+1)]
  congr 1
  simp
section
variable {prog:Program}{w:World}{A:Around}{E:Value->Shared->Prop}{s:Shared}{κ:SortKind}{it:Nat->Keyed}{N:Nat}{c:Nat->Nat->Bool}{p:Array Nat}{n:Nat}
theorem zt {i j k:Nat}(hj:j<=p.size) (hk:k<j-i):(p.extract i j).getD k 0=p.getD (i+k) 0:=by
 have h1:k<(p.extract i j).size:=by simp; omega
 have h2:i+k<p.size:=by omega
 simp only [Array.getD,h1,h2,dif_pos]
 simp
theorem EY {i j:Nat}(hj:j<=p.size) (B:jk N p):jk N (p.extract i j):=λk hk=>by
 have j0:k<j-i:=by
  simp at hk
  omega
 rw [zt hj j0]
 exact B _ (by omega)
theorem M7 (C:iz prog w A s κ it N c){Q:Bool->SortSt->Prop}{pw:Nat}(B:jk N p) (hp:p.size=2*n) (hn:4<=n)
 (hA:∀i,i<n->c (p.getD (n+i) 0) (p.getD i 0)=false) (hB:∀i,i+1<n->c (p.getD (n+i) 0) (p.getD (i+1) 0)=true)
 (h:Q true (ck κ it (IZ p (ff (p.extract 1 n) (p.extract n (2*n-1)) (2*(n-1)))) #[(0,n+n,pw)])) :
 wpS (model prog w) A E s (mergeAt' 0) Q (ck κ it p #[(0,n,pw),(n,n,0)]):=by
 refine wpS_bind (wpS_get ?_)
 refine wpS_bind (wpS_modify ?_)
 have ep:((#[(0,n,pw),(n,n,0)]:Array (Nat×Nat×Nat)).setIfInBounds 0 (0,n+n,pw)).eraseIdxIfInBounds 1 = #[(0,n+n,pw)]:=by simp [Array.setIfInBounds,Array.eraseIdxIfInBounds]
 show wpS _ _ _ _ _ _ (SortSt.mk' κ (p.map it) (((#[(0,n,pw),(n,n,0)]:Array (Nat×Nat×Nat)).setIfInBounds 0 (0,n+n,pw)).eraseIdxIfInBounds 1) 7 none)
 rw [ep]
 refine wpS_bind (fu (show n<p.size by omega) ?_)
 refine wpS_bind (KQ C rfl B (B _ (by omega)) (by omega) (show 0+n<=p.size by omega) ?_ ?_ ?_)
 . exact hA 0 (by omega)
 . exact hB 0 (by omega)
 dsimp only
 rw [if_neg (by simp; omega)]
 refine wpS_bind (fu (show 0+1+(n-1)-1<p.size by omega) ?_)
 refine wpS_bind (KR C rfl B (B _ (by omega)) (by omega) (show n+n<=p.size by omega) ?_ ?_ ?_)
 . rw [show 0+1+(n-1)-1=n-1 by omega]
   exact hA (n-1) (by omega)
 . have:=hB (n-2) (by omega)
   rw [show 0+1+(n-1)-1=n-2+1 by omega]
   exact this
 dsimp only
 rw [if_neg (by simp; omega),if_pos (by omega)]
 have ex:∀i j,(p.map it).extract i j=(p.extract i j).map it:=λi j=>by
  apply Array.ext
  . simp
  . intro k h1 h2
    simp
 have sX:(p.extract 1 n).size=n-1:=by
  simp
  omega
 have sY:(p.extract n (2*n-1)).size=n-1:=by
  simp
  omega
 have gX:∀i,i<n-1->(p.extract 1 n).getD i 0=p.getD (i+1) 0:=λi hi=>by rw [zt (by omega) (by omega),Nat.add_comm]
 have gY:∀i,i<n-1->(p.extract n (2*n-1)).getD i 0=p.getD (n+i) 0:=λi hi=>zt (by omega) (by omega)
 have key:=M6 C (E:=E) (st:=SortSt.mk' κ (p.map it) #[(0,n+n,pw)] 7 none) (X:=p.extract 1 n) (Y:=p.extract n (2*n-1)) (n:=n-1)
  (Q:=λa a7=>a=(ff (p.extract 1 n) (p.extract n (2*n-1)) (2*(n-1))).map it/\a7=SortSt.mk' κ (p.map it) #[(0,n+n,pw)] 7 none) rfl rfl (EY (by omega) B) (EY (by omega) B) sX sY (by omega)
  (λi hi=>by rw [gX i (by omega),gY (i+1) (by omega)]; exact hA (i+1) (by omega)) (λi hi=>by rw [gX i hi,gY i hi]; exact hB i (by omega)) ⟨rfl,rfl⟩
 rw [← ex,← ex] at key
 have e1:n+(n-1)=2*n-1:=by omega
 rw [show (0+1:Nat)=1 from rfl,e1]
 refine wpS_bind (wpS_mono key λa a7 hq=>?_)
 obtain ⟨rfl,rfl⟩:=hq
 refine wpS_bind (wpS_modify (wpS_bind (wpS_get (wpS_pure ?_))))
 have e2:=BK it (ff (p.extract 1 n) (p.extract n (2*n-1)) (2*(n-1))).toList 0 p
 have e3:SortSt.mk' κ ((((ff (p.extract 1 n) (p.extract n (2*n-1)) (2*(n-1))).map it).toList.zipIdx).foldl (λ(a:Array Keyed) x=>a.setIfInBounds (1+x.2) x.1) (p.map it)) #[(0,n+n,pw)] 7 none=ck κ it (IZ p (ff (p.extract 1 n) (p.extract n (2*n-1)) (2*(n-1)))) #[(0,n+n,pw)]:=by
  unfold ck IZ
  rw [Array.toList_map,e2]
 show Q true (SortSt.mk' κ ((((ff (p.extract 1 n) (p.extract n (2*n-1)) (2*(n-1))).map it).toList.zipIdx).foldl (λ(a:Array Keyed) x=>a.setIfInBounds (1+x.2) x.1) (p.map it)) #[(0,n+n,pw)] 7 none)
 rw [e3]
 exact h
end
end L2
namespace L2
open PySem PySem.Spec PyProof.Rows
section
variable {prog:Program}{w:World}{A:Around}{E:Value->Shared->Prop}{s:Shared}{κ:SortKind}{it:Nat->Keyed}{N:Nat}{c:Nat->Nat->Bool}{p:Array Nat}{n:Nat}
theorem qg (h0:1<=n) (h:n<64):minRun' n n 0=n:=by
 obtain ⟨f,hf⟩:∃f,n=f+1:=⟨n-1,by omega⟩
 have:minRun' (f+1) n 0=n:=by rw [minRun'_succ,if_pos h]; rfl
 rwa [← hf] at this
theorem j4 (c:Nat->Nat->Bool) (lo:Nat):∀(f k:Nat) (p:Array Nat),(cI c lo f k p).Perm p
 | 0,_,_=>Array.Perm.refl _
 | f+1,k,p=>(j4 c lo f (k+1) _).trans (bubble_perm _ _ _)
theorem EZ (C:iz prog w A s κ it N c){Q:Unit->SortSt->Prop}(B:jk N p) (hp:p.size=n) (hn:3<=n) (xp:n<64) (h1:c (p.getD 1 0) (p.getD 0 0)=false) (h2:c (p.getD 2 0) (p.getD 1 0)=true) (h3:c (p.getD 0 0) (p.getD 1 0)=true)
 (h:Q () (ck κ it (cI c 0 (n-2) 2 p) #[(0,n,0)])):wpS (model prog w) A E s sortRuns' Q (ck κ it p #[]):=by
 rw [sortRuns'_eq]
 refine wpS_bind (wpS_get ?_)
 have hs:(arrOf (ck κ it p #[])).size=n:=by show (p.map it).size=n; rw [Array.size_map,hp]
 simp only [hs,qg (by omega) xp]
 refine wpS_bind (wpS_mono (wpS_forRange (I:=λx d a7=>(x=0/\d=(none,0)/\a7=ck κ it p #[])\/(1<=x/\d=(none,n)/\a7=ck κ it (cI c 0 (n-2) 2 p) #[(0,n,0)]))
  (Q:=λd a7=>d=(none,n)/\a7=ck κ it (cI c 0 (n-2) 2 p) #[(0,n,0)]) ?step ?fin (.inl ⟨rfl,rfl,rfl⟩)) ?post)
 case fin=>
  rintro d a7 (⟨hx,_,_⟩ | ⟨_,hc,hD⟩)
  . omega
  . exact ⟨hc,hD⟩
 case step=>
  rintro x d a7 _ hx (⟨rfl,rfl,rfl⟩ | ⟨rW,rfl,rfl⟩)
  . dsimp only
    rw [if_neg (by omega)]
    simp only [Nat.sub_zero,Nat.min_self,Nat.zero_add]
    refine wpS_bind (sV C B (by omega) hn h1 h2 h3 ?_)
    dsimp only
    rw [if_pos (by omega)]
    refine wpS_bind (wpS_lift (wpAny_rule ⟨rfl,?_⟩))
    refine wpS_bind (Di C B (by omega) (by omega) (by omega) ?_)
    simp only [Bool.not_true,Bool.false_eq_true,if_false]
    refine wpS_bind (wpS_get ?_)
    exact wpS_bind (wpS_modify (wpS_pure (.inr ⟨by omega,rfl,rfl⟩)))
  . dsimp only
    rw [if_pos (Nat.le_refl _)]
    exact wpS_pure ⟨rfl,rfl⟩
 case post=>
  rintro d a7 ⟨rfl,rfl⟩
  dsimp only
  refine wpS_bind (wpS_mono (wpS_forRange (I:=λ_ d bx=>bx=ck κ it (cI c 0 (n-2) 2 p) #[(0,n,0)]/\d=(none,())) (Q:=λd bx=>bx=ck κ it (cI c 0 (n-2) 2 p) #[(0,n,0)]/\d=(none,())) ?_ (λ_ _ hh=>hh) ⟨rfl,rfl⟩) ?_)
  . rintro x d bx _ _ ⟨rfl,rfl⟩
    refine wpS_bind (wpS_get ?_)
    rw [if_pos (show (pendingOf (ck κ it (cI c 0 (n-2) 2 p) #[(0,n,0)])).size<=1 from Nat.le_refl 1)]
    exact wpS_pure ⟨rfl,rfl⟩
  . rintro d bx ⟨rfl,rfl⟩
    exact wpS_pure h
theorem KS (C:iz prog w A s κ it N c){Q:Unit->SortSt->Prop}(B:jk N p) (hp:p.size=2) (h1:c (p.getD 1 0) (p.getD 0 0)=false)
 (h:Q () (ck κ it p #[(0,2,0)])):wpS (model prog w) A E s sortRuns' Q (ck κ it p #[]):=by
 rw [sortRuns'_eq]
 refine wpS_bind (wpS_get ?_)
 have hs:(arrOf (ck κ it p #[])).size=2:=by show (p.map it).size=2; rw [Array.size_map,hp]
 simp only [hs,qg (show 1<=2 by decide) (by decide)]
 refine wpS_bind (wpS_mono (wpS_forRange (I:=λx d a7=>(x=0/\d=(none,0)/\a7=ck κ it p #[])\/(1<=x/\d=(none,2)/\a7=ck κ it p #[(0,2,0)]))
  (Q:=λd a7=>d=(none,2)/\a7=ck κ it p #[(0,2,0)]) ?step ?fin (.inl ⟨rfl,rfl,rfl⟩)) ?post)
 case fin=>
  rintro d a7 (⟨hx,_,_⟩ | ⟨_,hc,hD⟩)
  . omega
  . exact ⟨hc,hD⟩
 case step=>
  rintro x d a7 _ hx (⟨rfl,rfl,rfl⟩ | ⟨rW,rfl,rfl⟩)
  . dsimp only
    rw [if_neg (by omega)]
    rw [countRun'_eq]
    refine wpS_bind (wpS_bind (wpS_mono (wpS_forRange (I:=λx d a7=>a7=ck κ it p #[]/\((x=1/\d=(none,1))\/(x=2/\d=(none,2)))) (Q:=λd a7=>a7=ck κ it p #[]/\d=(none,2)) ?cs ?cf ⟨rfl,.inl ⟨rfl,rfl⟩⟩) ?cp))
    case cf=>
     rintro d a7 ⟨rfl,⟨e,rfl⟩ | ⟨e,rfl⟩⟩
     . omega
     . exact ⟨rfl,rfl⟩
    case cs=>
     rintro x d a7 hx hxn ⟨rfl,⟨rfl,rfl⟩ | ⟨rfl,rfl⟩⟩
     . refine wpS_bind (zp C B (by omega) (by omega) ?_)
       rw [show 0+1-1=0 by omega,show 0+1=1 by omega,h1]
       exact wpS_pure ⟨rfl,.inr ⟨rfl,rfl⟩⟩
     . omega
    case cp=>
     rintro d a7 ⟨rfl,rfl⟩
     refine wpS_pure ?_
     dsimp only
     rw [if_neg (by decide)]
     refine wpS_bind (wpS_get ?_)
     exact wpS_bind (wpS_modify (wpS_pure (.inr ⟨by omega,rfl,rfl⟩)))
  . dsimp only
    rw [if_pos (Nat.le_refl _)]
    exact wpS_pure ⟨rfl,rfl⟩
 case post=>
  rintro d a7 ⟨rfl,rfl⟩
  dsimp only
  refine wpS_bind (wpS_mono (wpS_forRange (I:=λ_ d bx=>bx=ck κ it p #[(0,2,0)]/\d=(none,())) (Q:=λd bx=>bx=ck κ it p #[(0,2,0)]/\d=(none,())) ?_ (λ_ _ hh=>hh) ⟨rfl,rfl⟩) ?_)
  . rintro x d bx _ _ ⟨rfl,rfl⟩
    refine wpS_bind (wpS_get ?_)
    rw [if_pos (show (pendingOf (ck κ it p #[(0,2,0)])).size<=1 from Nat.le_refl 1)]
    exact wpS_pure ⟨rfl,rfl⟩
  . rintro d bx ⟨rfl,rfl⟩
    exact wpS_pure h
def two32 (c:Nat->Nat->Bool) (p:Array Nat):Array Nat:=cI c 32 30 2 (cI c 0 30 2 p)
def uN (c:Nat->Nat->Bool) (p:Array Nat):Array Nat:=IZ (two32 c p) (ff ((two32 c p).extract 1 32) ((two32 c p).extract 32 63) 62)
theorem M8 (C:iz prog w A s κ it N c){Q:Unit->SortSt->Prop}(B:jk N p) (hp:p.size=64) (h1:c (p.getD 1 0) (p.getD 0 0)=false) (h2:c (p.getD 2 0) (p.getD 1 0)=true) (h3:c (p.getD 0 0) (p.getD 1 0)=true)
 (k1:c ((cI c 0 30 2 p).getD 33 0) ((cI c 0 30 2 p).getD 32 0)=false) (k2:c ((cI c 0 30 2 p).getD 34 0) ((cI c 0 30 2 p).getD 33 0)=true) (k3:c ((cI c 0 30 2 p).getD 32 0) ((cI c 0 30 2 p).getD 33 0)=true)
 (hA:∀i,i<32->c ((two32 c p).getD (32+i) 0) ((two32 c p).getD i 0)=false) (hB:∀i,i+1<32->c ((two32 c p).getD (32+i) 0) ((two32 c p).getD (i+1) 0)=true)
 (h:∀pd,Q () (ck κ it (uN c p) pd)):wpS (model prog w) A E s sortRuns' Q (ck κ it p #[]):=by
 rw [sortRuns'_eq]
 refine wpS_bind (wpS_get ?_)
 have hs:(arrOf (ck κ it p #[])).size=64:=by show (p.map it).size=64; rw [Array.size_map,hp]
 have hm:minRun' 64 64 0=32:=by decide +kernel
 simp only [hs,hm]
 have B1:jk N (cI c 0 30 2 p):=B.perm (j4 ..)
 have s1:(cI c 0 30 2 p).size=64:=(j4 c 0 30 2 p).size_eq.trans hp
 have B2:jk N (two32 c p):=B1.perm (j4 ..)
 have s2:(two32 c p).size=64:=(j4 c 32 30 2 _).size_eq.trans s1
 generalize hpw:power' 64 (2*0+32) (2*0+32+32+32) 64=pw
 refine wpS_bind (wpS_mono (wpS_forRange (I:=λx d a7=>(x=0/\d=(none,0)/\a7=ck κ it p #[])\/(x=1/\d=(none,32)/\a7=ck κ it (cI c 0 30 2 p) #[(0,32,0)])\/(2<=x/\d=(none,64)/\a7=ck κ it (two32 c p) #[(0,32,pw),(32,32,0)]))
  (Q:=λd a7=>d=(none,64)/\a7=ck κ it (two32 c p) #[(0,32,pw),(32,32,0)]) ?step ?fin (.inl ⟨rfl,rfl,rfl⟩)) ?post)
 case fin=>
  rintro d a7 (⟨hx,_,_⟩ | ⟨hx,_,_⟩ | ⟨_,hc,hD⟩)
  . omega
  . omega
  . exact ⟨hc,hD⟩
 case step=>
  rintro x d a7 _ hx (⟨rfl,rfl,rfl⟩ | ⟨rfl,rfl,rfl⟩ | ⟨rW,rfl,rfl⟩)
  . dsimp only
    rw [if_neg (by omega)]
    refine wpS_bind (sV C B (by omega) (by omega) h1 h2 h3 ?_)
    dsimp only
    rw [if_pos (by omega)]
    refine wpS_bind (wpS_lift (wpAny_rule ⟨rfl,?_⟩))
    refine wpS_bind (Di C B (show 0+32<=p.size by omega) (by omega) (show 2<=32 by omega) ?_)
    simp only [Bool.not_true,Bool.false_eq_true,if_false]
    refine wpS_bind (wpS_get ?_)
    exact wpS_bind (wpS_modify (wpS_pure (.inr (.inl ⟨trivial,rfl,rfl⟩))))
  . dsimp only
    rw [if_neg (by omega)]
    refine wpS_bind (sV C B1 (by omega) (by omega) k1 k2 k3 ?_)
    dsimp only
    rw [if_pos (by omega)]
    refine wpS_bind (wpS_lift (wpAny_rule ⟨rfl,?_⟩))
    refine wpS_bind (Di C B1 (show 32+32<=(cI c 0 30 2 p).size by omega) (by omega) (show 2<=32 by omega) ?_)
    simp only [Bool.not_true,Bool.false_eq_true,if_false]
    refine wpS_bind (wpS_get ?_)
    refine wpS_bind (wpS_mono (wpS_forRange (I:=λ_ d bx=>bx=ck κ it (two32 c p) #[(0,32,0)]/\d=(none,())) (Q:=λd bx=>bx=ck κ it (two32 c p) #[(0,32,0)]/\d=(none,())) ?ws (λ_ _ hh=>hh) ⟨rfl,rfl⟩) ?wp)
    case ws=>
     rintro x d bx _ _ ⟨rfl,rfl⟩
     refine wpS_bind (wpS_get ?_)
     exact wpS_pure ⟨rfl,rfl⟩
    case wp=>
     rintro d bx ⟨rfl,rfl⟩
     refine wpS_bind (wpS_modify (wpS_bind (wpS_modify (wpS_pure (.inr (.inr ⟨by omega,rfl,?_⟩))))))
     rw [← hpw]
     rfl
  . dsimp only
    rw [if_pos (Nat.le_refl _)]
    exact wpS_pure ⟨rfl,rfl⟩
 case post=>
  rintro d a7 ⟨rfl,rfl⟩
  dsimp only
  refine wpS_bind (wpS_mono (wpS_forRange (I:=λx d bx=>d=(none,())/\((x=0/\bx=ck κ it (two32 c p) #[(0,32,pw),(32,32,0)])\/(1<=x/\bx=ck κ it (uN c p) #[(0,64,pw)]))) (Q:=λd bx=>bx=ck κ it (uN c p) #[(0,64,pw)]/\d=(none,())) ?ls ?lf ⟨rfl,.inl ⟨rfl,rfl⟩⟩) ?lp)
  case lf=>
   rintro d bx ⟨rfl,⟨hx,_⟩ | ⟨_,rfl⟩⟩
   . omega
   . exact ⟨rfl,rfl⟩
  case lp=>
   rintro d bx ⟨rfl,rfl⟩
   exact wpS_pure (h _)
  case ls=>
   rintro x d bx _ _ ⟨rfl,⟨rfl,rfl⟩ | ⟨rW,rfl⟩⟩
   . refine wpS_bind (wpS_get ?_)
     rw [if_neg (show ¬ (pendingOf (ck κ it (two32 c p) #[(0,32,pw),(32,32,0)])).size<=1 from by show ¬ (2<=1); decide)]
     refine wpS_bind (M7 (n:=32) C B2 s2 (by decide) hA hB ?_)
     simp only [Bool.not_true,Bool.false_eq_true,if_false]
     exact wpS_pure ⟨rfl,.inr ⟨by omega,rfl⟩⟩
   . refine wpS_bind (wpS_get ?_)
     rw [if_pos (show (pendingOf (ck κ it (uN c p) #[(0,64,pw)])).size<=1 from Nat.le_refl 1)]
     exact wpS_pure ⟨rfl,rfl⟩
end
end L2
namespace L2
open PySem PySem.Spec PyProof.Rows PySem.W
def f9 (h:Heap) (v:Value) (ns:List Int):Prop:=∃a o xs n,v=.ref a/\h.get? a=some o/\o.cls=.type "tuple" /\ o.data=.seq xs n/\IntsAre xs.toList ns
theorem f9.keep {h h':Heap}{v:Value}{ns:List Int}(x:f9 h v ns) (k:∀a o xs n,h.get? a=some o->o.cls=.type "tuple" -> o.data=.seq xs n->h'.get? a=some o):f9 h' v ns:=by
 obtain ⟨a,o,xs,n,e,h1,h2,h3,h4⟩:=x
 exact ⟨a,o,xs,n,e,k a o xs n h1 h2 h3,h2,h3,h4⟩
section
variable {prog:Program}{w:World}{A:Around}{E:Value->Shared->Prop}{s:Shared}{Q:Bool->Shared->Prop}
theorem KU {a b:Int}{t u:Tok}(f:Bool) (h:Q (decide (a<b)) s):wpAny (model prog w) A (oneLt' f (.int a t) (.int b u)) Q E s:=by
 cases f with
 | true=>exact oneLt_int h
 | false=>exact kat_one _ _ (PyProof.Rows.lt_int h)
theorem rY:∀{xs ys:List Value}{as bs:List Int}(i:Nat),IntsAre xs as->IntsAre ys bs->as.length=bs.length->Q (HT.lexLt as bs) s->KatLex prog w A true false Q (xs.zip ys) i s
 | _,_,_,_,_,.nil,.nil,_,h=>h
 | _,_,_,_,_,.nil,.cons _ _ _,h,_=>nomatch h
 | _,_,_,_,_,.cons _ _ _,.nil,h,_=>nomatch h
 | _,_,_,_,i,.cons a t r,.cons b u r',hl,h=>by
  rw [HT.CG] at h
  refine kat_cons (wpAny_eqBool_int ?_)
  by_cases e:a=b
  . rw [if_pos e] at h
    have:(a == b)=true:=by simpa using e
    rw [this]
    exact kat_yes (rY (i+1) r r' (Nat.succ.inj hl) h)
  . rw [if_neg e] at h
    have:(a == b)=false:=by simpa using e
    rw [this]
    exact kat_no (KU _ h)
theorem KW {v u:Value}{as bs:List Int}(hv:f9 s.heap v as) (hu:f9 s.heap u bs) (hl:as.length=bs.length) (h:Q (HT.lexLt as bs) s):wpAny (model prog w) A (keyLt' (tuples' true) v u) Q E s:=by
 obtain ⟨a,o,xs,n,rfl,h1,_,h3,h4⟩:=hv
 obtain ⟨b,o2,ys,m,rfl,k1,_,k3,k4⟩:=hu
 refine kat_lt h1 h3 k1 k3 ?_
 have e1:=h4.length
 have e2:=k4.length
 rw [Array.length_toList] at e1 e2
 have:decide (xs.size<ys.size)=false:=decide_eq_false (by omega)
 rw [this]
 exact rY 0 h4 k4 hl h
end
theorem xq {h:Heap} : ∀{vs:List Value}{bs:List (List Int)},Paired (f9 h) vs bs->(∀b∈bs,b≠[])->∃fs,KatTups h vs fs/\fs.length=vs.length/\∀v∈fs,∃i t,v=Value.int i t
 | _,_,.nil,_=>⟨[],.nil,rfl,λ_ h=>nomatch h⟩
 | v::vs,b::bs,.cons hv t,hb=>by
  obtain ⟨fs,h1,h2,h3⟩:=xq t λx hx=>hb x (List.mem_cons_of_mem _ hx)
  obtain ⟨a,o,xs,n,rfl,k1,k2,k3,k4⟩:=hv
  have hn:=hb b List.mem_cons_self
  generalize hx:xs.toList=l at k4
  cases k4 with
  | nil=>exact absurd rfl hn
  | cons i t r=>
   refine ⟨.int i t::fs,KatTups.cons k1 k2 k3 ?_ h1,by rw [List.length_cons,List.length_cons,h2],λz hz=>?_⟩
   . rw [← Array.getElem?_toList,hx]
     rfl
   . rcases List.mem_cons.mp hz with rfl | hz
     . exact ⟨i,t,rfl⟩
     . exact h3 z hz
def M9 (vs:List Value) (i:Nat):Keyed:=(vs.getD i .none,vs.getD i .none)
theorem KY (vs:List Value):vs.toArray.zip vs.toArray=((List.range vs.length).toArray).map (M9 vs):=by
 apply Array.ext
 . simp
 . intro i h1 h2
   simp at h1
   simp [M9,h1]
theorem lh {α β:Type}{F:α->β->Prop}{d:α}{e:β} : ∀{l₁:List α}{l₂:List β},Paired F l₁ l₂->∀i,i<l₁.length->F (l₁.getD i d) (l₂.getD i e)
 | _,_,.nil,i,h=>absurd h (Nat.not_lt_zero _)
 | _,_,.cons h t,0,_=>by simpa using h
 | _,_,.cons h t,i+1,hi=>by simpa using lh t i (by simpa using hi)
section
variable {prog:Program}{w:World}{A:Around}{E:Value->Shared->Prop}{s:Shared}
def ym (prog:Program) (w:World) (bs:List (List Int)) (q:Array Nat):Prop:=q.size=bs.length/\∀(A:Around) (E:Value->Shared->Prop) (s:Shared) (it:Nat->Keyed),iz prog w A s (tuples' true) it bs.length (λi j=>HT.lexLt (bs.getD i []) (bs.getD j []))->
 wpS (model prog w) A E s sortRuns' (λ_ a7=>arrOf a7=q.map it/\failedOf a7=none) (ck (tuples' true) it (List.range bs.length).toArray #[])
theorem E1 {a:Addr}{vs:List Value}{bs:List (List Int)}{n k:Nat}{q:Array Nat}{P:Fin->Shared->Prop}(ho:s.heap.get? a=some (seqObj "list" vs.toArray n)) (hT:Paired (f9 s.heap) vs bs) (hk:∀b∈bs,b.length=k) (RU:1<=k) (h2:2<=vs.length) (xp:vs.length<=64)
 (hq:ym prog w bs q) (h:P (.done (.ret .none)) { s with heap:=sortedHeap s.heap a vs (q.map λi=>vs.getD i .none) }) :
 wpAny (model prog w) A (Builtin.«list.sort» ⟨[.ref a],[]⟩) P E s:=by
 rw [list_sort_plain]
 have ha:a<s.heap.objs.size:=Heap.lt_size ho
 have lb:=hT.length
 refine wpAny_bind (listItems_at ho rfl ?_)
 refine wpAny_bind (listUpdate_at ho rfl ?_ (by rw [List.size_toArray,sizeLine_eq]; omega) (Nat.zero_le _))
 obtain ⟨e1,E2⟩:∃e1,(s.heap.update a (Obj.mapSeq λ_=>#[])).get? a=some (seqObj "list" #[] e1):=⟨_,get?_update_seq ho (λ_=>#[])⟩
 refine wpAny_bind (seqEpoch_at E2 rfl ?_)
 refine wpAny_bind (wpAny_newTuple ?_ (by show vs.length<=_; rw [sizeLine_eq]; omega))
 refine wpAny_bind (wpAny_newList ?_ (Nat.zero_le _))
 refine wpAny_holding ?_
 have BL:(((s.heap.update a (Obj.mapSeq λ_=>#[])).push (seqObj "tuple" vs.toArray 0)).push (seqObj "list" #[] 0)).get? a=some (seqObj "list" #[] e1):=by
  rw [Heap.get?_push_ne _ _ _ (by rw [size_push',Heap.size_update]; exact Nat.ne_of_lt (Nat.lt_succ_of_lt ha)),Heap.get?_push_ne _ _ _ (by rw [Heap.size_update]; exact Nat.ne_of_lt ha)]
  exact E2
 show wpAny (model prog w) A _ P E { s with heap:=((s.heap.update a (Obj.mapSeq λ_=>#[])).push (seqObj "tuple" vs.toArray 0)).push (seqObj "list" #[] 0) }
 dsimp only
 have gh:¬ vs.toArray.size<2:=by rw [List.size_toArray]; omega
 rw [if_neg gh,if_neg gh]
 have BM:Paired (f9 (((s.heap.update a (Obj.mapSeq λ_=>#[])).push (seqObj "tuple" vs.toArray 0)).push (seqObj "list" #[] 0))) vs bs:=Paired.bE hT λv b x=>x.keep λb o xs n h1 h2 h3=>by
  have nb:b≠a:=λe=>by
   rw [e,ho] at h1
   cases (Option.some.inj h1)
   exact absurd (Value.type.inj (show Value.type "list" = Value.type "tuple" from h2)) (by decide)
  refine Heap.get?_push_of_some _ (Heap.get?_push_of_some _ ?_)
  rw [(Heap.SameBut.update s.heap a (Obj.mapSeq λ_=>(#[]:Array Value))).2 b nb]
  exact h1
 generalize hh6:((s.heap.update a (Obj.mapSeq λ_=>#[])).push (seqObj "tuple" vs.toArray 0)).push (seqObj "list" #[] 0)=h6 at BL BM
 obtain ⟨fs,f1,f2,f3⟩:=xq BM (λb hb e=>by have:=hk b hb; rw [e] at this; simp at this; omega)
 refine wpAny_bind (kat_kind (M:=model prog w) (T:=.type "int") f1 (by omega) (λv hv=>?_) rfl ?_)
 . obtain ⟨i,t,rfl⟩:=f3 v hv
   exact Looks.of_pure rfl
 have hb:∀i,i<bs.length->(bs.getD i []).length=k:=λi hi=>hk _ (by simp [hi])
 have C:iz prog w A { s with heap:=h6 } (tuples' true) (M9 vs) bs.length (λi j=>HT.lexLt (bs.getD i []) (bs.getD j [])):=λi j hi hj E Q hQ=>
  KW (lh BM i (by omega)) (lh BM j (by omega)) (by rw [hb i hi,hb j hj]) hQ
 have run:=hq.2 A E _ _ C
 rw [KY,lb]
 refine wpAny_bind (wpAny_mono run ?_ λ_ _ e=>e)
 rintro ⟨⟨⟩,a7⟩ s' ⟨rfl,har,hf⟩
 dsimp only
 have hsz:((arrOf a7).map (·.2))=q.map λi=>vs.getD i .none:=by
  rw [har,Array.map_map]
  rfl
 refine wpAny_bind (seqEpoch_at BL rfl ?_)
 refine wpAny_bind (listUpdate_at BL rfl ?_ (hsz2:=by rw [hsz,Array.size_map,hq.1,sizeLine_eq]; omega))
 have hf':(sortPriv% PySem.Builtin.SortState.failed) a7=none:=hf
 rw [hf]
 simp only [bne_self_eq_false,Bool.false_eq_true,if_false]
 refine wpAny_pure ?_
 rw [hsz,← hh6]
 exact h
theorem AV {l:Addr}{vs:List Value}{bs:List (List Int)}{k:Nat}{q:Array Nat}{Q:Value->Shared->Prop}(hl:s.heap.IsList l vs.toArray) (hT:Paired (f9 s.heap) vs bs) (hk:∀b∈bs,b.length=k) (RU:1<=k) (h2:2<=vs.length) (xp:vs.length<=64)
 (hq:ym prog w bs q) (h:Q (.ref (s.heap.objs.size+1)) { s with heap:=sortedAll s.heap vs (q.map λi=>vs.getD i .none) }) :
 wpAny (model prog w) A (call (.builtin "sorted") [.ref l]) Q E s:=by
 refine Calls.call_function_entry kind_sorted plain_sorted entry_sorted (args_sorted1 _) ?_
 unfold Builtin.«sorted»
 refine wpAny_bind (m:=checkCount "sorted" 1 1 _) (wpAny_pure ?_)
 refine wpAny_bind (collect_list hl ?_ (by rw [sizeLine_eq]; omega))
 refine wpAny_bind (wpAny_newList ?_ (by rw [sizeLine_eq]; omega))
 have hsz:((s.heap.push (seqObj "list" #[] 0)).update s.heap.objs.size (Obj.mapSeq (· ++ vs.toArray))).objs.size=s.heap.objs.size+1:=by
  rw [Heap.size_update,size_push']
 have yA:(((s.heap.push (seqObj "list" #[] 0)).update s.heap.objs.size (Obj.mapSeq (· ++ vs.toArray))).push (seqObj "list" vs.toArray 0)).get? (s.heap.objs.size+1)=some (seqObj "list" vs.toArray 0):=by
  rw [← hsz]; exact Heap.get?_push_size _ rfl
 have keep:∀b o,s.heap.get? b=some o->(((s.heap.push (seqObj "list" #[] 0)).update s.heap.objs.size (Obj.mapSeq (· ++ vs.toArray))).push (seqObj "list" vs.toArray 0)).get? b=some o:=λb o hb=>by
  refine Heap.get?_push_of_some _ ?_
  rw [(Heap.SameBut.update _ _ _).2 b (Nat.ne_of_lt (Heap.lt_size hb))]
  exact Heap.get?_push_of_some _ hb
 show wpAny _ _ _ _ _ { s with heap:=((s.heap.push (seqObj "list" #[] 0)).update s.heap.objs.size (Obj.mapSeq (· ++ vs.toArray))).push (seqObj "list" vs.toArray 0) }
 rw [hsz]
 refine wpAny_bind (wpAny_holding (wpAny_call_entry slot_list_sort ⟨_,yA,rfl⟩ entry_list_sort (E1 yA (Paired.bE hT λv b x=>x.keep λb o _ _ h1 _ _=>keep b o h1) hk RU h2 xp hq ⟨_,rfl,?_⟩) (args_list_sort _)))
 exact wpAny_pure ⟨_,rfl,h⟩
end
end L2
namespace L2
open PySem PySem.Spec PyProof.Rows PySem.W
def dq:Nat->List (List Int)
 | 0=>[[]]
 | k+1=>(dq k).map (· ++ [0])++(dq k).map (· ++ [1])
def dw:Nat->List (List Int)
 | 0=>[[]]
 | k+1=>(dw k).flatMap λr=>[r++[0],r++[1]]
def jl (k:Nat):Bool:=(dq k).zipIdx.all λx=>(dq k).zipIdx.all λy=>HT.lexLt x.1 y.1 == cB k x.2 y.2
theorem E3:jl 1=true/\jl 2=true/\jl 3=true/\jl 4=true/\jl 5=true/\jl 6=true:=by decide +kernel
def p0 (k:Nat):Array Nat:=(List.range (2 ^ k)).toArray
def nH:Nat->Array Nat
 | 0=>p0 0
 | 1=>p0 1
 | 6=>uN (cB 6) (p0 6)
 | k=>cI (cB k) 0 (2 ^ k-2) 2 (p0 k)
theorem KZ:∀k∈[0,1,2,3,4,5,6],((nH k).toList.map λi=>(dq k).getD i [])=dw k:=by decide +kernel
theorem g7 (k:Nat):(dq k).length=2 ^ k:=by
 induction k with
 | zero=>rfl
 | succ k ih=>
  rw [dq,List.length_append,List.length_map,List.length_map,ih,Nat.pow_succ]
  omega
theorem xr (k:Nat):∀b∈dq k,b.length=k:=by
 induction k with
 | zero=>simp [dq]
 | succ k ih=>
  intro b hb
  rw [dq] at hb
  rcases List.mem_append.mp hb with h | h <;> (obtain ⟨r,hr,rfl⟩:=List.mem_map.mp h; rw [List.length_append,ih r hr]; rfl)
theorem sW {k i j:Nat}(h:jl k=true) (hi:i<2 ^ k) (hj:j<2 ^ k):HT.lexLt ((dq k).getD i []) ((dq k).getD j [])=cB k i j:=by
 unfold jl at h
 have mem:∀i,i<2 ^ k->((dq k).getD i [],i)∈(dq k).zipIdx:=λi hi=>by
  have hl:i<(dq k).length:=by rw [g7]; exact hi
  rw [List.mem_zipIdx_iff_getElem?]
  simp [hl]
 have h1:=List.all_eq_true.mp h _ (mem i hi)
 have h2:=List.all_eq_true.mp h1 _ (mem j hj)
 simpa using h2
theorem Ho (k:Nat):jk (2 ^ k) (p0 k):=λi hi=>by
 unfold p0 at hi ⊢
 simp at hi
 simp [Array.getD,hi]
theorem iz.congr {prog:Program}{w:World}{A:Around}{s:Shared}{κ:SortKind}{it:Nat->Keyed}{N:Nat}{c c':Nat->Nat->Bool}(C:iz prog w A s κ it N c) (h:∀i j,i<N->j<N->c i j=c' i j):iz prog w A s κ it N c':=λi j hi hj E Q hQ=>C i j hi hj E Q (by rw [h i j hi hj]; exact hQ)
def i3 (k:Nat):Bool:=!cB k 1 0 && (cB k 2 1 && cB k 0 1)
theorem E4:i3 2=true/\i3 3=true/\i3 4=true/\i3 5=true:=by decide +kernel
def I0:Bool:=i3 6 && (!cB 6 ((cI (cB 6) 0 30 2 (p0 6)).getD 33 0) ((cI (cB 6) 0 30 2 (p0 6)).getD 32 0) && (cB 6 ((cI (cB 6) 0 30 2 (p0 6)).getD 34 0) ((cI (cB 6) 0 30 2 (p0 6)).getD 33 0) && (cB 6 ((cI (cB 6) 0 30 2 (p0 6)).getD 32 0) ((cI (cB 6) 0 30 2 (p0 6)).getD 33 0) &&
 ((List.range 32).all (λi=>!cB 6 ((two32 (cB 6) (p0 6)).getD (32+i) 0) ((two32 (cB 6) (p0 6)).getD i 0)) && (List.range 31).all (λi=>cB 6 ((two32 (cB 6) (p0 6)).getD (32+i) 0) ((two32 (cB 6) (p0 6)).getD (i+1) 0))))))
theorem K0:I0=true:=by decide +kernel
theorem E5:∀k∈[0,1,2,3,4,5,6],(nH k).size=2 ^ k:=by decide +kernel
section
variable {prog:Program}{w:World}
theorem jS {k:Nat}(ha:jl k=true) (ho:i3 k=true) (h3:3<=2 ^ k) (xp:2 ^ k<64) (hs:(cI (cB k) 0 (2 ^ k-2) 2 (p0 k)).size=2 ^ k):ym prog w (dq k) (cI (cB k) 0 (2 ^ k-2) 2 (p0 k)):=by
 refine ⟨by rw [g7]; exact hs,λA E s it C=>?_⟩
 rw [g7] at C ⊢
 have C':=C.congr λi j hi hj=>sW ha hi hj
 unfold i3 at ho
 rw [Bool.and_eq_true,Bool.and_eq_true,Bool.not_eq_true'] at ho
 have g:∀i,i<2 ^ k->(p0 k).getD i 0=i:=λi hi=>by
  unfold p0
  simp [Array.getD,hi]
 refine EZ C' (p:=p0 k) (n:=2 ^ k) (Ho k) (by unfold p0; simp) h3 xp ?_ ?_ ?_ ⟨rfl,rfl⟩
 . rw [g 1 (by omega),g 0 (by omega)]; exact ho.1
 . rw [g 2 (by omega),g 1 (by omega)]; exact ho.2.1
 . rw [g 0 (by omega),g 1 (by omega)]; exact ho.2.2
theorem E6 (k:Nat) (h1:1<=k) (h6:k<=6):ym prog w (dq k) (nH k):=by
 obtain ⟨a1,a2,a3,a4,a5,a6⟩:=E3
 obtain ⟨b2,b3,b4,b5⟩:=E4
 have qs:=λk hk=>E5 k hk
 rcases (show k=1\/k=2\/k=3\/k=4\/k=5\/k=6 by omega) with rfl | rfl | rfl | rfl | rfl | rfl
 . refine ⟨rfl,λA E s it C=>?_⟩
   have C':=C.congr λi j hi hj=>sW a1 hi hj
   exact KS C' (p:=p0 1) (Ho 1) rfl (by decide +kernel) ⟨rfl,rfl⟩
 . exact jS a2 b2 (by decide) (by decide) (qs 2 (by simp))
 . exact jS a3 b3 (by decide) (by decide) (qs 3 (by simp))
 . exact jS a4 b4 (by decide) (by decide) (qs 4 (by simp))
 . exact jS a5 b5 (by decide) (by decide) (qs 5 (by simp))
 . refine ⟨by rw [g7]; exact qs 6 (by simp),λA E s it C=>?_⟩
   rw [g7] at C ⊢
   have C':=C.congr λi j hi hj=>sW a6 hi hj
   have hb:=K0
   unfold I0 i3 at hb
   simp only [Bool.and_eq_true,Bool.not_eq_true',List.all_eq_true,List.mem_range] at hb
   obtain ⟨⟨c1,c2,c3⟩,d1,d2,d3,e1,e2⟩:=hb
   have g:∀i,i<2 ^ 6->(p0 6).getD i 0=i:=λi hi=>by
    unfold p0
    simp [Array.getD,hi]
   refine M8 C' (p:=p0 6) (Ho 6) rfl ?_ ?_ ?_ d1 d2 d3 (λi hi=>e1 i hi) (λi hi=>e2 i (by omega)) λpd=>⟨rfl,rfl⟩
   . rw [g 1 (by decide),g 0 (by decide)]; exact c1
   . rw [g 2 (by decide),g 1 (by decide)]; exact c2
   . rw [g 0 (by decide),g 1 (by decide)]; exact c3
end
end L2
namespace L2
open PySem PySem.Spec PyProof.Rows PySem.W
section
variable {X:Cx}
theorem pB (h:Heap) (vs:List Value) (out:Array Value):∃n,(sortedAll h vs out).get? (h.objs.size+1)=some (seqObj "list" out n):=by
 unfold sortedAll sortedHeap
 have hsz:((h.push (seqObj "list" #[] 0)).update h.objs.size (Obj.mapSeq (· ++ vs.toArray))).objs.size=h.objs.size+1:=by rw [Heap.size_update,size_push']
 have h1:(((h.push (seqObj "list" #[] 0)).update h.objs.size (Obj.mapSeq (· ++ vs.toArray))).push (seqObj "list" vs.toArray 0)).get? (h.objs.size+1)=some (seqObj "list" vs.toArray 0):=by
  rw [← hsz]; exact Heap.get?_push_size _ rfl
 exact ⟨_,get?_update_seq (Heap.get?_push_of_some _ (Heap.get?_push_of_some _ (get?_update_seq h1 λ_=>#[]))) λ_=>out⟩
theorem nI {h:Heap}{vs:List Value}{out:Array Value}{b:Addr}{o:Obj}(hb:h.get? b=some o):(sortedAll h vs out).get? b=some o:=by
 have lt:=Heap.lt_size hb
 have ne0:b≠h.objs.size:=Nat.ne_of_lt lt
 have ne1:b≠h.objs.size+1:=Nat.ne_of_lt (Nat.lt_succ_of_lt lt)
 unfold sortedAll sortedHeap
 rw [(Heap.SameBut.update _ _ _).2 b ne1]
 refine Heap.get?_push_of_some _ (Heap.get?_push_of_some _ ?_)
 rw [(Heap.SameBut.update _ _ _).2 b ne1]
 refine Heap.get?_push_of_some _ ?_
 rw [(Heap.SameBut.update _ _ _).2 b ne0]
 exact Heap.get?_push_of_some _ hb
theorem BN {pins:List (Addr×Obj)}{σ:St}{H:Hp}{s:Shared}(I:Inv X pins σ H s):∀{ts:List Addr}{vs:List Value}{bs:List (List Int)},Vals (ts.map V.ref) vs->Paired (λt b=>aV X.K H t (b.map V.int)) ts bs->Paired (f9 s.heap) vs bs
 | [],vs,_,r,.nil=>by
  rw [List.map_nil] at r
  cases r
  exact .nil
 | t::ts,vs,b::bs,r,.cons h p=>by
  rw [List.map_cons] at r
  cases r with
  | cons r1 r2=>
   cases r1
   obtain ⟨its,rv,⟨o,h1,h2,n,h3⟩,_⟩:=I.tuple h
   exact .cons ⟨t,o,_,n,rfl,h1,h2,h3,intsAre_of rv⟩ (BN I r2 p)
theorem Hq {ts:List Addr}{i:Nat}{d:Addr}(h:i<ts.length):(ts.map V.ref).getD i .aZ=.ref (ts.getD i d):=by simp [h]
theorem K1 {xs:List V}{vs:List Value}(r:Vals xs vs){i:Nat}(h:i<xs.length):RelV (xs.getD i .aZ) (vs.getD i .none):=by
 obtain ⟨w',e,eR⟩:=r.get (i:=i) (List.getElem?_eq_getElem h)
 have e1:vs.getD i .none=w':=by simp [e]
 have e2:xs.getD i .aZ=xs[i]:=by simp [h]
 rw [e1,e2]
 exact eR
theorem zu {xs:List V}{vs:List Value}(r:Vals xs vs):∀{l:List Nat},(∀i∈l,i<xs.length)->Vals (l.map λi=>xs.getD i .aZ) (l.map λi=>vs.getD i .none)
 | [],_=>.nil
 | i::l,h=>.cons (K1 r (h i List.mem_cons_self)) (zu r λj hj=>h j (List.mem_cons_of_mem _ hj))
theorem uO {α β:Type}{F:α->β->Prop}{d:α}{e:β}{l₁:List α}{l₂:List β}(p:Paired F l₁ l₂):∀{l:List Nat},(∀i∈l,i<l₁.length)->Paired F (l.map λi=>l₁.getD i d) (l.map λi=>l₂.getD i e)
 | [],_=>.nil
 | i::l,h=>.cons (lh p i (h i List.mem_cons_self)) (uO p λj hj=>h j (List.mem_cons_of_mem _ hj))
theorem U2:∀k∈[0,1,2,3,4,5,6],((nH k).toList.all λi=>Nat.blt i (2 ^ k))=true:=by decide +kernel
theorem zv:fX X (.builtin "sorted") (λxs H Q=>∃p ts k,xs=[.ref p]/\ak X.K H p (ts.map V.ref)/\Paired (λt b=>aV X.K H t (b.map V.int)) ts (dq k)/\1<=k/\k<=6/\
 ∀D qh,H D=none->Paired (λt b=>aV X.K H t (b.map V.int)) qh (dw k)->Q (.ref D) (upd H D (.lst (qh.map V.ref)))):=by
 intro pins s σ H xs us Q I r h
 obtain ⟨p,ts,k,rfl,hp,hb,h1,h6,q⟩:=h
 obtain ⟨u,rfl,rx⟩:=vals1 r
 cases (show u=Value.ref p from rx)
 obtain ⟨its,rv,pl,hz⟩:=I.list hp
 have l1:=rv.length
 rw [List.length_map] at l1
 have l2:=hb.length
 rw [g7] at l2
 have hk:k∈[0,1,2,3,4,5,6]:=by
  rcases (show k=1\/k=2\/k=3\/k=4\/k=5\/k=6 by omega) with rfl | rfl | rfl | rfl | rfl | rfl <;> simp
 have two:2<=2 ^ k/\2 ^ k<=64:=by
  rcases (show k=1\/k=2\/k=3\/k=4\/k=5\/k=6 by omega) with rfl | rfl | rfl | rfl | rfl | rfl <;> decide
 have pk:∀i∈(nH k).toList,i<2 ^ k:=λi hi=>by
  have:=List.all_eq_true.mp (U2 k hk) i hi
  rwa [Nat.blt_eq] at this
 refine AV (k:=k) (q:=nH k) pl.isList (BN I rv hb) (xr k) h1 (by omega) (by omega) (E6 k h1 h6) ?_
 obtain ⟨n,hn⟩:=pB s.heap its ((nH k).map λi=>its.getD i .none)
 have cx:=uO (d:=0) (e:=[]) hb (l:=(nH k).toList) (λi hi=>by have:=pk i hi; omega)
 rw [KZ k hk] at cx
 refine ⟨.ref (s.heap.objs.size+1),_,I.laid (t':=s.toks) (o:=.lst (((nH k).toList.map λi=>ts.getD i 0).map V.ref)) (λb o hb=>nI hb) (by omega) ?_,rfl,q _ _ (I.hok.fresh (by omega)) cx⟩
 refine ⟨?_,((nH k).map λi=>its.getD i .none).toList,n,?_,?_⟩
 . rw [List.length_map,List.length_map,Array.length_toList,E5 k hk,sizeLine_eq]
   omega
 . have v:=zu rv (l:=(nH k).toList) (λi hi=>by rw [List.length_map]; have:=pk i hi; omega)
   rw [Array.toList_map]
   have e:((nH k).toList.map λi=>ts.getD i 0).map V.ref=(nH k).toList.map λi=>(ts.map V.ref).getD i .aZ:=by
    rw [List.map_map]
    refine List.map_congr_left λi hi=>?_
    show V.ref (ts.getD i 0)=_
    exact (Hq (by have:=pk i hi; omega)).symm
   rw [e]
   exact v
 . rw [Array.toArray_toList]
   exact hn
def yn (K:W.Frag):R2:=λx y H Q=>∃a b xs ys,x=.ref a/\y=.ref b/\aV K H a xs/\aV K H b ys/\ys≠[]/\xs.length+ys.length<=sizeLine/\(xs=[]->Q (.ref b) H)/\(xs≠[]->∀p,H p=none->Q (.ref p) (upd H p (.tup (xs++ys))))
theorem BO:dH X (binaryOp .Add) (yn X.K):=by
 intro pins s σ H x y v u Q I rx ry h
 obtain ⟨a,b,xs,ys,rfl,rfl,ha,hb,hy,hz,q1,q2⟩:=h
 by_cases hx:xs=[]
 . cases rx
   cases ry
   obtain ⟨its,r1,p1,_⟩:=I.tuple ha
   obtain ⟨mX,r2,p2,_⟩:=I.tuple hb
   obtain ⟨⟨cls,dd,data,sl⟩,ho,hc,n,hd⟩:=id p1
   obtain ⟨⟨UE,Br,data2,Bs⟩,yM,hc2,n2,hd2⟩:=id p2
   simp only at hc hd hc2 hd2
   subst hc hd hc2 hd2
   have he:its=[]:=r1.qJ.mpr hx
   exact concat_meets ⟨_,ho,rfl⟩ ⟨_,yM,rfl⟩ noFill_tuple_add seq_tuple_add PySem.F.slot_tuple_add PySem.F.entry_tuple_add (PySem.F.args_tuple_add_2 _ _)
    (tuple_addW0 a b its.toArray mX.toArray n n2 dd Br sl Bs (by simp [he])) ⟨ho,yM,⟨.ref b,H,I,rfl,q1 hx⟩⟩
 . exact Kr pins s σ H _ _ v u Q I rx ry ⟨a,b,xs,ys,rfl,rfl,ha,hb,hx,hz,λe=>absurd e hy,λ_=>q2 hx⟩
end
end L2
namespace L2
open PySem PySem.Spec PyProof.Rows PySem.W
section
variable {prog:Program}{w:World}{A:Around}{E:Value->Shared->Prop}{s:Shared}
theorem Hr {a:Addr}{vs:List Value}{n:Nat}{P:Fin->Shared->Prop}(ho:s.heap.get? a=some (seqObj "list" vs.toArray n)) (h2:vs.length<2) (h:P (.done (.ret .none)) { s with heap:=sortedHeap s.heap a vs vs.toArray }) :
 wpAny (model prog w) A (Builtin.«list.sort» ⟨[.ref a],[]⟩) P E s:=by
 rw [list_sort_plain]
 have ha:a<s.heap.objs.size:=Heap.lt_size ho
 refine wpAny_bind (listItems_at ho rfl ?_)
 refine wpAny_bind (listUpdate_at ho rfl ?_ (by rw [List.size_toArray,sizeLine_eq]; omega) (Nat.zero_le _))
 obtain ⟨e1,E2⟩:∃e1,(s.heap.update a (Obj.mapSeq λ_=>#[])).get? a=some (seqObj "list" #[] e1):=⟨_,get?_update_seq ho (λ_=>#[])⟩
 refine wpAny_bind (seqEpoch_at E2 rfl ?_)
 refine wpAny_bind (wpAny_newTuple ?_ (by show vs.length<=_; rw [sizeLine_eq]; omega))
 refine wpAny_bind (wpAny_newList ?_ (Nat.zero_le _))
 refine wpAny_holding ?_
 have BL:(((s.heap.update a (Obj.mapSeq λ_=>#[])).push (seqObj "tuple" vs.toArray 0)).push (seqObj "list" #[] 0)).get? a=some (seqObj "list" #[] e1):=
  Heap.get?_push_of_some _ (Heap.get?_push_of_some _ E2)
 show wpAny (model prog w) A _ P E { s with heap:=((s.heap.update a (Obj.mapSeq λ_=>#[])).push (seqObj "tuple" vs.toArray 0)).push (seqObj "list" #[] 0) }
 dsimp only
 have gh:vs.toArray.size<2:=by rw [List.size_toArray]; omega
 rw [if_pos gh,if_pos gh]
 refine wpAny_bind (wpAny_pure ?_)
 rw [StateT.run_pure]
 refine wpAny_bind (wpAny_pure ?_)
 dsimp only
 have hsz:((vs.toArray.zip vs.toArray).map (·.2))=vs.toArray:=by
  apply Array.ext
  . simp
  . intro i h1 h2
    simp
 refine wpAny_bind (seqEpoch_at BL rfl ?_)
 show wpAny _ _ (Builtin.List.listUpdate (.ref a) (λ_=>((vs.toArray.zip vs.toArray).map (·.2))) >>= _) _ _ _
 rw [hsz]
 refine wpAny_bind (listUpdate_at BL rfl ?_ (hsz2:=by rw [List.size_toArray,sizeLine_eq]; omega))
 simp only [bne_self_eq_false,Bool.false_eq_true,if_false]
 exact wpAny_pure h
theorem Dj {l:Addr}{vs:List Value}{Q:Value->Shared->Prop}(hl:s.heap.IsList l vs.toArray) (h2:vs.length<2) (h:Q (.ref (s.heap.objs.size+1)) { s with heap:=sortedAll s.heap vs vs.toArray }) :
 wpAny (model prog w) A (call (.builtin "sorted") [.ref l]) Q E s:=by
 refine Calls.call_function_entry kind_sorted plain_sorted entry_sorted (args_sorted1 _) ?_
 unfold Builtin.«sorted»
 refine wpAny_bind (m:=checkCount "sorted" 1 1 _) (wpAny_pure ?_)
 refine wpAny_bind (collect_list hl ?_ (by rw [sizeLine_eq]; omega))
 refine wpAny_bind (wpAny_newList ?_ (by rw [sizeLine_eq]; omega))
 have hsz:((s.heap.push (seqObj "list" #[] 0)).update s.heap.objs.size (Obj.mapSeq (· ++ vs.toArray))).objs.size=s.heap.objs.size+1:=by
  rw [Heap.size_update,size_push']
 have yA:(((s.heap.push (seqObj "list" #[] 0)).update s.heap.objs.size (Obj.mapSeq (· ++ vs.toArray))).push (seqObj "list" vs.toArray 0)).get? (s.heap.objs.size+1)=some (seqObj "list" vs.toArray 0):=by
  rw [← hsz]; exact Heap.get?_push_size _ rfl
 show wpAny _ _ _ _ _ { s with heap:=((s.heap.push (seqObj "list" #[] 0)).update s.heap.objs.size (Obj.mapSeq (· ++ vs.toArray))).push (seqObj "list" vs.toArray 0) }
 rw [hsz]
 refine wpAny_bind (wpAny_holding (wpAny_call_entry slot_list_sort ⟨_,yA,rfl⟩ entry_list_sort (Hr yA h2 ⟨_,rfl,?_⟩) (args_list_sort _)))
 exact wpAny_pure ⟨_,rfl,h⟩
end
theorem sZ:∀{b c:List Int},b.map V.int=c.map V.int->b=c
 | [],[],_=>rfl
 | [],_::_,h=>nomatch h
 | _::_,[],h=>nomatch h
 | x::b,y::c,h=>by
  rw [List.map_cons,List.map_cons] at h
  have h1:=List.cons.inj h
  rw [V.int.inj h1.1,sZ h1.2]
section
variable {X:Cx}
theorem zw:fX X (.builtin "sorted") (λxs H Q=>∃p ts k,xs=[.ref p]/\ak X.K H p (ts.map V.ref)/\Paired (λt b=>aV X.K H t (b.map V.int)) ts (dq k)/\k<=6/\
 ∀D qh,H D=none->Paired (λt b=>aV X.K H t (b.map V.int)) qh (dw k)->Q (.ref D) (upd H D (.lst (qh.map V.ref)))):=by
 intro pins s σ H xs us Q I r h
 obtain ⟨p,ts,k,rfl,hp,hb,h6,q⟩:=h
 by_cases hk:k=0
 . subst hk
   obtain ⟨u,rfl,rx⟩:=vals1 r
   cases (show u=Value.ref p from rx)
   obtain ⟨its,rv,pl,hz⟩:=I.list hp
   have l1:=rv.length
   rw [List.length_map] at l1
   have l2:=hb.length
   rw [g7] at l2
   obtain ⟨n,hn⟩:=pB s.heap its its.toArray
   refine Dj pl.isList (by omega) ⟨.ref (s.heap.objs.size+1),_,I.laid (t':=s.toks) (o:=.lst (ts.map V.ref)) (λb o hb=>nI hb) (by omega) ⟨hz,its,n,rv,hn⟩,rfl,q _ ts (I.hok.fresh (by omega)) hb⟩
 . exact zv pins s σ H _ us Q I r ⟨p,ts,k,rfl,hp,hb,by omega,h6,q⟩
open Classical in
def U3 (K:W.Frag):R2:=λx y H Q=>∃(t p:Addr) (b:List Int) (ts:List Addr) (bs:List (List Int)),x=.ref t/\y=.ref p/\aV K H t (b.map V.int)/\ak K H p (ts.map V.ref)/\Paired (λt b=>aV K H t (b.map V.int)) ts bs/\Q (.bl (decide (b∈bs))) H
theorem K2 {A:Around}{pins:List (Addr×Obj)}{σ:St}{H:Hp}{s:Shared}(I:Inv X pins σ H s) (hu:A.units+1<cLine){t u:Addr}{b c:List Int}(ht:aV X.K H t (b.map V.int)) (pC:aV X.K H u (c.map V.int)):SeqAt.EqAt A s (.ref t) (.ref u) (decide (b=c)):=by
 by_cases e:t=u
 . subst e
   have e2:b=c:=sZ (I.pM ht pC)
   rw [decide_eq_true e2]
   exact SeqAt.EqAt.same _
 . refine SeqAt.EqAt.of_refs e ?_
   obtain ⟨its,rv,pl,_⟩:=I.tuple ht
   obtain ⟨its',qf,uM,_⟩:=I.tuple pC
   have l1:=rv.length
   have l2:=qf.length
   rw [List.length_map] at l1 l2
   have key:=SeqAt.RcAt.tuples (A:=A) (s:=s) (e:=λj=>decide (b.getD j 0=c.getD j 0)) pl uM (by omega) (λj g1 g2=>?_)
   . have e3:((List.range (min its.toArray.size its'.toArray.size)).all (λj=>decide (b.getD j 0=c.getD j 0)) && its.toArray.size == its'.toArray.size)=decide (b=c):=by
      rw [Bool.eq_iff_iff,Bool.and_eq_true,decide_eq_true_eq,List.all_eq_true]
      simp only [List.size_toArray,beq_iff_eq,List.mem_range,decide_eq_true_eq]
      constructor
      . rintro ⟨h1,h2⟩
        apply List.ext_getElem (by omega)
        intro i g1 g2
        have:=h1 i (by omega)
        simpa [g1,g2] using this
      . rintro rfl
        exact ⟨λ_ _=>rfl,by omega⟩
     rw [← e3]
     exact key
   . simp only [List.size_toArray] at g1 g2
     have hj:j<b.length:=by omega
     have RV:j<c.length:=by omega
     obtain ⟨w1,e1,r1⟩:=rv.get (x:=.int b[j]) (by rw [List.getElem?_map,List.getElem?_eq_getElem hj]; rfl)
     obtain ⟨w2,e2,r2⟩:=qf.get (x:=.int c[j]) (by rw [List.getElem?_map,List.getElem?_eq_getElem RV]; rfl)
     have z:=Ej (A:=A.in1) (s:=s) r1 r2 rfl rfl
     have a1:its.toArray[j]=w1:=by
      have:=(List.getElem?_eq_some_iff.mp e1).2
      simpa using this
     have a2:its'.toArray[j]=w2:=by
      have:=(List.getElem?_eq_some_iff.mp e2).2
      simpa using this
     rw [a1,a2]
     have e4:o8 (.int b[j]) (.int c[j])=decide (b.getD j 0=c.getD j 0):=by
      simp [o8,hj,RV]
      rfl
     rw [← e4]
     exact z
theorem zx {A:Around}{pins:List (Addr×Obj)}{σ:St}{H:Hp}{s:Shared}(I:Inv X pins σ H s) (hu:A.units+1<cLine){t:Addr}{b:List Int}(ht:aV X.K H t (b.map V.int)) (f:Value->Bool) (hf:∀u c,aV X.K H u (c.map V.int)->f (.ref u)=decide (c=b)):∀{ts:List Addr}{vs:List Value}{bs:List (List Int)},Vals (ts.map V.ref) vs->Paired (λt b=>aV X.K H t (b.map V.int)) ts bs->(∀v∈vs,SeqAt.EqAt A s v (.ref t) (f v))/\vs.any f=bs.any λc=>decide (c=b)
 | [],vs,_,r,.nil=>by
  rw [List.map_nil] at r
  cases r
  exact ⟨(λ_ h=>nomatch h),rfl⟩
 | u::ts,vs,c::bs,r,.cons h p=>by
  rw [List.map_cons] at r
  cases r with
  | cons r1 r2=>
   cases r1
   obtain ⟨h1,h2⟩:=zx I hu ht f hf r2 p
   refine ⟨λv hv=>?_,?_⟩
   . rcases List.mem_cons.mp hv with rfl | hv
     . rw [hf u c h]
       exact K2 I hu h ht
     . exact h1 v hv
   . rw [List.any_cons,List.any_cons,h2,hf u c h]
open Classical in
theorem Na (hu:X.A.units+2<cLine):dH X (compareOp .In) (U3 X.K):=by
 intro pins s σ H x y v u Q I rx ry h
 obtain ⟨t,p,b,ts,bs,rfl,rfl,ht,hp,hb,q⟩:=h
 cases (show v=Value.ref t from rx)
 cases (show u=Value.ref p from ry)
 obtain ⟨its,rv,pl,hz⟩:=I.list hp
 have hf:∀u c,aV X.K H u (c.map V.int)->(λv:Value=>decide (∃u,v=.ref u/\aV X.K H u (b.map V.int))) (.ref u)=decide (c=b):=λu c hc=>by
  show decide _=decide _
  congr 1
  refine propext ⟨?_,?_⟩
  . rintro ⟨u',e,h'⟩
    cases e
    exact sZ (I.pM hc h')
  . rintro rfl
    exact ⟨u,rfl,hc⟩
 obtain ⟨m1,m2⟩:=zx (A:=X.A.in1) I (by show X.A.in1.units+1<cLine; exact hu) ht (λv:Value=>decide (∃u,v=.ref u/\aV X.K H u (b.map V.int))) hf rv hb
 refine SeqAt.in_listAt _ pl.isList (λw hw=>m1 w (by simpa using hw)) ⟨.bl _,H,I,rfl,?_⟩
 have e:its.toArray.any (λv:Value=>decide (∃u,v=.ref u/\aV X.K H u (b.map V.int)))=decide (b∈bs):=by
  rw [show its.toArray.any (λv:Value=>decide (∃u,v=.ref u/\aV X.K H u (b.map V.int)))=its.any (λv:Value=>decide (∃u,v=.ref u/\aV X.K H u (b.map V.int))) by simp,m2,Bool.eq_iff_iff,List.any_eq_true,decide_eq_true_eq]
  constructor
  . rintro ⟨c,hc,e⟩
    exact of_decide_eq_true e ▸ hc
  . intro h
    exact ⟨b,h,by simp⟩
 rw [e]
 exact q
end
end L2
namespace L2
open PySem PySem.Spec PyProof.Rows
mutual
inductive Dp (K:W.Frag) (H:Hp):V->PyData->Prop
 | aZ:Dp K H .aZ .none
 | bl (b):Dp K H (.bl b) (.bool b)
 | int (i):Dp K H (.int i) (.int i)
 | str (x):Dp K H (.str x) (.str x)
 | lst {a xs ds} : ak K H a xs->j5 K H xs ds->Dp K H (.ref a) (.list ds)
 | tup {a xs ds} : aV K H a xs->j5 K H xs ds->Dp K H (.ref a) (.tuple ds)
inductive j5 (K:W.Frag) (H:Hp):List V->List PyData->Prop
 | nil:j5 K H [] []
 | cons {x d xs ds} : Dp K H x d->j5 K H xs ds->j5 K H (x::xs) (d::ds)
end
section
variable {X:Cx}{pins:List (Addr×Obj)}{σ:St}{H:Hp}{s:Shared}
mutual
theorem Dp.reads (I:Inv X pins σ H s):∀{x:V}{d:PyData},Dp X.K H x d->∀{v:Value},RelV x v->∃as,Reads s.heap v d as
 | _,_,.aZ,v,r=>by cases (show v=Value.none from r); exact ⟨_,.none⟩
 | _,_,.bl b,v,r=>by cases (show v=Value.bool b from r); exact ⟨_,.bool b⟩
 | _,_,.int i,v,r=>by obtain ⟨t,rfl⟩:=r; exact ⟨_,.int i t⟩
 | _,_,.str x,v,r=>by obtain ⟨t,rfl⟩:=r; exact ⟨_,.str x t⟩
 | _,_,.lst (a:=a) h1 h2,v,r=>by
  cases (show v=Value.ref a from r)
  obtain ⟨its,rv,⟨o,n,e,c,dn,dt⟩,_⟩:=I.list h1
  obtain ⟨as,ra⟩:=j5.reads I h2 rv
  exact ⟨_,.list e c dt ra⟩
 | _,_,.tup (a:=a) h1 h2,v,r=>by
  cases (show v=Value.ref a from r)
  obtain ⟨its,rv,⟨o,e,c,n,dt⟩,_⟩:=I.tuple h1
  obtain ⟨as,ra⟩:=j5.reads I h2 rv
  exact ⟨_,.tuple e c dt ra⟩
theorem j5.reads (I:Inv X pins σ H s):∀{xs:List V}{ds:List PyData},j5 X.K H xs ds->∀{vs:List Value},Vals xs vs->∃as,ReadsAll s.heap vs ds as
 | _,_,.nil,_,.nil=>⟨_,.nil⟩
 | _,_,.cons h1 h2,_,.cons r1 r2=>by
  obtain ⟨as,ra⟩:=Dp.reads I h1 r1
  obtain ⟨bs,rb⟩:=j5.reads I h2 r2
  exact ⟨_,.cons ra rb⟩
end
theorem j5.len {K:W.Frag}{H:Hp} : ∀{xs:List V}{ds:List PyData},j5 K H xs ds->xs.length=ds.length
 | _,_,.nil=>rfl
 | _,_,.cons _ t=>by rw [List.length_cons,List.length_cons,t.len]
theorem tf {K:W.Frag}{H:Hp}{α:Type}{f:α->PyData} : ∀{us:List Addr}{l:List α},Paired (λu a=>Dp K H (.ref u) (f a)) us l->j5 K H (us.map V.ref) (l.map f)
 | _,_,.nil=>.nil
 | _,_,.cons h t=>.cons h (tf t)
theorem zy {K:W.Frag}{H:Hp} : ∀(ns:List Int),j5 K H (ns.map V.int) (ns.map PyData.int)
 | []=>.nil
 | n::ns=>.cons (.int n) (zy ns)
abbrev dT (b:List Int):PyData:=.tuple (b.map PyData.int)
theorem i4 {K:W.Frag}{H:Hp}{t:Addr}{b:List Int}(h:aV K H t (b.map V.int)):Dp K H (.ref t) (dT b):=.tup h (zy b)
theorem lay_ints:∀(b:List Int),PyData.canLayAll0 (b.map PyData.int)=true
 | []=>rfl
 | _::b=>by rw [List.map_cons,PyData.canLayAll0,lay_ints b]; rfl
theorem mr (b:List Int):(dT b).canLay0=true:=by rw [PyData.canLay0]; exact lay_ints b
theorem zz:∀(b:List Int),PyData.depthAll (b.map PyData.int)=0
 | []=>rfl
 | _::b=>by rw [List.map_cons,PyData.depthAll,zz b]; rfl
theorem qS (b:List Int):(dT b).depth=1:=by rw [PyData.depth,zz]
theorem zA:∀(b c:List Int),PyData.eqvAll (b.map PyData.int) (c.map PyData.int)=decide (b=c)
 | [],[]=>rfl
 | [],_::_=>rfl
 | _::_,[]=>rfl
 | x::b,y::c=>by
  rw [List.map_cons,List.map_cons,PyData.eqvAll,zA b c,PyData.eqv,Bool.eq_iff_iff,Bool.and_eq_true,decide_eq_true_eq,decide_eq_true_eq,beq_iff_eq,List.cons.injEq]
theorem oM (b c:List Int):PyData.eqv (dT b) (dT c)=decide (b=c):=by rw [PyData.eqv]; exact zA b c
def RW (K:W.Frag) (n:Nat) (f:PyData->PyData->Bool):R2:=λx y H Q=>∃da db,Dp K H x da/\Dp K H y db/\da.canLay0=true/\db.canLay0=true/\min da.depth db.depth<=n/\Q (.bl (f da db)) H
theorem K3 {n:Nat}(hu:X.A.units+n<cLine):dH X (compareOp .Eq) (RW X.K n PyData.eqv):=by
 intro pins s σ H x y v u Q I rx ry h
 obtain ⟨da,db,ha,hb,la,lb,hd,q⟩:=h
 obtain ⟨as,ra⟩:=ha.reads I rx
 obtain ⟨bs,rb⟩:=hb.reads I ry
 exact SeqAt.rcAt_reads ra rb la lb (by omega) X.prog X.w X.xe _ ⟨.bl _,H,I,rfl,q⟩
theorem K4 {n:Nat}(hu:X.A.units+n<cLine):dH X (compareOp .NotEq) (RW X.K n λa b=>!PyData.eqv a b):=by
 intro pins s σ H x y v u Q I rx ry h
 obtain ⟨da,db,ha,hb,la,lb,hd,q⟩:=h
 obtain ⟨as,ra⟩:=ha.reads I rx
 obtain ⟨bs,rb⟩:=hb.reads I ry
 exact SeqAt.rcNeAt_reads ra rb la lb (by omega) X.prog X.w X.xe _ ⟨.bl _,H,I,rfl,q⟩
noncomputable def i5 (h:Heap) (d:PyData) (v:Value):Bool:=@decide (∃e as,Reads h v e as/\e.canLay0=true/\PyData.eqv e d=true) (Classical.propDecidable _)
mutual
theorem xt {h:Heap} : ∀{d:PyData}{v:Value}{as:List Addr},Reads h v d as->d.canLay0=true->∀{e:PyData}{bs:List Addr},Reads h v e bs->e.canLay0=true->e=d
 | _,_,_,.none,_,_,_,.none,_=>rfl
 | _,_,_,.bool _,_,_,_,.bool _,_=>rfl
 | _,_,_,.int _ _,_,_,_,.int _ _,_=>rfl
 | _,_,_,.str _ _,_,_,_,.str _ _,_=>rfl
 | _,_,_,.list h1 c1 d1 r1,l1,_,_,r,l2=>by
  cases r with
  | list h2 c2 d2 r2=>
   rw [h1] at h2; cases h2
   rw [d1] at d2; cases d2
   rw [kE r1 (by rw [PyData.canLay0] at l1; exact l1) r2 (by rw [PyData.canLay0] at l2; exact l2)]
  | tuple h2 c2 d2 r2=>rw [h1] at h2; cases h2; rw [c1] at c2; exact absurd c2 (by decide)
  | dict h2 c2 d2 r2 r3=>rw [PyData.canLay0] at l2; cases l2
 | _,_,_,.tuple h1 c1 d1 r1,l1,_,_,r,l2=>by
  cases r with
  | tuple h2 c2 d2 r2=>
   rw [h1] at h2; cases h2
   rw [d1] at d2; cases d2
   rw [kE r1 (by rw [PyData.canLay0] at l1; exact l1) r2 (by rw [PyData.canLay0] at l2; exact l2)]
  | list h2 c2 d2 r2=>rw [h1] at h2; cases h2; rw [c1] at c2; exact absurd c2 (by decide)
  | dict h2 c2 d2 r2 r3=>rw [PyData.canLay0] at l2; cases l2
 | _,_,_,.dict _ _ _ _ _,l1,_,_,_,_=>by rw [PyData.canLay0] at l1; cases l1
theorem kE {h:Heap} : ∀{ds:List PyData}{vs:List Value}{as:List Addr},ReadsAll h vs ds as->PyData.canLayAll0 ds=true->∀{es:List PyData}{bs:List Addr},ReadsAll h vs es bs->PyData.canLayAll0 es=true->es=ds
 | _,_,_,.nil,_,_,_,.nil,_=>rfl
 | _,_,_,.cons r1 t1,l1,_,_,.cons r2 t2,l2=>by
  rw [PyData.canLayAll0,Bool.and_eq_true] at l1 l2
  rw [xt r1 l1.1 r2 l2.1,kE t1 l1.2 t2 l2.2]
end
theorem nJ {h:Heap}{v:Value}{d e:PyData}{as:List Addr}(r:Reads h v e as) (l:e.canLay0=true):i5 h d v=PyData.eqv e d:=by
 unfold i5
 rw [Bool.eq_iff_iff,@decide_eq_true_eq _ (Classical.propDecidable _)]
 constructor
 . rintro ⟨e',bs,r',l',q⟩
   rwa [xt r l r' l'] at q
 . exact λq=>⟨e,as,r,l,q⟩
theorem readsAll_mem {h:Heap} : ∀{vs:List Value}{ds:List PyData}{as:List Addr},ReadsAll h vs ds as->∀v∈vs,∃d∈ds,∃bs,Reads h v d bs
 | _,_,_,.nil,v,hv=>nomatch hv
 | _,_,_,.cons r t,v,hv=>by
  rcases List.mem_cons.mp hv with rfl | hv
  . exact ⟨_,List.mem_cons_self,_,r⟩
  . obtain ⟨d,hd,bs,q⟩:=readsAll_mem t v hv
    exact ⟨d,List.mem_cons_of_mem _ hd,bs,q⟩
theorem g8 {h:Heap}{d:PyData} : ∀{vs:List Value}{ds:List PyData}{as:List Addr},ReadsAll h vs ds as->(∀e∈ds,e.canLay0=true)->vs.any (i5 h d)=ds.any λe=>PyData.eqv e d
 | _,_,_,.nil,_=>rfl
 | _,_,_,.cons r t,l=>by
  rw [List.any_cons,List.any_cons,nJ r (l _ List.mem_cons_self),g8 t λe he=>l e (List.mem_cons_of_mem _ he)]
theorem readsAll_get {h:Heap} : ∀{vs:List Value}{ds:List PyData}{as:List Addr},ReadsAll h vs ds as->∀(i:Nat) (h1:i<vs.length) (h2:i<ds.length),∃bs,Reads h vs[i] ds[i] bs
 | _,_,_,.nil,i,h1,_=>absurd h1 (Nat.not_lt_zero _)
 | _,_,_,.cons r t,0,_,_=>⟨_,r⟩
 | _,_,_,.cons r t,i+1,h1,h2=>readsAll_get t i (Nat.lt_of_succ_lt_succ h1) (Nat.lt_of_succ_lt_succ h2)
def Nb (K:W.Frag) (n:Nat) (neg:Bool):R2:=λx y H Q=>∃(p:Addr) (xs:List V) (d:PyData) (ds:List PyData),y=.ref p/\(ak K H p xs\/aV K H p xs)/\j5 K H xs ds/\Dp K H x d/\d.canLay0=true/\(∀e∈ds,e.canLay0=true)/\d.depth<=n/\
 Q (.bl (if neg=true then !(ds.any λe=>PyData.eqv e d) else ds.any λe=>PyData.eqv e d)) H
theorem acs {n:Nat}(hu:X.A.units+n+1<cLine):dH X (compareOp .In) (Nb X.K n false):=by
 intro pins s σ H x y v u Q I rx ry h
 obtain ⟨p,xs,d,ds,rfl,hq,jg,hd,ld,mv,hn,q⟩:=h
 cases (show u=Value.ref p from ry)
 obtain ⟨bs,rb⟩:=hd.reads I rx
 have key:∀{vs:List Value}{as:List Addr},ReadsAll s.heap vs ds as->∀w∈vs,SeqAt.EqAt X.A.in1 s w v (i5 s.heap d w):=λra w hw=>by
  obtain ⟨e,he,cs,rc⟩:=readsAll_mem ra w hw
  rw [nJ rc (mv e he)]
  exact SeqAt.eqAt_reads e d X.A.in1 s w v cs bs rc rb (mv e he) ld (by show X.A.units+1+min e.depth d.depth<cLine; omega)
 rcases hq with hq | hq
 . obtain ⟨its,r,pl,hz⟩:=I.list hq
   obtain ⟨as,ra⟩:=jg.reads I r
   refine SeqAt.in_listAt (i5 s.heap d) pl.isList (λw hw=>key ra w (by simpa using hw)) ⟨.bl _,H,I,rfl,?_⟩
   rw [show its.toArray.any (i5 s.heap d)=its.any (i5 s.heap d) by simp,g8 ra mv]
   exact q
 . obtain ⟨its,r,pl,hz⟩:=I.tuple hq
   obtain ⟨as,ra⟩:=jg.reads I r
   refine SeqAt.in_tupleAt (i5 s.heap d) pl (λw hw=>key ra w (by simpa using hw)) ⟨.bl _,H,I,rfl,?_⟩
   rw [show its.toArray.any (i5 s.heap d)=its.any (i5 s.heap d) by simp,g8 ra mv]
   exact q
theorem E7 {n:Nat}(hu:X.A.units+n+1<cLine):dH X (compareOp .NotIn) (Nb X.K n true):=by
 intro pins s σ H x y v u Q I rx ry h
 obtain ⟨p,xs,d,ds,rfl,hq,jg,hd,ld,mv,hn,q⟩:=h
 cases (show u=Value.ref p from ry)
 obtain ⟨bs,rb⟩:=hd.reads I rx
 have key:∀{vs:List Value}{as:List Addr},ReadsAll s.heap vs ds as->∀w∈vs,SeqAt.EqAt X.A.in1 s w v (i5 s.heap d w):=λra w hw=>by
  obtain ⟨e,he,cs,rc⟩:=readsAll_mem ra w hw
  rw [nJ rc (mv e he)]
  exact SeqAt.eqAt_reads e d X.A.in1 s w v cs bs rc rb (mv e he) ld (by show X.A.units+1+min e.depth d.depth<cLine; omega)
 rcases hq with hq | hq
 . obtain ⟨its,r,pl,hz⟩:=I.list hq
   obtain ⟨as,ra⟩:=jg.reads I r
   refine SeqAt.notIn_listAt (i5 s.heap d) pl.isList (λw hw=>key ra w (by simpa using hw)) ⟨.bl _,H,I,rfl,?_⟩
   rw [show its.toArray.any (i5 s.heap d)=its.any (i5 s.heap d) by simp,g8 ra mv]
   exact q
 . obtain ⟨its,r,pl,hz⟩:=I.tuple hq
   obtain ⟨as,ra⟩:=jg.reads I r
   refine SeqAt.notIn_tupleAt (i5 s.heap d) pl (λw hw=>key ra w (by simpa using hw)) ⟨.bl _,H,I,rfl,?_⟩
   rw [show its.toArray.any (i5 s.heap d)=its.any (i5 s.heap d) by simp,g8 ra mv]
   exact q
def K5 (K:W.Frag) (n:Nat):V->List V->Hp->VK->Prop:=λx ys H Q=>∃(p:Addr) (y:V) (xs:List V) (d:PyData) (ds:List PyData),x=.ref p/\ys=[y]/\ak K H p xs/\j5 K H xs ds/\Dp K H y d/\d.canLay0=true/\(∀e∈ds,e.canLay0=true)/\d.depth<=n/\∃j,∃hj:j<ds.length,PyData.eqv ds[j] d=true/\(∀i (hi:i<ds.length),i<j->PyData.eqv ds[i] d=false)/\Q (.int (j:Int)) H
theorem E8 {n:Nat}(hu:X.A.units+n+1<cLine):L6 X "list.index" (K5 X.K n):=by
 intro pins s σ H x ys v us Q I rx rv h
 obtain ⟨p,y,xs,d,ds,rfl,rfl,hq,jg,hd,ld,mv,hn,j,hj,hit,Nc,q⟩:=h
 cases (show v=Value.ref p from rx)
 obtain ⟨u,rfl,ru⟩:=rv.one
 obtain ⟨bs,rb⟩:=hd.reads I ru
 obtain ⟨its,r,⟨⟨cls,dd,data,sl⟩,m,ho,hc,qi,RX⟩,hz⟩:=I.list hq
 simp only at hc qi RX
 subst hc qi RX
 obtain ⟨as,ra⟩:=jg.reads I r
 have l1:=r.length
 have l2:=jg.len
 have hjl:j<its.length:=by omega
 have E9:sizeLine<=2 ^ 60:=by decide
 have Nd:(j:Int)<2 ^ 63-1:=by
  have:j<2 ^ 60:=by omega
  omega
 refine call_meets F.slot_list_index ⟨_,ho,rfl⟩ F.entry_list_index (F.args_list_index_2 _ _) (SeqAt.list_indexAt p its.toArray m none sl u (i5 s.heap d) j (by simpa using hjl) Nd ?_ ?_) ⟨ho,λw hw=>?_,⟨.int j,H,I.tok _,⟨_,rfl⟩,q⟩⟩
 . obtain ⟨cs,rc⟩:=readsAll_get ra j hjl hj
   show i5 s.heap d its[j]=true
   rw [nJ rc (mv _ (List.getElem_mem hj)),hit]
 . intro i hi cq
   have pf:i<its.length:=by simpa using hi
   obtain ⟨cs,rc⟩:=readsAll_get ra i pf (by omega)
   show i5 s.heap d its[i]=false
   rw [nJ rc (mv _ (List.getElem_mem _)),Nc i (by omega) cq]
 . obtain ⟨e,he,cs,rc⟩:=readsAll_mem ra w (by simpa using hw)
   rw [nJ rc (mv e he)]
   exact SeqAt.eqAt_reads e d X.A.in1 s w u cs bs rc rb (mv e he) ld (by show X.A.units+1+min e.depth d.depth<cLine; omega)
theorem xu:dH X (compareOp .IsNot) (λx y H Q=>∃c d,x=.bl c/\y=.bl d/\Q (.bl (c != d)) H):=by
 intro pins s σ H x y v u Q I rx ry h
 obtain ⟨c,d,rfl,rfl,q⟩:=h
 cases (show v=Value.bool c from rx)
 cases (show u=Value.bool d from ry)
 exact isnot_bool ⟨.bl _,H,I,rfl,q⟩
end
end L2
namespace L2
open PySem PySem.Spec PyProof.Rows
section
variable {X:Cx}
def Nf (K:W.Frag) (neg:Bool):R2:=λx y H Q=>∃(p p':Addr) (xs:List V),x=.ref p/\y=.ref p'/\ak K H p xs/\ak K H p' []/\Q (.bl (if neg=true then !xs.isEmpty else xs.isEmpty)) H
theorem Ng (hu:X.A.units<cLine):dH X (compareOp .Eq) (Nf X.K false):=by
 intro pins s σ H x y v u Q I rx ry h
 obtain ⟨p,p',xs,rfl,rfl,h1,h2,q⟩:=h
 cases (show v=Value.ref p from rx)
 cases (show u=Value.ref p' from ry)
 obtain ⟨its,rv,pl,hz⟩:=I.list h1
 obtain ⟨its',qf,uM,ny⟩:=I.list h2
 have l1:=rv.length
 have l2:=qf.length
 cases xs with
 | nil=>
  have key:=SeqAt.RcAt.lists (A:=X.A) (s:=s) (e:=λ_=>true) pl.isList uM.isList (by simp only [List.size_toArray]; omega) hu (λj g1 g2=>by simp only [List.size_toArray,List.length_nil] at g1 l1; omega) X.prog X.w X.xe
  refine key _ ?_
  rw [show ((List.range its.toArray.size).all λ_=>true)=true by simp]
  exact ⟨.bl true,H,I,rfl,q⟩
 | cons a xs=>
  have key:=SeqAt.RcAt.lists_lengths (A:=X.A) (s:=s) pl.isList uM.isList (by simp only [List.size_toArray,List.length_cons,List.length_nil] at l1 l2 ⊢; rw [← l1,← l2]; rfl) hu X.prog X.w X.xe
  exact key _ ⟨.bl false,H,I,rfl,q⟩
theorem Nh (hu:X.A.units<cLine):dH X (compareOp .NotEq) (Nf X.K true):=by
 intro pins s σ H x y v u Q I rx ry h
 obtain ⟨p,p',xs,rfl,rfl,h1,h2,q⟩:=h
 cases (show v=Value.ref p from rx)
 cases (show u=Value.ref p' from ry)
 obtain ⟨its,rv,pl,hz⟩:=I.list h1
 obtain ⟨its',qf,uM,ny⟩:=I.list h2
 have l1:=rv.length
 have l2:=qf.length
 cases xs with
 | nil=>
  have key:=SeqAt.RcNeAt.lists (A:=X.A) (s:=s) (e:=λ_=>true) pl.isList uM.isList (by simp only [List.size_toArray]; omega) hu (λj g1 g2=>by simp only [List.size_toArray,List.length_nil] at g1 l1; omega) X.prog X.w X.xe
  refine key _ ?_
  rw [show (!(List.range its.toArray.size).all λ_=>true)=false by simp]
  exact ⟨.bl false,H,I,rfl,q⟩
 | cons a xs=>
  have key:=SeqAt.RcNeAt.lists_lengths (A:=X.A) (s:=s) pl.isList uM.isList (by simp only [List.size_toArray,List.length_cons,List.length_nil] at l1 l2 ⊢; rw [← l1,← l2]; rfl) hu X.prog X.w X.xe
  exact key _ ⟨.bl true,H,I,rfl,q⟩
end
end L2
namespace L2
open PySem PySem.Spec PyProof.Rows
section
variable {X:Cx}
def Ni (t:TS):TS:=λD σ H=>∃P:St->Hp->Prop,t { D with nx:=P } σ H/\∀bu H',P bu H'->D.nx bu H'
theorem SP.meet {pins:List (Addr×Obj)}{D:Ends}{P:St->Hp->Prop}(k:∀bu H',P bu H'->D.nx bu H'){f:Flow}{s:Shared}(h:SP X pins { D with nx:=P } f s):SP X pins D f s:=by
 cases f with
 | next=>obtain ⟨bu,H',I,q⟩:=h; exact ⟨bu,H',I,k _ _ q⟩
 | brk=>exact h
 | cont=>exact h
 | ret u=>exact h
theorem vS {st:Stmt}{t:TS}(h:PS X st t):PS X st (Ni t):=by
 rintro pins s σ H D I ⟨P,h1,h2⟩
 exact aP (h pins s σ H _ I h1) λf s1 h3=>SP.meet h2 h3
def Nj (t:TE):TE:=λσ H Q=>∃P:VK,t σ H P/\∀v H',P v H'->Q v H'
theorem K6 {e:Expr}{t:TE}(h:PE X e t):PE X e (Nj t):=by
 rintro pins s σ H Q I ⟨P,h1,h2⟩
 exact aP (h pins s σ H _ I h1) λu s1 ⟨v,H',I',r,q⟩=>⟨v,H',I',r,h2 v H' q⟩
end
end L2
namespace Gen
open PySem L2
def top (i:Nat):Stmt:=PySem.Challenge.pw_everguard_k58_lassos.main.body.getD i (.Pass ⟨0,0,0,0⟩)
abbrev qT:Stmt:=top 41
abbrev tj:Stmt:=top 42
abbrev qU:Stmt:=top 43
abbrev lj:Stmt:=top 44
abbrev jm:Stmt:=top 45
abbrev iT:Stmt:=top 46
abbrev ly:Stmt:=top 47
abbrev dE:Stmt:=top 48
abbrev gc:Stmt:=top 49
structure Own (mg:Str->Option Value):Prop where
 len:mg "len" = none
 range:mg "range" = none
 enum:mg "enumerate" = none
 list:mg "list" = none
def cD (xs:List V):Prop:=(∃a:Int,xs=[.int a])\/∃a b:Int,xs=[.int a,.int b]
def aQ (H H':Hp) (l:Addr):Prop:=∀b o,H b=some o->b≠l->H' b=some o
theorem aQ.trans {H H1 H2:Hp}{l:Addr}(a:aQ H H1 l) (b:aQ H1 H2 l):aQ H H2 l:=λc o h n=>b c o (a c o h n) n
theorem aQ.refl (H:Hp) (l:Addr):aQ H H l:=λ_ _ h _=>h
theorem ai.keep {H H':Hp}(s:ai H H') (l:Addr):aQ H H' l:=λb o h _=>s b o h
theorem aQ.aq {H:Hp}{l p:Addr}{o:HO}(hp:H p=none):aQ H (upd H p o) l:=λb u h _=>by rw [ag (af h hp)]; exact h
theorem ai.aq {H:Hp}{p:Addr}{o:HO}(hp:H p=none):ai H (upd H p o):=λb u h=>by rw [ag (af h hp)]; exact h
theorem aQ.lV {H:Hp}{l:Addr}{o:HO} : aQ H (upd H l o) l:=λb u h n=>by rw [ag n]; exact h
theorem aQ.seq {K:W.Frag}{H H':Hp}{a l:Addr}{xs:List V}{n:List V}(e:aQ H H' l) (hl:H l=some (.lst n)) (h:ak K H a xs) (dh:a≠l):ak K H' a xs:=by
 rcases h with (h | ⟨o,h⟩) | h
 . exact .inl (.inl (e a _ h dh))
 . exact .inl (.inr ⟨o,e a _ h dh⟩)
 . exact .inr h
inductive BP (K:W.Frag) (vs:List V) (H:Hp) (Q:VK):Prop
 | mk (a:Addr) (ns:List Int) (k:Int) (h1:vs=[.ref a,.int k]) (h2:ak K H a (ns.map V.int)) (h3:0<=k) (h4:∀v:Int,Q (.int v) H):BP K vs H Q
def uP (K:W.Frag):Sp:=λvs H Q _=>BP K vs H Q
inductive Fb (vs:List V) (H:Hp) (Q:VK):Prop
 | mk (c k:Int) (h1:vs=[.int c,.int k]) (h2:0<=k) (h3:k<=1000000) (h4:∀v:Int,0<=v->v<1999999973->Q (.int v) H):Fb vs H Q
def Ja:Sp:=λvs H Q _=>Fb vs H Q
inductive BQ (vs:List V) (H:Hp) (Q:VK):Prop
 | mk (c k:Int) (h1:vs=[.int c,.int k]) (h2:0<=k) (h3:k<=1000) (h4:∀v:Int,Q (.int v) H):BQ vs H Q
def nK:Sp:=λvs H Q _=>BQ vs H Q
inductive BR (vs:List V) (H:Hp) (Q:VK):Prop
 | mk (l:Addr) (xs:List V) (m:Int) (h1:vs=[.ref l,.int m]) (h2:H l=some (.lst xs)) (h3:cD xs) (h4:0<m) (h5:m<1073741824) (h6:∀(d:Int) (ys:List V) (H':Hp),0<=d->d<m->cD ys->H' l=some (.lst ys)->aQ H H' l->Q (.int d) H'):BR vs H Q
def j6:Sp:=λvs H Q _=>BR vs H Q
section
variable {P:Program}{w:World}{K:W.Frag}{mg:Str->Option Value}{base:Heap}
theorem Nk:aO ["_law_script", "_law_k"] ["_law_script", "_law_k"] (ao qT):=⟨rfl,rfl,rfl,by decide +kernel,rfl,by decide +kernel,by decide +kernel⟩
theorem K7 {f:Addr}{fd:FuncData}(F:bJ K "_law_cell_at" "_law_cell_at" qT f fd) (T:Own mg):av P w K mg base az 1 f fd ["_law_script", "_law_k"] (uP K):=by
 refine F.ok Nk (λvs H Q E h=>?_) (λcdv A outer s H vs Q E hr h=>?_)
 . obtain ⟨a,ns,k,rfl,_⟩:=h
   rfl
 . obtain ⟨a,ns,k,rfl,hS,h0,kk⟩:=h
   refine ⟨_,aj (bh (aL ui (pv 1) (bb bj (by rfl) T.len PySem.boot_len (aa (pv 0) ah)) (aS _)) (au (aB (aY aU (pv 0) (pv 1) (λ_ _=>rfl)))) aT)
    (au (aB ar)),?_⟩
   refine ⟨_,rfl,_,rfl,a,_,rfl,.inl hS,_,_,rfl,rfl,_,rfl,?_⟩
   refine cA (λhc=>?_) (λ_=>kk 0)
   have cH:k<((ns.map V.int).length:Int):=of_decide_eq_true hc
   rw [List.length_map] at cH
   have hk:k.toNat<ns.length:=by omega
   have e:((k.toNat:Nat):Int)=k:=by omega
   have Fc:iE (ns.map V.int) ((k.toNat:Nat):Int)=some (.int ns[k.toNat]):=c9 (by rw [List.getElem?_map,List.getElem?_eq_getElem hk]; rfl)
   rw [e] at Fc
   exact ⟨_,rfl,_,rfl,a,_,_,.int ns[k.toNat],rfl,rfl,hS,Fc,kk _⟩
theorem Jb:aO ["_law_cell", "_law_k", "_law_m"] ["_law_cell", "_law_k"] (ao tj):=⟨rfl,rfl,rfl,by decide +kernel,rfl,by decide +kernel,by decide +kernel⟩
theorem Nl {f:Addr}{fd:FuncData}(F:bJ K "_law_mix" "_law_mix" tj f fd):av P w K mg base az 1 f fd ["_law_cell", "_law_k"] Ja:=by
 refine F.ok Jb (λvs H Q E h=>?_) (λcdv A outer s H vs Q E hr h=>?_)
 . obtain ⟨c,k,rfl,_⟩:=h
   rfl
 . obtain ⟨c,k,rfl,h0,h1,kk⟩:=h
   refine ⟨_,aj (aK (i:=2) Jb.nd rfl (Or.inl rfl) (aM jX (aM iD (aM dJ (aM dJ (aM jX (pv 0) ar) (aM iD (aM iD (pv 1) (pv 1)) ar)) ar) ar) ar))
    (au (aB (aM jX (aM iD (pv 2) (pv 2)) ar))),?_⟩
   refine ⟨_,rfl,_,_,rfl,rfl,(by show (0:Int)<2147483629; decide),_,rfl,_,rfl,_,_,rfl,rfl,.inl ⟨by omega,by omega⟩,_,_,rfl,rfl,.inr ⟨by decide,by decide⟩,_,_,rfl,rfl,_,_,rfl,rfl,
    _,_,rfl,rfl,.inr ⟨by decide,by decide⟩,_,_,rfl,rfl,(by show (0:Int)<2147483647; decide),?_⟩
   generalize hm:((c % 2147483629+k*k*7919+11)*48271 % 2147483647:Int)=m
   have m0:0<=m:=by rw [← hm]; exact Int.emod_nonneg _ (by decide)
   have m1:m<2147483647:=by rw [← hm]; exact Int.emod_lt_of_pos _ (by decide)
   refine ⟨_,rfl,_,rfl,_,_,rfl,rfl,.inl ⟨by omega,by omega⟩,_,_,rfl,rfl,(by show (0:Int)<1999999973; decide),?_⟩
   exact kk _ (Int.emod_nonneg _ (by decide)) (Int.emod_lt_of_pos _ (by decide))
theorem uQ:aO ["_law_cell", "_law_k", "_law_number", "_law_j"] ["_law_cell", "_law_k"] (ao qU):=⟨rfl,rfl,rfl,by decide +kernel,rfl,by decide +kernel,by decide +kernel⟩
theorem K8 {f fM:Addr}{fd Nm:FuncData}(F:bJ K "_law_rich" "_law_rich" qU f fd) (T:Own mg) (FM:bJ K "_law_mix" "_law_mix" tj fM Nm) (bM:Binds K Nm ["_law_cell", "_law_k"] []) (mM:mg "_law_mix" = some (.ref fM)) :
 av P w K mg base az 2 f fd ["_law_cell", "_law_k"] nK:=by
 have GM:av P w K mg base az 1 fM Nm ["_law_cell", "_law_k"] Ja:=Nl FM
 refine F.ok uQ (λvs H Q E h=>?_) (λcdv A outer s H vs Q E hr h=>?_)
 . obtain ⟨c,k,rfl,_⟩:=h
   rfl
 . obtain ⟨c,k,rfl,h0,h1,kk⟩:=h
   refine ⟨_,aj (aK (i:=2) uQ.nd rfl (Or.inl rfl) ar)
    (aj (dk PassesOwn.never rfl (eQ rfl T.range (aa ar ah)) (ax (i:=3) uQ.nd rfl (Or.inl rfl))
     (au (aK (i:=2) uQ.nd rfl (Or.inl rfl) (aM dJ (aM iD (pv 2) ar) (aw GM hr rfl mM FM.kp bM .nil aA (aa (pv 0) (aa (aM dJ (aM iD ar (pv 1)) (pv 3)) ah)))))))
    (au (aB (pv 2)))),?_⟩
   refine ⟨12,rfl,by decide,by decide,gT (n:=12) (λi σ H2=>H2=H/\∃(n:Int) (v:Option V),σ=[some (.int c),some (.int k),some (.int n),v]) ⟨rfl,0,none,rfl⟩ ?_ ?_⟩
   . rintro i σ H2 hi ⟨rfl,n,v,rfl⟩
     refine ⟨_,rfl,_,_,rfl,rfl,.inr ⟨by decide,by decide⟩,_,rfl,_,rfl,_,_,rfl,rfl,.inl ⟨by decide,by decide⟩,_,rfl,_,_,rfl,rfl,?_⟩
     refine ⟨_,_,rfl,by omega,by omega,λv hv0 uR=>⟨_,_,rfl,rfl,rfl,_,_,rfl⟩⟩
   . rintro σ H2 ⟨rfl,n,v,rfl⟩
     exact ⟨_,rfl,kk n⟩
theorem Fd:aO ["_law_left", "_law_many", "_law_digit"] ["_law_left", "_law_many"] (ao lj):=⟨rfl,rfl,rfl,by decide +kernel,rfl,by decide +kernel,by decide +kernel⟩
theorem vT {f:Addr}{fd:FuncData}(F:bJ K "_law_pick" "_law_pick" lj f fd) (T:Own mg):av P w K mg base az 1 f fd ["_law_left", "_law_many"] j6:=by
 refine F.ok Fd (λvs H Q E h=>?_) (λcdv A outer s H vs Q E hr h=>?_)
 . obtain ⟨l,xs,m,rfl,_⟩:=h
   rfl
 . obtain ⟨l,xs,m,rfl,hl,hp,m0,m1,kk⟩:=h
   refine ⟨_,aj (bh (pL (aL iZ (aY aU (pv 0) ar (λ_ _=>rfl)) (dm (aa ar (aa (oq lI ar) ah))) (by with_unfolding_all rfl))
    (ni (aL mj (bb bj (by rfl) T.len PySem.boot_len (aa (pv 0) ah)) ar (aS _)))).pt
    (au (pN (Mc PySem.F.plainAttrs_list PySem.F.slot_list_pop PySem.F.type_list_pop Mf (pv 0)) (D5 (pv 0) ar set_list))) aT)
    (aj (aK (i:=2) Fd.nd rfl (Or.inl rfl) (aM jX (aY aU (pv 0) ar (λ_ _=>rfl)) (pv 1)))
    (aj (pN (aM vC (aY aU (pv 0) ar (λ_ _=>rfl)) (pv 1)) (D5 (pv 0) ar set_list))
    (au (aB (pv 2))))),?_⟩
   rcases hp with ⟨a,rfl⟩ | ⟨a,b,rfl⟩
   . refine ⟨_,rfl,l,_,_,.int a,rfl,rfl,ak.of hl,rfl,_,rfl,(by show 2<=sizeLine; decide),λt ht=>?_⟩
     have nl:l≠t:=af hl ht
     have cC:(upd H t (.tup [.int 0,.int (-1)])) l=some (.lst [.int a]):=by rw [ag nl]; exact hl
     have kp:aQ H (upd H t (.tup [.int 0,.int (-1)])) l:=aQ.aq ht
     refine ⟨t,_,rfl,.inr (aV.of ae),rfl,rfl,_,rfl,?_⟩
     refine cA (λ_=>?_) (λ_=>cu ?_)
     . refine ⟨_,rfl,l,_,rfl,.inl (ak.of cC),_,_,rfl,rfl,_,rfl,?_⟩
       refine cA (λh=>absurd (of_decide_eq_true h) (by show ¬ (1:Int)<((1:Nat):Int); decide)) (λ_=>?_)
       refine ⟨_,rfl,l,_,_,.int a,rfl,rfl,ak.of cC,rfl,_,rfl,_,_,rfl,rfl,m0,?_⟩
       refine ⟨_,rfl,l,_,_,.int a,rfl,rfl,ak.of cC,rfl,_,rfl,_,_,rfl,rfl,⟨m0,m1⟩,_,rfl,l,_,_,0,rfl,rfl,cC,rfl,?_⟩
       exact ⟨_,rfl,kk _ _ _ (Int.emod_nonneg _ (by omega)) (Int.emod_lt_of_pos _ m0) (.inl ⟨_,rfl⟩) ae (kp.trans aQ.lV)⟩
     . refine ⟨_,rfl,l,_,_,.int a,rfl,rfl,ak.of cC,rfl,_,rfl,_,_,rfl,rfl,m0,?_⟩
       refine ⟨_,rfl,l,_,_,.int a,rfl,rfl,ak.of cC,rfl,_,rfl,_,_,rfl,rfl,⟨m0,m1⟩,_,rfl,l,_,_,0,rfl,rfl,cC,rfl,?_⟩
       exact ⟨_,rfl,kk _ _ _ (Int.emod_nonneg _ (by omega)) (Int.emod_lt_of_pos _ m0) (.inl ⟨_,rfl⟩) ae (kp.trans aQ.lV)⟩
   . refine ⟨_,rfl,l,_,_,.int a,rfl,rfl,ak.of hl,rfl,_,rfl,(by show 2<=sizeLine; decide),λt ht=>?_⟩
     have nl:l≠t:=af hl ht
     have cC:(upd H t (.tup [.int 0,.int (-1)])) l=some (.lst [.int a,.int b]):=by rw [ag nl]; exact hl
     have kp:aQ H (upd H t (.tup [.int 0,.int (-1)])) l:=aQ.aq ht
     refine ⟨t,_,rfl,.inr (aV.of ae),rfl,rfl,_,rfl,?_⟩
     refine cA (λ_=>?_) (λ_=>cu ?_)
     . refine ⟨_,rfl,l,_,rfl,.inl (ak.of cC),_,_,rfl,rfl,_,rfl,?_⟩
       refine cA (λ_=>?_) (λh=>absurd (decide_eq_true (show (1:Int)<((2:Nat):Int) by decide)) h)
       refine ⟨_,rfl,.inl ⟨rfl,_,ak.of cC⟩,l,_,.int b,rfl,rfl,cC,rfl,_,rfl,l,_,_,0,rfl,rfl,ae,rfl,?_⟩
       refine ⟨_,rfl,l,_,_,.int b,rfl,rfl,ak.of ae,rfl,_,rfl,_,_,rfl,rfl,m0,?_⟩
       refine ⟨_,rfl,l,_,_,.int b,rfl,rfl,ak.of ae,rfl,_,rfl,_,_,rfl,rfl,⟨m0,m1⟩,_,rfl,l,_,_,0,rfl,rfl,ae,rfl,?_⟩
       exact ⟨_,rfl,kk _ _ _ (Int.emod_nonneg _ (by omega)) (Int.emod_lt_of_pos _ m0) (.inl ⟨_,rfl⟩) ae (((kp.trans aQ.lV).trans aQ.lV).trans aQ.lV)⟩
     . refine ⟨_,rfl,l,_,_,.int a,rfl,rfl,ak.of cC,rfl,_,rfl,_,_,rfl,rfl,m0,?_⟩
       refine ⟨_,rfl,l,_,_,.int a,rfl,rfl,ak.of cC,rfl,_,rfl,_,_,rfl,rfl,⟨m0,m1⟩,_,rfl,l,_,_,0,rfl,rfl,cC,rfl,?_⟩
       exact ⟨_,rfl,kk _ _ _ (Int.emod_nonneg _ (by omega)) (Int.emod_lt_of_pos _ m0) (.inr ⟨_,_,rfl⟩) ae (kp.trans aQ.lV)⟩
end
end Gen
namespace Gen
open PySem L2
theorem small {n:Nat}(h:n<=1000):n<sizeLine:=wJ h
theorem iG {n:Nat}(h:n<=1000):n<=sizeLine:=Nat.le_of_lt (wJ h)
inductive zB (K:W.Frag) (vs:List V) (H:Hp) (Q:VK):Prop
 | mk (l t:Addr) (xs:List V) (told:List Str) (h1:vs=[.ref l,.ref t]) (h2:H l=some (.lst xs)) (h3:cD xs) (h4:t≠l) (h5:ak K H t (told.map V.str)) (h6:told.length<100) (h7:∀(z:Str) (ys:List V) (H':Hp),aW z->z∉told->cD ys->H' l=some (.lst ys)->aQ H H' l->Q (.str z) H'):zB K vs H Q
def qV (K:W.Frag):Sp:=λvs H Q _=>zB K vs H Q
theorem qW (z:Str) (told:List Str):kQ (.str z) (told.map V.str)=decide (z∈told):=by
 unfold kQ
 rw [Bool.eq_iff_iff,List.any_eq_true,decide_eq_true_eq]
 constructor
 . rintro ⟨v,hv,e⟩
   obtain ⟨y,hy,rfl⟩:=List.mem_map.mp hv
   have:y=z:=by simpa [o8] using e
   rw [← this]; exact hy
 . intro h
   exact ⟨.str z,List.mem_map.mpr ⟨z,h,rfl⟩,by simp [o8]⟩
theorem Fe (told:List Str):(told.map V.str).all jP=true:=by
 rw [List.all_eq_true]
 intro v hv
 obtain ⟨y,_,rfl⟩:=List.mem_map.mp hv
 rfl
theorem Ff {i:Nat}{c:Nat}(h:("abcdefghijklmnopqrstuvwxyz" : Str).cps[i]?=some c):aH[i]?=some c:=by
 rw [← Bv]
 simpa using h
theorem dO {α β:Type}{l:List α}{i:Nat}{c:α}(f:α->β) (h:l[i]?=some c):(l.take (i+1)).map f=(l.take i).map f++[f c]:=by
 rw [List.take_add_one,h]
 simp
theorem dv {i:Nat}{x:V}{σ:St}{H:Hp}{A B:St->Hp->Prop}(h:A (σ.set i (some x)) H):cw i x σ H (λiQ H2=>sQ iQ H2 (λb H3=>if b=true then A iQ H3 else B iQ H3)):=by
 show (if true=true then A (σ.set i (some x)) H else B (σ.set i (some x)) H)
 rw [if_pos rfl]
 exact h
theorem QK:(["_law_k", "_law_left", "_law_letters"]:List Str).Nodup:=by decide +kernel
theorem Dk:(["_law_one", "_law_name"]:List Str).Nodup:=by decide +kernel
theorem U4:(["_law_one", "_law_told"]:List Str).Nodup:=by decide +kernel
section
variable {P:Program}{w:World}{K:W.Frag}{mg:Str->Option Value}{base:Heap}
abbrev Fg:List Str:=["_law_left", "_law_told", "_law_letters", "_law_words", "_law_size", "_law_name", "_law_some"]
theorem i7:aO Fg ["_law_left", "_law_told"] (ao jm):=⟨rfl,rfl,rfl,by decide +kernel,rfl,by decide +kernel,by decide +kernel⟩
theorem ll {D:Addr}{te:TE}{Q:Hp->Prop}{H1:Hp}{nm:Str}(f:Nat->Str) (hD:H1 D=none)
 (he:∀(c:Nat) (H:Hp) (R:VK),c∈aH->R (.str (f c)) H->te [some (.str ⟨#[c]⟩),some (.str nm)] H R)
 (fin:Q (upd H1 D (.lst ((aH.map f).map V.str)))) :
 ∃W:Nat->Nat->St->Hp->Prop,(∃m,W 0 m [none,some (.str nm)] (upd H1 D (.lst [])))/\Bx D (cw 0) sQ te (Mt "abcdefghijklmnopqrstuvwxyz") W Q:=by
 have hsz:("abcdefghijklmnopqrstuvwxyz" : Str).cps.size=26:=by decide +kernel
 have p9:aH.length=26:=by decide
 refine cX 26 (λi acc σ H=>acc=((aH.take i).map f).map V.str/\(∃v,σ=[v,some (.str nm)])/\H=upd H1 D (.lst acc)) ⟨rfl,⟨none,rfl⟩,rfl⟩ ae ?_ ?_
 . rintro acc σ H _ ⟨rfl,_,rfl⟩
   refine ⟨hsz.symm,?_⟩
   rw [List.take_of_length_le (by rw [p9]; decide)]
   exact fin
 . rintro i acc σ H hi a9 ⟨rfl,⟨v,rfl⟩,rfl⟩
   refine ⟨by show i<_; rw [hsz]; exact hi,?_⟩
   rintro x H' ⟨rfl,c,hc,rfl⟩
   have cH:=Ff hc
   refine dv ?_
   refine he c _ _ (List.mem_of_getElem? cH) ?_
   refine ⟨_,ae,?_,bo hi ae ⟨?_,⟨_,rfl⟩,?_⟩⟩
   . rw [List.length_map,List.length_map,List.length_take]
     exact small (by omega)
   . rw [dO f cH,List.map_append]
     rfl
   . rw [ie]
theorem zC:∀zs:List Str,(∀y∈zs,∃c∈aH,y=⟨#[c]⟩)->(zs.map (·.length)).sum=zs.length
 | [],_=>rfl
 | z::zs,h=>by
  obtain ⟨c,_,rfl⟩:=h z List.mem_cons_self
  have ih:=zC zs λy hy=>h y (List.mem_cons_of_mem _ hy)
  rw [List.map_cons,List.sum_cons,ih,List.length_cons]
  show 1+zs.length=zs.length+1
  omega
theorem tw (n:Str) (h:aW n) (k:Int):(Txt.slice n none (some k)).length<=8:=Nat.le_trans (Txt.slice_le n _ _) h.len
theorem lW (c:Nat):(⟨#[c]⟩:Str).length=1:=rfl
theorem fw (a b:Str):(a++b).length=a.length+b.length:=Str.length_append a b
theorem dy {n:Nat}(h:n<=100):n<=sizeLine:=Nat.le_trans h (by decide)
abbrev K9 (P:Program) (w:World) (K:W.Frag) (mg:Str->Option Value) (base:Heap) (f:Addr) (cdv:Value) (A:Around) (outer:List Env) (s:Shared) (H:Hp) (E:XK):Cx:=
 (iR az P w K mg base Fg "_law_spelt" (ao jm) f cdv A outer s H E).nj
abbrev xw:Str:="abcdefghijklmnopqrstuvwxyz"
theorem Dl {f:Addr}{cdv:Value}{A:Around}{outer:List Env}{s:Shared}{H:Hp}{E:XK}{Q:VK}{l t:Addr}{told:List Str}(hS:ak K H t (told.map V.str)) (dh:t≠l) (cq:told.length<100) (hl0:∃xs,H l=some (.lst xs))
 (kk:∀(z:Str) (ys:List V) (H':Hp),aW z->z∉told->cD ys->H' l=some (.lst ys)->aQ H H' l->Q (.str z) H') :
 ∃tR:TS,gx (K9 P w K mg base f cdv A outer s H E) (List.drop 5 (aD jm)) tR/\∀(nm:Str) (ys:List V) (H4:Hp) (w1:Addr) (sz:Int),aW nm->cD ys->H4 l=some (.lst ys)->aQ H H4 l->
  tR { nx:=λ_ H'=>Q .aZ H',rt:=Q } [some (.ref l),some (.ref t),some (.str xw),some (.ref w1),some (.int sz),some (.str nm),none] H4:=by
 refine ⟨_,aj (aK (i:=6) i7.nd rfl (Or.inl rfl) (aM gj (aM gj (cg (aa (pv 5) ah))
  (cO (N:=["_law_one", "_law_name"]) (js:=[none,some 5]) (by kernel_rfl) rfl (pZ (pv 2)) (λ_ _ _ _ _ _=>ax (i:=0) Dk rfl (Or.inl rfl) (.inr rfl)) (λ_ _ _ _ _ _=>br)
   (λ_ _ _ _ _ _=>aM bQ (eh uC (pv 1) gq (eO ar)) (pv 0))))
  (cO (N:=["_law_one", "_law_name"]) (js:=[none,some 5]) (by kernel_rfl) rfl (pZ (pv 2)) (λ_ _ _ _ _ _=>ax (i:=0) Dk rfl (Or.inl rfl) (.inr rfl)) (λ_ _ _ _ _ _=>br)
   (λ_ _ _ _ _ _=>aM bQ (aM bQ (eh uC (pv 1) gq (eO ar)) (pv 0)) ay))))
  (aj (aK (i:=6) i7.nd rfl (Or.inl rfl) (aM gj (aM gj (pv 6)
   (cO (N:=["_law_one", "_law_name"]) (js:=[none,some 5]) (by kernel_rfl) rfl (pZ (pv 2)) (λ_ _ _ _ _ _=>ax (i:=0) Dk rfl (Or.inl rfl) (.inr rfl)) (λ_ _ _ _ _ _=>br)
    (λ_ _ _ _ _ _=>aM bQ (aM bQ (eh uC (pv 1) gq (eO ar)) (pv 0)) ay)))
   (cO (N:=["_law_one", "_law_name"]) (js:=[none,some 5]) (by kernel_rfl) rfl (pZ (pv 2)) (λ_ _ _ _ _ _=>ax (i:=0) Dk rfl (Or.inl rfl) (.inr rfl)) (λ_ _ _ _ _ _=>br)
    (λ_ _ _ _ _ _=>aM bQ (aM bQ (eh uC (pv 1) gq (eO ar)) (pv 0)) ay))))
  (au (aB (aY aU
   (cO (N:=["_law_one", "_law_told"]) (js:=[none,some 1]) (by kernel_rfl) rfl (bO (pv 6)) (λ_ _ _ _ _ _=>ax (i:=0) U4 rfl (Or.inl rfl) (.inr rfl))
    (λ_ _ _ _ _ _=>oC (aL (r:=Ma K true) yO (pv 0) (pv 1) (by with_unfolding_all rfl))) (λ_ _ _ _ _ _=>pv 0)) ar (λ_ _=>rfl))))),?_⟩
 intro nm ys H4 w1 sz hn hp qj jx
 have rZ:∀g:Nat->Str,((aH.map g).map V.str).length=26:=λg=>by rw [List.length_map,List.length_map]; decide
 have h8:∀k:Int,nm.length<=sizeLine:=λ_=>dy (Nat.le_trans hn.len (by decide))
 refine ⟨_,rfl,(by show 1<=sizeLine; decide),λp1 il=>?_⟩
 refine ⟨_,rfl,xw,rfl,λD1 Nn=>ll (nm:=nm) (λc=>Txt.slice nm none (some 7)++⟨#[c]⟩) Nn (λc H R hc hR=>?_) ?_⟩
 . refine ⟨_,rfl,_,rfl,nm,7,rfl,rfl,rfl,h8 0,_,rfl,_,_,rfl,rfl,?_,hR⟩
   have:=tw nm hn 7
   rw [lW]
   exact dy (by omega)
 have n1:p1≠D1:=af (ae (H:=H4)) Nn
 refine ⟨p1,D1,_,_,rfl,rfl,(by rw [ag n1,ae]),ae,?_,λp2 cx=>?_⟩
 . rw [rZ]
   exact dy (by show 1+26<=100; decide)
 refine ⟨_,rfl,xw,rfl,λD2 lX=>ll (nm:=nm) (λc=>Txt.slice nm none (some 6)++⟨#[c]⟩ ++ "q") lX (λc H R hc hR=>?_) ?_⟩
 . refine ⟨_,rfl,_,rfl,nm,6,rfl,rfl,rfl,h8 0,_,rfl,_,_,rfl,rfl,?_,_,_,rfl,rfl,?_,hR⟩
   . have:=tw nm hn 6
     rw [lW]
     exact dy (by omega)
   . have:=tw nm hn 6
     have e1:("q" : Str).length=1:=by decide +kernel
     rw [fw,lW,e1]
     exact dy (by omega)
 have n2:p2≠D2:=af (ae (H:=_)) lX
 refine ⟨p2,D2,_,_,rfl,rfl,(by rw [ag n2,ae]),ae,?_,λp3 eJ=>?_⟩
 . rw [List.length_append,rZ,rZ]
   exact dy (by show 1+26+26<=100; decide)
 refine ⟨_,rfl,_,rfl,xw,rfl,λD3 qk=>ll (nm:=nm) (λc=>Txt.slice nm none (some 6)++⟨#[c]⟩ ++ "z") qk (λc H R hc hR=>?_) ?_⟩
 . refine ⟨_,rfl,_,rfl,nm,6,rfl,rfl,rfl,h8 0,_,rfl,_,_,rfl,rfl,?_,_,_,rfl,rfl,?_,hR⟩
   . have:=tw nm hn 6
     rw [lW]
     exact dy (by omega)
   . have:=tw nm hn 6
     have e1:("z" : Str).length=1:=by decide +kernel
     rw [fw,lW,e1]
     exact dy (by omega)
 have n3:p3≠D3:=af (ae (H:=_)) qk
 refine ⟨p3,D3,_,_,rfl,rfl,(by rw [ag n3,ae]),ae,?_,λp4 eV=>?_⟩
 . rw [List.length_append,List.length_append,rZ,rZ,rZ]
   exact dy (by show 1+26+26+26<=100; decide)
 refine ⟨_,rfl,xw,rfl,λD4 zD=>ll (nm:=nm) (λc=>Txt.slice nm none (some 5)++⟨#[c]⟩ ++ "qz") zD (λc H R hc hR=>?_) ?_⟩
 . refine ⟨_,rfl,_,rfl,nm,5,rfl,rfl,rfl,h8 0,_,rfl,_,_,rfl,rfl,?_,_,_,rfl,rfl,?_,hR⟩
   . have:=tw nm hn 5
     rw [lW]
     exact dy (by omega)
   . have:=tw nm hn 5
     have e1:("qz" : Str).length=2:=by decide +kernel
     rw [fw,lW,e1]
     exact dy (by omega)
 have n4:p4≠D4:=af (ae (H:=_)) zD
 refine ⟨p4,D4,_,_,rfl,rfl,(by rw [ag n4,ae]),ae,?_,λp5 jn=>?_⟩
 . rw [List.length_append,List.length_append,List.length_append,rZ,rZ,rZ,rZ]
   exact iG (by show 1+26+26+26+26<=1000; decide)
 have U5:[V.str nm]++((aH.map λc=>Txt.slice nm none (some 7)++⟨#[c]⟩).map V.str)++((aH.map λc=>Txt.slice nm none (some 6)++⟨#[c]⟩ ++ "q").map V.str)++((aH.map λc=>Txt.slice nm none (some 6)++⟨#[c]⟩ ++ "z").map V.str)
  ++ ((aH.map λc=>Txt.slice nm none (some 5)++⟨#[c]⟩ ++ "qz").map V.str)=(dc nm).map V.str:=by
  unfold dc c7 IQ IS c5
  simp only [List.map_append,List.map_cons,List.map_nil]
 rw [U5]
 have sm:∀o5,ai H4 (upd (upd (upd (upd (upd (upd (upd (upd (upd H4 p1 _) D1 _) p2 _) D2 _) p3 _) D3 _) p4 _) D4 _) p5 o5):=λo5=>
  (((((((((ai.aq il).trans (ai.aq Nn)).trans (ai.aq cx)).trans (ai.aq lX)).trans (ai.aq eJ)).trans (ai.aq qk)).trans (ai.aq eV)).trans (ai.aq zD)).trans (ai.aq jn))
 have Np:=sm (.lst ((dc nm).map V.str))
 generalize hG:upd _ p5 (HO.lst ((dc nm).map V.str))=G at *
 have Nq:G p5=some (.lst ((dc nm).map V.str)):=by rw [← hG,ae]
 refine ⟨_,rfl,p5,rfl,⟨_,ak.of Nq⟩,λD hD=>?_⟩
 obtain ⟨xs0,hl0⟩:=hl0
 have np:p5≠D:=af Nq hD
 have h5:∀o,(upd G D o) p5=some (.lst ((dc nm).map V.str)):=λo=>by rw [ag np]; exact Nq
 have hSt:∀o,ak K (upd G D o) t (told.map V.str):=λo=>ai.seq (ai.aq hD) (ai.seq Np (jx.seq hl0 hS dh))
 refine cX (dc nm).length (λi acc σ H=>acc=(((dc nm).take i).filter λz=>!decide (z∈told)).map V.str/\(∃v,σ=[v,some (.ref t)])/\H=upd G D (.lst acc)) ⟨rfl,⟨none,rfl⟩,rfl⟩ ae ?_ ?_
 . rintro acc σ H5 _ ⟨rfl,_,rfl⟩
   refine ⟨⟨_,ak.of (h5 _),by simp⟩,?_⟩
   rw [List.take_length]
   obtain ⟨z,hz,Jc⟩:=CU nm told cq
   have RY:z∈(dc nm).filter λz=>!decide (z∈told):=List.mem_filter.mpr ⟨hz,by simp [Jc]⟩
   cases Fh:(dc nm).filter λz=>!decide (z∈told) with
   | nil=>rw [Fh] at RY; cases RY
   | cons z0 r=>
    have h0:z0∈(dc nm).filter λz=>!decide (z∈told):=by rw [Fh]; exact List.mem_cons_self
    obtain ⟨m1,m2⟩:=List.mem_filter.mp h0
    have m3:z0∉told:=by simpa using m2
    have sl:G l=some (.lst ys):=Np l _ qj
    have nl:l≠D:=af sl hD
    exact ⟨D,_,0,.str z0,rfl,rfl,ak.of ae,(c9 (j:=0) (by rfl):iE _ ((0:Nat):Int)=_),kk z0 ys _ (CS hn m1) m3 hp (by rw [ag nl]; exact sl) ((jx.trans (ai.keep Np l)).trans (aQ.aq hD))⟩
 . rintro i acc σ H5 hi a9 ⟨rfl,⟨v,rfl⟩,rfl⟩
   have Nr:(dc nm)[i]?=some (dc nm)[i]:=List.getElem?_eq_getElem hi
   have hx:((dc nm).map V.str)[i]?=some (.str (dc nm)[i]):=by rw [List.getElem?_map,Nr]; rfl
   refine ⟨⟨_,_,ak.of (h5 _),hx⟩,?_⟩
   rintro x H' ⟨rfl,bX⟩
   have ex:=bX _ (ak.of (h5 _))
   rw [hx] at ex
   cases ex
   refine ⟨_,rfl,_,rfl,t,_,rfl,.inl (hSt _),rfl,Fe told,_,rfl,?_⟩
   have U6:∀j,((((dc nm).take j).filter λz=>!decide (z∈told)).map V.str).length<sizeLine:=λj=>by
    rw [List.length_map]
    refine Nat.lt_of_le_of_lt (List.length_filter_le _ _) ?_
    rw [List.length_take]
    have:(dc nm).length=105:=by
     unfold dc c7 IQ IS c5
     simp only [List.length_append,List.length_map,List.length_singleton]
     decide
    exact small (by omega)
   refine cA (λh=>?_) (λh=>?_)
   . have uS:(dc nm)[i]∉told:=by simpa [qW] using h
     refine ⟨_,rfl,_,ae,U6 i,bo hi ae ⟨?_,⟨_,rfl⟩,by rw [ie]⟩⟩
     rw [take_succ_filter _ _ _ _ Nr,if_pos (by simp [uS]),List.map_append]
     rfl
   . have uS:(dc nm)[i]∈told:=by simpa [qW] using h
     refine bo hi ae ⟨?_,⟨_,rfl⟩,rfl⟩
     rw [take_succ_filter _ _ _ _ Nr,if_neg (by simp [uS]),List.append_nil]
theorem zE {f fP:Addr}{fd r8:FuncData}(F:bJ K "_law_spelt" "_law_spelt" jm f fd) (T:Own mg) (FP:bJ K "_law_pick" "_law_pick" lj fP r8) (bP:Binds K r8 ["_law_left", "_law_many"] []) (mP:mg "_law_pick" = some (.ref fP)) :
 av P w K mg base az 2 f fd ["_law_left", "_law_told"] (qV K):=by
 have GP:av P w K mg base az 1 fP r8 ["_law_left", "_law_many"] j6:=vT FP T
 refine F.ok i7 (λvs H Q E h=>?_) (λcdv A outer s H vs Q E hr h=>?_)
 . obtain ⟨l,t,xs,told,rfl,_⟩:=h
   rfl
 . obtain ⟨l,t,xs,told,rfl,hl,hp,dh,hS,cq,kk⟩:=h
   obtain ⟨tR,hR,rR⟩:=Dl (P:=P) (w:=w) (mg:=mg) (base:=base) (f:=f) (cdv:=cdv) (A:=A) (outer:=outer) (s:=s) (E:=E) hS dh cq ⟨xs,hl⟩ kk
   refine ⟨_,aj (aK (i:=2) i7.nd rfl (Or.inr rfl) ay)
    (aj (aK (i:=3) i7.nd rfl (Or.inl rfl) (cV PySem.F.plainAttrs_str PySem.F.slot_str_split PySem.F.type_str_split sR ay (aa ay ah)))
    (aj (aK (i:=4) i7.nd rfl (Or.inl rfl) (aM dJ ar (aw GP hr rfl mP FP.kp bP .nil aA (aa (pv 0) (aa ar ah)))))
    (aj (aK (i:=5) i7.nd rfl (Or.inr rfl) (aY aU (pv 3) (aw GP hr rfl mP FP.kp bP .nil aA (aa (pv 0) (aa ar ah))) (λ_ _=>rfl)))
    (aj (bh (aL ui (pv 4) ar (aS _))
     (au (aK (i:=5) i7.nd rfl (Or.inr rfl) (cV PySem.F.plainAttrs_str PySem.F.slot_str_join PySem.F.type_str_join vH ay (aa
      (cO (N:=["_law_k", "_law_left", "_law_letters"]) (js:=[none,some 0,some 2]) (by kernel_rfl) rfl (eQ rfl T.range (aa (pv 4) ah)) (λ_ _ _ _ _ _=>ax (i:=0) QK rfl (Or.inl rfl) (.inr rfl)) (λ_ _ _ _ _ _=>br)
       (λ_ _ _ _ _ _=>aY uw (pv 2) (aw GP hr rfl mP FP.kp bP .nil aA (aa (pv 1) (aa ar ah))) (λ_ _=>rfl))) ah)))) aT) hR)))),?_⟩
   refine ⟨rfl,_,_,rfl,rfl,(by decide +kernel),(by decide +kernel),(by decide +kernel),λw1 R0=>?_⟩
   rw [AO]
   have nw:l≠w1:=af hl R0
   refine ⟨_,rfl,l,xs,9,rfl,(by rw [ag nw]; exact hl),hp,by decide,by decide,λd ys H2 d0 d1 cx cj kp2=>⟨_,_,rfl,rfl,?_⟩⟩
   have zF:H2 w1=some (.lst (eA.map V.str)):=kp2 w1 _ ae (Ne.symm nw)
   refine ⟨_,rfl,_,rfl,l,ys,11,rfl,cj,cx,by decide,by decide,λd2 j7 H3 e0 e1 eJ jy i8=>?_⟩
   have Jd:H3 w1=some (.lst (eA.map V.str)):=i8 w1 _ zF (Ne.symm nw)
   have Nt:aQ H H3 l:=((aQ.aq R0).trans kp2).trans i8
   have hlen:eA.length=11:=by decide +kernel
   have hd2:d2.toNat<eA.length:=by rw [hlen]; omega
   have ed2:((d2.toNat:Nat):Int)=d2:=by omega
   have Fc:iE (eA.map V.str) ((d2.toNat:Nat):Int)=some (.str eA[d2.toNat]):=c9 (by rw [List.getElem?_map,List.getElem?_eq_getElem hd2]; rfl)
   rw [ed2] at Fc
   have zG:aW eA[d2.toNat]:=AQ _ (List.getElem_mem hd2)
   refine ⟨w1,_,_,.str eA[d2.toNat],rfl,rfl,ak.of Jd,Fc,?_⟩
   refine ⟨_,rfl,_,_,rfl,rfl,_,rfl,?_⟩
   refine cA (λhc=>?_) (λ_=>?_)
   . have cH:(1:Int)+d<9:=of_decide_eq_true hc
     refine ⟨rfl,_,rfl,_,rfl,by omega,by omega,λD hD=>?_⟩
     have nD:l≠D:=af jy hD
     refine cX (1+d).toNat (λi acc σ H'=>∃(zs:List Str) (v:Option V) (zd:List V),acc=zs.map V.str/\zs.length=i/\(∀y∈zs,∃c∈aH,y=⟨#[c]⟩)/\σ=[v,some (.ref l),some (.str xw)]/\cD zd/\H' l=some (.lst zd)/\aQ H3 H' l)
      ⟨[],none,j7,rfl,rfl,λy hy=>(by cases hy),rfl,eJ,(by rw [ag nD]; exact jy),aQ.aq hD⟩ ae ?_ ?_
     . rintro acc σ H4 a9 ⟨zs,v,zd,rfl,zj,hz,rfl,eV,qj,jx⟩
       refine ⟨Nat.le_refl _,?_⟩
       refine ⟨"",D,zs,rfl,rfl,ak.of a9,?_,?_⟩
       . rw [zC zs hz]
         have e0:("" : Str).length=0:=by decide +kernel
         rw [e0]
         omega
       . exact rR _ zd H4 w1 _ (AR (by omega) (by omega) hz) eV qj (Nt.trans jx)
     . rintro i acc σ H4 hi a9 ⟨zs,v,zd,rfl,zj,hz,rfl,eV,qj,jx⟩
       refine ⟨hi,?_⟩
       rintro x H' ⟨rfl,rfl⟩
       refine dv ?_
       refine ⟨_,rfl,_,rfl,l,zd,26,rfl,qj,eV,by decide,by decide,λd' qm H5 c0 c1 jn uT eW=>?_⟩
       have p9:aH.length=26:=by decide
       have hd':d'.toNat<aH.length:=by omega
       have ed':((d'.toNat:Nat):Int)=d':=by omega
       have Nu:iE xw.cps.toList ((d'.toNat:Nat):Int)=some aH[d'.toNat]:=c9 (by rw [Bv]; exact List.getElem?_eq_getElem hd')
       rw [ed'] at Nu
       have Nv:H5 D=some (.lst (zs.map V.str)):=eW D _ a9 (Ne.symm nD)
       refine ⟨xw,d',aH[d'.toNat],rfl,rfl,(by decide +kernel),Nu,_,Nv,?_,bo hi ae ⟨zs++[⟨#[aH[d'.toNat]]⟩],_,qm,?_,?_,λy hy=>?_,rfl,jn,?_,?_⟩⟩
       . rw [List.length_map]
         exact small (by omega)
       . rw [List.map_append]
         rfl
       . rw [List.length_append,List.length_singleton,zj]
       . rcases List.mem_append.mp hy with hy | hy
         . exact hz y hy
         . have:y=⟨#[aH[d'.toNat]]⟩:=by simpa using hy
           exact ⟨_,List.getElem_mem hd',this⟩
       . rw [ag nD]
         exact uT
       . intro b o hb nG
         have nb:b≠D:=λz=>by rw [z,hD] at hb; cases hb
         rw [ag nb]
         exact eW b o (jx b o hb nG) nG
   . exact rR _ j7 H3 w1 _ zG eJ jy Nt
end
end Gen
namespace Gen
open PySem L2
def Lit (names:List Str) (z:Str):Prop:=z = "0" \/ z = "1" \/ ∃x∈names,z=x\/z = "~" ++ x
inductive uU (K:W.Frag) (vs:List V) (H:Hp) (Q:VK):Prop
 | mk (l n:Addr) (xs:List V) (names:List Str) (h1:vs=[.ref l,.ref n]) (h2:H l=some (.lst xs)) (h3:cD xs) (h4:n≠l) (h5:ak K H n (names.map V.str)) (h6:names.length<=200) (h7:(∀z∈names,aW z)) (h8:∀(z:Str) (ys:List V) (H':Hp),Lit names z->cD ys->H' l=some (.lst ys)->aQ H H' l->Q (.str z) H'):uU K vs H Q
def mw (K:W.Frag):Sp:=λvs H Q _=>uU K vs H Q
theorem Hs {names:List Str}{i:Int}(h0:0<=i) (h1:i.toNat<names.length):iE (names.map V.str) i=some (.str names[i.toNat]):=by
 have e:((i.toNat:Nat):Int)=i:=by omega
 have:=c9 (xs:=names.map V.str) (j:=i.toNat) (v:=.str names[i.toNat]) (by rw [List.getElem?_map,List.getElem?_eq_getElem h1]; rfl)
 rw [e] at this
 exact this
section
variable {P:Program}{w:World}{K:W.Frag}{mg:Str->Option Value}{base:Heap}
theorem xx:aO ["_law_left", "_law_names", "_law_spot"] ["_law_left", "_law_names"] (ao iT):=⟨rfl,rfl,rfl,by decide +kernel,rfl,by decide +kernel,by decide +kernel⟩
theorem uV {f fP:Addr}{fd r8:FuncData}(F:bJ K "_law_literal" "_law_literal" iT f fd) (T:Own mg) (FP:bJ K "_law_pick" "_law_pick" lj fP r8) (bP:Binds K r8 ["_law_left", "_law_many"] []) (mP:mg "_law_pick" = some (.ref fP)) :
 av P w K mg base az 2 f fd ["_law_left", "_law_names"] (mw K):=by
 have GP:av P w K mg base az 1 fP r8 ["_law_left", "_law_many"] j6:=vT FP T
 refine F.ok xx (λvs H Q E h=>?_) (λcdv A outer s H vs Q E hr h=>?_)
 . obtain ⟨l,n,xs,names,rfl,_⟩:=h
   rfl
 . obtain ⟨l,n,xs,names,rfl,hl,hp,dh,hS,cq,dz,kk⟩:=h
   refine ⟨_,aj (aK (i:=2) xx.nd rfl (Or.inl rfl) (aw GP hr rfl mP FP.kp bP .nil aA (aa (pv 0) (aa (aM dJ (aM iD ar (bb bj (by rfl) T.len PySem.boot_len (aa (pv 1) ah))) ar) ah))))
    (aj (bh (aL mj (pv 2) (aM uh (aM iD ar (bb bj (by rfl) T.len PySem.boot_len (aa (pv 1) ah))) ar) (aS _))
     (au (aB (aY uw ay (aM jX (pv 2) ar) (λ_ _=>rfl)))) aT)
    (au (aB (aM bQ (aY aU (cg (aa ay (aa ay ah))) (aM jX (pv 2) ar) (λ_ _=>rfl)) (aY aU (pv 1) (aM vC (pv 2) ar) (λ_ _=>rfl)))))),?_⟩
   have el:((names.map V.str).length:Int)=(names.length:Int):=by rw [List.length_map]
   refine ⟨_,rfl,_,rfl,n,_,rfl,.inl hS,_,_,rfl,rfl,.inl ⟨by decide,by decide⟩,_,_,rfl,rfl,l,xs,_,rfl,hl,hp,(by rw [el]; omega),(by rw [el]; omega),λd ys H2 d0 d1 cx cj kp2=>?_⟩
   rw [el] at d1
   have Je:ak K H2 n (names.map V.str):=kp2.seq hl hS dh
   refine ⟨_,rfl,_,rfl,n,_,rfl,.inl Je,_,_,rfl,rfl,.inl ⟨by decide,by decide⟩,_,_,rfl,rfl,_,_,rfl,rfl,_,rfl,?_⟩
   have m0:0<=d % 2:=Int.emod_nonneg _ (by decide)
   have m2:d % 2<2:=Int.emod_lt_of_pos _ (by decide)
   refine cA (λhc=>?_) (λhc=>?_)
   . have c2:("01" : Str).cps.toList=[48,49]:=by decide +kernel
     refine ⟨_,rfl,_,_,rfl,rfl,(by show (0:Int)<2; decide), "01",_,if d % 2=0 then 48 else 49,rfl,rfl,(by decide +kernel),?_,kk _ ys H2 ?_ cx cj kp2⟩
     . rw [c2]
       rcases (show d % 2=0\/d % 2=1 by omega) with e | e
       . rw [e]; rfl
       . rw [e]; rfl
     . rcases (show d % 2=0\/d % 2=1 by omega) with e | e
       . rw [e]; exact .inl (by decide +kernel)
       . rw [e]; exact .inr (.inl (by decide +kernel))
   . have cH:¬ (2*((names.map V.str).length:Int)-1<d):=λh=>hc (decide_eq_true h)
     rw [el] at cH
     refine ⟨(by show 2<=sizeLine; decide),λp dU=>?_⟩
     have hd2:(d / 2).toNat<names.length:=by omega
     have hS3:ak K (upd H2 p (.lst [.str "",.str "~"])) n (names.map V.str):=ai.seq (ai.aq dU) Je
     have nl:l≠p:=af cj dU
     refine ⟨_,rfl,_,_,rfl,rfl,(by show (0:Int)<2; decide),p,_,_,.str (if d % 2=0 then "" else "~"),rfl,rfl,ak.of ae,?_,_,rfl,_,rfl,_,_,rfl,rfl,⟨by decide,by decide⟩,n,_,_,_,rfl,rfl,hS3,Hs (by omega) hd2,_,_,rfl,rfl,?_,?_⟩
     . rcases (show d % 2=0\/d % 2=1 by omega) with e | e
       . rw [e]; rfl
       . rw [e]; rfl
     . have h8:=(dz _ (List.getElem_mem hd2)).len
       have h1:(if d % 2=0 then ("" : Str) else "~").length<=1:=by
        split
        . decide +kernel
        . decide +kernel
       exact dy (by omega)
     . refine kk _ ys _ ?_ cx (by rw [ag nl]; exact cj) (kp2.trans (aQ.aq dU))
       refine .inr (.inr ⟨_,List.getElem_mem hd2,?_⟩)
       rcases (show d % 2=0\/d % 2=1 by omega) with e | e
       . left
         rw [if_pos e]
         exact nz (by rw [ef,wK,List.nil_append])
       . right
         rw [if_neg (by omega)]
end
def bp (H:Hp) (p:Addr) (rs:List (List V)):Prop:=∃ts:List Addr,H p=some (.lst (ts.map V.ref))/\Paired (λt r=>H t=some (.tup r)) ts rs
def gd (r:Str×Str):List V:=[.str r.1,.str r.2]
structure g9 (names told:List Str) (rows:List (Str×Str)):Prop where
 nm:∀r∈rows,aW r.1
 lit:∀r∈rows,Lit names r.2
 ut:∀r∈rows,r.1∉told
 nd:(rows.map (·.1)).Nodup
theorem bp.keep {H H':Hp}{p l:Addr}{rs:List (List V)}{xs:List V}(h:bp H p rs) (k:aQ H H' l) (hl:H l=some (.lst xs)) (hp:p≠l):bp H' p rs:=by
 obtain ⟨ts,h1,h2⟩:=h
 exact ⟨ts,k p _ h1 hp,Paired.bE h2 λt r e=>k t _ e (bg e hl (by intro z; cases z))⟩
theorem bp.same {H H':Hp}{p:Addr}{rs:List (List V)}(h:bp H p rs) (k:ai H H'):bp H' p rs:=by
 obtain ⟨ts,h1,h2⟩:=h
 exact ⟨ts,k p _ h1,Paired.bE h2 λt r e=>k t _ e⟩
theorem bq {α β:Type}{F:α->β->Prop} : ∀{l₁:List α}{l₂:List β}{i:Nat}{b:β},Paired F l₁ l₂->l₂[i]?=some b->∃a,l₁[i]?=some a/\F a b
 | _,_,i,b,.nil,h=>by simp at h
 | _,_,0,b,.cons h t,e=>⟨_,rfl,by simpa using (show _=_ from Option.some.inj e) ▸ h⟩
 | _,_,i+1,b,.cons h t,e=>let ⟨a,h1,h2⟩:=bq t (i:=i) (b:=b) (by simpa using e); ⟨a,by simpa using h1,h2⟩
theorem bp.snoc {H:Hp}{p t:Addr}{rs:List (List V)}{r:List V}{ts:List Addr}(h2:Paired (λt r=>H t=some (.tup r)) ts rs) (ht:H t=some (.tup r)) (hp:∀a xs,H a=some (.tup xs)->a≠p) :
 bp (upd H p (.lst (ts.map V.ref++[V.ref t]))) p (rs++[r]):=by
 refine ⟨ts++[t],?_,Paired.snoc (Paired.bE h2 λa b e=>?_) ?_⟩
 . rw [ae,List.map_append]
   rfl
 . rw [ag (hp a b e)]
   exact e
 . rw [ag (hp t r ht)]
   exact ht
inductive xy (K:W.Frag) (vs:List V) (H:Hp) (Q:VK):Prop
 | mk (l n t:Addr) (xs:List V) (names told:List Str) (m:Int) (h1:vs=[.ref l,.ref n,.ref t,.int m]) (h2:H l=some (.lst xs)) (h3:cD xs) (h4:n≠l) (h5:t≠l) (h6:ak K H n (names.map V.str)) (h7:names.length<=200) (h8:(∀z∈names,aW z)) (h9:H t=some (.lst (told.map V.str))) (Nw:told.length<=20) (IW:0<=m) (h12:m<=20) (h13:∀(p:Addr) (rows:List (Str×Str)) (ys:List V) (H':Hp),H p=none->g9 names told rows->rows.length=m.toNat->bp H' p (rows.map gd)->cD ys->H' l=some (.lst ys)->aQ H H' l->Q (.ref p) H'):xy K vs H Q
def oN (K:W.Frag):Sp:=λvs H Q _=>xy K vs H Q
section
variable {P:Program}{w:World}{K:W.Frag}{mg:Str->Option Value}{base:Heap}
abbrev La:List Str:=["_law_left", "_law_names", "_law_told", "_law_many", "_law_found", "_law_k", "_law_wish"]
abbrev i9:List Str:=["_law_left", "_law_names", "_law_told", "_law_many"]
theorem oO:aO La i9 (ao ly):=⟨rfl,rfl,rfl,by decide +kernel,rfl,by decide +kernel,by decide +kernel⟩
theorem zH:(["_law_one"]:List Str).Nodup:=by decide +kernel
theorem xA {D p:Addr}{Q:Hp->Prop}{H1:Hp}{rows:List (Str×Str)}{ts:List Addr}(hD:H1 D=none) (hp:H1 p=some (.lst (ts.map V.ref))) (h2:Paired (λt r=>H1 t=some (.tup r)) ts (rows.map gd)) (hlen:rows.length<=100)
 (fin:Q (upd H1 D (.lst ((rows.map (·.1)).map V.str)))) :
 ∃W:Nat->Nat->St->Hp->Prop,(∃m,W 0 m [none] (upd H1 D (.lst [])))/\Bx D (cw 0) sQ (wy (mY K) (vA 0) (tC (.int 0))) (wx K p) W Q:=by
 have np:p≠D:=af hp hD
 have ju:∀o,(upd H1 D o) p=some (.lst (ts.map V.ref)):=λo=>by rw [ag np]; exact hp
 have cj:=h2.length
 rw [List.length_map] at cj
 refine cX rows.length (λi acc σ H=>acc=((rows.take i).map (·.1)).map V.str/\(∃v,σ=[v])/\H=upd H1 D (.lst acc)) ⟨rfl,⟨none,rfl⟩,rfl⟩ ae ?_ ?_
 . rintro acc σ H _ ⟨rfl,_,rfl⟩
   refine ⟨⟨_,ak.of (ju _),by rw [List.length_map,cj]; exact Nat.le_refl _⟩,?_⟩
   rw [List.take_length]
   exact fin
 . rintro i acc σ H hi a9 ⟨rfl,⟨v,rfl⟩,rfl⟩
   have xB:rows[i]?=some rows[i]:=List.getElem?_eq_getElem hi
   obtain ⟨t,ht,hT⟩:=bq h2 (i:=i) (b:=gd rows[i]) (by rw [List.getElem?_map,xB]; rfl)
   have hx:(ts.map V.ref)[i]?=some (.ref t):=by rw [List.getElem?_map,ht]; rfl
   refine ⟨⟨_,_,ak.of (ju _),hx⟩,?_⟩
   rintro x H' ⟨rfl,bX⟩
   have ex:=bX _ (ak.of (ju _))
   rw [hx] at ex
   cases ex
   refine dv ?_
   have nt:t≠D:=af hT hD
   refine ⟨_,rfl,t,_,_,.str rows[i].1,rfl,rfl,aV.of (by rw [ag nt]; exact hT),rfl,_,ae,?_,bo hi ae ⟨?_,⟨_,rfl⟩,by rw [ie]⟩⟩
   . rw [List.length_map,List.length_map,List.length_take]
     exact small (by omega)
   . rw [dO (·.1) xB,List.map_append]
     rfl
theorem Fi {f fS fL fP:Addr}{fd Nx Ny r8:FuncData}(F:bJ K "_law_wishes" "_law_wishes" ly f fd) (T:Own mg) (FP:bJ K "_law_pick" "_law_pick" lj fP r8) (bP:Binds K r8 ["_law_left", "_law_many"] []) (mP:mg "_law_pick" = some (.ref fP))
 (FS:bJ K "_law_spelt" "_law_spelt" jm fS Nx) (bS:Binds K Nx ["_law_left", "_law_told"] []) (mS:mg "_law_spelt" = some (.ref fS)) (FL:bJ K "_law_literal" "_law_literal" iT fL Ny) (bL:Binds K Ny ["_law_left", "_law_names"] []) (mL:mg "_law_literal" = some (.ref fL)) :
 av P w K mg base az 3 f fd i9 (oN K):=by
 have GS:av P w K mg base az 2 fS Nx ["_law_left", "_law_told"] (qV K):=zE FS T FP bP mP
 have GL:av P w K mg base az 2 fL Ny ["_law_left", "_law_names"] (mw K):=uV FL T FP bP mP
 refine F.ok oO (λvs H Q E h=>?_) (λcdv A outer s H vs Q E hr h=>?_)
 . obtain ⟨l,n,t,xs,names,told,m,rfl,_⟩:=h
   rfl
 . obtain ⟨l,n,t,xs,names,told,m,rfl,hl,hp,rP,kZ,hS,hnn,dz,hT,Jf,m0,m1,kk⟩:=h
   refine ⟨_,aj (aK (i:=4) oO.nd rfl (Or.inl rfl) (cg ah))
    (aj (dk PassesOwn.never rfl (eQ rfl T.range (aa (pv 3) ah)) (ax (i:=5) oO.nd rfl (Or.inl rfl))
     (aj (aK (i:=6) oO.nd rfl (Or.inl rfl) (aw GS hr rfl mS FS.kp bS .nil aA (aa (pv 0) (aa (aM gj (pv 2)
      (cO (N:=["_law_one"]) (js:=[none]) (by kernel_rfl) rfl (bO (pv 4)) (λ_ _ _ _ _ _=>ax (i:=0) zH rfl (Or.inl rfl) (.inr rfl)) (λ_ _ _ _ _ _=>br)
       (λ_ _ _ _ _ _=>aY (r:=mY K) jZ (pv 0) ar (λ_ _=>rfl)))) ah))))
     (au (cZ (cV PySem.F.plainAttrs_list PySem.F.slot_list_append PySem.F.type_list_append cz (pv 4) (aa (dm (aa (pv 6) (aa (aw GL hr rfl mL FL.kp bL .nil aA (aa (pv 0) (aa (pv 1) ah))) ah))) ah))))))
    (au (aB (pv 4)))),?_⟩
   refine ⟨(by show 0<=sizeLine; decide),λp dU=>?_⟩
   have Jg:l≠p:=af hl dU
   refine ⟨_,rfl,_,rfl,by omega,by omega,gT (n:=m.toNat) (λi σ H2=>∃(rows:List (Str×Str)) (v5 v6:Option V) (ys:List V),σ=[some (.ref l),some (.ref n),some (.ref t),some (.int m),some (.ref p),v5,v6]/\rows.length=i/\g9 names told rows/\
    bp H2 p (rows.map gd)/\cD ys/\H2 l=some (.lst ys)/\aQ H H2 l) ?_ ?_ ?_⟩
   . exact ⟨[],none,none,xs,rfl,rfl,⟨(λ_ h=>nomatch h),(λ_ h=>nomatch h),(λ_ h=>nomatch h),List.nodup_nil⟩,⟨[],ae,.nil⟩,hp,(by rw [ag Jg]; exact hl),aQ.aq dU⟩
   . rintro i σ H2 hi ⟨rows,v5,v6,ys,rfl,gk,hw,⟨ts,cx,hJ⟩,eE,cj,kp2⟩
     have BB:H2 t=some (.lst (told.map V.str)):=kp2 t _ hT kZ
     have Je:ak K H2 n (names.map V.str):=kp2.seq hl hS rP
     have U7:=hJ.length
     rw [List.length_map] at U7
     refine ⟨_,rfl,_,rfl,_,rfl,p,rfl,⟨_,ak.of cx⟩,λD hD=>xA hD cx hJ (by omega) ?_⟩
     have nTD:t≠D:=af BB hD
     have nLD:l≠D:=af cj hD
     refine ⟨t,D,_,_,rfl,rfl,(by rw [ag nTD]; exact BB),ae,?_,λq hq=>?_⟩
     . rw [List.length_map,List.length_map,List.length_map]
       exact iG (by omega)
     have nLq:l≠q:=af (by rw [ag nLD]; exact cj) hq
     have sm3:∀o3 o4,(upd H2 D o3) q=none->ai H2 (upd (upd H2 D o3) q o4):=λo3 o4 hz=>(ai.aq hD).trans (ai.aq hz)
     have xC:=sm3 _ (.lst (told.map V.str++(rows.map (·.1)).map V.str)) hq
     generalize hG:upd _ q (HO.lst (told.map V.str++(rows.map (·.1)).map V.str))=H3 at *
     have hq3:H3 q=some (.lst ((told++rows.map (·.1)).map V.str)):=by rw [← hG,ae,List.map_append]
     have jy:H3 l=some (.lst ys):=xC l _ cj
     refine ⟨l,q,ys,told++rows.map (·.1),rfl,jy,eE,Ne.symm nLq,ak.of hq3,(by rw [List.length_append,List.length_map]; omega),λz j7 H4 hz Jc eV qj jx=>?_⟩
     have Ht:aQ H2 H4 l:=(ai.keep xC l).trans jx
     have U8:H4 p=some (.lst (ts.map V.ref)):=Ht p _ cx (Ne.symm Jg)
     have hS4:ak K H4 n (names.map V.str):=Ht.seq cj Je rP
     refine ⟨_,rfl,.inl ⟨rfl,_,ak.of U8⟩,_,rfl,_,rfl,_,rfl,l,n,j7,names,rfl,qj,eV,rP,hS4,hnn,dz,λz2 qm H5 iA jn uT eW=>?_⟩
     refine ⟨(by show 2<=sizeLine; decide),λTp hV=>?_⟩
     have Hu:aQ H2 H5 l:=Ht.trans eW
     have iU:H5 p=some (.lst (ts.map V.ref)):=Hu p _ cx (Ne.symm Jg)
     have pD:p≠Tp:=af iU hV
     have nlT:l≠Tp:=af uT hV
     refine ⟨p,_,_,rfl,rfl,(by rw [ag pD]; exact iU),(by rw [List.length_map]; exact small (by omega)),?_⟩
     have Jh:g9 names told (rows++[(z,z2)]):=by
      have Nz:z∉told/\z∉rows.map (·.1):=by
       constructor
       . exact λh=>Jc (List.mem_append_left _ h)
       . exact λh=>Jc (List.mem_append_right _ h)
      refine ⟨λr hr=>?_,λr hr=>?_,λr hr=>?_,?_⟩
      . rcases List.mem_append.mp hr with hr | hr
        . exact hw.nm r hr
        . rw [List.mem_singleton.mp hr]; exact hz
      . rcases List.mem_append.mp hr with hr | hr
        . exact hw.lit r hr
        . rw [List.mem_singleton.mp hr]; exact iA
      . rcases List.mem_append.mp hr with hr | hr
        . exact hw.ut r hr
        . rw [List.mem_singleton.mp hr]; exact Nz.1
      . rw [List.map_append,List.nodup_append]
        refine ⟨hw.nd,by simp,λa ha b hb e=>?_⟩
        have:b=z:=by simpa using hb
        rw [this] at e
        exact Nz.2 (e ▸ ha)
     refine ⟨rows++[(z,z2)],_,_,qm,rfl,(by rw [List.length_append,List.length_singleton,gk]),Jh,?_,jn,(by rw [ag Jg,ag nlT]; exact uT),λb o hb nG=>?_⟩
     . rw [List.map_append]
       refine bp.snoc (Paired.bE hJ λa r e=>?_) ae λa uI e z'=>?_
       . have ea:=Hu a _ e (bg e cj (by intro z; cases z))
         rw [ag (af ea hV)]
         exact ea
       . rw [z',ag pD,iU] at e
         cases e
     . have e5:=Hu b o (kp2 b o hb nG) nG
       rw [ag (af hb dU),ag (af e5 hV)]
       exact e5
   . rintro σ H2 ⟨rows,v5,v6,ys,rfl,gk,hw,j8,eE,cj,kp2⟩
     exact ⟨_,rfl,kk p rows ys H2 dU hw gk j8 eE cj kp2⟩
end
end Gen
namespace Gen
open PySem L2
structure aI where
 switches:List Str
 keepers:List (Str×V)
 aE:List (Str×Str×Str)
 nexts:List (Str×Str)
 nevers:List (Str×Str)
 somes:List (Str×Str)
def iV (r:Str×V):List V:=[.str r.1,r.2]
def kG (r:Str×Str×Str):List V:=[.str r.1,.str r.2.1,.str r.2.2]
def eP (a1 a2 a3 a4 a5 a6:Addr):List (Key×V):=
 [(.inr "switches",.ref a1),(.inr "keepers",.ref a2),(.inr "gates",.ref a3),(.inr "nexts",.ref a4),(.inr "nevers",.ref a5),(.inr "somes",.ref a6)]
structure cE (H:Hp) (m:Addr) (M:aI) (a1 a2 a3 a4 a5 a6:Addr):Prop where
 top:H m=some (.dK (eP a1 a2 a3 a4 a5 a6))
 sw:H a1=some (.lst (M.switches.map V.str))
 kp:bp H a2 (M.keepers.map iV)
 gt:bp H a3 (M.aE.map kG)
 nx:bp H a4 (M.nexts.map gd)
 nv:bp H a5 (M.nevers.map gd)
 sm:bp H a6 (M.somes.map gd)
structure eX (M:aI) (names:List Str):Prop where
 all:names=M.switches++M.keepers.map (·.1)++M.aE.map (·.1)
 nm:∀z∈names,aW z
 nd:names.Nodup
 first:∀r∈M.keepers,r.2=.int 0\/r.2=.int 1\/r.2=.aZ
 nxk:∀r∈M.nexts,r.1∈M.keepers.map (·.1)
 nxl:∀r∈M.nexts,Lit names r.2
 nxd:(M.nexts.map (·.1)).Nodup
 nvw:g9 names [] M.nevers
 smw:g9 names (M.nevers.map (·.1)) M.somes
 gl:∀(i:Nat) (r:Str×Str×Str),M.aE[i]?=some r->Lit (M.switches++M.keepers.map (·.1)++(M.aE.take i).map (·.1)) r.2.1/\Lit (M.switches++M.keepers.map (·.1)++(M.aE.take i).map (·.1)) r.2.2
def gf (K:W.Frag) (H:Hp) (z:Addr) (s0 s1 s2 s3:Int):Prop:=(ak K H z [.int s0,.int s1,.int s2,.int s3]\/aV K H z [.int s0,.int s1,.int s2,.int s3])/\(0<=s0/\s0<=12)/\(0<=s1/\s1<=16)/\(0<=s2/\s2<=60)/\1<=s3/\s3<=8
theorem ai.dX {K:W.Frag}{H H':Hp}{a:Addr}{xs:List V}(e:ai H H') (h:aV K H a xs):aV K H' a xs:=by
 rcases h with (h | ⟨o,h⟩) | h
 . exact .inl (.inl (e a _ h))
 . exact .inl (.inr ⟨o,e a _ h⟩)
 . exact .inr h
theorem gf.same {K:W.Frag}{H H':Hp}{z:Addr}{s0 s1 s2 s3:Int}(h:gf K H z s0 s1 s2 s3) (k:ai H H'):gf K H' z s0 s1 s2 s3:=⟨h.1.imp (ai.seq k) (ai.dX k),h.2⟩
theorem gf.ix {K:W.Frag}{H:Hp}{z:Addr}{s0 s1 s2 s3:Int}(h:gf K H z s0 s1 s2 s3){i:Int}{v:V}{Q:VK}(hi:iE [V.int s0,.int s1,.int s2,.int s3] i=some v) (q:Q v H):Rz K (.ref z) (.int i) H Q:=by
 rcases h.1 with h | h
 . exact .inl ⟨z,_,i,v,rfl,rfl,h,hi,q⟩
 . exact .inr (.inl ⟨z,_,i,v,rfl,rfl,h,hi,q⟩)
abbrev NA:List Str:=["_law_cells", "_law_sizes", "_law_k", "_law_a", "_law_b", "_law_c", "_law_names", "_law_switches", "_law_keepers", "_law_gates", "_law_name", "_law_nexts", "_law_keeper", "_law_first", "_law_nevers", "_law_somes", "_law_made"]
abbrev qo:List Str:=["_law_cells", "_law_sizes"]
theorem eF:aO NA qo (ao dE):=⟨rfl,rfl,rfl,by decide +kernel,rfl,by decide +kernel,by decide +kernel⟩
abbrev yo (P:Program) (w:World) (K:W.Frag) (mg:Str->Option Value) (base:Heap) (f:Addr) (cdv:Value) (A:Around) (outer:List Env) (s:Shared) (H:Hp) (E:XK):Cx:=
 (iR az P w K mg base NA "_law_machine_digits" (ao dE) f cdv A outer s H E).nj
section
variable {P:Program}{w:World}{K:W.Frag}{mg:Str->Option Value}{base:Heap}
structure Defs (P:Program) (w:World) (K:W.Frag) (mg:Str->Option Value) (base:Heap) (fP fS fL fW fR:Addr) (dP dS dL dW dR:FuncData):Prop where
 T:Own mg
 gP:av P w K mg base az 1 fP dP ["_law_left", "_law_many"] j6
 mP:mg "_law_pick" = some (.ref fP)
 kP:W.keepIn K (.ref fP)=true
 bP:Binds K dP ["_law_left", "_law_many"] []
 gS:av P w K mg base az 2 fS dS ["_law_left", "_law_told"] (qV K)
 mS:mg "_law_spelt" = some (.ref fS)
 kS:W.keepIn K (.ref fS)=true
 bS:Binds K dS ["_law_left", "_law_told"] []
 gL:av P w K mg base az 2 fL dL ["_law_left", "_law_names"] (mw K)
 mL:mg "_law_literal" = some (.ref fL)
 kL:W.keepIn K (.ref fL)=true
 bL:Binds K dL ["_law_left", "_law_names"] []
 gW:av P w K mg base az 3 fW dW i9 (oN K)
 mW:mg "_law_wishes" = some (.ref fW)
 kW:W.keepIn K (.ref fW)=true
 bW:Binds K dW i9 []
 gR:av P w K mg base az 2 fR dR ["_law_cell", "_law_k"] nK
 mR:mg "_law_rich" = some (.ref fR)
 kR:W.keepIn K (.ref fR)=true
 bR:Binds K dR ["_law_cell", "_law_k"] []
variable {fP fS fL fW fR:Addr}{dP dS dL dW dR:FuncData}
structure zI (K:W.Frag) (H:Hp) (z c n a1 a2 a3 a4:Addr) (s0 s1 s2 s3:Int) (names sw:List Str) (kp:List (Str×V)) (gt:List (Str×Str×Str)) (nx:List (Str×Str)):Prop where
 pc:∃xs,H c=some (.lst xs)/\cD xs
 hz:gf K H z s0 s1 s2 s3
 zc:z≠c
 hn:H n=some (.lst (names.map V.str))
 nc:n≠c
 nl:names.length<=100
 nm:∀x∈names,aW x
 h1:H a1=some (.lst (sw.map V.str))
 c1:a1≠c
 h2:bp H a2 (kp.map iV)
 c2:a2≠c
 h3:bp H a3 (gt.map kG)
 c3:a3≠c
 h4:bp H a4 (nx.map gd)
 c4:a4≠c
theorem aQ.dX {H H':Hp}{a l:Addr}{xs n:List V}(e:aQ H H' l) (hl:H l=some (.lst n)) (h:aV K H a xs) (dh:a≠l):aV K H' a xs:=by
 rcases h with (h | ⟨o,h⟩) | h
 . exact .inl (.inl (e a _ h dh))
 . exact .inl (.inr ⟨o,e a _ h dh⟩)
 . exact .inr h
theorem zI.keep {H H':Hp}{z c n a1 a2 a3 a4:Addr}{s0 s1 s2 s3:Int}{names sw:List Str}{kp:List (Str×V)}{gt:List (Str×Str×Str)}{nx:List (Str×Str)}{ys:List V}(h:zI K H z c n a1 a2 a3 a4 s0 s1 s2 s3 names sw kp gt nx) (k:aQ H H' c) (hy:H' c=some (.lst ys)) (hp:cD ys) :
 zI K H' z c n a1 a2 a3 a4 s0 s1 s2 s3 names sw kp gt nx:=by
 obtain ⟨xs,hc,_⟩:=h.pc
 exact ⟨⟨ys,hy,hp⟩,⟨h.hz.1.imp (λq=>k.seq hc q h.zc) (λq=>aQ.dX k hc q h.zc),h.hz.2⟩,h.zc,k n _ h.hn h.nc,h.nc,h.nl,h.nm,k a1 _ h.h1 h.c1,h.c1,h.h2.keep k hc h.c2,h.c2,h.h3.keep k hc h.c3,h.c3,h.h4.keep k hc h.c4,h.c4⟩
theorem zI.same {H H':Hp}{z c n a1 a2 a3 a4:Addr}{s0 s1 s2 s3:Int}{names sw:List Str}{kp:List (Str×V)}{gt:List (Str×Str×Str)}{nx:List (Str×Str)}(h:zI K H z c n a1 a2 a3 a4 s0 s1 s2 s3 names sw kp gt nx) (k:ai H H') :
 zI K H' z c n a1 a2 a3 a4 s0 s1 s2 s3 names sw kp gt nx:=by
 obtain ⟨xs,hc,hp⟩:=h.pc
 exact ⟨⟨xs,k c _ hc,hp⟩,h.hz.same k,h.zc,k n _ h.hn,h.nc,h.nl,h.nm,k a1 _ h.h1,h.c1,h.h2.same k,h.c2,h.h3.same k,h.c3,h.h4.same k,h.c4⟩
theorem QL (G:Defs P w K mg base fP fS fL fW fR dP dS dL dW dR){f:Addr}{cdv:Value}{A:Around}{outer:List Env}{s:Shared}{H:Hp}{E:XK}{Q:VK}(hr:aX 3 (A.deeper (PyProof.Rows.envOfC "_law_machine_digits" (ao dE) s.heap.objs.size f cdv))) :
 ∃tR:TS,gx (yo P w K mg base f cdv A outer s H E) (List.drop 10 (aD dE)) tR/\∀(σ:St) (H1:Hp) (v0 v2 v3 v4 v10 nL nM:Option V) (z c n a1 a2 a3 a4:Addr) (s0 s1 s2 s3:Int) (names sw:List Str) (kp:List (Str×V)) (gt:List (Str×Str×Str)) (nx:List (Str×Str)),
  σ=[v0,some (.ref z),v2,v3,v4,some (.ref c),some (.ref n),some (.ref a1),some (.ref a2),some (.ref a3),v10,some (.ref a4),nL,nM,none,none,none]->
  zI K H1 z c n a1 a2 a3 a4 s0 s1 s2 s3 names sw kp gt nx->
  (∀(m:Addr) (nv sm:List (Str×Str)) (a5 a6:Addr) (H':Hp),g9 names [] nv->g9 names (nv.map (·.1)) sm->1<=nv.length->(nv.length:Int)<=s3->(sm.length:Int)<=s3->cE H' m ⟨sw,kp,gt,nx,nv,sm⟩ a1 a2 a3 a4 a5 a6->aQ H1 H' c->Q (.ref m) H')->
  tR { nx:=λ_ H'=>Q .aZ H',rt:=Q } σ H1:=by
 have cc:aX 1 _:=hr.mono (by decide)
 have hu:=cM hr
 refine ⟨_,aj (aK (i:=14) eF.nd rfl (Or.inl rfl) (aw G.gW hr rfl G.mW G.kW G.bW .nil aA (aa (pv 5) (aa (pv 6) (aa (cg ah) (aa (aM dJ ar (aw G.gP cc rfl G.mP G.kP G.bP .nil aA (aa (pv 5) (aa (aY pT (pv 1) ar (λ_ _=>rfl)) ah)))) ah))))))
  (aj (aK (i:=15) eF.nd rfl (Or.inl rfl) (aw G.gW hr rfl G.mW G.kW G.bW .nil aA (aa (pv 5) (aa (pv 6) (aa
   (cO (N:=["_law_one"]) (js:=[none]) (by kernel_rfl) rfl (bO (pv 14)) (λ_ _ _ _ _ _=>ax (i:=0) zH rfl (Or.inl rfl) (.inr rfl)) (λ_ _ _ _ _ _=>br) (λ_ _ _ _ _ _=>aY (r:=mY K) jZ (pv 0) ar (λ_ _=>rfl)))
   (aa (aw G.gP cc rfl G.mP G.kP G.bP .nil aA (aa (pv 5) (aa (aM dJ (aY pT (pv 1) ar (λ_ _=>rfl)) ar) ah))) ah))))))
  (aj (aK (i:=16) eF.nd rfl (Or.inl rfl) (Bp (jC ay (pv 7) (jC ay (pv 8) (jC ay (pv 9) (jC ay (pv 11) Bo)))) rfl rfl (by simp) (by decide)))
  (aj (ft hu (pv 16) ay (pv 14) rfl)
  (aj (ft hu (pv 16) ay (pv 15) rfl)
  (au (aB (pv 16))))))),?_⟩
 rintro σ H1 v0 v2 v3 v4 v10 nL nM z c n a1 a2 a3 a4 s0 s1 s2 s3 names sw kp gt nx rfl hA kk
 obtain ⟨xs,hc,hp⟩:=hA.pc
 obtain ⟨_,_,_,_,z1,z2⟩:=hA.hz
 have rP:=hA.nl
 refine ⟨_,rfl,_,rfl,(by show 0<=sizeLine; decide),λt0 NB=>?_⟩
 have A1:=hA.same (ai.aq (o:=.lst []) NB)
 have NC:c≠t0:=af hc NB
 have hc1:(upd H1 t0 (.lst [])) c=some (.lst xs):=by rw [ag NC]; exact hc
 refine ⟨_,rfl,_,rfl,A1.hz.ix (i:=3) (v:=.int s3) rfl ?_⟩
 refine ⟨c,xs,s3,rfl,hc1,hp,by omega,by omega,λd ys H2 d0 d1 cx cj kp2=>⟨_,_,rfl,rfl,?_⟩⟩
 have A2:=A1.keep kp2 cj cx
 have U9:H2 t0=some (.lst (([]:List Str).map V.str)):=kp2 t0 _ ae (Ne.symm NC)
 refine ⟨c,n,t0,ys,names,[],1+d,rfl,cj,cx,A2.nc,Ne.symm NC,ak.of A2.hn,by omega,A2.nm,U9,by decide,by omega,by omega,λa5 nv j7 H3 xD hw5 agk R1 eJ jy i8=>?_⟩
 have A3:=A2.keep i8 jy eJ
 have R3:a5≠c:=Ne.symm (af cj xD)
 obtain ⟨ts,h5,hJ⟩:=id R1
 refine ⟨_,rfl,_,rfl,_,rfl,a5,rfl,⟨_,ak.of h5⟩,λD hD=>xA hD h5 hJ (by omega) ?_⟩
 have ND:ai H3 (upd H3 D (.lst ((nv.map (·.1)).map V.str))):=ai.aq hD
 have A4:=A3.same ND
 have NF:c≠D:=af jy hD
 have Fj:(upd H3 D (.lst ((nv.map (·.1)).map V.str))) c=some (.lst j7):=by rw [ag NF]; exact jy
 refine ⟨_,rfl,_,rfl,A4.hz.ix (i:=3) (v:=.int s3) rfl ⟨_,_,rfl,rfl,c,j7,_,rfl,Fj,eJ,by omega,by omega,λd' qm H5 e0 e1 jn uT eW=>?_⟩⟩
 have A5:=A4.keep eW uT jn
 have Nv:H5 D=some (.lst ((nv.map (·.1)).map V.str)):=eW D _ ae (Ne.symm NF)
 refine ⟨c,n,D,qm,names,nv.map (·.1),d',rfl,uT,jn,A5.nc,Ne.symm NF,ak.of A5.hn,by omega,A5.nm,Nv,(by rw [List.length_map]; omega),by omega,by omega,λa6 sm Ji H6 xE hw6 agl Fl qp zJ xF=>?_⟩
 have A6:=A5.keep xF zJ qp
 have T5:bp H6 a5 (nv.map gd):=((R1.same ND).keep eW Fj R3).keep xF uT R3
 have nc6:a6≠c:=Ne.symm (af uT xE)
 intro m hm
 refine ⟨_,rfl,_,rfl,_,rfl,_,rfl,ae,[(.inr "switches",.ref a1),(.inr "keepers",.ref a2),(.inr "gates",.ref a3),(.inr "nexts",.ref a4)],rfl,(by show 4<=15; decide),?_⟩
 rw [ie]
 have em:c8 [] [((.inr "switches" : Key),V.ref a1),(.inr "keepers",.ref a2),(.inr "gates",.ref a3),(.inr "nexts",.ref a4)]=[((.inr "switches" : Key),V.ref a1),(.inr "keepers",.ref a2),(.inr "gates",.ref a3),(.inr "nexts",.ref a4)]:=by rfl
 rw [em]
 refine ⟨_,rfl,_,rfl,m,_,rfl,iS.k (k:=.inr "nevers") ae (by show 4<sizeLine; decide),?_⟩
 rw [ie]
 have en:putK [((.inr "switches" : Key),V.ref a1),(.inr "keepers",.ref a2),(.inr "gates",.ref a3),(.inr "nexts",.ref a4)] (.inr "nevers") (.ref a5)=[((.inr "switches" : Key),V.ref a1),(.inr "keepers",.ref a2),(.inr "gates",.ref a3),(.inr "nexts",.ref a4),(.inr "nevers",.ref a5)]:=by rfl
 rw [en]
 refine ⟨_,rfl,_,rfl,m,_,rfl,iS.k (k:=.inr "somes") ae (by show 5<sizeLine; decide),?_⟩
 rw [ie]
 have es:putK [((.inr "switches" : Key),V.ref a1),(.inr "keepers",.ref a2),(.inr "gates",.ref a3),(.inr "nexts",.ref a4),(.inr "nevers",.ref a5)] (.inr "somes") (.ref a6)=eP a1 a2 a3 a4 a5 a6:=by rfl
 rw [es]
 have Jj:ai H6 (upd H6 m (.dK (eP a1 a2 a3 a4 a5 a6))):=ai.aq hm
 have A7:=A6.same Jj
 refine ⟨_,rfl,kk m nv sm a5 a6 _ hw5 hw6 (by omega) (by omega) (by omega) ⟨ae,A7.h1,A7.h2,A7.h3,A7.h4,T5.same Jj,Fl.same Jj⟩ ?_⟩
 exact (((((aQ.aq NB).trans kp2).trans i8).trans (ai.keep ND c)).trans (eW.trans xF)).trans (ai.keep Jj c)
end
end Gen
namespace Gen
open PySem L2
theorem r9 {α β:Type}{F:α->β->Prop} : ∀{l₁:List α}{l₂:List β}(k:Nat),Paired F l₁ l₂->Paired F (l₁.take k) (l₂.take k)
 | _,_,k,.nil=>by simp only [List.take_nil]; exact .nil
 | _,_,0,.cons _ _=>.nil
 | _,_,k+1,.cons h t=>.cons h (r9 k t)
theorem se {α β:Type}{F:α->β->Prop} : ∀{l₁:List α}{l₂:List β}(k:Nat),Paired F l₁ l₂->Paired F (l₁.drop k) (l₂.drop k)
 | _,_,k,.nil=>by simp only [List.drop_nil]; exact .nil
 | _,_,0,.cons h t=>.cons h t
 | _,_,k+1,.cons h t=>se k t
theorem dY {α β:Type}{F:α->β->Prop} : ∀{l₁ m₁:List α}{l₂ m₂:List β},Paired F l₁ l₂->Paired F m₁ m₂->Paired F (l₁++m₁) (l₂++m₂)
 | _,_,_,_,.nil,h=>h
 | _,_,_,_,.cons a t,h=>.cons a (dY t h)
section
variable {P:Program}{w:World}{K:W.Frag}{mg:Str->Option Value}{base:Heap}{fP fS fL fW fR:Addr}{dP dS dL dW dR:FuncData}
structure Jk (K:W.Frag) (H:Hp) (z c n a1 a2 a3:Addr) (s0 s1 s2 s3:Int) (names sw:List Str) (kp:List (Str×V)) (gt:List (Str×Str×Str)):Prop where
 pc:∃xs,H c=some (.lst xs)/\cD xs
 hz:gf K H z s0 s1 s2 s3
 zc:z≠c
 hn:H n=some (.lst (names.map V.str))
 nc:n≠c
 nl:names.length<=100
 nm:∀x∈names,aW x
 h1:H a1=some (.lst (sw.map V.str))
 c1:a1≠c
 h2:bp H a2 (kp.map iV)
 c2:a2≠c
 h3:bp H a3 (gt.map kG)
 c3:a3≠c
 kd:(kp.map (·.1)).Nodup
 kl:kp.length<=16
theorem Jk.keep {H H':Hp}{z c n a1 a2 a3:Addr}{s0 s1 s2 s3:Int}{names sw:List Str}{kp:List (Str×V)}{gt:List (Str×Str×Str)}{ys:List V}(h:Jk K H z c n a1 a2 a3 s0 s1 s2 s3 names sw kp gt) (k:aQ H H' c) (hy:H' c=some (.lst ys)) (hp:cD ys) :
 Jk K H' z c n a1 a2 a3 s0 s1 s2 s3 names sw kp gt:=by
 obtain ⟨xs,hc,_⟩:=h.pc
 exact ⟨⟨ys,hy,hp⟩,⟨h.hz.1.imp (λq=>k.seq hc q h.zc) (λq=>aQ.dX k hc q h.zc),h.hz.2⟩,h.zc,k n _ h.hn h.nc,h.nc,h.nl,h.nm,k a1 _ h.h1 h.c1,h.c1,h.h2.keep k hc h.c2,h.c2,h.h3.keep k hc h.c3,h.c3,h.kd,h.kl⟩
def Dm (names:List Str) (kp:List (Str×V)) (nx:List (Str×Str)):Prop:=(∀r∈nx,r.1∈kp.map (·.1)/\Lit names r.2)/\(nx.map (·.1)).Nodup
theorem Fn {α:Type}{l:List α}{a:α}(h:l.Nodup) (ha:a∉l) (d:Nat):(l.take d++[a]++l.drop d).Nodup:=by
 have p:(l.take d++[a]++l.drop d).Perm (a::l):=by
  rw [List.append_assoc]
  have:=List.perm_middle (a:=a) (l₁:=l.take d) (l₂:=l.drop d)
  rw [List.take_append_drop] at this
  exact this
 exact p.nodup_iff.mpr (List.nodup_cons.mpr ⟨ha,h⟩)
theorem nN {β:Type} : ∀{kp:List (Str×β)}{i:Nat}(hi:i<kp.length),(kp.map (·.1)).Nodup->kp[i].1∉(kp.take i).map (·.1)
 | x::r,0,_,_=>by simp
 | x::r,i+1,hi,h=>by
  rw [List.map_cons,List.nodup_cons] at h
  have ih:=nN (kp:=r) (i:=i) (by simpa using hi) h.2
  simp only [List.getElem_cons_succ,List.take_succ_cons,List.map_cons,List.mem_cons,not_or]
  refine ⟨λe=>h.1 ?_,ih⟩
  rw [← e]
  exact List.mem_map.mpr ⟨_,List.getElem_mem _,rfl⟩
theorem tE {β:Type}{kp:List (Str×β)}{i j:Nat}{x:Str}(hij:i<=j) (h:x∈(kp.take i).map (·.1)):x∈(kp.take j).map (·.1):=by
 obtain ⟨r,hr,e⟩:=List.mem_map.mp h
 refine List.mem_map.mpr ⟨r,?_,e⟩
 have:kp.take i=(kp.take j).take i:=by rw [List.take_take,Nat.min_eq_left hij]
 rw [this] at hr
 exact List.mem_of_mem_take hr
abbrev QM (Q:VK) (s3:Int) (H1:Hp) (c a1 a2 a3:Addr) (names sw:List Str) (kp:List (Str×V)) (gt:List (Str×Str×Str)):Prop:=
 ∀(m:Addr) (nx nv sm:List (Str×Str)) (a4 a5 a6:Addr) (H':Hp),Dm names kp nx->nx.length<=kp.length->g9 names [] nv->g9 names (nv.map (·.1)) sm->1<=nv.length->(nv.length:Int)<=s3->(sm.length:Int)<=s3->cE H' m ⟨sw,kp,gt,nx,nv,sm⟩ a1 a2 a3 a4 a5 a6->aQ H1 H' c->Q (.ref m) H'
theorem QN (G:Defs P w K mg base fP fS fL fW fR dP dS dL dW dR){f:Addr}{cdv:Value}{A:Around}{outer:List Env}{s:Shared}{H:Hp}{E:XK}{Q:VK}(hr:aX 3 (A.deeper (PyProof.Rows.envOfC "_law_machine_digits" (ao dE) s.heap.objs.size f cdv))) :
 ∃tR:TS,gx (yo P w K mg base f cdv A outer s H E) (List.drop 8 (aD dE)) tR/\∀(σ:St) (H1:Hp) (v0 v2 v3 v4 v10:Option V) (z c n a1 a2 a3:Addr) (s0 s1 s2 s3:Int) (names sw:List Str) (kp:List (Str×V)) (gt:List (Str×Str×Str)),
  σ=[v0,some (.ref z),v2,v3,v4,some (.ref c),some (.ref n),some (.ref a1),some (.ref a2),some (.ref a3),v10,none,none,none,none,none,none]->
  Jk K H1 z c n a1 a2 a3 s0 s1 s2 s3 names sw kp gt->QM Q s3 H1 c a1 a2 a3 names sw kp gt->
  tR { nx:=λ_ H'=>Q .aZ H',rt:=Q } σ H1:=by
 have cc:aX 1 _:=hr.mono (by decide)
 have d5:aX 2 _:=hr.mono (by decide)
 obtain ⟨tD,hD,rD⟩:=QL G (outer:=outer) (H:=H) (E:=E) (Q:=Q) hr
 refine ⟨_,aj (aK (i:=11) eF.nd rfl (Or.inl rfl) (cg ah))
  (aj (dk PassesOwn.never rfl (bO (pv 8)) (cJ rfl (aJ (ax (i:=12) eF.nd rfl (Or.inl rfl)) (aJ (ax (i:=13) eF.nd rfl (Or.inl rfl)) b8)))
   (au (bh (aL mj (aw G.gP cc rfl G.mP G.kP G.bP .nil aA (aa (pv 5) (aa ar ah))) ar (aS _))
    (au (cZ (cV PySem.F.plainAttrs_list PySem.F.slot_list_insert PySem.F.type_list_insert EG (pv 11) (aa
     (aw G.gP cc rfl G.mP G.kP G.bP .nil aA (aa (pv 5) (aa (aM dJ (bb bj (by rfl) G.T.len PySem.boot_len (aa (pv 11) ah)) ar) ah)))
     (aa (dm (aa (pv 12) (aa (aw G.gL d5 rfl G.mL G.kL G.bL .nil aA (aa (pv 5) (aa (pv 6) ah))) ah))) ah))))) aT))) hD),?_⟩
 rintro σ H1 v0 v2 v3 v4 v10 z c n a1 a2 a3 s0 s1 s2 s3 names sw kp gt rfl hA kk
 obtain ⟨xs,hc,hp⟩:=hA.pc
 obtain ⟨ts,h2,hJ⟩:=id hA.h2
 have zK:=hA.kl
 have rP:=hA.nl
 have kZ:=hJ.length
 rw [List.length_map] at kZ
 refine ⟨(by show 0<=sizeLine; decide),λp dU=>?_⟩
 have qr:c≠p:=af hc dU
 have n2p:a2≠p:=af h2 dU
 refine ⟨_,rfl,a2,rfl,⟨_,ak.of (by rw [ag n2p]; exact h2)⟩,gQ (K:=K) (a:=a2) (xs:=ts.map V.ref) (λi σ H2=>∃(nx:List (Str×Str)) (nL nM:Option V) (ys:List V),
  σ=[v0,some (.ref z),v2,v3,v4,some (.ref c),some (.ref n),some (.ref a1),some (.ref a2),some (.ref a3),v10,some (.ref p),nL,nM,none,none,none]/\nx.length<=i/\Dm names (kp.take i) nx/\bp H2 p (nx.map gd)/\cD ys/\H2 c=some (.lst ys)/\aQ H1 H2 c) ?_ ?_ ?_ ?_⟩
 . exact ⟨[],none,none,xs,rfl,Nat.le_refl _,⟨(λ_ h=>nomatch h),List.nodup_nil⟩,⟨[],ae,.nil⟩,hp,(by rw [ag qr]; exact hc),aQ.aq dU⟩
 . rintro i σ H2 _ ⟨nx,nL,nM,ys,_,_,_,_,_,_,kp2⟩
   exact ak.of (kp2 a2 _ h2 hA.c2)
 . rintro i x σ H2 hx ⟨nx,nL,nM,ys,rfl,zL,nO,⟨us,cx,eu⟩,eE,hc2,kp2⟩
   have lR:i<(ts.map V.ref).length:=(List.getElem?_eq_some_iff.mp hx).1
   rw [List.length_map,kZ] at lR
   have BS:kp[i]?=some kp[i]:=List.getElem?_eq_getElem lR
   obtain ⟨t,ht,hT⟩:=bq hJ (i:=i) (b:=iV kp[i]) (by rw [List.getElem?_map,BS]; rfl)
   have ex:x=.ref t:=by
    rw [List.getElem?_map,ht] at hx
    exact (Option.some.inj hx).symm
   subst ex
   have BB:H2 t=some (.tup (iV kp[i])):=kp2 t _ hT (bg hT hc (by intro z; cases z))
   refine ⟨t,_,rfl,aV.of BB,rfl,_,_,rfl,_,_,rfl,rfl,?_⟩
   refine ⟨_,rfl,c,ys,5,rfl,hc2,eE,by decide,by decide,λd j7 H3 d0 d1 eJ Jl i8=>⟨_,_,rfl,rfl,_,rfl,?_⟩⟩
   have Hv:aQ H1 H3 c:=kp2.trans i8
   have Va:bp H3 p (nx.map gd):=bp.keep ⟨us,cx,eu⟩ i8 hc2 (Ne.symm qr)
   refine cA (λ_=>?_) (λ_=>?_)
   . have qt:H3 p=some (.lst (us.map V.ref)):=i8 p _ cx (Ne.symm qr)
     have fz:=eu.length
     rw [List.length_map] at fz
     refine ⟨_,rfl,.inl ⟨rfl,_,ak.of qt⟩,_,rfl,_,rfl,p,_,rfl,.inl (ak.of qt),_,_,rfl,rfl,c,j7,_,rfl,Jl,eJ,(by rw [List.length_map]; omega),(by rw [List.length_map]; omega),λd2 qm H4 e0 e1 eV Fj jx=>?_⟩
     rw [List.length_map] at e1
     have A4:=hA.keep (Hv.trans jx) Fj eV
     refine ⟨_,rfl,_,rfl,_,rfl,c,n,qm,names,rfl,Fj,eV,A4.nc,ak.of A4.hn,by omega,A4.nm,λlt Ji H5 iA jn Jm eW=>?_⟩
     refine ⟨(by show 2<=sizeLine; decide),λTp hV=>?_⟩
     have iU:H5 p=some (.lst (us.map V.ref)):=eW p _ (jx p _ qt (Ne.symm qr)) (Ne.symm qr)
     have pD:p≠Tp:=af iU hV
     have ncT:c≠Tp:=af Jm hV
     refine ⟨p,_,d2,_,rfl,rfl,(by rw [ag pD]; exact iU),e0,(by rw [List.length_map]; omega),(by rw [List.length_map]; exact small (by omega)),?_⟩
     have Vb:∀a uI,(upd H5 Tp (HO.tup [V.str kp[i].1,V.str lt])) a=some (.tup uI)->a≠p:=λa uI e z'=>by
      rw [z',ag pD,iU] at e
      cases e
     have Dn:Paired (λt r=>(upd (upd H5 Tp (HO.tup [V.str kp[i].1,V.str lt])) p (.lst ((us.map V.ref).take d2.toNat++[V.ref Tp]++(us.map V.ref).drop d2.toNat))) t=some (.tup r)) us (nx.map gd):=Paired.bE eu λa r e=>by
      have ea:H5 a=some (.tup r):=eW a _ (jx a _ (i8 a _ e (bg e hc2 (by intro z; cases z))) (bg e hc2 (by intro z; cases z))) (bg e hc2 (by intro z; cases z))
      have eb:(upd H5 Tp (HO.tup [V.str kp[i].1,V.str lt])) a=some (.tup r):=by rw [ag (af ea hV)]; exact ea
      rw [ag (Vb a r eb)]
      exact eb
     refine ⟨nx.take d2.toNat++[(kp[i].1,lt)]++nx.drop d2.toNat,_,_,Ji,rfl,?_,⟨λr hr=>?_,?_⟩,⟨us.take d2.toNat++[Tp]++us.drop d2.toNat,?_,?_⟩,jn,?_,λb o hb NG=>?_⟩
     . simp only [List.length_append,List.length_take,List.length_drop,List.length_singleton]
       omega
     . rcases List.mem_append.mp hr with hr | hr
       . rcases List.mem_append.mp hr with hr | hr
         . exact ⟨tE (Nat.le_succ _) (nO.1 r (List.mem_of_mem_take hr)).1,(nO.1 r (List.mem_of_mem_take hr)).2⟩
         . rw [List.mem_singleton.mp hr]
           refine ⟨?_,iA⟩
           rw [dO (·.1) BS]
           exact List.mem_append_right _ (List.mem_singleton.mpr rfl)
       . exact ⟨tE (Nat.le_succ _) (nO.1 r (List.mem_of_mem_drop hr)).1,(nO.1 r (List.mem_of_mem_drop hr)).2⟩
     . have hn:kp[i].1∉nx.map (·.1):=λhm=>by
        obtain ⟨r,hr,e⟩:=List.mem_map.mp hm
        exact nN lR hA.kd (e ▸ (nO.1 r hr).1)
       have hq:=Fn nO.2 hn d2.toNat
       rw [List.map_append,List.map_append,List.map_take,List.map_drop]
       exact hq
     . rw [ae]
       simp only [List.map_append,List.map_take,List.map_drop,List.map_cons,List.map_nil]
     . rw [List.map_append,List.map_append,List.map_take,List.map_drop]
       refine dY (dY (r9 _ Dn) (.cons ?_ .nil)) (se _ Dn)
       rw [ag (Ne.symm pD),ae]
       rfl
     . rw [ag qr,ag ncT]
       exact Jm
     . have e5:=eW b o (jx b o (Hv b o hb NG) NG) NG
       rw [ag (af hb dU),ag (af e5 hV)]
       exact e5
   . exact ⟨nx,_,_,j7,rfl,by omega,⟨λr hr=>⟨tE (Nat.le_succ _) (nO.1 r hr).1,(nO.1 r hr).2⟩,nO.2⟩,Va,eJ,Jl,Hv⟩
 . rintro σ H2 ⟨nx,nL,nM,ys,rfl,zL,nO,j8,eE,hc2,kp2⟩
   rw [List.length_map,kZ] at zL nO
   rw [List.take_length] at nO
   have A2:=hA.keep kp2 hc2 eE
   refine rD _ H2 v0 v2 v3 v4 v10 nL nM z c n a1 a2 a3 p s0 s1 s2 s3 names sw kp gt nx rfl ⟨⟨ys,hc2,eE⟩,A2.hz,A2.zc,A2.hn,A2.nc,A2.nl,A2.nm,A2.h1,A2.c1,A2.h2,A2.c2,A2.h3,A2.c3,j8,Ne.symm qr⟩ ?_
   intro m nv sm a5 a6 H' w1 w2 l1 l2 l3 hM zM
   exact kk m nx nv sm p a5 a6 H' nO zL w1 w2 l1 l2 l3 hM (kp2.trans zM)
end
end Gen
namespace Gen
open PySem L2
def d8 (H H':Hp) (l n:Addr):Prop:=∀b o,H b=some o->b≠l->b≠n->H' b=some o
def QO (H H':Hp) (l c n:Addr):Prop:=∀b o,H b=some o->b≠l->b≠c->b≠n->H' b=some o
theorem d8.seq {K:W.Frag}{H H':Hp}{a l n:Addr}{xs:List V}(e:d8 H H' l n) (h:ak K H a xs) (h1:a≠l) (h2:a≠n):ak K H' a xs:=by
 rcases h with (h | ⟨o,h⟩) | h
 . exact .inl (.inl (e a _ h h1 h2))
 . exact .inl (.inr ⟨o,e a _ h h1 h2⟩)
 . exact .inr h
theorem d8.dX {K:W.Frag}{H H':Hp}{a l n:Addr}{xs:List V}(e:d8 H H' l n) (h:aV K H a xs) (h1:a≠l) (h2:a≠n):aV K H' a xs:=by
 rcases h with (h | ⟨o,h⟩) | h
 . exact .inl (.inl (e a _ h h1 h2))
 . exact .inl (.inr ⟨o,e a _ h h1 h2⟩)
 . exact .inr h
theorem bp.yp {H H':Hp}{p l n:Addr}{rs:List (List V)}{xs ns:List V}(h:bp H p rs) (k:d8 H H' l n) (hl:H l=some (.lst xs)) (hn:H n=some (.lst ns)) (h1:p≠l) (h2:p≠n):bp H' p rs:=by
 obtain ⟨ts,e1,e2⟩:=h
 exact ⟨ts,k p _ e1 h1 h2,Paired.bE e2 λt r e=>k t _ e (bg e hl (by intro z; cases z)) (bg e hn (by intro z; cases z))⟩
theorem aQ.to2 {H H':Hp}{l:Addr}(k:aQ H H' l) (n:Addr):d8 H H' l n:=λb o h h1 _=>k b o h h1
theorem d8.trans {H H1 H2:Hp}{l n:Addr}(a:d8 H H1 l n) (b:d8 H1 H2 l n):d8 H H2 l n:=λc o h h1 h2=>b c o (a c o h h1 h2) h1 h2
theorem d8.QP {H:Hp}{l n:Addr}{o:HO} : d8 H (upd H n o) l n:=λb u h _ h2=>by rw [ag h2]; exact h
theorem gf.yp {K:W.Frag}{H H':Hp}{z l n:Addr}{s0 s1 s2 s3:Int}(h:gf K H z s0 s1 s2 s3) (k:d8 H H' l n) (h1:z≠l) (h2:z≠n):gf K H' z s0 s1 s2 s3:=⟨h.1.imp (λq=>k.seq q h1 h2) (λq=>k.dX q h1 h2),h.2⟩
def nP (names:List Str) (gt:List (Str×Str×Str)):Prop:=∀(i:Nat) (r:Str×Str×Str),gt[i]?=some r->Lit (names++(gt.take i).map (·.1)) r.2.1/\Lit (names++(gt.take i).map (·.1)) r.2.2
theorem nP.snoc {names:List Str}{gt:List (Str×Str×Str)}{r:Str×Str×Str}(h:nP names gt) (h1:Lit (names++gt.map (·.1)) r.2.1) (h2:Lit (names++gt.map (·.1)) r.2.2):nP names (gt++[r]):=by
 intro i q e
 rcases Nat.lt_trichotomy i gt.length with hi | hi | hi
 . rw [List.getElem?_append_left hi] at e
   rw [List.take_append_of_le_length (Nat.le_of_lt hi)]
   exact h i q e
 . subst hi
   rw [List.getElem?_append_right (Nat.le_refl _),Nat.sub_self] at e
   have e':r=q:=by simpa using e
   subst e'
   rw [List.take_left']
   . exact ⟨h1,h2⟩
   . rfl
 . rw [List.getElem?_eq_none (by rw [List.length_append,List.length_singleton]; omega)] at e
   cases e
theorem lq {α:Type}{l:List α}{a:α}(h:l.Nodup) (ha:a∉l):(l++[a]).Nodup:=by
 rw [List.nodup_append]
 refine ⟨h,by simp,λx hx y hy e=>?_⟩
 have:y=a:=by simpa using hy
 rw [this] at e
 exact ha (e ▸ hx)
section
variable {P:Program}{w:World}{K:W.Frag}{mg:Str->Option Value}{base:Heap}{fP fS fL fW fR:Addr}{dP dS dL dW dR:FuncData}
structure AtB (K:W.Frag) (H:Hp) (z b c n a1 a2:Addr) (s0 s1 s2 s3:Int) (names sw:List Str) (kp:List (Str×V)):Prop where
 pb:∃xs,H b=some (.lst xs)/\cD xs
 pc:∃xs,H c=some (.lst xs)/\cD xs
 hz:gf K H z s0 s1 s2 s3
 zb:z≠b
 zc:z≠c
 zn:z≠n
 bc:b≠c
 hn:H n=some (.lst (names.map V.str))
 nb:n≠b
 nc:n≠c
 nl:names.length<=28
 nm:∀x∈names,aW x
 nd:names.Nodup
 h1:H a1=some (.lst (sw.map V.str))
 b1:a1≠b
 c1:a1≠c
 n1:a1≠n
 h2:bp H a2 (kp.map iV)
 b2:a2≠b
 c2:a2≠c
 n2:a2≠n
 kd:(kp.map (·.1)).Nodup
 kl:kp.length<=16
abbrev QQ (Q:VK) (s3:Int) (H1:Hp) (b c n a1 a2:Addr) (names sw:List Str) (kp:List (Str×V)):Prop:=
 ∀(m:Addr) (gt:List (Str×Str×Str)) (nx nv sm:List (Str×Str)) (a3 a4 a5 a6:Addr) (H':Hp),nP names gt->(names++gt.map (·.1)).Nodup->(∀x∈names++gt.map (·.1),aW x)->gt.length<=60->Dm (names++gt.map (·.1)) kp nx->nx.length<=kp.length->
  g9 (names++gt.map (·.1)) [] nv->g9 (names++gt.map (·.1)) (nv.map (·.1)) sm->1<=nv.length->(nv.length:Int)<=s3->(sm.length:Int)<=s3->cE H' m ⟨sw,kp,gt,nx,nv,sm⟩ a1 a2 a3 a4 a5 a6->QO H1 H' b c n->Q (.ref m) H'
theorem QR (G:Defs P w K mg base fP fS fL fW fR dP dS dL dW dR){f:Addr}{cdv:Value}{A:Around}{outer:List Env}{s:Shared}{H:Hp}{E:XK}{Q:VK}(hr:aX 3 (A.deeper (PyProof.Rows.envOfC "_law_machine_digits" (ao dE) s.heap.objs.size f cdv))) :
 ∃tR:TS,gx (yo P w K mg base f cdv A outer s H E) (List.drop 6 (aD dE)) tR/\∀(σ:St) (H1:Hp) (v0 v2 v3:Option V) (z b c n a1 a2:Addr) (s0 s1 s2 s3:Int) (names sw:List Str) (kp:List (Str×V)),
  σ=[v0,some (.ref z),v2,v3,some (.ref b),some (.ref c),some (.ref n),some (.ref a1),some (.ref a2),none,none,none,none,none,none,none,none]->
  AtB K H1 z b c n a1 a2 s0 s1 s2 s3 names sw kp->QQ Q s3 H1 b c n a1 a2 names sw kp->
  tR { nx:=λ_ H'=>Q .aZ H',rt:=Q } σ H1:=by
 have cc:aX 1 _:=hr.mono (by decide)
 have d5:aX 2 _:=hr.mono (by decide)
 obtain ⟨tC,hC,rC⟩:=QN G (outer:=outer) (H:=H) (E:=E) (Q:=Q) hr
 refine ⟨_,aj (aK (i:=9) eF.nd rfl (Or.inl rfl) (cg ah))
  (aj (dk PassesOwn.never rfl (eQ rfl G.T.range (aa (aw G.gP cc rfl G.mP G.kP G.bP .nil aA (aa (pv 4) (aa (aM dJ (aY pT (pv 1) ar (λ_ _=>rfl)) ar) ah))) ah)) (ax (i:=2) eF.nd rfl (Or.inl rfl))
   (aj (aK (i:=10) eF.nd rfl (Or.inl rfl) (aw G.gS d5 rfl G.mS G.kS G.bS .nil aA (aa (pv 4) (aa (pv 6) ah))))
   (aj (cZ (cV PySem.F.plainAttrs_list PySem.F.slot_list_append PySem.F.type_list_append cz (pv 9) (aa (dm (aa (pv 10) (aa (aw G.gL d5 rfl G.mL G.kL G.bL .nil aA (aa (pv 4) (aa (pv 6) ah))) (aa (aw G.gL d5 rfl G.mL G.kL G.bL .nil aA (aa (pv 4) (aa (pv 6) ah))) ah)))) ah)))
   (au (cZ (cV PySem.F.plainAttrs_list PySem.F.slot_list_append PySem.F.type_list_append cz (pv 6) (aa (pv 10) ah))))))) hC),?_⟩
 rintro σ H1 v0 v2 v3 z b c n a1 a2 s0 s1 s2 s3 names sw kp rfl hA kk
 obtain ⟨xs,hb,hp⟩:=hA.pb
 obtain ⟨xc,hc,NH⟩:=hA.pc
 obtain ⟨_,_,_,⟨z2a,z2b⟩,_,_⟩:=hA.hz
 have rP:=hA.nl
 refine ⟨(by show 0<=sizeLine; decide),λp dU=>?_⟩
 have xG:b≠p:=af hb dU
 have xH:n≠p:=af hA.hn dU
 have EU:gf K (upd H1 p (.lst [])) z s0 s1 s2 s3:=hA.hz.same (ai.aq dU)
 refine ⟨_,rfl,_,rfl,EU.ix (i:=2) (v:=.int s2) rfl ⟨_,_,rfl,rfl,b,xs,_,rfl,(by rw [ag xG]; exact hb),hp,by omega,by omega,λd Fo zN d0 d1 zO hl0 qu=>?_⟩⟩
 have k0:d8 H1 zN b n:=λx o h h1 _=>qu x o (by rw [ag (af h dU)]; exact h) h1
 have hn0:zN n=some (.lst (names.map V.str)):=qu n _ (by rw [ag xH]; exact hA.hn) hA.nb
 have Hw:zN p=some (.lst []):=qu p _ ae (Ne.symm xG)
 refine ⟨_,rfl,by omega,by omega,gT (n:=d.toNat) (λi σ H2=>∃(gt:List (Str×Str×Str)) (uW v10:Option V) (ys:List V),
  σ=[v0,some (.ref z),uW,v3,some (.ref b),some (.ref c),some (.ref n),some (.ref a1),some (.ref a2),some (.ref p),v10,none,none,none,none,none,none]/\gt.length=i/\nP names gt/\(names++gt.map (·.1)).Nodup/\(∀x∈names++gt.map (·.1),aW x)/\
  bp H2 p (gt.map kG)/\H2 n=some (.lst ((names++gt.map (·.1)).map V.str))/\cD ys/\H2 b=some (.lst ys)/\d8 H1 H2 b n) ?_ ?_ ?_⟩
 . refine ⟨[],v2,none,Fo,rfl,rfl,λi r e=>?_,?_,?_,⟨[],Hw,.nil⟩,?_,zO,hl0,k0⟩
   . simp at e
   . simpa using hA.nd
   . simpa using hA.nm
   . simpa using hn0
 . rintro i σ H2 hi ⟨gt,uW,v10,ys,rfl,gm,NI,hnd,dz,⟨us,cx,eu⟩,gh,eE,Fp,kp2⟩
   have fz:=eu.length
   rw [List.length_map] at fz
   have Vc:(names++gt.map (·.1)).length=names.length+i:=by rw [List.length_append,List.length_map,gm]
   refine ⟨_,rfl,_,rfl,b,n,ys,names++gt.map (·.1),rfl,Fp,eE,hA.nb,ak.of gh,by omega,λnw j7 H3 zG uS eJ hb3 i8=>?_⟩
   have Jn:H3 n=_:=i8 n _ gh hA.nb
   have qt:H3 p=some (.lst (us.map V.ref)):=i8 p _ cx (Ne.symm xG)
   refine ⟨_,rfl,.inl ⟨rfl,_,ak.of qt⟩,_,rfl,_,rfl,_,rfl,b,n,j7,names++gt.map (·.1),rfl,hb3,eJ,hA.nb,ak.of Jn,by omega,dz,λl1 qm H4 cC eV hb4 jx=>?_⟩
   have Jo:H4 n=_:=jx n _ Jn hA.nb
   refine ⟨_,rfl,_,rfl,b,n,qm,names++gt.map (·.1),rfl,hb4,eV,hA.nb,ak.of Jo,by omega,dz,λl2 Ji H5 cj jn Jp eW=>?_⟩
   have pE:H5 n=_:=eW n _ Jo hA.nb
   have iU:H5 p=some (.lst (us.map V.ref)):=eW p _ (jx p _ qt (Ne.symm xG)) (Ne.symm xG)
   refine ⟨(by show 3<=sizeLine; decide),λTp hV=>?_⟩
   have pD:p≠Tp:=af iU hV
   have nbT:b≠Tp:=af Jp hV
   have NJ:n≠Tp:=af pE hV
   refine ⟨p,_,_,rfl,rfl,(by rw [ag pD]; exact iU),(by rw [List.length_map]; exact small (by omega)),?_⟩
   have Fq:(upd (upd H5 Tp (HO.tup [V.str nw,V.str l1,V.str l2])) p (.lst (us.map V.ref++[V.ref Tp]))) n=some (.lst ((names++gt.map (·.1)).map V.str)):=by rw [ag xH,ag NJ]; exact pE
   refine ⟨_,rfl,.inl ⟨rfl,_,ak.of Fq⟩,_,rfl,n,_,_,rfl,rfl,Fq,(by rw [List.length_map]; exact small (by omega)),?_⟩
   have Vd:nw∉names++gt.map (·.1):=uS
   have en:names++(gt++[(nw,l1,l2)]).map (·.1)=(names++gt.map (·.1))++[nw]:=by rw [List.map_append,← List.append_assoc]; rfl
   have tn:∀a uI,H5 a=some (HO.tup uI)->a≠n:=λa uI e=>bg e pE (by intro z; cases z)
   refine ⟨gt++[(nw,l1,l2)],_,_,Ji,rfl,(by rw [List.length_append,List.length_singleton,gm]),NI.snoc cC cj,(by rw [en]; exact lq hnd Vd),λx hx=>?_,?_,?_,jn,?_,λx o hx h1 h2=>?_⟩
   . rw [en] at hx
     rcases List.mem_append.mp hx with hx | hx
     . exact dz x hx
     . rw [List.mem_singleton.mp hx]; exact zG
   . have tp:=bp.snoc (H:=upd H5 Tp (HO.tup [V.str nw,V.str l1,V.str l2])) (p:=p) (t:=Tp) (rs:=gt.map kG) (r:=[V.str nw,V.str l1,V.str l2]) (ts:=us) (Paired.bE eu λa r e=>by
      have NK:=bg e Fp (by intro z; cases z)
      have ea:H5 a=some (.tup r):=eW a _ (jx a _ (i8 a _ e NK) NK) NK
      rw [ag (af ea hV)]
      exact ea) ae (λa uI e z'=>by rw [z',ag pD,iU] at e; cases e)
     obtain ⟨uE,e1,e2⟩:=tp
     refine ⟨uE,by rw [ag (Ne.symm xH)]; exact e1,?_⟩
     have er:(gt++[(nw,l1,l2)]).map kG=gt.map kG++[[V.str nw,V.str l1,V.str l2]]:=by rw [List.map_append]; rfl
     rw [er]
     refine Paired.bE e2 λa r e=>?_
     rw [ag (bg e Fq (by intro z; cases z))]
     exact e
   . rw [ae,en]
     simp only [List.map_append,List.map_cons,List.map_nil]
   . rw [ag (Ne.symm hA.nb),ag xG,ag nbT]
     exact Jp
   . have e5:H5 x=some o:=eW x o (jx x o (i8 x o (kp2 x o hx h1 h2) h1) h1) h1
     rw [ag h2,ag (af hx dU),ag (af e5 hV)]
     exact e5
 . rintro σ H2 ⟨gt,uW,v10,ys,rfl,gm,NI,hnd,dz,j8,gh,eE,Fp,kp2⟩
   have hc2:H2 c=some (.lst xc):=kp2 c _ hc (Ne.symm hA.bc) (Ne.symm hA.nc)
   have qr:c≠p:=af hc dU
   refine rC _ H2 v0 uW v3 (some (.ref b)) v10 z c n a1 a2 p s0 s1 s2 s3 (names++gt.map (·.1)) sw kp gt rfl ⟨⟨xc,hc2,NH⟩,hA.hz.yp kp2 hA.zb hA.zn,hA.zc,gh,hA.nc,(by rw [List.length_append,List.length_map]; omega),dz,
    kp2 a1 _ hA.h1 hA.b1 hA.n1,hA.c1,hA.h2.yp kp2 hb hA.hn hA.b2 hA.n2,hA.c2,j8,Ne.symm qr,hA.kd,hA.kl⟩ ?_
   intro m nx nv sm a4 a5 a6 H' q1 q2 w1 w2 l1 l2 l3 hM zM
   exact kk m gt nx nv sm p a4 a5 a6 H' NI hnd dz (by omega) q1 q2 w1 w2 l1 l2 l3 hM λx o hx h1 h2 h3=>zM x o (kp2 x o hx h1 h3) h2
end
end Gen
namespace Gen
open PySem L2
def NL (kp:List (Str×V)):Prop:=∀r∈kp,r.2=.int 0\/r.2=.int 1\/r.2=.aZ
theorem Hy {d:Int}(h0:0<=d) (h1:d<3):∃v:V,iE [V.int 0,.int 1,.aZ] d=some v/\(v=.int 0\/v=.int 1\/v=.aZ):=by
 rcases (show d=0\/d=1\/d=2 by omega) with rfl | rfl | rfl
 . exact ⟨_,rfl,.inl rfl⟩
 . exact ⟨_,rfl,.inr (.inl rfl)⟩
 . exact ⟨_,rfl,.inr (.inr rfl)⟩
section
variable {P:Program}{w:World}{K:W.Frag}{mg:Str->Option Value}{base:Heap}{fP fS fL fW fR:Addr}{dP dS dL dW dR:FuncData}
structure AtA (K:W.Frag) (H:Hp) (z a b c n:Addr) (s0 s1 s2 s3:Int) (sw:List Str):Prop where
 pa:∃xs,H a=some (.lst xs)/\cD xs
 pb:∃xs,H b=some (.lst xs)/\cD xs
 pc:∃xs,H c=some (.lst xs)/\cD xs
 hz:gf K H z s0 s1 s2 s3
 za:z≠a
 zb:z≠b
 zc:z≠c
 zn:z≠n
 ab:a≠b
 ac:a≠c
 bc:b≠c
 hn:H n=some (.lst (sw.map V.str))
 na:n≠a
 nb:n≠b
 nc:n≠c
 nl:sw.length<=12
 nm:∀x∈sw,aW x
 nd:sw.Nodup
def QS (H H':Hp) (a b c n:Addr):Prop:=∀x o,H x=some o->x≠a->x≠b->x≠c->x≠n->H' x=some o
abbrev QT (Q:VK) (s1 s3:Int) (H1:Hp) (a b c n:Addr) (sw:List Str):Prop:=
 ∀(m:Addr) (M:aI) (names:List Str) (a1 a2 a3 a4 a5 a6:Addr) (H':Hp),M.switches=sw->eX M names->names.length<=88->((M.keepers.length:Int)<=s1/\M.keepers.length<=16)->M.aE.length<=60->M.nexts.length<=16->1<=M.nevers.length->(M.nevers.length:Int)<=s3->(M.somes.length:Int)<=s3->
  cE H' m M a1 a2 a3 a4 a5 a6->QS H1 H' a b c n->Q (.ref m) H'
theorem QU (G:Defs P w K mg base fP fS fL fW fR dP dS dL dW dR){f:Addr}{cdv:Value}{A:Around}{outer:List Env}{s:Shared}{H:Hp}{E:XK}{Q:VK}(hr:aX 3 (A.deeper (PyProof.Rows.envOfC "_law_machine_digits" (ao dE) s.heap.objs.size f cdv))) :
 ∃tR:TS,gx (yo P w K mg base f cdv A outer s H E) (List.drop 3 (aD dE)) tR/\∀(σ:St) (H1:Hp) (v0 v2:Option V) (z a b c n:Addr) (s0 s1 s2 s3:Int) (sw:List Str),
  σ=[v0,some (.ref z),v2,some (.ref a),some (.ref b),some (.ref c),some (.ref n),none,none,none,none,none,none,none,none,none,none]->
  AtA K H1 z a b c n s0 s1 s2 s3 sw->QT Q s1 s3 H1 a b c n sw->
  tR { nx:=λ_ H'=>Q .aZ H',rt:=Q } σ H1:=by
 have cc:aX 1 _:=hr.mono (by decide)
 have d5:aX 2 _:=hr.mono (by decide)
 obtain ⟨tB,hB,rB⟩:=QR G (outer:=outer) (H:=H) (E:=E) (Q:=Q) hr
 refine ⟨_,aj (aK (i:=7) eF.nd rfl (Or.inl rfl) (c6 g0 (by rfl) G.T.list PyProof.Rows.boot_list (aa (pv 6) ah)))
  (aj (aK (i:=8) eF.nd rfl (Or.inl rfl) (cg ah))
  (aj (dk PassesOwn.never rfl (eQ rfl G.T.range (aa (aw G.gP cc rfl G.mP G.kP G.bP .nil aA (aa (pv 3) (aa (aM dJ (aY pT (pv 1) ar (λ_ _=>rfl)) ar) ah))) ah)) (ax (i:=2) eF.nd rfl (Or.inl rfl))
   (aj (cZ (cV PySem.F.plainAttrs_list PySem.F.slot_list_append PySem.F.type_list_append cz (pv 6) (aa (aw G.gS d5 rfl G.mS G.kS G.bS .nil aA (aa (pv 3) (aa (pv 6) ah))) ah)))
   (au (cZ (cV PySem.F.plainAttrs_list PySem.F.slot_list_append PySem.F.type_list_append cz (pv 8) (aa (dm (aa (aY aU (pv 6) (oq lI ar) (λ_ _=>rfl))
    (aa (aY aU (cg (aa ar (aa ar (aa DY ah)))) (aw G.gP cc rfl G.mP G.kP G.bP .nil aA (aa (pv 3) (aa ar ah))) (λ_ _=>rfl)) ah))) ah)))))) hB)),?_⟩
 rintro σ H0 v0 v2 z a b c n s0 s1 s2 s3 sw rfl hA kk
 obtain ⟨xs,ha,hp⟩:=hA.pa
 obtain ⟨xb,hb,hpb⟩:=hA.pb
 obtain ⟨xc,hc,NH⟩:=hA.pc
 obtain ⟨_,_,⟨z1a,z1b⟩,_,_,_⟩:=hA.hz
 have rP:=hA.nl
 refine ⟨_,rfl,n,_,rfl,.inl (ak.of hA.hn),λa1 BJ=>?_⟩
 have pF:ai H0 (upd H0 a1 (.lst (sw.map V.str))):=ai.aq BJ
 have R4:n≠a1:=af hA.hn BJ
 have aa1:a≠a1:=af ha BJ
 have ba1:b≠a1:=af hb BJ
 have ca1:c≠a1:=af hc BJ
 have h1:(upd H0 a1 (.lst (sw.map V.str))) a1=some (.lst (sw.map V.str)):=ae
 generalize hH1:upd H0 a1 (.lst (sw.map V.str))=H1 at *
 have R5:=pF a _ ha
 have ee:=pF b _ hb
 have cH:=pF c _ hc
 have uf:=pF n _ hA.hn
 refine ⟨(by show 0<=sizeLine; decide),λp dU=>?_⟩
 have Fs:a≠p:=af R5 dU
 have xG:b≠p:=af ee dU
 have qr:c≠p:=af cH dU
 have xH:n≠p:=af uf dU
 have EU:gf K (upd H1 p (.lst [])) z s0 s1 s2 s3:=(hA.hz.same pF).same (ai.aq dU)
 refine ⟨_,rfl,_,rfl,EU.ix (i:=1) (v:=.int s1) rfl ⟨_,_,rfl,rfl,a,xs,_,rfl,(by rw [ag Fs]; exact R5),hp,by omega,by omega,λd Fo zN d0 d1 zO hl0 qu=>?_⟩⟩
 have k0:d8 H1 zN a n:=λx o h h1 _=>qu x o (by rw [ag (af h dU)]; exact h) h1
 have hn0:zN n=some (.lst (sw.map V.str)):=qu n _ (by rw [ag xH]; exact uf) hA.na
 have Hw:zN p=some (.lst []):=qu p _ ae (Ne.symm Fs)
 refine ⟨_,rfl,by omega,by omega,gT (n:=d.toNat) (λi σ H2=>∃(kp:List (Str×V)) (uW:Option V) (ys:List V),
  σ=[v0,some (.ref z),uW,some (.ref a),some (.ref b),some (.ref c),some (.ref n),some (.ref a1),some (.ref p),none,none,none,none,none,none,none,none]/\kp.length=i/\NL kp/\(sw++kp.map (·.1)).Nodup/\(∀x∈sw++kp.map (·.1),aW x)/\
  bp H2 p (kp.map iV)/\H2 n=some (.lst ((sw++kp.map (·.1)).map V.str))/\cD ys/\H2 a=some (.lst ys)/\d8 H1 H2 a n) ?_ ?_ ?_⟩
 . refine ⟨[],v2,Fo,rfl,rfl,(λ_ h=>nomatch h),?_,?_,⟨[],Hw,.nil⟩,?_,zO,hl0,k0⟩
   . simpa using hA.nd
   . simpa using hA.nm
   . simpa using hn0
 . rintro i σ H2 hi ⟨kp,uW,ys,rfl,zK,xI,hnd,dz,⟨us,cx,eu⟩,gh,eE,NM,kp2⟩
   have fz:=eu.length
   rw [List.length_map] at fz
   have Vc:(sw++kp.map (·.1)).length=sw.length+i:=by rw [List.length_append,List.length_map,zK]
   refine ⟨_,rfl,.inl ⟨rfl,_,ak.of gh⟩,_,rfl,_,rfl,a,n,ys,sw++kp.map (·.1),rfl,NM,eE,hA.na,ak.of gh,by omega,λnw j7 H3 zG uS eJ ha3 i8=>?_⟩
   have Jn:H3 n=some (.lst ((sw++kp.map (·.1)).map V.str)):=i8 n _ gh hA.na
   have qt:H3 p=some (.lst (us.map V.ref)):=i8 p _ cx (Ne.symm Fs)
   refine ⟨n,_,_,rfl,rfl,Jn,(by rw [List.length_map]; exact small (by omega)),?_⟩
   have eV:(upd H3 n (.lst ((sw++kp.map (·.1)).map V.str++[V.str nw]))) p=some (.lst (us.map V.ref)):=by rw [ag (Ne.symm xH)]; exact qt
   have Jq:(upd H3 n (.lst ((sw++kp.map (·.1)).map V.str++[V.str nw]))) a=some (.lst j7):=by rw [ag (Ne.symm hA.na)]; exact ha3
   refine ⟨_,rfl,.inl ⟨rfl,_,ak.of eV⟩,_,rfl,_,rfl,n,_,_,.str nw,rfl,rfl,ak.of ae,lO _ _,(by show 3<=sizeLine; decide),λq hq=>?_⟩
   have R6:a≠q:=af Jq hq
   have NN:p≠q:=af eV hq
   have nnq:n≠q:=af (ae (H:=H3) (a:=n)) hq
   refine ⟨_,rfl,a,j7,3,rfl,(by rw [ag R6]; exact Jq),eJ,by decide,by decide,λd2 qm H5 e0 e1 jn xD eW=>?_⟩
   obtain ⟨fv,NO,hfo⟩:=Hy e0 e1
   have hq5:H5 q=some (.lst [V.int 0,.int 1,.aZ]):=eW q _ ae (Ne.symm R6)
   have iU:H5 p=some (.lst (us.map V.ref)):=eW p _ (by rw [ag NN]; exact eV) (Ne.symm Fs)
   have pE:H5 n=some (.lst ((sw++kp.map (·.1)).map V.str++[V.str nw])):=eW n _ (by rw [ag nnq,ae]) hA.na
   refine ⟨q,_,d2,fv,rfl,rfl,ak.of hq5,NO,(by show 2<=sizeLine; decide),λTp hV=>?_⟩
   have pD:p≠Tp:=af iU hV
   have naT:a≠Tp:=af xD hV
   have NJ:n≠Tp:=af pE hV
   refine ⟨p,_,_,rfl,rfl,(by rw [ag pD]; exact iU),(by rw [List.length_map]; exact small (by omega)),?_⟩
   have en:sw++(kp++[(nw,fv)]).map (·.1)=(sw++kp.map (·.1))++[nw]:=by rw [List.map_append,← List.append_assoc]; rfl
   have ze:∀x o,H3 x=some o->x≠a->x≠n->H5 x=some o:=λx o hx h1 h2=>eW x o (by
    have e4:(upd H3 n (.lst ((sw++kp.map (·.1)).map V.str++[V.str nw]))) x=some o:=by rw [ag h2]; exact hx
    rw [ag (af e4 hq)]
    exact e4) h1
   refine ⟨kp++[(nw,fv)],_,qm,rfl,(by rw [List.length_append,List.length_singleton,zK]),λr hr=>?_,(by rw [en]; exact lq hnd uS),λx hx=>?_,?_,?_,jn,?_,λx o hx h1 h2=>?_⟩
   . rcases List.mem_append.mp hr with hr | hr
     . exact xI r hr
     . rw [List.mem_singleton.mp hr]; exact hfo
   . rw [en] at hx
     rcases List.mem_append.mp hx with hx | hx
     . exact dz x hx
     . rw [List.mem_singleton.mp hx]; exact zG
   . have er:(kp++[(nw,fv)]).map iV=kp.map iV++[[V.str nw,fv]]:=by rw [List.map_append]; rfl
     rw [er]
     refine bp.snoc (Paired.bE eu λx r e=>?_) ae (λx uI e z'=>by rw [z',ag pD,iU] at e; cases e)
     have R7:=bg e NM (by intro z; cases z)
     have nx2:=bg e gh (by intro z; cases z)
     have e5:H5 x=some (.tup r):=ze x _ (i8 x _ e R7) R7 nx2
     rw [ag (af e5 hV)]
     exact e5
   . rw [ag xH,ag NJ,pE,en]
     simp only [List.map_append,List.map_cons,List.map_nil]
   . rw [ag Fs,ag naT]
     exact xD
   . have e5:H5 x=some o:=ze x o (i8 x o (kp2 x o hx h1 h2) h1) h1 h2
     rw [ag (af hx dU),ag (af e5 hV)]
     exact e5
 . rintro σ H2 ⟨kp,uW,ys,rfl,zK,xI,hnd,dz,j8,gh,eE,NM,kp2⟩
   have Fp:H2 b=some (.lst xb):=kp2 b _ ee (Ne.symm hA.ab) (Ne.symm hA.nb)
   have hc2:H2 c=some (.lst xc):=kp2 c _ cH (Ne.symm hA.ac) (Ne.symm hA.nc)
   refine rB _ H2 v0 uW (some (.ref a)) z b c n a1 p s0 s1 s2 s3 (sw++kp.map (·.1)) sw kp rfl ⟨⟨xb,Fp,hpb⟩,⟨xc,hc2,NH⟩,(hA.hz.same pF).yp kp2 hA.za hA.zn,hA.zb,hA.zc,hA.zn,hA.bc,gh,hA.nb,hA.nc,(by rw [List.length_append,List.length_map]; omega),dz,hnd,
    kp2 a1 _ h1 (Ne.symm aa1) (Ne.symm R4),Ne.symm ba1,Ne.symm ca1,Ne.symm R4,j8,Ne.symm xG,Ne.symm qr,Ne.symm xH,(List.nodup_append.mp hnd).2.1,by omega⟩ ?_
   intro m gt nx nv sm a3 a4 a5 a6 H' q1 q2 q3 q4 q5 q6 w1 w2 l1 l2 l3 hM zM
   refine kk m ⟨sw,kp,gt,nx,nv,sm⟩ (sw++kp.map (·.1)++gt.map (·.1)) a1 p a3 a4 a5 a6 H' rfl ⟨rfl,q3,q2,xI,λr hr=>(q5.1 r hr).1,λr hr=>(q5.1 r hr).2,q5.2,w1,w2,q1⟩ ?_ ⟨by show (kp.length:Int)<=s1; omega,by show kp.length<=16; omega⟩ q4 (by show nx.length<=16; omega) l1 l2 l3 hM ?_
   . simp only [List.length_append,List.length_map]
     omega
   . intro x o hx h1 h2 h3 h4
     exact zM x o (kp2 x o (pF x o hx) h1 h4) h2 h3 h4
end
end Gen
namespace Gen
open PySem L2
theorem jo {σ:St}{H:Hp}{A B:Hp->Prop}(h:A H):sQ σ H (λb H3=>if b=true then A H3 else B H3):=by
 show (if true=true then A H else B H)
 rw [if_pos rfl]
 exact h
theorem Dq:(["_law_k", "_law_cell"]:List Str).Nodup:=by decide +kernel
abbrev jE (Q:VK) (s0 s1 s3:Int) (H:Hp):Prop:=
 ∀(m:Addr) (M:aI) (names:List Str) (a1 a2 a3 a4 a5 a6:Addr) (H':Hp),eX M names->names.length<=88->((M.switches.length:Int)<=s0/\M.switches.length<=12)->((M.keepers.length:Int)<=s1/\M.keepers.length<=16)->M.aE.length<=60->M.nexts.length<=16->1<=M.nevers.length->(M.nevers.length:Int)<=s3->(M.somes.length:Int)<=s3->
  cE H' m M a1 a2 a3 a4 a5 a6->ai H H'->Q (.ref m) H'
inductive xJ (K:W.Frag) (vs:List V) (H:Hp) (Q:VK):Prop
 | mk (ce z:Addr) (c0 c1 c2 s0 s1 s2 s3:Int) (h1:vs=[.ref ce,.ref z]) (h2:ak K H ce [.int c0,.int c1,.int c2]) (h3:gf K H z s0 s1 s2 s3) (h4:(∃o,H z=some o)) (h5:jE Q s0 s1 s3 H):xJ K vs H Q
def oP (K:W.Frag):Sp:=λvs H Q _=>xJ K vs H Q
section
variable {P:Program}{w:World}{K:W.Frag}{mg:Str->Option Value}{base:Heap}{fP fS fL fW fR:Addr}{dP dS dL dW dR:FuncData}
theorem Ft {f:Addr}{fd:FuncData}(F:bJ K "_law_machine_digits" "_law_machine_digits" dE f fd) (G:Defs P w K mg base fP fS fL fW fR dP dS dL dW dR):av P w K mg base az 4 f fd qo (oP K):=by
 refine F.ok eF (λvs H Q E h=>?_) (λcdv A outer s H vs Q E hr h=>?_)
 . obtain ⟨ce,z,c0,c1,c2,s0,s1,s2,s3,rfl,_⟩:=h
   rfl
 . obtain ⟨ce,z,c0,c1,c2,s0,s1,s2,s3,rfl,pz,hz,⟨oz,uX⟩,kk⟩:=h
   have cc:aX 1 _:=hr.mono (by decide)
   have d5:aX 2 _:=hr.mono (by decide)
   obtain ⟨tA,hA,rA⟩:=QU G (outer:=outer) (H:=H) (E:=E) (Q:=Q) hr
   refine ⟨_,aj (pN (cO (N:=["_law_k", "_law_cell"]) (js:=[none,none]) (g:=ku K 2 (dj (cw 0) (dj (cw 1) kr))) (by kernel_rfl) rfl (qO rfl G.T.enum (aa (pv 0) ah))
    (λ_ _ _ _ _ _=>cJ rfl (aJ (ax (i:=0) Dq rfl (Or.inl rfl) (.inr rfl)) (aJ (ax (i:=1) Dq rfl (Or.inl rfl) (.inr rfl)) b8))) (λ_ _ _ _ _ _=>br)
    (λ_ _ _ _ _ _=>cg (aa (pv 1) (aa (aw G.gR d5 rfl G.mR G.kR G.bR .nil aA (aa (pv 1) (aa (aM dJ ar (pv 0)) ah))) ah))))
    (Ky rfl (aJ (ax (i:=3) eF.nd rfl (Or.inl rfl)) (aJ (ax (i:=4) eF.nd rfl (Or.inl rfl)) (aJ (ax (i:=5) eF.nd rfl (Or.inl rfl)) b8)))))
    (aj (aK (i:=6) eF.nd rfl (Or.inl rfl) (cg ah))
    (aj (dk PassesOwn.never rfl (eQ rfl G.T.range (aa (aw G.gP cc rfl G.mP G.kP G.bP .nil aA (aa (pv 3) (aa (aM dJ (aY pT (pv 1) ar (λ_ _=>rfl)) ar) ah))) ah)) (ax (i:=2) eF.nd rfl (Or.inl rfl))
     (au (cZ (cV PySem.F.plainAttrs_list PySem.F.slot_list_append PySem.F.type_list_append cz (pv 6) (aa (aw G.gS d5 rfl G.mS G.kS G.bS .nil aA (aa (pv 3) (aa (pv 6) ah))) ah))))) hA)),?_⟩
   obtain ⟨_,⟨z0a,z0b⟩,_,_,_,_⟩:=id hz
   refine ⟨_,rfl,ce,rfl,⟨_,pz⟩,λD hD=>?_⟩
   refine cX 3 (λi acc σ H2=>∃(ls:List Addr) (u v:Option V),acc=ls.map V.ref/\ls.length=i/\ls.Nodup/\σ=[u,v]/\(∀l∈ls,H l=none/\l≠D/\∃x y:Int,H2 l=some (.lst [.int x,.int y]))/\ai H H2)
    ⟨[],none,none,rfl,rfl,List.nodup_nil,rfl,(λ_ h=>nomatch h),ai.aq hD⟩ ae ?_ ?_
   . -- a,b,c
     rintro acc σ H2 a9 ⟨ls,u,v,rfl,p9,hnd,rfl,BU,hX⟩
     refine ⟨⟨_,ai.seq hX pz,Nat.le_refl _⟩,?_⟩
     obtain ⟨a,b,c,rfl⟩:∃a b c,ls=[a,b,c]:=by
      match ls,p9 with
      | [a,b,c],_=>exact ⟨a,b,c,rfl⟩
     obtain ⟨fa,_,xa,ya,ha⟩:=BU a (by simp)
     obtain ⟨fb,_,xb,yb,hb⟩:=BU b (by simp)
     obtain ⟨fc,_,xc,yc,hc⟩:=BU c (by simp)
     have dist:a≠b/\a≠c/\b≠c:=by
      simp only [List.nodup_cons,List.mem_cons,List.not_mem_nil,or_false,not_or] at hnd
      exact ⟨hnd.1.1,hnd.1.2,hnd.2.1⟩
     obtain ⟨ab,ac,bc⟩:=dist
     refine ⟨D,_,rfl,ak.of a9,rfl,_,_,rfl,_,_,rfl,_,_,rfl,rfl,?_⟩
     refine ⟨(by show 0<=sizeLine; decide),λn hn=>?_⟩
     have an:a≠n:=af ha hn
     have bn:b≠n:=af hb hn
     have cn:c≠n:=af hc hn
     have xC:ai H2 (upd H2 n (.lst [])):=ai.aq hn
     have MI:gf K (upd H2 n (.lst [])) z s0 s1 s2 s3:=(hz.same hX).same xC
     refine ⟨_,rfl,_,rfl,MI.ix (i:=0) (v:=.int s0) rfl ⟨_,_,rfl,rfl,a,_,_,rfl,(by rw [ag an]; exact ha),.inr ⟨_,_,rfl⟩,by omega,by omega,λd Fo H4 d0 d1 zO Jq qu=>?_⟩⟩
     have Jo:H4 n=some (.lst []):=qu n _ ae (Ne.symm an)
     have NP:aQ H H4 a:=((ai.keep hX a).trans (ai.keep xC a)).trans qu
     have k24:aQ H2 H4 a:=(ai.keep xC a).trans qu
     refine ⟨_,rfl,by omega,by omega,gT (n:=d.toNat) (λi σ H5=>∃(sw:List Str) (v2:Option V) (ys:List V),
      σ=[some (.ref ce),some (.ref z),v2,some (.ref a),some (.ref b),some (.ref c),some (.ref n),none,none,none,none,none,none,none,none,none,none]/\sw.length=i/\sw.Nodup/\(∀x∈sw,aW x)/\H5 n=some (.lst (sw.map V.str))/\cD ys/\H5 a=some (.lst ys)/\d8 H2 H5 a n) ?_ ?_ ?_⟩
     . exact ⟨[],none,Fo,rfl,rfl,List.nodup_nil,(λ_ h=>nomatch h),Jo,zO,Jq,k24.to2 n⟩
     . rintro i σ H5 hi ⟨sw,v2,ys,rfl,E9,HA,dz,pE,eE,xD,eW⟩
       refine ⟨_,rfl,.inl ⟨rfl,_,ak.of pE⟩,_,rfl,_,rfl,a,n,ys,sw,rfl,xD,eE,Ne.symm an,ak.of pE,by omega,λnw j7 H6 zG uS qp xE xF=>?_⟩
       have Fq:H6 n=some (.lst (sw.map V.str)):=xF n _ pE (Ne.symm an)
       refine ⟨n,_,_,rfl,rfl,Fq,(by rw [List.length_map]; exact small (by omega)),?_⟩
       refine ⟨sw++[nw],_,j7,rfl,(by rw [List.length_append,List.length_singleton,E9]),lq HA uS,λx hx=>?_,?_,qp,(by rw [ag an]; exact xE),(eW.trans (xF.to2 n)).trans d8.QP⟩
       . rcases List.mem_append.mp hx with hx | hx
         . exact dz x hx
         . rw [List.mem_singleton.mp hx]; exact zG
       . rw [ae,List.map_append]
         rfl
     . rintro σ H5 ⟨sw,v2,ys,rfl,E9,HA,dz,pE,eE,xD,eW⟩
       have Jp:=eW b _ hb (Ne.symm ab) bn
       have Jm:=eW c _ hc (Ne.symm ac) cn
       have old:∀x o,H x=some o->x≠a/\x≠b/\x≠c/\x≠n:=λx o hx=>⟨af hx fa,af hx fb,af hx fc,af (hX x o hx) hn⟩
       have R8:ai H H5:=λx o hx=>eW x o (hX x o hx) (old x o hx).1 (old x o hx).2.2.2
       obtain ⟨za,zb,zc,zn⟩:=old z oz uX
       refine rA _ H5 (some (.ref ce)) v2 z a b c n s0 s1 s2 s3 sw rfl ⟨⟨ys,xD,eE⟩,⟨_,Jp,.inr ⟨_,_,rfl⟩⟩,⟨_,Jm,.inr ⟨_,_,rfl⟩⟩,hz.same R8,za,zb,zc,zn,ab,ac,bc,pE,Ne.symm an,Ne.symm bn,Ne.symm cn,by omega,dz,HA⟩ ?_
       intro m M names a1 a2 a3 a4 a5 a6 H' eM ok l1 l2 l3 l4 l5 l6 l7 hM zM
       refine kk m M names a1 a2 a3 a4 a5 a6 H' ok l1 ⟨by rw [eM]; omega,by rw [eM]; omega⟩ l2 l3 l4 l5 l6 l7 hM λx o hx=>?_
       obtain ⟨q1,q2,q3,q4⟩:=old x o hx
       exact zM x o (R8 x o hx) q1 q2 q3 q4
   . rintro i acc σ H2 hi a9 ⟨ls,u,v,rfl,p9,hnd,rfl,BU,hX⟩
     obtain ⟨ci,hx⟩:∃ci:Int,[V.int c0,V.int c1,V.int c2][i]?=some (.int ci):=by
      rcases (show i=0\/i=1\/i=2 by omega) with rfl | rfl | rfl
      . exact ⟨_,rfl⟩
      . exact ⟨_,rfl⟩
      . exact ⟨_,rfl⟩
     refine ⟨⟨_,_,ai.seq hX pz,hx⟩,?_⟩
     rintro x H' ⟨T,xv,rfl,kX,rfl,bX⟩
     have ex:=bX _ (ai.seq hX pz)
     rw [hx] at ex
     cases ex
     refine ⟨T,_,rfl,aV.of ae,rfl,_,_,rfl,_,_,rfl,rfl,jo ?_⟩
     refine ⟨_,rfl,_,rfl,_,rfl,_,_,rfl,rfl,_,_,rfl,by omega,by omega,λv'=>⟨(by show 2<=sizeLine; decide),λl hl=>?_⟩⟩
     have xK:D≠T:=af a9 kX
     have Jr:ai H2 (upd H2 T (.tup [.int (i:Int),.int ci])):=ai.aq kX
     have NQ:D≠l:=af (Jr D _ a9) hl
     have R9:ai H2 (upd (upd H2 T (.tup [.int (i:Int),.int ci])) l (.lst [.int ci,.int v'])):=Jr.trans (ai.aq hl)
     refine ⟨_,(by rw [ag NQ,ag xK]; exact a9),(by rw [List.length_map]; exact small (by omega)),bo hi ae ⟨ls++[l],_,_,?_,(by rw [List.length_append,List.length_singleton,p9]),lq hnd λhm=>?_,rfl,λy hy=>?_,λy o hy=>?_⟩⟩
     . rw [List.map_append]
       rfl
     . obtain ⟨_,_,_,_,e⟩:=BU l hm
       rw [Jr l _ e] at hl
       cases hl
     . rcases List.mem_append.mp hy with hy | hy
       . obtain ⟨e1,e2,x1,y1,e3⟩:=BU y hy
         exact ⟨e1,e2,x1,y1,by rw [ag e2]; exact R9 y _ e3⟩
       . rw [List.mem_singleton.mp hy]
         exact ⟨hX.free (Jr.free hl),Ne.symm NQ,ci,v',by rw [ag (Ne.symm NQ),ae]⟩
     . have nyD:y≠D:=af hy hD
       rw [ag nyD]
       exact R9 y _ (hX y _ hy)
end
end Gen
namespace Gen
open PySem L2
inductive uY (K:W.Frag) (vs:List V) (H:Hp) (Q:VK):Prop
 | mk (a z:Addr) (ns:List Int) (s0 s1 s2 s3:Int) (h1:vs=[.ref a,.ref z]) (h2:ak K H a (ns.map V.int)) (h3:gf K H z s0 s1 s2 s3) (h4:(∃o,H z=some o)) (h5:jE Q s0 s1 s3 H):uY K vs H Q
def qv (K:W.Frag):Sp:=λvs H Q _=>uY K vs H Q
abbrev NR:List Str:=["_law_script", "_law_sizes", "_law_cells"]
abbrev vU:List Str:=["_law_script", "_law_sizes"]
theorem Dr:aO NR vU (ao gc):=⟨rfl,rfl,rfl,by decide +kernel,rfl,by decide +kernel,by decide +kernel⟩
theorem Ve:(["_law_k", "_law_script"]:List Str).Nodup:=by decide +kernel
abbrev QV (P:Program) (w:World) (K:W.Frag) (mg:Str->Option Value) (base:Heap) (f:Addr) (cdv:Value) (A:Around) (outer:List Env) (s:Shared) (H:Hp) (E:XK):Cx:=
 (iR az P w K mg base NR "_law_machine" (ao gc) f cdv A outer s H E).nj
theorem jE.same {Q:VK}{s0 s1 s3:Int}{H H1:Hp}(k:jE Q s0 s1 s3 H) (s:ai H H1):jE Q s0 s1 s3 H1:=λm M names a1 a2 a3 a4 a5 a6 H' ok l1 l0 l2 l3 l4 l5 l6 l7 hM s1=>k m M names a1 a2 a3 a4 a5 a6 H' ok l1 l0 l2 l3 l4 l5 l6 l7 hM (s.trans s1)
section
variable {P:Program}{w:World}{K:W.Frag}{mg:Str->Option Value}{base:Heap}{fD fC fR:Addr}{dD dC dR:FuncData}
theorem Fu (gD:av P w K mg base az 4 fD dD qo (oP K)) (mD:mg "_law_machine_digits" = some (.ref fD)) (kD:W.keepIn K (.ref fD)=true) (bD:Binds K dD qo [])
 {f:Addr}{cdv:Value}{A:Around}{outer:List Env}{s:Shared}{H:Hp}{E:XK}{Q:VK}(hr:aX 4 (A.deeper (PyProof.Rows.envOfC "_law_machine" (ao gc) s.heap.objs.size f cdv))) :
 ∃tR:TS,gx (QV P w K mg base f cdv A outer s H E) (List.drop 2 (aD gc)) tR/\∀(H1:Hp) (v0:Option V) (z D:Addr) (c0 c1 c2 s0 s1 s2 s3:Int),H1 D=some (.lst [.int c0,.int c1,.int c2])->gf K H1 z s0 s1 s2 s3->(∃o,H1 z=some o)->jE Q s0 s1 s3 H1->
  tR { nx:=λ_ H'=>Q .aZ H',rt:=Q } [v0,some (.ref z),some (.ref D)] H1:=by
 refine ⟨_,au (aB (aw gD hr rfl mD kD bD .nil aA (aa (cg (aa (aY aU (pv 2) ar (λ_ _=>rfl)) (aa (aY aU (pv 2) ar (λ_ _=>rfl)) (aa (aM vC (aY aU (pv 2) ar (λ_ _=>rfl)) ar) ah)))) (aa (pv 1) ah)))),?_⟩
 intro H1 v0 z D c0 c1 c2 s0 s1 s2 s3 hD hz uX kk
 refine ⟨_,rfl,D,_,_,.int c0,rfl,rfl,ak.of hD,rfl,_,rfl,D,_,_,.int c1,rfl,rfl,ak.of hD,rfl,_,rfl,D,_,_,.int c2,rfl,rfl,ak.of hD,rfl,_,_,rfl,rfl,⟨by decide,by decide⟩,(by show 3<=sizeLine; decide),λp hp=>?_⟩
 have NS:ai H1 (upd H1 p (.lst [.int c0,.int c1,.int (c2 / 2)])):=ai.aq hp
 obtain ⟨o,ho⟩:=uX
 exact ⟨_,rfl,p,z,c0,c1,c2 / 2,s0,s1,s2,s3,rfl,ak.of ae,hz.same NS,⟨o,NS z o ho⟩,kk.same NS⟩
theorem Dt {f:Addr}{fd:FuncData}(F:bJ K "_law_machine" "_law_machine" gc f fd) (T:Own mg) (gD:av P w K mg base az 4 fD dD qo (oP K)) (mD:mg "_law_machine_digits" = some (.ref fD)) (kD:W.keepIn K (.ref fD)=true) (bD:Binds K dD qo [])
 (gC:av P w K mg base az 1 fC dC ["_law_script", "_law_k"] (uP K)) (mC:mg "_law_cell_at" = some (.ref fC)) (kC:W.keepIn K (.ref fC)=true) (bC:Binds K dC ["_law_script", "_law_k"] [])
 (gR:av P w K mg base az 2 fR dR ["_law_cell", "_law_k"] nK) (mR:mg "_law_rich" = some (.ref fR)) (kR:W.keepIn K (.ref fR)=true) (bR:Binds K dR ["_law_cell", "_law_k"] []) :
 av P w K mg base az 5 f fd vU (qv K):=by
 refine F.ok Dr (λvs H Q E h=>?_) (λcdv A outer s H vs Q E hr h=>?_)
 . obtain ⟨a,z,ns,s0,s1,s2,s3,rfl,_⟩:=h
   rfl
 . obtain ⟨a,z,ns,s0,s1,s2,s3,rfl,hS,hz,⟨oz,uX⟩,kk⟩:=h
   have cc:aX 1 _:=hr.mono (by decide)
   have d5:aX 2 _:=hr.mono (by decide)
   obtain ⟨tR,hR,rR⟩:=Fu gD mD kD bD (outer:=outer) (H:=H) (E:=E) (Q:=Q) hr
   refine ⟨_,aj (qN (i:=2) (N:=["_law_k", "_law_script"]) (js:=[none,some 0]) Dr.nd rfl rfl (by kernel_rfl) rfl (eQ rfl T.range (aa ar ah)) (λ_ _ _ _ _ _=>ax (i:=0) Ve rfl (Or.inl rfl) (.inr rfl)) (λ_ _ _ _ _ _=>br)
    (λ_ _ _ _ _ _=>aw gC cc rfl mC kC bC .nil aA (aa (pv 1) (aa (pv 0) ah))))
    (aj (bh (aL cU (aM jX (aY aU (pv 2) ar (λ_ _=>rfl)) ar) ar (aS _))
     (au (qN (i:=2) (N:=["_law_k", "_law_cell"]) (js:=[none,none]) (g:=ku K 2 (dj (cw 0) (dj (cw 1) kr))) Dr.nd rfl rfl (by kernel_rfl) rfl (qO rfl T.enum (aa (pv 2) ah))
      (λ_ _ _ _ _ _=>cJ rfl (aJ (ax (i:=0) Dq rfl (Or.inl rfl) (.inr rfl)) (aJ (ax (i:=1) Dq rfl (Or.inl rfl) (.inr rfl)) b8))) (λ_ _ _ _ _ _=>br)
      (λ_ _ _ _ _ _=>aw gR d5 rfl mR kR bR .nil aA (aa (pv 1) (aa (pv 0) ah))))) aT) hR),?_⟩
   refine ⟨3,rfl,by decide,by decide,λD hD=>?_⟩
   have nzD:z≠D:=af uX hD
   refine cX 3 (λi acc σ H2=>(∃cs:List Int,acc=cs.map V.int/\cs.length=i)/\(∃v,σ=[v,some (.ref a)])/\H2=upd H D (.lst acc)) ⟨⟨[],rfl,rfl⟩,⟨none,rfl⟩,rfl⟩ ae ?_ ?_
   . rintro acc σ H2 a9 ⟨⟨cs,rfl,nB⟩,_,rfl⟩
     obtain ⟨c0,c1,c2,rfl⟩:∃c0 c1 c2,cs=[c0,c1,c2]:=by
      match cs,nB with
      | [c0,c1,c2],_=>exact ⟨c0,c1,c2,rfl⟩
     refine ⟨Nat.le_refl _,?_⟩
     have pF:ai H (upd H D (.lst [.int c0,.int c1,.int c2])):=ai.aq hD
     refine ⟨_,rfl,D,_,_,.int c2,rfl,rfl,ak.of ae,rfl,_,_,rfl,rfl,(by show (0:Int)<2; decide),rfl,_,rfl,?_⟩
     refine cA (λ_=>?_) (λ_=>?_)
     . refine ⟨_,rfl,D,rfl,⟨_,ak.of ae⟩,λD2 lX=>?_⟩
       have nDD:D≠D2:=af ae lX
       refine cX 3 (λi acc σ H3=>(∃cs:List Int,acc=cs.map V.int/\cs.length=i)/\(∃u v,σ=[u,v])/\ai (upd H D (.lst [.int c0,.int c1,.int c2])) H3) ⟨⟨[],rfl,rfl⟩,⟨none,none,rfl⟩,ai.aq lX⟩ ae ?_ ?_
       . rintro acc σ H3 Du ⟨⟨cs,rfl,HB⟩,_,nQ⟩
         obtain ⟨e0,e1,e2,rfl⟩:∃c0 c1 c2,cs=[c0,c1,c2]:=by
          match cs,HB with
          | [c0,c1,c2],_=>exact ⟨c0,c1,c2,rfl⟩
         refine ⟨⟨_,ak.of (nQ D _ ae),Nat.le_refl _⟩,?_⟩
         have sf:=pF.trans nQ
         exact rR H3 _ z D2 e0 e1 e2 s0 s1 s2 s3 Du (hz.same sf) ⟨oz,sf z oz uX⟩ (kk.same sf)
       . rintro i acc σ H3 hi Du ⟨⟨cs,rfl,HB⟩,⟨u,v,rfl⟩,nQ⟩
         obtain ⟨ci,hx⟩:∃ci:Int,[V.int c0,V.int c1,V.int c2][i]?=some (.int ci):=by
          rcases (show i=0\/i=1\/i=2 by omega) with rfl | rfl | rfl
          . exact ⟨_,rfl⟩
          . exact ⟨_,rfl⟩
          . exact ⟨_,rfl⟩
         have qk:H3 D=some (.lst [V.int c0,V.int c1,V.int c2]):=nQ D _ ae
         refine ⟨⟨_,_,ak.of qk,hx⟩,?_⟩
         rintro x H' ⟨Tp,xv,rfl,kX,rfl,bX⟩
         have ex:=bX _ (ak.of qk)
         rw [hx] at ex
         cases ex
         refine ⟨Tp,_,rfl,aV.of ae,rfl,_,_,rfl,_,_,rfl,rfl,jo ?_⟩
         have xK:D2≠Tp:=af Du kX
         refine ⟨_,rfl,_,rfl,_,_,rfl,by omega,by omega,λv'=>⟨_,(by rw [ag xK]; exact Du),(by rw [List.length_map]; exact small (by omega)),bo hi ae ⟨⟨cs++[v'],?_,?_⟩,⟨_,_,rfl⟩,λy o hy=>?_⟩⟩⟩
         . rw [List.map_append]; rfl
         . rw [List.length_append,List.length_singleton,HB]
         . have e3:=nQ y o hy
           rw [ag (af hy lX),ag (af e3 kX)]
           exact e3
     . exact rR _ _ z D c0 c1 c2 s0 s1 s2 s3 ae (hz.same pF) ⟨oz,pF z oz uX⟩ (kk.same pF)
   . rintro i acc σ H2 hi a9 ⟨⟨cs,rfl,nB⟩,⟨v,rfl⟩,rfl⟩
     refine ⟨hi,?_⟩
     rintro x H' ⟨rfl,rfl⟩
     refine dv ?_
     refine ⟨_,rfl,_,rfl,a,ns,_,rfl,ai.seq (ai.aq hD) hS,by omega,λv'=>⟨_,ae,(by rw [List.length_map]; exact small (by omega)),bo hi ae ⟨⟨cs++[v'],?_,?_⟩,⟨_,rfl⟩,by rw [ie]⟩⟩⟩
     . rw [List.map_append]; rfl
     . rw [List.length_append,List.length_singleton,nB]
end
end Gen
namespace Gen
open PySem L2
section
variable {P:Program}{w:World}{K:W.Frag}{mg:Str->Option Value}{base:Heap}
theorem ja (z:Str):z=⟨z.cps.toList.toArray⟩:=by cases z; simp
abbrev mx:Stmt:=top 23
def gg (z:Str):Str:=if z.cps.toList[0]?=some 126 then ⟨z.cps.toList.tail.toArray⟩ else z
def zP:Sp:=λvs H Q _=>∃z:Str,vs=[.str z]/\z.length<=1000/\Q (.str (gg z)) H
theorem NT:aO ["literal"] ["literal"] (ao mx):=⟨rfl,rfl,rfl,by decide +kernel,rfl,by decide +kernel,by decide +kernel⟩
theorem BV {f:Addr}{fd:FuncData}(F:bJ K "bare_name" "bare_name" mx f fd):av P w K mg base az 1 f fd ["literal"] zP:=by
 refine F.ok NT (λvs H Q E h=>?_) (λcdv A outer s H vs Q E hr h=>?_)
 . obtain ⟨z,rfl,_⟩:=h
   rfl
 . obtain ⟨z,rfl,hz,kk⟩:=h
   have zQ:z.length<=sizeLine:=Nat.le_trans hz (by decide)
   refine ⟨_,aj (bh (jU (cV PySem.F.plainAttrs_str PySem.F.slot_str_startswith PySem.F.type_str_startswith wV (pv 0) (aa ay ah))) (au (aB (eh vI (pv 0) (eO ar) gq))) aT)
    (au (aB (pv 0))),?_⟩
   have tl:("~" : Str)=⟨#[126]⟩:=by decide +kernel
   refine ⟨_,rfl,rfl,z, "~",rfl,rfl,_,rfl,?_⟩
   rw [tl,oE]
   refine cA (λh=>?_) (λh2=>?_)
   . have e:z.cps.toList[0]?=some 126:=of_decide_eq_true h
     refine ⟨_,rfl,_,rfl,z,1,rfl,rfl,rfl,zQ,?_⟩
     have ts:gg z=Txt.slice z (some 1) none:=by
      rw [gg,if_pos e,ja (Txt.slice z (some 1) none),oF]
     rw [← ts]
     exact kk
   . have e:¬ z.cps.toList[0]?=some 126:=λe=>h2 (decide_eq_true e)
     rw [gg,if_neg e] at kk
     exact ⟨_,rfl,kk⟩
end
end Gen
namespace L2
open PySem PySem.Spec PyProof.Rows
theorem Fv {X:Cx} : dH X (compareOp .In) (λx y H Q=>∃c z,x=.str ⟨#[c]⟩/\y=.str z/\Q (.bl (decide (c∈z.cps.toList))) H):=by
 intro pins s σ H x y v u Q I rx ry h
 obtain ⟨c,z,rfl,rfl,q⟩:=h
 obtain ⟨t,rfl⟩:=rx
 obtain ⟨t',rfl⟩:=ry
 refine in_str ?_
 rw [StrLaws.found_one]
 exact ⟨.bl _,H,I,rfl,q⟩
end L2
namespace Gen
open PySem L2
abbrev jF:Stmt:=top 21
abbrev nR:Stmt:=top 22
def oQ:Sp:=λvs H Q _=>∃z:Str,vs=[.str z]/\aW z/\∀H',ai H H'->Q (.bl true) H'
theorem Vf:(["sign"]:List Str).Nodup:=by decide +kernel
section
variable {P:Program}{w:World}{K:W.Frag}{mg:Str->Option Value}{base:Heap}
structure zR (mg:Str->Option Value):Prop where
 aH:∃t,mg "LETTERS" = some (.str "abcdefghijklmnopqrstuvwxyz" t)
 longest:∃t,mg "LONGEST_NAME" = some (.int 8 t)
 len:mg "len" = none
 all:mg "all" = none
theorem HC:aO ["word"] ["word"] (ao jF):=⟨rfl,rfl,rfl,by decide +kernel,rfl,by decide +kernel,by decide +kernel⟩
theorem Dv:("abcdefghijklmnopqrstuvwxyz" : Str).cps.toList=aH:=by decide +kernel
theorem uZ {f:Addr}{fd:FuncData}(F:bJ K "is_name" "is_name" jF f fd) (T:zR mg):av P w K mg base az 1 f fd ["word"] oQ:=by
 obtain ⟨t1,hLE⟩:=T.aH
 obtain ⟨t2,hLO⟩:=T.longest
 refine F.ok HC (λvs H Q E h=>?_) (λcdv A outer s H vs Q E hr h=>?_)
 . obtain ⟨z,rfl,_⟩:=h
   rfl
 . obtain ⟨z,rfl,hz,kk⟩:=h
   refine ⟨_,aj (bh (oh (aL ui (bb pU (by rfl) T.len PySem.boot_len (aa (pv 0) ah)) ar (aS _)) (pK (aL mj (bb pU (by rfl) T.len PySem.boot_len (aa (pv 0) ah)) (fq (v:=.int 8) (by rfl) hLO ⟨_,rfl⟩) (aS _)))).pt (au (aB fk)) aT)
    (au (aB (bb (pq rfl) (by rfl) T.all PyProof.Rows.boot_all (aa (cO (N:=["sign"]) (js:=[none]) (by kernel_rfl) rfl (pZ (pv 0)) (λ_ _ _ _ _ _=>ax (i:=0) Vf rfl (Or.inl rfl) (.inr rfl)) (λ_ _ _ _ _ _=>br)
     (λ_ _ _ _ _ _=>gp Fv (pv 0) (fq (v:=.str "abcdefghijklmnopqrstuvwxyz") (by rfl) hLE ⟨_,rfl⟩) (by with_unfolding_all rfl))) ah)))),?_⟩
   have hl8:z.length<=8:=hz.len
   have cC:1<=z.length:=by
    have:=hz.1
    simpa [Str.length] using this
   have zj:z.length<=sizeLine:=Nat.le_trans hl8 (by decide)
   refine ⟨_,rfl,z,rfl,zj,_,_,rfl,rfl,_,rfl,cA (λh=>absurd (of_decide_eq_true h) (by omega)) (λ_=>?_)⟩
   refine ⟨_,rfl,z,rfl,zj,_,_,rfl,rfl,_,rfl,cA (λh=>absurd (of_decide_eq_true h) (by omega)) (λ_=>?_)⟩
   refine ⟨_,rfl,z,rfl,λD hD=>?_⟩
   refine cX z.cps.size (λi acc σ H2=>(∀y∈acc,y=.bl true)/\acc.length=i/\(∃u,σ=[u])/\ai H H2) ⟨(λz h=>nomatch h),rfl,⟨none,rfl⟩,ai.aq hD⟩ ae ?_ ?_
   . rintro acc σ H2 a9 ⟨rN,hl,_,s2⟩
     exact ⟨rfl,D,acc,rfl,ak.of a9,rN,kk H2 s2⟩
   . rintro i acc σ H2 hi a9 ⟨rN,hl,⟨u,rfl⟩,s2⟩
     refine ⟨hi,?_⟩
     rintro x H' ⟨rfl,c,ec,rfl⟩
     refine dv ?_
     have hc:c∈("abcdefghijklmnopqrstuvwxyz" : Str).cps.toList:=by
      rw [Dv]
      refine hz.2.2 c ?_
      have:z.cps.toList[i]?=some c:=by simpa using ec
      exact List.mem_of_getElem? this
     refine ⟨_,rfl,c,_,rfl,rfl,acc,a9,small (by have:i<z.length:=hi; omega),bo hi ae ⟨?_,?_,⟨_,rfl⟩,?_⟩⟩
     . intro y hy
       rcases List.mem_append.mp hy with h | h
       . exact rN y h
       . rw [List.mem_singleton.mp h,decide_eq_true hc]
     . rw [List.length_append,List.length_singleton,hl]
     . intro y o hy
       rw [ag (af hy hD)]
       exact s2 y o hy
end
end Gen
namespace Gen
open PySem L2
def iW (z:Str):Prop:=z = "0" \/ z = "1" \/ aW z\/∃x,aW x/\z = "~" ++ x
theorem oR {z:Str}(h:aW z):¬ z.cps.toList[0]?=some 126:=λe=>by
 have:=jQ.mp (h.2.2 126 (List.mem_of_getElem? e))
 omega
theorem eY (x:Str):(("~" : Str)++x).cps.toList=126::x.cps.toList:=by
 have e:("~" : Str)=⟨#[126]⟩:=by decide +kernel
 rw [e]
 show (#[126]++x.cps).toList=_
 simp
theorem HD {z:Str}(h:aW z\/∃x,aW x/\z = "~" ++ x):aW (gg z)/\z.length<=9:=by
 rcases h with h | ⟨x,hx,rfl⟩
 . rw [gg,if_neg (oR h)]
   exact ⟨h,Nat.le_trans h.len (by decide)⟩
 . have e1:=eY x
   have e2:gg ("~" ++ x)=x:=by
    rw [gg,e1,if_pos (show (126::x.cps.toList)[0]?=some 126 from rfl)]
    exact (ja x).symm
   rw [e2]
   refine ⟨hx,?_⟩
   have e3:(("~" : Str)++x).length=x.length+1:=by
    have:=congrArg List.length e1
    simpa [Str.length] using this
   have:=hx.len
   omega
def vV:Sp:=λvs H Q _=>∃z:Str,vs=[.str z]/\iW z/\∀H',ai H H'->Q (.bl true) H'
section
variable {P:Program}{w:World}{K:W.Frag}{mg:Str->Option Value}{base:Heap}
theorem Lb:aO ["word"] ["word"] (ao nR):=⟨rfl,rfl,rfl,by decide +kernel,rfl,by decide +kernel,by decide +kernel⟩
theorem Fw {f fN fB:Addr}{fd dN dB:FuncData}(F:bJ K "is_literal" "is_literal" nR f fd) (T:zR mg) (FN:bJ K "is_name" "is_name" jF fN dN) (mN:mg "is_name" = some (.ref fN)) (bN:Binds K dN ["word"] [])
 (FB:bJ K "bare_name" "bare_name" mx fB dB) (mB:mg "bare_name" = some (.ref fB)) (bB:Binds K dB ["literal"] []):av P w K mg base az 2 f fd ["word"] vV:=by
 have GN:av P w K mg base az 1 fN dN ["word"] oQ:=uZ FN T
 have GB:av P w K mg base az 1 fB dB ["literal"] zP:=BV FB
 refine F.ok Lb (λvs H Q E h=>?_) (λcdv A outer s H vs Q E hr h=>?_)
 . obtain ⟨z,rfl,_⟩:=h
   rfl
 . obtain ⟨z,rfl,hz,kk⟩:=h
   refine ⟨_,aj (bh (aL iZ (pv 0) (dm (aa ay (aa ay ah))) (by with_unfolding_all rfl)) (au (aB fk)) aT)
    (au (aB (aw GN hr rfl mN FN.kp bN .nil aA (aa (aw GB hr rfl mB FB.kp bB .nil aA (aa (pv 0) ah)) ah)))),?_⟩
   refine ⟨_,rfl,(by show 2<=sizeLine; decide),λt ht=>?_⟩
   have st:ai H (upd H t (.tup [.str "0",.str "1"])):=ai.aq ht
   refine ⟨t,_,rfl,.inr (aV.of ae),rfl,rfl,_,rfl,?_⟩
   refine cA (λ_=>kk _ st) (λh=>?_)
   have ny:aW z\/∃x,aW x/\z = "~" ++ x:=by
    rcases hz with rfl | rfl | hz
    . exact absurd (by decide +kernel) h
    . exact absurd (by decide +kernel) h
    . exact hz
   obtain ⟨nm,l9⟩:=HD ny
   exact ⟨_,rfl,z,rfl,Nat.le_trans l9 (by decide),_,rfl,nm,λH' s'=>kk H' (st.trans s')⟩
end
end Gen
namespace Gen
open PySem L2
abbrev qX:Stmt:=top 20
def fU:List (Key×V):=[(.inr "0",.int 0),(.inr "1",.int 1),(.inr "-",.aZ)]
def Dw (p z:Str):Prop:=(p = "first" /\ (z = "0" \/ z = "1" \/ z = "-"))\/(p = "literal" /\ iW z)\/(p = "name" /\ aW z)
def zS:Sp:=λvs H Q _=>∃p z:Str,vs=[.str p,.str z]/\Dw p z/\∀H',ai H H'->Q (.bl true) H'
section
variable {P:Program}{w:World}{K:W.Frag}{mg:Str->Option Value}{base:Heap}
theorem NU:aO ["part", "word"] ["part", "word"] (ao qX):=⟨rfl,rfl,rfl,by decide +kernel,rfl,by decide +kernel,by decide +kernel⟩
theorem Lc {f fN fL aF:Addr}{fd dN dL:FuncData}(F:bJ K "fits" "fits" qX f fd) (hF:mg "FIRSTS" = some (.ref aF)) (kF:KD P w K aF fU)
 (GN:av P w K mg base az 1 fN dN ["word"] oQ) (mN:mg "is_name" = some (.ref fN)) (kN:W.keepIn K (.ref fN)=true) (bN:Binds K dN ["word"] [])
 (GL:av P w K mg base az 2 fL dL ["word"] vV) (mL:mg "is_literal" = some (.ref fL)) (kL:W.keepIn K (.ref fL)=true) (bL:Binds K dL ["word"] []):av P w K mg base az 3 f fd ["part", "word"] zS:=by
 refine F.ok NU (λvs H Q E h=>?_) (λcdv A outer s H vs Q E hr h=>?_)
 . obtain ⟨p,z,rfl,_⟩:=h
   rfl
 . obtain ⟨p,z,rfl,hz,kk⟩:=h
   have cc:aX 1 _:=hr.mono (by decide)
   refine ⟨_,aj (bh (aL cU (pv 0) ay (aS _)) (au (aB (nh (MF (pv 1) (fq (v:=.ref aF) (by rfl) hF rfl)) (by with_unfolding_all rfl)))) aT)
    (aj (bh (aL cU (pv 0) ay (aS _)) (au (aB (aw GL hr rfl mL kL bL .nil aA (aa (pv 1) ah)))) aT)
    (au (aB (aw GN cc rfl mN kN bN .nil aA (aa (pv 1) ah))))),?_⟩
   have sr:ai H H:=λ_ _ h=>h
   rcases hz with ⟨rfl,hz⟩ | ⟨rfl,hz⟩ | ⟨rfl,hz⟩
   . refine ⟨_,rfl,rfl,_,rfl,cA (λ_=>?_) (λh=>absurd (decide_eq_true rfl) h)⟩
     rcases hz with rfl | rfl | rfl
     . exact ⟨_,rfl,aF,fU,.inr "0",rfl,rfl,kF,kk H sr⟩
     . exact ⟨_,rfl,aF,fU,.inr "1",rfl,rfl,kF,kk H sr⟩
     . exact ⟨_,rfl,aF,fU,.inr "-",rfl,rfl,kF,kk H sr⟩
   . refine ⟨_,rfl,rfl,_,rfl,cA (λh=>absurd (V.str.inj (of_decide_eq_true h)) (by decide +kernel)) (λ_=>?_)⟩
     refine ⟨_,rfl,rfl,_,rfl,cA (λ_=>?_) (λh=>absurd (decide_eq_true rfl) h)⟩
     exact ⟨_,rfl,z,rfl,hz,kk⟩
   . refine ⟨_,rfl,rfl,_,rfl,cA (λh=>absurd (V.str.inj (of_decide_eq_true h)) (by decide +kernel)) (λ_=>?_)⟩
     refine ⟨_,rfl,rfl,_,rfl,cA (λh=>absurd (V.str.inj (of_decide_eq_true h)) (by decide +kernel)) (λ_=>?_)⟩
     exact ⟨_,rfl,z,rfl,hz,kk⟩
end
end Gen
namespace Gen
open PySem L2
abbrev jG:Stmt:=top 25
structure lz (K:W.Frag) (H:Hp) (x:Addr) (sw:List Str) (kp:List (Key×V)) (gs:List (Str×Str×Str)):Prop where
 ex:∃(C dx g1 g2 g3:Addr) (fs:List (Str×V)) (ts:List Addr),H x=some (.ins C dx fs)/\um K C/\dZ K C "switches" /\ dZ K C "keepers" /\ dZ K C "gates" /\ fs.lookup ("switches" : Str)=some (.ref g1)/\fs.lookup ("keepers" : Str)=some (.ref g2)/\fs.lookup ("gates" : Str)=some (.ref g3)/\
  H g1=some (.lst (sw.map V.str))/\H g2=some (.dK kp)/\H g3=some (.lst (ts.map V.ref))/\Paired (λt (r:Str×Str×Str)=>H t=some (.tup [.str r.1,.str r.2.1,.str r.2.2])) ts gs
def iN (sw:List Str) (kp:List (Key×V)) (gs:List (Str×Str×Str)) (z:Str):Bool:=kQ (.str z) (sw.map V.str) || (bf kp (.inr z)).isSome || gs.any λr=>decide (r.1=z)
inductive xM (K:W.Frag) (vs:List V) (H:Hp) (Q:VK):Prop
 | mk (x:Addr) (sw:List Str) (kp:List (Key×V)) (gs:List (Str×Str×Str)) (z:Str) (h1:vs=[.ref x,.str z]) (h2:lz K H x sw kp gs) (h3:gs.length<=100) (h4:∀H',ai H H'->Q (.bl (iN sw kp gs z)) H'):xM K vs H Q
def oS (K:W.Frag):Sp:=λvs H Q _=>xM K vs H Q
theorem Vg:(["gate", "name"]:List Str).Nodup:=by decide +kernel
section
variable {P:Program}{w:World}{K:W.Frag}{mg:Str->Option Value}{base:Heap}
theorem HE:aO ["machine", "name"] ["machine", "name"] (ao jG):=⟨rfl,rfl,rfl,by decide +kernel,rfl,by decide +kernel,by decide +kernel⟩
theorem u0 {f:Addr}{fd:FuncData}(F:bJ K "is_told" "is_told" jG f fd) (hA:mg "any" = none):av P w K mg base az 1 f fd ["machine", "name"] (oS K):=by
 refine F.ok HE (λvs H Q E h=>?_) (λcdv A outer s H vs Q E hr h=>?_)
 . obtain ⟨x,sw,kp,gs,z,rfl,_⟩:=h
   rfl
 . obtain ⟨x,sw,kp,gs,z,rfl,⟨C,dx,g1,g2,g3,fs,ts,hx,cl,n1,n2,n3,e1,e2,e3,h1,h2,h3,hp⟩,hl,kk⟩:=h
   have hu:=cM hr
   refine ⟨_,aj (bh (oh (aL iZ (pv 1) (b9 (pv 0) rfl) (by with_unfolding_all rfl)) (pK (pJ (pS hu (pv 1) (b9 (pv 0) rfl)) (by with_unfolding_all rfl)))).pt (au (aB fk)) aT)
    (au (aB (bb (nF rfl) (by rfl) hA PyProof.Rows.boot_any (aa (cO (N:=["gate", "name"]) (js:=[none,some 1]) (by kernel_rfl) rfl (bO (b9 (pv 0) rfl)) (λ_ _ _ _ _ _=>ax (i:=0) Vg rfl (Or.inl rfl) (.inr rfl)) (λ_ _ _ _ _ _=>br)
     (λ_ _ _ _ _ _=>gp cU (aY (r:=mY K) jZ (pv 0) ar (λ_ _=>rfl)) (pv 1) (aS _))) ah)))),?_⟩
   have fin:iN sw kp gs z=true->Q (.bl true) H:=λe=>by
    have:=kk H (λ_ _ h=>h)
    rw [e] at this
    exact this
   refine ⟨_,rfl,_,rfl,x,C,dx,fs,.ref g1,rfl,hx,cl,n1,e1,g1,_,rfl,.inl (ak.of h1),rfl,(by simp [jP]),_,rfl,?_⟩
   refine cA (λhc=>gv (fin (by
    have cH:kQ (.str z) (sw.map V.str)=true:=hc
    rw [iN,cH]; rfl))) (λhc1=>?_)
   have c1:kQ (.str z) (sw.map V.str)=false:=by simpa using hc1
   refine ⟨_,rfl,_,rfl,x,C,dx,fs,.ref g2,rfl,hx,cl,n2,e2,g2,_,rfl,bH.k (k:=.inr z) h2,_,rfl,?_⟩
   refine cA (λhc=>fin (by
    have cH:(bf kp (.inr z)).isSome=true:=hc
    rw [iN,cH]; simp)) (λhc2=>?_)
   have c2:(bf kp (.inr z)).isSome=false:=by simpa using hc2
   have hlen:ts.length=gs.length:=hp.length
   refine ⟨_,rfl,x,C,dx,fs,.ref g3,rfl,hx,cl,n3,e3,g3,rfl,⟨_,ak.of h3⟩,λD hD=>?_⟩
   refine cX gs.length (λi acc σ H2=>acc=((gs.take i).map λr=>V.bl (decide (r.1=z)))/\(∃u,σ=[u,some (.str z)])/\ai H H2) ⟨rfl,⟨none,rfl⟩,ai.aq hD⟩ ae ?_ ?_
   . rintro acc σ H2 a9 ⟨rfl,_,s2⟩
     refine ⟨⟨_,ak.of (s2 _ _ h3),by rw [List.length_map,hlen]; exact Nat.le_refl _⟩,D,gs.map (λr=>decide (r.1=z)),rfl,ak.of (by rw [a9,List.take_length,List.map_map]; rfl),?_⟩
     have e:(gs.map (λr=>decide (r.1=z))).any _root_.id=iN sw kp gs z:=by
      rw [iN,c1,c2,List.any_map]
      rfl
     rw [e]
     exact kk H2 s2
   . rintro i acc σ H2 hi a9 ⟨rfl,⟨u,rfl⟩,s2⟩
     have hit:i<ts.length:=by omega
     have ht:=gr hp (List.getElem?_eq_getElem hit) (List.getElem?_eq_getElem hi)
     refine ⟨⟨_,.ref ts[i],ak.of (s2 _ _ h3),by rw [List.getElem?_map,List.getElem?_eq_getElem hit]; rfl⟩,?_⟩
     rintro x' H' ⟨rfl,bX⟩
     have ex:=bX _ (ak.of (s2 _ _ h3))
     rw [List.getElem?_map,List.getElem?_eq_getElem hit] at ex
     cases ex
     refine dv ?_
     refine ⟨_,rfl,ts[i],_,0,.str (gs[i]).1,rfl,rfl,aV.of (s2 _ _ ht),rfl,_,rfl,rfl,_,a9,small (by rw [List.length_map,List.length_take]; omega),bo hi ae ⟨?_,⟨_,rfl⟩,?_⟩⟩
     . rw [List.take_succ,List.getElem?_eq_getElem hi,List.map_append]
       show _=_++[V.bl (decide ((gs[i]).1=z))]
       congr 2
       simp
     . intro y o hy
       rw [ag (af hy hD)]
       exact s2 y o hy
end
end Gen
namespace Gen
open PySem L2
abbrev jH:Stmt:=top 28
theorem lz.same {K:W.Frag}{H H':Hp}{x:Addr}{sw:List Str}{kp:List (Key×V)}{gs:List (Str×Str×Str)}(h:lz K H x sw kp gs) (s:ai H H'):lz K H' x sw kp gs:=by
 obtain ⟨C,dx,g1,g2,g3,fs,ts,hx,cl,n1,n2,n3,e1,e2,e3,h1,h2,h3,hp⟩:=h
 exact ⟨C,dx,g1,g2,g3,fs,ts,s _ _ hx,cl,n1,n2,n3,e1,e2,e3,s _ _ h1,s _ _ h2,s _ _ h3,Paired.bE hp λt r e=>s _ _ e⟩
inductive u5 (K:W.Frag) (vs:List V) (H:Hp) (Q:VK):Prop
 | mk (x:Addr) (sw:List Str) (kp:List (Key×V)) (gs:List (Str×Str×Str)) (z:Str) (h1:vs=[.ref x,.str z]) (h2:lz K H x sw kp gs) (h3:gs.length<=100) (h4:z.length<=1000) (h5:(z = "0" \/ z = "1" \/ iN sw kp gs (gg z)=true)) (h6:∀H',ai H H'->Q (.bl true) H'):u5 K vs H Q
def qw (K:W.Frag):Sp:=λvs H Q _=>u5 K vs H Q
section
variable {P:Program}{w:World}{K:W.Frag}{mg:Str->Option Value}{base:Heap}
theorem Fx:aO ["machine", "literal"] ["machine", "literal"] (ao jH):=⟨rfl,rfl,rfl,by decide +kernel,rfl,by decide +kernel,by decide +kernel⟩
theorem AW {f fT fB:Addr}{fd dT dB:FuncData}(F:bJ K "is_known" "is_known" jH f fd) (hA:mg "any" = none) (FT:bJ K "is_told" "is_told" jG fT dT) (mT:mg "is_told" = some (.ref fT)) (bT:Binds K dT ["machine", "name"] [])
 (FB:bJ K "bare_name" "bare_name" mx fB dB) (mB:mg "bare_name" = some (.ref fB)) (bB:Binds K dB ["literal"] []):av P w K mg base az 2 f fd ["machine", "literal"] (qw K):=by
 have GT:av P w K mg base az 1 fT dT ["machine", "name"] (oS K):=u0 FT hA
 have GB:av P w K mg base az 1 fB dB ["literal"] zP:=BV FB
 refine F.ok Fx (λvs H Q E h=>?_) (λcdv A outer s H vs Q E hr h=>?_)
 . obtain ⟨x,sw,kp,gs,z,rfl,_⟩:=h
   rfl
 . obtain ⟨x,sw,kp,gs,z,rfl,hN,hl,hz,hk,kk⟩:=h
   refine ⟨_,aj (bh (aL iZ (pv 1) (dm (aa ay (aa ay ah))) (by with_unfolding_all rfl)) (au (aB fk)) aT)
    (au (aB (aw GT hr rfl mT FT.kp bT .nil aA (aa (pv 0) (aa (aw GB hr rfl mB FB.kp bB .nil aA (aa (pv 1) ah)) ah))))),?_⟩
   refine ⟨_,rfl,(by show 2<=sizeLine; decide),λt ht=>?_⟩
   have st:ai H (upd H t (.tup [.str "0",.str "1"])):=ai.aq ht
   refine ⟨t,_,rfl,.inr (aV.of ae),rfl,rfl,_,rfl,?_⟩
   refine cA (λ_=>kk _ st) (λh=>?_)
   have j0:iN sw kp gs (gg z)=true:=by
    rcases hk with rfl | rfl | hk
    . exact absurd (by decide +kernel) h
    . exact absurd (by decide +kernel) h
    . exact hk
   refine ⟨_,rfl,_,rfl,z,rfl,hz,x,sw,kp,gs,gg z,rfl,hN.same st,hl,λH' s'=>?_⟩
   rw [j0]
   exact kk H' (st.trans s')
end
end Gen
namespace Gen
open PySem L2
abbrev qY:Stmt:=inClass (top 1) 0
structure eB (mg:Str->Option Value):Prop where
 len:mg "len" = none
 list:mg "list" = none
 dict:mg "dict" = none
 tuple:mg "tuple" = none
 str:mg "str" = none
 int:mg "int" = none
 bool:mg "bool" = none
 zip:mg "zip" = none
 all:mg "all" = none
 isi:mg "isinstance" = none
structure NV where
 sw:List Str
 kp:List (Key×V)
 gt:List Addr
 nx:List (Key×V)
 nv:List (Key×V)
 sm:List (Key×V)
structure Sa (H:Hp) (F:NV) (f1 f2 f3 f4 f5 f6:Addr):Prop where
 h1:H f1=some (.lst (F.sw.map V.str))
 h2:H f2=some (.dK F.kp)
 h3:H f3=some (.lst (F.gt.map V.ref))
 h4:H f4=some (.dK F.nx)
 h5:H f5=some (.dK F.nv)
 h6:H f6=some (.dK F.sm)
structure kI (K:W.Frag) (mg:Str->Option Value) (C:Addr):Prop where
 cl:um K C
 n1:dZ K C "switches"
 n2:dZ K C "keepers"
 n3:dZ K C "gates"
 n4:dZ K C "nexts"
 n5:dZ K C "nevers"
 n6:dZ K C "somes"
 mgC:mg "Machine" = some (.ref C)
def iB (f1 f2 f3 f4 f5 f6:Addr):List (Str×V):=bt "somes" (.ref f6) (bt "nevers" (.ref f5) (bt "nexts" (.ref f4) (bt "gates" (.ref f3) (bt "keepers" (.ref f2) (bt "switches" (.ref f1) [])))))
section
variable (f1 f2 f3 f4 f5 f6:Addr)
theorem u6:(iB f1 f2 f3 f4 f5 f6).lookup ("switches" : Str)=some (.ref f1):=by
 unfold iB
 rw [ba,if_neg (by decide +kernel),ba,if_neg (by decide +kernel),ba,if_neg (by decide +kernel),ba,if_neg (by decide +kernel),ba,if_neg (by decide +kernel),ba,if_pos rfl]
theorem lY:(iB f1 f2 f3 f4 f5 f6).lookup ("keepers" : Str)=some (.ref f2):=by
 unfold iB
 rw [ba,if_neg (by decide +kernel),ba,if_neg (by decide +kernel),ba,if_neg (by decide +kernel),ba,if_neg (by decide +kernel),ba,if_pos rfl]
theorem u7:(iB f1 f2 f3 f4 f5 f6).lookup ("gates" : Str)=some (.ref f3):=by
 unfold iB
 rw [ba,if_neg (by decide +kernel),ba,if_neg (by decide +kernel),ba,if_neg (by decide +kernel),ba,if_pos rfl]
theorem zT:(iB f1 f2 f3 f4 f5 f6).lookup ("nexts" : Str)=some (.ref f4):=by
 unfold iB
 rw [ba,if_neg (by decide +kernel),ba,if_neg (by decide +kernel),ba,if_pos rfl]
theorem qx:(iB f1 f2 f3 f4 f5 f6).lookup ("nevers" : Str)=some (.ref f5):=by
 unfold iB
 rw [ba,if_neg (by decide +kernel),ba,if_pos rfl]
theorem u9:(iB f1 f2 f3 f4 f5 f6).lookup ("somes" : Str)=some (.ref f6):=by
 unfold iB
 rw [ba,if_pos rfl]
end
theorem cY {f:Str}{v:V}{fs:List (Str×V)}{n:Nat}(h:fs.length<=n):(bt f v fs).length<=n+1:=Nat.le_trans (mQ f v fs) (Nat.succ_le_succ h)
theorem ur {n m:Nat}(h:n<=m) (hm:m<1000):n<1000:=Nat.lt_of_le_of_lt h hm
theorem jb {H:Hp}{p g C dx:Addr}{o:HO}{fs fs':List (Str×V)}(hp:H p=some (.ins C dx fs)) (hg:H g=none) :
 (upd (upd H g o) p (.ins C dx fs')) p=some (.ins C dx fs')/\(upd (upd H g o) p (.ins C dx fs')) g=some o/\(upd H g o) p=some (.ins C dx fs)/\∀b u,H b=some u->b≠p->(upd (upd H g o) p (.ins C dx fs')) b=some u:=by
 have n:=af hp hg
 refine ⟨ae,by rw [ag (Ne.symm n),ae],by rw [ag n]; exact hp,λb u hb nb=>by rw [ag nb,ag (af hb hg)]; exact hb⟩
abbrev qZ:List Str:=["self", "switches", "keepers", "gates", "nexts", "nevers", "somes"]
inductive BW (C:Addr) (vs:List V) (H:Hp) (Q:VK):Prop
 | mk (p dx s1 s2 s3 s4 s5 s6:Addr) (F:NV) (h1:vs=[.ref p,.ref s1,.ref s2,.ref s3,.ref s4,.ref s5,.ref s6]) (h2:H p=some (.ins C dx [])) (h3:Sa H F s1 s2 s3 s4 s5 s6) (h4:∀(g1 g2 g3 g4 g5 g6:Addr) (H':Hp),(∀g∈[g1,g2,g3,g4,g5,g6],H g=none)->[g1,g2,g3,g4,g5,g6].Nodup->H' p=some (.ins C dx (iB g1 g2 g3 g4 g5 g6))->Sa H' F g1 g2 g3 g4 g5 g6->aQ H H' p->Q .aZ H'):BW C vs H Q
def Fy (C:Addr):Sp:=λvs H Q _=>BW C vs H Q
theorem j9 {H H':Hp}{p g:Addr}(k:∀b u,H b=some u->b≠p->H' b=some u) (hg:H' g=none) (np:g≠p):H g=none:=by
 cases e:H g with
 | none=>rfl
 | some o=>rw [k g o e np] at hg; cases hg
section
variable {P:Program}{w:World}{K:W.Frag}{mg:Str->Option Value}{base:Heap}
theorem NW:aO qZ qZ (ao qY):=⟨rfl,rfl,rfl,by decide +kernel,rfl,by decide +kernel,by decide +kernel⟩
theorem Ld {f C:Addr}{fd:FuncData}(F:bJ K "__init__" "Machine.__init__" qY f fd) (T:kI K mg C) (O:eB mg):av P w K mg base az 1 f fd qZ (Fy C):=by
 refine F.ok NW (λvs H Q E h=>?_) (λcdv A outer s H vs Q E hr h=>?_)
 . obtain ⟨p,dx,s1,s2,s3,s4,s5,s6,F,rfl,_⟩:=h
   rfl
 . obtain ⟨p,dx,s1,s2,s3,s4,s5,s6,F,rfl,hp,hF,kk⟩:=h
   refine ⟨_,aj (nq (pv 0) (c6 g0 (by rfl) O.list PyProof.Rows.boot_list (aa (pv 1) ah)) rfl)
    (aj (nq (pv 0) (c6 ij (by rfl) O.dict PyProof.Rows.boot_dict (aa (pv 2) ah)) rfl)
    (aj (nq (pv 0) (c6 g0 (by rfl) O.list PyProof.Rows.boot_list (aa (pv 3) ah)) rfl)
    (aj (nq (pv 0) (c6 ij (by rfl) O.dict PyProof.Rows.boot_dict (aa (pv 4) ah)) rfl)
    (aj (nq (pv 0) (c6 ij (by rfl) O.dict PyProof.Rows.boot_dict (aa (pv 5) ah)) rfl)
    (au (nq (pv 0) (c6 ij (by rfl) O.dict PyProof.Rows.boot_dict (aa (pv 6) ah)) rfl)))))),?_⟩
   have np:∀{b:Addr}{u:HO},H b=some u->(∀C dx fs,u≠.ins C dx fs)->b≠p:=λhb hu z=>by
    rw [z,hp] at hb
    exact hu _ _ _ (Option.some.inj hb).symm
   have m1:s1≠p:=np hF.h1 (λ_ _ _ z=>by cases z)
   have m2:s2≠p:=np hF.h2 (λ_ _ _ z=>by cases z)
   have m3:s3≠p:=np hF.h3 (λ_ _ _ z=>by cases z)
   have m4:s4≠p:=np hF.h4 (λ_ _ _ z=>by cases z)
   have m5:s5≠p:=np hF.h5 (λ_ _ _ z=>by cases z)
   have m6:s6≠p:=np hF.h6 (λ_ _ _ z=>by cases z)
   refine ⟨_,rfl,s1,_,rfl,.inl (ak.of hF.h1),λg1 e1=>?_⟩
   obtain ⟨p1,q1,r1,k1⟩:=jb (o:=.lst (F.sw.map V.str)) (fs':=bt "switches" (.ref g1) []) hp e1
   have b1:g1≠p:=(af hp e1).symm
   refine ⟨_,rfl,p,C,dx,[],rfl,r1,T.cl,T.n1,(by show 0<1000; decide),?_⟩
   generalize upd (upd H g1 (.lst (F.sw.map V.str))) p (.ins C dx (bt "switches" (.ref g1) []))=H1 at p1 q1 k1 ⊢
   refine ⟨_,rfl,s2,_,rfl,.inl (k1 _ _ hF.h2 m2),λg2 e2=>?_⟩
   obtain ⟨p2,q2,r2,k2⟩:=jb (o:=.dK F.kp) (fs':=bt "keepers" (.ref g2) (bt "switches" (.ref g1) [])) p1 e2
   have b2:g2≠p:=(af p1 e2).symm
   refine ⟨_,rfl,p,C,dx,_,rfl,r2,T.cl,T.n2,ur (cY (Nat.le_refl _)) (by show 1<1000; decide),?_⟩
   generalize upd (upd H1 g2 (.dK F.kp)) p (.ins C dx (bt "keepers" (.ref g2) (bt "switches" (.ref g1) [])))=H2 at p2 q2 k2 ⊢
   refine ⟨_,rfl,s3,_,rfl,.inl (ak.of (k2 _ _ (k1 _ _ hF.h3 m3) m3)),λg3 e3=>?_⟩
   obtain ⟨p3,q3,r3,k3⟩:=jb (o:=.lst (F.gt.map V.ref)) (fs':=bt "gates" (.ref g3) (bt "keepers" (.ref g2) (bt "switches" (.ref g1) []))) p2 e3
   have b3:g3≠p:=(af p2 e3).symm
   refine ⟨_,rfl,p,C,dx,_,rfl,r3,T.cl,T.n3,ur (cY (cY (Nat.le_refl _))) (by show 2<1000; decide),?_⟩
   generalize upd (upd H2 g3 (.lst (F.gt.map V.ref))) p (.ins C dx (bt "gates" (.ref g3) (bt "keepers" (.ref g2) (bt "switches" (.ref g1) []))))=H3 at p3 q3 k3 ⊢
   refine ⟨_,rfl,s4,_,rfl,.inl (k3 _ _ (k2 _ _ (k1 _ _ hF.h4 m4) m4) m4),λg4 e4=>?_⟩
   obtain ⟨p4,q4,r4,k4⟩:=jb (o:=.dK F.nx) (fs':=bt "nexts" (.ref g4) (bt "gates" (.ref g3) (bt "keepers" (.ref g2) (bt "switches" (.ref g1) [])))) p3 e4
   have b4:g4≠p:=(af p3 e4).symm
   refine ⟨_,rfl,p,C,dx,_,rfl,r4,T.cl,T.n4,ur (cY (cY (cY (Nat.le_refl _)))) (by show 3<1000; decide),?_⟩
   generalize upd (upd H3 g4 (.dK F.nx)) p (.ins C dx (bt "nexts" (.ref g4) (bt "gates" (.ref g3) (bt "keepers" (.ref g2) (bt "switches" (.ref g1) [])))))=H4 at p4 q4 k4 ⊢
   refine ⟨_,rfl,s5,_,rfl,.inl (k4 _ _ (k3 _ _ (k2 _ _ (k1 _ _ hF.h5 m5) m5) m5) m5),λg5 e5=>?_⟩
   obtain ⟨p5,q5,r5,k5⟩:=jb (o:=.dK F.nv) (fs':=bt "nevers" (.ref g5) (bt "nexts" (.ref g4) (bt "gates" (.ref g3) (bt "keepers" (.ref g2) (bt "switches" (.ref g1) []))))) p4 e5
   have b5:g5≠p:=(af p4 e5).symm
   refine ⟨_,rfl,p,C,dx,_,rfl,r5,T.cl,T.n5,ur (cY (cY (cY (cY (Nat.le_refl _))))) (by show 4<1000; decide),?_⟩
   generalize upd (upd H4 g5 (.dK F.nv)) p (.ins C dx (bt "nevers" (.ref g5) (bt "nexts" (.ref g4) (bt "gates" (.ref g3) (bt "keepers" (.ref g2) (bt "switches" (.ref g1) []))))))=H5 at p5 q5 k5 ⊢
   refine ⟨_,rfl,s6,_,rfl,.inl (k5 _ _ (k4 _ _ (k3 _ _ (k2 _ _ (k1 _ _ hF.h6 m6) m6) m6) m6) m6),λg6 e6=>?_⟩
   obtain ⟨p6,q6,r6,k6⟩:=jb (o:=.dK F.sm) (fs':=iB g1 g2 g3 g4 g5 g6) p5 e6
   have b6:g6≠p:=(af p5 e6).symm
   refine ⟨_,rfl,p,C,dx,_,rfl,r6,T.cl,T.n6,ur (cY (cY (cY (cY (cY (Nat.le_refl _)))))) (by show 5<1000; decide),?_⟩
   refine kk g1 g2 g3 g4 g5 g6 _ ?_ ?nd p6 ⟨k6 _ _ (k5 _ _ (k4 _ _ (k3 _ _ (k2 _ _ q1 b1) b1) b1) b1) b1,k6 _ _ (k5 _ _ (k4 _ _ (k3 _ _ q2 b2) b2) b2) b2,k6 _ _ (k5 _ _ (k4 _ _ q3 b3) b3) b3,k6 _ _ (k5 _ _ q4 b4) b4,k6 _ _ q5 b5,q6⟩
    (λb o hb nb=>k6 _ _ (k5 _ _ (k4 _ _ (k3 _ _ (k2 _ _ (k1 _ _ hb nb) nb) nb) nb) nb) nb)
   have z1:∀{g},g≠p->H1 g=none->H g=none:=λn e=>j9 k1 e n
   have z2:∀{g},g≠p->H2 g=none->H g=none:=λn e=>z1 n (j9 k2 e n)
   have z3:∀{g},g≠p->H3 g=none->H g=none:=λn e=>z2 n (j9 k3 e n)
   have z4:∀{g},g≠p->H4 g=none->H g=none:=λn e=>z3 n (j9 k4 e n)
   have z5:∀{g},g≠p->H5 g=none->H g=none:=λn e=>z4 n (j9 k5 e n)
   case nd=>
    have d12:=af q1 e2
    have d13:=af (k2 _ _ q1 b1) e3
    have d14:=af (k3 _ _ (k2 _ _ q1 b1) b1) e4
    have d15:=af (k4 _ _ (k3 _ _ (k2 _ _ q1 b1) b1) b1) e5
    have d16:=af (k5 _ _ (k4 _ _ (k3 _ _ (k2 _ _ q1 b1) b1) b1) b1) e6
    have d23:=af q2 e3
    have d24:=af (k3 _ _ q2 b2) e4
    have d25:=af (k4 _ _ (k3 _ _ q2 b2) b2) e5
    have d26:=af (k5 _ _ (k4 _ _ (k3 _ _ q2 b2) b2) b2) e6
    have d34:=af q3 e4
    have d35:=af (k4 _ _ q3 b3) e5
    have d36:=af (k5 _ _ (k4 _ _ q3 b3) b3) e6
    have d45:=af q4 e5
    have d46:=af (k5 _ _ q4 b4) e6
    have d56:=af q5 e6
    simp only [List.nodup_cons,List.mem_cons,List.not_mem_nil,or_false,not_or,List.nodup_nil,and_true,not_false_eq_true]
    exact ⟨⟨d12,d13,d14,d15,d16⟩,⟨d23,d24,d25,d26⟩,⟨d34,d35,d36⟩,⟨d45,d46⟩,d56⟩
   intro g hg
   simp only [List.mem_cons,List.not_mem_nil,or_false] at hg
   rcases hg with rfl | rfl | rfl | rfl | rfl | rfl
   . exact e1
   . exact z1 b2 e2
   . exact z2 b3 e3
   . exact z3 b4 e4
   . exact z4 b5 e5
   . exact z5 b6 e6
end
end Gen
namespace Gen
open PySem L2
abbrev jI:Stmt:=top 19
abbrev lA:Stmt:=top 27
def iH:List (Str×List Str):=[("switch",["name"]),("keep",["name", "first"]),("gate",["name", "literal", "literal"]),("next",["name", "literal"]),("never",["name", "literal"]),("some",["name", "literal"])]
def HF (K:W.Frag) (t:Addr) (xs:List V):Prop:=∃(o:Obj) (its:Array Value) (n:Nat),K.lookup t=some o/\o.cls=.type "tuple" /\ o.data=.seq its n/\its.size<=sizeLine/\Vals xs its.toList
theorem HF.sq {K:W.Frag}{t:Addr}{xs:List V}(h:HF K t xs) (H:Hp):aV K H t xs:=.inr h
structure vW (P:Program) (w:World) (K:W.Frag) (mg:Str->Option Value) (aF:Addr):Prop where
 mgF:mg "FORMS" = some (.ref aF)
 kd:∃kvs,KD P w K aF kvs/\∀key parts,(key,parts)∈iH->∃t,bf kvs (.inr key)=some (.ref t)/\HF K t (parts.map V.str)
structure nS (key:Str) (parts rest:List Str):Prop where
 mem:(key,parts)∈iH
 fit:Paired Dw parts rest
theorem nS.len {key:Str}{parts rest:List Str}(h:nS key parts rest):rest.length=parts.length/\parts.length<=3:=by
 refine ⟨h.fit.length.symm,?_⟩
 have:=h.mem
 simp only [iH,List.mem_cons,Prod.mk.injEq,List.not_mem_nil,or_false] at this
 rcases this with ⟨_,rfl⟩ | ⟨_,rfl⟩ | ⟨_,rfl⟩ | ⟨_,rfl⟩ | ⟨_,rfl⟩ | ⟨_,rfl⟩ <;> decide
inductive va (vs:List V) (H:Hp) (Q:VK):Prop
 | mk (p:Addr) (key:Str) (parts rest:List Str) (h1:vs=[.ref p]) (h2:H p=some (.lst ((key::rest).map V.str))) (h3:nS key parts rest) (h4:∀H',ai H H'->Q (.bl true) H'):va vs H Q
def qy:Sp:=λvs H Q _=>va vs H Q
theorem fE {x:V}{r:List V} : iE (x::r) 0=some x:=c9 (j:=0) rfl
theorem vb {x y:V}{r:List V} : iE (x::y::r) 1=some y:=c9 (j:=1) rfl
theorem at2 {x y z:V}{r:List V} : iE (x::y::z::r) 2=some z:=c9 (j:=2) rfl
theorem at3 {x y z u:V}{r:List V} : iE (x::y::z::u::r) 3=some u:=c9 (j:=3) rfl
theorem Dx:(["part", "word"]:List Str).Nodup:=by decide +kernel
theorem NX (x:V) (xs:List V):ox (x::xs) (some 1) none=xs:=by
 have e1:HT.jt (x::xs).length 0 (some 1)=1:=by
  have:=HT.Kp (x::xs).length 0 1
  rw [show ((1:Nat):Int)=1 from rfl] at this
  rw [this,List.length_cons]
  omega
 unfold ox
 rw [e1,HT.GU,List.drop_succ_cons,List.drop_zero,List.take_of_length_le (by simp)]
section
variable {P:Program}{w:World}{K:W.Frag}{mg:Str->Option Value}{base:Heap}
abbrev Sb:List Str:=["words", "parts"]
theorem xN:aO Sb ["words"] (ao jI):=⟨rfl,rfl,rfl,by decide +kernel,rfl,by decide +kernel,by decide +kernel⟩
theorem AX {f fF aF:Addr}{fd dF:FuncData}(F:bJ K "has_form" "has_form" jI f fd) (O:eB mg) (T:vW P w K mg aF)
 (GF:av P w K mg base az 3 fF dF ["part", "word"] zS) (mF:mg "fits" = some (.ref fF)) (kF:W.keepIn K (.ref fF)=true) (bF:Binds K dF ["part", "word"] []):av P w K mg base az 4 f fd ["words"] qy:=by
 refine F.ok xN (λvs H Q E h=>?_) (λcdv A outer s H vs Q E hr h=>?_)
 . obtain ⟨p,key,parts,rest,rfl,_⟩:=h
   rfl
 . obtain ⟨p,key,parts,rest,rfl,hp,hf,kk⟩:=h
   have zU:aX 3 _:=hr.mono (by decide)
   obtain ⟨kvs,kd,hk⟩:=T.kd
   obtain ⟨t,hv,ht⟩:=hk key parts hf.mem
   obtain ⟨hlen,jy⟩:=hf.len
   refine ⟨_,aj (bh (pJ (ES (aY aU (pv 0) ar (λ_ _=>rfl)) (fq (v:=.ref aF) (by rfl) T.mgF rfl)) (by with_unfolding_all rfl)) (au (aB fk)) aT)
    (aj (aK (i:=1) xN.nd rfl (Or.inl rfl) (vL (fq (v:=.ref aF) (by rfl) T.mgF rfl) (aY aU (pv 0) ar (λ_ _=>rfl)) (λ_ _=>rfl)))
    (aj (bh (aL Cy (bb bj (by rfl) O.len PySem.boot_len (aa (pv 0) ah)) (aM dJ (bb bj (by rfl) O.len PySem.boot_len (aa (pv 1) ah)) ar) (aS _)) (au (aB fk)) aT)
    (au (aB (bb (pq rfl) (by rfl) O.all PyProof.Rows.boot_all (aa (cO (N:=["part", "word"]) (js:=[none,none]) (g:=ku K 2 (dj (cw 0) (dj (cw 1) kr))) (by kernel_rfl) rfl
     (BD (by rfl) O.zip (aa (pv 1) (aa (eh qK (pv 0) (eO ar) gq) ah)))
     (λ_ _ _ _ _ _=>cJ rfl (aJ (ax (i:=0) Dx rfl (Or.inl rfl) (.inr rfl)) (aJ (ax (i:=1) Dx rfl (Or.inl rfl) (.inr rfl)) b8))) (λ_ _ _ _ _ _=>br)
     (λ_ _ _ _ _ _=>aw GF zU rfl mF kF bF .nil aA (aa (pv 0) (aa (pv 1) ah)))) ah)))))),?_⟩
   have kis:(bf kvs (.inr key)).isSome=true:=by rw [hv]; rfl
   refine ⟨_,rfl,p,_,0,.str key,rfl,rfl,ak.of hp,fE,aF,kvs,.inr key,rfl,rfl,kd,_,rfl,?_⟩
   rw [kis]
   refine cu ?_
   refine ⟨_,rfl,p,_,0,.str key,rfl,rfl,ak.of hp,fE,aF,kvs,.inr key,.ref t,rfl,rfl,kd,hv,?_⟩
   refine ⟨_,rfl,p,_,rfl,.inl (ak.of hp),_,rfl,t,_,rfl,.inr (ht.sq H),_,_,rfl,rfl,rfl,_,rfl,?_⟩
   refine Qv (by simp only [List.length_map,List.length_cons,hlen]; rfl) ?_
   refine ⟨_,rfl,_,rfl,_,rfl,p,_,rfl,ak.of hp,λq hq=>?_⟩
   rw [List.map_cons,NX]
   have sq:ai H (upd H q (.lst (rest.map V.str))):=ai.aq hq
   refine ⟨t,q,rfl,⟨_,ht.sq _⟩,⟨_,ak.of ae⟩,λD hD=>?_⟩
   have nqD:q≠D:=af ae hD
   refine cX parts.length (λi acc σ H2=>(∀y∈acc,y=.bl true)/\acc.length=i/\(∃u v,σ=[u,v])/\ai (upd H q (.lst (rest.map V.str))) H2) ⟨(λz h=>nomatch h),rfl,⟨none,none,rfl⟩,ai.aq hD⟩ ae ?_ ?_
   . rintro acc σ H2 a9 ⟨rN,hl,_,s2⟩
     exact ⟨⟨_,ht.sq _,by rw [List.length_map]; exact Nat.le_refl _⟩,D,acc,rfl,ak.of a9,rN,kk H2 (sq.trans s2)⟩
   . rintro i acc σ H2 hi a9 ⟨rN,hl,⟨u,v,rfl⟩,s2⟩
     have zV:i<rest.length:=by omega
     have zW:H2 q=some (.lst (rest.map V.str)):=s2 q _ ae
     have ep:(parts.map V.str)[i]?=some (.str parts[i]):=by rw [List.getElem?_map,List.getElem?_eq_getElem hi]; rfl
     have er:(rest.map V.str)[i]?=some (.str rest[i]):=by rw [List.getElem?_map,List.getElem?_eq_getElem zV]; rfl
     have iw:=gr hf.fit (List.getElem?_eq_getElem hi) (List.getElem?_eq_getElem zV)
     refine ⟨⟨_,_,_,_,ht.sq _,ak.of zW,ep,er⟩,?_⟩
     rintro x H' ⟨Tp,x1,x2,rfl,kX,rfl,ha,hb⟩
     have e1:=ha _ (ht.sq _)
     rw [ep] at e1
     cases e1
     have e2:=hb _ (ak.of zW)
     rw [er] at e2
     cases e2
     refine ⟨Tp,_,rfl,aV.of ae,rfl,_,_,rfl,_,_,rfl,rfl,jo ?_⟩
     have xK:D≠Tp:=af a9 kX
     refine ⟨_,rfl,_,rfl,_,_,rfl,iw,λH' s'=>?_⟩
     refine ⟨_,s' D _ (by rw [ag xK]; exact a9),small (by omega),bo hi ae ⟨?_,?_,⟨_,_,rfl⟩,?_⟩⟩
     . intro y hy
       rcases List.mem_append.mp hy with h | h
       . exact rN y h
       . exact List.mem_singleton.mp h
     . rw [List.length_append,List.length_singleton,hl]
     . intro y o hy
       rw [ag (af hy hD)]
       exact s' y o (by rw [ag (af (s2 y o hy) kX)]; exact s2 y o hy)
end
end Gen
namespace Gen
open PySem L2
def litsOf (parts rest:List Str):List Str:=((parts.zip rest).filter λr:Str×Str=>decide (r.1=("literal" : Str))).map (·.2)
inductive xO (vs:List V) (H:Hp) (Q:VK):Prop
 | mk (p:Addr) (key:Str) (parts rest:List Str) (h1:vs=[.ref p]) (h2:H p=some (.lst ((key::rest).map V.str))) (h3:nS key parts rest) (h4:∀q H',H q=none->ai H H'->H' q=some (.lst ((litsOf parts rest).map V.str))->Q (.ref q) H'):xO vs H Q
def tF:Sp:=λvs H Q _=>xO vs H Q
section
variable {P:Program}{w:World}{K:W.Frag}{mg:Str->Option Value}{base:Heap}
theorem zX:aO Sb ["words"] (ao lA):=⟨rfl,rfl,rfl,by decide +kernel,rfl,by decide +kernel,by decide +kernel⟩
theorem Dy {f aF:Addr}{fd:FuncData}(F:bJ K "literals_in" "literals_in" lA f fd) (O:eB mg) (T:vW P w K mg aF):av P w K mg base az 1 f fd ["words"] tF:=by
 refine F.ok zX (λvs H Q E h=>?_) (λcdv A outer s H vs Q E hr h=>?_)
 . obtain ⟨p,key,parts,rest,rfl,_⟩:=h
   rfl
 . obtain ⟨p,key,parts,rest,rfl,hp,hf,kk⟩:=h
   obtain ⟨kvs,kd,hk⟩:=T.kd
   obtain ⟨t,hv,ht⟩:=hk key parts hf.mem
   obtain ⟨hlen,jy⟩:=hf.len
   refine ⟨_,aj (aK (i:=1) zX.nd rfl (Or.inl rfl) (vL (fq (v:=.ref aF) (by rfl) T.mgF rfl) (aY aU (pv 0) ar (λ_ _=>rfl)) (λ_ _=>rfl)))
    (au (aB (cO (N:=["part", "word"]) (js:=[none,none]) (g:=ku K 2 (dj (cw 0) (dj (cw 1) kr))) (by kernel_rfl) rfl
     (BD (by rfl) O.zip (aa (pv 1) (aa (eh qK (pv 0) (eO ar) gq) ah)))
     (λ_ _ _ _ _ _=>cJ rfl (aJ (ax (i:=0) Dx rfl (Or.inl rfl) (.inr rfl)) (aJ (ax (i:=1) Dx rfl (Or.inl rfl) (.inr rfl)) b8))) (λ_ _ _ _ _ _=>oC (aL cU (pv 0) ay (aS _)))
     (λ_ _ _ _ _ _=>pv 1)))),?_⟩
   refine ⟨_,rfl,p,_,0,.str key,rfl,rfl,ak.of hp,fE,aF,kvs,.inr key,.ref t,rfl,rfl,kd,hv,?_⟩
   refine ⟨_,rfl,_,rfl,_,rfl,p,_,rfl,ak.of hp,λq hq=>?_⟩
   rw [List.map_cons,NX]
   have sq:ai H (upd H q (.lst (rest.map V.str))):=ai.aq hq
   refine ⟨t,q,rfl,⟨_,ht.sq _⟩,⟨_,ak.of ae⟩,λD hD=>?_⟩
   refine cX parts.length (λi acc σ H2=>acc=((((parts.zip rest).take i).filter λr:Str×Str=>decide (r.1=("literal" : Str))).map (·.2)).map V.str/\(∃u v,σ=[u,v])/\ai (upd H q (.lst (rest.map V.str))) H2) ⟨rfl,⟨none,none,rfl⟩,ai.aq hD⟩ ae ?_ ?_
   . rintro acc σ H2 a9 ⟨rfl,_,s2⟩
     refine ⟨⟨_,ht.sq _,by rw [List.length_map]; exact Nat.le_refl _⟩,kk D H2 (sq.free hD) (sq.trans s2) ?_⟩
     rw [a9,List.take_of_length_le (by rw [List.length_zip]; omega)]
     rfl
   . rintro i acc σ H2 hi a9 ⟨rfl,⟨u,v,rfl⟩,s2⟩
     have zV:i<rest.length:=by omega
     have zW:H2 q=some (.lst (rest.map V.str)):=s2 q _ ae
     have ep:(parts.map V.str)[i]?=some (.str parts[i]):=by rw [List.getElem?_map,List.getElem?_eq_getElem hi]; rfl
     have er:(rest.map V.str)[i]?=some (.str rest[i]):=by rw [List.getElem?_map,List.getElem?_eq_getElem zV]; rfl
     have ez:(parts.zip rest)[i]?=some (parts[i],rest[i]):=by rw [List.getElem?_eq_getElem (by rw [List.length_zip]; omega),List.getElem_zip]
     refine ⟨⟨_,_,_,_,ht.sq _,ak.of zW,ep,er⟩,?_⟩
     rintro x H' ⟨Tp,x1,x2,rfl,kX,rfl,ha,hb⟩
     have e1:=ha _ (ht.sq _)
     rw [ep] at e1
     cases e1
     have e2:=hb _ (ak.of zW)
     rw [er] at e2
     cases e2
     have xK:D≠Tp:=af a9 kX
     have s3:ai (upd H q (.lst (rest.map V.str))) (upd H2 Tp (.tup [.str parts[i],.str rest[i]])):=s2.trans (ai.aq kX)
     refine ⟨Tp,_,rfl,aV.of ae,rfl,_,_,rfl,_,_,rfl,rfl,?_⟩
     refine ⟨_,rfl,rfl,_,rfl,cA (λh=>?_) (λh=>?_)⟩
     . have el:parts[i]=("literal" : Str):=V.str.inj (of_decide_eq_true h)
       refine ⟨_,rfl,_,by rw [ag xK]; exact a9,?_,bo hi ae ⟨?_,⟨_,_,rfl⟩,?_⟩⟩
       . rw [List.length_map,List.length_map]
         refine Nat.lt_of_le_of_lt (List.length_filter_le _ _) ?_
         rw [List.length_take,List.length_zip]
         exact small (by omega)
       . rw [take_succ_filter _ _ _ _ ez,if_pos (decide_eq_true el),List.map_append,List.map_append]
         rfl
       . intro y o hy
         rw [ag (af hy hD)]
         exact s3 y o hy
     . have el:¬ parts[i]=("literal" : Str):=λe=>h (decide_eq_true (by rw [e]))
       refine bo hi (by rw [ag xK]; exact a9) ⟨?_,⟨_,_,rfl⟩,s3⟩
       rw [take_succ_filter _ _ _ _ ez,if_neg (by simpa using el),List.append_nil]
end
def dQ (l:List (Str×V)):List (Key×V):=l.map λr=>((.inr r.1:Key),r.2)
def cb (l:List (Str×Str)):List (Key×V):=l.map λr=>((.inr r.1:Key),V.str r.2)
structure RM (C:Addr) (H:Hp) (x dx g1 g2 g3 g4 g5 g6:Addr) (ts:List Addr) (M:aI):Prop where
 hx:H x=some (.ins C dx (iB g1 g2 g3 g4 g5 g6))
 h1:H g1=some (.lst (M.switches.map V.str))
 h2:H g2=some (.dK (dQ M.keepers))
 h3:H g3=some (.lst (ts.map V.ref))
 hp:Paired (λt r=>H t=some (.tup (kG r))) ts M.aE
 h4:H g4=some (.dK (cb M.nexts))
 h5:H g5=some (.dK (cb M.nevers))
 h6:H g6=some (.dK (cb M.somes))
 nd:[g1,g2,g3,g4,g5,g6].Nodup
theorem RM.same {C:Addr}{H H':Hp}{x dx g1 g2 g3 g4 g5 g6:Addr}{ts:List Addr}{M:aI}(h:RM C H x dx g1 g2 g3 g4 g5 g6 ts M) (s:ai H H'):RM C H' x dx g1 g2 g3 g4 g5 g6 ts M:=
 ⟨s _ _ h.hx,s _ _ h.h1,s _ _ h.h2,s _ _ h.h3,Paired.bE h.hp λt r e=>s _ _ e,s _ _ h.h4,s _ _ h.h5,s _ _ h.h6,h.nd⟩
theorem RM.names {K:W.Frag}{mg:Str->Option Value}{C:Addr}{H:Hp}{x dx g1 g2 g3 g4 g5 g6:Addr}{ts:List Addr}{M:aI}(h:RM C H x dx g1 g2 g3 g4 g5 g6 ts M) (T:kI K mg C):lz K H x M.switches (dQ M.keepers) M.aE:=
 ⟨C,dx,g1,g2,g3,_,ts,h.hx,T.cl,T.n1,T.n2,T.n3,u6 ..,lY ..,u7 ..,h.h1,h.h2,h.h3,h.hp⟩
def told (M:aI) (z:Str):Bool:=iN M.switches (dQ M.keepers) M.aE z
def Known (M:aI) (z:Str):Prop:=z.length<=9/\(z = "0" \/ z = "1" \/ told M (gg z)=true)
end Gen
namespace Gen
open PySem L2
abbrev nT:Stmt:=top 24
abbrev ke:Stmt:=top 26
abbrev rf:Stmt:=top 29
theorem Vh:(["literal", "machine"]:List Str).Nodup:=by decide +kernel
inductive zY (C:Addr) (vs:List V) (H:Hp) (Q:VK):Prop
 | mk (x dx g1 g2 g3 g4 g5 g6 p:Addr) (ts:List Addr) (M:aI) (key name:Str) (parts rest:List Str) (h1:vs=[.ref x,.ref p]) (h2:RM C H x dx g1 g2 g3 g4 g5 g6 ts M) (h3:M.aE.length<=60) (h4:H p=some (.lst ((key::name::rest).map V.str))) (h5:nS key parts (name::rest)) (h6:(key = "next" -> (bf (dQ M.keepers) (.inr name)).isSome=true)) (h7:(∀l∈litsOf parts (name::rest),Known M l)) (h8:∀H',ai H H'->Q (.bl false) H'):zY C vs H Q
def vX (C:Addr):Sp:=λvs H Q _=>zY C vs H Q
section
variable {P:Program}{w:World}{K:W.Frag}{mg:Str->Option Value}{base:Heap}
theorem Le:aO ["machine", "words"] ["machine", "words"] (ao ke):=⟨rfl,rfl,rfl,by decide +kernel,rfl,by decide +kernel,by decide +kernel⟩
theorem any_false {α:Type}(l:List α):(l.map λ_=>false).any _root_.id=false:=by
 induction l with
 | nil=>rfl
 | cons x r ih=>rw [List.map_cons,List.any_cons,ih]; rfl
theorem HG {f fL fK C:Addr}{fd dL dK:FuncData}(F:bJ K "lacks_name" "lacks_name" ke f fd) (T:kI K mg C) (hA:mg "any" = none)
 (GL:av P w K mg base az 1 fL dL ["words"] tF) (mL:mg "literals_in" = some (.ref fL)) (kL:W.keepIn K (.ref fL)=true) (bL:Binds K dL ["words"] [])
 (GK:av P w K mg base az 2 fK dK ["machine", "literal"] (qw K)) (mK:mg "is_known" = some (.ref fK)) (kK:W.keepIn K (.ref fK)=true) (bK:Binds K dK ["machine", "literal"] []):av P w K mg base az 3 f fd ["machine", "words"] (vX C):=by
 refine F.ok Le (λvs H Q E h=>?_) (λcdv A outer s H vs Q E hr h=>?_)
 . obtain ⟨x,dx,g1,g2,g3,g4,g5,g6,p,ts,M,key,name,parts,rest,rfl,_⟩:=h
   rfl
 . obtain ⟨x,dx,g1,g2,g3,g4,g5,g6,p,ts,M,key,name,parts,rest,rfl,hM,gm,hp,hf,zL,xo,kk⟩:=h
   have cc:aX 1 _:=hr.mono (by decide)
   have hu:=cM hr
   have Lf:∃tR:TS,gx (iR az P w K mg base ["machine", "words"] "lacks_name" (ao ke) f cdv A outer s H E).nj (List.drop 1 (aD ke)) tR/\tR { nx:=λ_ H'=>Q .aZ H',rt:=Q } [some (.ref x),some (.ref p)] H:=by
    refine ⟨_,au (aB (bb (nF rfl) (by rfl) hA PyProof.Rows.boot_any (aa (cO (N:=["literal", "machine"]) (js:=[none,some 0]) (by kernel_rfl) rfl (bO (aw GL cc rfl mL kL bL .nil aA (aa (pv 1) ah))) (λ_ _ _ _ _ _=>ax (i:=0) Vh rfl (Or.inl rfl) (.inr rfl)) (λ_ _ _ _ _ _=>br)
     (λ_ _ _ _ _ _=>LM (aw GK hr rfl mK kK bK .nil aA (aa (pv 1) (aa (pv 0) ah))))) ah))),?_⟩
    refine ⟨_,rfl,p,key,parts,name::rest,rfl,hp,hf,λq H1 hq s1 Js=>?_⟩
    refine ⟨q,rfl,⟨_,ak.of Js⟩,λD hD=>?_⟩
    refine cX (litsOf parts (name::rest)).length (λi acc σ H2=>acc=(((litsOf parts (name::rest)).take i).map λ_=>false).map V.bl/\(∃u,σ=[u,some (.ref x)])/\ai H1 H2) ⟨rfl,⟨none,rfl⟩,ai.aq hD⟩ ae ?_ ?_
    . rintro acc σ H2 a9 ⟨rfl,_,s2⟩
      refine ⟨⟨_,ak.of (s2 _ _ Js),by rw [List.length_map]; exact Nat.le_refl _⟩,D,_,rfl,ak.of a9,?_⟩
      rw [any_false]
      exact kk H2 (s1.trans s2)
    . rintro i acc σ H2 hi a9 ⟨rfl,⟨u,rfl⟩,s2⟩
      have ei:((litsOf parts (name::rest)).map V.str)[i]?=some (.str (litsOf parts (name::rest))[i]):=by rw [List.getElem?_map,List.getElem?_eq_getElem hi]; rfl
      refine ⟨⟨_,_,ak.of (s2 _ _ Js),ei⟩,?_⟩
      rintro x' H' ⟨rfl,bX⟩
      have ex:=bX _ (ak.of (s2 _ _ Js))
      rw [ei] at ex
      cases ex
      refine dv ?_
      obtain ⟨l9,hk⟩:=xo _ (List.getElem_mem hi)
      refine ⟨_,rfl,_,rfl,x,M.switches,dQ M.keepers,M.aE,_,rfl,((hM.same (s1.trans s2)).names T),by omega,by omega,hk,λH3 s3=>?_⟩
      refine ⟨true,rfl,_,s3 _ _ a9,?_,bo hi ae ⟨?_,⟨_,rfl⟩,?_⟩⟩
      . rw [List.length_map,List.length_map,List.length_take]
        have h3:(litsOf parts (name::rest)).length<=3:=by
         unfold litsOf
         rw [List.length_map]
         refine Nat.le_trans (List.length_filter_le _ _) ?_
         rw [List.length_zip]
         have:=hf.len
         omega
        exact small (by omega)
      . rw [dO (λ_=>false) (List.getElem?_eq_getElem hi),List.map_append]
        rfl
      . intro y o hy
        rw [ag (af hy hD)]
        exact s3 y o (s2 y o hy)
   obtain ⟨tR,hR,rR⟩:=Lf
   refine ⟨_,aj (bh (pL (aL cU (aY aU (pv 1) ar (λ_ _=>rfl)) ay (aS _)) (ni (pJ (Eg hu (aY aU (pv 1) ar (λ_ _=>rfl)) (b9 (pv 0) rfl)) (by with_unfolding_all rfl)))).pt (au (aB fk)) aT) hR,?_⟩
   refine ⟨_,rfl,p,_,0,.str key,rfl,rfl,ak.of hp,fE,rfl,_,rfl,?_⟩
   refine cA (λhc=>?_) (λhc=>?_)
   . have ek:key = "next":=V.str.inj (of_decide_eq_true hc)
     have hs:=zL ek
     refine ⟨_,rfl,p,_,1,.str name,rfl,rfl,ak.of hp,vb,_,rfl,x,C,dx,_,.ref g2,rfl,hM.hx,T.cl,T.n2,lY ..,g2,_,rfl,bH.k (k:=.inr name) hM.h2,_,rfl,?_⟩
     rw [hs]
     exact cu rR
   . exact cu rR
end
end Gen
namespace Gen
open PySem L2
def NY (bw:Str) (M:aI) (name:Str):Prop:=
 (bw = "next" /\ bf (cb M.nexts) (.inr name)=none)\/((bw = "never" \/ bw = "some")/\bf (cb M.nevers) (.inr name)=none/\bf (cb M.somes) (.inr name)=none)\/((bw = "switch" \/ bw = "keep" \/ bw = "gate")/\told M name=false)
inductive zZ (C:Addr) (vs:List V) (H:Hp) (Q:VK):Prop
 | mk (x dx g1 g2 g3 g4 g5 g6:Addr) (ts:List Addr) (M:aI) (bw name:Str) (h1:vs=[.ref x,.str bw,.str name]) (h2:RM C H x dx g1 g2 g3 g4 g5 g6 ts M) (h3:M.aE.length<=60) (h4:NY bw M name) (h5:∀H',ai H H'->Q (.bl false) H'):zZ C vs H Q
def vY (C:Addr):Sp:=λvs H Q _=>zZ C vs H Q
def NZ (bw:Str) (M:aI):Prop:=
 (bw = "switch" /\ M.switches.length<12)\/(bw = "keep" /\ M.keepers.length<16)\/(bw = "gate" /\ M.aE.length<60)\/bw = "next" \/ ((bw = "never" \/ bw = "some")/\M.nevers.length+M.somes.length<8)
inductive BZ (C:Addr) (vs:List V) (H:Hp) (Q:VK):Prop
 | mk (x dx g1 g2 g3 g4 g5 g6:Addr) (ts:List Addr) (M:aI) (bw:Str) (h1:vs=[.ref x,.str bw]) (h2:RM C H x dx g1 g2 g3 g4 g5 g6 ts M) (h3:NZ bw M) (h4:Q (.bl false) H):BZ C vs H Q
def Aa (C:Addr):Sp:=λvs H Q _=>BZ C vs H Q
structure N0 (mg:Str->Option Value):Prop where
 sw:∃t,mg "MOST_SWITCHES" = some (.int 12 t)
 kp:∃t,mg "MOST_KEEPERS" = some (.int 16 t)
 gt:∃t,mg "MOST_GATES" = some (.int 60 t)
 ws:∃t,mg "MOST_WISHES" = some (.int 8 t)
section
variable {P:Program}{w:World}{K:W.Frag}{mg:Str->Option Value}{base:Heap}
theorem Lg:aO ["machine", "form", "name"] ["machine", "form", "name"] (ao nT):=⟨rfl,rfl,rfl,by decide +kernel,rfl,by decide +kernel,by decide +kernel⟩
theorem d6 {a b:Str}{A B:Prop}(h:a≠b) (q:B):if decide (V.str a=V.str b)=true then A else B:=by
 rw [decide_eq_false (λe=>h (V.str.inj e))]
 exact cu q
theorem nU {a:Str}{A B:Prop}(q:A):if decide (V.str a=V.str a)=true then A else B:=by
 rw [decide_eq_true rfl]
 exact gv q
theorem HH {f fT C:Addr}{fd dT:FuncData}(F:bJ K "is_twice" "is_twice" nT f fd) (T:kI K mg C)
 (GT:av P w K mg base az 1 fT dT ["machine", "name"] (oS K)) (mT:mg "is_told" = some (.ref fT)) (kT:W.keepIn K (.ref fT)=true) (bT:Binds K dT ["machine", "name"] []):av P w K mg base az 2 f fd ["machine", "form", "name"] (vY C):=by
 refine F.ok Lg (λvs H Q E h=>?_) (λcdv A outer s H vs Q E hr h=>?_)
 . obtain ⟨x,dx,g1,g2,g3,g4,g5,g6,ts,M,bw,name,rfl,_⟩:=h
   rfl
 . obtain ⟨x,dx,g1,g2,g3,g4,g5,g6,ts,M,bw,name,rfl,hM,gm,hw,kk⟩:=h
   have hu:=cM hr
   refine ⟨_,aj (bh (aL cU (pv 1) ay (aS _)) (au (aB (nh (pS hu (pv 2) (b9 (pv 0) rfl)) (by with_unfolding_all rfl)))) aT)
    (aj (bh (aL iZ (pv 1) (dm (aa ay (aa ay ah))) (by with_unfolding_all rfl)) (au (aB (Cu (nh (pS hu (pv 2) (b9 (pv 0) rfl)) (by with_unfolding_all rfl)) (yF (nh (pS hu (pv 2) (b9 (pv 0) rfl)) (by with_unfolding_all rfl)))))) aT)
    (au (aB (aw GT hr rfl mT kT bT .nil aA (aa (pv 0) (aa (pv 2) ah)))))),?_⟩
   have sr:ai H H:=λ_ _ h=>h
   rcases hw with ⟨rfl,hv⟩ | ⟨hf,uR,xP⟩ | ⟨hf,hv⟩
   . refine ⟨_,rfl,rfl,_,rfl,nU ?_⟩
     refine ⟨_,rfl,_,rfl,x,C,dx,_,.ref g4,rfl,hM.hx,T.cl,T.n4,zT ..,g4,_,rfl,bH.k (k:=.inr name) hM.h4,?_⟩
     rw [hv]
     exact kk H sr
   . have nn:bw ≠ "next":=by rcases hf with rfl | rfl <;> decide +kernel
     refine ⟨_,rfl,rfl,_,rfl,d6 nn ?_⟩
     refine ⟨_,rfl,(by show 2<=sizeLine; decide),λt ht=>?_⟩
     have st:ai H (upd H t (.tup [.str "never",.str "some"])):=ai.aq ht
     have B0:=hM.same st
     refine ⟨t,_,rfl,.inr (aV.of ae),rfl,rfl,_,rfl,?_⟩
     have pk:kQ (.str bw) [.str "never",.str "some"]=true:=by rcases hf with rfl | rfl <;> decide +kernel
     show if kQ (.str bw) [.str "never",.str "some"]=true then _ else _
     rw [pk]
     refine gv ?_
     refine ⟨_,rfl,_,rfl,x,C,dx,_,.ref g5,rfl,B0.hx,T.cl,T.n5,qx ..,g5,_,rfl,bH.k (k:=.inr name) B0.h5,_,rfl,?_⟩
     rw [uR]
     refine cu ?_
     refine ⟨_,rfl,_,rfl,x,C,dx,_,.ref g6,rfl,B0.hx,T.cl,T.n6,u9 ..,g6,_,rfl,bH.k (k:=.inr name) B0.h6,?_⟩
     rw [xP]
     exact kk _ st
   . have nn:bw ≠ "next":=by rcases hf with rfl | rfl | rfl <;> decide +kernel
     refine ⟨_,rfl,rfl,_,rfl,d6 nn ?_⟩
     refine ⟨_,rfl,(by show 2<=sizeLine; decide),λt ht=>?_⟩
     have st:ai H (upd H t (.tup [.str "never",.str "some"])):=ai.aq ht
     have B0:=hM.same st
     refine ⟨t,_,rfl,.inr (aV.of ae),rfl,rfl,_,rfl,?_⟩
     have pk:kQ (.str bw) [.str "never",.str "some"]=false:=by rcases hf with rfl | rfl | rfl <;> decide +kernel
     show if kQ (.str bw) [.str "never",.str "some"]=true then _ else _
     rw [pk]
     refine cu ?_
     refine ⟨_,rfl,_,rfl,x,M.switches,dQ M.keepers,M.aE,name,rfl,B0.names T,by omega,λH' s'=>?_⟩
     have:iN M.switches (dQ M.keepers) M.aE name=false:=hv
     rw [this]
     exact kk H' (st.trans s')
theorem N1:aO ["machine", "form"] ["machine", "form"] (ao rf):=⟨rfl,rfl,rfl,by decide +kernel,rfl,by decide +kernel,by decide +kernel⟩
theorem Lh {f C:Addr}{fd:FuncData}(F:bJ K "is_too_many" "is_too_many" rf f fd) (T:kI K mg C) (O:eB mg) (W:N0 mg):av P w K mg base az 1 f fd ["machine", "form"] (Aa C):=by
 obtain ⟨t1,m1⟩:=W.sw
 obtain ⟨t2,m2⟩:=W.kp
 obtain ⟨t3,m3⟩:=W.gt
 obtain ⟨t4,m4⟩:=W.ws
 refine F.ok N1 (λvs H Q E h=>?_) (λcdv A outer s H vs Q E hr h=>?_)
 . obtain ⟨x,dx,g1,g2,g3,g4,g5,g6,ts,M,bw,rfl,_⟩:=h
   rfl
 . obtain ⟨x,dx,g1,g2,g3,g4,g5,g6,ts,M,bw,rfl,hM,hw,kk⟩:=h
   refine ⟨_,aj (bh (aL cU (pv 1) ay (aS _)) (au (aB (gp uk (bb bj (by rfl) O.len PySem.boot_len (aa (b9 (pv 0) rfl) ah)) (fq (v:=.int 12) (by rfl) m1 ⟨_,rfl⟩) (aS _)))) aT)
    (aj (bh (aL cU (pv 1) ay (aS _)) (au (aB (gp uk (bb pV (by rfl) O.len PySem.boot_len (aa (b9 (pv 0) rfl) ah)) (fq (v:=.int 16) (by rfl) m2 ⟨_,rfl⟩) (aS _)))) aT)
    (aj (bh (aL cU (pv 1) ay (aS _)) (au (aB (gp uk (bb bj (by rfl) O.len PySem.boot_len (aa (b9 (pv 0) rfl) ah)) (fq (v:=.int 60) (by rfl) m3 ⟨_,rfl⟩) (aS _)))) aT)
    (aj (bh (aL cU (pv 1) ay (aS _)) (au (aB fk)) aT)
    (au (aB (gp uk (aM dJ (bb pV (by rfl) O.len PySem.boot_len (aa (b9 (pv 0) rfl) ah)) (bb pV (by rfl) O.len PySem.boot_len (aa (b9 (pv 0) rfl) ah))) (fq (v:=.int 8) (by rfl) m4 ⟨_,rfl⟩) (aS _))))))),?_⟩
   have hJ:=hM.hp.length
   have fin:∀(n k:Int),n<k->Q (.bl (decide (k<=n))) H:=λn k h=>by
    rw [decide_eq_false (by omega)]
    exact kk
   rcases hw with ⟨rfl,hv⟩ | ⟨rfl,hv⟩ | ⟨rfl,hv⟩ | rfl | ⟨hf,hv⟩
   . refine ⟨_,rfl,rfl,_,rfl,nU ?_⟩
     exact ⟨_,rfl,x,C,dx,_,.ref g1,rfl,hM.hx,T.cl,T.n1,u6 ..,g1,_,rfl,.inl (ak.of hM.h1),_,_,rfl,rfl,fin _ _ (by rw [List.length_map]; omega)⟩
   . refine ⟨_,rfl,rfl,_,rfl,d6 (by decide +kernel) ⟨_,rfl,rfl,_,rfl,nU ?_⟩⟩
     exact ⟨_,rfl,x,C,dx,_,.ref g2,rfl,hM.hx,T.cl,T.n2,lY ..,g2,_,rfl,hM.h2,_,_,rfl,rfl,fin _ _ (by unfold dQ; rw [List.length_map]; omega)⟩
   . refine ⟨_,rfl,rfl,_,rfl,d6 (by decide +kernel) ⟨_,rfl,rfl,_,rfl,d6 (by decide +kernel) ⟨_,rfl,rfl,_,rfl,nU ?_⟩⟩⟩
     exact ⟨_,rfl,x,C,dx,_,.ref g3,rfl,hM.hx,T.cl,T.n3,u7 ..,g3,_,rfl,.inl (ak.of hM.h3),_,_,rfl,rfl,fin _ _ (by rw [List.length_map]; omega)⟩
   . exact ⟨_,rfl,rfl,_,rfl,d6 (by decide +kernel) ⟨_,rfl,rfl,_,rfl,d6 (by decide +kernel) ⟨_,rfl,rfl,_,rfl,d6 (by decide +kernel) ⟨_,rfl,rfl,_,rfl,nU kk⟩⟩⟩⟩
   . have n1:bw ≠ "switch":=by rcases hf with rfl | rfl <;> decide +kernel
     have n2:bw ≠ "keep":=by rcases hf with rfl | rfl <;> decide +kernel
     have n3:bw ≠ "gate":=by rcases hf with rfl | rfl <;> decide +kernel
     have n4:bw ≠ "next":=by rcases hf with rfl | rfl <;> decide +kernel
     refine ⟨_,rfl,rfl,_,rfl,d6 n1 ⟨_,rfl,rfl,_,rfl,d6 n2 ⟨_,rfl,rfl,_,rfl,d6 n3 ⟨_,rfl,rfl,_,rfl,d6 n4 ?_⟩⟩⟩⟩
     exact ⟨_,rfl,x,C,dx,_,.ref g5,rfl,hM.hx,T.cl,T.n5,qx ..,g5,_,rfl,hM.h5,_,rfl,x,C,dx,_,.ref g6,rfl,hM.hx,T.cl,T.n6,u9 ..,g6,_,rfl,hM.h6,_,_,rfl,rfl,_,_,rfl,rfl,fin _ _ (by unfold cb; rw [List.length_map,List.length_map]; omega)⟩
end
end Gen
namespace Gen
open PySem L2
abbrev nV:Stmt:=top 18
inductive dr (M:aI):List Str->aI->Prop
 | sw {n:Str} : aW n->told M n=false->M.switches.length<12->dr M ["switch",n] { M with switches:=M.switches++[n] }
 | kp {n f:Str}{v:V} : aW n->((f = "0" /\ v=.int 0)\/(f = "1" /\ v=.int 1)\/(f = "-" /\ v=.aZ))->told M n=false->M.keepers.length<16->dr M ["keep",n,f] { M with keepers:=M.keepers++[(n,v)] }
 | gt {n a b:Str} : aW n->iW a->iW b->Known M a->Known M b->told M n=false->M.aE.length<60->dr M ["gate",n,a,b] { M with aE:=M.aE++[(n,a,b)] }
 | nx {n l:Str} : aW n->iW l->Known M l->(bf (dQ M.keepers) (.inr n)).isSome=true->bf (cb M.nexts) (.inr n)=none->M.nexts.length<100->dr M ["next",n,l] { M with nexts:=M.nexts++[(n,l)] }
 | nv {n l:Str} : aW n->iW l->Known M l->bf (cb M.nevers) (.inr n)=none->bf (cb M.somes) (.inr n)=none->M.nevers.length+M.somes.length<8->dr M ["never",n,l] { M with nevers:=M.nevers++[(n,l)] }
 | sm {n l:Str} : aW n->iW l->Known M l->bf (cb M.nevers) (.inr n)=none->bf (cb M.somes) (.inr n)=none->M.nevers.length+M.somes.length<8->dr M ["some",n,l] { M with somes:=M.somes++[(n,l)] }
theorem yq:¬ decide (("name" : Str) = "literal")=true:=by decide +kernel
theorem N2:¬ decide (("first" : Str) = "literal")=true:=by decide +kernel
theorem dr.bw {M M':aI}{ws:List Str}(h:dr M ws M'):∃(key name:Str) (rest parts:List Str),ws=key::name::rest/\nS key parts (name::rest)/\NY key M name/\(key = "next" -> (bf (dQ M.keepers) (.inr name)).isSome=true)/\(∀l∈litsOf parts (name::rest),Known M l)/\NZ key M:=by
 have fN:∀{n:Str},aW n->Dw "name" n:=λh=>.inr (.inr ⟨rfl,h⟩)
 have fL:∀{n:Str},iW n->Dw "literal" n:=λh=>.inr (.inl ⟨rfl,h⟩)
 have l1:∀{n l:Str},litsOf ["name", "literal"] [n,l]=[l]:=λ{n l}=>by
  unfold litsOf
  simp only [List.zip_cons_cons,List.zip_nil_right,List.filter_cons,List.filter_nil]
  rw [if_neg yq]
  rfl
 cases h with
 | @sw n hn ht hl=>
  refine ⟨_,_,_,["name"],rfl,⟨by simp [iH],.cons (fN hn) .nil⟩,.inr (.inr ⟨.inl rfl,ht⟩),λe=>absurd e (by decide +kernel),λl h=>?_,.inl ⟨rfl,hl⟩⟩
  have e:litsOf ["name"] [n]=[]:=by
   unfold litsOf
   simp only [List.zip_cons_cons,List.zip_nil_right,List.filter_cons,List.filter_nil]
   rw [if_neg yq]
   rfl
  rw [e] at h
  cases h
 | @kp n f v hn hf ht hl=>
  refine ⟨_,_,_,["name", "first"],rfl,⟨by simp [iH],.cons (fN hn) (.cons (.inl ⟨rfl,?_⟩) .nil)⟩,.inr (.inr ⟨.inr (.inl rfl),ht⟩),λe=>absurd e (by decide +kernel),λl h=>?_,.inr (.inl ⟨rfl,hl⟩)⟩
  . rcases hf with ⟨h,_⟩ | ⟨h,_⟩ | ⟨h,_⟩
    . exact .inl h
    . exact .inr (.inl h)
    . exact .inr (.inr h)
  . have e:litsOf ["name", "first"] [n,f]=[]:=by
     unfold litsOf
     simp only [List.zip_cons_cons,List.zip_nil_right,List.filter_cons,List.filter_nil]
     rw [if_neg yq,if_neg N2]
     rfl
    rw [e] at h
    cases h
 | @gt n a b hn ha hb ka kb ht hl=>
  refine ⟨_,_,_,["name", "literal", "literal"],rfl,⟨by simp [iH],.cons (fN hn) (.cons (fL ha) (.cons (fL hb) .nil))⟩,.inr (.inr ⟨.inr (.inr rfl),ht⟩),λe=>absurd e (by decide +kernel),λl h=>?_,.inr (.inr (.inl ⟨rfl,hl⟩))⟩
  have e:litsOf ["name", "literal", "literal"] [n,a,b]=[a,b]:=by
   unfold litsOf
   simp only [List.zip_cons_cons,List.zip_nil_right,List.filter_cons,List.filter_nil]
   rw [if_neg yq]
   rfl
  rw [e] at h
  rcases List.mem_cons.mp h with rfl | h
  . exact ka
  . rw [List.mem_singleton.mp h]; exact kb
 | @nx n l hn hl kl hk hv Vi=>
  refine ⟨_,_,_,["name", "literal"],rfl,⟨by simp [iH],.cons (fN hn) (.cons (fL hl) .nil)⟩,.inl ⟨rfl,hv⟩,λ_=>hk,λl' h=>?_,.inr (.inr (.inr (.inl rfl)))⟩
  rw [l1] at h
  rw [List.mem_singleton.mp h]; exact kl
 | @nv n l hn hl kl uR xP h8=>
  refine ⟨_,_,_,["name", "literal"],rfl,⟨by simp [iH],.cons (fN hn) (.cons (fL hl) .nil)⟩,.inr (.inl ⟨.inl rfl,uR,xP⟩),λe=>absurd e (by decide +kernel),λl' h=>?_,.inr (.inr (.inr (.inr ⟨.inl rfl,h8⟩)))⟩
  rw [l1] at h
  rw [List.mem_singleton.mp h]; exact kl
 | @sm n l hn hl kl uR xP h8=>
  refine ⟨_,_,_,["name", "literal"],rfl,⟨by simp [iH],.cons (fN hn) (.cons (fL hl) .nil)⟩,.inr (.inl ⟨.inr rfl,uR,xP⟩),λe=>absurd e (by decide +kernel),λl' h=>?_,.inr (.inr (.inr (.inr ⟨.inr rfl,h8⟩)))⟩
  rw [l1] at h
  rw [List.mem_singleton.mp h]; exact kl
inductive Ab (C:Addr) (vs:List V) (H:Hp) (Q:VK):Prop
 | mk (x dx g1 g2 g3 g4 g5 g6 p:Addr) (ts:List Addr) (M M':aI) (ws:List Str) (h1:vs=[.ref x,.ref p]) (h2:RM C H x dx g1 g2 g3 g4 g5 g6 ts M) (h3:M.aE.length<=60) (h4:H p=some (.lst (ws.map V.str))) (h5:dr M ws M') (h6:∀H',ai H H'->Q .aZ H'):Ab C vs H Q
def vZ (C:Addr):Sp:=λvs H Q _=>Ab C vs H Q
section
variable {P:Program}{w:World}{K:W.Frag}{mg:Str->Option Value}{base:Heap}
theorem Li:aO ["machine", "words"] ["machine", "words"] (ao nV):=⟨rfl,rfl,rfl,by decide +kernel,rfl,by decide +kernel,by decide +kernel⟩
theorem HI {f f1 f2 f3 f4 C:Addr}{fd d1 d2 d3 d4:FuncData}(F:bJ K "fault_of" "fault_of" nV f fd)
 (G1:av P w K mg base az 4 f1 d1 ["words"] qy) (m1:mg "has_form" = some (.ref f1)) (k1:W.keepIn K (.ref f1)=true) (b1:Binds K d1 ["words"] [])
 (G2:av P w K mg base az 2 f2 d2 ["machine", "form", "name"] (vY C)) (m2:mg "is_twice" = some (.ref f2)) (k2:W.keepIn K (.ref f2)=true) (b2:Binds K d2 ["machine", "form", "name"] [])
 (G3:av P w K mg base az 3 f3 d3 ["machine", "words"] (vX C)) (m3:mg "lacks_name" = some (.ref f3)) (k3:W.keepIn K (.ref f3)=true) (b3:Binds K d3 ["machine", "words"] [])
 (G4:av P w K mg base az 1 f4 d4 ["machine", "form"] (Aa C)) (m4:mg "is_too_many" = some (.ref f4)) (k4:W.keepIn K (.ref f4)=true) (b4:Binds K d4 ["machine", "form"] []):av P w K mg base az 5 f fd ["machine", "words"] (vZ C):=by
 refine F.ok Li (λvs H Q E h=>?_) (λcdv A outer s H vs Q E hr h=>?_)
 . obtain ⟨x,dx,g1,g2,g3,g4,g5,g6,p,ts,M,M',ws,rfl,_⟩:=h
   rfl
 . obtain ⟨x,dx,g1,g2,g3,g4,g5,g6,p,ts,M,M',ws,rfl,hM,gm,hp,hw,kk⟩:=h
   obtain ⟨key,name,rest,parts,rfl,hf,htw,zL,xo,htm⟩:=hw.bw
   have cc:aX 1 _:=hr.mono (by decide)
   have d5:aX 2 _:=hr.mono (by decide)
   have zU:aX 3 _:=hr.mono (by decide)
   refine ⟨_,aj (bh (yE (jU (aw G1 hr rfl m1 k1 b1 .nil aA (aa (pv 1) ah)))) (au (aB ay)) aT)
    (aj (bh (jU (aw G2 d5 rfl m2 k2 b2 .nil aA (aa (pv 0) (aa (aY aU (pv 1) ar (λ_ _=>rfl)) (aa (aY aU (pv 1) ar (λ_ _=>rfl)) ah))))) (au (aB ay)) aT)
    (aj (bh (jU (aw G3 zU rfl m3 k3 b3 .nil aA (aa (pv 0) (aa (pv 1) ah)))) (au (aB ay)) aT)
    (aj (bh (jU (aw G4 cc rfl m4 k4 b4 .nil aA (aa (pv 0) (aa (aY aU (pv 1) ar (λ_ _=>rfl)) ah)))) (au (aB ay)) aT)
    (au (aB DY))))),?_⟩
   refine ⟨_,rfl,p,key,parts,name::rest,rfl,hp,hf,λH1 s1=>⟨true,rfl,cu ?_⟩⟩
   have pG:=hM.same s1
   have il:=s1 _ _ hp
   refine ⟨_,rfl,_,rfl,p,_,0,.str key,rfl,rfl,ak.of il,fE,_,rfl,p,_,1,.str name,rfl,rfl,ak.of il,vb,x,dx,g1,g2,g3,g4,g5,g6,ts,M,key,name,rfl,pG,gm,htw,λH2 s2=>⟨false,rfl,cu ?_⟩⟩
   have k8:=pG.same s2
   have cx:=s2 _ _ il
   refine ⟨_,rfl,_,rfl,x,dx,g1,g2,g3,g4,g5,g6,p,ts,M,key,name,parts,rest,rfl,k8,gm,cx,hf,zL,xo,λH3 s3=>⟨false,rfl,cu ?_⟩⟩
   have nW:=k8.same s3
   have eJ:=s3 _ _ cx
   exact ⟨_,rfl,_,rfl,p,_,0,.str key,rfl,rfl,ak.of eJ,fE,x,dx,g1,g2,g3,g4,g5,g6,ts,M,key,rfl,nW,htm,false,rfl,cu (kk H3 ((s1.trans s2).trans s3))⟩
end
end Gen
namespace Gen
open PySem L2
abbrev rg:Stmt:=top 30
def lr (H H':Hp) (g1 g2 g3 g4 g5 g6:Addr):Prop:=∀b o,H b=some o->b∉[g1,g2,g3,g4,g5,g6]->H' b=some o
theorem lr.upd {H:Hp}{g g1 g2 g3 g4 g5 g6:Addr}{o:HO}(h:g∈[g1,g2,g3,g4,g5,g6]):lr H (upd H g o) g1 g2 g3 g4 g5 g6:=λb u hb hn=>by
 have ne:b≠g:=λe=>hn (by rw [e]; exact h)
 rw [ag ne]
 exact hb
section
variable {C:Addr}{H:Hp}{x dx g1 g2 g3 g4 g5 g6:Addr}{ts:List Addr}{M:aI}
structure Ds (g1 g2 g3 g4 g5 g6:Addr):Prop where
 a12:g1≠g2
 a13:g1≠g3
 a14:g1≠g4
 a15:g1≠g5
 a16:g1≠g6
 a23:g2≠g3
 a24:g2≠g4
 a25:g2≠g5
 a26:g2≠g6
 a34:g3≠g4
 a35:g3≠g5
 a36:g3≠g6
 a45:g4≠g5
 a46:g4≠g6
 a56:g5≠g6
theorem RM.ds (h:RM C H x dx g1 g2 g3 g4 g5 g6 ts M):Ds g1 g2 g3 g4 g5 g6:=by
 have:=h.nd
 simp only [List.nodup_cons,List.mem_cons,List.not_mem_nil,or_false,not_or,List.nodup_nil,and_true,not_false_eq_true] at this
 obtain ⟨⟨a,b,c,d,e⟩,⟨f,g,i,j⟩,⟨k,l,m⟩,⟨n,o⟩,p⟩:=this
 exact ⟨a,b,c,d,e,f,g,i,j,k,l,m,n,o,p⟩
theorem RM.sw (h:RM C H x dx g1 g2 g3 g4 g5 g6 ts M) (n:Str):RM C (upd H g1 (.lst (M.switches.map V.str++[.str n]))) x dx g1 g2 g3 g4 g5 g6 ts { M with switches:=M.switches++[n] }:=by
 have d:=h.ds
 refine ⟨?_,?_,?_,?_,Paired.bE h.hp λt r e=>?_,?_,?_,?_,h.nd⟩
 . rw [ag (bg h.hx h.h1 (by intro z; cases z))]; exact h.hx
 . rw [ae,List.map_append]; rfl
 . rw [ag d.a12.symm]; exact h.h2
 . rw [ag d.a13.symm]; exact h.h3
 . rw [ag (bg e h.h1 (by intro z; cases z))]; exact e
 . rw [ag d.a14.symm]; exact h.h4
 . rw [ag d.a15.symm]; exact h.h5
 . rw [ag d.a16.symm]; exact h.h6
theorem RM.kp (h:RM C H x dx g1 g2 g3 g4 g5 g6 ts M) (n:Str) (v:V):RM C (upd H g2 (.dK (dQ M.keepers++[(.inr n,v)]))) x dx g1 g2 g3 g4 g5 g6 ts { M with keepers:=M.keepers++[(n,v)] }:=by
 have d:=h.ds
 refine ⟨?_,?_,?_,?_,Paired.bE h.hp λt r e=>?_,?_,?_,?_,h.nd⟩
 . rw [ag (bg h.hx h.h2 (by intro z; cases z))]; exact h.hx
 . rw [ag d.a12]; exact h.h1
 . rw [ae]; unfold dQ; rw [List.map_append]; rfl
 . rw [ag d.a23.symm]; exact h.h3
 . rw [ag (bg e h.h2 (by intro z; cases z))]; exact e
 . rw [ag d.a24.symm]; exact h.h4
 . rw [ag d.a25.symm]; exact h.h5
 . rw [ag d.a26.symm]; exact h.h6
theorem RM.gt (h:RM C H x dx g1 g2 g3 g4 g5 g6 ts M) (n a b:Str){t:Addr}(ht:H t=none) :
 RM C (upd (upd H t (.tup [.str n,.str a,.str b])) g3 (.lst (ts.map V.ref++[.ref t]))) x dx g1 g2 g3 g4 g5 g6 (ts++[t]) { M with aE:=M.aE++[(n,a,b)] }:=by
 have d:=h.ds
 have h':=h.same (ai.aq (o:=.tup [.str n,.str a,.str b]) ht)
 have e3:t≠g3:=(af h.h3 ht).symm
 refine ⟨?_,?_,?_,?_,Paired.snoc (Paired.bE h'.hp λt r e=>?_) ?_,?_,?_,?_,h.nd⟩
 . rw [ag (bg h'.hx h'.h3 (by intro z; cases z))]; exact h'.hx
 . rw [ag d.a13]; exact h'.h1
 . rw [ag d.a23]; exact h'.h2
 . rw [ae,List.map_append]; rfl
 . rw [ag (bg e h'.h3 (by intro z; cases z))]; exact e
 . rw [ag e3,ae]; rfl
 . rw [ag d.a34.symm]; exact h'.h4
 . rw [ag d.a35.symm]; exact h'.h5
 . rw [ag d.a36.symm]; exact h'.h6
theorem RM.nx (h:RM C H x dx g1 g2 g3 g4 g5 g6 ts M) (n l:Str):RM C (upd H g4 (.dK (cb M.nexts++[(.inr n,.str l)]))) x dx g1 g2 g3 g4 g5 g6 ts { M with nexts:=M.nexts++[(n,l)] }:=by
 have d:=h.ds
 refine ⟨?_,?_,?_,?_,Paired.bE h.hp λt r e=>?_,?_,?_,?_,h.nd⟩
 . rw [ag (bg h.hx h.h4 (by intro z; cases z))]; exact h.hx
 . rw [ag d.a14]; exact h.h1
 . rw [ag d.a24]; exact h.h2
 . rw [ag d.a34]; exact h.h3
 . rw [ag (bg e h.h4 (by intro z; cases z))]; exact e
 . rw [ae]; unfold cb; rw [List.map_append]; rfl
 . rw [ag d.a45.symm]; exact h.h5
 . rw [ag d.a46.symm]; exact h.h6
theorem RM.nv (h:RM C H x dx g1 g2 g3 g4 g5 g6 ts M) (n l:Str):RM C (upd H g5 (.dK (cb M.nevers++[(.inr n,.str l)]))) x dx g1 g2 g3 g4 g5 g6 ts { M with nevers:=M.nevers++[(n,l)] }:=by
 have d:=h.ds
 refine ⟨?_,?_,?_,?_,Paired.bE h.hp λt r e=>?_,?_,?_,?_,h.nd⟩
 . rw [ag (bg h.hx h.h5 (by intro z; cases z))]; exact h.hx
 . rw [ag d.a15]; exact h.h1
 . rw [ag d.a25]; exact h.h2
 . rw [ag d.a35]; exact h.h3
 . rw [ag (bg e h.h5 (by intro z; cases z))]; exact e
 . rw [ag d.a45]; exact h.h4
 . rw [ae]; unfold cb; rw [List.map_append]; rfl
 . rw [ag d.a56.symm]; exact h.h6
theorem RM.sm (h:RM C H x dx g1 g2 g3 g4 g5 g6 ts M) (n l:Str):RM C (upd H g6 (.dK (cb M.somes++[(.inr n,.str l)]))) x dx g1 g2 g3 g4 g5 g6 ts { M with somes:=M.somes++[(n,l)] }:=by
 have d:=h.ds
 refine ⟨?_,?_,?_,?_,Paired.bE h.hp λt r e=>?_,?_,?_,?_,h.nd⟩
 . rw [ag (bg h.hx h.h6 (by intro z; cases z))]; exact h.hx
 . rw [ag d.a16]; exact h.h1
 . rw [ag d.a26]; exact h.h2
 . rw [ag d.a36]; exact h.h3
 . rw [ag (bg e h.h6 (by intro z; cases z))]; exact e
 . rw [ag d.a46]; exact h.h4
 . rw [ag d.a56]; exact h.h5
 . rw [ae]; unfold cb; rw [List.map_append]; rfl
end
theorem Lj {M:aI}{n:Str}(h:told M n=false):bf (dQ M.keepers) (.inr n)=none:=by
 unfold told iN at h
 simp only [Bool.or_eq_false_iff] at h
 cases e:bf (dQ M.keepers) (.inr n) with
 | none=>rfl
 | some v=>rw [e] at h; exact absurd h.1.2 (by simp)
inductive B3 (C:Addr) (vs:List V) (H:Hp) (Q:VK):Prop
 | mk (x dx g1 g2 g3 g4 g5 g6 p:Addr) (ts:List Addr) (M M':aI) (ws:List Str) (h1:vs=[.ref x,.ref p]) (h2:RM C H x dx g1 g2 g3 g4 g5 g6 ts M) (h3:H p=some (.lst (ws.map V.str))) (h4:dr M ws M') (h5:∀qh H',RM C H' x dx g1 g2 g3 g4 g5 g6 qh M'->lr H H' g1 g2 g3 g4 g5 g6->Q .aZ H'):B3 C vs H Q
def Ac (C:Addr):Sp:=λvs H Q _=>B3 C vs H Q
abbrev QW:List Str:=["machine", "words", "name"]
section
variable {P:Program}{w:World}{K:W.Frag}{mg:Str->Option Value}{base:Heap}
theorem Fz:aO QW ["machine", "words"] (ao rg):=⟨rfl,rfl,rfl,by decide +kernel,rfl,by decide +kernel,by decide +kernel⟩
theorem Lk {f aF C:Addr}{fd:FuncData}(F:bJ K "take_row" "take_row" rg f fd) (T:kI K mg C) (hF:mg "FIRSTS" = some (.ref aF)) (kF:KD P w K aF fU):av P w K mg base az 1 f fd ["machine", "words"] (Ac C):=by
 refine F.ok Fz (λvs H Q E h=>?_) (λcdv A outer s H vs Q E hr h=>?_)
 . obtain ⟨x,dx,g1,g2,g3,g4,g5,g6,p,ts,M,M',ws,rfl,_⟩:=h
   rfl
 . obtain ⟨x,dx,g1,g2,g3,g4,g5,g6,p,ts,M,M',ws,rfl,hM,hp,hw,kk⟩:=h
   have hu:=cM hr
   refine ⟨_,aj (aK (i:=2) Fz.nd rfl (Or.inl rfl) (aY aU (pv 1) ar (λ_ _=>rfl)))
    (au (bh (aL cU (aY aU (pv 1) ar (λ_ _=>rfl)) ay (aS _))
     (au (cZ (cV PySem.F.plainAttrs_list PySem.F.slot_list_append PySem.F.type_list_append cz (b9 (pv 0) rfl) (aa (pv 2) ah))))
    (au (bh (aL cU (aY aU (pv 1) ar (λ_ _=>rfl)) ay (aS _))
     (au (ft hu (b9 (pv 0) rfl) (pv 2) (vL (fq (v:=.ref aF) (by rfl) hF rfl) (aY aU (pv 1) ar (λ_ _=>rfl)) (λ_ _=>rfl)) rfl))
    (au (bh (aL cU (aY aU (pv 1) ar (λ_ _=>rfl)) ay (aS _))
     (au (cZ (cV PySem.F.plainAttrs_list PySem.F.slot_list_append PySem.F.type_list_append cz (b9 (pv 0) rfl) (aa (dm (aa (pv 2) (aa (aY aU (pv 1) ar (λ_ _=>rfl)) (aa (aY aU (pv 1) ar (λ_ _=>rfl)) ah)))) ah))))
    (au (bh (aL cU (aY aU (pv 1) ar (λ_ _=>rfl)) ay (aS _))
     (au (ft hu (b9 (pv 0) rfl) (pv 2) (aY aU (pv 1) ar (λ_ _=>rfl)) rfl))
    (au (bh (aL cU (aY aU (pv 1) ar (λ_ _=>rfl)) ay (aS _))
     (au (ft hu (b9 (pv 0) rfl) (pv 2) (aY aU (pv 1) ar (λ_ _=>rfl)) rfl))
     (au (ft hu (b9 (pv 0) rfl) (pv 2) (aY aU (pv 1) ar (λ_ _=>rfl)) rfl)))))))))))),?_⟩
   have abl:∀{k n:Str}{r:List Str},ws=k::n::r->iE (ws.map V.str) 1=some (.str n):=λe=>by rw [e]; exact vb
   cases hw with
   | @sw n hn ht hl=>
    refine ⟨_,rfl,p,_,1,.str n,rfl,rfl,ak.of hp,vb,?_⟩
    refine ⟨_,rfl,p,_,0,.str "switch",rfl,rfl,ak.of hp,fE,rfl,_,rfl,nU ?_⟩
    refine ⟨_,rfl,x,C,dx,_,.ref g1,rfl,hM.hx,T.cl,T.n1,u6 ..,.inl ⟨rfl,_,ak.of hM.h1⟩,_,rfl,g1,_,_,rfl,rfl,hM.h1,(by rw [List.length_map]; exact small (by omega)),?_⟩
    exact kk ts _ (hM.sw n) (lr.upd (by simp))
   | @kp n f v hn hf ht hl=>
    have NO:bf fU (.inr f)=some v:=by
     rcases hf with ⟨rfl,rfl⟩ | ⟨rfl,rfl⟩ | ⟨rfl,rfl⟩ <;> rfl
    refine ⟨_,rfl,p,_,1,.str n,rfl,rfl,ak.of hp,vb,?_⟩
    refine ⟨_,rfl,p,_,0,.str "keep",rfl,rfl,ak.of hp,fE,rfl,_,rfl,d6 (by decide +kernel) ?_⟩
    refine ⟨_,rfl,p,_,0,.str "keep",rfl,rfl,ak.of hp,fE,rfl,_,rfl,nU ?_⟩
    refine ⟨_,rfl,p,_,2,.str f,rfl,rfl,ak.of hp,at2,aF,fU,.inr f,v,rfl,rfl,kF,NO,?_⟩
    refine ⟨_,rfl,x,C,dx,_,.ref g2,rfl,hM.hx,T.cl,T.n2,lY ..,_,rfl,g2,_,rfl,iS.k (k:=.inr n) hM.h2 (by unfold dQ; rw [List.length_map]; exact small (by omega)),?_⟩
    rw [jz v (Lj ht)]
    exact kk ts _ (hM.kp n v) (lr.upd (by simp))
   | @gt n a b hn ha hb ka kb ht hl=>
    have hJ:=hM.hp.length
    refine ⟨_,rfl,p,_,1,.str n,rfl,rfl,ak.of hp,vb,?_⟩
    refine ⟨_,rfl,p,_,0,.str "gate",rfl,rfl,ak.of hp,fE,rfl,_,rfl,d6 (by decide +kernel) ?_⟩
    refine ⟨_,rfl,p,_,0,.str "gate",rfl,rfl,ak.of hp,fE,rfl,_,rfl,d6 (by decide +kernel) ?_⟩
    refine ⟨_,rfl,p,_,0,.str "gate",rfl,rfl,ak.of hp,fE,rfl,_,rfl,nU ?_⟩
    refine ⟨_,rfl,x,C,dx,_,.ref g3,rfl,hM.hx,T.cl,T.n3,u7 ..,.inl ⟨rfl,_,ak.of hM.h3⟩,_,rfl,_,rfl,p,_,2,.str a,rfl,rfl,ak.of hp,at2,_,rfl,p,_,3,.str b,rfl,rfl,ak.of hp,at3,(by show 3<=sizeLine; decide),λt Jf=>?_⟩
    have n3:g3≠t:=af hM.h3 Jf
    refine ⟨g3,_,_,rfl,rfl,(by rw [ag n3]; exact hM.h3),(by rw [List.length_map]; exact small (by omega)),?_⟩
    refine kk (ts++[t]) _ (hM.gt n a b Jf) λc o hc uf=>?_
    rw [ag (λe=>uf (by rw [e]; simp)),ag (af hc Jf)]
    exact hc
   | @nx n l hn hl kl hk hv Vi=>
    refine ⟨_,rfl,p,_,1,.str n,rfl,rfl,ak.of hp,vb,?_⟩
    refine ⟨_,rfl,p,_,0,.str "next",rfl,rfl,ak.of hp,fE,rfl,_,rfl,d6 (by decide +kernel) ?_⟩
    refine ⟨_,rfl,p,_,0,.str "next",rfl,rfl,ak.of hp,fE,rfl,_,rfl,d6 (by decide +kernel) ?_⟩
    refine ⟨_,rfl,p,_,0,.str "next",rfl,rfl,ak.of hp,fE,rfl,_,rfl,d6 (by decide +kernel) ?_⟩
    refine ⟨_,rfl,p,_,0,.str "next",rfl,rfl,ak.of hp,fE,rfl,_,rfl,nU ?_⟩
    refine ⟨_,rfl,p,_,2,.str l,rfl,rfl,ak.of hp,at2,?_⟩
    refine ⟨_,rfl,x,C,dx,_,.ref g4,rfl,hM.hx,T.cl,T.n4,zT ..,_,rfl,g4,_,rfl,iS.k (k:=.inr n) hM.h4 (by unfold cb; rw [List.length_map]; exact small (by omega)),?_⟩
    rw [jz _ hv]
    exact kk ts _ (hM.nx n l) (lr.upd (by simp))
   | @nv n l hn hl kl uR xP h8=>
    refine ⟨_,rfl,p,_,1,.str n,rfl,rfl,ak.of hp,vb,?_⟩
    refine ⟨_,rfl,p,_,0,.str "never",rfl,rfl,ak.of hp,fE,rfl,_,rfl,d6 (by decide +kernel) ?_⟩
    refine ⟨_,rfl,p,_,0,.str "never",rfl,rfl,ak.of hp,fE,rfl,_,rfl,d6 (by decide +kernel) ?_⟩
    refine ⟨_,rfl,p,_,0,.str "never",rfl,rfl,ak.of hp,fE,rfl,_,rfl,d6 (by decide +kernel) ?_⟩
    refine ⟨_,rfl,p,_,0,.str "never",rfl,rfl,ak.of hp,fE,rfl,_,rfl,d6 (by decide +kernel) ?_⟩
    refine ⟨_,rfl,p,_,0,.str "never",rfl,rfl,ak.of hp,fE,rfl,_,rfl,nU ?_⟩
    refine ⟨_,rfl,p,_,2,.str l,rfl,rfl,ak.of hp,at2,?_⟩
    refine ⟨_,rfl,x,C,dx,_,.ref g5,rfl,hM.hx,T.cl,T.n5,qx ..,_,rfl,g5,_,rfl,iS.k (k:=.inr n) hM.h5 (by unfold cb; rw [List.length_map]; exact small (by omega)),?_⟩
    rw [jz _ uR]
    exact kk ts _ (hM.nv n l) (lr.upd (by simp))
   | @sm n l hn hl kl uR xP h8=>
    refine ⟨_,rfl,p,_,1,.str n,rfl,rfl,ak.of hp,vb,?_⟩
    refine ⟨_,rfl,p,_,0,.str "some",rfl,rfl,ak.of hp,fE,rfl,_,rfl,d6 (by decide +kernel) ?_⟩
    refine ⟨_,rfl,p,_,0,.str "some",rfl,rfl,ak.of hp,fE,rfl,_,rfl,d6 (by decide +kernel) ?_⟩
    refine ⟨_,rfl,p,_,0,.str "some",rfl,rfl,ak.of hp,fE,rfl,_,rfl,d6 (by decide +kernel) ?_⟩
    refine ⟨_,rfl,p,_,0,.str "some",rfl,rfl,ak.of hp,fE,rfl,_,rfl,d6 (by decide +kernel) ?_⟩
    refine ⟨_,rfl,p,_,0,.str "some",rfl,rfl,ak.of hp,fE,rfl,_,rfl,d6 (by decide +kernel) ?_⟩
    refine ⟨_,rfl,p,_,2,.str l,rfl,rfl,ak.of hp,at2,?_⟩
    refine ⟨_,rfl,x,C,dx,_,.ref g6,rfl,hM.hx,T.cl,T.n6,u9 ..,_,rfl,g6,_,rfl,iS.k (k:=.inr n) hM.h6 (by unfold cb; rw [List.length_map]; exact small (by omega)),?_⟩
    rw [jz _ xP]
    exact kk ts _ (hM.sm n l) (lr.upd (by simp))
end
end Gen
namespace L2
open PySem PySem.Spec PyProof.Rows
theorem Ad {K:W.Frag}{a:Addr}{xs:List V}{g:TG}{tb:TS}{D:Ends}{σ:St}{H:Hp}(Pv:Nat->St->Hp->Prop) (h0:Pv 0 σ H) (hl:∀i σ H,i<=xs.length->Pv i σ H->ak K H a xs)
 (hs:∀i x T σ H,xs[i]?=some x->H T=none->Pv i σ H->g (.ref T) σ (upd H T (.tup [.int (i:Int),x])) λiQ H2=>tb { D with nx:=Pv (i+1),ct:=Pv (i+1),bk:=D.nx } iQ H2) (hd:∀σ H,Pv xs.length σ H->D.nx σ H) :
 ∃W:Nat->Nat->St->Hp->Prop,(∃m,W 0 m σ H)/\∀i m σ H,W i m σ H->
  ((EE K a).stop i H/\D.nx σ H)\/((EE K a).go i H/\∃N:St->Hp->Prop,(∀bu H',N bu H'->∃m',m'<m/\W (i+1) m' bu H')/\∀x H',(EE K a).yld i H x H'->g x σ H' λiQ H2=>tb { D with nx:=N,ct:=N,bk:=D.nx } iQ H2):=by
 refine ⟨λi m σ H=>m=xs.length-i/\i<=xs.length/\Pv i σ H,⟨xs.length,by simp,Nat.zero_le _,h0⟩,?_⟩
 rintro i m σ H ⟨rfl,hi,p⟩
 have q:=hl i σ H hi p
 by_cases cq:i<xs.length
 . refine .inr ⟨⟨xs,xs[i],q,by simp [cq]⟩,Pv (i+1),λbu H' p'=>⟨xs.length-(i+1),by omega,rfl,cq,p'⟩,λx H' y=>?_⟩
   obtain ⟨T,v,rfl,hT,rfl,hv⟩:=y
   exact hs i v T σ H (hv xs q) hT p
 . refine .inl ⟨⟨xs,q,by omega⟩,?_⟩
   obtain rfl:i=xs.length:=by omega
   exact hd σ H p
end L2
namespace PySem
open Builtin Builtin.Str
theorem FA (z:Str) (c:Nat):(partsBetween z (occurrences z ⟨#[c]⟩ 0 z.length (z.length+1)) (⟨#[c]⟩:Str).length).length<=z.length+1:=by
 show (partsBetween z (occurrences z ⟨#[c]⟩ 0 z.length (z.length+1)) 1).length<=z.length+1
 rw [Ex,pX,List.length_map]
 unfold cutAt
 rw [List.length_map,List.length_zip,List.length_cons,List.length_map,List.length_append,List.length_singleton]
 have:(de c z.cps.toList 0 z.length).length<=z.length:=by
  unfold de
  refine Nat.le_trans (List.length_filter_le _ _) ?_
  rw [List.length_range']
  exact Nat.le_refl _
 omega
theorem tH (c:Nat):∀l:List Nat,(eN c l).length<=l.length+1
 | []=>by simp [eN]
 | x::r=>by
  have ih:=tH c r
  obtain ⟨h,t,e⟩:=qL c r
  rw [e] at ih
  unfold eN
  rw [e]
  split
  . rw [List.length_cons,List.length_cons,List.length_cons] at *
    omega
  . rw [List.length_cons,List.length_cons] at *
    omega
end PySem
namespace Gen
open PySem L2
abbrev rh:Stmt:=top 16
abbrev lB:Stmt:=top 17
def wordsOf (r:Str):List Str:=(Txt.split r " ").filter λy:Str=>!decide (y=("" : Str))
inductive Reads:aI->List (List Str)->aI->Prop
 | nil {M:aI} : Reads M [] M
 | blank {M M':aI}{rs:List (List Str)} : Reads M rs M'->Reads M ([]::rs) M'
 | row {M M1 M':aI}{ws:List Str}{rs:List (List Str)} : dr M ws M1->Reads M1 rs M'->Reads M (ws::rs) M'
theorem dr.aE {M M':aI}{ws:List Str}(h:dr M ws M') (hl:M.aE.length<=60):M'.aE.length<=60:=by
 cases h with
 | gt _ _ _ _ _ _ hl=>rw [List.length_append,List.length_singleton]; omega
 | _=>exact hl
theorem dr.ne {M M':aI}{ws:List Str}(h:dr M ws M'):0<ws.length:=by cases h <;> exact Nat.succ_pos _
abbrev vc:aI:=⟨[],[],[],[],[],[]⟩
inductive B4 (C:Addr) (vs:List V) (H:Hp) (Q:VK):Prop
 | mk (z:Str) (M:aI) (h1:vs=[.str z]) (h2:z.length<=1000000) (h3:(∀r∈Txt.split z "\n",r.length<=1000)) (h4:Reads vc ((Txt.split z "\n").map wordsOf) M) (h5:∀(x dx g1 g2 g3 g4 g5 g6:Addr) (ts:List Addr) (H':Hp),(∀b∈[x,g1,g2,g3,g4,g5,g6],H b=none)->RM C H' x dx g1 g2 g3 g4 g5 g6 ts M->ai H H'->Q (.ref x) H'):B4 C vs H Q
def Ae (C:Addr):Sp:=λvs H Q _=>B4 C vs H Q
abbrev QX:List Str:=["text", "machine", "place", "words", "fault"]
abbrev Ll:List Str:=["text", "rows", "place", "row", "words"]
theorem ndW:(["word"]:List Str).Nodup:=by decide +kernel
theorem vd:("\n" : Str)=⟨#[10]⟩:=by decide +kernel
theorem iI:(" " : Str)=⟨#[32]⟩:=by decide +kernel
def du:Nat->List Str->List (Int×List Str)
 | _,[]=>[]
 | i,r::rs=>(if 0<(wordsOf r).length then [((i:Int),wordsOf r)] else [])++du (i+1) rs
theorem yh (a b:List Str):∀i,du i (a++b)=du i a++du (i+a.length) b:=by
 induction a with
 | nil=>intro i; rfl
 | cons r a ih=>
  intro i
  rw [List.cons_append,du,du,ih,List.append_assoc,List.length_cons,Nat.add_assoc,Nat.add_comm 1]
theorem AY {rows:List Str}{i:Nat}(h:i<rows.length):du 0 (rows.take (i+1))=du 0 (rows.take i)++(if 0<(wordsOf rows[i]).length then [((i:Int),wordsOf rows[i])] else []):=by
 have e:rows.take (i+1)=rows.take i++[rows[i]]:=by rw [List.take_succ,List.getElem?_eq_getElem h]; rfl
 have l:(rows.take i).length=i:=by rw [List.length_take]; omega
 rw [e,yh,l,Nat.zero_add,du,du,List.append_nil]
theorem qz (rows:List Str):∀i,(du i rows).map (·.2)=(rows.map wordsOf).filter λws=>decide (0<ws.length):=by
 induction rows with
 | nil=>intro i; rfl
 | cons r rs ih=>
  intro i
  rw [du,List.map_append,ih,List.map_cons,List.filter_cons]
  by_cases h:0<(wordsOf r).length
  . rw [if_pos h,if_pos (decide_eq_true h)]; rfl
  . rw [if_neg h,if_neg (by simpa using h)]; rfl
theorem Dz (rows:List Str):∀i,(du i rows).length<=rows.length:=by
 induction rows with
 | nil=>intro i; exact Nat.le_refl _
 | cons r rs ih=>
  intro i
  have:=ih (i+1)
  rw [du,List.length_append,List.length_cons]
  split
  . rw [List.length_singleton]; omega
  . rw [List.length_nil]; omega
theorem Reads.filter {M M':aI}{rs:List (List Str)}(h:Reads M rs M'):Reads M (rs.filter λws=>decide (0<ws.length)) M':=by
 induction h with
 | nil=>exact .nil
 | blank _ ih=>exact ih
 | row r _ ih=>rw [List.filter_cons,if_pos (decide_eq_true r.ne)]; exact .row r ih
def DA (H H':Hp) (t:Addr) (r:Int×List Str):Prop:=∃d,H t=none/\H d=none/\H' t=some (.tup [.int r.1,.ref d])/\H' d=some (.lst (r.2.map V.str))
def Af:Sp:=λvs H Q _=>∃z:Str,vs=[.str z]/\z.length<=1000000/\(∀r∈Txt.split z "\n",r.length<=1000)/\
 ∀(p:Addr) (ts:List Addr) (H':Hp),H p=none->H' p=some (.lst (ts.map V.ref))->Paired (DA H H') ts (du 0 (Txt.split z "\n"))->ai H H'->Q (.ref p) H'
section
variable {P:Program}{w:World}{K:W.Frag}{mg:Str->Option Value}{base:Heap}
theorem qA:aO QX ["text"] (ao rh):=⟨rfl,rfl,rfl,by decide +kernel,rfl,by decide +kernel,by decide +kernel⟩
theorem lZ:aO Ll ["text"] (ao lB):=⟨rfl,rfl,rfl,by decide +kernel,rfl,by decide +kernel,by decide +kernel⟩
theorem FC {f:Addr}{fd:FuncData}(F:bJ K "rows_of" "rows_of" lB f fd) (O:eB mg) (hE:mg "enumerate" = none):av P w K mg base az 1 f fd ["text"] Af:=by
 refine F.ok lZ (λvs H Q E h=>?_) (λcdv A outer s H vs Q E hr h=>?_)
 . obtain ⟨z,rfl,_⟩:=h
   rfl
 . obtain ⟨z,rfl,hz,gk,kk⟩:=h
   refine ⟨_,aj (aK (i:=1) lZ.nd rfl (Or.inl rfl) (cg ah))
    (aj (dk PassesOwn.never rfl (qO (by rfl) hE (aa (cV PySem.F.plainAttrs_str PySem.F.slot_str_split PySem.F.type_str_split sR (pv 0) (aa ay ah)) ah))
     (cJ rfl (aJ (ax (i:=2) lZ.nd rfl (Or.inl rfl)) (aJ (ax (i:=3) lZ.nd rfl (Or.inl rfl)) b8)))
     (aj (qN (i:=4) (N:=["word"]) (js:=[none]) lZ.nd rfl rfl (by kernel_rfl) rfl (bO (cV PySem.F.plainAttrs_str PySem.F.slot_str_split PySem.F.type_str_split sR (pv 3) (aa ay ah))) (λ_ _ _ _ _ _=>ax (i:=0) ndW rfl (Or.inl rfl) (.inr rfl))
      (λ_ _ _ _ _ _=>oC (aL Cy (pv 0) ay (aS _))) (λ_ _ _ _ _ _=>pv 0))
     (au (bh (aL mj (bb bj (by rfl) O.len PySem.boot_len (aa (pv 4) ah)) ar (aS _))
      (au (cZ (cV PySem.F.plainAttrs_list PySem.F.slot_list_append PySem.F.type_list_append cz (pv 1) (aa (dm (aa (pv 2) (aa (pv 4) ah))) ah)))) aT))))
    (au (aB (pv 1)))),?_⟩
   refine ⟨(by show 0<=sizeLine; decide),λp dU=>?_⟩
   have tp:ai H (upd H p (.lst [])):=ai.aq dU
   have il:(upd H p (.lst [])) p=some (.lst []):=ae
   generalize upd H p (.lst [])=H1 at tp il ⊢
   have ny:z.length<=sizeLine:=Nat.le_trans hz (by decide)
   have FD:∀(y:Str) (c:Nat),y.length<=1000000->(Builtin.Str.partsBetween y (Builtin.Str.occurrences y ⟨#[c]⟩ 0 y.length (y.length+1)) (⟨#[c]⟩:Str).length).length<=sizeLine:=λy c hy=>Nat.le_trans (FA y c) (Nat.le_trans (Nat.succ_le_succ hy) (by decide))
   have FE:(Txt.split z "\n").length<=1000001:=by
    have:=oy z 10 (by decide)
    rw [vd,this,List.length_map]
    exact Nat.le_trans (tH 10 z.cps.toList) (by
     have:z.cps.toList.length=z.length:=by simp [Str.length]
     omega)
   refine ⟨_,rfl,rfl,z, "\n",rfl,rfl,ny,(by decide +kernel),(by rw [vd]; exact FD z 10 hz),λq hq=>?_⟩
   generalize Jt:Txt.split z "\n" = rows at gk FE kk ⊢
   have hqp:q≠p:=λe=>by rw [e,il] at hq; cases hq
   have t9:ai H1 (upd H1 q (.lst (rows.map V.str))):=ai.aq hq
   have q9:(upd H1 q (.lst (rows.map V.str))) q=some (.lst (rows.map V.str)):=ae
   generalize upd H1 q (.lst (rows.map V.str))=H9 at t9 q9 ⊢
   have N3:ai H H9:=tp.trans t9
   have hp9:=t9 _ _ il
   refine ⟨q,rfl,⟨_,ak.of q9⟩,Ad (K:=K) (a:=q) (xs:=rows.map V.str) (λi σ Hi=>∃(v2 v3 v4:Option V) (ts:List Addr),σ=[some (.str z),some (.ref p),v2,v3,v4]/\Hi p=some (.lst (ts.map V.ref))/\Paired (λt r=>t≠p/\DA H Hi t r/\∀xs,Hi t=some (.tup xs)->xs[1]?≠some (.ref p)) ts (du 0 (rows.take i))/\aQ H9 Hi p) ?_ ?_ ?_ ?_⟩
   . exact ⟨none,none,none,[],rfl,hp9,.nil,λ_ _ h _=>h⟩
   . rintro i σ Hi _ ⟨v2,v3,v4,ts,_,_,_,kp⟩
     exact ak.of (kp q _ q9 hqp)
   . rintro i xv Tp σ Hi nX hT ⟨v2,v3,v4,ts,rfl,ve,hJ,kp⟩
     have hi:i<rows.length:=by
      have:=(List.getElem?_eq_some_iff.mp nX).1
      rwa [List.length_map] at this
     have ex:xv=.str rows[i]:=by
      rw [List.getElem?_map,List.getElem?_eq_getElem hi] at nX
      exact (Option.some.inj nX).symm
     subst ex
     have HJ:=gk _ (List.getElem_mem hi)
     have B5:=AY hi
     have kZ:ts.length<=i:=by
      have:=hJ.length
      have h2:=Dz (rows.take i) 0
      rw [List.length_take] at h2
      omega
     generalize rows[i]=r at HJ B5 ⊢
     have tT:ai Hi (upd Hi Tp (.tup [.int (i:Int),.str r])):=ai.aq hT
     refine ⟨Tp,_,rfl,aV.of ae,rfl,_,_,rfl,_,_,rfl,rfl,?_⟩
     generalize upd Hi Tp (.tup [.int (i:Int),.str r])=Hj at tT ⊢
     refine ⟨_,rfl,rfl,r, " ",rfl,rfl,Nat.le_trans HJ (by decide),(by decide +kernel),(by rw [iI]; exact FD r 32 (Nat.le_trans HJ (by decide))),λq2 zW=>?_⟩
     have tq:ai Hj (upd Hj q2 (.lst ((Txt.split r " ").map V.str))):=ai.aq zW
     have qq:(upd Hj q2 (.lst ((Txt.split r " ").map V.str))) q2=some (.lst ((Txt.split r " ").map V.str)):=ae
     have E9:(Txt.split r " ").length<=1001:=by
      have:=oy r 32 (by decide)
      rw [iI,this,List.length_map]
      exact Nat.le_trans (tH 32 r.cps.toList) (by
       have:r.cps.toList.length=r.length:=by simp [Str.length]
       omega)
     generalize upd Hj q2 (.lst ((Txt.split r " ").map V.str))=Hk at tq qq ⊢
     refine ⟨q2,rfl,⟨_,ak.of qq⟩,λD hD=>?_⟩
     have Sd:ai Hi Hk:=tT.trans tq
     have Se:Hi D=none:=Sd.free hD
     have Mr:H D=none:=by
      cases e:H D with
      | none=>rfl
      | some o=>
       have:=kp D o (N3 _ _ e) (af e dU)
       rw [Se] at this
       cases this
     refine cX (Txt.split r " ").length (λj acc bu H4=>acc=(((Txt.split r " ").take j).filter λy:Str=>!decide (y=("" : Str))).map V.str/\(∃u,bu=[u])/\ai Hk H4) ⟨rfl,⟨none,rfl⟩,ai.aq hD⟩ ae ?_ ?_
     . rintro acc bu H4 a9 ⟨rfl,_,s4⟩
       rw [List.take_length] at a9
       have FF:H4 D=some (.lst ((wordsOf r).map V.str)):=a9
       refine ⟨⟨_,ak.of (s4 _ _ qq),by rw [List.length_map]; exact Nat.le_refl _⟩,?_⟩
       have Ag:ai Hi H4:=Sd.trans s4
       refine ⟨_,rfl,D,_,rfl,.inl (ak.of FF),_,_,rfl,rfl,_,rfl,?_⟩
       generalize hw:wordsOf r=ws at B5 FF ⊢
       have pw:∀{H5:Hp},aQ H4 H5 p->Paired (λt r=>t≠p/\DA H H5 t r/\∀xs,H5 t=some (.tup xs)->xs[1]?≠some (.ref p)) ts (du 0 (rows.take i)):=λ{H5} k5=>Paired.bE hJ λt r ⟨a,⟨d,b1,b2,b3,b4⟩,c⟩=>by
        have e1:=k5 t _ (Ag _ _ b3) a
        have nd:d≠p:=λe=>c _ b3 (by rw [e]; rfl)
        refine ⟨a,⟨d,b1,b2,e1,k5 d _ (Ag _ _ b4) nd⟩,λxs hx=>?_⟩
        rw [e1] at hx
        cases hx
        exact c _ b3
       refine cA (λhc=>?_) (λhc=>?_)
       . have cq:0<ws.length:=by
          have:=of_decide_eq_true hc
          rw [List.length_map] at this
          omega
         rw [if_pos cq] at B5
         have eV:=Ag _ _ ve
         refine ⟨_,rfl,.inl ⟨rfl,_,ak.of eV⟩,_,rfl,_,rfl,(by show 2<=sizeLine; decide),λU hU=>?_⟩
         have N4:p≠U:=af eV hU
         refine ⟨p,_,_,rfl,rfl,(by rw [ag N4]; exact eV),?_,?_⟩
         . rw [List.length_map]
           exact Nat.lt_of_le_of_lt (Nat.le_trans kZ (Nat.le_trans (Nat.le_of_lt hi) FE)) (by decide)
         . have k5:aQ H4 (upd (upd H4 U (.tup [.int (i:Int),.ref D])) p (.lst (ts.map V.ref++[.ref U]))) p:=λb o hb hn=>by
            rw [ag hn,ag (af hb hU)]
            exact hb
           have Sf:D≠p:=λe=>by rw [e,eV] at FF; exact absurd (e ▸ Se) (by rw [ve]; exact λh=>nomatch h)
           have eU:(upd (upd H4 U (.tup [.int (i:Int),.ref D])) p (.lst (ts.map V.ref++[.ref U]))) U=some (.tup [.int (i:Int),.ref D]):=by rw [ag (Ne.symm N4),ae]
           refine ⟨_,_,_,ts++[U],rfl,(by rw [ae,List.map_append]; rfl),?_,λb o hb hn=>k5 b o (Ag _ _ (kp b o hb hn)) hn⟩
           rw [B5]
           refine dY (pw k5) (.cons ⟨Ne.symm N4,⟨D,?_,Mr,eU,?_⟩,?_⟩ .nil)
           . cases e:H U with
             | none=>rfl
             | some o=>
              have:=Ag _ _ (kp U o (N3 _ _ e) (af e dU))
              rw [hU] at this
              cases this
           . rw [ag Sf,ag (af FF hU)]
             exact FF
           . intro xs hx
             rw [eU] at hx
             cases hx
             intro e
             exact Sf (by cases e; rfl)
       . have cq:¬ 0<ws.length:=λh=>hc (decide_eq_true (by rw [List.length_map]; omega))
         rw [if_neg cq,List.append_nil] at B5
         refine ⟨_,_,_,ts,rfl,Ag _ _ ve,?_,λb o hb hn=>Ag _ _ (kp b o hb hn)⟩
         rw [B5]
         exact pw λb o hb _=>hb
     . rintro j acc bu H4 hj a9 ⟨rfl,⟨u,rfl⟩,s4⟩
       have ej:((Txt.split r " ").map V.str)[j]?=some (.str (Txt.split r " ")[j]):=by rw [List.getElem?_map,List.getElem?_eq_getElem hj]; rfl
       refine ⟨⟨_,_,ak.of (s4 _ _ qq),ej⟩,?_⟩
       rintro x' H' ⟨rfl,bX⟩
       have ex:=bX _ (ak.of (s4 _ _ qq))
       rw [ej] at ex
       cases ex
       refine ⟨_,rfl,rfl,_,rfl,cA (λhc=>?_) (λhc=>?_)⟩
       . have dh:¬ (Txt.split r " ")[j]=("" : Str):=λe=>by
          rw [e] at hc
          simp at hc
         refine ⟨_,rfl,_,a9,?_,bo hj ae ⟨?_,⟨_,rfl⟩,?_⟩⟩
         . rw [List.length_map]
           refine Nat.lt_of_le_of_lt (List.length_filter_le _ _) ?_
           rw [List.length_take]
           exact Nat.lt_of_le_of_lt (Nat.le_trans (Nat.min_le_right _ _) E9) (by decide)
         . rw [take_succ_filter _ _ _ _ (List.getElem?_eq_getElem hj),if_pos (by simp [dh]),List.map_append]
           rfl
         . intro y o hy
           rw [ag (af hy hD)]
           exact s4 y o hy
       . have dh:(Txt.split r " ")[j]=("" : Str):=by
          by_cases e:(Txt.split r " ")[j]=("" : Str)
          . exact e
          . exact absurd (by rw [decide_eq_false (λq=>e (V.str.inj q))]; rfl) hc
         refine bo hj a9 ⟨?_,⟨_,rfl⟩,s4⟩
         rw [take_succ_filter _ _ _ _ (List.getElem?_eq_getElem hj),if_neg (by simp [dh]),List.append_nil]
   . rintro σ Hi ⟨v2,v3,v4,ts,rfl,ve,hJ,kp⟩
     rw [List.length_map,List.take_length] at hJ
     exact ⟨_,rfl,kk p ts Hi dU ve (Paired.bE hJ λ_ _ h=>h.2.1) λb o hb=>kp b o (N3 _ _ hb) (af hb dU)⟩
theorem Lm {f f1 f2 f3 fI C:Addr}{fd d1 d2 d3 dI:FuncData}(F:bJ K "read_machine" "read_machine" rh f fd) (T:kI K mg C)
 (G1:av P w K mg base az 5 f1 d1 ["machine", "words"] (vZ C)) (m1:mg "fault_of" = some (.ref f1)) (k1:W.keepIn K (.ref f1)=true) (b1:Binds K d1 ["machine", "words"] [])
 (G2:av P w K mg base az 1 f2 d2 ["machine", "words"] (Ac C)) (m2:mg "take_row" = some (.ref f2)) (k2:W.keepIn K (.ref f2)=true) (b2:Binds K d2 ["machine", "words"] [])
 (G3:av P w K mg base az 1 f3 d3 ["text"] Af) (m3:mg "rows_of" = some (.ref f3)) (k3:W.keepIn K (.ref f3)=true) (b3:Binds K d3 ["text"] [])
 (GI:av P w K mg base az 1 fI dI qZ (Fy C)) (mI:Mk K C fI) (bI:Binds K dI qZ []):av P w K mg base az 6 f fd ["text"] (Ae C):=by
 refine F.ok qA (λvs H Q E h=>?_) (λcdv A outer s H vs Q E hr h=>?_)
 . obtain ⟨z,M,rfl,_⟩:=h
   rfl
 . obtain ⟨z,M,rfl,hz,gk,IK,kk⟩:=h
   have cc:aX 1 _:=hr.mono (by decide)
   have d5:aX 2 _:=hr.mono (by decide)
   refine ⟨_,aj (aK (i:=1) qA.nd rfl (Or.inl rfl) (Kk mI GI d5 rfl T.mgC bI .nil aA (aa (cg ah) (aa lN (aa (cg ah) (aa lN (aa lN (aa lN ah))))))))
    (aj (dk PassesOwn.never rfl (bO (aw G3 cc rfl m3 k3 b3 .nil aA (aa (pv 0) ah)))
     (cJ rfl (aJ (ax (i:=2) qA.nd rfl (Or.inl rfl)) (aJ (ax (i:=3) qA.nd rfl (Or.inl rfl)) b8)))
     (aj (aK (i:=4) qA.nd rfl (Or.inl rfl) (aw G1 hr rfl m1 k1 b1 .nil aA (aa (pv 1) (aa (pv 3) ah))))
      (aj (bh (pJ (Kh (pv 4))) (au Gv) aT)
      (au (cZ (aw G2 cc rfl m2 k2 b2 .nil aA (aa (pv 1) (aa (pv 3) ah))))))))
    (au (aB (pv 1)))),?_⟩
   refine ⟨(by show 0<=sizeLine; decide),λs1 pj=>?_⟩
   have q1:(upd H s1 (.lst [])) s1=some (.lst []):=ae
   have t1:ai H (upd H s1 (.lst [])):=ai.aq pj
   generalize upd H s1 (.lst [])=H1 at q1 t1 ⊢
   intro s2 jY
   have q2:(upd H1 s2 (.dK [])) s2=some (.dK []):=ae
   have t2:ai H1 (upd H1 s2 (.dK [])):=ai.aq jY
   generalize upd H1 s2 (.dK [])=H2 at q2 t2 ⊢
   refine ⟨(by show 0<=sizeLine; decide),λs3 By=>?_⟩
   have q3:(upd H2 s3 (.lst [])) s3=some (.lst []):=ae
   have t3:ai H2 (upd H2 s3 (.lst [])):=ai.aq By
   generalize upd H2 s3 (.lst [])=H3 at q3 t3 ⊢
   intro s4 Mn
   have q4:(upd H3 s4 (.dK [])) s4=some (.dK []):=ae
   have t4:ai H3 (upd H3 s4 (.dK [])):=ai.aq Mn
   generalize upd H3 s4 (.dK [])=H4 at q4 t4 ⊢
   intro s5 MQ
   have q5:(upd H4 s5 (.dK [])) s5=some (.dK []):=ae
   have t5:ai H4 (upd H4 s5 (.dK [])):=ai.aq MQ
   generalize upd H4 s5 (.dK [])=H5 at q5 t5 ⊢
   intro s6 hs6
   have q6:(upd H5 s6 (.dK [])) s6=some (.dK []):=ae
   have t6:ai H5 (upd H5 s6 (.dK [])):=ai.aq hs6
   generalize upd H5 s6 (.dK [])=H6 at q6 t6 ⊢
   intro x dx hx hdx dh
   have N5:ai H H6:=((((t1.trans t2).trans t3).trans t4).trans t5).trans t6
   have t7:ai H6 (upd (upd H6 dx (.own x)) x (.ins C dx [])):=λb o hb=>by
    rw [ag (af hb hx),ag (af hb hdx)]
    exact hb
   have q7:(upd (upd H6 dx (.own x)) x (.ins C dx [])) x=some (.ins C dx []):=ae
   generalize upd (upd H6 dx (.own x)) x (.ins C dx [])=H7 at t7 q7 ⊢
   have xQ:ai H H7:=N5.trans t7
   refine ⟨x,dx,s1,s2,s3,s4,s5,s6,⟨[],[],[],[],[],[]⟩,rfl,q7,⟨t7 _ _ (t6 _ _ (t5 _ _ (t4 _ _ (t3 _ _ (t2 _ _ q1))))),t7 _ _ (t6 _ _ (t5 _ _ (t4 _ _ (t3 _ _ q2)))),t7 _ _ (t6 _ _ (t5 _ _ (t4 _ _ q3))),t7 _ _ (t6 _ _ (t5 _ _ q4)),t7 _ _ (t6 _ _ q5),t7 _ _ q6⟩,λg1 g2 g3 g4 g5 g6 H8 hg hnd hp8 B6 kp8=>⟨rfl,?_⟩⟩
   have Ah:RM C H8 x dx g1 g2 g3 g4 g5 g6 [] vc:=⟨hp8,B6.h1,B6.h2,B6.h3,.nil,B6.h4,B6.h5,B6.h6,hnd⟩
   have Sg:∀b o,H b=some o->H8 b=some o/\b∉[g1,g2,g3,g4,g5,g6]:=λb o hb=>⟨kp8 b o (xQ b o hb) (af (N5 b o hb) hx),λhm=>by
    have:=hg b hm
    rw [xQ b o hb] at this
    cases this⟩
   have fresh:∀b∈[x,g1,g2,g3,g4,g5,g6],H b=none:=λb hb=>by
    rcases List.mem_cons.mp hb with rfl | hb
    . exact N5.free hx
    . exact xQ.free (hg b hb)
   refine ⟨_,rfl,z,rfl,hz,gk,λq us H9 hqn Sh eu t9=>?_⟩
   have HK:∀b,H8 b=none->b∉[g1,g2,g3,g4,g5,g6]:=λb hq hm=>by
    simp only [List.mem_cons,List.not_mem_nil,or_false] at hm
    rcases hm with rfl | rfl | rfl | rfl | rfl | rfl
    . rw [Ah.h1] at hq; cases hq
    . rw [Ah.h2] at hq; cases hq
    . rw [Ah.h3] at hq; cases hq
    . rw [Ah.h4] at hq; cases hq
    . rw [Ah.h5] at hq; cases hq
    . rw [Ah.h6] at hq; cases hq
   have hnq:=HK q hqn
   have HL:=IK.filter
   rw [← qz _ 0] at HL
   have bX:∀ws∈(du 0 (Txt.split z "\n")).map (·.2),0<ws.length:=λws hm=>by
    rw [qz] at hm
    exact of_decide_eq_true (List.mem_filter.mp hm).2
   generalize Jt:du 0 (Txt.split z "\n")=rows at eu HL bX ⊢
   have RM9:=Ah.same t9
   have fz:=eu.length
   refine ⟨q,rfl,⟨_,ak.of Sh⟩,gQ (K:=K) (a:=q) (xs:=us.map V.ref) (λi σ Hi=>∃(v2 v3 v4:Option V) (Mi:aI) (ts:List Addr),σ=[some (.str z),some (.ref x),v2,v3,v4]/\Reads Mi ((rows.map (·.2)).drop i) M/\Mi.aE.length<=60/\RM C Hi x dx g1 g2 g3 g4 g5 g6 ts Mi/\lr H9 Hi g1 g2 g3 g4 g5 g6) ?_ ?_ ?_ ?_⟩
   . exact ⟨none,none,none,vc,[],rfl,HL,Nat.zero_le _,RM9,λ_ _ h _=>h⟩
   . rintro i σ Hi _ ⟨v2,v3,v4,Mi,ts,_,_,_,_,kp⟩
     exact ak.of (kp q _ Sh hnq)
   . rintro i xv σ Hi nX ⟨v2,v3,v4,Mi,ts,rfl,xR,gm,hM,kp⟩
     have hi:i<rows.length:=by
      have:=(List.getElem?_eq_some_iff.mp nX).1
      rw [List.length_map] at this
      omega
     obtain ⟨U,hU,D,u1,u2,u3,u4⟩:=bq eu (i:=i) (b:=rows[i]) (List.getElem?_eq_getElem hi)
     have ex:xv=.ref U:=by
      rw [List.getElem?_map,hU] at nX
      exact (Option.some.inj nX).symm
     subst ex
     have N6:Reads Mi (rows[i].2::(rows.map (·.2)).drop (i+1)) M:=by
      rw [List.drop_eq_getElem_cons (by rw [List.length_map]; exact hi),List.getElem_map] at xR
      exact xR
     have dh:0<rows[i].2.length:=bX _ (List.mem_map.mpr ⟨_,List.getElem_mem hi,rfl⟩)
     have hU4:=kp U _ u3 (HK U u1)
     have zD:=kp D _ u4 (HK D u2)
     generalize rows[i].2=ws at N6 dh zD
     refine ⟨U,_,rfl,aV.of hU4,rfl,_,_,rfl,_,_,rfl,rfl,?_⟩
     cases N6 with
     | blank h=>exact absurd dh (Nat.lt_irrefl _)
     | @row _ M1 _ _ _ fG QY=>
      refine ⟨_,rfl,_,rfl,x,dx,g1,g2,g3,g4,g5,g6,D,ts,Mi,M1,ws,rfl,hM,gm,zD,fG,λH5' N7=>?_⟩
      refine ⟨_,rfl,_,rfl,cu ?_⟩
      refine ⟨_,rfl,_,rfl,x,dx,g1,g2,g3,g4,g5,g6,D,ts,Mi,M1,ws,rfl,hM.same N7,N7 _ _ zD,fG,λqh H6' vf xF=>?_⟩
      exact ⟨_,_,_,M1,qh,rfl,QY,fG.aE gm,vf,λb o hb hn=>xF b o (N7 b o (kp b o hb hn)) hn⟩
   . rintro σ Hi ⟨v2,v3,v4,Mi,ts,rfl,xR,gm,hM,kp⟩
     rw [List.length_map,List.drop_of_length_le (by rw [List.length_map]; omega)] at xR
     cases xR
     exact ⟨_,rfl,kk x dx g1 g2 g3 g4 g5 g6 ts Hi fresh hM λb o hb=>kp b o (t9 b o (Sg b o hb).1) (Sg b o hb).2⟩
end
end Gen
namespace Gen
open PySem L2
abbrev nY:Stmt:=top 50
def fH (v:V):Str:=if v=.int 0 then "0" else if v=.int 1 then "1" else "-"
theorem Ai:fH (.int 0) = "0":=by unfold fH; rw [if_pos rfl]
theorem Aj:fH (.int 1) = "1":=by unfold fH; rw [if_neg (by decide),if_pos rfl]
theorem Ak:fH .aZ = "-":=by unfold fH; rw [if_neg (by decide),if_neg (by decide)]
theorem Vj:bf [((.inl 0:Key),V.str "0"),(.inl 1,.str "1")] (.inl 0)=some (.str "0"):=fZ rfl
theorem Vk:bf [((.inl 0:Key),V.str "0"),(.inl 1,.str "1")] (.inl 1)=some (.str "1"):=by rw [gU (by decide),fZ rfl]
def wa:Sp:=λvs H Q _=>∃v:V,vs=[v]/\(v=.int 0\/v=.int 1\/v=.aZ)/\∀H',ai H H'->Q (.str (fH v)) H'
section
variable {P:Program}{w:World}{K:W.Frag}{mg:Str->Option Value}{base:Heap}
theorem Ln:aO ["_law_first"] ["_law_first"] (ao nY):=⟨rfl,rfl,rfl,by decide +kernel,rfl,by decide +kernel,by decide +kernel⟩
theorem HM {f:Addr}{fd:FuncData}(F:bJ K "_law_first_text" "_law_first_text" nY f fd):av P w K mg base az 1 f fd ["_law_first"] wa:=by
 refine F.ok Ln (λvs H Q E h=>?_) (λcdv A outer s H vs Q E hr h=>?_)
 . obtain ⟨v,rfl,_⟩:=h
   rfl
 . obtain ⟨v,rfl,hv,kk⟩:=h
   have hu:=cM hr
   refine ⟨_,au (aB (Hg hu (Bp (jC ar ay (jC ar ay Bo)) rfl rfl (by simp) (by decide)) (pv 0) ay ⟨by kernel_rfl,by kernel_rfl,by kernel_rfl,by kernel_rfl⟩)),?_⟩
   intro m hm
   refine ⟨ae,[(.inl 0,.str "0"),(.inl 1,.str "1")],rfl,(by show 2<=15; decide),?_⟩
   rw [ie]
   have em:c8 [] [((.inl 0:Key),V.str "0"),(.inl 1,.str "1")]=[((.inl 0:Key),V.str "0"),(.inl 1,.str "1")]:=by rfl
   rw [em]
   have sm:ai H (upd H m (.dK [((.inl 0:Key),V.str "0"),(.inl 1,.str "1")])):=ai.aq hm
   have km:=kk _ sm
   refine ⟨m,rfl,.inl ⟨_,.inl ae⟩,_,rfl,?_⟩
   rcases hv with rfl | rfl | rfl
   . refine .inl ⟨_,bH.k (k:=.inl 0) ae,?_⟩
     rw [Vj]
     rw [Ai] at km
     exact km
   . refine .inl ⟨_,bH.k (k:=.inl 1) ae,?_⟩
     rw [Vk]
     rw [Aj] at km
     exact km
   . rw [Ak] at km
     exact .inr ⟨rfl,⟨_,.inl ae⟩,km⟩
end
end Gen
namespace Gen
open PySem L2
abbrev gG:Stmt:=top 51
def rm (n:Str):Str:="switch " ++ n
def fm (r:Str×V):Str:="keep " ++ r.1 ++ " " ++ fH r.2
def iO (r:Str×Str×Str):Str:="gate " ++ Txt.join " " [r.1,r.2.1,r.2.2]
def eC (word:Str) (r:Str×Str):Str:=word ++ " " ++ r.1 ++ " " ++ r.2
def rowsOf (M:aI):List Str:=M.switches.map rm++M.keepers.map fm++M.aE.map iO++(M.nexts.map (eC "next")++(M.nevers.map (eC "never")++M.somes.map (eC "some")))
structure Short (M:aI):Prop where
 sw:∀n∈M.switches,n.length<=9
 kp:∀r∈M.keepers,r.1.length<=9/\(r.2=.int 0\/r.2=.int 1\/r.2=.aZ)
 gt:∀r∈M.aE,r.1.length<=9/\r.2.1.length<=9/\r.2.2.length<=9
 nx:∀r∈M.nexts,r.1.length<=9/\r.2.length<=9
 nv:∀r∈M.nevers,r.1.length<=9/\r.2.length<=9
 sm:∀r∈M.somes,r.1.length<=9/\r.2.length<=9
 l1:M.switches.length<=100
 l2:M.keepers.length<=100
 l3:M.aE.length<=100
 l4:M.nexts.length<=100
 l5:M.nevers.length<=100
 l6:M.somes.length<=100
theorem vg (v:V):(fH v).length=1:=by
 unfold fH
 split
 . decide +kernel
 . split <;> decide +kernel
inductive B7 (vs:List V) (H:Hp) (Q:VK):Prop
 | mk (m:Addr) (M:aI) (a1 a2 a3 a4 a5 a6:Addr) (h1:vs=[.ref m]) (h2:cE H m M a1 a2 a3 a4 a5 a6) (h3:Short M) (h4:∀p H',H p=none->ai H H'->H' p=some (.lst ((rowsOf M).map V.str))->Q (.ref p) H'):B7 vs H Q
def Al:Sp:=λvs H Q _=>B7 vs H Q
abbrev yr:List Str:=["_law_m", "_law_rows_here", "_law_word", "_law_field"]
theorem Vl:(["_law_name"]:List Str).Nodup:=by decide +kernel
theorem N8:(["_law_name", "_law_first"]:List Str).Nodup:=by decide +kernel
theorem Vm:(["_law_gate"]:List Str).Nodup:=by decide +kernel
theorem Ju:(["_law_name", "_law_literal_here", "_law_word"]:List Str).Nodup:=by decide +kernel
section
variable {P:Program}{w:World}{K:W.Frag}{mg:Str->Option Value}{base:Heap}
theorem ma:aO yr ["_law_m"] (ao gG):=⟨rfl,rfl,rfl,by decide +kernel,rfl,by decide +kernel,by decide +kernel⟩
theorem cE.same {H H':Hp}{m:Addr}{M:aI}{a1 a2 a3 a4 a5 a6:Addr}(h:cE H m M a1 a2 a3 a4 a5 a6) (s:ai H H'):cE H' m M a1 a2 a3 a4 a5 a6:=
 ⟨s _ _ h.top,s _ _ h.sw,h.kp.same s,h.gt.same s,h.nx.same s,h.nv.same s,h.sm.same s⟩
theorem FG {f:Addr}{cdv:Value}{A:Around}{outer:List Env}{s:Shared}{H:Hp}{E:XK}{Q:VK}(hr:aX 1 (A.deeper (PyProof.Rows.envOfC "_law_rows" (ao gG) s.heap.objs.size f cdv))) :
 ∃tR:TS,gx (iR az P w K mg base yr "_law_rows" (ao gG) f cdv A outer s H E).nj (List.drop 3 (aD gG)) tR/\∀(H1:Hp) (m p:Addr) (M:aI) (pre:List Str) (a1 a2 a3 a4 a5 a6:Addr),cE H1 m M a1 a2 a3 a4 a5 a6->Short M->H1 p=some (.lst (pre.map V.str))->pre.length<=400->
  (∀p' H',H1 p'=none->ai H1 H'->H' p'=some (.lst ((pre++(M.nexts.map (eC "next")++(M.nevers.map (eC "never")++M.somes.map (eC "some")))).map V.str))->Q (.ref p') H')->
  tR { nx:=λ_ H'=>Q .aZ H',rt:=Q } [some (.ref m),some (.ref p),none,none] H1:=by
 have hu:=cM hr
 refine ⟨_,aj (dk PassesOwn.never rfl (bO (cg (aa (dm (aa ay (aa ay ah))) (aa (dm (aa ay (aa ay ah))) (aa (dm (aa ay (aa ay ah))) ah)))))
  (cJ rfl (aJ (ax (i:=2) ma.nd rfl (Or.inr rfl)) (aJ (ax (i:=3) ma.nd rfl (Or.inl rfl)) b8)))
  (au (aK (i:=1) ma.nd rfl (Or.inl rfl) (aM gj (pv 1) (cO (N:=["_law_name", "_law_literal_here", "_law_word"]) (js:=[none,none,some 2]) (g:=ku K 2 (dj (cw 0) (dj (cw 1) kr))) (by kernel_rfl) rfl (bO (bz hu (pv 0) (pv 3) (λ_ _=>rfl)))
   (λ_ _ _ _ _ _=>cJ rfl (aJ (ax (i:=0) Ju rfl (Or.inl rfl) (.inr rfl)) (aJ (ax (i:=1) Ju rfl (Or.inl rfl) (.inr rfl)) b8))) (λ_ _ _ _ _ _=>br)
   (λ_ _ _ _ _ _=>aM bQ (aM bQ (aM bQ (aM bQ (pv 2) ay) (pv 0)) ay) (pv 1)))))))
  (au (aB (pv 1))),?_⟩
 intro H1 m p M pre a1 a2 a3 a4 a5 a6 hM hS hp mm kk
 refine ⟨(by show 2<=sizeLine; decide),λt1 ht1=>⟨(by show 2<=sizeLine; decide),λt2 xS=>⟨(by show 2<=sizeLine; decide),λt3 vh=>⟨(by show 3<=sizeLine; decide),λq hq=>?_⟩⟩⟩⟩
 have s1:ai H1 (upd H1 t1 (.tup [.str "next",.str "nexts"])):=ai.aq ht1
 have q1:(upd H1 t1 (.tup [.str "next",.str "nexts"])) t1=some (.tup [.str "next",.str "nexts"]):=ae
 generalize upd H1 t1 (.tup [.str "next",.str "nexts"])=H2 at xS vh hq s1 q1 ⊢
 have s2:ai H2 (upd H2 t2 (.tup [.str "never",.str "nevers"])):=ai.aq xS
 have q2:(upd H2 t2 (.tup [.str "never",.str "nevers"])) t2=some (.tup [.str "never",.str "nevers"]):=ae
 generalize upd H2 t2 (.tup [.str "never",.str "nevers"])=H3 at vh hq s2 q2 ⊢
 have s3:ai H3 (upd H3 t3 (.tup [.str "some",.str "somes"])):=ai.aq vh
 have q3:(upd H3 t3 (.tup [.str "some",.str "somes"])) t3=some (.tup [.str "some",.str "somes"]):=ae
 generalize upd H3 t3 (.tup [.str "some",.str "somes"])=H4 at hq s3 q3 ⊢
 have s4:ai H4 (upd H4 q (.lst [.ref t1,.ref t2,.ref t3])):=ai.aq hq
 have q4:(upd H4 q (.lst [.ref t1,.ref t2,.ref t3])) q=some (.lst [.ref t1,.ref t2,.ref t3]):=ae
 generalize upd H4 q (.lst [.ref t1,.ref t2,.ref t3])=H5 at s4 q4 ⊢
 have e1:=s4 _ _ (s3 _ _ (s2 _ _ q1))
 have e2:=s4 _ _ (s3 _ _ q2)
 have e3:=s4 _ _ q3
 have xT:ai H1 H5:=((s1.trans s2).trans s3).trans s4
 have xU:=hM.same xT
 have jn:=xT _ _ hp
 have step:∀(i:Nat) (x:V),[V.ref t1,.ref t2,.ref t3][i]?=some x->∃(t a:Addr) (word field:Str) (rs:List (Str×Str)),x=.ref t/\H5 t=some (.tup [.str word,.str field])/\bf (eP a1 a2 a3 a4 a5 a6) (.inr field)=some (.ref a)/\bp H5 a (rs.map gd)/\(∀r∈rs,r.1.length<=9/\r.2.length<=9)/\rs.length<=100/\word.length<=5/\
  [M.nexts.map (eC "next"),M.nevers.map (eC "never"),M.somes.map (eC "some")][i]?=some (rs.map (eC word))/\i<3:=by
  intro i x hx
  match i,hx with
  | 0,hx=>exact ⟨t1,a4, "next", "nexts",M.nexts,(Option.some.inj hx).symm,e1,rfl,xU.nx,hS.nx,hS.l4,(by decide +kernel),rfl,by decide⟩
  | 1,hx=>exact ⟨t2,a5, "never", "nevers",M.nevers,(Option.some.inj hx).symm,e2,rfl,xU.nv,hS.nv,hS.l5,(by decide +kernel),rfl,by decide⟩
  | 2,hx=>exact ⟨t3,a6, "some", "somes",M.somes,(Option.some.inj hx).symm,e3,rfl,xU.sm,hS.sm,hS.l6,(by decide +kernel),rfl,by decide⟩
  | i+3,hx=>simp at hx
 refine ⟨q,rfl,⟨_,ak.of q4⟩,gQ (K:=K) (a:=q) (xs:=[.ref t1,.ref t2,.ref t3]) (λi σ H6=>∃(p':Addr) (v2 v3:Option V) (l:List Str),σ=[some (.ref m),some (.ref p'),v2,v3]/\l=pre++([M.nexts.map (eC "next"),M.nevers.map (eC "never"),M.somes.map (eC "some")].take i).flatten/\l.length<=400+100*i/\H6 p'=some (.lst (l.map V.str))/\(i=0\/H1 p'=none)/\ai H5 H6) ?_ ?_ ?_ ?_⟩
 . exact ⟨p,none,none,pre,rfl,by simp,by omega,jn,.inl rfl,λ_ _ h=>h⟩
 . rintro i σ H6 _ ⟨_,_,_,_,_,_,_,_,_,s6⟩
   exact ak.of (s6 _ _ q4)
 . rintro i x σ H6 hx ⟨p',v2,v3,l,rfl,hl,p9,ju,_,s6⟩
   obtain ⟨t,a,word,field,rs,rfl,ht,hv,⟨us,ha,eu⟩,Mg,gk,mn,Vn,hi3⟩:=step i x hx
   refine ⟨t,_,rfl,aV.of (s6 _ _ ht),rfl,_,_,rfl,_,_,rfl,rfl,?_⟩
   have xE:=s6 _ _ ha
   have Dn:Paired (λt r=>H6 t=some (.tup r)) us (rs.map gd):=Paired.bE eu λt r e=>s6 _ _ e
   have fz:=eu.length
   rw [List.length_map] at fz
   refine ⟨_,rfl,_,rfl,_,rfl,m,.ref a,rfl,(by rw [← hv]; exact bH.k (k:=.inr field) (s6 _ _ xU.top)),a,rfl,⟨_,ak.of xE⟩,λD hD=>?_⟩
   refine cX rs.length (λj acc bu H7=>acc=((rs.take j).map (eC word)).map V.str/\(∃u v,bu=[u,v,some (.str word)])/\ai H6 H7) ⟨rfl,⟨none,none,rfl⟩,ai.aq hD⟩ ae ?_ ?_
   . rintro acc bu H7 a9 ⟨rfl,_,s7⟩
     rw [List.take_length] at a9
     refine ⟨⟨_,ak.of (s7 _ _ xE),by rw [List.length_map,fz]; exact Nat.le_refl _⟩,p',D,_,_,rfl,rfl,s7 _ _ ju,a9,?_,λr kf=>?_⟩
     . rw [List.length_map,List.length_map,List.length_map]
       exact iG (by omega)
     . have s8:ai H7 (upd H7 r (.lst (l.map V.str++(rs.map (eC word)).map V.str))):=ai.aq kf
       refine ⟨r,_,_,l++rs.map (eC word),rfl,?_,?_,?_,.inr (xT.free (s6.free (s7.free kf))),(s6.trans s7).trans s8⟩
       . rw [hl,List.take_succ,Vn,List.flatten_append,List.append_assoc]
         simp
       . rw [List.length_append,List.length_map]
         omega
       . rw [ae,List.map_append]
   . rintro j acc bu H7 hj a9 ⟨rfl,⟨u,v,rfl⟩,s7⟩
     have my:rs[j]?=some rs[j]:=List.getElem?_eq_getElem hj
     obtain ⟨T,hT,rQ⟩:=bq Dn (i:=j) (b:=gd rs[j]) (by rw [List.getElem?_map,my]; rfl)
     have ej:(us.map V.ref)[j]?=some (.ref T):=by rw [List.getElem?_map,hT]; rfl
     refine ⟨⟨_,_,ak.of (s7 _ _ xE),ej⟩,?_⟩
     rintro x' H' ⟨rfl,bX⟩
     have ex:=bX _ (ak.of (s7 _ _ xE))
     rw [ej] at ex
     cases ex
     obtain ⟨h1,h2⟩:=Mg _ (List.getElem_mem hj)
     have hb:(" " : Str).length=1:=by decide +kernel
     refine ⟨T,_,rfl,aV.of (s7 _ _ rQ),rfl,_,_,rfl,_,_,rfl,rfl,jo ?_⟩
     refine ⟨_,rfl,word, " ",rfl,rfl,dy (by omega),_,rfl,word ++ " ",_,rfl,rfl,dy (by rw [fw]; omega),word ++ " " ++ rs[j].1, " ",rfl,rfl,dy (by rw [fw,fw]; omega),_,rfl,word ++ " " ++ rs[j].1 ++ " ",_,rfl,rfl,dy (by rw [fw,fw,fw]; omega),_,a9,?_,bo hj ae ⟨?_,⟨_,_,rfl⟩,?_⟩⟩
     . rw [List.length_map,List.length_map,List.length_take]
       exact small (by omega)
     . rw [dO (eC word) my,List.map_append]
       rfl
     . intro y o hy
       rw [ag (af hy hD)]
       exact s7 y o hy
 . rintro σ H6 ⟨p',v2,v3,l,rfl,hl,p9,ju,h0,s6⟩
   have hn:H1 p'=none:=by
    rcases h0 with h0 | h0
    . cases h0
    . exact h0
   refine ⟨_,rfl,kk p' H6 hn (xT.trans s6) ?_⟩
   rw [ju,hl]
   simp
end
end Gen
namespace Gen
open PySem L2
section
variable {P:Program}{w:World}{K:W.Frag}{mg:Str->Option Value}{base:Heap}
abbrev Lo (K:W.Frag):List V->Hp->VK->Prop:=λxs H Q=>∃p ys,xs=[.ref p]/\(ak K H p ys\/aV K H p ys)/\∀l,H l=none->Q (.ref l) (upd H l (.lst ys))
theorem HN (a b c:Str):(Txt.join " " [a,b,c]).length=a.length+b.length+c.length+2:=by
 have h:(Txt.join " " [a,b,c]).cps.toList=gw 32 [a.cps.toList,b.cps.toList,c.cps.toList]:=by
  rw [iI,eS]; rfl
 have e:=congrArg List.length h
 have l:∀z:Str,z.length=z.cps.toList.length:=λz=>by simp [Str.length]
 rw [l,e,l a,l b,l c]
 simp only [gw,List.length_append,List.length_cons]
 omega
def Vo:Stmt->Expr
 | .Assign _ v _=>v
 | _=>.Constant .none 0 ⟨0,0,0,0⟩
def Vp:Expr->Expr
 | .BinOp _ _ b _=>b
 | e=>e
def QZ:Expr->Expr
 | .ListComp e _ _ _=>e
 | e=>e
abbrev Q0:Expr:=QZ (Vp (Vo ((aD gG).getD 2 (.Pass ⟨0,0,0,0⟩))))
abbrev N9:Scope:={ kind:=.function,names:=[(".0",.local),("_law_gate",.local),("list",.globalImplicit)],isGenerator:=false,isCoroutine:=false }
theorem HP (O:eB mg){f:Addr}{cdv:Value}{A:Around}{outer:List Env}{s:Shared}{H:Hp}{E:XK} :
 ∃te:TE,(∀cl C0 s0 H0 fp pn,PE (cQ (iR az P w K mg base yr "_law_rows" (ao gG) f cdv A outer s H E).nj ["_law_gate"] N9 cl C0 s0 H0 fp pn) Q0 te)/\
  ∀(H1:Hp) (T:Addr) (a b c:Str) (Q:VK),H1 T=some (.tup [.str a,.str b,.str c])->a.length<=9->b.length<=9->c.length<=9->(∀L,H1 L=none->Q (.str (iO (a,b,c))) (upd H1 L (.lst [.str a,.str b,.str c])))->te [some (.ref T)] H1 Q:=by
 refine ⟨wy (λx y H Q=>∃i j,x=.str i/\y=.str j/\i.length+j.length<=sizeLine/\Q (.str (i++j)) H) (tC (.str "gate ")) (RA K "str" (rJoin K) (tC (.str " ")) (yj (L1 (Lo K) (yj (vA 0) CD)) CD)),λcl C0 s0 H0 fp pn=>?_,?_⟩
 . refine aM bQ ay ?_
   refine cV PySem.F.plainAttrs_str PySem.F.slot_str_join PySem.F.type_str_join vH ay ?_
   refine aa ?_ ah
   exact c6 g0 (by rfl) O.list PyProof.Rows.boot_list (aa (pv 0) ah)
 intro H1 T a b c Q hT h1 h2 h3 kk
 have hb:(" " : Str).length=1:=by decide +kernel
 have hg5:("gate " : Str).length=5:=by decide +kernel
 refine ⟨rfl,_,rfl,T,_,rfl,.inr (aV.of hT),λL Jv=>?_⟩
 refine ⟨" ",L,[a,b,c],rfl,rfl,ak.of ae,?_, "gate ",_,rfl,rfl,?_,kk L Jv⟩
 . simp only [List.map_cons,List.map_nil,List.sum_cons,List.sum_nil,List.length_cons,List.length_nil,hb]
   omega
 . rw [HN]
   exact dy (by omega)
theorem HQ {f fT:Addr}{dT:FuncData}(GT:av P w K mg base az 1 fT dT ["_law_first"] wa) (mT:mg "_law_first_text" = some (.ref fT)) (kT:W.keepIn K (.ref fT)=true) (bT:Binds K dT ["_law_first"] []) (O:eB mg)
 {cdv:Value}{A:Around}{outer:List Env}{s:Shared}{H:Hp}{E:XK}{Q:VK}(hr:aX 1 (A.deeper (PyProof.Rows.envOfC "_law_rows" (ao gG) s.heap.objs.size f cdv))) :
 ∃tR:TS,gx (iR az P w K mg base yr "_law_rows" (ao gG) f cdv A outer s H E).nj (List.drop 1 (aD gG)) tR/\∀(H1:Hp) (m p:Addr) (M:aI) (pre:List Str) (a1 a2 a3 a4 a5 a6:Addr),cE H1 m M a1 a2 a3 a4 a5 a6->Short M->H1 p=some (.lst (pre.map V.str))->pre.length<=100->
  (∀p' H',H1 p'=none->ai H1 H'->H' p'=some (.lst ((pre++M.keepers.map fm++M.aE.map iO++(M.nexts.map (eC "next")++(M.nevers.map (eC "never")++M.somes.map (eC "some")))).map V.str))->Q (.ref p') H')->
  tR { nx:=λ_ H'=>Q .aZ H',rt:=Q } [some (.ref m),some (.ref p),none,none] H1:=by
 have hu:=cM hr
 obtain ⟨tL,hL,rL⟩:=FG (P:=P) (w:=w) (K:=K) (mg:=mg) (base:=base) (outer:=outer) (H:=H) (E:=E) (Q:=Q) hr
 obtain ⟨tG,hG,rG⟩:=HP (P:=P) (w:=w) (K:=K) (base:=base) O (f:=f) (cdv:=cdv) (A:=A) (outer:=outer) (s:=s) (H:=H) (E:=E)
 refine ⟨_,aj (aK (i:=1) ma.nd rfl (Or.inl rfl) (aM gj (pv 1) (cO (N:=["_law_name", "_law_first"]) (js:=[none,none]) (g:=ku K 2 (dj (cw 0) (dj (cw 1) kr))) (by kernel_rfl) rfl (bO (bz hu (pv 0) ay (λ_ _=>rfl)))
  (λ_ _ _ _ _ _=>cJ rfl (aJ (ax (i:=0) N8 rfl (Or.inl rfl) (.inr rfl)) (aJ (ax (i:=1) N8 rfl (Or.inl rfl) (.inr rfl)) b8))) (λ_ _ _ _ _ _=>br)
  (λ_ _ _ _ _ _=>aM bQ (aM bQ (aM bQ ay (pv 0)) ay) (aw GT hr rfl mT kT bT .nil aA (aa (pv 1) ah))))))
  (aj (aK (i:=1) ma.nd rfl (Or.inl rfl) (aM gj (pv 1) (cO (N:=["_law_gate"]) (js:=[none]) (by kernel_rfl) rfl (bO (bz hu (pv 0) ay (λ_ _=>rfl)))
   (λ_ _ _ _ _ _=>ax (i:=0) Vm rfl (Or.inl rfl) (.inr rfl)) (λ_ _ _ _ _ _=>br)
   hG))) hL),?_⟩
 intro H1 m p M pre a1 a2 a3 a4 a5 a6 hM hS hp mm kk
 obtain ⟨us,ha,eu⟩:=id hM.kp
 have fz:=eu.length
 rw [List.length_map] at fz
 have hb:(" " : Str).length=1:=by decide +kernel
 have hk5:("keep " : Str).length=5:=by decide +kernel
 have hg5:("gate " : Str).length=5:=by decide +kernel
 have l2:=hS.l2
 have l3:=hS.l3
 refine ⟨_,rfl,_,rfl,m,.ref a2,rfl,bH.k (k:=.inr "keepers") hM.top,a2,rfl,⟨_,ak.of ha⟩,λD hD=>?_⟩
 refine cX M.keepers.length (λj acc bu H7=>acc=((M.keepers.take j).map fm).map V.str/\(∃u v,bu=[u,v])/\ai H1 H7) ⟨rfl,⟨none,none,rfl⟩,ai.aq hD⟩ ae ?_ ?_
 . rintro acc bu H2 a9 ⟨rfl,_,s2⟩
   rw [List.take_length] at a9
   refine ⟨⟨_,ak.of (s2 _ _ ha),by rw [List.length_map,fz]; exact Nat.le_refl _⟩,p,D,_,_,rfl,rfl,s2 _ _ hp,a9,?_,λr kf=>?_⟩
   . rw [List.length_map,List.length_map,List.length_map]
     exact iG (by omega)
   have s3:ai H2 (upd H2 r (.lst (pre.map V.str++(M.keepers.map fm).map V.str))):=ai.aq kf
   have q3:(upd H2 r (.lst (pre.map V.str++(M.keepers.map fm).map V.str))) r=some (.lst ((pre++M.keepers.map fm).map V.str)):=by rw [ae,List.map_append]
   generalize upd H2 r (.lst (pre.map V.str++(M.keepers.map fm).map V.str))=H3 at s3 q3 ⊢
   have nQ:=s2.trans s3
   have nW:=hM.same nQ
   obtain ⟨gs,xV,jc⟩:=id nW.gt
   have gm:=jc.length
   rw [List.length_map] at gm
   refine ⟨_,rfl,_,rfl,m,.ref a3,rfl,bH.k (k:=.inr "gates") nW.top,a3,rfl,⟨_,ak.of xV⟩,λD2 lX=>?_⟩
   refine cX M.aE.length (λj acc bu H7=>acc=((M.aE.take j).map iO).map V.str/\(∃u,bu=[u])/\ai H3 H7) ⟨rfl,⟨none,rfl⟩,ai.aq lX⟩ ae ?_ ?_
   . rintro acc bu H4 Oa ⟨rfl,_,s4⟩
     rw [List.take_length] at Oa
     refine ⟨⟨_,ak.of (s4 _ _ xV),by rw [List.length_map,gm]; exact Nat.le_refl _⟩,r,D2,_,_,rfl,rfl,s4 _ _ q3,Oa,?_,λr2 d5=>?_⟩
     . simp only [List.length_map,List.length_append]
       exact iG (by omega)
     have s5:ai H4 (upd H4 r2 (.lst ((pre++M.keepers.map fm).map V.str++(M.aE.map iO).map V.str))):=ai.aq d5
     have q5:(upd H4 r2 (.lst ((pre++M.keepers.map fm).map V.str++(M.aE.map iO).map V.str))) r2=some (.lst ((pre++M.keepers.map fm++M.aE.map iO).map V.str)):=by rw [ae,List.map_append (l₁:=pre++M.keepers.map fm)]
     generalize upd H4 r2 (.lst ((pre++M.keepers.map fm).map V.str++(M.aE.map iO).map V.str))=H5 at s5 q5 ⊢
     have xT:=(nQ.trans s4).trans s5
     exact rL H5 m r2 M _ a1 a2 a3 a4 a5 a6 (hM.same xT) hS q5 (by simp only [List.length_map,List.length_append]; omega) λp' H' hn s' ju=>kk p' H' (xT.free hn) (xT.trans s') ju
   . rintro j acc bu H7 hj wb ⟨rfl,⟨u,rfl⟩,s7⟩
     have my:M.aE[j]?=some M.aE[j]:=List.getElem?_eq_getElem hj
     obtain ⟨T,hT,rQ⟩:=bq jc (i:=j) (b:=kG M.aE[j]) (by rw [List.getElem?_map,my]; rfl)
     have ej:(gs.map V.ref)[j]?=some (.ref T):=by rw [List.getElem?_map,hT]; rfl
     refine ⟨⟨_,_,ak.of (s7 _ _ xV),ej⟩,?_⟩
     rintro x' H' ⟨rfl,bX⟩
     have ex:=bX _ (ak.of (s7 _ _ xV))
     rw [ej] at ex
     cases ex
     refine dv ?_
     obtain ⟨h1,h2,h3⟩:=hS.gt _ (List.getElem_mem hj)
     refine rG _ T _ _ _ _ (s7 _ _ rQ) h1 h2 h3 λL Jv=>?_
     have nDL:D2≠L:=af wb Jv
     refine ⟨_,(by rw [ag nDL]; exact wb),?_,bo hj ae ⟨?_,⟨_,rfl⟩,?_⟩⟩
     . rw [List.length_map,List.length_map,List.length_take]
       exact small (by omega)
     . rw [dO iO my,List.map_append]
       rfl
     . intro y o hy
       rw [ag (af hy lX),ag (af (s7 y o hy) Jv)]
       exact s7 y o hy
 . rintro j acc bu H7 hj wb ⟨rfl,⟨u,v,rfl⟩,s7⟩
   have my:M.keepers[j]?=some M.keepers[j]:=List.getElem?_eq_getElem hj
   obtain ⟨T,hT,rQ⟩:=bq eu (i:=j) (b:=iV M.keepers[j]) (by rw [List.getElem?_map,my]; rfl)
   have ej:(us.map V.ref)[j]?=some (.ref T):=by rw [List.getElem?_map,hT]; rfl
   refine ⟨⟨_,_,ak.of (s7 _ _ ha),ej⟩,?_⟩
   rintro x' H' ⟨rfl,bX⟩
   have ex:=bX _ (ak.of (s7 _ _ ha))
   rw [ej] at ex
   cases ex
   obtain ⟨h1,h2⟩:=hS.kp _ (List.getElem_mem hj)
   refine ⟨T,_,rfl,aV.of (s7 _ _ rQ),rfl,_,_,rfl,_,_,rfl,rfl,jo ?_⟩
   refine ⟨_,rfl, "keep ",_,rfl,rfl,dy (by omega), "keep " ++ M.keepers[j].1, " ",rfl,rfl,dy (by rw [fw]; omega),_,rfl,M.keepers[j].2,rfl,h2,λH8 s8=>?_⟩
   refine ⟨"keep " ++ M.keepers[j].1 ++ " ",_,rfl,rfl,dy (by rw [fw,fw,vg]; omega),_,s8 _ _ wb,?_,bo hj ae ⟨?_,⟨_,_,rfl⟩,?_⟩⟩
   . rw [List.length_map,List.length_map,List.length_take]
     exact small (by omega)
   . rw [dO fm my,List.map_append]
     rfl
   . intro y o hy
     rw [ag (af hy hD)]
     exact s8 y o (s7 y o hy)
theorem Lp {f fT:Addr}{fd dT:FuncData}(F:bJ K "_law_rows" "_law_rows" gG f fd) (GT:av P w K mg base az 1 fT dT ["_law_first"] wa) (mT:mg "_law_first_text" = some (.ref fT)) (kT:W.keepIn K (.ref fT)=true) (bT:Binds K dT ["_law_first"] []) (O:eB mg):av P w K mg base az 2 f fd ["_law_m"] Al:=by
 refine F.ok ma (λvs H Q E h=>?_) (λcdv A outer s H vs Q E hr h=>?_)
 . obtain ⟨m,M,a1,a2,a3,a4,a5,a6,rfl,_⟩:=h
   rfl
 . obtain ⟨m,M,a1,a2,a3,a4,a5,a6,rfl,hM,hS,kk⟩:=h
   have hu:=cM hr
   obtain ⟨tL,hL,rL⟩:=HQ GT mT kT bT O (outer:=outer) (H:=H) (E:=E) (Q:=Q) hr
   refine ⟨_,aj (qN (i:=1) (N:=["_law_name"]) (js:=[none]) ma.nd rfl rfl (by kernel_rfl) rfl (bO (bz hu (pv 0) ay (λ_ _=>rfl))) (λ_ _ _ _ _ _=>ax (i:=0) Vl rfl (Or.inl rfl) (.inr rfl)) (λ_ _ _ _ _ _=>br) (λ_ _ _ _ _ _=>aM bQ ay (pv 0))) hL,?_⟩
   have hs7:("switch " : Str).length=7:=by decide +kernel
   have l1:=hS.l1
   refine ⟨_,rfl,m,.ref a1,rfl,bH.k (k:=.inr "switches") hM.top,a1,rfl,⟨_,ak.of hM.sw⟩,λD hD=>?_⟩
   refine cX M.switches.length (λj acc bu H7=>acc=((M.switches.take j).map rm).map V.str/\(∃u,bu=[u])/\ai H H7) ⟨rfl,⟨none,rfl⟩,ai.aq hD⟩ ae ?_ ?_
   . rintro acc bu H2 a9 ⟨rfl,_,s2⟩
     rw [List.take_length] at a9
     refine ⟨⟨_,ak.of (s2 _ _ hM.sw),by rw [List.length_map]; exact Nat.le_refl _⟩,?_⟩
     exact rL H2 m D M _ a1 a2 a3 a4 a5 a6 (hM.same s2) hS a9 (by rw [List.length_map]; exact l1) λp' H' hn s' ju=>kk p' H' (s2.free hn) (s2.trans s') ju
   . rintro j acc bu H7 hj wb ⟨rfl,⟨u,rfl⟩,s7⟩
     have my:M.switches[j]?=some M.switches[j]:=List.getElem?_eq_getElem hj
     have ej:(M.switches.map V.str)[j]?=some (.str M.switches[j]):=by rw [List.getElem?_map,my]; rfl
     refine ⟨⟨_,_,ak.of (s7 _ _ hM.sw),ej⟩,?_⟩
     rintro x' H' ⟨rfl,bX⟩
     have ex:=bX _ (ak.of (s7 _ _ hM.sw))
     rw [ej] at ex
     cases ex
     refine dv ?_
     have h1:=hS.sw _ (List.getElem_mem hj)
     refine ⟨_,rfl, "switch ",_,rfl,rfl,dy (by omega),_,wb,?_,bo hj ae ⟨?_,⟨_,rfl⟩,?_⟩⟩
     . rw [List.length_map,List.length_map,List.length_take]
       exact small (by omega)
     . rw [dO rm my,List.map_append]
       rfl
     . intro y o hy
       rw [ag (af hy hD)]
       exact s7 y o hy
end
end Gen
namespace Gen
open PySem L2
theorem iW.len {z:Str}(h:iW z):1<=z.length/\z.length<=9:=by
 rcases h with rfl | rfl | h | ⟨x,hx,rfl⟩
 . decide +kernel
 . decide +kernel
 . refine ⟨?_,Nat.le_trans h.len (by decide)⟩
   have:=h.1
   simpa [Str.length] using this
 . have e:=fw "~" x
   have t1:("~" : Str).length=1:=by decide +kernel
   have:=hx.len
   omega
end Gen
namespace Gen
open PySem L2
def namesOf (M:aI):List Str:=M.switches++M.keepers.map (·.1)++M.aE.map (·.1)
theorem md (n:Str):∀l:List (Str×V),(bf (dQ l) (.inr n)).isSome=decide (n∈l.map (·.1))
 | []=>by simp [dQ,bf]
 | r::l=>by
  have ih:=md n l
  by_cases e:r.1=n
  . have h1:bf (dQ (r::l)) (.inr n)=some r.2:=fZ (p:=((.inr r.1:Key),r.2)) (by rw [e])
    rw [h1]
    simp [e]
  . have h1:bf (dQ (r::l)) (.inr n)=bf (dQ l) (.inr n):=gU (p:=((.inr r.1:Key),r.2)) (λq=>e (Sum.inr.inj q))
    rw [h1,ih]
    have:¬ n=r.1:=λq=>e q.symm
    simp [this]
theorem Q1 (l:List (Str×Str)):cb l=dQ (l.map λr=>(r.1,V.str r.2)):=by unfold cb dQ; rw [List.map_map]; rfl
theorem iX {n:Str}{l:List (Str×Str)}(h:n∉l.map (·.1)):bf (cb l) (.inr n)=none:=by
 have:=md n (l.map λr=>(r.1,V.str r.2))
 rw [← Q1,List.map_map,decide_eq_false (by simpa using h)] at this
 cases e:bf (cb l) (.inr n) with
 | none=>rfl
 | some v=>rw [e] at this; cases this
theorem tI (M:aI) (n:Str):told M n=decide (n∈namesOf M):=by
 unfold told iN
 rw [qW,md]
 have e:(M.aE.any λr=>decide (r.1=n))=decide (n∈M.aE.map (·.1)):=by
  rw [Bool.eq_iff_iff,List.any_eq_true,decide_eq_true_eq,List.mem_map]
  constructor
  . rintro ⟨r,h1,h2⟩; exact ⟨r,h1,of_decide_eq_true h2⟩
  . rintro ⟨r,h1,h2⟩; exact ⟨r,h1,decide_eq_true h2⟩
 rw [e,Bool.eq_iff_iff]
 simp only [Bool.or_eq_true,decide_eq_true_eq,namesOf,List.mem_append]
theorem tJ {M:aI}{n:Str}(h:n∉namesOf M):told M n=false:=by rw [tI]; exact decide_eq_false h
theorem Lit.bw {names:List Str}{z:Str}(h:Lit names z) (hn:∀x∈names,aW x):iW z:=by
 rcases h with h | h | ⟨x,hx,h | h⟩
 . exact .inl h
 . exact .inr (.inl h)
 . exact .inr (.inr (.inl (h ▸ hn x hx)))
 . exact .inr (.inr (.inr ⟨x,hn x hx,h⟩))
theorem Lit.known {M:aI}{names:List Str}{z:Str}(h:Lit names z) (hn:∀x∈names,aW x) (hs:∀x∈names,x∈namesOf M):Known M z:=by
 refine ⟨(h.bw hn).len.2,?_⟩
 rcases h with h | h | ⟨x,hx,h | h⟩
 . exact .inl h
 . exact .inr (.inl h)
 . refine .inr (.inr ?_)
   rw [h,gg,if_neg (oR (hn x hx)),tI]
   exact decide_eq_true (hs x hx)
 . refine .inr (.inr ?_)
   have e2:gg ("~" ++ x)=x:=by
    rw [gg,eY,if_pos (show (126::x.cps.toList)[0]?=some 126 from rfl)]
    exact (ja x).symm
   rw [h,e2,tI]
   exact decide_eq_true (hs x hx)
theorem Reads.snoc {M M1 M2:aI}{ws:List Str}{rs:List (List Str)}(h:Reads M rs M1) (h2:dr M1 ws M2):Reads M (rs++[ws]) M2:=by
 induction h with
 | nil=>exact .row h2 .nil
 | blank _ ih=>exact .blank (ih h2)
 | row r _ ih=>exact .row r (ih h2)
theorem Reads.append {M M1 M2:aI}{rs Si:List (List Str)}(h:Reads M rs M1) (h2:Reads M1 Si M2):Reads M (rs++Si) M2:=by
 induction h with
 | nil=>exact h2
 | blank _ ih=>exact .blank (ih h2)
 | row r _ ih=>exact .row r (ih h2)
theorem seg {α:Type}(L:List α) (wf:α->List Str) (mk:List α->aI) (step:∀(i:Nat) (h:i<L.length),dr (mk (L.take i)) (wf L[i]) (mk (L.take i++[L[i]]))):Reads (mk []) (L.map wf) (mk L):=by
 have all:∀k,k<=L.length->Reads (mk []) ((L.take k).map wf) (mk (L.take k)):=by
  intro k
  induction k with
  | zero=>intro _; exact .nil
  | succ k ih=>
   intro hk
   have h1:=(ih (by omega)).snoc (step k (by omega))
   have e:L.take (k+1)=L.take k++[L[k]]:=by rw [List.take_succ,List.getElem?_eq_getElem (by omega)]; rfl
   rw [e,List.map_append]
   exact h1
 have:=all L.length (Nat.le_refl _)
 rwa [List.take_length] at this
theorem jJ {α:Type}{l pre post:List α}{i:Nat}(h:(pre++l++post).Nodup) (hi:i<l.length):l[i]∉pre++l.take i:=by
 have e:l=l.take i++l[i]::l.drop (i+1):=by rw [← List.drop_eq_getElem_cons hi,List.take_append_drop]
 have h1:(pre++l).Nodup:=(List.nodup_append.mp h).1
 have h2:((pre++l.take i)++l[i]::l.drop (i+1)).Nodup:=by rw [List.append_assoc,← e]; exact h1
 intro hm
 exact (List.nodup_append.mp h2).2.2 _ hm _ List.mem_cons_self rfl
def vi (n:Str):List Str:=["switch",n]
def vj (r:Str×V):List Str:=["keep",r.1,fH r.2]
def vk (r:Str×Str×Str):List Str:=["gate",r.1,r.2.1,r.2.2]
def wW (word:Str) (r:Str×Str):List Str:=[word,r.1,r.2]
def me (M:aI):List (List Str):=M.switches.map vi++M.keepers.map vj++M.aE.map vk++(M.nexts.map (wW "next")++(M.nevers.map (wW "never")++M.somes.map (wW "some")))
theorem FH {M:aI}{names:List Str}(h:eX M names) (l1:M.switches.length<=12) (l2:M.keepers.length<=16) (l3:M.aE.length<=60) (l4:M.nexts.length<=16) (l5:M.nevers.length<=4) (l6:M.somes.length<=4):Reads vc (me M) M:=by
 have hnd:=h.nd
 rw [h.all] at hnd
 have dz:∀z,z∈M.switches++M.keepers.map (·.1)++M.aE.map (·.1)->aW z:=λz hz=>h.nm z (by rw [h.all]; exact hz)
 obtain ⟨sw,kp,gt,nx,nv,sm⟩:=M
 simp only at l1 l2 l3 l4 l5 l6 hnd dz
 have r1:Reads ⟨[],[],[],[],[],[]⟩ (sw.map vi) ⟨sw,[],[],[],[],[]⟩:=by
  refine seg sw vi (λl=>⟨l,[],[],[],[],[]⟩) λi hi=>?_
  refine dr.sw (M:=⟨sw.take i,[],[],[],[],[]⟩) (dz _ (by simp)) (tJ ?_) (by show (sw.take i).length<12; rw [List.length_take]; omega)
  have:=jJ (pre:=[]) (post:=kp.map (·.1)++gt.map (·.1)) (by simpa using hnd) hi
  simpa [namesOf] using this
 have r2:Reads ⟨sw,[],[],[],[],[]⟩ (kp.map vj) ⟨sw,kp,[],[],[],[]⟩:=by
  refine seg kp vj (λl=>⟨sw,l,[],[],[],[]⟩) λi hi=>?_
  have hf:=h.first kp[i] (List.getElem_mem hi)
  refine dr.kp (M:=⟨sw,kp.take i,[],[],[],[]⟩) (v:=kp[i].2) (dz _ (by simp only [List.mem_append,List.mem_map]; exact .inl (.inr ⟨kp[i],List.getElem_mem hi,rfl⟩))) ?_ (tJ ?_) (by show (kp.take i).length<16; rw [List.length_take]; omega)
  . rcases hf with e | e | e
    . rw [e,Ai]; exact .inl ⟨rfl,rfl⟩
    . rw [e,Aj]; exact .inr (.inl ⟨rfl,rfl⟩)
    . rw [e,Ak]; exact .inr (.inr ⟨rfl,rfl⟩)
  . have:=jJ (l:=kp.map (·.1)) (pre:=sw) (post:=gt.map (·.1)) hnd (i:=i) (by rw [List.length_map]; exact hi)
    rw [List.getElem_map,← List.map_take] at this
    simpa [namesOf] using this
 have r3:Reads ⟨sw,kp,[],[],[],[]⟩ (gt.map vk) ⟨sw,kp,gt,[],[],[]⟩:=by
  refine seg gt vk (λl=>⟨sw,kp,l,[],[],[]⟩) λi hi=>?_
  obtain ⟨g1,g2⟩:=h.gl i gt[i] (List.getElem?_eq_getElem hi)
  have jw:∀x∈sw++kp.map (·.1)++(gt.take i).map (·.1),aW x:=λx hx=>dz x (by
   rcases List.mem_append.mp hx with hx | hx
   . exact List.mem_append_left _ hx
   . obtain ⟨r,hr,e⟩:=List.mem_map.mp hx
     exact List.mem_append_right _ (List.mem_map.mpr ⟨r,List.mem_of_mem_take hr,e⟩))
  refine dr.gt (M:=⟨sw,kp,gt.take i,[],[],[]⟩) (dz _ (by simp only [List.mem_append,List.mem_map]; exact .inr ⟨gt[i],List.getElem_mem hi,rfl⟩)) (g1.bw jw) (g2.bw jw) (g1.known jw λx hx=>hx) (g2.known jw λx hx=>hx) (tJ ?_) (by show (gt.take i).length<60; rw [List.length_take]; omega)
  have:=jJ (l:=gt.map (·.1)) (pre:=sw++kp.map (·.1)) (post:=[]) (by simpa using hnd) (i:=i) (by rw [List.length_map]; exact hi)
  rw [List.getElem_map,← List.map_take] at this
  exact this
 have hN:∀x∈names,x∈sw++kp.map (·.1)++gt.map (·.1):=λx hx=>by rw [h.all] at hx; exact hx
 have r4:Reads ⟨sw,kp,gt,[],[],[]⟩ (nx.map (wW "next")) ⟨sw,kp,gt,nx,[],[]⟩:=by
  refine seg nx (wW "next") (λl=>⟨sw,kp,gt,l,[],[]⟩) λi hi=>?_
  have hk:=h.nxk nx[i] (List.getElem_mem hi)
  have hl:=h.nxl nx[i] (List.getElem_mem hi)
  refine dr.nx (M:=⟨sw,kp,gt,nx.take i,[],[]⟩) (dz _ (List.mem_append_left _ (List.mem_append_right _ hk))) (hl.bw h.nm) (hl.known h.nm hN) ?_ (iX (nN hi h.nxd)) (by show (nx.take i).length<100; rw [List.length_take]; omega)
  rw [md]
  exact decide_eq_true hk
 have r5:Reads ⟨sw,kp,gt,nx,[],[]⟩ (nv.map (wW "never")) ⟨sw,kp,gt,nx,nv,[]⟩:=by
  refine seg nv (wW "never") (λl=>⟨sw,kp,gt,nx,l,[]⟩) λi hi=>?_
  have hl:=h.nvw.lit nv[i] (List.getElem_mem hi)
  exact dr.nv (M:=⟨sw,kp,gt,nx,nv.take i,[]⟩) (h.nvw.nm nv[i] (List.getElem_mem hi)) (hl.bw h.nm) (hl.known h.nm hN) (iX (nN hi h.nvw.nd)) (iX (by simp)) (by show (nv.take i).length+0<8; rw [List.length_take]; omega)
 have r6:Reads ⟨sw,kp,gt,nx,nv,[]⟩ (sm.map (wW "some")) ⟨sw,kp,gt,nx,nv,sm⟩:=by
  refine seg sm (wW "some") (λl=>⟨sw,kp,gt,nx,nv,l⟩) λi hi=>?_
  have hl:=h.smw.lit sm[i] (List.getElem_mem hi)
  exact dr.sm (M:=⟨sw,kp,gt,nx,nv,sm.take i⟩) (h.smw.nm sm[i] (List.getElem_mem hi)) (hl.bw h.nm) (hl.known h.nm hN) (iX (h.smw.ut sm[i] (List.getElem_mem hi))) (iX (nN hi h.smw.nd)) (by show nv.length+(sm.take i).length<8; rw [List.length_take]; omega)
 unfold me
 exact ((r1.append r2).append r3).append (r4.append (r5.append r6))
end Gen
namespace Gen
open PySem L2
def Clean (z:Str):Prop:=z ≠ "" /\ ∀c∈z.cps.toList,c≠10/\c≠32
theorem Am {z:Str}(h:1<=z.length):z ≠ "":=λe=>by
 rw [e] at h
 exact absurd h (by decide +kernel)
theorem aW.clean {z:Str}(h:aW z):Clean z:=by
 refine ⟨Am ?_,λc hc=>?_⟩
 . have:=h.1
   simpa [Str.length] using this
 . have:=jQ.mp (h.2.2 c hc)
   omega
theorem iW.clean {z:Str}(h:iW z):Clean z:=by
 refine ⟨Am h.len.1,λc hc=>?_⟩
 rcases h with rfl | rfl | h | ⟨x,hx,rfl⟩
 . have e:("0" : Str).cps.toList=[48]:=by decide +kernel
   rw [e] at hc
   have:=List.mem_singleton.mp hc
   omega
 . have e:("1" : Str).cps.toList=[49]:=by decide +kernel
   rw [e] at hc
   have:=List.mem_singleton.mp hc
   omega
 . exact h.clean.2 c hc
 . rw [eY] at hc
   rcases List.mem_cons.mp hc with rfl | hc
   . decide
   . exact hx.clean.2 c hc
theorem hZ {z:Str}(h:(z.cps.toList≠[]/\z.cps.toList.all λc=>c != 10 && c != 32) ):Clean z:=by
 refine ⟨λe=>h.1 (by rw [e]; decide +kernel),λc hc=>?_⟩
 have:=List.all_eq_true.mp h.2 c hc
 simpa using this
theorem An:Clean "switch":=hZ (by decide +kernel)
theorem DB:Clean "keep":=hZ (by decide +kernel)
theorem DC:Clean "gate":=hZ (by decide +kernel)
theorem DD:Clean "next":=hZ (by decide +kernel)
theorem AZ:Clean "never":=hZ (by decide +kernel)
theorem DE:Clean "some":=hZ (by decide +kernel)
theorem A0 (v:V):Clean (fH v):=by
 unfold fH
 split
 . exact hZ (by decide +kernel)
 . split <;> exact hZ (by decide +kernel)
theorem DF {ws:List Str}(h0:ws≠[]) (h:∀x∈ws,Clean x):wordsOf (Txt.join " " ws)=ws:=by
 unfold wordsOf
 rw [iI,uA (by decide) h0 λz hz hc=>((h z hz).2 32 hc).2 rfl]
 refine List.filter_eq_self.mpr λx hx=>?_
 simpa using (h x hx).1
theorem Lq {ws:List Str}(h:∀x∈ws,Clean x):∀c∈(Txt.join " " ws).cps.toList,c≠10:=by
 rw [iI,eS]
 intro c hc
 have:∀(l:List (List Nat)),(∀x∈l,∀c∈x,c≠10)->∀c∈gw 32 l,c≠10:=by
  intro l
  induction l with
  | nil=>intro _ c hc; cases hc
  | cons a r ih=>
   intro hl c hc
   cases r with
   | nil=>exact hl a List.mem_cons_self c (by simpa [gw] using hc)
   | cons b r=>
    simp only [gw,List.mem_append,List.mem_cons] at hc
    rcases hc with hc | hc | hc
    . exact hl a List.mem_cons_self c hc
    . omega
    . exact ih (λx hx=>hl x (List.mem_cons_of_mem _ hx)) c hc
 refine this _ (λx hx c hc=>?_) c hc
 obtain ⟨z,hz,rfl⟩:=List.mem_map.mp hx
 exact ((h z hz).2 c hc).1
theorem Ao (c:Nat):∀l:List (List Nat),(gw c l).length<=(l.map (·.length)).sum+l.length
 | []=>by simp [gw]
 | [a]=>by simp [gw]
 | a::b::r=>by
  have ih:=Ao c (b::r)
  simp only [gw,List.length_append,List.length_cons,List.map_cons,List.sum_cons] at ih ⊢
  omega
theorem Ap (c:Nat) (ws:List Str):(Txt.join ⟨#[c]⟩ ws).length<=(ws.map (·.length)).sum+ws.length:=by
 have l:∀z:Str,z.length=z.cps.toList.length:=λz=>by simp [Str.length]
 rw [l,eS]
 refine Nat.le_trans (Ao c _) ?_
 rw [List.map_map,List.length_map]
 have e:(List.length∘λz:Str=>z.cps.toList)=λz:Str=>z.length:=by funext z; exact (l z).symm
 have e2:(λz:List Nat=>z.length)∘(λz:Str=>z.cps.toList)=λz:Str=>z.length:=by funext z; exact (l z).symm
 rw [e2]
 exact Nat.le_refl _
theorem FI {l:List Str}{k:Nat}(h:∀x∈l,x.length<=k):(l.map (·.length)).sum<=k*l.length:=by
 induction l with
 | nil=>simp
 | cons a r ih=>
  have h1:=h a List.mem_cons_self
  have h2:=ih λx hx=>h x (List.mem_cons_of_mem _ hx)
  rw [List.map_cons,List.sum_cons,List.length_cons,Nat.mul_add,Nat.mul_one]
  omega
theorem Q2 (n:Str):rm n=Txt.join " " (vi n):=by
 have e:("switch " : Str).cps.toList=("switch" : Str).cps.toList++[32]:=by decide +kernel
 refine nz ?_
 rw [rm,vi,ef,iI,eS,e]
 simp [gw]
theorem Q3 (r:Str×V):fm r=Txt.join " " (vj r):=by
 have e:("keep " : Str).cps.toList=("keep" : Str).cps.toList++[32]:=by decide +kernel
 have b:(" " : Str).cps.toList=[32]:=by decide +kernel
 refine nz ?_
 rw [fm,vj,ef,ef,ef,e,b]
 rw [iI,eS]
 simp [gw]
theorem Q4 (r:Str×Str×Str):iO r=Txt.join " " (vk r):=by
 have e:("gate " : Str).cps.toList=("gate" : Str).cps.toList++[32]:=by decide +kernel
 refine nz ?_
 rw [iO,vk,ef,e,iI,eS,eS]
 simp [gw]
theorem Vq (word:Str) (r:Str×Str):eC word r=Txt.join " " (wW word r):=by
 have b:(" " : Str).cps.toList=[32]:=by decide +kernel
 refine nz ?_
 rw [eC,wW,ef,ef,ef,ef,b]
 rw [iI,eS]
 simp [gw]
theorem wc (M:aI):rowsOf M=(me M).map (Txt.join " "):=by
 have f1:rm=λn=>Txt.join " " (vi n):=funext Q2
 have f2:fm=λn=>Txt.join " " (vj n):=funext Q3
 have f3:iO=λn=>Txt.join " " (vk n):=funext Q4
 have f4:∀w,eC w=λn=>Txt.join " " (wW w n):=λw=>funext (Vq w)
 unfold rowsOf me
 rw [f1,f2,f3,f4,f4,f4]
 simp only [List.map_append,List.map_map]
 rfl
theorem m8 {M:aI}{names:List Str}(h:eX M names):∀ws∈me M,ws≠[]/\(∀x∈ws,Clean x/\x.length<=9)/\ws.length<=4:=by
 have hN:∀z,aW z->Clean z/\z.length<=9:=λz hz=>⟨hz.clean,Nat.le_trans hz.len (by decide)⟩
 have hL:∀z,iW z->Clean z/\z.length<=9:=λz hz=>⟨hz.clean,hz.len.2⟩
 have dz:∀z,z∈M.switches++M.keepers.map (·.1)++M.aE.map (·.1)->aW z:=λz hz=>h.nm z (by rw [h.all]; exact hz)
 intro ws hw
 unfold me at hw
 simp only [List.mem_append,List.mem_map] at hw
 rcases hw with ((⟨n,hn,rfl⟩ | ⟨r,hr,rfl⟩) | ⟨r,hr,rfl⟩) | ⟨r,hr,rfl⟩ | ⟨r,hr,rfl⟩ | ⟨r,hr,rfl⟩
 . refine ⟨by simp [vi],λx hx=>?_,by simp [vi]⟩
   simp only [vi,List.mem_cons,List.not_mem_nil,or_false] at hx
   rcases hx with rfl | rfl
   . exact ⟨An,by decide +kernel⟩
   . exact hN _ (dz _ (List.mem_append_left _ (List.mem_append_left _ hn)))
 . refine ⟨by simp [vj],λx hx=>?_,by simp [vj]⟩
   simp only [vj,List.mem_cons,List.not_mem_nil,or_false] at hx
   rcases hx with rfl | rfl | rfl
   . exact ⟨DB,by decide +kernel⟩
   . exact hN _ (dz _ (List.mem_append_left _ (List.mem_append_right _ (List.mem_map.mpr ⟨r,hr,rfl⟩))))
   . exact ⟨A0 _,by rw [vg]; decide⟩
 . refine ⟨by simp [vk],λx hx=>?_,by simp [vk]⟩
   obtain ⟨i,hi,rfl⟩:=List.getElem_of_mem hr
   obtain ⟨g1,g2⟩:=h.gl i _ (List.getElem?_eq_getElem hi)
   have jw:∀x∈M.switches++M.keepers.map (·.1)++(M.aE.take i).map (·.1),aW x:=λx hx=>dz x (by
    rcases List.mem_append.mp hx with hx | hx
    . exact List.mem_append_left _ hx
    . obtain ⟨r,hr,e⟩:=List.mem_map.mp hx
      exact List.mem_append_right _ (List.mem_map.mpr ⟨r,List.mem_of_mem_take hr,e⟩))
   simp only [vk,List.mem_cons,List.not_mem_nil,or_false] at hx
   rcases hx with rfl | rfl | rfl | rfl
   . exact ⟨DC,by decide +kernel⟩
   . exact hN _ (dz _ (List.mem_append_right _ (List.mem_map.mpr ⟨_,hr,rfl⟩)))
   . exact hL _ (g1.bw jw)
   . exact hL _ (g2.bw jw)
 . refine ⟨by simp [wW],λx hx=>?_,by simp [wW]⟩
   simp only [wW,List.mem_cons,List.not_mem_nil,or_false] at hx
   rcases hx with rfl | rfl | rfl
   . exact ⟨DD,by decide +kernel⟩
   . exact hN _ (dz _ (List.mem_append_left _ (List.mem_append_right _ (h.nxk r hr))))
   . exact hL _ ((h.nxl r hr).bw h.nm)
 . refine ⟨by simp [wW],λx hx=>?_,by simp [wW]⟩
   simp only [wW,List.mem_cons,List.not_mem_nil,or_false] at hx
   rcases hx with rfl | rfl | rfl
   . exact ⟨AZ,by decide +kernel⟩
   . exact hN _ (h.nvw.nm r hr)
   . exact hL _ ((h.nvw.lit r hr).bw h.nm)
 . refine ⟨by simp [wW],λx hx=>?_,by simp [wW]⟩
   simp only [wW,List.mem_cons,List.not_mem_nil,or_false] at hx
   rcases hx with rfl | rfl | rfl
   . exact ⟨DE,by decide +kernel⟩
   . exact hN _ (h.smw.nm r hr)
   . exact hL _ ((h.smw.lit r hr).bw h.nm)
theorem Lr {M:aI}{names:List Str}(h:eX M names):∀r∈rowsOf M,r.length<=40:=by
 intro r hr
 rw [wc] at hr
 obtain ⟨ws,hw,rfl⟩:=List.mem_map.mp hr
 obtain ⟨_,h2,h3⟩:=m8 h ws hw
 rw [iI]
 have h4:=Ap 32 ws
 have h5:=FI (l:=ws) (k:=9) λx hx=>(h2 x hx).2
 omega
theorem DG {M:aI}{names:List Str}(h:eX M names) (h0:1<=M.nevers.length):Txt.split (Txt.join "\n" (rowsOf M)) "\n" = rowsOf M/\(rowsOf M).map wordsOf=me M:=by
 constructor
 . rw [vd]
   refine uA (by decide) ?_ λr hr hc=>?_
   . intro e
     have:=congrArg List.length e
     unfold rowsOf at this
     simp only [List.length_append,List.length_map,List.length_nil] at this
     omega
   . rw [wc] at hr
     obtain ⟨ws,hw,rfl⟩:=List.mem_map.mp hr
     exact Lq (λx hx=>((m8 h ws hw).2.1 x hx).1) 10 hc rfl
 . rw [wc,List.map_map]
   refine (List.map_congr_left λws hw=>?_).trans (List.map_id _)
   obtain ⟨h1,h2,_⟩:=m8 h ws hw
   exact DF h1 λx hx=>(h2 x hx).1
theorem eX.short {M:aI}{names:List Str}(h:eX M names) (l1:M.switches.length<=12) (l2:M.keepers.length<=16) (l3:M.aE.length<=60) (l4:M.nexts.length<=16) (l5:M.nevers.length<=4) (l6:M.somes.length<=4):Short M:=by
 have hN:∀z,aW z->z.length<=9:=λz hz=>Nat.le_trans hz.len (by decide)
 have dz:∀z,z∈M.switches++M.keepers.map (·.1)++M.aE.map (·.1)->aW z:=λz hz=>h.nm z (by rw [h.all]; exact hz)
 refine ⟨λn hn=>hN _ (dz _ (List.mem_append_left _ (List.mem_append_left _ hn))),λr hr=>⟨hN _ (dz _ (List.mem_append_left _ (List.mem_append_right _ (List.mem_map.mpr ⟨r,hr,rfl⟩)))),h.first r hr⟩,λr hr=>?_,
  λr hr=>⟨hN _ (dz _ (List.mem_append_left _ (List.mem_append_right _ (h.nxk r hr)))),((h.nxl r hr).bw h.nm).len.2⟩,λr hr=>⟨hN _ (h.nvw.nm r hr),((h.nvw.lit r hr).bw h.nm).len.2⟩,λr hr=>⟨hN _ (h.smw.nm r hr),((h.smw.lit r hr).bw h.nm).len.2⟩,by omega,by omega,by omega,by omega,by omega,by omega⟩
 obtain ⟨i,hi,rfl⟩:=List.getElem_of_mem hr
 obtain ⟨g1,g2⟩:=h.gl i _ (List.getElem?_eq_getElem hi)
 have jw:∀x∈M.switches++M.keepers.map (·.1)++(M.aE.take i).map (·.1),aW x:=λx hx=>dz x (by
  rcases List.mem_append.mp hx with hx | hx
  . exact List.mem_append_left _ hx
  . obtain ⟨r,hr,e⟩:=List.mem_map.mp hx
    exact List.mem_append_right _ (List.mem_map.mpr ⟨r,List.mem_of_mem_take hr,e⟩))
 exact ⟨hN _ (dz _ (List.mem_append_right _ (List.mem_map.mpr ⟨_,hr,rfl⟩))),(g1.bw jw).len.2,(g2.bw jw).len.2⟩
end Gen
namespace Gen
open PySem L2
def cm (vv:List (Str×Int)):List (Key×V):=vv.map λr=>((.inr r.1:Key),V.int r.2)
def jq (vv:List (Str×Int)) (n:Str):Int:=((vv.find? λr=>decide (r.1=n)).map (·.2)).getD 0
theorem Q5 (vv:List (Str×Int)):cm vv=dQ (vv.map λr=>(r.1,V.int r.2)):=by unfold cm dQ; rw [List.map_map]; rfl
theorem HR {n:Str}{l:List (Str×Int)}(h:n∉l.map (·.1)):bf (cm l) (.inr n)=none:=by
 have:=md n (l.map λr=>(r.1,V.int r.2))
 rw [← Q5,List.map_map,decide_eq_false (by simpa using h)] at this
 cases e:bf (cm l) (.inr n) with
 | none=>rfl
 | some v=>rw [e] at this; cases this
theorem Aq {n:Str} : ∀{l:List (Str×Int)},n∈l.map (·.1)->bf (cm l) (.inr n)=some (.int (jq l n))
 | [],h=>by cases h
 | r::l,h=>by
  by_cases e:r.1=n
  . have h1:bf (cm (r::l)) (.inr n)=some (.int r.2):=fZ (p:=((.inr r.1:Key),V.int r.2)) (by rw [e])
    rw [h1]
    unfold jq
    rw [List.find?_cons_of_pos (by simpa using e)]
    rfl
  . have h1:bf (cm (r::l)) (.inr n)=bf (cm l) (.inr n):=gU (p:=((.inr r.1:Key),V.int r.2)) (λq=>e (Sum.inr.inj q))
    rw [h1,Aq (l:=l) (by
     rw [List.map_cons,List.mem_cons] at h
     rcases h with h | h
     . exact absurd h.symm e
     . exact h)]
    unfold jq
    rw [List.find?_cons_of_neg (by simpa using e)]
def d9 (vv:List (Str×Int)) (l:Str):Int:=if l = "0" then 0 else if l = "1" then 1 else if l.cps.toList[0]?=some 126 then 1-jq vv ⟨l.cps.toList.tail.toArray⟩ else jq vv l
def oT (vv:List (Str×Int)) (l:Str):Prop:=l = "0" \/ l = "1" \/ (aW l/\l∈vv.map (·.1))\/∃x,aW x/\x∈vv.map (·.1)/\l = "~" ++ x
theorem FJ (vv:List (Str×Int)):d9 vv "0" = 0:=by rw [d9,if_pos rfl]
theorem FK (vv:List (Str×Int)):d9 vv "1" = 1:=by rw [d9,if_neg (by decide +kernel),if_pos rfl]
theorem wd {z:Str}(h:aW z):z ≠ "0" /\ z ≠ "1" /\ ¬ z.cps.toList[0]?=some 126:=by
 have hl:∀c,z.cps.toList[0]?=some c->97<=c:=λc e=>(jQ.mp (h.2.2 c (List.mem_of_getElem? e))).1
 refine ⟨λe=>?_,λe=>?_,oR h⟩
 . have:=hl 48 (by rw [e]; decide +kernel)
   omega
 . have:=hl 49 (by rw [e]; decide +kernel)
   omega
theorem tM (x:Str):("~" : Str)++x ≠ "0" /\ ("~" : Str)++x ≠ "1":=by
 have hl:=eY x
 refine ⟨λe=>?_,λe=>?_⟩
 . rw [e] at hl
   have:(("0" : Str).cps.toList)[0]?=some 48:=by decide +kernel
   rw [hl] at this
   exact absurd this (by simp)
 . rw [e] at hl
   have:(("1" : Str).cps.toList)[0]?=some 49:=by decide +kernel
   rw [hl] at this
   exact absurd this (by simp)
theorem xW {vv:List (Str×Int)}{z:Str}(h:aW z):d9 vv z=jq vv z:=by
 obtain ⟨a,b,c⟩:=wd h
 rw [d9,if_neg a,if_neg b,if_neg c]
theorem vm {vv:List (Str×Int)}{x:Str} : d9 vv ("~" ++ x)=1-jq vv x:=by
 obtain ⟨a,b⟩:=tM x
 rw [d9,if_neg a,if_neg b,eY,if_pos (show (126::x.cps.toList)[0]?=some 126 from rfl)]
 rw [show (⟨(126::x.cps.toList).tail.toArray⟩:Str)=x from (ja x).symm]
def tO (vv:List (Str×Int)):Prop:=∀r∈vv,r.2=0\/r.2=1
theorem xX {vv:List (Str×Int)}(h:tO vv) (n:Str):jq vv n=0\/jq vv n=1:=by
 unfold jq
 cases e:vv.find? λr=>decide (r.1=n) with
 | none=>exact .inl rfl
 | some r=>exact h r (List.mem_of_find?_eq_some e)
theorem jK {vv:List (Str×Int)}(h:tO vv) (l:Str):d9 vv l=0\/d9 vv l=1:=by
 unfold d9
 split
 . exact .inl rfl
 . split
   . exact .inr rfl
   . split
     . rcases xX h ⟨l.cps.toList.tail.toArray⟩ with e | e <;> rw [e]
       . exact .inr rfl
       . exact .inl rfl
     . exact xX h l
def mf (acc:List (Str×Int)) (g:Str×Str×Str):List (Str×Int):=acc++[(g.1,d9 acc g.2.1*d9 acc g.2.2)]
def DH (M:aI) (bs cs:List Int):List (Str×Int):=M.switches.zip bs++(M.keepers.map (·.1)).zip cs
def df (M:aI) (bs cs:List Int) (i:Nat):List (Str×Int):=(M.aE.take i).foldl mf (DH M bs cs)
theorem xY:∀(gs:List (Str×Str×Str)) (acc:List (Str×Int)),(gs.foldl mf acc).map (·.1)=acc.map (·.1)++gs.map (·.1)
 | [],acc=>by simp
 | g::gs,acc=>by
  rw [List.foldl_cons,xY gs,mf,List.map_append,List.map_cons,List.append_assoc]
  rfl
theorem fg {α β:Type} : ∀{l:List α}{r:List β},l.length=r.length->(l.zip r).map (·.1)=l
 | [],[],_=>rfl
 | x::l,y::r,h=>by
  rw [List.zip_cons_cons,List.map_cons,fg (by simpa using h)]
theorem kg {M:aI}{bs cs:List Int}(h1:M.switches.length=bs.length) (h2:M.keepers.length=cs.length) (i:Nat):(df M bs cs i).map (·.1)=M.switches++M.keepers.map (·.1)++(M.aE.take i).map (·.1):=by
 unfold df DH
 rw [xY,List.map_append,fg h1,fg (by rw [List.length_map]; exact h2)]
theorem xZ {M:aI}{bs cs:List Int}{i:Nat}(hi:i<M.aE.length):df M bs cs (i+1)=mf (df M bs cs i) M.aE[i]:=by
 unfold df
 rw [List.take_succ,List.getElem?_eq_getElem hi,List.foldl_append]
 rfl
theorem Ar {l:List Str}{bs:List Int}(h:∀b∈bs,b=0\/b=1):tO (l.zip bs):=λr hr=>h r.2 (List.of_mem_zip hr).2
theorem mz {M:aI}{bs cs:List Int}(h1:∀b∈bs,b=0\/b=1) (h2:∀b∈cs,b=0\/b=1) (i:Nat):tO (df M bs cs i):=by
 have base:tO (DH M bs cs):=λr hr=>by
  rcases List.mem_append.mp hr with hr | hr
  . exact Ar h1 r hr
  . exact Ar h2 r hr
 have all:∀(gs:List (Str×Str×Str)) (acc:List (Str×Int)),tO acc->tO (gs.foldl mf acc):=by
  intro gs
  induction gs with
  | nil=>intro acc h; exact h
  | cons g gs ih=>
   intro acc h
   refine ih _ λr hr=>?_
   rcases List.mem_append.mp hr with hr | hr
   . exact h r hr
   . rw [List.mem_singleton.mp hr]
     show d9 acc g.2.1*d9 acc g.2.2=0\/d9 acc g.2.1*d9 acc g.2.2=1
     rcases jK h g.2.1 with e | e <;> rcases jK h g.2.2 with e' | e' <;> rw [e,e'] <;> simp
 exact all _ _ base
theorem nZ {acc:List (Str×Int)}{n:Str}{v:Int}(h:n∉acc.map (·.1)):putK (cm acc) (.inr n) (.int v)=cm (acc++[(n,v)]):=by
 rw [jz _ (HR h)]
 unfold cm
 rw [List.map_append]
 rfl
theorem mE:∀(l acc:List (Str×Int)),((acc++l).map (·.1)).Nodup->c8 (cm acc) (cm l)=cm (acc++l)
 | [],acc,_=>by rw [List.append_nil]; rfl
 | r::l,acc,h=>by
  have e:acc++r::l=(acc++[r])++l:=by simp
  have hn:r.1∉acc.map (·.1):=λhm=>by
   rw [List.map_append] at h
   exact (List.nodup_append.mp h).2.2 _ hm _ (by simp) rfl
  show c8 (putK (cm acc) (.inr r.1) (.int r.2)) (cm l)=_
  rw [nZ hn,e]
  exact mE l (acc++[r]) (by rw [← e]; exact h)
theorem we:∀(l:List Str) (bs:List Int),(l.map (Sum.inr:Str->Key)).zip (bs.map V.int)=cm (l.zip bs)
 | [],_=>rfl
 | _::_,[]=>rfl
 | x::l,y::r=>by
  rw [List.map_cons,List.map_cons,List.zip_cons_cons,List.zip_cons_cons,we l r]
  rfl
theorem Lit.B8 {names:List Str}{z:Str}{vv:List (Str×Int)}(h:Lit names z) (hn:∀x∈names,aW x) (hs:∀x∈names,x∈vv.map (·.1)):oT vv z:=by
 rcases h with h | h | ⟨x,hx,h | h⟩
 . exact .inl h
 . exact .inr (.inl h)
 . exact .inr (.inr (.inl ⟨h ▸ hn x hx,h ▸ hs x hx⟩))
 . exact .inr (.inr (.inr ⟨x,hn x hx,hs x hx,h⟩))
theorem oT.len {vv:List (Str×Int)}{z:Str}(h:oT vv z):1<=z.length/\z.length<=9:=by
 have hf:iW z:=by
  rcases h with h | h | ⟨h,_⟩ | ⟨x,h,_,e⟩
  . exact .inl h
  . exact .inr (.inl h)
  . exact .inr (.inr (.inl h))
  . exact .inr (.inr (.inr ⟨x,h,e⟩))
 exact hf.len
end Gen
namespace Gen
open PySem L2
abbrev jL:Stmt:=top 33
abbrev wg:Stmt:=top 53
inductive B9 (vs:List V) (H:Hp) (Q:VK):Prop
 | mk (d:Addr) (vv:List (Str×Int)) (l:Str) (h1:vs=[.ref d,.str l]) (h2:Rd H d (.dK (cm vv))) (h3:oT vv l) (h4:∀H',ai H H'->Q (.int (d9 vv l)) H'):B9 vs H Q
def iJ:Sp:=λvs H Q _=>B9 vs H Q
theorem oU {H:Hp}{d:Addr}{vv:List (Str×Int)}{n:Str}(h:Rd H d (.dK (cm vv))) (hn:n∈vv.map (·.1)):bH H d (.str n) (some (.int (jq vv n))):=.inl ⟨cm vv,.inr n,h,rfl,(Aq hn).symm⟩
section
variable {P:Program}{w:World}{K:W.Frag}{mg:Str->Option Value}{base:Heap}
theorem FO:aO ["values", "literal"] ["values", "literal"] (ao jL):=⟨rfl,rfl,rfl,by decide +kernel,rfl,by decide +kernel,by decide +kernel⟩
theorem A8 {f:Addr}{fd:FuncData}(F:bJ K "value_of" "value_of" jL f fd):av P w K mg base az 1 f fd ["values", "literal"] iJ:=by
 refine F.ok FO (λvs H Q E h=>?_) (λcdv A outer s H vs Q E hr h=>?_)
 . obtain ⟨d,vv,l,rfl,_⟩:=h
   rfl
 . obtain ⟨d,vv,l,rfl,hd,hl,kk⟩:=h
   have hu:=cM hr
   have zQ:l.length<=sizeLine:=Nat.le_trans hl.len.2 (by decide)
   have k0:=kk H λ_ _ h=>h
   refine ⟨_,aj (bh (aL cU (pv 1) ay (aS _)) (au (aB ar)) aT)
    (aj (bh (aL cU (pv 1) ay (aS _)) (au (aB ar)) aT)
    (aj (bh (jU (cV PySem.F.plainAttrs_str PySem.F.slot_str_startswith PySem.F.type_str_startswith wV (pv 1) (aa ay ah))) (au (aB (aM uh ar (bz hu (pv 0) (eh vI (pv 1) (eO ar) gq) (λ_ _=>rfl))))) aT)
    (au (aB (bz hu (pv 0) (pv 1) (λ_ _=>rfl)))))),?_⟩
   have tl:("~" : Str)=⟨#[126]⟩:=by decide +kernel
   rcases hl with rfl | rfl | ⟨hn,hm⟩ | ⟨x,hn,hm,rfl⟩
   . rw [FJ] at k0
     exact ⟨_,rfl,rfl,_,rfl,nU k0⟩
   . rw [FK] at k0
     exact ⟨_,rfl,rfl,_,rfl,d6 (by decide +kernel) ⟨_,rfl,rfl,_,rfl,nU k0⟩⟩
   . obtain ⟨n0,n1,n2⟩:=wd hn
     rw [xW hn] at k0
     refine ⟨_,rfl,rfl,_,rfl,d6 n0 ⟨_,rfl,rfl,_,rfl,d6 n1 ⟨_,rfl,rfl,l, "~",rfl,rfl,_,rfl,?_⟩⟩⟩
     rw [tl,oE,decide_eq_false n2]
     refine cu ?_
     exact ⟨_,rfl,_,rfl,d,_,rfl,oU hd hm,k0⟩
   . obtain ⟨n0,n1⟩:=tM x
     rw [vm] at k0
     refine ⟨_,rfl,rfl,_,rfl,d6 n0 ⟨_,rfl,rfl,_,rfl,d6 n1 ⟨_,rfl,rfl,_, "~",rfl,rfl,_,rfl,?_⟩⟩⟩
     have e0:(("~" : Str)++x).cps.toList[0]?=some 126:=by rw [eY]; rfl
     rw [tl,oE,← tl,decide_eq_true e0]
     refine gv ?_
     refine ⟨_,rfl,_,rfl,_,rfl,_,1,rfl,rfl,rfl,zQ,?_⟩
     have ts:Txt.slice (("~" : Str)++x) (some 1) none=x:=by
      rw [ja (Txt.slice (("~" : Str)++x) (some 1) none),oF,eY]
      exact (ja x).symm
     rw [ts]
     exact ⟨d,_,rfl,oU hd hm,_,_,rfl,rfl,k0⟩
theorem Q6:aO ["_law_values_here", "_law_literal_here"] ["_law_values_here", "_law_literal_here"] (ao wg):=⟨rfl,rfl,rfl,by decide +kernel,rfl,by decide +kernel,by decide +kernel⟩
theorem Ob {f:Addr}{fd:FuncData}(F:bJ K "_law_bit" "_law_bit" wg f fd) (O:eB mg):av P w K mg base az 1 f fd ["_law_values_here", "_law_literal_here"] iJ:=by
 refine F.ok Q6 (λvs H Q E h=>?_) (λcdv A outer s H vs Q E hr h=>?_)
 . obtain ⟨d,vv,l,rfl,_⟩:=h
   rfl
 . obtain ⟨d,vv,l,rfl,hd,hl,kk⟩:=h
   have hu:=cM hr
   have zQ:l.length<=sizeLine:=Nat.le_trans hl.len.2 (by decide)
   refine ⟨_,aj (bh (aL iZ (pv 1) (dm (aa ay (aa ay ah))) (by with_unfolding_all rfl)) (au (aB (c6 zo (by rfl) O.int PyProof.Rows.boot_int (aa (pv 1) ah)))) aT)
    (aj (bh (aL cU (aY uw (pv 1) ar (λ_ _=>rfl)) ay (aS _)) (au (aB (aM uh ar (bz hu (pv 0) (eh vI (pv 1) (eO ar) gq) (λ_ _=>rfl))))) aT)
    (au (aB (bz hu (pv 0) (pv 1) (λ_ _=>rfl))))),?_⟩
   refine ⟨_,rfl,(by show 2<=sizeLine; decide),λt ht=>?_⟩
   have st:ai H (upd H t (.tup [.str "0",.str "1"])):=ai.aq ht
   have hd':Rd (upd H t (.tup [.str "0",.str "1"])) d (.dK (cm vv)):=by
    rcases hd with hd | ⟨o,hd⟩
    . exact .inl (st _ _ hd)
    . exact .inr ⟨o,st _ _ hd⟩
   have k0:=kk _ st
   refine ⟨t,_,rfl,.inr (aV.of ae),rfl,rfl,_,rfl,?_⟩
   show if kQ (.str l) [.str "0",.str "1"]=true then _ else _
   have Oc:l ≠ "0" -> l ≠ "1" -> kQ (.str l) [.str "0",.str "1"]=false:=λa b=>by
    have:=qW l ["0", "1"]
    rw [show kQ (V.str l) [.str "0",.str "1"]=decide (l∈(["0", "1"]:List Str)) from this]
    exact decide_eq_false (by simp [a,b])
   have tl:("~" : Str)=⟨#[126]⟩:=by decide +kernel
   rcases hl with rfl | rfl | ⟨hn,hm⟩ | ⟨x,hn,hm,rfl⟩
   . rw [FJ] at k0
     rw [show kQ (V.str "0") [.str "0",.str "1"]=true from by decide +kernel]
     exact gv ⟨_,rfl, "0",0,rfl,by decide +kernel,by decide +kernel,k0⟩
   . rw [FK] at k0
     rw [show kQ (V.str "1") [.str "0",.str "1"]=true from by decide +kernel]
     exact gv ⟨_,rfl, "1",1,rfl,by decide +kernel,by decide +kernel,k0⟩
   . obtain ⟨n0,n1,n2⟩:=wd hn
     rw [xW hn] at k0
     rw [Oc n0 n1]
     refine cu ?_
     obtain ⟨c,hc⟩:∃c,l.cps.toList[0]?=some c:=⟨_,List.getElem?_eq_getElem (by have:=hn.1; omega)⟩
     have Q7:c≠126:=λe=>n2 (by rw [hc,e])
     refine ⟨_,rfl,l,0,c,rfl,rfl,zQ,c9 (j:=0) hc,rfl,_,rfl,d6 (λq=>Q7 (by
      rw [tl] at q
      have e2:=congrArg (λs:Str=>s.cps.toList) q
      simpa using e2)) ?_⟩
     exact ⟨_,rfl,_,rfl,d,_,rfl,oU hd' hm,k0⟩
   . obtain ⟨n0,n1⟩:=tM x
     rw [vm] at k0
     rw [Oc n0 n1]
     refine cu ?_
     have e0:(("~" : Str)++x).cps.toList[0]?=some 126:=by rw [eY]; rfl
     refine ⟨_,rfl,_,0,126,rfl,rfl,zQ,c9 (j:=0) e0,rfl,_,rfl,?_⟩
     rw [show (⟨#[126]⟩:Str) = "~" from tl.symm]
     refine nU ?_
     refine ⟨_,rfl,_,rfl,_,rfl,_,1,rfl,rfl,rfl,zQ,?_⟩
     have ts:Txt.slice (("~" : Str)++x) (some 1) none=x:=by
      rw [ja (Txt.slice (("~" : Str)++x) (some 1) none),oF,eY]
      exact (ja x).symm
     rw [ts]
     exact ⟨d,_,rfl,oU hd' hm,_,_,rfl,rfl,k0⟩
end
end Gen
namespace Gen
open PySem L2
abbrev jd:Stmt:=top 32
structure je (M:aI) (names:List Str) (bs cs:List Int):Prop where
 ok:eX M names
 l1:M.switches.length=bs.length
 l2:M.keepers.length=cs.length
 b1:∀b∈bs,b=0\/b=1
 b2:∀b∈cs,b=0\/b=1
 n1:M.switches.length<=12
 n2:M.keepers.length<=16
 n3:M.aE.length<=60
section
variable {M:aI}{names:List Str}{bs cs:List Int}
theorem je.nd (h:je M names bs cs):(M.switches++M.keepers.map (·.1)++M.aE.map (·.1)).Nodup:=by have:=h.ok.nd; rw [h.ok.all] at this; exact this
theorem je.nm (h:je M names bs cs):∀z∈M.switches++M.keepers.map (·.1)++M.aE.map (·.1),aW z:=λz hz=>h.ok.nm z (by rw [h.ok.all]; exact hz)
theorem je.len (h:je M names bs cs) (i:Nat):(df M bs cs i).length<=88:=by
 have:=congrArg List.length (kg h.l1 h.l2 i)
 simp only [List.length_map,List.length_append,List.length_take] at this
 have:=h.n1
 have:=h.n2
 have:=h.n3
 omega
theorem je.gate (h:je M names bs cs){i:Nat}(hi:i<M.aE.length):M.aE[i].1∉(df M bs cs i).map (·.1)/\oT (df M bs cs i) M.aE[i].2.1/\oT (df M bs cs i) M.aE[i].2.2:=by
 rw [kg h.l1 h.l2]
 have jw:∀x∈M.switches++M.keepers.map (·.1)++(M.aE.take i).map (·.1),aW x:=λx hx=>h.nm x (by
  rcases List.mem_append.mp hx with hx | hx
  . exact List.mem_append_left _ hx
  . obtain ⟨r,hr,e⟩:=List.mem_map.mp hx
    exact List.mem_append_right _ (List.mem_map.mpr ⟨r,List.mem_of_mem_take hr,e⟩))
 obtain ⟨g1,g2⟩:=h.ok.gl i _ (List.getElem?_eq_getElem hi)
 refine ⟨?_,g1.B8 jw λx hx=>by rw [kg h.l1 h.l2]; exact hx,g2.B8 jw λx hx=>by rw [kg h.l1 h.l2]; exact hx⟩
 have:=jJ (l:=M.aE.map (·.1)) (pre:=M.switches++M.keepers.map (·.1)) (post:=[]) (by simpa using h.nd) (i:=i) (by rw [List.length_map]; exact hi)
 rw [List.getElem_map,← List.map_take] at this
 exact this
end
structure RZ (C:Addr) (H:Hp) (x dx g1 g2 g3 g4 g5 g6:Addr) (o2:Obj) (ts:List Addr) (M:aI):Prop where
 hx:H x=some (.ins C dx (iB g1 g2 g3 g4 g5 g6))
 h1:H g1=some (.lst (M.switches.map V.str))
 h2:H g2=some (.fO o2 (.dK (dQ M.keepers)))
 h3:H g3=some (.lst (ts.map V.ref))
 hp:Paired (λt r=>H t=some (.tup (kG r))) ts M.aE
 h4:H g4=some (.dK (cb M.nexts))
 h5:H g5=some (.dK (cb M.nevers))
 h6:H g6=some (.dK (cb M.somes))
theorem RZ.same {C:Addr}{H H':Hp}{x dx g1 g2 g3 g4 g5 g6:Addr}{o2:Obj}{ts:List Addr}{M:aI}(h:RZ C H x dx g1 g2 g3 g4 g5 g6 o2 ts M) (s:ai H H'):RZ C H' x dx g1 g2 g3 g4 g5 g6 o2 ts M:=
 ⟨s _ _ h.hx,s _ _ h.h1,s _ _ h.h2,s _ _ h.h3,Paired.bE h.hp λt r e=>s _ _ e,s _ _ h.h4,s _ _ h.h5,s _ _ h.h6⟩
theorem RM.fO {C:Addr}{H:Hp}{x dx g1 g2 g3 g4 g5 g6:Addr}{ts:List Addr}{M:aI}(h:RM C H x dx g1 g2 g3 g4 g5 g6 ts M) (o:Obj):RZ C (upd H g2 (.fO o (.dK (dQ M.keepers)))) x dx g1 g2 g3 g4 g5 g6 o ts M:=by
 have nd:=h.nd
 simp only [List.nodup_cons,List.mem_cons,List.not_mem_nil,or_false,not_or] at nd
 obtain ⟨⟨Od,_⟩,⟨n23,n24,n25,n26⟩,_⟩:=nd
 have up:∀b u,H b=some u->b≠g2->(upd H g2 (.fO o (.dK (dQ M.keepers)))) b=some u:=λb u hb hn=>by rw [ag hn]; exact hb
 exact ⟨up _ _ h.hx (bg h.hx h.h2 (by intro z; cases z)),up _ _ h.h1 Od,ae,up _ _ h.h3 (Ne.symm n23),Paired.bE h.hp λt r e=>up _ _ e (bg e h.h2 (by intro z; cases z)),up _ _ h.h4 (Ne.symm n24),up _ _ h.h5 (Ne.symm n25),up _ _ h.h6 (Ne.symm n26)⟩
def bY (K:W.Frag) (H:Hp) (t:Addr) (bs:List Int):Prop:=aV K H t (bs.map V.int)
theorem bY.same {K:W.Frag}{H H':Hp}{t:Addr}{bs:List Int}(h:bY K H t bs) (s:ai H H'):bY K H' t bs:=ai.dX s h
theorem aV.keep {K:W.Frag}{H H':Hp}{u:Addr}{xs:List V}(h:aV K H u xs) (k:∀o,(∀kvs,o≠.dK kvs)->(∀l,o≠.lst l)->H u=some o->H' u=some o):aV K H' u xs:=by
 rcases h with (h | ⟨o,h⟩) | h
 . exact .inl (.inl (k _ (by intro _ z; cases z) (by intro _ z; cases z) h))
 . exact .inl (.inr ⟨o,k _ (by intro _ z; cases z) (by intro _ z; cases z) h⟩)
 . exact .inr h
inductive sg (C:Addr) (K:W.Frag) (vs:List V) (H:Hp) (Q:VK):Prop
 | mk (x dx g1 g2 g3 g4 g5 g6 st tl:Addr) (o2:Obj) (ts:List Addr) (M:aI) (names:List Str) (bs cs:List Int) (h1:vs=[.ref x,.ref st,.ref tl]) (h2:RZ C H x dx g1 g2 g3 g4 g5 g6 o2 ts M) (h3:je M names bs cs) (h4:bY K H st cs) (h5:bY K H tl bs) (h6:∀d H',H d=none->ai H H'->H' d=some (.dK (cm (df M bs cs M.aE.length)))->Q (.ref d) H'):sg C K vs H Q
def lu (C:Addr) (K:W.Frag):Sp:=λvs H Q _=>sg C K vs H Q
abbrev nVA:List Str:=["machine", "stand", "told", "values", "name", "one", "other"]
section
variable {P:Program}{w:World}{K:W.Frag}{mg:Str->Option Value}{base:Heap}
theorem As:aO nVA ["machine", "stand", "told"] (ao jd):=⟨rfl,rfl,rfl,by decide +kernel,rfl,by decide +kernel,by decide +kernel⟩
theorem Au {f fV C:Addr}{fd dV:FuncData}(F:bJ K "values_at" "values_at" jd f fd) (T:kI K mg C) (O:eB mg) (GV:av P w K mg base az 1 fV dV ["values", "literal"] iJ) (mV:mg "value_of" = some (.ref fV)) (kV':W.keepIn K (.ref fV)=true) (bV:Binds K dV ["values", "literal"] []):av P w K mg base az 2 f fd ["machine", "stand", "told"] (lu C K):=by
 refine F.ok As (λvs H Q E h=>?_) (λcdv A outer s H vs Q E hr h=>?_)
 . obtain ⟨x,dx,g1,g2,g3,g4,g5,g6,st,tl,o2,ts,M,names,bs,cs,rfl,_⟩:=h
   rfl
 . obtain ⟨x,dx,g1,g2,g3,g4,g5,g6,st,tl,o2,ts,M,names,bs,cs,rfl,hM,hf,hst,kZ,kk⟩:=h
   have hu:=cM hr
   have cc:aX 1 _:=hr
   refine ⟨_,aj (aK (i:=3) As.nd rfl (Or.inl rfl) (BF (by rfl) O.dict (by rfl) O.zip rfl (aa (b9 (pv 0) rfl) (aa (pv 2) ah))))
    (aj (cZ (cV PySem.F.plainAttrs_dict PySem.F.slot_dict_update PySem.F.type_dict_update EX (pv 3) (aa (BF (by rfl) O.dict (by rfl) O.zip rfl (aa (b9 (pv 0) rfl) (aa (pv 1) ah))) ah)))
    (aj (dk PassesOwn.never rfl (bO (b9 (pv 0) rfl)) (cJ rfl (aJ (ax (i:=4) As.nd rfl (Or.inl rfl)) (aJ (ax (i:=5) As.nd rfl (Or.inl rfl)) (aJ (ax (i:=6) As.nd rfl (Or.inl rfl)) b8))))
     (au (ft hu (pv 3) (pv 4) (aM iD (aw GV cc rfl mV kV' bV .nil aA (aa (pv 3) (aa (pv 5) ah))) (aw GV cc rfl mV kV' bV .nil aA (aa (pv 3) (aa (pv 6) ah)))) rfl)))
    (au (aB (pv 3))))),?_⟩
   have l1:=hf.l1
   have l2:=hf.l2
   have n1:=hf.n1
   have n2:=hf.n2
   have n3:=hf.n3
   refine ⟨_,rfl,x,C,dx,_,.ref g1,rfl,hM.hx,T.cl,T.n1,u6 ..,_,rfl,g1,tl,M.switches.map Sum.inr,bs.map V.int,rfl,.inl (ak.of (by rw [hM.h1,List.map_map]; rfl)),kZ,(by simp only [List.length_map]; omega),λd hd=>?_⟩
   rw [we,show c8 [] (cm (M.switches.zip bs))=cm (M.switches.zip bs) from mE _ [] (by
    rw [List.nil_append,fg l1]
    exact (List.nodup_append.mp (List.nodup_append.mp hf.nd).1).1)]
   have s1:ai H (upd H d (.dK (cm (M.switches.zip bs)))):=ai.aq hd
   have q1:(upd H d (.dK (cm (M.switches.zip bs)))) d=some (.dK (cm (M.switches.zip bs))):=ae
   generalize upd H d (.dK (cm (M.switches.zip bs)))=H1 at s1 q1 ⊢
   have pG:=hM.same s1
   refine ⟨_,rfl,.inr (.inr (.inl ⟨rfl,.inl ⟨_,q1⟩⟩)),_,rfl,x,C,dx,_,.ref g2,rfl,pG.hx,T.cl,T.n2,lY ..,_,rfl,g2,st,(M.keepers.map (·.1)).map Sum.inr,cs.map V.int,rfl,.inr ⟨_,.inr ⟨_,pG.h2⟩,by unfold dQ; simp only [List.map_map]; rfl⟩,ai.dX s1 hst,(by simp only [List.length_map]; omega),λd2 hd2=>?_⟩
   rw [we,show c8 [] (cm ((M.keepers.map (·.1)).zip cs))=cm ((M.keepers.map (·.1)).zip cs) from mE _ [] (by
    rw [List.nil_append,fg (by rw [List.length_map]; exact l2)]
    exact (List.nodup_append.mp (List.nodup_append.mp hf.nd).1).2.1)]
   have Od:d≠d2:=af q1 hd2
   have s2:ai H1 (upd H1 d2 (.dK (cm ((M.keepers.map (·.1)).zip cs)))):=ai.aq hd2
   have q2:(upd H1 d2 (.dK (cm ((M.keepers.map (·.1)).zip cs)))) d2=some (.dK (cm ((M.keepers.map (·.1)).zip cs))):=ae
   generalize upd H1 d2 (.dK (cm ((M.keepers.map (·.1)).zip cs)))=H2 at s2 q2 ⊢
   refine ⟨d,d2,_,_,rfl,rfl,s2 _ _ q1,.inl q2,Od,?_,?_⟩
   . unfold cm
     simp only [List.length_map,List.length_zip]
     exact iG (by omega)
   rw [mE _ _ (by rw [List.map_append,fg l1,fg (by rw [List.length_map]; exact l2)]; exact (List.nodup_append.mp hf.nd).1)]
   have kp:∀b o,H b=some o->b≠d:=λb o hb=>af hb hd
   have sf:ai H (upd H2 d (.dK (cm (M.switches.zip bs++(M.keepers.map (·.1)).zip cs)))):=λb o hb=>by
    rw [ag (kp b o hb)]
    exact s2 _ _ (s1 _ _ hb)
   have q3:(upd H2 d (.dK (cm (M.switches.zip bs++(M.keepers.map (·.1)).zip cs)))) d=some (.dK (cm (df M bs cs 0))):=ae
   generalize upd H2 d (.dK (cm (M.switches.zip bs++(M.keepers.map (·.1)).zip cs)))=H3 at sf q3 ⊢
   have nW:=hM.same sf
   refine ⟨_,rfl,x,C,dx,_,.ref g3,rfl,nW.hx,T.cl,T.n3,u7 ..,g3,rfl,⟨_,ak.of nW.h3⟩,gQ (K:=K) (a:=g3) (xs:=ts.map V.ref) (λi σ H4=>∃v4 v5 v6,σ=[some (.ref x),some (.ref st),some (.ref tl),some (.ref d),v4,v5,v6]/\H4 d=some (.dK (cm (df M bs cs i)))/\ai H H4) ?_ ?_ ?_ ?_⟩
   . exact ⟨none,none,none,rfl,q3,sf⟩
   . rintro i σ H4 _ ⟨_,_,_,_,_,s4⟩
     exact ak.of (s4 _ _ hM.h3)
   . rintro i xv σ H4 hx ⟨v4,v5,v6,rfl,mh,s4⟩
     have lR:i<(ts.map V.ref).length:=(List.getElem?_eq_some_iff.mp hx).1
     have Vr:=hM.hp.length
     rw [List.length_map,Vr] at lR
     obtain ⟨t,ht,hT⟩:=bq hM.hp (i:=i) (List.getElem?_eq_getElem lR)
     have ex:xv=.ref t:=by
      rw [List.getElem?_map,ht] at hx
      exact (Option.some.inj hx).symm
     subst ex
     obtain ⟨ky,cC,cj⟩:=hf.gate lR
     have BE:=mz (M:=M) hf.b1 hf.b2 i
     refine ⟨t,_,rfl,aV.of (s4 _ _ hT),rfl,_,_,rfl,_,_,rfl,_,_,rfl,rfl,?_⟩
     refine ⟨_,rfl,_,rfl,d,_,_,rfl,.inl mh,cC,λH5 s5=>?_⟩
     refine ⟨_,rfl,_,rfl,d,_,_,rfl,.inl (s5 _ _ mh),cj,λH6 s6=>?_⟩
     have FQ:=s6 _ _ (s5 _ _ mh)
     have hlen:=hf.len i
     refine ⟨_,_,rfl,rfl,.inl ?_,?_⟩
     . rcases jK BE M.aE[i].2.1 with e | e <;> rw [e] <;> decide
     refine ⟨_,rfl,_,rfl,d,_,rfl,iS.k (k:=.inr M.aE[i].1) FQ (by unfold cm; rw [List.length_map]; exact small (by omega)),?_⟩
     refine ⟨_,_,_,rfl,?_,λb o hb=>?_⟩
     . rw [ae,nZ ky,xZ lR]
       rfl
     . rw [ag (kp b o hb)]
       exact s6 _ _ (s5 _ _ (s4 _ _ hb))
   . rintro σ H4 ⟨v4,v5,v6,rfl,mh,s4⟩
     rw [List.length_map,hM.hp.length] at mh
     exact ⟨_,rfl,kk d H4 hd s4 mh⟩
end
end Gen
namespace Gen
open PySem L2
abbrev lC:Stmt:=top 52
inductive x3 (K:W.Frag) (vs:List V) (H:Hp) (Q:VK):Prop
 | mk (m a1 a2 a3 a4 a5 a6 st tl:Addr) (M:aI) (names:List Str) (bs cs:List Int) (h1:vs=[.ref m,.ref st,.ref tl]) (h2:cE H m M a1 a2 a3 a4 a5 a6) (h3:je M names bs cs) (h4:bY K H st cs) (h5:bY K H tl bs) (h6:∀d H',H d=none->ai H H'->H' d=some (.dK (cm (df M bs cs M.aE.length)))->Q (.ref d) H'):x3 K vs H Q
def oV (K:W.Frag):Sp:=λvs H Q _=>x3 K vs H Q
abbrev nVs:List Str:=["_law_m", "_law_stand", "_law_told", "_law_values_here", "_law_name", "_law_bit_here", "_law_keeper", "_law_one", "_law_other"]
abbrev mG:List Str:=["_law_m", "_law_stand", "_law_told"]
theorem Av {α β:Type}{l:List α}{r:List β}{i:Nat}(h1:i<l.length) (h2:i<r.length):(l.zip r).take (i+1)=(l.zip r).take i++[(l[i],r[i])]:=by
 rw [List.take_succ,List.getElem?_eq_getElem (by rw [List.length_zip]; omega),List.getElem_zip]
 rfl
section
variable {P:Program}{w:World}{K:W.Frag}{mg:Str->Option Value}{base:Heap}
theorem oW:aO nVs mG (ao lC):=⟨rfl,rfl,rfl,by decide +kernel,rfl,by decide +kernel,by decide +kernel⟩
theorem FR {f fB:Addr}{fd dB:FuncData}(F:bJ K "_law_values" "_law_values" lC f fd) (O:eB mg) (GB:av P w K mg base az 1 fB dB ["_law_values_here", "_law_literal_here"] iJ) (mB:mg "_law_bit" = some (.ref fB)) (kB:W.keepIn K (.ref fB)=true) (bB:Binds K dB ["_law_values_here", "_law_literal_here"] []):av P w K mg base az 2 f fd mG (oV K):=by
 refine F.ok oW (λvs H Q E h=>?_) (λcdv A outer s H vs Q E hr h=>?_)
 . obtain ⟨m,a1,a2,a3,a4,a5,a6,st,tl,M,names,bs,cs,rfl,_⟩:=h
   rfl
 . obtain ⟨m,a1,a2,a3,a4,a5,a6,st,tl,M,names,bs,cs,rfl,hM,hf,hst,kZ,kk⟩:=h
   have hu:=cM hr
   have cc:aX 1 _:=hr
   have l1:=hf.l1
   have l2:=hf.l2
   have n1:=hf.n1
   have n2:=hf.n2
   have n3:=hf.n3
   refine ⟨_,aj (aK (i:=3) oW.nd rfl (Or.inl rfl) lN)
    (aj (dk PassesOwn.never rfl (qR (by rfl) O.zip (aa (bz hu (pv 0) ay (λ_ _=>rfl)) (aa (pv 2) ah))) (cJ rfl (aJ (ax (i:=4) oW.nd rfl (Or.inl rfl)) (aJ (ax (i:=5) oW.nd rfl (Or.inl rfl)) b8)))
     (au (ft hu (pv 3) (pv 4) (pv 5) rfl)))
    (aj (dk PassesOwn.never rfl (qR (by rfl) O.zip (aa (bz hu (pv 0) ay (λ_ _=>rfl)) (aa (pv 1) ah))) (cJ rfl (aJ (ax (i:=6) oW.nd rfl (Or.inl rfl)) (aJ (ax (i:=5) oW.nd rfl (Or.inl rfl)) b8)))
     (au (ft hu (pv 3) (aY jZ (pv 6) ar (λ_ _=>rfl)) (pv 5) rfl)))
    (aj (dk PassesOwn.never rfl (bO (bz hu (pv 0) ay (λ_ _=>rfl))) (cJ rfl (aJ (ax (i:=4) oW.nd rfl (Or.inl rfl)) (aJ (ax (i:=7) oW.nd rfl (Or.inl rfl)) (aJ (ax (i:=8) oW.nd rfl (Or.inl rfl)) b8))))
     (au (ft hu (pv 3) (pv 4) (aM iD (aw GB cc rfl mB kB bB .nil aA (aa (pv 3) (aa (pv 7) ah))) (aw GB cc rfl mB kB bB .nil aA (aa (pv 3) (aa (pv 8) ah)))) rfl)))
    (au (aB (pv 3)))))),?_⟩
   intro d hd
   have kp:∀b o,H b=some o->b≠d:=λb o hb=>af hb hd
   have s1:ai H (upd H d (.dK [])):=ai.aq hd
   have q1:(upd H d (.dK [])) d=some (.dK (cm ((M.switches.zip bs).take 0))):=ae
   generalize upd H d (.dK [])=H1 at s1 q1 ⊢
   have pG:=hM.same s1
   have ndS:M.switches.Nodup:=(List.nodup_append.mp (List.nodup_append.mp hf.nd).1).1
   refine ⟨_,rfl,m,.ref a1,rfl,bH.k (k:=.inr "switches") pG.top,_,rfl,a1,tl,rfl,⟨_,ak.of pG.sw⟩,⟨_,ai.dX s1 kZ⟩,BG (K:=K) (tp:=false) (tq:=true) (a:=a1) (b:=tl) (xs:=M.switches.map V.str) (ys:=bs.map V.int) (by simp only [List.length_map]; omega)
    (λi σ H2=>∃v4 v5,σ=[some (.ref m),some (.ref st),some (.ref tl),some (.ref d),v4,v5,none,none,none]/\H2 d=some (.dK (cm ((M.switches.zip bs).take i)))/\ai H H2) ?_ ?_ ?_ ?_⟩
   . exact ⟨none,none,rfl,q1,s1⟩
   . rintro i σ H2 _ ⟨_,_,_,_,s2⟩
     exact ⟨ak.of (s2 _ _ hM.sw),ai.dX s2 kZ⟩
   . rintro i xv yv Tp σ H2 hx hy hT ⟨v4,v5,rfl,hd2,s2⟩
     have hi:i<M.switches.length:=by
      have:=(List.getElem?_eq_some_iff.mp hx).1
      rwa [List.length_map] at this
     have vn:i<bs.length:=by omega
     have ex:xv=.str M.switches[i]:=by
      rw [List.getElem?_map,List.getElem?_eq_getElem hi] at hx
      exact (Option.some.inj hx).symm
     have ey:yv=.int bs[i]:=by
      rw [List.getElem?_map,List.getElem?_eq_getElem vn] at hy
      exact (Option.some.inj hy).symm
     subst ex ey
     have Oe:d≠Tp:=af hd2 hT
     have De:(upd H2 Tp (.tup [.str M.switches[i],.int bs[i]])) d=some (.dK (cm ((M.switches.zip bs).take i))):=by rw [ag Oe]; exact hd2
     refine ⟨Tp,_,rfl,aV.of ae,rfl,_,_,rfl,_,_,rfl,rfl,?_⟩
     refine ⟨_,rfl,_,rfl,_,rfl,d,_,rfl,iS.k (k:=.inr M.switches[i]) De ?_,?_⟩
     . unfold cm
       rw [List.length_map,List.length_take,List.length_zip]
       exact small (by omega)
     . refine ⟨_,_,rfl,?_,λb o hb=>?_⟩
       . rw [ae,nZ,Av hi vn]
         rw [List.map_take,fg l1]
         have:=jJ (pre:=[]) (post:=[]) (by simpa using ndS) hi
         simpa using this
       . rw [ag (kp b o hb),ag (af (s2 _ _ hb) hT)]
         exact s2 _ _ hb
   rintro σ H2 ⟨v4,v5,rfl,hd2,s2⟩
   rw [List.length_map,List.take_of_length_le (by rw [List.length_zip]; omega)] at hd2
   have k8:=hM.same s2
   obtain ⟨us,Of,eu⟩:=id k8.kp
   have fz:=eu.length
   rw [List.length_map] at fz
   have ndK:=(List.nodup_append.mp hf.nd).1
   refine ⟨_,rfl,m,.ref a2,rfl,bH.k (k:=.inr "keepers") k8.top,_,rfl,a2,st,rfl,⟨_,ak.of Of⟩,⟨_,ai.dX s2 hst⟩,BG (K:=K) (tp:=false) (tq:=true) (a:=a2) (b:=st) (xs:=us.map V.ref) (ys:=cs.map V.int) (by simp only [List.length_map]; omega)
    (λi σ H3=>∃v5 v6,σ=[some (.ref m),some (.ref st),some (.ref tl),some (.ref d),v4,v5,v6,none,none]/\H3 d=some (.dK (cm (M.switches.zip bs++((M.keepers.map (·.1)).zip cs).take i)))/\(∀b o,H2 b=some o->b≠d->H3 b=some o)) ?_ ?_ ?_ ?_⟩
   . exact ⟨v5,none,rfl,by rw [List.take_zero,List.append_nil]; exact hd2,λ_ _ h _=>h⟩
   . rintro i σ H3 _ ⟨_,_,_,_,s3⟩
     refine ⟨ak.of (s3 _ _ Of ?_),aV.keep (ai.dX s2 hst) λo Nc _ ho=>s3 _ _ ho (bg ho hd2 (Nc _))⟩
     exact bg Of hd2 (by intro z; cases z)
   . rintro i xv yv Tp σ H3 hx hy hT ⟨Sj,v6,rfl,Aw,s3⟩
     have hi:i<M.keepers.length:=by
      have:=(List.getElem?_eq_some_iff.mp hx).1
      rw [List.length_map] at this
      omega
     have vn:i<cs.length:=by omega
     obtain ⟨t,ht,rQ⟩:=bq eu (i:=i) (b:=iV M.keepers[i]) (by rw [List.getElem?_map,List.getElem?_eq_getElem hi]; rfl)
     have ex:xv=.ref t:=by
      rw [List.getElem?_map,ht] at hx
      exact (Option.some.inj hx).symm
     have ey:yv=.int cs[i]:=by
      rw [List.getElem?_map,List.getElem?_eq_getElem vn] at hy
      exact (Option.some.inj hy).symm
     subst ex ey
     have Oe:d≠Tp:=af Aw hT
     have Vs:(upd H3 Tp (.tup [.ref t,.int cs[i]])) d=some (.dK (cm (M.switches.zip bs++((M.keepers.map (·.1)).zip cs).take i))):=by rw [ag Oe]; exact Aw
     have htd:t≠d:=bg rQ hd2 (by intro z; cases z)
     have vh:=s3 _ _ rQ htd
     have ntT:t≠Tp:=af vh hT
     refine ⟨Tp,_,rfl,aV.of ae,rfl,_,_,rfl,_,_,rfl,rfl,?_⟩
     refine ⟨_,rfl,_,rfl,_,rfl,t,_,0,.str M.keepers[i].1,rfl,rfl,aV.of (by rw [ag ntT]; exact vh),fE,d,_,rfl,iS.k (k:=.inr M.keepers[i].1) Vs ?_,?_⟩
     . unfold cm
       simp only [List.length_map,List.length_append,List.length_take,List.length_zip]
       exact small (by omega)
     . refine ⟨_,_,rfl,?_,λb o hb Ca=>?_⟩
       . rw [ae,nZ]
         . rw [Av (by rw [List.length_map]; exact hi) vn,List.getElem_map,List.append_assoc]
         . rw [List.map_append,fg l1,List.map_take,fg (by rw [List.length_map]; exact l2)]
           have:=jJ (l:=M.keepers.map (·.1)) (pre:=M.switches) (post:=[]) (by simpa using ndK) (i:=i) (by rw [List.length_map]; exact hi)
           rw [List.getElem_map] at this
           exact this
       . rw [ag Ca,ag (af (s3 _ _ hb Ca) hT)]
         exact s3 _ _ hb Ca
   rintro σ H3 ⟨Sj,v6,rfl,Aw,s3⟩
   rw [List.length_map,fz,List.take_of_length_le (by rw [List.length_zip,List.length_map]; omega)] at Aw
   have sf:ai H H3:=λb o hb=>s3 _ _ (s2 _ _ hb) (kp b o hb)
   have nW:=hM.same sf
   obtain ⟨ts,xV,jc⟩:=id nW.gt
   have gm:=jc.length
   rw [List.length_map] at gm
   refine ⟨_,rfl,m,.ref a3,rfl,bH.k (k:=.inr "gates") nW.top,a3,rfl,⟨_,ak.of xV⟩,gQ (K:=K) (a:=a3) (xs:=ts.map V.ref) (λi σ H4=>∃v4 v7 v8,σ=[some (.ref m),some (.ref st),some (.ref tl),some (.ref d),v4,Sj,v6,v7,v8]/\H4 d=some (.dK (cm (df M bs cs i)))/\(∀b o,H3 b=some o->b≠d->H4 b=some o)) ?_ ?_ ?_ ?_⟩
   . exact ⟨v4,none,none,rfl,Aw,λ_ _ h _=>h⟩
   . rintro i σ H4 _ ⟨_,_,_,_,_,s4⟩
     exact ak.of (s4 _ _ xV (bg xV Aw (by intro z; cases z)))
   . rintro i xv σ H4 hx ⟨v4',v7,v8,rfl,mh,s4⟩
     have lR:i<(ts.map V.ref).length:=(List.getElem?_eq_some_iff.mp hx).1
     rw [List.length_map,gm] at lR
     obtain ⟨t,ht,hT⟩:=bq jc (i:=i) (b:=kG M.aE[i]) (by rw [List.getElem?_map,List.getElem?_eq_getElem lR]; rfl)
     have ex:xv=.ref t:=by
      rw [List.getElem?_map,ht] at hx
      exact (Option.some.inj hx).symm
     subst ex
     obtain ⟨ky,cC,cj⟩:=hf.gate lR
     have BE:=mz (M:=M) hf.b1 hf.b2 i
     refine ⟨t,_,rfl,aV.of (s4 _ _ hT (bg hT Aw (by intro z; cases z))),rfl,_,_,rfl,_,_,rfl,_,_,rfl,rfl,?_⟩
     refine ⟨_,rfl,_,rfl,d,_,_,rfl,.inl mh,cC,λH5 s5=>?_⟩
     refine ⟨_,rfl,_,rfl,d,_,_,rfl,.inl (s5 _ _ mh),cj,λH6 s6=>?_⟩
     have FQ:=s6 _ _ (s5 _ _ mh)
     have hlen:=hf.len i
     refine ⟨_,_,rfl,rfl,.inl ?_,?_⟩
     . rcases jK BE M.aE[i].2.1 with e | e <;> rw [e] <;> decide
     refine ⟨_,rfl,_,rfl,d,_,rfl,iS.k (k:=.inr M.aE[i].1) FQ (by unfold cm; rw [List.length_map]; exact small (by omega)),?_⟩
     refine ⟨_,_,_,rfl,?_,λb o hb Ca=>?_⟩
     . rw [ae,nZ ky,xZ lR]
       rfl
     . rw [ag Ca]
       exact s6 _ _ (s5 _ _ (s4 _ _ hb Ca))
   . rintro σ H4 ⟨v4',v7,v8,rfl,mh,s4⟩
     rw [List.length_map,gm] at mh
     exact ⟨_,rfl,kk d H4 hd (λb o hb=>s4 _ _ (sf _ _ hb) (kp b o hb)) mh⟩
end
end Gen
namespace Gen
open PySem L2
def lx (l:List (Str×Str)) (n:Str):Str:=((l.find? λr=>decide (r.1=n)).map (·.2)).getD n
theorem Ax (n:Str):∀l:List (Str×Str),(bf (cb l) (.inr n)).getD (.str n)=.str (lx l n)
 | []=>rfl
 | r::l=>by
  by_cases e:r.1=n
  . have h1:bf (cb (r::l)) (.inr n)=some (.str r.2):=fZ (p:=((.inr r.1:Key),V.str r.2)) (by rw [e])
    rw [h1,lx,List.find?_cons_of_pos (by simpa using e)]
    rfl
  . have h1:bf (cb (r::l)) (.inr n)=bf (cb l) (.inr n):=gU (p:=((.inr r.1:Key),V.str r.2)) (λq=>e (Sum.inr.inj q))
    rw [h1,Ax n l,lx,lx,List.find?_cons_of_neg (by simpa using e)]
def fo (M:aI) (bs cs:List Int):List Int:=M.keepers.map λr=>d9 (df M bs cs M.aE.length) (lx M.nexts r.1)
section
variable {M:aI}{names:List Str}{bs cs:List Int}
theorem je.keys (h:je M names bs cs):(df M bs cs M.aE.length).map (·.1)=names:=by rw [kg h.l1 h.l2,List.take_length,h.ok.all]
theorem je.next (h:je M names bs cs){r:Str×V}(hr:r∈M.keepers):oT (df M bs cs M.aE.length) (lx M.nexts r.1):=by
 have hk:=h.keys
 unfold lx
 cases e:M.nexts.find? λq=>decide (q.1=r.1) with
 | none=>
  have hm:r.1∈names:=by rw [h.ok.all]; exact List.mem_append_left _ (List.mem_append_right _ (List.mem_map.mpr ⟨r,hr,rfl⟩))
  exact .inr (.inr (.inl ⟨h.ok.nm _ hm,by rw [hk]; exact hm⟩))
 | some q=>exact (h.ok.nxl q (List.mem_of_find?_eq_some e)).B8 h.ok.nm λx hx=>by rw [hk]; exact hx
theorem qB:(fo M bs cs).length=M.keepers.length:=by unfold fo; rw [List.length_map]
theorem je.FU (h:je M names bs cs):∀b∈fo M bs cs,b=0\/b=1:=λb hb=>by
 obtain ⟨r,_,rfl⟩:=List.mem_map.mp hb
 exact jK (mz h.b1 h.b2 _) _
end
def cy (M:aI) (cs:List Int) (bss:List (List Int)):List Int:=bss.foldl (λc b=>fo M b c) cs
def runs (M:aI) (cs:List Int) (bss:List (List Int)) (n:Nat):List (List Int):=(List.range n).map λi=>cy M cs (bss.take i)
theorem oX {M:aI}{cs:List Int}{bss:List (List Int)}{i:Nat}(h:i<bss.length):cy M cs (bss.take (i+1))=fo M bss[i] (cy M cs (bss.take i)):=by
 unfold cy
 rw [List.take_succ,List.getElem?_eq_getElem h,List.foldl_append]
 rfl
theorem mH (M:aI) (cs:List Int) (bss:List (List Int)) (n:Nat):runs M cs bss (n+1)=runs M cs bss n++[cy M cs (bss.take n)]:=by
 unfold runs
 rw [List.range_succ,List.map_append]
 rfl
theorem tP (M:aI) (cs:List Int) (bss:List (List Int)) (n:Nat):(runs M cs bss n).length=n:=by
 unfold runs
 rw [List.length_map,List.length_range]
structure Fm (M:aI) (names:List Str):Prop where
 ok:eX M names
 n1:M.switches.length<=12
 n2:M.keepers.length<=16
 n3:M.aE.length<=60
def bZ (n:Nat) (bs:List Int):Prop:=n=bs.length/\∀b∈bs,b=0\/b=1
theorem Fm.fit {M:aI}{names:List Str}{bs cs:List Int}(h:Fm M names) (hb:bZ M.switches.length bs) (hc:bZ M.keepers.length cs):je M names bs cs:=⟨h.ok,hb.1,hc.1,hb.2,hc.2,h.n1,h.n2,h.n3⟩
theorem Fm.step {M:aI}{names:List Str}{bs cs:List Int}(h:Fm M names) (hb:bZ M.switches.length bs) (hc:bZ M.keepers.length cs):bZ M.keepers.length (fo M bs cs):=⟨qB.symm,(h.fit hb hc).FU⟩
theorem Fm.cy {M:aI}{names:List Str}(h:Fm M names):∀{bss:List (List Int)}{cs:List Int},(∀bs∈bss,bZ M.switches.length bs)->bZ M.keepers.length cs->bZ M.keepers.length (Gen.cy M cs bss)
 | [],_,_,hc=>hc
 | b::r,cs,hb,hc=>Fm.cy h (bss:=r) (cs:=fo M b cs) (λx hx=>hb x (List.mem_cons_of_mem _ hx)) (h.step (hb b List.mem_cons_self) hc)
end Gen
namespace Gen
open PySem L2
abbrev lD:Stmt:=top 2
abbrev lE:Stmt:=top 35
abbrev jM:Stmt:=top 34
abbrev rn:Stmt:=top 54
theorem f9.k {K:W.Frag}{H:Hp}{t:Addr}{bs:List Int}(h:H t=some (.tup (bs.map V.int))):bY K H t bs:=aV.of h
def f9 (H:Hp) (t:Addr) (bs:List Int):Prop:=H t=some (.tup (bs.map V.int))
inductive x4 (K:W.Frag) (vs:List V) (H:Hp) (Q:VK):Prop
 | mk (x C dx g:Addr) (fs:List (Str×V)) (kvs:List (Key×V)) (k:Str) (h1:vs=[.ref x,.str k]) (h2:H x=some (.ins C dx fs)) (h3:um K C) (h4:dZ K C "nexts") (h5:fs.lookup ("nexts" : Str)=some (.ref g)) (h6:H g=some (.dK kvs)) (h7:Q ((bf kvs (.inr k)).getD (.str k)) H):x4 K vs H Q
def Ay (K:W.Frag):Sp:=λvs H Q _=>x4 K vs H Q
inductive x5 (C:Addr) (vs:List V) (H:Hp) (Q:VK):Prop
 | mk (x dx g1 g2 g3 g4 g5 g6 d:Addr) (o2:Obj) (ts:List Addr) (M:aI) (names:List Str) (bs cs:List Int) (h1:vs=[.ref x,.ref d]) (h2:RZ C H x dx g1 g2 g3 g4 g5 g6 o2 ts M) (h3:je M names bs cs) (h4:H d=some (.dK (cm (df M bs cs M.aE.length)))) (h5:∀t H',H t=none->ai H H'->f9 H' t (fo M bs cs)->Q (.ref t) H'):x5 C vs H Q
def tQ (C:Addr):Sp:=λvs H Q _=>x5 C vs H Q
inductive vo (C:Addr) (K:W.Frag) (vs:List V) (H:Hp) (Q:VK):Prop
 | mk (x dx g1 g2 g3 g4 g5 g6 st tl:Addr) (o2:Obj) (ts:List Addr) (M:aI) (names:List Str) (bs cs:List Int) (h1:vs=[.ref x,.ref st,.ref tl]) (h2:RZ C H x dx g1 g2 g3 g4 g5 g6 o2 ts M) (h3:je M names bs cs) (h4:bY K H st cs) (h5:bY K H tl bs) (h6:∀t H',H t=none->ai H H'->f9 H' t (fo M bs cs)->Q (.ref t) H'):vo C K vs H Q
def mJ (C:Addr) (K:W.Frag):Sp:=λvs H Q _=>vo C K vs H Q
inductive Cb (K:W.Frag) (vs:List V) (H:Hp) (Q:VK):Prop
 | mk (m a1 a2 a3 a4 a5 a6 st tl:Addr) (M:aI) (names:List Str) (bs cs:List Int) (h1:vs=[.ref m,.ref st,.ref tl]) (h2:cE H m M a1 a2 a3 a4 a5 a6) (h3:je M names bs cs) (h4:bY K H st cs) (h5:bY K H tl bs) (h6:∀t H',H t=none->ai H H'->f9 H' t (fo M bs cs)->Q (.ref t) H'):Cb K vs H Q
def Az (K:W.Frag):Sp:=λvs H Q _=>Cb K vs H Q
theorem Q8:(["keeper", "machine", "values"]:List Str).Nodup:=by decide +kernel
abbrev nNx:List Str:=["_law_m", "_law_stand", "_law_told", "_law_values_here", "_law_nexts"]
theorem Og:(["_law_name", "_law_first", "_law_values_here", "_law_nexts"]:List Str).Nodup:=by decide +kernel
theorem qC {α β γ:Type} {F:α->β->Prop}{g:γ->β} : ∀{us:List α}{l:List γ},Paired F us (l.map g)->Paired (λt r=>F t (g r)) us l
 | [],[],_=>.nil
 | _::_,_::_,.cons h t=>.cons h (qC t)
 | _::_,[],h=>nomatch h
 | [],_::_,h=>nomatch h
theorem sk {α β γ:Type} {F:α->β->Prop}{g:γ->β} : ∀{us:List α}{l:List γ},Paired (λt r=>F t (g r)) us l->Paired F us (l.map g)
 | _,_,.nil=>.nil
 | _,_,.cons h t=>.cons h (sk t)
theorem x6:∀(l:List (Str×Str)) (acc:List (Str×Str)),((acc++l).map (·.1)).Nodup->c8 (cb acc) (cb l)=cb (acc++l)
 | [],acc,_=>by rw [List.append_nil]; rfl
 | r::l,acc,h=>by
  have e:acc++r::l=(acc++[r])++l:=by simp
  have hn:r.1∉acc.map (·.1):=λhm=>by
   rw [List.map_append] at h
   exact (List.nodup_append.mp h).2.2 _ hm _ (by simp) rfl
  have h1:putK (cb acc) (.inr r.1) (.str r.2)=cb (acc++[r]):=by
   rw [jz _ (iX hn)]
   unfold cb
   rw [List.map_append]
   rfl
  show c8 (putK (cb acc) (.inr r.1) (.str r.2)) (cb l)=_
  rw [h1,e]
  exact x6 l (acc++[r]) (by rw [← e]; exact h)
section
variable {P:Program}{w:World}{K:W.Frag}{mg:Str->Option Value}{base:Heap}
theorem HS:aO ["machine", "keeper"] ["machine", "keeper"] (ao lD):=⟨rfl,rfl,rfl,by decide +kernel,rfl,by decide +kernel,by decide +kernel⟩
theorem HU:aO ["machine", "values"] ["machine", "values"] (ao lE):=⟨rfl,rfl,rfl,by decide +kernel,rfl,by decide +kernel,by decide +kernel⟩
theorem FV:aO ["machine", "stand", "told"] ["machine", "stand", "told"] (ao jM):=⟨rfl,rfl,rfl,by decide +kernel,rfl,by decide +kernel,by decide +kernel⟩
theorem HV:aO nNx mG (ao rn):=⟨rfl,rfl,rfl,by decide +kernel,rfl,by decide +kernel,by decide +kernel⟩
theorem DI {f:Addr}{fd:FuncData}(F:bJ K "next_of" "next_of" lD f fd):av P w K mg base az 1 f fd ["machine", "keeper"] (Ay K):=by
 refine F.ok HS (λvs H Q E h=>?_) (λcdv A outer s H vs Q E hr h=>?_)
 . obtain ⟨x,C,dx,g,fs,kvs,k,rfl,_⟩:=h
   rfl
 . obtain ⟨x,C,dx,g,fs,kvs,k,rfl,hx,hC,hn,hl,hg,kk⟩:=h
   have hu:=cM hr
   refine ⟨_,au (aB (yL hu (b9 (pv 0) rfl) (pv 1) (pv 1) ⟨rfl,rfl,rfl,rfl⟩)),?_⟩
   exact ⟨_,rfl,x,C,dx,fs,_,rfl,hx,hC,hn,hl,g,rfl,.inl ⟨kvs,.inl hg⟩,_,rfl,_,rfl,_,bH.k (k:=.inr k) hg,kk⟩
theorem FW {f fV fN C:Addr}{fd dV dN:FuncData}(F:bJ K "stand_behind" "stand_behind" lE f fd) (T:kI K mg C) (O2:eB mg)
 (GV:av P w K mg base az 1 fV dV ["values", "literal"] iJ) (mV:mg "value_of" = some (.ref fV)) (kV':W.keepIn K (.ref fV)=true) (bV:Binds K dV ["values", "literal"] [])
 (GN:av P w K mg base az 1 fN dN ["machine", "keeper"] (Ay K)) (mN:mg "next_of" = some (.ref fN)) (kN:W.keepIn K (.ref fN)=true) (bN:Binds K dN ["machine", "keeper"] []):av P w K mg base az 2 f fd ["machine", "values"] (tQ C):=by
 refine F.ok HU (λvs H Q E h=>?_) (λcdv A outer s H vs Q E hr h=>?_)
 . obtain ⟨x,dx,g1,g2,g3,g4,g5,g6,d,o2,ts,M,names,bs,cs,rfl,_⟩:=h
   rfl
 . obtain ⟨x,dx,g1,g2,g3,g4,g5,g6,d,o2,ts,M,names,bs,cs,rfl,hR,hf,hd,kk⟩:=h
   refine ⟨_,au (aB (c6 o9 (by rfl) O2.tuple PyProof.Rows.boot_tuple (aa (cO (N:=["keeper", "machine", "values"]) (js:=[none,some 0,some 1]) (by kernel_rfl) rfl (Hl (b9 (pv 0) rfl)) (λ_ _ _ _ _ _=>ax (i:=0) Q8 rfl (Or.inl rfl) (.inr rfl)) (λ_ _ _ _ _ _=>br)
    (λ_ _ _ _ _ _=>aw GV hr rfl mV kV' bV .nil aA (aa (pv 2) (aa (aw GN hr rfl mN kN bN .nil aA (aa (pv 1) (aa (pv 0) ah))) ah)))) ah))),?_⟩
   have n2:=hf.n2
   have zK:(dQ M.keepers).length=M.keepers.length:=by unfold dQ; rw [List.length_map]
   refine ⟨_,rfl,x,C,dx,_,.ref g2,rfl,hR.hx,T.cl,T.n2,lY ..,g2,o2,_,rfl,hR.h2,λD hD=>?_⟩
   refine cX M.keepers.length (λi acc σ H2=>acc=((fo M bs cs).take i).map V.int/\(∃u,σ=[u,some (.ref x),some (.ref d)])/\ai H H2) ⟨rfl,⟨none,rfl⟩,ai.aq hD⟩ ae ?_ ?_
   . rintro acc σ H2 a9 ⟨rfl,_,s2⟩
     rw [List.take_of_length_le (by rw [qB]; exact Nat.le_refl _)] at a9
     refine ⟨⟨s2 _ _ hR.h2,zK.symm⟩,D,_,rfl,.inl ⟨ak.of a9,λt ht=>?_⟩⟩
     exact kk t _ (s2.free ht) (s2.trans (ai.aq ht)) ae
   . rintro i acc σ H2 hi a9 ⟨rfl,⟨u,rfl⟩,s2⟩
     refine ⟨⟨s2 _ _ hR.h2,by rw [zK]; exact hi⟩,?_⟩
     rintro x' H' ⟨rfl,kv,p8,rfl⟩
     have ek:kv.1=.inr M.keepers[i].1:=by
      unfold dQ at p8
      rw [List.getElem?_map,List.getElem?_eq_getElem hi] at p8
      rw [← Option.some.inj p8]
     rw [ek]
     refine dv ?_
     have Sk:=hR.same s2
     refine ⟨_,rfl,_,rfl,_,rfl,x,C,dx,g4,_,cb M.nexts,_,rfl,Sk.hx,T.cl,T.n4,zT ..,Sk.h4,?_⟩
     rw [Ax]
     refine ⟨d,_,_,rfl,.inl (s2 _ _ hd),hf.next (List.getElem_mem hi),λH3 s3=>?_⟩
     refine ⟨_,s3 _ _ a9,?_,bo hi ae ⟨?_,⟨_,rfl⟩,?_⟩⟩
     . rw [List.length_map,List.length_take]
       exact small (by omega)
     . have e:(fo M bs cs)[i]?=some (d9 (df M bs cs M.aE.length) (lx M.nexts M.keepers[i].1)):=by
        unfold fo
        rw [List.getElem?_map,List.getElem?_eq_getElem hi]
        rfl
       rw [List.take_succ,e,List.map_append]
       rfl
     . intro y o hy
       rw [ag (af hy hD)]
       exact s3 y o (s2 y o hy)
theorem DJ {f fA fB C:Addr}{fd dA dB:FuncData}(F:bJ K "stepped" "stepped" jM f fd)
 (GA:av P w K mg base az 2 fA dA ["machine", "stand", "told"] (lu C K)) (mA:mg "values_at" = some (.ref fA)) (kA:W.keepIn K (.ref fA)=true) (bA:Binds K dA ["machine", "stand", "told"] [])
 (GB:av P w K mg base az 2 fB dB ["machine", "values"] (tQ C)) (mB:mg "stand_behind" = some (.ref fB)) (kB:W.keepIn K (.ref fB)=true) (bB:Binds K dB ["machine", "values"] []):av P w K mg base az 3 f fd ["machine", "stand", "told"] (mJ C K):=by
 refine F.ok FV (λvs H Q E h=>?_) (λcdv A outer s H vs Q E hr h=>?_)
 . obtain ⟨x,dx,g1,g2,g3,g4,g5,g6,st,tl,o2,ts,M,names,bs,cs,rfl,_⟩:=h
   rfl
 . obtain ⟨x,dx,g1,g2,g3,g4,g5,g6,st,tl,o2,ts,M,names,bs,cs,rfl,hR,hf,hst,kZ,kk⟩:=h
   refine ⟨_,au (aB (aw GB hr rfl mB kB bB .nil aA (aa (pv 0) (aa (aw GA hr rfl mA kA bA .nil aA (aa (pv 0) (aa (pv 1) (aa (pv 2) ah)))) ah)))),?_⟩
   refine ⟨_,rfl,_,rfl,_,rfl,_,rfl,x,dx,g1,g2,g3,g4,g5,g6,st,tl,o2,ts,M,names,bs,cs,rfl,hR,hf,hst,kZ,λd H1 hd s1 y0=>?_⟩
   exact ⟨x,dx,g1,g2,g3,g4,g5,g6,d,o2,ts,M,names,bs,cs,rfl,hR.same s1,hf,y0,λt H2 ht s2 xS=>kk t H2 (s1.free ht) (s1.trans s2) xS⟩
theorem HW {f fV fB:Addr}{fd dV dB:FuncData}(F:bJ K "_law_next" "_law_next" rn f fd) (O2:eB mg)
 (GV:av P w K mg base az 2 fV dV mG (oV K)) (mV:mg "_law_values" = some (.ref fV)) (kV':W.keepIn K (.ref fV)=true) (bV:Binds K dV mG [])
 (GB:av P w K mg base az 1 fB dB ["_law_values_here", "_law_literal_here"] iJ) (mB:mg "_law_bit" = some (.ref fB)) (kB:W.keepIn K (.ref fB)=true) (bB:Binds K dB ["_law_values_here", "_law_literal_here"] []):av P w K mg base az 3 f fd mG (Az K):=by
 refine F.ok HV (λvs H Q E h=>?_) (λcdv A outer s H vs Q E hr h=>?_)
 . obtain ⟨m,a1,a2,a3,a4,a5,a6,st,tl,M,names,bs,cs,rfl,_⟩:=h
   rfl
 . obtain ⟨m,a1,a2,a3,a4,a5,a6,st,tl,M,names,bs,cs,rfl,hM,hf,hst,kZ,kk⟩:=h
   have hu:=cM hr
   have cc:aX 1 _:=hr.mono (by decide)
   refine ⟨_,aj (aK (i:=3) HV.nd rfl (Or.inr rfl) (aw GV hr rfl mV kV' bV .nil aA (aa (pv 0) (aa (pv 1) (aa (pv 2) ah)))))
    (aj (aK (i:=4) HV.nd rfl (Or.inr rfl) (c6 (uF rfl) (by rfl) O2.dict PyProof.Rows.boot_dict (aa (bz hu (pv 0) ay (λ_ _=>rfl)) ah)))
    (au (aB (c6 o9 (by rfl) O2.tuple PyProof.Rows.boot_tuple (aa (cO (N:=["_law_name", "_law_first", "_law_values_here", "_law_nexts"]) (js:=[none,none,some 3,some 4]) (g:=ku K 2 (dj (cw 0) (dj (cw 1) kr))) (by kernel_rfl) rfl (bO (bz hu (pv 0) ay (λ_ _=>rfl)))
     (λ_ _ _ _ _ _=>cJ rfl (aJ (ax (i:=0) Og rfl (Or.inl rfl) (.inr rfl)) (aJ (ax (i:=1) Og rfl (Or.inl rfl) (.inr rfl)) b8))) (λ_ _ _ _ _ _=>br)
     (λ_ _ _ _ _ _=>aw GB cc rfl mB kB bB .nil aA (aa (pv 2) (aa (yL hu (pv 3) (pv 0) (pv 0) ⟨rfl,rfl,rfl,rfl⟩) ah)))) ah))))),?_⟩
   refine ⟨_,rfl,_,rfl,_,rfl,m,a1,a2,a3,a4,a5,a6,st,tl,M,names,bs,cs,rfl,hM,hf,hst,kZ,λd H1 hd s1 y0=>?_⟩
   have pG:=hM.same s1
   obtain ⟨us,ha,eu⟩:=id pG.nx
   have Vt:Paired (λt kv=>H1 t=some (.tup [kV kv.1,kv.2])) us (cb M.nexts):=sk (g:=λr:Str×Str=>((.inr r.1:Key),V.str r.2)) (qC (g:=gd) eu)
   refine ⟨_,rfl,m,.ref a4,rfl,bH.k (k:=.inr "nexts") pG.top,a4,us,cb M.nexts,rfl,ha,Vt,λe he=>?_⟩
   rw [show c8 [] (cb M.nexts)=cb M.nexts from x6 M.nexts [] hf.ok.nxd]
   have s2:ai H1 (upd H1 e (.dK (cb M.nexts))):=ai.aq he
   have q2:(upd H1 e (.dK (cb M.nexts))) e=some (.dK (cb M.nexts)):=ae
   generalize upd H1 e (.dK (cb M.nexts))=H2 at s2 q2 ⊢
   have k8:=pG.same s2
   have hd2:=s2 _ _ y0
   obtain ⟨ws,hb,gH⟩:=id k8.kp
   have mn:=gH.length
   rw [List.length_map] at mn
   have n2:=hf.n2
   have hX:=s1.trans s2
   refine ⟨_,rfl,m,.ref a2,rfl,bH.k (k:=.inr "keepers") k8.top,a2,rfl,⟨_,ak.of hb⟩,λD hD=>?_⟩
   refine cX M.keepers.length (λi acc σ H3=>acc=((fo M bs cs).take i).map V.int/\(∃u v,σ=[u,v,some (.ref d),some (.ref e)])/\ai H2 H3) ⟨rfl,⟨none,none,rfl⟩,ai.aq hD⟩ ae ?_ ?_
   . rintro acc σ H3 a9 ⟨rfl,_,s3⟩
     rw [List.take_of_length_le (by rw [qB]; exact Nat.le_refl _)] at a9
     refine ⟨⟨_,ak.of (s3 _ _ hb),by rw [List.length_map,mn]; exact Nat.le_refl _⟩,D,_,rfl,.inl ⟨ak.of a9,λt ht=>?_⟩⟩
     exact kk t _ (hX.free (s3.free ht)) ((hX.trans s3).trans (ai.aq ht)) ae
   . rintro i acc σ H3 hi a9 ⟨rfl,⟨u,v,rfl⟩,s3⟩
     obtain ⟨t,ht,hT⟩:=bq gH (i:=i) (b:=iV M.keepers[i]) (by rw [List.getElem?_map,List.getElem?_eq_getElem hi]; rfl)
     have ei:(ws.map V.ref)[i]?=some (.ref t):=by rw [List.getElem?_map,ht]; rfl
     refine ⟨⟨_,_,ak.of (s3 _ _ hb),ei⟩,?_⟩
     rintro x' H' ⟨rfl,bX⟩
     have ex:=bX _ (ak.of (s3 _ _ hb))
     rw [ei] at ex
     cases ex
     refine ⟨t,_,rfl,aV.of (s3 _ _ hT),rfl,_,_,rfl,_,_,rfl,rfl,jo ?_⟩
     have q3:=s3 _ _ q2
     refine ⟨_,rfl,_,rfl,e,rfl,.inl ⟨_,.inl q3⟩,_,rfl,_,rfl,_,bH.k (k:=.inr M.keepers[i].1) q3,?_⟩
     rw [Ax]
     refine ⟨d,_,_,rfl,.inl (s3 _ _ hd2),hf.next (List.getElem_mem hi),λH4 s4=>?_⟩
     refine ⟨_,s4 _ _ a9,?_,bo hi ae ⟨?_,⟨_,_,rfl⟩,?_⟩⟩
     . rw [List.length_map,List.length_take]
       exact small (by omega)
     . have e:(fo M bs cs)[i]?=some (d9 (df M bs cs M.aE.length) (lx M.nexts M.keepers[i].1)):=by
        unfold fo
        rw [List.getElem?_map,List.getElem?_eq_getElem hi]
        rfl
       rw [List.take_succ,e,List.map_append]
       rfl
     . intro y o hy
       rw [ag (af hy hD)]
       exact s4 y o (s3 y o hy)
end
end Gen
namespace Gen
open PySem L2
abbrev lF:Stmt:=top 36
theorem HX (xs:List V):ox xs none (some (-1))=xs.take (xs.length-1):=by
 show (xs.drop 0).take (((-1:Int)+(xs.length:Int)).toNat-0)=_
 rw [List.drop_zero]
 congr 1
 omega
theorem iK {α β:Type}{F:α->β->Prop} : ∀{us:List α}{l:List β}{b:β},Paired F us (l++[b])->∃uE u,us=uE++[u]/\Paired F uE l/\F u b
 | _,[],_,.cons h .nil=>⟨[],_,rfl,.nil,h⟩
 | _,_::l,_,.cons h t=>by
  obtain ⟨uE,u,e,p,q⟩:=iK t
  exact ⟨_::uE,u,by rw [e]; rfl,.cons h p,q⟩
structure b7 (K:W.Frag) (H:Hp) (r:Addr) (us:List Addr) (bss:List (List Int)):Prop where
 at_:H r=some (.lst (us.map V.ref))
 all:Paired (bY K H) us bss
theorem b7.same {K:W.Frag}{H H':Hp}{r:Addr}{us:List Addr}{bss:List (List Int)}(h:b7 K H r us bss) (s:ai H H'):b7 K H' r us bss:=⟨s _ _ h.at_,Paired.bE h.all λ_ _ e=>bY.same e s⟩
theorem b7.len {K:W.Frag}{H:Hp}{r:Addr}{us:List Addr}{bss:List (List Int)}(h:b7 K H r us bss):us.length=bss.length:=h.all.length
theorem b7.snoc {K:W.Frag}{H:Hp}{r t:Addr}{us:List Addr}{bss:List (List Int)}{bs:List Int}(h:b7 K H r us bss) (ht:bY K H t bs):b7 K (upd H r (.lst (us.map V.ref++[.ref t]))) r (us++[t]) (bss++[bs]):=by
 have up:∀w cs,bY K H w cs->bY K (upd H r (.lst (us.map V.ref++[.ref t]))) w cs:=λw cs hw=>aV.keep hw λo _ hl ho=>by rw [ag (bg ho h.at_ (hl _))]; exact ho
 exact ⟨by rw [ae,List.map_append]; rfl,dY (Paired.bE h.all λw cs hw=>up _ _ hw) (.cons (up _ _ ht) .nil)⟩
inductive x8 (C:Addr) (K:W.Frag) (vs:List V) (H:Hp) (Q:VK):Prop
 | mk (x dx g1 g2 g3 g4 g5 g6 st r:Addr) (o2:Obj) (ts us:List Addr) (M:aI) (names:List Str) (cs:List Int) (bss:List (List Int)) (h1:vs=[.ref x,.ref st,.ref r]) (h2:RZ C H x dx g1 g2 g3 g4 g5 g6 o2 ts M) (h3:Fm M names) (h4:bZ M.keepers.length cs) (h5:bY K H st cs) (h6:b7 K H r us bss) (h7:(∀bs∈bss,bZ M.switches.length bs)) (h8:1<=bss.length) (h9:bss.length<=100) (Nw:∀p ws H',H p=none->ai H H'->b7 K H' p ws (runs M cs bss bss.length)->Q (.ref p) H'):x8 C K vs H Q
def tU (C:Addr) (K:W.Frag):Sp:=λvs H Q _=>x8 C K vs H Q
abbrev nWk:List Str:=["machine", "first", "row", "stands", "told"]
section
variable {P:Program}{w:World}{K:W.Frag}{mg:Str->Option Value}{base:Heap}
theorem HY:aO nWk ["machine", "first", "row"] (ao lF):=⟨rfl,rfl,rfl,by decide +kernel,rfl,by decide +kernel,by decide +kernel⟩
theorem FX {f fS C:Addr}{fd dS:FuncData}(F:bJ K "walked" "walked" lF f fd)
 (GS:av P w K mg base az 3 fS dS ["machine", "stand", "told"] (mJ C K)) (mS:mg "stepped" = some (.ref fS)) (kS:W.keepIn K (.ref fS)=true) (bS:Binds K dS ["machine", "stand", "told"] []):av P w K mg base az 4 f fd ["machine", "first", "row"] (tU C K):=by
 refine F.ok HY (λvs H Q E h=>?_) (λcdv A outer s H vs Q E hr h=>?_)
 . obtain ⟨x,dx,g1,g2,g3,g4,g5,g6,st,r,o2,ts,us,M,names,cs,bss,rfl,_⟩:=h
   rfl
 . obtain ⟨x,dx,g1,g2,g3,g4,g5,g6,st,r,o2,ts,us,M,names,cs,bss,rfl,hR,hm,hc,hst,Oh,hb,b1,b2,kk⟩:=h
   refine ⟨_,aj (aK (i:=3) HY.nd rfl (Or.inl rfl) (cg (aa (pv 1) ah)))
    (aj (dk PassesOwn.never rfl (bO (eh qK (pv 2) gq (eO (oq lI ar)))) (ax (i:=4) HY.nd rfl (Or.inl rfl))
     (au (cZ (cV PySem.F.plainAttrs_list PySem.F.slot_list_append PySem.F.type_list_append cz (pv 3) (aa (aw GS hr rfl mS kS bS .nil aA (aa (pv 0) (aa (aY aU (pv 3) (oq lI ar) (λ_ _=>rfl)) (aa (pv 4) ah)))) ah)))))
    (au (aB (pv 3)))),?_⟩
   refine ⟨_,rfl,(by show 1<=sizeLine; decide),λp hp=>?_⟩
   have s1:ai H (upd H p (.lst [.ref st])):=ai.aq hp
   have q1:b7 K (upd H p (.lst [.ref st])) p [st] (runs M cs bss 1):=⟨ae,.cons (ai.dX s1 hst) .nil⟩
   generalize upd H p (.lst [.ref st])=H1 at s1 q1 ⊢
   refine ⟨_,rfl,1,rfl,_,rfl,r,_,rfl,ak.of (s1 _ _ Oh.at_),λq hq=>?_⟩
   have fz:=Oh.len
   rw [HX,← List.map_take,List.length_map]
   have s2:ai H1 (upd H1 q (.lst ((us.take (us.length-1)).map V.ref))):=ai.aq hq
   have q2:(upd H1 q (.lst ((us.take (us.length-1)).map V.ref))) q=some (.lst ((us.take (us.length-1)).map V.ref)):=ae
   have NN:q≠p:=(af q1.at_ hq).symm
   generalize upd H1 q (.lst ((us.take (us.length-1)).map V.ref))=H2 at s2 q2 ⊢
   refine ⟨q,rfl,⟨_,ak.of q2⟩,gQ (K:=K) (a:=q) (xs:=(us.take (us.length-1)).map V.ref) (λi σ H3=>∃(v4:Option V) (ws:List Addr),σ=[some (.ref x),some (.ref st),some (.ref r),some (.ref p),v4]/\b7 K H3 p ws (runs M cs bss (i+1))/\ai H H3/\H3 q=some (.lst ((us.take (us.length-1)).map V.ref))) ?_ ?_ ?_ ?_⟩
   . exact ⟨none,[st],rfl,q1.same s2,s1.trans s2,q2⟩
   . rintro i σ H3 _ ⟨_,_,_,_,_,q3⟩
     exact ak.of q3
   . rintro i xv σ H3 hx ⟨v4,ws,rfl,hw,s3,q3⟩
     have hi:i<us.length-1:=by
      have:=(List.getElem?_eq_some_iff.mp hx).1
      rw [List.length_map,List.length_take] at this
      omega
     have vn:i<bss.length:=by omega
     obtain ⟨u,hu,hU⟩:=bq Oh.all (i:=i) (List.getElem?_eq_getElem vn)
     have ex:xv=.ref u:=by
      rw [List.getElem?_map,List.getElem?_take_of_lt hi,hu] at hx
      exact (Option.some.inj hx).symm
     subst ex
     have Jh:=hw.all
     rw [mH] at Jh
     obtain ⟨Oi,wl,Oj,_,mn⟩:=iK Jh
     have hbi:∀bs∈bss.take i,bZ M.switches.length bs:=λbs h=>hb bs (List.mem_of_mem_take h)
     have iw:=hm.fit (hb _ (List.getElem_mem vn)) (hm.cy hbi hc)
     refine ⟨_,rfl,.inl ⟨rfl,_,ak.of hw.at_⟩,_,rfl,_,rfl,1,rfl,p,_,-1,.ref wl,rfl,rfl,ak.of hw.at_,(by rw [Oj,List.map_append]; exact lO _ _),_,rfl,?_⟩
     refine ⟨x,dx,g1,g2,g3,g4,g5,g6,wl,u,o2,ts,M,names,bss[i],cy M cs (bss.take i),rfl,hR.same s3,iw,mn,ai.dX s3 hU,λt H4 ht s4 RT=>?_⟩
     have Ol:=hw.same s4
     refine ⟨p,_,_,rfl,rfl,Ol.at_,?_,?_⟩
     . rw [List.length_map,Ol.len,tP]
       exact small (by omega)
     . refine ⟨_,ws++[t],rfl,?_,λb o ee=>?_,?_⟩
       . rw [mH,oX vn]
         exact Ol.snoc (f9.k RT)
       . rw [ag (af ee hp)]
         exact s4 _ _ (s3 _ _ ee)
       . rw [ag NN]
         exact s4 _ _ q3
   . rintro σ H3 ⟨v4,ws,rfl,hw,s3,q3⟩
     have e:((us.take (us.length-1)).map V.ref).length+1=bss.length:=by
      rw [List.length_map,List.length_take]
      omega
     rw [e] at hw
     exact ⟨_,rfl,kk p ws H3 hp s3 hw⟩
end
end Gen
namespace Gen
open PySem L2
abbrev jN:Stmt:=top 3
abbrev jO:Stmt:=top 37
def DK (M:aI) (n l:Str):Prop:=bf (cb M.nevers) (.inr n)=some (.str l)\/(bf (cb M.nevers) (.inr n)=none/\bf (cb M.somes) (.inr n)=some (.str l))
def jr (r:Str×V) (b:Int):Bool:=decide (r.2=.aZ) || decide (r.2=.int b)
def n8 (M:aI) (cs:List Int):Bool:=(M.keepers.zip cs).all λp=>jr p.1 p.2
inductive vp (C:Addr) (vs:List V) (H:Hp) (Q:VK):Prop
 | mk (x dx g1 g2 g3 g4 g5 g6:Addr) (o2:Obj) (ts:List Addr) (M:aI) (n l:Str) (h1:vs=[.ref x,.str n]) (h2:RZ C H x dx g1 g2 g3 g4 g5 g6 o2 ts M) (h3:DK M n l) (h4:Q (.str l) H):vp C vs H Q
def qD (C:Addr):Sp:=λvs H Q _=>vp C vs H Q
inductive vq (C:Addr) (K:W.Frag) (vs:List V) (H:Hp) (Q:VK):Prop
 | mk (x dx g1 g2 g3 g4 g5 g6 st:Addr) (o2:Obj) (ts:List Addr) (M:aI) (cs:List Int) (h1:vs=[.ref x,.ref st]) (h2:RZ C H x dx g1 g2 g3 g4 g5 g6 o2 ts M) (h3:M.keepers.length<=16) (h4:M.keepers.length=cs.length) (h5:bY K H st cs) (h6:(∀r∈M.keepers,r.2=.int 0\/r.2=.int 1\/r.2=.aZ)) (h7:∀H',ai H H'->Q (.bl (n8 M cs)) H'):vq C K vs H Q
def qE (C:Addr) (K:W.Frag):Sp:=λvs H Q _=>vq C K vs H Q
theorem Om:(["first", "bit"]:List Str).Nodup:=by decide +kernel
abbrev Vu:List Str:=["machine", "stand", "firsts"]
theorem HZ (l:List (Str×V)):((dQ l).map λkv=>kv.2)=l.map (·.2):=by unfold dQ; rw [List.map_map]; rfl
section
variable {P:Program}{w:World}{K:W.Frag}{mg:Str->Option Value}{base:Heap}
theorem Vv:aO ["machine", "wish"] ["machine", "wish"] (ao jN):=⟨rfl,rfl,rfl,by decide +kernel,rfl,by decide +kernel,by decide +kernel⟩
theorem Jw:aO Vu ["machine", "stand"] (ao jO):=⟨rfl,rfl,rfl,by decide +kernel,rfl,by decide +kernel,by decide +kernel⟩
theorem DL {f C:Addr}{fd:FuncData}(F:bJ K "literal_of_wish" "literal_of_wish" jN f fd) (T:kI K mg C):av P w K mg base az 1 f fd ["machine", "wish"] (qD C):=by
 refine F.ok Vv (λvs H Q E h=>?_) (λcdv A outer s H vs Q E hr h=>?_)
 . obtain ⟨x,dx,g1,g2,g3,g4,g5,g6,o2,ts,M,n,l,rfl,_⟩:=h
   rfl
 . obtain ⟨x,dx,g1,g2,g3,g4,g5,g6,o2,ts,M,n,l,rfl,hR,hw,kk⟩:=h
   have hu:=cM hr
   refine ⟨_,aj (bh (pJ (pS hu (pv 1) (b9 (pv 0) rfl)) (by with_unfolding_all rfl)) (au (aB (bz hu (b9 (pv 0) rfl) (pv 1) (λ_ _=>rfl)))) aT)
    (au (aB (bz hu (b9 (pv 0) rfl) (pv 1) (λ_ _=>rfl)))),?_⟩
   refine ⟨_,rfl,_,rfl,x,C,dx,_,.ref g5,rfl,hR.hx,T.cl,T.n5,qx ..,g5,_,rfl,bH.k (k:=.inr n) hR.h5,_,rfl,?_⟩
   rcases hw with e | ⟨e0,e⟩
   . rw [e]
     refine gv ?_
     refine ⟨_,rfl,x,C,dx,_,.ref g5,rfl,hR.hx,T.cl,T.n5,qx ..,_,rfl,g5,.str l,rfl,?_,kk⟩
     rw [← e]
     exact bH.k (k:=.inr n) hR.h5
   . rw [e0]
     refine cu ?_
     refine ⟨_,rfl,x,C,dx,_,.ref g6,rfl,hR.hx,T.cl,T.n6,u9 ..,_,rfl,g6,.str l,rfl,?_,kk⟩
     rw [← e]
     exact bH.k (k:=.inr n) hR.h6
theorem A9 {f C:Addr}{fd:FuncData}(F:bJ K "is_first" "is_first" jO f fd) (T:kI K mg C) (O2:eB mg):av P w K mg base az 1 f fd ["machine", "stand"] (qE C K):=by
 refine F.ok Jw (λvs H Q E h=>?_) (λcdv A outer s H vs Q E hr h=>?_)
 . obtain ⟨x,dx,g1,g2,g3,g4,g5,g6,st,o2,ts,M,cs,rfl,_⟩:=h
   rfl
 . obtain ⟨x,dx,g1,g2,g3,g4,g5,g6,st,o2,ts,M,cs,rfl,hR,n2,l2,hst,xI,kk⟩:=h
   have hu:=cM hr
   refine ⟨_,aj (aK (i:=2) Jw.nd rfl (Or.inl rfl) (Hm rfl (by rfl) O2.list (b9 (pv 0) rfl)))
    (au (aB (bb (jD rfl) (by rfl) O2.all PyProof.Rows.boot_all (aa (cO (N:=["first", "bit"]) (js:=[none,none]) (g:=ku K 2 (dj (cw 0) (dj (cw 1) kr))) (by kernel_rfl) rfl (qR (by rfl) O2.zip (aa (pv 2) (aa (pv 1) ah)))
     (λ_ _ _ _ _ _=>cJ rfl (aJ (ax (i:=0) Om rfl (Or.inl rfl) (.inr rfl)) (aJ (ax (i:=1) Om rfl (Or.inl rfl) (.inr rfl)) b8))) (λ_ _ _ _ _ _=>br)
     (λ_ _ _ _ _ _=>Cu (nh (DZ (pv 0))) (yF (gp cU (pv 0) (pv 1) (aS _))))) ah)))),?_⟩
   refine ⟨_,rfl,x,C,dx,_,.ref g2,rfl,hR.hx,T.cl,T.n2,lY ..,g2,_,rfl,.inr ⟨_,hR.h2⟩,λq hq=>?_⟩
   rw [HZ]
   have s1:ai H (upd H q (.lst (M.keepers.map (·.2)))):=ai.aq hq
   have q1:(upd H q (.lst (M.keepers.map (·.2)))) q=some (.lst (M.keepers.map (·.2))):=ae
   generalize upd H q (.lst (M.keepers.map (·.2)))=H1 at s1 q1 ⊢
   have Vw:aV K H1 st (cs.map V.int):=ai.dX s1 hst
   refine ⟨_,rfl,_,rfl,q,st,rfl,⟨_,ak.of q1⟩,⟨_,Vw⟩,λD hD=>?_⟩
   refine cX M.keepers.length (λi acc σ H2=>acc=(((M.keepers.zip cs).take i).map λp=>jr p.1 p.2).map V.bl/\(∃u v,σ=[u,v])/\ai H1 H2) ⟨rfl,⟨none,none,rfl⟩,ai.aq hD⟩ ae ?_ ?_
   . rintro acc σ H2 a9 ⟨rfl,_,s2⟩
     rw [List.take_of_length_le (by rw [List.length_zip]; omega)] at a9
     refine ⟨⟨_,(show ZK K false H2 q _ from ak.of (s2 _ _ q1)),by rw [List.length_map]; exact Nat.le_refl _⟩,D,_,rfl,ak.of a9,?_⟩
     have e:((M.keepers.zip cs).map λp=>jr p.1 p.2).all _root_.id=n8 M cs:=by
      unfold n8
      rw [List.all_map]
      rfl
     rw [e]
     exact kk H2 (s1.trans s2)
   . rintro i acc σ H2 hi a9 ⟨rfl,⟨u,v,rfl⟩,s2⟩
     have hic:i<cs.length:=by omega
     have e1:(M.keepers.map (·.2))[i]?=some M.keepers[i].2:=by rw [List.getElem?_map,List.getElem?_eq_getElem hi]; rfl
     have e2:(cs.map V.int)[i]?=some (.int cs[i]):=by rw [List.getElem?_map,List.getElem?_eq_getElem hic]; rfl
     have z1:ZK K false H2 q (M.keepers.map (·.2)):=ak.of (s2 _ _ q1)
     have z2:ZK K true H2 st (cs.map V.int):=ai.dX s2 (ai.dX s1 hst)
     refine ⟨⟨_,_,_,_,z1,z2,e1,e2⟩,?_⟩
     rintro x' H' ⟨Tp,xa,xb,rfl,hT,rfl,h1,h2⟩
     have e3:=h1 _ z1
     have e4:=h2 _ z2
     rw [e1] at e3
     rw [e2] at e4
     cases e3
     cases e4
     have sT:ai H2 (upd H2 Tp (.tup [M.keepers[i].2,.int cs[i]])):=ai.aq hT
     have Oo:=sT _ _ a9
     have hz:(M.keepers.zip cs)[i]?=some (M.keepers[i],cs[i]):=by rw [List.getElem?_eq_getElem (by rw [List.length_zip]; omega),List.getElem_zip]
     have fin:∀b,b=jr M.keepers[i] cs[i]->∃acc,(upd H2 Tp (.tup [M.keepers[i].2,.int cs[i]])) D=some (.lst acc)/\acc.length<sizeLine/\∃m',m'<M.keepers.length-i/\yV D M.keepers.length (λi acc σ H2=>acc=(((M.keepers.zip cs).take i).map λp=>jr p.1 p.2).map V.bl/\(∃u v,σ=[u,v])/\ai H1 H2) (i+1) m' [some M.keepers[i].2,some (.int cs[i])] (upd (upd H2 Tp (.tup [M.keepers[i].2,.int cs[i]])) D (.lst (acc++[.bl b]))):=by
      rintro b rfl
      refine ⟨_,Oo,?_,bo hi ae ⟨?_,⟨_,_,rfl⟩,?_⟩⟩
      . rw [List.length_map,List.length_map,List.length_take]
        exact small (by omega)
      . rw [dO (λp:(Str×V)×Int=>jr p.1 p.2) hz,List.map_append]
        rfl
      . intro y o hy
        rw [ag (af hy hD)]
        exact sT _ _ (s2 y o hy)
     refine ⟨Tp,_,rfl,aV.of ae,rfl,_,_,rfl,_,_,rfl,rfl,jo ?_⟩
     rcases xI _ (List.getElem_mem hi) with e | e | e
     . rw [e] at fin ⊢
       refine ⟨_,rfl,false,rfl,cu ⟨_,rfl,_,rfl,rfl,?_⟩⟩
       exact fin _ (by rw [jr,e]; rfl)
     . rw [e] at fin ⊢
       refine ⟨_,rfl,false,rfl,cu ⟨_,rfl,_,rfl,rfl,?_⟩⟩
       exact fin _ (by rw [jr,e]; rfl)
     . rw [e] at fin ⊢
       exact ⟨_,rfl,true,rfl,gv (fin _ (by rw [jr,e]; rfl))⟩
end
end Gen
namespace Gen
open PySem L2
abbrev rp:Stmt:=top 55
abbrev lG:Stmt:=top 56
def gn (v:V) (b:Int):Bool:=decide (v=.aZ) || decide (v=.int b)
def iq (fs:List V) (r:List Int):Bool:=(fs.zip r).all λp=>gn p.1 p.2
def wj (v:V):Prop:=v=.int 0\/v=.int 1\/v=.aZ
def yt (v:V):List Int:=if v=.aZ then [0,1] else if v=.int 0 then [0] else [1]
def rE (rows:List (List Int)) (f:V):List (List Int):=rows.flatMap λr=>(yt f).map λb=>r++[b]
def wk (fs:List V):List (List Int):=fs.foldl rE [[]]
theorem tV:∀(k:Nat),∀r∈dw k,r.length=k
 | 0,r,h=>by
  have:r=[]:=by simpa [dw] using h
  rw [this]; rfl
 | k+1,r,h=>by
  rw [dw] at h
  obtain ⟨q,hq,hr⟩:=List.mem_flatMap.mp h
  have:=tV k q hq
  simp only [List.mem_cons,List.not_mem_nil,or_false] at hr
  rcases hr with rfl | rfl <;> rw [List.length_append,this] <;> rfl
theorem rF:∀(k:Nat),(dw k).length=2 ^ k
 | 0=>rfl
 | k+1=>by
  have:∀l:List (List Int),(l.flatMap λr=>[r++[(0:Int)],r++[1]]).length=2*l.length:=λl=>by
   induction l with
   | nil=>rfl
   | cons x l ih=>rw [List.flatMap_cons,List.length_append,ih,List.length_cons]; simp; omega
  rw [dw,this,rF k,Nat.pow_succ]
  omega
theorem AA {fs:List V}{r:List Int}(f:V) (b:Int) (h:fs.length=r.length):iq (fs++[f]) (r++[b])=(iq fs r && gn f b):=by
 unfold iq
 rw [List.zip_append h,List.all_append]
 simp
theorem Ia {f:V}(h:wj f) (r:List Int):([r++[0],r++[1]].filter λx=>gn f (x.getLast?.getD 0))=(yt f).map λb=>r++[b]:=by
 rcases h with rfl | rfl | rfl <;> simp [gn,yt]
theorem FY (fs:List V) (f:V):wk (fs++[f])=rE (wk fs) f:=by
 unfold wk
 rw [List.foldl_append]
 rfl
theorem so {α β:Type}{g:α->List β}{p:β->Bool}{q:α->Bool}{g':α->List β} : ∀(l:List α),(∀x∈l,(g x).filter p=if q x=true then g' x else [])->(l.flatMap g).filter p=(l.filter q).flatMap g'
 | [],_=>rfl
 | x::l,h=>by
  rw [List.flatMap_cons,List.filter_append,so l λy hy=>h y (List.mem_cons_of_mem _ hy),h x List.mem_cons_self,List.filter_cons]
  split
  . rw [List.flatMap_cons]
  . rfl
theorem Cc:∀(k:Nat) (fs:List V),fs.length=k->(∀f∈fs,wj f)->wk fs=(dw k).filter (iq fs)
 | 0,fs,hl,_=>by
  have:fs=[]:=List.length_eq_zero_iff.mp hl
  subst this
  rfl
 | k+1,fs,hl,hf=>by
  obtain ⟨gs,f,rfl⟩:∃gs f,fs=gs++[f]:=by
   have dh:fs≠[]:=λe=>by rw [e] at hl; cases hl
   exact ⟨fs.dropLast,fs.getLast dh,(List.dropLast_concat_getLast dh).symm⟩
  have hg:gs.length=k:=by rw [List.length_append,List.length_singleton] at hl; omega
  have hff:=hf f (by simp)
  rw [FY,Cc k gs hg λx hx=>hf x (List.mem_append.mpr (.inl hx)),dw]
  unfold rE
  refine (so (dw k) λr hr=>?_).symm
  have gk:=tV k r hr
  have o0:=AA (fs:=gs) (r:=r) f 0 (by omega)
  have o1:=AA (fs:=gs) (r:=r) f 1 (by omega)
  cases hq:iq gs r with
  | true=>
   rw [if_pos rfl,← Ia hff r]
   rw [hq,Bool.true_and] at o0 o1
   simp [List.filter_cons,o0,o1]
  | false=>
   rw [if_neg (by decide)]
   rw [hq,Bool.false_and] at o0 o1
   simp [List.filter_cons,o0,o1]
def jT (H:Hp) (ts:List Addr) (bs:List (List Int)):Prop:=Paired (λt b=>H t=some (.tup (b.map V.int))) ts bs
theorem jT.same {H H':Hp}{ts:List Addr}{bs:List (List Int)}(h:jT H ts bs) (s:ai H H'):jT H' ts bs:=Paired.bE h λt b e=>s _ _ e
theorem Ls (r:List Int) (b:Int):(r.map V.int++[V.int b])=(r++[b]).map V.int:=by rw [List.map_append]; rfl
def gI (K:W.Frag) (H:Hp) (ts:List Addr) (bs:List (List Int)):Prop:=Paired (λt b=>aV K H t (b.map V.int)) ts bs
theorem jT.t {K:W.Frag}{H:Hp}{ts:List Addr}{bs:List (List Int)}(h:jT H ts bs):gI K H ts bs:=Paired.bE h λt b e=>aV.of e
theorem gI.same {K:W.Frag}{H H':Hp}{ts:List Addr}{bs:List (List Int)}(h:gI K H ts bs) (s:ai H H'):gI K H' ts bs:=Paired.bE h λt b e=>ai.dX s e
def vt (K:W.Frag):Sp:=λvs H Q _=>∃(k:Int),vs=[.int k]/\0<=k/\k<=6/\∀p us H',ai H H'->H p=none->H' p=some (.lst (us.map V.ref))->gI K H' us (dw k.toNat)->Q (.ref p) H'
theorem Ib {fs:List V}{cs:List Int}(h:fs.length=cs.length):iq fs cs=((fs.zip cs).map λp=>gn p.1 p.2).all _root_.id:=by
 unfold iq
 rw [List.all_map]
 rfl
theorem FZ {K:W.Frag}{b:Int}{D p:Addr}{Q:Hp->Prop}{H1:Hp}{ts:List Addr}{bs:List (List Int)}(hD:H1 D=none) (hp:H1 p=some (.lst (ts.map V.ref))) (h2:jT H1 ts bs) (hlen:bs.length<=64) (hk:∀r∈bs,r.length<=6)
 (fin:∀H4 ws,ai H1 H4->H4 D=some (.lst (ws.map V.ref))->jT H4 ws (bs.map (· ++ [b]))->Q H4) :
 ∃W:Nat->Nat->St->Hp->Prop,(∃m,W 0 m [none] (upd H1 D (.lst [])))/\Bx D (cw 0) sQ (wy (yn K) (vA 0) (LY (yj (tC (.int b)) CD))) (wx K p) W Q:=by
 have hl:=h2.length
 refine cX bs.length (λj acc bu H4=>(∃ws:List Addr,acc=ws.map V.ref/\jT H4 ws ((bs.take j).map (· ++ [b]))/\ws.length=j)/\(∃u,bu=[u])/\ai H1 H4) ⟨⟨[],rfl,.nil,rfl⟩,⟨none,rfl⟩,ai.aq hD⟩ ae ?_ ?_
 . rintro acc bu H4 a9 ⟨⟨ws,rfl,gH,_⟩,_,s4⟩
   rw [List.take_length] at gH
   exact ⟨⟨_,ak.of (s4 _ _ hp),by rw [List.length_map,hl]; exact Nat.le_refl _⟩,fin H4 ws s4 a9 gH⟩
 . rintro j acc bu H4 hj a9 ⟨⟨ws,rfl,gH,mn⟩,⟨u,rfl⟩,s4⟩
   have my:bs[j]?=some bs[j]:=List.getElem?_eq_getElem hj
   obtain ⟨t,ht,hT⟩:=bq h2 (i:=j) my
   have ej:(ts.map V.ref)[j]?=some (.ref t):=by rw [List.getElem?_map,ht]; rfl
   refine ⟨⟨_,_,ak.of (s4 _ _ hp),ej⟩,?_⟩
   rintro x' H' ⟨rfl,bX⟩
   have ex:=bX _ (ak.of (s4 _ _ hp))
   rw [ej] at ex
   cases ex
   refine dv ?_
   have Sl:(bs.take (j+1)).map (· ++ [b])=(bs.take j).map (· ++ [b])++[bs[j]++[b]]:=by
    rw [List.take_succ,my,List.map_append]
    rfl
   have gk:=hk _ (List.getElem_mem hj)
   generalize bs[j]=r at hT Sl gk
   have Oq:∀(R:Addr) (J:Hp),ai H' J->J R=some (.tup ((r++[b]).map V.int))->∃acc,J D=some (.lst acc)/\acc.length<sizeLine/\∃m',m'<bs.length-j/\yV D bs.length (λj acc bu H4=>(∃ws:List Addr,acc=ws.map V.ref/\jT H4 ws ((bs.take j).map (· ++ [b]))/\ws.length=j)/\(∃u,bu=[u])/\ai H1 H4) (j+1) m' [some (.ref t)] (upd J D (.lst (acc++[.ref R]))):=by
    intro R J sJ hR
    have Sm:=sJ _ _ a9
    have nt:∀{b:Addr}{o:List V},J b=some (.tup o)->b≠D:=λhb e=>by rw [e,Sm] at hb; cases hb
    refine ⟨_,Sm,(by rw [List.length_map]; exact small (by omega)),bo hj ae ⟨⟨ws++[R],by rw [List.map_append]; rfl,?_,by rw [List.length_append,List.length_singleton,mn]⟩,⟨_,rfl⟩,?_⟩⟩
    . rw [Sl]
      refine Paired.snoc (Paired.bE gH λc d e=>?_) ?_
      . have:=sJ _ _ e
        rw [ag (nt this)]
        exact this
      . rw [ag (nt hR)]
        exact hR
    . intro y o hy
      rw [ag (af hy hD)]
      exact sJ _ _ (s4 _ _ hy)
   refine ⟨_,rfl,(by show 1<=sizeLine; decide),λT1 hT1=>?_⟩
   have z1:ai H' (upd H' T1 (.tup [.int b])):=ai.aq hT1
   have z2:(upd H' T1 (.tup [.int b])) T1=some (.tup [.int b]):=ae
   generalize upd H' T1 (.tup [.int b])=J3 at z1 z2 ⊢
   refine ⟨t,T1,_,_,rfl,rfl,aV.of (z1 _ _ (s4 _ _ hT)),aV.of z2,(by simp),?_,λe=>?_,λ_ R hR=>?_⟩
   . rw [List.length_map]
     exact dy (by show r.length+1<=100; omega)
   . have:r=[]:=List.map_eq_nil_iff.mp e
     subst this
     exact Oq T1 J3 z1 z2
   . exact Oq R _ (z1.trans (ai.aq hR)) (by rw [ae,Ls])
section
variable {P:Program}{w:World}{K:W.Frag}{mg:Str->Option Value}{base:Heap}{C:Addr}
theorem DM:aO ["_law_many", "_law_found", "_law_k"] ["_law_many"] (ao rp):=⟨rfl,rfl,rfl,by decide +kernel,rfl,by decide +kernel,by decide +kernel⟩
theorem Ba {f:Addr}{fd:FuncData}(F:bJ K "_law_all_bits" "_law_all_bits" rp f fd) (O:Own mg) (hS:mg "sorted" = none):av P w K mg base az 1 f fd ["_law_many"] (vt K):=by
 refine F.ok DM (λvs H Q E h=>?_) (λcdv A outer s H vs Q E hr h=>?_)
 . obtain ⟨k,rfl,_⟩:=h
   rfl
 . obtain ⟨k,rfl,k0,k6,kk⟩:=h
   refine ⟨_,aj (aK (i:=1) DM.nd rfl (Or.inl rfl) (cg (aa (dm ah) ah)))
    (aj (dk PassesOwn.never rfl (eQ rfl O.range (aa (pv 0) ah)) (ax (i:=2) DM.nd rfl (Or.inl rfl))
     (au (aK (i:=1) DM.nd rfl (Or.inl rfl) (aM gj
      (cO (N:=["_law_one"]) (js:=[none]) (by kernel_rfl) rfl (bO (pv 1)) (λ_ _ _ _ _ _=>ax (i:=0) zH rfl (Or.inl rfl) (.inr rfl)) (λ_ _ _ _ _ _=>br) (λ_ _ _ _ _ _=>aM (r:=yn K) BO (pv 0) (dm (aa ar ah))))
      (cO (N:=["_law_one"]) (js:=[none]) (by kernel_rfl) rfl (bO (pv 1)) (λ_ _ _ _ _ _=>ax (i:=0) zH rfl (Or.inl rfl) (.inr rfl)) (λ_ _ _ _ _ _=>br) (λ_ _ _ _ _ _=>aM (r:=yn K) BO (pv 0) (dm (aa ar ah))))))))
    (au (aB (bb zw (by rfl) hS PyProof.Rows.boot_sorted (aa (pv 1) ah))))),?_⟩
   refine ⟨(by show 0<=sizeLine; decide),λe he=>?_⟩
   have t0:ai H (upd H e (.tup [])):=ai.aq he
   have q0:(upd H e (.tup [])) e=some (.tup (([]:List Int).map V.int)):=ae
   generalize upd H e (.tup [])=H0 at t0 q0 ⊢
   refine ⟨(by show 1<=sizeLine; decide),λp0 zO=>?_⟩
   have t1:ai H0 (upd H0 p0 (.lst [.ref e])):=ai.aq zO
   have q1:(upd H0 p0 (.lst [.ref e])) p0=some (.lst ([e].map V.ref)):=ae
   generalize upd H0 p0 (.lst [.ref e])=H1 at t1 q1 ⊢
   have t01:=t0.trans t1
   refine ⟨_,rfl,k,rfl,by omega,by omega,gT (n:=k.toNat) (λi σ Hi=>∃(p:Addr) (ts:List Addr) (v2:Option V),σ=[some (.int k),some (.ref p),v2]/\Hi p=some (.lst (ts.map V.ref))/\jT Hi ts (dq i)/\ai H Hi) ?_ ?_ ?_⟩
   . exact ⟨p0,[e],none,rfl,q1,.cons (t1 _ _ q0) .nil,t01⟩
   . rintro i σ Hi hi ⟨p,ts,v2,rfl,hp,hJ,si⟩
     have nG:(dq i).length<=64:=by
      rw [g7]
      have h2:2 ^ i<=2 ^ 6:=Nat.pow_le_pow_right (by decide) (by omega)
      omega
     have rK:∀r∈dq i,r.length<=6:=λr kf=>by rw [xr i r kf]; omega
     refine ⟨_,rfl,p,rfl,⟨_,ak.of hp⟩,λD hD=>FZ hD hp hJ nG rK λH2 ws s2 lX zF=>?_⟩
     refine ⟨_,rfl,p,rfl,⟨_,ak.of (s2 _ _ hp)⟩,λD' hD'=>FZ hD' (s2 _ _ hp) (hJ.same s2) nG rK λH3 Oi s3 qk Jd=>?_⟩
     have l1:=zF.length
     have l2:=Jd.length
     rw [List.length_map] at l1 l2
     refine ⟨D,D',_,_,rfl,rfl,s3 _ _ lX,qk,(by rw [List.length_map,List.length_map]; exact iG (by omega)),λR hR=>⟨R,ws++Oi,_,rfl,?_,?_,?_⟩⟩
     . rw [ae,List.map_append]
     . rw [dq]
       exact dY (Paired.bE zF λt b e=>by have:=s3 _ _ e; rw [ag (af this hR)]; exact this) (Paired.bE Jd λt b e=>by rw [ag (af e hR)]; exact e)
     . exact si.trans (s2.trans (s3.trans (ai.aq hR)))
   . rintro σ Hi ⟨p,ts,v2,rfl,hp,hJ,si⟩
     refine ⟨_,rfl,p,ts,k.toNat,rfl,ak.of hp,hJ.t,by omega,λD qh hD Vx=>?_⟩
     exact kk D qh _ (si.trans (ai.aq hD)) (si.free hD) ae (gI.same Vx (ai.aq hD))
end
theorem DN:(["_law_name", "_law_first", "_law_bit_here"]:List Str).Nodup:=by decide +kernel
inductive x9 (K:W.Frag) (vs:List V) (H:Hp) (Q:VK):Prop
 | mk (m a1 a2 a3 a4 a5 a6:Addr) (M:aI) (h1:vs=[.ref m]) (h2:cE H m M a1 a2 a3 a4 a5 a6) (h3:M.keepers.length<=6) (h4:(∀r∈M.keepers,wj r.2)) (h5:∀p us H',ai H H'->H p=none->H' p=some (.lst (us.map V.ref))->gI K H' us ((dw M.keepers.length).filter (iq (M.keepers.map (·.2))))->Q (.ref p) H'):x9 K vs H Q
def tX (K:W.Frag):Sp:=λvs H Q _=>x9 K vs H Q
theorem Bb {α:Type}{p:α->Bool}{l:List α}{i:Nat}{x:α}(h:l[i]?=some x):(l.take (i+1)).filter p=(l.take i).filter p++if p x=true then [x] else []:=by
 rw [List.take_succ,h,List.filter_append]
 cases hp:p x <;> simp [hp]
theorem aQ.yu {K:W.Frag}{H H':Hp}{u l:Addr}{xs n:List V}(k:aQ H H' l) (hl:H l=some (.lst n)) (h:aV K H u xs):aV K H' u xs:=by
 rcases h with (h | ⟨o,h⟩) | h
 . exact .inl (.inl (k u _ h (bg h hl (by intro z; cases z))))
 . exact .inl (.inr ⟨o,k u _ h (bg h hl (by intro z; cases z))⟩)
 . exact .inr h
section
variable {P:Program}{w:World}{K:W.Frag}{mg:Str->Option Value}{base:Heap}{C:Addr}
theorem Ic:aO ["_law_m", "_law_found", "_law_stand"] ["_law_m"] (ao lG):=⟨rfl,rfl,rfl,by decide +kernel,rfl,by decide +kernel,by decide +kernel⟩
theorem F1 {f fA:Addr}{fd dA:FuncData}(F:bJ K "_law_firsts" "_law_firsts" lG f fd) (O2:eB mg)
 (gA:av P w K mg base az 1 fA dA ["_law_many"] (vt K)) (mA:mg "_law_all_bits" = some (.ref fA)) (kA:W.keepIn K (.ref fA)=true) (bA:Binds K dA ["_law_many"] []):av P w K mg base az 2 f fd ["_law_m"] (tX K):=by
 refine F.ok Ic (λvs H Q E h=>?_) (λcdv A outer s H vs Q E hr h=>?_)
 . obtain ⟨m,a1,a2,a3,a4,a5,a6,M,rfl,_⟩:=h
   rfl
 . obtain ⟨m,a1,a2,a3,a4,a5,a6,M,rfl,hM,hk6,wQ,kk⟩:=h
   have hu:=cM hr
   refine ⟨_,aj (aK (i:=1) Ic.nd rfl (Or.inl rfl) (cg ah))
    (aj (dk PassesOwn.never rfl (bO (aw gA hr rfl mA kA bA .nil aA (aa (bb bj (by rfl) O2.len PySem.boot_len (aa (bz hu (pv 0) ay (λ_ _=>rfl)) ah)) ah))) (ax (i:=2) Ic.nd rfl (Or.inl rfl))
     (au (bh (jU (bb (jD rfl) (by rfl) O2.all PyProof.Rows.boot_all (aa (cO (N:=["_law_name", "_law_first", "_law_bit_here"]) (js:=[none,none,none]) (g:=ku K 2 (dj (ku K 2 (dj (cw 0) (dj (cw 1) kr))) (dj (cw 2) kr))) (by kernel_rfl) rfl (qR (by rfl) O2.zip (aa (bz hu (pv 0) ay (λ_ _=>rfl)) (aa (pv 2) ah)))
      (λ_ _ _ _ _ _=>cJ rfl (aJ (cJ rfl (aJ (ax (i:=0) DN rfl (Or.inl rfl) (.inr rfl)) (aJ (ax (i:=1) DN rfl (Or.inl rfl) (.inr rfl)) b8))) (aJ (ax (i:=2) DN rfl (Or.inl rfl) (.inr rfl)) b8))) (λ_ _ _ _ _ _=>br)
      (λ_ _ _ _ _ _=>Cu (nh (DZ (pv 1))) (yF (gp cU (pv 1) (pv 2) (aS _))))) ah)))
      (au (cZ (cV PySem.F.plainAttrs_list PySem.F.slot_list_append PySem.F.type_list_append cz (pv 1) (aa (pv 2) ah)))) aT)))
    (au (aB (pv 1)))),?_⟩
   refine ⟨(by show 0<=sizeLine; decide),λp hp=>?_⟩
   have t0:ai H (upd H p (.lst [])):=ai.aq hp
   have q0:(upd H p (.lst [])) p=some (.lst (([]:List Addr).map V.ref)):=ae
   generalize upd H p (.lst [])=H0 at t0 q0 ⊢
   have hM0:=hM.same t0
   obtain ⟨ks,AB,Cd⟩:=id hM0.kp
   have Jx:=Cd.length
   rw [List.length_map] at Jx
   refine ⟨_,rfl,m,.ref a2,rfl,bH.k (k:=.inr "keepers") hM0.top,a2,_,rfl,.inl (ak.of AB),?_⟩
   rw [List.length_map]
   refine ⟨_,rfl,by omega,by omega,λa us H1 s1 ha Sn eu=>?_⟩
   have ekn:((ks.length:Int)).toNat=M.keepers.length:=by omega
   rw [ekn] at eu
   have hlr:(dw M.keepers.length).length<=64:=by
    rw [rF]
    have h2:2 ^ M.keepers.length<=2 ^ 6:=Nat.pow_le_pow_right (by decide) hk6
    omega
   have fz:=eu.length
   have npa:a≠p:=λe=>by rw [e,q0] at ha; cases ha
   have il:=s1 _ _ q0
   have Vy:∀v∈M.keepers.map (·.2),wj v:=λv hv=>by
    obtain ⟨r,kf,rfl⟩:=List.mem_map.mp hv
    exact wQ r kf
   have xR:=tV M.keepers.length
   have a2p:a2≠p:=λe=>by
    obtain ⟨k2,h2,_⟩:=id hM.kp
    rw [e,hp] at h2
    cases h2
   have mp:m≠p:=λe=>by have:=hM.top; rw [e,hp] at this; cases this
   generalize Jt:dw M.keepers.length=rows at eu hlr fz kk xR
   generalize xI:M.keepers.map (·.2)=fs at Vy kk
   have Fh:fs.length=M.keepers.length:=by rw [← xI,List.length_map]
   refine ⟨a,rfl,⟨_,ak.of Sn⟩,gQ (K:=K) (a:=a) (xs:=us.map V.ref) (λi σ Hi=>∃(ws:List Addr) (v2:Option V),σ=[some (.ref m),some (.ref p),v2]/\Hi p=some (.lst (ws.map V.ref))/\gI K Hi ws ((rows.take i).filter (iq fs))/\aQ H1 Hi p) ?_ ?_ ?_ ?_⟩
   . exact ⟨[],none,rfl,il,.nil,aQ.refl _ _⟩
   . rintro i σ Hi _ ⟨_,_,_,_,_,ki⟩
     exact ak.of (ki _ _ Sn npa)
   . rintro i xv σ Hi hx ⟨ws,v2,rfl,ve,gH,ki⟩
     have hi:i<us.length:=by
      have:=(List.getElem?_eq_some_iff.mp hx).1
      rwa [List.length_map] at this
     have zV:i<rows.length:=by omega
     have xB:rows[i]?=some rows[i]:=List.getElem?_eq_getElem zV
     obtain ⟨t,ht,hT⟩:=bq eu (i:=i) xB
     have ex:xv=.ref t:=by
      rw [List.getElem?_map,ht] at hx
      exact (Option.some.inj hx).symm
     subst ex
     have gk:=xR _ (List.getElem_mem zV)
     have AD:=Bb (p:=iq fs) xB
     generalize rows[i]=r at hT gk AD
     have xS:aV K Hi t (r.map V.int):=aQ.yu ki il hT
     have k8:Hi m=some (.dK (eP a1 a2 a3 a4 a5 a6)):=ki _ _ (s1 _ _ hM0.top) mp
     have wX:Hi a2=some (.lst (ks.map V.ref)):=ki _ _ (s1 _ _ AB) a2p
     have pk2:Paired (λt r=>Hi t=some (.tup r)) ks (M.keepers.map iV):=Paired.bE Cd λt r e=>ki _ _ (s1 _ _ e) (bg (s1 _ _ e) il (by intro z; cases z))
     have mn:=gH.length
     have ags:((rows.take i).filter (iq fs)).length<=64:=by
      refine Nat.le_trans (List.length_filter_le _ _) ?_
      rw [List.length_take]
      omega
     refine ⟨_,rfl,m,.ref a2,rfl,bH.k (k:=.inr "keepers") k8,_,rfl,a2,t,rfl,⟨_,ak.of wX⟩,⟨_,xS⟩,λD hD=>?_⟩
     refine cX fs.length (λj acc σ H4=>acc=(((fs.zip r).take j).map λp=>gn p.1 p.2).map V.bl/\(∃u v x,σ=[u,v,x])/\ai Hi H4) ⟨rfl,⟨none,none,none,rfl⟩,ai.aq hD⟩ ae ?_ ?_
     . rintro acc σ H4 a9 ⟨rfl,_,s4⟩
       rw [List.take_of_length_le (by rw [List.length_zip]; omega)] at a9
       refine ⟨⟨_,(show ZK K false H4 a2 _ from ak.of (s4 _ _ wX)),by rw [List.length_map,Jx,Fh]; exact Nat.le_refl _⟩,D,_,rfl,ak.of a9,?_⟩
       rw [← Ib (by omega)]
       have eV:=s4 _ _ ve
       refine ⟨_,rfl,cA (λh=>?_) (λh=>?_)⟩
       . rw [if_pos h] at AD
         refine ⟨_,rfl,.inl ⟨rfl,_,ak.of eV⟩,_,rfl,p,_,_,rfl,rfl,eV,(by rw [List.length_map]; exact small (by omega)),ws++[t],_,rfl,(by rw [ae,List.map_append]; rfl),?_,?_⟩
         . rw [AD]
           have kp:aQ H4 (upd H4 p (.lst (ws.map V.ref++[.ref t]))) p:=aQ.lV
           exact Paired.snoc (Paired.bE gH λu b e=>aQ.yu kp eV (ai.dX s4 e)) (aQ.yu kp eV (ai.dX s4 xS))
         . intro b o hb hn
           rw [ag hn]
           exact s4 _ _ (ki _ _ hb hn)
       . rw [if_neg h,List.append_nil] at AD
         exact ⟨ws,_,rfl,eV,by rw [AD]; exact gH.same s4,λb o hb hn=>s4 _ _ (ki _ _ hb hn)⟩
     . rintro j acc σ H4 hj a9 ⟨rfl,⟨u,v,x,rfl⟩,s4⟩
       have hjr:j<r.length:=by omega
       have So:j<M.keepers.length:=by omega
       have Sq:M.keepers[j]?=some M.keepers[j]:=List.getElem?_eq_getElem So
       obtain ⟨kt,hkt,eK⟩:=bq pk2 (i:=j) (b:=iV M.keepers[j]) (by rw [List.getElem?_map,Sq]; rfl)
       have e1:(ks.map V.ref)[j]?=some (.ref kt):=by rw [List.getElem?_map,hkt]; rfl
       have e2:(r.map V.int)[j]?=some (.int r[j]):=by rw [List.getElem?_map,List.getElem?_eq_getElem hjr]; rfl
       have z1:ZK K false H4 a2 (ks.map V.ref):=ak.of (s4 _ _ wX)
       have z2:ZK K true H4 t (r.map V.int):=ai.dX s4 xS
       refine ⟨⟨_,_,_,_,z1,z2,e1,e2⟩,?_⟩
       rintro x' H' ⟨Tp,xa,xb,rfl,hV,rfl,h1,h2⟩
       have e3:=h1 _ z1
       have e4:=h2 _ z2
       rw [e1] at e3
       rw [e2] at e4
       cases e3
       cases e4
       have sT:ai H4 (upd H4 Tp (.tup [.ref kt,.int r[j]])):=ai.aq hV
       have Oo:=sT _ _ a9
       have efj:fs[j]=M.keepers[j].2:=by
        have:fs[j]?=some M.keepers[j].2:=by rw [← xI,List.getElem?_map,Sq]; rfl
        rw [List.getElem?_eq_getElem hj] at this
        exact Option.some.inj this
       have hz:(fs.zip r)[j]?=some (M.keepers[j].2,r[j]):=by rw [List.getElem?_eq_getElem (by rw [List.length_zip]; omega),List.getElem_zip,efj]
       have hvi:wj M.keepers[j].2:=wQ _ (List.getElem_mem So)
       refine ⟨Tp,_,rfl,aV.of ae,rfl,_,_,rfl,kt,_,rfl,aV.of (sT _ _ (s4 _ _ eK)),rfl,_,_,rfl,_,_,rfl,rfl,_,_,rfl,rfl,jo ?_⟩
       refine ⟨_,rfl,_,rfl,?_⟩
       have fin:∀b,b=gn M.keepers[j].2 r[j]->∃acc,(upd H4 Tp (.tup [.ref kt,.int r[j]])) D=some (.lst acc)/\acc.length<sizeLine/\∃m',m'<fs.length-j/\yV D fs.length (λj acc σ H4=>acc=(((fs.zip r).take j).map λp=>gn p.1 p.2).map V.bl/\(∃u v x,σ=[u,v,x])/\ai Hi H4) (j+1) m' [some (.str M.keepers[j].1),some M.keepers[j].2,some (.int r[j])] (upd (upd H4 Tp (.tup [.ref kt,.int r[j]])) D (.lst (acc++[.bl b]))):=by
        rintro b rfl
        refine ⟨_,Oo,?_,bo hj ae ⟨?_,⟨_,_,_,rfl⟩,?_⟩⟩
        . rw [List.length_map,List.length_map,List.length_take]
          exact small (by omega)
        . rw [dO (λp:V×Int=>gn p.1 p.2) hz,List.map_append]
          rfl
        . intro y o hy
          rw [ag (af hy hD)]
          exact sT _ _ (s4 y o hy)
       rcases hvi with e | e | e
       . rw [e] at fin ⊢
         refine cu ⟨_,rfl,_,rfl,rfl,?_⟩
         exact fin _ (by rw [gn]; rfl)
       . rw [e] at fin ⊢
         refine cu ⟨_,rfl,_,rfl,rfl,?_⟩
         exact fin _ (by rw [gn]; rfl)
       . rw [e] at fin ⊢
         exact gv (fin _ (by rw [gn]; rfl))
   . rintro σ Hi ⟨ws,v2,rfl,ve,gH,ki⟩
     rw [List.length_map,fz,List.take_length] at gH
     have s2:ai H Hi:=λb o hb=>ki _ _ (s1 _ _ (t0 _ _ hb)) (af hb hp)
     exact ⟨_,rfl,kk p ws Hi s2 hp ve gH⟩
end
theorem Ie {M:aI}{cs:List Int} : n8 M cs=iq (M.keepers.map (·.2)) cs:=by
 unfold n8 iq
 generalize M.keepers=l
 induction l generalizing cs with
 | nil=>rfl
 | cons r l ih=>
  cases cs with
  | nil=>rfl
  | cons c cs=>
   rw [List.map_cons,List.zip_cons_cons,List.zip_cons_cons,List.all_cons,List.all_cons,ih]
   rfl
end Gen
namespace Gen
open PySem L2
abbrev lH:Stmt:=top 57
theorem AE {K:W.Frag}{α:Type}{g:α->Str}{f:α->List V}(hf:∀r,(f r)[0]?=some (.str (g r))){D p:Addr}{Q:Hp->Prop}{H1:Hp}{rows:List α}{ts:List Addr}(hD:H1 D=none) (hp:H1 p=some (.lst (ts.map V.ref))) (h2:Paired (λt r=>H1 t=some (.tup r)) ts (rows.map f)) (hlen:rows.length<=100)
 (fin:Q (upd H1 D (.lst ((rows.map g).map V.str)))) :
 ∃W:Nat->Nat->St->Hp->Prop,(∃m,W 0 m [none] (upd H1 D (.lst [])))/\Bx D (cw 0) sQ (wy (mY K) (vA 0) (tC (.int 0))) (wx K p) W Q:=by
 have np:p≠D:=af hp hD
 have ju:∀o,(upd H1 D o) p=some (.lst (ts.map V.ref)):=λo=>by rw [ag np]; exact hp
 have cj:=h2.length
 rw [List.length_map] at cj
 refine cX rows.length (λi acc σ H=>acc=((rows.take i).map g).map V.str/\(∃v,σ=[v])/\H=upd H1 D (.lst acc)) ⟨rfl,⟨none,rfl⟩,rfl⟩ ae ?_ ?_
 . rintro acc σ H _ ⟨rfl,_,rfl⟩
   refine ⟨⟨_,ak.of (ju _),by rw [List.length_map,cj]; exact Nat.le_refl _⟩,?_⟩
   rw [List.take_length]
   exact fin
 . rintro i acc σ H hi a9 ⟨rfl,⟨v,rfl⟩,rfl⟩
   have xB:rows[i]?=some rows[i]:=List.getElem?_eq_getElem hi
   obtain ⟨t,ht,hT⟩:=bq h2 (i:=i) (b:=f rows[i]) (by rw [List.getElem?_map,xB]; rfl)
   have hx:(ts.map V.ref)[i]?=some (.ref t):=by rw [List.getElem?_map,ht]; rfl
   refine ⟨⟨_,_,ak.of (ju _),hx⟩,?_⟩
   rintro x H' ⟨rfl,bX⟩
   have ex:=bX _ (ak.of (ju _))
   rw [hx] at ex
   cases ex
   refine dv ?_
   have nt:t≠D:=af hT hD
   refine ⟨_,rfl,t,_,_,.str (g rows[i]),rfl,rfl,aV.of (by rw [ag nt]; exact hT),c9 (j:=0) (hf _),_,ae,?_,bo hi ae ⟨?_,⟨_,rfl⟩,by rw [ie]⟩⟩
   . rw [List.length_map,List.length_map,List.length_take]
     exact small (by omega)
   . rw [dO g xB,List.map_append]
     rfl
abbrev nWd:List Str:=["_law_script", "_law_sizes", "_law_m", "_law_names", "_law_told"]
inductive yd (K:W.Frag) (vs:List V) (H:Hp) (Q:VK):Prop
 | mk (a z:Addr) (ns:List Int) (s0 s1 s2 s3:Int) (h1:vs=[.ref a,.ref z]) (h2:ak K H a (ns.map V.int)) (h3:gf K H z s0 s1 s2 s3) (h4:(∃o,H z=some o)) (h5:∀(m:Addr) (M:aI) (names:List Str) (a1 a2 a3 a4 a5 a6:Addr) (H':Hp),eX M names->names.length<=88->((M.switches.length:Int)<=s0/\M.switches.length<=12)->((M.keepers.length:Int)<=s1/\M.keepers.length<=16)->M.aE.length<=60->M.nexts.length<=16->1<=M.nevers.length->(M.nevers.length:Int)<=s3->1<=M.somes.length->(M.somes.length:Int)<=s3->cE H' m M a1 a2 a3 a4 a5 a6->(∀b o,H b=some o->(∀kvs,o≠.dK kvs)->H' b=some o)->Q (.ref m) H'):yd K vs H Q
def tY (K:W.Frag):Sp:=λvs H Q _=>yd K vs H Q
theorem F4 (a1 a2 a3 a4 a5 a6 p:Addr):putK (eP a1 a2 a3 a4 a5 a6) (.inr "somes") (.ref p)=eP a1 a2 a3 a4 a5 p:=by
 unfold eP
 rfl
section
variable {P:Program}{w:World}{K:W.Frag}{mg:Str->Option Value}{base:Heap}
theorem DO:aO nWd ["_law_script", "_law_sizes"] (ao lH):=⟨rfl,rfl,rfl,by decide +kernel,rfl,by decide +kernel,by decide +kernel⟩
theorem F5 {f fM fW fR fC:Addr}{fd dM dW dR dC:FuncData}(F:bJ K "_law_wished" "_law_wished" lH f fd)
 (gM:av P w K mg base az 5 fM dM vU (qv K)) (mM:mg "_law_machine" = some (.ref fM)) (kM:W.keepIn K (.ref fM)=true) (bM:Binds K dM vU [])
 (gW:av P w K mg base az 3 fW dW i9 (oN K)) (mW:mg "_law_wishes" = some (.ref fW)) (kW:W.keepIn K (.ref fW)=true) (bW:Binds K dW i9 [])
 (gR:av P w K mg base az 2 fR dR ["_law_cell", "_law_k"] nK) (mR:mg "_law_rich" = some (.ref fR)) (kR:W.keepIn K (.ref fR)=true) (bR:Binds K dR ["_law_cell", "_law_k"] [])
 (gC:av P w K mg base az 1 fC dC ["_law_script", "_law_k"] (uP K)) (mC:mg "_law_cell_at" = some (.ref fC)) (kC:W.keepIn K (.ref fC)=true) (bC:Binds K dC ["_law_script", "_law_k"] []):av P w K mg base az 6 f fd ["_law_script", "_law_sizes"] (tY K):=by
 refine F.ok DO (λvs H Q E h=>?_) (λcdv A outer s H vs Q E hr h=>?_)
 . obtain ⟨a,z,ns,s0,s1,s2,s3,rfl,_⟩:=h
   rfl
 . obtain ⟨a,z,ns,s0,s1,s2,s3,rfl,hS,hz,uX,kk⟩:=h
   have hu:=cM hr
   have cc:aX 1 _:=hr.mono (by decide)
   have d5:aX 2 _:=hr.mono (by decide)
   have zU:aX 3 _:=hr.mono (by decide)
   refine ⟨_,aj (aK (i:=2) DO.nd rfl (Or.inl rfl) (aw gM hr rfl mM kM bM .nil aA (aa (pv 0) (aa (pv 1) ah))))
    (aj (bh (aL (Ng (Nat.lt_of_succ_lt hu)) (bz hu (pv 2) ay (λ_ _=>rfl)) (cg ah) (aS _))
     (aj (aK (i:=3) DO.nd rfl (Or.inl rfl) (aM gj (aM gj (bz hu (pv 2) ay (λ_ _=>rfl))
      (cO (N:=["_law_one"]) (js:=[none]) (by kernel_rfl) rfl (bO (bz hu (pv 2) ay (λ_ _=>rfl))) (λ_ _ _ _ _ _=>ax (i:=0) zH rfl (Or.inl rfl) (.inr rfl)) (λ_ _ _ _ _ _=>br) (λ_ _ _ _ _ _=>aY (r:=mY K) jZ (pv 0) ar (λ_ _=>rfl))))
      (cO (N:=["_law_one"]) (js:=[none]) (by kernel_rfl) rfl (bO (bz hu (pv 2) ay (λ_ _=>rfl))) (λ_ _ _ _ _ _=>ax (i:=0) zH rfl (Or.inl rfl) (.inr rfl)) (λ_ _ _ _ _ _=>br) (λ_ _ _ _ _ _=>aY (r:=mY K) jZ (pv 0) ar (λ_ _=>rfl)))))
     (aj (qN (i:=4) (N:=["_law_one"]) (js:=[none]) DO.nd rfl rfl (by kernel_rfl) rfl (bO (bz hu (pv 2) ay (λ_ _=>rfl))) (λ_ _ _ _ _ _=>ax (i:=0) zH rfl (Or.inl rfl) (.inr rfl)) (λ_ _ _ _ _ _=>br) (λ_ _ _ _ _ _=>aY (r:=mY K) jZ (pv 0) ar (λ_ _=>rfl)))
     (au (ft hu (pv 2) ay (aw gW zU rfl mW kW bW .nil aA (aa (cg (aa (aw gR d5 rfl mR kR bR .nil aA (aa (aw gC cc rfl mC kC bC .nil aA (aa (pv 0) (aa ar ah))) (aa ar ah))) ah)) (aa (pv 3) (aa (pv 4) (aa ar ah))))) rfl)))) aT)
    (au (aB (pv 2)))),?_⟩
   refine ⟨_,rfl,_,rfl,a,z,ns,s0,s1,s2,s3,rfl,hS,hz,uX,λm M names a1 a2 a3 a4 a5 a6 H1 ok l1 l0 l2 l3 l4 l5 l6 l7 hM sM=>?_⟩
   obtain ⟨ts6,Fl,qp⟩:=id hM.sm
   have Sr:=qp.length
   rw [List.length_map] at Sr
   obtain ⟨_,_,_,_,z3,z3'⟩:=hz
   refine ⟨_,rfl,m,.ref a6,rfl,bH.k (k:=.inr "somes") hM.top,(by show 0<=sizeLine; decide),λe he=>?_⟩
   have s1:ai H1 (upd H1 e (.lst [])):=ai.aq he
   have q1:(upd H1 e (.lst [])) e=some (.lst []):=ae
   generalize upd H1 e (.lst [])=H2 at s1 q1 ⊢
   refine ⟨a6,e,_,rfl,rfl,ak.of (s1 _ _ Fl),ak.of q1,_,rfl,?_⟩
   have hX:=sM.trans s1
   cases hJ:ts6 with
   | cons t r=>
    refine cu ⟨_,rfl,?_⟩
    rw [hJ,List.length_cons] at Sr
    exact kk m M names a1 a2 a3 a4 a5 a6 H2 ok l1 l0 l2 l3 l4 l5 l6 (by omega) l7 (hM.same s1) (λb o hb _=>hX b o hb)
   | nil=>
    refine gv ?_
    have k8:=hM.same s1
    obtain ⟨ks,AB,Cd⟩:=id k8.kp
    refine ⟨_,rfl,m,.ref a1,rfl,bH.k (k:=.inr "switches") k8.top,_,rfl,m,.ref a2,rfl,bH.k (k:=.inr "keepers") k8.top,a2,rfl,⟨_,ak.of AB⟩,λD hD=>AE (K:=K) (f:=iV) (g:=(·.1)) (λ_=>rfl) hD AB Cd (by omega) ?_⟩
    have s3:ai H2 (upd H2 D (.lst ((M.keepers.map (·.1)).map V.str))):=ai.aq hD
    have q3:(upd H2 D (.lst ((M.keepers.map (·.1)).map V.str))) D=some (.lst ((M.keepers.map (·.1)).map V.str)):=ae
    generalize upd H2 D (.lst ((M.keepers.map (·.1)).map V.str))=H3 at s3 q3 ⊢
    have nW:=k8.same s3
    refine ⟨a1,D,_,_,rfl,rfl,nW.sw,q3,(by simp only [List.length_map]; exact iG (by omega)),λc hc=>?_⟩
    have s4:ai H3 (upd H3 c (.lst (M.switches.map V.str++(M.keepers.map (·.1)).map V.str))):=ai.aq hc
    have q4:(upd H3 c (.lst (M.switches.map V.str++(M.keepers.map (·.1)).map V.str))) c=some (.lst ((M.switches++M.keepers.map (·.1)).map V.str)):=by rw [ae,List.map_append]
    generalize upd H3 c (.lst (M.switches.map V.str++(M.keepers.map (·.1)).map V.str))=H4 at s4 q4 ⊢
    have Ss:=nW.same s4
    obtain ⟨gs,jc,pgs⟩:=id Ss.gt
    refine ⟨_,rfl,m,.ref a3,rfl,bH.k (k:=.inr "gates") Ss.top,a3,rfl,⟨_,ak.of jc⟩,λD2 lX=>AE (K:=K) (f:=kG) (g:=(·.1)) (λ_=>rfl) lX jc pgs (by omega) ?_⟩
    have s5:ai H4 (upd H4 D2 (.lst ((M.aE.map (·.1)).map V.str))):=ai.aq lX
    have q5:(upd H4 D2 (.lst ((M.aE.map (·.1)).map V.str))) D2=some (.lst ((M.aE.map (·.1)).map V.str)):=ae
    generalize upd H4 D2 (.lst ((M.aE.map (·.1)).map V.str))=H5 at s5 q5 ⊢
    refine ⟨c,D2,_,_,rfl,rfl,s5 _ _ q4,q5,(by simp only [List.length_map,List.length_append]; exact iG (by omega)),λn hn=>?_⟩
    rw [← List.map_append,← ok.all]
    have s6:ai H5 (upd H5 n (.lst (names.map V.str))):=ai.aq hn
    have q6:(upd H5 n (.lst (names.map V.str))) n=some (.lst (names.map V.str)):=ae
    generalize upd H5 n (.lst (names.map V.str))=H6 at s6 q6 ⊢
    have Su:=((s3.trans s4).trans s5).trans s6
    have vf:=k8.same Su
    obtain ⟨vs5,Sv,pv5⟩:=id vf.nv
    refine ⟨_,rfl,m,.ref a5,rfl,bH.k (k:=.inr "nevers") vf.top,a5,rfl,⟨_,ak.of Sv⟩,λD3 qk=>AE (K:=K) (f:=gd) (g:=(·.1)) (λ_=>rfl) qk Sv pv5 (by omega) ?_⟩
    have s7:ai H6 (upd H6 D3 (.lst ((M.nevers.map (·.1)).map V.str))):=ai.aq qk
    have q7:(upd H6 D3 (.lst ((M.nevers.map (·.1)).map V.str))) D3=some (.lst ((M.nevers.map (·.1)).map V.str)):=ae
    generalize upd H6 D3 (.lst ((M.nevers.map (·.1)).map V.str))=H7 at s7 q7 ⊢
    have xQ:=hX.trans (Su.trans s7)
    refine ⟨_,rfl,a,ns,1,rfl,ai.seq xQ hS,by decide,λv=>⟨v,46,rfl,by decide,by decide,λv'=>⟨(by show 1<=sizeLine; decide),λl hl=>?_⟩⟩⟩
    have s8:ai H7 (upd H7 l (.lst [.int v'])):=ai.aq hl
    have q8:(upd H7 l (.lst [.int v'])) l=some (.lst [.int v']):=ae
    have nnl:n≠l:=af (s7 _ _ q6) hl
    have ntl:D3≠l:=af q7 hl
    have ml:m≠l:=af (s7 _ _ vf.top) hl
    generalize upd H7 l (.lst [.int v'])=H8 at s8 q8 ⊢
    have hM8:=vf.same (s7.trans s8)
    refine ⟨_,rfl,_,rfl,l,n,D3,_,names,M.nevers.map (·.1),1,rfl,q8,.inl ⟨_,rfl⟩,nnl,ntl,ak.of (s8 _ _ (s7 _ _ q6)),by omega,ok.nm,s8 _ _ q7,(by rw [List.length_map]; omega),by decide,by decide,λp rows ys H9 hp hW gk hT vw hl9 k9=>?_⟩
    have Ig:H9 m=some (.dK (eP a1 a2 a3 a4 a5 a6)):=k9 _ _ hM8.top ml
    refine ⟨_,rfl,m,_,rfl,iS.k (k:=.inr "somes") Ig (by show 6<sizeLine; decide),?_⟩
    rw [F4]
    have kU:∀b o,H8 b=some o->b≠l->b≠m->(upd H9 m (.dK (eP a1 a2 a3 a4 a5 p))) b=some o:=λb o hb h1 h2=>by rw [ag h2]; exact k9 b o hb h1
    have nl:∀{b:Addr}{o:HO},H7 b=some o->b≠l:=λhb=>af hb (by exact hl)
    have su:=vf.same s7
    have lm:∀{b:Addr}{xs:List V},H7 b=some (.lst xs)->b≠m:=λhb=>bg hb su.top (by intro z; cases z)
    have tm:∀{b:Addr}{xs:List V},H7 b=some (.tup xs)->b≠m:=λhb=>bg hb su.top (by intro z; cases z)
    have up:∀{q:Addr}{rs:List (List V)},bp H7 q rs->bp (upd H9 m (.dK (eP a1 a2 a3 a4 a5 p))) q rs:=λ{q rs} ⟨ts,g1,g2⟩=>⟨ts,kU _ _ (s8 _ _ g1) (nl g1) (lm g1),Paired.bE g2 λt r e=>kU _ _ (s8 _ _ e) (nl e) (tm e)⟩
    have Nd:bp (upd H9 m (.dK (eP a1 a2 a3 a4 a5 p))) p (rows.map gd):=by
     obtain ⟨ts,g1,g2⟩:=hT
     exact ⟨ts,by rw [ag (bg g1 Ig (by intro z; cases z))]; exact g1,Paired.bE g2 λt r e=>by rw [ag (bg e Ig (by intro z; cases z))]; exact e⟩
    refine ⟨_,rfl,kk m { M with somes:=rows } names a1 a2 a3 a4 a5 p _ ⟨ok.all,ok.nm,ok.nd,ok.first,ok.nxk,ok.nxl,ok.nxd,ok.nvw,hW,ok.gl⟩ l1 l0 l2 l3 l4 l5 l6 (by show 1<=rows.length; rw [gk]; decide) (by show (rows.length:Int)<=_; rw [gk]; omega) ⟨ae,kU _ _ (s8 _ _ su.sw) (nl su.sw) (lm su.sw),up su.kp,up su.gt,up su.nx,up su.nv,Nd⟩ λb o hb hn=>?_⟩
    exact kU b o (s8 _ _ (xQ _ _ hb)) (nl (xQ _ _ hb)) (bg (xQ _ _ hb) su.top (hn _))
end
end Gen
namespace Gen
open PySem L2
abbrev ia:Stmt:=top 58
theorem tZ {ys:List V}(h:cD ys) (us:List Addr):us.map V.ref≠ys:=by
 rcases h with ⟨a,rfl⟩ | ⟨a,b,rfl⟩ <;> cases us <;> intro z <;> simp at z
theorem Ih {ys:List V}(h:cD ys) (us:List Str):us.map V.str≠ys:=by
 rcases h with ⟨a,rfl⟩ | ⟨a,b,rfl⟩ <;> cases us <;> intro z <;> simp at z
section
variable {K:W.Frag}{H H':Hp}{l r t m a1 a2 a3 a4 a5 a6:Addr}{us:List Addr}{bs:List Int}{bss:List (List Int)}{ys:List V}{M:aI}
theorem bY.gJ (h:bY K H t bs) (k:aQ H H' l) (hl:H l=some (.lst ys)):bY K H' t bs:=aQ.yu k hl h
theorem b7.gJ (h:b7 K H r us bss) (k:aQ H H' l) (hl:H l=some (.lst ys)) (hp:r≠l):b7 K H' r us bss:=⟨k _ _ h.at_ hp,Paired.bE h.all λ_ _ e=>bY.gJ e k hl⟩
theorem b7.sv (h:b7 K H r us bss) (hl:H l=some (.lst ys)) (hp:cD ys):r≠l:=bg h.at_ hl λz=>tZ hp us (HO.lst.inj z)
theorem cE.gJ (h:cE H m M a1 a2 a3 a4 a5 a6) (k:aQ H H' l) (hl:H l=some (.lst ys)) (hp:cD ys):cE H' m M a1 a2 a3 a4 a5 a6:=by
 have tk:∀{p:Addr}{rs:List (List V)},bp H p rs->bp H' p rs:=λ{p rs} ht=>by
  obtain ⟨ts,g1,_⟩:=id ht
  exact ht.keep k hl (bg g1 hl λz=>tZ hp ts (HO.lst.inj z))
 exact ⟨k _ _ h.top (bg h.top hl (by intro z; cases z)),k _ _ h.sw (bg h.sw hl λz=>Ih hp _ (HO.lst.inj z)),tk h.kp,tk h.gt,tk h.nx,tk h.nv,tk h.sm⟩
end
theorem ua:∀(k:Nat),∀r∈dw k,bZ k r
 | 0,r,h=>by
  have:r=[]:=by simpa [dw] using h
  rw [this]
  exact ⟨rfl,λ_ hb=>nomatch hb⟩
 | k+1,r,h=>by
  rw [dw] at h
  obtain ⟨q,hq,hr⟩:=List.mem_flatMap.mp h
  have ih:=ua k q hq
  simp only [List.mem_cons,List.not_mem_nil,or_false] at hr
  rcases hr with rfl | rfl
  . refine ⟨by rw [List.length_append,← ih.1]; rfl,λb hb=>?_⟩
    rcases List.mem_append.mp hb with hb | hb
    . exact ih.2 b hb
    . exact .inl (List.mem_singleton.mp hb)
  . refine ⟨by rw [List.length_append,← ih.1]; rfl,λb hb=>?_⟩
    rcases List.mem_append.mp hb with hb | hb
    . exact ih.2 b hb
    . exact .inr (List.mem_singleton.mp hb)
theorem F6 {rows:List (List Int)}{f:V}(h:rows≠[]):rE rows f≠[]:=by
 unfold rE
 cases rows with
 | nil=>exact absurd rfl h
 | cons r l=>
  rw [List.flatMap_cons]
  unfold yt
  split
  . simp
  . split <;> simp
theorem Ii (fs:List V):wk fs≠[]:=by
 unfold wk
 have:∀(fs:List V) (acc:List (List Int)),acc≠[]->fs.foldl rE acc≠[]:=λfs=>by
  induction fs with
  | nil=>exact λacc h=>h
  | cons f fs ih=>exact λacc h=>ih _ (F6 h)
 exact this fs _ (by simp)
theorem DP {M:aI}(h:∀r∈M.keepers,wj r.2):0<((dw M.keepers.length).filter (iq (M.keepers.map (·.2)))).length:=by
 rw [← Cc M.keepers.length (M.keepers.map (·.2)) (List.length_map ..) λv hv=>by
  obtain ⟨r,kf,rfl⟩:=List.mem_map.mp hv
  exact h r kf]
 exact List.length_pos_iff.mpr (Ii _)
theorem Ce {α:Type}{x:α} : ∀{l:List α},x∈l->∃j,∃hj:j<l.length,l[j]=x/\∀i (hi:i<l.length),i<j->l[i]≠x
 | y::l,h=>by
  by_cases e:y=x
  . exact ⟨0,Nat.zero_lt_succ _,e,λi _ hi=>absurd hi (Nat.not_lt_zero _)⟩
  . obtain ⟨j,hj,h1,h2⟩:=Ce ((List.mem_cons.mp h).resolve_left λq=>e q.symm)
    refine ⟨j+1,Nat.succ_lt_succ hj,h1,λi hi cq=>?_⟩
    cases i with
    | zero=>exact e
    | succ i=>exact h2 i (Nat.lt_of_succ_lt_succ hi) (Nat.lt_of_succ_lt_succ cq)
abbrev Sw:List Str:=["_law_m", "_law_literal_here", "_law_left", "_law_stands", "_law_firsts_here", "_law_first", "_law_stand", "_law_row", "_law_been", "_law_k", "_law_told", "_law_good", "_law_at"]
abbrev Cf:List Str:=["_law_m", "_law_literal_here", "_law_left"]
theorem iY:aO Sw Cf (ao ia):=⟨rfl,rfl,rfl,by decide +kernel,rfl,by decide +kernel,by decide +kernel⟩
theorem Vz:(["_law_one", "_law_m", "_law_stand", "_law_literal_here"]:List Str).Nodup:=by decide +kernel
abbrev Ot (P:Program) (w:World) (K:W.Frag) (mg:Str->Option Value) (base:Heap) (f:Addr) (cdv:Value) (A:Around) (outer:List Env) (s:Shared) (H:Hp) (E:XK):Cx:=
 (iR az P w K mg base Sw "_law_row_by" (ao ia) f cdv A outer s H E).nj
inductive AF (K:W.Frag) (vs:List V) (H:Hp) (Q:VK):Prop
 | mk (m a1 a2 a3 a4 a5 a6 lf:Addr) (M:aI) (names:List Str) (l:Str) (ys:List V) (h1:vs=[.ref m,.str l,.ref lf]) (h2:cE H m M a1 a2 a3 a4 a5 a6) (h3:Fm M names) (h4:Lit names l) (h5:M.keepers.length<=6) (h6:M.switches.length<=6) (h7:H lf=some (.lst ys)) (h8:cD ys) (h9:∀(T fi r:Addr) (us:List Addr) (cs:List Int) (bss:List (List Int)) (k:Int) (H':Hp),aQ H H' lf->H' T=some (.tup [.ref fi,.ref r,.int k])->bY K H' fi cs->bZ M.keepers.length cs->b7 K H' r us bss->(∀bs∈bss,bZ M.switches.length bs)->1<=bss.length->bss.length<=6->Q (.ref T) H'):AF K vs H Q
def wm (K:W.Frag):Sp:=λvs H Q _=>AF K vs H Q
structure ir (K:W.Frag) (H Hi:Hp) (m a1 a2 a3 a4 a5 a6 lf r q fi st:Addr) (M:aI) (us ws:List Addr) (c0 cs:List Int) (bss fJ:List (List Int)) (i j:Nat):Prop where
 hM0:cE H m M a1 a2 a3 a4 a5 a6
 hl0:∃ys,H lf=some (.lst ys)/\cD ys
 hrn:H r=none
 hqn:H q=none
 rq:r≠q
 hl:∃ys,Hi lf=some (.lst ys)/\cD ys
 hfi:bY K Hi fi c0
 h0:bZ M.keepers.length c0
 hst:bY K Hi st cs
 hc:bZ M.keepers.length cs
 row:b7 K Hi r us bss
 hb:∀bs∈bss,bZ M.switches.length bs
 been:b7 K Hi q ws fJ
 l1:bss.length=i
 l2:fJ.length=j
 kp:aQ H Hi lf
section
variable {K:W.Frag}{H Hi Hj:Hp}{m a1 a2 a3 a4 a5 a6 lf r q fi st:Addr}{M:aI}{us ws:List Addr}{c0 cs:List Int}{bss fJ:List (List Int)}{i j:Nat}
theorem bY.mi {t p:Addr}{bs:List Int}{xs zs:List V}(h:bY K Hi t bs) (hp:Hi p=some (.lst xs)):bY K (upd Hi p (.lst zs)) t bs:=aV.keep h λo _ hl ho=>by rw [ag (bg ho hp (hl _))]; exact ho
theorem b7.mi {t p:Addr}{vs:List Addr}{bss:List (List Int)}{xs zs:List V}(h:b7 K Hi t vs bss) (hp:Hi p=some (.lst xs)) (n:t≠p):b7 K (upd Hi p (.lst zs)) t vs bss:=⟨by rw [ag n]; exact h.at_,Paired.bE h.all λ_ _ e=>bY.mi e hp⟩
theorem ir.hM (h:ir K H Hi m a1 a2 a3 a4 a5 a6 lf r q fi st M us ws c0 cs bss fJ i j):cE Hi m M a1 a2 a3 a4 a5 a6:=let ⟨_,g,p⟩:=h.hl0; h.hM0.gJ h.kp g p
theorem ir.same (h:ir K H Hi m a1 a2 a3 a4 a5 a6 lf r q fi st M us ws c0 cs bss fJ i j) (s:ai Hi Hj):ir K H Hj m a1 a2 a3 a4 a5 a6 lf r q fi st M us ws c0 cs bss fJ i j:=
 ⟨h.hM0,h.hl0,h.hrn,h.hqn,h.rq,let ⟨ys,g,p⟩:=h.hl; ⟨ys,s _ _ g,p⟩,h.hfi.same s,h.h0,h.hst.same s,h.hc,h.row.same s,h.hb,h.been.same s,h.l1,h.l2,λb o hb hn=>s _ _ (h.kp b o hb hn)⟩
theorem ir.pick (h:ir K H Hi m a1 a2 a3 a4 a5 a6 lf r q fi st M us ws c0 cs bss fJ i j) (k:aQ Hi Hj lf){zs:List V}(hz:Hj lf=some (.lst zs)) (hp:cD zs):ir K H Hj m a1 a2 a3 a4 a5 a6 lf r q fi st M us ws c0 cs bss fJ i j:=by
 obtain ⟨ys,g,p⟩:=h.hl
 exact ⟨h.hM0,h.hl0,h.hrn,h.hqn,h.rq,⟨zs,hz,hp⟩,h.hfi.gJ k g,h.h0,h.hst.gJ k g,h.hc,h.row.gJ k g (h.row.sv g p),h.hb,h.been.gJ k g (h.been.sv g p),h.l1,h.l2,λb o hb hn=>k _ _ (h.kp b o hb hn) hn⟩
theorem ir.Ou (h:ir K H Hi m a1 a2 a3 a4 a5 a6 lf r q fi st M us ws c0 cs bss fJ i j){u:Addr}{bs:List Int}(hu:bY K Hi u bs) (hbs:bZ M.switches.length bs):ir K H (upd Hi r (.lst (us.map V.ref++[.ref u]))) m a1 a2 a3 a4 a5 a6 lf r q fi st M (us++[u]) ws c0 cs (bss++[bs]) fJ (i+1) j:=by
 obtain ⟨ys,g,p⟩:=h.hl
 refine ⟨h.hM0,h.hl0,h.hrn,h.hqn,h.rq,⟨ys,by rw [ag (Ne.symm (h.row.sv g p))]; exact g,p⟩,h.hfi.mi h.row.at_,h.h0,h.hst.mi h.row.at_,h.hc,h.row.snoc hu,λb ee=>?_,h.been.mi h.row.at_ (Ne.symm h.rq),by rw [List.length_append,List.length_singleton,h.l1],h.l2,λb o ee hn=>?_⟩
 . rcases List.mem_append.mp ee with h' | h'
   . exact h.hb b h'
   . rw [List.mem_singleton.mp h']; exact hbs
 . rw [ag (af ee h.hrn)]
   exact h.kp b o ee hn
theorem ir.Lu (h:ir K H Hi m a1 a2 a3 a4 a5 a6 lf r q fi st M us ws c0 cs bss fJ i j):ir K H (upd Hi q (.lst (ws.map V.ref++[.ref st]))) m a1 a2 a3 a4 a5 a6 lf r q fi st M us (ws++[st]) c0 cs bss (fJ++[cs]) i (j+1):=by
 obtain ⟨ys,g,p⟩:=h.hl
 refine ⟨h.hM0,h.hl0,h.hrn,h.hqn,h.rq,⟨ys,by rw [ag (Ne.symm (h.been.sv g p))]; exact g,p⟩,h.hfi.mi h.been.at_,h.h0,h.hst.mi h.been.at_,h.hc,h.row.mi h.been.at_ h.rq,h.hb,h.been.snoc h.hst,h.l1,by rw [List.length_append,List.length_singleton,h.l2],λb o ee hn=>?_⟩
 rw [ag (af ee h.hqn)]
 exact h.kp b o ee hn
theorem ir.Q9 (h:ir K H Hi m a1 a2 a3 a4 a5 a6 lf r q fi st M us ws c0 cs bss fJ i j){a7:Addr}{Ov:List Int}(h1:bY K Hi a7 Ov) (h2:bZ M.keepers.length Ov):ir K H Hi m a1 a2 a3 a4 a5 a6 lf r q fi a7 M us ws c0 Ov bss fJ i j:=
 ⟨h.hM0,h.hl0,h.hrn,h.hqn,h.rq,h.hl,h.hfi,h.h0,h1,h2,h.row,h.hb,h.been,h.l1,h.l2,h.kp⟩
end
section
variable {P:Program}{w:World}{K:W.Frag}{mg:Str->Option Value}{base:Heap}{fP:Addr}{dP:FuncData}
theorem Lv {f:Addr}(O2:eB mg) (gP:av P w K mg base az 1 fP dP ["_law_left", "_law_many"] j6) (mP:mg "_law_pick" = some (.ref fP)) (kP:W.keepIn K (.ref fP)=true) (bP:Binds K dP ["_law_left", "_law_many"] [])
 {cdv:Value}{A:Around}{outer:List Env}{s:Shared}{H:Hp}{E:XK}{Q:VK}(hr:aX 3 (A.deeper (PyProof.Rows.envOfC "_law_row_by" (ao ia) s.heap.objs.size f cdv))) :
 ∃tR:TS,gx (Ot P w K mg base f cdv A outer s H E) (List.drop 8 (aD ia)) tR/\∀(H0 Hi:Hp) (m a1 a2 a3 a4 a5 a6 lf r q fi st:Addr) (M:aI) (us ws:List Addr) (c0 cs:List Int) (bss fJ:List (List Int)) (i:Nat) (l:Str) (v3 v4 v9 v10 v11:Option V),
  ir K H0 Hi m a1 a2 a3 a4 a5 a6 lf r q fi st M us ws c0 cs bss fJ i i->1<=i->i<=6->
  (∀(T fi r:Addr) (us:List Addr) (cs:List Int) (bss:List (List Int)) (k:Int) (H':Hp),aQ H0 H' lf->H' T=some (.tup [.ref fi,.ref r,.int k])->bY K H' fi cs->bZ M.keepers.length cs->b7 K H' r us bss->(∀bs∈bss,bZ M.switches.length bs)->1<=bss.length->bss.length<=6->Q (.ref T) H')->
  tR { nx:=λ_ H'=>Q .aZ H',rt:=Q } [some (.ref m),some (.str l),some (.ref lf),v3,v4,some (.ref fi),some (.ref st),some (.ref r),some (.ref q),v9,v10,v11,none] Hi:=by
 have hu:=cM hr
 have Jy:=Nat.lt_of_le_of_lt (Nat.add_le_add_left (by decide:2<=64) _) hr.units
 have cc:aX 1 _:=hr.mono (by decide)
 refine ⟨_,aj (aK (i:=12) iY.nd rfl (Or.inl rfl) (aM uh (aw gP cc rfl mP kP bP .nil aA (aa (pv 2) (aa (aM dJ (bb bj (by rfl) O2.len PySem.boot_len (aa (pv 7) ah)) ar) ah))) ar))
  (aj (vS (bh (pL (aL (Na Jy) (pv 6) (pv 8) (by with_unfolding_all rfl)) (ni (aL mj (aw gP cc (by rfl) mP kP bP .nil aA (aa (pv 2) (aa ar ah))) ar (aS _)))).pt
   (au (aK (i:=12) iY.nd rfl (Or.inl rfl) (cV PySem.F.plainAttrs_list PySem.F.slot_list_index PySem.F.type_list_index (E8 (n:=1) Jy) (pv 8) (aa (pv 6) ah)))) aT))
  (au (aB (dm (aa (pv 5) (aa (pv 7) (aa (pv 12) ah))))))),?_⟩
 intro H0 Hi m a1 a2 a3 a4 a5 a6 lf r q fi st M us ws c0 cs bss fJ i l v3 v4 v9 v10 v11 h i1 i6 kk
 obtain ⟨ys,vx,vw⟩:=h.hl
 have fz:=h.row.len
 have h1:=h.l1
 refine ⟨_,rfl,_,rfl,r,_,rfl,.inl (ak.of h.row.at_),_,_,rfl,rfl,lf,ys,_,rfl,vx,vw,(by rw [List.length_map]; omega),(by rw [List.length_map]; omega),λd zs H1 d0 d1 il cC k1=>?_⟩
 refine ⟨_,_,rfl,rfl,?_⟩
 have g1:=h.pick k1 cC il
 refine ⟨λσ H2=>∃k:Int,σ=[some (.ref m),some (.str l),some (.ref lf),v3,v4,some (.ref fi),some (.ref st),some (.ref r),some (.ref q),v9,v10,v11,some (.int k)]/\ir K H0 H2 m a1 a2 a3 a4 a5 a6 lf r q fi st M us ws c0 cs bss fJ i i,?_,?_⟩
 . refine ⟨_,rfl,_,rfl,st,q,cs,ws,fJ,rfl,rfl,g1.hst,ak.of g1.been.at_,g1.been.all,_,rfl,cA (λpk=>?_) (λ_=>?_)⟩
   . refine ⟨_,rfl,lf,zs,4,rfl,cC,il,by decide,by decide,λd' Jz H2 Sx Ow cx cj k2=>?_⟩
     have g2:=g1.pick k2 cj cx
     refine ⟨_,_,rfl,rfl,_,rfl,cA (λ_=>?_) (λ_=>⟨_,rfl,g2⟩)⟩
     obtain ⟨j,hj,e1,e2⟩:=Ce (of_decide_eq_true pk)
     refine ⟨_,rfl,.inl ⟨rfl,_,ak.of g2.been.at_⟩,_,rfl,q,.ref st,_,dT cs,fJ.map dT,rfl,rfl,ak.of g2.been.at_,tf (Paired.bE g2.been.all λ_ _ e=>i4 e),i4 g2.hst,mr _,λe he=>?_,(by rw [qS]; exact Nat.le_refl _),j,(by rw [List.length_map]; exact hj),?_,λi' pf cq=>?_,⟨_,rfl,g2⟩⟩
     . obtain ⟨c,_,rfl⟩:=List.mem_map.mp he
       exact mr c
     . rw [List.getElem_map,oM,e1]
       exact decide_eq_true rfl
     . rw [List.getElem_map,oM]
       exact decide_eq_false (e2 i' (by rw [List.length_map] at pf; exact pf) cq)
   . exact cu ⟨_,rfl,g1⟩
 . rintro σ H2 ⟨k,rfl,g2⟩
   refine ⟨_,rfl,_,rfl,_,rfl,(by show 3<=sizeLine; decide),λT hT=>?_⟩
   have g3:=g2.same (ai.aq (o:=.tup [.ref fi,.ref r,.int k]) hT)
   exact kk T fi r us c0 bss k _ g3.kp ae g3.hfi g3.h0 g3.row g3.hb (by omega) (by omega)
end
end Gen
namespace Gen
open PySem L2
section
variable {P:Program}{w:World}{K:W.Frag}{mg:Str->Option Value}{base:Heap}
structure rH (P:Program) (w:World) (K:W.Frag) (mg:Str->Option Value) (base:Heap) (fP fA fF fV fB fN:Addr) (dP dA dF dV dB dN:FuncData):Prop where
 gP:av P w K mg base az 1 fP dP ["_law_left", "_law_many"] j6
 mP:mg "_law_pick" = some (.ref fP)
 kP:W.keepIn K (.ref fP)=true
 bP:Binds K dP ["_law_left", "_law_many"] []
 gA:av P w K mg base az 1 fA dA ["_law_many"] (vt K)
 mA:mg "_law_all_bits" = some (.ref fA)
 kA:W.keepIn K (.ref fA)=true
 bA:Binds K dA ["_law_many"] []
 gF:av P w K mg base az 2 fF dF ["_law_m"] (tX K)
 mF:mg "_law_firsts" = some (.ref fF)
 kF:W.keepIn K (.ref fF)=true
 bF:Binds K dF ["_law_m"] []
 gV:av P w K mg base az 2 fV dV mG (oV K)
 mV:mg "_law_values" = some (.ref fV)
 kV':W.keepIn K (.ref fV)=true
 bV:Binds K dV mG []
 gB:av P w K mg base az 1 fB dB ["_law_values_here", "_law_literal_here"] iJ
 mB:mg "_law_bit" = some (.ref fB)
 kB:W.keepIn K (.ref fB)=true
 bB:Binds K dB ["_law_values_here", "_law_literal_here"] []
 gN:av P w K mg base az 3 fN dN mG (Az K)
 mN:mg "_law_next" = some (.ref fN)
 kN:W.keepIn K (.ref fN)=true
 bN:Binds K dN mG []
variable {fP fA fF fV fB fN:Addr}{dP dA dF dV dB dN:FuncData}
theorem Lw {f:Addr}(O:Own mg) (O2:eB mg) (G:rH P w K mg base fP fA fF fV fB fN dP dA dF dV dB dN)
 {cdv:Value}{A:Around}{outer:List Env}{s:Shared}{H:Hp}{E:XK}{Q:VK}(hr:aX 3 (A.deeper (PyProof.Rows.envOfC "_law_row_by" (ao ia) s.heap.objs.size f cdv))) :
 ∃tR:TS,gx (Ot P w K mg base f cdv A outer s H E) (List.drop 7 (aD ia)) tR/\∀(H0 Hi:Hp) (m a1 a2 a3 a4 a5 a6 lf r q fi:Addr) (M:aI) (names:List Str) (c0:List Int) (l:Str) (v3 v4:Option V),
  ir K H0 Hi m a1 a2 a3 a4 a5 a6 lf r q fi fi M [] [] c0 c0 [] [] 0 0->Fm M names->Lit names l->M.keepers.length<=6->M.switches.length<=6->
  (∀(T fi r:Addr) (us:List Addr) (cs:List Int) (bss:List (List Int)) (k:Int) (H':Hp),aQ H0 H' lf->H' T=some (.tup [.ref fi,.ref r,.int k])->bY K H' fi cs->bZ M.keepers.length cs->b7 K H' r us bss->(∀bs∈bss,bZ M.switches.length bs)->1<=bss.length->bss.length<=6->Q (.ref T) H')->
  tR { nx:=λ_ H'=>Q .aZ H',rt:=Q } [some (.ref m),some (.str l),some (.ref lf),v3,v4,some (.ref fi),some (.ref fi),some (.ref r),some (.ref q),none,none,none,none] Hi:=by
 have hu:=cM hr
 have cc:aX 1 _:=hr.mono (by decide)
 have d5:aX 2 _:=hr.mono (by decide)
 obtain ⟨tT,hT,rT⟩:=Lv (f:=f) O2 G.gP G.mP G.kP G.bP (cdv:=cdv) (A:=A) (outer:=outer) (s:=s) (H:=H) (E:=E) (Q:=Q) hr
 refine ⟨_,aj (dk PassesOwn.never rfl (eQ rfl O.range (aa (aM dJ ar (aw G.gP cc rfl G.mP G.kP G.bP .nil aA (aa (pv 2) (aa ar ah)))) ah)) (ax (i:=9) iY.nd rfl (Or.inl rfl))
  (aj (aK (i:=10) iY.nd rfl (Or.inl rfl) (aw G.gA cc rfl G.mA G.kA G.bA .nil aA (aa (bb bj (by rfl) O2.len PySem.boot_len (aa (bz hu (pv 0) ay (λ_ _=>rfl)) ah)) ah)))
  (aj (qN (i:=11) (N:=["_law_one", "_law_m", "_law_stand", "_law_literal_here"]) (js:=[none,some 0,some 6,some 1]) iY.nd rfl rfl (by kernel_rfl) rfl (bO (pv 10)) (λ_ _ _ _ _ _=>ax (i:=0) Vz rfl (Or.inl rfl) (.inr rfl))
   (λ_ _ _ _ _ _=>oC (aL cU (aw G.gB cc (by rfl) G.mB G.kB G.bB .nil aA (aa (aw G.gV d5 (by rfl) G.mV G.kV' G.bV .nil aA (aa (pv 1) (aa (pv 2) (aa (pv 0) ah)))) (aa (pv 3) ah))) ar (aS _))) (λ_ _ _ _ _ _=>pv 0))
  (aj (vS (bh (pL (aL (Nh (Nat.lt_of_succ_lt hu)) (pv 11) (cg ah) (aS _)) (ni (aL mj (aw G.gP cc (by rfl) G.mP G.kP G.bP .nil aA (aa (pv 2) (aa ar ah))) ar (aS _)))).pt
   (au (aK (i:=10) iY.nd rfl (Or.inl rfl) (pv 11))) aT))
  (aj (cZ (cV PySem.F.plainAttrs_list PySem.F.slot_list_append PySem.F.type_list_append cz (pv 7) (aa (aY aU (pv 10) (aw G.gP cc rfl G.mP G.kP G.bP .nil aA (aa (pv 2) (aa (bb bj (by rfl) O2.len PySem.boot_len (aa (pv 10) ah)) ah))) (λ_ _=>rfl)) ah)))
  (aj (cZ (cV PySem.F.plainAttrs_list PySem.F.slot_list_append PySem.F.type_list_append cz (pv 8) (aa (pv 6) ah)))
  (au (aK (i:=6) iY.nd rfl (Or.inr rfl) (aw G.gN hr rfl G.mN G.kN G.bN .nil aA (aa (pv 0) (aa (pv 6) (aa (aY aU (pv 7) (oq lI ar) (λ_ _=>rfl)) ah)))))))))))) hT,?_⟩
 intro H0 Hi m a1 a2 a3 a4 a5 a6 lf r q fi M names c0 l v3 v4 h hm iA k6 w6 kk
 obtain ⟨ys,vx,vw⟩:=h.hl
 refine ⟨_,rfl,lf,ys,6,rfl,vx,vw,by decide,by decide,λd zs H1 d0 d1 il cC k1=>?_⟩
 have g1:=h.pick k1 cC il
 refine ⟨1,d,rfl,rfl,_,rfl,by omega,by omega,?_⟩
 refine gT (n:=((1:Int)+d).toNat) (λi σ Hx=>∃(st:Addr) (us ws:List Addr) (cs:List Int) (bss fJ:List (List Int)) (v9 v10 v11:Option V),σ=[some (.ref m),some (.str l),some (.ref lf),v3,v4,some (.ref fi),some (.ref st),some (.ref r),some (.ref q),v9,v10,v11,none]/\ir K H0 Hx m a1 a2 a3 a4 a5 a6 lf r q fi st M us ws c0 cs bss fJ i i) ?_ ?_ ?_
 . exact ⟨fi,[],[],c0,[],[],none,none,none,rfl,g1⟩
 . rintro i σ Hx hi ⟨st,us,ws,cs,bss,fJ,v9,v10,v11,rfl,h⟩
   have Sy:=h.hM
   refine ⟨_,rfl,m,.ref a1,rfl,bH.k (k:=.inr "switches") Sy.top,a1,_,rfl,.inl (ak.of Sy.sw),?_⟩
   rw [List.length_map]
   refine ⟨_,rfl,by omega,by omega,λp gs H2 s2 hp cx jc=>?_⟩
   rw [show ((M.switches.length:Int)).toNat=M.switches.length by omega] at jc
   have h2:=h.same s2
   have gm:=jc.length
   have gk:=rF M.switches.length
   have xp:2 ^ M.switches.length<=2 ^ 6:=Nat.pow_le_pow_right (by decide) w6
   have Ox:0<2 ^ M.switches.length:=Nat.pow_pos (by decide)
   have qF:=ua M.switches.length
   generalize dw M.switches.length=rl at jc gm gk qF
   refine ⟨_,rfl,p,rfl,⟨_,ak.of cx⟩,λD hD=>?_⟩
   refine cX rl.length (λj acc bu H4=>(∃(ds:List Addr) (gK:List (List Int)),acc=ds.map V.ref/\Paired (bY K H4) ds gK/\(∀g∈gK,bZ M.switches.length g)/\ds.length<=j)/\(∃u,bu=[u,some (.ref m),some (.ref st),some (.str l)])/\ai H2 H4) ⟨⟨[],[],rfl,.nil,(λ_ h=>nomatch h),Nat.le_refl _⟩,⟨none,rfl⟩,ai.aq hD⟩ ae ?_ ?_
   . rintro acc bu H4 a9 ⟨⟨ds,gK,rfl,jg,vy,nC⟩,_,s4⟩
     refine ⟨⟨_,ak.of (s4 _ _ cx),by rw [List.length_map,gm]; exact Nat.le_refl _⟩,?_⟩
     have h4:=h2.same s4
     have VA:=jg.length
     refine ⟨λσ H5=>∃(tp:Addr) (gs:List Addr) (gK:List (List Int)) (v9 v11:Option V),σ=[some (.ref m),some (.str l),some (.ref lf),v3,v4,some (.ref fi),some (.ref st),some (.ref r),some (.ref q),v9,some (.ref tp),v11,none]/\b7 K H5 tp gs gK/\(∀g∈gK,bZ M.switches.length g)/\0<gK.length/\gK.length<=64/\ir K H0 H5 m a1 a2 a3 a4 a5 a6 lf r q fi st M us ws c0 cs bss fJ i i,?_,?_⟩
     . refine ⟨_,rfl,(by show 0<=sizeLine; decide),λe he=>?_⟩
       have s5:ai H4 (upd H4 e (.lst [])):=ai.aq he
       have q5:(upd H4 e (.lst [])) e=some (.lst []):=ae
       generalize upd H4 e (.lst [])=H5 at s5 q5 ⊢
       have h5:=h4.same s5
       have tD:b7 K H5 D ds gK:=⟨s5 _ _ a9,Paired.bE jg λ_ _ e=>bY.same e s5⟩
       have tp:b7 K H5 p gs rl:=⟨s5 _ _ (s4 _ _ cx),gI.same (gI.same jc s4) s5⟩
       refine ⟨D,e,_,rfl,rfl,ak.of tD.at_,ak.of q5,_,rfl,cA (λdh=>?_) (λ_=>?_)⟩
       . have hdp:0<ds.length:=by
          cases ds with
          | nil=>cases dh
          | cons _ _=>exact Nat.zero_lt_succ _
         obtain ⟨Jz,oY,qG⟩:=h5.hl
         refine ⟨_,rfl,lf,Jz,5,rfl,oY,qG,by decide,by decide,λd' zs6 H6 Sx Ow qp zJ sA=>?_⟩
         have h6:=h5.pick sA zJ qp
         refine ⟨_,_,rfl,rfl,_,rfl,cA (λ_=>?_) (λ_=>?_)⟩
         . exact ⟨_,rfl,D,ds,gK,_,_,rfl,tD.gJ sA oY (tD.sv oY qG),vy,by omega,by omega,h6⟩
         . exact ⟨p,gs,rl,_,_,rfl,tp.gJ sA oY (tp.sv oY qG),qF,by omega,by omega,h6⟩
       . exact cu ⟨p,gs,rl,_,_,rfl,tp,qF,by omega,by omega,h5⟩
     . clear jc gm gk qF jg vy nC VA a9 h4 s4 h2 s2 cx
       rintro σ H5 ⟨tp,gs,gK,v9',agt,rfl,j8,vy,hg0,VB,h5⟩
       obtain ⟨Jz,oY,qG⟩:=h5.hl
       have gm:=j8.len
       refine ⟨_,rfl,.inl ⟨rfl,_,ak.of h5.row.at_⟩,_,rfl,_,rfl,_,rfl,tp,_,rfl,.inl (ak.of j8.at_),lf,Jz,_,rfl,oY,qG,(by rw [List.length_map]; omega),(by rw [List.length_map]; omega),λd' zs6 H6 Sx Ow qp zJ sA=>?_⟩
       rw [List.length_map] at Ow
       have h6:=h5.pick sA zJ qp
       have Oy:=j8.gJ sA oY (j8.sv oY qG)
       obtain ⟨dn,rfl⟩:∃n:Nat,d'=n:=⟨d'.toNat,by omega⟩
       have qi:dn<gK.length:=by omega
       obtain ⟨u,pC,hU⟩:=bq Oy.all (i:=dn) (List.getElem?_eq_getElem qi)
       have ye:=vy _ (List.getElem_mem qi)
       generalize gK[dn]=gb at hU ye
       have hi6:i<6:=by omega
       refine ⟨tp,_,_,.ref u,rfl,rfl,ak.of Oy.at_,c9 (j:=dn) (by rw [List.getElem?_map,pC]; rfl),r,_,_,rfl,rfl,h6.row.at_,(by rw [List.length_map,h6.row.len,h6.l1]; exact small (by omega)),?_⟩
       have h7:=h6.Ou hU ye
       generalize upd H6 r (.lst (us.map V.ref++[.ref u]))=H7 at h7 ⊢
       refine ⟨_,rfl,.inl ⟨rfl,_,ak.of h7.been.at_⟩,_,rfl,q,_,_,rfl,rfl,h7.been.at_,(by rw [List.length_map,h7.been.len,h7.l2]; exact small (by omega)),?_⟩
       have h8:=h7.Lu
       generalize upd H7 q (.lst (ws.map V.ref++[.ref st]))=H8 at h8 ⊢
       obtain ⟨uE,ul,Oz,_,fz⟩:=iK h8.row.all
       refine ⟨_,rfl,_,rfl,_,rfl,1,rfl,r,_,-1,.ref ul,rfl,rfl,ak.of h8.row.at_,(by rw [Oz,List.map_append]; exact lO _ _),?_⟩
       refine ⟨m,a1,a2,a3,a4,a5,a6,st,ul,M,names,gb,cs,rfl,h8.hM,hm.fit ye h8.hc,h8.hst,fz,λt H9 ht s9 ht9=>?_⟩
       exact ⟨t,us++[u],ws++[st],_,bss++[gb],fJ++[cs],_,_,_,rfl,(h8.same s9).Q9 (f9.k ht9) (hm.step ye h8.hc)⟩
   . rintro j acc bu H4 hj a9 ⟨⟨ds,gK,rfl,jg,vy,nC⟩,⟨u,rfl⟩,s4⟩
     obtain ⟨t,ht,AG⟩:=bq jc (i:=j) (List.getElem?_eq_getElem hj)
     have ej:(gs.map V.ref)[j]?=some (.ref t):=by rw [List.getElem?_map,ht]; rfl
     refine ⟨⟨_,_,ak.of (s4 _ _ cx),ej⟩,?_⟩
     rintro x' H' ⟨rfl,bX⟩
     have ex:=bX _ (ak.of (s4 _ _ cx))
     rw [ej] at ex
     cases ex
     have F7:=qF _ (List.getElem_mem hj)
     generalize rl[j]=gb at AG F7
     have h4:=h2.same s4
     have iw:=hm.fit F7 h4.hc
     refine ⟨_,rfl,_,rfl,_,rfl,m,a1,a2,a3,a4,a5,a6,st,t,M,names,gb,cs,rfl,h4.hM,iw,h4.hst,ai.dX s4 AG,λd' H5 IV s5 VC=>?_⟩
     refine ⟨_,rfl,d',_,l,rfl,.inl VC,iA.B8 hm.ok.nm (λy hy=>by rw [iw.keys]; exact hy),λH6 s6=>⟨rfl,_,rfl,?_⟩⟩
     have kh:=s5.trans s6
     refine cA (λ_=>?_) (λ_=>?_)
     . refine ⟨_,rfl,_,kh _ _ a9,(by rw [List.length_map]; exact small (by omega)),bo hj ae ⟨⟨ds++[t],gK++[gb],by rw [List.map_append]; rfl,?_,λg hg=>?_,by rw [List.length_append,List.length_singleton]; omega⟩,⟨_,rfl⟩,λy o hy=>?_⟩⟩
       . exact dY (Paired.bE jg λ_ _ e=>(bY.same e kh).mi (kh _ _ a9)) (.cons (bY.mi (ai.dX (s4.trans kh) AG) (kh _ _ a9)) .nil)
       . rcases List.mem_append.mp hg with hg | hg
         . exact vy g hg
         . rw [List.mem_singleton.mp hg]; exact F7
       . rw [ag (af hy hD)]
         exact kh _ _ (s4 y o hy)
     . exact bo hj (kh _ _ a9) ⟨⟨ds,gK,rfl,Paired.bE jg λ_ _ e=>bY.same e kh,vy,by omega⟩,⟨_,rfl⟩,s4.trans kh⟩
 . rintro σ Hx ⟨st,us,ws,cs,bss,fJ,v9,v10,v11,rfl,h⟩
   exact rT H0 Hx m a1 a2 a3 a4 a5 a6 lf r q fi st M us ws c0 cs bss fJ _ l v3 v4 v9 v10 v11 h (by omega) (by omega) kk
theorem Ij {f:Addr}{fd:FuncData}(F:bJ K "_law_row_by" "_law_row_by" ia f fd) (O:Own mg) (O2:eB mg) (G:rH P w K mg base fP fA fF fV fB fN dP dA dF dV dB dN):av P w K mg base az 4 f fd Cf (wm K):=by
 refine F.ok iY (λvs H Q E h=>?_) (λcdv A outer s H vs Q E hr h=>?_)
 . obtain ⟨m,a1,a2,a3,a4,a5,a6,lf,M,names,l,ys,rfl,_⟩:=h
   rfl
 . obtain ⟨m,a1,a2,a3,a4,a5,a6,lf,M,names,l,ys,rfl,hM,hm,iA,k6,w6,vx,vw,kk⟩:=h
   have hu:=cM hr
   have cc:aX 1 _:=hr.mono (by decide)
   have d5:aX 2 _:=hr.mono (by decide)
   obtain ⟨tT,hT,rT⟩:=Lw (f:=f) O O2 G (cdv:=cdv) (A:=A) (outer:=outer) (s:=s) (H:=H) (E:=E) (Q:=Q) hr
   refine ⟨_,aj (aK (i:=3) iY.nd rfl (Or.inl rfl) (aw G.gA cc rfl G.mA G.kA G.bA .nil aA (aa (bb bj (by rfl) O2.len PySem.boot_len (aa (bz hu (pv 0) ay (λ_ _=>rfl)) ah)) ah)))
    (aj (aK (i:=4) iY.nd rfl (Or.inl rfl) (aw G.gF d5 rfl G.mF G.kF G.bF .nil aA (aa (pv 0) ah)))
    (aj (vS (bh (aL mj (aw G.gP cc (by rfl) G.mP G.kP G.bP .nil aA (aa (pv 2) (aa ar ah))) ar (aS _)) (au (aK (i:=3) iY.nd rfl (Or.inl rfl) (pv 4))) aT))
    (aj (aK (i:=5) iY.nd rfl (Or.inl rfl) (aY aU (pv 3) (aw G.gP cc rfl G.mP G.kP G.bP .nil aA (aa (pv 2) (aa (bb bj (by rfl) O2.len PySem.boot_len (aa (pv 3) ah)) ah))) (λ_ _=>rfl)))
    (aj (aK (i:=6) iY.nd rfl (Or.inr rfl) (pv 5))
    (aj (aK (i:=7) iY.nd rfl (Or.inl rfl) (cg ah))
    (aj (aK (i:=8) iY.nd rfl (Or.inl rfl) (cg ah)) hT)))))),?_⟩
   obtain ⟨ks,AB,Cd⟩:=id hM.kp
   have Jx:=Cd.length
   rw [List.length_map] at Jx
   refine ⟨_,rfl,m,.ref a2,rfl,bH.k (k:=.inr "keepers") hM.top,a2,_,rfl,.inl (ak.of AB),?_⟩
   rw [List.length_map]
   refine ⟨_,rfl,by omega,by omega,λp gs H1 s1 hp il jc=>?_⟩
   rw [show ((ks.length:Int)).toNat=M.keepers.length by omega] at jc
   refine ⟨_,rfl,m,a1,a2,a3,a4,a5,a6,M,rfl,hM.same s1,k6,hm.ok.first,λp' Sz H2 s2 ju cx VD=>?_⟩
   have Ox:=DP (M:=M) hm.ok.first
   have gk:=rF M.keepers.length
   have Fh:=List.length_filter_le (iq (M.keepers.map (·.2))) (dw M.keepers.length)
   have xp:2 ^ M.keepers.length<=2 ^ 6:=Nat.pow_le_pow_right (by decide) k6
   have qF:=ua M.keepers.length
   have hX:=s1.trans s2
   have t1:b7 K H2 p gs (dw M.keepers.length):=⟨s2 _ _ il,gI.same jc s2⟩
   have t2:b7 K H2 p' Sz ((dw M.keepers.length).filter (iq (M.keepers.map (·.2)))):=⟨cx,VD⟩
   have Ra:∀c∈(dw M.keepers.length).filter (iq (M.keepers.map (·.2))),bZ M.keepers.length c:=λc hc=>qF c (List.mem_filter.mp hc).1
   have AH:=hX _ _ vx
   refine ⟨λσ H3=>∃(tp:Addr) (gs:List Addr) (gK:List (List Int)) (zs:List V),σ=[some (.ref m),some (.str l),some (.ref lf),some (.ref tp),some (.ref p'),none,none,none,none,none,none,none,none]/\b7 K H3 tp gs gK/\(∀g∈gK,bZ M.keepers.length g)/\0<gK.length/\gK.length<=64/\H3 lf=some (.lst zs)/\cD zs/\aQ H H3 lf,?_,?_⟩
   . refine ⟨_,rfl,lf,ys,4,rfl,AH,vw,by decide,by decide,λd zs H3 d0 d1 eJ jy k3=>?_⟩
     have kH:aQ H H3 lf:=λb o hb hn=>k3 _ _ (hX _ _ hb) hn
     refine ⟨_,_,rfl,rfl,_,rfl,cA (λ_=>?_) (λ_=>?_)⟩
     . exact ⟨_,rfl,p',Sz,_,zs,rfl,t2.gJ k3 AH (t2.sv AH vw),Ra,Ox,by omega,jy,eJ,kH⟩
     . exact ⟨p,gs,_,zs,rfl,t1.gJ k3 AH (t1.sv AH vw),qF,by rw [gk]; exact Nat.pow_pos (by decide),by omega,jy,eJ,kH⟩
   . rintro σ H3 ⟨tp,gs,gK,zs,rfl,j8,vy,hg0,VB,jy,eJ,kH⟩
     have gm:=j8.len
     refine ⟨_,rfl,_,rfl,_,rfl,tp,_,rfl,.inl (ak.of j8.at_),lf,zs,_,rfl,jy,eJ,(by rw [List.length_map]; omega),(by rw [List.length_map]; omega),λd zs4 H4 d0 d1 eV qj k4=>?_⟩
     rw [List.length_map] at d1
     have OA:=j8.gJ k4 jy (j8.sv jy eJ)
     obtain ⟨dn,rfl⟩:∃n:Nat,d=n:=⟨d.toNat,by omega⟩
     have qi:dn<gK.length:=by omega
     obtain ⟨u,pC,hU⟩:=bq OA.all (i:=dn) (List.getElem?_eq_getElem qi)
     have ye:=vy _ (List.getElem_mem qi)
     generalize gK[dn]=c0 at hU ye
     refine ⟨tp,_,_,.ref u,rfl,rfl,ak.of OA.at_,c9 (j:=dn) (by rw [List.getElem?_map,pC]; rfl),_,rfl,(by show 0<=sizeLine; decide),λr kf=>?_⟩
     have s5:ai H4 (upd H4 r (.lst [])):=ai.aq kf
     have q5:(upd H4 r (.lst [])) r=some (.lst []):=ae
     generalize upd H4 r (.lst [])=H5 at s5 q5 ⊢
     refine ⟨(by show 0<=sizeLine; decide),λq pR=>?_⟩
     have s6:ai H5 (upd H5 q (.lst [])):=ai.aq pR
     have q6:(upd H5 q (.lst [])) q=some (.lst []):=ae
     have rq:r≠q:=af q5 pR
     generalize upd H5 q (.lst [])=H6 at s6 q6 ⊢
     have kh:=s5.trans s6
     have NP:aQ H H4 lf:=kH.trans k4
     have ue:∀b,H4 b=none->b≠lf->H b=none:=λb hb hn=>by
      cases e:H b with
      | none=>rfl
      | some o=>rw [NP _ _ e hn] at hb; cases hb
     have rl:r≠lf:=λe=>by rw [e,qj] at kf; cases kf
     have ql:q≠lf:=λe=>by rw [e,s5 _ _ qj] at pR; cases pR
     refine rT H H6 m a1 a2 a3 a4 a5 a6 lf r q u M names c0 l _ _ ⟨hM,⟨ys,vx,vw⟩,ue r kf rl,ue q (s5.free pR) ql,rq,⟨zs4,kh _ _ qj,eV⟩,hU.same kh,ye,hU.same kh,ye,⟨s6 _ _ q5,.nil⟩,(λ_ h=>nomatch h),⟨q6,.nil⟩,rfl,rfl,λb o hb hn=>kh _ _ (NP _ _ hb hn)⟩ hm iA k6 w6 kk
end
end Gen
namespace Gen
open PySem L2
abbrev wo:Stmt:=top 59
abbrev n9:Stmt:=top 39
def litAt (M:aI) (cs:List Int) (bss:List (List Int)) (l:Str) (i:Nat):Int:=d9 (df M (bss.getD i []) (cy M cs (bss.take i)) M.aE.length) l
def cT (M:aI) (cs:List Int) (bss:List (List Int)) (l:Str) (k:Int):Bool:=
 iq (M.keepers.map (·.2)) cs && (decide (0<=k) && decide (k<bss.length)) && decide (cy M cs bss=cy M cs (bss.take k.toNat)) && (List.range bss.length).all λi=>decide (litAt M cs bss l i=0)
theorem Cg:∀(k:Nat) (c:List Int),bZ k c->c∈dw k
 | 0,c,h=>by
  have:c=[]:=List.length_eq_zero_iff.mp h.1.symm
  rw [this]
  exact List.mem_singleton.mpr rfl
 | k+1,c,h=>by
  obtain ⟨g,b,rfl⟩:∃g b,c=g++[b]:=by
   have dh:c≠[]:=λe=>by have:=h.1; rw [e] at this; cases this
   exact ⟨c.dropLast,c.getLast dh,(List.dropLast_concat_getLast dh).symm⟩
  have hg:bZ k g:=⟨by have:=h.1; rw [List.length_append,List.length_singleton] at this; omega,λx hx=>h.2 x (List.mem_append_left _ hx)⟩
  rw [dw]
  refine List.mem_flatMap.mpr ⟨g,Cg k g hg,?_⟩
  rcases h.2 b (List.mem_append_right _ (List.mem_singleton.mpr rfl)) with rfl | rfl <;> simp
theorem Rb (l:List (List Int)) (c:List Int):((l.map dT).any λe=>PyData.eqv e (dT c))=decide (c∈l):=by
 rw [List.any_map,Bool.eq_iff_iff,List.any_eq_true,decide_eq_true_eq]
 constructor
 . rintro ⟨x,hx,e⟩
   have e':PyData.eqv (dT x) (dT c)=true:=e
   rw [oM] at e'
   exact of_decide_eq_true e' ▸ hx
 . intro h
   refine ⟨c,h,?_⟩
   show PyData.eqv (dT c) (dT c)=true
   rw [oM]
   exact decide_eq_true rfl
theorem OB (l:List (List Int)):∀e∈l.map dT,e.canLay0=true:=λe he=>by
 obtain ⟨c,_,rfl⟩:=List.mem_map.mp he
 exact mr c
theorem F8 {M:aI}{cs:List Int}(h:bZ M.keepers.length cs):decide (cs∈(dw M.keepers.length).filter (iq (M.keepers.map (·.2))))=iq (M.keepers.map (·.2)) cs:=by
 rw [Bool.eq_iff_iff,decide_eq_true_eq,List.mem_filter]
 exact ⟨λz=>z.2,λz=>⟨Cg _ _ h,z⟩⟩
theorem yf {M:aI}{cs:List Int}{bss:List (List Int)} : cy M cs (bss.take bss.length)=cy M cs bss:=by rw [List.take_length]
theorem ub {M:aI}{cs:List Int}{bss:List (List Int)}{n i:Nat}(h:i<n):(runs M cs bss n)[i]?=some (cy M cs (bss.take i)):=by
 unfold runs
 rw [List.getElem?_map,List.getElem?_range h]
 rfl
inductive F9 (K:W.Frag) (vs:List V) (H:Hp) (Q:VK):Prop
 | mk (m a1 a2 a3 a4 a5 a6 st r:Addr) (us:List Addr) (M:aI) (names:List Str) (cs:List Int) (bss:List (List Int)) (l:Str) (k:Int) (h1:vs=[.ref m,.str l,.ref st,.ref r,.int k]) (h2:cE H m M a1 a2 a3 a4 a5 a6) (h3:Fm M names) (h4:bZ M.keepers.length cs) (h5:M.keepers.length<=6) (h6:bY K H st cs) (h7:b7 K H r us bss) (h8:(∀bs∈bss,bZ M.switches.length bs)) (h9:bss.length<=100) (Nw:Lit names l) (IW:∀H',ai H H'->Q (.bl (cT M cs bss l k)) H'):F9 K vs H Q
def DQ (K:W.Frag):Sp:=λvs H Q _=>F9 K vs H Q
inductive AI (C:Addr) (K:W.Frag) (vs:List V) (H:Hp) (Q:VK):Prop
 | mk (x dx g1 g2 g3 g4 g5 g6 st r:Addr) (o2:Obj) (ts us:List Addr) (M:aI) (names:List Str) (cs:List Int) (bss:List (List Int)) (n l:Str) (k:Int) (h1:vs=[.ref x,.str n,.ref st,.ref r,.int k]) (h2:RZ C H x dx g1 g2 g3 g4 g5 g6 o2 ts M) (h3:Fm M names) (h4:bZ M.keepers.length cs) (h5:bY K H st cs) (h6:b7 K H r us bss) (h7:(∀bs∈bss,bZ M.switches.length bs)) (h8:1<=bss.length) (h9:bss.length<=100) (Nw:DK M n l) (IW:Lit names l) (h12:∀H',ai H H'->Q (.bl (cT M cs bss l k)) H'):AI C K vs H Q
def wq (C:Addr) (K:W.Frag):Sp:=λvs H Q _=>AI C K vs H Q
abbrev nDu:List Str:=["_law_m", "_law_literal_here", "_law_first", "_law_row", "_law_at", "_law_stand", "_law_stands", "_law_told"]
abbrev Ci:List Str:=["_law_m", "_law_literal_here", "_law_first", "_law_row", "_law_at"]
theorem AJ:aO nDu Ci (ao wo):=⟨rfl,rfl,rfl,by decide +kernel,rfl,by decide +kernel,by decide +kernel⟩
abbrev nLs:List Str:=["machine", "wish", "first", "row", "at", "literal", "stands"]
abbrev Cj:List Str:=["machine", "wish", "first", "row", "at"]
theorem Ik:aO nLs Cj (ao n9):=⟨rfl,rfl,rfl,by decide +kernel,rfl,by decide +kernel,by decide +kernel⟩
theorem OC:(["stand", "told", "machine", "literal"]:List Str).Nodup:=by decide +kernel
theorem JA {b:Bool}{A B:Prop}(h:b=false) (k:B):if b=true then A else B:=by rw [h]; exact cu k
theorem JB {b:Bool}{A B:Prop}(h:b=true) (k:A):if b=true then A else B:=by rw [h]; exact gv k
theorem gI.dps {K:W.Frag}{H:Hp}{gs:List Addr}{rows:List (List Int)}(h:gI K H gs rows):j5 K H (gs.map V.ref) (rows.map dT):=tf (Paired.bE h λ_ _ e=>i4 e)
theorem getD_at {α:Type}{l:List α}{i:Nat}{d:α}(h:i<l.length):l.getD i d=l[i]:=by rw [List.getD_eq_getElem?_getD,List.getElem?_eq_getElem h]; rfl
theorem Il {n i:Nat}{p:Nat->Bool}(h:i<n):(List.range (i+1)).all p=((List.range i).all p && p i):=by rw [List.range_succ,List.all_append]; simp
section
variable {P:Program}{w:World}{K:W.Frag}{mg:Str->Option Value}{base:Heap}{fP fA fF fV fB fN:Addr}{dP dA dF dV dB dN:FuncData}
theorem OD {f:Addr}{fd:FuncData}(F:bJ K "_law_due" "_law_due" wo f fd) (O2:eB mg) (G:rH P w K mg base fP fA fF fV fB fN dP dA dF dV dB dN):av P w K mg base az 4 f fd Ci (DQ K):=by
 refine F.ok AJ (λvs H Q E h=>?_) (λcdv A outer s H vs Q E hr h=>?_)
 . obtain ⟨m,a1,a2,a3,a4,a5,a6,st,r,us,M,names,cs,bss,l,k,rfl,_⟩:=h
   rfl
 . obtain ⟨m,a1,a2,a3,a4,a5,a6,st,r,us,M,names,cs,bss,l,k,rfl,hM,hm,hc,k6,hst,fG,hb,b2,iA,kk⟩:=h
   have hu:=cM hr
   have Jy:=Nat.lt_of_le_of_lt (Nat.add_le_add_left (by decide:2<=64) _) hr.units
   have cc:aX 1 _:=hr.mono (by decide)
   have d5:aX 2 _:=hr.mono (by decide)
   refine ⟨_,aj (bh (oh (aL (E7 (n:=1) Jy) (pv 2) (aw G.gF d5 (by rfl) G.mF G.kF G.bF .nil aA (aa (pv 0) ah)) (by with_unfolding_all rfl)) (pK (yE (GG Qe ui ar (pv 4) (bb bj (by rfl) O2.len PySem.boot_len (aa (pv 3) ah)))))).pt (au (aB fk)) aT)
    (aj (aK (i:=5) AJ.nd rfl (Or.inl rfl) (pv 2))
    (aj (aK (i:=6) AJ.nd rfl (Or.inl rfl) (cg ah))
    (aj (dk PassesOwn.never rfl (bO (pv 3)) (ax (i:=7) AJ.nd rfl (Or.inl rfl))
     (aj (cZ (cV PySem.F.plainAttrs_list PySem.F.slot_list_append PySem.F.type_list_append cz (pv 6) (aa (pv 5) ah)))
     (aj (bh (aL cU (aw G.gB cc (by rfl) G.mB G.kB G.bB .nil aA (aa (aw G.gV d5 (by rfl) G.mV G.kV' G.bV .nil aA (aa (pv 0) (aa (pv 5) (aa (pv 7) ah)))) (aa (pv 1) ah))) ar (aS _)) (au (aB fk)) aT)
     (au (aK (i:=5) AJ.nd rfl (Or.inl rfl) (aw G.gN hr rfl G.mN G.kN G.bN .nil aA (aa (pv 0) (aa (pv 5) (aa (pv 7) ah)))))))))
    (au (aB (gp (K3 (n:=1) hu) (pv 5) (aY aU (pv 6) (pv 4) (λ_ _=>rfl)) (aS _))))))),?_⟩
   refine ⟨_,rfl,_,rfl,m,a1,a2,a3,a4,a5,a6,M,rfl,hM,k6,hm.ok.first,λp gs H1 s1 hp il jc=>?_⟩
   refine ⟨p,_,dT cs,_,rfl,.inl (ak.of il),gI.dps jc,i4 (ai.dX s1 hst),mr _,OB _,(by rw [qS]; exact Nat.le_refl _),_,rfl,?_⟩
   rw [if_pos rfl,Rb,F8 hc]
   cases hok:iq (M.keepers.map (·.2)) cs with
   | false=>
    refine gv ?_
    have e:cT M cs bss l k=false:=by unfold cT; rw [hok]; rfl
    rw [e] at kk
    exact kk H1 s1
   | true=>
    refine cu ?_
    have fz:=fG.len
    have ret:∀H',ai H1 H'->(decide (0<=k) && decide (k<bss.length))=false->Q (.bl false) H':=λH' s' e=>by
     have e':cT M cs bss l k=false:=by unfold cT; rw [e]; simp
     rw [e'] at kk
     exact kk H' (s1.trans s')
    refine ⟨_,rfl,_,_,rfl,rfl,_,rfl,cA (λk0=>?_) (λk0=>?_)⟩
    . refine ⟨_,rfl,r,_,rfl,.inl (ak.of (s1 _ _ fG.at_)),_,_,rfl,rfl,_,rfl,?_⟩
      rw [List.length_map,fz]
      by_cases hk:k<bss.length
      . have k0':=of_decide_eq_true k0
        refine JA (by rw [decide_eq_true hk]; rfl) ?_
        refine ⟨_,rfl,(by show 0<=sizeLine; decide),λq hq=>?_⟩
        have s2:ai H1 (upd H1 q (.lst [])):=ai.aq hq
        have q2:(upd H1 q (.lst [])) q=some (.lst []):=ae
        have hq0:H q=none:=s1.free hq
        generalize upd H1 q (.lst [])=H2 at s2 q2 ⊢
        have hX:=s1.trans s2
        refine ⟨_,rfl,r,rfl,⟨_,ak.of (hX _ _ fG.at_)⟩,gQ (K:=K) (a:=r) (xs:=us.map V.ref) (λi σ Hi=>∃(sd:Addr) (ws:List Addr) (v7:Option V),σ=[some (.ref m),some (.str l),some (.ref st),some (.ref r),some (.int k),some (.ref sd),some (.ref q),v7]/\bY K Hi sd (cy M cs (bss.take i))/\b7 K Hi q ws (runs M cs bss i)/\((List.range i).all λi=>decide (litAt M cs bss l i=0))=true/\ai H Hi) ?_ ?_ ?_ ?_⟩
        . exact ⟨st,[],none,rfl,ai.dX hX hst,⟨q2,.nil⟩,rfl,hX⟩
        . rintro i σ Hi _ ⟨_,_,_,_,_,_,_,si⟩
          exact ak.of (si _ _ fG.at_)
        . rintro i xv σ Hi hx ⟨sd,ws,v7,rfl,Ck,gH,bX,si⟩
          have hi:i<bss.length:=by
           have:=(List.getElem?_eq_some_iff.mp hx).1
           rw [List.length_map] at this
           omega
          obtain ⟨u,pC,hU⟩:=bq fG.all (i:=i) (List.getElem?_eq_getElem hi)
          have ex:xv=.ref u:=by
           rw [List.getElem?_map,pC] at hx
           exact (Option.some.inj hx).symm
          subst ex
          have OE:=hm.cy (bss:=bss.take i) (λbs h=>hb bs (List.mem_of_mem_take h)) hc
          have iw:=hm.fit (hb _ (List.getElem_mem hi)) OE
          refine ⟨_,rfl,.inl ⟨rfl,_,ak.of gH.at_⟩,_,rfl,q,_,_,rfl,rfl,gH.at_,(by rw [List.length_map,gH.len,tP]; exact small (by omega)),?_⟩
          have Im:=gH.snoc Ck
          have Io:bY K (upd Hi q (.lst (ws.map V.ref++[.ref sd]))) sd (cy M cs (bss.take i)):=Ck.mi gH.at_
          rw [← mH] at Im
          have s3:ai H (upd Hi q (.lst (ws.map V.ref++[.ref sd]))):=λb o ee=>by
           rw [ag (af ee hq0)]
           exact si _ _ ee
          generalize upd Hi q (.lst (ws.map V.ref++[.ref sd]))=H3 at Im Io s3 ⊢
          have SA:=hU.same s3
          refine ⟨_,rfl,_,rfl,_,rfl,m,a1,a2,a3,a4,a5,a6,sd,u,M,names,bss[i],_,rfl,hM.same s3,iw,Io,SA,λd H4 hd s4 mh=>?_⟩
          refine ⟨_,rfl,d,_,l,rfl,.inl mh,iA.B8 hm.ok.nm (λy hy=>by rw [iw.keys]; exact hy),λH5 s5=>⟨rfl,_,rfl,?_⟩⟩
          have sC:=s4.trans s5
          have eL:litAt M cs bss l i=d9 (df M bss[i] (cy M cs (bss.take i)) M.aE.length) l:=by unfold litAt; rw [getD_at hi]
          rw [← eL]
          by_cases h1:litAt M cs bss l i=1
          . rw [h1]
            refine gv ?_
            have e:cT M cs bss l k=false:=by
             unfold cT
             have:((List.range bss.length).all λi=>decide (litAt M cs bss l i=0))=false:=by
              rw [List.all_eq_false]
              exact ⟨i,List.mem_range.mpr hi,by rw [h1]; decide⟩
             rw [this,Bool.and_false]
            rw [e] at kk
            exact kk H5 (s3.trans sC)
          . have h0:litAt M cs bss l i=0:=by
             rcases jK (mz (M:=M) iw.b1 iw.b2 _) l with e | e
             . rw [eL]; exact e
             . exact absurd (eL.trans e) h1
            rw [h0]
            refine cu ?_
            refine ⟨_,rfl,_,rfl,_,rfl,m,a1,a2,a3,a4,a5,a6,sd,u,M,names,bss[i],_,rfl,hM.same (s3.trans sC),iw,Io.same sC,SA.same sC,λt H6 ht s6 Fl=>?_⟩
            refine ⟨t,ws++[sd],_,rfl,?_,Im.same (sC.trans s6),?_,(s3.trans sC).trans s6⟩
            . rw [oX hi]
              exact f9.k Fl
            . rw [Il hi,bX,h0]
              rfl
        . rintro σ Hi ⟨sd,ws,v7,rfl,Ck,gH,bX,si⟩
          rw [List.length_map,fz] at Ck gH bX
          rw [yf] at Ck
          obtain ⟨kn,rfl⟩:∃n:Nat,k=n:=⟨k.toNat,by omega⟩
          have xo:kn<bss.length:=by omega
          obtain ⟨u,pC,hU⟩:=bq gH.all (i:=kn) (ub xo)
          refine ⟨_,rfl,_,rfl,_,rfl,q,_,_,.ref u,rfl,rfl,ak.of gH.at_,c9 (j:=kn) (by rw [List.getElem?_map,pC]; rfl),dT _,dT _,i4 Ck,i4 hU,mr _,mr _,(by rw [qS,qS]; exact Nat.le_refl _),?_⟩
          rw [oM]
          have e:cT M cs bss l (kn:Int)=decide (cy M cs bss=cy M cs (bss.take kn)):=by
           unfold cT
           rw [hok,bX,decide_eq_true hk,k0,Int.toNat_natCast]
           simp
          rw [e] at kk
          exact kk Hi si
      . refine JB (by rw [decide_eq_false hk]; rfl) ?_
        exact ret H1 (λ_ _ h=>h) (by rw [decide_eq_false hk,Bool.and_false])
    . refine ⟨_,rfl,gv ?_⟩
      exact ret H1 (λ_ _ h=>h) (by rw [Bool.not_eq_true] at k0; rw [k0]; rfl)
end
end Gen
namespace Gen
open PySem L2
section
variable {P:Program}{w:World}{K:W.Frag}{mg:Str->Option Value}{base:Heap}
theorem Ip {f fF fW fS fA fV fL C:Addr}{fd dF dW dS dA dV dL:FuncData}(F:bJ K "lasso_walks" "lasso_walks" n9 f fd) (O2:eB mg)
 (GF:av P w K mg base az 1 fF dF ["machine", "stand"] (qE C K)) (mF:mg "is_first" = some (.ref fF)) (kF:W.keepIn K (.ref fF)=true) (bF:Binds K dF ["machine", "stand"] [])
 (GW:av P w K mg base az 4 fW dW ["machine", "first", "row"] (tU C K)) (mW:mg "walked" = some (.ref fW)) (kW:W.keepIn K (.ref fW)=true) (bW:Binds K dW ["machine", "first", "row"] [])
 (GS:av P w K mg base az 3 fS dS ["machine", "stand", "told"] (mJ C K)) (mS:mg "stepped" = some (.ref fS)) (kS:W.keepIn K (.ref fS)=true) (bS:Binds K dS ["machine", "stand", "told"] [])
 (GA:av P w K mg base az 2 fA dA ["machine", "stand", "told"] (lu C K)) (mA:mg "values_at" = some (.ref fA)) (kA:W.keepIn K (.ref fA)=true) (bA:Binds K dA ["machine", "stand", "told"] [])
 (GV:av P w K mg base az 1 fV dV ["values", "literal"] iJ) (mV:mg "value_of" = some (.ref fV)) (kV':W.keepIn K (.ref fV)=true) (bV:Binds K dV ["values", "literal"] [])
 (GL:av P w K mg base az 1 fL dL ["machine", "wish"] (qD C)) (mL:mg "literal_of_wish" = some (.ref fL)) (kL:W.keepIn K (.ref fL)=true) (bL:Binds K dL ["machine", "wish"] []):av P w K mg base az 5 f fd Cj (wq C K):=by
 refine F.ok Ik (λvs H Q E h=>?_) (λcdv A outer s H vs Q E hr h=>?_)
 . obtain ⟨x,dx,g1,g2,g3,g4,g5,g6,st,r,o2,ts,us,M,names,cs,bss,n,l,k,rfl,_⟩:=h
   rfl
 . obtain ⟨x,dx,g1,g2,g3,g4,g5,g6,st,r,o2,ts,us,M,names,cs,bss,n,l,k,rfl,hR,hm,hc,hst,fG,hb,b1,b2,hw,iA,kk⟩:=h
   have hu:=cM hr
   have cc:aX 1 _:=hr.mono (by decide)
   have d5:aX 2 _:=hr.mono (by decide)
   have zU:aX 3 _:=hr.mono (by decide)
   refine ⟨_,aj (bh (oh (aL ui (pv 4) ar (aS _)) (oh (aL uk (pv 4) (bb bj (by rfl) O2.len PySem.boot_len (aa (pv 3) ah)) (aS _)) (pK (yE (jU (aw GF cc (by rfl) mF kF bF .nil aA (aa (pv 0) (aa (pv 2) ah)))))))).pt (au (aB fk)) aT)
    (aj (aK (i:=5) Ik.nd rfl (Or.inr rfl) (aw GL cc rfl mL kL bL .nil aA (aa (pv 0) (aa (pv 1) ah))))
    (aj (aK (i:=6) Ik.nd rfl (Or.inl rfl) (aw GW hr rfl mW kW bW .nil aA (aa (pv 0) (aa (pv 2) (aa (pv 3) ah)))))
    (aj (bh (aL (K4 (n:=1) hu) (aw GS zU (by rfl) mS kS bS .nil aA (aa (pv 0) (aa (aY aU (pv 6) (oq lI ar) (λ_ _=>rfl)) (aa (aY aU (pv 3) (oq lI ar) (λ_ _=>rfl)) ah)))) (aY aU (pv 6) (pv 4) (λ_ _=>rfl)) (aS _)) (au (aB fk)) aT)
    (au (aB (bb (jD rfl) (by rfl) O2.all PyProof.Rows.boot_all (aa (cO (N:=["stand", "told", "machine", "literal"]) (js:=[none,none,some 0,some 5]) (g:=ku K 2 (dj (cw 0) (dj (cw 1) kr))) (by kernel_rfl) rfl (KP rfl O2.zip (aa (pv 6) (aa (pv 3) ah)))
     (λ_ _ _ _ _ _=>cJ rfl (aJ (ax (i:=0) OC rfl (Or.inl rfl) (.inr rfl)) (aJ (ax (i:=1) OC rfl (Or.inl rfl) (.inr rfl)) b8))) (λ_ _ _ _ _ _=>br)
     (λ_ _ _ _ _ _=>gp cU (aw GV cc (by rfl) mV kV' bV .nil aA (aa (aw GA d5 (by rfl) mA kA bA .nil aA (aa (pv 2) (aa (pv 0) (aa (pv 1) ah)))) (aa (pv 3) ah))) ar (aS _))) ah))))))),?_⟩
   have fz:=fG.len
   refine ⟨_,rfl,_,_,rfl,rfl,_,rfl,?_⟩
   by_cases k0:k<0
   . rw [decide_eq_true k0]
     refine gv ?_
     have e:cT M cs bss l k=false:=by
      unfold cT
      rw [decide_eq_false (show ¬ 0<=k by omega)]
      simp
     rw [e] at kk
     exact kk H λ_ _ h=>h
   rw [decide_eq_false k0]
   refine cu ⟨_,rfl,_,rfl,r,_,rfl,.inl (ak.of fG.at_),_,_,rfl,rfl,_,rfl,?_⟩
   rw [List.length_map,fz]
   by_cases k1:(bss.length:Int)<=k
   . rw [decide_eq_true k1]
     refine gv ?_
     have e:cT M cs bss l k=false:=by
      unfold cT
      rw [decide_eq_false (show ¬ k<bss.length by omega)]
      simp
     rw [e] at kk
     exact kk H λ_ _ h=>h
   rw [decide_eq_false k1]
   refine cu ⟨_,rfl,_,rfl,x,dx,g1,g2,g3,g4,g5,g6,st,o2,ts,M,cs,rfl,hR,hm.n2,hc.1,hst,hm.ok.first,λH1 s1=>⟨_,rfl,?_⟩⟩
   rw [Ie]
   cases hok:iq (M.keepers.map (·.2)) cs with
   | false=>
    refine gv ?_
    have e:cT M cs bss l k=false:=by unfold cT; rw [hok]; rfl
    rw [e] at kk
    exact kk H1 s1
   | true=>
    refine cu ?_
    refine ⟨_,rfl,_,rfl,x,dx,g1,g2,g3,g4,g5,g6,o2,ts,M,n,l,rfl,hR.same s1,hw,?_⟩
    refine ⟨_,rfl,_,rfl,_,rfl,x,dx,g1,g2,g3,g4,g5,g6,st,r,o2,ts,us,M,names,cs,bss,rfl,hR.same s1,hm,hc,hst.same s1,fG.same s1,hb,b1,b2,λp ws H2 hp s2 cx=>?_⟩
    obtain ⟨m,hk⟩:∃m,bss.length=m+1:=⟨bss.length-1,by omega⟩
    have zF:=cx.all
    rw [hk,mH] at zF
    obtain ⟨Oi,wl,Oj,_,mn⟩:=iK zF
    have OF:=s1.trans s2
    have JC:=fG.same OF
    have BS:m<bss.length:=by omega
    have ebs:bss=bss.take m++[bss[m]]:=by
     have:=List.take_append_drop m bss
     rw [List.drop_eq_getElem_cons BS,List.drop_of_length_le (by omega)] at this
     exact this.symm
    have SD:=JC.all
    rw [ebs] at SD
    obtain ⟨uE,ul,Oz,_,VE⟩:=iK SD
    have OE:=hm.cy (bss:=bss.take m) (λbs h=>hb bs (List.mem_of_mem_take h)) hc
    have iw:=hm.fit (hb _ (List.getElem_mem BS)) OE
    refine ⟨_,rfl,_,rfl,1,rfl,p,_,-1,.ref wl,rfl,rfl,ak.of cx.at_,(by rw [Oj,List.map_append]; exact lO _ _),_,rfl,1,rfl,r,_,-1,.ref ul,rfl,rfl,ak.of JC.at_,(by rw [Oz,List.map_append]; exact lO _ _),?_⟩
    refine ⟨x,dx,g1,g2,g3,g4,g5,g6,wl,ul,o2,ts,M,names,bss[m],cy M cs (bss.take m),rfl,hR.same OF,iw,mn,VE,λt H3 ht s3 vh=>?_⟩
    rw [← oX BS,← hk,yf] at vh
    have eJ:=cx.same s3
    obtain ⟨kn,rfl⟩:∃n:Nat,k=n:=⟨k.toNat,by omega⟩
    have xo:kn<bss.length:=by omega
    obtain ⟨u,pC,hU⟩:=bq eJ.all (i:=kn) (ub xo)
    refine ⟨_,rfl,_,rfl,p,_,_,.ref u,rfl,rfl,ak.of eJ.at_,c9 (j:=kn) (by rw [List.getElem?_map,pC]; rfl),dT _,dT _,i4 (f9.k vh),i4 hU,mr _,mr _,(by rw [qS,qS]; exact Nat.le_refl _),_,rfl,?_⟩
    have nQ:=OF.trans s3
    by_cases heq:cy M cs bss=cy M cs (bss.take kn)
    . refine JA (show (!PyData.eqv (dT _) (dT _))=false by rw [oM,decide_eq_true heq]; rfl) ?_
      have DR:=fG.same nQ
      have OG:=eJ.len
      rw [tP] at OG
      have e:cT M cs bss l (kn:Int)=((List.range bss.length).map λi=>decide (litAt M cs bss l i=0)).all _root_.id:=by
       unfold cT
       rw [hok,decide_eq_true (show (0:Int)<=kn by omega),decide_eq_true (show (kn:Int)<bss.length by omega),Int.toNat_natCast,decide_eq_true heq,List.all_map]
       simp
      rw [e] at kk
      refine ⟨_,rfl,_,rfl,p,r,rfl,⟨_,ak.of eJ.at_⟩,⟨_,ak.of DR.at_⟩,λD hD=>?_⟩
      refine cX bss.length (λj acc bu H5=>acc=((List.range j).map λi=>decide (litAt M cs bss l i=0)).map V.bl/\(∃u v,bu=[u,v,some (.ref x),some (.str l)])/\ai H3 H5) ⟨rfl,⟨none,none,rfl⟩,ai.aq hD⟩ ae ?_ ?_
      . rintro acc bu H5 a9 ⟨rfl,_,s5⟩
        refine ⟨⟨_,(show ZK K false H5 p _ from ak.of (s5 _ _ eJ.at_)),by rw [List.length_map,OG]; exact Nat.le_refl _⟩,D,_,rfl,ak.of a9,?_⟩
        exact kk H5 (nQ.trans s5)
      . rintro j acc bu H5 hj a9 ⟨rfl,⟨u',v',rfl⟩,s5⟩
        obtain ⟨a,ha,hA⟩:=bq eJ.all (i:=j) (ub hj)
        obtain ⟨b,ee,hB⟩:=bq DR.all (i:=j) (List.getElem?_eq_getElem hj)
        have ea:(ws.map V.ref)[j]?=some (.ref a):=by rw [List.getElem?_map,ha]; rfl
        have eb:(us.map V.ref)[j]?=some (.ref b):=by rw [List.getElem?_map,ee]; rfl
        have jn:ZK K false H5 p (ws.map V.ref):=ak.of (s5 _ _ eJ.at_)
        have SE:ZK K false H5 r (us.map V.ref):=ak.of (s5 _ _ DR.at_)
        refine ⟨⟨_,_,_,_,jn,SE,ea,eb⟩,?_⟩
        rintro x' H' ⟨Tp,xa,xb,rfl,hT,rfl,h1,h2⟩
        have e1:=h1 _ jn
        have e2:=h2 _ SE
        rw [ea] at e1
        rw [eb] at e2
        cases e1
        cases e2
        have sT:ai H5 (upd H5 Tp (.tup [.ref a,.ref b])):=ai.aq hT
        refine ⟨Tp,_,rfl,aV.of ae,rfl,_,_,rfl,_,_,rfl,rfl,jo ?_⟩
        have F7:=hb _ (List.getElem_mem hj)
        have hcj:=hm.cy (bss:=bss.take j) (λbs h=>hb bs (List.mem_of_mem_take h)) hc
        have SF:=hm.fit F7 hcj
        have sC:=s5.trans sT
        have eL:litAt M cs bss l j=d9 (df M bss[j] (cy M cs (bss.take j)) M.aE.length) l:=by unfold litAt; rw [getD_at hj]
        refine ⟨_,rfl,_,rfl,_,rfl,x,dx,g1,g2,g3,g4,g5,g6,a,b,o2,ts,M,names,bss[j],_,rfl,hR.same (nQ.trans sC),SF,hA.same sC,hB.same sC,λd H6 hd s6 FQ=>?_⟩
        refine ⟨_,rfl,d,_,l,rfl,.inl FQ,iA.B8 hm.ok.nm (λy hy=>by rw [SF.keys]; exact hy),λH7 s7=>⟨rfl,?_⟩⟩
        rw [← eL]
        have SG:=sT.trans (s6.trans s7)
        refine ⟨_,SG _ _ a9,?_,bo hj ae ⟨?_,⟨_,_,rfl⟩,λy o hy=>?_⟩⟩
        . rw [List.length_map,List.length_map,List.length_range]
          exact small (by omega)
        . rw [List.range_succ,List.map_append,List.map_append]
          congr 1
          show [_]=[_]
          congr 2
          rw [Bool.eq_iff_iff,decide_eq_true_eq,decide_eq_true_eq]
          exact ⟨λh=>V.int.inj h,λh=>congrArg V.int h⟩
        . rw [ag (af hy hD)]
          exact SG _ _ (s5 y o hy)
    . refine JB (show (!PyData.eqv (dT _) (dT _))=true by rw [oM,decide_eq_false heq]; rfl) ?_
      have e:cT M cs bss l (kn:Int)=false:=by
       unfold cT
       rw [Int.toNat_natCast,decide_eq_false heq]
       simp
      rw [e] at kk
      exact kk H3 nQ
end
end Gen
namespace Gen
open PySem L2
abbrev kJ:Stmt:=top 60
abbrev OH:List Str:=["_law_script", "_law_m", "_law_machine_here", "_law_k", "_law_cell", "_law_left", "_law_wish", "_law_literal_here", "_law_first", "_law_row", "_law_at", "_law_handed", "_law_found", "_law_due_here"]
theorem gO:aO OH ["_law_script"] (ao kJ):=⟨rfl,rfl,rfl,by decide +kernel,rfl,by decide +kernel,by decide +kernel⟩
abbrev Rc (P:Program) (w:World) (K:W.Frag) (mg:Str->Option Value) (base:Heap) (f:Addr) (cdv:Value) (A:Around) (outer:List Env) (s:Shared) (H:Hp) (E:XK):Cx:=
 (iR az P w K mg base OH "law" (ao kJ) f cdv A outer s H E).nj
inductive Ga (K:W.Frag) (vs:List V) (H:Hp) (Q:VK):Prop
 | mk (a:Addr) (ns:List Int) (h1:vs=[.ref a]) (h2:ak K H a (ns.map V.int)) (h3:ns.length<=63) (h4:∀H',Q (.bl true) H'):Ga K vs H Q
def yw (K:W.Frag):Sp:=λvs H Q _=>Ga K vs H Q
theorem Iq (ns:List Int) (lo hi:Option Int):∃oa:List Int,ox (ns.map V.int) lo hi=oa.map V.int/\oa.length<=ns.length:=by
 unfold ox
 rw [← List.map_drop,← List.map_take]
 exact ⟨_,rfl,by rw [List.length_take,List.length_drop]; omega⟩
theorem wt:∀{L:List (Str×Str)}{r:Str×Str},(L.map (·.1)).Nodup->r∈L->bf (cb L) (.inr r.1)=some (.str r.2)
 | q::L,r,nd,h=>by
  rcases List.mem_cons.mp h with rfl | h
  . exact fZ (p:=((.inr r.1:Key),V.str r.2)) rfl
  . have ne:q.1≠r.1:=λe=>(List.nodup_cons.mp nd).1 (by show q.1∈_; rw [e]; exact List.mem_map.mpr ⟨r,h,rfl⟩)
    have h1:bf (cb (q::L)) (.inr r.1)=bf (cb L) (.inr r.1):=gU (p:=((.inr q.1:Key),V.str q.2)) (λz=>ne (Sum.inr.inj z))
    rw [h1]
    exact wt (List.nodup_cons.mp nd).2 h
theorem eX.kq {M:aI}{names:List Str}(ok:eX M names):∀r∈M.nevers++M.somes,DK M r.1 r.2/\Lit names r.2:=λr hr=>by
 rcases List.mem_append.mp hr with h | h
 . exact ⟨.inl (wt ok.nvw.nd h),ok.nvw.lit r h⟩
 . exact ⟨.inr ⟨iX (ok.smw.ut r h),wt ok.smw.nd h⟩,ok.smw.lit r h⟩
structure Rf (M:aI):Prop where
 sh:Short M
 count:(rowsOf M).length<=200
 sum:((rowsOf M).map (·.length)).sum<=8000
 len:(Txt.join "\n" (rowsOf M)).length<=1000000
 row:∀r∈Txt.split (Txt.join "\n" (rowsOf M)) "\n",r.length<=1000
 rd:Reads vc ((Txt.split (Txt.join "\n" (rowsOf M)) "\n").map wordsOf) M
theorem again {M:aI}{names:List Str}(ok:eX M names) (l1:M.switches.length<=12) (l2:M.keepers.length<=16) (l3:M.aE.length<=60) (l4:M.nexts.length<=16) (l5:1<=M.nevers.length) (n5:M.nevers.length<=4) (n6:M.somes.length<=4):Rf M:=by
 have IK:=FH ok l1 l2 l3 l4 n5 n6
 obtain ⟨lL,hwd⟩:=DG ok l5
 have gk:=Lr ok
 have OI:(rowsOf M).length<=200:=by
  unfold rowsOf
  simp only [List.length_append,List.length_map]
  omega
 have VF:((rowsOf M).map (·.length)).sum<=8000:=by
  have:=FI gk
  omega
 have hjl:(Txt.join "\n" (rowsOf M)).length<=1000000:=by
  rw [vd]
  have:=Ap 10 (rowsOf M)
  omega
 exact ⟨ok.short l1 l2 l3 l4 n5 n6,OI,VF,hjl,(by rw [lL]; exact λr kf=>Nat.le_trans (gk r kf) (by decide)),by rw [lL,hwd]; exact IK⟩
structure Gb (P:Program) (w:World) (K:W.Frag) (mg:Str->Option Value) (base:Heap) (C fW fR Cm fP Cn Co Cp Cq:Addr) (dW dR Gd dP Ge Gf Gg Gh:FuncData):Prop where
 gW:av P w K mg base az 6 fW dW ["_law_script", "_law_sizes"] (tY K)
 mW:mg "_law_wished" = some (.ref fW)
 kW:W.keepIn K (.ref fW)=true
 bW:Binds K dW ["_law_script", "_law_sizes"] []
 gR:av P w K mg base az 2 fR dR ["_law_m"] Al
 mR:mg "_law_rows" = some (.ref fR)
 kR:W.keepIn K (.ref fR)=true
 bR:Binds K dR ["_law_m"] []
 gRd:av P w K mg base az 6 Cm Gd ["text"] (Ae C)
 mRd:mg "read_machine" = some (.ref Cm)
 kRd:W.keepIn K (.ref Cm)=true
 bRd:Binds K Gd ["text"] []
 gP:av P w K mg base az 1 fP dP ["_law_left", "_law_many"] j6
 mP:mg "_law_pick" = some (.ref fP)
 kP:W.keepIn K (.ref fP)=true
 bP:Binds K dP ["_law_left", "_law_many"] []
 gRi:av P w K mg base az 2 Cn Ge ["_law_cell", "_law_k"] nK
 mRi:mg "_law_rich" = some (.ref Cn)
 kRi:W.keepIn K (.ref Cn)=true
 bRi:Binds K Ge ["_law_cell", "_law_k"] []
 gRB:av P w K mg base az 4 Co Gf Cf (wm K)
 mRB:mg "_law_row_by" = some (.ref Co)
 kRB:W.keepIn K (.ref Co)=true
 bRB:Binds K Gf Cf []
 gLs:av P w K mg base az 5 Cp Gg Cj (wq C K)
 mLs:mg "lasso_walks" = some (.ref Cp)
 kLs:W.keepIn K (.ref Cp)=true
 bLs:Binds K Gg Cj []
 gDu:av P w K mg base az 4 Cq Gh Ci (DQ K)
 mDu:mg "_law_due" = some (.ref Cq)
 kDu:W.keepIn K (.ref Cq)=true
 bDu:Binds K Gh Ci []
section
variable {P:Program}{w:World}{K:W.Frag}{mg:Str->Option Value}{base:Heap}{C fW fR Cm fP Cn Co Cp Cq:Addr}{dW dR Gd dP Ge Gf Gg Gh:FuncData}
theorem Ir {f:Addr}(O:Own mg) (O2:eB mg) (G:Gb P w K mg base C fW fR Cm fP Cn Co Cp Cq dW dR Gd dP Ge Gf Gg Gh)
 {cdv:Value}{A:Around}{outer:List Env}{s:Shared}{H:Hp}{E:XK}{Q:VK}(hr:aX 6 (A.deeper (PyProof.Rows.envOfC "law" (ao kJ) s.heap.objs.size f cdv))) (kk:∀H',Q (.bl true) H') :
 ∃tR:TS,gx (Rc P w K mg base f cdv A outer s H E) (List.drop 2 (aD kJ)) tR/\∀(H1:Hp) (a m x:Addr) (ns:List Int) (M:aI) (names:List Str) (a1 a2 a3 a4 a5 a6 dx g1 g2 g3 g4 g5 g6:Addr) (o2:Obj) (ts:List Addr),
  ak K H1 a (ns.map V.int)->ns.length<=63->cE H1 m M a1 a2 a3 a4 a5 a6->Fm M names->M.keepers.length<=6->M.switches.length<=6->1<=M.somes.length->M.somes.length<=4->RZ C H1 x dx g1 g2 g3 g4 g5 g6 o2 ts M->
  tR { nx:=λ_ H'=>Q .aZ H',rt:=Q } [some (.ref a),some (.ref m),some (.ref x),none,none,none,none,none,none,none,none,none,none,none] H1:=by
 have hu:=cM hr
 have cc:aX 1 _:=hr.mono (by decide)
 have d5:aX 2 _:=hr.mono (by decide)
 have SH:aX 4 _:=hr.mono (by decide)
 have hr5:aX 5 _:=hr.mono (by decide)
 refine ⟨_,aj (dk PassesOwn.never rfl (qO (by rfl) O.enum (aa (aM gj (cg (aa ar (aa ar ah))) (eh qK (pv 0) (eO ar) (eO ar))) ah)) (cJ rfl (aJ (ax (i:=3) gO.nd rfl (Or.inl rfl)) (aJ (ax (i:=4) gO.nd rfl (Or.inl rfl)) b8)))
  (aj (aK (i:=5) gO.nd rfl (Or.inl rfl) (cg (aa (K6 (Gu (aL cU (aM jX (pv 4) ar) ar (aS _)) (aw G.gRi d5 (by rfl) G.mRi G.kRi G.bRi .nil aA (aa (pv 4) (aa ar ah))) (pv 4))) ah)))
  (aj (pN (aY aU (bz hu (pv 1) ay (λ_ _=>rfl)) (aw G.gP cc rfl G.mP G.kP G.bP .nil aA (aa (pv 5) (aa (bb bj (by rfl) O2.len PySem.boot_len (aa (bz hu (pv 1) ay (λ_ _=>rfl)) ah)) ah))) (λ_ _=>rfl)) (cJ rfl (aJ (ax (i:=6) gO.nd rfl (Or.inl rfl)) (aJ (ax (i:=7) gO.nd rfl (Or.inl rfl)) b8))))
  (aj (pN (aw G.gRB SH rfl G.mRB G.kRB G.bRB .nil aA (aa (pv 1) (aa (pv 7) (aa (pv 5) ah)))) (cJ rfl (aJ (ax (i:=8) gO.nd rfl (Or.inl rfl)) (aJ (ax (i:=9) gO.nd rfl (Or.inl rfl)) (aJ (ax (i:=10) gO.nd rfl (Or.inl rfl)) b8)))))
  (aj (aK (i:=11) gO.nd rfl (Or.inl rfl) (c6 g0 (by rfl) O2.list PyProof.Rows.boot_list (aa (pv 9) ah)))
  (aj (aK (i:=12) gO.nd rfl (Or.inl rfl) (aw G.gLs hr5 rfl G.mLs G.kLs G.bLs .nil aA (aa (pv 2) (aa (pv 6) (aa (pv 8) (aa (pv 11) (aa (pv 10) ah)))))))
  (aj (aK (i:=13) gO.nd rfl (Or.inl rfl) (aw G.gDu SH rfl G.mDu G.kDu G.bDu .nil aA (aa (pv 1) (aa (pv 7) (aa (pv 8) (aa (pv 9) (aa (pv 10) ah)))))))
  (au (bh (oh (pL (aL xu (pv 12) fk (aS _)) (ni (aL xu (pv 12) fk (aS _)))).pt (oh (aL Cy (pv 12) (pv 13) (aS _)) (pK (aL (MY hu) (pv 11) (pv 9) (aS _))))).pt (au (aB fk)) aT)))))))))
  (au (aB fk)),?_⟩
 intro H1 a m x ns M names a1 a2 a3 a4 a5 a6 dx g1 g2 g3 g4 g5 g6 o2 ts hS Mh hM hm k6 w6 s1 s4 hR
 obtain ⟨oa,ec,BC⟩:=Iq ns (some 3) (some 63)
 refine ⟨(by show 2<=sizeLine; decide),λc2 hc2=>?_⟩
 have t1:ai H1 (upd H1 c2 (.lst [.int 5,.int 7])):=ai.aq hc2
 have q1:(upd H1 c2 (.lst [.int 5,.int 7])) c2=some (.lst ([5,7].map V.int)):=ae
 generalize upd H1 c2 (.lst [.int 5,.int 7])=H2 at t1 q1 ⊢
 refine ⟨_,rfl,_,rfl,_,rfl,a,_,rfl,ai.seq t1 hS,λc1 hc1=>?_⟩
 rw [ec]
 have t2:ai H2 (upd H2 c1 (.lst (oa.map V.int))):=ai.aq hc1
 have q2:(upd H2 c1 (.lst (oa.map V.int))) c1=some (.lst (oa.map V.int)):=ae
 generalize upd H2 c1 (.lst (oa.map V.int))=H3 at t2 q2 ⊢
 refine ⟨c2,c1,_,_,rfl,rfl,t2 _ _ q1,q2,(by simp only [List.length_map,List.length_cons,List.length_nil]; exact iG (by omega)),λc3 Jl=>?_⟩
 have t3:ai H3 (upd H3 c3 (.lst ([5,7].map V.int++oa.map V.int))):=ai.aq Jl
 have q3:(upd H3 c3 (.lst ([5,7].map V.int++oa.map V.int))) c3=some (.lst (([5,7]++oa).map V.int)):=by rw [ae,List.map_append]
 generalize upd H3 c3 (.lst ([5,7].map V.int++oa.map V.int))=H4 at t3 q3 ⊢
 have JD:ai H1 H4:=(t1.trans t2).trans t3
 refine ⟨c3,rfl,⟨_,ak.of q3⟩,Ad (K:=K) (a:=c3) (xs:=([5,7]++oa).map V.int) (λi σ Hi=>∃v3 v4 v5 v6 v7 v8 v9 v10 v11 nL nM:Option V,σ=[some (.ref a),some (.ref m),some (.ref x),v3,v4,v5,v6,v7,v8,v9,v10,v11,nL,nM]/\ai H4 Hi) ?_ ?_ ?_ ?_⟩
 . exact ⟨_,_,_,_,_,_,_,_,_,_,_,rfl,λ_ _ h=>h⟩
 . rintro i σ Hi _ ⟨_,_,_,_,_,_,_,_,_,_,_,_,si⟩
   exact ak.of (si _ _ q3)
 . rintro i xv Tp σ Hi nX hT ⟨v3,v4,v5,v6,v7,v8,v9,v10,v11,nL,nM,rfl,si⟩
   obtain ⟨cell,rfl⟩:∃c:Int,xv=.int c:=by
    rw [List.getElem?_map] at nX
    cases e:([5,7]++oa)[i]? with
    | none=>rw [e] at nX; cases nX
    | some c=>rw [e] at nX; exact ⟨c,(Option.some.inj nX).symm⟩
   have tT:ai Hi (upd Hi Tp (.tup [.int (i:Int),.int cell])):=ai.aq hT
   refine ⟨Tp,_,rfl,aV.of ae,rfl,_,_,rfl,_,_,rfl,rfl,?_⟩
   have sj:=si.trans tT
   generalize upd Hi Tp (.tup [.int (i:Int),.int cell])=Hj at sj ⊢
   refine ⟨λv H'=>(∃c:Int,v=.int c)/\H'=Hj,?_,?_⟩
   . refine ⟨_,rfl,_,_,rfl,rfl,(by show (0:Int)<2; decide),rfl,_,rfl,cA (λ_=>?_) (λ_=>?_)⟩
     . exact ⟨_,rfl,cell,47,rfl,by decide,by decide,λv=>⟨⟨v,rfl⟩,rfl⟩⟩
     . exact ⟨_,rfl,⟨cell,rfl⟩,rfl⟩
   rintro _ Hz ⟨⟨c,rfl⟩,hE⟩
   rw [hE]
   refine ⟨(by show 1<=sizeLine; decide),λlf vx=>?_⟩
   have t5:ai Hj (upd Hj lf (.lst [.int c])):=ai.aq vx
   have q5:(upd Hj lf (.lst [.int c])) lf=some (.lst [.int c]):=ae
   have free:∀b o,H4 b=some o->b≠lf:=λb o hb=>af (sj _ _ hb) vx
   generalize upd Hj lf (.lst [.int c])=H5 at t5 q5 ⊢
   have SI:=sj.trans t5
   have xU:=hM.same (JD.trans SI)
   obtain ⟨vs,OJ,SJ⟩:=id xU.sm
   have hvl:=SJ.length
   rw [List.length_map] at hvl
   refine ⟨_,rfl,m,.ref a6,rfl,bH.k (k:=.inr "somes") xU.top,_,rfl,_,rfl,m,.ref a6,rfl,bH.k (k:=.inr "somes") xU.top,a6,_,rfl,.inl (ak.of OJ),lf,_,_,rfl,q5,.inl ⟨_,rfl⟩,(by rw [List.length_map]; omega),(by rw [List.length_map]; omega),λd zs H6 d0 d1 qp zJ sA=>?_⟩
   rw [List.length_map] at d1
   have kh:ai H4 H6:=λb o hb=>sA _ _ (SI _ _ hb) (free b o hb)
   have vf:=hM.same (JD.trans kh)
   have qG:cD [V.int c]:=.inl ⟨_,rfl⟩
   have VG:H6 a6=some (.lst (vs.map V.ref)):=sA _ _ OJ (bg OJ q5 λz=>tZ qG vs (HO.lst.inj z))
   obtain ⟨dn,rfl⟩:∃n:Nat,d=n:=⟨d.toNat,by omega⟩
   have qi:dn<M.somes.length:=by omega
   obtain ⟨t,ht,AG⟩:=bq SJ (i:=dn) (b:=gd M.somes[dn]) (by rw [List.getElem?_map,List.getElem?_eq_getElem qi]; rfl)
   obtain ⟨JE,iA⟩:=hm.ok.kq M.somes[dn] (List.mem_append_right _ (List.getElem_mem qi))
   generalize M.somes[dn]=eR at AG JE iA
   have BM:=sA _ _ AG (bg AG q5 (by intro z; cases z))
   refine ⟨a6,_,_,.ref t,rfl,rfl,ak.of VG,c9 (j:=dn) (by rw [List.getElem?_map,ht]; rfl),t,_,rfl,aV.of BM,rfl,_,_,rfl,_,_,rfl,rfl,?_⟩
   refine ⟨_,rfl,_,rfl,_,rfl,m,a1,a2,a3,a4,a5,a6,lf,M,names,eR.2,zs,rfl,vf,hm,iA,k6,w6,zJ,qp,λT fi r us cs bss k H7 k7 hT7 hfi hc fG hb b1 b6=>?_⟩
   have s47:ai H4 H7:=λb o hb=>k7 _ _ (kh _ _ hb) (free b o hb)
   refine ⟨T,_,rfl,aV.of hT7,rfl,_,_,rfl,_,_,rfl,_,_,rfl,rfl,?_⟩
   refine ⟨_,rfl,r,_,rfl,.inl (ak.of fG.at_),λhd hhd=>?_⟩
   have t8:ai H7 (upd H7 hd (.lst (us.map V.ref))):=ai.aq hhd
   have q8:(upd H7 hd (.lst (us.map V.ref))) hd=some (.lst (us.map V.ref)):=ae
   generalize upd H7 hd (.lst (us.map V.ref))=H8 at t8 q8 ⊢
   have SK:=s47.trans t8
   have Rg:=fG.same t8
   refine ⟨_,rfl,_,rfl,_,rfl,_,rfl,_,rfl,x,dx,g1,g2,g3,g4,g5,g6,fi,hd,o2,ts,us,M,names,cs,bss,eR.1,eR.2,k,rfl,hR.same (JD.trans SK),hm,hc,hfi.same t8,⟨q8,Rg.all⟩,hb,b1,by omega,JE,iA,λH9 s9=>?_⟩
   have SM:=SK.trans s9
   refine ⟨_,rfl,_,rfl,_,rfl,_,rfl,_,rfl,m,a1,a2,a3,a4,a5,a6,fi,r,us,M,names,cs,bss,eR.2,k,rfl,hM.same (JD.trans SM),hm,hc,k6,hfi.same (t8.trans s9),fG.same (t8.trans s9),hb,by omega,iA,λIT EC=>?_⟩
   have VH:=SM.trans EC
   have e8:=(s9.trans EC) _ _ q8
   have e9:=((t8.trans s9).trans EC) _ _ fG.at_
   generalize cT M cs bss eR.2 k=B
   have done:∃v3 v4 v5 v6 v7 v8 v9 v10 v11 nL nM:Option V,[some (V.ref a),some (.ref m),some (.ref x),some (.int (i:Int)),some (.int cell),some (.ref lf),some (.str eR.1),some (.str eR.2),some (.ref fi),some (.ref r),some (.int k),some (.ref hd),some (.bl B),some (.bl B)]=[some (.ref a),some (.ref m),some (.ref x),v3,v4,v5,v6,v7,v8,v9,v10,v11,nL,nM]/\ai H4 IT:=⟨_,_,_,_,_,_,_,_,_,_,_,rfl,VH⟩
   cases B with
   | true=>
    refine ⟨_,rfl,true,true,rfl,rfl,_,rfl,cu (cu ?_)⟩
    refine ⟨_,rfl,_,rfl,rfl,_,rfl,cu ?_⟩
    exact ⟨_,rfl,_,rfl,hd,r,us,rfl,rfl,ak.of e8,ak.of e9,_,rfl,cu done⟩
   | false=>
    refine ⟨_,rfl,false,true,rfl,rfl,_,rfl,gv ?_⟩
    refine ⟨_,rfl,false,false,rfl,rfl,_,rfl,cu ?_⟩
    refine ⟨_,rfl,_,rfl,rfl,_,rfl,cu ?_⟩
    exact ⟨_,rfl,_,rfl,hd,r,us,rfl,rfl,ak.of e8,ak.of e9,_,rfl,cu done⟩
 . rintro σ Hi _
   exact kk Hi
theorem OK {f:Addr}{fd:FuncData}(F:bJ K "law" "law" kJ f fd) (O:Own mg) (O2:eB mg) (G:Gb P w K mg base C fW fR Cm fP Cn Co Cp Cq dW dR Gd dP Ge Gf Gg Gh):av P w K mg base az 7 f fd ["_law_script"] (yw K):=by
 refine F.ok gO (λvs H Q E h=>?_) (λcdv A outer s H vs Q E hr h=>?_)
 . obtain ⟨a,ns,rfl,_⟩:=h
   rfl
 . obtain ⟨a,ns,rfl,hS,hlen,kk⟩:=h
   have hu:=cM hr
   have d5:aX 2 _:=hr.mono (by decide)
   obtain ⟨tT,hT,rT⟩:=Ir (f:=f) O O2 G (cdv:=cdv) (A:=A) (outer:=outer) (s:=s) (H:=H) (E:=E) (Q:=Q) hr kk
   refine ⟨_,aj (aK (i:=1) gO.nd rfl (Or.inl rfl) (aw G.gW hr rfl G.mW G.kW G.bW .nil aA (aa (pv 0) (aa (dm (aa ar (aa ar (aa ar (aa ar ah))))) ah))))
    (aj (aK (i:=2) gO.nd rfl (Or.inl rfl) (MZ (aw G.gRd hr rfl G.mRd G.kRd G.bRd .nil aA (aa (cV PySem.F.plainAttrs_str PySem.F.slot_str_join PySem.F.type_str_join vH ay (aa (aw G.gR d5 rfl G.mR G.kR G.bR .nil aA (aa (pv 1) ah)) ah)) ah))))
    hT),?_⟩
   refine ⟨_,rfl,(by show 4<=sizeLine; decide),λt ht=>?_⟩
   have st:ai H (upd H t (.tup [.int 2,.int 3,.int 6,.int 2])):=ai.aq ht
   refine ⟨a,t,ns,2,3,6,2,rfl,ai.seq st hS,⟨.inr (aV.of ae),by decide,by decide,by decide,by decide,by decide⟩,⟨_,ae⟩,λm M names a1 a2 a3 a4 a5 a6 H1 ok l1 l0 l2 l3 l4 l5 l6 l8 l7 hM kM=>?_⟩
   have hS1:ak K H1 a (ns.map V.int):=by
    rcases ai.seq st hS with (h | ⟨o,h⟩) | h
    . exact .inl (.inl (kM _ _ h (by intro _ z; cases z)))
    . exact .inl (.inr ⟨o,kM _ _ h (by intro _ z; cases z)⟩)
    . exact .inr h
   have n5:M.nevers.length<=4:=by omega
   have n6:M.somes.length<=4:=by omega
   have hA:=again ok l0.2 l2.2 l3 l4 l5 n5 n6
   have jw:("\n" : Str).length=1:=by decide +kernel
   have hm:Fm M names:=⟨ok,l0.2,l2.2,l3⟩
   refine ⟨rfl,_,rfl,m,M,a1,a2,a3,a4,a5,a6,rfl,hM,hA.sh,λp H2 hp SN cx=>?_⟩
   refine ⟨"\n",p,rowsOf M,rfl,rfl,ak.of cx,(by have:=hA.count; have:=hA.sum; rw [jw]; omega),?_⟩
   refine ⟨_,M,rfl,hA.len,hA.row,hA.rd,λx dx g1 g2 g3 g4 g5 g6 ts H3 wQ SO xC=>?_⟩
   refine ⟨g2,_,SO.h2,λo2=>?_⟩
   have hR:=SO.fO o2
   have OL:ai H1 (upd H3 g2 (.fO o2 (.dK (dQ M.keepers)))):=λb o hb=>by
    rw [ag (af (SN _ _ hb) (wQ g2 (by simp)))]
    exact xC _ _ (SN _ _ hb)
   generalize upd H3 g2 (.fO o2 (.dK (dQ M.keepers)))=H4 at hR OL ⊢
   exact rT H4 a m x ns M names a1 a2 a3 a4 a5 a6 dx g1 g2 g3 g4 g5 g6 o2 ts (ai.seq OL hS1) hlen (hM.same OL) hm (by omega) (by omega) l8 n6 hR
end
end Gen
namespace L2
open PySem PySem.Spec PyProof.Rows
theorem JF {P:Program}{w:World}{K:W.Frag}{a:Addr}{ep:Nat}(l:List (Str×Tok×Value)) (kvs:List (Str×V)) (hk:K.lookup a=some { cls:=.type "dict",data:=.dict (l.map λr=>(⟨PyData.keyHash w.params r.1,.str r.1 r.2.1,r.2.2⟩:DictEntry)).toArray ep }) (hs:(a == sysModules)=false) (nd:(l.map (·.1)).Nodup)
 (rel:Paired (λ(p:Str×V) (r:Str×Tok×Value)=>p.1=r.1/\RelV p.2 r.2.2) kvs l):KD P w K a (kvs.map λp=>((.inr p.1:Key),p.2)):=by
 refine ⟨hs,_,_,ep,l.map λr=>((.inr r.1:Key),r.2.2),hk,⟨rfl,rfl,rfl⟩,rfl,λe he=>?_,?_,?_,?_⟩
 . have MV:e∈l.map λr=>(⟨PyData.keyHash w.params r.1,.str r.1 r.2.1,r.2.2⟩:DictEntry):=by simpa using he
   obtain ⟨r,_,rfl⟩:=List.mem_map.mp MV
   exact ⟨.inr r.1,mO P w r.1 r.2.1,rfl⟩
 . clear hk nd rel
   show Pairs (aR P w) (l.map λr=>(⟨PyData.keyHash w.params r.1,.str r.1 r.2.1,r.2.2⟩:DictEntry)) _
   induction l with
   | nil=>exact .nil
   | cons r t ih=>exact .cons (mO P w r.1 r.2.1) rfl ih
 . rw [List.map_map]
   have e:((λx:Key×Value=>x.1)∘λr:Str×Tok×Value=>((.inr r.1:Key),r.2.2))=(Sum.inr:Str->Key)∘λr:Str×Tok×Value=>r.1:=rfl
   rw [e,← List.map_map]
   generalize l.map (λr:Str×Tok×Value=>r.1)=ks at nd
   induction ks with
   | nil=>exact List.nodup_nil
   | cons x r ih=>
    rw [List.nodup_cons] at nd
    rw [List.map_cons,List.nodup_cons]
    refine ⟨λm=>?_,ih nd.2⟩
    obtain ⟨y,hy,e⟩:=List.mem_map.mp m
    exact nd.1 (Sum.inr.inj e ▸ hy)
 . clear hk nd
   induction rel with
   | nil=>exact .nil
   | cons h _ ih=>exact .cons ⟨congrArg Sum.inr h.1,h.2⟩ ih
theorem kO {α:Type} : ∀{us:List α},us.length=1->∃a,us=[a]
 | [a],_=>⟨a,rfl⟩
theorem uc {α:Type} : ∀{us:List α}{n:Nat},us.length=n+1->∃a r,us=a::r/\r.length=n
 | a::r,_,h=>⟨a,r,rfl,Nat.succ.inj h⟩
theorem eD {α:Type}{us:List α}(h:us.length=2):∃a b,us=[a,b]:=by
 obtain ⟨a,r,rfl,h1⟩:=uc h
 obtain ⟨b,rfl⟩:=kO h1
 exact ⟨a,b,rfl⟩
theorem qH {α:Type}{us:List α}(h:us.length=3):∃a b c,us=[a,b,c]:=by
 obtain ⟨a,r,rfl,h1⟩:=uc h
 obtain ⟨b,c,rfl⟩:=eD h1
 exact ⟨a,b,c,rfl⟩
theorem Iu {α:Type}{us:List α}(h:us.length=4):∃a b c d,us=[a,b,c,d]:=by
 obtain ⟨a,r,rfl,h1⟩:=uc h
 obtain ⟨b,c,d,rfl⟩:=qH h1
 exact ⟨a,b,c,d,rfl⟩
theorem OM {α:Type}{us:List α}(h:us.length=5):∃a b c d e,us=[a,b,c,d,e]:=by
 obtain ⟨a,r,rfl,h1⟩:=uc h
 obtain ⟨b,c,d,e,rfl⟩:=Iu h1
 exact ⟨a,b,c,d,e,rfl⟩
theorem VI {α:Type}{us:List α}(h:us.length=7):∃a b c d e f g,us=[a,b,c,d,e,f,g]:=by
 obtain ⟨a,r,rfl,h1⟩:=uc h
 obtain ⟨b,r2,rfl,h2⟩:=uc h1
 obtain ⟨c,r3,rfl,h3⟩:=uc h2
 obtain ⟨d,e,f,g,rfl⟩:=Iu h3
 exact ⟨a,b,c,d,e,f,g,rfl⟩
end L2
namespace Gen
open PySem L2
section
theorem all_mk {l:W.OpenLaw}{w:World}{K:W.Frag}{h:Heap}{mg:Str->Option Value}{fa C aF aG p1 p2 p3 p4 p5 p6 f0 f2 f3 JG ON JH JI JJ JK JL OO JM JN JO JP JQ JR JS JT JU JV JW JX JY JZ J0 OP J1 Gi J2 J4 J5 J6 J7 OQ J8 Gj Gk Gm Gn Gp J9 Ka Kb OR:Addr}(X:K.In h) (G:h.Ns mainGlobals mg) (hfa:mg "law" = some (.ref fa))
 {od0 an0 od2 an2 od3 an3 VJ VL VM VN VO VP VQ VR VS VT VU VW VX VY VZ V0 V1 V2 V3 V4 V5 V6 V7 V8 V9 Wa Wb Wc Wd We Wf Wg Wh Wi Wj Wk Wl Wm Wn Wo Wq Wr Ws Wt Wu Wv Ww Wx Wy Wz WA WB WC WD WE WG WH WI WJ WK WL WM WN WO WQ WR WS WT WU WV WW WX WY WZ W0 W2 W3 W4 W5 W6 W7 W8 W9 OS:Option Addr}{sl0 Bs sl3 Xa Xb Xc Xd Xe Xf Xg Xh Xi Xj Xk Xl Xm Xn Xo Xp Xq Xr Xs Xt Xu Xv Xw Xx Xy Xz XA XB XC XD XE XF XG XH XI XJ XM XN XO XQ XR XS:Array (Option Value)}{oc0 kV0 dc0 pm0 SQ ct0 oc2 kV2 dc2 pm2 SR ct2 oc3 kV3 dc3 pm3 SS ct3 XT XU XW XX OT XY XZ X0 X1 X2 OU X3 X4 X5 X6 X7 OV X8 X9 Ya Yb Yc OW Yd Ye Yf Yg Yh OX Yi Yj Yk Yl Ym OY Yn Yo Yp Yq Yr OZ Ys Yt Yu Yv Yw O0 Yx Yy Yz YA YB O1 YC YD YE YF YG O3 YH YI YJ YK YL O4 YM YN YO YQ YR O5 YS YT YU YV YW O6 YX YY YZ Y0 Y1 O7 Y2 Y3 Y4 Y5 Y6 O8 Y7 Y8 Y9 Za Zb O9 Zc Zd Ze Zf Zg Pa Zh Zi Zj Zk Zl Pb Zm Zn Zo Zp Zq Pc Zr Zs Zt Zu Zv Pd Zw Zx Zy Zz ZA Pe ZC ZD ZE ZF ZG Pf ZH ZI ZJ ZL ZM Pg ZN ZO ZP ZQ ZR Ph ZT ZU ZV ZW ZX Pj ZY ZZ Z0 Z1 Z2 Pk Z3 Z4 Z5 Z6 Z7 Pl Z8 Z9 aaa aab aac Pm aad aae aaf aag aah Pn aai aaj aak aal aam Po aan aao aap aaq aar Pp aas aat aau aav aaw Pq aax aay aaz aaA aaB Pr aaC aaD aaE aaF aaG Pt aaH aaI aaJ aaK aaL Pu aaM aaN aaO aaP aaQ Pw aaR aaS aaT aaU aaV Px aaW aaX aaY aaZ aa0 Py aa2 aa3 aa4 aa5 aa6 Pz aa7 aa8 aa9 aba abb PB abd abe abf abg abh PD abi abj PF PH PJ Iv PK:Value}
 {epF epG:Nat}{tL tN tS tK tG tW u1 u2 u3 x1 x2 SU SV SW SX SY S0 q00 q10 q11 q20 q21 q22 q30 q31 q40 q41 q50 q51:Tok}{pd0 pd1 pd2 pd3 pd4 pd5:Option Addr}{ps0 ps1 ps2 ps3 ps4 ps5:Array (Option Value)}{pe0 pe1 pe2 pe3 pe4 pe5:Nat}
 (aC:W.nsIn K mainGlobals "Machine" = some (some (.ref C)))
 (a0:W.findIn K (.ref C) "__init__" = some (some (.ref f0))) (i0:W.isFn K (.ref f0)=true) (l0:K.lookup f0=some ⟨oc0,od0,.func (W.fnOf "__init__" "Machine.__init__" (aN qY) (aD qY) (ao qY) .none kV0 dc0 pm0 an0 SQ ct0),sl0⟩) (c0:W.codeIn K SQ "Machine.__init__" = true) (k0:W.keepIn K (.ref f0)=true)
 (a2:W.nsIn K mainGlobals "next_of" = some (some (.ref f2))) (l2:K.lookup f2=some ⟨oc2,od2,.func (W.fnOf "next_of" "next_of" (aN lD) (aD lD) (ao lD) .none kV2 dc2 pm2 an2 SR ct2),Bs⟩) (c2:W.codeIn K SR "next_of" = true) (k2:W.keepIn K (.ref f2)=true)
 (a3:W.nsIn K mainGlobals "literal_of_wish" = some (some (.ref f3))) (l3:K.lookup f3=some ⟨oc3,od3,.func (W.fnOf "literal_of_wish" "literal_of_wish" (aN jN) (aD jN) (ao jN) .none kV3 dc3 pm3 an3 SS ct3),sl3⟩) (c3:W.codeIn K SS "literal_of_wish" = true) (k3:W.keepIn K (.ref f3)=true)
 (a16:W.nsIn K mainGlobals "read_machine" = some (some (.ref JG))) (l16:K.lookup JG=some ⟨XT,VJ,.func (W.fnOf "read_machine" "read_machine" (aN rh) (aD rh) (ao rh) .none XU XW XX VL OT XY),Xa⟩) (c16:W.codeIn K OT "read_machine" = true) (k16:W.keepIn K (.ref JG)=true)
 (a17:W.nsIn K mainGlobals "rows_of" = some (some (.ref ON))) (l17:K.lookup ON=some ⟨XZ,VM,.func (W.fnOf "rows_of" "rows_of" (aN lB) (aD lB) (ao lB) .none X0 X1 X2 VN OU X3),Xb⟩) (c17:W.codeIn K OU "rows_of" = true) (k17:W.keepIn K (.ref ON)=true)
 (a18:W.nsIn K mainGlobals "fault_of" = some (some (.ref JH))) (l18:K.lookup JH=some ⟨X4,VO,.func (W.fnOf "fault_of" "fault_of" (aN nV) (aD nV) (ao nV) .none X5 X6 X7 VP OV X8),Xc⟩) (c18:W.codeIn K OV "fault_of" = true) (k18:W.keepIn K (.ref JH)=true)
 (a19:W.nsIn K mainGlobals "has_form" = some (some (.ref JI))) (l19:K.lookup JI=some ⟨X9,VQ,.func (W.fnOf "has_form" "has_form" (aN jI) (aD jI) (ao jI) .none Ya Yb Yc VR OW Yd),Xd⟩) (c19:W.codeIn K OW "has_form" = true) (k19:W.keepIn K (.ref JI)=true)
 (a20:W.nsIn K mainGlobals "fits" = some (some (.ref JJ))) (l20:K.lookup JJ=some ⟨Ye,VS,.func (W.fnOf "fits" "fits" (aN qX) (aD qX) (ao qX) .none Yf Yg Yh VT OX Yi),Xe⟩) (c20:W.codeIn K OX "fits" = true) (k20:W.keepIn K (.ref JJ)=true)
 (a21:W.nsIn K mainGlobals "is_name" = some (some (.ref JK))) (l21:K.lookup JK=some ⟨Yj,VU,.func (W.fnOf "is_name" "is_name" (aN jF) (aD jF) (ao jF) .none Yk Yl Ym VW OY Yn),Xf⟩) (c21:W.codeIn K OY "is_name" = true) (k21:W.keepIn K (.ref JK)=true)
 (a22:W.nsIn K mainGlobals "is_literal" = some (some (.ref JL))) (l22:K.lookup JL=some ⟨Yo,VX,.func (W.fnOf "is_literal" "is_literal" (aN nR) (aD nR) (ao nR) .none Yp Yq Yr VY OZ Ys),Xg⟩) (c22:W.codeIn K OZ "is_literal" = true) (k22:W.keepIn K (.ref JL)=true)
 (a23:W.nsIn K mainGlobals "bare_name" = some (some (.ref OO))) (l23:K.lookup OO=some ⟨Yt,VZ,.func (W.fnOf "bare_name" "bare_name" (aN mx) (aD mx) (ao mx) .none Yu Yv Yw V0 O0 Yx),Xh⟩) (c23:W.codeIn K O0 "bare_name" = true) (k23:W.keepIn K (.ref OO)=true)
 (a24:W.nsIn K mainGlobals "is_twice" = some (some (.ref JM))) (l24:K.lookup JM=some ⟨Yy,V1,.func (W.fnOf "is_twice" "is_twice" (aN nT) (aD nT) (ao nT) .none Yz YA YB V2 O1 YC),Xi⟩) (c24:W.codeIn K O1 "is_twice" = true) (k24:W.keepIn K (.ref JM)=true)
 (a25:W.nsIn K mainGlobals "is_told" = some (some (.ref JN))) (l25:K.lookup JN=some ⟨YD,V3,.func (W.fnOf "is_told" "is_told" (aN jG) (aD jG) (ao jG) .none YE YF YG V4 O3 YH),Xj⟩) (c25:W.codeIn K O3 "is_told" = true) (k25:W.keepIn K (.ref JN)=true)
 (a26:W.nsIn K mainGlobals "lacks_name" = some (some (.ref JO))) (l26:K.lookup JO=some ⟨YI,V5,.func (W.fnOf "lacks_name" "lacks_name" (aN ke) (aD ke) (ao ke) .none YJ YK YL V6 O4 YM),Xk⟩) (c26:W.codeIn K O4 "lacks_name" = true) (k26:W.keepIn K (.ref JO)=true)
 (a27:W.nsIn K mainGlobals "literals_in" = some (some (.ref JP))) (l27:K.lookup JP=some ⟨YN,V7,.func (W.fnOf "literals_in" "literals_in" (aN lA) (aD lA) (ao lA) .none YO YQ YR V8 O5 YS),Xl⟩) (c27:W.codeIn K O5 "literals_in" = true) (k27:W.keepIn K (.ref JP)=true)
 (a28:W.nsIn K mainGlobals "is_known" = some (some (.ref JQ))) (l28:K.lookup JQ=some ⟨YT,V9,.func (W.fnOf "is_known" "is_known" (aN jH) (aD jH) (ao jH) .none YU YV YW Wa O6 YX),Xm⟩) (c28:W.codeIn K O6 "is_known" = true) (k28:W.keepIn K (.ref JQ)=true)
 (a29:W.nsIn K mainGlobals "is_too_many" = some (some (.ref JR))) (l29:K.lookup JR=some ⟨YY,Wb,.func (W.fnOf "is_too_many" "is_too_many" (aN rf) (aD rf) (ao rf) .none YZ Y0 Y1 Wc O7 Y2),Xn⟩) (c29:W.codeIn K O7 "is_too_many" = true) (k29:W.keepIn K (.ref JR)=true)
 (a30:W.nsIn K mainGlobals "take_row" = some (some (.ref JS))) (l30:K.lookup JS=some ⟨Y3,Wd,.func (W.fnOf "take_row" "take_row" (aN rg) (aD rg) (ao rg) .none Y4 Y5 Y6 We O8 Y7),Xo⟩) (c30:W.codeIn K O8 "take_row" = true) (k30:W.keepIn K (.ref JS)=true)
 (a32:W.nsIn K mainGlobals "values_at" = some (some (.ref JT))) (l32:K.lookup JT=some ⟨Y8,Wf,.func (W.fnOf "values_at" "values_at" (aN jd) (aD jd) (ao jd) .none Y9 Za Zb Wg O9 Zc),Xp⟩) (c32:W.codeIn K O9 "values_at" = true) (k32:W.keepIn K (.ref JT)=true)
 (a33:W.nsIn K mainGlobals "value_of" = some (some (.ref JU))) (l33:K.lookup JU=some ⟨Zd,Wh,.func (W.fnOf "value_of" "value_of" (aN jL) (aD jL) (ao jL) .none Ze Zf Zg Wi Pa Zh),Xq⟩) (c33:W.codeIn K Pa "value_of" = true) (k33:W.keepIn K (.ref JU)=true)
 (a34:W.nsIn K mainGlobals "stepped" = some (some (.ref JV))) (l34:K.lookup JV=some ⟨Zi,Wj,.func (W.fnOf "stepped" "stepped" (aN jM) (aD jM) (ao jM) .none Zj Zk Zl Wk Pb Zm),Xr⟩) (c34:W.codeIn K Pb "stepped" = true) (k34:W.keepIn K (.ref JV)=true)
 (a35:W.nsIn K mainGlobals "stand_behind" = some (some (.ref JW))) (l35:K.lookup JW=some ⟨Zn,Wl,.func (W.fnOf "stand_behind" "stand_behind" (aN lE) (aD lE) (ao lE) .none Zo Zp Zq Wm Pc Zr),Xs⟩) (c35:W.codeIn K Pc "stand_behind" = true) (k35:W.keepIn K (.ref JW)=true)
 (a36:W.nsIn K mainGlobals "walked" = some (some (.ref JX))) (l36:K.lookup JX=some ⟨Zs,Wn,.func (W.fnOf "walked" "walked" (aN lF) (aD lF) (ao lF) .none Zt Zu Zv Wo Pd Zw),Xt⟩) (c36:W.codeIn K Pd "walked" = true) (k36:W.keepIn K (.ref JX)=true)
 (a37:W.nsIn K mainGlobals "is_first" = some (some (.ref JY))) (l37:K.lookup JY=some ⟨Zx,Wq,.func (W.fnOf "is_first" "is_first" (aN jO) (aD jO) (ao jO) .none Zy Zz ZA Wr Pe ZC),Xu⟩) (c37:W.codeIn K Pe "is_first" = true) (k37:W.keepIn K (.ref JY)=true)
 (a39:W.nsIn K mainGlobals "lasso_walks" = some (some (.ref JZ))) (l39:K.lookup JZ=some ⟨ZD,Ws,.func (W.fnOf "lasso_walks" "lasso_walks" (aN n9) (aD n9) (ao n9) .none ZE ZF ZG Wt Pf ZH),Xv⟩) (c39:W.codeIn K Pf "lasso_walks" = true) (k39:W.keepIn K (.ref JZ)=true)
 (a41:W.nsIn K mainGlobals "_law_cell_at" = some (some (.ref J0))) (l41:K.lookup J0=some ⟨ZI,Wu,.func (W.fnOf "_law_cell_at" "_law_cell_at" (aN qT) (aD qT) (ao qT) .none ZJ ZL ZM Wv Pg ZN),Xw⟩) (c41:W.codeIn K Pg "_law_cell_at" = true) (k41:W.keepIn K (.ref J0)=true)
 (a42:W.nsIn K mainGlobals "_law_mix" = some (some (.ref OP))) (l42:K.lookup OP=some ⟨ZO,Ww,.func (W.fnOf "_law_mix" "_law_mix" (aN tj) (aD tj) (ao tj) .none ZP ZQ ZR Wx Ph ZT),Xx⟩) (c42:W.codeIn K Ph "_law_mix" = true) (k42:W.keepIn K (.ref OP)=true)
 (a43:W.nsIn K mainGlobals "_law_rich" = some (some (.ref J1))) (l43:K.lookup J1=some ⟨ZU,Wy,.func (W.fnOf "_law_rich" "_law_rich" (aN qU) (aD qU) (ao qU) .none ZV ZW ZX Wz Pj ZY),Xy⟩) (c43:W.codeIn K Pj "_law_rich" = true) (k43:W.keepIn K (.ref J1)=true)
 (a44:W.nsIn K mainGlobals "_law_pick" = some (some (.ref Gi))) (l44:K.lookup Gi=some ⟨ZZ,WA,.func (W.fnOf "_law_pick" "_law_pick" (aN lj) (aD lj) (ao lj) .none Z0 Z1 Z2 WB Pk Z3),Xz⟩) (c44:W.codeIn K Pk "_law_pick" = true) (k44:W.keepIn K (.ref Gi)=true)
 (a45:W.nsIn K mainGlobals "_law_spelt" = some (some (.ref J2))) (l45:K.lookup J2=some ⟨Z4,WC,.func (W.fnOf "_law_spelt" "_law_spelt" (aN jm) (aD jm) (ao jm) .none Z5 Z6 Z7 WD Pl Z8),XA⟩) (c45:W.codeIn K Pl "_law_spelt" = true) (k45:W.keepIn K (.ref J2)=true)
 (a46:W.nsIn K mainGlobals "_law_literal" = some (some (.ref J4))) (l46:K.lookup J4=some ⟨Z9,WE,.func (W.fnOf "_law_literal" "_law_literal" (aN iT) (aD iT) (ao iT) .none aaa aab aac WG Pm aad),XB⟩) (c46:W.codeIn K Pm "_law_literal" = true) (k46:W.keepIn K (.ref J4)=true)
 (a47:W.nsIn K mainGlobals "_law_wishes" = some (some (.ref J5))) (l47:K.lookup J5=some ⟨aae,WH,.func (W.fnOf "_law_wishes" "_law_wishes" (aN ly) (aD ly) (ao ly) .none aaf aag aah WI Pn aai),XC⟩) (c47:W.codeIn K Pn "_law_wishes" = true) (k47:W.keepIn K (.ref J5)=true)
 (a48:W.nsIn K mainGlobals "_law_machine_digits" = some (some (.ref J6))) (l48:K.lookup J6=some ⟨aaj,WJ,.func (W.fnOf "_law_machine_digits" "_law_machine_digits" (aN dE) (aD dE) (ao dE) .none aak aal aam WK Po aan),XD⟩) (c48:W.codeIn K Po "_law_machine_digits" = true) (k48:W.keepIn K (.ref J6)=true)
 (a49:W.nsIn K mainGlobals "_law_machine" = some (some (.ref J7))) (l49:K.lookup J7=some ⟨aao,WL,.func (W.fnOf "_law_machine" "_law_machine" (aN gc) (aD gc) (ao gc) .none aap aaq aar WM Pp aas),XE⟩) (c49:W.codeIn K Pp "_law_machine" = true) (k49:W.keepIn K (.ref J7)=true)
 (a50:W.nsIn K mainGlobals "_law_first_text" = some (some (.ref OQ))) (l50:K.lookup OQ=some ⟨aat,WN,.func (W.fnOf "_law_first_text" "_law_first_text" (aN nY) (aD nY) (ao nY) .none aau aav aaw WO Pq aax),XF⟩) (c50:W.codeIn K Pq "_law_first_text" = true) (k50:W.keepIn K (.ref OQ)=true)
 (a51:W.nsIn K mainGlobals "_law_rows" = some (some (.ref J8))) (l51:K.lookup J8=some ⟨aay,WQ,.func (W.fnOf "_law_rows" "_law_rows" (aN gG) (aD gG) (ao gG) .none aaz aaA aaB WR Pr aaC),XG⟩) (c51:W.codeIn K Pr "_law_rows" = true) (k51:W.keepIn K (.ref J8)=true)
 (a52:W.nsIn K mainGlobals "_law_values" = some (some (.ref Gj))) (l52:K.lookup Gj=some ⟨aaD,WS,.func (W.fnOf "_law_values" "_law_values" (aN lC) (aD lC) (ao lC) .none aaE aaF aaG WT Pt aaH),XH⟩) (c52:W.codeIn K Pt "_law_values" = true) (k52:W.keepIn K (.ref Gj)=true)
 (a53:W.nsIn K mainGlobals "_law_bit" = some (some (.ref Gk))) (l53:K.lookup Gk=some ⟨aaI,WU,.func (W.fnOf "_law_bit" "_law_bit" (aN wg) (aD wg) (ao wg) .none aaJ aaK aaL WV Pu aaM),XI⟩) (c53:W.codeIn K Pu "_law_bit" = true) (k53:W.keepIn K (.ref Gk)=true)
 (a54:W.nsIn K mainGlobals "_law_next" = some (some (.ref Gm))) (l54:K.lookup Gm=some ⟨aaN,WW,.func (W.fnOf "_law_next" "_law_next" (aN rn) (aD rn) (ao rn) .none aaO aaP aaQ WX Pw aaR),XJ⟩) (c54:W.codeIn K Pw "_law_next" = true) (k54:W.keepIn K (.ref Gm)=true)
 (a55:W.nsIn K mainGlobals "_law_all_bits" = some (some (.ref Gn))) (l55:K.lookup Gn=some ⟨aaS,WY,.func (W.fnOf "_law_all_bits" "_law_all_bits" (aN rp) (aD rp) (ao rp) .none aaT aaU aaV WZ Px aaW),XM⟩) (c55:W.codeIn K Px "_law_all_bits" = true) (k55:W.keepIn K (.ref Gn)=true)
 (a56:W.nsIn K mainGlobals "_law_firsts" = some (some (.ref Gp))) (l56:K.lookup Gp=some ⟨aaX,W0,.func (W.fnOf "_law_firsts" "_law_firsts" (aN lG) (aD lG) (ao lG) .none aaY aaZ aa0 W2 Py aa2),XN⟩) (c56:W.codeIn K Py "_law_firsts" = true) (k56:W.keepIn K (.ref Gp)=true)
 (a57:W.nsIn K mainGlobals "_law_wished" = some (some (.ref J9))) (l57:K.lookup J9=some ⟨aa3,W3,.func (W.fnOf "_law_wished" "_law_wished" (aN lH) (aD lH) (ao lH) .none aa4 aa5 aa6 W4 Pz aa7),XO⟩) (c57:W.codeIn K Pz "_law_wished" = true) (k57:W.keepIn K (.ref J9)=true)
 (a58:W.nsIn K mainGlobals "_law_row_by" = some (some (.ref Ka))) (l58:K.lookup Ka=some ⟨aa8,W5,.func (W.fnOf "_law_row_by" "_law_row_by" (aN ia) (aD ia) (ao ia) .none aa9 aba abb W6 PB abd),XQ⟩) (c58:W.codeIn K PB "_law_row_by" = true) (k58:W.keepIn K (.ref Ka)=true)
 (a59:W.nsIn K mainGlobals "_law_due" = some (some (.ref Kb))) (l59:K.lookup Kb=some ⟨abe,W7,.func (W.fnOf "_law_due" "_law_due" (aN wo) (aD wo) (ao wo) .none abf abg abh W8 PD abi),XR⟩) (c59:W.codeIn K PD "_law_due" = true) (k59:W.keepIn K (.ref Kb)=true)
 (a60:W.nsIn K mainGlobals "law" = some (some (.ref OR))) (l60:K.lookup OR=some ⟨abj,W9,.func (W.fnOf "law" "law" (aN kJ) (aD kJ) (ao kJ) .none PF PH PJ OS Iv PK),XS⟩) (c60:W.codeIn K Iv "law" = true) (k60:W.keepIn K (.ref OR)=true)
 (pg:W.plainGet K C Str.empty=true) (hd:W.hasDictIn K C=true) (po:W.plainOver K C=true) (sa:W.findIn K (.ref C) "__setattr__" = some (some (.builtin "object.__setattr__"))) (mk:W.makesIn K C=true) (kc:W.keepIn K (.ref C)=true)
 (n1:W.findIn K (.ref C) "switches" = some none) (n2:W.findIn K (.ref C) "keepers" = some none) (n3:W.findIn K (.ref C) "gates" = some none) (n4:W.findIn K (.ref C) "nexts" = some none) (n5:W.findIn K (.ref C) "nevers" = some none) (n6:W.findIn K (.ref C) "somes" = some none)
 (z0:W.nsIn K mainGlobals "len" = some none) (z1:W.nsIn K mainGlobals "range" = some none) (z2:W.nsIn K mainGlobals "enumerate" = some none) (z3:W.nsIn K mainGlobals "list" = some none) (z4:W.nsIn K mainGlobals "dict" = some none) (z5:W.nsIn K mainGlobals "tuple" = some none) (z6:W.nsIn K mainGlobals "str" = some none) (z7:W.nsIn K mainGlobals "int" = some none) (z8:W.nsIn K mainGlobals "bool" = some none) (z9:W.nsIn K mainGlobals "zip" = some none) (z10:W.nsIn K mainGlobals "all" = some none) (z11:W.nsIn K mainGlobals "isinstance" = some none) (z12:W.nsIn K mainGlobals "any" = some none) (z13:W.nsIn K mainGlobals "sorted" = some none)
 (cL:W.nsIn K mainGlobals "LETTERS" = some (some (.str "abcdefghijklmnopqrstuvwxyz" tL))) (cN:W.nsIn K mainGlobals "LONGEST_NAME" = some (some (.int 8 tN))) (cS:W.nsIn K mainGlobals "MOST_SWITCHES" = some (some (.int 12 tS))) (cK:W.nsIn K mainGlobals "MOST_KEEPERS" = some (some (.int 16 tK))) (cG:W.nsIn K mainGlobals "MOST_GATES" = some (some (.int 60 tG))) (cW:W.nsIn K mainGlobals "MOST_WISHES" = some (some (.int 8 tW))) (cF:W.nsIn K mainGlobals "FORMS" = some (some (.ref aF))) (cR:W.nsIn K mainGlobals "FIRSTS" = some (some (.ref aG)))
 (dF:K.lookup aF=some { cls:=.type "dict",data:=.dict #[⟨PyData.keyHash w.params "switch",.str "switch" SU,.ref p1⟩,⟨PyData.keyHash w.params "keep",.str "keep" SV,.ref p2⟩,⟨PyData.keyHash w.params "gate",.str "gate" SW,.ref p3⟩,⟨PyData.keyHash w.params "next",.str "next" SX,.ref p4⟩,⟨PyData.keyHash w.params "never",.str "never" SY,.ref p5⟩,⟨PyData.keyHash w.params "some",.str "some" S0,.ref p6⟩] epF }) (sF:(aF == sysModules)=false)
 (dG:K.lookup aG=some { cls:=.type "dict",data:=.dict #[⟨PyData.keyHash w.params "0",.str "0" u1,.int 0 x1⟩,⟨PyData.keyHash w.params "1",.str "1" u2,.int 1 x2⟩,⟨PyData.keyHash w.params "-",.str "-" u3,.none⟩] epG }) (sG:(aG == sysModules)=false)
 (t0:K.lookup p1=some ⟨.type "tuple",pd0,.seq #[.str "name" q00] pe0,ps0⟩)
 (t1:K.lookup p2=some ⟨.type "tuple",pd1,.seq #[.str "name" q10,.str "first" q11] pe1,ps1⟩)
 (t2:K.lookup p3=some ⟨.type "tuple",pd2,.seq #[.str "name" q20,.str "literal" q21,.str "literal" q22] pe2,ps2⟩)
 (t3:K.lookup p4=some ⟨.type "tuple",pd3,.seq #[.str "name" q30,.str "literal" q31] pe3,ps3⟩)
 (t4:K.lookup p5=some ⟨.type "tuple",pd4,.seq #[.str "name" q40,.str "literal" q41] pe4,ps4⟩)
 (t5:K.lookup p6=some ⟨.type "tuple",pd5,.seq #[.str "name" q50,.str "literal" q51] pe5,ps5⟩)
 :
 ∃fd:FuncData,(∀(s:Shared) (v:Value),BindsTo s fd ⟨[v],[]⟩ [("_law_script",v)])/\∀base:Heap,K.In base->base.Ns mainGlobals mg->av l.prog w K mg base az 7 fa fd ["_law_script"] (yw K):=by
 have e:=hfa.symm.trans (W.mg_of X G a60)
 cases e
 have T:kI K mg C:=⟨⟨pg,hd,po,sa⟩,n1,n2,n3,n4,n5,n6,W.mg_of X G aC⟩
 have O:Own mg:=⟨W.mg_none_of X G z0,W.mg_none_of X G z1,W.mg_none_of X G z2,W.mg_none_of X G z3⟩
 have O2:eB mg:=⟨W.mg_none_of X G z0,W.mg_none_of X G z3,W.mg_none_of X G z4,W.mg_none_of X G z5,W.mg_none_of X G z6,W.mg_none_of X G z7,W.mg_none_of X G z8,W.mg_none_of X G z9,W.mg_none_of X G z10,W.mg_none_of X G z11⟩
 have Gq:mg "sorted" = none:=W.mg_none_of X G z13
 have Iw:mg "any" = none:=W.mg_none_of X G z12
 have CT:zR mg:=⟨⟨_,W.mg_of X G cL⟩,⟨_,W.mg_of X G cN⟩,W.mg_none_of X G z0,W.mg_none_of X G z10⟩
 have MT:N0 mg:=⟨⟨_,W.mg_of X G cS⟩,⟨_,W.mg_of X G cK⟩,⟨_,W.mg_of X G cG⟩,⟨_,W.mg_of X G cW⟩⟩
 have mR:=W.mg_of X G cR
 have kR:KD l.prog w K aG fU:=JF (P:=l.prog) [("0",u1,.int 0 x1),("1",u2,.int 1 x2),("-",u3,.none)] [("0",.int 0),("1",.int 1),("-",.aZ)] dG sG (by show (["0", "1", "-"]:List Str).Nodup; decide +kernel) (.cons ⟨rfl,⟨_,rfl⟩⟩ (.cons ⟨rfl,⟨_,rfl⟩⟩ (.cons ⟨rfl,rfl⟩ .nil)))
 have FT:vW l.prog w K mg aF:=by
  refine ⟨W.mg_of X G cF,_,JF (P:=l.prog) [("switch",SU,.ref p1),("keep",SV,.ref p2),("gate",SW,.ref p3),("next",SX,.ref p4),("never",SY,.ref p5),("some",S0,.ref p6)] [("switch",.ref p1),("keep",.ref p2),("gate",.ref p3),("next",.ref p4),("never",.ref p5),("some",.ref p6)] dF sF (by show (["switch", "keep", "gate", "next", "never", "some"]:List Str).Nodup; decide +kernel) (.cons ⟨rfl,rfl⟩ (.cons ⟨rfl,rfl⟩ (.cons ⟨rfl,rfl⟩ (.cons ⟨rfl,rfl⟩ (.cons ⟨rfl,rfl⟩ (.cons ⟨rfl,rfl⟩ (.nil))))))),?_⟩
  intro key parts hm
  simp only [iH,List.mem_cons,Prod.mk.injEq,List.not_mem_nil,or_false] at hm
  rcases hm with ⟨rfl,rfl⟩ | ⟨rfl,rfl⟩ | ⟨rfl,rfl⟩ | ⟨rfl,rfl⟩ | ⟨rfl,rfl⟩ | ⟨rfl,rfl⟩
  . exact ⟨p1,rfl,_,_,_,t0,rfl,rfl,(by show 1<=sizeLine; decide),.cons ⟨_,rfl⟩ (.nil)⟩
  . exact ⟨p2,rfl,_,_,_,t1,rfl,rfl,(by show 2<=sizeLine; decide),.cons ⟨_,rfl⟩ (.cons ⟨_,rfl⟩ (.nil))⟩
  . exact ⟨p3,rfl,_,_,_,t2,rfl,rfl,(by show 3<=sizeLine; decide),.cons ⟨_,rfl⟩ (.cons ⟨_,rfl⟩ (.cons ⟨_,rfl⟩ (.nil)))⟩
  . exact ⟨p4,rfl,_,_,_,t3,rfl,rfl,(by show 2<=sizeLine; decide),.cons ⟨_,rfl⟩ (.cons ⟨_,rfl⟩ (.nil))⟩
  . exact ⟨p5,rfl,_,_,_,t4,rfl,rfl,(by show 2<=sizeLine; decide),.cons ⟨_,rfl⟩ (.cons ⟨_,rfl⟩ (.nil))⟩
  . exact ⟨p6,rfl,_,_,_,t5,rfl,rfl,(by show 2<=sizeLine; decide),.cons ⟨_,rfl⟩ (.cons ⟨_,rfl⟩ (.nil))⟩
 have F0:=a8 (st:=qY) l0 c0 k0
 have b0:=F0.binds (ps:=qZ) λ_ _ _ _ _ _ us hl=>by obtain ⟨_,_,_,_,_,_,_,rfl⟩:=VI hl; rfl
 have F2:=a8 (st:=lD) l2 c2 k2
 have m2:=W.mg_of X G a2
 have b2:=F2.binds (ps:=["machine", "keeper"]) λ_ _ _ _ _ _ us hl=>by obtain ⟨_,_,rfl⟩:=eD hl; rfl
 have F3:=a8 (st:=jN) l3 c3 k3
 have m3:=W.mg_of X G a3
 have b3:=F3.binds (ps:=["machine", "wish"]) λ_ _ _ _ _ _ us hl=>by obtain ⟨_,_,rfl⟩:=eD hl; rfl
 have S1:=a8 (st:=rh) l16 c16 k16
 have m16:=W.mg_of X G a16
 have b16:=S1.binds (ps:=["text"]) λ_ _ _ _ _ _ us hl=>by obtain ⟨_,rfl⟩:=kO hl; rfl
 have S2:=a8 (st:=lB) l17 c17 k17
 have m17:=W.mg_of X G a17
 have b17:=S2.binds (ps:=["text"]) λ_ _ _ _ _ _ us hl=>by obtain ⟨_,rfl⟩:=kO hl; rfl
 have S3:=a8 (st:=nV) l18 c18 k18
 have m18:=W.mg_of X G a18
 have b18:=S3.binds (ps:=["machine", "words"]) λ_ _ _ _ _ _ us hl=>by obtain ⟨_,_,rfl⟩:=eD hl; rfl
 have S4:=a8 (st:=jI) l19 c19 k19
 have m19:=W.mg_of X G a19
 have b19:=S4.binds (ps:=["words"]) λ_ _ _ _ _ _ us hl=>by obtain ⟨_,rfl⟩:=kO hl; rfl
 have S5:=a8 (st:=qX) l20 c20 k20
 have m20:=W.mg_of X G a20
 have b20:=S5.binds (ps:=["part", "word"]) λ_ _ _ _ _ _ us hl=>by obtain ⟨_,_,rfl⟩:=eD hl; rfl
 have PL:=a8 (st:=jF) l21 c21 k21
 have S6:=W.mg_of X G a21
 have S7:=PL.binds (ps:=["word"]) λ_ _ _ _ _ _ us hl=>by obtain ⟨_,rfl⟩:=kO hl; rfl
 have S8:=a8 (st:=nR) l22 c22 k22
 have m22:=W.mg_of X G a22
 have b22:=S8.binds (ps:=["word"]) λ_ _ _ _ _ _ us hl=>by obtain ⟨_,rfl⟩:=kO hl; rfl
 have PM:=a8 (st:=mx) l23 c23 k23
 have S9:=W.mg_of X G a23
 have Ta:=PM.binds (ps:=["literal"]) λ_ _ _ _ _ _ us hl=>by obtain ⟨_,rfl⟩:=kO hl; rfl
 have Tb:=a8 (st:=nT) l24 c24 k24
 have m24:=W.mg_of X G a24
 have b24:=Tb.binds (ps:=["machine", "form", "name"]) λ_ _ _ _ _ _ us hl=>by obtain ⟨_,_,_,rfl⟩:=qH hl; rfl
 have PN:=a8 (st:=jG) l25 c25 k25
 have Tc:=W.mg_of X G a25
 have Td:=PN.binds (ps:=["machine", "name"]) λ_ _ _ _ _ _ us hl=>by obtain ⟨_,_,rfl⟩:=eD hl; rfl
 have Te:=a8 (st:=ke) l26 c26 k26
 have m26:=W.mg_of X G a26
 have b26:=Te.binds (ps:=["machine", "words"]) λ_ _ _ _ _ _ us hl=>by obtain ⟨_,_,rfl⟩:=eD hl; rfl
 have Tf:=a8 (st:=lA) l27 c27 k27
 have m27:=W.mg_of X G a27
 have b27:=Tf.binds (ps:=["words"]) λ_ _ _ _ _ _ us hl=>by obtain ⟨_,rfl⟩:=kO hl; rfl
 have Tg:=a8 (st:=jH) l28 c28 k28
 have m28:=W.mg_of X G a28
 have b28:=Tg.binds (ps:=["machine", "literal"]) λ_ _ _ _ _ _ us hl=>by obtain ⟨_,_,rfl⟩:=eD hl; rfl
 have Th:=a8 (st:=rf) l29 c29 k29
 have m29:=W.mg_of X G a29
 have b29:=Th.binds (ps:=["machine", "form"]) λ_ _ _ _ _ _ us hl=>by obtain ⟨_,_,rfl⟩:=eD hl; rfl
 have Ti:=a8 (st:=rg) l30 c30 k30
 have m30:=W.mg_of X G a30
 have b30:=Ti.binds (ps:=["machine", "words"]) λ_ _ _ _ _ _ us hl=>by obtain ⟨_,_,rfl⟩:=eD hl; rfl
 have Tj:=a8 (st:=jd) l32 c32 k32
 have Tn:=W.mg_of X G a32
 have To:=Tj.binds (ps:=["machine", "stand", "told"]) λ_ _ _ _ _ _ us hl=>by obtain ⟨_,_,_,rfl⟩:=qH hl; rfl
 have Tq:=a8 (st:=jL) l33 c33 k33
 have PQ:=W.mg_of X G a33
 have PR:=Tq.binds (ps:=["values", "literal"]) λ_ _ _ _ _ _ us hl=>by obtain ⟨_,_,rfl⟩:=eD hl; rfl
 have Tr:=a8 (st:=jM) l34 c34 k34
 have Ts:=W.mg_of X G a34
 have Tt:=Tr.binds (ps:=["machine", "stand", "told"]) λ_ _ _ _ _ _ us hl=>by obtain ⟨_,_,_,rfl⟩:=qH hl; rfl
 have Tu:=a8 (st:=lE) l35 c35 k35
 have m35:=W.mg_of X G a35
 have b35:=Tu.binds (ps:=["machine", "values"]) λ_ _ _ _ _ _ us hl=>by obtain ⟨_,_,rfl⟩:=eD hl; rfl
 have Tv:=a8 (st:=lF) l36 c36 k36
 have m36:=W.mg_of X G a36
 have b36:=Tv.binds (ps:=["machine", "first", "row"]) λ_ _ _ _ _ _ us hl=>by obtain ⟨_,_,_,rfl⟩:=qH hl; rfl
 have Tw:=a8 (st:=jO) l37 c37 k37
 have m37:=W.mg_of X G a37
 have b37:=Tw.binds (ps:=["machine", "stand"]) λ_ _ _ _ _ _ us hl=>by obtain ⟨_,_,rfl⟩:=eD hl; rfl
 have Tx:=a8 (st:=n9) l39 c39 k39
 have m39:=W.mg_of X G a39
 have b39:=Tx.binds (ps:=Cj) λ_ _ _ _ _ _ us hl=>by obtain ⟨_,_,_,_,_,rfl⟩:=OM hl; rfl
 have Tz:=a8 (st:=qT) l41 c41 k41
 have TB:=W.mg_of X G a41
 have TC:=Tz.binds (ps:=["_law_script", "_law_k"]) λ_ _ _ _ _ _ us hl=>by obtain ⟨_,_,rfl⟩:=eD hl; rfl
 have TF:=a8 (st:=tj) l42 c42 k42
 have m42:=W.mg_of X G a42
 have b42:=TF.binds (ps:=["_law_cell", "_law_k"]) λ_ _ _ _ _ _ us hl=>by obtain ⟨_,_,rfl⟩:=eD hl; rfl
 have TH:=a8 (st:=qU) l43 c43 k43
 have Kc:=W.mg_of X G a43
 have Kd:=TH.binds (ps:=["_law_cell", "_law_k"]) λ_ _ _ _ _ _ us hl=>by obtain ⟨_,_,rfl⟩:=eD hl; rfl
 have Gr:=a8 (st:=lj) l44 c44 k44
 have Cr:=W.mg_of X G a44
 have Cs:=Gr.binds (ps:=["_law_left", "_law_many"]) λ_ _ _ _ _ _ us hl=>by obtain ⟨_,_,rfl⟩:=eD hl; rfl
 have PU:=a8 (st:=jm) l45 c45 k45
 have TJ:=W.mg_of X G a45
 have TK:=PU.binds (ps:=["_law_left", "_law_told"]) λ_ _ _ _ _ _ us hl=>by obtain ⟨_,_,rfl⟩:=eD hl; rfl
 have PV:=a8 (st:=iT) l46 c46 k46
 have TL:=W.mg_of X G a46
 have TM:=PV.binds (ps:=["_law_left", "_law_names"]) λ_ _ _ _ _ _ us hl=>by obtain ⟨_,_,rfl⟩:=eD hl; rfl
 have TN:=a8 (st:=ly) l47 c47 k47
 have TQ:=W.mg_of X G a47
 have TR:=TN.binds (ps:=i9) λ_ _ _ _ _ _ us hl=>by obtain ⟨_,_,_,_,rfl⟩:=Iu hl; rfl
 have TU:=a8 (st:=dE) l48 c48 k48
 have m48:=W.mg_of X G a48
 have b48:=TU.binds (ps:=qo) λ_ _ _ _ _ _ us hl=>by obtain ⟨_,_,rfl⟩:=eD hl; rfl
 have TV:=a8 (st:=gc) l49 c49 k49
 have m49:=W.mg_of X G a49
 have b49:=TV.binds (ps:=vU) λ_ _ _ _ _ _ us hl=>by obtain ⟨_,_,rfl⟩:=eD hl; rfl
 have TX:=a8 (st:=nY) l50 c50 k50
 have m50:=W.mg_of X G a50
 have b50:=TX.binds (ps:=["_law_first"]) λ_ _ _ _ _ _ us hl=>by obtain ⟨_,rfl⟩:=kO hl; rfl
 have TY:=a8 (st:=gG) l51 c51 k51
 have m51:=W.mg_of X G a51
 have b51:=TY.binds (ps:=["_law_m"]) λ_ _ _ _ _ _ us hl=>by obtain ⟨_,rfl⟩:=kO hl; rfl
 have TZ:=a8 (st:=lC) l52 c52 k52
 have T2:=W.mg_of X G a52
 have T3:=TZ.binds (ps:=mG) λ_ _ _ _ _ _ us hl=>by obtain ⟨_,_,_,rfl⟩:=qH hl; rfl
 have T4:=a8 (st:=wg) l53 c53 k53
 have PX:=W.mg_of X G a53
 have PY:=T4.binds (ps:=["_law_values_here", "_law_literal_here"]) λ_ _ _ _ _ _ us hl=>by obtain ⟨_,_,rfl⟩:=eD hl; rfl
 have T6:=a8 (st:=rn) l54 c54 k54
 have m54:=W.mg_of X G a54
 have b54:=T6.binds (ps:=mG) λ_ _ _ _ _ _ us hl=>by obtain ⟨_,_,_,rfl⟩:=qH hl; rfl
 have T7:=a8 (st:=rp) l55 c55 k55
 have T8:=W.mg_of X G a55
 have T9:=T7.binds (ps:=["_law_many"]) λ_ _ _ _ _ _ us hl=>by obtain ⟨_,rfl⟩:=kO hl; rfl
 have Ua:=a8 (st:=lG) l56 c56 k56
 have m56:=W.mg_of X G a56
 have b56:=Ua.binds (ps:=["_law_m"]) λ_ _ _ _ _ _ us hl=>by obtain ⟨_,rfl⟩:=kO hl; rfl
 have Ub:=a8 (st:=lH) l57 c57 k57
 have m57:=W.mg_of X G a57
 have b57:=Ub.binds (ps:=["_law_script", "_law_sizes"]) λ_ _ _ _ _ _ us hl=>by obtain ⟨_,_,rfl⟩:=eD hl; rfl
 have F58:=a8 (st:=ia) l58 c58 k58
 have m58:=W.mg_of X G a58
 have b58:=F58.binds (ps:=Cf) λ_ _ _ _ _ _ us hl=>by obtain ⟨_,_,_,rfl⟩:=qH hl; rfl
 have Uc:=a8 (st:=wo) l59 c59 k59
 have m59:=W.mg_of X G a59
 have b59:=Uc.binds (ps:=Ci) λ_ _ _ _ _ _ us hl=>by obtain ⟨_,_,_,_,_,rfl⟩:=OM hl; rfl
 have F60:=a8 (st:=kJ) l60 c60 k60
 have m60:=W.mg_of X G a60
 refine ⟨W.fnOf "law" "law" (aN kJ) (aD kJ) (ao kJ) .none PF PH PJ OS Iv PK,λs v=>.of_eq rfl,λbase _ _=>?_⟩
 have Lx:av l.prog w K mg base az 1 JK _ ["word"] oQ:=uZ PL CT
 have PZ:av l.prog w K mg base az 2 JL _ ["word"] vV:=Fw S8 CT PL S6 S7 PM S9 Ta
 have Rh:av l.prog w K mg base az 3 JJ _ ["part", "word"] zS:=Lc S5 mR kR Lx S6 k21 S7 PZ m22 k22 b22
 have Ri:av l.prog w K mg base az 4 JI _ ["words"] qy:=AX S4 O2 FT Rh m20 k20 b20
 have Rj:av l.prog w K mg base az 1 JN _ ["machine", "name"] (oS K):=u0 PN Iw
 have P0:av l.prog w K mg base az 2 JQ _ ["machine", "literal"] (qw K):=AW Tg Iw PN Tc Td PM S9 Ta
 have Rk:av l.prog w K mg base az 1 JP _ ["words"] tF:=Dy Tf O2 FT
 have P4:av l.prog w K mg base az 3 JO _ ["machine", "words"] (vX C):=HG Te T Iw Rk m27 k27 b27 P0 m28 k28 b28
 have P5:av l.prog w K mg base az 2 JM _ ["machine", "form", "name"] (vY C):=HH Tb T Rj Tc k25 Td
 have Rl:av l.prog w K mg base az 1 JR _ ["machine", "form"] (Aa C):=Lh Th T O2 MT
 have P6:av l.prog w K mg base az 5 JH _ ["machine", "words"] (vZ C):=HI S3 Ri m19 k19 b19 P5 m24 k24 b24 P4 m26 k26 b26 Rl m29 k29 b29
 have Rm:av l.prog w K mg base az 1 JS _ ["machine", "words"] (Ac C):=Lk Ti T mR kR
 have Rn:av l.prog w K mg base az 6 JG _ ["text"] (Ae C):=Lm S1 T P6 m18 k18 b18 Rm m30 k30 b30 (FC S2 O2 O.enum) m17 k17 b17 (Ld F0 T O2) ⟨mk,a0,i0,kc⟩ b0
 have gP:av l.prog w K mg base az 1 Gi _ ["_law_left", "_law_many"] j6:=vT Gr O
 have gS:av l.prog w K mg base az 2 J2 _ ["_law_left", "_law_told"] (qV K):=zE PU O Gr Cs Cr
 have gL:av l.prog w K mg base az 2 J4 _ ["_law_left", "_law_names"] (mw K):=uV PV O Gr Cs Cr
 have gW:av l.prog w K mg base az 3 J5 _ i9 (oN K):=Fi TN O Gr Cs Cr PU TK TJ PV TM TL
 have gR:av l.prog w K mg base az 2 J1 _ ["_law_cell", "_law_k"] nK:=K8 TH O TF b42 m42
 have gD:av l.prog w K mg base az 4 J6 _ qo (oP K):=Ft TU ⟨O,gP,Cr,k44,Cs,gS,TJ,k45,TK,gL,TL,k46,TM,gW,TQ,k47,TR,gR,Kc,k43,Kd⟩
 have gC:av l.prog w K mg base az 1 J0 _ ["_law_script", "_law_k"] (uP K):=K7 Tz O
 have gM:av l.prog w K mg base az 5 J7 _ vU (qv K):=Dt TV O gD m48 k48 b48 gC TB k41 TC gR Kc k43 Kd
 have Ro:av l.prog w K mg base az 2 J8 _ ["_law_m"] Al:=Lp TY (HM TX) m50 k50 b50 O2
 have gV:av l.prog w K mg base az 1 JU _ ["values", "literal"] iJ:=A8 Tq
 have gA:av l.prog w K mg base az 2 JT _ ["machine", "stand", "told"] (lu C K):=Au Tj T O2 gV PQ k33 PR
 have Iy:av l.prog w K mg base az 1 Gk _ ["_law_values_here", "_law_literal_here"] iJ:=Ob T4 O2
 have Ud:av l.prog w K mg base az 2 Gj _ mG (oV K):=FR TZ O2 Iy PX k53 PY
 have Ly:av l.prog w K mg base az 2 JW _ ["machine", "values"] (tQ C):=FW Tu T O2 gV PQ k33 PR (DI F2) m2 k2 b2
 have gNx:av l.prog w K mg base az 3 Gm _ mG (Az K):=HW T6 O2 Ud T2 k52 T3 Iy PX k53 PY
 have Ke:av l.prog w K mg base az 3 JV _ ["machine", "stand", "told"] (mJ C K):=DJ Tr gA Tn k32 To Ly m35 k35 b35
 have Rp:av l.prog w K mg base az 4 JX _ ["machine", "first", "row"] (tU C K):=FX Tv Ke Ts k34 Tt
 have Ue:av l.prog w K mg base az 1 Gn _ ["_law_many"] (vt K):=Ba T7 O Gq
 have gFs:av l.prog w K mg base az 2 Gp _ ["_law_m"] (tX K):=F1 Ua O2 Ue T8 k55 T9
 have gFi:av l.prog w K mg base az 1 JY _ ["machine", "stand"] (qE C K):=A9 Tw T O2
 have gLW:av l.prog w K mg base az 1 f3 _ ["machine", "wish"] (qD C):=DL F3 T
 have gWd:av l.prog w K mg base az 6 J9 _ ["_law_script", "_law_sizes"] (tY K):=F5 Ub gM m49 k49 b49 gW TQ k47 TR gR Kc k43 Kd gC TB k41 TC
 have Ug:rH l.prog w K mg base Gi Gn Gp Gj Gk Gm _ _ _ _ _ _:=⟨gP,Cr,k44,Cs,Ue,T8,k55,T9,gFs,m56,k56,b56,Ud,T2,k52,T3,Iy,PX,k53,PY,gNx,m54,k54,b54⟩
 have gRB:av l.prog w K mg base az 4 Ka _ Cf (wm K):=Ij F58 O O2 Ug
 have gDu:av l.prog w K mg base az 4 Kb _ Ci (DQ K):=OD Uc O2 Ug
 have gLs:av l.prog w K mg base az 5 JZ _ Cj (wq C K):=Ip Tx O2 gFi m37 k37 b37 Rp m36 k36 b36 Ke Ts k34 Tt gA Tn k32 To gV PQ k33 PR gLW m3 k3 b3
 exact OK F60 O O2 ⟨gWd,m57,k57,b57,Ro,m51,k51,b51,Rn,m16,k16,b16,gP,Cr,k44,Cs,gR,Kc,k43,Kd,gRB,m58,k58,b58,gLs,m39,k39,b39,gDu,m59,k59,b59⟩
theorem walk {l:W.OpenLaw}{q:Program}{loose:List Str}{XP:(Str->Option Value)->Heap->Prop}{YP:World->Heap->Prop}{d:DefRec}{K:Params->W.Frag}(hn:l.most=some 63) (Eo:d.params.defaults=[])
 (hY:∀(w:World) (h:Heap),YP w h->(K w.params).In h)
 (F:∀(w:World) (mg:Str->Option Value) (fa:Addr) (h:Heap),(K w.params).In h->h.Ns mainGlobals mg->mg d.name=some (.ref fa)->
  ∃fd:FuncData,(∀(s:Shared) (u:Value),BindsTo s fd ⟨[u],[]⟩ [("_law_script",u)])/\∀base:Heap,(K w.params).In base->base.Ns mainGlobals mg->av l.prog w (K w.params) mg base az 7 fa fd ["_law_script"] (yw (K w.params))) :
 W.WalkO q loose XP YP l.row.toRowW d [] (λf vs=>PySem.call f vs):=
 L2.Kv (n:=63) (k:=7) (x:="_law_script") (CX:=λ_=>az) (sp:=λw=>yw (K w.params)) hn (by decide) Eo ⟨rfl,by decide,by decide⟩ hY F (λ_ _ a ns hl _ hS=>⟨a,ns,rfl,hS,hl,λ_=>rfl⟩) λ_ _ _ _ _ z=>z
end
end Gen
open PySem PySem.W PyProof.Rows
inductive PySem.W.Fast : Prop
|tw15419539415987904903
|tw12049722189924584720
|tw3407910654324278596
|tw15569550299431760949
|tw8023609543774277154
|tw2913245614272395713
|tw6466011192806696226
|tw5057230756795804011
|tw14847010501230458398
|tw16340016079348238273
|tw16720445714883329060
|tw2094472838227651933
|tw5464367373883143697
|tw17292131903153076093
|tw8619998361196339421
|tw6439393208275841927
|tw10196655918385163776
|tw14708522719779570146
|tw377463916537966017
|tw10998717449235013734
|tw16569389972441629434
|tw17846408178289693428
|tw16484239642238595141
|tw10451274092554871820
|tw12307904762956220109
|tw13940918891690592822
|tw13976458346379461237
|tw14494726396302189361
|tw2158486115182086055
|tw1992289971306180363
|tw2810359890032848325
|tw2076044847834320971
|tw5331029221530793560
|tw2601715268734215790
|tw14961662843565447004
|tw15968238907002136436
|tw5519482514777308215
|tw3116515477251856985
|tw9609138674287630495
|tw12370228409710476375
|tw16818949092818178281
|tw17570610000650333254
|tw4898862266612231995
|tw16091307657423844690
|tw12122463809621332945
|tw17897159341895687144
|tw586963500477163915
|tw3347175433797025734
|tw1895739637346518077
|tw16982649498178423004
|tw1724461595335749544
|tw5851286506891498729
|tw8558248467164650424
|tw10433944922584758320
|tw709981724187985895
|tw17727106747385651298
|tw10244092123437610504
|tw4065062650952906156
|tw6330685737725387014
|tw7462354039273823463
|tw1128458858812884769
|tw514856404249853371
|tw15297471595983171469
|tw2631612832187772513
|tw10551727736922918122
|tw8548620220268798904
|tw10310070979288849996
|tw13362119853250249809
|te13362119853250249809
|tw675113412456785751
|tw8112285974229034070
|tw6065978300310818804
|tw9960923228716268771
|tw8222315246684452124
|tw971123128919771446
|tw15518489052681869050
|tw15107355794424541170
|tw195020288369475163
|tw10708542411395036730
|tw3232893624726652757
|tw4404821043180792128
|tw11422718644019725774
|tw10144871294069260367
|tw9341891997938579841
|tw13316349578242090990
|tw14743490383493942467
|tw4367162987076981543
|tw763762541387764445
|tw4558602447988288028
|tw5590872871433299105
|tw13154376257633406478
|tw3834441650453716909
|tw12703582484699550815
|tw11695400101719289640
|tw7881272729778425522
|tw977863153853487726
|tw11520832119106517486
|tw15324804723810971994
|tw2427489164182817726
|tw769379810427724462
|tw720136777646801337
|tw1923663896931539372
|tw10753041697387289364
|tw6423764070003969661
|tw6512914222654553290
|tw18168874952466758349
|tw16536993126893926850
|tw5582485138073501959
|tw4061414287729709608
|tw13939488261534688815
|tw6038750441979931176
|tw7370838128293641975
|tw303846562424192272
|tw13477666284686694451
|tw2827574706894282253
|tw12198240849925453385
|tw8765716470211985660
|tw2154768375063582182
|tw18042021991234002036
|tw3199285266895760720
|tw401067274464561411
|tw4108378264412822361
|tw5907408645397046485
|tw1649203033243843563
|tw11610580308105743857
|tw8139158346400516206
|tw16950566647273940165
|tw4686531656483993940
|tw2859837483690402301
|tw10037855356486051039
|tw18090897651175257662
|tw14293049780000915147
|tw4165978326691826789
|tw6044104858370026894
|tw13064146644783094653
|tw5261368310237506913
|tw9618440070947599837
|tw9853835403167916468
|tw11016200465249524769
|tw5962979620351807461
|tw12885005262273203260
|tw9209539510202514709
|tw14210588843703801907
|tw6453838867327054905
|tw3934219721847850471
|tw6790089230293024111
|tw13763531925966041251
|tw5156153187374141938
|tw570584471200303422
|tw9089423909417040048
|tw13020724792581892318
|tw16295906971176488969
|tw2746865699853692348
|tw5986939696546897970
|tw10426712444402782724
|tw12687367605057455565
|tw11158995494632712073
|tw2375713442771266482
|tw17457905475851474325
|tw3438128963937472069
|tw16714709777679257280
|tw12871925882830750912
|tw12033487979007519899
|tw14920072768662403357
|tw6012656450803379770
|tw9695722260948662094
|tw6383104273094219553
|tw12252736476280187275
|tw10410230082013623656
|tw15125288302678941221
|tw11951431313265829327
|tw2516556284958588445
|tw2090579477595688916
|tw6354831770255410713
|tw2798555317016430381
|tw10979960339118364991
|tw16448700777972438956
|tw16207038787727342340
|tw15983042789247819640
|tw2518768940695679160
|tw10183012379516276398
|tw4835797558225119562
|tw17104027577065528002
|tw10595244907062865890
|tw1847051665242517189
|tw7483639443412890039
|tw10002112983474369034
|tw12467211636021619137
|tw10005959316547534231
set_option maxRecDepth 100000 in
set_option maxHeartbeats 0 in
theorem PySem.Challenge.cw_everguard_k58_lassos_holds : PySem.Challenge.rw_everguard_k58_lassos.Holds := by
 w_on; o_law; k_head; (case hw=>w_witness2)
 k_fill
 refine Gen.walk (l:=PySem.Challenge.rw_everguard_k58_lassos) rfl rfl (λw h Y=>W.kIn_of Y) ?F
 case F=>
  intro w mg fa h KX G Ep
  refine' Gen.all_mk KX G Ep ?aC ?a0 ?i0 ?l0 ?c0 ?k0 ?a2 ?l2 ?c2 ?k2 ?a3 ?l3 ?c3 ?k3 ?a16 ?l16 ?c16 ?k16 ?a17 ?l17 ?c17 ?k17 ?a18 ?l18 ?c18 ?k18 ?a19 ?l19 ?c19 ?k19 ?a20 ?l20 ?c20 ?k20 ?a21 ?l21 ?c21 ?k21 ?a22 ?l22 ?c22 ?k22 ?a23 ?l23 ?c23 ?k23 ?a24 ?l24 ?c24 ?k24 ?a25 ?l25 ?c25 ?k25 ?a26 ?l26 ?c26 ?k26 ?a27 ?l27 ?c27 ?k27 ?a28 ?l28 ?c28 ?k28 ?a29 ?l29 ?c29 ?k29 ?a30 ?l30 ?c30 ?k30 ?a32 ?l32 ?c32 ?k32 ?a33 ?l33 ?c33 ?k33 ?a34 ?l34 ?c34 ?k34 ?a35 ?l35 ?c35 ?k35 ?a36 ?l36 ?c36 ?k36 ?a37 ?l37 ?c37 ?k37 ?a39 ?l39 ?c39 ?k39 ?a41 ?l41 ?c41 ?k41 ?a42 ?l42 ?c42 ?k42 ?a43 ?l43 ?c43 ?k43 ?a44 ?l44 ?c44 ?k44 ?a45 ?l45 ?c45 ?k45 ?a46 ?l46 ?c46 ?k46 ?a47 ?l47 ?c47 ?k47 ?a48 ?l48 ?c48 ?k48 ?a49 ?l49 ?c49 ?k49 ?a50 ?l50 ?c50 ?k50 ?a51 ?l51 ?c51 ?k51 ?a52 ?l52 ?c52 ?k52 ?a53 ?l53 ?c53 ?k53 ?a54 ?l54 ?c54 ?k54 ?a55 ?l55 ?c55 ?k55 ?a56 ?l56 ?c56 ?k56 ?a57 ?l57 ?c57 ?k57 ?a58 ?l58 ?c58 ?k58 ?a59 ?l59 ?c59 ?k59 ?a60 ?l60 ?c60 ?k60 ?pg ?hd ?po ?sa ?mk ?kc ?n1 ?n2 ?n3 ?n4 ?n5 ?n6 ?z0 ?z1 ?z2 ?z3 ?z4 ?z5 ?z6 ?z7 ?z8 ?z9 ?z10 ?z11 ?z12 ?z13 ?cL ?cN ?cS ?cK ?cG ?cW ?cF ?cR ?dF ?sF ?dG ?sG ?t0 ?t1 ?t2 ?t3 ?t4 ?t5
  (case aC=>k_is); (case a0=>k_is); (case i0=>k_is); (case l0=>k_is); (case c0=>k_is); (case k0=>k_is)
  (case a2=>k_is); (case l2=>k_is); (case c2=>k_is); (case k2=>k_is); (case a3=>k_is); (case l3=>k_is)
  (case c3=>k_is); (case k3=>k_is); (case a16=>k_is); (case l16=>k_is); (case c16=>k_is); (case k16=>k_is)
  (case a17=>k_is); (case l17=>k_is); (case c17=>k_is); (case k17=>k_is); (case a18=>k_is); (case l18=>k_is)
  (case c18=>k_is); (case k18=>k_is); (case a19=>k_is); (case l19=>k_is); (case c19=>k_is); (case k19=>k_is)
  (case a20=>k_is); (case l20=>k_is); (case c20=>k_is); (case k20=>k_is); (case a21=>k_is); (case l21=>k_is)
  (case c21=>k_is); (case k21=>k_is); (case a22=>k_is); (case l22=>k_is); (case c22=>k_is); (case k22=>k_is)
  (case a23=>k_is); (case l23=>k_is); (case c23=>k_is); (case k23=>k_is); (case a24=>k_is); (case l24=>k_is)
  (case c24=>k_is); (case k24=>k_is); (case a25=>k_is); (case l25=>k_is); (case c25=>k_is); (case k25=>k_is)
  (case a26=>k_is); (case l26=>k_is); (case c26=>k_is); (case k26=>k_is); (case a27=>k_is); (case l27=>k_is)
  (case c27=>k_is); (case k27=>k_is); (case a28=>k_is); (case l28=>k_is); (case c28=>k_is); (case k28=>k_is)
  (case a29=>k_is); (case l29=>k_is); (case c29=>k_is); (case k29=>k_is); (case a30=>k_is); (case l30=>k_is)
  (case c30=>k_is); (case k30=>k_is); (case a32=>k_is); (case l32=>k_is); (case c32=>k_is); (case k32=>k_is)
  (case a33=>k_is); (case l33=>k_is); (case c33=>k_is); (case k33=>k_is); (case a34=>k_is); (case l34=>k_is)
  (case c34=>k_is); (case k34=>k_is); (case a35=>k_is); (case l35=>k_is); (case c35=>k_is); (case k35=>k_is)
  (case a36=>k_is); (case l36=>k_is); (case c36=>k_is); (case k36=>k_is); (case a37=>k_is); (case l37=>k_is)
  (case c37=>k_is); (case k37=>k_is); (case a39=>k_is); (case l39=>k_is); (case c39=>k_is); (case k39=>k_is)
  (case a41=>k_is); (case l41=>k_is); (case c41=>k_is); (case k41=>k_is); (case a42=>k_is); (case l42=>k_is)
  (case c42=>k_is); (case k42=>k_is); (case a43=>k_is); (case l43=>k_is); (case c43=>k_is); (case k43=>k_is)
  (case a44=>k_is); (case l44=>k_is); (case c44=>k_is); (case k44=>k_is); (case a45=>k_is); (case l45=>k_is)
  (case c45=>k_is); (case k45=>k_is); (case a46=>k_is); (case l46=>k_is); (case c46=>k_is); (case k46=>k_is)
  (case a47=>k_is); (case l47=>k_is); (case c47=>k_is); (case k47=>k_is); (case a48=>k_is); (case l48=>k_is)
  (case c48=>k_is); (case k48=>k_is); (case a49=>k_is); (case l49=>k_is); (case c49=>k_is); (case k49=>k_is)
  (case a50=>k_is); (case l50=>k_is); (case c50=>k_is); (case k50=>k_is); (case a51=>k_is); (case l51=>k_is)
  (case c51=>k_is); (case k51=>k_is); (case a52=>k_is); (case l52=>k_is); (case c52=>k_is); (case k52=>k_is)
  (case a53=>k_is); (case l53=>k_is); (case c53=>k_is); (case k53=>k_is); (case a54=>k_is); (case l54=>k_is)
  (case c54=>k_is); (case k54=>k_is); (case a55=>k_is); (case l55=>k_is); (case c55=>k_is); (case k55=>k_is)
  (case a56=>k_is); (case l56=>k_is); (case c56=>k_is); (case k56=>k_is); (case a57=>k_is); (case l57=>k_is)
  (case c57=>k_is); (case k57=>k_is); (case a58=>k_is); (case l58=>k_is); (case c58=>k_is); (case k58=>k_is)
  (case a59=>k_is); (case l59=>k_is); (case c59=>k_is); (case k59=>k_is); (case a60=>k_is); (case l60=>k_is)
  (case c60=>k_is); (case k60=>k_is); (case pg=>k_is); (case hd=>k_is); (case po=>k_is); (case sa=>k_is)
  (case mk=>k_is); (case kc=>k_is); (case n1=>k_is); (case n2=>k_is); (case n3=>k_is); (case n4=>k_is)
  (case n5=>k_is); (case n6=>k_is); (case z0=>k_is); (case z1=>k_is); (case z2=>k_is); (case z3=>k_is)
  (case z4=>k_is); (case z5=>k_is); (case z6=>k_is); (case z7=>k_is); (case z8=>k_is); (case z9=>k_is)
  (case z10=>k_is); (case z11=>k_is); (case z12=>k_is); (case z13=>k_is); (case cL=>k_is); (case cN=>k_is)
  (case cS=>k_is); (case cK=>k_is); (case cG=>k_is); (case cW=>k_is); (case cF=>k_is); (case cR=>k_is)
  (case dF=>k_is); (case sF=>rfl); (case dG=>k_is); (case sG=>rfl); (case t0=>k_is); (case t1=>k_is)
  (case t2=>k_is); (case t3=>k_is); (case t4=>k_is); (case t5=>k_is)
#print axioms PySem.Challenge.cw_everguard_k58_lassos_holds
