import PyProof.Rows.All
import Wide.All
import OpenK.AllK
import Wide.FinOn
import Lean
import PyProof.EqAt
import PyProof.EqKinds
import PyProof.TupleCall
import PyProof.StrBlockL
import PyProof.StrLawsOcc
import Wide.Txt
import PyProof.IsiH_list
import PyProof.AttrMiss
import PyProof.ConsumeWalk
import PyProof.TupleIter
import KE.KDictOf
import PyProof.DictWalks
import KE.KDictList
import PyProof.NeKinds
import PyProof.ZipIter
import Wide.Seal
import KE.KIntText
import PyProof.DictValues
import PyProof.Rows.SortRuns
import KE.KSortTup
import PySem.Challenge.RW_everguard_k10_first_stands
set_option Elab.async false
set_option linter.all false
set_option maxRecDepth 100000
namespace L2
open PySem PySem.Spec PyProof.Rows
abbrev Key:=Sum Int Str
def keyIs : Key → Value → Bool
 | .inl k,v=>Value.isInt k v
 | .inr x,v=>Value.isStrOf x v
def keyH (w : World) : Key → Int
 | .inl k=>hashInt k
 | .inr x=>hashStr w x
theorem keyIs_shape : ∀ {k : Key} {v : Value},keyIs k v = true → (∃ i t,k = Sum.inl i ∧ v = Value.int i t) ∨ (∃ x t,k = Sum.inr x ∧ v = Value.str x t)
 | .inl i,v,h=>by
  obtain ⟨t,e⟩:=Value.isInt_shape (k:=i) (v:=v) h
  exact .inl ⟨i,t,rfl,e⟩
 | .inr x,v,h=>by
  obtain ⟨t,e⟩:=Value.isStrOf_shape (x:=x) (v:=v) h
  exact .inr ⟨x,t,rfl,e⟩
theorem keyIs_int (i : Int) (t : Tok) : keyIs (.inl i) (.int i t) = true:=by simp [keyIs,Value.isInt]
theorem keyIs_str (x : Str) (t : Tok) : keyIs (.inr x) (.str x t) = true:=by simp [keyIs,Value.isStrOf]
theorem key_ll (a b : Int) : decide ((Sum.inl a : Key) = Sum.inl b) = (a == b):=by
 by_cases e : a = b
 · subst e; simp
 · have h : ¬ (Sum.inl a : Key) = Sum.inl b:=fun q=>e (Sum.inl.inj q)
   rw [decide_eq_false h]
   exact (beq_eq_false_iff_ne.mpr e).symm
theorem key_rr (a b : Str) : decide ((Sum.inr a : Key) = Sum.inr b) = decide (a = b):=by
 by_cases e : a = b
 · subst e; simp
 · have h : ¬ (Sum.inr a : Key) = Sum.inr b:=fun q=>e (Sum.inr.inj q)
   rw [decide_eq_false h,decide_eq_false e]
theorem key_lr (a : Int) (b : Str) : decide ((Sum.inl a : Key) = Sum.inr b) = false:=decide_eq_false (fun q=>nomatch q)
theorem key_rl (a : Str) (b : Int) : decide ((Sum.inr a : Key) = Sum.inl b) = false:=decide_eq_false (fun q=>nomatch q)
def mixKind (prog : Program) (w : World) : PySem.KeyKind prog w Key where
 is:=keyIs
 hash:=keyH w
 inj:=fun v a b ha hb=>by
  rcases keyIs_shape ha with ⟨i,t,rfl,rfl⟩ | ⟨x,t,rfl,rfl⟩
  · rcases keyIs_shape hb with ⟨j,u,rfl,e⟩ | ⟨y,u,rfl,e⟩
    · injection e with e1 _; rw [e1]
    · exact nomatch e
  · rcases keyIs_shape hb with ⟨j,u,rfl,e⟩ | ⟨y,u,rfl,e⟩
    · exact nomatch e
    · injection e with e1 _; rw [e1]
 byValue:=fun k v h=>by
  rcases keyIs_shape h with ⟨i,t,rfl,rfl⟩ | ⟨x,t,rfl,rfl⟩ <;> rfl
 pyHash:=fun hv h=>by
  rcases keyIs_shape hv with ⟨i,t,rfl,rfl⟩ | ⟨x,t,rfl,rfl⟩
  · exact wpAny_pyHash_int h
  · exact wpAny_pyHash_str h
 eqBool:=fun hu hv h=>by
  rcases keyIs_shape hu with ⟨i,t,rfl,rfl⟩ | ⟨x,t,rfl,rfl⟩
  · rcases keyIs_shape hv with ⟨j,u,rfl,rfl⟩ | ⟨y,u,rfl,rfl⟩
    · rw [key_ll] at h; exact wpAny_eqBool_int h
    · rw [key_lr] at h; exact SeqAt.EqAt.int_str i t y u _ _ _ _ h
  · rcases keyIs_shape hv with ⟨j,u,rfl,rfl⟩ | ⟨y,u,rfl,rfl⟩
    · rw [key_rl] at h; exact SeqAt.EqAt.str_int x t j u _ _ _ _ h
    · rw [key_rr] at h; exact wpAny_eqBool_str h
 «strs»:=fun k x t v h=>by
  rcases keyIs_shape h with ⟨i,u,rfl,e⟩ | ⟨y,u,rfl,e⟩
  · exact nomatch e
  · injection e with e1 _
    subst e1
    cases v <;> rfl
theorem mixKind_int (prog : Program) (w : World) (i : Int) (t : Tok) : (mixKind prog w).is (.inl i) (.int i t) = true:=keyIs_int i t
theorem mixKind_str (prog : Program) (w : World) (x : Str) (t : Tok) : (mixKind prog w).is (.inr x) (.str x t) = true:=keyIs_str x t
end L2
namespace L2
open PySem PySem.Spec PyProof.Rows
inductive V where
 | non | bl (b : Bool) | int (i : Int) | str (x : Str) | byt (b : Array UInt8) | flt (b : UInt64) | ref (a : Addr) | ty (n : String)
 deriving DecidableEq
def RelV : V → Value → Prop
 | .non,u=>u = Value.none
 | .bl b,u=>u = Value.bool b
 | .int i,u=>∃ t,u = Value.int i t
 | .str x,u=>∃ t,u = Value.str x t
 | .byt b,u=>∃ t,u = Value.bytes b t
 | .flt b,u=>∃ t,u = Value.float b t
 | .ref a,u=>u = Value.ref a
 | .ty n,u=>u = Value.type n
abbrev Vals : List V → List Value → Prop:=Paired RelV
theorem Vals.length {xs : List V} {us : List Value} (r : Vals xs us) : xs.length = us.length:=Paired.length r
theorem Vals.get : ∀ {xs : List V} {us : List Value} {i : Nat} {x : V},Vals xs us → xs[i]? = some x → ∃ u,us[i]? = some u ∧ RelV x u
 | _,_,_,_,.nil,e=>by simp at e
 | _,_,0,_,.cons r _,e=>by simp at e; subst e; exact ⟨_,rfl,r⟩
 | _,_,i + 1,x,.cons _ t,e=>by
  obtain ⟨u,h1,h2⟩:=Vals.get (i:=i) (x:=x) t (by simpa using e)
  exact ⟨u,by simpa using h1,h2⟩
theorem Vals.set {x : V} {u : Value} (r : RelV x u) : ∀ {xs : List V} {us : List Value} (i : Nat),Vals xs us → Vals (xs.set i x) (us.set i u)
 | _,_,_,.nil=>.nil
 | _,_,0,.cons _ t=>.cons r t
 | _,_,i + 1,.cons q t=>.cons q (Vals.set r i t)
theorem Vals.append : ∀ {xs ys : List V} {us ws : List Value},Vals xs us → Vals ys ws → Vals (xs ++ ys) (us ++ ws)
 | _,_,_,_,.nil,s=>s
 | _,_,_,_,.cons r t,s=>.cons r (Vals.append t s)
theorem Vals.take : ∀ {xs : List V} {us : List Value} (n : Nat),Vals xs us → Vals (xs.take n) (us.take n)
 | _,_,0,_=>.nil
 | _,_,_ + 1,.nil=>.nil
 | _,_,n + 1,.cons r t=>.cons r (Vals.take n t)
theorem Vals.drop : ∀ {xs : List V} {us : List Value} (n : Nat),Vals xs us → Vals (xs.drop n) (us.drop n)
 | _,_,0,r=>r
 | _,_,_ + 1,.nil=>.nil
 | _,_,n + 1,.cons _ t=>Vals.drop n t
def RelO : Option V → Option Value → Prop
 | some v,some u=>RelV v u
 | none,none=>True
 | _,_=>False
def KV {κ : Type} : List (κ × V) → List (κ × Value) → Prop:=Paired fun (p : κ × V) (q : κ × Value)=>p.1 = q.1 ∧ RelV p.2 q.2
def kV : Key → V
 | .inl i=>.int i
 | .inr x=>.str x
inductive HO where
 /-- a list -/
 | lst (xs : List V)
 /-- a tuple (never changes) -/
 | tup (xs : List V)
 /-- a dict whose keys are ints and texts; one whose keys are tuples of ints and texts (the empty one is both) -/
 | dK (kvs : List (Key × V)) | dT (kvs : List (List Key × V))
 /-- a set of ints: its members,its size -/
 | set (S : Int → Bool) (n : Nat)
 /-- an instance of the class at C,its dict at dx,its attributes -/
 | ins (C dx : Addr) (fs : List (Str × V))
 /-- the dict of the instance at x -/
 | own (x : Addr)
 /-- the dict of an exception -/
 | xd (fs : List (Str × V))
 /-- a bound method,f of x -/
 | met (f x : Addr)
 /-- a range object lo,lo + 1,.. below hi -/
 | rng (lo hi : Int)
 /-- a thing that is known to the object (the script; a dict while a loop walks it): read,never written while it is so -/
 | frz (o : Obj) (u : HO)
 /-- a code object's table -/
 | tbl (ps : Array Value)
 /-- any other thing,by what is true of its one object (a def of one's own: SetO a S n:=HO.ext fun h=>..) -/
 | ext (φ : Heap → Prop)
abbrev Hp:=Addr → Option HO
def upd (H : Hp) (a : Addr) (o : HO) : Hp:=fun b=>if b = a then some o else H b
theorem upd_same {H : Hp} {a : Addr} {o : HO} : upd H a o a = some o:=by unfold upd; rw [if_pos rfl]
theorem upd_ne {H : Hp} {a b : Addr} {o : HO} (h : b ≠ a) : upd H a o b = H b:=by unfold upd; rw [if_neg h]
theorem upd_upd {H : Hp} {a : Addr} {o u : HO} : upd (upd H a o) a u = upd H a u:=by
 funext b; unfold upd; split <;> rfl
theorem ne_of {H : Hp} {a b : Addr} {o u : HO} (h : H a = some o) (h' : H b = some u) (d : o ≠ u) : a ≠ b:=by
 intro e; subst e; rw [h] at h'; exact d (Option.some.inj h')
theorem ne_of_none {H : Hp} {a b : Addr} {o : HO} (h : H a = some o) (h' : H b = none) : a ≠ b:=by
 intro e; subst e; rw [h] at h'; cases h'
section
variable (P : Program) (w : World)
def ObjOk (H : Hp) (h : Heap) (a : Addr) : HO → Prop
 | .lst xs=>xs.length ≤ sizeLine ∧ ∃ (its : List Value) (n : Nat),Vals xs its ∧ h.get? a = some { cls:=.type "list",data:=.seq its.toArray n }
 | .tup xs=>xs.length ≤ sizeLine ∧ ∃ its : List Value,Vals xs its ∧ IsTup h a its.toArray
 | .dK kvs=>kvs.length ≤ sizeLine ∧ (a == sysModules) = false ∧ ∃ vs,KV kvs vs ∧ h.DictOf (mixKind P w) a vs
 | .dT kvs=>kvs.length ≤ sizeLine ∧ (a == sysModules) = false ∧ ∃ xs : List (List Key × Addr × Value),
  Paired (fun (p : List Key × V) (q : List Key × Addr × Value)=>p.1 = q.1 ∧ H q.2.1 = some (.tup (p.1.map kV)) ∧ RelV p.2 q.2.2) kvs xs ∧
  ∃ o es ep,h.get? a = some o ∧ o.ExactDict ∧ o.data = .dict es ep ∧ es.toList = xs.map (entryOfKey (tupleKind (mixKind P w))) ∧ (xs.map (·.1)).Nodup
 | .set S n=>h.SetOf (intKind P w) a S n
 | .ins C dx fs=>H dx = some (.own a) ∧ fs.length ≤ 1000 ∧ dx ≠ a ∧ h.get? a = some (PySem.W.instObj C dx) ∧
  ∃ mA,h.Ns1 dx mA ∧ (∀ f,RelO (fs.lookup f) (mA f)) ∧ PySem.Within mA (fs.map (·.1))
 | .own _=>∃ o,h.get? a = some o
 | .xd fs=>∃ mA,h.Ns1 a mA ∧ ∀ f,RelO (fs.lookup f) (mA f)
 | .rng lo hi=>∃ t u v,h.get? a = some { cls:=.type "range",data:=.fields #[.int lo t,.int hi u,.int 1 v] }
 | .frz o u=>h.get? a = some o ∧ ObjOk H h a u
 | .tbl ps=>h.get? a = some { cls:=.none,data:=.fields ps }
 | .met f x=>h.get? a = some (PySem.W.methodObj (.ref f) (.ref x))
 | .ext φ=>φ h ∧ (∃ o,h.get? a = some o) ∧ ∀ h1 h2 : Heap,φ h1 → (∀ o,h1.get? a = some o → h2.get? a = some o) → φ h2
def HOk (H : Hp) (h : Heap) : Prop:=∀ a o,H a = some o → ObjOk P w H h a o
end
section
variable {P : Program} {w : World} {H H' : Hp} {h h' : Heap} {a : Addr} {o : HO}
theorem ObjOk.lt (x : ObjOk P w H h a o) : a < h.objs.size:=by
 cases o with
 | lst xs=>obtain ⟨_,_,_,_,e⟩:=x; exact Heap.lt_size e
 | tup xs=>obtain ⟨_,_,_,p⟩:=x; exact p.lt
 | dK kvs=>obtain ⟨_,_,_,_,o,_,_,e,_⟩:=x; exact Heap.lt_size e
 | dT kvs=>obtain ⟨_,_,_,_,o,_,_,e,_⟩:=x; exact Heap.lt_size e
 | set S n=>obtain ⟨o,_,_,_,e,_⟩:=x; exact Heap.lt_size e
 | ins C dx fs=>obtain ⟨_,_,_,e,_⟩:=x; exact Heap.lt_size e
 | own y=>obtain ⟨_,e⟩:=x; exact Heap.lt_size e
 | xd fs=>obtain ⟨_,⟨_,_,_,e,_⟩,_⟩:=x; exact Heap.lt_size e
 | rng lo hi=>obtain ⟨_,_,_,e⟩:=x; exact Heap.lt_size e
 | frz ob u=>obtain ⟨e,_⟩:=x; exact Heap.lt_size e
 | tbl ps=>exact Heap.lt_size (show h.get? a = some _ from x)
 | met f y=>exact Heap.lt_size (show h.get? a = some _ from x)
 | ext φ=>obtain ⟨_,⟨_,e⟩,_⟩:=x; exact Heap.lt_size e
theorem Paired.mapP {α β : Type} {F G : α → β → Prop} : ∀ {l₁ : List α} {l₂ : List β},Paired F l₁ l₂ → (∀ a b,F a b → G a b) → Paired G l₁ l₂
 | _,_,.nil,_=>.nil
 | _,_,.cons r t,f=>.cons (f _ _ r) (Paired.mapP t f)
theorem ObjOk.stay (x : ObjOk P w H h a o) (k : ∀ b u,(b = a ∨ H b = some (.own a)) → h.get? b = some u → h'.get? b = some u)
 (ho : ∀ b,H b = some (.own a) → H' b = some (.own a)) (ht : ∀ b xs,H b = some (.tup xs) → H' b = some (.tup xs)) : ObjOk P w H' h' a o:=by
 induction o with
 | lst xs=>obtain ⟨z,its,n,r,e⟩:=x; exact ⟨z,its,n,r,k _ _ (.inl rfl) e⟩
 | tup xs=>obtain ⟨z,its,r,ob,e,c⟩:=x; exact ⟨z,its,r,ob,k _ _ (.inl rfl) e,c⟩
 | dK kvs=>obtain ⟨z,y,vs,r,ob,es,ep,e,c⟩:=x; exact ⟨z,y,vs,r,ob,es,ep,k _ _ (.inl rfl) e,c⟩
 | dT kvs =>
  obtain ⟨z,y,xs,r,ob,es,ep,e,c⟩:=x
  exact ⟨z,y,xs,Paired.mapP r fun p q z=>⟨z.1,ht _ _ z.2.1,z.2.2⟩,ob,es,ep,k _ _ (.inl rfl) e,c⟩
 | set S n=>obtain ⟨ob,es,ep,t,e,c⟩:=x; exact ⟨ob,es,ep,t,k _ _ (.inl rfl) e,c⟩
 | ins C dx fs =>
  obtain ⟨d,z,ne,e,mA,⟨od,es,ep,e2,c⟩,r⟩:=x
  exact ⟨ho _ d,z,ne,k _ _ (.inl rfl) e,mA,⟨od,es,ep,k _ _ (.inr d) e2,c⟩,r⟩
 | own y=>obtain ⟨ob,e⟩:=x; exact ⟨ob,k _ _ (.inl rfl) e⟩
 | xd fs=>obtain ⟨mA,⟨od,es,ep,e,c⟩,r⟩:=x; exact ⟨mA,⟨od,es,ep,k _ _ (.inl rfl) e,c⟩,r⟩
 | rng lo hi=>obtain ⟨t,u,v,e⟩:=x; exact ⟨t,u,v,k _ _ (.inl rfl) e⟩
 | frz ob u ih=>obtain ⟨e,q⟩:=x; exact ⟨k _ _ (.inl rfl) e,ih q⟩
 | tbl ps =>
  have e : h.get? a = some { cls:=.none,data:=.fields ps }:=x
  show h'.get? a = some { cls:=.none,data:=.fields ps }
  exact k a _ (.inl rfl) e
 | met f y =>
  have e : h.get? a = some (PySem.W.methodObj (.ref f) (.ref y)):=x
  show h'.get? a = some (PySem.W.methodObj (.ref f) (.ref y))
  exact k a _ (.inl rfl) e
 | ext φ=>obtain ⟨p,⟨o,e⟩,st⟩:=x; exact ⟨st _ _ p fun o q=>k _ _ (.inl rfl) q,⟨o,k _ _ (.inl rfl) e⟩,st⟩
theorem HOk.lt (x : HOk P w H h) (e : H a = some o) : a < h.objs.size:=(x a o e).lt
theorem HOk.fresh (x : HOk P w H h) (e : h.objs.size ≤ a) : H a = none:=by
 cases q : H a with
 | none=>rfl
 | some u=>exact absurd (Nat.lt_of_lt_of_le (x.lt q) e) (Nat.lt_irrefl _)
theorem HOk.kept (x : HOk P w H h) (k : ∀ b u,h.get? b = some u → h'.get? b = some u) : HOk P w H h':=fun a o e =>
 (x a o e).stay (fun b u _ q=>k b u q) (fun _ q=>q) fun _ _ q=>q
theorem HOk.laid (x : HOk P w H h) (k : ∀ b u,h.get? b = some u → h'.get? b = some u) (hp : h.objs.size ≤ a) (new : ObjOk P w (upd H a o) h' a o) : HOk P w (upd H a o) h':=fun b u e=>by
 have hn:=x.fresh hp
 by_cases hb : b = a
 · subst hb; rw [upd_same] at e; cases e; exact new
 · rw [upd_ne hb] at e
   exact (x b u e).stay (fun c v _ q=>k c v q) (fun c q=>by rw [upd_ne (ne_of_none q hn)]; exact q) fun c xs q=>by rw [upd_ne (ne_of_none q hn)]; exact q
end
def Rd (H : Hp) (a : Addr) (u : HO) : Prop:=H a = some u ∨ ∃ o,H a = some (.frz o u)
theorem Rd.ok {P : Program} {w : World} {H : Hp} {h : Heap} {a : Addr} {u : HO} (r : Rd H a u) (x : HOk P w H h) : ObjOk P w H h a u:=by
 rcases r with r | ⟨o,r⟩
 · exact x a u r
 · obtain ⟨_,q⟩:=x a _ r
   exact q
def Mut : Option HO → Prop
 | some (.lst _)=>True
 | some (.dK _)=>True
 | some (.dT _)=>True
 | some (.set _ _)=>True
 | some (.ins _ _ _)=>True
 | some (.ext _)=>True
 | _=>False
section
variable {P : Program} {w : World} {H : Hp} {h h' : Heap} {x e : Addr} {o' : HO}
theorem HOk.write (ok : HOk P w H h) (mu : Mut (H x)) (he : e = x ∨ H e = some (.own x)) (k : ∀ b u,b ≠ e → h.get? b = some u → h'.get? b = some u) (heo : ∃ u,h'.get? e = some u)
 (new : ObjOk P w (upd H x o') h' x o') : HOk P w (upd H x o') h':=fun b u q=>by
 have nown : ∀ c y,H c = some (.own y) → c ≠ x:=fun c y r z=>by subst z; rw [r] at mu; exact mu
 have ntup : ∀ c xs,H c = some (.tup xs) → c ≠ x:=fun c xs r z=>by subst z; rw [r] at mu; exact mu
 by_cases hb : b = x
 · subst hb; rw [upd_same] at q; cases q; exact new
 · rw [upd_ne hb] at q
   by_cases hbe : b = e
   · have q' : H b = some (.own x):=by
      rcases he with z | z
      · exact absurd (hbe.trans z) hb
      · rw [hbe]; exact z
     rw [q] at q'; cases q'
     obtain ⟨v,hv⟩:=heo
     exact ⟨v,by rw [hbe]; exact hv⟩
   · refine (ok b u q).stay (fun c v hc r=>k c v ?_ r) (fun c r=>by rw [upd_ne (nown c b r)]; exact r) fun c xs r=>by rw [upd_ne (ntup c xs r)]; exact r
     rcases hc with rfl | hc
     · exact hbe
     · rintro rfl
       rcases he with z | z
       · exact nown c b hc z
       · rw [hc] at z; cases z; exact hb rfl
end
structure Un (fs ex : List Addr) (H H' : Hp) (h h' : Heap) : Prop where
 keep : ∀ b o,h.get? b = some o → H b = none → b ∉ fs → b ∉ ex → h'.get? b = some o
 slot : ∀ b o,h.get? b = some o → H b = none → b ∈ fs → b ∉ ex → ∃ sl,h'.get? b = some { o with slots:=sl }
 free : ∀ b o,h.get? b = some o → H b = none → b ∉ ex → H' b = none
 there : ∀ b o,h.get? b = some o → b ∉ ex → ∃ o',h'.get? b = some o'
 tups : ∀ b xs,H b = some (.tup xs) → H' b = some (.tup xs)
 frzs : ∀ b o u,H b = some (.frz o u) → H' b = some (.frz o u)
 tbls : ∀ b ps,H b = some (.tbl ps) → ∃ more,H' b = some (.tbl (ps ++ more))
section
variable {fs fs' ex ex' : List Addr} {H H1 H2 : Hp} {h h1 h2 h' : Heap} {a x e : Addr} {o : HO}
theorem Un.any (u : Un fs ex H H1 h h1) {b : Addr} {ob : Obj} (q : h.get? b = some ob) (n : H b = none) (hx : b ∉ ex) : ∃ sl,h1.get? b = some { ob with slots:=sl }:=by
 by_cases hb : b ∈ fs
 · exact u.slot b ob q n hb hx
 · exact ⟨ob.slots,u.keep b ob q n hb hx⟩
theorem Un.kept (k : ∀ b u,h.get? b = some u → h'.get? b = some u) : Un fs ex H H h h' :=
 ⟨fun b ob q _ _ _=>k b ob q,fun b ob q _ _ _=>⟨ob.slots,k b ob q⟩,fun _ _ _ n _=>n,fun b ob q _=>⟨ob,k b ob q⟩,fun _ _ q=>q,fun _ _ _ q=>q,fun _ ps q=>⟨#[],by rw [q]; simp⟩⟩
theorem Un.refl : Un fs ex H H h h:=Un.kept fun _ _ q=>q
theorem Un.laid (k : ∀ b u,h.get? b = some u → h'.get? b = some u) (hp : h.objs.size ≤ a) (hn : H a = none) : Un fs ex H (upd H a o) h h' where
 keep:=fun b u q _ _ _=>k b u q
 slot:=fun b u q _ _ _=>⟨u.slots,k b u q⟩
 free:=fun b u q n _=>by rw [upd_ne (Nat.ne_of_lt (Nat.lt_of_lt_of_le (Heap.lt_size q) hp))]; exact n
 there:=fun b u q _=>⟨u,k b u q⟩
 tups:=fun b xs q=>by rw [upd_ne (ne_of_none q hn)]; exact q
 frzs:=fun b u xs q=>by rw [upd_ne (ne_of_none q hn)]; exact q
 tbls:=fun b ps q=>⟨#[],by rw [upd_ne (ne_of_none q hn),q]; simp⟩
theorem Un.write (mu : Mut (H x)) (he : e = x ∨ H e = some (.own x)) (k : ∀ b u,b ≠ e → h.get? b = some u → h'.get? b = some u) (heo : ∃ u,h'.get? e = some u) : Un fs ex H (upd H x o) h h':=by
 have hx : ∀ b,H b = none → b ≠ x:=fun b n z=>by subst z; rw [n] at mu; exact mu
 have hb : ∀ b,H b = none → b ≠ e:=fun b n z=>by
  subst z
  rcases he with r | r
  · exact hx b n r
  · rw [n] at r; cases r
 have hm : ∀ b u,H b = some u → ¬ Mut (some u) → b ≠ x:=fun b u q nm z=>by subst z; rw [q] at mu; exact nm mu
 refine ⟨fun b u q n _ _=>k b u (hb b n) q,fun b u q n _ _=>⟨u.slots,k b u (hb b n) q⟩,fun b u q n _=>by rw [upd_ne (hx b n)]; exact n,fun b u q _=>?_,
  fun b xs q=>by rw [upd_ne (hm b _ q fun z=>z)]; exact q,fun b u xs q=>by rw [upd_ne (hm b _ q fun z=>z)]; exact q,fun b ps q=>⟨#[],by rw [upd_ne (hm b _ q fun z=>z),q]; simp⟩⟩
 by_cases hbe : b = e
 · subst hbe; exact heo
 · exact ⟨u,k b u hbe q⟩
end
def trk (h : Heap) (H : Hp) : List Addr:=(List.range h.objs.size).filter fun a=>(H a).isSome
def hidT (h : Heap) (H : Hp) : Heap:=PySem.W.hideAll h (trk h H)
theorem hidT_size (h : Heap) (H : Hp) : (hidT h H).objs.size = h.objs.size:=PySem.W.hideAll_size _ _
theorem hidT_get {h : Heap} {H : Hp} {b : Addr} {o : Obj} (e : h.get? b = some o) (n : H b = none) : (hidT h H).get? b = some o :=
 PySem.W.hideAll_get _ e fun hm=>by
  have q : (H b).isSome = true:=(List.mem_filter.mp hm).2
  rw [n] at q; simp at q
theorem of_hidT {h : Heap} {H : Hp} {b : Addr} {o : Obj} (e : (hidT h H).get? b = some o) : h.get? b = some o ∧ H b = none:=by
 have e' : h.get? b = some o:=PySem.W.of_hideAll (trk h H) e
 refine ⟨e',?_⟩
 cases q : H b with
 | none=>rfl
 | some x =>
  have hm : b ∈ trk h H:=List.mem_filter.mpr ⟨List.mem_range.mpr (Heap.lt_size e'),by simp [q]⟩
  have z : (hidT h H).get? b = none:=PySem.W.hideAll_none (trk h H) hm
  rw [z] at e; cases e
def allNews (g h : Heap) (L : Addr) : List (Addr × Obj):=(List.range h.objs.size).filterMap fun a=>if a = L ∨ (g.get? a).isSome = true then none else (h.get? a).map fun o=>(a,o)
def rest (g h : Heap) (L d : Addr) : List (Addr × Obj):=(allNews g h L).filter fun p=>decide (p.1 ≠ d)
end L2
namespace L2
open PySem PySem.Spec PyProof.Rows
structure Mod (K : PySem.W.Frag) (mg : Str → Option Value) (base : Heap) : Prop where
 kin : K.In base
 glob : base.Ns mainGlobals mg
 blt : ∃ mb,base.Ns builtinsNs mb ∧ ∀ x : Str,x ≠ "__name__" → mb x = bootBuiltins x
 nolimit : base.NoLimit
structure Cx where
 prog : Program
 w : World
 K : PySem.W.Frag
 mg : Str → Option Value
 base : Heap
 A : Around
 N : List Str
 s₀ : Shared
 H₀ : Hp
 env : Env
 outer : List Env
 stack : List Env
 ex : List Addr
 fn : Str → Bool
 calm : Bool
 pn : List (Addr × Obj)
 xe : Value → Shared → Prop
def frs (l : List Env) : List Addr:=l.filterMap (·.frame)
abbrev Cx.fs (X : Cx) : List Addr:=frs X.outer
def Vis (sc : Scope) (x : Str) : Prop:=sc.names.lookup x = some .local ∨ sc.names.lookup x = some .cell ∨ sc.names.lookup x = some .free
def Loc (sc : Scope) (x : Str) : Prop:=sc.names.lookup x = some .local ∨ sc.names.lookup x = some .cell
def Look (env : Env) (h : Heap) (m : Str → Option Value) (x : Str) (u : Value) : Prop :=
 (env.kindOf x = some .local ∧ m x = some u) ∨ ((env.kindOf x = some .cell ∨ env.kindOf x = some .free) ∧ ∃ c,env.cells.lookup x = some c ∧ h.IsCell c (some u))
structure Cx.Ok (X : Cx) : Prop where
 mod : Mod X.K X.mg X.base
 kind : X.env.scope.kind = .function
 glob : X.env.globals = mainGlobals
 blt : X.env.builtins = builtinsNs
 above : X.s₀.heap.objs.size ≤ X.env.locals
 inj : ∀ x y c,X.env.cells.lookup x = some c → X.env.cells.lookup y = some c → x = y
 has : ∀ x,(X.env.kindOf x = some .cell ∨ X.env.kindOf x = some .free) → ∃ c,X.env.cells.lookup x = some c
 cab : ∀ x c,X.fn x = true → X.env.cells.lookup x = some c → X.s₀.heap.objs.size ≤ c
 hd : X.calm = true → X.A.handled = none
 frames : X.A.frames = some X.stack
 stk : X.stack = X.outer ∨ (X.stack = X.env :: X.outer ∧ X.env.frame = some X.env.locals)
 exf : ∀ b ∈ X.ex,b ≠ X.env.locals ∧ ∀ x c,X.env.cells.lookup x = some c → c ≠ b
 bs : ∀ b o,X.base.get? b = some o → X.s₀.heap.get? b = some o ∧ X.H₀ b = none
 bsz : X.base.objs.size ≤ X.s₀.heap.objs.size
 noex : ∀ b o,X.base.get? b = some o → b ∉ X.ex
 exfs : ∀ b ∈ X.ex,b ∉ X.fs
 funs : X.s₀.heap.FunFrames X.base X.outer
 frf : ∀ b ∈ X.fs,X.H₀ b = none
structure Inv (X : Cx) (pins : List (Addr × Obj)) (σ : List (Option V)) (H : Hp) (s : Shared) : Prop where
 ok : X.Ok
 os : s.os = X.s₀.os
 bare : AllBare s.gens
 base : Un X.fs X.ex X.H₀ H X.s₀.heap s.heap
 loc : ∃ m,s.heap.Ns X.env.locals m ∧ ∀ (i : Nat) (x : Str) (v : V),X.N[i]? = some x → σ[i]? = some (some v) → Vis X.env.scope x → ∃ u,RelV v u ∧ Look X.env s.heap m x u
 cell : ∀ x c,X.env.cells.lookup x = some c → ∃ v,s.heap.IsCell c v
 free : H X.env.locals = none
 freeC : ∀ x c,X.env.cells.lookup x = some c → H c = none
 pin : ∀ p ∈ X.pn ++ pins,s.heap.get? p.1 = some p.2 ∧ H p.1 = none ∧ p.1 ≠ X.env.locals ∧ p.1 ∉ X.fs ∧ ∀ v,p.2.data ≠ .cell v
 hok : HOk X.prog X.w H s.heap
 len : σ.length = X.N.length
section
variable {X : Cx} {pins : List (Addr × Obj)} {σ : List (Option V)} {H H' : Hp} {s : Shared} {h' : Heap}
theorem Cx.Ok.nofr (ok : X.Ok) {b : Addr} {o : Obj} (e : X.base.get? b = some o) : b ∉ X.fs:=fun hb=>by
 have:=(ok.funs.mem hb).1
 rw [e] at this; cases this
theorem Inv.bs (I : Inv X pins σ H s) : ∀ b o,X.base.get? b = some o → s.heap.get? b = some o ∧ H b = none:=fun b o e =>
 ⟨I.base.keep b o (I.ok.bs b o e).1 (I.ok.bs b o e).2 (I.ok.nofr e) (I.ok.noex b o e),I.base.free b o (I.ok.bs b o e).1 (I.ok.bs b o e).2 (I.ok.noex b o e)⟩
theorem Inv.bk (I : Inv X pins σ H s) : ∀ b o,X.base.get? b = some o → s.heap.get? b = some o:=fun b o e=>(I.bs b o e).1
theorem Inv.mod (I : Inv X pins σ H s) : Mod X.K X.mg X.base:=I.ok.mod
theorem Inv.kIn (I : Inv X pins σ H s) : X.K.In s.heap:=I.ok.mod.kin.keeps I.bk
theorem Inv.lt (I : Inv X pins σ H s) : X.env.locals < s.heap.objs.size:=let ⟨_,hn,_⟩:=I.loc; hn.lt
theorem Inv.sz (I : Inv X pins σ H s) : X.s₀.heap.objs.size ≤ s.heap.objs.size:=Nat.le_trans I.ok.above (Nat.le_of_lt I.lt)
theorem Inv.nofs (I : Inv X pins σ H s) {a : Addr} (h : s.heap.objs.size ≤ a) : a ∉ X.fs:=fun hb=>by
 obtain ⟨_,o,ho,_⟩:=I.ok.funs.mem hb
 exact absurd (Nat.lt_of_lt_of_le (Heap.lt_size ho) (Nat.le_trans I.sz h)) (Nat.lt_irrefl _)
theorem Inv.cne (I : Inv X pins σ H s) : ∀ x c,X.env.cells.lookup x = some c → c ≠ X.env.locals:=fun x c e z=>by
 obtain ⟨v,o,ho,hd⟩:=I.cell x c e
 obtain ⟨m,⟨o',es,ep,ho',hd',_⟩,_⟩:=I.loc
 rw [z,ho'] at ho; cases ho; rw [hd'] at hd; cases hd
theorem Inv.funs (I : Inv X pins σ H s) : s.heap.FunFrames X.base X.outer:=by
 have all : ∀ (l : List Env),(∀ b ∈ frs l,b ∈ X.fs) → X.s₀.heap.FunFrames X.base l → s.heap.FunFrames X.base l:=by
  intro l
  induction l with
  | nil=>intro _ _; trivial
  | cons env r ih =>
   intro hs hl
   obtain ⟨hk,⟨L,o,hf,hn,ho,hd⟩,hr⟩:=hl
   have hL : L ∈ X.fs:=hs L (by unfold frs; rw [List.filterMap_cons,hf]; exact List.mem_cons_self)
   obtain ⟨sl,e⟩:=I.base.slot L o ho (I.ok.frf L hL) hL fun z=>I.ok.exfs L z hL
   exact ⟨hk,⟨L,_,hf,hn,e,hd⟩,ih (fun b hb=>hs b (by unfold frs; rw [List.filterMap_cons,hf]; exact List.mem_cons_of_mem _ hb)) hr⟩
 exact all X.outer (fun _ hb=>hb) I.ok.funs
theorem Inv.stack (I : Inv X pins σ H s) : s.heap.FunFrames X.base X.stack:=by
 rcases I.ok.stk with e | ⟨e,hf⟩
 · rw [e]; exact I.funs
 · rw [e]
   obtain ⟨m,hn,_⟩:=I.loc
   refine .cons (by rw [I.ok.kind]; decide) hf hn ?_ I.funs
   exact Heap.get?_none_of_le (Nat.le_trans I.ok.bsz I.ok.above)
theorem Inv.stkSub (I : Inv X pins σ H s) : ∀ b ∈ frs X.stack,b ∈ X.env.locals :: X.fs:=fun b hb=>by
 rcases I.ok.stk with e | ⟨e,hf⟩
 · rw [e] at hb; exact List.mem_cons_of_mem _ hb
 · rw [e] at hb
   unfold frs at hb
   rw [List.filterMap_cons,hf] at hb
   exact hb
theorem Inv.stkFree (I : Inv X pins σ H s) : ∀ b ∈ frs X.stack,H b = none:=fun b hb=>by
 rcases List.mem_cons.mp (I.stkSub b hb) with e | hb
 · rw [e]; exact I.free
 · obtain ⟨_,o,ho,_⟩:=I.ok.funs.mem hb
   exact I.base.free b o ho (I.ok.frf b hb) fun z=>I.ok.exfs b z hb
theorem Inv.step {g' : Array GenState} {t' : Nat} {d' : Drawn} {ch : List Addr} (I : Inv X pins σ H s)
 (hch : ∀ b ∈ ch,(b ∈ X.ex ∨ X.s₀.heap.objs.size ≤ b) ∧ b ≠ X.env.locals ∧ (∀ x c,X.env.cells.lookup x = some c → c ≠ b) ∧ ∀ p ∈ X.pn ++ pins,p.1 ≠ b)
 (keep : ∀ b o,b ≠ X.env.locals → b ∉ X.fs → b ∉ ch → s.heap.get? b = some o → H b = none → h'.get? b = some o)
 (slot : ∀ b o,b ≠ X.env.locals → b ∈ X.fs → b ∉ ch → s.heap.get? b = some o → H b = none → ∃ sl,h'.get? b = some { o with slots:=sl }) (free : ∀ b o,b ∉ ch → s.heap.get? b = some o → H b = none → H' b = none)
 (there : ∀ b o,b ∉ ch → s.heap.get? b = some o → ∃ o',h'.get? b = some o')
 (tups : ∀ b xs,H b = some (.tup xs) → H' b = some (.tup xs)) (frzs : ∀ b o u,H b = some (.frz o u) → H' b = some (.frz o u)) (tbls : ∀ b ps,H b = some (.tbl ps) → ∃ more,H' b = some (.tbl (ps ++ more)))
 (ns : ∀ m,s.heap.Ns X.env.locals m → h'.Ns X.env.locals m) (hok : HOk X.prog X.w H' h') (hg : AllBare g') :
 Inv X pins σ H' { s with heap:=h',gens:=g',drawn:=d',toks:=t' }:=by
 have neL : ∀ b o,X.s₀.heap.get? b = some o → b ≠ X.env.locals:=fun b o e=>Nat.ne_of_lt (Nat.lt_of_lt_of_le (Heap.lt_size e) I.ok.above)
 have neC : ∀ b o,X.s₀.heap.get? b = some o → b ∉ X.ex → b ∉ ch:=fun b o e hx hb=>by
  rcases (hch b hb).1 with z | z
  · exact hx z
  · exact absurd (Nat.lt_of_lt_of_le (Heap.lt_size e) z) (Nat.lt_irrefl _)
 have cellK : ∀ x c,X.env.cells.lookup x = some c → ∀ v,s.heap.IsCell c v → h'.IsCell c v:=fun x c e v ⟨o,ho,hd⟩=>by
  have nch : c ∉ ch:=fun z=>(hch c z).2.2.1 x c e rfl
  by_cases hc : c ∈ X.fs
  · obtain ⟨sl,q⟩:=slot c o (I.cne x c e) hc nch ho (I.freeC x c e)
    exact ⟨_,q,hd⟩
  · exact ⟨o,keep c o (I.cne x c e) hc nch ho (I.freeC x c e),hd⟩
 refine ⟨I.ok,I.os,hg,⟨fun b o e n hb hx=>?_,fun b o e n hb hx=>?_,fun b o e n hx=>?_,fun b o e hx=>?_,fun b xs e=>tups b xs (I.base.tups b xs e),fun b o xs e=>frzs b o xs (I.base.frzs b o xs e),fun b ps e=>?_⟩,?_,fun x c e=>?_,?_,fun x c e=>?_,fun p hp=>?_,hok,I.len⟩
 · exact keep b o (neL b o e) hb (neC b o e hx) (I.base.keep b o e n hb hx) (I.base.free b o e n hx)
 · obtain ⟨sl,e1⟩:=I.base.slot b o e n hb hx
   obtain ⟨sl',e2⟩:=slot b _ (neL b o e) hb (neC b o e hx) e1 (I.base.free b o e n hx)
   exact ⟨sl',e2⟩
 · obtain ⟨o',e1⟩:=I.base.there b o e hx
   exact free b o' (neC b o e hx) e1 (I.base.free b o e n hx)
 · obtain ⟨o',e1⟩:=I.base.there b o e hx
   exact there b o' (neC b o e hx) e1
 · obtain ⟨m1,e1⟩:=I.base.tbls b ps e
   obtain ⟨m2,e2⟩:=tbls b _ e1
   exact ⟨m1 ++ m2,by rw [e2,Array.append_assoc]⟩
 · obtain ⟨m,hn,hl⟩:=I.loc
   refine ⟨m,ns m hn,fun i x v e1 e2 e3=>?_⟩
   obtain ⟨u,r,l⟩:=hl i x v e1 e2 e3
   refine ⟨u,r,?_⟩
   rcases l with l | ⟨k,c,e,z⟩
   · exact .inl l
   · exact .inr ⟨k,c,e,cellK x c e _ z⟩
 · obtain ⟨v,z⟩:=I.cell x c e
   exact ⟨v,cellK x c e v z⟩
 · obtain ⟨m,⟨o,_,_,ho,_⟩,_⟩:=I.loc
   exact free _ o (fun z=>(hch _ z).2.1 rfl) ho I.free
 · obtain ⟨v,o,ho,hd⟩:=I.cell x c e
   exact free c o (fun z=>(hch c z).2.2.1 x c e rfl) ho (I.freeC x c e)
 · obtain ⟨e,n,ne,nf,d⟩:=I.pin p hp
   have nch : p.1 ∉ ch:=fun z=>(hch p.1 z).2.2.2 p hp rfl
   exact ⟨keep p.1 p.2 ne nf nch e n,free p.1 p.2 nch e n,ne,nf,d⟩
theorem Inv.un {t' : Nat} (I : Inv X pins σ H s) (u : Un X.fs [] H H' s.heap h') (hok : HOk X.prog X.w H' h') : Inv X pins σ H' { s with heap:=h',toks:=t' }:=by
 obtain ⟨m,⟨o,es,ep,ho,r⟩,_⟩:=id I.loc
 obtain ⟨sl,hL⟩:=u.any ho I.free (by simp)
 exact I.step (g':=s.gens) (d':=s.drawn) (ch:=[]) (fun _ z=>nomatch z) (fun b o _ hb _ e n=>u.keep b o e n hb (by simp)) (fun b o _ hb _ e n=>u.slot b o e n hb (by simp)) (fun b o _ e n=>u.free b o e n (by simp)) (fun b o _ e=>u.there b o e (by simp)) u.tups u.frzs u.tbls (fun m' hm=>by
  obtain ⟨o',es',ep',ho',r'⟩:=hm
  rw [ho] at ho'; cases ho'
  exact ⟨_,es',ep',hL,r'⟩) hok I.bare
theorem Inv.call {g' : Array GenState} {t' : Nat} {d' : Drawn} {ch : List Addr} (I : Inv X pins σ H s) (u : Un (frs X.stack) ch H H' s.heap h') (hok : HOk X.prog X.w H' h') (hg : AllBare g')
 (hch : ∀ b ∈ ch,(b ∈ X.ex ∨ X.s₀.heap.objs.size ≤ b) ∧ b ≠ X.env.locals ∧ (∀ x c,X.env.cells.lookup x = some c → c ≠ b) ∧ ∀ p ∈ X.pn ++ pins,p.1 ≠ b) :
 Inv X pins σ H' { s with heap:=h',gens:=g',drawn:=d',toks:=t' }:=by
 obtain ⟨m,⟨o,es,ep,ho,r⟩,_⟩:=id I.loc
 obtain ⟨sl,hL⟩:=u.any ho I.free fun z=>(hch _ z).2.1 rfl
 exact I.step (ch:=ch) hch (fun b o hL hb hc e n=>u.keep b o e n (fun z=>(List.mem_cons.mp (I.stkSub b z)).elim hL hb) hc) (fun b o _ _ hc e n=>u.any e n hc) (fun b o hc e n=>u.free b o e n hc) (fun b o hc e=>u.there b o e hc) u.tups u.frzs u.tbls (fun m' hm=>by
  obtain ⟨o',es',ep',ho',r'⟩:=hm
  rw [ho] at ho'; cases ho'
  exact ⟨_,es',ep',hL,r'⟩) hok hg
theorem Inv.turned {t' : Nat} {it : Addr} (I : Inv X pins σ H s) (k : ∀ b o,b ≠ it → s.heap.get? b = some o → h'.get? b = some o) (hn : H it = none) (hL : it ≠ X.env.locals)
 (h1 : it ∈ X.ex ∨ X.s₀.heap.objs.size ≤ it) (h2 : ∀ x c,X.env.cells.lookup x = some c → c ≠ it) (h3 : ∀ p ∈ X.pn ++ pins,p.1 ≠ it) : Inv X pins σ H { s with heap:=h',toks:=t' }:=by
 have nit : ∀ b u,H b = some u → b ≠ it:=fun b u e z=>by rw [z,hn] at e; cases e
 refine I.step (g':=s.gens) (d':=s.drawn) (ch:=[it]) (fun b hb=>?_) (fun b o _ _ hc e _=>k b o (fun z=>hc (by simp [z])) e) (fun b o _ _ hc e _=>⟨o.slots,k b o (fun z=>hc (by simp [z])) e⟩) (fun _ _ _ _ n=>n)
  (fun b o hc e=>⟨o,k b o (fun z=>hc (by simp [z])) e⟩) (fun _ _ e=>e) (fun _ _ _ e=>e) (fun b ps e=>⟨#[],by rw [e]; simp⟩) (fun m hm=>?_) (fun b u e=>?_) I.bare
 · have e : b = it:=by simpa using hb
   subst e
   exact ⟨h1,hL,h2,h3⟩
 · obtain ⟨o,es,ep,ho,r⟩:=hm
   exact ⟨o,es,ep,k _ o (Ne.symm hL) ho,r⟩
 · refine (I.hok b u e).stay (fun c v hc q=>k c v ?_ q) (fun _ q=>q) fun _ _ q=>q
   rcases hc with z | z
   · rw [z]; exact nit b u e
   · exact nit c _ z
theorem Inv.tok (I : Inv X pins σ H s) (t : Nat) : Inv X pins σ H { s with toks:=t }:=I.un (h':=s.heap) (t':=t) Un.refl I.hok
theorem Inv.kept {t' : Nat} (I : Inv X pins σ H s) (k : ∀ b u,s.heap.get? b = some u → h'.get? b = some u) : Inv X pins σ H { s with heap:=h',toks:=t' }:=I.un (Un.kept k) (I.hok.kept k)
theorem Inv.laid {a : Addr} {o : HO} {t' : Nat} (I : Inv X pins σ H s) (k : ∀ b u,s.heap.get? b = some u → h'.get? b = some u) (hp : s.heap.objs.size ≤ a) (new : ObjOk X.prog X.w (upd H a o) h' a o) :
 Inv X pins σ (upd H a o) { s with heap:=h',toks:=t' }:=I.un (Un.laid k hp (I.hok.fresh hp)) (I.hok.laid k hp new)
theorem Inv.write {x e : Addr} {o : HO} {t' : Nat} (I : Inv X pins σ H s) (mu : Mut (H x)) (he : e = x ∨ H e = some (.own x)) (k : ∀ b u,b ≠ e → s.heap.get? b = some u → h'.get? b = some u) (heo : ∃ u,h'.get? e = some u)
 (new : ObjOk X.prog X.w (upd H x o) h' x o) : Inv X pins σ (upd H x o) { s with heap:=h',toks:=t' }:=I.un (Un.write mu he k heo) (I.hok.write mu he k heo new)
theorem Inv.pins_of {pins' : List (Addr × Obj)} (I : Inv X pins σ H s) (h : ∀ p ∈ pins',s.heap.get? p.1 = some p.2 ∧ H p.1 = none ∧ p.1 ≠ X.env.locals ∧ p.1 ∉ X.fs ∧ ∀ v,p.2.data ≠ .cell v) : Inv X pins' σ H s :=
 ⟨I.ok,I.os,I.bare,I.base,I.loc,I.cell,I.free,I.freeC,fun p hp=>(List.mem_append.mp hp).elim (fun z=>I.pin p (List.mem_append_left _ z)) (h p),I.hok,I.len⟩
theorem nodup_ix {N : List Str} (hN : N.Nodup) {i j : Nat} {x : Str} (a : N[i]? = some x) (b : N[j]? = some x) : i = j:=by
 obtain ⟨h1,e1⟩:=List.getElem?_eq_some_iff.mp a
 obtain ⟨h2,e2⟩:=List.getElem?_eq_some_iff.mp b
 exact (List.getElem_inj hN).mp (e1.trans e2.symm)
theorem store_ok2 {M : Model} {A : Around} {E : Value → Shared → Prop} {i : Nat} {x : Str} {v : V} {u : Value} {Q : Unit → Shared → Prop} (I : Inv X pins σ H s) (hN : X.N.Nodup) (hi : X.N[i]? = some x) (hx : Loc X.env.scope x) (r : RelV v u)
 (h : ∀ s',Inv X pins (σ.set i (some v)) H s' → (∃ a,Heap.SameBut a s.heap s'.heap ∧ (a = X.env.locals ∨ X.env.cells.lookup x = some a)) → Q () s') (hf : X.fn x = true ∨ X.env.scope.names.lookup x = some .local:=by first | exact .inl rfl | exact .inr rfl | assumption) : wpAny M A (storeName X.env x u) Q E s:=by
 obtain ⟨m,hn,hl⟩:=id I.loc
 have hcls : (X.env.scope.kind == .class || (X.env.scope.kind == .module && X.env.locals != X.env.globals)) = false:=by rw [I.ok.kind]; rfl
 have hiσ : i < σ.length:=by rw [I.len]; exact (List.getElem?_eq_some_iff.mp hi).1
 have cne:=I.cne
 have tracked : ∀ {a : Addr} {h' : Heap},(∃ o,s.heap.get? a = some o ∧ H a = none) → Heap.SameBut a s.heap h' → HOk X.prog X.w H h':=fun {a h'} ha hs b ob e=>by
  obtain ⟨_,_,hfree⟩:=ha
  refine (I.hok b ob e).stay (fun c w' hc q=>(hs.2 c ?_).trans q) (fun _ q=>q) fun _ _ q=>q
  rintro rfl
  rcases hc with rfl | hc
  · rw [hfree] at e; cases e
  · rw [hfree] at hc; cases hc
 rcases hx with hk | hk
 · refine wpAny_storeName_local hk hn (fun h' hn' hs=>?_) hcls
   obtain ⟨oL,_,_,hoL,_⟩:=id hn
   refine h _ ⟨I.ok,I.os,I.bare,⟨fun b o e n hb hx=>?_,fun b o e n hb hx=>?_,I.base.free,fun b o e hx=>?_,I.base.tups,I.base.frzs,I.base.tbls⟩,⟨_,hn',fun j y v' e1 e2 e3=>?_⟩,fun y c e=>?_,I.free,I.freeC,fun p hp=>?_,tracked ⟨oL,hoL,I.free⟩ hs,by simpa using I.len⟩ ⟨_,hs,.inl rfl⟩
   · exact (hs.2 b (Nat.ne_of_lt (Nat.lt_of_lt_of_le (Heap.lt_size e) I.ok.above))).trans (I.base.keep b o e n hb hx)
   · obtain ⟨sl,e1⟩:=I.base.slot b o e n hb hx
     exact ⟨sl,(hs.2 b (Nat.ne_of_lt (Nat.lt_of_lt_of_le (Heap.lt_size e) I.ok.above))).trans e1⟩
   · obtain ⟨o',e1⟩:=I.base.there b o e hx
     exact ⟨o',(hs.2 b (Nat.ne_of_lt (Nat.lt_of_lt_of_le (Heap.lt_size e) I.ok.above))).trans e1⟩
   · by_cases hj : j = i
     · subst hj
       rw [hi] at e1; cases e1
       rw [List.getElem?_set_self hiσ] at e2
       cases e2
       exact ⟨u,r,.inl ⟨hk,by simp⟩⟩
     · rw [List.getElem?_set_ne (Ne.symm hj)] at e2
       obtain ⟨u',r',q⟩:=hl j y v' e1 e2 e3
       refine ⟨u',r',?_⟩
       rcases q with ⟨k,e⟩ | ⟨k,c,e,z⟩
       · refine .inl ⟨k,?_⟩
         have : y ≠ x:=fun e=>hj (nodup_ix hN e1 (e ▸ hi))
         simp [this,e]
       · exact .inr ⟨k,c,e,z.sameBut hs (cne y c e)⟩
   · obtain ⟨w',z⟩:=I.cell y c e
     exact ⟨w',z.sameBut hs (cne y c e)⟩
   · obtain ⟨e,n,ne,nf,d⟩:=I.pin p hp
     exact ⟨(hs.2 p.1 ne).trans e,n,ne,nf,d⟩
 · have hfn : X.fn x = true:=by
    rcases hf with z | z
    · exact z
    · rw [z] at hk; cases hk
   obtain ⟨c,hc⟩:=I.ok.has x (.inl hk)
   obtain ⟨w',z⟩:=I.cell x c hc
   refine wpAny_storeName_cell I.ok.kind hk hc z (fun h' hc' hs=>?_)
   obtain ⟨oc,hoc,hocd⟩:=id z
   refine h { s with heap:=h' } ⟨I.ok,I.os,I.bare,⟨fun b o e n hb hx=>?_,fun b o e n hb hx=>?_,I.base.free,fun b o e hx=>?_,I.base.tups,I.base.frzs,I.base.tbls⟩,⟨m,hn.sameBut hs (Ne.symm (cne x c hc)),fun j y v' e1 e2 e3=>?_⟩,fun y c' e=>?_,I.free,I.freeC,fun p hp=>?_,tracked ⟨oc,hoc,I.freeC x c hc⟩ hs,by simpa using I.len⟩ ⟨c,hs,.inr hc⟩
   · exact (hs.2 b (Nat.ne_of_lt (Nat.lt_of_lt_of_le (Heap.lt_size e) (I.ok.cab x c hfn hc)))).trans (I.base.keep b o e n hb hx)
   · obtain ⟨sl,e1⟩:=I.base.slot b o e n hb hx
     exact ⟨sl,(hs.2 b (Nat.ne_of_lt (Nat.lt_of_lt_of_le (Heap.lt_size e) (I.ok.cab x c hfn hc)))).trans e1⟩
   · obtain ⟨o',e1⟩:=I.base.there b o e hx
     exact ⟨o',(hs.2 b (Nat.ne_of_lt (Nat.lt_of_lt_of_le (Heap.lt_size e) (I.ok.cab x c hfn hc)))).trans e1⟩
   · by_cases hj : j = i
     · subst hj
       rw [hi] at e1; cases e1
       rw [List.getElem?_set_self hiσ] at e2
       cases e2
       exact ⟨u,r,.inr ⟨.inl hk,c,hc,hc'⟩⟩
     · rw [List.getElem?_set_ne (Ne.symm hj)] at e2
       obtain ⟨u',r',q⟩:=hl j y v' e1 e2 e3
       refine ⟨u',r',?_⟩
       rcases q with q | ⟨k,c',e,z'⟩
       · exact .inl q
       · refine .inr ⟨k,c',e,z'.sameBut hs ?_⟩
         rintro rfl
         exact hj (nodup_ix hN e1 (I.ok.inj _ _ _ e hc ▸ hi))
   · by_cases hcc : c' = c
     · subst hcc; exact ⟨_,hc'⟩
     · obtain ⟨w2,z2⟩:=I.cell y c' e
       exact ⟨w2,z2.sameBut hs hcc⟩
   · obtain ⟨e,n,ne,nf,d⟩:=I.pin p hp
     refine ⟨(hs.2 p.1 ?_).trans e,n,ne,nf,d⟩
     intro q
     rw [q,hoc] at e
     have q' : oc = p.2:=Option.some.inj e
     exact d w' (by rw [← q']; exact hocd)
theorem store_ok {M : Model} {A : Around} {E : Value → Shared → Prop} {i : Nat} {x : Str} {v : V} {u : Value} {Q : Unit → Shared → Prop} (I : Inv X pins σ H s) (hN : X.N.Nodup) (hi : X.N[i]? = some x) (hx : Loc X.env.scope x) (r : RelV v u)
 (h : ∀ s',Inv X pins (σ.set i (some v)) H s' → Q () s') (hf : X.fn x = true ∨ X.env.scope.names.lookup x = some .local:=by first | exact .inl rfl | exact .inr rfl | assumption) : wpAny M A (storeName X.env x u) Q E s :=
 store_ok2 I hN hi hx r (fun s' I' _=>h s' I') hf
theorem Inv.call' {s' : Shared} {ch : List Addr} (I : Inv X pins σ H s) (ho : s'.os = s.os) (u : Un (frs X.stack) ch H H' s.heap s'.heap) (hok : HOk X.prog X.w H' s'.heap) (hg : AllBare s'.gens)
 (hch : ∀ b ∈ ch,(b ∈ X.ex ∨ X.s₀.heap.objs.size ≤ b) ∧ b ≠ X.env.locals ∧ (∀ x c,X.env.cells.lookup x = some c → c ≠ b) ∧ ∀ p ∈ X.pn ++ pins,p.1 ≠ b) : Inv X pins σ H' s':=by
 obtain ⟨h',g',d',t',o'⟩:=s'
 have e : o' = s.os:=ho
 subst e
 exact I.call (g':=g') (t':=t') (d':=d') u hok hg hch
end
abbrev XK:=Value → Option Addr → Hp → Prop
abbrev St:=List (Option V)
abbrev VK:=V → Hp → Prop
abbrev TE:=St → Hp → VK → Prop
abbrev TT:=St → Hp → (Bool → Hp → Prop) → Prop
abbrev TA:=St → Hp → (List V → Hp → Prop) → Prop
structure Ends where
 nx : St → Hp → Prop
 rt : VK
 bk : St → Hp → Prop:=fun _ _=>False
 ct : St → Hp → Prop:=fun _ _=>False
abbrev TS:=Ends → St → Hp → Prop
def EP (X : Cx) (pins : List (Addr × Obj)) (σ : St) (Q : VK) (u : Value) (s' : Shared) : Prop:=∃ v H',Inv X pins σ H' s' ∧ RelV v u ∧ Q v H'
def TP (X : Cx) (pins : List (Addr × Obj)) (σ : St) (Q : Bool → Hp → Prop) (b : Bool) (s' : Shared) : Prop:=∃ H',Inv X pins σ H' s' ∧ Q b H'
def AP (X : Cx) (pins : List (Addr × Obj)) (σ : St) (Q : List V → Hp → Prop) (us : List Value) (s' : Shared) : Prop:=∃ vs H',Inv X pins σ H' s' ∧ Vals vs us ∧ Q vs H'
def SP (X : Cx) (pins : List (Addr × Obj)) (D : Ends) (f : Flow) (s' : Shared) : Prop :=
 match f with
 | .next=>∃ σ' H',Inv X pins σ' H' s' ∧ D.nx σ' H'
 | .brk=>∃ σ' H',Inv X pins σ' H' s' ∧ D.bk σ' H'
 | .cont=>∃ σ' H',Inv X pins σ' H' s' ∧ D.ct σ' H'
 | .ret u=>∃ v σ' H',Inv X pins σ' H' s' ∧ RelV v u ∧ D.rt v H'
def PE (X : Cx) (e : Expr) (t : TE) : Prop :=
 ∀ (pins : List (Addr × Obj)) (s : Shared) (σ : St) (H : Hp) (Q : VK),Inv X pins σ H s → t σ H Q → wpAny (model X.prog X.w) X.A (eval e X.env) (EP X pins σ Q) X.xe s
def PT (X : Cx) (e : Expr) (t : TT) : Prop :=
 ∀ (pins : List (Addr × Obj)) (s : Shared) (σ : St) (H : Hp) (Q : Bool → Hp → Prop),Inv X pins σ H s → t σ H Q → wpAny (model X.prog X.w) X.A (isTrue e X.env (eval e X.env)) (TP X pins σ Q) X.xe s
def PW (X : Cx) (e : Expr) (t : TT) : Prop :=
 ∀ (whole : Sem Value) (pins : List (Addr × Obj)) (s : Shared) (σ : St) (H : Hp) (Q : Bool → Hp → Prop),Inv X pins σ H s → t σ H Q → wpAny (model X.prog X.w) X.A (isTrue e X.env whole) (TP X pins σ Q) X.xe s
theorem PW.pt {X : Cx} {e : Expr} {t : TT} (h : PW X e t) : PT X e t:=h _
def PA (X : Cx) (es : List Expr) (t : TA) : Prop :=
 ∀ (pos : Pos) (pins : List (Addr × Obj)) (s : Shared) (σ : St) (H : Hp) (Q : List V → Hp → Prop),Inv X pins σ H s → t σ H Q → wpAny (model X.prog X.w) X.A (spliced (backTo pos (starEach es X.env))) (AP X pins σ Q) X.xe s
def PS (X : Cx) (st : Stmt) (t : TS) : Prop :=
 ∀ (pins : List (Addr × Obj)) (s : Shared) (σ : St) (H : Hp) (D : Ends),Inv X pins σ H s → t D σ H → wpAny (model X.prog X.w) X.A (exec st X.env) (SP X pins D) X.xe s
def PSs (X : Cx) (st : List Stmt) (t : TS) : Prop :=
 ∀ (pins : List (Addr × Obj)) (s : Shared) (σ : St) (H : Hp) (D : Ends),Inv X pins σ H s → t D σ H → wpAny (model X.prog X.w) X.A (execs st X.env) (SP X pins D) X.xe s
theorem thn {α : Type} {t : Sem α} {Q Q' : α → Shared → Prop} {M : Model} {A : Around} {E : Value → Shared → Prop} {s : Shared} (h : wpAny M A t Q E s) (hQ : ∀ a s,Q a s → Q' a s) : wpAny M A t Q' E s:=wpAny_mono h hQ fun _ _ x=>x
end L2
namespace L2
open PySem PySem.Spec PyProof.Rows
section
variable {X : Cx}
theorem bin {a b : Expr} {ta tb : TE} (ha : PE X a ta) (hb : PE X b tb) {pins : List (Addr × Obj)} {s : Shared} {σ : St} {H : Hp} {R : V → V → Hp → Prop} (I : Inv X pins σ H s) (h : ta σ H fun x H1=>tb σ H1 fun y H2=>R x y H2)
 {α : Type} {Q : α → Shared → Prop} {f : Value → Value → Sem α}
 (hf : ∀ v u s2 x y H2,Inv X pins σ H2 s2 → RelV x v → RelV y u → R x y H2 → wpAny (model X.prog X.w) X.A (f v u) Q X.xe s2) :
 wpAny (model X.prog X.w) X.A (eval a X.env) (fun v s₁=>wpAny (model X.prog X.w) X.A (eval b X.env) (fun u s₂=>wpAny (model X.prog X.w) X.A (f v u) Q X.xe s₂) X.xe s₁) X.xe s:=by
 refine thn (ha pins s σ H _ I h) fun v s1 ⟨x,H1,I1,r1,q1⟩=>?_
 refine thn (hb pins s1 σ H1 _ I1 q1) fun u s2 ⟨y,H2,I2,r2,q2⟩=>?_
 exact hf v u s2 x y H2 I2 r1 r2 q2
def tVar (i : Nat) : TE:=fun σ H Q=>∃ v,σ[i]? = some (some v) ∧ Q v H
def tC (v : V) : TE:=fun _ H Q=>Q v H
theorem pe_var {i : Nat} {x : Str} {pos : Pos} (hN : X.N[i]? = some x) (hv : Vis X.env.scope x) (hd : (x == ("__debug__" : Str)) = false:=by decide) (hcd : (x == ("__classdict__" : Str)) = false:=by decide) : PE X (.Name x pos) (tVar i):=by
 intro pins s σ H Q I h
 obtain ⟨v,e,h⟩:=h
 obtain ⟨m,hn,hl⟩:=I.loc
 obtain ⟨u,r,l⟩:=hl i x v hN e hv
 have fin : EP X pins σ Q u s:=⟨v,H,I,r,h⟩
 rcases l with ⟨hk,hm⟩ | ⟨hk,c,hc,hcell⟩
 · exact wpAny_Name (wpAny_loadName_local I.ok.kind hk hn hm fin) hd
 · rcases hk with hk | hk
   · exact wpAny_Name (wpAny_loadName_cell I.ok.kind hk hc hcell fin) hd
   · exact wpAny_Name (wpAny_loadName_free I.ok.kind hk hc hcell fin hcd) hd
theorem pe_int {i j pos} : PE X (.Constant (.int i) j pos) (tC (.int i)):=fun _ _ _ H _ I h=>wpAny_Constant_int ⟨.int i,H,I.tok _,⟨_,rfl⟩,h⟩
theorem pe_bl {b j pos} : PE X (.Constant (.bool b) j pos) (tC (.bl b)):=fun _ _ _ H _ I h=>Constant_bool ⟨.bl b,H,I,rfl,h⟩
theorem pe_non {j pos} : PE X (.Constant .none j pos) (tC .non):=fun _ _ _ H _ I h=>Constant_none ⟨.non,H,I,rfl,h⟩
theorem pe_str {x j pos} : PE X (.Constant (.str x) j pos) (tC (.str x)):=fun _ _ _ H _ I h=>Calls.Constant_str ⟨.str x,H,I.tok _,⟨_,rfl⟩,h⟩
def Gl (X : Cx) (x : Str) : Prop:=X.env.kindOf x = some .globalImplicit
theorem ld_glob {E : Value → Shared → Prop} {pins : List (Addr × Obj)} {s : Shared} {σ : St} {H : Hp} {x : Str} {u : Value} {pos : Pos} {Q : Value → Shared → Prop} (I : Inv X pins σ H s) (hg : Gl X x) (hm : X.mg x = some u) (h : Q u s)
 (hd : (x == ("__debug__" : Str)) = false:=by decide) : wpAny (model X.prog X.w) X.A (eval (.Name x pos) X.env) Q E s :=
 Calls.Name_function_global I.ok.kind hg (Calls.loadGlobal_global (by rw [I.ok.glob]; exact I.mod.glob.keeps I.bk) hm h) hd
theorem ld_blt {E : Value → Shared → Prop} {pins : List (Addr × Obj)} {s : Shared} {σ : St} {H : Hp} {x : Str} {u : Value} {pos : Pos} {Q : Value → Shared → Prop} (I : Inv X pins σ H s) (hg : Gl X x) (hm : X.mg x = none) (hv : bootBuiltins x = some u) (h : Q u s)
 (hn : x ≠ "__name__":=by decide) (hd : (x == ("__debug__" : Str)) = false:=by decide) : wpAny (model X.prog X.w) X.A (eval (.Name x pos) X.env) Q E s:=by
 obtain ⟨mb,h1,h2⟩:=I.mod.blt
 exact Calls.Name_function_global I.ok.kind hg (Calls.loadGlobal_builtin (by rw [I.ok.glob]; exact I.mod.glob.keeps I.bk) hm (by rw [I.ok.blt]; exact h1.keeps I.bk) ((h2 x hn).trans hv) h) hd
theorem pe_glob {x : Str} {v : V} {u : Value} {pos : Pos} (hg : Gl X x) (hm : X.mg x = some u) (r : RelV v u) (hd : (x == ("__debug__" : Str)) = false:=by decide) : PE X (.Name x pos) (tC v) :=
 fun _ _ _ H _ I h=>ld_glob I hg hm ⟨v,H,I,r,h⟩ hd
theorem pe_bltn {x : Str} {v : V} {u : Value} {pos : Pos} (hg : Gl X x) (hm : X.mg x = none) (hv : bootBuiltins x = some u) (r : RelV v u) (hn : x ≠ "__name__":=by decide) (hd : (x == ("__debug__" : Str)) = false:=by decide) : PE X (.Name x pos) (tC v) :=
 fun _ _ _ H _ I h=>ld_blt I hg hm hv ⟨v,H,I,r,h⟩ hn hd
variable {a b : Expr} {ta tb : TE} {pos : Pos}
def PC (X : Cx) (op : CmpOp) (a b : Expr) (t : TE) : Prop :=
 ∀ (pins : List (Addr × Obj)) (s : Shared) (σ : St) (H : Hp) (Q : VK),Inv X pins σ H s → t σ H Q →
  wpAny (model X.prog X.w) X.A (eval a X.env) (fun v s₁=>wpAny (model X.prog X.w) X.A (eval b X.env) (fun u s₂=>wpAny (model X.prog X.w) X.A (compareOp op v u) (EP X pins σ Q) X.xe s₂) X.xe s₁) X.xe s
theorem nobehind (b : Expr) {op : CmpOp} (h : op ≠ .In) (h2 : op ≠ .NotIn) : behindInMarks op b = false:=by
 have e1 : (op == CmpOp.In) = false:=by cases op <;> first | rfl | exact absurd rfl h
 have e2 : (op == CmpOp.NotIn) = false:=by cases op <;> first | rfl | exact absurd rfl h2
 cases b <;> simp [behindInMarks,e1,e2]
def tIsN (ta : TE) : TE:=fun σ H Q=>ta σ H fun x H1=>Q (.bl (decide (x = .non))) H1
def tNotN (ta : TE) : TE:=fun σ H Q=>ta σ H fun x H1=>Q (.bl (!decide (x = .non))) H1
theorem RelV.none_iff {x : V} {v : Value} (r : RelV x v) : (v == Value.none) = decide (x = .non):=by
 cases x with
 | non=>cases r; rfl
 | bl _=>cases r; rfl
 | int _=>obtain ⟨t,rfl⟩:=r; rfl
 | str _=>obtain ⟨t,rfl⟩:=r; rfl
 | byt _=>obtain ⟨t,rfl⟩:=r; rfl
 | flt _=>obtain ⟨t,rfl⟩:=r; rfl
 | ref _=>cases r; rfl
 | ty _=>cases r; rfl
theorem pc_isN {j pos'} (ha : PE X a ta) : PC X .Is a (.Constant .none j pos') (tIsN ta):=by
 intro pins s σ H Q I h
 refine thn (ha pins s σ H _ I h) fun v s1 ⟨x,H1,I1,r1,q1⟩=>?_
 exact Constant_none (is_none_gen ⟨.bl _,H1,I1,by rw [r1.none_iff]; rfl,q1⟩)
theorem pc_notN {j pos'} (ha : PE X a ta) : PC X .IsNot a (.Constant .none j pos') (tNotN ta):=by
 intro pins s σ H Q I h
 refine thn (ha pins s σ H _ I h) fun v s1 ⟨x,H1,I1,r1,q1⟩=>?_
 exact Constant_none (isnot_none_gen ⟨.bl _,H1,I1,by rw [r1.none_iff]; rfl,q1⟩)
def tB (t : TE) : TT:=fun σ H Q=>t σ H fun x H1=>∃ c,x = .bl c ∧ Q c H1
theorem pe_cmp {op : CmpOp} {t : TE} (h : PC X op a b t) (h1 : behindInMarks op b = false:=by first | exact nobehind _ (by decide) (by decide) | rfl) : PE X (.Compare a [op] [b] pos) t:=fun pins s σ H Q I hw=>wpAny_Compare1 (h pins s σ H Q I hw) h1
theorem pt_cmp {op : CmpOp} {t : TE} (h : PC X op a b t) (h1 : behindInMarks op b = false:=by first | exact nobehind _ (by decide) (by decide) | rfl) : PT X (.Compare a [op] [b] pos) (tB t):=by
 intro pins s σ H Q I hw
 refine wpAny_isTrue_Compare1 (thn (h pins s σ H _ I hw) fun v s1 h1=>thn h1 fun u s2 h2=>thn h2 fun c s3 ⟨x,H1,I1,r1,q1⟩=>?_) h1
 obtain ⟨d,rfl,q⟩:=q1
 cases r1
 exact wpAny_truthy_bool ⟨H1,I1,q⟩
theorem pt_val {e : Expr} {t : TE} (h : PE X e t) (he : ∀ whole,isTrue e X.env whole = (do let v ← whole; standAt e.pos; holding [v] (truthy v)):=by intro _; rfl) : PT X e (tB t):=by
 intro pins s σ H Q I hw
 refine isTrue_plain (thn (h pins s σ H _ I hw) fun v s1 ⟨x,H1,I1,r1,q1⟩=>?_) (he _)
 obtain ⟨d,rfl,q⟩:=q1
 cases r1
 exact wpAny_truthy_bool ⟨H1,I1,q⟩
variable {tA tB' : TT} {rest : List Expr}
def tAnd (t u : TT) : TT:=fun σ H Q=>t σ H fun c H1=>if c = true then u σ H1 Q else Q false H1
def tOr (t u : TT) : TT:=fun σ H Q=>t σ H fun c H1=>if c = true then Q true H1 else u σ H1 Q
def tNot (t : TT) : TT:=fun σ H Q=>t σ H fun c H1=>Q (!c) H1
theorem pw_and1 (ha : PT X a tA) : PW X (.BoolOp .And [a] pos) tA:=by
 intro wh pins s σ H Q I h
 refine isTrue_and (thn (ha pins s σ H Q I h) fun c s1 e=>?_)
 cases c with
 | true=>exact isTrue_and_nil e
 | false=>exact e
theorem pw_or1 (ha : PT X a tA) : PW X (.BoolOp .Or [a] pos) tA:=by
 intro wh pins s σ H Q I h
 refine isTrue_or (thn (ha pins s σ H Q I h) fun c s1 e=>?_)
 cases c with
 | false=>exact isTrue_or_nil e
 | true=>exact e
theorem pw_and (ha : PT X a tA) (hb : PW X (.BoolOp .And (b :: rest) pos) tB') : PW X (.BoolOp .And (a :: b :: rest) pos) (tAnd tA tB'):=by
 intro wh pins s σ H Q I h
 refine isTrue_and (thn (ha pins s σ H _ I h) fun c s1 ⟨H1,I1,q1⟩=>?_)
 cases c with
 | true=>exact hb wh pins s1 σ H1 Q I1 q1
 | false=>exact ⟨H1,I1,q1⟩
theorem pw_or (ha : PT X a tA) (hb : PW X (.BoolOp .Or (b :: rest) pos) tB') : PW X (.BoolOp .Or (a :: b :: rest) pos) (tOr tA tB'):=by
 intro wh pins s σ H Q I h
 refine isTrue_or (thn (ha pins s σ H _ I h) fun c s1 ⟨H1,I1,q1⟩=>?_)
 cases c with
 | true=>exact ⟨H1,I1,q1⟩
 | false=>exact hb wh pins s1 σ H1 Q I1 q1
theorem pt_not (ha : PT X a tA) : PT X (.UnaryOp .Not a pos) (tNot tA):=by
 intro pins s σ H Q I h
 exact isTrue_not (ha pins s σ H (fun c H1=>Q (!c) H1) I h)
def tAndV (ta tb : TE) : TE:=fun σ H Q=>ta σ H fun x H1=>∃ c,x = .bl c ∧ if c = true then tb σ H1 Q else Q (.bl false) H1
def tOrV (ta tb : TE) : TE:=fun σ H Q=>ta σ H fun x H1=>∃ c,x = .bl c ∧ if c = true then Q (.bl true) H1 else tb σ H1 Q
def tNotV (ta : TE) : TE:=fun σ H Q=>ta σ H fun x H1=>∃ c,x = .bl c ∧ Q (.bl (!c)) H1
theorem pe_one {op} {t : TE} (h : PE X a t) : PE X (.BoolOp op [a] pos) t:=fun pins s σ H Q I hw=>BoolOp_one (h pins s σ H Q I hw)
theorem pe_and (ha : PE X a ta) (hb : PE X (.BoolOp .And (b :: rest) pos) tb) : PE X (.BoolOp .And (a :: b :: rest) pos) (tAndV ta tb):=by
 intro pins s σ H Q I h
 refine BoolOp_and (thn (ha pins s σ H _ I h) fun v s1 ⟨x,H1,I1,r1,q1⟩=>?_)
 obtain ⟨c,rfl,q1⟩:=q1
 cases r1
 refine wpAny_truthy_bool ?_
 cases c with
 | true=>exact hb pins s1 σ H1 Q I1 q1
 | false=>exact ⟨.bl false,H1,I1,rfl,q1⟩
theorem pe_or (ha : PE X a ta) (hb : PE X (.BoolOp .Or (b :: rest) pos) tb) : PE X (.BoolOp .Or (a :: b :: rest) pos) (tOrV ta tb):=by
 intro pins s σ H Q I h
 refine BoolOp_or (thn (ha pins s σ H _ I h) fun v s1 ⟨x,H1,I1,r1,q1⟩=>?_)
 obtain ⟨c,rfl,q1⟩:=q1
 cases r1
 refine wpAny_truthy_bool ?_
 cases c with
 | false=>exact hb pins s1 σ H1 Q I1 q1
 | true=>exact ⟨.bl true,H1,I1,rfl,q1⟩
theorem pe_not (ha : PE X a ta) : PE X (.UnaryOp .Not a pos) (tNotV ta):=by
 intro pins s σ H Q I h
 refine UnaryOp_ (thn (ha pins s σ H _ I h) fun v s1 ⟨x,H1,I1,r1,q1⟩=>?_)
 obtain ⟨c,rfl,q1⟩:=q1
 cases r1
 exact not_of (wpAny_truthy_bool ⟨.bl (!c),H1,I1,rfl,q1⟩)
def tIf (t : TT) (ta tb : TE) : TE:=fun σ H Q=>t σ H fun c H1=>if c = true then ta σ H1 Q else tb σ H1 Q
theorem pe_ifExp {c : Expr} (hc : PT X c tA) (ha : PE X a ta) (hb : PE X b tb) : PE X (.IfExp c a b pos) (tIf tA ta tb):=by
 intro pins s σ H Q I h
 refine wpAny_IfExp (thn (hc pins s σ H _ I h) fun d s1 ⟨H1,I1,q1⟩=>?_)
 cases d with
 | true=>exact ha pins s1 σ H1 Q I1 q1
 | false=>exact hb pins s1 σ H1 Q I1 q1
end
end L2
namespace L2
open PySem PySem.Spec PyProof.Rows
def SqL (K : PySem.W.Frag) (H : Hp) (a : Addr) (xs : List V) : Prop :=
 Rd H a (.lst xs) ∨
  ∃ (o : Obj) (its : Array Value) (n : Nat),K.lookup a = some o ∧ o.cls = .type "list" ∧ o.dict = none ∧ o.data = .seq its n ∧ its.size ≤ sizeLine ∧ Vals xs its.toList
def SqT (K : PySem.W.Frag) (H : Hp) (a : Addr) (xs : List V) : Prop :=
 Rd H a (.tup xs) ∨
  ∃ (o : Obj) (its : Array Value) (n : Nat),K.lookup a = some o ∧ o.cls = .type "tuple" ∧ o.data = .seq its n ∧ its.size ≤ sizeLine ∧ Vals xs its.toList
def absV : Value → Option V
 | .none=>some .non
 | .bool b=>some (.bl b)
 | .int i _=>some (.int i)
 | .str x _=>some (.str x)
 | .bytes b _=>some (.byt b)
 | .float b _=>some (.flt b)
 | .ref a=>some (.ref a)
 | .type n=>some (.ty n)
 | _=>none
theorem RelV.abs {x : V} {u : Value} (r : RelV x u) : absV u = some x:=by
 cases x with
 | non=>cases r; rfl
 | bl _=>cases r; rfl
 | int _=>obtain ⟨t,rfl⟩:=r; rfl
 | str _=>obtain ⟨t,rfl⟩:=r; rfl
 | byt _=>obtain ⟨t,rfl⟩:=r; rfl
 | flt _=>obtain ⟨t,rfl⟩:=r; rfl
 | ref _=>cases r; rfl
 | ty _=>cases r; rfl
theorem RelV.inj {x y : V} {u : Value} (r : RelV x u) (q : RelV y u) : x = y:=Option.some.inj (r.abs.symm.trans q.abs)
theorem Vals.inj : ∀ {xs ys : List V} {us : List Value},Vals xs us → Vals ys us → xs = ys
 | _,_,_,.nil,.nil=>rfl
 | _,_,_,.cons r t,.cons r' t'=>by rw [r.inj r',Vals.inj t t']
section
variable {X : Cx} {pins : List (Addr × Obj)} {σ : St} {H : Hp} {s : Shared} {a : Addr} {xs ys : List V}
theorem SqL.of {K : PySem.W.Frag} (h : H a = some (.lst xs)) : SqL K H a xs:=.inl (.inl h)
theorem SqT.of {K : PySem.W.Frag} (h : H a = some (.tup xs)) : SqT K H a xs:=.inl (.inl h)
theorem Inv.list (I : Inv X pins σ H s) (h : SqL X.K H a xs) : ∃ its : List Value,Vals xs its ∧ PlainL s.heap a its.toArray ∧ xs.length ≤ sizeLine:=by
 rcases h with h | ⟨o,its,n,hk,hc,hd,hs,hz,r⟩
 · obtain ⟨z,its,n,r,e⟩:=h.ok I.hok
   exact ⟨its,r,⟨_,n,e,rfl,rfl,rfl⟩,z⟩
 · refine ⟨its.toList,r,⟨o,n,I.kIn a o hk,hc,hd,by simpa using hs⟩,?_⟩
   have e:=r.length
   simp only [Array.length_toList] at e
   omega
theorem Inv.tuple (I : Inv X pins σ H s) (h : SqT X.K H a xs) : ∃ its : List Value,Vals xs its ∧ IsTup s.heap a its.toArray ∧ xs.length ≤ sizeLine:=by
 rcases h with h | ⟨o,its,n,hk,hc,hs,hz,r⟩
 · obtain ⟨z,its,r,p⟩:=h.ok I.hok
   exact ⟨its,r,p,z⟩
 · refine ⟨its.toList,r,⟨o,I.kIn a o hk,hc,n,by simpa using hs⟩,?_⟩
   have e:=r.length
   simp only [Array.length_toList] at e
   omega
theorem Inv.list_inj (I : Inv X pins σ H s) (h : SqL X.K H a xs) (h' : SqL X.K H a ys) : xs = ys:=by
 obtain ⟨its,r,⟨o,n,e,_,_,d⟩,_⟩:=I.list h
 obtain ⟨its',r',⟨o',n',e',_,_,d'⟩,_⟩:=I.list h'
 rw [e] at e'; cases e'
 rw [d] at d'
 injection d' with d1 _
 have : its = its':=by simpa using congrArg Array.toList d1
 subst this
 exact r.inj r'
theorem Inv.tuple_inj (I : Inv X pins σ H s) (h : SqT X.K H a xs) (h' : SqT X.K H a ys) : xs = ys:=by
 obtain ⟨its,r,⟨o,e,_,n,d⟩,_⟩:=I.tuple h
 obtain ⟨its',r',⟨o',e',_,n',d'⟩,_⟩:=I.tuple h'
 rw [e] at e'; cases e'
 rw [d] at d'
 injection d' with d1 _
 have : its = its':=by simpa using congrArg Array.toList d1
 subst this
 exact r.inj r'
end
abbrev Cx.wish (X : Cx) (E : Value → Shared → Prop) : Cx:={ X with xe:=E }
abbrev Cx.nox (X : Cx) : Cx:=X.wish fun _ _=>False
theorem Cx.Ok.wish {X : Cx} (ok : X.Ok) (E : Value → Shared → Prop) : (X.wish E).Ok :=
 ⟨ok.mod,ok.kind,ok.glob,ok.blt,ok.above,ok.inj,ok.has,ok.cab,ok.hd,ok.frames,ok.stk,ok.exf,ok.bs,ok.bsz,ok.noex,ok.exfs,ok.funs,ok.frf⟩
theorem Cx.Ok.unwish {X : Cx} {E : Value → Shared → Prop} (ok : (X.wish E).Ok) : X.Ok :=
 ⟨ok.mod,ok.kind,ok.glob,ok.blt,ok.above,ok.inj,ok.has,ok.cab,ok.hd,ok.frames,ok.stk,ok.exf,ok.bs,ok.bsz,ok.noex,ok.exfs,ok.funs,ok.frf⟩
section
variable {X : Cx} {pins : List (Addr × Obj)} {σ : St} {H : Hp} {s : Shared} {E : Value → Shared → Prop}
theorem Inv.wish (I : Inv X pins σ H s) (E : Value → Shared → Prop) : Inv (X.wish E) pins σ H s:=⟨I.ok.wish E,I.os,I.bare,I.base,I.loc,I.cell,I.free,I.freeC,I.pin,I.hok,I.len⟩
theorem Inv.unwish (I : Inv (X.wish E) pins σ H s) : Inv X pins σ H s:=⟨I.ok.unwish,I.os,I.bare,I.base,I.loc,I.cell,I.free,I.freeC,I.pin,I.hok,I.len⟩
theorem SP.unwish {D : Ends} {f : Flow} {s' : Shared} (h : SP (X.wish E) pins D f s') : SP X pins D f s':=by
 cases f with
 | next=>obtain ⟨σ',H',I,q⟩:=h; exact ⟨σ',H',I.unwish,q⟩
 | brk=>obtain ⟨σ',H',I,q⟩:=h; exact ⟨σ',H',I.unwish,q⟩
 | cont=>obtain ⟨σ',H',I,q⟩:=h; exact ⟨σ',H',I.unwish,q⟩
 | ret u=>obtain ⟨v,σ',H',I,r,q⟩:=h; exact ⟨v,σ',H',I.unwish,r,q⟩
theorem PSs.nox {st : List Stmt} {t : TS} (h : PSs X.nox st t) : PSs X st t:=fun pins s σ H D I hw =>
 wpAny_mono (h pins s σ H D (I.wish _) hw) (fun _ _ q=>q.unwish) fun _ _ z=>False.elim z
end
section
variable {X : Cx} {st : Stmt} {rest : List Stmt} {t u : TS} {e : Expr} {te : TE} {pos : Pos}
def tNext : TS:=fun D σ H=>D.nx σ H
def tSeq (t u : TS) : TS:=fun D σ H=>t { D with nx:=u D } σ H
theorem pss_nil : PSs X [] tNext:=fun _ _ σ H _ I h=>wpAny_execs_nil ⟨σ,H,I,h⟩
theorem pss_cons (h1 : PS X st t) (h2 : PSs X rest u) : PSs X (st :: rest) (tSeq t u):=by
 intro pins s σ H D I h
 refine wpAny_execs_cons (thn (h1 pins s σ H { D with nx:=u D } I h) fun f s1 q=>?_)
 cases f with
 | next =>
  obtain ⟨σ',H',I',q⟩:=q
  exact h2 pins s1 σ' H' D I' q
 | ret v=>exact q
 | brk=>exact q
 | cont=>exact q
theorem pss_one (h1 : PS X st t) : PSs X [st] t:=by
 intro pins s σ H D I h
 refine wpAny_execs_cons (thn (h1 pins s σ H D I h) fun f s1 q=>?_)
 cases f with
 | next=>exact wpAny_execs_nil q
 | ret v=>exact q
 | brk=>exact q
 | cont=>exact q
theorem Inv.quiet {pins : List (Addr × Obj)} {σ : St} {H : Hp} {s : Shared} (I : Inv X pins σ H s) : interactive X.env = false:=by simp [interactive,I.ok.kind]
def tDrop (te : TE) : TS:=fun D σ H=>te σ H fun _ H1=>D.nx σ H1
theorem ps_expr (he : PE X e te) (hs : swapsWith e none pos.line X.env = pure false:=by rfl) : PS X (.Expr e pos) (tDrop te):=by
 intro pins s σ H D I h
 exact wpAny_Expr_any (thn (he pins s σ H _ I h) fun v s1 ⟨x,H1,I1,r1,q1⟩=>⟨σ,H1,I1,q1⟩) I.quiet hs
def tRet (te : TE) : TS:=fun D σ H=>te σ H D.rt
theorem ps_ret (he : PE X e te) : PS X (.Return (some e) pos) (tRet te):=by
 intro pins s σ H D I h
 exact wpAny_Return_some (thn (he pins s σ H _ I h) fun v s1 ⟨x,H1,I1,r1,q1⟩=>⟨x,σ,H1,I1,r1,q1⟩)
def tIfS (c : TT) (t u : TS) : TS:=fun D σ H=>c σ H fun b H1=>if b = true then t D σ H1 else u D σ H1
theorem ps_if {c : Expr} {a b : List Stmt} {tc : TT} (hc : PT X c tc) (ha : PSs X a t) (hb : PSs X b u) : PS X (.If c a b pos) (tIfS tc t u):=by
 intro pins s σ H D I h
 refine wpAny_If (thn (hc pins s σ H _ I h) fun d s1 ⟨H1,I1,q1⟩=>?_)
 cases d with
 | true=>exact ha pins s1 σ H1 D I1 q1
 | false=>exact hb pins s1 σ H1 D I1 q1
def tNever : TS:=fun _ _ _=>False
theorem ps_never : PS X st tNever:=fun _ _ _ _ _ _ h=>h.elim
end
abbrev TG:=V → St → Hp → (St → Hp → Prop) → Prop
abbrev TGs:=List V → St → Hp → (St → Hp → Prop) → Prop
def PG (X : Cx) (target : Expr) (t : TG) : Prop :=
 ∀ (pins : List (Addr × Obj)) (s : Shared) (σ : St) (H : Hp) (v : V) (u : Value) (Q : St → Hp → Prop),Inv X pins σ H s → RelV v u → t v σ H Q →
  wpAny (model X.prog X.w) X.A (assign target X.env u) (fun _ s'=>∃ σ' H',Inv X pins σ' H' s' ∧ Q σ' H') X.xe s
def PGs (X : Cx) (ts : List Expr) (t : TGs) : Prop :=
 ∀ (pins : List (Addr × Obj)) (s : Shared) (σ : St) (H : Hp) (vs : List V) (us : List Value) (Q : St → Hp → Prop),Inv X pins σ H s → Vals vs us → t vs σ H Q →
  wpAny (model X.prog X.w) X.A (assignInOrder ((assignEach ts X.env).map (·.2)) us) (fun _ s'=>∃ σ' H',Inv X pins σ' H' s' ∧ Q σ' H') X.xe s
abbrev TSet:=V → V → V → Hp → (Hp → Prop) → Prop
def PSet (X : Cx) (t : TSet) : Prop :=
 ∀ (pins : List (Addr × Obj)) (s : Shared) (σ : St) (H : Hp) (o i v : V) (ov iv u : Value) (Q : Hp → Prop),Inv X pins σ H s → RelV o ov → RelV i iv → RelV v u → t o i v H Q →
  wpAny (model X.prog X.w) X.A (setItem ov iv u) (fun _ s'=>∃ H',Inv X pins σ H' s' ∧ Q H') X.xe s
section
variable {X : Cx} {pos : Pos}
def gName (i : Nat) : TG:=fun v σ H Q=>Q (σ.set i (some v)) H
theorem pg_name {i : Nat} {x : Str} (hN : X.N.Nodup) (hi : X.N[i]? = some x) (hx : Loc X.env.scope x) (hf : X.fn x = true ∨ X.env.scope.names.lookup x = some .local:=by first | exact .inl rfl | exact .inr rfl | assumption) : PG X (.Name x pos) (gName i):=by
 intro pins s σ H v u Q I r h
 exact wpAny_assign_Name (store_ok I hN hi hx r (fun s' I'=>⟨_,H,I',h⟩) hf)
def gNil : TGs:=fun vs σ H Q=>vs = [] ∧ Q σ H
def gCons (t : TG) (u : TGs) : TGs:=fun vs σ H Q=>∃ v r,vs = v :: r ∧ t v σ H fun σ' H'=>u r σ' H' Q
theorem pgs_nil : PGs X [] gNil:=by
 intro pins s σ H vs us Q I r h
 obtain ⟨e,h⟩:=h
 subst e
 cases r
 exact assignInOrder_nil ⟨σ,H,I,h⟩
theorem pgs_cons {e : Expr} {es : List Expr} {t : TG} {u : TGs} (h1 : PG X e t) (h2 : PGs X es u)
 (hs : (assignEach (e :: es) X.env).map (·.2) = assign e X.env :: (assignEach es X.env).map (·.2):=by rfl) : PGs X (e :: es) (gCons t u):=by
 intro pins s σ H vs us Q I r h
 obtain ⟨v,vr,e1,h⟩:=h
 subst e1
 cases r with
 | cons r rr =>
  rw [hs]
  refine assignInOrder_cons (thn (h1 pins s σ H _ _ _ I r h) fun _ s1 ⟨σ1,H1,I1,q1⟩=>?_)
  exact h2 pins s1 σ1 H1 _ _ Q I1 rr q1
def gTup (K : PySem.W.Frag) (n : Nat) (t : TGs) : TG:=fun v σ H Q=>∃ a xs,v = .ref a ∧ SqT K H a xs ∧ xs.length = n ∧ t xs σ H Q
theorem pg_tup {es : List Expr} {k : Nat} {t : TGs} {n : Nat} (hc : X.calm = true) (h : PGs X es t)
 (hn : (assignEach es X.env).length = n:=by rfl) (hst : (assignEach es X.env).findIdx? (·.1) = none:=by rfl) : PG X (.Tuple es k pos) (gTup X.K n t):=by
 intro pins s σ H v u Q I r hw
 obtain ⟨a,xs,e1,hq,hl,hw⟩:=hw
 subst e1
 cases r
 obtain ⟨its,rv,ht,hz⟩:=I.tuple hq
 refine assign_Tuple_tuple (I.ok.hd hc) ht (by simp [hn,← hl,rv.length]) hst fun h' hx=>?_
 have I1 : Inv X pins σ H { s with heap:=h' }:=I.kept (t':=s.toks) fun b o e=>hx b o (Nat.ne_of_lt (Heap.lt_size e)) e
 exact h pins _ σ H xs _ Q I1 (by simpa using rv) hw
def gSub (to ti : TE) (t : TSet) : TG:=fun v σ H Q=>to σ H fun o H1=>ti σ H1 fun i H2=>t o i v H2 fun H3=>Q σ H3
theorem pg_sub {o i : Expr} {to ti : TE} {t : TSet} (ho : PE X o to) (hi : PE X i ti) (hs : PSet X t)
 (ha : ∀ v,assign (.Subscript o i pos) X.env v = (do
  let ov ← holding [v] (eval o X.env)
  let iv ← holding [v,ov] (eval i X.env)
  standAt pos
  holding [v,ov,iv] (setItem ov iv v)
  release [v,ov,iv] []):=by intro _; rfl) : PG X (.Subscript o i pos) (gSub to ti t):=by
 intro pins s σ H v u Q I r h
 rw [ha]
 refine wpAny_bind (wpAny_holding (thn (ho pins s σ H _ I h) fun ov s1 ⟨x,H1,I1,r1,q1⟩=>?_))
 refine wpAny_bind (wpAny_holding (thn (hi pins s1 σ H1 _ I1 q1) fun iv s2 ⟨y,H2,I2,r2,q2⟩=>?_))
 refine wpAny_bind (wpAny_standAt (wpAny_bind (wpAny_holding (thn (hs pins s2 σ H2 x y v ov iv u _ I2 r1 r2 r q2) fun _ s3 ⟨H3,I3,q3⟩=>?_))))
 exact wpAny_release ⟨σ,H3,I3,q3⟩
def tAsg (te : TE) (g : TG) : TS:=fun D σ H=>te σ H fun x H1=>g x σ H1 D.nx
theorem ps_asg {tg e : Expr} {te : TE} {g : TG} (he : PE X e te) (hg : PG X tg g) (hs : swapsWithSole [tg] e pos.line X.env = pure false:=by rfl) (hw : swappedStores [tg] e X.env = pure none:=by rfl)
 (h1 : (assignEach [tg] X.env).map (·.2) = [assign tg X.env]:=by rfl) : PS X (.Assign [tg] e pos) (tAsg te g):=by
 intro pins s σ H D I h
 refine wpAny_Assign_stores (thn (he pins s σ H _ I h) fun v s1 ⟨x,H1,I1,r1,q1⟩=>?_) hs hw
 rw [h1]
 exact thn (hg pins s1 σ H1 x v _ I1 r1 q1) fun _ s2 q=>q
theorem ps_set {i : Nat} {x : Str} {e : Expr} {te : TE} {pos' : Pos} (hN : X.N.Nodup) (hi : X.N[i]? = some x) (hx : Loc X.env.scope x) (he : PE X e te) (hs : swapsWith e (some (.Name x pos')) pos.line X.env = pure false:=by rfl) (hf : X.fn x = true ∨ X.env.scope.names.lookup x = some .local:=by first | exact .inl rfl | exact .inr rfl | assumption) :
 PS X (.Assign [.Name x pos'] e pos) (tAsg te (gName i)):=by
 intro pins s σ H D I h
 refine wpAny_Assign_Name (thn (he pins s σ H _ I h) fun v s1 ⟨y,H1,I1,r1,q1⟩=>?_) hs
 exact store_ok I1 hN hi hx r1 (fun s2 I2=>⟨_,H1,I2,q1⟩) hf
end
section
variable {X : Cx} {pos : Pos}
end
structure It where
 go : Nat → Hp → Prop
 yld : Nat → Hp → V → Hp → Prop
 stop : Nat → Hp → Prop
def FpOk (X : Cx) (pins : List (Addr × Obj)) (H : Hp) (b : Addr) : Prop :=
 H b = none ∧ b ≠ X.env.locals ∧ b ∉ X.fs ∧ (b ∈ X.ex ∨ X.s₀.heap.objs.size ≤ b) ∧ (∀ x c,X.env.cells.lookup x = some c → c ≠ b) ∧ ∀ p ∈ X.pn ++ pins,p.1 ≠ b
theorem Inv.fpOk {X : Cx} {pins : List (Addr × Obj)} {σ : St} {H H' : Hp} {s : Shared} {b : Addr} (I : Inv X pins σ H s) (hb : s.heap.objs.size ≤ b) (hn : H' b = none) : FpOk X pins H' b:=by
 refine ⟨hn,Nat.ne_of_gt (Nat.lt_of_lt_of_le I.lt hb),I.nofs hb,.inr (Nat.le_trans I.sz hb),fun x c e z=>?_,fun p hp z=>?_⟩
 · obtain ⟨v,q⟩:=I.cell x c e
   exact absurd (Nat.lt_of_lt_of_le q.lt (by rw [z]; exact hb)) (Nat.lt_irrefl _)
 · exact absurd (Nat.lt_of_lt_of_le (Heap.lt_size (I.pin p hp).1) (by rw [z]; exact hb)) (Nat.lt_irrefl _)
structure Turn (P : Program) (w : World) (K : PySem.W.Frag) (tg : Expr) (J : It) (fp : List Addr) (it : Addr) (tn : Nat → Heap → Prop) : Prop where
 mem : it ∈ fp
 obj : ∀ i h,tn i h → ∀ b ∈ fp,∃ o,h.get? b = some o ∧ ∀ v,o.data ≠ .cell v
 keep : ∀ i h h',tn i h → (∀ b ∈ fp,∀ o,h.get? b = some o → h'.get? b = some o) → tn i h'
 item : ∀ (X : Cx),X.prog = P → X.w = w → X.K = K → X.calm = true → ∀ (i : Nat) (pins : List (Addr × Obj)) (s : Shared) (σ : St) (H : Hp) (E : Value → Shared → Prop),Inv X pins σ H s → (∀ b ∈ fp,FpOk X pins H b) → tn i s.heap → J.go i H →
  wpAny (model P w) X.A (pyNext (.ref it)) (fun r s1=>∃ u,r = some u ∧
   wpAny (model P w) X.A (letOwnedTupleGo tg (.ref it) u) (fun _ s2=>∃ x H',Inv X pins σ H' s2 ∧ RelV x u ∧ J.yld i H x H' ∧ tn (i + 1) s2.heap ∧ ∀ b ∈ fp,H' b = none) E s1) E s
 done : ∀ (X : Cx),X.prog = P → X.w = w → X.K = K → X.calm = true → ∀ (i : Nat) (pins : List (Addr × Obj)) (s : Shared) (σ : St) (H : Hp) (E : Value → Shared → Prop),Inv X pins σ H s → (∀ b ∈ fp,FpOk X pins H b) → tn i s.heap → J.stop i H →
  wpAny (model P w) X.A (pyNext (.ref it)) (fun r s1=>r = none ∧ Inv X pins σ H s1) E s
 self : ∀ (A : Around) (i : Nat) (s : Shared) (Q : Value → Shared → Prop) (E : Value → Shared → Prop),tn i s.heap → Q (.ref it) s → wpAny (model P w) A (pyIter (.ref it)) Q E s
abbrev TI:=St → Hp → (It → Hp → Prop) → Prop
def PIE (X : Cx) (pins : List (Addr × Obj)) (σ : St) (tg : Expr) (R : It → Hp → Prop) (itv : Value) (s2 : Shared) : Prop :=
 ∃ (it : Addr) (fp : List Addr) (tn : Nat → Heap → Prop) (J : It) (H' : Hp),itv = .ref it ∧ Inv X pins σ H' s2 ∧ Turn X.prog X.w X.K tg J fp it tn ∧ tn 0 s2.heap ∧ (∀ b ∈ fp,FpOk X pins H' b) ∧ R J H'
def PI (X : Cx) (tg iter : Expr) (wi : TI) : Prop :=
 ∀ (pins : List (Addr × Obj)) (s : Shared) (σ : St) (H : Hp) (R : It → Hp → Prop),Inv X pins σ H s → wi σ H R →
  wpAny (model X.prog X.w) X.A (eval iter X.env) (fun v s1=>wpAny (model X.prog X.w) X.A (pyIter v) (PIE X pins σ tg R) X.xe s1) X.xe s
theorem go_of {M : Model} {A : Around} {E : Value → Shared → Prop} {s : Shared} {tg : Expr} {it : Addr} {u : Value} {o : Obj} {n : String} {vs : Array Value} {Q : Unit → Shared → Prop} (ho : s.heap.get? it = some o) (hc : o.cls = .type n) (hd : o.data = .fields vs)
 (hn : ["enumerate", "zip", "dict_itemiterator", "dict_reverseitemiterator", "odict_iterator", "itertools.zip_longest", "itertools.pairwise"].contains n = false) (hQ : Q () s) : wpAny M A (letOwnedTupleGo tg (.ref it) u) Q E s:=by
 unfold letOwnedTupleGo
 cases tg <;> first
  | exact wpAny_pure hQ
  | (cases u <;> first
      | exact wpAny_pure hQ
      | (refine wpAny_bind (wpAny_load ho ?_)
         rw [hc,hd]
         show wpAny M A (if (["enumerate", "zip", "dict_itemiterator", "dict_reverseitemiterator", "odict_iterator", "itertools.zip_longest", "itertools.pairwise"].contains n && vs[0]? == some (rawInt _)) = true then _ else _) Q E s
         rw [if_neg (by intro h; rw [hn,Bool.false_and] at h; cases h)]
         exact wpAny_pure hQ))
def Itl (K : PySem.W.Frag) (a : Addr) : It :=
 ⟨fun i H=>∃ xs x,SqL K H a xs ∧ xs[i]? = some x,fun i H x H'=>H' = H ∧ ∀ xs,SqL K H a xs → xs[i]? = some x,fun i H=>∃ xs,SqL K H a xs ∧ xs.length ≤ i⟩
def Itt (K : PySem.W.Frag) (a : Addr) : It :=
 ⟨fun i H=>∃ xs x,SqT K H a xs ∧ xs[i]? = some x,fun i H x H'=>H' = H ∧ ∀ xs,SqT K H a xs → xs[i]? = some x,fun i H=>∃ xs,SqT K H a xs ∧ xs.length ≤ i⟩
def Itr (lo : Int) (n : Nat) : It:=⟨fun i _=>i < n,fun i H x H'=>H' = H ∧ x = .int (lo + i),fun i _=>n ≤ i⟩
theorem turn_list {P : Program} {w : World} {K : PySem.W.Frag} {tg : Expr} (a it : Addr) : Turn P w K tg (Itl K a) [it] it (fun i h=>h.IsListIter it a i) where
 mem:=by simp
 obj:=fun i h st b hb=>by
  have e : b = it:=by simpa using hb
  subst e
  obtain ⟨o,e,c,d⟩:=st
  exact ⟨o,e,fun v z=>by rw [d] at z; cases z⟩
 keep:=fun i h h' st k=>st.at fun o e=>k it (by simp) o e
 item:=by
  intro X hP hw hK hc i pins s σ H E I hf st hg
  subst hP hw hK
  obtain ⟨xs,x,hq,hx⟩:=hg
  obtain ⟨its,rv,p,hz⟩:=I.list hq
  obtain ⟨u,hu,ru⟩:=rv.get hx
  obtain ⟨f0,f1,f2,f3,f4,f5⟩:=hf it (by simp)
  refine wpAny_pyNext_list_item st p.isList (x:=u) (by simpa using hu) fun h' st' sb=>?_
  have I1 : Inv X pins σ H { s with heap:=h' }:=I.turned (t':=s.toks) (fun b o hb e=>(sb.2 b hb).trans e) f0 f1 f3 f4 f5
  obtain ⟨o,e,c,d⟩:=id st'
  exact ⟨u,rfl,go_of (s:={ s with heap:=h' }) e c d (by decide) ⟨x,H,I1,ru,⟨rfl,fun ys hy=>by rw [I.list_inj hy hq]; exact hx⟩,st',fun b hb=>(hf b hb).1⟩⟩
 done:=by
  intro X hP hw hK hc i pins s σ H E I hf st hg
  subst hP hw hK
  obtain ⟨xs,hq,hx⟩:=hg
  obtain ⟨its,rv,p,hz⟩:=I.list hq
  obtain ⟨f0,f1,f2,f3,f4,f5⟩:=hf it (by simp)
  have hl:=rv.length
  exact wpAny_pyNext_list_end (I.ok.hd hc) st p.isList (by simp; omega) fun h' eb=>⟨rfl,I.turned (t':=s.toks) (fun b o hb e=>eb b o hb e) f0 f1 f3 f4 f5⟩
 self:=fun _ _ _ _ _ st h=>wpAny_pyIter_listiter st h
theorem turn_tuple {P : Program} {w : World} {K : PySem.W.Frag} {tg : Expr} (a it : Addr) : Turn P w K tg (Itt K a) [it] it (fun i h=>h.IsTupleIter it a i) where
 mem:=by simp
 obj:=fun i h st b hb=>by
  have e : b = it:=by simpa using hb
  subst e
  obtain ⟨o,e,c,d⟩:=st
  exact ⟨o,e,fun v z=>by rw [d] at z; cases z⟩
 keep:=fun i h h' st k=>st.at fun o e=>k it (by simp) o e
 item:=by
  intro X hP hw hK hc i pins s σ H E I hf st hg
  subst hP hw hK
  obtain ⟨xs,x,hq,hx⟩:=hg
  obtain ⟨its,rv,p,hz⟩:=I.tuple hq
  obtain ⟨u,hu,ru⟩:=rv.get hx
  obtain ⟨f0,f1,f2,f3,f4,f5⟩:=hf it (by simp)
  refine wpAny_pyNext_tuple_item st (show s.heap.IsTuple a its.toArray from p) (x:=u) (by simpa using hu) fun h' st' sb=>?_
  have I1 : Inv X pins σ H { s with heap:=h' }:=I.turned (t':=s.toks) (fun b o hb e=>(sb.2 b hb).trans e) f0 f1 f3 f4 f5
  obtain ⟨o,e,c,d⟩:=id st'
  exact ⟨u,rfl,go_of (s:={ s with heap:=h' }) e c d (by decide) ⟨x,H,I1,ru,⟨rfl,fun ys hy=>by rw [I.tuple_inj hy hq]; exact hx⟩,st',fun b hb=>(hf b hb).1⟩⟩
 done:=by
  intro X hP hw hK hc i pins s σ H E I hf st hg
  subst hP hw hK
  obtain ⟨xs,hq,hx⟩:=hg
  obtain ⟨its,rv,p,hz⟩:=I.tuple hq
  obtain ⟨f0,f1,f2,f3,f4,f5⟩:=hf it (by simp)
  have hl:=rv.length
  exact wpAny_pyNext_tuple_end (I.ok.hd hc) st (show s.heap.IsTuple a its.toArray from p) (by simp; omega) fun h' eb=>⟨rfl,I.turned (t':=s.toks) (fun b o hb e=>eb b o hb e) f0 f1 f3 f4 f5⟩
 self:=fun _ _ _ _ _ st h=>wpAny_pyIter_tupleiter st h
theorem turn_range {P : Program} {w : World} {K : PySem.W.Frag} {tg : Expr} (it : Addr) (lo : Int) (n : Nat) : Turn P w K tg (Itr lo n) [it] it (fun i h=>IsRangeIter h it (lo + (i : Nat) * 1) ((n : Int) - (i : Nat)) 1) where
 mem:=by simp
 obj:=fun i h st b hb=>by
  have e : b = it:=by simpa using hb
  subst e
  exact ⟨_,st,fun v z=>by
   have z' : Data.fields _ = Data.cell v:=z
   cases z'⟩
 keep:=fun i h h' st k=>k it (by simp) _ st
 item:=by
  intro X hP hw hK hc i pins s σ H E I hf st hg
  subst hP hw hK
  obtain ⟨f0,f1,f2,f3,f4,f5⟩:=hf it (by simp)
  have W:=Walks.range (prog:=X.prog) (w:=X.w) (I.ok.hd hc) it lo 1 n
  refine W.item i s _ _ hg st fun v h' tk hv st' kk=>?_
  obtain ⟨t,rfl⟩:=hv
  have I1 : Inv X pins σ H { s with heap:=h',toks:=tk }:=I.turned (fun b o hb e=>kk b o (by simpa using hb) e) f0 f1 f3 f4 f5
  refine ⟨_,rfl,go_of (s:={ s with heap:=h',toks:=tk }) (n:="range_iterator") st' rfl rfl (by decide) ⟨.int (lo + i),H,I1,⟨t,?_⟩,⟨rfl,rfl⟩,st',fun b hb=>(hf b hb).1⟩⟩
  rw [Int.mul_one]
 done:=by
  intro X hP hw hK hc i pins s σ H E I hf st hg
  subst hP hw hK
  obtain ⟨f0,f1,f2,f3,f4,f5⟩:=hf it (by simp)
  exact wpAny_pyNext_range_end (I.ok.hd hc) st (by have : n ≤ i:=hg; omega) fun h' eb=>⟨rfl,I.turned (t':=s.toks) (fun b o hb e=>eb b o hb e) f0 f1 f3 f4 f5⟩
 self:=fun _ _ _ _ _ st h=>wpAny_pyIter_rangeiter st h
end L2
namespace L2
open PySem PySem.Spec PyProof.Rows
section
variable {X : Cx} {tg : Expr}
def iList (K : PySem.W.Frag) (tl : TE) : TI:=fun σ H R=>tl σ H fun x H1=>∃ a,x = .ref a ∧ (∃ xs,SqL K H1 a xs) ∧ R (Itl K a) H1
def iTup (K : PySem.W.Frag) (tl : TE) : TI:=fun σ H R=>tl σ H fun x H1=>∃ a,x = .ref a ∧ (∃ xs,SqT K H1 a xs) ∧ R (Itt K a) H1
theorem pi_list {l : Expr} {tl : TE} (hl : PE X l tl) : PI X tg l (iList X.K tl):=by
 intro pins s σ H R I h
 refine thn (hl pins s σ H _ I h) fun v s1 ⟨x,H1,I1,r1,q1⟩=>?_
 obtain ⟨a,e,⟨xs,hq⟩,q⟩:=q1
 subst e
 cases r1
 obtain ⟨its,rv,p,hz⟩:=I1.list hq
 refine wpAny_pyIter_list p.isList ?_
 refine ⟨s1.heap.objs.size,[s1.heap.objs.size],_,_,H1,rfl,I1.kept (t':=s1.toks) fun b o e=>Heap.get?_push_of_some _ e,turn_list a _,⟨_,Heap.get?_push_size _ rfl,rfl,rfl⟩,fun b hb=>?_,q⟩
 have e : b = s1.heap.objs.size:=by simpa using hb
 subst e
 exact I1.fpOk (Nat.le_refl _) (I1.hok.fresh (Nat.le_refl _))
theorem pi_tup {l : Expr} {tl : TE} (hl : PE X l tl) : PI X tg l (iTup X.K tl):=by
 intro pins s σ H R I h
 refine thn (hl pins s σ H _ I h) fun v s1 ⟨x,H1,I1,r1,q1⟩=>?_
 obtain ⟨a,e,⟨xs,hq⟩,q⟩:=q1
 subst e
 cases r1
 obtain ⟨its,rv,p,hz⟩:=I1.tuple hq
 refine wpAny_pyIter_tuple (show s1.heap.IsTuple a its.toArray from p) ?_
 refine ⟨s1.heap.objs.size,[s1.heap.objs.size],_,_,H1,rfl,I1.kept (t':=s1.toks) fun b o e=>Heap.get?_push_of_some _ e,turn_tuple a _,⟨_,Heap.get?_push_size _ rfl,rfl,rfl⟩,fun b hb=>?_,q⟩
 have e : b = s1.heap.objs.size:=by simpa using hb
 subst e
 exact I1.fpOk (Nat.le_refl _) (I1.hok.fresh (Nat.le_refl _))
theorem range_it {pins : List (Addr × Obj)} {σ : St} {H : Hp} {s : Shared} {R : It → Hp → Prop} {E : Value → Shared → Prop} {lo hi : Int} {t u v : Tok} {tk : Nat} (I : Inv X pins σ H s) (h1 : -(2 ^ 62) ≤ lo) (h2 : lo < 2 ^ 62) (h3 : -(2 ^ 62) ≤ hi) (h4 : hi < 2 ^ 62)
 (q : R (Itr lo (hi - lo).toNat) H) : wpAny (model X.prog X.w) X.A (pyIter (.ref s.heap.objs.size)) (PIE X pins σ tg R) E { s with heap:=s.heap.push { cls:=.type "range",data:=.fields #[.int lo t,.int hi u,.int 1 v] },toks:=tk }:=by
 refine wpAny_pyIter_range (IsRange.new ..) (small_one h1 h2 h3 h4) ?_
 have I1 : Inv X pins σ H { s with heap:=s.heap.push { cls:=.type "range",data:=.fields #[.int lo t,.int hi u,.int 1 v] },toks:=tk }:=I.kept fun b o e=>Heap.get?_push_of_some _ e
 refine ⟨(s.heap.push { cls:=.type "range",data:=.fields #[.int lo t,.int hi u,.int 1 v] }).objs.size,[(s.heap.push { cls:=.type "range",data:=.fields #[.int lo t,.int hi u,.int 1 v] }).objs.size],_,_,H,rfl,
  I1.kept (t':=tk) fun b o e=>Heap.get?_push_of_some _ e,turn_range _ lo (hi - lo).toNat,?_,fun b hb=>?_,q⟩
 · have e1 : lo + ((0 : Nat) : Int) * 1 = lo:=by simp
   have e2 : (((hi - lo).toNat : Nat) : Int) - ((0 : Nat) : Int) = Builtin.Range.rangeSize lo hi 1:=by rw [rangeSize_one]; split <;> omega
   show IsRangeIter _ _ (lo + ((0 : Nat) : Int) * 1) ((((hi - lo).toNat : Nat) : Int) - ((0 : Nat) : Int)) 1
   rw [e1,e2]
   exact Heap.get?_push_size _ rfl
 · have e : b = (s.heap.push { cls:=.type "range",data:=.fields #[.int lo t,.int hi u,.int 1 v] }).objs.size:=by simpa using hb
   subst e
   exact I1.fpOk (Nat.le_refl _) (I1.hok.fresh (Nat.le_refl _))
def iRng1 (ta : TA) : TI:=fun σ H R=>ta σ H fun vs H1=>∃ j : Int,vs = [.int j] ∧ -(2 ^ 62) ≤ j ∧ j < 2 ^ 62 ∧ R (Itr 0 j.toNat) H1
theorem pi_range1 {a : Expr} {ta : TA} {p pos : Pos} (hg : Gl X "range") (hm : X.mg "range" = none) (ha : PA X [a] ta) (hs : starEach [a] X.env = [(false,eval a X.env)]:=by rfl) : PI X tg (.Call (.Name "range" p) [a] [] pos) (iRng1 ta):=by
 intro pins s σ H R I h
 refine Call_ (ld_blt I hg hm boot_range (PyProof.Rows.callWith_type1 (thn (ha pos pins s σ H _ I h) fun us s1 ⟨vs,H1,I1,r1,q1⟩=>?_) hs rfl))
 obtain ⟨j,e,q1,q2,q⟩:=q1
 subst e
 cases r1 with
 | cons r rr =>
  cases rr
  obtain ⟨t,rfl⟩:=r
  exact call_range_1 (range_it I1 (by omega) (by omega) q1 q2 (by simpa using q))
def tFor (wi : TI) (g : TG) (tb : TS) : TS:=fun D σ H=>wi σ H fun J H1=>∃ W : Nat → Nat → St → Hp → Prop,(∃ m,W 0 m σ H1) ∧ ∀ i m σ H,W i m σ H →
 (J.stop i H ∧ D.nx σ H) ∨ (J.go i H ∧ ∃ N : St → Hp → Prop,(∀ σ' H',N σ' H' → ∃ m',m' < m ∧ W (i + 1) m' σ' H') ∧ ∀ x H',J.yld i H x H' → g x σ H' fun σ2 H2=>tb { D with nx:=N,ct:=N,bk:=D.nx } σ2 H2)
def pinsAt (fp : List Addr) (h : Heap) : List (Addr × Obj):=fp.filterMap fun b=>(h.get? b).map fun o=>(b,o)
theorem mem_pinsAt {fp : List Addr} {h : Heap} {b : Addr} {o : Obj} (hb : b ∈ fp) (e : h.get? b = some o) : (b,o) ∈ pinsAt fp h:=List.mem_filterMap.mpr ⟨b,hb,by rw [e]; rfl⟩
theorem of_pinsAt {fp : List Addr} {h : Heap} {p : Addr × Obj} (hp : p ∈ pinsAt fp h) : p.1 ∈ fp ∧ h.get? p.1 = some p.2:=by
 obtain ⟨b,hb,e⟩:=List.mem_filterMap.mp hp
 cases q : h.get? b with
 | none=>rw [q] at e; cases e
 | some o =>
  rw [q] at e
  have e' : (b,o) = p:=Option.some.inj e
  subst e'
  exact ⟨hb,q⟩
theorem Inv.pinned {pins : List (Addr × Obj)} {σ : St} {H : Hp} {s : Shared} {fp : List Addr} (I : Inv X pins σ H s) (hf : ∀ b ∈ fp,FpOk X pins H b) (ho : ∀ b ∈ fp,∃ o,s.heap.get? b = some o ∧ ∀ v,o.data ≠ .cell v) : Inv X (pins ++ pinsAt fp s.heap) σ H s :=
 I.pins_of fun p hp=>(List.mem_append.mp hp).elim (fun z=>I.pin p (List.mem_append_right _ z)) fun z=>by
  obtain ⟨hb,e⟩:=of_pinsAt z
  obtain ⟨f0,f1,f2,_⟩:=hf p.1 hb
  obtain ⟨o,e',d⟩:=ho p.1 hb
  rw [e] at e'; cases e'
  exact ⟨e,f0,f1,f2,d⟩
theorem Inv.unpinned {pins pl : List (Addr × Obj)} {σ : St} {H : Hp} {s : Shared} (I : Inv X (pins ++ pl) σ H s) : Inv X pins σ H s:=I.pins_of fun p hp=>I.pin p (List.mem_append_right _ (List.mem_append_left _ hp))
theorem ps_for {iter : Expr} {body : List Stmt} {wi : TI} {g : TG} {tb : TS} {pos : Pos} (hp : PassesOwn (model X.prog X.w) X.A X.env X.xe) (hc : X.calm = true) (hi : PI X tg iter wi) (hg : PG X tg g) (hb : PSs X body tb)
 (hs : ∀ x,foldedSetIterable iter X.env x = pure x:=by intro _; rfl) : PS X (.For tg iter body [] pos) (tFor wi g tb):=by
 intro pins s σ H D I h
 refine wpAny_For (thn (hi pins s σ H _ I h) fun v s1 h1=>thn h1 fun itv s2 h2=>?_) hs
 obtain ⟨it,fp,tn,J,H2,e,I2,T,st2,f2,W,⟨m0,w0⟩,turn⟩:=h2
 subst e
 have stat : ∀ {H' : Hp},(∀ b ∈ fp,H' b = none) → ∀ b ∈ fp,FpOk X pins H' b:=fun hn b hb=>⟨hn b hb,(f2 b hb).2⟩
 refine codeAny_forLoop_any (fun n s'=>∃ i σ' H',Inv X pins σ' H' s' ∧ tn i s'.heap ∧ (∀ b ∈ fp,H' b = none) ∧ W i n σ' H') ?_ m0 ⟨0,σ,H2,I2,st2,fun b hb=>(f2 b hb).1,w0⟩
 rintro n s3 ⟨i,σ3,H3,I3,st3,fr3,w3⟩
 rcases turn i n σ3 H3 w3 with ⟨stop,qn⟩ | ⟨go,N,hN,step⟩
 · refine wpAny_passesOwn hp (thn (T.done X rfl rfl rfl hc i pins s3 σ3 H3 X.xe I3 (stat fr3) st3 stop) fun r s4 ⟨hr,I4⟩=>?_)
   subst hr
   exact wpAny_execs_nil ⟨σ3,H3,I4,qn⟩
 · refine wpAny_passesOwn hp (thn (T.item X rfl rfl rfl hc i pins s3 σ3 H3 X.xe I3 (stat fr3) st3 go) fun r s4 ⟨u,hr,h4⟩=>?_)
   subst hr
   refine wpAny_passesOwn hp (thn h4 fun _ s5 ⟨x,H5,I5,r5,y5,st5,fr5⟩=>?_)
   have I5':=I5.pinned (stat fr5) (T.obj _ _ st5)
   refine wpAny_passesOwn hp (thn (hg _ s5 σ3 H5 x u _ I5' r5 (step x H5 y5)) fun _ s6 ⟨σ6,H6,I6,q6⟩=>?_)
   refine wpAny_passesOwn hp (thn (hb _ s6 σ6 H6 _ I6 q6) fun f s7 q7=>?_)
   have again : ∀ {σ7 : St} {H7 : Hp},Inv X (pins ++ pinsAt fp s5.heap) σ7 H7 s7 → N σ7 H7 → ∃ m,m < n ∧ ∃ i σ' H',Inv X pins σ' H' s7 ∧ tn i s7.heap ∧ (∀ b ∈ fp,H' b = none) ∧ W i m σ' H':=fun {σ7 H7} I7 n7=>by
    obtain ⟨m',hm,w7⟩:=hN σ7 H7 n7
    refine ⟨m',hm,i + 1,σ7,H7,I7.unpinned,T.keep _ _ _ st5 fun b hb o e=>(I7.pin (b,o) (List.mem_append_right _ (List.mem_append_right _ (mem_pinsAt hb e)))).1,fun b hb=>?_,w7⟩
    obtain ⟨o,e,d⟩:=T.obj _ _ st5 b hb
    exact (I7.pin (b,o) (List.mem_append_right _ (List.mem_append_right _ (mem_pinsAt hb e)))).2.1
   cases f with
   | next=>obtain ⟨σ7,H7,I7,n7⟩:=q7; exact again I7 n7
   | cont=>obtain ⟨σ7,H7,I7,n7⟩:=q7; exact again I7 n7
   | brk=>obtain ⟨σ7,H7,I7,q7⟩:=q7; exact ⟨σ7,H7,I7.unpinned,q7⟩
   | ret v=>obtain ⟨x7,σ7,H7,I7,r7,q7⟩:=q7; exact ⟨x7,σ7,H7,I7.unpinned,r7,q7⟩
end
theorem for_list {K : PySem.W.Frag} {a : Addr} {xs : List V} {g : TG} {tb : TS} {D : Ends} {σ : St} {H : Hp} (Pv : Nat → St → Hp → Prop) (h0 : Pv 0 σ H) (hl : ∀ i σ H,i ≤ xs.length → Pv i σ H → SqL K H a xs)
 (hs : ∀ i x σ H,xs[i]? = some x → Pv i σ H → g x σ H fun σ2 H2=>tb { D with nx:=Pv (i + 1),ct:=Pv (i + 1),bk:=D.nx } σ2 H2) (hd : ∀ σ H,Pv xs.length σ H → D.nx σ H) :
 ∃ W : Nat → Nat → St → Hp → Prop,(∃ m,W 0 m σ H) ∧ ∀ i m σ H,W i m σ H →
  ((Itl K a).stop i H ∧ D.nx σ H) ∨ ((Itl K a).go i H ∧ ∃ N : St → Hp → Prop,(∀ σ' H',N σ' H' → ∃ m',m' < m ∧ W (i + 1) m' σ' H') ∧ ∀ x H',(Itl K a).yld i H x H' → g x σ H' fun σ2 H2=>tb { D with nx:=N,ct:=N,bk:=D.nx } σ2 H2):=by
 refine ⟨fun i m σ H=>m = xs.length - i ∧ i ≤ xs.length ∧ Pv i σ H,⟨xs.length,by simp,Nat.zero_le _,h0⟩,?_⟩
 rintro i m σ H ⟨rfl,hi,p⟩
 have q:=hl i σ H hi p
 by_cases hlt : i < xs.length
 · refine .inr ⟨⟨xs,xs[i],q,by simp [hlt]⟩,Pv (i + 1),fun σ' H' p'=>⟨xs.length - (i + 1),by omega,rfl,hlt,p'⟩,fun x H' y=>?_⟩
   obtain ⟨e,y⟩:=y
   subst e
   exact hs i x σ _ (y xs q) p
 · have e : i = xs.length:=by omega
   subst e
   exact .inl ⟨⟨xs,q,Nat.le_refl _⟩,hd σ H p⟩
theorem for_range {lo : Int} {n : Nat} {g : TG} {tb : TS} {D : Ends} {σ : St} {H : Hp} (Pv : Nat → St → Hp → Prop) (h0 : Pv 0 σ H)
 (hs : ∀ i σ H,i < n → Pv i σ H → g (.int (lo + i)) σ H fun σ2 H2=>tb { D with nx:=Pv (i + 1),ct:=Pv (i + 1),bk:=D.nx } σ2 H2) (hd : ∀ σ H,Pv n σ H → D.nx σ H) :
 ∃ W : Nat → Nat → St → Hp → Prop,(∃ m,W 0 m σ H) ∧ ∀ i m σ H,W i m σ H →
  ((Itr lo n).stop i H ∧ D.nx σ H) ∨ ((Itr lo n).go i H ∧ ∃ N : St → Hp → Prop,(∀ σ' H',N σ' H' → ∃ m',m' < m ∧ W (i + 1) m' σ' H') ∧ ∀ x H',(Itr lo n).yld i H x H' → g x σ H' fun σ2 H2=>tb { D with nx:=N,ct:=N,bk:=D.nx } σ2 H2):=by
 refine ⟨fun i m σ H=>m = n - i ∧ i ≤ n ∧ Pv i σ H,⟨n,by simp,Nat.zero_le _,h0⟩,?_⟩
 rintro i m σ H ⟨rfl,hi,p⟩
 by_cases hlt : i < n
 · refine .inr ⟨hlt,Pv (i + 1),fun σ' H' p'=>⟨n - (i + 1),by omega,rfl,hlt,p'⟩,fun x H' y=>?_⟩
   obtain ⟨e,y⟩:=y
   subst e y
   exact hs i σ _ hlt p
 · have e : i = n:=by omega
   subst e
   exact .inl ⟨Nat.le_refl _,hd σ H p⟩
end L2
namespace L2
open PySem PySem.Spec PyProof.Rows
abbrev R2:=V → V → Hp → VK → Prop
def OpR (X : Cx) (f : Value → Value → Sem Value) (r : R2) : Prop :=
 ∀ (pins : List (Addr × Obj)) (s : Shared) (σ : St) (H : Hp) (x y : V) (v u : Value) (Q : VK),Inv X pins σ H s → RelV x v → RelV y u → r x y H Q →
  wpAny (model X.prog X.w) X.A (f v u) (EP X pins σ Q) X.xe s
def UnR (X : Cx) (f : Value → Sem Value) (r : V → Hp → VK → Prop) : Prop :=
 ∀ (pins : List (Addr × Obj)) (s : Shared) (σ : St) (H : Hp) (x : V) (v : Value) (Q : VK),Inv X pins σ H s → RelV x v → r x H Q →
  wpAny (model X.prog X.w) X.A (f v) (EP X pins σ Q) X.xe s
def CallR (X : Cx) (f : Value) (r : List V → Hp → VK → Prop) : Prop :=
 ∀ (pins : List (Addr × Obj)) (s : Shared) (σ : St) (H : Hp) (xs : List V) (us : List Value) (Q : VK),Inv X pins σ H s → Vals xs us → r xs H Q →
  wpAny (model X.prog X.w) X.A (call f us) (EP X pins σ Q) X.xe s
def tOp (r : R2) (ta tb : TE) : TE:=fun σ H Q=>ta σ H fun x H1=>tb σ H1 fun y H2=>r x y H2 Q
def tUn (r : V → Hp → VK → Prop) (ta : TE) : TE:=fun σ H Q=>ta σ H fun x H1=>r x H1 Q
def rI (C : Int → Int → Prop) (g : Int → Int → V) : R2:=fun x y H Q=>∃ i j,x = .int i ∧ y = .int j ∧ C i j ∧ Q (g i j) H
def rI0 (g : Int → Int → V) : R2:=fun x y H Q=>∃ i j,x = .int i ∧ y = .int j ∧ Q (g i j) H
def rU (g : Int → V) : V → Hp → VK → Prop:=fun x H Q=>∃ i,x = .int i ∧ Q (g i) H
section
variable {X : Cx} {a b c : Expr} {ta tb tc : TE} {pos : Pos}
theorem binT (ha : PE X a ta) (hb : PE X b tb) {pins : List (Addr × Obj)} {s : Shared} {σ : St} {H : Hp} {R : V → V → Hp → Prop} (I : Inv X pins σ H s)
 (h : ta σ H fun x H1=>tb σ H1 fun y H2=>R x y H2) {Q : Value → Shared → Prop} {f : Value → Value → Sem Value}
 (hf : ∀ v u s2 x y H2,Inv X pins σ H2 s2 → RelV x v → RelV y u → R x y H2 → wpAny (model X.prog X.w) X.A (f v u) Q X.xe s2) :
 wpAny (model X.prog X.w) X.A (eval a X.env) (fun v s₁=>wpAny (model X.prog X.w) X.A (eval b X.env) (fun u s₂=>wpAny (model X.prog X.w) X.A (f v u) Q X.xe s₂) X.xe s₁) X.xe s:=by
 refine thn (ha pins s σ H _ I h) fun v s1 ⟨x,H1,I1,r1,q1⟩=>?_
 refine thn (hb pins s1 σ H1 _ I1 q1) fun u s2 ⟨y,H2,I2,r2,q2⟩=>?_
 exact hf v u s2 x y H2 I2 r1 r2 q2
theorem pe_op {op : Operator} {r : R2} (ho : OpR X (binaryOp op) r) (ha : PE X a ta) (hb : PE X b tb) : PE X (.BinOp a op b pos) (tOp r ta tb):=by
 intro pins s σ H Q I h
 exact wpAny_BinOp (binT ha hb I h fun v u s2 x y H2 I2 rx ry q=>ho pins s2 σ H2 x y v u Q I2 rx ry q)
theorem pe_un {op : UnaryOp} {r : V → Hp → VK → Prop} (ho : UnR X (unaryOp op) r) (ha : PE X a ta) : PE X (.UnaryOp op a pos) (tUn r ta):=by
 intro pins s σ H Q I h
 exact UnaryOp_ (thn (ha pins s σ H _ I h) fun v s1 ⟨x,H1,I1,r1,q1⟩=>ho pins s1 σ H1 x v Q I1 r1 q1)
theorem opI {f : Value → Value → Sem Value} {C : Int → Int → Prop} {g : Int → Int → Int}
 (rule : ∀ (i j : Int) (t u : Tok) (s : Shared) (Q : Value → Shared → Prop) (E : Value → Shared → Prop),C i j → Q (.int (g i j) s.toks) { s with toks:=s.toks + 1 } → wpAny (model X.prog X.w) X.A (f (.int i t) (.int j u)) Q E s) :
 OpR X f (rI C fun i j=>.int (g i j)):=by
 intro pins s σ H x y v u Q I rx ry h
 obtain ⟨i,j,rfl,rfl,hc,q⟩:=h
 obtain ⟨t,rfl⟩:=rx
 obtain ⟨t',rfl⟩:=ry
 exact rule i j t t' s _ _ hc ⟨.int (g i j),H,I.tok _,⟨_,rfl⟩,q⟩
theorem opI0 {f : Value → Value → Sem Value} {g : Int → Int → Int}
 (rule : ∀ (i j : Int) (t u : Tok) (s : Shared) (Q : Value → Shared → Prop) (E : Value → Shared → Prop),Q (.int (g i j) s.toks) { s with toks:=s.toks + 1 } → wpAny (model X.prog X.w) X.A (f (.int i t) (.int j u)) Q E s) :
 OpR X f (rI0 fun i j=>.int (g i j)):=by
 intro pins s σ H x y v u Q I rx ry h
 obtain ⟨i,j,rfl,rfl,q⟩:=h
 obtain ⟨t,rfl⟩:=rx
 obtain ⟨t',rfl⟩:=ry
 exact rule i j t t' s _ _ ⟨.int (g i j),H,I.tok _,⟨_,rfl⟩,q⟩
theorem opB0 {f : Value → Value → Sem Value} {g : Int → Int → Bool}
 (rule : ∀ (i j : Int) (t u : Tok) (s : Shared) (Q : Value → Shared → Prop) (E : Value → Shared → Prop),Q (.bool (g i j)) s → wpAny (model X.prog X.w) X.A (f (.int i t) (.int j u)) Q E s) :
 OpR X f (rI0 fun i j=>.bl (g i j)):=by
 intro pins s σ H x y v u Q I rx ry h
 obtain ⟨i,j,rfl,rfl,q⟩:=h
 obtain ⟨t,rfl⟩:=rx
 obtain ⟨t',rfl⟩:=ry
 exact rule i j t t' s _ _ ⟨.bl (g i j),H,I,rfl,q⟩
def CDiv (i j : Int) : Prop:=0 < j ∧ j < 1073741824
def CMul (i j : Int) : Prop:=(-(2 ^ 64) < i ∧ i < 2 ^ 64) ∨ (-(2 ^ 64) < j ∧ j < 2 ^ 64)
theorem CMul.ok {i j : Int} (h : CMul i j) : IntMulOk i j:=by
 rcases h with ⟨h1,h2⟩ | ⟨h1,h2⟩
 · exact .of_left (intBits_le_64 h1 h2)
 · exact .of_right (intBits_le_64 h1 h2)
theorem op_add : OpR X (binaryOp .Add) (rI0 fun i j=>.int (i + j)):=opI0 fun _ _ _ _ _ _ _ q=>add_int q
theorem op_sub : OpR X (binaryOp .Sub) (rI0 fun i j=>.int (i - j)):=opI0 fun _ _ _ _ _ _ _ q=>sub_int q
theorem op_mul : OpR X (binaryOp .Mult) (rI CMul fun i j=>.int (i * j)):=opI fun _ _ _ _ _ _ _ hc q=>mul_int q hc.ok
theorem op_fdiv : OpR X (binaryOp .FloorDiv) (rI CDiv fun i j=>.int (i / j)):=opI fun i j _ _ _ _ _ hc q=>by
 have h1 : (0 : Int) < j:=hc.1
 have h2 : j < 1073741824:=hc.2
 exact floordiv_int (by omega) (by rw [Int.fdiv_eq_ediv_of_nonneg i (by omega)]; exact q) (.inl (PyProof.noPylong_small (by omega)))
theorem op_mod : OpR X (binaryOp .Mod) (rI (fun _ j=>0 < j) fun i j=>.int (i % j)):=opI fun i j _ _ _ _ _ hc q=>by
 have h1 : (0 : Int) < j:=hc
 exact mod_int' (by omega) (by rw [Int.fmod_eq_emod_of_nonneg i (by omega)]; exact q)
theorem unI {f : Value → Sem Value} {g : Int → Int}
 (rule : ∀ (i : Int) (t : Tok) (s : Shared) (Q : Value → Shared → Prop) (E : Value → Shared → Prop),Q (.int (g i) s.toks) { s with toks:=s.toks + 1 } → wpAny (model X.prog X.w) X.A (f (.int i t)) Q E s) :
 UnR X f (rU fun i=>.int (g i)):=by
 intro pins s σ H x v Q I rx h
 obtain ⟨i,rfl,q⟩:=h
 obtain ⟨t,rfl⟩:=rx
 exact rule i t s _ _ ⟨.int (g i),H,I.tok _,⟨_,rfl⟩,q⟩
theorem un_neg : UnR X (unaryOp .USub) (rU fun i=>.int (-i)):=unI fun _ _ _ _ _ q=>neg_int q
end
def scal : V → V → Bool
 | .non,.non=>true | .non,.int _=>true | .int _,.non=>true | .non,.bl _=>true | .bl _,.non=>true | .non,.str _=>true | .str _,.non=>true
 | .int _,.int _=>true | .bl _,.bl _=>true | .str _,.str _=>true | .byt _,.byt _=>true
 | .int _,.str _=>true | .str _,.int _=>true | .bl _,.str _=>true | .str _,.bl _=>true
 | _,_=>false
def rEq : R2:=fun x y H Q=>scal x y = true ∧ Q (.bl (decide (x = y))) H
def rNe : R2:=fun x y H Q=>scal x y = true ∧ Q (.bl (!decide (x = y))) H
theorem dec_int {i j : Int} : decide (V.int i = V.int j) = (i == j):=by
 rw [Bool.eq_iff_iff]
 simp
theorem dec_bl {i j : Bool} : decide (V.bl i = V.bl j) = (i == j):=by
 rw [Bool.eq_iff_iff]
 simp
theorem dec_str {i j : Str} : decide (V.str i = V.str j) = (i == j):=by
 rw [Bool.eq_iff_iff]
 simp
theorem dec_byt {i j : Array UInt8} : decide (V.byt i = V.byt j) = (i.toList == j.toList):=by
 rw [Bool.eq_iff_iff]
 cases i
 cases j
 simp
section
variable {X : Cx} {a b c : Expr} {ta tb tc : TE} {pos : Pos}
theorem fin_bl {pins : List (Addr × Obj)} {σ : St} {H : Hp} {s : Shared} {Q : VK} {k k' : Bool} (I : Inv X pins σ H s) (q : Q (.bl k) H) (e : k = k') : EP X pins σ Q (.bool k') s:=by
 subst e
 exact ⟨.bl k,H,I,rfl,q⟩
theorem op_eq : OpR X (compareOp .Eq) rEq:=by
 intro pins s σ H x y v u Q I rx ry h
 obtain ⟨hs,q⟩:=h
 cases x with
 | non =>
  cases rx
  cases y with
  | non=>cases ry; exact PySem.EqNone.eq_none_none (fin_bl I q (by simp))
  | bl j=>cases ry; exact PySem.EqNone.eq_none_bool (fin_bl I q (by simp))
  | int j=>obtain ⟨t',rfl⟩:=ry; exact PySem.EqNone.eq_none_int (fin_bl I q (by simp))
  | str j=>obtain ⟨t',rfl⟩:=ry; exact PySem.EqNone.eq_none_str (fin_bl I q (by simp))
  | _=>exact absurd (show false = true from hs) Bool.false_ne_true
 | bl i =>
  cases rx
  cases y with
  | non=>cases ry; exact PySem.EqNone.eq_bool_none (fin_bl I q (by simp))
  | bl j=>cases ry; exact eq_bool (fin_bl I q dec_bl)
  | str j=>obtain ⟨t',rfl⟩:=ry; exact PySem.EqMixed.eq_bool_str (fin_bl I q (by simp))
  | _=>exact absurd (show false = true from hs) Bool.false_ne_true
 | int i =>
  obtain ⟨t,rfl⟩:=rx
  cases y with
  | non=>cases ry; exact PySem.EqNone.eq_int_none (fin_bl I q (by simp))
  | int j=>obtain ⟨t',rfl⟩:=ry; exact eq_int (fin_bl I q dec_int)
  | str j=>obtain ⟨t',rfl⟩:=ry; exact PySem.EqMixed.eq_int_str (fin_bl I q (by simp))
  | _=>exact absurd (show false = true from hs) Bool.false_ne_true
 | str i =>
  obtain ⟨t,rfl⟩:=rx
  cases y with
  | non=>cases ry; exact PySem.EqNone.eq_str_none (fin_bl I q (by simp))
  | bl j=>cases ry; exact PySem.EqMixed.eq_str_bool (fin_bl I q (by simp))
  | int j=>obtain ⟨t',rfl⟩:=ry; exact PySem.EqMixed.eq_str_int (fin_bl I q (by simp))
  | str j=>obtain ⟨t',rfl⟩:=ry; exact eq_str (fin_bl I q dec_str)
  | _=>exact absurd (show false = true from hs) Bool.false_ne_true
 | byt i =>
  obtain ⟨t,rfl⟩:=rx
  cases y with
  | byt j=>obtain ⟨t',rfl⟩:=ry; exact PySem.W.eq_bytes (fin_bl I q dec_byt)
  | _=>exact absurd (show false = true from hs) Bool.false_ne_true
 | _=>cases y <;> exact absurd (show false = true from hs) Bool.false_ne_true
theorem op_ne : OpR X (compareOp .NotEq) rNe:=by
 intro pins s σ H x y v u Q I rx ry h
 obtain ⟨hs,q⟩:=h
 cases x with
 | non =>
  cases rx
  cases y with
  | non=>cases ry; exact PySem.EqNone.ne_none_none (fin_bl I q (by simp))
  | bl j=>cases ry; exact PySem.EqNone.ne_none_bool (fin_bl I q (by simp))
  | int j=>obtain ⟨t',rfl⟩:=ry; exact PySem.EqNone.ne_none_int (fin_bl I q (by simp))
  | str j=>obtain ⟨t',rfl⟩:=ry; exact PySem.EqNone.ne_none_str (fin_bl I q (by simp))
  | _=>exact absurd (show false = true from hs) Bool.false_ne_true
 | bl i =>
  cases rx
  cases y with
  | non=>cases ry; exact PySem.EqNone.ne_bool_none (fin_bl I q (by simp))
  | bl j=>cases ry; exact ne_bool (fin_bl I q (congrArg not dec_bl))
  | str j=>obtain ⟨t',rfl⟩:=ry; exact PySem.EqMixed.ne_bool_str (fin_bl I q (by simp))
  | _=>exact absurd (show false = true from hs) Bool.false_ne_true
 | int i =>
  obtain ⟨t,rfl⟩:=rx
  cases y with
  | non=>cases ry; exact PySem.EqNone.ne_int_none (fin_bl I q (by simp))
  | int j=>obtain ⟨t',rfl⟩:=ry; exact ne_int (fin_bl I q (congrArg not dec_int))
  | str j=>obtain ⟨t',rfl⟩:=ry; exact PySem.EqMixed.ne_int_str (fin_bl I q (by simp))
  | _=>exact absurd (show false = true from hs) Bool.false_ne_true
 | str i =>
  obtain ⟨t,rfl⟩:=rx
  cases y with
  | non=>cases ry; exact PySem.EqNone.ne_str_none (fin_bl I q (by simp))
  | bl j=>cases ry; exact PySem.EqMixed.ne_str_bool (fin_bl I q (by simp))
  | int j=>obtain ⟨t',rfl⟩:=ry; exact PySem.EqMixed.ne_str_int (fin_bl I q (by simp))
  | str j=>obtain ⟨t',rfl⟩:=ry; exact ne_str (fin_bl I q (congrArg not dec_str))
  | _=>exact absurd (show false = true from hs) Bool.false_ne_true
 | byt i =>
  obtain ⟨t,rfl⟩:=rx
  cases y with
  | byt j=>obtain ⟨t',rfl⟩:=ry; exact PySem.W.ne_bytes (fin_bl I q (congrArg not dec_byt))
  | _=>exact absurd (show false = true from hs) Bool.false_ne_true
 | _=>cases y <;> exact absurd (show false = true from hs) Bool.false_ne_true
theorem op_lt : OpR X (compareOp .Lt) (rI0 fun i j=>.bl (decide (i < j))):=opB0 fun _ _ _ _ _ _ _ q=>lt_int q
theorem op_gt : OpR X (compareOp .Gt) (rI0 fun i j=>.bl (decide (j < i))):=opB0 fun _ _ _ _ _ _ _ q=>gt_int q
theorem op_ge : OpR X (compareOp .GtE) (rI0 fun i j=>.bl (decide (j ≤ i))):=opB0 fun _ _ _ _ _ _ _ q=>ge_int q
theorem nomark (b : Expr) {op : CmpOp} (h : op ≠ .In:=by decide) (h2 : op ≠ .NotIn:=by decide) : behindInMarks op b = false:=by
 have e1 : (op == CmpOp.In) = false:=by cases op <;> first | rfl | exact absurd rfl h
 have e2 : (op == CmpOp.NotIn) = false:=by cases op <;> first | rfl | exact absurd rfl h2
 cases b <;> simp [behindInMarks,e1,e2]
theorem pe_cmpR {op : CmpOp} {r : R2} (ho : OpR X (compareOp op) r) (ha : PE X a ta) (hb : PE X b tb) (hm : behindInMarks op b = false) : PE X (.Compare a [op] [b] pos) (tOp r ta tb):=by
 intro pins s σ H Q I h
 exact wpAny_Compare1 (binT ha hb I h fun v u s2 x y H2 I2 rx ry q=>ho pins s2 σ H2 x y v u Q I2 rx ry q) hm
def tTest (t : TE) : TT:=fun σ H Q=>t σ H fun x H'=>∃ k,x = .bl k ∧ Q k H'
theorem pt_cmpR {op : CmpOp} {r : R2} (ho : OpR X (compareOp op) r) (ha : PE X a ta) (hb : PE X b tb) (hm : behindInMarks op b = false) : PT X (.Compare a [op] [b] pos) (tTest (tOp r ta tb)):=by
 intro pins s σ H Q I h
 refine wpAny_isTrue_Compare1 (thn (ha pins s σ H _ I h) fun v s1 ⟨x,H1,I1,r1,q1⟩=>thn (hb pins s1 σ H1 _ I1 q1) fun u s2 ⟨y,H2,I2,r2,q2⟩ =>
  thn (ho pins s2 σ H2 x y v u _ I2 r1 r2 q2) fun c s3 ⟨z,H3,I3,r3,k,e,q3⟩=>?_) hm
 subst e
 cases r3
 exact wpAny_truthy_bool ⟨H3,I3,q3⟩
theorem line63 : (sizeLine : Nat) < 2 ^ 63:=by rw [sizeLine_eq]; decide
theorem op_add_str : OpR X (binaryOp .Add) (fun x y H Q=>∃ i j,x = .str i ∧ y = .str j ∧ i.length + j.length ≤ sizeLine ∧ Q (.str (i ++ j)) H):=by
 intro pins s σ H x y v u Q I rx ry h
 obtain ⟨i,j,rfl,rfl,hz,q⟩:=h
 obtain ⟨t,rfl⟩:=rx
 obtain ⟨t',rfl⟩:=ry
 exact add_str (fun t' tk=>⟨.str (i ++ j),H,I.tok _,⟨_,rfl⟩,q⟩) hz
theorem vals1 {x : V} {us : List Value} (r : Vals [x] us) : ∃ u,us = [u] ∧ RelV x u:=by
 cases r with
 | cons r1 r2=>cases r2; exact ⟨_,rfl,r1⟩
theorem vals2 {x y : V} {us : List Value} (r : Vals [x,y] us) : ∃ u w',us = [u,w'] ∧ RelV x u ∧ RelV y w':=by
 cases r with
 | cons r1 r2 =>
  cases r2 with
  | cons r3 r4=>cases r4; exact ⟨_,_,rfl,r1,r3⟩
end
end L2
namespace L2
open PySem PySem.Spec PyProof.Rows
structure ObjM (h : Heap) (x dx C : Addr) (mA : Str → Option Value) : Prop where
 obj : h.get? x = some (PySem.W.instObj C dx)
 ns : h.Ns1 dx mA
 ne : dx ≠ x
theorem lookIn_ns {h : Heap} {dx : Addr} {mA : Str → Option Value} (n : h.Ns1 dx mA) : ∃ od,h.get? dx = some od ∧ ∀ name,PySem.W.lookIn name od = some (mA name):=by
 obtain ⟨o,es,ep,ho,hd,hk,_,hm⟩:=n
 refine ⟨o,ho,fun name=>?_⟩
 have e:=hm name
 unfold nsFind findBy at e
 rw [← Array.find?_toList] at e
 unfold PySem.W.lookIn
 rw [hd]
 dsimp only
 split
 · rename_i y q
   rw [q] at e
   exact congrArg some e
 · rename_i q
   rw [q] at e
   have a : es.toList.any (·.refKey) = false:=by
    rw [List.any_eq_false]
    intro y hy
    obtain ⟨z,t,hkey⟩:=hk y (Array.mem_toList_iff.mp hy)
    simp [DictEntry.refKey,hkey]
   have a' : ¬ es.toList.any (·.refKey) = true:=by rw [a]; exact Bool.false_ne_true
   rw [if_neg a']
   exact congrArg some e
theorem ObjM.look {h : Heap} {x dx C : Addr} {mA : Str → Option Value} (I : ObjM h x dx C mA) : ∃ od,PySem.W.InstAt h x (PySem.W.instObj C dx) C (some od) ∧ ∀ name,PySem.W.lookIn name od = some (mA name) :=
 let ⟨od,ho,hl⟩:=lookIn_ns I.ns
 ⟨od,⟨I.obj,rfl,rfl,ho⟩,hl⟩
section
variable {prog : Program} {w : World} {A : Around} {E : Value → Shared → Prop} {s : Shared} {K : PySem.W.Frag} {x dx C f : Addr} {mA : Str → Option Value} {name : Str} {v : Value}
theorem get_map {expr : Bool} {Q : Value → Shared → Prop} (X : K.In s.heap) (I : ObjM s.heap x dx C mA) (hg : PySem.W.plainGet K C name = true) (hh : PySem.W.hasDictIn K C = true)
 (ha : PySem.W.findIn K (.ref C) name = some none) (hv : mA name = some v) (hv' : PySem.W.handedIn v = true) (h : Q v { s with toks:=s.toks + 1 }) :
 wpAny (model prog w) A (getAttr (.ref x) name expr) Q E s:=by
 obtain ⟨od,J,hl⟩:=I.look
 exact PySem.W.get_value X J (PySem.W.plainGet_of hg).1 (PySem.W.findObj_own hh ha rfl (by rw [hl,hv])) hv' h
theorem set_map {ns : List Str} {Q : Unit → Shared → Prop} (X : K.In s.heap) (I : ObjM s.heap x dx C mA)
 (hs : PySem.W.findIn K (.ref C) "__setattr__" = some (some (.builtin "object.__setattr__"))) (hp : PySem.W.plainOver K C = true) (ht : PySem.W.takerIn K C name = some none) (hh : PySem.W.hasDictIn K C = true)
 (hw : PySem.Within mA ns) (hsz : ns.length ≤ sizeLine)
 (h : ∀ h',ObjM h' x dx C (fun y=>if y = name then some v else mA y) → Heap.SameBut dx s.heap h' → Q () { s with heap:=h',toks:=s.toks + 2 }) :
 wpAny (model prog w) A (setAttr (.ref x) name v) Q E s:=by
 obtain ⟨od,J,hl⟩:=I.look
 refine PySem.W.set_plain X J hs (PySem.W.osa_open (s:={ s with toks:=s.toks + 1 }) (r:=none) X J hp ht fun b=>?_)
 obtain ⟨cd,hc,hd'⟩:=PySem.W.any_some hh
 have hx : s.heap.get? x = some ⟨.ref C,some dx,.plain,#[]⟩:=I.obj
 refine wpAny_bind (wpAny_pure (wpAny_bind (wpAny_bind (wpAny_loadPart hx (wpAny_bind (PySem.W.Looks.here (s:={ s with toks:=s.toks + 1 }) (PySem.W.looks_clsIn X hc) ?_))))))
 rw [hd']
 refine wpAny_pure (a:=some dx) (wpAny_bind (wpAny_pure (wpAny_bind ?_)))
 refine wpAny_nsSet1 (s:={ s with toks:=s.toks + 1 }) I.ns fun h' hn2 hs2=>?_
 obtain ⟨oD,esD,epD,hoD,hdD,hcD⟩:=hn2.count (PySem.Within.cons name v hw)
 refine wpAny_bind (wpAny_lookBehind hoD (by rw [hdD]; exact pastItsLine_dict (Nat.le_trans hcD (by rw [List.length_cons]; omega))) ?_)
 exact wpAny_pure (h _ ⟨(hs2.2 _ (Ne.symm I.ne)).trans I.obj,hn2,I.ne⟩ hs2)
theorem make_map {R : Result → Shared → Prop} {vs : List Value} {kw : List (Str × Value)} (X : K.In s.heap) (hm : PySem.W.makesIn K C = true)
 (hi : PySem.W.findIn K (.ref C) "__init__" = some (some (.ref f))) (hf : PySem.W.typeIn K (.ref f) = some (.type "function"))
 (h : codeAny (model prog w) (A.under (.builtin "type.__call__" ⟨.ref C :: vs,kw⟩)) (.call (.ref f) ⟨.ref (s.heap.objs.size + 1) :: vs,kw⟩) (PySem.W.InitBack (s.heap.objs.size + 1) R)
  { s with heap:=(s.heap.push PySem.W.emptyDict).push (PySem.W.instObj C s.heap.objs.size) }) :
 codeAny (model prog w) A (.call (.ref C) ⟨vs,kw⟩) R s:=by
 obtain ⟨hh,g,d,t,os⟩:=s
 exact PySem.W.make_core (PySem.W.makes_of X hm) (PySem.W.looks_findIn X hi) (fun self=>PySem.W.bind_fn X self hf) (.inl rfl) h
end
def putF (f : Str) (v : V) : List (Str × V) → List (Str × V)
 | []=>[(f,v)]
 | (g,x) :: r=>if g = f then (g,v) :: r else (g,x) :: putF f v r
theorem lookup_putF (f g : Str) (v : V) : ∀ fs : List (Str × V),(putF f v fs).lookup g = if g = f then some v else fs.lookup g
 | []=>by
  show List.lookup g [(f,v)] = _
  by_cases h : g = f
  · have hb : (g == f) = true:=beq_iff_eq.mpr h
    simp only [List.lookup,hb,if_pos h]
  · have hb : (g == f) = false:=beq_eq_false_iff_ne.mpr h
    simp only [List.lookup,hb,if_neg h]
 | (k,x) :: r=>by
  have ih:=lookup_putF f g v r
  rw [show putF f v ((k,x) :: r) = (if k = f then (k,v) :: r else (k,x) :: putF f v r) from rfl]
  by_cases hk : k = f
  · rw [if_pos hk]
    by_cases h : g = k
    · have hb : (g == k) = true:=beq_iff_eq.mpr h
      simp only [List.lookup,hb,if_pos (h.trans hk)]
    · have hb : (g == k) = false:=beq_eq_false_iff_ne.mpr h
      simp only [List.lookup,hb,if_neg (fun e : g = f=>h (e.trans hk.symm))]
  · rw [if_neg hk]
    by_cases h : g = k
    · have hb : (g == k) = true:=beq_iff_eq.mpr h
      simp only [List.lookup,hb,if_neg (fun e : g = f=>hk (h.symm.trans e))]
    · have hb : (g == k) = false:=beq_eq_false_iff_ne.mpr h
      simp only [List.lookup,hb]
      exact ih
theorem keys_putF (f : Str) (v : V) : ∀ fs : List (Str × V),f ∈ (putF f v fs).map (·.1) ∧ ∀ g,g ∈ fs.map (·.1) → g ∈ (putF f v fs).map (·.1)
 | []=>⟨by simp [putF],fun g h=>by simp at h⟩
 | (k,x) :: r=>by
  obtain ⟨i1,i2⟩:=keys_putF f v r
  rw [show putF f v ((k,x) :: r) = (if k = f then (k,v) :: r else (k,x) :: putF f v r) from rfl]
  by_cases hk : k = f
  · rw [if_pos hk]
    subst hk
    exact ⟨by simp,fun g h=>by simpa using h⟩
  · rw [if_neg hk]
    refine ⟨?_,fun g h=>?_⟩
    · rw [List.map_cons]
      exact List.mem_cons_of_mem _ i1
    · rw [List.map_cons] at h ⊢
      rcases List.mem_cons.mp h with e | e
      · exact List.mem_cons.mpr (.inl e)
      · exact List.mem_cons_of_mem _ (i2 g e)
theorem length_putF (f : Str) (v : V) : ∀ fs : List (Str × V),(putF f v fs).length ≤ fs.length + 1
 | []=>by simp [putF]
 | (k,x) :: r=>by
  have ih:=length_putF f v r
  rw [show putF f v ((k,x) :: r) = (if k = f then (k,v) :: r else (k,x) :: putF f v r) from rfl]
  by_cases hk : k = f
  · rw [if_pos hk,List.length_cons,List.length_cons]; omega
  · rw [if_neg hk,List.length_cons,List.length_cons]; omega
theorem RelO.some_of {v : V} {o : Option Value} (r : RelO (some v) o) : ∃ u,o = some u ∧ RelV v u:=by
 cases o with
 | none=>exact (show False from r).elim
 | some u=>exact ⟨u,rfl,r⟩
theorem handed_of {v : V} {u : Value} (r : RelV v u) : PySem.W.handedIn u = true:=by
 cases v with
 | non=>cases (show u = Value.none from r); rfl
 | bl b=>cases (show u = Value.bool b from r); rfl
 | int i=>obtain ⟨t,e⟩:=(show ∃ t,u = Value.int i t from r); cases e; rfl
 | str x=>obtain ⟨t,e⟩:=(show ∃ t,u = Value.str x t from r); cases e; rfl
 | byt b=>obtain ⟨t,e⟩:=(show ∃ t,u = Value.bytes b t from r); cases e; rfl
 | flt b=>obtain ⟨t,e⟩:=(show ∃ t,u = Value.float b t from r); cases e; rfl
 | ref a=>cases (show u = Value.ref a from r); rfl
 | ty n=>cases (show u = Value.type n from r); rfl
section
variable {P : Program} {w : World} {H H' : Hp} {h h' : Heap} {a C dx : Addr} {fs fs' : List (Str × V)}
theorem ins_get (hok : HOk P w H h) (e : H a = some (.ins C dx fs)) : ∃ mA,ObjM h a dx C mA ∧ (∀ f,RelO (fs.lookup f) (mA f)) ∧ PySem.Within mA (fs.map (·.1)) ∧ fs.length ≤ 1000 ∧ H dx = some (.own a):=by
 obtain ⟨d,z,ne,ob,mA,n,r,q⟩:=(show ObjOk P w H h a (.ins C dx fs) from hok a _ e)
 exact ⟨mA,⟨ob,n,ne⟩,r,q,z,d⟩
end
structure Cls (K : PySem.W.Frag) (C : Addr) : Prop where
 pg : PySem.W.plainGet K C Str.empty = true
 hd : PySem.W.hasDictIn K C = true
 po : PySem.W.plainOver K C = true
 sa : PySem.W.findIn K (.ref C) "__setattr__" = some (some (.builtin "object.__setattr__"))
theorem Cls.get {K : PySem.W.Frag} {C : Addr} (c : Cls K C) (f : Str) : PySem.W.plainGet K C f = true:=c.pg
def NoAttr (K : PySem.W.Frag) (C : Addr) (f : Str) : Prop:=PySem.W.findIn K (.ref C) f = some none
theorem NoAttr.taker {K : PySem.W.Frag} {C : Addr} {f : Str} (n : NoAttr K C f) : PySem.W.takerIn K C f = some none:=by
 unfold PySem.W.takerIn
 rw [show PySem.W.findIn K (.ref C) f = some none from n]
 rfl
section
variable {X : Cx} {pins : List (Addr × Obj)} {σ : St} {H : Hp} {s : Shared} {a C dx : Addr} {fs : List (Str × V)} {f : Str} {v : V} {A : Around} {E : Value → Shared → Prop}
theorem getattr_ok {b : Bool} {Q : Value → Shared → Prop} (I : Inv X pins σ H s) (e : H a = some (.ins C dx fs)) (c : Cls X.K C) (n : NoAttr X.K C f) (l : fs.lookup f = some v)
 (h : ∀ u s',Inv X pins σ H s' → RelV v u → Q u s') : wpAny (model X.prog X.w) A (getAttr (.ref a) f b) Q E s:=by
 obtain ⟨mA,O,r,_,_,_⟩:=ins_get I.hok e
 obtain ⟨u,hu,ru⟩:=RelO.some_of (v:=v) (o:=mA f) (by rw [← l]; exact r f)
 exact get_map I.kIn O (c.get f) c.hd n hu (handed_of ru) (h u _ (I.tok _) ru)
theorem setattr_ok {y : V} {u : Value} {Q : Unit → Shared → Prop} (I : Inv X pins σ H s) (e : H a = some (.ins C dx fs)) (c : Cls X.K C) (n : NoAttr X.K C f) (hl : fs.length < 1000) (ry : RelV y u)
 (h : ∀ s',Inv X pins σ (upd H a (.ins C dx (putF f y fs))) s' → Q () s') : wpAny (model X.prog X.w) A (setAttr (.ref a) f u) Q E s:=by
 obtain ⟨mA,O,r,wi,_,ho⟩:=ins_get I.hok e
 have hz : (fs.map (·.1)).length ≤ sizeLine:=by rw [List.length_map,sizeLine_eq]; omega
 refine set_map I.kIn O c.sa c.po n.taker c.hd wi hz fun h' O' sb=>h _ ?_
 have hd : ∃ o,h'.get? dx = some o:=let ⟨o,_,_,e',_⟩:=O'.ns; ⟨o,e'⟩
 refine I.write (x:=a) (e:=dx) (by rw [e]; exact True.intro) (.inr ho) (fun b q hb z=>(sb.2 b hb).trans z) hd ?_
 refine ⟨by rw [upd_ne O.ne]; exact ho,?_,O.ne,O'.obj,_,O'.ns,fun g=>?_,fun g hg=>?_⟩
 · have:=length_putF f y fs; omega
 · show RelO ((putF f y fs).lookup g) (if g = f then some u else mA g)
   rw [lookup_putF]
   by_cases q : g = f
   · rw [if_pos q,if_pos q]; exact ry
   · rw [if_neg q,if_neg q]; exact r g
 · by_cases q : g = f
   · rw [q]; exact (keys_putF f y fs).1
   · refine (keys_putF f y fs).2 g (wi g fun z=>hg ?_)
     show (if g = f then some u else mA g) = none
     rw [if_neg q]; exact z
theorem Inv.made (I : Inv X pins σ H s) : Inv X pins σ (upd (upd H s.heap.objs.size (.own (s.heap.objs.size + 1))) (s.heap.objs.size + 1) (.ins C s.heap.objs.size []))
 { s with heap:=(s.heap.push PySem.W.emptyDict).push (PySem.W.instObj C s.heap.objs.size) }:=by
 have e1 : (s.heap.push PySem.W.emptyDict).get? s.heap.objs.size = some PySem.W.emptyDict:=Heap.get?_push_size s.heap rfl
 have e2 : ((s.heap.push PySem.W.emptyDict).push (PySem.W.instObj C s.heap.objs.size)).get? (s.heap.objs.size + 1) = some (PySem.W.instObj C s.heap.objs.size):=by
  have:=Heap.get?_push_size (s.heap.push PySem.W.emptyDict) (o:=PySem.W.instObj C s.heap.objs.size) rfl
  rwa [Heap.size_push] at this
 have e3 : (s.heap.push PySem.W.emptyDict).Ns s.heap.objs.size (fun _=>none):=⟨PySem.W.emptyDict,#[],_,e1,rfl,(fun e he=>absurd he (by simp)),fun _=>rfl⟩
 have I1:=I.laid (a:=s.heap.objs.size) (o:=.own (s.heap.objs.size + 1)) (h':=s.heap.push PySem.W.emptyDict) (t':=s.toks) (fun b u q=>Heap.get?_push_of_some _ q) (Nat.le_refl _) ⟨_,e1⟩
 refine I1.laid (a:=s.heap.objs.size + 1) (o:=.ins C s.heap.objs.size []) (t':=s.toks) (fun b u q=>Heap.get?_push_of_some _ q) (Nat.le_of_eq (Heap.size_push _ _)) ?_
 have ne : s.heap.objs.size ≠ s.heap.objs.size + 1:=Nat.ne_of_lt (Nat.lt_succ_self _)
 refine ⟨by rw [upd_ne ne,upd_same],Nat.zero_le _,ne,e2,fun _=>none,(Heap.Ns1.of_empty e3).at fun o q=>Heap.get?_push_of_some _ q,fun _=>True.intro,fun y hy=>absurd rfl hy⟩
theorem attr_of {prog : Program} {w : World} {env : Env} {e : Expr} {f : Str} {pos : Pos} {s : Shared} {Q : Value → Shared → Prop} (hb : attributeBase e f env (eval e env) = eval e env)
 (h : wpAny (model prog w) A (eval e env) (fun o s₁=>wpAny (model prog w) A (getAttr o f true) Q E s₁) E s) : wpAny (model prog w) A (eval (.Attribute e f pos) env) Q E s :=
 Attribute_any_ h (by rw [arm_eval_Attribute,hb])
end
def tFld (K : PySem.W.Frag) (ta : TE) (f : Str) : TE:=fun σ H Q=>ta σ H fun x H1=>∃ a C dx fs v,x = .ref a ∧ H1 a = some (.ins C dx fs) ∧ Cls K C ∧ NoAttr K C f ∧ fs.lookup f = some v ∧ Q v H1
def sFld (K : PySem.W.Frag) (ta tv : TE) (f : Str) : TS:=fun D σ H=>tv σ H fun y H1=>ta σ H1 fun x H2=>∃ a C dx fs,x = .ref a ∧ H2 a = some (.ins C dx fs) ∧ Cls K C ∧ NoAttr K C f ∧ fs.length < 1000 ∧
 D.nx σ (upd H2 a (.ins C dx (putF f y fs)))
section
variable {X : Cx} {o e value : Expr} {f : Str} {pos pos' tpos : Pos} {ta tv : TE}
theorem pe_fld (he : PE X e ta) (hb : attributeBase e f X.env (eval e X.env) = eval e X.env) : PE X (.Attribute e f pos) (tFld X.K ta f):=by
 intro pins s σ H Q I h
 refine attr_of hb (thn (he pins s σ H _ I h) fun u s1 ⟨x,H1,I1,rx,a,C,dx,fs,v,ex,ea,c,n,l,q⟩=>?_)
 subst ex
 obtain rfl : u = Value.ref a:=rx
 exact getattr_ok I1 ea c n l fun u' s2 I2 ru=>⟨v,H1,I2,ru,q⟩
theorem ps_fld (ha : PE X o ta) (hv : PE X value tv) (hs : swapsWith value (some (.Attribute o f pos')) pos.line X.env = pure false) : PS X (.Assign [.Attribute o f pos'] value pos) (sFld X.K ta tv f):=by
 intro pins s σ H D I h
 refine plainObj_wpAny_Assign_Attribute (thn (hv pins s σ H _ I h) fun u s1 ⟨y,H1,I1,ry,q⟩=>thn (ha pins s1 σ H1 _ I1 q) fun ov s2 ⟨x,H2,I2,rx,a,C,dx,fs,ex,ea,c,n,l,q2⟩=>?_) hs
 subst ex
 obtain rfl : ov = Value.ref a:=rx
 exact setattr_ok I2 ea c n l ry fun s3 I3=>⟨σ,_,I3,q2⟩
end
section
variable {X : Cx} {pins : List (Addr × Obj)} {σ : St} {H : Hp} {s : Shared} {A : Around} {E : Value → Shared → Prop} {Q : Value → Shared → Prop} {c : Value} {b : Bool}
inductive TyOf (K : PySem.W.Frag) (H : Hp) : V → Value → Prop where
 | non : TyOf K H .non (.type "NoneType")
 | bl (x : Bool) : TyOf K H (.bl x) (.type "bool")
 | int (i : Int) : TyOf K H (.int i) (.type "int")
 | str (x : Str) : TyOf K H (.str x) (.type "str")
 | flt (x : UInt64) : TyOf K H (.flt x) (.type "float")
 | lst {a : Addr} {xs : List V} (e : H a = some (.lst xs)) : TyOf K H (.ref a) (.type "list")
 | frz {a : Addr} {o : Obj} {xs : List V} (e : H a = some (.frz o (.lst xs))) : TyOf K H (.ref a) (.type "list")
 | tup {a : Addr} {xs : List V} (e : H a = some (.tup xs)) : TyOf K H (.ref a) (.type "tuple")
 | dK {a : Addr} {kvs : List (Key × V)} (e : H a = some (.dK kvs)) : TyOf K H (.ref a) (.type "dict")
 | dT {a : Addr} {kvs : List (List Key × V)} (e : H a = some (.dT kvs)) : TyOf K H (.ref a) (.type "dict")
 | ins {a C dx : Addr} {fs : List (Str × V)} (e : H a = some (.ins C dx fs)) (cl : Cls K C) (ha : PySem.W.findIn K (.ref C) "__class__" = some (some (.builtin "object.__class__")))
  (hn : PySem.W.specialIn K (.builtin "object.__class__") "__get__" = some (some (.builtin "getset_descriptor.__get__"))) (htk : PySem.W.takesIn K (.builtin "object.__class__") = some true)
  (hm : PySem.W.mroIn K C (.type "object") = some true) : TyOf K H (.ref a) (.ref C)
theorem isinst_ok {x : V} {u t : Value} (I : Inv X pins σ H s) (rx : RelV x u) (ty : TyOf X.K H x t) (e : PySem.W.kitOne X.K t c = some b) (h : ∀ tk,Q (.bool b) { s with toks:=tk }) :
 wpAny (model X.prog X.w) A (call (.builtin "isinstance") [u,c]) Q E s:=by
 cases ty with
 | non=>cases (show u = Value.none from rx); exact PySem.W.kia_one PySem.W.kitx_none I.kIn True.intro e (fun z=>nomatch z) h
 | bl y=>cases (show u = Value.bool y from rx); exact PySem.W.kia_one PySem.W.kitx_bool I.kIn True.intro e (fun z=>nomatch z) h
 | int i=>obtain ⟨t,q⟩:=(show ∃ t,u = Value.int i t from rx); cases q; exact PySem.W.kia_one PySem.W.kitx_int I.kIn True.intro e (fun z=>nomatch z) h
 | str y=>obtain ⟨t,q⟩:=(show ∃ t,u = Value.str y t from rx); cases q; exact PySem.W.kia_one PySem.W.kitx_str I.kIn True.intro e (fun z=>nomatch z) h
 | flt y=>obtain ⟨t,q⟩:=(show ∃ t,u = Value.float y t from rx); cases q; exact PySem.W.kia_one PySem.W.kitx_float I.kIn True.intro e (fun z=>nomatch z) h
 | @lst a xs ea =>
  cases (show u = Value.ref a from rx)
  obtain ⟨_,_,n,_,h1⟩:=(show ObjOk X.prog X.w H s.heap a (.lst xs) from I.hok a _ ea)
  exact PySem.W.kia_one PySem.W.kitx_list I.kIn ⟨_,h1,rfl⟩ e (fun z=>nomatch z) h
 | @frz a ob xs ea =>
  cases (show u = Value.ref a from rx)
  obtain ⟨_,_,_,n,_,h1⟩:=(show ObjOk X.prog X.w H s.heap a (.frz ob (.lst xs)) from I.hok a _ ea)
  exact PySem.W.kia_one PySem.W.kitx_list I.kIn ⟨_,h1,rfl⟩ e (fun z=>nomatch z) h
 | @tup a xs ea =>
  cases (show u = Value.ref a from rx)
  obtain ⟨_,_,_,p⟩:=(show ObjOk X.prog X.w H s.heap a (.tup xs) from I.hok a _ ea)
  obtain ⟨o,h1,h2,_⟩:=p
  exact PySem.W.kia_one PySem.W.kitx_tuple I.kIn ⟨o,h1,h2⟩ e (fun z=>nomatch z) h
 | @dK a kvs ea =>
  cases (show u = Value.ref a from rx)
  obtain ⟨_,_,vs,_,p⟩:=(show ObjOk X.prog X.w H s.heap a (.dK kvs) from I.hok a _ ea)
  obtain ⟨o,es,ep,h1,h2,_⟩:=p
  exact PySem.W.kia_one PySem.W.kitx_dict I.kIn ⟨o,h1,h2.1⟩ e (fun z=>nomatch z) h
 | @dT a kvs ea =>
  cases (show u = Value.ref a from rx)
  obtain ⟨_,_,xs,_,o,es,ep,h1,h2,_⟩:=(show ObjOk X.prog X.w H s.heap a (.dT kvs) from I.hok a _ ea)
  exact PySem.W.kia_one PySem.W.kitx_dict I.kIn ⟨o,h1,h2.1⟩ e (fun z=>nomatch z) h
 | @ins a C dx fs ea cl ha hn htk hm =>
  cases (show u = Value.ref a from rx)
  obtain ⟨mA,O,_⟩:=ins_get I.hok ea
  obtain ⟨od,J,_⟩:=O.look
  exact PySem.W.kia_one (PySem.W.kitx_own (cl.get _) cl.hd ha hn htk hm) I.kIn J e (fun z=>nomatch z) h
end
end L2
namespace L2
open PySem PySem.Spec PyProof.Rows
structure Room (k : Nat) (A : Around) : Prop where
 hd : A.handled = none
 dp : A.depth + 3 * k + 5 < recursionLimit
 un : A.units + 16 * k + 200 < cLine
theorem Room.mono {j k : Nat} {A : Around} (r : Room k A) (h : j ≤ k) : Room j A:=⟨r.hd,by have:=r.dp; omega,by have:=r.un; omega⟩
theorem Room.deeper {k : Nat} {A : Around} (r : Room (k + 1) A) (env : Env) : Room k (A.deeper env) :=
 ⟨r.hd,by have:=r.dp; show A.depth + 1 + 3 * k + 5 < _; omega,by have:=r.un; show A.units + 3 + 16 * k + 200 < _; omega⟩
theorem make_depth {A : Around} {C : Addr} {us : List Value} {kw : List (Str × Value)} : (A.under (.builtin "type.__call__" ⟨.ref C :: us,kw⟩)).depth = A.depth + 1:=by
 first | rfl | simp [Around.under,Code.weight,Code.isCreation,Code.isGuard,Code.isCaller,Code.frames,Code.isFrame,guardIds]
theorem make_units {A : Around} {C : Addr} {us : List Value} {kw : List (Str × Value)} : (A.under (.builtin "type.__call__" ⟨.ref C :: us,kw⟩)).units = A.units + 1:=by
 first | rfl | simp [Around.under,Code.cUnits,Code.frames,Code.isFrame]
theorem Room.make {k : Nat} {A : Around} (r : Room (k + 1) A) (C : Addr) (us : List Value) (kw : List (Str × Value)) : Room k (A.under (.builtin "type.__call__" ⟨.ref C :: us,kw⟩)) :=
 ⟨r.hd,by have:=r.dp; rw [make_depth]; omega,by have:=r.un; rw [make_units]; omega⟩
theorem Room.depth {k : Nat} {A : Around} (r : Room k A) : A.depth < recursionLimit:=by have:=r.dp; omega
theorem Room.units {k : Nat} {A : Around} (r : Room k A) : A.units + 64 < cLine:=by have:=r.un; omega
def tNil : TA:=fun _ H Q=>Q [] H
def tCons (ta : TE) (tr : TA) : TA:=fun σ H Q=>ta σ H fun x H1=>tr σ H1 fun xs H2=>Q (x :: xs) H2
section
variable {X : Cx} {e : Expr} {es : List Expr} {te : TE} {t : TA} {pos : Pos}
theorem pa_nil : PA X [] tNil:=fun _ _ _ _ H Q I h=>Calls.spliced_nil ⟨[],H,I,.nil,h⟩
theorem pa_cons (ha : PE X e te) (hr : PA X es t) (hs : starEach (e :: es) X.env = (false,eval e X.env) :: starEach es X.env:=by rfl) : PA X (e :: es) (tCons te t):=by
 intro pos pins s σ H Q I h
 rw [hs]
 show wpAny _ _ (spliced ((false,eval e X.env) :: backTo pos (starEach es X.env))) _ _ s
 refine Calls.spliced_cons (thn (ha pins s σ H _ I h) fun u s1 ⟨x,H1,I1,r1,q1⟩=>?_)
 exact thn (hr pos pins s1 σ H1 _ I1 q1) fun us s2 ⟨xs,H2,I2,r2,q2⟩=>⟨x :: xs,H2,I2,.cons r1 r2,q2⟩
def tTup (t : TA) : TE:=fun σ H Q=>t σ H fun xs H1=>xs.length ≤ sizeLine ∧ ∀ p,H1 p = none → Q (.ref p) (upd H1 p (.tup xs))
def tLst (t : TA) : TE:=fun σ H Q=>t σ H fun xs H1=>xs.length ≤ sizeLine ∧ ∀ p,H1 p = none → Q (.ref p) (upd H1 p (.lst xs))
theorem pe_tup {x1} (h : PA X es t) : PE X (.Tuple es x1 pos) (tTup t):=by
 intro pins s σ H Q I hq
 refine wpAny_Tuple_spliced (thn (h pos pins s σ H _ I hq) fun us s1 ⟨xs,H1,I1,r,z,q⟩=>⟨by rw [← r.length]; exact z,?_⟩)
 have hf : H1 s1.heap.objs.size = none:=I1.hok.fresh (Nat.le_refl _)
 refine ⟨.ref s1.heap.objs.size,upd H1 s1.heap.objs.size (.tup xs),I1.laid (t':=s1.toks) (fun b u e=>Heap.get?_push_of_some _ e) (Nat.le_refl _) ?_,rfl,q _ hf⟩
 exact ⟨z,us,r,⟨_,Heap.get?_push_size _ rfl,rfl,_,rfl⟩⟩
theorem pe_lst (h : PA X es t) : PE X (.List es pos) (tLst t):=by
 intro pins s σ H Q I hq
 refine wpAny_List_spliced (thn (h pos pins s σ H _ I hq) fun us s1 ⟨xs,H1,I1,r,z,q⟩=>⟨by rw [← r.length]; exact z,?_⟩)
 have hf : H1 s1.heap.objs.size = none:=I1.hok.fresh (Nat.le_refl _)
 refine ⟨.ref s1.heap.objs.size,upd H1 s1.heap.objs.size (.lst xs),I1.laid (t':=s1.toks) (fun b u e=>Heap.get?_push_of_some _ e) (Nat.le_refl _) ?_,rfl,q _ hf⟩
 exact ⟨z,us,0,r,Heap.get?_push_size _ rfl⟩
end
abbrev Sp:=List V → Hp → VK → XK → Prop
abbrev CXT:=List Env → Hp → Shared → XK → Value → Shared → Prop
structure Env0 (P : Program) (w : World) (K : PySem.W.Frag) (mg : Str → Option Value) (base : Heap) (A : Around) (outer : List Env) (s : Shared) (H : Hp) : Prop where
 frames : A.frames = some outer
 mod : Mod K mg base
 bs : ∀ b o,base.get? b = some o → s.heap.get? b = some o ∧ H b = none
 bsz : base.objs.size ≤ s.heap.objs.size
 funs : s.heap.FunFrames base outer
 frf : ∀ b ∈ frs outer,H b = none
 hok : HOk P w H s.heap
 bare : AllBare s.gens
def CE (outer : List Env) (P : Program) (w : World) (H : Hp) (s : Shared) (Q : VK) (u : Value) (s' : Shared) : Prop :=
 ∃ v H',s'.os = s.os ∧ AllBare s'.gens ∧ Un (frs outer) [] H H' s.heap s'.heap ∧ HOk P w H' s'.heap ∧ RelV v u ∧ Q v H'
def CR (CX : CXT) (outer : List Env) (P : Program) (w : World) (H : Hp) (s : Shared) (Q : VK) (E : XK) (r : Result) (s' : Shared) : Prop :=
 match r with
 | .ok (.ret u)=>CE outer P w H s Q u s'
 | .ok _=>False
 | .error e=>CX outer H s E e s'
structure FnOk (P : Program) (w : World) (K : PySem.W.Frag) (mg : Str → Option Value) (base : Heap) (CX : CXT) (k : Nat) (f : Addr) (fd : FuncData) (ps : List Str) (sp : Sp) : Prop where
 len : ∀ vs H Q E,sp vs H Q E → vs.length = ps.length
 run : ∀ (A : Around) (outer : List Env) (s : Shared) (H : Hp) (args : Args) (us : List Value) (vs : List V) (Q : VK) (E : XK),Room k A → Env0 P w K mg base A outer s H → BindsTo s fd args (ps.zip us) → Vals vs us → sp vs H Q E →
  codeAny (model P w) A (.call (.ref f) args) (CR CX outer P w H s Q E) s
theorem Env0.make {P : Program} {w : World} {K : PySem.W.Frag} {mg : Str → Option Value} {base : Heap} {A : Around} {outer : List Env} {s : Shared} {H : Hp} (e : Env0 P w K mg base A outer s H) (C : Addr) (us : List Value) (kw : List (Str × Value)) :
 Env0 P w K mg base (A.under (.builtin "type.__call__" ⟨.ref C :: us,kw⟩)) outer s H:=⟨by first | exact e.frames | (simpa [Around.under,Code.envs,Code.isFrame,pushEnvs] using e.frames),e.mod,e.bs,e.bsz,e.funs,e.frf,e.hok,e.bare⟩
section
variable {X : Cx} {pins : List (Addr × Obj)} {σ : St} {H : Hp} {s s' : Shared}
theorem Inv.env0 (I : Inv X pins σ H s) : Env0 X.prog X.w X.K X.mg X.base X.A X.stack s H :=
 ⟨I.ok.frames,I.ok.mod,I.bs,Nat.le_trans I.ok.bsz I.sz,I.stack,I.stkFree,I.hok,I.bare⟩
theorem Inv.after {Q : VK} {u : Value} (I : Inv X pins σ H s) (h : CE X.stack X.prog X.w H s Q u s') : EP X pins σ Q u s':=by
 obtain ⟨v,H',os,bare,un,hok,r,q⟩:=h
 obtain ⟨hh,g,d,t,os'⟩:=s'
 obtain rfl : os' = s.os:=os
 exact ⟨v,H',I.call (h':=hh) (g':=g) (d':=d) (t':=t) (ch:=[]) un hok bare (fun b z=>absurd z (by simp)),r,q⟩
end
def tCall (sp : Sp) (dvs : List V) (E : XK) (t : TA) : TE:=fun σ H Q=>t σ H fun vs H1=>sp (vs ++ dvs) H1 Q E
def tMake (C : Addr) (sp : Sp) (dvs : List V) (E : XK) (t : TA) : TE:=fun σ H Q=>t σ H fun vs H1=>∀ x dx,H1 x = none → H1 dx = none → dx ≠ x →
 sp (.ref x :: (vs ++ dvs)) (upd (upd H1 dx (.own x)) x (.ins C dx [])) (fun v H2=>v = .non ∧ Q (.ref x) H2) E
def Binds (K : PySem.W.Frag) (fd : FuncData) (ps : List Str) (ds : List Value) : Prop :=
 ∀ (s : Shared) (us : List Value),K.In s.heap → (us ++ ds).length = ps.length → BindsTo s fd ⟨us,[]⟩ (ps.zip (us ++ ds))
theorem Binds.all {K : PySem.W.Frag} {fd : FuncData} {ps : List Str} (h : ∀ us : List Value,us.length = ps.length → bindArgs fd ⟨us,[]⟩ = pure (ps.zip us)) : Binds K fd ps []:=fun s us _ hl=>by
 rw [List.append_nil] at hl ⊢
 exact .of_eq (h us hl)
def Passes (CX : CXT) (X : Cx) (E : XK) : Prop:=∀ (pins : List (Addr × Obj)) (σ : St) (H : Hp) (s : Shared) (e : Value) (s' : Shared),Inv X pins σ H s → CX X.stack H s E e s' → X.xe e s'
section
variable {X : Cx} {CX : CXT} {k : Nat} {f C : Addr} {fd : FuncData} {ps : List Str} {sp : Sp} {dvs : List V} {ds : List Value} {E : XK} {x m : Str} {p pos apos : Pos} {e o : Expr} {es : List Expr} {ta : TE} {t : TA}
theorem run_fn {pins : List (Addr × Obj)} {σ : St} {H : Hp} {s : Shared} {Q : VK} {us : List Value} {vs : List V} (F : FnOk X.prog X.w X.K X.mg X.base CX k f fd ps sp) (hr : Room k X.A) (hb : Binds X.K fd ps ds) (hd : Vals dvs ds) (hx : Passes CX X E)
 (I : Inv X pins σ H s) (r : Vals vs us) (h : sp (vs ++ dvs) H Q E) : wpAny (model X.prog X.w) X.A (call (.ref f) us) (EP X pins σ Q) X.xe s:=by
 have r2 : Vals (vs ++ dvs) (us ++ ds):=r.append hd
 have hl : (us ++ ds).length = ps.length:=by rw [← r2.length]; exact F.len _ _ _ _ h
 refine wpAny_call (codeAny_mono (F.run X.A X.stack s H ⟨us,[]⟩ (us ++ ds) (vs ++ dvs) Q E hr I.env0 (hb s us I.kIn hl) r2 h) fun r s' hq=>?_)
 cases r with
 | error e=>exact hx pins σ H s e s' I hq
 | ok fl =>
  cases fl with
  | ret u=>exact I.after hq
  | next=>exact False.elim hq
  | brk=>exact False.elim hq
  | cont=>exact False.elim hq
theorem pe_call (F : FnOk X.prog X.w X.K X.mg X.base CX k f fd ps sp) (hr : Room k X.A) (hg : Gl X x) (hm : X.mg x = some (.ref f)) (hk : PySem.W.keepIn X.K (.ref f) = true) (hb : Binds X.K fd ps ds) (hd : Vals dvs ds) (hx : Passes CX X E)
 (ha : PA X (e :: es) t) (hdb : (x == ("__debug__" : Str)) = false:=by decide) (he : starEach (e :: es) X.env = (false,eval e X.env) :: starEach es X.env:=by rfl) (hpl : (backTo pos (starEach es X.env)).any (·.1) = false:=by rfl) :
 PE X (.Call (.Name x p) (e :: es) [] pos) (tCall sp dvs E t):=by
 intro pins s σ H Q I h
 refine wpAny_Call_Name_kw (ld_glob I hg hm ?_ hdb)
 refine PySem.W.callWith_K (h₀:=X.base) I.ok.mod.kin hk (thn (ha pos pins s σ H _ I h) fun us s1 ⟨vs,H1,I1,r,q⟩=>⟨I1.kIn,?_⟩) he hpl
 exact run_fn F hr hb hd hx I1 r q
structure Mk (K : PySem.W.Frag) (C f : Addr) : Prop where
 makes : PySem.W.makesIn K C = true
 init : PySem.W.findIn K (.ref C) "__init__" = some (some (.ref f))
 fn : PySem.W.isFn K (.ref f) = true
 kp : PySem.W.keepIn K (.ref C) = true
theorem run_make {pins : List (Addr × Obj)} {σ : St} {H : Hp} {s : Shared} {Q : VK} {us : List Value} {vs : List V} (M : Mk X.K C f) (F : FnOk X.prog X.w X.K X.mg X.base CX k f fd ps sp) (hr : Room (k + 1) X.A) (hb : Binds X.K fd ps ds) (hd : Vals dvs ds)
 (hx : Passes CX X E) (I : Inv X pins σ H s) (r : Vals vs us)
 (h : ∀ x dx,H x = none → H dx = none → dx ≠ x → sp (.ref x :: (vs ++ dvs)) (upd (upd H dx (.own x)) x (.ins C dx [])) (fun v H2=>v = .non ∧ Q (.ref x) H2) E) :
 wpAny (model X.prog X.w) X.A (call (.ref C) us) (EP X pins σ Q) X.xe s:=by
 have hq:=h (s.heap.objs.size + 1) s.heap.objs.size (I.hok.fresh (Nat.le_succ _)) (I.hok.fresh (Nat.le_refl _)) (Nat.ne_of_lt (Nat.lt_succ_self _))
 have I2:=Inv.made (C:=C) I
 have r2 : Vals (V.ref (s.heap.objs.size + 1) :: (vs ++ dvs)) (Value.ref (s.heap.objs.size + 1) :: (us ++ ds)):=.cons rfl (r.append hd)
 have hl : (Value.ref (s.heap.objs.size + 1) :: us ++ ds).length = ps.length:=by
  have e:=r2.length
  rw [F.len _ _ _ _ hq] at e
  exact e.symm
 refine wpAny_call (make_map (f:=f) I.kIn M.makes M.init (beq_iff_eq.mp M.fn) (codeAny_mono (F.run _ X.stack _ _ ⟨Value.ref (s.heap.objs.size + 1) :: us,[]⟩ (Value.ref (s.heap.objs.size + 1) :: (us ++ ds)) _ _ E (hr.make C us [])
  (I2.env0.make C us []) (hb _ (Value.ref (s.heap.objs.size + 1) :: us) I2.kIn hl) r2 hq) fun r s' hq'=>?_))
 cases r with
 | error e=>exact hx pins σ _ _ e s' I2 hq'
 | ok fl =>
  cases fl with
  | ret u =>
   obtain ⟨v,H',I3,rv,ev,q3⟩:=I2.after hq'
   subst ev
   exact ⟨rv,⟨V.ref (s.heap.objs.size + 1),H',I3,rfl,q3⟩⟩
  | next=>exact False.elim hq'
  | brk=>exact False.elim hq'
  | cont=>exact False.elim hq'
theorem pe_make (M : Mk X.K C f) (F : FnOk X.prog X.w X.K X.mg X.base CX k f fd ps sp) (hr : Room (k + 1) X.A) (hg : Gl X x) (hm : X.mg x = some (.ref C)) (hb : Binds X.K fd ps ds) (hd : Vals dvs ds) (hx : Passes CX X E)
 (ha : PA X (e :: es) t) (hdb : (x == ("__debug__" : Str)) = false:=by decide) (he : starEach (e :: es) X.env = (false,eval e X.env) :: starEach es X.env:=by rfl) (hpl : (backTo pos (starEach es X.env)).any (·.1) = false:=by rfl) :
 PE X (.Call (.Name x p) (e :: es) [] pos) (tMake C sp dvs E t):=by
 intro pins s σ H Q I h
 refine wpAny_Call_Name_kw (ld_glob I hg hm ?_ hdb)
 refine PySem.W.callWith_K (h₀:=X.base) I.ok.mod.kin M.kp (thn (ha pos pins s σ H _ I h) fun us s1 ⟨vs,H1,I1,r,q⟩=>⟨I1.kIn,?_⟩) he hpl
 exact run_make M F hr hb hd hx I1 r q
end
section
variable {X : Cx} {CX : CXT} {k : Nat} {f C : Addr} {fd : FuncData} {ps ks : List Str} {sp : Sp} {E : XK} {x m : Str} {p pos apos kpos : Pos} {e o : Expr} {es : List Expr} {kws : List Keyword} {te ta : TE} {t tk : TA} {nm : Option Str}
variable {g : List Value → List Value → List Value} {gV : List V → List V → List V}
end
structure FnScope (N P : List Str) (sc : Scope) : Prop where
 kind : sc.kind = .function
 co : sc.isCoroutine = false
 gen : sc.isGenerator = false
 nd : N.Nodup
 pre : N.take P.length = P
 par : ∀ x ∈ P,sc.names.lookup x = some .local ∨ sc.names.lookup x = some .cell
 nofree : ∀ y ∈ sc.names,y.2 ≠ .free
theorem bindL_out {kindOf : Str → Option NameKind} {x : Str} : ∀ {binds : List (Str × Value)} {m : Str → Option Value},(∀ v,(x,v) ∉ binds) → bindL kindOf binds m x = m x
 | [],_,_=>rfl
 | (n,v) :: r,m,h=>by
  unfold bindL
  rw [bindL_out fun w hw=>h w (List.mem_cons_of_mem _ hw)]
  split
  · have : x ≠ n:=by rintro rfl; exact h v List.mem_cons_self
    simp [this]
  · rfl
theorem bindC_out {kindOf : Str → Option NameKind} {x : Str} : ∀ {binds : List (Str × Value)} {m : Str → Option Value},(∀ v,(x,v) ∉ binds) → bindC kindOf binds m x = m x
 | [],_,_=>rfl
 | (n,v) :: r,m,h=>by
  unfold bindC
  rw [bindC_out fun w hw=>h w (List.mem_cons_of_mem _ hw)]
  split
  · rfl
  · have : x ≠ n:=by rintro rfl; exact h v List.mem_cons_self
    simp [this]
theorem bindL_get {kindOf : Str → Option NameKind} {x : Str} {v : Value} : ∀ {P : List Str} {vs : List Value} {i : Nat} {m : Str → Option Value},P.Nodup → P[i]? = some x → vs[i]? = some v → kindOf x = some .local →
 bindL kindOf (P.zip vs) m x = some v
 | [],_,_,_,_,h,_,_=>by simp at h
 | _ :: _,[],_,_,_,_,h,_=>by simp at h
 | p :: P,w :: vs,0,m,nd,h1,h2,hk=>by
  simp at h1 h2; subst h1; subst h2
  show bindL kindOf ((p,w) :: P.zip vs) m p = _
  unfold bindL
  rw [bindL_out fun v hv=>(List.nodup_cons.mp nd).1 (List.of_mem_zip hv).1,if_pos hk]
  simp
 | p :: P,w :: vs,i + 1,m,nd,h1,h2,hk=>by
  show bindL kindOf ((p,w) :: P.zip vs) m x = _
  unfold bindL
  exact bindL_get (i:=i) (List.nodup_cons.mp nd).2 (by simpa using h1) (by simpa using h2) hk
theorem bindC_get {kindOf : Str → Option NameKind} {x : Str} {v : Value} : ∀ {P : List Str} {vs : List Value} {i : Nat} {m : Str → Option Value},P.Nodup → P[i]? = some x → vs[i]? = some v → kindOf x ≠ some .local →
 bindC kindOf (P.zip vs) m x = some v
 | [],_,_,_,_,h,_,_=>by simp at h
 | _ :: _,[],_,_,_,_,h,_=>by simp at h
 | p :: P,w :: vs,0,m,nd,h1,h2,hk=>by
  simp at h1 h2; subst h1; subst h2
  show bindC kindOf ((p,w) :: P.zip vs) m p = _
  unfold bindC
  rw [bindC_out fun v hv=>(List.nodup_cons.mp nd).1 (List.of_mem_zip hv).1,if_neg hk]
  simp
 | p :: P,w :: vs,i + 1,m,nd,h1,h2,hk=>by
  show bindC kindOf ((p,w) :: P.zip vs) m x = _
  unfold bindC
  exact bindC_get (i:=i) (List.nodup_cons.mp nd).2 (by simpa using h1) (by simpa using h2) hk
def start (N : List Str) (vs : List V) : St:=vs.map some ++ List.replicate (N.length - vs.length) none
def cxOf (CX : CXT) (P : Program) (w : World) (K : PySem.W.Frag) (mg : Str → Option Value) (base : Heap) (N : List Str) (qual : Str) (scope : Scope) (f : Addr) (cd : Value) (A : Around) (outer : List Env) (s : Shared) (H : Hp) (E : XK) : Cx where
 prog:=P
 w:=w
 K:=K
 mg:=mg
 base:=base
 A:=A.deeper (envOfC qual scope s.heap.objs.size f cd)
 N:=N
 s₀:=s
 H₀:=H
 env:=envOfC qual scope s.heap.objs.size f cd
 outer:=outer
 stack:=envOfC qual scope s.heap.objs.size f cd :: outer
 ex:=[]
 calm:=true
 fn:=fun _=>true
 pn:=[]
 xe:=fun e s'=>wpAny (model P w) (A.deeper (envOfC qual scope s.heap.objs.size f cd)) (leaving (envOfC qual scope s.heap.objs.size f cd) e) (fun _ s''=>CX outer H s E e s'') (fun e' s''=>CX outer H s E e' s'') s'
theorem cell_has {sc : Scope} {n : Nat} {x : Str} (h : sc.names.lookup x = some .cell) : ∃ c,(cellsFrom n sc.names []).lookup x = some c:=by
 have q:=PySem.W.cellsFrom_some sc.names n [] (.inl h)
 exact Option.isSome_iff_exists.mp q
theorem inv_start {CX : CXT} {P : Program} {w : World} {K : PySem.W.Frag} {mg : Str → Option Value} {base : Heap} {N ps : List Str} {qual : Str} {scope : Scope} {f : Addr} {cd : Value} {A : Around} {outer : List Env} {s s1 : Shared} {H : Hp} {E : XK} {us : List Value} {vs : List V}
 (S : FnScope N ps scope) (hd : A.handled = none) (e0 : Env0 P w K mg base A outer s H) (hl : vs.length = ps.length) (r : Vals vs us)
 (x : InCallC s s.heap.objs.size (bindL (envOfC qual scope s.heap.objs.size f cd).kindOf (ps.zip us) fun _=>none) (cellsFrom (s.heap.objs.size + 1) scope.names []) (bindC (envOfC qual scope s.heap.objs.size f cd).kindOf (ps.zip us) fun _=>none) s1) :
 Inv (cxOf CX P w K mg base N qual scope f cd A outer s H E) [] (start N vs) H s1:=by
 have hpl : ps.length ≤ N.length:=by have:=congrArg List.length S.pre; rw [List.length_take] at this; omega
 obtain ⟨h1,tk,rfl,hk⟩:=x.done
 have noA : ∀ b : Addr,b ∉ (cxOf CX P w K mg base N qual scope f cd A outer s H E).ex:=fun b z=>absurd (show b ∈ ([] : List Addr) from z) (by simp)
 refine ⟨⟨e0.mod,S.kind,rfl,rfl,Nat.le_refl _,fun y z c h1 h2=>?_,fun y hy=>?_,fun y c _ h=>?_,fun _=>hd,Around.frames_deeper e0.frames,.inr ⟨rfl,rfl⟩,fun b z=>absurd z (noA b),e0.bs,e0.bsz,fun b _ _=>noA b,fun b z=>absurd z (noA b),e0.funs,e0.frf⟩,
  rfl,e0.bare,Un.kept hk,⟨_,x.toInCall.ns,fun i y v h1 h2 h3=>?_⟩,fun y c h=>⟨_,x.cell y c h⟩,e0.hok.fresh (Nat.le_refl _),fun y c h=>?_,fun p hp=>absurd (show p ∈ ([] : List (Addr × Obj)) from hp) (by simp),e0.hok.kept hk,?_⟩
 · exact name_of_addr x.apart (PySem.mem_of_lookup h1) (PySem.mem_of_lookup h2)
 · have hy : scope.names.lookup y = some .cell ∨ scope.names.lookup y = some .free:=hy
   rcases hy with hy | hy
   · exact cell_has hy
   · exact absurd rfl (S.nofree _ (PySem.mem_of_lookup hy))
 · exact Nat.le_of_lt (x.above y c (PySem.mem_of_lookup h))
 · have hi : i < vs.length:=by
    unfold start at h2
    by_cases hi : i < vs.length
    · exact hi
    · rw [List.getElem?_append_right (by simpa using hi)] at h2
      rw [List.getElem?_replicate] at h2
      split at h2 <;> cases h2
   have ha : vs[i]? = some v:=by
    unfold start at h2
    rw [List.getElem?_append_left (by simpa using hi),List.getElem?_map] at h2
    cases e : vs[i]? with
    | none=>rw [e] at h2; cases h2
    | some a=>rw [e] at h2; cases h2; rfl
   obtain ⟨u,hu,rv⟩:=r.get ha
   have hp : ps[i]? = some y:=by
    rw [← S.pre,List.getElem?_take_of_lt (by omega)]; exact h1
   have ndP : ps.Nodup:=by rw [← S.pre]; exact S.nd.sublist (List.take_sublist _ _)
   refine ⟨u,rv,?_⟩
   rcases S.par y (List.mem_of_getElem? hp) with k | k
   · exact .inl ⟨k,bindL_get ndP hp hu k⟩
   · obtain ⟨c,e⟩:=cell_has (n:=s.heap.objs.size + 1) k
     refine .inr ⟨.inl k,c,e,?_⟩
     have q:=x.cell y c e
     rw [bindC_get ndP hp hu (by show scope.names.lookup y ≠ _; rw [k]; decide)] at q
     exact q
 · exact e0.hok.fresh (Nat.le_of_lt (x.above y c (PySem.mem_of_lookup h)))
 · unfold start
   show _ = N.length
   rw [List.length_append,List.length_map,List.length_replicate]
   omega
theorem fn_of {CX : CXT} {P : Program} {w : World} {K : PySem.W.Frag} {mg : Str → Option Value} {base : Heap} {k : Nat} {f : Addr} {name qual : Str} {params : Arguments} {body : List Stmt} {scope : Scope} {dV kV doc pm cdv ct oc : Value} {an od : Option Addr}
 {osl : Array (Option Value)} {N ps : List Str} {sp : Sp} (lk : K.lookup f = some ⟨oc,od,.func (PySem.W.fnOf name qual params body scope dV kV doc pm an cdv ct),osl⟩) (hcd : PySem.W.codeIn K cdv qual = true) (S : FnScope N ps scope)
 (len : ∀ vs H Q E,sp vs H Q E → vs.length = ps.length)
 (hbody : ∀ (A : Around) (outer : List Env) (s : Shared) (H : Hp) (vs : List V) (Q : VK) (E : XK),Room k (A.deeper (envOfC qual scope s.heap.objs.size f cdv)) → sp vs H Q E →
  ∃ t,PSs (cxOf CX P w K mg base N qual scope f cdv A outer s H E) body t ∧ t { nx:=fun _ H'=>Q .non H',rt:=Q } (start N vs) H) :
 FnOk P w K mg base CX (k + 1) f (PySem.W.fnOf name qual params body scope dV kV doc pm an cdv ct) ps sp:=by
 refine ⟨len,fun A outer s H args us vs Q E hr e0 hb r hsp=>?_⟩
 have hl:=len _ _ _ _ hsp
 have KX : K.In s.heap:=e0.mod.kin.keeps fun b o e=>(e0.bs b o e).1
 have lim : s.heap.NoLimit:=e0.mod.nolimit.keeps fun b o e=>(e0.bs b o e).1
 have hkind : ∀ y ∈ ps.zip us,scope.names.lookup y.1 = some .local ∨ (scope.names.lookup y.1 = some .cell ∧ ((cellsFrom (s.heap.objs.size + 1) scope.names []).lookup y.1).isSome = true):=fun ⟨n,v⟩ hy=>by
  rcases S.par n (List.of_mem_zip hy).1 with q | q
  · exact .inl q
  · exact .inr ⟨q,PySem.W.cellsFrom_some _ _ _ (.inl q)⟩
 refine codeAny_call_function hr.depth (KX _ _ lk) rfl S.co S.gen rfl (PySem.W.codeRec_of KX hcd) (hb _ _ _ _ ?_)
 refine wpAny_newFunctionEnv_cells S.kind hkind fun env he s1 x=>?_
 subst he
 refine ⟨lim.keeps x.toInCall.keep,codeAny_func ?_⟩
 obtain ⟨t,ht,hq⟩:=hbody A outer s H vs Q E (hr.deeper _) hsp
 have I : Inv (cxOf CX P w K mg base N qual scope f cdv A outer s H E) [] (start N vs) H s1:=inv_start S hr.hd e0 hl r x
 refine wpAny_mono (ht [] s1 (start N vs) H _ I hq) (fun fl s' hs=>?_) fun e s' hs=>hs
 have fin : ∀ {σ' : St} {H' : Hp} {v : V} {u : Value},Inv (cxOf CX P w K mg base N qual scope f cdv A outer s H E) [] σ' H' s' → RelV v u → Q v H' → CE outer P w H s Q u s' :=
  fun {σ' H' v u} J rv q=>⟨v,H',J.os,J.bare,J.base,J.hok,rv,q⟩
 cases fl with
 | ret u =>
  obtain ⟨v,σ',H',J,rv,q⟩:=hs
  exact fin J rv q
 | next =>
  obtain ⟨σ',H',J,q⟩:=hs
  exact fin (v:=V.non) (u:=Value.none) J rfl q
 | brk =>
  obtain ⟨_,_,_,q⟩:=hs
  exact False.elim q
 | cont =>
  obtain ⟨_,_,_,q⟩:=hs
  exact False.elim q
end L2
namespace L2
open PySem PySem.Spec PyProof.Rows
section
variable {X : Cx} {x : Str} {p pos : Pos} {e : Expr} {es : List Expr} {t : TA} {id T : String} {r : List V → Hp → VK → Prop}
def tCB (r : List V → Hp → VK → Prop) (t : TA) : TE:=fun σ H Q=>t σ H fun vs H1=>r vs H1 Q
theorem pe_callB (hc : CallR X (.builtin id) r) (hg : Gl X x) (hm : X.mg x = none) (hv : bootBuiltins x = some (.builtin id)) (ha : PA X (e :: es) t) (hn : x ≠ "__name__":=by decide) (hdb : (x == ("__debug__" : Str)) = false:=by decide)
 (he : starEach (e :: es) X.env = (false,eval e X.env) :: starEach es X.env:=by rfl) (hpl : (backTo pos (starEach es X.env)).any (·.1) = false:=by rfl) : PE X (.Call (.Name x p) (e :: es) [] pos) (tCB r t):=by
 intro pins s σ H Q I h
 refine wpAny_Call_Name_kw (ld_blt I hg hm hv ?_ hn hdb)
 exact PyProof.Rows.callWith_builtin1 (thn (ha pos pins s σ H _ I h) fun us s1 ⟨vs,H1,I1,r1,q1⟩=>hc pins s1 σ H1 vs us Q I1 r1 q1) he hpl
theorem pe_callTy (hc : CallR X (.type T) r) (hg : Gl X x) (hm : X.mg x = none) (hv : bootBuiltins x = some (.type T)) (ha : PA X (e :: es) t) (hn : x ≠ "__name__":=by decide) (hdb : (x == ("__debug__" : Str)) = false:=by decide)
 (he : starEach (e :: es) X.env = (false,eval e X.env) :: starEach es X.env:=by rfl) (hpl : (backTo pos (starEach es X.env)).any (·.1) = false:=by rfl) : PE X (.Call (.Name x p) (e :: es) [] pos) (tCB r t):=by
 intro pins s σ H Q I h
 refine wpAny_Call_Name_kw (ld_blt I hg hm hv ?_ hn hdb)
 exact PyProof.Rows.callWith_type1 (thn (ha pos pins s σ H _ I h) fun us s1 ⟨vs,H1,I1,r1,q1⟩=>hc pins s1 σ H1 vs us Q I1 r1 q1) he hpl
end
end L2
namespace L2
open PySem PySem.Spec PyProof.Rows
section
variable {κ : Type} [DecidableEq κ]
def valV (kvs : List (κ × V)) (k : κ) : Option V:=(kvs.find? fun kv=>decide (kv.1 = k)).map (·.2)
def putK (kvs : List (κ × V)) (k : κ) (v : V) : List (κ × V) :=
 if (kvs.any fun kv=>decide (kv.1 = k)) = true then kvs.map (fun kv=>if kv.1 = k then (kv.1,v) else kv) else kvs ++ [(k,v)]
theorem valV_pos {p : κ × V} {r : List (κ × V)} {k : κ} (e : p.1 = k) : valV (p :: r) k = some p.2:=by simp [valV,List.find?_cons,e]
theorem valV_neg {p : κ × V} {r : List (κ × V)} {k : κ} (e : ¬ p.1 = k) : valV (p :: r) k = valV r k:=by simp [valV,List.find?_cons,e]
theorem valV_any (k : κ) : ∀ kvs : List (κ × V),(kvs.any fun kv=>decide (kv.1 = k)) = (valV kvs k).isSome
 | []=>rfl
 | p :: r=>by
  rw [List.any_cons]
  by_cases e : p.1 = k
  · simp only [valV_pos e,decide_eq_true e,Bool.true_or,Option.isSome_some]
  · rw [valV_neg e,decide_eq_false e,Bool.false_or]; exact valV_any k r
theorem length_putK (kvs : List (κ × V)) (k : κ) (v : V) : (putK kvs k v).length ≤ kvs.length + 1:=by
 unfold putK
 split
 · rw [List.length_map]; omega
 · rw [List.length_append,List.length_cons,List.length_nil]; omega
theorem putK_new {kvs : List (κ × V)} {k : κ} (v : V) (h : valV kvs k = none) : putK kvs k v = kvs ++ [(k,v)]:=by
 unfold putK
 rw [valV_any,h]
 exact if_neg (by decide)
theorem RelO.isSome_eq {o : Option V} {u : Option Value} (r : RelO o u) : o.isSome = u.isSome:=by
 cases o with
 | none=>cases u with
  | none=>rfl
  | some _=>exact (show False from r).elim
 | some _=>cases u with
  | none=>exact (show False from r).elim
  | some _=>rfl
theorem RelO.getD {o : Option V} {u : Option Value} {d : V} {d' : Value} (r : RelO o u) (rd : RelV d d') : RelV (o.getD d) (u.getD d'):=by
 cases o with
 | none=>cases u with
  | none=>exact rd
  | some _=>exact (show False from r).elim
 | some _=>cases u with
  | none=>exact (show False from r).elim
  | some _=>exact r
theorem KV.val {kvs : List (κ × V)} {vs : List (κ × Value)} (r : KV kvs vs) (k : κ) : RelO (valV kvs k) (valueAt vs k):=by
 unfold KV at r
 induction r with
 | nil=>exact True.intro
 | @cons p q ps qs h t ih =>
  obtain ⟨h1,h2⟩:=h
  by_cases e : p.1 = k
  · have e' : q.1 = k:=h1.symm.trans e
    have b : valueAt (q :: qs) k = some q.2:=by simp [valueAt,List.find?_cons,e']
    rw [valV_pos e,b]; exact h2
  · have e' : ¬ q.1 = k:=fun z=>e (h1.trans z)
    have b : valueAt (q :: qs) k = valueAt qs k:=by simp [valueAt,List.find?_cons,e']
    rw [valV_neg e,b]; exact ih
theorem KV.any {kvs : List (κ × V)} {vs : List (κ × Value)} (r : KV kvs vs) (k : κ) : (kvs.any fun kv=>decide (kv.1 = k)) = vs.any fun kv=>decide (kv.1 = k):=by
 unfold KV at r
 induction r with
 | nil=>rfl
 | cons h t ih=>rw [List.any_cons,List.any_cons,ih,h.1]
theorem KV.repl {kvs : List (κ × V)} {vs : List (κ × Value)} (r : KV kvs vs) (k : κ) {y : V} {u : Value} (ry : RelV y u) :
 KV (kvs.map fun kv=>if kv.1 = k then (kv.1,y) else kv) (vs.map fun kv=>if kv.1 = k then (kv.1,u) else kv):=by
 unfold KV at r ⊢
 induction r with
 | nil=>exact .nil
 | @cons p q ps qs h t ih =>
  rw [List.map_cons,List.map_cons]
  refine .cons ?_ ih
  obtain ⟨h1,h2⟩:=h
  by_cases e : p.1 = k
  · rw [if_pos e,if_pos (h1.symm.trans e)]; exact ⟨h1,ry⟩
  · rw [if_neg e,if_neg (fun z=>e (h1.trans z))]; exact ⟨h1,h2⟩
theorem KV.put {kvs : List (κ × V)} {vs : List (κ × Value)} (r : KV kvs vs) (k : κ) {y : V} {u : Value} (ry : RelV y u) : KV (putK kvs k y) (stored vs k u):=by
 unfold putK stored
 rw [r.any k]
 by_cases e : (vs.any fun kv=>decide (kv.1 = k)) = true
 · rw [if_pos e,if_pos e]; exact r.repl k ry
 · rw [if_neg e,if_neg e]; exact Paired.snoc r ⟨rfl,ry⟩
theorem KV.length {kvs : List (κ × V)} {vs : List (κ × Value)} (r : KV kvs vs) : kvs.length = vs.length:=Paired.length r
end
theorem kV_is {P : Program} {w : World} {k : Key} {u : Value} (r : RelV (kV k) u) : (mixKind P w).is k u = true:=by
 cases k with
 | inl i=>obtain ⟨t,e⟩:=(show ∃ t,u = Value.int i t from r); subst e; exact mixKind_int P w i t
 | inr x=>obtain ⟨t,e⟩:=(show ∃ t,u = Value.str x t from r); subst e; exact mixKind_str P w x t
theorem items_are {P : Program} {w : World} : ∀ {ks : List Key} {us : List Value},Vals (ks.map kV) us → ItemsAre (mixKind P w) ks us
 | [],_,r=>by rw [List.map_nil] at r; cases r; exact .nil
 | k :: ks,_,r=>by
  rw [List.map_cons] at r
  cases r with
  | cons h t=>exact .cons (kV_is h) (items_are t)
abbrev KT (H : Hp) : List (List Key × V) → List (List Key × Addr × Value) → Prop:=Paired fun p q=>p.1 = q.1 ∧ H q.2.1 = some (.tup (p.1.map kV)) ∧ RelV p.2 q.2.2
theorem KT.val {H : Hp} {kvs : List (List Key × V)} {xs : List (List Key × Addr × Value)} (r : KT H kvs xs) (k : List Key) : RelO (valV kvs k) ((atKey xs k).map (·.2)):=by
 induction r with
 | nil=>exact True.intro
 | @cons p q ps qs h t ih =>
  obtain ⟨h1,_,h2⟩:=h
  by_cases e : p.1 = k
  · have e' : q.1 = k:=h1.symm.trans e
    have b : atKey (q :: qs) k = some q.2:=by simp [atKey,List.find?_cons,e']
    rw [valV_pos e,b]; exact h2
  · have e' : ¬ q.1 = k:=fun z=>e (h1.trans z)
    have b : atKey (q :: qs) k = atKey qs k:=by simp [atKey,List.find?_cons,e']
    rw [valV_neg e,b]; exact ih
theorem KT.repl {H : Hp} {kvs : List (List Key × V)} {xs : List (List Key × Addr × Value)} (r : KT H kvs xs) (k : List Key) {y : V} {u : Value} (ry : RelV y u) :
 KT H (kvs.map fun kv=>if kv.1 = k then (kv.1,y) else kv) (xs.map (putAt k u)):=by
 induction r with
 | nil=>exact .nil
 | @cons p q ps qs h t ih =>
  rw [List.map_cons,List.map_cons]
  refine .cons ?_ ih
  obtain ⟨h1,h2,h3⟩:=h
  unfold putAt
  by_cases e : p.1 = k
  · rw [if_pos e,if_pos (h1.symm.trans e)]; exact ⟨h1,h2,ry⟩
  · rw [if_neg e,if_neg (fun z=>e (h1.trans z))]; exact ⟨h1,h2,h3⟩
theorem KT.put {H : Hp} {kvs : List (List Key × V)} {xs : List (List Key × Addr × Value)} (r : KT H kvs xs) (k : List Key) {b : Addr} {y : V} {u : Value} (hb : H b = some (.tup (k.map kV))) (ry : RelV y u) :
 KT H (putK kvs k y) (storedH xs k b u):=by
 have e : (kvs.any fun kv=>decide (kv.1 = k)) = (atKey xs k).isSome:=by
  rw [valV_any,(r.val k).isSome_eq,Option.isSome_map]
 unfold putK storedH
 rw [e]
 by_cases q : (atKey xs k).isSome = true
 · rw [if_pos q,if_pos q]; exact r.repl k ry
 · rw [if_neg q,if_neg q]; exact Paired.snoc r ⟨rfl,hb,ry⟩
theorem KT.keeps {H H' : Hp} {kvs : List (List Key × V)} {xs : List (List Key × Addr × Value)} (r : KT H kvs xs) (ht : ∀ b ys,H b = some (.tup ys) → H' b = some (.tup ys)) : KT H' kvs xs :=
 Paired.mapP r fun _ _ z=>⟨z.1,ht _ _ z.2.1,z.2.2⟩
section
variable {P : Program} {w : World} {H : Hp} {h : Heap} {a : Addr}
theorem rd_of {u : HO} (ok : HOk P w H h) (e : Rd H a u) : ObjOk P w H h a u:=e.ok ok
theorem dk_rd {kvs : List (Key × V)} (ok : HOk P w H h) (e : Rd H a (.dK kvs)) : kvs.length ≤ sizeLine ∧ (a == sysModules) = false ∧ ∃ vs,KV kvs vs ∧ h.DictOf (mixKind P w) a vs :=
 show ObjOk P w H h a (.dK kvs) from rd_of ok e
theorem dk_of {kvs : List (Key × V)} (ok : HOk P w H h) (e : H a = some (.dK kvs)) : kvs.length ≤ sizeLine ∧ (a == sysModules) = false ∧ ∃ vs,KV kvs vs ∧ h.DictOf (mixKind P w) a vs:=dk_rd ok (.inl e)
theorem key_of {ks : List Key} (ok : HOk P w H h) (e : H a = some (.tup (ks.map kV))) : (tupleKind (mixKind P w)).is h ks a:=by
 obtain ⟨_,its,r,o,h1,h2,n,h3⟩:=(show ObjOk P w H h a (.tup (ks.map kV)) from ok a _ e)
 exact ⟨o,its.toArray,n,h1,h2,h3,by simpa using items_are r⟩
theorem dt_rd {kvs : List (List Key × V)} (ok : HOk P w H h) (e : Rd H a (.dT kvs)) : kvs.length ≤ sizeLine ∧ (a == sysModules) = false ∧
 ∃ xs,KT H kvs xs ∧ h.DictOfH (tupleKind (mixKind P w)) a xs:=by
 obtain ⟨z,y,xs,r,o,es,ep,h1,h2,h3,h4,h5⟩:=(show ObjOk P w H h a (.dT kvs) from rd_of ok e)
 refine ⟨z,y,xs,r,o,es,ep,h1,h2,h3,h4,fun x hx=>?_,h5⟩
 have all : ∀ {l : List (List Key × V)} {m : List (List Key × Addr × Value)},KT H l m → ∀ x ∈ m,(tupleKind (mixKind P w)).is h x.1 x.2.1:=by
  intro l m q
  induction q with
  | nil=>intro x hx; exact nomatch hx
  | @cons p q ps qs hq t ih =>
   intro x hx
   rcases List.mem_cons.mp hx with e | hx
   · subst e
     exact key_of ok (by rw [← hq.1]; exact hq.2.1)
   · exact ih x hx
 exact all r x hx
theorem dt_of {kvs : List (List Key × V)} (ok : HOk P w H h) (e : H a = some (.dT kvs)) : kvs.length ≤ sizeLine ∧ (a == sysModules) = false ∧
 ∃ xs,KT H kvs xs ∧ h.DictOfH (tupleKind (mixKind P w)) a xs:=dt_rd ok (.inl e)
end
def DGet (H : Hp) (a : Addr) (y : V) (r : Option V) : Prop :=
 (∃ kvs k,Rd H a (.dK kvs) ∧ y = kV k ∧ r = valV kvs k) ∨ ∃ kvs k b,Rd H a (.dT kvs) ∧ y = .ref b ∧ H b = some (.tup (k.map kV)) ∧ r = valV kvs k
def DPut (H : Hp) (a : Addr) (y v : V) (H' : Hp) : Prop :=
 (∃ kvs k,H a = some (.dK kvs) ∧ y = kV k ∧ kvs.length < sizeLine ∧ H' = upd H a (.dK (putK kvs k v))) ∨
 ∃ kvs k b,H a = some (.dT kvs) ∧ y = .ref b ∧ H b = some (.tup (k.map kV)) ∧ kvs.length < sizeLine ∧ H' = upd H a (.dT (putK kvs k v))
theorem DGet.k {H : Hp} {a : Addr} {kvs : List (Key × V)} {k : Key} (e : H a = some (.dK kvs)) : DGet H a (kV k) (valV kvs k):=.inl ⟨kvs,k,.inl e,rfl,rfl⟩
theorem DPut.k {H : Hp} {a : Addr} {kvs : List (Key × V)} {k : Key} {v : V} (e : H a = some (.dK kvs)) (hl : kvs.length < sizeLine) : DPut H a (kV k) v (upd H a (.dK (putK kvs k v))):=.inl ⟨kvs,k,e,rfl,hl,rfl⟩
section
variable {X : Cx} {pins : List (Addr × Obj)} {σ : St} {H : Hp} {s : Shared} {a : Addr} {y v : V} {u r : Value} {o : Option V} {A : Around} {E : Value → Shared → Prop}
theorem Inv.big (I : Inv X pins σ H s) : sysModules < s.heap.objs.size:=by
 have h : mainGlobals < s.heap.objs.size:=(I.mod.glob.keeps I.bk).lt
 exact Nat.lt_trans (by decide) h
theorem d_getItem {Q : Value → Shared → Prop} (hu : A.units + 1 < cLine) (I : Inv X pins σ H s) (g : DGet H a y (some v)) (ry : RelV y u) (h : ∀ w' s',Inv X pins σ H s' → RelV v w' → Q w' s') :
 wpAny (model X.prog X.w) A (getItem (.ref a) u) Q E s:=by
 rcases g with ⟨kvs,k,e,ey,l⟩ | ⟨kvs,k,b,e,ey,eb,l⟩
 · subst ey
   obtain ⟨z,hd,vs,rel,dd⟩:=dk_rd I.hok e
   obtain ⟨w',hw,rw'⟩:=RelO.some_of (v:=v) (o:=valueAt vs k) (by rw [l]; exact rel.val k)
   exact wpAny_getItem_of (kV_is ry) dd.mapOf hw (h w' _ (I.tok _) rw')
 · subst ey
   cases (show u = Value.ref b from ry)
   obtain ⟨z,hd,xs,rel,dd⟩:=dt_rd I.hok e
   obtain ⟨w',hw,rw'⟩:=RelO.some_of (v:=v) (o:=(atKey xs k).map (·.2)) (by rw [l]; exact rel.val k)
   obtain ⟨p,hp,hp2⟩:=Option.map_eq_some_iff.mp hw
   refine wpAny_getItem_heap (tupleKind_room_in1 hu) (key_of I.hok eb) dd hp ?_
   rw [hp2]
   exact h w' _ (I.tok _) rw'
theorem d_in {Q : Value → Shared → Prop} (hu : A.units + 1 < cLine) (I : Inv X pins σ H s) (g : DGet H a y o) (ry : RelV y u) (h : ∀ s',Inv X pins σ H s' → Q (.bool o.isSome) s') :
 wpAny (model X.prog X.w) A (compareOp .In u (.ref a)) Q E s:=by
 rcases g with ⟨kvs,k,e,ey,l⟩ | ⟨kvs,k,b,e,ey,eb,l⟩
 · subst ey
   obtain ⟨z,hd,vs,rel,dd⟩:=dk_rd I.hok e
   refine wpAny_in_of (kV_is ry) hd dd.mapOf ?_
   rw [← (rel.val k).isSome_eq,← l]
   exact h _ (I.tok _)
 · subst ey
   cases (show u = Value.ref b from ry)
   obtain ⟨z,hd,xs,rel,dd⟩:=dt_rd I.hok e
   refine wpAny_in_heap (tupleKind_room_in1 hu) (key_of I.hok eb) hd dd ?_
   have q:=(rel.val k).isSome_eq
   rw [Option.isSome_map] at q
   rw [← q,← l]
   exact h _ (I.tok _)
theorem d_notIn {Q : Value → Shared → Prop} (hu : A.units + 1 < cLine) (I : Inv X pins σ H s) (g : DGet H a y o) (ry : RelV y u) (h : ∀ s',Inv X pins σ H s' → Q (.bool (!o.isSome)) s') :
 wpAny (model X.prog X.w) A (compareOp .NotIn u (.ref a)) Q E s:=by
 rcases g with ⟨kvs,k,e,ey,l⟩ | ⟨kvs,k,b,e,ey,eb,l⟩
 · subst ey
   obtain ⟨z,hd,vs,rel,dd⟩:=dk_rd I.hok e
   refine wpAny_notIn_of (kV_is ry) hd dd.mapOf ?_
   rw [← (rel.val k).isSome_eq,← l]
   exact h _ (I.tok _)
 · subst ey
   cases (show u = Value.ref b from ry)
   obtain ⟨z,hd,xs,rel,dd⟩:=dt_rd I.hok e
   refine wpAny_notIn_heap (tupleKind_room_in1 hu) (key_of I.hok eb) hd dd ?_
   have q:=(rel.val k).isSome_eq
   rw [Option.isSome_map] at q
   rw [← q,← l]
   exact h _ (I.tok _)
theorem d_write {h' : Heap} {t' : Nat} {ob : HO} (I : Inv X pins σ H s) (mu : Mut (H a)) (hs : Heap.SameBut a s.heap h') (he : ∃ q,h'.get? a = some q) (new : ObjOk X.prog X.w (upd H a ob) h' a ob) :
 Inv X pins σ (upd H a ob) { s with heap:=h',toks:=t' } :=
 I.write (x:=a) (e:=a) mu (.inl rfl) (fun b q hb z=>(hs.2 b hb).trans z) he new
theorem dk_new {P : Program} {w : World} {H' : Hp} {h' : Heap} {kvs : List (Key × V)} {vs : List (Key × Value)} (z : kvs.length ≤ sizeLine) (hd : (a == sysModules) = false) (rel : KV kvs vs) (dd : h'.DictOf (mixKind P w) a vs) :
 ObjOk P w H' h' a (.dK kvs):=⟨z,hd,vs,rel,dd⟩
theorem d_setItem {H' : Hp} {Q : Unit → Shared → Prop} (hu : A.units + 1 < cLine) (I : Inv X pins σ H s) (g : DPut H a y v H') (ry : RelV y u) (rv : RelV v r) (h : ∀ s',Inv X pins σ H' s' → Q () s') :
 wpAny (model X.prog X.w) A (setItem (.ref a) u r) Q E s:=by
 rcases g with ⟨kvs,k,e,ey,l,eH⟩ | ⟨kvs,k,b,e,ey,eb,l,eH⟩
 · subst ey eH
   obtain ⟨z,hd,vs,rel,dd⟩:=dk_of I.hok e
   have hz : vs.length ≤ sizeLine:=by rw [← rel.length]; exact z
   have hl : (putK kvs k v).length ≤ sizeLine:=by have:=length_putK kvs k v; omega
   refine wpAny_setItem_pairs (hsz:=hz) (kV_is ry) dd fun h' dd' hs=>h _ ?_
   have he : ∃ q,h'.get? a = some q:=let ⟨q,_,_,hq,_⟩:=dd'; ⟨q,hq⟩
   exact d_write I (by rw [e]; exact True.intro) hs he (dk_new hl hd (rel.put k rv) dd')
 · subst ey eH
   cases (show u = Value.ref b from ry)
   obtain ⟨z,hd,xs,rel,dd⟩:=dt_of I.hok e
   have hz : xs.length ≤ sizeLine:=by rw [← Paired.length rel]; exact z
   have hl : (putK kvs k v).length ≤ sizeLine:=by have:=length_putK kvs k v; omega
   refine wpAny_setItem_heap (hsz:=hz) (tupleKind_room_in1 hu) (key_of I.hok eb) dd fun h' dd' hs=>h _ ?_
   obtain ⟨q,es,ep,hq,h2,h3,h4,_,h5⟩:=dd'
   refine d_write I (by rw [e]; exact True.intro) hs ⟨q,hq⟩ ⟨hl,hd,_,(rel.put k eb rv).keeps fun c ys ec=>?_,q,es,ep,hq,h2,h3,h4,h5⟩
   rw [upd_ne (ne_of ec e (fun z=>nomatch z))]
   exact ec
end
section
variable {X : Cx} {pins : List (Addr × Obj)} {σ : St} {H : Hp} {s : Shared} {a : Addr} {kvs : List (Key × V)} {k : Key} {u : Value} {A : Around} {E : Value → Shared → Prop}
theorem d_len {Q : Value → Shared → Prop} (I : Inv X pins σ H s) (e : Rd H a (.dK kvs)) (h : ∀ t s',Inv X pins σ H s' → Q (.int kvs.length t) s') : wpAny (model X.prog X.w) A (call (.builtin "len") [.ref a]) Q E s:=by
 obtain ⟨z,hd,vs,rel,dd⟩:=dk_rd I.hok e
 refine call_len_dict hd dd (by rw [← rel.length]; rw [sizeLine_eq] at z; omega) ?_
 rw [← rel.length]
 exact h _ _ (I.tok _)
end
def NoSl (i : Expr) : Prop:=∀ ov iv,subscripted i false ov iv = operate [ov,iv] (getItem ov iv)
theorem subD_of {prog : Program} {w : World} {A : Around} {E : Value → Shared → Prop} {s : Shared} {env : Env} {value slice : Expr} {pos : Pos} {T id : String} {Q : Value → Shared → Prop}
 (hl : typeLookup (.type T) "__getitem__" = pure (some (.builtin id))) (hs : NoSl slice)
 (h : wpAny (model prog w) A (eval value env) (fun o s₁=>wpAny (model prog w) A (eval slice env) (fun i s₂=>s₂.TypeIs o T ∧ wpAny (model prog w) A (getItem o i) Q E s₂) E s₁) E s) :
 wpAny (model prog w) A (eval (.Subscript value slice pos) env) Q E s:=by
 refine Subscript_ (wpAny_mono h (fun o s₁ h₁=>wpAny_mono h₁ (fun i s₂ h₂=>?_) fun _ _ x=>x) fun _ _ x=>x)
 obtain ⟨hT,h₂⟩:=h₂
 unfold subscriptTail
 refine wpAny_bind ?_
 rw [getitemInPython_of_ne hT.not_modules]
 refine wpAny_bind (wpAny_specialOf hT hl ?_)
 have fin : wpAny (model prog w) A (subscripted slice false o i) (fun r s₃=>wpAny (model prog w) A (letTemporaryGo value o r >>= fun _=>pure r) Q E s₃) E s₂:=by
  rw [hs o i]
  exact wpAny_operating (wpAny_mono h₂ (fun r s₃ h₃=>wpAny_bind (wpAny_letTemporaryGo (wpAny_pure h₃))) fun _ _ x=>x)
 first
  | exact wpAny_pure (wpAny_bind fin)
  | exact wpAny_bind (wpAny_pure (wpAny_bind fin))
  | exact wpAny_bind fin
theorem dict_typeIs {X : Cx} {pins : List (Addr × Obj)} {σ : St} {H : Hp} {s : Shared} {a : Addr} {y : V} {o : Option V} (I : Inv X pins σ H s) (g : DGet H a y o) : s.TypeIs (.ref a) "dict":=by
 rcases g with ⟨kvs,k,e,_,_⟩ | ⟨kvs,k,b,e,_,_,_⟩
 · obtain ⟨_,_,vs,_,dd⟩:=dk_rd I.hok e
   exact dd.typeIs
 · obtain ⟨_,_,xs,_,dd⟩:=dt_rd I.hok e
   exact dd.typeIs
def tDGet (td ty : TE) : TE:=fun σ H Q=>td σ H fun x H1=>ty σ H1 fun y H2=>∃ a v,x = .ref a ∧ DGet H2 a y (some v) ∧ Q v H2
def tDIn (ty td : TE) : TE:=fun σ H Q=>ty σ H fun y H1=>td σ H1 fun x H2=>∃ a o,x = .ref a ∧ DGet H2 a y o ∧ Q (.bl o.isSome) H2
def tDNotIn (ty td : TE) : TE:=fun σ H Q=>ty σ H fun y H1=>td σ H1 fun x H2=>∃ a o,x = .ref a ∧ DGet H2 a y o ∧ Q (.bl (!o.isSome)) H2
def sDPut (td ty tv : TE) : TS:=fun D σ H=>tv σ H fun v H1=>td σ H1 fun x H2=>ty σ H2 fun y H3=>∃ a H4,x = .ref a ∧ DPut H3 a y v H4 ∧ D.nx σ H4
section
variable {X : Cx} {o i e value : Expr} {pos pos' tpos : Pos} {td ty tv : TE}
theorem pe_dget (hu : X.A.units + 1 < cLine) (ho : PE X o td) (hi : PE X i ty) (hs : NoSl i) : PE X (.Subscript o i pos) (tDGet td ty):=by
 intro pins s σ H Q I h
 refine subD_of PySem.F.slot_dict_getitem.lookup hs (thn (ho pins s σ H _ I h) fun u s1 ⟨x,H1,I1,rx,q1⟩=>thn (hi pins s1 σ H1 _ I1 q1) fun iv s2 ⟨y,H2,I2,ry,a,v,ex,g,q2⟩=>?_)
 subst ex
 obtain rfl : u = Value.ref a:=rx
 exact ⟨dict_typeIs I2 g,d_getItem hu I2 g ry fun w' s3 I3 rw'=>⟨v,H2,I3,rw',q2⟩⟩
theorem pc_din (hu : X.A.units + 1 < cLine) (hi : PE X i ty) (ho : PE X o td) : PC X .In i o (tDIn ty td):=by
 intro pins s σ H Q I h
 refine thn (hi pins s σ H _ I h) fun iv s1 ⟨y,H1,I1,ry,q1⟩=>thn (ho pins s1 σ H1 _ I1 q1) fun u s2 ⟨x,H2,I2,rx,a,ov,ex,g,q2⟩=>?_
 subst ex
 obtain rfl : u = Value.ref a:=rx
 exact d_in hu I2 g ry fun s3 I3=>⟨.bl ov.isSome,H2,I3,rfl,q2⟩
theorem pc_dnotin (hu : X.A.units + 1 < cLine) (hi : PE X i ty) (ho : PE X o td) : PC X .NotIn i o (tDNotIn ty td):=by
 intro pins s σ H Q I h
 refine thn (hi pins s σ H _ I h) fun iv s1 ⟨y,H1,I1,ry,q1⟩=>thn (ho pins s1 σ H1 _ I1 q1) fun u s2 ⟨x,H2,I2,rx,a,ov,ex,g,q2⟩=>?_
 subst ex
 obtain rfl : u = Value.ref a:=rx
 exact d_notIn hu I2 g ry fun s3 I3=>⟨.bl (!ov.isSome),H2,I3,rfl,q2⟩
theorem ps_dput (hu : X.A.units + 1 < cLine) (ho : PE X o td) (hi : PE X i ty) (hv : PE X value tv) (hs : swapsWith value (some (.Subscript o i pos')) pos.line X.env = pure false) :
 PS X (.Assign [.Subscript o i pos'] value pos) (sDPut td ty tv):=by
 intro pins s σ H D I h
 refine wpAny_Assign_Subscript (thn (hv pins s σ H _ I h) fun r s1 ⟨v,H1,I1,rv,q1⟩=>thn (ho pins s1 σ H1 _ I1 q1) fun u s2 ⟨x,H2,I2,rx,q2⟩=>thn (hi pins s2 σ H2 _ I2 q2) fun iv s3 ⟨y,H3,I3,ry,a,H4,ex,g,q3⟩=>?_) hs
 subst ex
 obtain rfl : u = Value.ref a:=rx
 exact d_setItem hu I3 g ry rv fun s4 I4=>⟨σ,H4,I4,q3⟩
end
theorem dk_empty {P : Program} {w : World} {H : Hp} (h : Heap) (hb : sysModules < h.objs.size) : ObjOk P w H (h.push { cls:=.type "dict",data:=.dict #[] }) h.objs.size (.dK []) :=
 ⟨Nat.zero_le _,beq_eq_false_iff_ne.mpr (Ne.symm (Nat.ne_of_lt hb)),[],.nil,Heap.DictOf.new h⟩
def tDNewK : TE:=fun _ H Q=>∀ p,H p = none → Q (.ref p) (upd H p (.dK []))
section
variable {X : Cx} {pos : Pos}
theorem pe_dnewK : PE X (.Dict [] [] pos) tDNewK:=fun pins s σ H Q I h =>
 wpAny_Dict_empty ⟨.ref s.heap.objs.size,_,I.laid (a:=s.heap.objs.size) (o:=.dK []) (t':=s.toks) (fun _ _ q=>Heap.get?_push_of_some _ q) (Nat.le_refl _) (dk_empty s.heap I.big),rfl,h _ (I.hok.fresh (Nat.le_refl _))⟩
end
def tPairs : List (TE × TE) → St → Hp → (List (V × V) → Hp → Prop) → Prop
 | [],_,H,Q=>Q [] H
 | (tk,tv) :: r,σ,H,Q=>tk σ H fun x H1=>tv σ H1 fun y H2=>tPairs r σ H2 fun ps H3=>Q ((x,y) :: ps) H3
abbrev VV : List (V × V) → List (Value × Value) → Prop:=Paired fun p q=>RelV p.1 q.1 ∧ RelV p.2 q.2
def PPs (X : Cx) (pos : Pos) (keys : List (Option Expr)) (values : List Expr) (trs : List (TE × TE)) : Prop :=
 ∀ (pins : List (Addr × Obj)) (s : Shared) (σ : St) (H : Hp) (Q : List (V × V) → Hp → Prop),Inv X pins σ H s → tPairs trs σ H Q →
  wpAny (model X.prog X.w) X.A (evalPairs (pairTrees keys values X.env pos)) (fun vs s'=>∃ ps H',Inv X pins σ H' s' ∧ VV ps vs ∧ Q ps H') X.xe s
theorem pps_nil {X : Cx} {pos : Pos} : PPs X pos [] [] []:=fun pins s σ H Q I h=>pairTrees_nil_walk ⟨[],H,I,.nil,h⟩
theorem pps_cons {X : Cx} {pos : Pos} {k v : Expr} {ks : List (Option Expr)} {vs : List Expr} {tk tv : TE} {trs : List (TE × TE)} (hk : PE X k tk) (hv : PE X v tv) (hr : PPs X pos ks vs trs) :
 PPs X pos (some k :: ks) (v :: vs) ((tk,tv) :: trs):=fun pins s σ H Q I h =>
 pairTrees_cons_walk (thn (hk pins s σ H _ I h) fun u s1 ⟨x,H1,I1,rx,q1⟩=>thn (hv pins s1 σ H1 _ I1 q1) fun w2 s2 ⟨y,H2,I2,ry,q2⟩ =>
  thn (hr pins s2 σ H2 _ I2 q2) fun ws s3 ⟨ps,H3,I3,rel,q3⟩=>⟨(x,y) :: ps,H3,I3,.cons ⟨rx,ry⟩ rel,q3⟩)
def mergeK (kvs more : List (Key × V)) : List (Key × V):=more.foldl (fun acc kv=>putK acc kv.1 kv.2) kvs
theorem KV.merge : ∀ {more : List (Key × V)} {rs : List (Key × Value)} {kvs : List (Key × V)} {vs : List (Key × Value)},KV more rs → KV kvs vs → KV (mergeK kvs more) (merged vs rs):=by
 intro more rs kvs vs r
 unfold KV at r
 induction r generalizing kvs vs with
 | nil=>intro q; exact q
 | @cons p q ps qs h t ih =>
  intro r0
  have e : KV (putK kvs p.1 p.2) (stored vs q.1 q.2):=by
   have:=r0.put p.1 h.2
   rw [← h.1]; exact this
  exact ih e
theorem length_mergeK : ∀ (more kvs : List (Key × V)),(mergeK kvs more).length ≤ kvs.length + more.length
 | [],kvs=>by show kvs.length ≤ kvs.length + 0; omega
 | p :: r,kvs=>by
  have h1:=length_mergeK r (putK kvs p.1 p.2)
  have h2:=length_putK kvs p.1 p.2
  show (mergeK (putK kvs p.1 p.2) r).length ≤ _
  rw [List.length_cons]; omega
theorem carries_of {P : Program} {w : World} : ∀ {kvs : List (Key × V)} {ws : List (Value × Value)},VV (kvs.map fun kv=>(kV kv.1,kv.2)) ws → ∃ rs,Carries (mixKind P w) ws rs ∧ KV kvs rs
 | [],_,r=>by rw [List.map_nil] at r; cases r; exact ⟨[],True.intro,.nil⟩
 | p :: kvs,_,r=>by
  rw [List.map_cons] at r
  cases r with
  | @cons a b as bs h t =>
   obtain ⟨rs,c,q⟩:=carries_of (P:=P) (w:=w) t
   obtain ⟨b1,b2⟩:=b
   exact ⟨(p.1,b2) :: rs,⟨kV_is h.1,rfl,c⟩,.cons ⟨rfl,h.2⟩ q⟩
def tDisp (trs : List (TE × TE)) : TE:=fun σ H Q=>∀ p,H p = none → tPairs trs σ (upd H p (.dK [])) fun ps H2=>H2 p = some (.dK []) ∧ ∃ kvs : List (Key × V),ps = kvs.map (fun kv=>(kV kv.1,kv.2)) ∧ kvs.length ≤ 15 ∧ Q (.ref p) (upd H2 p (.dK (mergeK [] kvs)))
theorem pe_disp {X : Cx} {pos : Pos} {keys : List (Option Expr)} {values : List Expr} {trs : List (TE × TE)} (h : PPs X pos keys values trs) (hall : keys.all (·.isSome) = true) (hl : keys.length = values.length) (h0 : keys ≠ [])
 (h15 : keys.length ≤ 15) : PE X (.Dict keys values pos) (tDisp trs):=by
 intro pins s σ H Q I q
 have hn:=I.hok.fresh (Nat.le_refl s.heap.objs.size)
 have I1:=I.laid (a:=s.heap.objs.size) (o:=.dK []) (h':=s.heap.push { cls:=.type "dict",data:=.dict #[] }) (t':=s.toks) (fun _ _ q=>Heap.get?_push_of_some _ q) (Nat.le_refl _) (dk_empty s.heap I.big)
 refine wpAny_Dict_walk (knd:=mixKind X.prog X.w) hall hl h0 h15 (thn (h pins _ σ _ _ I1 (q _ hn)) fun ws s2 ⟨ps,H2,I2,rel,e,kvs,ep,lk,q2⟩=>?_)
 subst ep
 obtain ⟨rs,c,rk⟩:=carries_of (P:=X.prog) (w:=X.w) rel
 obtain ⟨z,hd,vs0,r0,dd⟩:=dk_of I2.hok e
 cases r0
 refine ⟨rs,c,dd,fun h' dd' hs=>⟨.ref s.heap.objs.size,_,?_,rfl,q2⟩⟩
 have hz : (mergeK [] kvs).length ≤ sizeLine:=by
  have h1:=length_mergeK kvs []
  rw [List.length_nil] at h1
  rw [sizeLine_eq]; omega
 have he : ∃ q,h'.get? s.heap.objs.size = some q:=let ⟨q,_,_,hq,_⟩:=dd'; ⟨q,hq⟩
 exact d_write I2 (by rw [e]; exact True.intro) hs he (dk_new hz hd (rk.merge .nil) dd')
structure M1 (X : Cx) (o : Expr) (m : Str) (apos : Pos) (e : Expr) (cpos : Pos) : Prop where
 base : attributeBase o m X.env (eval o X.env) = eval o X.env
 few : ((backTo cpos (starEach [e] X.env)).all (fun x=>!x.1) && (backToKw cpos (keywordEach [] X.env)).all (fun x=>x.1.isSome)
  && decide (([e] : List Expr).length + ([] : List Keyword).length + (if ([] : List Keyword).isEmpty then 0 else 1) < 30)) = true
 line : (apos.endLine == cpos.line) = true
 trees : backTo cpos (starEach [e] X.env) = [(false,eval e X.env)]
structure M2 (X : Cx) (o : Expr) (m : Str) (apos : Pos) (e f : Expr) (cpos : Pos) : Prop where
 base : attributeBase o m X.env (eval o X.env) = eval o X.env
 few : ((backTo cpos (starEach [e,f] X.env)).all (fun x=>!x.1) && (backToKw cpos (keywordEach [] X.env)).all (fun x=>x.1.isSome)
  && decide (([e,f] : List Expr).length + ([] : List Keyword).length + (if ([] : List Keyword).isEmpty then 0 else 1) < 30)) = true
 line : (apos.endLine == cpos.line) = true
 trees : backTo cpos (starEach [e,f] X.env) = [(false,eval e X.env),(false,eval f X.env)]
def IsD (H : Hp) (a : Addr) : Prop:=(∃ kvs,Rd H a (.dK kvs)) ∨ ∃ kvs,Rd H a (.dT kvs)
theorem isD_at {X : Cx} {pins : List (Addr × Obj)} {σ : St} {H : Hp} {s : Shared} {a : Addr} (I : Inv X pins σ H s) (d : IsD H a) :
 s.TypeIs (.ref a) "dict" ∧ (∀ b,Value.ref a = .ref b → ∃ ob,s.heap.get? b = some ob ∧ ob.dict = none) ∧ (a == sysModules) = false:=by
 rcases d with ⟨kvs,e⟩ | ⟨kvs,e⟩
 · obtain ⟨_,hd,vs,_,dd⟩:=dk_rd I.hok e
   refine ⟨dd.typeIs,fun b q=>?_,hd⟩
   cases q
   obtain ⟨ob,_,_,h1,h2,_⟩:=dd
   exact ⟨ob,h1,h2.2.1⟩
 · obtain ⟨_,hd,xs,_,dd⟩:=dt_rd I.hok e
   refine ⟨dd.typeIs,fun b q=>?_,hd⟩
   cases q
   obtain ⟨ob,_,_,h1,h2,_⟩:=dd
   exact ⟨ob,h1,h2.2.1⟩
section
variable {X : Cx} {pins : List (Addr × Obj)} {σ : St} {H : Hp} {s : Shared} {a : Addr} {y d : V} {u r : Value} {o : Option V} {A : Around} {E : Value → Shared → Prop}
theorem d_get2 {Q : Value → Shared → Prop} (hu : A.units + 1 < cLine) (I : Inv X pins σ H s) (g : DGet H a y o) (ry : RelV y u) (rd : RelV d r) (h : ∀ w' s',Inv X pins σ H s' → RelV (o.getD d) w' → Q w' s') :
 wpAny (model X.prog X.w) A (call (.builtin "dict.get") [.ref a,u,r]) Q E s:=by
 rcases g with ⟨kvs,k,e,ey,l⟩ | ⟨kvs,k,b,e,ey,eb,l⟩
 · subst ey
   obtain ⟨z,hd,vs,rel,dd⟩:=dk_rd I.hok e
   refine call_meetsIn PySem.F.slot_dict_get dd.typeIs PySem.F.entry_dict_get (PySem.F.args_dict_get_3 _ _ _) (meets_dict_get_default (mixKind X.prog X.w) a (kV_is ry) hd r) ⟨_,dd.mapOf,h _ _ (I.tok _) ?_⟩
   rw [l]
   exact (rel.val k).getD rd
 · subst ey
   cases (show u = Value.ref b from ry)
   obtain ⟨z,hd,xs,rel,dd⟩:=dt_rd I.hok e
   refine call_meetsIn PySem.F.slot_dict_get dd.typeIs PySem.F.entry_dict_get (PySem.F.args_dict_get_3 _ _ _) (meetsH_dict_get_default (tupleKind (mixKind X.prog X.w)) a b hd r) ⟨tupleKind_room_in1 hu,k,xs,key_of I.hok eb,dd,h _ _ (I.tok _) ?_⟩
   rw [l]
   exact (rel.val k).getD rd
end
section
variable {X : Cx} {o e f : Expr} {apos cpos : Pos} {td ty tx : TE}
end
section
variable {X : Cx} {pins : List (Addr × Obj)} {σ : St} {H : Hp} {s : Shared} {a : Addr} {kvs : List (Key × V)} {A : Around} {E : Value → Shared → Prop}
theorem d_copyOf {Q : Value → Shared → Prop} (I : Inv X pins σ H s) (e : Rd H a (.dK kvs)) (h : ∀ p s',H p = none → Inv X pins σ (upd H p (.dK kvs)) s' → Q (.ref p) s') : wpAny (model X.prog X.w) A (call (.type "dict") [.ref a]) Q E s:=by
 obtain ⟨z,hd,vs,rel,dd⟩:=dk_rd I.hok e
 refine kt_call_dict hd dd (by rw [← rel.length]; exact z) fun h' dd' hs=>?_
 refine h _ _ (I.hok.fresh (Nat.le_refl _)) (I.laid (a:=s.heap.objs.size) (o:=.dK kvs) (t':=s.toks) (fun b q hq=>?_) (Nat.le_refl _) (dk_new z (beq_eq_false_iff_ne.mpr (Ne.symm (Nat.ne_of_lt I.big))) rel dd'))
 exact (hs.2 b (Nat.ne_of_lt (Heap.lt_size hq))).trans (Heap.get?_push_of_some _ hq)
end
section
variable {X : Cx} {pins : List (Addr × Obj)} {σ : St} {H : Hp} {s : Shared} {a : Addr} {y : V} {u : Value} {A : Around} {E : Value → Shared → Prop}
end
end L2
namespace HT
open PySem PyProof.Rows
def lexLt : List Int → List Int → Bool
 | [],[]=>false
 | [],_ :: _=>true
 | _ :: _,[]=>false
 | x :: xs,y :: ys=>if x = y then lexLt xs ys else decide (x < y)
theorem lexLt_cons (x y : Int) (xs ys : List Int) : lexLt (x :: xs) (y :: ys) = if x = y then lexLt xs ys else decide (x < y):=rfl
section
open PySem.SeqAt
open PySem.AutoSeq1 (wpAny_loadPart')
open PySem.MeetsSeq PySem.MeetsSeq2 PySem.MeetsSeq3
end
section
variable {prog : Program} {w : World} {A : Around} {E : Value → Shared → Prop} {s : Shared}
theorem cat_tup {t b : Addr} {vs ws : List Value} {Q : Value → Shared → Prop} (ht : IsTup s.heap t vs.toArray) (hb : IsTup s.heap b ws.toArray) (hv : vs ≠ [])
 (h1 : ws = [] → Q (.ref t) s) (h2 : ws ≠ [] → Q (.ref s.heap.objs.size) { s with heap:=s.heap.push { cls:=.type "tuple",data:=.seq (vs ++ ws).toArray } })
 (hsz : vs.length + ws.length ≤ sizeLine) : wpAny (model prog w) A (binaryOp .Add (.ref t) (.ref b)) Q E s:=by
 obtain ⟨⟨cls,dd,data,sl⟩,ho,hc,n,hd⟩:=id ht
 obtain ⟨⟨cls2,dd2,data2,sl2⟩,ho2,hc2,n2,hd2⟩:=id hb
 simp only at hc hd hc2 hd2
 subst hc hd hc2 hd2
 have e : vs.toArray ++ ws.toArray = (vs ++ ws).toArray:=by simp
 by_cases hw : ws = []
 · exact concat_meets ⟨_,ho,rfl⟩ ⟨_,ho2,rfl⟩ noFill_tuple_add seq_tuple_add PySem.F.slot_tuple_add PySem.F.entry_tuple_add (PySem.F.args_tuple_add_2 _ _)
    (tuple_addW1 t b vs.toArray ws.toArray n n2 dd dd2 sl sl2 (by simpa using hv) (by simp [hw])) ⟨ho,ho2,h1 hw⟩
 · refine concat_meets ⟨_,ho,rfl⟩ ⟨_,ho2,rfl⟩ noFill_tuple_add seq_tuple_add PySem.F.slot_tuple_add PySem.F.entry_tuple_add (PySem.F.args_tuple_add_2 _ _)
    (tuple_addW2 t b vs.toArray ws.toArray n n2 dd dd2 sl sl2 (by simpa using hv) (by simpa using hw) (by rw [List.size_toArray,List.size_toArray]; exact hsz)) ⟨ho,ho2,?_⟩
   rw [e]
   exact h2 hw
def sIx (n d : Nat) : Option Int → Nat
 | none=>d
 | some v=>if v < 0 then (v + (n : Int)).toNat else min v.toNat n
theorem sIx_none (n d : Nat) : sIx n d none = d:=rfl
theorem sIx_nat (n d k : Nat) : sIx n d (some (k : Int)) = min k n:=by
 show (if (k : Int) < 0 then ((k : Int) + (n : Int)).toNat else min (k : Int).toNat n) = min k n
 rw [if_neg (by omega),Int.toNat_natCast]
end
end HT
namespace L2
open PySem PySem.Spec PyProof.Rows
abbrev TO:=St → Hp → (Option Int → Hp → Prop) → Prop
def PO (X : Cx) (e : Option Expr) (t : TO) : Prop :=
 ∀ (pins : List (Addr × Obj)) (s : Shared) (σ : St) (H : Hp) (Q : Option Int → Hp → Prop),Inv X pins σ H s → t σ H Q →
  wpAny (model X.prog X.w) X.A (evalPart e X.env) (fun u s'=>∃ o H',Inv X pins σ H' s' ∧ IsPart u o ∧ Q o H') X.xe s
def tNoPart : TO:=fun _ H Q=>Q none H
def tPart (t : TE) : TO:=fun σ H Q=>t σ H fun x H1=>∃ i,x = .int i ∧ Q (some i) H1
theorem intsAre_of {ns : List Int} : ∀ {us : List Value},Vals (ns.map V.int) us → IntsAre us ns:=by
 induction ns with
 | nil=>intro us r; rw [List.map_nil] at r; cases r; exact .nil
 | cons n ns ih =>
  intro us r
  rw [List.map_cons] at r
  cases r with
  | cons r1 r2 =>
   obtain ⟨t,e⟩:=r1
   subst e
   exact .cons n t (ih r2)
section
variable {X : Cx} {e : Expr} {te : TE} {lo hi : Option Expr} {tl th : TO} {pos p2 : Pos}
theorem po_none : PO X none tNoPart:=by
 intro pins s σ H Q I h
 rw [evalPart_none]
 exact wpAny_pure ⟨none,H,I,.none,h⟩
theorem po_some (h : PE X e te) : PO X (some e) (tPart te):=by
 intro pins s σ H Q I hw
 rw [evalPart_some]
 refine thn (h pins s σ H _ I hw) fun u s1 ⟨x,H1,I1,r1,q1⟩=>?_
 obtain ⟨i,rfl,q⟩:=q1
 obtain ⟨t,rfl⟩:=r1
 exact ⟨some i,H1,I1,.int i t,q⟩
def SlR (X : Cx) (r : V → Option Int → Option Int → Hp → VK → Prop) : Prop :=
 ∀ (pins : List (Addr × Obj)) (s : Shared) (σ : St) (H : Hp) (x : V) (v vl vu : Value) (lo hi : Option Int) (sl : Addr) (Q : VK),Inv X pins σ H s → RelV x v → s.heap.IsSliceOf sl vl vu .none → IsPart vl lo → IsPart vu hi → r x lo hi H Q →
  ∃ T id,typeLookup (.type T) "__getitem__" = pure (some (.builtin id)) ∧ s.TypeIs v T ∧ wpAny (model X.prog X.w) X.A (getItem v (.ref sl)) (EP X pins σ Q) X.xe s
def tSl (r : V → Option Int → Option Int → Hp → VK → Prop) (te : TE) (tl th : TO) : TE:=fun σ H Q=>te σ H fun x H1=>tl σ H1 fun l H2=>th σ H2 fun u H3=>r x l u H3 Q
theorem pe_slice {r : V → Option Int → Option Int → Hp → VK → Prop} (hr : SlR X r) (he : PE X e te) (hl : PO X lo tl) (hu : PO X hi th) : PE X (.Subscript e (.Slice lo hi none p2) pos) (tSl r te tl th):=by
 intro pins s σ H Q I h
 refine Subscript_ (thn (he pins s σ H _ I h) fun v s1 ⟨x,H1,I1,r1,q1⟩=>?_)
 refine wpAny_Slice (thn (hl pins s1 σ H1 _ I1 q1) fun vl s2 ⟨l,H2,I2,pl,q2⟩=>thn (hu pins s2 σ H2 _ I2 q2) fun vu s3 ⟨u,H3,I3,pu,q3⟩=>?_)
 rw [evalPart_none]
 refine wpAny_pure ?_
 have I4 : Inv X pins σ H3 { s3 with heap:=s3.heap.push { cls:=.type "slice",data:=.fields #[vl,vu,.none] } }:=I3.kept (t':=s3.toks) fun b ob q=>Heap.get?_push_of_some _ q
 obtain ⟨T,id,hT,ht,hg⟩:=hr pins { s3 with heap:=s3.heap.push { cls:=.type "slice",data:=.fields #[vl,vu,.none] } } σ H3 x v vl vu l u s3.heap.objs.size Q I4 r1 (Heap.IsSliceOf.new ..) pl pu q3
 show wpAny (model X.prog X.w) X.A (subscriptTail e (.Slice lo hi none p2) v (.ref s3.heap.objs.size)) (EP X pins σ Q) X.xe { s3 with heap:=s3.heap.push { cls:=.type "slice",data:=.fields #[vl,vu,.none] } }
 exact tail_any (ops:=[.ref s3.heap.objs.size,v]) ht hT hg (by with_unfolding_all rfl)
def cutV (xs : List V) (lo hi : Option Int) : List V:=(xs.drop (HT.sIx xs.length 0 lo)).take (HT.sIx xs.length xs.length hi - HT.sIx xs.length 0 lo)
theorem cutV_length (xs : List V) (lo hi : Option Int) : (cutV xs lo hi).length ≤ xs.length:=by
 unfold cutV
 rw [List.length_take,List.length_drop]
 omega
def rCatT (K : PySem.W.Frag) : R2:=fun x y H Q=>∃ a b xs ys,x = .ref a ∧ y = .ref b ∧ SqT K H a xs ∧ SqT K H b ys ∧ xs ≠ [] ∧ xs.length + ys.length ≤ sizeLine ∧
 (ys = [] → Q (.ref a) H) ∧ (ys ≠ [] → ∀ p,H p = none → Q (.ref p) (upd H p (.tup (xs ++ ys))))
theorem Vals.nil_iff {xs : List V} {us : List Value} (r : Vals xs us) : us = [] ↔ xs = []:=by
 cases r with
 | nil=>simp
 | cons _ _=>simp
theorem op_catT : OpR X (binaryOp .Add) (rCatT X.K):=by
 intro pins s σ H x y v u Q I rx ry h
 obtain ⟨a,b,xs,ys,rfl,rfl,ha,hb,hx,hz,q1,q2⟩:=h
 cases rx
 cases ry
 obtain ⟨its,r1,p1,_⟩:=I.tuple ha
 obtain ⟨its2,r2,p2,_⟩:=I.tuple hb
 refine HT.cat_tup p1 p2 (fun z=>hx (r1.nil_iff.mp z)) (fun z=>⟨.ref a,H,I,rfl,q1 (r2.nil_iff.mp z)⟩) (fun z=>?_) (by rw [← r1.length,← r2.length]; exact hz)
 refine ⟨.ref s.heap.objs.size,_,I.laid (t':=s.toks) (o:=.tup (xs ++ ys)) (fun b ob q=>Heap.get?_push_of_some _ q) (Nat.le_refl _) ?_,rfl,q2 (fun w=>z (r2.nil_iff.mpr w)) _ (I.hok.fresh (Nat.le_refl _))⟩
 exact ⟨by rw [List.length_append]; exact hz,_,r1.append r2,IsTup.new _ _⟩
end
end L2
namespace L2
open PySem PySem.Spec PyProof.Rows
def ixN (n : Nat) (i : Int) : Option Nat:=if 0 ≤ i then (if i < n then some i.toNat else none) else if -(n : Int) ≤ i then some (i + n).toNat else none
def atI {α : Type} (xs : List α) (i : Int) : Option α:=(ixN xs.length i).bind fun j=>xs[j]?
theorem ixN_seq {n : Nat} {i : Int} {j : Nat} (h : ixN n i = some j) : seqIndex? i n = some j ∧ j < n ∧ -(n : Int) ≤ i ∧ i < n:=by
 unfold ixN at h
 by_cases h0 : 0 ≤ i
 · rw [if_pos h0] at h
   by_cases h1 : i < n
   · rw [if_pos h1] at h
     have e : i.toNat = j:=Option.some.inj h
     exact ⟨by rw [seqIndex_of h0 h1,e],by omega,by omega,h1⟩
   · rw [if_neg h1] at h; cases h
 · rw [if_neg h0] at h
   by_cases h1 : -(n : Int) ≤ i
   · rw [if_pos h1] at h
     have e : (i + n).toNat = j:=Option.some.inj h
     exact ⟨by rw [seqIndex_neg (by omega) h1,e],by omega,h1,by omega⟩
   · rw [if_neg h1] at h; cases h
theorem atI_get {α : Type} {xs : List α} {i : Int} {v : α} (h : atI xs i = some v) : ∃ j,seqIndex? i xs.length = some j ∧ xs[j]? = some v ∧ j < xs.length ∧ -(xs.length : Int) ≤ i ∧ i < xs.length:=by
 unfold atI at h
 cases e : ixN xs.length i with
 | none=>rw [e] at h; cases h
 | some j =>
  rw [e] at h
  obtain ⟨h1,h2,h3,h4⟩:=ixN_seq e
  exact ⟨j,h1,h,h2,h3,h4⟩
theorem atI_nat {α : Type} {xs : List α} {j : Nat} {v : α} (h : xs[j]? = some v) : atI xs (j : Int) = some v:=by
 have hj : j < xs.length:=(List.getElem?_eq_some_iff.mp h).1
 have e : ixN xs.length (j : Int) = some j:=by
  unfold ixN
  rw [if_pos (by omega),if_pos (by omega)]; simp
 unfold atI; rw [e]; exact h
theorem atI_last {α : Type} (xs : List α) (v : α) : atI (xs ++ [v]) (-1) = some v:=by
 have hl : (xs ++ [v]).length = xs.length + 1:=by simp
 have e : ixN (xs ++ [v]).length (-1) = some xs.length:=by
  unfold ixN
  rw [hl,if_neg (by decide),if_pos (by omega)]
  congr 1
  omega
 unfold atI
 rw [e]
 show (xs ++ [v])[xs.length]? = some v
 simp
def PlainIx (b : Expr) : Prop:=∀ o i,subscripted b false o i = operate [o,i] (getItem o i)
def IxR (X : Cx) (r : R2) : Prop :=
 ∀ (value slice : Expr) (pins : List (Addr × Obj)) (s : Shared) (σ : St) (H : Hp) (x y : V) (v u : Value) (Q : VK),Inv X pins σ H s → RelV x v → RelV y u → r x y H Q →
  subscripted slice false v u = operate [v,u] (getItem v u) → wpAny (model X.prog X.w) X.A (subscriptTail value slice v u) (EP X pins σ Q) X.xe s
def MtR (X : Cx) (id : String) (r : V → List V → Hp → VK → Prop) : Prop :=
 ∀ (pins : List (Addr × Obj)) (s : Shared) (σ : St) (H : Hp) (x : V) (xs : List V) (v : Value) (us : List Value) (Q : VK),Inv X pins σ H s → RelV x v → Vals xs us → r x xs H Q →
  wpAny (model X.prog X.w) X.A (call (.builtin id) (v :: us)) (EP X pins σ Q) X.xe s
section
variable {X : Cx} {a b : Expr} {ta tb : TE} {pos : Pos}
theorem IxR.or {r r' : R2} (h : IxR X r) (h' : IxR X r') : IxR X (fun x y H Q=>r x y H Q ∨ r' x y H Q):=by
 intro value slice pins s σ H x y v u Q I rx ry q hs
 rcases q with q | q
 · exact h value slice pins s σ H x y v u Q I rx ry q hs
 · exact h' value slice pins s σ H x y v u Q I rx ry q hs
theorem pe_ix {r : R2} (hr : IxR X r) (ha : PE X a ta) (hb : PE X b tb) (hs : PlainIx b) : PE X (.Subscript a b pos) (tOp r ta tb):=by
 intro pins s σ H Q I h
 exact Subscript_ (binT ha hb I h fun v u s2 x y H2 I2 rx ry q=>hr a b pins s2 σ H2 x y v u Q I2 rx ry q (hs _ _))
def rIxL (K : PySem.W.Frag) : R2:=fun x y H Q=>∃ p xs i v,x = .ref p ∧ y = .int i ∧ SqL K H p xs ∧ atI xs i = some v ∧ Q v H
def rIxT (K : PySem.W.Frag) : R2:=fun x y H Q=>∃ p xs i v,x = .ref p ∧ y = .int i ∧ SqT K H p xs ∧ atI xs i = some v ∧ Q v H
def rIxS : R2:=fun x y H Q=>∃ z i c,x = .str z ∧ y = .int i ∧ z.length ≤ sizeLine ∧ atI z.cps.toList i = some c ∧ Q (.str ⟨#[c]⟩) H
theorem ix_list : IxR X (rIxL X.K):=by
 intro value slice pins s σ H x y v u Q I rx ry h hs
 obtain ⟨p,xs,i,z,rfl,rfl,hq,he,q⟩:=h
 cases rx
 obtain ⟨t,rfl⟩:=ry
 obtain ⟨its,r,pl,hz⟩:=I.list hq
 obtain ⟨j,h1,h2,h3,h4,h5⟩:=atI_get he
 obtain ⟨w,ew,rw'⟩:=r.get h2
 have hl:=r.length
 have hn:=line63
 have fin : EP X pins σ Q w s:=⟨z,H,I,rw',q⟩
 by_cases h0 : 0 ≤ i
 · have hj : i.toNat = j:=by
    rw [seqIndex_of h0 h5] at h1
    exact Option.some.inj h1
   exact item_listR pl.isList h0 (by omega) (by rw [hj]; simpa using ew) fin hs
 · have hj : (i + (its.toArray.size : Int)).toNat = j:=by
    rw [seqIndex_neg (by omega) h4] at h1
    rw [List.size_toArray,← hl]
    exact Option.some.inj h1
   exact subscriptTail_builtinR (x:=w) pl.isList.typeIs slot_list_getitem.lookup
    (wpAny_getItem_list_neg (Q:=fun r s'=>r = w ∧ EP X pins σ Q r s') pl.isList (by omega) (by rw [List.size_toArray] <;> omega) (by omega) (by rw [hj]; simpa using ew) ⟨rfl,fin⟩) hs
theorem ix_tup : IxR X (rIxT X.K):=by
 intro value slice pins s σ H x y v u Q I rx ry h hs
 obtain ⟨p,xs,i,z,rfl,rfl,hq,he,q⟩:=h
 cases rx
 obtain ⟨t,rfl⟩:=ry
 obtain ⟨its,r,pl,hz⟩:=I.tuple hq
 obtain ⟨j,h1,h2,h3,h4,h5⟩:=atI_get he
 obtain ⟨w,ew,rw'⟩:=r.get h2
 have hl:=r.length
 have hn:=line63
 have fin : EP X pins σ Q w s:=⟨z,H,I,rw',q⟩
 exact subscriptTail_builtinR (x:=w) pl.typeIs slot_tuple_getitem.lookup
  (getItem_tuple (j:=j) (Q:=fun r s'=>r = w ∧ EP X pins σ Q r s') pl (by omega) (by omega) (by rw [List.size_toArray,← hl]; exact h1) (by simpa using ew) ⟨rfl,fin⟩) hs
theorem ix_str : IxR X rIxS:=by
 intro value slice pins s σ H x y v u Q I rx ry h hs
 obtain ⟨z,i,c,rfl,rfl,hz,he,q⟩:=h
 obtain ⟨t,rfl⟩:=rx
 obtain ⟨t',rfl⟩:=ry
 obtain ⟨j,h1,h2,h3,h4,h5⟩:=atI_get he
 have hl : z.cps.toList.length = z.length:=by simp [Str.length]
 rw [hl] at h1 h4 h5
 have hn:=line63
 exact tail_any (typeIs_str s z t) slot_str_getitem.lookup (getItem_str (c:=c) (by
  have e1 : decide (i < -(2 ^ 63 : Int)) = false:=decide_eq_false (by omega)
  have e2 : decide (i ≥ 2 ^ 63) = false:=decide_eq_false (by omega)
  rw [e1,e2,Bool.or_false]) (by rw [h1]; simpa using h2) ⟨.str ⟨#[c]⟩,H,I.tok _,⟨_,rfl⟩,q⟩) hs
def rIx (K : PySem.W.Frag) : R2:=fun x y H Q=>rIxL K x y H Q ∨ rIxT K x y H Q ∨ rIxS x y H Q
theorem ix_seq : IxR X (rIx X.K):=ix_list.or (ix_tup.or ix_str)
theorem mapSeq_set (its : List Value) (n j : Nat) (u : Value) : Obj.mapSeq (·.setIfInBounds j u) { cls:=.type "list",data:=.seq its.toArray n } = { cls:=.type "list",data:=.seq (its.set j u).toArray n }:=by
 simp [Obj.mapSeq]
theorem Inv.lst {pins : List (Addr × Obj)} {σ : St} {H : Hp} {s : Shared} {p : Addr} {xs : List V} (I : Inv X pins σ H s) (h : H p = some (.lst xs)) :
 ∃ (its : List Value) (n : Nat),Vals xs its ∧ s.heap.get? p = some { cls:=.type "list",data:=.seq its.toArray n } ∧ xs.length ≤ sizeLine:=by
 obtain ⟨z,its,n,r,e⟩:=I.hok p _ h
 exact ⟨its,n,r,e,z⟩
theorem Inv.lstUpd {pins : List (Addr × Obj)} {σ : St} {H : Hp} {s : Shared} {p : Addr} {xs ys : List V} {its its' : List Value} {n n' : Nat} {f : Obj → Obj} (I : Inv X pins σ H s) (h : H p = some (.lst xs))
 (ho : s.heap.get? p = some { cls:=.type "list",data:=.seq its.toArray n }) (hf : f { cls:=.type "list",data:=.seq its.toArray n } = { cls:=.type "list",data:=.seq its'.toArray n' }) (r : Vals ys its') (hz : ys.length ≤ sizeLine) (t : Nat) :
 Inv X pins σ (upd H p (.lst ys)) { s with heap:=s.heap.update p f,toks:=t }:=by
 have e : (s.heap.update p f).get? p = some { cls:=.type "list",data:=.seq its'.toArray n' }:=by
  rw [Heap.get?_update_self f ho (by rw [hf] <;> rfl),hf]
 refine I.write (x:=p) (e:=p) (by rw [h]; trivial) (.inl rfl) (fun b u hb q=>(Heap.get?_update_other _ _ (Ne.symm hb)).trans q) ⟨_,e⟩ ?_
 exact ⟨hz,its',n',r,e⟩
def rSetL : V → V → V → Hp → (Hp → Prop) → Prop:=fun o i v H Q=>∃ p xs k j,o = .ref p ∧ i = .int k ∧ H p = some (.lst xs) ∧ ixN xs.length k = some j ∧ Q (upd H p (.lst (xs.set j v)))
theorem set_list : PSet X rSetL:=by
 intro pins s σ H o i v ov iv u Q I ro ri rv h
 obtain ⟨p,xs,k,j,rfl,rfl,hp,hj,q⟩:=h
 cases ro
 obtain ⟨t,rfl⟩:=ri
 obtain ⟨its,n,r,ho,hz⟩:=I.lst hp
 obtain ⟨h1,h2,h3,h4⟩:=ixN_seq hj
 have hl:=r.length
 have hn:=line63
 have I' : Inv X pins σ (upd H p (.lst (xs.set j v))) { s with heap:=s.heap.update p (Obj.mapSeq (·.setIfInBounds j u)) } :=
  I.lstUpd hp ho (mapSeq_set its n j u) (r.set rv j) (by rw [List.length_set]; exact hz) s.toks
 by_cases h0 : 0 ≤ k
 · have hk : k.toNat = j:=by
    rw [seqIndex_of h0 h4] at h1
    exact Option.some.inj h1
   exact PySem.W.ki_setAt ho h0 (by omega) (by rw [List.size_toArray,← hl]; exact h4) (by rw [hk]; exact ⟨_,I',q⟩)
 · have hk : (k + (its.toArray.size : Int)).toNat = j:=by
    rw [seqIndex_neg (by omega) h3] at h1
    rw [List.size_toArray,← hl]
    exact Option.some.inj h1
   exact PySem.W.ki_setBack ho (by omega) (by rw [List.size_toArray,← hl]; exact h3) (by omega) (by rw [hk]; exact ⟨_,I',q⟩)
theorem slice_bounds (lo hi : Option Int) (n : Nat) : (sliceBounds lo hi none n).1 = ((HT.sIx n 0 lo : Nat) : Int) ∧ (sliceBounds lo hi none n).2.1 = ((HT.sIx n n hi : Nat) : Int) ∧ (sliceBounds lo hi none n).2.2 = 1:=by
 refine ⟨?_,?_,rfl⟩
 · cases lo with
   | none=>simp [sliceBounds,HT.sIx]
   | some i =>
    simp only [sliceBounds,HT.sIx,Option.getD_none,show (1 : Int) > 0 by decide,if_true]
    by_cases h : i < 0
    · simp only [h,if_true] <;> omega
    · simp only [h,if_false] <;> omega
 · cases hi with
   | none=>simp [sliceBounds,HT.sIx]
   | some i =>
    simp only [sliceBounds,HT.sIx,Option.getD_none,show (1 : Int) > 0 by decide,if_true]
    by_cases h : i < 0
    · simp only [h,if_true] <;> omega
    · simp only [h,if_false] <;> omega
theorem slicePick_cut (its : List Value) (lo hi : Option Int) : slicePick its.toArray lo hi none = ((its.drop (HT.sIx its.length 0 lo)).take (HT.sIx its.length its.length hi - HT.sIx its.length 0 lo)).toArray:=by
 obtain ⟨h1,h2,h3⟩:=slice_bounds lo hi its.toArray.size
 unfold slicePick
 rw [h1,h2,h3]
 simp only [sliceRange_one,pick_run,List.size_toArray] <;> rfl
def rSlL (K : PySem.W.Frag) : V → Option Int → Option Int → Hp → VK → Prop:=fun x lo hi H Q=>∃ a xs,x = .ref a ∧ SqL K H a xs ∧ ∀ p,H p = none → Q (.ref p) (upd H p (.lst (cutV xs lo hi)))
theorem sl_list : SlR X (rSlL X.K):=by
 intro pins s σ H x v vl vu lo hi sl Q I rx hs pl pu h
 obtain ⟨a,xs,rfl,hx,q⟩:=h
 cases rx
 obtain ⟨its,r,ht,hz⟩:=I.list hx
 have hlen:=r.length
 refine ⟨"list",_,slot_list_getitem.lookup,ht.isList.typeIs,?_⟩
 refine wpAny_getItem_list_slice ht.isList hs pl pu .none (by simp) ?_ (by rw [List.size_toArray] <;> omega)
 rw [slicePick_cut,← hlen]
 refine ⟨.ref s.heap.objs.size,_,I.laid (t':=s.toks) (o:=.lst (cutV xs lo hi)) (fun b ob q=>Heap.get?_push_of_some _ q) (Nat.le_refl _) ?_,rfl,q _ (I.hok.fresh (Nat.le_refl _))⟩
 exact ⟨Nat.le_trans (cutV_length xs lo hi) hz,_,0,(r.drop (HT.sIx xs.length 0 lo)).take (HT.sIx xs.length xs.length hi - HT.sIx xs.length 0 lo),Heap.get?_push_size _ rfl⟩
def flatV : V → Bool
 | .non=>true
 | .bl _=>true
 | .int _=>true
 | .str _=>true
 | _=>false
def eqV : V → V → Bool
 | .non,.non=>true
 | .bl a,.bl b=>a == b
 | .bl a,.int b=>(if a then 1 else 0) == b
 | .int a,.bl b=>a == (if b then 1 else 0)
 | .int a,.int b=>a == b
 | .str a,.str b=>a == b
 | _,_=>false
theorem eqAt_V {A : Around} {s : Shared} {y x : V} {u v : Value} (ry : RelV y u) (rx : RelV x v) (fy : flatV y = true) (fx : flatV x = true) : SeqAt.EqAt A s u v (eqV y x):=by
 cases y with
 | non =>
  cases ry
  cases x with
  | non=>cases rx; exact SeqAt.EqAt.same _
  | bl b=>cases rx; exact SeqAt.EqAt.none_bool b
  | int b=>obtain ⟨t,rfl⟩:=rx; exact SeqAt.EqAt.none_int b t
  | str b=>obtain ⟨t,rfl⟩:=rx; exact SeqAt.EqAt.none_str b t
  | _=>exact absurd (show false = true from fx) Bool.false_ne_true
 | bl a =>
  cases ry
  cases x with
  | non=>cases rx; exact SeqAt.EqAt.bool_none a
  | bl b=>cases rx; exact SeqAt.EqAt.bool_bool a b
  | int b=>obtain ⟨t,rfl⟩:=rx; exact SeqAt.EqAt.bool_int a b t
  | str b=>obtain ⟨t,rfl⟩:=rx; exact SeqAt.EqAt.bool_str a b t
  | _=>exact absurd (show false = true from fx) Bool.false_ne_true
 | int a =>
  obtain ⟨t',rfl⟩:=ry
  cases x with
  | non=>cases rx; exact SeqAt.EqAt.int_none a t'
  | bl b=>cases rx; exact SeqAt.EqAt.int_bool a t' b
  | int b=>obtain ⟨t,rfl⟩:=rx; exact SeqAt.EqAt.int_int a t' b t
  | str b=>obtain ⟨t,rfl⟩:=rx; exact SeqAt.EqAt.int_str a t' b t
  | _=>exact absurd (show false = true from fx) Bool.false_ne_true
 | str a =>
  obtain ⟨t',rfl⟩:=ry
  cases x with
  | non=>cases rx; exact SeqAt.EqAt.str_none a t'
  | bl b=>cases rx; exact SeqAt.EqAt.str_bool a t' b
  | int b=>obtain ⟨t,rfl⟩:=rx; exact SeqAt.EqAt.str_int a t' b t
  | str b=>obtain ⟨t,rfl⟩:=rx; exact SeqAt.EqAt.str_str a t' b t
  | _=>exact absurd (show false = true from fx) Bool.false_ne_true
 | _=>exact absurd (show false = true from fy) Bool.false_ne_true
def eqU (x : V) (u : Value) : Bool:=match u with
 | .none=>eqV .non x
 | .bool b=>eqV (.bl b) x
 | .int i _=>eqV (.int i) x
 | .str z _=>eqV (.str z) x
 | _=>false
theorem eqU_of {x y : V} {u : Value} (r : RelV y u) (f : flatV y = true) : eqU x u = eqV y x:=by
 cases y with
 | non=>cases r; rfl
 | bl b=>cases r; rfl
 | int i=>obtain ⟨t,rfl⟩:=r; rfl
 | str z=>obtain ⟨t,rfl⟩:=r; rfl
 | _=>exact absurd (show false = true from f) Bool.false_ne_true
theorem any_eqU {x : V} : ∀ {xs : List V} {us : List Value},Vals xs us → xs.all flatV = true → us.any (eqU x) = xs.any fun y=>eqV y x
 | _,_,.nil,_=>rfl
 | y :: xs,u :: us,.cons r t,f=>by
  rw [List.all_cons,Bool.and_eq_true] at f
  rw [List.any_cons,List.any_cons,eqU_of r f.1,any_eqU t f.2]
theorem mem_eqAt {A : Around} {s : Shared} {x : V} {v : Value} (rx : RelV x v) (fx : flatV x = true) : ∀ {xs : List V} {us : List Value},Vals xs us → xs.all flatV = true → ∀ u ∈ us,SeqAt.EqAt A s u v (eqU x u)
 | _,_,.nil,_=>fun u hu=>by cases hu
 | y :: xs,u :: us,.cons r t,f=>fun u' hu=>by
  rw [List.all_cons,Bool.and_eq_true] at f
  rcases List.mem_cons.mp hu with rfl | hu
  · rw [eqU_of r f.1]; exact eqAt_V r rx f.1 fx
  · exact mem_eqAt rx fx t f.2 u' hu
def inV (x : V) (xs : List V) : Bool:=xs.any fun y=>eqV y x
def rIn (K : PySem.W.Frag) (neg : Bool) : R2:=fun x y H Q=>∃ p xs,y = .ref p ∧ (SqL K H p xs ∨ SqT K H p xs) ∧ flatV x = true ∧ xs.all flatV = true ∧ Q (.bl (if neg then !inV x xs else inV x xs)) H
theorem op_in_seq : OpR X (compareOp .In) (rIn X.K false):=by
 intro pins s σ H x y v u Q I rx ry h
 obtain ⟨p,xs,rfl,hq,fx,fs,q⟩:=h
 cases ry
 rcases hq with hq | hq
 · obtain ⟨its,r,pl,hz⟩:=I.list hq
   refine SeqAt.in_listAt (eqU x) pl.isList (fun w hw=>mem_eqAt rx fx r fs w (by simpa using hw)) ⟨.bl _,H,I,rfl,?_⟩
   rw [show its.toArray.any (eqU x) = its.any (eqU x) by simp,any_eqU r fs]
   exact q
 · obtain ⟨its,r,pl,hz⟩:=I.tuple hq
   refine SeqAt.in_tupleAt (eqU x) pl (fun w hw=>mem_eqAt rx fx r fs w (by simpa using hw)) ⟨.bl _,H,I,rfl,?_⟩
   rw [show its.toArray.any (eqU x) = its.any (eqU x) by simp,any_eqU r fs]
   exact q
theorem op_notIn_seq : OpR X (compareOp .NotIn) (rIn X.K true):=by
 intro pins s σ H x y v u Q I rx ry h
 obtain ⟨p,xs,rfl,hq,fx,fs,q⟩:=h
 cases ry
 rcases hq with hq | hq
 · obtain ⟨its,r,pl,hz⟩:=I.list hq
   refine SeqAt.notIn_listAt (eqU x) pl.isList (fun w hw=>mem_eqAt rx fx r fs w (by simpa using hw)) ⟨.bl _,H,I,rfl,?_⟩
   rw [show its.toArray.any (eqU x) = its.any (eqU x) by simp,any_eqU r fs]
   exact q
 · obtain ⟨its,r,pl,hz⟩:=I.tuple hq
   refine SeqAt.notIn_tupleAt (eqU x) pl (fun w hw=>mem_eqAt rx fx r fs w (by simpa using hw)) ⟨.bl _,H,I,rfl,?_⟩
   rw [show its.toArray.any (eqU x) = its.any (eqU x) by simp,any_eqU r fs]
   exact q
theorem call_len_seq : CallR X (.builtin "len") (fun xs H Q=>∃ p ys,xs = [.ref p] ∧ (SqL X.K H p ys ∨ SqT X.K H p ys) ∧ Q (.int ys.length) H):=by
 intro pins s σ H xs us Q I r h
 obtain ⟨p,ys,rfl,hq,q⟩:=h
 obtain ⟨u,rfl,rx⟩:=vals1 r
 cases rx
 have hn:=line63
 rcases hq with hq | hq
 · obtain ⟨its,r',pl,hz⟩:=I.list hq
   have hlen:=r'.length
   exact Calls.call_len_list pl.isList (by simp only [List.size_toArray] <;> omega) ⟨.int ys.length,H,I.tok _,⟨s.toks + 1,by rw [List.size_toArray,hlen]⟩,q⟩
 · obtain ⟨its,r',pl,hz⟩:=I.tuple hq
   have hlen:=r'.length
   exact len_tuple pl (by simp only [List.size_toArray] <;> omega) ⟨.int ys.length,H,I.tok _,⟨s.toks + 1,by rw [List.size_toArray,hlen]⟩,q⟩
theorem call_len_str : CallR X (.builtin "len") (fun xs H Q=>∃ z,xs = [.str z] ∧ z.length ≤ sizeLine ∧ Q (.int z.length) H):=by
 intro pins s σ H xs us Q I r h
 obtain ⟨z,rfl,hz,q⟩:=h
 obtain ⟨u,rfl,t,rfl⟩:=vals1 r
 have hn:=line63
 exact len_str (by omega) ⟨.int z.length,H,I.tok _,⟨_,rfl⟩,q⟩
theorem call_list_of : CallR X (.type "list") (fun xs H Q=>∃ p ys,xs = [.ref p] ∧ (SqL X.K H p ys ∨ SqT X.K H p ys) ∧ ∀ l,H l = none → Q (.ref l) (upd H l (.lst ys))):=by
 intro pins s σ H xs us Q I r h
 obtain ⟨p,ys,rfl,hq,q⟩:=h
 obtain ⟨u,rfl,rx⟩:=vals1 r
 cases rx
 have fin : ∀ (its : List Value),Vals ys its → ys.length ≤ sizeLine → ∀ (h' : Heap) (c' : Nat),(∀ b o',s.heap.get? b = some o' → h'.get? b = some o') →
  h'.get? s.heap.objs.size = some { cls:=.type "list",dict:=none,data:=.seq its.toArray c',slots:=#[] } → EP X pins σ Q (.ref s.heap.objs.size) { s with heap:=h' }:=fun its r' hz h' c' kp e =>
  ⟨.ref s.heap.objs.size,_,I.laid (t':=s.toks) kp (Nat.le_refl _) (show ObjOk X.prog X.w _ h' _ (.lst ys) from ⟨hz,its,c',r',e⟩),rfl,q _ (I.hok.fresh (Nat.le_refl _))⟩
 rcases hq with hq | hq
 · obtain ⟨its,r',pl,hz⟩:=I.list hq
   have hlen:=r'.length
   obtain ⟨o,ho,hc,n,hd⟩:=pl.isList
   exact call_list_seq p (.inl rfl) ho hc hd (fun h' c' kp e=>fin its r' hz h' c' kp e) (by simp only [List.size_toArray] <;> omega)
 · obtain ⟨its,r',pl,hz⟩:=I.tuple hq
   have hlen:=r'.length
   obtain ⟨o,ho,hc,n,hd⟩:=pl
   exact call_list_seq p (.inr rfl) ho hc hd (fun h' c' kp e=>fin its r' hz h' c' kp e) (by simp only [List.size_toArray] <;> omega)
def tyV (K : PySem.W.Frag) (T : String) (x : V) (H : Hp) : Prop:=match x with
 | .str _=>T = "str"
 | .int _=>T = "int"
 | .ref p=>(T = "list" ∧ ∃ xs,SqL K H p xs) ∨ (T = "tuple" ∧ ∃ o,K.lookup p = some o ∧ o.cls = .type "tuple" ∧ o.dict = none) ∨
  (T = "dict" ∧ ((∃ kvs,H p = some (.dK kvs)) ∨ ∃ kvs,H p = some (.dT kvs))) ∨ (T = "set" ∧ ∃ S n,H p = some (.set S n))
 | _=>False
theorem tyV_is {pins : List (Addr × Obj)} {σ : St} {H : Hp} {s : Shared} {T : String} {x : V} {v : Value} (I : Inv X pins σ H s) (r : RelV x v) (ty : tyV X.K T x H) :
 s.TypeIs v T ∧ ∀ a,v = .ref a → ∃ ob,s.heap.get? a = some ob ∧ ob.dict = none:=by
 cases x with
 | str z =>
  obtain ⟨t,rfl⟩:=r
  cases (show T = "str" from ty)
  exact ⟨typeIs_str s z t,fun _ e=>nomatch e⟩
 | int i =>
  obtain ⟨t,rfl⟩:=r
  cases (show T = "int" from ty)
  exact ⟨typeIs_int s i t,fun _ e=>nomatch e⟩
 | ref p =>
  cases r
  rcases ty with ⟨rfl,xs,hq⟩ | ⟨rfl,o,hk,hc,hd⟩ | ⟨rfl,hk⟩ | ⟨rfl,S,n,hk⟩
  · obtain ⟨its,_,pl,_⟩:=I.list hq
    refine ⟨pl.isList.typeIs,fun a e=>?_⟩
    cases e
    obtain ⟨o,n,e,c,hd,_⟩:=pl
    exact ⟨o,e,hd⟩
  · refine ⟨⟨o,I.kIn p o hk,hc⟩,fun a e=>?_⟩
    cases e
    exact ⟨o,I.kIn _ o hk,hd⟩
  · have z : ∃ o,s.heap.get? p = some o ∧ o.ExactDict:=by
     rcases hk with ⟨kvs,hk⟩ | ⟨kvs,hk⟩
     · obtain ⟨_,_,_,_,o,_,_,e,ex,_⟩:=I.hok p _ hk
       exact ⟨o,e,ex⟩
     · obtain ⟨_,_,_,_,o,_,_,e,ex,_⟩:=I.hok p _ hk
       exact ⟨o,e,ex⟩
    obtain ⟨o,e,ex⟩:=z
    refine ⟨⟨o,e,ex.1⟩,fun a e2=>?_⟩
    cases e2
    exact ⟨o,e,ex.2.1⟩
  · obtain ⟨o,_,_,_,e,ex,_⟩:=I.hok p _ hk
    refine ⟨⟨o,e,ex.1⟩,fun a e2=>?_⟩
    cases e2
    exact ⟨o,e,ex.2.1⟩
 | _=>exact False.elim ty
def tBM0 (K : PySem.W.Frag) (T : String) (r : V → List V → Hp → VK → Prop) (to : TE) : TE:=fun σ H Q=>to σ H fun x H1=>tyV K T x H1 ∧ r x [] H1 Q
def tBM (K : PySem.W.Frag) (T : String) (r : V → List V → Hp → VK → Prop) (to : TE) (t : TA) : TE:=fun σ H Q=>to σ H fun x H1=>tyV K T x H1 ∧ t σ H1 fun xs H2=>r x xs H2 Q
variable {o e : Expr} {es : List Expr} {to : TE} {t : TA} {name : Str} {apos cpos : Pos} {T id : String} {r : V → List V → Hp → VK → Prop}
theorem pe_bm0 (pa : PlainAttrs T) (slot : Slot T name id) (hty : typeOf (.builtin id) = pure (.type "method_descriptor")) (hm : MtR X id r) (ho : PE X o to)
 (hbase : attributeBase o name X.env (eval o X.env) = eval o X.env:=by rfl) (hline : (apos.endLine == cpos.line) = true:=by rfl) : PE X (.Call (.Attribute o name apos) [] [] cpos) (tBM0 X.K T r to):=by
 intro pins s σ H Q I h
 refine wpAny_Call_method0_late hbase hline (thn (ho pins s σ H _ I h) fun v s1 ⟨x,H1,I1,r1,ty,q1⟩=>?_)
 obtain ⟨h1,h2⟩:=tyV_is I1 r1 ty
 exact ⟨T,id,pa,slot,hty,h1,h2,Calls.callWith_builtin rfl (PySem.evalArgs_none (hm pins s1 σ H1 x [] v [] Q I1 r1 .nil q1))⟩
theorem pe_bm (pa : PlainAttrs T) (slot : Slot T name id) (hty : typeOf (.builtin id) = pure (.type "method_descriptor")) (hm : MtR X id r) (ho : PE X o to) (ha : PA X (e :: es) t)
 (hbase : attributeBase o name X.env (eval o X.env) = eval o X.env:=by rfl)
 (hfew : ((backTo cpos (starEach (e :: es) X.env)).all (fun x=>!x.1) && (backToKw cpos (keywordEach [] X.env)).all (fun x=>x.1.isSome)
  && decide ((e :: es).length + ([] : List Keyword).length + (if ([] : List Keyword).isEmpty then 0 else 1) < 30)) = true:=by rfl)
 (hline : (apos.endLine == cpos.line) = true:=by rfl) (hs : starEach (e :: es) X.env = (false,eval e X.env) :: starEach es X.env:=by rfl) (hplain : (backTo cpos (starEach es X.env)).any (·.1) = false:=by rfl) :
 PE X (.Call (.Attribute o name apos) (e :: es) [] cpos) (tBM X.K T r to t):=by
 intro pins s σ H Q I h
 refine wpAny_Call_method_late hbase hfew hline rfl (thn (ho pins s σ H _ I h) fun v s1 ⟨x,H1,I1,r1,ty,q1⟩=>?_)
 obtain ⟨h1,h2⟩:=tyV_is I1 r1 ty
 refine ⟨T,id,pa,slot,hty,h1,h2,?_⟩
 have hA:=ha cpos pins s1 σ H1 _ I1 q1
 rw [hs] at hA ⊢
 refine Calls.callWith_builtin (by show (false || (backTo cpos (starEach es X.env)).any (·.1)) = false; rw [hplain] <;> rfl) (Calls.evalArgs_plain ?_)
 exact thn hA fun us s2 ⟨vs,H2,I2,r2,q2⟩=>hm pins s2 σ H2 x vs v us Q I2 r1 r2 q2
end
end L2
namespace L2
open PySem PySem.Spec PyProof.Rows
def MtM (X : Cx) (id : String) (r : V → List V → Hp → VK → Prop) : Prop :=
 ∀ (pins : List (Addr × Obj)) (s : Shared) (σ : St) (H : Hp) (x : V) (xs : List V) (v : Value) (us : List Value) (Q : VK),Inv X pins σ H s → RelV x v → Vals xs us → r x xs H Q →
  wpAny (model X.prog X.w) X.A (call (.builtin id) (v :: us)) (EP X pins σ Q) X.xe s
theorem Vals.one : ∀ {x : V} {us : List Value},Vals [x] us → ∃ u,us = [u] ∧ RelV x u
 | _,_,.cons r .nil=>⟨_,rfl,r⟩
theorem Vals.two : ∀ {x y : V} {us : List Value},Vals [x,y] us → ∃ u v,us = [u,v] ∧ RelV x u ∧ RelV y v
 | _,_,_,.cons r (.cons q .nil)=>⟨_,_,rfl,r,q⟩
theorem Vals.zero : ∀ {us : List Value},Vals [] us → us = []
 | _,.nil=>rfl
theorem Vals.dropLast {xs : List V} {us : List Value} (h : Vals xs us) : Vals xs.dropLast us.dropLast:=by
 induction h with
 | nil=>exact .nil
 | cons r t ih =>
  cases t with
  | nil=>exact .nil
  | cons q t'=>exact .cons r ih
theorem erase_last {α : Type} (l : List α) : l.eraseIdx (l.length - 1) = l.dropLast:=by
 induction l with
 | nil=>rfl
 | cons a r ih =>
  cases r with
  | nil=>rfl
  | cons b r =>
   have e : (a :: b :: r).length - 1 = ((b :: r).length - 1) + 1:=by
    have h1 : (a :: b :: r).length = r.length + 2:=rfl
    have h2 : (b :: r).length = r.length + 1:=rfl
    omega
   rw [e,List.eraseIdx_cons_succ,ih]
   all_goals rfl
section
variable {X : Cx} {pins : List (Addr × Obj)} {σ : St} {H : Hp} {s : Shared} {l b : Addr} {xs ys zs : List V}
theorem Inv.lset {its its' : List Value} {n : Nat} {f : Array Value → Array Value} {t' : Nat} (I : Inv X pins σ H s) (hH : H l = some (.lst xs))
 (e : s.heap.get? l = some { cls:=.type "list",data:=.seq its.toArray n }) (hf : f its.toArray = its'.toArray) (hv : Vals ys its') (hz : ys.length ≤ sizeLine) :
 Inv X pins σ (upd H l (.lst ys)) { s with heap:=s.heap.update l (Obj.mapSeq f),toks:=t' }:=by
 have q:=PySem.IsL.update e f
 rw [hf] at q
 refine I.write (x:=l) (e:=l) (by rw [hH]; exact trivial) (.inl rfl) (fun b' u hb hu=>(Heap.get?_update_other s.heap (Obj.mapSeq f) (Ne.symm hb)).trans hu) ⟨_,q⟩ ?_
 exact ⟨hz,its',_,hv,q⟩
theorem Inv.lnew {its : List Value} {t' : Nat} (I : Inv X pins σ H s) (hv : Vals ys its) (hz : ys.length ≤ sizeLine) :
 Inv X pins σ (upd H s.heap.objs.size (.lst ys)) { s with heap:=s.heap.push { cls:=.type "list",data:=.seq its.toArray },toks:=t' } :=
 I.laid (fun _ _ q=>Heap.get?_push_of_some _ q) (Nat.le_refl _) ⟨hz,its,0,hv,Heap.get?_push_size _ rfl⟩
theorem Inv.fresh (I : Inv X pins σ H s) : H s.heap.objs.size = none:=I.hok.fresh (Nat.le_refl _)
theorem Inv.lstM (I : Inv X pins σ H s) (hH : H l = some (.lst xs)) : xs.length ≤ sizeLine ∧ ∃ (its : List Value) (n : Nat),Vals xs its ∧ xs.length = its.length ∧ s.heap.get? l = some { cls:=.type "list",data:=.seq its.toArray n }:=by
 obtain ⟨z,its,n,r,e⟩:=I.hok l _ hH
 exact ⟨z,its,n,r,r.length,e⟩
theorem notLongL {n : Nat} (h : n ≤ sizeLine) : Builtin.List.listTooLong n = false:=by
 unfold Builtin.List.listTooLong
 exact decide_eq_false (by omega)
end
section
variable {X : Cx}
def rAppend : V → List V → Hp → VK → Prop:=fun x vs H Q=>∃ l xs y,x = .ref l ∧ vs = [y] ∧ H l = some (.lst xs) ∧ xs.length < sizeLine ∧ Q .non (upd H l (.lst (xs ++ [y])))
theorem mt_append : MtM X "list.append" rAppend:=by
 intro pins s σ H x vs v us Q I rx rv h
 obtain ⟨l,xs,y,rfl,rfl,hH,hz,q⟩:=h
 cases rx
 obtain ⟨u,rfl,ru⟩:=rv.one
 obtain ⟨z,its,n,r,hl,e⟩:=I.lstM hH
 refine call_meets F.slot_list_append ⟨_,e,rfl⟩ F.entry_list_append (F.args_list_append_2 _ _) (PySem.list_append l its.toArray n u (by rw [List.size_toArray]; omega)) ⟨e,?_⟩
 refine ⟨.non,_,I.lset (its':=its ++ [u]) hH e (by simp) (r.append (.cons ru .nil)) ?_,rfl,q⟩
 rw [List.length_append,List.length_singleton]
 omega
def rExtend : V → List V → Hp → VK → Prop:=fun x vs H Q=>∃ l b xs zs,x = .ref l ∧ vs = [.ref b] ∧ H l = some (.lst xs) ∧ H b = some (.lst zs) ∧ xs.length + zs.length ≤ sizeLine ∧ Q .non (upd H l (.lst (xs ++ zs)))
theorem mt_extend : MtM X "list.extend" rExtend:=by
 intro pins s σ H x vs v us Q I rx rv h
 obtain ⟨l,b,xs,zs,rfl,rfl,hH,hB,hz,q⟩:=h
 cases rx
 obtain ⟨u,rfl,ru⟩:=rv.one
 cases ru
 obtain ⟨z,its,n,r,hl,e⟩:=I.lstM hH
 obtain ⟨z2,its2,n2,r2,hl2,e2⟩:=I.lstM hB
 have hsz : its.toArray.size + its2.toArray.size ≤ sizeLine:=by rw [List.size_toArray,List.size_toArray]; omega
 have hlong : ¬ (!its.toArray.isEmpty && Builtin.List.listTooLong (its.toArray.size + its2.toArray.size)) = true:=by
  rw [notLongL hsz,Bool.and_false]
  exact Bool.false_ne_true
 refine call_meets F.slot_list_extend ⟨_,e,rfl⟩ F.entry_list_extend (F.args_list_extend_2 _ _)
  (AutoSeq1.list_extend_list_list_0 l its.toArray n b its2.toArray n2 hlong (by rw [List.size_toArray]; omega) (by omega)) ⟨e,e2,?_⟩
 refine ⟨.non,_,I.lset (its':=its ++ its2) hH e (by simp) (r.append r2) ?_,rfl,q⟩
 rw [List.length_append]
 omega
def rPop : V → List V → Hp → VK → Prop:=fun x vs H Q=>∃ l xs y,x = .ref l ∧ vs = [] ∧ H l = some (.lst xs) ∧ xs[xs.length - 1]? = some y ∧ Q y (upd H l (.lst xs.dropLast))
theorem mt_pop : MtM X "list.pop" rPop:=by
 intro pins s σ H x vs v us Q I rx rv h
 obtain ⟨l,xs,y,rfl,rfl,hH,hy,q⟩:=h
 cases rx
 have hus:=rv.zero
 subst hus
 obtain ⟨z,its,n,r,hl,e⟩:=I.lstM hH
 obtain ⟨u,hu,ru⟩:=r.get hy
 have hy' : its.toArray[its.toArray.size - 1]? = some u:=by
  show its.toArray[its.length - 1]? = some u
  rw [← Array.getElem?_toList,← hl]
  exact hu
 refine call_meets F.slot_list_pop ⟨_,e,rfl⟩ F.entry_list_pop (F.args_list_pop_1 _) (MeetsSeq.list_pop_last l its.toArray n u hy' (by rw [List.size_toArray]; omega)) ⟨e,?_⟩
 refine ⟨y,_,I.lset (its':=its.dropLast) hH e ?_ r.dropLast ?_,ru,q⟩
 · show its.toArray.eraseIdxIfInBounds (its.toArray.size - 1) = its.dropLast.toArray
   rw [List.size_toArray,List.eraseIdxIfInBounds_toArray,erase_last]
 · rw [List.length_dropLast]
   omega
def rCat : R2:=fun x y H Q=>∃ l b xs zs,x = .ref l ∧ y = .ref b ∧ H l = some (.lst xs) ∧ H b = some (.lst zs) ∧ xs.length + zs.length ≤ sizeLine ∧ ∀ p,H p = none → Q (.ref p) (upd H p (.lst (xs ++ zs)))
theorem op_cat : OpR X (binaryOp .Add) rCat:=by
 intro pins s σ H x y v u Q I rx ry h
 obtain ⟨l,b,xs,zs,rfl,rfl,hH,hB,hz,q⟩:=h
 cases rx
 cases ry
 obtain ⟨z,its,n,r,hl,e⟩:=I.lstM hH
 obtain ⟨z2,its2,n2,r2,hl2,e2⟩:=I.lstM hB
 refine PySem.P.add_list e e2 ?_ (by rw [List.size_toArray,List.size_toArray]; omega)
 have ea : its.toArray ++ its2.toArray = (its ++ its2).toArray:=by simp
 rw [ea]
 exact ⟨.ref _,_,I.lnew (t':=s.toks) (r.append r2) (by rw [List.length_append]; omega),rfl,q _ I.fresh⟩
end
section
variable {prog : Program} {w : World} {A : Around} {E : Value → Shared → Prop} {s : Shared}
theorem bounds_run {a c n : Nat} (hac : a ≤ c) (hc : c ≤ n) : sliceBounds (some (a : Int)) (some (c : Int)) none n = ((a : Int),(c : Int),1):=by
 simp only [sliceBounds,Option.getD_none]
 have h1 : ¬ ((a : Int) < 0):=by omega
 have h2 : ¬ ((c : Int) < 0):=by omega
 simp only [h1,h2,if_false,show (1 : Int) > 0 by decide,if_true]
 congr 1
 · omega
 · congr 1; omega
set_option maxRecDepth 100000 in
theorem setItem_slice {l b sl : Addr} {items new : Array Value} {n n2 : Nat} {vl vu : Value} {a c : Nat} {Q : Unit → Shared → Prop}
 (e : s.heap.get? l = some { cls:=.type "list",data:=.seq items n }) (e2 : s.heap.get? b = some { cls:=.type "list",data:=.seq new n2 }) (hne : l ≠ b)
 (hs : s.heap.IsSliceOf sl vl vu .none) (pl : IsPart vl (some (a : Int))) (pu : IsPart vu (some (c : Int))) (hac : a ≤ c) (hc : c ≤ items.size)
 (hsz : items.size + new.size ≤ sizeLine) (h : Q () { s with heap:=s.heap.update l (Obj.mapSeq fun xs=>xs.extract 0 a ++ new ++ xs.extract c xs.size) }) :
 wpAny (model prog w) A (setItem (.ref l) (.ref sl) (.ref b)) Q E s:=by
 have hl : s.heap.IsList l items:=PySem.IsL.isList e
 have hb : s.heap.IsList b new:=PySem.IsL.isList e2
 obtain ⟨os,hos,hcs,hds⟩:=id hs
 have hTs : s.TypeIs (.ref sl) "slice":=⟨os,hos,hcs⟩
 have hstep : ¬ ((rawPart none == rawInt 0) = true):=Bool.false_ne_true
 have hsame : Builtin.List.listSameRef (.ref l) (.ref b) = false:=by
  unfold Builtin.List.listSameRef
  exact beq_eq_false_iff_ne.mpr hne
 have hmax : (max (a : Int) (c : Int)).toNat = c:=by omega
 have hz' : ((fun xs : Array Value=>xs.extract 0 a ++ new ++ xs.extract c xs.size) items).size ≤ sizeLine + 1:=by
  simp only [Array.size_append,Array.size_extract]
  omega
 unfold setItem
 try with_reducible refine wpAny_holding ?_
 first | refine wpAny_bind (wpAny_pure ?_) | skip
 refine wpAny_bind (wpAny_sequenceKey hl.typeIs (by decide) ?_)
 refine wpAny_bind (wpAny_callSpecial?_slot (name:=Str.ofString "__setitem__") hl.typeIs slot_list_setitem
  (wpAny_call_entry slot_list_setitem hl.typeIs entry_list_setitem ?_ (args_list_setitem _ _ _)))
 show wpAny _ _ (Builtin.List.listSubscript? (.ref sl) >>= _) _ _ s
 refine wpAny_bind ?_
 unfold Builtin.List.listSubscript?
 refine wpAny_bind (wpAny_specialOf hTs slice_no_index ?_)
 simp only [Option.isNone_none,if_true]
 refine wpAny_pure ?_
 show wpAny _ _ (typeOf (.ref sl) >>= _) _ _ s
 refine wpAny_bind (wpAny_typeOf hTs ?_)
 first
  | rw [if_neg (by decide)]
  | refine PySem.W.KFB.if_not (by decide) ?_
 rw [listSliceParts_eq]
 refine wpAny_bind (wpAny_bind (wpAny_field hos hds (x:=.none) rfl (wpAny_bind (wpAny_listPart .none ?_))))
 rw [if_neg hstep]
 refine wpAny_bind (wpAny_field hos hds (x:=vl) rfl (wpAny_bind (wpAny_listPart pl ?_)))
 refine wpAny_bind (wpAny_field hos hds (x:=vu) rfl (wpAny_bind (wpAny_listPart pu (wpAny_pure ?_))))
 first
  | simp only [hsame,Bool.false_eq_true,if_false]
  | refine PySem.W.KFB.if_not hsame ?_
  | (dsimp only
     rw [if_neg (by rw [hsame]; exact Bool.false_ne_true)])
 refine wpAny_bind (m:=Builtin.List.listAllItems (.ref b) "must assign iterable to extended slice") ?_
 unfold Builtin.List.listAllItems
 refine wpAny_bind (wpAny_typeOf hb.typeIs ?_)
 first
  | refine PySem.W.KFB.if_so (by decide) ?_
  | rw [if_pos (by decide)]
  | simp only [beq_self_eq_true,Bool.true_or,if_true]
 unfold Builtin.List.listItems
 refine wpAny_bind (wpAny_seqItems e2 rfl (wpAny_pure ?_))
 refine wpAny_bind (wpAny_bind (wpAny_seqItems e rfl (wpAny_pure ?_)))
 refine wpAny_bind (wpAny_of_eq ((sliceIndices_raw (some (a : Int)) (some (c : Int)) none items.size (by simp)).trans (congrArg (pure : Int × Int × Int → Sem (Int × Int × Int)) (bounds_run hac hc))) ?_)
 show wpAny _ _ (if ((1 : Int) == 1) = true then _ else _) _ _ s
 rw [if_pos (by decide)]
 refine wpAny_bind (wpAny_rule ?_)
 first
  | simp only [notLongL hsz,Bool.false_eq_true,if_false]
  | refine PySem.W.KFB.if_not (notLongL hsz) ?_
 first | refine wpAny_bind (wpAny_pure ?_) | skip
 show wpAny _ _ (updateSeq l (fun xs=>xs.extract 0 ((a : Int)).toNat ++ new ++ xs.extract (max (a : Int) (c : Int)).toNat xs.size) >>= _) _ _ s
 rw [hmax,Int.toNat_natCast]
 refine wpAny_bind (wpAny_updateSeq (hz:=Nat.le_trans (Nat.le_add_right _ _) hsz) (_hz':=hz') e rfl ?_)
 refine wpAny_bind (wpAny_letGo ?_)
 first
  | exact wpAny_bind (wpAny_pure (wpAny_pure ⟨.none,rfl,wpAny_pure h⟩))
  | exact wpAny_pure ⟨.none,rfl,wpAny_pure h⟩
end
section
variable {X : Cx}
end
end L2
namespace Att
open PySem PySem.W PySem.Calls PyProof.Rows
theorem ints_of_wellAll {P : Params} {h : Heap} : ∀ (ns : List Int) (vs : List Value),WellAll P h vs (ns.map WData.int) → IntsAre vs ns:=by
 intro ns
 induction ns with
 | nil =>
  intro vs w
  rw [List.map_nil] at w
  cases w
  exact .nil
 | cons n ns ih =>
  intro vs w
  rw [List.map_cons] at w
  cases w with
  | cons a b =>
   cases a
   exact .cons _ _ (ih _ b)
theorem script_of {l : OpenLaw} {n : Nat} (hn : l.most = some n) {P : Params} {h : Heap} {args : List WData} {vals : List Value}
 (hpre : l.row.toRowW.claim.pre args = true) (hwl : WellAll P h vals args) :
 ∃ a vs ns,vals = [Value.ref a] ∧ args = [WData.list (ns.map WData.int)] ∧ h.get? a = some { cls:=.type "list",data:=.seq vs.toArray } ∧ IntsAre vs ns ∧ ns.length ≤ n:=by
 have hsh : WShape.hasAll [] args [.list .int] = true:=(pre_splitW hpre).1
 have hc : l.pre.holds [] { args:=args } = true:=(pre_splitW hpre).2
 obtain ⟨d,r,rfl,h1,h2⟩:=hasAllW_cons hsh
 obtain rfl:=hasAllW_nil h2
 obtain ⟨xs,rfl,h3⟩:=hasW_list h1
 obtain ⟨ns,rfl⟩:=items_int h3
 have hlen : ns.length ≤ n:=by
  unfold OpenLaw.pre at hc
  have h4 : (WTm.not (.lt (.lit (.int (n : Int))) (.len (.arg 0)))).holds [] { args:=[.list (ns.map .int)] } = true:=by
   have h4:=(holds_andW hc).1
   rw [hn] at h4
   exact h4
  have h5:=condW_of h4 (w_not (w_lt w_lit (w_len_list (w_arg rfl))))
  rw [List.length_map] at h5
  refine Nat.le_of_not_lt fun q=>?_
  have q' : (n : Int) < ((ns.length : Nat) : Int):=by omega
  first
   | (rw [decide_eq_true q'] at h5; exact absurd h5 (by decide))
   | (simp at h5; omega)
 cases hwl with
 | cons w1 w2 =>
  cases w2
  cases w1 with
  | list ho hall=>exact ⟨_,_,ns,rfl,rfl,ho,ints_of_wellAll ns _ hall,hlen⟩
theorem post_true (l : OpenLaw) (args : List WData) : l.row.toRowW.claim.post args (.bool true) args = true :=
 postW_of (r:=l.row.toRowW) (X:=(true == true))
  (show WShape.has [] (.bool true) .bool = true by first | rfl | decide | simp [WShape.has,WShape.arms,WShape.armsAll])
  (show (WTm.eq .res (.lit (.bool true))).value [] { args:=args,res:=some (.bool true),after:=args } = some (.bool (true == true)) from w_eq_bool (w_res rfl) w_lit) rfl
theorem attach_call {l : OpenLaw} {n : Nat} {q : Program} {loose : List Str} {XP : (Str → Option Value) → Heap → Prop} {YP : World → Heap → Prop} {d : DefRec}
 (hn : l.most = some n) (hdf : d.params.defaults = [])
 (call : ∀ (w : World) (s₀ s₁ : Shared) (mg mb : Str → Option Value) (fa : Addr) (o : Obj) (pm cd doc : Value) (a : Addr) (vs : List Value) (ns : List Int),
  Ground q loose [] XP w s₀ mg mb s₁.heap → YP w s₁.heap →
  s₁.heap.get? fa = some o → o.data = .func (docDef d.name d.params d.body d.scope pm cd doc) → s₁.heap.CodeRec cd d.name → mg d.name = some (.ref fa) →
  s₁.heap.get? a = some { cls:=.type "list",data:=.seq vs.toArray } → IntsAre vs ns → ns.length ≤ n → s₁.gens = #[] →
  codeAny (model l.prog w) callerA (.call (.ref fa) ⟨[.ref a],[]⟩) (fun r s'=>r = .ok (.ret (.bool true)) ∧ OldK s₁.heap s'.heap ∧ s'.os = s₁.os ∧ AllBare s'.gens) s₁) :
 WalkO q loose XP YP l.row.toRowW d [] (fun f vs=>PySem.call f vs):=by
 intro w s₀ s₁ mg mb G Y fa o pm cd doc dV kV ho hd hcd hD hmg hg args vals as hpre hlay hrd hwl hlo
 obtain rfl : dV = .none:=Dflts.none hD hdf
 obtain rfl : kV = .none:=Dflts.noKw hD
 obtain ⟨a,vs,ns,rfl,rfl,hobj,hints,hlen⟩:=script_of hn hpre hwl
 refine enter_call (codeAny_mono (call w s₀ s₁ mg mb fa o pm cd doc a vs ns G Y ho (fd_plain hd) hcd hmg hobj hints hlen hg) fun r s' hq=>?_)
 obtain ⟨rfl,h2,h3,h4⟩:=hq
 exact ⟨.inl ⟨.bool true,.bool true,[],rfl,fun _=>rfl,.bool true,post_true l _,fun _=>⟨List.Pairwise.nil,fun _ hm=>(nomatch hm)⟩⟩,h2,h3,h4⟩
section
variable {prog : Program} {w : World} {A : Around} {E : Value → Shared → Prop} {s : Shared} {K : Frag}
end
end Att
namespace L2
open PySem PySem.Spec PyProof.Rows
theorem vals_ints : ∀ {vs : List Value} {ns : List Int},IntsAre vs ns → Vals (ns.map V.int) vs
 | _,_,.nil=>.nil
 | _,_,.cons n t h=>.cons ⟨t,rfl⟩ (vals_ints h)
def Only (H : Hp) : Prop:=∀ b,H b = none ∨ ∃ o xs,H b = some (.frz o (.lst xs))
theorem law_call {P : Program} {w : World} {K : PySem.W.Frag} {mg mb : Str → Option Value} {CX : CXT} {k : Nat} {fa a : Addr} {fd : FuncData} {x : Str} {sp : Sp} {s₁ : Shared} {vs : List Value} {ns : List Int}
 (KX : K.In s₁.heap) (hns : s₁.heap.Ns mainGlobals mg) (hb : s₁.heap.Ns builtinsNs mb) (hbb : ∀ x : Str,x ≠ "__name__" → mb x = bootBuiltins x) (hlim : s₁.heap.NoLimit) (hg : s₁.gens = #[])
 (ha : s₁.heap.get? a = some { cls:=.type "list",data:=.seq vs.toArray }) (hi : IntsAre vs ns) (hl : ns.length ≤ sizeLine) (hr : Room k callerA)
 (F : ∀ base : Heap,K.In base → base.Ns mainGlobals mg → FnOk P w K mg base CX k fa fd [x] sp) (hbind : ∀ (s : Shared) (u : Value),BindsTo s fd ⟨[u],[]⟩ [(x,u)])
 (hsp : ∀ H : Hp,Only H → SqL K H a (ns.map V.int) → sp [.ref a] H (fun v _=>v = .bl true) fun _ _ _=>False)
 (hCX : ∀ H e s',CX [] H s₁ (fun _ _ _=>False) e s' → False) :
 codeAny (model P w) callerA (.call (.ref fa) ⟨[.ref a],[]⟩) (fun r s'=>r = .ok (.ret (.bool true)) ∧ OldK s₁.heap s'.heap ∧ s'.os = s₁.os ∧ AllBare s'.gens) s₁:=by
 have rv:=vals_ints hi
 have lenV:=hi.length
 have core : ∀ H : Hp,Only H → SqL K H a (ns.map V.int) → HOk P w H s₁.heap → (∀ b,H b ≠ none → b = a) → (H a ≠ none → K.lookup a = none) →
  codeAny (model P w) callerA (.call (.ref fa) ⟨[.ref a],[]⟩) (fun r s'=>r = .ok (.ret (.bool true)) ∧ OldK s₁.heap s'.heap ∧ s'.os = s₁.os ∧ AllBare s'.gens) s₁:=by
  intro H hO hS hok hA hK
  have base_of : ∀ {b : Addr} {o : Obj},s₁.heap.get? b = some o → H b = none → (hidT s₁.heap H).get? b = some o:=fun e n=>hidT_get e n
  have noA : ∀ {b : Addr} {o : Obj} {es : Array DictEntry} {ep : Nat},s₁.heap.get? b = some o → o.data = .dict es ep → H b = none:=fun {b o es ep} e d=>by
   cases q : H b with
   | none=>rfl
   | some u =>
    have e' : b = a:=hA b (by rw [q]; simp)
    subst e'
    rw [ha] at e; cases e
    have d' : Data.seq vs.toArray _ = Data.dict es ep:=d
    cases d'
  have nsK : ∀ {b : Addr} {m : Str → Option Value},s₁.heap.Ns b m → (hidT s₁.heap H).Ns b m:=fun {b m} ⟨o,es,ep,e,d,r⟩=>⟨o,es,ep,base_of e (noA e d),d,r⟩
  have hKb : K.In (hidT s₁.heap H):=fun b o e=>base_of (KX b o e) (by
   cases q : H b with
   | none=>rfl
   | some u =>
    have e' : b = a:=hA b (by rw [q]; simp)
    subst e'
    rw [hK (by rw [q]; simp)] at e; cases e)
  have hM : Mod K mg (hidT s₁.heap H):=⟨hKb,nsK hns,⟨mb,nsK hb,hbb⟩,let ⟨mc,h1,h2⟩:=hlim; ⟨mc,nsK h1,h2⟩⟩
  have e0 : Env0 P w K mg (hidT s₁.heap H) callerA [] s₁ H:=⟨rfl,hM,fun b o e=>of_hidT e,Nat.le_of_eq (hidT_size _ _),trivial,fun b hb=>absurd (show b ∈ ([] : List Addr) from hb) (by simp),hok,.of_eq hg⟩
  refine codeAny_mono ((F _ hKb (nsK hns)).run callerA [] s₁ H ⟨[.ref a],[]⟩ [.ref a] [.ref a] _ _ hr e0 (hbind s₁ (.ref a)) (.cons rfl .nil) (hsp H hO hS)) fun r s' h=>?_
  cases r with
  | error e=>exact (hCX H e s' h).elim
  | ok fl =>
   cases fl with
   | next=>exact False.elim h
   | brk=>exact False.elim h
   | cont=>exact False.elim h
   | ret u =>
    obtain ⟨v,H',os,bare,un,hok',r',q⟩:=h
    have q' : v = .bl true:=q
    subst q'
    obtain rfl : u = Value.bool true:=r'
    refine ⟨rfl,OldK.of_keep fun b o e=>?_,os,bare⟩
    cases q : H b with
    | none=>exact un.keep b o e q (by intro z; exact absurd (show b ∈ ([] : List Addr) from z) (by simp)) (by simp)
    | some u =>
     rcases hO b with z | ⟨ob,xs,z⟩
     · rw [q] at z; cases z
     · have z2:=un.frzs b ob _ z
       obtain ⟨e1,_⟩:=hok b _ z
       obtain ⟨e2,_⟩:=hok' b _ z2
       rw [e] at e1; cases e1
       exact e2
 cases hk : K.lookup a with
 | some o =>
  have e:=KX a o hk
  rw [ha] at e
  cases e
  refine core (fun _=>none) (fun _=>.inl rfl) (.inr ⟨_,vs.toArray,_,hk,rfl,rfl,rfl,by rw [List.size_toArray,lenV]; exact hl,by simpa using rv⟩) (fun b u z=>by have z' : (none : Option HO) = some u:=z; cases z') (fun b z=>absurd rfl z) fun z=>absurd rfl z
 | none =>
  refine core (fun b=>if b = a then some (.frz { cls:=.type "list",data:=.seq vs.toArray } (.lst (ns.map V.int))) else none) (fun b=>?_) (.inl (.inr ⟨{ cls:=.type "list",data:=.seq vs.toArray },if_pos rfl⟩)) (fun b u z=>?_) (fun b z=>?_) fun _=>hk
  · by_cases hb : b = a
    · exact .inr ⟨_,_,if_pos hb⟩
    · exact .inl (if_neg hb)
  · by_cases hb : b = a
    · have z':=(if_pos hb).symm.trans z
      cases z'
      subst hb
      exact ⟨ha,by rw [List.length_map]; exact hl,vs,_,rv,ha⟩
    · have z':=(if_neg hb).symm.trans z
      cases z'
  · by_cases hb : b = a
    · exact hb
    · exact absurd (if_neg hb) z
end L2
namespace L2
open PySem PySem.Spec PyProof.Rows
theorem walk_of {l : PySem.W.OpenLaw} {n k : Nat} {q : Program} {loose : List Str} {XP : (Str → Option Value) → Heap → Prop} {YP : World → Heap → Prop} {d : DefRec} {K : Params → PySem.W.Frag} {CX : World → CXT} {sp : World → Sp} {x : Str}
 (hn : l.most = some n) (hn2 : n ≤ sizeLine) (hdf : d.params.defaults = []) (hr : Room k callerA)
 (hY : ∀ (w : World) (h : Heap),YP w h → (K w.params).In h)
 (F : ∀ (w : World) (mg : Str → Option Value) (fa : Addr) (h : Heap),(K w.params).In h → h.Ns mainGlobals mg → mg d.name = some (.ref fa) →
  ∃ fd : FuncData,(∀ (s : Shared) (u : Value),BindsTo s fd ⟨[u],[]⟩ [(x,u)]) ∧
   ∀ base : Heap,(K w.params).In base → base.Ns mainGlobals mg → FnOk l.prog w (K w.params) mg base (CX w) k fa fd [x] (sp w))
 (hsp : ∀ (w : World) (H : Hp) (a : Addr) (ns : List Int),ns.length ≤ n → Only H → SqL (K w.params) H a (ns.map V.int) → sp w [.ref a] H (fun v _=>v = .bl true) fun _ _ _=>False)
 (hCX : ∀ (w : World) (H : Hp) (s : Shared) (e : Value) (s' : Shared),CX w [] H s (fun _ _ _=>False) e s' → False) :
 PySem.W.WalkO q loose XP YP l.row.toRowW d [] (fun f vs=>PySem.call f vs):=by
 refine Att.attach_call hn hdf fun w s₀ s₁ mg mb fa o pm cd doc a vs ns G Y ho hd hcd hmg hobj hints hlen hg=>?_
 have KX:=hY w _ Y
 obtain ⟨fd,hb,hF⟩:=F w mg fa _ KX G.T.g hmg
 exact law_call KX G.T.g G.T.b G.T.builtins G.T.nolimit hg hobj hints (Nat.le_trans hlen hn2) hr hF hb (fun H hO hS=>hsp w H a ns hlen hO hS) fun H e s'=>hCX w H s₁ e s'
end L2
namespace L2
open PySem PySem.Spec PyProof.Rows
def inClass (s : Stmt) (j : Nat) : Stmt:=match s with
 | .ClassDef _ _ _ body _ _ _ _ _ _ _=>body.getD j (.Pass ⟨0,0,0,0⟩)
 | _=>.Pass ⟨0,0,0,0⟩
def defArgs (s : Stmt) : Arguments:=match s with
 | .FunctionDef _ a _ _ _ _ _ _ _ _=>a
 | _=>{ posonlyargs:=[],args:=[],vararg:=none,kwonlyargs:=[],kw_defaults:=[],kwarg:=none,defaults:=[] }
def defBody (s : Stmt) : List Stmt:=match s with
 | .FunctionDef _ _ b _ _ _ _ _ _ _=>b
 | _=>[]
def defScope (s : Stmt) : Scope:=match s with
 | .FunctionDef _ _ _ _ _ _ sc _ _ _=>sc
 | _=>{ kind:=.function,names:=[],isGenerator:=false,isCoroutine:=false }
abbrev CX0 : CXT:=fun _ _ _ _ _ _=>False
abbrev E0 : XK:=fun _ _ _=>False
theorem pass0 {X : Cx} : Passes CX0 X E0:=fun _ _ _ _ _ _ _ h=>h.elim
structure Fun (K : PySem.W.Frag) (x qual : Str) (st : Stmt) (f : Addr) (fd : FuncData) : Prop where
 ex : ∃ (oc : Value) (od : Option Addr) (kV doc pm : Value) (an : Option Addr) (cdv ct : Value) (osl : Array (Option Value)),
  fd = PySem.W.fnOf x qual (defArgs st) (defBody st) (defScope st) .none kV doc pm an cdv ct ∧ K.lookup f = some ⟨oc,od,.func fd,osl⟩ ∧ PySem.W.codeIn K cdv qual = true
 kp : PySem.W.keepIn K (.ref f) = true
section
variable {P : Program} {w : World} {K : PySem.W.Frag} {mg : Str → Option Value} {base : Heap}
theorem Fun.ok {x qual : Str} {st : Stmt} {f : Addr} {fd : FuncData} {N ps : List Str} {k : Nat} {sp : Sp} (F : Fun K x qual st f fd) (S : FnScope N ps (defScope st)) (len : ∀ vs H Q E,sp vs H Q E → vs.length = ps.length)
 (hbody : ∀ (cdv : Value) (A : Around) (outer : List Env) (s : Shared) (H : Hp) (vs : List V) (Q : VK) (E : XK),Room k (A.deeper (envOfC qual (defScope st) s.heap.objs.size f cdv)) → sp vs H Q E →
  ∃ t,PSs (cxOf CX0 P w K mg base N qual (defScope st) f cdv A outer s H E).nox (defBody st) t ∧ t { nx:=fun _ H'=>Q .non H',rt:=Q } (start N vs) H) : FnOk P w K mg base CX0 (k + 1) f fd ps sp:=by
 obtain ⟨oc,od,kV,doc,pm,an,cdv,ct,osl,rfl,lk,hcd⟩:=F.ex
 refine fn_of lk hcd S len fun A outer s H vs Q E hr hsp=>?_
 obtain ⟨t,h,q⟩:=hbody cdv A outer s H vs Q E hr hsp
 exact ⟨t,h.nox,q⟩
theorem Fun.binds {x qual : Str} {st : Stmt} {f : Addr} {fd : FuncData} {ps : List Str} (F : Fun K x qual st f fd)
 (h : ∀ (kV doc pm : Value) (an : Option Addr) (cdv ct : Value) (us : List Value),us.length = ps.length → bindArgs (PySem.W.fnOf x qual (defArgs st) (defBody st) (defScope st) .none kV doc pm an cdv ct) ⟨us,[]⟩ = pure (ps.zip us)) : Binds K fd ps []:=by
 obtain ⟨oc,od,kV,doc,pm,an,cdv,ct,osl,rfl,lk,hcd⟩:=F.ex
 exact .all (h kV doc pm an cdv ct)
theorem fun_mk {x qual : Str} {st : Stmt} {f : Addr} {oc : Value} {od an : Option Addr} {osl : Array (Option Value)} {kV doc pm cdv ct : Value} (l : K.lookup f = some ⟨oc,od,.func (PySem.W.fnOf x qual (defArgs st) (defBody st) (defScope st) .none kV doc pm an cdv ct),osl⟩)
 (c : PySem.W.codeIn K cdv qual = true) (k : PySem.W.keepIn K (.ref f) = true) : Fun K x qual st f (PySem.W.fnOf x qual (defArgs st) (defBody st) (defScope st) .none kV doc pm an cdv ct):=⟨⟨oc,od,kV,doc,pm,an,cdv,ct,osl,rfl,l,c⟩,k⟩
end
theorem hu_of {A : Around} {k : Nat} (hr : Room k A) : A.units + 1 < cLine:=Nat.lt_of_le_of_lt (Nat.add_le_add_left (by decide : 1 ≤ 64) _) hr.units
theorem small1000 {n : Nat} (h : n ≤ 1000) : n < sizeLine:=Nat.lt_of_le_of_lt h (by decide)
section
variable {X : Cx}
theorem pv (i : Nat) {x : Str} {pos : Pos} (hN : X.N[i]? = some x:=by rfl) (hv : Vis X.env.scope x:=by first | exact Or.inl rfl | exact Or.inr (Or.inl rfl) | exact Or.inr (Or.inr rfl)) (hd : (x == ("__debug__" : Str)) = false:=by decide)
 (hcd : (x == ("__classdict__" : Str)) = false:=by decide) : PE X (.Name x pos) (tVar i):=pe_var hN hv hd hcd
end
theorem iteF {A B : Prop} (h : B) : if false = true then A else B:=by
 rw [if_neg Bool.false_ne_true]
 exact h
theorem iteT {A B : Prop} (h : A) : if true = true then A else B:=by
 rw [if_pos rfl]
 exact h
theorem ite2 {c A B : Prop} [Decidable c] (h1 : c → A) (h2 : ¬ c → B) : if c then A else B:=by
 by_cases h : c
 · rw [if_pos h]
   exact h1 h
 · rw [if_neg h]
   exact h2 h
theorem iteNS {c A B : Prop} [Decidable c] (hc : c) (h : B) : if (!decide c) = true then A else B:=by
 rw [decide_eq_true hc]
 exact iteF h
def Same (H H' : Hp) : Prop:=∀ b o,H b = some o → H' b = some o
theorem Same.trans {H H1 H2 : Hp} (a : Same H H1) (b : Same H1 H2) : Same H H2:=fun c o h=>b c o (a c o h)
theorem Same.free {H H' : Hp} (e : Same H H') {l : Addr} (h : H' l = Option.none) : H l = Option.none:=by
 cases q : H l with
 | none=>rfl
 | some o =>
  rw [e l o q] at h
  cases h
theorem Same.seq {K : PySem.W.Frag} {H H' : Hp} {a : Addr} {xs : List V} (e : Same H H') (h : SqL K H a xs) : SqL K H' a xs:=by
 rcases h with (h | ⟨o,h⟩) | h
 · exact .inl (.inl (e _ _ h))
 · exact .inl (.inr ⟨o,e _ _ h⟩)
 · exact .inr h
end L2
namespace L2
open PySem PySem.Spec PyProof.Rows
section
variable {X : Cx}
theorem call_lenD : CallR X (.builtin "len") (fun xs H Q=>∃ a kvs,xs = [V.ref a] ∧ H a = some (.dK kvs) ∧ Q (.int kvs.length) H):=by
 intro pins s σ H xs us Q I r h
 obtain ⟨a,kvs,rfl,ha,q⟩:=h
 obtain ⟨u,rfl,ru⟩:=vals1 r
 cases ru
 exact d_len I (.inl ha) fun t s' I'=>⟨.int kvs.length,H,I',⟨t,rfl⟩,q⟩
end
end L2
set_option maxHeartbeats 4000000
namespace Gen
open PySem
theorem nodup_le {α : Type} [DecidableEq α] : ∀ (l t : List α),l.Nodup → (∀ x ∈ l,x ∈ t) → l.length ≤ t.length
 | [],t,_,_=>Nat.zero_le _
 | a :: l,t,hn,hs=>by
  have ha : a ∈ t:=hs a List.mem_cons_self
  obtain ⟨h1,h2⟩:=List.nodup_cons.mp hn
  have:=nodup_le l (t.erase a) h2 fun x hx=>(List.mem_erase_of_ne (fun (e : x = a)=>h1 (by rw [← e]; exact hx))).mpr (hs x (List.mem_cons_of_mem _ hx))
  rw [List.length_erase_of_mem ha] at this
  have : 0 < t.length:=List.length_pos_of_mem ha
  simp only [List.length_cons]
  omega
theorem indices_to (k len : Nat) : Builtin.Str.strSliceIndices none (some (k : Int)) 1 len = List.range (min k len):=by
 have h1 : ¬ ((k : Int) < 0):=by omega
 have e : max (0 : Int) (min (k : Int) (len : Int)) = ((min k len : Nat) : Int):=by omega
 simp only [Builtin.Str.strSliceIndices,sliceRange,h1,if_false,show ((1 : Int) > 0) = True from by simp,if_true,e]
 by_cases h : (0 : Int) < ((min k len : Nat) : Int)
 · have e3 : (((min k len : Nat) : Int) - 0 + 1 - 1) / 1 = ((min k len : Nat) : Int):=by simp
   rw [if_pos h,e3,Int.toNat_natCast]
   conv=>rhs; rw [← List.map_id (List.range (min k len))]
   exact List.map_congr_left fun j _=>by simp
 · have : min k len = 0:=by omega
   simp [this]
theorem picks_range {α : Type} (l : List α) (n : Nat) (h : n ≤ l.length) : (List.range n).filterMap (l[·]?) = l.take n:=by
 have:=StrLaws.picks l n 0 (by omega)
 simpa using this
theorem slice_to (x : Str) (k : Nat) : (Txt.slice x none (some (k : Int))).cps.toList = x.cps.toList.take k:=by
 unfold Txt.slice
 rw [indices_to]
 have hl : x.cps.toList.length = x.length:=by simp [Str.length]
 split
 · rename_i h
   simp only [beq_self_eq_true,Bool.true_and,List.length_range,beq_iff_eq] at h
   rw [List.take_of_length_le]
   omega
 · have e : (fun (i : Nat)=>x.cps[i]?) = (fun (i : Nat)=>x.cps.toList[i]?):=by funext i; simp
   show (List.filterMap (fun (i : Nat)=>x.cps[i]?) (List.range (min k x.length))).toArray.toList = _
   rw [List.toList_toArray,e,picks_range _ _ (by omega)]
   rcases Nat.le_total k x.length with h | h
   · rw [Nat.min_eq_left h]
   · rw [Nat.min_eq_right h,List.take_of_length_le (by omega),List.take_of_length_le (by omega)]
def letters : List Nat:=(List.range 26).map (· + 97)
theorem mem_letters {c : Nat} : c ∈ letters ↔ 97 ≤ c ∧ c ≤ 122:=by
 unfold letters
 simp only [List.mem_map,List.mem_range]
 constructor
 · rintro ⟨a,h,rfl⟩; omega
 · intro h; exact ⟨c - 97,by omega,by omega⟩
def isName (n : List Nat) : Prop:=1 ≤ n.length ∧ n.length ≤ 8 ∧ ∀ c ∈ n,c ∈ letters
def cand (n : List Nat) : List (List Nat) :=
 [n] ++ letters.map (fun c=>n.take 7 ++ [c]) ++ letters.map (fun c=>n.take 6 ++ [c,113]) ++ letters.map (fun c=>n.take 6 ++ [c,122]) ++ letters.map (fun c=>n.take 5 ++ [c,113,122])
theorem cand_name {n x : List Nat} (hn : isName n) (hx : x ∈ cand n) : isName x:=by
 obtain ⟨h1,h2,h3⟩:=hn
 have tk : ∀ k,∀ c ∈ n.take k,c ∈ letters:=fun k c hc=>h3 c (List.mem_of_mem_take hc)
 have l113 : 113 ∈ letters:=by decide
 have l122 : 122 ∈ letters:=by decide
 unfold cand at hx
 simp only [List.mem_append,List.mem_singleton,List.mem_map] at hx
 rcases hx with (((rfl | ⟨c,hc,rfl⟩) | ⟨c,hc,rfl⟩) | ⟨c,hc,rfl⟩) | ⟨c,hc,rfl⟩
 · exact ⟨h1,h2,h3⟩
 all_goals
  refine ⟨by simp,by simp only [List.length_append,List.length_take,List.length_cons,List.length_nil]; omega,fun d hd=>?_⟩
  simp only [List.mem_append,List.mem_cons,List.not_mem_nil,or_false] at hd
  rcases hd with hd | hd
  · exact tk _ d hd
  · rcases hd with rfl | hd <;> first | exact hc | (rcases hd with rfl | hd <;> first | exact l113 | exact l122 | (rcases hd with rfl <;> first | exact l113 | exact l122)) | (subst hd; first | exact l113 | exact l122)
def sub (n : List Nat) : List (List Nat) :=
 (letters.filter fun c=>decide (c ≠ 113 ∧ c ≠ 122)).map (fun c=>n.take 7 ++ [c]) ++ letters.map (fun c=>n.take 6 ++ [c,113]) ++ letters.map (fun c=>n.take 6 ++ [c,122])
  ++ (letters.filter fun c=>decide (some c ≠ n[5]?)).map (fun c=>n.take 5 ++ [c,113,122])
theorem sub_cand {n x : List Nat} (h : x ∈ sub n) : x ∈ cand n:=by
 unfold sub at h
 unfold cand
 simp only [List.mem_append,List.mem_singleton,List.mem_map,List.mem_filter] at h ⊢
 rcases h with ((⟨c,⟨hc,_⟩,rfl⟩ | ⟨c,hc,rfl⟩) | ⟨c,hc,rfl⟩) | ⟨c,⟨hc,_⟩,rfl⟩
 · exact .inl (.inl (.inl (.inr ⟨c,hc,rfl⟩)))
 · exact .inl (.inl (.inr ⟨c,hc,rfl⟩))
 · exact .inl (.inr ⟨c,hc,rfl⟩)
 · exact .inr ⟨c,hc,rfl⟩
theorem nodup_letters : letters.Nodup:=by decide
theorem nodup_map_tail {l : List Nat} (hl : l.Nodup) (p q : List Nat) : (l.map fun c=>p ++ c :: q).Nodup:=by
 induction l with
 | nil=>exact List.nodup_nil
 | cons a l ih =>
  obtain ⟨h1,h2⟩:=List.nodup_cons.mp hl
  rw [List.map_cons,List.nodup_cons]
  refine ⟨fun h=>?_,ih h2⟩
  obtain ⟨b,hb,e⟩:=List.mem_map.mp h
  have:=List.append_cancel_left e
  injection this with e1 _
  exact h1 (e1 ▸ hb)
theorem last_of {p : List Nat} {a : Nat} : (p ++ [a]).getLast? = some a:=by simp
theorem sub_nodup (n : List Nat) : (sub n).Nodup:=by
 unfold sub
 have lastB : ∀ x ∈ letters.map (fun c=>n.take 6 ++ [c,113]),x.getLast? = some 113:=fun x hx=>by
  obtain ⟨c,_,rfl⟩:=List.mem_map.mp hx
  simp
 have lastC : ∀ x ∈ letters.map (fun c=>n.take 6 ++ [c,122]),x.getLast? = some 122:=fun x hx=>by
  obtain ⟨c,_,rfl⟩:=List.mem_map.mp hx
  simp
 have lastD : ∀ x ∈ (letters.filter fun c=>decide (some c ≠ n[5]?)).map (fun c=>n.take 5 ++ [c,113,122]),x.getLast? = some 122:=fun x hx=>by
  obtain ⟨c,_,rfl⟩:=List.mem_map.mp hx
  simp
 have lastA : ∀ x ∈ (letters.filter fun c=>decide (c ≠ 113 ∧ c ≠ 122)).map (fun c=>n.take 7 ++ [c]),x.getLast? ≠ some 113 ∧ x.getLast? ≠ some 122:=fun x hx=>by
  obtain ⟨c,hc,rfl⟩:=List.mem_map.mp hx
  obtain ⟨_,hc⟩:=List.mem_filter.mp hc
  have hc':=of_decide_eq_true hc
  rw [last_of]
  exact ⟨fun e=>hc'.1 (Option.some.inj e),fun e=>hc'.2 (Option.some.inj e)⟩
 refine List.nodup_append.mpr ⟨List.nodup_append.mpr ⟨List.nodup_append.mpr ⟨nodup_map_tail (nodup_letters.filter _) _ _,nodup_map_tail nodup_letters _ _,?_⟩,nodup_map_tail nodup_letters _ _,?_⟩,nodup_map_tail (nodup_letters.filter _) _ _,?_⟩
 · intro a ha b hb e
   exact (lastA a ha).1 (e ▸ lastB b hb)
 · intro a ha b hb e
   rcases List.mem_append.mp ha with ha | ha
   · exact (lastA a ha).2 (e ▸ lastC b hb)
   · have:=lastB a ha
     rw [e,lastC b hb] at this
     cases this
 · intro a ha b hb e
   rcases List.mem_append.mp ha with ha | ha
   · rcases List.mem_append.mp ha with ha | ha
     · exact (lastA a ha).2 (e ▸ lastD b hb)
     · have:=lastB a ha
       rw [e,lastD b hb] at this
       cases this
   · obtain ⟨c,_,rfl⟩:=List.mem_map.mp ha
     obtain ⟨d,hd,rfl⟩:=List.mem_map.mp hb
     obtain ⟨_,hd⟩:=List.mem_filter.mp hd
     have hd' : some d ≠ n[5]?:=of_decide_eq_true hd
     rcases Nat.lt_or_ge 5 n.length with hl | hl
     · -- both have eight letters
       have e5 : (n.take 6 ++ [c,122])[5]? = (n.take 5 ++ [d,113,122])[5]?:=by rw [e]
       have t6 : (n.take 6).length = 6:=by rw [List.length_take]; omega
       have t5 : (n.take 5).length = 5:=by rw [List.length_take]; omega
       rw [List.getElem?_append_left (by omega),List.getElem?_append_right (by omega),t5,List.getElem?_take] at e5
       simp at e5
       exact hd' e5.symm
     · have el:=congrArg List.length e
       simp only [List.length_append,List.length_take,List.length_cons,List.length_nil] at el
       omega
theorem sub_length (n : List Nat) : 100 ≤ (sub n).length:=by
 unfold sub
 simp only [List.length_append,List.length_map]
 have h1 : letters.length = 26:=by decide
 have h2 : (letters.filter fun c=>decide (c ≠ 113 ∧ c ≠ 122)).length = 24:=by decide
 have h3 : 25 ≤ (letters.filter fun c=>decide (some c ≠ n[5]?)).length:=by
  cases n[5]? with
  | none =>
   have : (letters.filter fun c=>decide (some c ≠ none)) = letters:=List.filter_eq_self.mpr fun c _=>by simp
   rw [this,h1]
   decide
  | some d =>
   have e : (letters.filter fun c=>decide (some c ≠ some d)) = letters.filter fun c=>c != d:=by
    apply List.filter_congr
    intro c _
    by_cases h : c = d
    · subst h; simp
    · simp [h]
   rw [e]
   by_cases hd : d ∈ letters
   · obtain ⟨a,b⟩:=mem_letters.mp hd
     have : ∀ k,k < 26 → 25 ≤ (letters.filter fun c=>c != k + 97).length:=by decide
     have:=this (d - 97) (by omega)
     rw [show d - 97 + 97 = d by omega] at this
     exact this
   · have : (letters.filter fun c=>c != d) = letters:=List.filter_eq_self.mpr fun c hc=>by
      have : c ≠ d:=fun e=>hd (e ▸ hc)
      simpa using this
     rw [this,h1]
     decide
 rw [h1,h2]
 omega
theorem cand_free (n : List Nat) (told : List (List Nat)) (h : told.length < 100) : ∃ x ∈ cand n,x ∉ told:=by
 apply Classical.byContradiction
 intro hx
 have all : ∀ x ∈ sub n,x ∈ told:=fun x hs=>Classical.byContradiction fun ht=>hx ⟨x,sub_cand hs,ht⟩
 have:=nodup_le (sub n) told (sub_nodup n) all
 have:=sub_length n
 omega
end Gen
namespace Gen
open PySem
theorem empty_cps : ("" : Str).cps.toList = []:=by decide +kernel
theorem q_cps : ("q" : Str).cps.toList = [113]:=by decide +kernel
theorem z_cps : ("z" : Str).cps.toList = [122]:=by decide +kernel
theorem qz_cps : ("qz" : Str).cps.toList = [113,122]:=by decide +kernel
theorem abc_cps : ("abcdefghijklmnopqrstuvwxyz" : Str).cps.toList = letters:=by decide +kernel
theorem app_cps (a b : Str) : (a ++ b).cps.toList = a.cps.toList ++ b.cps.toList:=by rw [Str.cps_append,Array.toList_append]
theorem join_cps : ∀ ys : List Str,(Str.join "" ys).cps.toList = (ys.map (·.cps.toList)).flatten
 | []=>rfl
 | [x]=>by simp [Str.join]
 | x :: y :: r=>by
  have ih:=join_cps (y :: r)
  show (x ++ "" ++ Str.join "" (y :: r)).cps.toList = _
  rw [app_cps,app_cps,ih,empty_cps]
  simp
theorem tjoin_cps (ys : List Str) : (Txt.join "" ys).cps.toList = (ys.map (·.cps.toList)).flatten:=by
 unfold Txt.join
 rw [StrLaws.glued_eq_join]
 exact join_cps ys
def c7 (n : Str) : List Str:=letters.map fun c=>Txt.slice n none (some 7) ++ ⟨#[c]⟩
def c6q (n : Str) : List Str:=letters.map fun c=>Txt.slice n none (some 6) ++ ⟨#[c]⟩ ++ "q"
def c6z (n : Str) : List Str:=letters.map fun c=>Txt.slice n none (some 6) ++ ⟨#[c]⟩ ++ "z"
def c5 (n : Str) : List Str:=letters.map fun c=>Txt.slice n none (some 5) ++ ⟨#[c]⟩ ++ "qz"
def candS (n : Str) : List Str:=[n] ++ c7 n ++ c6q n ++ c6z n ++ c5 n
theorem candS_cps (n : Str) : (candS n).map (·.cps.toList) = cand n.cps.toList:=by
 have s7:=slice_to n 7
 have s6:=slice_to n 6
 have s5:=slice_to n 5
 have e7 : ((7 : Nat) : Int) = 7:=rfl
 have e6 : ((6 : Nat) : Int) = 6:=rfl
 have e5 : ((5 : Nat) : Int) = 5:=rfl
 rw [e7] at s7
 rw [e6] at s6
 rw [e5] at s5
 unfold candS cand c7 c6q c6z c5
 simp only [List.map_append,List.map_map,List.map_cons,List.map_nil,Function.comp_def,app_cps,s7,s6,s5,q_cps,z_cps,qz_cps,List.append_assoc,List.cons_append,List.nil_append]
theorem str_ext {a b : Str} (h : a.cps.toList = b.cps.toList) : a = b:=Str.ext' (Array.toList_inj.mp h)
def NameS (z : Str) : Prop:=isName z.cps.toList
theorem candS_name {n z : Str} (hn : NameS n) (hz : z ∈ candS n) : NameS z:=by
 refine cand_name hn ?_
 rw [← candS_cps]
 exact List.mem_map.mpr ⟨z,hz,rfl⟩
theorem candS_free (n : Str) (told : List Str) (h : told.length < 100) : ∃ x ∈ candS n,x ∉ told:=by
 obtain ⟨x,hx,ht⟩:=cand_free n.cps.toList (told.map (·.cps.toList)) (by simpa using h)
 rw [← candS_cps] at hx
 obtain ⟨z,hz,rfl⟩:=List.mem_map.mp hx
 exact ⟨z,hz,fun hm=>ht (List.mem_map.mpr ⟨z,hm,rfl⟩)⟩
def theWords : List Str:=["switch", "keep", "gate", "next", "never", "some", "wall", "row", "step", "piece", "lasso"]
theorem words_split : Txt.split "switch keep gate next never some wall row step piece lasso" " " = theWords:=by decide +kernel
theorem words_names : ∀ x ∈ theWords,NameS x:=by
 have h : theWords.all (fun x=>decide (1 ≤ x.cps.toList.length) && decide (x.cps.toList.length ≤ 8) && x.cps.toList.all fun c=>decide (c ∈ letters)) = true:=by decide +kernel
 intro x hx
 have:=List.all_eq_true.mp h x hx
 simp only [Bool.and_eq_true,decide_eq_true_eq,List.all_eq_true] at this
 exact ⟨this.1.1,this.1.2,this.2⟩
theorem NameS.len {z : Str} (h : NameS z) : z.length ≤ 8:=by
 have:=h.2.1
 simpa [Str.length] using this
theorem joined_name {ys : List Str} (h1 : 1 ≤ ys.length) (h2 : ys.length ≤ 8) (h : ∀ y ∈ ys,∃ c ∈ letters,y = ⟨#[c]⟩) : NameS (Txt.join "" ys):=by
 have e : ∀ zs : List Str,(∀ y ∈ zs,∃ c ∈ letters,y = ⟨#[c]⟩) → (zs.map (·.cps.toList)).flatten.length = zs.length ∧ ∀ c ∈ (zs.map (·.cps.toList)).flatten,c ∈ letters:=by
  intro zs
  induction zs with
  | nil=>intro _; exact ⟨rfl,fun c hc=>by simp at hc⟩
  | cons z zs ih =>
   intro hz
   obtain ⟨c,hc,rfl⟩:=hz z List.mem_cons_self
   obtain ⟨i1,i2⟩:=ih fun y hy=>hz y (List.mem_cons_of_mem _ hy)
   refine ⟨?_,fun d hd=>?_⟩
   · rw [List.map_cons,List.flatten_cons,List.length_append,i1]
     simp
     omega
   · rw [List.map_cons,List.flatten_cons,List.mem_append] at hd
     rcases hd with hd | hd
     · have : d = c:=by simpa using hd
       rw [this]; exact hc
     · exact i2 d hd
 obtain ⟨e1,e2⟩:=e ys h
 unfold NameS isName
 rw [tjoin_cps,e1]
 exact ⟨h1,h2,e2⟩
end Gen
namespace PySem
open Builtin Builtin.Str
def chop (c : Nat) : List Nat → List (List Nat)
 | []=>[[]]
 | x :: r=>if x = c then [] :: chop c r else match chop c r with
  | []=>[[x]]
  | h :: t=>(x :: h) :: t
theorem chop_ne (c : Nat) : ∀ l,∃ h t,chop c l = h :: t
 | []=>⟨[],[],rfl⟩
 | x :: r=>by
  obtain ⟨h,t,e⟩:=chop_ne c r
  by_cases hx : x = c
  · exact ⟨[],chop c r,by simp [chop,hx]⟩
  · exact ⟨x :: h,t,by simp [chop,hx,e]⟩
theorem chop_none {c : Nat} : ∀ {l : List Nat},c ∉ l → chop c l = [l]
 | [],_=>rfl
 | x :: r,h=>by
  have h1 : ¬ x = c:=fun z=>h (by simp [z])
  have h2:=chop_none (l:=r) fun z=>h (List.mem_cons_of_mem _ z)
  simp [chop,h1,h2]
theorem chop_at {c : Nat} {r : List Nat} : ∀ {l : List Nat},c ∉ l → chop c (l ++ c :: r) = l :: chop c r
 | [],_=>by simp [chop]
 | x :: l,h=>by
  have h1 : ¬ x = c:=fun z=>h (by simp [z])
  have h2:=chop_at (r:=r) (l:=l) fun z=>h (List.mem_cons_of_mem _ z)
  simp [chop,h1,h2]
def seam (c : Nat) : List (List Nat) → List Nat
 | []=>[]
 | [x]=>x
 | x :: y :: r=>x ++ c :: seam c (y :: r)
theorem chop_seam {c : Nat} : ∀ {rows : List (List Nat)},rows ≠ [] → (∀ l ∈ rows,c ∉ l) → chop c (seam c rows) = rows
 | [],h,_=>absurd rfl h
 | [x],_,h=>chop_none (h x (by simp))
 | x :: y :: r,_,h=>by
  rw [seam,chop_at (h x (by simp)),chop_seam (rows:=y :: r) (by simp) fun l hl=>h l (List.mem_cons_of_mem _ hl)]
def spots (c : Nat) (L : List Nat) (a k : Nat) : List Nat:=(List.range' a k).filter fun i=>decide (L[i]? = some c)
theorem occ_spots {z : Str} {c : Nat} {limit : Nat} : ∀ (k a : Nat) (acc : Array Nat) (free : Nat),free ≤ a → acc.size + k ≤ limit →
 (forIn (List.range' a k) (acc,free) (StrLaws.occBody z ⟨#[c]⟩ z.length limit)).run.fst.toList = acc.toList ++ spots c z.cps.toList a k
 | 0,a,acc,free,_,_=>by simp [spots]
 | k + 1,a,acc,free,h1,h2=>by
  rw [List.range'_succ,List.forIn_cons]
  unfold StrLaws.occBody
  have key:=StrLaws.subAt_one z c a
  by_cases hc : z.cps.toList[a]? = some c
  · have k1:=key.mpr hc
    rw [if_pos ⟨⟨⟨(by show acc.size < limit; omega),h1⟩,k1.1⟩,k1.2⟩]
    have ih:=occ_spots (z:=z) (c:=c) (limit:=limit) k (a + 1) (acc.push a) (a + (⟨#[c]⟩ : Str).length) (by show a + 1 ≤ a + 1; exact Nat.le_refl _) (by rw [Array.size_push]; omega)
    refine ih.trans ?_
    have hs : spots c z.cps.toList a (k + 1) = a :: spots c z.cps.toList (a + 1) k:=by
     unfold spots
     rw [List.range'_succ,List.filter_cons,if_pos (decide_eq_true hc)]
    rw [hs]
    simp
  · rw [if_neg (fun h=>hc (key.mp ⟨h.1.2,h.2⟩))]
    have ih:=occ_spots (z:=z) (c:=c) (limit:=limit) k (a + 1) acc free (by omega) (by omega)
    refine ih.trans ?_
    have hs : spots c z.cps.toList a (k + 1) = spots c z.cps.toList (a + 1) k:=by
     unfold spots
     rw [List.range'_succ,List.filter_cons,if_neg (by simpa using hc)]
    rw [hs]
theorem spots_end {c : Nat} {L : List Nat} {n : Nat} (h : L.length = n) (a k : Nat) : spots c L a (k + 1) = spots c L a k ∨ a + k < n:=by
 by_cases hk : a + k < n
 · exact .inr hk
 · refine .inl ?_
   unfold spots
   have e : List.range' a (k + 1) = List.range' a k ++ [a + k]:=by simpa using List.range'_concat (s:=a) (n:=k) (step:=1)
   rw [e,List.filter_append]
   have e2 : L[a + k]? = none:=List.getElem?_eq_none (by omega)
   simp [e2]
theorem occ_is (z : Str) (c : Nat) : occurrences z ⟨#[c]⟩ 0 z.length (z.length + 1) = spots c z.cps.toList 0 z.length:=by
 rw [StrLaws.occ_eq]
 have h:=occ_spots (z:=z) (c:=c) (limit:=z.length + 1) (z.length + 1 - 0) 0 #[] 0 (Nat.le_refl _) (by simp)
 refine h.trans ?_
 have hn : z.cps.toList.length = z.length:=by simp [Str.length]
 rcases spots_end (c:=c) hn 0 z.length with e | e
 · simpa using e
 · omega
def cutAt (L : List Nat) (s : Nat) (cuts : List Nat) (n : Nat) : List (List Nat):=((s :: cuts.map (· + 1)).zip (cuts ++ [n])).map fun p=>(L.drop p.1).take (p.2 - p.1)
theorem cut_chop {c : Nat} {L : List Nat} : ∀ (k a s : Nat),a + k = L.length → s ≤ a → ∀ h t,chop c (L.drop a) = h :: t → cutAt L s (spots c L a k) L.length = ((L.drop s).take (a - s) ++ h) :: t
 | 0,a,s,hk,hs,h,t,e=>by
  have : L.drop a = []:=List.drop_eq_nil_of_le (by omega)
  rw [this] at e
  simp [chop] at e
  obtain ⟨rfl,rfl⟩:=e
  have ha : a = L.length:=by omega
  subst ha
  simp [cutAt,spots]
 | k + 1,a,s,hk,hs,h,t,e=>by
  have ha : a < L.length:=by omega
  rw [List.drop_eq_getElem_cons ha] at e
  obtain ⟨h',t',e'⟩:=chop_ne c (L.drop (a + 1))
  by_cases hc : L[a] = c
  · have hsp : spots c L a (k + 1) = a :: spots c L (a + 1) k:=by
     unfold spots
     rw [List.range'_succ,List.filter_cons,if_pos (by simp [List.getElem?_eq_getElem ha,hc])]
    have ih:=cut_chop (c:=c) (L:=L) k (a + 1) (a + 1) (by omega) (Nat.le_refl _) h' t' e'
    rw [chop,if_pos hc,e'] at e
    cases e
    have e3 : cutAt L s (a :: spots c L (a + 1) k) L.length = (L.drop s).take (a - s) :: cutAt L (a + 1) (spots c L (a + 1) k) L.length:=rfl
    rw [hsp,e3,ih]
    simp
  · have hsp : spots c L a (k + 1) = spots c L (a + 1) k:=by
     unfold spots
     rw [List.range'_succ,List.filter_cons,if_neg (by simp [List.getElem?_eq_getElem ha,hc])]
    have ih:=cut_chop (c:=c) (L:=L) k (a + 1) s (by omega) (by omega) h' t' e'
    rw [chop,if_neg hc,e'] at e
    cases e
    rw [hsp,ih]
    have e4 : (L.drop s).take (a + 1 - s) = (L.drop s).take (a - s) ++ [L[a]]:=by
     have e5 : a + 1 - s = (a - s) + 1:=by omega
     rw [e5,List.take_add_one]
     have e6 : (L.drop s)[a - s]? = some L[a]:=by
      rw [List.getElem?_drop,show s + (a - s) = a by omega,List.getElem?_eq_getElem ha]
     rw [e6]
     rfl
    rw [e4]
    simp
def ofL (l : List Nat) : Str:=⟨l.toArray⟩
theorem parts_cut (z : Str) (cuts : List Nat) : partsBetween z cuts 1 = (cutAt z.cps.toList 0 cuts z.length).map ofL:=by
 unfold partsBetween cutAt
 rw [List.map_map]
 refine List.map_congr_left fun p _=>?_
 show strSub z p.1 p.2 = ofL _
 unfold strSub ofL
 congr 1
 apply Array.toList_inj.mp
 simp [Array.toList_extract,List.extract_eq_take_drop]
theorem split_chop (z : Str) (c : Nat) (hc : c < 256) : Txt.split z ⟨#[c]⟩ = (chop c z.cps.toList).map ofL:=by
 have gen : partsBetween z (occurrences z ⟨#[c]⟩ 0 z.length (z.length + 1)) 1 = (chop c z.cps.toList).map ofL:=by
  obtain ⟨h,t,e⟩:=chop_ne c z.cps.toList
  have hn : z.cps.toList.length = z.length:=by simp [Str.length]
  have k:=cut_chop (c:=c) (L:=z.cps.toList) z.length 0 0 (by omega) (Nat.le_refl _) h t (by simpa using e)
  rw [occ_is,parts_cut,← hn,hn,e]
  rw [hn] at k
  rw [k]
  simp
 have kz : 1 ≤ Builtin.Str.strKind z:=by
  unfold Builtin.Str.strKind
  split
  · exact Nat.le_refl _
  · split <;> decide
 have kc : Builtin.Str.strKind (⟨#[c]⟩ : Str) = 1:=by
  unfold Builtin.Str.strKind
  rw [if_pos (by simp [hc])]
 unfold Txt.split
 split
 · rename_i h
   rw [kc] at h
   have h0 : z.length < 1:=by
    rcases Bool.or_eq_true_iff.mp h with h | h
    · exact of_decide_eq_true h
    · exact absurd (of_decide_eq_true h) (by omega)
   have hz : z = ⟨#[]⟩:=by
    cases z with
    | mk cps =>
     have : cps.size = 0:=by simpa [Str.length] using h0
     rw [Array.eq_empty_of_size_eq_zero this]
   subst hz
   rfl
 · split
   · rename_i h1 h2
     have e0:=List.isEmpty_iff.mp h2
     rw [e0] at gen
     have e1 : partsBetween z [] 1 = [z]:=by
      have:=parts_cut z []
      rw [this]
      simp [cutAt,ofL,Str.length]
      rw [List.take_of_length_le (by simp)]
     rw [e1] at gen
     exact gen
   · exact gen
theorem join_seam (c : Nat) (rows : List Str) : (Txt.join ⟨#[c]⟩ rows).cps.toList = seam c (rows.map fun z=>z.cps.toList):=by
 show (glued ⟨#[c]⟩ rows).cps.toList = _
 rw [StrLaws.glued_eq_join]
 induction rows with
 | nil=>rfl
 | cons x r ih =>
  cases r with
  | nil=>rfl
  | cons y r =>
   show (x.cps ++ #[c] ++ (Str.join ⟨#[c]⟩ (y :: r)).cps).toList = x.cps.toList ++ c :: seam c _
   rw [Array.toList_append,Array.toList_append,ih]
   simp
theorem split_join {c : Nat} {rows : List Str} (hc : c < 256) (h0 : rows ≠ []) (h : ∀ z ∈ rows,c ∉ z.cps.toList) : Txt.split (Txt.join ⟨#[c]⟩ rows) ⟨#[c]⟩ = rows:=by
 rw [split_chop _ c hc,join_seam,chop_seam (by simpa using h0) (fun l hl=>by
  obtain ⟨z,hz,rfl⟩:=List.mem_map.mp hl
  exact h z hz),List.map_map]
 have e : (ofL ∘ fun z : Str=>z.cps.toList) = _root_.id:=by
  funext z
  cases z with
  | mk cps=>simp [ofL]
 rw [e,List.map_id]
end PySem
namespace L2
open PySem PySem.Spec PyProof.Rows
theorem closure_go {env : Env} (f : Str × NameKind → List (Str × Addr) → Sem (ForInStep (List (Str × Addr))))
 (hf : ∀ n k cs,f (n,k) cs = if (k == NameKind.free) = true then (cellOf env n >>= fun a=>pure (ForInStep.yield ((n,a) :: cs))) else pure (ForInStep.yield cs)) :
 ∀ (names : List (Str × NameKind)) (acc : List (Str × Addr)),(∀ x ∈ names,x.2 = NameKind.free → ∃ c,env.cells.lookup x.1 = some c) → (∀ x c,acc.lookup x = some c → env.cells.lookup x = some c) →
  ∃ cl,forIn names acc f = (pure cl : Sem (List (Str × Addr))) ∧ (∀ x c,cl.lookup x = some c → env.cells.lookup x = some c) ∧ (∀ x c,acc.lookup x = some c → ∃ c',cl.lookup x = some c') ∧ ∀ x ∈ names,x.2 = NameKind.free → ∃ c,cl.lookup x.1 = some c
 | [],acc,_,ha=>⟨acc,by simp,ha,fun x c e=>⟨c,e⟩,fun x hx=>by simp at hx⟩
 | (n,k) :: r,acc,hn,ha=>by
  have hn' : ∀ x ∈ r,x.2 = NameKind.free → ∃ c,env.cells.lookup x.1 = some c:=fun x hx=>hn x (List.mem_cons_of_mem _ hx)
  cases hk : k == NameKind.free with
  | false =>
   obtain ⟨cl,e,h1,h2,h3⟩:=closure_go f hf r acc hn' ha
   refine ⟨cl,?_,h1,h2,fun x hx hz=>?_⟩
   · rw [List.forIn_cons,hf,hk,if_neg Bool.false_ne_true,pure_bind]
     exact e
   · rcases List.mem_cons.mp hx with z | hx
     · subst z
       have hz' : k = NameKind.free:=hz
       rw [hz'] at hk
       exact absurd hk (by decide)
     · exact h3 x hx hz
  | true =>
   have hk' : k = NameKind.free:=by cases k <;> first | rfl | exact absurd hk (by decide)
   obtain ⟨c,hc⟩:=hn (n,k) List.mem_cons_self hk'
   have hc' : env.cells.lookup n = some c:=hc
   obtain ⟨cl,e,h1,h2,h3⟩:=closure_go f hf r ((n,c) :: acc) hn' (fun x d ed=>by
    rw [List.lookup_cons] at ed
    cases hx : x == n with
    | true =>
     rw [hx] at ed
     rw [eq_of_beq hx,hc']
     exact ed
    | false =>
     rw [hx] at ed
     exact ha x d ed)
   have hnl : ∃ c',cl.lookup n = some c':=h2 n c (by rw [List.lookup_cons,beq_self_eq_true])
   refine ⟨cl,?_,h1,fun x d ed=>?_,fun x hx hz=>?_⟩
   · rw [List.forIn_cons,hf,hk,if_pos rfl]
     unfold cellOf
     rw [hc']
     rw [pure_bind,pure_bind]
     exact e
   · cases hx : x == n with
     | true =>
      rw [eq_of_beq hx]
      exact hnl
     | false =>
      refine h2 x d ?_
      rw [List.lookup_cons,hx]
      exact ed
   · rcases List.mem_cons.mp hx with z | hx
     · subst z
       exact hnl
     · exact h3 x hx hz
theorem closureFor_all {scope : Scope} {env : Env} (h : ∀ x ∈ scope.names,x.2 = NameKind.free → ∃ c,env.cells.lookup x.1 = some c) :
 ∃ cl,closureFor scope env = pure cl ∧ (∀ x c,cl.lookup x = some c → env.cells.lookup x = some c) ∧ ∀ x ∈ scope.names,x.2 = NameKind.free → ∃ c,cl.lookup x.1 = some c:=by
 obtain ⟨cl,e,h1,_,h3⟩:=closure_go (env:=env) (fun p cs=>if (p.2 == NameKind.free) = true then (cellOf env p.1 >>= fun a=>pure (ForInStep.yield ((p.1,a) :: cs))) else pure (ForInStep.yield cs)) (fun n k cs=>rfl) scope.names [] h (fun x c z=>by simp at z)
 refine ⟨cl,?_,h1,h3⟩
 have key : closureFor scope env = (forIn scope.names ([] : List (Str × Addr)) (fun (p : Str × NameKind) cs=>if (p.2 == NameKind.free) = true then (cellOf env p.1 >>= fun a=>pure (ForInStep.yield ((p.1,a) :: cs))) else pure (ForInStep.yield cs)) >>= fun cs=>pure cs):=rfl
 rw [key,e,pure_bind]
theorem lookup_mem {names : List (Str × NameKind)} {x : Str} {k : NameKind} (h : names.lookup x = some k) : (x,k) ∈ names:=by
 induction names with
 | nil=>simp at h
 | cons p r ih =>
  obtain ⟨n,j⟩:=p
  rw [List.lookup_cons] at h
  cases hx : x == n with
  | true =>
   rw [hx] at h
   have e : j = k:=Option.some.inj h
   rw [eq_of_beq hx,e]
   exact List.mem_cons_self
  | false =>
   rw [hx] at h
   exact List.mem_cons_of_mem _ (ih h)
def relK (env : Env) (p : Str × NameKind) : Str × NameKind:=if (p.2 == NameKind.free && env.scope.kind == .function && env.kindOf p.1 == some .cell) then (p.1,.cell) else p
theorem relabel_names (scope : Scope) (env : Env) : (relabel scope env).names = scope.names.map (relK env):=rfl
theorem lookup_relK {env : Env} : ∀ (names : List (Str × NameKind)) (x : Str),(names.map (relK env)).lookup x = (names.lookup x).map fun k=>(relK env (x,k)).2
 | [],x=>rfl
 | (n,k) :: r,x=>by
  rw [List.map_cons]
  have e1 : (relK env (n,k)).1 = n:=by unfold relK; split <;> rfl
  have : relK env (n,k) = (n,(relK env (n,k)).2):=Prod.ext e1 rfl
  rw [this,List.lookup_cons,List.lookup_cons]
  cases hx : x == n with
  | true =>
   rw [eq_of_beq hx]
   rfl
  | false=>exact lookup_relK r x
theorem rel_free {scope : Scope} {env : Env} {x : Str} (h : scope.names.lookup x = some .free) : (relabel scope env).names.lookup x = some .cell ∨ (relabel scope env).names.lookup x = some .free:=by
 rw [relabel_names,lookup_relK,h]
 unfold relK
 simp only [Option.map_some]
 split
 · exact .inl rfl
 · exact .inr rfl
theorem of_rel_cf {scope : Scope} {env : Env} {x : Str} (hc : ∀ y ∈ scope.names,y.2 ≠ .cell) (h : (relabel scope env).names.lookup x = some .cell ∨ (relabel scope env).names.lookup x = some .free) : scope.names.lookup x = some .free:=by
 rw [relabel_names,lookup_relK] at h
 cases e : scope.names.lookup x with
 | none=>rw [e] at h; rcases h with h | h <;> cases h
 | some k =>
  rw [e] at h
  have hm:=lookup_mem e
  have nk : k ≠ .cell:=hc _ hm
  simp only [Option.map_some,Option.some.injEq] at h
  by_cases hf : k = .free
  · rw [hf]
  · have hb : (k == NameKind.free) = false:=by cases k <;> first | rfl | exact absurd rfl hf
    have : (relK env (x,k)).2 = k:=by
     unfold relK
     simp [hb]
    rw [this] at h
    rcases h with h | h
    · exact absurd h nk
    · exact absurd h hf
def cxComp (X : Cx) (N : List Str) (scope : Scope) (cl : List (Str × Addr)) (C : Addr) (s : Shared) (H : Hp) (fp : List Addr) (pn : List (Addr × Obj)) : Cx where
 prog:=X.prog
 w:=X.w
 K:=X.K
 mg:=X.mg
 base:=X.base
 A:=X.A
 N:=N
 s₀:=s
 H₀:=H
 env:=compEnvC scope cl C X.env
 outer:=X.stack
 stack:=X.stack
 ex:=fp
 fn:=fun _=>false
 calm:=true
 pn:=pn
 xe:=fun _ _=>False
structure CompSc (X : Cx) (N : List Str) (js : List (Option Nat)) (scope : Scope) : Prop where
 kind : scope.kind = .function
 nocell : ∀ y ∈ scope.names,y.2 ≠ .cell
 names : ∀ y ∈ scope.names,y.2 = .local → scope.names.lookup y.1 = some .local
 frees : ∀ y ∈ scope.names,y.2 = .free → X.env.kindOf y.1 = some .cell ∨ X.env.kindOf y.1 = some .free
 len : js.length = N.length
 pull : ∀ (i j : Nat) (x : Str),js[i]? = some (some j) → N[i]? = some x → X.N[j]? = some x ∧ scope.names.lookup x = some .free
def pullOk (xn : List Str) (names : List (Str × NameKind)) : List Str → List (Option Nat) → Bool
 | [],[]=>true
 | _ :: N,none :: js=>pullOk xn names N js
 | x :: N,some j :: js=>(match xn[j]? with | some y=>decide (y = x) | none=>false) && (match names.lookup x with | some .free=>true | _=>false) && pullOk xn names N js
 | _,_=>false
theorem pullOk_len {xn : List Str} {names : List (Str × NameKind)} : ∀ {N : List Str} {js : List (Option Nat)},pullOk xn names N js = true → js.length = N.length
 | [],[],_=>rfl
 | x :: N,none :: js,h=>by
  have:=pullOk_len (N:=N) (js:=js) (by simpa [pullOk] using h)
  simp [this]
 | x :: N,some j :: js,h=>by
  have h' : pullOk xn names N js = true:=by
   simp only [pullOk,Bool.and_eq_true] at h
   exact h.2
  simp [pullOk_len h']
 | [],_ :: _,h=>by simp [pullOk] at h
 | _ :: _,[],h=>by simp [pullOk] at h
theorem pullOk_at {xn : List Str} {names : List (Str × NameKind)} : ∀ {N : List Str} {js : List (Option Nat)},pullOk xn names N js = true → ∀ (i j : Nat) (x : Str),js[i]? = some (some j) → N[i]? = some x → xn[j]? = some x ∧ names.lookup x = some .free
 | [],[],_,i,j,x,e,_=>by simp at e
 | y :: N,none :: js,h,i,j,x,e1,e2=>by
  cases i with
  | zero=>simp at e1
  | succ i =>
   exact pullOk_at (N:=N) (js:=js) (by simpa [pullOk] using h) i j x (by simpa using e1) (by simpa using e2)
 | y :: N,some j' :: js,h,i,j,x,e1,e2=>by
  simp only [pullOk,Bool.and_eq_true] at h
  obtain ⟨⟨h1,h2⟩,h3⟩:=h
  cases i with
  | zero =>
   have ej : j' = j:=by simpa using e1
   have ey : y = x:=by simpa using e2
   subst ej ey
   constructor
   · cases q : xn[j']? with
     | none=>rw [q] at h1; cases h1
     | some z =>
      rw [q] at h1
      rw [of_decide_eq_true h1]
   · cases q : names.lookup y with
     | none=>rw [q] at h2; cases h2
     | some k =>
      rw [q] at h2
      cases k <;> first | rfl | cases h2
  | succ i=>exact pullOk_at h3 i j x (by simpa using e1) (by simpa using e2)
 | [],_ :: _,h,_,_,_,_,_=>by simp [pullOk] at h
 | _ :: _,[],h,_,_,_,_,_=>by simp [pullOk] at h
def isFn : ScopeKind → Bool
 | .function=>true
 | _=>false
def compOk (xn : List Str) (xs : List (Str × NameKind)) (N : List Str) (js : List (Option Nat)) (scope : Scope) : Bool :=
 isFn scope.kind && (scope.names.all fun y=>match y.2 with
  | .cell=>false
  | .local=>(match scope.names.lookup y.1 with | some .local=>true | _=>false)
  | .free=>(match xs.lookup y.1 with | some .cell=>true | some .free=>true | _=>false)
  | _=>true) && pullOk xn scope.names N js
theorem CompSc.of {X : Cx} {N : List Str} {js : List (Option Nat)} {scope : Scope} (h : compOk X.N X.env.scope.names N js scope = true) : CompSc X N js scope:=by
 unfold compOk at h
 simp only [Bool.and_eq_true,List.all_eq_true] at h
 obtain ⟨⟨h1,h2⟩,h3⟩:=h
 refine ⟨?_,fun y hy e=>?_,fun y hy e=>?_,fun y hy e=>?_,pullOk_len h3,pullOk_at h3⟩
 · cases q : scope.kind <;> rw [q] at h1 <;> first | rfl | cases h1
 · have:=h2 y hy
   rw [e] at this
   cases this
 · have:=h2 y hy
   rw [e] at this
   cases q : scope.names.lookup y.1 with
   | none=>rw [q] at this; cases this
   | some k=>rw [q] at this; cases k <;> first | rfl | cases this
 · have:=h2 y hy
   rw [e] at this
   show X.env.scope.names.lookup y.1 = some .cell ∨ X.env.scope.names.lookup y.1 = some .free
   cases q : X.env.scope.names.lookup y.1 with
   | none=>rw [q] at this; cases this
   | some k=>rw [q] at this; cases k <;> first | exact .inl rfl | exact .inr rfl | cases this
def pullS (js : List (Option Nat)) (σ : St) : St:=js.map fun oj=>match oj with | none=>none | some j=>(σ[j]?).getD none
section
variable {X : Cx} {pins : List (Addr × Obj)} {σ : St} {H : Hp} {s : Shared}
theorem Inv.enter {N : List Str} {js : List (Option Nat)} {scope : Scope} {cl : List (Str × Addr)} {C : Addr} {fp : List Addr} {h' : Heap} {m : Str → Option Value} {tk : Nat} (I : Inv X pins σ H s) (S : CompSc X N js scope) (hc : X.calm = true)
 (hcl : ∀ x c,cl.lookup x = some c → X.env.cells.lookup x = some c) (hfr : ∀ x ∈ scope.names,x.2 = NameKind.free → ∃ c,cl.lookup x.1 = some c) (hC : C = s.heap.objs.size)
 (hf : ∀ b ∈ fp,FpOk X pins H b) (hl : ∀ b ∈ fp,b < s.heap.objs.size) (hn : h'.Ns C m) (k : ∀ b o,s.heap.get? b = some o → h'.get? b = some o) :
 Inv (cxComp X N scope cl C s H fp (X.pn ++ pins)) [] (pullS js σ) H { s with heap:=h',toks:=tk }:=by
 have lt : ∀ b o,s.heap.get? b = some o → b ≠ C:=fun b o e=>by
  rw [hC]
  exact Nat.ne_of_lt (Heap.lt_size e)
 have inLook : ∀ x,scope.names.lookup x = some .free → ∃ c,cl.lookup x = some c:=fun x e=>hfr _ (lookup_mem e) rfl
 have stk : ∀ b,b ≠ X.env.locals → b ∉ X.fs → b ∉ frs X.stack:=fun b h1 h2 z=>(List.mem_cons.mp (I.stkSub b z)).elim h1 h2
 have ok : (cxComp X N scope cl C s H fp (X.pn ++ pins)).Ok:=by
  refine ⟨I.ok.mod,S.kind,I.ok.glob,I.ok.blt,Nat.le_of_eq hC.symm,fun x y c e1 e2=>I.ok.inj x y c (hcl x c e1) (hcl y c e2),fun x hx=>inLook x (of_rel_cf S.nocell hx),fun x c e _=>?_,fun _=>I.ok.hd hc,
   I.ok.frames,.inl rfl,fun b hb=>⟨?_,fun x c e=>(hf b hb).2.2.2.2.1 x c (hcl x c e)⟩,I.bs,Nat.le_trans I.ok.bsz I.sz,fun b o e hb=>?_,fun b hb=>stk b (hf b hb).2.1 (hf b hb).2.2.1,I.stack,I.stkFree⟩
  · cases e
  · show b ≠ C
    rw [hC]
    exact Nat.ne_of_lt (hl b hb)
  · rcases (hf b hb).2.2.2.1 with z | z
    · exact I.ok.noex b o e z
    · exact absurd (Nat.lt_of_lt_of_le (Heap.lt_size e) (Nat.le_trans I.ok.bsz z)) (Nat.lt_irrefl _)
 refine ⟨ok,rfl,I.bare,Un.kept k,⟨m,hn,fun i x v e1 e2 e3=>?_⟩,fun x c e=>?_,?_,fun x c e=>I.freeC x c (hcl x c e),fun p hp=>?_,I.hok.kept k,?_⟩
 · -- a name that the block closes over
   have e2' : (pullS js σ)[i]? = some (some v):=e2
   unfold pullS at e2'
   rw [List.getElem?_map] at e2'
   cases q : js[i]? with
   | none=>rw [q] at e2'; cases e2'
   | some oj =>
    rw [q] at e2'
    cases oj with
    | none=>cases e2'
    | some j =>
     have ev : (σ[j]?).getD none = some v:=Option.some.inj e2'
     have ev' : σ[j]? = some (some v):=by
      cases z : σ[j]? with
      | none=>rw [z] at ev; cases ev
      | some o=>rw [z] at ev; exact congrArg some ev
     obtain ⟨n1,n2⟩:=S.pull i j x q e1
     obtain ⟨c,hc'⟩:=inLook x n2
     have hcX:=hcl x c hc'
     obtain ⟨m0,_,hl0⟩:=I.loc
     have kx:=S.frees (x,.free) (lookup_mem n2) rfl
     have kx' : X.env.kindOf x = some .cell ∨ X.env.kindOf x = some .free:=kx
     obtain ⟨u,ru,lk⟩:=hl0 j x v n1 ev' (kx'.elim (fun z=>.inr (.inl z)) fun z=>.inr (.inr z))
     refine ⟨u,ru,.inr ⟨rel_free n2,c,hc',?_⟩⟩
     rcases lk with ⟨kl,_⟩ | ⟨_,c2,e2,ic⟩
     · rcases kx' with z | z <;> (rw [kl] at z; cases z)
     · rw [hcX] at e2
       cases e2
       obtain ⟨o,ho,hd⟩:=ic
       exact ⟨o,k c o ho,hd⟩
 · obtain ⟨v,o,ho,hd⟩:=I.cell x c (hcl x c e)
   exact ⟨v,o,k c o ho,hd⟩
 · show H C = none
   rw [hC]
   exact I.hok.fresh (Nat.le_refl _)
 · have hp' : p ∈ X.pn ++ pins:=by simpa [cxComp] using hp
   obtain ⟨e,n,ne,nf,d⟩:=I.pin p hp'
   exact ⟨k _ _ e,n,lt _ _ e,stk _ ne nf,d⟩
 · show (pullS js σ).length = N.length
   unfold pullS
   rw [List.length_map]
   exact S.len
theorem Inv.left {N : List Str} {scope : Scope} {cl : List (Str × Addr)} {C : Addr} {fp : List Addr} {σc : St} {H' : Hp} {s' : Shared} {pn : List (Addr × Obj)} (I : Inv X pins σ H s) (hf : ∀ b ∈ fp,FpOk X pins H b)
 (J : Inv (cxComp X N scope cl C s H fp pn) [] σc H' s') : Inv X pins σ H' s' :=
 I.call' (ch:=fp) J.os J.base J.hok J.bare fun b hb=>⟨(hf b hb).2.2.2.1,(hf b hb).2.1,(hf b hb).2.2.2.2.1,(hf b hb).2.2.2.2.2⟩
end
def PIfs (X : Cx) (ifs : List Expr) (t : TT) : Prop :=
 ∀ (pins : List (Addr × Obj)) (s : Shared) (σ : St) (H : Hp) (Q : Bool → Hp → Prop),Inv X pins σ H s → t σ H Q →
  wpAny (model X.prog X.w) X.A (forIn ifs true fun c r=>if r = true then do let ok ← isTrue c X.env (eval c X.env); pure (ForInStep.yield ok) else pure (ForInStep.yield r)) (TP X pins σ Q) X.xe s
def tYes : TT:=fun _ H Q=>Q true H
theorem pifs_nil {X : Cx} : PIfs X [] tYes:=fun pins s σ H Q I h=>by
 rw [List.forIn_nil]
 exact wpAny_pure ⟨H,I,h⟩
theorem pifs_one {X : Cx} {c : Expr} {t : TT} (hc : PT X c t) : PIfs X [c] t:=fun pins s σ H Q I h=>by
 rw [List.forIn_cons]
 refine wpAny_bind ?_
 rw [if_pos rfl]
 refine wpAny_bind (thn (hc pins s σ H Q I h) fun b s1 h1=>?_)
 refine wpAny_pure ?_
 show wpAny _ _ (forIn [] b _) _ _ _
 rw [List.forIn_nil]
 exact wpAny_pure h1
theorem compLoop_any {prog : Program} {w : World} {A : Around} {R : Result → Shared → Prop} {s : Shared} {elt target iter : Expr} {ifs : List Expr} {scope : Scope} {pos : Pos} {it acc : Value} {env : Env} (I : Nat → Shared → Prop)
 (turn : ∀ n s,I n s → wpAny (model prog w) A (pyNext it) (fun r s₁=>match r with
  | none=>R (.ok .next) s₁
  | some v=>wpAny (model prog w) A (letOwnedTupleGo target it v) (fun _ s₁'=>wpAny (model prog w) A (assign target env v) (fun _ s₂ =>
   wpAny (model prog w) A (forIn ifs true fun c r=>if r = true then do let ok ← isTrue c env (eval c env); pure (ForInStep.yield ok) else pure (ForInStep.yield r)) (fun ok s₃ =>
    if ok = true then wpAny (model prog w) A (eval elt env) (fun x s₄ =>
     wpAny (model prog w) A (call (.builtin "list.append") [acc,x]) (fun _ s₅=>∃ m,m < n ∧ I m s₅) (fun _ _=>False) s₄) (fun _ _=>False) s₃
    else ∃ m,m < n ∧ I m s₃) (fun _ _=>False) s₂) (fun _ _=>False) s₁') (fun _ _=>False) s₁) (fun _ _=>False) s)
 (n : Nat) (h : I n s) :
 codeAny (model prog w) A (.compLoop (.ListComp elt [⟨target,iter,ifs,0⟩] scope pos) 0 it acc env) R s:=by
 refine codeAny_loop rfl I (fun n s hI=>?_) n h
 show wpAny _ A ((compTurn (.ListComp elt [⟨target,iter,ifs,0⟩] scope pos) 0 it acc env).onRaise (fun x=>do noteFrame x env; theTreesLotGoes x)) _ _ s
 refine wpAny_noted ?_
 rw [compTurn_list]
 refine wpAny_bind (wpAny_standAt (wpAny_bind (wpAny_mono (turn n s hI) (fun r s₁ h₁=>?_) fun _ _ h'=>h'.elim)))
 cases r with
 | none=>exact wpAny_pure h₁
 | some v =>
  refine wpAny_bind (wpAny_mono h₁ (fun _ s₁' h₁'=>?_) fun _ _ h'=>h'.elim)
  refine wpAny_bind (wpAny_mono h₁' (fun _ s₂ h₂=>wpAny_bind (wpAny_mono h₂ (fun ok s₃ h₃=>?_) fun _ _ h'=>h'.elim)) fun _ _ h'=>h'.elim)
  cases ok with
  | false=>exact wpAny_pure ⟨rfl,h₃⟩
  | true =>
   exact wpAny_bind (wpAny_bind (wpAny_mono h₃ (fun x s₄ h₄=>wpAny_bind (wpAny_mono h₄ (fun _ s₅ h₅=>wpAny_pure (wpAny_pure ⟨rfl,h₅⟩)) fun _ _ h'=>h'.elim)) fun _ _ h'=>h'.elim))
def bLC (D : Addr) (g : TG) (ti : TT) (te : TE) (J : It) (W : Nat → Nat → St → Hp → Prop) (Q : Hp → Prop) : Prop:=∀ i m σ H,W i m σ H →
 (J.stop i H ∧ Q H) ∨ (J.go i H ∧ ∀ x H',J.yld i H x H' → g x σ H' fun σ2 H2=>ti σ2 H2 fun b H3 =>
  if b = true then te σ2 H3 fun y H4=>∃ acc,H4 D = some (.lst acc) ∧ acc.length < sizeLine ∧ ∃ m',m' < m ∧ W (i + 1) m' σ2 (upd H4 D (.lst (acc ++ [y])))
  else ∃ m',m' < m ∧ W (i + 1) m' σ2 H3)
def tLC (js : List (Option Nat)) (wi : TI) (g : TG) (ti : TT) (te : TE) : TE:=fun σ H Q=>wi σ H fun J H1=>∀ D,H1 D = none →
 ∃ W : Nat → Nat → St → Hp → Prop,(∃ m,W 0 m (pullS js σ) (upd H1 D (.lst []))) ∧ bLC D g ti te J W (fun H'=>Q (.ref D) H')
section
variable {X : Cx} {N : List Str} {js : List (Option Nat)} {scope : Scope} {elt tg iter : Expr} {ifs : List Expr} {pos : Pos} {wi : TI} {g : TG} {ti : TT} {te : TE}
theorem lc_run {use : Option (Value → Sem Unit)} {R : Value → Shared → Prop} (S : CompSc X N js scope) (hc : X.calm = true) (hi : PI X tg iter wi)
 (hg : ∀ cl C s H fp pn,PG (cxComp X N scope cl C s H fp pn) tg g) (ht : ∀ cl C s H fp pn,PIfs (cxComp X N scope cl C s H fp pn) ifs ti) (he : ∀ cl C s H fp pn,PE (cxComp X N scope cl C s H fp pn) elt te)
 (hs : ∀ x,foldedSetIterable iter X.env x = pure x) {pins : List (Addr × Obj)} {s : Shared} {σ : St} {H : Hp} {Q : V → Hp → Prop} (I : Inv X pins σ H s) (h : tLC js wi g ti te σ H Q)
 (hR : ∀ D C (H' : Hp) (s' : Shared),Inv X pins σ H' s' → (∃ m,s'.heap.Ns C m) → H' C = none → C ≠ X.env.locals → (C ∈ X.ex ∨ X.s₀.heap.objs.size ≤ C) → (∀ x c,X.env.cells.lookup x = some c → c ≠ C) → (∀ p ∈ X.pn ++ pins,p.1 ≠ C) → Q (.ref D) H' →
  compPost (model X.prog X.w) X.A X.xe use R (.ref D) C (.ok .next) s') :
 wpAny (model X.prog X.w) X.A (comprehension (.ListComp elt [⟨tg,iter,ifs,0⟩] scope pos) scope X.env (firstIterPos [⟨tg,iter,ifs,0⟩] pos) (newList []) false (eval iter X.env) use) R X.xe s:=by
 obtain ⟨cl,hclos,hcl,hfr⟩:=closureFor_all (scope:=scope) (env:=X.env) fun x hx hk=>I.ok.has x.1 (S.frees x hx hk)
 refine wpAny_comprehension_free (use:=use) rfl hs hclos S.kind S.names (thn (hi pins s σ H _ I h) fun xv s1 h1=>thn h1 fun itv s2 h2=>?_)
 obtain ⟨it,fp,tn,J,H2,e,I2,T,st2,f2,q2⟩:=h2
 subst e
 refine wpAny_newObj_type (wpAny_newFunctionEnv S.nocell (by intro y hy; simp at hy) (fun h₁ hns₁ hsb₁=>?_) S.kind)
 dsimp only at hns₁ hsb₁ ⊢
 have I3 : Inv X pins σ (upd H2 s2.heap.objs.size (.lst [])) { s2 with heap:=s2.heap.push { cls:=.type "list",data:=.seq ([] : List Value).toArray },toks:=s2.toks }:=I2.lnew .nil (by show 0 ≤ sizeLine; decide)
 have lt2 : ∀ b ∈ fp,b < s2.heap.objs.size:=fun b hb=>let ⟨o,e,_⟩:=T.obj _ _ st2 b hb; Heap.lt_size e
 have f3 : ∀ b ∈ fp,FpOk X pins (upd H2 s2.heap.objs.size (.lst [])) b:=fun b hb=>⟨by rw [upd_ne (Nat.ne_of_lt (lt2 b hb))]; exact (f2 b hb).1,(f2 b hb).2⟩
 obtain ⟨W,⟨m0,w0⟩,turn⟩:=q2 s2.heap.objs.size (I2.hok.fresh (Nat.le_refl _))
 generalize hs3 : ({ s2 with heap:=s2.heap.push { cls:=.type "list",data:=.seq ([] : List Value).toArray },toks:=s2.toks } : Shared) = s3 at I3
 have e3 : s3.heap = s2.heap.push { cls:=.type "list",data:=.seq ([] : List Value).toArray }:=by rw [← hs3]
 have z3 : s3.heap.objs.size = s2.heap.objs.size + 1:=by rw [e3,Heap.size_push]
 have k1 : ∀ b o,s3.heap.get? b = some o → h₁.get? b = some o:=fun b o e=>by
  have hb : b < s3.heap.objs.size:=Heap.lt_size e
  refine hsb₁.extBut b o ?_ (Heap.get?_push_of_some _ (by rw [← e3]; exact e))
  rw [← e3]
  exact Nat.ne_of_lt hb
 have hC : (s2.heap.push { cls:=.type "list",data:=.seq ([] : List Value).toArray }).objs.size = s3.heap.objs.size:=by rw [e3]
 have I4:=I3.enter (N:=N) (js:=js) (scope:=scope) (cl:=cl) (fp:=fp) (C:=(s2.heap.push { cls:=.type "list",data:=.seq ([] : List Value).toArray }).objs.size) (h':=h₁) (tk:=s2.toks + ([] : List (Str × Value)).length) S hc hcl hfr hC f3
  (fun b hb=>by rw [z3]; exact Nat.lt_succ_of_lt (lt2 b hb)) hns₁ k1
 have st4 : tn 0 h₁:=T.keep _ _ _ st2 fun b hb o e=>k1 b o (by rw [e3]; exact Heap.get?_push_of_some _ e)
 generalize hCC : (s2.heap.push { cls:=.type "list",data:=.seq ([] : List Value).toArray }).objs.size = C at hns₁ hsb₁ hC I4 ⊢
 have hs4 : ({ s3 with heap:=h₁,toks:=s2.toks + ([] : List (Str × Value)).length } : Shared) = { s2 with heap:=h₁,toks:=s2.toks + ([] : List (Str × Value)).length }:=by rw [← hs3]
 rw [hs4] at I4
 have fY : ∀ {H' : Hp},(∀ b ∈ fp,H' b = none) → ∀ b ∈ fp,FpOk (cxComp X N scope cl C s3 (upd H2 s2.heap.objs.size (.lst [])) fp (X.pn ++ pins)) [] H' b:=fun hn b hb=>by
  obtain ⟨f0,fa,fb,fc,fd,fe⟩:=f3 b hb
  refine ⟨hn b hb,?_,fun z=>(List.mem_cons.mp (I3.stkSub b z)).elim fa fb,.inl hb,fun x c e=>fd x c (hcl x c e),fun p hp=>fe p (by simpa [cxComp] using hp)⟩
  show b ≠ C
  rw [hC,z3]
  exact Nat.ne_of_lt (Nat.lt_succ_of_lt (lt2 b hb))
 have loop : codeAny (model X.prog X.w) X.A (.compLoop (.ListComp elt [⟨tg,iter,ifs,0⟩] scope pos) 0 (.ref it) (.ref s2.heap.objs.size) (compEnvC scope cl C X.env))
  (compPost (model X.prog X.w) X.A X.xe use R (.ref s2.heap.objs.size) C) { s2 with heap:=h₁,toks:=s2.toks + ([] : List (Str × Value)).length }:=by
  refine compLoop_any (fun n s'=>∃ i σ' H',Inv (cxComp X N scope cl C s3 (upd H2 s2.heap.objs.size (.lst [])) fp (X.pn ++ pins)) [] σ' H' s' ∧ tn i s'.heap ∧ (∀ b ∈ fp,H' b = none) ∧ W i n σ' H') ?_ m0
   ⟨0,_,_,I4,st4,fun b hb=>(f3 b hb).1,w0⟩
  rintro n s5 ⟨i,σ5,H5,I5,st5,fr5,w5⟩
  rcases turn i n σ5 H5 w5 with ⟨stop,qn⟩ | ⟨go,step⟩
  · refine thn (T.done (cxComp X N scope cl C s3 (upd H2 s2.heap.objs.size (.lst [])) fp (X.pn ++ pins)) rfl rfl rfl rfl i [] s5 σ5 H5 (fun _ _=>False) I5 (fY fr5) st5 stop) fun r s6 ⟨hr,I6⟩=>?_
    subst hr
    have I7 : Inv X pins σ H5 s6:=I3.left f3 I6
    have hCs : X.s₀.heap.objs.size ≤ C:=by rw [hC]; exact I3.sz
    refine hR s2.heap.objs.size C H5 s6 I7 (let ⟨m,hn,_⟩:=I6.loc; ⟨m,hn⟩) I6.free ?_ (.inr hCs) (fun x c e z=>?_) (fun p hp z=>?_) qn
    · rw [hC]
      exact Nat.ne_of_gt I3.lt
    · obtain ⟨v,o,ho,_⟩:=I3.cell x c e
      have:=Heap.lt_size ho
      rw [z,hC] at this
      exact Nat.lt_irrefl _ this
    · obtain ⟨e,_⟩:=I3.pin p hp
      have:=Heap.lt_size e
      rw [z,hC] at this
      exact Nat.lt_irrefl _ this
  · refine thn (T.item (cxComp X N scope cl C s3 (upd H2 s2.heap.objs.size (.lst [])) fp (X.pn ++ pins)) rfl rfl rfl rfl i [] s5 σ5 H5 (fun _ _=>False) I5 (fY fr5) st5 go) fun r s6 ⟨u,hr,h6⟩=>?_
    subst hr
    refine thn h6 fun _ s7 ⟨x,H7,I7,r7,y7,st7,fr7⟩=>?_
    have I7':=I7.pinned (fY fr7) (T.obj _ _ st7)
    have again : ∀ {n' : Nat} {σ8 : St} {H8 : Hp} {s8 : Shared},Inv (cxComp X N scope cl C s3 (upd H2 s2.heap.objs.size (.lst [])) fp (X.pn ++ pins)) ([] ++ pinsAt fp s7.heap) σ8 H8 s8 → n' < n → W (i + 1) n' σ8 H8 →
     ∃ m,m < n ∧ ∃ i σ' H',Inv (cxComp X N scope cl C s3 (upd H2 s2.heap.objs.size (.lst [])) fp (X.pn ++ pins)) [] σ' H' s8 ∧ tn i s8.heap ∧ (∀ b ∈ fp,H' b = none) ∧ W i m σ' H':=fun {n' σ8 H8 s8} I8 hm w8=>by
     refine ⟨n',hm,i + 1,σ8,H8,I8.unpinned,T.keep _ _ _ st7 fun b hb o e=>(I8.pin (b,o) (List.mem_append_right _ (List.mem_append_right _ (mem_pinsAt hb e)))).1,fun b hb=>?_,w8⟩
     obtain ⟨o,e,d⟩:=T.obj _ _ st7 b hb
     exact (I8.pin (b,o) (List.mem_append_right _ (List.mem_append_right _ (mem_pinsAt hb e)))).2.1
    refine thn (hg _ _ _ _ _ _ _ s7 σ5 H7 x u _ I7' r7 (step x H7 y7)) fun _ s8 ⟨σ8,H8,I8,q8⟩=>?_
    refine thn (ht _ _ _ _ _ _ _ s8 σ8 H8 _ I8 q8) fun ok s9 ⟨H9,I9,q9⟩=>?_
    cases ok with
    | false =>
     rw [if_neg Bool.false_ne_true] at q9 ⊢
     obtain ⟨m',hm,w9⟩:=q9
     exact again I9 hm w9
    | true =>
     rw [if_pos rfl] at q9 ⊢
     refine thn (he _ _ _ _ _ _ _ s9 σ8 H9 _ I9 q9) fun yv s10 ⟨y,H10,I10,r10,acc,hD,hl,m',hm,w10⟩=>?_
     refine thn (mt_append _ s10 σ8 H10 (.ref s2.heap.objs.size) [y] (.ref s2.heap.objs.size) [yv] (fun _ H'=>H' = upd H10 s2.heap.objs.size (.lst (acc ++ [y]))) I10 rfl (.cons r10 .nil) ⟨s2.heap.objs.size,acc,y,rfl,rfl,hD,hl,rfl⟩) fun _ s11 ⟨_,H11,I11,_,e11⟩=>?_
     subst e11
     exact again I11 hm w10
 exact codeAny_compStart_list loop (T.self _ 0 _ _ _ st4 loop)
theorem pe_lc (S : compOk X.N X.env.scope.names N js scope = true) (hc : X.calm = true) (hi : PI X tg iter wi)
 (hg : ∀ cl C s H fp pn,PG (cxComp X N scope cl C s H fp pn) tg g) (ht : ∀ cl C s H fp pn,PIfs (cxComp X N scope cl C s H fp pn) ifs ti) (he : ∀ cl C s H fp pn,PE (cxComp X N scope cl C s H fp pn) elt te)
 (hs : ∀ x,foldedSetIterable iter X.env x = pure x:=by intro _; rfl) : PE X (.ListComp elt [⟨tg,iter,ifs,0⟩] scope pos) (tLC js wi g ti te):=by
 intro pins s σ H Q I h
 rw [eval_ListComp]
 refine lc_run (use:=none) (CompSc.of S) hc hi hg ht he hs I h ?_
 rintro D C H' s' I' ⟨m,hn⟩ c1 c2 c3 c4 c5 q
 refine ⟨m,hn,fun h' hs'=>?_⟩
 exact ⟨.ref D,H',I'.turned (t':=s'.toks) (fun b o hb e=>hs'.extBut b o hb e) c1 c2 c3 c4 c5,rfl,q⟩
theorem ps_lc {i : Nat} {x : Str} {pos' spos : Pos} (hN : X.N.Nodup) (hi' : X.N[i]? = some x) (hx : X.env.scope.names.lookup x = some .local) (S : compOk X.N X.env.scope.names N js scope = true) (hc : X.calm = true) (hi : PI X tg iter wi)
 (hg : ∀ cl C s H fp pn,PG (cxComp X N scope cl C s H fp pn) tg g) (ht : ∀ cl C s H fp pn,PIfs (cxComp X N scope cl C s H fp pn) ifs ti) (he : ∀ cl C s H fp pn,PE (cxComp X N scope cl C s H fp pn) elt te)
 (hsw : swapsWith (.ListComp elt [⟨tg,iter,ifs,0⟩] scope pos) (some (.Name x pos')) spos.line X.env = pure true:=by rfl)
 (hs : ∀ x,foldedSetIterable iter X.env x = pure x:=by intro _; rfl) : PS X (.Assign [.Name x pos'] (.ListComp elt [⟨tg,iter,ifs,0⟩] scope pos) spos) (tAsg (tLC js wi g ti te) (gName i)):=by
 intro pins s σ H D I h
 rw [exec_Assign_Name_used _ _ _ _ hsw]
 refine wpAny_bind (wpAny_standAt (wpAny_bind ?_))
 show wpAny _ X.A (do let _ ← comprehension (.ListComp elt [⟨tg,iter,ifs,0⟩] scope pos) scope X.env _ (newList []) false (eval iter X.env) (some (assign (.Name x pos') X.env))) _ _ s
 refine wpAny_bind (thn (lc_run (use:=some (assign (.Name x pos') X.env)) (R:=fun _ s'=>SP X pins D .next s') (CompSc.of S) hc hi hg ht he hs I h ?_) fun _ s' hq=>wpAny_pure (wpAny_pure hq))
 rintro Dd C H' s' I' ⟨m,hn⟩ c1 c2 c3 c4 c5 q
 show wpAny _ X.A (assign (.Name x pos') X.env (.ref Dd)) _ _ _
 refine wpAny_assign_Name (store_ok2 I' hN hi' (.inl hx) (v:=.ref Dd) rfl (fun s'' I'' ⟨a,sb,ha⟩=>?_) (.inr hx))
 have ea : a ≠ C:=by
  rcases ha with ha | ha
  · rw [ha]
    exact Ne.symm c2
  · exact c4 x a ha
 refine ⟨m,hn.sameBut sb (Ne.symm ea),fun h' hs'=>?_⟩
 exact ⟨_,_,I''.turned (t':=s''.toks) (fun b o hb e=>hs'.extBut b o hb e) c1 c2 c3 c4 c5,q⟩
end
def LcW (D : Addr) (n : Nat) (Pv : Nat → List V → St → Hp → Prop) : Nat → Nat → St → Hp → Prop:=fun i m σ H=>i ≤ n ∧ m = n - i ∧ ∃ acc,H D = some (.lst acc) ∧ Pv i acc σ H
theorem lcW_next {D : Addr} {n i : Nat} {Pv : Nat → List V → St → Hp → Prop} {acc : List V} {σ : St} {H : Hp} (hi : i < n) (hD : H D = some (.lst acc)) (hp : Pv (i + 1) acc σ H) : ∃ m',m' < n - i ∧ LcW D n Pv (i + 1) m' σ H :=
 ⟨n - (i + 1),by omega,hi,rfl,acc,hD,hp⟩
theorem lc_by {D : Addr} {g : TG} {ti : TT} {te : TE} {J : It} {Q : Hp → Prop} {σ0 : St} {H0 : Hp} (n : Nat) (Pv : Nat → List V → St → Hp → Prop) (h0 : Pv 0 [] σ0 H0) (hD0 : H0 D = some (.lst []))
 (fin : ∀ acc σ H,H D = some (.lst acc) → Pv n acc σ H → J.stop n H ∧ Q H)
 (step : ∀ i acc σ H,i < n → H D = some (.lst acc) → Pv i acc σ H → J.go i H ∧ ∀ x H',J.yld i H x H' → g x σ H' fun σ2 H2=>ti σ2 H2 fun b H3 =>
  if b = true then te σ2 H3 fun y H4=>∃ acc,H4 D = some (.lst acc) ∧ acc.length < sizeLine ∧ ∃ m',m' < n - i ∧ LcW D n Pv (i + 1) m' σ2 (upd H4 D (.lst (acc ++ [y]))) else ∃ m',m' < n - i ∧ LcW D n Pv (i + 1) m' σ2 H3) :
 ∃ W : Nat → Nat → St → Hp → Prop,(∃ m,W 0 m σ0 H0) ∧ bLC D g ti te J W Q:=by
 refine ⟨LcW D n Pv,⟨n,Nat.zero_le _,rfl,[],hD0,h0⟩,?_⟩
 rintro i m σ H ⟨hi,rfl,acc,hD,hp⟩
 rcases Nat.lt_or_ge i n with h | h
 · exact .inr (step i acc σ H h hD hp)
 · have e : i = n:=Nat.le_antisymm hi h
   subst e
   exact .inl (fin acc σ H hD hp)
end L2
namespace L2
open PySem PySem.Spec PyProof.Rows
section
variable {X : Cx} {pins : List (Addr × Obj)} {σ : St} {H : Hp} {s : Shared} {h' : Heap}
theorem Inv.turnedL {t' : Nat} {fp : List Addr} (I : Inv X pins σ H s) (hf : ∀ b ∈ fp,FpOk X pins H b) (k : ∀ b o,b ∉ fp → s.heap.get? b = some o → h'.get? b = some o) : Inv X pins σ H { s with heap:=h',toks:=t' }:=by
 have nfp : ∀ b u,H b = some u → b ∉ fp:=fun b u e z=>by rw [(hf b z).1] at e; cases e
 refine I.step (g':=s.gens) (d':=s.drawn) (ch:=fp) (fun b hb=>⟨(hf b hb).2.2.2.1,(hf b hb).2.1,(hf b hb).2.2.2.2.1,(hf b hb).2.2.2.2.2⟩) (fun b o _ _ hc e _=>k b o hc e) (fun b o _ _ hc e _=>⟨o.slots,k b o hc e⟩) (fun _ _ _ _ n=>n)
  (fun b o hc e=>⟨o,k b o hc e⟩) (fun _ _ e=>e) (fun _ _ _ e=>e) (fun b ps e=>⟨#[],by rw [e]; simp⟩) (fun m hm=>?_) (fun b u e=>?_) I.bare
 · obtain ⟨o,es,ep,ho,r⟩:=hm
   exact ⟨o,es,ep,k _ o (fun z=>(hf _ z).2.1 rfl) ho,r⟩
 · refine (I.hok b u e).stay (fun c v hc q=>k c v ?_ q) (fun _ q=>q) fun _ _ q=>q
   rcases hc with z | z
   · rw [z]; exact nfp b u e
   · exact nfp c _ z
theorem Inv.turnedT {t' : Nat} {fp : List Addr} {T : Addr} {xs : List V} {its : List Value} (I : Inv X pins σ H s) (hf : ∀ b ∈ fp,FpOk X pins H b) (k : ∀ b o,b ∉ fp → s.heap.get? b = some o → h'.get? b = some o)
 (hT : s.heap.objs.size ≤ T) (ht : IsTup h' T its.toArray) (rv : Vals xs its) (hz : xs.length ≤ sizeLine) : Inv X pins σ (upd H T (.tup xs)) { s with heap:=h',toks:=t' }:=by
 have nfp : ∀ b u,H b = some u → b ∉ fp:=fun b u e z=>by rw [(hf b z).1] at e; cases e
 have hTn : H T = none:=I.hok.fresh hT
 have neT : ∀ b u,H b = some u → b ≠ T:=fun b u e z=>by rw [z,hTn] at e; cases e
 have ltT : ∀ b o,s.heap.get? b = some o → b ≠ T:=fun b o e=>Nat.ne_of_lt (Nat.lt_of_lt_of_le (Heap.lt_size e) hT)
 refine I.step (g':=s.gens) (d':=s.drawn) (ch:=fp) (fun b hb=>⟨(hf b hb).2.2.2.1,(hf b hb).2.1,(hf b hb).2.2.2.2.1,(hf b hb).2.2.2.2.2⟩) (fun b o _ _ hc e _=>k b o hc e) (fun b o _ _ hc e _=>⟨o.slots,k b o hc e⟩)
  (fun b o _ e n=>by rw [upd_ne (ltT b o e)]; exact n) (fun b o hc e=>⟨o,k b o hc e⟩) (fun b ys e=>by rw [upd_ne (neT b _ e)]; exact e) (fun b o u e=>by rw [upd_ne (neT b _ e)]; exact e)
  (fun b ps e=>⟨#[],by rw [upd_ne (neT b _ e),e]; simp⟩) (fun m hm=>?_) (fun b u e=>?_) I.bare
 · obtain ⟨o,es,ep,ho,r⟩:=hm
   exact ⟨o,es,ep,k _ o (fun z=>(hf _ z).2.1 rfl) ho,r⟩
 · by_cases hb : b = T
   · subst hb
     rw [upd_same] at e
     cases e
     exact ⟨hz,its,rv,ht⟩
   · rw [upd_ne hb] at e
     refine (I.hok b u e).stay (fun c v hc q=>k c v ?_ q) (fun c q=>by rw [upd_ne (neT c _ q)]; exact q) fun c ys q=>by rw [upd_ne (neT c _ q)]; exact q
     rcases hc with z | z
     · rw [z]; exact nfp b u e
     · exact nfp c _ z
end
def Its (z : Str) : It:=⟨fun i _=>i < z.cps.size,fun i H x H'=>H' = H ∧ ∃ c,z.cps[i]? = some c ∧ x = .str ⟨#[c]⟩,fun i _=>i = z.cps.size⟩
theorem turn_str {P : Program} {w : World} {K : PySem.W.Frag} {tg : Expr} (it : Addr) (z : Str) (t : Tok) (ty : String) (W : ∀ A : Around,A.handled = none → Walks P w A it [it] [it] z.cps.size (SignAt z) (fun i h=>h.IsStrIter it ty z t i))
 (hs : ∀ (A : Around) (i : Nat) (s : Shared) (Q : Value → Shared → Prop) (E : Value → Shared → Prop),s.heap.IsStrIter it ty z t i → Q (.ref it) s → wpAny (model P w) A (pyIter (.ref it)) Q E s)
 (hn : ["enumerate", "zip", "dict_itemiterator", "dict_reverseitemiterator", "odict_iterator", "itertools.zip_longest", "itertools.pairwise"].contains ty = false) :
 Turn P w K tg (Its z) [it] it (fun i h=>h.IsStrIter it ty z t i) where
 mem:=by simp
 obj:=fun i h st b hb=>by
  have e : b = it:=by simpa using hb
  subst e
  obtain ⟨o,e,c,d⟩:=st
  exact ⟨o,e,fun v z=>by rw [d] at z; cases z⟩
 keep:=fun i h h' st k=>let ⟨o,e,r⟩:=st; ⟨o,k it (by simp) o e,r⟩
 item:=by
  intro X hP hw hK hc i pins s σ H E I hf st hg
  subst hP hw hK
  obtain ⟨f0,f1,f2,f3,f4,f5⟩:=hf it (by simp)
  refine (W X.A (I.ok.hd hc)).item i s _ _ hg st fun v h' tk hv st' kk=>?_
  obtain ⟨c,u,ec,rfl⟩:=hv
  have I1 : Inv X pins σ H { s with heap:=h',toks:=tk }:=I.turned (fun b o hb e=>kk b o (by simpa using hb) e) f0 f1 f3 f4 f5
  obtain ⟨o,e,oc,od⟩:=id st'
  exact ⟨_,rfl,go_of (s:={ s with heap:=h',toks:=tk }) e oc od hn ⟨.str ⟨#[c]⟩,H,I1,⟨u,rfl⟩,⟨rfl,c,ec,rfl⟩,st',fun b hb=>(hf b hb).1⟩⟩
 done:=by
  intro X hP hw hK hc i pins s σ H E I hf st hg
  subst hP hw hK
  obtain ⟨f0,f1,f2,f3,f4,f5⟩:=hf it (by simp)
  have hg' : i = z.cps.size:=hg
  subst hg'
  exact (W X.A (I.ok.hd hc)).done s _ _ st fun h' tk kk=>⟨rfl,I.turned (fun b o hb e=>kk b o (by simpa using hb) e) f0 f1 f3 f4 f5⟩
 self:=fun A i s Q E st h=>hs A i s Q E st h
section
variable {X : Cx} {tg : Expr}
def iStr (ts : TE) : TI:=fun σ H R=>ts σ H fun x H1=>∃ z,x = .str z ∧ R (Its z) H1
theorem pi_str {l : Expr} {tl : TE} (hl : PE X l tl) : PI X tg l (iStr tl):=by
 intro pins s σ H R I h
 refine thn (hl pins s σ H _ I h) fun v s1 ⟨x,H1,I1,r1,q1⟩=>?_
 obtain ⟨z,e,q⟩:=q1
 subst e
 obtain ⟨t,rfl⟩:=r1
 have fin : ∀ b ∈ [s1.heap.objs.size],FpOk X pins H1 b:=fun b hb=>by
  have e : b = s1.heap.objs.size:=by simpa using hb
  subst e
  exact I1.fpOk (Nat.le_refl _) (I1.hok.fresh (Nat.le_refl _))
 cases ha : z.cps.all (· < 128) with
 | true =>
  refine wpAny_pyIter_ascii ha ?_
  exact ⟨s1.heap.objs.size,[s1.heap.objs.size],_,_,H1,rfl,I1.kept (t':=s1.toks) fun b o e=>Heap.get?_push_of_some _ e,
   turn_str _ z t "str_ascii_iterator" (fun A hA=>Walks.strAscii hA _ z t) (fun _ _ _ _ _ st h=>wpAny_pyIter_striter_ascii st h) (by decide),⟨_,Heap.get?_push_size _ rfl,rfl,rfl⟩,fin,q⟩
 | false =>
  refine wpAny_pyIter_wide ha ?_
  exact ⟨s1.heap.objs.size,[s1.heap.objs.size],_,_,H1,rfl,I1.kept (t':=s1.toks) fun b o e=>Heap.get?_push_of_some _ e,
   turn_str _ z t "str_iterator" (fun A hA=>Walks.strWide hA _ z t) (fun _ _ _ _ _ st h=>wpAny_pyIter_striter_wide st h) (by decide),⟨_,Heap.get?_push_size _ rfl,rfl,rfl⟩,fin,q⟩
end
def Ite (K : PySem.W.Frag) (a : Addr) : It :=
 ⟨fun i H=>∃ xs x,SqL K H a xs ∧ xs[i]? = some x,fun i H v H'=>∃ T x,v = .ref T ∧ H T = none ∧ H' = upd H T (.tup [.int (i : Int),x]) ∧ ∀ xs,SqL K H a xs → xs[i]? = some x,fun i H=>∃ xs,SqL K H a xs ∧ xs.length ≤ i⟩
theorem turn_enum {P : Program} {w : World} {K : PySem.W.Frag} {es : List Expr} {kk : Nat} {tp : Pos} (a e it : Addr) (hei : e ≠ it) : Turn P w K (.Tuple es kk tp) (Ite K a) [e,it] e (fun i h=>(∃ old,IsEnum h e it (i : Int) old) ∧ h.IsListIter it a i) where
 mem:=by simp
 obj:=fun i h st b hb=>by
  obtain ⟨⟨old,he⟩,o,e1,c,d⟩:=st
  rcases List.mem_cons.mp hb with z | z
  · subst z
    exact ⟨_,he,fun v z=>by
     have z' : Data.fields _ = Data.cell v:=z
     cases z'⟩
  · have z' : b = it:=by simpa using z
    subst z'
    exact ⟨o,e1,fun v z=>by rw [d] at z; cases z⟩
 keep:=fun i h h' st k=>⟨let ⟨old,he⟩:=st.1; ⟨old,k e (by simp) _ he⟩,st.2.at fun o e1=>k it (by simp) o e1⟩
 item:=by
  intro X hP hw hK hc i pins s σ H E I hf st hg
  subst hP hw hK
  obtain ⟨xs,x,hq,hx⟩:=hg
  obtain ⟨its,rv,p,hz⟩:=I.list hq
  obtain ⟨u,hu,ru⟩:=rv.get hx
  obtain ⟨⟨old,he⟩,hit⟩:=st
  refine wpAny_pyNext_enum_item he hit p.isList (x:=u) (by simpa using hu) hei fun h' ho hit' hT hsz hk=>?_
  refine ⟨.ref s.heap.objs.size,rfl,?_⟩
  refine wpAny_letOwnedTupleGo_enum ho fun h2 he2 hs2=>?_
  have neE : s.heap.objs.size ≠ e:=Nat.ne_of_gt (Heap.lt_size he)
  have hT2 : h2.get? s.heap.objs.size = some { cls:=.type "tuple",data:=.seq #[.int i s.toks,u] }:=(hs2.2 _ neE).trans hT
  have I1 : Inv X pins σ (upd H s.heap.objs.size (.tup [.int (i : Int),x])) { s with heap:=h2,toks:=s.toks + 1 }:=I.turnedT (its:=[.int i s.toks,u]) hf (fun b o hb e1=>by
   have b1 : b ≠ e:=fun z=>hb (by simp [z])
   have b2 : b ≠ it:=fun z=>hb (by simp [z])
   exact (hs2.2 b b1).trans (hk b o b1 b2 e1)) (Nat.le_refl _) ⟨_,hT2,rfl,_,rfl⟩ (.cons ⟨_,rfl⟩ (.cons ru .nil)) (by show 2 ≤ sizeLine; decide)
  have fr : H s.heap.objs.size = none:=I.hok.fresh (Nat.le_refl _)
  refine ⟨.ref s.heap.objs.size,_,I1,rfl,⟨s.heap.objs.size,x,rfl,fr,rfl,fun ys hy=>by rw [I.list_inj hy hq]; exact hx⟩,⟨⟨u,?_⟩,hit'.at fun o e1=>(hs2.2 it hei.symm).trans e1⟩,fun b hb=>?_⟩
  · have e3 : (((i + 1 : Nat) : Nat) : Int) = (i : Int) + 1:=by omega
    rw [e3]
    exact he2
  · have hb':=(hf b hb).1
    have nb : b ≠ s.heap.objs.size:=by
     rcases List.mem_cons.mp hb with z | z
     · rw [z]; exact Ne.symm neE
     · have z' : b = it:=by simpa using z
       rw [z']
       obtain ⟨o,e1,_⟩:=hit
       exact Nat.ne_of_lt (Heap.lt_size e1)
    rw [upd_ne nb]
    exact hb'
 done:=by
  intro X hP hw hK hc i pins s σ H E I hf st hg
  subst hP hw hK
  obtain ⟨xs,hq,hx⟩:=hg
  obtain ⟨its,rv,p,hz⟩:=I.list hq
  obtain ⟨⟨old,he⟩,hit⟩:=st
  have hl:=rv.length
  exact wpAny_pyNext_enum_end (I.ok.hd hc) he hit p.isList (by simp; omega) fun h' eb=>⟨rfl,I.turnedL (t':=s.toks) hf fun b o hb e1=>eb b o (fun z=>hb (by simp [z])) e1⟩
 self:=fun _ _ _ _ _ st h=>let ⟨old,he⟩:=st.1; wpAny_pyIter_enum he h
section
variable {X : Cx}
def iEnum (K : PySem.W.Frag) (ta : TA) : TI:=fun σ H R=>ta σ H fun vs H1=>∃ a,vs = [.ref a] ∧ (∃ xs,SqL K H1 a xs) ∧ R (Ite K a) H1
theorem pi_enum {es : List Expr} {kk : Nat} {tp : Pos} {a : Expr} {ta : TA} {p pos : Pos} (hg : Gl X "enumerate") (hm : X.mg "enumerate" = none) (ha : PA X [a] ta) (hs : starEach [a] X.env = [(false,eval a X.env)]:=by rfl) :
 PI X (.Tuple es kk tp) (.Call (.Name "enumerate" p) [a] [] pos) (iEnum X.K ta):=by
 intro pins s σ H R I h
 refine Call_ (ld_blt I hg hm boot_enumerate (PyProof.Rows.callWith_type1 (thn (ha pos pins s σ H _ I h) fun us s1 ⟨vs,H1,I1,r1,q1⟩=>?_) hs rfl))
 obtain ⟨l,e,⟨xs,hq⟩,q⟩:=q1
 subst e
 cases r1 with
 | cons r rr =>
  cases rr
  cases r
  obtain ⟨its,rv,pl,hz⟩:=I1.list hq
  refine call_enumerate_list pl.isList fun h' he hit hsz hk=>?_
  refine wpAny_pyIter_enum he ?_
  have I2 : Inv X pins σ H1 { s1 with heap:=h' }:=I1.kept (t':=s1.toks) hk
  refine ⟨s1.heap.objs.size + 1,[s1.heap.objs.size + 1,s1.heap.objs.size],_,_,H1,rfl,I2,turn_enum l _ _ (Nat.ne_of_gt (Nat.lt_succ_self _)),⟨⟨_,he⟩,hit⟩,fun b hb=>?_,q⟩
  have hb' : s1.heap.objs.size ≤ b:=by
   rcases List.mem_cons.mp hb with z | z
   · rw [z]; exact Nat.le_succ _
   · have z' : b = s1.heap.objs.size:=by simpa using z
     rw [z']; exact Nat.le_refl _
  exact I1.fpOk hb' (I1.hok.fresh hb')
end
section
variable {X : Cx}
def rSlS : V → Option Int → Option Int → Hp → VK → Prop:=fun x lo hi H Q=>∃ z j,x = .str z ∧ lo = none ∧ hi = some j ∧ z.length ≤ sizeLine ∧ Q (.str (Txt.slice z none (some j))) H
theorem sl_str : SlR X rSlS:=by
 intro pins s σ H x v vl vu lo hi sl Q I rx hs pl pu h
 obtain ⟨z,j,rfl,rfl,rfl,hz,q⟩:=h
 obtain ⟨t,rfl⟩:=rx
 cases pl
 cases pu with
 | int _ uj =>
  refine ⟨"str",_,F.slot_str_getitem.lookup,typeIs_str _ _ _,wpAny_getItem_str_slice (l:=none) (u:=some (j,uj)) (st:=none) hs rfl
   (post_val_or_str ⟨Nat.le_trans (Txt.slice_le z _ _) hz,fun t' k=>⟨.str (Txt.slice z none (some j)),H,I.tok k,⟨t',rfl⟩,q⟩⟩)⟩
def rJoin (K : PySem.W.Frag) : V → List V → Hp → VK → Prop:=fun x vs H Q=>∃ z a ys,x = .str z ∧ vs = [.ref a] ∧ SqL K H a (ys.map V.str) ∧ (ys.map (·.length)).sum + ys.length * z.length ≤ 16777216 ∧ Q (.str (Txt.join z ys)) H
theorem strsAre_of : ∀ {ys : List Str} {us : List Value},Vals (ys.map V.str) us → StrsAre us ys
 | [],us,r=>by
  cases r
  exact .nil
 | y :: ys,us,r=>by
  cases r with
  | cons h t =>
   obtain ⟨tk,rfl⟩:=h
   exact .cons _ _ (strsAre_of t)
theorem mt_join : MtM X "str.join" (rJoin X.K):=by
 intro pins s σ H x vs v us Q I rx rv h
 obtain ⟨z,a,ys,rfl,rfl,hq,hl,q⟩:=h
 obtain ⟨t,rfl⟩:=rx
 obtain ⟨u,rfl,ru⟩:=rv.one
 cases ru
 obtain ⟨its,r,pl,_⟩:=I.list hq
 exact join_list pl.isList (by simpa using strsAre_of r) hl fun t' k=>⟨.str (Txt.join z ys),H,I.tok k,⟨t',rfl⟩,q⟩
def rSplit : V → List V → Hp → VK → Prop:=fun x vs H Q=>∃ z y,x = .str z ∧ vs = [.str y] ∧ z.length ≤ sizeLine ∧ (y.length == 0) = false ∧
 (Builtin.Str.partsBetween z (Builtin.Str.occurrences z y 0 z.length (z.length + 1)) y.length).length ≤ sizeLine ∧ ∀ p,H p = none → Q (.ref p) (upd H p (.lst ((Txt.split z y).map V.str)))
theorem vals_numbered : ∀ (tk : Nat) (xs : List Str),Vals (xs.map V.str) (strValues (numbered tk xs))
 | _,[]=>.nil
 | tk,x :: r=>.cons ⟨tk,rfl⟩ (vals_numbered (tk + 1) r)
theorem split_le (z y : Str) (h : (Builtin.Str.partsBetween z (Builtin.Str.occurrences z y 0 z.length (z.length + 1)) y.length).length ≤ sizeLine) : (Txt.split z y).length ≤ sizeLine:=by
 unfold Txt.split
 split
 · show 1 ≤ sizeLine; decide
 · split
   · show 1 ≤ sizeLine; decide
   · exact h
theorem mt_split : MtM X "str.split" rSplit:=by
 intro pins s σ H x vs v us Q I rx rv h
 obtain ⟨z,y,rfl,rfl,hz,hy,hl,q⟩:=h
 obtain ⟨t,rfl⟩:=rx
 obtain ⟨u,rfl,tu,rfl⟩:=rv.one
 have hl':=split_le z y hl
 have fin : ∀ (l : List (Str × Tok)) (tk : Nat),Vals ((Txt.split z y).map V.str) (strValues l) →
  EP X pins σ Q (.ref s.heap.objs.size) { s with heap:=s.heap.push { cls:=.type "list",data:=.seq (strValues l).toArray },toks:=tk }:=fun l tk r =>
  ⟨.ref s.heap.objs.size,_,I.lnew r (by rw [List.length_map]; exact hl'),rfl,q _ (I.hok.fresh (Nat.le_refl _))⟩
 cases h1 : (decide (z.length < y.length) || decide (Builtin.Str.strKind z < Builtin.Str.strKind y)) with
 | true =>
  refine call_meets F.slot_str_split (typeIs_str _ _ _) F.entry_str_split (F.args_str_split_2 _ _) (meets_str_split_cannot_occur z y t tu h1) ?_
  exact fin [(z,t)] s.toks (by
   have e : Txt.split z y = [z]:=if_pos h1
   rw [e]
   exact .cons ⟨t,rfl⟩ .nil)
 | false =>
  cases hf : (Builtin.Str.occurrences z y 0 z.length (z.length + 1)).isEmpty with
  | true =>
   refine call_meets F.slot_str_split (typeIs_str _ _ _) F.entry_str_split (F.args_str_split_2 _ _) (meets_str_split_not_found z y t tu h1 hy hf) ?_
   exact fin [(z,t)] s.toks (by
    have e : Txt.split z y = [z]:=(if_neg (ne_true_of_eq_false h1)).trans (if_pos hf)
    rw [e]
    exact .cons ⟨t,rfl⟩ .nil)
  | false =>
   refine call_meets F.slot_str_split (typeIs_str _ _ _) F.entry_str_split (F.args_str_split_2 _ _) (meets_str_split_sep z y t tu h1 hy hf hz hl) ?_
   have e : Txt.split z y = Builtin.Str.partsBetween z (Builtin.Str.occurrences z y 0 z.length (z.length + 1)) y.length:=(if_neg (ne_true_of_eq_false h1)).trans (if_neg (ne_true_of_eq_false hf))
   have:=fin (numbered s.toks (Builtin.Str.partsBetween z (Builtin.Str.occurrences z y 0 z.length (z.length + 1)) y.length)) (s.toks + (Builtin.Str.partsBetween z (Builtin.Str.occurrences z y 0 z.length (z.length + 1)) y.length).length) (by
    rw [e]
    exact vals_numbered _ _)
   show EP X pins σ Q _ { s with toks:=_,heap:=s.heap.push { cls:=.type "list",data:=.seq (strsFrom s.toks (Builtin.Str.partsBetween z (Builtin.Str.occurrences z y 0 z.length (z.length + 1)) y.length)).toArray } }
   rw [strsFrom_eq]
   exact this
end
section
variable {X : Cx}
def rInsert : V → List V → Hp → VK → Prop:=fun x vs H Q=>∃ l xs i y,x = .ref l ∧ vs = [.int i,y] ∧ H l = some (.lst xs) ∧ 0 ≤ i ∧ i ≤ xs.length ∧ xs.length < sizeLine ∧ Q .non (upd H l (.lst (xs.take i.toNat ++ [y] ++ xs.drop i.toNat)))
theorem mt_insert : MtM X "list.insert" rInsert:=by
 intro pins s σ H x vs v us Q I rx rv h
 obtain ⟨l,xs,i,y,rfl,rfl,hH,h0,hi,hz,q⟩:=h
 cases rx
 obtain ⟨u1,u2,rfl,r1,r2⟩:=rv.two
 obtain ⟨t1,rfl⟩:=r1
 obtain ⟨z,its,n,r,hl,e⟩:=I.lstM hH
 have hn:=line63
 have hfit : ¬ (!Builtin.List.listFitsIndex i) = true:=by
  have : Builtin.List.listFitsIndex i = true:=by
   unfold Builtin.List.listFitsIndex
   simp only [Bool.and_eq_true,decide_eq_true_eq]
   constructor <;> omega
  rw [this]
  decide
 refine call_meets F.slot_list_insert ⟨_,e,rfl⟩ F.entry_list_insert (F.args_list_insert_3 _ _ _) (AutoListH.list_insert_list_int_val_1 l its.toArray n i t1 u2 hfit (by rw [List.size_toArray]; omega)) ⟨e,?_⟩
 refine ⟨.non,_,I.lset (its':=its.take i.toNat ++ [u2] ++ its.drop i.toNat) hH e ?_ (((r.take i.toNat).append (.cons r2 .nil)).append (r.drop i.toNat)) ?_,rfl,q⟩
 · have e1 : (if i < 0 then (i + ((its.toArray.size : Nat) : Int)).toNat else min i.toNat its.toArray.size) = i.toNat:=by
    rw [if_neg (by omega),List.size_toArray]
    omega
   show (its.toArray.extract 0 _).push u2 ++ its.toArray.extract _ = _
   rw [e1]
   apply Array.toList_inj.mp
   simp [List.take_of_length_le]
 · simp only [List.length_append,List.length_take,List.length_drop,List.length_singleton]
   omega
end
section
variable {prog : Program} {w : World} {A : Around} {E : Value → Shared → Prop}
theorem draw_list {l it : Addr} {items : Array Value} (hlt : l ≠ it) : ∀ (n i : Nat) (s : Shared) (Q : List Value → Shared → Prop),s.heap.IsListIter it l i → s.heap.IsList l items → i + n ≤ items.size →
 (∀ h',h'.IsListIter it l (i + n) → Heap.SameBut it s.heap h' → Q ((items.toList.drop i).take n) { s with heap:=h' }) → wpAny (model prog w) A (draw (.ref it) n) Q E s
 | 0,i,s,Q,hit,hl,_,hQ=>by
  unfold draw
  exact wpAny_pure (by simpa using hQ s.heap hit (.refl ..))
 | n + 1,i,s,Q,hit,hl,hn,hQ=>by
  unfold draw
  have hx : items[i]? = some items[i]:=Array.getElem?_eq_getElem (by omega)
  refine wpAny_bind (wpAny_pyNext_list_item hit hl hx fun h1 hit1 hs1=>?_)
  refine wpAny_bind (wpAny_holding (draw_list hlt n (i + 1) { s with heap:=h1 } _ hit1 (hl.extBut hs1.extBut hlt) (by omega) fun h2 hit2 hs2=>?_))
  refine wpAny_pure ?_
  have hd : (items.toList.drop i).take (n + 1) = items[i] :: (items.toList.drop (i + 1)).take n:=by
   rw [List.drop_eq_getElem_cons (by simpa using (show i < items.size by omega)),List.take_succ_cons]
   simp
  have:=hQ h2 (by rw [show i + (n + 1) = i + 1 + n by omega]; exact hit2) (hs1.trans hs2)
  rw [hd] at this
  exact this
theorem unpackItems_list {s : Shared} {l : Addr} {items : Array Value} {Q : List Value → Shared → Prop} (hh : A.handled = none) (hl : s.heap.IsList l items)
 (hQ : ∀ h',Heap.ExtBut s.heap.objs.size s.heap h' → Q items.toList { s with heap:=h' }) : wpAny (model prog w) A (unpackItems (.ref l) items.size none) Q E s:=by
 have hlt : l ≠ s.heap.objs.size:=by obtain ⟨o,ho,_⟩:=hl; exact Nat.ne_of_lt (Heap.lt_size ho)
 unfold unpackItems
 refine wpAny_bind ?_
 unfold notIterableAtAll
 refine wpAny_bind (wpAny_specialOf hl.typeIs slot_list_iter.lookup ?_)
 refine wpAny_pure ?_
 simp only [Bool.false_eq_true,if_false]
 refine wpAny_bind (wpAny_holding (wpAny_pyIter_list hl ?_))
 refine wpAny_bind (wpAny_holding (draw_list hlt items.size 0 _ _ ⟨_,Heap.get?_push_size _ rfl,rfl,rfl⟩ (hl.push _) (by omega) fun h₁ hit₁ hs₁=>?_))
 have hall : List.take items.size (List.drop 0 items.toList) = items.toList:=by
  rw [List.drop_zero]; exact List.take_of_length_le (by simp)
 rw [hall]
 rw [if_neg (by simp)]
 have ht₁ : h₁.IsList l items:=(hl.push _).extBut hs₁.extBut hlt
 refine wpAny_bind (wpAny_holding (wpAny_pyNext_list_end hh hit₁ ht₁ (by simp) fun h₂ he₂=>?_))
 simp only [Option.isSome_none,Bool.false_eq_true,if_false]
 exact wpAny_pure (hQ h₂ fun b o hb e=>he₂ b o hb (hs₁.extBut b o hb (Heap.get?_push_of_some _ e)))
end
section
variable {X : Cx} {pos : Pos}
def gTupL (K : PySem.W.Frag) (n : Nat) (t : TGs) : TG:=fun v σ H Q=>∃ a xs,v = .ref a ∧ SqL K H a xs ∧ xs.length = n ∧ t xs σ H Q
theorem pg_tupL {es : List Expr} {k : Nat} {t : TGs} {n : Nat} (hc : X.calm = true) (h : PGs X es t)
 (hn : (assignEach es X.env).length = n:=by rfl) (hst : (assignEach es X.env).findIdx? (·.1) = none:=by rfl) : PG X (.Tuple es k pos) (gTupL X.K n t):=by
 intro pins s σ H v u Q I r hw
 obtain ⟨a,xs,e1,hq,hl,hw⟩:=hw
 subst e1
 cases r
 obtain ⟨its,rv,pl,hz⟩:=I.list hq
 rw [assign_Tuple]
 refine wpAny_bind (wpAny_standAt ?_)
 unfold unpack
 have e2 : (assignEach es X.env).length = its.toArray.size:=by rw [List.size_toArray,hn,← hl,rv.length]
 rw [e2,hst]
 refine wpAny_bind (wpAny_holding (unpackItems_list (I.ok.hd hc) pl.isList fun h' hx=>?_))
 have I1 : Inv X pins σ H { s with heap:=h' }:=I.kept (t':=s.toks) fun b o e=>hx b o (Nat.ne_of_lt (Heap.lt_size e)) e
 exact h pins _ σ H xs _ Q I1 (by simpa using rv) hw
end
end L2
namespace L2
open PySem PySem.Spec PyProof.Rows
section
variable {X : Cx}
def rStarts : V → List V → Hp → VK → Prop:=fun x vs H Q=>∃ z y,x = .str z ∧ vs = [.str y] ∧ Q (.bl (decide (0 + y.length ≤ z.length) && Builtin.Str.subAt z y 0)) H
theorem mt_starts : MtM X "str.startswith" rStarts:=by
 intro pins s σ H x vs v us Q I rx rv h
 obtain ⟨z,y,rfl,rfl,q⟩:=h
 obtain ⟨t,rfl⟩:=rx
 obtain ⟨u,rfl,tu,rfl⟩:=rv.one
 exact call_gives F.slot_str_startswith (typeIs_str _ _ _) F.entry_str_startswith (F.args_str_startswith_2 _ _) (gives_str_startswith z y t tu) ⟨.bl _,H,I,rfl,q⟩
def rSlF : V → Option Int → Option Int → Hp → VK → Prop:=fun x lo hi H Q=>∃ z j,x = .str z ∧ lo = some j ∧ hi = none ∧ z.length ≤ sizeLine ∧ Q (.str (Txt.slice z (some j) none)) H
theorem sl_from : SlR X rSlF:=by
 intro pins s σ H x v vl vu lo hi sl Q I rx hs pl pu h
 obtain ⟨z,j,rfl,rfl,rfl,hz,q⟩:=h
 obtain ⟨t,rfl⟩:=rx
 cases pu
 cases pl with
 | int _ uj =>
  refine ⟨"str",_,F.slot_str_getitem.lookup,typeIs_str _ _ _,wpAny_getItem_str_slice (l:=some (j,uj)) (u:=none) (st:=none) hs rfl
   (post_val_or_str ⟨Nat.le_trans (Txt.slice_le z _ _) hz,fun t' k=>⟨.str (Txt.slice z (some j) none),H,I.tok k,⟨t',rfl⟩,q⟩⟩)⟩
end
end L2
namespace PySem
open Builtin Builtin.Str
theorem starts_one (z : Str) (c : Nat) : (decide (0 + (⟨#[c]⟩ : Str).length ≤ z.length) && subAt z ⟨#[c]⟩ 0) = decide (z.cps.toList[0]? = some c):=by
 rw [Bool.eq_iff_iff,Bool.and_eq_true,decide_eq_true_eq,decide_eq_true_eq]
 exact StrLaws.subAt_one z c 0
theorem tail_idx (n : Nat) : strSliceIndices (some 1) none 1 n = (List.range (n - 1)).map (· + 1):=by
 cases n with
 | zero=>rfl
 | succ n =>
  have h1 : ¬ ((1 : Int) < 0):=by decide
  have e1 : max (0 : Int) (min 1 ((n + 1 : Nat) : Int)) = 1:=by omega
  simp only [strSliceIndices,sliceRange,h1,if_false,show ((1 : Int) > 0) = True from by simp,if_true,e1]
  have e2 : (if (1 : Int) < ((n + 1 : Nat) : Int) then (((n + 1 : Nat) : Int) - 1 + 1 - 1) / 1 else 0).toNat = n:=by
   split
   · rw [Int.ediv_one]; omega
   · omega
  rw [e2]
  show _ = (List.range n).map (· + 1)
  refine List.map_congr_left fun k _=>?_
  omega
theorem pick_tail : ∀ (l : List Nat) (L : List Nat),((List.range (L.length - 1)).map (· + 1)).filterMap (fun i=>L[i]?) = L.tail:=by
 intro _ L
 cases L with
 | nil=>rfl
 | cons x r =>
  show ((List.range r.length).map (· + 1)).filterMap (fun i=>(x :: r)[i]?) = r
  rw [List.filterMap_map]
  show (List.range r.length).filterMap (fun i=>(x :: r)[i + 1]?) = r
  simp only [List.getElem?_cons_succ]
  have k:=Gen.picks_range r r.length (Nat.le_refl _)
  rw [List.take_length] at k
  exact k
theorem slice_tail (z : Str) : (Txt.slice z (some 1) none).cps.toList = z.cps.toList.tail:=by
 unfold Txt.slice
 rw [tail_idx]
 split
 · rename_i h
   have h2 : ((List.range (z.length - 1)).map (· + 1)).length = z.length:=by simpa using h
   rw [List.length_map,List.length_range] at h2
   have h3 : z.length = 0:=by omega
   have h4 : z.cps.toList = []:=List.length_eq_zero_iff.mp (by simpa [Str.length] using h3)
   rw [h4]
   rfl
 · have e : z.length = z.cps.toList.length:=by simp [Str.length]
   rw [e]
   have k:=pick_tail [] z.cps.toList
   simpa using k
end PySem
namespace PySem
open Sem (wp)
end PySem
namespace PySem
open Sem (wp)
namespace F
end F
section
variable {prog : Program} {w : World} {K : Type} [DecidableEq K] {knd : KeyKind prog w K} {A : Around} {R : Result → Shared → Prop}
end
section
variable {prog : Program} {w : World} {K : Type} [DecidableEq K] {knd : KeyKind prog w K} {A : Around} {E : Value → Shared → Prop} {s : Shared}
end
end PySem
namespace L2
open PySem PySem.Spec PyProof.Rows
section
variable {X : Cx}
theorem paired_both {α β : Type} {F : α → β → Prop} : ∀ {l₁ : List α} {l₂ : List β} {i : Nat} {a : α} {b : β},Paired F l₁ l₂ → l₁[i]? = some a → l₂[i]? = some b → F a b
 | _,_,i,a,b,.nil,h,_=>by simp at h
 | _,_,0,a,b,.cons h t,e1,e2=>by
  simp at e1 e2
  subst e1 e2
  exact h
 | _,_,i + 1,a,b,.cons h t,e1,e2=>paired_both (i:=i) t (by simpa using e1) (by simpa using e2)
theorem call_dict_copy : CallR X (.type "dict") (fun xs H Q=>∃ p kvs,xs = [.ref p] ∧ Rd H p (.dK kvs) ∧ ∀ d,H d = none → Q (.ref d) (upd H d (.dK kvs))):=by
 intro pins s σ H xs us Q I r h
 obtain ⟨p,kvs,rfl,hp,q⟩:=h
 obtain ⟨u,rfl,rx⟩:=vals1 r
 cases (show u = Value.ref p from rx)
 exact d_copyOf I hp fun d s' hd I'=>⟨.ref d,_,I',rfl,q d hd⟩
theorem call_isinst : CallR X (.builtin "isinstance") (fun xs H Q=>∃ x t c b,xs = [x,.ty c] ∧ TyOf X.K H x t ∧ PySem.W.kitOne X.K t (.type c) = some b ∧ Q (.bl b) H):=by
 intro pins s σ H xs us Q I r h
 obtain ⟨x,t,c,b,rfl,ty,e,q⟩:=h
 obtain ⟨u,v,rfl,rx,ry⟩:=vals2 r
 cases (show v = Value.type c from ry)
 exact isinst_ok I rx ty e fun tk=>⟨.bl b,H,I.tok _,rfl,q⟩
theorem call_all_true (hc : X.calm = true) : CallR X (.builtin "all") (fun xs H Q=>∃ p ys,xs = [.ref p] ∧ SqL X.K H p ys ∧ (∀ y ∈ ys,y = .bl true) ∧ Q (.bl true) H):=by
 intro pins s σ H xs us Q I r h
 obtain ⟨p,ys,rfl,hp,hy,q⟩:=h
 obtain ⟨u,rfl,rx⟩:=vals1 r
 cases (show u = Value.ref p from rx)
 obtain ⟨its,rv,pl,hz⟩:=I.list hp
 have hl:=pl.isList
 have hlt : p < s.heap.objs.size:=by obtain ⟨_,e,_⟩:=hl; exact Heap.lt_size e
 refine call_all_walk (wpAny_pyIter_list hl ?_)
 refine ⟨s.heap.objs.size,[s.heap.objs.size,p],[s.heap.objs.size],its.toArray.size,_,_,fun _=>true,rfl,Walks.list (A:=X.A.in1) (by show X.A.in1.handled = none; exact I.ok.hd hc) _ p (Nat.ne_of_lt hlt) its.toArray,
  ⟨⟨_,Heap.get?_push_size _ rfl,rfl,rfl⟩,hl.push _⟩,fun i v s' Q' E' hP hQ=>?_,fun h' tk hk=>?_⟩
 · have hi : its[i]? = some v:=by simpa using hP
   have hlen:=rv.length
   have hlt2 : i < ys.length:=by
    have:=(List.getElem?_eq_some_iff.mp hi).1
    omega
   obtain ⟨w',e1,e2⟩:=rv.get (List.getElem?_eq_getElem hlt2)
   rw [hi] at e1
   cases e1
   rw [hy _ (List.getElem_mem hlt2)] at e2
   cases (show v = Value.bool true from e2)
   exact wpAny_truthy_bool hQ
 · have e : ((List.range its.toArray.size).all fun _=>true) = true:=by simp
   rw [e]
   exact ⟨.bl true,H,I.kept (t':=tk) (fun b o eb=>hk b o (fun hm=>by rw [List.mem_singleton.mp hm] at eb; exact Nat.lt_irrefl _ (Heap.lt_size eb)) (Heap.get?_push_of_some _ eb)),rfl,q⟩
end
section
variable {X : Cx} {pins : List (Addr × Obj)} {σ : St} {H : Hp} {s : Shared} {d : Addr} {kvs : List (Key × V)}
end
section
variable {X : Cx}
end
end L2
namespace PySem
open Sem (wp)
section
variable {prog : Program} {w : World} {A : Around} {E : Value → Shared → Prop} {s : Shared}
theorem zz_nextOf_tuple_item {it t : Addr} {i : Nat} {items} {x : Value} {Q : Value → Shared → Prop} (hit : s.heap.IsTupleIter it t i) (ht : s.heap.IsTuple t items) (hx : items[i]? = some x)
 (hQ : ∀ h',h'.IsTupleIter it t (i + 1) → Heap.SameBut it s.heap h' → Q x { s with heap:=h' }) : wpAny (model prog w) A (Builtin.SmallTypes.nextOf (.ref it)) Q E s:=by
 obtain ⟨o,ho,hc,hd⟩:=id hit
 obtain ⟨ol,hol,_,nl,hdl⟩:=ht
 unfold Builtin.SmallTypes.nextOf
 refine wpAny_bind (wpAny_callSpecial?_slot (name:=Str.ofString "__next__") hit.typeIs F.slot_tuple_iterator_next (wpAny_call_entry F.slot_tuple_iterator_next hit.typeIs F.entry_tuple_iterator_next ?_ (F.args_tuple_iterator_next_1 _)))
 show wpAny _ _ (field (.ref it) 0 >>= _) _ _ s
 refine wpAny_bind (wpAny_field ho hd (x:=.ref t) rfl ?_)
 show wpAny _ _ (if (Value.ref t == Value.none) = true then _ else _) _ _ s
 rw [if_neg (show ¬ ((Value.ref t == Value.none) = true) from Bool.false_ne_true)]
 show wpAny _ _ (field (.ref it) 1 >>= _) _ _ s
 refine wpAny_bind (wpAny_field ho hd (x:=.int i 0) rfl ?_)
 show wpAny _ _ (seqItems? (.ref t) >>= _) _ _ s
 refine wpAny_bind (wpAny_seqItems hol hdl ?_)
 simp only [Int.toNat_natCast,hx]
 refine wpAny_bind (wpAny_setField ho hd (by simp) (wpAny_pure ⟨x,rfl,wpAny_pure (hQ _ ?_ (Heap.SameBut.update ..))⟩))
 exact ⟨_,Heap.get?_update_self _ ho (Obj.isFreed_of_fields (Obj.data_mapFields hd _)),(Obj.cls_mapFields ..).trans hc,by rw [Obj.data_mapFields hd]; simp [rawInt]⟩
theorem zz_nextOf_tuple_end {it t : Addr} {i : Nat} {items} {Q : Value → Shared → Prop} (hh : A.handled = none) (hit : s.heap.IsTupleIter it t i) (ht : s.heap.IsTuple t items) (hx : items[i]? = none)
 (hE : ∀ h' e,Heap.ExtBut it s.heap h' → (∃ o,h'.get? e = some o ∧ o.cls = .type "StopIteration") → E (.ref e) { s with heap:=h' }) : wpAny (model prog w) A (Builtin.SmallTypes.nextOf (.ref it)) Q E s:=by
 obtain ⟨o,ho,hc,hd⟩:=id hit
 obtain ⟨ol,hol,_,nl,hdl⟩:=ht
 unfold Builtin.SmallTypes.nextOf
 refine wpAny_bind (wpAny_callSpecial?_slot (name:=Str.ofString "__next__") hit.typeIs F.slot_tuple_iterator_next (wpAny_call_entry F.slot_tuple_iterator_next hit.typeIs F.entry_tuple_iterator_next ?_ (F.args_tuple_iterator_next_1 _)))
 show wpAny _ _ (field (.ref it) 0 >>= _) _ _ s
 refine wpAny_bind (wpAny_field ho hd (x:=.ref t) rfl ?_)
 show wpAny _ _ (if (Value.ref t == Value.none) = true then _ else _) _ _ s
 rw [if_neg (show ¬ ((Value.ref t == Value.none) = true) from Bool.false_ne_true)]
 show wpAny _ _ (field (.ref it) 1 >>= _) _ _ s
 refine wpAny_bind (wpAny_field ho hd (x:=.int i 0) rfl ?_)
 show wpAny _ _ (seqItems? (.ref t) >>= _) _ _ s
 refine wpAny_bind (wpAny_seqItems hol hdl ?_)
 simp only [Int.toNat_natCast,hx]
 refine wpAny_bind (wpAny_rule (wpAny_bind (wpAny_setField ho hd (by simp) ?_)))
 show wpAny _ _ (newExc (.type "StopIteration") [] >>= _) _ _ _
 refine wpAny_bind ?_
 simp only [newExc,newTuple]
 refine wpAny_bind (wpAny_newObj_type ?_ (by size_fits))
 refine wpAny_bind (m:=firstArgMember _ _) (wpAny_of_eq (a:=Value.none) (by first | rfl | (simp only [firstArgMember]; rfl)) ?_)
 refine wpAny_newObj_type ?_ (by size_fits)
 simp only [raiseNew]
 refine wpAny_bind (wpAny_handled ?_)
 first | rw [show A.in1.handled = none from hh] | rw [hh]
 refine wpAny_bind (wpAny_pure (wpAny_throw ?_))
 exact hE _ _ (((Heap.SameBut.update ..).extBut.push _).push _) ⟨_,Heap.get?_push_size _ rfl,rfl⟩
end
def ZSq (tp : Bool) (h : Heap) (l : Addr) (xs : Array Value) : Prop:=match tp with | true=>h.IsTuple l xs | false=>h.IsList l xs
def ZIt (tp : Bool) (h : Heap) (i l : Addr) (k : Nat) : Prop:=match tp with | true=>h.IsTupleIter i l k | false=>h.IsListIter i l k
theorem ZSq.at {tp : Bool} {h h' : Heap} {l : Addr} {xs : Array Value} (x : ZSq tp h l xs) (k : ∀ o,h.get? l = some o → h'.get? l = some o) : ZSq tp h' l xs:=by
 cases tp <;> (obtain ⟨o,e,r⟩:=x; exact ⟨o,k o e,r⟩)
theorem ZIt.at {tp : Bool} {h h' : Heap} {i l : Addr} {n : Nat} (x : ZIt tp h i l n) (k : ∀ o,h.get? i = some o → h'.get? i = some o) : ZIt tp h' i l n:=by
 cases tp <;> (obtain ⟨o,e,r⟩:=x; exact ⟨o,k o e,r⟩)
theorem ZIt.there {tp : Bool} {h : Heap} {i l : Addr} {n : Nat} (x : ZIt tp h i l n) : ∃ o,h.get? i = some o ∧ ∃ vs,o.data = .fields vs:=by
 cases tp <;> (obtain ⟨o,e,c,d⟩:=x; exact ⟨o,e,_,d⟩)
section
variable {prog : Program} {w : World} {A : Around} {E : Value → Shared → Prop} {s : Shared} {tp : Bool}
theorem zz_item {it l : Addr} {i : Nat} {items} {x : Value} {Q : Value → Shared → Prop} (hit : ZIt tp s.heap it l i) (hl : ZSq tp s.heap l items) (hx : items[i]? = some x)
 (hQ : ∀ h',ZIt tp h' it l (i + 1) → Heap.SameBut it s.heap h' → Q x { s with heap:=h' }) : wpAny (model prog w) A (Builtin.SmallTypes.nextOf (.ref it)) Q E s:=by
 cases tp
 · exact wpAny_nextOf_list_item hit hl hx hQ
 · exact zz_nextOf_tuple_item hit hl hx hQ
theorem zz_end {it l : Addr} {i : Nat} {items} {Q : Value → Shared → Prop} (hh : A.handled = none) (hit : ZIt tp s.heap it l i) (hl : ZSq tp s.heap l items) (hx : items[i]? = none)
 (hE : ∀ h' e,Heap.ExtBut it s.heap h' → (∃ o,h'.get? e = some o ∧ o.cls = .type "StopIteration") → E (.ref e) { s with heap:=h' }) : wpAny (model prog w) A (Builtin.SmallTypes.nextOf (.ref it)) Q E s:=by
 cases tp
 · exact wpAny_nextOf_list_end hh hit hl hx hE
 · exact zz_nextOf_tuple_end hh hit hl hx hE
theorem zz_next {z TI TO i1 i2 l1 l2 : Addr} {k : Nat} {xs ys : Array Value} {x y a b : Value} {Q : Option Value → Shared → Prop} (nd : [z,TI,TO,i1,i2].Nodup) (n1 : l1 ∉ [z,TI,TO,i1,i2]) (n2 : l2 ∉ [z,TI,TO,i1,i2])
 (hz : IsZip s.heap z TI TO .none) (hTI : IsPair s.heap TI (.ref i1) (.ref i2)) (hTO : IsPair s.heap TO a b) (h1 : ZIt tp s.heap i1 l1 k) (h2 : ZIt tp s.heap i2 l2 k) (hl1 : ZSq tp s.heap l1 xs) (hl2 : ZSq tp s.heap l2 ys) (hx : xs[k]? = some x) (hy : ys[k]? = some y)
 (hQ : ∀ h',IsZip h' z TI TO (rawInt s.heap.objs.size) → IsPair h' TO x y → ZIt tp h' i1 l1 (k + 1) → ZIt tp h' i2 l2 (k + 1) → IsPair h' s.heap.objs.size x y →
  (∀ c o,c ≠ z → c ≠ TO → c ≠ i1 → c ≠ i2 → s.heap.get? c = some o → h'.get? c = some o) → Q (some (.ref s.heap.objs.size)) { s with heap:=h' }) : wpAny (model prog w) A (pyNext (.ref z)) Q E s:=by
 simp only [List.nodup_cons,List.mem_cons,List.not_mem_nil,or_false,not_or] at nd n1 n2
 obtain ⟨⟨zTI,zTO,zi1,zi2⟩,⟨TITO,TIi1,TIi2⟩,⟨TOi1,TOi2⟩,i12,_⟩:=nd
 obtain ⟨l1z,l1TI,l1TO,l1i1,l1i2⟩:=n1
 obtain ⟨l2z,l2TI,l2TO,l2i1,l2i2⟩:=n2
 have hT : s.TypeIs (.ref z) "zip":=⟨_,hz,rfl⟩
 unfold pyNext
 refine wpAny_bind (wpAny_attempt (wpAny_callSpecial?_slot (name:=Str.ofString "__next__") hT F.slot_zip_next (wpAny_call_entry F.slot_zip_next hT F.entry_zip_next ?_ (F.args_zip_next_1 _))))
 show wpAny _ _ (field (.ref z) 2 >>= _) _ _ _
 refine wpAny_bind (wpAny_field hz rfl (x:=.bool false) rfl ?_)
 show wpAny _ _ (field (.ref z) 3 >>= _) _ _ _
 refine wpAny_bind (wpAny_field hz rfl (x:=.ref TI) rfl ?_)
 refine wpAny_bind (wpAny_seqItems hTI rfl ?_)
 show wpAny _ _ (Builtin.SmallTypes.ownedTupleIsFree (.ref z) >>= _) _ _ _
 refine wpAny_bind ?_
 unfold Builtin.SmallTypes.ownedTupleIsFree
 refine wpAny_bind (wpAny_field hz rfl (x:=.none) rfl (wpAny_pure ?_))
 simp only [if_true]
 refine wpAny_bind (wpAny_rule ?_)
 refine wpAny_bind (wpAny_field hz rfl (x:=.ref TO) rfl ?_)
 refine wpAny_bind (wpAny_setField_rec hz (by simp) fun h₁ hz₁ hs₁=>?_)
 replace hz₁ : IsZip h₁ z TI TO .ellipsis:=hz₁
 refine wpAny_bind ?_
 simp only [List.zipIdx_cons,List.zipIdx_nil,List.forIn_cons,List.forIn_nil]
 have k1 : ∀ c o,c ≠ z → s.heap.get? c = some o → h₁.get? c = some o:=fun c o n e=>hs₁.extBut _ _ n e
 refine wpAny_bind (wpAny_bind (wpAny_onRaise ?_))
 show wpAny _ _ (Builtin.SmallTypes.nextOf (.ref i1) >>= _) _ _ _
 refine wpAny_bind (zz_item (h1.at fun o e=>k1 _ o (Ne.symm zi1) e) (hl1.at fun o e=>k1 _ o l1z e) hx fun h₂ h1₂ hs₂=>wpAny_pure ?_)
 have k2 : ∀ c o,c ≠ i1 → h₁.get? c = some o → h₂.get? c = some o:=fun c o n e=>hs₂.extBut _ _ n e
 have hTO₂ : IsPair h₂ TO a b:=k2 _ _ TOi1 (k1 _ _ (Ne.symm zTO) hTO)
 refine wpAny_bind (wpAny_seqItems hTO₂ rfl ?_)
 refine wpAny_bind (wpAny_updateSeq_pair hTO₂ fun h₃ hTO₃ hs₃=>?_)
 replace hTO₃ : IsPair h₃ TO x b:=hTO₃
 have k3 : ∀ c o,c ≠ TO → h₂.get? c = some o → h₃.get? c = some o:=fun c o n e=>hs₃.extBut _ _ n e
 refine wpAny_bind (wpAny_letGo (wpAny_pure ?_))
 refine wpAny_bind (wpAny_bind (wpAny_onRaise ?_))
 show wpAny _ _ (Builtin.SmallTypes.nextOf (.ref i2) >>= _) _ _ _
 refine wpAny_bind (zz_item (h2.at fun o e=>k3 _ o (Ne.symm TOi2) (k2 _ o (Ne.symm i12) (k1 _ o (Ne.symm zi2) e))) (hl2.at fun o e=>k3 _ o l2TO (k2 _ o l2i1 (k1 _ o l2z e))) hy fun h₄ h2₄ hs₄=>wpAny_pure ?_)
 have k4 : ∀ c o,c ≠ i2 → h₃.get? c = some o → h₄.get? c = some o:=fun c o n e=>hs₄.extBut _ _ n e
 have hTO₄ : IsPair h₄ TO x b:=k4 _ _ TOi2 hTO₃
 refine wpAny_bind (wpAny_seqItems hTO₄ rfl ?_)
 refine wpAny_bind (wpAny_updateSeq_pair hTO₄ fun h₅ hTO₅ hs₅=>?_)
 replace hTO₅ : IsPair h₅ TO x y:=hTO₅
 have k5 : ∀ c o,c ≠ TO → h₄.get? c = some o → h₅.get? c = some o:=fun c o n e=>hs₅.extBut _ _ n e
 refine wpAny_bind (wpAny_letGo (wpAny_pure (wpAny_pure ?_)))
 refine wpAny_bind (wpAny_seqItems hTO₅ rfl ?_)
 refine wpAny_bind (wpAny_newTuple ?_)
 have hsz : h₅.objs.size = s.heap.objs.size:=by rw [hs₅.1,hs₄.1,hs₃.1,hs₂.1,hs₁.1]
 have hz₅ : IsZip h₅ z TI TO .ellipsis:=k5 _ _ zTO (k4 _ _ zi2 (k3 _ _ zTO (k2 _ _ zi1 hz₁)))
 have hk₅ : ∀ c o,c ≠ z → c ≠ TO → c ≠ i1 → c ≠ i2 → s.heap.get? c = some o → h₅.get? c = some o:=fun c o c1 c2 c3 c4 e=>k5 _ _ c2 (k4 _ _ c4 (k3 _ _ c2 (k2 _ _ c3 (k1 _ _ c1 e))))
 have h1₅ : ZIt tp h₅ i1 l1 (k + 1):=h1₂.at fun o e=>k5 _ _ (Ne.symm TOi1) (k4 _ _ i12 (k3 _ _ (Ne.symm TOi1) e))
 have h2₅ : ZIt tp h₅ i2 l2 (k + 1):=h2₄.at fun o e=>k5 _ _ (Ne.symm TOi2) e
 have hzlt : z < h₅.objs.size:=Heap.lt_size hz₅
 show wpAny _ _ (Builtin.SmallTypes.ownedTupleHandOut (.ref z) (.ref h₅.objs.size) >>= _) _ _ _
 refine wpAny_bind ?_
 unfold Builtin.SmallTypes.ownedTupleHandOut
 have hz₆ : IsZip (h₅.push { cls:=.type "tuple",data:=.seq #[x,y] }) z TI TO .ellipsis:=Heap.get?_push_of_some _ hz₅
 refine wpAny_bind (wpAny_setField_rec hz₆ (by simp) fun h₇ hz₇ hs₇=>?_)
 replace hz₇ : IsZip h₇ z TI TO (rawInt h₅.objs.size):=hz₇
 refine wpAny_setField_rec hz₇ (by simp) fun h₈ hz₈ hs₈=>?_
 replace hz₈ : IsZip h₈ z TI TO (rawInt h₅.objs.size):=hz₈
 have up : ∀ c o,c ≠ z → h₅.get? c = some o → h₈.get? c = some o:=fun c o c1 e=>hs₈.extBut _ _ c1 (hs₇.extBut _ _ c1 (Heap.get?_push_of_some _ e))
 have hT₈ : IsPair h₈ h₅.objs.size x y:=hs₈.extBut _ _ (Nat.ne_of_gt hzlt) (hs₇.extBut _ _ (Nat.ne_of_gt hzlt) (Heap.get?_push_size _ rfl))
 rw [hsz] at hz₈ hT₈
 refine wpAny_pure ⟨.ref h₅.objs.size,rfl,wpAny_pure ?_⟩
 rw [hsz]
 exact hQ h₈ hz₈ (up _ _ (Ne.symm zTO) hTO₅) (h1₅.at fun o e=>up _ o (Ne.symm zi1) e) (h2₅.at fun o e=>up _ o (Ne.symm zi2) e) hT₈ fun c o c1 c2 c3 c4 e=>up c o c1 (hk₅ c o c1 c2 c3 c4 e)
theorem zz_last {z TI TO i1 i2 l1 : Addr} {k : Nat} {xs : Array Value} {a b : Value} {Q : Option Value → Shared → Prop} (hh : A.handled = none) (nd : [z,TI,TO,i1,i2].Nodup) (n1 : l1 ∉ [z,TI,TO,i1,i2])
 (hz : IsZip s.heap z TI TO .none) (hTI : IsPair s.heap TI (.ref i1) (.ref i2)) (h1 : ZIt tp s.heap i1 l1 k) (hl1 : ZSq tp s.heap l1 xs) (hx : xs[k]? = none)
 (hQ : ∀ h',(∀ c o,c ≠ z → c ≠ TO → c ≠ i1 → c ≠ i2 → s.heap.get? c = some o → h'.get? c = some o) → Q none { s with heap:=h' }) : wpAny (model prog w) A (pyNext (.ref z)) Q E s:=by
 simp only [List.nodup_cons,List.mem_cons,List.not_mem_nil,or_false,not_or] at nd n1
 obtain ⟨⟨zTI,zTO,zi1,zi2⟩,⟨TITO,TIi1,TIi2⟩,⟨TOi1,TOi2⟩,i12,_⟩:=nd
 obtain ⟨l1z,l1TI,l1TO,l1i1,l1i2⟩:=n1
 have hT : s.TypeIs (.ref z) "zip":=⟨_,hz,rfl⟩
 unfold pyNext
 refine wpAny_bind (wpAny_attempt (wpAny_callSpecial?_slot (name:=Str.ofString "__next__") hT F.slot_zip_next (wpAny_call_entry F.slot_zip_next hT F.entry_zip_next ?_ (F.args_zip_next_1 _))))
 show wpAny _ _ (field (.ref z) 2 >>= _) _ _ _
 refine wpAny_bind (wpAny_field hz rfl (x:=.bool false) rfl ?_)
 show wpAny _ _ (field (.ref z) 3 >>= _) _ _ _
 refine wpAny_bind (wpAny_field hz rfl (x:=.ref TI) rfl ?_)
 refine wpAny_bind (wpAny_seqItems hTI rfl ?_)
 show wpAny _ _ (Builtin.SmallTypes.ownedTupleIsFree (.ref z) >>= _) _ _ _
 refine wpAny_bind ?_
 unfold Builtin.SmallTypes.ownedTupleIsFree
 refine wpAny_bind (wpAny_field hz rfl (x:=.none) rfl (wpAny_pure ?_))
 simp only [if_true]
 refine wpAny_bind (wpAny_rule ?_)
 refine wpAny_bind (wpAny_field hz rfl (x:=.ref TO) rfl ?_)
 refine wpAny_bind (wpAny_setField_rec hz (by simp) fun h₁ hz₁ hs₁=>?_)
 replace hz₁ : IsZip h₁ z TI TO .ellipsis:=hz₁
 refine wpAny_bind ?_
 simp only [List.zipIdx_cons,List.zipIdx_nil,List.forIn_cons,List.forIn_nil]
 refine wpAny_bind (wpAny_bind (wpAny_onRaise ?_))
 show wpAny _ _ (Builtin.SmallTypes.nextOf (.ref i1) >>= _) _ _ _
 refine wpAny_bind (zz_end (by first | exact hh | rfl) (h1.at fun o e=>hs₁.extBut _ o (Ne.symm zi1) e) (hl1.at fun o e=>hs₁.extBut _ o l1z e) hx fun h₂ e hs₂ he=>?_)
 obtain ⟨oe,hoe,hce⟩:=he
 have hz₂ : IsZip h₂ z TI TO .ellipsis:=hs₂ _ _ zi1 hz₁
 have hez : e ≠ z:=fun x=>by subst x; rw [hz₂] at hoe; cases hoe; simp at hce
 refine wpAny_setField_rec hz₂ (by simp) fun h₃ _ hs₃=>?_
 refine wpAny_bind (wpAny_isInstance (T:="StopIteration") (b:=true) ⟨oe,hs₃.extBut _ _ hez hoe,hce⟩ isSubtype_stop ?_)
 exact wpAny_pure (hQ _ fun c o c1 _ c3 _ x=>hs₃.extBut _ _ c1 (hs₂ _ _ c3 (hs₁.extBut _ _ c1 x)))
end
end PySem
namespace PySem
abbrev zzH1 (h : Heap) (l1 : Addr) : Heap:=h.push { cls:=.type "tuple_iterator",data:=.fields #[.ref l1,.int 0 0] }
abbrev zzH2 (h : Heap) (l1 l2 : Addr) : Heap:=(zzH1 h l1).push { cls:=.type "tuple_iterator",data:=.fields #[.ref l2,.int 0 0] }
abbrev zzH3 (h : Heap) (l1 l2 : Addr) : Heap:=(zzH2 h l1 l2).push { cls:=.type "tuple",data:=.seq #[.ref h.objs.size,.ref (zzH1 h l1).objs.size] }
abbrev zzH4 (h : Heap) (l1 l2 : Addr) : Heap:=(zzH3 h l1 l2).push { cls:=.type "tuple",data:=.seq #[.none,.none] }
abbrev zzH5 (h : Heap) (l1 l2 : Addr) : Heap:=(zzH4 h l1 l2).push { cls:=.type "zip",data:=.fields #[.none,.bool false,.bool false,.ref (zzH2 h l1 l2).objs.size,.ref (zzH3 h l1 l2).objs.size] }
theorem zz_meets_new (l1 l2 : Addr) (xs ys : Array Value) :
 Meets (Builtin.«zip.__new__» ⟨[.type "zip",.ref l1,.ref l2],[]⟩) (fun _ R s=>s.heap.IsTuple l1 xs ∧ s.heap.IsTuple l2 ys ∧ R (.ok (.ret (.ref (zzH4 s.heap l1 l2).objs.size))) { s with heap:=zzH5 s.heap l1 l2 }) :=
 .of_wp fun prog w A R s h=>by
  obtain ⟨hp,g,d,tk,os⟩:=s; obtain ⟨hl1,hl2,h⟩:=h
  have hsub:=sub_zip
  have hL1 : Heap.IsTuple (Shared.heap ⟨hp,g,d,tk,os⟩) l1 xs:=hl1
  have hL2 : Heap.IsTuple (Shared.heap ⟨hp.push { cls:=.type "tuple_iterator",data:=.fields #[.ref l1,.int 0 0] },g,d,tk,os⟩) l2 ys:=Heap.IsTuple.push hl2 _
  wp_walk using wpAny_pyIter_tuple hL1,wpAny_pyIter_tuple hL2
  exact ⟨_,rfl,h⟩
section
variable {prog : Program} {w : World} {A : Around} {E : Value → Shared → Prop} {s : Shared} {tp : Bool}
theorem zz_call {l1 l2 : Addr} {xs ys : Array Value} {Q : Value → Shared → Prop} (hl1 : ZSq tp s.heap l1 xs) (hl2 : ZSq tp s.heap l2 ys)
 (h : ∀ h',IsZip h' (s.heap.objs.size + 4) (s.heap.objs.size + 2) (s.heap.objs.size + 3) .none → IsPair h' (s.heap.objs.size + 2) (.ref s.heap.objs.size) (.ref (s.heap.objs.size + 1)) →
  IsPair h' (s.heap.objs.size + 3) .none .none → ZIt tp h' s.heap.objs.size l1 0 → ZIt tp h' (s.heap.objs.size + 1) l2 0 → (∀ c o,s.heap.get? c = some o → h'.get? c = some o) → Q (.ref (s.heap.objs.size + 4)) { s with heap:=h' }) :
 wpAny (model prog w) A (call (.type "zip") [.ref l1,.ref l2]) Q E s:=by
 cases tp
 · exact call_zip_2 hl1 hl2 fun h' a b c d e _ f=>h h' a b c d e f
 · refine callType_new F.called_zip (by decide) (F.typeCall_zip_2 _ _) (F.newCall_zip_2 _ _) (fun obj=>F.args_object_init_3 obj _ _) F.entry_zip_new (zz_meets_new l1 l2 xs ys) ⟨hl1,hl2,?_⟩
   have z1 : (zzH1 s.heap l1).objs.size = s.heap.objs.size + 1:=Heap.size_push ..
   have z2 : (zzH2 s.heap l1 l2).objs.size = s.heap.objs.size + 2:=by rw [Heap.size_push,z1]
   have z3 : (zzH3 s.heap l1 l2).objs.size = s.heap.objs.size + 3:=by rw [Heap.size_push,z2]
   have z4 : (zzH4 s.heap l1 l2).objs.size = s.heap.objs.size + 4:=by rw [Heap.size_push,z3]
   have g5 : (zzH5 s.heap l1 l2).get? (zzH4 s.heap l1 l2).objs.size = some _:=Heap.get?_push_size _ rfl
   have g4 : (zzH5 s.heap l1 l2).get? (zzH3 s.heap l1 l2).objs.size = some _:=Heap.get?_push_of_some _ (Heap.get?_push_size _ rfl)
   have g3 : (zzH5 s.heap l1 l2).get? (zzH2 s.heap l1 l2).objs.size = some _:=Heap.get?_push_of_some _ (Heap.get?_push_of_some _ (Heap.get?_push_size _ rfl))
   have g2 : (zzH5 s.heap l1 l2).get? (zzH1 s.heap l1).objs.size = some _:=Heap.get?_push_of_some _ (Heap.get?_push_of_some _ (Heap.get?_push_of_some _ (Heap.get?_push_size _ rfl)))
   have g1 : (zzH5 s.heap l1 l2).get? s.heap.objs.size = some _:=Heap.get?_push_of_some _ (Heap.get?_push_of_some _ (Heap.get?_push_of_some _ (Heap.get?_push_of_some _ (Heap.get?_push_size _ rfl))))
   show _ ∧ _
   rw [z2,z3,z4] at g5
   rw [z1,z2] at g3
   rw [z3] at g4
   rw [z1] at g2
   rw [z4]
   exact ⟨⟨_,g5,rfl⟩,h _ g5 g3 g4 ⟨_,g1,rfl,rfl⟩ ⟨_,g2,rfl,rfl⟩ fun c o x =>
    Heap.get?_push_of_some _ (Heap.get?_push_of_some _ (Heap.get?_push_of_some _ (Heap.get?_push_of_some _ (Heap.get?_push_of_some _ x))))⟩
end
end PySem
namespace L2
open PySem PySem.Spec PyProof.Rows
section
variable {X : Cx}
end
end L2
namespace L2
open PySem PySem.Spec PyProof.Rows
def KD (P : Program) (w : World) (K : PySem.W.Frag) (a : Addr) (kvs : List (Key × V)) : Prop :=
 (a == sysModules) = false ∧ ∃ (o : Obj) (es : Array DictEntry) (ep : Nat) (vs : List (Key × Value)),K.lookup a = some o ∧ o.ExactDict ∧ o.data = .dict es ep ∧ KeysOf (mixKind P w) es ∧ Pairs (mixKind P w) es.toList vs ∧ (vs.map (·.1)).Nodup ∧ KV kvs vs
section
variable {X : Cx} {pins : List (Addr × Obj)} {σ : St} {H : Hp} {s : Shared} {a : Addr} {kvs : List (Key × V)} {k : Key} {v : V} {u : Value} {E : Value → Shared → Prop}
theorem Inv.kd (I : Inv X pins σ H s) (h : KD X.prog X.w X.K a kvs) : (a == sysModules) = false ∧ ∃ vs,KV kvs vs ∧ s.heap.DictOf (mixKind X.prog X.w) a vs:=by
 obtain ⟨hs,o,es,ep,vs,hk,h1,h2,h3,h4,h5,rel⟩:=h
 exact ⟨hs,vs,rel,o,es,ep,I.kIn a o hk,h1,h2,h3,h4,h5⟩
theorem k_getItem {Q : Value → Shared → Prop} {A : Around} (I : Inv X pins σ H s) (h : KD X.prog X.w X.K a kvs) (l : valV kvs k = some v) (ry : RelV (kV k) u) (q : ∀ w' s',Inv X pins σ H s' → RelV v w' → Q w' s') : wpAny (model X.prog X.w) A (getItem (.ref a) u) Q E s:=by
 obtain ⟨hs,vs,rel,dd⟩:=I.kd h
 obtain ⟨w',hw,rw'⟩:=RelO.some_of (v:=v) (o:=valueAt vs k) (by rw [← l]; exact rel.val k)
 exact wpAny_getItem_of (kV_is ry) dd.mapOf hw (q w' _ (I.tok _) rw')
end
section
variable {X : Cx} {o i : Expr} {pos : Pos} {td ty : TE}
def tKGet (P : Program) (w : World) (K : PySem.W.Frag) (td ty : TE) : TE:=fun σ H Q=>td σ H fun x H1=>ty σ H1 fun y H2=>∃ a kvs k v,x = .ref a ∧ y = kV k ∧ KD P w K a kvs ∧ valV kvs k = some v ∧ Q v H2
theorem pe_kget (ho : PE X o td) (hi : PE X i ty) (hs : NoSl i) : PE X (.Subscript o i pos) (tKGet X.prog X.w X.K td ty):=by
 intro pins s σ H Q I h
 refine subD_of PySem.F.slot_dict_getitem.lookup hs (thn (ho pins s σ H _ I h) fun u s1 ⟨x,H1,I1,rx,q1⟩=>thn (hi pins s1 σ H1 _ I1 q1) fun iv s2 ⟨y,H2,I2,ry,a,kvs,k,v,ex,ey,g,l,q2⟩=>?_)
 subst ex ey
 obtain rfl : u = Value.ref a:=rx
 obtain ⟨_,vs,_,dd⟩:=I2.kd g
 exact ⟨dd.typeIs,k_getItem I2 g l ry fun w' s3 I3 rw'=>⟨v,H2,I3,rw',q2⟩⟩
def tKIn (P : Program) (w : World) (K : PySem.W.Frag) (neg : Bool) (ty td : TE) : TE:=fun σ H Q=>ty σ H fun y H1=>td σ H1 fun x H2=>∃ a kvs k,x = .ref a ∧ y = kV k ∧ KD P w K a kvs ∧ Q (.bl (if neg then !(valV kvs k).isSome else (valV kvs k).isSome)) H2
theorem pc_kin (hi : PE X i ty) (ho : PE X o td) : PC X .In i o (tKIn X.prog X.w X.K false ty td):=by
 intro pins s σ H Q I h
 refine thn (hi pins s σ H _ I h) fun iv s1 ⟨y,H1,I1,ry,q1⟩=>thn (ho pins s1 σ H1 _ I1 q1) fun u s2 ⟨x,H2,I2,rx,a,kvs,k,ex,ey,g,q2⟩=>?_
 subst ex ey
 obtain rfl : u = Value.ref a:=rx
 obtain ⟨hs,vs,rel,dd⟩:=I2.kd g
 refine wpAny_in_of (kV_is ry) hs dd.mapOf ?_
 rw [← (rel.val k).isSome_eq]
 exact ⟨.bl _,H2,I2.tok _,rfl,q2⟩
theorem pc_knotin (hi : PE X i ty) (ho : PE X o td) : PC X .NotIn i o (tKIn X.prog X.w X.K true ty td):=by
 intro pins s σ H Q I h
 refine thn (hi pins s σ H _ I h) fun iv s1 ⟨y,H1,I1,ry,q1⟩=>thn (ho pins s1 σ H1 _ I1 q1) fun u s2 ⟨x,H2,I2,rx,a,kvs,k,ex,ey,g,q2⟩=>?_
 subst ex ey
 obtain rfl : u = Value.ref a:=rx
 obtain ⟨hs,vs,rel,dd⟩:=I2.kd g
 refine wpAny_notIn_of (kV_is ry) hs dd.mapOf ?_
 rw [← (rel.val k).isSome_eq]
 exact ⟨.bl _,H2,I2.tok _,rfl,q2⟩
end
end L2
namespace L2
open PySem PySem.Spec PyProof.Rows
theorem any_at (bs : List Bool) : ((List.range bs.length).any fun i=>(bs[i]?).getD false) = bs.any _root_.id:=by
 rw [Bool.eq_iff_iff,List.any_eq_true,List.any_eq_true]
 constructor
 · rintro ⟨i,hi,h⟩
   have hi':=List.mem_range.mp hi
   rw [List.getElem?_eq_getElem hi'] at h
   exact ⟨bs[i],List.getElem_mem hi',h⟩
 · rintro ⟨b,hb,h⟩
   obtain ⟨i,hi,e⟩:=List.getElem_of_mem hb
   refine ⟨i,List.mem_range.mpr hi,?_⟩
   rw [List.getElem?_eq_getElem hi,e]
   exact h
theorem call_any_bools {X : Cx} (hc : X.calm = true) : CallR X (.builtin "any") (fun xs H Q=>∃ (p : Addr) (bs : List Bool),xs = [.ref p] ∧ SqL X.K H p (bs.map V.bl) ∧ Q (.bl (bs.any _root_.id)) H):=by
 intro pins s σ H xs us Q I r h
 obtain ⟨p,bs,rfl,hp,q⟩:=h
 obtain ⟨u,rfl,rx⟩:=vals1 r
 cases (show u = Value.ref p from rx)
 obtain ⟨its,rv,pl,hz⟩:=I.list hp
 have hl:=pl.isList
 have hlen : bs.length = its.length:=by
  have:=rv.length
  rw [List.length_map] at this
  exact this
 have hlt : p < s.heap.objs.size:=by obtain ⟨_,e,_⟩:=hl; exact Heap.lt_size e
 refine call_any_walk (wpAny_pyIter_list hl ?_)
 refine ⟨s.heap.objs.size,[s.heap.objs.size,p],[s.heap.objs.size],its.toArray.size,_,_,fun i=>(bs[i]?).getD false,rfl,Walks.list (A:=X.A.in1) (by show X.A.in1.handled = none; exact I.ok.hd hc) _ p (Nat.ne_of_lt hlt) its.toArray,
  ⟨⟨_,Heap.get?_push_size _ rfl,rfl,rfl⟩,hl.push _⟩,fun i v s' Q' E' hP hQ=>?_,fun h' tk hk=>?_⟩
 · have hi : its[i]? = some v:=by simpa using hP
   have hlt2 : i < bs.length:=by
    have:=(List.getElem?_eq_some_iff.mp hi).1
    omega
   obtain ⟨w',e1,e2⟩:=rv.get (x:=.bl bs[i]) (by rw [List.getElem?_map,List.getElem?_eq_getElem hlt2]; rfl)
   rw [hi] at e1
   cases e1
   cases (show v = Value.bool bs[i] from e2)
   simp only [List.getElem?_eq_getElem hlt2,Option.getD_some] at hQ
   exact wpAny_truthy_bool hQ
 · have e : ((List.range its.toArray.size).any fun i=>(bs[i]?).getD false) = bs.any _root_.id:=by
    rw [List.size_toArray,← hlen]
    exact any_at bs
   rw [e]
   exact ⟨.bl _,H,I.kept (t':=tk) (fun b o eb=>hk b o (fun hm=>by rw [List.mem_singleton.mp hm] at eb; exact Nat.lt_irrefl _ (Heap.lt_size eb)) (Heap.get?_push_of_some _ eb)),rfl,q⟩
end L2
namespace PySem
open PySem PySem.Spec PyProof.Rows
section
variable {prog : Program} {w : World} {A : Around} {E : Value → Shared → Prop} {s : Shared} {tp tq : Bool}
theorem zm_next {z TI TO i1 i2 l1 l2 : Addr} {k : Nat} {xs ys : Array Value} {x y a b : Value} {Q : Option Value → Shared → Prop} (nd : [z,TI,TO,i1,i2].Nodup) (n1 : l1 ∉ [z,TI,TO,i1,i2]) (n2 : l2 ∉ [z,TI,TO,i1,i2])
 (hz : IsZip s.heap z TI TO .none) (hTI : IsPair s.heap TI (.ref i1) (.ref i2)) (hTO : IsPair s.heap TO a b) (h1 : ZIt tp s.heap i1 l1 k) (h2 : ZIt tq s.heap i2 l2 k) (hl1 : ZSq tp s.heap l1 xs) (hl2 : ZSq tq s.heap l2 ys) (hx : xs[k]? = some x) (hy : ys[k]? = some y)
 (hQ : ∀ h',IsZip h' z TI TO (rawInt s.heap.objs.size) → IsPair h' TO x y → ZIt tp h' i1 l1 (k + 1) → ZIt tq h' i2 l2 (k + 1) → IsPair h' s.heap.objs.size x y →
  (∀ c o,c ≠ z → c ≠ TO → c ≠ i1 → c ≠ i2 → s.heap.get? c = some o → h'.get? c = some o) → Q (some (.ref s.heap.objs.size)) { s with heap:=h' }) : wpAny (model prog w) A (pyNext (.ref z)) Q E s:=by
 simp only [List.nodup_cons,List.mem_cons,List.not_mem_nil,or_false,not_or] at nd n1 n2
 obtain ⟨⟨zTI,zTO,zi1,zi2⟩,⟨TITO,TIi1,TIi2⟩,⟨TOi1,TOi2⟩,i12,_⟩:=nd
 obtain ⟨l1z,l1TI,l1TO,l1i1,l1i2⟩:=n1
 obtain ⟨l2z,l2TI,l2TO,l2i1,l2i2⟩:=n2
 have hT : s.TypeIs (.ref z) "zip":=⟨_,hz,rfl⟩
 unfold pyNext
 refine wpAny_bind (wpAny_attempt (wpAny_callSpecial?_slot (name:=Str.ofString "__next__") hT F.slot_zip_next (wpAny_call_entry F.slot_zip_next hT F.entry_zip_next ?_ (F.args_zip_next_1 _))))
 show wpAny _ _ (field (.ref z) 2 >>= _) _ _ _
 refine wpAny_bind (wpAny_field hz rfl (x:=.bool false) rfl ?_)
 show wpAny _ _ (field (.ref z) 3 >>= _) _ _ _
 refine wpAny_bind (wpAny_field hz rfl (x:=.ref TI) rfl ?_)
 refine wpAny_bind (wpAny_seqItems hTI rfl ?_)
 show wpAny _ _ (Builtin.SmallTypes.ownedTupleIsFree (.ref z) >>= _) _ _ _
 refine wpAny_bind ?_
 unfold Builtin.SmallTypes.ownedTupleIsFree
 refine wpAny_bind (wpAny_field hz rfl (x:=.none) rfl (wpAny_pure ?_))
 simp only [if_true]
 refine wpAny_bind (wpAny_rule ?_)
 refine wpAny_bind (wpAny_field hz rfl (x:=.ref TO) rfl ?_)
 refine wpAny_bind (wpAny_setField_rec hz (by simp) fun h₁ hz₁ hs₁=>?_)
 replace hz₁ : IsZip h₁ z TI TO .ellipsis:=hz₁
 refine wpAny_bind ?_
 simp only [List.zipIdx_cons,List.zipIdx_nil,List.forIn_cons,List.forIn_nil]
 have k1 : ∀ c o,c ≠ z → s.heap.get? c = some o → h₁.get? c = some o:=fun c o n e=>hs₁.extBut _ _ n e
 refine wpAny_bind (wpAny_bind (wpAny_onRaise ?_))
 show wpAny _ _ (Builtin.SmallTypes.nextOf (.ref i1) >>= _) _ _ _
 refine wpAny_bind (zz_item (h1.at fun o e=>k1 _ o (Ne.symm zi1) e) (hl1.at fun o e=>k1 _ o l1z e) hx fun h₂ h1₂ hs₂=>wpAny_pure ?_)
 have k2 : ∀ c o,c ≠ i1 → h₁.get? c = some o → h₂.get? c = some o:=fun c o n e=>hs₂.extBut _ _ n e
 have hTO₂ : IsPair h₂ TO a b:=k2 _ _ TOi1 (k1 _ _ (Ne.symm zTO) hTO)
 refine wpAny_bind (wpAny_seqItems hTO₂ rfl ?_)
 refine wpAny_bind (wpAny_updateSeq_pair hTO₂ fun h₃ hTO₃ hs₃=>?_)
 replace hTO₃ : IsPair h₃ TO x b:=hTO₃
 have k3 : ∀ c o,c ≠ TO → h₂.get? c = some o → h₃.get? c = some o:=fun c o n e=>hs₃.extBut _ _ n e
 refine wpAny_bind (wpAny_letGo (wpAny_pure ?_))
 refine wpAny_bind (wpAny_bind (wpAny_onRaise ?_))
 show wpAny _ _ (Builtin.SmallTypes.nextOf (.ref i2) >>= _) _ _ _
 refine wpAny_bind (zz_item (h2.at fun o e=>k3 _ o (Ne.symm TOi2) (k2 _ o (Ne.symm i12) (k1 _ o (Ne.symm zi2) e))) (hl2.at fun o e=>k3 _ o l2TO (k2 _ o l2i1 (k1 _ o l2z e))) hy fun h₄ h2₄ hs₄=>wpAny_pure ?_)
 have k4 : ∀ c o,c ≠ i2 → h₃.get? c = some o → h₄.get? c = some o:=fun c o n e=>hs₄.extBut _ _ n e
 have hTO₄ : IsPair h₄ TO x b:=k4 _ _ TOi2 hTO₃
 refine wpAny_bind (wpAny_seqItems hTO₄ rfl ?_)
 refine wpAny_bind (wpAny_updateSeq_pair hTO₄ fun h₅ hTO₅ hs₅=>?_)
 replace hTO₅ : IsPair h₅ TO x y:=hTO₅
 have k5 : ∀ c o,c ≠ TO → h₄.get? c = some o → h₅.get? c = some o:=fun c o n e=>hs₅.extBut _ _ n e
 refine wpAny_bind (wpAny_letGo (wpAny_pure (wpAny_pure ?_)))
 refine wpAny_bind (wpAny_seqItems hTO₅ rfl ?_)
 refine wpAny_bind (wpAny_newTuple ?_)
 have hsz : h₅.objs.size = s.heap.objs.size:=by rw [hs₅.1,hs₄.1,hs₃.1,hs₂.1,hs₁.1]
 have hz₅ : IsZip h₅ z TI TO .ellipsis:=k5 _ _ zTO (k4 _ _ zi2 (k3 _ _ zTO (k2 _ _ zi1 hz₁)))
 have hk₅ : ∀ c o,c ≠ z → c ≠ TO → c ≠ i1 → c ≠ i2 → s.heap.get? c = some o → h₅.get? c = some o:=fun c o c1 c2 c3 c4 e=>k5 _ _ c2 (k4 _ _ c4 (k3 _ _ c2 (k2 _ _ c3 (k1 _ _ c1 e))))
 have h1₅ : ZIt tp h₅ i1 l1 (k + 1):=h1₂.at fun o e=>k5 _ _ (Ne.symm TOi1) (k4 _ _ i12 (k3 _ _ (Ne.symm TOi1) e))
 have h2₅ : ZIt tq h₅ i2 l2 (k + 1):=h2₄.at fun o e=>k5 _ _ (Ne.symm TOi2) e
 have hzlt : z < h₅.objs.size:=Heap.lt_size hz₅
 show wpAny _ _ (Builtin.SmallTypes.ownedTupleHandOut (.ref z) (.ref h₅.objs.size) >>= _) _ _ _
 refine wpAny_bind ?_
 unfold Builtin.SmallTypes.ownedTupleHandOut
 have hz₆ : IsZip (h₅.push { cls:=.type "tuple",data:=.seq #[x,y] }) z TI TO .ellipsis:=Heap.get?_push_of_some _ hz₅
 refine wpAny_bind (wpAny_setField_rec hz₆ (by simp) fun h₇ hz₇ hs₇=>?_)
 replace hz₇ : IsZip h₇ z TI TO (rawInt h₅.objs.size):=hz₇
 refine wpAny_setField_rec hz₇ (by simp) fun h₈ hz₈ hs₈=>?_
 replace hz₈ : IsZip h₈ z TI TO (rawInt h₅.objs.size):=hz₈
 have up : ∀ c o,c ≠ z → h₅.get? c = some o → h₈.get? c = some o:=fun c o c1 e=>hs₈.extBut _ _ c1 (hs₇.extBut _ _ c1 (Heap.get?_push_of_some _ e))
 have hT₈ : IsPair h₈ h₅.objs.size x y:=hs₈.extBut _ _ (Nat.ne_of_gt hzlt) (hs₇.extBut _ _ (Nat.ne_of_gt hzlt) (Heap.get?_push_size _ rfl))
 rw [hsz] at hz₈ hT₈
 refine wpAny_pure ⟨.ref h₅.objs.size,rfl,wpAny_pure ?_⟩
 rw [hsz]
 exact hQ h₈ hz₈ (up _ _ (Ne.symm zTO) hTO₅) (h1₅.at fun o e=>up _ o (Ne.symm zi1) e) (h2₅.at fun o e=>up _ o (Ne.symm zi2) e) hT₈ fun c o c1 c2 c3 c4 e=>up c o c1 (hk₅ c o c1 c2 c3 c4 e)
abbrev zmH1 (h : Heap) (l1 : Addr) : Heap:=h.push { cls:=.type "tuple_iterator",data:=.fields #[.ref l1,.int 0 0] }
abbrev zmH2 (h : Heap) (l1 l2 : Addr) : Heap:=(zmH1 h l1).push { cls:=.type "list_iterator",data:=.fields #[.ref l2,.int 0 0] }
abbrev zmH3 (h : Heap) (l1 l2 : Addr) : Heap:=(zmH2 h l1 l2).push { cls:=.type "tuple",data:=.seq #[.ref h.objs.size,.ref (zmH1 h l1).objs.size] }
abbrev zmH4 (h : Heap) (l1 l2 : Addr) : Heap:=(zmH3 h l1 l2).push { cls:=.type "tuple",data:=.seq #[.none,.none] }
abbrev zmH5 (h : Heap) (l1 l2 : Addr) : Heap:=(zmH4 h l1 l2).push { cls:=.type "zip",data:=.fields #[.none,.bool false,.bool false,.ref (zmH2 h l1 l2).objs.size,.ref (zmH3 h l1 l2).objs.size] }
theorem zm_meets_new (l1 l2 : Addr) (xs ys : Array Value) :
 Meets (Builtin.«zip.__new__» ⟨[.type "zip",.ref l1,.ref l2],[]⟩) (fun _ R s=>s.heap.IsTuple l1 xs ∧ s.heap.IsList l2 ys ∧ R (.ok (.ret (.ref (zmH4 s.heap l1 l2).objs.size))) { s with heap:=zmH5 s.heap l1 l2 }) :=
 .of_wp fun prog w A R s h=>by
  obtain ⟨hp,g,d,tk,os⟩:=s; obtain ⟨hl1,hl2,h⟩:=h
  have hsub:=sub_zip
  have hL1 : Heap.IsTuple (Shared.heap ⟨hp,g,d,tk,os⟩) l1 xs:=hl1
  have hL2 : Heap.IsList (Shared.heap ⟨hp.push { cls:=.type "tuple_iterator",data:=.fields #[.ref l1,.int 0 0] },g,d,tk,os⟩) l2 ys:=Heap.IsList.push hl2 _
  wp_walk using wpAny_pyIter_tuple hL1,wpAny_pyIter_list hL2
  exact ⟨_,rfl,h⟩
theorem zm_call {l1 l2 : Addr} {xs ys : Array Value} {Q : Value → Shared → Prop} (hl1 : ZSq true s.heap l1 xs) (hl2 : ZSq false s.heap l2 ys)
 (h : ∀ h',IsZip h' (s.heap.objs.size + 4) (s.heap.objs.size + 2) (s.heap.objs.size + 3) .none → IsPair h' (s.heap.objs.size + 2) (.ref s.heap.objs.size) (.ref (s.heap.objs.size + 1)) →
  IsPair h' (s.heap.objs.size + 3) .none .none → ZIt true h' s.heap.objs.size l1 0 → ZIt false h' (s.heap.objs.size + 1) l2 0 → (∀ c o,s.heap.get? c = some o → h'.get? c = some o) → Q (.ref (s.heap.objs.size + 4)) { s with heap:=h' }) :
 wpAny (model prog w) A (call (.type "zip") [.ref l1,.ref l2]) Q E s:=by
 refine callType_new F.called_zip (by decide) (F.typeCall_zip_2 _ _) (F.newCall_zip_2 _ _) (fun obj=>F.args_object_init_3 obj _ _) F.entry_zip_new (zm_meets_new l1 l2 xs ys) ⟨hl1,hl2,?_⟩
 have z1 : (zmH1 s.heap l1).objs.size = s.heap.objs.size + 1:=Heap.size_push ..
 have z2 : (zmH2 s.heap l1 l2).objs.size = s.heap.objs.size + 2:=by rw [Heap.size_push,z1]
 have z3 : (zmH3 s.heap l1 l2).objs.size = s.heap.objs.size + 3:=by rw [Heap.size_push,z2]
 have z4 : (zmH4 s.heap l1 l2).objs.size = s.heap.objs.size + 4:=by rw [Heap.size_push,z3]
 have g5 : (zmH5 s.heap l1 l2).get? (zmH4 s.heap l1 l2).objs.size = some _:=Heap.get?_push_size _ rfl
 have g4 : (zmH5 s.heap l1 l2).get? (zmH3 s.heap l1 l2).objs.size = some _:=Heap.get?_push_of_some _ (Heap.get?_push_size _ rfl)
 have g3 : (zmH5 s.heap l1 l2).get? (zmH2 s.heap l1 l2).objs.size = some _:=Heap.get?_push_of_some _ (Heap.get?_push_of_some _ (Heap.get?_push_size _ rfl))
 have g2 : (zmH5 s.heap l1 l2).get? (zmH1 s.heap l1).objs.size = some _:=Heap.get?_push_of_some _ (Heap.get?_push_of_some _ (Heap.get?_push_of_some _ (Heap.get?_push_size _ rfl)))
 have g1 : (zmH5 s.heap l1 l2).get? s.heap.objs.size = some _:=Heap.get?_push_of_some _ (Heap.get?_push_of_some _ (Heap.get?_push_of_some _ (Heap.get?_push_of_some _ (Heap.get?_push_size _ rfl))))
 show _ ∧ _
 rw [z2,z3,z4] at g5
 rw [z1,z2] at g3
 rw [z3] at g4
 rw [z1] at g2
 rw [z4]
 exact ⟨⟨_,g5,rfl⟩,h _ g5 g3 g4 ⟨_,g1,rfl,rfl⟩ ⟨_,g2,rfl,rfl⟩ fun c o x =>
  Heap.get?_push_of_some _ (Heap.get?_push_of_some _ (Heap.get?_push_of_some _ (Heap.get?_push_of_some _ (Heap.get?_push_of_some _ x))))⟩
end
end PySem
namespace L2
open PySem PySem.Spec PyProof.Rows
def ZK (K : PySem.W.Frag) (tp : Bool) (H : Hp) (a : Addr) (xs : List V) : Prop:=match tp with | true=>SqT K H a xs | false=>SqL K H a xs
section
variable {X : Cx} {pins : List (Addr × Obj)} {σ : St} {H : Hp} {s : Shared} {tp : Bool} {a : Addr} {xs ys : List V}
theorem Inv.zk (I : Inv X pins σ H s) (h : ZK X.K tp H a xs) : ∃ its : List Value,Vals xs its ∧ ZSq tp s.heap a its.toArray ∧ xs.length ≤ sizeLine:=by
 cases tp
 · obtain ⟨its,r,pl,z⟩:=I.list h
   exact ⟨its,r,pl.isList,z⟩
 · obtain ⟨its,r,⟨o,e,c,n,d⟩,z⟩:=I.tuple h
   exact ⟨its,r,⟨o,e,c,n,d⟩,z⟩
theorem Inv.zk_inj (I : Inv X pins σ H s) (h : ZK X.K tp H a xs) (h' : ZK X.K tp H a ys) : xs = ys:=by
 cases tp
 · exact I.list_inj h h'
 · exact I.tuple_inj h h'
theorem Inv.zk_out {fp : List Addr} (I : Inv X pins σ H s) (h : ZK X.K tp H a xs) (hf : ∀ b ∈ fp,FpOk X pins H b) : a ∉ fp:=fun m=>by
 have own : ∀ o,X.K.lookup a = some o → False:=fun o e=>by
  have eb:=I.ok.mod.kin a o e
  obtain ⟨_,_,_,h4,_⟩:=hf a m
  rcases h4 with h4 | h4
  · exact I.ok.noex a o eb h4
  · exact absurd (Nat.lt_of_lt_of_le (Heap.lt_size eb) (Nat.le_trans I.ok.bsz h4)) (Nat.lt_irrefl _)
 have non:=(hf a m).1
 cases tp
 · rcases h with (h | ⟨o,h⟩) | ⟨o,_,_,e,_⟩
   · rw [non] at h; cases h
   · rw [non] at h; cases h
   · exact own o e
 · rcases h with (h | ⟨o,h⟩) | ⟨o,_,_,e,_⟩
   · rw [non] at h; cases h
   · rw [non] at h; cases h
   · exact own o e
end
def Itm (K : PySem.W.Frag) (tp tq : Bool) (a b : Addr) : It :=
 ⟨fun i H=>∃ xs ys x y,ZK K tp H a xs ∧ ZK K tq H b ys ∧ xs[i]? = some x ∧ ys[i]? = some y,fun i H v H'=>∃ T x y,v = .ref T ∧ H T = none ∧ H' = upd H T (.tup [x,y]) ∧ (∀ xs,ZK K tp H a xs → xs[i]? = some x) ∧ ∀ ys,ZK K tq H b ys → ys[i]? = some y,
  fun i H=>∃ xs,ZK K tp H a xs ∧ xs.length ≤ i⟩
theorem turn_zm {P : Program} {w : World} {K : PySem.W.Frag} {es : List Expr} {kk : Nat} {pp : Pos} {tp tq : Bool} {a b z TI TO i1 i2 : Addr} (nd : [z,TI,TO,i1,i2].Nodup) :
 Turn P w K (.Tuple es kk pp) (Itm K tp tq a b) [z,TI,TO,i1,i2] z (fun i h=>IsZip h z TI TO .none ∧ IsPair h TI (.ref i1) (.ref i2) ∧ (∃ a b,IsPair h TO a b) ∧ ZIt tp h i1 a i ∧ ZIt tq h i2 b i) where
 mem:=by simp
 obj:=fun i h st c hc=>by
  obtain ⟨hz,hTI,⟨u,v,hTO⟩,h1,h2⟩:=st
  simp only [List.mem_cons,List.not_mem_nil,or_false] at hc
  rcases hc with rfl | rfl | rfl | rfl | rfl
  · exact ⟨_,hz,fun v z=>by cases (show Data.fields _ = Data.cell v from z)⟩
  · exact ⟨_,hTI,fun v z=>by cases (show Data.seq _ = Data.cell v from z)⟩
  · exact ⟨_,hTO,fun v z=>by cases (show Data.seq _ = Data.cell v from z)⟩
  · obtain ⟨o,e,vs,d⟩:=h1.there
    exact ⟨o,e,fun v z=>by rw [d] at z; cases z⟩
  · obtain ⟨o,e,vs,d⟩:=h2.there
    exact ⟨o,e,fun v z=>by rw [d] at z; cases z⟩
 keep:=fun i h h' st k=>by
  obtain ⟨hz,hTI,⟨u,v,hTO⟩,h1,h2⟩:=st
  exact ⟨k z (by simp) _ hz,k TI (by simp) _ hTI,⟨u,v,k TO (by simp) _ hTO⟩,h1.at fun o e=>k i1 (by simp) o e,h2.at fun o e=>k i2 (by simp) o e⟩
 item:=by
  intro X hP hw hK hc i pins s σ H E I hf st hg
  subst hP hw hK
  obtain ⟨xs,ys,x,y,hx1,hy1,hx,hy⟩:=hg
  obtain ⟨its,rv,p,hz1⟩:=I.zk hx1
  obtain ⟨its',rv',p',hz1'⟩:=I.zk hy1
  obtain ⟨u,hu,ru⟩:=rv.get hx
  obtain ⟨v,hv,rv2⟩:=rv'.get hy
  obtain ⟨hz,hTI,⟨c,d,hTO⟩,h1,h2⟩:=st
  have na : a ∉ [z,TI,TO,i1,i2]:=I.zk_out hx1 hf
  have nb : b ∉ [z,TI,TO,i1,i2]:=I.zk_out hy1 hf
  refine zm_next nd na nb hz hTI hTO h1 h2 p p' (x:=u) (y:=v) (by simpa using hu) (by simpa using hv) fun h' a1 a2 a3 a4 a5 kk=>?_
  refine ⟨.ref s.heap.objs.size,rfl,?_⟩
  refine wpAny_letOwnedTupleGo_zip a1 fun h3 hz3 hs3=>?_
  have nd':=nd
  simp only [List.nodup_cons,List.mem_cons,List.not_mem_nil,or_false,not_or] at nd'
  obtain ⟨⟨zTI,zTO,zi1,zi2⟩,⟨TITO,TIi1,TIi2⟩,⟨TOi1,TOi2⟩,i12,_⟩:=nd'
  have lt : ∀ c ∈ [z,TI,TO,i1,i2],c ≠ s.heap.objs.size:=fun c hc=>by
   simp only [List.mem_cons,List.not_mem_nil,or_false] at hc
   rcases hc with rfl | rfl | rfl | rfl | rfl
   · exact Nat.ne_of_lt (Heap.lt_size hz)
   · exact Nat.ne_of_lt (Heap.lt_size hTI)
   · exact Nat.ne_of_lt (Heap.lt_size hTO)
   · obtain ⟨o,e,_⟩:=h1.there
     exact Nat.ne_of_lt (Heap.lt_size e)
   · obtain ⟨o,e,_⟩:=h2.there
     exact Nat.ne_of_lt (Heap.lt_size e)
  have k3 : ∀ c o,c ≠ z → h'.get? c = some o → h3.get? c = some o:=fun c o n e=>hs3.extBut _ _ n e
  have I1 : Inv X pins σ (upd H s.heap.objs.size (.tup [x,y])) { s with heap:=h3,toks:=s.toks }:=I.turnedT (its:=[u,v]) hf (fun b o hb e1=>by
   simp only [List.mem_cons,List.not_mem_nil,or_false,not_or] at hb
   exact k3 b o hb.1 (kk b o hb.1 hb.2.2.1 hb.2.2.2.1 hb.2.2.2.2 e1)) (Nat.le_refl _) ⟨_,k3 _ _ (Ne.symm (lt z (by simp))) a5,rfl,_,rfl⟩ (.cons ru (.cons rv2 .nil)) (by show 2 ≤ sizeLine; decide)
  have fr : H s.heap.objs.size = none:=I.hok.fresh (Nat.le_refl _)
  refine ⟨.ref s.heap.objs.size,_,I1,rfl,⟨s.heap.objs.size,x,y,rfl,fr,rfl,fun xs' h=>by rw [I.zk_inj h hx1]; exact hx,fun ys' h=>by rw [I.zk_inj h hy1]; exact hy⟩,⟨hz3,k3 _ _ (Ne.symm zTI) (kk _ _ (Ne.symm zTI) TITO TIi1 TIi2 hTI),⟨_,_,k3 _ _ (Ne.symm zTO) a2⟩,a3.at fun o e=>k3 _ o (Ne.symm zi1) e,a4.at fun o e=>k3 _ o (Ne.symm zi2) e⟩,fun b hb=>?_⟩
  rw [upd_ne (lt b hb)]
  exact (hf b hb).1
 done:=by
  intro X hP hw hK hc i pins s σ H E I hf st hg
  subst hP hw hK
  obtain ⟨xs,hx1,hx⟩:=hg
  obtain ⟨its,rv,p,hz1⟩:=I.zk hx1
  obtain ⟨hz,hTI,⟨c,d,hTO⟩,h1,h2⟩:=st
  have hl:=rv.length
  have na : a ∉ [z,TI,TO,i1,i2]:=I.zk_out hx1 hf
  exact zz_last (I.ok.hd hc) nd na hz hTI h1 p (a:=.none) (b:=.none) (by simp; omega) fun h' kk=>⟨rfl,I.turnedL (t':=s.toks) hf fun b o hb e1=>by
   simp only [List.mem_cons,List.not_mem_nil,or_false,not_or] at hb
   exact kk b o hb.1 hb.2.2.1 hb.2.2.2.1 hb.2.2.2.2 e1⟩
 self:=fun _ _ _ _ _ st h=>wpAny_pyIter_zip st.1 h
section
variable {X : Cx}
def iZipM (K : PySem.W.Frag) (ta : TA) : TI:=fun σ H R=>ta σ H fun vs H1=>∃ a b,vs = [.ref a,.ref b] ∧ (∃ xs,SqT K H1 a xs) ∧ (∃ ys,SqL K H1 b ys) ∧ R (Itm K true false a b) H1
theorem pi_zipM {es : List Expr} {kk : Nat} {pp : Pos} {a b : Expr} {ta : TA} {p pos : Pos} (hg : Gl X "zip") (hm : X.mg "zip" = none) (ha : PA X [a,b] ta) (hs : starEach [a,b] X.env = (false,eval a X.env) :: starEach [b] X.env:=by rfl) (hp : (backTo pos (starEach [b] X.env)).any (·.1) = false:=by rfl) :
 PI X (.Tuple es kk pp) (.Call (.Name "zip" p) [a,b] [] pos) (iZipM X.K ta):=by
 intro pins s σ H R I h
 refine Call_ (ld_blt I hg hm boot_zip (PyProof.Rows.callWith_type1 (thn (ha pos pins s σ H _ I h) fun us s1 ⟨vs,H1,I1,r1,q1⟩=>?_) hs hp))
 obtain ⟨l,m,e,⟨xs,hx⟩,⟨ys,hy⟩,q⟩:=q1
 subst e
 obtain ⟨u,v,rfl,ru,rv⟩:=vals2 r1
 cases (show u = Value.ref l from ru)
 cases (show v = Value.ref m from rv)
 obtain ⟨its,_,p1,_⟩:=I1.zk (tp:=true) hx
 obtain ⟨its',_,p2,_⟩:=I1.zk (tp:=false) hy
 refine zm_call p1 p2 fun h' a1 a2 a3 a4 a5 kk=>?_
 refine wpAny_pyIter_zip a1 ?_
 have I2 : Inv X pins σ H1 { s1 with heap:=h' }:=I1.kept (t':=s1.toks) kk
 refine ⟨_,_,_,_,H1,rfl,I2,turn_zm (tp:=true) (tq:=false) (a:=l) (b:=m) (z:=s1.heap.objs.size + 4) (TI:=s1.heap.objs.size + 2) (TO:=s1.heap.objs.size + 3) (i1:=s1.heap.objs.size) (i2:=s1.heap.objs.size + 1) ?_,⟨a1,a2,⟨_,_,a3⟩,a4,a5⟩,fun b hb=>?_,q⟩
 · simp
 · have hb' : s1.heap.objs.size ≤ b:=by
    simp only [List.mem_cons,List.not_mem_nil,or_false] at hb
    rcases hb with rfl | rfl | rfl | rfl | rfl
    · exact Nat.le_add_right _ _
    · exact Nat.le_add_right _ _
    · exact Nat.le_add_right _ _
    · exact Nat.le_refl _
    · exact Nat.le_add_right _ _
   exact I1.fpOk hb' (I1.hok.fresh hb')
end
end L2
namespace L2
open PySem PySem.Spec PyProof.Rows
def isNon : Value → Bool
 | .none=>true
 | _=>false
theorem isNon_shape {v : Value} (h : isNon v = true) : v = .none:=by cases v <;> first | rfl | cases h
theorem pyHash_non {prog : Program} {w : World} {A : Around} {E : Value → Shared → Prop} {s : Shared} {Q : Int → Shared → Prop} (h : Q 4238894112 { s with toks:=s.toks + 1 }) : wpAny (model prog w) A (pyHash .none) Q E s:=by
 unfold pyHash
 have hv : [Value.none].any Value.onHeap = false:=rfl
 have hT : s.TypeIs .none "NoneType":=rfl
 refine wpAny_bind ?_
 rw [cRoomFor,if_neg (by rw [hv]; exact Bool.false_ne_true)]; refine wpAny_pure ?_
 refine wpAny_bind (wpAny_specialOf hT F.slot_NoneType_hash.lookup ?_)
 show wpAny _ _ (if (some (Value.builtin "NoneType.__hash__") == some Value.none) = true then _ else _) Q E s
 rw [if_neg (by rw [PySem.beq_builtin_none]; exact Bool.false_ne_true)]
 refine wpAny_bind (wpAny_specialOf hT F.slot_NoneType_hash.lookup ?_)
 show wpAny _ _ (callSpecialIfBoundUnlessNone? .none "__hash__" _ >>= _) Q E s
 refine wpAny_bind (wpAny_callSpecialIfBoundUnlessNone?_slot hT F.slot_NoneType_hash
  (wpAny_call_entry F.slot_NoneType_hash hT F.entry_NoneType_hash
   (show wpAny _ _ (do ret (← mkInt 4238894112)) _ _ s from wpAny_ret_mkInt ?_) (F.args_NoneType_hash_1 _)))
 show wpAny _ _ (if (decide (-(2 : Int) ^ 63 ≤ 4238894112) && decide ((4238894112 : Int) < 2 ^ 63)) = true then _ else _) Q E _
 rw [if_pos (by decide)]
 exact wpAny_pure h
def nonIs : Option Key → Value → Bool
 | some k,v=>keyIs k v
 | none,v=>isNon v
theorem keyIs_non {k : Key} : keyIs k .none = false:=by cases k <;> rfl
def nonKind (prog : Program) (w : World) : PySem.KeyKind prog w (Option Key) where
 is:=nonIs
 hash:=fun k=>match k with | some k=>keyH w k | none=>4238894112
 inj:=fun v a b ha hb=>by
  cases a with
  | none =>
   have e:=isNon_shape ha
   subst e
   cases b with
   | none=>rfl
   | some k=>rw [show nonIs (some k) .none = false from keyIs_non] at hb; cases hb
  | some k =>
   cases b with
   | none =>
    have e:=isNon_shape hb
    subst e
    rw [show nonIs (some k) .none = false from keyIs_non] at ha
    cases ha
   | some k'=>exact congrArg some ((mixKind prog w).inj v k k' ha hb)
 byValue:=fun k v h=>by
  cases k with
  | none=>rw [isNon_shape h]; rfl
  | some k=>exact (mixKind prog w).byValue k v h
 pyHash:=fun {A E s k v Q} hv h=>by
  cases k with
  | none=>rw [isNon_shape hv]; exact pyHash_non h
  | some k=>exact (mixKind prog w).pyHash hv h
 eqBool:=fun {A E s a b u v Q} hu hv h=>by
  cases a with
  | none =>
   have e:=isNon_shape hu
   subst e
   cases b with
   | none =>
    have e:=isNon_shape hv
    subst e
    rw [decide_eq_true rfl] at h
    unfold eqBool
    refine wpAny_holding ?_
    refine wpAny_ite_split (fun _=>?_) (fun hab=>absurd (by rfl) hab)
    exact wpAny_bind (wpAny_rule (wpAny_pure h))
   | some k =>
    rw [decide_eq_false (fun z=>nomatch z)] at h
    rcases keyIs_shape hv with ⟨i,t,rfl,rfl⟩ | ⟨x,t,rfl,rfl⟩
    · exact SeqAt.EqAt.none_int i t _ _ _ _ h
    · exact SeqAt.EqAt.none_str x t _ _ _ _ h
  | some k =>
   cases b with
   | none =>
    have e:=isNon_shape hv
    subst e
    rw [decide_eq_false (fun z=>nomatch z)] at h
    rcases keyIs_shape hu with ⟨i,t,rfl,rfl⟩ | ⟨x,t,rfl,rfl⟩
    · exact SeqAt.EqAt.int_none i t _ _ _ _ h
    · exact SeqAt.EqAt.str_none x t _ _ _ _ h
   | some k' =>
    refine (mixKind prog w).eqBool hu hv ?_
    have e : decide (k = k') = decide ((some k : Option Key) = some k'):=by
     by_cases z : k = k'
     · subst z; simp
     · rw [decide_eq_false z,decide_eq_false (fun q=>z (Option.some.inj q))]
    rw [e]
    exact h
 «strs»:=fun k x t v h=>by
  cases k with
  | none=>exact absurd (show isNon (Value.str x t) = true from h) Bool.false_ne_true
  | some k=>exact (mixKind prog w).strs k x t v h
theorem non_pairs {P : Program} {w : World} : ∀ {es : List DictEntry} {vs : List (Key × Value)},Pairs (mixKind P w) es vs → Pairs (nonKind P w) es (vs.map fun kv=>(some kv.1,kv.2))
 | _,_,.nil=>.nil
 | _,_,.cons h1 h2 t=>.cons h1 h2 (non_pairs t)
theorem non_dict {P : Program} {w : World} {h : Heap} {a : Addr} {vs : List (Key × Value)} (d : h.DictOf (mixKind P w) a vs) : h.DictOf (nonKind P w) a (vs.map fun kv=>(some kv.1,kv.2)):=by
 obtain ⟨o,es,ep,ho,hc,hd,hk,hp,hn⟩:=d
 refine ⟨o,es,ep,ho,hc,hd,fun e he=>?_,non_pairs hp,?_⟩
 · obtain ⟨k,h1,h2⟩:=hk e he
   exact ⟨some k,h1,h2⟩
 · rw [List.map_map]
   have : ((fun x : Option Key × Value=>x.1) ∘ fun kv : Key × Value=>(some kv.1,kv.2)) = some ∘ (fun kv : Key × Value=>kv.1):=rfl
   rw [this,← List.map_map]
   exact nodup_some hn
where nodup_some : ∀ {l : List Key},l.Nodup → (l.map some).Nodup
 | [],_=>List.nodup_nil
 | x :: r,h=>by
  rw [List.nodup_cons] at h
  rw [List.map_cons,List.nodup_cons]
  exact ⟨fun m=>by simp at m; exact h.1 m,nodup_some h.2⟩
theorem non_at (vs : List (Key × Value)) : valueAt (vs.map fun kv=>((some kv.1 : Option Key),kv.2)) none = none:=by
 unfold valueAt
 rw [List.find?_eq_none.mpr]
 · rfl
 · intro x hx
   obtain ⟨kv,_,rfl⟩:=List.mem_map.mp hx
   simp
section
variable {X : Cx} {pins : List (Addr × Obj)} {σ : St} {H : Hp} {s : Shared} {a : Addr} {r : Value} {d : V} {A : Around} {E : Value → Shared → Prop}
theorem d_getN {Q : Value → Shared → Prop} {kvs : List (Key × V)} (I : Inv X pins σ H s) (g : Rd H a (.dK kvs)) (rd : RelV d r) (h : ∀ w' s',Inv X pins σ H s' → RelV d w' → Q w' s') :
 wpAny (model X.prog X.w) A (call (.builtin "dict.get") [.ref a,.none,r]) Q E s:=by
 obtain ⟨z,hd,vs,rel,dd⟩:=dk_rd I.hok g
 refine call_meetsIn PySem.F.slot_dict_get dd.typeIs PySem.F.entry_dict_get (PySem.F.args_dict_get_3 _ _ _) (meets_dict_get_default (nonKind X.prog X.w) a (k:=none) (by rfl) hd r) ⟨_,(non_dict dd).mapOf,h _ _ (I.tok _) ?_⟩
 rw [non_at]
 exact rd
end
def tDGetN (td ty tx : TE) : TE:=fun σ H Q=>td σ H fun x H1=>∃ a,x = .ref a ∧ IsD H1 a ∧ ty σ H1 fun y H2=>tx σ H2 fun z H3=>(∃ o,DGet H3 a y o ∧ Q (o.getD z) H3) ∨ (y = .non ∧ (∃ kvs,Rd H3 a (.dK kvs)) ∧ Q z H3)
section
variable {X : Cx} {o e f : Expr} {apos cpos : Pos} {td ty tx : TE}
theorem pe_dgetN (hu : X.A.units + 1 < cLine) (ho : PE X o td) (he : PE X e ty) (hf : PE X f tx) (m : M2 X o "get" apos e f cpos) : PE X (.Call (.Attribute o "get" apos) [e,f] [] cpos) (tDGetN td ty tx):=by
 intro pins s σ H Q I h
 refine wpAny_Call_method m.base m.few m.line PySem.F.plainAttrs_dict PySem.F.slot_dict_get PySem.F.type_dict_get (thn (ho pins s σ H _ I h) fun u s1 ⟨x,H1,I1,rx,a,ex,d,q1⟩=>?_)
 subst ex
 obtain rfl : u = Value.ref a:=rx
 obtain ⟨t1,t2,_⟩:=isD_at I1 d
 refine ⟨t1,t2,?_⟩
 rw [m.trees]
 refine Calls.callWith_builtin rfl (Calls.evalArgs_plain (Calls.spliced_cons (thn (he pins s1 σ H1 _ I1 q1) fun iv s2 ⟨y,H2,I2,ry,q2⟩ =>
  Calls.spliced_cons (thn (hf pins s2 σ H2 _ I2 q2) fun fv s3 ⟨z,H3,I3,rz,q3⟩=>Calls.spliced_nil ?_))))
 rcases q3 with ⟨ov,g,q3⟩ | ⟨rfl,⟨kvs,g⟩,q3⟩
 · exact d_get2 hu I3 g ry rz fun w' s4 I4 rw'=>⟨_,H3,I4,rw',q3⟩
 · cases (show iv = Value.none from ry)
   exact d_getN I3 g rz fun w' s4 I4 rw'=>⟨_,H3,I4,rw',q3⟩
end
end L2
namespace PySem
open PySem.Spec PyProof.Rows
section
variable {prog : Program} {w : World} {A : Around} {E : Value → Shared → Prop} {s : Shared} {z TI TO i1 i2 : Addr} {m1 m2 : List Addr} {n1 n2 : Nat} {P1 P2 : Nat → Value → Prop} {st1 st2 : Nat → Heap → Prop}
end
end PySem
namespace PySem
open PySem.Spec PyProof.Rows
section
variable {prog : Program} {w : World} {K : Type} [DecidableEq K] {knd : KeyKind prog w K} {A : Around} {E : Value → Shared → Prop} {s : Shared}
end
namespace F
end F
end PySem
namespace PySem
open PySem.Spec PyProof.Rows
section
variable {prog : Program} {w : World} {K : Type} [DecidableEq K] {knd : KeyKind prog w K} {A : Around} {R : Result → Shared → Prop} {z TI TO i1 i2 : Addr} {m1 m2 : List Addr} {n1 n2 : Nat} {P1 P2 : Nat → Value → Prop} {st1 st2 : Nat → Heap → Prop}
end
section
variable {prog : Program} {w : World} {K : Type} [DecidableEq K] {knd : KeyKind prog w K} {A : Around} {E : Value → Shared → Prop} {s : Shared} {z TI TO i1 i2 : Addr} {m1 m2 : List Addr} {n1 n2 : Nat} {P1 P2 : Nat → Value → Prop} {st1 st2 : Nat → Heap → Prop}
end
end PySem
namespace PySem
open PySem.Spec PyProof.Rows
abbrev dzH1 (h : Heap) (o : Obj) : Heap:=h.push o
abbrev dzH2 (h : Heap) (o : Obj) (l2 : Addr) : Heap:=(dzH1 h o).push { cls:=.type "tuple_iterator",data:=.fields #[.ref l2,.int 0 0] }
abbrev dzH3 (h : Heap) (o : Obj) (l2 : Addr) : Heap:=(dzH2 h o l2).push { cls:=.type "tuple",data:=.seq #[.ref h.objs.size,.ref (dzH1 h o).objs.size] }
abbrev dzH4 (h : Heap) (o : Obj) (l2 : Addr) : Heap:=(dzH3 h o l2).push { cls:=.type "tuple",data:=.seq #[.none,.none] }
abbrev dzH5 (h : Heap) (o : Obj) (l2 : Addr) : Heap:=(dzH4 h o l2).push { cls:=.type "zip",data:=.fields #[.none,.bool false,.bool false,.ref (dzH2 h o l2).objs.size,.ref (dzH3 h o l2).objs.size] }
abbrev oList (l : Addr) : Obj:={ cls:=.type "list_iterator",data:=.fields #[.ref l,.int 0 0] }
theorem dz_meets_l (l1 l2 : Addr) (xs ys : Array Value) :
 Meets (Builtin.«zip.__new__» ⟨[.type "zip",.ref l1,.ref l2],[]⟩) (fun _ R s=>s.heap.IsList l1 xs ∧ s.heap.IsTuple l2 ys ∧ R (.ok (.ret (.ref (dzH4 s.heap (oList l1) l2).objs.size))) { s with heap:=dzH5 s.heap (oList l1) l2 }) :=
 .of_wp fun prog w A R s h=>by
  obtain ⟨hp,g,d,tk,os⟩:=s; obtain ⟨hl1,hl2,h⟩:=h
  have hsub:=sub_zip
  have hL1 : Heap.IsList (Shared.heap ⟨hp,g,d,tk,os⟩) l1 xs:=hl1
  have hL2 : Heap.IsTuple (Shared.heap ⟨hp.push { cls:=.type "list_iterator",data:=.fields #[.ref l1,.int 0 0] },g,d,tk,os⟩) l2 ys:=Heap.IsTuple.push hl2 _
  wp_walk using wpAny_pyIter_list hL1,wpAny_pyIter_tuple hL2
  exact ⟨_,rfl,h⟩
section
variable {prog : Program} {w : World} {A : Around} {E : Value → Shared → Prop} {s : Shared}
theorem dz_laid (h : Heap) (o : Obj) (l2 : Addr) (hg : (dzH1 h o).get? h.objs.size = some o) : IsZip (dzH5 h o l2) (h.objs.size + 4) (h.objs.size + 2) (h.objs.size + 3) .none ∧ IsPair (dzH5 h o l2) (h.objs.size + 2) (.ref h.objs.size) (.ref (h.objs.size + 1)) ∧ IsPair (dzH5 h o l2) (h.objs.size + 3) .none .none ∧
 (dzH5 h o l2).get? h.objs.size = some o ∧ (dzH5 h o l2).IsTupleIter (h.objs.size + 1) l2 0 ∧ (∀ c q,h.get? c = some q → (dzH5 h o l2).get? c = some q) ∧ (dzH4 h o l2).objs.size = h.objs.size + 4:=by
 have z1 : (dzH1 h o).objs.size = h.objs.size + 1:=Heap.size_push ..
 have z2 : (dzH2 h o l2).objs.size = h.objs.size + 2:=by rw [Heap.size_push,z1]
 have z3 : (dzH3 h o l2).objs.size = h.objs.size + 3:=by rw [Heap.size_push,z2]
 have z4 : (dzH4 h o l2).objs.size = h.objs.size + 4:=by rw [Heap.size_push,z3]
 have g5 : (dzH5 h o l2).get? (dzH4 h o l2).objs.size = some _:=Heap.get?_push_size _ rfl
 have g4 : (dzH5 h o l2).get? (dzH3 h o l2).objs.size = some _:=Heap.get?_push_of_some _ (Heap.get?_push_size _ rfl)
 have g3 : (dzH5 h o l2).get? (dzH2 h o l2).objs.size = some _:=Heap.get?_push_of_some _ (Heap.get?_push_of_some _ (Heap.get?_push_size _ rfl))
 have g2 : (dzH5 h o l2).get? (dzH1 h o).objs.size = some _:=Heap.get?_push_of_some _ (Heap.get?_push_of_some _ (Heap.get?_push_of_some _ (Heap.get?_push_size _ rfl)))
 have g1 : (dzH5 h o l2).get? h.objs.size = some _:=Heap.get?_push_of_some _ (Heap.get?_push_of_some _ (Heap.get?_push_of_some _ (Heap.get?_push_of_some _ hg)))
 rw [z2,z3,z4] at g5
 rw [z1,z2] at g3
 rw [z3] at g4
 rw [z1] at g2
 exact ⟨g5,g3,g4,g1,⟨_,g2,rfl,rfl⟩,fun c q x=>Heap.get?_push_of_some _ (Heap.get?_push_of_some _ (Heap.get?_push_of_some _ (Heap.get?_push_of_some _ (Heap.get?_push_of_some _ x)))),z4⟩
end
end PySem
namespace L2
open PySem PySem.Spec PyProof.Rows
section
variable {X : Cx} {pins : List (Addr × Obj)} {σ : St} {H : Hp} {s : Shared} {h' : Heap}
end
section
variable {X : Cx}
end
end L2
namespace L2
open PySem PySem.Spec PyProof.Rows
section
variable {X : Cx}
def iZipL (K : PySem.W.Frag) (ta : TA) : TI:=fun σ H R=>ta σ H fun vs H1=>∃ a b,vs = [.ref a,.ref b] ∧ (∃ xs,SqL K H1 a xs) ∧ (∃ ys,SqT K H1 b ys) ∧ R (Itm K false true a b) H1
theorem pi_zipL {es : List Expr} {kk : Nat} {pp : Pos} {a b : Expr} {ta : TA} {p pos : Pos} (hg : Gl X "zip") (hm : X.mg "zip" = none) (ha : PA X [a,b] ta) (hs : starEach [a,b] X.env = (false,eval a X.env) :: starEach [b] X.env:=by rfl) (hp : (backTo pos (starEach [b] X.env)).any (·.1) = false:=by rfl) :
 PI X (.Tuple es kk pp) (.Call (.Name "zip" p) [a,b] [] pos) (iZipL X.K ta):=by
 intro pins s σ H R I h
 refine Call_ (ld_blt I hg hm boot_zip (PyProof.Rows.callWith_type1 (thn (ha pos pins s σ H _ I h) fun us s1 ⟨vs,H1,I1,r1,q1⟩=>?_) hs hp))
 obtain ⟨l,m,e,⟨xs,hx⟩,⟨ys,hy⟩,q⟩:=q1
 subst e
 obtain ⟨u,v,rfl,ru,rv⟩:=vals2 r1
 cases (show u = Value.ref l from ru)
 cases (show v = Value.ref m from rv)
 obtain ⟨its,_,p1,_⟩:=I1.zk (tp:=false) hx
 obtain ⟨its',_,p2,_⟩:=I1.zk (tp:=true) hy
 refine callType_new F.called_zip (by decide) (F.typeCall_zip_2 _ _) (F.newCall_zip_2 _ _) (fun obj=>F.args_object_init_3 obj _ _) F.entry_zip_new (dz_meets_l l m its.toArray its'.toArray) ⟨p1,p2,?_⟩
 have hg' : (dzH1 s1.heap (oList l)).get? s1.heap.objs.size = some (oList l):=Heap.get?_push_size _ rfl
 obtain ⟨a1,a2,a3,a4,a5,kk',g6⟩:=dz_laid s1.heap (oList l) m hg'
 show _ ∧ _
 rw [g6]
 refine ⟨⟨_,a1,rfl⟩,?_⟩
 refine wpAny_pyIter_zip a1 ?_
 have I2 : Inv X pins σ H1 { s1 with heap:=dzH5 s1.heap (oList l) m }:=I1.kept (t':=s1.toks) kk'
 refine ⟨_,_,_,_,H1,rfl,I2,turn_zm (tp:=false) (tq:=true) (a:=l) (b:=m) (z:=s1.heap.objs.size + 4) (TI:=s1.heap.objs.size + 2) (TO:=s1.heap.objs.size + 3) (i1:=s1.heap.objs.size) (i2:=s1.heap.objs.size + 1) ?_,⟨a1,a2,⟨_,_,a3⟩,⟨_,a4,rfl,rfl⟩,a5⟩,fun b hb=>?_,q⟩
 · simp
 · have hb' : s1.heap.objs.size ≤ b:=by
    simp only [List.mem_cons,List.not_mem_nil,or_false] at hb
    rcases hb with rfl | rfl | rfl | rfl | rfl
    · exact Nat.le_add_right _ _
    · exact Nat.le_add_right _ _
    · exact Nat.le_add_right _ _
    · exact Nat.le_refl _
    · exact Nat.le_add_right _ _
   exact I1.fpOk hb' (I1.hok.fresh hb')
end
end L2
namespace L2
open PySem PySem.Spec PyProof.Rows
section
variable {X : Cx}
def rNeT (K : PySem.W.Frag) : R2:=fun x y H Q=>∃ p p' xs,x = .ref p ∧ y = .ref p' ∧ SqT K H p xs ∧ SqT K H p' xs ∧ xs.all flatV = true ∧ (∀ z ∈ xs,eqV z z = true) ∧ Q (.bl false) H
theorem op_neT (hu : X.A.units + 1 < cLine) : OpR X (compareOp .NotEq) (rNeT X.K):=by
 intro pins s σ H x y v u Q I rx ry h
 obtain ⟨p,p',xs,rfl,rfl,h1,h2,hf,hs,q⟩:=h
 cases (show v = Value.ref p from rx)
 cases (show u = Value.ref p' from ry)
 obtain ⟨its,rv,pl,hz⟩:=I.tuple h1
 obtain ⟨its',rv',pl',hz'⟩:=I.tuple h2
 have l1:=rv.length
 have l2:=rv'.length
 have key:=SeqAt.RcNeAt.tuples (A:=X.A) (s:=s) (e:=fun _=>true) pl pl' (by omega) (fun j g1 g2=>?_) X.prog X.w X.xe
 · exact key _ (by
    have e : (!((List.range (min its.toArray.size its'.toArray.size)).all (fun _=>true) && its.toArray.size == its'.toArray.size)) = false:=by
     have : its.length = its'.length:=by omega
     simp [this]
    rw [e]
    exact ⟨.bl false,H,I,rfl,q⟩)
 · have hj : j < xs.length:=by simp only [List.size_toArray] at g1; omega
   obtain ⟨w1,e1,r1⟩:=rv.get (List.getElem?_eq_getElem hj)
   obtain ⟨w2,e2,r2⟩:=rv'.get (List.getElem?_eq_getElem hj)
   have fl : flatV xs[j] = true:=List.all_eq_true.mp hf _ (List.getElem_mem hj)
   have z:=eqAt_V (A:=X.A.in1) (s:=s) r1 r2 fl fl
   rw [hs _ (List.getElem_mem hj)] at z
   have a1 : its.toArray[j] = w1:=by
    have:=(List.getElem?_eq_some_iff.mp e1).2
    simpa using this
   have a2 : its'.toArray[j] = w2:=by
    have:=(List.getElem?_eq_some_iff.mp e2).2
    simpa using this
   rw [a1,a2]
   exact z
theorem flat_ints (ns : List Int) : (ns.map V.int).all flatV = true:=by
 rw [List.all_eq_true]
 intro z hz
 obtain ⟨n,_,rfl⟩:=List.mem_map.mp hz
 rfl
theorem self_ints (ns : List Int) : ∀ z ∈ ns.map V.int,eqV z z = true:=by
 intro z hz
 obtain ⟨n,_,rfl⟩:=List.mem_map.mp hz
 simp [eqV]
def iZipS (K : PySem.W.Frag) (ta : TA) : TI:=fun σ H R=>ta σ H fun vs H1=>∃ a b,vs = [.ref a,.ref b] ∧ (∃ xs,SqL K H1 a xs) ∧ (∃ ys,SqL K H1 b ys) ∧ R (Itm K false false a b) H1
theorem pi_zipS {es : List Expr} {kk : Nat} {pp : Pos} {a b : Expr} {ta : TA} {p pos : Pos} (hg : Gl X "zip") (hm : X.mg "zip" = none) (ha : PA X [a,b] ta) (hs : starEach [a,b] X.env = (false,eval a X.env) :: starEach [b] X.env:=by rfl) (hp : (backTo pos (starEach [b] X.env)).any (·.1) = false:=by rfl) :
 PI X (.Tuple es kk pp) (.Call (.Name "zip" p) [a,b] [] pos) (iZipS X.K ta):=by
 intro pins s σ H R I h
 refine Call_ (ld_blt I hg hm boot_zip (PyProof.Rows.callWith_type1 (thn (ha pos pins s σ H _ I h) fun us s1 zq=>?_) hs hp))
 obtain ⟨vs,H1,I1,r1,l,m,e,⟨xs,hx⟩,⟨ys,hy⟩,q⟩:=zq
 subst e
 obtain ⟨u,v,rfl,ru,rv⟩:=vals2 r1
 cases (show u = Value.ref l from ru)
 cases (show v = Value.ref m from rv)
 obtain ⟨its,_,p1,_⟩:=I1.zk (tp:=false) hx
 obtain ⟨its',_,p2,_⟩:=I1.zk (tp:=false) hy
 refine zz_call p1 p2 fun h' a1 a2 a3 a4 a5 kk=>?_
 refine wpAny_pyIter_zip a1 ?_
 have I2 : Inv X pins σ H1 { s1 with heap:=h' }:=I1.kept (t':=s1.toks) kk
 refine ⟨_,_,_,_,H1,rfl,I2,turn_zm (tp:=false) (tq:=false) (a:=l) (b:=m) (z:=s1.heap.objs.size + 4) (TI:=s1.heap.objs.size + 2) (TO:=s1.heap.objs.size + 3) (i1:=s1.heap.objs.size) (i2:=s1.heap.objs.size + 1) ?_,⟨a1,a2,⟨_,_,a3⟩,a4,a5⟩,fun b hb=>?_,q⟩
 · simp
 · have hb' : s1.heap.objs.size ≤ b:=by
    simp only [List.mem_cons,List.not_mem_nil,or_false] at hb
    rcases hb with rfl | rfl | rfl | rfl | rfl
    · exact Nat.le_add_right _ _
    · exact Nat.le_add_right _ _
    · exact Nat.le_add_right _ _
    · exact Nat.le_refl _
    · exact Nat.le_add_right _ _
   exact I1.fpOk hb' (I1.hok.fresh hb')
end
end L2
namespace L2
open PySem PySem.Spec PyProof.Rows
section
variable {X : Cx}
theorem vals_kv {P : Program} {w : World} : ∀ {kvs : List (Key × V)} {vs : List (Key × Value)} {us : List Value},KV kvs vs → us.length = vs.length → (∀ (j : Nat) v,us[j]? = some v → ∃ k,vs[j]? = some (k,v)) → Vals (kvs.map fun kv=>kv.2) us
 | _,_,us,.nil,hl,_=>by
  have : us = []:=List.length_eq_zero_iff.mp hl
  subst this
  exact .nil
 | _,_,[],.cons _ _,hl,_=>by simp at hl
 | _,_,u :: us,.cons (a:=a) (b:=b) hab t,hl,hu=>by
  obtain ⟨k,e⟩:=hu 0 u rfl
  simp at e
  refine .cons (by rw [show u = b.2 by rw [e]]; exact hab.2) (vals_kv (P:=P) (w:=w) t (by simpa using hl) fun j v hj=>?_)
  obtain ⟨k',e'⟩:=hu (j + 1) v (by simpa using hj)
  exact ⟨k',by simpa using e'⟩
def tLVals (to : TE) : TE:=fun σ H Q=>to σ H fun x H1=>∃ d kvs,x = .ref d ∧ Rd H1 d (.dK kvs) ∧ ∀ l,H1 l = none → Q (.ref l) (upd H1 l (.lst (kvs.map fun kv=>kv.2)))
theorem pe_lvals {o : Expr} {to : TE} {p1 apos cpos pos : Pos} (hc : X.calm = true) (hgL : Gl X "list") (hmL : X.mg "list" = none) (ho : PE X o to)
 (hs : starEach [Expr.Call (.Attribute o "values" apos) [] [] cpos] X.env = (false,eval (Expr.Call (.Attribute o "values" apos) [] [] cpos) X.env) :: starEach [] X.env:=by rfl) (hpl : (backTo pos (starEach [] X.env)).any (·.1) = false:=by rfl)
 (hbase : attributeBase o "values" X.env (eval o X.env) = eval o X.env:=by rfl) (hline : (apos.endLine == cpos.line) = true:=by rfl) :
 PE X (.Call (.Name "list" p1) [.Call (.Attribute o "values" apos) [] [] cpos] [] pos) (tLVals to):=by
 intro pins s σ H Q I h
 refine wpAny_Call_Name_kw (ld_blt I hgL hmL PyProof.Rows.boot_list ?_ (by decide) (by decide))
 refine PyProof.Rows.callWith_type1 ?_ hs hpl
 rw [hs]
 show wpAny _ _ (spliced ((false,eval _ X.env) :: backTo pos (starEach [] X.env))) _ _ s
 refine Calls.spliced_cons ?_
 refine wpAny_Call_method0_late hbase hline (thn (ho pins s σ H _ I h) fun v s1 ⟨x,H1,I1,r1,q1⟩=>?_)
 obtain ⟨d,kvs,rfl,hd,q⟩:=q1
 cases (show v = Value.ref d from r1)
 obtain ⟨z,hs0,vs,rel,dd⟩:=dk_rd I1.hok hd
 obtain ⟨ep,da⟩:=id dd.dictAt
 have hlen : kvs.length = vs.length:=rel.length
 refine ⟨"dict", "dict.values",PySem.F.plainAttrs_dict,PySem.F.slot_dict_values,PySem.F.type_dict_values,dd.typeIs,fun a e=>?_,Calls.callWith_builtin rfl (PySem.evalArgs_none ?_)⟩
 · cases e
   obtain ⟨o',es,ho',ex,_⟩:=da
   exact ⟨o',ho',ex.2.1⟩
 refine call_meetsIn PySem.F.slot_dict_values dd.typeIs PySem.F.entry_dict_values (PySem.F.args_dict_values_1 _) (meets_dict_values (mixKind X.prog X.w) d hs0) ⟨⟨vs,dd⟩,?_⟩
 refine Calls.spliced_nil ?_
 have I2 : Inv X pins σ H1 { s1 with heap:=s1.heap.push { cls:=.type "dict_values",data:=.fields #[.ref d] } }:=I1.kept (t':=s1.toks) fun b u e=>Heap.get?_push_of_some _ e
 refine PySem.W.kdl_call (PySem.W.kdl_values (knd:=mixKind X.prog X.w) (d:=d) (ep:=ep) (kvs:=vs)) (I1.ok.hd hc) ⟨⟨_,Heap.get?_push_size _ rfl,rfl,rfl⟩,da.push _⟩ (by omega) fun h' tk acc' c' kk e it=>?_
 obtain ⟨i1,i2⟩:=it
 have rv : Vals (kvs.map fun kv=>kv.2) acc'.toList:=vals_kv (P:=X.prog) (w:=X.w) rel (by rw [Array.length_toList,i1]) fun j v hj=>i2 j v (by rw [← Array.getElem?_toList]; exact hj)
 exact ⟨.ref _,_,I2.laid (t':=tk) kk (Nat.le_refl _) (show ObjOk X.prog X.w _ h' _ (.lst (kvs.map fun kv=>kv.2)) from ⟨by rw [List.length_map]; exact z,acc'.toList,c',rv,by simpa using e⟩),rfl,q _ (I2.hok.fresh (Nat.le_refl _))⟩
theorem all_at (bs : List Bool) : ((List.range bs.length).all fun i=>(bs[i]?).getD false) = bs.all _root_.id:=by
 rw [Bool.eq_iff_iff,List.all_eq_true,List.all_eq_true]
 constructor
 · intro h b hb
   obtain ⟨i,hi,e⟩:=List.getElem_of_mem hb
   have:=h i (List.mem_range.mpr hi)
   rw [List.getElem?_eq_getElem hi,e] at this
   exact this
 · intro h i hi
   have hi':=List.mem_range.mp hi
   rw [List.getElem?_eq_getElem hi']
   exact h _ (List.getElem_mem hi')
theorem call_all_bools (hc : X.calm = true) : CallR X (.builtin "all") (fun xs H Q=>∃ (p : Addr) (bs : List Bool),xs = [.ref p] ∧ SqL X.K H p (bs.map V.bl) ∧ Q (.bl (bs.all _root_.id)) H):=by
 intro pins s σ H xs us Q I r h
 obtain ⟨p,bs,rfl,hp,q⟩:=h
 obtain ⟨u,rfl,rx⟩:=vals1 r
 cases (show u = Value.ref p from rx)
 obtain ⟨its,rv,pl,hz⟩:=I.list hp
 have hl:=pl.isList
 have hlen : bs.length = its.length:=by
  have:=rv.length
  rw [List.length_map] at this
  exact this
 have hlt : p < s.heap.objs.size:=by obtain ⟨_,e,_⟩:=hl; exact Heap.lt_size e
 refine call_all_walk (wpAny_pyIter_list hl ?_)
 refine ⟨s.heap.objs.size,[s.heap.objs.size,p],[s.heap.objs.size],its.toArray.size,_,_,fun i=>(bs[i]?).getD false,rfl,Walks.list (A:=X.A.in1) (by show X.A.in1.handled = none; exact I.ok.hd hc) _ p (Nat.ne_of_lt hlt) its.toArray,
  ⟨⟨_,Heap.get?_push_size _ rfl,rfl,rfl⟩,hl.push _⟩,fun i v s' Q' E' hP hQ=>?_,fun h' tk hk=>?_⟩
 · have hi : its[i]? = some v:=by simpa using hP
   have hlt2 : i < bs.length:=by
    have:=(List.getElem?_eq_some_iff.mp hi).1
    omega
   obtain ⟨w',e1,e2⟩:=rv.get (x:=.bl bs[i]) (by rw [List.getElem?_map,List.getElem?_eq_getElem hlt2]; rfl)
   rw [hi] at e1
   cases e1
   cases (show v = Value.bool bs[i] from e2)
   simp only [List.getElem?_eq_getElem hlt2,Option.getD_some] at hQ
   exact wpAny_truthy_bool hQ
 · have e : ((List.range its.toArray.size).all fun i=>(bs[i]?).getD false) = bs.all _root_.id:=by
    rw [List.size_toArray,← hlen]
    exact all_at bs
   rw [e]
   exact ⟨.bl _,H,I.kept (t':=tk) (fun b o eb=>hk b o (fun hm=>by rw [List.mem_singleton.mp hm] at eb; exact Nat.lt_irrefl _ (Heap.lt_size eb)) (Heap.get?_push_of_some _ eb)),rfl,q⟩
end
end L2
namespace L2
open PySem PySem.Spec PyProof.Rows
def rev : Nat → Nat → Nat
 | 0,_=>0
 | k + 1,i=>(i % 2) * 2 ^ k + rev k (i / 2)
def cB (k i j : Nat) : Bool:=Nat.blt (rev k i) (rev k j)
def place (c : Nat → Nat → Bool) (p : Array Nat) (lo k : Nat) : Nat → Nat → Nat → Nat
 | 0,l,_=>l
 | f + 1,l,r=>if l ≥ r then l else if c (p.getD (lo + k) 0) (p.getD (lo + (l + r) / 2) 0) = true then place c p lo k f l ((l + r) / 2) else place c p lo k f ((l + r) / 2 + 1) r
def binF (c : Nat → Nat → Bool) (lo : Nat) : Nat → Nat → Array Nat → Array Nat
 | 0,_,p=>p
 | f + 1,k,p=>binF c lo f (k + 1) (bubble p (lo + k) (lo + k - (lo + place c p lo k k 0 k)))
theorem swaps_map {α β : Type} (f : α → β) (u v : Nat → Nat) : ∀ (l : List Nat) (xs : Array α),l.foldl (fun a k=>a.swapIfInBounds (u k) (v k)) (xs.map f) = (l.foldl (fun a k=>a.swapIfInBounds (u k) (v k)) xs).map f
 | [],_=>rfl
 | k :: l,xs=>by
  rw [List.foldl_cons,List.foldl_cons,PySem.W.kas_swap_map]
  exact swaps_map f u v l _
section
variable {prog : Program} {w : World} {A : Around} {E : Value → Shared → Prop} {s : Shared} {κ : SortKind} {it : Nat → Keyed} {N : Nat} {c : Nat → Nat → Bool} {p : Array Nat} {pd : Array (Nat × Nat × Nat)}
def Pcmp (prog : Program) (w : World) (A : Around) (s : Shared) (κ : SortKind) (it : Nat → Keyed) (N : Nat) (c : Nat → Nat → Bool) : Prop :=
 ∀ i j,i < N → j < N → ∀ (E : Value → Shared → Prop) (Q : Bool → Shared → Prop),Q (c i j) s → wpAny (model prog w) A (keyLt' κ (it i).1 (it j).1) Q E s
def pst (κ : SortKind) (it : Nat → Keyed) (p : Array Nat) (pd : Array (Nat × Nat × Nat)) : SortSt:=SortSt.mk' κ (p.map it) pd 7 none
def Bnd (N : Nat) (p : Array Nat) : Prop:=∀ i,i < p.size → p.getD i 0 < N
theorem p_lt (C : Pcmp prog w A s κ it N c) {st : SortSt} {i j : Nat} {Q : Option Bool → SortSt → Prop} (hk : kindOf st = κ) (hi : i < N) (hj : j < N) (h : Q (some (c i j)) st) : wpS (model prog w) A E s (lt' (it i) (it j)) Q st:=by
 rw [lt'_eq]
 refine wpS_bind (wpS_get ?_)
 rw [hk]
 refine wpS_bind (wpS_lift (wpAny_attempt (C i j hi hj _ _ ⟨rfl,?_⟩)))
 exact wpS_pure h
theorem p_elem {st : SortSt} {i : Nat} {Q : Keyed → SortSt → Prop} (hi : i < p.size) (h : Q (it (p.getD i 0)) st) : wpS (model prog w) A E s (elem' (p.map it) i) Q st:=by
 rw [elem'_eq]
 have e : (p.map it)[i]? = some (it (p.getD i 0)):=by simp [Array.getD,hi]
 rw [e]
 exact wpS_pure h
theorem p_at (C : Pcmp prog w A s κ it N c) {i j : Nat} {Q : Option Bool → SortSt → Prop} (B : Bnd N p) (hi : i < p.size) (hj : j < p.size) (h : Q (some (c (p.getD i 0) (p.getD j 0))) (pst κ it p pd)) : wpS (model prog w) A E s (ltAt' i j) Q (pst κ it p pd):=by
 rw [ltAt'_eq]
 refine wpS_bind (wpS_get (wpS_bind (p_elem hi (wpS_bind (p_elem hj ?_)))))
 exact p_lt C rfl (B i hi) (B j hj) h
theorem p_move {k l : Nat} {Q : Unit → SortSt → Prop} (h : Q () (pst κ it (bubble p k (k - l)) pd)) : wpS (model prog w) A E s (moveDown' k l) Q (pst κ it p pd):=by
 rw [moveDown'_eq]
 refine wpS_modify ?_
 have e : bubble (p.map it) k (k - l) = (bubble p k (k - l)).map it:=swaps_map it (fun i=>k - i) (fun i=>k - i - 1) _ p
 show Q () (SortSt.mk' κ (bubble (p.map it) k (k - l)) pd 7 none)
 rw [e]
 exact h
theorem Bnd.perm {q : Array Nat} (B : Bnd N p) (h : q.Perm p) : Bnd N q:=fun i hi=>by
 have hs : q.size = p.size:=h.size_eq
 have hm : q.getD i 0 ∈ p:=h.mem_iff.mp (by
  have : q.getD i 0 = q[i]:=by simp [Array.getD,hi]
  rw [this]
  exact Array.getElem_mem hi)
 obtain ⟨j,hj,e⟩:=Array.mem_iff_getElem.mp hm
 rw [← e]
 have : p.getD j 0 = p[j]:=by simp [Array.getD,hj]
 rw [← this]
 exact B j hj
theorem p_bin (C : Pcmp prog w A s κ it N c) {lo n ok : Nat} {Q : Bool → SortSt → Prop} (B : Bnd N p) (hz : lo + n ≤ p.size) (hok : 1 ≤ ok) (hn : ok ≤ n) (h : Q true (pst κ it (binF c lo (n - ok) ok p) pd)) : wpS (model prog w) A E s (binarySort' lo n ok) Q (pst κ it p pd):=by
 rw [binarySort'_eq]
 have hm : max ok 1 = ok:=by omega
 rw [hm]
 refine wpS_bind (wpS_mono (wpS_forRange (I:=fun k d st'=>d = (none,()) ∧ ∃ q : Array Nat,st' = pst κ it q pd ∧ q.Perm p ∧ binF c lo (n - k) k q = binF c lo (n - ok) ok p)
  (Q:=fun d st'=>d = (none,()) ∧ st' = pst κ it (binF c lo (n - ok) ok p) pd) ?step ?fin ⟨rfl,p,rfl,Array.Perm.refl _,rfl⟩) ?post)
 case post =>
  rintro d st' ⟨rfl,rfl⟩
  exact wpS_pure h
 case fin =>
  rintro d st' ⟨rfl,q,rfl,_,e⟩
  refine ⟨rfl,?_⟩
  rw [show n - max ok n = 0 by omega] at e
  rw [← e]
  rfl
 case step =>
  rintro k d st' hk hkn ⟨rfl,q,rfl,hq,e⟩
  have hs : q.size = p.size:=hq.size_eq
  have Bq:=B.perm hq
  refine wpS_bind (wpS_mono (wpS_forRange (I:=fun x d st''=>st'' = pst κ it q pd ∧ ∃ l r,d = (none,l,r) ∧ l ≤ r ∧ r ≤ k ∧ place c q lo k (k - x) l r = place c q lo k k 0 k)
   (Q:=fun d st''=>st'' = pst κ it q pd ∧ ∃ l r,d = (none,l,r) ∧ l = place c q lo k k 0 k) ?istep ?ifin ⟨rfl,0,k,rfl,by omega,by omega,rfl⟩) ?ipost)
  case ifin =>
   rintro d st'' ⟨rfl,l,r,rfl,h1,h2,e2⟩
   refine ⟨rfl,l,r,rfl,?_⟩
   rw [show k - max 0 k = 0 by omega] at e2
   exact e2
  case istep =>
   rintro x d st'' _ hx ⟨rfl,l,r,rfl,h1,h2,e2⟩
   obtain ⟨f,hf⟩ : ∃ f,k - x = f + 1:=⟨k - x - 1,by omega⟩
   have hf2 : k - (x + 1) = f:=by omega
   rw [hf,place] at e2
   dsimp only
   by_cases hge : l ≥ r
   · rw [if_pos hge] at e2 ⊢
     exact wpS_pure ⟨rfl,l,r,rfl,e2⟩
   · rw [if_neg hge] at e2 ⊢
     refine wpS_bind (p_at C Bq (by omega) (by omega) ?_)
     dsimp only
     cases hc : c (q.getD (lo + k) 0) (q.getD (lo + (l + r) / 2) 0) with
     | true =>
      rw [hc,if_pos rfl] at e2
      rw [if_pos rfl]
      exact wpS_pure ⟨rfl,l,(l + r) / 2,rfl,by omega,by omega,by rw [hf2]; exact e2⟩
     | false =>
      rw [hc,if_neg (by decide)] at e2
      rw [if_neg (by decide)]
      exact wpS_pure ⟨rfl,(l + r) / 2 + 1,r,rfl,by omega,by omega,by rw [hf2]; exact e2⟩
  case ipost =>
   rintro d st'' ⟨rfl,l,r,rfl,e2⟩
   refine wpS_bind (p_move (wpS_pure ⟨rfl,_,rfl,(bubble_perm _ _ _).trans hq,?_⟩))
   obtain ⟨f,hf⟩ : ∃ f,n - k = f + 1:=⟨n - k - 1,by omega⟩
   rw [hf,binF,← e2] at e
   rw [show n - (k + 1) = f by omega]
   exact e
theorem p_count2 (C : Pcmp prog w A s κ it N c) {lo n : Nat} {Q : Option Nat → SortSt → Prop} (B : Bnd N p) (hz : lo + n ≤ p.size) (hn : 3 ≤ n) (h1 : c (p.getD (lo + 1) 0) (p.getD lo 0) = false) (h2 : c (p.getD (lo + 2) 0) (p.getD (lo + 1) 0) = true) (h3 : c (p.getD lo 0) (p.getD (lo + 1) 0) = true)
 (h : Q (some 2) (pst κ it p pd)) : wpS (model prog w) A E s (countRun' lo n) Q (pst κ it p pd):=by
 rw [countRun'_eq]
 refine wpS_bind (wpS_mono (wpS_forRange (I:=fun x d st'=>st' = pst κ it p pd ∧ ((x = 1 ∧ d = (none,1)) ∨ (x = 2 ∧ d = (none,2))))
  (Q:=fun d st'=>st' = pst κ it p pd ∧ d = (none,2)) ?step ?fin ⟨rfl,.inl ⟨rfl,rfl⟩⟩) ?post)
 case fin =>
  rintro d st' ⟨rfl,⟨e,rfl⟩ | ⟨e,rfl⟩⟩
  · omega
  · exact ⟨rfl,rfl⟩
 case step =>
  rintro x d st' hx hxn ⟨rfl,⟨rfl,rfl⟩ | ⟨rfl,rfl⟩⟩
  · refine wpS_bind (p_at C B (by omega) (by omega) ?_)
    rw [show lo + 1 - 1 = lo by omega,h1]
    exact wpS_pure ⟨rfl,.inr ⟨rfl,rfl⟩⟩
  · refine wpS_bind (p_at C B (by omega) (by omega) ?_)
    rw [show lo + 2 - 1 = lo + 1 by omega,h2]
    exact wpS_pure ⟨rfl,rfl⟩
 case post =>
  rintro d st' ⟨rfl,rfl⟩
  dsimp only
  rw [if_neg (by simp; omega),if_pos (by omega)]
  refine wpS_bind (p_at C B (by omega) (by omega) ?_)
  rw [show lo + 2 - 1 = lo + 1 by omega,h3]
  exact wpS_pure h
end
end L2
namespace L2
open PySem PySem.Spec PyProof.Rows
section
variable {prog : Program} {w : World} {A : Around} {E : Value → Shared → Prop} {s : Shared} {κ : SortKind} {it : Nat → Keyed} {N : Nat} {c : Nat → Nat → Bool} {p : Array Nat} {pd : Array (Nat × Nat × Nat)}
def gallop' : Bool → Keyed → Array Keyed → Nat → Nat → Nat → StateT SortSt Sem (Option Nat):=sortPriv% PySem.Builtin.gallop
def mergeLo' : Array Keyed → Array Keyed → StateT SortSt Sem (Array Keyed):=sortPriv% PySem.Builtin.mergeLo
theorem gal_one (C : Pcmp prog w A s κ it N c) {kb n base : Nat} {Q : Option Nat → SortSt → Prop} {st : SortSt} (hk : kindOf st = κ) (B : Bnd N p) (hb : kb < N) (hn : 2 ≤ n) (hz : base + n ≤ p.size) (h1 : c kb (p.getD base 0) = false) (h2 : c kb (p.getD (base + 1) 0) = true) (h : Q (some 1) st) :
 wpS (model prog w) A E s (gallop' false (it kb) (p.map it) base n 0) Q st:=by
 refine wpS_bind (wpS_bind (p_elem (show base + 0 < p.size by omega) ?_))
 rw [if_neg (by decide)]
 refine wpS_bind (p_lt C hk hb (B _ (by omega)) ?_)
 rw [Nat.add_zero,h1]
 refine wpS_pure ?_
 show wpS _ _ _ _ (do
  let r ← _
  _) _ _
 refine wpS_bind (wpS_mono (wpS_forRange (I:=fun x d st'=>st' = st ∧ x = 0 ∧ d = (none,0,1)) (Q:=fun d st'=>st' = st ∧ d = (none,0,1)) ?step ?fin ⟨rfl,rfl,rfl⟩) ?post)
 case fin =>
  rintro d st' ⟨_,e,_⟩
  omega
 case step =>
  rintro x d st' _ hx ⟨rfl,rfl,rfl⟩
  dsimp only
  rw [if_neg (by omega)]
  refine wpS_bind (wpS_bind (p_elem (show base + (0 + 1) < p.size by omega) ?_))
  rw [if_neg (by decide)]
  refine wpS_bind (p_lt C hk hb (B _ (by omega)) ?_)
  rw [Nat.zero_add,h2]
  exact wpS_pure (wpS_pure ⟨rfl,rfl⟩)
 case post =>
  rintro d st' ⟨rfl,rfl⟩
  dsimp only
  refine wpS_bind (wpS_mono (wpS_forRange (I:=fun x d st''=>st'' = st' ∧ d = (none,1,1)) (Q:=fun d st''=>st'' = st' ∧ d = (none,1,1)) ?step2 (fun _ _ z=>z) ⟨rfl,?ini⟩) ?post2)
  case ini =>
   rw [Nat.min_eq_left (by omega)]
  case step2 =>
   rintro x d st'' _ hx ⟨rfl,rfl⟩
   dsimp only
   rw [if_pos (Nat.le_refl _)]
   exact wpS_pure ⟨rfl,rfl⟩
  case post2 =>
   rintro d st'' ⟨rfl,rfl⟩
   exact wpS_pure h
theorem gal_all (C : Pcmp prog w A s κ it N c) {ka n base : Nat} {Q : Option Nat → SortSt → Prop} {st : SortSt} (hk : kindOf st = κ) (B : Bnd N p) (hb : ka < N) (hn : 2 ≤ n) (hz : base + n ≤ p.size) (h1 : c (p.getD (base + (n - 1)) 0) ka = false) (h2 : c (p.getD (base + (n - 2)) 0) ka = true) (h : Q (some (n - 1)) st) :
 wpS (model prog w) A E s (gallop' true (it ka) (p.map it) base n (n - 1)) Q st:=by
 refine wpS_bind (wpS_bind (p_elem (show base + (n - 1) < p.size by omega) ?_))
 rw [if_pos rfl]
 refine p_lt C hk (B _ (by omega)) hb ?_
 rw [h1]
 show wpS _ _ _ _ (do
  let r ← _
  _) _ _
 refine wpS_bind (wpS_mono (wpS_forRange (I:=fun x d st'=>st' = st ∧ x = 0 ∧ d = (none,0,1)) (Q:=fun d st'=>st' = st ∧ d = (none,0,1)) ?step ?fin ⟨rfl,rfl,rfl⟩) ?post)
 case fin =>
  rintro d st' ⟨_,e,_⟩
  omega
 case step =>
  rintro x d st' _ hx ⟨rfl,rfl,rfl⟩
  dsimp only
  rw [if_neg (by omega)]
  refine wpS_bind (wpS_bind (p_elem (show base + (n - 1 - 1) < p.size by omega) ?_))
  rw [if_pos rfl]
  refine p_lt C hk (B _ (by omega)) hb ?_
  rw [show n - 1 - 1 = n - 2 by omega,h2]
  exact wpS_pure ⟨rfl,rfl⟩
 case post =>
  rintro d st' ⟨rfl,rfl⟩
  dsimp only
  refine wpS_bind (wpS_mono (wpS_forRange (I:=fun x d st''=>st'' = st' ∧ d = (none,n - 1,n - 1)) (Q:=fun d st''=>st'' = st' ∧ d = (none,n - 1,n - 1)) ?step2 (fun _ _ z=>z) ⟨rfl,?ini⟩) ?post2)
  case ini =>
   rw [Nat.min_eq_left (by omega),show n - 1 + 1 - 1 = n - 1 by omega,Nat.sub_zero]
  case step2 =>
   rintro x d st'' _ hx ⟨rfl,rfl⟩
   dsimp only
   rw [if_pos (Nat.le_refl _)]
   exact wpS_pure ⟨rfl,rfl⟩
  case post2 =>
   rintro d st'' ⟨rfl,rfl⟩
   exact wpS_pure h
end
end L2
namespace L2
open PySem PySem.Spec PyProof.Rows
def zig (X Y : Array Nat) (t : Nat) : Nat:=if t % 2 = 0 then Y.getD (t / 2) 0 else X.getD (t / 2) 0
def zigs (X Y : Array Nat) (t : Nat) : Array Nat:=((List.range t).map (zig X Y)).toArray
theorem zigs_succ (X Y : Array Nat) (t : Nat) : zigs X Y (t + 1) = (zigs X Y t).push (zig X Y t):=by
 unfold zigs
 rw [List.range_succ,List.map_append]
 simp
section
variable {prog : Program} {w : World} {A : Around} {E : Value → Shared → Prop} {s : Shared} {κ : SortKind} {it : Nat → Keyed} {N : Nat} {c : Nat → Nat → Bool} {X Y : Array Nat} {n : Nat}
theorem one_left {Y : Array Nat} (hy : Y.size = n) (hn : 1 ≤ n) : (Y.map it).extract (n - 1) (Y.map it).size = #[it (Y.getD (n - 1) 0)]:=by
 apply Array.ext
 · simp
   omega
 · intro i h1 h2
   simp at h2
   subst h2
   have hlt : n - 1 < Y.size:=by omega
   simp [Array.getD,hlt]
theorem mrg_lo (C : Pcmp prog w A s κ it N c) {Q : Array Keyed → SortSt → Prop} {st : SortSt} (hk : kindOf st = κ) (hg : gallopOf st = 7) (BX : Bnd N X) (BY : Bnd N Y) (hx : X.size = n) (hy : Y.size = n) (hn : 3 ≤ n)
 (hA : ∀ i,i + 1 < n → c (Y.getD (i + 1) 0) (X.getD i 0) = false) (hB : ∀ i,i < n → c (Y.getD i 0) (X.getD i 0) = true) (h : Q ((zigs X Y (2 * n)).map it) st) :
 wpS (model prog w) A E s (mergeLo' (X.map it) (Y.map it)) Q st:=by
 refine wpS_bind (wpS_lift (wpAny_rule ⟨rfl,?_⟩))
 refine wpS_bind (p_elem (show 0 < Y.size by omega) ?_)
 have sx : (X.map it).size = n:=by rw [Array.size_map,hx]
 have sy : (Y.map it).size = n:=by rw [Array.size_map,hy]
 dsimp only
 rw [if_neg (by rw [sy]; simp; omega),if_neg (by rw [sx]; simp; omega)]
 refine wpS_bind (wpS_get ?_)
 have hg' : (sortPriv% PySem.Builtin.SortState.minGallop) st = 7:=hg
 rw [hg']
 have e2n : (zigs X Y (2 * n)).map it = (zigs X Y (2 * n - 2)).map it ++ (Y.map it).extract (n - 1) (Y.map it).size ++ (X.map it).extract (n - 1) (X.map it).size:=by
  rw [one_left hy (by omega),one_left hx (by omega)]
  have e1 : 2 * n = 2 * n - 2 + 1 + 1:=by omega
  have z1 : zig X Y (2 * n - 2) = Y.getD (n - 1) 0:=by
   unfold zig
   rw [if_pos (by omega),show (2 * n - 2) / 2 = n - 1 by omega]
  have z2 : zig X Y (2 * n - 2 + 1) = X.getD (n - 1) 0:=by
   unfold zig
   rw [if_neg (by omega),show (2 * n - 2 + 1) / 2 = n - 1 by omega]
  conv=>lhs; rw [e1,zigs_succ,zigs_succ,z1,z2]
  simp
 refine wpS_bind (wpS_mono (wpS_forRange (I:=fun x d st'=>st' = st ∧ x = 0 ∧ d = (none,#[it (Y.getD 0 0)],0,1,7)) (Q:=fun d st'=>st' = st ∧ d.1 = some ((zigs X Y (2 * n)).map it)) ?step ?fin ⟨rfl,rfl,rfl⟩) ?post)
 case fin =>
  rintro d st' ⟨_,e,_⟩
  rw [sx,sy] at e
  omega
 case post =>
  rintro ⟨d1,d2⟩ st' ⟨rfl,e⟩
  cases (show d1 = _ from e)
  exact wpS_pure h
 case step =>
  rintro x d st' _ hx0 ⟨rfl,rfl,rfl⟩
  dsimp only
  refine wpS_bind (wpS_mono (wpS_forRange (I:=fun t d st''=>st'' = st' ∧ t ≤ 2 * n - 4 ∧ ∃ ac bc,d = (none,(zigs X Y (t + 1)).map it,(t + 1) / 2,t / 2 + 1,ac,bc) ∧ ac ≤ 1 ∧ bc ≤ 1 ∧ (t % 2 = 0 → ac = 0) ∧ (t % 2 = 1 → bc = 0))
   (Q:=fun d st''=>st'' = st' ∧ d.1 = some ((zigs X Y (2 * n)).map it)) ?istep ?ifin ⟨rfl,by omega,0,0,?ini,by omega,by omega,fun _=>rfl,fun _=>rfl⟩) ?ipost)
  case ini =>
   have : zigs X Y (0 + 1) = #[Y.getD 0 0]:=by
    rw [zigs_succ]
    rfl
   rw [this]
   simp
  case ifin =>
   rintro d st'' ⟨_,e,_⟩
   rw [sx,sy] at e
   omega
  case ipost =>
   rintro ⟨d1,d2⟩ st'' ⟨rfl,e⟩
   cases (show d1 = _ from e)
   exact wpS_pure ⟨rfl,rfl⟩
  case istep =>
   rintro t d st'' _ ht ⟨rfl,ht4,ac,bc,rfl,ha1,hb1,hae,hbo⟩
   dsimp only
   have iy : t / 2 + 1 < Y.size:=by omega
   have ix : (t + 1) / 2 < X.size:=by omega
   refine wpS_bind (p_elem iy (wpS_bind (p_elem ix (wpS_bind (p_lt C hk (BY _ iy) (BX _ ix) ?_)))))
   rcases Nat.mod_two_eq_zero_or_one t with e | e
   · -- x wins
     have ei : (t + 1) / 2 = t / 2:=by omega
     have hc : c (Y.getD (t / 2 + 1) 0) (X.getD ((t + 1) / 2) 0) = false:=by rw [ei]; exact hA _ (by omega)
     rw [hc]
     dsimp only
     rw [if_neg (by decide)]
     refine wpS_bind (p_elem ix ?_)
     have z1 : zig X Y (t + 1) = X.getD ((t + 1) / 2) 0:=by
      unfold zig
      rw [if_neg (by omega)]
     have eo : ((zigs X Y (t + 1)).map it).push (it (X.getD ((t + 1) / 2) 0)) = (zigs X Y (t + 1 + 1)).map it:=by
      rw [zigs_succ X Y (t + 1),z1]
      simp
     rw [eo]
     by_cases he : t = 2 * n - 4
     · rw [if_pos (by rw [sx]; simp; omega)]
       refine wpS_pure ⟨rfl,?_⟩
       show some _ = some _
       rw [e2n,show (t + 1) / 2 + 1 = n - 1 by omega,show t / 2 + 1 = n - 1 by omega,show t + 1 + 1 = 2 * n - 2 by omega]
     · rw [if_neg (by rw [sx]; simp; omega),if_neg (by omega)]
       refine wpS_pure ⟨rfl,by omega,ac + 1,0,?_,by have:=hae e; omega,by omega,fun z=>by omega,fun _=>rfl⟩
       rw [show (t + 1 + 1) / 2 = (t + 1) / 2 + 1 by omega,show (t + 1) / 2 + 1 = t / 2 + 1 by omega]
   · -- y wins
     have ei : (t + 1) / 2 = t / 2 + 1:=by omega
     have hc : c (Y.getD (t / 2 + 1) 0) (X.getD ((t + 1) / 2) 0) = true:=by rw [ei]; exact hB _ (by omega)
     rw [hc]
     dsimp only
     rw [if_pos rfl]
     refine wpS_bind (p_elem iy ?_)
     have z1 : zig X Y (t + 1) = Y.getD (t / 2 + 1) 0:=by
      unfold zig
      rw [if_pos (by omega),ei]
     have eo : ((zigs X Y (t + 1)).map it).push (it (Y.getD (t / 2 + 1) 0)) = (zigs X Y (t + 1 + 1)).map it:=by
      rw [zigs_succ X Y (t + 1),z1]
      simp
     rw [eo,if_neg (by rw [sy]; simp; omega),if_neg (by omega)]
     refine wpS_pure ⟨rfl,by omega,0,bc + 1,?_,by omega,by have:=hbo e; omega,fun _=>rfl,fun z=>by omega⟩
     rw [show (t + 1 + 1) / 2 = (t + 1) / 2 by omega,show (t + 1) / 2 + 1 = t / 2 + 1 + 1 by omega]
end
end L2
namespace L2
open PySem PySem.Spec PyProof.Rows
def wrt (p z : Array Nat) : Array Nat:=z.toList.zipIdx.foldl (fun a x=>a.setIfInBounds (1 + x.2) x.1) p
theorem wrt_map (it : Nat → Keyed) : ∀ (l : List Nat) (i : Nat) (p : Array Nat),((l.map it).zipIdx i).foldl (fun (a : Array Keyed) x=>a.setIfInBounds (1 + x.2) x.1) (p.map it) = ((l.zipIdx i).foldl (fun a x=>a.setIfInBounds (1 + x.2) x.1) p).map it
 | [],_,_=>rfl
 | x :: l,i,p=>by
  rw [List.map_cons,List.zipIdx_cons,List.zipIdx_cons,List.foldl_cons,List.foldl_cons,← wrt_map it l (i + 1)]
  congr 1
  simp
section
variable {prog : Program} {w : World} {A : Around} {E : Value → Shared → Prop} {s : Shared} {κ : SortKind} {it : Nat → Keyed} {N : Nat} {c : Nat → Nat → Bool} {p : Array Nat} {n : Nat}
theorem ex_get {i j k : Nat} (hj : j ≤ p.size) (hk : k < j - i) : (p.extract i j).getD k 0 = p.getD (i + k) 0:=by
 have h1 : k < (p.extract i j).size:=by simp; omega
 have h2 : i + k < p.size:=by omega
 simp only [Array.getD,h1,h2,dif_pos]
 simp
theorem ex_bnd {i j : Nat} (hj : j ≤ p.size) (B : Bnd N p) : Bnd N (p.extract i j):=fun k hk=>by
 have hk' : k < j - i:=by
  simp at hk
  omega
 rw [ex_get hj hk']
 exact B _ (by omega)
theorem mrg_at (C : Pcmp prog w A s κ it N c) {Q : Bool → SortSt → Prop} {pw : Nat} (B : Bnd N p) (hp : p.size = 2 * n) (hn : 4 ≤ n)
 (hA : ∀ i,i < n → c (p.getD (n + i) 0) (p.getD i 0) = false) (hB : ∀ i,i + 1 < n → c (p.getD (n + i) 0) (p.getD (i + 1) 0) = true)
 (h : Q true (pst κ it (wrt p (zigs (p.extract 1 n) (p.extract n (2 * n - 1)) (2 * (n - 1)))) #[(0,n + n,pw)])) :
 wpS (model prog w) A E s (mergeAt' 0) Q (pst κ it p #[(0,n,pw),(n,n,0)]):=by
 refine wpS_bind (wpS_get ?_)
 refine wpS_bind (wpS_modify ?_)
 have ep : ((#[(0,n,pw),(n,n,0)] : Array (Nat × Nat × Nat)).setIfInBounds 0 (0,n + n,pw)).eraseIdxIfInBounds 1 = #[(0,n + n,pw)]:=by simp [Array.setIfInBounds,Array.eraseIdxIfInBounds]
 show wpS _ _ _ _ _ _ (SortSt.mk' κ (p.map it) (((#[(0,n,pw),(n,n,0)] : Array (Nat × Nat × Nat)).setIfInBounds 0 (0,n + n,pw)).eraseIdxIfInBounds 1) 7 none)
 rw [ep]
 refine wpS_bind (p_elem (show n < p.size by omega) ?_)
 refine wpS_bind (gal_one C rfl B (B _ (by omega)) (by omega) (show 0 + n ≤ p.size by omega) ?_ ?_ ?_)
 · exact hA 0 (by omega)
 · exact hB 0 (by omega)
 dsimp only
 rw [if_neg (by simp; omega)]
 refine wpS_bind (p_elem (show 0 + 1 + (n - 1) - 1 < p.size by omega) ?_)
 refine wpS_bind (gal_all C rfl B (B _ (by omega)) (by omega) (show n + n ≤ p.size by omega) ?_ ?_ ?_)
 · rw [show 0 + 1 + (n - 1) - 1 = n - 1 by omega]
   exact hA (n - 1) (by omega)
 · have:=hB (n - 2) (by omega)
   rw [show 0 + 1 + (n - 1) - 1 = n - 2 + 1 by omega]
   exact this
 dsimp only
 rw [if_neg (by simp; omega),if_pos (by omega)]
 have ex : ∀ i j,(p.map it).extract i j = (p.extract i j).map it:=fun i j=>by
  apply Array.ext
  · simp
  · intro k h1 h2
    simp
 have sX : (p.extract 1 n).size = n - 1:=by
  simp
  omega
 have sY : (p.extract n (2 * n - 1)).size = n - 1:=by
  simp
  omega
 have gX : ∀ i,i < n - 1 → (p.extract 1 n).getD i 0 = p.getD (i + 1) 0:=fun i hi=>by rw [ex_get (by omega) (by omega),Nat.add_comm]
 have gY : ∀ i,i < n - 1 → (p.extract n (2 * n - 1)).getD i 0 = p.getD (n + i) 0:=fun i hi=>ex_get (by omega) (by omega)
 have key:=mrg_lo C (E:=E) (st:=SortSt.mk' κ (p.map it) #[(0,n + n,pw)] 7 none) (X:=p.extract 1 n) (Y:=p.extract n (2 * n - 1)) (n:=n - 1)
  (Q:=fun a st'=>a = (zigs (p.extract 1 n) (p.extract n (2 * n - 1)) (2 * (n - 1))).map it ∧ st' = SortSt.mk' κ (p.map it) #[(0,n + n,pw)] 7 none) rfl rfl (ex_bnd (by omega) B) (ex_bnd (by omega) B) sX sY (by omega)
  (fun i hi=>by rw [gX i (by omega),gY (i + 1) (by omega)]; exact hA (i + 1) (by omega)) (fun i hi=>by rw [gX i hi,gY i hi]; exact hB i (by omega)) ⟨rfl,rfl⟩
 rw [← ex,← ex] at key
 have e1 : n + (n - 1) = 2 * n - 1:=by omega
 rw [show (0 + 1 : Nat) = 1 from rfl,e1]
 refine wpS_bind (wpS_mono key fun a st' hq=>?_)
 obtain ⟨rfl,rfl⟩:=hq
 refine wpS_bind (wpS_modify (wpS_bind (wpS_get (wpS_pure ?_))))
 have e2:=wrt_map it (zigs (p.extract 1 n) (p.extract n (2 * n - 1)) (2 * (n - 1))).toList 0 p
 have e3 : SortSt.mk' κ ((((zigs (p.extract 1 n) (p.extract n (2 * n - 1)) (2 * (n - 1))).map it).toList.zipIdx).foldl (fun (a : Array Keyed) x=>a.setIfInBounds (1 + x.2) x.1) (p.map it)) #[(0,n + n,pw)] 7 none = pst κ it (wrt p (zigs (p.extract 1 n) (p.extract n (2 * n - 1)) (2 * (n - 1)))) #[(0,n + n,pw)]:=by
  unfold pst wrt
  rw [Array.toList_map,e2]
 show Q true (SortSt.mk' κ ((((zigs (p.extract 1 n) (p.extract n (2 * n - 1)) (2 * (n - 1))).map it).toList.zipIdx).foldl (fun (a : Array Keyed) x=>a.setIfInBounds (1 + x.2) x.1) (p.map it)) #[(0,n + n,pw)] 7 none)
 rw [e3]
 exact h
end
end L2
namespace L2
open PySem PySem.Spec PyProof.Rows
section
variable {prog : Program} {w : World} {A : Around} {E : Value → Shared → Prop} {s : Shared} {κ : SortKind} {it : Nat → Keyed} {N : Nat} {c : Nat → Nat → Bool} {p : Array Nat} {n : Nat}
theorem minrun_small (h0 : 1 ≤ n) (h : n < 64) : minRun' n n 0 = n:=by
 obtain ⟨f,hf⟩ : ∃ f,n = f + 1:=⟨n - 1,by omega⟩
 have : minRun' (f + 1) n 0 = n:=by rw [minRun'_succ,if_pos h]; rfl
 rwa [← hf] at this
theorem binF_perm (c : Nat → Nat → Bool) (lo : Nat) : ∀ (f k : Nat) (p : Array Nat),(binF c lo f k p).Perm p
 | 0,_,_=>Array.Perm.refl _
 | f + 1,k,p=>(binF_perm c lo f (k + 1) _).trans (bubble_perm _ _ _)
theorem srt_small (C : Pcmp prog w A s κ it N c) {Q : Unit → SortSt → Prop} (B : Bnd N p) (hp : p.size = n) (hn : 3 ≤ n) (h64 : n < 64) (h1 : c (p.getD 1 0) (p.getD 0 0) = false) (h2 : c (p.getD 2 0) (p.getD 1 0) = true) (h3 : c (p.getD 0 0) (p.getD 1 0) = true)
 (h : Q () (pst κ it (binF c 0 (n - 2) 2 p) #[(0,n,0)])) : wpS (model prog w) A E s sortRuns' Q (pst κ it p #[]):=by
 rw [sortRuns'_eq]
 refine wpS_bind (wpS_get ?_)
 have hs : (arrOf (pst κ it p #[])).size = n:=by show (p.map it).size = n; rw [Array.size_map,hp]
 simp only [hs,minrun_small (by omega) h64]
 refine wpS_bind (wpS_mono (wpS_forRange (I:=fun x d st'=>(x = 0 ∧ d = (none,0) ∧ st' = pst κ it p #[]) ∨ (1 ≤ x ∧ d = (none,n) ∧ st' = pst κ it (binF c 0 (n - 2) 2 p) #[(0,n,0)]))
  (Q:=fun d st'=>d = (none,n) ∧ st' = pst κ it (binF c 0 (n - 2) 2 p) #[(0,n,0)]) ?step ?fin (.inl ⟨rfl,rfl,rfl⟩)) ?post)
 case fin =>
  rintro d st' (⟨hx,_,_⟩ | ⟨_,hc,hD⟩)
  · omega
  · exact ⟨hc,hD⟩
 case step =>
  rintro x d st' _ hx (⟨rfl,rfl,rfl⟩ | ⟨hx1,rfl,rfl⟩)
  · dsimp only
    rw [if_neg (by omega)]
    simp only [Nat.sub_zero,Nat.min_self,Nat.zero_add]
    refine wpS_bind (p_count2 C B (by omega) hn h1 h2 h3 ?_)
    dsimp only
    rw [if_pos (by omega)]
    refine wpS_bind (wpS_lift (wpAny_rule ⟨rfl,?_⟩))
    refine wpS_bind (p_bin C B (by omega) (by omega) (by omega) ?_)
    simp only [Bool.not_true,Bool.false_eq_true,if_false]
    refine wpS_bind (wpS_get ?_)
    exact wpS_bind (wpS_modify (wpS_pure (.inr ⟨by omega,rfl,rfl⟩)))
  · dsimp only
    rw [if_pos (Nat.le_refl _)]
    exact wpS_pure ⟨rfl,rfl⟩
 case post =>
  rintro d st' ⟨rfl,rfl⟩
  dsimp only
  refine wpS_bind (wpS_mono (wpS_forRange (I:=fun _ d st''=>st'' = pst κ it (binF c 0 (n - 2) 2 p) #[(0,n,0)] ∧ d = (none,())) (Q:=fun d st''=>st'' = pst κ it (binF c 0 (n - 2) 2 p) #[(0,n,0)] ∧ d = (none,())) ?_ (fun _ _ hh=>hh) ⟨rfl,rfl⟩) ?_)
  · rintro x d st'' _ _ ⟨rfl,rfl⟩
    refine wpS_bind (wpS_get ?_)
    rw [if_pos (show (pendingOf (pst κ it (binF c 0 (n - 2) 2 p) #[(0,n,0)])).size ≤ 1 from Nat.le_refl 1)]
    exact wpS_pure ⟨rfl,rfl⟩
  · rintro d st'' ⟨rfl,rfl⟩
    exact wpS_pure h
theorem srt_two (C : Pcmp prog w A s κ it N c) {Q : Unit → SortSt → Prop} (B : Bnd N p) (hp : p.size = 2) (h1 : c (p.getD 1 0) (p.getD 0 0) = false)
 (h : Q () (pst κ it p #[(0,2,0)])) : wpS (model prog w) A E s sortRuns' Q (pst κ it p #[]):=by
 rw [sortRuns'_eq]
 refine wpS_bind (wpS_get ?_)
 have hs : (arrOf (pst κ it p #[])).size = 2:=by show (p.map it).size = 2; rw [Array.size_map,hp]
 simp only [hs,minrun_small (show 1 ≤ 2 by decide) (by decide)]
 refine wpS_bind (wpS_mono (wpS_forRange (I:=fun x d st'=>(x = 0 ∧ d = (none,0) ∧ st' = pst κ it p #[]) ∨ (1 ≤ x ∧ d = (none,2) ∧ st' = pst κ it p #[(0,2,0)]))
  (Q:=fun d st'=>d = (none,2) ∧ st' = pst κ it p #[(0,2,0)]) ?step ?fin (.inl ⟨rfl,rfl,rfl⟩)) ?post)
 case fin =>
  rintro d st' (⟨hx,_,_⟩ | ⟨_,hc,hD⟩)
  · omega
  · exact ⟨hc,hD⟩
 case step =>
  rintro x d st' _ hx (⟨rfl,rfl,rfl⟩ | ⟨hx1,rfl,rfl⟩)
  · dsimp only
    rw [if_neg (by omega)]
    rw [countRun'_eq]
    refine wpS_bind (wpS_bind (wpS_mono (wpS_forRange (I:=fun x d st'=>st' = pst κ it p #[] ∧ ((x = 1 ∧ d = (none,1)) ∨ (x = 2 ∧ d = (none,2)))) (Q:=fun d st'=>st' = pst κ it p #[] ∧ d = (none,2)) ?cs ?cf ⟨rfl,.inl ⟨rfl,rfl⟩⟩) ?cp))
    case cf =>
     rintro d st' ⟨rfl,⟨e,rfl⟩ | ⟨e,rfl⟩⟩
     · omega
     · exact ⟨rfl,rfl⟩
    case cs =>
     rintro x d st' hx hxn ⟨rfl,⟨rfl,rfl⟩ | ⟨rfl,rfl⟩⟩
     · refine wpS_bind (p_at C B (by omega) (by omega) ?_)
       rw [show 0 + 1 - 1 = 0 by omega,show 0 + 1 = 1 by omega,h1]
       exact wpS_pure ⟨rfl,.inr ⟨rfl,rfl⟩⟩
     · omega
    case cp =>
     rintro d st' ⟨rfl,rfl⟩
     refine wpS_pure ?_
     dsimp only
     rw [if_neg (by decide)]
     refine wpS_bind (wpS_get ?_)
     exact wpS_bind (wpS_modify (wpS_pure (.inr ⟨by omega,rfl,rfl⟩)))
  · dsimp only
    rw [if_pos (Nat.le_refl _)]
    exact wpS_pure ⟨rfl,rfl⟩
 case post =>
  rintro d st' ⟨rfl,rfl⟩
  dsimp only
  refine wpS_bind (wpS_mono (wpS_forRange (I:=fun _ d st''=>st'' = pst κ it p #[(0,2,0)] ∧ d = (none,())) (Q:=fun d st''=>st'' = pst κ it p #[(0,2,0)] ∧ d = (none,())) ?_ (fun _ _ hh=>hh) ⟨rfl,rfl⟩) ?_)
  · rintro x d st'' _ _ ⟨rfl,rfl⟩
    refine wpS_bind (wpS_get ?_)
    rw [if_pos (show (pendingOf (pst κ it p #[(0,2,0)])).size ≤ 1 from Nat.le_refl 1)]
    exact wpS_pure ⟨rfl,rfl⟩
  · rintro d st'' ⟨rfl,rfl⟩
    exact wpS_pure h
def two32 (c : Nat → Nat → Bool) (p : Array Nat) : Array Nat:=binF c 32 30 2 (binF c 0 30 2 p)
def all64 (c : Nat → Nat → Bool) (p : Array Nat) : Array Nat:=wrt (two32 c p) (zigs ((two32 c p).extract 1 32) ((two32 c p).extract 32 63) 62)
theorem srt_64 (C : Pcmp prog w A s κ it N c) {Q : Unit → SortSt → Prop} (B : Bnd N p) (hp : p.size = 64) (h1 : c (p.getD 1 0) (p.getD 0 0) = false) (h2 : c (p.getD 2 0) (p.getD 1 0) = true) (h3 : c (p.getD 0 0) (p.getD 1 0) = true)
 (k1 : c ((binF c 0 30 2 p).getD 33 0) ((binF c 0 30 2 p).getD 32 0) = false) (k2 : c ((binF c 0 30 2 p).getD 34 0) ((binF c 0 30 2 p).getD 33 0) = true) (k3 : c ((binF c 0 30 2 p).getD 32 0) ((binF c 0 30 2 p).getD 33 0) = true)
 (hA : ∀ i,i < 32 → c ((two32 c p).getD (32 + i) 0) ((two32 c p).getD i 0) = false) (hB : ∀ i,i + 1 < 32 → c ((two32 c p).getD (32 + i) 0) ((two32 c p).getD (i + 1) 0) = true)
 (h : ∀ pd,Q () (pst κ it (all64 c p) pd)) : wpS (model prog w) A E s sortRuns' Q (pst κ it p #[]):=by
 rw [sortRuns'_eq]
 refine wpS_bind (wpS_get ?_)
 have hs : (arrOf (pst κ it p #[])).size = 64:=by show (p.map it).size = 64; rw [Array.size_map,hp]
 have hm : minRun' 64 64 0 = 32:=by decide +kernel
 simp only [hs,hm]
 have B1 : Bnd N (binF c 0 30 2 p):=B.perm (binF_perm ..)
 have s1 : (binF c 0 30 2 p).size = 64:=(binF_perm c 0 30 2 p).size_eq.trans hp
 have B2 : Bnd N (two32 c p):=B1.perm (binF_perm ..)
 have s2 : (two32 c p).size = 64:=(binF_perm c 32 30 2 _).size_eq.trans s1
 generalize hpw : power' 64 (2 * 0 + 32) (2 * 0 + 32 + 32 + 32) 64 = pw
 refine wpS_bind (wpS_mono (wpS_forRange (I:=fun x d st'=>(x = 0 ∧ d = (none,0) ∧ st' = pst κ it p #[]) ∨ (x = 1 ∧ d = (none,32) ∧ st' = pst κ it (binF c 0 30 2 p) #[(0,32,0)]) ∨ (2 ≤ x ∧ d = (none,64) ∧ st' = pst κ it (two32 c p) #[(0,32,pw),(32,32,0)]))
  (Q:=fun d st'=>d = (none,64) ∧ st' = pst κ it (two32 c p) #[(0,32,pw),(32,32,0)]) ?step ?fin (.inl ⟨rfl,rfl,rfl⟩)) ?post)
 case fin =>
  rintro d st' (⟨hx,_,_⟩ | ⟨hx,_,_⟩ | ⟨_,hc,hD⟩)
  · omega
  · omega
  · exact ⟨hc,hD⟩
 case step =>
  rintro x d st' _ hx (⟨rfl,rfl,rfl⟩ | ⟨rfl,rfl,rfl⟩ | ⟨hx1,rfl,rfl⟩)
  · dsimp only
    rw [if_neg (by omega)]
    refine wpS_bind (p_count2 C B (by omega) (by omega) h1 h2 h3 ?_)
    dsimp only
    rw [if_pos (by omega)]
    refine wpS_bind (wpS_lift (wpAny_rule ⟨rfl,?_⟩))
    refine wpS_bind (p_bin C B (show 0 + 32 ≤ p.size by omega) (by omega) (show 2 ≤ 32 by omega) ?_)
    simp only [Bool.not_true,Bool.false_eq_true,if_false]
    refine wpS_bind (wpS_get ?_)
    exact wpS_bind (wpS_modify (wpS_pure (.inr (.inl ⟨trivial,rfl,rfl⟩))))
  · dsimp only
    rw [if_neg (by omega)]
    refine wpS_bind (p_count2 C B1 (by omega) (by omega) k1 k2 k3 ?_)
    dsimp only
    rw [if_pos (by omega)]
    refine wpS_bind (wpS_lift (wpAny_rule ⟨rfl,?_⟩))
    refine wpS_bind (p_bin C B1 (show 32 + 32 ≤ (binF c 0 30 2 p).size by omega) (by omega) (show 2 ≤ 32 by omega) ?_)
    simp only [Bool.not_true,Bool.false_eq_true,if_false]
    refine wpS_bind (wpS_get ?_)
    refine wpS_bind (wpS_mono (wpS_forRange (I:=fun _ d st''=>st'' = pst κ it (two32 c p) #[(0,32,0)] ∧ d = (none,())) (Q:=fun d st''=>st'' = pst κ it (two32 c p) #[(0,32,0)] ∧ d = (none,())) ?ws (fun _ _ hh=>hh) ⟨rfl,rfl⟩) ?wp)
    case ws =>
     rintro x d st'' _ _ ⟨rfl,rfl⟩
     refine wpS_bind (wpS_get ?_)
     exact wpS_pure ⟨rfl,rfl⟩
    case wp =>
     rintro d st'' ⟨rfl,rfl⟩
     refine wpS_bind (wpS_modify (wpS_bind (wpS_modify (wpS_pure (.inr (.inr ⟨by omega,rfl,?_⟩))))))
     rw [← hpw]
     rfl
  · dsimp only
    rw [if_pos (Nat.le_refl _)]
    exact wpS_pure ⟨rfl,rfl⟩
 case post =>
  rintro d st' ⟨rfl,rfl⟩
  dsimp only
  refine wpS_bind (wpS_mono (wpS_forRange (I:=fun x d st''=>d = (none,()) ∧ ((x = 0 ∧ st'' = pst κ it (two32 c p) #[(0,32,pw),(32,32,0)]) ∨ (1 ≤ x ∧ st'' = pst κ it (all64 c p) #[(0,64,pw)]))) (Q:=fun d st''=>st'' = pst κ it (all64 c p) #[(0,64,pw)] ∧ d = (none,())) ?ls ?lf ⟨rfl,.inl ⟨rfl,rfl⟩⟩) ?lp)
  case lf =>
   rintro d st'' ⟨rfl,⟨hx,_⟩ | ⟨_,rfl⟩⟩
   · omega
   · exact ⟨rfl,rfl⟩
  case lp =>
   rintro d st'' ⟨rfl,rfl⟩
   exact wpS_pure (h _)
  case ls =>
   rintro x d st'' _ _ ⟨rfl,⟨rfl,rfl⟩ | ⟨hx1,rfl⟩⟩
   · refine wpS_bind (wpS_get ?_)
     rw [if_neg (show ¬ (pendingOf (pst κ it (two32 c p) #[(0,32,pw),(32,32,0)])).size ≤ 1 from by show ¬ (2 ≤ 1); decide)]
     refine wpS_bind (mrg_at (n:=32) C B2 s2 (by decide) hA hB ?_)
     simp only [Bool.not_true,Bool.false_eq_true,if_false]
     exact wpS_pure ⟨rfl,.inr ⟨by omega,rfl⟩⟩
   · refine wpS_bind (wpS_get ?_)
     rw [if_pos (show (pendingOf (pst κ it (all64 c p) #[(0,64,pw)])).size ≤ 1 from Nat.le_refl 1)]
     exact wpS_pure ⟨rfl,rfl⟩
end
end L2
namespace L2
open PySem PySem.Spec PyProof.Rows PySem.W
def TupI (h : Heap) (v : Value) (ns : List Int) : Prop:=∃ a o xs n,v = .ref a ∧ h.get? a = some o ∧ o.cls = .type "tuple" ∧ o.data = .seq xs n ∧ IntsAre xs.toList ns
theorem TupI.keep {h h' : Heap} {v : Value} {ns : List Int} (x : TupI h v ns) (k : ∀ a o xs n,h.get? a = some o → o.cls = .type "tuple" → o.data = .seq xs n → h'.get? a = some o) : TupI h' v ns:=by
 obtain ⟨a,o,xs,n,e,h1,h2,h3,h4⟩:=x
 exact ⟨a,o,xs,n,e,k a o xs n h1 h2 h3,h2,h3,h4⟩
section
variable {prog : Program} {w : World} {A : Around} {E : Value → Shared → Prop} {s : Shared} {Q : Bool → Shared → Prop}
theorem int_one {a b : Int} {t u : Tok} (f : Bool) (h : Q (decide (a < b)) s) : wpAny (model prog w) A (oneLt' f (.int a t) (.int b u)) Q E s:=by
 cases f with
 | true=>exact oneLt_int h
 | false=>exact kat_one _ _ (PyProof.Rows.lt_int h)
theorem katlex_ints : ∀ {xs ys : List Value} {as bs : List Int} (i : Nat),IntsAre xs as → IntsAre ys bs → as.length = bs.length → Q (HT.lexLt as bs) s → KatLex prog w A true false Q (xs.zip ys) i s
 | _,_,_,_,_,.nil,.nil,_,h=>h
 | _,_,_,_,_,.nil,.cons _ _ _,h,_=>nomatch h
 | _,_,_,_,_,.cons _ _ _,.nil,h,_=>nomatch h
 | _,_,_,_,i,.cons a t r,.cons b u r',hl,h=>by
  rw [HT.lexLt_cons] at h
  refine kat_cons (wpAny_eqBool_int ?_)
  by_cases e : a = b
  · rw [if_pos e] at h
    have : (a == b) = true:=by simpa using e
    rw [this]
    exact kat_yes (katlex_ints (i + 1) r r' (Nat.succ.inj hl) h)
  · rw [if_neg e] at h
    have : (a == b) = false:=by simpa using e
    rw [this]
    exact kat_no (int_one _ h)
theorem lt_tups {v u : Value} {as bs : List Int} (hv : TupI s.heap v as) (hu : TupI s.heap u bs) (hl : as.length = bs.length) (h : Q (HT.lexLt as bs) s) : wpAny (model prog w) A (keyLt' (tuples' true) v u) Q E s:=by
 obtain ⟨a,o,xs,n,rfl,h1,_,h3,h4⟩:=hv
 obtain ⟨b,o2,ys,m,rfl,k1,_,k3,k4⟩:=hu
 refine kat_lt h1 h3 k1 k3 ?_
 have e1:=h4.length
 have e2:=k4.length
 rw [Array.length_toList] at e1 e2
 have : decide (xs.size < ys.size) = false:=decide_eq_false (by omega)
 rw [this]
 exact katlex_ints 0 h4 k4 hl h
end
theorem firsts_of {h : Heap} : ∀ {vs : List Value} {bs : List (List Int)},Paired (TupI h) vs bs → (∀ b ∈ bs,b ≠ []) → ∃ fs,KatTups h vs fs ∧ fs.length = vs.length ∧ ∀ v ∈ fs,∃ i t,v = Value.int i t
 | _,_,.nil,_=>⟨[],.nil,rfl,fun _ h=>nomatch h⟩
 | v :: vs,b :: bs,.cons hv t,hb=>by
  obtain ⟨fs,h1,h2,h3⟩:=firsts_of t fun x hx=>hb x (List.mem_cons_of_mem _ hx)
  obtain ⟨a,o,xs,n,rfl,k1,k2,k3,k4⟩:=hv
  have hn:=hb b List.mem_cons_self
  generalize hx : xs.toList = l at k4
  cases k4 with
  | nil=>exact absurd rfl hn
  | cons i t r =>
   refine ⟨.int i t :: fs,KatTups.cons k1 k2 k3 ?_ h1,by rw [List.length_cons,List.length_cons,h2],fun z hz=>?_⟩
   · rw [← Array.getElem?_toList,hx]
     rfl
   · rcases List.mem_cons.mp hz with rfl | hz
     · exact ⟨i,t,rfl⟩
     · exact h3 z hz
def itm (vs : List Value) (i : Nat) : Keyed:=(vs.getD i .none,vs.getD i .none)
theorem zip_itm (vs : List Value) : vs.toArray.zip vs.toArray = ((List.range vs.length).toArray).map (itm vs):=by
 apply Array.ext
 · simp
 · intro i h1 h2
   simp at h1
   simp [itm,h1]
theorem paired_get {α β : Type} {F : α → β → Prop} {d : α} {e : β} : ∀ {l₁ : List α} {l₂ : List β},Paired F l₁ l₂ → ∀ i,i < l₁.length → F (l₁.getD i d) (l₂.getD i e)
 | _,_,.nil,i,h=>absurd h (Nat.not_lt_zero _)
 | _,_,.cons h t,0,_=>by simpa using h
 | _,_,.cons h t,i + 1,hi=>by simpa using paired_get t i (by simpa using hi)
section
variable {prog : Program} {w : World} {A : Around} {E : Value → Shared → Prop} {s : Shared}
def Sorts (prog : Program) (w : World) (bs : List (List Int)) (q : Array Nat) : Prop:=q.size = bs.length ∧ ∀ (A : Around) (E : Value → Shared → Prop) (s : Shared) (it : Nat → Keyed),Pcmp prog w A s (tuples' true) it bs.length (fun i j=>HT.lexLt (bs.getD i []) (bs.getD j [])) →
 wpS (model prog w) A E s sortRuns' (fun _ st'=>arrOf st' = q.map it ∧ failedOf st' = none) (pst (tuples' true) it (List.range bs.length).toArray #[])
theorem sort_tups {a : Addr} {vs : List Value} {bs : List (List Int)} {n k : Nat} {q : Array Nat} {P : Fin → Shared → Prop} (ho : s.heap.get? a = some (seqObj "list" vs.toArray n)) (hT : Paired (TupI s.heap) vs bs) (hk : ∀ b ∈ bs,b.length = k) (hk0 : 1 ≤ k) (h2 : 2 ≤ vs.length) (h64 : vs.length ≤ 64)
 (hq : Sorts prog w bs q) (h : P (.done (.ret .none)) { s with heap:=sortedHeap s.heap a vs (q.map fun i=>vs.getD i .none) }) :
 wpAny (model prog w) A (Builtin.«list.sort» ⟨[.ref a],[]⟩) P E s:=by
 rw [list_sort_plain]
 have ha : a < s.heap.objs.size:=Heap.lt_size ho
 have lb:=hT.length
 refine wpAny_bind (listItems_at ho rfl ?_)
 refine wpAny_bind (listUpdate_at ho rfl ?_ (by rw [List.size_toArray,sizeLine_eq]; omega) (Nat.zero_le _))
 obtain ⟨e1,ho1⟩ : ∃ e1,(s.heap.update a (Obj.mapSeq fun _=>#[])).get? a = some (seqObj "list" #[] e1):=⟨_,get?_update_seq ho (fun _=>#[])⟩
 refine wpAny_bind (seqEpoch_at ho1 rfl ?_)
 refine wpAny_bind (wpAny_newTuple ?_ (by show vs.length ≤ _; rw [sizeLine_eq]; omega))
 refine wpAny_bind (wpAny_newList ?_ (Nat.zero_le _))
 refine wpAny_holding ?_
 have ho6 : (((s.heap.update a (Obj.mapSeq fun _=>#[])).push (seqObj "tuple" vs.toArray 0)).push (seqObj "list" #[] 0)).get? a = some (seqObj "list" #[] e1):=by
  rw [Heap.get?_push_ne _ _ _ (by rw [size_push',Heap.size_update]; exact Nat.ne_of_lt (Nat.lt_succ_of_lt ha)),Heap.get?_push_ne _ _ _ (by rw [Heap.size_update]; exact Nat.ne_of_lt ha)]
  exact ho1
 show wpAny (model prog w) A _ P E { s with heap:=((s.heap.update a (Obj.mapSeq fun _=>#[])).push (seqObj "tuple" vs.toArray 0)).push (seqObj "list" #[] 0) }
 dsimp only
 have hn2 : ¬ vs.toArray.size < 2:=by rw [List.size_toArray]; omega
 rw [if_neg hn2,if_neg hn2]
 have hT6 : Paired (TupI (((s.heap.update a (Obj.mapSeq fun _=>#[])).push (seqObj "tuple" vs.toArray 0)).push (seqObj "list" #[] 0))) vs bs:=Paired.mapP hT fun v b x=>x.keep fun b o xs n h1 h2 h3=>by
  have nb : b ≠ a:=fun e=>by
   rw [e,ho] at h1
   cases (Option.some.inj h1)
   exact absurd (Value.type.inj (show Value.type "list" = Value.type "tuple" from h2)) (by decide)
  refine Heap.get?_push_of_some _ (Heap.get?_push_of_some _ ?_)
  rw [(Heap.SameBut.update s.heap a (Obj.mapSeq fun _=>(#[] : Array Value))).2 b nb]
  exact h1
 generalize hh6 : ((s.heap.update a (Obj.mapSeq fun _=>#[])).push (seqObj "tuple" vs.toArray 0)).push (seqObj "list" #[] 0) = h6 at ho6 hT6
 obtain ⟨fs,f1,f2,f3⟩:=firsts_of hT6 (fun b hb e=>by have:=hk b hb; rw [e] at this; simp at this; omega)
 refine wpAny_bind (kat_kind (M:=model prog w) (T:=.type "int") f1 (by omega) (fun v hv=>?_) rfl ?_)
 · obtain ⟨i,t,rfl⟩:=f3 v hv
   exact Looks.of_pure rfl
 have hb : ∀ i,i < bs.length → (bs.getD i []).length = k:=fun i hi=>hk _ (by simp [hi])
 have C : Pcmp prog w A { s with heap:=h6 } (tuples' true) (itm vs) bs.length (fun i j=>HT.lexLt (bs.getD i []) (bs.getD j [])):=fun i j hi hj E Q hQ =>
  lt_tups (paired_get hT6 i (by omega)) (paired_get hT6 j (by omega)) (by rw [hb i hi,hb j hj]) hQ
 have run:=hq.2 A E _ _ C
 rw [zip_itm,lb]
 refine wpAny_bind (wpAny_mono run ?_ fun _ _ e=>e)
 rintro ⟨⟨⟩,st'⟩ s' ⟨rfl,har,hf⟩
 dsimp only
 have hsz : ((arrOf st').map (·.2)) = q.map fun i=>vs.getD i .none:=by
  rw [har,Array.map_map]
  rfl
 refine wpAny_bind (seqEpoch_at ho6 rfl ?_)
 refine wpAny_bind (listUpdate_at ho6 rfl ?_ (hsz2:=by rw [hsz,Array.size_map,hq.1,sizeLine_eq]; omega))
 have hf' : (sortPriv% PySem.Builtin.SortState.failed) st' = none:=hf
 rw [hf]
 simp only [bne_self_eq_false,Bool.false_eq_true,if_false]
 refine wpAny_pure ?_
 rw [hsz,← hh6]
 exact h
theorem sorted_tups {l : Addr} {vs : List Value} {bs : List (List Int)} {k : Nat} {q : Array Nat} {Q : Value → Shared → Prop} (hl : s.heap.IsList l vs.toArray) (hT : Paired (TupI s.heap) vs bs) (hk : ∀ b ∈ bs,b.length = k) (hk0 : 1 ≤ k) (h2 : 2 ≤ vs.length) (h64 : vs.length ≤ 64)
 (hq : Sorts prog w bs q) (h : Q (.ref (s.heap.objs.size + 1)) { s with heap:=sortedAll s.heap vs (q.map fun i=>vs.getD i .none) }) :
 wpAny (model prog w) A (call (.builtin "sorted") [.ref l]) Q E s:=by
 refine Calls.call_function_entry kind_sorted plain_sorted entry_sorted (args_sorted1 _) ?_
 unfold Builtin.«sorted»
 refine wpAny_bind (m:=checkCount "sorted" 1 1 _) (wpAny_pure ?_)
 refine wpAny_bind (collect_list hl ?_ (by rw [sizeLine_eq]; omega))
 refine wpAny_bind (wpAny_newList ?_ (by rw [sizeLine_eq]; omega))
 have hsz : ((s.heap.push (seqObj "list" #[] 0)).update s.heap.objs.size (Obj.mapSeq (· ++ vs.toArray))).objs.size = s.heap.objs.size + 1:=by
  rw [Heap.size_update,size_push']
 have hoL : (((s.heap.push (seqObj "list" #[] 0)).update s.heap.objs.size (Obj.mapSeq (· ++ vs.toArray))).push (seqObj "list" vs.toArray 0)).get? (s.heap.objs.size + 1) = some (seqObj "list" vs.toArray 0):=by
  rw [← hsz]; exact Heap.get?_push_size _ rfl
 have keep : ∀ b o,s.heap.get? b = some o → (((s.heap.push (seqObj "list" #[] 0)).update s.heap.objs.size (Obj.mapSeq (· ++ vs.toArray))).push (seqObj "list" vs.toArray 0)).get? b = some o:=fun b o hb=>by
  refine Heap.get?_push_of_some _ ?_
  rw [(Heap.SameBut.update _ _ _).2 b (Nat.ne_of_lt (Heap.lt_size hb))]
  exact Heap.get?_push_of_some _ hb
 show wpAny _ _ _ _ _ { s with heap:=((s.heap.push (seqObj "list" #[] 0)).update s.heap.objs.size (Obj.mapSeq (· ++ vs.toArray))).push (seqObj "list" vs.toArray 0) }
 rw [hsz]
 refine wpAny_bind (wpAny_holding (wpAny_call_entry slot_list_sort ⟨_,hoL,rfl⟩ entry_list_sort (sort_tups hoL (Paired.mapP hT fun v b x=>x.keep fun b o _ _ h1 _ _=>keep b o h1) hk hk0 h2 h64 hq ⟨_,rfl,?_⟩) (args_list_sort _)))
 exact wpAny_pure ⟨_,rfl,h⟩
end
end L2
namespace L2
open PySem PySem.Spec PyProof.Rows PySem.W
def bitsL : Nat → List (List Int)
 | 0=>[[]]
 | k + 1=>(bitsL k).map (· ++ [0]) ++ (bitsL k).map (· ++ [1])
def risL : Nat → List (List Int)
 | 0=>[[]]
 | k + 1=>(risL k).flatMap fun r=>[r ++ [0],r ++ [1]]
def agreeB (k : Nat) : Bool:=(bitsL k).zipIdx.all fun x=>(bitsL k).zipIdx.all fun y=>HT.lexLt x.1 y.1 == cB k x.2 y.2
theorem agree_all : agreeB 1 = true ∧ agreeB 2 = true ∧ agreeB 3 = true ∧ agreeB 4 = true ∧ agreeB 5 = true ∧ agreeB 6 = true:=by decide +kernel
def p0 (k : Nat) : Array Nat:=(List.range (2 ^ k)).toArray
def qOf : Nat → Array Nat
 | 0=>p0 0
 | 1=>p0 1
 | 6=>all64 (cB 6) (p0 6)
 | k=>binF (cB k) 0 (2 ^ k - 2) 2 (p0 k)
theorem ris_all : ∀ k ∈ [0,1,2,3,4,5,6],((qOf k).toList.map fun i=>(bitsL k).getD i []) = risL k:=by decide +kernel
theorem bits_len (k : Nat) : (bitsL k).length = 2 ^ k:=by
 induction k with
 | zero=>rfl
 | succ k ih =>
  rw [bitsL,List.length_append,List.length_map,List.length_map,ih,Nat.pow_succ]
  omega
theorem bits_each (k : Nat) : ∀ b ∈ bitsL k,b.length = k:=by
 induction k with
 | zero=>simp [bitsL]
 | succ k ih =>
  intro b hb
  rw [bitsL] at hb
  rcases List.mem_append.mp hb with h | h <;> (obtain ⟨r,hr,rfl⟩:=List.mem_map.mp h; rw [List.length_append,ih r hr]; rfl)
theorem agree_at {k i j : Nat} (h : agreeB k = true) (hi : i < 2 ^ k) (hj : j < 2 ^ k) : HT.lexLt ((bitsL k).getD i []) ((bitsL k).getD j []) = cB k i j:=by
 unfold agreeB at h
 have mem : ∀ i,i < 2 ^ k → ((bitsL k).getD i [],i) ∈ (bitsL k).zipIdx:=fun i hi=>by
  have hl : i < (bitsL k).length:=by rw [bits_len]; exact hi
  rw [List.mem_zipIdx_iff_getElem?]
  simp [hl]
 have h1:=List.all_eq_true.mp h _ (mem i hi)
 have h2:=List.all_eq_true.mp h1 _ (mem j hj)
 simpa using h2
theorem bnd0 (k : Nat) : Bnd (2 ^ k) (p0 k):=fun i hi=>by
 unfold p0 at hi ⊢
 simp at hi
 simp [Array.getD,hi]
theorem Pcmp.congr {prog : Program} {w : World} {A : Around} {s : Shared} {κ : SortKind} {it : Nat → Keyed} {N : Nat} {c c' : Nat → Nat → Bool} (C : Pcmp prog w A s κ it N c) (h : ∀ i j,i < N → j < N → c i j = c' i j) : Pcmp prog w A s κ it N c':=fun i j hi hj E Q hQ=>C i j hi hj E Q (by rw [h i j hi hj]; exact hQ)
def okSmall (k : Nat) : Bool:=!cB k 1 0 && (cB k 2 1 && cB k 0 1)
theorem small_all : okSmall 2 = true ∧ okSmall 3 = true ∧ okSmall 4 = true ∧ okSmall 5 = true:=by decide +kernel
def okBig : Bool:=okSmall 6 && (!cB 6 ((binF (cB 6) 0 30 2 (p0 6)).getD 33 0) ((binF (cB 6) 0 30 2 (p0 6)).getD 32 0) && (cB 6 ((binF (cB 6) 0 30 2 (p0 6)).getD 34 0) ((binF (cB 6) 0 30 2 (p0 6)).getD 33 0) && (cB 6 ((binF (cB 6) 0 30 2 (p0 6)).getD 32 0) ((binF (cB 6) 0 30 2 (p0 6)).getD 33 0) &&
 ((List.range 32).all (fun i=>!cB 6 ((two32 (cB 6) (p0 6)).getD (32 + i) 0) ((two32 (cB 6) (p0 6)).getD i 0)) && (List.range 31).all (fun i=>cB 6 ((two32 (cB 6) (p0 6)).getD (32 + i) 0) ((two32 (cB 6) (p0 6)).getD (i + 1) 0))))))
theorem big_all : okBig = true:=by decide +kernel
theorem q_size : ∀ k ∈ [0,1,2,3,4,5,6],(qOf k).size = 2 ^ k:=by decide +kernel
section
variable {prog : Program} {w : World}
theorem small_sorts {k : Nat} (ha : agreeB k = true) (ho : okSmall k = true) (h3 : 3 ≤ 2 ^ k) (h64 : 2 ^ k < 64) (hs : (binF (cB k) 0 (2 ^ k - 2) 2 (p0 k)).size = 2 ^ k) : Sorts prog w (bitsL k) (binF (cB k) 0 (2 ^ k - 2) 2 (p0 k)):=by
 refine ⟨by rw [bits_len]; exact hs,fun A E s it C=>?_⟩
 rw [bits_len] at C ⊢
 have C':=C.congr fun i j hi hj=>agree_at ha hi hj
 unfold okSmall at ho
 rw [Bool.and_eq_true,Bool.and_eq_true,Bool.not_eq_true'] at ho
 have g : ∀ i,i < 2 ^ k → (p0 k).getD i 0 = i:=fun i hi=>by
  unfold p0
  simp [Array.getD,hi]
 refine srt_small C' (p:=p0 k) (n:=2 ^ k) (bnd0 k) (by unfold p0; simp) h3 h64 ?_ ?_ ?_ ⟨rfl,rfl⟩
 · rw [g 1 (by omega),g 0 (by omega)]; exact ho.1
 · rw [g 2 (by omega),g 1 (by omega)]; exact ho.2.1
 · rw [g 0 (by omega),g 1 (by omega)]; exact ho.2.2
theorem all_sorts (k : Nat) (h1 : 1 ≤ k) (h6 : k ≤ 6) : Sorts prog w (bitsL k) (qOf k):=by
 obtain ⟨a1,a2,a3,a4,a5,a6⟩:=agree_all
 obtain ⟨b2,b3,b4,b5⟩:=small_all
 have qs:=fun k hk=>q_size k hk
 rcases (show k = 1 ∨ k = 2 ∨ k = 3 ∨ k = 4 ∨ k = 5 ∨ k = 6 by omega) with rfl | rfl | rfl | rfl | rfl | rfl
 · refine ⟨rfl,fun A E s it C=>?_⟩
   have C':=C.congr fun i j hi hj=>agree_at a1 hi hj
   exact srt_two C' (p:=p0 1) (bnd0 1) rfl (by decide +kernel) ⟨rfl,rfl⟩
 · exact small_sorts a2 b2 (by decide) (by decide) (qs 2 (by simp))
 · exact small_sorts a3 b3 (by decide) (by decide) (qs 3 (by simp))
 · exact small_sorts a4 b4 (by decide) (by decide) (qs 4 (by simp))
 · exact small_sorts a5 b5 (by decide) (by decide) (qs 5 (by simp))
 · refine ⟨by rw [bits_len]; exact qs 6 (by simp),fun A E s it C=>?_⟩
   rw [bits_len] at C ⊢
   have C':=C.congr fun i j hi hj=>agree_at a6 hi hj
   have hb:=big_all
   unfold okBig okSmall at hb
   simp only [Bool.and_eq_true,Bool.not_eq_true',List.all_eq_true,List.mem_range] at hb
   obtain ⟨⟨c1,c2,c3⟩,d1,d2,d3,e1,e2⟩:=hb
   have g : ∀ i,i < 2 ^ 6 → (p0 6).getD i 0 = i:=fun i hi=>by
    unfold p0
    simp [Array.getD,hi]
   refine srt_64 C' (p:=p0 6) (bnd0 6) rfl ?_ ?_ ?_ d1 d2 d3 (fun i hi=>e1 i hi) (fun i hi=>e2 i (by omega)) fun pd=>⟨rfl,rfl⟩
   · rw [g 1 (by decide),g 0 (by decide)]; exact c1
   · rw [g 2 (by decide),g 1 (by decide)]; exact c2
   · rw [g 0 (by decide),g 1 (by decide)]; exact c3
end
end L2
namespace L2
open PySem PySem.Spec PyProof.Rows PySem.W
section
variable {X : Cx}
theorem sortedAll_get (h : Heap) (vs : List Value) (out : Array Value) : ∃ n,(sortedAll h vs out).get? (h.objs.size + 1) = some (seqObj "list" out n):=by
 unfold sortedAll sortedHeap
 have hsz : ((h.push (seqObj "list" #[] 0)).update h.objs.size (Obj.mapSeq (· ++ vs.toArray))).objs.size = h.objs.size + 1:=by rw [Heap.size_update,size_push']
 have h1 : (((h.push (seqObj "list" #[] 0)).update h.objs.size (Obj.mapSeq (· ++ vs.toArray))).push (seqObj "list" vs.toArray 0)).get? (h.objs.size + 1) = some (seqObj "list" vs.toArray 0):=by
  rw [← hsz]; exact Heap.get?_push_size _ rfl
 exact ⟨_,get?_update_seq (Heap.get?_push_of_some _ (Heap.get?_push_of_some _ (get?_update_seq h1 fun _=>#[]))) fun _=>out⟩
theorem sortedAll_keep {h : Heap} {vs : List Value} {out : Array Value} {b : Addr} {o : Obj} (hb : h.get? b = some o) : (sortedAll h vs out).get? b = some o:=by
 have lt:=Heap.lt_size hb
 have ne0 : b ≠ h.objs.size:=Nat.ne_of_lt lt
 have ne1 : b ≠ h.objs.size + 1:=Nat.ne_of_lt (Nat.lt_succ_of_lt lt)
 unfold sortedAll sortedHeap
 rw [(Heap.SameBut.update _ _ _).2 b ne1]
 refine Heap.get?_push_of_some _ (Heap.get?_push_of_some _ ?_)
 rw [(Heap.SameBut.update _ _ _).2 b ne1]
 refine Heap.get?_push_of_some _ ?_
 rw [(Heap.SameBut.update _ _ _).2 b ne0]
 exact Heap.get?_push_of_some _ hb
theorem tupI_of {pins : List (Addr × Obj)} {σ : St} {H : Hp} {s : Shared} (I : Inv X pins σ H s) : ∀ {ts : List Addr} {vs : List Value} {bs : List (List Int)},Vals (ts.map V.ref) vs → Paired (fun t b=>SqT X.K H t (b.map V.int)) ts bs → Paired (TupI s.heap) vs bs
 | [],vs,_,r,.nil=>by
  rw [List.map_nil] at r
  cases r
  exact .nil
 | t :: ts,vs,b :: bs,r,.cons h p=>by
  rw [List.map_cons] at r
  cases r with
  | cons r1 r2 =>
   cases r1
   obtain ⟨its,rv,⟨o,h1,h2,n,h3⟩,_⟩:=I.tuple h
   exact .cons ⟨t,o,_,n,rfl,h1,h2,h3,intsAre_of rv⟩ (tupI_of I r2 p)
theorem getD_ref {ts : List Addr} {i : Nat} {d : Addr} (h : i < ts.length) : (ts.map V.ref).getD i .non = .ref (ts.getD i d):=by simp [h]
theorem vals_at {xs : List V} {vs : List Value} (r : Vals xs vs) {i : Nat} (h : i < xs.length) : RelV (xs.getD i .non) (vs.getD i .none):=by
 obtain ⟨w',e,rw'⟩:=r.get (i:=i) (List.getElem?_eq_getElem h)
 have e1 : vs.getD i .none = w':=by simp [e]
 have e2 : xs.getD i .non = xs[i]:=by simp [h]
 rw [e1,e2]
 exact rw'
theorem vals_map {xs : List V} {vs : List Value} (r : Vals xs vs) : ∀ {l : List Nat},(∀ i ∈ l,i < xs.length) → Vals (l.map fun i=>xs.getD i .non) (l.map fun i=>vs.getD i .none)
 | [],_=>.nil
 | i :: l,h=>.cons (vals_at r (h i List.mem_cons_self)) (vals_map r fun j hj=>h j (List.mem_cons_of_mem _ hj))
theorem paired_sub {α β : Type} {F : α → β → Prop} {d : α} {e : β} {l₁ : List α} {l₂ : List β} (p : Paired F l₁ l₂) : ∀ {l : List Nat},(∀ i ∈ l,i < l₁.length) → Paired F (l.map fun i=>l₁.getD i d) (l.map fun i=>l₂.getD i e)
 | [],_=>.nil
 | i :: l,h=>.cons (paired_get p i (h i List.mem_cons_self)) (paired_sub p fun j hj=>h j (List.mem_cons_of_mem _ hj))
theorem q_in : ∀ k ∈ [0,1,2,3,4,5,6],((qOf k).toList.all fun i=>Nat.blt i (2 ^ k)) = true:=by decide +kernel
theorem call_sortedB : CallR X (.builtin "sorted") (fun xs H Q=>∃ p ts k,xs = [.ref p] ∧ SqL X.K H p (ts.map V.ref) ∧ Paired (fun t b=>SqT X.K H t (b.map V.int)) ts (bitsL k) ∧ 1 ≤ k ∧ k ≤ 6 ∧
 ∀ D ts',H D = none → Paired (fun t b=>SqT X.K H t (b.map V.int)) ts' (risL k) → Q (.ref D) (upd H D (.lst (ts'.map V.ref)))):=by
 intro pins s σ H xs us Q I r h
 obtain ⟨p,ts,k,rfl,hp,hb,h1,h6,q⟩:=h
 obtain ⟨u,rfl,rx⟩:=vals1 r
 cases (show u = Value.ref p from rx)
 obtain ⟨its,rv,pl,hz⟩:=I.list hp
 have l1:=rv.length
 rw [List.length_map] at l1
 have l2:=hb.length
 rw [bits_len] at l2
 have hk : k ∈ [0,1,2,3,4,5,6]:=by
  rcases (show k = 1 ∨ k = 2 ∨ k = 3 ∨ k = 4 ∨ k = 5 ∨ k = 6 by omega) with rfl | rfl | rfl | rfl | rfl | rfl <;> simp
 have two : 2 ≤ 2 ^ k ∧ 2 ^ k ≤ 64:=by
  rcases (show k = 1 ∨ k = 2 ∨ k = 3 ∨ k = 4 ∨ k = 5 ∨ k = 6 by omega) with rfl | rfl | rfl | rfl | rfl | rfl <;> decide
 have hin : ∀ i ∈ (qOf k).toList,i < 2 ^ k:=fun i hi=>by
  have:=List.all_eq_true.mp (q_in k hk) i hi
  rwa [Nat.blt_eq] at this
 refine sorted_tups (k:=k) (q:=qOf k) pl.isList (tupI_of I rv hb) (bits_each k) h1 (by omega) (by omega) (all_sorts k h1 h6) ?_
 obtain ⟨n,hn⟩:=sortedAll_get s.heap its ((qOf k).map fun i=>its.getD i .none)
 have hp2:=paired_sub (d:=0) (e:=[]) hb (l:=(qOf k).toList) (fun i hi=>by have:=hin i hi; omega)
 rw [ris_all k hk] at hp2
 refine ⟨.ref (s.heap.objs.size + 1),_,I.laid (t':=s.toks) (o:=.lst (((qOf k).toList.map fun i=>ts.getD i 0).map V.ref)) (fun b o hb=>sortedAll_keep hb) (by omega) ?_,rfl,q _ _ (I.hok.fresh (by omega)) hp2⟩
 refine ⟨?_,((qOf k).map fun i=>its.getD i .none).toList,n,?_,?_⟩
 · rw [List.length_map,List.length_map,Array.length_toList,q_size k hk,sizeLine_eq]
   omega
 · have v:=vals_map rv (l:=(qOf k).toList) (fun i hi=>by rw [List.length_map]; have:=hin i hi; omega)
   rw [Array.toList_map]
   have e : ((qOf k).toList.map fun i=>ts.getD i 0).map V.ref = (qOf k).toList.map fun i=>(ts.map V.ref).getD i .non:=by
    rw [List.map_map]
    refine List.map_congr_left fun i hi=>?_
    show V.ref (ts.getD i 0) = _
    exact (getD_ref (by have:=hin i hi; omega)).symm
   rw [e]
   exact v
 · rw [Array.toArray_toList]
   exact hn
def rCatA (K : PySem.W.Frag) : R2:=fun x y H Q=>∃ a b xs ys,x = .ref a ∧ y = .ref b ∧ SqT K H a xs ∧ SqT K H b ys ∧ ys ≠ [] ∧ xs.length + ys.length ≤ sizeLine ∧ (xs = [] → Q (.ref b) H) ∧ (xs ≠ [] → ∀ p,H p = none → Q (.ref p) (upd H p (.tup (xs ++ ys))))
theorem op_catA : OpR X (binaryOp .Add) (rCatA X.K):=by
 intro pins s σ H x y v u Q I rx ry h
 obtain ⟨a,b,xs,ys,rfl,rfl,ha,hb,hy,hz,q1,q2⟩:=h
 by_cases hx : xs = []
 · cases rx
   cases ry
   obtain ⟨its,r1,p1,_⟩:=I.tuple ha
   obtain ⟨its2,r2,p2,_⟩:=I.tuple hb
   obtain ⟨⟨cls,dd,data,sl⟩,ho,hc,n,hd⟩:=id p1
   obtain ⟨⟨cls2,dd2,data2,sl2⟩,ho2,hc2,n2,hd2⟩:=id p2
   simp only at hc hd hc2 hd2
   subst hc hd hc2 hd2
   have he : its = []:=r1.nil_iff.mpr hx
   exact concat_meets ⟨_,ho,rfl⟩ ⟨_,ho2,rfl⟩ noFill_tuple_add seq_tuple_add PySem.F.slot_tuple_add PySem.F.entry_tuple_add (PySem.F.args_tuple_add_2 _ _)
    (tuple_addW0 a b its.toArray its2.toArray n n2 dd dd2 sl sl2 (by simp [he])) ⟨ho,ho2,⟨.ref b,H,I,rfl,q1 hx⟩⟩
 · exact op_catT pins s σ H _ _ v u Q I rx ry ⟨a,b,xs,ys,rfl,rfl,ha,hb,hx,hz,fun e=>absurd e hy,fun _=>q2 hx⟩
end
end L2
namespace L2
open PySem PySem.Spec PyProof.Rows PySem.W
section
variable {prog : Program} {w : World} {A : Around} {E : Value → Shared → Prop} {s : Shared}
theorem sort_few {a : Addr} {vs : List Value} {n : Nat} {P : Fin → Shared → Prop} (ho : s.heap.get? a = some (seqObj "list" vs.toArray n)) (h2 : vs.length < 2) (h : P (.done (.ret .none)) { s with heap:=sortedHeap s.heap a vs vs.toArray }) :
 wpAny (model prog w) A (Builtin.«list.sort» ⟨[.ref a],[]⟩) P E s:=by
 rw [list_sort_plain]
 have ha : a < s.heap.objs.size:=Heap.lt_size ho
 refine wpAny_bind (listItems_at ho rfl ?_)
 refine wpAny_bind (listUpdate_at ho rfl ?_ (by rw [List.size_toArray,sizeLine_eq]; omega) (Nat.zero_le _))
 obtain ⟨e1,ho1⟩ : ∃ e1,(s.heap.update a (Obj.mapSeq fun _=>#[])).get? a = some (seqObj "list" #[] e1):=⟨_,get?_update_seq ho (fun _=>#[])⟩
 refine wpAny_bind (seqEpoch_at ho1 rfl ?_)
 refine wpAny_bind (wpAny_newTuple ?_ (by show vs.length ≤ _; rw [sizeLine_eq]; omega))
 refine wpAny_bind (wpAny_newList ?_ (Nat.zero_le _))
 refine wpAny_holding ?_
 have ho6 : (((s.heap.update a (Obj.mapSeq fun _=>#[])).push (seqObj "tuple" vs.toArray 0)).push (seqObj "list" #[] 0)).get? a = some (seqObj "list" #[] e1) :=
  Heap.get?_push_of_some _ (Heap.get?_push_of_some _ ho1)
 show wpAny (model prog w) A _ P E { s with heap:=((s.heap.update a (Obj.mapSeq fun _=>#[])).push (seqObj "tuple" vs.toArray 0)).push (seqObj "list" #[] 0) }
 dsimp only
 have hn2 : vs.toArray.size < 2:=by rw [List.size_toArray]; omega
 rw [if_pos hn2,if_pos hn2]
 refine wpAny_bind (wpAny_pure ?_)
 rw [StateT.run_pure]
 refine wpAny_bind (wpAny_pure ?_)
 dsimp only
 have hsz : ((vs.toArray.zip vs.toArray).map (·.2)) = vs.toArray:=by
  apply Array.ext
  · simp
  · intro i h1 h2
    simp
 refine wpAny_bind (seqEpoch_at ho6 rfl ?_)
 show wpAny _ _ (Builtin.List.listUpdate (.ref a) (fun _=>((vs.toArray.zip vs.toArray).map (·.2))) >>= _) _ _ _
 rw [hsz]
 refine wpAny_bind (listUpdate_at ho6 rfl ?_ (hsz2:=by rw [List.size_toArray,sizeLine_eq]; omega))
 simp only [bne_self_eq_false,Bool.false_eq_true,if_false]
 exact wpAny_pure h
theorem sorted_few {l : Addr} {vs : List Value} {Q : Value → Shared → Prop} (hl : s.heap.IsList l vs.toArray) (h2 : vs.length < 2) (h : Q (.ref (s.heap.objs.size + 1)) { s with heap:=sortedAll s.heap vs vs.toArray }) :
 wpAny (model prog w) A (call (.builtin "sorted") [.ref l]) Q E s:=by
 refine Calls.call_function_entry kind_sorted plain_sorted entry_sorted (args_sorted1 _) ?_
 unfold Builtin.«sorted»
 refine wpAny_bind (m:=checkCount "sorted" 1 1 _) (wpAny_pure ?_)
 refine wpAny_bind (collect_list hl ?_ (by rw [sizeLine_eq]; omega))
 refine wpAny_bind (wpAny_newList ?_ (by rw [sizeLine_eq]; omega))
 have hsz : ((s.heap.push (seqObj "list" #[] 0)).update s.heap.objs.size (Obj.mapSeq (· ++ vs.toArray))).objs.size = s.heap.objs.size + 1:=by
  rw [Heap.size_update,size_push']
 have hoL : (((s.heap.push (seqObj "list" #[] 0)).update s.heap.objs.size (Obj.mapSeq (· ++ vs.toArray))).push (seqObj "list" vs.toArray 0)).get? (s.heap.objs.size + 1) = some (seqObj "list" vs.toArray 0):=by
  rw [← hsz]; exact Heap.get?_push_size _ rfl
 show wpAny _ _ _ _ _ { s with heap:=((s.heap.push (seqObj "list" #[] 0)).update s.heap.objs.size (Obj.mapSeq (· ++ vs.toArray))).push (seqObj "list" vs.toArray 0) }
 rw [hsz]
 refine wpAny_bind (wpAny_holding (wpAny_call_entry slot_list_sort ⟨_,hoL,rfl⟩ entry_list_sort (sort_few hoL h2 ⟨_,rfl,?_⟩) (args_list_sort _)))
 exact wpAny_pure ⟨_,rfl,h⟩
end
theorem ints_inj : ∀ {b c : List Int},b.map V.int = c.map V.int → b = c
 | [],[],_=>rfl
 | [],_ :: _,h=>nomatch h
 | _ :: _,[],h=>nomatch h
 | x :: b,y :: c,h=>by
  rw [List.map_cons,List.map_cons] at h
  have h1:=List.cons.inj h
  rw [V.int.inj h1.1,ints_inj h1.2]
section
variable {X : Cx}
theorem call_sorted0 : CallR X (.builtin "sorted") (fun xs H Q=>∃ p ts k,xs = [.ref p] ∧ SqL X.K H p (ts.map V.ref) ∧ Paired (fun t b=>SqT X.K H t (b.map V.int)) ts (bitsL k) ∧ k ≤ 6 ∧
 ∀ D ts',H D = none → Paired (fun t b=>SqT X.K H t (b.map V.int)) ts' (risL k) → Q (.ref D) (upd H D (.lst (ts'.map V.ref)))):=by
 intro pins s σ H xs us Q I r h
 obtain ⟨p,ts,k,rfl,hp,hb,h6,q⟩:=h
 by_cases hk : k = 0
 · subst hk
   obtain ⟨u,rfl,rx⟩:=vals1 r
   cases (show u = Value.ref p from rx)
   obtain ⟨its,rv,pl,hz⟩:=I.list hp
   have l1:=rv.length
   rw [List.length_map] at l1
   have l2:=hb.length
   rw [bits_len] at l2
   obtain ⟨n,hn⟩:=sortedAll_get s.heap its its.toArray
   refine sorted_few pl.isList (by omega) ⟨.ref (s.heap.objs.size + 1),_,I.laid (t':=s.toks) (o:=.lst (ts.map V.ref)) (fun b o hb=>sortedAll_keep hb) (by omega) ⟨hz,its,n,rv,hn⟩,rfl,q _ ts (I.hok.fresh (by omega)) hb⟩
 · exact call_sortedB pins s σ H _ us Q I r ⟨p,ts,k,rfl,hp,hb,by omega,h6,q⟩
open Classical in
def rInT (K : PySem.W.Frag) : R2:=fun x y H Q=>∃ (t p : Addr) (b : List Int) (ts : List Addr) (bs : List (List Int)),x = .ref t ∧ y = .ref p ∧ SqT K H t (b.map V.int) ∧ SqL K H p (ts.map V.ref) ∧ Paired (fun t b=>SqT K H t (b.map V.int)) ts bs ∧ Q (.bl (decide (b ∈ bs))) H
theorem eq_tups {A : Around} {pins : List (Addr × Obj)} {σ : St} {H : Hp} {s : Shared} (I : Inv X pins σ H s) (hu : A.units + 1 < cLine) {t u : Addr} {b c : List Int} (ht : SqT X.K H t (b.map V.int)) (hu' : SqT X.K H u (c.map V.int)) : SeqAt.EqAt A s (.ref t) (.ref u) (decide (b = c)):=by
 by_cases e : t = u
 · subst e
   have e2 : b = c:=ints_inj (I.tuple_inj ht hu')
   rw [decide_eq_true e2]
   exact SeqAt.EqAt.same _
 · refine SeqAt.EqAt.of_refs e ?_
   obtain ⟨its,rv,pl,_⟩:=I.tuple ht
   obtain ⟨its',rv',pl',_⟩:=I.tuple hu'
   have l1:=rv.length
   have l2:=rv'.length
   rw [List.length_map] at l1 l2
   have key:=SeqAt.RcAt.tuples (A:=A) (s:=s) (e:=fun j=>decide (b.getD j 0 = c.getD j 0)) pl pl' (by omega) (fun j g1 g2=>?_)
   · have e3 : ((List.range (min its.toArray.size its'.toArray.size)).all (fun j=>decide (b.getD j 0 = c.getD j 0)) && its.toArray.size == its'.toArray.size) = decide (b = c):=by
      rw [Bool.eq_iff_iff,Bool.and_eq_true,decide_eq_true_eq,List.all_eq_true]
      simp only [List.size_toArray,beq_iff_eq,List.mem_range,decide_eq_true_eq]
      constructor
      · rintro ⟨h1,h2⟩
        apply List.ext_getElem (by omega)
        intro i g1 g2
        have:=h1 i (by omega)
        simpa [g1,g2] using this
      · rintro rfl
        exact ⟨fun _ _=>rfl,by omega⟩
     rw [← e3]
     exact key
   · simp only [List.size_toArray] at g1 g2
     have hj : j < b.length:=by omega
     have hj' : j < c.length:=by omega
     obtain ⟨w1,e1,r1⟩:=rv.get (x:=.int b[j]) (by rw [List.getElem?_map,List.getElem?_eq_getElem hj]; rfl)
     obtain ⟨w2,e2,r2⟩:=rv'.get (x:=.int c[j]) (by rw [List.getElem?_map,List.getElem?_eq_getElem hj']; rfl)
     have z:=eqAt_V (A:=A.in1) (s:=s) r1 r2 rfl rfl
     have a1 : its.toArray[j] = w1:=by
      have:=(List.getElem?_eq_some_iff.mp e1).2
      simpa using this
     have a2 : its'.toArray[j] = w2:=by
      have:=(List.getElem?_eq_some_iff.mp e2).2
      simpa using this
     rw [a1,a2]
     have e4 : eqV (.int b[j]) (.int c[j]) = decide (b.getD j 0 = c.getD j 0):=by
      simp [eqV,hj,hj']
      rfl
     rw [← e4]
     exact z
theorem mem_tups {A : Around} {pins : List (Addr × Obj)} {σ : St} {H : Hp} {s : Shared} (I : Inv X pins σ H s) (hu : A.units + 1 < cLine) {t : Addr} {b : List Int} (ht : SqT X.K H t (b.map V.int)) (f : Value → Bool) (hf : ∀ u c,SqT X.K H u (c.map V.int) → f (.ref u) = decide (c = b)) : ∀ {ts : List Addr} {vs : List Value} {bs : List (List Int)},Vals (ts.map V.ref) vs → Paired (fun t b=>SqT X.K H t (b.map V.int)) ts bs → (∀ v ∈ vs,SeqAt.EqAt A s v (.ref t) (f v)) ∧ vs.any f = bs.any fun c=>decide (c = b)
 | [],vs,_,r,.nil=>by
  rw [List.map_nil] at r
  cases r
  exact ⟨(fun _ h=>nomatch h),rfl⟩
 | u :: ts,vs,c :: bs,r,.cons h p=>by
  rw [List.map_cons] at r
  cases r with
  | cons r1 r2 =>
   cases r1
   obtain ⟨h1,h2⟩:=mem_tups I hu ht f hf r2 p
   refine ⟨fun v hv=>?_,?_⟩
   · rcases List.mem_cons.mp hv with rfl | hv
     · rw [hf u c h]
       exact eq_tups I hu h ht
     · exact h1 v hv
   · rw [List.any_cons,List.any_cons,h2,hf u c h]
open Classical in
theorem op_inT (hu : X.A.units + 2 < cLine) : OpR X (compareOp .In) (rInT X.K):=by
 intro pins s σ H x y v u Q I rx ry h
 obtain ⟨t,p,b,ts,bs,rfl,rfl,ht,hp,hb,q⟩:=h
 cases (show v = Value.ref t from rx)
 cases (show u = Value.ref p from ry)
 obtain ⟨its,rv,pl,hz⟩:=I.list hp
 have hf : ∀ u c,SqT X.K H u (c.map V.int) → (fun v : Value=>decide (∃ u,v = .ref u ∧ SqT X.K H u (b.map V.int))) (.ref u) = decide (c = b):=fun u c hc=>by
  show decide _ = decide _
  congr 1
  refine propext ⟨?_,?_⟩
  · rintro ⟨u',e,h'⟩
    cases e
    exact ints_inj (I.tuple_inj hc h')
  · rintro rfl
    exact ⟨u,rfl,hc⟩
 obtain ⟨m1,m2⟩:=mem_tups (A:=X.A.in1) I (by show X.A.in1.units + 1 < cLine; exact hu) ht (fun v : Value=>decide (∃ u,v = .ref u ∧ SqT X.K H u (b.map V.int))) hf rv hb
 refine SeqAt.in_listAt _ pl.isList (fun w hw=>m1 w (by simpa using hw)) ⟨.bl _,H,I,rfl,?_⟩
 have e : its.toArray.any (fun v : Value=>decide (∃ u,v = .ref u ∧ SqT X.K H u (b.map V.int))) = decide (b ∈ bs):=by
  rw [show its.toArray.any (fun v : Value=>decide (∃ u,v = .ref u ∧ SqT X.K H u (b.map V.int))) = its.any (fun v : Value=>decide (∃ u,v = .ref u ∧ SqT X.K H u (b.map V.int))) by simp,m2,Bool.eq_iff_iff,List.any_eq_true,decide_eq_true_eq]
  constructor
  · rintro ⟨c,hc,e⟩
    exact of_decide_eq_true e ▸ hc
  · intro h
    exact ⟨b,h,by simp⟩
 rw [e]
 exact q
end
end L2
namespace Gen
open PySem L2
def top (i : Nat) : Stmt:=PySem.Challenge.pw_everguard_k10_first_stands.main.body.getD i (.Pass ⟨0,0,0,0⟩)
abbrev sCell : Stmt:=top 34
abbrev sMix : Stmt:=top 35
abbrev sRich : Stmt:=top 36
abbrev sPick : Stmt:=top 37
abbrev sSpelt : Stmt:=top 38
abbrev sLiteral : Stmt:=top 39
abbrev sWishes : Stmt:=top 40
abbrev sDigits : Stmt:=top 41
abbrev sMachine : Stmt:=top 42
structure Own (mg : Str → Option Value) : Prop where
 len : mg "len" = none
 range : mg "range" = none
 enum : mg "enumerate" = none
 list : mg "list" = none
def pool (xs : List V) : Prop:=(∃ a : Int,xs = [.int a]) ∨ ∃ a b : Int,xs = [.int a,.int b]
def Keep (H H' : Hp) (l : Addr) : Prop:=∀ b o,H b = some o → b ≠ l → H' b = some o
theorem Keep.trans {H H1 H2 : Hp} {l : Addr} (a : Keep H H1 l) (b : Keep H1 H2 l) : Keep H H2 l:=fun c o h n=>b c o (a c o h n) n
theorem Keep.refl (H : Hp) (l : Addr) : Keep H H l:=fun _ _ h _=>h
theorem Same.keep {H H' : Hp} (s : Same H H') (l : Addr) : Keep H H' l:=fun b o h _=>s b o h
theorem Keep.upd_new {H : Hp} {l p : Addr} {o : HO} (hp : H p = none) : Keep H (upd H p o) l:=fun b u h _=>by rw [upd_ne (ne_of_none h hp)]; exact h
theorem Same.upd_new {H : Hp} {p : Addr} {o : HO} (hp : H p = none) : Same H (upd H p o):=fun b u h=>by rw [upd_ne (ne_of_none h hp)]; exact h
theorem Keep.upd_at {H : Hp} {l : Addr} {o : HO} : Keep H (upd H l o) l:=fun b u h n=>by rw [upd_ne n]; exact h
theorem Keep.seq {K : PySem.W.Frag} {H H' : Hp} {a l : Addr} {xs : List V} {n : List V} (e : Keep H H' l) (hl : H l = some (.lst n)) (h : SqL K H a xs) (hne : a ≠ l) : SqL K H' a xs:=by
 rcases h with (h | ⟨o,h⟩) | h
 · exact .inl (.inl (e a _ h hne))
 · exact .inl (.inr ⟨o,e a _ h hne⟩)
 · exact .inr h
def spCell (K : PySem.W.Frag) : Sp:=fun vs H Q _=>∃ (a : Addr) (ns : List Int) (k : Int),vs = [.ref a,.int k] ∧ SqL K H a (ns.map V.int) ∧ 0 ≤ k ∧ ∀ v : Int,Q (.int v) H
def spMix : Sp:=fun vs H Q _=>∃ (c k : Int),vs = [.int c,.int k] ∧ 0 ≤ k ∧ k ≤ 1000000 ∧ ∀ v : Int,0 ≤ v → v < 1999999973 → Q (.int v) H
def spRich : Sp:=fun vs H Q _=>∃ (c k : Int),vs = [.int c,.int k] ∧ 0 ≤ k ∧ k ≤ 1000 ∧ ∀ v : Int,Q (.int v) H
def spPick : Sp:=fun vs H Q _=>∃ (l : Addr) (xs : List V) (m : Int),vs = [.ref l,.int m] ∧ H l = some (.lst xs) ∧ pool xs ∧ 0 < m ∧ m < 1073741824 ∧
 ∀ (d : Int) (ys : List V) (H' : Hp),0 ≤ d → d < m → pool ys → H' l = some (.lst ys) → Keep H H' l → Q (.int d) H'
section
variable {P : Program} {w : World} {K : PySem.W.Frag} {mg : Str → Option Value} {base : Heap}
theorem scCell : FnScope ["_law_script", "_law_k"] ["_law_script", "_law_k"] (defScope sCell):=⟨rfl,rfl,rfl,by decide +kernel,rfl,by decide +kernel,by decide +kernel⟩
theorem ok_cell {f : Addr} {fd : FuncData} (F : Fun K "_law_cell_at" "_law_cell_at" sCell f fd) (T : Own mg) : FnOk P w K mg base CX0 1 f fd ["_law_script", "_law_k"] (spCell K):=by
 refine F.ok scCell (fun vs H Q E h=>?_) (fun cdv A outer s H vs Q E hr h=>?_)
 · obtain ⟨a,ns,k,rfl,_⟩:=h
   rfl
 · obtain ⟨a,ns,k,rfl,hS,h0,kk⟩:=h
   refine ⟨_,pss_cons (ps_if (pt_cmpR op_lt (pv 1) (pe_callB call_len_seq (by rfl) T.len PySem.boot_len (pa_cons (pv 0) pa_nil)) (nomark _)) (pss_one (ps_ret (pe_ix ix_list (pv 0) (pv 1) (fun _ _=>rfl)))) pss_nil)
    (pss_one (ps_ret pe_int)),?_⟩
   refine ⟨_,rfl,_,rfl,a,_,rfl,.inl hS,_,_,rfl,rfl,_,rfl,?_⟩
   refine ite2 (fun hc=>?_) (fun _=>kk 0)
   have hc' : k < ((ns.map V.int).length : Int):=of_decide_eq_true hc
   rw [List.length_map] at hc'
   have hk : k.toNat < ns.length:=by omega
   have e : ((k.toNat : Nat) : Int) = k:=by omega
   have hat : atI (ns.map V.int) ((k.toNat : Nat) : Int) = some (.int ns[k.toNat]):=atI_nat (by rw [List.getElem?_map,List.getElem?_eq_getElem hk]; rfl)
   rw [e] at hat
   exact ⟨_,rfl,_,rfl,a,_,_,.int ns[k.toNat],rfl,rfl,hS,hat,kk _⟩
theorem scMix : FnScope ["_law_cell", "_law_k", "_law_m"] ["_law_cell", "_law_k"] (defScope sMix):=⟨rfl,rfl,rfl,by decide +kernel,rfl,by decide +kernel,by decide +kernel⟩
theorem ok_mix {f : Addr} {fd : FuncData} (F : Fun K "_law_mix" "_law_mix" sMix f fd) : FnOk P w K mg base CX0 1 f fd ["_law_cell", "_law_k"] spMix:=by
 refine F.ok scMix (fun vs H Q E h=>?_) (fun cdv A outer s H vs Q E hr h=>?_)
 · obtain ⟨c,k,rfl,_⟩:=h
   rfl
 · obtain ⟨c,k,rfl,h0,h1,kk⟩:=h
   refine ⟨_,pss_cons (ps_set (i:=2) scMix.nd rfl (Or.inl rfl) (pe_op op_mod (pe_op op_mul (pe_op op_add (pe_op op_add (pe_op op_mod (pv 0) pe_int) (pe_op op_mul (pe_op op_mul (pv 1) (pv 1)) pe_int)) pe_int) pe_int) pe_int))
    (pss_one (ps_ret (pe_op op_mod (pe_op op_mul (pv 2) (pv 2)) pe_int))),?_⟩
   refine ⟨_,rfl,_,_,rfl,rfl,(by show (0 : Int) < 2147483629; decide),_,rfl,_,rfl,_,_,rfl,rfl,.inl ⟨by omega,by omega⟩,_,_,rfl,rfl,.inr ⟨by decide,by decide⟩,_,_,rfl,rfl,_,_,rfl,rfl,
    _,_,rfl,rfl,.inr ⟨by decide,by decide⟩,_,_,rfl,rfl,(by show (0 : Int) < 2147483647; decide),?_⟩
   generalize hm : ((c % 2147483629 + k * k * 7919 + 11) * 48271 % 2147483647 : Int) = m
   have m0 : 0 ≤ m:=by rw [← hm]; exact Int.emod_nonneg _ (by decide)
   have m1 : m < 2147483647:=by rw [← hm]; exact Int.emod_lt_of_pos _ (by decide)
   refine ⟨_,rfl,_,rfl,_,_,rfl,rfl,.inl ⟨by omega,by omega⟩,_,_,rfl,rfl,(by show (0 : Int) < 1999999973; decide),?_⟩
   exact kk _ (Int.emod_nonneg _ (by decide)) (Int.emod_lt_of_pos _ (by decide))
theorem scRich : FnScope ["_law_cell", "_law_k", "_law_number", "_law_j"] ["_law_cell", "_law_k"] (defScope sRich):=⟨rfl,rfl,rfl,by decide +kernel,rfl,by decide +kernel,by decide +kernel⟩
theorem ok_rich {f fM : Addr} {fd fdM : FuncData} (F : Fun K "_law_rich" "_law_rich" sRich f fd) (T : Own mg) (FM : Fun K "_law_mix" "_law_mix" sMix fM fdM) (bM : Binds K fdM ["_law_cell", "_law_k"] []) (mM : mg "_law_mix" = some (.ref fM)) :
 FnOk P w K mg base CX0 2 f fd ["_law_cell", "_law_k"] spRich:=by
 have GM : FnOk P w K mg base CX0 1 fM fdM ["_law_cell", "_law_k"] spMix:=ok_mix FM
 refine F.ok scRich (fun vs H Q E h=>?_) (fun cdv A outer s H vs Q E hr h=>?_)
 · obtain ⟨c,k,rfl,_⟩:=h
   rfl
 · obtain ⟨c,k,rfl,h0,h1,kk⟩:=h
   refine ⟨_,pss_cons (ps_set (i:=2) scRich.nd rfl (Or.inl rfl) pe_int)
    (pss_cons (ps_for PassesOwn.never rfl (pi_range1 rfl T.range (pa_cons pe_int pa_nil)) (pg_name (i:=3) scRich.nd rfl (Or.inl rfl))
     (pss_one (ps_set (i:=2) scRich.nd rfl (Or.inl rfl) (pe_op op_add (pe_op op_mul (pv 2) pe_int) (pe_call GM hr rfl mM FM.kp bM .nil pass0 (pa_cons (pv 0) (pa_cons (pe_op op_add (pe_op op_mul pe_int (pv 1)) (pv 3)) pa_nil)))))))
    (pss_one (ps_ret (pv 2)))),?_⟩
   refine ⟨12,rfl,by decide,by decide,for_range (n:=12) (fun i σ H2=>H2 = H ∧ ∃ (n : Int) (v : Option V),σ = [some (.int c),some (.int k),some (.int n),v]) ⟨rfl,0,none,rfl⟩ ?_ ?_⟩
   · rintro i σ H2 hi ⟨rfl,n,v,rfl⟩
     refine ⟨_,rfl,_,_,rfl,rfl,.inr ⟨by decide,by decide⟩,_,rfl,_,rfl,_,_,rfl,rfl,.inl ⟨by decide,by decide⟩,_,rfl,_,_,rfl,rfl,?_⟩
     refine ⟨_,_,rfl,by omega,by omega,fun v hv0 hv1=>⟨_,_,rfl,rfl,rfl,_,_,rfl⟩⟩
   · rintro σ H2 ⟨rfl,n,v,rfl⟩
     exact ⟨_,rfl,kk n⟩
theorem scPick : FnScope ["_law_left", "_law_many", "_law_digit"] ["_law_left", "_law_many"] (defScope sPick):=⟨rfl,rfl,rfl,by decide +kernel,rfl,by decide +kernel,by decide +kernel⟩
theorem ok_pick {f : Addr} {fd : FuncData} (F : Fun K "_law_pick" "_law_pick" sPick f fd) (T : Own mg) : FnOk P w K mg base CX0 1 f fd ["_law_left", "_law_many"] spPick:=by
 refine F.ok scPick (fun vs H Q E h=>?_) (fun cdv A outer s H vs Q E hr h=>?_)
 · obtain ⟨l,xs,m,rfl,_⟩:=h
   rfl
 · obtain ⟨l,xs,m,rfl,hl,hp,m0,m1,kk⟩:=h
   refine ⟨_,pss_cons (ps_if (pw_and (pt_cmpR op_in_seq (pe_ix ix_list (pv 0) pe_int (fun _ _=>rfl)) (pe_tup (pa_cons pe_int (pa_cons (pe_un un_neg pe_int) pa_nil))) (by with_unfolding_all rfl))
    (pw_and1 (pt_cmpR op_gt (pe_callB call_len_seq (by rfl) T.len PySem.boot_len (pa_cons (pv 0) pa_nil)) pe_int (nomark _)))).pt
    (pss_one (ps_asg (pe_bm0 PySem.F.plainAttrs_list PySem.F.slot_list_pop PySem.F.type_list_pop mt_pop (pv 0)) (pg_sub (pv 0) pe_int set_list))) pss_nil)
    (pss_cons (ps_set (i:=2) scPick.nd rfl (Or.inl rfl) (pe_op op_mod (pe_ix ix_list (pv 0) pe_int (fun _ _=>rfl)) (pv 1)))
    (pss_cons (ps_asg (pe_op op_fdiv (pe_ix ix_list (pv 0) pe_int (fun _ _=>rfl)) (pv 1)) (pg_sub (pv 0) pe_int set_list))
    (pss_one (ps_ret (pv 2))))),?_⟩
   rcases hp with ⟨a,rfl⟩ | ⟨a,b,rfl⟩
   · refine ⟨_,rfl,l,_,_,.int a,rfl,rfl,SqL.of hl,rfl,_,rfl,(by show 2 ≤ sizeLine; decide),fun t ht=>?_⟩
     have nl : l ≠ t:=ne_of_none hl ht
     have hl1 : (upd H t (.tup [.int 0,.int (-1)])) l = some (.lst [.int a]):=by rw [upd_ne nl]; exact hl
     have kp : Keep H (upd H t (.tup [.int 0,.int (-1)])) l:=Keep.upd_new ht
     refine ⟨t,_,rfl,.inr (SqT.of upd_same),rfl,rfl,_,rfl,?_⟩
     refine ite2 (fun _=>?_) (fun _=>iteF ?_)
     · refine ⟨_,rfl,l,_,rfl,.inl (SqL.of hl1),_,_,rfl,rfl,_,rfl,?_⟩
       refine ite2 (fun h=>absurd (of_decide_eq_true h) (by show ¬ (1 : Int) < ((1 : Nat) : Int); decide)) (fun _=>?_)
       refine ⟨_,rfl,l,_,_,.int a,rfl,rfl,SqL.of hl1,rfl,_,rfl,_,_,rfl,rfl,m0,?_⟩
       refine ⟨_,rfl,l,_,_,.int a,rfl,rfl,SqL.of hl1,rfl,_,rfl,_,_,rfl,rfl,⟨m0,m1⟩,_,rfl,l,_,_,0,rfl,rfl,hl1,rfl,?_⟩
       exact ⟨_,rfl,kk _ _ _ (Int.emod_nonneg _ (by omega)) (Int.emod_lt_of_pos _ m0) (.inl ⟨_,rfl⟩) upd_same (kp.trans Keep.upd_at)⟩
     · refine ⟨_,rfl,l,_,_,.int a,rfl,rfl,SqL.of hl1,rfl,_,rfl,_,_,rfl,rfl,m0,?_⟩
       refine ⟨_,rfl,l,_,_,.int a,rfl,rfl,SqL.of hl1,rfl,_,rfl,_,_,rfl,rfl,⟨m0,m1⟩,_,rfl,l,_,_,0,rfl,rfl,hl1,rfl,?_⟩
       exact ⟨_,rfl,kk _ _ _ (Int.emod_nonneg _ (by omega)) (Int.emod_lt_of_pos _ m0) (.inl ⟨_,rfl⟩) upd_same (kp.trans Keep.upd_at)⟩
   · refine ⟨_,rfl,l,_,_,.int a,rfl,rfl,SqL.of hl,rfl,_,rfl,(by show 2 ≤ sizeLine; decide),fun t ht=>?_⟩
     have nl : l ≠ t:=ne_of_none hl ht
     have hl1 : (upd H t (.tup [.int 0,.int (-1)])) l = some (.lst [.int a,.int b]):=by rw [upd_ne nl]; exact hl
     have kp : Keep H (upd H t (.tup [.int 0,.int (-1)])) l:=Keep.upd_new ht
     refine ⟨t,_,rfl,.inr (SqT.of upd_same),rfl,rfl,_,rfl,?_⟩
     refine ite2 (fun _=>?_) (fun _=>iteF ?_)
     · refine ⟨_,rfl,l,_,rfl,.inl (SqL.of hl1),_,_,rfl,rfl,_,rfl,?_⟩
       refine ite2 (fun _=>?_) (fun h=>absurd (decide_eq_true (show (1 : Int) < ((2 : Nat) : Int) by decide)) h)
       refine ⟨_,rfl,.inl ⟨rfl,_,SqL.of hl1⟩,l,_,.int b,rfl,rfl,hl1,rfl,_,rfl,l,_,_,0,rfl,rfl,upd_same,rfl,?_⟩
       refine ⟨_,rfl,l,_,_,.int b,rfl,rfl,SqL.of upd_same,rfl,_,rfl,_,_,rfl,rfl,m0,?_⟩
       refine ⟨_,rfl,l,_,_,.int b,rfl,rfl,SqL.of upd_same,rfl,_,rfl,_,_,rfl,rfl,⟨m0,m1⟩,_,rfl,l,_,_,0,rfl,rfl,upd_same,rfl,?_⟩
       exact ⟨_,rfl,kk _ _ _ (Int.emod_nonneg _ (by omega)) (Int.emod_lt_of_pos _ m0) (.inl ⟨_,rfl⟩) upd_same (((kp.trans Keep.upd_at).trans Keep.upd_at).trans Keep.upd_at)⟩
     · refine ⟨_,rfl,l,_,_,.int a,rfl,rfl,SqL.of hl1,rfl,_,rfl,_,_,rfl,rfl,m0,?_⟩
       refine ⟨_,rfl,l,_,_,.int a,rfl,rfl,SqL.of hl1,rfl,_,rfl,_,_,rfl,rfl,⟨m0,m1⟩,_,rfl,l,_,_,0,rfl,rfl,hl1,rfl,?_⟩
       exact ⟨_,rfl,kk _ _ _ (Int.emod_nonneg _ (by omega)) (Int.emod_lt_of_pos _ m0) (.inr ⟨_,_,rfl⟩) upd_same (kp.trans Keep.upd_at)⟩
end
end Gen
namespace Gen
open PySem L2
theorem small {n : Nat} (h : n ≤ 1000) : n < sizeLine:=small1000 h
theorem small' {n : Nat} (h : n ≤ 1000) : n ≤ sizeLine:=Nat.le_of_lt (small1000 h)
def spSpelt (K : PySem.W.Frag) : Sp:=fun vs H Q _=>∃ (l t : Addr) (xs : List V) (told : List Str),vs = [.ref l,.ref t] ∧ H l = some (.lst xs) ∧ pool xs ∧ t ≠ l ∧ SqL K H t (told.map V.str) ∧ told.length < 100 ∧
 ∀ (z : Str) (ys : List V) (H' : Hp),NameS z → z ∉ told → pool ys → H' l = some (.lst ys) → Keep H H' l → Q (.str z) H'
theorem inV_str (z : Str) (told : List Str) : inV (.str z) (told.map V.str) = decide (z ∈ told):=by
 unfold inV
 rw [Bool.eq_iff_iff,List.any_eq_true,decide_eq_true_eq]
 constructor
 · rintro ⟨v,hv,e⟩
   obtain ⟨y,hy,rfl⟩:=List.mem_map.mp hv
   have : y = z:=by simpa [eqV] using e
   rw [← this]; exact hy
 · intro h
   exact ⟨.str z,List.mem_map.mpr ⟨z,h,rfl⟩,by simp [eqV]⟩
theorem flat_strs (told : List Str) : (told.map V.str).all flatV = true:=by
 rw [List.all_eq_true]
 intro v hv
 obtain ⟨y,_,rfl⟩:=List.mem_map.mp hv
 rfl
theorem letter_at {i : Nat} {c : Nat} (h : ("abcdefghijklmnopqrstuvwxyz" : Str).cps[i]? = some c) : letters[i]? = some c:=by
 rw [← abc_cps]
 simpa using h
theorem take_next {α β : Type} {l : List α} {i : Nat} {c : α} (f : α → β) (h : l[i]? = some c) : (l.take (i + 1)).map f = (l.take i).map f ++ [f c]:=by
 rw [List.take_add_one,h]
 simp
theorem gName_yes {i : Nat} {x : V} {σ : St} {H : Hp} {A B : St → Hp → Prop} (h : A (σ.set i (some x)) H) : gName i x σ H (fun σ2 H2=>tYes σ2 H2 (fun b H3=>if b = true then A σ2 H3 else B σ2 H3)):=by
 show (if true = true then A (σ.set i (some x)) H else B (σ.set i (some x)) H)
 rw [if_pos rfl]
 exact h
theorem ndKLL : (["_law_k", "_law_left", "_law_letters"] : List Str).Nodup:=by decide +kernel
theorem ndON : (["_law_one", "_law_name"] : List Str).Nodup:=by decide +kernel
theorem ndOT : (["_law_one", "_law_told"] : List Str).Nodup:=by decide +kernel
section
variable {P : Program} {w : World} {K : PySem.W.Frag} {mg : Str → Option Value} {base : Heap}
abbrev nSpelt : List Str:=["_law_left", "_law_told", "_law_letters", "_law_words", "_law_size", "_law_name", "_law_some"]
theorem scSpelt : FnScope nSpelt ["_law_left", "_law_told"] (defScope sSpelt):=⟨rfl,rfl,rfl,by decide +kernel,rfl,by decide +kernel,by decide +kernel⟩
theorem lc_letters {D : Addr} {te : TE} {Q : Hp → Prop} {H1 : Hp} {nm : Str} (f : Nat → Str) (hD : H1 D = none)
 (he : ∀ (c : Nat) (H : Hp) (R : VK),c ∈ letters → R (.str (f c)) H → te [some (.str ⟨#[c]⟩),some (.str nm)] H R)
 (fin : Q (upd H1 D (.lst ((letters.map f).map V.str)))) :
 ∃ W : Nat → Nat → St → Hp → Prop,(∃ m,W 0 m [none,some (.str nm)] (upd H1 D (.lst []))) ∧ bLC D (gName 0) tYes te (Its "abcdefghijklmnopqrstuvwxyz") W Q:=by
 have hsz : ("abcdefghijklmnopqrstuvwxyz" : Str).cps.size = 26:=by decide +kernel
 have hll : letters.length = 26:=by decide
 refine lc_by 26 (fun i acc σ H=>acc = ((letters.take i).map f).map V.str ∧ (∃ v,σ = [v,some (.str nm)]) ∧ H = upd H1 D (.lst acc)) ⟨rfl,⟨none,rfl⟩,rfl⟩ upd_same ?_ ?_
 · rintro acc σ H _ ⟨rfl,_,rfl⟩
   refine ⟨hsz.symm,?_⟩
   rw [List.take_of_length_le (by rw [hll]; decide)]
   exact fin
 · rintro i acc σ H hi hDD ⟨rfl,⟨v,rfl⟩,rfl⟩
   refine ⟨by show i < _; rw [hsz]; exact hi,?_⟩
   rintro x H' ⟨rfl,c,hc,rfl⟩
   have hc':=letter_at hc
   refine gName_yes ?_
   refine he c _ _ (List.mem_of_getElem? hc') ?_
   refine ⟨_,upd_same,?_,lcW_next hi upd_same ⟨?_,⟨_,rfl⟩,?_⟩⟩
   · rw [List.length_map,List.length_map,List.length_take]
     exact small (by omega)
   · rw [take_next f hc',List.map_append]
     rfl
   · rw [upd_upd]
theorem sum_ones : ∀ zs : List Str,(∀ y ∈ zs,∃ c ∈ letters,y = ⟨#[c]⟩) → (zs.map (·.length)).sum = zs.length
 | [],_=>rfl
 | z :: zs,h=>by
  obtain ⟨c,_,rfl⟩:=h z List.mem_cons_self
  have ih:=sum_ones zs fun y hy=>h y (List.mem_cons_of_mem _ hy)
  rw [List.map_cons,List.sum_cons,ih,List.length_cons]
  show 1 + zs.length = zs.length + 1
  omega
theorem lenS (n : Str) (h : NameS n) (k : Int) : (Txt.slice n none (some k)).length ≤ 8:=Nat.le_trans (Txt.slice_le n _ _) h.len
theorem oneLen (c : Nat) : (⟨#[c]⟩ : Str).length = 1:=rfl
theorem appLen (a b : Str) : (a ++ b).length = a.length + b.length:=Str.length_append a b
theorem line8 {n : Nat} (h : n ≤ 100) : n ≤ sizeLine:=Nat.le_trans h (by decide)
abbrev cxSpelt (P : Program) (w : World) (K : PySem.W.Frag) (mg : Str → Option Value) (base : Heap) (f : Addr) (cdv : Value) (A : Around) (outer : List Env) (s : Shared) (H : Hp) (E : XK) : Cx :=
 (cxOf CX0 P w K mg base nSpelt "_law_spelt" (defScope sSpelt) f cdv A outer s H E).nox
abbrev abc : Str:="abcdefghijklmnopqrstuvwxyz"
theorem spelt_rest {f : Addr} {cdv : Value} {A : Around} {outer : List Env} {s : Shared} {H : Hp} {E : XK} {Q : VK} {l t : Addr} {told : List Str} (hS : SqL K H t (told.map V.str)) (hne : t ≠ l) (hlt : told.length < 100) (hl0 : ∃ xs,H l = some (.lst xs))
 (kk : ∀ (z : Str) (ys : List V) (H' : Hp),NameS z → z ∉ told → pool ys → H' l = some (.lst ys) → Keep H H' l → Q (.str z) H') :
 ∃ tR : TS,PSs (cxSpelt P w K mg base f cdv A outer s H E) (List.drop 5 (defBody sSpelt)) tR ∧ ∀ (nm : Str) (ys : List V) (H4 : Hp) (w1 : Addr) (sz : Int),NameS nm → pool ys → H4 l = some (.lst ys) → Keep H H4 l →
  tR { nx:=fun _ H'=>Q .non H',rt:=Q } [some (.ref l),some (.ref t),some (.str abc),some (.ref w1),some (.int sz),some (.str nm),none] H4:=by
 refine ⟨_,pss_cons (ps_set (i:=6) scSpelt.nd rfl (Or.inl rfl) (pe_op op_cat (pe_op op_cat (pe_lst (pa_cons (pv 5) pa_nil))
  (pe_lc (N:=["_law_one", "_law_name"]) (js:=[none,some 5]) (by kernel_rfl) rfl (pi_str (pv 2)) (fun _ _ _ _ _ _=>pg_name (i:=0) ndON rfl (Or.inl rfl) (.inr rfl)) (fun _ _ _ _ _ _=>pifs_nil)
   (fun _ _ _ _ _ _=>pe_op op_add_str (pe_slice sl_str (pv 1) po_none (po_some pe_int)) (pv 0))))
  (pe_lc (N:=["_law_one", "_law_name"]) (js:=[none,some 5]) (by kernel_rfl) rfl (pi_str (pv 2)) (fun _ _ _ _ _ _=>pg_name (i:=0) ndON rfl (Or.inl rfl) (.inr rfl)) (fun _ _ _ _ _ _=>pifs_nil)
   (fun _ _ _ _ _ _=>pe_op op_add_str (pe_op op_add_str (pe_slice sl_str (pv 1) po_none (po_some pe_int)) (pv 0)) pe_str))))
  (pss_cons (ps_set (i:=6) scSpelt.nd rfl (Or.inl rfl) (pe_op op_cat (pe_op op_cat (pv 6)
   (pe_lc (N:=["_law_one", "_law_name"]) (js:=[none,some 5]) (by kernel_rfl) rfl (pi_str (pv 2)) (fun _ _ _ _ _ _=>pg_name (i:=0) ndON rfl (Or.inl rfl) (.inr rfl)) (fun _ _ _ _ _ _=>pifs_nil)
    (fun _ _ _ _ _ _=>pe_op op_add_str (pe_op op_add_str (pe_slice sl_str (pv 1) po_none (po_some pe_int)) (pv 0)) pe_str)))
   (pe_lc (N:=["_law_one", "_law_name"]) (js:=[none,some 5]) (by kernel_rfl) rfl (pi_str (pv 2)) (fun _ _ _ _ _ _=>pg_name (i:=0) ndON rfl (Or.inl rfl) (.inr rfl)) (fun _ _ _ _ _ _=>pifs_nil)
    (fun _ _ _ _ _ _=>pe_op op_add_str (pe_op op_add_str (pe_slice sl_str (pv 1) po_none (po_some pe_int)) (pv 0)) pe_str))))
  (pss_one (ps_ret (pe_ix ix_list
   (pe_lc (N:=["_law_one", "_law_told"]) (js:=[none,some 1]) (by kernel_rfl) rfl (pi_list (pv 6)) (fun _ _ _ _ _ _=>pg_name (i:=0) ndOT rfl (Or.inl rfl) (.inr rfl))
    (fun _ _ _ _ _ _=>pifs_one (pt_cmpR (r:=rIn K true) op_notIn_seq (pv 0) (pv 1) (by with_unfolding_all rfl))) (fun _ _ _ _ _ _=>pv 0)) pe_int (fun _ _=>rfl))))),?_⟩
 intro nm ys H4 w1 sz hn hp hl4 kp4
 have h26 : ∀ g : Nat → Str,((letters.map g).map V.str).length = 26:=fun g=>by rw [List.length_map,List.length_map]; decide
 have h8 : ∀ k : Int,nm.length ≤ sizeLine:=fun _=>line8 (Nat.le_trans hn.len (by decide))
 refine ⟨_,rfl,(by show 1 ≤ sizeLine; decide),fun p1 hp1=>?_⟩
 refine ⟨_,rfl,abc,rfl,fun D1 hD1=>lc_letters (nm:=nm) (fun c=>Txt.slice nm none (some 7) ++ ⟨#[c]⟩) hD1 (fun c H R hc hR=>?_) ?_⟩
 · refine ⟨_,rfl,_,rfl,nm,7,rfl,rfl,rfl,h8 0,_,rfl,_,_,rfl,rfl,?_,hR⟩
   have:=lenS nm hn 7
   rw [oneLen]
   exact line8 (by omega)
 have n1 : p1 ≠ D1:=ne_of_none (upd_same (H:=H4)) hD1
 refine ⟨p1,D1,_,_,rfl,rfl,(by rw [upd_ne n1,upd_same]),upd_same,?_,fun p2 hp2=>?_⟩
 · rw [h26]
   exact line8 (by show 1 + 26 ≤ 100; decide)
 refine ⟨_,rfl,abc,rfl,fun D2 hD2=>lc_letters (nm:=nm) (fun c=>Txt.slice nm none (some 6) ++ ⟨#[c]⟩ ++ "q") hD2 (fun c H R hc hR=>?_) ?_⟩
 · refine ⟨_,rfl,_,rfl,nm,6,rfl,rfl,rfl,h8 0,_,rfl,_,_,rfl,rfl,?_,_,_,rfl,rfl,?_,hR⟩
   · have:=lenS nm hn 6
     rw [oneLen]
     exact line8 (by omega)
   · have:=lenS nm hn 6
     have e1 : ("q" : Str).length = 1:=by decide +kernel
     rw [appLen,oneLen,e1]
     exact line8 (by omega)
 have n2 : p2 ≠ D2:=ne_of_none (upd_same (H:=_)) hD2
 refine ⟨p2,D2,_,_,rfl,rfl,(by rw [upd_ne n2,upd_same]),upd_same,?_,fun p3 hp3=>?_⟩
 · rw [List.length_append,h26,h26]
   exact line8 (by show 1 + 26 + 26 ≤ 100; decide)
 refine ⟨_,rfl,_,rfl,abc,rfl,fun D3 hD3=>lc_letters (nm:=nm) (fun c=>Txt.slice nm none (some 6) ++ ⟨#[c]⟩ ++ "z") hD3 (fun c H R hc hR=>?_) ?_⟩
 · refine ⟨_,rfl,_,rfl,nm,6,rfl,rfl,rfl,h8 0,_,rfl,_,_,rfl,rfl,?_,_,_,rfl,rfl,?_,hR⟩
   · have:=lenS nm hn 6
     rw [oneLen]
     exact line8 (by omega)
   · have:=lenS nm hn 6
     have e1 : ("z" : Str).length = 1:=by decide +kernel
     rw [appLen,oneLen,e1]
     exact line8 (by omega)
 have n3 : p3 ≠ D3:=ne_of_none (upd_same (H:=_)) hD3
 refine ⟨p3,D3,_,_,rfl,rfl,(by rw [upd_ne n3,upd_same]),upd_same,?_,fun p4 hp4=>?_⟩
 · rw [List.length_append,List.length_append,h26,h26,h26]
   exact line8 (by show 1 + 26 + 26 + 26 ≤ 100; decide)
 refine ⟨_,rfl,abc,rfl,fun D4 hD4=>lc_letters (nm:=nm) (fun c=>Txt.slice nm none (some 5) ++ ⟨#[c]⟩ ++ "qz") hD4 (fun c H R hc hR=>?_) ?_⟩
 · refine ⟨_,rfl,_,rfl,nm,5,rfl,rfl,rfl,h8 0,_,rfl,_,_,rfl,rfl,?_,_,_,rfl,rfl,?_,hR⟩
   · have:=lenS nm hn 5
     rw [oneLen]
     exact line8 (by omega)
   · have:=lenS nm hn 5
     have e1 : ("qz" : Str).length = 2:=by decide +kernel
     rw [appLen,oneLen,e1]
     exact line8 (by omega)
 have n4 : p4 ≠ D4:=ne_of_none (upd_same (H:=_)) hD4
 refine ⟨p4,D4,_,_,rfl,rfl,(by rw [upd_ne n4,upd_same]),upd_same,?_,fun p5 hp5=>?_⟩
 · rw [List.length_append,List.length_append,List.length_append,h26,h26,h26,h26]
   exact small' (by show 1 + 26 + 26 + 26 + 26 ≤ 1000; decide)
 have eall : [V.str nm] ++ ((letters.map fun c=>Txt.slice nm none (some 7) ++ ⟨#[c]⟩).map V.str) ++ ((letters.map fun c=>Txt.slice nm none (some 6) ++ ⟨#[c]⟩ ++ "q").map V.str) ++ ((letters.map fun c=>Txt.slice nm none (some 6) ++ ⟨#[c]⟩ ++ "z").map V.str)
  ++ ((letters.map fun c=>Txt.slice nm none (some 5) ++ ⟨#[c]⟩ ++ "qz").map V.str) = (candS nm).map V.str:=by
  unfold candS c7 c6q c6z c5
  simp only [List.map_append,List.map_cons,List.map_nil]
 rw [eall]
 have sm : ∀ o5,Same H4 (upd (upd (upd (upd (upd (upd (upd (upd (upd H4 p1 _) D1 _) p2 _) D2 _) p3 _) D3 _) p4 _) D4 _) p5 o5):=fun o5 =>
  (((((((((Same.upd_new hp1).trans (Same.upd_new hD1)).trans (Same.upd_new hp2)).trans (Same.upd_new hD2)).trans (Same.upd_new hp3)).trans (Same.upd_new hD3)).trans (Same.upd_new hp4)).trans (Same.upd_new hD4)).trans (Same.upd_new hp5))
 have sm5:=sm (.lst ((candS nm).map V.str))
 generalize hG : upd _ p5 (HO.lst ((candS nm).map V.str)) = G at *
 have hG5 : G p5 = some (.lst ((candS nm).map V.str)):=by rw [← hG,upd_same]
 refine ⟨_,rfl,p5,rfl,⟨_,SqL.of hG5⟩,fun D hD=>?_⟩
 obtain ⟨xs0,hl0⟩:=hl0
 have np : p5 ≠ D:=ne_of_none hG5 hD
 have h5 : ∀ o,(upd G D o) p5 = some (.lst ((candS nm).map V.str)):=fun o=>by rw [upd_ne np]; exact hG5
 have hSt : ∀ o,SqL K (upd G D o) t (told.map V.str):=fun o=>Same.seq (Same.upd_new hD) (Same.seq sm5 (kp4.seq hl0 hS hne))
 refine lc_by (candS nm).length (fun i acc σ H=>acc = (((candS nm).take i).filter fun z=>!decide (z ∈ told)).map V.str ∧ (∃ v,σ = [v,some (.ref t)]) ∧ H = upd G D (.lst acc)) ⟨rfl,⟨none,rfl⟩,rfl⟩ upd_same ?_ ?_
 · rintro acc σ H5 _ ⟨rfl,_,rfl⟩
   refine ⟨⟨_,SqL.of (h5 _),by simp⟩,?_⟩
   rw [List.take_length]
   obtain ⟨z,hz,hzt⟩:=candS_free nm told hlt
   have hzf : z ∈ (candS nm).filter fun z=>!decide (z ∈ told):=List.mem_filter.mpr ⟨hz,by simp [hzt]⟩
   cases hfl : (candS nm).filter fun z=>!decide (z ∈ told) with
   | nil=>rw [hfl] at hzf; cases hzf
   | cons z0 r =>
    have h0 : z0 ∈ (candS nm).filter fun z=>!decide (z ∈ told):=by rw [hfl]; exact List.mem_cons_self
    obtain ⟨m1,m2⟩:=List.mem_filter.mp h0
    have m3 : z0 ∉ told:=by simpa using m2
    have sl : G l = some (.lst ys):=sm5 l _ hl4
    have nl : l ≠ D:=ne_of_none sl hD
    exact ⟨D,_,0,.str z0,rfl,rfl,SqL.of upd_same,(atI_nat (j:=0) (by rfl) : atI _ ((0 : Nat) : Int) = _),kk z0 ys _ (candS_name hn m1) m3 hp (by rw [upd_ne nl]; exact sl) ((kp4.trans (Same.keep sm5 l)).trans (Keep.upd_new hD))⟩
 · rintro i acc σ H5 hi hDD ⟨rfl,⟨v,rfl⟩,rfl⟩
   have hci : (candS nm)[i]? = some (candS nm)[i]:=List.getElem?_eq_getElem hi
   have hx : ((candS nm).map V.str)[i]? = some (.str (candS nm)[i]):=by rw [List.getElem?_map,hci]; rfl
   refine ⟨⟨_,_,SqL.of (h5 _),hx⟩,?_⟩
   rintro x H' ⟨rfl,hall⟩
   have ex:=hall _ (SqL.of (h5 _))
   rw [hx] at ex
   cases ex
   refine ⟨_,rfl,_,rfl,t,_,rfl,.inl (hSt _),rfl,flat_strs told,_,rfl,?_⟩
   have lenF : ∀ j,((((candS nm).take j).filter fun z=>!decide (z ∈ told)).map V.str).length < sizeLine:=fun j=>by
    rw [List.length_map]
    refine Nat.lt_of_le_of_lt (List.length_filter_le _ _) ?_
    rw [List.length_take]
    have : (candS nm).length = 105:=by
     unfold candS c7 c6q c6z c5
     simp only [List.length_append,List.length_map,List.length_singleton]
     decide
    exact small (by omega)
   refine ite2 (fun h=>?_) (fun h=>?_)
   · have hnt : (candS nm)[i] ∉ told:=by simpa [inV_str] using h
     refine ⟨_,rfl,_,upd_same,lenF i,lcW_next hi upd_same ⟨?_,⟨_,rfl⟩,by rw [upd_upd]⟩⟩
     rw [take_succ_filter _ _ _ _ hci,if_pos (by simp [hnt]),List.map_append]
     rfl
   · have hnt : (candS nm)[i] ∈ told:=by simpa [inV_str] using h
     refine lcW_next hi upd_same ⟨?_,⟨_,rfl⟩,rfl⟩
     rw [take_succ_filter _ _ _ _ hci,if_neg (by simp [hnt]),List.append_nil]
theorem ok_spelt {f fP : Addr} {fd fdP : FuncData} (F : Fun K "_law_spelt" "_law_spelt" sSpelt f fd) (T : Own mg) (FP : Fun K "_law_pick" "_law_pick" sPick fP fdP) (bP : Binds K fdP ["_law_left", "_law_many"] []) (mP : mg "_law_pick" = some (.ref fP)) :
 FnOk P w K mg base CX0 2 f fd ["_law_left", "_law_told"] (spSpelt K):=by
 have GP : FnOk P w K mg base CX0 1 fP fdP ["_law_left", "_law_many"] spPick:=ok_pick FP T
 refine F.ok scSpelt (fun vs H Q E h=>?_) (fun cdv A outer s H vs Q E hr h=>?_)
 · obtain ⟨l,t,xs,told,rfl,_⟩:=h
   rfl
 · obtain ⟨l,t,xs,told,rfl,hl,hp,hne,hS,hlt,kk⟩:=h
   obtain ⟨tR,hR,rR⟩:=spelt_rest (P:=P) (w:=w) (mg:=mg) (base:=base) (f:=f) (cdv:=cdv) (A:=A) (outer:=outer) (s:=s) (E:=E) hS hne hlt ⟨xs,hl⟩ kk
   refine ⟨_,pss_cons (ps_set (i:=2) scSpelt.nd rfl (Or.inr rfl) pe_str)
    (pss_cons (ps_set (i:=3) scSpelt.nd rfl (Or.inl rfl) (pe_bm PySem.F.plainAttrs_str PySem.F.slot_str_split PySem.F.type_str_split mt_split pe_str (pa_cons pe_str pa_nil)))
    (pss_cons (ps_set (i:=4) scSpelt.nd rfl (Or.inl rfl) (pe_op op_add pe_int (pe_call GP hr rfl mP FP.kp bP .nil pass0 (pa_cons (pv 0) (pa_cons pe_int pa_nil)))))
    (pss_cons (ps_set (i:=5) scSpelt.nd rfl (Or.inr rfl) (pe_ix ix_list (pv 3) (pe_call GP hr rfl mP FP.kp bP .nil pass0 (pa_cons (pv 0) (pa_cons pe_int pa_nil))) (fun _ _=>rfl)))
    (pss_cons (ps_if (pt_cmpR op_lt (pv 4) pe_int (nomark _))
     (pss_one (ps_set (i:=5) scSpelt.nd rfl (Or.inr rfl) (pe_bm PySem.F.plainAttrs_str PySem.F.slot_str_join PySem.F.type_str_join mt_join pe_str (pa_cons
      (pe_lc (N:=["_law_k", "_law_left", "_law_letters"]) (js:=[none,some 0,some 2]) (by kernel_rfl) rfl (pi_range1 rfl T.range (pa_cons (pv 4) pa_nil)) (fun _ _ _ _ _ _=>pg_name (i:=0) ndKLL rfl (Or.inl rfl) (.inr rfl)) (fun _ _ _ _ _ _=>pifs_nil)
       (fun _ _ _ _ _ _=>pe_ix ix_str (pv 2) (pe_call GP hr rfl mP FP.kp bP .nil pass0 (pa_cons (pv 1) (pa_cons pe_int pa_nil))) (fun _ _=>rfl))) pa_nil)))) pss_nil) hR)))),?_⟩
   refine ⟨rfl,_,_,rfl,rfl,(by decide +kernel),(by decide +kernel),(by decide +kernel),fun w1 hw1=>?_⟩
   rw [words_split]
   have nw : l ≠ w1:=ne_of_none hl hw1
   refine ⟨_,rfl,l,xs,9,rfl,(by rw [upd_ne nw]; exact hl),hp,by decide,by decide,fun d ys H2 d0 d1 hp2 hl2 kp2=>⟨_,_,rfl,rfl,?_⟩⟩
   have hw2 : H2 w1 = some (.lst (theWords.map V.str)):=kp2 w1 _ upd_same (Ne.symm nw)
   refine ⟨_,rfl,_,rfl,l,ys,11,rfl,hl2,hp2,by decide,by decide,fun d2 ys2 H3 e0 e1 hp3 hl3 kp3=>?_⟩
   have hw3 : H3 w1 = some (.lst (theWords.map V.str)):=kp3 w1 _ hw2 (Ne.symm nw)
   have kp03 : Keep H H3 l:=((Keep.upd_new hw1).trans kp2).trans kp3
   have hlen : theWords.length = 11:=by decide +kernel
   have hd2 : d2.toNat < theWords.length:=by rw [hlen]; omega
   have ed2 : ((d2.toNat : Nat) : Int) = d2:=by omega
   have hat : atI (theWords.map V.str) ((d2.toNat : Nat) : Int) = some (.str theWords[d2.toNat]):=atI_nat (by rw [List.getElem?_map,List.getElem?_eq_getElem hd2]; rfl)
   rw [ed2] at hat
   have hnw : NameS theWords[d2.toNat]:=words_names _ (List.getElem_mem hd2)
   refine ⟨w1,_,_,.str theWords[d2.toNat],rfl,rfl,SqL.of hw3,hat,?_⟩
   refine ⟨_,rfl,_,_,rfl,rfl,_,rfl,?_⟩
   refine ite2 (fun hc=>?_) (fun _=>?_)
   · have hc' : (1 : Int) + d < 9:=of_decide_eq_true hc
     refine ⟨rfl,_,rfl,_,rfl,by omega,by omega,fun D hD=>?_⟩
     have nD : l ≠ D:=ne_of_none hl3 hD
     refine lc_by (1 + d).toNat (fun i acc σ H'=>∃ (zs : List Str) (v : Option V) (ys' : List V),acc = zs.map V.str ∧ zs.length = i ∧ (∀ y ∈ zs,∃ c ∈ letters,y = ⟨#[c]⟩) ∧ σ = [v,some (.ref l),some (.str abc)] ∧ pool ys' ∧ H' l = some (.lst ys') ∧ Keep H3 H' l)
      ⟨[],none,ys2,rfl,rfl,fun y hy=>(by cases hy),rfl,hp3,(by rw [upd_ne nD]; exact hl3),Keep.upd_new hD⟩ upd_same ?_ ?_
     · rintro acc σ H4 hDD ⟨zs,v,ys',rfl,hzl,hz,rfl,hp4,hl4,kp4⟩
       refine ⟨Nat.le_refl _,?_⟩
       refine ⟨"",D,zs,rfl,rfl,SqL.of hDD,?_,?_⟩
       · rw [sum_ones zs hz]
         have e0 : ("" : Str).length = 0:=by decide +kernel
         rw [e0]
         omega
       · exact rR _ ys' H4 w1 _ (joined_name (by omega) (by omega) hz) hp4 hl4 (kp03.trans kp4)
     · rintro i acc σ H4 hi hDD ⟨zs,v,ys',rfl,hzl,hz,rfl,hp4,hl4,kp4⟩
       refine ⟨hi,?_⟩
       rintro x H' ⟨rfl,rfl⟩
       refine gName_yes ?_
       refine ⟨_,rfl,_,rfl,l,ys',26,rfl,hl4,hp4,by decide,by decide,fun d' ys3 H5 c0 c1 hp5 hl5 kp5=>?_⟩
       have hll : letters.length = 26:=by decide
       have hd' : d'.toNat < letters.length:=by omega
       have ed' : ((d'.toNat : Nat) : Int) = d':=by omega
       have hat' : atI abc.cps.toList ((d'.toNat : Nat) : Int) = some letters[d'.toNat]:=atI_nat (by rw [abc_cps]; exact List.getElem?_eq_getElem hd')
       rw [ed'] at hat'
       have hD5 : H5 D = some (.lst (zs.map V.str)):=kp5 D _ hDD (Ne.symm nD)
       refine ⟨abc,d',letters[d'.toNat],rfl,rfl,(by decide +kernel),hat',_,hD5,?_,lcW_next hi upd_same ⟨zs ++ [⟨#[letters[d'.toNat]]⟩],_,ys3,?_,?_,fun y hy=>?_,rfl,hp5,?_,?_⟩⟩
       · rw [List.length_map]
         exact small (by omega)
       · rw [List.map_append]
         rfl
       · rw [List.length_append,List.length_singleton,hzl]
       · rcases List.mem_append.mp hy with hy | hy
         · exact hz y hy
         · have : y = ⟨#[letters[d'.toNat]]⟩:=by simpa using hy
           exact ⟨_,List.getElem_mem hd',this⟩
       · rw [upd_ne nD]
         exact hl5
       · intro b o hb hbl
         have nb : b ≠ D:=fun z=>by rw [z,hD] at hb; cases hb
         rw [upd_ne nb]
         exact kp5 b o (kp4 b o hb hbl) hbl
   · exact rR _ ys2 H3 w1 _ hnw hp3 hl3 kp03
end
end Gen
namespace Gen
open PySem L2
def Lit (names : List Str) (z : Str) : Prop:=z = "0" ∨ z = "1" ∨ ∃ x ∈ names,z = x ∨ z = "~" ++ x
def spLiteral (K : PySem.W.Frag) : Sp:=fun vs H Q _=>∃ (l n : Addr) (xs : List V) (names : List Str),vs = [.ref l,.ref n] ∧ H l = some (.lst xs) ∧ pool xs ∧ n ≠ l ∧ SqL K H n (names.map V.str) ∧ names.length ≤ 200 ∧ (∀ z ∈ names,NameS z) ∧
 ∀ (z : Str) (ys : List V) (H' : Hp),Lit names z → pool ys → H' l = some (.lst ys) → Keep H H' l → Q (.str z) H'
theorem atI_strs {names : List Str} {i : Int} (h0 : 0 ≤ i) (h1 : i.toNat < names.length) : atI (names.map V.str) i = some (.str names[i.toNat]):=by
 have e : ((i.toNat : Nat) : Int) = i:=by omega
 have:=atI_nat (xs:=names.map V.str) (j:=i.toNat) (v:=.str names[i.toNat]) (by rw [List.getElem?_map,List.getElem?_eq_getElem h1]; rfl)
 rw [e] at this
 exact this
section
variable {P : Program} {w : World} {K : PySem.W.Frag} {mg : Str → Option Value} {base : Heap}
theorem scLiteral : FnScope ["_law_left", "_law_names", "_law_spot"] ["_law_left", "_law_names"] (defScope sLiteral):=⟨rfl,rfl,rfl,by decide +kernel,rfl,by decide +kernel,by decide +kernel⟩
theorem ok_literal {f fP : Addr} {fd fdP : FuncData} (F : Fun K "_law_literal" "_law_literal" sLiteral f fd) (T : Own mg) (FP : Fun K "_law_pick" "_law_pick" sPick fP fdP) (bP : Binds K fdP ["_law_left", "_law_many"] []) (mP : mg "_law_pick" = some (.ref fP)) :
 FnOk P w K mg base CX0 2 f fd ["_law_left", "_law_names"] (spLiteral K):=by
 have GP : FnOk P w K mg base CX0 1 fP fdP ["_law_left", "_law_many"] spPick:=ok_pick FP T
 refine F.ok scLiteral (fun vs H Q E h=>?_) (fun cdv A outer s H vs Q E hr h=>?_)
 · obtain ⟨l,n,xs,names,rfl,_⟩:=h
   rfl
 · obtain ⟨l,n,xs,names,rfl,hl,hp,hne,hS,hlt,hnm,kk⟩:=h
   refine ⟨_,pss_cons (ps_set (i:=2) scLiteral.nd rfl (Or.inl rfl) (pe_call GP hr rfl mP FP.kp bP .nil pass0 (pa_cons (pv 0) (pa_cons (pe_op op_add (pe_op op_mul pe_int (pe_callB call_len_seq (by rfl) T.len PySem.boot_len (pa_cons (pv 1) pa_nil))) pe_int) pa_nil))))
    (pss_cons (ps_if (pt_cmpR op_gt (pv 2) (pe_op op_sub (pe_op op_mul pe_int (pe_callB call_len_seq (by rfl) T.len PySem.boot_len (pa_cons (pv 1) pa_nil))) pe_int) (nomark _))
     (pss_one (ps_ret (pe_ix ix_str pe_str (pe_op op_mod (pv 2) pe_int) (fun _ _=>rfl)))) pss_nil)
    (pss_one (ps_ret (pe_op op_add_str (pe_ix ix_list (pe_lst (pa_cons pe_str (pa_cons pe_str pa_nil))) (pe_op op_mod (pv 2) pe_int) (fun _ _=>rfl)) (pe_ix ix_list (pv 1) (pe_op op_fdiv (pv 2) pe_int) (fun _ _=>rfl)))))),?_⟩
   have el : ((names.map V.str).length : Int) = (names.length : Int):=by rw [List.length_map]
   refine ⟨_,rfl,_,rfl,n,_,rfl,.inl hS,_,_,rfl,rfl,.inl ⟨by decide,by decide⟩,_,_,rfl,rfl,l,xs,_,rfl,hl,hp,(by rw [el]; omega),(by rw [el]; omega),fun d ys H2 d0 d1 hp2 hl2 kp2=>?_⟩
   rw [el] at d1
   have hS2 : SqL K H2 n (names.map V.str):=kp2.seq hl hS hne
   refine ⟨_,rfl,_,rfl,n,_,rfl,.inl hS2,_,_,rfl,rfl,.inl ⟨by decide,by decide⟩,_,_,rfl,rfl,_,_,rfl,rfl,_,rfl,?_⟩
   have m0 : 0 ≤ d % 2:=Int.emod_nonneg _ (by decide)
   have m2 : d % 2 < 2:=Int.emod_lt_of_pos _ (by decide)
   refine ite2 (fun hc=>?_) (fun hc=>?_)
   · have c2 : ("01" : Str).cps.toList = [48,49]:=by decide +kernel
     refine ⟨_,rfl,_,_,rfl,rfl,(by show (0 : Int) < 2; decide), "01",_,if d % 2 = 0 then 48 else 49,rfl,rfl,(by decide +kernel),?_,kk _ ys H2 ?_ hp2 hl2 kp2⟩
     · rw [c2]
       rcases (show d % 2 = 0 ∨ d % 2 = 1 by omega) with e | e
       · rw [e]; rfl
       · rw [e]; rfl
     · rcases (show d % 2 = 0 ∨ d % 2 = 1 by omega) with e | e
       · rw [e]; exact .inl (by decide +kernel)
       · rw [e]; exact .inr (.inl (by decide +kernel))
   · have hc' : ¬ (2 * ((names.map V.str).length : Int) - 1 < d):=fun h=>hc (decide_eq_true h)
     rw [el] at hc'
     refine ⟨(by show 2 ≤ sizeLine; decide),fun p hpn=>?_⟩
     have hd2 : (d / 2).toNat < names.length:=by omega
     have hS3 : SqL K (upd H2 p (.lst [.str "",.str "~"])) n (names.map V.str):=Same.seq (Same.upd_new hpn) hS2
     have nl : l ≠ p:=ne_of_none hl2 hpn
     refine ⟨_,rfl,_,_,rfl,rfl,(by show (0 : Int) < 2; decide),p,_,_,.str (if d % 2 = 0 then "" else "~"),rfl,rfl,SqL.of upd_same,?_,_,rfl,_,rfl,_,_,rfl,rfl,⟨by decide,by decide⟩,n,_,_,_,rfl,rfl,hS3,atI_strs (by omega) hd2,_,_,rfl,rfl,?_,?_⟩
     · rcases (show d % 2 = 0 ∨ d % 2 = 1 by omega) with e | e
       · rw [e]; rfl
       · rw [e]; rfl
     · have h8:=(hnm _ (List.getElem_mem hd2)).len
       have h1 : (if d % 2 = 0 then ("" : Str) else "~").length ≤ 1:=by
        split
        · decide +kernel
        · decide +kernel
       exact line8 (by omega)
     · refine kk _ ys _ ?_ hp2 (by rw [upd_ne nl]; exact hl2) (kp2.trans (Keep.upd_new hpn))
       refine .inr (.inr ⟨_,List.getElem_mem hd2,?_⟩)
       rcases (show d % 2 = 0 ∨ d % 2 = 1 by omega) with e | e
       · left
         rw [if_pos e]
         exact str_ext (by rw [app_cps,empty_cps,List.nil_append])
       · right
         rw [if_neg (by omega)]
end
def TupsAt (H : Hp) (p : Addr) (rs : List (List V)) : Prop:=∃ ts : List Addr,H p = some (.lst (ts.map V.ref)) ∧ Paired (fun t r=>H t = some (.tup r)) ts rs
def row2 (r : Str × Str) : List V:=[.str r.1,.str r.2]
structure Wishes (names told : List Str) (rows : List (Str × Str)) : Prop where
 nm : ∀ r ∈ rows,NameS r.1
 lit : ∀ r ∈ rows,Lit names r.2
 ut : ∀ r ∈ rows,r.1 ∉ told
 nd : (rows.map (·.1)).Nodup
theorem TupsAt.keep {H H' : Hp} {p l : Addr} {rs : List (List V)} {xs : List V} (h : TupsAt H p rs) (k : Keep H H' l) (hl : H l = some (.lst xs)) (hp : p ≠ l) : TupsAt H' p rs:=by
 obtain ⟨ts,h1,h2⟩:=h
 exact ⟨ts,k p _ h1 hp,Paired.mapP h2 fun t r e=>k t _ e (ne_of e hl (by intro z; cases z))⟩
theorem TupsAt.same {H H' : Hp} {p : Addr} {rs : List (List V)} (h : TupsAt H p rs) (k : Same H H') : TupsAt H' p rs:=by
 obtain ⟨ts,h1,h2⟩:=h
 exact ⟨ts,k p _ h1,Paired.mapP h2 fun t r e=>k t _ e⟩
theorem paired_at {α β : Type} {F : α → β → Prop} : ∀ {l₁ : List α} {l₂ : List β} {i : Nat} {b : β},Paired F l₁ l₂ → l₂[i]? = some b → ∃ a,l₁[i]? = some a ∧ F a b
 | _,_,i,b,.nil,h=>by simp at h
 | _,_,0,b,.cons h t,e=>⟨_,rfl,by simpa using (show _ = _ from Option.some.inj e) ▸ h⟩
 | _,_,i + 1,b,.cons h t,e=>let ⟨a,h1,h2⟩:=paired_at t (i:=i) (b:=b) (by simpa using e); ⟨a,by simpa using h1,h2⟩
theorem TupsAt.snoc {H : Hp} {p t : Addr} {rs : List (List V)} {r : List V} {ts : List Addr} (h2 : Paired (fun t r=>H t = some (.tup r)) ts rs) (ht : H t = some (.tup r)) (hp : ∀ a xs,H a = some (.tup xs) → a ≠ p) :
 TupsAt (upd H p (.lst (ts.map V.ref ++ [V.ref t]))) p (rs ++ [r]):=by
 refine ⟨ts ++ [t],?_,Paired.snoc (Paired.mapP h2 fun a b e=>?_) ?_⟩
 · rw [upd_same,List.map_append]
   rfl
 · rw [upd_ne (hp a b e)]
   exact e
 · rw [upd_ne (hp t r ht)]
   exact ht
def spWishes (K : PySem.W.Frag) : Sp:=fun vs H Q _=>∃ (l n t : Addr) (xs : List V) (names told : List Str) (m : Int),vs = [.ref l,.ref n,.ref t,.int m] ∧ H l = some (.lst xs) ∧ pool xs ∧ n ≠ l ∧ t ≠ l ∧ SqL K H n (names.map V.str) ∧ names.length ≤ 200 ∧ (∀ z ∈ names,NameS z) ∧
 H t = some (.lst (told.map V.str)) ∧ told.length ≤ 20 ∧ 0 ≤ m ∧ m ≤ 20 ∧
 ∀ (p : Addr) (rows : List (Str × Str)) (ys : List V) (H' : Hp),H p = none → Wishes names told rows → rows.length = m.toNat → TupsAt H' p (rows.map row2) → pool ys → H' l = some (.lst ys) → Keep H H' l → Q (.ref p) H'
section
variable {P : Program} {w : World} {K : PySem.W.Frag} {mg : Str → Option Value} {base : Heap}
abbrev nWishes : List Str:=["_law_left", "_law_names", "_law_told", "_law_many", "_law_found", "_law_k", "_law_wish"]
abbrev pWishes : List Str:=["_law_left", "_law_names", "_law_told", "_law_many"]
theorem scWishes : FnScope nWishes pWishes (defScope sWishes):=⟨rfl,rfl,rfl,by decide +kernel,rfl,by decide +kernel,by decide +kernel⟩
theorem ndO : (["_law_one"] : List Str).Nodup:=by decide +kernel
theorem lc_firsts {D p : Addr} {Q : Hp → Prop} {H1 : Hp} {rows : List (Str × Str)} {ts : List Addr} (hD : H1 D = none) (hp : H1 p = some (.lst (ts.map V.ref))) (h2 : Paired (fun t r=>H1 t = some (.tup r)) ts (rows.map row2)) (hlen : rows.length ≤ 100)
 (fin : Q (upd H1 D (.lst ((rows.map (·.1)).map V.str)))) :
 ∃ W : Nat → Nat → St → Hp → Prop,(∃ m,W 0 m [none] (upd H1 D (.lst []))) ∧ bLC D (gName 0) tYes (tOp (rIxT K) (tVar 0) (tC (.int 0))) (Itl K p) W Q:=by
 have np : p ≠ D:=ne_of_none hp hD
 have hp' : ∀ o,(upd H1 D o) p = some (.lst (ts.map V.ref)):=fun o=>by rw [upd_ne np]; exact hp
 have hl2:=h2.length
 rw [List.length_map] at hl2
 refine lc_by rows.length (fun i acc σ H=>acc = ((rows.take i).map (·.1)).map V.str ∧ (∃ v,σ = [v]) ∧ H = upd H1 D (.lst acc)) ⟨rfl,⟨none,rfl⟩,rfl⟩ upd_same ?_ ?_
 · rintro acc σ H _ ⟨rfl,_,rfl⟩
   refine ⟨⟨_,SqL.of (hp' _),by rw [List.length_map,hl2]; exact Nat.le_refl _⟩,?_⟩
   rw [List.take_length]
   exact fin
 · rintro i acc σ H hi hDD ⟨rfl,⟨v,rfl⟩,rfl⟩
   have hri : rows[i]? = some rows[i]:=List.getElem?_eq_getElem hi
   obtain ⟨t,ht,hT⟩:=paired_at h2 (i:=i) (b:=row2 rows[i]) (by rw [List.getElem?_map,hri]; rfl)
   have hx : (ts.map V.ref)[i]? = some (.ref t):=by rw [List.getElem?_map,ht]; rfl
   refine ⟨⟨_,_,SqL.of (hp' _),hx⟩,?_⟩
   rintro x H' ⟨rfl,hall⟩
   have ex:=hall _ (SqL.of (hp' _))
   rw [hx] at ex
   cases ex
   refine gName_yes ?_
   have nt : t ≠ D:=ne_of_none hT hD
   refine ⟨_,rfl,t,_,_,.str rows[i].1,rfl,rfl,SqT.of (by rw [upd_ne nt]; exact hT),rfl,_,upd_same,?_,lcW_next hi upd_same ⟨?_,⟨_,rfl⟩,by rw [upd_upd]⟩⟩
   · rw [List.length_map,List.length_map,List.length_take]
     exact small (by omega)
   · rw [take_next (·.1) hri,List.map_append]
     rfl
theorem ok_wishes {f fS fL fP : Addr} {fd fdS fdL fdP : FuncData} (F : Fun K "_law_wishes" "_law_wishes" sWishes f fd) (T : Own mg) (FP : Fun K "_law_pick" "_law_pick" sPick fP fdP) (bP : Binds K fdP ["_law_left", "_law_many"] []) (mP : mg "_law_pick" = some (.ref fP))
 (FS : Fun K "_law_spelt" "_law_spelt" sSpelt fS fdS) (bS : Binds K fdS ["_law_left", "_law_told"] []) (mS : mg "_law_spelt" = some (.ref fS)) (FL : Fun K "_law_literal" "_law_literal" sLiteral fL fdL) (bL : Binds K fdL ["_law_left", "_law_names"] []) (mL : mg "_law_literal" = some (.ref fL)) :
 FnOk P w K mg base CX0 3 f fd pWishes (spWishes K):=by
 have GS : FnOk P w K mg base CX0 2 fS fdS ["_law_left", "_law_told"] (spSpelt K):=ok_spelt FS T FP bP mP
 have GL : FnOk P w K mg base CX0 2 fL fdL ["_law_left", "_law_names"] (spLiteral K):=ok_literal FL T FP bP mP
 refine F.ok scWishes (fun vs H Q E h=>?_) (fun cdv A outer s H vs Q E hr h=>?_)
 · obtain ⟨l,n,t,xs,names,told,m,rfl,_⟩:=h
   rfl
 · obtain ⟨l,n,t,xs,names,told,m,rfl,hl,hp,hnl,htl,hS,hnn,hnm,hT,htn,m0,m1,kk⟩:=h
   refine ⟨_,pss_cons (ps_set (i:=4) scWishes.nd rfl (Or.inl rfl) (pe_lst pa_nil))
    (pss_cons (ps_for PassesOwn.never rfl (pi_range1 rfl T.range (pa_cons (pv 3) pa_nil)) (pg_name (i:=5) scWishes.nd rfl (Or.inl rfl))
     (pss_cons (ps_set (i:=6) scWishes.nd rfl (Or.inl rfl) (pe_call GS hr rfl mS FS.kp bS .nil pass0 (pa_cons (pv 0) (pa_cons (pe_op op_cat (pv 2)
      (pe_lc (N:=["_law_one"]) (js:=[none]) (by kernel_rfl) rfl (pi_list (pv 4)) (fun _ _ _ _ _ _=>pg_name (i:=0) ndO rfl (Or.inl rfl) (.inr rfl)) (fun _ _ _ _ _ _=>pifs_nil)
       (fun _ _ _ _ _ _=>pe_ix (r:=rIxT K) ix_tup (pv 0) pe_int (fun _ _=>rfl)))) pa_nil))))
     (pss_one (ps_expr (pe_bm PySem.F.plainAttrs_list PySem.F.slot_list_append PySem.F.type_list_append mt_append (pv 4) (pa_cons (pe_tup (pa_cons (pv 6) (pa_cons (pe_call GL hr rfl mL FL.kp bL .nil pass0 (pa_cons (pv 0) (pa_cons (pv 1) pa_nil))) pa_nil))) pa_nil))))))
    (pss_one (ps_ret (pv 4)))),?_⟩
   refine ⟨(by show 0 ≤ sizeLine; decide),fun p hpn=>?_⟩
   have nlp : l ≠ p:=ne_of_none hl hpn
   refine ⟨_,rfl,_,rfl,by omega,by omega,for_range (n:=m.toNat) (fun i σ H2=>∃ (rows : List (Str × Str)) (v5 v6 : Option V) (ys : List V),σ = [some (.ref l),some (.ref n),some (.ref t),some (.int m),some (.ref p),v5,v6] ∧ rows.length = i ∧ Wishes names told rows ∧
    TupsAt H2 p (rows.map row2) ∧ pool ys ∧ H2 l = some (.lst ys) ∧ Keep H H2 l) ?_ ?_ ?_⟩
   · exact ⟨[],none,none,xs,rfl,rfl,⟨(fun _ h=>nomatch h),(fun _ h=>nomatch h),(fun _ h=>nomatch h),List.nodup_nil⟩,⟨[],upd_same,.nil⟩,hp,(by rw [upd_ne nlp]; exact hl),Keep.upd_new hpn⟩
   · rintro i σ H2 hi ⟨rows,v5,v6,ys,rfl,hrl,hw,⟨ts,hp2,hts⟩,hpool,hl2,kp2⟩
     have hT2 : H2 t = some (.lst (told.map V.str)):=kp2 t _ hT htl
     have hS2 : SqL K H2 n (names.map V.str):=kp2.seq hl hS hnl
     have htl2:=hts.length
     rw [List.length_map] at htl2
     refine ⟨_,rfl,_,rfl,_,rfl,p,rfl,⟨_,SqL.of hp2⟩,fun D hD=>lc_firsts hD hp2 hts (by omega) ?_⟩
     have nTD : t ≠ D:=ne_of_none hT2 hD
     have nLD : l ≠ D:=ne_of_none hl2 hD
     refine ⟨t,D,_,_,rfl,rfl,(by rw [upd_ne nTD]; exact hT2),upd_same,?_,fun q hq=>?_⟩
     · rw [List.length_map,List.length_map,List.length_map]
       exact small' (by omega)
     have nLq : l ≠ q:=ne_of_none (by rw [upd_ne nLD]; exact hl2) hq
     have sm3 : ∀ o3 o4,(upd H2 D o3) q = none → Same H2 (upd (upd H2 D o3) q o4):=fun o3 o4 hz=>(Same.upd_new hD).trans (Same.upd_new hz)
     have s23:=sm3 _ (.lst (told.map V.str ++ (rows.map (·.1)).map V.str)) hq
     generalize hG : upd _ q (HO.lst (told.map V.str ++ (rows.map (·.1)).map V.str)) = H3 at *
     have hq3 : H3 q = some (.lst ((told ++ rows.map (·.1)).map V.str)):=by rw [← hG,upd_same,List.map_append]
     have hl3 : H3 l = some (.lst ys):=s23 l _ hl2
     refine ⟨l,q,ys,told ++ rows.map (·.1),rfl,hl3,hpool,Ne.symm nLq,SqL.of hq3,(by rw [List.length_append,List.length_map]; omega),fun z ys2 H4 hz hzt hp4 hl4 kp4=>?_⟩
     have kp24 : Keep H2 H4 l:=(Same.keep s23 l).trans kp4
     have hp4' : H4 p = some (.lst (ts.map V.ref)):=kp24 p _ hp2 (Ne.symm nlp)
     have hS4 : SqL K H4 n (names.map V.str):=kp24.seq hl2 hS2 hnl
     refine ⟨_,rfl,.inl ⟨rfl,_,SqL.of hp4'⟩,_,rfl,_,rfl,_,rfl,l,n,ys2,names,rfl,hl4,hp4,hnl,hS4,hnn,hnm,fun z2 ys3 H5 hlit hp5 hl5 kp5=>?_⟩
     refine ⟨(by show 2 ≤ sizeLine; decide),fun Tp hTp=>?_⟩
     have kp25 : Keep H2 H5 l:=kp24.trans kp5
     have hp5' : H5 p = some (.lst (ts.map V.ref)):=kp25 p _ hp2 (Ne.symm nlp)
     have npT : p ≠ Tp:=ne_of_none hp5' hTp
     have nlT : l ≠ Tp:=ne_of_none hl5 hTp
     refine ⟨p,_,_,rfl,rfl,(by rw [upd_ne npT]; exact hp5'),(by rw [List.length_map]; exact small (by omega)),?_⟩
     have hw' : Wishes names told (rows ++ [(z,z2)]):=by
      have hzt' : z ∉ told ∧ z ∉ rows.map (·.1):=by
       constructor
       · exact fun h=>hzt (List.mem_append_left _ h)
       · exact fun h=>hzt (List.mem_append_right _ h)
      refine ⟨fun r hr=>?_,fun r hr=>?_,fun r hr=>?_,?_⟩
      · rcases List.mem_append.mp hr with hr | hr
        · exact hw.nm r hr
        · rw [List.mem_singleton.mp hr]; exact hz
      · rcases List.mem_append.mp hr with hr | hr
        · exact hw.lit r hr
        · rw [List.mem_singleton.mp hr]; exact hlit
      · rcases List.mem_append.mp hr with hr | hr
        · exact hw.ut r hr
        · rw [List.mem_singleton.mp hr]; exact hzt'.1
      · rw [List.map_append,List.nodup_append]
        refine ⟨hw.nd,by simp,fun a ha b hb e=>?_⟩
        have : b = z:=by simpa using hb
        rw [this] at e
        exact hzt'.2 (e ▸ ha)
     refine ⟨rows ++ [(z,z2)],_,_,ys3,rfl,(by rw [List.length_append,List.length_singleton,hrl]),hw',?_,hp5,(by rw [upd_ne nlp,upd_ne nlT]; exact hl5),fun b o hb hbl=>?_⟩
     · rw [List.map_append]
       refine TupsAt.snoc (Paired.mapP hts fun a r e=>?_) upd_same fun a xs' e z'=>?_
       · have ea:=kp25 a _ e (ne_of e hl2 (by intro z; cases z))
         rw [upd_ne (ne_of_none ea hTp)]
         exact ea
       · rw [z',upd_ne npT,hp5'] at e
         cases e
     · have e5:=kp25 b o (kp2 b o hb hbl) hbl
       rw [upd_ne (ne_of_none hb hpn),upd_ne (ne_of_none e5 hTp)]
       exact e5
   · rintro σ H2 ⟨rows,v5,v6,ys,rfl,hrl,hw,htp,hpool,hl2,kp2⟩
     exact ⟨_,rfl,kk p rows ys H2 hpn hw hrl htp hpool hl2 kp2⟩
end
end Gen
namespace Gen
open PySem L2
structure Mach where
 switches : List Str
 keepers : List (Str × V)
 gates : List (Str × Str × Str)
 nexts : List (Str × Str)
 nevers : List (Str × Str)
 somes : List (Str × Str)
def rowK (r : Str × V) : List V:=[.str r.1,r.2]
def rowG (r : Str × Str × Str) : List V:=[.str r.1,.str r.2.1,.str r.2.2]
def machKvs (a1 a2 a3 a4 a5 a6 : Addr) : List (Key × V) :=
 [(.inr "switches",.ref a1),(.inr "keepers",.ref a2),(.inr "gates",.ref a3),(.inr "nexts",.ref a4),(.inr "nevers",.ref a5),(.inr "somes",.ref a6)]
structure MachAt (H : Hp) (m : Addr) (M : Mach) (a1 a2 a3 a4 a5 a6 : Addr) : Prop where
 top : H m = some (.dK (machKvs a1 a2 a3 a4 a5 a6))
 sw : H a1 = some (.lst (M.switches.map V.str))
 kp : TupsAt H a2 (M.keepers.map rowK)
 gt : TupsAt H a3 (M.gates.map rowG)
 nx : TupsAt H a4 (M.nexts.map row2)
 nv : TupsAt H a5 (M.nevers.map row2)
 sm : TupsAt H a6 (M.somes.map row2)
structure MachOk (M : Mach) (names : List Str) : Prop where
 all : names = M.switches ++ M.keepers.map (·.1) ++ M.gates.map (·.1)
 nm : ∀ z ∈ names,NameS z
 nd : names.Nodup
 first : ∀ r ∈ M.keepers,r.2 = .int 0 ∨ r.2 = .int 1 ∨ r.2 = .non
 nxk : ∀ r ∈ M.nexts,r.1 ∈ M.keepers.map (·.1)
 nxl : ∀ r ∈ M.nexts,Lit names r.2
 nxd : (M.nexts.map (·.1)).Nodup
 nvw : Wishes names [] M.nevers
 smw : Wishes names (M.nevers.map (·.1)) M.somes
 gl : ∀ (i : Nat) (r : Str × Str × Str),M.gates[i]? = some r → Lit (M.switches ++ M.keepers.map (·.1) ++ (M.gates.take i).map (·.1)) r.2.1 ∧ Lit (M.switches ++ M.keepers.map (·.1) ++ (M.gates.take i).map (·.1)) r.2.2
def SzAt (K : PySem.W.Frag) (H : Hp) (z : Addr) (s0 s1 s2 s3 : Int) : Prop:=(SqL K H z [.int s0,.int s1,.int s2,.int s3] ∨ SqT K H z [.int s0,.int s1,.int s2,.int s3]) ∧ (0 ≤ s0 ∧ s0 ≤ 12) ∧ (0 ≤ s1 ∧ s1 ≤ 16) ∧ (0 ≤ s2 ∧ s2 ≤ 60) ∧ 1 ≤ s3 ∧ s3 ≤ 8
theorem Same.seqT {K : PySem.W.Frag} {H H' : Hp} {a : Addr} {xs : List V} (e : Same H H') (h : SqT K H a xs) : SqT K H' a xs:=by
 rcases h with (h | ⟨o,h⟩) | h
 · exact .inl (.inl (e a _ h))
 · exact .inl (.inr ⟨o,e a _ h⟩)
 · exact .inr h
theorem SzAt.same {K : PySem.W.Frag} {H H' : Hp} {z : Addr} {s0 s1 s2 s3 : Int} (h : SzAt K H z s0 s1 s2 s3) (k : Same H H') : SzAt K H' z s0 s1 s2 s3:=⟨h.1.imp (Same.seq k) (Same.seqT k),h.2⟩
theorem SzAt.ix {K : PySem.W.Frag} {H : Hp} {z : Addr} {s0 s1 s2 s3 : Int} (h : SzAt K H z s0 s1 s2 s3) {i : Int} {v : V} {Q : VK} (hi : atI [V.int s0,.int s1,.int s2,.int s3] i = some v) (q : Q v H) : rIx K (.ref z) (.int i) H Q:=by
 rcases h.1 with h | h
 · exact .inl ⟨z,_,i,v,rfl,rfl,h,hi,q⟩
 · exact .inr (.inl ⟨z,_,i,v,rfl,rfl,h,hi,q⟩)
abbrev nDig : List Str:=["_law_cells", "_law_sizes", "_law_k", "_law_a", "_law_b", "_law_c", "_law_names", "_law_switches", "_law_keepers", "_law_gates", "_law_name", "_law_nexts", "_law_keeper", "_law_first", "_law_nevers", "_law_somes", "_law_made"]
abbrev pDig : List Str:=["_law_cells", "_law_sizes"]
theorem scDig : FnScope nDig pDig (defScope sDigits):=⟨rfl,rfl,rfl,by decide +kernel,rfl,by decide +kernel,by decide +kernel⟩
abbrev cxDig (P : Program) (w : World) (K : PySem.W.Frag) (mg : Str → Option Value) (base : Heap) (f : Addr) (cdv : Value) (A : Around) (outer : List Env) (s : Shared) (H : Hp) (E : XK) : Cx :=
 (cxOf CX0 P w K mg base nDig "_law_machine_digits" (defScope sDigits) f cdv A outer s H E).nox
section
variable {P : Program} {w : World} {K : PySem.W.Frag} {mg : Str → Option Value} {base : Heap}
structure Defs (P : Program) (w : World) (K : PySem.W.Frag) (mg : Str → Option Value) (base : Heap) (fP fS fL fW fR : Addr) (dP dS dL dW dR : FuncData) : Prop where
 T : Own mg
 gP : FnOk P w K mg base CX0 1 fP dP ["_law_left", "_law_many"] spPick
 mP : mg "_law_pick" = some (.ref fP)
 kP : PySem.W.keepIn K (.ref fP) = true
 bP : Binds K dP ["_law_left", "_law_many"] []
 gS : FnOk P w K mg base CX0 2 fS dS ["_law_left", "_law_told"] (spSpelt K)
 mS : mg "_law_spelt" = some (.ref fS)
 kS : PySem.W.keepIn K (.ref fS) = true
 bS : Binds K dS ["_law_left", "_law_told"] []
 gL : FnOk P w K mg base CX0 2 fL dL ["_law_left", "_law_names"] (spLiteral K)
 mL : mg "_law_literal" = some (.ref fL)
 kL : PySem.W.keepIn K (.ref fL) = true
 bL : Binds K dL ["_law_left", "_law_names"] []
 gW : FnOk P w K mg base CX0 3 fW dW pWishes (spWishes K)
 mW : mg "_law_wishes" = some (.ref fW)
 kW : PySem.W.keepIn K (.ref fW) = true
 bW : Binds K dW pWishes []
 gR : FnOk P w K mg base CX0 2 fR dR ["_law_cell", "_law_k"] spRich
 mR : mg "_law_rich" = some (.ref fR)
 kR : PySem.W.keepIn K (.ref fR) = true
 bR : Binds K dR ["_law_cell", "_law_k"] []
variable {fP fS fL fW fR : Addr} {dP dS dL dW dR : FuncData}
structure AtD (K : PySem.W.Frag) (H : Hp) (z c n a1 a2 a3 a4 : Addr) (s0 s1 s2 s3 : Int) (names sw : List Str) (kp : List (Str × V)) (gt : List (Str × Str × Str)) (nx : List (Str × Str)) : Prop where
 pc : ∃ xs,H c = some (.lst xs) ∧ pool xs
 hz : SzAt K H z s0 s1 s2 s3
 zc : z ≠ c
 hn : H n = some (.lst (names.map V.str))
 nc : n ≠ c
 nl : names.length ≤ 100
 nm : ∀ x ∈ names,NameS x
 h1 : H a1 = some (.lst (sw.map V.str))
 c1 : a1 ≠ c
 h2 : TupsAt H a2 (kp.map rowK)
 c2 : a2 ≠ c
 h3 : TupsAt H a3 (gt.map rowG)
 c3 : a3 ≠ c
 h4 : TupsAt H a4 (nx.map row2)
 c4 : a4 ≠ c
theorem Keep.seqT {H H' : Hp} {a l : Addr} {xs n : List V} (e : Keep H H' l) (hl : H l = some (.lst n)) (h : SqT K H a xs) (hne : a ≠ l) : SqT K H' a xs:=by
 rcases h with (h | ⟨o,h⟩) | h
 · exact .inl (.inl (e a _ h hne))
 · exact .inl (.inr ⟨o,e a _ h hne⟩)
 · exact .inr h
theorem AtD.keep {H H' : Hp} {z c n a1 a2 a3 a4 : Addr} {s0 s1 s2 s3 : Int} {names sw : List Str} {kp : List (Str × V)} {gt : List (Str × Str × Str)} {nx : List (Str × Str)} {ys : List V} (h : AtD K H z c n a1 a2 a3 a4 s0 s1 s2 s3 names sw kp gt nx) (k : Keep H H' c) (hy : H' c = some (.lst ys)) (hp : pool ys) :
 AtD K H' z c n a1 a2 a3 a4 s0 s1 s2 s3 names sw kp gt nx:=by
 obtain ⟨xs,hc,_⟩:=h.pc
 exact ⟨⟨ys,hy,hp⟩,⟨h.hz.1.imp (fun q=>k.seq hc q h.zc) (fun q=>Keep.seqT k hc q h.zc),h.hz.2⟩,h.zc,k n _ h.hn h.nc,h.nc,h.nl,h.nm,k a1 _ h.h1 h.c1,h.c1,h.h2.keep k hc h.c2,h.c2,h.h3.keep k hc h.c3,h.c3,h.h4.keep k hc h.c4,h.c4⟩
theorem AtD.same {H H' : Hp} {z c n a1 a2 a3 a4 : Addr} {s0 s1 s2 s3 : Int} {names sw : List Str} {kp : List (Str × V)} {gt : List (Str × Str × Str)} {nx : List (Str × Str)} (h : AtD K H z c n a1 a2 a3 a4 s0 s1 s2 s3 names sw kp gt nx) (k : Same H H') :
 AtD K H' z c n a1 a2 a3 a4 s0 s1 s2 s3 names sw kp gt nx:=by
 obtain ⟨xs,hc,hp⟩:=h.pc
 exact ⟨⟨xs,k c _ hc,hp⟩,h.hz.same k,h.zc,k n _ h.hn,h.nc,h.nl,h.nm,k a1 _ h.h1,h.c1,h.h2.same k,h.c2,h.h3.same k,h.c3,h.h4.same k,h.c4⟩
theorem dig_D (G : Defs P w K mg base fP fS fL fW fR dP dS dL dW dR) {f : Addr} {cdv : Value} {A : Around} {outer : List Env} {s : Shared} {H : Hp} {E : XK} {Q : VK} (hr : Room 3 (A.deeper (PyProof.Rows.envOfC "_law_machine_digits" (defScope sDigits) s.heap.objs.size f cdv))) :
 ∃ tR : TS,PSs (cxDig P w K mg base f cdv A outer s H E) (List.drop 10 (defBody sDigits)) tR ∧ ∀ (σ : St) (H1 : Hp) (v0 v2 v3 v4 v10 v12 v13 : Option V) (z c n a1 a2 a3 a4 : Addr) (s0 s1 s2 s3 : Int) (names sw : List Str) (kp : List (Str × V)) (gt : List (Str × Str × Str)) (nx : List (Str × Str)),
  σ = [v0,some (.ref z),v2,v3,v4,some (.ref c),some (.ref n),some (.ref a1),some (.ref a2),some (.ref a3),v10,some (.ref a4),v12,v13,none,none,none] →
  AtD K H1 z c n a1 a2 a3 a4 s0 s1 s2 s3 names sw kp gt nx →
  (∀ (m : Addr) (nv sm : List (Str × Str)) (a5 a6 : Addr) (H' : Hp),Wishes names [] nv → Wishes names (nv.map (·.1)) sm → 1 ≤ nv.length → (nv.length : Int) ≤ s3 → (sm.length : Int) ≤ s3 → MachAt H' m ⟨sw,kp,gt,nx,nv,sm⟩ a1 a2 a3 a4 a5 a6 → Keep H1 H' c → Q (.ref m) H') →
  tR { nx:=fun _ H'=>Q .non H',rt:=Q } σ H1:=by
 have hr1 : Room 1 _:=hr.mono (by decide)
 have hu:=hu_of hr
 refine ⟨_,pss_cons (ps_set (i:=14) scDig.nd rfl (Or.inl rfl) (pe_call G.gW hr rfl G.mW G.kW G.bW .nil pass0 (pa_cons (pv 5) (pa_cons (pv 6) (pa_cons (pe_lst pa_nil) (pa_cons (pe_op op_add pe_int (pe_call G.gP hr1 rfl G.mP G.kP G.bP .nil pass0 (pa_cons (pv 5) (pa_cons (pe_ix ix_seq (pv 1) pe_int (fun _ _=>rfl)) pa_nil)))) pa_nil))))))
  (pss_cons (ps_set (i:=15) scDig.nd rfl (Or.inl rfl) (pe_call G.gW hr rfl G.mW G.kW G.bW .nil pass0 (pa_cons (pv 5) (pa_cons (pv 6) (pa_cons
   (pe_lc (N:=["_law_one"]) (js:=[none]) (by kernel_rfl) rfl (pi_list (pv 14)) (fun _ _ _ _ _ _=>pg_name (i:=0) ndO rfl (Or.inl rfl) (.inr rfl)) (fun _ _ _ _ _ _=>pifs_nil) (fun _ _ _ _ _ _=>pe_ix (r:=rIxT K) ix_tup (pv 0) pe_int (fun _ _=>rfl)))
   (pa_cons (pe_call G.gP hr1 rfl G.mP G.kP G.bP .nil pass0 (pa_cons (pv 5) (pa_cons (pe_op op_add (pe_ix ix_seq (pv 1) pe_int (fun _ _=>rfl)) pe_int) pa_nil))) pa_nil))))))
  (pss_cons (ps_set (i:=16) scDig.nd rfl (Or.inl rfl) (pe_disp (pps_cons pe_str (pv 7) (pps_cons pe_str (pv 8) (pps_cons pe_str (pv 9) (pps_cons pe_str (pv 11) pps_nil)))) rfl rfl (by simp) (by decide)))
  (pss_cons (ps_dput hu (pv 16) pe_str (pv 14) rfl)
  (pss_cons (ps_dput hu (pv 16) pe_str (pv 15) rfl)
  (pss_one (ps_ret (pv 16))))))),?_⟩
 rintro σ H1 v0 v2 v3 v4 v10 v12 v13 z c n a1 a2 a3 a4 s0 s1 s2 s3 names sw kp gt nx rfl hA kk
 obtain ⟨xs,hc,hp⟩:=hA.pc
 obtain ⟨_,_,_,_,z1,z2⟩:=hA.hz
 have hnl:=hA.nl
 refine ⟨_,rfl,_,rfl,(by show 0 ≤ sizeLine; decide),fun t0 ht0=>?_⟩
 have A1:=hA.same (Same.upd_new (o:=.lst []) ht0)
 have nct : c ≠ t0:=ne_of_none hc ht0
 have hc1 : (upd H1 t0 (.lst [])) c = some (.lst xs):=by rw [upd_ne nct]; exact hc
 refine ⟨_,rfl,_,rfl,A1.hz.ix (i:=3) (v:=.int s3) rfl ?_⟩
 refine ⟨c,xs,s3,rfl,hc1,hp,by omega,by omega,fun d ys H2 d0 d1 hp2 hl2 kp2=>⟨_,_,rfl,rfl,?_⟩⟩
 have A2:=A1.keep kp2 hl2 hp2
 have ht02 : H2 t0 = some (.lst (([] : List Str).map V.str)):=kp2 t0 _ upd_same (Ne.symm nct)
 refine ⟨c,n,t0,ys,names,[],1 + d,rfl,hl2,hp2,A2.nc,Ne.symm nct,SqL.of A2.hn,by omega,A2.nm,ht02,by decide,by omega,by omega,fun a5 nv ys2 H3 ha5 hw5 hlen5 ht5 hp3 hl3 kp3=>?_⟩
 have A3:=A2.keep kp3 hl3 hp3
 have nc5 : a5 ≠ c:=Ne.symm (ne_of_none hl2 ha5)
 obtain ⟨ts,h5,hts⟩:=id ht5
 refine ⟨_,rfl,_,rfl,_,rfl,a5,rfl,⟨_,SqL.of h5⟩,fun D hD=>lc_firsts hD h5 hts (by omega) ?_⟩
 have s34 : Same H3 (upd H3 D (.lst ((nv.map (·.1)).map V.str))):=Same.upd_new hD
 have A4:=A3.same s34
 have ncD : c ≠ D:=ne_of_none hl3 hD
 have hc4 : (upd H3 D (.lst ((nv.map (·.1)).map V.str))) c = some (.lst ys2):=by rw [upd_ne ncD]; exact hl3
 refine ⟨_,rfl,_,rfl,A4.hz.ix (i:=3) (v:=.int s3) rfl ⟨_,_,rfl,rfl,c,ys2,_,rfl,hc4,hp3,by omega,by omega,fun d' ys3 H5 e0 e1 hp5 hl5 kp5=>?_⟩⟩
 have A5:=A4.keep kp5 hl5 hp5
 have hD5 : H5 D = some (.lst ((nv.map (·.1)).map V.str)):=kp5 D _ upd_same (Ne.symm ncD)
 refine ⟨c,n,D,ys3,names,nv.map (·.1),d',rfl,hl5,hp5,A5.nc,Ne.symm ncD,SqL.of A5.hn,by omega,A5.nm,hD5,(by rw [List.length_map]; omega),by omega,by omega,fun a6 sm ys4 H6 ha6 hw6 hlen6 ht6 hp6 hl6 kp6=>?_⟩
 have A6:=A5.keep kp6 hl6 hp6
 have T5 : TupsAt H6 a5 (nv.map row2):=((ht5.same s34).keep kp5 hc4 nc5).keep kp6 hl5 nc5
 have nc6 : a6 ≠ c:=Ne.symm (ne_of_none hl5 ha6)
 intro m hm
 refine ⟨_,rfl,_,rfl,_,rfl,_,rfl,upd_same,[(.inr "switches",.ref a1),(.inr "keepers",.ref a2),(.inr "gates",.ref a3),(.inr "nexts",.ref a4)],rfl,(by show 4 ≤ 15; decide),?_⟩
 rw [upd_upd]
 have em : mergeK [] [((.inr "switches" : Key),V.ref a1),(.inr "keepers",.ref a2),(.inr "gates",.ref a3),(.inr "nexts",.ref a4)] = [((.inr "switches" : Key),V.ref a1),(.inr "keepers",.ref a2),(.inr "gates",.ref a3),(.inr "nexts",.ref a4)]:=by rfl
 rw [em]
 refine ⟨_,rfl,_,rfl,m,_,rfl,DPut.k (k:=.inr "nevers") upd_same (by show 4 < sizeLine; decide),?_⟩
 rw [upd_upd]
 have en : putK [((.inr "switches" : Key),V.ref a1),(.inr "keepers",.ref a2),(.inr "gates",.ref a3),(.inr "nexts",.ref a4)] (.inr "nevers") (.ref a5) = [((.inr "switches" : Key),V.ref a1),(.inr "keepers",.ref a2),(.inr "gates",.ref a3),(.inr "nexts",.ref a4),(.inr "nevers",.ref a5)]:=by rfl
 rw [en]
 refine ⟨_,rfl,_,rfl,m,_,rfl,DPut.k (k:=.inr "somes") upd_same (by show 5 < sizeLine; decide),?_⟩
 rw [upd_upd]
 have es : putK [((.inr "switches" : Key),V.ref a1),(.inr "keepers",.ref a2),(.inr "gates",.ref a3),(.inr "nexts",.ref a4),(.inr "nevers",.ref a5)] (.inr "somes") (.ref a6) = machKvs a1 a2 a3 a4 a5 a6:=by rfl
 rw [es]
 have s67 : Same H6 (upd H6 m (.dK (machKvs a1 a2 a3 a4 a5 a6))):=Same.upd_new hm
 have A7:=A6.same s67
 refine ⟨_,rfl,kk m nv sm a5 a6 _ hw5 hw6 (by omega) (by omega) (by omega) ⟨upd_same,A7.h1,A7.h2,A7.h3,A7.h4,T5.same s67,ht6.same s67⟩ ?_⟩
 exact (((((Keep.upd_new ht0).trans kp2).trans kp3).trans (Same.keep s34 c)).trans (kp5.trans kp6)).trans (Same.keep s67 c)
end
end Gen
namespace Gen
open PySem L2
theorem paired_take {α β : Type} {F : α → β → Prop} : ∀ {l₁ : List α} {l₂ : List β} (k : Nat),Paired F l₁ l₂ → Paired F (l₁.take k) (l₂.take k)
 | _,_,k,.nil=>by simp only [List.take_nil]; exact .nil
 | _,_,0,.cons _ _=>.nil
 | _,_,k + 1,.cons h t=>.cons h (paired_take k t)
theorem paired_drop {α β : Type} {F : α → β → Prop} : ∀ {l₁ : List α} {l₂ : List β} (k : Nat),Paired F l₁ l₂ → Paired F (l₁.drop k) (l₂.drop k)
 | _,_,k,.nil=>by simp only [List.drop_nil]; exact .nil
 | _,_,0,.cons h t=>.cons h t
 | _,_,k + 1,.cons h t=>paired_drop k t
theorem paired_append {α β : Type} {F : α → β → Prop} : ∀ {l₁ m₁ : List α} {l₂ m₂ : List β},Paired F l₁ l₂ → Paired F m₁ m₂ → Paired F (l₁ ++ m₁) (l₂ ++ m₂)
 | _,_,_,_,.nil,h=>h
 | _,_,_,_,.cons a t,h=>.cons a (paired_append t h)
section
variable {P : Program} {w : World} {K : PySem.W.Frag} {mg : Str → Option Value} {base : Heap} {fP fS fL fW fR : Addr} {dP dS dL dW dR : FuncData}
structure AtC (K : PySem.W.Frag) (H : Hp) (z c n a1 a2 a3 : Addr) (s0 s1 s2 s3 : Int) (names sw : List Str) (kp : List (Str × V)) (gt : List (Str × Str × Str)) : Prop where
 pc : ∃ xs,H c = some (.lst xs) ∧ pool xs
 hz : SzAt K H z s0 s1 s2 s3
 zc : z ≠ c
 hn : H n = some (.lst (names.map V.str))
 nc : n ≠ c
 nl : names.length ≤ 100
 nm : ∀ x ∈ names,NameS x
 h1 : H a1 = some (.lst (sw.map V.str))
 c1 : a1 ≠ c
 h2 : TupsAt H a2 (kp.map rowK)
 c2 : a2 ≠ c
 h3 : TupsAt H a3 (gt.map rowG)
 c3 : a3 ≠ c
 kd : (kp.map (·.1)).Nodup
 kl : kp.length ≤ 16
theorem AtC.keep {H H' : Hp} {z c n a1 a2 a3 : Addr} {s0 s1 s2 s3 : Int} {names sw : List Str} {kp : List (Str × V)} {gt : List (Str × Str × Str)} {ys : List V} (h : AtC K H z c n a1 a2 a3 s0 s1 s2 s3 names sw kp gt) (k : Keep H H' c) (hy : H' c = some (.lst ys)) (hp : pool ys) :
 AtC K H' z c n a1 a2 a3 s0 s1 s2 s3 names sw kp gt:=by
 obtain ⟨xs,hc,_⟩:=h.pc
 exact ⟨⟨ys,hy,hp⟩,⟨h.hz.1.imp (fun q=>k.seq hc q h.zc) (fun q=>Keep.seqT k hc q h.zc),h.hz.2⟩,h.zc,k n _ h.hn h.nc,h.nc,h.nl,h.nm,k a1 _ h.h1 h.c1,h.c1,h.h2.keep k hc h.c2,h.c2,h.h3.keep k hc h.c3,h.c3,h.kd,h.kl⟩
def Nexts (names : List Str) (kp : List (Str × V)) (nx : List (Str × Str)) : Prop:=(∀ r ∈ nx,r.1 ∈ kp.map (·.1) ∧ Lit names r.2) ∧ (nx.map (·.1)).Nodup
theorem nodup_ins {α : Type} {l : List α} {a : α} (h : l.Nodup) (ha : a ∉ l) (d : Nat) : (l.take d ++ [a] ++ l.drop d).Nodup:=by
 have p : (l.take d ++ [a] ++ l.drop d).Perm (a :: l):=by
  rw [List.append_assoc]
  have:=List.perm_middle (a:=a) (l₁:=l.take d) (l₂:=l.drop d)
  rw [List.take_append_drop] at this
  exact this
 exact p.nodup_iff.mpr (List.nodup_cons.mpr ⟨ha,h⟩)
theorem key_new {β : Type} : ∀ {kp : List (Str × β)} {i : Nat} (hi : i < kp.length),(kp.map (·.1)).Nodup → kp[i].1 ∉ (kp.take i).map (·.1)
 | x :: r,0,_,_=>by simp
 | x :: r,i + 1,hi,h=>by
  rw [List.map_cons,List.nodup_cons] at h
  have ih:=key_new (kp:=r) (i:=i) (by simpa using hi) h.2
  simp only [List.getElem_cons_succ,List.take_succ_cons,List.map_cons,List.mem_cons,not_or]
  refine ⟨fun e=>h.1 ?_,ih⟩
  rw [← e]
  exact List.mem_map.mpr ⟨_,List.getElem_mem _,rfl⟩
theorem key_take {β : Type} {kp : List (Str × β)} {i j : Nat} {x : Str} (hij : i ≤ j) (h : x ∈ (kp.take i).map (·.1)) : x ∈ (kp.take j).map (·.1):=by
 obtain ⟨r,hr,e⟩:=List.mem_map.mp h
 refine List.mem_map.mpr ⟨r,?_,e⟩
 have : kp.take i = (kp.take j).take i:=by rw [List.take_take,Nat.min_eq_left hij]
 rw [this] at hr
 exact List.mem_of_mem_take hr
abbrev WantD (Q : VK) (s3 : Int) (H1 : Hp) (c a1 a2 a3 : Addr) (names sw : List Str) (kp : List (Str × V)) (gt : List (Str × Str × Str)) : Prop :=
 ∀ (m : Addr) (nx nv sm : List (Str × Str)) (a4 a5 a6 : Addr) (H' : Hp),Nexts names kp nx → nx.length ≤ kp.length → Wishes names [] nv → Wishes names (nv.map (·.1)) sm → 1 ≤ nv.length → (nv.length : Int) ≤ s3 → (sm.length : Int) ≤ s3 → MachAt H' m ⟨sw,kp,gt,nx,nv,sm⟩ a1 a2 a3 a4 a5 a6 → Keep H1 H' c → Q (.ref m) H'
theorem dig_C (G : Defs P w K mg base fP fS fL fW fR dP dS dL dW dR) {f : Addr} {cdv : Value} {A : Around} {outer : List Env} {s : Shared} {H : Hp} {E : XK} {Q : VK} (hr : Room 3 (A.deeper (PyProof.Rows.envOfC "_law_machine_digits" (defScope sDigits) s.heap.objs.size f cdv))) :
 ∃ tR : TS,PSs (cxDig P w K mg base f cdv A outer s H E) (List.drop 8 (defBody sDigits)) tR ∧ ∀ (σ : St) (H1 : Hp) (v0 v2 v3 v4 v10 : Option V) (z c n a1 a2 a3 : Addr) (s0 s1 s2 s3 : Int) (names sw : List Str) (kp : List (Str × V)) (gt : List (Str × Str × Str)),
  σ = [v0,some (.ref z),v2,v3,v4,some (.ref c),some (.ref n),some (.ref a1),some (.ref a2),some (.ref a3),v10,none,none,none,none,none,none] →
  AtC K H1 z c n a1 a2 a3 s0 s1 s2 s3 names sw kp gt → WantD Q s3 H1 c a1 a2 a3 names sw kp gt →
  tR { nx:=fun _ H'=>Q .non H',rt:=Q } σ H1:=by
 have hr1 : Room 1 _:=hr.mono (by decide)
 have hr2 : Room 2 _:=hr.mono (by decide)
 obtain ⟨tD,hD,rD⟩:=dig_D G (outer:=outer) (H:=H) (E:=E) (Q:=Q) hr
 refine ⟨_,pss_cons (ps_set (i:=11) scDig.nd rfl (Or.inl rfl) (pe_lst pa_nil))
  (pss_cons (ps_for PassesOwn.never rfl (pi_list (pv 8)) (pg_tup rfl (pgs_cons (pg_name (i:=12) scDig.nd rfl (Or.inl rfl)) (pgs_cons (pg_name (i:=13) scDig.nd rfl (Or.inl rfl)) pgs_nil)))
   (pss_one (ps_if (pt_cmpR op_gt (pe_call G.gP hr1 rfl G.mP G.kP G.bP .nil pass0 (pa_cons (pv 5) (pa_cons pe_int pa_nil))) pe_int (nomark _))
    (pss_one (ps_expr (pe_bm PySem.F.plainAttrs_list PySem.F.slot_list_insert PySem.F.type_list_insert mt_insert (pv 11) (pa_cons
     (pe_call G.gP hr1 rfl G.mP G.kP G.bP .nil pass0 (pa_cons (pv 5) (pa_cons (pe_op op_add (pe_callB call_len_seq (by rfl) G.T.len PySem.boot_len (pa_cons (pv 11) pa_nil)) pe_int) pa_nil)))
     (pa_cons (pe_tup (pa_cons (pv 12) (pa_cons (pe_call G.gL hr2 rfl G.mL G.kL G.bL .nil pass0 (pa_cons (pv 5) (pa_cons (pv 6) pa_nil))) pa_nil))) pa_nil))))) pss_nil))) hD),?_⟩
 rintro σ H1 v0 v2 v3 v4 v10 z c n a1 a2 a3 s0 s1 s2 s3 names sw kp gt rfl hA kk
 obtain ⟨xs,hc,hp⟩:=hA.pc
 obtain ⟨ts,h2,hts⟩:=id hA.h2
 have hkl:=hA.kl
 have hnl:=hA.nl
 have htl:=hts.length
 rw [List.length_map] at htl
 refine ⟨(by show 0 ≤ sizeLine; decide),fun p hpn=>?_⟩
 have ncp : c ≠ p:=ne_of_none hc hpn
 have n2p : a2 ≠ p:=ne_of_none h2 hpn
 refine ⟨_,rfl,a2,rfl,⟨_,SqL.of (by rw [upd_ne n2p]; exact h2)⟩,for_list (K:=K) (a:=a2) (xs:=ts.map V.ref) (fun i σ H2=>∃ (nx : List (Str × Str)) (v12 v13 : Option V) (ys : List V),
  σ = [v0,some (.ref z),v2,v3,v4,some (.ref c),some (.ref n),some (.ref a1),some (.ref a2),some (.ref a3),v10,some (.ref p),v12,v13,none,none,none] ∧ nx.length ≤ i ∧ Nexts names (kp.take i) nx ∧ TupsAt H2 p (nx.map row2) ∧ pool ys ∧ H2 c = some (.lst ys) ∧ Keep H1 H2 c) ?_ ?_ ?_ ?_⟩
 · exact ⟨[],none,none,xs,rfl,Nat.le_refl _,⟨(fun _ h=>nomatch h),List.nodup_nil⟩,⟨[],upd_same,.nil⟩,hp,(by rw [upd_ne ncp]; exact hc),Keep.upd_new hpn⟩
 · rintro i σ H2 _ ⟨nx,v12,v13,ys,_,_,_,_,_,_,kp2⟩
   exact SqL.of (kp2 a2 _ h2 hA.c2)
 · rintro i x σ H2 hx ⟨nx,v12,v13,ys,rfl,hnx,hNx,⟨us,hp2,hus⟩,hpool,hc2,kp2⟩
   have hil : i < (ts.map V.ref).length:=(List.getElem?_eq_some_iff.mp hx).1
   rw [List.length_map,htl] at hil
   have hki : kp[i]? = some kp[i]:=List.getElem?_eq_getElem hil
   obtain ⟨t,ht,hT⟩:=paired_at hts (i:=i) (b:=rowK kp[i]) (by rw [List.getElem?_map,hki]; rfl)
   have ex : x = .ref t:=by
    rw [List.getElem?_map,ht] at hx
    exact (Option.some.inj hx).symm
   subst ex
   have hT2 : H2 t = some (.tup (rowK kp[i])):=kp2 t _ hT (ne_of hT hc (by intro z; cases z))
   refine ⟨t,_,rfl,SqT.of hT2,rfl,_,_,rfl,_,_,rfl,rfl,?_⟩
   refine ⟨_,rfl,c,ys,5,rfl,hc2,hpool,by decide,by decide,fun d ys2 H3 d0 d1 hp3 hc3 kp3=>⟨_,_,rfl,rfl,_,rfl,?_⟩⟩
   have kp13 : Keep H1 H3 c:=kp2.trans kp3
   have hus3 : TupsAt H3 p (nx.map row2):=TupsAt.keep ⟨us,hp2,hus⟩ kp3 hc2 (Ne.symm ncp)
   refine ite2 (fun _=>?_) (fun _=>?_)
   · have hp3' : H3 p = some (.lst (us.map V.ref)):=kp3 p _ hp2 (Ne.symm ncp)
     have hul:=hus.length
     rw [List.length_map] at hul
     refine ⟨_,rfl,.inl ⟨rfl,_,SqL.of hp3'⟩,_,rfl,_,rfl,p,_,rfl,.inl (SqL.of hp3'),_,_,rfl,rfl,c,ys2,_,rfl,hc3,hp3,(by rw [List.length_map]; omega),(by rw [List.length_map]; omega),fun d2 ys3 H4 e0 e1 hp4 hc4 kp4=>?_⟩
     rw [List.length_map] at e1
     have A4:=hA.keep (kp13.trans kp4) hc4 hp4
     refine ⟨_,rfl,_,rfl,_,rfl,c,n,ys3,names,rfl,hc4,hp4,A4.nc,SqL.of A4.hn,by omega,A4.nm,fun lt ys4 H5 hlit hp5 hc5 kp5=>?_⟩
     refine ⟨(by show 2 ≤ sizeLine; decide),fun Tp hTp=>?_⟩
     have hp5' : H5 p = some (.lst (us.map V.ref)):=kp5 p _ (kp4 p _ hp3' (Ne.symm ncp)) (Ne.symm ncp)
     have npT : p ≠ Tp:=ne_of_none hp5' hTp
     have ncT : c ≠ Tp:=ne_of_none hc5 hTp
     refine ⟨p,_,d2,_,rfl,rfl,(by rw [upd_ne npT]; exact hp5'),e0,(by rw [List.length_map]; omega),(by rw [List.length_map]; exact small (by omega)),?_⟩
     have notp : ∀ a xs',(upd H5 Tp (HO.tup [V.str kp[i].1,V.str lt])) a = some (.tup xs') → a ≠ p:=fun a xs' e z'=>by
      rw [z',upd_ne npT,hp5'] at e
      cases e
     have hus6 : Paired (fun t r=>(upd (upd H5 Tp (HO.tup [V.str kp[i].1,V.str lt])) p (.lst ((us.map V.ref).take d2.toNat ++ [V.ref Tp] ++ (us.map V.ref).drop d2.toNat))) t = some (.tup r)) us (nx.map row2):=Paired.mapP hus fun a r e=>by
      have ea : H5 a = some (.tup r):=kp5 a _ (kp4 a _ (kp3 a _ e (ne_of e hc2 (by intro z; cases z))) (ne_of e hc2 (by intro z; cases z))) (ne_of e hc2 (by intro z; cases z))
      have eb : (upd H5 Tp (HO.tup [V.str kp[i].1,V.str lt])) a = some (.tup r):=by rw [upd_ne (ne_of_none ea hTp)]; exact ea
      rw [upd_ne (notp a r eb)]
      exact eb
     refine ⟨nx.take d2.toNat ++ [(kp[i].1,lt)] ++ nx.drop d2.toNat,_,_,ys4,rfl,?_,⟨fun r hr=>?_,?_⟩,⟨us.take d2.toNat ++ [Tp] ++ us.drop d2.toNat,?_,?_⟩,hp5,?_,fun b o hb hbc=>?_⟩
     · simp only [List.length_append,List.length_take,List.length_drop,List.length_singleton]
       omega
     · rcases List.mem_append.mp hr with hr | hr
       · rcases List.mem_append.mp hr with hr | hr
         · exact ⟨key_take (Nat.le_succ _) (hNx.1 r (List.mem_of_mem_take hr)).1,(hNx.1 r (List.mem_of_mem_take hr)).2⟩
         · rw [List.mem_singleton.mp hr]
           refine ⟨?_,hlit⟩
           rw [take_next (·.1) hki]
           exact List.mem_append_right _ (List.mem_singleton.mpr rfl)
       · exact ⟨key_take (Nat.le_succ _) (hNx.1 r (List.mem_of_mem_drop hr)).1,(hNx.1 r (List.mem_of_mem_drop hr)).2⟩
     · have hn : kp[i].1 ∉ nx.map (·.1):=fun hm=>by
        obtain ⟨r,hr,e⟩:=List.mem_map.mp hm
        exact key_new hil hA.kd (e ▸ (hNx.1 r hr).1)
       have hq:=nodup_ins hNx.2 hn d2.toNat
       rw [List.map_append,List.map_append,List.map_take,List.map_drop]
       exact hq
     · rw [upd_same]
       simp only [List.map_append,List.map_take,List.map_drop,List.map_cons,List.map_nil]
     · rw [List.map_append,List.map_append,List.map_take,List.map_drop]
       refine paired_append (paired_append (paired_take _ hus6) (.cons ?_ .nil)) (paired_drop _ hus6)
       rw [upd_ne (Ne.symm npT),upd_same]
       rfl
     · rw [upd_ne ncp,upd_ne ncT]
       exact hc5
     · have e5:=kp5 b o (kp4 b o (kp13 b o hb hbc) hbc) hbc
       rw [upd_ne (ne_of_none hb hpn),upd_ne (ne_of_none e5 hTp)]
       exact e5
   · exact ⟨nx,_,_,ys2,rfl,by omega,⟨fun r hr=>⟨key_take (Nat.le_succ _) (hNx.1 r hr).1,(hNx.1 r hr).2⟩,hNx.2⟩,hus3,hp3,hc3,kp13⟩
 · rintro σ H2 ⟨nx,v12,v13,ys,rfl,hnx,hNx,htp,hpool,hc2,kp2⟩
   rw [List.length_map,htl] at hnx hNx
   rw [List.take_length] at hNx
   have A2:=hA.keep kp2 hc2 hpool
   refine rD _ H2 v0 v2 v3 v4 v10 v12 v13 z c n a1 a2 a3 p s0 s1 s2 s3 names sw kp gt nx rfl ⟨⟨ys,hc2,hpool⟩,A2.hz,A2.zc,A2.hn,A2.nc,A2.nl,A2.nm,A2.h1,A2.c1,A2.h2,A2.c2,A2.h3,A2.c3,htp,Ne.symm ncp⟩ ?_
   intro m nv sm a5 a6 H' w1 w2 l1 l2 l3 hM kp'
   exact kk m nx nv sm p a5 a6 H' hNx hnx w1 w2 l1 l2 l3 hM (kp2.trans kp')
end
end Gen
namespace Gen
open PySem L2
def Keep2 (H H' : Hp) (l n : Addr) : Prop:=∀ b o,H b = some o → b ≠ l → b ≠ n → H' b = some o
def Keep3 (H H' : Hp) (l c n : Addr) : Prop:=∀ b o,H b = some o → b ≠ l → b ≠ c → b ≠ n → H' b = some o
theorem Keep2.seq {K : PySem.W.Frag} {H H' : Hp} {a l n : Addr} {xs : List V} (e : Keep2 H H' l n) (h : SqL K H a xs) (h1 : a ≠ l) (h2 : a ≠ n) : SqL K H' a xs:=by
 rcases h with (h | ⟨o,h⟩) | h
 · exact .inl (.inl (e a _ h h1 h2))
 · exact .inl (.inr ⟨o,e a _ h h1 h2⟩)
 · exact .inr h
theorem Keep2.seqT {K : PySem.W.Frag} {H H' : Hp} {a l n : Addr} {xs : List V} (e : Keep2 H H' l n) (h : SqT K H a xs) (h1 : a ≠ l) (h2 : a ≠ n) : SqT K H' a xs:=by
 rcases h with (h | ⟨o,h⟩) | h
 · exact .inl (.inl (e a _ h h1 h2))
 · exact .inl (.inr ⟨o,e a _ h h1 h2⟩)
 · exact .inr h
theorem TupsAt.keep2 {H H' : Hp} {p l n : Addr} {rs : List (List V)} {xs ns : List V} (h : TupsAt H p rs) (k : Keep2 H H' l n) (hl : H l = some (.lst xs)) (hn : H n = some (.lst ns)) (h1 : p ≠ l) (h2 : p ≠ n) : TupsAt H' p rs:=by
 obtain ⟨ts,e1,e2⟩:=h
 exact ⟨ts,k p _ e1 h1 h2,Paired.mapP e2 fun t r e=>k t _ e (ne_of e hl (by intro z; cases z)) (ne_of e hn (by intro z; cases z))⟩
theorem Keep.to2 {H H' : Hp} {l : Addr} (k : Keep H H' l) (n : Addr) : Keep2 H H' l n:=fun b o h h1 _=>k b o h h1
theorem Keep2.trans {H H1 H2 : Hp} {l n : Addr} (a : Keep2 H H1 l n) (b : Keep2 H1 H2 l n) : Keep2 H H2 l n:=fun c o h h1 h2=>b c o (a c o h h1 h2) h1 h2
theorem Keep2.upd_n {H : Hp} {l n : Addr} {o : HO} : Keep2 H (upd H n o) l n:=fun b u h _ h2=>by rw [upd_ne h2]; exact h
theorem SzAt.keep2 {K : PySem.W.Frag} {H H' : Hp} {z l n : Addr} {s0 s1 s2 s3 : Int} (h : SzAt K H z s0 s1 s2 s3) (k : Keep2 H H' l n) (h1 : z ≠ l) (h2 : z ≠ n) : SzAt K H' z s0 s1 s2 s3:=⟨h.1.imp (fun q=>k.seq q h1 h2) (fun q=>k.seqT q h1 h2),h.2⟩
def GatesOk (names : List Str) (gt : List (Str × Str × Str)) : Prop:=∀ (i : Nat) (r : Str × Str × Str),gt[i]? = some r → Lit (names ++ (gt.take i).map (·.1)) r.2.1 ∧ Lit (names ++ (gt.take i).map (·.1)) r.2.2
theorem GatesOk.snoc {names : List Str} {gt : List (Str × Str × Str)} {r : Str × Str × Str} (h : GatesOk names gt) (h1 : Lit (names ++ gt.map (·.1)) r.2.1) (h2 : Lit (names ++ gt.map (·.1)) r.2.2) : GatesOk names (gt ++ [r]):=by
 intro i q e
 rcases Nat.lt_trichotomy i gt.length with hi | hi | hi
 · rw [List.getElem?_append_left hi] at e
   rw [List.take_append_of_le_length (Nat.le_of_lt hi)]
   exact h i q e
 · subst hi
   rw [List.getElem?_append_right (Nat.le_refl _),Nat.sub_self] at e
   have e' : r = q:=by simpa using e
   subst e'
   rw [List.take_left']
   · exact ⟨h1,h2⟩
   · rfl
 · rw [List.getElem?_eq_none (by rw [List.length_append,List.length_singleton]; omega)] at e
   cases e
theorem nodup_snoc {α : Type} {l : List α} {a : α} (h : l.Nodup) (ha : a ∉ l) : (l ++ [a]).Nodup:=by
 rw [List.nodup_append]
 refine ⟨h,by simp,fun x hx y hy e=>?_⟩
 have : y = a:=by simpa using hy
 rw [this] at e
 exact ha (e ▸ hx)
section
variable {P : Program} {w : World} {K : PySem.W.Frag} {mg : Str → Option Value} {base : Heap} {fP fS fL fW fR : Addr} {dP dS dL dW dR : FuncData}
structure AtB (K : PySem.W.Frag) (H : Hp) (z b c n a1 a2 : Addr) (s0 s1 s2 s3 : Int) (names sw : List Str) (kp : List (Str × V)) : Prop where
 pb : ∃ xs,H b = some (.lst xs) ∧ pool xs
 pc : ∃ xs,H c = some (.lst xs) ∧ pool xs
 hz : SzAt K H z s0 s1 s2 s3
 zb : z ≠ b
 zc : z ≠ c
 zn : z ≠ n
 bc : b ≠ c
 hn : H n = some (.lst (names.map V.str))
 nb : n ≠ b
 nc : n ≠ c
 nl : names.length ≤ 28
 nm : ∀ x ∈ names,NameS x
 nd : names.Nodup
 h1 : H a1 = some (.lst (sw.map V.str))
 b1 : a1 ≠ b
 c1 : a1 ≠ c
 n1 : a1 ≠ n
 h2 : TupsAt H a2 (kp.map rowK)
 b2 : a2 ≠ b
 c2 : a2 ≠ c
 n2 : a2 ≠ n
 kd : (kp.map (·.1)).Nodup
 kl : kp.length ≤ 16
abbrev WantB (Q : VK) (s3 : Int) (H1 : Hp) (b c n a1 a2 : Addr) (names sw : List Str) (kp : List (Str × V)) : Prop :=
 ∀ (m : Addr) (gt : List (Str × Str × Str)) (nx nv sm : List (Str × Str)) (a3 a4 a5 a6 : Addr) (H' : Hp),GatesOk names gt → (names ++ gt.map (·.1)).Nodup → (∀ x ∈ names ++ gt.map (·.1),NameS x) → gt.length ≤ 60 → Nexts (names ++ gt.map (·.1)) kp nx → nx.length ≤ kp.length →
  Wishes (names ++ gt.map (·.1)) [] nv → Wishes (names ++ gt.map (·.1)) (nv.map (·.1)) sm → 1 ≤ nv.length → (nv.length : Int) ≤ s3 → (sm.length : Int) ≤ s3 → MachAt H' m ⟨sw,kp,gt,nx,nv,sm⟩ a1 a2 a3 a4 a5 a6 → Keep3 H1 H' b c n → Q (.ref m) H'
theorem dig_B (G : Defs P w K mg base fP fS fL fW fR dP dS dL dW dR) {f : Addr} {cdv : Value} {A : Around} {outer : List Env} {s : Shared} {H : Hp} {E : XK} {Q : VK} (hr : Room 3 (A.deeper (PyProof.Rows.envOfC "_law_machine_digits" (defScope sDigits) s.heap.objs.size f cdv))) :
 ∃ tR : TS,PSs (cxDig P w K mg base f cdv A outer s H E) (List.drop 6 (defBody sDigits)) tR ∧ ∀ (σ : St) (H1 : Hp) (v0 v2 v3 : Option V) (z b c n a1 a2 : Addr) (s0 s1 s2 s3 : Int) (names sw : List Str) (kp : List (Str × V)),
  σ = [v0,some (.ref z),v2,v3,some (.ref b),some (.ref c),some (.ref n),some (.ref a1),some (.ref a2),none,none,none,none,none,none,none,none] →
  AtB K H1 z b c n a1 a2 s0 s1 s2 s3 names sw kp → WantB Q s3 H1 b c n a1 a2 names sw kp →
  tR { nx:=fun _ H'=>Q .non H',rt:=Q } σ H1:=by
 have hr1 : Room 1 _:=hr.mono (by decide)
 have hr2 : Room 2 _:=hr.mono (by decide)
 obtain ⟨tC,hC,rC⟩:=dig_C G (outer:=outer) (H:=H) (E:=E) (Q:=Q) hr
 refine ⟨_,pss_cons (ps_set (i:=9) scDig.nd rfl (Or.inl rfl) (pe_lst pa_nil))
  (pss_cons (ps_for PassesOwn.never rfl (pi_range1 rfl G.T.range (pa_cons (pe_call G.gP hr1 rfl G.mP G.kP G.bP .nil pass0 (pa_cons (pv 4) (pa_cons (pe_op op_add (pe_ix ix_seq (pv 1) pe_int (fun _ _=>rfl)) pe_int) pa_nil))) pa_nil)) (pg_name (i:=2) scDig.nd rfl (Or.inl rfl))
   (pss_cons (ps_set (i:=10) scDig.nd rfl (Or.inl rfl) (pe_call G.gS hr2 rfl G.mS G.kS G.bS .nil pass0 (pa_cons (pv 4) (pa_cons (pv 6) pa_nil))))
   (pss_cons (ps_expr (pe_bm PySem.F.plainAttrs_list PySem.F.slot_list_append PySem.F.type_list_append mt_append (pv 9) (pa_cons (pe_tup (pa_cons (pv 10) (pa_cons (pe_call G.gL hr2 rfl G.mL G.kL G.bL .nil pass0 (pa_cons (pv 4) (pa_cons (pv 6) pa_nil))) (pa_cons (pe_call G.gL hr2 rfl G.mL G.kL G.bL .nil pass0 (pa_cons (pv 4) (pa_cons (pv 6) pa_nil))) pa_nil)))) pa_nil)))
   (pss_one (ps_expr (pe_bm PySem.F.plainAttrs_list PySem.F.slot_list_append PySem.F.type_list_append mt_append (pv 6) (pa_cons (pv 10) pa_nil))))))) hC),?_⟩
 rintro σ H1 v0 v2 v3 z b c n a1 a2 s0 s1 s2 s3 names sw kp rfl hA kk
 obtain ⟨xs,hb,hp⟩:=hA.pb
 obtain ⟨xc,hc,hpc⟩:=hA.pc
 obtain ⟨_,_,_,⟨z2a,z2b⟩,_,_⟩:=hA.hz
 have hnl:=hA.nl
 refine ⟨(by show 0 ≤ sizeLine; decide),fun p hpn=>?_⟩
 have nbp : b ≠ p:=ne_of_none hb hpn
 have nnp : n ≠ p:=ne_of_none hA.hn hpn
 have hz1 : SzAt K (upd H1 p (.lst [])) z s0 s1 s2 s3:=hA.hz.same (Same.upd_new hpn)
 refine ⟨_,rfl,_,rfl,hz1.ix (i:=2) (v:=.int s2) rfl ⟨_,_,rfl,rfl,b,xs,_,rfl,(by rw [upd_ne nbp]; exact hb),hp,by omega,by omega,fun d ys0 H1' d0 d1 hp0 hl0 kp0=>?_⟩⟩
 have k0 : Keep2 H1 H1' b n:=fun x o h h1 _=>kp0 x o (by rw [upd_ne (ne_of_none h hpn)]; exact h) h1
 have hn0 : H1' n = some (.lst (names.map V.str)):=kp0 n _ (by rw [upd_ne nnp]; exact hA.hn) hA.nb
 have hp0' : H1' p = some (.lst []):=kp0 p _ upd_same (Ne.symm nbp)
 refine ⟨_,rfl,by omega,by omega,for_range (n:=d.toNat) (fun i σ H2=>∃ (gt : List (Str × Str × Str)) (v2' v10 : Option V) (ys : List V),
  σ = [v0,some (.ref z),v2',v3,some (.ref b),some (.ref c),some (.ref n),some (.ref a1),some (.ref a2),some (.ref p),v10,none,none,none,none,none,none] ∧ gt.length = i ∧ GatesOk names gt ∧ (names ++ gt.map (·.1)).Nodup ∧ (∀ x ∈ names ++ gt.map (·.1),NameS x) ∧
  TupsAt H2 p (gt.map rowG) ∧ H2 n = some (.lst ((names ++ gt.map (·.1)).map V.str)) ∧ pool ys ∧ H2 b = some (.lst ys) ∧ Keep2 H1 H2 b n) ?_ ?_ ?_⟩
 · refine ⟨[],v2,none,ys0,rfl,rfl,fun i r e=>?_,?_,?_,⟨[],hp0',.nil⟩,?_,hp0,hl0,k0⟩
   · simp at e
   · simpa using hA.nd
   · simpa using hA.nm
   · simpa using hn0
 · rintro i σ H2 hi ⟨gt,v2',v10,ys,rfl,hgl,hgo,hnd,hnm,⟨us,hp2,hus⟩,hn2,hpool,hb2,kp2⟩
   have hul:=hus.length
   rw [List.length_map] at hul
   have lenN : (names ++ gt.map (·.1)).length = names.length + i:=by rw [List.length_append,List.length_map,hgl]
   refine ⟨_,rfl,_,rfl,b,n,ys,names ++ gt.map (·.1),rfl,hb2,hpool,hA.nb,SqL.of hn2,by omega,fun nw ys2 H3 hnw hnt hp3 hb3 kp3=>?_⟩
   have hn3 : H3 n = _:=kp3 n _ hn2 hA.nb
   have hp3' : H3 p = some (.lst (us.map V.ref)):=kp3 p _ hp2 (Ne.symm nbp)
   refine ⟨_,rfl,.inl ⟨rfl,_,SqL.of hp3'⟩,_,rfl,_,rfl,_,rfl,b,n,ys2,names ++ gt.map (·.1),rfl,hb3,hp3,hA.nb,SqL.of hn3,by omega,hnm,fun l1 ys3 H4 hl1 hp4 hb4 kp4=>?_⟩
   have hn4 : H4 n = _:=kp4 n _ hn3 hA.nb
   refine ⟨_,rfl,_,rfl,b,n,ys3,names ++ gt.map (·.1),rfl,hb4,hp4,hA.nb,SqL.of hn4,by omega,hnm,fun l2 ys4 H5 hl2 hp5 hb5 kp5=>?_⟩
   have hn5 : H5 n = _:=kp5 n _ hn4 hA.nb
   have hp5' : H5 p = some (.lst (us.map V.ref)):=kp5 p _ (kp4 p _ hp3' (Ne.symm nbp)) (Ne.symm nbp)
   refine ⟨(by show 3 ≤ sizeLine; decide),fun Tp hTp=>?_⟩
   have npT : p ≠ Tp:=ne_of_none hp5' hTp
   have nbT : b ≠ Tp:=ne_of_none hb5 hTp
   have nnT : n ≠ Tp:=ne_of_none hn5 hTp
   refine ⟨p,_,_,rfl,rfl,(by rw [upd_ne npT]; exact hp5'),(by rw [List.length_map]; exact small (by omega)),?_⟩
   have hn6 : (upd (upd H5 Tp (HO.tup [V.str nw,V.str l1,V.str l2])) p (.lst (us.map V.ref ++ [V.ref Tp]))) n = some (.lst ((names ++ gt.map (·.1)).map V.str)):=by rw [upd_ne nnp,upd_ne nnT]; exact hn5
   refine ⟨_,rfl,.inl ⟨rfl,_,SqL.of hn6⟩,_,rfl,n,_,_,rfl,rfl,hn6,(by rw [List.length_map]; exact small (by omega)),?_⟩
   have hnt' : nw ∉ names ++ gt.map (·.1):=hnt
   have en : names ++ (gt ++ [(nw,l1,l2)]).map (·.1) = (names ++ gt.map (·.1)) ++ [nw]:=by rw [List.map_append,← List.append_assoc]; rfl
   have tn : ∀ a xs',H5 a = some (HO.tup xs') → a ≠ n:=fun a xs' e=>ne_of e hn5 (by intro z; cases z)
   refine ⟨gt ++ [(nw,l1,l2)],_,_,ys4,rfl,(by rw [List.length_append,List.length_singleton,hgl]),hgo.snoc hl1 hl2,(by rw [en]; exact nodup_snoc hnd hnt'),fun x hx=>?_,?_,?_,hp5,?_,fun x o hx h1 h2=>?_⟩
   · rw [en] at hx
     rcases List.mem_append.mp hx with hx | hx
     · exact hnm x hx
     · rw [List.mem_singleton.mp hx]; exact hnw
   · have tp:=TupsAt.snoc (H:=upd H5 Tp (HO.tup [V.str nw,V.str l1,V.str l2])) (p:=p) (t:=Tp) (rs:=gt.map rowG) (r:=[V.str nw,V.str l1,V.str l2]) (ts:=us) (Paired.mapP hus fun a r e=>by
      have nb':=ne_of e hb2 (by intro z; cases z)
      have ea : H5 a = some (.tup r):=kp5 a _ (kp4 a _ (kp3 a _ e nb') nb') nb'
      rw [upd_ne (ne_of_none ea hTp)]
      exact ea) upd_same (fun a xs' e z'=>by rw [z',upd_ne npT,hp5'] at e; cases e)
     obtain ⟨us',e1,e2⟩:=tp
     refine ⟨us',by rw [upd_ne (Ne.symm nnp)]; exact e1,?_⟩
     have er : (gt ++ [(nw,l1,l2)]).map rowG = gt.map rowG ++ [[V.str nw,V.str l1,V.str l2]]:=by rw [List.map_append]; rfl
     rw [er]
     refine Paired.mapP e2 fun a r e=>?_
     rw [upd_ne (ne_of e hn6 (by intro z; cases z))]
     exact e
   · rw [upd_same,en]
     simp only [List.map_append,List.map_cons,List.map_nil]
   · rw [upd_ne (Ne.symm hA.nb),upd_ne nbp,upd_ne nbT]
     exact hb5
   · have e5 : H5 x = some o:=kp5 x o (kp4 x o (kp3 x o (kp2 x o hx h1 h2) h1) h1) h1
     rw [upd_ne h2,upd_ne (ne_of_none hx hpn),upd_ne (ne_of_none e5 hTp)]
     exact e5
 · rintro σ H2 ⟨gt,v2',v10,ys,rfl,hgl,hgo,hnd,hnm,htp,hn2,hpool,hb2,kp2⟩
   have hc2 : H2 c = some (.lst xc):=kp2 c _ hc (Ne.symm hA.bc) (Ne.symm hA.nc)
   have ncp : c ≠ p:=ne_of_none hc hpn
   refine rC _ H2 v0 v2' v3 (some (.ref b)) v10 z c n a1 a2 p s0 s1 s2 s3 (names ++ gt.map (·.1)) sw kp gt rfl ⟨⟨xc,hc2,hpc⟩,hA.hz.keep2 kp2 hA.zb hA.zn,hA.zc,hn2,hA.nc,(by rw [List.length_append,List.length_map]; omega),hnm,
    kp2 a1 _ hA.h1 hA.b1 hA.n1,hA.c1,hA.h2.keep2 kp2 hb hA.hn hA.b2 hA.n2,hA.c2,htp,Ne.symm ncp,hA.kd,hA.kl⟩ ?_
   intro m nx nv sm a4 a5 a6 H' q1 q2 w1 w2 l1 l2 l3 hM kp'
   exact kk m gt nx nv sm p a4 a5 a6 H' hgo hnd hnm (by omega) q1 q2 w1 w2 l1 l2 l3 hM fun x o hx h1 h2 h3=>kp' x o (kp2 x o hx h1 h3) h2
end
end Gen
namespace Gen
open PySem L2
def Firsts (kp : List (Str × V)) : Prop:=∀ r ∈ kp,r.2 = .int 0 ∨ r.2 = .int 1 ∨ r.2 = .non
theorem first_at {d : Int} (h0 : 0 ≤ d) (h1 : d < 3) : ∃ v : V,atI [V.int 0,.int 1,.non] d = some v ∧ (v = .int 0 ∨ v = .int 1 ∨ v = .non):=by
 rcases (show d = 0 ∨ d = 1 ∨ d = 2 by omega) with rfl | rfl | rfl
 · exact ⟨_,rfl,.inl rfl⟩
 · exact ⟨_,rfl,.inr (.inl rfl)⟩
 · exact ⟨_,rfl,.inr (.inr rfl)⟩
section
variable {P : Program} {w : World} {K : PySem.W.Frag} {mg : Str → Option Value} {base : Heap} {fP fS fL fW fR : Addr} {dP dS dL dW dR : FuncData}
structure AtA (K : PySem.W.Frag) (H : Hp) (z a b c n : Addr) (s0 s1 s2 s3 : Int) (sw : List Str) : Prop where
 pa : ∃ xs,H a = some (.lst xs) ∧ pool xs
 pb : ∃ xs,H b = some (.lst xs) ∧ pool xs
 pc : ∃ xs,H c = some (.lst xs) ∧ pool xs
 hz : SzAt K H z s0 s1 s2 s3
 za : z ≠ a
 zb : z ≠ b
 zc : z ≠ c
 zn : z ≠ n
 ab : a ≠ b
 ac : a ≠ c
 bc : b ≠ c
 hn : H n = some (.lst (sw.map V.str))
 na : n ≠ a
 nb : n ≠ b
 nc : n ≠ c
 nl : sw.length ≤ 12
 nm : ∀ x ∈ sw,NameS x
 nd : sw.Nodup
def Keep4 (H H' : Hp) (a b c n : Addr) : Prop:=∀ x o,H x = some o → x ≠ a → x ≠ b → x ≠ c → x ≠ n → H' x = some o
abbrev WantA (Q : VK) (s1 s3 : Int) (H1 : Hp) (a b c n : Addr) (sw : List Str) : Prop :=
 ∀ (m : Addr) (M : Mach) (names : List Str) (a1 a2 a3 a4 a5 a6 : Addr) (H' : Hp),M.switches = sw → MachOk M names → names.length ≤ 88 → ((M.keepers.length : Int) ≤ s1 ∧ M.keepers.length ≤ 16) → M.gates.length ≤ 60 → M.nexts.length ≤ 16 → 1 ≤ M.nevers.length → (M.nevers.length : Int) ≤ s3 → (M.somes.length : Int) ≤ s3 →
  MachAt H' m M a1 a2 a3 a4 a5 a6 → Keep4 H1 H' a b c n → Q (.ref m) H'
theorem dig_A (G : Defs P w K mg base fP fS fL fW fR dP dS dL dW dR) {f : Addr} {cdv : Value} {A : Around} {outer : List Env} {s : Shared} {H : Hp} {E : XK} {Q : VK} (hr : Room 3 (A.deeper (PyProof.Rows.envOfC "_law_machine_digits" (defScope sDigits) s.heap.objs.size f cdv))) :
 ∃ tR : TS,PSs (cxDig P w K mg base f cdv A outer s H E) (List.drop 3 (defBody sDigits)) tR ∧ ∀ (σ : St) (H1 : Hp) (v0 v2 : Option V) (z a b c n : Addr) (s0 s1 s2 s3 : Int) (sw : List Str),
  σ = [v0,some (.ref z),v2,some (.ref a),some (.ref b),some (.ref c),some (.ref n),none,none,none,none,none,none,none,none,none,none] →
  AtA K H1 z a b c n s0 s1 s2 s3 sw → WantA Q s1 s3 H1 a b c n sw →
  tR { nx:=fun _ H'=>Q .non H',rt:=Q } σ H1:=by
 have hr1 : Room 1 _:=hr.mono (by decide)
 have hr2 : Room 2 _:=hr.mono (by decide)
 obtain ⟨tB,hB,rB⟩:=dig_B G (outer:=outer) (H:=H) (E:=E) (Q:=Q) hr
 refine ⟨_,pss_cons (ps_set (i:=7) scDig.nd rfl (Or.inl rfl) (pe_callTy call_list_of (by rfl) G.T.list PyProof.Rows.boot_list (pa_cons (pv 6) pa_nil)))
  (pss_cons (ps_set (i:=8) scDig.nd rfl (Or.inl rfl) (pe_lst pa_nil))
  (pss_cons (ps_for PassesOwn.never rfl (pi_range1 rfl G.T.range (pa_cons (pe_call G.gP hr1 rfl G.mP G.kP G.bP .nil pass0 (pa_cons (pv 3) (pa_cons (pe_op op_add (pe_ix ix_seq (pv 1) pe_int (fun _ _=>rfl)) pe_int) pa_nil))) pa_nil)) (pg_name (i:=2) scDig.nd rfl (Or.inl rfl))
   (pss_cons (ps_expr (pe_bm PySem.F.plainAttrs_list PySem.F.slot_list_append PySem.F.type_list_append mt_append (pv 6) (pa_cons (pe_call G.gS hr2 rfl G.mS G.kS G.bS .nil pass0 (pa_cons (pv 3) (pa_cons (pv 6) pa_nil))) pa_nil)))
   (pss_one (ps_expr (pe_bm PySem.F.plainAttrs_list PySem.F.slot_list_append PySem.F.type_list_append mt_append (pv 8) (pa_cons (pe_tup (pa_cons (pe_ix ix_list (pv 6) (pe_un un_neg pe_int) (fun _ _=>rfl))
    (pa_cons (pe_ix ix_list (pe_lst (pa_cons pe_int (pa_cons pe_int (pa_cons pe_non pa_nil)))) (pe_call G.gP hr1 rfl G.mP G.kP G.bP .nil pass0 (pa_cons (pv 3) (pa_cons pe_int pa_nil))) (fun _ _=>rfl)) pa_nil))) pa_nil)))))) hB)),?_⟩
 rintro σ H0 v0 v2 z a b c n s0 s1 s2 s3 sw rfl hA kk
 obtain ⟨xs,ha,hp⟩:=hA.pa
 obtain ⟨xb,hb,hpb⟩:=hA.pb
 obtain ⟨xc,hc,hpc⟩:=hA.pc
 obtain ⟨_,_,⟨z1a,z1b⟩,_,_,_⟩:=hA.hz
 have hnl:=hA.nl
 refine ⟨_,rfl,n,_,rfl,.inl (SqL.of hA.hn),fun a1 ha1=>?_⟩
 have s01 : Same H0 (upd H0 a1 (.lst (sw.map V.str))):=Same.upd_new ha1
 have na1 : n ≠ a1:=ne_of_none hA.hn ha1
 have aa1 : a ≠ a1:=ne_of_none ha ha1
 have ba1 : b ≠ a1:=ne_of_none hb ha1
 have ca1 : c ≠ a1:=ne_of_none hc ha1
 have h1 : (upd H0 a1 (.lst (sw.map V.str))) a1 = some (.lst (sw.map V.str)):=upd_same
 generalize hH1 : upd H0 a1 (.lst (sw.map V.str)) = H1 at *
 have ha':=s01 a _ ha
 have hb':=s01 b _ hb
 have hc':=s01 c _ hc
 have hn':=s01 n _ hA.hn
 refine ⟨(by show 0 ≤ sizeLine; decide),fun p hpn=>?_⟩
 have nap : a ≠ p:=ne_of_none ha' hpn
 have nbp : b ≠ p:=ne_of_none hb' hpn
 have ncp : c ≠ p:=ne_of_none hc' hpn
 have nnp : n ≠ p:=ne_of_none hn' hpn
 have hz1 : SzAt K (upd H1 p (.lst [])) z s0 s1 s2 s3:=(hA.hz.same s01).same (Same.upd_new hpn)
 refine ⟨_,rfl,_,rfl,hz1.ix (i:=1) (v:=.int s1) rfl ⟨_,_,rfl,rfl,a,xs,_,rfl,(by rw [upd_ne nap]; exact ha'),hp,by omega,by omega,fun d ys0 H1' d0 d1 hp0 hl0 kp0=>?_⟩⟩
 have k0 : Keep2 H1 H1' a n:=fun x o h h1 _=>kp0 x o (by rw [upd_ne (ne_of_none h hpn)]; exact h) h1
 have hn0 : H1' n = some (.lst (sw.map V.str)):=kp0 n _ (by rw [upd_ne nnp]; exact hn') hA.na
 have hp0' : H1' p = some (.lst []):=kp0 p _ upd_same (Ne.symm nap)
 refine ⟨_,rfl,by omega,by omega,for_range (n:=d.toNat) (fun i σ H2=>∃ (kp : List (Str × V)) (v2' : Option V) (ys : List V),
  σ = [v0,some (.ref z),v2',some (.ref a),some (.ref b),some (.ref c),some (.ref n),some (.ref a1),some (.ref p),none,none,none,none,none,none,none,none] ∧ kp.length = i ∧ Firsts kp ∧ (sw ++ kp.map (·.1)).Nodup ∧ (∀ x ∈ sw ++ kp.map (·.1),NameS x) ∧
  TupsAt H2 p (kp.map rowK) ∧ H2 n = some (.lst ((sw ++ kp.map (·.1)).map V.str)) ∧ pool ys ∧ H2 a = some (.lst ys) ∧ Keep2 H1 H2 a n) ?_ ?_ ?_⟩
 · refine ⟨[],v2,ys0,rfl,rfl,(fun _ h=>nomatch h),?_,?_,⟨[],hp0',.nil⟩,?_,hp0,hl0,k0⟩
   · simpa using hA.nd
   · simpa using hA.nm
   · simpa using hn0
 · rintro i σ H2 hi ⟨kp,v2',ys,rfl,hkl,hfs,hnd,hnm,⟨us,hp2,hus⟩,hn2,hpool,ha2,kp2⟩
   have hul:=hus.length
   rw [List.length_map] at hul
   have lenN : (sw ++ kp.map (·.1)).length = sw.length + i:=by rw [List.length_append,List.length_map,hkl]
   refine ⟨_,rfl,.inl ⟨rfl,_,SqL.of hn2⟩,_,rfl,_,rfl,a,n,ys,sw ++ kp.map (·.1),rfl,ha2,hpool,hA.na,SqL.of hn2,by omega,fun nw ys2 H3 hnw hnt hp3 ha3 kp3=>?_⟩
   have hn3 : H3 n = some (.lst ((sw ++ kp.map (·.1)).map V.str)):=kp3 n _ hn2 hA.na
   have hp3' : H3 p = some (.lst (us.map V.ref)):=kp3 p _ hp2 (Ne.symm nap)
   refine ⟨n,_,_,rfl,rfl,hn3,(by rw [List.length_map]; exact small (by omega)),?_⟩
   have hp4 : (upd H3 n (.lst ((sw ++ kp.map (·.1)).map V.str ++ [V.str nw]))) p = some (.lst (us.map V.ref)):=by rw [upd_ne (Ne.symm nnp)]; exact hp3'
   have ha4 : (upd H3 n (.lst ((sw ++ kp.map (·.1)).map V.str ++ [V.str nw]))) a = some (.lst ys2):=by rw [upd_ne (Ne.symm hA.na)]; exact ha3
   refine ⟨_,rfl,.inl ⟨rfl,_,SqL.of hp4⟩,_,rfl,_,rfl,n,_,_,.str nw,rfl,rfl,SqL.of upd_same,atI_last _ _,(by show 3 ≤ sizeLine; decide),fun q hq=>?_⟩
   have naq : a ≠ q:=ne_of_none ha4 hq
   have npq : p ≠ q:=ne_of_none hp4 hq
   have nnq : n ≠ q:=ne_of_none (upd_same (H:=H3) (a:=n)) hq
   refine ⟨_,rfl,a,ys2,3,rfl,(by rw [upd_ne naq]; exact ha4),hp3,by decide,by decide,fun d2 ys3 H5 e0 e1 hp5 ha5 kp5=>?_⟩
   obtain ⟨fv,hfv,hfo⟩:=first_at e0 e1
   have hq5 : H5 q = some (.lst [V.int 0,.int 1,.non]):=kp5 q _ upd_same (Ne.symm naq)
   have hp5' : H5 p = some (.lst (us.map V.ref)):=kp5 p _ (by rw [upd_ne npq]; exact hp4) (Ne.symm nap)
   have hn5 : H5 n = some (.lst ((sw ++ kp.map (·.1)).map V.str ++ [V.str nw])):=kp5 n _ (by rw [upd_ne nnq,upd_same]) hA.na
   refine ⟨q,_,d2,fv,rfl,rfl,SqL.of hq5,hfv,(by show 2 ≤ sizeLine; decide),fun Tp hTp=>?_⟩
   have npT : p ≠ Tp:=ne_of_none hp5' hTp
   have naT : a ≠ Tp:=ne_of_none ha5 hTp
   have nnT : n ≠ Tp:=ne_of_none hn5 hTp
   refine ⟨p,_,_,rfl,rfl,(by rw [upd_ne npT]; exact hp5'),(by rw [List.length_map]; exact small (by omega)),?_⟩
   have en : sw ++ (kp ++ [(nw,fv)]).map (·.1) = (sw ++ kp.map (·.1)) ++ [nw]:=by rw [List.map_append,← List.append_assoc]; rfl
   have up5 : ∀ x o,H3 x = some o → x ≠ a → x ≠ n → H5 x = some o:=fun x o hx h1 h2=>kp5 x o (by
    have e4 : (upd H3 n (.lst ((sw ++ kp.map (·.1)).map V.str ++ [V.str nw]))) x = some o:=by rw [upd_ne h2]; exact hx
    rw [upd_ne (ne_of_none e4 hq)]
    exact e4) h1
   refine ⟨kp ++ [(nw,fv)],_,ys3,rfl,(by rw [List.length_append,List.length_singleton,hkl]),fun r hr=>?_,(by rw [en]; exact nodup_snoc hnd hnt),fun x hx=>?_,?_,?_,hp5,?_,fun x o hx h1 h2=>?_⟩
   · rcases List.mem_append.mp hr with hr | hr
     · exact hfs r hr
     · rw [List.mem_singleton.mp hr]; exact hfo
   · rw [en] at hx
     rcases List.mem_append.mp hx with hx | hx
     · exact hnm x hx
     · rw [List.mem_singleton.mp hx]; exact hnw
   · have er : (kp ++ [(nw,fv)]).map rowK = kp.map rowK ++ [[V.str nw,fv]]:=by rw [List.map_append]; rfl
     rw [er]
     refine TupsAt.snoc (Paired.mapP hus fun x r e=>?_) upd_same (fun x xs' e z'=>by rw [z',upd_ne npT,hp5'] at e; cases e)
     have nx1:=ne_of e ha2 (by intro z; cases z)
     have nx2:=ne_of e hn2 (by intro z; cases z)
     have e5 : H5 x = some (.tup r):=up5 x _ (kp3 x _ e nx1) nx1 nx2
     rw [upd_ne (ne_of_none e5 hTp)]
     exact e5
   · rw [upd_ne nnp,upd_ne nnT,hn5,en]
     simp only [List.map_append,List.map_cons,List.map_nil]
   · rw [upd_ne nap,upd_ne naT]
     exact ha5
   · have e5 : H5 x = some o:=up5 x o (kp3 x o (kp2 x o hx h1 h2) h1) h1 h2
     rw [upd_ne (ne_of_none hx hpn),upd_ne (ne_of_none e5 hTp)]
     exact e5
 · rintro σ H2 ⟨kp,v2',ys,rfl,hkl,hfs,hnd,hnm,htp,hn2,hpool,ha2,kp2⟩
   have hb2 : H2 b = some (.lst xb):=kp2 b _ hb' (Ne.symm hA.ab) (Ne.symm hA.nb)
   have hc2 : H2 c = some (.lst xc):=kp2 c _ hc' (Ne.symm hA.ac) (Ne.symm hA.nc)
   refine rB _ H2 v0 v2' (some (.ref a)) z b c n a1 p s0 s1 s2 s3 (sw ++ kp.map (·.1)) sw kp rfl ⟨⟨xb,hb2,hpb⟩,⟨xc,hc2,hpc⟩,(hA.hz.same s01).keep2 kp2 hA.za hA.zn,hA.zb,hA.zc,hA.zn,hA.bc,hn2,hA.nb,hA.nc,(by rw [List.length_append,List.length_map]; omega),hnm,hnd,
    kp2 a1 _ h1 (Ne.symm aa1) (Ne.symm na1),Ne.symm ba1,Ne.symm ca1,Ne.symm na1,htp,Ne.symm nbp,Ne.symm ncp,Ne.symm nnp,(List.nodup_append.mp hnd).2.1,by omega⟩ ?_
   intro m gt nx nv sm a3 a4 a5 a6 H' q1 q2 q3 q4 q5 q6 w1 w2 l1 l2 l3 hM kp'
   refine kk m ⟨sw,kp,gt,nx,nv,sm⟩ (sw ++ kp.map (·.1) ++ gt.map (·.1)) a1 p a3 a4 a5 a6 H' rfl ⟨rfl,q3,q2,hfs,fun r hr=>(q5.1 r hr).1,fun r hr=>(q5.1 r hr).2,q5.2,w1,w2,q1⟩ ?_ ⟨by show (kp.length : Int) ≤ s1; omega,by show kp.length ≤ 16; omega⟩ q4 (by show nx.length ≤ 16; omega) l1 l2 l3 hM ?_
   · simp only [List.length_append,List.length_map]
     omega
   · intro x o hx h1 h2 h3 h4
     exact kp' x o (kp2 x o (s01 x o hx) h1 h4) h2 h3 h4
end
end Gen
namespace Gen
open PySem L2
theorem yes_if {σ : St} {H : Hp} {A B : Hp → Prop} (h : A H) : tYes σ H (fun b H3=>if b = true then A H3 else B H3):=by
 show (if true = true then A H else B H)
 rw [if_pos rfl]
 exact h
theorem ndKC : (["_law_k", "_law_cell"] : List Str).Nodup:=by decide +kernel
abbrev MachWant (Q : VK) (s1 s3 : Int) (H : Hp) : Prop :=
 ∀ (m : Addr) (M : Mach) (names : List Str) (a1 a2 a3 a4 a5 a6 : Addr) (H' : Hp),MachOk M names → names.length ≤ 88 → M.switches.length ≤ 12 → ((M.keepers.length : Int) ≤ s1 ∧ M.keepers.length ≤ 16) → M.gates.length ≤ 60 → M.nexts.length ≤ 16 → 1 ≤ M.nevers.length → (M.nevers.length : Int) ≤ s3 → (M.somes.length : Int) ≤ s3 →
  MachAt H' m M a1 a2 a3 a4 a5 a6 → Same H H' → Q (.ref m) H'
def spDigits (K : PySem.W.Frag) : Sp:=fun vs H Q _=>∃ (ce z : Addr) (c0 c1 c2 s0 s1 s2 s3 : Int),vs = [.ref ce,.ref z] ∧ SqL K H ce [.int c0,.int c1,.int c2] ∧ SzAt K H z s0 s1 s2 s3 ∧ (∃ o,H z = some o) ∧ MachWant Q s1 s3 H
section
variable {P : Program} {w : World} {K : PySem.W.Frag} {mg : Str → Option Value} {base : Heap} {fP fS fL fW fR : Addr} {dP dS dL dW dR : FuncData}
theorem ok_digits {f : Addr} {fd : FuncData} (F : Fun K "_law_machine_digits" "_law_machine_digits" sDigits f fd) (G : Defs P w K mg base fP fS fL fW fR dP dS dL dW dR) : FnOk P w K mg base CX0 4 f fd pDig (spDigits K):=by
 refine F.ok scDig (fun vs H Q E h=>?_) (fun cdv A outer s H vs Q E hr h=>?_)
 · obtain ⟨ce,z,c0,c1,c2,s0,s1,s2,s3,rfl,_⟩:=h
   rfl
 · obtain ⟨ce,z,c0,c1,c2,s0,s1,s2,s3,rfl,hce,hz,⟨oz,hzo⟩,kk⟩:=h
   have hr1 : Room 1 _:=hr.mono (by decide)
   have hr2 : Room 2 _:=hr.mono (by decide)
   obtain ⟨tA,hA,rA⟩:=dig_A G (outer:=outer) (H:=H) (E:=E) (Q:=Q) hr
   refine ⟨_,pss_cons (ps_asg (pe_lc (N:=["_law_k", "_law_cell"]) (js:=[none,none]) (g:=gTup K 2 (gCons (gName 0) (gCons (gName 1) gNil))) (by kernel_rfl) rfl (pi_enum rfl G.T.enum (pa_cons (pv 0) pa_nil))
    (fun _ _ _ _ _ _=>pg_tup rfl (pgs_cons (pg_name (i:=0) ndKC rfl (Or.inl rfl) (.inr rfl)) (pgs_cons (pg_name (i:=1) ndKC rfl (Or.inl rfl) (.inr rfl)) pgs_nil))) (fun _ _ _ _ _ _=>pifs_nil)
    (fun _ _ _ _ _ _=>pe_lst (pa_cons (pv 1) (pa_cons (pe_call G.gR hr2 rfl G.mR G.kR G.bR .nil pass0 (pa_cons (pv 1) (pa_cons (pe_op op_add pe_int (pv 0)) pa_nil))) pa_nil))))
    (pg_tupL rfl (pgs_cons (pg_name (i:=3) scDig.nd rfl (Or.inl rfl)) (pgs_cons (pg_name (i:=4) scDig.nd rfl (Or.inl rfl)) (pgs_cons (pg_name (i:=5) scDig.nd rfl (Or.inl rfl)) pgs_nil)))))
    (pss_cons (ps_set (i:=6) scDig.nd rfl (Or.inl rfl) (pe_lst pa_nil))
    (pss_cons (ps_for PassesOwn.never rfl (pi_range1 rfl G.T.range (pa_cons (pe_call G.gP hr1 rfl G.mP G.kP G.bP .nil pass0 (pa_cons (pv 3) (pa_cons (pe_op op_add (pe_ix ix_seq (pv 1) pe_int (fun _ _=>rfl)) pe_int) pa_nil))) pa_nil)) (pg_name (i:=2) scDig.nd rfl (Or.inl rfl))
     (pss_one (ps_expr (pe_bm PySem.F.plainAttrs_list PySem.F.slot_list_append PySem.F.type_list_append mt_append (pv 6) (pa_cons (pe_call G.gS hr2 rfl G.mS G.kS G.bS .nil pass0 (pa_cons (pv 3) (pa_cons (pv 6) pa_nil))) pa_nil))))) hA)),?_⟩
   obtain ⟨_,⟨z0a,z0b⟩,_,_,_,_⟩:=id hz
   refine ⟨_,rfl,ce,rfl,⟨_,hce⟩,fun D hD=>?_⟩
   refine lc_by 3 (fun i acc σ H2=>∃ (ls : List Addr) (u v : Option V),acc = ls.map V.ref ∧ ls.length = i ∧ ls.Nodup ∧ σ = [u,v] ∧ (∀ l ∈ ls,H l = none ∧ l ≠ D ∧ ∃ x y : Int,H2 l = some (.lst [.int x,.int y])) ∧ Same H H2)
    ⟨[],none,none,rfl,rfl,List.nodup_nil,rfl,(fun _ h=>nomatch h),Same.upd_new hD⟩ upd_same ?_ ?_
   · -- a,b,c
     rintro acc σ H2 hDD ⟨ls,u,v,rfl,hll,hnd,rfl,hls,s02⟩
     refine ⟨⟨_,Same.seq s02 hce,Nat.le_refl _⟩,?_⟩
     obtain ⟨a,b,c,rfl⟩ : ∃ a b c,ls = [a,b,c]:=by
      match ls,hll with
      | [a,b,c],_=>exact ⟨a,b,c,rfl⟩
     obtain ⟨fa,_,xa,ya,ha⟩:=hls a (by simp)
     obtain ⟨fb,_,xb,yb,hb⟩:=hls b (by simp)
     obtain ⟨fc,_,xc,yc,hc⟩:=hls c (by simp)
     have dist : a ≠ b ∧ a ≠ c ∧ b ≠ c:=by
      simp only [List.nodup_cons,List.mem_cons,List.not_mem_nil,or_false,not_or] at hnd
      exact ⟨hnd.1.1,hnd.1.2,hnd.2.1⟩
     obtain ⟨ab,ac,bc⟩:=dist
     refine ⟨D,_,rfl,SqL.of hDD,rfl,_,_,rfl,_,_,rfl,_,_,rfl,rfl,?_⟩
     refine ⟨(by show 0 ≤ sizeLine; decide),fun n hn=>?_⟩
     have an : a ≠ n:=ne_of_none ha hn
     have bn : b ≠ n:=ne_of_none hb hn
     have cn : c ≠ n:=ne_of_none hc hn
     have s23 : Same H2 (upd H2 n (.lst [])):=Same.upd_new hn
     have hz3 : SzAt K (upd H2 n (.lst [])) z s0 s1 s2 s3:=(hz.same s02).same s23
     refine ⟨_,rfl,_,rfl,hz3.ix (i:=0) (v:=.int s0) rfl ⟨_,_,rfl,rfl,a,_,_,rfl,(by rw [upd_ne an]; exact ha),.inr ⟨_,_,rfl⟩,by omega,by omega,fun d ys0 H4 d0 d1 hp0 ha4 kp0=>?_⟩⟩
     have hn4 : H4 n = some (.lst []):=kp0 n _ upd_same (Ne.symm an)
     have k04 : Keep H H4 a:=((Same.keep s02 a).trans (Same.keep s23 a)).trans kp0
     have k24 : Keep H2 H4 a:=(Same.keep s23 a).trans kp0
     refine ⟨_,rfl,by omega,by omega,for_range (n:=d.toNat) (fun i σ H5=>∃ (sw : List Str) (v2 : Option V) (ys : List V),
      σ = [some (.ref ce),some (.ref z),v2,some (.ref a),some (.ref b),some (.ref c),some (.ref n),none,none,none,none,none,none,none,none,none,none] ∧ sw.length = i ∧ sw.Nodup ∧ (∀ x ∈ sw,NameS x) ∧ H5 n = some (.lst (sw.map V.str)) ∧ pool ys ∧ H5 a = some (.lst ys) ∧ Keep2 H2 H5 a n) ?_ ?_ ?_⟩
     · exact ⟨[],none,ys0,rfl,rfl,List.nodup_nil,(fun _ h=>nomatch h),hn4,hp0,ha4,k24.to2 n⟩
     · rintro i σ H5 hi ⟨sw,v2,ys,rfl,hsl,hnd5,hnm,hn5,hpool,ha5,kp5⟩
       refine ⟨_,rfl,.inl ⟨rfl,_,SqL.of hn5⟩,_,rfl,_,rfl,a,n,ys,sw,rfl,ha5,hpool,Ne.symm an,SqL.of hn5,by omega,fun nw ys2 H6 hnw hnt hp6 ha6 kp6=>?_⟩
       have hn6 : H6 n = some (.lst (sw.map V.str)):=kp6 n _ hn5 (Ne.symm an)
       refine ⟨n,_,_,rfl,rfl,hn6,(by rw [List.length_map]; exact small (by omega)),?_⟩
       refine ⟨sw ++ [nw],_,ys2,rfl,(by rw [List.length_append,List.length_singleton,hsl]),nodup_snoc hnd5 hnt,fun x hx=>?_,?_,hp6,(by rw [upd_ne an]; exact ha6),(kp5.trans (kp6.to2 n)).trans Keep2.upd_n⟩
       · rcases List.mem_append.mp hx with hx | hx
         · exact hnm x hx
         · rw [List.mem_singleton.mp hx]; exact hnw
       · rw [upd_same,List.map_append]
         rfl
     · rintro σ H5 ⟨sw,v2,ys,rfl,hsl,hnd5,hnm,hn5,hpool,ha5,kp5⟩
       have hb5:=kp5 b _ hb (Ne.symm ab) bn
       have hc5:=kp5 c _ hc (Ne.symm ac) cn
       have old : ∀ x o,H x = some o → x ≠ a ∧ x ≠ b ∧ x ≠ c ∧ x ≠ n:=fun x o hx=>⟨ne_of_none hx fa,ne_of_none hx fb,ne_of_none hx fc,ne_of_none (s02 x o hx) hn⟩
       have s05 : Same H H5:=fun x o hx=>kp5 x o (s02 x o hx) (old x o hx).1 (old x o hx).2.2.2
       obtain ⟨za,zb,zc,zn⟩:=old z oz hzo
       refine rA _ H5 (some (.ref ce)) v2 z a b c n s0 s1 s2 s3 sw rfl ⟨⟨ys,ha5,hpool⟩,⟨_,hb5,.inr ⟨_,_,rfl⟩⟩,⟨_,hc5,.inr ⟨_,_,rfl⟩⟩,hz.same s05,za,zb,zc,zn,ab,ac,bc,hn5,Ne.symm an,Ne.symm bn,Ne.symm cn,by omega,hnm,hnd5⟩ ?_
       intro m M names a1 a2 a3 a4 a5 a6 H' eM ok l1 l2 l3 l4 l5 l6 l7 hM kp'
       refine kk m M names a1 a2 a3 a4 a5 a6 H' ok l1 (by rw [eM]; omega) l2 l3 l4 l5 l6 l7 hM fun x o hx=>?_
       obtain ⟨q1,q2,q3,q4⟩:=old x o hx
       exact kp' x o (s05 x o hx) q1 q2 q3 q4
   · rintro i acc σ H2 hi hDD ⟨ls,u,v,rfl,hll,hnd,rfl,hls,s02⟩
     obtain ⟨ci,hx⟩ : ∃ ci : Int,[V.int c0,V.int c1,V.int c2][i]? = some (.int ci):=by
      rcases (show i = 0 ∨ i = 1 ∨ i = 2 by omega) with rfl | rfl | rfl
      · exact ⟨_,rfl⟩
      · exact ⟨_,rfl⟩
      · exact ⟨_,rfl⟩
     refine ⟨⟨_,_,Same.seq s02 hce,hx⟩,?_⟩
     rintro x H' ⟨T,xv,rfl,hTn,rfl,hall⟩
     have ex:=hall _ (Same.seq s02 hce)
     rw [hx] at ex
     cases ex
     refine ⟨T,_,rfl,SqT.of upd_same,rfl,_,_,rfl,_,_,rfl,rfl,yes_if ?_⟩
     refine ⟨_,rfl,_,rfl,_,rfl,_,_,rfl,rfl,_,_,rfl,by omega,by omega,fun v'=>⟨(by show 2 ≤ sizeLine; decide),fun l hl=>?_⟩⟩
     have nDT : D ≠ T:=ne_of_none hDD hTn
     have s2T : Same H2 (upd H2 T (.tup [.int (i : Int),.int ci])):=Same.upd_new hTn
     have nDl : D ≠ l:=ne_of_none (s2T D _ hDD) hl
     have s2l : Same H2 (upd (upd H2 T (.tup [.int (i : Int),.int ci])) l (.lst [.int ci,.int v'])):=s2T.trans (Same.upd_new hl)
     refine ⟨_,(by rw [upd_ne nDl,upd_ne nDT]; exact hDD),(by rw [List.length_map]; exact small (by omega)),lcW_next hi upd_same ⟨ls ++ [l],_,_,?_,(by rw [List.length_append,List.length_singleton,hll]),nodup_snoc hnd fun hm=>?_,rfl,fun y hy=>?_,fun y o hy=>?_⟩⟩
     · rw [List.map_append]
       rfl
     · obtain ⟨_,_,_,_,e⟩:=hls l hm
       rw [s2T l _ e] at hl
       cases hl
     · rcases List.mem_append.mp hy with hy | hy
       · obtain ⟨e1,e2,x1,y1,e3⟩:=hls y hy
         exact ⟨e1,e2,x1,y1,by rw [upd_ne e2]; exact s2l y _ e3⟩
       · rw [List.mem_singleton.mp hy]
         exact ⟨s02.free (s2T.free hl),Ne.symm nDl,ci,v',by rw [upd_ne (Ne.symm nDl),upd_same]⟩
     · have nyD : y ≠ D:=ne_of_none hy hD
       rw [upd_ne nyD]
       exact s2l y _ (s02 y _ hy)
end
end Gen
namespace Gen
open PySem L2
def spMachine (K : PySem.W.Frag) : Sp:=fun vs H Q _=>∃ (a z : Addr) (ns : List Int) (s0 s1 s2 s3 : Int),vs = [.ref a,.ref z] ∧ SqL K H a (ns.map V.int) ∧ SzAt K H z s0 s1 s2 s3 ∧ (∃ o,H z = some o) ∧ MachWant Q s1 s3 H
abbrev nMac : List Str:=["_law_script", "_law_sizes", "_law_cells"]
abbrev pMac : List Str:=["_law_script", "_law_sizes"]
theorem scMac : FnScope nMac pMac (defScope sMachine):=⟨rfl,rfl,rfl,by decide +kernel,rfl,by decide +kernel,by decide +kernel⟩
theorem ndKS : (["_law_k", "_law_script"] : List Str).Nodup:=by decide +kernel
abbrev cxMac (P : Program) (w : World) (K : PySem.W.Frag) (mg : Str → Option Value) (base : Heap) (f : Addr) (cdv : Value) (A : Around) (outer : List Env) (s : Shared) (H : Hp) (E : XK) : Cx :=
 (cxOf CX0 P w K mg base nMac "_law_machine" (defScope sMachine) f cdv A outer s H E).nox
theorem MachWant.same {Q : VK} {s1 s3 : Int} {H H1 : Hp} (k : MachWant Q s1 s3 H) (s : Same H H1) : MachWant Q s1 s3 H1:=fun m M names a1 a2 a3 a4 a5 a6 H' ok l1 l0 l2 l3 l4 l5 l6 l7 hM s1=>k m M names a1 a2 a3 a4 a5 a6 H' ok l1 l0 l2 l3 l4 l5 l6 l7 hM (s.trans s1)
section
variable {P : Program} {w : World} {K : PySem.W.Frag} {mg : Str → Option Value} {base : Heap} {fD fC fR : Addr} {dD dC dR : FuncData}
theorem mach_rest (gD : FnOk P w K mg base CX0 4 fD dD pDig (spDigits K)) (mD : mg "_law_machine_digits" = some (.ref fD)) (kD : PySem.W.keepIn K (.ref fD) = true) (bD : Binds K dD pDig [])
 {f : Addr} {cdv : Value} {A : Around} {outer : List Env} {s : Shared} {H : Hp} {E : XK} {Q : VK} (hr : Room 4 (A.deeper (PyProof.Rows.envOfC "_law_machine" (defScope sMachine) s.heap.objs.size f cdv))) :
 ∃ tR : TS,PSs (cxMac P w K mg base f cdv A outer s H E) (List.drop 2 (defBody sMachine)) tR ∧ ∀ (H1 : Hp) (v0 : Option V) (z D : Addr) (c0 c1 c2 s0 s1 s2 s3 : Int),H1 D = some (.lst [.int c0,.int c1,.int c2]) → SzAt K H1 z s0 s1 s2 s3 → (∃ o,H1 z = some o) → MachWant Q s1 s3 H1 →
  tR { nx:=fun _ H'=>Q .non H',rt:=Q } [v0,some (.ref z),some (.ref D)] H1:=by
 refine ⟨_,pss_one (ps_ret (pe_call gD hr rfl mD kD bD .nil pass0 (pa_cons (pe_lst (pa_cons (pe_ix ix_list (pv 2) pe_int (fun _ _=>rfl)) (pa_cons (pe_ix ix_list (pv 2) pe_int (fun _ _=>rfl)) (pa_cons (pe_op op_fdiv (pe_ix ix_list (pv 2) pe_int (fun _ _=>rfl)) pe_int) pa_nil)))) (pa_cons (pv 1) pa_nil)))),?_⟩
 intro H1 v0 z D c0 c1 c2 s0 s1 s2 s3 hD hz hzo kk
 refine ⟨_,rfl,D,_,_,.int c0,rfl,rfl,SqL.of hD,rfl,_,rfl,D,_,_,.int c1,rfl,rfl,SqL.of hD,rfl,_,rfl,D,_,_,.int c2,rfl,rfl,SqL.of hD,rfl,_,_,rfl,rfl,⟨by decide,by decide⟩,(by show 3 ≤ sizeLine; decide),fun p hp=>?_⟩
 have s1' : Same H1 (upd H1 p (.lst [.int c0,.int c1,.int (c2 / 2)])):=Same.upd_new hp
 obtain ⟨o,ho⟩:=hzo
 exact ⟨_,rfl,p,z,c0,c1,c2 / 2,s0,s1,s2,s3,rfl,SqL.of upd_same,hz.same s1',⟨o,s1' z o ho⟩,kk.same s1'⟩
theorem ok_machine {f : Addr} {fd : FuncData} (F : Fun K "_law_machine" "_law_machine" sMachine f fd) (T : Own mg) (gD : FnOk P w K mg base CX0 4 fD dD pDig (spDigits K)) (mD : mg "_law_machine_digits" = some (.ref fD)) (kD : PySem.W.keepIn K (.ref fD) = true) (bD : Binds K dD pDig [])
 (gC : FnOk P w K mg base CX0 1 fC dC ["_law_script", "_law_k"] (spCell K)) (mC : mg "_law_cell_at" = some (.ref fC)) (kC : PySem.W.keepIn K (.ref fC) = true) (bC : Binds K dC ["_law_script", "_law_k"] [])
 (gR : FnOk P w K mg base CX0 2 fR dR ["_law_cell", "_law_k"] spRich) (mR : mg "_law_rich" = some (.ref fR)) (kR : PySem.W.keepIn K (.ref fR) = true) (bR : Binds K dR ["_law_cell", "_law_k"] []) :
 FnOk P w K mg base CX0 5 f fd pMac (spMachine K):=by
 refine F.ok scMac (fun vs H Q E h=>?_) (fun cdv A outer s H vs Q E hr h=>?_)
 · obtain ⟨a,z,ns,s0,s1,s2,s3,rfl,_⟩:=h
   rfl
 · obtain ⟨a,z,ns,s0,s1,s2,s3,rfl,hS,hz,⟨oz,hzo⟩,kk⟩:=h
   have hr1 : Room 1 _:=hr.mono (by decide)
   have hr2 : Room 2 _:=hr.mono (by decide)
   obtain ⟨tR,hR,rR⟩:=mach_rest gD mD kD bD (outer:=outer) (H:=H) (E:=E) (Q:=Q) hr
   refine ⟨_,pss_cons (ps_lc (i:=2) (N:=["_law_k", "_law_script"]) (js:=[none,some 0]) scMac.nd rfl rfl (by kernel_rfl) rfl (pi_range1 rfl T.range (pa_cons pe_int pa_nil)) (fun _ _ _ _ _ _=>pg_name (i:=0) ndKS rfl (Or.inl rfl) (.inr rfl)) (fun _ _ _ _ _ _=>pifs_nil)
    (fun _ _ _ _ _ _=>pe_call gC hr1 rfl mC kC bC .nil pass0 (pa_cons (pv 1) (pa_cons (pv 0) pa_nil))))
    (pss_cons (ps_if (pt_cmpR op_eq (pe_op op_mod (pe_ix ix_list (pv 2) pe_int (fun _ _=>rfl)) pe_int) pe_int (nomark _))
     (pss_one (ps_lc (i:=2) (N:=["_law_k", "_law_cell"]) (js:=[none,none]) (g:=gTup K 2 (gCons (gName 0) (gCons (gName 1) gNil))) scMac.nd rfl rfl (by kernel_rfl) rfl (pi_enum rfl T.enum (pa_cons (pv 2) pa_nil))
      (fun _ _ _ _ _ _=>pg_tup rfl (pgs_cons (pg_name (i:=0) ndKC rfl (Or.inl rfl) (.inr rfl)) (pgs_cons (pg_name (i:=1) ndKC rfl (Or.inl rfl) (.inr rfl)) pgs_nil))) (fun _ _ _ _ _ _=>pifs_nil)
      (fun _ _ _ _ _ _=>pe_call gR hr2 rfl mR kR bR .nil pass0 (pa_cons (pv 1) (pa_cons (pv 0) pa_nil))))) pss_nil) hR),?_⟩
   refine ⟨3,rfl,by decide,by decide,fun D hD=>?_⟩
   have nzD : z ≠ D:=ne_of_none hzo hD
   refine lc_by 3 (fun i acc σ H2=>(∃ cs : List Int,acc = cs.map V.int ∧ cs.length = i) ∧ (∃ v,σ = [v,some (.ref a)]) ∧ H2 = upd H D (.lst acc)) ⟨⟨[],rfl,rfl⟩,⟨none,rfl⟩,rfl⟩ upd_same ?_ ?_
   · rintro acc σ H2 hDD ⟨⟨cs,rfl,hcl⟩,_,rfl⟩
     obtain ⟨c0,c1,c2,rfl⟩ : ∃ c0 c1 c2,cs = [c0,c1,c2]:=by
      match cs,hcl with
      | [c0,c1,c2],_=>exact ⟨c0,c1,c2,rfl⟩
     refine ⟨Nat.le_refl _,?_⟩
     have s01 : Same H (upd H D (.lst [.int c0,.int c1,.int c2])):=Same.upd_new hD
     refine ⟨_,rfl,D,_,_,.int c2,rfl,rfl,SqL.of upd_same,rfl,_,_,rfl,rfl,(by show (0 : Int) < 2; decide),rfl,_,rfl,?_⟩
     refine ite2 (fun _=>?_) (fun _=>?_)
     · refine ⟨_,rfl,D,rfl,⟨_,SqL.of upd_same⟩,fun D2 hD2=>?_⟩
       have nDD : D ≠ D2:=ne_of_none upd_same hD2
       refine lc_by 3 (fun i acc σ H3=>(∃ cs : List Int,acc = cs.map V.int ∧ cs.length = i) ∧ (∃ u v,σ = [u,v]) ∧ Same (upd H D (.lst [.int c0,.int c1,.int c2])) H3) ⟨⟨[],rfl,rfl⟩,⟨none,none,rfl⟩,Same.upd_new hD2⟩ upd_same ?_ ?_
       · rintro acc σ H3 hDD3 ⟨⟨cs,rfl,hcl3⟩,_,s13⟩
         obtain ⟨e0,e1,e2,rfl⟩ : ∃ c0 c1 c2,cs = [c0,c1,c2]:=by
          match cs,hcl3 with
          | [c0,c1,c2],_=>exact ⟨c0,c1,c2,rfl⟩
         refine ⟨⟨_,SqL.of (s13 D _ upd_same),Nat.le_refl _⟩,?_⟩
         have s03:=s01.trans s13
         exact rR H3 _ z D2 e0 e1 e2 s0 s1 s2 s3 hDD3 (hz.same s03) ⟨oz,s03 z oz hzo⟩ (kk.same s03)
       · rintro i acc σ H3 hi hDD3 ⟨⟨cs,rfl,hcl3⟩,⟨u,v,rfl⟩,s13⟩
         obtain ⟨ci,hx⟩ : ∃ ci : Int,[V.int c0,V.int c1,V.int c2][i]? = some (.int ci):=by
          rcases (show i = 0 ∨ i = 1 ∨ i = 2 by omega) with rfl | rfl | rfl
          · exact ⟨_,rfl⟩
          · exact ⟨_,rfl⟩
          · exact ⟨_,rfl⟩
         have hD3 : H3 D = some (.lst [V.int c0,V.int c1,V.int c2]):=s13 D _ upd_same
         refine ⟨⟨_,_,SqL.of hD3,hx⟩,?_⟩
         rintro x H' ⟨Tp,xv,rfl,hTn,rfl,hall⟩
         have ex:=hall _ (SqL.of hD3)
         rw [hx] at ex
         cases ex
         refine ⟨Tp,_,rfl,SqT.of upd_same,rfl,_,_,rfl,_,_,rfl,rfl,yes_if ?_⟩
         have nDT : D2 ≠ Tp:=ne_of_none hDD3 hTn
         refine ⟨_,rfl,_,rfl,_,_,rfl,by omega,by omega,fun v'=>⟨_,(by rw [upd_ne nDT]; exact hDD3),(by rw [List.length_map]; exact small (by omega)),lcW_next hi upd_same ⟨⟨cs ++ [v'],?_,?_⟩,⟨_,_,rfl⟩,fun y o hy=>?_⟩⟩⟩
         · rw [List.map_append]; rfl
         · rw [List.length_append,List.length_singleton,hcl3]
         · have e3:=s13 y o hy
           rw [upd_ne (ne_of_none hy hD2),upd_ne (ne_of_none e3 hTn)]
           exact e3
     · exact rR _ _ z D c0 c1 c2 s0 s1 s2 s3 upd_same (hz.same s01) ⟨oz,s01 z oz hzo⟩ (kk.same s01)
   · rintro i acc σ H2 hi hDD ⟨⟨cs,rfl,hcl⟩,⟨v,rfl⟩,rfl⟩
     refine ⟨hi,?_⟩
     rintro x H' ⟨rfl,rfl⟩
     refine gName_yes ?_
     refine ⟨_,rfl,_,rfl,a,ns,_,rfl,Same.seq (Same.upd_new hD) hS,by omega,fun v'=>⟨_,upd_same,(by rw [List.length_map]; exact small (by omega)),lcW_next hi upd_same ⟨⟨cs ++ [v'],?_,?_⟩,⟨_,rfl⟩,by rw [upd_upd]⟩⟩⟩
     · rw [List.map_append]; rfl
     · rw [List.length_append,List.length_singleton,hcl]
end
end Gen
namespace Gen
open PySem L2
section
variable {P : Program} {w : World} {K : PySem.W.Frag} {mg : Str → Option Value} {base : Heap}
theorem str_eta (z : Str) : z = ⟨z.cps.toList.toArray⟩:=by cases z; simp
abbrev sBare : Stmt:=top 25
def bareS (z : Str) : Str:=if z.cps.toList[0]? = some 126 then ⟨z.cps.toList.tail.toArray⟩ else z
def spBare : Sp:=fun vs H Q _=>∃ z : Str,vs = [.str z] ∧ z.length ≤ 1000 ∧ Q (.str (bareS z)) H
theorem scBare : FnScope ["literal"] ["literal"] (defScope sBare):=⟨rfl,rfl,rfl,by decide +kernel,rfl,by decide +kernel,by decide +kernel⟩
theorem ok_bare {f : Addr} {fd : FuncData} (F : Fun K "bare_name" "bare_name" sBare f fd) : FnOk P w K mg base CX0 1 f fd ["literal"] spBare:=by
 refine F.ok scBare (fun vs H Q E h=>?_) (fun cdv A outer s H vs Q E hr h=>?_)
 · obtain ⟨z,rfl,_⟩:=h
   rfl
 · obtain ⟨z,rfl,hz,kk⟩:=h
   have hz2 : z.length ≤ sizeLine:=Nat.le_trans hz (by decide)
   refine ⟨_,pss_cons (ps_if (pt_val (pe_bm PySem.F.plainAttrs_str PySem.F.slot_str_startswith PySem.F.type_str_startswith mt_starts (pv 0) (pa_cons pe_str pa_nil))) (pss_one (ps_ret (pe_slice sl_from (pv 0) (po_some pe_int) po_none))) pss_nil)
    (pss_one (ps_ret (pv 0))),?_⟩
   have tl : ("~" : Str) = ⟨#[126]⟩:=by decide +kernel
   refine ⟨_,rfl,rfl,z, "~",rfl,rfl,_,rfl,?_⟩
   rw [tl,starts_one]
   refine ite2 (fun h=>?_) (fun h2=>?_)
   · have e : z.cps.toList[0]? = some 126:=of_decide_eq_true h
     refine ⟨_,rfl,_,rfl,z,1,rfl,rfl,rfl,hz2,?_⟩
     have ts : bareS z = Txt.slice z (some 1) none:=by
      rw [bareS,if_pos e,str_eta (Txt.slice z (some 1) none),slice_tail]
     rw [← ts]
     exact kk
   · have e : ¬ z.cps.toList[0]? = some 126:=fun e=>h2 (decide_eq_true e)
     rw [bareS,if_neg e] at kk
     exact ⟨_,rfl,kk⟩
end
end Gen
namespace L2
open PySem PySem.Spec PyProof.Rows
theorem op_in_one {X : Cx} : OpR X (compareOp .In) (fun x y H Q=>∃ c z,x = .str ⟨#[c]⟩ ∧ y = .str z ∧ Q (.bl (decide (c ∈ z.cps.toList))) H):=by
 intro pins s σ H x y v u Q I rx ry h
 obtain ⟨c,z,rfl,rfl,q⟩:=h
 obtain ⟨t,rfl⟩:=rx
 obtain ⟨t',rfl⟩:=ry
 refine in_str ?_
 rw [StrLaws.found_one]
 exact ⟨.bl _,H,I,rfl,q⟩
end L2
namespace Gen
open PySem L2
abbrev sIsName : Stmt:=top 23
abbrev sIsLit : Stmt:=top 24
def spIsName : Sp:=fun vs H Q _=>∃ z : Str,vs = [.str z] ∧ NameS z ∧ ∀ H',Same H H' → Q (.bl true) H'
theorem ndSi : (["sign"] : List Str).Nodup:=by decide +kernel
section
variable {P : Program} {w : World} {K : PySem.W.Frag} {mg : Str → Option Value} {base : Heap}
structure Consts (mg : Str → Option Value) : Prop where
 letters : ∃ t,mg "LETTERS" = some (.str "abcdefghijklmnopqrstuvwxyz" t)
 longest : ∃ t,mg "LONGEST_NAME" = some (.int 8 t)
 len : mg "len" = none
 all : mg "all" = none
theorem scIsName : FnScope ["word"] ["word"] (defScope sIsName):=⟨rfl,rfl,rfl,by decide +kernel,rfl,by decide +kernel,by decide +kernel⟩
theorem letters_eq : ("abcdefghijklmnopqrstuvwxyz" : Str).cps.toList = letters:=by decide +kernel
theorem ok_is_name {f : Addr} {fd : FuncData} (F : Fun K "is_name" "is_name" sIsName f fd) (T : Consts mg) : FnOk P w K mg base CX0 1 f fd ["word"] spIsName:=by
 obtain ⟨t1,hLE⟩:=T.letters
 obtain ⟨t2,hLO⟩:=T.longest
 refine F.ok scIsName (fun vs H Q E h=>?_) (fun cdv A outer s H vs Q E hr h=>?_)
 · obtain ⟨z,rfl,_⟩:=h
   rfl
 · obtain ⟨z,rfl,hz,kk⟩:=h
   refine ⟨_,pss_cons (ps_if (pw_or (pt_cmpR op_lt (pe_callB call_len_str (by rfl) T.len PySem.boot_len (pa_cons (pv 0) pa_nil)) pe_int (nomark _)) (pw_or1 (pt_cmpR op_gt (pe_callB call_len_str (by rfl) T.len PySem.boot_len (pa_cons (pv 0) pa_nil)) (pe_glob (v:=.int 8) (by rfl) hLO ⟨_,rfl⟩) (nomark _)))).pt (pss_one (ps_ret pe_bl)) pss_nil)
    (pss_one (ps_ret (pe_callB (call_all_true rfl) (by rfl) T.all PyProof.Rows.boot_all (pa_cons (pe_lc (N:=["sign"]) (js:=[none]) (by kernel_rfl) rfl (pi_str (pv 0)) (fun _ _ _ _ _ _=>pg_name (i:=0) ndSi rfl (Or.inl rfl) (.inr rfl)) (fun _ _ _ _ _ _=>pifs_nil)
     (fun _ _ _ _ _ _=>pe_cmpR op_in_one (pv 0) (pe_glob (v:=.str "abcdefghijklmnopqrstuvwxyz") (by rfl) hLE ⟨_,rfl⟩) (by with_unfolding_all rfl))) pa_nil)))),?_⟩
   have hl8 : z.length ≤ 8:=hz.len
   have hl1 : 1 ≤ z.length:=by
    have:=hz.1
    simpa [Str.length] using this
   have hzl : z.length ≤ sizeLine:=Nat.le_trans hl8 (by decide)
   refine ⟨_,rfl,z,rfl,hzl,_,_,rfl,rfl,_,rfl,ite2 (fun h=>absurd (of_decide_eq_true h) (by omega)) (fun _=>?_)⟩
   refine ⟨_,rfl,z,rfl,hzl,_,_,rfl,rfl,_,rfl,ite2 (fun h=>absurd (of_decide_eq_true h) (by omega)) (fun _=>?_)⟩
   refine ⟨_,rfl,z,rfl,fun D hD=>?_⟩
   refine lc_by z.cps.size (fun i acc σ H2=>(∀ y ∈ acc,y = .bl true) ∧ acc.length = i ∧ (∃ u,σ = [u]) ∧ Same H H2) ⟨(fun z h=>nomatch h),rfl,⟨none,rfl⟩,Same.upd_new hD⟩ upd_same ?_ ?_
   · rintro acc σ H2 hDD ⟨hac,hl,_,s2⟩
     exact ⟨rfl,D,acc,rfl,SqL.of hDD,hac,kk H2 s2⟩
   · rintro i acc σ H2 hi hDD ⟨hac,hl,⟨u,rfl⟩,s2⟩
     refine ⟨hi,?_⟩
     rintro x H' ⟨rfl,c,ec,rfl⟩
     refine gName_yes ?_
     have hc : c ∈ ("abcdefghijklmnopqrstuvwxyz" : Str).cps.toList:=by
      rw [letters_eq]
      refine hz.2.2 c ?_
      have : z.cps.toList[i]? = some c:=by simpa using ec
      exact List.mem_of_getElem? this
     refine ⟨_,rfl,c,_,rfl,rfl,acc,hDD,small (by have : i < z.length:=hi; omega),lcW_next hi upd_same ⟨?_,?_,⟨_,rfl⟩,?_⟩⟩
     · intro y hy
       rcases List.mem_append.mp hy with h | h
       · exact hac y h
       · rw [List.mem_singleton.mp h,decide_eq_true hc]
     · rw [List.length_append,List.length_singleton,hl]
     · intro y o hy
       rw [upd_ne (ne_of_none hy hD)]
       exact s2 y o hy
end
end Gen
namespace Gen
open PySem L2
def LitF (z : Str) : Prop:=z = "0" ∨ z = "1" ∨ NameS z ∨ ∃ x,NameS x ∧ z = "~" ++ x
theorem name_first {z : Str} (h : NameS z) : ¬ z.cps.toList[0]? = some 126:=fun e=>by
 have:=mem_letters.mp (h.2.2 126 (List.mem_of_getElem? e))
 omega
theorem tilde_cps (x : Str) : (("~" : Str) ++ x).cps.toList = 126 :: x.cps.toList:=by
 have e : ("~" : Str) = ⟨#[126]⟩:=by decide +kernel
 rw [e]
 show (#[126] ++ x.cps).toList = _
 simp
theorem bare_lit {z : Str} (h : NameS z ∨ ∃ x,NameS x ∧ z = "~" ++ x) : NameS (bareS z) ∧ z.length ≤ 9:=by
 rcases h with h | ⟨x,hx,rfl⟩
 · rw [bareS,if_neg (name_first h)]
   exact ⟨h,Nat.le_trans h.len (by decide)⟩
 · have e1:=tilde_cps x
   have e2 : bareS ("~" ++ x) = x:=by
    rw [bareS,e1,if_pos (show (126 :: x.cps.toList)[0]? = some 126 from rfl)]
    exact (str_eta x).symm
   rw [e2]
   refine ⟨hx,?_⟩
   have e3 : (("~" : Str) ++ x).length = x.length + 1:=by
    have:=congrArg List.length e1
    simpa [Str.length] using this
   have:=hx.len
   omega
def spIsLit : Sp:=fun vs H Q _=>∃ z : Str,vs = [.str z] ∧ LitF z ∧ ∀ H',Same H H' → Q (.bl true) H'
section
variable {P : Program} {w : World} {K : PySem.W.Frag} {mg : Str → Option Value} {base : Heap}
theorem scIsLit : FnScope ["word"] ["word"] (defScope sIsLit):=⟨rfl,rfl,rfl,by decide +kernel,rfl,by decide +kernel,by decide +kernel⟩
theorem ok_is_lit {f fN fB : Addr} {fd dN dB : FuncData} (F : Fun K "is_literal" "is_literal" sIsLit f fd) (T : Consts mg) (FN : Fun K "is_name" "is_name" sIsName fN dN) (mN : mg "is_name" = some (.ref fN)) (bN : Binds K dN ["word"] [])
 (FB : Fun K "bare_name" "bare_name" sBare fB dB) (mB : mg "bare_name" = some (.ref fB)) (bB : Binds K dB ["literal"] []) : FnOk P w K mg base CX0 2 f fd ["word"] spIsLit:=by
 have GN : FnOk P w K mg base CX0 1 fN dN ["word"] spIsName:=ok_is_name FN T
 have GB : FnOk P w K mg base CX0 1 fB dB ["literal"] spBare:=ok_bare FB
 refine F.ok scIsLit (fun vs H Q E h=>?_) (fun cdv A outer s H vs Q E hr h=>?_)
 · obtain ⟨z,rfl,_⟩:=h
   rfl
 · obtain ⟨z,rfl,hz,kk⟩:=h
   refine ⟨_,pss_cons (ps_if (pt_cmpR op_in_seq (pv 0) (pe_tup (pa_cons pe_str (pa_cons pe_str pa_nil))) (by with_unfolding_all rfl)) (pss_one (ps_ret pe_bl)) pss_nil)
    (pss_one (ps_ret (pe_call GN hr rfl mN FN.kp bN .nil pass0 (pa_cons (pe_call GB hr rfl mB FB.kp bB .nil pass0 (pa_cons (pv 0) pa_nil)) pa_nil)))),?_⟩
   refine ⟨_,rfl,(by show 2 ≤ sizeLine; decide),fun t ht=>?_⟩
   have st : Same H (upd H t (.tup [.str "0",.str "1"])):=Same.upd_new ht
   refine ⟨t,_,rfl,.inr (SqT.of upd_same),rfl,rfl,_,rfl,?_⟩
   refine ite2 (fun _=>kk _ st) (fun h=>?_)
   have hz' : NameS z ∨ ∃ x,NameS x ∧ z = "~" ++ x:=by
    rcases hz with rfl | rfl | hz
    · exact absurd (by decide +kernel) h
    · exact absurd (by decide +kernel) h
    · exact hz
   obtain ⟨nm,l9⟩:=bare_lit hz'
   exact ⟨_,rfl,z,rfl,Nat.le_trans l9 (by decide),_,rfl,nm,fun H' s'=>kk H' (st.trans s')⟩
end
end Gen
namespace Gen
open PySem L2
abbrev sFits : Stmt:=top 22
def firstsKvs : List (Key × V):=[(.inr "0",.int 0),(.inr "1",.int 1),(.inr "-",.non)]
def FitS (p z : Str) : Prop:=(p = "first" ∧ (z = "0" ∨ z = "1" ∨ z = "-")) ∨ (p = "literal" ∧ LitF z) ∨ (p = "name" ∧ NameS z)
def spFits : Sp:=fun vs H Q _=>∃ p z : Str,vs = [.str p,.str z] ∧ FitS p z ∧ ∀ H',Same H H' → Q (.bl true) H'
section
variable {P : Program} {w : World} {K : PySem.W.Frag} {mg : Str → Option Value} {base : Heap}
theorem scFits : FnScope ["part", "word"] ["part", "word"] (defScope sFits):=⟨rfl,rfl,rfl,by decide +kernel,rfl,by decide +kernel,by decide +kernel⟩
theorem ok_fits {f fN fL aF : Addr} {fd dN dL : FuncData} (F : Fun K "fits" "fits" sFits f fd) (hF : mg "FIRSTS" = some (.ref aF)) (kF : KD P w K aF firstsKvs)
 (GN : FnOk P w K mg base CX0 1 fN dN ["word"] spIsName) (mN : mg "is_name" = some (.ref fN)) (kN : PySem.W.keepIn K (.ref fN) = true) (bN : Binds K dN ["word"] [])
 (GL : FnOk P w K mg base CX0 2 fL dL ["word"] spIsLit) (mL : mg "is_literal" = some (.ref fL)) (kL : PySem.W.keepIn K (.ref fL) = true) (bL : Binds K dL ["word"] []) : FnOk P w K mg base CX0 3 f fd ["part", "word"] spFits:=by
 refine F.ok scFits (fun vs H Q E h=>?_) (fun cdv A outer s H vs Q E hr h=>?_)
 · obtain ⟨p,z,rfl,_⟩:=h
   rfl
 · obtain ⟨p,z,rfl,hz,kk⟩:=h
   have hr1 : Room 1 _:=hr.mono (by decide)
   refine ⟨_,pss_cons (ps_if (pt_cmpR op_eq (pv 0) pe_str (nomark _)) (pss_one (ps_ret (pe_cmp (pc_kin (pv 1) (pe_glob (v:=.ref aF) (by rfl) hF rfl)) (by with_unfolding_all rfl)))) pss_nil)
    (pss_cons (ps_if (pt_cmpR op_eq (pv 0) pe_str (nomark _)) (pss_one (ps_ret (pe_call GL hr rfl mL kL bL .nil pass0 (pa_cons (pv 1) pa_nil)))) pss_nil)
    (pss_one (ps_ret (pe_call GN hr1 rfl mN kN bN .nil pass0 (pa_cons (pv 1) pa_nil))))),?_⟩
   have sr : Same H H:=fun _ _ h=>h
   rcases hz with ⟨rfl,hz⟩ | ⟨rfl,hz⟩ | ⟨rfl,hz⟩
   · refine ⟨_,rfl,rfl,_,rfl,ite2 (fun _=>?_) (fun h=>absurd (decide_eq_true rfl) h)⟩
     rcases hz with rfl | rfl | rfl
     · exact ⟨_,rfl,aF,firstsKvs,.inr "0",rfl,rfl,kF,kk H sr⟩
     · exact ⟨_,rfl,aF,firstsKvs,.inr "1",rfl,rfl,kF,kk H sr⟩
     · exact ⟨_,rfl,aF,firstsKvs,.inr "-",rfl,rfl,kF,kk H sr⟩
   · refine ⟨_,rfl,rfl,_,rfl,ite2 (fun h=>absurd (V.str.inj (of_decide_eq_true h)) (by decide +kernel)) (fun _=>?_)⟩
     refine ⟨_,rfl,rfl,_,rfl,ite2 (fun _=>?_) (fun h=>absurd (decide_eq_true rfl) h)⟩
     exact ⟨_,rfl,z,rfl,hz,kk⟩
   · refine ⟨_,rfl,rfl,_,rfl,ite2 (fun h=>absurd (V.str.inj (of_decide_eq_true h)) (by decide +kernel)) (fun _=>?_)⟩
     refine ⟨_,rfl,rfl,_,rfl,ite2 (fun h=>absurd (V.str.inj (of_decide_eq_true h)) (by decide +kernel)) (fun _=>?_)⟩
     exact ⟨_,rfl,z,rfl,hz,kk⟩
end
end Gen
namespace Gen
open PySem L2
abbrev sIsTold : Stmt:=top 27
structure NamesAt (K : PySem.W.Frag) (H : Hp) (x : Addr) (sw : List Str) (kp : List (Key × V)) (gs : List (Str × Str × Str)) : Prop where
 ex : ∃ (C dx g1 g2 g3 : Addr) (fs : List (Str × V)) (ts : List Addr),H x = some (.ins C dx fs) ∧ Cls K C ∧ NoAttr K C "switches" ∧ NoAttr K C "keepers" ∧ NoAttr K C "gates" ∧ fs.lookup ("switches" : Str) = some (.ref g1) ∧ fs.lookup ("keepers" : Str) = some (.ref g2) ∧ fs.lookup ("gates" : Str) = some (.ref g3) ∧
  H g1 = some (.lst (sw.map V.str)) ∧ H g2 = some (.dK kp) ∧ H g3 = some (.lst (ts.map V.ref)) ∧ Paired (fun t (r : Str × Str × Str)=>H t = some (.tup [.str r.1,.str r.2.1,.str r.2.2])) ts gs
def toldB (sw : List Str) (kp : List (Key × V)) (gs : List (Str × Str × Str)) (z : Str) : Bool:=inV (.str z) (sw.map V.str) || (valV kp (.inr z)).isSome || gs.any fun r=>decide (r.1 = z)
def spIsTold (K : PySem.W.Frag) : Sp:=fun vs H Q _=>∃ (x : Addr) (sw : List Str) (kp : List (Key × V)) (gs : List (Str × Str × Str)) (z : Str),vs = [.ref x,.str z] ∧ NamesAt K H x sw kp gs ∧ gs.length ≤ 100 ∧ ∀ H',Same H H' → Q (.bl (toldB sw kp gs z)) H'
theorem ndGN : (["gate", "name"] : List Str).Nodup:=by decide +kernel
section
variable {P : Program} {w : World} {K : PySem.W.Frag} {mg : Str → Option Value} {base : Heap}
theorem scIsTold : FnScope ["machine", "name"] ["machine", "name"] (defScope sIsTold):=⟨rfl,rfl,rfl,by decide +kernel,rfl,by decide +kernel,by decide +kernel⟩
theorem ok_is_told {f : Addr} {fd : FuncData} (F : Fun K "is_told" "is_told" sIsTold f fd) (hA : mg "any" = none) : FnOk P w K mg base CX0 1 f fd ["machine", "name"] (spIsTold K):=by
 refine F.ok scIsTold (fun vs H Q E h=>?_) (fun cdv A outer s H vs Q E hr h=>?_)
 · obtain ⟨x,sw,kp,gs,z,rfl,_⟩:=h
   rfl
 · obtain ⟨x,sw,kp,gs,z,rfl,⟨C,dx,g1,g2,g3,fs,ts,hx,cl,n1,n2,n3,e1,e2,e3,h1,h2,h3,hp⟩,hl,kk⟩:=h
   have hu:=hu_of hr
   refine ⟨_,pss_cons (ps_if (pw_or (pt_cmpR op_in_seq (pv 1) (pe_fld (pv 0) rfl) (by with_unfolding_all rfl)) (pw_or1 (pt_cmp (pc_din hu (pv 1) (pe_fld (pv 0) rfl)) (by with_unfolding_all rfl)))).pt (pss_one (ps_ret pe_bl)) pss_nil)
    (pss_one (ps_ret (pe_callB (call_any_bools rfl) (by rfl) hA PyProof.Rows.boot_any (pa_cons (pe_lc (N:=["gate", "name"]) (js:=[none,some 1]) (by kernel_rfl) rfl (pi_list (pe_fld (pv 0) rfl)) (fun _ _ _ _ _ _=>pg_name (i:=0) ndGN rfl (Or.inl rfl) (.inr rfl)) (fun _ _ _ _ _ _=>pifs_nil)
     (fun _ _ _ _ _ _=>pe_cmpR op_eq (pe_ix (r:=rIxT K) ix_tup (pv 0) pe_int (fun _ _=>rfl)) (pv 1) (nomark _))) pa_nil)))),?_⟩
   have fin : toldB sw kp gs z = true → Q (.bl true) H:=fun e=>by
    have:=kk H (fun _ _ h=>h)
    rw [e] at this
    exact this
   refine ⟨_,rfl,_,rfl,x,C,dx,fs,.ref g1,rfl,hx,cl,n1,e1,g1,_,rfl,.inl (SqL.of h1),rfl,(by simp [flatV]),_,rfl,?_⟩
   refine ite2 (fun hc=>iteT (fin (by
    have hc' : inV (.str z) (sw.map V.str) = true:=hc
    rw [toldB,hc']; rfl))) (fun hc1=>?_)
   have c1 : inV (.str z) (sw.map V.str) = false:=by simpa using hc1
   refine ⟨_,rfl,_,rfl,x,C,dx,fs,.ref g2,rfl,hx,cl,n2,e2,g2,_,rfl,DGet.k (k:=.inr z) h2,_,rfl,?_⟩
   refine ite2 (fun hc=>fin (by
    have hc' : (valV kp (.inr z)).isSome = true:=hc
    rw [toldB,hc']; simp)) (fun hc2=>?_)
   have c2 : (valV kp (.inr z)).isSome = false:=by simpa using hc2
   have hlen : ts.length = gs.length:=hp.length
   refine ⟨_,rfl,x,C,dx,fs,.ref g3,rfl,hx,cl,n3,e3,g3,rfl,⟨_,SqL.of h3⟩,fun D hD=>?_⟩
   refine lc_by gs.length (fun i acc σ H2=>acc = ((gs.take i).map fun r=>V.bl (decide (r.1 = z))) ∧ (∃ u,σ = [u,some (.str z)]) ∧ Same H H2) ⟨rfl,⟨none,rfl⟩,Same.upd_new hD⟩ upd_same ?_ ?_
   · rintro acc σ H2 hDD ⟨rfl,_,s2⟩
     refine ⟨⟨_,SqL.of (s2 _ _ h3),by rw [List.length_map,hlen]; exact Nat.le_refl _⟩,D,gs.map (fun r=>decide (r.1 = z)),rfl,SqL.of (by rw [hDD,List.take_length,List.map_map]; rfl),?_⟩
     have e : (gs.map (fun r=>decide (r.1 = z))).any _root_.id = toldB sw kp gs z:=by
      rw [toldB,c1,c2,List.any_map]
      rfl
     rw [e]
     exact kk H2 s2
   · rintro i acc σ H2 hi hDD ⟨rfl,⟨u,rfl⟩,s2⟩
     have hit : i < ts.length:=by omega
     have ht:=paired_both hp (List.getElem?_eq_getElem hit) (List.getElem?_eq_getElem hi)
     refine ⟨⟨_,.ref ts[i],SqL.of (s2 _ _ h3),by rw [List.getElem?_map,List.getElem?_eq_getElem hit]; rfl⟩,?_⟩
     rintro x' H' ⟨rfl,hall⟩
     have ex:=hall _ (SqL.of (s2 _ _ h3))
     rw [List.getElem?_map,List.getElem?_eq_getElem hit] at ex
     cases ex
     refine gName_yes ?_
     refine ⟨_,rfl,ts[i],_,0,.str (gs[i]).1,rfl,rfl,SqT.of (s2 _ _ ht),rfl,_,rfl,rfl,_,hDD,small (by rw [List.length_map,List.length_take]; omega),lcW_next hi upd_same ⟨?_,⟨_,rfl⟩,?_⟩⟩
     · rw [List.take_succ,List.getElem?_eq_getElem hi,List.map_append]
       show _ = _ ++ [V.bl (decide ((gs[i]).1 = z))]
       congr 2
       simp
     · intro y o hy
       rw [upd_ne (ne_of_none hy hD)]
       exact s2 y o hy
end
end Gen
namespace Gen
open PySem L2
abbrev sIsKnown : Stmt:=top 30
theorem NamesAt.same {K : PySem.W.Frag} {H H' : Hp} {x : Addr} {sw : List Str} {kp : List (Key × V)} {gs : List (Str × Str × Str)} (h : NamesAt K H x sw kp gs) (s : Same H H') : NamesAt K H' x sw kp gs:=by
 obtain ⟨C,dx,g1,g2,g3,fs,ts,hx,cl,n1,n2,n3,e1,e2,e3,h1,h2,h3,hp⟩:=h
 exact ⟨C,dx,g1,g2,g3,fs,ts,s _ _ hx,cl,n1,n2,n3,e1,e2,e3,s _ _ h1,s _ _ h2,s _ _ h3,Paired.mapP hp fun t r e=>s _ _ e⟩
def spIsKnown (K : PySem.W.Frag) : Sp:=fun vs H Q _=>∃ (x : Addr) (sw : List Str) (kp : List (Key × V)) (gs : List (Str × Str × Str)) (z : Str),vs = [.ref x,.str z] ∧ NamesAt K H x sw kp gs ∧ gs.length ≤ 100 ∧ z.length ≤ 1000 ∧ (z = "0" ∨ z = "1" ∨ toldB sw kp gs (bareS z) = true) ∧ ∀ H',Same H H' → Q (.bl true) H'
section
variable {P : Program} {w : World} {K : PySem.W.Frag} {mg : Str → Option Value} {base : Heap}
theorem scIsKnown : FnScope ["machine", "literal"] ["machine", "literal"] (defScope sIsKnown):=⟨rfl,rfl,rfl,by decide +kernel,rfl,by decide +kernel,by decide +kernel⟩
theorem ok_is_known {f fT fB : Addr} {fd dT dB : FuncData} (F : Fun K "is_known" "is_known" sIsKnown f fd) (hA : mg "any" = none) (FT : Fun K "is_told" "is_told" sIsTold fT dT) (mT : mg "is_told" = some (.ref fT)) (bT : Binds K dT ["machine", "name"] [])
 (FB : Fun K "bare_name" "bare_name" sBare fB dB) (mB : mg "bare_name" = some (.ref fB)) (bB : Binds K dB ["literal"] []) : FnOk P w K mg base CX0 2 f fd ["machine", "literal"] (spIsKnown K):=by
 have GT : FnOk P w K mg base CX0 1 fT dT ["machine", "name"] (spIsTold K):=ok_is_told FT hA
 have GB : FnOk P w K mg base CX0 1 fB dB ["literal"] spBare:=ok_bare FB
 refine F.ok scIsKnown (fun vs H Q E h=>?_) (fun cdv A outer s H vs Q E hr h=>?_)
 · obtain ⟨x,sw,kp,gs,z,rfl,_⟩:=h
   rfl
 · obtain ⟨x,sw,kp,gs,z,rfl,hN,hl,hz,hk,kk⟩:=h
   refine ⟨_,pss_cons (ps_if (pt_cmpR op_in_seq (pv 1) (pe_tup (pa_cons pe_str (pa_cons pe_str pa_nil))) (by with_unfolding_all rfl)) (pss_one (ps_ret pe_bl)) pss_nil)
    (pss_one (ps_ret (pe_call GT hr rfl mT FT.kp bT .nil pass0 (pa_cons (pv 0) (pa_cons (pe_call GB hr rfl mB FB.kp bB .nil pass0 (pa_cons (pv 1) pa_nil)) pa_nil))))),?_⟩
   refine ⟨_,rfl,(by show 2 ≤ sizeLine; decide),fun t ht=>?_⟩
   have st : Same H (upd H t (.tup [.str "0",.str "1"])):=Same.upd_new ht
   refine ⟨t,_,rfl,.inr (SqT.of upd_same),rfl,rfl,_,rfl,?_⟩
   refine ite2 (fun _=>kk _ st) (fun h=>?_)
   have hk' : toldB sw kp gs (bareS z) = true:=by
    rcases hk with rfl | rfl | hk
    · exact absurd (by decide +kernel) h
    · exact absurd (by decide +kernel) h
    · exact hk
   refine ⟨_,rfl,_,rfl,z,rfl,hz,x,sw,kp,gs,bareS z,rfl,hN.same st,hl,fun H' s'=>?_⟩
   rw [hk']
   exact kk H' (st.trans s')
end
end Gen
namespace Gen
open PySem L2
abbrev sInit : Stmt:=inClass (top 1) 0
structure Own2 (mg : Str → Option Value) : Prop where
 len : mg "len" = none
 list : mg "list" = none
 dict : mg "dict" = none
 tuple : mg "tuple" = none
 str : mg "str" = none
 int : mg "int" = none
 bool : mg "bool" = none
 zip : mg "zip" = none
 all : mg "all" = none
 isi : mg "isinstance" = none
structure Flds where
 sw : List Str
 kp : List (Key × V)
 gt : List Addr
 nx : List (Key × V)
 nv : List (Key × V)
 sm : List (Key × V)
structure FAt (H : Hp) (F : Flds) (f1 f2 f3 f4 f5 f6 : Addr) : Prop where
 h1 : H f1 = some (.lst (F.sw.map V.str))
 h2 : H f2 = some (.dK F.kp)
 h3 : H f3 = some (.lst (F.gt.map V.ref))
 h4 : H f4 = some (.dK F.nx)
 h5 : H f5 = some (.dK F.nv)
 h6 : H f6 = some (.dK F.sm)
structure TxtM (K : PySem.W.Frag) (mg : Str → Option Value) (C : Addr) : Prop where
 cl : Cls K C
 n1 : NoAttr K C "switches"
 n2 : NoAttr K C "keepers"
 n3 : NoAttr K C "gates"
 n4 : NoAttr K C "nexts"
 n5 : NoAttr K C "nevers"
 n6 : NoAttr K C "somes"
 mgC : mg "Machine" = some (.ref C)
def flds (f1 f2 f3 f4 f5 f6 : Addr) : List (Str × V):=putF "somes" (.ref f6) (putF "nevers" (.ref f5) (putF "nexts" (.ref f4) (putF "gates" (.ref f3) (putF "keepers" (.ref f2) (putF "switches" (.ref f1) [])))))
section
variable (f1 f2 f3 f4 f5 f6 : Addr)
theorem flds_1 : (flds f1 f2 f3 f4 f5 f6).lookup ("switches" : Str) = some (.ref f1):=by
 unfold flds
 rw [lookup_putF,if_neg (by decide +kernel),lookup_putF,if_neg (by decide +kernel),lookup_putF,if_neg (by decide +kernel),lookup_putF,if_neg (by decide +kernel),lookup_putF,if_neg (by decide +kernel),lookup_putF,if_pos rfl]
theorem flds_2 : (flds f1 f2 f3 f4 f5 f6).lookup ("keepers" : Str) = some (.ref f2):=by
 unfold flds
 rw [lookup_putF,if_neg (by decide +kernel),lookup_putF,if_neg (by decide +kernel),lookup_putF,if_neg (by decide +kernel),lookup_putF,if_neg (by decide +kernel),lookup_putF,if_pos rfl]
theorem flds_3 : (flds f1 f2 f3 f4 f5 f6).lookup ("gates" : Str) = some (.ref f3):=by
 unfold flds
 rw [lookup_putF,if_neg (by decide +kernel),lookup_putF,if_neg (by decide +kernel),lookup_putF,if_neg (by decide +kernel),lookup_putF,if_pos rfl]
theorem flds_4 : (flds f1 f2 f3 f4 f5 f6).lookup ("nexts" : Str) = some (.ref f4):=by
 unfold flds
 rw [lookup_putF,if_neg (by decide +kernel),lookup_putF,if_neg (by decide +kernel),lookup_putF,if_pos rfl]
theorem flds_5 : (flds f1 f2 f3 f4 f5 f6).lookup ("nevers" : Str) = some (.ref f5):=by
 unfold flds
 rw [lookup_putF,if_neg (by decide +kernel),lookup_putF,if_pos rfl]
theorem flds_6 : (flds f1 f2 f3 f4 f5 f6).lookup ("somes" : Str) = some (.ref f6):=by
 unfold flds
 rw [lookup_putF,if_pos rfl]
end
theorem putF_few {f : Str} {v : V} {fs : List (Str × V)} {n : Nat} (h : fs.length ≤ n) : (putF f v fs).length ≤ n + 1:=Nat.le_trans (length_putF f v fs) (Nat.succ_le_succ h)
theorem few {n m : Nat} (h : n ≤ m) (hm : m < 1000) : n < 1000:=Nat.lt_of_le_of_lt h hm
theorem init_step {H : Hp} {p g C dx : Addr} {o : HO} {fs fs' : List (Str × V)} (hp : H p = some (.ins C dx fs)) (hg : H g = none) :
 (upd (upd H g o) p (.ins C dx fs')) p = some (.ins C dx fs') ∧ (upd (upd H g o) p (.ins C dx fs')) g = some o ∧ (upd H g o) p = some (.ins C dx fs) ∧ ∀ b u,H b = some u → b ≠ p → (upd (upd H g o) p (.ins C dx fs')) b = some u:=by
 have n:=ne_of_none hp hg
 refine ⟨upd_same,by rw [upd_ne (Ne.symm n),upd_same],by rw [upd_ne n]; exact hp,fun b u hb nb=>by rw [upd_ne nb,upd_ne (ne_of_none hb hg)]; exact hb⟩
abbrev pInit : List Str:=["self", "switches", "keepers", "gates", "nexts", "nevers", "somes"]
def spInit (C : Addr) : Sp:=fun vs H Q _=>∃ (p dx s1 s2 s3 s4 s5 s6 : Addr) (F : Flds),vs = [.ref p,.ref s1,.ref s2,.ref s3,.ref s4,.ref s5,.ref s6] ∧ H p = some (.ins C dx []) ∧ FAt H F s1 s2 s3 s4 s5 s6 ∧
 ∀ (g1 g2 g3 g4 g5 g6 : Addr) (H' : Hp),(∀ g ∈ [g1,g2,g3,g4,g5,g6],H g = none) → [g1,g2,g3,g4,g5,g6].Nodup → H' p = some (.ins C dx (flds g1 g2 g3 g4 g5 g6)) → FAt H' F g1 g2 g3 g4 g5 g6 → Keep H H' p → Q .non H'
theorem none_back {H H' : Hp} {p g : Addr} (k : ∀ b u,H b = some u → b ≠ p → H' b = some u) (hg : H' g = none) (np : g ≠ p) : H g = none:=by
 cases e : H g with
 | none=>rfl
 | some o=>rw [k g o e np] at hg; cases hg
section
variable {P : Program} {w : World} {K : PySem.W.Frag} {mg : Str → Option Value} {base : Heap}
theorem scInit : FnScope pInit pInit (defScope sInit):=⟨rfl,rfl,rfl,by decide +kernel,rfl,by decide +kernel,by decide +kernel⟩
theorem ok_init {f C : Addr} {fd : FuncData} (F : Fun K "__init__" "Machine.__init__" sInit f fd) (T : TxtM K mg C) (O : Own2 mg) : FnOk P w K mg base CX0 1 f fd pInit (spInit C):=by
 refine F.ok scInit (fun vs H Q E h=>?_) (fun cdv A outer s H vs Q E hr h=>?_)
 · obtain ⟨p,dx,s1,s2,s3,s4,s5,s6,F,rfl,_⟩:=h
   rfl
 · obtain ⟨p,dx,s1,s2,s3,s4,s5,s6,F,rfl,hp,hF,kk⟩:=h
   refine ⟨_,pss_cons (ps_fld (pv 0) (pe_callTy call_list_of (by rfl) O.list PyProof.Rows.boot_list (pa_cons (pv 1) pa_nil)) rfl)
    (pss_cons (ps_fld (pv 0) (pe_callTy call_dict_copy (by rfl) O.dict PyProof.Rows.boot_dict (pa_cons (pv 2) pa_nil)) rfl)
    (pss_cons (ps_fld (pv 0) (pe_callTy call_list_of (by rfl) O.list PyProof.Rows.boot_list (pa_cons (pv 3) pa_nil)) rfl)
    (pss_cons (ps_fld (pv 0) (pe_callTy call_dict_copy (by rfl) O.dict PyProof.Rows.boot_dict (pa_cons (pv 4) pa_nil)) rfl)
    (pss_cons (ps_fld (pv 0) (pe_callTy call_dict_copy (by rfl) O.dict PyProof.Rows.boot_dict (pa_cons (pv 5) pa_nil)) rfl)
    (pss_one (ps_fld (pv 0) (pe_callTy call_dict_copy (by rfl) O.dict PyProof.Rows.boot_dict (pa_cons (pv 6) pa_nil)) rfl)))))),?_⟩
   have np : ∀ {b : Addr} {u : HO},H b = some u → (∀ C dx fs,u ≠ .ins C dx fs) → b ≠ p:=fun hb hu z=>by
    rw [z,hp] at hb
    exact hu _ _ _ (Option.some.inj hb).symm
   have m1 : s1 ≠ p:=np hF.h1 (fun _ _ _ z=>by cases z)
   have m2 : s2 ≠ p:=np hF.h2 (fun _ _ _ z=>by cases z)
   have m3 : s3 ≠ p:=np hF.h3 (fun _ _ _ z=>by cases z)
   have m4 : s4 ≠ p:=np hF.h4 (fun _ _ _ z=>by cases z)
   have m5 : s5 ≠ p:=np hF.h5 (fun _ _ _ z=>by cases z)
   have m6 : s6 ≠ p:=np hF.h6 (fun _ _ _ z=>by cases z)
   refine ⟨_,rfl,s1,_,rfl,.inl (SqL.of hF.h1),fun g1 e1=>?_⟩
   obtain ⟨p1,q1,r1,k1⟩:=init_step (o:=.lst (F.sw.map V.str)) (fs':=putF "switches" (.ref g1) []) hp e1
   have b1 : g1 ≠ p:=(ne_of_none hp e1).symm
   refine ⟨_,rfl,p,C,dx,[],rfl,r1,T.cl,T.n1,(by show 0 < 1000; decide),?_⟩
   generalize upd (upd H g1 (.lst (F.sw.map V.str))) p (.ins C dx (putF "switches" (.ref g1) [])) = H1 at p1 q1 k1 ⊢
   refine ⟨_,rfl,s2,_,rfl,.inl (k1 _ _ hF.h2 m2),fun g2 e2=>?_⟩
   obtain ⟨p2,q2,r2,k2⟩:=init_step (o:=.dK F.kp) (fs':=putF "keepers" (.ref g2) (putF "switches" (.ref g1) [])) p1 e2
   have b2 : g2 ≠ p:=(ne_of_none p1 e2).symm
   refine ⟨_,rfl,p,C,dx,_,rfl,r2,T.cl,T.n2,few (putF_few (Nat.le_refl _)) (by show 1 < 1000; decide),?_⟩
   generalize upd (upd H1 g2 (.dK F.kp)) p (.ins C dx (putF "keepers" (.ref g2) (putF "switches" (.ref g1) []))) = H2 at p2 q2 k2 ⊢
   refine ⟨_,rfl,s3,_,rfl,.inl (SqL.of (k2 _ _ (k1 _ _ hF.h3 m3) m3)),fun g3 e3=>?_⟩
   obtain ⟨p3,q3,r3,k3⟩:=init_step (o:=.lst (F.gt.map V.ref)) (fs':=putF "gates" (.ref g3) (putF "keepers" (.ref g2) (putF "switches" (.ref g1) []))) p2 e3
   have b3 : g3 ≠ p:=(ne_of_none p2 e3).symm
   refine ⟨_,rfl,p,C,dx,_,rfl,r3,T.cl,T.n3,few (putF_few (putF_few (Nat.le_refl _))) (by show 2 < 1000; decide),?_⟩
   generalize upd (upd H2 g3 (.lst (F.gt.map V.ref))) p (.ins C dx (putF "gates" (.ref g3) (putF "keepers" (.ref g2) (putF "switches" (.ref g1) [])))) = H3 at p3 q3 k3 ⊢
   refine ⟨_,rfl,s4,_,rfl,.inl (k3 _ _ (k2 _ _ (k1 _ _ hF.h4 m4) m4) m4),fun g4 e4=>?_⟩
   obtain ⟨p4,q4,r4,k4⟩:=init_step (o:=.dK F.nx) (fs':=putF "nexts" (.ref g4) (putF "gates" (.ref g3) (putF "keepers" (.ref g2) (putF "switches" (.ref g1) [])))) p3 e4
   have b4 : g4 ≠ p:=(ne_of_none p3 e4).symm
   refine ⟨_,rfl,p,C,dx,_,rfl,r4,T.cl,T.n4,few (putF_few (putF_few (putF_few (Nat.le_refl _)))) (by show 3 < 1000; decide),?_⟩
   generalize upd (upd H3 g4 (.dK F.nx)) p (.ins C dx (putF "nexts" (.ref g4) (putF "gates" (.ref g3) (putF "keepers" (.ref g2) (putF "switches" (.ref g1) []))))) = H4 at p4 q4 k4 ⊢
   refine ⟨_,rfl,s5,_,rfl,.inl (k4 _ _ (k3 _ _ (k2 _ _ (k1 _ _ hF.h5 m5) m5) m5) m5),fun g5 e5=>?_⟩
   obtain ⟨p5,q5,r5,k5⟩:=init_step (o:=.dK F.nv) (fs':=putF "nevers" (.ref g5) (putF "nexts" (.ref g4) (putF "gates" (.ref g3) (putF "keepers" (.ref g2) (putF "switches" (.ref g1) []))))) p4 e5
   have b5 : g5 ≠ p:=(ne_of_none p4 e5).symm
   refine ⟨_,rfl,p,C,dx,_,rfl,r5,T.cl,T.n5,few (putF_few (putF_few (putF_few (putF_few (Nat.le_refl _))))) (by show 4 < 1000; decide),?_⟩
   generalize upd (upd H4 g5 (.dK F.nv)) p (.ins C dx (putF "nevers" (.ref g5) (putF "nexts" (.ref g4) (putF "gates" (.ref g3) (putF "keepers" (.ref g2) (putF "switches" (.ref g1) [])))))) = H5 at p5 q5 k5 ⊢
   refine ⟨_,rfl,s6,_,rfl,.inl (k5 _ _ (k4 _ _ (k3 _ _ (k2 _ _ (k1 _ _ hF.h6 m6) m6) m6) m6) m6),fun g6 e6=>?_⟩
   obtain ⟨p6,q6,r6,k6⟩:=init_step (o:=.dK F.sm) (fs':=flds g1 g2 g3 g4 g5 g6) p5 e6
   have b6 : g6 ≠ p:=(ne_of_none p5 e6).symm
   refine ⟨_,rfl,p,C,dx,_,rfl,r6,T.cl,T.n6,few (putF_few (putF_few (putF_few (putF_few (putF_few (Nat.le_refl _)))))) (by show 5 < 1000; decide),?_⟩
   refine kk g1 g2 g3 g4 g5 g6 _ ?_ ?nd p6 ⟨k6 _ _ (k5 _ _ (k4 _ _ (k3 _ _ (k2 _ _ q1 b1) b1) b1) b1) b1,k6 _ _ (k5 _ _ (k4 _ _ (k3 _ _ q2 b2) b2) b2) b2,k6 _ _ (k5 _ _ (k4 _ _ q3 b3) b3) b3,k6 _ _ (k5 _ _ q4 b4) b4,k6 _ _ q5 b5,q6⟩
    (fun b o hb nb=>k6 _ _ (k5 _ _ (k4 _ _ (k3 _ _ (k2 _ _ (k1 _ _ hb nb) nb) nb) nb) nb) nb)
   have z1 : ∀ {g},g ≠ p → H1 g = none → H g = none:=fun n e=>none_back k1 e n
   have z2 : ∀ {g},g ≠ p → H2 g = none → H g = none:=fun n e=>z1 n (none_back k2 e n)
   have z3 : ∀ {g},g ≠ p → H3 g = none → H g = none:=fun n e=>z2 n (none_back k3 e n)
   have z4 : ∀ {g},g ≠ p → H4 g = none → H g = none:=fun n e=>z3 n (none_back k4 e n)
   have z5 : ∀ {g},g ≠ p → H5 g = none → H g = none:=fun n e=>z4 n (none_back k5 e n)
   case nd =>
    have d12:=ne_of_none q1 e2
    have d13:=ne_of_none (k2 _ _ q1 b1) e3
    have d14:=ne_of_none (k3 _ _ (k2 _ _ q1 b1) b1) e4
    have d15:=ne_of_none (k4 _ _ (k3 _ _ (k2 _ _ q1 b1) b1) b1) e5
    have d16:=ne_of_none (k5 _ _ (k4 _ _ (k3 _ _ (k2 _ _ q1 b1) b1) b1) b1) e6
    have d23:=ne_of_none q2 e3
    have d24:=ne_of_none (k3 _ _ q2 b2) e4
    have d25:=ne_of_none (k4 _ _ (k3 _ _ q2 b2) b2) e5
    have d26:=ne_of_none (k5 _ _ (k4 _ _ (k3 _ _ q2 b2) b2) b2) e6
    have d34:=ne_of_none q3 e4
    have d35:=ne_of_none (k4 _ _ q3 b3) e5
    have d36:=ne_of_none (k5 _ _ (k4 _ _ q3 b3) b3) e6
    have d45:=ne_of_none q4 e5
    have d46:=ne_of_none (k5 _ _ q4 b4) e6
    have d56:=ne_of_none q5 e6
    simp only [List.nodup_cons,List.mem_cons,List.not_mem_nil,or_false,not_or,List.nodup_nil,and_true,not_false_eq_true]
    exact ⟨⟨d12,d13,d14,d15,d16⟩,⟨d23,d24,d25,d26⟩,⟨d34,d35,d36⟩,⟨d45,d46⟩,d56⟩
   intro g hg
   simp only [List.mem_cons,List.not_mem_nil,or_false] at hg
   rcases hg with rfl | rfl | rfl | rfl | rfl | rfl
   · exact e1
   · exact z1 b2 e2
   · exact z2 b3 e3
   · exact z3 b4 e4
   · exact z4 b5 e5
   · exact z5 b6 e6
end
end Gen
namespace Gen
open PySem L2
abbrev sHasForm : Stmt:=top 21
abbrev sLitsIn : Stmt:=top 29
def formsS : List (Str × List Str):=[("switch",["name"]),("keep",["name", "first"]),("gate",["name", "literal", "literal"]),("next",["name", "literal"]),("never",["name", "literal"]),("some",["name", "literal"])]
def TupK (K : PySem.W.Frag) (t : Addr) (xs : List V) : Prop:=∃ (o : Obj) (its : Array Value) (n : Nat),K.lookup t = some o ∧ o.cls = .type "tuple" ∧ o.data = .seq its n ∧ its.size ≤ sizeLine ∧ Vals xs its.toList
theorem TupK.sq {K : PySem.W.Frag} {t : Addr} {xs : List V} (h : TupK K t xs) (H : Hp) : SqT K H t xs:=.inr h
structure FormsAt (P : Program) (w : World) (K : PySem.W.Frag) (mg : Str → Option Value) (aF : Addr) : Prop where
 mgF : mg "FORMS" = some (.ref aF)
 kd : ∃ kvs,KD P w K aF kvs ∧ ∀ key parts,(key,parts) ∈ formsS → ∃ t,valV kvs (.inr key) = some (.ref t) ∧ TupK K t (parts.map V.str)
structure FormOk (key : Str) (parts rest : List Str) : Prop where
 mem : (key,parts) ∈ formsS
 fit : Paired FitS parts rest
theorem FormOk.len {key : Str} {parts rest : List Str} (h : FormOk key parts rest) : rest.length = parts.length ∧ parts.length ≤ 3:=by
 refine ⟨h.fit.length.symm,?_⟩
 have:=h.mem
 simp only [formsS,List.mem_cons,Prod.mk.injEq,List.not_mem_nil,or_false] at this
 rcases this with ⟨_,rfl⟩ | ⟨_,rfl⟩ | ⟨_,rfl⟩ | ⟨_,rfl⟩ | ⟨_,rfl⟩ | ⟨_,rfl⟩ <;> decide
def spHasForm : Sp:=fun vs H Q _=>∃ (p : Addr) (key : Str) (parts rest : List Str),vs = [.ref p] ∧ H p = some (.lst ((key :: rest).map V.str)) ∧ FormOk key parts rest ∧ ∀ H',Same H H' → Q (.bl true) H'
theorem at0 {x : V} {r : List V} : atI (x :: r) 0 = some x:=atI_nat (j:=0) rfl
theorem at1 {x y : V} {r : List V} : atI (x :: y :: r) 1 = some y:=atI_nat (j:=1) rfl
theorem at2 {x y z : V} {r : List V} : atI (x :: y :: z :: r) 2 = some z:=atI_nat (j:=2) rfl
theorem at3 {x y z u : V} {r : List V} : atI (x :: y :: z :: u :: r) 3 = some u:=atI_nat (j:=3) rfl
theorem ndPW : (["part", "word"] : List Str).Nodup:=by decide +kernel
theorem cut1 (x : V) (xs : List V) : cutV (x :: xs) (some 1) none = xs:=by
 have e1 : HT.sIx (x :: xs).length 0 (some 1) = 1:=by
  have:=HT.sIx_nat (x :: xs).length 0 1
  rw [show ((1 : Nat) : Int) = 1 from rfl] at this
  rw [this,List.length_cons]
  omega
 unfold cutV
 rw [e1,HT.sIx_none,List.drop_succ_cons,List.drop_zero,List.take_of_length_le (by simp)]
section
variable {P : Program} {w : World} {K : PySem.W.Frag} {mg : Str → Option Value} {base : Heap}
abbrev nHF : List Str:=["words", "parts"]
theorem scHasForm : FnScope nHF ["words"] (defScope sHasForm):=⟨rfl,rfl,rfl,by decide +kernel,rfl,by decide +kernel,by decide +kernel⟩
theorem ok_has_form {f fF aF : Addr} {fd dF : FuncData} (F : Fun K "has_form" "has_form" sHasForm f fd) (O : Own2 mg) (T : FormsAt P w K mg aF)
 (GF : FnOk P w K mg base CX0 3 fF dF ["part", "word"] spFits) (mF : mg "fits" = some (.ref fF)) (kF : PySem.W.keepIn K (.ref fF) = true) (bF : Binds K dF ["part", "word"] []) : FnOk P w K mg base CX0 4 f fd ["words"] spHasForm:=by
 refine F.ok scHasForm (fun vs H Q E h=>?_) (fun cdv A outer s H vs Q E hr h=>?_)
 · obtain ⟨p,key,parts,rest,rfl,_⟩:=h
   rfl
 · obtain ⟨p,key,parts,rest,rfl,hp,hf,kk⟩:=h
   have hr3 : Room 3 _:=hr.mono (by decide)
   obtain ⟨kvs,kd,hk⟩:=T.kd
   obtain ⟨t,hv,ht⟩:=hk key parts hf.mem
   obtain ⟨hlen,hl3⟩:=hf.len
   refine ⟨_,pss_cons (ps_if (pt_cmp (pc_knotin (pe_ix ix_list (pv 0) pe_int (fun _ _=>rfl)) (pe_glob (v:=.ref aF) (by rfl) T.mgF rfl)) (by with_unfolding_all rfl)) (pss_one (ps_ret pe_bl)) pss_nil)
    (pss_cons (ps_set (i:=1) scHasForm.nd rfl (Or.inl rfl) (pe_kget (pe_glob (v:=.ref aF) (by rfl) T.mgF rfl) (pe_ix ix_list (pv 0) pe_int (fun _ _=>rfl)) (fun _ _=>rfl)))
    (pss_cons (ps_if (pt_cmpR op_ne (pe_callB call_len_seq (by rfl) O.len PySem.boot_len (pa_cons (pv 0) pa_nil)) (pe_op op_add (pe_callB call_len_seq (by rfl) O.len PySem.boot_len (pa_cons (pv 1) pa_nil)) pe_int) (nomark _)) (pss_one (ps_ret pe_bl)) pss_nil)
    (pss_one (ps_ret (pe_callB (call_all_true rfl) (by rfl) O.all PyProof.Rows.boot_all (pa_cons (pe_lc (N:=["part", "word"]) (js:=[none,none]) (g:=gTup K 2 (gCons (gName 0) (gCons (gName 1) gNil))) (by kernel_rfl) rfl
     (pi_zipM (by rfl) O.zip (pa_cons (pv 1) (pa_cons (pe_slice sl_list (pv 0) (po_some pe_int) po_none) pa_nil)))
     (fun _ _ _ _ _ _=>pg_tup rfl (pgs_cons (pg_name (i:=0) ndPW rfl (Or.inl rfl) (.inr rfl)) (pgs_cons (pg_name (i:=1) ndPW rfl (Or.inl rfl) (.inr rfl)) pgs_nil))) (fun _ _ _ _ _ _=>pifs_nil)
     (fun _ _ _ _ _ _=>pe_call GF hr3 rfl mF kF bF .nil pass0 (pa_cons (pv 0) (pa_cons (pv 1) pa_nil)))) pa_nil)))))),?_⟩
   have kis : (valV kvs (.inr key)).isSome = true:=by rw [hv]; rfl
   refine ⟨_,rfl,p,_,0,.str key,rfl,rfl,SqL.of hp,at0,aF,kvs,.inr key,rfl,rfl,kd,_,rfl,?_⟩
   rw [kis]
   refine iteF ?_
   refine ⟨_,rfl,p,_,0,.str key,rfl,rfl,SqL.of hp,at0,aF,kvs,.inr key,.ref t,rfl,rfl,kd,hv,?_⟩
   refine ⟨_,rfl,p,_,rfl,.inl (SqL.of hp),_,rfl,t,_,rfl,.inr (ht.sq H),_,_,rfl,rfl,rfl,_,rfl,?_⟩
   refine iteNS (by simp only [List.length_map,List.length_cons,hlen]; rfl) ?_
   refine ⟨_,rfl,_,rfl,_,rfl,p,_,rfl,SqL.of hp,fun q hq=>?_⟩
   rw [List.map_cons,cut1]
   have sq : Same H (upd H q (.lst (rest.map V.str))):=Same.upd_new hq
   refine ⟨t,q,rfl,⟨_,ht.sq _⟩,⟨_,SqL.of upd_same⟩,fun D hD=>?_⟩
   have nqD : q ≠ D:=ne_of_none upd_same hD
   refine lc_by parts.length (fun i acc σ H2=>(∀ y ∈ acc,y = .bl true) ∧ acc.length = i ∧ (∃ u v,σ = [u,v]) ∧ Same (upd H q (.lst (rest.map V.str))) H2) ⟨(fun z h=>nomatch h),rfl,⟨none,none,rfl⟩,Same.upd_new hD⟩ upd_same ?_ ?_
   · rintro acc σ H2 hDD ⟨hac,hl,_,s2⟩
     exact ⟨⟨_,ht.sq _,by rw [List.length_map]; exact Nat.le_refl _⟩,D,acc,rfl,SqL.of hDD,hac,kk H2 (sq.trans s2)⟩
   · rintro i acc σ H2 hi hDD ⟨hac,hl,⟨u,v,rfl⟩,s2⟩
     have hir : i < rest.length:=by omega
     have hq2 : H2 q = some (.lst (rest.map V.str)):=s2 q _ upd_same
     have ep : (parts.map V.str)[i]? = some (.str parts[i]):=by rw [List.getElem?_map,List.getElem?_eq_getElem hi]; rfl
     have er : (rest.map V.str)[i]? = some (.str rest[i]):=by rw [List.getElem?_map,List.getElem?_eq_getElem hir]; rfl
     have hfit:=paired_both hf.fit (List.getElem?_eq_getElem hi) (List.getElem?_eq_getElem hir)
     refine ⟨⟨_,_,_,_,ht.sq _,SqL.of hq2,ep,er⟩,?_⟩
     rintro x H' ⟨Tp,x1,x2,rfl,hTn,rfl,ha,hb⟩
     have e1:=ha _ (ht.sq _)
     rw [ep] at e1
     cases e1
     have e2:=hb _ (SqL.of hq2)
     rw [er] at e2
     cases e2
     refine ⟨Tp,_,rfl,SqT.of upd_same,rfl,_,_,rfl,_,_,rfl,rfl,yes_if ?_⟩
     have nDT : D ≠ Tp:=ne_of_none hDD hTn
     refine ⟨_,rfl,_,rfl,_,_,rfl,hfit,fun H' s'=>?_⟩
     refine ⟨_,s' D _ (by rw [upd_ne nDT]; exact hDD),small (by omega),lcW_next hi upd_same ⟨?_,?_,⟨_,_,rfl⟩,?_⟩⟩
     · intro y hy
       rcases List.mem_append.mp hy with h | h
       · exact hac y h
       · exact List.mem_singleton.mp h
     · rw [List.length_append,List.length_singleton,hl]
     · intro y o hy
       rw [upd_ne (ne_of_none hy hD)]
       exact s' y o (by rw [upd_ne (ne_of_none (s2 y o hy) hTn)]; exact s2 y o hy)
end
end Gen
namespace Gen
open PySem L2
def litsOf (parts rest : List Str) : List Str:=((parts.zip rest).filter fun r : Str × Str=>decide (r.1 = ("literal" : Str))).map (·.2)
def spLitsIn : Sp:=fun vs H Q _=>∃ (p : Addr) (key : Str) (parts rest : List Str),vs = [.ref p] ∧ H p = some (.lst ((key :: rest).map V.str)) ∧ FormOk key parts rest ∧ ∀ q H',H q = none → Same H H' → H' q = some (.lst ((litsOf parts rest).map V.str)) → Q (.ref q) H'
section
variable {P : Program} {w : World} {K : PySem.W.Frag} {mg : Str → Option Value} {base : Heap}
theorem scLitsIn : FnScope nHF ["words"] (defScope sLitsIn):=⟨rfl,rfl,rfl,by decide +kernel,rfl,by decide +kernel,by decide +kernel⟩
theorem ok_lits_in {f aF : Addr} {fd : FuncData} (F : Fun K "literals_in" "literals_in" sLitsIn f fd) (O : Own2 mg) (T : FormsAt P w K mg aF) : FnOk P w K mg base CX0 1 f fd ["words"] spLitsIn:=by
 refine F.ok scLitsIn (fun vs H Q E h=>?_) (fun cdv A outer s H vs Q E hr h=>?_)
 · obtain ⟨p,key,parts,rest,rfl,_⟩:=h
   rfl
 · obtain ⟨p,key,parts,rest,rfl,hp,hf,kk⟩:=h
   obtain ⟨kvs,kd,hk⟩:=T.kd
   obtain ⟨t,hv,ht⟩:=hk key parts hf.mem
   obtain ⟨hlen,hl3⟩:=hf.len
   refine ⟨_,pss_cons (ps_set (i:=1) scLitsIn.nd rfl (Or.inl rfl) (pe_kget (pe_glob (v:=.ref aF) (by rfl) T.mgF rfl) (pe_ix ix_list (pv 0) pe_int (fun _ _=>rfl)) (fun _ _=>rfl)))
    (pss_one (ps_ret (pe_lc (N:=["part", "word"]) (js:=[none,none]) (g:=gTup K 2 (gCons (gName 0) (gCons (gName 1) gNil))) (by kernel_rfl) rfl
     (pi_zipM (by rfl) O.zip (pa_cons (pv 1) (pa_cons (pe_slice sl_list (pv 0) (po_some pe_int) po_none) pa_nil)))
     (fun _ _ _ _ _ _=>pg_tup rfl (pgs_cons (pg_name (i:=0) ndPW rfl (Or.inl rfl) (.inr rfl)) (pgs_cons (pg_name (i:=1) ndPW rfl (Or.inl rfl) (.inr rfl)) pgs_nil))) (fun _ _ _ _ _ _=>pifs_one (pt_cmpR op_eq (pv 0) pe_str (nomark _)))
     (fun _ _ _ _ _ _=>pv 1)))),?_⟩
   refine ⟨_,rfl,p,_,0,.str key,rfl,rfl,SqL.of hp,at0,aF,kvs,.inr key,.ref t,rfl,rfl,kd,hv,?_⟩
   refine ⟨_,rfl,_,rfl,_,rfl,p,_,rfl,SqL.of hp,fun q hq=>?_⟩
   rw [List.map_cons,cut1]
   have sq : Same H (upd H q (.lst (rest.map V.str))):=Same.upd_new hq
   refine ⟨t,q,rfl,⟨_,ht.sq _⟩,⟨_,SqL.of upd_same⟩,fun D hD=>?_⟩
   refine lc_by parts.length (fun i acc σ H2=>acc = ((((parts.zip rest).take i).filter fun r : Str × Str=>decide (r.1 = ("literal" : Str))).map (·.2)).map V.str ∧ (∃ u v,σ = [u,v]) ∧ Same (upd H q (.lst (rest.map V.str))) H2) ⟨rfl,⟨none,none,rfl⟩,Same.upd_new hD⟩ upd_same ?_ ?_
   · rintro acc σ H2 hDD ⟨rfl,_,s2⟩
     refine ⟨⟨_,ht.sq _,by rw [List.length_map]; exact Nat.le_refl _⟩,kk D H2 (sq.free hD) (sq.trans s2) ?_⟩
     rw [hDD,List.take_of_length_le (by rw [List.length_zip]; omega)]
     rfl
   · rintro i acc σ H2 hi hDD ⟨rfl,⟨u,v,rfl⟩,s2⟩
     have hir : i < rest.length:=by omega
     have hq2 : H2 q = some (.lst (rest.map V.str)):=s2 q _ upd_same
     have ep : (parts.map V.str)[i]? = some (.str parts[i]):=by rw [List.getElem?_map,List.getElem?_eq_getElem hi]; rfl
     have er : (rest.map V.str)[i]? = some (.str rest[i]):=by rw [List.getElem?_map,List.getElem?_eq_getElem hir]; rfl
     have ez : (parts.zip rest)[i]? = some (parts[i],rest[i]):=by rw [List.getElem?_eq_getElem (by rw [List.length_zip]; omega),List.getElem_zip]
     refine ⟨⟨_,_,_,_,ht.sq _,SqL.of hq2,ep,er⟩,?_⟩
     rintro x H' ⟨Tp,x1,x2,rfl,hTn,rfl,ha,hb⟩
     have e1:=ha _ (ht.sq _)
     rw [ep] at e1
     cases e1
     have e2:=hb _ (SqL.of hq2)
     rw [er] at e2
     cases e2
     have nDT : D ≠ Tp:=ne_of_none hDD hTn
     have s3 : Same (upd H q (.lst (rest.map V.str))) (upd H2 Tp (.tup [.str parts[i],.str rest[i]])):=s2.trans (Same.upd_new hTn)
     refine ⟨Tp,_,rfl,SqT.of upd_same,rfl,_,_,rfl,_,_,rfl,rfl,?_⟩
     refine ⟨_,rfl,rfl,_,rfl,ite2 (fun h=>?_) (fun h=>?_)⟩
     · have el : parts[i] = ("literal" : Str):=V.str.inj (of_decide_eq_true h)
       refine ⟨_,rfl,_,by rw [upd_ne nDT]; exact hDD,?_,lcW_next hi upd_same ⟨?_,⟨_,_,rfl⟩,?_⟩⟩
       · rw [List.length_map,List.length_map]
         refine Nat.lt_of_le_of_lt (List.length_filter_le _ _) ?_
         rw [List.length_take,List.length_zip]
         exact small (by omega)
       · rw [take_succ_filter _ _ _ _ ez,if_pos (decide_eq_true el),List.map_append,List.map_append]
         rfl
       · intro y o hy
         rw [upd_ne (ne_of_none hy hD)]
         exact s3 y o hy
     · have el : ¬ parts[i] = ("literal" : Str):=fun e=>h (decide_eq_true (by rw [e]))
       refine lcW_next hi (by rw [upd_ne nDT]; exact hDD) ⟨?_,⟨_,_,rfl⟩,s3⟩
       rw [take_succ_filter _ _ _ _ ez,if_neg (by simpa using el),List.append_nil]
end
def kvP (l : List (Str × V)) : List (Key × V):=l.map fun r=>((.inr r.1 : Key),r.2)
def kvS (l : List (Str × Str)) : List (Key × V):=l.map fun r=>((.inr r.1 : Key),V.str r.2)
structure RM (C : Addr) (H : Hp) (x dx g1 g2 g3 g4 g5 g6 : Addr) (ts : List Addr) (M : Mach) : Prop where
 hx : H x = some (.ins C dx (flds g1 g2 g3 g4 g5 g6))
 h1 : H g1 = some (.lst (M.switches.map V.str))
 h2 : H g2 = some (.dK (kvP M.keepers))
 h3 : H g3 = some (.lst (ts.map V.ref))
 hp : Paired (fun t r=>H t = some (.tup (rowG r))) ts M.gates
 h4 : H g4 = some (.dK (kvS M.nexts))
 h5 : H g5 = some (.dK (kvS M.nevers))
 h6 : H g6 = some (.dK (kvS M.somes))
 nd : [g1,g2,g3,g4,g5,g6].Nodup
theorem RM.same {C : Addr} {H H' : Hp} {x dx g1 g2 g3 g4 g5 g6 : Addr} {ts : List Addr} {M : Mach} (h : RM C H x dx g1 g2 g3 g4 g5 g6 ts M) (s : Same H H') : RM C H' x dx g1 g2 g3 g4 g5 g6 ts M :=
 ⟨s _ _ h.hx,s _ _ h.h1,s _ _ h.h2,s _ _ h.h3,Paired.mapP h.hp fun t r e=>s _ _ e,s _ _ h.h4,s _ _ h.h5,s _ _ h.h6,h.nd⟩
theorem RM.names {K : PySem.W.Frag} {mg : Str → Option Value} {C : Addr} {H : Hp} {x dx g1 g2 g3 g4 g5 g6 : Addr} {ts : List Addr} {M : Mach} (h : RM C H x dx g1 g2 g3 g4 g5 g6 ts M) (T : TxtM K mg C) : NamesAt K H x M.switches (kvP M.keepers) M.gates :=
 ⟨C,dx,g1,g2,g3,_,ts,h.hx,T.cl,T.n1,T.n2,T.n3,flds_1 ..,flds_2 ..,flds_3 ..,h.h1,h.h2,h.h3,h.hp⟩
def told (M : Mach) (z : Str) : Bool:=toldB M.switches (kvP M.keepers) M.gates z
def Known (M : Mach) (z : Str) : Prop:=z.length ≤ 9 ∧ (z = "0" ∨ z = "1" ∨ told M (bareS z) = true)
end Gen
namespace Gen
open PySem L2
abbrev sTwice : Stmt:=top 26
abbrev sLacks : Stmt:=top 28
abbrev sMany : Stmt:=top 31
theorem ndLM : (["literal", "machine"] : List Str).Nodup:=by decide +kernel
def spLacks (C : Addr) : Sp:=fun vs H Q _=>∃ (x dx g1 g2 g3 g4 g5 g6 p : Addr) (ts : List Addr) (M : Mach) (key name : Str) (parts rest : List Str),vs = [.ref x,.ref p] ∧ RM C H x dx g1 g2 g3 g4 g5 g6 ts M ∧ M.gates.length ≤ 60 ∧
 H p = some (.lst ((key :: name :: rest).map V.str)) ∧ FormOk key parts (name :: rest) ∧ (key = "next" → (valV (kvP M.keepers) (.inr name)).isSome = true) ∧ (∀ l ∈ litsOf parts (name :: rest),Known M l) ∧ ∀ H',Same H H' → Q (.bl false) H'
section
variable {P : Program} {w : World} {K : PySem.W.Frag} {mg : Str → Option Value} {base : Heap}
theorem scLacks : FnScope ["machine", "words"] ["machine", "words"] (defScope sLacks):=⟨rfl,rfl,rfl,by decide +kernel,rfl,by decide +kernel,by decide +kernel⟩
theorem any_false {α : Type} (l : List α) : (l.map fun _=>false).any _root_.id = false:=by
 induction l with
 | nil=>rfl
 | cons x r ih=>rw [List.map_cons,List.any_cons,ih]; rfl
theorem ok_lacks {f fL fK C : Addr} {fd dL dK : FuncData} (F : Fun K "lacks_name" "lacks_name" sLacks f fd) (T : TxtM K mg C) (hA : mg "any" = none)
 (GL : FnOk P w K mg base CX0 1 fL dL ["words"] spLitsIn) (mL : mg "literals_in" = some (.ref fL)) (kL : PySem.W.keepIn K (.ref fL) = true) (bL : Binds K dL ["words"] [])
 (GK : FnOk P w K mg base CX0 2 fK dK ["machine", "literal"] (spIsKnown K)) (mK : mg "is_known" = some (.ref fK)) (kK : PySem.W.keepIn K (.ref fK) = true) (bK : Binds K dK ["machine", "literal"] []) : FnOk P w K mg base CX0 3 f fd ["machine", "words"] (spLacks C):=by
 refine F.ok scLacks (fun vs H Q E h=>?_) (fun cdv A outer s H vs Q E hr h=>?_)
 · obtain ⟨x,dx,g1,g2,g3,g4,g5,g6,p,ts,M,key,name,parts,rest,rfl,_⟩:=h
   rfl
 · obtain ⟨x,dx,g1,g2,g3,g4,g5,g6,p,ts,M,key,name,parts,rest,rfl,hM,hgl,hp,hf,hnx,hkn,kk⟩:=h
   have hr1 : Room 1 _:=hr.mono (by decide)
   have hu:=hu_of hr
   have rest_ok : ∃ tR : TS,PSs (cxOf CX0 P w K mg base ["machine", "words"] "lacks_name" (defScope sLacks) f cdv A outer s H E).nox (List.drop 1 (defBody sLacks)) tR ∧ tR { nx:=fun _ H'=>Q .non H',rt:=Q } [some (.ref x),some (.ref p)] H:=by
    refine ⟨_,pss_one (ps_ret (pe_callB (call_any_bools rfl) (by rfl) hA PyProof.Rows.boot_any (pa_cons (pe_lc (N:=["literal", "machine"]) (js:=[none,some 0]) (by kernel_rfl) rfl (pi_list (pe_call GL hr1 rfl mL kL bL .nil pass0 (pa_cons (pv 1) pa_nil))) (fun _ _ _ _ _ _=>pg_name (i:=0) ndLM rfl (Or.inl rfl) (.inr rfl)) (fun _ _ _ _ _ _=>pifs_nil)
     (fun _ _ _ _ _ _=>pe_not (pe_call GK hr rfl mK kK bK .nil pass0 (pa_cons (pv 1) (pa_cons (pv 0) pa_nil))))) pa_nil))),?_⟩
    refine ⟨_,rfl,p,key,parts,name :: rest,rfl,hp,hf,fun q H1 hq s1 hq1=>?_⟩
    refine ⟨q,rfl,⟨_,SqL.of hq1⟩,fun D hD=>?_⟩
    refine lc_by (litsOf parts (name :: rest)).length (fun i acc σ H2=>acc = (((litsOf parts (name :: rest)).take i).map fun _=>false).map V.bl ∧ (∃ u,σ = [u,some (.ref x)]) ∧ Same H1 H2) ⟨rfl,⟨none,rfl⟩,Same.upd_new hD⟩ upd_same ?_ ?_
    · rintro acc σ H2 hDD ⟨rfl,_,s2⟩
      refine ⟨⟨_,SqL.of (s2 _ _ hq1),by rw [List.length_map]; exact Nat.le_refl _⟩,D,_,rfl,SqL.of hDD,?_⟩
      rw [any_false]
      exact kk H2 (s1.trans s2)
    · rintro i acc σ H2 hi hDD ⟨rfl,⟨u,rfl⟩,s2⟩
      have ei : ((litsOf parts (name :: rest)).map V.str)[i]? = some (.str (litsOf parts (name :: rest))[i]):=by rw [List.getElem?_map,List.getElem?_eq_getElem hi]; rfl
      refine ⟨⟨_,_,SqL.of (s2 _ _ hq1),ei⟩,?_⟩
      rintro x' H' ⟨rfl,hall⟩
      have ex:=hall _ (SqL.of (s2 _ _ hq1))
      rw [ei] at ex
      cases ex
      refine gName_yes ?_
      obtain ⟨l9,hk⟩:=hkn _ (List.getElem_mem hi)
      refine ⟨_,rfl,_,rfl,x,M.switches,kvP M.keepers,M.gates,_,rfl,((hM.same (s1.trans s2)).names T),by omega,by omega,hk,fun H3 s3=>?_⟩
      refine ⟨true,rfl,_,s3 _ _ hDD,?_,lcW_next hi upd_same ⟨?_,⟨_,rfl⟩,?_⟩⟩
      · rw [List.length_map,List.length_map,List.length_take]
        have h3 : (litsOf parts (name :: rest)).length ≤ 3:=by
         unfold litsOf
         rw [List.length_map]
         refine Nat.le_trans (List.length_filter_le _ _) ?_
         rw [List.length_zip]
         have:=hf.len
         omega
        exact small (by omega)
      · rw [take_next (fun _=>false) (List.getElem?_eq_getElem hi),List.map_append]
        rfl
      · intro y o hy
        rw [upd_ne (ne_of_none hy hD)]
        exact s3 y o (s2 y o hy)
   obtain ⟨tR,hR,rR⟩:=rest_ok
   refine ⟨_,pss_cons (ps_if (pw_and (pt_cmpR op_eq (pe_ix ix_list (pv 1) pe_int (fun _ _=>rfl)) pe_str (nomark _)) (pw_and1 (pt_cmp (pc_dnotin hu (pe_ix ix_list (pv 1) pe_int (fun _ _=>rfl)) (pe_fld (pv 0) rfl)) (by with_unfolding_all rfl)))).pt (pss_one (ps_ret pe_bl)) pss_nil) hR,?_⟩
   refine ⟨_,rfl,p,_,0,.str key,rfl,rfl,SqL.of hp,at0,rfl,_,rfl,?_⟩
   refine ite2 (fun hc=>?_) (fun hc=>?_)
   · have ek : key = "next":=V.str.inj (of_decide_eq_true hc)
     have hs:=hnx ek
     refine ⟨_,rfl,p,_,1,.str name,rfl,rfl,SqL.of hp,at1,_,rfl,x,C,dx,_,.ref g2,rfl,hM.hx,T.cl,T.n2,flds_2 ..,g2,_,rfl,DGet.k (k:=.inr name) hM.h2,_,rfl,?_⟩
     rw [hs]
     exact iteF rR
   · exact iteF rR
end
end Gen
namespace Gen
open PySem L2
def TwOk (form : Str) (M : Mach) (name : Str) : Prop :=
 (form = "next" ∧ valV (kvS M.nexts) (.inr name) = none) ∨ ((form = "never" ∨ form = "some") ∧ valV (kvS M.nevers) (.inr name) = none ∧ valV (kvS M.somes) (.inr name) = none) ∨ ((form = "switch" ∨ form = "keep" ∨ form = "gate") ∧ told M name = false)
def spTwice (C : Addr) : Sp:=fun vs H Q _=>∃ (x dx g1 g2 g3 g4 g5 g6 : Addr) (ts : List Addr) (M : Mach) (form name : Str),vs = [.ref x,.str form,.str name] ∧ RM C H x dx g1 g2 g3 g4 g5 g6 ts M ∧ M.gates.length ≤ 60 ∧ TwOk form M name ∧ ∀ H',Same H H' → Q (.bl false) H'
def TmOk (form : Str) (M : Mach) : Prop :=
 (form = "switch" ∧ M.switches.length < 12) ∨ (form = "keep" ∧ M.keepers.length < 16) ∨ (form = "gate" ∧ M.gates.length < 60) ∨ form = "next" ∨ ((form = "never" ∨ form = "some") ∧ M.nevers.length + M.somes.length < 8)
def spMany (C : Addr) : Sp:=fun vs H Q _=>∃ (x dx g1 g2 g3 g4 g5 g6 : Addr) (ts : List Addr) (M : Mach) (form : Str),vs = [.ref x,.str form] ∧ RM C H x dx g1 g2 g3 g4 g5 g6 ts M ∧ TmOk form M ∧ Q (.bl false) H
structure Most (mg : Str → Option Value) : Prop where
 sw : ∃ t,mg "MOST_SWITCHES" = some (.int 12 t)
 kp : ∃ t,mg "MOST_KEEPERS" = some (.int 16 t)
 gt : ∃ t,mg "MOST_GATES" = some (.int 60 t)
 ws : ∃ t,mg "MOST_WISHES" = some (.int 8 t)
section
variable {P : Program} {w : World} {K : PySem.W.Frag} {mg : Str → Option Value} {base : Heap}
theorem scTwice : FnScope ["machine", "form", "name"] ["machine", "form", "name"] (defScope sTwice):=⟨rfl,rfl,rfl,by decide +kernel,rfl,by decide +kernel,by decide +kernel⟩
theorem neS {a b : Str} {A B : Prop} (h : a ≠ b) (q : B) : if decide (V.str a = V.str b) = true then A else B:=by
 rw [decide_eq_false (fun e=>h (V.str.inj e))]
 exact iteF q
theorem eqS {a : Str} {A B : Prop} (q : A) : if decide (V.str a = V.str a) = true then A else B:=by
 rw [decide_eq_true rfl]
 exact iteT q
theorem ok_twice {f fT C : Addr} {fd dT : FuncData} (F : Fun K "is_twice" "is_twice" sTwice f fd) (T : TxtM K mg C)
 (GT : FnOk P w K mg base CX0 1 fT dT ["machine", "name"] (spIsTold K)) (mT : mg "is_told" = some (.ref fT)) (kT : PySem.W.keepIn K (.ref fT) = true) (bT : Binds K dT ["machine", "name"] []) : FnOk P w K mg base CX0 2 f fd ["machine", "form", "name"] (spTwice C):=by
 refine F.ok scTwice (fun vs H Q E h=>?_) (fun cdv A outer s H vs Q E hr h=>?_)
 · obtain ⟨x,dx,g1,g2,g3,g4,g5,g6,ts,M,form,name,rfl,_⟩:=h
   rfl
 · obtain ⟨x,dx,g1,g2,g3,g4,g5,g6,ts,M,form,name,rfl,hM,hgl,hw,kk⟩:=h
   have hu:=hu_of hr
   refine ⟨_,pss_cons (ps_if (pt_cmpR op_eq (pv 1) pe_str (nomark _)) (pss_one (ps_ret (pe_cmp (pc_din hu (pv 2) (pe_fld (pv 0) rfl)) (by with_unfolding_all rfl)))) pss_nil)
    (pss_cons (ps_if (pt_cmpR op_in_seq (pv 1) (pe_tup (pa_cons pe_str (pa_cons pe_str pa_nil))) (by with_unfolding_all rfl)) (pss_one (ps_ret (pe_or (pe_cmp (pc_din hu (pv 2) (pe_fld (pv 0) rfl)) (by with_unfolding_all rfl)) (pe_one (pe_cmp (pc_din hu (pv 2) (pe_fld (pv 0) rfl)) (by with_unfolding_all rfl)))))) pss_nil)
    (pss_one (ps_ret (pe_call GT hr rfl mT kT bT .nil pass0 (pa_cons (pv 0) (pa_cons (pv 2) pa_nil)))))),?_⟩
   have sr : Same H H:=fun _ _ h=>h
   rcases hw with ⟨rfl,hv⟩ | ⟨hf,hv1,hv2⟩ | ⟨hf,hv⟩
   · refine ⟨_,rfl,rfl,_,rfl,eqS ?_⟩
     refine ⟨_,rfl,_,rfl,x,C,dx,_,.ref g4,rfl,hM.hx,T.cl,T.n4,flds_4 ..,g4,_,rfl,DGet.k (k:=.inr name) hM.h4,?_⟩
     rw [hv]
     exact kk H sr
   · have nn : form ≠ "next":=by rcases hf with rfl | rfl <;> decide +kernel
     refine ⟨_,rfl,rfl,_,rfl,neS nn ?_⟩
     refine ⟨_,rfl,(by show 2 ≤ sizeLine; decide),fun t ht=>?_⟩
     have st : Same H (upd H t (.tup [.str "never",.str "some"])):=Same.upd_new ht
     have hM':=hM.same st
     refine ⟨t,_,rfl,.inr (SqT.of upd_same),rfl,rfl,_,rfl,?_⟩
     have hin : inV (.str form) [.str "never",.str "some"] = true:=by rcases hf with rfl | rfl <;> decide +kernel
     show if inV (.str form) [.str "never",.str "some"] = true then _ else _
     rw [hin]
     refine iteT ?_
     refine ⟨_,rfl,_,rfl,x,C,dx,_,.ref g5,rfl,hM'.hx,T.cl,T.n5,flds_5 ..,g5,_,rfl,DGet.k (k:=.inr name) hM'.h5,_,rfl,?_⟩
     rw [hv1]
     refine iteF ?_
     refine ⟨_,rfl,_,rfl,x,C,dx,_,.ref g6,rfl,hM'.hx,T.cl,T.n6,flds_6 ..,g6,_,rfl,DGet.k (k:=.inr name) hM'.h6,?_⟩
     rw [hv2]
     exact kk _ st
   · have nn : form ≠ "next":=by rcases hf with rfl | rfl | rfl <;> decide +kernel
     refine ⟨_,rfl,rfl,_,rfl,neS nn ?_⟩
     refine ⟨_,rfl,(by show 2 ≤ sizeLine; decide),fun t ht=>?_⟩
     have st : Same H (upd H t (.tup [.str "never",.str "some"])):=Same.upd_new ht
     have hM':=hM.same st
     refine ⟨t,_,rfl,.inr (SqT.of upd_same),rfl,rfl,_,rfl,?_⟩
     have hin : inV (.str form) [.str "never",.str "some"] = false:=by rcases hf with rfl | rfl | rfl <;> decide +kernel
     show if inV (.str form) [.str "never",.str "some"] = true then _ else _
     rw [hin]
     refine iteF ?_
     refine ⟨_,rfl,_,rfl,x,M.switches,kvP M.keepers,M.gates,name,rfl,hM'.names T,by omega,fun H' s'=>?_⟩
     have : toldB M.switches (kvP M.keepers) M.gates name = false:=hv
     rw [this]
     exact kk H' (st.trans s')
theorem scMany : FnScope ["machine", "form"] ["machine", "form"] (defScope sMany):=⟨rfl,rfl,rfl,by decide +kernel,rfl,by decide +kernel,by decide +kernel⟩
theorem ok_many {f C : Addr} {fd : FuncData} (F : Fun K "is_too_many" "is_too_many" sMany f fd) (T : TxtM K mg C) (O : Own2 mg) (W : Most mg) : FnOk P w K mg base CX0 1 f fd ["machine", "form"] (spMany C):=by
 obtain ⟨t1,m1⟩:=W.sw
 obtain ⟨t2,m2⟩:=W.kp
 obtain ⟨t3,m3⟩:=W.gt
 obtain ⟨t4,m4⟩:=W.ws
 refine F.ok scMany (fun vs H Q E h=>?_) (fun cdv A outer s H vs Q E hr h=>?_)
 · obtain ⟨x,dx,g1,g2,g3,g4,g5,g6,ts,M,form,rfl,_⟩:=h
   rfl
 · obtain ⟨x,dx,g1,g2,g3,g4,g5,g6,ts,M,form,rfl,hM,hw,kk⟩:=h
   refine ⟨_,pss_cons (ps_if (pt_cmpR op_eq (pv 1) pe_str (nomark _)) (pss_one (ps_ret (pe_cmpR op_ge (pe_callB call_len_seq (by rfl) O.len PySem.boot_len (pa_cons (pe_fld (pv 0) rfl) pa_nil)) (pe_glob (v:=.int 12) (by rfl) m1 ⟨_,rfl⟩) (nomark _)))) pss_nil)
    (pss_cons (ps_if (pt_cmpR op_eq (pv 1) pe_str (nomark _)) (pss_one (ps_ret (pe_cmpR op_ge (pe_callB call_lenD (by rfl) O.len PySem.boot_len (pa_cons (pe_fld (pv 0) rfl) pa_nil)) (pe_glob (v:=.int 16) (by rfl) m2 ⟨_,rfl⟩) (nomark _)))) pss_nil)
    (pss_cons (ps_if (pt_cmpR op_eq (pv 1) pe_str (nomark _)) (pss_one (ps_ret (pe_cmpR op_ge (pe_callB call_len_seq (by rfl) O.len PySem.boot_len (pa_cons (pe_fld (pv 0) rfl) pa_nil)) (pe_glob (v:=.int 60) (by rfl) m3 ⟨_,rfl⟩) (nomark _)))) pss_nil)
    (pss_cons (ps_if (pt_cmpR op_eq (pv 1) pe_str (nomark _)) (pss_one (ps_ret pe_bl)) pss_nil)
    (pss_one (ps_ret (pe_cmpR op_ge (pe_op op_add (pe_callB call_lenD (by rfl) O.len PySem.boot_len (pa_cons (pe_fld (pv 0) rfl) pa_nil)) (pe_callB call_lenD (by rfl) O.len PySem.boot_len (pa_cons (pe_fld (pv 0) rfl) pa_nil))) (pe_glob (v:=.int 8) (by rfl) m4 ⟨_,rfl⟩) (nomark _))))))),?_⟩
   have hts:=hM.hp.length
   have fin : ∀ (n k : Int),n < k → Q (.bl (decide (k ≤ n))) H:=fun n k h=>by
    rw [decide_eq_false (by omega)]
    exact kk
   rcases hw with ⟨rfl,hv⟩ | ⟨rfl,hv⟩ | ⟨rfl,hv⟩ | rfl | ⟨hf,hv⟩
   · refine ⟨_,rfl,rfl,_,rfl,eqS ?_⟩
     exact ⟨_,rfl,x,C,dx,_,.ref g1,rfl,hM.hx,T.cl,T.n1,flds_1 ..,g1,_,rfl,.inl (SqL.of hM.h1),_,_,rfl,rfl,fin _ _ (by rw [List.length_map]; omega)⟩
   · refine ⟨_,rfl,rfl,_,rfl,neS (by decide +kernel) ⟨_,rfl,rfl,_,rfl,eqS ?_⟩⟩
     exact ⟨_,rfl,x,C,dx,_,.ref g2,rfl,hM.hx,T.cl,T.n2,flds_2 ..,g2,_,rfl,hM.h2,_,_,rfl,rfl,fin _ _ (by unfold kvP; rw [List.length_map]; omega)⟩
   · refine ⟨_,rfl,rfl,_,rfl,neS (by decide +kernel) ⟨_,rfl,rfl,_,rfl,neS (by decide +kernel) ⟨_,rfl,rfl,_,rfl,eqS ?_⟩⟩⟩
     exact ⟨_,rfl,x,C,dx,_,.ref g3,rfl,hM.hx,T.cl,T.n3,flds_3 ..,g3,_,rfl,.inl (SqL.of hM.h3),_,_,rfl,rfl,fin _ _ (by rw [List.length_map]; omega)⟩
   · exact ⟨_,rfl,rfl,_,rfl,neS (by decide +kernel) ⟨_,rfl,rfl,_,rfl,neS (by decide +kernel) ⟨_,rfl,rfl,_,rfl,neS (by decide +kernel) ⟨_,rfl,rfl,_,rfl,eqS kk⟩⟩⟩⟩
   · have n1 : form ≠ "switch":=by rcases hf with rfl | rfl <;> decide +kernel
     have n2 : form ≠ "keep":=by rcases hf with rfl | rfl <;> decide +kernel
     have n3 : form ≠ "gate":=by rcases hf with rfl | rfl <;> decide +kernel
     have n4 : form ≠ "next":=by rcases hf with rfl | rfl <;> decide +kernel
     refine ⟨_,rfl,rfl,_,rfl,neS n1 ⟨_,rfl,rfl,_,rfl,neS n2 ⟨_,rfl,rfl,_,rfl,neS n3 ⟨_,rfl,rfl,_,rfl,neS n4 ?_⟩⟩⟩⟩
     exact ⟨_,rfl,x,C,dx,_,.ref g5,rfl,hM.hx,T.cl,T.n5,flds_5 ..,g5,_,rfl,hM.h5,_,rfl,x,C,dx,_,.ref g6,rfl,hM.hx,T.cl,T.n6,flds_6 ..,g6,_,rfl,hM.h6,_,_,rfl,rfl,_,_,rfl,rfl,fin _ _ (by unfold kvS; rw [List.length_map,List.length_map]; omega)⟩
end
end Gen
namespace Gen
open PySem L2
abbrev sFault : Stmt:=top 20
inductive RowTo (M : Mach) : List Str → Mach → Prop
 | sw {n : Str} : NameS n → told M n = false → M.switches.length < 12 → RowTo M ["switch",n] { M with switches:=M.switches ++ [n] }
 | kp {n f : Str} {v : V} : NameS n → ((f = "0" ∧ v = .int 0) ∨ (f = "1" ∧ v = .int 1) ∨ (f = "-" ∧ v = .non)) → told M n = false → M.keepers.length < 16 → RowTo M ["keep",n,f] { M with keepers:=M.keepers ++ [(n,v)] }
 | gt {n a b : Str} : NameS n → LitF a → LitF b → Known M a → Known M b → told M n = false → M.gates.length < 60 → RowTo M ["gate",n,a,b] { M with gates:=M.gates ++ [(n,a,b)] }
 | nx {n l : Str} : NameS n → LitF l → Known M l → (valV (kvP M.keepers) (.inr n)).isSome = true → valV (kvS M.nexts) (.inr n) = none → M.nexts.length < 100 → RowTo M ["next",n,l] { M with nexts:=M.nexts ++ [(n,l)] }
 | nv {n l : Str} : NameS n → LitF l → Known M l → valV (kvS M.nevers) (.inr n) = none → valV (kvS M.somes) (.inr n) = none → M.nevers.length + M.somes.length < 8 → RowTo M ["never",n,l] { M with nevers:=M.nevers ++ [(n,l)] }
 | sm {n l : Str} : NameS n → LitF l → Known M l → valV (kvS M.nevers) (.inr n) = none → valV (kvS M.somes) (.inr n) = none → M.nevers.length + M.somes.length < 8 → RowTo M ["some",n,l] { M with somes:=M.somes ++ [(n,l)] }
theorem nameL : ¬ decide (("name" : Str) = "literal") = true:=by decide +kernel
theorem firstL : ¬ decide (("first" : Str) = "literal") = true:=by decide +kernel
theorem RowTo.form {M M' : Mach} {ws : List Str} (h : RowTo M ws M') : ∃ (key name : Str) (rest parts : List Str),ws = key :: name :: rest ∧ FormOk key parts (name :: rest) ∧ TwOk key M name ∧ (key = "next" → (valV (kvP M.keepers) (.inr name)).isSome = true) ∧ (∀ l ∈ litsOf parts (name :: rest),Known M l) ∧ TmOk key M:=by
 have fN : ∀ {n : Str},NameS n → FitS "name" n:=fun h=>.inr (.inr ⟨rfl,h⟩)
 have fL : ∀ {n : Str},LitF n → FitS "literal" n:=fun h=>.inr (.inl ⟨rfl,h⟩)
 have l1 : ∀ {n l : Str},litsOf ["name", "literal"] [n,l] = [l]:=fun {n l}=>by
  unfold litsOf
  simp only [List.zip_cons_cons,List.zip_nil_right,List.filter_cons,List.filter_nil]
  rw [if_neg nameL]
  rfl
 cases h with
 | @sw n hn ht hl =>
  refine ⟨_,_,_,["name"],rfl,⟨by simp [formsS],.cons (fN hn) .nil⟩,.inr (.inr ⟨.inl rfl,ht⟩),fun e=>absurd e (by decide +kernel),fun l h=>?_,.inl ⟨rfl,hl⟩⟩
  have e : litsOf ["name"] [n] = []:=by
   unfold litsOf
   simp only [List.zip_cons_cons,List.zip_nil_right,List.filter_cons,List.filter_nil]
   rw [if_neg nameL]
   rfl
  rw [e] at h
  cases h
 | @kp n f v hn hf ht hl =>
  refine ⟨_,_,_,["name", "first"],rfl,⟨by simp [formsS],.cons (fN hn) (.cons (.inl ⟨rfl,?_⟩) .nil)⟩,.inr (.inr ⟨.inr (.inl rfl),ht⟩),fun e=>absurd e (by decide +kernel),fun l h=>?_,.inr (.inl ⟨rfl,hl⟩)⟩
  · rcases hf with ⟨h,_⟩ | ⟨h,_⟩ | ⟨h,_⟩
    · exact .inl h
    · exact .inr (.inl h)
    · exact .inr (.inr h)
  · have e : litsOf ["name", "first"] [n,f] = []:=by
     unfold litsOf
     simp only [List.zip_cons_cons,List.zip_nil_right,List.filter_cons,List.filter_nil]
     rw [if_neg nameL,if_neg firstL]
     rfl
    rw [e] at h
    cases h
 | @gt n a b hn ha hb ka kb ht hl =>
  refine ⟨_,_,_,["name", "literal", "literal"],rfl,⟨by simp [formsS],.cons (fN hn) (.cons (fL ha) (.cons (fL hb) .nil))⟩,.inr (.inr ⟨.inr (.inr rfl),ht⟩),fun e=>absurd e (by decide +kernel),fun l h=>?_,.inr (.inr (.inl ⟨rfl,hl⟩))⟩
  have e : litsOf ["name", "literal", "literal"] [n,a,b] = [a,b]:=by
   unfold litsOf
   simp only [List.zip_cons_cons,List.zip_nil_right,List.filter_cons,List.filter_nil]
   rw [if_neg nameL]
   rfl
  rw [e] at h
  rcases List.mem_cons.mp h with rfl | h
  · exact ka
  · rw [List.mem_singleton.mp h]; exact kb
 | @nx n l hn hl kl hk hv h100 =>
  refine ⟨_,_,_,["name", "literal"],rfl,⟨by simp [formsS],.cons (fN hn) (.cons (fL hl) .nil)⟩,.inl ⟨rfl,hv⟩,fun _=>hk,fun l' h=>?_,.inr (.inr (.inr (.inl rfl)))⟩
  rw [l1] at h
  rw [List.mem_singleton.mp h]; exact kl
 | @nv n l hn hl kl hv1 hv2 h8 =>
  refine ⟨_,_,_,["name", "literal"],rfl,⟨by simp [formsS],.cons (fN hn) (.cons (fL hl) .nil)⟩,.inr (.inl ⟨.inl rfl,hv1,hv2⟩),fun e=>absurd e (by decide +kernel),fun l' h=>?_,.inr (.inr (.inr (.inr ⟨.inl rfl,h8⟩)))⟩
  rw [l1] at h
  rw [List.mem_singleton.mp h]; exact kl
 | @sm n l hn hl kl hv1 hv2 h8 =>
  refine ⟨_,_,_,["name", "literal"],rfl,⟨by simp [formsS],.cons (fN hn) (.cons (fL hl) .nil)⟩,.inr (.inl ⟨.inr rfl,hv1,hv2⟩),fun e=>absurd e (by decide +kernel),fun l' h=>?_,.inr (.inr (.inr (.inr ⟨.inr rfl,h8⟩)))⟩
  rw [l1] at h
  rw [List.mem_singleton.mp h]; exact kl
def spFault (C : Addr) : Sp:=fun vs H Q _=>∃ (x dx g1 g2 g3 g4 g5 g6 p : Addr) (ts : List Addr) (M M' : Mach) (ws : List Str),vs = [.ref x,.ref p] ∧ RM C H x dx g1 g2 g3 g4 g5 g6 ts M ∧ M.gates.length ≤ 60 ∧ H p = some (.lst (ws.map V.str)) ∧ RowTo M ws M' ∧ ∀ H',Same H H' → Q .non H'
section
variable {P : Program} {w : World} {K : PySem.W.Frag} {mg : Str → Option Value} {base : Heap}
theorem scFault : FnScope ["machine", "words"] ["machine", "words"] (defScope sFault):=⟨rfl,rfl,rfl,by decide +kernel,rfl,by decide +kernel,by decide +kernel⟩
theorem ok_fault {f f1 f2 f3 f4 C : Addr} {fd d1 d2 d3 d4 : FuncData} (F : Fun K "fault_of" "fault_of" sFault f fd)
 (G1 : FnOk P w K mg base CX0 4 f1 d1 ["words"] spHasForm) (m1 : mg "has_form" = some (.ref f1)) (k1 : PySem.W.keepIn K (.ref f1) = true) (b1 : Binds K d1 ["words"] [])
 (G2 : FnOk P w K mg base CX0 2 f2 d2 ["machine", "form", "name"] (spTwice C)) (m2 : mg "is_twice" = some (.ref f2)) (k2 : PySem.W.keepIn K (.ref f2) = true) (b2 : Binds K d2 ["machine", "form", "name"] [])
 (G3 : FnOk P w K mg base CX0 3 f3 d3 ["machine", "words"] (spLacks C)) (m3 : mg "lacks_name" = some (.ref f3)) (k3 : PySem.W.keepIn K (.ref f3) = true) (b3 : Binds K d3 ["machine", "words"] [])
 (G4 : FnOk P w K mg base CX0 1 f4 d4 ["machine", "form"] (spMany C)) (m4 : mg "is_too_many" = some (.ref f4)) (k4 : PySem.W.keepIn K (.ref f4) = true) (b4 : Binds K d4 ["machine", "form"] []) : FnOk P w K mg base CX0 5 f fd ["machine", "words"] (spFault C):=by
 refine F.ok scFault (fun vs H Q E h=>?_) (fun cdv A outer s H vs Q E hr h=>?_)
 · obtain ⟨x,dx,g1,g2,g3,g4,g5,g6,p,ts,M,M',ws,rfl,_⟩:=h
   rfl
 · obtain ⟨x,dx,g1,g2,g3,g4,g5,g6,p,ts,M,M',ws,rfl,hM,hgl,hp,hw,kk⟩:=h
   obtain ⟨key,name,rest,parts,rfl,hf,htw,hnx,hkn,htm⟩:=hw.form
   have hr1 : Room 1 _:=hr.mono (by decide)
   have hr2 : Room 2 _:=hr.mono (by decide)
   have hr3 : Room 3 _:=hr.mono (by decide)
   refine ⟨_,pss_cons (ps_if (pt_not (pt_val (pe_call G1 hr rfl m1 k1 b1 .nil pass0 (pa_cons (pv 1) pa_nil)))) (pss_one (ps_ret pe_str)) pss_nil)
    (pss_cons (ps_if (pt_val (pe_call G2 hr2 rfl m2 k2 b2 .nil pass0 (pa_cons (pv 0) (pa_cons (pe_ix ix_list (pv 1) pe_int (fun _ _=>rfl)) (pa_cons (pe_ix ix_list (pv 1) pe_int (fun _ _=>rfl)) pa_nil))))) (pss_one (ps_ret pe_str)) pss_nil)
    (pss_cons (ps_if (pt_val (pe_call G3 hr3 rfl m3 k3 b3 .nil pass0 (pa_cons (pv 0) (pa_cons (pv 1) pa_nil)))) (pss_one (ps_ret pe_str)) pss_nil)
    (pss_cons (ps_if (pt_val (pe_call G4 hr1 rfl m4 k4 b4 .nil pass0 (pa_cons (pv 0) (pa_cons (pe_ix ix_list (pv 1) pe_int (fun _ _=>rfl)) pa_nil)))) (pss_one (ps_ret pe_str)) pss_nil)
    (pss_one (ps_ret pe_non))))),?_⟩
   refine ⟨_,rfl,p,key,parts,name :: rest,rfl,hp,hf,fun H1 s1=>⟨true,rfl,iteF ?_⟩⟩
   have hM1:=hM.same s1
   have hp1:=s1 _ _ hp
   refine ⟨_,rfl,_,rfl,p,_,0,.str key,rfl,rfl,SqL.of hp1,at0,_,rfl,p,_,1,.str name,rfl,rfl,SqL.of hp1,at1,x,dx,g1,g2,g3,g4,g5,g6,ts,M,key,name,rfl,hM1,hgl,htw,fun H2 s2=>⟨false,rfl,iteF ?_⟩⟩
   have hM2:=hM1.same s2
   have hp2:=s2 _ _ hp1
   refine ⟨_,rfl,_,rfl,x,dx,g1,g2,g3,g4,g5,g6,p,ts,M,key,name,parts,rest,rfl,hM2,hgl,hp2,hf,hnx,hkn,fun H3 s3=>⟨false,rfl,iteF ?_⟩⟩
   have hM3:=hM2.same s3
   have hp3:=s3 _ _ hp2
   exact ⟨_,rfl,_,rfl,p,_,0,.str key,rfl,rfl,SqL.of hp3,at0,x,dx,g1,g2,g3,g4,g5,g6,ts,M,key,rfl,hM3,htm,false,rfl,iteF (kk H3 ((s1.trans s2).trans s3))⟩
end
end Gen
namespace Gen
open PySem L2
abbrev sTake : Stmt:=top 32
def KeepG (H H' : Hp) (g1 g2 g3 g4 g5 g6 : Addr) : Prop:=∀ b o,H b = some o → b ∉ [g1,g2,g3,g4,g5,g6] → H' b = some o
theorem KeepG.upd {H : Hp} {g g1 g2 g3 g4 g5 g6 : Addr} {o : HO} (h : g ∈ [g1,g2,g3,g4,g5,g6]) : KeepG H (upd H g o) g1 g2 g3 g4 g5 g6:=fun b u hb hn=>by
 have ne : b ≠ g:=fun e=>hn (by rw [e]; exact h)
 rw [upd_ne ne]
 exact hb
section
variable {C : Addr} {H : Hp} {x dx g1 g2 g3 g4 g5 g6 : Addr} {ts : List Addr} {M : Mach}
structure Ds (g1 g2 g3 g4 g5 g6 : Addr) : Prop where
 a12 : g1 ≠ g2
 a13 : g1 ≠ g3
 a14 : g1 ≠ g4
 a15 : g1 ≠ g5
 a16 : g1 ≠ g6
 a23 : g2 ≠ g3
 a24 : g2 ≠ g4
 a25 : g2 ≠ g5
 a26 : g2 ≠ g6
 a34 : g3 ≠ g4
 a35 : g3 ≠ g5
 a36 : g3 ≠ g6
 a45 : g4 ≠ g5
 a46 : g4 ≠ g6
 a56 : g5 ≠ g6
theorem RM.ds (h : RM C H x dx g1 g2 g3 g4 g5 g6 ts M) : Ds g1 g2 g3 g4 g5 g6:=by
 have:=h.nd
 simp only [List.nodup_cons,List.mem_cons,List.not_mem_nil,or_false,not_or,List.nodup_nil,and_true,not_false_eq_true] at this
 obtain ⟨⟨a,b,c,d,e⟩,⟨f,g,i,j⟩,⟨k,l,m⟩,⟨n,o⟩,p⟩:=this
 exact ⟨a,b,c,d,e,f,g,i,j,k,l,m,n,o,p⟩
theorem RM.sw (h : RM C H x dx g1 g2 g3 g4 g5 g6 ts M) (n : Str) : RM C (upd H g1 (.lst (M.switches.map V.str ++ [.str n]))) x dx g1 g2 g3 g4 g5 g6 ts { M with switches:=M.switches ++ [n] }:=by
 have d:=h.ds
 refine ⟨?_,?_,?_,?_,Paired.mapP h.hp fun t r e=>?_,?_,?_,?_,h.nd⟩
 · rw [upd_ne (ne_of h.hx h.h1 (by intro z; cases z))]; exact h.hx
 · rw [upd_same,List.map_append]; rfl
 · rw [upd_ne d.a12.symm]; exact h.h2
 · rw [upd_ne d.a13.symm]; exact h.h3
 · rw [upd_ne (ne_of e h.h1 (by intro z; cases z))]; exact e
 · rw [upd_ne d.a14.symm]; exact h.h4
 · rw [upd_ne d.a15.symm]; exact h.h5
 · rw [upd_ne d.a16.symm]; exact h.h6
theorem RM.kp (h : RM C H x dx g1 g2 g3 g4 g5 g6 ts M) (n : Str) (v : V) : RM C (upd H g2 (.dK (kvP M.keepers ++ [(.inr n,v)]))) x dx g1 g2 g3 g4 g5 g6 ts { M with keepers:=M.keepers ++ [(n,v)] }:=by
 have d:=h.ds
 refine ⟨?_,?_,?_,?_,Paired.mapP h.hp fun t r e=>?_,?_,?_,?_,h.nd⟩
 · rw [upd_ne (ne_of h.hx h.h2 (by intro z; cases z))]; exact h.hx
 · rw [upd_ne d.a12]; exact h.h1
 · rw [upd_same]; unfold kvP; rw [List.map_append]; rfl
 · rw [upd_ne d.a23.symm]; exact h.h3
 · rw [upd_ne (ne_of e h.h2 (by intro z; cases z))]; exact e
 · rw [upd_ne d.a24.symm]; exact h.h4
 · rw [upd_ne d.a25.symm]; exact h.h5
 · rw [upd_ne d.a26.symm]; exact h.h6
theorem RM.gt (h : RM C H x dx g1 g2 g3 g4 g5 g6 ts M) (n a b : Str) {t : Addr} (ht : H t = none) :
 RM C (upd (upd H t (.tup [.str n,.str a,.str b])) g3 (.lst (ts.map V.ref ++ [.ref t]))) x dx g1 g2 g3 g4 g5 g6 (ts ++ [t]) { M with gates:=M.gates ++ [(n,a,b)] }:=by
 have d:=h.ds
 have h':=h.same (Same.upd_new (o:=.tup [.str n,.str a,.str b]) ht)
 have e3 : t ≠ g3:=(ne_of_none h.h3 ht).symm
 refine ⟨?_,?_,?_,?_,Paired.snoc (Paired.mapP h'.hp fun t r e=>?_) ?_,?_,?_,?_,h.nd⟩
 · rw [upd_ne (ne_of h'.hx h'.h3 (by intro z; cases z))]; exact h'.hx
 · rw [upd_ne d.a13]; exact h'.h1
 · rw [upd_ne d.a23]; exact h'.h2
 · rw [upd_same,List.map_append]; rfl
 · rw [upd_ne (ne_of e h'.h3 (by intro z; cases z))]; exact e
 · rw [upd_ne e3,upd_same]; rfl
 · rw [upd_ne d.a34.symm]; exact h'.h4
 · rw [upd_ne d.a35.symm]; exact h'.h5
 · rw [upd_ne d.a36.symm]; exact h'.h6
theorem RM.nx (h : RM C H x dx g1 g2 g3 g4 g5 g6 ts M) (n l : Str) : RM C (upd H g4 (.dK (kvS M.nexts ++ [(.inr n,.str l)]))) x dx g1 g2 g3 g4 g5 g6 ts { M with nexts:=M.nexts ++ [(n,l)] }:=by
 have d:=h.ds
 refine ⟨?_,?_,?_,?_,Paired.mapP h.hp fun t r e=>?_,?_,?_,?_,h.nd⟩
 · rw [upd_ne (ne_of h.hx h.h4 (by intro z; cases z))]; exact h.hx
 · rw [upd_ne d.a14]; exact h.h1
 · rw [upd_ne d.a24]; exact h.h2
 · rw [upd_ne d.a34]; exact h.h3
 · rw [upd_ne (ne_of e h.h4 (by intro z; cases z))]; exact e
 · rw [upd_same]; unfold kvS; rw [List.map_append]; rfl
 · rw [upd_ne d.a45.symm]; exact h.h5
 · rw [upd_ne d.a46.symm]; exact h.h6
theorem RM.nv (h : RM C H x dx g1 g2 g3 g4 g5 g6 ts M) (n l : Str) : RM C (upd H g5 (.dK (kvS M.nevers ++ [(.inr n,.str l)]))) x dx g1 g2 g3 g4 g5 g6 ts { M with nevers:=M.nevers ++ [(n,l)] }:=by
 have d:=h.ds
 refine ⟨?_,?_,?_,?_,Paired.mapP h.hp fun t r e=>?_,?_,?_,?_,h.nd⟩
 · rw [upd_ne (ne_of h.hx h.h5 (by intro z; cases z))]; exact h.hx
 · rw [upd_ne d.a15]; exact h.h1
 · rw [upd_ne d.a25]; exact h.h2
 · rw [upd_ne d.a35]; exact h.h3
 · rw [upd_ne (ne_of e h.h5 (by intro z; cases z))]; exact e
 · rw [upd_ne d.a45]; exact h.h4
 · rw [upd_same]; unfold kvS; rw [List.map_append]; rfl
 · rw [upd_ne d.a56.symm]; exact h.h6
theorem RM.sm (h : RM C H x dx g1 g2 g3 g4 g5 g6 ts M) (n l : Str) : RM C (upd H g6 (.dK (kvS M.somes ++ [(.inr n,.str l)]))) x dx g1 g2 g3 g4 g5 g6 ts { M with somes:=M.somes ++ [(n,l)] }:=by
 have d:=h.ds
 refine ⟨?_,?_,?_,?_,Paired.mapP h.hp fun t r e=>?_,?_,?_,?_,h.nd⟩
 · rw [upd_ne (ne_of h.hx h.h6 (by intro z; cases z))]; exact h.hx
 · rw [upd_ne d.a16]; exact h.h1
 · rw [upd_ne d.a26]; exact h.h2
 · rw [upd_ne d.a36]; exact h.h3
 · rw [upd_ne (ne_of e h.h6 (by intro z; cases z))]; exact e
 · rw [upd_ne d.a46]; exact h.h4
 · rw [upd_ne d.a56]; exact h.h5
 · rw [upd_same]; unfold kvS; rw [List.map_append]; rfl
end
theorem told_kp {M : Mach} {n : Str} (h : told M n = false) : valV (kvP M.keepers) (.inr n) = none:=by
 unfold told toldB at h
 simp only [Bool.or_eq_false_iff] at h
 cases e : valV (kvP M.keepers) (.inr n) with
 | none=>rfl
 | some v=>rw [e] at h; exact absurd h.1.2 (by simp)
def spTake (C : Addr) : Sp:=fun vs H Q _=>∃ (x dx g1 g2 g3 g4 g5 g6 p : Addr) (ts : List Addr) (M M' : Mach) (ws : List Str),vs = [.ref x,.ref p] ∧ RM C H x dx g1 g2 g3 g4 g5 g6 ts M ∧ H p = some (.lst (ws.map V.str)) ∧ RowTo M ws M' ∧
 ∀ ts' H',RM C H' x dx g1 g2 g3 g4 g5 g6 ts' M' → KeepG H H' g1 g2 g3 g4 g5 g6 → Q .non H'
abbrev nTake : List Str:=["machine", "words", "name"]
section
variable {P : Program} {w : World} {K : PySem.W.Frag} {mg : Str → Option Value} {base : Heap}
theorem scTake : FnScope nTake ["machine", "words"] (defScope sTake):=⟨rfl,rfl,rfl,by decide +kernel,rfl,by decide +kernel,by decide +kernel⟩
theorem ok_take {f aF C : Addr} {fd : FuncData} (F : Fun K "take_row" "take_row" sTake f fd) (T : TxtM K mg C) (hF : mg "FIRSTS" = some (.ref aF)) (kF : KD P w K aF firstsKvs) : FnOk P w K mg base CX0 1 f fd ["machine", "words"] (spTake C):=by
 refine F.ok scTake (fun vs H Q E h=>?_) (fun cdv A outer s H vs Q E hr h=>?_)
 · obtain ⟨x,dx,g1,g2,g3,g4,g5,g6,p,ts,M,M',ws,rfl,_⟩:=h
   rfl
 · obtain ⟨x,dx,g1,g2,g3,g4,g5,g6,p,ts,M,M',ws,rfl,hM,hp,hw,kk⟩:=h
   have hu:=hu_of hr
   refine ⟨_,pss_cons (ps_set (i:=2) scTake.nd rfl (Or.inl rfl) (pe_ix ix_list (pv 1) pe_int (fun _ _=>rfl)))
    (pss_one (ps_if (pt_cmpR op_eq (pe_ix ix_list (pv 1) pe_int (fun _ _=>rfl)) pe_str (nomark _))
     (pss_one (ps_expr (pe_bm PySem.F.plainAttrs_list PySem.F.slot_list_append PySem.F.type_list_append mt_append (pe_fld (pv 0) rfl) (pa_cons (pv 2) pa_nil))))
    (pss_one (ps_if (pt_cmpR op_eq (pe_ix ix_list (pv 1) pe_int (fun _ _=>rfl)) pe_str (nomark _))
     (pss_one (ps_dput hu (pe_fld (pv 0) rfl) (pv 2) (pe_kget (pe_glob (v:=.ref aF) (by rfl) hF rfl) (pe_ix ix_list (pv 1) pe_int (fun _ _=>rfl)) (fun _ _=>rfl)) rfl))
    (pss_one (ps_if (pt_cmpR op_eq (pe_ix ix_list (pv 1) pe_int (fun _ _=>rfl)) pe_str (nomark _))
     (pss_one (ps_expr (pe_bm PySem.F.plainAttrs_list PySem.F.slot_list_append PySem.F.type_list_append mt_append (pe_fld (pv 0) rfl) (pa_cons (pe_tup (pa_cons (pv 2) (pa_cons (pe_ix ix_list (pv 1) pe_int (fun _ _=>rfl)) (pa_cons (pe_ix ix_list (pv 1) pe_int (fun _ _=>rfl)) pa_nil)))) pa_nil))))
    (pss_one (ps_if (pt_cmpR op_eq (pe_ix ix_list (pv 1) pe_int (fun _ _=>rfl)) pe_str (nomark _))
     (pss_one (ps_dput hu (pe_fld (pv 0) rfl) (pv 2) (pe_ix ix_list (pv 1) pe_int (fun _ _=>rfl)) rfl))
    (pss_one (ps_if (pt_cmpR op_eq (pe_ix ix_list (pv 1) pe_int (fun _ _=>rfl)) pe_str (nomark _))
     (pss_one (ps_dput hu (pe_fld (pv 0) rfl) (pv 2) (pe_ix ix_list (pv 1) pe_int (fun _ _=>rfl)) rfl))
     (pss_one (ps_dput hu (pe_fld (pv 0) rfl) (pv 2) (pe_ix ix_list (pv 1) pe_int (fun _ _=>rfl)) rfl)))))))))))),?_⟩
   have name_at : ∀ {k n : Str} {r : List Str},ws = k :: n :: r → atI (ws.map V.str) 1 = some (.str n):=fun e=>by rw [e]; exact at1
   cases hw with
   | @sw n hn ht hl =>
    refine ⟨_,rfl,p,_,1,.str n,rfl,rfl,SqL.of hp,at1,?_⟩
    refine ⟨_,rfl,p,_,0,.str "switch",rfl,rfl,SqL.of hp,at0,rfl,_,rfl,eqS ?_⟩
    refine ⟨_,rfl,x,C,dx,_,.ref g1,rfl,hM.hx,T.cl,T.n1,flds_1 ..,.inl ⟨rfl,_,SqL.of hM.h1⟩,_,rfl,g1,_,_,rfl,rfl,hM.h1,(by rw [List.length_map]; exact small (by omega)),?_⟩
    exact kk ts _ (hM.sw n) (KeepG.upd (by simp))
   | @kp n f v hn hf ht hl =>
    have hfv : valV firstsKvs (.inr f) = some v:=by
     rcases hf with ⟨rfl,rfl⟩ | ⟨rfl,rfl⟩ | ⟨rfl,rfl⟩ <;> rfl
    refine ⟨_,rfl,p,_,1,.str n,rfl,rfl,SqL.of hp,at1,?_⟩
    refine ⟨_,rfl,p,_,0,.str "keep",rfl,rfl,SqL.of hp,at0,rfl,_,rfl,neS (by decide +kernel) ?_⟩
    refine ⟨_,rfl,p,_,0,.str "keep",rfl,rfl,SqL.of hp,at0,rfl,_,rfl,eqS ?_⟩
    refine ⟨_,rfl,p,_,2,.str f,rfl,rfl,SqL.of hp,at2,aF,firstsKvs,.inr f,v,rfl,rfl,kF,hfv,?_⟩
    refine ⟨_,rfl,x,C,dx,_,.ref g2,rfl,hM.hx,T.cl,T.n2,flds_2 ..,_,rfl,g2,_,rfl,DPut.k (k:=.inr n) hM.h2 (by unfold kvP; rw [List.length_map]; exact small (by omega)),?_⟩
    rw [putK_new v (told_kp ht)]
    exact kk ts _ (hM.kp n v) (KeepG.upd (by simp))
   | @gt n a b hn ha hb ka kb ht hl =>
    have hts:=hM.hp.length
    refine ⟨_,rfl,p,_,1,.str n,rfl,rfl,SqL.of hp,at1,?_⟩
    refine ⟨_,rfl,p,_,0,.str "gate",rfl,rfl,SqL.of hp,at0,rfl,_,rfl,neS (by decide +kernel) ?_⟩
    refine ⟨_,rfl,p,_,0,.str "gate",rfl,rfl,SqL.of hp,at0,rfl,_,rfl,neS (by decide +kernel) ?_⟩
    refine ⟨_,rfl,p,_,0,.str "gate",rfl,rfl,SqL.of hp,at0,rfl,_,rfl,eqS ?_⟩
    refine ⟨_,rfl,x,C,dx,_,.ref g3,rfl,hM.hx,T.cl,T.n3,flds_3 ..,.inl ⟨rfl,_,SqL.of hM.h3⟩,_,rfl,_,rfl,p,_,2,.str a,rfl,rfl,SqL.of hp,at2,_,rfl,p,_,3,.str b,rfl,rfl,SqL.of hp,at3,(by show 3 ≤ sizeLine; decide),fun t htn=>?_⟩
    have n3 : g3 ≠ t:=ne_of_none hM.h3 htn
    refine ⟨g3,_,_,rfl,rfl,(by rw [upd_ne n3]; exact hM.h3),(by rw [List.length_map]; exact small (by omega)),?_⟩
    refine kk (ts ++ [t]) _ (hM.gt n a b htn) fun c o hc hn'=>?_
    rw [upd_ne (fun e=>hn' (by rw [e]; simp)),upd_ne (ne_of_none hc htn)]
    exact hc
   | @nx n l hn hl kl hk hv h100 =>
    refine ⟨_,rfl,p,_,1,.str n,rfl,rfl,SqL.of hp,at1,?_⟩
    refine ⟨_,rfl,p,_,0,.str "next",rfl,rfl,SqL.of hp,at0,rfl,_,rfl,neS (by decide +kernel) ?_⟩
    refine ⟨_,rfl,p,_,0,.str "next",rfl,rfl,SqL.of hp,at0,rfl,_,rfl,neS (by decide +kernel) ?_⟩
    refine ⟨_,rfl,p,_,0,.str "next",rfl,rfl,SqL.of hp,at0,rfl,_,rfl,neS (by decide +kernel) ?_⟩
    refine ⟨_,rfl,p,_,0,.str "next",rfl,rfl,SqL.of hp,at0,rfl,_,rfl,eqS ?_⟩
    refine ⟨_,rfl,p,_,2,.str l,rfl,rfl,SqL.of hp,at2,?_⟩
    refine ⟨_,rfl,x,C,dx,_,.ref g4,rfl,hM.hx,T.cl,T.n4,flds_4 ..,_,rfl,g4,_,rfl,DPut.k (k:=.inr n) hM.h4 (by unfold kvS; rw [List.length_map]; exact small (by omega)),?_⟩
    rw [putK_new _ hv]
    exact kk ts _ (hM.nx n l) (KeepG.upd (by simp))
   | @nv n l hn hl kl hv1 hv2 h8 =>
    refine ⟨_,rfl,p,_,1,.str n,rfl,rfl,SqL.of hp,at1,?_⟩
    refine ⟨_,rfl,p,_,0,.str "never",rfl,rfl,SqL.of hp,at0,rfl,_,rfl,neS (by decide +kernel) ?_⟩
    refine ⟨_,rfl,p,_,0,.str "never",rfl,rfl,SqL.of hp,at0,rfl,_,rfl,neS (by decide +kernel) ?_⟩
    refine ⟨_,rfl,p,_,0,.str "never",rfl,rfl,SqL.of hp,at0,rfl,_,rfl,neS (by decide +kernel) ?_⟩
    refine ⟨_,rfl,p,_,0,.str "never",rfl,rfl,SqL.of hp,at0,rfl,_,rfl,neS (by decide +kernel) ?_⟩
    refine ⟨_,rfl,p,_,0,.str "never",rfl,rfl,SqL.of hp,at0,rfl,_,rfl,eqS ?_⟩
    refine ⟨_,rfl,p,_,2,.str l,rfl,rfl,SqL.of hp,at2,?_⟩
    refine ⟨_,rfl,x,C,dx,_,.ref g5,rfl,hM.hx,T.cl,T.n5,flds_5 ..,_,rfl,g5,_,rfl,DPut.k (k:=.inr n) hM.h5 (by unfold kvS; rw [List.length_map]; exact small (by omega)),?_⟩
    rw [putK_new _ hv1]
    exact kk ts _ (hM.nv n l) (KeepG.upd (by simp))
   | @sm n l hn hl kl hv1 hv2 h8 =>
    refine ⟨_,rfl,p,_,1,.str n,rfl,rfl,SqL.of hp,at1,?_⟩
    refine ⟨_,rfl,p,_,0,.str "some",rfl,rfl,SqL.of hp,at0,rfl,_,rfl,neS (by decide +kernel) ?_⟩
    refine ⟨_,rfl,p,_,0,.str "some",rfl,rfl,SqL.of hp,at0,rfl,_,rfl,neS (by decide +kernel) ?_⟩
    refine ⟨_,rfl,p,_,0,.str "some",rfl,rfl,SqL.of hp,at0,rfl,_,rfl,neS (by decide +kernel) ?_⟩
    refine ⟨_,rfl,p,_,0,.str "some",rfl,rfl,SqL.of hp,at0,rfl,_,rfl,neS (by decide +kernel) ?_⟩
    refine ⟨_,rfl,p,_,0,.str "some",rfl,rfl,SqL.of hp,at0,rfl,_,rfl,neS (by decide +kernel) ?_⟩
    refine ⟨_,rfl,p,_,2,.str l,rfl,rfl,SqL.of hp,at2,?_⟩
    refine ⟨_,rfl,x,C,dx,_,.ref g6,rfl,hM.hx,T.cl,T.n6,flds_6 ..,_,rfl,g6,_,rfl,DPut.k (k:=.inr n) hM.h6 (by unfold kvS; rw [List.length_map]; exact small (by omega)),?_⟩
    rw [putK_new _ hv2]
    exact kk ts _ (hM.sm n l) (KeepG.upd (by simp))
end
end Gen
namespace L2
open PySem PySem.Spec PyProof.Rows
theorem for_enum {K : PySem.W.Frag} {a : Addr} {xs : List V} {g : TG} {tb : TS} {D : Ends} {σ : St} {H : Hp} (Pv : Nat → St → Hp → Prop) (h0 : Pv 0 σ H) (hl : ∀ i σ H,i ≤ xs.length → Pv i σ H → SqL K H a xs)
 (hs : ∀ i x T σ H,xs[i]? = some x → H T = none → Pv i σ H → g (.ref T) σ (upd H T (.tup [.int (i : Int),x])) fun σ2 H2=>tb { D with nx:=Pv (i + 1),ct:=Pv (i + 1),bk:=D.nx } σ2 H2) (hd : ∀ σ H,Pv xs.length σ H → D.nx σ H) :
 ∃ W : Nat → Nat → St → Hp → Prop,(∃ m,W 0 m σ H) ∧ ∀ i m σ H,W i m σ H →
  ((Ite K a).stop i H ∧ D.nx σ H) ∨ ((Ite K a).go i H ∧ ∃ N : St → Hp → Prop,(∀ σ' H',N σ' H' → ∃ m',m' < m ∧ W (i + 1) m' σ' H') ∧ ∀ x H',(Ite K a).yld i H x H' → g x σ H' fun σ2 H2=>tb { D with nx:=N,ct:=N,bk:=D.nx } σ2 H2):=by
 refine ⟨fun i m σ H=>m = xs.length - i ∧ i ≤ xs.length ∧ Pv i σ H,⟨xs.length,by simp,Nat.zero_le _,h0⟩,?_⟩
 rintro i m σ H ⟨rfl,hi,p⟩
 have q:=hl i σ H hi p
 by_cases hlt : i < xs.length
 · refine .inr ⟨⟨xs,xs[i],q,by simp [hlt]⟩,Pv (i + 1),fun σ' H' p'=>⟨xs.length - (i + 1),by omega,rfl,hlt,p'⟩,fun x H' y=>?_⟩
   obtain ⟨T,v,rfl,hT,rfl,hv⟩:=y
   exact hs i v T σ H (hv xs q) hT p
 · refine .inl ⟨⟨xs,q,by omega⟩,?_⟩
   obtain rfl : i = xs.length:=by omega
   exact hd σ H p
end L2
namespace PySem
open Builtin Builtin.Str
theorem parts_len (z : Str) (c : Nat) : (partsBetween z (occurrences z ⟨#[c]⟩ 0 z.length (z.length + 1)) (⟨#[c]⟩ : Str).length).length ≤ z.length + 1:=by
 show (partsBetween z (occurrences z ⟨#[c]⟩ 0 z.length (z.length + 1)) 1).length ≤ z.length + 1
 rw [occ_is,parts_cut,List.length_map]
 unfold cutAt
 rw [List.length_map,List.length_zip,List.length_cons,List.length_map,List.length_append,List.length_singleton]
 have : (spots c z.cps.toList 0 z.length).length ≤ z.length:=by
  unfold spots
  refine Nat.le_trans (List.length_filter_le _ _) ?_
  rw [List.length_range']
  exact Nat.le_refl _
 omega
theorem chop_len (c : Nat) : ∀ l : List Nat,(chop c l).length ≤ l.length + 1
 | []=>by simp [chop]
 | x :: r=>by
  have ih:=chop_len c r
  obtain ⟨h,t,e⟩:=chop_ne c r
  rw [e] at ih
  unfold chop
  rw [e]
  split
  · rw [List.length_cons,List.length_cons,List.length_cons] at *
    omega
  · rw [List.length_cons,List.length_cons] at *
    omega
end PySem
namespace Gen
open PySem L2
abbrev sRead : Stmt:=top 18
abbrev sRowsOf : Stmt:=top 19
def wordsOf (r : Str) : List Str:=(Txt.split r " ").filter fun y : Str=>!decide (y = ("" : Str))
inductive Reads : Mach → List (List Str) → Mach → Prop
 | nil {M : Mach} : Reads M [] M
 | blank {M M' : Mach} {rs : List (List Str)} : Reads M rs M' → Reads M ([] :: rs) M'
 | row {M M1 M' : Mach} {ws : List Str} {rs : List (List Str)} : RowTo M ws M1 → Reads M1 rs M' → Reads M (ws :: rs) M'
theorem RowTo.gates {M M' : Mach} {ws : List Str} (h : RowTo M ws M') (hl : M.gates.length ≤ 60) : M'.gates.length ≤ 60:=by
 cases h with
 | gt _ _ _ _ _ _ hl=>rw [List.length_append,List.length_singleton]; omega
 | _=>exact hl
theorem RowTo.ne {M M' : Mach} {ws : List Str} (h : RowTo M ws M') : 0 < ws.length:=by cases h <;> exact Nat.succ_pos _
abbrev mach0 : Mach:=⟨[],[],[],[],[],[]⟩
def spRead (C : Addr) : Sp:=fun vs H Q _=>∃ (z : Str) (M : Mach),vs = [.str z] ∧ z.length ≤ 1000000 ∧ (∀ r ∈ Txt.split z "\n",r.length ≤ 1000) ∧ Reads mach0 ((Txt.split z "\n").map wordsOf) M ∧
 ∀ (x dx g1 g2 g3 g4 g5 g6 : Addr) (ts : List Addr) (H' : Hp),(∀ b ∈ [x,g1,g2,g3,g4,g5,g6],H b = none) → RM C H' x dx g1 g2 g3 g4 g5 g6 ts M → Same H H' → Q (.ref x) H'
abbrev nRead : List Str:=["text", "machine", "place", "words", "fault"]
abbrev nRowsOf : List Str:=["text", "rows", "place", "row", "words"]
theorem ndW : (["word"] : List Str).Nodup:=by decide +kernel
theorem nl_str : ("\n" : Str) = ⟨#[10]⟩:=by decide +kernel
theorem sp_str : (" " : Str) = ⟨#[32]⟩:=by decide +kernel
def rowsAt : Nat → List Str → List (Int × List Str)
 | _,[]=>[]
 | i,r :: rs=>(if 0 < (wordsOf r).length then [((i : Int),wordsOf r)] else []) ++ rowsAt (i + 1) rs
theorem rowsAt_append (a b : List Str) : ∀ i,rowsAt i (a ++ b) = rowsAt i a ++ rowsAt (i + a.length) b:=by
 induction a with
 | nil=>intro i; rfl
 | cons r a ih =>
  intro i
  rw [List.cons_append,rowsAt,rowsAt,ih,List.append_assoc,List.length_cons,Nat.add_assoc,Nat.add_comm 1]
theorem rowsAt_snoc {rows : List Str} {i : Nat} (h : i < rows.length) : rowsAt 0 (rows.take (i + 1)) = rowsAt 0 (rows.take i) ++ (if 0 < (wordsOf rows[i]).length then [((i : Int),wordsOf rows[i])] else []):=by
 have e : rows.take (i + 1) = rows.take i ++ [rows[i]]:=by rw [List.take_succ,List.getElem?_eq_getElem h]; rfl
 have l : (rows.take i).length = i:=by rw [List.length_take]; omega
 rw [e,rowsAt_append,l,Nat.zero_add,rowsAt,rowsAt,List.append_nil]
theorem rowsAt_words (rows : List Str) : ∀ i,(rowsAt i rows).map (·.2) = (rows.map wordsOf).filter fun ws=>decide (0 < ws.length):=by
 induction rows with
 | nil=>intro i; rfl
 | cons r rs ih =>
  intro i
  rw [rowsAt,List.map_append,ih,List.map_cons,List.filter_cons]
  by_cases h : 0 < (wordsOf r).length
  · rw [if_pos h,if_pos (decide_eq_true h)]; rfl
  · rw [if_neg h,if_neg (by simpa using h)]; rfl
theorem rowsAt_len (rows : List Str) : ∀ i,(rowsAt i rows).length ≤ rows.length:=by
 induction rows with
 | nil=>intro i; exact Nat.le_refl _
 | cons r rs ih =>
  intro i
  have:=ih (i + 1)
  rw [rowsAt,List.length_append,List.length_cons]
  split
  · rw [List.length_singleton]; omega
  · rw [List.length_nil]; omega
theorem Reads.filter {M M' : Mach} {rs : List (List Str)} (h : Reads M rs M') : Reads M (rs.filter fun ws=>decide (0 < ws.length)) M':=by
 induction h with
 | nil=>exact .nil
 | blank _ ih=>exact ih
 | row r _ ih=>rw [List.filter_cons,if_pos (decide_eq_true r.ne)]; exact .row r ih
def RowAt (H H' : Hp) (t : Addr) (r : Int × List Str) : Prop:=∃ d,H t = none ∧ H d = none ∧ H' t = some (.tup [.int r.1,.ref d]) ∧ H' d = some (.lst (r.2.map V.str))
def spRowsOf : Sp:=fun vs H Q _=>∃ z : Str,vs = [.str z] ∧ z.length ≤ 1000000 ∧ (∀ r ∈ Txt.split z "\n",r.length ≤ 1000) ∧
 ∀ (p : Addr) (ts : List Addr) (H' : Hp),H p = none → H' p = some (.lst (ts.map V.ref)) → Paired (RowAt H H') ts (rowsAt 0 (Txt.split z "\n")) → Same H H' → Q (.ref p) H'
section
variable {P : Program} {w : World} {K : PySem.W.Frag} {mg : Str → Option Value} {base : Heap}
theorem scRead : FnScope nRead ["text"] (defScope sRead):=⟨rfl,rfl,rfl,by decide +kernel,rfl,by decide +kernel,by decide +kernel⟩
theorem scRowsOf : FnScope nRowsOf ["text"] (defScope sRowsOf):=⟨rfl,rfl,rfl,by decide +kernel,rfl,by decide +kernel,by decide +kernel⟩
theorem ok_rowsof {f : Addr} {fd : FuncData} (F : Fun K "rows_of" "rows_of" sRowsOf f fd) (O : Own2 mg) (hE : mg "enumerate" = none) : FnOk P w K mg base CX0 1 f fd ["text"] spRowsOf:=by
 refine F.ok scRowsOf (fun vs H Q E h=>?_) (fun cdv A outer s H vs Q E hr h=>?_)
 · obtain ⟨z,rfl,_⟩:=h
   rfl
 · obtain ⟨z,rfl,hz,hrl,kk⟩:=h
   refine ⟨_,pss_cons (ps_set (i:=1) scRowsOf.nd rfl (Or.inl rfl) (pe_lst pa_nil))
    (pss_cons (ps_for PassesOwn.never rfl (pi_enum (by rfl) hE (pa_cons (pe_bm PySem.F.plainAttrs_str PySem.F.slot_str_split PySem.F.type_str_split mt_split (pv 0) (pa_cons pe_str pa_nil)) pa_nil))
     (pg_tup rfl (pgs_cons (pg_name (i:=2) scRowsOf.nd rfl (Or.inl rfl)) (pgs_cons (pg_name (i:=3) scRowsOf.nd rfl (Or.inl rfl)) pgs_nil)))
     (pss_cons (ps_lc (i:=4) (N:=["word"]) (js:=[none]) scRowsOf.nd rfl rfl (by kernel_rfl) rfl (pi_list (pe_bm PySem.F.plainAttrs_str PySem.F.slot_str_split PySem.F.type_str_split mt_split (pv 3) (pa_cons pe_str pa_nil))) (fun _ _ _ _ _ _=>pg_name (i:=0) ndW rfl (Or.inl rfl) (.inr rfl))
      (fun _ _ _ _ _ _=>pifs_one (pt_cmpR op_ne (pv 0) pe_str (nomark _))) (fun _ _ _ _ _ _=>pv 0))
     (pss_one (ps_if (pt_cmpR op_gt (pe_callB call_len_seq (by rfl) O.len PySem.boot_len (pa_cons (pv 4) pa_nil)) pe_int (nomark _))
      (pss_one (ps_expr (pe_bm PySem.F.plainAttrs_list PySem.F.slot_list_append PySem.F.type_list_append mt_append (pv 1) (pa_cons (pe_tup (pa_cons (pv 2) (pa_cons (pv 4) pa_nil))) pa_nil)))) pss_nil))))
    (pss_one (ps_ret (pv 1)))),?_⟩
   refine ⟨(by show 0 ≤ sizeLine; decide),fun p hpn=>?_⟩
   have tp : Same H (upd H p (.lst [])):=Same.upd_new hpn
   have hp1 : (upd H p (.lst [])) p = some (.lst []):=upd_same
   generalize upd H p (.lst []) = H1 at tp hp1 ⊢
   have hz' : z.length ≤ sizeLine:=Nat.le_trans hz (by decide)
   have cut_ok : ∀ (y : Str) (c : Nat),y.length ≤ 1000000 → (Builtin.Str.partsBetween y (Builtin.Str.occurrences y ⟨#[c]⟩ 0 y.length (y.length + 1)) (⟨#[c]⟩ : Str).length).length ≤ sizeLine:=fun y c hy=>Nat.le_trans (parts_len y c) (Nat.le_trans (Nat.succ_le_succ hy) (by decide))
   have hrows1 : (Txt.split z "\n").length ≤ 1000001:=by
    have:=split_chop z 10 (by decide)
    rw [nl_str,this,List.length_map]
    exact Nat.le_trans (chop_len 10 z.cps.toList) (by
     have : z.cps.toList.length = z.length:=by simp [Str.length]
     omega)
   refine ⟨_,rfl,rfl,z, "\n",rfl,rfl,hz',(by decide +kernel),(by rw [nl_str]; exact cut_ok z 10 hz),fun q hq=>?_⟩
   generalize hrows : Txt.split z "\n" = rows at hrl hrows1 kk ⊢
   have hqp : q ≠ p:=fun e=>by rw [e,hp1] at hq; cases hq
   have t9 : Same H1 (upd H1 q (.lst (rows.map V.str))):=Same.upd_new hq
   have q9 : (upd H1 q (.lst (rows.map V.str))) q = some (.lst (rows.map V.str)):=upd_same
   generalize upd H1 q (.lst (rows.map V.str)) = H9 at t9 q9 ⊢
   have s09 : Same H H9:=tp.trans t9
   have hp9:=t9 _ _ hp1
   refine ⟨q,rfl,⟨_,SqL.of q9⟩,for_enum (K:=K) (a:=q) (xs:=rows.map V.str) (fun i σ Hi=>∃ (v2 v3 v4 : Option V) (ts : List Addr),σ = [some (.str z),some (.ref p),v2,v3,v4] ∧ Hi p = some (.lst (ts.map V.ref)) ∧ Paired (fun t r=>t ≠ p ∧ RowAt H Hi t r ∧ ∀ xs,Hi t = some (.tup xs) → xs[1]? ≠ some (.ref p)) ts (rowsAt 0 (rows.take i)) ∧ Keep H9 Hi p) ?_ ?_ ?_ ?_⟩
   · exact ⟨none,none,none,[],rfl,hp9,.nil,fun _ _ h _=>h⟩
   · rintro i σ Hi _ ⟨v2,v3,v4,ts,_,_,_,kp⟩
     exact SqL.of (kp q _ q9 hqp)
   · rintro i xv Tp σ Hi hxi hT ⟨v2,v3,v4,ts,rfl,hpi,hts,kp⟩
     have hi : i < rows.length:=by
      have:=(List.getElem?_eq_some_iff.mp hxi).1
      rwa [List.length_map] at this
     have ex : xv = .str rows[i]:=by
      rw [List.getElem?_map,List.getElem?_eq_getElem hi] at hxi
      exact (Option.some.inj hxi).symm
     subst ex
     have hrl1:=hrl _ (List.getElem_mem hi)
     have hsn:=rowsAt_snoc hi
     have htl : ts.length ≤ i:=by
      have:=hts.length
      have h2:=rowsAt_len (rows.take i) 0
      rw [List.length_take] at h2
      omega
     generalize rows[i] = r at hrl1 hsn ⊢
     have tT : Same Hi (upd Hi Tp (.tup [.int (i : Int),.str r])):=Same.upd_new hT
     refine ⟨Tp,_,rfl,SqT.of upd_same,rfl,_,_,rfl,_,_,rfl,rfl,?_⟩
     generalize upd Hi Tp (.tup [.int (i : Int),.str r]) = Hj at tT ⊢
     refine ⟨_,rfl,rfl,r, " ",rfl,rfl,Nat.le_trans hrl1 (by decide),(by decide +kernel),(by rw [sp_str]; exact cut_ok r 32 (Nat.le_trans hrl1 (by decide))),fun q2 hq2=>?_⟩
     have tq : Same Hj (upd Hj q2 (.lst ((Txt.split r " ").map V.str))):=Same.upd_new hq2
     have qq : (upd Hj q2 (.lst ((Txt.split r " ").map V.str))) q2 = some (.lst ((Txt.split r " ").map V.str)):=upd_same
     have hsl : (Txt.split r " ").length ≤ 1001:=by
      have:=split_chop r 32 (by decide)
      rw [sp_str,this,List.length_map]
      exact Nat.le_trans (chop_len 32 r.cps.toList) (by
       have : r.cps.toList.length = r.length:=by simp [Str.length]
       omega)
     generalize upd Hj q2 (.lst ((Txt.split r " ").map V.str)) = Hk at tq qq ⊢
     refine ⟨q2,rfl,⟨_,SqL.of qq⟩,fun D hD=>?_⟩
     have sIk : Same Hi Hk:=tT.trans tq
     have hDi : Hi D = none:=sIk.free hD
     have hD0 : H D = none:=by
      cases e : H D with
      | none=>rfl
      | some o =>
       have:=kp D o (s09 _ _ e) (ne_of_none e hpn)
       rw [hDi] at this
       cases this
     refine lc_by (Txt.split r " ").length (fun j acc σ' H4=>acc = (((Txt.split r " ").take j).filter fun y : Str=>!decide (y = ("" : Str))).map V.str ∧ (∃ u,σ' = [u]) ∧ Same Hk H4) ⟨rfl,⟨none,rfl⟩,Same.upd_new hD⟩ upd_same ?_ ?_
     · rintro acc σ' H4 hDD ⟨rfl,_,s4⟩
       rw [List.take_length] at hDD
       have hDW : H4 D = some (.lst ((wordsOf r).map V.str)):=hDD
       refine ⟨⟨_,SqL.of (s4 _ _ qq),by rw [List.length_map]; exact Nat.le_refl _⟩,?_⟩
       have sI4 : Same Hi H4:=sIk.trans s4
       refine ⟨_,rfl,D,_,rfl,.inl (SqL.of hDW),_,_,rfl,rfl,_,rfl,?_⟩
       generalize hw : wordsOf r = ws at hsn hDW ⊢
       have pw : ∀ {H5 : Hp},Keep H4 H5 p → Paired (fun t r=>t ≠ p ∧ RowAt H H5 t r ∧ ∀ xs,H5 t = some (.tup xs) → xs[1]? ≠ some (.ref p)) ts (rowsAt 0 (rows.take i)):=fun {H5} k5=>Paired.mapP hts fun t r ⟨a,⟨d,b1,b2,b3,b4⟩,c⟩=>by
        have e1:=k5 t _ (sI4 _ _ b3) a
        have nd : d ≠ p:=fun e=>c _ b3 (by rw [e]; rfl)
        refine ⟨a,⟨d,b1,b2,e1,k5 d _ (sI4 _ _ b4) nd⟩,fun xs hx=>?_⟩
        rw [e1] at hx
        cases hx
        exact c _ b3
       refine ite2 (fun hc=>?_) (fun hc=>?_)
       · have hlt : 0 < ws.length:=by
          have:=of_decide_eq_true hc
          rw [List.length_map] at this
          omega
         rw [if_pos hlt] at hsn
         have hp4:=sI4 _ _ hpi
         refine ⟨_,rfl,.inl ⟨rfl,_,SqL.of hp4⟩,_,rfl,_,rfl,(by show 2 ≤ sizeLine; decide),fun U hU=>?_⟩
         have npU : p ≠ U:=ne_of_none hp4 hU
         refine ⟨p,_,_,rfl,rfl,(by rw [upd_ne npU]; exact hp4),?_,?_⟩
         · rw [List.length_map]
           exact Nat.lt_of_le_of_lt (Nat.le_trans htl (Nat.le_trans (Nat.le_of_lt hi) hrows1)) (by decide)
         · have k5 : Keep H4 (upd (upd H4 U (.tup [.int (i : Int),.ref D])) p (.lst (ts.map V.ref ++ [.ref U]))) p:=fun b o hb hn=>by
            rw [upd_ne hn,upd_ne (ne_of_none hb hU)]
            exact hb
           have hnD : D ≠ p:=fun e=>by rw [e,hp4] at hDW; exact absurd (e ▸ hDi) (by rw [hpi]; exact fun h=>nomatch h)
           have eU : (upd (upd H4 U (.tup [.int (i : Int),.ref D])) p (.lst (ts.map V.ref ++ [.ref U]))) U = some (.tup [.int (i : Int),.ref D]):=by rw [upd_ne (Ne.symm npU),upd_same]
           refine ⟨_,_,_,ts ++ [U],rfl,(by rw [upd_same,List.map_append]; rfl),?_,fun b o hb hn=>k5 b o (sI4 _ _ (kp b o hb hn)) hn⟩
           rw [hsn]
           refine paired_append (pw k5) (.cons ⟨Ne.symm npU,⟨D,?_,hD0,eU,?_⟩,?_⟩ .nil)
           · cases e : H U with
             | none=>rfl
             | some o =>
              have:=sI4 _ _ (kp U o (s09 _ _ e) (ne_of_none e hpn))
              rw [hU] at this
              cases this
           · rw [upd_ne hnD,upd_ne (ne_of_none hDW hU)]
             exact hDW
           · intro xs hx
             rw [eU] at hx
             cases hx
             intro e
             exact hnD (by cases e; rfl)
       · have hlt : ¬ 0 < ws.length:=fun h=>hc (decide_eq_true (by rw [List.length_map]; omega))
         rw [if_neg hlt,List.append_nil] at hsn
         refine ⟨_,_,_,ts,rfl,sI4 _ _ hpi,?_,fun b o hb hn=>sI4 _ _ (kp b o hb hn)⟩
         rw [hsn]
         exact pw fun b o hb _=>hb
     · rintro j acc σ' H4 hj hDD ⟨rfl,⟨u,rfl⟩,s4⟩
       have ej : ((Txt.split r " ").map V.str)[j]? = some (.str (Txt.split r " ")[j]):=by rw [List.getElem?_map,List.getElem?_eq_getElem hj]; rfl
       refine ⟨⟨_,_,SqL.of (s4 _ _ qq),ej⟩,?_⟩
       rintro x' H' ⟨rfl,hall⟩
       have ex:=hall _ (SqL.of (s4 _ _ qq))
       rw [ej] at ex
       cases ex
       refine ⟨_,rfl,rfl,_,rfl,ite2 (fun hc=>?_) (fun hc=>?_)⟩
       · have hne : ¬ (Txt.split r " ")[j] = ("" : Str):=fun e=>by
          rw [e] at hc
          simp at hc
         refine ⟨_,rfl,_,hDD,?_,lcW_next hj upd_same ⟨?_,⟨_,rfl⟩,?_⟩⟩
         · rw [List.length_map]
           refine Nat.lt_of_le_of_lt (List.length_filter_le _ _) ?_
           rw [List.length_take]
           exact Nat.lt_of_le_of_lt (Nat.le_trans (Nat.min_le_right _ _) hsl) (by decide)
         · rw [take_succ_filter _ _ _ _ (List.getElem?_eq_getElem hj),if_pos (by simp [hne]),List.map_append]
           rfl
         · intro y o hy
           rw [upd_ne (ne_of_none hy hD)]
           exact s4 y o hy
       · have hne : (Txt.split r " ")[j] = ("" : Str):=by
          by_cases e : (Txt.split r " ")[j] = ("" : Str)
          · exact e
          · exact absurd (by rw [decide_eq_false (fun q=>e (V.str.inj q))]; rfl) hc
         refine lcW_next hj hDD ⟨?_,⟨_,rfl⟩,s4⟩
         rw [take_succ_filter _ _ _ _ (List.getElem?_eq_getElem hj),if_neg (by simp [hne]),List.append_nil]
   · rintro σ Hi ⟨v2,v3,v4,ts,rfl,hpi,hts,kp⟩
     rw [List.length_map,List.take_length] at hts
     exact ⟨_,rfl,kk p ts Hi hpn hpi (Paired.mapP hts fun _ _ h=>h.2.1) fun b o hb=>kp b o (s09 _ _ hb) (ne_of_none hb hpn)⟩
theorem ok_read {f f1 f2 f3 fI C : Addr} {fd d1 d2 d3 dI : FuncData} (F : Fun K "read_machine" "read_machine" sRead f fd) (T : TxtM K mg C)
 (G1 : FnOk P w K mg base CX0 5 f1 d1 ["machine", "words"] (spFault C)) (m1 : mg "fault_of" = some (.ref f1)) (k1 : PySem.W.keepIn K (.ref f1) = true) (b1 : Binds K d1 ["machine", "words"] [])
 (G2 : FnOk P w K mg base CX0 1 f2 d2 ["machine", "words"] (spTake C)) (m2 : mg "take_row" = some (.ref f2)) (k2 : PySem.W.keepIn K (.ref f2) = true) (b2 : Binds K d2 ["machine", "words"] [])
 (G3 : FnOk P w K mg base CX0 1 f3 d3 ["text"] spRowsOf) (m3 : mg "rows_of" = some (.ref f3)) (k3 : PySem.W.keepIn K (.ref f3) = true) (b3 : Binds K d3 ["text"] [])
 (GI : FnOk P w K mg base CX0 1 fI dI pInit (spInit C)) (mI : Mk K C fI) (bI : Binds K dI pInit []) : FnOk P w K mg base CX0 6 f fd ["text"] (spRead C):=by
 refine F.ok scRead (fun vs H Q E h=>?_) (fun cdv A outer s H vs Q E hr h=>?_)
 · obtain ⟨z,M,rfl,_⟩:=h
   rfl
 · obtain ⟨z,M,rfl,hz,hrl,hrd,kk⟩:=h
   have hr1 : Room 1 _:=hr.mono (by decide)
   have hr2 : Room 2 _:=hr.mono (by decide)
   refine ⟨_,pss_cons (ps_set (i:=1) scRead.nd rfl (Or.inl rfl) (pe_make mI GI hr2 rfl T.mgC bI .nil pass0 (pa_cons (pe_lst pa_nil) (pa_cons pe_dnewK (pa_cons (pe_lst pa_nil) (pa_cons pe_dnewK (pa_cons pe_dnewK (pa_cons pe_dnewK pa_nil))))))))
    (pss_cons (ps_for PassesOwn.never rfl (pi_list (pe_call G3 hr1 rfl m3 k3 b3 .nil pass0 (pa_cons (pv 0) pa_nil)))
     (pg_tup rfl (pgs_cons (pg_name (i:=2) scRead.nd rfl (Or.inl rfl)) (pgs_cons (pg_name (i:=3) scRead.nd rfl (Or.inl rfl)) pgs_nil)))
     (pss_cons (ps_set (i:=4) scRead.nd rfl (Or.inl rfl) (pe_call G1 hr rfl m1 k1 b1 .nil pass0 (pa_cons (pv 1) (pa_cons (pv 3) pa_nil))))
      (pss_cons (ps_if (pt_cmp (pc_notN (pv 4))) (pss_one ps_never) pss_nil)
      (pss_one (ps_expr (pe_call G2 hr1 rfl m2 k2 b2 .nil pass0 (pa_cons (pv 1) (pa_cons (pv 3) pa_nil))))))))
    (pss_one (ps_ret (pv 1)))),?_⟩
   refine ⟨(by show 0 ≤ sizeLine; decide),fun s1 hs1=>?_⟩
   have q1 : (upd H s1 (.lst [])) s1 = some (.lst []):=upd_same
   have t1 : Same H (upd H s1 (.lst [])):=Same.upd_new hs1
   generalize upd H s1 (.lst []) = H1 at q1 t1 ⊢
   intro s2 hs2
   have q2 : (upd H1 s2 (.dK [])) s2 = some (.dK []):=upd_same
   have t2 : Same H1 (upd H1 s2 (.dK [])):=Same.upd_new hs2
   generalize upd H1 s2 (.dK []) = H2 at q2 t2 ⊢
   refine ⟨(by show 0 ≤ sizeLine; decide),fun s3 hs3=>?_⟩
   have q3 : (upd H2 s3 (.lst [])) s3 = some (.lst []):=upd_same
   have t3 : Same H2 (upd H2 s3 (.lst [])):=Same.upd_new hs3
   generalize upd H2 s3 (.lst []) = H3 at q3 t3 ⊢
   intro s4 hs4
   have q4 : (upd H3 s4 (.dK [])) s4 = some (.dK []):=upd_same
   have t4 : Same H3 (upd H3 s4 (.dK [])):=Same.upd_new hs4
   generalize upd H3 s4 (.dK []) = H4 at q4 t4 ⊢
   intro s5 hs5
   have q5 : (upd H4 s5 (.dK [])) s5 = some (.dK []):=upd_same
   have t5 : Same H4 (upd H4 s5 (.dK [])):=Same.upd_new hs5
   generalize upd H4 s5 (.dK []) = H5 at q5 t5 ⊢
   intro s6 hs6
   have q6 : (upd H5 s6 (.dK [])) s6 = some (.dK []):=upd_same
   have t6 : Same H5 (upd H5 s6 (.dK [])):=Same.upd_new hs6
   generalize upd H5 s6 (.dK []) = H6 at q6 t6 ⊢
   intro x dx hx hdx hne
   have s06 : Same H H6:=((((t1.trans t2).trans t3).trans t4).trans t5).trans t6
   have t7 : Same H6 (upd (upd H6 dx (.own x)) x (.ins C dx [])):=fun b o hb=>by
    rw [upd_ne (ne_of_none hb hx),upd_ne (ne_of_none hb hdx)]
    exact hb
   have q7 : (upd (upd H6 dx (.own x)) x (.ins C dx [])) x = some (.ins C dx []):=upd_same
   generalize upd (upd H6 dx (.own x)) x (.ins C dx []) = H7 at t7 q7 ⊢
   have s07 : Same H H7:=s06.trans t7
   refine ⟨x,dx,s1,s2,s3,s4,s5,s6,⟨[],[],[],[],[],[]⟩,rfl,q7,⟨t7 _ _ (t6 _ _ (t5 _ _ (t4 _ _ (t3 _ _ (t2 _ _ q1))))),t7 _ _ (t6 _ _ (t5 _ _ (t4 _ _ (t3 _ _ q2)))),t7 _ _ (t6 _ _ (t5 _ _ (t4 _ _ q3))),t7 _ _ (t6 _ _ (t5 _ _ q4)),t7 _ _ (t6 _ _ q5),t7 _ _ q6⟩,fun g1 g2 g3 g4 g5 g6 H8 hg hnd hp8 hF8 kp8=>⟨rfl,?_⟩⟩
   have RM8 : RM C H8 x dx g1 g2 g3 g4 g5 g6 [] mach0:=⟨hp8,hF8.h1,hF8.h2,hF8.h3,.nil,hF8.h4,hF8.h5,hF8.h6,hnd⟩
   have s08 : ∀ b o,H b = some o → H8 b = some o ∧ b ∉ [g1,g2,g3,g4,g5,g6]:=fun b o hb=>⟨kp8 b o (s07 b o hb) (ne_of_none (s06 b o hb) hx),fun hm=>by
    have:=hg b hm
    rw [s07 b o hb] at this
    cases this⟩
   have fresh : ∀ b ∈ [x,g1,g2,g3,g4,g5,g6],H b = none:=fun b hb=>by
    rcases List.mem_cons.mp hb with rfl | hb
    · exact s06.free hx
    · exact s07.free (hg b hb)
   refine ⟨_,rfl,z,rfl,hz,hrl,fun q us H9 hqn hq9 hus t9=>?_⟩
   have notg : ∀ b,H8 b = none → b ∉ [g1,g2,g3,g4,g5,g6]:=fun b hq hm=>by
    simp only [List.mem_cons,List.not_mem_nil,or_false] at hm
    rcases hm with rfl | rfl | rfl | rfl | rfl | rfl
    · rw [RM8.h1] at hq; cases hq
    · rw [RM8.h2] at hq; cases hq
    · rw [RM8.h3] at hq; cases hq
    · rw [RM8.h4] at hq; cases hq
    · rw [RM8.h5] at hq; cases hq
    · rw [RM8.h6] at hq; cases hq
   have hnq:=notg q hqn
   have hrd2:=hrd.filter
   rw [← rowsAt_words _ 0] at hrd2
   have hall : ∀ ws ∈ (rowsAt 0 (Txt.split z "\n")).map (·.2),0 < ws.length:=fun ws hm=>by
    rw [rowsAt_words] at hm
    exact of_decide_eq_true (List.mem_filter.mp hm).2
   generalize hrows : rowsAt 0 (Txt.split z "\n") = rows at hus hrd2 hall ⊢
   have RM9:=RM8.same t9
   have hul:=hus.length
   refine ⟨q,rfl,⟨_,SqL.of hq9⟩,for_list (K:=K) (a:=q) (xs:=us.map V.ref) (fun i σ Hi=>∃ (v2 v3 v4 : Option V) (Mi : Mach) (ts : List Addr),σ = [some (.str z),some (.ref x),v2,v3,v4] ∧ Reads Mi ((rows.map (·.2)).drop i) M ∧ Mi.gates.length ≤ 60 ∧ RM C Hi x dx g1 g2 g3 g4 g5 g6 ts Mi ∧ KeepG H9 Hi g1 g2 g3 g4 g5 g6) ?_ ?_ ?_ ?_⟩
   · exact ⟨none,none,none,mach0,[],rfl,hrd2,Nat.zero_le _,RM9,fun _ _ h _=>h⟩
   · rintro i σ Hi _ ⟨v2,v3,v4,Mi,ts,_,_,_,_,kp⟩
     exact SqL.of (kp q _ hq9 hnq)
   · rintro i xv σ Hi hxi ⟨v2,v3,v4,Mi,ts,rfl,hre,hgl,hM,kp⟩
     have hi : i < rows.length:=by
      have:=(List.getElem?_eq_some_iff.mp hxi).1
      rw [List.length_map] at this
      omega
     obtain ⟨U,hU,D,u1,u2,u3,u4⟩:=paired_at hus (i:=i) (b:=rows[i]) (List.getElem?_eq_getElem hi)
     have ex : xv = .ref U:=by
      rw [List.getElem?_map,hU] at hxi
      exact (Option.some.inj hxi).symm
     subst ex
     have hre' : Reads Mi (rows[i].2 :: (rows.map (·.2)).drop (i + 1)) M:=by
      rw [List.drop_eq_getElem_cons (by rw [List.length_map]; exact hi),List.getElem_map] at hre
      exact hre
     have hne : 0 < rows[i].2.length:=hall _ (List.mem_map.mpr ⟨_,List.getElem_mem hi,rfl⟩)
     have hU4:=kp U _ u3 (notg U u1)
     have hD4:=kp D _ u4 (notg D u2)
     generalize rows[i].2 = ws at hre' hne hD4
     refine ⟨U,_,rfl,SqT.of hU4,rfl,_,_,rfl,_,_,rfl,rfl,?_⟩
     cases hre' with
     | blank h=>exact absurd hne (Nat.lt_irrefl _)
     | @row _ M1 _ _ _ hrow hrest =>
      refine ⟨_,rfl,_,rfl,x,dx,g1,g2,g3,g4,g5,g6,D,ts,Mi,M1,ws,rfl,hM,hgl,hD4,hrow,fun H5' s5'=>?_⟩
      refine ⟨_,rfl,_,rfl,iteF ?_⟩
      refine ⟨_,rfl,_,rfl,x,dx,g1,g2,g3,g4,g5,g6,D,ts,Mi,M1,ws,rfl,hM.same s5',s5' _ _ hD4,hrow,fun ts' H6' hM6 kp6=>?_⟩
      exact ⟨_,_,_,M1,ts',rfl,hrest,hrow.gates hgl,hM6,fun b o hb hn=>kp6 b o (s5' b o (kp b o hb hn)) hn⟩
   · rintro σ Hi ⟨v2,v3,v4,Mi,ts,rfl,hre,hgl,hM,kp⟩
     rw [List.length_map,List.drop_of_length_le (by rw [List.length_map]; omega)] at hre
     cases hre
     exact ⟨_,rfl,kk x dx g1 g2 g3 g4 g5 g6 ts Hi fresh hM fun b o hb=>kp b o (t9 b o (s08 b o hb).1) (s08 b o hb).2⟩
end
end Gen
namespace Gen
open PySem L2
abbrev sFText : Stmt:=top 43
def firstS (v : V) : Str:=if v = .int 0 then "0" else if v = .int 1 then "1" else "-"
theorem firstS_0 : firstS (.int 0) = "0":=by unfold firstS; rw [if_pos rfl]
theorem firstS_1 : firstS (.int 1) = "1":=by unfold firstS; rw [if_neg (by decide),if_pos rfl]
theorem firstS_n : firstS .non = "-":=by unfold firstS; rw [if_neg (by decide),if_neg (by decide)]
theorem fk_0 : valV [((.inl 0 : Key),V.str "0"),(.inl 1,.str "1")] (.inl 0) = some (.str "0"):=valV_pos rfl
theorem fk_1 : valV [((.inl 0 : Key),V.str "0"),(.inl 1,.str "1")] (.inl 1) = some (.str "1"):=by rw [valV_neg (by decide),valV_pos rfl]
def spFText : Sp:=fun vs H Q _=>∃ v : V,vs = [v] ∧ (v = .int 0 ∨ v = .int 1 ∨ v = .non) ∧ ∀ H',Same H H' → Q (.str (firstS v)) H'
section
variable {P : Program} {w : World} {K : PySem.W.Frag} {mg : Str → Option Value} {base : Heap}
theorem scFText : FnScope ["_law_first"] ["_law_first"] (defScope sFText):=⟨rfl,rfl,rfl,by decide +kernel,rfl,by decide +kernel,by decide +kernel⟩
theorem ok_ftext {f : Addr} {fd : FuncData} (F : Fun K "_law_first_text" "_law_first_text" sFText f fd) : FnOk P w K mg base CX0 1 f fd ["_law_first"] spFText:=by
 refine F.ok scFText (fun vs H Q E h=>?_) (fun cdv A outer s H vs Q E hr h=>?_)
 · obtain ⟨v,rfl,_⟩:=h
   rfl
 · obtain ⟨v,rfl,hv,kk⟩:=h
   have hu:=hu_of hr
   refine ⟨_,pss_one (ps_ret (pe_dgetN hu (pe_disp (pps_cons pe_int pe_str (pps_cons pe_int pe_str pps_nil)) rfl rfl (by simp) (by decide)) (pv 0) pe_str ⟨by kernel_rfl,by kernel_rfl,by kernel_rfl,by kernel_rfl⟩)),?_⟩
   intro m hm
   refine ⟨upd_same,[(.inl 0,.str "0"),(.inl 1,.str "1")],rfl,(by show 2 ≤ 15; decide),?_⟩
   rw [upd_upd]
   have em : mergeK [] [((.inl 0 : Key),V.str "0"),(.inl 1,.str "1")] = [((.inl 0 : Key),V.str "0"),(.inl 1,.str "1")]:=by rfl
   rw [em]
   have sm : Same H (upd H m (.dK [((.inl 0 : Key),V.str "0"),(.inl 1,.str "1")])):=Same.upd_new hm
   have km:=kk _ sm
   refine ⟨m,rfl,.inl ⟨_,.inl upd_same⟩,_,rfl,?_⟩
   rcases hv with rfl | rfl | rfl
   · refine .inl ⟨_,DGet.k (k:=.inl 0) upd_same,?_⟩
     rw [fk_0]
     rw [firstS_0] at km
     exact km
   · refine .inl ⟨_,DGet.k (k:=.inl 1) upd_same,?_⟩
     rw [fk_1]
     rw [firstS_1] at km
     exact km
   · rw [firstS_n] at km
     exact .inr ⟨rfl,⟨_,.inl upd_same⟩,km⟩
end
end Gen
namespace Gen
open PySem L2
abbrev sRows : Stmt:=top 44
def rowSw (n : Str) : Str:="switch " ++ n
def rowKp (r : Str × V) : Str:="keep " ++ r.1 ++ " " ++ firstS r.2
def rowGt (r : Str × Str × Str) : Str:="gate " ++ Txt.join " " [r.1,r.2.1,r.2.2]
def rowW (word : Str) (r : Str × Str) : Str:=word ++ " " ++ r.1 ++ " " ++ r.2
def rowsOf (M : Mach) : List Str:=M.switches.map rowSw ++ M.keepers.map rowKp ++ M.gates.map rowGt ++ (M.nexts.map (rowW "next") ++ (M.nevers.map (rowW "never") ++ M.somes.map (rowW "some")))
structure Short (M : Mach) : Prop where
 sw : ∀ n ∈ M.switches,n.length ≤ 9
 kp : ∀ r ∈ M.keepers,r.1.length ≤ 9 ∧ (r.2 = .int 0 ∨ r.2 = .int 1 ∨ r.2 = .non)
 gt : ∀ r ∈ M.gates,r.1.length ≤ 9 ∧ r.2.1.length ≤ 9 ∧ r.2.2.length ≤ 9
 nx : ∀ r ∈ M.nexts,r.1.length ≤ 9 ∧ r.2.length ≤ 9
 nv : ∀ r ∈ M.nevers,r.1.length ≤ 9 ∧ r.2.length ≤ 9
 sm : ∀ r ∈ M.somes,r.1.length ≤ 9 ∧ r.2.length ≤ 9
 l1 : M.switches.length ≤ 100
 l2 : M.keepers.length ≤ 100
 l3 : M.gates.length ≤ 100
 l4 : M.nexts.length ≤ 100
 l5 : M.nevers.length ≤ 100
 l6 : M.somes.length ≤ 100
theorem firstS_len (v : V) : (firstS v).length = 1:=by
 unfold firstS
 split
 · decide +kernel
 · split <;> decide +kernel
def spRows : Sp:=fun vs H Q _=>∃ (m : Addr) (M : Mach) (a1 a2 a3 a4 a5 a6 : Addr),vs = [.ref m] ∧ MachAt H m M a1 a2 a3 a4 a5 a6 ∧ Short M ∧ ∀ p H',H p = none → Same H H' → H' p = some (.lst ((rowsOf M).map V.str)) → Q (.ref p) H'
abbrev nRows : List Str:=["_law_m", "_law_rows_here", "_law_word", "_law_field"]
theorem ndN1 : (["_law_name"] : List Str).Nodup:=by decide +kernel
theorem ndNF : (["_law_name", "_law_first"] : List Str).Nodup:=by decide +kernel
theorem ndG1 : (["_law_gate"] : List Str).Nodup:=by decide +kernel
theorem ndNLW : (["_law_name", "_law_literal_here", "_law_word"] : List Str).Nodup:=by decide +kernel
section
variable {P : Program} {w : World} {K : PySem.W.Frag} {mg : Str → Option Value} {base : Heap}
theorem scRows : FnScope nRows ["_law_m"] (defScope sRows):=⟨rfl,rfl,rfl,by decide +kernel,rfl,by decide +kernel,by decide +kernel⟩
theorem MachAt.same {H H' : Hp} {m : Addr} {M : Mach} {a1 a2 a3 a4 a5 a6 : Addr} (h : MachAt H m M a1 a2 a3 a4 a5 a6) (s : Same H H') : MachAt H' m M a1 a2 a3 a4 a5 a6 :=
 ⟨s _ _ h.top,s _ _ h.sw,h.kp.same s,h.gt.same s,h.nx.same s,h.nv.same s,h.sm.same s⟩
theorem rows_last {f : Addr} {cdv : Value} {A : Around} {outer : List Env} {s : Shared} {H : Hp} {E : XK} {Q : VK} (hr : Room 1 (A.deeper (PyProof.Rows.envOfC "_law_rows" (defScope sRows) s.heap.objs.size f cdv))) :
 ∃ tR : TS,PSs (cxOf CX0 P w K mg base nRows "_law_rows" (defScope sRows) f cdv A outer s H E).nox (List.drop 3 (defBody sRows)) tR ∧ ∀ (H1 : Hp) (m p : Addr) (M : Mach) (pre : List Str) (a1 a2 a3 a4 a5 a6 : Addr),MachAt H1 m M a1 a2 a3 a4 a5 a6 → Short M → H1 p = some (.lst (pre.map V.str)) → pre.length ≤ 400 →
  (∀ p' H',H1 p' = none → Same H1 H' → H' p' = some (.lst ((pre ++ (M.nexts.map (rowW "next") ++ (M.nevers.map (rowW "never") ++ M.somes.map (rowW "some")))).map V.str)) → Q (.ref p') H') →
  tR { nx:=fun _ H'=>Q .non H',rt:=Q } [some (.ref m),some (.ref p),none,none] H1:=by
 have hu:=hu_of hr
 refine ⟨_,pss_cons (ps_for PassesOwn.never rfl (pi_list (pe_lst (pa_cons (pe_tup (pa_cons pe_str (pa_cons pe_str pa_nil))) (pa_cons (pe_tup (pa_cons pe_str (pa_cons pe_str pa_nil))) (pa_cons (pe_tup (pa_cons pe_str (pa_cons pe_str pa_nil))) pa_nil)))))
  (pg_tup rfl (pgs_cons (pg_name (i:=2) scRows.nd rfl (Or.inr rfl)) (pgs_cons (pg_name (i:=3) scRows.nd rfl (Or.inl rfl)) pgs_nil)))
  (pss_one (ps_set (i:=1) scRows.nd rfl (Or.inl rfl) (pe_op op_cat (pv 1) (pe_lc (N:=["_law_name", "_law_literal_here", "_law_word"]) (js:=[none,none,some 2]) (g:=gTup K 2 (gCons (gName 0) (gCons (gName 1) gNil))) (by kernel_rfl) rfl (pi_list (pe_dget hu (pv 0) (pv 3) (fun _ _=>rfl)))
   (fun _ _ _ _ _ _=>pg_tup rfl (pgs_cons (pg_name (i:=0) ndNLW rfl (Or.inl rfl) (.inr rfl)) (pgs_cons (pg_name (i:=1) ndNLW rfl (Or.inl rfl) (.inr rfl)) pgs_nil))) (fun _ _ _ _ _ _=>pifs_nil)
   (fun _ _ _ _ _ _=>pe_op op_add_str (pe_op op_add_str (pe_op op_add_str (pe_op op_add_str (pv 2) pe_str) (pv 0)) pe_str) (pv 1)))))))
  (pss_one (ps_ret (pv 1))),?_⟩
 intro H1 m p M pre a1 a2 a3 a4 a5 a6 hM hS hp hpl kk
 refine ⟨(by show 2 ≤ sizeLine; decide),fun t1 ht1=>⟨(by show 2 ≤ sizeLine; decide),fun t2 ht2=>⟨(by show 2 ≤ sizeLine; decide),fun t3 ht3=>⟨(by show 3 ≤ sizeLine; decide),fun q hq=>?_⟩⟩⟩⟩
 have s1 : Same H1 (upd H1 t1 (.tup [.str "next",.str "nexts"])):=Same.upd_new ht1
 have q1 : (upd H1 t1 (.tup [.str "next",.str "nexts"])) t1 = some (.tup [.str "next",.str "nexts"]):=upd_same
 generalize upd H1 t1 (.tup [.str "next",.str "nexts"]) = H2 at ht2 ht3 hq s1 q1 ⊢
 have s2 : Same H2 (upd H2 t2 (.tup [.str "never",.str "nevers"])):=Same.upd_new ht2
 have q2 : (upd H2 t2 (.tup [.str "never",.str "nevers"])) t2 = some (.tup [.str "never",.str "nevers"]):=upd_same
 generalize upd H2 t2 (.tup [.str "never",.str "nevers"]) = H3 at ht3 hq s2 q2 ⊢
 have s3 : Same H3 (upd H3 t3 (.tup [.str "some",.str "somes"])):=Same.upd_new ht3
 have q3 : (upd H3 t3 (.tup [.str "some",.str "somes"])) t3 = some (.tup [.str "some",.str "somes"]):=upd_same
 generalize upd H3 t3 (.tup [.str "some",.str "somes"]) = H4 at hq s3 q3 ⊢
 have s4 : Same H4 (upd H4 q (.lst [.ref t1,.ref t2,.ref t3])):=Same.upd_new hq
 have q4 : (upd H4 q (.lst [.ref t1,.ref t2,.ref t3])) q = some (.lst [.ref t1,.ref t2,.ref t3]):=upd_same
 generalize upd H4 q (.lst [.ref t1,.ref t2,.ref t3]) = H5 at s4 q4 ⊢
 have e1:=s4 _ _ (s3 _ _ (s2 _ _ q1))
 have e2:=s4 _ _ (s3 _ _ q2)
 have e3:=s4 _ _ q3
 have s15 : Same H1 H5:=((s1.trans s2).trans s3).trans s4
 have hM5:=hM.same s15
 have hp5:=s15 _ _ hp
 have step : ∀ (i : Nat) (x : V),[V.ref t1,.ref t2,.ref t3][i]? = some x → ∃ (t a : Addr) (word field : Str) (rs : List (Str × Str)),x = .ref t ∧ H5 t = some (.tup [.str word,.str field]) ∧ valV (machKvs a1 a2 a3 a4 a5 a6) (.inr field) = some (.ref a) ∧ TupsAt H5 a (rs.map row2) ∧ (∀ r ∈ rs,r.1.length ≤ 9 ∧ r.2.length ≤ 9) ∧ rs.length ≤ 100 ∧ word.length ≤ 5 ∧
  [M.nexts.map (rowW "next"),M.nevers.map (rowW "never"),M.somes.map (rowW "some")][i]? = some (rs.map (rowW word)) ∧ i < 3:=by
  intro i x hx
  match i,hx with
  | 0,hx=>exact ⟨t1,a4, "next", "nexts",M.nexts,(Option.some.inj hx).symm,e1,rfl,hM5.nx,hS.nx,hS.l4,(by decide +kernel),rfl,by decide⟩
  | 1,hx=>exact ⟨t2,a5, "never", "nevers",M.nevers,(Option.some.inj hx).symm,e2,rfl,hM5.nv,hS.nv,hS.l5,(by decide +kernel),rfl,by decide⟩
  | 2,hx=>exact ⟨t3,a6, "some", "somes",M.somes,(Option.some.inj hx).symm,e3,rfl,hM5.sm,hS.sm,hS.l6,(by decide +kernel),rfl,by decide⟩
  | i + 3,hx=>simp at hx
 refine ⟨q,rfl,⟨_,SqL.of q4⟩,for_list (K:=K) (a:=q) (xs:=[.ref t1,.ref t2,.ref t3]) (fun i σ H6=>∃ (p' : Addr) (v2 v3 : Option V) (l : List Str),σ = [some (.ref m),some (.ref p'),v2,v3] ∧ l = pre ++ ([M.nexts.map (rowW "next"),M.nevers.map (rowW "never"),M.somes.map (rowW "some")].take i).flatten ∧ l.length ≤ 400 + 100 * i ∧ H6 p' = some (.lst (l.map V.str)) ∧ (i = 0 ∨ H1 p' = none) ∧ Same H5 H6) ?_ ?_ ?_ ?_⟩
 · exact ⟨p,none,none,pre,rfl,by simp,by omega,hp5,.inl rfl,fun _ _ h=>h⟩
 · rintro i σ H6 _ ⟨_,_,_,_,_,_,_,_,_,s6⟩
   exact SqL.of (s6 _ _ q4)
 · rintro i x σ H6 hx ⟨p',v2,v3,l,rfl,hl,hll,hp',_,s6⟩
   obtain ⟨t,a,word,field,rs,rfl,ht,hv,⟨us,ha,hus⟩,hsh,hrl,hwl,hseg,hi3⟩:=step i x hx
   refine ⟨t,_,rfl,SqT.of (s6 _ _ ht),rfl,_,_,rfl,_,_,rfl,rfl,?_⟩
   have ha6:=s6 _ _ ha
   have hus6 : Paired (fun t r=>H6 t = some (.tup r)) us (rs.map row2):=Paired.mapP hus fun t r e=>s6 _ _ e
   have hul:=hus.length
   rw [List.length_map] at hul
   refine ⟨_,rfl,_,rfl,_,rfl,m,.ref a,rfl,(by rw [← hv]; exact DGet.k (k:=.inr field) (s6 _ _ hM5.top)),a,rfl,⟨_,SqL.of ha6⟩,fun D hD=>?_⟩
   refine lc_by rs.length (fun j acc σ' H7=>acc = ((rs.take j).map (rowW word)).map V.str ∧ (∃ u v,σ' = [u,v,some (.str word)]) ∧ Same H6 H7) ⟨rfl,⟨none,none,rfl⟩,Same.upd_new hD⟩ upd_same ?_ ?_
   · rintro acc σ' H7 hDD ⟨rfl,_,s7⟩
     rw [List.take_length] at hDD
     refine ⟨⟨_,SqL.of (s7 _ _ ha6),by rw [List.length_map,hul]; exact Nat.le_refl _⟩,p',D,_,_,rfl,rfl,s7 _ _ hp',hDD,?_,fun r hr'=>?_⟩
     · rw [List.length_map,List.length_map,List.length_map]
       exact small' (by omega)
     · have s8 : Same H7 (upd H7 r (.lst (l.map V.str ++ (rs.map (rowW word)).map V.str))):=Same.upd_new hr'
       refine ⟨r,_,_,l ++ rs.map (rowW word),rfl,?_,?_,?_,.inr (s15.free (s6.free (s7.free hr'))),(s6.trans s7).trans s8⟩
       · rw [hl,List.take_succ,hseg,List.flatten_append,List.append_assoc]
         simp
       · rw [List.length_append,List.length_map]
         omega
       · rw [upd_same,List.map_append]
   · rintro j acc σ' H7 hj hDD ⟨rfl,⟨u,v,rfl⟩,s7⟩
     have hrj : rs[j]? = some rs[j]:=List.getElem?_eq_getElem hj
     obtain ⟨T,hT,hTt⟩:=paired_at hus6 (i:=j) (b:=row2 rs[j]) (by rw [List.getElem?_map,hrj]; rfl)
     have ej : (us.map V.ref)[j]? = some (.ref T):=by rw [List.getElem?_map,hT]; rfl
     refine ⟨⟨_,_,SqL.of (s7 _ _ ha6),ej⟩,?_⟩
     rintro x' H' ⟨rfl,hall⟩
     have ex:=hall _ (SqL.of (s7 _ _ ha6))
     rw [ej] at ex
     cases ex
     obtain ⟨h1,h2⟩:=hsh _ (List.getElem_mem hj)
     have hb : (" " : Str).length = 1:=by decide +kernel
     refine ⟨T,_,rfl,SqT.of (s7 _ _ hTt),rfl,_,_,rfl,_,_,rfl,rfl,yes_if ?_⟩
     refine ⟨_,rfl,word, " ",rfl,rfl,line8 (by omega),_,rfl,word ++ " ",_,rfl,rfl,line8 (by rw [appLen]; omega),word ++ " " ++ rs[j].1, " ",rfl,rfl,line8 (by rw [appLen,appLen]; omega),_,rfl,word ++ " " ++ rs[j].1 ++ " ",_,rfl,rfl,line8 (by rw [appLen,appLen,appLen]; omega),_,hDD,?_,lcW_next hj upd_same ⟨?_,⟨_,_,rfl⟩,?_⟩⟩
     · rw [List.length_map,List.length_map,List.length_take]
       exact small (by omega)
     · rw [take_next (rowW word) hrj,List.map_append]
       rfl
     · intro y o hy
       rw [upd_ne (ne_of_none hy hD)]
       exact s7 y o hy
 · rintro σ H6 ⟨p',v2,v3,l,rfl,hl,hll,hp',h0,s6⟩
   have hn : H1 p' = none:=by
    rcases h0 with h0 | h0
    · cases h0
    · exact h0
   refine ⟨_,rfl,kk p' H6 hn (s15.trans s6) ?_⟩
   rw [hp',hl]
   simp
end
end Gen
namespace Gen
open PySem L2
section
variable {P : Program} {w : World} {K : PySem.W.Frag} {mg : Str → Option Value} {base : Heap}
abbrev rListOf (K : PySem.W.Frag) : List V → Hp → VK → Prop:=fun xs H Q=>∃ p ys,xs = [.ref p] ∧ (SqL K H p ys ∨ SqT K H p ys) ∧ ∀ l,H l = none → Q (.ref l) (upd H l (.lst ys))
theorem joinLen3 (a b c : Str) : (Txt.join " " [a,b,c]).length = a.length + b.length + c.length + 2:=by
 have h : (Txt.join " " [a,b,c]).cps.toList = seam 32 [a.cps.toList,b.cps.toList,c.cps.toList]:=by
  rw [sp_str,join_seam]; rfl
 have e:=congrArg List.length h
 have l : ∀ z : Str,z.length = z.cps.toList.length:=fun z=>by simp [Str.length]
 rw [l,e,l a,l b,l c]
 simp only [seam,List.length_append,List.length_cons]
 omega
def asgV : Stmt → Expr
 | .Assign _ v _=>v
 | _=>.Constant .none 0 ⟨0,0,0,0⟩
def binR : Expr → Expr
 | .BinOp _ _ b _=>b
 | e=>e
def lcElt : Expr → Expr
 | .ListComp e _ _ _=>e
 | e=>e
abbrev eGate : Expr:=lcElt (binR (asgV ((defBody sRows).getD 2 (.Pass ⟨0,0,0,0⟩))))
abbrev scGate : Scope:={ kind:=.function,names:=[(".0",.local),("_law_gate",.local),("list",.globalImplicit)],isGenerator:=false,isCoroutine:=false }
theorem gate_elt (O : Own2 mg) {f : Addr} {cdv : Value} {A : Around} {outer : List Env} {s : Shared} {H : Hp} {E : XK} :
 ∃ te : TE,(∀ cl C0 s0 H0 fp pn,PE (cxComp (cxOf CX0 P w K mg base nRows "_law_rows" (defScope sRows) f cdv A outer s H E).nox ["_law_gate"] scGate cl C0 s0 H0 fp pn) eGate te) ∧
  ∀ (H1 : Hp) (T : Addr) (a b c : Str) (Q : VK),H1 T = some (.tup [.str a,.str b,.str c]) → a.length ≤ 9 → b.length ≤ 9 → c.length ≤ 9 → (∀ L,H1 L = none → Q (.str (rowGt (a,b,c))) (upd H1 L (.lst [.str a,.str b,.str c]))) → te [some (.ref T)] H1 Q:=by
 refine ⟨tOp (fun x y H Q=>∃ i j,x = .str i ∧ y = .str j ∧ i.length + j.length ≤ sizeLine ∧ Q (.str (i ++ j)) H) (tC (.str "gate ")) (tBM K "str" (rJoin K) (tC (.str " ")) (tCons (tCB (rListOf K) (tCons (tVar 0) tNil)) tNil)),fun cl C0 s0 H0 fp pn=>?_,?_⟩
 · refine pe_op op_add_str pe_str ?_
   refine pe_bm PySem.F.plainAttrs_str PySem.F.slot_str_join PySem.F.type_str_join mt_join pe_str ?_
   refine pa_cons ?_ pa_nil
   exact pe_callTy call_list_of (by rfl) O.list PyProof.Rows.boot_list (pa_cons (pv 0) pa_nil)
 intro H1 T a b c Q hT h1 h2 h3 kk
 have hb : (" " : Str).length = 1:=by decide +kernel
 have hg5 : ("gate " : Str).length = 5:=by decide +kernel
 refine ⟨rfl,_,rfl,T,_,rfl,.inr (SqT.of hT),fun L hLn=>?_⟩
 refine ⟨" ",L,[a,b,c],rfl,rfl,SqL.of upd_same,?_, "gate ",_,rfl,rfl,?_,kk L hLn⟩
 · simp only [List.map_cons,List.map_nil,List.sum_cons,List.sum_nil,List.length_cons,List.length_nil,hb]
   omega
 · rw [joinLen3]
   exact line8 (by omega)
theorem rows_mid {f fT : Addr} {dT : FuncData} (GT : FnOk P w K mg base CX0 1 fT dT ["_law_first"] spFText) (mT : mg "_law_first_text" = some (.ref fT)) (kT : PySem.W.keepIn K (.ref fT) = true) (bT : Binds K dT ["_law_first"] []) (O : Own2 mg)
 {cdv : Value} {A : Around} {outer : List Env} {s : Shared} {H : Hp} {E : XK} {Q : VK} (hr : Room 1 (A.deeper (PyProof.Rows.envOfC "_law_rows" (defScope sRows) s.heap.objs.size f cdv))) :
 ∃ tR : TS,PSs (cxOf CX0 P w K mg base nRows "_law_rows" (defScope sRows) f cdv A outer s H E).nox (List.drop 1 (defBody sRows)) tR ∧ ∀ (H1 : Hp) (m p : Addr) (M : Mach) (pre : List Str) (a1 a2 a3 a4 a5 a6 : Addr),MachAt H1 m M a1 a2 a3 a4 a5 a6 → Short M → H1 p = some (.lst (pre.map V.str)) → pre.length ≤ 100 →
  (∀ p' H',H1 p' = none → Same H1 H' → H' p' = some (.lst ((pre ++ M.keepers.map rowKp ++ M.gates.map rowGt ++ (M.nexts.map (rowW "next") ++ (M.nevers.map (rowW "never") ++ M.somes.map (rowW "some")))).map V.str)) → Q (.ref p') H') →
  tR { nx:=fun _ H'=>Q .non H',rt:=Q } [some (.ref m),some (.ref p),none,none] H1:=by
 have hu:=hu_of hr
 obtain ⟨tL,hL,rL⟩:=rows_last (P:=P) (w:=w) (K:=K) (mg:=mg) (base:=base) (outer:=outer) (H:=H) (E:=E) (Q:=Q) hr
 obtain ⟨tG,hG,rG⟩:=gate_elt (P:=P) (w:=w) (K:=K) (base:=base) O (f:=f) (cdv:=cdv) (A:=A) (outer:=outer) (s:=s) (H:=H) (E:=E)
 refine ⟨_,pss_cons (ps_set (i:=1) scRows.nd rfl (Or.inl rfl) (pe_op op_cat (pv 1) (pe_lc (N:=["_law_name", "_law_first"]) (js:=[none,none]) (g:=gTup K 2 (gCons (gName 0) (gCons (gName 1) gNil))) (by kernel_rfl) rfl (pi_list (pe_dget hu (pv 0) pe_str (fun _ _=>rfl)))
  (fun _ _ _ _ _ _=>pg_tup rfl (pgs_cons (pg_name (i:=0) ndNF rfl (Or.inl rfl) (.inr rfl)) (pgs_cons (pg_name (i:=1) ndNF rfl (Or.inl rfl) (.inr rfl)) pgs_nil))) (fun _ _ _ _ _ _=>pifs_nil)
  (fun _ _ _ _ _ _=>pe_op op_add_str (pe_op op_add_str (pe_op op_add_str pe_str (pv 0)) pe_str) (pe_call GT hr rfl mT kT bT .nil pass0 (pa_cons (pv 1) pa_nil))))))
  (pss_cons (ps_set (i:=1) scRows.nd rfl (Or.inl rfl) (pe_op op_cat (pv 1) (pe_lc (N:=["_law_gate"]) (js:=[none]) (by kernel_rfl) rfl (pi_list (pe_dget hu (pv 0) pe_str (fun _ _=>rfl)))
   (fun _ _ _ _ _ _=>pg_name (i:=0) ndG1 rfl (Or.inl rfl) (.inr rfl)) (fun _ _ _ _ _ _=>pifs_nil)
   hG))) hL),?_⟩
 intro H1 m p M pre a1 a2 a3 a4 a5 a6 hM hS hp hpl kk
 obtain ⟨us,ha,hus⟩:=id hM.kp
 have hul:=hus.length
 rw [List.length_map] at hul
 have hb : (" " : Str).length = 1:=by decide +kernel
 have hk5 : ("keep " : Str).length = 5:=by decide +kernel
 have hg5 : ("gate " : Str).length = 5:=by decide +kernel
 have l2:=hS.l2
 have l3:=hS.l3
 refine ⟨_,rfl,_,rfl,m,.ref a2,rfl,DGet.k (k:=.inr "keepers") hM.top,a2,rfl,⟨_,SqL.of ha⟩,fun D hD=>?_⟩
 refine lc_by M.keepers.length (fun j acc σ' H7=>acc = ((M.keepers.take j).map rowKp).map V.str ∧ (∃ u v,σ' = [u,v]) ∧ Same H1 H7) ⟨rfl,⟨none,none,rfl⟩,Same.upd_new hD⟩ upd_same ?_ ?_
 · rintro acc σ' H2 hDD ⟨rfl,_,s2⟩
   rw [List.take_length] at hDD
   refine ⟨⟨_,SqL.of (s2 _ _ ha),by rw [List.length_map,hul]; exact Nat.le_refl _⟩,p,D,_,_,rfl,rfl,s2 _ _ hp,hDD,?_,fun r hr'=>?_⟩
   · rw [List.length_map,List.length_map,List.length_map]
     exact small' (by omega)
   have s3 : Same H2 (upd H2 r (.lst (pre.map V.str ++ (M.keepers.map rowKp).map V.str))):=Same.upd_new hr'
   have q3 : (upd H2 r (.lst (pre.map V.str ++ (M.keepers.map rowKp).map V.str))) r = some (.lst ((pre ++ M.keepers.map rowKp).map V.str)):=by rw [upd_same,List.map_append]
   generalize upd H2 r (.lst (pre.map V.str ++ (M.keepers.map rowKp).map V.str)) = H3 at s3 q3 ⊢
   have s13:=s2.trans s3
   have hM3:=hM.same s13
   obtain ⟨gs,hga,hgs⟩:=id hM3.gt
   have hgl:=hgs.length
   rw [List.length_map] at hgl
   refine ⟨_,rfl,_,rfl,m,.ref a3,rfl,DGet.k (k:=.inr "gates") hM3.top,a3,rfl,⟨_,SqL.of hga⟩,fun D2 hD2=>?_⟩
   refine lc_by M.gates.length (fun j acc σ' H7=>acc = ((M.gates.take j).map rowGt).map V.str ∧ (∃ u,σ' = [u]) ∧ Same H3 H7) ⟨rfl,⟨none,rfl⟩,Same.upd_new hD2⟩ upd_same ?_ ?_
   · rintro acc σ' H4 hDD4 ⟨rfl,_,s4⟩
     rw [List.take_length] at hDD4
     refine ⟨⟨_,SqL.of (s4 _ _ hga),by rw [List.length_map,hgl]; exact Nat.le_refl _⟩,r,D2,_,_,rfl,rfl,s4 _ _ q3,hDD4,?_,fun r2 hr2=>?_⟩
     · simp only [List.length_map,List.length_append]
       exact small' (by omega)
     have s5 : Same H4 (upd H4 r2 (.lst ((pre ++ M.keepers.map rowKp).map V.str ++ (M.gates.map rowGt).map V.str))):=Same.upd_new hr2
     have q5 : (upd H4 r2 (.lst ((pre ++ M.keepers.map rowKp).map V.str ++ (M.gates.map rowGt).map V.str))) r2 = some (.lst ((pre ++ M.keepers.map rowKp ++ M.gates.map rowGt).map V.str)):=by rw [upd_same,List.map_append (l₁:=pre ++ M.keepers.map rowKp)]
     generalize upd H4 r2 (.lst ((pre ++ M.keepers.map rowKp).map V.str ++ (M.gates.map rowGt).map V.str)) = H5 at s5 q5 ⊢
     have s15:=(s13.trans s4).trans s5
     exact rL H5 m r2 M _ a1 a2 a3 a4 a5 a6 (hM.same s15) hS q5 (by simp only [List.length_map,List.length_append]; omega) fun p' H' hn s' hp'=>kk p' H' (s15.free hn) (s15.trans s') hp'
   · rintro j acc σ' H7 hj hDD7 ⟨rfl,⟨u,rfl⟩,s7⟩
     have hrj : M.gates[j]? = some M.gates[j]:=List.getElem?_eq_getElem hj
     obtain ⟨T,hT,hTt⟩:=paired_at hgs (i:=j) (b:=rowG M.gates[j]) (by rw [List.getElem?_map,hrj]; rfl)
     have ej : (gs.map V.ref)[j]? = some (.ref T):=by rw [List.getElem?_map,hT]; rfl
     refine ⟨⟨_,_,SqL.of (s7 _ _ hga),ej⟩,?_⟩
     rintro x' H' ⟨rfl,hall⟩
     have ex:=hall _ (SqL.of (s7 _ _ hga))
     rw [ej] at ex
     cases ex
     refine gName_yes ?_
     obtain ⟨h1,h2,h3⟩:=hS.gt _ (List.getElem_mem hj)
     refine rG _ T _ _ _ _ (s7 _ _ hTt) h1 h2 h3 fun L hLn=>?_
     have nDL : D2 ≠ L:=ne_of_none hDD7 hLn
     refine ⟨_,(by rw [upd_ne nDL]; exact hDD7),?_,lcW_next hj upd_same ⟨?_,⟨_,rfl⟩,?_⟩⟩
     · rw [List.length_map,List.length_map,List.length_take]
       exact small (by omega)
     · rw [take_next rowGt hrj,List.map_append]
       rfl
     · intro y o hy
       rw [upd_ne (ne_of_none hy hD2),upd_ne (ne_of_none (s7 y o hy) hLn)]
       exact s7 y o hy
 · rintro j acc σ' H7 hj hDD7 ⟨rfl,⟨u,v,rfl⟩,s7⟩
   have hrj : M.keepers[j]? = some M.keepers[j]:=List.getElem?_eq_getElem hj
   obtain ⟨T,hT,hTt⟩:=paired_at hus (i:=j) (b:=rowK M.keepers[j]) (by rw [List.getElem?_map,hrj]; rfl)
   have ej : (us.map V.ref)[j]? = some (.ref T):=by rw [List.getElem?_map,hT]; rfl
   refine ⟨⟨_,_,SqL.of (s7 _ _ ha),ej⟩,?_⟩
   rintro x' H' ⟨rfl,hall⟩
   have ex:=hall _ (SqL.of (s7 _ _ ha))
   rw [ej] at ex
   cases ex
   obtain ⟨h1,h2⟩:=hS.kp _ (List.getElem_mem hj)
   refine ⟨T,_,rfl,SqT.of (s7 _ _ hTt),rfl,_,_,rfl,_,_,rfl,rfl,yes_if ?_⟩
   refine ⟨_,rfl, "keep ",_,rfl,rfl,line8 (by omega), "keep " ++ M.keepers[j].1, " ",rfl,rfl,line8 (by rw [appLen]; omega),_,rfl,M.keepers[j].2,rfl,h2,fun H8 s8=>?_⟩
   refine ⟨"keep " ++ M.keepers[j].1 ++ " ",_,rfl,rfl,line8 (by rw [appLen,appLen,firstS_len]; omega),_,s8 _ _ hDD7,?_,lcW_next hj upd_same ⟨?_,⟨_,_,rfl⟩,?_⟩⟩
   · rw [List.length_map,List.length_map,List.length_take]
     exact small (by omega)
   · rw [take_next rowKp hrj,List.map_append]
     rfl
   · intro y o hy
     rw [upd_ne (ne_of_none hy hD)]
     exact s8 y o (s7 y o hy)
theorem ok_rows {f fT : Addr} {fd dT : FuncData} (F : Fun K "_law_rows" "_law_rows" sRows f fd) (GT : FnOk P w K mg base CX0 1 fT dT ["_law_first"] spFText) (mT : mg "_law_first_text" = some (.ref fT)) (kT : PySem.W.keepIn K (.ref fT) = true) (bT : Binds K dT ["_law_first"] []) (O : Own2 mg) : FnOk P w K mg base CX0 2 f fd ["_law_m"] spRows:=by
 refine F.ok scRows (fun vs H Q E h=>?_) (fun cdv A outer s H vs Q E hr h=>?_)
 · obtain ⟨m,M,a1,a2,a3,a4,a5,a6,rfl,_⟩:=h
   rfl
 · obtain ⟨m,M,a1,a2,a3,a4,a5,a6,rfl,hM,hS,kk⟩:=h
   have hu:=hu_of hr
   obtain ⟨tL,hL,rL⟩:=rows_mid GT mT kT bT O (outer:=outer) (H:=H) (E:=E) (Q:=Q) hr
   refine ⟨_,pss_cons (ps_lc (i:=1) (N:=["_law_name"]) (js:=[none]) scRows.nd rfl rfl (by kernel_rfl) rfl (pi_list (pe_dget hu (pv 0) pe_str (fun _ _=>rfl))) (fun _ _ _ _ _ _=>pg_name (i:=0) ndN1 rfl (Or.inl rfl) (.inr rfl)) (fun _ _ _ _ _ _=>pifs_nil) (fun _ _ _ _ _ _=>pe_op op_add_str pe_str (pv 0))) hL,?_⟩
   have hs7 : ("switch " : Str).length = 7:=by decide +kernel
   have l1:=hS.l1
   refine ⟨_,rfl,m,.ref a1,rfl,DGet.k (k:=.inr "switches") hM.top,a1,rfl,⟨_,SqL.of hM.sw⟩,fun D hD=>?_⟩
   refine lc_by M.switches.length (fun j acc σ' H7=>acc = ((M.switches.take j).map rowSw).map V.str ∧ (∃ u,σ' = [u]) ∧ Same H H7) ⟨rfl,⟨none,rfl⟩,Same.upd_new hD⟩ upd_same ?_ ?_
   · rintro acc σ' H2 hDD ⟨rfl,_,s2⟩
     rw [List.take_length] at hDD
     refine ⟨⟨_,SqL.of (s2 _ _ hM.sw),by rw [List.length_map]; exact Nat.le_refl _⟩,?_⟩
     exact rL H2 m D M _ a1 a2 a3 a4 a5 a6 (hM.same s2) hS hDD (by rw [List.length_map]; exact l1) fun p' H' hn s' hp'=>kk p' H' (s2.free hn) (s2.trans s') hp'
   · rintro j acc σ' H7 hj hDD7 ⟨rfl,⟨u,rfl⟩,s7⟩
     have hrj : M.switches[j]? = some M.switches[j]:=List.getElem?_eq_getElem hj
     have ej : (M.switches.map V.str)[j]? = some (.str M.switches[j]):=by rw [List.getElem?_map,hrj]; rfl
     refine ⟨⟨_,_,SqL.of (s7 _ _ hM.sw),ej⟩,?_⟩
     rintro x' H' ⟨rfl,hall⟩
     have ex:=hall _ (SqL.of (s7 _ _ hM.sw))
     rw [ej] at ex
     cases ex
     refine gName_yes ?_
     have h1:=hS.sw _ (List.getElem_mem hj)
     refine ⟨_,rfl, "switch ",_,rfl,rfl,line8 (by omega),_,hDD7,?_,lcW_next hj upd_same ⟨?_,⟨_,rfl⟩,?_⟩⟩
     · rw [List.length_map,List.length_map,List.length_take]
       exact small (by omega)
     · rw [take_next rowSw hrj,List.map_append]
       rfl
     · intro y o hy
       rw [upd_ne (ne_of_none hy hD)]
       exact s7 y o hy
end
end Gen
namespace Gen
open PySem L2
theorem LitF.len {z : Str} (h : LitF z) : 1 ≤ z.length ∧ z.length ≤ 9:=by
 rcases h with rfl | rfl | h | ⟨x,hx,rfl⟩
 · decide +kernel
 · decide +kernel
 · refine ⟨?_,Nat.le_trans h.len (by decide)⟩
   have:=h.1
   simpa [Str.length] using this
 · have e:=appLen "~" x
   have t1 : ("~" : Str).length = 1:=by decide +kernel
   have:=hx.len
   omega
end Gen
namespace Gen
open PySem L2
def namesOf (M : Mach) : List Str:=M.switches ++ M.keepers.map (·.1) ++ M.gates.map (·.1)
theorem some_kvP (n : Str) : ∀ l : List (Str × V),(valV (kvP l) (.inr n)).isSome = decide (n ∈ l.map (·.1))
 | []=>by simp [kvP,valV]
 | r :: l=>by
  have ih:=some_kvP n l
  by_cases e : r.1 = n
  · have h1 : valV (kvP (r :: l)) (.inr n) = some r.2:=valV_pos (p:=((.inr r.1 : Key),r.2)) (by rw [e])
    rw [h1]
    simp [e]
  · have h1 : valV (kvP (r :: l)) (.inr n) = valV (kvP l) (.inr n):=valV_neg (p:=((.inr r.1 : Key),r.2)) (fun q=>e (Sum.inr.inj q))
    rw [h1,ih]
    have : ¬ n = r.1:=fun q=>e q.symm
    simp [this]
theorem kvS_P (l : List (Str × Str)) : kvS l = kvP (l.map fun r=>(r.1,V.str r.2)):=by unfold kvS kvP; rw [List.map_map]; rfl
theorem none_kvS {n : Str} {l : List (Str × Str)} (h : n ∉ l.map (·.1)) : valV (kvS l) (.inr n) = none:=by
 have:=some_kvP n (l.map fun r=>(r.1,V.str r.2))
 rw [← kvS_P,List.map_map,decide_eq_false (by simpa using h)] at this
 cases e : valV (kvS l) (.inr n) with
 | none=>rfl
 | some v=>rw [e] at this; cases this
theorem told_iff (M : Mach) (n : Str) : told M n = decide (n ∈ namesOf M):=by
 unfold told toldB
 rw [inV_str,some_kvP]
 have e : (M.gates.any fun r=>decide (r.1 = n)) = decide (n ∈ M.gates.map (·.1)):=by
  rw [Bool.eq_iff_iff,List.any_eq_true,decide_eq_true_eq,List.mem_map]
  constructor
  · rintro ⟨r,h1,h2⟩; exact ⟨r,h1,of_decide_eq_true h2⟩
  · rintro ⟨r,h1,h2⟩; exact ⟨r,h1,decide_eq_true h2⟩
 rw [e,Bool.eq_iff_iff]
 simp only [Bool.or_eq_true,decide_eq_true_eq,namesOf,List.mem_append]
theorem told_not {M : Mach} {n : Str} (h : n ∉ namesOf M) : told M n = false:=by rw [told_iff]; exact decide_eq_false h
theorem Lit.form {names : List Str} {z : Str} (h : Lit names z) (hn : ∀ x ∈ names,NameS x) : LitF z:=by
 rcases h with h | h | ⟨x,hx,h | h⟩
 · exact .inl h
 · exact .inr (.inl h)
 · exact .inr (.inr (.inl (h ▸ hn x hx)))
 · exact .inr (.inr (.inr ⟨x,hn x hx,h⟩))
theorem Lit.known {M : Mach} {names : List Str} {z : Str} (h : Lit names z) (hn : ∀ x ∈ names,NameS x) (hs : ∀ x ∈ names,x ∈ namesOf M) : Known M z:=by
 refine ⟨(h.form hn).len.2,?_⟩
 rcases h with h | h | ⟨x,hx,h | h⟩
 · exact .inl h
 · exact .inr (.inl h)
 · refine .inr (.inr ?_)
   rw [h,bareS,if_neg (name_first (hn x hx)),told_iff]
   exact decide_eq_true (hs x hx)
 · refine .inr (.inr ?_)
   have e2 : bareS ("~" ++ x) = x:=by
    rw [bareS,tilde_cps,if_pos (show (126 :: x.cps.toList)[0]? = some 126 from rfl)]
    exact (str_eta x).symm
   rw [h,e2,told_iff]
   exact decide_eq_true (hs x hx)
theorem Reads.snoc {M M1 M2 : Mach} {ws : List Str} {rs : List (List Str)} (h : Reads M rs M1) (h2 : RowTo M1 ws M2) : Reads M (rs ++ [ws]) M2:=by
 induction h with
 | nil=>exact .row h2 .nil
 | blank _ ih=>exact .blank (ih h2)
 | row r _ ih=>exact .row r (ih h2)
theorem Reads.append {M M1 M2 : Mach} {rs rs' : List (List Str)} (h : Reads M rs M1) (h2 : Reads M1 rs' M2) : Reads M (rs ++ rs') M2:=by
 induction h with
 | nil=>exact h2
 | blank _ ih=>exact .blank (ih h2)
 | row r _ ih=>exact .row r (ih h2)
theorem seg {α : Type} (L : List α) (wf : α → List Str) (mk : List α → Mach) (step : ∀ (i : Nat) (h : i < L.length),RowTo (mk (L.take i)) (wf L[i]) (mk (L.take i ++ [L[i]]))) : Reads (mk []) (L.map wf) (mk L):=by
 have all : ∀ k,k ≤ L.length → Reads (mk []) ((L.take k).map wf) (mk (L.take k)):=by
  intro k
  induction k with
  | zero=>intro _; exact .nil
  | succ k ih =>
   intro hk
   have h1:=(ih (by omega)).snoc (step k (by omega))
   have e : L.take (k + 1) = L.take k ++ [L[k]]:=by rw [List.take_succ,List.getElem?_eq_getElem (by omega)]; rfl
   rw [e,List.map_append]
   exact h1
 have:=all L.length (Nat.le_refl _)
 rwa [List.take_length] at this
theorem not_take {α : Type} {l pre post : List α} {i : Nat} (h : (pre ++ l ++ post).Nodup) (hi : i < l.length) : l[i] ∉ pre ++ l.take i:=by
 have e : l = l.take i ++ l[i] :: l.drop (i + 1):=by rw [← List.drop_eq_getElem_cons hi,List.take_append_drop]
 have h1 : (pre ++ l).Nodup:=(List.nodup_append.mp h).1
 have h2 : ((pre ++ l.take i) ++ l[i] :: l.drop (i + 1)).Nodup:=by rw [List.append_assoc,← e]; exact h1
 intro hm
 exact (List.nodup_append.mp h2).2.2 _ hm _ List.mem_cons_self rfl
def wSw (n : Str) : List Str:=["switch",n]
def wKp (r : Str × V) : List Str:=["keep",r.1,firstS r.2]
def wGt (r : Str × Str × Str) : List Str:=["gate",r.1,r.2.1,r.2.2]
def wW (word : Str) (r : Str × Str) : List Str:=[word,r.1,r.2]
def wordsM (M : Mach) : List (List Str):=M.switches.map wSw ++ M.keepers.map wKp ++ M.gates.map wGt ++ (M.nexts.map (wW "next") ++ (M.nevers.map (wW "never") ++ M.somes.map (wW "some")))
theorem reads_all {M : Mach} {names : List Str} (h : MachOk M names) (l1 : M.switches.length ≤ 12) (l2 : M.keepers.length ≤ 16) (l3 : M.gates.length ≤ 60) (l4 : M.nexts.length ≤ 16) (l5 : M.nevers.length ≤ 4) (l6 : M.somes.length ≤ 4) : Reads mach0 (wordsM M) M:=by
 have hnd:=h.nd
 rw [h.all] at hnd
 have hnm : ∀ z,z ∈ M.switches ++ M.keepers.map (·.1) ++ M.gates.map (·.1) → NameS z:=fun z hz=>h.nm z (by rw [h.all]; exact hz)
 obtain ⟨sw,kp,gt,nx,nv,sm⟩:=M
 simp only at l1 l2 l3 l4 l5 l6 hnd hnm
 have r1 : Reads ⟨[],[],[],[],[],[]⟩ (sw.map wSw) ⟨sw,[],[],[],[],[]⟩:=by
  refine seg sw wSw (fun l=>⟨l,[],[],[],[],[]⟩) fun i hi=>?_
  refine RowTo.sw (M:=⟨sw.take i,[],[],[],[],[]⟩) (hnm _ (by simp)) (told_not ?_) (by show (sw.take i).length < 12; rw [List.length_take]; omega)
  have:=not_take (pre:=[]) (post:=kp.map (·.1) ++ gt.map (·.1)) (by simpa using hnd) hi
  simpa [namesOf] using this
 have r2 : Reads ⟨sw,[],[],[],[],[]⟩ (kp.map wKp) ⟨sw,kp,[],[],[],[]⟩:=by
  refine seg kp wKp (fun l=>⟨sw,l,[],[],[],[]⟩) fun i hi=>?_
  have hf:=h.first kp[i] (List.getElem_mem hi)
  refine RowTo.kp (M:=⟨sw,kp.take i,[],[],[],[]⟩) (v:=kp[i].2) (hnm _ (by simp only [List.mem_append,List.mem_map]; exact .inl (.inr ⟨kp[i],List.getElem_mem hi,rfl⟩))) ?_ (told_not ?_) (by show (kp.take i).length < 16; rw [List.length_take]; omega)
  · rcases hf with e | e | e
    · rw [e,firstS_0]; exact .inl ⟨rfl,rfl⟩
    · rw [e,firstS_1]; exact .inr (.inl ⟨rfl,rfl⟩)
    · rw [e,firstS_n]; exact .inr (.inr ⟨rfl,rfl⟩)
  · have:=not_take (l:=kp.map (·.1)) (pre:=sw) (post:=gt.map (·.1)) hnd (i:=i) (by rw [List.length_map]; exact hi)
    rw [List.getElem_map,← List.map_take] at this
    simpa [namesOf] using this
 have r3 : Reads ⟨sw,kp,[],[],[],[]⟩ (gt.map wGt) ⟨sw,kp,gt,[],[],[]⟩:=by
  refine seg gt wGt (fun l=>⟨sw,kp,l,[],[],[]⟩) fun i hi=>?_
  obtain ⟨g1,g2⟩:=h.gl i gt[i] (List.getElem?_eq_getElem hi)
  have hn1 : ∀ x ∈ sw ++ kp.map (·.1) ++ (gt.take i).map (·.1),NameS x:=fun x hx=>hnm x (by
   rcases List.mem_append.mp hx with hx | hx
   · exact List.mem_append_left _ hx
   · obtain ⟨r,hr,e⟩:=List.mem_map.mp hx
     exact List.mem_append_right _ (List.mem_map.mpr ⟨r,List.mem_of_mem_take hr,e⟩))
  refine RowTo.gt (M:=⟨sw,kp,gt.take i,[],[],[]⟩) (hnm _ (by simp only [List.mem_append,List.mem_map]; exact .inr ⟨gt[i],List.getElem_mem hi,rfl⟩)) (g1.form hn1) (g2.form hn1) (g1.known hn1 fun x hx=>hx) (g2.known hn1 fun x hx=>hx) (told_not ?_) (by show (gt.take i).length < 60; rw [List.length_take]; omega)
  have:=not_take (l:=gt.map (·.1)) (pre:=sw ++ kp.map (·.1)) (post:=[]) (by simpa using hnd) (i:=i) (by rw [List.length_map]; exact hi)
  rw [List.getElem_map,← List.map_take] at this
  exact this
 have hN : ∀ x ∈ names,x ∈ sw ++ kp.map (·.1) ++ gt.map (·.1):=fun x hx=>by rw [h.all] at hx; exact hx
 have r4 : Reads ⟨sw,kp,gt,[],[],[]⟩ (nx.map (wW "next")) ⟨sw,kp,gt,nx,[],[]⟩:=by
  refine seg nx (wW "next") (fun l=>⟨sw,kp,gt,l,[],[]⟩) fun i hi=>?_
  have hk:=h.nxk nx[i] (List.getElem_mem hi)
  have hl:=h.nxl nx[i] (List.getElem_mem hi)
  refine RowTo.nx (M:=⟨sw,kp,gt,nx.take i,[],[]⟩) (hnm _ (List.mem_append_left _ (List.mem_append_right _ hk))) (hl.form h.nm) (hl.known h.nm hN) ?_ (none_kvS (key_new hi h.nxd)) (by show (nx.take i).length < 100; rw [List.length_take]; omega)
  rw [some_kvP]
  exact decide_eq_true hk
 have r5 : Reads ⟨sw,kp,gt,nx,[],[]⟩ (nv.map (wW "never")) ⟨sw,kp,gt,nx,nv,[]⟩:=by
  refine seg nv (wW "never") (fun l=>⟨sw,kp,gt,nx,l,[]⟩) fun i hi=>?_
  have hl:=h.nvw.lit nv[i] (List.getElem_mem hi)
  exact RowTo.nv (M:=⟨sw,kp,gt,nx,nv.take i,[]⟩) (h.nvw.nm nv[i] (List.getElem_mem hi)) (hl.form h.nm) (hl.known h.nm hN) (none_kvS (key_new hi h.nvw.nd)) (none_kvS (by simp)) (by show (nv.take i).length + 0 < 8; rw [List.length_take]; omega)
 have r6 : Reads ⟨sw,kp,gt,nx,nv,[]⟩ (sm.map (wW "some")) ⟨sw,kp,gt,nx,nv,sm⟩:=by
  refine seg sm (wW "some") (fun l=>⟨sw,kp,gt,nx,nv,l⟩) fun i hi=>?_
  have hl:=h.smw.lit sm[i] (List.getElem_mem hi)
  exact RowTo.sm (M:=⟨sw,kp,gt,nx,nv,sm.take i⟩) (h.smw.nm sm[i] (List.getElem_mem hi)) (hl.form h.nm) (hl.known h.nm hN) (none_kvS (h.smw.ut sm[i] (List.getElem_mem hi))) (none_kvS (key_new hi h.smw.nd)) (by show nv.length + (sm.take i).length < 8; rw [List.length_take]; omega)
 unfold wordsM
 exact ((r1.append r2).append r3).append (r4.append (r5.append r6))
end Gen
namespace Gen
open PySem L2
def Clean (z : Str) : Prop:=z ≠ "" ∧ ∀ c ∈ z.cps.toList,c ≠ 10 ∧ c ≠ 32
theorem ne_empty {z : Str} (h : 1 ≤ z.length) : z ≠ "":=fun e=>by
 rw [e] at h
 exact absurd h (by decide +kernel)
theorem NameS.clean {z : Str} (h : NameS z) : Clean z:=by
 refine ⟨ne_empty ?_,fun c hc=>?_⟩
 · have:=h.1
   simpa [Str.length] using this
 · have:=mem_letters.mp (h.2.2 c hc)
   omega
theorem LitF.clean {z : Str} (h : LitF z) : Clean z:=by
 refine ⟨ne_empty h.len.1,fun c hc=>?_⟩
 rcases h with rfl | rfl | h | ⟨x,hx,rfl⟩
 · have e : ("0" : Str).cps.toList = [48]:=by decide +kernel
   rw [e] at hc
   have:=List.mem_singleton.mp hc
   omega
 · have e : ("1" : Str).cps.toList = [49]:=by decide +kernel
   rw [e] at hc
   have:=List.mem_singleton.mp hc
   omega
 · exact h.clean.2 c hc
 · rw [tilde_cps] at hc
   rcases List.mem_cons.mp hc with rfl | hc
   · decide
   · exact hx.clean.2 c hc
theorem clean_of {z : Str} (h : (z.cps.toList ≠ [] ∧ z.cps.toList.all fun c=>c != 10 && c != 32) ) : Clean z:=by
 refine ⟨fun e=>h.1 (by rw [e]; decide +kernel),fun c hc=>?_⟩
 have:=List.all_eq_true.mp h.2 c hc
 simpa using this
theorem clean_switch : Clean "switch":=clean_of (by decide +kernel)
theorem clean_keep : Clean "keep":=clean_of (by decide +kernel)
theorem clean_gate : Clean "gate":=clean_of (by decide +kernel)
theorem clean_next : Clean "next":=clean_of (by decide +kernel)
theorem clean_never : Clean "never":=clean_of (by decide +kernel)
theorem clean_some : Clean "some":=clean_of (by decide +kernel)
theorem clean_first (v : V) : Clean (firstS v):=by
 unfold firstS
 split
 · exact clean_of (by decide +kernel)
 · split <;> exact clean_of (by decide +kernel)
theorem words_join {ws : List Str} (h0 : ws ≠ []) (h : ∀ x ∈ ws,Clean x) : wordsOf (Txt.join " " ws) = ws:=by
 unfold wordsOf
 rw [sp_str,split_join (by decide) h0 fun z hz hc=>((h z hz).2 32 hc).2 rfl]
 refine List.filter_eq_self.mpr fun x hx=>?_
 simpa using (h x hx).1
theorem join_no {ws : List Str} (h : ∀ x ∈ ws,Clean x) : ∀ c ∈ (Txt.join " " ws).cps.toList,c ≠ 10:=by
 rw [sp_str,join_seam]
 intro c hc
 have : ∀ (l : List (List Nat)),(∀ x ∈ l,∀ c ∈ x,c ≠ 10) → ∀ c ∈ seam 32 l,c ≠ 10:=by
  intro l
  induction l with
  | nil=>intro _ c hc; cases hc
  | cons a r ih =>
   intro hl c hc
   cases r with
   | nil=>exact hl a List.mem_cons_self c (by simpa [seam] using hc)
   | cons b r =>
    simp only [seam,List.mem_append,List.mem_cons] at hc
    rcases hc with hc | hc | hc
    · exact hl a List.mem_cons_self c hc
    · omega
    · exact ih (fun x hx=>hl x (List.mem_cons_of_mem _ hx)) c hc
 refine this _ (fun x hx c hc=>?_) c hc
 obtain ⟨z,hz,rfl⟩:=List.mem_map.mp hx
 exact ((h z hz).2 c hc).1
theorem seam_len (c : Nat) : ∀ l : List (List Nat),(seam c l).length ≤ (l.map (·.length)).sum + l.length
 | []=>by simp [seam]
 | [a]=>by simp [seam]
 | a :: b :: r=>by
  have ih:=seam_len c (b :: r)
  simp only [seam,List.length_append,List.length_cons,List.map_cons,List.sum_cons] at ih ⊢
  omega
theorem join_len (c : Nat) (ws : List Str) : (Txt.join ⟨#[c]⟩ ws).length ≤ (ws.map (·.length)).sum + ws.length:=by
 have l : ∀ z : Str,z.length = z.cps.toList.length:=fun z=>by simp [Str.length]
 rw [l,join_seam]
 refine Nat.le_trans (seam_len c _) ?_
 rw [List.map_map,List.length_map]
 have e : (List.length ∘ fun z : Str=>z.cps.toList) = fun z : Str=>z.length:=by funext z; exact (l z).symm
 have e2 : (fun z : List Nat=>z.length) ∘ (fun z : Str=>z.cps.toList) = fun z : Str=>z.length:=by funext z; exact (l z).symm
 rw [e2]
 exact Nat.le_refl _
theorem sum_le {l : List Str} {k : Nat} (h : ∀ x ∈ l,x.length ≤ k) : (l.map (·.length)).sum ≤ k * l.length:=by
 induction l with
 | nil=>simp
 | cons a r ih =>
  have h1:=h a List.mem_cons_self
  have h2:=ih fun x hx=>h x (List.mem_cons_of_mem _ hx)
  rw [List.map_cons,List.sum_cons,List.length_cons,Nat.mul_add,Nat.mul_one]
  omega
theorem eq_sw (n : Str) : rowSw n = Txt.join " " (wSw n):=by
 have e : ("switch " : Str).cps.toList = ("switch" : Str).cps.toList ++ [32]:=by decide +kernel
 refine str_ext ?_
 rw [rowSw,wSw,app_cps,sp_str,join_seam,e]
 simp [seam]
theorem eq_kp (r : Str × V) : rowKp r = Txt.join " " (wKp r):=by
 have e : ("keep " : Str).cps.toList = ("keep" : Str).cps.toList ++ [32]:=by decide +kernel
 have b : (" " : Str).cps.toList = [32]:=by decide +kernel
 refine str_ext ?_
 rw [rowKp,wKp,app_cps,app_cps,app_cps,e,b]
 rw [sp_str,join_seam]
 simp [seam]
theorem eq_gt (r : Str × Str × Str) : rowGt r = Txt.join " " (wGt r):=by
 have e : ("gate " : Str).cps.toList = ("gate" : Str).cps.toList ++ [32]:=by decide +kernel
 refine str_ext ?_
 rw [rowGt,wGt,app_cps,e,sp_str,join_seam,join_seam]
 simp [seam]
theorem eq_w (word : Str) (r : Str × Str) : rowW word r = Txt.join " " (wW word r):=by
 have b : (" " : Str).cps.toList = [32]:=by decide +kernel
 refine str_ext ?_
 rw [rowW,wW,app_cps,app_cps,app_cps,app_cps,b]
 rw [sp_str,join_seam]
 simp [seam]
theorem rows_eq (M : Mach) : rowsOf M = (wordsM M).map (Txt.join " "):=by
 have f1 : rowSw = fun n=>Txt.join " " (wSw n):=funext eq_sw
 have f2 : rowKp = fun n=>Txt.join " " (wKp n):=funext eq_kp
 have f3 : rowGt = fun n=>Txt.join " " (wGt n):=funext eq_gt
 have f4 : ∀ w,rowW w = fun n=>Txt.join " " (wW w n):=fun w=>funext (eq_w w)
 unfold rowsOf wordsM
 rw [f1,f2,f3,f4,f4,f4]
 simp only [List.map_append,List.map_map]
 rfl
theorem words_clean {M : Mach} {names : List Str} (h : MachOk M names) : ∀ ws ∈ wordsM M,ws ≠ [] ∧ (∀ x ∈ ws,Clean x ∧ x.length ≤ 9) ∧ ws.length ≤ 4:=by
 have hN : ∀ z,NameS z → Clean z ∧ z.length ≤ 9:=fun z hz=>⟨hz.clean,Nat.le_trans hz.len (by decide)⟩
 have hL : ∀ z,LitF z → Clean z ∧ z.length ≤ 9:=fun z hz=>⟨hz.clean,hz.len.2⟩
 have hnm : ∀ z,z ∈ M.switches ++ M.keepers.map (·.1) ++ M.gates.map (·.1) → NameS z:=fun z hz=>h.nm z (by rw [h.all]; exact hz)
 intro ws hw
 unfold wordsM at hw
 simp only [List.mem_append,List.mem_map] at hw
 rcases hw with ((⟨n,hn,rfl⟩ | ⟨r,hr,rfl⟩) | ⟨r,hr,rfl⟩) | ⟨r,hr,rfl⟩ | ⟨r,hr,rfl⟩ | ⟨r,hr,rfl⟩
 · refine ⟨by simp [wSw],fun x hx=>?_,by simp [wSw]⟩
   simp only [wSw,List.mem_cons,List.not_mem_nil,or_false] at hx
   rcases hx with rfl | rfl
   · exact ⟨clean_switch,by decide +kernel⟩
   · exact hN _ (hnm _ (List.mem_append_left _ (List.mem_append_left _ hn)))
 · refine ⟨by simp [wKp],fun x hx=>?_,by simp [wKp]⟩
   simp only [wKp,List.mem_cons,List.not_mem_nil,or_false] at hx
   rcases hx with rfl | rfl | rfl
   · exact ⟨clean_keep,by decide +kernel⟩
   · exact hN _ (hnm _ (List.mem_append_left _ (List.mem_append_right _ (List.mem_map.mpr ⟨r,hr,rfl⟩))))
   · exact ⟨clean_first _,by rw [firstS_len]; decide⟩
 · refine ⟨by simp [wGt],fun x hx=>?_,by simp [wGt]⟩
   obtain ⟨i,hi,rfl⟩:=List.getElem_of_mem hr
   obtain ⟨g1,g2⟩:=h.gl i _ (List.getElem?_eq_getElem hi)
   have hn1 : ∀ x ∈ M.switches ++ M.keepers.map (·.1) ++ (M.gates.take i).map (·.1),NameS x:=fun x hx=>hnm x (by
    rcases List.mem_append.mp hx with hx | hx
    · exact List.mem_append_left _ hx
    · obtain ⟨r,hr,e⟩:=List.mem_map.mp hx
      exact List.mem_append_right _ (List.mem_map.mpr ⟨r,List.mem_of_mem_take hr,e⟩))
   simp only [wGt,List.mem_cons,List.not_mem_nil,or_false] at hx
   rcases hx with rfl | rfl | rfl | rfl
   · exact ⟨clean_gate,by decide +kernel⟩
   · exact hN _ (hnm _ (List.mem_append_right _ (List.mem_map.mpr ⟨_,hr,rfl⟩)))
   · exact hL _ (g1.form hn1)
   · exact hL _ (g2.form hn1)
 · refine ⟨by simp [wW],fun x hx=>?_,by simp [wW]⟩
   simp only [wW,List.mem_cons,List.not_mem_nil,or_false] at hx
   rcases hx with rfl | rfl | rfl
   · exact ⟨clean_next,by decide +kernel⟩
   · exact hN _ (hnm _ (List.mem_append_left _ (List.mem_append_right _ (h.nxk r hr))))
   · exact hL _ ((h.nxl r hr).form h.nm)
 · refine ⟨by simp [wW],fun x hx=>?_,by simp [wW]⟩
   simp only [wW,List.mem_cons,List.not_mem_nil,or_false] at hx
   rcases hx with rfl | rfl | rfl
   · exact ⟨clean_never,by decide +kernel⟩
   · exact hN _ (h.nvw.nm r hr)
   · exact hL _ ((h.nvw.lit r hr).form h.nm)
 · refine ⟨by simp [wW],fun x hx=>?_,by simp [wW]⟩
   simp only [wW,List.mem_cons,List.not_mem_nil,or_false] at hx
   rcases hx with rfl | rfl | rfl
   · exact ⟨clean_some,by decide +kernel⟩
   · exact hN _ (h.smw.nm r hr)
   · exact hL _ ((h.smw.lit r hr).form h.nm)
theorem row_len {M : Mach} {names : List Str} (h : MachOk M names) : ∀ r ∈ rowsOf M,r.length ≤ 40:=by
 intro r hr
 rw [rows_eq] at hr
 obtain ⟨ws,hw,rfl⟩:=List.mem_map.mp hr
 obtain ⟨_,h2,h3⟩:=words_clean h ws hw
 rw [sp_str]
 have h4:=join_len 32 ws
 have h5:=sum_le (l:=ws) (k:=9) fun x hx=>(h2 x hx).2
 omega
theorem rows_split {M : Mach} {names : List Str} (h : MachOk M names) (h0 : 1 ≤ M.nevers.length) : Txt.split (Txt.join "\n" (rowsOf M)) "\n" = rowsOf M ∧ (rowsOf M).map wordsOf = wordsM M:=by
 constructor
 · rw [nl_str]
   refine split_join (by decide) ?_ fun r hr hc=>?_
   · intro e
     have:=congrArg List.length e
     unfold rowsOf at this
     simp only [List.length_append,List.length_map,List.length_nil] at this
     omega
   · rw [rows_eq] at hr
     obtain ⟨ws,hw,rfl⟩:=List.mem_map.mp hr
     exact join_no (fun x hx=>((words_clean h ws hw).2.1 x hx).1) 10 hc rfl
 · rw [rows_eq,List.map_map]
   refine (List.map_congr_left fun ws hw=>?_).trans (List.map_id _)
   obtain ⟨h1,h2,_⟩:=words_clean h ws hw
   exact words_join h1 fun x hx=>(h2 x hx).1
theorem MachOk.short {M : Mach} {names : List Str} (h : MachOk M names) (l1 : M.switches.length ≤ 12) (l2 : M.keepers.length ≤ 16) (l3 : M.gates.length ≤ 60) (l4 : M.nexts.length ≤ 16) (l5 : M.nevers.length ≤ 4) (l6 : M.somes.length ≤ 4) : Short M:=by
 have hN : ∀ z,NameS z → z.length ≤ 9:=fun z hz=>Nat.le_trans hz.len (by decide)
 have hnm : ∀ z,z ∈ M.switches ++ M.keepers.map (·.1) ++ M.gates.map (·.1) → NameS z:=fun z hz=>h.nm z (by rw [h.all]; exact hz)
 refine ⟨fun n hn=>hN _ (hnm _ (List.mem_append_left _ (List.mem_append_left _ hn))),fun r hr=>⟨hN _ (hnm _ (List.mem_append_left _ (List.mem_append_right _ (List.mem_map.mpr ⟨r,hr,rfl⟩)))),h.first r hr⟩,fun r hr=>?_,
  fun r hr=>⟨hN _ (hnm _ (List.mem_append_left _ (List.mem_append_right _ (h.nxk r hr)))),((h.nxl r hr).form h.nm).len.2⟩,fun r hr=>⟨hN _ (h.nvw.nm r hr),((h.nvw.lit r hr).form h.nm).len.2⟩,fun r hr=>⟨hN _ (h.smw.nm r hr),((h.smw.lit r hr).form h.nm).len.2⟩,by omega,by omega,by omega,by omega,by omega,by omega⟩
 obtain ⟨i,hi,rfl⟩:=List.getElem_of_mem hr
 obtain ⟨g1,g2⟩:=h.gl i _ (List.getElem?_eq_getElem hi)
 have hn1 : ∀ x ∈ M.switches ++ M.keepers.map (·.1) ++ (M.gates.take i).map (·.1),NameS x:=fun x hx=>hnm x (by
  rcases List.mem_append.mp hx with hx | hx
  · exact List.mem_append_left _ hx
  · obtain ⟨r,hr,e⟩:=List.mem_map.mp hx
    exact List.mem_append_right _ (List.mem_map.mpr ⟨r,List.mem_of_mem_take hr,e⟩))
 exact ⟨hN _ (hnm _ (List.mem_append_right _ (List.mem_map.mpr ⟨_,hr,rfl⟩))),(g1.form hn1).len.2,(g2.form hn1).len.2⟩
end Gen
namespace Gen
open PySem L2
abbrev sIsFirst : Stmt:=top 3
abbrev sFirstSt : Stmt:=top 4
abbrev sRising : Stmt:=top 5
def firstB (v : V) (b : Int) : Bool:=decide (v = .non) || decide (v = .int b)
def okF (fs : List V) (r : List Int) : Bool:=(fs.zip r).all fun p=>firstB p.1 p.2
def Frst (v : V) : Prop:=v = .int 0 ∨ v = .int 1 ∨ v = .non
def bitsF (v : V) : List Int:=if v = .non then [0,1] else if v = .int 0 then [0] else [1]
def stepR (rows : List (List Int)) (f : V) : List (List Int):=rows.flatMap fun r=>(bitsF f).map fun b=>r ++ [b]
def risF (fs : List V) : List (List Int):=fs.foldl stepR [[]]
theorem ris_each : ∀ (k : Nat),∀ r ∈ risL k,r.length = k
 | 0,r,h=>by
  have : r = []:=by simpa [risL] using h
  rw [this]; rfl
 | k + 1,r,h=>by
  rw [risL] at h
  obtain ⟨q,hq,hr⟩:=List.mem_flatMap.mp h
  have:=ris_each k q hq
  simp only [List.mem_cons,List.not_mem_nil,or_false] at hr
  rcases hr with rfl | rfl <;> rw [List.length_append,this] <;> rfl
theorem ris_len : ∀ (k : Nat),(risL k).length = 2 ^ k
 | 0=>rfl
 | k + 1=>by
  have : ∀ l : List (List Int),(l.flatMap fun r=>[r ++ [(0 : Int)],r ++ [1]]).length = 2 * l.length:=fun l=>by
   induction l with
   | nil=>rfl
   | cons x l ih=>rw [List.flatMap_cons,List.length_append,ih,List.length_cons]; simp; omega
  rw [risL,this,ris_len k,Nat.pow_succ]
  omega
theorem okF_snoc {fs : List V} {r : List Int} (f : V) (b : Int) (h : fs.length = r.length) : okF (fs ++ [f]) (r ++ [b]) = (okF fs r && firstB f b):=by
 unfold okF
 rw [List.zip_append h,List.all_append]
 simp
theorem bitsF_ok {f : V} (h : Frst f) (r : List Int) : ([r ++ [0],r ++ [1]].filter fun x=>firstB f (x.getLast?.getD 0)) = (bitsF f).map fun b=>r ++ [b]:=by
 rcases h with rfl | rfl | rfl <;> simp [firstB,bitsF]
theorem risF_snoc (fs : List V) (f : V) : risF (fs ++ [f]) = stepR (risF fs) f:=by
 unfold risF
 rw [List.foldl_append]
 rfl
theorem flat_filter {α β : Type} {g : α → List β} {p : β → Bool} {q : α → Bool} {g' : α → List β} : ∀ (l : List α),(∀ x ∈ l,(g x).filter p = if q x = true then g' x else []) → (l.flatMap g).filter p = (l.filter q).flatMap g'
 | [],_=>rfl
 | x :: l,h=>by
  rw [List.flatMap_cons,List.filter_append,flat_filter l fun y hy=>h y (List.mem_cons_of_mem _ hy),h x List.mem_cons_self,List.filter_cons]
  split
  · rw [List.flatMap_cons]
  · rfl
theorem risF_eq : ∀ (k : Nat) (fs : List V),fs.length = k → (∀ f ∈ fs,Frst f) → risF fs = (risL k).filter (okF fs)
 | 0,fs,hl,_=>by
  have : fs = []:=List.length_eq_zero_iff.mp hl
  subst this
  rfl
 | k + 1,fs,hl,hf=>by
  obtain ⟨gs,f,rfl⟩ : ∃ gs f,fs = gs ++ [f]:=by
   have hne : fs ≠ []:=fun e=>by rw [e] at hl; cases hl
   exact ⟨fs.dropLast,fs.getLast hne,(List.dropLast_concat_getLast hne).symm⟩
  have hg : gs.length = k:=by rw [List.length_append,List.length_singleton] at hl; omega
  have hff:=hf f (by simp)
  rw [risF_snoc,risF_eq k gs hg fun x hx=>hf x (List.mem_append.mpr (.inl hx)),risL]
  unfold stepR
  refine (flat_filter (risL k) fun r hr=>?_).symm
  have hrl:=ris_each k r hr
  have o0:=okF_snoc (fs:=gs) (r:=r) f 0 (by omega)
  have o1:=okF_snoc (fs:=gs) (r:=r) f 1 (by omega)
  cases hq : okF gs r with
  | true =>
   rw [if_pos rfl,← bitsF_ok hff r]
   rw [hq,Bool.true_and] at o0 o1
   simp [List.filter_cons,o0,o1]
  | false =>
   rw [if_neg (by decide)]
   rw [hq,Bool.false_and] at o0 o1
   simp [List.filter_cons,o0,o1]
theorem risF_each {fs : List V} (hf : ∀ f ∈ fs,Frst f) : ∀ r ∈ risF fs,r.length = fs.length:=fun r hr=>by
 rw [risF_eq fs.length fs rfl hf] at hr
 exact ris_each _ r (List.mem_filter.mp hr).1
theorem stepR_len {rows : List (List Int)} {f : V} : (stepR rows f).length ≤ 2 * rows.length:=by
 unfold stepR
 induction rows with
 | nil=>simp
 | cons r l ih =>
  rw [List.flatMap_cons,List.length_append,List.length_map,List.length_cons]
  have : (bitsF f).length ≤ 2:=by
   unfold bitsF
   split
   · decide
   · split <;> decide
  omega
theorem risF_len : ∀ (k : Nat) (fs : List V),fs.length = k → (risF fs).length ≤ 2 ^ k
 | 0,fs,h=>by
  have : fs = []:=List.length_eq_zero_iff.mp h
  subst this
  exact Nat.le_refl _
 | k + 1,fs,hl=>by
  obtain ⟨gs,f,rfl⟩ : ∃ gs f,fs = gs ++ [f]:=by
   have hne : fs ≠ []:=fun e=>by rw [e] at hl; cases hl
   exact ⟨fs.dropLast,fs.getLast hne,(List.dropLast_concat_getLast hne).symm⟩
  have hg : gs.length = k:=by rw [List.length_append,List.length_singleton] at hl; omega
  rw [risF_snoc,Nat.pow_succ]
  have h1:=risF_len k gs hg
  have h2:=stepR_len (rows:=risF gs) (f:=f)
  omega
def RowsH (H : Hp) (ts : List Addr) (bs : List (List Int)) : Prop:=Paired (fun t b=>H t = some (.tup (b.map V.int))) ts bs
theorem RowsH.same {H H' : Hp} {ts : List Addr} {bs : List (List Int)} (h : RowsH H ts bs) (s : Same H H') : RowsH H' ts bs:=Paired.mapP h fun t b e=>s _ _ e
abbrev nRi : List Str:=["firsts", "rows", "first", "bits", "longer", "row"]
theorem ndBR : (["bit", "row"] : List Str).Nodup:=by decide +kernel
def spRising : Sp:=fun vs H Q _=>∃ (f : Addr) (fs : List V),vs = [.ref f] ∧ H f = some (.lst fs) ∧ fs.length ≤ 6 ∧ (∀ v ∈ fs,Frst v) ∧ ∀ p ts H',Same H H' → H p = none → H' p = some (.lst (ts.map V.ref)) → RowsH H' ts (risF fs) → Q (.ref p) H'
end Gen
namespace Gen
open PySem L2
theorem one_app (r : List Int) (b : Int) : (r.map V.int ++ [V.int b]) = (r ++ [b]).map V.int:=by rw [List.map_append]; rfl
theorem bits_tree {v : V} (hv : Frst v) {σ : St} (hσ : σ[2]? = some (some v)) {H : Hp} {Q : VK} (h : ∀ T,H T = none → Q (.ref T) (upd H T (.tup ((bitsF v).map V.int)))) :
 tIf (tB (tIsN (tVar 2))) (tTup (tCons (tC (.int 0)) (tCons (tC (.int 1)) tNil))) (tTup (tCons (tVar 2) tNil)) σ H Q:=by
 refine ⟨v,hσ,decide (v = .non),rfl,?_⟩
 rcases hv with rfl | rfl | rfl
 · exact iteF ⟨_,hσ,(by show 1 ≤ sizeLine; decide),fun T hT=>h T hT⟩
 · exact iteF ⟨_,hσ,(by show 1 ≤ sizeLine; decide),fun T hT=>h T hT⟩
 · exact iteT ⟨(by show 2 ≤ sizeLine; decide),fun T hT=>h T hT⟩
section
variable {P : Program} {w : World} {K : PySem.W.Frag} {mg : Str → Option Value} {base : Heap}
theorem scRi : FnScope nRi ["firsts"] (defScope sRising):=⟨rfl,rfl,rfl,by decide +kernel,rfl,by decide +kernel,by decide +kernel⟩
theorem ok_rising {f : Addr} {fd : FuncData} (F : Fun K "rising_bits" "rising_bits" sRising f fd) : FnOk P w K mg base CX0 1 f fd ["firsts"] spRising:=by
 refine F.ok scRi (fun vs H Q E h=>?_) (fun cdv A outer s H vs Q E hr h=>?_)
 · obtain ⟨fa,fs,rfl,_⟩:=h
   rfl
 · obtain ⟨fa,fs,rfl,hf,hl6,hfr,kk⟩:=h
   refine ⟨_,pss_cons (ps_set (i:=1) scRi.nd rfl (Or.inl rfl) (pe_lst (pa_cons (pe_tup pa_nil) pa_nil)))
    (pss_cons (ps_for PassesOwn.never rfl (pi_list (pv 0)) (pg_name (i:=2) scRi.nd rfl (Or.inl rfl))
     (pss_cons (ps_set (i:=3) scRi.nd rfl (Or.inl rfl) (pe_ifExp (pt_cmp (pc_isN (pv 2))) (pe_tup (pa_cons pe_int (pa_cons pe_int pa_nil))) (pe_tup (pa_cons (pv 2) pa_nil))))
     (pss_cons (ps_set (i:=4) scRi.nd rfl (Or.inl rfl) (pe_lst pa_nil))
     (pss_cons (ps_for PassesOwn.never rfl (pi_list (pv 1)) (pg_name (i:=5) scRi.nd rfl (Or.inr rfl))
      (pss_one (ps_expr (pe_bm PySem.F.plainAttrs_list PySem.F.slot_list_extend PySem.F.type_list_extend mt_extend (pv 4) (pa_cons
       (pe_lc (N:=["bit", "row"]) (js:=[none,some 5]) (by kernel_rfl) rfl (pi_tup (pv 3)) (fun _ _ _ _ _ _=>pg_name (i:=0) ndBR rfl (Or.inl rfl) (.inr rfl)) (fun _ _ _ _ _ _=>pifs_nil)
        (fun _ _ _ _ _ _=>pe_op (r:=rCatA K) op_catA (pv 1) (pe_tup (pa_cons (pv 0) pa_nil)))) pa_nil)))))
     (pss_one (ps_set (i:=1) scRi.nd rfl (Or.inl rfl) (pv 4)))))))
    (pss_one (ps_ret (pv 1)))),?_⟩
   refine ⟨(by show 0 ≤ sizeLine; decide),fun e he=>?_⟩
   have t0 : Same H (upd H e (.tup [])):=Same.upd_new he
   have q0 : (upd H e (.tup [])) e = some (.tup (([] : List Int).map V.int)):=upd_same
   generalize upd H e (.tup []) = H0 at t0 q0 ⊢
   refine ⟨(by show 1 ≤ sizeLine; decide),fun p0 hp0=>?_⟩
   have t1 : Same H0 (upd H0 p0 (.lst [.ref e])):=Same.upd_new hp0
   have q1 : (upd H0 p0 (.lst [.ref e])) p0 = some (.lst ([e].map V.ref)):=upd_same
   generalize upd H0 p0 (.lst [.ref e]) = H1 at t1 q1 ⊢
   have t01:=t0.trans t1
   refine ⟨_,rfl,fa,rfl,⟨_,SqL.of (t01 _ _ hf)⟩,for_list (K:=K) (a:=fa) (xs:=fs) (fun i σ Hi=>∃ (p : Addr) (ts : List Addr) (v2 v3 v4 v5 : Option V),σ = [some (.ref fa),some (.ref p),v2,v3,v4,v5] ∧ Hi p = some (.lst (ts.map V.ref)) ∧ RowsH Hi ts (risF (fs.take i)) ∧ H p = none ∧ Same H Hi) ?_ ?_ ?_ ?_⟩
   · exact ⟨p0,[e],none,none,none,none,rfl,q1,.cons (t1 _ _ q0) .nil,t0.free hp0,t01⟩
   · rintro i σ Hi _ ⟨_,_,_,_,_,_,_,_,_,_,si⟩
     exact SqL.of (si _ _ hf)
   · rintro i v σ Hi hx ⟨p,ts,v2,v3,v4,v5,rfl,hp,hts,hpn,si⟩
     have hi : i < fs.length:=(List.getElem?_eq_some_iff.mp hx).1
     have ev : v = fs[i]:=by rw [List.getElem?_eq_getElem hi] at hx; exact (Option.some.inj hx).symm
     have hv : Frst v:=by rw [ev]; exact hfr _ (List.getElem_mem hi)
     have hlen : (risF (fs.take i)).length ≤ 64:=by
      have h1:=risF_len i (fs.take i) (by rw [List.length_take]; omega)
      have h2 : 2 ^ i ≤ 2 ^ 6:=Nat.pow_le_pow_right (by decide) (by omega)
      omega
     have hsn : risF (fs.take (i + 1)) = stepR (risF (fs.take i)) v:=by
      rw [List.take_succ,hx]
      exact risF_snoc _ _
     have htl:=hts.length
     generalize hrows : risF (fs.take i) = rows at hts hlen hsn htl
     refine bits_tree (v:=v) hv rfl fun T hT=>?_
     have u1 : Same Hi (upd Hi T (.tup ((bitsF v).map V.int))):=Same.upd_new hT
     have w1 : (upd Hi T (.tup ((bitsF v).map V.int))) T = some (.tup ((bitsF v).map V.int)):=upd_same
     generalize upd Hi T (.tup ((bitsF v).map V.int)) = J1 at u1 w1 ⊢
     refine ⟨(by show 0 ≤ sizeLine; decide),fun L hL=>?_⟩
     have u2 : Same J1 (upd J1 L (.lst [])):=Same.upd_new hL
     have w2 : (upd J1 L (.lst [])) L = some (.lst (([] : List Addr).map V.ref)):=upd_same
     generalize upd J1 L (.lst []) = J2 at u2 w2 ⊢
     have u12:=u1.trans u2
     have npL : p ≠ L:=ne_of_none (u1 _ _ hp) hL
     have nTL : T ≠ L:=ne_of_none w1 hL
     have hb2 : (bitsF v).length ≤ 2:=by
      unfold bitsF
      split
      · decide
      · split <;> decide
     refine ⟨_,rfl,p,rfl,⟨_,SqL.of (u12 _ _ hp)⟩,for_list (K:=K) (a:=p) (xs:=ts.map V.ref) (fun j σ Hj=>∃ (us : List Addr) (v5 : Option V),σ = [some (.ref fa),some (.ref p),some v,some (.ref T),some (.ref L),v5] ∧ Hj L = some (.lst (us.map V.ref)) ∧ RowsH Hj us (stepR (rows.take j) v) ∧ Keep J2 Hj L) ?_ ?_ ?_ ?_⟩
     · exact ⟨[],_,rfl,w2,.nil,Keep.refl _ _⟩
     · rintro j σ Hj _ ⟨_,_,_,_,_,kj⟩
       exact SqL.of (kj _ _ (u12 _ _ hp) npL)
     · rintro j xv σ Hj hxj ⟨us,v5',rfl,hLj,hus,kj⟩
       have hj : j < ts.length:=by
        have:=(List.getElem?_eq_some_iff.mp hxj).1
        rwa [List.length_map] at this
       have hjr : j < rows.length:=by omega
       have hrj : rows[j]? = some rows[j]:=List.getElem?_eq_getElem hjr
       obtain ⟨t,ht,hTt⟩:=paired_at hts (i:=j) hrj
       have ex : xv = .ref t:=by
        rw [List.getElem?_map,ht] at hxj
        exact (Option.some.inj hxj).symm
       subst ex
       have ntL : t ≠ L:=fun e=>by
        have:=u1 _ _ hTt
        rw [e,hL] at this
        cases this
       have ht2:=kj _ _ (u12 _ _ hTt) ntL
       have hT2:=kj _ _ (u2 _ _ w1) nTL
       have hstep : stepR (rows.take (j + 1)) v = stepR (rows.take j) v ++ (bitsF v).map fun b=>rows[j] ++ [b]:=by
        unfold stepR
        rw [List.take_succ,hrj,List.flatMap_append]
        simp
       have hsl : (stepR (rows.take j) v).length ≤ 128:=by
        have:=stepR_len (rows:=rows.take j) (f:=v)
        rw [List.length_take] at this
        omega
       have hul:=hus.length
       have hrl : rows[j].length ≤ 6:=by
        have:=risF_each (fs:=fs.take i) (fun f hf=>hfr f (List.mem_of_mem_take hf)) rows[j] (by rw [hrows]; exact List.getElem_mem hjr)
        rw [this,List.length_take]
        omega
       generalize rows[j] = r at hTt ht2 hstep hrl
       refine ⟨_,rfl,.inl ⟨rfl,_,SqL.of hLj⟩,_,rfl,T,rfl,⟨_,SqT.of hT2⟩,fun D hD=>?_⟩
       have nLD : L ≠ D:=ne_of_none hLj hD
       refine lc_by (bitsF v).length (fun i acc σ H4=>(∃ ws : List Addr,acc = ws.map V.ref ∧ RowsH H4 ws (((bitsF v).take i).map fun b=>r ++ [b]) ∧ ws.length = i) ∧ (∃ u,σ = [u,some (.ref t)]) ∧ Same Hj H4) ⟨⟨[],rfl,.nil,rfl⟩,⟨none,rfl⟩,Same.upd_new hD⟩ upd_same ?_ ?_
       · rintro acc σ H4 hDD ⟨⟨ws,rfl,hws,hwl⟩,_,s4⟩
         rw [List.take_length] at hws
         have hL4:=s4 _ _ hLj
         refine ⟨⟨_,SqT.of (s4 _ _ hT2),by rw [List.length_map]; exact Nat.le_refl _⟩,L,D,_,_,rfl,rfl,hL4,hDD,(by rw [List.length_map,List.length_map]; exact small' (by omega)),us ++ ws,_,rfl,?_,?_,?_⟩
         · rw [upd_same,List.map_append]
         · rw [hstep]
           have nt : ∀ {b : Addr} {o : List V},H4 b = some (.tup o) → b ≠ L:=fun hb e=>by rw [e,hL4] at hb; cases hb
           refine paired_append (Paired.mapP hus fun b c e=>?_) (Paired.mapP hws fun b c e=>?_)
           · have:=s4 _ _ e
             rw [upd_ne (nt this)]
             exact this
           · rw [upd_ne (nt e)]
             exact e
         · intro b o hb hn
           rw [upd_ne hn]
           exact s4 _ _ (kj _ _ hb hn)
       · rintro i' acc σ H4 hi' hDD ⟨⟨ws,rfl,hws,hwl⟩,⟨u,rfl⟩,s4⟩
         have hbi : (bitsF v)[i']? = some (bitsF v)[i']:=List.getElem?_eq_getElem hi'
         have ei : ((bitsF v).map V.int)[i']? = some (.int (bitsF v)[i']):=by rw [List.getElem?_map,hbi]; rfl
         refine ⟨⟨_,_,SqT.of (s4 _ _ hT2),ei⟩,?_⟩
         rintro x' H' ⟨rfl,hall⟩
         have ex:=hall _ (SqT.of (s4 _ _ hT2))
         rw [ei] at ex
         cases ex
         refine gName_yes ?_
         have htk : (((bitsF v).take (i' + 1)).map fun b=>r ++ [b]) = (((bitsF v).take i').map fun b=>r ++ [b]) ++ [r ++ [(bitsF v)[i']]]:=by
          rw [List.take_succ,hbi,List.map_append]
          rfl
         generalize (bitsF v)[i'] = b at htk
         have fin : ∀ (R : Addr) (J : Hp),Same H' J → J R = some (.tup ((r ++ [b]).map V.int)) → ∃ acc,J D = some (.lst acc) ∧ acc.length < sizeLine ∧ ∃ m',m' < (bitsF v).length - i' ∧ LcW D (bitsF v).length (fun i acc σ H4=>(∃ ws : List Addr,acc = ws.map V.ref ∧ RowsH H4 ws (((bitsF v).take i).map fun b=>r ++ [b]) ∧ ws.length = i) ∧ (∃ u,σ = [u,some (.ref t)]) ∧ Same Hj H4) (i' + 1) m' [some (.int b),some (.ref t)] (upd J D (.lst (acc ++ [.ref R]))):=by
          intro R J sJ hR
          have hDJ:=sJ _ _ hDD
          have nt : ∀ {b : Addr} {o : List V},J b = some (.tup o) → b ≠ D:=fun hb e=>by rw [e,hDJ] at hb; cases hb
          refine ⟨_,hDJ,(by rw [List.length_map]; exact small (by omega)),lcW_next hi' upd_same ⟨⟨ws ++ [R],by rw [List.map_append]; rfl,?_,by rw [List.length_append,List.length_singleton,hwl]⟩,⟨_,rfl⟩,?_⟩⟩
          · rw [htk]
            refine Paired.snoc (Paired.mapP hws fun c d e=>?_) ?_
            · have:=sJ _ _ e
              rw [upd_ne (nt this)]
              exact this
            · rw [upd_ne (nt hR)]
              exact hR
          · intro y o hy
            rw [upd_ne (ne_of_none hy hD)]
            exact sJ _ _ (s4 _ _ hy)
         refine ⟨_,rfl,_,rfl,(by show 1 ≤ sizeLine; decide),fun T1 hT1=>?_⟩
         have z1 : Same H' (upd H' T1 (.tup [.int b])):=Same.upd_new hT1
         have z2 : (upd H' T1 (.tup [.int b])) T1 = some (.tup [.int b]):=upd_same
         generalize upd H' T1 (.tup [.int b]) = J3 at z1 z2 ⊢
         have hr0:=z1 _ _ (s4 _ _ ht2)
         refine ⟨t,T1,_,_,rfl,rfl,SqT.of hr0,SqT.of z2,(by simp),?_,fun e=>?_,fun _ R hR=>?_⟩
         · rw [List.length_map]
           exact line8 (by show r.length + 1 ≤ 100; omega)
         · have : r = []:=List.map_eq_nil_iff.mp e
           subst this
           exact fin T1 J3 z1 z2
         · exact fin R _ (z1.trans (Same.upd_new hR)) (by rw [upd_same,one_app])
     · rintro σ Hj ⟨us,v5',rfl,hLj,hus,kj⟩
       rw [List.length_map,htl,List.take_length,← hsn] at hus
       have s2 : Same H Hj:=fun b o hb=>kj _ _ (u12 _ _ (si _ _ hb)) (ne_of_none (u1 _ _ (si _ _ hb)) hL)
       exact ⟨_,rfl,L,us,_,_,_,_,rfl,hLj,hus,(si.trans u1).free hL,s2⟩
   · rintro σ Hi ⟨p,ts,v2,v3,v4,v5,rfl,hp,hts,hpn,si⟩
     rw [List.take_length] at hts
     exact ⟨_,rfl,kk p ts Hi si hpn hp hts⟩
end
end Gen
namespace Gen
open PySem L2
abbrev sAllB : Stmt:=top 45
abbrev sFirsts : Stmt:=top 46
abbrev sWhole : Stmt:=top 47
def RowsT (K : PySem.W.Frag) (H : Hp) (ts : List Addr) (bs : List (List Int)) : Prop:=Paired (fun t b=>SqT K H t (b.map V.int)) ts bs
theorem RowsH.t {K : PySem.W.Frag} {H : Hp} {ts : List Addr} {bs : List (List Int)} (h : RowsH H ts bs) : RowsT K H ts bs:=Paired.mapP h fun t b e=>SqT.of e
theorem RowsT.same {K : PySem.W.Frag} {H H' : Hp} {ts : List Addr} {bs : List (List Int)} (h : RowsT K H ts bs) (s : Same H H') : RowsT K H' ts bs:=Paired.mapP h fun t b e=>Same.seqT s e
def spFirstSt (C : Addr) : Sp:=fun vs H Q _=>∃ (x dx g1 g2 g3 g4 g5 g6 : Addr) (ts : List Addr) (M : Mach),vs = [.ref x] ∧ RM C H x dx g1 g2 g3 g4 g5 g6 ts M ∧ M.keepers.length ≤ 6 ∧ (∀ r ∈ M.keepers,Frst r.2) ∧ ∀ p us H',Same H H' → H p = none → H' p = some (.lst (us.map V.ref)) → RowsH H' us (risF (M.keepers.map (·.2))) → Q (.ref p) H'
def spIsF (C : Addr) (K : PySem.W.Frag) : Sp:=fun vs H Q _=>∃ (x dx g1 g2 g3 g4 g5 g6 st : Addr) (ts : List Addr) (M : Mach) (cs : List Int),vs = [.ref x,.ref st] ∧ RM C H x dx g1 g2 g3 g4 g5 g6 ts M ∧ M.keepers.length ≤ 6 ∧ M.keepers.length = cs.length ∧ SqT K H st (cs.map V.int) ∧ (∀ r ∈ M.keepers,Frst r.2) ∧ ∀ H',Same H H' → Q (.bl (okF (M.keepers.map (·.2)) cs)) H'
def spAllB (K : PySem.W.Frag) : Sp:=fun vs H Q _=>∃ (k : Int),vs = [.int k] ∧ 0 ≤ k ∧ k ≤ 6 ∧ ∀ p us H',Same H H' → H p = none → H' p = some (.lst (us.map V.ref)) → RowsT K H' us (risL k.toNat) → Q (.ref p) H'
theorem kvP_vals (l : List (Str × V)) : ((kvP l).map fun kv=>kv.2) = l.map (·.2):=by unfold kvP; rw [List.map_map]; rfl
theorem ndFB : (["first", "bit"] : List Str).Nodup:=by decide +kernel
theorem okF_take {fs : List V} {cs : List Int} (h : fs.length = cs.length) : okF fs cs = ((fs.zip cs).map fun p=>firstB p.1 p.2).all _root_.id:=by
 unfold okF
 rw [List.all_map]
 rfl
theorem lc_app {K : PySem.W.Frag} {b : Int} {D p : Addr} {Q : Hp → Prop} {H1 : Hp} {ts : List Addr} {bs : List (List Int)} (hD : H1 D = none) (hp : H1 p = some (.lst (ts.map V.ref))) (h2 : RowsH H1 ts bs) (hlen : bs.length ≤ 64) (hk : ∀ r ∈ bs,r.length ≤ 6)
 (fin : ∀ H4 ws,Same H1 H4 → H4 D = some (.lst (ws.map V.ref)) → RowsH H4 ws (bs.map (· ++ [b])) → Q H4) :
 ∃ W : Nat → Nat → St → Hp → Prop,(∃ m,W 0 m [none] (upd H1 D (.lst []))) ∧ bLC D (gName 0) tYes (tOp (rCatA K) (tVar 0) (tTup (tCons (tC (.int b)) tNil))) (Itl K p) W Q:=by
 have hl:=h2.length
 refine lc_by bs.length (fun j acc σ' H4=>(∃ ws : List Addr,acc = ws.map V.ref ∧ RowsH H4 ws ((bs.take j).map (· ++ [b])) ∧ ws.length = j) ∧ (∃ u,σ' = [u]) ∧ Same H1 H4) ⟨⟨[],rfl,.nil,rfl⟩,⟨none,rfl⟩,Same.upd_new hD⟩ upd_same ?_ ?_
 · rintro acc σ' H4 hDD ⟨⟨ws,rfl,hws,_⟩,_,s4⟩
   rw [List.take_length] at hws
   exact ⟨⟨_,SqL.of (s4 _ _ hp),by rw [List.length_map,hl]; exact Nat.le_refl _⟩,fin H4 ws s4 hDD hws⟩
 · rintro j acc σ' H4 hj hDD ⟨⟨ws,rfl,hws,hwl⟩,⟨u,rfl⟩,s4⟩
   have hrj : bs[j]? = some bs[j]:=List.getElem?_eq_getElem hj
   obtain ⟨t,ht,hT⟩:=paired_at h2 (i:=j) hrj
   have ej : (ts.map V.ref)[j]? = some (.ref t):=by rw [List.getElem?_map,ht]; rfl
   refine ⟨⟨_,_,SqL.of (s4 _ _ hp),ej⟩,?_⟩
   rintro x' H' ⟨rfl,hall⟩
   have ex:=hall _ (SqL.of (s4 _ _ hp))
   rw [ej] at ex
   cases ex
   refine gName_yes ?_
   have htk : (bs.take (j + 1)).map (· ++ [b]) = (bs.take j).map (· ++ [b]) ++ [bs[j] ++ [b]]:=by
    rw [List.take_succ,hrj,List.map_append]
    rfl
   have hrl:=hk _ (List.getElem_mem hj)
   generalize bs[j] = r at hT htk hrl
   have fin2 : ∀ (R : Addr) (J : Hp),Same H' J → J R = some (.tup ((r ++ [b]).map V.int)) → ∃ acc,J D = some (.lst acc) ∧ acc.length < sizeLine ∧ ∃ m',m' < bs.length - j ∧ LcW D bs.length (fun j acc σ' H4=>(∃ ws : List Addr,acc = ws.map V.ref ∧ RowsH H4 ws ((bs.take j).map (· ++ [b])) ∧ ws.length = j) ∧ (∃ u,σ' = [u]) ∧ Same H1 H4) (j + 1) m' [some (.ref t)] (upd J D (.lst (acc ++ [.ref R]))):=by
    intro R J sJ hR
    have hDJ:=sJ _ _ hDD
    have nt : ∀ {b : Addr} {o : List V},J b = some (.tup o) → b ≠ D:=fun hb e=>by rw [e,hDJ] at hb; cases hb
    refine ⟨_,hDJ,(by rw [List.length_map]; exact small (by omega)),lcW_next hj upd_same ⟨⟨ws ++ [R],by rw [List.map_append]; rfl,?_,by rw [List.length_append,List.length_singleton,hwl]⟩,⟨_,rfl⟩,?_⟩⟩
    · rw [htk]
      refine Paired.snoc (Paired.mapP hws fun c d e=>?_) ?_
      · have:=sJ _ _ e
        rw [upd_ne (nt this)]
        exact this
      · rw [upd_ne (nt hR)]
        exact hR
    · intro y o hy
      rw [upd_ne (ne_of_none hy hD)]
      exact sJ _ _ (s4 _ _ hy)
   refine ⟨_,rfl,(by show 1 ≤ sizeLine; decide),fun T1 hT1=>?_⟩
   have z1 : Same H' (upd H' T1 (.tup [.int b])):=Same.upd_new hT1
   have z2 : (upd H' T1 (.tup [.int b])) T1 = some (.tup [.int b]):=upd_same
   generalize upd H' T1 (.tup [.int b]) = J3 at z1 z2 ⊢
   refine ⟨t,T1,_,_,rfl,rfl,SqT.of (z1 _ _ (s4 _ _ hT)),SqT.of z2,(by simp),?_,fun e=>?_,fun _ R hR=>?_⟩
   · rw [List.length_map]
     exact line8 (by show r.length + 1 ≤ 100; omega)
   · have : r = []:=List.map_eq_nil_iff.mp e
     subst this
     exact fin2 T1 J3 z1 z2
   · exact fin2 R _ (z1.trans (Same.upd_new hR)) (by rw [upd_same,one_app])
section
variable {P : Program} {w : World} {K : PySem.W.Frag} {mg : Str → Option Value} {base : Heap} {C : Addr}
theorem scFs : FnScope ["machine"] ["machine"] (defScope sFirstSt):=⟨rfl,rfl,rfl,by decide +kernel,rfl,by decide +kernel,by decide +kernel⟩
theorem scIsF : FnScope ["machine", "stand", "firsts"] ["machine", "stand"] (defScope sIsFirst):=⟨rfl,rfl,rfl,by decide +kernel,rfl,by decide +kernel,by decide +kernel⟩
theorem scAB : FnScope ["_law_many", "_law_found", "_law_k"] ["_law_many"] (defScope sAllB):=⟨rfl,rfl,rfl,by decide +kernel,rfl,by decide +kernel,by decide +kernel⟩
theorem ok_firstst {f fR : Addr} {fd dR : FuncData} (F : Fun K "first_stands" "first_stands" sFirstSt f fd) (T : TxtM K mg C) (O2 : Own2 mg)
 (gR : FnOk P w K mg base CX0 1 fR dR ["firsts"] spRising) (mR : mg "rising_bits" = some (.ref fR)) (kR : PySem.W.keepIn K (.ref fR) = true) (bR : Binds K dR ["firsts"] []) : FnOk P w K mg base CX0 2 f fd ["machine"] (spFirstSt C):=by
 refine F.ok scFs (fun vs H Q E h=>?_) (fun cdv A outer s H vs Q E hr h=>?_)
 · obtain ⟨x,dx,g1,g2,g3,g4,g5,g6,ts,M,rfl,_⟩:=h
   rfl
 · obtain ⟨x,dx,g1,g2,g3,g4,g5,g6,ts,M,rfl,hR,hl,hfr,kk⟩:=h
   refine ⟨_,pss_one (ps_ret (pe_call gR hr rfl mR kR bR .nil pass0 (pa_cons (pe_lvals rfl (by rfl) O2.list (pe_fld (pv 0) rfl)) pa_nil))),?_⟩
   refine ⟨_,rfl,x,C,dx,_,.ref g2,rfl,hR.hx,T.cl,T.n2,flds_2 ..,g2,_,rfl,.inl hR.h2,fun q hq=>?_⟩
   rw [kvP_vals]
   have s1 : Same H (upd H q (.lst (M.keepers.map (·.2)))):=Same.upd_new hq
   refine ⟨q,_,rfl,upd_same,by rw [List.length_map]; exact hl,fun v hv=>?_,fun p us H' s' hp h1 h2=>kk p us H' (s1.trans s') (s1.free hp) h1 h2⟩
   obtain ⟨r,hr',rfl⟩:=List.mem_map.mp hv
   exact hfr r hr'
theorem ok_all_bits {f : Addr} {fd : FuncData} (F : Fun K "_law_all_bits" "_law_all_bits" sAllB f fd) (O : Own mg) (hS : mg "sorted" = none) : FnOk P w K mg base CX0 1 f fd ["_law_many"] (spAllB K):=by
 refine F.ok scAB (fun vs H Q E h=>?_) (fun cdv A outer s H vs Q E hr h=>?_)
 · obtain ⟨k,rfl,_⟩:=h
   rfl
 · obtain ⟨k,rfl,k0,k6,kk⟩:=h
   refine ⟨_,pss_cons (ps_set (i:=1) scAB.nd rfl (Or.inl rfl) (pe_lst (pa_cons (pe_tup pa_nil) pa_nil)))
    (pss_cons (ps_for PassesOwn.never rfl (pi_range1 rfl O.range (pa_cons (pv 0) pa_nil)) (pg_name (i:=2) scAB.nd rfl (Or.inl rfl))
     (pss_one (ps_set (i:=1) scAB.nd rfl (Or.inl rfl) (pe_op op_cat
      (pe_lc (N:=["_law_one"]) (js:=[none]) (by kernel_rfl) rfl (pi_list (pv 1)) (fun _ _ _ _ _ _=>pg_name (i:=0) ndO rfl (Or.inl rfl) (.inr rfl)) (fun _ _ _ _ _ _=>pifs_nil) (fun _ _ _ _ _ _=>pe_op (r:=rCatA K) op_catA (pv 0) (pe_tup (pa_cons pe_int pa_nil))))
      (pe_lc (N:=["_law_one"]) (js:=[none]) (by kernel_rfl) rfl (pi_list (pv 1)) (fun _ _ _ _ _ _=>pg_name (i:=0) ndO rfl (Or.inl rfl) (.inr rfl)) (fun _ _ _ _ _ _=>pifs_nil) (fun _ _ _ _ _ _=>pe_op (r:=rCatA K) op_catA (pv 0) (pe_tup (pa_cons pe_int pa_nil))))))))
    (pss_one (ps_ret (pe_callB call_sorted0 (by rfl) hS PyProof.Rows.boot_sorted (pa_cons (pv 1) pa_nil))))),?_⟩
   refine ⟨(by show 0 ≤ sizeLine; decide),fun e he=>?_⟩
   have t0 : Same H (upd H e (.tup [])):=Same.upd_new he
   have q0 : (upd H e (.tup [])) e = some (.tup (([] : List Int).map V.int)):=upd_same
   generalize upd H e (.tup []) = H0 at t0 q0 ⊢
   refine ⟨(by show 1 ≤ sizeLine; decide),fun p0 hp0=>?_⟩
   have t1 : Same H0 (upd H0 p0 (.lst [.ref e])):=Same.upd_new hp0
   have q1 : (upd H0 p0 (.lst [.ref e])) p0 = some (.lst ([e].map V.ref)):=upd_same
   generalize upd H0 p0 (.lst [.ref e]) = H1 at t1 q1 ⊢
   have t01:=t0.trans t1
   refine ⟨_,rfl,k,rfl,by omega,by omega,for_range (n:=k.toNat) (fun i σ Hi=>∃ (p : Addr) (ts : List Addr) (v2 : Option V),σ = [some (.int k),some (.ref p),v2] ∧ Hi p = some (.lst (ts.map V.ref)) ∧ RowsH Hi ts (bitsL i) ∧ Same H Hi) ?_ ?_ ?_⟩
   · exact ⟨p0,[e],none,rfl,q1,.cons (t1 _ _ q0) .nil,t01⟩
   · rintro i σ Hi hi ⟨p,ts,v2,rfl,hp,hts,si⟩
     have hbl : (bitsL i).length ≤ 64:=by
      rw [bits_len]
      have h2 : 2 ^ i ≤ 2 ^ 6:=Nat.pow_le_pow_right (by decide) (by omega)
      omega
     have hbe : ∀ r ∈ bitsL i,r.length ≤ 6:=fun r hr'=>by rw [bits_each i r hr']; omega
     refine ⟨_,rfl,p,rfl,⟨_,SqL.of hp⟩,fun D hD=>lc_app hD hp hts hbl hbe fun H2 ws s2 hD2 hw2=>?_⟩
     refine ⟨_,rfl,p,rfl,⟨_,SqL.of (s2 _ _ hp)⟩,fun D' hD'=>lc_app hD' (s2 _ _ hp) (hts.same s2) hbl hbe fun H3 ws' s3 hD3 hw3=>?_⟩
     have l1:=hw2.length
     have l2:=hw3.length
     rw [List.length_map] at l1 l2
     refine ⟨D,D',_,_,rfl,rfl,s3 _ _ hD2,hD3,(by rw [List.length_map,List.length_map]; exact small' (by omega)),fun R hR=>⟨R,ws ++ ws',_,rfl,?_,?_,?_⟩⟩
     · rw [upd_same,List.map_append]
     · rw [bitsL]
       exact paired_append (Paired.mapP hw2 fun t b e=>by have:=s3 _ _ e; rw [upd_ne (ne_of_none this hR)]; exact this) (Paired.mapP hw3 fun t b e=>by rw [upd_ne (ne_of_none e hR)]; exact e)
     · exact si.trans (s2.trans (s3.trans (Same.upd_new hR)))
   · rintro σ Hi ⟨p,ts,v2,rfl,hp,hts,si⟩
     refine ⟨_,rfl,p,ts,k.toNat,rfl,SqL.of hp,hts.t,by omega,fun D ts' hD hts'=>?_⟩
     exact kk D ts' _ (si.trans (Same.upd_new hD)) (si.free hD) upd_same (RowsT.same hts' (Same.upd_new hD))
end
end Gen
namespace Gen
open PySem L2
theorem ndNFB : (["_law_name", "_law_first", "_law_bit"] : List Str).Nodup:=by decide +kernel
theorem ndBt : (["_law_bit"] : List Str).Nodup:=by decide +kernel
def spFirsts (K : PySem.W.Frag) : Sp:=fun vs H Q _=>∃ (m a1 a2 a3 a4 a5 a6 : Addr) (M : Mach),vs = [.ref m] ∧ MachAt H m M a1 a2 a3 a4 a5 a6 ∧ M.keepers.length ≤ 6 ∧ (∀ r ∈ M.keepers,Frst r.2) ∧ ∀ p us H',Same H H' → H p = none → H' p = some (.lst (us.map V.ref)) → RowsT K H' us ((risL M.keepers.length).filter (okF (M.keepers.map (·.2)))) → Q (.ref p) H'
def spWhole (K : PySem.W.Frag) : Sp:=fun vs H Q _=>∃ (a b : Addr) (cs : List Int),vs = [.ref a,.ref b] ∧ H a = some (.tup (cs.map V.int)) ∧ SqT K H b (cs.map V.int) ∧ cs.length ≤ 100 ∧ ∀ H',Same H H' → Q (.bl true) H'
def rIsi (K : PySem.W.Frag) : List V → Hp → VK → Prop:=fun xs H Q=>∃ x t c b,xs = [x,.ty c] ∧ TyOf K H x t ∧ PySem.W.kitOne K t (.type c) = some b ∧ Q (.bl b) H
section
variable {P : Program} {w : World} {K : PySem.W.Frag} {mg : Str → Option Value} {base : Heap} {C : Addr}
theorem ok_is_first {f : Addr} {fd : FuncData} (F : Fun K "is_first" "is_first" sIsFirst f fd) (T : TxtM K mg C) (O2 : Own2 mg) : FnOk P w K mg base CX0 1 f fd ["machine", "stand"] (spIsF C K):=by
 refine F.ok scIsF (fun vs H Q E h=>?_) (fun cdv A outer s H vs Q E hr h=>?_)
 · obtain ⟨x,dx,g1,g2,g3,g4,g5,g6,st,ts,M,cs,rfl,_⟩:=h
   rfl
 · obtain ⟨x,dx,g1,g2,g3,g4,g5,g6,st,ts,M,cs,rfl,hR,n2,l2,hst,hfs,kk⟩:=h
   have hu:=hu_of hr
   refine ⟨_,pss_cons (ps_set (i:=2) scIsF.nd rfl (Or.inl rfl) (pe_lvals rfl (by rfl) O2.list (pe_fld (pv 0) rfl)))
    (pss_one (ps_ret (pe_callB (call_all_bools rfl) (by rfl) O2.all PyProof.Rows.boot_all (pa_cons (pe_lc (N:=["first", "bit"]) (js:=[none,none]) (g:=gTup K 2 (gCons (gName 0) (gCons (gName 1) gNil))) (by kernel_rfl) rfl (pi_zipL (by rfl) O2.zip (pa_cons (pv 2) (pa_cons (pv 1) pa_nil)))
     (fun _ _ _ _ _ _=>pg_tup rfl (pgs_cons (pg_name (i:=0) ndFB rfl (Or.inl rfl) (.inr rfl)) (pgs_cons (pg_name (i:=1) ndFB rfl (Or.inl rfl) (.inr rfl)) pgs_nil))) (fun _ _ _ _ _ _=>pifs_nil)
     (fun _ _ _ _ _ _=>pe_or (pe_cmp (pc_isN (pv 0))) (pe_one (pe_cmpR op_eq (pv 0) (pv 1) (nomark _))))) pa_nil)))),?_⟩
   refine ⟨_,rfl,x,C,dx,_,.ref g2,rfl,hR.hx,T.cl,T.n2,flds_2 ..,g2,_,rfl,.inl hR.h2,fun q hq=>?_⟩
   rw [kvP_vals]
   have hfs' : ∀ v ∈ M.keepers.map (·.2),Frst v:=fun v hv=>by
    obtain ⟨r,hr',rfl⟩:=List.mem_map.mp hv
    exact hfs r hr'
   have hfl : (M.keepers.map (·.2)).length = cs.length:=by rw [List.length_map]; exact l2
   have hf6 : (M.keepers.map (·.2)).length ≤ 6:=by rw [List.length_map]; exact n2
   generalize M.keepers.map (·.2) = fs at hfs' hfl hf6 kk ⊢
   have s1 : Same H (upd H q (.lst fs)):=Same.upd_new hq
   have q1 : (upd H q (.lst fs)) q = some (.lst fs):=upd_same
   generalize upd H q (.lst fs) = H1 at s1 q1 ⊢
   have hst1 : SqT K H1 st (cs.map V.int):=Same.seqT s1 hst
   refine ⟨_,rfl,_,rfl,q,st,rfl,⟨_,SqL.of q1⟩,⟨_,hst1⟩,fun D hD=>?_⟩
   refine lc_by fs.length (fun i acc σ H2=>acc = (((fs.zip cs).take i).map fun p=>firstB p.1 p.2).map V.bl ∧ (∃ u v,σ = [u,v]) ∧ Same H1 H2) ⟨rfl,⟨none,none,rfl⟩,Same.upd_new hD⟩ upd_same ?_ ?_
   · rintro acc σ H2 hDD ⟨rfl,_,s2⟩
     rw [List.take_of_length_le (by rw [List.length_zip]; omega)] at hDD
     refine ⟨⟨_,(show ZK K false H2 q _ from SqL.of (s2 _ _ q1)),Nat.le_refl _⟩,D,_,rfl,SqL.of hDD,?_⟩
     rw [← okF_take hfl]
     exact kk H2 (s1.trans s2)
   · rintro i acc σ H2 hi hDD ⟨rfl,⟨u,v,rfl⟩,s2⟩
     have hic : i < cs.length:=by omega
     have e1 : fs[i]? = some fs[i]:=List.getElem?_eq_getElem hi
     have e2 : (cs.map V.int)[i]? = some (.int cs[i]):=by rw [List.getElem?_map,List.getElem?_eq_getElem hic]; rfl
     have z1 : ZK K false H2 q fs:=SqL.of (s2 _ _ q1)
     have z2 : ZK K true H2 st (cs.map V.int):=Same.seqT s2 hst1
     refine ⟨⟨_,_,_,_,z1,z2,e1,e2⟩,?_⟩
     rintro x' H' ⟨Tp,xa,xb,rfl,hT,rfl,h1,h2⟩
     have e3:=h1 _ z1
     have e4:=h2 _ z2
     rw [e1] at e3
     rw [e2] at e4
     cases e3
     cases e4
     have sT : Same H2 (upd H2 Tp (.tup [fs[i],.int cs[i]])):=Same.upd_new hT
     have hDT:=sT _ _ hDD
     have hz : (fs.zip cs)[i]? = some (fs[i],cs[i]):=by rw [List.getElem?_eq_getElem (by rw [List.length_zip]; omega),List.getElem_zip]
     refine ⟨Tp,_,rfl,SqT.of upd_same,rfl,_,_,rfl,_,_,rfl,rfl,yes_if ?_⟩
     refine ⟨_,rfl,_,rfl,?_⟩
     have hvi:=hfs' _ (List.getElem_mem hi)
     have fin : ∀ b,b = firstB fs[i] cs[i] → ∃ acc,(upd H2 Tp (.tup [fs[i],.int cs[i]])) D = some (.lst acc) ∧ acc.length < sizeLine ∧ ∃ m',m' < fs.length - i ∧ LcW D fs.length (fun i acc σ H2=>acc = (((fs.zip cs).take i).map fun p=>firstB p.1 p.2).map V.bl ∧ (∃ u v,σ = [u,v]) ∧ Same H1 H2) (i + 1) m' [some fs[i],some (.int cs[i])] (upd (upd H2 Tp (.tup [fs[i],.int cs[i]])) D (.lst (acc ++ [.bl b]))):=by
      rintro b rfl
      refine ⟨_,hDT,?_,lcW_next hi upd_same ⟨?_,⟨_,_,rfl⟩,?_⟩⟩
      · rw [List.length_map,List.length_map,List.length_take]
        exact small (by omega)
      · rw [take_next (fun p : V × Int=>firstB p.1 p.2) hz,List.map_append]
        rfl
      · intro y o hy
        rw [upd_ne (ne_of_none hy hD)]
        exact sT _ _ (s2 y o hy)
     rcases hvi with e | e | e
     · rw [e] at fin ⊢
       refine iteF ⟨_,rfl,_,rfl,rfl,?_⟩
       exact fin _ (by rw [firstB]; rfl)
     · rw [e] at fin ⊢
       refine iteF ⟨_,rfl,_,rfl,rfl,?_⟩
       exact fin _ (by rw [firstB]; rfl)
     · rw [e] at fin ⊢
       exact iteT (fin _ (by rw [firstB]; rfl))
theorem scWhole : FnScope ["_law_found", "_law_due"] ["_law_found", "_law_due"] (defScope sWhole):=⟨rfl,rfl,rfl,by decide +kernel,rfl,by decide +kernel,by decide +kernel⟩
theorem ok_whole {f : Addr} {fd : FuncData} (F : Fun K "_law_whole_bits" "_law_whole_bits" sWhole f fd) (O : Own2 mg) : FnOk P w K mg base CX0 1 f fd ["_law_found", "_law_due"] (spWhole K):=by
 refine F.ok scWhole (fun vs H Q E h=>?_) (fun cdv A outer s H vs Q E hr h=>?_)
 · obtain ⟨a,b,cs,rfl,_⟩:=h
   rfl
 · obtain ⟨a,b,cs,rfl,ha,hb,hcl,kk⟩:=h
   have hu:=hu_of hr
   refine ⟨_,pss_cons (ps_if (pw_or (pt_not (pt_val (pe_callB call_isinst (by rfl) O.isi PyProof.Rows.boot_isinstance (pa_cons (pv 0) (pa_cons (pe_bltn (v:=.ty "tuple") (by rfl) O.tuple PyProof.Rows.boot_tuple rfl) pa_nil)))))
    (pw_or1 (pt_cmpR (op_neT hu) (pv 0) (pv 1) (nomark _)))).pt (pss_one (ps_ret pe_bl)) pss_nil)
    (pss_one (ps_ret (pe_callB (call_all_true rfl) (by rfl) O.all PyProof.Rows.boot_all (pa_cons (pe_lc (N:=["_law_bit"]) (js:=[none]) (by kernel_rfl) rfl (pi_tup (pv 0)) (fun _ _ _ _ _ _=>pg_name (i:=0) ndBt rfl (Or.inl rfl) (.inr rfl)) (fun _ _ _ _ _ _=>pifs_nil)
     (fun _ _ _ _ _ _=>pe_and (pe_callB (r:=rIsi K) call_isinst (by rfl) O.isi PyProof.Rows.boot_isinstance (pa_cons (pv 0) (pa_cons (pe_bltn (v:=.ty "int") (by rfl) O.int PyProof.Rows.boot_int rfl) pa_nil)))
      (pe_one (pe_not (pe_callB (r:=rIsi K) call_isinst (by rfl) O.isi PyProof.Rows.boot_isinstance (pa_cons (pv 0) (pa_cons (pe_bltn (v:=.ty "bool") (by rfl) O.bool PyProof.Rows.boot_bool rfl) pa_nil))))))) pa_nil)))),?_⟩
   refine ⟨_,rfl,.ref a,_, "tuple",true,rfl,.tup ha,rfl,true,rfl,iteF ?_⟩
   refine ⟨_,rfl,_,rfl,a,b,_,rfl,rfl,SqT.of ha,hb,flat_ints _,self_ints _,_,rfl,iteF ?_⟩
   refine ⟨_,rfl,a,rfl,⟨_,SqT.of ha⟩,fun D hD=>?_⟩
   refine lc_by cs.length (fun i acc σ H2=>(acc.length = i ∧ ∀ y ∈ acc,y = .bl true) ∧ (∃ u,σ = [u]) ∧ Same H H2) ⟨⟨rfl,fun _ h=>nomatch h⟩,⟨none,rfl⟩,Same.upd_new hD⟩ upd_same ?_ ?_
   · rintro acc σ H2 hDD ⟨⟨_,hacc⟩,_,s2⟩
     exact ⟨⟨_,SqT.of (s2 _ _ ha),by rw [List.length_map]; exact Nat.le_refl _⟩,D,_,rfl,SqL.of hDD,hacc,kk H2 s2⟩
   · rintro i acc σ H2 hi hDD ⟨⟨hl,hacc⟩,⟨u,rfl⟩,s2⟩
     have ei : (cs.map V.int)[i]? = some (.int cs[i]):=by rw [List.getElem?_map,List.getElem?_eq_getElem hi]; rfl
     refine ⟨⟨_,_,SqT.of (s2 _ _ ha),ei⟩,?_⟩
     rintro x' H' ⟨rfl,hall⟩
     have ex:=hall _ (SqT.of (s2 _ _ ha))
     rw [ei] at ex
     cases ex
     refine gName_yes ?_
     refine ⟨_,rfl,.int cs[i],_, "int",true,rfl,.int cs[i],rfl,true,rfl,iteT ?_⟩
     refine ⟨_,rfl,.int cs[i],_, "bool",false,rfl,.int cs[i],rfl,false,rfl,?_⟩
     refine ⟨_,hDD,?_,lcW_next hi upd_same ⟨⟨?_,?_⟩,⟨_,rfl⟩,?_⟩⟩
     · exact small (by omega)
     · rw [List.length_append,List.length_singleton,hl]
     · intro y hy
       rcases List.mem_append.mp hy with hy | hy
       · exact hacc y hy
       · rw [List.mem_singleton.mp hy]
         rfl
     · intro y o hy
       rw [upd_ne (ne_of_none hy hD)]
       exact s2 y o hy
end
end Gen
namespace Gen
open PySem L2
theorem filter_take {α : Type} {p : α → Bool} {l : List α} {i : Nat} {x : α} (h : l[i]? = some x) : (l.take (i + 1)).filter p = (l.take i).filter p ++ if p x = true then [x] else []:=by
 rw [List.take_succ,h,List.filter_append]
 cases hp : p x <;> simp [hp]
theorem Keep.seqT' {K : PySem.W.Frag} {H H' : Hp} {u l : Addr} {xs n : List V} (k : Keep H H' l) (hl : H l = some (.lst n)) (h : SqT K H u xs) : SqT K H' u xs:=by
 rcases h with (h | ⟨o,h⟩) | h
 · exact .inl (.inl (k u _ h (ne_of h hl (by intro z; cases z))))
 · exact .inl (.inr ⟨o,k u _ h (ne_of h hl (by intro z; cases z))⟩)
 · exact .inr h
section
variable {P : Program} {w : World} {K : PySem.W.Frag} {mg : Str → Option Value} {base : Heap} {C : Addr}
theorem scFi : FnScope ["_law_m", "_law_found", "_law_stand"] ["_law_m"] (defScope sFirsts):=⟨rfl,rfl,rfl,by decide +kernel,rfl,by decide +kernel,by decide +kernel⟩
theorem ok_firsts {f fA : Addr} {fd dA : FuncData} (F : Fun K "_law_firsts" "_law_firsts" sFirsts f fd) (O2 : Own2 mg)
 (gA : FnOk P w K mg base CX0 1 fA dA ["_law_many"] (spAllB K)) (mA : mg "_law_all_bits" = some (.ref fA)) (kA : PySem.W.keepIn K (.ref fA) = true) (bA : Binds K dA ["_law_many"] []) : FnOk P w K mg base CX0 2 f fd ["_law_m"] (spFirsts K):=by
 refine F.ok scFi (fun vs H Q E h=>?_) (fun cdv A outer s H vs Q E hr h=>?_)
 · obtain ⟨m,a1,a2,a3,a4,a5,a6,M,rfl,_⟩:=h
   rfl
 · obtain ⟨m,a1,a2,a3,a4,a5,a6,M,rfl,hM,hk6,hfr,kk⟩:=h
   have hu:=hu_of hr
   refine ⟨_,pss_cons (ps_set (i:=1) scFi.nd rfl (Or.inl rfl) (pe_lst pa_nil))
    (pss_cons (ps_for PassesOwn.never rfl (pi_list (pe_call gA hr rfl mA kA bA .nil pass0 (pa_cons (pe_callB call_len_seq (by rfl) O2.len PySem.boot_len (pa_cons (pe_dget hu (pv 0) pe_str (fun _ _=>rfl)) pa_nil)) pa_nil))) (pg_name (i:=2) scFi.nd rfl (Or.inl rfl))
     (pss_one (ps_if (pt_val (pe_callB (call_all_bools rfl) (by rfl) O2.all PyProof.Rows.boot_all (pa_cons (pe_lc (N:=["_law_name", "_law_first", "_law_bit"]) (js:=[none,none,none]) (g:=gTup K 2 (gCons (gTup K 2 (gCons (gName 0) (gCons (gName 1) gNil))) (gCons (gName 2) gNil))) (by kernel_rfl) rfl (pi_zipL (by rfl) O2.zip (pa_cons (pe_dget hu (pv 0) pe_str (fun _ _=>rfl)) (pa_cons (pv 2) pa_nil)))
      (fun _ _ _ _ _ _=>pg_tup rfl (pgs_cons (pg_tup rfl (pgs_cons (pg_name (i:=0) ndNFB rfl (Or.inl rfl) (.inr rfl)) (pgs_cons (pg_name (i:=1) ndNFB rfl (Or.inl rfl) (.inr rfl)) pgs_nil))) (pgs_cons (pg_name (i:=2) ndNFB rfl (Or.inl rfl) (.inr rfl)) pgs_nil))) (fun _ _ _ _ _ _=>pifs_nil)
      (fun _ _ _ _ _ _=>pe_or (pe_cmp (pc_isN (pv 1))) (pe_one (pe_cmpR op_eq (pv 1) (pv 2) (nomark _))))) pa_nil)))
      (pss_one (ps_expr (pe_bm PySem.F.plainAttrs_list PySem.F.slot_list_append PySem.F.type_list_append mt_append (pv 1) (pa_cons (pv 2) pa_nil)))) pss_nil)))
    (pss_one (ps_ret (pv 1)))),?_⟩
   refine ⟨(by show 0 ≤ sizeLine; decide),fun p hp=>?_⟩
   have t0 : Same H (upd H p (.lst [])):=Same.upd_new hp
   have q0 : (upd H p (.lst [])) p = some (.lst (([] : List Addr).map V.ref)):=upd_same
   generalize upd H p (.lst []) = H0 at t0 q0 ⊢
   have hM0:=hM.same t0
   obtain ⟨ks,hks,pks⟩:=id hM0.kp
   have lks:=pks.length
   rw [List.length_map] at lks
   refine ⟨_,rfl,m,.ref a2,rfl,DGet.k (k:=.inr "keepers") hM0.top,a2,_,rfl,.inl (SqL.of hks),?_⟩
   rw [List.length_map]
   refine ⟨_,rfl,by omega,by omega,fun a us H1 s1 ha hau hus=>?_⟩
   have ekn : ((ks.length : Int)).toNat = M.keepers.length:=by omega
   rw [ekn] at hus
   have hlr : (risL M.keepers.length).length ≤ 64:=by
    rw [ris_len]
    have h2 : 2 ^ M.keepers.length ≤ 2 ^ 6:=Nat.pow_le_pow_right (by decide) hk6
    omega
   have hul:=hus.length
   have npa : a ≠ p:=fun e=>by rw [e,q0] at ha; cases ha
   have hp1:=s1 _ _ q0
   have hfs' : ∀ v ∈ M.keepers.map (·.2),Frst v:=fun v hv=>by
    obtain ⟨r,hr',rfl⟩:=List.mem_map.mp hv
    exact hfr r hr'
   have hre:=ris_each M.keepers.length
   have a2p : a2 ≠ p:=fun e=>by
    obtain ⟨k2,h2,_⟩:=id hM.kp
    rw [e,hp] at h2
    cases h2
   have mp : m ≠ p:=fun e=>by have:=hM.top; rw [e,hp] at this; cases this
   generalize hrows : risL M.keepers.length = rows at hus hlr hul kk hre
   generalize hfs : M.keepers.map (·.2) = fs at hfs' kk
   have hfl : fs.length = M.keepers.length:=by rw [← hfs,List.length_map]
   refine ⟨a,rfl,⟨_,SqL.of hau⟩,for_list (K:=K) (a:=a) (xs:=us.map V.ref) (fun i σ Hi=>∃ (ws : List Addr) (v2 : Option V),σ = [some (.ref m),some (.ref p),v2] ∧ Hi p = some (.lst (ws.map V.ref)) ∧ RowsT K Hi ws ((rows.take i).filter (okF fs)) ∧ Keep H1 Hi p) ?_ ?_ ?_ ?_⟩
   · exact ⟨[],none,rfl,hp1,.nil,Keep.refl _ _⟩
   · rintro i σ Hi _ ⟨_,_,_,_,_,ki⟩
     exact SqL.of (ki _ _ hau npa)
   · rintro i xv σ Hi hx ⟨ws,v2,rfl,hpi,hws,ki⟩
     have hi : i < us.length:=by
      have:=(List.getElem?_eq_some_iff.mp hx).1
      rwa [List.length_map] at this
     have hir : i < rows.length:=by omega
     have hri : rows[i]? = some rows[i]:=List.getElem?_eq_getElem hir
     obtain ⟨t,ht,hT⟩:=paired_at hus (i:=i) hri
     have ex : xv = .ref t:=by
      rw [List.getElem?_map,ht] at hx
      exact (Option.some.inj hx).symm
     subst ex
     have hrl:=hre _ (List.getElem_mem hir)
     have hflt:=filter_take (p:=okF fs) hri
     generalize rows[i] = r at hT hrl hflt
     have ht2 : SqT K Hi t (r.map V.int):=Keep.seqT' ki hp1 hT
     have hM2 : Hi m = some (.dK (machKvs a1 a2 a3 a4 a5 a6)):=ki _ _ (s1 _ _ hM0.top) mp
     have hk2 : Hi a2 = some (.lst (ks.map V.ref)):=ki _ _ (s1 _ _ hks) a2p
     have pk2 : Paired (fun t r=>Hi t = some (.tup r)) ks (M.keepers.map rowK):=Paired.mapP pks fun t r e=>ki _ _ (s1 _ _ e) (ne_of (s1 _ _ e) hp1 (by intro z; cases z))
     have hwl:=hws.length
     have hwl2 : ((rows.take i).filter (okF fs)).length ≤ 64:=by
      refine Nat.le_trans (List.length_filter_le _ _) ?_
      rw [List.length_take]
      omega
     refine ⟨_,rfl,m,.ref a2,rfl,DGet.k (k:=.inr "keepers") hM2,_,rfl,a2,t,rfl,⟨_,SqL.of hk2⟩,⟨_,ht2⟩,fun D hD=>?_⟩
     refine lc_by fs.length (fun j acc σ H4=>acc = (((fs.zip r).take j).map fun p=>firstB p.1 p.2).map V.bl ∧ (∃ u v x,σ = [u,v,x]) ∧ Same Hi H4) ⟨rfl,⟨none,none,none,rfl⟩,Same.upd_new hD⟩ upd_same ?_ ?_
     · rintro acc σ H4 hDD ⟨rfl,_,s4⟩
       rw [List.take_of_length_le (by rw [List.length_zip]; omega)] at hDD
       refine ⟨⟨_,(show ZK K false H4 a2 _ from SqL.of (s4 _ _ hk2)),by rw [List.length_map,lks,hfl]; exact Nat.le_refl _⟩,D,_,rfl,SqL.of hDD,?_⟩
       rw [← okF_take (by omega)]
       have hp4:=s4 _ _ hpi
       refine ⟨_,rfl,ite2 (fun h=>?_) (fun h=>?_)⟩
       · rw [if_pos h] at hflt
         refine ⟨_,rfl,.inl ⟨rfl,_,SqL.of hp4⟩,_,rfl,p,_,_,rfl,rfl,hp4,(by rw [List.length_map]; exact small (by omega)),ws ++ [t],_,rfl,(by rw [upd_same,List.map_append]; rfl),?_,?_⟩
         · rw [hflt]
           have kp : Keep H4 (upd H4 p (.lst (ws.map V.ref ++ [.ref t]))) p:=Keep.upd_at
           exact Paired.snoc (Paired.mapP hws fun u b e=>Keep.seqT' kp hp4 (Same.seqT s4 e)) (Keep.seqT' kp hp4 (Same.seqT s4 ht2))
         · intro b o hb hn
           rw [upd_ne hn]
           exact s4 _ _ (ki _ _ hb hn)
       · rw [if_neg h,List.append_nil] at hflt
         exact ⟨ws,_,rfl,hp4,by rw [hflt]; exact hws.same s4,fun b o hb hn=>s4 _ _ (ki _ _ hb hn)⟩
     · rintro j acc σ H4 hj hDD ⟨rfl,⟨u,v,x,rfl⟩,s4⟩
       have hjr : j < r.length:=by omega
       have hjk : j < M.keepers.length:=by omega
       have hkj : M.keepers[j]? = some M.keepers[j]:=List.getElem?_eq_getElem hjk
       obtain ⟨kt,hkt,eK⟩:=paired_at pk2 (i:=j) (b:=rowK M.keepers[j]) (by rw [List.getElem?_map,hkj]; rfl)
       have e1 : (ks.map V.ref)[j]? = some (.ref kt):=by rw [List.getElem?_map,hkt]; rfl
       have e2 : (r.map V.int)[j]? = some (.int r[j]):=by rw [List.getElem?_map,List.getElem?_eq_getElem hjr]; rfl
       have z1 : ZK K false H4 a2 (ks.map V.ref):=SqL.of (s4 _ _ hk2)
       have z2 : ZK K true H4 t (r.map V.int):=Same.seqT s4 ht2
       refine ⟨⟨_,_,_,_,z1,z2,e1,e2⟩,?_⟩
       rintro x' H' ⟨Tp,xa,xb,rfl,hTp,rfl,h1,h2⟩
       have e3:=h1 _ z1
       have e4:=h2 _ z2
       rw [e1] at e3
       rw [e2] at e4
       cases e3
       cases e4
       have sT : Same H4 (upd H4 Tp (.tup [.ref kt,.int r[j]])):=Same.upd_new hTp
       have hDT:=sT _ _ hDD
       have efj : fs[j] = M.keepers[j].2:=by
        have : fs[j]? = some M.keepers[j].2:=by rw [← hfs,List.getElem?_map,hkj]; rfl
        rw [List.getElem?_eq_getElem hj] at this
        exact Option.some.inj this
       have hz : (fs.zip r)[j]? = some (M.keepers[j].2,r[j]):=by rw [List.getElem?_eq_getElem (by rw [List.length_zip]; omega),List.getElem_zip,efj]
       have hvi : Frst M.keepers[j].2:=hfr _ (List.getElem_mem hjk)
       refine ⟨Tp,_,rfl,SqT.of upd_same,rfl,_,_,rfl,kt,_,rfl,SqT.of (sT _ _ (s4 _ _ eK)),rfl,_,_,rfl,_,_,rfl,rfl,_,_,rfl,rfl,yes_if ?_⟩
       refine ⟨_,rfl,_,rfl,?_⟩
       have fin : ∀ b,b = firstB M.keepers[j].2 r[j] → ∃ acc,(upd H4 Tp (.tup [.ref kt,.int r[j]])) D = some (.lst acc) ∧ acc.length < sizeLine ∧ ∃ m',m' < fs.length - j ∧ LcW D fs.length (fun j acc σ H4=>acc = (((fs.zip r).take j).map fun p=>firstB p.1 p.2).map V.bl ∧ (∃ u v x,σ = [u,v,x]) ∧ Same Hi H4) (j + 1) m' [some (.str M.keepers[j].1),some M.keepers[j].2,some (.int r[j])] (upd (upd H4 Tp (.tup [.ref kt,.int r[j]])) D (.lst (acc ++ [.bl b]))):=by
        rintro b rfl
        refine ⟨_,hDT,?_,lcW_next hj upd_same ⟨?_,⟨_,_,_,rfl⟩,?_⟩⟩
        · rw [List.length_map,List.length_map,List.length_take]
          exact small (by omega)
        · rw [take_next (fun p : V × Int=>firstB p.1 p.2) hz,List.map_append]
          rfl
        · intro y o hy
          rw [upd_ne (ne_of_none hy hD)]
          exact sT _ _ (s4 y o hy)
       rcases hvi with e | e | e
       · rw [e] at fin ⊢
         refine iteF ⟨_,rfl,_,rfl,rfl,?_⟩
         exact fin _ (by rw [firstB]; rfl)
       · rw [e] at fin ⊢
         refine iteF ⟨_,rfl,_,rfl,rfl,?_⟩
         exact fin _ (by rw [firstB]; rfl)
       · rw [e] at fin ⊢
         exact iteT (fin _ (by rw [firstB]; rfl))
   · rintro σ Hi ⟨ws,v2,rfl,hpi,hws,ki⟩
     rw [List.length_map,hul,List.take_length] at hws
     have s2 : Same H Hi:=fun b o hb=>ki _ _ (s1 _ _ (t0 _ _ hb)) (ne_of_none hb hp)
     exact ⟨_,rfl,kk p ws Hi s2 hp hpi hws⟩
end
end Gen
namespace Gen
open PySem L2
abbrev sLaw : Stmt:=top 48
abbrev nLaw : List Str:=["_law_script", "_law_m", "_law_machine_here", "_law_due", "_law_turn", "_law_found", "_law_stand"]
theorem scLaw : FnScope nLaw ["_law_script"] (defScope sLaw):=⟨rfl,rfl,rfl,by decide +kernel,rfl,by decide +kernel,by decide +kernel⟩
abbrev cxLaw (P : Program) (w : World) (K : PySem.W.Frag) (mg : Str → Option Value) (base : Heap) (f : Addr) (cdv : Value) (A : Around) (outer : List Env) (s : Shared) (H : Hp) (E : XK) : Cx :=
 (cxOf CX0 P w K mg base nLaw "law" (defScope sLaw) f cdv A outer s H E).nox
def spLaw (K : PySem.W.Frag) : Sp:=fun vs H Q _=>∃ (a : Addr) (ns : List Int),vs = [.ref a] ∧ SqL K H a (ns.map V.int) ∧ ns.length ≤ 63 ∧ ∀ H',Q (.bl true) H'
theorem ndOO : (["_law_one", "_law_other"] : List Str).Nodup:=by decide +kernel
structure CallsL (P : Program) (w : World) (K : PySem.W.Frag) (mg : Str → Option Value) (base : Heap) (C fM fR fRd fA fF fS fI fW : Addr) (dM dR dRd dA dF dS dI dW : FuncData) : Prop where
 gM : FnOk P w K mg base CX0 5 fM dM pMac (spMachine K)
 mM : mg "_law_machine" = some (.ref fM)
 kM : PySem.W.keepIn K (.ref fM) = true
 bM : Binds K dM pMac []
 gR : FnOk P w K mg base CX0 2 fR dR ["_law_m"] spRows
 mR : mg "_law_rows" = some (.ref fR)
 kR : PySem.W.keepIn K (.ref fR) = true
 bR : Binds K dR ["_law_m"] []
 gRd : FnOk P w K mg base CX0 6 fRd dRd ["text"] (spRead C)
 mRd : mg "read_machine" = some (.ref fRd)
 kRd : PySem.W.keepIn K (.ref fRd) = true
 bRd : Binds K dRd ["text"] []
 gA : FnOk P w K mg base CX0 1 fA dA ["_law_many"] (spAllB K)
 mA : mg "_law_all_bits" = some (.ref fA)
 kA : PySem.W.keepIn K (.ref fA) = true
 bA : Binds K dA ["_law_many"] []
 gF : FnOk P w K mg base CX0 2 fF dF ["_law_m"] (spFirsts K)
 mF : mg "_law_firsts" = some (.ref fF)
 kF : PySem.W.keepIn K (.ref fF) = true
 bF : Binds K dF ["_law_m"] []
 gS : FnOk P w K mg base CX0 2 fS dS ["machine"] (spFirstSt C)
 mS : mg "first_stands" = some (.ref fS)
 kS : PySem.W.keepIn K (.ref fS) = true
 bS : Binds K dS ["machine"] []
 gI : FnOk P w K mg base CX0 1 fI dI ["machine", "stand"] (spIsF C K)
 mI : mg "is_first" = some (.ref fI)
 kI : PySem.W.keepIn K (.ref fI) = true
 bI : Binds K dI ["machine", "stand"] []
 gW : FnOk P w K mg base CX0 1 fW dW ["_law_found", "_law_due"] (spWhole K)
 mW : mg "_law_whole_bits" = some (.ref fW)
 kW : PySem.W.keepIn K (.ref fW) = true
 bW : Binds K dW ["_law_found", "_law_due"] []
theorem mem_filter_ok {fs : List V} {k : Nat} {r : List Int} (h : r ∈ risL k) : decide (r ∈ (risL k).filter (okF fs)) = okF fs r:=by
 rw [Bool.eq_iff_iff,decide_eq_true_eq,List.mem_filter]
 exact ⟨fun z=>z.2,fun z=>⟨h,z⟩⟩
section
variable {P : Program} {w : World} {K : PySem.W.Frag} {mg : Str → Option Value} {base : Heap} {C fM fR fRd fA fF fS fI fW : Addr} {dM dR dRd dA dF dS dI dW : FuncData}
structure LW (C : Addr) (K : PySem.W.Frag) (H : Hp) (m x dx p : Addr) (a1 a2 a3 a4 a5 a6 g1 g2 g3 g4 g5 g6 : Addr) (ts us : List Addr) (M : Mach) : Prop where
 hM : MachAt H m M a1 a2 a3 a4 a5 a6
 hR : RM C H x dx g1 g2 g3 g4 g5 g6 ts M
 hp : H p = some (.lst (us.map V.ref))
 hu : RowsT K H us ((risL M.keepers.length).filter (okF (M.keepers.map (·.2))))
theorem LW.same {H H' : Hp} {m x dx p a1 a2 a3 a4 a5 a6 g1 g2 g3 g4 g5 g6 : Addr} {ts us : List Addr} {M : Mach} (h : LW C K H m x dx p a1 a2 a3 a4 a5 a6 g1 g2 g3 g4 g5 g6 ts us M) (s : Same H H') : LW C K H' m x dx p a1 a2 a3 a4 a5 a6 g1 g2 g3 g4 g5 g6 ts us M:=⟨h.hM.same s,h.hR.same s,s _ _ h.hp,h.hu.same s⟩
theorem law_2 {f : Addr} (O2 : Own2 mg) (G : CallsL P w K mg base C fM fR fRd fA fF fS fI fW dM dR dRd dA dF dS dI dW)
 {cdv : Value} {A : Around} {outer : List Env} {s : Shared} {H : Hp} {E : XK} {Q : VK} (hr : Room 6 (A.deeper (PyProof.Rows.envOfC "law" (defScope sLaw) s.heap.objs.size f cdv))) (kk : ∀ H',Q (.bl true) H') :
 ∃ tR : TS,PSs (cxLaw P w K mg base f cdv A outer s H E) (List.drop 4 (defBody sLaw)) tR ∧ ∀ (H1 : Hp) (v0 v4 v5 v6 : Option V) (m x dx p a1 a2 a3 a4 a5 a6 g1 g2 g3 g4 g5 g6 : Addr) (ts us : List Addr) (M : Mach),
  LW C K H1 m x dx p a1 a2 a3 a4 a5 a6 g1 g2 g3 g4 g5 g6 ts us M → M.keepers.length ≤ 6 → (∀ r ∈ M.keepers,Frst r.2) →
  tR { nx:=fun _ H'=>Q .non H',rt:=Q } [v0,some (.ref m),some (.ref x),some (.ref p),v4,v5,v6] H1:=by
 have hu:=hu_of hr
 have hu2:=Nat.lt_of_le_of_lt (Nat.add_le_add_left (by decide : 2 ≤ 64) _) hr.units
 have hr1 : Room 1 _:=hr.mono (by decide)
 refine ⟨_,pss_cons (ps_for PassesOwn.never rfl (pi_list (pe_call G.gA hr1 rfl G.mA G.kA G.bA .nil pass0 (pa_cons (pe_callB call_len_seq (by rfl) O2.len PySem.boot_len (pa_cons (pe_dget hu (pv 1) pe_str (fun _ _=>rfl)) pa_nil)) pa_nil))) (pg_name (i:=6) scLaw.nd rfl (Or.inl rfl))
  (pss_cons (ps_set (i:=5) scLaw.nd rfl (Or.inl rfl) (pe_call G.gI hr1 rfl G.mI G.kI G.bI .nil pass0 (pa_cons (pv 2) (pa_cons (pv 6) pa_nil))))
  (pss_one (ps_if (pw_or (pt_not (pt_val (pe_callB call_isinst (by rfl) O2.isi PyProof.Rows.boot_isinstance (pa_cons (pv 5) (pa_cons (pe_bltn (v:=.ty "bool") (by rfl) O2.bool PyProof.Rows.boot_bool rfl) pa_nil)))))
   (pw_or1 (pt_cmpR op_ne (pv 5) (pe_cmpR (op_inT hu2) (pv 6) (pv 3) (by with_unfolding_all rfl)) (nomark _)))).pt (pss_one (ps_ret pe_bl)) pss_nil))))
  (pss_one (ps_ret pe_bl)),?_⟩
 intro H1 v0 v4 v5 v6 m x dx p a1 a2 a3 a4 a5 a6 g1 g2 g3 g4 g5 g6 ts us M hW hk6 hfr
 obtain ⟨ks,hks,pks⟩:=id hW.hM.kp
 have lks:=pks.length
 rw [List.length_map] at lks
 refine ⟨_,rfl,m,.ref a2,rfl,DGet.k (k:=.inr "keepers") hW.hM.top,a2,_,rfl,.inl (SqL.of hks),?_⟩
 rw [List.length_map]
 refine ⟨_,rfl,by omega,by omega,fun a bs H2 s2 ha hab hbs=>?_⟩
 have ekn : ((ks.length : Int)).toNat = M.keepers.length:=by omega
 rw [ekn] at hbs
 have hbl:=hbs.length
 have W2:=hW.same s2
 refine ⟨a,rfl,⟨_,SqL.of hab⟩,for_list (K:=K) (a:=a) (xs:=bs.map V.ref) (fun i σ Hi=>∃ v5 v6 : Option V,σ = [v0,some (.ref m),some (.ref x),some (.ref p),v4,v5,v6] ∧ Same H2 Hi) ?_ ?_ ?_ ?_⟩
 · exact ⟨_,_,rfl,fun _ _ h=>h⟩
 · rintro i σ Hi _ ⟨_,_,_,si⟩
   exact SqL.of (si _ _ hab)
 · rintro i xv σ Hi hx ⟨v5',v6',rfl,si⟩
   have hi : i < bs.length:=by
    have:=(List.getElem?_eq_some_iff.mp hx).1
    rwa [List.length_map] at this
   have hir : i < (risL M.keepers.length).length:=by omega
   obtain ⟨t,ht,hT⟩:=paired_at hbs (i:=i) (List.getElem?_eq_getElem hir)
   have ex : xv = .ref t:=by
    rw [List.getElem?_map,ht] at hx
    exact (Option.some.inj hx).symm
   subst ex
   have hmem:=List.getElem_mem hir
   have hrl:=ris_each _ _ hmem
   generalize (risL M.keepers.length)[i] = r at hT hmem hrl
   have Wi:=W2.same si
   have hTi:=Same.seqT si hT
   refine ⟨_,rfl,_,rfl,x,dx,g1,g2,g3,g4,g5,g6,t,ts,M,r,rfl,Wi.hR,hk6,by omega,hTi,hfr,fun H3 s3=>?_⟩
   have W3:=Wi.same s3
   refine ⟨_,rfl,.bl _,_, "bool",true,rfl,.bl _,rfl,true,rfl,iteF ?_⟩
   refine ⟨_,rfl,_,rfl,_,rfl,t,p,r,us,_,rfl,rfl,Same.seqT s3 hTi,SqL.of W3.hp,W3.hu,?_⟩
   rw [mem_filter_ok hmem]
   exact ⟨rfl,_,rfl,iteNS rfl ⟨_,_,rfl,si.trans s3⟩⟩
 · rintro σ Hi ⟨v5',v6',rfl,si⟩
   exact kk Hi
theorem law_1 {f : Addr} (O : Own mg) (O2 : Own2 mg) (G : CallsL P w K mg base C fM fR fRd fA fF fS fI fW dM dR dRd dA dF dS dI dW)
 {cdv : Value} {A : Around} {outer : List Env} {s : Shared} {H : Hp} {E : XK} {Q : VK} (hr : Room 6 (A.deeper (PyProof.Rows.envOfC "law" (defScope sLaw) s.heap.objs.size f cdv))) (kk : ∀ H',Q (.bl true) H') :
 ∃ tR : TS,PSs (cxLaw P w K mg base f cdv A outer s H E) (List.drop 3 (defBody sLaw)) tR ∧ ∀ (H1 : Hp) (v0 v4 v5 v6 : Option V) (m x dx p a1 a2 a3 a4 a5 a6 g1 g2 g3 g4 g5 g6 : Addr) (ts us : List Addr) (M : Mach),
  LW C K H1 m x dx p a1 a2 a3 a4 a5 a6 g1 g2 g3 g4 g5 g6 ts us M → M.keepers.length ≤ 6 → (∀ r ∈ M.keepers,Frst r.2) →
  tR { nx:=fun _ H'=>Q .non H',rt:=Q } [v0,some (.ref m),some (.ref x),some (.ref p),v4,v5,v6] H1:=by
 have hu:=hu_of hr
 have hr1 : Room 1 _:=hr.mono (by decide)
 have hr2 : Room 2 _:=hr.mono (by decide)
 obtain ⟨t2,h2,r2⟩:=law_2 (f:=f) O2 G (cdv:=cdv) (A:=A) (outer:=outer) (s:=s) (H:=H) (E:=E) (Q:=Q) hr kk
 refine ⟨_,pss_cons (ps_for PassesOwn.never rfl (pi_range1 rfl O.range (pa_cons pe_int pa_nil)) (pg_name (i:=4) scLaw.nd rfl (Or.inl rfl))
  (pss_cons (ps_set (i:=5) scLaw.nd rfl (Or.inl rfl) (pe_call G.gS hr2 rfl G.mS G.kS G.bS .nil pass0 (pa_cons (pv 2) pa_nil)))
  (pss_cons (ps_if (pw_or (pt_not (pt_val (pe_callB call_isinst (by rfl) O2.isi PyProof.Rows.boot_isinstance (pa_cons (pv 5) (pa_cons (pe_bltn (v:=.ty "list") (by rfl) O2.list PyProof.Rows.boot_list rfl) pa_nil)))))
   (pw_or1 (pt_cmpR op_ne (pe_callB call_len_seq (by rfl) O2.len PySem.boot_len (pa_cons (pv 5) pa_nil)) (pe_callB call_len_seq (by rfl) O2.len PySem.boot_len (pa_cons (pv 3) pa_nil)) (nomark _)))).pt (pss_one (ps_ret pe_bl)) pss_nil)
  (pss_cons (ps_if (pt_not (pt_val (pe_callB (call_all_true rfl) (by rfl) O2.all PyProof.Rows.boot_all (pa_cons (pe_lc (N:=["_law_one", "_law_other"]) (js:=[none,none]) (g:=gTup K 2 (gCons (gName 0) (gCons (gName 1) gNil))) (by kernel_rfl) rfl (pi_zipS rfl O2.zip (pa_cons (pv 5) (pa_cons (pv 3) pa_nil)))
   (fun _ _ _ _ _ _=>pg_tup rfl (pgs_cons (pg_name (i:=0) ndOO rfl (Or.inl rfl) (.inr rfl)) (pgs_cons (pg_name (i:=1) ndOO rfl (Or.inl rfl) (.inr rfl)) pgs_nil))) (fun _ _ _ _ _ _=>pifs_nil)
   (fun _ _ _ _ _ _=>pe_call G.gW hr1 rfl G.mW G.kW G.bW .nil pass0 (pa_cons (pv 0) (pa_cons (pv 1) pa_nil)))) pa_nil)))) (pss_one (ps_ret pe_bl)) pss_nil)
  (pss_one (ps_expr (pe_bm PySem.F.plainAttrs_list PySem.F.slot_list_append PySem.F.type_list_append mt_append (pv 5) (pa_cons (pe_tup pa_nil) pa_nil))))))))
  h2,?_⟩
 intro H1 v0 v4 v5 v6 m x dx p a1 a2 a3 a4 a5 a6 g1 g2 g3 g4 g5 g6 ts us M hW hk6 hfr
 have hfs' : ∀ v ∈ M.keepers.map (·.2),Frst v:=fun v hv=>by
  obtain ⟨r,hr',rfl⟩:=List.mem_map.mp hv
  exact hfr r hr'
 have eR:=risF_eq M.keepers.length (M.keepers.map (·.2)) (List.length_map ..) hfs'
 have hRe : ∀ r ∈ (risL M.keepers.length).filter (okF (M.keepers.map (·.2))),r.length ≤ 100:=fun r hr'=>by
  have:=ris_each _ _ (List.mem_filter.mp hr').1
  omega
 have hRl : ((risL M.keepers.length).filter (okF (M.keepers.map (·.2)))).length ≤ 64:=by
  refine Nat.le_trans (List.length_filter_le _ _) ?_
  rw [ris_len]
  have h2 : 2 ^ M.keepers.length ≤ 2 ^ 6:=Nat.pow_le_pow_right (by decide) hk6
  omega
 refine ⟨2,rfl,by decide,by decide,for_range (n:=2) (fun i σ H3=>∃ v4 v5,σ = [v0,some (.ref m),some (.ref x),some (.ref p),v4,v5,v6] ∧ Same H1 H3) ?_ ?_ ?_⟩
 · exact ⟨_,_,rfl,fun _ _ h=>h⟩
 · rintro i σ H3 hi ⟨v4',v5',rfl,s3⟩
   have W3:=hW.same s3
   refine ⟨_,rfl,x,dx,g1,g2,g3,g4,g5,g6,ts,M,rfl,W3.hR,hk6,hfr,fun q ws H4 s4 hq hq4 hws=>?_⟩
   rw [eR] at hws
   have W4:=W3.same s4
   have hdu:=W4.hu
   have hdp:=W4.hp
   have hpq : p ≠ q:=fun e=>by rw [← e,W3.hp] at hq; cases hq
   generalize (risL M.keepers.length).filter (okF (M.keepers.map (·.2))) = R at hws hdu hRe hRl
   have hwl:=hws.length
   have hdl:=hdu.length
   refine ⟨_,rfl,.ref q,_, "list",true,rfl,.lst hq4,rfl,true,rfl,iteF ?_⟩
   refine ⟨_,rfl,q,_,rfl,.inl (SqL.of hq4),_,rfl,p,_,rfl,.inl (SqL.of hdp),rfl,_,rfl,?_⟩
   rw [List.length_map,List.length_map,hwl,hdl]
   refine iteNS rfl ?_
   refine ⟨_,rfl,_,rfl,q,p,rfl,⟨_,SqL.of hq4⟩,⟨_,SqL.of hdp⟩,fun D hD=>?_⟩
   refine lc_by R.length (fun j acc σ' H5=>(acc.length = j ∧ ∀ y ∈ acc,y = .bl true) ∧ (∃ u v,σ' = [u,v]) ∧ Same H4 H5) ⟨⟨rfl,fun _ h=>nomatch h⟩,⟨none,none,rfl⟩,Same.upd_new hD⟩ upd_same ?_ ?_
   · rintro acc σ' H5 hDD ⟨⟨_,hacc⟩,_,s5⟩
     refine ⟨⟨_,(show ZK K false H5 q _ from SqL.of (s5 _ _ hq4)),by rw [List.length_map,hwl]; exact Nat.le_refl _⟩,D,_,rfl,SqL.of hDD,hacc,true,rfl,iteF ?_⟩
     have hq5:=s5 _ _ hq4
     refine ⟨_,rfl,.inl ⟨rfl,_,SqL.of hq5⟩,(by show 0 ≤ sizeLine; decide),fun tt htt=>?_⟩
     have s6 : Same H5 (upd H5 tt (.tup [])):=Same.upd_new htt
     have hq6:=s6 _ _ hq5
     refine ⟨q,_,_,rfl,rfl,hq6,?_,?_⟩
     · rw [List.length_map,hwl]
       exact small (by omega)
     · refine ⟨_,_,rfl,fun b o hb'=>?_⟩
       rw [upd_ne (ne_of_none (s3 _ _ hb') hq)]
       exact s6 _ _ (s5 _ _ (s4 _ _ (s3 _ _ hb')))
   · rintro j acc σ' H5 hj hDD ⟨⟨hl,hacc⟩,⟨u,v,rfl⟩,s5⟩
     obtain ⟨a,ha,hA⟩:=paired_at hws (i:=j) (List.getElem?_eq_getElem hj)
     obtain ⟨b,hb',hB⟩:=paired_at hdu (i:=j) (List.getElem?_eq_getElem hj)
     have ea : (ws.map V.ref)[j]? = some (.ref a):=by rw [List.getElem?_map,ha]; rfl
     have eb : (us.map V.ref)[j]? = some (.ref b):=by rw [List.getElem?_map,hb']; rfl
     have hp5 : ZK K false H5 q (ws.map V.ref):=SqL.of (s5 _ _ hq4)
     have he5 : ZK K false H5 p (us.map V.ref):=SqL.of (s5 _ _ hdp)
     refine ⟨⟨_,_,_,_,hp5,he5,ea,eb⟩,?_⟩
     rintro x' H' ⟨Tp,xa,xb,rfl,hT,rfl,h1,h2⟩
     have e1:=h1 _ hp5
     have e2:=h2 _ he5
     rw [ea] at e1
     rw [eb] at e2
     cases e1
     cases e2
     have sT : Same H5 (upd H5 Tp (.tup [.ref a,.ref b])):=Same.upd_new hT
     refine ⟨Tp,_,rfl,SqT.of upd_same,rfl,_,_,rfl,_,_,rfl,rfl,yes_if ?_⟩
     refine ⟨_,rfl,_,rfl,a,b,_,rfl,sT _ _ (s5 _ _ hA),Same.seqT sT (Same.seqT s5 hB),hRe _ (List.getElem_mem hj),fun H6 s6=>?_⟩
     refine ⟨_,s6 _ _ (sT _ _ hDD),?_,lcW_next hj upd_same ⟨⟨?_,?_⟩,⟨_,_,rfl⟩,?_⟩⟩
     · exact small (by omega)
     · rw [List.length_append,List.length_singleton,hl]
     · intro y hy
       rcases List.mem_append.mp hy with hy | hy
       · exact hacc y hy
       · exact List.mem_singleton.mp hy
     · intro y o hy
       rw [upd_ne (ne_of_none hy hD)]
       exact s6 y o (sT _ _ (s5 y o hy))
 · rintro σ H3 ⟨v4',v5',rfl,s3⟩
   exact r2 H3 v0 v4' v5' v6 m x dx p a1 a2 a3 a4 a5 a6 g1 g2 g3 g4 g5 g6 ts us M (hW.same s3) hk6 hfr
end
structure Again (M : Mach) : Prop where
 sh : Short M
 count : (rowsOf M).length ≤ 200
 sum : ((rowsOf M).map (·.length)).sum ≤ 8000
 len : (Txt.join "\n" (rowsOf M)).length ≤ 1000000
 row : ∀ r ∈ Txt.split (Txt.join "\n" (rowsOf M)) "\n",r.length ≤ 1000
 rd : Reads mach0 ((Txt.split (Txt.join "\n" (rowsOf M)) "\n").map wordsOf) M
theorem again {M : Mach} {names : List Str} (ok : MachOk M names) (l1 : M.switches.length ≤ 12) (l2 : M.keepers.length ≤ 16) (l3 : M.gates.length ≤ 60) (l4 : M.nexts.length ≤ 16) (l5 : 1 ≤ M.nevers.length) (n5 : M.nevers.length ≤ 4) (n6 : M.somes.length ≤ 4) : Again M:=by
 have hrd:=reads_all ok l1 l2 l3 l4 n5 n6
 obtain ⟨hsp,hwd⟩:=rows_split ok l5
 have hrl:=row_len ok
 have hcount : (rowsOf M).length ≤ 200:=by
  unfold rowsOf
  simp only [List.length_append,List.length_map]
  omega
 have hsum : ((rowsOf M).map (·.length)).sum ≤ 8000:=by
  have:=sum_le hrl
  omega
 have hjl : (Txt.join "\n" (rowsOf M)).length ≤ 1000000:=by
  rw [nl_str]
  have:=join_len 10 (rowsOf M)
  omega
 exact ⟨ok.short l1 l2 l3 l4 n5 n6,hcount,hsum,hjl,(by rw [hsp]; exact fun r hr'=>Nat.le_trans (hrl r hr') (by decide)),by rw [hsp,hwd]; exact hrd⟩
section
variable {P : Program} {w : World} {K : PySem.W.Frag} {mg : Str → Option Value} {base : Heap} {C fM fR fRd fA fF fS fI fW : Addr} {dM dR dRd dA dF dS dI dW : FuncData}
theorem ok_law {f : Addr} {fd : FuncData} (F : Fun K "law" "law" sLaw f fd) (O : Own mg) (O2 : Own2 mg) (G : CallsL P w K mg base C fM fR fRd fA fF fS fI fW dM dR dRd dA dF dS dI dW) : FnOk P w K mg base CX0 7 f fd ["_law_script"] (spLaw K):=by
 refine F.ok scLaw (fun vs H Q E h=>?_) (fun cdv A outer s H vs Q E hr h=>?_)
 · obtain ⟨a,ns,rfl,_⟩:=h
   rfl
 · obtain ⟨a,ns,rfl,hS,hlen,kk⟩:=h
   have hu:=hu_of hr
   have hr1 : Room 1 _:=hr.mono (by decide)
   have hr2 : Room 2 _:=hr.mono (by decide)
   have hr5 : Room 5 _:=hr.mono (by decide)
   obtain ⟨tT,hT,rT⟩:=law_1 (f:=f) O O2 G (cdv:=cdv) (A:=A) (outer:=outer) (s:=s) (H:=H) (E:=E) (Q:=Q) hr kk
   refine ⟨_,pss_cons (ps_set (i:=1) scLaw.nd rfl (Or.inl rfl) (pe_call G.gM hr5 rfl G.mM G.kM G.bM .nil pass0 (pa_cons (pv 0) (pa_cons (pe_lst (pa_cons pe_int (pa_cons pe_int (pa_cons pe_int (pa_cons pe_int pa_nil))))) pa_nil))))
    (pss_cons (ps_set (i:=2) scLaw.nd rfl (Or.inl rfl) (pe_call G.gRd hr rfl G.mRd G.kRd G.bRd .nil pass0 (pa_cons (pe_bm PySem.F.plainAttrs_str PySem.F.slot_str_join PySem.F.type_str_join mt_join pe_str (pa_cons (pe_call G.gR hr2 rfl G.mR G.kR G.bR .nil pass0 (pa_cons (pv 1) pa_nil)) pa_nil)) pa_nil)))
    (pss_cons (ps_set (i:=3) scLaw.nd rfl (Or.inl rfl) (pe_call G.gF hr2 rfl G.mF G.kF G.bF .nil pass0 (pa_cons (pv 1) pa_nil)))
    hT)),?_⟩
   refine ⟨_,rfl,(by show 4 ≤ sizeLine; decide),fun t ht=>?_⟩
   have st : Same H (upd H t (.lst [.int 3,.int 6,.int 10,.int 2])):=Same.upd_new ht
   refine ⟨a,t,ns,3,6,10,2,rfl,Same.seq st hS,⟨.inl (SqL.of upd_same),by decide,by decide,by decide,by decide,by decide⟩,⟨_,upd_same⟩,fun m M names a1 a2 a3 a4 a5 a6 H1 ok l1 l0 l2 l3 l4 l5 l6 l7 hM sM=>?_⟩
   have sH1:=st.trans sM
   generalize upd H t (.lst [.int 3,.int 6,.int 10,.int 2]) = Ht at st sM
   have n5 : M.nevers.length ≤ 4:=by omega
   have n6 : M.somes.length ≤ 4:=by omega
   have k6 : M.keepers.length ≤ 6:=by omega
   have hA:=again ok l0 l2.2 l3 l4 l5 n5 n6
   have hn1 : ("\n" : Str).length = 1:=by decide +kernel
   refine ⟨rfl,_,rfl,m,M,a1,a2,a3,a4,a5,a6,rfl,hM,hA.sh,fun p H2 hp sm2 hp2=>?_⟩
   refine ⟨"\n",p,rowsOf M,rfl,rfl,SqL.of hp2,(by have:=hA.count; have:=hA.sum; rw [hn1]; omega),?_⟩
   refine ⟨_,M,rfl,hA.len,hA.row,hA.rd,fun x dx g1 g2 g3 g4 g5 g6 ts H3 hfr hRM s23=>?_⟩
   have s13:=sm2.trans s23
   have hfr' : ∀ r ∈ M.keepers,Frst r.2:=ok.first
   refine ⟨_,rfl,m,a1,a2,a3,a4,a5,a6,M,rfl,hM.same s13,k6,hfr',fun p us H4 s4 hp' hp4 hus=>?_⟩
   exact rT H4 _ none none none m x dx p a1 a2 a3 a4 a5 a6 g1 g2 g3 g4 g5 g6 ts us M ⟨hM.same (s13.trans s4),hRM.same s4,hp4,hus⟩ k6 hfr'
end
end Gen
namespace L2
open PySem PySem.Spec PyProof.Rows
theorem kd_mk {P : Program} {w : World} {K : PySem.W.Frag} {a : Addr} {ep : Nat} (l : List (Str × Tok × Value)) (kvs : List (Str × V)) (hk : K.lookup a = some { cls:=.type "dict",data:=.dict (l.map fun r=>(⟨PyData.keyHash w.params r.1,.str r.1 r.2.1,r.2.2⟩ : DictEntry)).toArray ep }) (hs : (a == sysModules) = false) (nd : (l.map (·.1)).Nodup)
 (rel : Paired (fun (p : Str × V) (r : Str × Tok × Value)=>p.1 = r.1 ∧ RelV p.2 r.2.2) kvs l) : KD P w K a (kvs.map fun p=>((.inr p.1 : Key),p.2)):=by
 refine ⟨hs,_,_,ep,l.map fun r=>((.inr r.1 : Key),r.2.2),hk,⟨rfl,rfl,rfl⟩,rfl,fun e he=>?_,?_,?_,?_⟩
 · have he' : e ∈ l.map fun r=>(⟨PyData.keyHash w.params r.1,.str r.1 r.2.1,r.2.2⟩ : DictEntry):=by simpa using he
   obtain ⟨r,_,rfl⟩:=List.mem_map.mp he'
   exact ⟨.inr r.1,mixKind_str P w r.1 r.2.1,rfl⟩
 · clear hk nd rel
   show Pairs (mixKind P w) (l.map fun r=>(⟨PyData.keyHash w.params r.1,.str r.1 r.2.1,r.2.2⟩ : DictEntry)) _
   induction l with
   | nil=>exact .nil
   | cons r t ih=>exact .cons (mixKind_str P w r.1 r.2.1) rfl ih
 · rw [List.map_map]
   have e : ((fun x : Key × Value=>x.1) ∘ fun r : Str × Tok × Value=>((.inr r.1 : Key),r.2.2)) = (Sum.inr : Str → Key) ∘ fun r : Str × Tok × Value=>r.1:=rfl
   rw [e,← List.map_map]
   generalize l.map (fun r : Str × Tok × Value=>r.1) = ks at nd
   induction ks with
   | nil=>exact List.nodup_nil
   | cons x r ih =>
    rw [List.nodup_cons] at nd
    rw [List.map_cons,List.nodup_cons]
    refine ⟨fun m=>?_,ih nd.2⟩
    obtain ⟨y,hy,e⟩:=List.mem_map.mp m
    exact nd.1 (Sum.inr.inj e ▸ hy)
 · clear hk nd
   induction rel with
   | nil=>exact .nil
   | cons h _ ih=>exact .cons ⟨congrArg Sum.inr h.1,h.2⟩ ih
theorem lst1 {α : Type} : ∀ {us : List α},us.length = 1 → ∃ a,us = [a]
 | [a],_=>⟨a,rfl⟩
theorem lstS {α : Type} : ∀ {us : List α} {n : Nat},us.length = n + 1 → ∃ a r,us = a :: r ∧ r.length = n
 | a :: r,_,h=>⟨a,r,rfl,Nat.succ.inj h⟩
theorem lst2 {α : Type} {us : List α} (h : us.length = 2) : ∃ a b,us = [a,b]:=by
 obtain ⟨a,r,rfl,h1⟩:=lstS h
 obtain ⟨b,rfl⟩:=lst1 h1
 exact ⟨a,b,rfl⟩
theorem lst3 {α : Type} {us : List α} (h : us.length = 3) : ∃ a b c,us = [a,b,c]:=by
 obtain ⟨a,r,rfl,h1⟩:=lstS h
 obtain ⟨b,c,rfl⟩:=lst2 h1
 exact ⟨a,b,c,rfl⟩
theorem lst4 {α : Type} {us : List α} (h : us.length = 4) : ∃ a b c d,us = [a,b,c,d]:=by
 obtain ⟨a,r,rfl,h1⟩:=lstS h
 obtain ⟨b,c,d,rfl⟩:=lst3 h1
 exact ⟨a,b,c,d,rfl⟩
theorem lst7 {α : Type} {us : List α} (h : us.length = 7) : ∃ a b c d e f g,us = [a,b,c,d,e,f,g]:=by
 obtain ⟨a,r,rfl,h1⟩:=lstS h
 obtain ⟨b,r2,rfl,h2⟩:=lstS h1
 obtain ⟨c,r3,rfl,h3⟩:=lstS h2
 obtain ⟨d,e,f,g,rfl⟩:=lst4 h3
 exact ⟨a,b,c,d,e,f,g,rfl⟩
end L2
namespace Gen
open PySem L2
section
theorem all_mk {l : PySem.W.OpenLaw} {w : World} {K : PySem.W.Frag} {h : Heap} {mg : Str → Option Value} {fa C aF aG p1 p2 p3 p4 p5 p6 f0 f3 f4 f5 f18 f19 f20 f21 f22 f23 f24 f25 f26 f27 f28 f29 f30 f31 f32 f34 f35 f36 f37 f38 f39 f40 f41 f42 f43 f44 f45 f46 f47 f48 : Addr} (X : K.In h) (G : h.Ns mainGlobals mg) (hfa : mg "law" = some (.ref fa))
 {od0 an0 od3 an3 od4 an4 od5 an5 od18 an18 od19 an19 od20 an20 od21 an21 od22 an22 od23 an23 od24 an24 od25 an25 od26 an26 od27 an27 od28 an28 od29 an29 od30 an30 od31 an31 od32 an32 od34 an34 od35 an35 od36 an36 od37 an37 od38 an38 od39 an39 od40 an40 od41 an41 od42 an42 od43 an43 od44 an44 od45 an45 od46 an46 od47 an47 od48 an48 : Option Addr} {sl0 sl3 sl4 sl5 sl18 sl19 sl20 sl21 sl22 sl23 sl24 sl25 sl26 sl27 sl28 sl29 sl30 sl31 sl32 sl34 sl35 sl36 sl37 sl38 sl39 sl40 sl41 sl42 sl43 sl44 sl45 sl46 sl47 sl48 : Array (Option Value)} {oc0 kV0 dc0 pm0 cd0 ct0 oc3 kV3 dc3 pm3 cd3 ct3 oc4 kV4 dc4 pm4 cd4 ct4 oc5 kV5 dc5 pm5 cd5 ct5 oc18 kV18 dc18 pm18 cd18 ct18 oc19 kV19 dc19 pm19 cd19 ct19 oc20 kV20 dc20 pm20 cd20 ct20 oc21 kV21 dc21 pm21 cd21 ct21 oc22 kV22 dc22 pm22 cd22 ct22 oc23 kV23 dc23 pm23 cd23 ct23 oc24 kV24 dc24 pm24 cd24 ct24 oc25 kV25 dc25 pm25 cd25 ct25 oc26 kV26 dc26 pm26 cd26 ct26 oc27 kV27 dc27 pm27 cd27 ct27 oc28 kV28 dc28 pm28 cd28 ct28 oc29 kV29 dc29 pm29 cd29 ct29 oc30 kV30 dc30 pm30 cd30 ct30 oc31 kV31 dc31 pm31 cd31 ct31 oc32 kV32 dc32 pm32 cd32 ct32 oc34 kV34 dc34 pm34 cd34 ct34 oc35 kV35 dc35 pm35 cd35 ct35 oc36 kV36 dc36 pm36 cd36 ct36 oc37 kV37 dc37 pm37 cd37 ct37 oc38 kV38 dc38 pm38 cd38 ct38 oc39 kV39 dc39 pm39 cd39 ct39 oc40 kV40 dc40 pm40 cd40 ct40 oc41 kV41 dc41 pm41 cd41 ct41 oc42 kV42 dc42 pm42 cd42 ct42 oc43 kV43 dc43 pm43 cd43 ct43 oc44 kV44 dc44 pm44 cd44 ct44 oc45 kV45 dc45 pm45 cd45 ct45 oc46 kV46 dc46 pm46 cd46 ct46 oc47 kV47 dc47 pm47 cd47 ct47 oc48 kV48 dc48 pm48 cd48 ct48 : Value}
 {epF epG : Nat} {tL tN tS tK tG tW u1 u2 u3 x1 x2 k0t k1t k2t k3t k4t k5t q00 q10 q11 q20 q21 q22 q30 q31 q40 q41 q50 q51 : Tok} {pd0 pd1 pd2 pd3 pd4 pd5 : Option Addr} {ps0 ps1 ps2 ps3 ps4 ps5 : Array (Option Value)} {pe0 pe1 pe2 pe3 pe4 pe5 : Nat}
 (aC : PySem.W.nsIn K mainGlobals "Machine" = some (some (.ref C)))
 (a0 : PySem.W.findIn K (.ref C) "__init__" = some (some (.ref f0))) (i0 : PySem.W.isFn K (.ref f0) = true) (l0 : K.lookup f0 = some ⟨oc0,od0,.func (PySem.W.fnOf "__init__" "Machine.__init__" (defArgs sInit) (defBody sInit) (defScope sInit) .none kV0 dc0 pm0 an0 cd0 ct0),sl0⟩) (c0 : PySem.W.codeIn K cd0 "Machine.__init__" = true) (k0 : PySem.W.keepIn K (.ref f0) = true)
 (a3 : PySem.W.nsIn K mainGlobals "is_first" = some (some (.ref f3))) (l3 : K.lookup f3 = some ⟨oc3,od3,.func (PySem.W.fnOf "is_first" "is_first" (defArgs sIsFirst) (defBody sIsFirst) (defScope sIsFirst) .none kV3 dc3 pm3 an3 cd3 ct3),sl3⟩) (c3 : PySem.W.codeIn K cd3 "is_first" = true) (k3 : PySem.W.keepIn K (.ref f3) = true)
 (a4 : PySem.W.nsIn K mainGlobals "first_stands" = some (some (.ref f4))) (l4 : K.lookup f4 = some ⟨oc4,od4,.func (PySem.W.fnOf "first_stands" "first_stands" (defArgs sFirstSt) (defBody sFirstSt) (defScope sFirstSt) .none kV4 dc4 pm4 an4 cd4 ct4),sl4⟩) (c4 : PySem.W.codeIn K cd4 "first_stands" = true) (k4 : PySem.W.keepIn K (.ref f4) = true)
 (a5 : PySem.W.nsIn K mainGlobals "rising_bits" = some (some (.ref f5))) (l5 : K.lookup f5 = some ⟨oc5,od5,.func (PySem.W.fnOf "rising_bits" "rising_bits" (defArgs sRising) (defBody sRising) (defScope sRising) .none kV5 dc5 pm5 an5 cd5 ct5),sl5⟩) (c5 : PySem.W.codeIn K cd5 "rising_bits" = true) (k5 : PySem.W.keepIn K (.ref f5) = true)
 (a18 : PySem.W.nsIn K mainGlobals "read_machine" = some (some (.ref f18))) (l18 : K.lookup f18 = some ⟨oc18,od18,.func (PySem.W.fnOf "read_machine" "read_machine" (defArgs sRead) (defBody sRead) (defScope sRead) .none kV18 dc18 pm18 an18 cd18 ct18),sl18⟩) (c18 : PySem.W.codeIn K cd18 "read_machine" = true) (k18 : PySem.W.keepIn K (.ref f18) = true)
 (a19 : PySem.W.nsIn K mainGlobals "rows_of" = some (some (.ref f19))) (l19 : K.lookup f19 = some ⟨oc19,od19,.func (PySem.W.fnOf "rows_of" "rows_of" (defArgs sRowsOf) (defBody sRowsOf) (defScope sRowsOf) .none kV19 dc19 pm19 an19 cd19 ct19),sl19⟩) (c19 : PySem.W.codeIn K cd19 "rows_of" = true) (k19 : PySem.W.keepIn K (.ref f19) = true)
 (a20 : PySem.W.nsIn K mainGlobals "fault_of" = some (some (.ref f20))) (l20 : K.lookup f20 = some ⟨oc20,od20,.func (PySem.W.fnOf "fault_of" "fault_of" (defArgs sFault) (defBody sFault) (defScope sFault) .none kV20 dc20 pm20 an20 cd20 ct20),sl20⟩) (c20 : PySem.W.codeIn K cd20 "fault_of" = true) (k20 : PySem.W.keepIn K (.ref f20) = true)
 (a21 : PySem.W.nsIn K mainGlobals "has_form" = some (some (.ref f21))) (l21 : K.lookup f21 = some ⟨oc21,od21,.func (PySem.W.fnOf "has_form" "has_form" (defArgs sHasForm) (defBody sHasForm) (defScope sHasForm) .none kV21 dc21 pm21 an21 cd21 ct21),sl21⟩) (c21 : PySem.W.codeIn K cd21 "has_form" = true) (k21 : PySem.W.keepIn K (.ref f21) = true)
 (a22 : PySem.W.nsIn K mainGlobals "fits" = some (some (.ref f22))) (l22 : K.lookup f22 = some ⟨oc22,od22,.func (PySem.W.fnOf "fits" "fits" (defArgs sFits) (defBody sFits) (defScope sFits) .none kV22 dc22 pm22 an22 cd22 ct22),sl22⟩) (c22 : PySem.W.codeIn K cd22 "fits" = true) (k22 : PySem.W.keepIn K (.ref f22) = true)
 (a23 : PySem.W.nsIn K mainGlobals "is_name" = some (some (.ref f23))) (l23 : K.lookup f23 = some ⟨oc23,od23,.func (PySem.W.fnOf "is_name" "is_name" (defArgs sIsName) (defBody sIsName) (defScope sIsName) .none kV23 dc23 pm23 an23 cd23 ct23),sl23⟩) (c23 : PySem.W.codeIn K cd23 "is_name" = true) (k23 : PySem.W.keepIn K (.ref f23) = true)
 (a24 : PySem.W.nsIn K mainGlobals "is_literal" = some (some (.ref f24))) (l24 : K.lookup f24 = some ⟨oc24,od24,.func (PySem.W.fnOf "is_literal" "is_literal" (defArgs sIsLit) (defBody sIsLit) (defScope sIsLit) .none kV24 dc24 pm24 an24 cd24 ct24),sl24⟩) (c24 : PySem.W.codeIn K cd24 "is_literal" = true) (k24 : PySem.W.keepIn K (.ref f24) = true)
 (a25 : PySem.W.nsIn K mainGlobals "bare_name" = some (some (.ref f25))) (l25 : K.lookup f25 = some ⟨oc25,od25,.func (PySem.W.fnOf "bare_name" "bare_name" (defArgs sBare) (defBody sBare) (defScope sBare) .none kV25 dc25 pm25 an25 cd25 ct25),sl25⟩) (c25 : PySem.W.codeIn K cd25 "bare_name" = true) (k25 : PySem.W.keepIn K (.ref f25) = true)
 (a26 : PySem.W.nsIn K mainGlobals "is_twice" = some (some (.ref f26))) (l26 : K.lookup f26 = some ⟨oc26,od26,.func (PySem.W.fnOf "is_twice" "is_twice" (defArgs sTwice) (defBody sTwice) (defScope sTwice) .none kV26 dc26 pm26 an26 cd26 ct26),sl26⟩) (c26 : PySem.W.codeIn K cd26 "is_twice" = true) (k26 : PySem.W.keepIn K (.ref f26) = true)
 (a27 : PySem.W.nsIn K mainGlobals "is_told" = some (some (.ref f27))) (l27 : K.lookup f27 = some ⟨oc27,od27,.func (PySem.W.fnOf "is_told" "is_told" (defArgs sIsTold) (defBody sIsTold) (defScope sIsTold) .none kV27 dc27 pm27 an27 cd27 ct27),sl27⟩) (c27 : PySem.W.codeIn K cd27 "is_told" = true) (k27 : PySem.W.keepIn K (.ref f27) = true)
 (a28 : PySem.W.nsIn K mainGlobals "lacks_name" = some (some (.ref f28))) (l28 : K.lookup f28 = some ⟨oc28,od28,.func (PySem.W.fnOf "lacks_name" "lacks_name" (defArgs sLacks) (defBody sLacks) (defScope sLacks) .none kV28 dc28 pm28 an28 cd28 ct28),sl28⟩) (c28 : PySem.W.codeIn K cd28 "lacks_name" = true) (k28 : PySem.W.keepIn K (.ref f28) = true)
 (a29 : PySem.W.nsIn K mainGlobals "literals_in" = some (some (.ref f29))) (l29 : K.lookup f29 = some ⟨oc29,od29,.func (PySem.W.fnOf "literals_in" "literals_in" (defArgs sLitsIn) (defBody sLitsIn) (defScope sLitsIn) .none kV29 dc29 pm29 an29 cd29 ct29),sl29⟩) (c29 : PySem.W.codeIn K cd29 "literals_in" = true) (k29 : PySem.W.keepIn K (.ref f29) = true)
 (a30 : PySem.W.nsIn K mainGlobals "is_known" = some (some (.ref f30))) (l30 : K.lookup f30 = some ⟨oc30,od30,.func (PySem.W.fnOf "is_known" "is_known" (defArgs sIsKnown) (defBody sIsKnown) (defScope sIsKnown) .none kV30 dc30 pm30 an30 cd30 ct30),sl30⟩) (c30 : PySem.W.codeIn K cd30 "is_known" = true) (k30 : PySem.W.keepIn K (.ref f30) = true)
 (a31 : PySem.W.nsIn K mainGlobals "is_too_many" = some (some (.ref f31))) (l31 : K.lookup f31 = some ⟨oc31,od31,.func (PySem.W.fnOf "is_too_many" "is_too_many" (defArgs sMany) (defBody sMany) (defScope sMany) .none kV31 dc31 pm31 an31 cd31 ct31),sl31⟩) (c31 : PySem.W.codeIn K cd31 "is_too_many" = true) (k31 : PySem.W.keepIn K (.ref f31) = true)
 (a32 : PySem.W.nsIn K mainGlobals "take_row" = some (some (.ref f32))) (l32 : K.lookup f32 = some ⟨oc32,od32,.func (PySem.W.fnOf "take_row" "take_row" (defArgs sTake) (defBody sTake) (defScope sTake) .none kV32 dc32 pm32 an32 cd32 ct32),sl32⟩) (c32 : PySem.W.codeIn K cd32 "take_row" = true) (k32 : PySem.W.keepIn K (.ref f32) = true)
 (a34 : PySem.W.nsIn K mainGlobals "_law_cell_at" = some (some (.ref f34))) (l34 : K.lookup f34 = some ⟨oc34,od34,.func (PySem.W.fnOf "_law_cell_at" "_law_cell_at" (defArgs sCell) (defBody sCell) (defScope sCell) .none kV34 dc34 pm34 an34 cd34 ct34),sl34⟩) (c34 : PySem.W.codeIn K cd34 "_law_cell_at" = true) (k34 : PySem.W.keepIn K (.ref f34) = true)
 (a35 : PySem.W.nsIn K mainGlobals "_law_mix" = some (some (.ref f35))) (l35 : K.lookup f35 = some ⟨oc35,od35,.func (PySem.W.fnOf "_law_mix" "_law_mix" (defArgs sMix) (defBody sMix) (defScope sMix) .none kV35 dc35 pm35 an35 cd35 ct35),sl35⟩) (c35 : PySem.W.codeIn K cd35 "_law_mix" = true) (k35 : PySem.W.keepIn K (.ref f35) = true)
 (a36 : PySem.W.nsIn K mainGlobals "_law_rich" = some (some (.ref f36))) (l36 : K.lookup f36 = some ⟨oc36,od36,.func (PySem.W.fnOf "_law_rich" "_law_rich" (defArgs sRich) (defBody sRich) (defScope sRich) .none kV36 dc36 pm36 an36 cd36 ct36),sl36⟩) (c36 : PySem.W.codeIn K cd36 "_law_rich" = true) (k36 : PySem.W.keepIn K (.ref f36) = true)
 (a37 : PySem.W.nsIn K mainGlobals "_law_pick" = some (some (.ref f37))) (l37 : K.lookup f37 = some ⟨oc37,od37,.func (PySem.W.fnOf "_law_pick" "_law_pick" (defArgs sPick) (defBody sPick) (defScope sPick) .none kV37 dc37 pm37 an37 cd37 ct37),sl37⟩) (c37 : PySem.W.codeIn K cd37 "_law_pick" = true) (k37 : PySem.W.keepIn K (.ref f37) = true)
 (a38 : PySem.W.nsIn K mainGlobals "_law_spelt" = some (some (.ref f38))) (l38 : K.lookup f38 = some ⟨oc38,od38,.func (PySem.W.fnOf "_law_spelt" "_law_spelt" (defArgs sSpelt) (defBody sSpelt) (defScope sSpelt) .none kV38 dc38 pm38 an38 cd38 ct38),sl38⟩) (c38 : PySem.W.codeIn K cd38 "_law_spelt" = true) (k38 : PySem.W.keepIn K (.ref f38) = true)
 (a39 : PySem.W.nsIn K mainGlobals "_law_literal" = some (some (.ref f39))) (l39 : K.lookup f39 = some ⟨oc39,od39,.func (PySem.W.fnOf "_law_literal" "_law_literal" (defArgs sLiteral) (defBody sLiteral) (defScope sLiteral) .none kV39 dc39 pm39 an39 cd39 ct39),sl39⟩) (c39 : PySem.W.codeIn K cd39 "_law_literal" = true) (k39 : PySem.W.keepIn K (.ref f39) = true)
 (a40 : PySem.W.nsIn K mainGlobals "_law_wishes" = some (some (.ref f40))) (l40 : K.lookup f40 = some ⟨oc40,od40,.func (PySem.W.fnOf "_law_wishes" "_law_wishes" (defArgs sWishes) (defBody sWishes) (defScope sWishes) .none kV40 dc40 pm40 an40 cd40 ct40),sl40⟩) (c40 : PySem.W.codeIn K cd40 "_law_wishes" = true) (k40 : PySem.W.keepIn K (.ref f40) = true)
 (a41 : PySem.W.nsIn K mainGlobals "_law_machine_digits" = some (some (.ref f41))) (l41 : K.lookup f41 = some ⟨oc41,od41,.func (PySem.W.fnOf "_law_machine_digits" "_law_machine_digits" (defArgs sDigits) (defBody sDigits) (defScope sDigits) .none kV41 dc41 pm41 an41 cd41 ct41),sl41⟩) (c41 : PySem.W.codeIn K cd41 "_law_machine_digits" = true) (k41 : PySem.W.keepIn K (.ref f41) = true)
 (a42 : PySem.W.nsIn K mainGlobals "_law_machine" = some (some (.ref f42))) (l42 : K.lookup f42 = some ⟨oc42,od42,.func (PySem.W.fnOf "_law_machine" "_law_machine" (defArgs sMachine) (defBody sMachine) (defScope sMachine) .none kV42 dc42 pm42 an42 cd42 ct42),sl42⟩) (c42 : PySem.W.codeIn K cd42 "_law_machine" = true) (k42 : PySem.W.keepIn K (.ref f42) = true)
 (a43 : PySem.W.nsIn K mainGlobals "_law_first_text" = some (some (.ref f43))) (l43 : K.lookup f43 = some ⟨oc43,od43,.func (PySem.W.fnOf "_law_first_text" "_law_first_text" (defArgs sFText) (defBody sFText) (defScope sFText) .none kV43 dc43 pm43 an43 cd43 ct43),sl43⟩) (c43 : PySem.W.codeIn K cd43 "_law_first_text" = true) (k43 : PySem.W.keepIn K (.ref f43) = true)
 (a44 : PySem.W.nsIn K mainGlobals "_law_rows" = some (some (.ref f44))) (l44 : K.lookup f44 = some ⟨oc44,od44,.func (PySem.W.fnOf "_law_rows" "_law_rows" (defArgs sRows) (defBody sRows) (defScope sRows) .none kV44 dc44 pm44 an44 cd44 ct44),sl44⟩) (c44 : PySem.W.codeIn K cd44 "_law_rows" = true) (k44 : PySem.W.keepIn K (.ref f44) = true)
 (a45 : PySem.W.nsIn K mainGlobals "_law_all_bits" = some (some (.ref f45))) (l45 : K.lookup f45 = some ⟨oc45,od45,.func (PySem.W.fnOf "_law_all_bits" "_law_all_bits" (defArgs sAllB) (defBody sAllB) (defScope sAllB) .none kV45 dc45 pm45 an45 cd45 ct45),sl45⟩) (c45 : PySem.W.codeIn K cd45 "_law_all_bits" = true) (k45 : PySem.W.keepIn K (.ref f45) = true)
 (a46 : PySem.W.nsIn K mainGlobals "_law_firsts" = some (some (.ref f46))) (l46 : K.lookup f46 = some ⟨oc46,od46,.func (PySem.W.fnOf "_law_firsts" "_law_firsts" (defArgs sFirsts) (defBody sFirsts) (defScope sFirsts) .none kV46 dc46 pm46 an46 cd46 ct46),sl46⟩) (c46 : PySem.W.codeIn K cd46 "_law_firsts" = true) (k46 : PySem.W.keepIn K (.ref f46) = true)
 (a47 : PySem.W.nsIn K mainGlobals "_law_whole_bits" = some (some (.ref f47))) (l47 : K.lookup f47 = some ⟨oc47,od47,.func (PySem.W.fnOf "_law_whole_bits" "_law_whole_bits" (defArgs sWhole) (defBody sWhole) (defScope sWhole) .none kV47 dc47 pm47 an47 cd47 ct47),sl47⟩) (c47 : PySem.W.codeIn K cd47 "_law_whole_bits" = true) (k47 : PySem.W.keepIn K (.ref f47) = true)
 (a48 : PySem.W.nsIn K mainGlobals "law" = some (some (.ref f48))) (l48 : K.lookup f48 = some ⟨oc48,od48,.func (PySem.W.fnOf "law" "law" (defArgs sLaw) (defBody sLaw) (defScope sLaw) .none kV48 dc48 pm48 an48 cd48 ct48),sl48⟩) (c48 : PySem.W.codeIn K cd48 "law" = true) (k48 : PySem.W.keepIn K (.ref f48) = true)
 (pg : PySem.W.plainGet K C Str.empty = true) (hd : PySem.W.hasDictIn K C = true) (po : PySem.W.plainOver K C = true) (sa : PySem.W.findIn K (.ref C) "__setattr__" = some (some (.builtin "object.__setattr__"))) (mk : PySem.W.makesIn K C = true) (kc : PySem.W.keepIn K (.ref C) = true)
 (n1 : PySem.W.findIn K (.ref C) "switches" = some none) (n2 : PySem.W.findIn K (.ref C) "keepers" = some none) (n3 : PySem.W.findIn K (.ref C) "gates" = some none) (n4 : PySem.W.findIn K (.ref C) "nexts" = some none) (n5 : PySem.W.findIn K (.ref C) "nevers" = some none) (n6 : PySem.W.findIn K (.ref C) "somes" = some none)
 (z0 : PySem.W.nsIn K mainGlobals "len" = some none) (z1 : PySem.W.nsIn K mainGlobals "range" = some none) (z2 : PySem.W.nsIn K mainGlobals "enumerate" = some none) (z3 : PySem.W.nsIn K mainGlobals "list" = some none) (z4 : PySem.W.nsIn K mainGlobals "dict" = some none) (z5 : PySem.W.nsIn K mainGlobals "tuple" = some none) (z6 : PySem.W.nsIn K mainGlobals "str" = some none) (z7 : PySem.W.nsIn K mainGlobals "int" = some none) (z8 : PySem.W.nsIn K mainGlobals "bool" = some none) (z9 : PySem.W.nsIn K mainGlobals "zip" = some none) (z10 : PySem.W.nsIn K mainGlobals "all" = some none) (z11 : PySem.W.nsIn K mainGlobals "isinstance" = some none) (z12 : PySem.W.nsIn K mainGlobals "any" = some none) (z13 : PySem.W.nsIn K mainGlobals "sorted" = some none)
 (cL : PySem.W.nsIn K mainGlobals "LETTERS" = some (some (.str "abcdefghijklmnopqrstuvwxyz" tL))) (cN : PySem.W.nsIn K mainGlobals "LONGEST_NAME" = some (some (.int 8 tN))) (cS : PySem.W.nsIn K mainGlobals "MOST_SWITCHES" = some (some (.int 12 tS))) (cK : PySem.W.nsIn K mainGlobals "MOST_KEEPERS" = some (some (.int 16 tK))) (cG : PySem.W.nsIn K mainGlobals "MOST_GATES" = some (some (.int 60 tG))) (cW : PySem.W.nsIn K mainGlobals "MOST_WISHES" = some (some (.int 8 tW))) (cF : PySem.W.nsIn K mainGlobals "FORMS" = some (some (.ref aF))) (cR : PySem.W.nsIn K mainGlobals "FIRSTS" = some (some (.ref aG)))
 (dF : K.lookup aF = some { cls:=.type "dict",data:=.dict #[⟨PyData.keyHash w.params "switch",.str "switch" k0t,.ref p1⟩,⟨PyData.keyHash w.params "keep",.str "keep" k1t,.ref p2⟩,⟨PyData.keyHash w.params "gate",.str "gate" k2t,.ref p3⟩,⟨PyData.keyHash w.params "next",.str "next" k3t,.ref p4⟩,⟨PyData.keyHash w.params "never",.str "never" k4t,.ref p5⟩,⟨PyData.keyHash w.params "some",.str "some" k5t,.ref p6⟩] epF }) (sF : (aF == sysModules) = false)
 (dG : K.lookup aG = some { cls:=.type "dict",data:=.dict #[⟨PyData.keyHash w.params "0",.str "0" u1,.int 0 x1⟩,⟨PyData.keyHash w.params "1",.str "1" u2,.int 1 x2⟩,⟨PyData.keyHash w.params "-",.str "-" u3,.none⟩] epG }) (sG : (aG == sysModules) = false)
 (t0 : K.lookup p1 = some ⟨.type "tuple",pd0,.seq #[.str "name" q00] pe0,ps0⟩)
 (t1 : K.lookup p2 = some ⟨.type "tuple",pd1,.seq #[.str "name" q10,.str "first" q11] pe1,ps1⟩)
 (t2 : K.lookup p3 = some ⟨.type "tuple",pd2,.seq #[.str "name" q20,.str "literal" q21,.str "literal" q22] pe2,ps2⟩)
 (t3 : K.lookup p4 = some ⟨.type "tuple",pd3,.seq #[.str "name" q30,.str "literal" q31] pe3,ps3⟩)
 (t4 : K.lookup p5 = some ⟨.type "tuple",pd4,.seq #[.str "name" q40,.str "literal" q41] pe4,ps4⟩)
 (t5 : K.lookup p6 = some ⟨.type "tuple",pd5,.seq #[.str "name" q50,.str "literal" q51] pe5,ps5⟩)
 :
 ∃ fd : FuncData,(∀ (s : Shared) (v : Value),BindsTo s fd ⟨[v],[]⟩ [("_law_script",v)]) ∧ ∀ base : Heap,K.In base → base.Ns mainGlobals mg → FnOk l.prog w K mg base CX0 7 fa fd ["_law_script"] (spLaw K):=by
 have e:=hfa.symm.trans (PySem.W.mg_of X G a48)
 cases e
 have T : TxtM K mg C:=⟨⟨pg,hd,po,sa⟩,n1,n2,n3,n4,n5,n6,PySem.W.mg_of X G aC⟩
 have O : Own mg:=⟨PySem.W.mg_none_of X G z0,PySem.W.mg_none_of X G z1,PySem.W.mg_none_of X G z2,PySem.W.mg_none_of X G z3⟩
 have O2 : Own2 mg:=⟨PySem.W.mg_none_of X G z0,PySem.W.mg_none_of X G z3,PySem.W.mg_none_of X G z4,PySem.W.mg_none_of X G z5,PySem.W.mg_none_of X G z6,PySem.W.mg_none_of X G z7,PySem.W.mg_none_of X G z8,PySem.W.mg_none_of X G z9,PySem.W.mg_none_of X G z10,PySem.W.mg_none_of X G z11⟩
 have hB_sorted : mg "sorted" = none:=PySem.W.mg_none_of X G z13
 have hAny : mg "any" = none:=PySem.W.mg_none_of X G z12
 have CT : Consts mg:=⟨⟨_,PySem.W.mg_of X G cL⟩,⟨_,PySem.W.mg_of X G cN⟩,PySem.W.mg_none_of X G z0,PySem.W.mg_none_of X G z10⟩
 have MT : Most mg:=⟨⟨_,PySem.W.mg_of X G cS⟩,⟨_,PySem.W.mg_of X G cK⟩,⟨_,PySem.W.mg_of X G cG⟩,⟨_,PySem.W.mg_of X G cW⟩⟩
 have mR:=PySem.W.mg_of X G cR
 have kR : KD l.prog w K aG firstsKvs:=kd_mk (P:=l.prog) [("0",u1,.int 0 x1),("1",u2,.int 1 x2),("-",u3,.none)] [("0",.int 0),("1",.int 1),("-",.non)] dG sG (by show (["0", "1", "-"] : List Str).Nodup; decide +kernel) (.cons ⟨rfl,⟨_,rfl⟩⟩ (.cons ⟨rfl,⟨_,rfl⟩⟩ (.cons ⟨rfl,rfl⟩ .nil)))
 have FT : FormsAt l.prog w K mg aF:=by
  refine ⟨PySem.W.mg_of X G cF,_,kd_mk (P:=l.prog) [("switch",k0t,.ref p1),("keep",k1t,.ref p2),("gate",k2t,.ref p3),("next",k3t,.ref p4),("never",k4t,.ref p5),("some",k5t,.ref p6)] [("switch",.ref p1),("keep",.ref p2),("gate",.ref p3),("next",.ref p4),("never",.ref p5),("some",.ref p6)] dF sF (by show (["switch", "keep", "gate", "next", "never", "some"] : List Str).Nodup; decide +kernel) (.cons ⟨rfl,rfl⟩ (.cons ⟨rfl,rfl⟩ (.cons ⟨rfl,rfl⟩ (.cons ⟨rfl,rfl⟩ (.cons ⟨rfl,rfl⟩ (.cons ⟨rfl,rfl⟩ (.nil))))))),?_⟩
  intro key parts hm
  simp only [formsS,List.mem_cons,Prod.mk.injEq,List.not_mem_nil,or_false] at hm
  rcases hm with ⟨rfl,rfl⟩ | ⟨rfl,rfl⟩ | ⟨rfl,rfl⟩ | ⟨rfl,rfl⟩ | ⟨rfl,rfl⟩ | ⟨rfl,rfl⟩
  · exact ⟨p1,rfl,_,_,_,t0,rfl,rfl,(by show 1 ≤ sizeLine; decide),.cons ⟨_,rfl⟩ (.nil)⟩
  · exact ⟨p2,rfl,_,_,_,t1,rfl,rfl,(by show 2 ≤ sizeLine; decide),.cons ⟨_,rfl⟩ (.cons ⟨_,rfl⟩ (.nil))⟩
  · exact ⟨p3,rfl,_,_,_,t2,rfl,rfl,(by show 3 ≤ sizeLine; decide),.cons ⟨_,rfl⟩ (.cons ⟨_,rfl⟩ (.cons ⟨_,rfl⟩ (.nil)))⟩
  · exact ⟨p4,rfl,_,_,_,t3,rfl,rfl,(by show 2 ≤ sizeLine; decide),.cons ⟨_,rfl⟩ (.cons ⟨_,rfl⟩ (.nil))⟩
  · exact ⟨p5,rfl,_,_,_,t4,rfl,rfl,(by show 2 ≤ sizeLine; decide),.cons ⟨_,rfl⟩ (.cons ⟨_,rfl⟩ (.nil))⟩
  · exact ⟨p6,rfl,_,_,_,t5,rfl,rfl,(by show 2 ≤ sizeLine; decide),.cons ⟨_,rfl⟩ (.cons ⟨_,rfl⟩ (.nil))⟩
 have F0:=fun_mk (st:=sInit) l0 c0 k0
 have b0:=F0.binds (ps:=pInit) fun _ _ _ _ _ _ us hl=>by obtain ⟨_,_,_,_,_,_,_,rfl⟩:=lst7 hl; rfl
 have F3:=fun_mk (st:=sIsFirst) l3 c3 k3
 have m3:=PySem.W.mg_of X G a3
 have b3:=F3.binds (ps:=["machine", "stand"]) fun _ _ _ _ _ _ us hl=>by obtain ⟨_,_,rfl⟩:=lst2 hl; rfl
 have F4:=fun_mk (st:=sFirstSt) l4 c4 k4
 have m4:=PySem.W.mg_of X G a4
 have b4:=F4.binds (ps:=["machine"]) fun _ _ _ _ _ _ us hl=>by obtain ⟨_,rfl⟩:=lst1 hl; rfl
 have F5:=fun_mk (st:=sRising) l5 c5 k5
 have m5:=PySem.W.mg_of X G a5
 have b5:=F5.binds (ps:=["firsts"]) fun _ _ _ _ _ _ us hl=>by obtain ⟨_,rfl⟩:=lst1 hl; rfl
 have F18:=fun_mk (st:=sRead) l18 c18 k18
 have m18:=PySem.W.mg_of X G a18
 have b18:=F18.binds (ps:=["text"]) fun _ _ _ _ _ _ us hl=>by obtain ⟨_,rfl⟩:=lst1 hl; rfl
 have F19:=fun_mk (st:=sRowsOf) l19 c19 k19
 have m19:=PySem.W.mg_of X G a19
 have b19:=F19.binds (ps:=["text"]) fun _ _ _ _ _ _ us hl=>by obtain ⟨_,rfl⟩:=lst1 hl; rfl
 have F20:=fun_mk (st:=sFault) l20 c20 k20
 have m20:=PySem.W.mg_of X G a20
 have b20:=F20.binds (ps:=["machine", "words"]) fun _ _ _ _ _ _ us hl=>by obtain ⟨_,_,rfl⟩:=lst2 hl; rfl
 have F21:=fun_mk (st:=sHasForm) l21 c21 k21
 have m21:=PySem.W.mg_of X G a21
 have b21:=F21.binds (ps:=["words"]) fun _ _ _ _ _ _ us hl=>by obtain ⟨_,rfl⟩:=lst1 hl; rfl
 have F22:=fun_mk (st:=sFits) l22 c22 k22
 have m22:=PySem.W.mg_of X G a22
 have b22:=F22.binds (ps:=["part", "word"]) fun _ _ _ _ _ _ us hl=>by obtain ⟨_,_,rfl⟩:=lst2 hl; rfl
 have F23:=fun_mk (st:=sIsName) l23 c23 k23
 have m23:=PySem.W.mg_of X G a23
 have b23:=F23.binds (ps:=["word"]) fun _ _ _ _ _ _ us hl=>by obtain ⟨_,rfl⟩:=lst1 hl; rfl
 have F24:=fun_mk (st:=sIsLit) l24 c24 k24
 have m24:=PySem.W.mg_of X G a24
 have b24:=F24.binds (ps:=["word"]) fun _ _ _ _ _ _ us hl=>by obtain ⟨_,rfl⟩:=lst1 hl; rfl
 have F25:=fun_mk (st:=sBare) l25 c25 k25
 have m25:=PySem.W.mg_of X G a25
 have b25:=F25.binds (ps:=["literal"]) fun _ _ _ _ _ _ us hl=>by obtain ⟨_,rfl⟩:=lst1 hl; rfl
 have F26:=fun_mk (st:=sTwice) l26 c26 k26
 have m26:=PySem.W.mg_of X G a26
 have b26:=F26.binds (ps:=["machine", "form", "name"]) fun _ _ _ _ _ _ us hl=>by obtain ⟨_,_,_,rfl⟩:=lst3 hl; rfl
 have F27:=fun_mk (st:=sIsTold) l27 c27 k27
 have m27:=PySem.W.mg_of X G a27
 have b27:=F27.binds (ps:=["machine", "name"]) fun _ _ _ _ _ _ us hl=>by obtain ⟨_,_,rfl⟩:=lst2 hl; rfl
 have F28:=fun_mk (st:=sLacks) l28 c28 k28
 have m28:=PySem.W.mg_of X G a28
 have b28:=F28.binds (ps:=["machine", "words"]) fun _ _ _ _ _ _ us hl=>by obtain ⟨_,_,rfl⟩:=lst2 hl; rfl
 have F29:=fun_mk (st:=sLitsIn) l29 c29 k29
 have m29:=PySem.W.mg_of X G a29
 have b29:=F29.binds (ps:=["words"]) fun _ _ _ _ _ _ us hl=>by obtain ⟨_,rfl⟩:=lst1 hl; rfl
 have F30:=fun_mk (st:=sIsKnown) l30 c30 k30
 have m30:=PySem.W.mg_of X G a30
 have b30:=F30.binds (ps:=["machine", "literal"]) fun _ _ _ _ _ _ us hl=>by obtain ⟨_,_,rfl⟩:=lst2 hl; rfl
 have F31:=fun_mk (st:=sMany) l31 c31 k31
 have m31:=PySem.W.mg_of X G a31
 have b31:=F31.binds (ps:=["machine", "form"]) fun _ _ _ _ _ _ us hl=>by obtain ⟨_,_,rfl⟩:=lst2 hl; rfl
 have F32:=fun_mk (st:=sTake) l32 c32 k32
 have m32:=PySem.W.mg_of X G a32
 have b32:=F32.binds (ps:=["machine", "words"]) fun _ _ _ _ _ _ us hl=>by obtain ⟨_,_,rfl⟩:=lst2 hl; rfl
 have F34:=fun_mk (st:=sCell) l34 c34 k34
 have m34:=PySem.W.mg_of X G a34
 have b34:=F34.binds (ps:=["_law_script", "_law_k"]) fun _ _ _ _ _ _ us hl=>by obtain ⟨_,_,rfl⟩:=lst2 hl; rfl
 have F35:=fun_mk (st:=sMix) l35 c35 k35
 have m35:=PySem.W.mg_of X G a35
 have b35:=F35.binds (ps:=["_law_cell", "_law_k"]) fun _ _ _ _ _ _ us hl=>by obtain ⟨_,_,rfl⟩:=lst2 hl; rfl
 have F36:=fun_mk (st:=sRich) l36 c36 k36
 have m36:=PySem.W.mg_of X G a36
 have b36:=F36.binds (ps:=["_law_cell", "_law_k"]) fun _ _ _ _ _ _ us hl=>by obtain ⟨_,_,rfl⟩:=lst2 hl; rfl
 have F37:=fun_mk (st:=sPick) l37 c37 k37
 have m37:=PySem.W.mg_of X G a37
 have b37:=F37.binds (ps:=["_law_left", "_law_many"]) fun _ _ _ _ _ _ us hl=>by obtain ⟨_,_,rfl⟩:=lst2 hl; rfl
 have F38:=fun_mk (st:=sSpelt) l38 c38 k38
 have m38:=PySem.W.mg_of X G a38
 have b38:=F38.binds (ps:=["_law_left", "_law_told"]) fun _ _ _ _ _ _ us hl=>by obtain ⟨_,_,rfl⟩:=lst2 hl; rfl
 have F39:=fun_mk (st:=sLiteral) l39 c39 k39
 have m39:=PySem.W.mg_of X G a39
 have b39:=F39.binds (ps:=["_law_left", "_law_names"]) fun _ _ _ _ _ _ us hl=>by obtain ⟨_,_,rfl⟩:=lst2 hl; rfl
 have F40:=fun_mk (st:=sWishes) l40 c40 k40
 have m40:=PySem.W.mg_of X G a40
 have b40:=F40.binds (ps:=pWishes) fun _ _ _ _ _ _ us hl=>by obtain ⟨_,_,_,_,rfl⟩:=lst4 hl; rfl
 have F41:=fun_mk (st:=sDigits) l41 c41 k41
 have m41:=PySem.W.mg_of X G a41
 have b41:=F41.binds (ps:=pDig) fun _ _ _ _ _ _ us hl=>by obtain ⟨_,_,rfl⟩:=lst2 hl; rfl
 have F42:=fun_mk (st:=sMachine) l42 c42 k42
 have m42:=PySem.W.mg_of X G a42
 have b42:=F42.binds (ps:=pMac) fun _ _ _ _ _ _ us hl=>by obtain ⟨_,_,rfl⟩:=lst2 hl; rfl
 have F43:=fun_mk (st:=sFText) l43 c43 k43
 have m43:=PySem.W.mg_of X G a43
 have b43:=F43.binds (ps:=["_law_first"]) fun _ _ _ _ _ _ us hl=>by obtain ⟨_,rfl⟩:=lst1 hl; rfl
 have F44:=fun_mk (st:=sRows) l44 c44 k44
 have m44:=PySem.W.mg_of X G a44
 have b44:=F44.binds (ps:=["_law_m"]) fun _ _ _ _ _ _ us hl=>by obtain ⟨_,rfl⟩:=lst1 hl; rfl
 have F45:=fun_mk (st:=sAllB) l45 c45 k45
 have m45:=PySem.W.mg_of X G a45
 have b45:=F45.binds (ps:=["_law_many"]) fun _ _ _ _ _ _ us hl=>by obtain ⟨_,rfl⟩:=lst1 hl; rfl
 have F46:=fun_mk (st:=sFirsts) l46 c46 k46
 have m46:=PySem.W.mg_of X G a46
 have b46:=F46.binds (ps:=["_law_m"]) fun _ _ _ _ _ _ us hl=>by obtain ⟨_,rfl⟩:=lst1 hl; rfl
 have F47:=fun_mk (st:=sWhole) l47 c47 k47
 have m47:=PySem.W.mg_of X G a47
 have b47:=F47.binds (ps:=["_law_found", "_law_due"]) fun _ _ _ _ _ _ us hl=>by obtain ⟨_,_,rfl⟩:=lst2 hl; rfl
 have F48:=fun_mk (st:=sLaw) l48 c48 k48
 have m48:=PySem.W.mg_of X G a48
 refine ⟨PySem.W.fnOf "law" "law" (defArgs sLaw) (defBody sLaw) (defScope sLaw) .none kV48 dc48 pm48 an48 cd48 ct48,fun s v=>.of_eq rfl,fun base _ _=>?_⟩
 have gIsName : FnOk l.prog w K mg base CX0 1 f23 _ ["word"] spIsName:=ok_is_name F23 CT
 have gIsLit : FnOk l.prog w K mg base CX0 2 f24 _ ["word"] spIsLit:=ok_is_lit F24 CT F23 m23 b23 F25 m25 b25
 have gFits : FnOk l.prog w K mg base CX0 3 f22 _ ["part", "word"] spFits:=ok_fits F22 mR kR gIsName m23 k23 b23 gIsLit m24 k24 b24
 have gForm : FnOk l.prog w K mg base CX0 4 f21 _ ["words"] spHasForm:=ok_has_form F21 O2 FT gFits m22 k22 b22
 have gTold : FnOk l.prog w K mg base CX0 1 f27 _ ["machine", "name"] (spIsTold K):=ok_is_told F27 hAny
 have gKnown : FnOk l.prog w K mg base CX0 2 f30 _ ["machine", "literal"] (spIsKnown K):=ok_is_known F30 hAny F27 m27 b27 F25 m25 b25
 have gLits : FnOk l.prog w K mg base CX0 1 f29 _ ["words"] spLitsIn:=ok_lits_in F29 O2 FT
 have gLacks : FnOk l.prog w K mg base CX0 3 f28 _ ["machine", "words"] (spLacks C):=ok_lacks F28 T hAny gLits m29 k29 b29 gKnown m30 k30 b30
 have gTwice : FnOk l.prog w K mg base CX0 2 f26 _ ["machine", "form", "name"] (spTwice C):=ok_twice F26 T gTold m27 k27 b27
 have gMany : FnOk l.prog w K mg base CX0 1 f31 _ ["machine", "form"] (spMany C):=ok_many F31 T O2 MT
 have gFault : FnOk l.prog w K mg base CX0 5 f20 _ ["machine", "words"] (spFault C):=ok_fault F20 gForm m21 k21 b21 gTwice m26 k26 b26 gLacks m28 k28 b28 gMany m31 k31 b31
 have gTake : FnOk l.prog w K mg base CX0 1 f32 _ ["machine", "words"] (spTake C):=ok_take F32 T mR kR
 have gRead : FnOk l.prog w K mg base CX0 6 f18 _ ["text"] (spRead C):=ok_read F18 T gFault m20 k20 b20 gTake m32 k32 b32 (ok_rowsof F19 O2 O.enum) m19 k19 b19 (ok_init F0 T O2) ⟨mk,a0,i0,kc⟩ b0
 have gP : FnOk l.prog w K mg base CX0 1 f37 _ ["_law_left", "_law_many"] spPick:=ok_pick F37 O
 have gS : FnOk l.prog w K mg base CX0 2 f38 _ ["_law_left", "_law_told"] (spSpelt K):=ok_spelt F38 O F37 b37 m37
 have gL : FnOk l.prog w K mg base CX0 2 f39 _ ["_law_left", "_law_names"] (spLiteral K):=ok_literal F39 O F37 b37 m37
 have gW : FnOk l.prog w K mg base CX0 3 f40 _ pWishes (spWishes K):=ok_wishes F40 O F37 b37 m37 F38 b38 m38 F39 b39 m39
 have gR : FnOk l.prog w K mg base CX0 2 f36 _ ["_law_cell", "_law_k"] spRich:=ok_rich F36 O F35 b35 m35
 have gD : FnOk l.prog w K mg base CX0 4 f41 _ pDig (spDigits K):=ok_digits F41 ⟨O,gP,m37,k37,b37,gS,m38,k38,b38,gL,m39,k39,b39,gW,m40,k40,b40,gR,m36,k36,b36⟩
 have gC : FnOk l.prog w K mg base CX0 1 f34 _ ["_law_script", "_law_k"] (spCell K):=ok_cell F34 O
 have gM : FnOk l.prog w K mg base CX0 5 f42 _ pMac (spMachine K):=ok_machine F42 O gD m41 k41 b41 gC m34 k34 b34 gR m36 k36 b36
 have gRows : FnOk l.prog w K mg base CX0 2 f44 _ ["_law_m"] spRows:=ok_rows F44 (ok_ftext F43) m43 k43 b43 O2
 have gA : FnOk l.prog w K mg base CX0 1 f45 _ ["_law_many"] (spAllB K):=ok_all_bits F45 O hB_sorted
 have gF : FnOk l.prog w K mg base CX0 2 f46 _ ["_law_m"] (spFirsts K):=ok_firsts F46 O2 gA m45 k45 b45
 have gS : FnOk l.prog w K mg base CX0 2 f4 _ ["machine"] (spFirstSt C):=ok_firstst F4 T O2 (ok_rising F5) m5 k5 b5
 have gI : FnOk l.prog w K mg base CX0 1 f3 _ ["machine", "stand"] (spIsF C K):=ok_is_first F3 T O2
 have gWh : FnOk l.prog w K mg base CX0 1 f47 _ ["_law_found", "_law_due"] (spWhole K):=ok_whole F47 O2
 exact ok_law F48 O O2 ⟨gM,m42,k42,b42,gRows,m44,k44,b44,gRead,m18,k18,b18,gA,m45,k45,b45,gF,m46,k46,b46,gS,m4,k4,b4,gI,m3,k3,b3,gWh,m47,k47,b47⟩
theorem walk {l : PySem.W.OpenLaw} {q : Program} {loose : List Str} {XP : (Str → Option Value) → Heap → Prop} {YP : World → Heap → Prop} {d : DefRec} {K : Params → PySem.W.Frag} (hn : l.most = some 63) (hdf : d.params.defaults = [])
 (hY : ∀ (w : World) (h : Heap),YP w h → (K w.params).In h)
 (F : ∀ (w : World) (mg : Str → Option Value) (fa : Addr) (h : Heap),(K w.params).In h → h.Ns mainGlobals mg → mg d.name = some (.ref fa) →
  ∃ fd : FuncData,(∀ (s : Shared) (u : Value),BindsTo s fd ⟨[u],[]⟩ [("_law_script",u)]) ∧ ∀ base : Heap,(K w.params).In base → base.Ns mainGlobals mg → FnOk l.prog w (K w.params) mg base CX0 7 fa fd ["_law_script"] (spLaw (K w.params))) :
 PySem.W.WalkO q loose XP YP l.row.toRowW d [] (fun f vs=>PySem.call f vs) :=
 L2.walk_of (n:=63) (k:=7) (x:="_law_script") (CX:=fun _=>CX0) (sp:=fun w=>spLaw (K w.params)) hn (by decide) hdf ⟨rfl,by decide,by decide⟩ hY F (fun _ _ a ns hl _ hS=>⟨a,ns,rfl,hS,hl,fun _=>rfl⟩) fun _ _ _ _ _ z=>z
end
end Gen
open PySem PySem.W PyProof.Rows
theorem PySem.W.Fast.tw17358403495276541770 : True:=trivial
theorem PySem.W.Fast.tw7986057719702260030 : True:=trivial
theorem PySem.W.Fast.tw5434457217120977004 : True:=trivial
theorem PySem.W.Fast.tw12224610117082687128 : True:=trivial
theorem PySem.W.Fast.tw7234451167978252438 : True:=trivial
theorem PySem.W.Fast.tw313748130729442207 : True:=trivial
theorem PySem.W.Fast.tw13106459815798511754 : True:=trivial
theorem PySem.W.Fast.tw10459813772070190570 : True:=trivial
theorem PySem.W.Fast.tw1787886681469277383 : True:=trivial
theorem PySem.W.Fast.tw11593012792783763882 : True:=trivial
theorem PySem.W.Fast.tw17517746795673683286 : True:=trivial
theorem PySem.W.Fast.tw11824711881854373680 : True:=trivial
theorem PySem.W.Fast.tw14846633704745538507 : True:=trivial
theorem PySem.W.Fast.tw12259212643806589666 : True:=trivial
theorem PySem.W.Fast.te12259212643806589666 : True:=trivial
theorem PySem.W.Fast.tw7158268431403401397 : True:=trivial
theorem PySem.W.Fast.tw1154423251716171747 : True:=trivial
theorem PySem.W.Fast.tw16548326054182428350 : True:=trivial
theorem PySem.W.Fast.tw9284371766950611278 : True:=trivial
set_option maxRecDepth 100000 in
set_option maxHeartbeats 0 in
theorem PySem.Challenge.cw_everguard_k10_first_stands_holds : PySem.Challenge.rw_everguard_k10_first_stands.Holds := by
 w_on; o_law; k_head; (case hw=>w_witness2)
 k_fill
 refine Gen.walk (l:=PySem.Challenge.rw_everguard_k10_first_stands) rfl rfl (fun w h Y=>PySem.W.kIn_of Y) ?F
 case F =>
  intro w mg fa h KX G hmg
  refine' Gen.all_mk KX G hmg ?aC ?a0 ?i0 ?l0 ?c0 ?k0 ?a3 ?l3 ?c3 ?k3 ?a4 ?l4 ?c4 ?k4 ?a5 ?l5 ?c5 ?k5 ?a18 ?l18 ?c18 ?k18 ?a19 ?l19 ?c19 ?k19 ?a20 ?l20 ?c20 ?k20 ?a21 ?l21 ?c21 ?k21 ?a22 ?l22 ?c22 ?k22 ?a23 ?l23 ?c23 ?k23 ?a24 ?l24 ?c24 ?k24 ?a25 ?l25 ?c25 ?k25 ?a26 ?l26 ?c26 ?k26 ?a27 ?l27 ?c27 ?k27 ?a28 ?l28 ?c28 ?k28 ?a29 ?l29 ?c29 ?k29 ?a30 ?l30 ?c30 ?k30 ?a31 ?l31 ?c31 ?k31 ?a32 ?l32 ?c32 ?k32 ?a34 ?l34 ?c34 ?k34 ?a35 ?l35 ?c35 ?k35 ?a36 ?l36 ?c36 ?k36 ?a37 ?l37 ?c37 ?k37 ?a38 ?l38 ?c38 ?k38 ?a39 ?l39 ?c39 ?k39 ?a40 ?l40 ?c40 ?k40 ?a41 ?l41 ?c41 ?k41 ?a42 ?l42 ?c42 ?k42 ?a43 ?l43 ?c43 ?k43 ?a44 ?l44 ?c44 ?k44 ?a45 ?l45 ?c45 ?k45 ?a46 ?l46 ?c46 ?k46 ?a47 ?l47 ?c47 ?k47 ?a48 ?l48 ?c48 ?k48 ?pg ?hd ?po ?sa ?mk ?kc ?n1 ?n2 ?n3 ?n4 ?n5 ?n6 ?z0 ?z1 ?z2 ?z3 ?z4 ?z5 ?z6 ?z7 ?z8 ?z9 ?z10 ?z11 ?z12 ?z13 ?cL ?cN ?cS ?cK ?cG ?cW ?cF ?cR ?dF ?sF ?dG ?sG ?t0 ?t1 ?t2 ?t3 ?t4 ?t5
  (case aC=>k_is); (case a0=>k_is); (case i0=>k_is); (case l0=>k_is); (case c0=>k_is); (case k0=>k_is)
  (case a3=>k_is); (case l3=>k_is); (case c3=>k_is); (case k3=>k_is); (case a4=>k_is); (case l4=>k_is)
  (case c4=>k_is); (case k4=>k_is); (case a5=>k_is); (case l5=>k_is); (case c5=>k_is); (case k5=>k_is)
  (case a18=>k_is); (case l18=>k_is); (case c18=>k_is); (case k18=>k_is); (case a19=>k_is); (case l19=>k_is)
  (case c19=>k_is); (case k19=>k_is); (case a20=>k_is); (case l20=>k_is); (case c20=>k_is); (case k20=>k_is)
  (case a21=>k_is); (case l21=>k_is); (case c21=>k_is); (case k21=>k_is); (case a22=>k_is); (case l22=>k_is)
  (case c22=>k_is); (case k22=>k_is); (case a23=>k_is); (case l23=>k_is); (case c23=>k_is); (case k23=>k_is)
  (case a24=>k_is); (case l24=>k_is); (case c24=>k_is); (case k24=>k_is); (case a25=>k_is); (case l25=>k_is)
  (case c25=>k_is); (case k25=>k_is); (case a26=>k_is); (case l26=>k_is); (case c26=>k_is); (case k26=>k_is)
  (case a27=>k_is); (case l27=>k_is); (case c27=>k_is); (case k27=>k_is); (case a28=>k_is); (case l28=>k_is)
  (case c28=>k_is); (case k28=>k_is); (case a29=>k_is); (case l29=>k_is); (case c29=>k_is); (case k29=>k_is)
  (case a30=>k_is); (case l30=>k_is); (case c30=>k_is); (case k30=>k_is); (case a31=>k_is); (case l31=>k_is)
  (case c31=>k_is); (case k31=>k_is); (case a32=>k_is); (case l32=>k_is); (case c32=>k_is); (case k32=>k_is)
  (case a34=>k_is); (case l34=>k_is); (case c34=>k_is); (case k34=>k_is); (case a35=>k_is); (case l35=>k_is)
  (case c35=>k_is); (case k35=>k_is); (case a36=>k_is); (case l36=>k_is); (case c36=>k_is); (case k36=>k_is)
  (case a37=>k_is); (case l37=>k_is); (case c37=>k_is); (case k37=>k_is); (case a38=>k_is); (case l38=>k_is)
  (case c38=>k_is); (case k38=>k_is); (case a39=>k_is); (case l39=>k_is); (case c39=>k_is); (case k39=>k_is)
  (case a40=>k_is); (case l40=>k_is); (case c40=>k_is); (case k40=>k_is); (case a41=>k_is); (case l41=>k_is)
  (case c41=>k_is); (case k41=>k_is); (case a42=>k_is); (case l42=>k_is); (case c42=>k_is); (case k42=>k_is)
  (case a43=>k_is); (case l43=>k_is); (case c43=>k_is); (case k43=>k_is); (case a44=>k_is); (case l44=>k_is)
  (case c44=>k_is); (case k44=>k_is); (case a45=>k_is); (case l45=>k_is); (case c45=>k_is); (case k45=>k_is)
  (case a46=>k_is); (case l46=>k_is); (case c46=>k_is); (case k46=>k_is); (case a47=>k_is); (case l47=>k_is)
  (case c47=>k_is); (case k47=>k_is); (case a48=>k_is); (case l48=>k_is); (case c48=>k_is); (case k48=>k_is)
  (case pg=>k_is); (case hd=>k_is); (case po=>k_is); (case sa=>k_is); (case mk=>k_is); (case kc=>k_is)
  (case n1=>k_is); (case n2=>k_is); (case n3=>k_is); (case n4=>k_is); (case n5=>k_is); (case n6=>k_is)
  (case z0=>k_is); (case z1=>k_is); (case z2=>k_is); (case z3=>k_is); (case z4=>k_is); (case z5=>k_is)
  (case z6=>k_is); (case z7=>k_is); (case z8=>k_is); (case z9=>k_is); (case z10=>k_is); (case z11=>k_is)
  (case z12=>k_is); (case z13=>k_is); (case cL=>k_is); (case cN=>k_is); (case cS=>k_is); (case cK=>k_is)
  (case cG=>k_is); (case cW=>k_is); (case cF=>k_is); (case cR=>k_is); (case dF=>k_is); (case sF=>rfl)
  (case dG=>k_is); (case sG=>rfl); (case t0=>k_is); (case t1=>k_is); (case t2=>k_is); (case t3=>k_is)
  (case t4=>k_is); (case t5=>k_is)
#print axioms PySem.Challenge.cw_everguard_k10_first_stands_holds
