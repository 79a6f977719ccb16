import PyProof.Rows.All
import Wide.All
import OpenK.AllK
import Wide.FinOn
import Lean
import PyProof.EqAt
import PyProof.EqKinds
import PyProof.TupleCall
import PyProof.StrBlockL
import PyProof.IsiH_list
import PyProof.AttrMiss
import PyProof.ConsumeWalk
import PyProof.TupleIter
import KE.KDictOf
import PyProof.DictWalks
import KE.KDictList
import PyProof.NeKinds
import PyProof.ZipIter
import PyProof.StrLawsOcc
import Wide.Txt
import KE.KIntText
import PyProof.DictValues
import PyProof.Rows.SortRuns
import KE.KSortTup
import PyProof.NeData
import PyProof.P3Eq
import PyProof.Rows.Chain
import PyProof.Rows.RuleIs
import PyProof.DictRoadsH
import PyProof.Cells
import PyProof.StrOps2
import PySem.Challenge.RW_everguard_k55_walls_joined
set_option Elab.async false
set_option linter.all false
set_option maxRecDepth 100000
namespace L2
open PySem PySem.Spec PyProof.Rows
abbrev Key:=Sum Int Str
def keyIs : Key → Value → Bool
 | .inl k,v=>Value.isInt k v
 | .inr x,v=>Value.isStrOf x v
def keyH (w : World) : Key → Int
 | .inl k=>hashInt k
 | .inr x=>hashStr w x
theorem keyIs_shape : ∀ {k : Key} {v : Value},keyIs k v = true → (∃ i t,k = Sum.inl i ∧ v = Value.int i t) ∨ (∃ x t,k = Sum.inr x ∧ v = Value.str x t)
 | .inl i,v,h=>by
  obtain ⟨t,e⟩:=Value.isInt_shape (k:=i) (v:=v) h
  exact .inl ⟨i,t,rfl,e⟩
 | .inr x,v,h=>by
  obtain ⟨t,e⟩:=Value.isStrOf_shape (x:=x) (v:=v) h
  exact .inr ⟨x,t,rfl,e⟩
theorem keyIs_int (i : Int) (t : Tok) : keyIs (.inl i) (.int i t) = true:=by simp [keyIs,Value.isInt]
theorem keyIs_str (x : Str) (t : Tok) : keyIs (.inr x) (.str x t) = true:=by simp [keyIs,Value.isStrOf]
theorem key_ll (a b : Int) : decide ((Sum.inl a : Key) = Sum.inl b) = (a == b):=by
 by_cases e : a = b
 · subst e; simp
 · have h : ¬ (Sum.inl a : Key) = Sum.inl b:=fun q=>e (Sum.inl.inj q)
   rw [decide_eq_false h]
   exact (beq_eq_false_iff_ne.mpr e).symm
theorem key_rr (a b : Str) : decide ((Sum.inr a : Key) = Sum.inr b) = decide (a = b):=by
 by_cases e : a = b
 · subst e; simp
 · have h : ¬ (Sum.inr a : Key) = Sum.inr b:=fun q=>e (Sum.inr.inj q)
   rw [decide_eq_false h,decide_eq_false e]
theorem key_lr (a : Int) (b : Str) : decide ((Sum.inl a : Key) = Sum.inr b) = false:=decide_eq_false (fun q=>nomatch q)
theorem key_rl (a : Str) (b : Int) : decide ((Sum.inr a : Key) = Sum.inl b) = false:=decide_eq_false (fun q=>nomatch q)
def mixKind (prog : Program) (w : World) : PySem.KeyKind prog w Key where
 is:=keyIs
 hash:=keyH w
 inj:=fun v a b ha hb=>by
  rcases keyIs_shape ha with ⟨i,t,rfl,rfl⟩ | ⟨x,t,rfl,rfl⟩
  · rcases keyIs_shape hb with ⟨j,u,rfl,e⟩ | ⟨y,u,rfl,e⟩
    · injection e with e1 _; rw [e1]
    · exact nomatch e
  · rcases keyIs_shape hb with ⟨j,u,rfl,e⟩ | ⟨y,u,rfl,e⟩
    · exact nomatch e
    · injection e with e1 _; rw [e1]
 byValue:=fun k v h=>by
  rcases keyIs_shape h with ⟨i,t,rfl,rfl⟩ | ⟨x,t,rfl,rfl⟩ <;> rfl
 pyHash:=fun hv h=>by
  rcases keyIs_shape hv with ⟨i,t,rfl,rfl⟩ | ⟨x,t,rfl,rfl⟩
  · exact wpAny_pyHash_int h
  · exact wpAny_pyHash_str h
 eqBool:=fun hu hv h=>by
  rcases keyIs_shape hu with ⟨i,t,rfl,rfl⟩ | ⟨x,t,rfl,rfl⟩
  · rcases keyIs_shape hv with ⟨j,u,rfl,rfl⟩ | ⟨y,u,rfl,rfl⟩
    · rw [key_ll] at h; exact wpAny_eqBool_int h
    · rw [key_lr] at h; exact SeqAt.EqAt.int_str i t y u _ _ _ _ h
  · rcases keyIs_shape hv with ⟨j,u,rfl,rfl⟩ | ⟨y,u,rfl,rfl⟩
    · rw [key_rl] at h; exact SeqAt.EqAt.str_int x t j u _ _ _ _ h
    · rw [key_rr] at h; exact wpAny_eqBool_str h
 «strs»:=fun k x t v h=>by
  rcases keyIs_shape h with ⟨i,u,rfl,e⟩ | ⟨y,u,rfl,e⟩
  · exact nomatch e
  · injection e with e1 _
    subst e1
    cases v <;> rfl
theorem mixKind_int (prog : Program) (w : World) (i : Int) (t : Tok) : (mixKind prog w).is (.inl i) (.int i t) = true:=keyIs_int i t
theorem mixKind_str (prog : Program) (w : World) (x : Str) (t : Tok) : (mixKind prog w).is (.inr x) (.str x t) = true:=keyIs_str x t
end L2
namespace L2
open PySem PySem.Spec PyProof.Rows
inductive V where
 | non | bl (b : Bool) | int (i : Int) | str (x : Str) | byt (b : Array UInt8) | flt (b : UInt64) | ref (a : Addr) | ty (n : String)
 deriving DecidableEq
def RelV : V → Value → Prop
 | .non,u=>u = Value.none
 | .bl b,u=>u = Value.bool b
 | .int i,u=>∃ t,u = Value.int i t
 | .str x,u=>∃ t,u = Value.str x t
 | .byt b,u=>∃ t,u = Value.bytes b t
 | .flt b,u=>∃ t,u = Value.float b t
 | .ref a,u=>u = Value.ref a
 | .ty n,u=>u = Value.type n
abbrev Vals : List V → List Value → Prop:=Paired RelV
theorem Vals.length {xs : List V} {us : List Value} (r : Vals xs us) : xs.length = us.length:=Paired.length r
theorem Vals.get : ∀ {xs : List V} {us : List Value} {i : Nat} {x : V},Vals xs us → xs[i]? = some x → ∃ u,us[i]? = some u ∧ RelV x u
 | _,_,_,_,.nil,e=>by simp at e
 | _,_,0,_,.cons r _,e=>by simp at e; subst e; exact ⟨_,rfl,r⟩
 | _,_,i + 1,x,.cons _ t,e=>by
  obtain ⟨u,h1,h2⟩:=Vals.get (i:=i) (x:=x) t (by simpa using e)
  exact ⟨u,by simpa using h1,h2⟩
theorem Vals.set {x : V} {u : Value} (r : RelV x u) : ∀ {xs : List V} {us : List Value} (i : Nat),Vals xs us → Vals (xs.set i x) (us.set i u)
 | _,_,_,.nil=>.nil
 | _,_,0,.cons _ t=>.cons r t
 | _,_,i + 1,.cons q t=>.cons q (Vals.set r i t)
theorem Vals.append : ∀ {xs ys : List V} {us ws : List Value},Vals xs us → Vals ys ws → Vals (xs ++ ys) (us ++ ws)
 | _,_,_,_,.nil,s=>s
 | _,_,_,_,.cons r t,s=>.cons r (Vals.append t s)
theorem Vals.take : ∀ {xs : List V} {us : List Value} (n : Nat),Vals xs us → Vals (xs.take n) (us.take n)
 | _,_,0,_=>.nil
 | _,_,_ + 1,.nil=>.nil
 | _,_,n + 1,.cons r t=>.cons r (Vals.take n t)
theorem Vals.drop : ∀ {xs : List V} {us : List Value} (n : Nat),Vals xs us → Vals (xs.drop n) (us.drop n)
 | _,_,0,r=>r
 | _,_,_ + 1,.nil=>.nil
 | _,_,n + 1,.cons _ t=>Vals.drop n t
def RelO : Option V → Option Value → Prop
 | some v,some u=>RelV v u
 | none,none=>True
 | _,_=>False
def KV {κ : Type} : List (κ × V) → List (κ × Value) → Prop:=Paired fun (p : κ × V) (q : κ × Value)=>p.1 = q.1 ∧ RelV p.2 q.2
def kV : Key → V
 | .inl i=>.int i
 | .inr x=>.str x
inductive HO where
 /-- a list -/
 | lst (xs : List V)
 /-- a tuple (never changes) -/
 | tup (xs : List V)
 /-- a dict whose keys are ints and texts; one whose keys are tuples of ints and texts (the empty one is both) -/
 | dK (kvs : List (Key × V)) | dT (kvs : List (List Key × V))
 /-- a set of ints: its members,its size -/
 | set (S : Int → Bool) (n : Nat)
 /-- an instance of the class at C,its dict at dx,its attributes -/
 | ins (C dx : Addr) (fs : List (Str × V))
 /-- the dict of the instance at x -/
 | own (x : Addr)
 /-- the dict of an exception -/
 | xd (fs : List (Str × V))
 /-- a bound method,f of x -/
 | met (f x : Addr)
 /-- a range object lo,lo + 1,.. below hi -/
 | rng (lo hi : Int)
 /-- a thing that is known to the object (the script; a dict while a loop walks it): read,never written while it is so -/
 | frz (o : Obj) (u : HO)
 /-- a code object's table -/
 | tbl (ps : Array Value)
 /-- any other thing,by what is true of its one object (a def of one's own: SetO a S n:=HO.ext fun h=>..) -/
 | ext (φ : Heap → Prop)
abbrev Hp:=Addr → Option HO
def upd (H : Hp) (a : Addr) (o : HO) : Hp:=fun b=>if b = a then some o else H b
theorem upd_same {H : Hp} {a : Addr} {o : HO} : upd H a o a = some o:=by unfold upd; rw [if_pos rfl]
theorem upd_ne {H : Hp} {a b : Addr} {o : HO} (h : b ≠ a) : upd H a o b = H b:=by unfold upd; rw [if_neg h]
theorem upd_upd {H : Hp} {a : Addr} {o u : HO} : upd (upd H a o) a u = upd H a u:=by
 funext b; unfold upd; split <;> rfl
theorem ne_of {H : Hp} {a b : Addr} {o u : HO} (h : H a = some o) (h' : H b = some u) (d : o ≠ u) : a ≠ b:=by
 intro e; subst e; rw [h] at h'; exact d (Option.some.inj h')
theorem ne_of_none {H : Hp} {a b : Addr} {o : HO} (h : H a = some o) (h' : H b = none) : a ≠ b:=by
 intro e; subst e; rw [h] at h'; cases h'
section
variable (P : Program) (w : World)
def ObjOk (H : Hp) (h : Heap) (a : Addr) : HO → Prop
 | .lst xs=>xs.length ≤ sizeLine ∧ ∃ (its : List Value) (n : Nat),Vals xs its ∧ h.get? a = some { cls:=.type "list",data:=.seq its.toArray n }
 | .tup xs=>xs.length ≤ sizeLine ∧ ∃ its : List Value,Vals xs its ∧ IsTup h a its.toArray
 | .dK kvs=>kvs.length ≤ sizeLine ∧ (a == sysModules) = false ∧ ∃ vs,KV kvs vs ∧ h.DictOf (mixKind P w) a vs
 | .dT kvs=>kvs.length ≤ sizeLine ∧ (a == sysModules) = false ∧ ∃ xs : List (List Key × Addr × Value),
  Paired (fun (p : List Key × V) (q : List Key × Addr × Value)=>p.1 = q.1 ∧ H q.2.1 = some (.tup (p.1.map kV)) ∧ RelV p.2 q.2.2) kvs xs ∧
  ∃ o es ep,h.get? a = some o ∧ o.ExactDict ∧ o.data = .dict es ep ∧ es.toList = xs.map (entryOfKey (tupleKind (mixKind P w))) ∧ (xs.map (·.1)).Nodup
 | .set S n=>h.SetOf (intKind P w) a S n
 | .ins C dx fs=>H dx = some (.own a) ∧ fs.length ≤ 1000 ∧ dx ≠ a ∧ h.get? a = some (PySem.W.instObj C dx) ∧
  ∃ mA,h.Ns1 dx mA ∧ (∀ f,RelO (fs.lookup f) (mA f)) ∧ PySem.Within mA (fs.map (·.1))
 | .own _=>∃ o,h.get? a = some o
 | .xd fs=>∃ mA,h.Ns1 a mA ∧ ∀ f,RelO (fs.lookup f) (mA f)
 | .rng lo hi=>∃ t u v,h.get? a = some { cls:=.type "range",data:=.fields #[.int lo t,.int hi u,.int 1 v] }
 | .frz o u=>h.get? a = some o ∧ ObjOk H h a u
 | .tbl ps=>h.get? a = some { cls:=.none,data:=.fields ps }
 | .met f x=>h.get? a = some (PySem.W.methodObj (.ref f) (.ref x))
 | .ext φ=>φ h ∧ (∃ o,h.get? a = some o) ∧ ∀ h1 h2 : Heap,φ h1 → (∀ o,h1.get? a = some o → h2.get? a = some o) → φ h2
def HOk (H : Hp) (h : Heap) : Prop:=∀ a o,H a = some o → ObjOk P w H h a o
end
section
variable {P : Program} {w : World} {H H' : Hp} {h h' : Heap} {a : Addr} {o : HO}
theorem ObjOk.lt (x : ObjOk P w H h a o) : a < h.objs.size:=by
 cases o with
 | lst xs=>obtain ⟨_,_,_,_,e⟩:=x; exact Heap.lt_size e
 | tup xs=>obtain ⟨_,_,_,p⟩:=x; exact p.lt
 | dK kvs=>obtain ⟨_,_,_,_,o,_,_,e,_⟩:=x; exact Heap.lt_size e
 | dT kvs=>obtain ⟨_,_,_,_,o,_,_,e,_⟩:=x; exact Heap.lt_size e
 | set S n=>obtain ⟨o,_,_,_,e,_⟩:=x; exact Heap.lt_size e
 | ins C dx fs=>obtain ⟨_,_,_,e,_⟩:=x; exact Heap.lt_size e
 | own y=>obtain ⟨_,e⟩:=x; exact Heap.lt_size e
 | xd fs=>obtain ⟨_,⟨_,_,_,e,_⟩,_⟩:=x; exact Heap.lt_size e
 | rng lo hi=>obtain ⟨_,_,_,e⟩:=x; exact Heap.lt_size e
 | frz ob u=>obtain ⟨e,_⟩:=x; exact Heap.lt_size e
 | tbl ps=>exact Heap.lt_size (show h.get? a = some _ from x)
 | met f y=>exact Heap.lt_size (show h.get? a = some _ from x)
 | ext φ=>obtain ⟨_,⟨_,e⟩,_⟩:=x; exact Heap.lt_size e
theorem Paired.mapP {α β : Type} {F G : α → β → Prop} : ∀ {l₁ : List α} {l₂ : List β},Paired F l₁ l₂ → (∀ a b,F a b → G a b) → Paired G l₁ l₂
 | _,_,.nil,_=>.nil
 | _,_,.cons r t,f=>.cons (f _ _ r) (Paired.mapP t f)
theorem ObjOk.stay (x : ObjOk P w H h a o) (k : ∀ b u,(b = a ∨ H b = some (.own a)) → h.get? b = some u → h'.get? b = some u)
 (ho : ∀ b,H b = some (.own a) → H' b = some (.own a)) (ht : ∀ b xs,H b = some (.tup xs) → H' b = some (.tup xs)) : ObjOk P w H' h' a o:=by
 induction o with
 | lst xs=>obtain ⟨z,its,n,r,e⟩:=x; exact ⟨z,its,n,r,k _ _ (.inl rfl) e⟩
 | tup xs=>obtain ⟨z,its,r,ob,e,c⟩:=x; exact ⟨z,its,r,ob,k _ _ (.inl rfl) e,c⟩
 | dK kvs=>obtain ⟨z,y,vs,r,ob,es,ep,e,c⟩:=x; exact ⟨z,y,vs,r,ob,es,ep,k _ _ (.inl rfl) e,c⟩
 | dT kvs =>
  obtain ⟨z,y,xs,r,ob,es,ep,e,c⟩:=x
  exact ⟨z,y,xs,Paired.mapP r fun p q z=>⟨z.1,ht _ _ z.2.1,z.2.2⟩,ob,es,ep,k _ _ (.inl rfl) e,c⟩
 | set S n=>obtain ⟨ob,es,ep,t,e,c⟩:=x; exact ⟨ob,es,ep,t,k _ _ (.inl rfl) e,c⟩
 | ins C dx fs =>
  obtain ⟨d,z,ne,e,mA,⟨od,es,ep,e2,c⟩,r⟩:=x
  exact ⟨ho _ d,z,ne,k _ _ (.inl rfl) e,mA,⟨od,es,ep,k _ _ (.inr d) e2,c⟩,r⟩
 | own y=>obtain ⟨ob,e⟩:=x; exact ⟨ob,k _ _ (.inl rfl) e⟩
 | xd fs=>obtain ⟨mA,⟨od,es,ep,e,c⟩,r⟩:=x; exact ⟨mA,⟨od,es,ep,k _ _ (.inl rfl) e,c⟩,r⟩
 | rng lo hi=>obtain ⟨t,u,v,e⟩:=x; exact ⟨t,u,v,k _ _ (.inl rfl) e⟩
 | frz ob u ih=>obtain ⟨e,q⟩:=x; exact ⟨k _ _ (.inl rfl) e,ih q⟩
 | tbl ps =>
  have e : h.get? a = some { cls:=.none,data:=.fields ps }:=x
  show h'.get? a = some { cls:=.none,data:=.fields ps }
  exact k a _ (.inl rfl) e
 | met f y =>
  have e : h.get? a = some (PySem.W.methodObj (.ref f) (.ref y)):=x
  show h'.get? a = some (PySem.W.methodObj (.ref f) (.ref y))
  exact k a _ (.inl rfl) e
 | ext φ=>obtain ⟨p,⟨o,e⟩,st⟩:=x; exact ⟨st _ _ p fun o q=>k _ _ (.inl rfl) q,⟨o,k _ _ (.inl rfl) e⟩,st⟩
theorem HOk.lt (x : HOk P w H h) (e : H a = some o) : a < h.objs.size:=(x a o e).lt
theorem HOk.fresh (x : HOk P w H h) (e : h.objs.size ≤ a) : H a = none:=by
 cases q : H a with
 | none=>rfl
 | some u=>exact absurd (Nat.lt_of_lt_of_le (x.lt q) e) (Nat.lt_irrefl _)
theorem HOk.kept (x : HOk P w H h) (k : ∀ b u,h.get? b = some u → h'.get? b = some u) : HOk P w H h':=fun a o e =>
 (x a o e).stay (fun b u _ q=>k b u q) (fun _ q=>q) fun _ _ q=>q
theorem HOk.laid (x : HOk P w H h) (k : ∀ b u,h.get? b = some u → h'.get? b = some u) (hp : h.objs.size ≤ a) (new : ObjOk P w (upd H a o) h' a o) : HOk P w (upd H a o) h':=fun b u e=>by
 have hn:=x.fresh hp
 by_cases hb : b = a
 · subst hb; rw [upd_same] at e; cases e; exact new
 · rw [upd_ne hb] at e
   exact (x b u e).stay (fun c v _ q=>k c v q) (fun c q=>by rw [upd_ne (ne_of_none q hn)]; exact q) fun c xs q=>by rw [upd_ne (ne_of_none q hn)]; exact q
end
def Rd (H : Hp) (a : Addr) (u : HO) : Prop:=H a = some u ∨ ∃ o,H a = some (.frz o u)
theorem Rd.ok {P : Program} {w : World} {H : Hp} {h : Heap} {a : Addr} {u : HO} (r : Rd H a u) (x : HOk P w H h) : ObjOk P w H h a u:=by
 rcases r with r | ⟨o,r⟩
 · exact x a u r
 · obtain ⟨_,q⟩:=x a _ r
   exact q
def Mut : Option HO → Prop
 | some (.lst _)=>True
 | some (.dK _)=>True
 | some (.dT _)=>True
 | some (.set _ _)=>True
 | some (.ins _ _ _)=>True
 | some (.ext _)=>True
 | _=>False
section
variable {P : Program} {w : World} {H : Hp} {h h' : Heap} {x e : Addr} {o' : HO}
theorem HOk.write (ok : HOk P w H h) (mu : Mut (H x)) (he : e = x ∨ H e = some (.own x)) (k : ∀ b u,b ≠ e → h.get? b = some u → h'.get? b = some u) (heo : ∃ u,h'.get? e = some u)
 (new : ObjOk P w (upd H x o') h' x o') : HOk P w (upd H x o') h':=fun b u q=>by
 have nown : ∀ c y,H c = some (.own y) → c ≠ x:=fun c y r z=>by subst z; rw [r] at mu; exact mu
 have ntup : ∀ c xs,H c = some (.tup xs) → c ≠ x:=fun c xs r z=>by subst z; rw [r] at mu; exact mu
 by_cases hb : b = x
 · subst hb; rw [upd_same] at q; cases q; exact new
 · rw [upd_ne hb] at q
   by_cases hbe : b = e
   · have q' : H b = some (.own x):=by
      rcases he with z | z
      · exact absurd (hbe.trans z) hb
      · rw [hbe]; exact z
     rw [q] at q'; cases q'
     obtain ⟨v,hv⟩:=heo
     exact ⟨v,by rw [hbe]; exact hv⟩
   · refine (ok b u q).stay (fun c v hc r=>k c v ?_ r) (fun c r=>by rw [upd_ne (nown c b r)]; exact r) fun c xs r=>by rw [upd_ne (ntup c xs r)]; exact r
     rcases hc with rfl | hc
     · exact hbe
     · rintro rfl
       rcases he with z | z
       · exact nown c b hc z
       · rw [hc] at z; cases z; exact hb rfl
end
structure Un (fs ex : List Addr) (H H' : Hp) (h h' : Heap) : Prop where
 keep : ∀ b o,h.get? b = some o → H b = none → b ∉ fs → b ∉ ex → h'.get? b = some o
 slot : ∀ b o,h.get? b = some o → H b = none → b ∈ fs → b ∉ ex → ∃ sl,h'.get? b = some { o with slots:=sl }
 free : ∀ b o,h.get? b = some o → H b = none → b ∉ ex → H' b = none
 there : ∀ b o,h.get? b = some o → b ∉ ex → ∃ o',h'.get? b = some o'
 tups : ∀ b xs,H b = some (.tup xs) → H' b = some (.tup xs)
 frzs : ∀ b o u,H b = some (.frz o u) → H' b = some (.frz o u)
 tbls : ∀ b ps,H b = some (.tbl ps) → ∃ more,H' b = some (.tbl (ps ++ more))
section
variable {fs fs' ex ex' : List Addr} {H H1 H2 : Hp} {h h1 h2 h' : Heap} {a x e : Addr} {o : HO}
theorem Un.any (u : Un fs ex H H1 h h1) {b : Addr} {ob : Obj} (q : h.get? b = some ob) (n : H b = none) (hx : b ∉ ex) : ∃ sl,h1.get? b = some { ob with slots:=sl }:=by
 by_cases hb : b ∈ fs
 · exact u.slot b ob q n hb hx
 · exact ⟨ob.slots,u.keep b ob q n hb hx⟩
theorem Un.kept (k : ∀ b u,h.get? b = some u → h'.get? b = some u) : Un fs ex H H h h' :=
 ⟨fun b ob q _ _ _=>k b ob q,fun b ob q _ _ _=>⟨ob.slots,k b ob q⟩,fun _ _ _ n _=>n,fun b ob q _=>⟨ob,k b ob q⟩,fun _ _ q=>q,fun _ _ _ q=>q,fun _ ps q=>⟨#[],by rw [q]; simp⟩⟩
theorem Un.refl : Un fs ex H H h h:=Un.kept fun _ _ q=>q
theorem Un.laid (k : ∀ b u,h.get? b = some u → h'.get? b = some u) (hp : h.objs.size ≤ a) (hn : H a = none) : Un fs ex H (upd H a o) h h' where
 keep:=fun b u q _ _ _=>k b u q
 slot:=fun b u q _ _ _=>⟨u.slots,k b u q⟩
 free:=fun b u q n _=>by rw [upd_ne (Nat.ne_of_lt (Nat.lt_of_lt_of_le (Heap.lt_size q) hp))]; exact n
 there:=fun b u q _=>⟨u,k b u q⟩
 tups:=fun b xs q=>by rw [upd_ne (ne_of_none q hn)]; exact q
 frzs:=fun b u xs q=>by rw [upd_ne (ne_of_none q hn)]; exact q
 tbls:=fun b ps q=>⟨#[],by rw [upd_ne (ne_of_none q hn),q]; simp⟩
theorem Un.write (mu : Mut (H x)) (he : e = x ∨ H e = some (.own x)) (k : ∀ b u,b ≠ e → h.get? b = some u → h'.get? b = some u) (heo : ∃ u,h'.get? e = some u) : Un fs ex H (upd H x o) h h':=by
 have hx : ∀ b,H b = none → b ≠ x:=fun b n z=>by subst z; rw [n] at mu; exact mu
 have hb : ∀ b,H b = none → b ≠ e:=fun b n z=>by
  subst z
  rcases he with r | r
  · exact hx b n r
  · rw [n] at r; cases r
 have hm : ∀ b u,H b = some u → ¬ Mut (some u) → b ≠ x:=fun b u q nm z=>by subst z; rw [q] at mu; exact nm mu
 refine ⟨fun b u q n _ _=>k b u (hb b n) q,fun b u q n _ _=>⟨u.slots,k b u (hb b n) q⟩,fun b u q n _=>by rw [upd_ne (hx b n)]; exact n,fun b u q _=>?_,
  fun b xs q=>by rw [upd_ne (hm b _ q fun z=>z)]; exact q,fun b u xs q=>by rw [upd_ne (hm b _ q fun z=>z)]; exact q,fun b ps q=>⟨#[],by rw [upd_ne (hm b _ q fun z=>z),q]; simp⟩⟩
 by_cases hbe : b = e
 · subst hbe; exact heo
 · exact ⟨u,k b u hbe q⟩
end
def trk (h : Heap) (H : Hp) : List Addr:=(List.range h.objs.size).filter fun a=>(H a).isSome
def hidT (h : Heap) (H : Hp) : Heap:=PySem.W.hideAll h (trk h H)
theorem hidT_size (h : Heap) (H : Hp) : (hidT h H).objs.size = h.objs.size:=PySem.W.hideAll_size _ _
theorem hidT_get {h : Heap} {H : Hp} {b : Addr} {o : Obj} (e : h.get? b = some o) (n : H b = none) : (hidT h H).get? b = some o :=
 PySem.W.hideAll_get _ e fun hm=>by
  have q : (H b).isSome = true:=(List.mem_filter.mp hm).2
  rw [n] at q; simp at q
theorem of_hidT {h : Heap} {H : Hp} {b : Addr} {o : Obj} (e : (hidT h H).get? b = some o) : h.get? b = some o ∧ H b = none:=by
 have e' : h.get? b = some o:=PySem.W.of_hideAll (trk h H) e
 refine ⟨e',?_⟩
 cases q : H b with
 | none=>rfl
 | some x =>
  have hm : b ∈ trk h H:=List.mem_filter.mpr ⟨List.mem_range.mpr (Heap.lt_size e'),by simp [q]⟩
  have z : (hidT h H).get? b = none:=PySem.W.hideAll_none (trk h H) hm
  rw [z] at e; cases e
def allNews (g h : Heap) (L : Addr) : List (Addr × Obj):=(List.range h.objs.size).filterMap fun a=>if a = L ∨ (g.get? a).isSome = true then none else (h.get? a).map fun o=>(a,o)
def rest (g h : Heap) (L d : Addr) : List (Addr × Obj):=(allNews g h L).filter fun p=>decide (p.1 ≠ d)
end L2
namespace L2
open PySem PySem.Spec PyProof.Rows
structure Mod (K : PySem.W.Frag) (mg : Str → Option Value) (base : Heap) : Prop where
 kin : K.In base
 glob : base.Ns mainGlobals mg
 blt : ∃ mb,base.Ns builtinsNs mb ∧ ∀ x : Str,x ≠ "__name__" → mb x = bootBuiltins x
 nolimit : base.NoLimit
structure Cx where
 prog : Program
 w : World
 K : PySem.W.Frag
 mg : Str → Option Value
 base : Heap
 A : Around
 N : List Str
 s₀ : Shared
 H₀ : Hp
 env : Env
 outer : List Env
 stack : List Env
 ex : List Addr
 fn : Str → Bool
 calm : Bool
 pn : List (Addr × Obj)
 xe : Value → Shared → Prop
def frs (l : List Env) : List Addr:=l.filterMap (·.frame)
abbrev Cx.fs (X : Cx) : List Addr:=frs X.outer
def Vis (sc : Scope) (x : Str) : Prop:=sc.names.lookup x = some .local ∨ sc.names.lookup x = some .cell ∨ sc.names.lookup x = some .free
def Loc (sc : Scope) (x : Str) : Prop:=sc.names.lookup x = some .local ∨ sc.names.lookup x = some .cell
def Look (env : Env) (h : Heap) (m : Str → Option Value) (x : Str) (u : Value) : Prop :=
 (env.kindOf x = some .local ∧ m x = some u) ∨ ((env.kindOf x = some .cell ∨ env.kindOf x = some .free) ∧ ∃ c,env.cells.lookup x = some c ∧ h.IsCell c (some u))
structure Cx.Ok (X : Cx) : Prop where
 mod : Mod X.K X.mg X.base
 kind : X.env.scope.kind = .function
 glob : X.env.globals = mainGlobals
 blt : X.env.builtins = builtinsNs
 above : X.s₀.heap.objs.size ≤ X.env.locals
 inj : ∀ x y c,X.env.cells.lookup x = some c → X.env.cells.lookup y = some c → x = y
 has : ∀ x,(X.env.kindOf x = some .cell ∨ X.env.kindOf x = some .free) → ∃ c,X.env.cells.lookup x = some c
 cab : ∀ x c,X.fn x = true → X.env.cells.lookup x = some c → X.s₀.heap.objs.size ≤ c
 hd : X.calm = true → X.A.handled = none
 frames : X.A.frames = some X.stack
 stk : X.stack = X.outer ∨ (X.stack = X.env :: X.outer ∧ X.env.frame = some X.env.locals)
 exf : ∀ b ∈ X.ex,b ≠ X.env.locals ∧ ∀ x c,X.env.cells.lookup x = some c → c ≠ b
 bs : ∀ b o,X.base.get? b = some o → X.s₀.heap.get? b = some o ∧ X.H₀ b = none
 bsz : X.base.objs.size ≤ X.s₀.heap.objs.size
 noex : ∀ b o,X.base.get? b = some o → b ∉ X.ex
 exfs : ∀ b ∈ X.ex,b ∉ X.fs
 funs : X.s₀.heap.FunFrames X.base X.outer
 frf : ∀ b ∈ X.fs,X.H₀ b = none
structure Inv (X : Cx) (pins : List (Addr × Obj)) (σ : List (Option V)) (H : Hp) (s : Shared) : Prop where
 ok : X.Ok
 os : s.os = X.s₀.os
 bare : AllBare s.gens
 base : Un X.fs X.ex X.H₀ H X.s₀.heap s.heap
 loc : ∃ m,s.heap.Ns X.env.locals m ∧ ∀ (i : Nat) (x : Str) (v : V),X.N[i]? = some x → σ[i]? = some (some v) → Vis X.env.scope x → ∃ u,RelV v u ∧ Look X.env s.heap m x u
 cell : ∀ x c,X.env.cells.lookup x = some c → ∃ v,s.heap.IsCell c v
 free : H X.env.locals = none
 freeC : ∀ x c,X.env.cells.lookup x = some c → H c = none
 pin : ∀ p ∈ X.pn ++ pins,s.heap.get? p.1 = some p.2 ∧ H p.1 = none ∧ p.1 ≠ X.env.locals ∧ p.1 ∉ X.fs ∧ ∀ v,p.2.data ≠ .cell v
 hok : HOk X.prog X.w H s.heap
 len : σ.length = X.N.length
section
variable {X : Cx} {pins : List (Addr × Obj)} {σ : List (Option V)} {H H' : Hp} {s : Shared} {h' : Heap}
theorem Cx.Ok.nofr (ok : X.Ok) {b : Addr} {o : Obj} (e : X.base.get? b = some o) : b ∉ X.fs:=fun hb=>by
 have:=(ok.funs.mem hb).1
 rw [e] at this; cases this
theorem Inv.bs (I : Inv X pins σ H s) : ∀ b o,X.base.get? b = some o → s.heap.get? b = some o ∧ H b = none:=fun b o e =>
 ⟨I.base.keep b o (I.ok.bs b o e).1 (I.ok.bs b o e).2 (I.ok.nofr e) (I.ok.noex b o e),I.base.free b o (I.ok.bs b o e).1 (I.ok.bs b o e).2 (I.ok.noex b o e)⟩
theorem Inv.bk (I : Inv X pins σ H s) : ∀ b o,X.base.get? b = some o → s.heap.get? b = some o:=fun b o e=>(I.bs b o e).1
theorem Inv.mod (I : Inv X pins σ H s) : Mod X.K X.mg X.base:=I.ok.mod
theorem Inv.kIn (I : Inv X pins σ H s) : X.K.In s.heap:=I.ok.mod.kin.keeps I.bk
theorem Inv.lt (I : Inv X pins σ H s) : X.env.locals < s.heap.objs.size:=let ⟨_,hn,_⟩:=I.loc; hn.lt
theorem Inv.sz (I : Inv X pins σ H s) : X.s₀.heap.objs.size ≤ s.heap.objs.size:=Nat.le_trans I.ok.above (Nat.le_of_lt I.lt)
theorem Inv.nofs (I : Inv X pins σ H s) {a : Addr} (h : s.heap.objs.size ≤ a) : a ∉ X.fs:=fun hb=>by
 obtain ⟨_,o,ho,_⟩:=I.ok.funs.mem hb
 exact absurd (Nat.lt_of_lt_of_le (Heap.lt_size ho) (Nat.le_trans I.sz h)) (Nat.lt_irrefl _)
theorem Inv.cne (I : Inv X pins σ H s) : ∀ x c,X.env.cells.lookup x = some c → c ≠ X.env.locals:=fun x c e z=>by
 obtain ⟨v,o,ho,hd⟩:=I.cell x c e
 obtain ⟨m,⟨o',es,ep,ho',hd',_⟩,_⟩:=I.loc
 rw [z,ho'] at ho; cases ho; rw [hd'] at hd; cases hd
theorem Inv.funs (I : Inv X pins σ H s) : s.heap.FunFrames X.base X.outer:=by
 have all : ∀ (l : List Env),(∀ b ∈ frs l,b ∈ X.fs) → X.s₀.heap.FunFrames X.base l → s.heap.FunFrames X.base l:=by
  intro l
  induction l with
  | nil=>intro _ _; trivial
  | cons env r ih =>
   intro hs hl
   obtain ⟨hk,⟨L,o,hf,hn,ho,hd⟩,hr⟩:=hl
   have hL : L ∈ X.fs:=hs L (by unfold frs; rw [List.filterMap_cons,hf]; exact List.mem_cons_self)
   obtain ⟨sl,e⟩:=I.base.slot L o ho (I.ok.frf L hL) hL fun z=>I.ok.exfs L z hL
   exact ⟨hk,⟨L,_,hf,hn,e,hd⟩,ih (fun b hb=>hs b (by unfold frs; rw [List.filterMap_cons,hf]; exact List.mem_cons_of_mem _ hb)) hr⟩
 exact all X.outer (fun _ hb=>hb) I.ok.funs
theorem Inv.stack (I : Inv X pins σ H s) : s.heap.FunFrames X.base X.stack:=by
 rcases I.ok.stk with e | ⟨e,hf⟩
 · rw [e]; exact I.funs
 · rw [e]
   obtain ⟨m,hn,_⟩:=I.loc
   refine .cons (by rw [I.ok.kind]; decide) hf hn ?_ I.funs
   exact Heap.get?_none_of_le (Nat.le_trans I.ok.bsz I.ok.above)
theorem Inv.stkSub (I : Inv X pins σ H s) : ∀ b ∈ frs X.stack,b ∈ X.env.locals :: X.fs:=fun b hb=>by
 rcases I.ok.stk with e | ⟨e,hf⟩
 · rw [e] at hb; exact List.mem_cons_of_mem _ hb
 · rw [e] at hb
   unfold frs at hb
   rw [List.filterMap_cons,hf] at hb
   exact hb
theorem Inv.stkFree (I : Inv X pins σ H s) : ∀ b ∈ frs X.stack,H b = none:=fun b hb=>by
 rcases List.mem_cons.mp (I.stkSub b hb) with e | hb
 · rw [e]; exact I.free
 · obtain ⟨_,o,ho,_⟩:=I.ok.funs.mem hb
   exact I.base.free b o ho (I.ok.frf b hb) fun z=>I.ok.exfs b z hb
theorem Inv.step {g' : Array GenState} {t' : Nat} {d' : Drawn} {ch : List Addr} (I : Inv X pins σ H s)
 (hch : ∀ b ∈ ch,(b ∈ X.ex ∨ X.s₀.heap.objs.size ≤ b) ∧ b ≠ X.env.locals ∧ (∀ x c,X.env.cells.lookup x = some c → c ≠ b) ∧ ∀ p ∈ X.pn ++ pins,p.1 ≠ b)
 (keep : ∀ b o,b ≠ X.env.locals → b ∉ X.fs → b ∉ ch → s.heap.get? b = some o → H b = none → h'.get? b = some o)
 (slot : ∀ b o,b ≠ X.env.locals → b ∈ X.fs → b ∉ ch → s.heap.get? b = some o → H b = none → ∃ sl,h'.get? b = some { o with slots:=sl }) (free : ∀ b o,b ∉ ch → s.heap.get? b = some o → H b = none → H' b = none)
 (there : ∀ b o,b ∉ ch → s.heap.get? b = some o → ∃ o',h'.get? b = some o')
 (tups : ∀ b xs,H b = some (.tup xs) → H' b = some (.tup xs)) (frzs : ∀ b o u,H b = some (.frz o u) → H' b = some (.frz o u)) (tbls : ∀ b ps,H b = some (.tbl ps) → ∃ more,H' b = some (.tbl (ps ++ more)))
 (ns : ∀ m,s.heap.Ns X.env.locals m → h'.Ns X.env.locals m) (hok : HOk X.prog X.w H' h') (hg : AllBare g') :
 Inv X pins σ H' { s with heap:=h',gens:=g',drawn:=d',toks:=t' }:=by
 have neL : ∀ b o,X.s₀.heap.get? b = some o → b ≠ X.env.locals:=fun b o e=>Nat.ne_of_lt (Nat.lt_of_lt_of_le (Heap.lt_size e) I.ok.above)
 have neC : ∀ b o,X.s₀.heap.get? b = some o → b ∉ X.ex → b ∉ ch:=fun b o e hx hb=>by
  rcases (hch b hb).1 with z | z
  · exact hx z
  · exact absurd (Nat.lt_of_lt_of_le (Heap.lt_size e) z) (Nat.lt_irrefl _)
 have cellK : ∀ x c,X.env.cells.lookup x = some c → ∀ v,s.heap.IsCell c v → h'.IsCell c v:=fun x c e v ⟨o,ho,hd⟩=>by
  have nch : c ∉ ch:=fun z=>(hch c z).2.2.1 x c e rfl
  by_cases hc : c ∈ X.fs
  · obtain ⟨sl,q⟩:=slot c o (I.cne x c e) hc nch ho (I.freeC x c e)
    exact ⟨_,q,hd⟩
  · exact ⟨o,keep c o (I.cne x c e) hc nch ho (I.freeC x c e),hd⟩
 refine ⟨I.ok,I.os,hg,⟨fun b o e n hb hx=>?_,fun b o e n hb hx=>?_,fun b o e n hx=>?_,fun b o e hx=>?_,fun b xs e=>tups b xs (I.base.tups b xs e),fun b o xs e=>frzs b o xs (I.base.frzs b o xs e),fun b ps e=>?_⟩,?_,fun x c e=>?_,?_,fun x c e=>?_,fun p hp=>?_,hok,I.len⟩
 · exact keep b o (neL b o e) hb (neC b o e hx) (I.base.keep b o e n hb hx) (I.base.free b o e n hx)
 · obtain ⟨sl,e1⟩:=I.base.slot b o e n hb hx
   obtain ⟨sl',e2⟩:=slot b _ (neL b o e) hb (neC b o e hx) e1 (I.base.free b o e n hx)
   exact ⟨sl',e2⟩
 · obtain ⟨o',e1⟩:=I.base.there b o e hx
   exact free b o' (neC b o e hx) e1 (I.base.free b o e n hx)
 · obtain ⟨o',e1⟩:=I.base.there b o e hx
   exact there b o' (neC b o e hx) e1
 · obtain ⟨m1,e1⟩:=I.base.tbls b ps e
   obtain ⟨m2,e2⟩:=tbls b _ e1
   exact ⟨m1 ++ m2,by rw [e2,Array.append_assoc]⟩
 · obtain ⟨m,hn,hl⟩:=I.loc
   refine ⟨m,ns m hn,fun i x v e1 e2 e3=>?_⟩
   obtain ⟨u,r,l⟩:=hl i x v e1 e2 e3
   refine ⟨u,r,?_⟩
   rcases l with l | ⟨k,c,e,z⟩
   · exact .inl l
   · exact .inr ⟨k,c,e,cellK x c e _ z⟩
 · obtain ⟨v,z⟩:=I.cell x c e
   exact ⟨v,cellK x c e v z⟩
 · obtain ⟨m,⟨o,_,_,ho,_⟩,_⟩:=I.loc
   exact free _ o (fun z=>(hch _ z).2.1 rfl) ho I.free
 · obtain ⟨v,o,ho,hd⟩:=I.cell x c e
   exact free c o (fun z=>(hch c z).2.2.1 x c e rfl) ho (I.freeC x c e)
 · obtain ⟨e,n,ne,nf,d⟩:=I.pin p hp
   have nch : p.1 ∉ ch:=fun z=>(hch p.1 z).2.2.2 p hp rfl
   exact ⟨keep p.1 p.2 ne nf nch e n,free p.1 p.2 nch e n,ne,nf,d⟩
theorem Inv.un {t' : Nat} (I : Inv X pins σ H s) (u : Un X.fs [] H H' s.heap h') (hok : HOk X.prog X.w H' h') : Inv X pins σ H' { s with heap:=h',toks:=t' }:=by
 obtain ⟨m,⟨o,es,ep,ho,r⟩,_⟩:=id I.loc
 obtain ⟨sl,hL⟩:=u.any ho I.free (by simp)
 exact I.step (g':=s.gens) (d':=s.drawn) (ch:=[]) (fun _ z=>nomatch z) (fun b o _ hb _ e n=>u.keep b o e n hb (by simp)) (fun b o _ hb _ e n=>u.slot b o e n hb (by simp)) (fun b o _ e n=>u.free b o e n (by simp)) (fun b o _ e=>u.there b o e (by simp)) u.tups u.frzs u.tbls (fun m' hm=>by
  obtain ⟨o',es',ep',ho',r'⟩:=hm
  rw [ho] at ho'; cases ho'
  exact ⟨_,es',ep',hL,r'⟩) hok I.bare
theorem Inv.call {g' : Array GenState} {t' : Nat} {d' : Drawn} {ch : List Addr} (I : Inv X pins σ H s) (u : Un (frs X.stack) ch H H' s.heap h') (hok : HOk X.prog X.w H' h') (hg : AllBare g')
 (hch : ∀ b ∈ ch,(b ∈ X.ex ∨ X.s₀.heap.objs.size ≤ b) ∧ b ≠ X.env.locals ∧ (∀ x c,X.env.cells.lookup x = some c → c ≠ b) ∧ ∀ p ∈ X.pn ++ pins,p.1 ≠ b) :
 Inv X pins σ H' { s with heap:=h',gens:=g',drawn:=d',toks:=t' }:=by
 obtain ⟨m,⟨o,es,ep,ho,r⟩,_⟩:=id I.loc
 obtain ⟨sl,hL⟩:=u.any ho I.free fun z=>(hch _ z).2.1 rfl
 exact I.step (ch:=ch) hch (fun b o hL hb hc e n=>u.keep b o e n (fun z=>(List.mem_cons.mp (I.stkSub b z)).elim hL hb) hc) (fun b o _ _ hc e n=>u.any e n hc) (fun b o hc e n=>u.free b o e n hc) (fun b o hc e=>u.there b o e hc) u.tups u.frzs u.tbls (fun m' hm=>by
  obtain ⟨o',es',ep',ho',r'⟩:=hm
  rw [ho] at ho'; cases ho'
  exact ⟨_,es',ep',hL,r'⟩) hok hg
theorem Inv.turned {t' : Nat} {it : Addr} (I : Inv X pins σ H s) (k : ∀ b o,b ≠ it → s.heap.get? b = some o → h'.get? b = some o) (hn : H it = none) (hL : it ≠ X.env.locals)
 (h1 : it ∈ X.ex ∨ X.s₀.heap.objs.size ≤ it) (h2 : ∀ x c,X.env.cells.lookup x = some c → c ≠ it) (h3 : ∀ p ∈ X.pn ++ pins,p.1 ≠ it) : Inv X pins σ H { s with heap:=h',toks:=t' }:=by
 have nit : ∀ b u,H b = some u → b ≠ it:=fun b u e z=>by rw [z,hn] at e; cases e
 refine I.step (g':=s.gens) (d':=s.drawn) (ch:=[it]) (fun b hb=>?_) (fun b o _ _ hc e _=>k b o (fun z=>hc (by simp [z])) e) (fun b o _ _ hc e _=>⟨o.slots,k b o (fun z=>hc (by simp [z])) e⟩) (fun _ _ _ _ n=>n)
  (fun b o hc e=>⟨o,k b o (fun z=>hc (by simp [z])) e⟩) (fun _ _ e=>e) (fun _ _ _ e=>e) (fun b ps e=>⟨#[],by rw [e]; simp⟩) (fun m hm=>?_) (fun b u e=>?_) I.bare
 · have e : b = it:=by simpa using hb
   subst e
   exact ⟨h1,hL,h2,h3⟩
 · obtain ⟨o,es,ep,ho,r⟩:=hm
   exact ⟨o,es,ep,k _ o (Ne.symm hL) ho,r⟩
 · refine (I.hok b u e).stay (fun c v hc q=>k c v ?_ q) (fun _ q=>q) fun _ _ q=>q
   rcases hc with z | z
   · rw [z]; exact nit b u e
   · exact nit c _ z
theorem Inv.tok (I : Inv X pins σ H s) (t : Nat) : Inv X pins σ H { s with toks:=t }:=I.un (h':=s.heap) (t':=t) Un.refl I.hok
theorem Inv.kept {t' : Nat} (I : Inv X pins σ H s) (k : ∀ b u,s.heap.get? b = some u → h'.get? b = some u) : Inv X pins σ H { s with heap:=h',toks:=t' }:=I.un (Un.kept k) (I.hok.kept k)
theorem Inv.laid {a : Addr} {o : HO} {t' : Nat} (I : Inv X pins σ H s) (k : ∀ b u,s.heap.get? b = some u → h'.get? b = some u) (hp : s.heap.objs.size ≤ a) (new : ObjOk X.prog X.w (upd H a o) h' a o) :
 Inv X pins σ (upd H a o) { s with heap:=h',toks:=t' }:=I.un (Un.laid k hp (I.hok.fresh hp)) (I.hok.laid k hp new)
theorem Inv.write {x e : Addr} {o : HO} {t' : Nat} (I : Inv X pins σ H s) (mu : Mut (H x)) (he : e = x ∨ H e = some (.own x)) (k : ∀ b u,b ≠ e → s.heap.get? b = some u → h'.get? b = some u) (heo : ∃ u,h'.get? e = some u)
 (new : ObjOk X.prog X.w (upd H x o) h' x o) : Inv X pins σ (upd H x o) { s with heap:=h',toks:=t' }:=I.un (Un.write mu he k heo) (I.hok.write mu he k heo new)
theorem Inv.pins_of {pins' : List (Addr × Obj)} (I : Inv X pins σ H s) (h : ∀ p ∈ pins',s.heap.get? p.1 = some p.2 ∧ H p.1 = none ∧ p.1 ≠ X.env.locals ∧ p.1 ∉ X.fs ∧ ∀ v,p.2.data ≠ .cell v) : Inv X pins' σ H s :=
 ⟨I.ok,I.os,I.bare,I.base,I.loc,I.cell,I.free,I.freeC,fun p hp=>(List.mem_append.mp hp).elim (fun z=>I.pin p (List.mem_append_left _ z)) (h p),I.hok,I.len⟩
theorem nodup_ix {N : List Str} (hN : N.Nodup) {i j : Nat} {x : Str} (a : N[i]? = some x) (b : N[j]? = some x) : i = j:=by
 obtain ⟨h1,e1⟩:=List.getElem?_eq_some_iff.mp a
 obtain ⟨h2,e2⟩:=List.getElem?_eq_some_iff.mp b
 exact (List.getElem_inj hN).mp (e1.trans e2.symm)
theorem store_ok2 {M : Model} {A : Around} {E : Value → Shared → Prop} {i : Nat} {x : Str} {v : V} {u : Value} {Q : Unit → Shared → Prop} (I : Inv X pins σ H s) (hN : X.N.Nodup) (hi : X.N[i]? = some x) (hx : Loc X.env.scope x) (r : RelV v u)
 (h : ∀ s',Inv X pins (σ.set i (some v)) H s' → (∃ a,Heap.SameBut a s.heap s'.heap ∧ (a = X.env.locals ∨ X.env.cells.lookup x = some a)) → Q () s') (hf : X.fn x = true ∨ X.env.scope.names.lookup x = some .local:=by first | exact .inl rfl | exact .inr rfl | assumption) : wpAny M A (storeName X.env x u) Q E s:=by
 obtain ⟨m,hn,hl⟩:=id I.loc
 have hcls : (X.env.scope.kind == .class || (X.env.scope.kind == .module && X.env.locals != X.env.globals)) = false:=by rw [I.ok.kind]; rfl
 have hiσ : i < σ.length:=by rw [I.len]; exact (List.getElem?_eq_some_iff.mp hi).1
 have cne:=I.cne
 have tracked : ∀ {a : Addr} {h' : Heap},(∃ o,s.heap.get? a = some o ∧ H a = none) → Heap.SameBut a s.heap h' → HOk X.prog X.w H h':=fun {a h'} ha hs b ob e=>by
  obtain ⟨_,_,hfree⟩:=ha
  refine (I.hok b ob e).stay (fun c w' hc q=>(hs.2 c ?_).trans q) (fun _ q=>q) fun _ _ q=>q
  rintro rfl
  rcases hc with rfl | hc
  · rw [hfree] at e; cases e
  · rw [hfree] at hc; cases hc
 rcases hx with hk | hk
 · refine wpAny_storeName_local hk hn (fun h' hn' hs=>?_) hcls
   obtain ⟨oL,_,_,hoL,_⟩:=id hn
   refine h _ ⟨I.ok,I.os,I.bare,⟨fun b o e n hb hx=>?_,fun b o e n hb hx=>?_,I.base.free,fun b o e hx=>?_,I.base.tups,I.base.frzs,I.base.tbls⟩,⟨_,hn',fun j y v' e1 e2 e3=>?_⟩,fun y c e=>?_,I.free,I.freeC,fun p hp=>?_,tracked ⟨oL,hoL,I.free⟩ hs,by simpa using I.len⟩ ⟨_,hs,.inl rfl⟩
   · exact (hs.2 b (Nat.ne_of_lt (Nat.lt_of_lt_of_le (Heap.lt_size e) I.ok.above))).trans (I.base.keep b o e n hb hx)
   · obtain ⟨sl,e1⟩:=I.base.slot b o e n hb hx
     exact ⟨sl,(hs.2 b (Nat.ne_of_lt (Nat.lt_of_lt_of_le (Heap.lt_size e) I.ok.above))).trans e1⟩
   · obtain ⟨o',e1⟩:=I.base.there b o e hx
     exact ⟨o',(hs.2 b (Nat.ne_of_lt (Nat.lt_of_lt_of_le (Heap.lt_size e) I.ok.above))).trans e1⟩
   · by_cases hj : j = i
     · subst hj
       rw [hi] at e1; cases e1
       rw [List.getElem?_set_self hiσ] at e2
       cases e2
       exact ⟨u,r,.inl ⟨hk,by simp⟩⟩
     · rw [List.getElem?_set_ne (Ne.symm hj)] at e2
       obtain ⟨u',r',q⟩:=hl j y v' e1 e2 e3
       refine ⟨u',r',?_⟩
       rcases q with ⟨k,e⟩ | ⟨k,c,e,z⟩
       · refine .inl ⟨k,?_⟩
         have : y ≠ x:=fun e=>hj (nodup_ix hN e1 (e ▸ hi))
         simp [this,e]
       · exact .inr ⟨k,c,e,z.sameBut hs (cne y c e)⟩
   · obtain ⟨w',z⟩:=I.cell y c e
     exact ⟨w',z.sameBut hs (cne y c e)⟩
   · obtain ⟨e,n,ne,nf,d⟩:=I.pin p hp
     exact ⟨(hs.2 p.1 ne).trans e,n,ne,nf,d⟩
 · have hfn : X.fn x = true:=by
    rcases hf with z | z
    · exact z
    · rw [z] at hk; cases hk
   obtain ⟨c,hc⟩:=I.ok.has x (.inl hk)
   obtain ⟨w',z⟩:=I.cell x c hc
   refine wpAny_storeName_cell I.ok.kind hk hc z (fun h' hc' hs=>?_)
   obtain ⟨oc,hoc,hocd⟩:=id z
   refine h { s with heap:=h' } ⟨I.ok,I.os,I.bare,⟨fun b o e n hb hx=>?_,fun b o e n hb hx=>?_,I.base.free,fun b o e hx=>?_,I.base.tups,I.base.frzs,I.base.tbls⟩,⟨m,hn.sameBut hs (Ne.symm (cne x c hc)),fun j y v' e1 e2 e3=>?_⟩,fun y c' e=>?_,I.free,I.freeC,fun p hp=>?_,tracked ⟨oc,hoc,I.freeC x c hc⟩ hs,by simpa using I.len⟩ ⟨c,hs,.inr hc⟩
   · exact (hs.2 b (Nat.ne_of_lt (Nat.lt_of_lt_of_le (Heap.lt_size e) (I.ok.cab x c hfn hc)))).trans (I.base.keep b o e n hb hx)
   · obtain ⟨sl,e1⟩:=I.base.slot b o e n hb hx
     exact ⟨sl,(hs.2 b (Nat.ne_of_lt (Nat.lt_of_lt_of_le (Heap.lt_size e) (I.ok.cab x c hfn hc)))).trans e1⟩
   · obtain ⟨o',e1⟩:=I.base.there b o e hx
     exact ⟨o',(hs.2 b (Nat.ne_of_lt (Nat.lt_of_lt_of_le (Heap.lt_size e) (I.ok.cab x c hfn hc)))).trans e1⟩
   · by_cases hj : j = i
     · subst hj
       rw [hi] at e1; cases e1
       rw [List.getElem?_set_self hiσ] at e2
       cases e2
       exact ⟨u,r,.inr ⟨.inl hk,c,hc,hc'⟩⟩
     · rw [List.getElem?_set_ne (Ne.symm hj)] at e2
       obtain ⟨u',r',q⟩:=hl j y v' e1 e2 e3
       refine ⟨u',r',?_⟩
       rcases q with q | ⟨k,c',e,z'⟩
       · exact .inl q
       · refine .inr ⟨k,c',e,z'.sameBut hs ?_⟩
         rintro rfl
         exact hj (nodup_ix hN e1 (I.ok.inj _ _ _ e hc ▸ hi))
   · by_cases hcc : c' = c
     · subst hcc; exact ⟨_,hc'⟩
     · obtain ⟨w2,z2⟩:=I.cell y c' e
       exact ⟨w2,z2.sameBut hs hcc⟩
   · obtain ⟨e,n,ne,nf,d⟩:=I.pin p hp
     refine ⟨(hs.2 p.1 ?_).trans e,n,ne,nf,d⟩
     intro q
     rw [q,hoc] at e
     have q' : oc = p.2:=Option.some.inj e
     exact d w' (by rw [← q']; exact hocd)
theorem store_ok {M : Model} {A : Around} {E : Value → Shared → Prop} {i : Nat} {x : Str} {v : V} {u : Value} {Q : Unit → Shared → Prop} (I : Inv X pins σ H s) (hN : X.N.Nodup) (hi : X.N[i]? = some x) (hx : Loc X.env.scope x) (r : RelV v u)
 (h : ∀ s',Inv X pins (σ.set i (some v)) H s' → Q () s') (hf : X.fn x = true ∨ X.env.scope.names.lookup x = some .local:=by first | exact .inl rfl | exact .inr rfl | assumption) : wpAny M A (storeName X.env x u) Q E s :=
 store_ok2 I hN hi hx r (fun s' I' _=>h s' I') hf
theorem Inv.call' {s' : Shared} {ch : List Addr} (I : Inv X pins σ H s) (ho : s'.os = s.os) (u : Un (frs X.stack) ch H H' s.heap s'.heap) (hok : HOk X.prog X.w H' s'.heap) (hg : AllBare s'.gens)
 (hch : ∀ b ∈ ch,(b ∈ X.ex ∨ X.s₀.heap.objs.size ≤ b) ∧ b ≠ X.env.locals ∧ (∀ x c,X.env.cells.lookup x = some c → c ≠ b) ∧ ∀ p ∈ X.pn ++ pins,p.1 ≠ b) : Inv X pins σ H' s':=by
 obtain ⟨h',g',d',t',o'⟩:=s'
 have e : o' = s.os:=ho
 subst e
 exact I.call (g':=g') (t':=t') (d':=d') u hok hg hch
end
abbrev XK:=Value → Option Addr → Hp → Prop
abbrev St:=List (Option V)
abbrev VK:=V → Hp → Prop
abbrev TE:=St → Hp → VK → Prop
abbrev TT:=St → Hp → (Bool → Hp → Prop) → Prop
abbrev TA:=St → Hp → (List V → Hp → Prop) → Prop
structure Ends where
 nx : St → Hp → Prop
 rt : VK
 bk : St → Hp → Prop:=fun _ _=>False
 ct : St → Hp → Prop:=fun _ _=>False
abbrev TS:=Ends → St → Hp → Prop
def EP (X : Cx) (pins : List (Addr × Obj)) (σ : St) (Q : VK) (u : Value) (s' : Shared) : Prop:=∃ v H',Inv X pins σ H' s' ∧ RelV v u ∧ Q v H'
def TP (X : Cx) (pins : List (Addr × Obj)) (σ : St) (Q : Bool → Hp → Prop) (b : Bool) (s' : Shared) : Prop:=∃ H',Inv X pins σ H' s' ∧ Q b H'
def AP (X : Cx) (pins : List (Addr × Obj)) (σ : St) (Q : List V → Hp → Prop) (us : List Value) (s' : Shared) : Prop:=∃ vs H',Inv X pins σ H' s' ∧ Vals vs us ∧ Q vs H'
def SP (X : Cx) (pins : List (Addr × Obj)) (D : Ends) (f : Flow) (s' : Shared) : Prop :=
 match f with
 | .next=>∃ σ' H',Inv X pins σ' H' s' ∧ D.nx σ' H'
 | .brk=>∃ σ' H',Inv X pins σ' H' s' ∧ D.bk σ' H'
 | .cont=>∃ σ' H',Inv X pins σ' H' s' ∧ D.ct σ' H'
 | .ret u=>∃ v σ' H',Inv X pins σ' H' s' ∧ RelV v u ∧ D.rt v H'
def PE (X : Cx) (e : Expr) (t : TE) : Prop :=
 ∀ (pins : List (Addr × Obj)) (s : Shared) (σ : St) (H : Hp) (Q : VK),Inv X pins σ H s → t σ H Q → wpAny (model X.prog X.w) X.A (eval e X.env) (EP X pins σ Q) X.xe s
def PT (X : Cx) (e : Expr) (t : TT) : Prop :=
 ∀ (pins : List (Addr × Obj)) (s : Shared) (σ : St) (H : Hp) (Q : Bool → Hp → Prop),Inv X pins σ H s → t σ H Q → wpAny (model X.prog X.w) X.A (isTrue e X.env (eval e X.env)) (TP X pins σ Q) X.xe s
def PW (X : Cx) (e : Expr) (t : TT) : Prop :=
 ∀ (whole : Sem Value) (pins : List (Addr × Obj)) (s : Shared) (σ : St) (H : Hp) (Q : Bool → Hp → Prop),Inv X pins σ H s → t σ H Q → wpAny (model X.prog X.w) X.A (isTrue e X.env whole) (TP X pins σ Q) X.xe s
theorem PW.pt {X : Cx} {e : Expr} {t : TT} (h : PW X e t) : PT X e t:=h _
def PA (X : Cx) (es : List Expr) (t : TA) : Prop :=
 ∀ (pos : Pos) (pins : List (Addr × Obj)) (s : Shared) (σ : St) (H : Hp) (Q : List V → Hp → Prop),Inv X pins σ H s → t σ H Q → wpAny (model X.prog X.w) X.A (spliced (backTo pos (starEach es X.env))) (AP X pins σ Q) X.xe s
def PS (X : Cx) (st : Stmt) (t : TS) : Prop :=
 ∀ (pins : List (Addr × Obj)) (s : Shared) (σ : St) (H : Hp) (D : Ends),Inv X pins σ H s → t D σ H → wpAny (model X.prog X.w) X.A (exec st X.env) (SP X pins D) X.xe s
def PSs (X : Cx) (st : List Stmt) (t : TS) : Prop :=
 ∀ (pins : List (Addr × Obj)) (s : Shared) (σ : St) (H : Hp) (D : Ends),Inv X pins σ H s → t D σ H → wpAny (model X.prog X.w) X.A (execs st X.env) (SP X pins D) X.xe s
theorem thn {α : Type} {t : Sem α} {Q Q' : α → Shared → Prop} {M : Model} {A : Around} {E : Value → Shared → Prop} {s : Shared} (h : wpAny M A t Q E s) (hQ : ∀ a s,Q a s → Q' a s) : wpAny M A t Q' E s:=wpAny_mono h hQ fun _ _ x=>x
end L2
namespace L2
open PySem PySem.Spec PyProof.Rows
section
variable {X : Cx}
theorem bin {a b : Expr} {ta tb : TE} (ha : PE X a ta) (hb : PE X b tb) {pins : List (Addr × Obj)} {s : Shared} {σ : St} {H : Hp} {R : V → V → Hp → Prop} (I : Inv X pins σ H s) (h : ta σ H fun x H1=>tb σ H1 fun y H2=>R x y H2)
 {α : Type} {Q : α → Shared → Prop} {f : Value → Value → Sem α}
 (hf : ∀ v u s2 x y H2,Inv X pins σ H2 s2 → RelV x v → RelV y u → R x y H2 → wpAny (model X.prog X.w) X.A (f v u) Q X.xe s2) :
 wpAny (model X.prog X.w) X.A (eval a X.env) (fun v s₁=>wpAny (model X.prog X.w) X.A (eval b X.env) (fun u s₂=>wpAny (model X.prog X.w) X.A (f v u) Q X.xe s₂) X.xe s₁) X.xe s:=by
 refine thn (ha pins s σ H _ I h) fun v s1 ⟨x,H1,I1,r1,q1⟩=>?_
 refine thn (hb pins s1 σ H1 _ I1 q1) fun u s2 ⟨y,H2,I2,r2,q2⟩=>?_
 exact hf v u s2 x y H2 I2 r1 r2 q2
def tVar (i : Nat) : TE:=fun σ H Q=>∃ v,σ[i]? = some (some v) ∧ Q v H
def tC (v : V) : TE:=fun _ H Q=>Q v H
theorem pe_var {i : Nat} {x : Str} {pos : Pos} (hN : X.N[i]? = some x) (hv : Vis X.env.scope x) (hd : (x == ("__debug__" : Str)) = false:=by decide) (hcd : (x == ("__classdict__" : Str)) = false:=by decide) : PE X (.Name x pos) (tVar i):=by
 intro pins s σ H Q I h
 obtain ⟨v,e,h⟩:=h
 obtain ⟨m,hn,hl⟩:=I.loc
 obtain ⟨u,r,l⟩:=hl i x v hN e hv
 have fin : EP X pins σ Q u s:=⟨v,H,I,r,h⟩
 rcases l with ⟨hk,hm⟩ | ⟨hk,c,hc,hcell⟩
 · exact wpAny_Name (wpAny_loadName_local I.ok.kind hk hn hm fin) hd
 · rcases hk with hk | hk
   · exact wpAny_Name (wpAny_loadName_cell I.ok.kind hk hc hcell fin) hd
   · exact wpAny_Name (wpAny_loadName_free I.ok.kind hk hc hcell fin hcd) hd
theorem pe_int {i j pos} : PE X (.Constant (.int i) j pos) (tC (.int i)):=fun _ _ _ H _ I h=>wpAny_Constant_int ⟨.int i,H,I.tok _,⟨_,rfl⟩,h⟩
theorem pe_bl {b j pos} : PE X (.Constant (.bool b) j pos) (tC (.bl b)):=fun _ _ _ H _ I h=>Constant_bool ⟨.bl b,H,I,rfl,h⟩
theorem pe_non {j pos} : PE X (.Constant .none j pos) (tC .non):=fun _ _ _ H _ I h=>Constant_none ⟨.non,H,I,rfl,h⟩
theorem pe_str {x j pos} : PE X (.Constant (.str x) j pos) (tC (.str x)):=fun _ _ _ H _ I h=>Calls.Constant_str ⟨.str x,H,I.tok _,⟨_,rfl⟩,h⟩
def Gl (X : Cx) (x : Str) : Prop:=X.env.kindOf x = some .globalImplicit
theorem ld_glob {E : Value → Shared → Prop} {pins : List (Addr × Obj)} {s : Shared} {σ : St} {H : Hp} {x : Str} {u : Value} {pos : Pos} {Q : Value → Shared → Prop} (I : Inv X pins σ H s) (hg : Gl X x) (hm : X.mg x = some u) (h : Q u s)
 (hd : (x == ("__debug__" : Str)) = false:=by decide) : wpAny (model X.prog X.w) X.A (eval (.Name x pos) X.env) Q E s :=
 Calls.Name_function_global I.ok.kind hg (Calls.loadGlobal_global (by rw [I.ok.glob]; exact I.mod.glob.keeps I.bk) hm h) hd
theorem ld_blt {E : Value → Shared → Prop} {pins : List (Addr × Obj)} {s : Shared} {σ : St} {H : Hp} {x : Str} {u : Value} {pos : Pos} {Q : Value → Shared → Prop} (I : Inv X pins σ H s) (hg : Gl X x) (hm : X.mg x = none) (hv : bootBuiltins x = some u) (h : Q u s)
 (hn : x ≠ "__name__":=by decide) (hd : (x == ("__debug__" : Str)) = false:=by decide) : wpAny (model X.prog X.w) X.A (eval (.Name x pos) X.env) Q E s:=by
 obtain ⟨mb,h1,h2⟩:=I.mod.blt
 exact Calls.Name_function_global I.ok.kind hg (Calls.loadGlobal_builtin (by rw [I.ok.glob]; exact I.mod.glob.keeps I.bk) hm (by rw [I.ok.blt]; exact h1.keeps I.bk) ((h2 x hn).trans hv) h) hd
theorem pe_bltn {x : Str} {v : V} {u : Value} {pos : Pos} (hg : Gl X x) (hm : X.mg x = none) (hv : bootBuiltins x = some u) (r : RelV v u) (hn : x ≠ "__name__":=by decide) (hd : (x == ("__debug__" : Str)) = false:=by decide) : PE X (.Name x pos) (tC v) :=
 fun _ _ _ H _ I h=>ld_blt I hg hm hv ⟨v,H,I,r,h⟩ hn hd
variable {a b : Expr} {ta tb : TE} {pos : Pos}
def PC (X : Cx) (op : CmpOp) (a b : Expr) (t : TE) : Prop :=
 ∀ (pins : List (Addr × Obj)) (s : Shared) (σ : St) (H : Hp) (Q : VK),Inv X pins σ H s → t σ H Q →
  wpAny (model X.prog X.w) X.A (eval a X.env) (fun v s₁=>wpAny (model X.prog X.w) X.A (eval b X.env) (fun u s₂=>wpAny (model X.prog X.w) X.A (compareOp op v u) (EP X pins σ Q) X.xe s₂) X.xe s₁) X.xe s
theorem nobehind (b : Expr) {op : CmpOp} (h : op ≠ .In) (h2 : op ≠ .NotIn) : behindInMarks op b = false:=by
 have e1 : (op == CmpOp.In) = false:=by cases op <;> first | rfl | exact absurd rfl h
 have e2 : (op == CmpOp.NotIn) = false:=by cases op <;> first | rfl | exact absurd rfl h2
 cases b <;> simp [behindInMarks,e1,e2]
def tIsN (ta : TE) : TE:=fun σ H Q=>ta σ H fun x H1=>Q (.bl (decide (x = .non))) H1
def tNotN (ta : TE) : TE:=fun σ H Q=>ta σ H fun x H1=>Q (.bl (!decide (x = .non))) H1
theorem RelV.none_iff {x : V} {v : Value} (r : RelV x v) : (v == Value.none) = decide (x = .non):=by
 cases x with
 | non=>cases r; rfl
 | bl _=>cases r; rfl
 | int _=>obtain ⟨t,rfl⟩:=r; rfl
 | str _=>obtain ⟨t,rfl⟩:=r; rfl
 | byt _=>obtain ⟨t,rfl⟩:=r; rfl
 | flt _=>obtain ⟨t,rfl⟩:=r; rfl
 | ref _=>cases r; rfl
 | ty _=>cases r; rfl
theorem pc_isN {j pos'} (ha : PE X a ta) : PC X .Is a (.Constant .none j pos') (tIsN ta):=by
 intro pins s σ H Q I h
 refine thn (ha pins s σ H _ I h) fun v s1 ⟨x,H1,I1,r1,q1⟩=>?_
 exact Constant_none (is_none_gen ⟨.bl _,H1,I1,by rw [r1.none_iff]; rfl,q1⟩)
theorem pc_notN {j pos'} (ha : PE X a ta) : PC X .IsNot a (.Constant .none j pos') (tNotN ta):=by
 intro pins s σ H Q I h
 refine thn (ha pins s σ H _ I h) fun v s1 ⟨x,H1,I1,r1,q1⟩=>?_
 exact Constant_none (isnot_none_gen ⟨.bl _,H1,I1,by rw [r1.none_iff]; rfl,q1⟩)
def tB (t : TE) : TT:=fun σ H Q=>t σ H fun x H1=>∃ c,x = .bl c ∧ Q c H1
theorem pe_cmp {op : CmpOp} {t : TE} (h : PC X op a b t) (h1 : behindInMarks op b = false:=by first | exact nobehind _ (by decide) (by decide) | rfl) : PE X (.Compare a [op] [b] pos) t:=fun pins s σ H Q I hw=>wpAny_Compare1 (h pins s σ H Q I hw) h1
theorem pt_cmp {op : CmpOp} {t : TE} (h : PC X op a b t) (h1 : behindInMarks op b = false:=by first | exact nobehind _ (by decide) (by decide) | rfl) : PT X (.Compare a [op] [b] pos) (tB t):=by
 intro pins s σ H Q I hw
 refine wpAny_isTrue_Compare1 (thn (h pins s σ H _ I hw) fun v s1 h1=>thn h1 fun u s2 h2=>thn h2 fun c s3 ⟨x,H1,I1,r1,q1⟩=>?_) h1
 obtain ⟨d,rfl,q⟩:=q1
 cases r1
 exact wpAny_truthy_bool ⟨H1,I1,q⟩
theorem pt_val {e : Expr} {t : TE} (h : PE X e t) (he : ∀ whole,isTrue e X.env whole = (do let v ← whole; standAt e.pos; holding [v] (truthy v)):=by intro _; rfl) : PT X e (tB t):=by
 intro pins s σ H Q I hw
 refine isTrue_plain (thn (h pins s σ H _ I hw) fun v s1 ⟨x,H1,I1,r1,q1⟩=>?_) (he _)
 obtain ⟨d,rfl,q⟩:=q1
 cases r1
 exact wpAny_truthy_bool ⟨H1,I1,q⟩
variable {tA tB' : TT} {rest : List Expr}
def tAnd (t u : TT) : TT:=fun σ H Q=>t σ H fun c H1=>if c = true then u σ H1 Q else Q false H1
def tOr (t u : TT) : TT:=fun σ H Q=>t σ H fun c H1=>if c = true then Q true H1 else u σ H1 Q
def tNot (t : TT) : TT:=fun σ H Q=>t σ H fun c H1=>Q (!c) H1
theorem pw_and1 (ha : PT X a tA) : PW X (.BoolOp .And [a] pos) tA:=by
 intro wh pins s σ H Q I h
 refine isTrue_and (thn (ha pins s σ H Q I h) fun c s1 e=>?_)
 cases c with
 | true=>exact isTrue_and_nil e
 | false=>exact e
theorem pw_or1 (ha : PT X a tA) : PW X (.BoolOp .Or [a] pos) tA:=by
 intro wh pins s σ H Q I h
 refine isTrue_or (thn (ha pins s σ H Q I h) fun c s1 e=>?_)
 cases c with
 | false=>exact isTrue_or_nil e
 | true=>exact e
theorem pw_and (ha : PT X a tA) (hb : PW X (.BoolOp .And (b :: rest) pos) tB') : PW X (.BoolOp .And (a :: b :: rest) pos) (tAnd tA tB'):=by
 intro wh pins s σ H Q I h
 refine isTrue_and (thn (ha pins s σ H _ I h) fun c s1 ⟨H1,I1,q1⟩=>?_)
 cases c with
 | true=>exact hb wh pins s1 σ H1 Q I1 q1
 | false=>exact ⟨H1,I1,q1⟩
theorem pw_or (ha : PT X a tA) (hb : PW X (.BoolOp .Or (b :: rest) pos) tB') : PW X (.BoolOp .Or (a :: b :: rest) pos) (tOr tA tB'):=by
 intro wh pins s σ H Q I h
 refine isTrue_or (thn (ha pins s σ H _ I h) fun c s1 ⟨H1,I1,q1⟩=>?_)
 cases c with
 | true=>exact ⟨H1,I1,q1⟩
 | false=>exact hb wh pins s1 σ H1 Q I1 q1
theorem pt_not (ha : PT X a tA) : PT X (.UnaryOp .Not a pos) (tNot tA):=by
 intro pins s σ H Q I h
 exact isTrue_not (ha pins s σ H (fun c H1=>Q (!c) H1) I h)
def tAndV (ta tb : TE) : TE:=fun σ H Q=>ta σ H fun x H1=>∃ c,x = .bl c ∧ if c = true then tb σ H1 Q else Q (.bl false) H1
def tOrV (ta tb : TE) : TE:=fun σ H Q=>ta σ H fun x H1=>∃ c,x = .bl c ∧ if c = true then Q (.bl true) H1 else tb σ H1 Q
theorem pe_one {op} {t : TE} (h : PE X a t) : PE X (.BoolOp op [a] pos) t:=fun pins s σ H Q I hw=>BoolOp_one (h pins s σ H Q I hw)
theorem pe_and (ha : PE X a ta) (hb : PE X (.BoolOp .And (b :: rest) pos) tb) : PE X (.BoolOp .And (a :: b :: rest) pos) (tAndV ta tb):=by
 intro pins s σ H Q I h
 refine BoolOp_and (thn (ha pins s σ H _ I h) fun v s1 ⟨x,H1,I1,r1,q1⟩=>?_)
 obtain ⟨c,rfl,q1⟩:=q1
 cases r1
 refine wpAny_truthy_bool ?_
 cases c with
 | true=>exact hb pins s1 σ H1 Q I1 q1
 | false=>exact ⟨.bl false,H1,I1,rfl,q1⟩
theorem pe_or (ha : PE X a ta) (hb : PE X (.BoolOp .Or (b :: rest) pos) tb) : PE X (.BoolOp .Or (a :: b :: rest) pos) (tOrV ta tb):=by
 intro pins s σ H Q I h
 refine BoolOp_or (thn (ha pins s σ H _ I h) fun v s1 ⟨x,H1,I1,r1,q1⟩=>?_)
 obtain ⟨c,rfl,q1⟩:=q1
 cases r1
 refine wpAny_truthy_bool ?_
 cases c with
 | false=>exact hb pins s1 σ H1 Q I1 q1
 | true=>exact ⟨.bl true,H1,I1,rfl,q1⟩
end
end L2
namespace L2
open PySem PySem.Spec PyProof.Rows
def SqL (K : PySem.W.Frag) (H : Hp) (a : Addr) (xs : List V) : Prop :=
 Rd H a (.lst xs) ∨
  ∃ (o : Obj) (its : Array Value) (n : Nat),K.lookup a = some o ∧ o.cls = .type "list" ∧ o.dict = none ∧ o.data = .seq its n ∧ its.size ≤ sizeLine ∧ Vals xs its.toList
def SqT (K : PySem.W.Frag) (H : Hp) (a : Addr) (xs : List V) : Prop :=
 Rd H a (.tup xs) ∨
  ∃ (o : Obj) (its : Array Value) (n : Nat),K.lookup a = some o ∧ o.cls = .type "tuple" ∧ o.data = .seq its n ∧ its.size ≤ sizeLine ∧ Vals xs its.toList
def absV : Value → Option V
 | .none=>some .non
 | .bool b=>some (.bl b)
 | .int i _=>some (.int i)
 | .str x _=>some (.str x)
 | .bytes b _=>some (.byt b)
 | .float b _=>some (.flt b)
 | .ref a=>some (.ref a)
 | .type n=>some (.ty n)
 | _=>none
theorem RelV.abs {x : V} {u : Value} (r : RelV x u) : absV u = some x:=by
 cases x with
 | non=>cases r; rfl
 | bl _=>cases r; rfl
 | int _=>obtain ⟨t,rfl⟩:=r; rfl
 | str _=>obtain ⟨t,rfl⟩:=r; rfl
 | byt _=>obtain ⟨t,rfl⟩:=r; rfl
 | flt _=>obtain ⟨t,rfl⟩:=r; rfl
 | ref _=>cases r; rfl
 | ty _=>cases r; rfl
theorem RelV.inj {x y : V} {u : Value} (r : RelV x u) (q : RelV y u) : x = y:=Option.some.inj (r.abs.symm.trans q.abs)
theorem Vals.inj : ∀ {xs ys : List V} {us : List Value},Vals xs us → Vals ys us → xs = ys
 | _,_,_,.nil,.nil=>rfl
 | _,_,_,.cons r t,.cons r' t'=>by rw [r.inj r',Vals.inj t t']
section
variable {X : Cx} {pins : List (Addr × Obj)} {σ : St} {H : Hp} {s : Shared} {a : Addr} {xs ys : List V}
theorem SqL.of {K : PySem.W.Frag} (h : H a = some (.lst xs)) : SqL K H a xs:=.inl (.inl h)
theorem SqT.of {K : PySem.W.Frag} (h : H a = some (.tup xs)) : SqT K H a xs:=.inl (.inl h)
theorem Inv.list (I : Inv X pins σ H s) (h : SqL X.K H a xs) : ∃ its : List Value,Vals xs its ∧ PlainL s.heap a its.toArray ∧ xs.length ≤ sizeLine:=by
 rcases h with h | ⟨o,its,n,hk,hc,hd,hs,hz,r⟩
 · obtain ⟨z,its,n,r,e⟩:=h.ok I.hok
   exact ⟨its,r,⟨_,n,e,rfl,rfl,rfl⟩,z⟩
 · refine ⟨its.toList,r,⟨o,n,I.kIn a o hk,hc,hd,by simpa using hs⟩,?_⟩
   have e:=r.length
   simp only [Array.length_toList] at e
   omega
theorem Inv.tuple (I : Inv X pins σ H s) (h : SqT X.K H a xs) : ∃ its : List Value,Vals xs its ∧ IsTup s.heap a its.toArray ∧ xs.length ≤ sizeLine:=by
 rcases h with h | ⟨o,its,n,hk,hc,hs,hz,r⟩
 · obtain ⟨z,its,r,p⟩:=h.ok I.hok
   exact ⟨its,r,p,z⟩
 · refine ⟨its.toList,r,⟨o,I.kIn a o hk,hc,n,by simpa using hs⟩,?_⟩
   have e:=r.length
   simp only [Array.length_toList] at e
   omega
theorem Inv.list_inj (I : Inv X pins σ H s) (h : SqL X.K H a xs) (h' : SqL X.K H a ys) : xs = ys:=by
 obtain ⟨its,r,⟨o,n,e,_,_,d⟩,_⟩:=I.list h
 obtain ⟨its',r',⟨o',n',e',_,_,d'⟩,_⟩:=I.list h'
 rw [e] at e'; cases e'
 rw [d] at d'
 injection d' with d1 _
 have : its = its':=by simpa using congrArg Array.toList d1
 subst this
 exact r.inj r'
theorem Inv.tuple_inj (I : Inv X pins σ H s) (h : SqT X.K H a xs) (h' : SqT X.K H a ys) : xs = ys:=by
 obtain ⟨its,r,⟨o,e,_,n,d⟩,_⟩:=I.tuple h
 obtain ⟨its',r',⟨o',e',_,n',d'⟩,_⟩:=I.tuple h'
 rw [e] at e'; cases e'
 rw [d] at d'
 injection d' with d1 _
 have : its = its':=by simpa using congrArg Array.toList d1
 subst this
 exact r.inj r'
end
abbrev Cx.wish (X : Cx) (E : Value → Shared → Prop) : Cx:={ X with xe:=E }
abbrev Cx.nox (X : Cx) : Cx:=X.wish fun _ _=>False
theorem Cx.Ok.wish {X : Cx} (ok : X.Ok) (E : Value → Shared → Prop) : (X.wish E).Ok :=
 ⟨ok.mod,ok.kind,ok.glob,ok.blt,ok.above,ok.inj,ok.has,ok.cab,ok.hd,ok.frames,ok.stk,ok.exf,ok.bs,ok.bsz,ok.noex,ok.exfs,ok.funs,ok.frf⟩
theorem Cx.Ok.unwish {X : Cx} {E : Value → Shared → Prop} (ok : (X.wish E).Ok) : X.Ok :=
 ⟨ok.mod,ok.kind,ok.glob,ok.blt,ok.above,ok.inj,ok.has,ok.cab,ok.hd,ok.frames,ok.stk,ok.exf,ok.bs,ok.bsz,ok.noex,ok.exfs,ok.funs,ok.frf⟩
section
variable {X : Cx} {pins : List (Addr × Obj)} {σ : St} {H : Hp} {s : Shared} {E : Value → Shared → Prop}
theorem Inv.wish (I : Inv X pins σ H s) (E : Value → Shared → Prop) : Inv (X.wish E) pins σ H s:=⟨I.ok.wish E,I.os,I.bare,I.base,I.loc,I.cell,I.free,I.freeC,I.pin,I.hok,I.len⟩
theorem Inv.unwish (I : Inv (X.wish E) pins σ H s) : Inv X pins σ H s:=⟨I.ok.unwish,I.os,I.bare,I.base,I.loc,I.cell,I.free,I.freeC,I.pin,I.hok,I.len⟩
theorem SP.unwish {D : Ends} {f : Flow} {s' : Shared} (h : SP (X.wish E) pins D f s') : SP X pins D f s':=by
 cases f with
 | next=>obtain ⟨σ',H',I,q⟩:=h; exact ⟨σ',H',I.unwish,q⟩
 | brk=>obtain ⟨σ',H',I,q⟩:=h; exact ⟨σ',H',I.unwish,q⟩
 | cont=>obtain ⟨σ',H',I,q⟩:=h; exact ⟨σ',H',I.unwish,q⟩
 | ret u=>obtain ⟨v,σ',H',I,r,q⟩:=h; exact ⟨v,σ',H',I.unwish,r,q⟩
theorem PSs.nox {st : List Stmt} {t : TS} (h : PSs X.nox st t) : PSs X st t:=fun pins s σ H D I hw =>
 wpAny_mono (h pins s σ H D (I.wish _) hw) (fun _ _ q=>q.unwish) fun _ _ z=>False.elim z
end
section
variable {X : Cx} {st : Stmt} {rest : List Stmt} {t u : TS} {e : Expr} {te : TE} {pos : Pos}
def tNext : TS:=fun D σ H=>D.nx σ H
def tSeq (t u : TS) : TS:=fun D σ H=>t { D with nx:=u D } σ H
theorem pss_nil : PSs X [] tNext:=fun _ _ σ H _ I h=>wpAny_execs_nil ⟨σ,H,I,h⟩
theorem pss_cons (h1 : PS X st t) (h2 : PSs X rest u) : PSs X (st :: rest) (tSeq t u):=by
 intro pins s σ H D I h
 refine wpAny_execs_cons (thn (h1 pins s σ H { D with nx:=u D } I h) fun f s1 q=>?_)
 cases f with
 | next =>
  obtain ⟨σ',H',I',q⟩:=q
  exact h2 pins s1 σ' H' D I' q
 | ret v=>exact q
 | brk=>exact q
 | cont=>exact q
theorem pss_one (h1 : PS X st t) : PSs X [st] t:=by
 intro pins s σ H D I h
 refine wpAny_execs_cons (thn (h1 pins s σ H D I h) fun f s1 q=>?_)
 cases f with
 | next=>exact wpAny_execs_nil q
 | ret v=>exact q
 | brk=>exact q
 | cont=>exact q
theorem Inv.quiet {pins : List (Addr × Obj)} {σ : St} {H : Hp} {s : Shared} (I : Inv X pins σ H s) : interactive X.env = false:=by simp [interactive,I.ok.kind]
def tDrop (te : TE) : TS:=fun D σ H=>te σ H fun _ H1=>D.nx σ H1
theorem ps_expr (he : PE X e te) (hs : swapsWith e none pos.line X.env = pure false:=by rfl) : PS X (.Expr e pos) (tDrop te):=by
 intro pins s σ H D I h
 exact wpAny_Expr_any (thn (he pins s σ H _ I h) fun v s1 ⟨x,H1,I1,r1,q1⟩=>⟨σ,H1,I1,q1⟩) I.quiet hs
def tRet (te : TE) : TS:=fun D σ H=>te σ H D.rt
theorem ps_ret (he : PE X e te) : PS X (.Return (some e) pos) (tRet te):=by
 intro pins s σ H D I h
 exact wpAny_Return_some (thn (he pins s σ H _ I h) fun v s1 ⟨x,H1,I1,r1,q1⟩=>⟨x,σ,H1,I1,r1,q1⟩)
def tIfS (c : TT) (t u : TS) : TS:=fun D σ H=>c σ H fun b H1=>if b = true then t D σ H1 else u D σ H1
theorem ps_if {c : Expr} {a b : List Stmt} {tc : TT} (hc : PT X c tc) (ha : PSs X a t) (hb : PSs X b u) : PS X (.If c a b pos) (tIfS tc t u):=by
 intro pins s σ H D I h
 refine wpAny_If (thn (hc pins s σ H _ I h) fun d s1 ⟨H1,I1,q1⟩=>?_)
 cases d with
 | true=>exact ha pins s1 σ H1 D I1 q1
 | false=>exact hb pins s1 σ H1 D I1 q1
end
abbrev TG:=V → St → Hp → (St → Hp → Prop) → Prop
abbrev TGs:=List V → St → Hp → (St → Hp → Prop) → Prop
def PG (X : Cx) (target : Expr) (t : TG) : Prop :=
 ∀ (pins : List (Addr × Obj)) (s : Shared) (σ : St) (H : Hp) (v : V) (u : Value) (Q : St → Hp → Prop),Inv X pins σ H s → RelV v u → t v σ H Q →
  wpAny (model X.prog X.w) X.A (assign target X.env u) (fun _ s'=>∃ σ' H',Inv X pins σ' H' s' ∧ Q σ' H') X.xe s
def PGs (X : Cx) (ts : List Expr) (t : TGs) : Prop :=
 ∀ (pins : List (Addr × Obj)) (s : Shared) (σ : St) (H : Hp) (vs : List V) (us : List Value) (Q : St → Hp → Prop),Inv X pins σ H s → Vals vs us → t vs σ H Q →
  wpAny (model X.prog X.w) X.A (assignInOrder ((assignEach ts X.env).map (·.2)) us) (fun _ s'=>∃ σ' H',Inv X pins σ' H' s' ∧ Q σ' H') X.xe s
abbrev TSet:=V → V → V → Hp → (Hp → Prop) → Prop
def PSet (X : Cx) (t : TSet) : Prop :=
 ∀ (pins : List (Addr × Obj)) (s : Shared) (σ : St) (H : Hp) (o i v : V) (ov iv u : Value) (Q : Hp → Prop),Inv X pins σ H s → RelV o ov → RelV i iv → RelV v u → t o i v H Q →
  wpAny (model X.prog X.w) X.A (setItem ov iv u) (fun _ s'=>∃ H',Inv X pins σ H' s' ∧ Q H') X.xe s
section
variable {X : Cx} {pos : Pos}
def gName (i : Nat) : TG:=fun v σ H Q=>Q (σ.set i (some v)) H
theorem pg_name {i : Nat} {x : Str} (hN : X.N.Nodup) (hi : X.N[i]? = some x) (hx : Loc X.env.scope x) (hf : X.fn x = true ∨ X.env.scope.names.lookup x = some .local:=by first | exact .inl rfl | exact .inr rfl | assumption) : PG X (.Name x pos) (gName i):=by
 intro pins s σ H v u Q I r h
 exact wpAny_assign_Name (store_ok I hN hi hx r (fun s' I'=>⟨_,H,I',h⟩) hf)
def gNil : TGs:=fun vs σ H Q=>vs = [] ∧ Q σ H
def gCons (t : TG) (u : TGs) : TGs:=fun vs σ H Q=>∃ v r,vs = v :: r ∧ t v σ H fun σ' H'=>u r σ' H' Q
theorem pgs_nil : PGs X [] gNil:=by
 intro pins s σ H vs us Q I r h
 obtain ⟨e,h⟩:=h
 subst e
 cases r
 exact assignInOrder_nil ⟨σ,H,I,h⟩
theorem pgs_cons {e : Expr} {es : List Expr} {t : TG} {u : TGs} (h1 : PG X e t) (h2 : PGs X es u)
 (hs : (assignEach (e :: es) X.env).map (·.2) = assign e X.env :: (assignEach es X.env).map (·.2):=by rfl) : PGs X (e :: es) (gCons t u):=by
 intro pins s σ H vs us Q I r h
 obtain ⟨v,vr,e1,h⟩:=h
 subst e1
 cases r with
 | cons r rr =>
  rw [hs]
  refine assignInOrder_cons (thn (h1 pins s σ H _ _ _ I r h) fun _ s1 ⟨σ1,H1,I1,q1⟩=>?_)
  exact h2 pins s1 σ1 H1 _ _ Q I1 rr q1
def gTup (K : PySem.W.Frag) (n : Nat) (t : TGs) : TG:=fun v σ H Q=>∃ a xs,v = .ref a ∧ SqT K H a xs ∧ xs.length = n ∧ t xs σ H Q
theorem pg_tup {es : List Expr} {k : Nat} {t : TGs} {n : Nat} (hc : X.calm = true) (h : PGs X es t)
 (hn : (assignEach es X.env).length = n:=by rfl) (hst : (assignEach es X.env).findIdx? (·.1) = none:=by rfl) : PG X (.Tuple es k pos) (gTup X.K n t):=by
 intro pins s σ H v u Q I r hw
 obtain ⟨a,xs,e1,hq,hl,hw⟩:=hw
 subst e1
 cases r
 obtain ⟨its,rv,ht,hz⟩:=I.tuple hq
 refine assign_Tuple_tuple (I.ok.hd hc) ht (by simp [hn,← hl,rv.length]) hst fun h' hx=>?_
 have I1 : Inv X pins σ H { s with heap:=h' }:=I.kept (t':=s.toks) fun b o e=>hx b o (Nat.ne_of_lt (Heap.lt_size e)) e
 exact h pins _ σ H xs _ Q I1 (by simpa using rv) hw
def gSub (to ti : TE) (t : TSet) : TG:=fun v σ H Q=>to σ H fun o H1=>ti σ H1 fun i H2=>t o i v H2 fun H3=>Q σ H3
theorem pg_sub {o i : Expr} {to ti : TE} {t : TSet} (ho : PE X o to) (hi : PE X i ti) (hs : PSet X t)
 (ha : ∀ v,assign (.Subscript o i pos) X.env v = (do
  let ov ← holding [v] (eval o X.env)
  let iv ← holding [v,ov] (eval i X.env)
  standAt pos
  holding [v,ov,iv] (setItem ov iv v)
  release [v,ov,iv] []):=by intro _; rfl) : PG X (.Subscript o i pos) (gSub to ti t):=by
 intro pins s σ H v u Q I r h
 rw [ha]
 refine wpAny_bind (wpAny_holding (thn (ho pins s σ H _ I h) fun ov s1 ⟨x,H1,I1,r1,q1⟩=>?_))
 refine wpAny_bind (wpAny_holding (thn (hi pins s1 σ H1 _ I1 q1) fun iv s2 ⟨y,H2,I2,r2,q2⟩=>?_))
 refine wpAny_bind (wpAny_standAt (wpAny_bind (wpAny_holding (thn (hs pins s2 σ H2 x y v ov iv u _ I2 r1 r2 r q2) fun _ s3 ⟨H3,I3,q3⟩=>?_))))
 exact wpAny_release ⟨σ,H3,I3,q3⟩
def tAsg (te : TE) (g : TG) : TS:=fun D σ H=>te σ H fun x H1=>g x σ H1 D.nx
theorem ps_asg {tg e : Expr} {te : TE} {g : TG} (he : PE X e te) (hg : PG X tg g) (hs : swapsWithSole [tg] e pos.line X.env = pure false:=by rfl) (hw : swappedStores [tg] e X.env = pure none:=by rfl)
 (h1 : (assignEach [tg] X.env).map (·.2) = [assign tg X.env]:=by rfl) : PS X (.Assign [tg] e pos) (tAsg te g):=by
 intro pins s σ H D I h
 refine wpAny_Assign_stores (thn (he pins s σ H _ I h) fun v s1 ⟨x,H1,I1,r1,q1⟩=>?_) hs hw
 rw [h1]
 exact thn (hg pins s1 σ H1 x v _ I1 r1 q1) fun _ s2 q=>q
theorem ps_set {i : Nat} {x : Str} {e : Expr} {te : TE} {pos' : Pos} (hN : X.N.Nodup) (hi : X.N[i]? = some x) (hx : Loc X.env.scope x) (he : PE X e te) (hs : swapsWith e (some (.Name x pos')) pos.line X.env = pure false:=by rfl) (hf : X.fn x = true ∨ X.env.scope.names.lookup x = some .local:=by first | exact .inl rfl | exact .inr rfl | assumption) :
 PS X (.Assign [.Name x pos'] e pos) (tAsg te (gName i)):=by
 intro pins s σ H D I h
 refine wpAny_Assign_Name (thn (he pins s σ H _ I h) fun v s1 ⟨y,H1,I1,r1,q1⟩=>?_) hs
 exact store_ok I1 hN hi hx r1 (fun s2 I2=>⟨_,H1,I2,q1⟩) hf
end
section
variable {X : Cx} {pos : Pos}
def tWhile (c : TT) (tb : TS) : TS:=fun D σ H=>∃ W : Nat → St → Hp → Prop,(∃ m,W m σ H) ∧ ∀ m σ H,W m σ H →
 c σ H fun b H1=>if b = true then ∃ N : St → Hp → Prop,(∀ σ' H',N σ' H' → ∃ m',m' < m ∧ W m' σ' H') ∧ tb { D with nx:=N,ct:=N,bk:=D.nx } σ H1 else D.nx σ H1
theorem ps_while {c : Expr} {body : List Stmt} {tc : TT} {tb : TS} (hp : PassesOwn (model X.prog X.w) X.A X.env X.xe) (hc : PT X c tc) (hb : PSs X body tb) : PS X (.While c body [] pos) (tWhile tc tb):=by
 intro pins s σ H D I h
 obtain ⟨W,⟨m0,w0⟩,turn⟩:=h
 refine wpAny_While (codeAny_whileLoop (fun n s'=>∃ σ' H',Inv X pins σ' H' s' ∧ W n σ' H') ?_ m0 ⟨σ,H,I,w0⟩)
 rintro n s1 ⟨σ1,H1,I1,w1⟩
 refine wpAny_passesOwn hp (thn (hc pins s1 σ1 H1 _ I1 (turn n σ1 H1 w1)) fun b s2 ⟨H2,I2,q2⟩=>?_)
 cases b with
 | true =>
  obtain ⟨N,hN,q2⟩:=q2
  rw [if_pos rfl]
  refine wpAny_passesOwn hp (thn (hb pins s2 σ1 H2 _ I2 q2) fun f s3 q3=>?_)
  cases f with
  | next =>
   obtain ⟨σ3,H3,I3,n3⟩:=q3
   obtain ⟨m',hm,w3⟩:=hN σ3 H3 n3
   exact ⟨m',hm,σ3,H3,I3,w3⟩
  | cont =>
   obtain ⟨σ3,H3,I3,n3⟩:=q3
   obtain ⟨m',hm,w3⟩:=hN σ3 H3 n3
   exact ⟨m',hm,σ3,H3,I3,w3⟩
  | brk=>exact q3
  | ret v=>exact q3
 | false =>
  rw [if_neg Bool.false_ne_true]
  exact wpAny_execs_nil ⟨σ1,H2,I2,q2⟩
end
structure It where
 go : Nat → Hp → Prop
 yld : Nat → Hp → V → Hp → Prop
 stop : Nat → Hp → Prop
def FpOk (X : Cx) (pins : List (Addr × Obj)) (H : Hp) (b : Addr) : Prop :=
 H b = none ∧ b ≠ X.env.locals ∧ b ∉ X.fs ∧ (b ∈ X.ex ∨ X.s₀.heap.objs.size ≤ b) ∧ (∀ x c,X.env.cells.lookup x = some c → c ≠ b) ∧ ∀ p ∈ X.pn ++ pins,p.1 ≠ b
theorem Inv.fpOk {X : Cx} {pins : List (Addr × Obj)} {σ : St} {H H' : Hp} {s : Shared} {b : Addr} (I : Inv X pins σ H s) (hb : s.heap.objs.size ≤ b) (hn : H' b = none) : FpOk X pins H' b:=by
 refine ⟨hn,Nat.ne_of_gt (Nat.lt_of_lt_of_le I.lt hb),I.nofs hb,.inr (Nat.le_trans I.sz hb),fun x c e z=>?_,fun p hp z=>?_⟩
 · obtain ⟨v,q⟩:=I.cell x c e
   exact absurd (Nat.lt_of_lt_of_le q.lt (by rw [z]; exact hb)) (Nat.lt_irrefl _)
 · exact absurd (Nat.lt_of_lt_of_le (Heap.lt_size (I.pin p hp).1) (by rw [z]; exact hb)) (Nat.lt_irrefl _)
structure Turn (P : Program) (w : World) (K : PySem.W.Frag) (tg : Expr) (J : It) (fp : List Addr) (it : Addr) (tn : Nat → Heap → Prop) : Prop where
 mem : it ∈ fp
 obj : ∀ i h,tn i h → ∀ b ∈ fp,∃ o,h.get? b = some o ∧ ∀ v,o.data ≠ .cell v
 keep : ∀ i h h',tn i h → (∀ b ∈ fp,∀ o,h.get? b = some o → h'.get? b = some o) → tn i h'
 item : ∀ (X : Cx),X.prog = P → X.w = w → X.K = K → X.calm = true → ∀ (i : Nat) (pins : List (Addr × Obj)) (s : Shared) (σ : St) (H : Hp) (E : Value → Shared → Prop),Inv X pins σ H s → (∀ b ∈ fp,FpOk X pins H b) → tn i s.heap → J.go i H →
  wpAny (model P w) X.A (pyNext (.ref it)) (fun r s1=>∃ u,r = some u ∧
   wpAny (model P w) X.A (letOwnedTupleGo tg (.ref it) u) (fun _ s2=>∃ x H',Inv X pins σ H' s2 ∧ RelV x u ∧ J.yld i H x H' ∧ tn (i + 1) s2.heap ∧ ∀ b ∈ fp,H' b = none) E s1) E s
 done : ∀ (X : Cx),X.prog = P → X.w = w → X.K = K → X.calm = true → ∀ (i : Nat) (pins : List (Addr × Obj)) (s : Shared) (σ : St) (H : Hp) (E : Value → Shared → Prop),Inv X pins σ H s → (∀ b ∈ fp,FpOk X pins H b) → tn i s.heap → J.stop i H →
  wpAny (model P w) X.A (pyNext (.ref it)) (fun r s1=>r = none ∧ Inv X pins σ H s1) E s
 self : ∀ (A : Around) (i : Nat) (s : Shared) (Q : Value → Shared → Prop) (E : Value → Shared → Prop),tn i s.heap → Q (.ref it) s → wpAny (model P w) A (pyIter (.ref it)) Q E s
abbrev TI:=St → Hp → (It → Hp → Prop) → Prop
def PIE (X : Cx) (pins : List (Addr × Obj)) (σ : St) (tg : Expr) (R : It → Hp → Prop) (itv : Value) (s2 : Shared) : Prop :=
 ∃ (it : Addr) (fp : List Addr) (tn : Nat → Heap → Prop) (J : It) (H' : Hp),itv = .ref it ∧ Inv X pins σ H' s2 ∧ Turn X.prog X.w X.K tg J fp it tn ∧ tn 0 s2.heap ∧ (∀ b ∈ fp,FpOk X pins H' b) ∧ R J H'
def PI (X : Cx) (tg iter : Expr) (wi : TI) : Prop :=
 ∀ (pins : List (Addr × Obj)) (s : Shared) (σ : St) (H : Hp) (R : It → Hp → Prop),Inv X pins σ H s → wi σ H R →
  wpAny (model X.prog X.w) X.A (eval iter X.env) (fun v s1=>wpAny (model X.prog X.w) X.A (pyIter v) (PIE X pins σ tg R) X.xe s1) X.xe s
theorem go_of {M : Model} {A : Around} {E : Value → Shared → Prop} {s : Shared} {tg : Expr} {it : Addr} {u : Value} {o : Obj} {n : String} {vs : Array Value} {Q : Unit → Shared → Prop} (ho : s.heap.get? it = some o) (hc : o.cls = .type n) (hd : o.data = .fields vs)
 (hn : ["enumerate", "zip", "dict_itemiterator", "dict_reverseitemiterator", "odict_iterator", "itertools.zip_longest", "itertools.pairwise"].contains n = false) (hQ : Q () s) : wpAny M A (letOwnedTupleGo tg (.ref it) u) Q E s:=by
 unfold letOwnedTupleGo
 cases tg <;> first
  | exact wpAny_pure hQ
  | (cases u <;> first
      | exact wpAny_pure hQ
      | (refine wpAny_bind (wpAny_load ho ?_)
         rw [hc,hd]
         show wpAny M A (if (["enumerate", "zip", "dict_itemiterator", "dict_reverseitemiterator", "odict_iterator", "itertools.zip_longest", "itertools.pairwise"].contains n && vs[0]? == some (rawInt _)) = true then _ else _) Q E s
         rw [if_neg (by intro h; rw [hn,Bool.false_and] at h; cases h)]
         exact wpAny_pure hQ))
def Itl (K : PySem.W.Frag) (a : Addr) : It :=
 ⟨fun i H=>∃ xs x,SqL K H a xs ∧ xs[i]? = some x,fun i H x H'=>H' = H ∧ ∀ xs,SqL K H a xs → xs[i]? = some x,fun i H=>∃ xs,SqL K H a xs ∧ xs.length ≤ i⟩
def Itt (K : PySem.W.Frag) (a : Addr) : It :=
 ⟨fun i H=>∃ xs x,SqT K H a xs ∧ xs[i]? = some x,fun i H x H'=>H' = H ∧ ∀ xs,SqT K H a xs → xs[i]? = some x,fun i H=>∃ xs,SqT K H a xs ∧ xs.length ≤ i⟩
def Itr (lo : Int) (n : Nat) : It:=⟨fun i _=>i < n,fun i H x H'=>H' = H ∧ x = .int (lo + i),fun i _=>n ≤ i⟩
theorem turn_list {P : Program} {w : World} {K : PySem.W.Frag} {tg : Expr} (a it : Addr) : Turn P w K tg (Itl K a) [it] it (fun i h=>h.IsListIter it a i) where
 mem:=by simp
 obj:=fun i h st b hb=>by
  have e : b = it:=by simpa using hb
  subst e
  obtain ⟨o,e,c,d⟩:=st
  exact ⟨o,e,fun v z=>by rw [d] at z; cases z⟩
 keep:=fun i h h' st k=>st.at fun o e=>k it (by simp) o e
 item:=by
  intro X hP hw hK hc i pins s σ H E I hf st hg
  subst hP hw hK
  obtain ⟨xs,x,hq,hx⟩:=hg
  obtain ⟨its,rv,p,hz⟩:=I.list hq
  obtain ⟨u,hu,ru⟩:=rv.get hx
  obtain ⟨f0,f1,f2,f3,f4,f5⟩:=hf it (by simp)
  refine wpAny_pyNext_list_item st p.isList (x:=u) (by simpa using hu) fun h' st' sb=>?_
  have I1 : Inv X pins σ H { s with heap:=h' }:=I.turned (t':=s.toks) (fun b o hb e=>(sb.2 b hb).trans e) f0 f1 f3 f4 f5
  obtain ⟨o,e,c,d⟩:=id st'
  exact ⟨u,rfl,go_of (s:={ s with heap:=h' }) e c d (by decide) ⟨x,H,I1,ru,⟨rfl,fun ys hy=>by rw [I.list_inj hy hq]; exact hx⟩,st',fun b hb=>(hf b hb).1⟩⟩
 done:=by
  intro X hP hw hK hc i pins s σ H E I hf st hg
  subst hP hw hK
  obtain ⟨xs,hq,hx⟩:=hg
  obtain ⟨its,rv,p,hz⟩:=I.list hq
  obtain ⟨f0,f1,f2,f3,f4,f5⟩:=hf it (by simp)
  have hl:=rv.length
  exact wpAny_pyNext_list_end (I.ok.hd hc) st p.isList (by simp; omega) fun h' eb=>⟨rfl,I.turned (t':=s.toks) (fun b o hb e=>eb b o hb e) f0 f1 f3 f4 f5⟩
 self:=fun _ _ _ _ _ st h=>wpAny_pyIter_listiter st h
theorem turn_tuple {P : Program} {w : World} {K : PySem.W.Frag} {tg : Expr} (a it : Addr) : Turn P w K tg (Itt K a) [it] it (fun i h=>h.IsTupleIter it a i) where
 mem:=by simp
 obj:=fun i h st b hb=>by
  have e : b = it:=by simpa using hb
  subst e
  obtain ⟨o,e,c,d⟩:=st
  exact ⟨o,e,fun v z=>by rw [d] at z; cases z⟩
 keep:=fun i h h' st k=>st.at fun o e=>k it (by simp) o e
 item:=by
  intro X hP hw hK hc i pins s σ H E I hf st hg
  subst hP hw hK
  obtain ⟨xs,x,hq,hx⟩:=hg
  obtain ⟨its,rv,p,hz⟩:=I.tuple hq
  obtain ⟨u,hu,ru⟩:=rv.get hx
  obtain ⟨f0,f1,f2,f3,f4,f5⟩:=hf it (by simp)
  refine wpAny_pyNext_tuple_item st (show s.heap.IsTuple a its.toArray from p) (x:=u) (by simpa using hu) fun h' st' sb=>?_
  have I1 : Inv X pins σ H { s with heap:=h' }:=I.turned (t':=s.toks) (fun b o hb e=>(sb.2 b hb).trans e) f0 f1 f3 f4 f5
  obtain ⟨o,e,c,d⟩:=id st'
  exact ⟨u,rfl,go_of (s:={ s with heap:=h' }) e c d (by decide) ⟨x,H,I1,ru,⟨rfl,fun ys hy=>by rw [I.tuple_inj hy hq]; exact hx⟩,st',fun b hb=>(hf b hb).1⟩⟩
 done:=by
  intro X hP hw hK hc i pins s σ H E I hf st hg
  subst hP hw hK
  obtain ⟨xs,hq,hx⟩:=hg
  obtain ⟨its,rv,p,hz⟩:=I.tuple hq
  obtain ⟨f0,f1,f2,f3,f4,f5⟩:=hf it (by simp)
  have hl:=rv.length
  exact wpAny_pyNext_tuple_end (I.ok.hd hc) st (show s.heap.IsTuple a its.toArray from p) (by simp; omega) fun h' eb=>⟨rfl,I.turned (t':=s.toks) (fun b o hb e=>eb b o hb e) f0 f1 f3 f4 f5⟩
 self:=fun _ _ _ _ _ st h=>wpAny_pyIter_tupleiter st h
theorem turn_range {P : Program} {w : World} {K : PySem.W.Frag} {tg : Expr} (it : Addr) (lo : Int) (n : Nat) : Turn P w K tg (Itr lo n) [it] it (fun i h=>IsRangeIter h it (lo + (i : Nat) * 1) ((n : Int) - (i : Nat)) 1) where
 mem:=by simp
 obj:=fun i h st b hb=>by
  have e : b = it:=by simpa using hb
  subst e
  exact ⟨_,st,fun v z=>by
   have z' : Data.fields _ = Data.cell v:=z
   cases z'⟩
 keep:=fun i h h' st k=>k it (by simp) _ st
 item:=by
  intro X hP hw hK hc i pins s σ H E I hf st hg
  subst hP hw hK
  obtain ⟨f0,f1,f2,f3,f4,f5⟩:=hf it (by simp)
  have W:=Walks.range (prog:=X.prog) (w:=X.w) (I.ok.hd hc) it lo 1 n
  refine W.item i s _ _ hg st fun v h' tk hv st' kk=>?_
  obtain ⟨t,rfl⟩:=hv
  have I1 : Inv X pins σ H { s with heap:=h',toks:=tk }:=I.turned (fun b o hb e=>kk b o (by simpa using hb) e) f0 f1 f3 f4 f5
  refine ⟨_,rfl,go_of (s:={ s with heap:=h',toks:=tk }) (n:="range_iterator") st' rfl rfl (by decide) ⟨.int (lo + i),H,I1,⟨t,?_⟩,⟨rfl,rfl⟩,st',fun b hb=>(hf b hb).1⟩⟩
  rw [Int.mul_one]
 done:=by
  intro X hP hw hK hc i pins s σ H E I hf st hg
  subst hP hw hK
  obtain ⟨f0,f1,f2,f3,f4,f5⟩:=hf it (by simp)
  exact wpAny_pyNext_range_end (I.ok.hd hc) st (by have : n ≤ i:=hg; omega) fun h' eb=>⟨rfl,I.turned (t':=s.toks) (fun b o hb e=>eb b o hb e) f0 f1 f3 f4 f5⟩
 self:=fun _ _ _ _ _ st h=>wpAny_pyIter_rangeiter st h
end L2
namespace L2
open PySem PySem.Spec PyProof.Rows
section
variable {X : Cx} {tg : Expr}
def iList (K : PySem.W.Frag) (tl : TE) : TI:=fun σ H R=>tl σ H fun x H1=>∃ a,x = .ref a ∧ (∃ xs,SqL K H1 a xs) ∧ R (Itl K a) H1
def iTup (K : PySem.W.Frag) (tl : TE) : TI:=fun σ H R=>tl σ H fun x H1=>∃ a,x = .ref a ∧ (∃ xs,SqT K H1 a xs) ∧ R (Itt K a) H1
theorem pi_list {l : Expr} {tl : TE} (hl : PE X l tl) : PI X tg l (iList X.K tl):=by
 intro pins s σ H R I h
 refine thn (hl pins s σ H _ I h) fun v s1 ⟨x,H1,I1,r1,q1⟩=>?_
 obtain ⟨a,e,⟨xs,hq⟩,q⟩:=q1
 subst e
 cases r1
 obtain ⟨its,rv,p,hz⟩:=I1.list hq
 refine wpAny_pyIter_list p.isList ?_
 refine ⟨s1.heap.objs.size,[s1.heap.objs.size],_,_,H1,rfl,I1.kept (t':=s1.toks) fun b o e=>Heap.get?_push_of_some _ e,turn_list a _,⟨_,Heap.get?_push_size _ rfl,rfl,rfl⟩,fun b hb=>?_,q⟩
 have e : b = s1.heap.objs.size:=by simpa using hb
 subst e
 exact I1.fpOk (Nat.le_refl _) (I1.hok.fresh (Nat.le_refl _))
theorem pi_tup {l : Expr} {tl : TE} (hl : PE X l tl) : PI X tg l (iTup X.K tl):=by
 intro pins s σ H R I h
 refine thn (hl pins s σ H _ I h) fun v s1 ⟨x,H1,I1,r1,q1⟩=>?_
 obtain ⟨a,e,⟨xs,hq⟩,q⟩:=q1
 subst e
 cases r1
 obtain ⟨its,rv,p,hz⟩:=I1.tuple hq
 refine wpAny_pyIter_tuple (show s1.heap.IsTuple a its.toArray from p) ?_
 refine ⟨s1.heap.objs.size,[s1.heap.objs.size],_,_,H1,rfl,I1.kept (t':=s1.toks) fun b o e=>Heap.get?_push_of_some _ e,turn_tuple a _,⟨_,Heap.get?_push_size _ rfl,rfl,rfl⟩,fun b hb=>?_,q⟩
 have e : b = s1.heap.objs.size:=by simpa using hb
 subst e
 exact I1.fpOk (Nat.le_refl _) (I1.hok.fresh (Nat.le_refl _))
theorem range_it {pins : List (Addr × Obj)} {σ : St} {H : Hp} {s : Shared} {R : It → Hp → Prop} {E : Value → Shared → Prop} {lo hi : Int} {t u v : Tok} {tk : Nat} (I : Inv X pins σ H s) (h1 : -(2 ^ 62) ≤ lo) (h2 : lo < 2 ^ 62) (h3 : -(2 ^ 62) ≤ hi) (h4 : hi < 2 ^ 62)
 (q : R (Itr lo (hi - lo).toNat) H) : wpAny (model X.prog X.w) X.A (pyIter (.ref s.heap.objs.size)) (PIE X pins σ tg R) E { s with heap:=s.heap.push { cls:=.type "range",data:=.fields #[.int lo t,.int hi u,.int 1 v] },toks:=tk }:=by
 refine wpAny_pyIter_range (IsRange.new ..) (small_one h1 h2 h3 h4) ?_
 have I1 : Inv X pins σ H { s with heap:=s.heap.push { cls:=.type "range",data:=.fields #[.int lo t,.int hi u,.int 1 v] },toks:=tk }:=I.kept fun b o e=>Heap.get?_push_of_some _ e
 refine ⟨(s.heap.push { cls:=.type "range",data:=.fields #[.int lo t,.int hi u,.int 1 v] }).objs.size,[(s.heap.push { cls:=.type "range",data:=.fields #[.int lo t,.int hi u,.int 1 v] }).objs.size],_,_,H,rfl,
  I1.kept (t':=tk) fun b o e=>Heap.get?_push_of_some _ e,turn_range _ lo (hi - lo).toNat,?_,fun b hb=>?_,q⟩
 · have e1 : lo + ((0 : Nat) : Int) * 1 = lo:=by simp
   have e2 : (((hi - lo).toNat : Nat) : Int) - ((0 : Nat) : Int) = Builtin.Range.rangeSize lo hi 1:=by rw [rangeSize_one]; split <;> omega
   show IsRangeIter _ _ (lo + ((0 : Nat) : Int) * 1) ((((hi - lo).toNat : Nat) : Int) - ((0 : Nat) : Int)) 1
   rw [e1,e2]
   exact Heap.get?_push_size _ rfl
 · have e : b = (s.heap.push { cls:=.type "range",data:=.fields #[.int lo t,.int hi u,.int 1 v] }).objs.size:=by simpa using hb
   subst e
   exact I1.fpOk (Nat.le_refl _) (I1.hok.fresh (Nat.le_refl _))
def iRng1 (ta : TA) : TI:=fun σ H R=>ta σ H fun vs H1=>∃ j : Int,vs = [.int j] ∧ -(2 ^ 62) ≤ j ∧ j < 2 ^ 62 ∧ R (Itr 0 j.toNat) H1
def iRng2 (ta : TA) : TI:=fun σ H R=>ta σ H fun vs H1=>∃ i j : Int,vs = [.int i,.int j] ∧ (-(2 ^ 62) ≤ i ∧ i < 2 ^ 62 ∧ -(2 ^ 62) ≤ j ∧ j < 2 ^ 62) ∧ R (Itr i (j - i).toNat) H1
theorem pi_range1 {a : Expr} {ta : TA} {p pos : Pos} (hg : Gl X "range") (hm : X.mg "range" = none) (ha : PA X [a] ta) (hs : starEach [a] X.env = [(false,eval a X.env)]:=by rfl) : PI X tg (.Call (.Name "range" p) [a] [] pos) (iRng1 ta):=by
 intro pins s σ H R I h
 refine Call_ (ld_blt I hg hm boot_range (PyProof.Rows.callWith_type1 (thn (ha pos pins s σ H _ I h) fun us s1 ⟨vs,H1,I1,r1,q1⟩=>?_) hs rfl))
 obtain ⟨j,e,q1,q2,q⟩:=q1
 subst e
 cases r1 with
 | cons r rr =>
  cases rr
  obtain ⟨t,rfl⟩:=r
  exact call_range_1 (range_it I1 (by omega) (by omega) q1 q2 (by simpa using q))
theorem pi_range2 {a b : Expr} {ta : TA} {p pos : Pos} (hg : Gl X "range") (hm : X.mg "range" = none) (ha : PA X [a,b] ta) (hs : starEach [a,b] X.env = [(false,eval a X.env),(false,eval b X.env)]:=by rfl) (hs2 : starEach [b] X.env = [(false,eval b X.env)]:=by rfl) :
 PI X tg (.Call (.Name "range" p) [a,b] [] pos) (iRng2 ta):=by
 intro pins s σ H R I h
 refine Call_ (ld_blt I hg hm boot_range (PyProof.Rows.callWith_type1 (thn (ha pos pins s σ H _ I h) fun us s1 ⟨vs,H1,I1,r1,q1⟩=>?_) (by rw [hs,hs2]) (by rw [hs2]; rfl)))
 obtain ⟨i,j,e,⟨q1,q2,q3,q4⟩,q⟩:=q1
 subst e
 cases r1 with
 | cons r rr =>
  cases rr with
  | cons r' rr =>
   cases rr
   obtain ⟨t,rfl⟩:=r
   obtain ⟨t',rfl⟩:=r'
   exact call_range_2 (range_it I1 q1 q2 q3 q4 q)
def tFor (wi : TI) (g : TG) (tb : TS) : TS:=fun D σ H=>wi σ H fun J H1=>∃ W : Nat → Nat → St → Hp → Prop,(∃ m,W 0 m σ H1) ∧ ∀ i m σ H,W i m σ H →
 (J.stop i H ∧ D.nx σ H) ∨ (J.go i H ∧ ∃ N : St → Hp → Prop,(∀ σ' H',N σ' H' → ∃ m',m' < m ∧ W (i + 1) m' σ' H') ∧ ∀ x H',J.yld i H x H' → g x σ H' fun σ2 H2=>tb { D with nx:=N,ct:=N,bk:=D.nx } σ2 H2)
def pinsAt (fp : List Addr) (h : Heap) : List (Addr × Obj):=fp.filterMap fun b=>(h.get? b).map fun o=>(b,o)
theorem mem_pinsAt {fp : List Addr} {h : Heap} {b : Addr} {o : Obj} (hb : b ∈ fp) (e : h.get? b = some o) : (b,o) ∈ pinsAt fp h:=List.mem_filterMap.mpr ⟨b,hb,by rw [e]; rfl⟩
theorem of_pinsAt {fp : List Addr} {h : Heap} {p : Addr × Obj} (hp : p ∈ pinsAt fp h) : p.1 ∈ fp ∧ h.get? p.1 = some p.2:=by
 obtain ⟨b,hb,e⟩:=List.mem_filterMap.mp hp
 cases q : h.get? b with
 | none=>rw [q] at e; cases e
 | some o =>
  rw [q] at e
  have e' : (b,o) = p:=Option.some.inj e
  subst e'
  exact ⟨hb,q⟩
theorem Inv.pinned {pins : List (Addr × Obj)} {σ : St} {H : Hp} {s : Shared} {fp : List Addr} (I : Inv X pins σ H s) (hf : ∀ b ∈ fp,FpOk X pins H b) (ho : ∀ b ∈ fp,∃ o,s.heap.get? b = some o ∧ ∀ v,o.data ≠ .cell v) : Inv X (pins ++ pinsAt fp s.heap) σ H s :=
 I.pins_of fun p hp=>(List.mem_append.mp hp).elim (fun z=>I.pin p (List.mem_append_right _ z)) fun z=>by
  obtain ⟨hb,e⟩:=of_pinsAt z
  obtain ⟨f0,f1,f2,_⟩:=hf p.1 hb
  obtain ⟨o,e',d⟩:=ho p.1 hb
  rw [e] at e'; cases e'
  exact ⟨e,f0,f1,f2,d⟩
theorem Inv.unpinned {pins pl : List (Addr × Obj)} {σ : St} {H : Hp} {s : Shared} (I : Inv X (pins ++ pl) σ H s) : Inv X pins σ H s:=I.pins_of fun p hp=>I.pin p (List.mem_append_right _ (List.mem_append_left _ hp))
theorem ps_for {iter : Expr} {body : List Stmt} {wi : TI} {g : TG} {tb : TS} {pos : Pos} (hp : PassesOwn (model X.prog X.w) X.A X.env X.xe) (hc : X.calm = true) (hi : PI X tg iter wi) (hg : PG X tg g) (hb : PSs X body tb)
 (hs : ∀ x,foldedSetIterable iter X.env x = pure x:=by intro _; rfl) : PS X (.For tg iter body [] pos) (tFor wi g tb):=by
 intro pins s σ H D I h
 refine wpAny_For (thn (hi pins s σ H _ I h) fun v s1 h1=>thn h1 fun itv s2 h2=>?_) hs
 obtain ⟨it,fp,tn,J,H2,e,I2,T,st2,f2,W,⟨m0,w0⟩,turn⟩:=h2
 subst e
 have stat : ∀ {H' : Hp},(∀ b ∈ fp,H' b = none) → ∀ b ∈ fp,FpOk X pins H' b:=fun hn b hb=>⟨hn b hb,(f2 b hb).2⟩
 refine codeAny_forLoop_any (fun n s'=>∃ i σ' H',Inv X pins σ' H' s' ∧ tn i s'.heap ∧ (∀ b ∈ fp,H' b = none) ∧ W i n σ' H') ?_ m0 ⟨0,σ,H2,I2,st2,fun b hb=>(f2 b hb).1,w0⟩
 rintro n s3 ⟨i,σ3,H3,I3,st3,fr3,w3⟩
 rcases turn i n σ3 H3 w3 with ⟨stop,qn⟩ | ⟨go,N,hN,step⟩
 · refine wpAny_passesOwn hp (thn (T.done X rfl rfl rfl hc i pins s3 σ3 H3 X.xe I3 (stat fr3) st3 stop) fun r s4 ⟨hr,I4⟩=>?_)
   subst hr
   exact wpAny_execs_nil ⟨σ3,H3,I4,qn⟩
 · refine wpAny_passesOwn hp (thn (T.item X rfl rfl rfl hc i pins s3 σ3 H3 X.xe I3 (stat fr3) st3 go) fun r s4 ⟨u,hr,h4⟩=>?_)
   subst hr
   refine wpAny_passesOwn hp (thn h4 fun _ s5 ⟨x,H5,I5,r5,y5,st5,fr5⟩=>?_)
   have I5':=I5.pinned (stat fr5) (T.obj _ _ st5)
   refine wpAny_passesOwn hp (thn (hg _ s5 σ3 H5 x u _ I5' r5 (step x H5 y5)) fun _ s6 ⟨σ6,H6,I6,q6⟩=>?_)
   refine wpAny_passesOwn hp (thn (hb _ s6 σ6 H6 _ I6 q6) fun f s7 q7=>?_)
   have again : ∀ {σ7 : St} {H7 : Hp},Inv X (pins ++ pinsAt fp s5.heap) σ7 H7 s7 → N σ7 H7 → ∃ m,m < n ∧ ∃ i σ' H',Inv X pins σ' H' s7 ∧ tn i s7.heap ∧ (∀ b ∈ fp,H' b = none) ∧ W i m σ' H':=fun {σ7 H7} I7 n7=>by
    obtain ⟨m',hm,w7⟩:=hN σ7 H7 n7
    refine ⟨m',hm,i + 1,σ7,H7,I7.unpinned,T.keep _ _ _ st5 fun b hb o e=>(I7.pin (b,o) (List.mem_append_right _ (List.mem_append_right _ (mem_pinsAt hb e)))).1,fun b hb=>?_,w7⟩
    obtain ⟨o,e,d⟩:=T.obj _ _ st5 b hb
    exact (I7.pin (b,o) (List.mem_append_right _ (List.mem_append_right _ (mem_pinsAt hb e)))).2.1
   cases f with
   | next=>obtain ⟨σ7,H7,I7,n7⟩:=q7; exact again I7 n7
   | cont=>obtain ⟨σ7,H7,I7,n7⟩:=q7; exact again I7 n7
   | brk=>obtain ⟨σ7,H7,I7,q7⟩:=q7; exact ⟨σ7,H7,I7.unpinned,q7⟩
   | ret v=>obtain ⟨x7,σ7,H7,I7,r7,q7⟩:=q7; exact ⟨x7,σ7,H7,I7.unpinned,r7,q7⟩
end
theorem for_list {K : PySem.W.Frag} {a : Addr} {xs : List V} {g : TG} {tb : TS} {D : Ends} {σ : St} {H : Hp} (Pv : Nat → St → Hp → Prop) (h0 : Pv 0 σ H) (hl : ∀ i σ H,i ≤ xs.length → Pv i σ H → SqL K H a xs)
 (hs : ∀ i x σ H,xs[i]? = some x → Pv i σ H → g x σ H fun σ2 H2=>tb { D with nx:=Pv (i + 1),ct:=Pv (i + 1),bk:=D.nx } σ2 H2) (hd : ∀ σ H,Pv xs.length σ H → D.nx σ H) :
 ∃ W : Nat → Nat → St → Hp → Prop,(∃ m,W 0 m σ H) ∧ ∀ i m σ H,W i m σ H →
  ((Itl K a).stop i H ∧ D.nx σ H) ∨ ((Itl K a).go i H ∧ ∃ N : St → Hp → Prop,(∀ σ' H',N σ' H' → ∃ m',m' < m ∧ W (i + 1) m' σ' H') ∧ ∀ x H',(Itl K a).yld i H x H' → g x σ H' fun σ2 H2=>tb { D with nx:=N,ct:=N,bk:=D.nx } σ2 H2):=by
 refine ⟨fun i m σ H=>m = xs.length - i ∧ i ≤ xs.length ∧ Pv i σ H,⟨xs.length,by simp,Nat.zero_le _,h0⟩,?_⟩
 rintro i m σ H ⟨rfl,hi,p⟩
 have q:=hl i σ H hi p
 by_cases hlt : i < xs.length
 · refine .inr ⟨⟨xs,xs[i],q,by simp [hlt]⟩,Pv (i + 1),fun σ' H' p'=>⟨xs.length - (i + 1),by omega,rfl,hlt,p'⟩,fun x H' y=>?_⟩
   obtain ⟨e,y⟩:=y
   subst e
   exact hs i x σ _ (y xs q) p
 · have e : i = xs.length:=by omega
   subst e
   exact .inl ⟨⟨xs,q,Nat.le_refl _⟩,hd σ H p⟩
theorem for_range {lo : Int} {n : Nat} {g : TG} {tb : TS} {D : Ends} {σ : St} {H : Hp} (Pv : Nat → St → Hp → Prop) (h0 : Pv 0 σ H)
 (hs : ∀ i σ H,i < n → Pv i σ H → g (.int (lo + i)) σ H fun σ2 H2=>tb { D with nx:=Pv (i + 1),ct:=Pv (i + 1),bk:=D.nx } σ2 H2) (hd : ∀ σ H,Pv n σ H → D.nx σ H) :
 ∃ W : Nat → Nat → St → Hp → Prop,(∃ m,W 0 m σ H) ∧ ∀ i m σ H,W i m σ H →
  ((Itr lo n).stop i H ∧ D.nx σ H) ∨ ((Itr lo n).go i H ∧ ∃ N : St → Hp → Prop,(∀ σ' H',N σ' H' → ∃ m',m' < m ∧ W (i + 1) m' σ' H') ∧ ∀ x H',(Itr lo n).yld i H x H' → g x σ H' fun σ2 H2=>tb { D with nx:=N,ct:=N,bk:=D.nx } σ2 H2):=by
 refine ⟨fun i m σ H=>m = n - i ∧ i ≤ n ∧ Pv i σ H,⟨n,by simp,Nat.zero_le _,h0⟩,?_⟩
 rintro i m σ H ⟨rfl,hi,p⟩
 by_cases hlt : i < n
 · refine .inr ⟨hlt,Pv (i + 1),fun σ' H' p'=>⟨n - (i + 1),by omega,rfl,hlt,p'⟩,fun x H' y=>?_⟩
   obtain ⟨e,y⟩:=y
   subst e y
   exact hs i σ _ hlt p
 · have e : i = n:=by omega
   subst e
   exact .inl ⟨Nat.le_refl _,hd σ H p⟩
end L2
namespace L2
open PySem PySem.Spec PyProof.Rows
abbrev R2:=V → V → Hp → VK → Prop
def OpR (X : Cx) (f : Value → Value → Sem Value) (r : R2) : Prop :=
 ∀ (pins : List (Addr × Obj)) (s : Shared) (σ : St) (H : Hp) (x y : V) (v u : Value) (Q : VK),Inv X pins σ H s → RelV x v → RelV y u → r x y H Q →
  wpAny (model X.prog X.w) X.A (f v u) (EP X pins σ Q) X.xe s
def UnR (X : Cx) (f : Value → Sem Value) (r : V → Hp → VK → Prop) : Prop :=
 ∀ (pins : List (Addr × Obj)) (s : Shared) (σ : St) (H : Hp) (x : V) (v : Value) (Q : VK),Inv X pins σ H s → RelV x v → r x H Q →
  wpAny (model X.prog X.w) X.A (f v) (EP X pins σ Q) X.xe s
def CallR (X : Cx) (f : Value) (r : List V → Hp → VK → Prop) : Prop :=
 ∀ (pins : List (Addr × Obj)) (s : Shared) (σ : St) (H : Hp) (xs : List V) (us : List Value) (Q : VK),Inv X pins σ H s → Vals xs us → r xs H Q →
  wpAny (model X.prog X.w) X.A (call f us) (EP X pins σ Q) X.xe s
def tOp (r : R2) (ta tb : TE) : TE:=fun σ H Q=>ta σ H fun x H1=>tb σ H1 fun y H2=>r x y H2 Q
def tUn (r : V → Hp → VK → Prop) (ta : TE) : TE:=fun σ H Q=>ta σ H fun x H1=>r x H1 Q
def rI (C : Int → Int → Prop) (g : Int → Int → V) : R2:=fun x y H Q=>∃ i j,x = .int i ∧ y = .int j ∧ C i j ∧ Q (g i j) H
def rI0 (g : Int → Int → V) : R2:=fun x y H Q=>∃ i j,x = .int i ∧ y = .int j ∧ Q (g i j) H
def rU (g : Int → V) : V → Hp → VK → Prop:=fun x H Q=>∃ i,x = .int i ∧ Q (g i) H
section
variable {X : Cx} {a b c : Expr} {ta tb tc : TE} {pos : Pos}
theorem binT (ha : PE X a ta) (hb : PE X b tb) {pins : List (Addr × Obj)} {s : Shared} {σ : St} {H : Hp} {R : V → V → Hp → Prop} (I : Inv X pins σ H s)
 (h : ta σ H fun x H1=>tb σ H1 fun y H2=>R x y H2) {Q : Value → Shared → Prop} {f : Value → Value → Sem Value}
 (hf : ∀ v u s2 x y H2,Inv X pins σ H2 s2 → RelV x v → RelV y u → R x y H2 → wpAny (model X.prog X.w) X.A (f v u) Q X.xe s2) :
 wpAny (model X.prog X.w) X.A (eval a X.env) (fun v s₁=>wpAny (model X.prog X.w) X.A (eval b X.env) (fun u s₂=>wpAny (model X.prog X.w) X.A (f v u) Q X.xe s₂) X.xe s₁) X.xe s:=by
 refine thn (ha pins s σ H _ I h) fun v s1 ⟨x,H1,I1,r1,q1⟩=>?_
 refine thn (hb pins s1 σ H1 _ I1 q1) fun u s2 ⟨y,H2,I2,r2,q2⟩=>?_
 exact hf v u s2 x y H2 I2 r1 r2 q2
theorem pe_op {op : Operator} {r : R2} (ho : OpR X (binaryOp op) r) (ha : PE X a ta) (hb : PE X b tb) : PE X (.BinOp a op b pos) (tOp r ta tb):=by
 intro pins s σ H Q I h
 exact wpAny_BinOp (binT ha hb I h fun v u s2 x y H2 I2 rx ry q=>ho pins s2 σ H2 x y v u Q I2 rx ry q)
theorem pe_un {op : UnaryOp} {r : V → Hp → VK → Prop} (ho : UnR X (unaryOp op) r) (ha : PE X a ta) : PE X (.UnaryOp op a pos) (tUn r ta):=by
 intro pins s σ H Q I h
 exact UnaryOp_ (thn (ha pins s σ H _ I h) fun v s1 ⟨x,H1,I1,r1,q1⟩=>ho pins s1 σ H1 x v Q I1 r1 q1)
theorem opI {f : Value → Value → Sem Value} {C : Int → Int → Prop} {g : Int → Int → Int}
 (rule : ∀ (i j : Int) (t u : Tok) (s : Shared) (Q : Value → Shared → Prop) (E : Value → Shared → Prop),C i j → Q (.int (g i j) s.toks) { s with toks:=s.toks + 1 } → wpAny (model X.prog X.w) X.A (f (.int i t) (.int j u)) Q E s) :
 OpR X f (rI C fun i j=>.int (g i j)):=by
 intro pins s σ H x y v u Q I rx ry h
 obtain ⟨i,j,rfl,rfl,hc,q⟩:=h
 obtain ⟨t,rfl⟩:=rx
 obtain ⟨t',rfl⟩:=ry
 exact rule i j t t' s _ _ hc ⟨.int (g i j),H,I.tok _,⟨_,rfl⟩,q⟩
theorem opI0 {f : Value → Value → Sem Value} {g : Int → Int → Int}
 (rule : ∀ (i j : Int) (t u : Tok) (s : Shared) (Q : Value → Shared → Prop) (E : Value → Shared → Prop),Q (.int (g i j) s.toks) { s with toks:=s.toks + 1 } → wpAny (model X.prog X.w) X.A (f (.int i t) (.int j u)) Q E s) :
 OpR X f (rI0 fun i j=>.int (g i j)):=by
 intro pins s σ H x y v u Q I rx ry h
 obtain ⟨i,j,rfl,rfl,q⟩:=h
 obtain ⟨t,rfl⟩:=rx
 obtain ⟨t',rfl⟩:=ry
 exact rule i j t t' s _ _ ⟨.int (g i j),H,I.tok _,⟨_,rfl⟩,q⟩
theorem opB0 {f : Value → Value → Sem Value} {g : Int → Int → Bool}
 (rule : ∀ (i j : Int) (t u : Tok) (s : Shared) (Q : Value → Shared → Prop) (E : Value → Shared → Prop),Q (.bool (g i j)) s → wpAny (model X.prog X.w) X.A (f (.int i t) (.int j u)) Q E s) :
 OpR X f (rI0 fun i j=>.bl (g i j)):=by
 intro pins s σ H x y v u Q I rx ry h
 obtain ⟨i,j,rfl,rfl,q⟩:=h
 obtain ⟨t,rfl⟩:=rx
 obtain ⟨t',rfl⟩:=ry
 exact rule i j t t' s _ _ ⟨.bl (g i j),H,I,rfl,q⟩
def CDiv (i j : Int) : Prop:=0 < j ∧ j < 1073741824
def CMul (i j : Int) : Prop:=(-(2 ^ 64) < i ∧ i < 2 ^ 64) ∨ (-(2 ^ 64) < j ∧ j < 2 ^ 64)
theorem CMul.ok {i j : Int} (h : CMul i j) : IntMulOk i j:=by
 rcases h with ⟨h1,h2⟩ | ⟨h1,h2⟩
 · exact .of_left (intBits_le_64 h1 h2)
 · exact .of_right (intBits_le_64 h1 h2)
theorem op_add : OpR X (binaryOp .Add) (rI0 fun i j=>.int (i + j)):=opI0 fun _ _ _ _ _ _ _ q=>add_int q
theorem op_sub : OpR X (binaryOp .Sub) (rI0 fun i j=>.int (i - j)):=opI0 fun _ _ _ _ _ _ _ q=>sub_int q
theorem op_mul : OpR X (binaryOp .Mult) (rI CMul fun i j=>.int (i * j)):=opI fun _ _ _ _ _ _ _ hc q=>mul_int q hc.ok
theorem op_fdiv : OpR X (binaryOp .FloorDiv) (rI CDiv fun i j=>.int (i / j)):=opI fun i j _ _ _ _ _ hc q=>by
 have h1 : (0 : Int) < j:=hc.1
 have h2 : j < 1073741824:=hc.2
 exact floordiv_int (by omega) (by rw [Int.fdiv_eq_ediv_of_nonneg i (by omega)]; exact q) (.inl (PyProof.noPylong_small (by omega)))
theorem op_mod : OpR X (binaryOp .Mod) (rI (fun _ j=>0 < j) fun i j=>.int (i % j)):=opI fun i j _ _ _ _ _ hc q=>by
 have h1 : (0 : Int) < j:=hc
 exact mod_int' (by omega) (by rw [Int.fmod_eq_emod_of_nonneg i (by omega)]; exact q)
theorem unI {f : Value → Sem Value} {g : Int → Int}
 (rule : ∀ (i : Int) (t : Tok) (s : Shared) (Q : Value → Shared → Prop) (E : Value → Shared → Prop),Q (.int (g i) s.toks) { s with toks:=s.toks + 1 } → wpAny (model X.prog X.w) X.A (f (.int i t)) Q E s) :
 UnR X f (rU fun i=>.int (g i)):=by
 intro pins s σ H x v Q I rx h
 obtain ⟨i,rfl,q⟩:=h
 obtain ⟨t,rfl⟩:=rx
 exact rule i t s _ _ ⟨.int (g i),H,I.tok _,⟨_,rfl⟩,q⟩
theorem un_neg : UnR X (unaryOp .USub) (rU fun i=>.int (-i)):=unI fun _ _ _ _ _ q=>neg_int q
end
def scal : V → V → Bool
 | .non,.non=>true | .non,.int _=>true | .int _,.non=>true | .non,.bl _=>true | .bl _,.non=>true | .non,.str _=>true | .str _,.non=>true
 | .int _,.int _=>true | .bl _,.bl _=>true | .str _,.str _=>true | .byt _,.byt _=>true
 | .int _,.str _=>true | .str _,.int _=>true | .bl _,.str _=>true | .str _,.bl _=>true
 | _,_=>false
def rEq : R2:=fun x y H Q=>scal x y = true ∧ Q (.bl (decide (x = y))) H
theorem dec_int {i j : Int} : decide (V.int i = V.int j) = (i == j):=by
 rw [Bool.eq_iff_iff]
 simp
theorem dec_bl {i j : Bool} : decide (V.bl i = V.bl j) = (i == j):=by
 rw [Bool.eq_iff_iff]
 simp
theorem dec_str {i j : Str} : decide (V.str i = V.str j) = (i == j):=by
 rw [Bool.eq_iff_iff]
 simp
theorem dec_byt {i j : Array UInt8} : decide (V.byt i = V.byt j) = (i.toList == j.toList):=by
 rw [Bool.eq_iff_iff]
 cases i
 cases j
 simp
section
variable {X : Cx} {a b c : Expr} {ta tb tc : TE} {pos : Pos}
theorem fin_bl {pins : List (Addr × Obj)} {σ : St} {H : Hp} {s : Shared} {Q : VK} {k k' : Bool} (I : Inv X pins σ H s) (q : Q (.bl k) H) (e : k = k') : EP X pins σ Q (.bool k') s:=by
 subst e
 exact ⟨.bl k,H,I,rfl,q⟩
theorem op_eq : OpR X (compareOp .Eq) rEq:=by
 intro pins s σ H x y v u Q I rx ry h
 obtain ⟨hs,q⟩:=h
 cases x with
 | non =>
  cases rx
  cases y with
  | non=>cases ry; exact PySem.EqNone.eq_none_none (fin_bl I q (by simp))
  | bl j=>cases ry; exact PySem.EqNone.eq_none_bool (fin_bl I q (by simp))
  | int j=>obtain ⟨t',rfl⟩:=ry; exact PySem.EqNone.eq_none_int (fin_bl I q (by simp))
  | str j=>obtain ⟨t',rfl⟩:=ry; exact PySem.EqNone.eq_none_str (fin_bl I q (by simp))
  | _=>exact absurd (show false = true from hs) Bool.false_ne_true
 | bl i =>
  cases rx
  cases y with
  | non=>cases ry; exact PySem.EqNone.eq_bool_none (fin_bl I q (by simp))
  | bl j=>cases ry; exact eq_bool (fin_bl I q dec_bl)
  | str j=>obtain ⟨t',rfl⟩:=ry; exact PySem.EqMixed.eq_bool_str (fin_bl I q (by simp))
  | _=>exact absurd (show false = true from hs) Bool.false_ne_true
 | int i =>
  obtain ⟨t,rfl⟩:=rx
  cases y with
  | non=>cases ry; exact PySem.EqNone.eq_int_none (fin_bl I q (by simp))
  | int j=>obtain ⟨t',rfl⟩:=ry; exact eq_int (fin_bl I q dec_int)
  | str j=>obtain ⟨t',rfl⟩:=ry; exact PySem.EqMixed.eq_int_str (fin_bl I q (by simp))
  | _=>exact absurd (show false = true from hs) Bool.false_ne_true
 | str i =>
  obtain ⟨t,rfl⟩:=rx
  cases y with
  | non=>cases ry; exact PySem.EqNone.eq_str_none (fin_bl I q (by simp))
  | bl j=>cases ry; exact PySem.EqMixed.eq_str_bool (fin_bl I q (by simp))
  | int j=>obtain ⟨t',rfl⟩:=ry; exact PySem.EqMixed.eq_str_int (fin_bl I q (by simp))
  | str j=>obtain ⟨t',rfl⟩:=ry; exact eq_str (fin_bl I q dec_str)
  | _=>exact absurd (show false = true from hs) Bool.false_ne_true
 | byt i =>
  obtain ⟨t,rfl⟩:=rx
  cases y with
  | byt j=>obtain ⟨t',rfl⟩:=ry; exact PySem.W.eq_bytes (fin_bl I q dec_byt)
  | _=>exact absurd (show false = true from hs) Bool.false_ne_true
 | _=>cases y <;> exact absurd (show false = true from hs) Bool.false_ne_true
theorem op_lt : OpR X (compareOp .Lt) (rI0 fun i j=>.bl (decide (i < j))):=opB0 fun _ _ _ _ _ _ _ q=>lt_int q
theorem op_gt : OpR X (compareOp .Gt) (rI0 fun i j=>.bl (decide (j < i))):=opB0 fun _ _ _ _ _ _ _ q=>gt_int q
theorem nomark (b : Expr) {op : CmpOp} (h : op ≠ .In:=by decide) (h2 : op ≠ .NotIn:=by decide) : behindInMarks op b = false:=by
 have e1 : (op == CmpOp.In) = false:=by cases op <;> first | rfl | exact absurd rfl h
 have e2 : (op == CmpOp.NotIn) = false:=by cases op <;> first | rfl | exact absurd rfl h2
 cases b <;> simp [behindInMarks,e1,e2]
theorem pe_cmpR {op : CmpOp} {r : R2} (ho : OpR X (compareOp op) r) (ha : PE X a ta) (hb : PE X b tb) (hm : behindInMarks op b = false) : PE X (.Compare a [op] [b] pos) (tOp r ta tb):=by
 intro pins s σ H Q I h
 exact wpAny_Compare1 (binT ha hb I h fun v u s2 x y H2 I2 rx ry q=>ho pins s2 σ H2 x y v u Q I2 rx ry q) hm
def tTest (t : TE) : TT:=fun σ H Q=>t σ H fun x H'=>∃ k,x = .bl k ∧ Q k H'
theorem pt_cmpR {op : CmpOp} {r : R2} (ho : OpR X (compareOp op) r) (ha : PE X a ta) (hb : PE X b tb) (hm : behindInMarks op b = false) : PT X (.Compare a [op] [b] pos) (tTest (tOp r ta tb)):=by
 intro pins s σ H Q I h
 refine wpAny_isTrue_Compare1 (thn (ha pins s σ H _ I h) fun v s1 ⟨x,H1,I1,r1,q1⟩=>thn (hb pins s1 σ H1 _ I1 q1) fun u s2 ⟨y,H2,I2,r2,q2⟩ =>
  thn (ho pins s2 σ H2 x y v u _ I2 r1 r2 q2) fun c s3 ⟨z,H3,I3,r3,k,e,q3⟩=>?_) hm
 subst e
 cases r3
 exact wpAny_truthy_bool ⟨H3,I3,q3⟩
theorem line63 : (sizeLine : Nat) < 2 ^ 63:=by rw [sizeLine_eq]; decide
theorem op_add_str : OpR X (binaryOp .Add) (fun x y H Q=>∃ i j,x = .str i ∧ y = .str j ∧ i.length + j.length ≤ sizeLine ∧ Q (.str (i ++ j)) H):=by
 intro pins s σ H x y v u Q I rx ry h
 obtain ⟨i,j,rfl,rfl,hz,q⟩:=h
 obtain ⟨t,rfl⟩:=rx
 obtain ⟨t',rfl⟩:=ry
 exact add_str (fun t' tk=>⟨.str (i ++ j),H,I.tok _,⟨_,rfl⟩,q⟩) hz
theorem vals1 {x : V} {us : List Value} (r : Vals [x] us) : ∃ u,us = [u] ∧ RelV x u:=by
 cases r with
 | cons r1 r2=>cases r2; exact ⟨_,rfl,r1⟩
theorem vals2 {x y : V} {us : List Value} (r : Vals [x,y] us) : ∃ u w',us = [u,w'] ∧ RelV x u ∧ RelV y w':=by
 cases r with
 | cons r1 r2 =>
  cases r2 with
  | cons r3 r4=>cases r4; exact ⟨_,_,rfl,r1,r3⟩
theorem call_int1 : CallR X (.type "int") (fun xs H Q=>(∃ i,xs = [.int i] ∧ Q (.int i) H) ∨ ∃ k,xs = [.bl k] ∧ Q (.int (if k then 1 else 0)) H):=by
 intro pins s σ H xs us Q I r h
 rcases h with ⟨i,rfl,q⟩ | ⟨k,rfl,q⟩
 · obtain ⟨u,rfl,t,rfl⟩:=vals1 r
   exact call_int_int ⟨.int i,H,I,⟨_,rfl⟩,q⟩
 · obtain ⟨u,rfl,r1⟩:=vals1 r
   cases r1
   exact call_int_bool ⟨.int (if k then 1 else 0),H,I.tok _,⟨_,rfl⟩,q⟩
end
end L2
namespace L2
open PySem PySem.Spec PyProof.Rows
structure ObjM (h : Heap) (x dx C : Addr) (mA : Str → Option Value) : Prop where
 obj : h.get? x = some (PySem.W.instObj C dx)
 ns : h.Ns1 dx mA
 ne : dx ≠ x
theorem lookIn_ns {h : Heap} {dx : Addr} {mA : Str → Option Value} (n : h.Ns1 dx mA) : ∃ od,h.get? dx = some od ∧ ∀ name,PySem.W.lookIn name od = some (mA name):=by
 obtain ⟨o,es,ep,ho,hd,hk,_,hm⟩:=n
 refine ⟨o,ho,fun name=>?_⟩
 have e:=hm name
 unfold nsFind findBy at e
 rw [← Array.find?_toList] at e
 unfold PySem.W.lookIn
 rw [hd]
 dsimp only
 split
 · rename_i y q
   rw [q] at e
   exact congrArg some e
 · rename_i q
   rw [q] at e
   have a : es.toList.any (·.refKey) = false:=by
    rw [List.any_eq_false]
    intro y hy
    obtain ⟨z,t,hkey⟩:=hk y (Array.mem_toList_iff.mp hy)
    simp [DictEntry.refKey,hkey]
   have a' : ¬ es.toList.any (·.refKey) = true:=by rw [a]; exact Bool.false_ne_true
   rw [if_neg a']
   exact congrArg some e
theorem ObjM.look {h : Heap} {x dx C : Addr} {mA : Str → Option Value} (I : ObjM h x dx C mA) : ∃ od,PySem.W.InstAt h x (PySem.W.instObj C dx) C (some od) ∧ ∀ name,PySem.W.lookIn name od = some (mA name) :=
 let ⟨od,ho,hl⟩:=lookIn_ns I.ns
 ⟨od,⟨I.obj,rfl,rfl,ho⟩,hl⟩
section
variable {prog : Program} {w : World} {A : Around} {E : Value → Shared → Prop} {s : Shared} {K : PySem.W.Frag} {x dx C f : Addr} {mA : Str → Option Value} {name : Str} {v : Value}
end
theorem RelO.some_of {v : V} {o : Option Value} (r : RelO (some v) o) : ∃ u,o = some u ∧ RelV v u:=by
 cases o with
 | none=>exact (show False from r).elim
 | some u=>exact ⟨u,rfl,r⟩
section
variable {P : Program} {w : World} {H H' : Hp} {h h' : Heap} {a C dx : Addr} {fs fs' : List (Str × V)}
theorem ins_get (hok : HOk P w H h) (e : H a = some (.ins C dx fs)) : ∃ mA,ObjM h a dx C mA ∧ (∀ f,RelO (fs.lookup f) (mA f)) ∧ PySem.Within mA (fs.map (·.1)) ∧ fs.length ≤ 1000 ∧ H dx = some (.own a):=by
 obtain ⟨d,z,ne,ob,mA,n,r,q⟩:=(show ObjOk P w H h a (.ins C dx fs) from hok a _ e)
 exact ⟨mA,⟨ob,n,ne⟩,r,q,z,d⟩
end
structure Cls (K : PySem.W.Frag) (C : Addr) : Prop where
 pg : PySem.W.plainGet K C Str.empty = true
 hd : PySem.W.hasDictIn K C = true
 po : PySem.W.plainOver K C = true
 sa : PySem.W.findIn K (.ref C) "__setattr__" = some (some (.builtin "object.__setattr__"))
theorem Cls.get {K : PySem.W.Frag} {C : Addr} (c : Cls K C) (f : Str) : PySem.W.plainGet K C f = true:=c.pg
section
variable {X : Cx} {pins : List (Addr × Obj)} {σ : St} {H : Hp} {s : Shared} {a C dx : Addr} {fs : List (Str × V)} {f : Str} {v : V} {A : Around} {E : Value → Shared → Prop}
end
section
variable {X : Cx} {o e value : Expr} {f : Str} {pos pos' tpos : Pos} {ta tv : TE}
end
section
variable {X : Cx} {pins : List (Addr × Obj)} {σ : St} {H : Hp} {s : Shared} {A : Around} {E : Value → Shared → Prop} {Q : Value → Shared → Prop} {c : Value} {b : Bool}
inductive TyOf (K : PySem.W.Frag) (H : Hp) : V → Value → Prop where
 | non : TyOf K H .non (.type "NoneType")
 | bl (x : Bool) : TyOf K H (.bl x) (.type "bool")
 | int (i : Int) : TyOf K H (.int i) (.type "int")
 | str (x : Str) : TyOf K H (.str x) (.type "str")
 | flt (x : UInt64) : TyOf K H (.flt x) (.type "float")
 | lst {a : Addr} {xs : List V} (e : H a = some (.lst xs)) : TyOf K H (.ref a) (.type "list")
 | frz {a : Addr} {o : Obj} {xs : List V} (e : H a = some (.frz o (.lst xs))) : TyOf K H (.ref a) (.type "list")
 | tup {a : Addr} {xs : List V} (e : H a = some (.tup xs)) : TyOf K H (.ref a) (.type "tuple")
 | dK {a : Addr} {kvs : List (Key × V)} (e : H a = some (.dK kvs)) : TyOf K H (.ref a) (.type "dict")
 | dT {a : Addr} {kvs : List (List Key × V)} (e : H a = some (.dT kvs)) : TyOf K H (.ref a) (.type "dict")
 | ins {a C dx : Addr} {fs : List (Str × V)} (e : H a = some (.ins C dx fs)) (cl : Cls K C) (ha : PySem.W.findIn K (.ref C) "__class__" = some (some (.builtin "object.__class__")))
  (hn : PySem.W.specialIn K (.builtin "object.__class__") "__get__" = some (some (.builtin "getset_descriptor.__get__"))) (htk : PySem.W.takesIn K (.builtin "object.__class__") = some true)
  (hm : PySem.W.mroIn K C (.type "object") = some true) : TyOf K H (.ref a) (.ref C)
theorem isinst_ok {x : V} {u t : Value} (I : Inv X pins σ H s) (rx : RelV x u) (ty : TyOf X.K H x t) (e : PySem.W.kitOne X.K t c = some b) (h : ∀ tk,Q (.bool b) { s with toks:=tk }) :
 wpAny (model X.prog X.w) A (call (.builtin "isinstance") [u,c]) Q E s:=by
 cases ty with
 | non=>cases (show u = Value.none from rx); exact PySem.W.kia_one PySem.W.kitx_none I.kIn True.intro e (fun z=>nomatch z) h
 | bl y=>cases (show u = Value.bool y from rx); exact PySem.W.kia_one PySem.W.kitx_bool I.kIn True.intro e (fun z=>nomatch z) h
 | int i=>obtain ⟨t,q⟩:=(show ∃ t,u = Value.int i t from rx); cases q; exact PySem.W.kia_one PySem.W.kitx_int I.kIn True.intro e (fun z=>nomatch z) h
 | str y=>obtain ⟨t,q⟩:=(show ∃ t,u = Value.str y t from rx); cases q; exact PySem.W.kia_one PySem.W.kitx_str I.kIn True.intro e (fun z=>nomatch z) h
 | flt y=>obtain ⟨t,q⟩:=(show ∃ t,u = Value.float y t from rx); cases q; exact PySem.W.kia_one PySem.W.kitx_float I.kIn True.intro e (fun z=>nomatch z) h
 | @lst a xs ea =>
  cases (show u = Value.ref a from rx)
  obtain ⟨_,_,n,_,h1⟩:=(show ObjOk X.prog X.w H s.heap a (.lst xs) from I.hok a _ ea)
  exact PySem.W.kia_one PySem.W.kitx_list I.kIn ⟨_,h1,rfl⟩ e (fun z=>nomatch z) h
 | @frz a ob xs ea =>
  cases (show u = Value.ref a from rx)
  obtain ⟨_,_,_,n,_,h1⟩:=(show ObjOk X.prog X.w H s.heap a (.frz ob (.lst xs)) from I.hok a _ ea)
  exact PySem.W.kia_one PySem.W.kitx_list I.kIn ⟨_,h1,rfl⟩ e (fun z=>nomatch z) h
 | @tup a xs ea =>
  cases (show u = Value.ref a from rx)
  obtain ⟨_,_,_,p⟩:=(show ObjOk X.prog X.w H s.heap a (.tup xs) from I.hok a _ ea)
  obtain ⟨o,h1,h2,_⟩:=p
  exact PySem.W.kia_one PySem.W.kitx_tuple I.kIn ⟨o,h1,h2⟩ e (fun z=>nomatch z) h
 | @dK a kvs ea =>
  cases (show u = Value.ref a from rx)
  obtain ⟨_,_,vs,_,p⟩:=(show ObjOk X.prog X.w H s.heap a (.dK kvs) from I.hok a _ ea)
  obtain ⟨o,es,ep,h1,h2,_⟩:=p
  exact PySem.W.kia_one PySem.W.kitx_dict I.kIn ⟨o,h1,h2.1⟩ e (fun z=>nomatch z) h
 | @dT a kvs ea =>
  cases (show u = Value.ref a from rx)
  obtain ⟨_,_,xs,_,o,es,ep,h1,h2,_⟩:=(show ObjOk X.prog X.w H s.heap a (.dT kvs) from I.hok a _ ea)
  exact PySem.W.kia_one PySem.W.kitx_dict I.kIn ⟨o,h1,h2.1⟩ e (fun z=>nomatch z) h
 | @ins a C dx fs ea cl ha hn htk hm =>
  cases (show u = Value.ref a from rx)
  obtain ⟨mA,O,_⟩:=ins_get I.hok ea
  obtain ⟨od,J,_⟩:=O.look
  exact PySem.W.kia_one (PySem.W.kitx_own (cl.get _) cl.hd ha hn htk hm) I.kIn J e (fun z=>nomatch z) h
end
end L2
namespace L2
open PySem PySem.Spec PyProof.Rows
structure Room (k : Nat) (A : Around) : Prop where
 hd : A.handled = none
 dp : A.depth + 3 * k + 5 < recursionLimit
 un : A.units + 16 * k + 200 < cLine
theorem Room.mono {j k : Nat} {A : Around} (r : Room k A) (h : j ≤ k) : Room j A:=⟨r.hd,by have:=r.dp; omega,by have:=r.un; omega⟩
theorem Room.deeper {k : Nat} {A : Around} (r : Room (k + 1) A) (env : Env) : Room k (A.deeper env) :=
 ⟨r.hd,by have:=r.dp; show A.depth + 1 + 3 * k + 5 < _; omega,by have:=r.un; show A.units + 3 + 16 * k + 200 < _; omega⟩
theorem Room.depth {k : Nat} {A : Around} (r : Room k A) : A.depth < recursionLimit:=by have:=r.dp; omega
theorem Room.units {k : Nat} {A : Around} (r : Room k A) : A.units + 64 < cLine:=by have:=r.un; omega
def tNil : TA:=fun _ H Q=>Q [] H
def tCons (ta : TE) (tr : TA) : TA:=fun σ H Q=>ta σ H fun x H1=>tr σ H1 fun xs H2=>Q (x :: xs) H2
section
variable {X : Cx} {e : Expr} {es : List Expr} {te : TE} {t : TA} {pos : Pos}
theorem pa_nil : PA X [] tNil:=fun _ _ _ _ H Q I h=>Calls.spliced_nil ⟨[],H,I,.nil,h⟩
theorem pa_cons (ha : PE X e te) (hr : PA X es t) (hs : starEach (e :: es) X.env = (false,eval e X.env) :: starEach es X.env:=by rfl) : PA X (e :: es) (tCons te t):=by
 intro pos pins s σ H Q I h
 rw [hs]
 show wpAny _ _ (spliced ((false,eval e X.env) :: backTo pos (starEach es X.env))) _ _ s
 refine Calls.spliced_cons (thn (ha pins s σ H _ I h) fun u s1 ⟨x,H1,I1,r1,q1⟩=>?_)
 exact thn (hr pos pins s1 σ H1 _ I1 q1) fun us s2 ⟨xs,H2,I2,r2,q2⟩=>⟨x :: xs,H2,I2,.cons r1 r2,q2⟩
def tTup (t : TA) : TE:=fun σ H Q=>t σ H fun xs H1=>xs.length ≤ sizeLine ∧ ∀ p,H1 p = none → Q (.ref p) (upd H1 p (.tup xs))
def tLst (t : TA) : TE:=fun σ H Q=>t σ H fun xs H1=>xs.length ≤ sizeLine ∧ ∀ p,H1 p = none → Q (.ref p) (upd H1 p (.lst xs))
theorem pe_tup {x1} (h : PA X es t) : PE X (.Tuple es x1 pos) (tTup t):=by
 intro pins s σ H Q I hq
 refine wpAny_Tuple_spliced (thn (h pos pins s σ H _ I hq) fun us s1 ⟨xs,H1,I1,r,z,q⟩=>⟨by rw [← r.length]; exact z,?_⟩)
 have hf : H1 s1.heap.objs.size = none:=I1.hok.fresh (Nat.le_refl _)
 refine ⟨.ref s1.heap.objs.size,upd H1 s1.heap.objs.size (.tup xs),I1.laid (t':=s1.toks) (fun b u e=>Heap.get?_push_of_some _ e) (Nat.le_refl _) ?_,rfl,q _ hf⟩
 exact ⟨z,us,r,⟨_,Heap.get?_push_size _ rfl,rfl,_,rfl⟩⟩
theorem pe_lst (h : PA X es t) : PE X (.List es pos) (tLst t):=by
 intro pins s σ H Q I hq
 refine wpAny_List_spliced (thn (h pos pins s σ H _ I hq) fun us s1 ⟨xs,H1,I1,r,z,q⟩=>⟨by rw [← r.length]; exact z,?_⟩)
 have hf : H1 s1.heap.objs.size = none:=I1.hok.fresh (Nat.le_refl _)
 refine ⟨.ref s1.heap.objs.size,upd H1 s1.heap.objs.size (.lst xs),I1.laid (t':=s1.toks) (fun b u e=>Heap.get?_push_of_some _ e) (Nat.le_refl _) ?_,rfl,q _ hf⟩
 exact ⟨z,us,0,r,Heap.get?_push_size _ rfl⟩
end
abbrev Sp:=List V → Hp → VK → XK → Prop
abbrev CXT:=List Env → Hp → Shared → XK → Value → Shared → Prop
structure Env0 (P : Program) (w : World) (K : PySem.W.Frag) (mg : Str → Option Value) (base : Heap) (A : Around) (outer : List Env) (s : Shared) (H : Hp) : Prop where
 frames : A.frames = some outer
 mod : Mod K mg base
 bs : ∀ b o,base.get? b = some o → s.heap.get? b = some o ∧ H b = none
 bsz : base.objs.size ≤ s.heap.objs.size
 funs : s.heap.FunFrames base outer
 frf : ∀ b ∈ frs outer,H b = none
 hok : HOk P w H s.heap
 bare : AllBare s.gens
def CE (outer : List Env) (P : Program) (w : World) (H : Hp) (s : Shared) (Q : VK) (u : Value) (s' : Shared) : Prop :=
 ∃ v H',s'.os = s.os ∧ AllBare s'.gens ∧ Un (frs outer) [] H H' s.heap s'.heap ∧ HOk P w H' s'.heap ∧ RelV v u ∧ Q v H'
def CR (CX : CXT) (outer : List Env) (P : Program) (w : World) (H : Hp) (s : Shared) (Q : VK) (E : XK) (r : Result) (s' : Shared) : Prop :=
 match r with
 | .ok (.ret u)=>CE outer P w H s Q u s'
 | .ok _=>False
 | .error e=>CX outer H s E e s'
structure FnOk (P : Program) (w : World) (K : PySem.W.Frag) (mg : Str → Option Value) (base : Heap) (CX : CXT) (k : Nat) (f : Addr) (fd : FuncData) (ps : List Str) (sp : Sp) : Prop where
 len : ∀ vs H Q E,sp vs H Q E → vs.length = ps.length
 run : ∀ (A : Around) (outer : List Env) (s : Shared) (H : Hp) (args : Args) (us : List Value) (vs : List V) (Q : VK) (E : XK),Room k A → Env0 P w K mg base A outer s H → BindsTo s fd args (ps.zip us) → Vals vs us → sp vs H Q E →
  codeAny (model P w) A (.call (.ref f) args) (CR CX outer P w H s Q E) s
section
variable {X : Cx} {pins : List (Addr × Obj)} {σ : St} {H : Hp} {s s' : Shared}
theorem Inv.env0 (I : Inv X pins σ H s) : Env0 X.prog X.w X.K X.mg X.base X.A X.stack s H :=
 ⟨I.ok.frames,I.ok.mod,I.bs,Nat.le_trans I.ok.bsz I.sz,I.stack,I.stkFree,I.hok,I.bare⟩
theorem Inv.after {Q : VK} {u : Value} (I : Inv X pins σ H s) (h : CE X.stack X.prog X.w H s Q u s') : EP X pins σ Q u s':=by
 obtain ⟨v,H',os,bare,un,hok,r,q⟩:=h
 obtain ⟨hh,g,d,t,os'⟩:=s'
 obtain rfl : os' = s.os:=os
 exact ⟨v,H',I.call (h':=hh) (g':=g) (d':=d) (t':=t) (ch:=[]) un hok bare (fun b z=>absurd z (by simp)),r,q⟩
end
def tCall (sp : Sp) (dvs : List V) (E : XK) (t : TA) : TE:=fun σ H Q=>t σ H fun vs H1=>sp (vs ++ dvs) H1 Q E
def Binds (K : PySem.W.Frag) (fd : FuncData) (ps : List Str) (ds : List Value) : Prop :=
 ∀ (s : Shared) (us : List Value),K.In s.heap → (us ++ ds).length = ps.length → BindsTo s fd ⟨us,[]⟩ (ps.zip (us ++ ds))
theorem Binds.all {K : PySem.W.Frag} {fd : FuncData} {ps : List Str} (h : ∀ us : List Value,us.length = ps.length → bindArgs fd ⟨us,[]⟩ = pure (ps.zip us)) : Binds K fd ps []:=fun s us _ hl=>by
 rw [List.append_nil] at hl ⊢
 exact .of_eq (h us hl)
def Passes (CX : CXT) (X : Cx) (E : XK) : Prop:=∀ (pins : List (Addr × Obj)) (σ : St) (H : Hp) (s : Shared) (e : Value) (s' : Shared),Inv X pins σ H s → CX X.stack H s E e s' → X.xe e s'
section
variable {X : Cx} {CX : CXT} {k : Nat} {f C : Addr} {fd : FuncData} {ps : List Str} {sp : Sp} {dvs : List V} {ds : List Value} {E : XK} {x m : Str} {p pos apos : Pos} {e o : Expr} {es : List Expr} {ta : TE} {t : TA}
theorem run_fn {pins : List (Addr × Obj)} {σ : St} {H : Hp} {s : Shared} {Q : VK} {us : List Value} {vs : List V} (F : FnOk X.prog X.w X.K X.mg X.base CX k f fd ps sp) (hr : Room k X.A) (hb : Binds X.K fd ps ds) (hd : Vals dvs ds) (hx : Passes CX X E)
 (I : Inv X pins σ H s) (r : Vals vs us) (h : sp (vs ++ dvs) H Q E) : wpAny (model X.prog X.w) X.A (call (.ref f) us) (EP X pins σ Q) X.xe s:=by
 have r2 : Vals (vs ++ dvs) (us ++ ds):=r.append hd
 have hl : (us ++ ds).length = ps.length:=by rw [← r2.length]; exact F.len _ _ _ _ h
 refine wpAny_call (codeAny_mono (F.run X.A X.stack s H ⟨us,[]⟩ (us ++ ds) (vs ++ dvs) Q E hr I.env0 (hb s us I.kIn hl) r2 h) fun r s' hq=>?_)
 cases r with
 | error e=>exact hx pins σ H s e s' I hq
 | ok fl =>
  cases fl with
  | ret u=>exact I.after hq
  | next=>exact False.elim hq
  | brk=>exact False.elim hq
  | cont=>exact False.elim hq
theorem pe_call (F : FnOk X.prog X.w X.K X.mg X.base CX k f fd ps sp) (hr : Room k X.A) (hg : Gl X x) (hm : X.mg x = some (.ref f)) (hk : PySem.W.keepIn X.K (.ref f) = true) (hb : Binds X.K fd ps ds) (hd : Vals dvs ds) (hx : Passes CX X E)
 (ha : PA X (e :: es) t) (hdb : (x == ("__debug__" : Str)) = false:=by decide) (he : starEach (e :: es) X.env = (false,eval e X.env) :: starEach es X.env:=by rfl) (hpl : (backTo pos (starEach es X.env)).any (·.1) = false:=by rfl) :
 PE X (.Call (.Name x p) (e :: es) [] pos) (tCall sp dvs E t):=by
 intro pins s σ H Q I h
 refine wpAny_Call_Name_kw (ld_glob I hg hm ?_ hdb)
 refine PySem.W.callWith_K (h₀:=X.base) I.ok.mod.kin hk (thn (ha pos pins s σ H _ I h) fun us s1 ⟨vs,H1,I1,r,q⟩=>⟨I1.kIn,?_⟩) he hpl
 exact run_fn F hr hb hd hx I1 r q
end
section
variable {X : Cx} {CX : CXT} {k : Nat} {f C : Addr} {fd : FuncData} {ps ks : List Str} {sp : Sp} {E : XK} {x m : Str} {p pos apos kpos : Pos} {e o : Expr} {es : List Expr} {kws : List Keyword} {te ta : TE} {t tk : TA} {nm : Option Str}
variable {g : List Value → List Value → List Value} {gV : List V → List V → List V}
end
structure FnScope (N P : List Str) (sc : Scope) : Prop where
 kind : sc.kind = .function
 co : sc.isCoroutine = false
 gen : sc.isGenerator = false
 nd : N.Nodup
 pre : N.take P.length = P
 par : ∀ x ∈ P,sc.names.lookup x = some .local ∨ sc.names.lookup x = some .cell
 nofree : ∀ y ∈ sc.names,y.2 ≠ .free
theorem bindL_out {kindOf : Str → Option NameKind} {x : Str} : ∀ {binds : List (Str × Value)} {m : Str → Option Value},(∀ v,(x,v) ∉ binds) → bindL kindOf binds m x = m x
 | [],_,_=>rfl
 | (n,v) :: r,m,h=>by
  unfold bindL
  rw [bindL_out fun w hw=>h w (List.mem_cons_of_mem _ hw)]
  split
  · have : x ≠ n:=by rintro rfl; exact h v List.mem_cons_self
    simp [this]
  · rfl
theorem bindC_out {kindOf : Str → Option NameKind} {x : Str} : ∀ {binds : List (Str × Value)} {m : Str → Option Value},(∀ v,(x,v) ∉ binds) → bindC kindOf binds m x = m x
 | [],_,_=>rfl
 | (n,v) :: r,m,h=>by
  unfold bindC
  rw [bindC_out fun w hw=>h w (List.mem_cons_of_mem _ hw)]
  split
  · rfl
  · have : x ≠ n:=by rintro rfl; exact h v List.mem_cons_self
    simp [this]
theorem bindL_get {kindOf : Str → Option NameKind} {x : Str} {v : Value} : ∀ {P : List Str} {vs : List Value} {i : Nat} {m : Str → Option Value},P.Nodup → P[i]? = some x → vs[i]? = some v → kindOf x = some .local →
 bindL kindOf (P.zip vs) m x = some v
 | [],_,_,_,_,h,_,_=>by simp at h
 | _ :: _,[],_,_,_,_,h,_=>by simp at h
 | p :: P,w :: vs,0,m,nd,h1,h2,hk=>by
  simp at h1 h2; subst h1; subst h2
  show bindL kindOf ((p,w) :: P.zip vs) m p = _
  unfold bindL
  rw [bindL_out fun v hv=>(List.nodup_cons.mp nd).1 (List.of_mem_zip hv).1,if_pos hk]
  simp
 | p :: P,w :: vs,i + 1,m,nd,h1,h2,hk=>by
  show bindL kindOf ((p,w) :: P.zip vs) m x = _
  unfold bindL
  exact bindL_get (i:=i) (List.nodup_cons.mp nd).2 (by simpa using h1) (by simpa using h2) hk
theorem bindC_get {kindOf : Str → Option NameKind} {x : Str} {v : Value} : ∀ {P : List Str} {vs : List Value} {i : Nat} {m : Str → Option Value},P.Nodup → P[i]? = some x → vs[i]? = some v → kindOf x ≠ some .local →
 bindC kindOf (P.zip vs) m x = some v
 | [],_,_,_,_,h,_,_=>by simp at h
 | _ :: _,[],_,_,_,_,h,_=>by simp at h
 | p :: P,w :: vs,0,m,nd,h1,h2,hk=>by
  simp at h1 h2; subst h1; subst h2
  show bindC kindOf ((p,w) :: P.zip vs) m p = _
  unfold bindC
  rw [bindC_out fun v hv=>(List.nodup_cons.mp nd).1 (List.of_mem_zip hv).1,if_neg hk]
  simp
 | p :: P,w :: vs,i + 1,m,nd,h1,h2,hk=>by
  show bindC kindOf ((p,w) :: P.zip vs) m x = _
  unfold bindC
  exact bindC_get (i:=i) (List.nodup_cons.mp nd).2 (by simpa using h1) (by simpa using h2) hk
def start (N : List Str) (vs : List V) : St:=vs.map some ++ List.replicate (N.length - vs.length) none
def cxOf (CX : CXT) (P : Program) (w : World) (K : PySem.W.Frag) (mg : Str → Option Value) (base : Heap) (N : List Str) (qual : Str) (scope : Scope) (f : Addr) (cd : Value) (A : Around) (outer : List Env) (s : Shared) (H : Hp) (E : XK) : Cx where
 prog:=P
 w:=w
 K:=K
 mg:=mg
 base:=base
 A:=A.deeper (envOfC qual scope s.heap.objs.size f cd)
 N:=N
 s₀:=s
 H₀:=H
 env:=envOfC qual scope s.heap.objs.size f cd
 outer:=outer
 stack:=envOfC qual scope s.heap.objs.size f cd :: outer
 ex:=[]
 calm:=true
 fn:=fun _=>true
 pn:=[]
 xe:=fun e s'=>wpAny (model P w) (A.deeper (envOfC qual scope s.heap.objs.size f cd)) (leaving (envOfC qual scope s.heap.objs.size f cd) e) (fun _ s''=>CX outer H s E e s'') (fun e' s''=>CX outer H s E e' s'') s'
theorem cell_has {sc : Scope} {n : Nat} {x : Str} (h : sc.names.lookup x = some .cell) : ∃ c,(cellsFrom n sc.names []).lookup x = some c:=by
 have q:=PySem.W.cellsFrom_some sc.names n [] (.inl h)
 exact Option.isSome_iff_exists.mp q
theorem inv_start {CX : CXT} {P : Program} {w : World} {K : PySem.W.Frag} {mg : Str → Option Value} {base : Heap} {N ps : List Str} {qual : Str} {scope : Scope} {f : Addr} {cd : Value} {A : Around} {outer : List Env} {s s1 : Shared} {H : Hp} {E : XK} {us : List Value} {vs : List V}
 (S : FnScope N ps scope) (hd : A.handled = none) (e0 : Env0 P w K mg base A outer s H) (hl : vs.length = ps.length) (r : Vals vs us)
 (x : InCallC s s.heap.objs.size (bindL (envOfC qual scope s.heap.objs.size f cd).kindOf (ps.zip us) fun _=>none) (cellsFrom (s.heap.objs.size + 1) scope.names []) (bindC (envOfC qual scope s.heap.objs.size f cd).kindOf (ps.zip us) fun _=>none) s1) :
 Inv (cxOf CX P w K mg base N qual scope f cd A outer s H E) [] (start N vs) H s1:=by
 have hpl : ps.length ≤ N.length:=by have:=congrArg List.length S.pre; rw [List.length_take] at this; omega
 obtain ⟨h1,tk,rfl,hk⟩:=x.done
 have noA : ∀ b : Addr,b ∉ (cxOf CX P w K mg base N qual scope f cd A outer s H E).ex:=fun b z=>absurd (show b ∈ ([] : List Addr) from z) (by simp)
 refine ⟨⟨e0.mod,S.kind,rfl,rfl,Nat.le_refl _,fun y z c h1 h2=>?_,fun y hy=>?_,fun y c _ h=>?_,fun _=>hd,Around.frames_deeper e0.frames,.inr ⟨rfl,rfl⟩,fun b z=>absurd z (noA b),e0.bs,e0.bsz,fun b _ _=>noA b,fun b z=>absurd z (noA b),e0.funs,e0.frf⟩,
  rfl,e0.bare,Un.kept hk,⟨_,x.toInCall.ns,fun i y v h1 h2 h3=>?_⟩,fun y c h=>⟨_,x.cell y c h⟩,e0.hok.fresh (Nat.le_refl _),fun y c h=>?_,fun p hp=>absurd (show p ∈ ([] : List (Addr × Obj)) from hp) (by simp),e0.hok.kept hk,?_⟩
 · exact name_of_addr x.apart (PySem.mem_of_lookup h1) (PySem.mem_of_lookup h2)
 · have hy : scope.names.lookup y = some .cell ∨ scope.names.lookup y = some .free:=hy
   rcases hy with hy | hy
   · exact cell_has hy
   · exact absurd rfl (S.nofree _ (PySem.mem_of_lookup hy))
 · exact Nat.le_of_lt (x.above y c (PySem.mem_of_lookup h))
 · have hi : i < vs.length:=by
    unfold start at h2
    by_cases hi : i < vs.length
    · exact hi
    · rw [List.getElem?_append_right (by simpa using hi)] at h2
      rw [List.getElem?_replicate] at h2
      split at h2 <;> cases h2
   have ha : vs[i]? = some v:=by
    unfold start at h2
    rw [List.getElem?_append_left (by simpa using hi),List.getElem?_map] at h2
    cases e : vs[i]? with
    | none=>rw [e] at h2; cases h2
    | some a=>rw [e] at h2; cases h2; rfl
   obtain ⟨u,hu,rv⟩:=r.get ha
   have hp : ps[i]? = some y:=by
    rw [← S.pre,List.getElem?_take_of_lt (by omega)]; exact h1
   have ndP : ps.Nodup:=by rw [← S.pre]; exact S.nd.sublist (List.take_sublist _ _)
   refine ⟨u,rv,?_⟩
   rcases S.par y (List.mem_of_getElem? hp) with k | k
   · exact .inl ⟨k,bindL_get ndP hp hu k⟩
   · obtain ⟨c,e⟩:=cell_has (n:=s.heap.objs.size + 1) k
     refine .inr ⟨.inl k,c,e,?_⟩
     have q:=x.cell y c e
     rw [bindC_get ndP hp hu (by show scope.names.lookup y ≠ _; rw [k]; decide)] at q
     exact q
 · exact e0.hok.fresh (Nat.le_of_lt (x.above y c (PySem.mem_of_lookup h)))
 · unfold start
   show _ = N.length
   rw [List.length_append,List.length_map,List.length_replicate]
   omega
theorem fn_of {CX : CXT} {P : Program} {w : World} {K : PySem.W.Frag} {mg : Str → Option Value} {base : Heap} {k : Nat} {f : Addr} {name qual : Str} {params : Arguments} {body : List Stmt} {scope : Scope} {dV kV doc pm cdv ct oc : Value} {an od : Option Addr}
 {osl : Array (Option Value)} {N ps : List Str} {sp : Sp} (lk : K.lookup f = some ⟨oc,od,.func (PySem.W.fnOf name qual params body scope dV kV doc pm an cdv ct),osl⟩) (hcd : PySem.W.codeIn K cdv qual = true) (S : FnScope N ps scope)
 (len : ∀ vs H Q E,sp vs H Q E → vs.length = ps.length)
 (hbody : ∀ (A : Around) (outer : List Env) (s : Shared) (H : Hp) (vs : List V) (Q : VK) (E : XK),Room k (A.deeper (envOfC qual scope s.heap.objs.size f cdv)) → sp vs H Q E →
  ∃ t,PSs (cxOf CX P w K mg base N qual scope f cdv A outer s H E) body t ∧ t { nx:=fun _ H'=>Q .non H',rt:=Q } (start N vs) H) :
 FnOk P w K mg base CX (k + 1) f (PySem.W.fnOf name qual params body scope dV kV doc pm an cdv ct) ps sp:=by
 refine ⟨len,fun A outer s H args us vs Q E hr e0 hb r hsp=>?_⟩
 have hl:=len _ _ _ _ hsp
 have KX : K.In s.heap:=e0.mod.kin.keeps fun b o e=>(e0.bs b o e).1
 have lim : s.heap.NoLimit:=e0.mod.nolimit.keeps fun b o e=>(e0.bs b o e).1
 have hkind : ∀ y ∈ ps.zip us,scope.names.lookup y.1 = some .local ∨ (scope.names.lookup y.1 = some .cell ∧ ((cellsFrom (s.heap.objs.size + 1) scope.names []).lookup y.1).isSome = true):=fun ⟨n,v⟩ hy=>by
  rcases S.par n (List.of_mem_zip hy).1 with q | q
  · exact .inl q
  · exact .inr ⟨q,PySem.W.cellsFrom_some _ _ _ (.inl q)⟩
 refine codeAny_call_function hr.depth (KX _ _ lk) rfl S.co S.gen rfl (PySem.W.codeRec_of KX hcd) (hb _ _ _ _ ?_)
 refine wpAny_newFunctionEnv_cells S.kind hkind fun env he s1 x=>?_
 subst he
 refine ⟨lim.keeps x.toInCall.keep,codeAny_func ?_⟩
 obtain ⟨t,ht,hq⟩:=hbody A outer s H vs Q E (hr.deeper _) hsp
 have I : Inv (cxOf CX P w K mg base N qual scope f cdv A outer s H E) [] (start N vs) H s1:=inv_start S hr.hd e0 hl r x
 refine wpAny_mono (ht [] s1 (start N vs) H _ I hq) (fun fl s' hs=>?_) fun e s' hs=>hs
 have fin : ∀ {σ' : St} {H' : Hp} {v : V} {u : Value},Inv (cxOf CX P w K mg base N qual scope f cdv A outer s H E) [] σ' H' s' → RelV v u → Q v H' → CE outer P w H s Q u s' :=
  fun {σ' H' v u} J rv q=>⟨v,H',J.os,J.bare,J.base,J.hok,rv,q⟩
 cases fl with
 | ret u =>
  obtain ⟨v,σ',H',J,rv,q⟩:=hs
  exact fin J rv q
 | next =>
  obtain ⟨σ',H',J,q⟩:=hs
  exact fin (v:=V.non) (u:=Value.none) J rfl q
 | brk =>
  obtain ⟨_,_,_,q⟩:=hs
  exact False.elim q
 | cont =>
  obtain ⟨_,_,_,q⟩:=hs
  exact False.elim q
end L2
namespace L2
open PySem PySem.Spec PyProof.Rows
section
variable {X : Cx} {x : Str} {p pos : Pos} {e : Expr} {es : List Expr} {t : TA} {id T : String} {r : List V → Hp → VK → Prop}
def tCB (r : List V → Hp → VK → Prop) (t : TA) : TE:=fun σ H Q=>t σ H fun vs H1=>r vs H1 Q
theorem pe_callB (hc : CallR X (.builtin id) r) (hg : Gl X x) (hm : X.mg x = none) (hv : bootBuiltins x = some (.builtin id)) (ha : PA X (e :: es) t) (hn : x ≠ "__name__":=by decide) (hdb : (x == ("__debug__" : Str)) = false:=by decide)
 (he : starEach (e :: es) X.env = (false,eval e X.env) :: starEach es X.env:=by rfl) (hpl : (backTo pos (starEach es X.env)).any (·.1) = false:=by rfl) : PE X (.Call (.Name x p) (e :: es) [] pos) (tCB r t):=by
 intro pins s σ H Q I h
 refine wpAny_Call_Name_kw (ld_blt I hg hm hv ?_ hn hdb)
 exact PyProof.Rows.callWith_builtin1 (thn (ha pos pins s σ H _ I h) fun us s1 ⟨vs,H1,I1,r1,q1⟩=>hc pins s1 σ H1 vs us Q I1 r1 q1) he hpl
theorem pe_callTy (hc : CallR X (.type T) r) (hg : Gl X x) (hm : X.mg x = none) (hv : bootBuiltins x = some (.type T)) (ha : PA X (e :: es) t) (hn : x ≠ "__name__":=by decide) (hdb : (x == ("__debug__" : Str)) = false:=by decide)
 (he : starEach (e :: es) X.env = (false,eval e X.env) :: starEach es X.env:=by rfl) (hpl : (backTo pos (starEach es X.env)).any (·.1) = false:=by rfl) : PE X (.Call (.Name x p) (e :: es) [] pos) (tCB r t):=by
 intro pins s σ H Q I h
 refine wpAny_Call_Name_kw (ld_blt I hg hm hv ?_ hn hdb)
 exact PyProof.Rows.callWith_type1 (thn (ha pos pins s σ H _ I h) fun us s1 ⟨vs,H1,I1,r1,q1⟩=>hc pins s1 σ H1 vs us Q I1 r1 q1) he hpl
end
end L2
namespace L2
open PySem PySem.Spec PyProof.Rows
section
variable {κ : Type} [DecidableEq κ]
def valV (kvs : List (κ × V)) (k : κ) : Option V:=(kvs.find? fun kv=>decide (kv.1 = k)).map (·.2)
def putK (kvs : List (κ × V)) (k : κ) (v : V) : List (κ × V) :=
 if (kvs.any fun kv=>decide (kv.1 = k)) = true then kvs.map (fun kv=>if kv.1 = k then (kv.1,v) else kv) else kvs ++ [(k,v)]
theorem valV_pos {p : κ × V} {r : List (κ × V)} {k : κ} (e : p.1 = k) : valV (p :: r) k = some p.2:=by simp [valV,List.find?_cons,e]
theorem valV_neg {p : κ × V} {r : List (κ × V)} {k : κ} (e : ¬ p.1 = k) : valV (p :: r) k = valV r k:=by simp [valV,List.find?_cons,e]
theorem valV_any (k : κ) : ∀ kvs : List (κ × V),(kvs.any fun kv=>decide (kv.1 = k)) = (valV kvs k).isSome
 | []=>rfl
 | p :: r=>by
  rw [List.any_cons]
  by_cases e : p.1 = k
  · simp only [valV_pos e,decide_eq_true e,Bool.true_or,Option.isSome_some]
  · rw [valV_neg e,decide_eq_false e,Bool.false_or]; exact valV_any k r
theorem length_putK (kvs : List (κ × V)) (k : κ) (v : V) : (putK kvs k v).length ≤ kvs.length + 1:=by
 unfold putK
 split
 · rw [List.length_map]; omega
 · rw [List.length_append,List.length_cons,List.length_nil]; omega
theorem putK_new {kvs : List (κ × V)} {k : κ} (v : V) (h : valV kvs k = none) : putK kvs k v = kvs ++ [(k,v)]:=by
 unfold putK
 rw [valV_any,h]
 exact if_neg (by decide)
theorem RelO.isSome_eq {o : Option V} {u : Option Value} (r : RelO o u) : o.isSome = u.isSome:=by
 cases o with
 | none=>cases u with
  | none=>rfl
  | some _=>exact (show False from r).elim
 | some _=>cases u with
  | none=>exact (show False from r).elim
  | some _=>rfl
theorem RelO.getD {o : Option V} {u : Option Value} {d : V} {d' : Value} (r : RelO o u) (rd : RelV d d') : RelV (o.getD d) (u.getD d'):=by
 cases o with
 | none=>cases u with
  | none=>exact rd
  | some _=>exact (show False from r).elim
 | some _=>cases u with
  | none=>exact (show False from r).elim
  | some _=>exact r
theorem KV.val {kvs : List (κ × V)} {vs : List (κ × Value)} (r : KV kvs vs) (k : κ) : RelO (valV kvs k) (valueAt vs k):=by
 unfold KV at r
 induction r with
 | nil=>exact True.intro
 | @cons p q ps qs h t ih =>
  obtain ⟨h1,h2⟩:=h
  by_cases e : p.1 = k
  · have e' : q.1 = k:=h1.symm.trans e
    have b : valueAt (q :: qs) k = some q.2:=by simp [valueAt,List.find?_cons,e']
    rw [valV_pos e,b]; exact h2
  · have e' : ¬ q.1 = k:=fun z=>e (h1.trans z)
    have b : valueAt (q :: qs) k = valueAt qs k:=by simp [valueAt,List.find?_cons,e']
    rw [valV_neg e,b]; exact ih
theorem KV.any {kvs : List (κ × V)} {vs : List (κ × Value)} (r : KV kvs vs) (k : κ) : (kvs.any fun kv=>decide (kv.1 = k)) = vs.any fun kv=>decide (kv.1 = k):=by
 unfold KV at r
 induction r with
 | nil=>rfl
 | cons h t ih=>rw [List.any_cons,List.any_cons,ih,h.1]
theorem KV.repl {kvs : List (κ × V)} {vs : List (κ × Value)} (r : KV kvs vs) (k : κ) {y : V} {u : Value} (ry : RelV y u) :
 KV (kvs.map fun kv=>if kv.1 = k then (kv.1,y) else kv) (vs.map fun kv=>if kv.1 = k then (kv.1,u) else kv):=by
 unfold KV at r ⊢
 induction r with
 | nil=>exact .nil
 | @cons p q ps qs h t ih =>
  rw [List.map_cons,List.map_cons]
  refine .cons ?_ ih
  obtain ⟨h1,h2⟩:=h
  by_cases e : p.1 = k
  · rw [if_pos e,if_pos (h1.symm.trans e)]; exact ⟨h1,ry⟩
  · rw [if_neg e,if_neg (fun z=>e (h1.trans z))]; exact ⟨h1,h2⟩
theorem KV.put {kvs : List (κ × V)} {vs : List (κ × Value)} (r : KV kvs vs) (k : κ) {y : V} {u : Value} (ry : RelV y u) : KV (putK kvs k y) (stored vs k u):=by
 unfold putK stored
 rw [r.any k]
 by_cases e : (vs.any fun kv=>decide (kv.1 = k)) = true
 · rw [if_pos e,if_pos e]; exact r.repl k ry
 · rw [if_neg e,if_neg e]; exact Paired.snoc r ⟨rfl,ry⟩
theorem KV.length {kvs : List (κ × V)} {vs : List (κ × Value)} (r : KV kvs vs) : kvs.length = vs.length:=Paired.length r
end
theorem kV_is {P : Program} {w : World} {k : Key} {u : Value} (r : RelV (kV k) u) : (mixKind P w).is k u = true:=by
 cases k with
 | inl i=>obtain ⟨t,e⟩:=(show ∃ t,u = Value.int i t from r); subst e; exact mixKind_int P w i t
 | inr x=>obtain ⟨t,e⟩:=(show ∃ t,u = Value.str x t from r); subst e; exact mixKind_str P w x t
theorem items_are {P : Program} {w : World} : ∀ {ks : List Key} {us : List Value},Vals (ks.map kV) us → ItemsAre (mixKind P w) ks us
 | [],_,r=>by rw [List.map_nil] at r; cases r; exact .nil
 | k :: ks,_,r=>by
  rw [List.map_cons] at r
  cases r with
  | cons h t=>exact .cons (kV_is h) (items_are t)
abbrev KT (H : Hp) : List (List Key × V) → List (List Key × Addr × Value) → Prop:=Paired fun p q=>p.1 = q.1 ∧ H q.2.1 = some (.tup (p.1.map kV)) ∧ RelV p.2 q.2.2
theorem KT.val {H : Hp} {kvs : List (List Key × V)} {xs : List (List Key × Addr × Value)} (r : KT H kvs xs) (k : List Key) : RelO (valV kvs k) ((atKey xs k).map (·.2)):=by
 induction r with
 | nil=>exact True.intro
 | @cons p q ps qs h t ih =>
  obtain ⟨h1,_,h2⟩:=h
  by_cases e : p.1 = k
  · have e' : q.1 = k:=h1.symm.trans e
    have b : atKey (q :: qs) k = some q.2:=by simp [atKey,List.find?_cons,e']
    rw [valV_pos e,b]; exact h2
  · have e' : ¬ q.1 = k:=fun z=>e (h1.trans z)
    have b : atKey (q :: qs) k = atKey qs k:=by simp [atKey,List.find?_cons,e']
    rw [valV_neg e,b]; exact ih
theorem KT.repl {H : Hp} {kvs : List (List Key × V)} {xs : List (List Key × Addr × Value)} (r : KT H kvs xs) (k : List Key) {y : V} {u : Value} (ry : RelV y u) :
 KT H (kvs.map fun kv=>if kv.1 = k then (kv.1,y) else kv) (xs.map (putAt k u)):=by
 induction r with
 | nil=>exact .nil
 | @cons p q ps qs h t ih =>
  rw [List.map_cons,List.map_cons]
  refine .cons ?_ ih
  obtain ⟨h1,h2,h3⟩:=h
  unfold putAt
  by_cases e : p.1 = k
  · rw [if_pos e,if_pos (h1.symm.trans e)]; exact ⟨h1,h2,ry⟩
  · rw [if_neg e,if_neg (fun z=>e (h1.trans z))]; exact ⟨h1,h2,h3⟩
theorem KT.put {H : Hp} {kvs : List (List Key × V)} {xs : List (List Key × Addr × Value)} (r : KT H kvs xs) (k : List Key) {b : Addr} {y : V} {u : Value} (hb : H b = some (.tup (k.map kV))) (ry : RelV y u) :
 KT H (putK kvs k y) (storedH xs k b u):=by
 have e : (kvs.any fun kv=>decide (kv.1 = k)) = (atKey xs k).isSome:=by
  rw [valV_any,(r.val k).isSome_eq,Option.isSome_map]
 unfold putK storedH
 rw [e]
 by_cases q : (atKey xs k).isSome = true
 · rw [if_pos q,if_pos q]; exact r.repl k ry
 · rw [if_neg q,if_neg q]; exact Paired.snoc r ⟨rfl,hb,ry⟩
theorem KT.keeps {H H' : Hp} {kvs : List (List Key × V)} {xs : List (List Key × Addr × Value)} (r : KT H kvs xs) (ht : ∀ b ys,H b = some (.tup ys) → H' b = some (.tup ys)) : KT H' kvs xs :=
 Paired.mapP r fun _ _ z=>⟨z.1,ht _ _ z.2.1,z.2.2⟩
section
variable {P : Program} {w : World} {H : Hp} {h : Heap} {a : Addr}
theorem rd_of {u : HO} (ok : HOk P w H h) (e : Rd H a u) : ObjOk P w H h a u:=e.ok ok
theorem dk_rd {kvs : List (Key × V)} (ok : HOk P w H h) (e : Rd H a (.dK kvs)) : kvs.length ≤ sizeLine ∧ (a == sysModules) = false ∧ ∃ vs,KV kvs vs ∧ h.DictOf (mixKind P w) a vs :=
 show ObjOk P w H h a (.dK kvs) from rd_of ok e
theorem dk_of {kvs : List (Key × V)} (ok : HOk P w H h) (e : H a = some (.dK kvs)) : kvs.length ≤ sizeLine ∧ (a == sysModules) = false ∧ ∃ vs,KV kvs vs ∧ h.DictOf (mixKind P w) a vs:=dk_rd ok (.inl e)
theorem key_of {ks : List Key} (ok : HOk P w H h) (e : H a = some (.tup (ks.map kV))) : (tupleKind (mixKind P w)).is h ks a:=by
 obtain ⟨_,its,r,o,h1,h2,n,h3⟩:=(show ObjOk P w H h a (.tup (ks.map kV)) from ok a _ e)
 exact ⟨o,its.toArray,n,h1,h2,h3,by simpa using items_are r⟩
theorem dt_rd {kvs : List (List Key × V)} (ok : HOk P w H h) (e : Rd H a (.dT kvs)) : kvs.length ≤ sizeLine ∧ (a == sysModules) = false ∧
 ∃ xs,KT H kvs xs ∧ h.DictOfH (tupleKind (mixKind P w)) a xs:=by
 obtain ⟨z,y,xs,r,o,es,ep,h1,h2,h3,h4,h5⟩:=(show ObjOk P w H h a (.dT kvs) from rd_of ok e)
 refine ⟨z,y,xs,r,o,es,ep,h1,h2,h3,h4,fun x hx=>?_,h5⟩
 have all : ∀ {l : List (List Key × V)} {m : List (List Key × Addr × Value)},KT H l m → ∀ x ∈ m,(tupleKind (mixKind P w)).is h x.1 x.2.1:=by
  intro l m q
  induction q with
  | nil=>intro x hx; exact nomatch hx
  | @cons p q ps qs hq t ih =>
   intro x hx
   rcases List.mem_cons.mp hx with e | hx
   · subst e
     exact key_of ok (by rw [← hq.1]; exact hq.2.1)
   · exact ih x hx
 exact all r x hx
theorem dt_of {kvs : List (List Key × V)} (ok : HOk P w H h) (e : H a = some (.dT kvs)) : kvs.length ≤ sizeLine ∧ (a == sysModules) = false ∧
 ∃ xs,KT H kvs xs ∧ h.DictOfH (tupleKind (mixKind P w)) a xs:=dt_rd ok (.inl e)
end
def DGet (H : Hp) (a : Addr) (y : V) (r : Option V) : Prop :=
 (∃ kvs k,Rd H a (.dK kvs) ∧ y = kV k ∧ r = valV kvs k) ∨ ∃ kvs k b,Rd H a (.dT kvs) ∧ y = .ref b ∧ H b = some (.tup (k.map kV)) ∧ r = valV kvs k
def DPut (H : Hp) (a : Addr) (y v : V) (H' : Hp) : Prop :=
 (∃ kvs k,H a = some (.dK kvs) ∧ y = kV k ∧ kvs.length < sizeLine ∧ H' = upd H a (.dK (putK kvs k v))) ∨
 ∃ kvs k b,H a = some (.dT kvs) ∧ y = .ref b ∧ H b = some (.tup (k.map kV)) ∧ kvs.length < sizeLine ∧ H' = upd H a (.dT (putK kvs k v))
theorem DGet.k {H : Hp} {a : Addr} {kvs : List (Key × V)} {k : Key} (e : H a = some (.dK kvs)) : DGet H a (kV k) (valV kvs k):=.inl ⟨kvs,k,.inl e,rfl,rfl⟩
theorem DGet.t {H : Hp} {a b : Addr} {kvs : List (List Key × V)} {k : List Key} (e : H a = some (.dT kvs)) (eb : H b = some (.tup (k.map kV))) : DGet H a (.ref b) (valV kvs k):=.inr ⟨kvs,k,b,.inl e,rfl,eb,rfl⟩
theorem DPut.k {H : Hp} {a : Addr} {kvs : List (Key × V)} {k : Key} {v : V} (e : H a = some (.dK kvs)) (hl : kvs.length < sizeLine) : DPut H a (kV k) v (upd H a (.dK (putK kvs k v))):=.inl ⟨kvs,k,e,rfl,hl,rfl⟩
theorem DPut.t {H : Hp} {a b : Addr} {kvs : List (List Key × V)} {k : List Key} {v : V} (e : H a = some (.dT kvs)) (eb : H b = some (.tup (k.map kV))) (hl : kvs.length < sizeLine) :
 DPut H a (.ref b) v (upd H a (.dT (putK kvs k v))):=.inr ⟨kvs,k,b,e,rfl,eb,hl,rfl⟩
section
variable {X : Cx} {pins : List (Addr × Obj)} {σ : St} {H : Hp} {s : Shared} {a : Addr} {y v : V} {u r : Value} {o : Option V} {A : Around} {E : Value → Shared → Prop}
theorem Inv.big (I : Inv X pins σ H s) : sysModules < s.heap.objs.size:=by
 have h : mainGlobals < s.heap.objs.size:=(I.mod.glob.keeps I.bk).lt
 exact Nat.lt_trans (by decide) h
theorem d_getItem {Q : Value → Shared → Prop} (hu : A.units + 1 < cLine) (I : Inv X pins σ H s) (g : DGet H a y (some v)) (ry : RelV y u) (h : ∀ w' s',Inv X pins σ H s' → RelV v w' → Q w' s') :
 wpAny (model X.prog X.w) A (getItem (.ref a) u) Q E s:=by
 rcases g with ⟨kvs,k,e,ey,l⟩ | ⟨kvs,k,b,e,ey,eb,l⟩
 · subst ey
   obtain ⟨z,hd,vs,rel,dd⟩:=dk_rd I.hok e
   obtain ⟨w',hw,rw'⟩:=RelO.some_of (v:=v) (o:=valueAt vs k) (by rw [l]; exact rel.val k)
   exact wpAny_getItem_of (kV_is ry) dd.mapOf hw (h w' _ (I.tok _) rw')
 · subst ey
   cases (show u = Value.ref b from ry)
   obtain ⟨z,hd,xs,rel,dd⟩:=dt_rd I.hok e
   obtain ⟨w',hw,rw'⟩:=RelO.some_of (v:=v) (o:=(atKey xs k).map (·.2)) (by rw [l]; exact rel.val k)
   obtain ⟨p,hp,hp2⟩:=Option.map_eq_some_iff.mp hw
   refine wpAny_getItem_heap (tupleKind_room_in1 hu) (key_of I.hok eb) dd hp ?_
   rw [hp2]
   exact h w' _ (I.tok _) rw'
theorem d_notIn {Q : Value → Shared → Prop} (hu : A.units + 1 < cLine) (I : Inv X pins σ H s) (g : DGet H a y o) (ry : RelV y u) (h : ∀ s',Inv X pins σ H s' → Q (.bool (!o.isSome)) s') :
 wpAny (model X.prog X.w) A (compareOp .NotIn u (.ref a)) Q E s:=by
 rcases g with ⟨kvs,k,e,ey,l⟩ | ⟨kvs,k,b,e,ey,eb,l⟩
 · subst ey
   obtain ⟨z,hd,vs,rel,dd⟩:=dk_rd I.hok e
   refine wpAny_notIn_of (kV_is ry) hd dd.mapOf ?_
   rw [← (rel.val k).isSome_eq,← l]
   exact h _ (I.tok _)
 · subst ey
   cases (show u = Value.ref b from ry)
   obtain ⟨z,hd,xs,rel,dd⟩:=dt_rd I.hok e
   refine wpAny_notIn_heap (tupleKind_room_in1 hu) (key_of I.hok eb) hd dd ?_
   have q:=(rel.val k).isSome_eq
   rw [Option.isSome_map] at q
   rw [← q,← l]
   exact h _ (I.tok _)
theorem d_write {h' : Heap} {t' : Nat} {ob : HO} (I : Inv X pins σ H s) (mu : Mut (H a)) (hs : Heap.SameBut a s.heap h') (he : ∃ q,h'.get? a = some q) (new : ObjOk X.prog X.w (upd H a ob) h' a ob) :
 Inv X pins σ (upd H a ob) { s with heap:=h',toks:=t' } :=
 I.write (x:=a) (e:=a) mu (.inl rfl) (fun b q hb z=>(hs.2 b hb).trans z) he new
theorem dk_new {P : Program} {w : World} {H' : Hp} {h' : Heap} {kvs : List (Key × V)} {vs : List (Key × Value)} (z : kvs.length ≤ sizeLine) (hd : (a == sysModules) = false) (rel : KV kvs vs) (dd : h'.DictOf (mixKind P w) a vs) :
 ObjOk P w H' h' a (.dK kvs):=⟨z,hd,vs,rel,dd⟩
theorem d_setItem {H' : Hp} {Q : Unit → Shared → Prop} (hu : A.units + 1 < cLine) (I : Inv X pins σ H s) (g : DPut H a y v H') (ry : RelV y u) (rv : RelV v r) (h : ∀ s',Inv X pins σ H' s' → Q () s') :
 wpAny (model X.prog X.w) A (setItem (.ref a) u r) Q E s:=by
 rcases g with ⟨kvs,k,e,ey,l,eH⟩ | ⟨kvs,k,b,e,ey,eb,l,eH⟩
 · subst ey eH
   obtain ⟨z,hd,vs,rel,dd⟩:=dk_of I.hok e
   have hz : vs.length ≤ sizeLine:=by rw [← rel.length]; exact z
   have hl : (putK kvs k v).length ≤ sizeLine:=by have:=length_putK kvs k v; omega
   refine wpAny_setItem_pairs (hsz:=hz) (kV_is ry) dd fun h' dd' hs=>h _ ?_
   have he : ∃ q,h'.get? a = some q:=let ⟨q,_,_,hq,_⟩:=dd'; ⟨q,hq⟩
   exact d_write I (by rw [e]; exact True.intro) hs he (dk_new hl hd (rel.put k rv) dd')
 · subst ey eH
   cases (show u = Value.ref b from ry)
   obtain ⟨z,hd,xs,rel,dd⟩:=dt_of I.hok e
   have hz : xs.length ≤ sizeLine:=by rw [← Paired.length rel]; exact z
   have hl : (putK kvs k v).length ≤ sizeLine:=by have:=length_putK kvs k v; omega
   refine wpAny_setItem_heap (hsz:=hz) (tupleKind_room_in1 hu) (key_of I.hok eb) dd fun h' dd' hs=>h _ ?_
   obtain ⟨q,es,ep,hq,h2,h3,h4,_,h5⟩:=dd'
   refine d_write I (by rw [e]; exact True.intro) hs ⟨q,hq⟩ ⟨hl,hd,_,(rel.put k eb rv).keeps fun c ys ec=>?_,q,es,ep,hq,h2,h3,h4,h5⟩
   rw [upd_ne (ne_of ec e (fun z=>nomatch z))]
   exact ec
end
section
variable {X : Cx} {pins : List (Addr × Obj)} {σ : St} {H : Hp} {s : Shared} {a : Addr} {kvs : List (Key × V)} {k : Key} {u : Value} {A : Around} {E : Value → Shared → Prop}
end
def NoSl (i : Expr) : Prop:=∀ ov iv,subscripted i false ov iv = operate [ov,iv] (getItem ov iv)
theorem subD_of {prog : Program} {w : World} {A : Around} {E : Value → Shared → Prop} {s : Shared} {env : Env} {value slice : Expr} {pos : Pos} {T id : String} {Q : Value → Shared → Prop}
 (hl : typeLookup (.type T) "__getitem__" = pure (some (.builtin id))) (hs : NoSl slice)
 (h : wpAny (model prog w) A (eval value env) (fun o s₁=>wpAny (model prog w) A (eval slice env) (fun i s₂=>s₂.TypeIs o T ∧ wpAny (model prog w) A (getItem o i) Q E s₂) E s₁) E s) :
 wpAny (model prog w) A (eval (.Subscript value slice pos) env) Q E s:=by
 refine Subscript_ (wpAny_mono h (fun o s₁ h₁=>wpAny_mono h₁ (fun i s₂ h₂=>?_) fun _ _ x=>x) fun _ _ x=>x)
 obtain ⟨hT,h₂⟩:=h₂
 unfold subscriptTail
 refine wpAny_bind ?_
 rw [getitemInPython_of_ne hT.not_modules]
 refine wpAny_bind (wpAny_specialOf hT hl ?_)
 have fin : wpAny (model prog w) A (subscripted slice false o i) (fun r s₃=>wpAny (model prog w) A (letTemporaryGo value o r >>= fun _=>pure r) Q E s₃) E s₂:=by
  rw [hs o i]
  exact wpAny_operating (wpAny_mono h₂ (fun r s₃ h₃=>wpAny_bind (wpAny_letTemporaryGo (wpAny_pure h₃))) fun _ _ x=>x)
 first
  | exact wpAny_pure (wpAny_bind fin)
  | exact wpAny_bind (wpAny_pure (wpAny_bind fin))
  | exact wpAny_bind fin
theorem dict_typeIs {X : Cx} {pins : List (Addr × Obj)} {σ : St} {H : Hp} {s : Shared} {a : Addr} {y : V} {o : Option V} (I : Inv X pins σ H s) (g : DGet H a y o) : s.TypeIs (.ref a) "dict":=by
 rcases g with ⟨kvs,k,e,_,_⟩ | ⟨kvs,k,b,e,_,_,_⟩
 · obtain ⟨_,_,vs,_,dd⟩:=dk_rd I.hok e
   exact dd.typeIs
 · obtain ⟨_,_,xs,_,dd⟩:=dt_rd I.hok e
   exact dd.typeIs
def tDGet (td ty : TE) : TE:=fun σ H Q=>td σ H fun x H1=>ty σ H1 fun y H2=>∃ a v,x = .ref a ∧ DGet H2 a y (some v) ∧ Q v H2
def tDNotIn (ty td : TE) : TE:=fun σ H Q=>ty σ H fun y H1=>td σ H1 fun x H2=>∃ a o,x = .ref a ∧ DGet H2 a y o ∧ Q (.bl (!o.isSome)) H2
def sDPut (td ty tv : TE) : TS:=fun D σ H=>tv σ H fun v H1=>td σ H1 fun x H2=>ty σ H2 fun y H3=>∃ a H4,x = .ref a ∧ DPut H3 a y v H4 ∧ D.nx σ H4
section
variable {X : Cx} {o i e value : Expr} {pos pos' tpos : Pos} {td ty tv : TE}
theorem pe_dget (hu : X.A.units + 1 < cLine) (ho : PE X o td) (hi : PE X i ty) (hs : NoSl i) : PE X (.Subscript o i pos) (tDGet td ty):=by
 intro pins s σ H Q I h
 refine subD_of PySem.F.slot_dict_getitem.lookup hs (thn (ho pins s σ H _ I h) fun u s1 ⟨x,H1,I1,rx,q1⟩=>thn (hi pins s1 σ H1 _ I1 q1) fun iv s2 ⟨y,H2,I2,ry,a,v,ex,g,q2⟩=>?_)
 subst ex
 obtain rfl : u = Value.ref a:=rx
 exact ⟨dict_typeIs I2 g,d_getItem hu I2 g ry fun w' s3 I3 rw'=>⟨v,H2,I3,rw',q2⟩⟩
theorem pc_dnotin (hu : X.A.units + 1 < cLine) (hi : PE X i ty) (ho : PE X o td) : PC X .NotIn i o (tDNotIn ty td):=by
 intro pins s σ H Q I h
 refine thn (hi pins s σ H _ I h) fun iv s1 ⟨y,H1,I1,ry,q1⟩=>thn (ho pins s1 σ H1 _ I1 q1) fun u s2 ⟨x,H2,I2,rx,a,ov,ex,g,q2⟩=>?_
 subst ex
 obtain rfl : u = Value.ref a:=rx
 exact d_notIn hu I2 g ry fun s3 I3=>⟨.bl (!ov.isSome),H2,I3,rfl,q2⟩
theorem ps_dput (hu : X.A.units + 1 < cLine) (ho : PE X o td) (hi : PE X i ty) (hv : PE X value tv) (hs : swapsWith value (some (.Subscript o i pos')) pos.line X.env = pure false) :
 PS X (.Assign [.Subscript o i pos'] value pos) (sDPut td ty tv):=by
 intro pins s σ H D I h
 refine wpAny_Assign_Subscript (thn (hv pins s σ H _ I h) fun r s1 ⟨v,H1,I1,rv,q1⟩=>thn (ho pins s1 σ H1 _ I1 q1) fun u s2 ⟨x,H2,I2,rx,q2⟩=>thn (hi pins s2 σ H2 _ I2 q2) fun iv s3 ⟨y,H3,I3,ry,a,H4,ex,g,q3⟩=>?_) hs
 subst ex
 obtain rfl : u = Value.ref a:=rx
 exact d_setItem hu I3 g ry rv fun s4 I4=>⟨σ,H4,I4,q3⟩
end
theorem dk_empty {P : Program} {w : World} {H : Hp} (h : Heap) (hb : sysModules < h.objs.size) : ObjOk P w H (h.push { cls:=.type "dict",data:=.dict #[] }) h.objs.size (.dK []) :=
 ⟨Nat.zero_le _,beq_eq_false_iff_ne.mpr (Ne.symm (Nat.ne_of_lt hb)),[],.nil,Heap.DictOf.new h⟩
theorem dt_empty {P : Program} {w : World} {H : Hp} (h : Heap) (hb : sysModules < h.objs.size) : ObjOk P w H (h.push { cls:=.type "dict",data:=.dict #[] }) h.objs.size (.dT []) :=
 ⟨Nat.zero_le _,beq_eq_false_iff_ne.mpr (Ne.symm (Nat.ne_of_lt hb)),[],.nil,_,#[],0,Heap.get?_push_size _ rfl,⟨rfl,rfl,rfl⟩,rfl,rfl,List.nodup_nil⟩
def tDNewK : TE:=fun _ H Q=>∀ p,H p = none → Q (.ref p) (upd H p (.dK []))
def tDNewT : TE:=fun _ H Q=>∀ p,H p = none → Q (.ref p) (upd H p (.dT []))
section
variable {X : Cx} {pos : Pos}
theorem pe_dnewK : PE X (.Dict [] [] pos) tDNewK:=fun pins s σ H Q I h =>
 wpAny_Dict_empty ⟨.ref s.heap.objs.size,_,I.laid (a:=s.heap.objs.size) (o:=.dK []) (t':=s.toks) (fun _ _ q=>Heap.get?_push_of_some _ q) (Nat.le_refl _) (dk_empty s.heap I.big),rfl,h _ (I.hok.fresh (Nat.le_refl _))⟩
theorem pe_dnewT : PE X (.Dict [] [] pos) tDNewT:=fun pins s σ H Q I h =>
 wpAny_Dict_empty ⟨.ref s.heap.objs.size,_,I.laid (a:=s.heap.objs.size) (o:=.dT []) (t':=s.toks) (fun _ _ q=>Heap.get?_push_of_some _ q) (Nat.le_refl _) (dt_empty s.heap I.big),rfl,h _ (I.hok.fresh (Nat.le_refl _))⟩
end
def tPairs : List (TE × TE) → St → Hp → (List (V × V) → Hp → Prop) → Prop
 | [],_,H,Q=>Q [] H
 | (tk,tv) :: r,σ,H,Q=>tk σ H fun x H1=>tv σ H1 fun y H2=>tPairs r σ H2 fun ps H3=>Q ((x,y) :: ps) H3
abbrev VV : List (V × V) → List (Value × Value) → Prop:=Paired fun p q=>RelV p.1 q.1 ∧ RelV p.2 q.2
def PPs (X : Cx) (pos : Pos) (keys : List (Option Expr)) (values : List Expr) (trs : List (TE × TE)) : Prop :=
 ∀ (pins : List (Addr × Obj)) (s : Shared) (σ : St) (H : Hp) (Q : List (V × V) → Hp → Prop),Inv X pins σ H s → tPairs trs σ H Q →
  wpAny (model X.prog X.w) X.A (evalPairs (pairTrees keys values X.env pos)) (fun vs s'=>∃ ps H',Inv X pins σ H' s' ∧ VV ps vs ∧ Q ps H') X.xe s
theorem pps_nil {X : Cx} {pos : Pos} : PPs X pos [] [] []:=fun pins s σ H Q I h=>pairTrees_nil_walk ⟨[],H,I,.nil,h⟩
theorem pps_cons {X : Cx} {pos : Pos} {k v : Expr} {ks : List (Option Expr)} {vs : List Expr} {tk tv : TE} {trs : List (TE × TE)} (hk : PE X k tk) (hv : PE X v tv) (hr : PPs X pos ks vs trs) :
 PPs X pos (some k :: ks) (v :: vs) ((tk,tv) :: trs):=fun pins s σ H Q I h =>
 pairTrees_cons_walk (thn (hk pins s σ H _ I h) fun u s1 ⟨x,H1,I1,rx,q1⟩=>thn (hv pins s1 σ H1 _ I1 q1) fun w2 s2 ⟨y,H2,I2,ry,q2⟩ =>
  thn (hr pins s2 σ H2 _ I2 q2) fun ws s3 ⟨ps,H3,I3,rel,q3⟩=>⟨(x,y) :: ps,H3,I3,.cons ⟨rx,ry⟩ rel,q3⟩)
def mergeK (kvs more : List (Key × V)) : List (Key × V):=more.foldl (fun acc kv=>putK acc kv.1 kv.2) kvs
theorem KV.merge : ∀ {more : List (Key × V)} {rs : List (Key × Value)} {kvs : List (Key × V)} {vs : List (Key × Value)},KV more rs → KV kvs vs → KV (mergeK kvs more) (merged vs rs):=by
 intro more rs kvs vs r
 unfold KV at r
 induction r generalizing kvs vs with
 | nil=>intro q; exact q
 | @cons p q ps qs h t ih =>
  intro r0
  have e : KV (putK kvs p.1 p.2) (stored vs q.1 q.2):=by
   have:=r0.put p.1 h.2
   rw [← h.1]; exact this
  exact ih e
theorem length_mergeK : ∀ (more kvs : List (Key × V)),(mergeK kvs more).length ≤ kvs.length + more.length
 | [],kvs=>by show kvs.length ≤ kvs.length + 0; omega
 | p :: r,kvs=>by
  have h1:=length_mergeK r (putK kvs p.1 p.2)
  have h2:=length_putK kvs p.1 p.2
  show (mergeK (putK kvs p.1 p.2) r).length ≤ _
  rw [List.length_cons]; omega
theorem carries_of {P : Program} {w : World} : ∀ {kvs : List (Key × V)} {ws : List (Value × Value)},VV (kvs.map fun kv=>(kV kv.1,kv.2)) ws → ∃ rs,Carries (mixKind P w) ws rs ∧ KV kvs rs
 | [],_,r=>by rw [List.map_nil] at r; cases r; exact ⟨[],True.intro,.nil⟩
 | p :: kvs,_,r=>by
  rw [List.map_cons] at r
  cases r with
  | @cons a b as bs h t =>
   obtain ⟨rs,c,q⟩:=carries_of (P:=P) (w:=w) t
   obtain ⟨b1,b2⟩:=b
   exact ⟨(p.1,b2) :: rs,⟨kV_is h.1,rfl,c⟩,.cons ⟨rfl,h.2⟩ q⟩
def tDisp (trs : List (TE × TE)) : TE:=fun σ H Q=>∀ p,H p = none → tPairs trs σ (upd H p (.dK [])) fun ps H2=>H2 p = some (.dK []) ∧ ∃ kvs : List (Key × V),ps = kvs.map (fun kv=>(kV kv.1,kv.2)) ∧ kvs.length ≤ 15 ∧ Q (.ref p) (upd H2 p (.dK (mergeK [] kvs)))
theorem pe_disp {X : Cx} {pos : Pos} {keys : List (Option Expr)} {values : List Expr} {trs : List (TE × TE)} (h : PPs X pos keys values trs) (hall : keys.all (·.isSome) = true) (hl : keys.length = values.length) (h0 : keys ≠ [])
 (h15 : keys.length ≤ 15) : PE X (.Dict keys values pos) (tDisp trs):=by
 intro pins s σ H Q I q
 have hn:=I.hok.fresh (Nat.le_refl s.heap.objs.size)
 have I1:=I.laid (a:=s.heap.objs.size) (o:=.dK []) (h':=s.heap.push { cls:=.type "dict",data:=.dict #[] }) (t':=s.toks) (fun _ _ q=>Heap.get?_push_of_some _ q) (Nat.le_refl _) (dk_empty s.heap I.big)
 refine wpAny_Dict_walk (knd:=mixKind X.prog X.w) hall hl h0 h15 (thn (h pins _ σ _ _ I1 (q _ hn)) fun ws s2 ⟨ps,H2,I2,rel,e,kvs,ep,lk,q2⟩=>?_)
 subst ep
 obtain ⟨rs,c,rk⟩:=carries_of (P:=X.prog) (w:=X.w) rel
 obtain ⟨z,hd,vs0,r0,dd⟩:=dk_of I2.hok e
 cases r0
 refine ⟨rs,c,dd,fun h' dd' hs=>⟨.ref s.heap.objs.size,_,?_,rfl,q2⟩⟩
 have hz : (mergeK [] kvs).length ≤ sizeLine:=by
  have h1:=length_mergeK kvs []
  rw [List.length_nil] at h1
  rw [sizeLine_eq]; omega
 have he : ∃ q,h'.get? s.heap.objs.size = some q:=let ⟨q,_,_,hq,_⟩:=dd'; ⟨q,hq⟩
 exact d_write I2 (by rw [e]; exact True.intro) hs he (dk_new hz hd (rk.merge .nil) dd')
structure M2 (X : Cx) (o : Expr) (m : Str) (apos : Pos) (e f : Expr) (cpos : Pos) : Prop where
 base : attributeBase o m X.env (eval o X.env) = eval o X.env
 few : ((backTo cpos (starEach [e,f] X.env)).all (fun x=>!x.1) && (backToKw cpos (keywordEach [] X.env)).all (fun x=>x.1.isSome)
  && decide (([e,f] : List Expr).length + ([] : List Keyword).length + (if ([] : List Keyword).isEmpty then 0 else 1) < 30)) = true
 line : (apos.endLine == cpos.line) = true
 trees : backTo cpos (starEach [e,f] X.env) = [(false,eval e X.env),(false,eval f X.env)]
def IsD (H : Hp) (a : Addr) : Prop:=(∃ kvs,Rd H a (.dK kvs)) ∨ ∃ kvs,Rd H a (.dT kvs)
theorem isD_at {X : Cx} {pins : List (Addr × Obj)} {σ : St} {H : Hp} {s : Shared} {a : Addr} (I : Inv X pins σ H s) (d : IsD H a) :
 s.TypeIs (.ref a) "dict" ∧ (∀ b,Value.ref a = .ref b → ∃ ob,s.heap.get? b = some ob ∧ ob.dict = none) ∧ (a == sysModules) = false:=by
 rcases d with ⟨kvs,e⟩ | ⟨kvs,e⟩
 · obtain ⟨_,hd,vs,_,dd⟩:=dk_rd I.hok e
   refine ⟨dd.typeIs,fun b q=>?_,hd⟩
   cases q
   obtain ⟨ob,_,_,h1,h2,_⟩:=dd
   exact ⟨ob,h1,h2.2.1⟩
 · obtain ⟨_,hd,xs,_,dd⟩:=dt_rd I.hok e
   refine ⟨dd.typeIs,fun b q=>?_,hd⟩
   cases q
   obtain ⟨ob,_,_,h1,h2,_⟩:=dd
   exact ⟨ob,h1,h2.2.1⟩
section
variable {X : Cx} {pins : List (Addr × Obj)} {σ : St} {H : Hp} {s : Shared} {a : Addr} {y d : V} {u r : Value} {o : Option V} {A : Around} {E : Value → Shared → Prop}
theorem d_get2 {Q : Value → Shared → Prop} (hu : A.units + 1 < cLine) (I : Inv X pins σ H s) (g : DGet H a y o) (ry : RelV y u) (rd : RelV d r) (h : ∀ w' s',Inv X pins σ H s' → RelV (o.getD d) w' → Q w' s') :
 wpAny (model X.prog X.w) A (call (.builtin "dict.get") [.ref a,u,r]) Q E s:=by
 rcases g with ⟨kvs,k,e,ey,l⟩ | ⟨kvs,k,b,e,ey,eb,l⟩
 · subst ey
   obtain ⟨z,hd,vs,rel,dd⟩:=dk_rd I.hok e
   refine call_meetsIn PySem.F.slot_dict_get dd.typeIs PySem.F.entry_dict_get (PySem.F.args_dict_get_3 _ _ _) (meets_dict_get_default (mixKind X.prog X.w) a (kV_is ry) hd r) ⟨_,dd.mapOf,h _ _ (I.tok _) ?_⟩
   rw [l]
   exact (rel.val k).getD rd
 · subst ey
   cases (show u = Value.ref b from ry)
   obtain ⟨z,hd,xs,rel,dd⟩:=dt_rd I.hok e
   refine call_meetsIn PySem.F.slot_dict_get dd.typeIs PySem.F.entry_dict_get (PySem.F.args_dict_get_3 _ _ _) (meetsH_dict_get_default (tupleKind (mixKind X.prog X.w)) a b hd r) ⟨tupleKind_room_in1 hu,k,xs,key_of I.hok eb,dd,h _ _ (I.tok _) ?_⟩
   rw [l]
   exact (rel.val k).getD rd
end
def tDGet2 (td ty tx : TE) : TE:=fun σ H Q=>td σ H fun x H1=>∃ a,x = .ref a ∧ IsD H1 a ∧ ty σ H1 fun y H2=>tx σ H2 fun z H3=>∃ o,DGet H3 a y o ∧ Q (o.getD z) H3
section
variable {X : Cx} {o e f : Expr} {apos cpos : Pos} {td ty tx : TE}
theorem pe_dget2 (hu : X.A.units + 1 < cLine) (ho : PE X o td) (he : PE X e ty) (hf : PE X f tx) (m : M2 X o "get" apos e f cpos) : PE X (.Call (.Attribute o "get" apos) [e,f] [] cpos) (tDGet2 td ty tx):=by
 intro pins s σ H Q I h
 refine wpAny_Call_method m.base m.few m.line PySem.F.plainAttrs_dict PySem.F.slot_dict_get PySem.F.type_dict_get (thn (ho pins s σ H _ I h) fun u s1 ⟨x,H1,I1,rx,a,ex,d,q1⟩=>?_)
 subst ex
 obtain rfl : u = Value.ref a:=rx
 obtain ⟨t1,t2,_⟩:=isD_at I1 d
 refine ⟨t1,t2,?_⟩
 rw [m.trees]
 refine Calls.callWith_builtin rfl (Calls.evalArgs_plain (Calls.spliced_cons (thn (he pins s1 σ H1 _ I1 q1) fun iv s2 ⟨y,H2,I2,ry,q2⟩ =>
  Calls.spliced_cons (thn (hf pins s2 σ H2 _ I2 q2) fun fv s3 ⟨z,H3,I3,rz,ov,g,q3⟩=>Calls.spliced_nil ?_))))
 exact d_get2 hu I3 g ry rz fun w' s4 I4 rw'=>⟨_,H3,I4,rw',q3⟩
end
section
variable {X : Cx} {pins : List (Addr × Obj)} {σ : St} {H : Hp} {s : Shared} {a : Addr} {kvs : List (Key × V)} {A : Around} {E : Value → Shared → Prop}
end
section
variable {X : Cx} {pins : List (Addr × Obj)} {σ : St} {H : Hp} {s : Shared} {a : Addr} {y : V} {u : Value} {A : Around} {E : Value → Shared → Prop}
end
end L2
namespace HT
open PySem PyProof.Rows
def lexLt : List Int → List Int → Bool
 | [],[]=>false
 | [],_ :: _=>true
 | _ :: _,[]=>false
 | x :: xs,y :: ys=>if x = y then lexLt xs ys else decide (x < y)
theorem lexLt_cons (x y : Int) (xs ys : List Int) : lexLt (x :: xs) (y :: ys) = if x = y then lexLt xs ys else decide (x < y):=rfl
section
open PySem.SeqAt
open PySem.AutoSeq1 (wpAny_loadPart')
open PySem.MeetsSeq PySem.MeetsSeq2 PySem.MeetsSeq3
end
section
variable {prog : Program} {w : World} {A : Around} {E : Value → Shared → Prop} {s : Shared}
theorem cat_tup {t b : Addr} {vs ws : List Value} {Q : Value → Shared → Prop} (ht : IsTup s.heap t vs.toArray) (hb : IsTup s.heap b ws.toArray) (hv : vs ≠ [])
 (h1 : ws = [] → Q (.ref t) s) (h2 : ws ≠ [] → Q (.ref s.heap.objs.size) { s with heap:=s.heap.push { cls:=.type "tuple",data:=.seq (vs ++ ws).toArray } })
 (hsz : vs.length + ws.length ≤ sizeLine) : wpAny (model prog w) A (binaryOp .Add (.ref t) (.ref b)) Q E s:=by
 obtain ⟨⟨cls,dd,data,sl⟩,ho,hc,n,hd⟩:=id ht
 obtain ⟨⟨cls2,dd2,data2,sl2⟩,ho2,hc2,n2,hd2⟩:=id hb
 simp only at hc hd hc2 hd2
 subst hc hd hc2 hd2
 have e : vs.toArray ++ ws.toArray = (vs ++ ws).toArray:=by simp
 by_cases hw : ws = []
 · exact concat_meets ⟨_,ho,rfl⟩ ⟨_,ho2,rfl⟩ noFill_tuple_add seq_tuple_add PySem.F.slot_tuple_add PySem.F.entry_tuple_add (PySem.F.args_tuple_add_2 _ _)
    (tuple_addW1 t b vs.toArray ws.toArray n n2 dd dd2 sl sl2 (by simpa using hv) (by simp [hw])) ⟨ho,ho2,h1 hw⟩
 · refine concat_meets ⟨_,ho,rfl⟩ ⟨_,ho2,rfl⟩ noFill_tuple_add seq_tuple_add PySem.F.slot_tuple_add PySem.F.entry_tuple_add (PySem.F.args_tuple_add_2 _ _)
    (tuple_addW2 t b vs.toArray ws.toArray n n2 dd dd2 sl sl2 (by simpa using hv) (by simpa using hw) (by rw [List.size_toArray,List.size_toArray]; exact hsz)) ⟨ho,ho2,?_⟩
   rw [e]
   exact h2 hw
def sIx (n d : Nat) : Option Int → Nat
 | none=>d
 | some v=>if v < 0 then (v + (n : Int)).toNat else min v.toNat n
theorem sIx_none (n d : Nat) : sIx n d none = d:=rfl
theorem sIx_nat (n d k : Nat) : sIx n d (some (k : Int)) = min k n:=by
 show (if (k : Int) < 0 then ((k : Int) + (n : Int)).toNat else min (k : Int).toNat n) = min k n
 rw [if_neg (by omega),Int.toNat_natCast]
end
end HT
namespace L2
open PySem PySem.Spec PyProof.Rows
abbrev TO:=St → Hp → (Option Int → Hp → Prop) → Prop
def PO (X : Cx) (e : Option Expr) (t : TO) : Prop :=
 ∀ (pins : List (Addr × Obj)) (s : Shared) (σ : St) (H : Hp) (Q : Option Int → Hp → Prop),Inv X pins σ H s → t σ H Q →
  wpAny (model X.prog X.w) X.A (evalPart e X.env) (fun u s'=>∃ o H',Inv X pins σ H' s' ∧ IsPart u o ∧ Q o H') X.xe s
def tNoPart : TO:=fun _ H Q=>Q none H
def tPart (t : TE) : TO:=fun σ H Q=>t σ H fun x H1=>∃ i,x = .int i ∧ Q (some i) H1
theorem intsAre_of {ns : List Int} : ∀ {us : List Value},Vals (ns.map V.int) us → IntsAre us ns:=by
 induction ns with
 | nil=>intro us r; rw [List.map_nil] at r; cases r; exact .nil
 | cons n ns ih =>
  intro us r
  rw [List.map_cons] at r
  cases r with
  | cons r1 r2 =>
   obtain ⟨t,e⟩:=r1
   subst e
   exact .cons n t (ih r2)
section
variable {X : Cx} {e : Expr} {te : TE} {lo hi : Option Expr} {tl th : TO} {pos p2 : Pos}
theorem po_none : PO X none tNoPart:=by
 intro pins s σ H Q I h
 rw [evalPart_none]
 exact wpAny_pure ⟨none,H,I,.none,h⟩
theorem po_some (h : PE X e te) : PO X (some e) (tPart te):=by
 intro pins s σ H Q I hw
 rw [evalPart_some]
 refine thn (h pins s σ H _ I hw) fun u s1 ⟨x,H1,I1,r1,q1⟩=>?_
 obtain ⟨i,rfl,q⟩:=q1
 obtain ⟨t,rfl⟩:=r1
 exact ⟨some i,H1,I1,.int i t,q⟩
def SlR (X : Cx) (r : V → Option Int → Option Int → Hp → VK → Prop) : Prop :=
 ∀ (pins : List (Addr × Obj)) (s : Shared) (σ : St) (H : Hp) (x : V) (v vl vu : Value) (lo hi : Option Int) (sl : Addr) (Q : VK),Inv X pins σ H s → RelV x v → s.heap.IsSliceOf sl vl vu .none → IsPart vl lo → IsPart vu hi → r x lo hi H Q →
  ∃ T id,typeLookup (.type T) "__getitem__" = pure (some (.builtin id)) ∧ s.TypeIs v T ∧ wpAny (model X.prog X.w) X.A (getItem v (.ref sl)) (EP X pins σ Q) X.xe s
def tSl (r : V → Option Int → Option Int → Hp → VK → Prop) (te : TE) (tl th : TO) : TE:=fun σ H Q=>te σ H fun x H1=>tl σ H1 fun l H2=>th σ H2 fun u H3=>r x l u H3 Q
theorem pe_slice {r : V → Option Int → Option Int → Hp → VK → Prop} (hr : SlR X r) (he : PE X e te) (hl : PO X lo tl) (hu : PO X hi th) : PE X (.Subscript e (.Slice lo hi none p2) pos) (tSl r te tl th):=by
 intro pins s σ H Q I h
 refine Subscript_ (thn (he pins s σ H _ I h) fun v s1 ⟨x,H1,I1,r1,q1⟩=>?_)
 refine wpAny_Slice (thn (hl pins s1 σ H1 _ I1 q1) fun vl s2 ⟨l,H2,I2,pl,q2⟩=>thn (hu pins s2 σ H2 _ I2 q2) fun vu s3 ⟨u,H3,I3,pu,q3⟩=>?_)
 rw [evalPart_none]
 refine wpAny_pure ?_
 have I4 : Inv X pins σ H3 { s3 with heap:=s3.heap.push { cls:=.type "slice",data:=.fields #[vl,vu,.none] } }:=I3.kept (t':=s3.toks) fun b ob q=>Heap.get?_push_of_some _ q
 obtain ⟨T,id,hT,ht,hg⟩:=hr pins { s3 with heap:=s3.heap.push { cls:=.type "slice",data:=.fields #[vl,vu,.none] } } σ H3 x v vl vu l u s3.heap.objs.size Q I4 r1 (Heap.IsSliceOf.new ..) pl pu q3
 show wpAny (model X.prog X.w) X.A (subscriptTail e (.Slice lo hi none p2) v (.ref s3.heap.objs.size)) (EP X pins σ Q) X.xe { s3 with heap:=s3.heap.push { cls:=.type "slice",data:=.fields #[vl,vu,.none] } }
 exact tail_any (ops:=[.ref s3.heap.objs.size,v]) ht hT hg (by with_unfolding_all rfl)
def cutV (xs : List V) (lo hi : Option Int) : List V:=(xs.drop (HT.sIx xs.length 0 lo)).take (HT.sIx xs.length xs.length hi - HT.sIx xs.length 0 lo)
theorem cutV_length (xs : List V) (lo hi : Option Int) : (cutV xs lo hi).length ≤ xs.length:=by
 unfold cutV
 rw [List.length_take,List.length_drop]
 omega
def rCatT (K : PySem.W.Frag) : R2:=fun x y H Q=>∃ a b xs ys,x = .ref a ∧ y = .ref b ∧ SqT K H a xs ∧ SqT K H b ys ∧ xs ≠ [] ∧ xs.length + ys.length ≤ sizeLine ∧
 (ys = [] → Q (.ref a) H) ∧ (ys ≠ [] → ∀ p,H p = none → Q (.ref p) (upd H p (.tup (xs ++ ys))))
theorem Vals.nil_iff {xs : List V} {us : List Value} (r : Vals xs us) : us = [] ↔ xs = []:=by
 cases r with
 | nil=>simp
 | cons _ _=>simp
theorem op_catT : OpR X (binaryOp .Add) (rCatT X.K):=by
 intro pins s σ H x y v u Q I rx ry h
 obtain ⟨a,b,xs,ys,rfl,rfl,ha,hb,hx,hz,q1,q2⟩:=h
 cases rx
 cases ry
 obtain ⟨its,r1,p1,_⟩:=I.tuple ha
 obtain ⟨its2,r2,p2,_⟩:=I.tuple hb
 refine HT.cat_tup p1 p2 (fun z=>hx (r1.nil_iff.mp z)) (fun z=>⟨.ref a,H,I,rfl,q1 (r2.nil_iff.mp z)⟩) (fun z=>?_) (by rw [← r1.length,← r2.length]; exact hz)
 refine ⟨.ref s.heap.objs.size,_,I.laid (t':=s.toks) (o:=.tup (xs ++ ys)) (fun b ob q=>Heap.get?_push_of_some _ q) (Nat.le_refl _) ?_,rfl,q2 (fun w=>z (r2.nil_iff.mpr w)) _ (I.hok.fresh (Nat.le_refl _))⟩
 exact ⟨by rw [List.length_append]; exact hz,_,r1.append r2,IsTup.new _ _⟩
end
end L2
namespace L2
open PySem PySem.Spec PyProof.Rows
def ixN (n : Nat) (i : Int) : Option Nat:=if 0 ≤ i then (if i < n then some i.toNat else none) else if -(n : Int) ≤ i then some (i + n).toNat else none
def atI {α : Type} (xs : List α) (i : Int) : Option α:=(ixN xs.length i).bind fun j=>xs[j]?
theorem ixN_seq {n : Nat} {i : Int} {j : Nat} (h : ixN n i = some j) : seqIndex? i n = some j ∧ j < n ∧ -(n : Int) ≤ i ∧ i < n:=by
 unfold ixN at h
 by_cases h0 : 0 ≤ i
 · rw [if_pos h0] at h
   by_cases h1 : i < n
   · rw [if_pos h1] at h
     have e : i.toNat = j:=Option.some.inj h
     exact ⟨by rw [seqIndex_of h0 h1,e],by omega,by omega,h1⟩
   · rw [if_neg h1] at h; cases h
 · rw [if_neg h0] at h
   by_cases h1 : -(n : Int) ≤ i
   · rw [if_pos h1] at h
     have e : (i + n).toNat = j:=Option.some.inj h
     exact ⟨by rw [seqIndex_neg (by omega) h1,e],by omega,h1,by omega⟩
   · rw [if_neg h1] at h; cases h
theorem atI_get {α : Type} {xs : List α} {i : Int} {v : α} (h : atI xs i = some v) : ∃ j,seqIndex? i xs.length = some j ∧ xs[j]? = some v ∧ j < xs.length ∧ -(xs.length : Int) ≤ i ∧ i < xs.length:=by
 unfold atI at h
 cases e : ixN xs.length i with
 | none=>rw [e] at h; cases h
 | some j =>
  rw [e] at h
  obtain ⟨h1,h2,h3,h4⟩:=ixN_seq e
  exact ⟨j,h1,h,h2,h3,h4⟩
theorem atI_nat {α : Type} {xs : List α} {j : Nat} {v : α} (h : xs[j]? = some v) : atI xs (j : Int) = some v:=by
 have hj : j < xs.length:=(List.getElem?_eq_some_iff.mp h).1
 have e : ixN xs.length (j : Int) = some j:=by
  unfold ixN
  rw [if_pos (by omega),if_pos (by omega)]; simp
 unfold atI; rw [e]; exact h
theorem atI_last {α : Type} (xs : List α) (v : α) : atI (xs ++ [v]) (-1) = some v:=by
 have hl : (xs ++ [v]).length = xs.length + 1:=by simp
 have e : ixN (xs ++ [v]).length (-1) = some xs.length:=by
  unfold ixN
  rw [hl,if_neg (by decide),if_pos (by omega)]
  congr 1
  omega
 unfold atI
 rw [e]
 show (xs ++ [v])[xs.length]? = some v
 simp
def PlainIx (b : Expr) : Prop:=∀ o i,subscripted b false o i = operate [o,i] (getItem o i)
def IxR (X : Cx) (r : R2) : Prop :=
 ∀ (value slice : Expr) (pins : List (Addr × Obj)) (s : Shared) (σ : St) (H : Hp) (x y : V) (v u : Value) (Q : VK),Inv X pins σ H s → RelV x v → RelV y u → r x y H Q →
  subscripted slice false v u = operate [v,u] (getItem v u) → wpAny (model X.prog X.w) X.A (subscriptTail value slice v u) (EP X pins σ Q) X.xe s
def MtR (X : Cx) (id : String) (r : V → List V → Hp → VK → Prop) : Prop :=
 ∀ (pins : List (Addr × Obj)) (s : Shared) (σ : St) (H : Hp) (x : V) (xs : List V) (v : Value) (us : List Value) (Q : VK),Inv X pins σ H s → RelV x v → Vals xs us → r x xs H Q →
  wpAny (model X.prog X.w) X.A (call (.builtin id) (v :: us)) (EP X pins σ Q) X.xe s
section
variable {X : Cx} {a b : Expr} {ta tb : TE} {pos : Pos}
theorem IxR.or {r r' : R2} (h : IxR X r) (h' : IxR X r') : IxR X (fun x y H Q=>r x y H Q ∨ r' x y H Q):=by
 intro value slice pins s σ H x y v u Q I rx ry q hs
 rcases q with q | q
 · exact h value slice pins s σ H x y v u Q I rx ry q hs
 · exact h' value slice pins s σ H x y v u Q I rx ry q hs
theorem pe_ix {r : R2} (hr : IxR X r) (ha : PE X a ta) (hb : PE X b tb) (hs : PlainIx b) : PE X (.Subscript a b pos) (tOp r ta tb):=by
 intro pins s σ H Q I h
 exact Subscript_ (binT ha hb I h fun v u s2 x y H2 I2 rx ry q=>hr a b pins s2 σ H2 x y v u Q I2 rx ry q (hs _ _))
def rIxL (K : PySem.W.Frag) : R2:=fun x y H Q=>∃ p xs i v,x = .ref p ∧ y = .int i ∧ SqL K H p xs ∧ atI xs i = some v ∧ Q v H
def rIxT (K : PySem.W.Frag) : R2:=fun x y H Q=>∃ p xs i v,x = .ref p ∧ y = .int i ∧ SqT K H p xs ∧ atI xs i = some v ∧ Q v H
def rIxS : R2:=fun x y H Q=>∃ z i c,x = .str z ∧ y = .int i ∧ z.length ≤ sizeLine ∧ atI z.cps.toList i = some c ∧ Q (.str ⟨#[c]⟩) H
theorem ix_list : IxR X (rIxL X.K):=by
 intro value slice pins s σ H x y v u Q I rx ry h hs
 obtain ⟨p,xs,i,z,rfl,rfl,hq,he,q⟩:=h
 cases rx
 obtain ⟨t,rfl⟩:=ry
 obtain ⟨its,r,pl,hz⟩:=I.list hq
 obtain ⟨j,h1,h2,h3,h4,h5⟩:=atI_get he
 obtain ⟨w,ew,rw'⟩:=r.get h2
 have hl:=r.length
 have hn:=line63
 have fin : EP X pins σ Q w s:=⟨z,H,I,rw',q⟩
 by_cases h0 : 0 ≤ i
 · have hj : i.toNat = j:=by
    rw [seqIndex_of h0 h5] at h1
    exact Option.some.inj h1
   exact item_listR pl.isList h0 (by omega) (by rw [hj]; simpa using ew) fin hs
 · have hj : (i + (its.toArray.size : Int)).toNat = j:=by
    rw [seqIndex_neg (by omega) h4] at h1
    rw [List.size_toArray,← hl]
    exact Option.some.inj h1
   exact subscriptTail_builtinR (x:=w) pl.isList.typeIs slot_list_getitem.lookup
    (wpAny_getItem_list_neg (Q:=fun r s'=>r = w ∧ EP X pins σ Q r s') pl.isList (by omega) (by rw [List.size_toArray] <;> omega) (by omega) (by rw [hj]; simpa using ew) ⟨rfl,fin⟩) hs
theorem ix_tup : IxR X (rIxT X.K):=by
 intro value slice pins s σ H x y v u Q I rx ry h hs
 obtain ⟨p,xs,i,z,rfl,rfl,hq,he,q⟩:=h
 cases rx
 obtain ⟨t,rfl⟩:=ry
 obtain ⟨its,r,pl,hz⟩:=I.tuple hq
 obtain ⟨j,h1,h2,h3,h4,h5⟩:=atI_get he
 obtain ⟨w,ew,rw'⟩:=r.get h2
 have hl:=r.length
 have hn:=line63
 have fin : EP X pins σ Q w s:=⟨z,H,I,rw',q⟩
 exact subscriptTail_builtinR (x:=w) pl.typeIs slot_tuple_getitem.lookup
  (getItem_tuple (j:=j) (Q:=fun r s'=>r = w ∧ EP X pins σ Q r s') pl (by omega) (by omega) (by rw [List.size_toArray,← hl]; exact h1) (by simpa using ew) ⟨rfl,fin⟩) hs
theorem ix_str : IxR X rIxS:=by
 intro value slice pins s σ H x y v u Q I rx ry h hs
 obtain ⟨z,i,c,rfl,rfl,hz,he,q⟩:=h
 obtain ⟨t,rfl⟩:=rx
 obtain ⟨t',rfl⟩:=ry
 obtain ⟨j,h1,h2,h3,h4,h5⟩:=atI_get he
 have hl : z.cps.toList.length = z.length:=by simp [Str.length]
 rw [hl] at h1 h4 h5
 have hn:=line63
 exact tail_any (typeIs_str s z t) slot_str_getitem.lookup (getItem_str (c:=c) (by
  have e1 : decide (i < -(2 ^ 63 : Int)) = false:=decide_eq_false (by omega)
  have e2 : decide (i ≥ 2 ^ 63) = false:=decide_eq_false (by omega)
  rw [e1,e2,Bool.or_false]) (by rw [h1]; simpa using h2) ⟨.str ⟨#[c]⟩,H,I.tok _,⟨_,rfl⟩,q⟩) hs
def rIx (K : PySem.W.Frag) : R2:=fun x y H Q=>rIxL K x y H Q ∨ rIxT K x y H Q ∨ rIxS x y H Q
theorem ix_seq : IxR X (rIx X.K):=ix_list.or (ix_tup.or ix_str)
theorem mapSeq_set (its : List Value) (n j : Nat) (u : Value) : Obj.mapSeq (·.setIfInBounds j u) { cls:=.type "list",data:=.seq its.toArray n } = { cls:=.type "list",data:=.seq (its.set j u).toArray n }:=by
 simp [Obj.mapSeq]
theorem Inv.lst {pins : List (Addr × Obj)} {σ : St} {H : Hp} {s : Shared} {p : Addr} {xs : List V} (I : Inv X pins σ H s) (h : H p = some (.lst xs)) :
 ∃ (its : List Value) (n : Nat),Vals xs its ∧ s.heap.get? p = some { cls:=.type "list",data:=.seq its.toArray n } ∧ xs.length ≤ sizeLine:=by
 obtain ⟨z,its,n,r,e⟩:=I.hok p _ h
 exact ⟨its,n,r,e,z⟩
theorem Inv.lstUpd {pins : List (Addr × Obj)} {σ : St} {H : Hp} {s : Shared} {p : Addr} {xs ys : List V} {its its' : List Value} {n n' : Nat} {f : Obj → Obj} (I : Inv X pins σ H s) (h : H p = some (.lst xs))
 (ho : s.heap.get? p = some { cls:=.type "list",data:=.seq its.toArray n }) (hf : f { cls:=.type "list",data:=.seq its.toArray n } = { cls:=.type "list",data:=.seq its'.toArray n' }) (r : Vals ys its') (hz : ys.length ≤ sizeLine) (t : Nat) :
 Inv X pins σ (upd H p (.lst ys)) { s with heap:=s.heap.update p f,toks:=t }:=by
 have e : (s.heap.update p f).get? p = some { cls:=.type "list",data:=.seq its'.toArray n' }:=by
  rw [Heap.get?_update_self f ho (by rw [hf] <;> rfl),hf]
 refine I.write (x:=p) (e:=p) (by rw [h]; trivial) (.inl rfl) (fun b u hb q=>(Heap.get?_update_other _ _ (Ne.symm hb)).trans q) ⟨_,e⟩ ?_
 exact ⟨hz,its',n',r,e⟩
def rSetL : V → V → V → Hp → (Hp → Prop) → Prop:=fun o i v H Q=>∃ p xs k j,o = .ref p ∧ i = .int k ∧ H p = some (.lst xs) ∧ ixN xs.length k = some j ∧ Q (upd H p (.lst (xs.set j v)))
theorem set_list : PSet X rSetL:=by
 intro pins s σ H o i v ov iv u Q I ro ri rv h
 obtain ⟨p,xs,k,j,rfl,rfl,hp,hj,q⟩:=h
 cases ro
 obtain ⟨t,rfl⟩:=ri
 obtain ⟨its,n,r,ho,hz⟩:=I.lst hp
 obtain ⟨h1,h2,h3,h4⟩:=ixN_seq hj
 have hl:=r.length
 have hn:=line63
 have I' : Inv X pins σ (upd H p (.lst (xs.set j v))) { s with heap:=s.heap.update p (Obj.mapSeq (·.setIfInBounds j u)) } :=
  I.lstUpd hp ho (mapSeq_set its n j u) (r.set rv j) (by rw [List.length_set]; exact hz) s.toks
 by_cases h0 : 0 ≤ k
 · have hk : k.toNat = j:=by
    rw [seqIndex_of h0 h4] at h1
    exact Option.some.inj h1
   exact PySem.W.ki_setAt ho h0 (by omega) (by rw [List.size_toArray,← hl]; exact h4) (by rw [hk]; exact ⟨_,I',q⟩)
 · have hk : (k + (its.toArray.size : Int)).toNat = j:=by
    rw [seqIndex_neg (by omega) h3] at h1
    rw [List.size_toArray,← hl]
    exact Option.some.inj h1
   exact PySem.W.ki_setBack ho (by omega) (by rw [List.size_toArray,← hl]; exact h3) (by omega) (by rw [hk]; exact ⟨_,I',q⟩)
theorem slice_bounds (lo hi : Option Int) (n : Nat) : (sliceBounds lo hi none n).1 = ((HT.sIx n 0 lo : Nat) : Int) ∧ (sliceBounds lo hi none n).2.1 = ((HT.sIx n n hi : Nat) : Int) ∧ (sliceBounds lo hi none n).2.2 = 1:=by
 refine ⟨?_,?_,rfl⟩
 · cases lo with
   | none=>simp [sliceBounds,HT.sIx]
   | some i =>
    simp only [sliceBounds,HT.sIx,Option.getD_none,show (1 : Int) > 0 by decide,if_true]
    by_cases h : i < 0
    · simp only [h,if_true] <;> omega
    · simp only [h,if_false] <;> omega
 · cases hi with
   | none=>simp [sliceBounds,HT.sIx]
   | some i =>
    simp only [sliceBounds,HT.sIx,Option.getD_none,show (1 : Int) > 0 by decide,if_true]
    by_cases h : i < 0
    · simp only [h,if_true] <;> omega
    · simp only [h,if_false] <;> omega
theorem slicePick_cut (its : List Value) (lo hi : Option Int) : slicePick its.toArray lo hi none = ((its.drop (HT.sIx its.length 0 lo)).take (HT.sIx its.length its.length hi - HT.sIx its.length 0 lo)).toArray:=by
 obtain ⟨h1,h2,h3⟩:=slice_bounds lo hi its.toArray.size
 unfold slicePick
 rw [h1,h2,h3]
 simp only [sliceRange_one,pick_run,List.size_toArray] <;> rfl
def rSlL (K : PySem.W.Frag) : V → Option Int → Option Int → Hp → VK → Prop:=fun x lo hi H Q=>∃ a xs,x = .ref a ∧ SqL K H a xs ∧ ∀ p,H p = none → Q (.ref p) (upd H p (.lst (cutV xs lo hi)))
theorem sl_list : SlR X (rSlL X.K):=by
 intro pins s σ H x v vl vu lo hi sl Q I rx hs pl pu h
 obtain ⟨a,xs,rfl,hx,q⟩:=h
 cases rx
 obtain ⟨its,r,ht,hz⟩:=I.list hx
 have hlen:=r.length
 refine ⟨"list",_,slot_list_getitem.lookup,ht.isList.typeIs,?_⟩
 refine wpAny_getItem_list_slice ht.isList hs pl pu .none (by simp) ?_ (by rw [List.size_toArray] <;> omega)
 rw [slicePick_cut,← hlen]
 refine ⟨.ref s.heap.objs.size,_,I.laid (t':=s.toks) (o:=.lst (cutV xs lo hi)) (fun b ob q=>Heap.get?_push_of_some _ q) (Nat.le_refl _) ?_,rfl,q _ (I.hok.fresh (Nat.le_refl _))⟩
 exact ⟨Nat.le_trans (cutV_length xs lo hi) hz,_,0,(r.drop (HT.sIx xs.length 0 lo)).take (HT.sIx xs.length xs.length hi - HT.sIx xs.length 0 lo),Heap.get?_push_size _ rfl⟩
def flatV : V → Bool
 | .non=>true
 | .bl _=>true
 | .int _=>true
 | .str _=>true
 | _=>false
def eqV : V → V → Bool
 | .non,.non=>true
 | .bl a,.bl b=>a == b
 | .bl a,.int b=>(if a then 1 else 0) == b
 | .int a,.bl b=>a == (if b then 1 else 0)
 | .int a,.int b=>a == b
 | .str a,.str b=>a == b
 | _,_=>false
theorem eqAt_V {A : Around} {s : Shared} {y x : V} {u v : Value} (ry : RelV y u) (rx : RelV x v) (fy : flatV y = true) (fx : flatV x = true) : SeqAt.EqAt A s u v (eqV y x):=by
 cases y with
 | non =>
  cases ry
  cases x with
  | non=>cases rx; exact SeqAt.EqAt.same _
  | bl b=>cases rx; exact SeqAt.EqAt.none_bool b
  | int b=>obtain ⟨t,rfl⟩:=rx; exact SeqAt.EqAt.none_int b t
  | str b=>obtain ⟨t,rfl⟩:=rx; exact SeqAt.EqAt.none_str b t
  | _=>exact absurd (show false = true from fx) Bool.false_ne_true
 | bl a =>
  cases ry
  cases x with
  | non=>cases rx; exact SeqAt.EqAt.bool_none a
  | bl b=>cases rx; exact SeqAt.EqAt.bool_bool a b
  | int b=>obtain ⟨t,rfl⟩:=rx; exact SeqAt.EqAt.bool_int a b t
  | str b=>obtain ⟨t,rfl⟩:=rx; exact SeqAt.EqAt.bool_str a b t
  | _=>exact absurd (show false = true from fx) Bool.false_ne_true
 | int a =>
  obtain ⟨t',rfl⟩:=ry
  cases x with
  | non=>cases rx; exact SeqAt.EqAt.int_none a t'
  | bl b=>cases rx; exact SeqAt.EqAt.int_bool a t' b
  | int b=>obtain ⟨t,rfl⟩:=rx; exact SeqAt.EqAt.int_int a t' b t
  | str b=>obtain ⟨t,rfl⟩:=rx; exact SeqAt.EqAt.int_str a t' b t
  | _=>exact absurd (show false = true from fx) Bool.false_ne_true
 | str a =>
  obtain ⟨t',rfl⟩:=ry
  cases x with
  | non=>cases rx; exact SeqAt.EqAt.str_none a t'
  | bl b=>cases rx; exact SeqAt.EqAt.str_bool a t' b
  | int b=>obtain ⟨t,rfl⟩:=rx; exact SeqAt.EqAt.str_int a t' b t
  | str b=>obtain ⟨t,rfl⟩:=rx; exact SeqAt.EqAt.str_str a t' b t
  | _=>exact absurd (show false = true from fx) Bool.false_ne_true
 | _=>exact absurd (show false = true from fy) Bool.false_ne_true
def eqU (x : V) (u : Value) : Bool:=match u with
 | .none=>eqV .non x
 | .bool b=>eqV (.bl b) x
 | .int i _=>eqV (.int i) x
 | .str z _=>eqV (.str z) x
 | _=>false
theorem eqU_of {x y : V} {u : Value} (r : RelV y u) (f : flatV y = true) : eqU x u = eqV y x:=by
 cases y with
 | non=>cases r; rfl
 | bl b=>cases r; rfl
 | int i=>obtain ⟨t,rfl⟩:=r; rfl
 | str z=>obtain ⟨t,rfl⟩:=r; rfl
 | _=>exact absurd (show false = true from f) Bool.false_ne_true
theorem any_eqU {x : V} : ∀ {xs : List V} {us : List Value},Vals xs us → xs.all flatV = true → us.any (eqU x) = xs.any fun y=>eqV y x
 | _,_,.nil,_=>rfl
 | y :: xs,u :: us,.cons r t,f=>by
  rw [List.all_cons,Bool.and_eq_true] at f
  rw [List.any_cons,List.any_cons,eqU_of r f.1,any_eqU t f.2]
theorem mem_eqAt {A : Around} {s : Shared} {x : V} {v : Value} (rx : RelV x v) (fx : flatV x = true) : ∀ {xs : List V} {us : List Value},Vals xs us → xs.all flatV = true → ∀ u ∈ us,SeqAt.EqAt A s u v (eqU x u)
 | _,_,.nil,_=>fun u hu=>by cases hu
 | y :: xs,u :: us,.cons r t,f=>fun u' hu=>by
  rw [List.all_cons,Bool.and_eq_true] at f
  rcases List.mem_cons.mp hu with rfl | hu
  · rw [eqU_of r f.1]; exact eqAt_V r rx f.1 fx
  · exact mem_eqAt rx fx t f.2 u' hu
def inV (x : V) (xs : List V) : Bool:=xs.any fun y=>eqV y x
def rIn (K : PySem.W.Frag) (neg : Bool) : R2:=fun x y H Q=>∃ p xs,y = .ref p ∧ (SqL K H p xs ∨ SqT K H p xs) ∧ flatV x = true ∧ xs.all flatV = true ∧ Q (.bl (if neg then !inV x xs else inV x xs)) H
theorem op_in_seq : OpR X (compareOp .In) (rIn X.K false):=by
 intro pins s σ H x y v u Q I rx ry h
 obtain ⟨p,xs,rfl,hq,fx,fs,q⟩:=h
 cases ry
 rcases hq with hq | hq
 · obtain ⟨its,r,pl,hz⟩:=I.list hq
   refine SeqAt.in_listAt (eqU x) pl.isList (fun w hw=>mem_eqAt rx fx r fs w (by simpa using hw)) ⟨.bl _,H,I,rfl,?_⟩
   rw [show its.toArray.any (eqU x) = its.any (eqU x) by simp,any_eqU r fs]
   exact q
 · obtain ⟨its,r,pl,hz⟩:=I.tuple hq
   refine SeqAt.in_tupleAt (eqU x) pl (fun w hw=>mem_eqAt rx fx r fs w (by simpa using hw)) ⟨.bl _,H,I,rfl,?_⟩
   rw [show its.toArray.any (eqU x) = its.any (eqU x) by simp,any_eqU r fs]
   exact q
theorem op_notIn_seq : OpR X (compareOp .NotIn) (rIn X.K true):=by
 intro pins s σ H x y v u Q I rx ry h
 obtain ⟨p,xs,rfl,hq,fx,fs,q⟩:=h
 cases ry
 rcases hq with hq | hq
 · obtain ⟨its,r,pl,hz⟩:=I.list hq
   refine SeqAt.notIn_listAt (eqU x) pl.isList (fun w hw=>mem_eqAt rx fx r fs w (by simpa using hw)) ⟨.bl _,H,I,rfl,?_⟩
   rw [show its.toArray.any (eqU x) = its.any (eqU x) by simp,any_eqU r fs]
   exact q
 · obtain ⟨its,r,pl,hz⟩:=I.tuple hq
   refine SeqAt.notIn_tupleAt (eqU x) pl (fun w hw=>mem_eqAt rx fx r fs w (by simpa using hw)) ⟨.bl _,H,I,rfl,?_⟩
   rw [show its.toArray.any (eqU x) = its.any (eqU x) by simp,any_eqU r fs]
   exact q
theorem call_len_seq : CallR X (.builtin "len") (fun xs H Q=>∃ p ys,xs = [.ref p] ∧ (SqL X.K H p ys ∨ SqT X.K H p ys) ∧ Q (.int ys.length) H):=by
 intro pins s σ H xs us Q I r h
 obtain ⟨p,ys,rfl,hq,q⟩:=h
 obtain ⟨u,rfl,rx⟩:=vals1 r
 cases rx
 have hn:=line63
 rcases hq with hq | hq
 · obtain ⟨its,r',pl,hz⟩:=I.list hq
   have hlen:=r'.length
   exact Calls.call_len_list pl.isList (by simp only [List.size_toArray] <;> omega) ⟨.int ys.length,H,I.tok _,⟨s.toks + 1,by rw [List.size_toArray,hlen]⟩,q⟩
 · obtain ⟨its,r',pl,hz⟩:=I.tuple hq
   have hlen:=r'.length
   exact len_tuple pl (by simp only [List.size_toArray] <;> omega) ⟨.int ys.length,H,I.tok _,⟨s.toks + 1,by rw [List.size_toArray,hlen]⟩,q⟩
theorem call_list_of : CallR X (.type "list") (fun xs H Q=>∃ p ys,xs = [.ref p] ∧ (SqL X.K H p ys ∨ SqT X.K H p ys) ∧ ∀ l,H l = none → Q (.ref l) (upd H l (.lst ys))):=by
 intro pins s σ H xs us Q I r h
 obtain ⟨p,ys,rfl,hq,q⟩:=h
 obtain ⟨u,rfl,rx⟩:=vals1 r
 cases rx
 have fin : ∀ (its : List Value),Vals ys its → ys.length ≤ sizeLine → ∀ (h' : Heap) (c' : Nat),(∀ b o',s.heap.get? b = some o' → h'.get? b = some o') →
  h'.get? s.heap.objs.size = some { cls:=.type "list",dict:=none,data:=.seq its.toArray c',slots:=#[] } → EP X pins σ Q (.ref s.heap.objs.size) { s with heap:=h' }:=fun its r' hz h' c' kp e =>
  ⟨.ref s.heap.objs.size,_,I.laid (t':=s.toks) kp (Nat.le_refl _) (show ObjOk X.prog X.w _ h' _ (.lst ys) from ⟨hz,its,c',r',e⟩),rfl,q _ (I.hok.fresh (Nat.le_refl _))⟩
 rcases hq with hq | hq
 · obtain ⟨its,r',pl,hz⟩:=I.list hq
   have hlen:=r'.length
   obtain ⟨o,ho,hc,n,hd⟩:=pl.isList
   exact call_list_seq p (.inl rfl) ho hc hd (fun h' c' kp e=>fin its r' hz h' c' kp e) (by simp only [List.size_toArray] <;> omega)
 · obtain ⟨its,r',pl,hz⟩:=I.tuple hq
   have hlen:=r'.length
   obtain ⟨o,ho,hc,n,hd⟩:=pl
   exact call_list_seq p (.inr rfl) ho hc hd (fun h' c' kp e=>fin its r' hz h' c' kp e) (by simp only [List.size_toArray] <;> omega)
theorem call_tuple_of : CallR X (.type "tuple") (fun xs H Q=>∃ p ys,xs = [.ref p] ∧ ((SqL X.K H p ys ∧ ∀ l,H l = none → Q (.ref l) (upd H l (.tup ys))) ∨ (SqT X.K H p ys ∧ Q (.ref p) H))):=by
 intro pins s σ H xs us Q I r h
 obtain ⟨p,ys,rfl,h⟩:=h
 obtain ⟨u,rfl,rx⟩:=vals1 r
 cases rx
 rcases h with ⟨hq,q⟩ | ⟨hq,q⟩
 · obtain ⟨its,r',pl,hz⟩:=I.list hq
   have hlen:=r'.length
   refine call_tuple_list pl.isList (fun h' kp=>?_) (by simp only [List.size_toArray] <;> omega)
   have I1 : Inv X pins σ H { s with heap:=h' }:=I.kept (t':=s.toks) kp
   have I2 : Inv X pins σ (upd H h'.objs.size (.tup ys)) { s with heap:=h'.push { cls:=.type "tuple",data:=.seq its.toArray } } :=
    I1.laid (t':=s.toks) (fun b o e=>Heap.get?_push_of_some _ e) (Nat.le_refl _) (show ObjOk X.prog X.w _ _ _ (.tup ys) from ⟨hz,its,r',IsTup.new _ _⟩)
   exact ⟨.ref h'.objs.size,_,I2,rfl,q _ (I1.hok.fresh (Nat.le_refl _))⟩
 · obtain ⟨its,r',pl,hz⟩:=I.tuple hq
   exact call_tuple_same pl ⟨.ref p,H,I,rfl,q⟩
def tyV (K : PySem.W.Frag) (T : String) (x : V) (H : Hp) : Prop:=match x with
 | .str _=>T = "str"
 | .int _=>T = "int"
 | .ref p=>(T = "list" ∧ ∃ xs,SqL K H p xs) ∨ (T = "tuple" ∧ ∃ o,K.lookup p = some o ∧ o.cls = .type "tuple" ∧ o.dict = none) ∨
  (T = "dict" ∧ ((∃ kvs,H p = some (.dK kvs)) ∨ ∃ kvs,H p = some (.dT kvs))) ∨ (T = "set" ∧ ∃ S n,H p = some (.set S n))
 | _=>False
theorem tyV_is {pins : List (Addr × Obj)} {σ : St} {H : Hp} {s : Shared} {T : String} {x : V} {v : Value} (I : Inv X pins σ H s) (r : RelV x v) (ty : tyV X.K T x H) :
 s.TypeIs v T ∧ ∀ a,v = .ref a → ∃ ob,s.heap.get? a = some ob ∧ ob.dict = none:=by
 cases x with
 | str z =>
  obtain ⟨t,rfl⟩:=r
  cases (show T = "str" from ty)
  exact ⟨typeIs_str s z t,fun _ e=>nomatch e⟩
 | int i =>
  obtain ⟨t,rfl⟩:=r
  cases (show T = "int" from ty)
  exact ⟨typeIs_int s i t,fun _ e=>nomatch e⟩
 | ref p =>
  cases r
  rcases ty with ⟨rfl,xs,hq⟩ | ⟨rfl,o,hk,hc,hd⟩ | ⟨rfl,hk⟩ | ⟨rfl,S,n,hk⟩
  · obtain ⟨its,_,pl,_⟩:=I.list hq
    refine ⟨pl.isList.typeIs,fun a e=>?_⟩
    cases e
    obtain ⟨o,n,e,c,hd,_⟩:=pl
    exact ⟨o,e,hd⟩
  · refine ⟨⟨o,I.kIn p o hk,hc⟩,fun a e=>?_⟩
    cases e
    exact ⟨o,I.kIn _ o hk,hd⟩
  · have z : ∃ o,s.heap.get? p = some o ∧ o.ExactDict:=by
     rcases hk with ⟨kvs,hk⟩ | ⟨kvs,hk⟩
     · obtain ⟨_,_,_,_,o,_,_,e,ex,_⟩:=I.hok p _ hk
       exact ⟨o,e,ex⟩
     · obtain ⟨_,_,_,_,o,_,_,e,ex,_⟩:=I.hok p _ hk
       exact ⟨o,e,ex⟩
    obtain ⟨o,e,ex⟩:=z
    refine ⟨⟨o,e,ex.1⟩,fun a e2=>?_⟩
    cases e2
    exact ⟨o,e,ex.2.1⟩
  · obtain ⟨o,_,_,_,e,ex,_⟩:=I.hok p _ hk
    refine ⟨⟨o,e,ex.1⟩,fun a e2=>?_⟩
    cases e2
    exact ⟨o,e,ex.2.1⟩
 | _=>exact False.elim ty
def tBM0 (K : PySem.W.Frag) (T : String) (r : V → List V → Hp → VK → Prop) (to : TE) : TE:=fun σ H Q=>to σ H fun x H1=>tyV K T x H1 ∧ r x [] H1 Q
def tBM (K : PySem.W.Frag) (T : String) (r : V → List V → Hp → VK → Prop) (to : TE) (t : TA) : TE:=fun σ H Q=>to σ H fun x H1=>tyV K T x H1 ∧ t σ H1 fun xs H2=>r x xs H2 Q
variable {o e : Expr} {es : List Expr} {to : TE} {t : TA} {name : Str} {apos cpos : Pos} {T id : String} {r : V → List V → Hp → VK → Prop}
theorem pe_bm0 (pa : PlainAttrs T) (slot : Slot T name id) (hty : typeOf (.builtin id) = pure (.type "method_descriptor")) (hm : MtR X id r) (ho : PE X o to)
 (hbase : attributeBase o name X.env (eval o X.env) = eval o X.env:=by rfl) (hline : (apos.endLine == cpos.line) = true:=by rfl) : PE X (.Call (.Attribute o name apos) [] [] cpos) (tBM0 X.K T r to):=by
 intro pins s σ H Q I h
 refine wpAny_Call_method0_late hbase hline (thn (ho pins s σ H _ I h) fun v s1 ⟨x,H1,I1,r1,ty,q1⟩=>?_)
 obtain ⟨h1,h2⟩:=tyV_is I1 r1 ty
 exact ⟨T,id,pa,slot,hty,h1,h2,Calls.callWith_builtin rfl (PySem.evalArgs_none (hm pins s1 σ H1 x [] v [] Q I1 r1 .nil q1))⟩
theorem pe_bm (pa : PlainAttrs T) (slot : Slot T name id) (hty : typeOf (.builtin id) = pure (.type "method_descriptor")) (hm : MtR X id r) (ho : PE X o to) (ha : PA X (e :: es) t)
 (hbase : attributeBase o name X.env (eval o X.env) = eval o X.env:=by rfl)
 (hfew : ((backTo cpos (starEach (e :: es) X.env)).all (fun x=>!x.1) && (backToKw cpos (keywordEach [] X.env)).all (fun x=>x.1.isSome)
  && decide ((e :: es).length + ([] : List Keyword).length + (if ([] : List Keyword).isEmpty then 0 else 1) < 30)) = true:=by rfl)
 (hline : (apos.endLine == cpos.line) = true:=by rfl) (hs : starEach (e :: es) X.env = (false,eval e X.env) :: starEach es X.env:=by rfl) (hplain : (backTo cpos (starEach es X.env)).any (·.1) = false:=by rfl) :
 PE X (.Call (.Attribute o name apos) (e :: es) [] cpos) (tBM X.K T r to t):=by
 intro pins s σ H Q I h
 refine wpAny_Call_method_late hbase hfew hline rfl (thn (ho pins s σ H _ I h) fun v s1 ⟨x,H1,I1,r1,ty,q1⟩=>?_)
 obtain ⟨h1,h2⟩:=tyV_is I1 r1 ty
 refine ⟨T,id,pa,slot,hty,h1,h2,?_⟩
 have hA:=ha cpos pins s1 σ H1 _ I1 q1
 rw [hs] at hA ⊢
 refine Calls.callWith_builtin (by show (false || (backTo cpos (starEach es X.env)).any (·.1)) = false; rw [hplain] <;> rfl) (Calls.evalArgs_plain ?_)
 exact thn hA fun us s2 ⟨vs,H2,I2,r2,q2⟩=>hm pins s2 σ H2 x vs v us Q I2 r1 r2 q2
end
end L2
namespace L2
open PySem PySem.Spec PyProof.Rows
def MtM (X : Cx) (id : String) (r : V → List V → Hp → VK → Prop) : Prop :=
 ∀ (pins : List (Addr × Obj)) (s : Shared) (σ : St) (H : Hp) (x : V) (xs : List V) (v : Value) (us : List Value) (Q : VK),Inv X pins σ H s → RelV x v → Vals xs us → r x xs H Q →
  wpAny (model X.prog X.w) X.A (call (.builtin id) (v :: us)) (EP X pins σ Q) X.xe s
theorem Vals.one : ∀ {x : V} {us : List Value},Vals [x] us → ∃ u,us = [u] ∧ RelV x u
 | _,_,.cons r .nil=>⟨_,rfl,r⟩
theorem Vals.two : ∀ {x y : V} {us : List Value},Vals [x,y] us → ∃ u v,us = [u,v] ∧ RelV x u ∧ RelV y v
 | _,_,_,.cons r (.cons q .nil)=>⟨_,_,rfl,r,q⟩
theorem Vals.zero : ∀ {us : List Value},Vals [] us → us = []
 | _,.nil=>rfl
theorem Vals.dropLast {xs : List V} {us : List Value} (h : Vals xs us) : Vals xs.dropLast us.dropLast:=by
 induction h with
 | nil=>exact .nil
 | cons r t ih =>
  cases t with
  | nil=>exact .nil
  | cons q t'=>exact .cons r ih
theorem Vals.reverse {xs : List V} {us : List Value} (h : Vals xs us) : Vals xs.reverse us.reverse:=by
 induction h with
 | nil=>exact .nil
 | cons r t ih=>rw [List.reverse_cons,List.reverse_cons]; exact Vals.append ih (.cons r .nil)
theorem erase_last {α : Type} (l : List α) : l.eraseIdx (l.length - 1) = l.dropLast:=by
 induction l with
 | nil=>rfl
 | cons a r ih =>
  cases r with
  | nil=>rfl
  | cons b r =>
   have e : (a :: b :: r).length - 1 = ((b :: r).length - 1) + 1:=by
    have h1 : (a :: b :: r).length = r.length + 2:=rfl
    have h2 : (b :: r).length = r.length + 1:=rfl
    omega
   rw [e,List.eraseIdx_cons_succ,ih]
   all_goals rfl
section
variable {X : Cx} {pins : List (Addr × Obj)} {σ : St} {H : Hp} {s : Shared} {l b : Addr} {xs ys zs : List V}
theorem Inv.lset {its its' : List Value} {n : Nat} {f : Array Value → Array Value} {t' : Nat} (I : Inv X pins σ H s) (hH : H l = some (.lst xs))
 (e : s.heap.get? l = some { cls:=.type "list",data:=.seq its.toArray n }) (hf : f its.toArray = its'.toArray) (hv : Vals ys its') (hz : ys.length ≤ sizeLine) :
 Inv X pins σ (upd H l (.lst ys)) { s with heap:=s.heap.update l (Obj.mapSeq f),toks:=t' }:=by
 have q:=PySem.IsL.update e f
 rw [hf] at q
 refine I.write (x:=l) (e:=l) (by rw [hH]; exact trivial) (.inl rfl) (fun b' u hb hu=>(Heap.get?_update_other s.heap (Obj.mapSeq f) (Ne.symm hb)).trans hu) ⟨_,q⟩ ?_
 exact ⟨hz,its',_,hv,q⟩
theorem Inv.lnew {its : List Value} {t' : Nat} (I : Inv X pins σ H s) (hv : Vals ys its) (hz : ys.length ≤ sizeLine) :
 Inv X pins σ (upd H s.heap.objs.size (.lst ys)) { s with heap:=s.heap.push { cls:=.type "list",data:=.seq its.toArray },toks:=t' } :=
 I.laid (fun _ _ q=>Heap.get?_push_of_some _ q) (Nat.le_refl _) ⟨hz,its,0,hv,Heap.get?_push_size _ rfl⟩
theorem Inv.fresh (I : Inv X pins σ H s) : H s.heap.objs.size = none:=I.hok.fresh (Nat.le_refl _)
theorem Inv.lstM (I : Inv X pins σ H s) (hH : H l = some (.lst xs)) : xs.length ≤ sizeLine ∧ ∃ (its : List Value) (n : Nat),Vals xs its ∧ xs.length = its.length ∧ s.heap.get? l = some { cls:=.type "list",data:=.seq its.toArray n }:=by
 obtain ⟨z,its,n,r,e⟩:=I.hok l _ hH
 exact ⟨z,its,n,r,r.length,e⟩
theorem notLongL {n : Nat} (h : n ≤ sizeLine) : Builtin.List.listTooLong n = false:=by
 unfold Builtin.List.listTooLong
 exact decide_eq_false (by omega)
end
section
variable {X : Cx}
def rAppend : V → List V → Hp → VK → Prop:=fun x vs H Q=>∃ l xs y,x = .ref l ∧ vs = [y] ∧ H l = some (.lst xs) ∧ xs.length < sizeLine ∧ Q .non (upd H l (.lst (xs ++ [y])))
theorem mt_append : MtM X "list.append" rAppend:=by
 intro pins s σ H x vs v us Q I rx rv h
 obtain ⟨l,xs,y,rfl,rfl,hH,hz,q⟩:=h
 cases rx
 obtain ⟨u,rfl,ru⟩:=rv.one
 obtain ⟨z,its,n,r,hl,e⟩:=I.lstM hH
 refine call_meets F.slot_list_append ⟨_,e,rfl⟩ F.entry_list_append (F.args_list_append_2 _ _) (PySem.list_append l its.toArray n u (by rw [List.size_toArray]; omega)) ⟨e,?_⟩
 refine ⟨.non,_,I.lset (its':=its ++ [u]) hH e (by simp) (r.append (.cons ru .nil)) ?_,rfl,q⟩
 rw [List.length_append,List.length_singleton]
 omega
def rExtend : V → List V → Hp → VK → Prop:=fun x vs H Q=>∃ l b xs zs,x = .ref l ∧ vs = [.ref b] ∧ H l = some (.lst xs) ∧ H b = some (.lst zs) ∧ xs.length + zs.length ≤ sizeLine ∧ Q .non (upd H l (.lst (xs ++ zs)))
theorem mt_extend : MtM X "list.extend" rExtend:=by
 intro pins s σ H x vs v us Q I rx rv h
 obtain ⟨l,b,xs,zs,rfl,rfl,hH,hB,hz,q⟩:=h
 cases rx
 obtain ⟨u,rfl,ru⟩:=rv.one
 cases ru
 obtain ⟨z,its,n,r,hl,e⟩:=I.lstM hH
 obtain ⟨z2,its2,n2,r2,hl2,e2⟩:=I.lstM hB
 have hsz : its.toArray.size + its2.toArray.size ≤ sizeLine:=by rw [List.size_toArray,List.size_toArray]; omega
 have hlong : ¬ (!its.toArray.isEmpty && Builtin.List.listTooLong (its.toArray.size + its2.toArray.size)) = true:=by
  rw [notLongL hsz,Bool.and_false]
  exact Bool.false_ne_true
 refine call_meets F.slot_list_extend ⟨_,e,rfl⟩ F.entry_list_extend (F.args_list_extend_2 _ _)
  (AutoSeq1.list_extend_list_list_0 l its.toArray n b its2.toArray n2 hlong (by rw [List.size_toArray]; omega) (by omega)) ⟨e,e2,?_⟩
 refine ⟨.non,_,I.lset (its':=its ++ its2) hH e (by simp) (r.append r2) ?_,rfl,q⟩
 rw [List.length_append]
 omega
def rPop : V → List V → Hp → VK → Prop:=fun x vs H Q=>∃ l xs y,x = .ref l ∧ vs = [] ∧ H l = some (.lst xs) ∧ xs[xs.length - 1]? = some y ∧ Q y (upd H l (.lst xs.dropLast))
theorem mt_pop : MtM X "list.pop" rPop:=by
 intro pins s σ H x vs v us Q I rx rv h
 obtain ⟨l,xs,y,rfl,rfl,hH,hy,q⟩:=h
 cases rx
 have hus:=rv.zero
 subst hus
 obtain ⟨z,its,n,r,hl,e⟩:=I.lstM hH
 obtain ⟨u,hu,ru⟩:=r.get hy
 have hy' : its.toArray[its.toArray.size - 1]? = some u:=by
  show its.toArray[its.length - 1]? = some u
  rw [← Array.getElem?_toList,← hl]
  exact hu
 refine call_meets F.slot_list_pop ⟨_,e,rfl⟩ F.entry_list_pop (F.args_list_pop_1 _) (MeetsSeq.list_pop_last l its.toArray n u hy' (by rw [List.size_toArray]; omega)) ⟨e,?_⟩
 refine ⟨y,_,I.lset (its':=its.dropLast) hH e ?_ r.dropLast ?_,ru,q⟩
 · show its.toArray.eraseIdxIfInBounds (its.toArray.size - 1) = its.dropLast.toArray
   rw [List.size_toArray,List.eraseIdxIfInBounds_toArray,erase_last]
 · rw [List.length_dropLast]
   omega
def rReverse : V → List V → Hp → VK → Prop:=fun x vs H Q=>∃ l xs,x = .ref l ∧ vs = [] ∧ H l = some (.lst xs) ∧ Q .non (upd H l (.lst xs.reverse))
theorem mt_reverse : MtM X "list.reverse" rReverse:=by
 intro pins s σ H x vs v us Q I rx rv h
 obtain ⟨l,xs,rfl,rfl,hH,q⟩:=h
 cases rx
 have hus:=rv.zero
 subst hus
 obtain ⟨z,its,n,r,hl,e⟩:=I.lstM hH
 refine call_meets F.slot_list_reverse ⟨_,e,rfl⟩ F.entry_list_reverse (F.args_list_reverse_1 _) (AutoSeq1.list_reverse_list_0 l its.toArray n (by rw [List.size_toArray]; omega)) ⟨e,?_⟩
 refine ⟨.non,_,I.lset (its':=its.reverse) hH e (by simp) r.reverse ?_,rfl,q⟩
 rw [List.length_reverse]
 omega
def rCat : R2:=fun x y H Q=>∃ l b xs zs,x = .ref l ∧ y = .ref b ∧ H l = some (.lst xs) ∧ H b = some (.lst zs) ∧ xs.length + zs.length ≤ sizeLine ∧ ∀ p,H p = none → Q (.ref p) (upd H p (.lst (xs ++ zs)))
theorem op_cat : OpR X (binaryOp .Add) rCat:=by
 intro pins s σ H x y v u Q I rx ry h
 obtain ⟨l,b,xs,zs,rfl,rfl,hH,hB,hz,q⟩:=h
 cases rx
 cases ry
 obtain ⟨z,its,n,r,hl,e⟩:=I.lstM hH
 obtain ⟨z2,its2,n2,r2,hl2,e2⟩:=I.lstM hB
 refine PySem.P.add_list e e2 ?_ (by rw [List.size_toArray,List.size_toArray]; omega)
 have ea : its.toArray ++ its2.toArray = (its ++ its2).toArray:=by simp
 rw [ea]
 exact ⟨.ref _,_,I.lnew (t':=s.toks) (r.append r2) (by rw [List.length_append]; omega),rfl,q _ I.fresh⟩
end
section
variable {prog : Program} {w : World} {A : Around} {E : Value → Shared → Prop} {s : Shared}
theorem bounds_run {a c n : Nat} (hac : a ≤ c) (hc : c ≤ n) : sliceBounds (some (a : Int)) (some (c : Int)) none n = ((a : Int),(c : Int),1):=by
 simp only [sliceBounds,Option.getD_none]
 have h1 : ¬ ((a : Int) < 0):=by omega
 have h2 : ¬ ((c : Int) < 0):=by omega
 simp only [h1,h2,if_false,show (1 : Int) > 0 by decide,if_true]
 congr 1
 · omega
 · congr 1; omega
set_option maxRecDepth 100000 in
theorem setItem_slice {l b sl : Addr} {items new : Array Value} {n n2 : Nat} {vl vu : Value} {a c : Nat} {Q : Unit → Shared → Prop}
 (e : s.heap.get? l = some { cls:=.type "list",data:=.seq items n }) (e2 : s.heap.get? b = some { cls:=.type "list",data:=.seq new n2 }) (hne : l ≠ b)
 (hs : s.heap.IsSliceOf sl vl vu .none) (pl : IsPart vl (some (a : Int))) (pu : IsPart vu (some (c : Int))) (hac : a ≤ c) (hc : c ≤ items.size)
 (hsz : items.size + new.size ≤ sizeLine) (h : Q () { s with heap:=s.heap.update l (Obj.mapSeq fun xs=>xs.extract 0 a ++ new ++ xs.extract c xs.size) }) :
 wpAny (model prog w) A (setItem (.ref l) (.ref sl) (.ref b)) Q E s:=by
 have hl : s.heap.IsList l items:=PySem.IsL.isList e
 have hb : s.heap.IsList b new:=PySem.IsL.isList e2
 obtain ⟨os,hos,hcs,hds⟩:=id hs
 have hTs : s.TypeIs (.ref sl) "slice":=⟨os,hos,hcs⟩
 have hstep : ¬ ((rawPart none == rawInt 0) = true):=Bool.false_ne_true
 have hsame : Builtin.List.listSameRef (.ref l) (.ref b) = false:=by
  unfold Builtin.List.listSameRef
  exact beq_eq_false_iff_ne.mpr hne
 have hmax : (max (a : Int) (c : Int)).toNat = c:=by omega
 have hz' : ((fun xs : Array Value=>xs.extract 0 a ++ new ++ xs.extract c xs.size) items).size ≤ sizeLine + 1:=by
  simp only [Array.size_append,Array.size_extract]
  omega
 unfold setItem
 try with_reducible refine wpAny_holding ?_
 first | refine wpAny_bind (wpAny_pure ?_) | skip
 refine wpAny_bind (wpAny_sequenceKey hl.typeIs (by decide) ?_)
 refine wpAny_bind (wpAny_callSpecial?_slot (name:=Str.ofString "__setitem__") hl.typeIs slot_list_setitem
  (wpAny_call_entry slot_list_setitem hl.typeIs entry_list_setitem ?_ (args_list_setitem _ _ _)))
 show wpAny _ _ (Builtin.List.listSubscript? (.ref sl) >>= _) _ _ s
 refine wpAny_bind ?_
 unfold Builtin.List.listSubscript?
 refine wpAny_bind (wpAny_specialOf hTs slice_no_index ?_)
 simp only [Option.isNone_none,if_true]
 refine wpAny_pure ?_
 show wpAny _ _ (typeOf (.ref sl) >>= _) _ _ s
 refine wpAny_bind (wpAny_typeOf hTs ?_)
 first
  | rw [if_neg (by decide)]
  | refine PySem.W.KFB.if_not (by decide) ?_
 rw [listSliceParts_eq]
 refine wpAny_bind (wpAny_bind (wpAny_field hos hds (x:=.none) rfl (wpAny_bind (wpAny_listPart .none ?_))))
 rw [if_neg hstep]
 refine wpAny_bind (wpAny_field hos hds (x:=vl) rfl (wpAny_bind (wpAny_listPart pl ?_)))
 refine wpAny_bind (wpAny_field hos hds (x:=vu) rfl (wpAny_bind (wpAny_listPart pu (wpAny_pure ?_))))
 first
  | simp only [hsame,Bool.false_eq_true,if_false]
  | refine PySem.W.KFB.if_not hsame ?_
  | (dsimp only
     rw [if_neg (by rw [hsame]; exact Bool.false_ne_true)])
 refine wpAny_bind (m:=Builtin.List.listAllItems (.ref b) "must assign iterable to extended slice") ?_
 unfold Builtin.List.listAllItems
 refine wpAny_bind (wpAny_typeOf hb.typeIs ?_)
 first
  | refine PySem.W.KFB.if_so (by decide) ?_
  | rw [if_pos (by decide)]
  | simp only [beq_self_eq_true,Bool.true_or,if_true]
 unfold Builtin.List.listItems
 refine wpAny_bind (wpAny_seqItems e2 rfl (wpAny_pure ?_))
 refine wpAny_bind (wpAny_bind (wpAny_seqItems e rfl (wpAny_pure ?_)))
 refine wpAny_bind (wpAny_of_eq ((sliceIndices_raw (some (a : Int)) (some (c : Int)) none items.size (by simp)).trans (congrArg (pure : Int × Int × Int → Sem (Int × Int × Int)) (bounds_run hac hc))) ?_)
 show wpAny _ _ (if ((1 : Int) == 1) = true then _ else _) _ _ s
 rw [if_pos (by decide)]
 refine wpAny_bind (wpAny_rule ?_)
 first
  | simp only [notLongL hsz,Bool.false_eq_true,if_false]
  | refine PySem.W.KFB.if_not (notLongL hsz) ?_
 first | refine wpAny_bind (wpAny_pure ?_) | skip
 show wpAny _ _ (updateSeq l (fun xs=>xs.extract 0 ((a : Int)).toNat ++ new ++ xs.extract (max (a : Int) (c : Int)).toNat xs.size) >>= _) _ _ s
 rw [hmax,Int.toNat_natCast]
 refine wpAny_bind (wpAny_updateSeq (hz:=Nat.le_trans (Nat.le_add_right _ _) hsz) (_hz':=hz') e rfl ?_)
 refine wpAny_bind (wpAny_letGo ?_)
 first
  | exact wpAny_bind (wpAny_pure (wpAny_pure ⟨.none,rfl,wpAny_pure h⟩))
  | exact wpAny_pure ⟨.none,rfl,wpAny_pure h⟩
end
section
variable {X : Cx}
end
end L2
namespace Att
open PySem PySem.W PySem.Calls PyProof.Rows
theorem ints_of_wellAll {P : Params} {h : Heap} : ∀ (ns : List Int) (vs : List Value),WellAll P h vs (ns.map WData.int) → IntsAre vs ns:=by
 intro ns
 induction ns with
 | nil =>
  intro vs w
  rw [List.map_nil] at w
  cases w
  exact .nil
 | cons n ns ih =>
  intro vs w
  rw [List.map_cons] at w
  cases w with
  | cons a b =>
   cases a
   exact .cons _ _ (ih _ b)
theorem script_of {l : OpenLaw} {n : Nat} (hn : l.most = some n) {P : Params} {h : Heap} {args : List WData} {vals : List Value}
 (hpre : l.row.toRowW.claim.pre args = true) (hwl : WellAll P h vals args) :
 ∃ a vs ns,vals = [Value.ref a] ∧ args = [WData.list (ns.map WData.int)] ∧ h.get? a = some { cls:=.type "list",data:=.seq vs.toArray } ∧ IntsAre vs ns ∧ ns.length ≤ n:=by
 have hsh : WShape.hasAll [] args [.list .int] = true:=(pre_splitW hpre).1
 have hc : l.pre.holds [] { args:=args } = true:=(pre_splitW hpre).2
 obtain ⟨d,r,rfl,h1,h2⟩:=hasAllW_cons hsh
 obtain rfl:=hasAllW_nil h2
 obtain ⟨xs,rfl,h3⟩:=hasW_list h1
 obtain ⟨ns,rfl⟩:=items_int h3
 have hlen : ns.length ≤ n:=by
  unfold OpenLaw.pre at hc
  have h4 : (WTm.not (.lt (.lit (.int (n : Int))) (.len (.arg 0)))).holds [] { args:=[.list (ns.map .int)] } = true:=by
   have h4:=(holds_andW hc).1
   rw [hn] at h4
   exact h4
  have h5:=condW_of h4 (w_not (w_lt w_lit (w_len_list (w_arg rfl))))
  rw [List.length_map] at h5
  refine Nat.le_of_not_lt fun q=>?_
  have q' : (n : Int) < ((ns.length : Nat) : Int):=by omega
  first
   | (rw [decide_eq_true q'] at h5; exact absurd h5 (by decide))
   | (simp at h5; omega)
 cases hwl with
 | cons w1 w2 =>
  cases w2
  cases w1 with
  | list ho hall=>exact ⟨_,_,ns,rfl,rfl,ho,ints_of_wellAll ns _ hall,hlen⟩
theorem post_true (l : OpenLaw) (args : List WData) : l.row.toRowW.claim.post args (.bool true) args = true :=
 postW_of (r:=l.row.toRowW) (X:=(true == true))
  (show WShape.has [] (.bool true) .bool = true by first | rfl | decide | simp [WShape.has,WShape.arms,WShape.armsAll])
  (show (WTm.eq .res (.lit (.bool true))).value [] { args:=args,res:=some (.bool true),after:=args } = some (.bool (true == true)) from w_eq_bool (w_res rfl) w_lit) rfl
theorem attach_call {l : OpenLaw} {n : Nat} {q : Program} {loose : List Str} {XP : (Str → Option Value) → Heap → Prop} {YP : World → Heap → Prop} {d : DefRec}
 (hn : l.most = some n) (hdf : d.params.defaults = [])
 (call : ∀ (w : World) (s₀ s₁ : Shared) (mg mb : Str → Option Value) (fa : Addr) (o : Obj) (pm cd doc : Value) (a : Addr) (vs : List Value) (ns : List Int),
  Ground q loose [] XP w s₀ mg mb s₁.heap → YP w s₁.heap →
  s₁.heap.get? fa = some o → o.data = .func (docDef d.name d.params d.body d.scope pm cd doc) → s₁.heap.CodeRec cd d.name → mg d.name = some (.ref fa) →
  s₁.heap.get? a = some { cls:=.type "list",data:=.seq vs.toArray } → IntsAre vs ns → ns.length ≤ n → s₁.gens = #[] →
  codeAny (model l.prog w) callerA (.call (.ref fa) ⟨[.ref a],[]⟩) (fun r s'=>r = .ok (.ret (.bool true)) ∧ OldK s₁.heap s'.heap ∧ s'.os = s₁.os ∧ AllBare s'.gens) s₁) :
 WalkO q loose XP YP l.row.toRowW d [] (fun f vs=>PySem.call f vs):=by
 intro w s₀ s₁ mg mb G Y fa o pm cd doc dV kV ho hd hcd hD hmg hg args vals as hpre hlay hrd hwl hlo
 obtain rfl : dV = .none:=Dflts.none hD hdf
 obtain rfl : kV = .none:=Dflts.noKw hD
 obtain ⟨a,vs,ns,rfl,rfl,hobj,hints,hlen⟩:=script_of hn hpre hwl
 refine enter_call (codeAny_mono (call w s₀ s₁ mg mb fa o pm cd doc a vs ns G Y ho (fd_plain hd) hcd hmg hobj hints hlen hg) fun r s' hq=>?_)
 obtain ⟨rfl,h2,h3,h4⟩:=hq
 exact ⟨.inl ⟨.bool true,.bool true,[],rfl,fun _=>rfl,.bool true,post_true l _,fun _=>⟨List.Pairwise.nil,fun _ hm=>(nomatch hm)⟩⟩,h2,h3,h4⟩
section
variable {prog : Program} {w : World} {A : Around} {E : Value → Shared → Prop} {s : Shared} {K : Frag}
end
end Att
namespace L2
open PySem PySem.Spec PyProof.Rows
theorem vals_ints : ∀ {vs : List Value} {ns : List Int},IntsAre vs ns → Vals (ns.map V.int) vs
 | _,_,.nil=>.nil
 | _,_,.cons n t h=>.cons ⟨t,rfl⟩ (vals_ints h)
def Only (H : Hp) : Prop:=∀ b,H b = none ∨ ∃ o xs,H b = some (.frz o (.lst xs))
theorem law_call {P : Program} {w : World} {K : PySem.W.Frag} {mg mb : Str → Option Value} {CX : CXT} {k : Nat} {fa a : Addr} {fd : FuncData} {x : Str} {sp : Sp} {s₁ : Shared} {vs : List Value} {ns : List Int}
 (KX : K.In s₁.heap) (hns : s₁.heap.Ns mainGlobals mg) (hb : s₁.heap.Ns builtinsNs mb) (hbb : ∀ x : Str,x ≠ "__name__" → mb x = bootBuiltins x) (hlim : s₁.heap.NoLimit) (hg : s₁.gens = #[])
 (ha : s₁.heap.get? a = some { cls:=.type "list",data:=.seq vs.toArray }) (hi : IntsAre vs ns) (hl : ns.length ≤ sizeLine) (hr : Room k callerA)
 (F : ∀ base : Heap,K.In base → base.Ns mainGlobals mg → FnOk P w K mg base CX k fa fd [x] sp) (hbind : ∀ (s : Shared) (u : Value),BindsTo s fd ⟨[u],[]⟩ [(x,u)])
 (hsp : ∀ H : Hp,Only H → SqL K H a (ns.map V.int) → sp [.ref a] H (fun v _=>v = .bl true) fun _ _ _=>False)
 (hCX : ∀ H e s',CX [] H s₁ (fun _ _ _=>False) e s' → False) :
 codeAny (model P w) callerA (.call (.ref fa) ⟨[.ref a],[]⟩) (fun r s'=>r = .ok (.ret (.bool true)) ∧ OldK s₁.heap s'.heap ∧ s'.os = s₁.os ∧ AllBare s'.gens) s₁:=by
 have rv:=vals_ints hi
 have lenV:=hi.length
 have core : ∀ H : Hp,Only H → SqL K H a (ns.map V.int) → HOk P w H s₁.heap → (∀ b,H b ≠ none → b = a) → (H a ≠ none → K.lookup a = none) →
  codeAny (model P w) callerA (.call (.ref fa) ⟨[.ref a],[]⟩) (fun r s'=>r = .ok (.ret (.bool true)) ∧ OldK s₁.heap s'.heap ∧ s'.os = s₁.os ∧ AllBare s'.gens) s₁:=by
  intro H hO hS hok hA hK
  have base_of : ∀ {b : Addr} {o : Obj},s₁.heap.get? b = some o → H b = none → (hidT s₁.heap H).get? b = some o:=fun e n=>hidT_get e n
  have noA : ∀ {b : Addr} {o : Obj} {es : Array DictEntry} {ep : Nat},s₁.heap.get? b = some o → o.data = .dict es ep → H b = none:=fun {b o es ep} e d=>by
   cases q : H b with
   | none=>rfl
   | some u =>
    have e' : b = a:=hA b (by rw [q]; simp)
    subst e'
    rw [ha] at e; cases e
    have d' : Data.seq vs.toArray _ = Data.dict es ep:=d
    cases d'
  have nsK : ∀ {b : Addr} {m : Str → Option Value},s₁.heap.Ns b m → (hidT s₁.heap H).Ns b m:=fun {b m} ⟨o,es,ep,e,d,r⟩=>⟨o,es,ep,base_of e (noA e d),d,r⟩
  have hKb : K.In (hidT s₁.heap H):=fun b o e=>base_of (KX b o e) (by
   cases q : H b with
   | none=>rfl
   | some u =>
    have e' : b = a:=hA b (by rw [q]; simp)
    subst e'
    rw [hK (by rw [q]; simp)] at e; cases e)
  have hM : Mod K mg (hidT s₁.heap H):=⟨hKb,nsK hns,⟨mb,nsK hb,hbb⟩,let ⟨mc,h1,h2⟩:=hlim; ⟨mc,nsK h1,h2⟩⟩
  have e0 : Env0 P w K mg (hidT s₁.heap H) callerA [] s₁ H:=⟨rfl,hM,fun b o e=>of_hidT e,Nat.le_of_eq (hidT_size _ _),trivial,fun b hb=>absurd (show b ∈ ([] : List Addr) from hb) (by simp),hok,.of_eq hg⟩
  refine codeAny_mono ((F _ hKb (nsK hns)).run callerA [] s₁ H ⟨[.ref a],[]⟩ [.ref a] [.ref a] _ _ hr e0 (hbind s₁ (.ref a)) (.cons rfl .nil) (hsp H hO hS)) fun r s' h=>?_
  cases r with
  | error e=>exact (hCX H e s' h).elim
  | ok fl =>
   cases fl with
   | next=>exact False.elim h
   | brk=>exact False.elim h
   | cont=>exact False.elim h
   | ret u =>
    obtain ⟨v,H',os,bare,un,hok',r',q⟩:=h
    have q' : v = .bl true:=q
    subst q'
    obtain rfl : u = Value.bool true:=r'
    refine ⟨rfl,OldK.of_keep fun b o e=>?_,os,bare⟩
    cases q : H b with
    | none=>exact un.keep b o e q (by intro z; exact absurd (show b ∈ ([] : List Addr) from z) (by simp)) (by simp)
    | some u =>
     rcases hO b with z | ⟨ob,xs,z⟩
     · rw [q] at z; cases z
     · have z2:=un.frzs b ob _ z
       obtain ⟨e1,_⟩:=hok b _ z
       obtain ⟨e2,_⟩:=hok' b _ z2
       rw [e] at e1; cases e1
       exact e2
 cases hk : K.lookup a with
 | some o =>
  have e:=KX a o hk
  rw [ha] at e
  cases e
  refine core (fun _=>none) (fun _=>.inl rfl) (.inr ⟨_,vs.toArray,_,hk,rfl,rfl,rfl,by rw [List.size_toArray,lenV]; exact hl,by simpa using rv⟩) (fun b u z=>by have z' : (none : Option HO) = some u:=z; cases z') (fun b z=>absurd rfl z) fun z=>absurd rfl z
 | none =>
  refine core (fun b=>if b = a then some (.frz { cls:=.type "list",data:=.seq vs.toArray } (.lst (ns.map V.int))) else none) (fun b=>?_) (.inl (.inr ⟨{ cls:=.type "list",data:=.seq vs.toArray },if_pos rfl⟩)) (fun b u z=>?_) (fun b z=>?_) fun _=>hk
  · by_cases hb : b = a
    · exact .inr ⟨_,_,if_pos hb⟩
    · exact .inl (if_neg hb)
  · by_cases hb : b = a
    · have z':=(if_pos hb).symm.trans z
      cases z'
      subst hb
      exact ⟨ha,by rw [List.length_map]; exact hl,vs,_,rv,ha⟩
    · have z':=(if_neg hb).symm.trans z
      cases z'
  · by_cases hb : b = a
    · exact hb
    · exact absurd (if_neg hb) z
end L2
namespace L2
open PySem PySem.Spec PyProof.Rows
theorem walk_of {l : PySem.W.OpenLaw} {n k : Nat} {q : Program} {loose : List Str} {XP : (Str → Option Value) → Heap → Prop} {YP : World → Heap → Prop} {d : DefRec} {K : Params → PySem.W.Frag} {CX : World → CXT} {sp : World → Sp} {x : Str}
 (hn : l.most = some n) (hn2 : n ≤ sizeLine) (hdf : d.params.defaults = []) (hr : Room k callerA)
 (hY : ∀ (w : World) (h : Heap),YP w h → (K w.params).In h)
 (F : ∀ (w : World) (mg : Str → Option Value) (fa : Addr) (h : Heap),(K w.params).In h → h.Ns mainGlobals mg → mg d.name = some (.ref fa) →
  ∃ fd : FuncData,(∀ (s : Shared) (u : Value),BindsTo s fd ⟨[u],[]⟩ [(x,u)]) ∧
   ∀ base : Heap,(K w.params).In base → base.Ns mainGlobals mg → FnOk l.prog w (K w.params) mg base (CX w) k fa fd [x] (sp w))
 (hsp : ∀ (w : World) (H : Hp) (a : Addr) (ns : List Int),ns.length ≤ n → Only H → SqL (K w.params) H a (ns.map V.int) → sp w [.ref a] H (fun v _=>v = .bl true) fun _ _ _=>False)
 (hCX : ∀ (w : World) (H : Hp) (s : Shared) (e : Value) (s' : Shared),CX w [] H s (fun _ _ _=>False) e s' → False) :
 PySem.W.WalkO q loose XP YP l.row.toRowW d [] (fun f vs=>PySem.call f vs):=by
 refine Att.attach_call hn hdf fun w s₀ s₁ mg mb fa o pm cd doc a vs ns G Y ho hd hcd hmg hobj hints hlen hg=>?_
 have KX:=hY w _ Y
 obtain ⟨fd,hb,hF⟩:=F w mg fa _ KX G.T.g hmg
 exact law_call KX G.T.g G.T.b G.T.builtins G.T.nolimit hg hobj hints (Nat.le_trans hlen hn2) hr hF hb (fun H hO hS=>hsp w H a ns hlen hO hS) fun H e s'=>hCX w H s₁ e s'
end L2
namespace L2
open PySem PySem.Spec PyProof.Rows
def defArgs (s : Stmt) : Arguments:=match s with
 | .FunctionDef _ a _ _ _ _ _ _ _ _=>a
 | _=>{ posonlyargs:=[],args:=[],vararg:=none,kwonlyargs:=[],kw_defaults:=[],kwarg:=none,defaults:=[] }
def defBody (s : Stmt) : List Stmt:=match s with
 | .FunctionDef _ _ b _ _ _ _ _ _ _=>b
 | _=>[]
def defScope (s : Stmt) : Scope:=match s with
 | .FunctionDef _ _ _ _ _ _ sc _ _ _=>sc
 | _=>{ kind:=.function,names:=[],isGenerator:=false,isCoroutine:=false }
abbrev CX0 : CXT:=fun _ _ _ _ _ _=>False
abbrev E0 : XK:=fun _ _ _=>False
theorem pass0 {X : Cx} : Passes CX0 X E0:=fun _ _ _ _ _ _ _ h=>h.elim
structure Fun (K : PySem.W.Frag) (x qual : Str) (st : Stmt) (f : Addr) (fd : FuncData) : Prop where
 ex : ∃ (oc : Value) (od : Option Addr) (kV doc pm : Value) (an : Option Addr) (cdv ct : Value) (osl : Array (Option Value)),
  fd = PySem.W.fnOf x qual (defArgs st) (defBody st) (defScope st) .none kV doc pm an cdv ct ∧ K.lookup f = some ⟨oc,od,.func fd,osl⟩ ∧ PySem.W.codeIn K cdv qual = true
 kp : PySem.W.keepIn K (.ref f) = true
section
variable {P : Program} {w : World} {K : PySem.W.Frag} {mg : Str → Option Value} {base : Heap}
theorem Fun.ok {x qual : Str} {st : Stmt} {f : Addr} {fd : FuncData} {N ps : List Str} {k : Nat} {sp : Sp} (F : Fun K x qual st f fd) (S : FnScope N ps (defScope st)) (len : ∀ vs H Q E,sp vs H Q E → vs.length = ps.length)
 (hbody : ∀ (cdv : Value) (A : Around) (outer : List Env) (s : Shared) (H : Hp) (vs : List V) (Q : VK) (E : XK),Room k (A.deeper (envOfC qual (defScope st) s.heap.objs.size f cdv)) → sp vs H Q E →
  ∃ t,PSs (cxOf CX0 P w K mg base N qual (defScope st) f cdv A outer s H E).nox (defBody st) t ∧ t { nx:=fun _ H'=>Q .non H',rt:=Q } (start N vs) H) : FnOk P w K mg base CX0 (k + 1) f fd ps sp:=by
 obtain ⟨oc,od,kV,doc,pm,an,cdv,ct,osl,rfl,lk,hcd⟩:=F.ex
 refine fn_of lk hcd S len fun A outer s H vs Q E hr hsp=>?_
 obtain ⟨t,h,q⟩:=hbody cdv A outer s H vs Q E hr hsp
 exact ⟨t,h.nox,q⟩
theorem Fun.binds {x qual : Str} {st : Stmt} {f : Addr} {fd : FuncData} {ps : List Str} (F : Fun K x qual st f fd)
 (h : ∀ (kV doc pm : Value) (an : Option Addr) (cdv ct : Value) (us : List Value),us.length = ps.length → bindArgs (PySem.W.fnOf x qual (defArgs st) (defBody st) (defScope st) .none kV doc pm an cdv ct) ⟨us,[]⟩ = pure (ps.zip us)) : Binds K fd ps []:=by
 obtain ⟨oc,od,kV,doc,pm,an,cdv,ct,osl,rfl,lk,hcd⟩:=F.ex
 exact .all (h kV doc pm an cdv ct)
theorem fun_mk {x qual : Str} {st : Stmt} {f : Addr} {oc : Value} {od an : Option Addr} {osl : Array (Option Value)} {kV doc pm cdv ct : Value} (l : K.lookup f = some ⟨oc,od,.func (PySem.W.fnOf x qual (defArgs st) (defBody st) (defScope st) .none kV doc pm an cdv ct),osl⟩)
 (c : PySem.W.codeIn K cdv qual = true) (k : PySem.W.keepIn K (.ref f) = true) : Fun K x qual st f (PySem.W.fnOf x qual (defArgs st) (defBody st) (defScope st) .none kV doc pm an cdv ct):=⟨⟨oc,od,kV,doc,pm,an,cdv,ct,osl,rfl,l,c⟩,k⟩
end
theorem hu_of {A : Around} {k : Nat} (hr : Room k A) : A.units + 1 < cLine:=Nat.lt_of_le_of_lt (Nat.add_le_add_left (by decide : 1 ≤ 64) _) hr.units
theorem small1000 {n : Nat} (h : n ≤ 1000) : n < sizeLine:=Nat.lt_of_le_of_lt h (by decide)
section
variable {X : Cx}
theorem pv (i : Nat) {x : Str} {pos : Pos} (hN : X.N[i]? = some x:=by rfl) (hv : Vis X.env.scope x:=by first | exact Or.inl rfl | exact Or.inr (Or.inl rfl) | exact Or.inr (Or.inr rfl)) (hd : (x == ("__debug__" : Str)) = false:=by decide)
 (hcd : (x == ("__classdict__" : Str)) = false:=by decide) : PE X (.Name x pos) (tVar i):=pe_var hN hv hd hcd
end
theorem iteF {A B : Prop} (h : B) : if false = true then A else B:=by
 rw [if_neg Bool.false_ne_true]
 exact h
theorem iteT {A B : Prop} (h : A) : if true = true then A else B:=by
 rw [if_pos rfl]
 exact h
theorem ite2 {c A B : Prop} [Decidable c] (h1 : c → A) (h2 : ¬ c → B) : if c then A else B:=by
 by_cases h : c
 · rw [if_pos h]
   exact h1 h
 · rw [if_neg h]
   exact h2 h
def Same (H H' : Hp) : Prop:=∀ b o,H b = some o → H' b = some o
theorem Same.trans {H H1 H2 : Hp} (a : Same H H1) (b : Same H1 H2) : Same H H2:=fun c o h=>b c o (a c o h)
theorem Same.free {H H' : Hp} (e : Same H H') {l : Addr} (h : H' l = Option.none) : H l = Option.none:=by
 cases q : H l with
 | none=>rfl
 | some o =>
  rw [e l o q] at h
  cases h
theorem Same.seq {K : PySem.W.Frag} {H H' : Hp} {a : Addr} {xs : List V} (e : Same H H') (h : SqL K H a xs) : SqL K H' a xs:=by
 rcases h with (h | ⟨o,h⟩) | h
 · exact .inl (.inl (e _ _ h))
 · exact .inl (.inr ⟨o,e _ _ h⟩)
 · exact .inr h
end L2
namespace L2
open PySem PySem.Spec PyProof.Rows
section
variable {X : Cx}
end
end L2
set_option maxHeartbeats 4000000
namespace L2
open PySem PySem.Spec PyProof.Rows
theorem closure_go {env : Env} (f : Str × NameKind → List (Str × Addr) → Sem (ForInStep (List (Str × Addr))))
 (hf : ∀ n k cs,f (n,k) cs = if (k == NameKind.free) = true then (cellOf env n >>= fun a=>pure (ForInStep.yield ((n,a) :: cs))) else pure (ForInStep.yield cs)) :
 ∀ (names : List (Str × NameKind)) (acc : List (Str × Addr)),(∀ x ∈ names,x.2 = NameKind.free → ∃ c,env.cells.lookup x.1 = some c) → (∀ x c,acc.lookup x = some c → env.cells.lookup x = some c) →
  ∃ cl,forIn names acc f = (pure cl : Sem (List (Str × Addr))) ∧ (∀ x c,cl.lookup x = some c → env.cells.lookup x = some c) ∧ (∀ x c,acc.lookup x = some c → ∃ c',cl.lookup x = some c') ∧ ∀ x ∈ names,x.2 = NameKind.free → ∃ c,cl.lookup x.1 = some c
 | [],acc,_,ha=>⟨acc,by simp,ha,fun x c e=>⟨c,e⟩,fun x hx=>by simp at hx⟩
 | (n,k) :: r,acc,hn,ha=>by
  have hn' : ∀ x ∈ r,x.2 = NameKind.free → ∃ c,env.cells.lookup x.1 = some c:=fun x hx=>hn x (List.mem_cons_of_mem _ hx)
  cases hk : k == NameKind.free with
  | false =>
   obtain ⟨cl,e,h1,h2,h3⟩:=closure_go f hf r acc hn' ha
   refine ⟨cl,?_,h1,h2,fun x hx hz=>?_⟩
   · rw [List.forIn_cons,hf,hk,if_neg Bool.false_ne_true,pure_bind]
     exact e
   · rcases List.mem_cons.mp hx with z | hx
     · subst z
       have hz' : k = NameKind.free:=hz
       rw [hz'] at hk
       exact absurd hk (by decide)
     · exact h3 x hx hz
  | true =>
   have hk' : k = NameKind.free:=by cases k <;> first | rfl | exact absurd hk (by decide)
   obtain ⟨c,hc⟩:=hn (n,k) List.mem_cons_self hk'
   have hc' : env.cells.lookup n = some c:=hc
   obtain ⟨cl,e,h1,h2,h3⟩:=closure_go f hf r ((n,c) :: acc) hn' (fun x d ed=>by
    rw [List.lookup_cons] at ed
    cases hx : x == n with
    | true =>
     rw [hx] at ed
     rw [eq_of_beq hx,hc']
     exact ed
    | false =>
     rw [hx] at ed
     exact ha x d ed)
   have hnl : ∃ c',cl.lookup n = some c':=h2 n c (by rw [List.lookup_cons,beq_self_eq_true])
   refine ⟨cl,?_,h1,fun x d ed=>?_,fun x hx hz=>?_⟩
   · rw [List.forIn_cons,hf,hk,if_pos rfl]
     unfold cellOf
     rw [hc']
     rw [pure_bind,pure_bind]
     exact e
   · cases hx : x == n with
     | true =>
      rw [eq_of_beq hx]
      exact hnl
     | false =>
      refine h2 x d ?_
      rw [List.lookup_cons,hx]
      exact ed
   · rcases List.mem_cons.mp hx with z | hx
     · subst z
       exact hnl
     · exact h3 x hx hz
theorem closureFor_all {scope : Scope} {env : Env} (h : ∀ x ∈ scope.names,x.2 = NameKind.free → ∃ c,env.cells.lookup x.1 = some c) :
 ∃ cl,closureFor scope env = pure cl ∧ (∀ x c,cl.lookup x = some c → env.cells.lookup x = some c) ∧ ∀ x ∈ scope.names,x.2 = NameKind.free → ∃ c,cl.lookup x.1 = some c:=by
 obtain ⟨cl,e,h1,_,h3⟩:=closure_go (env:=env) (fun p cs=>if (p.2 == NameKind.free) = true then (cellOf env p.1 >>= fun a=>pure (ForInStep.yield ((p.1,a) :: cs))) else pure (ForInStep.yield cs)) (fun n k cs=>rfl) scope.names [] h (fun x c z=>by simp at z)
 refine ⟨cl,?_,h1,h3⟩
 have key : closureFor scope env = (forIn scope.names ([] : List (Str × Addr)) (fun (p : Str × NameKind) cs=>if (p.2 == NameKind.free) = true then (cellOf env p.1 >>= fun a=>pure (ForInStep.yield ((p.1,a) :: cs))) else pure (ForInStep.yield cs)) >>= fun cs=>pure cs):=rfl
 rw [key,e,pure_bind]
theorem lookup_mem {names : List (Str × NameKind)} {x : Str} {k : NameKind} (h : names.lookup x = some k) : (x,k) ∈ names:=by
 induction names with
 | nil=>simp at h
 | cons p r ih =>
  obtain ⟨n,j⟩:=p
  rw [List.lookup_cons] at h
  cases hx : x == n with
  | true =>
   rw [hx] at h
   have e : j = k:=Option.some.inj h
   rw [eq_of_beq hx,e]
   exact List.mem_cons_self
  | false =>
   rw [hx] at h
   exact List.mem_cons_of_mem _ (ih h)
def relK (env : Env) (p : Str × NameKind) : Str × NameKind:=if (p.2 == NameKind.free && env.scope.kind == .function && env.kindOf p.1 == some .cell) then (p.1,.cell) else p
theorem relabel_names (scope : Scope) (env : Env) : (relabel scope env).names = scope.names.map (relK env):=rfl
theorem lookup_relK {env : Env} : ∀ (names : List (Str × NameKind)) (x : Str),(names.map (relK env)).lookup x = (names.lookup x).map fun k=>(relK env (x,k)).2
 | [],x=>rfl
 | (n,k) :: r,x=>by
  rw [List.map_cons]
  have e1 : (relK env (n,k)).1 = n:=by unfold relK; split <;> rfl
  have : relK env (n,k) = (n,(relK env (n,k)).2):=Prod.ext e1 rfl
  rw [this,List.lookup_cons,List.lookup_cons]
  cases hx : x == n with
  | true =>
   rw [eq_of_beq hx]
   rfl
  | false=>exact lookup_relK r x
theorem rel_free {scope : Scope} {env : Env} {x : Str} (h : scope.names.lookup x = some .free) : (relabel scope env).names.lookup x = some .cell ∨ (relabel scope env).names.lookup x = some .free:=by
 rw [relabel_names,lookup_relK,h]
 unfold relK
 simp only [Option.map_some]
 split
 · exact .inl rfl
 · exact .inr rfl
theorem of_rel_cf {scope : Scope} {env : Env} {x : Str} (hc : ∀ y ∈ scope.names,y.2 ≠ .cell) (h : (relabel scope env).names.lookup x = some .cell ∨ (relabel scope env).names.lookup x = some .free) : scope.names.lookup x = some .free:=by
 rw [relabel_names,lookup_relK] at h
 cases e : scope.names.lookup x with
 | none=>rw [e] at h; rcases h with h | h <;> cases h
 | some k =>
  rw [e] at h
  have hm:=lookup_mem e
  have nk : k ≠ .cell:=hc _ hm
  simp only [Option.map_some,Option.some.injEq] at h
  by_cases hf : k = .free
  · rw [hf]
  · have hb : (k == NameKind.free) = false:=by cases k <;> first | rfl | exact absurd rfl hf
    have : (relK env (x,k)).2 = k:=by
     unfold relK
     simp [hb]
    rw [this] at h
    rcases h with h | h
    · exact absurd h nk
    · exact absurd h hf
def cxComp (X : Cx) (N : List Str) (scope : Scope) (cl : List (Str × Addr)) (C : Addr) (s : Shared) (H : Hp) (fp : List Addr) (pn : List (Addr × Obj)) : Cx where
 prog:=X.prog
 w:=X.w
 K:=X.K
 mg:=X.mg
 base:=X.base
 A:=X.A
 N:=N
 s₀:=s
 H₀:=H
 env:=compEnvC scope cl C X.env
 outer:=X.stack
 stack:=X.stack
 ex:=fp
 fn:=fun _=>false
 calm:=true
 pn:=pn
 xe:=fun _ _=>False
structure CompSc (X : Cx) (N : List Str) (js : List (Option Nat)) (scope : Scope) : Prop where
 kind : scope.kind = .function
 nocell : ∀ y ∈ scope.names,y.2 ≠ .cell
 names : ∀ y ∈ scope.names,y.2 = .local → scope.names.lookup y.1 = some .local
 frees : ∀ y ∈ scope.names,y.2 = .free → X.env.kindOf y.1 = some .cell ∨ X.env.kindOf y.1 = some .free
 len : js.length = N.length
 pull : ∀ (i j : Nat) (x : Str),js[i]? = some (some j) → N[i]? = some x → X.N[j]? = some x ∧ scope.names.lookup x = some .free
def pullOk (xn : List Str) (names : List (Str × NameKind)) : List Str → List (Option Nat) → Bool
 | [],[]=>true
 | _ :: N,none :: js=>pullOk xn names N js
 | x :: N,some j :: js=>(match xn[j]? with | some y=>decide (y = x) | none=>false) && (match names.lookup x with | some .free=>true | _=>false) && pullOk xn names N js
 | _,_=>false
theorem pullOk_len {xn : List Str} {names : List (Str × NameKind)} : ∀ {N : List Str} {js : List (Option Nat)},pullOk xn names N js = true → js.length = N.length
 | [],[],_=>rfl
 | x :: N,none :: js,h=>by
  have:=pullOk_len (N:=N) (js:=js) (by simpa [pullOk] using h)
  simp [this]
 | x :: N,some j :: js,h=>by
  have h' : pullOk xn names N js = true:=by
   simp only [pullOk,Bool.and_eq_true] at h
   exact h.2
  simp [pullOk_len h']
 | [],_ :: _,h=>by simp [pullOk] at h
 | _ :: _,[],h=>by simp [pullOk] at h
theorem pullOk_at {xn : List Str} {names : List (Str × NameKind)} : ∀ {N : List Str} {js : List (Option Nat)},pullOk xn names N js = true → ∀ (i j : Nat) (x : Str),js[i]? = some (some j) → N[i]? = some x → xn[j]? = some x ∧ names.lookup x = some .free
 | [],[],_,i,j,x,e,_=>by simp at e
 | y :: N,none :: js,h,i,j,x,e1,e2=>by
  cases i with
  | zero=>simp at e1
  | succ i =>
   exact pullOk_at (N:=N) (js:=js) (by simpa [pullOk] using h) i j x (by simpa using e1) (by simpa using e2)
 | y :: N,some j' :: js,h,i,j,x,e1,e2=>by
  simp only [pullOk,Bool.and_eq_true] at h
  obtain ⟨⟨h1,h2⟩,h3⟩:=h
  cases i with
  | zero =>
   have ej : j' = j:=by simpa using e1
   have ey : y = x:=by simpa using e2
   subst ej ey
   constructor
   · cases q : xn[j']? with
     | none=>rw [q] at h1; cases h1
     | some z =>
      rw [q] at h1
      rw [of_decide_eq_true h1]
   · cases q : names.lookup y with
     | none=>rw [q] at h2; cases h2
     | some k =>
      rw [q] at h2
      cases k <;> first | rfl | cases h2
  | succ i=>exact pullOk_at h3 i j x (by simpa using e1) (by simpa using e2)
 | [],_ :: _,h,_,_,_,_,_=>by simp [pullOk] at h
 | _ :: _,[],h,_,_,_,_,_=>by simp [pullOk] at h
def isFn : ScopeKind → Bool
 | .function=>true
 | _=>false
def compOk (xn : List Str) (xs : List (Str × NameKind)) (N : List Str) (js : List (Option Nat)) (scope : Scope) : Bool :=
 isFn scope.kind && (scope.names.all fun y=>match y.2 with
  | .cell=>false
  | .local=>(match scope.names.lookup y.1 with | some .local=>true | _=>false)
  | .free=>(match xs.lookup y.1 with | some .cell=>true | some .free=>true | _=>false)
  | _=>true) && pullOk xn scope.names N js
theorem CompSc.of {X : Cx} {N : List Str} {js : List (Option Nat)} {scope : Scope} (h : compOk X.N X.env.scope.names N js scope = true) : CompSc X N js scope:=by
 unfold compOk at h
 simp only [Bool.and_eq_true,List.all_eq_true] at h
 obtain ⟨⟨h1,h2⟩,h3⟩:=h
 refine ⟨?_,fun y hy e=>?_,fun y hy e=>?_,fun y hy e=>?_,pullOk_len h3,pullOk_at h3⟩
 · cases q : scope.kind <;> rw [q] at h1 <;> first | rfl | cases h1
 · have:=h2 y hy
   rw [e] at this
   cases this
 · have:=h2 y hy
   rw [e] at this
   cases q : scope.names.lookup y.1 with
   | none=>rw [q] at this; cases this
   | some k=>rw [q] at this; cases k <;> first | rfl | cases this
 · have:=h2 y hy
   rw [e] at this
   show X.env.scope.names.lookup y.1 = some .cell ∨ X.env.scope.names.lookup y.1 = some .free
   cases q : X.env.scope.names.lookup y.1 with
   | none=>rw [q] at this; cases this
   | some k=>rw [q] at this; cases k <;> first | exact .inl rfl | exact .inr rfl | cases this
def pullS (js : List (Option Nat)) (σ : St) : St:=js.map fun oj=>match oj with | none=>none | some j=>(σ[j]?).getD none
section
variable {X : Cx} {pins : List (Addr × Obj)} {σ : St} {H : Hp} {s : Shared}
theorem Inv.enter {N : List Str} {js : List (Option Nat)} {scope : Scope} {cl : List (Str × Addr)} {C : Addr} {fp : List Addr} {h' : Heap} {m : Str → Option Value} {tk : Nat} (I : Inv X pins σ H s) (S : CompSc X N js scope) (hc : X.calm = true)
 (hcl : ∀ x c,cl.lookup x = some c → X.env.cells.lookup x = some c) (hfr : ∀ x ∈ scope.names,x.2 = NameKind.free → ∃ c,cl.lookup x.1 = some c) (hC : C = s.heap.objs.size)
 (hf : ∀ b ∈ fp,FpOk X pins H b) (hl : ∀ b ∈ fp,b < s.heap.objs.size) (hn : h'.Ns C m) (k : ∀ b o,s.heap.get? b = some o → h'.get? b = some o) :
 Inv (cxComp X N scope cl C s H fp (X.pn ++ pins)) [] (pullS js σ) H { s with heap:=h',toks:=tk }:=by
 have lt : ∀ b o,s.heap.get? b = some o → b ≠ C:=fun b o e=>by
  rw [hC]
  exact Nat.ne_of_lt (Heap.lt_size e)
 have inLook : ∀ x,scope.names.lookup x = some .free → ∃ c,cl.lookup x = some c:=fun x e=>hfr _ (lookup_mem e) rfl
 have stk : ∀ b,b ≠ X.env.locals → b ∉ X.fs → b ∉ frs X.stack:=fun b h1 h2 z=>(List.mem_cons.mp (I.stkSub b z)).elim h1 h2
 have ok : (cxComp X N scope cl C s H fp (X.pn ++ pins)).Ok:=by
  refine ⟨I.ok.mod,S.kind,I.ok.glob,I.ok.blt,Nat.le_of_eq hC.symm,fun x y c e1 e2=>I.ok.inj x y c (hcl x c e1) (hcl y c e2),fun x hx=>inLook x (of_rel_cf S.nocell hx),fun x c e _=>?_,fun _=>I.ok.hd hc,
   I.ok.frames,.inl rfl,fun b hb=>⟨?_,fun x c e=>(hf b hb).2.2.2.2.1 x c (hcl x c e)⟩,I.bs,Nat.le_trans I.ok.bsz I.sz,fun b o e hb=>?_,fun b hb=>stk b (hf b hb).2.1 (hf b hb).2.2.1,I.stack,I.stkFree⟩
  · cases e
  · show b ≠ C
    rw [hC]
    exact Nat.ne_of_lt (hl b hb)
  · rcases (hf b hb).2.2.2.1 with z | z
    · exact I.ok.noex b o e z
    · exact absurd (Nat.lt_of_lt_of_le (Heap.lt_size e) (Nat.le_trans I.ok.bsz z)) (Nat.lt_irrefl _)
 refine ⟨ok,rfl,I.bare,Un.kept k,⟨m,hn,fun i x v e1 e2 e3=>?_⟩,fun x c e=>?_,?_,fun x c e=>I.freeC x c (hcl x c e),fun p hp=>?_,I.hok.kept k,?_⟩
 · -- a name that the block closes over
   have e2' : (pullS js σ)[i]? = some (some v):=e2
   unfold pullS at e2'
   rw [List.getElem?_map] at e2'
   cases q : js[i]? with
   | none=>rw [q] at e2'; cases e2'
   | some oj =>
    rw [q] at e2'
    cases oj with
    | none=>cases e2'
    | some j =>
     have ev : (σ[j]?).getD none = some v:=Option.some.inj e2'
     have ev' : σ[j]? = some (some v):=by
      cases z : σ[j]? with
      | none=>rw [z] at ev; cases ev
      | some o=>rw [z] at ev; exact congrArg some ev
     obtain ⟨n1,n2⟩:=S.pull i j x q e1
     obtain ⟨c,hc'⟩:=inLook x n2
     have hcX:=hcl x c hc'
     obtain ⟨m0,_,hl0⟩:=I.loc
     have kx:=S.frees (x,.free) (lookup_mem n2) rfl
     have kx' : X.env.kindOf x = some .cell ∨ X.env.kindOf x = some .free:=kx
     obtain ⟨u,ru,lk⟩:=hl0 j x v n1 ev' (kx'.elim (fun z=>.inr (.inl z)) fun z=>.inr (.inr z))
     refine ⟨u,ru,.inr ⟨rel_free n2,c,hc',?_⟩⟩
     rcases lk with ⟨kl,_⟩ | ⟨_,c2,e2,ic⟩
     · rcases kx' with z | z <;> (rw [kl] at z; cases z)
     · rw [hcX] at e2
       cases e2
       obtain ⟨o,ho,hd⟩:=ic
       exact ⟨o,k c o ho,hd⟩
 · obtain ⟨v,o,ho,hd⟩:=I.cell x c (hcl x c e)
   exact ⟨v,o,k c o ho,hd⟩
 · show H C = none
   rw [hC]
   exact I.hok.fresh (Nat.le_refl _)
 · have hp' : p ∈ X.pn ++ pins:=by simpa [cxComp] using hp
   obtain ⟨e,n,ne,nf,d⟩:=I.pin p hp'
   exact ⟨k _ _ e,n,lt _ _ e,stk _ ne nf,d⟩
 · show (pullS js σ).length = N.length
   unfold pullS
   rw [List.length_map]
   exact S.len
theorem Inv.left {N : List Str} {scope : Scope} {cl : List (Str × Addr)} {C : Addr} {fp : List Addr} {σc : St} {H' : Hp} {s' : Shared} {pn : List (Addr × Obj)} (I : Inv X pins σ H s) (hf : ∀ b ∈ fp,FpOk X pins H b)
 (J : Inv (cxComp X N scope cl C s H fp pn) [] σc H' s') : Inv X pins σ H' s' :=
 I.call' (ch:=fp) J.os J.base J.hok J.bare fun b hb=>⟨(hf b hb).2.2.2.1,(hf b hb).2.1,(hf b hb).2.2.2.2.1,(hf b hb).2.2.2.2.2⟩
end
def PIfs (X : Cx) (ifs : List Expr) (t : TT) : Prop :=
 ∀ (pins : List (Addr × Obj)) (s : Shared) (σ : St) (H : Hp) (Q : Bool → Hp → Prop),Inv X pins σ H s → t σ H Q →
  wpAny (model X.prog X.w) X.A (forIn ifs true fun c r=>if r = true then do let ok ← isTrue c X.env (eval c X.env); pure (ForInStep.yield ok) else pure (ForInStep.yield r)) (TP X pins σ Q) X.xe s
def tYes : TT:=fun _ H Q=>Q true H
theorem pifs_nil {X : Cx} : PIfs X [] tYes:=fun pins s σ H Q I h=>by
 rw [List.forIn_nil]
 exact wpAny_pure ⟨H,I,h⟩
theorem pifs_one {X : Cx} {c : Expr} {t : TT} (hc : PT X c t) : PIfs X [c] t:=fun pins s σ H Q I h=>by
 rw [List.forIn_cons]
 refine wpAny_bind ?_
 rw [if_pos rfl]
 refine wpAny_bind (thn (hc pins s σ H Q I h) fun b s1 h1=>?_)
 refine wpAny_pure ?_
 show wpAny _ _ (forIn [] b _) _ _ _
 rw [List.forIn_nil]
 exact wpAny_pure h1
theorem compLoop_any {prog : Program} {w : World} {A : Around} {R : Result → Shared → Prop} {s : Shared} {elt target iter : Expr} {ifs : List Expr} {scope : Scope} {pos : Pos} {it acc : Value} {env : Env} (I : Nat → Shared → Prop)
 (turn : ∀ n s,I n s → wpAny (model prog w) A (pyNext it) (fun r s₁=>match r with
  | none=>R (.ok .next) s₁
  | some v=>wpAny (model prog w) A (letOwnedTupleGo target it v) (fun _ s₁'=>wpAny (model prog w) A (assign target env v) (fun _ s₂ =>
   wpAny (model prog w) A (forIn ifs true fun c r=>if r = true then do let ok ← isTrue c env (eval c env); pure (ForInStep.yield ok) else pure (ForInStep.yield r)) (fun ok s₃ =>
    if ok = true then wpAny (model prog w) A (eval elt env) (fun x s₄ =>
     wpAny (model prog w) A (call (.builtin "list.append") [acc,x]) (fun _ s₅=>∃ m,m < n ∧ I m s₅) (fun _ _=>False) s₄) (fun _ _=>False) s₃
    else ∃ m,m < n ∧ I m s₃) (fun _ _=>False) s₂) (fun _ _=>False) s₁') (fun _ _=>False) s₁) (fun _ _=>False) s)
 (n : Nat) (h : I n s) :
 codeAny (model prog w) A (.compLoop (.ListComp elt [⟨target,iter,ifs,0⟩] scope pos) 0 it acc env) R s:=by
 refine codeAny_loop rfl I (fun n s hI=>?_) n h
 show wpAny _ A ((compTurn (.ListComp elt [⟨target,iter,ifs,0⟩] scope pos) 0 it acc env).onRaise (fun x=>do noteFrame x env; theTreesLotGoes x)) _ _ s
 refine wpAny_noted ?_
 rw [compTurn_list]
 refine wpAny_bind (wpAny_standAt (wpAny_bind (wpAny_mono (turn n s hI) (fun r s₁ h₁=>?_) fun _ _ h'=>h'.elim)))
 cases r with
 | none=>exact wpAny_pure h₁
 | some v =>
  refine wpAny_bind (wpAny_mono h₁ (fun _ s₁' h₁'=>?_) fun _ _ h'=>h'.elim)
  refine wpAny_bind (wpAny_mono h₁' (fun _ s₂ h₂=>wpAny_bind (wpAny_mono h₂ (fun ok s₃ h₃=>?_) fun _ _ h'=>h'.elim)) fun _ _ h'=>h'.elim)
  cases ok with
  | false=>exact wpAny_pure ⟨rfl,h₃⟩
  | true =>
   exact wpAny_bind (wpAny_bind (wpAny_mono h₃ (fun x s₄ h₄=>wpAny_bind (wpAny_mono h₄ (fun _ s₅ h₅=>wpAny_pure (wpAny_pure ⟨rfl,h₅⟩)) fun _ _ h'=>h'.elim)) fun _ _ h'=>h'.elim))
def bLC (D : Addr) (g : TG) (ti : TT) (te : TE) (J : It) (W : Nat → Nat → St → Hp → Prop) (Q : Hp → Prop) : Prop:=∀ i m σ H,W i m σ H →
 (J.stop i H ∧ Q H) ∨ (J.go i H ∧ ∀ x H',J.yld i H x H' → g x σ H' fun σ2 H2=>ti σ2 H2 fun b H3 =>
  if b = true then te σ2 H3 fun y H4=>∃ acc,H4 D = some (.lst acc) ∧ acc.length < sizeLine ∧ ∃ m',m' < m ∧ W (i + 1) m' σ2 (upd H4 D (.lst (acc ++ [y])))
  else ∃ m',m' < m ∧ W (i + 1) m' σ2 H3)
def tLC (js : List (Option Nat)) (wi : TI) (g : TG) (ti : TT) (te : TE) : TE:=fun σ H Q=>wi σ H fun J H1=>∀ D,H1 D = none →
 ∃ W : Nat → Nat → St → Hp → Prop,(∃ m,W 0 m (pullS js σ) (upd H1 D (.lst []))) ∧ bLC D g ti te J W (fun H'=>Q (.ref D) H')
section
variable {X : Cx} {N : List Str} {js : List (Option Nat)} {scope : Scope} {elt tg iter : Expr} {ifs : List Expr} {pos : Pos} {wi : TI} {g : TG} {ti : TT} {te : TE}
theorem lc_run {use : Option (Value → Sem Unit)} {R : Value → Shared → Prop} (S : CompSc X N js scope) (hc : X.calm = true) (hi : PI X tg iter wi)
 (hg : ∀ cl C s H fp pn,PG (cxComp X N scope cl C s H fp pn) tg g) (ht : ∀ cl C s H fp pn,PIfs (cxComp X N scope cl C s H fp pn) ifs ti) (he : ∀ cl C s H fp pn,PE (cxComp X N scope cl C s H fp pn) elt te)
 (hs : ∀ x,foldedSetIterable iter X.env x = pure x) {pins : List (Addr × Obj)} {s : Shared} {σ : St} {H : Hp} {Q : V → Hp → Prop} (I : Inv X pins σ H s) (h : tLC js wi g ti te σ H Q)
 (hR : ∀ D C (H' : Hp) (s' : Shared),Inv X pins σ H' s' → (∃ m,s'.heap.Ns C m) → H' C = none → C ≠ X.env.locals → (C ∈ X.ex ∨ X.s₀.heap.objs.size ≤ C) → (∀ x c,X.env.cells.lookup x = some c → c ≠ C) → (∀ p ∈ X.pn ++ pins,p.1 ≠ C) → Q (.ref D) H' →
  compPost (model X.prog X.w) X.A X.xe use R (.ref D) C (.ok .next) s') :
 wpAny (model X.prog X.w) X.A (comprehension (.ListComp elt [⟨tg,iter,ifs,0⟩] scope pos) scope X.env (firstIterPos [⟨tg,iter,ifs,0⟩] pos) (newList []) false (eval iter X.env) use) R X.xe s:=by
 obtain ⟨cl,hclos,hcl,hfr⟩:=closureFor_all (scope:=scope) (env:=X.env) fun x hx hk=>I.ok.has x.1 (S.frees x hx hk)
 refine wpAny_comprehension_free (use:=use) rfl hs hclos S.kind S.names (thn (hi pins s σ H _ I h) fun xv s1 h1=>thn h1 fun itv s2 h2=>?_)
 obtain ⟨it,fp,tn,J,H2,e,I2,T,st2,f2,q2⟩:=h2
 subst e
 refine wpAny_newObj_type (wpAny_newFunctionEnv S.nocell (by intro y hy; simp at hy) (fun h₁ hns₁ hsb₁=>?_) S.kind)
 dsimp only at hns₁ hsb₁ ⊢
 have I3 : Inv X pins σ (upd H2 s2.heap.objs.size (.lst [])) { s2 with heap:=s2.heap.push { cls:=.type "list",data:=.seq ([] : List Value).toArray },toks:=s2.toks }:=I2.lnew .nil (by show 0 ≤ sizeLine; decide)
 have lt2 : ∀ b ∈ fp,b < s2.heap.objs.size:=fun b hb=>let ⟨o,e,_⟩:=T.obj _ _ st2 b hb; Heap.lt_size e
 have f3 : ∀ b ∈ fp,FpOk X pins (upd H2 s2.heap.objs.size (.lst [])) b:=fun b hb=>⟨by rw [upd_ne (Nat.ne_of_lt (lt2 b hb))]; exact (f2 b hb).1,(f2 b hb).2⟩
 obtain ⟨W,⟨m0,w0⟩,turn⟩:=q2 s2.heap.objs.size (I2.hok.fresh (Nat.le_refl _))
 generalize hs3 : ({ s2 with heap:=s2.heap.push { cls:=.type "list",data:=.seq ([] : List Value).toArray },toks:=s2.toks } : Shared) = s3 at I3
 have e3 : s3.heap = s2.heap.push { cls:=.type "list",data:=.seq ([] : List Value).toArray }:=by rw [← hs3]
 have z3 : s3.heap.objs.size = s2.heap.objs.size + 1:=by rw [e3,Heap.size_push]
 have k1 : ∀ b o,s3.heap.get? b = some o → h₁.get? b = some o:=fun b o e=>by
  have hb : b < s3.heap.objs.size:=Heap.lt_size e
  refine hsb₁.extBut b o ?_ (Heap.get?_push_of_some _ (by rw [← e3]; exact e))
  rw [← e3]
  exact Nat.ne_of_lt hb
 have hC : (s2.heap.push { cls:=.type "list",data:=.seq ([] : List Value).toArray }).objs.size = s3.heap.objs.size:=by rw [e3]
 have I4:=I3.enter (N:=N) (js:=js) (scope:=scope) (cl:=cl) (fp:=fp) (C:=(s2.heap.push { cls:=.type "list",data:=.seq ([] : List Value).toArray }).objs.size) (h':=h₁) (tk:=s2.toks + ([] : List (Str × Value)).length) S hc hcl hfr hC f3
  (fun b hb=>by rw [z3]; exact Nat.lt_succ_of_lt (lt2 b hb)) hns₁ k1
 have st4 : tn 0 h₁:=T.keep _ _ _ st2 fun b hb o e=>k1 b o (by rw [e3]; exact Heap.get?_push_of_some _ e)
 generalize hCC : (s2.heap.push { cls:=.type "list",data:=.seq ([] : List Value).toArray }).objs.size = C at hns₁ hsb₁ hC I4 ⊢
 have hs4 : ({ s3 with heap:=h₁,toks:=s2.toks + ([] : List (Str × Value)).length } : Shared) = { s2 with heap:=h₁,toks:=s2.toks + ([] : List (Str × Value)).length }:=by rw [← hs3]
 rw [hs4] at I4
 have fY : ∀ {H' : Hp},(∀ b ∈ fp,H' b = none) → ∀ b ∈ fp,FpOk (cxComp X N scope cl C s3 (upd H2 s2.heap.objs.size (.lst [])) fp (X.pn ++ pins)) [] H' b:=fun hn b hb=>by
  obtain ⟨f0,fa,fb,fc,fd,fe⟩:=f3 b hb
  refine ⟨hn b hb,?_,fun z=>(List.mem_cons.mp (I3.stkSub b z)).elim fa fb,.inl hb,fun x c e=>fd x c (hcl x c e),fun p hp=>fe p (by simpa [cxComp] using hp)⟩
  show b ≠ C
  rw [hC,z3]
  exact Nat.ne_of_lt (Nat.lt_succ_of_lt (lt2 b hb))
 have loop : codeAny (model X.prog X.w) X.A (.compLoop (.ListComp elt [⟨tg,iter,ifs,0⟩] scope pos) 0 (.ref it) (.ref s2.heap.objs.size) (compEnvC scope cl C X.env))
  (compPost (model X.prog X.w) X.A X.xe use R (.ref s2.heap.objs.size) C) { s2 with heap:=h₁,toks:=s2.toks + ([] : List (Str × Value)).length }:=by
  refine compLoop_any (fun n s'=>∃ i σ' H',Inv (cxComp X N scope cl C s3 (upd H2 s2.heap.objs.size (.lst [])) fp (X.pn ++ pins)) [] σ' H' s' ∧ tn i s'.heap ∧ (∀ b ∈ fp,H' b = none) ∧ W i n σ' H') ?_ m0
   ⟨0,_,_,I4,st4,fun b hb=>(f3 b hb).1,w0⟩
  rintro n s5 ⟨i,σ5,H5,I5,st5,fr5,w5⟩
  rcases turn i n σ5 H5 w5 with ⟨stop,qn⟩ | ⟨go,step⟩
  · refine thn (T.done (cxComp X N scope cl C s3 (upd H2 s2.heap.objs.size (.lst [])) fp (X.pn ++ pins)) rfl rfl rfl rfl i [] s5 σ5 H5 (fun _ _=>False) I5 (fY fr5) st5 stop) fun r s6 ⟨hr,I6⟩=>?_
    subst hr
    have I7 : Inv X pins σ H5 s6:=I3.left f3 I6
    have hCs : X.s₀.heap.objs.size ≤ C:=by rw [hC]; exact I3.sz
    refine hR s2.heap.objs.size C H5 s6 I7 (let ⟨m,hn,_⟩:=I6.loc; ⟨m,hn⟩) I6.free ?_ (.inr hCs) (fun x c e z=>?_) (fun p hp z=>?_) qn
    · rw [hC]
      exact Nat.ne_of_gt I3.lt
    · obtain ⟨v,o,ho,_⟩:=I3.cell x c e
      have:=Heap.lt_size ho
      rw [z,hC] at this
      exact Nat.lt_irrefl _ this
    · obtain ⟨e,_⟩:=I3.pin p hp
      have:=Heap.lt_size e
      rw [z,hC] at this
      exact Nat.lt_irrefl _ this
  · refine thn (T.item (cxComp X N scope cl C s3 (upd H2 s2.heap.objs.size (.lst [])) fp (X.pn ++ pins)) rfl rfl rfl rfl i [] s5 σ5 H5 (fun _ _=>False) I5 (fY fr5) st5 go) fun r s6 ⟨u,hr,h6⟩=>?_
    subst hr
    refine thn h6 fun _ s7 ⟨x,H7,I7,r7,y7,st7,fr7⟩=>?_
    have I7':=I7.pinned (fY fr7) (T.obj _ _ st7)
    have again : ∀ {n' : Nat} {σ8 : St} {H8 : Hp} {s8 : Shared},Inv (cxComp X N scope cl C s3 (upd H2 s2.heap.objs.size (.lst [])) fp (X.pn ++ pins)) ([] ++ pinsAt fp s7.heap) σ8 H8 s8 → n' < n → W (i + 1) n' σ8 H8 →
     ∃ m,m < n ∧ ∃ i σ' H',Inv (cxComp X N scope cl C s3 (upd H2 s2.heap.objs.size (.lst [])) fp (X.pn ++ pins)) [] σ' H' s8 ∧ tn i s8.heap ∧ (∀ b ∈ fp,H' b = none) ∧ W i m σ' H':=fun {n' σ8 H8 s8} I8 hm w8=>by
     refine ⟨n',hm,i + 1,σ8,H8,I8.unpinned,T.keep _ _ _ st7 fun b hb o e=>(I8.pin (b,o) (List.mem_append_right _ (List.mem_append_right _ (mem_pinsAt hb e)))).1,fun b hb=>?_,w8⟩
     obtain ⟨o,e,d⟩:=T.obj _ _ st7 b hb
     exact (I8.pin (b,o) (List.mem_append_right _ (List.mem_append_right _ (mem_pinsAt hb e)))).2.1
    refine thn (hg _ _ _ _ _ _ _ s7 σ5 H7 x u _ I7' r7 (step x H7 y7)) fun _ s8 ⟨σ8,H8,I8,q8⟩=>?_
    refine thn (ht _ _ _ _ _ _ _ s8 σ8 H8 _ I8 q8) fun ok s9 ⟨H9,I9,q9⟩=>?_
    cases ok with
    | false =>
     rw [if_neg Bool.false_ne_true] at q9 ⊢
     obtain ⟨m',hm,w9⟩:=q9
     exact again I9 hm w9
    | true =>
     rw [if_pos rfl] at q9 ⊢
     refine thn (he _ _ _ _ _ _ _ s9 σ8 H9 _ I9 q9) fun yv s10 ⟨y,H10,I10,r10,acc,hD,hl,m',hm,w10⟩=>?_
     refine thn (mt_append _ s10 σ8 H10 (.ref s2.heap.objs.size) [y] (.ref s2.heap.objs.size) [yv] (fun _ H'=>H' = upd H10 s2.heap.objs.size (.lst (acc ++ [y]))) I10 rfl (.cons r10 .nil) ⟨s2.heap.objs.size,acc,y,rfl,rfl,hD,hl,rfl⟩) fun _ s11 ⟨_,H11,I11,_,e11⟩=>?_
     subst e11
     exact again I11 hm w10
 exact codeAny_compStart_list loop (T.self _ 0 _ _ _ st4 loop)
theorem pe_lc (S : compOk X.N X.env.scope.names N js scope = true) (hc : X.calm = true) (hi : PI X tg iter wi)
 (hg : ∀ cl C s H fp pn,PG (cxComp X N scope cl C s H fp pn) tg g) (ht : ∀ cl C s H fp pn,PIfs (cxComp X N scope cl C s H fp pn) ifs ti) (he : ∀ cl C s H fp pn,PE (cxComp X N scope cl C s H fp pn) elt te)
 (hs : ∀ x,foldedSetIterable iter X.env x = pure x:=by intro _; rfl) : PE X (.ListComp elt [⟨tg,iter,ifs,0⟩] scope pos) (tLC js wi g ti te):=by
 intro pins s σ H Q I h
 rw [eval_ListComp]
 refine lc_run (use:=none) (CompSc.of S) hc hi hg ht he hs I h ?_
 rintro D C H' s' I' ⟨m,hn⟩ c1 c2 c3 c4 c5 q
 refine ⟨m,hn,fun h' hs'=>?_⟩
 exact ⟨.ref D,H',I'.turned (t':=s'.toks) (fun b o hb e=>hs'.extBut b o hb e) c1 c2 c3 c4 c5,rfl,q⟩
theorem ps_lc {i : Nat} {x : Str} {pos' spos : Pos} (hN : X.N.Nodup) (hi' : X.N[i]? = some x) (hx : X.env.scope.names.lookup x = some .local) (S : compOk X.N X.env.scope.names N js scope = true) (hc : X.calm = true) (hi : PI X tg iter wi)
 (hg : ∀ cl C s H fp pn,PG (cxComp X N scope cl C s H fp pn) tg g) (ht : ∀ cl C s H fp pn,PIfs (cxComp X N scope cl C s H fp pn) ifs ti) (he : ∀ cl C s H fp pn,PE (cxComp X N scope cl C s H fp pn) elt te)
 (hsw : swapsWith (.ListComp elt [⟨tg,iter,ifs,0⟩] scope pos) (some (.Name x pos')) spos.line X.env = pure true:=by rfl)
 (hs : ∀ x,foldedSetIterable iter X.env x = pure x:=by intro _; rfl) : PS X (.Assign [.Name x pos'] (.ListComp elt [⟨tg,iter,ifs,0⟩] scope pos) spos) (tAsg (tLC js wi g ti te) (gName i)):=by
 intro pins s σ H D I h
 rw [exec_Assign_Name_used _ _ _ _ hsw]
 refine wpAny_bind (wpAny_standAt (wpAny_bind ?_))
 show wpAny _ X.A (do let _ ← comprehension (.ListComp elt [⟨tg,iter,ifs,0⟩] scope pos) scope X.env _ (newList []) false (eval iter X.env) (some (assign (.Name x pos') X.env))) _ _ s
 refine wpAny_bind (thn (lc_run (use:=some (assign (.Name x pos') X.env)) (R:=fun _ s'=>SP X pins D .next s') (CompSc.of S) hc hi hg ht he hs I h ?_) fun _ s' hq=>wpAny_pure (wpAny_pure hq))
 rintro Dd C H' s' I' ⟨m,hn⟩ c1 c2 c3 c4 c5 q
 show wpAny _ X.A (assign (.Name x pos') X.env (.ref Dd)) _ _ _
 refine wpAny_assign_Name (store_ok2 I' hN hi' (.inl hx) (v:=.ref Dd) rfl (fun s'' I'' ⟨a,sb,ha⟩=>?_) (.inr hx))
 have ea : a ≠ C:=by
  rcases ha with ha | ha
  · rw [ha]
    exact Ne.symm c2
  · exact c4 x a ha
 refine ⟨m,hn.sameBut sb (Ne.symm ea),fun h' hs'=>?_⟩
 exact ⟨_,_,I''.turned (t':=s''.toks) (fun b o hb e=>hs'.extBut b o hb e) c1 c2 c3 c4 c5,q⟩
end
def LcW (D : Addr) (n : Nat) (Pv : Nat → List V → St → Hp → Prop) : Nat → Nat → St → Hp → Prop:=fun i m σ H=>i ≤ n ∧ m = n - i ∧ ∃ acc,H D = some (.lst acc) ∧ Pv i acc σ H
theorem lcW_next {D : Addr} {n i : Nat} {Pv : Nat → List V → St → Hp → Prop} {acc : List V} {σ : St} {H : Hp} (hi : i < n) (hD : H D = some (.lst acc)) (hp : Pv (i + 1) acc σ H) : ∃ m',m' < n - i ∧ LcW D n Pv (i + 1) m' σ H :=
 ⟨n - (i + 1),by omega,hi,rfl,acc,hD,hp⟩
theorem lc_by {D : Addr} {g : TG} {ti : TT} {te : TE} {J : It} {Q : Hp → Prop} {σ0 : St} {H0 : Hp} (n : Nat) (Pv : Nat → List V → St → Hp → Prop) (h0 : Pv 0 [] σ0 H0) (hD0 : H0 D = some (.lst []))
 (fin : ∀ acc σ H,H D = some (.lst acc) → Pv n acc σ H → J.stop n H ∧ Q H)
 (step : ∀ i acc σ H,i < n → H D = some (.lst acc) → Pv i acc σ H → J.go i H ∧ ∀ x H',J.yld i H x H' → g x σ H' fun σ2 H2=>ti σ2 H2 fun b H3 =>
  if b = true then te σ2 H3 fun y H4=>∃ acc,H4 D = some (.lst acc) ∧ acc.length < sizeLine ∧ ∃ m',m' < n - i ∧ LcW D n Pv (i + 1) m' σ2 (upd H4 D (.lst (acc ++ [y]))) else ∃ m',m' < n - i ∧ LcW D n Pv (i + 1) m' σ2 H3) :
 ∃ W : Nat → Nat → St → Hp → Prop,(∃ m,W 0 m σ0 H0) ∧ bLC D g ti te J W Q:=by
 refine ⟨LcW D n Pv,⟨n,Nat.zero_le _,rfl,[],hD0,h0⟩,?_⟩
 rintro i m σ H ⟨hi,rfl,acc,hD,hp⟩
 rcases Nat.lt_or_ge i n with h | h
 · exact .inr (step i acc σ H h hD hp)
 · have e : i = n:=Nat.le_antisymm hi h
   subst e
   exact .inl (fin acc σ H hD hp)
end L2
namespace L2
open PySem PySem.Spec PyProof.Rows
section
variable {X : Cx} {pins : List (Addr × Obj)} {σ : St} {H : Hp} {s : Shared} {h' : Heap}
theorem Inv.turnedL {t' : Nat} {fp : List Addr} (I : Inv X pins σ H s) (hf : ∀ b ∈ fp,FpOk X pins H b) (k : ∀ b o,b ∉ fp → s.heap.get? b = some o → h'.get? b = some o) : Inv X pins σ H { s with heap:=h',toks:=t' }:=by
 have nfp : ∀ b u,H b = some u → b ∉ fp:=fun b u e z=>by rw [(hf b z).1] at e; cases e
 refine I.step (g':=s.gens) (d':=s.drawn) (ch:=fp) (fun b hb=>⟨(hf b hb).2.2.2.1,(hf b hb).2.1,(hf b hb).2.2.2.2.1,(hf b hb).2.2.2.2.2⟩) (fun b o _ _ hc e _=>k b o hc e) (fun b o _ _ hc e _=>⟨o.slots,k b o hc e⟩) (fun _ _ _ _ n=>n)
  (fun b o hc e=>⟨o,k b o hc e⟩) (fun _ _ e=>e) (fun _ _ _ e=>e) (fun b ps e=>⟨#[],by rw [e]; simp⟩) (fun m hm=>?_) (fun b u e=>?_) I.bare
 · obtain ⟨o,es,ep,ho,r⟩:=hm
   exact ⟨o,es,ep,k _ o (fun z=>(hf _ z).2.1 rfl) ho,r⟩
 · refine (I.hok b u e).stay (fun c v hc q=>k c v ?_ q) (fun _ q=>q) fun _ _ q=>q
   rcases hc with z | z
   · rw [z]; exact nfp b u e
   · exact nfp c _ z
theorem Inv.turnedT {t' : Nat} {fp : List Addr} {T : Addr} {xs : List V} {its : List Value} (I : Inv X pins σ H s) (hf : ∀ b ∈ fp,FpOk X pins H b) (k : ∀ b o,b ∉ fp → s.heap.get? b = some o → h'.get? b = some o)
 (hT : s.heap.objs.size ≤ T) (ht : IsTup h' T its.toArray) (rv : Vals xs its) (hz : xs.length ≤ sizeLine) : Inv X pins σ (upd H T (.tup xs)) { s with heap:=h',toks:=t' }:=by
 have nfp : ∀ b u,H b = some u → b ∉ fp:=fun b u e z=>by rw [(hf b z).1] at e; cases e
 have hTn : H T = none:=I.hok.fresh hT
 have neT : ∀ b u,H b = some u → b ≠ T:=fun b u e z=>by rw [z,hTn] at e; cases e
 have ltT : ∀ b o,s.heap.get? b = some o → b ≠ T:=fun b o e=>Nat.ne_of_lt (Nat.lt_of_lt_of_le (Heap.lt_size e) hT)
 refine I.step (g':=s.gens) (d':=s.drawn) (ch:=fp) (fun b hb=>⟨(hf b hb).2.2.2.1,(hf b hb).2.1,(hf b hb).2.2.2.2.1,(hf b hb).2.2.2.2.2⟩) (fun b o _ _ hc e _=>k b o hc e) (fun b o _ _ hc e _=>⟨o.slots,k b o hc e⟩)
  (fun b o _ e n=>by rw [upd_ne (ltT b o e)]; exact n) (fun b o hc e=>⟨o,k b o hc e⟩) (fun b ys e=>by rw [upd_ne (neT b _ e)]; exact e) (fun b o u e=>by rw [upd_ne (neT b _ e)]; exact e)
  (fun b ps e=>⟨#[],by rw [upd_ne (neT b _ e),e]; simp⟩) (fun m hm=>?_) (fun b u e=>?_) I.bare
 · obtain ⟨o,es,ep,ho,r⟩:=hm
   exact ⟨o,es,ep,k _ o (fun z=>(hf _ z).2.1 rfl) ho,r⟩
 · by_cases hb : b = T
   · subst hb
     rw [upd_same] at e
     cases e
     exact ⟨hz,its,rv,ht⟩
   · rw [upd_ne hb] at e
     refine (I.hok b u e).stay (fun c v hc q=>k c v ?_ q) (fun c q=>by rw [upd_ne (neT c _ q)]; exact q) fun c ys q=>by rw [upd_ne (neT c _ q)]; exact q
     rcases hc with z | z
     · rw [z]; exact nfp b u e
     · exact nfp c _ z
end
def Its (z : Str) : It:=⟨fun i _=>i < z.cps.size,fun i H x H'=>H' = H ∧ ∃ c,z.cps[i]? = some c ∧ x = .str ⟨#[c]⟩,fun i _=>i = z.cps.size⟩
theorem turn_str {P : Program} {w : World} {K : PySem.W.Frag} {tg : Expr} (it : Addr) (z : Str) (t : Tok) (ty : String) (W : ∀ A : Around,A.handled = none → Walks P w A it [it] [it] z.cps.size (SignAt z) (fun i h=>h.IsStrIter it ty z t i))
 (hs : ∀ (A : Around) (i : Nat) (s : Shared) (Q : Value → Shared → Prop) (E : Value → Shared → Prop),s.heap.IsStrIter it ty z t i → Q (.ref it) s → wpAny (model P w) A (pyIter (.ref it)) Q E s)
 (hn : ["enumerate", "zip", "dict_itemiterator", "dict_reverseitemiterator", "odict_iterator", "itertools.zip_longest", "itertools.pairwise"].contains ty = false) :
 Turn P w K tg (Its z) [it] it (fun i h=>h.IsStrIter it ty z t i) where
 mem:=by simp
 obj:=fun i h st b hb=>by
  have e : b = it:=by simpa using hb
  subst e
  obtain ⟨o,e,c,d⟩:=st
  exact ⟨o,e,fun v z=>by rw [d] at z; cases z⟩
 keep:=fun i h h' st k=>let ⟨o,e,r⟩:=st; ⟨o,k it (by simp) o e,r⟩
 item:=by
  intro X hP hw hK hc i pins s σ H E I hf st hg
  subst hP hw hK
  obtain ⟨f0,f1,f2,f3,f4,f5⟩:=hf it (by simp)
  refine (W X.A (I.ok.hd hc)).item i s _ _ hg st fun v h' tk hv st' kk=>?_
  obtain ⟨c,u,ec,rfl⟩:=hv
  have I1 : Inv X pins σ H { s with heap:=h',toks:=tk }:=I.turned (fun b o hb e=>kk b o (by simpa using hb) e) f0 f1 f3 f4 f5
  obtain ⟨o,e,oc,od⟩:=id st'
  exact ⟨_,rfl,go_of (s:={ s with heap:=h',toks:=tk }) e oc od hn ⟨.str ⟨#[c]⟩,H,I1,⟨u,rfl⟩,⟨rfl,c,ec,rfl⟩,st',fun b hb=>(hf b hb).1⟩⟩
 done:=by
  intro X hP hw hK hc i pins s σ H E I hf st hg
  subst hP hw hK
  obtain ⟨f0,f1,f2,f3,f4,f5⟩:=hf it (by simp)
  have hg' : i = z.cps.size:=hg
  subst hg'
  exact (W X.A (I.ok.hd hc)).done s _ _ st fun h' tk kk=>⟨rfl,I.turned (fun b o hb e=>kk b o (by simpa using hb) e) f0 f1 f3 f4 f5⟩
 self:=fun A i s Q E st h=>hs A i s Q E st h
section
variable {X : Cx} {tg : Expr}
def iStr (ts : TE) : TI:=fun σ H R=>ts σ H fun x H1=>∃ z,x = .str z ∧ R (Its z) H1
theorem pi_str {l : Expr} {tl : TE} (hl : PE X l tl) : PI X tg l (iStr tl):=by
 intro pins s σ H R I h
 refine thn (hl pins s σ H _ I h) fun v s1 ⟨x,H1,I1,r1,q1⟩=>?_
 obtain ⟨z,e,q⟩:=q1
 subst e
 obtain ⟨t,rfl⟩:=r1
 have fin : ∀ b ∈ [s1.heap.objs.size],FpOk X pins H1 b:=fun b hb=>by
  have e : b = s1.heap.objs.size:=by simpa using hb
  subst e
  exact I1.fpOk (Nat.le_refl _) (I1.hok.fresh (Nat.le_refl _))
 cases ha : z.cps.all (· < 128) with
 | true =>
  refine wpAny_pyIter_ascii ha ?_
  exact ⟨s1.heap.objs.size,[s1.heap.objs.size],_,_,H1,rfl,I1.kept (t':=s1.toks) fun b o e=>Heap.get?_push_of_some _ e,
   turn_str _ z t "str_ascii_iterator" (fun A hA=>Walks.strAscii hA _ z t) (fun _ _ _ _ _ st h=>wpAny_pyIter_striter_ascii st h) (by decide),⟨_,Heap.get?_push_size _ rfl,rfl,rfl⟩,fin,q⟩
 | false =>
  refine wpAny_pyIter_wide ha ?_
  exact ⟨s1.heap.objs.size,[s1.heap.objs.size],_,_,H1,rfl,I1.kept (t':=s1.toks) fun b o e=>Heap.get?_push_of_some _ e,
   turn_str _ z t "str_iterator" (fun A hA=>Walks.strWide hA _ z t) (fun _ _ _ _ _ st h=>wpAny_pyIter_striter_wide st h) (by decide),⟨_,Heap.get?_push_size _ rfl,rfl,rfl⟩,fin,q⟩
end
def Ite (K : PySem.W.Frag) (a : Addr) : It :=
 ⟨fun i H=>∃ xs x,SqL K H a xs ∧ xs[i]? = some x,fun i H v H'=>∃ T x,v = .ref T ∧ H T = none ∧ H' = upd H T (.tup [.int (i : Int),x]) ∧ ∀ xs,SqL K H a xs → xs[i]? = some x,fun i H=>∃ xs,SqL K H a xs ∧ xs.length ≤ i⟩
theorem turn_enum {P : Program} {w : World} {K : PySem.W.Frag} {es : List Expr} {kk : Nat} {tp : Pos} (a e it : Addr) (hei : e ≠ it) : Turn P w K (.Tuple es kk tp) (Ite K a) [e,it] e (fun i h=>(∃ old,IsEnum h e it (i : Int) old) ∧ h.IsListIter it a i) where
 mem:=by simp
 obj:=fun i h st b hb=>by
  obtain ⟨⟨old,he⟩,o,e1,c,d⟩:=st
  rcases List.mem_cons.mp hb with z | z
  · subst z
    exact ⟨_,he,fun v z=>by
     have z' : Data.fields _ = Data.cell v:=z
     cases z'⟩
  · have z' : b = it:=by simpa using z
    subst z'
    exact ⟨o,e1,fun v z=>by rw [d] at z; cases z⟩
 keep:=fun i h h' st k=>⟨let ⟨old,he⟩:=st.1; ⟨old,k e (by simp) _ he⟩,st.2.at fun o e1=>k it (by simp) o e1⟩
 item:=by
  intro X hP hw hK hc i pins s σ H E I hf st hg
  subst hP hw hK
  obtain ⟨xs,x,hq,hx⟩:=hg
  obtain ⟨its,rv,p,hz⟩:=I.list hq
  obtain ⟨u,hu,ru⟩:=rv.get hx
  obtain ⟨⟨old,he⟩,hit⟩:=st
  refine wpAny_pyNext_enum_item he hit p.isList (x:=u) (by simpa using hu) hei fun h' ho hit' hT hsz hk=>?_
  refine ⟨.ref s.heap.objs.size,rfl,?_⟩
  refine wpAny_letOwnedTupleGo_enum ho fun h2 he2 hs2=>?_
  have neE : s.heap.objs.size ≠ e:=Nat.ne_of_gt (Heap.lt_size he)
  have hT2 : h2.get? s.heap.objs.size = some { cls:=.type "tuple",data:=.seq #[.int i s.toks,u] }:=(hs2.2 _ neE).trans hT
  have I1 : Inv X pins σ (upd H s.heap.objs.size (.tup [.int (i : Int),x])) { s with heap:=h2,toks:=s.toks + 1 }:=I.turnedT (its:=[.int i s.toks,u]) hf (fun b o hb e1=>by
   have b1 : b ≠ e:=fun z=>hb (by simp [z])
   have b2 : b ≠ it:=fun z=>hb (by simp [z])
   exact (hs2.2 b b1).trans (hk b o b1 b2 e1)) (Nat.le_refl _) ⟨_,hT2,rfl,_,rfl⟩ (.cons ⟨_,rfl⟩ (.cons ru .nil)) (by show 2 ≤ sizeLine; decide)
  have fr : H s.heap.objs.size = none:=I.hok.fresh (Nat.le_refl _)
  refine ⟨.ref s.heap.objs.size,_,I1,rfl,⟨s.heap.objs.size,x,rfl,fr,rfl,fun ys hy=>by rw [I.list_inj hy hq]; exact hx⟩,⟨⟨u,?_⟩,hit'.at fun o e1=>(hs2.2 it hei.symm).trans e1⟩,fun b hb=>?_⟩
  · have e3 : (((i + 1 : Nat) : Nat) : Int) = (i : Int) + 1:=by omega
    rw [e3]
    exact he2
  · have hb':=(hf b hb).1
    have nb : b ≠ s.heap.objs.size:=by
     rcases List.mem_cons.mp hb with z | z
     · rw [z]; exact Ne.symm neE
     · have z' : b = it:=by simpa using z
       rw [z']
       obtain ⟨o,e1,_⟩:=hit
       exact Nat.ne_of_lt (Heap.lt_size e1)
    rw [upd_ne nb]
    exact hb'
 done:=by
  intro X hP hw hK hc i pins s σ H E I hf st hg
  subst hP hw hK
  obtain ⟨xs,hq,hx⟩:=hg
  obtain ⟨its,rv,p,hz⟩:=I.list hq
  obtain ⟨⟨old,he⟩,hit⟩:=st
  have hl:=rv.length
  exact wpAny_pyNext_enum_end (I.ok.hd hc) he hit p.isList (by simp; omega) fun h' eb=>⟨rfl,I.turnedL (t':=s.toks) hf fun b o hb e1=>eb b o (fun z=>hb (by simp [z])) e1⟩
 self:=fun _ _ _ _ _ st h=>let ⟨old,he⟩:=st.1; wpAny_pyIter_enum he h
section
variable {X : Cx}
def iEnum (K : PySem.W.Frag) (ta : TA) : TI:=fun σ H R=>ta σ H fun vs H1=>∃ a,vs = [.ref a] ∧ (∃ xs,SqL K H1 a xs) ∧ R (Ite K a) H1
theorem pi_enum {es : List Expr} {kk : Nat} {tp : Pos} {a : Expr} {ta : TA} {p pos : Pos} (hg : Gl X "enumerate") (hm : X.mg "enumerate" = none) (ha : PA X [a] ta) (hs : starEach [a] X.env = [(false,eval a X.env)]:=by rfl) :
 PI X (.Tuple es kk tp) (.Call (.Name "enumerate" p) [a] [] pos) (iEnum X.K ta):=by
 intro pins s σ H R I h
 refine Call_ (ld_blt I hg hm boot_enumerate (PyProof.Rows.callWith_type1 (thn (ha pos pins s σ H _ I h) fun us s1 ⟨vs,H1,I1,r1,q1⟩=>?_) hs rfl))
 obtain ⟨l,e,⟨xs,hq⟩,q⟩:=q1
 subst e
 cases r1 with
 | cons r rr =>
  cases rr
  cases r
  obtain ⟨its,rv,pl,hz⟩:=I1.list hq
  refine call_enumerate_list pl.isList fun h' he hit hsz hk=>?_
  refine wpAny_pyIter_enum he ?_
  have I2 : Inv X pins σ H1 { s1 with heap:=h' }:=I1.kept (t':=s1.toks) hk
  refine ⟨s1.heap.objs.size + 1,[s1.heap.objs.size + 1,s1.heap.objs.size],_,_,H1,rfl,I2,turn_enum l _ _ (Nat.ne_of_gt (Nat.lt_succ_self _)),⟨⟨_,he⟩,hit⟩,fun b hb=>?_,q⟩
  have hb' : s1.heap.objs.size ≤ b:=by
   rcases List.mem_cons.mp hb with z | z
   · rw [z]; exact Nat.le_succ _
   · have z' : b = s1.heap.objs.size:=by simpa using z
     rw [z']; exact Nat.le_refl _
  exact I1.fpOk hb' (I1.hok.fresh hb')
end
section
variable {X : Cx}
def rSlS : V → Option Int → Option Int → Hp → VK → Prop:=fun x lo hi H Q=>∃ z j,x = .str z ∧ lo = none ∧ hi = some j ∧ z.length ≤ sizeLine ∧ Q (.str (Txt.slice z none (some j))) H
theorem sl_str : SlR X rSlS:=by
 intro pins s σ H x v vl vu lo hi sl Q I rx hs pl pu h
 obtain ⟨z,j,rfl,rfl,rfl,hz,q⟩:=h
 obtain ⟨t,rfl⟩:=rx
 cases pl
 cases pu with
 | int _ uj =>
  refine ⟨"str",_,F.slot_str_getitem.lookup,typeIs_str _ _ _,wpAny_getItem_str_slice (l:=none) (u:=some (j,uj)) (st:=none) hs rfl
   (post_val_or_str ⟨Nat.le_trans (Txt.slice_le z _ _) hz,fun t' k=>⟨.str (Txt.slice z none (some j)),H,I.tok k,⟨t',rfl⟩,q⟩⟩)⟩
def rJoin (K : PySem.W.Frag) : V → List V → Hp → VK → Prop:=fun x vs H Q=>∃ z a ys,x = .str z ∧ vs = [.ref a] ∧ SqL K H a (ys.map V.str) ∧ (ys.map (·.length)).sum + ys.length * z.length ≤ 16777216 ∧ Q (.str (Txt.join z ys)) H
theorem strsAre_of : ∀ {ys : List Str} {us : List Value},Vals (ys.map V.str) us → StrsAre us ys
 | [],us,r=>by
  cases r
  exact .nil
 | y :: ys,us,r=>by
  cases r with
  | cons h t =>
   obtain ⟨tk,rfl⟩:=h
   exact .cons _ _ (strsAre_of t)
theorem mt_join : MtM X "str.join" (rJoin X.K):=by
 intro pins s σ H x vs v us Q I rx rv h
 obtain ⟨z,a,ys,rfl,rfl,hq,hl,q⟩:=h
 obtain ⟨t,rfl⟩:=rx
 obtain ⟨u,rfl,ru⟩:=rv.one
 cases ru
 obtain ⟨its,r,pl,_⟩:=I.list hq
 exact join_list pl.isList (by simpa using strsAre_of r) hl fun t' k=>⟨.str (Txt.join z ys),H,I.tok k,⟨t',rfl⟩,q⟩
def rSplit : V → List V → Hp → VK → Prop:=fun x vs H Q=>∃ z y,x = .str z ∧ vs = [.str y] ∧ z.length ≤ sizeLine ∧ (y.length == 0) = false ∧
 (Builtin.Str.partsBetween z (Builtin.Str.occurrences z y 0 z.length (z.length + 1)) y.length).length ≤ sizeLine ∧ ∀ p,H p = none → Q (.ref p) (upd H p (.lst ((Txt.split z y).map V.str)))
theorem vals_numbered : ∀ (tk : Nat) (xs : List Str),Vals (xs.map V.str) (strValues (numbered tk xs))
 | _,[]=>.nil
 | tk,x :: r=>.cons ⟨tk,rfl⟩ (vals_numbered (tk + 1) r)
theorem split_le (z y : Str) (h : (Builtin.Str.partsBetween z (Builtin.Str.occurrences z y 0 z.length (z.length + 1)) y.length).length ≤ sizeLine) : (Txt.split z y).length ≤ sizeLine:=by
 unfold Txt.split
 split
 · show 1 ≤ sizeLine; decide
 · split
   · show 1 ≤ sizeLine; decide
   · exact h
theorem mt_split : MtM X "str.split" rSplit:=by
 intro pins s σ H x vs v us Q I rx rv h
 obtain ⟨z,y,rfl,rfl,hz,hy,hl,q⟩:=h
 obtain ⟨t,rfl⟩:=rx
 obtain ⟨u,rfl,tu,rfl⟩:=rv.one
 have hl':=split_le z y hl
 have fin : ∀ (l : List (Str × Tok)) (tk : Nat),Vals ((Txt.split z y).map V.str) (strValues l) →
  EP X pins σ Q (.ref s.heap.objs.size) { s with heap:=s.heap.push { cls:=.type "list",data:=.seq (strValues l).toArray },toks:=tk }:=fun l tk r =>
  ⟨.ref s.heap.objs.size,_,I.lnew r (by rw [List.length_map]; exact hl'),rfl,q _ (I.hok.fresh (Nat.le_refl _))⟩
 cases h1 : (decide (z.length < y.length) || decide (Builtin.Str.strKind z < Builtin.Str.strKind y)) with
 | true =>
  refine call_meets F.slot_str_split (typeIs_str _ _ _) F.entry_str_split (F.args_str_split_2 _ _) (meets_str_split_cannot_occur z y t tu h1) ?_
  exact fin [(z,t)] s.toks (by
   have e : Txt.split z y = [z]:=if_pos h1
   rw [e]
   exact .cons ⟨t,rfl⟩ .nil)
 | false =>
  cases hf : (Builtin.Str.occurrences z y 0 z.length (z.length + 1)).isEmpty with
  | true =>
   refine call_meets F.slot_str_split (typeIs_str _ _ _) F.entry_str_split (F.args_str_split_2 _ _) (meets_str_split_not_found z y t tu h1 hy hf) ?_
   exact fin [(z,t)] s.toks (by
    have e : Txt.split z y = [z]:=(if_neg (ne_true_of_eq_false h1)).trans (if_pos hf)
    rw [e]
    exact .cons ⟨t,rfl⟩ .nil)
  | false =>
   refine call_meets F.slot_str_split (typeIs_str _ _ _) F.entry_str_split (F.args_str_split_2 _ _) (meets_str_split_sep z y t tu h1 hy hf hz hl) ?_
   have e : Txt.split z y = Builtin.Str.partsBetween z (Builtin.Str.occurrences z y 0 z.length (z.length + 1)) y.length:=(if_neg (ne_true_of_eq_false h1)).trans (if_neg (ne_true_of_eq_false hf))
   have:=fin (numbered s.toks (Builtin.Str.partsBetween z (Builtin.Str.occurrences z y 0 z.length (z.length + 1)) y.length)) (s.toks + (Builtin.Str.partsBetween z (Builtin.Str.occurrences z y 0 z.length (z.length + 1)) y.length).length) (by
    rw [e]
    exact vals_numbered _ _)
   show EP X pins σ Q _ { s with toks:=_,heap:=s.heap.push { cls:=.type "list",data:=.seq (strsFrom s.toks (Builtin.Str.partsBetween z (Builtin.Str.occurrences z y 0 z.length (z.length + 1)) y.length)).toArray } }
   rw [strsFrom_eq]
   exact this
end
section
variable {X : Cx}
def rInsert : V → List V → Hp → VK → Prop:=fun x vs H Q=>∃ l xs i y,x = .ref l ∧ vs = [.int i,y] ∧ H l = some (.lst xs) ∧ 0 ≤ i ∧ i ≤ xs.length ∧ xs.length < sizeLine ∧ Q .non (upd H l (.lst (xs.take i.toNat ++ [y] ++ xs.drop i.toNat)))
theorem mt_insert : MtM X "list.insert" rInsert:=by
 intro pins s σ H x vs v us Q I rx rv h
 obtain ⟨l,xs,i,y,rfl,rfl,hH,h0,hi,hz,q⟩:=h
 cases rx
 obtain ⟨u1,u2,rfl,r1,r2⟩:=rv.two
 obtain ⟨t1,rfl⟩:=r1
 obtain ⟨z,its,n,r,hl,e⟩:=I.lstM hH
 have hn:=line63
 have hfit : ¬ (!Builtin.List.listFitsIndex i) = true:=by
  have : Builtin.List.listFitsIndex i = true:=by
   unfold Builtin.List.listFitsIndex
   simp only [Bool.and_eq_true,decide_eq_true_eq]
   constructor <;> omega
  rw [this]
  decide
 refine call_meets F.slot_list_insert ⟨_,e,rfl⟩ F.entry_list_insert (F.args_list_insert_3 _ _ _) (AutoListH.list_insert_list_int_val_1 l its.toArray n i t1 u2 hfit (by rw [List.size_toArray]; omega)) ⟨e,?_⟩
 refine ⟨.non,_,I.lset (its':=its.take i.toNat ++ [u2] ++ its.drop i.toNat) hH e ?_ (((r.take i.toNat).append (.cons r2 .nil)).append (r.drop i.toNat)) ?_,rfl,q⟩
 · have e1 : (if i < 0 then (i + ((its.toArray.size : Nat) : Int)).toNat else min i.toNat its.toArray.size) = i.toNat:=by
    rw [if_neg (by omega),List.size_toArray]
    omega
   show (its.toArray.extract 0 _).push u2 ++ its.toArray.extract _ = _
   rw [e1]
   apply Array.toList_inj.mp
   simp [List.take_of_length_le]
 · simp only [List.length_append,List.length_take,List.length_drop,List.length_singleton]
   omega
end
section
variable {prog : Program} {w : World} {A : Around} {E : Value → Shared → Prop}
theorem draw_list {l it : Addr} {items : Array Value} (hlt : l ≠ it) : ∀ (n i : Nat) (s : Shared) (Q : List Value → Shared → Prop),s.heap.IsListIter it l i → s.heap.IsList l items → i + n ≤ items.size →
 (∀ h',h'.IsListIter it l (i + n) → Heap.SameBut it s.heap h' → Q ((items.toList.drop i).take n) { s with heap:=h' }) → wpAny (model prog w) A (draw (.ref it) n) Q E s
 | 0,i,s,Q,hit,hl,_,hQ=>by
  unfold draw
  exact wpAny_pure (by simpa using hQ s.heap hit (.refl ..))
 | n + 1,i,s,Q,hit,hl,hn,hQ=>by
  unfold draw
  have hx : items[i]? = some items[i]:=Array.getElem?_eq_getElem (by omega)
  refine wpAny_bind (wpAny_pyNext_list_item hit hl hx fun h1 hit1 hs1=>?_)
  refine wpAny_bind (wpAny_holding (draw_list hlt n (i + 1) { s with heap:=h1 } _ hit1 (hl.extBut hs1.extBut hlt) (by omega) fun h2 hit2 hs2=>?_))
  refine wpAny_pure ?_
  have hd : (items.toList.drop i).take (n + 1) = items[i] :: (items.toList.drop (i + 1)).take n:=by
   rw [List.drop_eq_getElem_cons (by simpa using (show i < items.size by omega)),List.take_succ_cons]
   simp
  have:=hQ h2 (by rw [show i + (n + 1) = i + 1 + n by omega]; exact hit2) (hs1.trans hs2)
  rw [hd] at this
  exact this
theorem unpackItems_list {s : Shared} {l : Addr} {items : Array Value} {Q : List Value → Shared → Prop} (hh : A.handled = none) (hl : s.heap.IsList l items)
 (hQ : ∀ h',Heap.ExtBut s.heap.objs.size s.heap h' → Q items.toList { s with heap:=h' }) : wpAny (model prog w) A (unpackItems (.ref l) items.size none) Q E s:=by
 have hlt : l ≠ s.heap.objs.size:=by obtain ⟨o,ho,_⟩:=hl; exact Nat.ne_of_lt (Heap.lt_size ho)
 unfold unpackItems
 refine wpAny_bind ?_
 unfold notIterableAtAll
 refine wpAny_bind (wpAny_specialOf hl.typeIs slot_list_iter.lookup ?_)
 refine wpAny_pure ?_
 simp only [Bool.false_eq_true,if_false]
 refine wpAny_bind (wpAny_holding (wpAny_pyIter_list hl ?_))
 refine wpAny_bind (wpAny_holding (draw_list hlt items.size 0 _ _ ⟨_,Heap.get?_push_size _ rfl,rfl,rfl⟩ (hl.push _) (by omega) fun h₁ hit₁ hs₁=>?_))
 have hall : List.take items.size (List.drop 0 items.toList) = items.toList:=by
  rw [List.drop_zero]; exact List.take_of_length_le (by simp)
 rw [hall]
 rw [if_neg (by simp)]
 have ht₁ : h₁.IsList l items:=(hl.push _).extBut hs₁.extBut hlt
 refine wpAny_bind (wpAny_holding (wpAny_pyNext_list_end hh hit₁ ht₁ (by simp) fun h₂ he₂=>?_))
 simp only [Option.isSome_none,Bool.false_eq_true,if_false]
 exact wpAny_pure (hQ h₂ fun b o hb e=>he₂ b o hb (hs₁.extBut b o hb (Heap.get?_push_of_some _ e)))
end
section
variable {X : Cx} {pos : Pos}
def gTupL (K : PySem.W.Frag) (n : Nat) (t : TGs) : TG:=fun v σ H Q=>∃ a xs,v = .ref a ∧ SqL K H a xs ∧ xs.length = n ∧ t xs σ H Q
theorem pg_tupL {es : List Expr} {k : Nat} {t : TGs} {n : Nat} (hc : X.calm = true) (h : PGs X es t)
 (hn : (assignEach es X.env).length = n:=by rfl) (hst : (assignEach es X.env).findIdx? (·.1) = none:=by rfl) : PG X (.Tuple es k pos) (gTupL X.K n t):=by
 intro pins s σ H v u Q I r hw
 obtain ⟨a,xs,e1,hq,hl,hw⟩:=hw
 subst e1
 cases r
 obtain ⟨its,rv,pl,hz⟩:=I.list hq
 rw [assign_Tuple]
 refine wpAny_bind (wpAny_standAt ?_)
 unfold unpack
 have e2 : (assignEach es X.env).length = its.toArray.size:=by rw [List.size_toArray,hn,← hl,rv.length]
 rw [e2,hst]
 refine wpAny_bind (wpAny_holding (unpackItems_list (I.ok.hd hc) pl.isList fun h' hx=>?_))
 have I1 : Inv X pins σ H { s with heap:=h' }:=I.kept (t':=s.toks) fun b o e=>hx b o (Nat.ne_of_lt (Heap.lt_size e)) e
 exact h pins _ σ H xs _ Q I1 (by simpa using rv) hw
end
end L2
namespace Gen
open PySem
theorem nodup_le {α : Type} [DecidableEq α] : ∀ (l t : List α),l.Nodup → (∀ x ∈ l,x ∈ t) → l.length ≤ t.length
 | [],t,_,_=>Nat.zero_le _
 | a :: l,t,hn,hs=>by
  have ha : a ∈ t:=hs a List.mem_cons_self
  obtain ⟨h1,h2⟩:=List.nodup_cons.mp hn
  have:=nodup_le l (t.erase a) h2 fun x hx=>(List.mem_erase_of_ne (fun (e : x = a)=>h1 (by rw [← e]; exact hx))).mpr (hs x (List.mem_cons_of_mem _ hx))
  rw [List.length_erase_of_mem ha] at this
  have : 0 < t.length:=List.length_pos_of_mem ha
  simp only [List.length_cons]
  omega
theorem indices_to (k len : Nat) : Builtin.Str.strSliceIndices none (some (k : Int)) 1 len = List.range (min k len):=by
 have h1 : ¬ ((k : Int) < 0):=by omega
 have e : max (0 : Int) (min (k : Int) (len : Int)) = ((min k len : Nat) : Int):=by omega
 simp only [Builtin.Str.strSliceIndices,sliceRange,h1,if_false,show ((1 : Int) > 0) = True from by simp,if_true,e]
 by_cases h : (0 : Int) < ((min k len : Nat) : Int)
 · have e3 : (((min k len : Nat) : Int) - 0 + 1 - 1) / 1 = ((min k len : Nat) : Int):=by simp
   rw [if_pos h,e3,Int.toNat_natCast]
   conv=>rhs; rw [← List.map_id (List.range (min k len))]
   exact List.map_congr_left fun j _=>by simp
 · have : min k len = 0:=by omega
   simp [this]
theorem picks_range {α : Type} (l : List α) (n : Nat) (h : n ≤ l.length) : (List.range n).filterMap (l[·]?) = l.take n:=by
 have:=StrLaws.picks l n 0 (by omega)
 simpa using this
theorem slice_to (x : Str) (k : Nat) : (Txt.slice x none (some (k : Int))).cps.toList = x.cps.toList.take k:=by
 unfold Txt.slice
 rw [indices_to]
 have hl : x.cps.toList.length = x.length:=by simp [Str.length]
 split
 · rename_i h
   simp only [beq_self_eq_true,Bool.true_and,List.length_range,beq_iff_eq] at h
   rw [List.take_of_length_le]
   omega
 · have e : (fun (i : Nat)=>x.cps[i]?) = (fun (i : Nat)=>x.cps.toList[i]?):=by funext i; simp
   show (List.filterMap (fun (i : Nat)=>x.cps[i]?) (List.range (min k x.length))).toArray.toList = _
   rw [List.toList_toArray,e,picks_range _ _ (by omega)]
   rcases Nat.le_total k x.length with h | h
   · rw [Nat.min_eq_left h]
   · rw [Nat.min_eq_right h,List.take_of_length_le (by omega),List.take_of_length_le (by omega)]
def letters : List Nat:=(List.range 26).map (· + 97)
theorem mem_letters {c : Nat} : c ∈ letters ↔ 97 ≤ c ∧ c ≤ 122:=by
 unfold letters
 simp only [List.mem_map,List.mem_range]
 constructor
 · rintro ⟨a,h,rfl⟩; omega
 · intro h; exact ⟨c - 97,by omega,by omega⟩
def isName (n : List Nat) : Prop:=1 ≤ n.length ∧ n.length ≤ 8 ∧ ∀ c ∈ n,c ∈ letters
def cand (n : List Nat) : List (List Nat) :=
 [n] ++ letters.map (fun c=>n.take 7 ++ [c]) ++ letters.map (fun c=>n.take 6 ++ [c,113]) ++ letters.map (fun c=>n.take 6 ++ [c,122]) ++ letters.map (fun c=>n.take 5 ++ [c,113,122])
theorem cand_name {n x : List Nat} (hn : isName n) (hx : x ∈ cand n) : isName x:=by
 obtain ⟨h1,h2,h3⟩:=hn
 have tk : ∀ k,∀ c ∈ n.take k,c ∈ letters:=fun k c hc=>h3 c (List.mem_of_mem_take hc)
 have l113 : 113 ∈ letters:=by decide
 have l122 : 122 ∈ letters:=by decide
 unfold cand at hx
 simp only [List.mem_append,List.mem_singleton,List.mem_map] at hx
 rcases hx with (((rfl | ⟨c,hc,rfl⟩) | ⟨c,hc,rfl⟩) | ⟨c,hc,rfl⟩) | ⟨c,hc,rfl⟩
 · exact ⟨h1,h2,h3⟩
 all_goals
  refine ⟨by simp,by simp only [List.length_append,List.length_take,List.length_cons,List.length_nil]; omega,fun d hd=>?_⟩
  simp only [List.mem_append,List.mem_cons,List.not_mem_nil,or_false] at hd
  rcases hd with hd | hd
  · exact tk _ d hd
  · rcases hd with rfl | hd <;> first | exact hc | (rcases hd with rfl | hd <;> first | exact l113 | exact l122 | (rcases hd with rfl <;> first | exact l113 | exact l122)) | (subst hd; first | exact l113 | exact l122)
def sub (n : List Nat) : List (List Nat) :=
 (letters.filter fun c=>decide (c ≠ 113 ∧ c ≠ 122)).map (fun c=>n.take 7 ++ [c]) ++ letters.map (fun c=>n.take 6 ++ [c,113]) ++ letters.map (fun c=>n.take 6 ++ [c,122])
  ++ (letters.filter fun c=>decide (some c ≠ n[5]?)).map (fun c=>n.take 5 ++ [c,113,122])
theorem sub_cand {n x : List Nat} (h : x ∈ sub n) : x ∈ cand n:=by
 unfold sub at h
 unfold cand
 simp only [List.mem_append,List.mem_singleton,List.mem_map,List.mem_filter] at h ⊢
 rcases h with ((⟨c,⟨hc,_⟩,rfl⟩ | ⟨c,hc,rfl⟩) | ⟨c,hc,rfl⟩) | ⟨c,⟨hc,_⟩,rfl⟩
 · exact .inl (.inl (.inl (.inr ⟨c,hc,rfl⟩)))
 · exact .inl (.inl (.inr ⟨c,hc,rfl⟩))
 · exact .inl (.inr ⟨c,hc,rfl⟩)
 · exact .inr ⟨c,hc,rfl⟩
theorem nodup_letters : letters.Nodup:=by decide
theorem nodup_map_tail {l : List Nat} (hl : l.Nodup) (p q : List Nat) : (l.map fun c=>p ++ c :: q).Nodup:=by
 induction l with
 | nil=>exact List.nodup_nil
 | cons a l ih =>
  obtain ⟨h1,h2⟩:=List.nodup_cons.mp hl
  rw [List.map_cons,List.nodup_cons]
  refine ⟨fun h=>?_,ih h2⟩
  obtain ⟨b,hb,e⟩:=List.mem_map.mp h
  have:=List.append_cancel_left e
  injection this with e1 _
  exact h1 (e1 ▸ hb)
theorem last_of {p : List Nat} {a : Nat} : (p ++ [a]).getLast? = some a:=by simp
theorem sub_nodup (n : List Nat) : (sub n).Nodup:=by
 unfold sub
 have lastB : ∀ x ∈ letters.map (fun c=>n.take 6 ++ [c,113]),x.getLast? = some 113:=fun x hx=>by
  obtain ⟨c,_,rfl⟩:=List.mem_map.mp hx
  simp
 have lastC : ∀ x ∈ letters.map (fun c=>n.take 6 ++ [c,122]),x.getLast? = some 122:=fun x hx=>by
  obtain ⟨c,_,rfl⟩:=List.mem_map.mp hx
  simp
 have lastD : ∀ x ∈ (letters.filter fun c=>decide (some c ≠ n[5]?)).map (fun c=>n.take 5 ++ [c,113,122]),x.getLast? = some 122:=fun x hx=>by
  obtain ⟨c,_,rfl⟩:=List.mem_map.mp hx
  simp
 have lastA : ∀ x ∈ (letters.filter fun c=>decide (c ≠ 113 ∧ c ≠ 122)).map (fun c=>n.take 7 ++ [c]),x.getLast? ≠ some 113 ∧ x.getLast? ≠ some 122:=fun x hx=>by
  obtain ⟨c,hc,rfl⟩:=List.mem_map.mp hx
  obtain ⟨_,hc⟩:=List.mem_filter.mp hc
  have hc':=of_decide_eq_true hc
  rw [last_of]
  exact ⟨fun e=>hc'.1 (Option.some.inj e),fun e=>hc'.2 (Option.some.inj e)⟩
 refine List.nodup_append.mpr ⟨List.nodup_append.mpr ⟨List.nodup_append.mpr ⟨nodup_map_tail (nodup_letters.filter _) _ _,nodup_map_tail nodup_letters _ _,?_⟩,nodup_map_tail nodup_letters _ _,?_⟩,nodup_map_tail (nodup_letters.filter _) _ _,?_⟩
 · intro a ha b hb e
   exact (lastA a ha).1 (e ▸ lastB b hb)
 · intro a ha b hb e
   rcases List.mem_append.mp ha with ha | ha
   · exact (lastA a ha).2 (e ▸ lastC b hb)
   · have:=lastB a ha
     rw [e,lastC b hb] at this
     cases this
 · intro a ha b hb e
   rcases List.mem_append.mp ha with ha | ha
   · rcases List.mem_append.mp ha with ha | ha
     · exact (lastA a ha).2 (e ▸ lastD b hb)
     · have:=lastB a ha
       rw [e,lastD b hb] at this
       cases this
   · obtain ⟨c,_,rfl⟩:=List.mem_map.mp ha
     obtain ⟨d,hd,rfl⟩:=List.mem_map.mp hb
     obtain ⟨_,hd⟩:=List.mem_filter.mp hd
     have hd' : some d ≠ n[5]?:=of_decide_eq_true hd
     rcases Nat.lt_or_ge 5 n.length with hl | hl
     · -- both have eight letters
       have e5 : (n.take 6 ++ [c,122])[5]? = (n.take 5 ++ [d,113,122])[5]?:=by rw [e]
       have t6 : (n.take 6).length = 6:=by rw [List.length_take]; omega
       have t5 : (n.take 5).length = 5:=by rw [List.length_take]; omega
       rw [List.getElem?_append_left (by omega),List.getElem?_append_right (by omega),t5,List.getElem?_take] at e5
       simp at e5
       exact hd' e5.symm
     · have el:=congrArg List.length e
       simp only [List.length_append,List.length_take,List.length_cons,List.length_nil] at el
       omega
theorem sub_length (n : List Nat) : 100 ≤ (sub n).length:=by
 unfold sub
 simp only [List.length_append,List.length_map]
 have h1 : letters.length = 26:=by decide
 have h2 : (letters.filter fun c=>decide (c ≠ 113 ∧ c ≠ 122)).length = 24:=by decide
 have h3 : 25 ≤ (letters.filter fun c=>decide (some c ≠ n[5]?)).length:=by
  cases n[5]? with
  | none =>
   have : (letters.filter fun c=>decide (some c ≠ none)) = letters:=List.filter_eq_self.mpr fun c _=>by simp
   rw [this,h1]
   decide
  | some d =>
   have e : (letters.filter fun c=>decide (some c ≠ some d)) = letters.filter fun c=>c != d:=by
    apply List.filter_congr
    intro c _
    by_cases h : c = d
    · subst h; simp
    · simp [h]
   rw [e]
   by_cases hd : d ∈ letters
   · obtain ⟨a,b⟩:=mem_letters.mp hd
     have : ∀ k,k < 26 → 25 ≤ (letters.filter fun c=>c != k + 97).length:=by decide
     have:=this (d - 97) (by omega)
     rw [show d - 97 + 97 = d by omega] at this
     exact this
   · have : (letters.filter fun c=>c != d) = letters:=List.filter_eq_self.mpr fun c hc=>by
      have : c ≠ d:=fun e=>hd (e ▸ hc)
      simpa using this
     rw [this,h1]
     decide
 rw [h1,h2]
 omega
theorem cand_free (n : List Nat) (told : List (List Nat)) (h : told.length < 100) : ∃ x ∈ cand n,x ∉ told:=by
 apply Classical.byContradiction
 intro hx
 have all : ∀ x ∈ sub n,x ∈ told:=fun x hs=>Classical.byContradiction fun ht=>hx ⟨x,sub_cand hs,ht⟩
 have:=nodup_le (sub n) told (sub_nodup n) all
 have:=sub_length n
 omega
end Gen
namespace Gen
open PySem
theorem empty_cps : ("" : Str).cps.toList = []:=by decide +kernel
theorem q_cps : ("q" : Str).cps.toList = [113]:=by decide +kernel
theorem z_cps : ("z" : Str).cps.toList = [122]:=by decide +kernel
theorem qz_cps : ("qz" : Str).cps.toList = [113,122]:=by decide +kernel
theorem abc_cps : ("abcdefghijklmnopqrstuvwxyz" : Str).cps.toList = letters:=by decide +kernel
theorem app_cps (a b : Str) : (a ++ b).cps.toList = a.cps.toList ++ b.cps.toList:=by rw [Str.cps_append,Array.toList_append]
theorem join_cps : ∀ ys : List Str,(Str.join "" ys).cps.toList = (ys.map (·.cps.toList)).flatten
 | []=>rfl
 | [x]=>by simp [Str.join]
 | x :: y :: r=>by
  have ih:=join_cps (y :: r)
  show (x ++ "" ++ Str.join "" (y :: r)).cps.toList = _
  rw [app_cps,app_cps,ih,empty_cps]
  simp
theorem tjoin_cps (ys : List Str) : (Txt.join "" ys).cps.toList = (ys.map (·.cps.toList)).flatten:=by
 unfold Txt.join
 rw [StrLaws.glued_eq_join]
 exact join_cps ys
def c7 (n : Str) : List Str:=letters.map fun c=>Txt.slice n none (some 7) ++ ⟨#[c]⟩
def c6q (n : Str) : List Str:=letters.map fun c=>Txt.slice n none (some 6) ++ ⟨#[c]⟩ ++ "q"
def c6z (n : Str) : List Str:=letters.map fun c=>Txt.slice n none (some 6) ++ ⟨#[c]⟩ ++ "z"
def c5 (n : Str) : List Str:=letters.map fun c=>Txt.slice n none (some 5) ++ ⟨#[c]⟩ ++ "qz"
def candS (n : Str) : List Str:=[n] ++ c7 n ++ c6q n ++ c6z n ++ c5 n
theorem candS_cps (n : Str) : (candS n).map (·.cps.toList) = cand n.cps.toList:=by
 have s7:=slice_to n 7
 have s6:=slice_to n 6
 have s5:=slice_to n 5
 have e7 : ((7 : Nat) : Int) = 7:=rfl
 have e6 : ((6 : Nat) : Int) = 6:=rfl
 have e5 : ((5 : Nat) : Int) = 5:=rfl
 rw [e7] at s7
 rw [e6] at s6
 rw [e5] at s5
 unfold candS cand c7 c6q c6z c5
 simp only [List.map_append,List.map_map,List.map_cons,List.map_nil,Function.comp_def,app_cps,s7,s6,s5,q_cps,z_cps,qz_cps,List.append_assoc,List.cons_append,List.nil_append]
theorem str_ext {a b : Str} (h : a.cps.toList = b.cps.toList) : a = b:=Str.ext' (Array.toList_inj.mp h)
def NameS (z : Str) : Prop:=isName z.cps.toList
theorem candS_name {n z : Str} (hn : NameS n) (hz : z ∈ candS n) : NameS z:=by
 refine cand_name hn ?_
 rw [← candS_cps]
 exact List.mem_map.mpr ⟨z,hz,rfl⟩
theorem candS_free (n : Str) (told : List Str) (h : told.length < 100) : ∃ x ∈ candS n,x ∉ told:=by
 obtain ⟨x,hx,ht⟩:=cand_free n.cps.toList (told.map (·.cps.toList)) (by simpa using h)
 rw [← candS_cps] at hx
 obtain ⟨z,hz,rfl⟩:=List.mem_map.mp hx
 exact ⟨z,hz,fun hm=>ht (List.mem_map.mpr ⟨z,hm,rfl⟩)⟩
def theWords : List Str:=["switch", "keep", "gate", "next", "never", "some", "wall", "row", "step", "piece", "lasso"]
theorem words_split : Txt.split "switch keep gate next never some wall row step piece lasso" " " = theWords:=by decide +kernel
theorem words_names : ∀ x ∈ theWords,NameS x:=by
 have h : theWords.all (fun x=>decide (1 ≤ x.cps.toList.length) && decide (x.cps.toList.length ≤ 8) && x.cps.toList.all fun c=>decide (c ∈ letters)) = true:=by decide +kernel
 intro x hx
 have:=List.all_eq_true.mp h x hx
 simp only [Bool.and_eq_true,decide_eq_true_eq,List.all_eq_true] at this
 exact ⟨this.1.1,this.1.2,this.2⟩
theorem NameS.len {z : Str} (h : NameS z) : z.length ≤ 8:=by
 have:=h.2.1
 simpa [Str.length] using this
theorem joined_name {ys : List Str} (h1 : 1 ≤ ys.length) (h2 : ys.length ≤ 8) (h : ∀ y ∈ ys,∃ c ∈ letters,y = ⟨#[c]⟩) : NameS (Txt.join "" ys):=by
 have e : ∀ zs : List Str,(∀ y ∈ zs,∃ c ∈ letters,y = ⟨#[c]⟩) → (zs.map (·.cps.toList)).flatten.length = zs.length ∧ ∀ c ∈ (zs.map (·.cps.toList)).flatten,c ∈ letters:=by
  intro zs
  induction zs with
  | nil=>intro _; exact ⟨rfl,fun c hc=>by simp at hc⟩
  | cons z zs ih =>
   intro hz
   obtain ⟨c,hc,rfl⟩:=hz z List.mem_cons_self
   obtain ⟨i1,i2⟩:=ih fun y hy=>hz y (List.mem_cons_of_mem _ hy)
   refine ⟨?_,fun d hd=>?_⟩
   · rw [List.map_cons,List.flatten_cons,List.length_append,i1]
     simp
     omega
   · rw [List.map_cons,List.flatten_cons,List.mem_append] at hd
     rcases hd with hd | hd
     · have : d = c:=by simpa using hd
       rw [this]; exact hc
     · exact i2 d hd
 obtain ⟨e1,e2⟩:=e ys h
 unfold NameS isName
 rw [tjoin_cps,e1]
 exact ⟨h1,h2,e2⟩
end Gen
namespace Gen
open PySem L2
def top (i : Nat) : Stmt:=PySem.Challenge.pw_everguard_k55_walls_joined.main.body.getD i (.Pass ⟨0,0,0,0⟩)
abbrev sCell : Stmt:=top 3
abbrev sMix : Stmt:=top 4
abbrev sRich : Stmt:=top 5
abbrev sPick : Stmt:=top 6
abbrev sSpelt : Stmt:=top 7
abbrev sLiteral : Stmt:=top 8
abbrev sWishes : Stmt:=top 9
abbrev sDigits : Stmt:=top 10
abbrev sMachine : Stmt:=top 11
structure Own (mg : Str → Option Value) : Prop where
 len : mg "len" = none
 range : mg "range" = none
 enum : mg "enumerate" = none
 list : mg "list" = none
def pool (xs : List V) : Prop:=(∃ a : Int,xs = [.int a]) ∨ ∃ a b : Int,xs = [.int a,.int b]
def Keep (H H' : Hp) (l : Addr) : Prop:=∀ b o,H b = some o → b ≠ l → H' b = some o
theorem Keep.trans {H H1 H2 : Hp} {l : Addr} (a : Keep H H1 l) (b : Keep H1 H2 l) : Keep H H2 l:=fun c o h n=>b c o (a c o h n) n
theorem Keep.refl (H : Hp) (l : Addr) : Keep H H l:=fun _ _ h _=>h
theorem Same.keep {H H' : Hp} (s : Same H H') (l : Addr) : Keep H H' l:=fun b o h _=>s b o h
theorem Keep.upd_new {H : Hp} {l p : Addr} {o : HO} (hp : H p = none) : Keep H (upd H p o) l:=fun b u h _=>by rw [upd_ne (ne_of_none h hp)]; exact h
theorem Same.upd_new {H : Hp} {p : Addr} {o : HO} (hp : H p = none) : Same H (upd H p o):=fun b u h=>by rw [upd_ne (ne_of_none h hp)]; exact h
theorem Keep.upd_at {H : Hp} {l : Addr} {o : HO} : Keep H (upd H l o) l:=fun b u h n=>by rw [upd_ne n]; exact h
theorem Keep.seq {K : PySem.W.Frag} {H H' : Hp} {a l : Addr} {xs : List V} {n : List V} (e : Keep H H' l) (hl : H l = some (.lst n)) (h : SqL K H a xs) (hne : a ≠ l) : SqL K H' a xs:=by
 rcases h with (h | ⟨o,h⟩) | h
 · exact .inl (.inl (e a _ h hne))
 · exact .inl (.inr ⟨o,e a _ h hne⟩)
 · exact .inr h
def spCell (K : PySem.W.Frag) : Sp:=fun vs H Q _=>∃ (a : Addr) (ns : List Int) (k : Int),vs = [.ref a,.int k] ∧ SqL K H a (ns.map V.int) ∧ 0 ≤ k ∧ ∀ v : Int,Q (.int v) H
def spMix : Sp:=fun vs H Q _=>∃ (c k : Int),vs = [.int c,.int k] ∧ 0 ≤ k ∧ k ≤ 1000000 ∧ ∀ v : Int,0 ≤ v → v < 1999999973 → Q (.int v) H
def spRich : Sp:=fun vs H Q _=>∃ (c k : Int),vs = [.int c,.int k] ∧ 0 ≤ k ∧ k ≤ 1000 ∧ ∀ v : Int,Q (.int v) H
def spPick : Sp:=fun vs H Q _=>∃ (l : Addr) (xs : List V) (m : Int),vs = [.ref l,.int m] ∧ H l = some (.lst xs) ∧ pool xs ∧ 0 < m ∧ m < 1073741824 ∧
 ∀ (d : Int) (ys : List V) (H' : Hp),0 ≤ d → d < m → pool ys → H' l = some (.lst ys) → Keep H H' l → Q (.int d) H'
section
variable {P : Program} {w : World} {K : PySem.W.Frag} {mg : Str → Option Value} {base : Heap}
theorem scCell : FnScope ["_law_script", "_law_k"] ["_law_script", "_law_k"] (defScope sCell):=⟨rfl,rfl,rfl,by decide +kernel,rfl,by decide +kernel,by decide +kernel⟩
theorem ok_cell {f : Addr} {fd : FuncData} (F : Fun K "_law_cell_at" "_law_cell_at" sCell f fd) (T : Own mg) : FnOk P w K mg base CX0 1 f fd ["_law_script", "_law_k"] (spCell K):=by
 refine F.ok scCell (fun vs H Q E h=>?_) (fun cdv A outer s H vs Q E hr h=>?_)
 · obtain ⟨a,ns,k,rfl,_⟩:=h
   rfl
 · obtain ⟨a,ns,k,rfl,hS,h0,kk⟩:=h
   refine ⟨_,pss_cons (ps_if (pt_cmpR op_lt (pv 1) (pe_callB call_len_seq (by rfl) T.len PySem.boot_len (pa_cons (pv 0) pa_nil)) (nomark _)) (pss_one (ps_ret (pe_ix ix_list (pv 0) (pv 1) (fun _ _=>rfl)))) pss_nil)
    (pss_one (ps_ret pe_int)),?_⟩
   refine ⟨_,rfl,_,rfl,a,_,rfl,.inl hS,_,_,rfl,rfl,_,rfl,?_⟩
   refine ite2 (fun hc=>?_) (fun _=>kk 0)
   have hc' : k < ((ns.map V.int).length : Int):=of_decide_eq_true hc
   rw [List.length_map] at hc'
   have hk : k.toNat < ns.length:=by omega
   have e : ((k.toNat : Nat) : Int) = k:=by omega
   have hat : atI (ns.map V.int) ((k.toNat : Nat) : Int) = some (.int ns[k.toNat]):=atI_nat (by rw [List.getElem?_map,List.getElem?_eq_getElem hk]; rfl)
   rw [e] at hat
   exact ⟨_,rfl,_,rfl,a,_,_,.int ns[k.toNat],rfl,rfl,hS,hat,kk _⟩
theorem scMix : FnScope ["_law_cell_here", "_law_k", "_law_m"] ["_law_cell_here", "_law_k"] (defScope sMix):=⟨rfl,rfl,rfl,by decide +kernel,rfl,by decide +kernel,by decide +kernel⟩
theorem ok_mix {f : Addr} {fd : FuncData} (F : Fun K "_law_mix" "_law_mix" sMix f fd) : FnOk P w K mg base CX0 1 f fd ["_law_cell_here", "_law_k"] spMix:=by
 refine F.ok scMix (fun vs H Q E h=>?_) (fun cdv A outer s H vs Q E hr h=>?_)
 · obtain ⟨c,k,rfl,_⟩:=h
   rfl
 · obtain ⟨c,k,rfl,h0,h1,kk⟩:=h
   refine ⟨_,pss_cons (ps_set (i:=2) scMix.nd rfl (Or.inl rfl) (pe_op op_mod (pe_op op_mul (pe_op op_add (pe_op op_add (pe_op op_mod (pv 0) pe_int) (pe_op op_mul (pe_op op_mul (pv 1) (pv 1)) pe_int)) pe_int) pe_int) pe_int))
    (pss_one (ps_ret (pe_op op_mod (pe_op op_mul (pv 2) (pv 2)) pe_int))),?_⟩
   refine ⟨_,rfl,_,_,rfl,rfl,(by show (0 : Int) < 2147483629; decide),_,rfl,_,rfl,_,_,rfl,rfl,.inl ⟨by omega,by omega⟩,_,_,rfl,rfl,.inr ⟨by decide,by decide⟩,_,_,rfl,rfl,_,_,rfl,rfl,
    _,_,rfl,rfl,.inr ⟨by decide,by decide⟩,_,_,rfl,rfl,(by show (0 : Int) < 2147483647; decide),?_⟩
   generalize hm : ((c % 2147483629 + k * k * 7919 + 11) * 48271 % 2147483647 : Int) = m
   have m0 : 0 ≤ m:=by rw [← hm]; exact Int.emod_nonneg _ (by decide)
   have m1 : m < 2147483647:=by rw [← hm]; exact Int.emod_lt_of_pos _ (by decide)
   refine ⟨_,rfl,_,rfl,_,_,rfl,rfl,.inl ⟨by omega,by omega⟩,_,_,rfl,rfl,(by show (0 : Int) < 1999999973; decide),?_⟩
   exact kk _ (Int.emod_nonneg _ (by decide)) (Int.emod_lt_of_pos _ (by decide))
theorem scRich : FnScope ["_law_cell_here", "_law_k", "_law_number", "_law_j"] ["_law_cell_here", "_law_k"] (defScope sRich):=⟨rfl,rfl,rfl,by decide +kernel,rfl,by decide +kernel,by decide +kernel⟩
theorem ok_rich {f fM : Addr} {fd fdM : FuncData} (F : Fun K "_law_rich" "_law_rich" sRich f fd) (T : Own mg) (FM : Fun K "_law_mix" "_law_mix" sMix fM fdM) (bM : Binds K fdM ["_law_cell_here", "_law_k"] []) (mM : mg "_law_mix" = some (.ref fM)) :
 FnOk P w K mg base CX0 2 f fd ["_law_cell_here", "_law_k"] spRich:=by
 have GM : FnOk P w K mg base CX0 1 fM fdM ["_law_cell_here", "_law_k"] spMix:=ok_mix FM
 refine F.ok scRich (fun vs H Q E h=>?_) (fun cdv A outer s H vs Q E hr h=>?_)
 · obtain ⟨c,k,rfl,_⟩:=h
   rfl
 · obtain ⟨c,k,rfl,h0,h1,kk⟩:=h
   refine ⟨_,pss_cons (ps_set (i:=2) scRich.nd rfl (Or.inl rfl) pe_int)
    (pss_cons (ps_for PassesOwn.never rfl (pi_range1 rfl T.range (pa_cons pe_int pa_nil)) (pg_name (i:=3) scRich.nd rfl (Or.inl rfl))
     (pss_one (ps_set (i:=2) scRich.nd rfl (Or.inl rfl) (pe_op op_add (pe_op op_mul (pv 2) pe_int) (pe_call GM hr rfl mM FM.kp bM .nil pass0 (pa_cons (pv 0) (pa_cons (pe_op op_add (pe_op op_mul pe_int (pv 1)) (pv 3)) pa_nil)))))))
    (pss_one (ps_ret (pv 2)))),?_⟩
   refine ⟨12,rfl,by decide,by decide,for_range (n:=12) (fun i σ H2=>H2 = H ∧ ∃ (n : Int) (v : Option V),σ = [some (.int c),some (.int k),some (.int n),v]) ⟨rfl,0,none,rfl⟩ ?_ ?_⟩
   · rintro i σ H2 hi ⟨rfl,n,v,rfl⟩
     refine ⟨_,rfl,_,_,rfl,rfl,.inr ⟨by decide,by decide⟩,_,rfl,_,rfl,_,_,rfl,rfl,.inl ⟨by decide,by decide⟩,_,rfl,_,_,rfl,rfl,?_⟩
     refine ⟨_,_,rfl,by omega,by omega,fun v hv0 hv1=>⟨_,_,rfl,rfl,rfl,_,_,rfl⟩⟩
   · rintro σ H2 ⟨rfl,n,v,rfl⟩
     exact ⟨_,rfl,kk n⟩
theorem scPick : FnScope ["_law_left", "_law_many", "_law_digit"] ["_law_left", "_law_many"] (defScope sPick):=⟨rfl,rfl,rfl,by decide +kernel,rfl,by decide +kernel,by decide +kernel⟩
theorem ok_pick {f : Addr} {fd : FuncData} (F : Fun K "_law_pick" "_law_pick" sPick f fd) (T : Own mg) : FnOk P w K mg base CX0 1 f fd ["_law_left", "_law_many"] spPick:=by
 refine F.ok scPick (fun vs H Q E h=>?_) (fun cdv A outer s H vs Q E hr h=>?_)
 · obtain ⟨l,xs,m,rfl,_⟩:=h
   rfl
 · obtain ⟨l,xs,m,rfl,hl,hp,m0,m1,kk⟩:=h
   refine ⟨_,pss_cons (ps_if (pw_and (pt_cmpR op_in_seq (pe_ix ix_list (pv 0) pe_int (fun _ _=>rfl)) (pe_tup (pa_cons pe_int (pa_cons (pe_un un_neg pe_int) pa_nil))) (by with_unfolding_all rfl))
    (pw_and1 (pt_cmpR op_gt (pe_callB call_len_seq (by rfl) T.len PySem.boot_len (pa_cons (pv 0) pa_nil)) pe_int (nomark _)))).pt
    (pss_one (ps_asg (pe_bm0 PySem.F.plainAttrs_list PySem.F.slot_list_pop PySem.F.type_list_pop mt_pop (pv 0)) (pg_sub (pv 0) pe_int set_list))) pss_nil)
    (pss_cons (ps_set (i:=2) scPick.nd rfl (Or.inl rfl) (pe_op op_mod (pe_ix ix_list (pv 0) pe_int (fun _ _=>rfl)) (pv 1)))
    (pss_cons (ps_asg (pe_op op_fdiv (pe_ix ix_list (pv 0) pe_int (fun _ _=>rfl)) (pv 1)) (pg_sub (pv 0) pe_int set_list))
    (pss_one (ps_ret (pv 2))))),?_⟩
   rcases hp with ⟨a,rfl⟩ | ⟨a,b,rfl⟩
   · refine ⟨_,rfl,l,_,_,.int a,rfl,rfl,SqL.of hl,rfl,_,rfl,(by show 2 ≤ sizeLine; decide),fun t ht=>?_⟩
     have nl : l ≠ t:=ne_of_none hl ht
     have hl1 : (upd H t (.tup [.int 0,.int (-1)])) l = some (.lst [.int a]):=by rw [upd_ne nl]; exact hl
     have kp : Keep H (upd H t (.tup [.int 0,.int (-1)])) l:=Keep.upd_new ht
     refine ⟨t,_,rfl,.inr (SqT.of upd_same),rfl,rfl,_,rfl,?_⟩
     refine ite2 (fun _=>?_) (fun _=>iteF ?_)
     · refine ⟨_,rfl,l,_,rfl,.inl (SqL.of hl1),_,_,rfl,rfl,_,rfl,?_⟩
       refine ite2 (fun h=>absurd (of_decide_eq_true h) (by show ¬ (1 : Int) < ((1 : Nat) : Int); decide)) (fun _=>?_)
       refine ⟨_,rfl,l,_,_,.int a,rfl,rfl,SqL.of hl1,rfl,_,rfl,_,_,rfl,rfl,m0,?_⟩
       refine ⟨_,rfl,l,_,_,.int a,rfl,rfl,SqL.of hl1,rfl,_,rfl,_,_,rfl,rfl,⟨m0,m1⟩,_,rfl,l,_,_,0,rfl,rfl,hl1,rfl,?_⟩
       exact ⟨_,rfl,kk _ _ _ (Int.emod_nonneg _ (by omega)) (Int.emod_lt_of_pos _ m0) (.inl ⟨_,rfl⟩) upd_same (kp.trans Keep.upd_at)⟩
     · refine ⟨_,rfl,l,_,_,.int a,rfl,rfl,SqL.of hl1,rfl,_,rfl,_,_,rfl,rfl,m0,?_⟩
       refine ⟨_,rfl,l,_,_,.int a,rfl,rfl,SqL.of hl1,rfl,_,rfl,_,_,rfl,rfl,⟨m0,m1⟩,_,rfl,l,_,_,0,rfl,rfl,hl1,rfl,?_⟩
       exact ⟨_,rfl,kk _ _ _ (Int.emod_nonneg _ (by omega)) (Int.emod_lt_of_pos _ m0) (.inl ⟨_,rfl⟩) upd_same (kp.trans Keep.upd_at)⟩
   · refine ⟨_,rfl,l,_,_,.int a,rfl,rfl,SqL.of hl,rfl,_,rfl,(by show 2 ≤ sizeLine; decide),fun t ht=>?_⟩
     have nl : l ≠ t:=ne_of_none hl ht
     have hl1 : (upd H t (.tup [.int 0,.int (-1)])) l = some (.lst [.int a,.int b]):=by rw [upd_ne nl]; exact hl
     have kp : Keep H (upd H t (.tup [.int 0,.int (-1)])) l:=Keep.upd_new ht
     refine ⟨t,_,rfl,.inr (SqT.of upd_same),rfl,rfl,_,rfl,?_⟩
     refine ite2 (fun _=>?_) (fun _=>iteF ?_)
     · refine ⟨_,rfl,l,_,rfl,.inl (SqL.of hl1),_,_,rfl,rfl,_,rfl,?_⟩
       refine ite2 (fun _=>?_) (fun h=>absurd (decide_eq_true (show (1 : Int) < ((2 : Nat) : Int) by decide)) h)
       refine ⟨_,rfl,.inl ⟨rfl,_,SqL.of hl1⟩,l,_,.int b,rfl,rfl,hl1,rfl,_,rfl,l,_,_,0,rfl,rfl,upd_same,rfl,?_⟩
       refine ⟨_,rfl,l,_,_,.int b,rfl,rfl,SqL.of upd_same,rfl,_,rfl,_,_,rfl,rfl,m0,?_⟩
       refine ⟨_,rfl,l,_,_,.int b,rfl,rfl,SqL.of upd_same,rfl,_,rfl,_,_,rfl,rfl,⟨m0,m1⟩,_,rfl,l,_,_,0,rfl,rfl,upd_same,rfl,?_⟩
       exact ⟨_,rfl,kk _ _ _ (Int.emod_nonneg _ (by omega)) (Int.emod_lt_of_pos _ m0) (.inl ⟨_,rfl⟩) upd_same (((kp.trans Keep.upd_at).trans Keep.upd_at).trans Keep.upd_at)⟩
     · refine ⟨_,rfl,l,_,_,.int a,rfl,rfl,SqL.of hl1,rfl,_,rfl,_,_,rfl,rfl,m0,?_⟩
       refine ⟨_,rfl,l,_,_,.int a,rfl,rfl,SqL.of hl1,rfl,_,rfl,_,_,rfl,rfl,⟨m0,m1⟩,_,rfl,l,_,_,0,rfl,rfl,hl1,rfl,?_⟩
       exact ⟨_,rfl,kk _ _ _ (Int.emod_nonneg _ (by omega)) (Int.emod_lt_of_pos _ m0) (.inr ⟨_,_,rfl⟩) upd_same (kp.trans Keep.upd_at)⟩
end
end Gen
namespace Gen
open PySem L2
theorem small {n : Nat} (h : n ≤ 1000) : n < sizeLine:=small1000 h
theorem small' {n : Nat} (h : n ≤ 1000) : n ≤ sizeLine:=Nat.le_of_lt (small1000 h)
def spSpelt (K : PySem.W.Frag) : Sp:=fun vs H Q _=>∃ (l t : Addr) (xs : List V) (told : List Str),vs = [.ref l,.ref t] ∧ H l = some (.lst xs) ∧ pool xs ∧ t ≠ l ∧ SqL K H t (told.map V.str) ∧ told.length < 100 ∧
 ∀ (z : Str) (ys : List V) (H' : Hp),NameS z → z ∉ told → pool ys → H' l = some (.lst ys) → Keep H H' l → Q (.str z) H'
theorem inV_str (z : Str) (told : List Str) : inV (.str z) (told.map V.str) = decide (z ∈ told):=by
 unfold inV
 rw [Bool.eq_iff_iff,List.any_eq_true,decide_eq_true_eq]
 constructor
 · rintro ⟨v,hv,e⟩
   obtain ⟨y,hy,rfl⟩:=List.mem_map.mp hv
   have : y = z:=by simpa [eqV] using e
   rw [← this]; exact hy
 · intro h
   exact ⟨.str z,List.mem_map.mpr ⟨z,h,rfl⟩,by simp [eqV]⟩
theorem flat_strs (told : List Str) : (told.map V.str).all flatV = true:=by
 rw [List.all_eq_true]
 intro v hv
 obtain ⟨y,_,rfl⟩:=List.mem_map.mp hv
 rfl
theorem letter_at {i : Nat} {c : Nat} (h : ("abcdefghijklmnopqrstuvwxyz" : Str).cps[i]? = some c) : letters[i]? = some c:=by
 rw [← abc_cps]
 simpa using h
theorem take_next {α β : Type} {l : List α} {i : Nat} {c : α} (f : α → β) (h : l[i]? = some c) : (l.take (i + 1)).map f = (l.take i).map f ++ [f c]:=by
 rw [List.take_add_one,h]
 simp
theorem gName_yes {i : Nat} {x : V} {σ : St} {H : Hp} {A B : St → Hp → Prop} (h : A (σ.set i (some x)) H) : gName i x σ H (fun σ2 H2=>tYes σ2 H2 (fun b H3=>if b = true then A σ2 H3 else B σ2 H3)):=by
 show (if true = true then A (σ.set i (some x)) H else B (σ.set i (some x)) H)
 rw [if_pos rfl]
 exact h
theorem ndKLL : (["_law_k", "_law_left", "_law_letters"] : List Str).Nodup:=by decide +kernel
theorem ndON : (["_law_one", "_law_name"] : List Str).Nodup:=by decide +kernel
theorem ndOT : (["_law_one", "_law_told"] : List Str).Nodup:=by decide +kernel
section
variable {P : Program} {w : World} {K : PySem.W.Frag} {mg : Str → Option Value} {base : Heap}
abbrev nSpelt : List Str:=["_law_left", "_law_told", "_law_letters", "_law_words", "_law_size", "_law_name", "_law_some"]
theorem scSpelt : FnScope nSpelt ["_law_left", "_law_told"] (defScope sSpelt):=⟨rfl,rfl,rfl,by decide +kernel,rfl,by decide +kernel,by decide +kernel⟩
theorem lc_letters {D : Addr} {te : TE} {Q : Hp → Prop} {H1 : Hp} {nm : Str} (f : Nat → Str) (hD : H1 D = none)
 (he : ∀ (c : Nat) (H : Hp) (R : VK),c ∈ letters → R (.str (f c)) H → te [some (.str ⟨#[c]⟩),some (.str nm)] H R)
 (fin : Q (upd H1 D (.lst ((letters.map f).map V.str)))) :
 ∃ W : Nat → Nat → St → Hp → Prop,(∃ m,W 0 m [none,some (.str nm)] (upd H1 D (.lst []))) ∧ bLC D (gName 0) tYes te (Its "abcdefghijklmnopqrstuvwxyz") W Q:=by
 have hsz : ("abcdefghijklmnopqrstuvwxyz" : Str).cps.size = 26:=by decide +kernel
 have hll : letters.length = 26:=by decide
 refine lc_by 26 (fun i acc σ H=>acc = ((letters.take i).map f).map V.str ∧ (∃ v,σ = [v,some (.str nm)]) ∧ H = upd H1 D (.lst acc)) ⟨rfl,⟨none,rfl⟩,rfl⟩ upd_same ?_ ?_
 · rintro acc σ H _ ⟨rfl,_,rfl⟩
   refine ⟨hsz.symm,?_⟩
   rw [List.take_of_length_le (by rw [hll]; decide)]
   exact fin
 · rintro i acc σ H hi hDD ⟨rfl,⟨v,rfl⟩,rfl⟩
   refine ⟨by show i < _; rw [hsz]; exact hi,?_⟩
   rintro x H' ⟨rfl,c,hc,rfl⟩
   have hc':=letter_at hc
   refine gName_yes ?_
   refine he c _ _ (List.mem_of_getElem? hc') ?_
   refine ⟨_,upd_same,?_,lcW_next hi upd_same ⟨?_,⟨_,rfl⟩,?_⟩⟩
   · rw [List.length_map,List.length_map,List.length_take]
     exact small (by omega)
   · rw [take_next f hc',List.map_append]
     rfl
   · rw [upd_upd]
theorem sum_ones : ∀ zs : List Str,(∀ y ∈ zs,∃ c ∈ letters,y = ⟨#[c]⟩) → (zs.map (·.length)).sum = zs.length
 | [],_=>rfl
 | z :: zs,h=>by
  obtain ⟨c,_,rfl⟩:=h z List.mem_cons_self
  have ih:=sum_ones zs fun y hy=>h y (List.mem_cons_of_mem _ hy)
  rw [List.map_cons,List.sum_cons,ih,List.length_cons]
  show 1 + zs.length = zs.length + 1
  omega
theorem lenS (n : Str) (h : NameS n) (k : Int) : (Txt.slice n none (some k)).length ≤ 8:=Nat.le_trans (Txt.slice_le n _ _) h.len
theorem oneLen (c : Nat) : (⟨#[c]⟩ : Str).length = 1:=rfl
theorem appLen (a b : Str) : (a ++ b).length = a.length + b.length:=Str.length_append a b
theorem line8 {n : Nat} (h : n ≤ 100) : n ≤ sizeLine:=Nat.le_trans h (by decide)
abbrev cxSpelt (P : Program) (w : World) (K : PySem.W.Frag) (mg : Str → Option Value) (base : Heap) (f : Addr) (cdv : Value) (A : Around) (outer : List Env) (s : Shared) (H : Hp) (E : XK) : Cx :=
 (cxOf CX0 P w K mg base nSpelt "_law_spelt" (defScope sSpelt) f cdv A outer s H E).nox
abbrev abc : Str:="abcdefghijklmnopqrstuvwxyz"
theorem spelt_rest {f : Addr} {cdv : Value} {A : Around} {outer : List Env} {s : Shared} {H : Hp} {E : XK} {Q : VK} {l t : Addr} {told : List Str} (hS : SqL K H t (told.map V.str)) (hne : t ≠ l) (hlt : told.length < 100) (hl0 : ∃ xs,H l = some (.lst xs))
 (kk : ∀ (z : Str) (ys : List V) (H' : Hp),NameS z → z ∉ told → pool ys → H' l = some (.lst ys) → Keep H H' l → Q (.str z) H') :
 ∃ tR : TS,PSs (cxSpelt P w K mg base f cdv A outer s H E) (List.drop 5 (defBody sSpelt)) tR ∧ ∀ (nm : Str) (ys : List V) (H4 : Hp) (w1 : Addr) (sz : Int),NameS nm → pool ys → H4 l = some (.lst ys) → Keep H H4 l →
  tR { nx:=fun _ H'=>Q .non H',rt:=Q } [some (.ref l),some (.ref t),some (.str abc),some (.ref w1),some (.int sz),some (.str nm),none] H4:=by
 refine ⟨_,pss_cons (ps_set (i:=6) scSpelt.nd rfl (Or.inl rfl) (pe_op op_cat (pe_op op_cat (pe_lst (pa_cons (pv 5) pa_nil))
  (pe_lc (N:=["_law_one", "_law_name"]) (js:=[none,some 5]) (by kernel_rfl) rfl (pi_str (pv 2)) (fun _ _ _ _ _ _=>pg_name (i:=0) ndON rfl (Or.inl rfl) (.inr rfl)) (fun _ _ _ _ _ _=>pifs_nil)
   (fun _ _ _ _ _ _=>pe_op op_add_str (pe_slice sl_str (pv 1) po_none (po_some pe_int)) (pv 0))))
  (pe_lc (N:=["_law_one", "_law_name"]) (js:=[none,some 5]) (by kernel_rfl) rfl (pi_str (pv 2)) (fun _ _ _ _ _ _=>pg_name (i:=0) ndON rfl (Or.inl rfl) (.inr rfl)) (fun _ _ _ _ _ _=>pifs_nil)
   (fun _ _ _ _ _ _=>pe_op op_add_str (pe_op op_add_str (pe_slice sl_str (pv 1) po_none (po_some pe_int)) (pv 0)) pe_str))))
  (pss_cons (ps_set (i:=6) scSpelt.nd rfl (Or.inl rfl) (pe_op op_cat (pe_op op_cat (pv 6)
   (pe_lc (N:=["_law_one", "_law_name"]) (js:=[none,some 5]) (by kernel_rfl) rfl (pi_str (pv 2)) (fun _ _ _ _ _ _=>pg_name (i:=0) ndON rfl (Or.inl rfl) (.inr rfl)) (fun _ _ _ _ _ _=>pifs_nil)
    (fun _ _ _ _ _ _=>pe_op op_add_str (pe_op op_add_str (pe_slice sl_str (pv 1) po_none (po_some pe_int)) (pv 0)) pe_str)))
   (pe_lc (N:=["_law_one", "_law_name"]) (js:=[none,some 5]) (by kernel_rfl) rfl (pi_str (pv 2)) (fun _ _ _ _ _ _=>pg_name (i:=0) ndON rfl (Or.inl rfl) (.inr rfl)) (fun _ _ _ _ _ _=>pifs_nil)
    (fun _ _ _ _ _ _=>pe_op op_add_str (pe_op op_add_str (pe_slice sl_str (pv 1) po_none (po_some pe_int)) (pv 0)) pe_str))))
  (pss_one (ps_ret (pe_ix ix_list
   (pe_lc (N:=["_law_one", "_law_told"]) (js:=[none,some 1]) (by kernel_rfl) rfl (pi_list (pv 6)) (fun _ _ _ _ _ _=>pg_name (i:=0) ndOT rfl (Or.inl rfl) (.inr rfl))
    (fun _ _ _ _ _ _=>pifs_one (pt_cmpR (r:=rIn K true) op_notIn_seq (pv 0) (pv 1) (by with_unfolding_all rfl))) (fun _ _ _ _ _ _=>pv 0)) pe_int (fun _ _=>rfl))))),?_⟩
 intro nm ys H4 w1 sz hn hp hl4 kp4
 have h26 : ∀ g : Nat → Str,((letters.map g).map V.str).length = 26:=fun g=>by rw [List.length_map,List.length_map]; decide
 have h8 : ∀ k : Int,nm.length ≤ sizeLine:=fun _=>line8 (Nat.le_trans hn.len (by decide))
 refine ⟨_,rfl,(by show 1 ≤ sizeLine; decide),fun p1 hp1=>?_⟩
 refine ⟨_,rfl,abc,rfl,fun D1 hD1=>lc_letters (nm:=nm) (fun c=>Txt.slice nm none (some 7) ++ ⟨#[c]⟩) hD1 (fun c H R hc hR=>?_) ?_⟩
 · refine ⟨_,rfl,_,rfl,nm,7,rfl,rfl,rfl,h8 0,_,rfl,_,_,rfl,rfl,?_,hR⟩
   have:=lenS nm hn 7
   rw [oneLen]
   exact line8 (by omega)
 have n1 : p1 ≠ D1:=ne_of_none (upd_same (H:=H4)) hD1
 refine ⟨p1,D1,_,_,rfl,rfl,(by rw [upd_ne n1,upd_same]),upd_same,?_,fun p2 hp2=>?_⟩
 · rw [h26]
   exact line8 (by show 1 + 26 ≤ 100; decide)
 refine ⟨_,rfl,abc,rfl,fun D2 hD2=>lc_letters (nm:=nm) (fun c=>Txt.slice nm none (some 6) ++ ⟨#[c]⟩ ++ "q") hD2 (fun c H R hc hR=>?_) ?_⟩
 · refine ⟨_,rfl,_,rfl,nm,6,rfl,rfl,rfl,h8 0,_,rfl,_,_,rfl,rfl,?_,_,_,rfl,rfl,?_,hR⟩
   · have:=lenS nm hn 6
     rw [oneLen]
     exact line8 (by omega)
   · have:=lenS nm hn 6
     have e1 : ("q" : Str).length = 1:=by decide +kernel
     rw [appLen,oneLen,e1]
     exact line8 (by omega)
 have n2 : p2 ≠ D2:=ne_of_none (upd_same (H:=_)) hD2
 refine ⟨p2,D2,_,_,rfl,rfl,(by rw [upd_ne n2,upd_same]),upd_same,?_,fun p3 hp3=>?_⟩
 · rw [List.length_append,h26,h26]
   exact line8 (by show 1 + 26 + 26 ≤ 100; decide)
 refine ⟨_,rfl,_,rfl,abc,rfl,fun D3 hD3=>lc_letters (nm:=nm) (fun c=>Txt.slice nm none (some 6) ++ ⟨#[c]⟩ ++ "z") hD3 (fun c H R hc hR=>?_) ?_⟩
 · refine ⟨_,rfl,_,rfl,nm,6,rfl,rfl,rfl,h8 0,_,rfl,_,_,rfl,rfl,?_,_,_,rfl,rfl,?_,hR⟩
   · have:=lenS nm hn 6
     rw [oneLen]
     exact line8 (by omega)
   · have:=lenS nm hn 6
     have e1 : ("z" : Str).length = 1:=by decide +kernel
     rw [appLen,oneLen,e1]
     exact line8 (by omega)
 have n3 : p3 ≠ D3:=ne_of_none (upd_same (H:=_)) hD3
 refine ⟨p3,D3,_,_,rfl,rfl,(by rw [upd_ne n3,upd_same]),upd_same,?_,fun p4 hp4=>?_⟩
 · rw [List.length_append,List.length_append,h26,h26,h26]
   exact line8 (by show 1 + 26 + 26 + 26 ≤ 100; decide)
 refine ⟨_,rfl,abc,rfl,fun D4 hD4=>lc_letters (nm:=nm) (fun c=>Txt.slice nm none (some 5) ++ ⟨#[c]⟩ ++ "qz") hD4 (fun c H R hc hR=>?_) ?_⟩
 · refine ⟨_,rfl,_,rfl,nm,5,rfl,rfl,rfl,h8 0,_,rfl,_,_,rfl,rfl,?_,_,_,rfl,rfl,?_,hR⟩
   · have:=lenS nm hn 5
     rw [oneLen]
     exact line8 (by omega)
   · have:=lenS nm hn 5
     have e1 : ("qz" : Str).length = 2:=by decide +kernel
     rw [appLen,oneLen,e1]
     exact line8 (by omega)
 have n4 : p4 ≠ D4:=ne_of_none (upd_same (H:=_)) hD4
 refine ⟨p4,D4,_,_,rfl,rfl,(by rw [upd_ne n4,upd_same]),upd_same,?_,fun p5 hp5=>?_⟩
 · rw [List.length_append,List.length_append,List.length_append,h26,h26,h26,h26]
   exact small' (by show 1 + 26 + 26 + 26 + 26 ≤ 1000; decide)
 have eall : [V.str nm] ++ ((letters.map fun c=>Txt.slice nm none (some 7) ++ ⟨#[c]⟩).map V.str) ++ ((letters.map fun c=>Txt.slice nm none (some 6) ++ ⟨#[c]⟩ ++ "q").map V.str) ++ ((letters.map fun c=>Txt.slice nm none (some 6) ++ ⟨#[c]⟩ ++ "z").map V.str)
  ++ ((letters.map fun c=>Txt.slice nm none (some 5) ++ ⟨#[c]⟩ ++ "qz").map V.str) = (candS nm).map V.str:=by
  unfold candS c7 c6q c6z c5
  simp only [List.map_append,List.map_cons,List.map_nil]
 rw [eall]
 have sm : ∀ o5,Same H4 (upd (upd (upd (upd (upd (upd (upd (upd (upd H4 p1 _) D1 _) p2 _) D2 _) p3 _) D3 _) p4 _) D4 _) p5 o5):=fun o5 =>
  (((((((((Same.upd_new hp1).trans (Same.upd_new hD1)).trans (Same.upd_new hp2)).trans (Same.upd_new hD2)).trans (Same.upd_new hp3)).trans (Same.upd_new hD3)).trans (Same.upd_new hp4)).trans (Same.upd_new hD4)).trans (Same.upd_new hp5))
 have sm5:=sm (.lst ((candS nm).map V.str))
 generalize hG : upd _ p5 (HO.lst ((candS nm).map V.str)) = G at *
 have hG5 : G p5 = some (.lst ((candS nm).map V.str)):=by rw [← hG,upd_same]
 refine ⟨_,rfl,p5,rfl,⟨_,SqL.of hG5⟩,fun D hD=>?_⟩
 obtain ⟨xs0,hl0⟩:=hl0
 have np : p5 ≠ D:=ne_of_none hG5 hD
 have h5 : ∀ o,(upd G D o) p5 = some (.lst ((candS nm).map V.str)):=fun o=>by rw [upd_ne np]; exact hG5
 have hSt : ∀ o,SqL K (upd G D o) t (told.map V.str):=fun o=>Same.seq (Same.upd_new hD) (Same.seq sm5 (kp4.seq hl0 hS hne))
 refine lc_by (candS nm).length (fun i acc σ H=>acc = (((candS nm).take i).filter fun z=>!decide (z ∈ told)).map V.str ∧ (∃ v,σ = [v,some (.ref t)]) ∧ H = upd G D (.lst acc)) ⟨rfl,⟨none,rfl⟩,rfl⟩ upd_same ?_ ?_
 · rintro acc σ H5 _ ⟨rfl,_,rfl⟩
   refine ⟨⟨_,SqL.of (h5 _),by simp⟩,?_⟩
   rw [List.take_length]
   obtain ⟨z,hz,hzt⟩:=candS_free nm told hlt
   have hzf : z ∈ (candS nm).filter fun z=>!decide (z ∈ told):=List.mem_filter.mpr ⟨hz,by simp [hzt]⟩
   cases hfl : (candS nm).filter fun z=>!decide (z ∈ told) with
   | nil=>rw [hfl] at hzf; cases hzf
   | cons z0 r =>
    have h0 : z0 ∈ (candS nm).filter fun z=>!decide (z ∈ told):=by rw [hfl]; exact List.mem_cons_self
    obtain ⟨m1,m2⟩:=List.mem_filter.mp h0
    have m3 : z0 ∉ told:=by simpa using m2
    have sl : G l = some (.lst ys):=sm5 l _ hl4
    have nl : l ≠ D:=ne_of_none sl hD
    exact ⟨D,_,0,.str z0,rfl,rfl,SqL.of upd_same,(atI_nat (j:=0) (by rfl) : atI _ ((0 : Nat) : Int) = _),kk z0 ys _ (candS_name hn m1) m3 hp (by rw [upd_ne nl]; exact sl) ((kp4.trans (Same.keep sm5 l)).trans (Keep.upd_new hD))⟩
 · rintro i acc σ H5 hi hDD ⟨rfl,⟨v,rfl⟩,rfl⟩
   have hci : (candS nm)[i]? = some (candS nm)[i]:=List.getElem?_eq_getElem hi
   have hx : ((candS nm).map V.str)[i]? = some (.str (candS nm)[i]):=by rw [List.getElem?_map,hci]; rfl
   refine ⟨⟨_,_,SqL.of (h5 _),hx⟩,?_⟩
   rintro x H' ⟨rfl,hall⟩
   have ex:=hall _ (SqL.of (h5 _))
   rw [hx] at ex
   cases ex
   refine ⟨_,rfl,_,rfl,t,_,rfl,.inl (hSt _),rfl,flat_strs told,_,rfl,?_⟩
   have lenF : ∀ j,((((candS nm).take j).filter fun z=>!decide (z ∈ told)).map V.str).length < sizeLine:=fun j=>by
    rw [List.length_map]
    refine Nat.lt_of_le_of_lt (List.length_filter_le _ _) ?_
    rw [List.length_take]
    have : (candS nm).length = 105:=by
     unfold candS c7 c6q c6z c5
     simp only [List.length_append,List.length_map,List.length_singleton]
     decide
    exact small (by omega)
   refine ite2 (fun h=>?_) (fun h=>?_)
   · have hnt : (candS nm)[i] ∉ told:=by simpa [inV_str] using h
     refine ⟨_,rfl,_,upd_same,lenF i,lcW_next hi upd_same ⟨?_,⟨_,rfl⟩,by rw [upd_upd]⟩⟩
     rw [take_succ_filter _ _ _ _ hci,if_pos (by simp [hnt]),List.map_append]
     rfl
   · have hnt : (candS nm)[i] ∈ told:=by simpa [inV_str] using h
     refine lcW_next hi upd_same ⟨?_,⟨_,rfl⟩,rfl⟩
     rw [take_succ_filter _ _ _ _ hci,if_neg (by simp [hnt]),List.append_nil]
theorem ok_spelt {f fP : Addr} {fd fdP : FuncData} (F : Fun K "_law_spelt" "_law_spelt" sSpelt f fd) (T : Own mg) (FP : Fun K "_law_pick" "_law_pick" sPick fP fdP) (bP : Binds K fdP ["_law_left", "_law_many"] []) (mP : mg "_law_pick" = some (.ref fP)) :
 FnOk P w K mg base CX0 2 f fd ["_law_left", "_law_told"] (spSpelt K):=by
 have GP : FnOk P w K mg base CX0 1 fP fdP ["_law_left", "_law_many"] spPick:=ok_pick FP T
 refine F.ok scSpelt (fun vs H Q E h=>?_) (fun cdv A outer s H vs Q E hr h=>?_)
 · obtain ⟨l,t,xs,told,rfl,_⟩:=h
   rfl
 · obtain ⟨l,t,xs,told,rfl,hl,hp,hne,hS,hlt,kk⟩:=h
   obtain ⟨tR,hR,rR⟩:=spelt_rest (P:=P) (w:=w) (mg:=mg) (base:=base) (f:=f) (cdv:=cdv) (A:=A) (outer:=outer) (s:=s) (E:=E) hS hne hlt ⟨xs,hl⟩ kk
   refine ⟨_,pss_cons (ps_set (i:=2) scSpelt.nd rfl (Or.inr rfl) pe_str)
    (pss_cons (ps_set (i:=3) scSpelt.nd rfl (Or.inl rfl) (pe_bm PySem.F.plainAttrs_str PySem.F.slot_str_split PySem.F.type_str_split mt_split pe_str (pa_cons pe_str pa_nil)))
    (pss_cons (ps_set (i:=4) scSpelt.nd rfl (Or.inl rfl) (pe_op op_add pe_int (pe_call GP hr rfl mP FP.kp bP .nil pass0 (pa_cons (pv 0) (pa_cons pe_int pa_nil)))))
    (pss_cons (ps_set (i:=5) scSpelt.nd rfl (Or.inr rfl) (pe_ix ix_list (pv 3) (pe_call GP hr rfl mP FP.kp bP .nil pass0 (pa_cons (pv 0) (pa_cons pe_int pa_nil))) (fun _ _=>rfl)))
    (pss_cons (ps_if (pt_cmpR op_lt (pv 4) pe_int (nomark _))
     (pss_one (ps_set (i:=5) scSpelt.nd rfl (Or.inr rfl) (pe_bm PySem.F.plainAttrs_str PySem.F.slot_str_join PySem.F.type_str_join mt_join pe_str (pa_cons
      (pe_lc (N:=["_law_k", "_law_left", "_law_letters"]) (js:=[none,some 0,some 2]) (by kernel_rfl) rfl (pi_range1 rfl T.range (pa_cons (pv 4) pa_nil)) (fun _ _ _ _ _ _=>pg_name (i:=0) ndKLL rfl (Or.inl rfl) (.inr rfl)) (fun _ _ _ _ _ _=>pifs_nil)
       (fun _ _ _ _ _ _=>pe_ix ix_str (pv 2) (pe_call GP hr rfl mP FP.kp bP .nil pass0 (pa_cons (pv 1) (pa_cons pe_int pa_nil))) (fun _ _=>rfl))) pa_nil)))) pss_nil) hR)))),?_⟩
   refine ⟨rfl,_,_,rfl,rfl,(by decide +kernel),(by decide +kernel),(by decide +kernel),fun w1 hw1=>?_⟩
   rw [words_split]
   have nw : l ≠ w1:=ne_of_none hl hw1
   refine ⟨_,rfl,l,xs,9,rfl,(by rw [upd_ne nw]; exact hl),hp,by decide,by decide,fun d ys H2 d0 d1 hp2 hl2 kp2=>⟨_,_,rfl,rfl,?_⟩⟩
   have hw2 : H2 w1 = some (.lst (theWords.map V.str)):=kp2 w1 _ upd_same (Ne.symm nw)
   refine ⟨_,rfl,_,rfl,l,ys,11,rfl,hl2,hp2,by decide,by decide,fun d2 ys2 H3 e0 e1 hp3 hl3 kp3=>?_⟩
   have hw3 : H3 w1 = some (.lst (theWords.map V.str)):=kp3 w1 _ hw2 (Ne.symm nw)
   have kp03 : Keep H H3 l:=((Keep.upd_new hw1).trans kp2).trans kp3
   have hlen : theWords.length = 11:=by decide +kernel
   have hd2 : d2.toNat < theWords.length:=by rw [hlen]; omega
   have ed2 : ((d2.toNat : Nat) : Int) = d2:=by omega
   have hat : atI (theWords.map V.str) ((d2.toNat : Nat) : Int) = some (.str theWords[d2.toNat]):=atI_nat (by rw [List.getElem?_map,List.getElem?_eq_getElem hd2]; rfl)
   rw [ed2] at hat
   have hnw : NameS theWords[d2.toNat]:=words_names _ (List.getElem_mem hd2)
   refine ⟨w1,_,_,.str theWords[d2.toNat],rfl,rfl,SqL.of hw3,hat,?_⟩
   refine ⟨_,rfl,_,_,rfl,rfl,_,rfl,?_⟩
   refine ite2 (fun hc=>?_) (fun _=>?_)
   · have hc' : (1 : Int) + d < 9:=of_decide_eq_true hc
     refine ⟨rfl,_,rfl,_,rfl,by omega,by omega,fun D hD=>?_⟩
     have nD : l ≠ D:=ne_of_none hl3 hD
     refine lc_by (1 + d).toNat (fun i acc σ H'=>∃ (zs : List Str) (v : Option V) (ys' : List V),acc = zs.map V.str ∧ zs.length = i ∧ (∀ y ∈ zs,∃ c ∈ letters,y = ⟨#[c]⟩) ∧ σ = [v,some (.ref l),some (.str abc)] ∧ pool ys' ∧ H' l = some (.lst ys') ∧ Keep H3 H' l)
      ⟨[],none,ys2,rfl,rfl,fun y hy=>(by cases hy),rfl,hp3,(by rw [upd_ne nD]; exact hl3),Keep.upd_new hD⟩ upd_same ?_ ?_
     · rintro acc σ H4 hDD ⟨zs,v,ys',rfl,hzl,hz,rfl,hp4,hl4,kp4⟩
       refine ⟨Nat.le_refl _,?_⟩
       refine ⟨"",D,zs,rfl,rfl,SqL.of hDD,?_,?_⟩
       · rw [sum_ones zs hz]
         have e0 : ("" : Str).length = 0:=by decide +kernel
         rw [e0]
         omega
       · exact rR _ ys' H4 w1 _ (joined_name (by omega) (by omega) hz) hp4 hl4 (kp03.trans kp4)
     · rintro i acc σ H4 hi hDD ⟨zs,v,ys',rfl,hzl,hz,rfl,hp4,hl4,kp4⟩
       refine ⟨hi,?_⟩
       rintro x H' ⟨rfl,rfl⟩
       refine gName_yes ?_
       refine ⟨_,rfl,_,rfl,l,ys',26,rfl,hl4,hp4,by decide,by decide,fun d' ys3 H5 c0 c1 hp5 hl5 kp5=>?_⟩
       have hll : letters.length = 26:=by decide
       have hd' : d'.toNat < letters.length:=by omega
       have ed' : ((d'.toNat : Nat) : Int) = d':=by omega
       have hat' : atI abc.cps.toList ((d'.toNat : Nat) : Int) = some letters[d'.toNat]:=atI_nat (by rw [abc_cps]; exact List.getElem?_eq_getElem hd')
       rw [ed'] at hat'
       have hD5 : H5 D = some (.lst (zs.map V.str)):=kp5 D _ hDD (Ne.symm nD)
       refine ⟨abc,d',letters[d'.toNat],rfl,rfl,(by decide +kernel),hat',_,hD5,?_,lcW_next hi upd_same ⟨zs ++ [⟨#[letters[d'.toNat]]⟩],_,ys3,?_,?_,fun y hy=>?_,rfl,hp5,?_,?_⟩⟩
       · rw [List.length_map]
         exact small (by omega)
       · rw [List.map_append]
         rfl
       · rw [List.length_append,List.length_singleton,hzl]
       · rcases List.mem_append.mp hy with hy | hy
         · exact hz y hy
         · have : y = ⟨#[letters[d'.toNat]]⟩:=by simpa using hy
           exact ⟨_,List.getElem_mem hd',this⟩
       · rw [upd_ne nD]
         exact hl5
       · intro b o hb hbl
         have nb : b ≠ D:=fun z=>by rw [z,hD] at hb; cases hb
         rw [upd_ne nb]
         exact kp5 b o (kp4 b o hb hbl) hbl
   · exact rR _ ys2 H3 w1 _ hnw hp3 hl3 kp03
end
end Gen
namespace Gen
open PySem L2
def Lit (names : List Str) (z : Str) : Prop:=z = "0" ∨ z = "1" ∨ ∃ x ∈ names,z = x ∨ z = "~" ++ x
def spLiteral (K : PySem.W.Frag) : Sp:=fun vs H Q _=>∃ (l n : Addr) (xs : List V) (names : List Str),vs = [.ref l,.ref n] ∧ H l = some (.lst xs) ∧ pool xs ∧ n ≠ l ∧ SqL K H n (names.map V.str) ∧ names.length ≤ 200 ∧ (∀ z ∈ names,NameS z) ∧
 ∀ (z : Str) (ys : List V) (H' : Hp),Lit names z → pool ys → H' l = some (.lst ys) → Keep H H' l → Q (.str z) H'
theorem atI_strs {names : List Str} {i : Int} (h0 : 0 ≤ i) (h1 : i.toNat < names.length) : atI (names.map V.str) i = some (.str names[i.toNat]):=by
 have e : ((i.toNat : Nat) : Int) = i:=by omega
 have:=atI_nat (xs:=names.map V.str) (j:=i.toNat) (v:=.str names[i.toNat]) (by rw [List.getElem?_map,List.getElem?_eq_getElem h1]; rfl)
 rw [e] at this
 exact this
section
variable {P : Program} {w : World} {K : PySem.W.Frag} {mg : Str → Option Value} {base : Heap}
theorem scLiteral : FnScope ["_law_left", "_law_names", "_law_spot"] ["_law_left", "_law_names"] (defScope sLiteral):=⟨rfl,rfl,rfl,by decide +kernel,rfl,by decide +kernel,by decide +kernel⟩
theorem ok_literal {f fP : Addr} {fd fdP : FuncData} (F : Fun K "_law_literal" "_law_literal" sLiteral f fd) (T : Own mg) (FP : Fun K "_law_pick" "_law_pick" sPick fP fdP) (bP : Binds K fdP ["_law_left", "_law_many"] []) (mP : mg "_law_pick" = some (.ref fP)) :
 FnOk P w K mg base CX0 2 f fd ["_law_left", "_law_names"] (spLiteral K):=by
 have GP : FnOk P w K mg base CX0 1 fP fdP ["_law_left", "_law_many"] spPick:=ok_pick FP T
 refine F.ok scLiteral (fun vs H Q E h=>?_) (fun cdv A outer s H vs Q E hr h=>?_)
 · obtain ⟨l,n,xs,names,rfl,_⟩:=h
   rfl
 · obtain ⟨l,n,xs,names,rfl,hl,hp,hne,hS,hlt,hnm,kk⟩:=h
   refine ⟨_,pss_cons (ps_set (i:=2) scLiteral.nd rfl (Or.inl rfl) (pe_call GP hr rfl mP FP.kp bP .nil pass0 (pa_cons (pv 0) (pa_cons (pe_op op_add (pe_op op_mul pe_int (pe_callB call_len_seq (by rfl) T.len PySem.boot_len (pa_cons (pv 1) pa_nil))) pe_int) pa_nil))))
    (pss_cons (ps_if (pt_cmpR op_gt (pv 2) (pe_op op_sub (pe_op op_mul pe_int (pe_callB call_len_seq (by rfl) T.len PySem.boot_len (pa_cons (pv 1) pa_nil))) pe_int) (nomark _))
     (pss_one (ps_ret (pe_ix ix_str pe_str (pe_op op_mod (pv 2) pe_int) (fun _ _=>rfl)))) pss_nil)
    (pss_one (ps_ret (pe_op op_add_str (pe_ix ix_list (pe_lst (pa_cons pe_str (pa_cons pe_str pa_nil))) (pe_op op_mod (pv 2) pe_int) (fun _ _=>rfl)) (pe_ix ix_list (pv 1) (pe_op op_fdiv (pv 2) pe_int) (fun _ _=>rfl)))))),?_⟩
   have el : ((names.map V.str).length : Int) = (names.length : Int):=by rw [List.length_map]
   refine ⟨_,rfl,_,rfl,n,_,rfl,.inl hS,_,_,rfl,rfl,.inl ⟨by decide,by decide⟩,_,_,rfl,rfl,l,xs,_,rfl,hl,hp,(by rw [el]; omega),(by rw [el]; omega),fun d ys H2 d0 d1 hp2 hl2 kp2=>?_⟩
   rw [el] at d1
   have hS2 : SqL K H2 n (names.map V.str):=kp2.seq hl hS hne
   refine ⟨_,rfl,_,rfl,n,_,rfl,.inl hS2,_,_,rfl,rfl,.inl ⟨by decide,by decide⟩,_,_,rfl,rfl,_,_,rfl,rfl,_,rfl,?_⟩
   have m0 : 0 ≤ d % 2:=Int.emod_nonneg _ (by decide)
   have m2 : d % 2 < 2:=Int.emod_lt_of_pos _ (by decide)
   refine ite2 (fun hc=>?_) (fun hc=>?_)
   · have c2 : ("01" : Str).cps.toList = [48,49]:=by decide +kernel
     refine ⟨_,rfl,_,_,rfl,rfl,(by show (0 : Int) < 2; decide), "01",_,if d % 2 = 0 then 48 else 49,rfl,rfl,(by decide +kernel),?_,kk _ ys H2 ?_ hp2 hl2 kp2⟩
     · rw [c2]
       rcases (show d % 2 = 0 ∨ d % 2 = 1 by omega) with e | e
       · rw [e]; rfl
       · rw [e]; rfl
     · rcases (show d % 2 = 0 ∨ d % 2 = 1 by omega) with e | e
       · rw [e]; exact .inl (by decide +kernel)
       · rw [e]; exact .inr (.inl (by decide +kernel))
   · have hc' : ¬ (2 * ((names.map V.str).length : Int) - 1 < d):=fun h=>hc (decide_eq_true h)
     rw [el] at hc'
     refine ⟨(by show 2 ≤ sizeLine; decide),fun p hpn=>?_⟩
     have hd2 : (d / 2).toNat < names.length:=by omega
     have hS3 : SqL K (upd H2 p (.lst [.str "",.str "~"])) n (names.map V.str):=Same.seq (Same.upd_new hpn) hS2
     have nl : l ≠ p:=ne_of_none hl2 hpn
     refine ⟨_,rfl,_,_,rfl,rfl,(by show (0 : Int) < 2; decide),p,_,_,.str (if d % 2 = 0 then "" else "~"),rfl,rfl,SqL.of upd_same,?_,_,rfl,_,rfl,_,_,rfl,rfl,⟨by decide,by decide⟩,n,_,_,_,rfl,rfl,hS3,atI_strs (by omega) hd2,_,_,rfl,rfl,?_,?_⟩
     · rcases (show d % 2 = 0 ∨ d % 2 = 1 by omega) with e | e
       · rw [e]; rfl
       · rw [e]; rfl
     · have h8:=(hnm _ (List.getElem_mem hd2)).len
       have h1 : (if d % 2 = 0 then ("" : Str) else "~").length ≤ 1:=by
        split
        · decide +kernel
        · decide +kernel
       exact line8 (by omega)
     · refine kk _ ys _ ?_ hp2 (by rw [upd_ne nl]; exact hl2) (kp2.trans (Keep.upd_new hpn))
       refine .inr (.inr ⟨_,List.getElem_mem hd2,?_⟩)
       rcases (show d % 2 = 0 ∨ d % 2 = 1 by omega) with e | e
       · left
         rw [if_pos e]
         exact str_ext (by rw [app_cps,empty_cps,List.nil_append])
       · right
         rw [if_neg (by omega)]
end
def TupsAt (H : Hp) (p : Addr) (rs : List (List V)) : Prop:=∃ ts : List Addr,H p = some (.lst (ts.map V.ref)) ∧ Paired (fun t r=>H t = some (.tup r)) ts rs
def row2 (r : Str × Str) : List V:=[.str r.1,.str r.2]
structure Wishes (names told : List Str) (rows : List (Str × Str)) : Prop where
 nm : ∀ r ∈ rows,NameS r.1
 lit : ∀ r ∈ rows,Lit names r.2
 ut : ∀ r ∈ rows,r.1 ∉ told
 nd : (rows.map (·.1)).Nodup
theorem TupsAt.keep {H H' : Hp} {p l : Addr} {rs : List (List V)} {xs : List V} (h : TupsAt H p rs) (k : Keep H H' l) (hl : H l = some (.lst xs)) (hp : p ≠ l) : TupsAt H' p rs:=by
 obtain ⟨ts,h1,h2⟩:=h
 exact ⟨ts,k p _ h1 hp,Paired.mapP h2 fun t r e=>k t _ e (ne_of e hl (by intro z; cases z))⟩
theorem TupsAt.same {H H' : Hp} {p : Addr} {rs : List (List V)} (h : TupsAt H p rs) (k : Same H H') : TupsAt H' p rs:=by
 obtain ⟨ts,h1,h2⟩:=h
 exact ⟨ts,k p _ h1,Paired.mapP h2 fun t r e=>k t _ e⟩
theorem paired_at {α β : Type} {F : α → β → Prop} : ∀ {l₁ : List α} {l₂ : List β} {i : Nat} {b : β},Paired F l₁ l₂ → l₂[i]? = some b → ∃ a,l₁[i]? = some a ∧ F a b
 | _,_,i,b,.nil,h=>by simp at h
 | _,_,0,b,.cons h t,e=>⟨_,rfl,by simpa using (show _ = _ from Option.some.inj e) ▸ h⟩
 | _,_,i + 1,b,.cons h t,e=>let ⟨a,h1,h2⟩:=paired_at t (i:=i) (b:=b) (by simpa using e); ⟨a,by simpa using h1,h2⟩
theorem TupsAt.snoc {H : Hp} {p t : Addr} {rs : List (List V)} {r : List V} {ts : List Addr} (h2 : Paired (fun t r=>H t = some (.tup r)) ts rs) (ht : H t = some (.tup r)) (hp : ∀ a xs,H a = some (.tup xs) → a ≠ p) :
 TupsAt (upd H p (.lst (ts.map V.ref ++ [V.ref t]))) p (rs ++ [r]):=by
 refine ⟨ts ++ [t],?_,Paired.snoc (Paired.mapP h2 fun a b e=>?_) ?_⟩
 · rw [upd_same,List.map_append]
   rfl
 · rw [upd_ne (hp a b e)]
   exact e
 · rw [upd_ne (hp t r ht)]
   exact ht
def spWishes (K : PySem.W.Frag) : Sp:=fun vs H Q _=>∃ (l n t : Addr) (xs : List V) (names told : List Str) (m : Int),vs = [.ref l,.ref n,.ref t,.int m] ∧ H l = some (.lst xs) ∧ pool xs ∧ n ≠ l ∧ t ≠ l ∧ SqL K H n (names.map V.str) ∧ names.length ≤ 200 ∧ (∀ z ∈ names,NameS z) ∧
 H t = some (.lst (told.map V.str)) ∧ told.length ≤ 20 ∧ 0 ≤ m ∧ m ≤ 20 ∧
 ∀ (p : Addr) (rows : List (Str × Str)) (ys : List V) (H' : Hp),H p = none → Wishes names told rows → rows.length = m.toNat → TupsAt H' p (rows.map row2) → pool ys → H' l = some (.lst ys) → Keep H H' l → Q (.ref p) H'
section
variable {P : Program} {w : World} {K : PySem.W.Frag} {mg : Str → Option Value} {base : Heap}
abbrev nWishes : List Str:=["_law_left", "_law_names", "_law_told", "_law_many", "_law_found", "_law_k", "_law_wish"]
abbrev pWishes : List Str:=["_law_left", "_law_names", "_law_told", "_law_many"]
theorem scWishes : FnScope nWishes pWishes (defScope sWishes):=⟨rfl,rfl,rfl,by decide +kernel,rfl,by decide +kernel,by decide +kernel⟩
theorem ndO : (["_law_one"] : List Str).Nodup:=by decide +kernel
theorem lc_firsts {D p : Addr} {Q : Hp → Prop} {H1 : Hp} {rows : List (Str × Str)} {ts : List Addr} (hD : H1 D = none) (hp : H1 p = some (.lst (ts.map V.ref))) (h2 : Paired (fun t r=>H1 t = some (.tup r)) ts (rows.map row2)) (hlen : rows.length ≤ 100)
 (fin : Q (upd H1 D (.lst ((rows.map (·.1)).map V.str)))) :
 ∃ W : Nat → Nat → St → Hp → Prop,(∃ m,W 0 m [none] (upd H1 D (.lst []))) ∧ bLC D (gName 0) tYes (tOp (rIxT K) (tVar 0) (tC (.int 0))) (Itl K p) W Q:=by
 have np : p ≠ D:=ne_of_none hp hD
 have hp' : ∀ o,(upd H1 D o) p = some (.lst (ts.map V.ref)):=fun o=>by rw [upd_ne np]; exact hp
 have hl2:=h2.length
 rw [List.length_map] at hl2
 refine lc_by rows.length (fun i acc σ H=>acc = ((rows.take i).map (·.1)).map V.str ∧ (∃ v,σ = [v]) ∧ H = upd H1 D (.lst acc)) ⟨rfl,⟨none,rfl⟩,rfl⟩ upd_same ?_ ?_
 · rintro acc σ H _ ⟨rfl,_,rfl⟩
   refine ⟨⟨_,SqL.of (hp' _),by rw [List.length_map,hl2]; exact Nat.le_refl _⟩,?_⟩
   rw [List.take_length]
   exact fin
 · rintro i acc σ H hi hDD ⟨rfl,⟨v,rfl⟩,rfl⟩
   have hri : rows[i]? = some rows[i]:=List.getElem?_eq_getElem hi
   obtain ⟨t,ht,hT⟩:=paired_at h2 (i:=i) (b:=row2 rows[i]) (by rw [List.getElem?_map,hri]; rfl)
   have hx : (ts.map V.ref)[i]? = some (.ref t):=by rw [List.getElem?_map,ht]; rfl
   refine ⟨⟨_,_,SqL.of (hp' _),hx⟩,?_⟩
   rintro x H' ⟨rfl,hall⟩
   have ex:=hall _ (SqL.of (hp' _))
   rw [hx] at ex
   cases ex
   refine gName_yes ?_
   have nt : t ≠ D:=ne_of_none hT hD
   refine ⟨_,rfl,t,_,_,.str rows[i].1,rfl,rfl,SqT.of (by rw [upd_ne nt]; exact hT),rfl,_,upd_same,?_,lcW_next hi upd_same ⟨?_,⟨_,rfl⟩,by rw [upd_upd]⟩⟩
   · rw [List.length_map,List.length_map,List.length_take]
     exact small (by omega)
   · rw [take_next (·.1) hri,List.map_append]
     rfl
theorem ok_wishes {f fS fL fP : Addr} {fd fdS fdL fdP : FuncData} (F : Fun K "_law_wishes" "_law_wishes" sWishes f fd) (T : Own mg) (FP : Fun K "_law_pick" "_law_pick" sPick fP fdP) (bP : Binds K fdP ["_law_left", "_law_many"] []) (mP : mg "_law_pick" = some (.ref fP))
 (FS : Fun K "_law_spelt" "_law_spelt" sSpelt fS fdS) (bS : Binds K fdS ["_law_left", "_law_told"] []) (mS : mg "_law_spelt" = some (.ref fS)) (FL : Fun K "_law_literal" "_law_literal" sLiteral fL fdL) (bL : Binds K fdL ["_law_left", "_law_names"] []) (mL : mg "_law_literal" = some (.ref fL)) :
 FnOk P w K mg base CX0 3 f fd pWishes (spWishes K):=by
 have GS : FnOk P w K mg base CX0 2 fS fdS ["_law_left", "_law_told"] (spSpelt K):=ok_spelt FS T FP bP mP
 have GL : FnOk P w K mg base CX0 2 fL fdL ["_law_left", "_law_names"] (spLiteral K):=ok_literal FL T FP bP mP
 refine F.ok scWishes (fun vs H Q E h=>?_) (fun cdv A outer s H vs Q E hr h=>?_)
 · obtain ⟨l,n,t,xs,names,told,m,rfl,_⟩:=h
   rfl
 · obtain ⟨l,n,t,xs,names,told,m,rfl,hl,hp,hnl,htl,hS,hnn,hnm,hT,htn,m0,m1,kk⟩:=h
   refine ⟨_,pss_cons (ps_set (i:=4) scWishes.nd rfl (Or.inl rfl) (pe_lst pa_nil))
    (pss_cons (ps_for PassesOwn.never rfl (pi_range1 rfl T.range (pa_cons (pv 3) pa_nil)) (pg_name (i:=5) scWishes.nd rfl (Or.inl rfl))
     (pss_cons (ps_set (i:=6) scWishes.nd rfl (Or.inl rfl) (pe_call GS hr rfl mS FS.kp bS .nil pass0 (pa_cons (pv 0) (pa_cons (pe_op op_cat (pv 2)
      (pe_lc (N:=["_law_one"]) (js:=[none]) (by kernel_rfl) rfl (pi_list (pv 4)) (fun _ _ _ _ _ _=>pg_name (i:=0) ndO rfl (Or.inl rfl) (.inr rfl)) (fun _ _ _ _ _ _=>pifs_nil)
       (fun _ _ _ _ _ _=>pe_ix (r:=rIxT K) ix_tup (pv 0) pe_int (fun _ _=>rfl)))) pa_nil))))
     (pss_one (ps_expr (pe_bm PySem.F.plainAttrs_list PySem.F.slot_list_append PySem.F.type_list_append mt_append (pv 4) (pa_cons (pe_tup (pa_cons (pv 6) (pa_cons (pe_call GL hr rfl mL FL.kp bL .nil pass0 (pa_cons (pv 0) (pa_cons (pv 1) pa_nil))) pa_nil))) pa_nil))))))
    (pss_one (ps_ret (pv 4)))),?_⟩
   refine ⟨(by show 0 ≤ sizeLine; decide),fun p hpn=>?_⟩
   have nlp : l ≠ p:=ne_of_none hl hpn
   refine ⟨_,rfl,_,rfl,by omega,by omega,for_range (n:=m.toNat) (fun i σ H2=>∃ (rows : List (Str × Str)) (v5 v6 : Option V) (ys : List V),σ = [some (.ref l),some (.ref n),some (.ref t),some (.int m),some (.ref p),v5,v6] ∧ rows.length = i ∧ Wishes names told rows ∧
    TupsAt H2 p (rows.map row2) ∧ pool ys ∧ H2 l = some (.lst ys) ∧ Keep H H2 l) ?_ ?_ ?_⟩
   · exact ⟨[],none,none,xs,rfl,rfl,⟨(fun _ h=>nomatch h),(fun _ h=>nomatch h),(fun _ h=>nomatch h),List.nodup_nil⟩,⟨[],upd_same,.nil⟩,hp,(by rw [upd_ne nlp]; exact hl),Keep.upd_new hpn⟩
   · rintro i σ H2 hi ⟨rows,v5,v6,ys,rfl,hrl,hw,⟨ts,hp2,hts⟩,hpool,hl2,kp2⟩
     have hT2 : H2 t = some (.lst (told.map V.str)):=kp2 t _ hT htl
     have hS2 : SqL K H2 n (names.map V.str):=kp2.seq hl hS hnl
     have htl2:=hts.length
     rw [List.length_map] at htl2
     refine ⟨_,rfl,_,rfl,_,rfl,p,rfl,⟨_,SqL.of hp2⟩,fun D hD=>lc_firsts hD hp2 hts (by omega) ?_⟩
     have nTD : t ≠ D:=ne_of_none hT2 hD
     have nLD : l ≠ D:=ne_of_none hl2 hD
     refine ⟨t,D,_,_,rfl,rfl,(by rw [upd_ne nTD]; exact hT2),upd_same,?_,fun q hq=>?_⟩
     · rw [List.length_map,List.length_map,List.length_map]
       exact small' (by omega)
     have nLq : l ≠ q:=ne_of_none (by rw [upd_ne nLD]; exact hl2) hq
     have sm3 : ∀ o3 o4,(upd H2 D o3) q = none → Same H2 (upd (upd H2 D o3) q o4):=fun o3 o4 hz=>(Same.upd_new hD).trans (Same.upd_new hz)
     have s23:=sm3 _ (.lst (told.map V.str ++ (rows.map (·.1)).map V.str)) hq
     generalize hG : upd _ q (HO.lst (told.map V.str ++ (rows.map (·.1)).map V.str)) = H3 at *
     have hq3 : H3 q = some (.lst ((told ++ rows.map (·.1)).map V.str)):=by rw [← hG,upd_same,List.map_append]
     have hl3 : H3 l = some (.lst ys):=s23 l _ hl2
     refine ⟨l,q,ys,told ++ rows.map (·.1),rfl,hl3,hpool,Ne.symm nLq,SqL.of hq3,(by rw [List.length_append,List.length_map]; omega),fun z ys2 H4 hz hzt hp4 hl4 kp4=>?_⟩
     have kp24 : Keep H2 H4 l:=(Same.keep s23 l).trans kp4
     have hp4' : H4 p = some (.lst (ts.map V.ref)):=kp24 p _ hp2 (Ne.symm nlp)
     have hS4 : SqL K H4 n (names.map V.str):=kp24.seq hl2 hS2 hnl
     refine ⟨_,rfl,.inl ⟨rfl,_,SqL.of hp4'⟩,_,rfl,_,rfl,_,rfl,l,n,ys2,names,rfl,hl4,hp4,hnl,hS4,hnn,hnm,fun z2 ys3 H5 hlit hp5 hl5 kp5=>?_⟩
     refine ⟨(by show 2 ≤ sizeLine; decide),fun Tp hTp=>?_⟩
     have kp25 : Keep H2 H5 l:=kp24.trans kp5
     have hp5' : H5 p = some (.lst (ts.map V.ref)):=kp25 p _ hp2 (Ne.symm nlp)
     have npT : p ≠ Tp:=ne_of_none hp5' hTp
     have nlT : l ≠ Tp:=ne_of_none hl5 hTp
     refine ⟨p,_,_,rfl,rfl,(by rw [upd_ne npT]; exact hp5'),(by rw [List.length_map]; exact small (by omega)),?_⟩
     have hw' : Wishes names told (rows ++ [(z,z2)]):=by
      have hzt' : z ∉ told ∧ z ∉ rows.map (·.1):=by
       constructor
       · exact fun h=>hzt (List.mem_append_left _ h)
       · exact fun h=>hzt (List.mem_append_right _ h)
      refine ⟨fun r hr=>?_,fun r hr=>?_,fun r hr=>?_,?_⟩
      · rcases List.mem_append.mp hr with hr | hr
        · exact hw.nm r hr
        · rw [List.mem_singleton.mp hr]; exact hz
      · rcases List.mem_append.mp hr with hr | hr
        · exact hw.lit r hr
        · rw [List.mem_singleton.mp hr]; exact hlit
      · rcases List.mem_append.mp hr with hr | hr
        · exact hw.ut r hr
        · rw [List.mem_singleton.mp hr]; exact hzt'.1
      · rw [List.map_append,List.nodup_append]
        refine ⟨hw.nd,by simp,fun a ha b hb e=>?_⟩
        have : b = z:=by simpa using hb
        rw [this] at e
        exact hzt'.2 (e ▸ ha)
     refine ⟨rows ++ [(z,z2)],_,_,ys3,rfl,(by rw [List.length_append,List.length_singleton,hrl]),hw',?_,hp5,(by rw [upd_ne nlp,upd_ne nlT]; exact hl5),fun b o hb hbl=>?_⟩
     · rw [List.map_append]
       refine TupsAt.snoc (Paired.mapP hts fun a r e=>?_) upd_same fun a xs' e z'=>?_
       · have ea:=kp25 a _ e (ne_of e hl2 (by intro z; cases z))
         rw [upd_ne (ne_of_none ea hTp)]
         exact ea
       · rw [z',upd_ne npT,hp5'] at e
         cases e
     · have e5:=kp25 b o (kp2 b o hb hbl) hbl
       rw [upd_ne (ne_of_none hb hpn),upd_ne (ne_of_none e5 hTp)]
       exact e5
   · rintro σ H2 ⟨rows,v5,v6,ys,rfl,hrl,hw,htp,hpool,hl2,kp2⟩
     exact ⟨_,rfl,kk p rows ys H2 hpn hw hrl htp hpool hl2 kp2⟩
end
end Gen
namespace Gen
open PySem L2
structure Mach where
 switches : List Str
 keepers : List (Str × V)
 gates : List (Str × Str × Str)
 nexts : List (Str × Str)
 nevers : List (Str × Str)
 somes : List (Str × Str)
def rowK (r : Str × V) : List V:=[.str r.1,r.2]
def rowG (r : Str × Str × Str) : List V:=[.str r.1,.str r.2.1,.str r.2.2]
def machKvs (a1 a2 a3 a4 a5 a6 : Addr) : List (Key × V) :=
 [(.inr "switches",.ref a1),(.inr "keepers",.ref a2),(.inr "gates",.ref a3),(.inr "nexts",.ref a4),(.inr "nevers",.ref a5),(.inr "somes",.ref a6)]
structure MachAt (H : Hp) (m : Addr) (M : Mach) (a1 a2 a3 a4 a5 a6 : Addr) : Prop where
 top : H m = some (.dK (machKvs a1 a2 a3 a4 a5 a6))
 sw : H a1 = some (.lst (M.switches.map V.str))
 kp : TupsAt H a2 (M.keepers.map rowK)
 gt : TupsAt H a3 (M.gates.map rowG)
 nx : TupsAt H a4 (M.nexts.map row2)
 nv : TupsAt H a5 (M.nevers.map row2)
 sm : TupsAt H a6 (M.somes.map row2)
 df : a5 ≠ a1 ∧ a5 ≠ a2 ∧ a5 ≠ a3 ∧ a5 ≠ a4 ∧ a5 ≠ a6
structure MachOk (M : Mach) (names : List Str) : Prop where
 all : names = M.switches ++ M.keepers.map (·.1) ++ M.gates.map (·.1)
 nm : ∀ z ∈ names,NameS z
 nd : names.Nodup
 first : ∀ r ∈ M.keepers,r.2 = .int 0 ∨ r.2 = .int 1 ∨ r.2 = .non
 nxk : ∀ r ∈ M.nexts,r.1 ∈ M.keepers.map (·.1)
 nxl : ∀ r ∈ M.nexts,Lit names r.2
 nxd : (M.nexts.map (·.1)).Nodup
 nvw : Wishes names [] M.nevers
 smw : Wishes names (M.nevers.map (·.1)) M.somes
 gl : ∀ (i : Nat) (r : Str × Str × Str),M.gates[i]? = some r → Lit (M.switches ++ M.keepers.map (·.1) ++ (M.gates.take i).map (·.1)) r.2.1 ∧ Lit (M.switches ++ M.keepers.map (·.1) ++ (M.gates.take i).map (·.1)) r.2.2
def SzAt (K : PySem.W.Frag) (H : Hp) (z : Addr) (s0 s1 s2 s3 : Int) : Prop:=(SqL K H z [.int s0,.int s1,.int s2,.int s3] ∨ SqT K H z [.int s0,.int s1,.int s2,.int s3]) ∧ (0 ≤ s0 ∧ s0 ≤ 12) ∧ (0 ≤ s1 ∧ s1 ≤ 16) ∧ (0 ≤ s2 ∧ s2 ≤ 60) ∧ 1 ≤ s3 ∧ s3 ≤ 8
theorem Same.seqT {K : PySem.W.Frag} {H H' : Hp} {a : Addr} {xs : List V} (e : Same H H') (h : SqT K H a xs) : SqT K H' a xs:=by
 rcases h with (h | ⟨o,h⟩) | h
 · exact .inl (.inl (e a _ h))
 · exact .inl (.inr ⟨o,e a _ h⟩)
 · exact .inr h
theorem SzAt.same {K : PySem.W.Frag} {H H' : Hp} {z : Addr} {s0 s1 s2 s3 : Int} (h : SzAt K H z s0 s1 s2 s3) (k : Same H H') : SzAt K H' z s0 s1 s2 s3:=⟨h.1.imp (Same.seq k) (Same.seqT k),h.2⟩
theorem SzAt.ix {K : PySem.W.Frag} {H : Hp} {z : Addr} {s0 s1 s2 s3 : Int} (h : SzAt K H z s0 s1 s2 s3) {i : Int} {v : V} {Q : VK} (hi : atI [V.int s0,.int s1,.int s2,.int s3] i = some v) (q : Q v H) : rIx K (.ref z) (.int i) H Q:=by
 rcases h.1 with h | h
 · exact .inl ⟨z,_,i,v,rfl,rfl,h,hi,q⟩
 · exact .inr (.inl ⟨z,_,i,v,rfl,rfl,h,hi,q⟩)
abbrev nDig : List Str:=["_law_cells", "_law_sizes", "_law_k", "_law_a", "_law_b", "_law_c", "_law_names", "_law_switches", "_law_keepers", "_law_gates", "_law_name", "_law_nexts", "_law_keeper", "_law_first", "_law_nevers", "_law_somes", "_law_made"]
abbrev pDig : List Str:=["_law_cells", "_law_sizes"]
theorem scDig : FnScope nDig pDig (defScope sDigits):=⟨rfl,rfl,rfl,by decide +kernel,rfl,by decide +kernel,by decide +kernel⟩
abbrev cxDig (P : Program) (w : World) (K : PySem.W.Frag) (mg : Str → Option Value) (base : Heap) (f : Addr) (cdv : Value) (A : Around) (outer : List Env) (s : Shared) (H : Hp) (E : XK) : Cx :=
 (cxOf CX0 P w K mg base nDig "_law_machine_digits" (defScope sDigits) f cdv A outer s H E).nox
section
variable {P : Program} {w : World} {K : PySem.W.Frag} {mg : Str → Option Value} {base : Heap}
structure Defs (P : Program) (w : World) (K : PySem.W.Frag) (mg : Str → Option Value) (base : Heap) (fP fS fL fW fR : Addr) (dP dS dL dW dR : FuncData) : Prop where
 T : Own mg
 gP : FnOk P w K mg base CX0 1 fP dP ["_law_left", "_law_many"] spPick
 mP : mg "_law_pick" = some (.ref fP)
 kP : PySem.W.keepIn K (.ref fP) = true
 bP : Binds K dP ["_law_left", "_law_many"] []
 gS : FnOk P w K mg base CX0 2 fS dS ["_law_left", "_law_told"] (spSpelt K)
 mS : mg "_law_spelt" = some (.ref fS)
 kS : PySem.W.keepIn K (.ref fS) = true
 bS : Binds K dS ["_law_left", "_law_told"] []
 gL : FnOk P w K mg base CX0 2 fL dL ["_law_left", "_law_names"] (spLiteral K)
 mL : mg "_law_literal" = some (.ref fL)
 kL : PySem.W.keepIn K (.ref fL) = true
 bL : Binds K dL ["_law_left", "_law_names"] []
 gW : FnOk P w K mg base CX0 3 fW dW pWishes (spWishes K)
 mW : mg "_law_wishes" = some (.ref fW)
 kW : PySem.W.keepIn K (.ref fW) = true
 bW : Binds K dW pWishes []
 gR : FnOk P w K mg base CX0 2 fR dR ["_law_cell_here", "_law_k"] spRich
 mR : mg "_law_rich" = some (.ref fR)
 kR : PySem.W.keepIn K (.ref fR) = true
 bR : Binds K dR ["_law_cell_here", "_law_k"] []
variable {fP fS fL fW fR : Addr} {dP dS dL dW dR : FuncData}
structure AtD (K : PySem.W.Frag) (H : Hp) (z c n a1 a2 a3 a4 : Addr) (s0 s1 s2 s3 : Int) (names sw : List Str) (kp : List (Str × V)) (gt : List (Str × Str × Str)) (nx : List (Str × Str)) : Prop where
 pc : ∃ xs,H c = some (.lst xs) ∧ pool xs
 hz : SzAt K H z s0 s1 s2 s3
 zc : z ≠ c
 hn : H n = some (.lst (names.map V.str))
 nc : n ≠ c
 nl : names.length ≤ 100
 nm : ∀ x ∈ names,NameS x
 h1 : H a1 = some (.lst (sw.map V.str))
 c1 : a1 ≠ c
 h2 : TupsAt H a2 (kp.map rowK)
 c2 : a2 ≠ c
 h3 : TupsAt H a3 (gt.map rowG)
 c3 : a3 ≠ c
 h4 : TupsAt H a4 (nx.map row2)
 c4 : a4 ≠ c
theorem Keep.seqT {H H' : Hp} {a l : Addr} {xs n : List V} (e : Keep H H' l) (hl : H l = some (.lst n)) (h : SqT K H a xs) (hne : a ≠ l) : SqT K H' a xs:=by
 rcases h with (h | ⟨o,h⟩) | h
 · exact .inl (.inl (e a _ h hne))
 · exact .inl (.inr ⟨o,e a _ h hne⟩)
 · exact .inr h
theorem AtD.keep {H H' : Hp} {z c n a1 a2 a3 a4 : Addr} {s0 s1 s2 s3 : Int} {names sw : List Str} {kp : List (Str × V)} {gt : List (Str × Str × Str)} {nx : List (Str × Str)} {ys : List V} (h : AtD K H z c n a1 a2 a3 a4 s0 s1 s2 s3 names sw kp gt nx) (k : Keep H H' c) (hy : H' c = some (.lst ys)) (hp : pool ys) :
 AtD K H' z c n a1 a2 a3 a4 s0 s1 s2 s3 names sw kp gt nx:=by
 obtain ⟨xs,hc,_⟩:=h.pc
 exact ⟨⟨ys,hy,hp⟩,⟨h.hz.1.imp (fun q=>k.seq hc q h.zc) (fun q=>Keep.seqT k hc q h.zc),h.hz.2⟩,h.zc,k n _ h.hn h.nc,h.nc,h.nl,h.nm,k a1 _ h.h1 h.c1,h.c1,h.h2.keep k hc h.c2,h.c2,h.h3.keep k hc h.c3,h.c3,h.h4.keep k hc h.c4,h.c4⟩
theorem AtD.same {H H' : Hp} {z c n a1 a2 a3 a4 : Addr} {s0 s1 s2 s3 : Int} {names sw : List Str} {kp : List (Str × V)} {gt : List (Str × Str × Str)} {nx : List (Str × Str)} (h : AtD K H z c n a1 a2 a3 a4 s0 s1 s2 s3 names sw kp gt nx) (k : Same H H') :
 AtD K H' z c n a1 a2 a3 a4 s0 s1 s2 s3 names sw kp gt nx:=by
 obtain ⟨xs,hc,hp⟩:=h.pc
 exact ⟨⟨xs,k c _ hc,hp⟩,h.hz.same k,h.zc,k n _ h.hn,h.nc,h.nl,h.nm,k a1 _ h.h1,h.c1,h.h2.same k,h.c2,h.h3.same k,h.c3,h.h4.same k,h.c4⟩
theorem dig_D (G : Defs P w K mg base fP fS fL fW fR dP dS dL dW dR) {f : Addr} {cdv : Value} {A : Around} {outer : List Env} {s : Shared} {H : Hp} {E : XK} {Q : VK} (hr : Room 3 (A.deeper (PyProof.Rows.envOfC "_law_machine_digits" (defScope sDigits) s.heap.objs.size f cdv))) :
 ∃ tR : TS,PSs (cxDig P w K mg base f cdv A outer s H E) (List.drop 10 (defBody sDigits)) tR ∧ ∀ (σ : St) (H1 : Hp) (v0 v2 v3 v4 v10 v12 v13 : Option V) (z c n a1 a2 a3 a4 : Addr) (s0 s1 s2 s3 : Int) (names sw : List Str) (kp : List (Str × V)) (gt : List (Str × Str × Str)) (nx : List (Str × Str)),
  σ = [v0,some (.ref z),v2,v3,v4,some (.ref c),some (.ref n),some (.ref a1),some (.ref a2),some (.ref a3),v10,some (.ref a4),v12,v13,none,none,none] →
  AtD K H1 z c n a1 a2 a3 a4 s0 s1 s2 s3 names sw kp gt nx →
  (∀ (m : Addr) (nv sm : List (Str × Str)) (a5 a6 : Addr) (H' : Hp),Wishes names [] nv → Wishes names (nv.map (·.1)) sm → 1 ≤ nv.length → (nv.length : Int) ≤ s3 → (sm.length : Int) ≤ s3 → MachAt H' m ⟨sw,kp,gt,nx,nv,sm⟩ a1 a2 a3 a4 a5 a6 → Keep H1 H' c → Q (.ref m) H') →
  tR { nx:=fun _ H'=>Q .non H',rt:=Q } σ H1:=by
 have hr1 : Room 1 _:=hr.mono (by decide)
 have hu:=hu_of hr
 refine ⟨_,pss_cons (ps_set (i:=14) scDig.nd rfl (Or.inl rfl) (pe_call G.gW hr rfl G.mW G.kW G.bW .nil pass0 (pa_cons (pv 5) (pa_cons (pv 6) (pa_cons (pe_lst pa_nil) (pa_cons (pe_op op_add pe_int (pe_call G.gP hr1 rfl G.mP G.kP G.bP .nil pass0 (pa_cons (pv 5) (pa_cons (pe_ix ix_seq (pv 1) pe_int (fun _ _=>rfl)) pa_nil)))) pa_nil))))))
  (pss_cons (ps_set (i:=15) scDig.nd rfl (Or.inl rfl) (pe_call G.gW hr rfl G.mW G.kW G.bW .nil pass0 (pa_cons (pv 5) (pa_cons (pv 6) (pa_cons
   (pe_lc (N:=["_law_one"]) (js:=[none]) (by kernel_rfl) rfl (pi_list (pv 14)) (fun _ _ _ _ _ _=>pg_name (i:=0) ndO rfl (Or.inl rfl) (.inr rfl)) (fun _ _ _ _ _ _=>pifs_nil) (fun _ _ _ _ _ _=>pe_ix (r:=rIxT K) ix_tup (pv 0) pe_int (fun _ _=>rfl)))
   (pa_cons (pe_call G.gP hr1 rfl G.mP G.kP G.bP .nil pass0 (pa_cons (pv 5) (pa_cons (pe_op op_add (pe_ix ix_seq (pv 1) pe_int (fun _ _=>rfl)) pe_int) pa_nil))) pa_nil))))))
  (pss_cons (ps_set (i:=16) scDig.nd rfl (Or.inl rfl) (pe_disp (pps_cons pe_str (pv 7) (pps_cons pe_str (pv 8) (pps_cons pe_str (pv 9) (pps_cons pe_str (pv 11) pps_nil)))) rfl rfl (by simp) (by decide)))
  (pss_cons (ps_dput hu (pv 16) pe_str (pv 14) rfl)
  (pss_cons (ps_dput hu (pv 16) pe_str (pv 15) rfl)
  (pss_one (ps_ret (pv 16))))))),?_⟩
 rintro σ H1 v0 v2 v3 v4 v10 v12 v13 z c n a1 a2 a3 a4 s0 s1 s2 s3 names sw kp gt nx rfl hA kk
 obtain ⟨xs,hc,hp⟩:=hA.pc
 obtain ⟨_,_,_,_,z1,z2⟩:=hA.hz
 have hnl:=hA.nl
 refine ⟨_,rfl,_,rfl,(by show 0 ≤ sizeLine; decide),fun t0 ht0=>?_⟩
 have A1:=hA.same (Same.upd_new (o:=.lst []) ht0)
 have nct : c ≠ t0:=ne_of_none hc ht0
 have hc1 : (upd H1 t0 (.lst [])) c = some (.lst xs):=by rw [upd_ne nct]; exact hc
 refine ⟨_,rfl,_,rfl,A1.hz.ix (i:=3) (v:=.int s3) rfl ?_⟩
 refine ⟨c,xs,s3,rfl,hc1,hp,by omega,by omega,fun d ys H2 d0 d1 hp2 hl2 kp2=>⟨_,_,rfl,rfl,?_⟩⟩
 have A2:=A1.keep kp2 hl2 hp2
 have ht02 : H2 t0 = some (.lst (([] : List Str).map V.str)):=kp2 t0 _ upd_same (Ne.symm nct)
 refine ⟨c,n,t0,ys,names,[],1 + d,rfl,hl2,hp2,A2.nc,Ne.symm nct,SqL.of A2.hn,by omega,A2.nm,ht02,by decide,by omega,by omega,fun a5 nv ys2 H3 ha5 hw5 hlen5 ht5 hp3 hl3 kp3=>?_⟩
 have A3:=A2.keep kp3 hl3 hp3
 have nc5 : a5 ≠ c:=Ne.symm (ne_of_none hl2 ha5)
 obtain ⟨ts,h5,hts⟩:=id ht5
 refine ⟨_,rfl,_,rfl,_,rfl,a5,rfl,⟨_,SqL.of h5⟩,fun D hD=>lc_firsts hD h5 hts (by omega) ?_⟩
 have s34 : Same H3 (upd H3 D (.lst ((nv.map (·.1)).map V.str))):=Same.upd_new hD
 have A4:=A3.same s34
 have ncD : c ≠ D:=ne_of_none hl3 hD
 have hc4 : (upd H3 D (.lst ((nv.map (·.1)).map V.str))) c = some (.lst ys2):=by rw [upd_ne ncD]; exact hl3
 refine ⟨_,rfl,_,rfl,A4.hz.ix (i:=3) (v:=.int s3) rfl ⟨_,_,rfl,rfl,c,ys2,_,rfl,hc4,hp3,by omega,by omega,fun d' ys3 H5 e0 e1 hp5 hl5 kp5=>?_⟩⟩
 have A5:=A4.keep kp5 hl5 hp5
 have hD5 : H5 D = some (.lst ((nv.map (·.1)).map V.str)):=kp5 D _ upd_same (Ne.symm ncD)
 refine ⟨c,n,D,ys3,names,nv.map (·.1),d',rfl,hl5,hp5,A5.nc,Ne.symm ncD,SqL.of A5.hn,by omega,A5.nm,hD5,(by rw [List.length_map]; omega),by omega,by omega,fun a6 sm ys4 H6 ha6 hw6 hlen6 ht6 hp6 hl6 kp6=>?_⟩
 have A6:=A5.keep kp6 hl6 hp6
 have T5 : TupsAt H6 a5 (nv.map row2):=((ht5.same s34).keep kp5 hc4 nc5).keep kp6 hl5 nc5
 have nc6 : a6 ≠ c:=Ne.symm (ne_of_none hl5 ha6)
 intro m hm
 refine ⟨_,rfl,_,rfl,_,rfl,_,rfl,upd_same,[(.inr "switches",.ref a1),(.inr "keepers",.ref a2),(.inr "gates",.ref a3),(.inr "nexts",.ref a4)],rfl,(by show 4 ≤ 15; decide),?_⟩
 rw [upd_upd]
 have em : mergeK [] [((.inr "switches" : Key),V.ref a1),(.inr "keepers",.ref a2),(.inr "gates",.ref a3),(.inr "nexts",.ref a4)] = [((.inr "switches" : Key),V.ref a1),(.inr "keepers",.ref a2),(.inr "gates",.ref a3),(.inr "nexts",.ref a4)]:=by rfl
 rw [em]
 refine ⟨_,rfl,_,rfl,m,_,rfl,DPut.k (k:=.inr "nevers") upd_same (by show 4 < sizeLine; decide),?_⟩
 rw [upd_upd]
 have en : putK [((.inr "switches" : Key),V.ref a1),(.inr "keepers",.ref a2),(.inr "gates",.ref a3),(.inr "nexts",.ref a4)] (.inr "nevers") (.ref a5) = [((.inr "switches" : Key),V.ref a1),(.inr "keepers",.ref a2),(.inr "gates",.ref a3),(.inr "nexts",.ref a4),(.inr "nevers",.ref a5)]:=by rfl
 rw [en]
 refine ⟨_,rfl,_,rfl,m,_,rfl,DPut.k (k:=.inr "somes") upd_same (by show 5 < sizeLine; decide),?_⟩
 rw [upd_upd]
 have es : putK [((.inr "switches" : Key),V.ref a1),(.inr "keepers",.ref a2),(.inr "gates",.ref a3),(.inr "nexts",.ref a4),(.inr "nevers",.ref a5)] (.inr "somes") (.ref a6) = machKvs a1 a2 a3 a4 a5 a6:=by rfl
 rw [es]
 have ofT : ∀ {p : Addr} {rs : List (List V)},TupsAt H2 p rs → a5 ≠ p:=fun ⟨_,h,_⟩=>Ne.symm (ne_of_none h ha5)
 have df5 : a5 ≠ a1 ∧ a5 ≠ a2 ∧ a5 ≠ a3 ∧ a5 ≠ a4 ∧ a5 ≠ a6:=⟨Ne.symm (ne_of_none A2.h1 ha5),ofT A2.h2,ofT A2.h3,ofT A2.h4,let ⟨_,h,_⟩:=(ht5.same s34).keep kp5 hc4 nc5; ne_of_none h ha6⟩
 have s67 : Same H6 (upd H6 m (.dK (machKvs a1 a2 a3 a4 a5 a6))):=Same.upd_new hm
 have A7:=A6.same s67
 refine ⟨_,rfl,kk m nv sm a5 a6 _ hw5 hw6 (by omega) (by omega) (by omega) ⟨upd_same,A7.h1,A7.h2,A7.h3,A7.h4,T5.same s67,ht6.same s67,df5⟩ ?_⟩
 exact (((((Keep.upd_new ht0).trans kp2).trans kp3).trans (Same.keep s34 c)).trans (kp5.trans kp6)).trans (Same.keep s67 c)
end
end Gen
namespace Gen
open PySem L2
theorem paired_take {α β : Type} {F : α → β → Prop} : ∀ {l₁ : List α} {l₂ : List β} (k : Nat),Paired F l₁ l₂ → Paired F (l₁.take k) (l₂.take k)
 | _,_,k,.nil=>by simp only [List.take_nil]; exact .nil
 | _,_,0,.cons _ _=>.nil
 | _,_,k + 1,.cons h t=>.cons h (paired_take k t)
theorem paired_drop {α β : Type} {F : α → β → Prop} : ∀ {l₁ : List α} {l₂ : List β} (k : Nat),Paired F l₁ l₂ → Paired F (l₁.drop k) (l₂.drop k)
 | _,_,k,.nil=>by simp only [List.drop_nil]; exact .nil
 | _,_,0,.cons h t=>.cons h t
 | _,_,k + 1,.cons h t=>paired_drop k t
theorem paired_append {α β : Type} {F : α → β → Prop} : ∀ {l₁ m₁ : List α} {l₂ m₂ : List β},Paired F l₁ l₂ → Paired F m₁ m₂ → Paired F (l₁ ++ m₁) (l₂ ++ m₂)
 | _,_,_,_,.nil,h=>h
 | _,_,_,_,.cons a t,h=>.cons a (paired_append t h)
section
variable {P : Program} {w : World} {K : PySem.W.Frag} {mg : Str → Option Value} {base : Heap} {fP fS fL fW fR : Addr} {dP dS dL dW dR : FuncData}
structure AtC (K : PySem.W.Frag) (H : Hp) (z c n a1 a2 a3 : Addr) (s0 s1 s2 s3 : Int) (names sw : List Str) (kp : List (Str × V)) (gt : List (Str × Str × Str)) : Prop where
 pc : ∃ xs,H c = some (.lst xs) ∧ pool xs
 hz : SzAt K H z s0 s1 s2 s3
 zc : z ≠ c
 hn : H n = some (.lst (names.map V.str))
 nc : n ≠ c
 nl : names.length ≤ 100
 nm : ∀ x ∈ names,NameS x
 h1 : H a1 = some (.lst (sw.map V.str))
 c1 : a1 ≠ c
 h2 : TupsAt H a2 (kp.map rowK)
 c2 : a2 ≠ c
 h3 : TupsAt H a3 (gt.map rowG)
 c3 : a3 ≠ c
 kd : (kp.map (·.1)).Nodup
 kl : kp.length ≤ 16
theorem AtC.keep {H H' : Hp} {z c n a1 a2 a3 : Addr} {s0 s1 s2 s3 : Int} {names sw : List Str} {kp : List (Str × V)} {gt : List (Str × Str × Str)} {ys : List V} (h : AtC K H z c n a1 a2 a3 s0 s1 s2 s3 names sw kp gt) (k : Keep H H' c) (hy : H' c = some (.lst ys)) (hp : pool ys) :
 AtC K H' z c n a1 a2 a3 s0 s1 s2 s3 names sw kp gt:=by
 obtain ⟨xs,hc,_⟩:=h.pc
 exact ⟨⟨ys,hy,hp⟩,⟨h.hz.1.imp (fun q=>k.seq hc q h.zc) (fun q=>Keep.seqT k hc q h.zc),h.hz.2⟩,h.zc,k n _ h.hn h.nc,h.nc,h.nl,h.nm,k a1 _ h.h1 h.c1,h.c1,h.h2.keep k hc h.c2,h.c2,h.h3.keep k hc h.c3,h.c3,h.kd,h.kl⟩
def Nexts (names : List Str) (kp : List (Str × V)) (nx : List (Str × Str)) : Prop:=(∀ r ∈ nx,r.1 ∈ kp.map (·.1) ∧ Lit names r.2) ∧ (nx.map (·.1)).Nodup
theorem nodup_ins {α : Type} {l : List α} {a : α} (h : l.Nodup) (ha : a ∉ l) (d : Nat) : (l.take d ++ [a] ++ l.drop d).Nodup:=by
 have p : (l.take d ++ [a] ++ l.drop d).Perm (a :: l):=by
  rw [List.append_assoc]
  have:=List.perm_middle (a:=a) (l₁:=l.take d) (l₂:=l.drop d)
  rw [List.take_append_drop] at this
  exact this
 exact p.nodup_iff.mpr (List.nodup_cons.mpr ⟨ha,h⟩)
theorem key_new {β : Type} : ∀ {kp : List (Str × β)} {i : Nat} (hi : i < kp.length),(kp.map (·.1)).Nodup → kp[i].1 ∉ (kp.take i).map (·.1)
 | x :: r,0,_,_=>by simp
 | x :: r,i + 1,hi,h=>by
  rw [List.map_cons,List.nodup_cons] at h
  have ih:=key_new (kp:=r) (i:=i) (by simpa using hi) h.2
  simp only [List.getElem_cons_succ,List.take_succ_cons,List.map_cons,List.mem_cons,not_or]
  refine ⟨fun e=>h.1 ?_,ih⟩
  rw [← e]
  exact List.mem_map.mpr ⟨_,List.getElem_mem _,rfl⟩
theorem key_take {β : Type} {kp : List (Str × β)} {i j : Nat} {x : Str} (hij : i ≤ j) (h : x ∈ (kp.take i).map (·.1)) : x ∈ (kp.take j).map (·.1):=by
 obtain ⟨r,hr,e⟩:=List.mem_map.mp h
 refine List.mem_map.mpr ⟨r,?_,e⟩
 have : kp.take i = (kp.take j).take i:=by rw [List.take_take,Nat.min_eq_left hij]
 rw [this] at hr
 exact List.mem_of_mem_take hr
abbrev WantD (Q : VK) (s3 : Int) (H1 : Hp) (c a1 a2 a3 : Addr) (names sw : List Str) (kp : List (Str × V)) (gt : List (Str × Str × Str)) : Prop :=
 ∀ (m : Addr) (nx nv sm : List (Str × Str)) (a4 a5 a6 : Addr) (H' : Hp),Nexts names kp nx → nx.length ≤ kp.length → Wishes names [] nv → Wishes names (nv.map (·.1)) sm → 1 ≤ nv.length → (nv.length : Int) ≤ s3 → (sm.length : Int) ≤ s3 → MachAt H' m ⟨sw,kp,gt,nx,nv,sm⟩ a1 a2 a3 a4 a5 a6 → Keep H1 H' c → Q (.ref m) H'
theorem dig_C (G : Defs P w K mg base fP fS fL fW fR dP dS dL dW dR) {f : Addr} {cdv : Value} {A : Around} {outer : List Env} {s : Shared} {H : Hp} {E : XK} {Q : VK} (hr : Room 3 (A.deeper (PyProof.Rows.envOfC "_law_machine_digits" (defScope sDigits) s.heap.objs.size f cdv))) :
 ∃ tR : TS,PSs (cxDig P w K mg base f cdv A outer s H E) (List.drop 8 (defBody sDigits)) tR ∧ ∀ (σ : St) (H1 : Hp) (v0 v2 v3 v4 v10 : Option V) (z c n a1 a2 a3 : Addr) (s0 s1 s2 s3 : Int) (names sw : List Str) (kp : List (Str × V)) (gt : List (Str × Str × Str)),
  σ = [v0,some (.ref z),v2,v3,v4,some (.ref c),some (.ref n),some (.ref a1),some (.ref a2),some (.ref a3),v10,none,none,none,none,none,none] →
  AtC K H1 z c n a1 a2 a3 s0 s1 s2 s3 names sw kp gt → WantD Q s3 H1 c a1 a2 a3 names sw kp gt →
  tR { nx:=fun _ H'=>Q .non H',rt:=Q } σ H1:=by
 have hr1 : Room 1 _:=hr.mono (by decide)
 have hr2 : Room 2 _:=hr.mono (by decide)
 obtain ⟨tD,hD,rD⟩:=dig_D G (outer:=outer) (H:=H) (E:=E) (Q:=Q) hr
 refine ⟨_,pss_cons (ps_set (i:=11) scDig.nd rfl (Or.inl rfl) (pe_lst pa_nil))
  (pss_cons (ps_for PassesOwn.never rfl (pi_list (pv 8)) (pg_tup rfl (pgs_cons (pg_name (i:=12) scDig.nd rfl (Or.inl rfl)) (pgs_cons (pg_name (i:=13) scDig.nd rfl (Or.inl rfl)) pgs_nil)))
   (pss_one (ps_if (pt_cmpR op_gt (pe_call G.gP hr1 rfl G.mP G.kP G.bP .nil pass0 (pa_cons (pv 5) (pa_cons pe_int pa_nil))) pe_int (nomark _))
    (pss_one (ps_expr (pe_bm PySem.F.plainAttrs_list PySem.F.slot_list_insert PySem.F.type_list_insert mt_insert (pv 11) (pa_cons
     (pe_call G.gP hr1 rfl G.mP G.kP G.bP .nil pass0 (pa_cons (pv 5) (pa_cons (pe_op op_add (pe_callB call_len_seq (by rfl) G.T.len PySem.boot_len (pa_cons (pv 11) pa_nil)) pe_int) pa_nil)))
     (pa_cons (pe_tup (pa_cons (pv 12) (pa_cons (pe_call G.gL hr2 rfl G.mL G.kL G.bL .nil pass0 (pa_cons (pv 5) (pa_cons (pv 6) pa_nil))) pa_nil))) pa_nil))))) pss_nil))) hD),?_⟩
 rintro σ H1 v0 v2 v3 v4 v10 z c n a1 a2 a3 s0 s1 s2 s3 names sw kp gt rfl hA kk
 obtain ⟨xs,hc,hp⟩:=hA.pc
 obtain ⟨ts,h2,hts⟩:=id hA.h2
 have hkl:=hA.kl
 have hnl:=hA.nl
 have htl:=hts.length
 rw [List.length_map] at htl
 refine ⟨(by show 0 ≤ sizeLine; decide),fun p hpn=>?_⟩
 have ncp : c ≠ p:=ne_of_none hc hpn
 have n2p : a2 ≠ p:=ne_of_none h2 hpn
 refine ⟨_,rfl,a2,rfl,⟨_,SqL.of (by rw [upd_ne n2p]; exact h2)⟩,for_list (K:=K) (a:=a2) (xs:=ts.map V.ref) (fun i σ H2=>∃ (nx : List (Str × Str)) (v12 v13 : Option V) (ys : List V),
  σ = [v0,some (.ref z),v2,v3,v4,some (.ref c),some (.ref n),some (.ref a1),some (.ref a2),some (.ref a3),v10,some (.ref p),v12,v13,none,none,none] ∧ nx.length ≤ i ∧ Nexts names (kp.take i) nx ∧ TupsAt H2 p (nx.map row2) ∧ pool ys ∧ H2 c = some (.lst ys) ∧ Keep H1 H2 c) ?_ ?_ ?_ ?_⟩
 · exact ⟨[],none,none,xs,rfl,Nat.le_refl _,⟨(fun _ h=>nomatch h),List.nodup_nil⟩,⟨[],upd_same,.nil⟩,hp,(by rw [upd_ne ncp]; exact hc),Keep.upd_new hpn⟩
 · rintro i σ H2 _ ⟨nx,v12,v13,ys,_,_,_,_,_,_,kp2⟩
   exact SqL.of (kp2 a2 _ h2 hA.c2)
 · rintro i x σ H2 hx ⟨nx,v12,v13,ys,rfl,hnx,hNx,⟨us,hp2,hus⟩,hpool,hc2,kp2⟩
   have hil : i < (ts.map V.ref).length:=(List.getElem?_eq_some_iff.mp hx).1
   rw [List.length_map,htl] at hil
   have hki : kp[i]? = some kp[i]:=List.getElem?_eq_getElem hil
   obtain ⟨t,ht,hT⟩:=paired_at hts (i:=i) (b:=rowK kp[i]) (by rw [List.getElem?_map,hki]; rfl)
   have ex : x = .ref t:=by
    rw [List.getElem?_map,ht] at hx
    exact (Option.some.inj hx).symm
   subst ex
   have hT2 : H2 t = some (.tup (rowK kp[i])):=kp2 t _ hT (ne_of hT hc (by intro z; cases z))
   refine ⟨t,_,rfl,SqT.of hT2,rfl,_,_,rfl,_,_,rfl,rfl,?_⟩
   refine ⟨_,rfl,c,ys,5,rfl,hc2,hpool,by decide,by decide,fun d ys2 H3 d0 d1 hp3 hc3 kp3=>⟨_,_,rfl,rfl,_,rfl,?_⟩⟩
   have kp13 : Keep H1 H3 c:=kp2.trans kp3
   have hus3 : TupsAt H3 p (nx.map row2):=TupsAt.keep ⟨us,hp2,hus⟩ kp3 hc2 (Ne.symm ncp)
   refine ite2 (fun _=>?_) (fun _=>?_)
   · have hp3' : H3 p = some (.lst (us.map V.ref)):=kp3 p _ hp2 (Ne.symm ncp)
     have hul:=hus.length
     rw [List.length_map] at hul
     refine ⟨_,rfl,.inl ⟨rfl,_,SqL.of hp3'⟩,_,rfl,_,rfl,p,_,rfl,.inl (SqL.of hp3'),_,_,rfl,rfl,c,ys2,_,rfl,hc3,hp3,(by rw [List.length_map]; omega),(by rw [List.length_map]; omega),fun d2 ys3 H4 e0 e1 hp4 hc4 kp4=>?_⟩
     rw [List.length_map] at e1
     have A4:=hA.keep (kp13.trans kp4) hc4 hp4
     refine ⟨_,rfl,_,rfl,_,rfl,c,n,ys3,names,rfl,hc4,hp4,A4.nc,SqL.of A4.hn,by omega,A4.nm,fun lt ys4 H5 hlit hp5 hc5 kp5=>?_⟩
     refine ⟨(by show 2 ≤ sizeLine; decide),fun Tp hTp=>?_⟩
     have hp5' : H5 p = some (.lst (us.map V.ref)):=kp5 p _ (kp4 p _ hp3' (Ne.symm ncp)) (Ne.symm ncp)
     have npT : p ≠ Tp:=ne_of_none hp5' hTp
     have ncT : c ≠ Tp:=ne_of_none hc5 hTp
     refine ⟨p,_,d2,_,rfl,rfl,(by rw [upd_ne npT]; exact hp5'),e0,(by rw [List.length_map]; omega),(by rw [List.length_map]; exact small (by omega)),?_⟩
     have notp : ∀ a xs',(upd H5 Tp (HO.tup [V.str kp[i].1,V.str lt])) a = some (.tup xs') → a ≠ p:=fun a xs' e z'=>by
      rw [z',upd_ne npT,hp5'] at e
      cases e
     have hus6 : Paired (fun t r=>(upd (upd H5 Tp (HO.tup [V.str kp[i].1,V.str lt])) p (.lst ((us.map V.ref).take d2.toNat ++ [V.ref Tp] ++ (us.map V.ref).drop d2.toNat))) t = some (.tup r)) us (nx.map row2):=Paired.mapP hus fun a r e=>by
      have ea : H5 a = some (.tup r):=kp5 a _ (kp4 a _ (kp3 a _ e (ne_of e hc2 (by intro z; cases z))) (ne_of e hc2 (by intro z; cases z))) (ne_of e hc2 (by intro z; cases z))
      have eb : (upd H5 Tp (HO.tup [V.str kp[i].1,V.str lt])) a = some (.tup r):=by rw [upd_ne (ne_of_none ea hTp)]; exact ea
      rw [upd_ne (notp a r eb)]
      exact eb
     refine ⟨nx.take d2.toNat ++ [(kp[i].1,lt)] ++ nx.drop d2.toNat,_,_,ys4,rfl,?_,⟨fun r hr=>?_,?_⟩,⟨us.take d2.toNat ++ [Tp] ++ us.drop d2.toNat,?_,?_⟩,hp5,?_,fun b o hb hbc=>?_⟩
     · simp only [List.length_append,List.length_take,List.length_drop,List.length_singleton]
       omega
     · rcases List.mem_append.mp hr with hr | hr
       · rcases List.mem_append.mp hr with hr | hr
         · exact ⟨key_take (Nat.le_succ _) (hNx.1 r (List.mem_of_mem_take hr)).1,(hNx.1 r (List.mem_of_mem_take hr)).2⟩
         · rw [List.mem_singleton.mp hr]
           refine ⟨?_,hlit⟩
           rw [take_next (·.1) hki]
           exact List.mem_append_right _ (List.mem_singleton.mpr rfl)
       · exact ⟨key_take (Nat.le_succ _) (hNx.1 r (List.mem_of_mem_drop hr)).1,(hNx.1 r (List.mem_of_mem_drop hr)).2⟩
     · have hn : kp[i].1 ∉ nx.map (·.1):=fun hm=>by
        obtain ⟨r,hr,e⟩:=List.mem_map.mp hm
        exact key_new hil hA.kd (e ▸ (hNx.1 r hr).1)
       have hq:=nodup_ins hNx.2 hn d2.toNat
       rw [List.map_append,List.map_append,List.map_take,List.map_drop]
       exact hq
     · rw [upd_same]
       simp only [List.map_append,List.map_take,List.map_drop,List.map_cons,List.map_nil]
     · rw [List.map_append,List.map_append,List.map_take,List.map_drop]
       refine paired_append (paired_append (paired_take _ hus6) (.cons ?_ .nil)) (paired_drop _ hus6)
       rw [upd_ne (Ne.symm npT),upd_same]
       rfl
     · rw [upd_ne ncp,upd_ne ncT]
       exact hc5
     · have e5:=kp5 b o (kp4 b o (kp13 b o hb hbc) hbc) hbc
       rw [upd_ne (ne_of_none hb hpn),upd_ne (ne_of_none e5 hTp)]
       exact e5
   · exact ⟨nx,_,_,ys2,rfl,by omega,⟨fun r hr=>⟨key_take (Nat.le_succ _) (hNx.1 r hr).1,(hNx.1 r hr).2⟩,hNx.2⟩,hus3,hp3,hc3,kp13⟩
 · rintro σ H2 ⟨nx,v12,v13,ys,rfl,hnx,hNx,htp,hpool,hc2,kp2⟩
   rw [List.length_map,htl] at hnx hNx
   rw [List.take_length] at hNx
   have A2:=hA.keep kp2 hc2 hpool
   refine rD _ H2 v0 v2 v3 v4 v10 v12 v13 z c n a1 a2 a3 p s0 s1 s2 s3 names sw kp gt nx rfl ⟨⟨ys,hc2,hpool⟩,A2.hz,A2.zc,A2.hn,A2.nc,A2.nl,A2.nm,A2.h1,A2.c1,A2.h2,A2.c2,A2.h3,A2.c3,htp,Ne.symm ncp⟩ ?_
   intro m nv sm a5 a6 H' w1 w2 l1 l2 l3 hM kp'
   exact kk m nx nv sm p a5 a6 H' hNx hnx w1 w2 l1 l2 l3 hM (kp2.trans kp')
end
end Gen
namespace Gen
open PySem L2
def Keep2 (H H' : Hp) (l n : Addr) : Prop:=∀ b o,H b = some o → b ≠ l → b ≠ n → H' b = some o
def Keep3 (H H' : Hp) (l c n : Addr) : Prop:=∀ b o,H b = some o → b ≠ l → b ≠ c → b ≠ n → H' b = some o
theorem Keep2.seq {K : PySem.W.Frag} {H H' : Hp} {a l n : Addr} {xs : List V} (e : Keep2 H H' l n) (h : SqL K H a xs) (h1 : a ≠ l) (h2 : a ≠ n) : SqL K H' a xs:=by
 rcases h with (h | ⟨o,h⟩) | h
 · exact .inl (.inl (e a _ h h1 h2))
 · exact .inl (.inr ⟨o,e a _ h h1 h2⟩)
 · exact .inr h
theorem Keep2.seqT {K : PySem.W.Frag} {H H' : Hp} {a l n : Addr} {xs : List V} (e : Keep2 H H' l n) (h : SqT K H a xs) (h1 : a ≠ l) (h2 : a ≠ n) : SqT K H' a xs:=by
 rcases h with (h | ⟨o,h⟩) | h
 · exact .inl (.inl (e a _ h h1 h2))
 · exact .inl (.inr ⟨o,e a _ h h1 h2⟩)
 · exact .inr h
theorem TupsAt.keep2 {H H' : Hp} {p l n : Addr} {rs : List (List V)} {xs ns : List V} (h : TupsAt H p rs) (k : Keep2 H H' l n) (hl : H l = some (.lst xs)) (hn : H n = some (.lst ns)) (h1 : p ≠ l) (h2 : p ≠ n) : TupsAt H' p rs:=by
 obtain ⟨ts,e1,e2⟩:=h
 exact ⟨ts,k p _ e1 h1 h2,Paired.mapP e2 fun t r e=>k t _ e (ne_of e hl (by intro z; cases z)) (ne_of e hn (by intro z; cases z))⟩
theorem Keep.to2 {H H' : Hp} {l : Addr} (k : Keep H H' l) (n : Addr) : Keep2 H H' l n:=fun b o h h1 _=>k b o h h1
theorem Keep2.trans {H H1 H2 : Hp} {l n : Addr} (a : Keep2 H H1 l n) (b : Keep2 H1 H2 l n) : Keep2 H H2 l n:=fun c o h h1 h2=>b c o (a c o h h1 h2) h1 h2
theorem Keep2.upd_n {H : Hp} {l n : Addr} {o : HO} : Keep2 H (upd H n o) l n:=fun b u h _ h2=>by rw [upd_ne h2]; exact h
theorem SzAt.keep2 {K : PySem.W.Frag} {H H' : Hp} {z l n : Addr} {s0 s1 s2 s3 : Int} (h : SzAt K H z s0 s1 s2 s3) (k : Keep2 H H' l n) (h1 : z ≠ l) (h2 : z ≠ n) : SzAt K H' z s0 s1 s2 s3:=⟨h.1.imp (fun q=>k.seq q h1 h2) (fun q=>k.seqT q h1 h2),h.2⟩
def GatesOk (names : List Str) (gt : List (Str × Str × Str)) : Prop:=∀ (i : Nat) (r : Str × Str × Str),gt[i]? = some r → Lit (names ++ (gt.take i).map (·.1)) r.2.1 ∧ Lit (names ++ (gt.take i).map (·.1)) r.2.2
theorem GatesOk.snoc {names : List Str} {gt : List (Str × Str × Str)} {r : Str × Str × Str} (h : GatesOk names gt) (h1 : Lit (names ++ gt.map (·.1)) r.2.1) (h2 : Lit (names ++ gt.map (·.1)) r.2.2) : GatesOk names (gt ++ [r]):=by
 intro i q e
 rcases Nat.lt_trichotomy i gt.length with hi | hi | hi
 · rw [List.getElem?_append_left hi] at e
   rw [List.take_append_of_le_length (Nat.le_of_lt hi)]
   exact h i q e
 · subst hi
   rw [List.getElem?_append_right (Nat.le_refl _),Nat.sub_self] at e
   have e' : r = q:=by simpa using e
   subst e'
   rw [List.take_left']
   · exact ⟨h1,h2⟩
   · rfl
 · rw [List.getElem?_eq_none (by rw [List.length_append,List.length_singleton]; omega)] at e
   cases e
theorem nodup_snoc {α : Type} {l : List α} {a : α} (h : l.Nodup) (ha : a ∉ l) : (l ++ [a]).Nodup:=by
 rw [List.nodup_append]
 refine ⟨h,by simp,fun x hx y hy e=>?_⟩
 have : y = a:=by simpa using hy
 rw [this] at e
 exact ha (e ▸ hx)
section
variable {P : Program} {w : World} {K : PySem.W.Frag} {mg : Str → Option Value} {base : Heap} {fP fS fL fW fR : Addr} {dP dS dL dW dR : FuncData}
structure AtB (K : PySem.W.Frag) (H : Hp) (z b c n a1 a2 : Addr) (s0 s1 s2 s3 : Int) (names sw : List Str) (kp : List (Str × V)) : Prop where
 pb : ∃ xs,H b = some (.lst xs) ∧ pool xs
 pc : ∃ xs,H c = some (.lst xs) ∧ pool xs
 hz : SzAt K H z s0 s1 s2 s3
 zb : z ≠ b
 zc : z ≠ c
 zn : z ≠ n
 bc : b ≠ c
 hn : H n = some (.lst (names.map V.str))
 nb : n ≠ b
 nc : n ≠ c
 nl : names.length ≤ 28
 nm : ∀ x ∈ names,NameS x
 nd : names.Nodup
 h1 : H a1 = some (.lst (sw.map V.str))
 b1 : a1 ≠ b
 c1 : a1 ≠ c
 n1 : a1 ≠ n
 h2 : TupsAt H a2 (kp.map rowK)
 b2 : a2 ≠ b
 c2 : a2 ≠ c
 n2 : a2 ≠ n
 kd : (kp.map (·.1)).Nodup
 kl : kp.length ≤ 16
abbrev WantB (Q : VK) (s3 : Int) (H1 : Hp) (b c n a1 a2 : Addr) (names sw : List Str) (kp : List (Str × V)) : Prop :=
 ∀ (m : Addr) (gt : List (Str × Str × Str)) (nx nv sm : List (Str × Str)) (a3 a4 a5 a6 : Addr) (H' : Hp),GatesOk names gt → (names ++ gt.map (·.1)).Nodup → (∀ x ∈ names ++ gt.map (·.1),NameS x) → gt.length ≤ 60 → Nexts (names ++ gt.map (·.1)) kp nx → nx.length ≤ kp.length →
  Wishes (names ++ gt.map (·.1)) [] nv → Wishes (names ++ gt.map (·.1)) (nv.map (·.1)) sm → 1 ≤ nv.length → (nv.length : Int) ≤ s3 → (sm.length : Int) ≤ s3 → MachAt H' m ⟨sw,kp,gt,nx,nv,sm⟩ a1 a2 a3 a4 a5 a6 → Keep3 H1 H' b c n → Q (.ref m) H'
theorem dig_B (G : Defs P w K mg base fP fS fL fW fR dP dS dL dW dR) {f : Addr} {cdv : Value} {A : Around} {outer : List Env} {s : Shared} {H : Hp} {E : XK} {Q : VK} (hr : Room 3 (A.deeper (PyProof.Rows.envOfC "_law_machine_digits" (defScope sDigits) s.heap.objs.size f cdv))) :
 ∃ tR : TS,PSs (cxDig P w K mg base f cdv A outer s H E) (List.drop 6 (defBody sDigits)) tR ∧ ∀ (σ : St) (H1 : Hp) (v0 v2 v3 : Option V) (z b c n a1 a2 : Addr) (s0 s1 s2 s3 : Int) (names sw : List Str) (kp : List (Str × V)),
  σ = [v0,some (.ref z),v2,v3,some (.ref b),some (.ref c),some (.ref n),some (.ref a1),some (.ref a2),none,none,none,none,none,none,none,none] →
  AtB K H1 z b c n a1 a2 s0 s1 s2 s3 names sw kp → WantB Q s3 H1 b c n a1 a2 names sw kp →
  tR { nx:=fun _ H'=>Q .non H',rt:=Q } σ H1:=by
 have hr1 : Room 1 _:=hr.mono (by decide)
 have hr2 : Room 2 _:=hr.mono (by decide)
 obtain ⟨tC,hC,rC⟩:=dig_C G (outer:=outer) (H:=H) (E:=E) (Q:=Q) hr
 refine ⟨_,pss_cons (ps_set (i:=9) scDig.nd rfl (Or.inl rfl) (pe_lst pa_nil))
  (pss_cons (ps_for PassesOwn.never rfl (pi_range1 rfl G.T.range (pa_cons (pe_call G.gP hr1 rfl G.mP G.kP G.bP .nil pass0 (pa_cons (pv 4) (pa_cons (pe_op op_add (pe_ix ix_seq (pv 1) pe_int (fun _ _=>rfl)) pe_int) pa_nil))) pa_nil)) (pg_name (i:=2) scDig.nd rfl (Or.inl rfl))
   (pss_cons (ps_set (i:=10) scDig.nd rfl (Or.inl rfl) (pe_call G.gS hr2 rfl G.mS G.kS G.bS .nil pass0 (pa_cons (pv 4) (pa_cons (pv 6) pa_nil))))
   (pss_cons (ps_expr (pe_bm PySem.F.plainAttrs_list PySem.F.slot_list_append PySem.F.type_list_append mt_append (pv 9) (pa_cons (pe_tup (pa_cons (pv 10) (pa_cons (pe_call G.gL hr2 rfl G.mL G.kL G.bL .nil pass0 (pa_cons (pv 4) (pa_cons (pv 6) pa_nil))) (pa_cons (pe_call G.gL hr2 rfl G.mL G.kL G.bL .nil pass0 (pa_cons (pv 4) (pa_cons (pv 6) pa_nil))) pa_nil)))) pa_nil)))
   (pss_one (ps_expr (pe_bm PySem.F.plainAttrs_list PySem.F.slot_list_append PySem.F.type_list_append mt_append (pv 6) (pa_cons (pv 10) pa_nil))))))) hC),?_⟩
 rintro σ H1 v0 v2 v3 z b c n a1 a2 s0 s1 s2 s3 names sw kp rfl hA kk
 obtain ⟨xs,hb,hp⟩:=hA.pb
 obtain ⟨xc,hc,hpc⟩:=hA.pc
 obtain ⟨_,_,_,⟨z2a,z2b⟩,_,_⟩:=hA.hz
 have hnl:=hA.nl
 refine ⟨(by show 0 ≤ sizeLine; decide),fun p hpn=>?_⟩
 have nbp : b ≠ p:=ne_of_none hb hpn
 have nnp : n ≠ p:=ne_of_none hA.hn hpn
 have hz1 : SzAt K (upd H1 p (.lst [])) z s0 s1 s2 s3:=hA.hz.same (Same.upd_new hpn)
 refine ⟨_,rfl,_,rfl,hz1.ix (i:=2) (v:=.int s2) rfl ⟨_,_,rfl,rfl,b,xs,_,rfl,(by rw [upd_ne nbp]; exact hb),hp,by omega,by omega,fun d ys0 H1' d0 d1 hp0 hl0 kp0=>?_⟩⟩
 have k0 : Keep2 H1 H1' b n:=fun x o h h1 _=>kp0 x o (by rw [upd_ne (ne_of_none h hpn)]; exact h) h1
 have hn0 : H1' n = some (.lst (names.map V.str)):=kp0 n _ (by rw [upd_ne nnp]; exact hA.hn) hA.nb
 have hp0' : H1' p = some (.lst []):=kp0 p _ upd_same (Ne.symm nbp)
 refine ⟨_,rfl,by omega,by omega,for_range (n:=d.toNat) (fun i σ H2=>∃ (gt : List (Str × Str × Str)) (v2' v10 : Option V) (ys : List V),
  σ = [v0,some (.ref z),v2',v3,some (.ref b),some (.ref c),some (.ref n),some (.ref a1),some (.ref a2),some (.ref p),v10,none,none,none,none,none,none] ∧ gt.length = i ∧ GatesOk names gt ∧ (names ++ gt.map (·.1)).Nodup ∧ (∀ x ∈ names ++ gt.map (·.1),NameS x) ∧
  TupsAt H2 p (gt.map rowG) ∧ H2 n = some (.lst ((names ++ gt.map (·.1)).map V.str)) ∧ pool ys ∧ H2 b = some (.lst ys) ∧ Keep2 H1 H2 b n) ?_ ?_ ?_⟩
 · refine ⟨[],v2,none,ys0,rfl,rfl,fun i r e=>?_,?_,?_,⟨[],hp0',.nil⟩,?_,hp0,hl0,k0⟩
   · simp at e
   · simpa using hA.nd
   · simpa using hA.nm
   · simpa using hn0
 · rintro i σ H2 hi ⟨gt,v2',v10,ys,rfl,hgl,hgo,hnd,hnm,⟨us,hp2,hus⟩,hn2,hpool,hb2,kp2⟩
   have hul:=hus.length
   rw [List.length_map] at hul
   have lenN : (names ++ gt.map (·.1)).length = names.length + i:=by rw [List.length_append,List.length_map,hgl]
   refine ⟨_,rfl,_,rfl,b,n,ys,names ++ gt.map (·.1),rfl,hb2,hpool,hA.nb,SqL.of hn2,by omega,fun nw ys2 H3 hnw hnt hp3 hb3 kp3=>?_⟩
   have hn3 : H3 n = _:=kp3 n _ hn2 hA.nb
   have hp3' : H3 p = some (.lst (us.map V.ref)):=kp3 p _ hp2 (Ne.symm nbp)
   refine ⟨_,rfl,.inl ⟨rfl,_,SqL.of hp3'⟩,_,rfl,_,rfl,_,rfl,b,n,ys2,names ++ gt.map (·.1),rfl,hb3,hp3,hA.nb,SqL.of hn3,by omega,hnm,fun l1 ys3 H4 hl1 hp4 hb4 kp4=>?_⟩
   have hn4 : H4 n = _:=kp4 n _ hn3 hA.nb
   refine ⟨_,rfl,_,rfl,b,n,ys3,names ++ gt.map (·.1),rfl,hb4,hp4,hA.nb,SqL.of hn4,by omega,hnm,fun l2 ys4 H5 hl2 hp5 hb5 kp5=>?_⟩
   have hn5 : H5 n = _:=kp5 n _ hn4 hA.nb
   have hp5' : H5 p = some (.lst (us.map V.ref)):=kp5 p _ (kp4 p _ hp3' (Ne.symm nbp)) (Ne.symm nbp)
   refine ⟨(by show 3 ≤ sizeLine; decide),fun Tp hTp=>?_⟩
   have npT : p ≠ Tp:=ne_of_none hp5' hTp
   have nbT : b ≠ Tp:=ne_of_none hb5 hTp
   have nnT : n ≠ Tp:=ne_of_none hn5 hTp
   refine ⟨p,_,_,rfl,rfl,(by rw [upd_ne npT]; exact hp5'),(by rw [List.length_map]; exact small (by omega)),?_⟩
   have hn6 : (upd (upd H5 Tp (HO.tup [V.str nw,V.str l1,V.str l2])) p (.lst (us.map V.ref ++ [V.ref Tp]))) n = some (.lst ((names ++ gt.map (·.1)).map V.str)):=by rw [upd_ne nnp,upd_ne nnT]; exact hn5
   refine ⟨_,rfl,.inl ⟨rfl,_,SqL.of hn6⟩,_,rfl,n,_,_,rfl,rfl,hn6,(by rw [List.length_map]; exact small (by omega)),?_⟩
   have hnt' : nw ∉ names ++ gt.map (·.1):=hnt
   have en : names ++ (gt ++ [(nw,l1,l2)]).map (·.1) = (names ++ gt.map (·.1)) ++ [nw]:=by rw [List.map_append,← List.append_assoc]; rfl
   have tn : ∀ a xs',H5 a = some (HO.tup xs') → a ≠ n:=fun a xs' e=>ne_of e hn5 (by intro z; cases z)
   refine ⟨gt ++ [(nw,l1,l2)],_,_,ys4,rfl,(by rw [List.length_append,List.length_singleton,hgl]),hgo.snoc hl1 hl2,(by rw [en]; exact nodup_snoc hnd hnt'),fun x hx=>?_,?_,?_,hp5,?_,fun x o hx h1 h2=>?_⟩
   · rw [en] at hx
     rcases List.mem_append.mp hx with hx | hx
     · exact hnm x hx
     · rw [List.mem_singleton.mp hx]; exact hnw
   · have tp:=TupsAt.snoc (H:=upd H5 Tp (HO.tup [V.str nw,V.str l1,V.str l2])) (p:=p) (t:=Tp) (rs:=gt.map rowG) (r:=[V.str nw,V.str l1,V.str l2]) (ts:=us) (Paired.mapP hus fun a r e=>by
      have nb':=ne_of e hb2 (by intro z; cases z)
      have ea : H5 a = some (.tup r):=kp5 a _ (kp4 a _ (kp3 a _ e nb') nb') nb'
      rw [upd_ne (ne_of_none ea hTp)]
      exact ea) upd_same (fun a xs' e z'=>by rw [z',upd_ne npT,hp5'] at e; cases e)
     obtain ⟨us',e1,e2⟩:=tp
     refine ⟨us',by rw [upd_ne (Ne.symm nnp)]; exact e1,?_⟩
     have er : (gt ++ [(nw,l1,l2)]).map rowG = gt.map rowG ++ [[V.str nw,V.str l1,V.str l2]]:=by rw [List.map_append]; rfl
     rw [er]
     refine Paired.mapP e2 fun a r e=>?_
     rw [upd_ne (ne_of e hn6 (by intro z; cases z))]
     exact e
   · rw [upd_same,en]
     simp only [List.map_append,List.map_cons,List.map_nil]
   · rw [upd_ne (Ne.symm hA.nb),upd_ne nbp,upd_ne nbT]
     exact hb5
   · have e5 : H5 x = some o:=kp5 x o (kp4 x o (kp3 x o (kp2 x o hx h1 h2) h1) h1) h1
     rw [upd_ne h2,upd_ne (ne_of_none hx hpn),upd_ne (ne_of_none e5 hTp)]
     exact e5
 · rintro σ H2 ⟨gt,v2',v10,ys,rfl,hgl,hgo,hnd,hnm,htp,hn2,hpool,hb2,kp2⟩
   have hc2 : H2 c = some (.lst xc):=kp2 c _ hc (Ne.symm hA.bc) (Ne.symm hA.nc)
   have ncp : c ≠ p:=ne_of_none hc hpn
   refine rC _ H2 v0 v2' v3 (some (.ref b)) v10 z c n a1 a2 p s0 s1 s2 s3 (names ++ gt.map (·.1)) sw kp gt rfl ⟨⟨xc,hc2,hpc⟩,hA.hz.keep2 kp2 hA.zb hA.zn,hA.zc,hn2,hA.nc,(by rw [List.length_append,List.length_map]; omega),hnm,
    kp2 a1 _ hA.h1 hA.b1 hA.n1,hA.c1,hA.h2.keep2 kp2 hb hA.hn hA.b2 hA.n2,hA.c2,htp,Ne.symm ncp,hA.kd,hA.kl⟩ ?_
   intro m nx nv sm a4 a5 a6 H' q1 q2 w1 w2 l1 l2 l3 hM kp'
   exact kk m gt nx nv sm p a4 a5 a6 H' hgo hnd hnm (by omega) q1 q2 w1 w2 l1 l2 l3 hM fun x o hx h1 h2 h3=>kp' x o (kp2 x o hx h1 h3) h2
end
end Gen
namespace Gen
open PySem L2
def Firsts (kp : List (Str × V)) : Prop:=∀ r ∈ kp,r.2 = .int 0 ∨ r.2 = .int 1 ∨ r.2 = .non
theorem first_at {d : Int} (h0 : 0 ≤ d) (h1 : d < 3) : ∃ v : V,atI [V.int 0,.int 1,.non] d = some v ∧ (v = .int 0 ∨ v = .int 1 ∨ v = .non):=by
 rcases (show d = 0 ∨ d = 1 ∨ d = 2 by omega) with rfl | rfl | rfl
 · exact ⟨_,rfl,.inl rfl⟩
 · exact ⟨_,rfl,.inr (.inl rfl)⟩
 · exact ⟨_,rfl,.inr (.inr rfl)⟩
section
variable {P : Program} {w : World} {K : PySem.W.Frag} {mg : Str → Option Value} {base : Heap} {fP fS fL fW fR : Addr} {dP dS dL dW dR : FuncData}
structure AtA (K : PySem.W.Frag) (H : Hp) (z a b c n : Addr) (s0 s1 s2 s3 : Int) (sw : List Str) : Prop where
 pa : ∃ xs,H a = some (.lst xs) ∧ pool xs
 pb : ∃ xs,H b = some (.lst xs) ∧ pool xs
 pc : ∃ xs,H c = some (.lst xs) ∧ pool xs
 hz : SzAt K H z s0 s1 s2 s3
 za : z ≠ a
 zb : z ≠ b
 zc : z ≠ c
 zn : z ≠ n
 ab : a ≠ b
 ac : a ≠ c
 bc : b ≠ c
 hn : H n = some (.lst (sw.map V.str))
 na : n ≠ a
 nb : n ≠ b
 nc : n ≠ c
 nl : sw.length ≤ 12
 nm : ∀ x ∈ sw,NameS x
 nd : sw.Nodup
def Keep4 (H H' : Hp) (a b c n : Addr) : Prop:=∀ x o,H x = some o → x ≠ a → x ≠ b → x ≠ c → x ≠ n → H' x = some o
abbrev WantA (Q : VK) (s1 s3 : Int) (H1 : Hp) (a b c n : Addr) (sw : List Str) : Prop :=
 ∀ (m : Addr) (M : Mach) (names : List Str) (a1 a2 a3 a4 a5 a6 : Addr) (H' : Hp),M.switches = sw → MachOk M names → names.length ≤ 88 → ((M.keepers.length : Int) ≤ s1 ∧ M.keepers.length ≤ 16) → M.gates.length ≤ 60 → M.nexts.length ≤ 16 → 1 ≤ M.nevers.length → (M.nevers.length : Int) ≤ s3 → (M.somes.length : Int) ≤ s3 →
  MachAt H' m M a1 a2 a3 a4 a5 a6 → Keep4 H1 H' a b c n → Q (.ref m) H'
theorem dig_A (G : Defs P w K mg base fP fS fL fW fR dP dS dL dW dR) {f : Addr} {cdv : Value} {A : Around} {outer : List Env} {s : Shared} {H : Hp} {E : XK} {Q : VK} (hr : Room 3 (A.deeper (PyProof.Rows.envOfC "_law_machine_digits" (defScope sDigits) s.heap.objs.size f cdv))) :
 ∃ tR : TS,PSs (cxDig P w K mg base f cdv A outer s H E) (List.drop 3 (defBody sDigits)) tR ∧ ∀ (σ : St) (H1 : Hp) (v0 v2 : Option V) (z a b c n : Addr) (s0 s1 s2 s3 : Int) (sw : List Str),
  σ = [v0,some (.ref z),v2,some (.ref a),some (.ref b),some (.ref c),some (.ref n),none,none,none,none,none,none,none,none,none,none] →
  AtA K H1 z a b c n s0 s1 s2 s3 sw → WantA Q s1 s3 H1 a b c n sw →
  tR { nx:=fun _ H'=>Q .non H',rt:=Q } σ H1:=by
 have hr1 : Room 1 _:=hr.mono (by decide)
 have hr2 : Room 2 _:=hr.mono (by decide)
 obtain ⟨tB,hB,rB⟩:=dig_B G (outer:=outer) (H:=H) (E:=E) (Q:=Q) hr
 refine ⟨_,pss_cons (ps_set (i:=7) scDig.nd rfl (Or.inl rfl) (pe_callTy call_list_of (by rfl) G.T.list PyProof.Rows.boot_list (pa_cons (pv 6) pa_nil)))
  (pss_cons (ps_set (i:=8) scDig.nd rfl (Or.inl rfl) (pe_lst pa_nil))
  (pss_cons (ps_for PassesOwn.never rfl (pi_range1 rfl G.T.range (pa_cons (pe_call G.gP hr1 rfl G.mP G.kP G.bP .nil pass0 (pa_cons (pv 3) (pa_cons (pe_op op_add (pe_ix ix_seq (pv 1) pe_int (fun _ _=>rfl)) pe_int) pa_nil))) pa_nil)) (pg_name (i:=2) scDig.nd rfl (Or.inl rfl))
   (pss_cons (ps_expr (pe_bm PySem.F.plainAttrs_list PySem.F.slot_list_append PySem.F.type_list_append mt_append (pv 6) (pa_cons (pe_call G.gS hr2 rfl G.mS G.kS G.bS .nil pass0 (pa_cons (pv 3) (pa_cons (pv 6) pa_nil))) pa_nil)))
   (pss_one (ps_expr (pe_bm PySem.F.plainAttrs_list PySem.F.slot_list_append PySem.F.type_list_append mt_append (pv 8) (pa_cons (pe_tup (pa_cons (pe_ix ix_list (pv 6) (pe_un un_neg pe_int) (fun _ _=>rfl))
    (pa_cons (pe_ix ix_list (pe_lst (pa_cons pe_int (pa_cons pe_int (pa_cons pe_non pa_nil)))) (pe_call G.gP hr1 rfl G.mP G.kP G.bP .nil pass0 (pa_cons (pv 3) (pa_cons pe_int pa_nil))) (fun _ _=>rfl)) pa_nil))) pa_nil)))))) hB)),?_⟩
 rintro σ H0 v0 v2 z a b c n s0 s1 s2 s3 sw rfl hA kk
 obtain ⟨xs,ha,hp⟩:=hA.pa
 obtain ⟨xb,hb,hpb⟩:=hA.pb
 obtain ⟨xc,hc,hpc⟩:=hA.pc
 obtain ⟨_,_,⟨z1a,z1b⟩,_,_,_⟩:=hA.hz
 have hnl:=hA.nl
 refine ⟨_,rfl,n,_,rfl,.inl (SqL.of hA.hn),fun a1 ha1=>?_⟩
 have s01 : Same H0 (upd H0 a1 (.lst (sw.map V.str))):=Same.upd_new ha1
 have na1 : n ≠ a1:=ne_of_none hA.hn ha1
 have aa1 : a ≠ a1:=ne_of_none ha ha1
 have ba1 : b ≠ a1:=ne_of_none hb ha1
 have ca1 : c ≠ a1:=ne_of_none hc ha1
 have h1 : (upd H0 a1 (.lst (sw.map V.str))) a1 = some (.lst (sw.map V.str)):=upd_same
 generalize hH1 : upd H0 a1 (.lst (sw.map V.str)) = H1 at *
 have ha':=s01 a _ ha
 have hb':=s01 b _ hb
 have hc':=s01 c _ hc
 have hn':=s01 n _ hA.hn
 refine ⟨(by show 0 ≤ sizeLine; decide),fun p hpn=>?_⟩
 have nap : a ≠ p:=ne_of_none ha' hpn
 have nbp : b ≠ p:=ne_of_none hb' hpn
 have ncp : c ≠ p:=ne_of_none hc' hpn
 have nnp : n ≠ p:=ne_of_none hn' hpn
 have hz1 : SzAt K (upd H1 p (.lst [])) z s0 s1 s2 s3:=(hA.hz.same s01).same (Same.upd_new hpn)
 refine ⟨_,rfl,_,rfl,hz1.ix (i:=1) (v:=.int s1) rfl ⟨_,_,rfl,rfl,a,xs,_,rfl,(by rw [upd_ne nap]; exact ha'),hp,by omega,by omega,fun d ys0 H1' d0 d1 hp0 hl0 kp0=>?_⟩⟩
 have k0 : Keep2 H1 H1' a n:=fun x o h h1 _=>kp0 x o (by rw [upd_ne (ne_of_none h hpn)]; exact h) h1
 have hn0 : H1' n = some (.lst (sw.map V.str)):=kp0 n _ (by rw [upd_ne nnp]; exact hn') hA.na
 have hp0' : H1' p = some (.lst []):=kp0 p _ upd_same (Ne.symm nap)
 refine ⟨_,rfl,by omega,by omega,for_range (n:=d.toNat) (fun i σ H2=>∃ (kp : List (Str × V)) (v2' : Option V) (ys : List V),
  σ = [v0,some (.ref z),v2',some (.ref a),some (.ref b),some (.ref c),some (.ref n),some (.ref a1),some (.ref p),none,none,none,none,none,none,none,none] ∧ kp.length = i ∧ Firsts kp ∧ (sw ++ kp.map (·.1)).Nodup ∧ (∀ x ∈ sw ++ kp.map (·.1),NameS x) ∧
  TupsAt H2 p (kp.map rowK) ∧ H2 n = some (.lst ((sw ++ kp.map (·.1)).map V.str)) ∧ pool ys ∧ H2 a = some (.lst ys) ∧ Keep2 H1 H2 a n) ?_ ?_ ?_⟩
 · refine ⟨[],v2,ys0,rfl,rfl,(fun _ h=>nomatch h),?_,?_,⟨[],hp0',.nil⟩,?_,hp0,hl0,k0⟩
   · simpa using hA.nd
   · simpa using hA.nm
   · simpa using hn0
 · rintro i σ H2 hi ⟨kp,v2',ys,rfl,hkl,hfs,hnd,hnm,⟨us,hp2,hus⟩,hn2,hpool,ha2,kp2⟩
   have hul:=hus.length
   rw [List.length_map] at hul
   have lenN : (sw ++ kp.map (·.1)).length = sw.length + i:=by rw [List.length_append,List.length_map,hkl]
   refine ⟨_,rfl,.inl ⟨rfl,_,SqL.of hn2⟩,_,rfl,_,rfl,a,n,ys,sw ++ kp.map (·.1),rfl,ha2,hpool,hA.na,SqL.of hn2,by omega,fun nw ys2 H3 hnw hnt hp3 ha3 kp3=>?_⟩
   have hn3 : H3 n = some (.lst ((sw ++ kp.map (·.1)).map V.str)):=kp3 n _ hn2 hA.na
   have hp3' : H3 p = some (.lst (us.map V.ref)):=kp3 p _ hp2 (Ne.symm nap)
   refine ⟨n,_,_,rfl,rfl,hn3,(by rw [List.length_map]; exact small (by omega)),?_⟩
   have hp4 : (upd H3 n (.lst ((sw ++ kp.map (·.1)).map V.str ++ [V.str nw]))) p = some (.lst (us.map V.ref)):=by rw [upd_ne (Ne.symm nnp)]; exact hp3'
   have ha4 : (upd H3 n (.lst ((sw ++ kp.map (·.1)).map V.str ++ [V.str nw]))) a = some (.lst ys2):=by rw [upd_ne (Ne.symm hA.na)]; exact ha3
   refine ⟨_,rfl,.inl ⟨rfl,_,SqL.of hp4⟩,_,rfl,_,rfl,n,_,_,.str nw,rfl,rfl,SqL.of upd_same,atI_last _ _,(by show 3 ≤ sizeLine; decide),fun q hq=>?_⟩
   have naq : a ≠ q:=ne_of_none ha4 hq
   have npq : p ≠ q:=ne_of_none hp4 hq
   have nnq : n ≠ q:=ne_of_none (upd_same (H:=H3) (a:=n)) hq
   refine ⟨_,rfl,a,ys2,3,rfl,(by rw [upd_ne naq]; exact ha4),hp3,by decide,by decide,fun d2 ys3 H5 e0 e1 hp5 ha5 kp5=>?_⟩
   obtain ⟨fv,hfv,hfo⟩:=first_at e0 e1
   have hq5 : H5 q = some (.lst [V.int 0,.int 1,.non]):=kp5 q _ upd_same (Ne.symm naq)
   have hp5' : H5 p = some (.lst (us.map V.ref)):=kp5 p _ (by rw [upd_ne npq]; exact hp4) (Ne.symm nap)
   have hn5 : H5 n = some (.lst ((sw ++ kp.map (·.1)).map V.str ++ [V.str nw])):=kp5 n _ (by rw [upd_ne nnq,upd_same]) hA.na
   refine ⟨q,_,d2,fv,rfl,rfl,SqL.of hq5,hfv,(by show 2 ≤ sizeLine; decide),fun Tp hTp=>?_⟩
   have npT : p ≠ Tp:=ne_of_none hp5' hTp
   have naT : a ≠ Tp:=ne_of_none ha5 hTp
   have nnT : n ≠ Tp:=ne_of_none hn5 hTp
   refine ⟨p,_,_,rfl,rfl,(by rw [upd_ne npT]; exact hp5'),(by rw [List.length_map]; exact small (by omega)),?_⟩
   have en : sw ++ (kp ++ [(nw,fv)]).map (·.1) = (sw ++ kp.map (·.1)) ++ [nw]:=by rw [List.map_append,← List.append_assoc]; rfl
   have up5 : ∀ x o,H3 x = some o → x ≠ a → x ≠ n → H5 x = some o:=fun x o hx h1 h2=>kp5 x o (by
    have e4 : (upd H3 n (.lst ((sw ++ kp.map (·.1)).map V.str ++ [V.str nw]))) x = some o:=by rw [upd_ne h2]; exact hx
    rw [upd_ne (ne_of_none e4 hq)]
    exact e4) h1
   refine ⟨kp ++ [(nw,fv)],_,ys3,rfl,(by rw [List.length_append,List.length_singleton,hkl]),fun r hr=>?_,(by rw [en]; exact nodup_snoc hnd hnt),fun x hx=>?_,?_,?_,hp5,?_,fun x o hx h1 h2=>?_⟩
   · rcases List.mem_append.mp hr with hr | hr
     · exact hfs r hr
     · rw [List.mem_singleton.mp hr]; exact hfo
   · rw [en] at hx
     rcases List.mem_append.mp hx with hx | hx
     · exact hnm x hx
     · rw [List.mem_singleton.mp hx]; exact hnw
   · have er : (kp ++ [(nw,fv)]).map rowK = kp.map rowK ++ [[V.str nw,fv]]:=by rw [List.map_append]; rfl
     rw [er]
     refine TupsAt.snoc (Paired.mapP hus fun x r e=>?_) upd_same (fun x xs' e z'=>by rw [z',upd_ne npT,hp5'] at e; cases e)
     have nx1:=ne_of e ha2 (by intro z; cases z)
     have nx2:=ne_of e hn2 (by intro z; cases z)
     have e5 : H5 x = some (.tup r):=up5 x _ (kp3 x _ e nx1) nx1 nx2
     rw [upd_ne (ne_of_none e5 hTp)]
     exact e5
   · rw [upd_ne nnp,upd_ne nnT,hn5,en]
     simp only [List.map_append,List.map_cons,List.map_nil]
   · rw [upd_ne nap,upd_ne naT]
     exact ha5
   · have e5 : H5 x = some o:=up5 x o (kp3 x o (kp2 x o hx h1 h2) h1) h1 h2
     rw [upd_ne (ne_of_none hx hpn),upd_ne (ne_of_none e5 hTp)]
     exact e5
 · rintro σ H2 ⟨kp,v2',ys,rfl,hkl,hfs,hnd,hnm,htp,hn2,hpool,ha2,kp2⟩
   have hb2 : H2 b = some (.lst xb):=kp2 b _ hb' (Ne.symm hA.ab) (Ne.symm hA.nb)
   have hc2 : H2 c = some (.lst xc):=kp2 c _ hc' (Ne.symm hA.ac) (Ne.symm hA.nc)
   refine rB _ H2 v0 v2' (some (.ref a)) z b c n a1 p s0 s1 s2 s3 (sw ++ kp.map (·.1)) sw kp rfl ⟨⟨xb,hb2,hpb⟩,⟨xc,hc2,hpc⟩,(hA.hz.same s01).keep2 kp2 hA.za hA.zn,hA.zb,hA.zc,hA.zn,hA.bc,hn2,hA.nb,hA.nc,(by rw [List.length_append,List.length_map]; omega),hnm,hnd,
    kp2 a1 _ h1 (Ne.symm aa1) (Ne.symm na1),Ne.symm ba1,Ne.symm ca1,Ne.symm na1,htp,Ne.symm nbp,Ne.symm ncp,Ne.symm nnp,(List.nodup_append.mp hnd).2.1,by omega⟩ ?_
   intro m gt nx nv sm a3 a4 a5 a6 H' q1 q2 q3 q4 q5 q6 w1 w2 l1 l2 l3 hM kp'
   refine kk m ⟨sw,kp,gt,nx,nv,sm⟩ (sw ++ kp.map (·.1) ++ gt.map (·.1)) a1 p a3 a4 a5 a6 H' rfl ⟨rfl,q3,q2,hfs,fun r hr=>(q5.1 r hr).1,fun r hr=>(q5.1 r hr).2,q5.2,w1,w2,q1⟩ ?_ ⟨by show (kp.length : Int) ≤ s1; omega,by show kp.length ≤ 16; omega⟩ q4 (by show nx.length ≤ 16; omega) l1 l2 l3 hM ?_
   · simp only [List.length_append,List.length_map]
     omega
   · intro x o hx h1 h2 h3 h4
     exact kp' x o (kp2 x o (s01 x o hx) h1 h4) h2 h3 h4
end
end Gen
namespace Gen
open PySem L2
theorem yes_if {σ : St} {H : Hp} {A B : Hp → Prop} (h : A H) : tYes σ H (fun b H3=>if b = true then A H3 else B H3):=by
 show (if true = true then A H else B H)
 rw [if_pos rfl]
 exact h
theorem ndKC : (["_law_k", "_law_cell_here"] : List Str).Nodup:=by decide +kernel
abbrev MachWant (Q : VK) (s0 s1 s3 : Int) (H : Hp) : Prop :=
 ∀ (m : Addr) (M : Mach) (names : List Str) (a1 a2 a3 a4 a5 a6 : Addr) (H' : Hp),MachOk M names → names.length ≤ 88 → ((M.switches.length : Int) ≤ s0 ∧ M.switches.length ≤ 12) → ((M.keepers.length : Int) ≤ s1 ∧ M.keepers.length ≤ 16) → M.gates.length ≤ 60 → M.nexts.length ≤ 16 → 1 ≤ M.nevers.length → (M.nevers.length : Int) ≤ s3 → (M.somes.length : Int) ≤ s3 →
  MachAt H' m M a1 a2 a3 a4 a5 a6 → Same H H' → Q (.ref m) H'
def spDigits (K : PySem.W.Frag) : Sp:=fun vs H Q _=>∃ (ce z : Addr) (c0 c1 c2 s0 s1 s2 s3 : Int),vs = [.ref ce,.ref z] ∧ SqL K H ce [.int c0,.int c1,.int c2] ∧ SzAt K H z s0 s1 s2 s3 ∧ (∃ o,H z = some o) ∧ MachWant Q s0 s1 s3 H
section
variable {P : Program} {w : World} {K : PySem.W.Frag} {mg : Str → Option Value} {base : Heap} {fP fS fL fW fR : Addr} {dP dS dL dW dR : FuncData}
theorem ok_digits {f : Addr} {fd : FuncData} (F : Fun K "_law_machine_digits" "_law_machine_digits" sDigits f fd) (G : Defs P w K mg base fP fS fL fW fR dP dS dL dW dR) : FnOk P w K mg base CX0 4 f fd pDig (spDigits K):=by
 refine F.ok scDig (fun vs H Q E h=>?_) (fun cdv A outer s H vs Q E hr h=>?_)
 · obtain ⟨ce,z,c0,c1,c2,s0,s1,s2,s3,rfl,_⟩:=h
   rfl
 · obtain ⟨ce,z,c0,c1,c2,s0,s1,s2,s3,rfl,hce,hz,⟨oz,hzo⟩,kk⟩:=h
   have hr1 : Room 1 _:=hr.mono (by decide)
   have hr2 : Room 2 _:=hr.mono (by decide)
   obtain ⟨tA,hA,rA⟩:=dig_A G (outer:=outer) (H:=H) (E:=E) (Q:=Q) hr
   refine ⟨_,pss_cons (ps_asg (pe_lc (N:=["_law_k", "_law_cell_here"]) (js:=[none,none]) (g:=gTup K 2 (gCons (gName 0) (gCons (gName 1) gNil))) (by kernel_rfl) rfl (pi_enum rfl G.T.enum (pa_cons (pv 0) pa_nil))
    (fun _ _ _ _ _ _=>pg_tup rfl (pgs_cons (pg_name (i:=0) ndKC rfl (Or.inl rfl) (.inr rfl)) (pgs_cons (pg_name (i:=1) ndKC rfl (Or.inl rfl) (.inr rfl)) pgs_nil))) (fun _ _ _ _ _ _=>pifs_nil)
    (fun _ _ _ _ _ _=>pe_lst (pa_cons (pv 1) (pa_cons (pe_call G.gR hr2 rfl G.mR G.kR G.bR .nil pass0 (pa_cons (pv 1) (pa_cons (pe_op op_add pe_int (pv 0)) pa_nil))) pa_nil))))
    (pg_tupL rfl (pgs_cons (pg_name (i:=3) scDig.nd rfl (Or.inl rfl)) (pgs_cons (pg_name (i:=4) scDig.nd rfl (Or.inl rfl)) (pgs_cons (pg_name (i:=5) scDig.nd rfl (Or.inl rfl)) pgs_nil)))))
    (pss_cons (ps_set (i:=6) scDig.nd rfl (Or.inl rfl) (pe_lst pa_nil))
    (pss_cons (ps_for PassesOwn.never rfl (pi_range1 rfl G.T.range (pa_cons (pe_call G.gP hr1 rfl G.mP G.kP G.bP .nil pass0 (pa_cons (pv 3) (pa_cons (pe_op op_add (pe_ix ix_seq (pv 1) pe_int (fun _ _=>rfl)) pe_int) pa_nil))) pa_nil)) (pg_name (i:=2) scDig.nd rfl (Or.inl rfl))
     (pss_one (ps_expr (pe_bm PySem.F.plainAttrs_list PySem.F.slot_list_append PySem.F.type_list_append mt_append (pv 6) (pa_cons (pe_call G.gS hr2 rfl G.mS G.kS G.bS .nil pass0 (pa_cons (pv 3) (pa_cons (pv 6) pa_nil))) pa_nil))))) hA)),?_⟩
   obtain ⟨_,⟨z0a,z0b⟩,_,_,_,_⟩:=id hz
   refine ⟨_,rfl,ce,rfl,⟨_,hce⟩,fun D hD=>?_⟩
   refine lc_by 3 (fun i acc σ H2=>∃ (ls : List Addr) (u v : Option V),acc = ls.map V.ref ∧ ls.length = i ∧ ls.Nodup ∧ σ = [u,v] ∧ (∀ l ∈ ls,H l = none ∧ l ≠ D ∧ ∃ x y : Int,H2 l = some (.lst [.int x,.int y])) ∧ Same H H2)
    ⟨[],none,none,rfl,rfl,List.nodup_nil,rfl,(fun _ h=>nomatch h),Same.upd_new hD⟩ upd_same ?_ ?_
   · -- a,b,c
     rintro acc σ H2 hDD ⟨ls,u,v,rfl,hll,hnd,rfl,hls,s02⟩
     refine ⟨⟨_,Same.seq s02 hce,Nat.le_refl _⟩,?_⟩
     obtain ⟨a,b,c,rfl⟩ : ∃ a b c,ls = [a,b,c]:=by
      match ls,hll with
      | [a,b,c],_=>exact ⟨a,b,c,rfl⟩
     obtain ⟨fa,_,xa,ya,ha⟩:=hls a (by simp)
     obtain ⟨fb,_,xb,yb,hb⟩:=hls b (by simp)
     obtain ⟨fc,_,xc,yc,hc⟩:=hls c (by simp)
     have dist : a ≠ b ∧ a ≠ c ∧ b ≠ c:=by
      simp only [List.nodup_cons,List.mem_cons,List.not_mem_nil,or_false,not_or] at hnd
      exact ⟨hnd.1.1,hnd.1.2,hnd.2.1⟩
     obtain ⟨ab,ac,bc⟩:=dist
     refine ⟨D,_,rfl,SqL.of hDD,rfl,_,_,rfl,_,_,rfl,_,_,rfl,rfl,?_⟩
     refine ⟨(by show 0 ≤ sizeLine; decide),fun n hn=>?_⟩
     have an : a ≠ n:=ne_of_none ha hn
     have bn : b ≠ n:=ne_of_none hb hn
     have cn : c ≠ n:=ne_of_none hc hn
     have s23 : Same H2 (upd H2 n (.lst [])):=Same.upd_new hn
     have hz3 : SzAt K (upd H2 n (.lst [])) z s0 s1 s2 s3:=(hz.same s02).same s23
     refine ⟨_,rfl,_,rfl,hz3.ix (i:=0) (v:=.int s0) rfl ⟨_,_,rfl,rfl,a,_,_,rfl,(by rw [upd_ne an]; exact ha),.inr ⟨_,_,rfl⟩,by omega,by omega,fun d ys0 H4 d0 d1 hp0 ha4 kp0=>?_⟩⟩
     have hn4 : H4 n = some (.lst []):=kp0 n _ upd_same (Ne.symm an)
     have k04 : Keep H H4 a:=((Same.keep s02 a).trans (Same.keep s23 a)).trans kp0
     have k24 : Keep H2 H4 a:=(Same.keep s23 a).trans kp0
     refine ⟨_,rfl,by omega,by omega,for_range (n:=d.toNat) (fun i σ H5=>∃ (sw : List Str) (v2 : Option V) (ys : List V),
      σ = [some (.ref ce),some (.ref z),v2,some (.ref a),some (.ref b),some (.ref c),some (.ref n),none,none,none,none,none,none,none,none,none,none] ∧ sw.length = i ∧ sw.Nodup ∧ (∀ x ∈ sw,NameS x) ∧ H5 n = some (.lst (sw.map V.str)) ∧ pool ys ∧ H5 a = some (.lst ys) ∧ Keep2 H2 H5 a n) ?_ ?_ ?_⟩
     · exact ⟨[],none,ys0,rfl,rfl,List.nodup_nil,(fun _ h=>nomatch h),hn4,hp0,ha4,k24.to2 n⟩
     · rintro i σ H5 hi ⟨sw,v2,ys,rfl,hsl,hnd5,hnm,hn5,hpool,ha5,kp5⟩
       refine ⟨_,rfl,.inl ⟨rfl,_,SqL.of hn5⟩,_,rfl,_,rfl,a,n,ys,sw,rfl,ha5,hpool,Ne.symm an,SqL.of hn5,by omega,fun nw ys2 H6 hnw hnt hp6 ha6 kp6=>?_⟩
       have hn6 : H6 n = some (.lst (sw.map V.str)):=kp6 n _ hn5 (Ne.symm an)
       refine ⟨n,_,_,rfl,rfl,hn6,(by rw [List.length_map]; exact small (by omega)),?_⟩
       refine ⟨sw ++ [nw],_,ys2,rfl,(by rw [List.length_append,List.length_singleton,hsl]),nodup_snoc hnd5 hnt,fun x hx=>?_,?_,hp6,(by rw [upd_ne an]; exact ha6),(kp5.trans (kp6.to2 n)).trans Keep2.upd_n⟩
       · rcases List.mem_append.mp hx with hx | hx
         · exact hnm x hx
         · rw [List.mem_singleton.mp hx]; exact hnw
       · rw [upd_same,List.map_append]
         rfl
     · rintro σ H5 ⟨sw,v2,ys,rfl,hsl,hnd5,hnm,hn5,hpool,ha5,kp5⟩
       have hb5:=kp5 b _ hb (Ne.symm ab) bn
       have hc5:=kp5 c _ hc (Ne.symm ac) cn
       have old : ∀ x o,H x = some o → x ≠ a ∧ x ≠ b ∧ x ≠ c ∧ x ≠ n:=fun x o hx=>⟨ne_of_none hx fa,ne_of_none hx fb,ne_of_none hx fc,ne_of_none (s02 x o hx) hn⟩
       have s05 : Same H H5:=fun x o hx=>kp5 x o (s02 x o hx) (old x o hx).1 (old x o hx).2.2.2
       obtain ⟨za,zb,zc,zn⟩:=old z oz hzo
       refine rA _ H5 (some (.ref ce)) v2 z a b c n s0 s1 s2 s3 sw rfl ⟨⟨ys,ha5,hpool⟩,⟨_,hb5,.inr ⟨_,_,rfl⟩⟩,⟨_,hc5,.inr ⟨_,_,rfl⟩⟩,hz.same s05,za,zb,zc,zn,ab,ac,bc,hn5,Ne.symm an,Ne.symm bn,Ne.symm cn,by omega,hnm,hnd5⟩ ?_
       intro m M names a1 a2 a3 a4 a5 a6 H' eM ok l1 l2 l3 l4 l5 l6 l7 hM kp'
       refine kk m M names a1 a2 a3 a4 a5 a6 H' ok l1 ⟨by rw [eM]; omega,by rw [eM]; omega⟩ l2 l3 l4 l5 l6 l7 hM fun x o hx=>?_
       obtain ⟨q1,q2,q3,q4⟩:=old x o hx
       exact kp' x o (s05 x o hx) q1 q2 q3 q4
   · rintro i acc σ H2 hi hDD ⟨ls,u,v,rfl,hll,hnd,rfl,hls,s02⟩
     obtain ⟨ci,hx⟩ : ∃ ci : Int,[V.int c0,V.int c1,V.int c2][i]? = some (.int ci):=by
      rcases (show i = 0 ∨ i = 1 ∨ i = 2 by omega) with rfl | rfl | rfl
      · exact ⟨_,rfl⟩
      · exact ⟨_,rfl⟩
      · exact ⟨_,rfl⟩
     refine ⟨⟨_,_,Same.seq s02 hce,hx⟩,?_⟩
     rintro x H' ⟨T,xv,rfl,hTn,rfl,hall⟩
     have ex:=hall _ (Same.seq s02 hce)
     rw [hx] at ex
     cases ex
     refine ⟨T,_,rfl,SqT.of upd_same,rfl,_,_,rfl,_,_,rfl,rfl,yes_if ?_⟩
     refine ⟨_,rfl,_,rfl,_,rfl,_,_,rfl,rfl,_,_,rfl,by omega,by omega,fun v'=>⟨(by show 2 ≤ sizeLine; decide),fun l hl=>?_⟩⟩
     have nDT : D ≠ T:=ne_of_none hDD hTn
     have s2T : Same H2 (upd H2 T (.tup [.int (i : Int),.int ci])):=Same.upd_new hTn
     have nDl : D ≠ l:=ne_of_none (s2T D _ hDD) hl
     have s2l : Same H2 (upd (upd H2 T (.tup [.int (i : Int),.int ci])) l (.lst [.int ci,.int v'])):=s2T.trans (Same.upd_new hl)
     refine ⟨_,(by rw [upd_ne nDl,upd_ne nDT]; exact hDD),(by rw [List.length_map]; exact small (by omega)),lcW_next hi upd_same ⟨ls ++ [l],_,_,?_,(by rw [List.length_append,List.length_singleton,hll]),nodup_snoc hnd fun hm=>?_,rfl,fun y hy=>?_,fun y o hy=>?_⟩⟩
     · rw [List.map_append]
       rfl
     · obtain ⟨_,_,_,_,e⟩:=hls l hm
       rw [s2T l _ e] at hl
       cases hl
     · rcases List.mem_append.mp hy with hy | hy
       · obtain ⟨e1,e2,x1,y1,e3⟩:=hls y hy
         exact ⟨e1,e2,x1,y1,by rw [upd_ne e2]; exact s2l y _ e3⟩
       · rw [List.mem_singleton.mp hy]
         exact ⟨s02.free (s2T.free hl),Ne.symm nDl,ci,v',by rw [upd_ne (Ne.symm nDl),upd_same]⟩
     · have nyD : y ≠ D:=ne_of_none hy hD
       rw [upd_ne nyD]
       exact s2l y _ (s02 y _ hy)
end
end Gen
namespace Gen
open PySem L2
def spMachine (K : PySem.W.Frag) : Sp:=fun vs H Q _=>∃ (a z : Addr) (ns : List Int) (s0 s1 s2 s3 : Int),vs = [.ref a,.ref z] ∧ SqL K H a (ns.map V.int) ∧ SzAt K H z s0 s1 s2 s3 ∧ (∃ o,H z = some o) ∧ MachWant Q s0 s1 s3 H
abbrev nMac : List Str:=["_law_script", "_law_sizes", "_law_cells"]
abbrev pMac : List Str:=["_law_script", "_law_sizes"]
theorem scMac : FnScope nMac pMac (defScope sMachine):=⟨rfl,rfl,rfl,by decide +kernel,rfl,by decide +kernel,by decide +kernel⟩
theorem ndKS : (["_law_k", "_law_script"] : List Str).Nodup:=by decide +kernel
abbrev cxMac (P : Program) (w : World) (K : PySem.W.Frag) (mg : Str → Option Value) (base : Heap) (f : Addr) (cdv : Value) (A : Around) (outer : List Env) (s : Shared) (H : Hp) (E : XK) : Cx :=
 (cxOf CX0 P w K mg base nMac "_law_machine" (defScope sMachine) f cdv A outer s H E).nox
theorem MachWant.same {Q : VK} {s0 s1 s3 : Int} {H H1 : Hp} (k : MachWant Q s0 s1 s3 H) (s : Same H H1) : MachWant Q s0 s1 s3 H1:=fun m M names a1 a2 a3 a4 a5 a6 H' ok l1 l0 l2 l3 l4 l5 l6 l7 hM s1=>k m M names a1 a2 a3 a4 a5 a6 H' ok l1 l0 l2 l3 l4 l5 l6 l7 hM (s.trans s1)
section
variable {P : Program} {w : World} {K : PySem.W.Frag} {mg : Str → Option Value} {base : Heap} {fD fC fR : Addr} {dD dC dR : FuncData}
theorem mach_rest (gD : FnOk P w K mg base CX0 4 fD dD pDig (spDigits K)) (mD : mg "_law_machine_digits" = some (.ref fD)) (kD : PySem.W.keepIn K (.ref fD) = true) (bD : Binds K dD pDig [])
 {f : Addr} {cdv : Value} {A : Around} {outer : List Env} {s : Shared} {H : Hp} {E : XK} {Q : VK} (hr : Room 4 (A.deeper (PyProof.Rows.envOfC "_law_machine" (defScope sMachine) s.heap.objs.size f cdv))) :
 ∃ tR : TS,PSs (cxMac P w K mg base f cdv A outer s H E) (List.drop 2 (defBody sMachine)) tR ∧ ∀ (H1 : Hp) (v0 : Option V) (z D : Addr) (c0 c1 c2 s0 s1 s2 s3 : Int),H1 D = some (.lst [.int c0,.int c1,.int c2]) → SzAt K H1 z s0 s1 s2 s3 → (∃ o,H1 z = some o) → MachWant Q s0 s1 s3 H1 →
  tR { nx:=fun _ H'=>Q .non H',rt:=Q } [v0,some (.ref z),some (.ref D)] H1:=by
 refine ⟨_,pss_one (ps_ret (pe_call gD hr rfl mD kD bD .nil pass0 (pa_cons (pe_lst (pa_cons (pe_ix ix_list (pv 2) pe_int (fun _ _=>rfl)) (pa_cons (pe_ix ix_list (pv 2) pe_int (fun _ _=>rfl)) (pa_cons (pe_op op_fdiv (pe_ix ix_list (pv 2) pe_int (fun _ _=>rfl)) pe_int) pa_nil)))) (pa_cons (pv 1) pa_nil)))),?_⟩
 intro H1 v0 z D c0 c1 c2 s0 s1 s2 s3 hD hz hzo kk
 refine ⟨_,rfl,D,_,_,.int c0,rfl,rfl,SqL.of hD,rfl,_,rfl,D,_,_,.int c1,rfl,rfl,SqL.of hD,rfl,_,rfl,D,_,_,.int c2,rfl,rfl,SqL.of hD,rfl,_,_,rfl,rfl,⟨by decide,by decide⟩,(by show 3 ≤ sizeLine; decide),fun p hp=>?_⟩
 have s1' : Same H1 (upd H1 p (.lst [.int c0,.int c1,.int (c2 / 2)])):=Same.upd_new hp
 obtain ⟨o,ho⟩:=hzo
 exact ⟨_,rfl,p,z,c0,c1,c2 / 2,s0,s1,s2,s3,rfl,SqL.of upd_same,hz.same s1',⟨o,s1' z o ho⟩,kk.same s1'⟩
theorem ok_machine {f : Addr} {fd : FuncData} (F : Fun K "_law_machine" "_law_machine" sMachine f fd) (T : Own mg) (gD : FnOk P w K mg base CX0 4 fD dD pDig (spDigits K)) (mD : mg "_law_machine_digits" = some (.ref fD)) (kD : PySem.W.keepIn K (.ref fD) = true) (bD : Binds K dD pDig [])
 (gC : FnOk P w K mg base CX0 1 fC dC ["_law_script", "_law_k"] (spCell K)) (mC : mg "_law_cell_at" = some (.ref fC)) (kC : PySem.W.keepIn K (.ref fC) = true) (bC : Binds K dC ["_law_script", "_law_k"] [])
 (gR : FnOk P w K mg base CX0 2 fR dR ["_law_cell_here", "_law_k"] spRich) (mR : mg "_law_rich" = some (.ref fR)) (kR : PySem.W.keepIn K (.ref fR) = true) (bR : Binds K dR ["_law_cell_here", "_law_k"] []) :
 FnOk P w K mg base CX0 5 f fd pMac (spMachine K):=by
 refine F.ok scMac (fun vs H Q E h=>?_) (fun cdv A outer s H vs Q E hr h=>?_)
 · obtain ⟨a,z,ns,s0,s1,s2,s3,rfl,_⟩:=h
   rfl
 · obtain ⟨a,z,ns,s0,s1,s2,s3,rfl,hS,hz,⟨oz,hzo⟩,kk⟩:=h
   have hr1 : Room 1 _:=hr.mono (by decide)
   have hr2 : Room 2 _:=hr.mono (by decide)
   obtain ⟨tR,hR,rR⟩:=mach_rest gD mD kD bD (outer:=outer) (H:=H) (E:=E) (Q:=Q) hr
   refine ⟨_,pss_cons (ps_lc (i:=2) (N:=["_law_k", "_law_script"]) (js:=[none,some 0]) scMac.nd rfl rfl (by kernel_rfl) rfl (pi_range1 rfl T.range (pa_cons pe_int pa_nil)) (fun _ _ _ _ _ _=>pg_name (i:=0) ndKS rfl (Or.inl rfl) (.inr rfl)) (fun _ _ _ _ _ _=>pifs_nil)
    (fun _ _ _ _ _ _=>pe_call gC hr1 rfl mC kC bC .nil pass0 (pa_cons (pv 1) (pa_cons (pv 0) pa_nil))))
    (pss_cons (ps_if (pt_cmpR op_eq (pe_op op_mod (pe_ix ix_list (pv 2) pe_int (fun _ _=>rfl)) pe_int) pe_int (nomark _))
     (pss_one (ps_lc (i:=2) (N:=["_law_k", "_law_cell_here"]) (js:=[none,none]) (g:=gTup K 2 (gCons (gName 0) (gCons (gName 1) gNil))) scMac.nd rfl rfl (by kernel_rfl) rfl (pi_enum rfl T.enum (pa_cons (pv 2) pa_nil))
      (fun _ _ _ _ _ _=>pg_tup rfl (pgs_cons (pg_name (i:=0) ndKC rfl (Or.inl rfl) (.inr rfl)) (pgs_cons (pg_name (i:=1) ndKC rfl (Or.inl rfl) (.inr rfl)) pgs_nil))) (fun _ _ _ _ _ _=>pifs_nil)
      (fun _ _ _ _ _ _=>pe_call gR hr2 rfl mR kR bR .nil pass0 (pa_cons (pv 1) (pa_cons (pv 0) pa_nil))))) pss_nil) hR),?_⟩
   refine ⟨3,rfl,by decide,by decide,fun D hD=>?_⟩
   have nzD : z ≠ D:=ne_of_none hzo hD
   refine lc_by 3 (fun i acc σ H2=>(∃ cs : List Int,acc = cs.map V.int ∧ cs.length = i) ∧ (∃ v,σ = [v,some (.ref a)]) ∧ H2 = upd H D (.lst acc)) ⟨⟨[],rfl,rfl⟩,⟨none,rfl⟩,rfl⟩ upd_same ?_ ?_
   · rintro acc σ H2 hDD ⟨⟨cs,rfl,hcl⟩,_,rfl⟩
     obtain ⟨c0,c1,c2,rfl⟩ : ∃ c0 c1 c2,cs = [c0,c1,c2]:=by
      match cs,hcl with
      | [c0,c1,c2],_=>exact ⟨c0,c1,c2,rfl⟩
     refine ⟨Nat.le_refl _,?_⟩
     have s01 : Same H (upd H D (.lst [.int c0,.int c1,.int c2])):=Same.upd_new hD
     refine ⟨_,rfl,D,_,_,.int c2,rfl,rfl,SqL.of upd_same,rfl,_,_,rfl,rfl,(by show (0 : Int) < 2; decide),rfl,_,rfl,?_⟩
     refine ite2 (fun _=>?_) (fun _=>?_)
     · refine ⟨_,rfl,D,rfl,⟨_,SqL.of upd_same⟩,fun D2 hD2=>?_⟩
       have nDD : D ≠ D2:=ne_of_none upd_same hD2
       refine lc_by 3 (fun i acc σ H3=>(∃ cs : List Int,acc = cs.map V.int ∧ cs.length = i) ∧ (∃ u v,σ = [u,v]) ∧ Same (upd H D (.lst [.int c0,.int c1,.int c2])) H3) ⟨⟨[],rfl,rfl⟩,⟨none,none,rfl⟩,Same.upd_new hD2⟩ upd_same ?_ ?_
       · rintro acc σ H3 hDD3 ⟨⟨cs,rfl,hcl3⟩,_,s13⟩
         obtain ⟨e0,e1,e2,rfl⟩ : ∃ c0 c1 c2,cs = [c0,c1,c2]:=by
          match cs,hcl3 with
          | [c0,c1,c2],_=>exact ⟨c0,c1,c2,rfl⟩
         refine ⟨⟨_,SqL.of (s13 D _ upd_same),Nat.le_refl _⟩,?_⟩
         have s03:=s01.trans s13
         exact rR H3 _ z D2 e0 e1 e2 s0 s1 s2 s3 hDD3 (hz.same s03) ⟨oz,s03 z oz hzo⟩ (kk.same s03)
       · rintro i acc σ H3 hi hDD3 ⟨⟨cs,rfl,hcl3⟩,⟨u,v,rfl⟩,s13⟩
         obtain ⟨ci,hx⟩ : ∃ ci : Int,[V.int c0,V.int c1,V.int c2][i]? = some (.int ci):=by
          rcases (show i = 0 ∨ i = 1 ∨ i = 2 by omega) with rfl | rfl | rfl
          · exact ⟨_,rfl⟩
          · exact ⟨_,rfl⟩
          · exact ⟨_,rfl⟩
         have hD3 : H3 D = some (.lst [V.int c0,V.int c1,V.int c2]):=s13 D _ upd_same
         refine ⟨⟨_,_,SqL.of hD3,hx⟩,?_⟩
         rintro x H' ⟨Tp,xv,rfl,hTn,rfl,hall⟩
         have ex:=hall _ (SqL.of hD3)
         rw [hx] at ex
         cases ex
         refine ⟨Tp,_,rfl,SqT.of upd_same,rfl,_,_,rfl,_,_,rfl,rfl,yes_if ?_⟩
         have nDT : D2 ≠ Tp:=ne_of_none hDD3 hTn
         refine ⟨_,rfl,_,rfl,_,_,rfl,by omega,by omega,fun v'=>⟨_,(by rw [upd_ne nDT]; exact hDD3),(by rw [List.length_map]; exact small (by omega)),lcW_next hi upd_same ⟨⟨cs ++ [v'],?_,?_⟩,⟨_,_,rfl⟩,fun y o hy=>?_⟩⟩⟩
         · rw [List.map_append]; rfl
         · rw [List.length_append,List.length_singleton,hcl3]
         · have e3:=s13 y o hy
           rw [upd_ne (ne_of_none hy hD2),upd_ne (ne_of_none e3 hTn)]
           exact e3
     · exact rR _ _ z D c0 c1 c2 s0 s1 s2 s3 upd_same (hz.same s01) ⟨oz,s01 z oz hzo⟩ (kk.same s01)
   · rintro i acc σ H2 hi hDD ⟨⟨cs,rfl,hcl⟩,⟨v,rfl⟩,rfl⟩
     refine ⟨hi,?_⟩
     rintro x H' ⟨rfl,rfl⟩
     refine gName_yes ?_
     refine ⟨_,rfl,_,rfl,a,ns,_,rfl,Same.seq (Same.upd_new hD) hS,by omega,fun v'=>⟨_,upd_same,(by rw [List.length_map]; exact small (by omega)),lcW_next hi upd_same ⟨⟨cs ++ [v'],?_,?_⟩,⟨_,rfl⟩,by rw [upd_upd]⟩⟩⟩
     · rw [List.map_append]; rfl
     · rw [List.length_append,List.length_singleton,hcl]
end
end Gen
namespace PySem
open Sem (wp)
theorem el_list_getattr_none : typeLookup (.type "list") "__getattr__" = pure none:=by rw [typeLookup_type,builtinLookup_eq_fast]; kernel_rfl
theorem el_list_keys_none : typeLookup (.type "list") "keys" = pure none:=by rw [typeLookup_type,builtinLookup_eq_fast]; kernel_rfl
theorem el_getattribute_keys {A : Around} {prog : Program} {w : World} {Q : Fin → Shared → Prop} {E : Value → Shared → Prop} {h : Heap} {g d t os} {a : Addr} {items : Array Value} {n : Nat} (u : Tok) (hx : h.get? a = some { cls:=.type "list",data:=.seq items n }) (hh : A.handled = none)
 (hE : ∀ h' tk e,Heap.NewAttrErr h h' e (.ref a) "keys" → E (.ref e) ⟨h',g,d,tk,os⟩) :
 wpAny (model prog w) A (Builtin.«object.__getattribute__» ⟨[.ref a,.str "keys" u],[]⟩) Q E ⟨h,g,d,t,os⟩:=by
 have hT : ∀ t',(⟨h,g,d,t',os⟩ : Shared).TypeIs (.ref a) "list":=fun t'=>⟨_,hx,rfl⟩
 have hTt:=hT t
 have hmiss:=el_list_keys_none
 have hc : [Str.ofString "__module__",Str.ofString "__name__",Str.ofString "__qualname__",Str.ofString "__doc__",Str.ofString "__annotations__"].contains (Str.ofString "keys") = false:=by decide +kernel
 unfold Builtin.«object.__getattribute__»
 repeat (any_goals (first | assumption | wp_step | refine wpAny_ite_false hc ?_))
 all_goals first
  | exact wpAny_raiseAttrError hh hE (attrMsg_fits (by decide +kernel) (by decide))
  | skip
theorem el_call_keys {A : Around} {prog : Program} {w : World} {R : Result → Shared → Prop} {h : Heap} {g d t os} {a : Addr} {items : Array Value} {n : Nat} {u : Tok} (hx : h.get? a = some { cls:=.type "list",data:=.seq items n }) (hh : A.handled = none)
 (hE : ∀ h' tk e,Heap.NewAttrErr h h' e (.ref a) "keys" → R (.error (.ref e)) ⟨h',g,d,tk,os⟩) :
 codeAny (model prog w) A (.call (.builtin "list.__getattribute__") ⟨[.ref a,.str "keys" u],[]⟩) R ⟨h,g,d,t,os⟩ :=
 codeAny_call_builtin F.slot_list_getattribute.plain F.entry_list_ga (F.slot_list_getattribute.check _ _ _ _ _ _ _ _ (show (⟨h,g,d,t,os⟩ : Shared).TypeIs (.ref a) "list" from ⟨_,hx,rfl⟩) (F.args_list_getattribute_2 _ _) (el_getattribute_keys u hx hh hE))
theorem el_keys_none {A : Around} {prog : Program} {w : World} {E : Value → Shared → Prop} {h : Heap} {g d t os} {a : Addr} {items : Array Value} {n : Nat} {Q : Option Value → Shared → Prop} (hx : h.get? a = some { cls:=.type "list",data:=.seq items n }) (hh : A.handled = none)
 (hQ : ∀ h' tk,(∀ b o,h.get? b = some o → h'.get? b = some o) → Q none ⟨h',g,d,tk,os⟩) : wpAny (model prog w) A (getAttr? (.ref a) "keys") Q E ⟨h,g,d,t,os⟩:=by
 have hT : (⟨h,g,d,t,os⟩ : Shared).TypeIs (.ref a) "list":=⟨_,hx,rfl⟩
 have f1:=sub_AttributeError
 have f2:=F.slot_list_getattribute.lookup
 have f3:=F.slot_list_getattribute.bind (.ref a)
 have f5:=el_list_getattr_none
 unfold getAttr? getAttrBy? getAttrBy
 repeat (any_goals (first | assumption | ((with_reducible show codeAny _ _ (Code.call (Value.builtin "list.__getattribute__") _) _ _); refine el_call_keys hx hh ?_; intro h' tk' e hx'; obtain ⟨t1,u1,he⟩:=hx'.there) | wp_step))
 exact hQ h' tk' hx'.keeps
end PySem
namespace PySem
open Sem (wp)
namespace F
theorem el_entry_update_loop : entryFor table "dict.update.loop" = some Builtin.«dict.update.loop»:=entryFor_of_tree (by kernel_rfl)
theorem el_plain_update_loop : plainId "dict.update.loop" = true:=by decide +kernel
end F
section
variable {prog : Program} {w : World} {K : Type} [DecidableEq K] {knd : KeyKind prog w K} {A : Around} {R : Result → Shared → Prop}
def PairAt (knd : KeyKind prog w K) (h : Heap) (u : Value) (kv : K × Value) : Prop:=∃ t key,u = .ref t ∧ h.IsTuple t #[key,kv.2] ∧ knd.is kv.1 key = true
theorem el_update_loop {d it l : Addr} {items : Array Value} {kvs : List (K × Value)} (hdi : d ≠ it) (hdl : d ≠ l) (hil : l ≠ it) (hz : kvs.length ≤ sizeLine) (hh : A.handled = none) :
 ∀ (k i : Nat) (s : Shared) (tk : Tok) (acc : List (K × Value)),items.size - i = k → i ≤ items.size → kvs.length = items.size → s.heap.IsListIter it l i → s.heap.IsList l items → s.heap.DictOf knd d acc → acc.length ≤ i →
 (∀ (j : Nat) (u : Value) (kv : K × Value),items[j]? = some u → kvs[j]? = some kv → PairAt knd s.heap u kv ∧ (∀ t,u = .ref t → t ≠ d ∧ t ≠ it)) →
 (∀ h' tk,h'.DictOf knd d ((kvs.drop i).foldl (fun a kv=>stored a kv.1 kv.2) acc) → (∀ b o,b ≠ d → b ≠ it → s.heap.get? b = some o → h'.get? b = some o) → R (.ok (.ret .none)) { s with heap:=h',toks:=tk }) →
 codeAny (model prog w) A (.builtin "dict.update.loop" ⟨[.ref d,.ref it,.int (i : Int) tk,.none],[]⟩) R s:=by
 intro k
 induction k with
 | zero =>
  intro i s tk acc hk hi hlen hit hl hd hacc hp hR
  have hin : i = items.size:=by omega
  refine codeAny_builtin F.el_entry_update_loop ?_
  rw [Around.under_plainId F.el_plain_update_loop _]
  show wpAny _ A.in1 (pyNext (.ref it) >>= _) _ _ s
  refine wpAny_bind (wpAny_pyNext_list_end (A:=A.in1) hh hit hl (Array.getElem?_eq_none (by omega)) fun h' he=>?_)
  refine wpAny_bind (wpAny_pure (wpAny_pure ?_))
  have hd' : h'.DictOf knd d acc:=let ⟨o,es,ep,ho,r⟩:=hd; ⟨o,es,ep,he d o hdi ho,r⟩
  refine hR h' s.toks ?_ fun b o _ hb e=>he b o hb e
  rw [List.drop_of_length_le (by omega)]
  exact hd'
 | succ k ih =>
  intro i s tk acc hk hi hlen hit hl hd hacc hp hR
  have hlt : i < items.size:=by omega
  have hx : items[i]? = some items[i]:=Array.getElem?_eq_getElem hlt
  have hkv : kvs[i]? = some kvs[i]:=List.getElem?_eq_getElem (by omega)
  obtain ⟨⟨t,key,ht,htup,hkey⟩,hne⟩:=hp i _ _ hx hkv
  obtain ⟨ntd,nti⟩:=hne t ht
  refine codeAny_builtin F.el_entry_update_loop ?_
  rw [Around.under_plainId F.el_plain_update_loop _]
  show wpAny _ A.in1 (pyNext (.ref it) >>= _) _ _ s
  refine wpAny_bind (wpAny_pyNext_list_item hit hl hx fun h1 hit1 hs1=>?_)
  rw [ht]
  have htup1 : h1.IsTuple t #[key,(kvs[i]).2]:=let ⟨o,e,r⟩:=htup; ⟨o,(hs1.2 t nti).trans e,r⟩
  refine wpAny_bind (wpAny_holding (wpAny_bind ?_))
  refine wpAny_tryCatch ?_
  unfold Builtin.Dict.pairItems
  obtain ⟨ot,e1,hc1,n1,hd1⟩:=id htup1
  refine wpAny_bind (wpAny_typeOf (show ({ s with heap:=h1 } : Shared).TypeIs (.ref t) "tuple" from ⟨ot,e1,hc1⟩) ?_)
  rw [if_pos (by decide)]
  refine wpAny_bind (wpAny_seqItems e1 hd1 (wpAny_pure ?_))
  show wpAny _ A.in1 (holding [key,(kvs[i]).2] (dictSet d key (kvs[i]).2)) _ _ _
  refine wpAny_holding ?_
  unfold dictSet
  try with_reducible refine wpAny_holding ?_
  have hdd : h1.DictOf knd d acc:=let ⟨o,es,ep,ho,r⟩:=hd; ⟨o,es,ep,(hs1.2 d hdi).trans ho,r⟩
  refine wpAny_bind (knd.pyHash hkey ?_)
  refine wpAny_dictSetHashed_pairs hkey hdd (fun h2 hd2 hs2=>?_) (by omega)
  refine wpAny_pure ⟨plainId_quiet F.el_plain_update_loop _,?_⟩
  have er : rawInt ((i : Int) + 1) = Value.int (((i + 1 : Nat) : Nat) : Int) 0:=by simp [rawInt]
  rw [er]
  have keep : ∀ b o,b ≠ d → b ≠ it → s.heap.get? b = some o → h2.get? b = some o:=fun b o b1 b2 e=>(hs2.2 b b1).trans ((hs1.2 b b2).trans e)
  refine ih (i + 1) _ 0 (stored acc (kvs[i]).1 (kvs[i]).2) (by omega) (by omega) hlen ?_ ?_ hd2 ?_ ?_ ?_
  · obtain ⟨o,e,r⟩:=hit1
    exact ⟨o,(hs2.2 it (Ne.symm hdi)).trans e,r⟩
  · obtain ⟨o,e,r⟩:=hl
    exact ⟨o,keep l o (Ne.symm hdl) hil e,r⟩
  · have:=stored_length_le acc (kvs[i]).1 (kvs[i]).2
    omega
  · intro j u kv hu hkv'
    obtain ⟨⟨t',key',e',ht',hk'⟩,hne'⟩:=hp j u kv hu hkv'
    obtain ⟨a1,a2⟩:=hne' t' e'
    obtain ⟨o,e,r⟩:=ht'
    exact ⟨⟨t',key',e',⟨o,keep t' o a1 a2 e,r⟩,hk'⟩,hne'⟩
  · intro h' tk' hd' hk'
    refine hR h' tk' ?_ fun b o b1 b2 e=>hk' b o b1 b2 (keep b o b1 b2 e)
    rw [List.drop_eq_getElem_cons (by omega),List.foldl_cons]
    exact hd'
end
section
variable {prog : Program} {w : World} {K : Type} [DecidableEq K] {knd : KeyKind prog w K} {A : Around} {E : Value → Shared → Prop} {s : Shared}
theorem el_call_dict {l : Addr} {items : Array Value} {n : Nat} {kvs : List (K × Value)} {Q : Value → Shared → Prop} (hh : A.handled = none) (hl : s.heap.get? l = some { cls:=.type "list",data:=.seq items n }) (hlen : kvs.length = items.size) (hz : kvs.length ≤ sizeLine)
 (hp : ∀ (j : Nat) (u : Value) (kv : K × Value),items[j]? = some u → kvs[j]? = some kv → PairAt knd s.heap u kv)
 (h : ∀ h' tk,h'.DictOf knd s.heap.objs.size (merged [] kvs) → (∀ b o,s.heap.get? b = some o → h'.get? b = some o) → Q (.ref s.heap.objs.size) { s with heap:=h',toks:=tk }) :
 wpAny (model prog w) A (call (.type "dict") [.ref l]) Q E s:=by
 refine callType_codes (Q₁:=fun obj s₁=>obj = .ref s.heap.objs.size ∧ s₁ = { s with heap:=s.heap.push { cls:=.type "dict",data:=.dict #[] } }) F.kt_called_dict (F.kt_typeCall_dict_1 _) F.entry_dict_init (kt_code_dict_new _ ⟨rfl,rfl⟩) ?_
 rintro obj s₁ ⟨rfl,rfl⟩
 have hnew : (s.heap.push { cls:=.type "dict",data:=.dict #[] }).DictOf knd s.heap.objs.size []:=Heap.DictOf.new s.heap
 have hl' : (s.heap.push { cls:=.type "dict",data:=.dict #[] }).get? l = some { cls:=.type "list",data:=.seq items n }:=Heap.get?_push_of_some _ hl
 refine ⟨hnew.typeIs,F.args_dict_init_2 _ _,?_⟩
 unfold Builtin.«dict.__init__»
 refine wpAny_bind ?_
 unfold Builtin.Dict.selfAndRest
 refine wpAny_bind (wpAny_notOrdered_dict hnew.typeIs ?_)
 show wpAny _ _ (pure (s.heap.objs.size,[Value.ref l])) _ _ _
 refine wpAny_pure ?_
 show wpAny _ _ (Builtin.Dict.updateFrom "dict.__init__" s.heap.objs.size (.ref l) [] .none) _ _ _
 unfold Builtin.Dict.updateFrom
 refine wpAny_bind (wpAny_typeOf (show ({ s with heap:=s.heap.push { cls:=.type "dict",data:=.dict #[] } } : Shared).TypeIs (.ref l) "list" from ⟨_,hl',rfl⟩) ?_)
 rw [if_pos (by decide)]
 generalize hs1 : ({ s with heap:=s.heap.push { cls:=.type "dict",data:=.dict #[] } } : Shared) = s1 at *
 obtain ⟨g1,g2,g3,g4,g5⟩:=s1
 cases hs1
 refine wpAny_bind (el_keys_none hl' (by first | exact hh | rfl) fun h2 tk2 k2=>?_)
 rw [if_pos (show (none : Option Value).isNone = true from rfl)]
 have hl2 : h2.get? l = some { cls:=.type "list",data:=.seq items n }:=k2 _ _ hl'
 have lt2 : ∀ b o,(s.heap.push { cls:=.type "dict",data:=.dict #[] }).get? b = some o → b < h2.objs.size:=fun b o e=>Heap.lt_size (k2 b o e)
 refine wpAny_bind (wpAny_rule (wpAny_bind (wpAny_pyIter_list (s:={ heap:=h2,gens:=s.gens,drawn:=s.drawn,toks:=tk2,os:=s.os }) (items:=items) ⟨_,hl2,rfl,n,rfl⟩ ?_)))
 refine wpAny_pure ⟨plainId_quiet F.el_plain_update_loop _,?_⟩
 have hd2 : h2.DictOf knd s.heap.objs.size []:=let ⟨o,es,ep,ho,r⟩:=hnew; ⟨o,es,ep,k2 _ _ ho,r⟩
 have hdl : s.heap.objs.size < h2.objs.size:=let ⟨o,es,ep,ho,r⟩:=hnew; lt2 _ _ ho
 have hll : l < s.heap.objs.size:=Heap.lt_size hl
 refine el_update_loop (knd:=knd) (d:=s.heap.objs.size) (it:=h2.objs.size) (l:=l) (items:=items) (kvs:=kvs) (Nat.ne_of_lt hdl) (Nat.ne_of_gt hll) (Nat.ne_of_lt (Nat.lt_trans hll hdl)) hz (by first | exact hh | rfl) items.size 0 _ 0 [] rfl (Nat.zero_le _) hlen
  ⟨_,Heap.get?_push_size _ rfl,rfl,rfl⟩ ⟨_,Heap.get?_push_of_some _ hl2,rfl,n,rfl⟩ ?_ (Nat.le_refl _) ?_ ?_
 · obtain ⟨o,es,ep,ho,r⟩:=hd2
   exact ⟨o,es,ep,Heap.get?_push_of_some _ ho,r⟩
 · intro j u kv hu hkv
   obtain ⟨t,key,e,⟨o,eo,r⟩,hk⟩:=hp j u kv hu hkv
   have ht : t < s.heap.objs.size:=Heap.lt_size eo
   refine ⟨⟨t,key,e,⟨o,Heap.get?_push_of_some _ (k2 _ _ (Heap.get?_push_of_some _ eo)),r⟩,hk⟩,fun t' e'=>?_⟩
   rw [e] at e'
   cases e'
   exact ⟨Nat.ne_of_lt ht,Nat.ne_of_lt (Nat.lt_trans ht hdl)⟩
 · intro h' tk' hd' hk'
   refine ⟨rfl,h h' tk' ?_ fun b o e=>?_⟩
   · simpa [merged] using hd'
   · have hb : b < s.heap.objs.size:=Heap.lt_size e
     exact hk' b o (Nat.ne_of_lt hb) (Nat.ne_of_lt (Nat.lt_trans hb hdl)) (Heap.get?_push_of_some _ (k2 _ _ (Heap.get?_push_of_some _ e)))
end
end PySem
namespace L2
open PySem PySem.Spec PyProof.Rows
section
variable {X : Cx}
theorem pairs_at {P : Program} {w : World} {H : Hp} {h : Heap} (ok : HOk P w H h) : ∀ {ts : List Addr} {kvs : List (Key × V)} {us : List Value},Paired (fun t kv=>H t = some (.tup [kV kv.1,kv.2])) ts kvs → Vals (ts.map V.ref) us →
 ∃ vs : List (Key × Value),KV kvs vs ∧ Paired (fun u kv=>PairAt (mixKind P w) h u kv) us vs
 | [],[],us,.nil,r=>by
  cases r
  exact ⟨[],.nil,.nil⟩
 | t :: ts,kv :: kvs,us,.cons e p,r=>by
  cases r with
  | @cons _ u _ us' ru r' =>
   obtain ⟨vs,k1,k2⟩:=pairs_at ok p r'
   cases (show u = Value.ref t from ru)
   obtain ⟨_,its,rv,ip⟩:=(show ObjOk P w H h t (.tup [kV kv.1,kv.2]) from ok t _ e)
   obtain ⟨key,val,rfl,rk,rl⟩:=vals2 rv
   exact ⟨(kv.1,val) :: vs,.cons ⟨rfl,rl⟩ k1,.cons ⟨t,key,rfl,ip,kV_is rk⟩ k2⟩
theorem paired_both {α β : Type} {F : α → β → Prop} : ∀ {l₁ : List α} {l₂ : List β} {i : Nat} {a : α} {b : β},Paired F l₁ l₂ → l₁[i]? = some a → l₂[i]? = some b → F a b
 | _,_,i,a,b,.nil,h,_=>by simp at h
 | _,_,0,a,b,.cons h t,e1,e2=>by
  simp at e1 e2
  subst e1 e2
  exact h
 | _,_,i + 1,a,b,.cons h t,e1,e2=>paired_both (i:=i) t (by simpa using e1) (by simpa using e2)
theorem call_dict_pairs (hc : X.calm = true) : CallR X (.type "dict") (fun xs H Q=>∃ p ts kvs,xs = [.ref p] ∧ H p = some (.lst (ts.map V.ref)) ∧ Paired (fun t kv=>H t = some (.tup [kV kv.1,kv.2])) ts kvs ∧ ∀ d,H d = none → Q (.ref d) (upd H d (.dK (mergeK [] kvs)))):=by
 intro pins s σ H xs us Q I r h
 obtain ⟨p,ts,kvs,rfl,hp,hT,q⟩:=h
 obtain ⟨u,rfl,rx⟩:=vals1 r
 cases (show u = Value.ref p from rx)
 obtain ⟨hz,its,n,rv,e⟩:=(show ObjOk X.prog X.w H s.heap p (.lst (ts.map V.ref)) from I.hok p _ hp)
 obtain ⟨vs,kv,pv⟩:=pairs_at I.hok hT rv
 have l1 : vs.length = its.toArray.size:=by rw [List.size_toArray]; exact pv.length.symm
 have l2 : kvs.length = vs.length:=kv.length
 have l3 : vs.length ≤ sizeLine:=by
  have:=hT.length
  rw [List.length_map] at hz
  omega
 refine el_call_dict (knd:=mixKind X.prog X.w) (kvs:=vs) (I.ok.hd hc) e l1 l3 (fun j u kv hu hkv=>paired_both pv (by simpa using hu) hkv) fun h' tk dd kk=>?_
 refine ⟨.ref s.heap.objs.size,_,I.laid (a:=s.heap.objs.size) (o:=.dK (mergeK [] kvs)) kk (Nat.le_refl _) (dk_new ?_ (beq_eq_false_iff_ne.mpr (Ne.symm (Nat.ne_of_lt I.big))) (KV.merge kv .nil) dd),rfl,q _ (I.hok.fresh (Nat.le_refl _))⟩
 have:=length_mergeK kvs []
 simp at this
 omega
theorem call_isinst : CallR X (.builtin "isinstance") (fun xs H Q=>∃ x t c b,xs = [x,.ty c] ∧ TyOf X.K H x t ∧ PySem.W.kitOne X.K t (.type c) = some b ∧ Q (.bl b) H):=by
 intro pins s σ H xs us Q I r h
 obtain ⟨x,t,c,b,rfl,ty,e,q⟩:=h
 obtain ⟨u,v,rfl,rx,ry⟩:=vals2 r
 cases (show v = Value.type c from ry)
 exact isinst_ok I rx ty e fun tk=>⟨.bl b,H,I.tok _,rfl,q⟩
end
section
variable {X : Cx} {pins : List (Addr × Obj)} {σ : St} {H : Hp} {s : Shared} {d : Addr} {kvs : List (Key × V)}
end
section
variable {X : Cx}
end
end L2
namespace PySem
open Sem (wp)
section
variable {prog : Program} {w : World} {A : Around} {E : Value → Shared → Prop} {s : Shared}
theorem zz_nextOf_tuple_item {it t : Addr} {i : Nat} {items} {x : Value} {Q : Value → Shared → Prop} (hit : s.heap.IsTupleIter it t i) (ht : s.heap.IsTuple t items) (hx : items[i]? = some x)
 (hQ : ∀ h',h'.IsTupleIter it t (i + 1) → Heap.SameBut it s.heap h' → Q x { s with heap:=h' }) : wpAny (model prog w) A (Builtin.SmallTypes.nextOf (.ref it)) Q E s:=by
 obtain ⟨o,ho,hc,hd⟩:=id hit
 obtain ⟨ol,hol,_,nl,hdl⟩:=ht
 unfold Builtin.SmallTypes.nextOf
 refine wpAny_bind (wpAny_callSpecial?_slot (name:=Str.ofString "__next__") hit.typeIs F.slot_tuple_iterator_next (wpAny_call_entry F.slot_tuple_iterator_next hit.typeIs F.entry_tuple_iterator_next ?_ (F.args_tuple_iterator_next_1 _)))
 show wpAny _ _ (field (.ref it) 0 >>= _) _ _ s
 refine wpAny_bind (wpAny_field ho hd (x:=.ref t) rfl ?_)
 show wpAny _ _ (if (Value.ref t == Value.none) = true then _ else _) _ _ s
 rw [if_neg (show ¬ ((Value.ref t == Value.none) = true) from Bool.false_ne_true)]
 show wpAny _ _ (field (.ref it) 1 >>= _) _ _ s
 refine wpAny_bind (wpAny_field ho hd (x:=.int i 0) rfl ?_)
 show wpAny _ _ (seqItems? (.ref t) >>= _) _ _ s
 refine wpAny_bind (wpAny_seqItems hol hdl ?_)
 simp only [Int.toNat_natCast,hx]
 refine wpAny_bind (wpAny_setField ho hd (by simp) (wpAny_pure ⟨x,rfl,wpAny_pure (hQ _ ?_ (Heap.SameBut.update ..))⟩))
 exact ⟨_,Heap.get?_update_self _ ho (Obj.isFreed_of_fields (Obj.data_mapFields hd _)),(Obj.cls_mapFields ..).trans hc,by rw [Obj.data_mapFields hd]; simp [rawInt]⟩
theorem zz_nextOf_tuple_end {it t : Addr} {i : Nat} {items} {Q : Value → Shared → Prop} (hh : A.handled = none) (hit : s.heap.IsTupleIter it t i) (ht : s.heap.IsTuple t items) (hx : items[i]? = none)
 (hE : ∀ h' e,Heap.ExtBut it s.heap h' → (∃ o,h'.get? e = some o ∧ o.cls = .type "StopIteration") → E (.ref e) { s with heap:=h' }) : wpAny (model prog w) A (Builtin.SmallTypes.nextOf (.ref it)) Q E s:=by
 obtain ⟨o,ho,hc,hd⟩:=id hit
 obtain ⟨ol,hol,_,nl,hdl⟩:=ht
 unfold Builtin.SmallTypes.nextOf
 refine wpAny_bind (wpAny_callSpecial?_slot (name:=Str.ofString "__next__") hit.typeIs F.slot_tuple_iterator_next (wpAny_call_entry F.slot_tuple_iterator_next hit.typeIs F.entry_tuple_iterator_next ?_ (F.args_tuple_iterator_next_1 _)))
 show wpAny _ _ (field (.ref it) 0 >>= _) _ _ s
 refine wpAny_bind (wpAny_field ho hd (x:=.ref t) rfl ?_)
 show wpAny _ _ (if (Value.ref t == Value.none) = true then _ else _) _ _ s
 rw [if_neg (show ¬ ((Value.ref t == Value.none) = true) from Bool.false_ne_true)]
 show wpAny _ _ (field (.ref it) 1 >>= _) _ _ s
 refine wpAny_bind (wpAny_field ho hd (x:=.int i 0) rfl ?_)
 show wpAny _ _ (seqItems? (.ref t) >>= _) _ _ s
 refine wpAny_bind (wpAny_seqItems hol hdl ?_)
 simp only [Int.toNat_natCast,hx]
 refine wpAny_bind (wpAny_rule (wpAny_bind (wpAny_setField ho hd (by simp) ?_)))
 show wpAny _ _ (newExc (.type "StopIteration") [] >>= _) _ _ _
 refine wpAny_bind ?_
 simp only [newExc,newTuple]
 refine wpAny_bind (wpAny_newObj_type ?_ (by size_fits))
 refine wpAny_bind (m:=firstArgMember _ _) (wpAny_of_eq (a:=Value.none) (by first | rfl | (simp only [firstArgMember]; rfl)) ?_)
 refine wpAny_newObj_type ?_ (by size_fits)
 simp only [raiseNew]
 refine wpAny_bind (wpAny_handled ?_)
 first | rw [show A.in1.handled = none from hh] | rw [hh]
 refine wpAny_bind (wpAny_pure (wpAny_throw ?_))
 exact hE _ _ (((Heap.SameBut.update ..).extBut.push _).push _) ⟨_,Heap.get?_push_size _ rfl,rfl⟩
end
def ZSq (tp : Bool) (h : Heap) (l : Addr) (xs : Array Value) : Prop:=match tp with | true=>h.IsTuple l xs | false=>h.IsList l xs
def ZIt (tp : Bool) (h : Heap) (i l : Addr) (k : Nat) : Prop:=match tp with | true=>h.IsTupleIter i l k | false=>h.IsListIter i l k
theorem ZSq.at {tp : Bool} {h h' : Heap} {l : Addr} {xs : Array Value} (x : ZSq tp h l xs) (k : ∀ o,h.get? l = some o → h'.get? l = some o) : ZSq tp h' l xs:=by
 cases tp <;> (obtain ⟨o,e,r⟩:=x; exact ⟨o,k o e,r⟩)
theorem ZIt.at {tp : Bool} {h h' : Heap} {i l : Addr} {n : Nat} (x : ZIt tp h i l n) (k : ∀ o,h.get? i = some o → h'.get? i = some o) : ZIt tp h' i l n:=by
 cases tp <;> (obtain ⟨o,e,r⟩:=x; exact ⟨o,k o e,r⟩)
theorem ZIt.there {tp : Bool} {h : Heap} {i l : Addr} {n : Nat} (x : ZIt tp h i l n) : ∃ o,h.get? i = some o ∧ ∃ vs,o.data = .fields vs:=by
 cases tp <;> (obtain ⟨o,e,c,d⟩:=x; exact ⟨o,e,_,d⟩)
section
variable {prog : Program} {w : World} {A : Around} {E : Value → Shared → Prop} {s : Shared} {tp : Bool}
theorem zz_item {it l : Addr} {i : Nat} {items} {x : Value} {Q : Value → Shared → Prop} (hit : ZIt tp s.heap it l i) (hl : ZSq tp s.heap l items) (hx : items[i]? = some x)
 (hQ : ∀ h',ZIt tp h' it l (i + 1) → Heap.SameBut it s.heap h' → Q x { s with heap:=h' }) : wpAny (model prog w) A (Builtin.SmallTypes.nextOf (.ref it)) Q E s:=by
 cases tp
 · exact wpAny_nextOf_list_item hit hl hx hQ
 · exact zz_nextOf_tuple_item hit hl hx hQ
theorem zz_end {it l : Addr} {i : Nat} {items} {Q : Value → Shared → Prop} (hh : A.handled = none) (hit : ZIt tp s.heap it l i) (hl : ZSq tp s.heap l items) (hx : items[i]? = none)
 (hE : ∀ h' e,Heap.ExtBut it s.heap h' → (∃ o,h'.get? e = some o ∧ o.cls = .type "StopIteration") → E (.ref e) { s with heap:=h' }) : wpAny (model prog w) A (Builtin.SmallTypes.nextOf (.ref it)) Q E s:=by
 cases tp
 · exact wpAny_nextOf_list_end hh hit hl hx hE
 · exact zz_nextOf_tuple_end hh hit hl hx hE
theorem zz_next {z TI TO i1 i2 l1 l2 : Addr} {k : Nat} {xs ys : Array Value} {x y a b : Value} {Q : Option Value → Shared → Prop} (nd : [z,TI,TO,i1,i2].Nodup) (n1 : l1 ∉ [z,TI,TO,i1,i2]) (n2 : l2 ∉ [z,TI,TO,i1,i2])
 (hz : IsZip s.heap z TI TO .none) (hTI : IsPair s.heap TI (.ref i1) (.ref i2)) (hTO : IsPair s.heap TO a b) (h1 : ZIt tp s.heap i1 l1 k) (h2 : ZIt tp s.heap i2 l2 k) (hl1 : ZSq tp s.heap l1 xs) (hl2 : ZSq tp s.heap l2 ys) (hx : xs[k]? = some x) (hy : ys[k]? = some y)
 (hQ : ∀ h',IsZip h' z TI TO (rawInt s.heap.objs.size) → IsPair h' TO x y → ZIt tp h' i1 l1 (k + 1) → ZIt tp h' i2 l2 (k + 1) → IsPair h' s.heap.objs.size x y →
  (∀ c o,c ≠ z → c ≠ TO → c ≠ i1 → c ≠ i2 → s.heap.get? c = some o → h'.get? c = some o) → Q (some (.ref s.heap.objs.size)) { s with heap:=h' }) : wpAny (model prog w) A (pyNext (.ref z)) Q E s:=by
 simp only [List.nodup_cons,List.mem_cons,List.not_mem_nil,or_false,not_or] at nd n1 n2
 obtain ⟨⟨zTI,zTO,zi1,zi2⟩,⟨TITO,TIi1,TIi2⟩,⟨TOi1,TOi2⟩,i12,_⟩:=nd
 obtain ⟨l1z,l1TI,l1TO,l1i1,l1i2⟩:=n1
 obtain ⟨l2z,l2TI,l2TO,l2i1,l2i2⟩:=n2
 have hT : s.TypeIs (.ref z) "zip":=⟨_,hz,rfl⟩
 unfold pyNext
 refine wpAny_bind (wpAny_attempt (wpAny_callSpecial?_slot (name:=Str.ofString "__next__") hT F.slot_zip_next (wpAny_call_entry F.slot_zip_next hT F.entry_zip_next ?_ (F.args_zip_next_1 _))))
 show wpAny _ _ (field (.ref z) 2 >>= _) _ _ _
 refine wpAny_bind (wpAny_field hz rfl (x:=.bool false) rfl ?_)
 show wpAny _ _ (field (.ref z) 3 >>= _) _ _ _
 refine wpAny_bind (wpAny_field hz rfl (x:=.ref TI) rfl ?_)
 refine wpAny_bind (wpAny_seqItems hTI rfl ?_)
 show wpAny _ _ (Builtin.SmallTypes.ownedTupleIsFree (.ref z) >>= _) _ _ _
 refine wpAny_bind ?_
 unfold Builtin.SmallTypes.ownedTupleIsFree
 refine wpAny_bind (wpAny_field hz rfl (x:=.none) rfl (wpAny_pure ?_))
 simp only [if_true]
 refine wpAny_bind (wpAny_rule ?_)
 refine wpAny_bind (wpAny_field hz rfl (x:=.ref TO) rfl ?_)
 refine wpAny_bind (wpAny_setField_rec hz (by simp) fun h₁ hz₁ hs₁=>?_)
 replace hz₁ : IsZip h₁ z TI TO .ellipsis:=hz₁
 refine wpAny_bind ?_
 simp only [List.zipIdx_cons,List.zipIdx_nil,List.forIn_cons,List.forIn_nil]
 have k1 : ∀ c o,c ≠ z → s.heap.get? c = some o → h₁.get? c = some o:=fun c o n e=>hs₁.extBut _ _ n e
 refine wpAny_bind (wpAny_bind (wpAny_onRaise ?_))
 show wpAny _ _ (Builtin.SmallTypes.nextOf (.ref i1) >>= _) _ _ _
 refine wpAny_bind (zz_item (h1.at fun o e=>k1 _ o (Ne.symm zi1) e) (hl1.at fun o e=>k1 _ o l1z e) hx fun h₂ h1₂ hs₂=>wpAny_pure ?_)
 have k2 : ∀ c o,c ≠ i1 → h₁.get? c = some o → h₂.get? c = some o:=fun c o n e=>hs₂.extBut _ _ n e
 have hTO₂ : IsPair h₂ TO a b:=k2 _ _ TOi1 (k1 _ _ (Ne.symm zTO) hTO)
 refine wpAny_bind (wpAny_seqItems hTO₂ rfl ?_)
 refine wpAny_bind (wpAny_updateSeq_pair hTO₂ fun h₃ hTO₃ hs₃=>?_)
 replace hTO₃ : IsPair h₃ TO x b:=hTO₃
 have k3 : ∀ c o,c ≠ TO → h₂.get? c = some o → h₃.get? c = some o:=fun c o n e=>hs₃.extBut _ _ n e
 refine wpAny_bind (wpAny_letGo (wpAny_pure ?_))
 refine wpAny_bind (wpAny_bind (wpAny_onRaise ?_))
 show wpAny _ _ (Builtin.SmallTypes.nextOf (.ref i2) >>= _) _ _ _
 refine wpAny_bind (zz_item (h2.at fun o e=>k3 _ o (Ne.symm TOi2) (k2 _ o (Ne.symm i12) (k1 _ o (Ne.symm zi2) e))) (hl2.at fun o e=>k3 _ o l2TO (k2 _ o l2i1 (k1 _ o l2z e))) hy fun h₄ h2₄ hs₄=>wpAny_pure ?_)
 have k4 : ∀ c o,c ≠ i2 → h₃.get? c = some o → h₄.get? c = some o:=fun c o n e=>hs₄.extBut _ _ n e
 have hTO₄ : IsPair h₄ TO x b:=k4 _ _ TOi2 hTO₃
 refine wpAny_bind (wpAny_seqItems hTO₄ rfl ?_)
 refine wpAny_bind (wpAny_updateSeq_pair hTO₄ fun h₅ hTO₅ hs₅=>?_)
 replace hTO₅ : IsPair h₅ TO x y:=hTO₅
 have k5 : ∀ c o,c ≠ TO → h₄.get? c = some o → h₅.get? c = some o:=fun c o n e=>hs₅.extBut _ _ n e
 refine wpAny_bind (wpAny_letGo (wpAny_pure (wpAny_pure ?_)))
 refine wpAny_bind (wpAny_seqItems hTO₅ rfl ?_)
 refine wpAny_bind (wpAny_newTuple ?_)
 have hsz : h₅.objs.size = s.heap.objs.size:=by rw [hs₅.1,hs₄.1,hs₃.1,hs₂.1,hs₁.1]
 have hz₅ : IsZip h₅ z TI TO .ellipsis:=k5 _ _ zTO (k4 _ _ zi2 (k3 _ _ zTO (k2 _ _ zi1 hz₁)))
 have hk₅ : ∀ c o,c ≠ z → c ≠ TO → c ≠ i1 → c ≠ i2 → s.heap.get? c = some o → h₅.get? c = some o:=fun c o c1 c2 c3 c4 e=>k5 _ _ c2 (k4 _ _ c4 (k3 _ _ c2 (k2 _ _ c3 (k1 _ _ c1 e))))
 have h1₅ : ZIt tp h₅ i1 l1 (k + 1):=h1₂.at fun o e=>k5 _ _ (Ne.symm TOi1) (k4 _ _ i12 (k3 _ _ (Ne.symm TOi1) e))
 have h2₅ : ZIt tp h₅ i2 l2 (k + 1):=h2₄.at fun o e=>k5 _ _ (Ne.symm TOi2) e
 have hzlt : z < h₅.objs.size:=Heap.lt_size hz₅
 show wpAny _ _ (Builtin.SmallTypes.ownedTupleHandOut (.ref z) (.ref h₅.objs.size) >>= _) _ _ _
 refine wpAny_bind ?_
 unfold Builtin.SmallTypes.ownedTupleHandOut
 have hz₆ : IsZip (h₅.push { cls:=.type "tuple",data:=.seq #[x,y] }) z TI TO .ellipsis:=Heap.get?_push_of_some _ hz₅
 refine wpAny_bind (wpAny_setField_rec hz₆ (by simp) fun h₇ hz₇ hs₇=>?_)
 replace hz₇ : IsZip h₇ z TI TO (rawInt h₅.objs.size):=hz₇
 refine wpAny_setField_rec hz₇ (by simp) fun h₈ hz₈ hs₈=>?_
 replace hz₈ : IsZip h₈ z TI TO (rawInt h₅.objs.size):=hz₈
 have up : ∀ c o,c ≠ z → h₅.get? c = some o → h₈.get? c = some o:=fun c o c1 e=>hs₈.extBut _ _ c1 (hs₇.extBut _ _ c1 (Heap.get?_push_of_some _ e))
 have hT₈ : IsPair h₈ h₅.objs.size x y:=hs₈.extBut _ _ (Nat.ne_of_gt hzlt) (hs₇.extBut _ _ (Nat.ne_of_gt hzlt) (Heap.get?_push_size _ rfl))
 rw [hsz] at hz₈ hT₈
 refine wpAny_pure ⟨.ref h₅.objs.size,rfl,wpAny_pure ?_⟩
 rw [hsz]
 exact hQ h₈ hz₈ (up _ _ (Ne.symm zTO) hTO₅) (h1₅.at fun o e=>up _ o (Ne.symm zi1) e) (h2₅.at fun o e=>up _ o (Ne.symm zi2) e) hT₈ fun c o c1 c2 c3 c4 e=>up c o c1 (hk₅ c o c1 c2 c3 c4 e)
theorem zz_last {z TI TO i1 i2 l1 : Addr} {k : Nat} {xs : Array Value} {a b : Value} {Q : Option Value → Shared → Prop} (hh : A.handled = none) (nd : [z,TI,TO,i1,i2].Nodup) (n1 : l1 ∉ [z,TI,TO,i1,i2])
 (hz : IsZip s.heap z TI TO .none) (hTI : IsPair s.heap TI (.ref i1) (.ref i2)) (h1 : ZIt tp s.heap i1 l1 k) (hl1 : ZSq tp s.heap l1 xs) (hx : xs[k]? = none)
 (hQ : ∀ h',(∀ c o,c ≠ z → c ≠ TO → c ≠ i1 → c ≠ i2 → s.heap.get? c = some o → h'.get? c = some o) → Q none { s with heap:=h' }) : wpAny (model prog w) A (pyNext (.ref z)) Q E s:=by
 simp only [List.nodup_cons,List.mem_cons,List.not_mem_nil,or_false,not_or] at nd n1
 obtain ⟨⟨zTI,zTO,zi1,zi2⟩,⟨TITO,TIi1,TIi2⟩,⟨TOi1,TOi2⟩,i12,_⟩:=nd
 obtain ⟨l1z,l1TI,l1TO,l1i1,l1i2⟩:=n1
 have hT : s.TypeIs (.ref z) "zip":=⟨_,hz,rfl⟩
 unfold pyNext
 refine wpAny_bind (wpAny_attempt (wpAny_callSpecial?_slot (name:=Str.ofString "__next__") hT F.slot_zip_next (wpAny_call_entry F.slot_zip_next hT F.entry_zip_next ?_ (F.args_zip_next_1 _))))
 show wpAny _ _ (field (.ref z) 2 >>= _) _ _ _
 refine wpAny_bind (wpAny_field hz rfl (x:=.bool false) rfl ?_)
 show wpAny _ _ (field (.ref z) 3 >>= _) _ _ _
 refine wpAny_bind (wpAny_field hz rfl (x:=.ref TI) rfl ?_)
 refine wpAny_bind (wpAny_seqItems hTI rfl ?_)
 show wpAny _ _ (Builtin.SmallTypes.ownedTupleIsFree (.ref z) >>= _) _ _ _
 refine wpAny_bind ?_
 unfold Builtin.SmallTypes.ownedTupleIsFree
 refine wpAny_bind (wpAny_field hz rfl (x:=.none) rfl (wpAny_pure ?_))
 simp only [if_true]
 refine wpAny_bind (wpAny_rule ?_)
 refine wpAny_bind (wpAny_field hz rfl (x:=.ref TO) rfl ?_)
 refine wpAny_bind (wpAny_setField_rec hz (by simp) fun h₁ hz₁ hs₁=>?_)
 replace hz₁ : IsZip h₁ z TI TO .ellipsis:=hz₁
 refine wpAny_bind ?_
 simp only [List.zipIdx_cons,List.zipIdx_nil,List.forIn_cons,List.forIn_nil]
 refine wpAny_bind (wpAny_bind (wpAny_onRaise ?_))
 show wpAny _ _ (Builtin.SmallTypes.nextOf (.ref i1) >>= _) _ _ _
 refine wpAny_bind (zz_end (by first | exact hh | rfl) (h1.at fun o e=>hs₁.extBut _ o (Ne.symm zi1) e) (hl1.at fun o e=>hs₁.extBut _ o l1z e) hx fun h₂ e hs₂ he=>?_)
 obtain ⟨oe,hoe,hce⟩:=he
 have hz₂ : IsZip h₂ z TI TO .ellipsis:=hs₂ _ _ zi1 hz₁
 have hez : e ≠ z:=fun x=>by subst x; rw [hz₂] at hoe; cases hoe; simp at hce
 refine wpAny_setField_rec hz₂ (by simp) fun h₃ _ hs₃=>?_
 refine wpAny_bind (wpAny_isInstance (T:="StopIteration") (b:=true) ⟨oe,hs₃.extBut _ _ hez hoe,hce⟩ isSubtype_stop ?_)
 exact wpAny_pure (hQ _ fun c o c1 _ c3 _ x=>hs₃.extBut _ _ c1 (hs₂ _ _ c3 (hs₁.extBut _ _ c1 x)))
end
end PySem
namespace PySem
section
variable {prog : Program} {w : World} {A : Around} {E : Value → Shared → Prop} {s : Shared} {tp : Bool}
end
end PySem
namespace L2
open PySem PySem.Spec PyProof.Rows
section
variable {X : Cx}
end
end L2
namespace PySem
open PySem PySem.Spec PyProof.Rows
section
variable {prog : Program} {w : World} {A : Around} {E : Value → Shared → Prop} {s : Shared} {tp tq : Bool}
theorem zm_next {z TI TO i1 i2 l1 l2 : Addr} {k : Nat} {xs ys : Array Value} {x y a b : Value} {Q : Option Value → Shared → Prop} (nd : [z,TI,TO,i1,i2].Nodup) (n1 : l1 ∉ [z,TI,TO,i1,i2]) (n2 : l2 ∉ [z,TI,TO,i1,i2])
 (hz : IsZip s.heap z TI TO .none) (hTI : IsPair s.heap TI (.ref i1) (.ref i2)) (hTO : IsPair s.heap TO a b) (h1 : ZIt tp s.heap i1 l1 k) (h2 : ZIt tq s.heap i2 l2 k) (hl1 : ZSq tp s.heap l1 xs) (hl2 : ZSq tq s.heap l2 ys) (hx : xs[k]? = some x) (hy : ys[k]? = some y)
 (hQ : ∀ h',IsZip h' z TI TO (rawInt s.heap.objs.size) → IsPair h' TO x y → ZIt tp h' i1 l1 (k + 1) → ZIt tq h' i2 l2 (k + 1) → IsPair h' s.heap.objs.size x y →
  (∀ c o,c ≠ z → c ≠ TO → c ≠ i1 → c ≠ i2 → s.heap.get? c = some o → h'.get? c = some o) → Q (some (.ref s.heap.objs.size)) { s with heap:=h' }) : wpAny (model prog w) A (pyNext (.ref z)) Q E s:=by
 simp only [List.nodup_cons,List.mem_cons,List.not_mem_nil,or_false,not_or] at nd n1 n2
 obtain ⟨⟨zTI,zTO,zi1,zi2⟩,⟨TITO,TIi1,TIi2⟩,⟨TOi1,TOi2⟩,i12,_⟩:=nd
 obtain ⟨l1z,l1TI,l1TO,l1i1,l1i2⟩:=n1
 obtain ⟨l2z,l2TI,l2TO,l2i1,l2i2⟩:=n2
 have hT : s.TypeIs (.ref z) "zip":=⟨_,hz,rfl⟩
 unfold pyNext
 refine wpAny_bind (wpAny_attempt (wpAny_callSpecial?_slot (name:=Str.ofString "__next__") hT F.slot_zip_next (wpAny_call_entry F.slot_zip_next hT F.entry_zip_next ?_ (F.args_zip_next_1 _))))
 show wpAny _ _ (field (.ref z) 2 >>= _) _ _ _
 refine wpAny_bind (wpAny_field hz rfl (x:=.bool false) rfl ?_)
 show wpAny _ _ (field (.ref z) 3 >>= _) _ _ _
 refine wpAny_bind (wpAny_field hz rfl (x:=.ref TI) rfl ?_)
 refine wpAny_bind (wpAny_seqItems hTI rfl ?_)
 show wpAny _ _ (Builtin.SmallTypes.ownedTupleIsFree (.ref z) >>= _) _ _ _
 refine wpAny_bind ?_
 unfold Builtin.SmallTypes.ownedTupleIsFree
 refine wpAny_bind (wpAny_field hz rfl (x:=.none) rfl (wpAny_pure ?_))
 simp only [if_true]
 refine wpAny_bind (wpAny_rule ?_)
 refine wpAny_bind (wpAny_field hz rfl (x:=.ref TO) rfl ?_)
 refine wpAny_bind (wpAny_setField_rec hz (by simp) fun h₁ hz₁ hs₁=>?_)
 replace hz₁ : IsZip h₁ z TI TO .ellipsis:=hz₁
 refine wpAny_bind ?_
 simp only [List.zipIdx_cons,List.zipIdx_nil,List.forIn_cons,List.forIn_nil]
 have k1 : ∀ c o,c ≠ z → s.heap.get? c = some o → h₁.get? c = some o:=fun c o n e=>hs₁.extBut _ _ n e
 refine wpAny_bind (wpAny_bind (wpAny_onRaise ?_))
 show wpAny _ _ (Builtin.SmallTypes.nextOf (.ref i1) >>= _) _ _ _
 refine wpAny_bind (zz_item (h1.at fun o e=>k1 _ o (Ne.symm zi1) e) (hl1.at fun o e=>k1 _ o l1z e) hx fun h₂ h1₂ hs₂=>wpAny_pure ?_)
 have k2 : ∀ c o,c ≠ i1 → h₁.get? c = some o → h₂.get? c = some o:=fun c o n e=>hs₂.extBut _ _ n e
 have hTO₂ : IsPair h₂ TO a b:=k2 _ _ TOi1 (k1 _ _ (Ne.symm zTO) hTO)
 refine wpAny_bind (wpAny_seqItems hTO₂ rfl ?_)
 refine wpAny_bind (wpAny_updateSeq_pair hTO₂ fun h₃ hTO₃ hs₃=>?_)
 replace hTO₃ : IsPair h₃ TO x b:=hTO₃
 have k3 : ∀ c o,c ≠ TO → h₂.get? c = some o → h₃.get? c = some o:=fun c o n e=>hs₃.extBut _ _ n e
 refine wpAny_bind (wpAny_letGo (wpAny_pure ?_))
 refine wpAny_bind (wpAny_bind (wpAny_onRaise ?_))
 show wpAny _ _ (Builtin.SmallTypes.nextOf (.ref i2) >>= _) _ _ _
 refine wpAny_bind (zz_item (h2.at fun o e=>k3 _ o (Ne.symm TOi2) (k2 _ o (Ne.symm i12) (k1 _ o (Ne.symm zi2) e))) (hl2.at fun o e=>k3 _ o l2TO (k2 _ o l2i1 (k1 _ o l2z e))) hy fun h₄ h2₄ hs₄=>wpAny_pure ?_)
 have k4 : ∀ c o,c ≠ i2 → h₃.get? c = some o → h₄.get? c = some o:=fun c o n e=>hs₄.extBut _ _ n e
 have hTO₄ : IsPair h₄ TO x b:=k4 _ _ TOi2 hTO₃
 refine wpAny_bind (wpAny_seqItems hTO₄ rfl ?_)
 refine wpAny_bind (wpAny_updateSeq_pair hTO₄ fun h₅ hTO₅ hs₅=>?_)
 replace hTO₅ : IsPair h₅ TO x y:=hTO₅
 have k5 : ∀ c o,c ≠ TO → h₄.get? c = some o → h₅.get? c = some o:=fun c o n e=>hs₅.extBut _ _ n e
 refine wpAny_bind (wpAny_letGo (wpAny_pure (wpAny_pure ?_)))
 refine wpAny_bind (wpAny_seqItems hTO₅ rfl ?_)
 refine wpAny_bind (wpAny_newTuple ?_)
 have hsz : h₅.objs.size = s.heap.objs.size:=by rw [hs₅.1,hs₄.1,hs₃.1,hs₂.1,hs₁.1]
 have hz₅ : IsZip h₅ z TI TO .ellipsis:=k5 _ _ zTO (k4 _ _ zi2 (k3 _ _ zTO (k2 _ _ zi1 hz₁)))
 have hk₅ : ∀ c o,c ≠ z → c ≠ TO → c ≠ i1 → c ≠ i2 → s.heap.get? c = some o → h₅.get? c = some o:=fun c o c1 c2 c3 c4 e=>k5 _ _ c2 (k4 _ _ c4 (k3 _ _ c2 (k2 _ _ c3 (k1 _ _ c1 e))))
 have h1₅ : ZIt tp h₅ i1 l1 (k + 1):=h1₂.at fun o e=>k5 _ _ (Ne.symm TOi1) (k4 _ _ i12 (k3 _ _ (Ne.symm TOi1) e))
 have h2₅ : ZIt tq h₅ i2 l2 (k + 1):=h2₄.at fun o e=>k5 _ _ (Ne.symm TOi2) e
 have hzlt : z < h₅.objs.size:=Heap.lt_size hz₅
 show wpAny _ _ (Builtin.SmallTypes.ownedTupleHandOut (.ref z) (.ref h₅.objs.size) >>= _) _ _ _
 refine wpAny_bind ?_
 unfold Builtin.SmallTypes.ownedTupleHandOut
 have hz₆ : IsZip (h₅.push { cls:=.type "tuple",data:=.seq #[x,y] }) z TI TO .ellipsis:=Heap.get?_push_of_some _ hz₅
 refine wpAny_bind (wpAny_setField_rec hz₆ (by simp) fun h₇ hz₇ hs₇=>?_)
 replace hz₇ : IsZip h₇ z TI TO (rawInt h₅.objs.size):=hz₇
 refine wpAny_setField_rec hz₇ (by simp) fun h₈ hz₈ hs₈=>?_
 replace hz₈ : IsZip h₈ z TI TO (rawInt h₅.objs.size):=hz₈
 have up : ∀ c o,c ≠ z → h₅.get? c = some o → h₈.get? c = some o:=fun c o c1 e=>hs₈.extBut _ _ c1 (hs₇.extBut _ _ c1 (Heap.get?_push_of_some _ e))
 have hT₈ : IsPair h₈ h₅.objs.size x y:=hs₈.extBut _ _ (Nat.ne_of_gt hzlt) (hs₇.extBut _ _ (Nat.ne_of_gt hzlt) (Heap.get?_push_size _ rfl))
 rw [hsz] at hz₈ hT₈
 refine wpAny_pure ⟨.ref h₅.objs.size,rfl,wpAny_pure ?_⟩
 rw [hsz]
 exact hQ h₈ hz₈ (up _ _ (Ne.symm zTO) hTO₅) (h1₅.at fun o e=>up _ o (Ne.symm zi1) e) (h2₅.at fun o e=>up _ o (Ne.symm zi2) e) hT₈ fun c o c1 c2 c3 c4 e=>up c o c1 (hk₅ c o c1 c2 c3 c4 e)
end
end PySem
namespace L2
open PySem PySem.Spec PyProof.Rows
def ZK (K : PySem.W.Frag) (tp : Bool) (H : Hp) (a : Addr) (xs : List V) : Prop:=match tp with | true=>SqT K H a xs | false=>SqL K H a xs
section
variable {X : Cx} {pins : List (Addr × Obj)} {σ : St} {H : Hp} {s : Shared} {tp : Bool} {a : Addr} {xs ys : List V}
theorem Inv.zk (I : Inv X pins σ H s) (h : ZK X.K tp H a xs) : ∃ its : List Value,Vals xs its ∧ ZSq tp s.heap a its.toArray ∧ xs.length ≤ sizeLine:=by
 cases tp
 · obtain ⟨its,r,pl,z⟩:=I.list h
   exact ⟨its,r,pl.isList,z⟩
 · obtain ⟨its,r,⟨o,e,c,n,d⟩,z⟩:=I.tuple h
   exact ⟨its,r,⟨o,e,c,n,d⟩,z⟩
theorem Inv.zk_inj (I : Inv X pins σ H s) (h : ZK X.K tp H a xs) (h' : ZK X.K tp H a ys) : xs = ys:=by
 cases tp
 · exact I.list_inj h h'
 · exact I.tuple_inj h h'
theorem Inv.zk_out {fp : List Addr} (I : Inv X pins σ H s) (h : ZK X.K tp H a xs) (hf : ∀ b ∈ fp,FpOk X pins H b) : a ∉ fp:=fun m=>by
 have own : ∀ o,X.K.lookup a = some o → False:=fun o e=>by
  have eb:=I.ok.mod.kin a o e
  obtain ⟨_,_,_,h4,_⟩:=hf a m
  rcases h4 with h4 | h4
  · exact I.ok.noex a o eb h4
  · exact absurd (Nat.lt_of_lt_of_le (Heap.lt_size eb) (Nat.le_trans I.ok.bsz h4)) (Nat.lt_irrefl _)
 have non:=(hf a m).1
 cases tp
 · rcases h with (h | ⟨o,h⟩) | ⟨o,_,_,e,_⟩
   · rw [non] at h; cases h
   · rw [non] at h; cases h
   · exact own o e
 · rcases h with (h | ⟨o,h⟩) | ⟨o,_,_,e,_⟩
   · rw [non] at h; cases h
   · rw [non] at h; cases h
   · exact own o e
end
def Itm (K : PySem.W.Frag) (tp tq : Bool) (a b : Addr) : It :=
 ⟨fun i H=>∃ xs ys x y,ZK K tp H a xs ∧ ZK K tq H b ys ∧ xs[i]? = some x ∧ ys[i]? = some y,fun i H v H'=>∃ T x y,v = .ref T ∧ H T = none ∧ H' = upd H T (.tup [x,y]) ∧ (∀ xs,ZK K tp H a xs → xs[i]? = some x) ∧ ∀ ys,ZK K tq H b ys → ys[i]? = some y,
  fun i H=>∃ xs,ZK K tp H a xs ∧ xs.length ≤ i⟩
theorem turn_zm {P : Program} {w : World} {K : PySem.W.Frag} {es : List Expr} {kk : Nat} {pp : Pos} {tp tq : Bool} {a b z TI TO i1 i2 : Addr} (nd : [z,TI,TO,i1,i2].Nodup) :
 Turn P w K (.Tuple es kk pp) (Itm K tp tq a b) [z,TI,TO,i1,i2] z (fun i h=>IsZip h z TI TO .none ∧ IsPair h TI (.ref i1) (.ref i2) ∧ (∃ a b,IsPair h TO a b) ∧ ZIt tp h i1 a i ∧ ZIt tq h i2 b i) where
 mem:=by simp
 obj:=fun i h st c hc=>by
  obtain ⟨hz,hTI,⟨u,v,hTO⟩,h1,h2⟩:=st
  simp only [List.mem_cons,List.not_mem_nil,or_false] at hc
  rcases hc with rfl | rfl | rfl | rfl | rfl
  · exact ⟨_,hz,fun v z=>by cases (show Data.fields _ = Data.cell v from z)⟩
  · exact ⟨_,hTI,fun v z=>by cases (show Data.seq _ = Data.cell v from z)⟩
  · exact ⟨_,hTO,fun v z=>by cases (show Data.seq _ = Data.cell v from z)⟩
  · obtain ⟨o,e,vs,d⟩:=h1.there
    exact ⟨o,e,fun v z=>by rw [d] at z; cases z⟩
  · obtain ⟨o,e,vs,d⟩:=h2.there
    exact ⟨o,e,fun v z=>by rw [d] at z; cases z⟩
 keep:=fun i h h' st k=>by
  obtain ⟨hz,hTI,⟨u,v,hTO⟩,h1,h2⟩:=st
  exact ⟨k z (by simp) _ hz,k TI (by simp) _ hTI,⟨u,v,k TO (by simp) _ hTO⟩,h1.at fun o e=>k i1 (by simp) o e,h2.at fun o e=>k i2 (by simp) o e⟩
 item:=by
  intro X hP hw hK hc i pins s σ H E I hf st hg
  subst hP hw hK
  obtain ⟨xs,ys,x,y,hx1,hy1,hx,hy⟩:=hg
  obtain ⟨its,rv,p,hz1⟩:=I.zk hx1
  obtain ⟨its',rv',p',hz1'⟩:=I.zk hy1
  obtain ⟨u,hu,ru⟩:=rv.get hx
  obtain ⟨v,hv,rv2⟩:=rv'.get hy
  obtain ⟨hz,hTI,⟨c,d,hTO⟩,h1,h2⟩:=st
  have na : a ∉ [z,TI,TO,i1,i2]:=I.zk_out hx1 hf
  have nb : b ∉ [z,TI,TO,i1,i2]:=I.zk_out hy1 hf
  refine zm_next nd na nb hz hTI hTO h1 h2 p p' (x:=u) (y:=v) (by simpa using hu) (by simpa using hv) fun h' a1 a2 a3 a4 a5 kk=>?_
  refine ⟨.ref s.heap.objs.size,rfl,?_⟩
  refine wpAny_letOwnedTupleGo_zip a1 fun h3 hz3 hs3=>?_
  have nd':=nd
  simp only [List.nodup_cons,List.mem_cons,List.not_mem_nil,or_false,not_or] at nd'
  obtain ⟨⟨zTI,zTO,zi1,zi2⟩,⟨TITO,TIi1,TIi2⟩,⟨TOi1,TOi2⟩,i12,_⟩:=nd'
  have lt : ∀ c ∈ [z,TI,TO,i1,i2],c ≠ s.heap.objs.size:=fun c hc=>by
   simp only [List.mem_cons,List.not_mem_nil,or_false] at hc
   rcases hc with rfl | rfl | rfl | rfl | rfl
   · exact Nat.ne_of_lt (Heap.lt_size hz)
   · exact Nat.ne_of_lt (Heap.lt_size hTI)
   · exact Nat.ne_of_lt (Heap.lt_size hTO)
   · obtain ⟨o,e,_⟩:=h1.there
     exact Nat.ne_of_lt (Heap.lt_size e)
   · obtain ⟨o,e,_⟩:=h2.there
     exact Nat.ne_of_lt (Heap.lt_size e)
  have k3 : ∀ c o,c ≠ z → h'.get? c = some o → h3.get? c = some o:=fun c o n e=>hs3.extBut _ _ n e
  have I1 : Inv X pins σ (upd H s.heap.objs.size (.tup [x,y])) { s with heap:=h3,toks:=s.toks }:=I.turnedT (its:=[u,v]) hf (fun b o hb e1=>by
   simp only [List.mem_cons,List.not_mem_nil,or_false,not_or] at hb
   exact k3 b o hb.1 (kk b o hb.1 hb.2.2.1 hb.2.2.2.1 hb.2.2.2.2 e1)) (Nat.le_refl _) ⟨_,k3 _ _ (Ne.symm (lt z (by simp))) a5,rfl,_,rfl⟩ (.cons ru (.cons rv2 .nil)) (by show 2 ≤ sizeLine; decide)
  have fr : H s.heap.objs.size = none:=I.hok.fresh (Nat.le_refl _)
  refine ⟨.ref s.heap.objs.size,_,I1,rfl,⟨s.heap.objs.size,x,y,rfl,fr,rfl,fun xs' h=>by rw [I.zk_inj h hx1]; exact hx,fun ys' h=>by rw [I.zk_inj h hy1]; exact hy⟩,⟨hz3,k3 _ _ (Ne.symm zTI) (kk _ _ (Ne.symm zTI) TITO TIi1 TIi2 hTI),⟨_,_,k3 _ _ (Ne.symm zTO) a2⟩,a3.at fun o e=>k3 _ o (Ne.symm zi1) e,a4.at fun o e=>k3 _ o (Ne.symm zi2) e⟩,fun b hb=>?_⟩
  rw [upd_ne (lt b hb)]
  exact (hf b hb).1
 done:=by
  intro X hP hw hK hc i pins s σ H E I hf st hg
  subst hP hw hK
  obtain ⟨xs,hx1,hx⟩:=hg
  obtain ⟨its,rv,p,hz1⟩:=I.zk hx1
  obtain ⟨hz,hTI,⟨c,d,hTO⟩,h1,h2⟩:=st
  have hl:=rv.length
  have na : a ∉ [z,TI,TO,i1,i2]:=I.zk_out hx1 hf
  exact zz_last (I.ok.hd hc) nd na hz hTI h1 p (a:=.none) (b:=.none) (by simp; omega) fun h' kk=>⟨rfl,I.turnedL (t':=s.toks) hf fun b o hb e1=>by
   simp only [List.mem_cons,List.not_mem_nil,or_false,not_or] at hb
   exact kk b o hb.1 hb.2.2.1 hb.2.2.2.1 hb.2.2.2.2 e1⟩
 self:=fun _ _ _ _ _ st h=>wpAny_pyIter_zip st.1 h
section
variable {X : Cx}
end
end L2
namespace PySem
open PySem.Spec PyProof.Rows
section
variable {prog : Program} {w : World} {A : Around} {E : Value → Shared → Prop} {s : Shared} {z TI TO i1 i2 : Addr} {m1 m2 : List Addr} {n1 n2 : Nat} {P1 P2 : Nat → Value → Prop} {st1 st2 : Nat → Heap → Prop}
end
end PySem
namespace PySem
open PySem.Spec PyProof.Rows
section
variable {prog : Program} {w : World} {K : Type} [DecidableEq K] {knd : KeyKind prog w K} {A : Around} {E : Value → Shared → Prop} {s : Shared}
end
namespace F
end F
end PySem
namespace PySem
open PySem.Spec PyProof.Rows
section
variable {prog : Program} {w : World} {K : Type} [DecidableEq K] {knd : KeyKind prog w K} {A : Around} {R : Result → Shared → Prop} {z TI TO i1 i2 : Addr} {m1 m2 : List Addr} {n1 n2 : Nat} {P1 P2 : Nat → Value → Prop} {st1 st2 : Nat → Heap → Prop}
end
section
variable {prog : Program} {w : World} {K : Type} [DecidableEq K] {knd : KeyKind prog w K} {A : Around} {E : Value → Shared → Prop} {s : Shared} {z TI TO i1 i2 : Addr} {m1 m2 : List Addr} {n1 n2 : Nat} {P1 P2 : Nat → Value → Prop} {st1 st2 : Nat → Heap → Prop}
end
end PySem
namespace PySem
open PySem.Spec PyProof.Rows
abbrev dzH1 (h : Heap) (o : Obj) : Heap:=h.push o
abbrev dzH2 (h : Heap) (o : Obj) (l2 : Addr) : Heap:=(dzH1 h o).push { cls:=.type "tuple_iterator",data:=.fields #[.ref l2,.int 0 0] }
abbrev dzH3 (h : Heap) (o : Obj) (l2 : Addr) : Heap:=(dzH2 h o l2).push { cls:=.type "tuple",data:=.seq #[.ref h.objs.size,.ref (dzH1 h o).objs.size] }
abbrev dzH4 (h : Heap) (o : Obj) (l2 : Addr) : Heap:=(dzH3 h o l2).push { cls:=.type "tuple",data:=.seq #[.none,.none] }
abbrev dzH5 (h : Heap) (o : Obj) (l2 : Addr) : Heap:=(dzH4 h o l2).push { cls:=.type "zip",data:=.fields #[.none,.bool false,.bool false,.ref (dzH2 h o l2).objs.size,.ref (dzH3 h o l2).objs.size] }
abbrev oList (l : Addr) : Obj:={ cls:=.type "list_iterator",data:=.fields #[.ref l,.int 0 0] }
theorem dz_meets_l (l1 l2 : Addr) (xs ys : Array Value) :
 Meets (Builtin.«zip.__new__» ⟨[.type "zip",.ref l1,.ref l2],[]⟩) (fun _ R s=>s.heap.IsList l1 xs ∧ s.heap.IsTuple l2 ys ∧ R (.ok (.ret (.ref (dzH4 s.heap (oList l1) l2).objs.size))) { s with heap:=dzH5 s.heap (oList l1) l2 }) :=
 .of_wp fun prog w A R s h=>by
  obtain ⟨hp,g,d,tk,os⟩:=s; obtain ⟨hl1,hl2,h⟩:=h
  have hsub:=sub_zip
  have hL1 : Heap.IsList (Shared.heap ⟨hp,g,d,tk,os⟩) l1 xs:=hl1
  have hL2 : Heap.IsTuple (Shared.heap ⟨hp.push { cls:=.type "list_iterator",data:=.fields #[.ref l1,.int 0 0] },g,d,tk,os⟩) l2 ys:=Heap.IsTuple.push hl2 _
  wp_walk using wpAny_pyIter_list hL1,wpAny_pyIter_tuple hL2
  exact ⟨_,rfl,h⟩
section
variable {prog : Program} {w : World} {A : Around} {E : Value → Shared → Prop} {s : Shared}
theorem dz_laid (h : Heap) (o : Obj) (l2 : Addr) (hg : (dzH1 h o).get? h.objs.size = some o) : IsZip (dzH5 h o l2) (h.objs.size + 4) (h.objs.size + 2) (h.objs.size + 3) .none ∧ IsPair (dzH5 h o l2) (h.objs.size + 2) (.ref h.objs.size) (.ref (h.objs.size + 1)) ∧ IsPair (dzH5 h o l2) (h.objs.size + 3) .none .none ∧
 (dzH5 h o l2).get? h.objs.size = some o ∧ (dzH5 h o l2).IsTupleIter (h.objs.size + 1) l2 0 ∧ (∀ c q,h.get? c = some q → (dzH5 h o l2).get? c = some q) ∧ (dzH4 h o l2).objs.size = h.objs.size + 4:=by
 have z1 : (dzH1 h o).objs.size = h.objs.size + 1:=Heap.size_push ..
 have z2 : (dzH2 h o l2).objs.size = h.objs.size + 2:=by rw [Heap.size_push,z1]
 have z3 : (dzH3 h o l2).objs.size = h.objs.size + 3:=by rw [Heap.size_push,z2]
 have z4 : (dzH4 h o l2).objs.size = h.objs.size + 4:=by rw [Heap.size_push,z3]
 have g5 : (dzH5 h o l2).get? (dzH4 h o l2).objs.size = some _:=Heap.get?_push_size _ rfl
 have g4 : (dzH5 h o l2).get? (dzH3 h o l2).objs.size = some _:=Heap.get?_push_of_some _ (Heap.get?_push_size _ rfl)
 have g3 : (dzH5 h o l2).get? (dzH2 h o l2).objs.size = some _:=Heap.get?_push_of_some _ (Heap.get?_push_of_some _ (Heap.get?_push_size _ rfl))
 have g2 : (dzH5 h o l2).get? (dzH1 h o).objs.size = some _:=Heap.get?_push_of_some _ (Heap.get?_push_of_some _ (Heap.get?_push_of_some _ (Heap.get?_push_size _ rfl)))
 have g1 : (dzH5 h o l2).get? h.objs.size = some _:=Heap.get?_push_of_some _ (Heap.get?_push_of_some _ (Heap.get?_push_of_some _ (Heap.get?_push_of_some _ hg)))
 rw [z2,z3,z4] at g5
 rw [z1,z2] at g3
 rw [z3] at g4
 rw [z1] at g2
 exact ⟨g5,g3,g4,g1,⟨_,g2,rfl,rfl⟩,fun c q x=>Heap.get?_push_of_some _ (Heap.get?_push_of_some _ (Heap.get?_push_of_some _ (Heap.get?_push_of_some _ (Heap.get?_push_of_some _ x)))),z4⟩
end
end PySem
namespace L2
open PySem PySem.Spec PyProof.Rows
section
variable {X : Cx} {pins : List (Addr × Obj)} {σ : St} {H : Hp} {s : Shared} {h' : Heap}
end
section
variable {X : Cx}
end
end L2
namespace PySem
open Builtin Builtin.Str
end PySem
namespace L2
open PySem PySem.Spec PyProof.Rows
section
variable {X : Cx}
def rSlF : V → Option Int → Option Int → Hp → VK → Prop:=fun x lo hi H Q=>∃ z j,x = .str z ∧ lo = some j ∧ hi = none ∧ z.length ≤ sizeLine ∧ Q (.str (Txt.slice z (some j) none)) H
theorem sl_from : SlR X rSlF:=by
 intro pins s σ H x v vl vu lo hi sl Q I rx hs pl pu h
 obtain ⟨z,j,rfl,rfl,rfl,hz,q⟩:=h
 obtain ⟨t,rfl⟩:=rx
 cases pu
 cases pl with
 | int _ uj =>
  refine ⟨"str",_,F.slot_str_getitem.lookup,typeIs_str _ _ _,wpAny_getItem_str_slice (l:=some (j,uj)) (u:=none) (st:=none) hs rfl
   (post_val_or_str ⟨Nat.le_trans (Txt.slice_le z _ _) hz,fun t' k=>⟨.str (Txt.slice z (some j) none),H,I.tok k,⟨t',rfl⟩,q⟩⟩)⟩
end
end L2
namespace PySem
open Builtin Builtin.Str
theorem tail_idx (n : Nat) : strSliceIndices (some 1) none 1 n = (List.range (n - 1)).map (· + 1):=by
 cases n with
 | zero=>rfl
 | succ n =>
  have h1 : ¬ ((1 : Int) < 0):=by decide
  have e1 : max (0 : Int) (min 1 ((n + 1 : Nat) : Int)) = 1:=by omega
  simp only [strSliceIndices,sliceRange,h1,if_false,show ((1 : Int) > 0) = True from by simp,if_true,e1]
  have e2 : (if (1 : Int) < ((n + 1 : Nat) : Int) then (((n + 1 : Nat) : Int) - 1 + 1 - 1) / 1 else 0).toNat = n:=by
   split
   · rw [Int.ediv_one]; omega
   · omega
  rw [e2]
  show _ = (List.range n).map (· + 1)
  refine List.map_congr_left fun k _=>?_
  omega
theorem pick_tail : ∀ (l : List Nat) (L : List Nat),((List.range (L.length - 1)).map (· + 1)).filterMap (fun i=>L[i]?) = L.tail:=by
 intro _ L
 cases L with
 | nil=>rfl
 | cons x r =>
  show ((List.range r.length).map (· + 1)).filterMap (fun i=>(x :: r)[i]?) = r
  rw [List.filterMap_map]
  show (List.range r.length).filterMap (fun i=>(x :: r)[i + 1]?) = r
  simp only [List.getElem?_cons_succ]
  have k:=Gen.picks_range r r.length (Nat.le_refl _)
  rw [List.take_length] at k
  exact k
theorem slice_tail (z : Str) : (Txt.slice z (some 1) none).cps.toList = z.cps.toList.tail:=by
 unfold Txt.slice
 rw [tail_idx]
 split
 · rename_i h
   have h2 : ((List.range (z.length - 1)).map (· + 1)).length = z.length:=by simpa using h
   rw [List.length_map,List.length_range] at h2
   have h3 : z.length = 0:=by omega
   have h4 : z.cps.toList = []:=List.length_eq_zero_iff.mp (by simpa [Str.length] using h3)
   rw [h4]
   rfl
 · have e : z.length = z.cps.toList.length:=by simp [Str.length]
   rw [e]
   have k:=pick_tail [] z.cps.toList
   simpa using k
end PySem
namespace L2
open PySem PySem.Spec PyProof.Rows
section
variable {X : Cx} {pins : List (Addr × Obj)} {σ : St} {H : Hp} {s : Shared} {a : Addr} {kvs : List (Key × V)} {k : Key} {v : V} {u : Value} {E : Value → Shared → Prop}
end
section
variable {X : Cx} {o i : Expr} {pos : Pos} {td ty : TE}
end
end L2
namespace L2
open PySem PySem.Spec PyProof.Rows
section
variable {X : Cx}
def iZipL (K : PySem.W.Frag) (ta : TA) : TI:=fun σ H R=>ta σ H fun vs H1=>∃ a b,vs = [.ref a,.ref b] ∧ (∃ xs,SqL K H1 a xs) ∧ (∃ ys,SqT K H1 b ys) ∧ R (Itm K false true a b) H1
theorem pi_zipL {es : List Expr} {kk : Nat} {pp : Pos} {a b : Expr} {ta : TA} {p pos : Pos} (hg : Gl X "zip") (hm : X.mg "zip" = none) (ha : PA X [a,b] ta) (hs : starEach [a,b] X.env = (false,eval a X.env) :: starEach [b] X.env:=by rfl) (hp : (backTo pos (starEach [b] X.env)).any (·.1) = false:=by rfl) :
 PI X (.Tuple es kk pp) (.Call (.Name "zip" p) [a,b] [] pos) (iZipL X.K ta):=by
 intro pins s σ H R I h
 refine Call_ (ld_blt I hg hm boot_zip (PyProof.Rows.callWith_type1 (thn (ha pos pins s σ H _ I h) fun us s1 ⟨vs,H1,I1,r1,q1⟩=>?_) hs hp))
 obtain ⟨l,m,e,⟨xs,hx⟩,⟨ys,hy⟩,q⟩:=q1
 subst e
 obtain ⟨u,v,rfl,ru,rv⟩:=vals2 r1
 cases (show u = Value.ref l from ru)
 cases (show v = Value.ref m from rv)
 obtain ⟨its,_,p1,_⟩:=I1.zk (tp:=false) hx
 obtain ⟨its',_,p2,_⟩:=I1.zk (tp:=true) hy
 refine callType_new F.called_zip (by decide) (F.typeCall_zip_2 _ _) (F.newCall_zip_2 _ _) (fun obj=>F.args_object_init_3 obj _ _) F.entry_zip_new (dz_meets_l l m its.toArray its'.toArray) ⟨p1,p2,?_⟩
 have hg' : (dzH1 s1.heap (oList l)).get? s1.heap.objs.size = some (oList l):=Heap.get?_push_size _ rfl
 obtain ⟨a1,a2,a3,a4,a5,kk',g6⟩:=dz_laid s1.heap (oList l) m hg'
 show _ ∧ _
 rw [g6]
 refine ⟨⟨_,a1,rfl⟩,?_⟩
 refine wpAny_pyIter_zip a1 ?_
 have I2 : Inv X pins σ H1 { s1 with heap:=dzH5 s1.heap (oList l) m }:=I1.kept (t':=s1.toks) kk'
 refine ⟨_,_,_,_,H1,rfl,I2,turn_zm (tp:=false) (tq:=true) (a:=l) (b:=m) (z:=s1.heap.objs.size + 4) (TI:=s1.heap.objs.size + 2) (TO:=s1.heap.objs.size + 3) (i1:=s1.heap.objs.size) (i2:=s1.heap.objs.size + 1) ?_,⟨a1,a2,⟨_,_,a3⟩,⟨_,a4,rfl,rfl⟩,a5⟩,fun b hb=>?_,q⟩
 · simp
 · have hb' : s1.heap.objs.size ≤ b:=by
    simp only [List.mem_cons,List.not_mem_nil,or_false] at hb
    rcases hb with rfl | rfl | rfl | rfl | rfl
    · exact Nat.le_add_right _ _
    · exact Nat.le_add_right _ _
    · exact Nat.le_add_right _ _
    · exact Nat.le_refl _
    · exact Nat.le_add_right _ _
   exact I1.fpOk hb' (I1.hok.fresh hb')
theorem for_zip {K : PySem.W.Frag} {tp tq : Bool} {a b : Addr} {xs ys : List V} {g : TG} {tb : TS} {D : Ends} {σ : St} {H : Hp} (hxy : xs.length ≤ ys.length) (Pv : Nat → St → Hp → Prop) (h0 : Pv 0 σ H) (hl : ∀ i σ H,i ≤ xs.length → Pv i σ H → ZK K tp H a xs ∧ ZK K tq H b ys)
 (hs : ∀ i x y T σ H,xs[i]? = some x → ys[i]? = some y → H T = none → Pv i σ H → g (.ref T) σ (upd H T (.tup [x,y])) fun σ2 H2=>tb { D with nx:=Pv (i + 1),ct:=Pv (i + 1),bk:=D.nx } σ2 H2) (hd : ∀ σ H,Pv xs.length σ H → D.nx σ H) :
 ∃ W : Nat → Nat → St → Hp → Prop,(∃ m,W 0 m σ H) ∧ ∀ i m σ H,W i m σ H →
  ((Itm K tp tq a b).stop i H ∧ D.nx σ H) ∨ ((Itm K tp tq a b).go i H ∧ ∃ N : St → Hp → Prop,(∀ σ' H',N σ' H' → ∃ m',m' < m ∧ W (i + 1) m' σ' H') ∧ ∀ x H',(Itm K tp tq a b).yld i H x H' → g x σ H' fun σ2 H2=>tb { D with nx:=N,ct:=N,bk:=D.nx } σ2 H2):=by
 refine ⟨fun i m σ H=>m = xs.length - i ∧ i ≤ xs.length ∧ Pv i σ H,⟨xs.length,by simp,Nat.zero_le _,h0⟩,?_⟩
 rintro i m σ H ⟨rfl,hi,p⟩
 obtain ⟨q1,q2⟩:=hl i σ H hi p
 by_cases hlt : i < xs.length
 · refine .inr ⟨⟨xs,ys,xs[i],ys[i]'(by omega),q1,q2,List.getElem?_eq_getElem hlt,List.getElem?_eq_getElem (by omega)⟩,Pv (i + 1),fun σ' H' p'=>⟨xs.length - (i + 1),by omega,rfl,hlt,p'⟩,fun x H' y=>?_⟩
   obtain ⟨T,v,u,rfl,hT,rfl,hv,hu⟩:=y
   exact hs i v u T σ H (hv xs q1) (hu ys q2) hT p
 · refine .inl ⟨⟨xs,q1,by omega⟩,?_⟩
   obtain rfl : i = xs.length:=by omega
   exact hd σ H p
theorem call_int_txt : CallR X (.type "int") (fun xs H Q=>∃ z n,xs = [.str z] ∧ PySem.intText? z = some n ∧ z.length ≤ 640 ∧ Q (.int n) H):=by
 intro pins s σ H xs us Q I r h
 obtain ⟨z,n,rfl,hn,hl,q⟩:=h
 obtain ⟨u,rfl,t,rfl⟩:=vals1 r
 exact PySem.W.KIN.call_text hn hl ⟨.int n,H,I.tok _,⟨_,rfl⟩,q⟩
end
end L2
namespace L2
open PySem PySem.Spec PyProof.Rows
section
variable {X : Cx}
end
end L2
namespace L2
open PySem PySem.Spec PyProof.Rows
theorem any_at (bs : List Bool) : ((List.range bs.length).any fun i=>(bs[i]?).getD false) = bs.any _root_.id:=by
 rw [Bool.eq_iff_iff,List.any_eq_true,List.any_eq_true]
 constructor
 · rintro ⟨i,hi,h⟩
   have hi':=List.mem_range.mp hi
   rw [List.getElem?_eq_getElem hi'] at h
   exact ⟨bs[i],List.getElem_mem hi',h⟩
 · rintro ⟨b,hb,h⟩
   obtain ⟨i,hi,e⟩:=List.getElem_of_mem hb
   refine ⟨i,List.mem_range.mpr hi,?_⟩
   rw [List.getElem?_eq_getElem hi,e]
   exact h
theorem call_any_bools {X : Cx} (hc : X.calm = true) : CallR X (.builtin "any") (fun xs H Q=>∃ (p : Addr) (bs : List Bool),xs = [.ref p] ∧ SqL X.K H p (bs.map V.bl) ∧ Q (.bl (bs.any _root_.id)) H):=by
 intro pins s σ H xs us Q I r h
 obtain ⟨p,bs,rfl,hp,q⟩:=h
 obtain ⟨u,rfl,rx⟩:=vals1 r
 cases (show u = Value.ref p from rx)
 obtain ⟨its,rv,pl,hz⟩:=I.list hp
 have hl:=pl.isList
 have hlen : bs.length = its.length:=by
  have:=rv.length
  rw [List.length_map] at this
  exact this
 have hlt : p < s.heap.objs.size:=by obtain ⟨_,e,_⟩:=hl; exact Heap.lt_size e
 refine call_any_walk (wpAny_pyIter_list hl ?_)
 refine ⟨s.heap.objs.size,[s.heap.objs.size,p],[s.heap.objs.size],its.toArray.size,_,_,fun i=>(bs[i]?).getD false,rfl,Walks.list (A:=X.A.in1) (by show X.A.in1.handled = none; exact I.ok.hd hc) _ p (Nat.ne_of_lt hlt) its.toArray,
  ⟨⟨_,Heap.get?_push_size _ rfl,rfl,rfl⟩,hl.push _⟩,fun i v s' Q' E' hP hQ=>?_,fun h' tk hk=>?_⟩
 · have hi : its[i]? = some v:=by simpa using hP
   have hlt2 : i < bs.length:=by
    have:=(List.getElem?_eq_some_iff.mp hi).1
    omega
   obtain ⟨w',e1,e2⟩:=rv.get (x:=.bl bs[i]) (by rw [List.getElem?_map,List.getElem?_eq_getElem hlt2]; rfl)
   rw [hi] at e1
   cases e1
   cases (show v = Value.bool bs[i] from e2)
   simp only [List.getElem?_eq_getElem hlt2,Option.getD_some] at hQ
   exact wpAny_truthy_bool hQ
 · have e : ((List.range its.toArray.size).any fun i=>(bs[i]?).getD false) = bs.any _root_.id:=by
    rw [List.size_toArray,← hlen]
    exact any_at bs
   rw [e]
   exact ⟨.bl _,H,I.kept (t':=tk) (fun b o eb=>hk b o (fun hm=>by rw [List.mem_singleton.mp hm] at eb; exact Nat.lt_irrefl _ (Heap.lt_size eb)) (Heap.get?_push_of_some _ eb)),rfl,q⟩
end L2
namespace L2
open PySem PySem.Spec PyProof.Rows
section
variable {X : Cx}
theorem all_at (bs : List Bool) : ((List.range bs.length).all fun i=>(bs[i]?).getD false) = bs.all _root_.id:=by
 rw [Bool.eq_iff_iff,List.all_eq_true,List.all_eq_true]
 constructor
 · intro h b hb
   obtain ⟨i,hi,e⟩:=List.getElem_of_mem hb
   have:=h i (List.mem_range.mpr hi)
   rw [List.getElem?_eq_getElem hi,e] at this
   exact this
 · intro h i hi
   have hi':=List.mem_range.mp hi
   rw [List.getElem?_eq_getElem hi']
   exact h _ (List.getElem_mem hi')
theorem call_all_bools (hc : X.calm = true) : CallR X (.builtin "all") (fun xs H Q=>∃ (p : Addr) (bs : List Bool),xs = [.ref p] ∧ SqL X.K H p (bs.map V.bl) ∧ Q (.bl (bs.all _root_.id)) H):=by
 intro pins s σ H xs us Q I r h
 obtain ⟨p,bs,rfl,hp,q⟩:=h
 obtain ⟨u,rfl,rx⟩:=vals1 r
 cases (show u = Value.ref p from rx)
 obtain ⟨its,rv,pl,hz⟩:=I.list hp
 have hl:=pl.isList
 have hlen : bs.length = its.length:=by
  have:=rv.length
  rw [List.length_map] at this
  exact this
 have hlt : p < s.heap.objs.size:=by obtain ⟨_,e,_⟩:=hl; exact Heap.lt_size e
 refine call_all_walk (wpAny_pyIter_list hl ?_)
 refine ⟨s.heap.objs.size,[s.heap.objs.size,p],[s.heap.objs.size],its.toArray.size,_,_,fun i=>(bs[i]?).getD false,rfl,Walks.list (A:=X.A.in1) (by show X.A.in1.handled = none; exact I.ok.hd hc) _ p (Nat.ne_of_lt hlt) its.toArray,
  ⟨⟨_,Heap.get?_push_size _ rfl,rfl,rfl⟩,hl.push _⟩,fun i v s' Q' E' hP hQ=>?_,fun h' tk hk=>?_⟩
 · have hi : its[i]? = some v:=by simpa using hP
   have hlt2 : i < bs.length:=by
    have:=(List.getElem?_eq_some_iff.mp hi).1
    omega
   obtain ⟨w',e1,e2⟩:=rv.get (x:=.bl bs[i]) (by rw [List.getElem?_map,List.getElem?_eq_getElem hlt2]; rfl)
   rw [hi] at e1
   cases e1
   cases (show v = Value.bool bs[i] from e2)
   simp only [List.getElem?_eq_getElem hlt2,Option.getD_some] at hQ
   exact wpAny_truthy_bool hQ
 · have e : ((List.range its.toArray.size).all fun i=>(bs[i]?).getD false) = bs.all _root_.id:=by
    rw [List.size_toArray,← hlen]
    exact all_at bs
   rw [e]
   exact ⟨.bl _,H,I.kept (t':=tk) (fun b o eb=>hk b o (fun hm=>by rw [List.mem_singleton.mp hm] at eb; exact Nat.lt_irrefl _ (Heap.lt_size eb)) (Heap.get?_push_of_some _ eb)),rfl,q⟩
end
end L2
namespace Gen
open PySem L2
structure Own2 (mg : Str → Option Value) : Prop where
 len : mg "len" = none
 list : mg "list" = none
 dict : mg "dict" = none
 tuple : mg "tuple" = none
 str : mg "str" = none
 int : mg "int" = none
 bool : mg "bool" = none
 zip : mg "zip" = none
 all : mg "all" = none
 isi : mg "isinstance" = none
theorem str_eta (z : Str) : z = ⟨z.cps.toList.toArray⟩:=by cases z; simp
theorem tilde_cps (x : Str) : (("~" : Str) ++ x).cps.toList = 126 :: x.cps.toList:=by
 have e : ("~" : Str) = ⟨#[126]⟩:=by decide +kernel
 rw [e]
 show (#[126] ++ x.cps).toList = _
 simp
def kvP (l : List (Str × V)) : List (Key × V):=l.map fun r=>((.inr r.1 : Key),r.2)
def kvS (l : List (Str × Str)) : List (Key × V):=l.map fun r=>((.inr r.1 : Key),V.str r.2)
theorem some_kvP (n : Str) : ∀ l : List (Str × V),(valV (kvP l) (.inr n)).isSome = decide (n ∈ l.map (·.1))
 | []=>by simp [kvP,valV]
 | r :: l=>by
  have ih:=some_kvP n l
  by_cases e : r.1 = n
  · have h1 : valV (kvP (r :: l)) (.inr n) = some r.2:=valV_pos (p:=((.inr r.1 : Key),r.2)) (by rw [e])
    rw [h1]
    simp [e]
  · have h1 : valV (kvP (r :: l)) (.inr n) = valV (kvP l) (.inr n):=valV_neg (p:=((.inr r.1 : Key),r.2)) (fun q=>e (Sum.inr.inj q))
    rw [h1,ih]
    have : ¬ n = r.1:=fun q=>e q.symm
    simp [this]
theorem kvS_P (l : List (Str × Str)) : kvS l = kvP (l.map fun r=>(r.1,V.str r.2)):=by unfold kvS kvP; rw [List.map_map]; rfl
theorem none_kvS {n : Str} {l : List (Str × Str)} (h : n ∉ l.map (·.1)) : valV (kvS l) (.inr n) = none:=by
 have:=some_kvP n (l.map fun r=>(r.1,V.str r.2))
 rw [← kvS_P,List.map_map,decide_eq_false (by simpa using h)] at this
 cases e : valV (kvS l) (.inr n) with
 | none=>rfl
 | some v=>rw [e] at this; cases this
theorem name_first {z : Str} (h : NameS z) : ¬ z.cps.toList[0]? = some 126:=fun e=>by
 have:=mem_letters.mp (h.2.2 126 (List.mem_of_getElem? e))
 omega
def LitF (z : Str) : Prop:=z = "0" ∨ z = "1" ∨ NameS z ∨ ∃ x,NameS x ∧ z = "~" ++ x
theorem LitF.len {z : Str} (h : LitF z) : 1 ≤ z.length ∧ z.length ≤ 9:=by
 rcases h with rfl | rfl | h | ⟨x,hx,rfl⟩
 · decide +kernel
 · decide +kernel
 · refine ⟨?_,Nat.le_trans h.len (by decide)⟩
   have:=h.1
   simpa [Str.length] using this
 · have e:=appLen "~" x
   have t1 : ("~" : Str).length = 1:=by decide +kernel
   have:=hx.len
   omega
theorem neS {a b : Str} {A B : Prop} (h : a ≠ b) (q : B) : if decide (V.str a = V.str b) = true then A else B:=by
 rw [decide_eq_false (fun e=>h (V.str.inj e))]
 exact iteF q
theorem eqS {a : Str} {A B : Prop} (q : A) : if decide (V.str a = V.str a) = true then A else B:=by
 rw [decide_eq_true rfl]
 exact iteT q
theorem not_take {α : Type} {l pre post : List α} {i : Nat} (h : (pre ++ l ++ post).Nodup) (hi : i < l.length) : l[i] ∉ pre ++ l.take i:=by
 have e : l = l.take i ++ l[i] :: l.drop (i + 1):=by rw [← List.drop_eq_getElem_cons hi,List.take_append_drop]
 have h1 : (pre ++ l).Nodup:=(List.nodup_append.mp h).1
 have h2 : ((pre ++ l.take i) ++ l[i] :: l.drop (i + 1)).Nodup:=by rw [List.append_assoc,← e]; exact h1
 intro hm
 exact (List.nodup_append.mp h2).2.2 _ hm _ List.mem_cons_self rfl
theorem MachAt.same {H H' : Hp} {m : Addr} {M : Mach} {a1 a2 a3 a4 a5 a6 : Addr} (h : MachAt H m M a1 a2 a3 a4 a5 a6) (s : Same H H') : MachAt H' m M a1 a2 a3 a4 a5 a6 :=
 ⟨s _ _ h.top,s _ _ h.sw,h.kp.same s,h.gt.same s,h.nx.same s,h.nv.same s,h.sm.same s,h.df⟩
theorem at0 {x : V} {r : List V} : atI (x :: r) 0 = some x:=atI_nat (j:=0) rfl
end Gen
namespace Gen
open PySem L2
def kvI (vv : List (Str × Int)) : List (Key × V):=vv.map fun r=>((.inr r.1 : Key),V.int r.2)
def lookI (vv : List (Str × Int)) (n : Str) : Int:=((vv.find? fun r=>decide (r.1 = n)).map (·.2)).getD 0
theorem kvI_P (vv : List (Str × Int)) : kvI vv = kvP (vv.map fun r=>(r.1,V.int r.2)):=by unfold kvI kvP; rw [List.map_map]; rfl
theorem none_kvI {n : Str} {l : List (Str × Int)} (h : n ∉ l.map (·.1)) : valV (kvI l) (.inr n) = none:=by
 have:=some_kvP n (l.map fun r=>(r.1,V.int r.2))
 rw [← kvI_P,List.map_map,decide_eq_false (by simpa using h)] at this
 cases e : valV (kvI l) (.inr n) with
 | none=>rfl
 | some v=>rw [e] at this; cases this
theorem some_kvI {n : Str} : ∀ {l : List (Str × Int)},n ∈ l.map (·.1) → valV (kvI l) (.inr n) = some (.int (lookI l n))
 | [],h=>by cases h
 | r :: l,h=>by
  by_cases e : r.1 = n
  · have h1 : valV (kvI (r :: l)) (.inr n) = some (.int r.2):=valV_pos (p:=((.inr r.1 : Key),V.int r.2)) (by rw [e])
    rw [h1]
    unfold lookI
    rw [List.find?_cons_of_pos (by simpa using e)]
    rfl
  · have h1 : valV (kvI (r :: l)) (.inr n) = valV (kvI l) (.inr n):=valV_neg (p:=((.inr r.1 : Key),V.int r.2)) (fun q=>e (Sum.inr.inj q))
    rw [h1,some_kvI (l:=l) (by
     rw [List.map_cons,List.mem_cons] at h
     rcases h with h | h
     · exact absurd h.symm e
     · exact h)]
    unfold lookI
    rw [List.find?_cons_of_neg (by simpa using e)]
def litI (vv : List (Str × Int)) (l : Str) : Int:=if l = "0" then 0 else if l = "1" then 1 else if l.cps.toList[0]? = some 126 then 1 - lookI vv ⟨l.cps.toList.tail.toArray⟩ else lookI vv l
def LitIn (vv : List (Str × Int)) (l : Str) : Prop:=l = "0" ∨ l = "1" ∨ (NameS l ∧ l ∈ vv.map (·.1)) ∨ ∃ x,NameS x ∧ x ∈ vv.map (·.1) ∧ l = "~" ++ x
theorem litI_0 (vv : List (Str × Int)) : litI vv "0" = 0:=by rw [litI,if_pos rfl]
theorem litI_1 (vv : List (Str × Int)) : litI vv "1" = 1:=by rw [litI,if_neg (by decide +kernel),if_pos rfl]
theorem name_ne {z : Str} (h : NameS z) : z ≠ "0" ∧ z ≠ "1" ∧ ¬ z.cps.toList[0]? = some 126:=by
 have hl : ∀ c,z.cps.toList[0]? = some c → 97 ≤ c:=fun c e=>(mem_letters.mp (h.2.2 c (List.mem_of_getElem? e))).1
 refine ⟨fun e=>?_,fun e=>?_,name_first h⟩
 · have:=hl 48 (by rw [e]; decide +kernel)
   omega
 · have:=hl 49 (by rw [e]; decide +kernel)
   omega
theorem tilde_ne (x : Str) : ("~" : Str) ++ x ≠ "0" ∧ ("~" : Str) ++ x ≠ "1":=by
 have hl:=tilde_cps x
 refine ⟨fun e=>?_,fun e=>?_⟩
 · rw [e] at hl
   have : (("0" : Str).cps.toList)[0]? = some 48:=by decide +kernel
   rw [hl] at this
   exact absurd this (by simp)
 · rw [e] at hl
   have : (("1" : Str).cps.toList)[0]? = some 49:=by decide +kernel
   rw [hl] at this
   exact absurd this (by simp)
theorem litI_name {vv : List (Str × Int)} {z : Str} (h : NameS z) : litI vv z = lookI vv z:=by
 obtain ⟨a,b,c⟩:=name_ne h
 rw [litI,if_neg a,if_neg b,if_neg c]
theorem litI_tilde {vv : List (Str × Int)} {x : Str} : litI vv ("~" ++ x) = 1 - lookI vv x:=by
 obtain ⟨a,b⟩:=tilde_ne x
 rw [litI,if_neg a,if_neg b,tilde_cps,if_pos (show (126 :: x.cps.toList)[0]? = some 126 from rfl)]
 rw [show (⟨(126 :: x.cps.toList).tail.toArray⟩ : Str) = x from (str_eta x).symm]
def Bits (vv : List (Str × Int)) : Prop:=∀ r ∈ vv,r.2 = 0 ∨ r.2 = 1
theorem lookI_bit {vv : List (Str × Int)} (h : Bits vv) (n : Str) : lookI vv n = 0 ∨ lookI vv n = 1:=by
 unfold lookI
 cases e : vv.find? fun r=>decide (r.1 = n) with
 | none=>exact .inl rfl
 | some r=>exact h r (List.mem_of_find?_eq_some e)
theorem litI_bit {vv : List (Str × Int)} (h : Bits vv) (l : Str) : litI vv l = 0 ∨ litI vv l = 1:=by
 unfold litI
 split
 · exact .inl rfl
 · split
   · exact .inr rfl
   · split
     · rcases lookI_bit h ⟨l.cps.toList.tail.toArray⟩ with e | e <;> rw [e]
       · exact .inr rfl
       · exact .inl rfl
     · exact lookI_bit h l
def gateStep (acc : List (Str × Int)) (g : Str × Str × Str) : List (Str × Int):=acc ++ [(g.1,litI acc g.2.1 * litI acc g.2.2)]
def baseM (M : Mach) (bs cs : List Int) : List (Str × Int):=M.switches.zip bs ++ (M.keepers.map (·.1)).zip cs
def valsM (M : Mach) (bs cs : List Int) (i : Nat) : List (Str × Int):=(M.gates.take i).foldl gateStep (baseM M bs cs)
theorem keys_fold : ∀ (gs : List (Str × Str × Str)) (acc : List (Str × Int)),(gs.foldl gateStep acc).map (·.1) = acc.map (·.1) ++ gs.map (·.1)
 | [],acc=>by simp
 | g :: gs,acc=>by
  rw [List.foldl_cons,keys_fold gs,gateStep,List.map_append,List.map_cons,List.append_assoc]
  rfl
theorem keys_zip {α β : Type} : ∀ {l : List α} {r : List β},l.length = r.length → (l.zip r).map (·.1) = l
 | [],[],_=>rfl
 | x :: l,y :: r,h=>by
  rw [List.zip_cons_cons,List.map_cons,keys_zip (by simpa using h)]
theorem keys_vals {M : Mach} {bs cs : List Int} (h1 : M.switches.length = bs.length) (h2 : M.keepers.length = cs.length) (i : Nat) : (valsM M bs cs i).map (·.1) = M.switches ++ M.keepers.map (·.1) ++ (M.gates.take i).map (·.1):=by
 unfold valsM baseM
 rw [keys_fold,List.map_append,keys_zip h1,keys_zip (by rw [List.length_map]; exact h2)]
theorem vals_succ {M : Mach} {bs cs : List Int} {i : Nat} (hi : i < M.gates.length) : valsM M bs cs (i + 1) = gateStep (valsM M bs cs i) M.gates[i]:=by
 unfold valsM
 rw [List.take_succ,List.getElem?_eq_getElem hi,List.foldl_append]
 rfl
theorem bits_zip {l : List Str} {bs : List Int} (h : ∀ b ∈ bs,b = 0 ∨ b = 1) : Bits (l.zip bs):=fun r hr=>h r.2 (List.of_mem_zip hr).2
theorem bits_vals {M : Mach} {bs cs : List Int} (h1 : ∀ b ∈ bs,b = 0 ∨ b = 1) (h2 : ∀ b ∈ cs,b = 0 ∨ b = 1) (i : Nat) : Bits (valsM M bs cs i):=by
 have base : Bits (baseM M bs cs):=fun r hr=>by
  rcases List.mem_append.mp hr with hr | hr
  · exact bits_zip h1 r hr
  · exact bits_zip h2 r hr
 have all : ∀ (gs : List (Str × Str × Str)) (acc : List (Str × Int)),Bits acc → Bits (gs.foldl gateStep acc):=by
  intro gs
  induction gs with
  | nil=>intro acc h; exact h
  | cons g gs ih =>
   intro acc h
   refine ih _ fun r hr=>?_
   rcases List.mem_append.mp hr with hr | hr
   · exact h r hr
   · rw [List.mem_singleton.mp hr]
     show litI acc g.2.1 * litI acc g.2.2 = 0 ∨ litI acc g.2.1 * litI acc g.2.2 = 1
     rcases litI_bit h g.2.1 with e | e <;> rcases litI_bit h g.2.2 with e' | e' <;> rw [e,e'] <;> simp
 exact all _ _ base
theorem put_kvI {acc : List (Str × Int)} {n : Str} {v : Int} (h : n ∉ acc.map (·.1)) : putK (kvI acc) (.inr n) (.int v) = kvI (acc ++ [(n,v)]):=by
 rw [putK_new _ (none_kvI h)]
 unfold kvI
 rw [List.map_append]
 rfl
theorem merge_kvI : ∀ (l acc : List (Str × Int)),((acc ++ l).map (·.1)).Nodup → mergeK (kvI acc) (kvI l) = kvI (acc ++ l)
 | [],acc,_=>by rw [List.append_nil]; rfl
 | r :: l,acc,h=>by
  have e : acc ++ r :: l = (acc ++ [r]) ++ l:=by simp
  have hn : r.1 ∉ acc.map (·.1):=fun hm=>by
   rw [List.map_append] at h
   exact (List.nodup_append.mp h).2.2 _ hm _ (by simp) rfl
  show mergeK (putK (kvI acc) (.inr r.1) (.int r.2)) (kvI l) = _
  rw [put_kvI hn,e]
  exact merge_kvI l (acc ++ [r]) (by rw [← e]; exact h)
theorem Lit.in_ {names : List Str} {z : Str} {vv : List (Str × Int)} (h : Lit names z) (hn : ∀ x ∈ names,NameS x) (hs : ∀ x ∈ names,x ∈ vv.map (·.1)) : LitIn vv z:=by
 rcases h with h | h | ⟨x,hx,h | h⟩
 · exact .inl h
 · exact .inr (.inl h)
 · exact .inr (.inr (.inl ⟨h ▸ hn x hx,h ▸ hs x hx⟩))
 · exact .inr (.inr (.inr ⟨x,hn x hx,hs x hx,h⟩))
theorem LitIn.len {vv : List (Str × Int)} {z : Str} (h : LitIn vv z) : 1 ≤ z.length ∧ z.length ≤ 9:=by
 have hf : LitF z:=by
  rcases h with h | h | ⟨h,_⟩ | ⟨x,h,_,e⟩
  · exact .inl h
  · exact .inr (.inl h)
  · exact .inr (.inr (.inl h))
  · exact .inr (.inr (.inr ⟨x,h,e⟩))
 exact hf.len
end Gen
namespace Gen
open PySem L2
abbrev sBit : Stmt:=top 15
def spLitV : Sp:=fun vs H Q _=>∃ (d : Addr) (vv : List (Str × Int)) (l : Str),vs = [.ref d,.str l] ∧ Rd H d (.dK (kvI vv)) ∧ LitIn vv l ∧ ∀ H',Same H H' → Q (.int (litI vv l)) H'
theorem dget_kvI {H : Hp} {d : Addr} {vv : List (Str × Int)} {n : Str} (h : Rd H d (.dK (kvI vv))) (hn : n ∈ vv.map (·.1)) : DGet H d (.str n) (some (.int (lookI vv n))):=.inl ⟨kvI vv,.inr n,h,rfl,(some_kvI hn).symm⟩
section
variable {P : Program} {w : World} {K : PySem.W.Frag} {mg : Str → Option Value} {base : Heap}
theorem scBit : FnScope ["_law_values_here", "_law_literal_here"] ["_law_values_here", "_law_literal_here"] (defScope sBit):=⟨rfl,rfl,rfl,by decide +kernel,rfl,by decide +kernel,by decide +kernel⟩
theorem ok_bit {f : Addr} {fd : FuncData} (F : Fun K "_law_bit" "_law_bit" sBit f fd) (O : Own2 mg) : FnOk P w K mg base CX0 1 f fd ["_law_values_here", "_law_literal_here"] spLitV:=by
 refine F.ok scBit (fun vs H Q E h=>?_) (fun cdv A outer s H vs Q E hr h=>?_)
 · obtain ⟨d,vv,l,rfl,_⟩:=h
   rfl
 · obtain ⟨d,vv,l,rfl,hd,hl,kk⟩:=h
   have hu:=hu_of hr
   have hz2 : l.length ≤ sizeLine:=Nat.le_trans hl.len.2 (by decide)
   refine ⟨_,pss_cons (ps_if (pt_cmpR op_in_seq (pv 1) (pe_tup (pa_cons pe_str (pa_cons pe_str pa_nil))) (by with_unfolding_all rfl)) (pss_one (ps_ret (pe_callTy call_int_txt (by rfl) O.int PyProof.Rows.boot_int (pa_cons (pv 1) pa_nil)))) pss_nil)
    (pss_cons (ps_if (pt_cmpR op_eq (pe_ix ix_str (pv 1) pe_int (fun _ _=>rfl)) pe_str (nomark _)) (pss_one (ps_ret (pe_op op_sub pe_int (pe_dget hu (pv 0) (pe_slice sl_from (pv 1) (po_some pe_int) po_none) (fun _ _=>rfl))))) pss_nil)
    (pss_one (ps_ret (pe_dget hu (pv 0) (pv 1) (fun _ _=>rfl))))),?_⟩
   refine ⟨_,rfl,(by show 2 ≤ sizeLine; decide),fun t ht=>?_⟩
   have st : Same H (upd H t (.tup [.str "0",.str "1"])):=Same.upd_new ht
   have hd' : Rd (upd H t (.tup [.str "0",.str "1"])) d (.dK (kvI vv)):=by
    rcases hd with hd | ⟨o,hd⟩
    · exact .inl (st _ _ hd)
    · exact .inr ⟨o,st _ _ hd⟩
   have k0:=kk _ st
   refine ⟨t,_,rfl,.inr (SqT.of upd_same),rfl,rfl,_,rfl,?_⟩
   show if inV (.str l) [.str "0",.str "1"] = true then _ else _
   have hnot : l ≠ "0" → l ≠ "1" → inV (.str l) [.str "0",.str "1"] = false:=fun a b=>by
    have:=inV_str l ["0", "1"]
    rw [show inV (V.str l) [.str "0",.str "1"] = decide (l ∈ (["0", "1"] : List Str)) from this]
    exact decide_eq_false (by simp [a,b])
   have tl : ("~" : Str) = ⟨#[126]⟩:=by decide +kernel
   rcases hl with rfl | rfl | ⟨hn,hm⟩ | ⟨x,hn,hm,rfl⟩
   · rw [litI_0] at k0
     rw [show inV (V.str "0") [.str "0",.str "1"] = true from by decide +kernel]
     exact iteT ⟨_,rfl, "0",0,rfl,by decide +kernel,by decide +kernel,k0⟩
   · rw [litI_1] at k0
     rw [show inV (V.str "1") [.str "0",.str "1"] = true from by decide +kernel]
     exact iteT ⟨_,rfl, "1",1,rfl,by decide +kernel,by decide +kernel,k0⟩
   · obtain ⟨n0,n1,n2⟩:=name_ne hn
     rw [litI_name hn] at k0
     rw [hnot n0 n1]
     refine iteF ?_
     obtain ⟨c,hc⟩ : ∃ c,l.cps.toList[0]? = some c:=⟨_,List.getElem?_eq_getElem (by have:=hn.1; omega)⟩
     have hc126 : c ≠ 126:=fun e=>n2 (by rw [hc,e])
     refine ⟨_,rfl,l,0,c,rfl,rfl,hz2,atI_nat (j:=0) hc,rfl,_,rfl,neS (fun q=>hc126 (by
      rw [tl] at q
      have e2:=congrArg (fun s : Str=>s.cps.toList) q
      simpa using e2)) ?_⟩
     exact ⟨_,rfl,_,rfl,d,_,rfl,dget_kvI hd' hm,k0⟩
   · obtain ⟨n0,n1⟩:=tilde_ne x
     rw [litI_tilde] at k0
     rw [hnot n0 n1]
     refine iteF ?_
     have e0 : (("~" : Str) ++ x).cps.toList[0]? = some 126:=by rw [tilde_cps]; rfl
     refine ⟨_,rfl,_,0,126,rfl,rfl,hz2,atI_nat (j:=0) e0,rfl,_,rfl,?_⟩
     rw [show (⟨#[126]⟩ : Str) = "~" from tl.symm]
     refine eqS ?_
     refine ⟨_,rfl,_,rfl,_,rfl,_,1,rfl,rfl,rfl,hz2,?_⟩
     have ts : Txt.slice (("~" : Str) ++ x) (some 1) none = x:=by
      rw [str_eta (Txt.slice (("~" : Str) ++ x) (some 1) none),slice_tail,tilde_cps]
      exact (str_eta x).symm
     rw [ts]
     exact ⟨d,_,rfl,dget_kvI hd' hm,_,_,rfl,rfl,k0⟩
end
end Gen
namespace Gen
open PySem L2
structure Fit (M : Mach) (names : List Str) (bs cs : List Int) : Prop where
 ok : MachOk M names
 l1 : M.switches.length = bs.length
 l2 : M.keepers.length = cs.length
 b1 : ∀ b ∈ bs,b = 0 ∨ b = 1
 b2 : ∀ b ∈ cs,b = 0 ∨ b = 1
 n1 : M.switches.length ≤ 12
 n2 : M.keepers.length ≤ 16
 n3 : M.gates.length ≤ 60
section
variable {M : Mach} {names : List Str} {bs cs : List Int}
theorem Fit.nd (h : Fit M names bs cs) : (M.switches ++ M.keepers.map (·.1) ++ M.gates.map (·.1)).Nodup:=by have:=h.ok.nd; rw [h.ok.all] at this; exact this
theorem Fit.nm (h : Fit M names bs cs) : ∀ z ∈ M.switches ++ M.keepers.map (·.1) ++ M.gates.map (·.1),NameS z:=fun z hz=>h.ok.nm z (by rw [h.ok.all]; exact hz)
theorem Fit.len (h : Fit M names bs cs) (i : Nat) : (valsM M bs cs i).length ≤ 88:=by
 have:=congrArg List.length (keys_vals h.l1 h.l2 i)
 simp only [List.length_map,List.length_append,List.length_take] at this
 have:=h.n1
 have:=h.n2
 have:=h.n3
 omega
theorem Fit.gate (h : Fit M names bs cs) {i : Nat} (hi : i < M.gates.length) : M.gates[i].1 ∉ (valsM M bs cs i).map (·.1) ∧ LitIn (valsM M bs cs i) M.gates[i].2.1 ∧ LitIn (valsM M bs cs i) M.gates[i].2.2:=by
 rw [keys_vals h.l1 h.l2]
 have hn1 : ∀ x ∈ M.switches ++ M.keepers.map (·.1) ++ (M.gates.take i).map (·.1),NameS x:=fun x hx=>h.nm x (by
  rcases List.mem_append.mp hx with hx | hx
  · exact List.mem_append_left _ hx
  · obtain ⟨r,hr,e⟩:=List.mem_map.mp hx
    exact List.mem_append_right _ (List.mem_map.mpr ⟨r,List.mem_of_mem_take hr,e⟩))
 obtain ⟨g1,g2⟩:=h.ok.gl i _ (List.getElem?_eq_getElem hi)
 refine ⟨?_,g1.in_ hn1 fun x hx=>by rw [keys_vals h.l1 h.l2]; exact hx,g2.in_ hn1 fun x hx=>by rw [keys_vals h.l1 h.l2]; exact hx⟩
 have:=not_take (l:=M.gates.map (·.1)) (pre:=M.switches ++ M.keepers.map (·.1)) (post:=[]) (by simpa using h.nd) (i:=i) (by rw [List.length_map]; exact hi)
 rw [List.getElem_map,← List.map_take] at this
 exact this
end
def TupB (K : PySem.W.Frag) (H : Hp) (t : Addr) (bs : List Int) : Prop:=SqT K H t (bs.map V.int)
theorem TupB.same {K : PySem.W.Frag} {H H' : Hp} {t : Addr} {bs : List Int} (h : TupB K H t bs) (s : Same H H') : TupB K H' t bs:=Same.seqT s h
theorem SqT.keep {K : PySem.W.Frag} {H H' : Hp} {u : Addr} {xs : List V} (h : SqT K H u xs) (k : ∀ o,(∀ kvs,o ≠ .dK kvs) → (∀ l,o ≠ .lst l) → H u = some o → H' u = some o) : SqT K H' u xs:=by
 rcases h with (h | ⟨o,h⟩) | h
 · exact .inl (.inl (k _ (by intro _ z; cases z) (by intro _ z; cases z) h))
 · exact .inl (.inr ⟨o,k _ (by intro _ z; cases z) (by intro _ z; cases z) h⟩)
 · exact .inr h
end Gen
namespace Gen
open PySem L2
abbrev sValues : Stmt:=top 14
def spValues (K : PySem.W.Frag) : Sp:=fun vs H Q _=>∃ (m a1 a2 a3 a4 a5 a6 st tl : Addr) (M : Mach) (names : List Str) (bs cs : List Int),vs = [.ref m,.ref st,.ref tl] ∧ MachAt H m M a1 a2 a3 a4 a5 a6 ∧ Fit M names bs cs ∧ TupB K H st cs ∧ TupB K H tl bs ∧
 ∀ d H',H d = none → Same H H' → H' d = some (.dK (kvI (valsM M bs cs M.gates.length))) → Q (.ref d) H'
abbrev nVs : List Str:=["_law_m", "_law_stand", "_law_told", "_law_values_here", "_law_name", "_law_bit_here", "_law_keeper", "_law_one", "_law_other"]
abbrev pVs : List Str:=["_law_m", "_law_stand", "_law_told"]
theorem zip_take {α β : Type} {l : List α} {r : List β} {i : Nat} (h1 : i < l.length) (h2 : i < r.length) : (l.zip r).take (i + 1) = (l.zip r).take i ++ [(l[i],r[i])]:=by
 rw [List.take_succ,List.getElem?_eq_getElem (by rw [List.length_zip]; omega),List.getElem_zip]
 rfl
section
variable {P : Program} {w : World} {K : PySem.W.Frag} {mg : Str → Option Value} {base : Heap}
theorem scVs : FnScope nVs pVs (defScope sValues):=⟨rfl,rfl,rfl,by decide +kernel,rfl,by decide +kernel,by decide +kernel⟩
theorem ok_values {f fB : Addr} {fd dB : FuncData} (F : Fun K "_law_values" "_law_values" sValues f fd) (O : Own2 mg) (GB : FnOk P w K mg base CX0 1 fB dB ["_law_values_here", "_law_literal_here"] spLitV) (mB : mg "_law_bit" = some (.ref fB)) (kB : PySem.W.keepIn K (.ref fB) = true) (bB : Binds K dB ["_law_values_here", "_law_literal_here"] []) : FnOk P w K mg base CX0 2 f fd pVs (spValues K):=by
 refine F.ok scVs (fun vs H Q E h=>?_) (fun cdv A outer s H vs Q E hr h=>?_)
 · obtain ⟨m,a1,a2,a3,a4,a5,a6,st,tl,M,names,bs,cs,rfl,_⟩:=h
   rfl
 · obtain ⟨m,a1,a2,a3,a4,a5,a6,st,tl,M,names,bs,cs,rfl,hM,hf,hst,htl,kk⟩:=h
   have hu:=hu_of hr
   have hr1 : Room 1 _:=hr
   have l1:=hf.l1
   have l2:=hf.l2
   have n1:=hf.n1
   have n2:=hf.n2
   have n3:=hf.n3
   refine ⟨_,pss_cons (ps_set (i:=3) scVs.nd rfl (Or.inl rfl) pe_dnewK)
    (pss_cons (ps_for PassesOwn.never rfl (pi_zipL (by rfl) O.zip (pa_cons (pe_dget hu (pv 0) pe_str (fun _ _=>rfl)) (pa_cons (pv 2) pa_nil))) (pg_tup rfl (pgs_cons (pg_name (i:=4) scVs.nd rfl (Or.inl rfl)) (pgs_cons (pg_name (i:=5) scVs.nd rfl (Or.inl rfl)) pgs_nil)))
     (pss_one (ps_dput hu (pv 3) (pv 4) (pv 5) rfl)))
    (pss_cons (ps_for PassesOwn.never rfl (pi_zipL (by rfl) O.zip (pa_cons (pe_dget hu (pv 0) pe_str (fun _ _=>rfl)) (pa_cons (pv 1) pa_nil))) (pg_tup rfl (pgs_cons (pg_name (i:=6) scVs.nd rfl (Or.inl rfl)) (pgs_cons (pg_name (i:=5) scVs.nd rfl (Or.inl rfl)) pgs_nil)))
     (pss_one (ps_dput hu (pv 3) (pe_ix ix_tup (pv 6) pe_int (fun _ _=>rfl)) (pv 5) rfl)))
    (pss_cons (ps_for PassesOwn.never rfl (pi_list (pe_dget hu (pv 0) pe_str (fun _ _=>rfl))) (pg_tup rfl (pgs_cons (pg_name (i:=4) scVs.nd rfl (Or.inl rfl)) (pgs_cons (pg_name (i:=7) scVs.nd rfl (Or.inl rfl)) (pgs_cons (pg_name (i:=8) scVs.nd rfl (Or.inl rfl)) pgs_nil))))
     (pss_one (ps_dput hu (pv 3) (pv 4) (pe_op op_mul (pe_call GB hr1 rfl mB kB bB .nil pass0 (pa_cons (pv 3) (pa_cons (pv 7) pa_nil))) (pe_call GB hr1 rfl mB kB bB .nil pass0 (pa_cons (pv 3) (pa_cons (pv 8) pa_nil)))) rfl)))
    (pss_one (ps_ret (pv 3)))))),?_⟩
   intro d hd
   have kp : ∀ b o,H b = some o → b ≠ d:=fun b o hb=>ne_of_none hb hd
   have s1 : Same H (upd H d (.dK [])):=Same.upd_new hd
   have q1 : (upd H d (.dK [])) d = some (.dK (kvI ((M.switches.zip bs).take 0))):=upd_same
   generalize upd H d (.dK []) = H1 at s1 q1 ⊢
   have hM1:=hM.same s1
   have ndS : M.switches.Nodup:=(List.nodup_append.mp (List.nodup_append.mp hf.nd).1).1
   refine ⟨_,rfl,m,.ref a1,rfl,DGet.k (k:=.inr "switches") hM1.top,_,rfl,a1,tl,rfl,⟨_,SqL.of hM1.sw⟩,⟨_,Same.seqT s1 htl⟩,for_zip (K:=K) (tp:=false) (tq:=true) (a:=a1) (b:=tl) (xs:=M.switches.map V.str) (ys:=bs.map V.int) (by simp only [List.length_map]; omega)
    (fun i σ H2=>∃ v4 v5,σ = [some (.ref m),some (.ref st),some (.ref tl),some (.ref d),v4,v5,none,none,none] ∧ H2 d = some (.dK (kvI ((M.switches.zip bs).take i))) ∧ Same H H2) ?_ ?_ ?_ ?_⟩
   · exact ⟨none,none,rfl,q1,s1⟩
   · rintro i σ H2 _ ⟨_,_,_,_,s2⟩
     exact ⟨SqL.of (s2 _ _ hM.sw),Same.seqT s2 htl⟩
   · rintro i xv yv Tp σ H2 hx hy hT ⟨v4,v5,rfl,hd2,s2⟩
     have hi : i < M.switches.length:=by
      have:=(List.getElem?_eq_some_iff.mp hx).1
      rwa [List.length_map] at this
     have hib : i < bs.length:=by omega
     have ex : xv = .str M.switches[i]:=by
      rw [List.getElem?_map,List.getElem?_eq_getElem hi] at hx
      exact (Option.some.inj hx).symm
     have ey : yv = .int bs[i]:=by
      rw [List.getElem?_map,List.getElem?_eq_getElem hib] at hy
      exact (Option.some.inj hy).symm
     subst ex ey
     have ndT : d ≠ Tp:=ne_of_none hd2 hT
     have hd2' : (upd H2 Tp (.tup [.str M.switches[i],.int bs[i]])) d = some (.dK (kvI ((M.switches.zip bs).take i))):=by rw [upd_ne ndT]; exact hd2
     refine ⟨Tp,_,rfl,SqT.of upd_same,rfl,_,_,rfl,_,_,rfl,rfl,?_⟩
     refine ⟨_,rfl,_,rfl,_,rfl,d,_,rfl,DPut.k (k:=.inr M.switches[i]) hd2' ?_,?_⟩
     · unfold kvI
       rw [List.length_map,List.length_take,List.length_zip]
       exact small (by omega)
     · refine ⟨_,_,rfl,?_,fun b o hb=>?_⟩
       · rw [upd_same,put_kvI,zip_take hi hib]
         rw [List.map_take,keys_zip l1]
         have:=not_take (pre:=[]) (post:=[]) (by simpa using ndS) hi
         simpa using this
       · rw [upd_ne (kp b o hb),upd_ne (ne_of_none (s2 _ _ hb) hT)]
         exact s2 _ _ hb
   rintro σ H2 ⟨v4,v5,rfl,hd2,s2⟩
   rw [List.length_map,List.take_of_length_le (by rw [List.length_zip]; omega)] at hd2
   have hM2:=hM.same s2
   obtain ⟨us,hka,hus⟩:=id hM2.kp
   have hul:=hus.length
   rw [List.length_map] at hul
   have ndK:=(List.nodup_append.mp hf.nd).1
   refine ⟨_,rfl,m,.ref a2,rfl,DGet.k (k:=.inr "keepers") hM2.top,_,rfl,a2,st,rfl,⟨_,SqL.of hka⟩,⟨_,Same.seqT s2 hst⟩,for_zip (K:=K) (tp:=false) (tq:=true) (a:=a2) (b:=st) (xs:=us.map V.ref) (ys:=cs.map V.int) (by simp only [List.length_map]; omega)
    (fun i σ H3=>∃ v5 v6,σ = [some (.ref m),some (.ref st),some (.ref tl),some (.ref d),v4,v5,v6,none,none] ∧ H3 d = some (.dK (kvI (M.switches.zip bs ++ ((M.keepers.map (·.1)).zip cs).take i))) ∧ (∀ b o,H2 b = some o → b ≠ d → H3 b = some o)) ?_ ?_ ?_ ?_⟩
   · exact ⟨v5,none,rfl,by rw [List.take_zero,List.append_nil]; exact hd2,fun _ _ h _=>h⟩
   · rintro i σ H3 _ ⟨_,_,_,_,s3⟩
     refine ⟨SqL.of (s3 _ _ hka ?_),SqT.keep (Same.seqT s2 hst) fun o hno _ ho=>s3 _ _ ho (ne_of ho hd2 (hno _))⟩
     exact ne_of hka hd2 (by intro z; cases z)
   · rintro i xv yv Tp σ H3 hx hy hT ⟨v5',v6,rfl,hd3,s3⟩
     have hi : i < M.keepers.length:=by
      have:=(List.getElem?_eq_some_iff.mp hx).1
      rw [List.length_map] at this
      omega
     have hib : i < cs.length:=by omega
     obtain ⟨t,ht,hTt⟩:=paired_at hus (i:=i) (b:=rowK M.keepers[i]) (by rw [List.getElem?_map,List.getElem?_eq_getElem hi]; rfl)
     have ex : xv = .ref t:=by
      rw [List.getElem?_map,ht] at hx
      exact (Option.some.inj hx).symm
     have ey : yv = .int cs[i]:=by
      rw [List.getElem?_map,List.getElem?_eq_getElem hib] at hy
      exact (Option.some.inj hy).symm
     subst ex ey
     have ndT : d ≠ Tp:=ne_of_none hd3 hT
     have hd3' : (upd H3 Tp (.tup [.ref t,.int cs[i]])) d = some (.dK (kvI (M.switches.zip bs ++ ((M.keepers.map (·.1)).zip cs).take i))):=by rw [upd_ne ndT]; exact hd3
     have htd : t ≠ d:=ne_of hTt hd2 (by intro z; cases z)
     have ht3:=s3 _ _ hTt htd
     have ntT : t ≠ Tp:=ne_of_none ht3 hT
     refine ⟨Tp,_,rfl,SqT.of upd_same,rfl,_,_,rfl,_,_,rfl,rfl,?_⟩
     refine ⟨_,rfl,_,rfl,_,rfl,t,_,0,.str M.keepers[i].1,rfl,rfl,SqT.of (by rw [upd_ne ntT]; exact ht3),at0,d,_,rfl,DPut.k (k:=.inr M.keepers[i].1) hd3' ?_,?_⟩
     · unfold kvI
       simp only [List.length_map,List.length_append,List.length_take,List.length_zip]
       exact small (by omega)
     · refine ⟨_,_,rfl,?_,fun b o hb hbd=>?_⟩
       · rw [upd_same,put_kvI]
         · rw [zip_take (by rw [List.length_map]; exact hi) hib,List.getElem_map,List.append_assoc]
         · rw [List.map_append,keys_zip l1,List.map_take,keys_zip (by rw [List.length_map]; exact l2)]
           have:=not_take (l:=M.keepers.map (·.1)) (pre:=M.switches) (post:=[]) (by simpa using ndK) (i:=i) (by rw [List.length_map]; exact hi)
           rw [List.getElem_map] at this
           exact this
       · rw [upd_ne hbd,upd_ne (ne_of_none (s3 _ _ hb hbd) hT)]
         exact s3 _ _ hb hbd
   rintro σ H3 ⟨v5',v6,rfl,hd3,s3⟩
   rw [List.length_map,hul,List.take_of_length_le (by rw [List.length_zip,List.length_map]; omega)] at hd3
   have s03 : Same H H3:=fun b o hb=>s3 _ _ (s2 _ _ hb) (kp b o hb)
   have hM3:=hM.same s03
   obtain ⟨ts,hga,hgs⟩:=id hM3.gt
   have hgl:=hgs.length
   rw [List.length_map] at hgl
   refine ⟨_,rfl,m,.ref a3,rfl,DGet.k (k:=.inr "gates") hM3.top,a3,rfl,⟨_,SqL.of hga⟩,for_list (K:=K) (a:=a3) (xs:=ts.map V.ref) (fun i σ H4=>∃ v4 v7 v8,σ = [some (.ref m),some (.ref st),some (.ref tl),some (.ref d),v4,v5',v6,v7,v8] ∧ H4 d = some (.dK (kvI (valsM M bs cs i))) ∧ (∀ b o,H3 b = some o → b ≠ d → H4 b = some o)) ?_ ?_ ?_ ?_⟩
   · exact ⟨v4,none,none,rfl,hd3,fun _ _ h _=>h⟩
   · rintro i σ H4 _ ⟨_,_,_,_,_,s4⟩
     exact SqL.of (s4 _ _ hga (ne_of hga hd3 (by intro z; cases z)))
   · rintro i xv σ H4 hx ⟨v4',v7,v8,rfl,hd4,s4⟩
     have hil : i < (ts.map V.ref).length:=(List.getElem?_eq_some_iff.mp hx).1
     rw [List.length_map,hgl] at hil
     obtain ⟨t,ht,hT⟩:=paired_at hgs (i:=i) (b:=rowG M.gates[i]) (by rw [List.getElem?_map,List.getElem?_eq_getElem hil]; rfl)
     have ex : xv = .ref t:=by
      rw [List.getElem?_map,ht] at hx
      exact (Option.some.inj hx).symm
     subst ex
     obtain ⟨hnew,hl1,hl2⟩:=hf.gate hil
     have hbt:=bits_vals (M:=M) hf.b1 hf.b2 i
     refine ⟨t,_,rfl,SqT.of (s4 _ _ hT (ne_of hT hd3 (by intro z; cases z))),rfl,_,_,rfl,_,_,rfl,_,_,rfl,rfl,?_⟩
     refine ⟨_,rfl,_,rfl,d,_,_,rfl,.inl hd4,hl1,fun H5 s5=>?_⟩
     refine ⟨_,rfl,_,rfl,d,_,_,rfl,.inl (s5 _ _ hd4),hl2,fun H6 s6=>?_⟩
     have hd6:=s6 _ _ (s5 _ _ hd4)
     have hlen:=hf.len i
     refine ⟨_,_,rfl,rfl,.inl ?_,?_⟩
     · rcases litI_bit hbt M.gates[i].2.1 with e | e <;> rw [e] <;> decide
     refine ⟨_,rfl,_,rfl,d,_,rfl,DPut.k (k:=.inr M.gates[i].1) hd6 (by unfold kvI; rw [List.length_map]; exact small (by omega)),?_⟩
     refine ⟨_,_,_,rfl,?_,fun b o hb hbd=>?_⟩
     · rw [upd_same,put_kvI hnew,vals_succ hil]
       rfl
     · rw [upd_ne hbd]
       exact s6 _ _ (s5 _ _ (s4 _ _ hb hbd))
   · rintro σ H4 ⟨v4',v7,v8,rfl,hd4,s4⟩
     rw [List.length_map,hgl] at hd4
     exact ⟨_,rfl,kk d H4 hd (fun b o hb=>s4 _ _ (s03 _ _ hb) (kp b o hb)) hd4⟩
end
end Gen
namespace Gen
open PySem L2
def nextL (l : List (Str × Str)) (n : Str) : Str:=((l.find? fun r=>decide (r.1 = n)).map (·.2)).getD n
theorem next_L (n : Str) : ∀ l : List (Str × Str),(valV (kvS l) (.inr n)).getD (.str n) = .str (nextL l n)
 | []=>rfl
 | r :: l=>by
  by_cases e : r.1 = n
  · have h1 : valV (kvS (r :: l)) (.inr n) = some (.str r.2):=valV_pos (p:=((.inr r.1 : Key),V.str r.2)) (by rw [e])
    rw [h1,nextL,List.find?_cons_of_pos (by simpa using e)]
    rfl
  · have h1 : valV (kvS (r :: l)) (.inr n) = valV (kvS l) (.inr n):=valV_neg (p:=((.inr r.1 : Key),V.str r.2)) (fun q=>e (Sum.inr.inj q))
    rw [h1,next_L n l,nextL,nextL,List.find?_cons_of_neg (by simpa using e)]
def stepM (M : Mach) (bs cs : List Int) : List Int:=M.keepers.map fun r=>litI (valsM M bs cs M.gates.length) (nextL M.nexts r.1)
section
variable {M : Mach} {names : List Str} {bs cs : List Int}
theorem Fit.keys (h : Fit M names bs cs) : (valsM M bs cs M.gates.length).map (·.1) = names:=by rw [keys_vals h.l1 h.l2,List.take_length,h.ok.all]
theorem Fit.next (h : Fit M names bs cs) {r : Str × V} (hr : r ∈ M.keepers) : LitIn (valsM M bs cs M.gates.length) (nextL M.nexts r.1):=by
 have hk:=h.keys
 unfold nextL
 cases e : M.nexts.find? fun q=>decide (q.1 = r.1) with
 | none =>
  have hm : r.1 ∈ names:=by rw [h.ok.all]; exact List.mem_append_left _ (List.mem_append_right _ (List.mem_map.mpr ⟨r,hr,rfl⟩))
  exact .inr (.inr (.inl ⟨h.ok.nm _ hm,by rw [hk]; exact hm⟩))
 | some q=>exact (h.ok.nxl q (List.mem_of_find?_eq_some e)).in_ h.ok.nm fun x hx=>by rw [hk]; exact hx
theorem stepM_len : (stepM M bs cs).length = M.keepers.length:=by unfold stepM; rw [List.length_map]
theorem Fit.step_bits (h : Fit M names bs cs) : ∀ b ∈ stepM M bs cs,b = 0 ∨ b = 1:=fun b hb=>by
 obtain ⟨r,_,rfl⟩:=List.mem_map.mp hb
 exact litI_bit (bits_vals h.b1 h.b2 _) _
end
structure Fm (M : Mach) (names : List Str) : Prop where
 ok : MachOk M names
 n1 : M.switches.length ≤ 12
 n2 : M.keepers.length ≤ 16
 n3 : M.gates.length ≤ 60
def BitsN (n : Nat) (bs : List Int) : Prop:=n = bs.length ∧ ∀ b ∈ bs,b = 0 ∨ b = 1
theorem Fm.fit {M : Mach} {names : List Str} {bs cs : List Int} (h : Fm M names) (hb : BitsN M.switches.length bs) (hc : BitsN M.keepers.length cs) : Fit M names bs cs:=⟨h.ok,hb.1,hc.1,hb.2,hc.2,h.n1,h.n2,h.n3⟩
theorem Fm.step {M : Mach} {names : List Str} {bs cs : List Int} (h : Fm M names) (hb : BitsN M.switches.length bs) (hc : BitsN M.keepers.length cs) : BitsN M.keepers.length (stepM M bs cs):=⟨stepM_len.symm,(h.fit hb hc).step_bits⟩
end Gen
namespace Gen
open PySem L2
abbrev sNext : Stmt:=top 16
theorem TupI.k {K : PySem.W.Frag} {H : Hp} {t : Addr} {bs : List Int} (h : H t = some (.tup (bs.map V.int))) : TupB K H t bs:=SqT.of h
def TupI (H : Hp) (t : Addr) (bs : List Int) : Prop:=H t = some (.tup (bs.map V.int))
def spNext (K : PySem.W.Frag) : Sp:=fun vs H Q _=>∃ (m a1 a2 a3 a4 a5 a6 st tl : Addr) (M : Mach) (names : List Str) (bs cs : List Int),vs = [.ref m,.ref st,.ref tl] ∧ MachAt H m M a1 a2 a3 a4 a5 a6 ∧ Fit M names bs cs ∧ TupB K H st cs ∧ TupB K H tl bs ∧
 ∀ t H',H t = none → Same H H' → TupI H' t (stepM M bs cs) → Q (.ref t) H'
abbrev nNx : List Str:=["_law_m", "_law_stand", "_law_told", "_law_values_here", "_law_nexts"]
theorem ndNx : (["_law_name", "_law_first", "_law_values_here", "_law_nexts"] : List Str).Nodup:=by decide +kernel
theorem paired_unmap {α β γ : Type} {F : α → β → Prop} {g : γ → β} : ∀ {us : List α} {l : List γ},Paired F us (l.map g) → Paired (fun t r=>F t (g r)) us l
 | [],[],_=>.nil
 | _ :: _,_ :: _,.cons h t=>.cons h (paired_unmap t)
 | _ :: _,[],h=>nomatch h
 | [],_ :: _,h=>nomatch h
theorem paired_map' {α β γ : Type} {F : α → β → Prop} {g : γ → β} : ∀ {us : List α} {l : List γ},Paired (fun t r=>F t (g r)) us l → Paired F us (l.map g)
 | _,_,.nil=>.nil
 | _,_,.cons h t=>.cons h (paired_map' t)
theorem merge_new : ∀ (l : List (Str × Str)) (acc : List (Str × Str)),((acc ++ l).map (·.1)).Nodup → mergeK (kvS acc) (kvS l) = kvS (acc ++ l)
 | [],acc,_=>by rw [List.append_nil]; rfl
 | r :: l,acc,h=>by
  have e : acc ++ r :: l = (acc ++ [r]) ++ l:=by simp
  have hn : r.1 ∉ acc.map (·.1):=fun hm=>by
   rw [List.map_append] at h
   exact (List.nodup_append.mp h).2.2 _ hm _ (by simp) rfl
  have h1 : putK (kvS acc) (.inr r.1) (.str r.2) = kvS (acc ++ [r]):=by
   rw [putK_new _ (none_kvS hn)]
   unfold kvS
   rw [List.map_append]
   rfl
  show mergeK (putK (kvS acc) (.inr r.1) (.str r.2)) (kvS l) = _
  rw [h1,e]
  exact merge_new l (acc ++ [r]) (by rw [← e]; exact h)
section
variable {P : Program} {w : World} {K : PySem.W.Frag} {mg : Str → Option Value} {base : Heap}
theorem scNx : FnScope nNx pVs (defScope sNext):=⟨rfl,rfl,rfl,by decide +kernel,rfl,by decide +kernel,by decide +kernel⟩
theorem ok_next8 {f fV fB : Addr} {fd dV dB : FuncData} (F : Fun K "_law_next" "_law_next" sNext f fd) (O2 : Own2 mg)
 (GV : FnOk P w K mg base CX0 2 fV dV pVs (spValues K)) (mV : mg "_law_values" = some (.ref fV)) (kV' : PySem.W.keepIn K (.ref fV) = true) (bV : Binds K dV pVs [])
 (GB : FnOk P w K mg base CX0 1 fB dB ["_law_values_here", "_law_literal_here"] spLitV) (mB : mg "_law_bit" = some (.ref fB)) (kB : PySem.W.keepIn K (.ref fB) = true) (bB : Binds K dB ["_law_values_here", "_law_literal_here"] []) : FnOk P w K mg base CX0 3 f fd pVs (spNext K):=by
 refine F.ok scNx (fun vs H Q E h=>?_) (fun cdv A outer s H vs Q E hr h=>?_)
 · obtain ⟨m,a1,a2,a3,a4,a5,a6,st,tl,M,names,bs,cs,rfl,_⟩:=h
   rfl
 · obtain ⟨m,a1,a2,a3,a4,a5,a6,st,tl,M,names,bs,cs,rfl,hM,hf,hst,htl,kk⟩:=h
   have hu:=hu_of hr
   have hr1 : Room 1 _:=hr.mono (by decide)
   refine ⟨_,pss_cons (ps_set (i:=3) scNx.nd rfl (Or.inr rfl) (pe_call GV hr rfl mV kV' bV .nil pass0 (pa_cons (pv 0) (pa_cons (pv 1) (pa_cons (pv 2) pa_nil)))))
    (pss_cons (ps_set (i:=4) scNx.nd rfl (Or.inr rfl) (pe_callTy (call_dict_pairs rfl) (by rfl) O2.dict PyProof.Rows.boot_dict (pa_cons (pe_dget hu (pv 0) pe_str (fun _ _=>rfl)) pa_nil)))
    (pss_one (ps_ret (pe_callTy call_tuple_of (by rfl) O2.tuple PyProof.Rows.boot_tuple (pa_cons (pe_lc (N:=["_law_name", "_law_first", "_law_values_here", "_law_nexts"]) (js:=[none,none,some 3,some 4]) (g:=gTup K 2 (gCons (gName 0) (gCons (gName 1) gNil))) (by kernel_rfl) rfl (pi_list (pe_dget hu (pv 0) pe_str (fun _ _=>rfl)))
     (fun _ _ _ _ _ _=>pg_tup rfl (pgs_cons (pg_name (i:=0) ndNx rfl (Or.inl rfl) (.inr rfl)) (pgs_cons (pg_name (i:=1) ndNx rfl (Or.inl rfl) (.inr rfl)) pgs_nil))) (fun _ _ _ _ _ _=>pifs_nil)
     (fun _ _ _ _ _ _=>pe_call GB hr1 rfl mB kB bB .nil pass0 (pa_cons (pv 2) (pa_cons (pe_dget2 hu (pv 3) (pv 0) (pv 0) ⟨rfl,rfl,rfl,rfl⟩) pa_nil)))) pa_nil))))),?_⟩
   refine ⟨_,rfl,_,rfl,_,rfl,m,a1,a2,a3,a4,a5,a6,st,tl,M,names,bs,cs,rfl,hM,hf,hst,htl,fun d H1 hd s1 hd1=>?_⟩
   have hM1:=hM.same s1
   obtain ⟨us,ha,hus⟩:=id hM1.nx
   have hus2 : Paired (fun t kv=>H1 t = some (.tup [kV kv.1,kv.2])) us (kvS M.nexts):=paired_map' (g:=fun r : Str × Str=>((.inr r.1 : Key),V.str r.2)) (paired_unmap (g:=row2) hus)
   refine ⟨_,rfl,m,.ref a4,rfl,DGet.k (k:=.inr "nexts") hM1.top,a4,us,kvS M.nexts,rfl,ha,hus2,fun e he=>?_⟩
   rw [show mergeK [] (kvS M.nexts) = kvS M.nexts from merge_new M.nexts [] hf.ok.nxd]
   have s2 : Same H1 (upd H1 e (.dK (kvS M.nexts))):=Same.upd_new he
   have q2 : (upd H1 e (.dK (kvS M.nexts))) e = some (.dK (kvS M.nexts)):=upd_same
   generalize upd H1 e (.dK (kvS M.nexts)) = H2 at s2 q2 ⊢
   have hM2:=hM1.same s2
   have hd2:=s2 _ _ hd1
   obtain ⟨ws,hb,hws⟩:=id hM2.kp
   have hwl:=hws.length
   rw [List.length_map] at hwl
   have n2:=hf.n2
   have s02:=s1.trans s2
   refine ⟨_,rfl,m,.ref a2,rfl,DGet.k (k:=.inr "keepers") hM2.top,a2,rfl,⟨_,SqL.of hb⟩,fun D hD=>?_⟩
   refine lc_by M.keepers.length (fun i acc σ H3=>acc = ((stepM M bs cs).take i).map V.int ∧ (∃ u v,σ = [u,v,some (.ref d),some (.ref e)]) ∧ Same H2 H3) ⟨rfl,⟨none,none,rfl⟩,Same.upd_new hD⟩ upd_same ?_ ?_
   · rintro acc σ H3 hDD ⟨rfl,_,s3⟩
     rw [List.take_of_length_le (by rw [stepM_len]; exact Nat.le_refl _)] at hDD
     refine ⟨⟨_,SqL.of (s3 _ _ hb),by rw [List.length_map,hwl]; exact Nat.le_refl _⟩,D,_,rfl,.inl ⟨SqL.of hDD,fun t ht=>?_⟩⟩
     exact kk t _ (s02.free (s3.free ht)) ((s02.trans s3).trans (Same.upd_new ht)) upd_same
   · rintro i acc σ H3 hi hDD ⟨rfl,⟨u,v,rfl⟩,s3⟩
     obtain ⟨t,ht,hT⟩:=paired_at hws (i:=i) (b:=rowK M.keepers[i]) (by rw [List.getElem?_map,List.getElem?_eq_getElem hi]; rfl)
     have ei : (ws.map V.ref)[i]? = some (.ref t):=by rw [List.getElem?_map,ht]; rfl
     refine ⟨⟨_,_,SqL.of (s3 _ _ hb),ei⟩,?_⟩
     rintro x' H' ⟨rfl,hall⟩
     have ex:=hall _ (SqL.of (s3 _ _ hb))
     rw [ei] at ex
     cases ex
     refine ⟨t,_,rfl,SqT.of (s3 _ _ hT),rfl,_,_,rfl,_,_,rfl,rfl,yes_if ?_⟩
     have q3:=s3 _ _ q2
     refine ⟨_,rfl,_,rfl,e,rfl,.inl ⟨_,.inl q3⟩,_,rfl,_,rfl,_,DGet.k (k:=.inr M.keepers[i].1) q3,?_⟩
     rw [next_L]
     refine ⟨d,_,_,rfl,.inl (s3 _ _ hd2),hf.next (List.getElem_mem hi),fun H4 s4=>?_⟩
     refine ⟨_,s4 _ _ hDD,?_,lcW_next hi upd_same ⟨?_,⟨_,_,rfl⟩,?_⟩⟩
     · rw [List.length_map,List.length_take]
       exact small (by omega)
     · have e : (stepM M bs cs)[i]? = some (litI (valsM M bs cs M.gates.length) (nextL M.nexts M.keepers[i].1)):=by
        unfold stepM
        rw [List.getElem?_map,List.getElem?_eq_getElem hi]
        rfl
       rw [List.take_succ,e,List.map_append]
       rfl
     · intro y o hy
       rw [upd_ne (ne_of_none hy hD)]
       exact s4 y o (s3 y o hy)
end
end Gen
namespace L2
open PySem PySem.Spec PyProof.Rows
def rev : Nat → Nat → Nat
 | 0,_=>0
 | k + 1,i=>(i % 2) * 2 ^ k + rev k (i / 2)
def cB (k i j : Nat) : Bool:=Nat.blt (rev k i) (rev k j)
def place (c : Nat → Nat → Bool) (p : Array Nat) (lo k : Nat) : Nat → Nat → Nat → Nat
 | 0,l,_=>l
 | f + 1,l,r=>if l ≥ r then l else if c (p.getD (lo + k) 0) (p.getD (lo + (l + r) / 2) 0) = true then place c p lo k f l ((l + r) / 2) else place c p lo k f ((l + r) / 2 + 1) r
def binF (c : Nat → Nat → Bool) (lo : Nat) : Nat → Nat → Array Nat → Array Nat
 | 0,_,p=>p
 | f + 1,k,p=>binF c lo f (k + 1) (bubble p (lo + k) (lo + k - (lo + place c p lo k k 0 k)))
theorem swaps_map {α β : Type} (f : α → β) (u v : Nat → Nat) : ∀ (l : List Nat) (xs : Array α),l.foldl (fun a k=>a.swapIfInBounds (u k) (v k)) (xs.map f) = (l.foldl (fun a k=>a.swapIfInBounds (u k) (v k)) xs).map f
 | [],_=>rfl
 | k :: l,xs=>by
  rw [List.foldl_cons,List.foldl_cons,PySem.W.kas_swap_map]
  exact swaps_map f u v l _
section
variable {prog : Program} {w : World} {A : Around} {E : Value → Shared → Prop} {s : Shared} {κ : SortKind} {it : Nat → Keyed} {N : Nat} {c : Nat → Nat → Bool} {p : Array Nat} {pd : Array (Nat × Nat × Nat)}
def Pcmp (prog : Program) (w : World) (A : Around) (s : Shared) (κ : SortKind) (it : Nat → Keyed) (N : Nat) (c : Nat → Nat → Bool) : Prop :=
 ∀ i j,i < N → j < N → ∀ (E : Value → Shared → Prop) (Q : Bool → Shared → Prop),Q (c i j) s → wpAny (model prog w) A (keyLt' κ (it i).1 (it j).1) Q E s
def pst (κ : SortKind) (it : Nat → Keyed) (p : Array Nat) (pd : Array (Nat × Nat × Nat)) : SortSt:=SortSt.mk' κ (p.map it) pd 7 none
def Bnd (N : Nat) (p : Array Nat) : Prop:=∀ i,i < p.size → p.getD i 0 < N
theorem p_lt (C : Pcmp prog w A s κ it N c) {st : SortSt} {i j : Nat} {Q : Option Bool → SortSt → Prop} (hk : kindOf st = κ) (hi : i < N) (hj : j < N) (h : Q (some (c i j)) st) : wpS (model prog w) A E s (lt' (it i) (it j)) Q st:=by
 rw [lt'_eq]
 refine wpS_bind (wpS_get ?_)
 rw [hk]
 refine wpS_bind (wpS_lift (wpAny_attempt (C i j hi hj _ _ ⟨rfl,?_⟩)))
 exact wpS_pure h
theorem p_elem {st : SortSt} {i : Nat} {Q : Keyed → SortSt → Prop} (hi : i < p.size) (h : Q (it (p.getD i 0)) st) : wpS (model prog w) A E s (elem' (p.map it) i) Q st:=by
 rw [elem'_eq]
 have e : (p.map it)[i]? = some (it (p.getD i 0)):=by simp [Array.getD,hi]
 rw [e]
 exact wpS_pure h
theorem p_at (C : Pcmp prog w A s κ it N c) {i j : Nat} {Q : Option Bool → SortSt → Prop} (B : Bnd N p) (hi : i < p.size) (hj : j < p.size) (h : Q (some (c (p.getD i 0) (p.getD j 0))) (pst κ it p pd)) : wpS (model prog w) A E s (ltAt' i j) Q (pst κ it p pd):=by
 rw [ltAt'_eq]
 refine wpS_bind (wpS_get (wpS_bind (p_elem hi (wpS_bind (p_elem hj ?_)))))
 exact p_lt C rfl (B i hi) (B j hj) h
theorem p_move {k l : Nat} {Q : Unit → SortSt → Prop} (h : Q () (pst κ it (bubble p k (k - l)) pd)) : wpS (model prog w) A E s (moveDown' k l) Q (pst κ it p pd):=by
 rw [moveDown'_eq]
 refine wpS_modify ?_
 have e : bubble (p.map it) k (k - l) = (bubble p k (k - l)).map it:=swaps_map it (fun i=>k - i) (fun i=>k - i - 1) _ p
 show Q () (SortSt.mk' κ (bubble (p.map it) k (k - l)) pd 7 none)
 rw [e]
 exact h
theorem Bnd.perm {q : Array Nat} (B : Bnd N p) (h : q.Perm p) : Bnd N q:=fun i hi=>by
 have hs : q.size = p.size:=h.size_eq
 have hm : q.getD i 0 ∈ p:=h.mem_iff.mp (by
  have : q.getD i 0 = q[i]:=by simp [Array.getD,hi]
  rw [this]
  exact Array.getElem_mem hi)
 obtain ⟨j,hj,e⟩:=Array.mem_iff_getElem.mp hm
 rw [← e]
 have : p.getD j 0 = p[j]:=by simp [Array.getD,hj]
 rw [← this]
 exact B j hj
theorem p_bin (C : Pcmp prog w A s κ it N c) {lo n ok : Nat} {Q : Bool → SortSt → Prop} (B : Bnd N p) (hz : lo + n ≤ p.size) (hok : 1 ≤ ok) (hn : ok ≤ n) (h : Q true (pst κ it (binF c lo (n - ok) ok p) pd)) : wpS (model prog w) A E s (binarySort' lo n ok) Q (pst κ it p pd):=by
 rw [binarySort'_eq]
 have hm : max ok 1 = ok:=by omega
 rw [hm]
 refine wpS_bind (wpS_mono (wpS_forRange (I:=fun k d st'=>d = (none,()) ∧ ∃ q : Array Nat,st' = pst κ it q pd ∧ q.Perm p ∧ binF c lo (n - k) k q = binF c lo (n - ok) ok p)
  (Q:=fun d st'=>d = (none,()) ∧ st' = pst κ it (binF c lo (n - ok) ok p) pd) ?step ?fin ⟨rfl,p,rfl,Array.Perm.refl _,rfl⟩) ?post)
 case post =>
  rintro d st' ⟨rfl,rfl⟩
  exact wpS_pure h
 case fin =>
  rintro d st' ⟨rfl,q,rfl,_,e⟩
  refine ⟨rfl,?_⟩
  rw [show n - max ok n = 0 by omega] at e
  rw [← e]
  rfl
 case step =>
  rintro k d st' hk hkn ⟨rfl,q,rfl,hq,e⟩
  have hs : q.size = p.size:=hq.size_eq
  have Bq:=B.perm hq
  refine wpS_bind (wpS_mono (wpS_forRange (I:=fun x d st''=>st'' = pst κ it q pd ∧ ∃ l r,d = (none,l,r) ∧ l ≤ r ∧ r ≤ k ∧ place c q lo k (k - x) l r = place c q lo k k 0 k)
   (Q:=fun d st''=>st'' = pst κ it q pd ∧ ∃ l r,d = (none,l,r) ∧ l = place c q lo k k 0 k) ?istep ?ifin ⟨rfl,0,k,rfl,by omega,by omega,rfl⟩) ?ipost)
  case ifin =>
   rintro d st'' ⟨rfl,l,r,rfl,h1,h2,e2⟩
   refine ⟨rfl,l,r,rfl,?_⟩
   rw [show k - max 0 k = 0 by omega] at e2
   exact e2
  case istep =>
   rintro x d st'' _ hx ⟨rfl,l,r,rfl,h1,h2,e2⟩
   obtain ⟨f,hf⟩ : ∃ f,k - x = f + 1:=⟨k - x - 1,by omega⟩
   have hf2 : k - (x + 1) = f:=by omega
   rw [hf,place] at e2
   dsimp only
   by_cases hge : l ≥ r
   · rw [if_pos hge] at e2 ⊢
     exact wpS_pure ⟨rfl,l,r,rfl,e2⟩
   · rw [if_neg hge] at e2 ⊢
     refine wpS_bind (p_at C Bq (by omega) (by omega) ?_)
     dsimp only
     cases hc : c (q.getD (lo + k) 0) (q.getD (lo + (l + r) / 2) 0) with
     | true =>
      rw [hc,if_pos rfl] at e2
      rw [if_pos rfl]
      exact wpS_pure ⟨rfl,l,(l + r) / 2,rfl,by omega,by omega,by rw [hf2]; exact e2⟩
     | false =>
      rw [hc,if_neg (by decide)] at e2
      rw [if_neg (by decide)]
      exact wpS_pure ⟨rfl,(l + r) / 2 + 1,r,rfl,by omega,by omega,by rw [hf2]; exact e2⟩
  case ipost =>
   rintro d st'' ⟨rfl,l,r,rfl,e2⟩
   refine wpS_bind (p_move (wpS_pure ⟨rfl,_,rfl,(bubble_perm _ _ _).trans hq,?_⟩))
   obtain ⟨f,hf⟩ : ∃ f,n - k = f + 1:=⟨n - k - 1,by omega⟩
   rw [hf,binF,← e2] at e
   rw [show n - (k + 1) = f by omega]
   exact e
theorem p_count2 (C : Pcmp prog w A s κ it N c) {lo n : Nat} {Q : Option Nat → SortSt → Prop} (B : Bnd N p) (hz : lo + n ≤ p.size) (hn : 3 ≤ n) (h1 : c (p.getD (lo + 1) 0) (p.getD lo 0) = false) (h2 : c (p.getD (lo + 2) 0) (p.getD (lo + 1) 0) = true) (h3 : c (p.getD lo 0) (p.getD (lo + 1) 0) = true)
 (h : Q (some 2) (pst κ it p pd)) : wpS (model prog w) A E s (countRun' lo n) Q (pst κ it p pd):=by
 rw [countRun'_eq]
 refine wpS_bind (wpS_mono (wpS_forRange (I:=fun x d st'=>st' = pst κ it p pd ∧ ((x = 1 ∧ d = (none,1)) ∨ (x = 2 ∧ d = (none,2))))
  (Q:=fun d st'=>st' = pst κ it p pd ∧ d = (none,2)) ?step ?fin ⟨rfl,.inl ⟨rfl,rfl⟩⟩) ?post)
 case fin =>
  rintro d st' ⟨rfl,⟨e,rfl⟩ | ⟨e,rfl⟩⟩
  · omega
  · exact ⟨rfl,rfl⟩
 case step =>
  rintro x d st' hx hxn ⟨rfl,⟨rfl,rfl⟩ | ⟨rfl,rfl⟩⟩
  · refine wpS_bind (p_at C B (by omega) (by omega) ?_)
    rw [show lo + 1 - 1 = lo by omega,h1]
    exact wpS_pure ⟨rfl,.inr ⟨rfl,rfl⟩⟩
  · refine wpS_bind (p_at C B (by omega) (by omega) ?_)
    rw [show lo + 2 - 1 = lo + 1 by omega,h2]
    exact wpS_pure ⟨rfl,rfl⟩
 case post =>
  rintro d st' ⟨rfl,rfl⟩
  dsimp only
  rw [if_neg (by simp; omega),if_pos (by omega)]
  refine wpS_bind (p_at C B (by omega) (by omega) ?_)
  rw [show lo + 2 - 1 = lo + 1 by omega,h3]
  exact wpS_pure h
end
end L2
namespace L2
open PySem PySem.Spec PyProof.Rows
section
variable {prog : Program} {w : World} {A : Around} {E : Value → Shared → Prop} {s : Shared} {κ : SortKind} {it : Nat → Keyed} {N : Nat} {c : Nat → Nat → Bool} {p : Array Nat} {pd : Array (Nat × Nat × Nat)}
def gallop' : Bool → Keyed → Array Keyed → Nat → Nat → Nat → StateT SortSt Sem (Option Nat):=sortPriv% PySem.Builtin.gallop
def mergeLo' : Array Keyed → Array Keyed → StateT SortSt Sem (Array Keyed):=sortPriv% PySem.Builtin.mergeLo
theorem gal_one (C : Pcmp prog w A s κ it N c) {kb n base : Nat} {Q : Option Nat → SortSt → Prop} {st : SortSt} (hk : kindOf st = κ) (B : Bnd N p) (hb : kb < N) (hn : 2 ≤ n) (hz : base + n ≤ p.size) (h1 : c kb (p.getD base 0) = false) (h2 : c kb (p.getD (base + 1) 0) = true) (h : Q (some 1) st) :
 wpS (model prog w) A E s (gallop' false (it kb) (p.map it) base n 0) Q st:=by
 refine wpS_bind (wpS_bind (p_elem (show base + 0 < p.size by omega) ?_))
 rw [if_neg (by decide)]
 refine wpS_bind (p_lt C hk hb (B _ (by omega)) ?_)
 rw [Nat.add_zero,h1]
 refine wpS_pure ?_
 show wpS _ _ _ _ (do
  let r ← _
  _) _ _
 refine wpS_bind (wpS_mono (wpS_forRange (I:=fun x d st'=>st' = st ∧ x = 0 ∧ d = (none,0,1)) (Q:=fun d st'=>st' = st ∧ d = (none,0,1)) ?step ?fin ⟨rfl,rfl,rfl⟩) ?post)
 case fin =>
  rintro d st' ⟨_,e,_⟩
  omega
 case step =>
  rintro x d st' _ hx ⟨rfl,rfl,rfl⟩
  dsimp only
  rw [if_neg (by omega)]
  refine wpS_bind (wpS_bind (p_elem (show base + (0 + 1) < p.size by omega) ?_))
  rw [if_neg (by decide)]
  refine wpS_bind (p_lt C hk hb (B _ (by omega)) ?_)
  rw [Nat.zero_add,h2]
  exact wpS_pure (wpS_pure ⟨rfl,rfl⟩)
 case post =>
  rintro d st' ⟨rfl,rfl⟩
  dsimp only
  refine wpS_bind (wpS_mono (wpS_forRange (I:=fun x d st''=>st'' = st' ∧ d = (none,1,1)) (Q:=fun d st''=>st'' = st' ∧ d = (none,1,1)) ?step2 (fun _ _ z=>z) ⟨rfl,?ini⟩) ?post2)
  case ini =>
   rw [Nat.min_eq_left (by omega)]
  case step2 =>
   rintro x d st'' _ hx ⟨rfl,rfl⟩
   dsimp only
   rw [if_pos (Nat.le_refl _)]
   exact wpS_pure ⟨rfl,rfl⟩
  case post2 =>
   rintro d st'' ⟨rfl,rfl⟩
   exact wpS_pure h
theorem gal_all (C : Pcmp prog w A s κ it N c) {ka n base : Nat} {Q : Option Nat → SortSt → Prop} {st : SortSt} (hk : kindOf st = κ) (B : Bnd N p) (hb : ka < N) (hn : 2 ≤ n) (hz : base + n ≤ p.size) (h1 : c (p.getD (base + (n - 1)) 0) ka = false) (h2 : c (p.getD (base + (n - 2)) 0) ka = true) (h : Q (some (n - 1)) st) :
 wpS (model prog w) A E s (gallop' true (it ka) (p.map it) base n (n - 1)) Q st:=by
 refine wpS_bind (wpS_bind (p_elem (show base + (n - 1) < p.size by omega) ?_))
 rw [if_pos rfl]
 refine p_lt C hk (B _ (by omega)) hb ?_
 rw [h1]
 show wpS _ _ _ _ (do
  let r ← _
  _) _ _
 refine wpS_bind (wpS_mono (wpS_forRange (I:=fun x d st'=>st' = st ∧ x = 0 ∧ d = (none,0,1)) (Q:=fun d st'=>st' = st ∧ d = (none,0,1)) ?step ?fin ⟨rfl,rfl,rfl⟩) ?post)
 case fin =>
  rintro d st' ⟨_,e,_⟩
  omega
 case step =>
  rintro x d st' _ hx ⟨rfl,rfl,rfl⟩
  dsimp only
  rw [if_neg (by omega)]
  refine wpS_bind (wpS_bind (p_elem (show base + (n - 1 - 1) < p.size by omega) ?_))
  rw [if_pos rfl]
  refine p_lt C hk (B _ (by omega)) hb ?_
  rw [show n - 1 - 1 = n - 2 by omega,h2]
  exact wpS_pure ⟨rfl,rfl⟩
 case post =>
  rintro d st' ⟨rfl,rfl⟩
  dsimp only
  refine wpS_bind (wpS_mono (wpS_forRange (I:=fun x d st''=>st'' = st' ∧ d = (none,n - 1,n - 1)) (Q:=fun d st''=>st'' = st' ∧ d = (none,n - 1,n - 1)) ?step2 (fun _ _ z=>z) ⟨rfl,?ini⟩) ?post2)
  case ini =>
   rw [Nat.min_eq_left (by omega),show n - 1 + 1 - 1 = n - 1 by omega,Nat.sub_zero]
  case step2 =>
   rintro x d st'' _ hx ⟨rfl,rfl⟩
   dsimp only
   rw [if_pos (Nat.le_refl _)]
   exact wpS_pure ⟨rfl,rfl⟩
  case post2 =>
   rintro d st'' ⟨rfl,rfl⟩
   exact wpS_pure h
end
end L2
namespace L2
open PySem PySem.Spec PyProof.Rows
def zig (X Y : Array Nat) (t : Nat) : Nat:=if t % 2 = 0 then Y.getD (t / 2) 0 else X.getD (t / 2) 0
def zigs (X Y : Array Nat) (t : Nat) : Array Nat:=((List.range t).map (zig X Y)).toArray
theorem zigs_succ (X Y : Array Nat) (t : Nat) : zigs X Y (t + 1) = (zigs X Y t).push (zig X Y t):=by
 unfold zigs
 rw [List.range_succ,List.map_append]
 simp
section
variable {prog : Program} {w : World} {A : Around} {E : Value → Shared → Prop} {s : Shared} {κ : SortKind} {it : Nat → Keyed} {N : Nat} {c : Nat → Nat → Bool} {X Y : Array Nat} {n : Nat}
theorem one_left {Y : Array Nat} (hy : Y.size = n) (hn : 1 ≤ n) : (Y.map it).extract (n - 1) (Y.map it).size = #[it (Y.getD (n - 1) 0)]:=by
 apply Array.ext
 · simp
   omega
 · intro i h1 h2
   simp at h2
   subst h2
   have hlt : n - 1 < Y.size:=by omega
   simp [Array.getD,hlt]
theorem mrg_lo (C : Pcmp prog w A s κ it N c) {Q : Array Keyed → SortSt → Prop} {st : SortSt} (hk : kindOf st = κ) (hg : gallopOf st = 7) (BX : Bnd N X) (BY : Bnd N Y) (hx : X.size = n) (hy : Y.size = n) (hn : 3 ≤ n)
 (hA : ∀ i,i + 1 < n → c (Y.getD (i + 1) 0) (X.getD i 0) = false) (hB : ∀ i,i < n → c (Y.getD i 0) (X.getD i 0) = true) (h : Q ((zigs X Y (2 * n)).map it) st) :
 wpS (model prog w) A E s (mergeLo' (X.map it) (Y.map it)) Q st:=by
 refine wpS_bind (wpS_lift (wpAny_rule ⟨rfl,?_⟩))
 refine wpS_bind (p_elem (show 0 < Y.size by omega) ?_)
 have sx : (X.map it).size = n:=by rw [Array.size_map,hx]
 have sy : (Y.map it).size = n:=by rw [Array.size_map,hy]
 dsimp only
 rw [if_neg (by rw [sy]; simp; omega),if_neg (by rw [sx]; simp; omega)]
 refine wpS_bind (wpS_get ?_)
 have hg' : (sortPriv% PySem.Builtin.SortState.minGallop) st = 7:=hg
 rw [hg']
 have e2n : (zigs X Y (2 * n)).map it = (zigs X Y (2 * n - 2)).map it ++ (Y.map it).extract (n - 1) (Y.map it).size ++ (X.map it).extract (n - 1) (X.map it).size:=by
  rw [one_left hy (by omega),one_left hx (by omega)]
  have e1 : 2 * n = 2 * n - 2 + 1 + 1:=by omega
  have z1 : zig X Y (2 * n - 2) = Y.getD (n - 1) 0:=by
   unfold zig
   rw [if_pos (by omega),show (2 * n - 2) / 2 = n - 1 by omega]
  have z2 : zig X Y (2 * n - 2 + 1) = X.getD (n - 1) 0:=by
   unfold zig
   rw [if_neg (by omega),show (2 * n - 2 + 1) / 2 = n - 1 by omega]
  conv=>lhs; rw [e1,zigs_succ,zigs_succ,z1,z2]
  simp
 refine wpS_bind (wpS_mono (wpS_forRange (I:=fun x d st'=>st' = st ∧ x = 0 ∧ d = (none,#[it (Y.getD 0 0)],0,1,7)) (Q:=fun d st'=>st' = st ∧ d.1 = some ((zigs X Y (2 * n)).map it)) ?step ?fin ⟨rfl,rfl,rfl⟩) ?post)
 case fin =>
  rintro d st' ⟨_,e,_⟩
  rw [sx,sy] at e
  omega
 case post =>
  rintro ⟨d1,d2⟩ st' ⟨rfl,e⟩
  cases (show d1 = _ from e)
  exact wpS_pure h
 case step =>
  rintro x d st' _ hx0 ⟨rfl,rfl,rfl⟩
  dsimp only
  refine wpS_bind (wpS_mono (wpS_forRange (I:=fun t d st''=>st'' = st' ∧ t ≤ 2 * n - 4 ∧ ∃ ac bc,d = (none,(zigs X Y (t + 1)).map it,(t + 1) / 2,t / 2 + 1,ac,bc) ∧ ac ≤ 1 ∧ bc ≤ 1 ∧ (t % 2 = 0 → ac = 0) ∧ (t % 2 = 1 → bc = 0))
   (Q:=fun d st''=>st'' = st' ∧ d.1 = some ((zigs X Y (2 * n)).map it)) ?istep ?ifin ⟨rfl,by omega,0,0,?ini,by omega,by omega,fun _=>rfl,fun _=>rfl⟩) ?ipost)
  case ini =>
   have : zigs X Y (0 + 1) = #[Y.getD 0 0]:=by
    rw [zigs_succ]
    rfl
   rw [this]
   simp
  case ifin =>
   rintro d st'' ⟨_,e,_⟩
   rw [sx,sy] at e
   omega
  case ipost =>
   rintro ⟨d1,d2⟩ st'' ⟨rfl,e⟩
   cases (show d1 = _ from e)
   exact wpS_pure ⟨rfl,rfl⟩
  case istep =>
   rintro t d st'' _ ht ⟨rfl,ht4,ac,bc,rfl,ha1,hb1,hae,hbo⟩
   dsimp only
   have iy : t / 2 + 1 < Y.size:=by omega
   have ix : (t + 1) / 2 < X.size:=by omega
   refine wpS_bind (p_elem iy (wpS_bind (p_elem ix (wpS_bind (p_lt C hk (BY _ iy) (BX _ ix) ?_)))))
   rcases Nat.mod_two_eq_zero_or_one t with e | e
   · -- x wins
     have ei : (t + 1) / 2 = t / 2:=by omega
     have hc : c (Y.getD (t / 2 + 1) 0) (X.getD ((t + 1) / 2) 0) = false:=by rw [ei]; exact hA _ (by omega)
     rw [hc]
     dsimp only
     rw [if_neg (by decide)]
     refine wpS_bind (p_elem ix ?_)
     have z1 : zig X Y (t + 1) = X.getD ((t + 1) / 2) 0:=by
      unfold zig
      rw [if_neg (by omega)]
     have eo : ((zigs X Y (t + 1)).map it).push (it (X.getD ((t + 1) / 2) 0)) = (zigs X Y (t + 1 + 1)).map it:=by
      rw [zigs_succ X Y (t + 1),z1]
      simp
     rw [eo]
     by_cases he : t = 2 * n - 4
     · rw [if_pos (by rw [sx]; simp; omega)]
       refine wpS_pure ⟨rfl,?_⟩
       show some _ = some _
       rw [e2n,show (t + 1) / 2 + 1 = n - 1 by omega,show t / 2 + 1 = n - 1 by omega,show t + 1 + 1 = 2 * n - 2 by omega]
     · rw [if_neg (by rw [sx]; simp; omega),if_neg (by omega)]
       refine wpS_pure ⟨rfl,by omega,ac + 1,0,?_,by have:=hae e; omega,by omega,fun z=>by omega,fun _=>rfl⟩
       rw [show (t + 1 + 1) / 2 = (t + 1) / 2 + 1 by omega,show (t + 1) / 2 + 1 = t / 2 + 1 by omega]
   · -- y wins
     have ei : (t + 1) / 2 = t / 2 + 1:=by omega
     have hc : c (Y.getD (t / 2 + 1) 0) (X.getD ((t + 1) / 2) 0) = true:=by rw [ei]; exact hB _ (by omega)
     rw [hc]
     dsimp only
     rw [if_pos rfl]
     refine wpS_bind (p_elem iy ?_)
     have z1 : zig X Y (t + 1) = Y.getD (t / 2 + 1) 0:=by
      unfold zig
      rw [if_pos (by omega),ei]
     have eo : ((zigs X Y (t + 1)).map it).push (it (Y.getD (t / 2 + 1) 0)) = (zigs X Y (t + 1 + 1)).map it:=by
      rw [zigs_succ X Y (t + 1),z1]
      simp
     rw [eo,if_neg (by rw [sy]; simp; omega),if_neg (by omega)]
     refine wpS_pure ⟨rfl,by omega,0,bc + 1,?_,by omega,by have:=hbo e; omega,fun _=>rfl,fun z=>by omega⟩
     rw [show (t + 1 + 1) / 2 = (t + 1) / 2 by omega,show (t + 1) / 2 + 1 = t / 2 + 1 + 1 by omega]
end
end L2
namespace L2
open PySem PySem.Spec PyProof.Rows
def wrt (p z : Array Nat) : Array Nat:=z.toList.zipIdx.foldl (fun a x=>a.setIfInBounds (1 + x.2) x.1) p
theorem wrt_map (it : Nat → Keyed) : ∀ (l : List Nat) (i : Nat) (p : Array Nat),((l.map it).zipIdx i).foldl (fun (a : Array Keyed) x=>a.setIfInBounds (1 + x.2) x.1) (p.map it) = ((l.zipIdx i).foldl (fun a x=>a.setIfInBounds (1 + x.2) x.1) p).map it
 | [],_,_=>rfl
 | x :: l,i,p=>by
  rw [List.map_cons,List.zipIdx_cons,List.zipIdx_cons,List.foldl_cons,List.foldl_cons,← wrt_map it l (i + 1)]
  congr 1
  simp
section
variable {prog : Program} {w : World} {A : Around} {E : Value → Shared → Prop} {s : Shared} {κ : SortKind} {it : Nat → Keyed} {N : Nat} {c : Nat → Nat → Bool} {p : Array Nat} {n : Nat}
theorem ex_get {i j k : Nat} (hj : j ≤ p.size) (hk : k < j - i) : (p.extract i j).getD k 0 = p.getD (i + k) 0:=by
 have h1 : k < (p.extract i j).size:=by simp; omega
 have h2 : i + k < p.size:=by omega
 simp only [Array.getD,h1,h2,dif_pos]
 simp
theorem ex_bnd {i j : Nat} (hj : j ≤ p.size) (B : Bnd N p) : Bnd N (p.extract i j):=fun k hk=>by
 have hk' : k < j - i:=by
  simp at hk
  omega
 rw [ex_get hj hk']
 exact B _ (by omega)
theorem mrg_at (C : Pcmp prog w A s κ it N c) {Q : Bool → SortSt → Prop} {pw : Nat} (B : Bnd N p) (hp : p.size = 2 * n) (hn : 4 ≤ n)
 (hA : ∀ i,i < n → c (p.getD (n + i) 0) (p.getD i 0) = false) (hB : ∀ i,i + 1 < n → c (p.getD (n + i) 0) (p.getD (i + 1) 0) = true)
 (h : Q true (pst κ it (wrt p (zigs (p.extract 1 n) (p.extract n (2 * n - 1)) (2 * (n - 1)))) #[(0,n + n,pw)])) :
 wpS (model prog w) A E s (mergeAt' 0) Q (pst κ it p #[(0,n,pw),(n,n,0)]):=by
 refine wpS_bind (wpS_get ?_)
 refine wpS_bind (wpS_modify ?_)
 have ep : ((#[(0,n,pw),(n,n,0)] : Array (Nat × Nat × Nat)).setIfInBounds 0 (0,n + n,pw)).eraseIdxIfInBounds 1 = #[(0,n + n,pw)]:=by simp [Array.setIfInBounds,Array.eraseIdxIfInBounds]
 show wpS _ _ _ _ _ _ (SortSt.mk' κ (p.map it) (((#[(0,n,pw),(n,n,0)] : Array (Nat × Nat × Nat)).setIfInBounds 0 (0,n + n,pw)).eraseIdxIfInBounds 1) 7 none)
 rw [ep]
 refine wpS_bind (p_elem (show n < p.size by omega) ?_)
 refine wpS_bind (gal_one C rfl B (B _ (by omega)) (by omega) (show 0 + n ≤ p.size by omega) ?_ ?_ ?_)
 · exact hA 0 (by omega)
 · exact hB 0 (by omega)
 dsimp only
 rw [if_neg (by simp; omega)]
 refine wpS_bind (p_elem (show 0 + 1 + (n - 1) - 1 < p.size by omega) ?_)
 refine wpS_bind (gal_all C rfl B (B _ (by omega)) (by omega) (show n + n ≤ p.size by omega) ?_ ?_ ?_)
 · rw [show 0 + 1 + (n - 1) - 1 = n - 1 by omega]
   exact hA (n - 1) (by omega)
 · have:=hB (n - 2) (by omega)
   rw [show 0 + 1 + (n - 1) - 1 = n - 2 + 1 by omega]
   exact this
 dsimp only
 rw [if_neg (by simp; omega),if_pos (by omega)]
 have ex : ∀ i j,(p.map it).extract i j = (p.extract i j).map it:=fun i j=>by
  apply Array.ext
  · simp
  · intro k h1 h2
    simp
 have sX : (p.extract 1 n).size = n - 1:=by
  simp
  omega
 have sY : (p.extract n (2 * n - 1)).size = n - 1:=by
  simp
  omega
 have gX : ∀ i,i < n - 1 → (p.extract 1 n).getD i 0 = p.getD (i + 1) 0:=fun i hi=>by rw [ex_get (by omega) (by omega),Nat.add_comm]
 have gY : ∀ i,i < n - 1 → (p.extract n (2 * n - 1)).getD i 0 = p.getD (n + i) 0:=fun i hi=>ex_get (by omega) (by omega)
 have key:=mrg_lo C (E:=E) (st:=SortSt.mk' κ (p.map it) #[(0,n + n,pw)] 7 none) (X:=p.extract 1 n) (Y:=p.extract n (2 * n - 1)) (n:=n - 1)
  (Q:=fun a st'=>a = (zigs (p.extract 1 n) (p.extract n (2 * n - 1)) (2 * (n - 1))).map it ∧ st' = SortSt.mk' κ (p.map it) #[(0,n + n,pw)] 7 none) rfl rfl (ex_bnd (by omega) B) (ex_bnd (by omega) B) sX sY (by omega)
  (fun i hi=>by rw [gX i (by omega),gY (i + 1) (by omega)]; exact hA (i + 1) (by omega)) (fun i hi=>by rw [gX i hi,gY i hi]; exact hB i (by omega)) ⟨rfl,rfl⟩
 rw [← ex,← ex] at key
 have e1 : n + (n - 1) = 2 * n - 1:=by omega
 rw [show (0 + 1 : Nat) = 1 from rfl,e1]
 refine wpS_bind (wpS_mono key fun a st' hq=>?_)
 obtain ⟨rfl,rfl⟩:=hq
 refine wpS_bind (wpS_modify (wpS_bind (wpS_get (wpS_pure ?_))))
 have e2:=wrt_map it (zigs (p.extract 1 n) (p.extract n (2 * n - 1)) (2 * (n - 1))).toList 0 p
 have e3 : SortSt.mk' κ ((((zigs (p.extract 1 n) (p.extract n (2 * n - 1)) (2 * (n - 1))).map it).toList.zipIdx).foldl (fun (a : Array Keyed) x=>a.setIfInBounds (1 + x.2) x.1) (p.map it)) #[(0,n + n,pw)] 7 none = pst κ it (wrt p (zigs (p.extract 1 n) (p.extract n (2 * n - 1)) (2 * (n - 1)))) #[(0,n + n,pw)]:=by
  unfold pst wrt
  rw [Array.toList_map,e2]
 show Q true (SortSt.mk' κ ((((zigs (p.extract 1 n) (p.extract n (2 * n - 1)) (2 * (n - 1))).map it).toList.zipIdx).foldl (fun (a : Array Keyed) x=>a.setIfInBounds (1 + x.2) x.1) (p.map it)) #[(0,n + n,pw)] 7 none)
 rw [e3]
 exact h
end
end L2
namespace L2
open PySem PySem.Spec PyProof.Rows
section
variable {prog : Program} {w : World} {A : Around} {E : Value → Shared → Prop} {s : Shared} {κ : SortKind} {it : Nat → Keyed} {N : Nat} {c : Nat → Nat → Bool} {p : Array Nat} {n : Nat}
theorem minrun_small (h0 : 1 ≤ n) (h : n < 64) : minRun' n n 0 = n:=by
 obtain ⟨f,hf⟩ : ∃ f,n = f + 1:=⟨n - 1,by omega⟩
 have : minRun' (f + 1) n 0 = n:=by rw [minRun'_succ,if_pos h]; rfl
 rwa [← hf] at this
theorem binF_perm (c : Nat → Nat → Bool) (lo : Nat) : ∀ (f k : Nat) (p : Array Nat),(binF c lo f k p).Perm p
 | 0,_,_=>Array.Perm.refl _
 | f + 1,k,p=>(binF_perm c lo f (k + 1) _).trans (bubble_perm _ _ _)
theorem srt_small (C : Pcmp prog w A s κ it N c) {Q : Unit → SortSt → Prop} (B : Bnd N p) (hp : p.size = n) (hn : 3 ≤ n) (h64 : n < 64) (h1 : c (p.getD 1 0) (p.getD 0 0) = false) (h2 : c (p.getD 2 0) (p.getD 1 0) = true) (h3 : c (p.getD 0 0) (p.getD 1 0) = true)
 (h : Q () (pst κ it (binF c 0 (n - 2) 2 p) #[(0,n,0)])) : wpS (model prog w) A E s sortRuns' Q (pst κ it p #[]):=by
 rw [sortRuns'_eq]
 refine wpS_bind (wpS_get ?_)
 have hs : (arrOf (pst κ it p #[])).size = n:=by show (p.map it).size = n; rw [Array.size_map,hp]
 simp only [hs,minrun_small (by omega) h64]
 refine wpS_bind (wpS_mono (wpS_forRange (I:=fun x d st'=>(x = 0 ∧ d = (none,0) ∧ st' = pst κ it p #[]) ∨ (1 ≤ x ∧ d = (none,n) ∧ st' = pst κ it (binF c 0 (n - 2) 2 p) #[(0,n,0)]))
  (Q:=fun d st'=>d = (none,n) ∧ st' = pst κ it (binF c 0 (n - 2) 2 p) #[(0,n,0)]) ?step ?fin (.inl ⟨rfl,rfl,rfl⟩)) ?post)
 case fin =>
  rintro d st' (⟨hx,_,_⟩ | ⟨_,hc,hD⟩)
  · omega
  · exact ⟨hc,hD⟩
 case step =>
  rintro x d st' _ hx (⟨rfl,rfl,rfl⟩ | ⟨hx1,rfl,rfl⟩)
  · dsimp only
    rw [if_neg (by omega)]
    simp only [Nat.sub_zero,Nat.min_self,Nat.zero_add]
    refine wpS_bind (p_count2 C B (by omega) hn h1 h2 h3 ?_)
    dsimp only
    rw [if_pos (by omega)]
    refine wpS_bind (wpS_lift (wpAny_rule ⟨rfl,?_⟩))
    refine wpS_bind (p_bin C B (by omega) (by omega) (by omega) ?_)
    simp only [Bool.not_true,Bool.false_eq_true,if_false]
    refine wpS_bind (wpS_get ?_)
    exact wpS_bind (wpS_modify (wpS_pure (.inr ⟨by omega,rfl,rfl⟩)))
  · dsimp only
    rw [if_pos (Nat.le_refl _)]
    exact wpS_pure ⟨rfl,rfl⟩
 case post =>
  rintro d st' ⟨rfl,rfl⟩
  dsimp only
  refine wpS_bind (wpS_mono (wpS_forRange (I:=fun _ d st''=>st'' = pst κ it (binF c 0 (n - 2) 2 p) #[(0,n,0)] ∧ d = (none,())) (Q:=fun d st''=>st'' = pst κ it (binF c 0 (n - 2) 2 p) #[(0,n,0)] ∧ d = (none,())) ?_ (fun _ _ hh=>hh) ⟨rfl,rfl⟩) ?_)
  · rintro x d st'' _ _ ⟨rfl,rfl⟩
    refine wpS_bind (wpS_get ?_)
    rw [if_pos (show (pendingOf (pst κ it (binF c 0 (n - 2) 2 p) #[(0,n,0)])).size ≤ 1 from Nat.le_refl 1)]
    exact wpS_pure ⟨rfl,rfl⟩
  · rintro d st'' ⟨rfl,rfl⟩
    exact wpS_pure h
theorem srt_two (C : Pcmp prog w A s κ it N c) {Q : Unit → SortSt → Prop} (B : Bnd N p) (hp : p.size = 2) (h1 : c (p.getD 1 0) (p.getD 0 0) = false)
 (h : Q () (pst κ it p #[(0,2,0)])) : wpS (model prog w) A E s sortRuns' Q (pst κ it p #[]):=by
 rw [sortRuns'_eq]
 refine wpS_bind (wpS_get ?_)
 have hs : (arrOf (pst κ it p #[])).size = 2:=by show (p.map it).size = 2; rw [Array.size_map,hp]
 simp only [hs,minrun_small (show 1 ≤ 2 by decide) (by decide)]
 refine wpS_bind (wpS_mono (wpS_forRange (I:=fun x d st'=>(x = 0 ∧ d = (none,0) ∧ st' = pst κ it p #[]) ∨ (1 ≤ x ∧ d = (none,2) ∧ st' = pst κ it p #[(0,2,0)]))
  (Q:=fun d st'=>d = (none,2) ∧ st' = pst κ it p #[(0,2,0)]) ?step ?fin (.inl ⟨rfl,rfl,rfl⟩)) ?post)
 case fin =>
  rintro d st' (⟨hx,_,_⟩ | ⟨_,hc,hD⟩)
  · omega
  · exact ⟨hc,hD⟩
 case step =>
  rintro x d st' _ hx (⟨rfl,rfl,rfl⟩ | ⟨hx1,rfl,rfl⟩)
  · dsimp only
    rw [if_neg (by omega)]
    rw [countRun'_eq]
    refine wpS_bind (wpS_bind (wpS_mono (wpS_forRange (I:=fun x d st'=>st' = pst κ it p #[] ∧ ((x = 1 ∧ d = (none,1)) ∨ (x = 2 ∧ d = (none,2)))) (Q:=fun d st'=>st' = pst κ it p #[] ∧ d = (none,2)) ?cs ?cf ⟨rfl,.inl ⟨rfl,rfl⟩⟩) ?cp))
    case cf =>
     rintro d st' ⟨rfl,⟨e,rfl⟩ | ⟨e,rfl⟩⟩
     · omega
     · exact ⟨rfl,rfl⟩
    case cs =>
     rintro x d st' hx hxn ⟨rfl,⟨rfl,rfl⟩ | ⟨rfl,rfl⟩⟩
     · refine wpS_bind (p_at C B (by omega) (by omega) ?_)
       rw [show 0 + 1 - 1 = 0 by omega,show 0 + 1 = 1 by omega,h1]
       exact wpS_pure ⟨rfl,.inr ⟨rfl,rfl⟩⟩
     · omega
    case cp =>
     rintro d st' ⟨rfl,rfl⟩
     refine wpS_pure ?_
     dsimp only
     rw [if_neg (by decide)]
     refine wpS_bind (wpS_get ?_)
     exact wpS_bind (wpS_modify (wpS_pure (.inr ⟨by omega,rfl,rfl⟩)))
  · dsimp only
    rw [if_pos (Nat.le_refl _)]
    exact wpS_pure ⟨rfl,rfl⟩
 case post =>
  rintro d st' ⟨rfl,rfl⟩
  dsimp only
  refine wpS_bind (wpS_mono (wpS_forRange (I:=fun _ d st''=>st'' = pst κ it p #[(0,2,0)] ∧ d = (none,())) (Q:=fun d st''=>st'' = pst κ it p #[(0,2,0)] ∧ d = (none,())) ?_ (fun _ _ hh=>hh) ⟨rfl,rfl⟩) ?_)
  · rintro x d st'' _ _ ⟨rfl,rfl⟩
    refine wpS_bind (wpS_get ?_)
    rw [if_pos (show (pendingOf (pst κ it p #[(0,2,0)])).size ≤ 1 from Nat.le_refl 1)]
    exact wpS_pure ⟨rfl,rfl⟩
  · rintro d st'' ⟨rfl,rfl⟩
    exact wpS_pure h
def two32 (c : Nat → Nat → Bool) (p : Array Nat) : Array Nat:=binF c 32 30 2 (binF c 0 30 2 p)
def all64 (c : Nat → Nat → Bool) (p : Array Nat) : Array Nat:=wrt (two32 c p) (zigs ((two32 c p).extract 1 32) ((two32 c p).extract 32 63) 62)
theorem srt_64 (C : Pcmp prog w A s κ it N c) {Q : Unit → SortSt → Prop} (B : Bnd N p) (hp : p.size = 64) (h1 : c (p.getD 1 0) (p.getD 0 0) = false) (h2 : c (p.getD 2 0) (p.getD 1 0) = true) (h3 : c (p.getD 0 0) (p.getD 1 0) = true)
 (k1 : c ((binF c 0 30 2 p).getD 33 0) ((binF c 0 30 2 p).getD 32 0) = false) (k2 : c ((binF c 0 30 2 p).getD 34 0) ((binF c 0 30 2 p).getD 33 0) = true) (k3 : c ((binF c 0 30 2 p).getD 32 0) ((binF c 0 30 2 p).getD 33 0) = true)
 (hA : ∀ i,i < 32 → c ((two32 c p).getD (32 + i) 0) ((two32 c p).getD i 0) = false) (hB : ∀ i,i + 1 < 32 → c ((two32 c p).getD (32 + i) 0) ((two32 c p).getD (i + 1) 0) = true)
 (h : ∀ pd,Q () (pst κ it (all64 c p) pd)) : wpS (model prog w) A E s sortRuns' Q (pst κ it p #[]):=by
 rw [sortRuns'_eq]
 refine wpS_bind (wpS_get ?_)
 have hs : (arrOf (pst κ it p #[])).size = 64:=by show (p.map it).size = 64; rw [Array.size_map,hp]
 have hm : minRun' 64 64 0 = 32:=by decide +kernel
 simp only [hs,hm]
 have B1 : Bnd N (binF c 0 30 2 p):=B.perm (binF_perm ..)
 have s1 : (binF c 0 30 2 p).size = 64:=(binF_perm c 0 30 2 p).size_eq.trans hp
 have B2 : Bnd N (two32 c p):=B1.perm (binF_perm ..)
 have s2 : (two32 c p).size = 64:=(binF_perm c 32 30 2 _).size_eq.trans s1
 generalize hpw : power' 64 (2 * 0 + 32) (2 * 0 + 32 + 32 + 32) 64 = pw
 refine wpS_bind (wpS_mono (wpS_forRange (I:=fun x d st'=>(x = 0 ∧ d = (none,0) ∧ st' = pst κ it p #[]) ∨ (x = 1 ∧ d = (none,32) ∧ st' = pst κ it (binF c 0 30 2 p) #[(0,32,0)]) ∨ (2 ≤ x ∧ d = (none,64) ∧ st' = pst κ it (two32 c p) #[(0,32,pw),(32,32,0)]))
  (Q:=fun d st'=>d = (none,64) ∧ st' = pst κ it (two32 c p) #[(0,32,pw),(32,32,0)]) ?step ?fin (.inl ⟨rfl,rfl,rfl⟩)) ?post)
 case fin =>
  rintro d st' (⟨hx,_,_⟩ | ⟨hx,_,_⟩ | ⟨_,hc,hD⟩)
  · omega
  · omega
  · exact ⟨hc,hD⟩
 case step =>
  rintro x d st' _ hx (⟨rfl,rfl,rfl⟩ | ⟨rfl,rfl,rfl⟩ | ⟨hx1,rfl,rfl⟩)
  · dsimp only
    rw [if_neg (by omega)]
    refine wpS_bind (p_count2 C B (by omega) (by omega) h1 h2 h3 ?_)
    dsimp only
    rw [if_pos (by omega)]
    refine wpS_bind (wpS_lift (wpAny_rule ⟨rfl,?_⟩))
    refine wpS_bind (p_bin C B (show 0 + 32 ≤ p.size by omega) (by omega) (show 2 ≤ 32 by omega) ?_)
    simp only [Bool.not_true,Bool.false_eq_true,if_false]
    refine wpS_bind (wpS_get ?_)
    exact wpS_bind (wpS_modify (wpS_pure (.inr (.inl ⟨trivial,rfl,rfl⟩))))
  · dsimp only
    rw [if_neg (by omega)]
    refine wpS_bind (p_count2 C B1 (by omega) (by omega) k1 k2 k3 ?_)
    dsimp only
    rw [if_pos (by omega)]
    refine wpS_bind (wpS_lift (wpAny_rule ⟨rfl,?_⟩))
    refine wpS_bind (p_bin C B1 (show 32 + 32 ≤ (binF c 0 30 2 p).size by omega) (by omega) (show 2 ≤ 32 by omega) ?_)
    simp only [Bool.not_true,Bool.false_eq_true,if_false]
    refine wpS_bind (wpS_get ?_)
    refine wpS_bind (wpS_mono (wpS_forRange (I:=fun _ d st''=>st'' = pst κ it (two32 c p) #[(0,32,0)] ∧ d = (none,())) (Q:=fun d st''=>st'' = pst κ it (two32 c p) #[(0,32,0)] ∧ d = (none,())) ?ws (fun _ _ hh=>hh) ⟨rfl,rfl⟩) ?wp)
    case ws =>
     rintro x d st'' _ _ ⟨rfl,rfl⟩
     refine wpS_bind (wpS_get ?_)
     exact wpS_pure ⟨rfl,rfl⟩
    case wp =>
     rintro d st'' ⟨rfl,rfl⟩
     refine wpS_bind (wpS_modify (wpS_bind (wpS_modify (wpS_pure (.inr (.inr ⟨by omega,rfl,?_⟩))))))
     rw [← hpw]
     rfl
  · dsimp only
    rw [if_pos (Nat.le_refl _)]
    exact wpS_pure ⟨rfl,rfl⟩
 case post =>
  rintro d st' ⟨rfl,rfl⟩
  dsimp only
  refine wpS_bind (wpS_mono (wpS_forRange (I:=fun x d st''=>d = (none,()) ∧ ((x = 0 ∧ st'' = pst κ it (two32 c p) #[(0,32,pw),(32,32,0)]) ∨ (1 ≤ x ∧ st'' = pst κ it (all64 c p) #[(0,64,pw)]))) (Q:=fun d st''=>st'' = pst κ it (all64 c p) #[(0,64,pw)] ∧ d = (none,())) ?ls ?lf ⟨rfl,.inl ⟨rfl,rfl⟩⟩) ?lp)
  case lf =>
   rintro d st'' ⟨rfl,⟨hx,_⟩ | ⟨_,rfl⟩⟩
   · omega
   · exact ⟨rfl,rfl⟩
  case lp =>
   rintro d st'' ⟨rfl,rfl⟩
   exact wpS_pure (h _)
  case ls =>
   rintro x d st'' _ _ ⟨rfl,⟨rfl,rfl⟩ | ⟨hx1,rfl⟩⟩
   · refine wpS_bind (wpS_get ?_)
     rw [if_neg (show ¬ (pendingOf (pst κ it (two32 c p) #[(0,32,pw),(32,32,0)])).size ≤ 1 from by show ¬ (2 ≤ 1); decide)]
     refine wpS_bind (mrg_at (n:=32) C B2 s2 (by decide) hA hB ?_)
     simp only [Bool.not_true,Bool.false_eq_true,if_false]
     exact wpS_pure ⟨rfl,.inr ⟨by omega,rfl⟩⟩
   · refine wpS_bind (wpS_get ?_)
     rw [if_pos (show (pendingOf (pst κ it (all64 c p) #[(0,64,pw)])).size ≤ 1 from Nat.le_refl 1)]
     exact wpS_pure ⟨rfl,rfl⟩
end
end L2
namespace L2
open PySem PySem.Spec PyProof.Rows PySem.W
def TupI (h : Heap) (v : Value) (ns : List Int) : Prop:=∃ a o xs n,v = .ref a ∧ h.get? a = some o ∧ o.cls = .type "tuple" ∧ o.data = .seq xs n ∧ IntsAre xs.toList ns
theorem TupI.keep {h h' : Heap} {v : Value} {ns : List Int} (x : TupI h v ns) (k : ∀ a o xs n,h.get? a = some o → o.cls = .type "tuple" → o.data = .seq xs n → h'.get? a = some o) : TupI h' v ns:=by
 obtain ⟨a,o,xs,n,e,h1,h2,h3,h4⟩:=x
 exact ⟨a,o,xs,n,e,k a o xs n h1 h2 h3,h2,h3,h4⟩
section
variable {prog : Program} {w : World} {A : Around} {E : Value → Shared → Prop} {s : Shared} {Q : Bool → Shared → Prop}
theorem int_one {a b : Int} {t u : Tok} (f : Bool) (h : Q (decide (a < b)) s) : wpAny (model prog w) A (oneLt' f (.int a t) (.int b u)) Q E s:=by
 cases f with
 | true=>exact oneLt_int h
 | false=>exact kat_one _ _ (PyProof.Rows.lt_int h)
theorem katlex_ints : ∀ {xs ys : List Value} {as bs : List Int} (i : Nat),IntsAre xs as → IntsAre ys bs → as.length = bs.length → Q (HT.lexLt as bs) s → KatLex prog w A true false Q (xs.zip ys) i s
 | _,_,_,_,_,.nil,.nil,_,h=>h
 | _,_,_,_,_,.nil,.cons _ _ _,h,_=>nomatch h
 | _,_,_,_,_,.cons _ _ _,.nil,h,_=>nomatch h
 | _,_,_,_,i,.cons a t r,.cons b u r',hl,h=>by
  rw [HT.lexLt_cons] at h
  refine kat_cons (wpAny_eqBool_int ?_)
  by_cases e : a = b
  · rw [if_pos e] at h
    have : (a == b) = true:=by simpa using e
    rw [this]
    exact kat_yes (katlex_ints (i + 1) r r' (Nat.succ.inj hl) h)
  · rw [if_neg e] at h
    have : (a == b) = false:=by simpa using e
    rw [this]
    exact kat_no (int_one _ h)
theorem lt_tups {v u : Value} {as bs : List Int} (hv : TupI s.heap v as) (hu : TupI s.heap u bs) (hl : as.length = bs.length) (h : Q (HT.lexLt as bs) s) : wpAny (model prog w) A (keyLt' (tuples' true) v u) Q E s:=by
 obtain ⟨a,o,xs,n,rfl,h1,_,h3,h4⟩:=hv
 obtain ⟨b,o2,ys,m,rfl,k1,_,k3,k4⟩:=hu
 refine kat_lt h1 h3 k1 k3 ?_
 have e1:=h4.length
 have e2:=k4.length
 rw [Array.length_toList] at e1 e2
 have : decide (xs.size < ys.size) = false:=decide_eq_false (by omega)
 rw [this]
 exact katlex_ints 0 h4 k4 hl h
end
theorem firsts_of {h : Heap} : ∀ {vs : List Value} {bs : List (List Int)},Paired (TupI h) vs bs → (∀ b ∈ bs,b ≠ []) → ∃ fs,KatTups h vs fs ∧ fs.length = vs.length ∧ ∀ v ∈ fs,∃ i t,v = Value.int i t
 | _,_,.nil,_=>⟨[],.nil,rfl,fun _ h=>nomatch h⟩
 | v :: vs,b :: bs,.cons hv t,hb=>by
  obtain ⟨fs,h1,h2,h3⟩:=firsts_of t fun x hx=>hb x (List.mem_cons_of_mem _ hx)
  obtain ⟨a,o,xs,n,rfl,k1,k2,k3,k4⟩:=hv
  have hn:=hb b List.mem_cons_self
  generalize hx : xs.toList = l at k4
  cases k4 with
  | nil=>exact absurd rfl hn
  | cons i t r =>
   refine ⟨.int i t :: fs,KatTups.cons k1 k2 k3 ?_ h1,by rw [List.length_cons,List.length_cons,h2],fun z hz=>?_⟩
   · rw [← Array.getElem?_toList,hx]
     rfl
   · rcases List.mem_cons.mp hz with rfl | hz
     · exact ⟨i,t,rfl⟩
     · exact h3 z hz
def itm (vs : List Value) (i : Nat) : Keyed:=(vs.getD i .none,vs.getD i .none)
theorem zip_itm (vs : List Value) : vs.toArray.zip vs.toArray = ((List.range vs.length).toArray).map (itm vs):=by
 apply Array.ext
 · simp
 · intro i h1 h2
   simp at h1
   simp [itm,h1]
theorem paired_get {α β : Type} {F : α → β → Prop} {d : α} {e : β} : ∀ {l₁ : List α} {l₂ : List β},Paired F l₁ l₂ → ∀ i,i < l₁.length → F (l₁.getD i d) (l₂.getD i e)
 | _,_,.nil,i,h=>absurd h (Nat.not_lt_zero _)
 | _,_,.cons h t,0,_=>by simpa using h
 | _,_,.cons h t,i + 1,hi=>by simpa using paired_get t i (by simpa using hi)
section
variable {prog : Program} {w : World} {A : Around} {E : Value → Shared → Prop} {s : Shared}
def Sorts (prog : Program) (w : World) (bs : List (List Int)) (q : Array Nat) : Prop:=q.size = bs.length ∧ ∀ (A : Around) (E : Value → Shared → Prop) (s : Shared) (it : Nat → Keyed),Pcmp prog w A s (tuples' true) it bs.length (fun i j=>HT.lexLt (bs.getD i []) (bs.getD j [])) →
 wpS (model prog w) A E s sortRuns' (fun _ st'=>arrOf st' = q.map it ∧ failedOf st' = none) (pst (tuples' true) it (List.range bs.length).toArray #[])
theorem sort_tups {a : Addr} {vs : List Value} {bs : List (List Int)} {n k : Nat} {q : Array Nat} {P : Fin → Shared → Prop} (ho : s.heap.get? a = some (seqObj "list" vs.toArray n)) (hT : Paired (TupI s.heap) vs bs) (hk : ∀ b ∈ bs,b.length = k) (hk0 : 1 ≤ k) (h2 : 2 ≤ vs.length) (h64 : vs.length ≤ 64)
 (hq : Sorts prog w bs q) (h : P (.done (.ret .none)) { s with heap:=sortedHeap s.heap a vs (q.map fun i=>vs.getD i .none) }) :
 wpAny (model prog w) A (Builtin.«list.sort» ⟨[.ref a],[]⟩) P E s:=by
 rw [list_sort_plain]
 have ha : a < s.heap.objs.size:=Heap.lt_size ho
 have lb:=hT.length
 refine wpAny_bind (listItems_at ho rfl ?_)
 refine wpAny_bind (listUpdate_at ho rfl ?_ (by rw [List.size_toArray,sizeLine_eq]; omega) (Nat.zero_le _))
 obtain ⟨e1,ho1⟩ : ∃ e1,(s.heap.update a (Obj.mapSeq fun _=>#[])).get? a = some (seqObj "list" #[] e1):=⟨_,get?_update_seq ho (fun _=>#[])⟩
 refine wpAny_bind (seqEpoch_at ho1 rfl ?_)
 refine wpAny_bind (wpAny_newTuple ?_ (by show vs.length ≤ _; rw [sizeLine_eq]; omega))
 refine wpAny_bind (wpAny_newList ?_ (Nat.zero_le _))
 refine wpAny_holding ?_
 have ho6 : (((s.heap.update a (Obj.mapSeq fun _=>#[])).push (seqObj "tuple" vs.toArray 0)).push (seqObj "list" #[] 0)).get? a = some (seqObj "list" #[] e1):=by
  rw [Heap.get?_push_ne _ _ _ (by rw [size_push',Heap.size_update]; exact Nat.ne_of_lt (Nat.lt_succ_of_lt ha)),Heap.get?_push_ne _ _ _ (by rw [Heap.size_update]; exact Nat.ne_of_lt ha)]
  exact ho1
 show wpAny (model prog w) A _ P E { s with heap:=((s.heap.update a (Obj.mapSeq fun _=>#[])).push (seqObj "tuple" vs.toArray 0)).push (seqObj "list" #[] 0) }
 dsimp only
 have hn2 : ¬ vs.toArray.size < 2:=by rw [List.size_toArray]; omega
 rw [if_neg hn2,if_neg hn2]
 have hT6 : Paired (TupI (((s.heap.update a (Obj.mapSeq fun _=>#[])).push (seqObj "tuple" vs.toArray 0)).push (seqObj "list" #[] 0))) vs bs:=Paired.mapP hT fun v b x=>x.keep fun b o xs n h1 h2 h3=>by
  have nb : b ≠ a:=fun e=>by
   rw [e,ho] at h1
   cases (Option.some.inj h1)
   exact absurd (Value.type.inj (show Value.type "list" = Value.type "tuple" from h2)) (by decide)
  refine Heap.get?_push_of_some _ (Heap.get?_push_of_some _ ?_)
  rw [(Heap.SameBut.update s.heap a (Obj.mapSeq fun _=>(#[] : Array Value))).2 b nb]
  exact h1
 generalize hh6 : ((s.heap.update a (Obj.mapSeq fun _=>#[])).push (seqObj "tuple" vs.toArray 0)).push (seqObj "list" #[] 0) = h6 at ho6 hT6
 obtain ⟨fs,f1,f2,f3⟩:=firsts_of hT6 (fun b hb e=>by have:=hk b hb; rw [e] at this; simp at this; omega)
 refine wpAny_bind (kat_kind (M:=model prog w) (T:=.type "int") f1 (by omega) (fun v hv=>?_) rfl ?_)
 · obtain ⟨i,t,rfl⟩:=f3 v hv
   exact Looks.of_pure rfl
 have hb : ∀ i,i < bs.length → (bs.getD i []).length = k:=fun i hi=>hk _ (by simp [hi])
 have C : Pcmp prog w A { s with heap:=h6 } (tuples' true) (itm vs) bs.length (fun i j=>HT.lexLt (bs.getD i []) (bs.getD j [])):=fun i j hi hj E Q hQ =>
  lt_tups (paired_get hT6 i (by omega)) (paired_get hT6 j (by omega)) (by rw [hb i hi,hb j hj]) hQ
 have run:=hq.2 A E _ _ C
 rw [zip_itm,lb]
 refine wpAny_bind (wpAny_mono run ?_ fun _ _ e=>e)
 rintro ⟨⟨⟩,st'⟩ s' ⟨rfl,har,hf⟩
 dsimp only
 have hsz : ((arrOf st').map (·.2)) = q.map fun i=>vs.getD i .none:=by
  rw [har,Array.map_map]
  rfl
 refine wpAny_bind (seqEpoch_at ho6 rfl ?_)
 refine wpAny_bind (listUpdate_at ho6 rfl ?_ (hsz2:=by rw [hsz,Array.size_map,hq.1,sizeLine_eq]; omega))
 have hf' : (sortPriv% PySem.Builtin.SortState.failed) st' = none:=hf
 rw [hf]
 simp only [bne_self_eq_false,Bool.false_eq_true,if_false]
 refine wpAny_pure ?_
 rw [hsz,← hh6]
 exact h
theorem sorted_tups {l : Addr} {vs : List Value} {bs : List (List Int)} {k : Nat} {q : Array Nat} {Q : Value → Shared → Prop} (hl : s.heap.IsList l vs.toArray) (hT : Paired (TupI s.heap) vs bs) (hk : ∀ b ∈ bs,b.length = k) (hk0 : 1 ≤ k) (h2 : 2 ≤ vs.length) (h64 : vs.length ≤ 64)
 (hq : Sorts prog w bs q) (h : Q (.ref (s.heap.objs.size + 1)) { s with heap:=sortedAll s.heap vs (q.map fun i=>vs.getD i .none) }) :
 wpAny (model prog w) A (call (.builtin "sorted") [.ref l]) Q E s:=by
 refine Calls.call_function_entry kind_sorted plain_sorted entry_sorted (args_sorted1 _) ?_
 unfold Builtin.«sorted»
 refine wpAny_bind (m:=checkCount "sorted" 1 1 _) (wpAny_pure ?_)
 refine wpAny_bind (collect_list hl ?_ (by rw [sizeLine_eq]; omega))
 refine wpAny_bind (wpAny_newList ?_ (by rw [sizeLine_eq]; omega))
 have hsz : ((s.heap.push (seqObj "list" #[] 0)).update s.heap.objs.size (Obj.mapSeq (· ++ vs.toArray))).objs.size = s.heap.objs.size + 1:=by
  rw [Heap.size_update,size_push']
 have hoL : (((s.heap.push (seqObj "list" #[] 0)).update s.heap.objs.size (Obj.mapSeq (· ++ vs.toArray))).push (seqObj "list" vs.toArray 0)).get? (s.heap.objs.size + 1) = some (seqObj "list" vs.toArray 0):=by
  rw [← hsz]; exact Heap.get?_push_size _ rfl
 have keep : ∀ b o,s.heap.get? b = some o → (((s.heap.push (seqObj "list" #[] 0)).update s.heap.objs.size (Obj.mapSeq (· ++ vs.toArray))).push (seqObj "list" vs.toArray 0)).get? b = some o:=fun b o hb=>by
  refine Heap.get?_push_of_some _ ?_
  rw [(Heap.SameBut.update _ _ _).2 b (Nat.ne_of_lt (Heap.lt_size hb))]
  exact Heap.get?_push_of_some _ hb
 show wpAny _ _ _ _ _ { s with heap:=((s.heap.push (seqObj "list" #[] 0)).update s.heap.objs.size (Obj.mapSeq (· ++ vs.toArray))).push (seqObj "list" vs.toArray 0) }
 rw [hsz]
 refine wpAny_bind (wpAny_holding (wpAny_call_entry slot_list_sort ⟨_,hoL,rfl⟩ entry_list_sort (sort_tups hoL (Paired.mapP hT fun v b x=>x.keep fun b o _ _ h1 _ _=>keep b o h1) hk hk0 h2 h64 hq ⟨_,rfl,?_⟩) (args_list_sort _)))
 exact wpAny_pure ⟨_,rfl,h⟩
end
end L2
namespace L2
open PySem PySem.Spec PyProof.Rows PySem.W
def bitsL : Nat → List (List Int)
 | 0=>[[]]
 | k + 1=>(bitsL k).map (· ++ [0]) ++ (bitsL k).map (· ++ [1])
def risL : Nat → List (List Int)
 | 0=>[[]]
 | k + 1=>(risL k).flatMap fun r=>[r ++ [0],r ++ [1]]
def agreeB (k : Nat) : Bool:=(bitsL k).zipIdx.all fun x=>(bitsL k).zipIdx.all fun y=>HT.lexLt x.1 y.1 == cB k x.2 y.2
theorem agree_all : agreeB 1 = true ∧ agreeB 2 = true ∧ agreeB 3 = true ∧ agreeB 4 = true ∧ agreeB 5 = true ∧ agreeB 6 = true:=by decide +kernel
def p0 (k : Nat) : Array Nat:=(List.range (2 ^ k)).toArray
def qOf : Nat → Array Nat
 | 0=>p0 0
 | 1=>p0 1
 | 6=>all64 (cB 6) (p0 6)
 | k=>binF (cB k) 0 (2 ^ k - 2) 2 (p0 k)
theorem ris_all : ∀ k ∈ [0,1,2,3,4,5,6],((qOf k).toList.map fun i=>(bitsL k).getD i []) = risL k:=by decide +kernel
theorem bits_len (k : Nat) : (bitsL k).length = 2 ^ k:=by
 induction k with
 | zero=>rfl
 | succ k ih =>
  rw [bitsL,List.length_append,List.length_map,List.length_map,ih,Nat.pow_succ]
  omega
theorem bits_each (k : Nat) : ∀ b ∈ bitsL k,b.length = k:=by
 induction k with
 | zero=>simp [bitsL]
 | succ k ih =>
  intro b hb
  rw [bitsL] at hb
  rcases List.mem_append.mp hb with h | h <;> (obtain ⟨r,hr,rfl⟩:=List.mem_map.mp h; rw [List.length_append,ih r hr]; rfl)
theorem agree_at {k i j : Nat} (h : agreeB k = true) (hi : i < 2 ^ k) (hj : j < 2 ^ k) : HT.lexLt ((bitsL k).getD i []) ((bitsL k).getD j []) = cB k i j:=by
 unfold agreeB at h
 have mem : ∀ i,i < 2 ^ k → ((bitsL k).getD i [],i) ∈ (bitsL k).zipIdx:=fun i hi=>by
  have hl : i < (bitsL k).length:=by rw [bits_len]; exact hi
  rw [List.mem_zipIdx_iff_getElem?]
  simp [hl]
 have h1:=List.all_eq_true.mp h _ (mem i hi)
 have h2:=List.all_eq_true.mp h1 _ (mem j hj)
 simpa using h2
theorem bnd0 (k : Nat) : Bnd (2 ^ k) (p0 k):=fun i hi=>by
 unfold p0 at hi ⊢
 simp at hi
 simp [Array.getD,hi]
theorem Pcmp.congr {prog : Program} {w : World} {A : Around} {s : Shared} {κ : SortKind} {it : Nat → Keyed} {N : Nat} {c c' : Nat → Nat → Bool} (C : Pcmp prog w A s κ it N c) (h : ∀ i j,i < N → j < N → c i j = c' i j) : Pcmp prog w A s κ it N c':=fun i j hi hj E Q hQ=>C i j hi hj E Q (by rw [h i j hi hj]; exact hQ)
def okSmall (k : Nat) : Bool:=!cB k 1 0 && (cB k 2 1 && cB k 0 1)
theorem small_all : okSmall 2 = true ∧ okSmall 3 = true ∧ okSmall 4 = true ∧ okSmall 5 = true:=by decide +kernel
def okBig : Bool:=okSmall 6 && (!cB 6 ((binF (cB 6) 0 30 2 (p0 6)).getD 33 0) ((binF (cB 6) 0 30 2 (p0 6)).getD 32 0) && (cB 6 ((binF (cB 6) 0 30 2 (p0 6)).getD 34 0) ((binF (cB 6) 0 30 2 (p0 6)).getD 33 0) && (cB 6 ((binF (cB 6) 0 30 2 (p0 6)).getD 32 0) ((binF (cB 6) 0 30 2 (p0 6)).getD 33 0) &&
 ((List.range 32).all (fun i=>!cB 6 ((two32 (cB 6) (p0 6)).getD (32 + i) 0) ((two32 (cB 6) (p0 6)).getD i 0)) && (List.range 31).all (fun i=>cB 6 ((two32 (cB 6) (p0 6)).getD (32 + i) 0) ((two32 (cB 6) (p0 6)).getD (i + 1) 0))))))
theorem big_all : okBig = true:=by decide +kernel
theorem q_size : ∀ k ∈ [0,1,2,3,4,5,6],(qOf k).size = 2 ^ k:=by decide +kernel
section
variable {prog : Program} {w : World}
theorem small_sorts {k : Nat} (ha : agreeB k = true) (ho : okSmall k = true) (h3 : 3 ≤ 2 ^ k) (h64 : 2 ^ k < 64) (hs : (binF (cB k) 0 (2 ^ k - 2) 2 (p0 k)).size = 2 ^ k) : Sorts prog w (bitsL k) (binF (cB k) 0 (2 ^ k - 2) 2 (p0 k)):=by
 refine ⟨by rw [bits_len]; exact hs,fun A E s it C=>?_⟩
 rw [bits_len] at C ⊢
 have C':=C.congr fun i j hi hj=>agree_at ha hi hj
 unfold okSmall at ho
 rw [Bool.and_eq_true,Bool.and_eq_true,Bool.not_eq_true'] at ho
 have g : ∀ i,i < 2 ^ k → (p0 k).getD i 0 = i:=fun i hi=>by
  unfold p0
  simp [Array.getD,hi]
 refine srt_small C' (p:=p0 k) (n:=2 ^ k) (bnd0 k) (by unfold p0; simp) h3 h64 ?_ ?_ ?_ ⟨rfl,rfl⟩
 · rw [g 1 (by omega),g 0 (by omega)]; exact ho.1
 · rw [g 2 (by omega),g 1 (by omega)]; exact ho.2.1
 · rw [g 0 (by omega),g 1 (by omega)]; exact ho.2.2
theorem all_sorts (k : Nat) (h1 : 1 ≤ k) (h6 : k ≤ 6) : Sorts prog w (bitsL k) (qOf k):=by
 obtain ⟨a1,a2,a3,a4,a5,a6⟩:=agree_all
 obtain ⟨b2,b3,b4,b5⟩:=small_all
 have qs:=fun k hk=>q_size k hk
 rcases (show k = 1 ∨ k = 2 ∨ k = 3 ∨ k = 4 ∨ k = 5 ∨ k = 6 by omega) with rfl | rfl | rfl | rfl | rfl | rfl
 · refine ⟨rfl,fun A E s it C=>?_⟩
   have C':=C.congr fun i j hi hj=>agree_at a1 hi hj
   exact srt_two C' (p:=p0 1) (bnd0 1) rfl (by decide +kernel) ⟨rfl,rfl⟩
 · exact small_sorts a2 b2 (by decide) (by decide) (qs 2 (by simp))
 · exact small_sorts a3 b3 (by decide) (by decide) (qs 3 (by simp))
 · exact small_sorts a4 b4 (by decide) (by decide) (qs 4 (by simp))
 · exact small_sorts a5 b5 (by decide) (by decide) (qs 5 (by simp))
 · refine ⟨by rw [bits_len]; exact qs 6 (by simp),fun A E s it C=>?_⟩
   rw [bits_len] at C ⊢
   have C':=C.congr fun i j hi hj=>agree_at a6 hi hj
   have hb:=big_all
   unfold okBig okSmall at hb
   simp only [Bool.and_eq_true,Bool.not_eq_true',List.all_eq_true,List.mem_range] at hb
   obtain ⟨⟨c1,c2,c3⟩,d1,d2,d3,e1,e2⟩:=hb
   have g : ∀ i,i < 2 ^ 6 → (p0 6).getD i 0 = i:=fun i hi=>by
    unfold p0
    simp [Array.getD,hi]
   refine srt_64 C' (p:=p0 6) (bnd0 6) rfl ?_ ?_ ?_ d1 d2 d3 (fun i hi=>e1 i hi) (fun i hi=>e2 i (by omega)) fun pd=>⟨rfl,rfl⟩
   · rw [g 1 (by decide),g 0 (by decide)]; exact c1
   · rw [g 2 (by decide),g 1 (by decide)]; exact c2
   · rw [g 0 (by decide),g 1 (by decide)]; exact c3
end
end L2
namespace L2
open PySem PySem.Spec PyProof.Rows PySem.W
section
variable {X : Cx}
theorem sortedAll_get (h : Heap) (vs : List Value) (out : Array Value) : ∃ n,(sortedAll h vs out).get? (h.objs.size + 1) = some (seqObj "list" out n):=by
 unfold sortedAll sortedHeap
 have hsz : ((h.push (seqObj "list" #[] 0)).update h.objs.size (Obj.mapSeq (· ++ vs.toArray))).objs.size = h.objs.size + 1:=by rw [Heap.size_update,size_push']
 have h1 : (((h.push (seqObj "list" #[] 0)).update h.objs.size (Obj.mapSeq (· ++ vs.toArray))).push (seqObj "list" vs.toArray 0)).get? (h.objs.size + 1) = some (seqObj "list" vs.toArray 0):=by
  rw [← hsz]; exact Heap.get?_push_size _ rfl
 exact ⟨_,get?_update_seq (Heap.get?_push_of_some _ (Heap.get?_push_of_some _ (get?_update_seq h1 fun _=>#[]))) fun _=>out⟩
theorem sortedAll_keep {h : Heap} {vs : List Value} {out : Array Value} {b : Addr} {o : Obj} (hb : h.get? b = some o) : (sortedAll h vs out).get? b = some o:=by
 have lt:=Heap.lt_size hb
 have ne0 : b ≠ h.objs.size:=Nat.ne_of_lt lt
 have ne1 : b ≠ h.objs.size + 1:=Nat.ne_of_lt (Nat.lt_succ_of_lt lt)
 unfold sortedAll sortedHeap
 rw [(Heap.SameBut.update _ _ _).2 b ne1]
 refine Heap.get?_push_of_some _ (Heap.get?_push_of_some _ ?_)
 rw [(Heap.SameBut.update _ _ _).2 b ne1]
 refine Heap.get?_push_of_some _ ?_
 rw [(Heap.SameBut.update _ _ _).2 b ne0]
 exact Heap.get?_push_of_some _ hb
theorem tupI_of {pins : List (Addr × Obj)} {σ : St} {H : Hp} {s : Shared} (I : Inv X pins σ H s) : ∀ {ts : List Addr} {vs : List Value} {bs : List (List Int)},Vals (ts.map V.ref) vs → Paired (fun t b=>SqT X.K H t (b.map V.int)) ts bs → Paired (TupI s.heap) vs bs
 | [],vs,_,r,.nil=>by
  rw [List.map_nil] at r
  cases r
  exact .nil
 | t :: ts,vs,b :: bs,r,.cons h p=>by
  rw [List.map_cons] at r
  cases r with
  | cons r1 r2 =>
   cases r1
   obtain ⟨its,rv,⟨o,h1,h2,n,h3⟩,_⟩:=I.tuple h
   exact .cons ⟨t,o,_,n,rfl,h1,h2,h3,intsAre_of rv⟩ (tupI_of I r2 p)
theorem getD_ref {ts : List Addr} {i : Nat} {d : Addr} (h : i < ts.length) : (ts.map V.ref).getD i .non = .ref (ts.getD i d):=by simp [h]
theorem vals_at {xs : List V} {vs : List Value} (r : Vals xs vs) {i : Nat} (h : i < xs.length) : RelV (xs.getD i .non) (vs.getD i .none):=by
 obtain ⟨w',e,rw'⟩:=r.get (i:=i) (List.getElem?_eq_getElem h)
 have e1 : vs.getD i .none = w':=by simp [e]
 have e2 : xs.getD i .non = xs[i]:=by simp [h]
 rw [e1,e2]
 exact rw'
theorem vals_map {xs : List V} {vs : List Value} (r : Vals xs vs) : ∀ {l : List Nat},(∀ i ∈ l,i < xs.length) → Vals (l.map fun i=>xs.getD i .non) (l.map fun i=>vs.getD i .none)
 | [],_=>.nil
 | i :: l,h=>.cons (vals_at r (h i List.mem_cons_self)) (vals_map r fun j hj=>h j (List.mem_cons_of_mem _ hj))
theorem paired_sub {α β : Type} {F : α → β → Prop} {d : α} {e : β} {l₁ : List α} {l₂ : List β} (p : Paired F l₁ l₂) : ∀ {l : List Nat},(∀ i ∈ l,i < l₁.length) → Paired F (l.map fun i=>l₁.getD i d) (l.map fun i=>l₂.getD i e)
 | [],_=>.nil
 | i :: l,h=>.cons (paired_get p i (h i List.mem_cons_self)) (paired_sub p fun j hj=>h j (List.mem_cons_of_mem _ hj))
theorem q_in : ∀ k ∈ [0,1,2,3,4,5,6],((qOf k).toList.all fun i=>Nat.blt i (2 ^ k)) = true:=by decide +kernel
def rCatA (K : PySem.W.Frag) : R2:=fun x y H Q=>∃ a b xs ys,x = .ref a ∧ y = .ref b ∧ SqT K H a xs ∧ SqT K H b ys ∧ ys ≠ [] ∧ xs.length + ys.length ≤ sizeLine ∧ (xs = [] → Q (.ref b) H) ∧ (xs ≠ [] → ∀ p,H p = none → Q (.ref p) (upd H p (.tup (xs ++ ys))))
theorem op_catA : OpR X (binaryOp .Add) (rCatA X.K):=by
 intro pins s σ H x y v u Q I rx ry h
 obtain ⟨a,b,xs,ys,rfl,rfl,ha,hb,hy,hz,q1,q2⟩:=h
 by_cases hx : xs = []
 · cases rx
   cases ry
   obtain ⟨its,r1,p1,_⟩:=I.tuple ha
   obtain ⟨its2,r2,p2,_⟩:=I.tuple hb
   obtain ⟨⟨cls,dd,data,sl⟩,ho,hc,n,hd⟩:=id p1
   obtain ⟨⟨cls2,dd2,data2,sl2⟩,ho2,hc2,n2,hd2⟩:=id p2
   simp only at hc hd hc2 hd2
   subst hc hd hc2 hd2
   have he : its = []:=r1.nil_iff.mpr hx
   exact concat_meets ⟨_,ho,rfl⟩ ⟨_,ho2,rfl⟩ noFill_tuple_add seq_tuple_add PySem.F.slot_tuple_add PySem.F.entry_tuple_add (PySem.F.args_tuple_add_2 _ _)
    (tuple_addW0 a b its.toArray its2.toArray n n2 dd dd2 sl sl2 (by simp [he])) ⟨ho,ho2,⟨.ref b,H,I,rfl,q1 hx⟩⟩
 · exact op_catT pins s σ H _ _ v u Q I rx ry ⟨a,b,xs,ys,rfl,rfl,ha,hb,hx,hz,fun e=>absurd e hy,fun _=>q2 hx⟩
end
end L2
namespace L2
open PySem PySem.Spec PyProof.Rows PySem.W
section
variable {prog : Program} {w : World} {A : Around} {E : Value → Shared → Prop} {s : Shared}
theorem sort_few {a : Addr} {vs : List Value} {n : Nat} {P : Fin → Shared → Prop} (ho : s.heap.get? a = some (seqObj "list" vs.toArray n)) (h2 : vs.length < 2) (h : P (.done (.ret .none)) { s with heap:=sortedHeap s.heap a vs vs.toArray }) :
 wpAny (model prog w) A (Builtin.«list.sort» ⟨[.ref a],[]⟩) P E s:=by
 rw [list_sort_plain]
 have ha : a < s.heap.objs.size:=Heap.lt_size ho
 refine wpAny_bind (listItems_at ho rfl ?_)
 refine wpAny_bind (listUpdate_at ho rfl ?_ (by rw [List.size_toArray,sizeLine_eq]; omega) (Nat.zero_le _))
 obtain ⟨e1,ho1⟩ : ∃ e1,(s.heap.update a (Obj.mapSeq fun _=>#[])).get? a = some (seqObj "list" #[] e1):=⟨_,get?_update_seq ho (fun _=>#[])⟩
 refine wpAny_bind (seqEpoch_at ho1 rfl ?_)
 refine wpAny_bind (wpAny_newTuple ?_ (by show vs.length ≤ _; rw [sizeLine_eq]; omega))
 refine wpAny_bind (wpAny_newList ?_ (Nat.zero_le _))
 refine wpAny_holding ?_
 have ho6 : (((s.heap.update a (Obj.mapSeq fun _=>#[])).push (seqObj "tuple" vs.toArray 0)).push (seqObj "list" #[] 0)).get? a = some (seqObj "list" #[] e1) :=
  Heap.get?_push_of_some _ (Heap.get?_push_of_some _ ho1)
 show wpAny (model prog w) A _ P E { s with heap:=((s.heap.update a (Obj.mapSeq fun _=>#[])).push (seqObj "tuple" vs.toArray 0)).push (seqObj "list" #[] 0) }
 dsimp only
 have hn2 : vs.toArray.size < 2:=by rw [List.size_toArray]; omega
 rw [if_pos hn2,if_pos hn2]
 refine wpAny_bind (wpAny_pure ?_)
 rw [StateT.run_pure]
 refine wpAny_bind (wpAny_pure ?_)
 dsimp only
 have hsz : ((vs.toArray.zip vs.toArray).map (·.2)) = vs.toArray:=by
  apply Array.ext
  · simp
  · intro i h1 h2
    simp
 refine wpAny_bind (seqEpoch_at ho6 rfl ?_)
 show wpAny _ _ (Builtin.List.listUpdate (.ref a) (fun _=>((vs.toArray.zip vs.toArray).map (·.2))) >>= _) _ _ _
 rw [hsz]
 refine wpAny_bind (listUpdate_at ho6 rfl ?_ (hsz2:=by rw [List.size_toArray,sizeLine_eq]; omega))
 simp only [bne_self_eq_false,Bool.false_eq_true,if_false]
 exact wpAny_pure h
theorem sorted_few {l : Addr} {vs : List Value} {Q : Value → Shared → Prop} (hl : s.heap.IsList l vs.toArray) (h2 : vs.length < 2) (h : Q (.ref (s.heap.objs.size + 1)) { s with heap:=sortedAll s.heap vs vs.toArray }) :
 wpAny (model prog w) A (call (.builtin "sorted") [.ref l]) Q E s:=by
 refine Calls.call_function_entry kind_sorted plain_sorted entry_sorted (args_sorted1 _) ?_
 unfold Builtin.«sorted»
 refine wpAny_bind (m:=checkCount "sorted" 1 1 _) (wpAny_pure ?_)
 refine wpAny_bind (collect_list hl ?_ (by rw [sizeLine_eq]; omega))
 refine wpAny_bind (wpAny_newList ?_ (by rw [sizeLine_eq]; omega))
 have hsz : ((s.heap.push (seqObj "list" #[] 0)).update s.heap.objs.size (Obj.mapSeq (· ++ vs.toArray))).objs.size = s.heap.objs.size + 1:=by
  rw [Heap.size_update,size_push']
 have hoL : (((s.heap.push (seqObj "list" #[] 0)).update s.heap.objs.size (Obj.mapSeq (· ++ vs.toArray))).push (seqObj "list" vs.toArray 0)).get? (s.heap.objs.size + 1) = some (seqObj "list" vs.toArray 0):=by
  rw [← hsz]; exact Heap.get?_push_size _ rfl
 show wpAny _ _ _ _ _ { s with heap:=((s.heap.push (seqObj "list" #[] 0)).update s.heap.objs.size (Obj.mapSeq (· ++ vs.toArray))).push (seqObj "list" vs.toArray 0) }
 rw [hsz]
 refine wpAny_bind (wpAny_holding (wpAny_call_entry slot_list_sort ⟨_,hoL,rfl⟩ entry_list_sort (sort_few hoL h2 ⟨_,rfl,?_⟩) (args_list_sort _)))
 exact wpAny_pure ⟨_,rfl,h⟩
end
theorem ints_inj : ∀ {b c : List Int},b.map V.int = c.map V.int → b = c
 | [],[],_=>rfl
 | [],_ :: _,h=>nomatch h
 | _ :: _,[],h=>nomatch h
 | x :: b,y :: c,h=>by
  rw [List.map_cons,List.map_cons] at h
  have h1:=List.cons.inj h
  rw [V.int.inj h1.1,ints_inj h1.2]
section
variable {X : Cx}
open Classical in
def rInT (K : PySem.W.Frag) : R2:=fun x y H Q=>∃ (t p : Addr) (b : List Int) (ts : List Addr) (bs : List (List Int)),x = .ref t ∧ y = .ref p ∧ SqT K H t (b.map V.int) ∧ SqL K H p (ts.map V.ref) ∧ Paired (fun t b=>SqT K H t (b.map V.int)) ts bs ∧ Q (.bl (decide (b ∈ bs))) H
theorem eq_tups {A : Around} {pins : List (Addr × Obj)} {σ : St} {H : Hp} {s : Shared} (I : Inv X pins σ H s) (hu : A.units + 1 < cLine) {t u : Addr} {b c : List Int} (ht : SqT X.K H t (b.map V.int)) (hu' : SqT X.K H u (c.map V.int)) : SeqAt.EqAt A s (.ref t) (.ref u) (decide (b = c)):=by
 by_cases e : t = u
 · subst e
   have e2 : b = c:=ints_inj (I.tuple_inj ht hu')
   rw [decide_eq_true e2]
   exact SeqAt.EqAt.same _
 · refine SeqAt.EqAt.of_refs e ?_
   obtain ⟨its,rv,pl,_⟩:=I.tuple ht
   obtain ⟨its',rv',pl',_⟩:=I.tuple hu'
   have l1:=rv.length
   have l2:=rv'.length
   rw [List.length_map] at l1 l2
   have key:=SeqAt.RcAt.tuples (A:=A) (s:=s) (e:=fun j=>decide (b.getD j 0 = c.getD j 0)) pl pl' (by omega) (fun j g1 g2=>?_)
   · have e3 : ((List.range (min its.toArray.size its'.toArray.size)).all (fun j=>decide (b.getD j 0 = c.getD j 0)) && its.toArray.size == its'.toArray.size) = decide (b = c):=by
      rw [Bool.eq_iff_iff,Bool.and_eq_true,decide_eq_true_eq,List.all_eq_true]
      simp only [List.size_toArray,beq_iff_eq,List.mem_range,decide_eq_true_eq]
      constructor
      · rintro ⟨h1,h2⟩
        apply List.ext_getElem (by omega)
        intro i g1 g2
        have:=h1 i (by omega)
        simpa [g1,g2] using this
      · rintro rfl
        exact ⟨fun _ _=>rfl,by omega⟩
     rw [← e3]
     exact key
   · simp only [List.size_toArray] at g1 g2
     have hj : j < b.length:=by omega
     have hj' : j < c.length:=by omega
     obtain ⟨w1,e1,r1⟩:=rv.get (x:=.int b[j]) (by rw [List.getElem?_map,List.getElem?_eq_getElem hj]; rfl)
     obtain ⟨w2,e2,r2⟩:=rv'.get (x:=.int c[j]) (by rw [List.getElem?_map,List.getElem?_eq_getElem hj']; rfl)
     have z:=eqAt_V (A:=A.in1) (s:=s) r1 r2 rfl rfl
     have a1 : its.toArray[j] = w1:=by
      have:=(List.getElem?_eq_some_iff.mp e1).2
      simpa using this
     have a2 : its'.toArray[j] = w2:=by
      have:=(List.getElem?_eq_some_iff.mp e2).2
      simpa using this
     rw [a1,a2]
     have e4 : eqV (.int b[j]) (.int c[j]) = decide (b.getD j 0 = c.getD j 0):=by
      simp [eqV,hj,hj']
      rfl
     rw [← e4]
     exact z
theorem mem_tups {A : Around} {pins : List (Addr × Obj)} {σ : St} {H : Hp} {s : Shared} (I : Inv X pins σ H s) (hu : A.units + 1 < cLine) {t : Addr} {b : List Int} (ht : SqT X.K H t (b.map V.int)) (f : Value → Bool) (hf : ∀ u c,SqT X.K H u (c.map V.int) → f (.ref u) = decide (c = b)) : ∀ {ts : List Addr} {vs : List Value} {bs : List (List Int)},Vals (ts.map V.ref) vs → Paired (fun t b=>SqT X.K H t (b.map V.int)) ts bs → (∀ v ∈ vs,SeqAt.EqAt A s v (.ref t) (f v)) ∧ vs.any f = bs.any fun c=>decide (c = b)
 | [],vs,_,r,.nil=>by
  rw [List.map_nil] at r
  cases r
  exact ⟨(fun _ h=>nomatch h),rfl⟩
 | u :: ts,vs,c :: bs,r,.cons h p=>by
  rw [List.map_cons] at r
  cases r with
  | cons r1 r2 =>
   cases r1
   obtain ⟨h1,h2⟩:=mem_tups I hu ht f hf r2 p
   refine ⟨fun v hv=>?_,?_⟩
   · rcases List.mem_cons.mp hv with rfl | hv
     · rw [hf u c h]
       exact eq_tups I hu h ht
     · exact h1 v hv
   · rw [List.any_cons,List.any_cons,h2,hf u c h]
open Classical in
theorem op_inT (hu : X.A.units + 2 < cLine) : OpR X (compareOp .In) (rInT X.K):=by
 intro pins s σ H x y v u Q I rx ry h
 obtain ⟨t,p,b,ts,bs,rfl,rfl,ht,hp,hb,q⟩:=h
 cases (show v = Value.ref t from rx)
 cases (show u = Value.ref p from ry)
 obtain ⟨its,rv,pl,hz⟩:=I.list hp
 have hf : ∀ u c,SqT X.K H u (c.map V.int) → (fun v : Value=>decide (∃ u,v = .ref u ∧ SqT X.K H u (b.map V.int))) (.ref u) = decide (c = b):=fun u c hc=>by
  show decide _ = decide _
  congr 1
  refine propext ⟨?_,?_⟩
  · rintro ⟨u',e,h'⟩
    cases e
    exact ints_inj (I.tuple_inj hc h')
  · rintro rfl
    exact ⟨u,rfl,hc⟩
 obtain ⟨m1,m2⟩:=mem_tups (A:=X.A.in1) I (by show X.A.in1.units + 1 < cLine; exact hu) ht (fun v : Value=>decide (∃ u,v = .ref u ∧ SqT X.K H u (b.map V.int))) hf rv hb
 refine SeqAt.in_listAt _ pl.isList (fun w hw=>m1 w (by simpa using hw)) ⟨.bl _,H,I,rfl,?_⟩
 have e : its.toArray.any (fun v : Value=>decide (∃ u,v = .ref u ∧ SqT X.K H u (b.map V.int))) = decide (b ∈ bs):=by
  rw [show its.toArray.any (fun v : Value=>decide (∃ u,v = .ref u ∧ SqT X.K H u (b.map V.int))) = its.any (fun v : Value=>decide (∃ u,v = .ref u ∧ SqT X.K H u (b.map V.int))) by simp,m2,Bool.eq_iff_iff,List.any_eq_true,decide_eq_true_eq]
  constructor
  · rintro ⟨c,hc,e⟩
    exact of_decide_eq_true e ▸ hc
  · intro h
    exact ⟨b,h,by simp⟩
 rw [e]
 exact q
end
end L2
namespace L2
open PySem PySem.Spec PyProof.Rows PySem.W
section
variable {X : Cx}
theorem call_sortedF : CallR X (.builtin "sorted") (fun xs H Q=>∃ p ts k,xs = [.ref p] ∧ SqL X.K H p (ts.map V.ref) ∧ Paired (fun t b=>SqT X.K H t (b.map V.int)) ts (bitsL k) ∧ 1 ≤ k ∧ k ≤ 6 ∧
 ∀ D ts',H D = none → (∀ F : Addr → List Int → Prop,Paired F ts (bitsL k) → Paired F ts' (risL k)) → Q (.ref D) (upd H D (.lst (ts'.map V.ref)))):=by
 intro pins s σ H xs us Q I r h
 obtain ⟨p,ts,k,rfl,hp,hb,h1,h6,q⟩:=h
 obtain ⟨u,rfl,rx⟩:=vals1 r
 cases (show u = Value.ref p from rx)
 obtain ⟨its,rv,pl,hz⟩:=I.list hp
 have l1:=rv.length
 rw [List.length_map] at l1
 have l2:=hb.length
 rw [bits_len] at l2
 have hk : k ∈ [0,1,2,3,4,5,6]:=by
  rcases (show k = 1 ∨ k = 2 ∨ k = 3 ∨ k = 4 ∨ k = 5 ∨ k = 6 by omega) with rfl | rfl | rfl | rfl | rfl | rfl <;> simp
 have two : 2 ≤ 2 ^ k ∧ 2 ^ k ≤ 64:=by
  rcases (show k = 1 ∨ k = 2 ∨ k = 3 ∨ k = 4 ∨ k = 5 ∨ k = 6 by omega) with rfl | rfl | rfl | rfl | rfl | rfl <;> decide
 have hin : ∀ i ∈ (qOf k).toList,i < 2 ^ k:=fun i hi=>by
  have:=List.all_eq_true.mp (q_in k hk) i hi
  rwa [Nat.blt_eq] at this
 refine sorted_tups (k:=k) (q:=qOf k) pl.isList (tupI_of I rv hb) (bits_each k) h1 (by omega) (by omega) (all_sorts k h1 h6) ?_
 obtain ⟨n,hn⟩:=sortedAll_get s.heap its ((qOf k).map fun i=>its.getD i .none)
 have hp2 : ∀ F : Addr → List Int → Prop,Paired F ts (bitsL k) → Paired F ((qOf k).toList.map fun i=>ts.getD i 0) (risL k):=fun F hF=>by
  have:=paired_sub (d:=0) (e:=[]) hF (l:=(qOf k).toList) (fun i hi=>by have:=hin i hi; omega)
  rwa [ris_all k hk] at this
 refine ⟨.ref (s.heap.objs.size + 1),_,I.laid (t':=s.toks) (o:=.lst (((qOf k).toList.map fun i=>ts.getD i 0).map V.ref)) (fun b o hb=>sortedAll_keep hb) (by omega) ?_,rfl,q _ _ (I.hok.fresh (by omega)) hp2⟩
 refine ⟨?_,((qOf k).map fun i=>its.getD i .none).toList,n,?_,?_⟩
 · rw [List.length_map,List.length_map,Array.length_toList,q_size k hk,sizeLine_eq]
   omega
 · have v:=vals_map rv (l:=(qOf k).toList) (fun i hi=>by rw [List.length_map]; have:=hin i hi; omega)
   rw [Array.toList_map]
   have e : ((qOf k).toList.map fun i=>ts.getD i 0).map V.ref = (qOf k).toList.map fun i=>(ts.map V.ref).getD i .non:=by
    rw [List.map_map]
    refine List.map_congr_left fun i hi=>?_
    show V.ref (ts.getD i 0) = _
    exact (getD_ref (by have:=hin i hi; omega)).symm
   rw [e]
   exact v
 · rw [Array.toArray_toList]
   exact hn
theorem call_sortedF0 : CallR X (.builtin "sorted") (fun xs H Q=>∃ p ts k,xs = [.ref p] ∧ SqL X.K H p (ts.map V.ref) ∧ Paired (fun t b=>SqT X.K H t (b.map V.int)) ts (bitsL k) ∧ k ≤ 6 ∧
 ∀ D ts',H D = none → (∀ F : Addr → List Int → Prop,Paired F ts (bitsL k) → Paired F ts' (risL k)) → Q (.ref D) (upd H D (.lst (ts'.map V.ref)))):=by
 intro pins s σ H xs us Q I r h
 obtain ⟨p,ts,k,rfl,hp,hb,h6,q⟩:=h
 by_cases hk : k = 0
 · subst hk
   obtain ⟨u,rfl,rx⟩:=vals1 r
   cases (show u = Value.ref p from rx)
   obtain ⟨its,rv,pl,hz⟩:=I.list hp
   have l1:=rv.length
   rw [List.length_map] at l1
   have l2:=hb.length
   rw [bits_len] at l2
   obtain ⟨n,hn⟩:=sortedAll_get s.heap its its.toArray
   refine sorted_few pl.isList (by omega) ⟨.ref (s.heap.objs.size + 1),_,I.laid (t':=s.toks) (o:=.lst (ts.map V.ref)) (fun b o hb=>sortedAll_keep hb) (by omega) ⟨hz,its,n,rv,hn⟩,rfl,q _ ts (I.hok.fresh (by omega)) fun F hF=>hF⟩
 · exact call_sortedF pins s σ H _ us Q I r ⟨p,ts,k,rfl,hp,hb,by omega,h6,q⟩
end
end L2
namespace Gen
open PySem L2
abbrev sAllB : Stmt:=top 17
abbrev sFirsts : Stmt:=top 18
def firstB (v : V) (b : Int) : Bool:=decide (v = .non) || decide (v = .int b)
def okF (fs : List V) (r : List Int) : Bool:=(fs.zip r).all fun p=>firstB p.1 p.2
def Frst (v : V) : Prop:=v = .int 0 ∨ v = .int 1 ∨ v = .non
theorem ris_each : ∀ (k : Nat),∀ r ∈ risL k,r.length = k
 | 0,r,h=>by
  have : r = []:=by simpa [risL] using h
  rw [this]; rfl
 | k + 1,r,h=>by
  rw [risL] at h
  obtain ⟨q,hq,hr⟩:=List.mem_flatMap.mp h
  have:=ris_each k q hq
  simp only [List.mem_cons,List.not_mem_nil,or_false] at hr
  rcases hr with rfl | rfl <;> rw [List.length_append,this] <;> rfl
theorem ris_len : ∀ (k : Nat),(risL k).length = 2 ^ k
 | 0=>rfl
 | k + 1=>by
  have : ∀ l : List (List Int),(l.flatMap fun r=>[r ++ [(0 : Int)],r ++ [1]]).length = 2 * l.length:=fun l=>by
   induction l with
   | nil=>rfl
   | cons x l ih=>rw [List.flatMap_cons,List.length_append,ih,List.length_cons]; simp; omega
  rw [risL,this,ris_len k,Nat.pow_succ]
  omega
def RowsH (H : Hp) (ts : List Addr) (bs : List (List Int)) : Prop:=Paired (fun t b=>H t = some (.tup (b.map V.int))) ts bs
theorem RowsH.same {H H' : Hp} {ts : List Addr} {bs : List (List Int)} (h : RowsH H ts bs) (s : Same H H') : RowsH H' ts bs:=Paired.mapP h fun t b e=>s _ _ e
theorem one_app (r : List Int) (b : Int) : (r.map V.int ++ [V.int b]) = (r ++ [b]).map V.int:=by rw [List.map_append]; rfl
def RowsT (K : PySem.W.Frag) (H : Hp) (ts : List Addr) (bs : List (List Int)) : Prop:=Paired (fun t b=>SqT K H t (b.map V.int)) ts bs
theorem RowsH.t {K : PySem.W.Frag} {H : Hp} {ts : List Addr} {bs : List (List Int)} (h : RowsH H ts bs) : RowsT K H ts bs:=Paired.mapP h fun t b e=>SqT.of e
def spAllB (K : PySem.W.Frag) : Sp:=fun vs H Q _=>∃ (k : Int),vs = [.int k] ∧ 0 ≤ k ∧ k ≤ 6 ∧ ∀ p us H',Same H H' → H p = none → H' p = some (.lst (us.map V.ref)) → RowsH H' us (risL k.toNat) → Q (.ref p) H'
theorem okF_take {fs : List V} {cs : List Int} (h : fs.length = cs.length) : okF fs cs = ((fs.zip cs).map fun p=>firstB p.1 p.2).all _root_.id:=by
 unfold okF
 rw [List.all_map]
 rfl
theorem lc_app {K : PySem.W.Frag} {b : Int} {D p : Addr} {Q : Hp → Prop} {H1 : Hp} {ts : List Addr} {bs : List (List Int)} (hD : H1 D = none) (hp : H1 p = some (.lst (ts.map V.ref))) (h2 : RowsH H1 ts bs) (hlen : bs.length ≤ 64) (hk : ∀ r ∈ bs,r.length ≤ 6)
 (fin : ∀ H4 ws,Same H1 H4 → H4 D = some (.lst (ws.map V.ref)) → RowsH H4 ws (bs.map (· ++ [b])) → Q H4) :
 ∃ W : Nat → Nat → St → Hp → Prop,(∃ m,W 0 m [none] (upd H1 D (.lst []))) ∧ bLC D (gName 0) tYes (tOp (rCatA K) (tVar 0) (tTup (tCons (tC (.int b)) tNil))) (Itl K p) W Q:=by
 have hl:=h2.length
 refine lc_by bs.length (fun j acc σ' H4=>(∃ ws : List Addr,acc = ws.map V.ref ∧ RowsH H4 ws ((bs.take j).map (· ++ [b])) ∧ ws.length = j) ∧ (∃ u,σ' = [u]) ∧ Same H1 H4) ⟨⟨[],rfl,.nil,rfl⟩,⟨none,rfl⟩,Same.upd_new hD⟩ upd_same ?_ ?_
 · rintro acc σ' H4 hDD ⟨⟨ws,rfl,hws,_⟩,_,s4⟩
   rw [List.take_length] at hws
   exact ⟨⟨_,SqL.of (s4 _ _ hp),by rw [List.length_map,hl]; exact Nat.le_refl _⟩,fin H4 ws s4 hDD hws⟩
 · rintro j acc σ' H4 hj hDD ⟨⟨ws,rfl,hws,hwl⟩,⟨u,rfl⟩,s4⟩
   have hrj : bs[j]? = some bs[j]:=List.getElem?_eq_getElem hj
   obtain ⟨t,ht,hT⟩:=paired_at h2 (i:=j) hrj
   have ej : (ts.map V.ref)[j]? = some (.ref t):=by rw [List.getElem?_map,ht]; rfl
   refine ⟨⟨_,_,SqL.of (s4 _ _ hp),ej⟩,?_⟩
   rintro x' H' ⟨rfl,hall⟩
   have ex:=hall _ (SqL.of (s4 _ _ hp))
   rw [ej] at ex
   cases ex
   refine gName_yes ?_
   have htk : (bs.take (j + 1)).map (· ++ [b]) = (bs.take j).map (· ++ [b]) ++ [bs[j] ++ [b]]:=by
    rw [List.take_succ,hrj,List.map_append]
    rfl
   have hrl:=hk _ (List.getElem_mem hj)
   generalize bs[j] = r at hT htk hrl
   have fin2 : ∀ (R : Addr) (J : Hp),Same H' J → J R = some (.tup ((r ++ [b]).map V.int)) → ∃ acc,J D = some (.lst acc) ∧ acc.length < sizeLine ∧ ∃ m',m' < bs.length - j ∧ LcW D bs.length (fun j acc σ' H4=>(∃ ws : List Addr,acc = ws.map V.ref ∧ RowsH H4 ws ((bs.take j).map (· ++ [b])) ∧ ws.length = j) ∧ (∃ u,σ' = [u]) ∧ Same H1 H4) (j + 1) m' [some (.ref t)] (upd J D (.lst (acc ++ [.ref R]))):=by
    intro R J sJ hR
    have hDJ:=sJ _ _ hDD
    have nt : ∀ {b : Addr} {o : List V},J b = some (.tup o) → b ≠ D:=fun hb e=>by rw [e,hDJ] at hb; cases hb
    refine ⟨_,hDJ,(by rw [List.length_map]; exact small (by omega)),lcW_next hj upd_same ⟨⟨ws ++ [R],by rw [List.map_append]; rfl,?_,by rw [List.length_append,List.length_singleton,hwl]⟩,⟨_,rfl⟩,?_⟩⟩
    · rw [htk]
      refine Paired.snoc (Paired.mapP hws fun c d e=>?_) ?_
      · have:=sJ _ _ e
        rw [upd_ne (nt this)]
        exact this
      · rw [upd_ne (nt hR)]
        exact hR
    · intro y o hy
      rw [upd_ne (ne_of_none hy hD)]
      exact sJ _ _ (s4 _ _ hy)
   refine ⟨_,rfl,(by show 1 ≤ sizeLine; decide),fun T1 hT1=>?_⟩
   have z1 : Same H' (upd H' T1 (.tup [.int b])):=Same.upd_new hT1
   have z2 : (upd H' T1 (.tup [.int b])) T1 = some (.tup [.int b]):=upd_same
   generalize upd H' T1 (.tup [.int b]) = J3 at z1 z2 ⊢
   refine ⟨t,T1,_,_,rfl,rfl,SqT.of (z1 _ _ (s4 _ _ hT)),SqT.of z2,(by simp),?_,fun e=>?_,fun _ R hR=>?_⟩
   · rw [List.length_map]
     exact line8 (by show r.length + 1 ≤ 100; omega)
   · have : r = []:=List.map_eq_nil_iff.mp e
     subst this
     exact fin2 T1 J3 z1 z2
   · exact fin2 R _ (z1.trans (Same.upd_new hR)) (by rw [upd_same,one_app])
section
variable {P : Program} {w : World} {K : PySem.W.Frag} {mg : Str → Option Value} {base : Heap} {C : Addr}
theorem scAB : FnScope ["_law_many", "_law_found", "_law_k"] ["_law_many"] (defScope sAllB):=⟨rfl,rfl,rfl,by decide +kernel,rfl,by decide +kernel,by decide +kernel⟩
theorem ok_all_bits {f : Addr} {fd : FuncData} (F : Fun K "_law_all_bits" "_law_all_bits" sAllB f fd) (O : Own mg) (hS : mg "sorted" = none) : FnOk P w K mg base CX0 1 f fd ["_law_many"] (spAllB K):=by
 refine F.ok scAB (fun vs H Q E h=>?_) (fun cdv A outer s H vs Q E hr h=>?_)
 · obtain ⟨k,rfl,_⟩:=h
   rfl
 · obtain ⟨k,rfl,k0,k6,kk⟩:=h
   refine ⟨_,pss_cons (ps_set (i:=1) scAB.nd rfl (Or.inl rfl) (pe_lst (pa_cons (pe_tup pa_nil) pa_nil)))
    (pss_cons (ps_for PassesOwn.never rfl (pi_range1 rfl O.range (pa_cons (pv 0) pa_nil)) (pg_name (i:=2) scAB.nd rfl (Or.inl rfl))
     (pss_one (ps_set (i:=1) scAB.nd rfl (Or.inl rfl) (pe_op op_cat
      (pe_lc (N:=["_law_one"]) (js:=[none]) (by kernel_rfl) rfl (pi_list (pv 1)) (fun _ _ _ _ _ _=>pg_name (i:=0) ndO rfl (Or.inl rfl) (.inr rfl)) (fun _ _ _ _ _ _=>pifs_nil) (fun _ _ _ _ _ _=>pe_op (r:=rCatA K) op_catA (pv 0) (pe_tup (pa_cons pe_int pa_nil))))
      (pe_lc (N:=["_law_one"]) (js:=[none]) (by kernel_rfl) rfl (pi_list (pv 1)) (fun _ _ _ _ _ _=>pg_name (i:=0) ndO rfl (Or.inl rfl) (.inr rfl)) (fun _ _ _ _ _ _=>pifs_nil) (fun _ _ _ _ _ _=>pe_op (r:=rCatA K) op_catA (pv 0) (pe_tup (pa_cons pe_int pa_nil))))))))
    (pss_one (ps_ret (pe_callB call_sortedF0 (by rfl) hS PyProof.Rows.boot_sorted (pa_cons (pv 1) pa_nil))))),?_⟩
   refine ⟨(by show 0 ≤ sizeLine; decide),fun e he=>?_⟩
   have t0 : Same H (upd H e (.tup [])):=Same.upd_new he
   have q0 : (upd H e (.tup [])) e = some (.tup (([] : List Int).map V.int)):=upd_same
   generalize upd H e (.tup []) = H0 at t0 q0 ⊢
   refine ⟨(by show 1 ≤ sizeLine; decide),fun p0 hp0=>?_⟩
   have t1 : Same H0 (upd H0 p0 (.lst [.ref e])):=Same.upd_new hp0
   have q1 : (upd H0 p0 (.lst [.ref e])) p0 = some (.lst ([e].map V.ref)):=upd_same
   generalize upd H0 p0 (.lst [.ref e]) = H1 at t1 q1 ⊢
   have t01:=t0.trans t1
   refine ⟨_,rfl,k,rfl,by omega,by omega,for_range (n:=k.toNat) (fun i σ Hi=>∃ (p : Addr) (ts : List Addr) (v2 : Option V),σ = [some (.int k),some (.ref p),v2] ∧ Hi p = some (.lst (ts.map V.ref)) ∧ RowsH Hi ts (bitsL i) ∧ Same H Hi) ?_ ?_ ?_⟩
   · exact ⟨p0,[e],none,rfl,q1,.cons (t1 _ _ q0) .nil,t01⟩
   · rintro i σ Hi hi ⟨p,ts,v2,rfl,hp,hts,si⟩
     have hbl : (bitsL i).length ≤ 64:=by
      rw [bits_len]
      have h2 : 2 ^ i ≤ 2 ^ 6:=Nat.pow_le_pow_right (by decide) (by omega)
      omega
     have hbe : ∀ r ∈ bitsL i,r.length ≤ 6:=fun r hr'=>by rw [bits_each i r hr']; omega
     refine ⟨_,rfl,p,rfl,⟨_,SqL.of hp⟩,fun D hD=>lc_app hD hp hts hbl hbe fun H2 ws s2 hD2 hw2=>?_⟩
     refine ⟨_,rfl,p,rfl,⟨_,SqL.of (s2 _ _ hp)⟩,fun D' hD'=>lc_app hD' (s2 _ _ hp) (hts.same s2) hbl hbe fun H3 ws' s3 hD3 hw3=>?_⟩
     have l1:=hw2.length
     have l2:=hw3.length
     rw [List.length_map] at l1 l2
     refine ⟨D,D',_,_,rfl,rfl,s3 _ _ hD2,hD3,(by rw [List.length_map,List.length_map]; exact small' (by omega)),fun R hR=>⟨R,ws ++ ws',_,rfl,?_,?_,?_⟩⟩
     · rw [upd_same,List.map_append]
     · rw [bitsL]
       exact paired_append (Paired.mapP hw2 fun t b e=>by have:=s3 _ _ e; rw [upd_ne (ne_of_none this hR)]; exact this) (Paired.mapP hw3 fun t b e=>by rw [upd_ne (ne_of_none e hR)]; exact e)
     · exact si.trans (s2.trans (s3.trans (Same.upd_new hR)))
   · rintro σ Hi ⟨p,ts,v2,rfl,hp,hts,si⟩
     refine ⟨_,rfl,p,ts,k.toNat,rfl,SqL.of hp,hts.t,by omega,fun D ts' hD hF=>?_⟩
     exact kk D ts' _ (si.trans (Same.upd_new hD)) (si.free hD) upd_same (RowsH.same (hF _ hts) (Same.upd_new hD))
end
theorem ndNFB : (["_law_name", "_law_first", "_law_bit_here"] : List Str).Nodup:=by decide +kernel
def spFirsts (K : PySem.W.Frag) : Sp:=fun vs H Q _=>∃ (m a1 a2 a3 a4 a5 a6 : Addr) (M : Mach),vs = [.ref m] ∧ MachAt H m M a1 a2 a3 a4 a5 a6 ∧ M.keepers.length ≤ 6 ∧ (∀ r ∈ M.keepers,Frst r.2) ∧ ∀ p us H',Same H H' → H p = none → H' p = some (.lst (us.map V.ref)) → RowsH H' us ((risL M.keepers.length).filter (okF (M.keepers.map (·.2)))) → Q (.ref p) H'
theorem filter_take {α : Type} {p : α → Bool} {l : List α} {i : Nat} {x : α} (h : l[i]? = some x) : (l.take (i + 1)).filter p = (l.take i).filter p ++ if p x = true then [x] else []:=by
 rw [List.take_succ,h,List.filter_append]
 cases hp : p x <;> simp [hp]
section
variable {P : Program} {w : World} {K : PySem.W.Frag} {mg : Str → Option Value} {base : Heap} {C : Addr}
theorem scFi : FnScope ["_law_m", "_law_found", "_law_stand"] ["_law_m"] (defScope sFirsts):=⟨rfl,rfl,rfl,by decide +kernel,rfl,by decide +kernel,by decide +kernel⟩
theorem ok_firsts {f fA : Addr} {fd dA : FuncData} (F : Fun K "_law_firsts" "_law_firsts" sFirsts f fd) (O2 : Own2 mg)
 (gA : FnOk P w K mg base CX0 1 fA dA ["_law_many"] (spAllB K)) (mA : mg "_law_all_bits" = some (.ref fA)) (kA : PySem.W.keepIn K (.ref fA) = true) (bA : Binds K dA ["_law_many"] []) : FnOk P w K mg base CX0 2 f fd ["_law_m"] (spFirsts K):=by
 refine F.ok scFi (fun vs H Q E h=>?_) (fun cdv A outer s H vs Q E hr h=>?_)
 · obtain ⟨m,a1,a2,a3,a4,a5,a6,M,rfl,_⟩:=h
   rfl
 · obtain ⟨m,a1,a2,a3,a4,a5,a6,M,rfl,hM,hk6,hfr,kk⟩:=h
   have hu:=hu_of hr
   refine ⟨_,pss_cons (ps_set (i:=1) scFi.nd rfl (Or.inl rfl) (pe_lst pa_nil))
    (pss_cons (ps_for PassesOwn.never rfl (pi_list (pe_call gA hr rfl mA kA bA .nil pass0 (pa_cons (pe_callB call_len_seq (by rfl) O2.len PySem.boot_len (pa_cons (pe_dget hu (pv 0) pe_str (fun _ _=>rfl)) pa_nil)) pa_nil))) (pg_name (i:=2) scFi.nd rfl (Or.inl rfl))
     (pss_one (ps_if (pt_val (pe_callB (call_all_bools rfl) (by rfl) O2.all PyProof.Rows.boot_all (pa_cons (pe_lc (N:=["_law_name", "_law_first", "_law_bit_here"]) (js:=[none,none,none]) (g:=gTup K 2 (gCons (gTup K 2 (gCons (gName 0) (gCons (gName 1) gNil))) (gCons (gName 2) gNil))) (by kernel_rfl) rfl (pi_zipL (by rfl) O2.zip (pa_cons (pe_dget hu (pv 0) pe_str (fun _ _=>rfl)) (pa_cons (pv 2) pa_nil)))
      (fun _ _ _ _ _ _=>pg_tup rfl (pgs_cons (pg_tup rfl (pgs_cons (pg_name (i:=0) ndNFB rfl (Or.inl rfl) (.inr rfl)) (pgs_cons (pg_name (i:=1) ndNFB rfl (Or.inl rfl) (.inr rfl)) pgs_nil))) (pgs_cons (pg_name (i:=2) ndNFB rfl (Or.inl rfl) (.inr rfl)) pgs_nil))) (fun _ _ _ _ _ _=>pifs_nil)
      (fun _ _ _ _ _ _=>pe_or (pe_cmp (pc_isN (pv 1))) (pe_one (pe_cmpR op_eq (pv 1) (pv 2) (nomark _))))) pa_nil)))
      (pss_one (ps_expr (pe_bm PySem.F.plainAttrs_list PySem.F.slot_list_append PySem.F.type_list_append mt_append (pv 1) (pa_cons (pv 2) pa_nil)))) pss_nil)))
    (pss_one (ps_ret (pv 1)))),?_⟩
   refine ⟨(by show 0 ≤ sizeLine; decide),fun p hp=>?_⟩
   have t0 : Same H (upd H p (.lst [])):=Same.upd_new hp
   have q0 : (upd H p (.lst [])) p = some (.lst (([] : List Addr).map V.ref)):=upd_same
   generalize upd H p (.lst []) = H0 at t0 q0 ⊢
   have hM0:=hM.same t0
   obtain ⟨ks,hks,pks⟩:=id hM0.kp
   have lks:=pks.length
   rw [List.length_map] at lks
   refine ⟨_,rfl,m,.ref a2,rfl,DGet.k (k:=.inr "keepers") hM0.top,a2,_,rfl,.inl (SqL.of hks),?_⟩
   rw [List.length_map]
   refine ⟨_,rfl,by omega,by omega,fun a us H1 s1 ha hau hus=>?_⟩
   have ekn : ((ks.length : Int)).toNat = M.keepers.length:=by omega
   rw [ekn] at hus
   have hlr : (risL M.keepers.length).length ≤ 64:=by
    rw [ris_len]
    have h2 : 2 ^ M.keepers.length ≤ 2 ^ 6:=Nat.pow_le_pow_right (by decide) hk6
    omega
   have hul:=hus.length
   have npa : a ≠ p:=fun e=>by rw [e,q0] at ha; cases ha
   have hp1:=s1 _ _ q0
   have hfs' : ∀ v ∈ M.keepers.map (·.2),Frst v:=fun v hv=>by
    obtain ⟨r,hr',rfl⟩:=List.mem_map.mp hv
    exact hfr r hr'
   have hre:=ris_each M.keepers.length
   have a2p : a2 ≠ p:=fun e=>by
    obtain ⟨k2,h2,_⟩:=id hM.kp
    rw [e,hp] at h2
    cases h2
   have mp : m ≠ p:=fun e=>by have:=hM.top; rw [e,hp] at this; cases this
   generalize hrows : risL M.keepers.length = rows at hus hlr hul kk hre
   generalize hfs : M.keepers.map (·.2) = fs at hfs' kk
   have hfl : fs.length = M.keepers.length:=by rw [← hfs,List.length_map]
   refine ⟨a,rfl,⟨_,SqL.of hau⟩,for_list (K:=K) (a:=a) (xs:=us.map V.ref) (fun i σ Hi=>∃ (ws : List Addr) (v2 : Option V),σ = [some (.ref m),some (.ref p),v2] ∧ Hi p = some (.lst (ws.map V.ref)) ∧ RowsH Hi ws ((rows.take i).filter (okF fs)) ∧ Keep H1 Hi p) ?_ ?_ ?_ ?_⟩
   · exact ⟨[],none,rfl,hp1,.nil,Keep.refl _ _⟩
   · rintro i σ Hi _ ⟨_,_,_,_,_,ki⟩
     exact SqL.of (ki _ _ hau npa)
   · rintro i xv σ Hi hx ⟨ws,v2,rfl,hpi,hws,ki⟩
     have hi : i < us.length:=by
      have:=(List.getElem?_eq_some_iff.mp hx).1
      rwa [List.length_map] at this
     have hir : i < rows.length:=by omega
     have hri : rows[i]? = some rows[i]:=List.getElem?_eq_getElem hir
     obtain ⟨t,ht,hT⟩:=paired_at hus (i:=i) hri
     have ex : xv = .ref t:=by
      rw [List.getElem?_map,ht] at hx
      exact (Option.some.inj hx).symm
     subst ex
     have hrl:=hre _ (List.getElem_mem hir)
     have hflt:=filter_take (p:=okF fs) hri
     generalize rows[i] = r at hT hrl hflt
     have ht2' : Hi t = some (.tup (r.map V.int)):=ki _ _ hT (ne_of hT hp1 (by intro z; cases z))
     have ht2 : SqT K Hi t (r.map V.int):=SqT.of ht2'
     have hM2 : Hi m = some (.dK (machKvs a1 a2 a3 a4 a5 a6)):=ki _ _ (s1 _ _ hM0.top) mp
     have hk2 : Hi a2 = some (.lst (ks.map V.ref)):=ki _ _ (s1 _ _ hks) a2p
     have pk2 : Paired (fun t r=>Hi t = some (.tup r)) ks (M.keepers.map rowK):=Paired.mapP pks fun t r e=>ki _ _ (s1 _ _ e) (ne_of (s1 _ _ e) hp1 (by intro z; cases z))
     have hwl:=hws.length
     have hwl2 : ((rows.take i).filter (okF fs)).length ≤ 64:=by
      refine Nat.le_trans (List.length_filter_le _ _) ?_
      rw [List.length_take]
      omega
     refine ⟨_,rfl,m,.ref a2,rfl,DGet.k (k:=.inr "keepers") hM2,_,rfl,a2,t,rfl,⟨_,SqL.of hk2⟩,⟨_,ht2⟩,fun D hD=>?_⟩
     refine lc_by fs.length (fun j acc σ H4=>acc = (((fs.zip r).take j).map fun p=>firstB p.1 p.2).map V.bl ∧ (∃ u v x,σ = [u,v,x]) ∧ Same Hi H4) ⟨rfl,⟨none,none,none,rfl⟩,Same.upd_new hD⟩ upd_same ?_ ?_
     · rintro acc σ H4 hDD ⟨rfl,_,s4⟩
       rw [List.take_of_length_le (by rw [List.length_zip]; omega)] at hDD
       refine ⟨⟨_,(show ZK K false H4 a2 _ from SqL.of (s4 _ _ hk2)),by rw [List.length_map,lks,hfl]; exact Nat.le_refl _⟩,D,_,rfl,SqL.of hDD,?_⟩
       rw [← okF_take (by omega)]
       have hp4:=s4 _ _ hpi
       refine ⟨_,rfl,ite2 (fun h=>?_) (fun h=>?_)⟩
       · rw [if_pos h] at hflt
         refine ⟨_,rfl,.inl ⟨rfl,_,SqL.of hp4⟩,_,rfl,p,_,_,rfl,rfl,hp4,(by rw [List.length_map]; exact small (by omega)),ws ++ [t],_,rfl,(by rw [upd_same,List.map_append]; rfl),?_,?_⟩
         · rw [hflt]
           have kp : Keep H4 (upd H4 p (.lst (ws.map V.ref ++ [.ref t]))) p:=Keep.upd_at
           exact Paired.snoc (Paired.mapP hws fun u b e=>kp _ _ (s4 _ _ e) (ne_of (s4 _ _ e) hp4 (by intro z; cases z))) (kp _ _ (s4 _ _ ht2') (ne_of (s4 _ _ ht2') hp4 (by intro z; cases z)))
         · intro b o hb hn
           rw [upd_ne hn]
           exact s4 _ _ (ki _ _ hb hn)
       · rw [if_neg h,List.append_nil] at hflt
         exact ⟨ws,_,rfl,hp4,by rw [hflt]; exact hws.same s4,fun b o hb hn=>s4 _ _ (ki _ _ hb hn)⟩
     · rintro j acc σ H4 hj hDD ⟨rfl,⟨u,v,x,rfl⟩,s4⟩
       have hjr : j < r.length:=by omega
       have hjk : j < M.keepers.length:=by omega
       have hkj : M.keepers[j]? = some M.keepers[j]:=List.getElem?_eq_getElem hjk
       obtain ⟨kt,hkt,eK⟩:=paired_at pk2 (i:=j) (b:=rowK M.keepers[j]) (by rw [List.getElem?_map,hkj]; rfl)
       have e1 : (ks.map V.ref)[j]? = some (.ref kt):=by rw [List.getElem?_map,hkt]; rfl
       have e2 : (r.map V.int)[j]? = some (.int r[j]):=by rw [List.getElem?_map,List.getElem?_eq_getElem hjr]; rfl
       have z1 : ZK K false H4 a2 (ks.map V.ref):=SqL.of (s4 _ _ hk2)
       have z2 : ZK K true H4 t (r.map V.int):=Same.seqT s4 ht2
       refine ⟨⟨_,_,_,_,z1,z2,e1,e2⟩,?_⟩
       rintro x' H' ⟨Tp,xa,xb,rfl,hTp,rfl,h1,h2⟩
       have e3:=h1 _ z1
       have e4:=h2 _ z2
       rw [e1] at e3
       rw [e2] at e4
       cases e3
       cases e4
       have sT : Same H4 (upd H4 Tp (.tup [.ref kt,.int r[j]])):=Same.upd_new hTp
       have hDT:=sT _ _ hDD
       have efj : fs[j] = M.keepers[j].2:=by
        have : fs[j]? = some M.keepers[j].2:=by rw [← hfs,List.getElem?_map,hkj]; rfl
        rw [List.getElem?_eq_getElem hj] at this
        exact Option.some.inj this
       have hz : (fs.zip r)[j]? = some (M.keepers[j].2,r[j]):=by rw [List.getElem?_eq_getElem (by rw [List.length_zip]; omega),List.getElem_zip,efj]
       have hvi : Frst M.keepers[j].2:=hfr _ (List.getElem_mem hjk)
       refine ⟨Tp,_,rfl,SqT.of upd_same,rfl,_,_,rfl,kt,_,rfl,SqT.of (sT _ _ (s4 _ _ eK)),rfl,_,_,rfl,_,_,rfl,rfl,_,_,rfl,rfl,yes_if ?_⟩
       refine ⟨_,rfl,_,rfl,?_⟩
       have fin : ∀ b,b = firstB M.keepers[j].2 r[j] → ∃ acc,(upd H4 Tp (.tup [.ref kt,.int r[j]])) D = some (.lst acc) ∧ acc.length < sizeLine ∧ ∃ m',m' < fs.length - j ∧ LcW D fs.length (fun j acc σ H4=>acc = (((fs.zip r).take j).map fun p=>firstB p.1 p.2).map V.bl ∧ (∃ u v x,σ = [u,v,x]) ∧ Same Hi H4) (j + 1) m' [some (.str M.keepers[j].1),some M.keepers[j].2,some (.int r[j])] (upd (upd H4 Tp (.tup [.ref kt,.int r[j]])) D (.lst (acc ++ [.bl b]))):=by
        rintro b rfl
        refine ⟨_,hDT,?_,lcW_next hj upd_same ⟨?_,⟨_,_,_,rfl⟩,?_⟩⟩
        · rw [List.length_map,List.length_map,List.length_take]
          exact small (by omega)
        · rw [take_next (fun p : V × Int=>firstB p.1 p.2) hz,List.map_append]
          rfl
        · intro y o hy
          rw [upd_ne (ne_of_none hy hD)]
          exact sT _ _ (s4 y o hy)
       rcases hvi with e | e | e
       · rw [e] at fin ⊢
         refine iteF ⟨_,rfl,_,rfl,rfl,?_⟩
         exact fin _ (by rw [firstB]; rfl)
       · rw [e] at fin ⊢
         refine iteF ⟨_,rfl,_,rfl,rfl,?_⟩
         exact fin _ (by rw [firstB]; rfl)
       · rw [e] at fin ⊢
         exact iteT (fin _ (by rw [firstB]; rfl))
   · rintro σ Hi ⟨ws,v2,rfl,hpi,hws,ki⟩
     rw [List.length_map,hul,List.take_length] at hws
     have s2 : Same H Hi:=fun b o hb=>ki _ _ (s1 _ _ (t0 _ _ hb)) (ne_of_none hb hp)
     exact ⟨_,rfl,kk p ws Hi s2 hp hpi hws⟩
end
end Gen
namespace L2
open PySem PySem.Spec PyProof.Rows
mutual
inductive Dp (K : PySem.W.Frag) (H : Hp) : V → PyData → Prop
 | non : Dp K H .non .none
 | bl (b) : Dp K H (.bl b) (.bool b)
 | int (i) : Dp K H (.int i) (.int i)
 | str (x) : Dp K H (.str x) (.str x)
 | lst {a xs ds} : SqL K H a xs → Dps K H xs ds → Dp K H (.ref a) (.list ds)
 | tup {a xs ds} : SqT K H a xs → Dps K H xs ds → Dp K H (.ref a) (.tuple ds)
inductive Dps (K : PySem.W.Frag) (H : Hp) : List V → List PyData → Prop
 | nil : Dps K H [] []
 | cons {x d xs ds} : Dp K H x d → Dps K H xs ds → Dps K H (x :: xs) (d :: ds)
end
section
variable {X : Cx} {pins : List (Addr × Obj)} {σ : St} {H : Hp} {s : Shared}
mutual
theorem Dp.reads (I : Inv X pins σ H s) : ∀ {x : V} {d : PyData},Dp X.K H x d → ∀ {v : Value},RelV x v → ∃ as,Reads s.heap v d as
 | _,_,.non,v,r=>by cases (show v = Value.none from r); exact ⟨_,.none⟩
 | _,_,.bl b,v,r=>by cases (show v = Value.bool b from r); exact ⟨_,.bool b⟩
 | _,_,.int i,v,r=>by obtain ⟨t,rfl⟩:=r; exact ⟨_,.int i t⟩
 | _,_,.str x,v,r=>by obtain ⟨t,rfl⟩:=r; exact ⟨_,.str x t⟩
 | _,_,.lst (a:=a) h1 h2,v,r=>by
  cases (show v = Value.ref a from r)
  obtain ⟨its,rv,⟨o,n,e,c,dn,dt⟩,_⟩:=I.list h1
  obtain ⟨as,ra⟩:=Dps.reads I h2 rv
  exact ⟨_,.list e c dt ra⟩
 | _,_,.tup (a:=a) h1 h2,v,r=>by
  cases (show v = Value.ref a from r)
  obtain ⟨its,rv,⟨o,e,c,n,dt⟩,_⟩:=I.tuple h1
  obtain ⟨as,ra⟩:=Dps.reads I h2 rv
  exact ⟨_,.tuple e c dt ra⟩
theorem Dps.reads (I : Inv X pins σ H s) : ∀ {xs : List V} {ds : List PyData},Dps X.K H xs ds → ∀ {vs : List Value},Vals xs vs → ∃ as,ReadsAll s.heap vs ds as
 | _,_,.nil,_,.nil=>⟨_,.nil⟩
 | _,_,.cons h1 h2,_,.cons r1 r2=>by
  obtain ⟨as,ra⟩:=Dp.reads I h1 r1
  obtain ⟨bs,rb⟩:=Dps.reads I h2 r2
  exact ⟨_,.cons ra rb⟩
end
theorem dps_refs {K : PySem.W.Frag} {H : Hp} {α : Type} {f : α → PyData} : ∀ {us : List Addr} {l : List α},Paired (fun u a=>Dp K H (.ref u) (f a)) us l → Dps K H (us.map V.ref) (l.map f)
 | _,_,.nil=>.nil
 | _,_,.cons h t=>.cons h (dps_refs t)
theorem dps_strs {K : PySem.W.Frag} {H : Hp} : ∀ (ns : List Str),Dps K H (ns.map V.str) (ns.map PyData.str)
 | []=>.nil
 | n :: ns=>.cons (.str n) (dps_strs ns)
abbrev dT (b : List Int) : PyData:=.tuple (b.map PyData.int)
theorem lay_all {l : List PyData} (h : ∀ d ∈ l,d.canLay0 = true) : PyData.canLayAll0 l = true:=by
 induction l with
 | nil=>rfl
 | cons d l ih=>rw [PyData.canLayAll0,h d List.mem_cons_self,ih fun e he=>h e (List.mem_cons_of_mem _ he)]; rfl
theorem dep_all {l : List PyData} {n : Nat} (h : ∀ d ∈ l,d.depth ≤ n) : PyData.depthAll l ≤ n:=by
 induction l with
 | nil=>exact Nat.zero_le _
 | cons d l ih=>rw [PyData.depthAll]; exact Nat.max_le.mpr ⟨h d List.mem_cons_self,ih fun e he=>h e (List.mem_cons_of_mem _ he)⟩
def rDp (K : PySem.W.Frag) (n : Nat) (f : PyData → PyData → Bool) : R2:=fun x y H Q=>∃ da db,Dp K H x da ∧ Dp K H y db ∧ da.canLay0 = true ∧ db.canLay0 = true ∧ min da.depth db.depth ≤ n ∧ Q (.bl (f da db)) H
theorem op_eqDp {n : Nat} (hu : X.A.units + n < cLine) : OpR X (compareOp .Eq) (rDp X.K n PyData.eqv):=by
 intro pins s σ H x y v u Q I rx ry h
 obtain ⟨da,db,ha,hb,la,lb,hd,q⟩:=h
 obtain ⟨as,ra⟩:=ha.reads I rx
 obtain ⟨bs,rb⟩:=hb.reads I ry
 exact SeqAt.rcAt_reads ra rb la lb (by omega) X.prog X.w X.xe _ ⟨.bl _,H,I,rfl,q⟩
theorem op_neDp {n : Nat} (hu : X.A.units + n < cLine) : OpR X (compareOp .NotEq) (rDp X.K n fun a b=>!PyData.eqv a b):=by
 intro pins s σ H x y v u Q I rx ry h
 obtain ⟨da,db,ha,hb,la,lb,hd,q⟩:=h
 obtain ⟨as,ra⟩:=ha.reads I rx
 obtain ⟨bs,rb⟩:=hb.reads I ry
 exact SeqAt.rcNeAt_reads ra rb la lb (by omega) X.prog X.w X.xe _ ⟨.bl _,H,I,rfl,q⟩
noncomputable def isD (h : Heap) (d : PyData) (v : Value) : Bool:=@decide (∃ e as,Reads h v e as ∧ e.canLay0 = true ∧ PyData.eqv e d = true) (Classical.propDecidable _)
mutual
theorem reads_one {h : Heap} : ∀ {d : PyData} {v : Value} {as : List Addr},Reads h v d as → d.canLay0 = true → ∀ {e : PyData} {bs : List Addr},Reads h v e bs → e.canLay0 = true → e = d
 | _,_,_,.none,_,_,_,.none,_=>rfl
 | _,_,_,.bool _,_,_,_,.bool _,_=>rfl
 | _,_,_,.int _ _,_,_,_,.int _ _,_=>rfl
 | _,_,_,.str _ _,_,_,_,.str _ _,_=>rfl
 | _,_,_,.list h1 c1 d1 r1,l1,_,_,r,l2=>by
  cases r with
  | list h2 c2 d2 r2 =>
   rw [h1] at h2; cases h2
   rw [d1] at d2; cases d2
   rw [reads_all_one r1 (by rw [PyData.canLay0] at l1; exact l1) r2 (by rw [PyData.canLay0] at l2; exact l2)]
  | tuple h2 c2 d2 r2=>rw [h1] at h2; cases h2; rw [c1] at c2; exact absurd c2 (by decide)
  | dict h2 c2 d2 r2 r3=>rw [PyData.canLay0] at l2; cases l2
 | _,_,_,.tuple h1 c1 d1 r1,l1,_,_,r,l2=>by
  cases r with
  | tuple h2 c2 d2 r2 =>
   rw [h1] at h2; cases h2
   rw [d1] at d2; cases d2
   rw [reads_all_one r1 (by rw [PyData.canLay0] at l1; exact l1) r2 (by rw [PyData.canLay0] at l2; exact l2)]
  | list h2 c2 d2 r2=>rw [h1] at h2; cases h2; rw [c1] at c2; exact absurd c2 (by decide)
  | dict h2 c2 d2 r2 r3=>rw [PyData.canLay0] at l2; cases l2
 | _,_,_,.dict _ _ _ _ _,l1,_,_,_,_=>by rw [PyData.canLay0] at l1; cases l1
theorem reads_all_one {h : Heap} : ∀ {ds : List PyData} {vs : List Value} {as : List Addr},ReadsAll h vs ds as → PyData.canLayAll0 ds = true → ∀ {es : List PyData} {bs : List Addr},ReadsAll h vs es bs → PyData.canLayAll0 es = true → es = ds
 | _,_,_,.nil,_,_,_,.nil,_=>rfl
 | _,_,_,.cons r1 t1,l1,_,_,.cons r2 t2,l2=>by
  rw [PyData.canLayAll0,Bool.and_eq_true] at l1 l2
  rw [reads_one r1 l1.1 r2 l2.1,reads_all_one t1 l1.2 t2 l2.2]
end
theorem isD_of {h : Heap} {v : Value} {d e : PyData} {as : List Addr} (r : Reads h v e as) (l : e.canLay0 = true) : isD h d v = PyData.eqv e d:=by
 unfold isD
 rw [Bool.eq_iff_iff,@decide_eq_true_eq _ (Classical.propDecidable _)]
 constructor
 · rintro ⟨e',bs,r',l',q⟩
   rwa [reads_one r l r' l'] at q
 · exact fun q=>⟨e,as,r,l,q⟩
theorem readsAll_mem {h : Heap} : ∀ {vs : List Value} {ds : List PyData} {as : List Addr},ReadsAll h vs ds as → ∀ v ∈ vs,∃ d ∈ ds,∃ bs,Reads h v d bs
 | _,_,_,.nil,v,hv=>nomatch hv
 | _,_,_,.cons r t,v,hv=>by
  rcases List.mem_cons.mp hv with rfl | hv
  · exact ⟨_,List.mem_cons_self,_,r⟩
  · obtain ⟨d,hd,bs,q⟩:=readsAll_mem t v hv
    exact ⟨d,List.mem_cons_of_mem _ hd,bs,q⟩
theorem readsAll_any {h : Heap} {d : PyData} : ∀ {vs : List Value} {ds : List PyData} {as : List Addr},ReadsAll h vs ds as → (∀ e ∈ ds,e.canLay0 = true) → vs.any (isD h d) = ds.any fun e=>PyData.eqv e d
 | _,_,_,.nil,_=>rfl
 | _,_,_,.cons r t,l=>by
  rw [List.any_cons,List.any_cons,isD_of r (l _ List.mem_cons_self),readsAll_any t fun e he=>l e (List.mem_cons_of_mem _ he)]
def rInD (K : PySem.W.Frag) (n : Nat) (neg : Bool) : R2:=fun x y H Q=>∃ (p : Addr) (xs : List V) (d : PyData) (ds : List PyData),y = .ref p ∧ (SqL K H p xs ∨ SqT K H p xs) ∧ Dps K H xs ds ∧ Dp K H x d ∧ d.canLay0 = true ∧ (∀ e ∈ ds,e.canLay0 = true) ∧ d.depth ≤ n ∧
 Q (.bl (if neg = true then !(ds.any fun e=>PyData.eqv e d) else ds.any fun e=>PyData.eqv e d)) H
theorem op_inD {n : Nat} (hu : X.A.units + n + 1 < cLine) : OpR X (compareOp .In) (rInD X.K n false):=by
 intro pins s σ H x y v u Q I rx ry h
 obtain ⟨p,xs,d,ds,rfl,hq,hds,hd,ld,lds,hn,q⟩:=h
 cases (show u = Value.ref p from ry)
 obtain ⟨bs,rb⟩:=hd.reads I rx
 have key : ∀ {vs : List Value} {as : List Addr},ReadsAll s.heap vs ds as → ∀ w ∈ vs,SeqAt.EqAt X.A.in1 s w v (isD s.heap d w):=fun ra w hw=>by
  obtain ⟨e,he,cs,rc⟩:=readsAll_mem ra w hw
  rw [isD_of rc (lds e he)]
  exact SeqAt.eqAt_reads e d X.A.in1 s w v cs bs rc rb (lds e he) ld (by show X.A.units + 1 + min e.depth d.depth < cLine; omega)
 rcases hq with hq | hq
 · obtain ⟨its,r,pl,hz⟩:=I.list hq
   obtain ⟨as,ra⟩:=hds.reads I r
   refine SeqAt.in_listAt (isD s.heap d) pl.isList (fun w hw=>key ra w (by simpa using hw)) ⟨.bl _,H,I,rfl,?_⟩
   rw [show its.toArray.any (isD s.heap d) = its.any (isD s.heap d) by simp,readsAll_any ra lds]
   exact q
 · obtain ⟨its,r,pl,hz⟩:=I.tuple hq
   obtain ⟨as,ra⟩:=hds.reads I r
   refine SeqAt.in_tupleAt (isD s.heap d) pl (fun w hw=>key ra w (by simpa using hw)) ⟨.bl _,H,I,rfl,?_⟩
   rw [show its.toArray.any (isD s.heap d) = its.any (isD s.heap d) by simp,readsAll_any ra lds]
   exact q
theorem op_notInD {n : Nat} (hu : X.A.units + n + 1 < cLine) : OpR X (compareOp .NotIn) (rInD X.K n true):=by
 intro pins s σ H x y v u Q I rx ry h
 obtain ⟨p,xs,d,ds,rfl,hq,hds,hd,ld,lds,hn,q⟩:=h
 cases (show u = Value.ref p from ry)
 obtain ⟨bs,rb⟩:=hd.reads I rx
 have key : ∀ {vs : List Value} {as : List Addr},ReadsAll s.heap vs ds as → ∀ w ∈ vs,SeqAt.EqAt X.A.in1 s w v (isD s.heap d w):=fun ra w hw=>by
  obtain ⟨e,he,cs,rc⟩:=readsAll_mem ra w hw
  rw [isD_of rc (lds e he)]
  exact SeqAt.eqAt_reads e d X.A.in1 s w v cs bs rc rb (lds e he) ld (by show X.A.units + 1 + min e.depth d.depth < cLine; omega)
 rcases hq with hq | hq
 · obtain ⟨its,r,pl,hz⟩:=I.list hq
   obtain ⟨as,ra⟩:=hds.reads I r
   refine SeqAt.notIn_listAt (isD s.heap d) pl.isList (fun w hw=>key ra w (by simpa using hw)) ⟨.bl _,H,I,rfl,?_⟩
   rw [show its.toArray.any (isD s.heap d) = its.any (isD s.heap d) by simp,readsAll_any ra lds]
   exact q
 · obtain ⟨its,r,pl,hz⟩:=I.tuple hq
   obtain ⟨as,ra⟩:=hds.reads I r
   refine SeqAt.notIn_tupleAt (isD s.heap d) pl (fun w hw=>key ra w (by simpa using hw)) ⟨.bl _,H,I,rfl,?_⟩
   rw [show its.toArray.any (isD s.heap d) = its.any (isD s.heap d) by simp,readsAll_any ra lds]
   exact q
end
end L2
namespace L2
open PySem PySem.Spec PyProof.Rows
section
variable {X : Cx}
def rEmp (K : PySem.W.Frag) (neg : Bool) : R2:=fun x y H Q=>∃ (p p' : Addr) (xs : List V),x = .ref p ∧ y = .ref p' ∧ SqL K H p xs ∧ SqL K H p' [] ∧ Q (.bl (if neg = true then !xs.isEmpty else xs.isEmpty)) H
theorem op_eqE (hu : X.A.units < cLine) : OpR X (compareOp .Eq) (rEmp X.K false):=by
 intro pins s σ H x y v u Q I rx ry h
 obtain ⟨p,p',xs,rfl,rfl,h1,h2,q⟩:=h
 cases (show v = Value.ref p from rx)
 cases (show u = Value.ref p' from ry)
 obtain ⟨its,rv,pl,hz⟩:=I.list h1
 obtain ⟨its',rv',pl',hz'⟩:=I.list h2
 have l1:=rv.length
 have l2:=rv'.length
 cases xs with
 | nil =>
  have key:=SeqAt.RcAt.lists (A:=X.A) (s:=s) (e:=fun _=>true) pl.isList pl'.isList (by simp only [List.size_toArray]; omega) hu (fun j g1 g2=>by simp only [List.size_toArray,List.length_nil] at g1 l1; omega) X.prog X.w X.xe
  refine key _ ?_
  rw [show ((List.range its.toArray.size).all fun _=>true) = true by simp]
  exact ⟨.bl true,H,I,rfl,q⟩
 | cons a xs =>
  have key:=SeqAt.RcAt.lists_lengths (A:=X.A) (s:=s) pl.isList pl'.isList (by simp only [List.size_toArray,List.length_cons,List.length_nil] at l1 l2 ⊢; rw [← l1,← l2]; rfl) hu X.prog X.w X.xe
  exact key _ ⟨.bl false,H,I,rfl,q⟩
theorem op_neE (hu : X.A.units < cLine) : OpR X (compareOp .NotEq) (rEmp X.K true):=by
 intro pins s σ H x y v u Q I rx ry h
 obtain ⟨p,p',xs,rfl,rfl,h1,h2,q⟩:=h
 cases (show v = Value.ref p from rx)
 cases (show u = Value.ref p' from ry)
 obtain ⟨its,rv,pl,hz⟩:=I.list h1
 obtain ⟨its',rv',pl',hz'⟩:=I.list h2
 have l1:=rv.length
 have l2:=rv'.length
 cases xs with
 | nil =>
  have key:=SeqAt.RcNeAt.lists (A:=X.A) (s:=s) (e:=fun _=>true) pl.isList pl'.isList (by simp only [List.size_toArray]; omega) hu (fun j g1 g2=>by simp only [List.size_toArray,List.length_nil] at g1 l1; omega) X.prog X.w X.xe
  refine key _ ?_
  rw [show (!(List.range its.toArray.size).all fun _=>true) = false by simp]
  exact ⟨.bl false,H,I,rfl,q⟩
 | cons a xs =>
  have key:=SeqAt.RcNeAt.lists_lengths (A:=X.A) (s:=s) pl.isList pl'.isList (by simp only [List.size_toArray,List.length_cons,List.length_nil] at l1 l2 ⊢; rw [← l1,← l2]; rfl) hu X.prog X.w X.xe
  exact key _ ⟨.bl true,H,I,rfl,q⟩
end
end L2
namespace L2
open PySem PySem.Spec PyProof.Rows
section
variable {X : Cx}
end
end L2
namespace PySem
def RawD (h : Heap) (d : Addr) (es : Array DictEntry) (ep : Nat) : Prop:=∃ o,h.get? d = some o ∧ o.ExactDict ∧ o.data = .dict es ep
section
variable {prog : Program} {w : World} {A : Around} {E : Value → Shared → Prop} {s : Shared} {it d : Addr} {i ep : Nat} {es : Array DictEntry}
theorem RawD.ty (m : RawD s.heap d es ep) : s.TypeIs (.ref d) "dict":=let ⟨o,a,b,_⟩:=m; ⟨o,a,b.1⟩
theorem RawD.lt {h : Heap} (m : RawD h d es ep) : d < h.objs.size:=let ⟨_,a,_⟩:=m; Heap.lt_size a
theorem RawD.at {h h' : Heap} (m : RawD h d es ep) (k : ∀ o,h.get? d = some o → h'.get? d = some o) : RawD h' d es ep:=let ⟨o,a,b⟩:=m; ⟨o,k o a,b⟩
theorem raw_iter {Q : Value → Shared → Prop} (lo : (d == sysModules) = false) (m : RawD s.heap d es ep)
 (q : Q (.ref s.heap.objs.size) { s with heap:=s.heap.push { cls:=.type "dict_keyiterator",data:=.fields #[.ref d,.int 0 0,.int es.size 0,.int ep 0] } }) : wpAny (model prog w) A (pyIter (.ref d)) Q E s:=by
 obtain ⟨o,g,_,dt⟩:=id m
 refine wpAny_pyIter_slot m.ty F.slot_dict_iter (wpAny_call_entry F.slot_dict_iter m.ty F.entry_dict_iter ?_ (F.args_dict_iter_1 _))
 unfold Builtin.«dict.__iter__» Builtin.Dict.dictSlotNone
 refine wpAny_bind (wpAny_bind (wpAny_notOrdered_dict m.ty (show wpAny _ _ (pure (Value.ref d)) _ _ s from wpAny_pure ?_)))
 show wpAny _ _ (Builtin.Dict.showsAll d >>= _) _ _ s
 unfold Builtin.Dict.showsAll
 rw [if_neg (by rw [lo]; exact Bool.false_ne_true)]
 refine wpAny_bind (wpAny_pure (wpAny_bind (wpAny_dictEntries g dt (wpAny_bind (wpAny_dictEpoch g dt ?_)))))
 exact wpAny_bind (wpAny_newObj_type (wpAny_pure ⟨_,rfl, "dict_keyiterator",_,⟨_,Heap.get?_push_size _ rfl,rfl⟩,F.slot_dict_keyiterator_next.lookup,by simpa [rawInt] using q⟩))
theorem raw_next {Q : Option Value → Shared → Prop} (x : s.heap.IsKeyIter it d i es.size ep) (m : RawD s.heap d es ep) (hi : i < es.size)
 (q : ∀ h',h'.IsKeyIter it d (i + 1) es.size ep → Heap.SameBut it s.heap h' → Q (some es[i].key) { s with heap:=h' }) : wpAny (model prog w) A (pyNext (.ref it)) Q E s:=by
 obtain ⟨o,g,c,f⟩:=id x
 obtain ⟨od,gd,_,dt⟩:=id m
 unfold pyNext
 refine wpAny_bind (wpAny_attempt (wpAny_callSpecial?_slot (name:=Str.ofString "__next__") x.typeIs F.slot_dict_keyiterator_next (wpAny_call_entry F.slot_dict_keyiterator_next x.typeIs F.entry_dict_keyiterator_next (wpAny_bind (wpAny_pure (wpAny_bind (wpAny_bind ?_)))) (F.args_dict_keyiterator_next_1 _))))
 first | refine wpAny_bind (wpAny_typeNameOfWhole_keyiter x.typeIs (wpAny_pure (wpAny_bind (wpAny_fieldsOf g f ?_)))) | refine wpAny_bind (wpAny_typeNameOf_keyiter x.typeIs (wpAny_pure (wpAny_bind (wpAny_fieldsOf g f ?_))))
 simp only [show Builtin.Dict_items.ownsTuple "dict_keyiterator" = false by decide,Bool.false_eq_true,if_false]
 show wpAny _ _ (if (Value.ref d == Value.none) = true then _ else _) _ _ s
 rw [if_neg (show ¬ ((Value.ref d == Value.none) = true) from Bool.false_ne_true)]
 refine wpAny_bind (wpAny_pure (wpAny_bind (wpAny_dictEntries gd dt ?_)))
 rw [if_neg (by simp)]
 refine wpAny_bind (wpAny_pure (wpAny_bind (wpAny_dictEpoch gd dt ?_)))
 rw [if_neg (by simp)]
 refine wpAny_pure ?_
 simp only [show ¬ ((i : Int) < 0) from by omega,if_false,Int.toNat_natCast,Array.getElem?_eq_getElem hi]
 refine wpAny_bind ?_
 first | refine wpAny_bind (wpAny_typeNameOfWhole_keyiter x.typeIs (wpAny_pure (wpAny_bind (wpAny_isOneOf_keyiter x.typeIs ?_)))) | refine wpAny_bind (wpAny_typeNameOf_keyiter x.typeIs (wpAny_pure (wpAny_bind (wpAny_isOneOf_keyiter x.typeIs ?_))))
 show wpAny _ _ (setField (.ref it) 1 (rawInt ((i : Int) + 1)) >>= _) _ _ s
 refine wpAny_bind (wpAny_setField g f (by simp) ?_)
 have x' : (s.heap.update it (Obj.mapFields (·.setIfInBounds 1 (rawInt ((i : Int) + 1))))).IsKeyIter it d (i + 1) es.size ep :=
  ⟨_,Heap.get?_update_self _ g (Obj.isFreed_of_fields (Obj.data_mapFields f _)),(Obj.cls_mapFields ..).trans c,by rw [Obj.data_mapFields f]; simp [rawInt]⟩
 refine wpAny_bind (wpAny_holding (wpAny_bind (wpAny_isOneOf_keyiter (s:={ s with heap:=s.heap.update it (Obj.mapFields (·.setIfInBounds 1 (rawInt ((i : Int) + 1)))) }) x'.typeIs ?_)))
 show wpAny _ _ (pure es[i].key) _ _ _
 exact wpAny_pure (wpAny_pure ⟨_,rfl,wpAny_pure (q _ x' (Heap.SameBut.update ..))⟩)
theorem raw_end {Q : Option Value → Shared → Prop} (hh : A.handled = none) (x : s.heap.IsKeyIter it d es.size es.size ep) (m : RawD s.heap d es ep) (q : ∀ h',Heap.ExtBut it s.heap h' → Q none { s with heap:=h' }) : wpAny (model prog w) A (pyNext (.ref it)) Q E s:=by
 obtain ⟨o,g,c,f⟩:=id x
 obtain ⟨od,gd,_,dt⟩:=id m
 unfold pyNext
 refine wpAny_bind (wpAny_attempt (wpAny_callSpecial?_slot (name:=Str.ofString "__next__") x.typeIs F.slot_dict_keyiterator_next (wpAny_call_entry F.slot_dict_keyiterator_next x.typeIs F.entry_dict_keyiterator_next (wpAny_bind (wpAny_pure (wpAny_bind (wpAny_bind ?_)))) (F.args_dict_keyiterator_next_1 _))))
 first | refine wpAny_bind (wpAny_typeNameOfWhole_keyiter x.typeIs (wpAny_pure (wpAny_bind (wpAny_fieldsOf g f ?_)))) | refine wpAny_bind (wpAny_typeNameOf_keyiter x.typeIs (wpAny_pure (wpAny_bind (wpAny_fieldsOf g f ?_))))
 simp only [show Builtin.Dict_items.ownsTuple "dict_keyiterator" = false by decide,Bool.false_eq_true,if_false]
 show wpAny _ _ (if (Value.ref d == Value.none) = true then _ else _) _ _ s
 rw [if_neg (show ¬ ((Value.ref d == Value.none) = true) from Bool.false_ne_true)]
 refine wpAny_bind (wpAny_pure (wpAny_bind (wpAny_dictEntries gd dt ?_)))
 rw [if_neg (by simp)]
 refine wpAny_bind (wpAny_pure (wpAny_bind (wpAny_dictEpoch gd dt ?_)))
 rw [if_neg (by simp)]
 refine wpAny_pure ?_
 simp only [show ¬ ((es.size : Int) < 0) from by omega,if_false,Int.toNat_natCast,Array.getElem?_eq_none (Nat.le_refl es.size)]
 refine wpAny_bind ?_
 first | refine wpAny_bind (wpAny_typeNameOfWhole_keyiter x.typeIs (wpAny_pure ?_)) | refine wpAny_bind (wpAny_typeNameOf_keyiter x.typeIs (wpAny_pure ?_))
 show wpAny _ _ (setField (.ref it) 0 .none >>= _) _ _ s
 refine wpAny_bind (wpAny_setField g f (by simp) ?_)
 show wpAny _ _ (newExc (.type "StopIteration") [] >>= _) _ _ _
 refine wpAny_bind ?_
 simp only [newExc,newTuple]
 refine wpAny_bind (wpAny_newObj_type (wpAny_bind (m:=firstArgMember _ _) (wpAny_of_eq (a:=Value.none) (by first | rfl | (simp only [firstArgMember]; rfl)) (wpAny_newObj_type ?_ (by size_fits)))) (by size_fits))
 simp only [raiseNew]
 refine wpAny_bind (wpAny_handled ?_)
 rw [show A.in1.handled = none from hh]
 refine wpAny_bind (wpAny_pure (wpAny_throw ?_))
 refine wpAny_bind (wpAny_isInstance (b:=true) (T:="StopIteration") ⟨_,Heap.get?_push_size _ rfl,rfl⟩ isSubtype_stop ?_)
 exact wpAny_pure (q _ (((Heap.SameBut.update ..).extBut.push _).push _))
theorem raw_walks (hh : A.handled = none) (I d : Addr) (hne : d ≠ I) (es : Array DictEntry) (ep : Nat) :
 Walks prog w A I [I,d] [I] es.size (fun i v=>∃ e,es[i]? = some e ∧ v = e.key) (fun i h=>h.IsKeyIter I d i es.size ep ∧ RawD h d es ep) where
 sub:=fun b hb=>by simp at hb; simp [hb]
 frame:=fun _ _ _ st hk=>⟨st.1.at fun o e=>hk I (by simp) o e,st.2.at fun o e=>hk d (by simp) o e⟩
 item:=fun i s Q E hi st hQ=>raw_next st.1 st.2 hi fun h' x' same=>hQ _ h' s.toks ⟨es[i],Array.getElem?_eq_getElem hi,rfl⟩ ⟨x',st.2.at fun o e=>same.extBut d o hne e⟩ fun b o hb e=>same.extBut b o (fun h=>hb (by simp [h])) e
 done:=fun s Q E st hQ=>raw_end hh st.1 st.2 fun h' he=>hQ h' s.toks fun b o hb e=>he b o (fun h=>hb (by simp [h])) e
 self:=fun _ _ _ _ st hQ=>wpAny_pyIter_keyiter st.1 hQ
theorem raw_src (lo : (d == sysModules) = false) : PySem.W.KdlSrc prog w "dict" d d es.size (fun i v=>∃ e,es[i]? = some e ∧ v = e.key) (fun h=>RawD h d es ep) where
 type:=fun _ m=>m.ty
 there:=fun _ m=>⟨m.lt,m.lt⟩
 keep:=fun _ _ m hk=>m.at fun o e=>hk d (.inl rfl) o e
 notList:=by decide
 notTuple:=by decide
 hint:=fun _ _ _ _ m hq=>PySem.W.kdl_hint_dict m.ty hq
 iter:=fun _ _ hh m=>⟨_,_,(fun _ _ hq=>raw_iter lo m hq),raw_walks hh _ d (Nat.ne_of_lt m.lt) es ep,⟨⟨_,Heap.get?_push_size _ rfl,rfl,rfl⟩,m.at fun o e=>Heap.get?_push_of_some _ e⟩⟩
end
end PySem
namespace L2
open PySem PySem.Spec PyProof.Rows
section
variable {X : Cx}
theorem call_list_dT (hc : X.calm = true) : CallR X (.type "list") (fun xs H Q=>∃ p kvs,xs = [.ref p] ∧ Rd H p (.dT kvs) ∧ ∀ l ts,H l = none → Paired (fun t (kv : List Key × V)=>H t = some (.tup (kv.1.map kV))) ts kvs → Q (.ref l) (upd H l (.lst (ts.map V.ref)))):=by
 intro pins s σ H xs us Q I r h
 obtain ⟨p,kvs,rfl,hp,q⟩:=h
 obtain ⟨u,rfl,rx⟩:=vals1 r
 cases (show u = Value.ref p from rx)
 obtain ⟨z,hd,ys,rel,o,es,ep,h1,h2,h3,h4,_,_⟩:=dt_rd I.hok hp
 have hsz : es.size = ys.length:=size_of_entries h4
 have hl : kvs.length = ys.length:=Paired.length rel
 refine PySem.W.kdl_call (raw_src (es:=es) (ep:=ep) hd) (I.ok.hd hc) ⟨o,h1,h2,h3⟩ (by omega) fun h' tk acc' c' kk e it=>?_
 have ev : acc'.toList = (ys.map fun y=>y.2.1).map Value.ref:=by
  obtain ⟨i1,i2⟩:=it
  refine List.ext_getElem (by rw [Array.length_toList,i1,hsz,List.length_map,List.length_map]) fun j g1 g2=>?_
  have gj : j < ys.length:=by rw [List.length_map,List.length_map] at g2; exact g2
  obtain ⟨en,e1,e2⟩:=i2 j acc'.toList[j] (by rw [← Array.getElem?_toList]; exact List.getElem?_eq_getElem g1)
  rw [entry_at h4 j,List.getElem?_eq_getElem gj] at e1
  rw [e2,← Option.some.inj e1]
  simp [entryOfKey]
 have rv : Vals ((ys.map fun y=>y.2.1).map V.ref) acc'.toList:=by
  rw [ev]
  generalize ys.map (fun y=>y.2.1) = l
  induction l with
  | nil=>exact .nil
  | cons a l ih=>exact .cons rfl ih
 refine ⟨.ref s.heap.objs.size,_,I.laid (t':=tk) kk (Nat.le_refl _) (show ObjOk X.prog X.w _ h' _ (.lst ((ys.map fun y=>y.2.1).map V.ref)) from ⟨by rw [List.length_map,List.length_map]; omega,acc'.toList,c',rv,by simpa using e⟩),rfl,q _ _ (I.hok.fresh (Nat.le_refl _)) ?_⟩
 have gen : ∀ {l : List (List Key × V)} {m : List (List Key × Addr × Value)},KT H l m → Paired (fun t (kv : List Key × V)=>H t = some (.tup (kv.1.map kV))) (m.map fun y=>y.2.1) l:=by
  intro l m q
  induction q with
  | nil=>exact .nil
  | cons hq _ ih=>exact .cons hq.2.1 ih
 exact gen rel
end
end L2
namespace PySem
section
variable {prog : Program} {w : World} {A : Around} {R : Result → Shared → Prop}
abbrev tK (prog : Program) (w : World):=tupleKind (L2.mixKind prog w)
abbrev KAV:=List L2.Key × Addr × Value
def PairT (prog : Program) (w : World) (h : Heap) (u : Value) (x : KAV) : Prop:=∃ t,u = .ref t ∧ h.IsTuple t #[.ref x.2.1,x.2.2] ∧ (tK prog w).is h x.1 x.2.1
theorem isT_keep {h h' : Heap} {ks : List L2.Key} {a : Addr} (x : (tK prog w).is h ks a) (k : ∀ o,h.get? a = some o → h'.get? a = some o) : (tK prog w).is h' ks a:=by
 obtain ⟨o,its,n,h1,r⟩:=x
 exact ⟨o,its,n,k o h1,r⟩
theorem isT_old {h : Heap} {ks : List L2.Key} {a : Addr} (x : (tK prog w).is h ks a) : a < h.objs.size:=by
 obtain ⟨o,its,n,h1,r⟩:=x
 exact Heap.lt_size h1
theorem storedH_mem {xs : List KAV} {k : List L2.Key} {a : Addr} {v : Value} : ∀ x ∈ storedH xs k a v,x.2.1 = a ∨ ∃ y ∈ xs,y.2.1 = x.2.1:=fun x hx=>by
 unfold storedH at hx
 split at hx
 · obtain ⟨y,hy,e⟩:=List.mem_map.mp hx
   refine .inr ⟨y,hy,?_⟩
   rw [← e]
   unfold putAt
   split <;> rfl
 · rcases List.mem_append.mp hx with h | h
   · exact .inr ⟨x,h,rfl⟩
   · rw [List.mem_singleton.mp h]; exact .inl rfl
theorem storedH_len {xs : List KAV} {k : List L2.Key} {a : Addr} {v : Value} : (storedH xs k a v).length ≤ xs.length + 1:=by
 unfold storedH
 split
 · rw [List.length_map]; omega
 · rw [List.length_append]; exact Nat.le_refl _
theorem dictT_keep {h h' : Heap} {d : Addr} {xs : List KAV} (m : h.DictOfH (tK prog w) d xs) (k : ∀ o,h.get? d = some o → h'.get? d = some o) (kk : ∀ x ∈ xs,∀ o,h.get? x.2.1 = some o → h'.get? x.2.1 = some o) : h'.DictOfH (tK prog w) d xs:=by
 obtain ⟨o,es,ep,ho,hc,hd,he,hi,hn⟩:=m
 exact ⟨o,es,ep,k o ho,hc,hd,he,fun x hx=>isT_keep (hi x hx) (kk x hx),hn⟩
theorem elT_loop {d it l : Addr} {items : Array Value} {kvs : List KAV} (hdi : d ≠ it) (hdl : d ≠ l) (hil : l ≠ it) (hz : kvs.length ≤ sizeLine) (hh : A.handled = none) (hu : A.units + 1 < cLine) :
 ∀ (k i : Nat) (s : Shared) (tk : Tok) (acc : List KAV),items.size - i = k → i ≤ items.size → kvs.length = items.size → s.heap.IsListIter it l i → s.heap.IsList l items → s.heap.DictOfH (tK prog w) d acc → acc.length ≤ i → (∀ x ∈ acc,x.2.1 ≠ it) →
 (∀ (j : Nat) (u : Value) (x : KAV),items[j]? = some u → kvs[j]? = some x → PairT prog w s.heap u x ∧ x.2.1 ≠ d ∧ x.2.1 ≠ it ∧ ∀ t,u = .ref t → t ≠ d ∧ t ≠ it) →
 (∀ h' tk,h'.DictOfH (tK prog w) d ((kvs.drop i).foldl (fun a x=>storedH a x.1 x.2.1 x.2.2) acc) → (∀ b o,b ≠ d → b ≠ it → s.heap.get? b = some o → h'.get? b = some o) → R (.ok (.ret .none)) { s with heap:=h',toks:=tk }) →
 codeAny (model prog w) A (.builtin "dict.update.loop" ⟨[.ref d,.ref it,.int (i : Int) tk,.none],[]⟩) R s:=by
 intro k
 induction k with
 | zero =>
  intro i s tk acc hk hi hlen hit hl hd hacc hki hp hR
  refine codeAny_builtin F.el_entry_update_loop ?_
  rw [Around.under_plainId F.el_plain_update_loop _]
  show wpAny _ A.in1 (pyNext (.ref it) >>= _) _ _ s
  refine wpAny_bind (wpAny_pyNext_list_end (A:=A.in1) hh hit hl (Array.getElem?_eq_none (by omega)) fun h' he=>?_)
  refine wpAny_bind (wpAny_pure (wpAny_pure ?_))
  refine hR h' s.toks ?_ fun b o _ hb e=>he b o hb e
  rw [List.drop_of_length_le (by omega)]
  exact dictT_keep hd (fun o e=>he d o hdi e) fun x hx o e=>he _ o (hki x hx) e
 | succ k ih =>
  intro i s tk acc hk hi hlen hit hl hd hacc hki hp hR
  have hlt : i < items.size:=by omega
  have hx : items[i]? = some items[i]:=Array.getElem?_eq_getElem hlt
  have hkv : kvs[i]? = some kvs[i]:=List.getElem?_eq_getElem (by omega)
  obtain ⟨⟨t,ht,htup,hkey⟩,nkd,nki,hne⟩:=hp i _ _ hx hkv
  obtain ⟨ntd,nti⟩:=hne t ht
  refine codeAny_builtin F.el_entry_update_loop ?_
  rw [Around.under_plainId F.el_plain_update_loop _]
  show wpAny _ A.in1 (pyNext (.ref it) >>= _) _ _ s
  refine wpAny_bind (wpAny_pyNext_list_item hit hl hx fun h1 hit1 hs1=>?_)
  rw [ht]
  have htup1 : h1.IsTuple t #[.ref (kvs[i]).2.1,(kvs[i]).2.2]:=let ⟨o,e,r⟩:=htup; ⟨o,(hs1.2 t nti).trans e,r⟩
  refine wpAny_bind (wpAny_holding (wpAny_bind ?_))
  refine wpAny_tryCatch ?_
  unfold Builtin.Dict.pairItems
  obtain ⟨ot,e1,hc1,n1,hd1⟩:=id htup1
  refine wpAny_bind (wpAny_typeOf (show ({ s with heap:=h1 } : Shared).TypeIs (.ref t) "tuple" from ⟨ot,e1,hc1⟩) ?_)
  rw [if_pos (by decide)]
  refine wpAny_bind (wpAny_seqItems e1 hd1 (wpAny_pure ?_))
  show wpAny _ A.in1 (holding [.ref (kvs[i]).2.1,(kvs[i]).2.2] (dictSet d (.ref (kvs[i]).2.1) (kvs[i]).2.2)) _ _ _
  refine wpAny_holding ?_
  have hdd : h1.DictOfH (tK prog w) d acc:=dictT_keep hd (fun o e=>(hs1.2 d hdi).trans e) fun x hx o e=>(hs1.2 _ (hki x hx)).trans e
  refine wpAny_dictSet_heap (knd:=tK prog w) (s:={ s with heap:=h1 }) (tupleKind_room_in1 hu) (isT_keep hkey fun o e=>(hs1.2 _ nki).trans e) hdd (fun h2 hd2 hs2=>?_) (by omega)
  refine wpAny_pure ⟨plainId_quiet F.el_plain_update_loop _,?_⟩
  have er : rawInt ((i : Int) + 1) = Value.int (((i + 1 : Nat) : Nat) : Int) 0:=by simp [rawInt]
  rw [er]
  have keep : ∀ b o,b ≠ d → b ≠ it → s.heap.get? b = some o → h2.get? b = some o:=fun b o b1 b2 e=>(hs2.2 b b1).trans ((hs1.2 b b2).trans e)
  refine ih (i + 1) _ 0 (storedH acc (kvs[i]).1 (kvs[i]).2.1 (kvs[i]).2.2) (by omega) (by omega) hlen ?_ ?_ hd2 ?_ ?_ ?_ ?_
  · obtain ⟨o,e,r⟩:=hit1
    exact ⟨o,(hs2.2 it (Ne.symm hdi)).trans e,r⟩
  · obtain ⟨o,e,r⟩:=hl
    exact ⟨o,keep l o (Ne.symm hdl) hil e,r⟩
  · have:=storedH_len (xs:=acc) (k:=(kvs[i]).1) (a:=(kvs[i]).2.1) (v:=(kvs[i]).2.2)
    omega
  · intro x hx'
    rcases storedH_mem x hx' with e | ⟨y,hy,e⟩
    · rw [e]; exact nki
    · rw [← e]; exact hki y hy
  · intro j u x hu' hx'
    obtain ⟨⟨t',e',⟨o,e,r⟩,hk'⟩,n1',n2',hne'⟩:=hp j u x hu' hx'
    obtain ⟨a1,a2⟩:=hne' t' e'
    exact ⟨⟨t',e',⟨o,keep t' o a1 a2 e,r⟩,isT_keep hk' fun o e=>keep _ o n1' n2' e⟩,n1',n2',hne'⟩
  · intro h' tk' hd' hk'
    refine hR h' tk' ?_ fun b o b1 b2 e=>hk' b o b1 b2 (keep b o b1 b2 e)
    rw [List.drop_eq_getElem_cons (by omega),List.foldl_cons]
    exact hd'
end
section
variable {prog : Program} {w : World} {A : Around} {E : Value → Shared → Prop} {s : Shared}
theorem elT_call {l : Addr} {items : Array Value} {n : Nat} {kvs : List KAV} {Q : Value → Shared → Prop} (hh : A.handled = none) (hu : A.units + 4 < cLine) (hl : s.heap.get? l = some { cls:=.type "list",data:=.seq items n }) (hlen : kvs.length = items.size) (hz : kvs.length ≤ sizeLine)
 (hp : ∀ (j : Nat) (u : Value) (x : KAV),items[j]? = some u → kvs[j]? = some x → PairT prog w s.heap u x)
 (h : ∀ h' tk,h'.DictOfH (tK prog w) s.heap.objs.size (kvs.foldl (fun a x=>storedH a x.1 x.2.1 x.2.2) []) → (∀ b o,s.heap.get? b = some o → h'.get? b = some o) → Q (.ref s.heap.objs.size) { s with heap:=h',toks:=tk }) :
 wpAny (model prog w) A (call (.type "dict") [.ref l]) Q E s:=by
 refine callType_codes (Q₁:=fun obj s₁=>obj = .ref s.heap.objs.size ∧ s₁ = { s with heap:=s.heap.push { cls:=.type "dict",data:=.dict #[] } }) F.kt_called_dict (F.kt_typeCall_dict_1 _) F.entry_dict_init (kt_code_dict_new _ ⟨rfl,rfl⟩) ?_
 rintro obj s₁ ⟨rfl,rfl⟩
 have hnew : (s.heap.push { cls:=.type "dict",data:=.dict #[] }).DictOfH (tK prog w) s.heap.objs.size []:=Heap.DictOfH.new s.heap
 have hl' : (s.heap.push { cls:=.type "dict",data:=.dict #[] }).get? l = some { cls:=.type "list",data:=.seq items n }:=Heap.get?_push_of_some _ hl
 refine ⟨hnew.typeIs,F.args_dict_init_2 _ _,?_⟩
 unfold Builtin.«dict.__init__»
 refine wpAny_bind ?_
 unfold Builtin.Dict.selfAndRest
 refine wpAny_bind (wpAny_notOrdered_dict hnew.typeIs ?_)
 show wpAny _ _ (pure (s.heap.objs.size,[Value.ref l])) _ _ _
 refine wpAny_pure ?_
 show wpAny _ _ (Builtin.Dict.updateFrom "dict.__init__" s.heap.objs.size (.ref l) [] .none) _ _ _
 unfold Builtin.Dict.updateFrom
 refine wpAny_bind (wpAny_typeOf (show ({ s with heap:=s.heap.push { cls:=.type "dict",data:=.dict #[] } } : Shared).TypeIs (.ref l) "list" from ⟨_,hl',rfl⟩) ?_)
 rw [if_pos (by decide)]
 generalize hs1 : ({ s with heap:=s.heap.push { cls:=.type "dict",data:=.dict #[] } } : Shared) = s1 at *
 obtain ⟨g1,g2,g3,g4,g5⟩:=s1
 cases hs1
 refine wpAny_bind (el_keys_none hl' (by first | exact hh | rfl) fun h2 tk2 k2=>?_)
 rw [if_pos (show (none : Option Value).isNone = true from rfl)]
 have hl2 : h2.get? l = some { cls:=.type "list",data:=.seq items n }:=k2 _ _ hl'
 refine wpAny_bind (wpAny_rule (wpAny_bind (wpAny_pyIter_list (s:={ heap:=h2,gens:=s.gens,drawn:=s.drawn,toks:=tk2,os:=s.os }) (items:=items) ⟨_,hl2,rfl,n,rfl⟩ ?_)))
 refine wpAny_pure ⟨plainId_quiet F.el_plain_update_loop _,?_⟩
 have hd2 : h2.DictOfH (tK prog w) s.heap.objs.size []:=dictT_keep hnew (fun o e=>k2 _ _ e) fun x hx=>nomatch hx
 have hdl : s.heap.objs.size < h2.objs.size:=let ⟨o,es,ep,ho,r⟩:=hnew; Heap.lt_size (k2 _ _ ho)
 have hll : l < s.heap.objs.size:=Heap.lt_size hl
 refine elT_loop (prog:=prog) (w:=w) (d:=s.heap.objs.size) (it:=h2.objs.size) (l:=l) (items:=items) (kvs:=kvs) (Nat.ne_of_lt hdl) (Nat.ne_of_gt hll) (Nat.ne_of_lt (Nat.lt_trans hll hdl)) hz (by first | exact hh | rfl) ?_ items.size 0 _ 0 [] rfl (Nat.zero_le _) hlen
  ⟨_,Heap.get?_push_size _ rfl,rfl,rfl⟩ ⟨_,Heap.get?_push_of_some _ hl2,rfl,n,rfl⟩ ?_ (Nat.le_refl _) (fun x hx=>nomatch hx) ?_ ?_
 · first | (show A.units + 1 + 1 < cLine; omega) | (show A.units + 1 + 1 + 1 < cLine; omega) | (show A.units + 1 + 1 + 1 + 1 < cLine; omega) | (show A.units + 1 < cLine; omega)
 · exact dictT_keep hd2 (fun o e=>Heap.get?_push_of_some _ e) fun x hx=>nomatch hx
 · intro j u x hu' hx
   obtain ⟨t,e,⟨o,eo,r⟩,hk⟩:=hp j u x hu' hx
   have ht : t < s.heap.objs.size:=Heap.lt_size eo
   have ha:=isT_old hk
   refine ⟨⟨t,e,⟨o,Heap.get?_push_of_some _ (k2 _ _ (Heap.get?_push_of_some _ eo)),r⟩,isT_keep hk fun o e=>Heap.get?_push_of_some _ (k2 _ _ (Heap.get?_push_of_some _ e))⟩,Nat.ne_of_lt ha,Nat.ne_of_lt (Nat.lt_trans ha hdl),fun t' e'=>?_⟩
   rw [e] at e'
   cases e'
   exact ⟨Nat.ne_of_lt ht,Nat.ne_of_lt (Nat.lt_trans ht hdl)⟩
 · intro h' tk' hd' hk'
   refine ⟨rfl,h h' tk' ?_ fun b o e=>?_⟩
   · simpa using hd'
   · have hb : b < s.heap.objs.size:=Heap.lt_size e
     exact hk' b o (Nat.ne_of_lt hb) (Nat.ne_of_lt (Nat.lt_trans hb hdl)) (Heap.get?_push_of_some _ (k2 _ _ (Heap.get?_push_of_some _ e)))
end
end PySem
namespace L2
open PySem PySem.Spec PyProof.Rows
def mergeT (kvs more : List (List Key × V)) : List (List Key × V):=more.foldl (fun acc kv=>putK acc kv.1 kv.2) kvs
theorem mergeT_len : ∀ (more kvs : List (List Key × V)),(mergeT kvs more).length ≤ kvs.length + more.length
 | [],kvs=>Nat.le_refl _
 | r :: more,kvs=>by
  have h1:=mergeT_len more (putK kvs r.1 r.2)
  have h2:=length_putK kvs r.1 r.2
  show (mergeT (putK kvs r.1 r.2) more).length ≤ _
  rw [List.length_cons]
  omega
theorem KT.merge {H : Hp} : ∀ {more : List (List Key × V)} {rs : List KAV} {kvs : List (List Key × V)} {vs : List KAV},KT H more rs → KT H kvs vs → KT H (mergeT kvs more) (rs.foldl (fun a x=>storedH a x.1 x.2.1 x.2.2) vs)
 | _,_,_,_,.nil,h=>h
 | _,_,kvs,vs,.cons (a:=p) (b:=q) r t,h=>by
  have : KT H (putK kvs p.1 p.2) (storedH vs q.1 q.2.1 q.2.2):=by rw [← r.1]; exact KT.put h p.1 r.2.1 r.2.2
  show KT H (mergeT (putK kvs p.1 p.2) _) (List.foldl _ (storedH vs q.1 q.2.1 q.2.2) _)
  exact KT.merge t this
theorem pairsT_at {P : Program} {w : World} {H : Hp} {h : Heap} (ok : HOk P w H h) : ∀ {ts : List Addr} {kvs : List (List Key × V)} {us : List Value},Paired (fun t (kv : List Key × V)=>∃ b,H t = some (.tup [.ref b,kv.2]) ∧ H b = some (.tup (kv.1.map kV))) ts kvs → Vals (ts.map V.ref) us →
 ∃ vs : List KAV,KT H kvs vs ∧ Paired (fun u x=>PairT P w h u x) us vs
 | _,_,us,.nil,r=>by
  rw [List.map_nil] at r
  cases r
  exact ⟨[],.nil,.nil⟩
 | _,_,us,.cons (a:=t) (b:=kv) ⟨b,e1,e2⟩ p,r=>by
  rw [List.map_cons] at r
  cases r with
  | cons r1 r2 =>
   cases r1
   obtain ⟨vs,k1,k2⟩:=pairsT_at ok p r2
   obtain ⟨_,its,rv,pt⟩:=(show ObjOk P w H h t (.tup [.ref b,kv.2]) from ok t _ e1)
   cases rv with
   | cons q1 q2 =>
    cases q2 with
    | cons q3 q4 =>
     cases q4
     cases q1
     exact ⟨(kv.1,b,_) :: vs,.cons ⟨rfl,e2,q3⟩ k1,.cons ⟨t,rfl,pt,key_of ok e2⟩ k2⟩
section
variable {X : Cx}
theorem call_dict_pairsT (hc : X.calm = true) (hu : X.A.units + 4 < cLine) : CallR X (.type "dict") (fun xs H Q=>∃ p ts kvs,xs = [.ref p] ∧ H p = some (.lst (ts.map V.ref)) ∧ Paired (fun t (kv : List Key × V)=>∃ b,H t = some (.tup [.ref b,kv.2]) ∧ H b = some (.tup (kv.1.map kV))) ts kvs ∧ ∀ d,H d = none → Q (.ref d) (upd H d (.dT (mergeT [] kvs)))):=by
 intro pins s σ H xs us Q I r h
 obtain ⟨p,ts,kvs,rfl,hp,hT,q⟩:=h
 obtain ⟨u,rfl,rx⟩:=vals1 r
 cases (show u = Value.ref p from rx)
 obtain ⟨hz,its,n,rv,e⟩:=(show ObjOk X.prog X.w H s.heap p (.lst (ts.map V.ref)) from I.hok p _ hp)
 obtain ⟨vs,kv,pv⟩:=pairsT_at I.hok hT rv
 have l1 : vs.length = its.toArray.size:=by rw [List.size_toArray]; exact pv.length.symm
 have l2 : kvs.length = vs.length:=Paired.length kv
 have l3 : vs.length ≤ sizeLine:=by
  have:=hT.length
  rw [List.length_map] at hz
  omega
 refine elT_call (prog:=X.prog) (w:=X.w) (kvs:=vs) (I.ok.hd hc) hu e l1 l3 (fun j u x hu' hx=>paired_both pv (by simpa using hu') hx) fun h' tk dd kk=>?_
 refine ⟨.ref s.heap.objs.size,_,I.laid (a:=s.heap.objs.size) (o:=.dT (mergeT [] kvs)) kk (Nat.le_refl _) ?_,rfl,q _ (I.hok.fresh (Nat.le_refl _))⟩
 obtain ⟨o,es,ep,h1,h2,h3,h4,_,h5⟩:=dd
 have hm:=mergeT_len kvs []
 rw [List.length_nil,Nat.zero_add] at hm
 refine ⟨by omega,beq_eq_false_iff_ne.mpr (Ne.symm (Nat.ne_of_lt I.big)),_,(KT.merge kv .nil).keeps fun b ys hb=>?_,o,es,ep,h1,h2,h3,h4,h5⟩
 rw [upd_ne (ne_of_none hb (I.hok.fresh (Nat.le_refl _)))]
 exact hb
end
end L2
namespace Gen
open PySem L2
abbrev sKeeps : Stmt:=top 21
theorem ris_bits : ∀ (k : Nat),∀ r ∈ risL k,BitsN k r
 | 0,r,h=>by
  have : r = []:=by simpa [risL] using h
  rw [this]
  exact ⟨rfl,fun _ hb=>nomatch hb⟩
 | k + 1,r,h=>by
  rw [risL] at h
  obtain ⟨q,hq,hr⟩:=List.mem_flatMap.mp h
  have ih:=ris_bits k q hq
  simp only [List.mem_cons,List.not_mem_nil,or_false] at hr
  rcases hr with rfl | rfl
  · refine ⟨by rw [List.length_append,← ih.1]; rfl,fun b hb=>?_⟩
    rcases List.mem_append.mp hb with hb | hb
    · exact ih.2 b hb
    · exact .inl (List.mem_singleton.mp hb)
  · refine ⟨by rw [List.length_append,← ih.1]; rfl,fun b hb=>?_⟩
    rcases List.mem_append.mp hb with hb | hb
    · exact ih.2 b hb
    · exact .inr (List.mem_singleton.mp hb)
def bitsK (M : Mach) (cs : List Int) : List (Str × Int):=(M.keepers.map (·.1)).zip cs
def keepsP (M : Mach) (ls : List Str) (cs : List Int) : Bool:=ls.any fun l=>decide (litI (bitsK M cs) l = 1)
def LitK (M : Mach) (l : Str) : Prop:=∃ x ∈ M.keepers.map (·.1),l = x ∨ l = "~" ++ x
def PieceOk (M : Mach) (ls : List Str) : Prop:=(∀ l ∈ ls,LitK M l) ∧ ls.length ≤ 16
theorem LitK.in_ {M : Mach} {names : List Str} {l : Str} {cs : List Int} (h : LitK M l) (ok : MachOk M names) (hl : M.keepers.length = cs.length) : LitIn (bitsK M cs) l:=by
 obtain ⟨x,hx,h⟩:=h
 have hn : NameS x:=ok.nm x (by rw [ok.all]; exact List.mem_append_left _ (List.mem_append_right _ hx))
 have hk : x ∈ (bitsK M cs).map (·.1):=by
  unfold bitsK
  rw [keys_zip (by rw [List.length_map]; exact hl)]
  exact hx
 rcases h with rfl | rfl
 · exact .inr (.inr (.inl ⟨hn,hk⟩))
 · exact .inr (.inr (.inr ⟨x,hn,hk,rfl⟩))
def spKeeps (K : PySem.W.Frag) : Sp:=fun vs H Q _=>∃ (m a1 a2 a3 a4 a5 a6 p st : Addr) (M : Mach) (names ls : List Str) (cs : List Int),vs = [.ref m,.ref p,.ref st] ∧ MachAt H m M a1 a2 a3 a4 a5 a6 ∧ Fm M names ∧ SqT K H p (ls.map V.str) ∧ PieceOk M ls ∧ TupB K H st cs ∧ M.keepers.length = cs.length ∧
 ∀ H',Same H H' → Q (.bl (keepsP M ls cs)) H'
abbrev nKp : List Str:=["_law_m", "_law_piece", "_law_stand", "_law_bits"]
abbrev pKp : List Str:=["_law_m", "_law_piece", "_law_stand"]
theorem ndKB : (["_law_keeper", "_law_bit_here"] : List Str).Nodup:=by decide +kernel
theorem ndLB : (["_law_literal_here", "_law_bits"] : List Str).Nodup:=by decide +kernel
section
variable {P : Program} {w : World} {K : PySem.W.Frag} {mg : Str → Option Value} {base : Heap}
theorem scKp : FnScope nKp pKp (defScope sKeeps):=⟨rfl,rfl,rfl,by decide +kernel,rfl,by decide +kernel,by decide +kernel⟩
theorem ok_keeps {f fB : Addr} {fd dB : FuncData} (F : Fun K "_law_keeps" "_law_keeps" sKeeps f fd) (O2 : Own2 mg) (hAny : mg "any" = none)
 (gB : FnOk P w K mg base CX0 1 fB dB ["_law_values_here", "_law_literal_here"] spLitV) (mB : mg "_law_bit" = some (.ref fB)) (kB : PySem.W.keepIn K (.ref fB) = true) (bB : Binds K dB ["_law_values_here", "_law_literal_here"] []) : FnOk P w K mg base CX0 2 f fd pKp (spKeeps K):=by
 refine F.ok scKp (fun vs H Q E h=>?_) (fun cdv A outer s H vs Q E hr h=>?_)
 · obtain ⟨m,a1,a2,a3,a4,a5,a6,p,st,M,names,ls,cs,rfl,_⟩:=h
   rfl
 · obtain ⟨m,a1,a2,a3,a4,a5,a6,p,st,M,names,ls,cs,rfl,hM,hm,hp,hok,hst,hl,kk⟩:=h
   have hu:=hu_of hr
   refine ⟨_,pss_cons (ps_set (i:=3) scKp.nd rfl (Or.inr rfl) (pe_callTy (call_dict_pairs rfl) (by rfl) O2.dict PyProof.Rows.boot_dict (pa_cons
    (pe_lc (N:=["_law_keeper", "_law_bit_here"]) (js:=[none,none]) (g:=gTup K 2 (gCons (gName 0) (gCons (gName 1) gNil))) (by kernel_rfl) rfl (pi_zipL (by rfl) O2.zip (pa_cons (pe_dget hu (pv 0) pe_str (fun _ _=>rfl)) (pa_cons (pv 2) pa_nil)))
     (fun _ _ _ _ _ _=>pg_tup rfl (pgs_cons (pg_name (i:=0) ndKB rfl (Or.inl rfl) (.inr rfl)) (pgs_cons (pg_name (i:=1) ndKB rfl (Or.inl rfl) (.inr rfl)) pgs_nil))) (fun _ _ _ _ _ _=>pifs_nil)
     (fun _ _ _ _ _ _=>pe_tup (pa_cons (pe_ix (r:=rIxT K) ix_tup (pv 0) pe_int (fun _ _=>rfl)) (pa_cons (pv 1) pa_nil)))) pa_nil)))
    (pss_one (ps_ret (pe_callB (call_any_bools rfl) (by rfl) hAny PyProof.Rows.boot_any (pa_cons
     (pe_lc (N:=["_law_literal_here", "_law_bits"]) (js:=[none,some 3]) (by kernel_rfl) rfl (pi_tup (pv 1)) (fun _ _ _ _ _ _=>pg_name (i:=0) ndLB rfl (Or.inl rfl) (.inr rfl)) (fun _ _ _ _ _ _=>pifs_nil)
      (fun _ _ _ _ _ _=>pe_cmpR op_eq (pe_call gB hr (by rfl) mB kB bB .nil pass0 (pa_cons (pv 1) (pa_cons (pv 0) pa_nil))) pe_int (nomark _))) pa_nil)))),?_⟩
   obtain ⟨ks,hks,pks⟩:=id hM.kp
   have lks:=pks.length
   rw [List.length_map] at lks
   have hn2:=hm.n2
   have hkd : (M.keepers.map (·.1)).Nodup:=by
    have:=hm.ok.nd
    rw [hm.ok.all] at this
    exact (List.nodup_append.mp (List.nodup_append.mp this).1).2.1
   refine ⟨_,rfl,m,.ref a2,rfl,DGet.k (k:=.inr "keepers") hM.top,_,rfl,a2,st,rfl,⟨_,SqL.of hks⟩,⟨_,hst⟩,fun D hD=>?_⟩
   refine lc_by M.keepers.length (fun j acc σ H4=>(∃ us : List Addr,acc = us.map V.ref ∧ Paired (fun t (r : Str × Int)=>H4 t = some (.tup [.str r.1,.int r.2])) us ((bitsK M cs).take j) ∧ us.length = j) ∧ (∃ u v,σ = [u,v]) ∧ Same H H4) ⟨⟨[],rfl,.nil,rfl⟩,⟨none,none,rfl⟩,Same.upd_new hD⟩ upd_same ?_ ?_
   · rintro acc σ H4 hDD ⟨⟨us,rfl,hus,_⟩,_,s4⟩
     rw [List.take_of_length_le (by unfold bitsK; rw [List.length_zip,List.length_map]; omega)] at hus
     refine ⟨⟨_,(show ZK K false H4 a2 _ from SqL.of (s4 _ _ hks)),by rw [List.length_map,lks]; exact Nat.le_refl _⟩,D,us,kvI (bitsK M cs),rfl,hDD,?_,fun e he=>?_⟩
     · exact paired_map' (g:=fun r : Str × Int=>((.inr r.1 : Key),V.int r.2)) hus
     rw [show mergeK [] (kvI (bitsK M cs)) = kvI (bitsK M cs) from merge_kvI _ [] (by rw [List.nil_append]; unfold bitsK; rw [keys_zip (by rw [List.length_map]; exact hl)]; exact hkd)]
     have s5 : Same H4 (upd H4 e (.dK (kvI (bitsK M cs)))):=Same.upd_new he
     have q5 : (upd H4 e (.dK (kvI (bitsK M cs)))) e = some (.dK (kvI (bitsK M cs))):=upd_same
     generalize upd H4 e (.dK (kvI (bitsK M cs))) = H5 at s5 q5 ⊢
     have s05:=s4.trans s5
     have hp5:=Same.seqT s05 hp
     have hls:=hok.2
     refine ⟨_,rfl,p,rfl,⟨_,hp5⟩,fun D2 hD2=>?_⟩
     refine lc_by ls.length (fun j acc σ H6=>acc = ((ls.take j).map fun l=>decide (litI (bitsK M cs) l = 1)).map V.bl ∧ (∃ u,σ = [u,some (.ref e)]) ∧ Same H5 H6) ⟨rfl,⟨none,rfl⟩,Same.upd_new hD2⟩ upd_same ?_ ?_
     · rintro acc σ H6 hDD2 ⟨rfl,_,s6⟩
       rw [List.take_length] at hDD2
       refine ⟨⟨_,Same.seqT s6 hp5,by rw [List.length_map]; exact Nat.le_refl _⟩,D2,_,rfl,SqL.of hDD2,?_⟩
       have e1 : (ls.map fun l=>decide (litI (bitsK M cs) l = 1)).any _root_.id = keepsP M ls cs:=by
        unfold keepsP
        rw [List.any_map]
        rfl
       rw [e1]
       exact kk H6 (s05.trans s6)
     · rintro j acc σ H6 hj hDD2 ⟨rfl,⟨u,rfl⟩,s6⟩
       have ej : (ls.map V.str)[j]? = some (.str ls[j]):=by rw [List.getElem?_map,List.getElem?_eq_getElem hj]; rfl
       have hp6:=Same.seqT s6 hp5
       refine ⟨⟨_,_,hp6,ej⟩,?_⟩
       rintro x' H' ⟨rfl,hall⟩
       have ex:=hall _ hp6
       rw [ej] at ex
       cases ex
       refine gName_yes ?_
       have hlk:=(hok.1 _ (List.getElem_mem hj)).in_ hm.ok hl
       have hlt : (ls.take (j + 1)).map (fun l=>decide (litI (bitsK M cs) l = 1)) = (ls.take j).map (fun l=>decide (litI (bitsK M cs) l = 1)) ++ [decide (litI (bitsK M cs) ls[j] = 1)]:=by rw [List.take_succ,List.getElem?_eq_getElem hj,List.map_append]; rfl
       generalize ls[j] = l at hlk hlt
       refine ⟨_,rfl,_,rfl,e,_,l,rfl,.inl (s6 _ _ q5),hlk,fun H7 s7=>⟨rfl,?_⟩⟩
       refine ⟨_,s7 _ _ hDD2,?_,lcW_next hj upd_same ⟨?_,⟨_,rfl⟩,fun y o hy=>?_⟩⟩
       · rw [List.length_map,List.length_map,List.length_take]
         exact small (by omega)
       · rw [hlt,List.map_append]
         congr 1
         show [_] = [_]
         congr 2
         rw [Bool.eq_iff_iff,decide_eq_true_eq,decide_eq_true_eq]
         exact ⟨fun h=>V.int.inj h,fun h=>congrArg V.int h⟩
       · rw [upd_ne (ne_of_none hy hD2)]
         exact s7 _ _ (s6 y o hy)
   · rintro j acc σ H4 hj hDD ⟨⟨us,rfl,hus,hul⟩,⟨u,v,rfl⟩,s4⟩
     have hjc : j < cs.length:=by omega
     have hkj : M.keepers[j]? = some M.keepers[j]:=List.getElem?_eq_getElem hj
     obtain ⟨kt,hkt,eK⟩:=paired_at pks (i:=j) (b:=rowK M.keepers[j]) (by rw [List.getElem?_map,hkj]; rfl)
     have e1 : (ks.map V.ref)[j]? = some (.ref kt):=by rw [List.getElem?_map,hkt]; rfl
     have e2 : (cs.map V.int)[j]? = some (.int cs[j]):=by rw [List.getElem?_map,List.getElem?_eq_getElem hjc]; rfl
     have z1 : ZK K false H4 a2 (ks.map V.ref):=SqL.of (s4 _ _ hks)
     have z2 : ZK K true H4 st (cs.map V.int):=Same.seqT s4 hst
     refine ⟨⟨_,_,_,_,z1,z2,e1,e2⟩,?_⟩
     rintro x' H' ⟨Tp,xa,xb,rfl,hTp,rfl,h1,h2⟩
     have e3:=h1 _ z1
     have e4:=h2 _ z2
     rw [e1] at e3
     rw [e2] at e4
     cases e3
     cases e4
     have sT : Same H4 (upd H4 Tp (.tup [.ref kt,.int cs[j]])):=Same.upd_new hTp
     refine ⟨Tp,_,rfl,SqT.of upd_same,rfl,_,_,rfl,_,_,rfl,rfl,yes_if ?_⟩
     generalize upd H4 Tp (.tup [.ref kt,.int cs[j]]) = H5 at sT ⊢
     refine ⟨_,rfl,kt,_,_,.str M.keepers[j].1,rfl,rfl,SqT.of (sT _ _ (s4 _ _ eK)),rfl,_,rfl,(by show 2 ≤ sizeLine; decide),fun T hT=>?_⟩
     have sU : Same H5 (upd H5 T (.tup [.str M.keepers[j].1,.int cs[j]])):=Same.upd_new hT
     have qU : (upd H5 T (.tup [.str M.keepers[j].1,.int cs[j]])) T = some (.tup [.str M.keepers[j].1,.int cs[j]]):=upd_same
     have hz : (bitsK M cs).take (j + 1) = (bitsK M cs).take j ++ [(M.keepers[j].1,cs[j])]:=by
      unfold bitsK
      rw [zip_take (by rw [List.length_map]; exact hj) hjc,List.getElem_map]
     generalize upd H5 T (.tup [.str M.keepers[j].1,.int cs[j]]) = H6 at sU qU ⊢
     have s46:=sT.trans sU
     have hD6:=s46 _ _ hDD
     have nt : ∀ {b : Addr} {xs : List V},H6 b = some (.tup xs) → b ≠ D:=fun hb=>ne_of hb hD6 (by intro z; cases z)
     refine ⟨_,hD6,(by rw [List.length_map]; exact small (by omega)),lcW_next hj upd_same ⟨⟨us ++ [T],by rw [List.map_append]; rfl,?_,by rw [List.length_append,List.length_singleton,hul]⟩,⟨_,_,rfl⟩,fun y o hy=>?_⟩⟩
     · rw [hz]
       exact paired_append (Paired.mapP hus fun t r e=>by have:=s46 _ _ e; rw [upd_ne (nt this)]; exact this) (.cons (by rw [upd_ne (nt qU)]; exact qU) .nil)
     · rw [upd_ne (ne_of_none hy hD)]
       exact s46 _ _ (s4 y o hy)
end
end Gen
namespace L2
open PySem PySem.Spec PyProof.Rows
theorem one_cells {y : Str} : ∀ {names : List (Str × NameKind)},(names.filter fun p=>p.2 == .cell) = [(y,.cell)] → (∀ n acc,cellsFrom n names acc = (y,n) :: acc) ∧ ∀ h,pushCells h names = h.push { cls:=.type "cell",data:=.cell none }
 | (z,k) :: r,e=>by
  cases hk : k == NameKind.cell with
  | true =>
   rw [List.filter_cons,if_pos hk] at e
   have e1:=List.cons.inj e
   have ez : z = y:=congrArg Prod.fst e1.1
   have er : ∀ p ∈ r,(p.2 == NameKind.cell) = false:=fun p hp=>by
    cases q : p.2 == NameKind.cell with
    | false=>rfl
    | true =>
     have : p ∈ r.filter fun p=>p.2 == .cell:=List.mem_filter.mpr ⟨hp,q⟩
     rw [e1.2] at this
     cases this
   have none : ∀ {l : List (Str × NameKind)},(∀ p ∈ l,(p.2 == NameKind.cell) = false) → (∀ n acc,cellsFrom n l acc = acc) ∧ ∀ h,pushCells h l = h:=fun {l}=>by
    induction l with
    | nil=>exact fun _=>⟨fun _ _=>rfl,fun _=>rfl⟩
    | cons p l ih =>
     intro hl
     obtain ⟨i1,i2⟩:=ih fun q hq=>hl q (List.mem_cons_of_mem _ hq)
     have hp:=hl p List.mem_cons_self
     obtain ⟨pn,pk⟩:=p
     refine ⟨fun n acc=>?_,fun h=>?_⟩
     · rw [cellsFrom,if_neg (by rw [show (pk == NameKind.cell) = false from hp]; decide)]; exact i1 n acc
     · rw [pushCells,if_neg (by rw [show (pk == NameKind.cell) = false from hp]; decide)]; exact i2 h
   obtain ⟨j1,j2⟩:=none er
   refine ⟨fun n acc=>?_,fun h=>?_⟩
   · rw [cellsFrom,if_pos hk,j1,ez]
   · rw [pushCells,if_pos hk,j2]
  | false =>
   rw [List.filter_cons,if_neg (by rw [hk]; decide)] at e
   obtain ⟨i1,i2⟩:=one_cells e
   refine ⟨fun n acc=>?_,fun h=>?_⟩
   · rw [cellsFrom,if_neg (by rw [hk]; decide)]; exact i1 n acc
   · rw [pushCells,if_neg (by rw [hk]; decide)]; exact i2 h
theorem new_envC {M : Model} {A : Around} {E : Value → Shared → Prop} {s : Shared} {scope : Scope} {globals : Addr} {closure : List (Str × Addr)} {qual : Str} {around : Env} {Q : Env → Shared → Prop} {y : Str} (hy : (scope.names.filter fun p=>p.2 == .cell) = [(y,.cell)])
 (hQ : Q (newEnv scope s.heap.objs.size globals ((y,s.heap.objs.size + 1) :: closure) qual none .none (some around) builtinsNs) { s with heap:=(s.heap.push { cls:=.type "dict",data:=.dict #[] }).push { cls:=.type "cell",data:=.cell none } }) :
 wpAny M A (newFunctionEnv scope globals closure [] qual none .none (some around)) Q E s:=by
 obtain ⟨c1,c2⟩:=one_cells hy
 simp only [newFunctionEnv,Option.isSome_some,if_true]
 refine wpAny_bind (wpAny_alloc ?_)
 refine wpAny_bind (wpAny_layCells _ (fun name kind cells=>by cases hkc : kind == NameKind.cell <;> simp [hkc]) _ _ _ _ ?_)
 rw [c1,c2]
 rw [show ({ s with heap:=s.heap.push { cls:=.type "dict",data:=.dict #[] } } : Shared).heap.objs.size = s.heap.objs.size + 1 from Heap.size_push ..]
 rw [List.forIn_nil]
 exact wpAny_bind (wpAny_pure (wpAny_pure hQ))
theorem of_rel_cfC {scope : Scope} {env : Env} {x : Str} (h : (relabel scope env).names.lookup x = some .cell ∨ (relabel scope env).names.lookup x = some .free) : scope.names.lookup x = some .free ∨ scope.names.lookup x = some .cell:=by
 rw [relabel_names,lookup_relK] at h
 cases e : scope.names.lookup x with
 | none=>rw [e] at h; rcases h with h | h <;> cases h
 | some k =>
  rw [e] at h
  simp only [Option.map_some,Option.some.injEq] at h
  by_cases hf : k = .free
  · rw [hf]; exact .inl rfl
  · have hb : (k == NameKind.free) = false:=by cases k <;> first | rfl | exact absurd rfl hf
    have : (relK env (x,k)).2 = k:=by
     unfold relK
     simp [hb]
    rw [this] at h
    rcases h with h | h
    · rw [h]; exact .inr rfl
    · exact absurd h hf
abbrev cxCompC (X : Cx) (N : List Str) (scope : Scope) (y : Str) (cl : List (Str × Addr)) (C : Addr) (s : Shared) (H : Hp) (fp : List Addr) (pn : List (Addr × Obj)) : Cx:={ cxComp X N scope cl C s H fp pn with fn:=fun x=>decide (x = y) }
theorem fnC {X : Cx} {N : List Str} {scope : Scope} {y : Str} {cl : List (Str × Addr)} {C : Addr} {s : Shared} {H : Hp} {fp : List Addr} {pn : List (Addr × Obj)} : (cxCompC X N scope y cl C s H fp pn).fn y = true:=decide_eq_true rfl
structure CompScC (X : Cx) (N : List Str) (js : List (Option Nat)) (scope : Scope) (y : Str) : Prop where
 kind : scope.kind = .function
 one : (scope.names.filter fun p=>p.2 == .cell) = [(y,.cell)]
 self : scope.names.lookup y = some .cell
 names : ∀ y ∈ scope.names,y.2 = .local → scope.names.lookup y.1 = some .local
 frees : ∀ y ∈ scope.names,y.2 = .free → X.env.kindOf y.1 = some .cell ∨ X.env.kindOf y.1 = some .free
 len : js.length = N.length
 pull : ∀ (i j : Nat) (x : Str),js[i]? = some (some j) → N[i]? = some x → X.N[j]? = some x ∧ scope.names.lookup x = some .free
def compOkC (xn : List Str) (xs : List (Str × NameKind)) (N : List Str) (js : List (Option Nat)) (scope : Scope) (y : Str) : Bool :=
 isFn scope.kind && decide ((scope.names.filter fun p=>p.2 == .cell).map (·.1) = [y]) && (match scope.names.lookup y with | some .cell=>true | _=>false) && (scope.names.all fun y=>match y.2 with
  | .local=>(match scope.names.lookup y.1 with | some .local=>true | _=>false)
  | .free=>(match xs.lookup y.1 with | some .cell=>true | some .free=>true | _=>false)
  | _=>true) && pullOk xn scope.names N js
theorem CompScC.of {X : Cx} {N : List Str} {js : List (Option Nat)} {scope : Scope} {y : Str} (h : compOkC X.N X.env.scope.names N js scope y = true) : CompScC X N js scope y:=by
 unfold compOkC at h
 simp only [Bool.and_eq_true,List.all_eq_true,decide_eq_true_eq] at h
 obtain ⟨⟨⟨⟨h1,h0⟩,h9⟩,h2⟩,h3⟩:=h
 refine ⟨?_,?_,?_,fun y hy e=>?_,fun y hy e=>?_,pullOk_len h3,pullOk_at h3⟩
 · cases q : scope.kind <;> rw [q] at h1 <;> first | rfl | cases h1
 · have all : ∀ p ∈ scope.names.filter fun p=>p.2 == .cell,p.2 = .cell:=fun p hp=>by
    have:=(List.mem_filter.mp hp).2
    cases q : p.2 <;> rw [q] at this <;> first | rfl | cases this
   generalize (scope.names.filter fun p=>p.2 == .cell) = l at h0 all
   match l,h0 with
   | [(a,k)],h0 =>
    have ea : a = y:=(List.cons.inj h0).1
    have ek : k = .cell:=all (a,k) List.mem_cons_self
    rw [ea,ek]
 · cases q : scope.names.lookup y with
   | none=>rw [q] at h9; cases h9
   | some k=>rw [q] at h9; cases k <;> first | rfl | cases h9
 · have:=h2 y hy
   rw [e] at this
   cases q : scope.names.lookup y.1 with
   | none=>rw [q] at this; cases this
   | some k=>rw [q] at this; cases k <;> first | rfl | cases this
 · have:=h2 y hy
   rw [e] at this
   show X.env.scope.names.lookup y.1 = some .cell ∨ X.env.scope.names.lookup y.1 = some .free
   cases q : X.env.scope.names.lookup y.1 with
   | none=>rw [q] at this; cases this
   | some k=>rw [q] at this; cases k <;> first | exact .inl rfl | exact .inr rfl | cases this
section
variable {X : Cx} {pins : List (Addr × Obj)} {σ : St} {H : Hp} {s : Shared}
theorem CompScC.is {N : List Str} {js : List (Option Nat)} {scope : Scope} {y x : Str} (S : CompScC X N js scope y) (h : scope.names.lookup x = some .cell) : x = y:=by
 have : (x,NameKind.cell) ∈ scope.names.filter fun p=>p.2 == .cell:=List.mem_filter.mpr ⟨lookup_mem h,rfl⟩
 rw [S.one] at this
 exact congrArg Prod.fst (List.mem_singleton.mp this)
theorem Inv.enterC {N : List Str} {js : List (Option Nat)} {scope : Scope} {y : Str} {cl : List (Str × Addr)} {C : Addr} {fp : List Addr} {h' : Heap} {m : Str → Option Value} {tk : Nat} (I : Inv X pins σ H s) (S : CompScC X N js scope y) (hc : X.calm = true)
 (hcl : ∀ x c,cl.lookup x = some c → X.env.cells.lookup x = some c) (hfr : ∀ x ∈ scope.names,x.2 = NameKind.free → ∃ c,cl.lookup x.1 = some c) (hC : C = s.heap.objs.size)
 (hf : ∀ b ∈ fp,FpOk X pins H b) (hl : ∀ b ∈ fp,b < s.heap.objs.size) (hn : h'.Ns C m) (hcc : h'.IsCell (C + 1) none) (k : ∀ b o,s.heap.get? b = some o → h'.get? b = some o) :
 Inv (cxCompC X N scope y ((y,C + 1) :: cl) C s H fp (X.pn ++ pins)) [] (pullS js σ) H { s with heap:=h',toks:=tk }:=by
 have lt : ∀ b o,s.heap.get? b = some o → b ≠ C:=fun b o e=>by
  rw [hC]
  exact Nat.ne_of_lt (Heap.lt_size e)
 have lt1 : ∀ b,b < s.heap.objs.size → b ≠ C + 1:=fun b e=>by
  rw [hC]
  exact Nat.ne_of_lt (Nat.lt_succ_of_lt e)
 have clt : ∀ x c,X.env.cells.lookup x = some c → c < s.heap.objs.size:=fun x c e=>by
  obtain ⟨v,o,ho,_⟩:=I.cell x c e
  exact Heap.lt_size ho
 have inLook : ∀ x,scope.names.lookup x = some .free → ∃ c,cl.lookup x = some c:=fun x e=>hfr _ (lookup_mem e) rfl
 have two : ∀ x c,((y,C + 1) :: cl).lookup x = some c → (x = y ∧ c = C + 1) ∨ (x ≠ y ∧ cl.lookup x = some c):=fun x c e=>by
  rw [List.lookup_cons] at e
  cases hx : x == y with
  | true=>rw [hx] at e; exact .inl ⟨eq_of_beq hx,(Option.some.inj e).symm⟩
  | false=>rw [hx] at e; exact .inr ⟨(fun z=>by rw [z,beq_self_eq_true] at hx; cases hx),e⟩
 have at_y : ((y,C + 1) :: cl).lookup y = some (C + 1):=by rw [List.lookup_cons,beq_self_eq_true]
 have at_x : ∀ x c,x ≠ y → cl.lookup x = some c → ((y,C + 1) :: cl).lookup x = some c:=fun x c n e=>by
  rw [List.lookup_cons,beq_eq_false_iff_ne.mpr n]
  exact e
 have yn : ∀ x,scope.names.lookup x = some .free → x ≠ y:=fun x e z=>by
  rw [z,S.self] at e
  cases e
 have stk : ∀ b,b ≠ X.env.locals → b ∉ X.fs → b ∉ frs X.stack:=fun b h1 h2 z=>(List.mem_cons.mp (I.stkSub b z)).elim h1 h2
 have ok : (cxCompC X N scope y ((y,C + 1) :: cl) C s H fp (X.pn ++ pins)).Ok:=by
  refine ⟨I.ok.mod,S.kind,I.ok.glob,I.ok.blt,Nat.le_of_eq hC.symm,fun x z c e1 e2=>?_,fun x hx=>?_,fun x c e e1=>?_,fun _=>I.ok.hd hc,
   I.ok.frames,.inl rfl,fun b hb=>⟨?_,fun x c e=>?_⟩,I.bs,Nat.le_trans I.ok.bsz I.sz,fun b o e hb=>?_,fun b hb=>stk b (hf b hb).2.1 (hf b hb).2.2.1,I.stack,I.stkFree⟩
  · rcases two x c e1 with ⟨r1,r2⟩ | ⟨r1,r2⟩ <;> rcases two z c e2 with ⟨q1,q2⟩ | ⟨q1,q2⟩
    · rw [r1,q1]
    · exact absurd r2 (lt1 c (clt z c (hcl z c q2)))
    · exact absurd q2 (lt1 c (clt x c (hcl x c r2)))
    · exact I.ok.inj x z c (hcl x c r2) (hcl z c q2)
  · rcases of_rel_cfC hx with e | e
    · obtain ⟨c,ec⟩:=inLook x e
      exact ⟨c,at_x x c (yn x e) ec⟩
    · rw [S.is e]
      exact ⟨_,at_y⟩
  · have ex : x = y:=of_decide_eq_true e
    rw [ex] at e1
    rcases two y c e1 with ⟨_,r2⟩ | ⟨r1,_⟩
    · rw [r2,hC]; exact Nat.le_succ _
    · exact absurd rfl r1
  · show b ≠ C
    rw [hC]
    exact Nat.ne_of_lt (hl b hb)
  · rcases two x c e with ⟨_,r2⟩ | ⟨_,r2⟩
    · rw [r2]; exact Ne.symm (lt1 b (hl b hb))
    · exact (hf b hb).2.2.2.2.1 x c (hcl x c r2)
  · rcases (hf b hb).2.2.2.1 with z | z
    · exact I.ok.noex b o e z
    · exact absurd (Nat.lt_of_lt_of_le (Heap.lt_size e) (Nat.le_trans I.ok.bsz z)) (Nat.lt_irrefl _)
 refine ⟨ok,rfl,I.bare,Un.kept k,⟨m,hn,fun i x v e1 e2 e3=>?_⟩,fun x c e=>?_,?_,fun x c e=>?_,fun p hp=>?_,I.hok.kept k,?_⟩
 · have e2' : (pullS js σ)[i]? = some (some v):=e2
   unfold pullS at e2'
   rw [List.getElem?_map] at e2'
   cases q : js[i]? with
   | none=>rw [q] at e2'; cases e2'
   | some oj =>
    rw [q] at e2'
    cases oj with
    | none=>cases e2'
    | some j =>
     have ev : (σ[j]?).getD none = some v:=Option.some.inj e2'
     have ev' : σ[j]? = some (some v):=by
      cases z : σ[j]? with
      | none=>rw [z] at ev; cases ev
      | some o=>rw [z] at ev; exact congrArg some ev
     obtain ⟨n1,n2⟩:=S.pull i j x q e1
     obtain ⟨c,hc'⟩:=inLook x n2
     have hcX:=hcl x c hc'
     obtain ⟨m0,_,hl0⟩:=I.loc
     have kx:=S.frees (x,.free) (lookup_mem n2) rfl
     have kx' : X.env.kindOf x = some .cell ∨ X.env.kindOf x = some .free:=kx
     obtain ⟨u,ru,lk⟩:=hl0 j x v n1 ev' (kx'.elim (fun z=>.inr (.inl z)) fun z=>.inr (.inr z))
     refine ⟨u,ru,.inr ⟨rel_free n2,c,at_x x c (yn x n2) hc',?_⟩⟩
     rcases lk with ⟨kl,_⟩ | ⟨_,c2,e2,ic⟩
     · rcases kx' with z | z <;> (rw [kl] at z; cases z)
     · rw [hcX] at e2
       cases e2
       obtain ⟨o,ho,hd⟩:=ic
       exact ⟨o,k c o ho,hd⟩
 · rcases two x c e with ⟨_,r2⟩ | ⟨_,r2⟩
   · rw [r2]; exact ⟨none,hcc⟩
   · obtain ⟨v,o,ho,hd⟩:=I.cell x c (hcl x c r2)
     exact ⟨v,o,k c o ho,hd⟩
 · show H C = none
   rw [hC]
   exact I.hok.fresh (Nat.le_refl _)
 · rcases two x c e with ⟨_,r2⟩ | ⟨_,r2⟩
   · rw [r2,hC]; exact I.hok.fresh (Nat.le_succ _)
   · exact I.freeC x c (hcl x c r2)
 · have hp' : p ∈ X.pn ++ pins:=by simpa [cxComp] using hp
   obtain ⟨e,n,ne,nf,d⟩:=I.pin p hp'
   exact ⟨k _ _ e,n,lt _ _ e,stk _ ne nf,d⟩
 · show (pullS js σ).length = N.length
   unfold pullS
   rw [List.length_map]
   exact S.len
theorem Inv.leftC {N : List Str} {scope : Scope} {y : Str} {cl : List (Str × Addr)} {C : Addr} {fp : List Addr} {σc : St} {H' : Hp} {s' : Shared} {pn : List (Addr × Obj)} (I : Inv X pins σ H s) (hf : ∀ b ∈ fp,FpOk X pins H b)
 (J : Inv (cxCompC X N scope y cl C s H fp pn) [] σc H' s') : Inv X pins σ H' s' :=
 I.call' (ch:=fp) J.os J.base J.hok J.bare fun b hb=>⟨(hf b hb).2.2.2.1,(hf b hb).2.1,(hf b hb).2.2.2.2.1,(hf b hb).2.2.2.2.2⟩
end
section
variable {X : Cx} {N : List Str} {js : List (Option Nat)} {scope : Scope} {y : Str} {elt tg iter : Expr} {ifs : List Expr} {pos : Pos} {wi : TI} {g : TG} {ti : TT} {te : TE}
theorem lc_runC {use : Option (Value → Sem Unit)} {R : Value → Shared → Prop} (S : CompScC X N js scope y) (hc : X.calm = true) (hi : PI X tg iter wi)
 (hg : ∀ cl C s H fp pn,PG (cxCompC X N scope y cl C s H fp pn) tg g) (ht : ∀ cl C s H fp pn,PIfs (cxCompC X N scope y cl C s H fp pn) ifs ti) (he : ∀ cl C s H fp pn,PE (cxCompC X N scope y cl C s H fp pn) elt te)
 (hs : ∀ x,foldedSetIterable iter X.env x = pure x) {pins : List (Addr × Obj)} {s : Shared} {σ : St} {H : Hp} {Q : V → Hp → Prop} (I : Inv X pins σ H s) (h : tLC js wi g ti te σ H Q)
 (hR : ∀ D C (H' : Hp) (s' : Shared),Inv X pins σ H' s' → (∃ m,s'.heap.Ns C m) → H' C = none → C ≠ X.env.locals → (C ∈ X.ex ∨ X.s₀.heap.objs.size ≤ C) → (∀ x c,X.env.cells.lookup x = some c → c ≠ C) → (∀ p ∈ X.pn ++ pins,p.1 ≠ C) → Q (.ref D) H' →
  compPost (model X.prog X.w) X.A X.xe use R (.ref D) C (.ok .next) s') :
 wpAny (model X.prog X.w) X.A (comprehension (.ListComp elt [⟨tg,iter,ifs,0⟩] scope pos) scope X.env (firstIterPos [⟨tg,iter,ifs,0⟩] pos) (newList []) false (eval iter X.env) use) R X.xe s:=by
 obtain ⟨cl,hclos,hcl,hfr⟩:=closureFor_all (scope:=scope) (env:=X.env) fun x hx hk=>I.ok.has x.1 (S.frees x hx hk)
 refine wpAny_comprehension_free (use:=use) rfl hs hclos S.kind S.names (thn (hi pins s σ H _ I h) fun xv s1 h1=>thn h1 fun itv s2 h2=>?_)
 obtain ⟨it,fp,tn,J,H2,e,I2,T,st2,f2,q2⟩:=h2
 subst e
 refine wpAny_newObj_type (new_envC S.one ?_)
 dsimp only
 have I3 : Inv X pins σ (upd H2 s2.heap.objs.size (.lst [])) { s2 with heap:=s2.heap.push { cls:=.type "list",data:=.seq ([] : List Value).toArray },toks:=s2.toks }:=I2.lnew .nil (by show 0 ≤ sizeLine; decide)
 have lt2 : ∀ b ∈ fp,b < s2.heap.objs.size:=fun b hb=>let ⟨o,e,_⟩:=T.obj _ _ st2 b hb; Heap.lt_size e
 have f3 : ∀ b ∈ fp,FpOk X pins (upd H2 s2.heap.objs.size (.lst [])) b:=fun b hb=>⟨by rw [upd_ne (Nat.ne_of_lt (lt2 b hb))]; exact (f2 b hb).1,(f2 b hb).2⟩
 obtain ⟨W,⟨m0,w0⟩,turn⟩:=q2 s2.heap.objs.size (I2.hok.fresh (Nat.le_refl _))
 generalize hs3 : ({ s2 with heap:=s2.heap.push { cls:=.type "list",data:=.seq ([] : List Value).toArray },toks:=s2.toks } : Shared) = s3 at I3
 have e3 : s3.heap = s2.heap.push { cls:=.type "list",data:=.seq ([] : List Value).toArray }:=by rw [← hs3]
 have z3 : s3.heap.objs.size = s2.heap.objs.size + 1:=by rw [e3,Heap.size_push]
 have hns₁ : (((s2.heap.push { cls:=.type "list",data:=.seq ([] : List Value).toArray }).push { cls:=.type "dict",data:=.dict #[] }).push { cls:=.type "cell",data:=.cell none }).Ns (s2.heap.push { cls:=.type "list",data:=.seq ([] : List Value).toArray }).objs.size (fun _=>none) :=
  (Heap.Ns.new (s2.heap.push { cls:=.type "list",data:=.seq ([] : List Value).toArray }) (.type "dict")).keeps fun b o e=>Heap.get?_push_of_some _ e
 have hcc₁ : (((s2.heap.push { cls:=.type "list",data:=.seq ([] : List Value).toArray }).push { cls:=.type "dict",data:=.dict #[] }).push { cls:=.type "cell",data:=.cell none }).IsCell ((s2.heap.push { cls:=.type "list",data:=.seq ([] : List Value).toArray }).objs.size + 1) none:=by
  have:=Heap.get?_push_size ((s2.heap.push { cls:=.type "list",data:=.seq ([] : List Value).toArray }).push { cls:=.type "dict",data:=.dict #[] }) (o:={ cls:=.type "cell",data:=.cell none }) rfl
  rw [Heap.size_push] at this
  exact ⟨_,this,rfl⟩
 have k1' : ∀ b o,s3.heap.get? b = some o → (((s2.heap.push { cls:=.type "list",data:=.seq ([] : List Value).toArray }).push { cls:=.type "dict",data:=.dict #[] }).push { cls:=.type "cell",data:=.cell none }).get? b = some o:=fun b o e =>
  Heap.get?_push_of_some _ (Heap.get?_push_of_some _ (by rw [← e3]; exact e))
 generalize hh₁ : ((s2.heap.push { cls:=.type "list",data:=.seq ([] : List Value).toArray }).push { cls:=.type "dict",data:=.dict #[] }).push { cls:=.type "cell",data:=.cell none } = h₁ at hns₁ hcc₁ k1' ⊢
 have k1 : ∀ b o,s3.heap.get? b = some o → h₁.get? b = some o:=k1'
 have hC : (s2.heap.push { cls:=.type "list",data:=.seq ([] : List Value).toArray }).objs.size = s3.heap.objs.size:=by rw [e3]
 have I4:=I3.enterC (y:=y) (N:=N) (js:=js) (scope:=scope) (cl:=cl) (fp:=fp) (C:=(s2.heap.push { cls:=.type "list",data:=.seq ([] : List Value).toArray }).objs.size) (h':=h₁) (tk:=s2.toks) S hc hcl hfr hC f3
  (fun b hb=>by rw [z3]; exact Nat.lt_succ_of_lt (lt2 b hb)) hns₁ hcc₁ k1
 have st4 : tn 0 h₁:=T.keep _ _ _ st2 fun b hb o e=>k1 b o (by rw [e3]; exact Heap.get?_push_of_some _ e)
 generalize hCC : (s2.heap.push { cls:=.type "list",data:=.seq ([] : List Value).toArray }).objs.size = C at hns₁ hcc₁ hC I4 ⊢
 have hs4 : ({ s3 with heap:=h₁,toks:=s2.toks } : Shared) = { s2 with heap:=h₁,toks:=s2.toks }:=by rw [← hs3]
 rw [hs4] at I4
 have fY : ∀ {H' : Hp},(∀ b ∈ fp,H' b = none) → ∀ b ∈ fp,FpOk (cxCompC X N scope y ((y,C + 1) :: cl) C s3 (upd H2 s2.heap.objs.size (.lst [])) fp (X.pn ++ pins)) [] H' b:=fun hn b hb=>by
  obtain ⟨f0,fa,fb,fc,fd,fe⟩:=f3 b hb
  refine ⟨hn b hb,?_,fun z=>(List.mem_cons.mp (I3.stkSub b z)).elim fa fb,.inl hb,fun x c e=>?_,fun p hp=>fe p (by simpa [cxComp] using hp)⟩
  · show b ≠ C
    rw [hC,z3]
    exact Nat.ne_of_lt (Nat.lt_succ_of_lt (lt2 b hb))
  · have e' : ((y,C + 1) :: cl).lookup x = some c:=e
    rw [List.lookup_cons] at e'
    cases hx : x == y with
    | true =>
     rw [hx] at e'
     rw [← Option.some.inj e',hC,z3]
     exact Nat.ne_of_gt (Nat.lt_succ_of_lt (Nat.lt_succ_of_lt (lt2 b hb)))
    | false =>
     rw [hx] at e'
     exact fd x c (hcl x c e')
 have loop : codeAny (model X.prog X.w) X.A (.compLoop (.ListComp elt [⟨tg,iter,ifs,0⟩] scope pos) 0 (.ref it) (.ref s2.heap.objs.size) (compEnvC scope ((y,C + 1) :: cl) C X.env))
  (compPost (model X.prog X.w) X.A X.xe use R (.ref s2.heap.objs.size) C) { s2 with heap:=h₁,toks:=s2.toks }:=by
  refine compLoop_any (fun n s'=>∃ i σ' H',Inv (cxCompC X N scope y ((y,C + 1) :: cl) C s3 (upd H2 s2.heap.objs.size (.lst [])) fp (X.pn ++ pins)) [] σ' H' s' ∧ tn i s'.heap ∧ (∀ b ∈ fp,H' b = none) ∧ W i n σ' H') ?_ m0
   ⟨0,_,_,I4,st4,fun b hb=>(f3 b hb).1,w0⟩
  rintro n s5 ⟨i,σ5,H5,I5,st5,fr5,w5⟩
  rcases turn i n σ5 H5 w5 with ⟨stop,qn⟩ | ⟨go,step⟩
  · refine thn (T.done (cxCompC X N scope y ((y,C + 1) :: cl) C s3 (upd H2 s2.heap.objs.size (.lst [])) fp (X.pn ++ pins)) rfl rfl rfl rfl i [] s5 σ5 H5 (fun _ _=>False) I5 (fY fr5) st5 stop) fun r s6 ⟨hr,I6⟩=>?_
    subst hr
    have I7 : Inv X pins σ H5 s6:=I3.leftC f3 I6
    have hCs : X.s₀.heap.objs.size ≤ C:=by rw [hC]; exact I3.sz
    refine hR s2.heap.objs.size C H5 s6 I7 (let ⟨m,hn,_⟩:=I6.loc; ⟨m,hn⟩) I6.free ?_ (.inr hCs) (fun x c e z=>?_) (fun p hp z=>?_) qn
    · rw [hC]
      exact Nat.ne_of_gt I3.lt
    · obtain ⟨v,o,ho,_⟩:=I3.cell x c e
      have:=Heap.lt_size ho
      rw [z,hC] at this
      exact Nat.lt_irrefl _ this
    · obtain ⟨e,_⟩:=I3.pin p hp
      have:=Heap.lt_size e
      rw [z,hC] at this
      exact Nat.lt_irrefl _ this
  · refine thn (T.item (cxCompC X N scope y ((y,C + 1) :: cl) C s3 (upd H2 s2.heap.objs.size (.lst [])) fp (X.pn ++ pins)) rfl rfl rfl rfl i [] s5 σ5 H5 (fun _ _=>False) I5 (fY fr5) st5 go) fun r s6 ⟨u,hr,h6⟩=>?_
    subst hr
    refine thn h6 fun _ s7 ⟨x,H7,I7,r7,y7,st7,fr7⟩=>?_
    have I7':=I7.pinned (fY fr7) (T.obj _ _ st7)
    have again : ∀ {n' : Nat} {σ8 : St} {H8 : Hp} {s8 : Shared},Inv (cxCompC X N scope y ((y,C + 1) :: cl) C s3 (upd H2 s2.heap.objs.size (.lst [])) fp (X.pn ++ pins)) ([] ++ pinsAt fp s7.heap) σ8 H8 s8 → n' < n → W (i + 1) n' σ8 H8 →
     ∃ m,m < n ∧ ∃ i σ' H',Inv (cxCompC X N scope y ((y,C + 1) :: cl) C s3 (upd H2 s2.heap.objs.size (.lst [])) fp (X.pn ++ pins)) [] σ' H' s8 ∧ tn i s8.heap ∧ (∀ b ∈ fp,H' b = none) ∧ W i m σ' H':=fun {n' σ8 H8 s8} I8 hm w8=>by
     refine ⟨n',hm,i + 1,σ8,H8,I8.unpinned,T.keep _ _ _ st7 fun b hb o e=>(I8.pin (b,o) (List.mem_append_right _ (List.mem_append_right _ (mem_pinsAt hb e)))).1,fun b hb=>?_,w8⟩
     obtain ⟨o,e,d⟩:=T.obj _ _ st7 b hb
     exact (I8.pin (b,o) (List.mem_append_right _ (List.mem_append_right _ (mem_pinsAt hb e)))).2.1
    refine thn (hg _ _ _ _ _ _ _ s7 σ5 H7 x u _ I7' r7 (step x H7 y7)) fun _ s8 ⟨σ8,H8,I8,q8⟩=>?_
    refine thn (ht _ _ _ _ _ _ _ s8 σ8 H8 _ I8 q8) fun ok s9 ⟨H9,I9,q9⟩=>?_
    cases ok with
    | false =>
     rw [if_neg Bool.false_ne_true] at q9 ⊢
     obtain ⟨m',hm,w9⟩:=q9
     exact again I9 hm w9
    | true =>
     rw [if_pos rfl] at q9 ⊢
     refine thn (he _ _ _ _ _ _ _ s9 σ8 H9 _ I9 q9) fun yv s10 ⟨y,H10,I10,r10,acc,hD,hl,m',hm,w10⟩=>?_
     refine thn (mt_append _ s10 σ8 H10 (.ref s2.heap.objs.size) [y] (.ref s2.heap.objs.size) [yv] (fun _ H'=>H' = upd H10 s2.heap.objs.size (.lst (acc ++ [y]))) I10 rfl (.cons r10 .nil) ⟨s2.heap.objs.size,acc,y,rfl,rfl,hD,hl,rfl⟩) fun _ s11 ⟨_,H11,I11,_,e11⟩=>?_
     subst e11
     exact again I11 hm w10
 exact codeAny_compStart_list loop (T.self _ 0 _ _ _ st4 loop)
theorem pe_lcC (S : compOkC X.N X.env.scope.names N js scope y = true) (hc : X.calm = true) (hi : PI X tg iter wi)
 (hg : ∀ cl C s H fp pn,PG (cxCompC X N scope y cl C s H fp pn) tg g) (ht : ∀ cl C s H fp pn,PIfs (cxCompC X N scope y cl C s H fp pn) ifs ti) (he : ∀ cl C s H fp pn,PE (cxCompC X N scope y cl C s H fp pn) elt te)
 (hs : ∀ x,foldedSetIterable iter X.env x = pure x:=by intro _; rfl) : PE X (.ListComp elt [⟨tg,iter,ifs,0⟩] scope pos) (tLC js wi g ti te):=by
 intro pins s σ H Q I h
 rw [eval_ListComp]
 refine lc_runC (use:=none) (CompScC.of S) hc hi hg ht he hs I h ?_
 rintro D C H' s' I' ⟨m,hn⟩ c1 c2 c3 c4 c5 q
 refine ⟨m,hn,fun h' hs'=>?_⟩
 exact ⟨.ref D,H',I'.turned (t':=s'.toks) (fun b o hb e=>hs'.extBut b o hb e) c1 c2 c3 c4 c5,rfl,q⟩
theorem ps_lcC {i : Nat} {x : Str} {pos' spos : Pos} (hN : X.N.Nodup) (hi' : X.N[i]? = some x) (hx : X.env.scope.names.lookup x = some .local) (S : compOkC X.N X.env.scope.names N js scope y = true) (hc : X.calm = true) (hi : PI X tg iter wi)
 (hg : ∀ cl C s H fp pn,PG (cxCompC X N scope y cl C s H fp pn) tg g) (ht : ∀ cl C s H fp pn,PIfs (cxCompC X N scope y cl C s H fp pn) ifs ti) (he : ∀ cl C s H fp pn,PE (cxCompC X N scope y cl C s H fp pn) elt te)
 (hsw : swapsWith (.ListComp elt [⟨tg,iter,ifs,0⟩] scope pos) (some (.Name x pos')) spos.line X.env = pure true:=by rfl)
 (hs : ∀ x,foldedSetIterable iter X.env x = pure x:=by intro _; rfl) : PS X (.Assign [.Name x pos'] (.ListComp elt [⟨tg,iter,ifs,0⟩] scope pos) spos) (tAsg (tLC js wi g ti te) (gName i)):=by
 intro pins s σ H D I h
 rw [exec_Assign_Name_used _ _ _ _ hsw]
 refine wpAny_bind (wpAny_standAt (wpAny_bind ?_))
 show wpAny _ X.A (do let _ ← comprehension (.ListComp elt [⟨tg,iter,ifs,0⟩] scope pos) scope X.env _ (newList []) false (eval iter X.env) (some (assign (.Name x pos') X.env))) _ _ s
 refine wpAny_bind (thn (lc_runC (use:=some (assign (.Name x pos') X.env)) (R:=fun _ s'=>SP X pins D .next s') (CompScC.of S) hc hi hg ht he hs I h ?_) fun _ s' hq=>wpAny_pure (wpAny_pure hq))
 rintro Dd C H' s' I' ⟨m,hn⟩ c1 c2 c3 c4 c5 q
 show wpAny _ X.A (assign (.Name x pos') X.env (.ref Dd)) _ _ _
 refine wpAny_assign_Name (store_ok2 I' hN hi' (.inl hx) (v:=.ref Dd) rfl (fun s'' I'' ⟨a,sb,ha⟩=>?_) (.inr hx))
 have ea : a ≠ C:=by
  rcases ha with ha | ha
  · rw [ha]
    exact Ne.symm c2
  · exact c4 x a ha
 refine ⟨m,hn.sameBut sb (Ne.symm ea),fun h' hs'=>?_⟩
 exact ⟨_,_,I''.turned (t':=s''.toks) (fun b o hb e=>hs'.extBut b o hb e) c1 c2 c3 c4 c5,q⟩
end
end L2
namespace Gen
open PySem L2
abbrev sWithin : Stmt:=top 22
abbrev sWays : Stmt:=top 23
def withinF (M : Mach) (F : List (List Str)) : List (List Int):=(risL M.keepers.length).filter fun cs=>F.all fun ls=>keepsP M ls cs
def waysF (M : Mach) (F : List (List Str)) : List (List Int × List Int):=(withinF M F).flatMap fun cs=>(risL M.switches.length).map fun bs=>(cs,bs)
structure PcsAt (H : Hp) (fc : Addr) (ps : List Addr) (F : List (List Str)) : Prop where
 at_ : H fc = some (.lst (ps.map V.ref))
 all : Paired (fun p ls=>H p = some (.tup (ls.map V.str))) ps F
theorem PcsAt.same {H H' : Hp} {fc : Addr} {ps : List Addr} {F : List (List Str)} (h : PcsAt H fc ps F) (s : Same H H') : PcsAt H' fc ps F:=⟨s _ _ h.at_,Paired.mapP h.all fun _ _ e=>s _ _ e⟩
theorem PcsAt.len {H : Hp} {fc : Addr} {ps : List Addr} {F : List (List Str)} (h : PcsAt H fc ps F) : ps.length = F.length:=h.all.length
def spWithin (K : PySem.W.Frag) : Sp:=fun vs H Q _=>∃ (m a1 a2 a3 a4 a5 a6 fc : Addr) (M : Mach) (names : List Str) (F : List (List Str)) (ps : List Addr),vs = [.ref m,.ref fc] ∧ MachAt H m M a1 a2 a3 a4 a5 a6 ∧ Fm M names ∧ M.keepers.length ≤ 4 ∧ PcsAt H fc ps F ∧ (∀ ls ∈ F,PieceOk M ls) ∧ F.length ≤ 400 ∧
 ∀ p us H',Same H H' → H p = none → H' p = some (.lst (us.map V.ref)) → RowsH H' us (withinF M F) → Q (.ref p) H'
def WayAt (M : Mach) (H : Hp) (w : Addr) (r : List Int × List Int) : Prop:=∃ s t n : Addr,H w = some (.tup [.ref s,.ref t,.ref n]) ∧ TupI H s r.1 ∧ TupI H t r.2 ∧ TupI H n (stepM M r.2 r.1)
theorem WayAt.same {M : Mach} {H H' : Hp} {w : Addr} {r : List Int × List Int} (h : WayAt M H w r) (k : Same H H') : WayAt M H' w r:=let ⟨s,t,n,h1,h2,h3,h4⟩:=h; ⟨s,t,n,k _ _ h1,k _ _ h2,k _ _ h3,k _ _ h4⟩
def spWays (K : PySem.W.Frag) : Sp:=fun vs H Q _=>∃ (m a1 a2 a3 a4 a5 a6 fc : Addr) (M : Mach) (names : List Str) (F : List (List Str)) (ps : List Addr),vs = [.ref m,.ref fc] ∧ MachAt H m M a1 a2 a3 a4 a5 a6 ∧ Fm M names ∧ M.keepers.length ≤ 4 ∧ M.switches.length ≤ 3 ∧ PcsAt H fc ps F ∧ (∀ ls ∈ F,PieceOk M ls) ∧ F.length ≤ 400 ∧
 ∀ p ws H',Same H H' → H p = none → H' p = some (.lst (ws.map V.ref)) → Paired (WayAt M H') ws (waysF M F) → Q (.ref p) H'
abbrev nWi : List Str:=["_law_m", "_law_fence", "_law_stands"]
abbrev nWy : List Str:=["_law_m", "_law_fence", "_law_ways_here", "_law_stand"]
theorem ndSMF : (["_law_stand", "_law_m", "_law_fence"] : List Str).Nodup:=by decide +kernel
theorem ndPMS : (["_law_piece", "_law_m", "_law_stand"] : List Str).Nodup:=by decide +kernel
theorem ndTSM : (["_law_told", "_law_stand", "_law_m"] : List Str).Nodup:=by decide +kernel
def rAllB (K : PySem.W.Frag) : List V → Hp → VK → Prop:=fun xs H Q=>∃ (p : Addr) (bs : List Bool),xs = [.ref p] ∧ SqL K H p (bs.map V.bl) ∧ Q (.bl (bs.all _root_.id)) H
theorem map_all {α : Type} (l : List α) (f : α → Bool) : (l.map f).all _root_.id = l.all f:=by rw [List.all_map]; rfl
theorem lc_keeps {K : PySem.W.Frag} {H1 : Hp} {D fc m st a1 a2 a3 a4 a5 a6 : Addr} {M : Mach} {names : List Str} {F : List (List Str)} {ps : List Addr} {cs : List Int} {Q : Hp → Prop} (hD : H1 D = none) (hM : MachAt H1 m M a1 a2 a3 a4 a5 a6) (hm : Fm M names) (hF : PcsAt H1 fc ps F) (hok : ∀ ls ∈ F,PieceOk M ls) (hl : F.length ≤ 400) (hst : TupB K H1 st cs) (hc : M.keepers.length = cs.length)
 (fin : ∀ H4,Same H1 H4 → H4 D = some (.lst ((F.map fun ls=>keepsP M ls cs).map V.bl)) → Q H4) :
 ∃ W : Nat → Nat → St → Hp → Prop,(∃ k,W 0 k [none,some (.ref m),some (.ref st)] (upd H1 D (.lst []))) ∧ bLC D (gName 0) tYes (tCall (spKeeps K) [] E0 (tCons (tVar 1) (tCons (tVar 0) (tCons (tVar 2) tNil)))) (Itl K fc) W Q:=by
 have hpl:=hF.len
 refine lc_by F.length (fun j acc σ H4=>acc = ((F.take j).map fun ls=>keepsP M ls cs).map V.bl ∧ (∃ u,σ = [u,some (.ref m),some (.ref st)]) ∧ Same H1 H4) ⟨rfl,⟨none,rfl⟩,Same.upd_new hD⟩ upd_same ?_ ?_
 · rintro acc σ H4 hDD ⟨rfl,_,s4⟩
   rw [List.take_length] at hDD
   exact ⟨⟨_,SqL.of (s4 _ _ hF.at_),by rw [List.length_map,hpl]; exact Nat.le_refl _⟩,fin H4 s4 hDD⟩
 · rintro j acc σ H4 hj hDD ⟨rfl,⟨u,rfl⟩,s4⟩
   obtain ⟨p,hp,hP⟩:=paired_at hF.all (i:=j) (List.getElem?_eq_getElem hj)
   have ej : (ps.map V.ref)[j]? = some (.ref p):=by rw [List.getElem?_map,hp]; rfl
   refine ⟨⟨_,_,SqL.of (s4 _ _ hF.at_),ej⟩,?_⟩
   rintro x' H' ⟨rfl,hall⟩
   have ex:=hall _ (SqL.of (s4 _ _ hF.at_))
   rw [ej] at ex
   cases ex
   refine gName_yes ?_
   refine ⟨_,rfl,_,rfl,_,rfl,m,a1,a2,a3,a4,a5,a6,p,st,M,names,F[j],cs,rfl,hM.same s4,hm,SqT.of (s4 _ _ hP),hok _ (List.getElem_mem hj),hst.same s4,hc,fun H5 s5=>?_⟩
   refine ⟨_,s5 _ _ hDD,?_,lcW_next hj upd_same ⟨?_,⟨_,rfl⟩,fun y o hy=>?_⟩⟩
   · rw [List.length_map,List.length_map,List.length_take]
     exact small (by omega)
   · rw [List.take_succ,List.getElem?_eq_getElem hj,List.map_append,List.map_append]
     rfl
   · rw [upd_ne (ne_of_none hy hD)]
     exact s5 _ _ (s4 y o hy)
section
variable {P : Program} {w : World} {K : PySem.W.Frag} {mg : Str → Option Value} {base : Heap}
theorem scWi : FnScope nWi ["_law_m", "_law_fence"] (defScope sWithin):=⟨rfl,rfl,rfl,by decide +kernel,rfl,by decide +kernel,by decide +kernel⟩
theorem scWy : FnScope nWy ["_law_m", "_law_fence"] (defScope sWays):=⟨rfl,rfl,rfl,by decide +kernel,rfl,by decide +kernel,by decide +kernel⟩
theorem ok_within {f fA fK : Addr} {fd dA dK : FuncData} (F : Fun K "_law_within" "_law_within" sWithin f fd) (O2 : Own2 mg)
 (gA : FnOk P w K mg base CX0 1 fA dA ["_law_many"] (spAllB K)) (mA : mg "_law_all_bits" = some (.ref fA)) (kA : PySem.W.keepIn K (.ref fA) = true) (bA : Binds K dA ["_law_many"] [])
 (gK : FnOk P w K mg base CX0 2 fK dK pKp (spKeeps K)) (mK : mg "_law_keeps" = some (.ref fK)) (kK : PySem.W.keepIn K (.ref fK) = true) (bK : Binds K dK pKp []) : FnOk P w K mg base CX0 3 f fd ["_law_m", "_law_fence"] (spWithin K):=by
 refine F.ok scWi (fun vs H Q E h=>?_) (fun cdv A outer s H vs Q E hr h=>?_)
 · obtain ⟨m,a1,a2,a3,a4,a5,a6,fc,M,names,F,ps,rfl,_⟩:=h
   rfl
 · obtain ⟨m,a1,a2,a3,a4,a5,a6,fc,M,names,F,ps,rfl,hM,hm,k4,hF,hok,hFl,kk⟩:=h
   have hu:=hu_of hr
   have hr1 : Room 1 _:=hr.mono (by decide)
   refine ⟨_,pss_cons (ps_set (i:=2) scWi.nd rfl (Or.inl rfl) (pe_call gA hr1 rfl mA kA bA .nil pass0 (pa_cons (pe_callB call_len_seq (by rfl) O2.len PySem.boot_len (pa_cons (pe_dget hu (pv 0) pe_str (fun _ _=>rfl)) pa_nil)) pa_nil)))
    (pss_one (ps_ret (pe_lcC (y:="_law_stand") (N:=["_law_stand", "_law_m", "_law_fence"]) (js:=[none,some 0,some 1]) (by kernel_rfl) rfl (pi_list (pv 2)) (fun _ _ _ _ _ _=>pg_name (i:=0) ndSMF rfl (Or.inr rfl) (.inl fnC))
     (fun _ _ _ _ _ _=>pifs_one (pt_val (pe_callB (r:=rAllB K) (call_all_bools rfl) (by rfl) O2.all PyProof.Rows.boot_all (pa_cons (pe_lc (wi:=iList K (tVar 2)) (N:=["_law_piece", "_law_m", "_law_stand"]) (js:=[none,some 1,some 0]) (by kernel_rfl) rfl (pi_list (pv 2)) (fun _ _ _ _ _ _=>pg_name (i:=0) ndPMS rfl (Or.inl rfl) (.inr rfl)) (fun _ _ _ _ _ _=>pifs_nil)
      (fun _ _ _ _ _ _=>pe_call gK hr (by rfl) mK kK bK .nil pass0 (pa_cons (pv 1) (pa_cons (pv 0) (pa_cons (pv 2) pa_nil))))) pa_nil)))) (fun _ _ _ _ _ _=>pv 0)))),?_⟩
   obtain ⟨ks,hks,pks⟩:=id hM.kp
   have lks:=pks.length
   rw [List.length_map] at lks
   refine ⟨_,rfl,m,.ref a2,rfl,DGet.k (k:=.inr "keepers") hM.top,a2,_,rfl,.inl (SqL.of hks),?_⟩
   rw [List.length_map]
   refine ⟨_,rfl,by omega,by omega,fun p gs H1 s1 hp hp1 hgs=>?_⟩
   rw [show ((ks.length : Int)).toNat = M.keepers.length by omega] at hgs
   have hgl:=hgs.length
   have hrl:=ris_len M.keepers.length
   have h64 : 2 ^ M.keepers.length ≤ 2 ^ 4:=Nat.pow_le_pow_right (by decide) k4
   have hre:=ris_each M.keepers.length
   have ew : withinF M F = (risL M.keepers.length).filter fun cs=>F.all fun ls=>keepsP M ls cs:=rfl
   rw [ew] at kk
   generalize risL M.keepers.length = rows at hgs hgl hrl hre kk
   refine ⟨_,rfl,p,rfl,⟨_,SqL.of hp1⟩,fun D hD=>?_⟩
   refine lc_by rows.length (fun j acc σ H4=>(∃ us : List Addr,acc = us.map V.ref ∧ RowsH H4 us ((rows.take j).filter fun cs=>F.all fun ls=>keepsP M ls cs) ∧ us.length ≤ j) ∧ (∃ u,σ = [u,some (.ref m),some (.ref fc)]) ∧ Same H1 H4) ⟨⟨[],rfl,.nil,Nat.le_refl _⟩,⟨none,rfl⟩,Same.upd_new hD⟩ upd_same ?_ ?_
   · rintro acc σ H4 hDD ⟨⟨us,rfl,hus,_⟩,_,s4⟩
     rw [List.take_length] at hus
     exact ⟨⟨_,SqL.of (s4 _ _ hp1),by rw [List.length_map,hgl]; exact Nat.le_refl _⟩,kk D us H4 (s1.trans s4) (s1.free hD) hDD hus⟩
   · rintro j acc σ H4 hj hDD ⟨⟨us,rfl,hus,hul⟩,⟨u,rfl⟩,s4⟩
     have hrj : rows[j]? = some rows[j]:=List.getElem?_eq_getElem hj
     obtain ⟨t,ht,hT⟩:=paired_at hgs (i:=j) hrj
     have ej : (gs.map V.ref)[j]? = some (.ref t):=by rw [List.getElem?_map,ht]; rfl
     refine ⟨⟨_,_,SqL.of (s4 _ _ hp1),ej⟩,?_⟩
     rintro x' H' ⟨rfl,hall⟩
     have ex:=hall _ (SqL.of (s4 _ _ hp1))
     rw [ej] at ex
     cases ex
     have hcl:=hre _ (List.getElem_mem hj)
     have hflt:=filter_take (p:=fun cs=>F.all fun ls=>keepsP M ls cs) hrj
     generalize rows[j] = cs at hT hcl hflt
     have s14:=s1.trans s4
     have hT4:=s4 _ _ hT
     refine ⟨_,rfl,fc,rfl,⟨_,SqL.of (s14 _ _ hF.at_)⟩,fun D2 hD2=>?_⟩
     refine lc_keeps (K:=K) hD2 (hM.same s14) hm (hF.same s14) hok hFl (TupI.k hT4) (by omega) fun H5 s5 hD5=>?_
     refine ⟨D2,_,rfl,SqL.of hD5,?_⟩
     rw [map_all]
     refine ⟨_,rfl,ite2 (fun h=>?_) (fun h=>?_)⟩
     · rw [if_pos h] at hflt
       refine ⟨_,rfl,_,s5 _ _ hDD,(by rw [List.length_map]; exact small (by omega)),lcW_next hj upd_same ⟨⟨us ++ [t],by rw [List.map_append]; rfl,?_,by rw [List.length_append,List.length_singleton]; omega⟩,⟨_,rfl⟩,fun y o hy=>?_⟩⟩
       · rw [hflt]
         have nt : ∀ {b : Addr} {xs : List V},H5 b = some (.tup xs) → b ≠ D:=fun hb=>ne_of hb (s5 _ _ hDD) (by intro z; cases z)
         exact paired_append (Paired.mapP hus fun c d e=>by have:=s5 _ _ e; rw [upd_ne (nt this)]; exact this) (.cons (by have:=s5 _ _ hT4; rw [upd_ne (nt this)]; exact this) .nil)
       · rw [upd_ne (ne_of_none hy hD)]
         exact s5 _ _ (s4 y o hy)
     · rw [if_neg h,List.append_nil] at hflt
       exact lcW_next hj (s5 _ _ hDD) ⟨⟨us,rfl,by rw [hflt]; exact hus.same s5,by omega⟩,⟨_,rfl⟩,s4.trans s5⟩
theorem ok_ways {f fA fW fN : Addr} {fd dA dW dN : FuncData} (F : Fun K "_law_ways" "_law_ways" sWays f fd) (O2 : Own2 mg)
 (gA : FnOk P w K mg base CX0 1 fA dA ["_law_many"] (spAllB K)) (mA : mg "_law_all_bits" = some (.ref fA)) (kA : PySem.W.keepIn K (.ref fA) = true) (bA : Binds K dA ["_law_many"] [])
 (gW : FnOk P w K mg base CX0 3 fW dW ["_law_m", "_law_fence"] (spWithin K)) (mW : mg "_law_within" = some (.ref fW)) (kW : PySem.W.keepIn K (.ref fW) = true) (bW : Binds K dW ["_law_m", "_law_fence"] [])
 (gN : FnOk P w K mg base CX0 3 fN dN pVs (spNext K)) (mN : mg "_law_next" = some (.ref fN)) (kN : PySem.W.keepIn K (.ref fN) = true) (bN : Binds K dN pVs []) : FnOk P w K mg base CX0 4 f fd ["_law_m", "_law_fence"] (spWays K):=by
 refine F.ok scWy (fun vs H Q E h=>?_) (fun cdv A outer s H vs Q E hr h=>?_)
 · obtain ⟨m,a1,a2,a3,a4,a5,a6,fc,M,names,F,ps,rfl,_⟩:=h
   rfl
 · obtain ⟨m,a1,a2,a3,a4,a5,a6,fc,M,names,F,ps,rfl,hM,hm,k4,w3,hF,hok,hFl,kk⟩:=h
   have hu:=hu_of hr
   have hr1 : Room 1 _:=hr.mono (by decide)
   refine ⟨_,pss_cons (ps_set (i:=2) scWy.nd rfl (Or.inl rfl) (pe_lst pa_nil))
    (pss_cons (ps_for PassesOwn.never rfl (pi_list (pe_call gW hr rfl mW kW bW .nil pass0 (pa_cons (pv 0) (pa_cons (pv 1) pa_nil)))) (pg_name (i:=3) scWy.nd rfl (Or.inr rfl))
     (pss_one (ps_set (i:=2) scWy.nd rfl (Or.inl rfl) (pe_op op_cat (pv 2) (pe_lc (N:=["_law_told", "_law_stand", "_law_m"]) (js:=[none,some 3,some 0]) (by kernel_rfl) rfl (pi_list (pe_call gA hr1 rfl mA kA bA .nil pass0 (pa_cons (pe_callB call_len_seq (by rfl) O2.len PySem.boot_len (pa_cons (pe_dget hu (pv 0) pe_str (fun _ _=>rfl)) pa_nil)) pa_nil))) (fun _ _ _ _ _ _=>pg_name (i:=0) ndTSM rfl (Or.inl rfl) (.inr rfl)) (fun _ _ _ _ _ _=>pifs_nil)
      (fun _ _ _ _ _ _=>pe_tup (pa_cons (pv 1) (pa_cons (pv 0) (pa_cons (pe_call gN hr (by rfl) mN kN bN .nil pass0 (pa_cons (pv 2) (pa_cons (pv 1) (pa_cons (pv 0) pa_nil)))) pa_nil)))))))))
    (pss_one (ps_ret (pv 2)))),?_⟩
   refine ⟨(by show 0 ≤ sizeLine; decide),fun q hq=>?_⟩
   have t0 : Same H (upd H q (.lst [])):=Same.upd_new hq
   have q0 : (upd H q (.lst [])) q = some (.lst (([] : List Addr).map V.ref)):=upd_same
   generalize upd H q (.lst []) = H0 at t0 q0 ⊢
   refine ⟨_,rfl,_,rfl,m,a1,a2,a3,a4,a5,a6,fc,M,names,F,ps,rfl,hM.same t0,hm,k4,hF.same t0,hok,hFl,fun p us H1 s1 hp hp1 hus=>?_⟩
   have hul:=hus.length
   have hrl:=ris_len M.keepers.length
   have h64 : 2 ^ M.keepers.length ≤ 2 ^ 4:=Nat.pow_le_pow_right (by decide) k4
   have hwl : (withinF M F).length ≤ 16:=by
    unfold withinF
    refine Nat.le_trans (List.length_filter_le _ _) ?_
    omega
   have hbit : ∀ cs ∈ withinF M F,BitsN M.keepers.length cs:=fun cs h=>ris_bits _ _ (List.mem_filter.mp h).1
   have ewy : waysF M F = (withinF M F).flatMap fun cs=>(risL M.switches.length).map fun bs=>(cs,bs):=rfl
   rw [ewy] at kk
   generalize withinF M F = rows at hus hul hwl hbit kk
   have s01:=t0.trans s1
   have hsl:=ris_len M.switches.length
   have h8 : 2 ^ M.switches.length ≤ 2 ^ 3:=Nat.pow_le_pow_right (by decide) w3
   refine ⟨p,rfl,⟨_,SqL.of hp1⟩,for_list (K:=K) (a:=p) (xs:=us.map V.ref) (fun i σ Hi=>∃ (q : Addr) (ws : List Addr) (v3 : Option V),σ = [some (.ref m),some (.ref fc),some (.ref q),v3] ∧ Hi q = some (.lst (ws.map V.ref)) ∧ H q = none ∧ Paired (WayAt M Hi) ws ((rows.take i).flatMap fun cs=>(risL M.switches.length).map fun bs=>(cs,bs)) ∧ ws.length ≤ 8 * i ∧ Same H1 Hi) ?_ ?_ ?_ ?_⟩
   · exact ⟨q,[],none,rfl,s1 _ _ q0,hq,.nil,Nat.zero_le _,fun _ _ h=>h⟩
   · rintro i σ Hi _ ⟨_,_,_,_,_,_,_,_,si⟩
     exact SqL.of (si _ _ hp1)
   · rintro i xv σ Hi hx ⟨q',ws,v3,rfl,hq',hqn,hws,hwsl,si⟩
     have hi : i < rows.length:=by
      have:=(List.getElem?_eq_some_iff.mp hx).1
      rw [List.length_map] at this
      omega
     have hri : rows[i]? = some rows[i]:=List.getElem?_eq_getElem hi
     obtain ⟨t,ht,hT⟩:=paired_at hus (i:=i) hri
     have ex : xv = .ref t:=by
      rw [List.getElem?_map,ht] at hx
      exact (Option.some.inj hx).symm
     subst ex
     have hcb:=hbit _ (List.getElem_mem hi)
     have htk : (rows.take (i + 1)).flatMap (fun cs=>(risL M.switches.length).map fun bs=>(cs,bs)) = (rows.take i).flatMap (fun cs=>(risL M.switches.length).map fun bs=>(cs,bs)) ++ (risL M.switches.length).map fun bs=>(rows[i],bs):=by
      rw [List.take_succ,hri,List.flatMap_append]
      simp
     generalize rows[i] = cs at hT hcb htk
     have s0i:=s01.trans si
     have hMi:=hM.same s0i
     refine ⟨_,rfl,_,rfl,m,.ref a1,rfl,DGet.k (k:=.inr "switches") hMi.top,a1,_,rfl,.inl (SqL.of hMi.sw),?_⟩
     rw [List.length_map]
     refine ⟨_,rfl,by omega,by omega,fun b gs H2 s2 hb hb2 hgs=>?_⟩
     rw [show ((M.switches.length : Int)).toNat = M.switches.length by omega] at hgs
     have hgl:=hgs.length
     have hsb:=ris_bits M.switches.length
     refine ⟨b,rfl,⟨_,SqL.of hb2⟩,fun D hD=>?_⟩
     generalize risL M.switches.length = rl at hgs hgl hsl htk hsb hws
     refine lc_by rl.length (fun j acc σ' H4=>(∃ vs : List Addr,acc = vs.map V.ref ∧ Paired (WayAt M H4) vs ((rl.take j).map fun bs=>(cs,bs)) ∧ vs.length = j) ∧ (∃ u,σ' = [u,some (.ref t),some (.ref m)]) ∧ Same H2 H4) ⟨⟨[],rfl,.nil,rfl⟩,⟨none,rfl⟩,Same.upd_new hD⟩ upd_same ?_ ?_
     · rintro acc σ' H4 hDD ⟨⟨vs,rfl,hvs,hvl⟩,_,s4⟩
       rw [List.take_length] at hvs
       have s24:=s2.trans s4
       refine ⟨⟨_,SqL.of (s4 _ _ hb2),by rw [List.length_map,hgl]; exact Nat.le_refl _⟩,?_⟩
       refine ⟨q',D,_,_,rfl,rfl,s24 _ _ hq',hDD,(by rw [List.length_map,List.length_map]; exact small' (by omega)),fun c hc=>?_⟩
       have t5 : Same H4 (upd H4 c (.lst (ws.map V.ref ++ vs.map V.ref))):=Same.upd_new hc
       refine ⟨c,ws ++ vs,_,rfl,by rw [upd_same,List.map_append],s0i.free (s24.free hc),?_,by rw [List.length_append]; omega,si.trans (s24.trans t5)⟩
       rw [htk]
       exact paired_append (Paired.mapP hws fun _ _ e=>WayAt.same e (s24.trans t5)) (Paired.mapP hvs fun _ _ e=>WayAt.same e t5)
     · rintro j acc σ' H4 hj hDD ⟨⟨vs,rfl,hvs,hvl⟩,⟨u,rfl⟩,s4⟩
       have hrj : rl[j]? = some rl[j]:=List.getElem?_eq_getElem hj
       obtain ⟨g,hg,hG⟩:=paired_at hgs (i:=j) hrj
       have ej : (gs.map V.ref)[j]? = some (.ref g):=by rw [List.getElem?_map,hg]; rfl
       refine ⟨⟨_,_,SqL.of (s4 _ _ hb2),ej⟩,?_⟩
       rintro x' H' ⟨rfl,hall⟩
       have ex:=hall _ (SqL.of (s4 _ _ hb2))
       rw [ej] at ex
       cases ex
       refine gName_yes ?_
       have hbj:=hsb _ (List.getElem_mem hj)
       have htj : (rl.take (j + 1)).map (fun bs=>(cs,bs)) = (rl.take j).map (fun bs=>(cs,bs)) ++ [(cs,rl[j])]:=by rw [List.take_succ,hrj,List.map_append]; rfl
       generalize rl[j] = bs at hG hbj htj
       have s24:=s2.trans s4
       have hT4:=s24 _ _ (si _ _ hT)
       have hG4:=s4 _ _ hG
       refine ⟨_,rfl,_,rfl,_,rfl,_,rfl,_,rfl,m,a1,a2,a3,a4,a5,a6,t,g,M,names,bs,cs,rfl,hM.same (s0i.trans s24),hm.fit hbj hcb,TupI.k hT4,TupI.k hG4,fun n H5 hn s5 hn5=>?_⟩
       refine ⟨(by show 3 ≤ sizeLine; decide),fun W hW=>?_⟩
       have s6 : Same H5 (upd H5 W (.tup [.ref t,.ref g,.ref n])):=Same.upd_new hW
       have q6 : (upd H5 W (.tup [.ref t,.ref g,.ref n])) W = some (.tup [.ref t,.ref g,.ref n]):=upd_same
       generalize upd H5 W (.tup [.ref t,.ref g,.ref n]) = H6 at s6 q6 ⊢
       have s46:=s5.trans s6
       have hD6:=s46 _ _ hDD
       have kp : ∀ b o,H6 b = some o → (∀ l,o ≠ .lst l) → (upd H6 D (.lst (vs.map V.ref ++ [.ref W]))) b = some o:=fun b o hb hn=>by rw [upd_ne (ne_of hb hD6 (hn _))]; exact hb
       have kw : ∀ {v : Addr} {r : List Int × List Int},WayAt M H6 v r → WayAt M (upd H6 D (.lst (vs.map V.ref ++ [.ref W]))) v r:=fun {v r} ⟨a,b,c,h1,h2,h3,h4⟩=>⟨a,b,c,kp _ _ h1 (by intro _ z; cases z),kp _ _ h2 (by intro _ z; cases z),kp _ _ h3 (by intro _ z; cases z),kp _ _ h4 (by intro _ z; cases z)⟩
       refine ⟨_,hD6,(by rw [List.length_map]; exact small (by omega)),lcW_next hj upd_same ⟨⟨vs ++ [W],by rw [List.map_append]; rfl,?_,by rw [List.length_append,List.length_singleton,hvl]⟩,⟨_,rfl⟩,fun y o hy=>?_⟩⟩
       · rw [htj]
         exact paired_append (Paired.mapP hvs fun _ _ e=>kw (WayAt.same e s46)) (.cons (kw ⟨t,g,n,q6,s46 _ _ hT4,s46 _ _ hG4,s6 _ _ hn5⟩) .nil)
       · rw [upd_ne (ne_of_none hy hD)]
         exact s46 _ _ (s4 y o hy)
   · rintro σ Hi ⟨q',ws,v3,rfl,hq',hqn,hws,hwsl,si⟩
     rw [List.length_map,hul,List.take_length] at hws
     exact ⟨_,rfl,kk q' ws Hi (s01.trans si) hqn hq' hws⟩
end
end Gen
namespace Gen
open PySem L2
abbrev sRings : Stmt:=top 19
def toK (cs : List Int) : List Key:=cs.map Sum.inl
theorem toK_kV (cs : List Int) : (toK cs).map kV = cs.map V.int:=by unfold toK; rw [List.map_map]; rfl
theorem toK_inj : ∀ {a b : List Int},toK a = toK b → a = b
 | [],[],_=>rfl
 | [],_ :: _,h=>nomatch h
 | _ :: _,[],h=>nomatch h
 | x :: a,y :: b,h=>by
  have h1:=List.cons.inj h
  rw [Sum.inl.inj h1.1,toK_inj h1.2]
theorem mem_ris : ∀ (k : Nat) (c : List Int),BitsN k c → c ∈ risL k
 | 0,c,h=>by
  have : c = []:=List.length_eq_zero_iff.mp h.1.symm
  rw [this]
  exact List.mem_singleton.mpr rfl
 | k + 1,c,h=>by
  obtain ⟨g,b,rfl⟩ : ∃ g b,c = g ++ [b]:=by
   have hne : c ≠ []:=fun e=>by have:=h.1; rw [e] at this; cases this
   exact ⟨c.dropLast,c.getLast hne,(List.dropLast_concat_getLast hne).symm⟩
  have hg : BitsN k g:=⟨by have:=h.1; rw [List.length_append,List.length_singleton] at this; omega,fun x hx=>h.2 x (List.mem_append_left _ hx)⟩
  rw [risL]
  refine List.mem_flatMap.mpr ⟨g,mem_ris k g hg,?_⟩
  rcases h.2 b (List.mem_append_right _ (List.mem_singleton.mpr rfl)) with rfl | rfl <;> simp
theorem ris_nd : ∀ k ∈ [0,1,2,3,4],(risL k).Nodup:=by decide +kernel
structure Rg (n : Nat) (kvs : List (List Key × V)) (L : List (List Int)) : Prop where
 keys : kvs.map (·.1) = L.map toK
 vals : ∀ kv ∈ kvs,∃ i : Int,kv.2 = .int i
 bits : ∀ cs ∈ L,BitsN n cs
 nd : L.Nodup
section
variable {n : Nat} {kvs : List (List Key × V)} {L : List (List Int)} {cs : List Int}
theorem Rg.any (h : Rg n kvs L) : (kvs.any fun kv=>decide (kv.1 = toK cs)) = decide (cs ∈ L):=by
 rw [Bool.eq_iff_iff,List.any_eq_true,decide_eq_true_eq]
 constructor
 · rintro ⟨kv,hkv,e⟩
   have : kv.1 ∈ L.map toK:=by rw [← h.keys]; exact List.mem_map.mpr ⟨kv,hkv,rfl⟩
   obtain ⟨c,hc,ec⟩:=List.mem_map.mp this
   rw [← toK_inj (ec.trans (of_decide_eq_true e))]
   exact hc
 · intro hc
   have : toK cs ∈ kvs.map (·.1):=by rw [h.keys]; exact List.mem_map.mpr ⟨cs,hc,rfl⟩
   obtain ⟨kv,hkv,e⟩:=List.mem_map.mp this
   exact ⟨kv,hkv,decide_eq_true e⟩
theorem Rg.some (h : Rg n kvs L) : (valV kvs (toK cs)).isSome = decide (cs ∈ L):=by rw [← valV_any,h.any]
theorem Rg.val (h : Rg n kvs L) (hc : cs ∈ L) : ∃ i : Int,valV kvs (toK cs) = .some (.int i):=by
 have e:=h.some (cs:=cs)
 rw [decide_eq_true hc] at e
 obtain ⟨v,hv⟩:=Option.isSome_iff_exists.mp e
 unfold valV at hv
 obtain ⟨kv,e1,e2⟩:=Option.map_eq_some_iff.mp hv
 obtain ⟨i,hi⟩:=h.vals kv (List.mem_of_find?_eq_some e1)
 refine ⟨i,?_⟩
 unfold valV
 rw [e1]
 show Option.some kv.2 = _
 rw [hi]
theorem Rg.put (h : Rg n kvs L) (hc : cs ∉ L) (hb : BitsN n cs) (i : Int) : Rg n (putK kvs (toK cs) (.int i)) (L ++ [cs]):=by
 have e : putK kvs (toK cs) (.int i) = kvs ++ [(toK cs,.int i)]:=by
  unfold putK
  rw [h.any,decide_eq_false hc]
  rfl
 rw [e]
 refine ⟨by rw [List.map_append,List.map_append,h.keys]; rfl,fun kv hkv=>?_,fun c hc'=>?_,nodup_snoc h.nd hc⟩
 · rcases List.mem_append.mp hkv with hkv | hkv
   · exact h.vals kv hkv
   · rw [List.mem_singleton.mp hkv]; exact ⟨i,rfl⟩
 · rcases List.mem_append.mp hc' with hc' | hc'
   · exact h.bits c hc'
   · rw [List.mem_singleton.mp hc']; exact hb
theorem Rg.len (h : Rg n kvs L) : kvs.length = L.length:=by
 have:=congrArg List.length h.keys
 rwa [List.length_map,List.length_map] at this
theorem Rg.le (h : Rg n kvs L) : L.length ≤ 2 ^ n:=by
 rw [← ris_len n]
 exact nodup_le L _ h.nd fun c hc=>mem_ris n c (h.bits c hc)
end
theorem Rg.first {n : Nat} : ∀ {L : List (List Int)},L.Nodup → (∀ cs ∈ L,BitsN n cs) → Rg n (mergeT [] (L.map fun cs=>(toK cs,V.int 0))) L:=by
 have gen : ∀ (L A : List (List Int)) (kvs : List (List Key × V)),Rg n kvs A → (A ++ L).Nodup → (∀ cs ∈ L,BitsN n cs) → Rg n (mergeT kvs (L.map fun cs=>(toK cs,V.int 0))) (A ++ L):=by
  intro L
  induction L with
  | nil=>intro A kvs h _ _; rw [List.append_nil]; exact h
  | cons c L ih =>
   intro A kvs h nd hb
   have hc : c ∉ A:=fun hm=>(List.nodup_append.mp nd).2.2 c hm c List.mem_cons_self rfl
   have:=ih (A ++ [c]) _ (h.put hc (hb c List.mem_cons_self) 0) (by rw [List.append_assoc]; exact nd) fun x hx=>hb x (List.mem_cons_of_mem _ hx)
   rw [List.append_assoc] at this
   exact this
 intro L nd hb
 exact gen L [] [] ⟨rfl,(fun _ h=>nomatch h),(fun _ h=>nomatch h),List.nodup_nil⟩ (by rw [List.nil_append]; exact nd) hb
def spRings (K : PySem.W.Frag) : Sp:=fun vs H Q _=>∃ (m a1 a2 a3 a4 a5 a6 : Addr) (M : Mach) (names : List Str),vs = [.ref m] ∧ MachAt H m M a1 a2 a3 a4 a5 a6 ∧ Fm M names ∧ M.keepers.length ≤ 4 ∧ M.switches.length ≤ 3 ∧
 ∀ d kvs L H',Same H H' → H d = none → H' d = some (.dT kvs) → Rg M.keepers.length kvs L → Q (.ref d) H'
abbrev nRg : List Str:=["_law_m", "_law_told", "_law_found", "_law_row", "_law_further", "_law_stand", "_law_one", "_law_behind"]
theorem iteF' {b : Bool} {A B : Prop} (h : b = false) (k : B) : if b = true then A else B:=by rw [h]; exact iteF k
theorem iteT' {b : Bool} {A B : Prop} (h : b = true) (k : A) : if b = true then A else B:=by rw [h]; exact iteT k
theorem ndSt : (["_law_stand"] : List Str).Nodup:=by decide +kernel
section
variable {P : Program} {w : World} {K : PySem.W.Frag} {mg : Str → Option Value} {base : Heap}
theorem scRg : FnScope nRg ["_law_m"] (defScope sRings):=⟨rfl,rfl,rfl,by decide +kernel,rfl,by decide +kernel,by decide +kernel⟩
theorem ok_rings {f fA fF fN : Addr} {fd dA dF dN : FuncData} (F : Fun K "_law_rings" "_law_rings" sRings f fd) (O2 : Own2 mg)
 (gA : FnOk P w K mg base CX0 1 fA dA ["_law_many"] (spAllB K)) (mA : mg "_law_all_bits" = some (.ref fA)) (kA : PySem.W.keepIn K (.ref fA) = true) (bA : Binds K dA ["_law_many"] [])
 (gF : FnOk P w K mg base CX0 2 fF dF ["_law_m"] (spFirsts K)) (mF : mg "_law_firsts" = some (.ref fF)) (kF : PySem.W.keepIn K (.ref fF) = true) (bF : Binds K dF ["_law_m"] [])
 (gN : FnOk P w K mg base CX0 3 fN dN pVs (spNext K)) (mN : mg "_law_next" = some (.ref fN)) (kN : PySem.W.keepIn K (.ref fN) = true) (bN : Binds K dN pVs []) : FnOk P w K mg base CX0 4 f fd ["_law_m"] (spRings K):=by
 refine F.ok scRg (fun vs H Q E h=>?_) (fun cdv A outer s H vs Q E hr h=>?_)
 · obtain ⟨m,a1,a2,a3,a4,a5,a6,M,names,rfl,_⟩:=h
   rfl
 · obtain ⟨m,a1,a2,a3,a4,a5,a6,M,names,rfl,hM,hm,k4,w3,kk⟩:=h
   have hu:=hu_of hr
   have hu4:=Nat.lt_of_le_of_lt (Nat.add_le_add_left (by decide : 4 ≤ 64) _) hr.units
   have hr1 : Room 1 _:=hr.mono (by decide)
   have hr2 : Room 2 _:=hr.mono (by decide)
   refine ⟨_,pss_cons (ps_set (i:=1) scRg.nd rfl (Or.inl rfl) (pe_call gA hr1 rfl mA kA bA .nil pass0 (pa_cons (pe_callB call_len_seq (by rfl) O2.len PySem.boot_len (pa_cons (pe_dget hu (pv 0) pe_str (fun _ _=>rfl)) pa_nil)) pa_nil)))
    (pss_cons (ps_set (i:=2) scRg.nd rfl (Or.inl rfl) (pe_callTy (call_dict_pairsT rfl hu4) (by rfl) O2.dict PyProof.Rows.boot_dict (pa_cons (pe_lc (N:=["_law_stand"]) (js:=[none]) (by kernel_rfl) rfl (pi_list (pe_call gF hr2 rfl mF kF bF .nil pass0 (pa_cons (pv 0) pa_nil))) (fun _ _ _ _ _ _=>pg_name (i:=0) ndSt rfl (Or.inl rfl) (.inr rfl)) (fun _ _ _ _ _ _=>pifs_nil)
     (fun _ _ _ _ _ _=>pe_tup (pa_cons (pv 0) (pa_cons pe_int pa_nil)))) pa_nil)))
    (pss_cons (ps_set (i:=3) scRg.nd rfl (Or.inl rfl) (pe_callTy (call_list_dT rfl) (by rfl) O2.list PyProof.Rows.boot_list (pa_cons (pv 2) pa_nil)))
    (pss_cons (ps_while PassesOwn.never (pt_cmpR (op_neE (Nat.lt_of_succ_lt hu)) (pv 3) (pe_lst pa_nil) (nomark _))
     (pss_cons (ps_set (i:=4) scRg.nd rfl (Or.inl rfl) (pe_lst pa_nil))
     (pss_cons (ps_for PassesOwn.never rfl (pi_list (pv 3)) (pg_name (i:=5) scRg.nd rfl (Or.inl rfl))
      (pss_one (ps_for PassesOwn.never rfl (pi_list (pv 1)) (pg_name (i:=6) scRg.nd rfl (Or.inl rfl))
       (pss_cons (ps_set (i:=7) scRg.nd rfl (Or.inl rfl) (pe_call gN hr rfl mN kN bN .nil pass0 (pa_cons (pv 0) (pa_cons (pv 5) (pa_cons (pv 6) pa_nil)))))
       (pss_one (ps_if (pt_cmp (pc_dnotin hu (pv 7) (pv 2)) (by with_unfolding_all rfl))
        (pss_cons (ps_dput hu (pv 2) (pv 7) (pe_op op_add (pe_dget hu (pv 2) (pv 5) (fun _ _=>rfl)) pe_int) rfl)
        (pss_one (ps_expr (pe_bm PySem.F.plainAttrs_list PySem.F.slot_list_append PySem.F.type_list_append mt_append (pv 4) (pa_cons (pv 7) pa_nil))))) pss_nil))))))
     (pss_one (ps_set (i:=3) scRg.nd rfl (Or.inl rfl) (pv 4))))))
    (pss_one (ps_ret (pv 2)))))),?_⟩
   refine ⟨_,rfl,m,.ref a1,rfl,DGet.k (k:=.inr "switches") hM.top,a1,_,rfl,.inl (SqL.of hM.sw),?_⟩
   rw [List.length_map]
   refine ⟨_,rfl,by omega,by omega,fun tl gs H1 s1 htl htl1 hgs=>?_⟩
   rw [show ((M.switches.length : Int)).toNat = M.switches.length by omega] at hgs
   have hgl:=hgs.length
   have hsb:=ris_bits M.switches.length
   generalize risL M.switches.length = tls at hgs hgl hsb
   refine ⟨_,rfl,m,a1,a2,a3,a4,a5,a6,M,rfl,hM.same s1,by omega,hm.ok.first,fun p us H2 s2 hp hp2 hus=>?_⟩
   have hul:=hus.length
   have fnd : ((risL M.keepers.length).filter (okF (M.keepers.map (·.2)))).Nodup:=List.Nodup.sublist List.filter_sublist (ris_nd M.keepers.length (by
    rcases (show M.keepers.length = 0 ∨ M.keepers.length = 1 ∨ M.keepers.length = 2 ∨ M.keepers.length = 3 ∨ M.keepers.length = 4 by omega) with e | e | e | e | e <;> rw [e] <;> simp))
   have fbt : ∀ cs ∈ (risL M.keepers.length).filter (okF (M.keepers.map (·.2))),BitsN M.keepers.length cs:=fun cs h=>ris_bits _ _ (List.mem_filter.mp h).1
   have fle : ((risL M.keepers.length).filter (okF (M.keepers.map (·.2)))).length ≤ 16:=by
    refine Nat.le_trans (List.length_filter_le _ _) ?_
    rw [ris_len]
    have : 2 ^ M.keepers.length ≤ 2 ^ 4:=Nat.pow_le_pow_right (by decide) k4
    omega
   generalize (risL M.keepers.length).filter (okF (M.keepers.map (·.2))) = fs at hus hul fnd fbt fle
   have s12:=s1.trans s2
   refine ⟨p,rfl,⟨_,SqL.of hp2⟩,fun D hD=>?_⟩
   refine lc_by fs.length (fun j acc σ H4=>(∃ vs : List Addr,acc = vs.map V.ref ∧ Paired (fun t (kv : List Key × V)=>∃ b,H4 t = some (.tup [.ref b,kv.2]) ∧ H4 b = some (.tup (kv.1.map kV))) vs ((fs.take j).map fun cs=>(toK cs,V.int 0)) ∧ vs.length = j) ∧ (∃ u,σ = [u]) ∧ Same H2 H4) ⟨⟨[],rfl,.nil,rfl⟩,⟨none,rfl⟩,Same.upd_new hD⟩ upd_same ?_ ?_
   · rintro acc σ H4 hDD ⟨⟨vs,rfl,hvs,hvl⟩,_,s4⟩
     rw [List.take_length] at hvs
     refine ⟨⟨_,SqL.of (s4 _ _ hp2),by rw [List.length_map,hul]; exact Nat.le_refl _⟩,D,vs,_,rfl,hDD,hvs,fun d hd=>?_⟩
     have hR:=Rg.first fnd fbt
     have hRl:=hR.len
     generalize mergeT [] (fs.map fun cs=>(toK cs,V.int 0)) = kvs at hR hRl
     have s5 : Same H4 (upd H4 d (.dT kvs)):=Same.upd_new hd
     have q5 : (upd H4 d (.dT kvs)) d = some (.dT kvs):=upd_same
     have hd0 : H d = none:=s12.free (s4.free hd)
     have s25:=s4.trans s5
     generalize upd H4 d (.dT kvs) = H5 at s5 q5 s25 ⊢
     refine ⟨_,rfl,d,kvs,rfl,.inl q5,fun rw0 ts hrw hts=>?_⟩
     have s6 : Same H5 (upd H5 rw0 (.lst (ts.map V.ref))):=Same.upd_new hrw
     have q6 : (upd H5 rw0 (.lst (ts.map V.ref))) rw0 = some (.lst (ts.map V.ref)):=upd_same
     have hrw0 : H rw0 = none:=s12.free (s25.free hrw)
     have ndr : rw0 ≠ d:=fun e=>by rw [e,q5] at hrw; cases hrw
     generalize upd H5 rw0 (.lst (ts.map V.ref)) = H6 at s6 q6 ⊢
     have s06:=s12.trans (s25.trans s6)
     have hts6 : Paired (fun t cs=>TupI H6 t cs ∧ cs ∈ fs) ts fs:=by
      have h1 : Paired (fun t k=>H5 t = some (.tup (k.map kV))) ts (kvs.map (·.1)):=by
       clear hR hRl q5 hd q6 s6
       induction hts with
       | nil=>exact .nil
       | cons h _ ih=>exact .cons h ih
      rw [hR.keys] at h1
      have h2 : Paired (fun t cs=>TupI H6 t cs) ts fs:=by
       clear hR hRl hts fnd fbt fle hus hul hvs
       have gen : ∀ {ts : List Addr} {L : List (List Int)},Paired (fun t k=>H5 t = some (.tup (k.map kV))) ts (L.map toK) → Paired (fun t cs=>TupI H6 t cs) ts L:=by
        intro ts L
        induction L generalizing ts with
        | nil=>intro h; cases h; exact .nil
        | cons c L ih =>
         intro h
         cases h with
         | cons a b=>exact .cons (by have:=s6 _ _ a; rw [toK_kV] at this; exact this) (ih b)
       exact gen h1
      have gen2 : ∀ {ts : List Addr} {L : List (List Int)},Paired (fun t cs=>TupI H6 t cs) ts L → (∀ c ∈ L,c ∈ fs) → Paired (fun t cs=>TupI H6 t cs ∧ cs ∈ fs) ts L:=by
       intro ts L h
       induction h with
       | nil=>exact fun _=>.nil
       | cons a b ih=>exact fun hc=>.cons ⟨a,hc _ List.mem_cons_self⟩ (ih fun c h=>hc c (List.mem_cons_of_mem _ h))
      exact gen2 h2 fun _ h=>h
     refine ⟨fun μ σ Hx=>∃ (kvs : List (List Key × V)) (L rows : List (List Int)) (rw' : Addr) (ts : List Addr) (v4 v5 v6 v7 : Option V),σ = [some (.ref m),some (.ref tl),some (.ref d),some (.ref rw'),v4,v5,v6,v7] ∧ Hx d = some (.dT kvs) ∧ Rg M.keepers.length kvs L ∧ Hx rw' = some (.lst (ts.map V.ref)) ∧ Paired (fun t cs=>TupI Hx t cs ∧ cs ∈ L) ts rows ∧ Same H Hx ∧ (Hx tl = some (.lst (gs.map V.ref)) ∧ RowsH Hx gs tls) ∧ μ = 2 * (16 - L.length) + (if ts = [] then 0 else 1),
      ⟨_,kvs,fs,fs,rw0,ts,none,none,none,none,rfl,s6 _ _ q5,hR,q6,hts6,s06,⟨(s2.trans (s25.trans s6)) _ _ htl1,RowsH.same hgs (s2.trans (s25.trans s6))⟩,rfl⟩,?_⟩
     clear hR hRl hvs hvl hDD hd q5 q6 s5 s6 s25 s06 hts hts6 hrw ndr s4 hus hul fnd fbt fle hp2 s2 s12 hgs htl1 s1
     rintro μ σ Hx ⟨kvs,L,rows,rw',ts,v4,v5,v6,v7,rfl,hd,hR,hrw,hts,sx,⟨htlx,hgx⟩,rfl⟩
     refine ⟨_,rfl,(by show 0 ≤ sizeLine; decide),fun e he=>?_⟩
     have t1 : Same Hx (upd Hx e (.lst [])):=Same.upd_new he
     have u1 : (upd Hx e (.lst [])) e = some (.lst []):=upd_same
     generalize upd Hx e (.lst []) = H1 at t1 u1 ⊢
     refine ⟨rw',e,_,rfl,rfl,SqL.of (t1 _ _ hrw),SqL.of u1,_,rfl,?_⟩
     cases hts0 : ts with
     | nil =>
      refine iteF' (by rw [if_pos rfl]; rfl) ?_
      exact ⟨_,rfl,kk d kvs L H1 (sx.trans t1) hd0 (t1 _ _ hd) hR⟩
     | cons t0 ts0 =>
      rw [← hts0]
      have hne : ts ≠ []:=by rw [hts0]; intro z; cases z
      have hE : (ts.map V.ref).isEmpty = false:=by rw [hts0]; rfl
      refine iteT' (by rw [if_pos rfl,hE]; rfl) ⟨fun σ' H'=>∃ (kvs' : List (List Key × V)) (L' rows' : List (List Int)) (q : Addr) (ts' : List Addr) (v4 v5 v6 v7 : Option V),σ' = [some (.ref m),some (.ref tl),some (.ref d),some (.ref q),v4,v5,v6,v7] ∧ H' d = some (.dT kvs') ∧ Rg M.keepers.length kvs' L' ∧ H' q = some (.lst (ts'.map V.ref)) ∧ Paired (fun t cs=>TupI H' t cs ∧ cs ∈ L') ts' rows' ∧ Same H H' ∧ (H' tl = some (.lst (gs.map V.ref)) ∧ RowsH H' gs tls) ∧ L'.length = L.length + ts'.length,fun σ' H' ⟨kvs',L',rows',q,ts',v4,v5,v6,v7,e1,e2,e3,e4,e5,e6,e7,e8⟩=>⟨_,?_,kvs',L',rows',q,ts',v4,v5,v6,v7,e1,e2,e3,e4,e5,e6,e7,rfl⟩,?_⟩
      · have hle:=e3.le
        have h16 : 2 ^ M.keepers.length ≤ 2 ^ 4:=Nat.pow_le_pow_right (by decide) k4
        rw [if_neg hne]
        split
        · rename_i h0
          rw [h0,List.length_nil] at e8
          omega
        · rename_i h0
          have : 0 < ts'.length:=List.length_pos_iff.mpr h0
          omega
      · refine ⟨(by show 0 ≤ sizeLine; decide),fun q hq=>?_⟩
        have t2 : Same H1 (upd H1 q (.lst [])):=Same.upd_new hq
        have u2 : (upd H1 q (.lst [])) q = some (.lst (([] : List Addr).map V.ref)):=upd_same
        have hq0 : H q = none:=sx.free (t1.free hq)
        have nqd : d ≠ q:=ne_of_none (t1 _ _ hd) hq
        have nqr : rw' ≠ q:=ne_of_none (t1 _ _ hrw) hq
        have nqt : tl ≠ q:=ne_of_none (t1 _ _ htlx) hq
        have nrd : rw' ≠ d:=ne_of hrw hd (by intro z; cases z)
        have ntd : tl ≠ d:=ne_of htlx hd (by intro z; cases z)
        generalize upd H1 q (.lst []) = H2 at t2 u2 ⊢
        have t12:=t1.trans t2
        have hgsl:=hgx.length
        let Pv : St → Hp → Prop:=fun σ' H'=>∃ (kvs' : List (List Key × V)) (L' rows' : List (List Int)) (ts' : List Addr) (v5 v6 v7 : Option V),σ' = [some (.ref m),some (.ref tl),some (.ref d),some (.ref rw'),some (.ref q),v5,v6,v7] ∧ H' d = some (.dT kvs') ∧ Rg M.keepers.length kvs' L' ∧ H' q = some (.lst (ts'.map V.ref)) ∧ Paired (fun t cs=>TupI H' t cs ∧ cs ∈ L') ts' rows' ∧ (∀ b o,Hx b = some o → b ≠ d → H' b = some o) ∧ L'.length = L.length + ts'.length ∧ (∀ c ∈ L,c ∈ L')
        have rowx : ∀ {H' : Hp},(∀ b o,Hx b = some o → b ≠ d → H' b = some o) → H' rw' = some (.lst (ts.map V.ref)):=fun k=>k _ _ hrw nrd
        have tupx : ∀ {H' : Hp} {t : Addr} {c : List Int},(∀ b o,Hx b = some o → b ≠ d → H' b = some o) → TupI Hx t c → TupI H' t c:=fun k h=>k _ _ h (ne_of h hd (by intro z; cases z))
        have tlx : ∀ {H' : Hp},(∀ b o,Hx b = some o → b ≠ d → H' b = some o) → H' tl = some (.lst (gs.map V.ref)):=fun k=>k _ _ htlx ntd
        have mx : ∀ {H' : Hp},(∀ b o,Hx b = some o → b ≠ d → H' b = some o) → MachAt H' m M a1 a2 a3 a4 a5 a6:=fun {H'} k=>hM.same fun b o hb=>k _ _ (sx _ _ hb) (ne_of_none hb hd0)
        refine ⟨_,rfl,rw',rfl,⟨_,SqL.of (t12 _ _ hrw)⟩,for_list (K:=K) (a:=rw') (xs:=ts.map V.ref) (fun _ σ' H'=>Pv σ' H') ?_ ?_ ?_ ?_⟩
        · exact ⟨kvs,L,[],[],_,_,_,rfl,t12 _ _ hd,hR,u2,.nil,fun b o hb _=>t12 _ _ hb,by simp,fun _ h=>h⟩
        · rintro i σ' H' _ ⟨_,_,_,_,_,_,_,_,_,_,_,_,kx,_,_⟩
          exact SqL.of (rowx kx)
        · rintro i xv σ' H' hx ⟨kvs',L',rows',ts',v5,v6,v7,rfl,hd',hR',hq',hts',kx,hl',hsub⟩
          have hi : i < rows.length:=by
           have:=(List.getElem?_eq_some_iff.mp hx).1
           rw [List.length_map] at this
           have:=hts.length
           omega
          obtain ⟨t,ht,hT,hTL⟩:=paired_at hts (i:=i) (List.getElem?_eq_getElem hi)
          have ex : xv = .ref t:=by
           rw [List.getElem?_map,ht] at hx
           exact (Option.some.inj hx).symm
          subst ex
          generalize rows[i] = cs at hT hTL
          have hcb:=hR.bits cs hTL
          refine ⟨_,rfl,tl,rfl,⟨_,SqL.of (tlx kx)⟩,for_list (K:=K) (a:=tl) (xs:=gs.map V.ref) (fun _ σ' H'=>∃ (kvs' : List (List Key × V)) (L' rows' : List (List Int)) (ts' : List Addr) (v6 v7 : Option V),σ' = [some (.ref m),some (.ref tl),some (.ref d),some (.ref rw'),some (.ref q),some (.ref t),v6,v7] ∧ H' d = some (.dT kvs') ∧ Rg M.keepers.length kvs' L' ∧ H' q = some (.lst (ts'.map V.ref)) ∧ Paired (fun t cs=>TupI H' t cs ∧ cs ∈ L') ts' rows' ∧ (∀ b o,Hx b = some o → b ≠ d → H' b = some o) ∧ L'.length = L.length + ts'.length ∧ (∀ c ∈ L,c ∈ L')) ?_ ?_ ?_ ?_⟩
          · exact ⟨kvs',L',rows',ts',v6,v7,rfl,hd',hR',hq',hts',kx,hl',hsub⟩
          · rintro j σ2 H3 _ ⟨_,_,_,_,_,_,_,_,_,_,_,kx,_,_⟩
            exact SqL.of (tlx kx)
          · clear hd' hR' hq' hts' kx hl' hsub kvs' L' rows' ts' v6 v7 H'
            rintro j yv σ2 H3 hy ⟨kvs',L',rows',ts',v6,v7,rfl,hd',hR',hq',hts',kx,hl',hsub⟩
            have hj : j < tls.length:=by
             have:=(List.getElem?_eq_some_iff.mp hy).1
             rw [List.length_map] at this
             omega
            obtain ⟨g,hg,hG⟩:=paired_at hgx (i:=j) (List.getElem?_eq_getElem hj)
            have ey : yv = .ref g:=by
             rw [List.getElem?_map,hg] at hy
             exact (Option.some.inj hy).symm
            subst ey
            have hbj:=hsb _ (List.getElem_mem hj)
            generalize tls[j] = bs at hG hbj
            have hT3:=tupx kx hT
            refine ⟨_,rfl,_,rfl,_,rfl,m,a1,a2,a3,a4,a5,a6,t,g,M,names,bs,cs,rfl,mx kx,hm.fit hbj hcb,TupI.k hT3,TupI.k (tupx kx hG),fun bh H4 hbh s4 hbh4=>?_⟩
            have hnb:=hm.step hbj hcb
            generalize stepM M bs cs = ns at hbh4 hnb
            have hd4:=s4 _ _ hd'
            have hkey : H4 bh = some (.tup ((toK ns).map kV)):=by rw [toK_kV]; exact hbh4
            refine ⟨_,rfl,_,rfl,d,_,rfl,DGet.t (k:=toK ns) hd4 hkey,_,rfl,?_⟩
            rw [hR'.some]
            have k4' : ∀ b o,Hx b = some o → b ≠ d → H4 b = some o:=fun b o hb hn=>s4 _ _ (kx b o hb hn)
            by_cases hin : ns ∈ L'
            · rw [decide_eq_true hin]
              refine iteF ?_
              exact ⟨kvs',L',rows',ts',_,_,rfl,hd4,hR',s4 _ _ hq',Paired.mapP hts' fun _ _ e=>⟨s4 _ _ e.1,e.2⟩,k4',hl',hsub⟩
            · rw [decide_eq_false hin]
              refine iteT ?_
              obtain ⟨iv,hiv⟩:=hR'.val (hsub cs hTL)
              have hT4 : H4 t = some (.tup ((toK cs).map kV)):=by rw [toK_kV]; exact s4 _ _ hT3
              have hle:=hR'.le
              have h16 : 2 ^ M.keepers.length ≤ 2 ^ 4:=Nat.pow_le_pow_right (by decide) k4
              refine ⟨_,rfl,_,rfl,d,.int iv,rfl,(by rw [← hiv]; exact DGet.t (k:=toK cs) hd4 hT4),_,_,rfl,rfl,_,rfl,_,rfl,d,_,rfl,DPut.t (k:=toK ns) hd4 hkey (by rw [hR'.len]; exact small (by omega)),?_⟩
              have hR5:=hR'.put hin hnb (iv + 1)
              have nbd : ∀ b o,H4 b = some o → (∀ z,o ≠ .dT z) → b ≠ d:=fun b o hb hn=>ne_of hb hd4 (hn _)
              have k5 : ∀ b o,H4 b = some o → b ≠ d → (upd H4 d (.dT (putK kvs' (toK ns) (.int (iv + 1))))) b = some o:=fun b o hb hn=>by rw [upd_ne hn]; exact hb
              have q5' : (upd H4 d (.dT (putK kvs' (toK ns) (.int (iv + 1))))) d = some (.dT (putK kvs' (toK ns) (.int (iv + 1)))):=upd_same
              generalize upd H4 d (.dT (putK kvs' (toK ns) (.int (iv + 1)))) = H5 at k5 q5' ⊢
              have hq5:=k5 _ _ (s4 _ _ hq') (Ne.symm nqd)
              have hb5 : TupI H5 bh ns:=k5 _ _ hbh4 (nbd _ _ hbh4 (by intro _ z; cases z))
              refine ⟨_,rfl,.inl ⟨rfl,_,SqL.of hq5⟩,_,rfl,q,_,_,rfl,rfl,hq5,(by rw [List.length_map]; exact small (by omega)),?_⟩
              have nt : ∀ {b : Addr} {xs : List V},H5 b = some (.tup xs) → b ≠ q:=fun hb=>ne_of hb hq5 (by intro z; cases z)
              refine ⟨_,L' ++ [ns],rows' ++ [ns],ts' ++ [bh],_,_,rfl,by rw [upd_ne nqd]; exact q5',hR5,by rw [upd_same,List.map_append]; rfl,?_,fun b o hb hn=>?_,by rw [List.length_append,List.length_append,hl',List.length_singleton,List.length_singleton]; omega,fun c hc=>List.mem_append_left _ (hsub c hc)⟩
              · refine paired_append (Paired.mapP hts' fun a c e=>⟨?_,List.mem_append_left _ e.2⟩) (.cons ⟨?_,List.mem_append_right _ (List.mem_singleton.mpr rfl)⟩ .nil)
                · have h1 : H5 a = some (.tup (c.map V.int)):=k5 _ _ (s4 _ _ e.1) (nbd _ _ (s4 _ _ e.1) (by intro _ z; cases z))
                  show (upd _ _ _) a = _
                  rw [upd_ne (nt h1)]
                  exact h1
                · show (upd _ _ _) bh = _
                  rw [upd_ne (nt hb5)]
                  exact hb5
              · have h1:=k5 _ _ (k4' b o hb hn) hn
                rw [upd_ne (fun z=>by rw [z] at hb; rw [t1 _ _ hb] at hq; cases hq)]
                exact h1
          · rintro σ2 H3 ⟨kvs',L',rows',ts',v6,v7,rfl,hd',hR',hq',hts',kx,hl',hsub⟩
            exact ⟨kvs',L',rows',ts',_,_,_,rfl,hd',hR',hq',hts',kx,hl',hsub⟩
        · rintro σ' H' ⟨kvs',L',rows',ts',v5,v6,v7,rfl,hd',hR',hq',hts',kx,hl',hsub⟩
          refine ⟨_,rfl,kvs',L',rows',q,ts',_,_,_,_,rfl,hd',hR',hq',hts',fun b o hb=>kx _ _ (sx _ _ hb) (ne_of_none hb hd0),⟨tlx kx,Paired.mapP hgx fun _ _ e=>tupx kx e⟩,hl'⟩
   · rintro j acc σ H4 hj hDD ⟨⟨vs,rfl,hvs,hvl⟩,⟨u,rfl⟩,s4⟩
     obtain ⟨t,ht,hT⟩:=paired_at hus (i:=j) (List.getElem?_eq_getElem hj)
     have ej : (us.map V.ref)[j]? = some (.ref t):=by rw [List.getElem?_map,ht]; rfl
     refine ⟨⟨_,_,SqL.of (s4 _ _ hp2),ej⟩,?_⟩
     rintro x' H' ⟨rfl,hall⟩
     have ex:=hall _ (SqL.of (s4 _ _ hp2))
     rw [ej] at ex
     cases ex
     refine gName_yes ?_
     have htj : (fs.take (j + 1)).map (fun cs=>(toK cs,V.int 0)) = (fs.take j).map (fun cs=>(toK cs,V.int 0)) ++ [(toK fs[j],V.int 0)]:=by rw [List.take_succ,List.getElem?_eq_getElem hj,List.map_append]; rfl
     generalize fs[j] = cs at hT htj
     refine ⟨_,rfl,(by show 2 ≤ sizeLine; decide),fun W hW=>?_⟩
     have s5 : Same H' (upd H' W (.tup [.ref t,.int 0])):=Same.upd_new hW
     have q5 : (upd H' W (.tup [.ref t,.int 0])) W = some (.tup [.ref t,.int 0]):=upd_same
     generalize upd H' W (.tup [.ref t,.int 0]) = H5 at s5 q5 ⊢
     have hD5:=s5 _ _ hDD
     have kp : ∀ b xs,H5 b = some (.tup xs) → (upd H5 D (.lst (vs.map V.ref ++ [.ref W]))) b = some (.tup xs):=fun b xs hb=>by rw [upd_ne (ne_of hb hD5 (by intro z; cases z))]; exact hb
     refine ⟨_,hD5,(by rw [List.length_map]; exact small (by omega)),lcW_next hj upd_same ⟨⟨vs ++ [W],by rw [List.map_append]; rfl,?_,by rw [List.length_append,List.length_singleton,hvl]⟩,⟨_,rfl⟩,fun y o hy=>?_⟩⟩
     · rw [htj]
       refine paired_append (Paired.mapP hvs fun _ _ ⟨b,e1,e2⟩=>⟨b,kp _ _ (s5 _ _ e1),kp _ _ (s5 _ _ e2)⟩) (.cons ⟨t,kp _ _ q5,?_⟩ .nil)
       show _ = some (HO.tup ((toK cs).map kV))
       rw [toK_kV]
       exact kp _ _ (s5 _ _ (s4 _ _ hT))
     · rw [upd_ne (ne_of_none hy hD)]
       exact s5 _ _ (s4 y o hy)
end
end Gen
namespace Gen
open PySem L2
abbrev sHeld : Stmt:=top 27
def firstsM (M : Mach) : List (List Int):=(risL M.keepers.length).filter (okF (M.keepers.map (·.2)))
structure Held (M : Mach) (F : List (List Str)) : Prop where
 ok : ∀ ls ∈ F,PieceOk M ls
 first : ∀ ls ∈ F,∀ cs ∈ firstsM M,keepsP M ls cs = true
 step : ∀ ls ∈ F,∀ r ∈ waysF M F,keepsP M ls (stepM M r.2 r.1) = true
theorem ways_bits {M : Mach} {F : List (List Str)} {r : List Int × List Int} (h : r ∈ waysF M F) : BitsN M.keepers.length r.1 ∧ BitsN M.switches.length r.2:=by
 unfold waysF at h
 obtain ⟨cs,hcs,hr⟩:=List.mem_flatMap.mp h
 obtain ⟨bs,hbs,rfl⟩:=List.mem_map.mp hr
 exact ⟨ris_bits _ _ (List.mem_filter.mp hcs).1,ris_bits _ _ hbs⟩
theorem ways_len {M : Mach} {F : List (List Str)} (k4 : M.keepers.length ≤ 4) (w3 : M.switches.length ≤ 3) : (waysF M F).length ≤ 128:=by
 have h1 : ∀ l : List (List Int),(l.flatMap fun cs=>(risL M.switches.length).map fun bs=>(cs,bs)).length = l.length * 2 ^ M.switches.length:=fun l=>by
  induction l with
  | nil=>simp
  | cons x l ih=>rw [List.flatMap_cons,List.length_append,List.length_map,ris_len,ih,List.length_cons,Nat.succ_mul,Nat.add_comm]
 unfold waysF
 rw [h1]
 have h2 : (withinF M F).length ≤ 16:=by
  unfold withinF
  refine Nat.le_trans (List.length_filter_le _ _) ?_
  rw [ris_len]
  exact Nat.le_trans (Nat.pow_le_pow_right (by decide) k4) (by decide)
 have h3 : 2 ^ M.switches.length ≤ 2 ^ 3:=Nat.pow_le_pow_right (by decide) w3
 exact Nat.le_trans (Nat.mul_le_mul h2 h3) (by decide)
theorem lc_sift {K : PySem.W.Frag} {H1 : Hp} {D fc : Addr} {ps : List Addr} {F : List (List Str)} {g : List Str → Bool} {ti : TT} {x1 x2 : Option V} {Q : Hp → Prop} (hD : H1 D = none) (hF : PcsAt H1 fc ps F) (hl : F.length ≤ 400)
 (step : ∀ p ls H4 (R : Bool → Hp → Prop),Same H1 H4 → ls ∈ F → H4 p = some (.tup (ls.map V.str)) → (∀ H5,Same H4 H5 → R (g ls) H5) → ti [some (.ref p),x1,x2] H4 R)
 (fin : ∀ H4 ps',Same H1 H4 → PcsAt H4 D ps' (F.filter g) → Q H4) :
 ∃ W : Nat → Nat → St → Hp → Prop,(∃ k,W 0 k [none,x1,x2] (upd H1 D (.lst []))) ∧ bLC D (gName 0) ti (tVar 0) (Itl K fc) W Q:=by
 have hpl:=hF.len
 refine lc_by F.length (fun j acc σ H4=>(∃ us : List Addr,acc = us.map V.ref ∧ Paired (fun p ls=>H4 p = some (.tup (ls.map V.str))) us ((F.take j).filter g) ∧ us.length ≤ j) ∧ (∃ u,σ = [u,x1,x2]) ∧ Same H1 H4) ⟨⟨[],rfl,.nil,Nat.le_refl _⟩,⟨none,rfl⟩,Same.upd_new hD⟩ upd_same ?_ ?_
 · rintro acc σ H4 hDD ⟨⟨us,rfl,hus,_⟩,_,s4⟩
   rw [List.take_length] at hus
   exact ⟨⟨_,SqL.of (s4 _ _ hF.at_),by rw [List.length_map,hpl]; exact Nat.le_refl _⟩,fin H4 us s4 ⟨hDD,hus⟩⟩
 · rintro j acc σ H4 hj hDD ⟨⟨us,rfl,hus,hul⟩,⟨u,rfl⟩,s4⟩
   have hrj : F[j]? = some F[j]:=List.getElem?_eq_getElem hj
   obtain ⟨p,hp,hP⟩:=paired_at hF.all (i:=j) hrj
   have ej : (ps.map V.ref)[j]? = some (.ref p):=by rw [List.getElem?_map,hp]; rfl
   refine ⟨⟨_,_,SqL.of (s4 _ _ hF.at_),ej⟩,?_⟩
   rintro x' H' ⟨rfl,hall⟩
   have ex:=hall _ (SqL.of (s4 _ _ hF.at_))
   rw [ej] at ex
   cases ex
   have hflt:=filter_take (p:=g) hrj
   have hmem:=List.getElem_mem hj
   generalize F[j] = ls at hP hflt hmem
   refine step p ls _ _ s4 hmem (s4 _ _ hP) fun H5 s5=>?_
   have hP5:=s5 _ _ (s4 _ _ hP)
   refine ite2 (fun h=>?_) (fun h=>?_)
   · rw [if_pos h] at hflt
     refine ⟨_,rfl,_,s5 _ _ hDD,(by rw [List.length_map]; exact small (by omega)),lcW_next hj upd_same ⟨⟨us ++ [p],by rw [List.map_append]; rfl,?_,by rw [List.length_append,List.length_singleton]; omega⟩,⟨_,rfl⟩,fun y o hy=>?_⟩⟩
     · rw [hflt]
       have nt : ∀ {b : Addr} {xs : List V},H5 b = some (.tup xs) → b ≠ D:=fun hb=>ne_of hb (s5 _ _ hDD) (by intro z; cases z)
       exact paired_append (Paired.mapP hus fun c d e=>by have:=s5 _ _ e; rw [upd_ne (nt this)]; exact this) (.cons (by rw [upd_ne (nt hP5)]; exact hP5) .nil)
     · rw [upd_ne (ne_of_none hy hD)]
       exact s5 _ _ (s4 y o hy)
   · rw [if_neg h,List.append_nil] at hflt
     exact lcW_next hj (s5 _ _ hDD) ⟨⟨us,rfl,by rw [hflt]; exact Paired.mapP hus fun _ _ e=>s5 _ _ e,by omega⟩,⟨_,rfl⟩,s4.trans s5⟩
theorem lc_keepsS {K : PySem.W.Frag} {H1 : Hp} {D fh m p a1 a2 a3 a4 a5 a6 : Addr} {M : Mach} {names : List Str} {ls : List Str} {us : List Addr} {rows : List (List Int)} {Q : Hp → Prop} (hD : H1 D = none) (hM : MachAt H1 m M a1 a2 a3 a4 a5 a6) (hm : Fm M names) (hp : H1 p = some (.tup (ls.map V.str))) (hok : PieceOk M ls) (hf : H1 fh = some (.lst (us.map V.ref))) (hus : RowsH H1 us rows) (hb : ∀ cs ∈ rows,BitsN M.keepers.length cs) (hl : rows.length ≤ 400)
 (fin : ∀ H4,Same H1 H4 → H4 D = some (.lst ((rows.map fun cs=>keepsP M ls cs).map V.bl)) → Q H4) :
 ∃ W : Nat → Nat → St → Hp → Prop,(∃ k,W 0 k [none,some (.ref m),some (.ref p)] (upd H1 D (.lst []))) ∧ bLC D (gName 0) tYes (tCall (spKeeps K) [] E0 (tCons (tVar 1) (tCons (tVar 2) (tCons (tVar 0) tNil)))) (Itl K fh) W Q:=by
 have hul:=hus.length
 refine lc_by rows.length (fun j acc σ H4=>acc = ((rows.take j).map fun cs=>keepsP M ls cs).map V.bl ∧ (∃ u,σ = [u,some (.ref m),some (.ref p)]) ∧ Same H1 H4) ⟨rfl,⟨none,rfl⟩,Same.upd_new hD⟩ upd_same ?_ ?_
 · rintro acc σ H4 hDD ⟨rfl,_,s4⟩
   rw [List.take_length] at hDD
   exact ⟨⟨_,SqL.of (s4 _ _ hf),by rw [List.length_map,hul]; exact Nat.le_refl _⟩,fin H4 s4 hDD⟩
 · rintro j acc σ H4 hj hDD ⟨rfl,⟨u,rfl⟩,s4⟩
   obtain ⟨t,ht,hT⟩:=paired_at hus (i:=j) (List.getElem?_eq_getElem hj)
   have ej : (us.map V.ref)[j]? = some (.ref t):=by rw [List.getElem?_map,ht]; rfl
   refine ⟨⟨_,_,SqL.of (s4 _ _ hf),ej⟩,?_⟩
   rintro x' H' ⟨rfl,hall⟩
   have ex:=hall _ (SqL.of (s4 _ _ hf))
   rw [ej] at ex
   cases ex
   refine gName_yes ?_
   refine ⟨_,rfl,_,rfl,_,rfl,m,a1,a2,a3,a4,a5,a6,p,t,M,names,ls,rows[j],rfl,hM.same s4,hm,SqT.of (s4 _ _ hp),hok,TupI.k (s4 _ _ hT),(hb _ (List.getElem_mem hj)).1,fun H5 s5=>?_⟩
   refine ⟨_,s5 _ _ hDD,?_,lcW_next hj upd_same ⟨?_,⟨_,rfl⟩,fun y o hy=>?_⟩⟩
   · rw [List.length_map,List.length_map,List.length_take]
     exact small (by omega)
   · rw [List.take_succ,List.getElem?_eq_getElem hj,List.map_append,List.map_append]
     rfl
   · rw [upd_ne (ne_of_none hy hD)]
     exact s5 _ _ (s4 y o hy)
theorem lc_keepsW {K : PySem.W.Frag} {H1 : Hp} {D fh m p a1 a2 a3 a4 a5 a6 : Addr} {M : Mach} {names : List Str} {ls : List Str} {us : List Addr} {rows : List (List Int × List Int)} {Q : Hp → Prop} (hD : H1 D = none) (hM : MachAt H1 m M a1 a2 a3 a4 a5 a6) (hm : Fm M names) (hp : H1 p = some (.tup (ls.map V.str))) (hok : PieceOk M ls) (hf : H1 fh = some (.lst (us.map V.ref))) (hus : Paired (WayAt M H1) us rows) (hb : ∀ r ∈ rows,BitsN M.keepers.length r.1 ∧ BitsN M.switches.length r.2) (hl : rows.length ≤ 400)
 (fin : ∀ H4,Same H1 H4 → H4 D = some (.lst ((rows.map fun r=>keepsP M ls (stepM M r.2 r.1)).map V.bl)) → Q H4) :
 ∃ W : Nat → Nat → St → Hp → Prop,(∃ k,W 0 k [none,some (.ref m),some (.ref p)] (upd H1 D (.lst []))) ∧ bLC D (gName 0) tYes (tCall (spKeeps K) [] E0 (tCons (tVar 1) (tCons (tVar 2) (tCons (tOp (rIxT K) (tVar 0) (tC (.int 2))) tNil)))) (Itl K fh) W Q:=by
 have hul:=hus.length
 refine lc_by rows.length (fun j acc σ H4=>acc = ((rows.take j).map fun r=>keepsP M ls (stepM M r.2 r.1)).map V.bl ∧ (∃ u,σ = [u,some (.ref m),some (.ref p)]) ∧ Same H1 H4) ⟨rfl,⟨none,rfl⟩,Same.upd_new hD⟩ upd_same ?_ ?_
 · rintro acc σ H4 hDD ⟨rfl,_,s4⟩
   rw [List.take_length] at hDD
   exact ⟨⟨_,SqL.of (s4 _ _ hf),by rw [List.length_map,hul]; exact Nat.le_refl _⟩,fin H4 s4 hDD⟩
 · rintro j acc σ H4 hj hDD ⟨rfl,⟨u,rfl⟩,s4⟩
   obtain ⟨t,ht,hT⟩:=paired_at hus (i:=j) (List.getElem?_eq_getElem hj)
   have ej : (us.map V.ref)[j]? = some (.ref t):=by rw [List.getElem?_map,ht]; rfl
   refine ⟨⟨_,_,SqL.of (s4 _ _ hf),ej⟩,?_⟩
   rintro x' H' ⟨rfl,hall⟩
   have ex:=hall _ (SqL.of (s4 _ _ hf))
   rw [ej] at ex
   cases ex
   refine gName_yes ?_
   obtain ⟨x1,x2,x3,q1,q2,q3,q4⟩:=hT.same s4
   have hbj:=hb _ (List.getElem_mem hj)
   refine ⟨_,rfl,_,rfl,_,rfl,t,_,2,.ref x3,rfl,rfl,SqT.of q1,rfl,m,a1,a2,a3,a4,a5,a6,p,x3,M,names,ls,_,rfl,hM.same s4,hm,SqT.of (s4 _ _ hp),hok,TupI.k q4,(hm.step hbj.2 hbj.1).1,fun H5 s5=>?_⟩
   refine ⟨_,s5 _ _ hDD,?_,lcW_next hj upd_same ⟨?_,⟨_,rfl⟩,fun y o hy=>?_⟩⟩
   · rw [List.length_map,List.length_map,List.length_take]
     exact small (by omega)
   · rw [List.take_succ,List.getElem?_eq_getElem hj,List.map_append,List.map_append]
     rfl
   · rw [upd_ne (ne_of_none hy hD)]
     exact s5 _ _ (s4 y o hy)
def spHeld (K : PySem.W.Frag) : Sp:=fun vs H Q _=>∃ (m a1 a2 a3 a4 a5 a6 fc : Addr) (M : Mach) (names : List Str) (F : List (List Str)) (ps : List Addr),vs = [.ref m,.ref fc] ∧ MachAt H m M a1 a2 a3 a4 a5 a6 ∧ Fm M names ∧ M.keepers.length ≤ 4 ∧ M.switches.length ≤ 3 ∧ PcsAt H fc ps F ∧ (∀ ls ∈ F,PieceOk M ls) ∧ F.length ≤ 400 ∧
 ∀ p ps' F' H',Same H H' → PcsAt H' p ps' F' → Held M F' → F'.length ≤ F.length → Q (.ref p) H'
abbrev nHd : List Str:=["_law_m", "_law_pieces", "_law_firsts_here", "_law_turn", "_law_ways_here", "_law_left_in"]
theorem ndPMF : (["_law_piece", "_law_m", "_law_firsts_here"] : List Str).Nodup:=by decide +kernel
theorem ndPMW : (["_law_piece", "_law_m", "_law_ways_here"] : List Str).Nodup:=by decide +kernel
theorem ndSMP : (["_law_stand", "_law_m", "_law_piece"] : List Str).Nodup:=by decide +kernel
theorem ndWMP : (["_law_way", "_law_m", "_law_piece"] : List Str).Nodup:=by decide +kernel
section
variable {P : Program} {w : World} {K : PySem.W.Frag} {mg : Str → Option Value} {base : Heap}
theorem scHd : FnScope nHd ["_law_m", "_law_pieces"] (defScope sHeld):=⟨rfl,rfl,rfl,by decide +kernel,rfl,by decide +kernel,by decide +kernel⟩
theorem ok_held {f fF fK fY : Addr} {fd dF dK dY : FuncData} (F : Fun K "_law_held" "_law_held" sHeld f fd) (T : Own mg) (O2 : Own2 mg)
 (gF : FnOk P w K mg base CX0 2 fF dF ["_law_m"] (spFirsts K)) (mF : mg "_law_firsts" = some (.ref fF)) (kF : PySem.W.keepIn K (.ref fF) = true) (bF : Binds K dF ["_law_m"] [])
 (gK : FnOk P w K mg base CX0 2 fK dK pKp (spKeeps K)) (mK : mg "_law_keeps" = some (.ref fK)) (kK : PySem.W.keepIn K (.ref fK) = true) (bK : Binds K dK pKp [])
 (gY : FnOk P w K mg base CX0 4 fY dY ["_law_m", "_law_fence"] (spWays K)) (mY : mg "_law_ways" = some (.ref fY)) (kY : PySem.W.keepIn K (.ref fY) = true) (bY : Binds K dY ["_law_m", "_law_fence"] []) : FnOk P w K mg base CX0 5 f fd ["_law_m", "_law_pieces"] (spHeld K):=by
 refine F.ok scHd (fun vs H Q E h=>?_) (fun cdv A outer s H vs Q E hr h=>?_)
 · obtain ⟨m,a1,a2,a3,a4,a5,a6,fc,M,names,F,ps,rfl,_⟩:=h
   rfl
 · obtain ⟨m,a1,a2,a3,a4,a5,a6,fc,M,names,F,ps,rfl,hM,hm,k4,w3,hF,hok,hFl,kk⟩:=h
   have hu:=hu_of hr
   have hr2 : Room 2 _:=hr.mono (by decide)
   refine ⟨_,pss_cons (ps_set (i:=2) scHd.nd rfl (Or.inr rfl) (pe_call gF hr2 rfl mF kF bF .nil pass0 (pa_cons (pv 0) pa_nil)))
    (pss_cons (ps_lcC (i:=1) (y:="_law_piece") (N:=["_law_piece", "_law_m", "_law_firsts_here"]) (js:=[none,some 0,some 2]) scHd.nd rfl rfl (by kernel_rfl) rfl (pi_list (pv 1)) (fun _ _ _ _ _ _=>pg_name (i:=0) ndPMF rfl (Or.inr rfl) (.inl fnC))
     (fun _ _ _ _ _ _=>pifs_one (pt_val (pe_callB (r:=rAllB K) (call_all_bools rfl) (by rfl) O2.all PyProof.Rows.boot_all (pa_cons (pe_lc (wi:=iList K (tVar 2)) (N:=["_law_stand", "_law_m", "_law_piece"]) (js:=[none,some 1,some 0]) (by kernel_rfl) rfl (pi_list (pv 2)) (fun _ _ _ _ _ _=>pg_name (i:=0) ndSMP rfl (Or.inl rfl) (.inr rfl)) (fun _ _ _ _ _ _=>pifs_nil)
      (fun _ _ _ _ _ _=>pe_call gK hr2 (by rfl) mK kK bK .nil pass0 (pa_cons (pv 1) (pa_cons (pv 2) (pa_cons (pv 0) pa_nil))))) pa_nil)))) (fun _ _ _ _ _ _=>pv 0))
    (pss_cons (ps_for PassesOwn.never rfl (pi_range1 rfl T.range (pa_cons (pe_callB call_len_seq (by rfl) O2.len PySem.boot_len (pa_cons (pv 1) pa_nil)) pa_nil)) (pg_name (i:=3) scHd.nd rfl (Or.inl rfl))
     (pss_cons (ps_set (i:=4) scHd.nd rfl (Or.inr rfl) (pe_call gY hr rfl mY kY bY .nil pass0 (pa_cons (pv 0) (pa_cons (pv 1) pa_nil))))
     (pss_cons (ps_lcC (i:=5) (y:="_law_piece") (N:=["_law_piece", "_law_m", "_law_ways_here"]) (js:=[none,some 0,some 4]) scHd.nd rfl rfl (by kernel_rfl) rfl (pi_list (pv 1)) (fun _ _ _ _ _ _=>pg_name (i:=0) ndPMW rfl (Or.inr rfl) (.inl fnC))
      (fun _ _ _ _ _ _=>pifs_one (pt_val (pe_callB (r:=rAllB K) (call_all_bools rfl) (by rfl) O2.all PyProof.Rows.boot_all (pa_cons (pe_lc (wi:=iList K (tVar 2)) (N:=["_law_way", "_law_m", "_law_piece"]) (js:=[none,some 1,some 0]) (by kernel_rfl) rfl (pi_list (pv 2)) (fun _ _ _ _ _ _=>pg_name (i:=0) ndWMP rfl (Or.inl rfl) (.inr rfl)) (fun _ _ _ _ _ _=>pifs_nil)
       (fun _ _ _ _ _ _=>pe_call gK hr2 (by rfl) mK kK bK .nil pass0 (pa_cons (pv 1) (pa_cons (pv 2) (pa_cons (pe_ix (r:=rIxT K) ix_tup (pv 0) pe_int (fun _ _=>rfl)) pa_nil))))) pa_nil)))) (fun _ _ _ _ _ _=>pv 0))
     (pss_cons (ps_if (pt_cmpR op_eq (pe_callB call_len_seq (by rfl) O2.len PySem.boot_len (pa_cons (pv 5) pa_nil)) (pe_callB call_len_seq (by rfl) O2.len PySem.boot_len (pa_cons (pv 1) pa_nil)) (nomark _)) (pss_one (ps_ret (pv 1))) pss_nil)
     (pss_one (ps_set (i:=1) scHd.nd rfl (Or.inl rfl) (pv 5)))))))
    (pss_one (ps_ret (pv 1))))),?_⟩
   refine ⟨_,rfl,m,a1,a2,a3,a4,a5,a6,M,rfl,hM,by omega,hm.ok.first,fun fh us H1 s1 hfh hfh1 hus=>?_⟩
   refine ⟨_,rfl,fc,rfl,⟨_,SqL.of (s1 _ _ hF.at_)⟩,fun D hD=>?_⟩
   have fbt : ∀ cs ∈ firstsM M,BitsN M.keepers.length cs:=fun cs h=>ris_bits _ _ (List.mem_filter.mp h).1
   have fle : (firstsM M).length ≤ 16:=by
    refine Nat.le_trans (List.length_filter_le _ _) ?_
    rw [ris_len]
    exact Nat.le_trans (Nat.pow_le_pow_right (by decide) k4) (by decide)
   refine lc_sift (K:=K) (g:=fun ls=>(firstsM M).all fun cs=>keepsP M ls cs) hD (hF.same s1) hFl ?_ ?_
   · intro p ls H4 R s4 hls hp hR
     have s14:=s1.trans s4
     refine ⟨_,rfl,fh,rfl,⟨_,SqL.of (s4 _ _ hfh1)⟩,fun D2 hD2=>?_⟩
     refine lc_keepsS (K:=K) hD2 (hM.same s14) hm hp (hok _ hls) (s4 _ _ hfh1) (hus.same s4) fbt (by unfold firstsM at fle; omega) fun H5 s5 hD5=>?_
     refine ⟨D2,_,rfl,SqL.of hD5,?_⟩
     rw [map_all]
     exact ⟨_,rfl,hR H5 s5⟩
   intro H2 ps2 s2 hP2
   have hsub : ∀ ls ∈ F.filter fun ls=>(firstsM M).all fun cs=>keepsP M ls cs,PieceOk M ls ∧ ∀ cs ∈ firstsM M,keepsP M ls cs = true:=fun ls h=>⟨hok ls (List.mem_filter.mp h).1,fun cs hcs=>List.all_eq_true.mp (List.mem_filter.mp h).2 cs hcs⟩
   have hle2 : (F.filter fun ls=>(firstsM M).all fun cs=>keepsP M ls cs).length ≤ F.length:=List.length_filter_le _ _
   generalize (F.filter fun ls=>(firstsM M).all fun cs=>keepsP M ls cs) = F2 at hP2 hsub hle2
   have s12:=s1.trans s2
   refine ⟨_,rfl,D,_,rfl,.inl (SqL.of hP2.at_),?_⟩
   rw [List.length_map,hP2.len]
   refine ⟨_,rfl,by omega,Int.lt_trans (by omega : (F2.length : Int) < 1000) (by decide),for_range (n:=((F2.length : Int)).toNat) (fun i σ H3=>∃ (q : Addr) (qs : List Addr) (F3 : List (List Str)) (v3 v4 v5 : Option V),σ = [some (.ref m),some (.ref q),some (.ref fh),v3,v4,v5] ∧ Same H H3 ∧ PcsAt H3 q qs F3 ∧ (∀ ls ∈ F3,PieceOk M ls ∧ ∀ cs ∈ firstsM M,keepsP M ls cs = true) ∧ F3.length + i ≤ F2.length) ⟨D,ps2,F2,none,none,none,rfl,s12,hP2,hsub,Nat.le_refl _⟩ ?_ ?_⟩
   · rintro i σ H3 hi ⟨q,qs,F3,v3,v4,v5,rfl,s3,hP3,hs3,hl3⟩
     refine ⟨_,rfl,_,rfl,m,a1,a2,a3,a4,a5,a6,q,M,names,F3,qs,rfl,hM.same s3,hm,k4,w3,hP3,fun ls h=>(hs3 ls h).1,by omega,fun y ws H4 s4 hy hy4 hws=>?_⟩
     refine ⟨_,rfl,q,rfl,⟨_,SqL.of (s4 _ _ hP3.at_)⟩,fun D3 hD3=>?_⟩
     have wl:=ways_len (F:=F3) k4 w3
     refine lc_sift (K:=K) (g:=fun ls=>(waysF M F3).all fun r=>keepsP M ls (stepM M r.2 r.1)) hD3 (hP3.same s4) (by omega) ?_ ?_
     · intro p ls H5 R s5 hls hp hR
       have s35:=s3.trans (s4.trans s5)
       refine ⟨_,rfl,y,rfl,⟨_,SqL.of (s5 _ _ hy4)⟩,fun D4 hD4=>?_⟩
       refine lc_keepsW (K:=K) hD4 (hM.same s35) hm hp (hs3 _ hls).1 (s5 _ _ hy4) (Paired.mapP hws fun _ _ e=>e.same s5) (fun r hr=>ways_bits hr) (by omega) fun H6 s6 hD6=>?_
       refine ⟨D4,_,rfl,SqL.of hD6,?_⟩
       rw [map_all]
       exact ⟨_,rfl,hR H6 s6⟩
     intro H5 ps5 s5 hP5
     have s35:=s3.trans (s4.trans s5)
     have hP35:=hP3.same (s4.trans s5)
     refine ⟨_,rfl,D3,_,rfl,.inl (SqL.of hP5.at_),_,rfl,q,_,rfl,.inl (SqL.of hP35.at_),?_⟩
     rw [List.length_map,List.length_map,hP5.len,hP35.len]
     refine ⟨rfl,_,rfl,?_⟩
     by_cases he : (F3.filter fun ls=>(waysF M F3).all fun r=>keepsP M ls (stepM M r.2 r.1)).length = F3.length
     · rw [he]
       refine iteT' (decide_eq_true rfl) ?_
       have hall:=List.length_filter_eq_length_iff.mp he
       exact ⟨_,rfl,kk q qs F3 H5 s35 hP35 ⟨fun ls h=>(hs3 ls h).1,fun ls h=>(hs3 ls h).2,fun ls h r hr=>List.all_eq_true.mp (hall ls h) r hr⟩ (by omega)⟩
     · refine iteF' (decide_eq_false fun e=>he (by have:=V.int.inj e; omega)) ?_
       have hle:=List.length_filter_le (fun ls=>(waysF M F3).all fun r=>keepsP M ls (stepM M r.2 r.1)) F3
       exact ⟨_,rfl,D3,ps5,_,_,_,_,rfl,s35,hP5,fun ls h=>hs3 ls (List.mem_filter.mp h).1,by omega⟩
   · rintro σ H3 ⟨q,qs,F3,v3,v4,v5,rfl,s3,hP3,hs3,hl3⟩
     have h0 : F3 = []:=List.length_eq_zero_iff.mp (by omega)
     subst h0
     exact ⟨_,rfl,kk q qs [] H3 s3 hP3 ⟨(fun _ h=>nomatch h),(fun _ h=>nomatch h),(fun _ h=>nomatch h)⟩ (Nat.zero_le _)⟩
end
end Gen
namespace L2
open PySem PySem.Spec PyProof.Rows PySem.W
section
variable {X : Cx}
def rCatE (K : PySem.W.Frag) : R2:=fun x y H Q=>∃ a b xs ys,x = .ref a ∧ y = .ref b ∧ SqT K H a xs ∧ SqT K H b ys ∧ xs.length + ys.length ≤ sizeLine ∧ (xs = [] → Q (.ref b) H) ∧ (xs ≠ [] → ys = [] → Q (.ref a) H) ∧ (xs ≠ [] → ys ≠ [] → ∀ p,H p = none → Q (.ref p) (upd H p (.tup (xs ++ ys))))
theorem op_catE : OpR X (binaryOp .Add) (rCatE X.K):=by
 intro pins s σ H x y v u Q I rx ry h
 obtain ⟨a,b,xs,ys,rfl,rfl,ha,hb,hz,q1,q2,q3⟩:=h
 by_cases hx : xs = []
 · cases rx
   cases ry
   obtain ⟨its,r1,p1,_⟩:=I.tuple ha
   obtain ⟨its2,r2,p2,_⟩:=I.tuple hb
   obtain ⟨⟨cls,dd,data,sl⟩,ho,hc,n,hd⟩:=id p1
   obtain ⟨⟨cls2,dd2,data2,sl2⟩,ho2,hc2,n2,hd2⟩:=id p2
   simp only at hc hd hc2 hd2
   subst hc hd hc2 hd2
   have he : its = []:=r1.nil_iff.mpr hx
   exact concat_meets ⟨_,ho,rfl⟩ ⟨_,ho2,rfl⟩ noFill_tuple_add seq_tuple_add PySem.F.slot_tuple_add PySem.F.entry_tuple_add (PySem.F.args_tuple_add_2 _ _)
    (tuple_addW0 a b its.toArray its2.toArray n n2 dd dd2 sl sl2 (by simp [he])) ⟨ho,ho2,⟨.ref b,H,I,rfl,q1 hx⟩⟩
 · exact op_catT pins s σ H _ _ v u Q I rx ry ⟨a,b,xs,ys,rfl,rfl,ha,hb,hx,hz,fun e=>q2 hx e,fun e=>q3 hx e⟩
theorem catE_by {K : PySem.W.Frag} {H : Hp} {a b : Addr} {xs ys : List V} {Q : VK} (ha : H a = some (.tup xs)) (hb : H b = some (.tup ys)) (hl : xs.length + ys.length ≤ sizeLine) (q : ∀ p H',(∀ b o,H b = some o → H' b = some o) → H' p = some (.tup (xs ++ ys)) → Q (.ref p) H') : rCatE K (.ref a) (.ref b) H Q:=by
 refine ⟨a,b,xs,ys,rfl,rfl,SqT.of ha,SqT.of hb,hl,fun e=>?_,fun _ e=>?_,fun _ _ p hp=>?_⟩
 · subst e
   exact q b H (fun _ _ h=>h) hb
 · subst e
   exact q a H (fun _ _ h=>h) (by rw [List.append_nil]; exact ha)
 · exact q p _ (fun b o h=>by rw [upd_ne (ne_of_none h hp)]; exact h) upd_same
end
end L2
namespace Gen
open PySem L2
abbrev sCellR : Stmt:=top 20
abbrev sDrawn : Stmt:=top 25
abbrev sApart : Stmt:=top 26
def spCellR (K : PySem.W.Frag) : Sp:=fun vs H Q _=>∃ (a : Addr) (ns : List Int) (k : Int),vs = [.ref a,.int k] ∧ SqL K H a (ns.map V.int) ∧ 0 ≤ k ∧ k ≤ 1000 ∧ ∀ v : Int,Q (.int v) H
def Under (H0 H : Hp) (l : Addr) : Prop:=∀ b o,H0 b = some o → b ≠ l ∧ H b = some o
theorem Under.same {H0 H H' : Hp} {l : Addr} (u : Under H0 H l) (k : Keep H H' l) : Same H0 H':=fun b o h=>k b o (u b o h).2 (u b o h).1
def spDrawn (K : PySem.W.Frag) : Sp:=fun vs H Q _=>∃ (H0 : Hp) (m a1 a2 a3 a4 a5 a6 l : Addr) (M : Mach) (xs : List V) (n : Int),vs = [.ref m,.ref l,.int n] ∧ MachAt H0 m M a1 a2 a3 a4 a5 a6 ∧ Under H0 H l ∧ M.keepers.length ≤ 16 ∧ (∀ r ∈ M.keepers,NameS r.1) ∧ H l = some (.lst xs) ∧ pool xs ∧ 0 ≤ n ∧ n ≤ 20 ∧
 ∀ p ps F ys H',Keep H H' l → H' l = some (.lst ys) → pool ys → PcsAt H' p ps F → (∀ ls ∈ F,PieceOk M ls) → F.length = n.toNat → Q (.ref p) H'
def spApart (K : PySem.W.Frag) : Sp:=fun vs H Q _=>∃ (m a1 a2 a3 a4 a5 a6 : Addr) (M : Mach) (names : List Str),vs = [.ref m] ∧ MachAt H m M a1 a2 a3 a4 a5 a6 ∧ Fm M names ∧ M.keepers.length ≤ 4 ∧ M.switches.length ≤ 3 ∧
 ∀ p ps F H',Same H H' → PcsAt H' p ps F → (∀ ls ∈ F,PieceOk M ls) → F.length ≤ 16 → Q (.ref p) H'
abbrev nDr : List Str:=["_law_m", "_law_left", "_law_many", "_law_pieces", "_law_k", "_law_piece", "_law_name", "_law_first"]
abbrev pDr : List Str:=["_law_m", "_law_left", "_law_many"]
abbrev nAp : List Str:=["_law_m", "_law_rings_here", "_law_pieces", "_law_stand"]
theorem NameS.app {x : Str} (h : NameS x) (z : Str) (hz : z.length ≤ 1) : z.length + x.length ≤ sizeLine:=by
 have:=h.len
 exact line8 (by omega)
theorem Keep.tup {H H' : Hp} {l t : Addr} {n xs : List V} (k : Keep H H' l) (hl : H l = some (.lst n)) (h : H t = some (.tup xs)) : H' t = some (.tup xs):=k _ _ h (ne_of h hl (by intro z; cases z))
section
variable {P : Program} {w : World} {K : PySem.W.Frag} {mg : Str → Option Value} {base : Heap}
theorem scCellR : FnScope ["_law_script", "_law_k", "_law_cell_here"] ["_law_script", "_law_k"] (defScope sCellR):=⟨rfl,rfl,rfl,by decide +kernel,rfl,by decide +kernel,by decide +kernel⟩
theorem scDr : FnScope nDr pDr (defScope sDrawn):=⟨rfl,rfl,rfl,by decide +kernel,rfl,by decide +kernel,by decide +kernel⟩
theorem scAp : FnScope nAp ["_law_m"] (defScope sApart):=⟨rfl,rfl,rfl,by decide +kernel,rfl,by decide +kernel,by decide +kernel⟩
theorem ok_cellR {f fC fR : Addr} {fd dC dR : FuncData} (F : Fun K "_law_cell" "_law_cell" sCellR f fd)
 (gC : FnOk P w K mg base CX0 1 fC dC ["_law_script", "_law_k"] (spCell K)) (mC : mg "_law_cell_at" = some (.ref fC)) (kC : PySem.W.keepIn K (.ref fC) = true) (bC : Binds K dC ["_law_script", "_law_k"] [])
 (gR : FnOk P w K mg base CX0 2 fR dR ["_law_cell_here", "_law_k"] spRich) (mR : mg "_law_rich" = some (.ref fR)) (kR : PySem.W.keepIn K (.ref fR) = true) (bR : Binds K dR ["_law_cell_here", "_law_k"] []) : FnOk P w K mg base CX0 3 f fd ["_law_script", "_law_k"] (spCellR K):=by
 refine F.ok scCellR (fun vs H Q E h=>?_) (fun cdv A outer s H vs Q E hr h=>?_)
 · obtain ⟨a,ns,k,rfl,_⟩:=h
   rfl
 · obtain ⟨a,ns,k,rfl,ha,k0,k1,kk⟩:=h
   have hr1 : Room 1 _:=hr.mono (by decide)
   refine ⟨_,pss_cons (ps_set (i:=2) scCellR.nd rfl (Or.inl rfl) (pe_call gC hr1 rfl mC kC bC .nil pass0 (pa_cons (pv 0) (pa_cons (pv 1) pa_nil))))
    (pss_cons (ps_if (pt_cmpR op_eq (pe_op op_mod (pe_call gC hr1 rfl mC kC bC .nil pass0 (pa_cons (pv 0) (pa_cons pe_int pa_nil))) pe_int) pe_int (nomark _)) (pss_one (ps_ret (pe_call gR hr rfl mR kR bR .nil pass0 (pa_cons (pv 2) (pa_cons (pv 1) pa_nil))))) pss_nil)
    (pss_one (ps_ret (pv 2)))),?_⟩
   refine ⟨_,rfl,_,rfl,a,ns,k,rfl,ha,k0,fun v=>?_⟩
   refine ⟨_,rfl,a,ns,2,rfl,ha,by decide,fun v2=>?_⟩
   refine ⟨_,_,rfl,rfl,(by show (0 : Int) < 2; decide),rfl,_,rfl,ite2 (fun _=>?_) (fun _=>?_)⟩
   · exact ⟨_,rfl,_,rfl,v,k,rfl,k0,k1,fun v3=>kk v3⟩
   · exact ⟨_,rfl,kk v⟩
theorem ok_drawn {f fP : Addr} {fd dP : FuncData} (F : Fun K "_law_drawn_pieces" "_law_drawn_pieces" sDrawn f fd) (T : Own mg)
 (gP : FnOk P w K mg base CX0 1 fP dP ["_law_left", "_law_many"] spPick) (mP : mg "_law_pick" = some (.ref fP)) (kP : PySem.W.keepIn K (.ref fP) = true) (bP : Binds K dP ["_law_left", "_law_many"] []) : FnOk P w K mg base CX0 2 f fd pDr (spDrawn K):=by
 refine F.ok scDr (fun vs H Q E h=>?_) (fun cdv A outer s H vs Q E hr h=>?_)
 · obtain ⟨H0,m,a1,a2,a3,a4,a5,a6,l,M,xs,n,rfl,_⟩:=h
   rfl
 · obtain ⟨H0,m,a1,a2,a3,a4,a5,a6,l,M,xs,n,rfl,hM,hun,k16,hnm,hl,hp,n0,n20,kk⟩:=h
   have hu:=hu_of hr
   refine ⟨_,pss_cons (ps_set (i:=3) scDr.nd rfl (Or.inl rfl) (pe_lst pa_nil))
    (pss_cons (ps_for PassesOwn.never rfl (pi_range1 rfl T.range (pa_cons (pv 2) pa_nil)) (pg_name (i:=4) scDr.nd rfl (Or.inl rfl))
     (pss_cons (ps_set (i:=5) scDr.nd rfl (Or.inl rfl) (pe_tup pa_nil))
     (pss_cons (ps_for PassesOwn.never rfl (pi_list (pe_dget hu (pv 0) pe_str (fun _ _=>rfl))) (pg_tup rfl (pgs_cons (pg_name (i:=6) scDr.nd rfl (Or.inl rfl)) (pgs_cons (pg_name (i:=7) scDr.nd rfl (Or.inl rfl)) pgs_nil)))
      (pss_one (ps_set (i:=5) scDr.nd rfl (Or.inl rfl) (pe_op op_catE (pv 5) (pe_ix (r:=rIxT K) ix_tup (pe_tup (pa_cons (pe_tup pa_nil) (pa_cons (pe_tup (pa_cons (pv 6) pa_nil)) (pa_cons (pe_tup (pa_cons (pe_op op_add_str pe_str (pv 6)) pa_nil)) pa_nil)))) (pe_call gP hr rfl mP kP bP .nil pass0 (pa_cons (pv 1) (pa_cons pe_int pa_nil))) (fun _ _=>rfl))))))
     (pss_one (ps_expr (pe_bm PySem.F.plainAttrs_list PySem.F.slot_list_append PySem.F.type_list_append mt_append (pv 3) (pa_cons (pv 5) pa_nil)))))))
    (pss_one (ps_ret (pv 3)))),?_⟩
   refine ⟨(by show 0 ≤ sizeLine; decide),fun q hq=>?_⟩
   have s1 : Keep H (upd H q (.lst [])) l:=Keep.upd_new hq
   have nlq : l ≠ q:=ne_of_none hl hq
   refine ⟨_,rfl,_,rfl,by omega,Int.lt_trans (by omega : n < 1000) (by decide),for_range (n:=n.toNat) (fun i σ H3=>∃ (qs : List Addr) (F : List (List Str)) (ys : List V) (v4 v5 v6 v7 : Option V),σ = [some (.ref m),some (.ref l),some (.int n),some (.ref q),v4,v5,v6,v7] ∧ Keep H H3 l ∧ H3 l = some (.lst ys) ∧ pool ys ∧ PcsAt H3 q qs F ∧ (∀ ls ∈ F,PieceOk M ls) ∧ F.length = i) ⟨[],[],xs,none,none,none,none,rfl,s1,by rw [upd_ne nlq]; exact hl,hp,⟨upd_same,.nil⟩,(fun _ h=>nomatch h),rfl⟩ ?_ ?_⟩
   · rintro i σ H3 hi ⟨qs,F,ys,v4,v5,v6,v7,rfl,k3,hl3,hp3,hF,hok,hFl⟩
     refine ⟨(by show 0 ≤ sizeLine; decide),fun pc hpc=>?_⟩
     have t4 : Same H3 (upd H3 pc (.tup [])):=Same.upd_new hpc
     have u4 : (upd H3 pc (.tup [])) pc = some (.tup (([] : List Str).map V.str)):=upd_same
     generalize upd H3 pc (.tup []) = H4 at t4 u4 ⊢
     have sM : ∀ {H' : Hp},Keep H H' l → Same H0 H':=fun k=>hun.same k
     have k4 : Keep H H4 l:=k3.trans (Same.keep t4 l)
     obtain ⟨ks,hks,pks⟩:=id hM.kp
     have lks:=pks.length
     rw [List.length_map] at lks
     refine ⟨_,rfl,m,.ref a2,rfl,DGet.k (k:=.inr "keepers") (sM k4 _ _ hM.top),a2,rfl,⟨_,SqL.of (sM k4 _ _ hks)⟩,for_list (K:=K) (a:=a2) (xs:=ks.map V.ref) (fun j σ H5=>∃ (pc : Addr) (ls : List Str) (ys : List V) (v6 v7 : Option V),σ = [some (.ref m),some (.ref l),some (.int n),some (.ref q),some (.int (0 + (i : Int))),some (.ref pc),v6,v7] ∧ Keep H H5 l ∧ H5 l = some (.lst ys) ∧ pool ys ∧ PcsAt H5 q qs F ∧ H5 pc = some (.tup (ls.map V.str)) ∧ (∀ z ∈ ls,LitK M z) ∧ ls.length ≤ j) ?_ ?_ ?_ ?_⟩
     · exact ⟨pc,[],ys,_,_,rfl,k4,t4 _ _ hl3,hp3,hF.same t4,u4,(fun _ h=>nomatch h),Nat.le_refl _⟩
     · rintro j σ H5 _ ⟨_,_,_,_,_,_,k5,_⟩
       exact SqL.of (sM k5 _ _ hks)
     · rintro j xv σ H5 hx ⟨pc,ls,ys,v6,v7,rfl,k5,hl5,hp5,hF5,hpc5,hlit,hll⟩
       have hj : j < M.keepers.length:=by
        have:=(List.getElem?_eq_some_iff.mp hx).1
        rw [List.length_map] at this
        omega
       obtain ⟨kt,hkt,eK⟩:=paired_at pks (i:=j) (b:=rowK M.keepers[j]) (by rw [List.getElem?_map,List.getElem?_eq_getElem hj]; rfl)
       have ex : xv = .ref kt:=by
        rw [List.getElem?_map,hkt] at hx
        exact (Option.some.inj hx).symm
       subst ex
       have hmem:=List.getElem_mem hj
       have hnx:=hnm _ hmem
       generalize M.keepers[j] = kr at eK hmem hnx
       have hin : kr.1 ∈ M.keepers.map (·.1):=List.mem_map.mpr ⟨kr,hmem,rfl⟩
       refine ⟨kt,_,rfl,SqT.of (sM k5 _ _ eK),rfl,_,_,rfl,_,_,rfl,rfl,?_⟩
       refine ⟨_,rfl,(by show 0 ≤ sizeLine; decide),fun e0 he0=>?_⟩
       have z0 : Same H5 (upd H5 e0 (.tup [])):=Same.upd_new he0
       have w0 : (upd H5 e0 (.tup [])) e0 = some (.tup (([] : List Str).map V.str)):=upd_same
       generalize upd H5 e0 (.tup []) = H6 at z0 w0 ⊢
       refine ⟨_,rfl,(by show 1 ≤ sizeLine; decide),fun e1 he1=>?_⟩
       have z1 : Same H6 (upd H6 e1 (.tup [.str kr.1])):=Same.upd_new he1
       have w1 : (upd H6 e1 (.tup [.str kr.1])) e1 = some (.tup ([kr.1].map V.str)):=upd_same
       generalize upd H6 e1 (.tup [.str kr.1]) = H7 at z1 w1 ⊢
       refine ⟨_,rfl,_,_,rfl,rfl,hnx.app "~" (by decide +kernel),(by show 1 ≤ sizeLine; decide),fun e2 he2=>?_⟩
       have z2 : Same H7 (upd H7 e2 (.tup [.str ("~" ++ kr.1)])):=Same.upd_new he2
       have w2 : (upd H7 e2 (.tup [.str ("~" ++ kr.1)])) e2 = some (.tup (["~" ++ kr.1].map V.str)):=upd_same
       generalize upd H7 e2 (.tup [.str ("~" ++ kr.1)]) = H8 at z2 w2 ⊢
       refine ⟨(by show 3 ≤ sizeLine; decide),fun e3 he3=>?_⟩
       have z3 : Same H8 (upd H8 e3 (.tup [.ref e0,.ref e1,.ref e2])):=Same.upd_new he3
       have w3 : (upd H8 e3 (.tup [.ref e0,.ref e1,.ref e2])) e3 = some (.tup [.ref e0,.ref e1,.ref e2]):=upd_same
       generalize upd H8 e3 (.tup [.ref e0,.ref e1,.ref e2]) = H9 at z3 w3 ⊢
       have z59:=z0.trans (z1.trans (z2.trans z3))
       have w0':=(z1.trans (z2.trans z3)) _ _ w0
       have w1':=(z2.trans z3) _ _ w1
       have w2':=z3 _ _ w2
       have hl9:=z59 _ _ hl5
       refine ⟨_,rfl,l,ys,3,rfl,hl9,hp5,by decide,by decide,fun d ys2 HA d0 d1 hpA hlA kA=>?_⟩
       have fin : ∀ (e : Addr) (add : List Str),HA e = some (.tup (add.map V.str)) → (∀ z ∈ add,LitK M z) → add.length ≤ 1 → rCatE K (.ref pc) (.ref e) HA fun v H'=>gName 5 v [some (.ref m),some (.ref l),some (.int n),some (.ref q),some (.int (0 + (i : Int))),some (.ref pc),some (.str kr.1),some kr.2] H' (fun σ H5=>∃ (pc : Addr) (ls : List Str) (ys : List V) (v6 v7 : Option V),σ = [some (.ref m),some (.ref l),some (.int n),some (.ref q),some (.int (0 + (i : Int))),some (.ref pc),v6,v7] ∧ Keep H H5 l ∧ H5 l = some (.lst ys) ∧ pool ys ∧ PcsAt H5 q qs F ∧ H5 pc = some (.tup (ls.map V.str)) ∧ (∀ z ∈ ls,LitK M z) ∧ ls.length ≤ j + 1):=by
        intro e add he hadd hal
        refine catE_by (xs:=ls.map V.str) (ys:=add.map V.str) (kA.tup hl9 (z59 _ _ hpc5)) he (by rw [List.length_map,List.length_map]; exact Nat.le_of_lt (small (by omega))) fun p H' sH hp'=>?_
        refine ⟨p,ls ++ add,ys2,_,_,rfl,((k5.trans (Same.keep z59 l)).trans kA).trans (Same.keep sH l),sH _ _ hlA,hpA,?_,by rw [List.map_append]; exact hp',fun z hz=>?_,by rw [List.length_append]; omega⟩
        · have h9:=hF5.same z59
          exact ⟨sH _ _ (kA _ _ h9.at_ (Ne.symm nlq)),Paired.mapP h9.all fun _ _ e=>sH _ _ (kA.tup hl9 e)⟩
        · rcases List.mem_append.mp hz with hz | hz
          · exact hlit z hz
          · exact hadd z hz
       have hA3:=kA.tup hl9 w3
       rcases (show d = 0 ∨ d = 1 ∨ d = 2 by omega) with rfl | rfl | rfl
       · exact ⟨e3,_,0,.ref e0,rfl,rfl,SqT.of hA3,rfl,fin e0 [] (kA.tup hl9 w0') (fun _ h=>nomatch h) (by decide)⟩
       · exact ⟨e3,_,1,.ref e1,rfl,rfl,SqT.of hA3,rfl,fin e1 [kr.1] (kA.tup hl9 w1') (fun z h=>⟨kr.1,hin,.inl (List.mem_singleton.mp h)⟩) (Nat.le_refl _)⟩
       · exact ⟨e3,_,2,.ref e2,rfl,rfl,SqT.of hA3,rfl,fin e2 ["~" ++ kr.1] (kA.tup hl9 w2') (fun z h=>⟨kr.1,hin,.inr (List.mem_singleton.mp h)⟩) (Nat.le_refl _)⟩
     · rintro σ H5 ⟨pc,ls,ys,v6,v7,rfl,k5,hl5,hp5,hF5,hpc5,hlit,hll⟩
       rw [List.length_map] at hll
       have hqs:=hF5.len
       refine ⟨_,rfl,.inl ⟨rfl,_,SqL.of hF5.at_⟩,_,rfl,q,_,_,rfl,rfl,hF5.at_,(by rw [List.length_map]; exact small (by omega)),?_⟩
       have nt : ∀ {b : Addr} {xs : List V},H5 b = some (.tup xs) → b ≠ q:=fun hb=>ne_of hb hF5.at_ (by intro z; cases z)
       refine ⟨qs ++ [pc],F ++ [ls],ys,_,_,_,_,rfl,fun b o hb hn=>?_,by rw [upd_ne nlq]; exact hl5,hp5,⟨by rw [upd_same,List.map_append]; rfl,paired_append (Paired.mapP hF5.all fun a c e=>by rw [upd_ne (nt e)]; exact e) (.cons (by rw [upd_ne (nt hpc5)]; exact hpc5) .nil)⟩,fun z hz=>?_,by rw [List.length_append,List.length_singleton,hFl]⟩
       · rw [upd_ne (ne_of_none hb hq)]
         exact k5 b o hb hn
       · rcases List.mem_append.mp hz with hz | hz
         · exact hok z hz
         · rw [List.mem_singleton.mp hz]
           exact ⟨hlit,by omega⟩
   · rintro σ H3 ⟨qs,F,ys,v4,v5,v6,v7,rfl,k3,hl3,hp3,hF,hok,hFl⟩
     exact ⟨_,rfl,kk q qs F ys H3 k3 hl3 hp3 hF hok hFl⟩
end
end Gen
namespace Gen
open PySem L2
def signP (b : Int) : Str:=if b = 0 then "" else "~"
def litsOf (M : Mach) (cs : List Int) : List Str:=(M.keepers.zip cs).map fun p=>signP p.2 ++ p.1.1
theorem sign_len (b : Int) : (signP b).length ≤ 1:=by
 unfold signP
 split
 · decide +kernel
 · decide +kernel
theorem litsOf_ok {M : Mach} {cs : List Int} (h : M.keepers.length ≤ 16) : PieceOk M (litsOf M cs):=by
 refine ⟨fun l hl=>?_,?_⟩
 · obtain ⟨p,hp,rfl⟩:=List.mem_map.mp hl
   refine ⟨p.1.1,List.mem_map.mpr ⟨p.1,(List.of_mem_zip hp).1,rfl⟩,?_⟩
   unfold signP
   split
   · left
     exact str_ext (by rw [app_cps,empty_cps,List.nil_append])
   · exact .inr rfl
 · unfold litsOf
   rw [List.length_map,List.length_zip]
   omega
section
variable {P : Program} {w : World} {K : PySem.W.Frag} {mg : Str → Option Value} {base : Heap}
theorem ok_apart {f fA fR : Addr} {fd dA dR : FuncData} (F : Fun K "_law_apart" "_law_apart" sApart f fd) (O2 : Own2 mg)
 (gA : FnOk P w K mg base CX0 1 fA dA ["_law_many"] (spAllB K)) (mA : mg "_law_all_bits" = some (.ref fA)) (kA : PySem.W.keepIn K (.ref fA) = true) (bA : Binds K dA ["_law_many"] [])
 (gR : FnOk P w K mg base CX0 4 fR dR ["_law_m"] (spRings K)) (mR : mg "_law_rings" = some (.ref fR)) (kR : PySem.W.keepIn K (.ref fR) = true) (bR : Binds K dR ["_law_m"] []) : FnOk P w K mg base CX0 5 f fd ["_law_m"] (spApart K):=by
 refine F.ok scAp (fun vs H Q E h=>?_) (fun cdv A outer s H vs Q E hr h=>?_)
 · obtain ⟨m,a1,a2,a3,a4,a5,a6,M,names,rfl,_⟩:=h
   rfl
 · obtain ⟨m,a1,a2,a3,a4,a5,a6,M,names,rfl,hM,hm,k4,w3,kk⟩:=h
   have hu:=hu_of hr
   have hr1 : Room 1 _:=hr.mono (by decide)
   refine ⟨_,pss_cons (ps_set (i:=1) scAp.nd rfl (Or.inl rfl) (pe_call gR hr rfl mR kR bR .nil pass0 (pa_cons (pv 0) pa_nil)))
    (pss_cons (ps_set (i:=2) scAp.nd rfl (Or.inl rfl) (pe_lst pa_nil))
    (pss_cons (ps_for PassesOwn.never rfl (pi_list (pe_call gA hr1 rfl mA kA bA .nil pass0 (pa_cons (pe_callB call_len_seq (by rfl) O2.len PySem.boot_len (pa_cons (pe_dget hu (pv 0) pe_str (fun _ _=>rfl)) pa_nil)) pa_nil))) (pg_name (i:=3) scAp.nd rfl (Or.inl rfl))
     (pss_one (ps_if (pt_cmp (pc_dnotin hu (pv 3) (pv 1)) (by with_unfolding_all rfl))
      (pss_one (ps_expr (pe_bm PySem.F.plainAttrs_list PySem.F.slot_list_append PySem.F.type_list_append mt_append (pv 2) (pa_cons (pe_callTy call_tuple_of (by rfl) O2.tuple PyProof.Rows.boot_tuple (pa_cons
       (pe_lc (N:=["_law_keeper", "_law_bit_here"]) (js:=[none,none]) (g:=gTup K 2 (gCons (gName 0) (gCons (gName 1) gNil))) (by kernel_rfl) rfl (pi_zipL (by rfl) O2.zip (pa_cons (pe_dget hu (pv 0) pe_str (fun _ _=>rfl)) (pa_cons (pv 3) pa_nil)))
        (fun _ _ _ _ _ _=>pg_tup rfl (pgs_cons (pg_name (i:=0) ndKB rfl (Or.inl rfl) (.inr rfl)) (pgs_cons (pg_name (i:=1) ndKB rfl (Or.inl rfl) (.inr rfl)) pgs_nil))) (fun _ _ _ _ _ _=>pifs_nil)
        (fun _ _ _ _ _ _=>pe_op op_add_str (pe_ix (r:=rIxL K) ix_list (pe_lst (pa_cons pe_str (pa_cons pe_str pa_nil))) (pv 1) (fun _ _=>rfl)) (pe_ix (r:=rIxT K) ix_tup (pv 0) pe_int (fun _ _=>rfl)))) pa_nil)) pa_nil)))) pss_nil)))
    (pss_one (ps_ret (pv 2))))),?_⟩
   refine ⟨_,rfl,m,a1,a2,a3,a4,a5,a6,M,names,rfl,hM,hm,k4,w3,fun d kvs L H1 s1 hd hd1 hR=>?_⟩
   refine ⟨(by show 0 ≤ sizeLine; decide),fun q hq=>?_⟩
   have t2 : Same H1 (upd H1 q (.lst [])):=Same.upd_new hq
   have u2 : (upd H1 q (.lst [])) q = some (.lst (([] : List Addr).map V.ref)):=upd_same
   have hq0 : H q = none:=s1.free hq
   generalize upd H1 q (.lst []) = H2 at t2 u2 ⊢
   have s2:=s1.trans t2
   obtain ⟨ks,hks,pks⟩:=id hM.kp
   have lks:=pks.length
   rw [List.length_map] at lks
   refine ⟨_,rfl,m,.ref a2,rfl,DGet.k (k:=.inr "keepers") (s2 _ _ hM.top),a2,_,rfl,.inl (SqL.of (s2 _ _ hks)),?_⟩
   rw [List.length_map]
   refine ⟨_,rfl,by omega,by omega,fun p gs H3 s3 hp hp3 hgs=>?_⟩
   rw [show ((ks.length : Int)).toNat = M.keepers.length by omega] at hgs
   have hgl:=hgs.length
   have hrl:=ris_len M.keepers.length
   have h64 : 2 ^ M.keepers.length ≤ 2 ^ 4:=Nat.pow_le_pow_right (by decide) k4
   have hre:=ris_bits M.keepers.length
   generalize risL M.keepers.length = rows at hgs hgl hrl hre
   have s03:=s2.trans s3
   have hq3:=s3 _ _ u2
   have hd3:=s3 _ _ (t2 _ _ hd1)
   have npq : p ≠ q:=fun e=>by rw [e] at hp; rw [u2] at hp; cases hp
   refine ⟨p,rfl,⟨_,SqL.of hp3⟩,for_list (K:=K) (a:=p) (xs:=gs.map V.ref) (fun i σ H4=>∃ (qs : List Addr) (F : List (List Str)) (v3 : Option V),σ = [some (.ref m),some (.ref d),some (.ref q),v3] ∧ (∀ b o,H3 b = some o → b ≠ q → H4 b = some o) ∧ PcsAt H4 q qs F ∧ (∀ ls ∈ F,PieceOk M ls) ∧ F.length ≤ i) ?_ ?_ ?_ ?_⟩
   · exact ⟨[],[],none,rfl,fun _ _ h _=>h,⟨hq3,.nil⟩,(fun _ h=>nomatch h),Nat.le_refl _⟩
   · rintro i σ H4 _ ⟨_,_,_,_,k,_⟩
     exact SqL.of (k _ _ hp3 npq)
   · rintro i xv σ H4 hx ⟨qs,F,v3,rfl,k,hF,hok,hFl⟩
     have hi : i < rows.length:=by
      have:=(List.getElem?_eq_some_iff.mp hx).1
      rw [List.length_map] at this
      omega
     obtain ⟨t,ht,hT⟩:=paired_at hgs (i:=i) (List.getElem?_eq_getElem hi)
     have ex : xv = .ref t:=by
      rw [List.getElem?_map,ht] at hx
      exact (Option.some.inj hx).symm
     subst ex
     have hcb:=hre _ (List.getElem_mem hi)
     generalize rows[i] = cs at hT hcb
     have kt : ∀ {b : Addr} {xs : List V},H3 b = some (.tup xs) → H4 b = some (.tup xs):=fun h=>k _ _ h (ne_of h hq3 (by intro z; cases z))
     have k0 : Same H H4:=fun b o h=>k _ _ (s03 _ _ h) (ne_of_none h hq0)
     have hd4:=k _ _ hd3 (ne_of hd3 hq3 (by intro z; cases z))
     have hT4 : TupI H4 t cs:=kt hT
     have hkey : H4 t = some (.tup ((toK cs).map kV)):=by rw [toK_kV]; exact hT4
     refine ⟨_,rfl,_,rfl,d,_,rfl,DGet.t (k:=toK cs) hd4 hkey,_,rfl,ite2 (fun _=>?_) (fun _=>?_)⟩
     · refine ⟨_,rfl,.inl ⟨rfl,_,SqL.of hF.at_⟩,_,rfl,m,.ref a2,rfl,DGet.k (k:=.inr "keepers") (k0 _ _ hM.top),_,rfl,a2,t,rfl,⟨_,SqL.of (k0 _ _ hks)⟩,⟨_,SqT.of hT4⟩,fun D hD=>?_⟩
       have hl:=hcb.1
       refine lc_by M.keepers.length (fun j acc σ H5=>acc = ((litsOf M cs).take j).map V.str ∧ (∃ u v,σ = [u,v]) ∧ Same H4 H5) ⟨rfl,⟨none,none,rfl⟩,Same.upd_new hD⟩ upd_same ?_ ?_
       · rintro acc σ H5 hDD ⟨rfl,_,s5⟩
         rw [List.take_of_length_le (by unfold litsOf; rw [List.length_map,List.length_zip]; omega)] at hDD
         refine ⟨⟨_,(show ZK K false H5 a2 _ from SqL.of (s5 _ _ (k0 _ _ hks))),by rw [List.length_map,lks]; exact Nat.le_refl _⟩,D,_,rfl,.inl ⟨SqL.of hDD,fun t2 ht2=>?_⟩⟩
         have s6 : Same H5 (upd H5 t2 (.tup ((litsOf M cs).map V.str))):=Same.upd_new ht2
         have u6 : (upd H5 t2 (.tup ((litsOf M cs).map V.str))) t2 = some (.tup ((litsOf M cs).map V.str)):=upd_same
         generalize upd H5 t2 (.tup ((litsOf M cs).map V.str)) = H6 at s6 u6 ⊢
         have hF6:=hF.same (s5.trans s6)
         have hql:=hF6.len
         refine ⟨q,_,_,rfl,rfl,hF6.at_,(by rw [List.length_map]; exact small (by omega)),?_⟩
         have nt : ∀ {b : Addr} {xs : List V},H6 b = some (.tup xs) → b ≠ q:=fun hb=>ne_of hb hF6.at_ (by intro z; cases z)
         refine ⟨qs ++ [t2],F ++ [litsOf M cs],_,rfl,fun b o hb hn=>?_,⟨by rw [upd_same,List.map_append]; rfl,paired_append (Paired.mapP hF6.all fun a c e=>by rw [upd_ne (nt e)]; exact e) (.cons (by rw [upd_ne (nt u6)]; exact u6) .nil)⟩,fun z hz=>?_,by rw [List.length_append,List.length_singleton]; omega⟩
         · rw [upd_ne hn]
           exact (s5.trans s6) _ _ (k b o hb hn)
         · rcases List.mem_append.mp hz with hz | hz
           · exact hok z hz
           · rw [List.mem_singleton.mp hz]
             exact litsOf_ok (by omega)
       · rintro j acc σ H5 hj hDD ⟨rfl,⟨u,v,rfl⟩,s5⟩
         have hjc : j < cs.length:=by omega
         obtain ⟨kt2,hkt,eK⟩:=paired_at pks (i:=j) (b:=rowK M.keepers[j]) (by rw [List.getElem?_map,List.getElem?_eq_getElem hj]; rfl)
         have e1 : (ks.map V.ref)[j]? = some (.ref kt2):=by rw [List.getElem?_map,hkt]; rfl
         have e2 : (cs.map V.int)[j]? = some (.int cs[j]):=by rw [List.getElem?_map,List.getElem?_eq_getElem hjc]; rfl
         have z1 : ZK K false H5 a2 (ks.map V.ref):=SqL.of (s5 _ _ (k0 _ _ hks))
         have z2 : ZK K true H5 t (cs.map V.int):=SqT.of (s5 _ _ hT4)
         refine ⟨⟨_,_,_,_,z1,z2,e1,e2⟩,?_⟩
         rintro x' H' ⟨Tp,xa,xb,rfl,hTp,rfl,h1,h2⟩
         have e3:=h1 _ z1
         have e4:=h2 _ z2
         rw [e1] at e3
         rw [e2] at e4
         cases e3
         cases e4
         have sT : Same H5 (upd H5 Tp (.tup [.ref kt2,.int cs[j]])):=Same.upd_new hTp
         refine ⟨Tp,_,rfl,SqT.of upd_same,rfl,_,_,rfl,_,_,rfl,rfl,yes_if ?_⟩
         generalize upd H5 Tp (.tup [.ref kt2,.int cs[j]]) = H6 at sT ⊢
         have eK6:=sT _ _ (s5 _ _ (k0 _ _ eK))
         have htk : (litsOf M cs).take (j + 1) = (litsOf M cs).take j ++ [signP cs[j] ++ M.keepers[j].1]:=by
          have : (litsOf M cs)[j]? = some (signP cs[j] ++ M.keepers[j].1):=by
           unfold litsOf
           rw [List.getElem?_map,(List.getElem?_zip_eq_some (z:=(M.keepers[j],cs[j]))).mpr ⟨List.getElem?_eq_getElem hj,List.getElem?_eq_getElem hjc⟩]
           rfl
          rw [List.take_succ,this]
          rfl
         have hbit:=hcb.2 _ (List.getElem_mem hjc)
         have hnx : NameS M.keepers[j].1:=hm.ok.nm _ (by rw [hm.ok.all]; exact List.mem_append_left _ (List.mem_append_right _ (List.mem_map.mpr ⟨_,List.getElem_mem hj,rfl⟩)))
         generalize cs[j] = b at htk hbit
         refine ⟨(by show 2 ≤ sizeLine; decide),fun e he=>?_⟩
         have sE : Same H6 (upd H6 e (.lst [.str "",.str "~"])):=Same.upd_new he
         have uE : (upd H6 e (.lst [.str "",.str "~"])) e = some (.lst [.str "",.str "~"]):=upd_same
         generalize upd H6 e (.lst [.str "",.str "~"]) = H7 at sE uE ⊢
         have s47:=s5.trans (sT.trans sE)
         refine ⟨_,rfl,e,_,b,.str (signP b),rfl,rfl,SqL.of uE,(by rcases hbit with rfl | rfl <;> rfl),_,rfl,kt2,_,0,.str M.keepers[j].1,rfl,rfl,SqT.of (sE _ _ eK6),rfl,_,_,rfl,rfl,hnx.app _ (sign_len b),?_⟩
         refine ⟨_,sE _ _ (sT _ _ hDD),?_,lcW_next hj upd_same ⟨?_,⟨_,_,rfl⟩,fun y o hy=>?_⟩⟩
         · rw [List.length_map,List.length_take]
           exact small (by omega)
         · rw [htk,List.map_append]
           rfl
         · rw [upd_ne (ne_of_none hy hD)]
           exact s47 y o hy
     · exact ⟨qs,F,_,rfl,k,hF,hok,by omega⟩
   · rintro σ H4 ⟨qs,F,v3,rfl,k,hF,hok,hFl⟩
     rw [List.length_map] at hFl
     exact ⟨_,rfl,kk q qs F H4 (fun b o h=>k _ _ (s03 _ _ h) (ne_of_none h hq0)) hF hok (by omega)⟩
end
end Gen
namespace L2
open PySem PySem.Spec PyProof.Rows
theorem paired_ix {α β : Type} {F : α → β → Prop} : ∀ {l₁ : List α} {l₂ : List β} {i : Nat} {b : β},Paired F l₁ l₂ → l₂[i]? = some b → ∃ a,l₁[i]? = some a ∧ F a b
 | _,_,_,_,.nil,h=>by simp at h
 | _,_,0,_,.cons h t,e=>⟨_,rfl,by simp at e; subst e; exact h⟩
 | _,_,i + 1,_,.cons h t,e=>by
  obtain ⟨a,h1,h2⟩:=paired_ix (i:=i) t (by simpa using e)
  exact ⟨a,by simpa using h1,h2⟩
section
variable {X : Cx}
def rInP (K : PySem.W.Frag) : R2:=fun x y H Q=>∃ (t l : Addr) (a b : Str) (ts : List Addr) (ps : List (Str × Str)),x = .ref t ∧ y = .ref l ∧ H t = some (.tup [.str a,.str b]) ∧ SqL K H l (ts.map V.ref) ∧ Paired (fun u p=>H u = some (.tup [.str p.1,.str p.2])) ts ps ∧ t ∉ ts ∧ Q (.bl (decide ((a,b) ∈ ps))) H
open Classical in
theorem op_in_pairs (hu : X.A.units + 1 < cLine) : OpR X (compareOp .In) (rInP X.K):=by
 intro pins s σ H x y v u Q I rx ry h
 obtain ⟨t,l,a,b,ts,ps,rfl,rfl,ht,hl,hp,hn,q⟩:=h
 cases (show v = Value.ref t from rx)
 cases (show u = Value.ref l from ry)
 obtain ⟨its,rv,pl,hz⟩:=I.list hl
 obtain ⟨jts,rt,pt,_⟩:=I.tuple (SqT.of ht)
 obtain ⟨x1,x2,ej,r1,r2⟩:=vals2 rt
 subst ej
 have at_ : ∀ w,w ∈ its → ∃ (d : Addr) (p : Str × Str),w = Value.ref d ∧ d ∈ ts ∧ p ∈ ps ∧ H d = some (.tup [.str p.1,.str p.2]):=by
  intro w hw
  obtain ⟨i,hi,e⟩:=List.getElem_of_mem hw
  have hlen:=rv.length
  rw [List.length_map] at hlen
  have hi2 : i < ts.length:=by omega
  have hl2:=hp.length
  have hi3 : i < ps.length:=by omega
  obtain ⟨w',e1,e2⟩:=rv.get (x:=.ref ts[i]) (by rw [List.getElem?_map,List.getElem?_eq_getElem hi2]; rfl)
  rw [List.getElem?_eq_getElem hi,e] at e1
  cases e1
  obtain ⟨d,hd,hD⟩:=paired_ix hp (i:=i) (List.getElem?_eq_getElem hi3)
  rw [List.getElem?_eq_getElem hi2] at hd
  cases hd
  exact ⟨ts[i],ps[i],e2,List.getElem_mem hi2,List.getElem_mem hi3,hD⟩
 refine SeqAt.in_listAt (fun w=>decide (∃ d : Addr,w = Value.ref d ∧ H d = some (.tup [.str a,.str b]))) pl.isList (fun w hw=>?_) ⟨.bl _,H,I,rfl,?_⟩
 · obtain ⟨d,p,rfl,hd,_,hD⟩:=at_ w (by simpa using hw)
   obtain ⟨dts,rd,pd,_⟩:=I.tuple (SqT.of hD)
   obtain ⟨y1,y2,ed,s1,s2⟩:=vals2 rd
   subst ed
   have hne : d ≠ t:=fun e=>hn (e ▸ hd)
   have key:=SeqAt.EqAt.of_refs hne (SeqAt.RcAt.tuples (A:=X.A.in1) (s:=s) (e:=fun j=>if j = 0 then eqV (.str p.1) (.str a) else eqV (.str p.2) (.str b)) pd pt (by show X.A.units + 1 < cLine; exact hu) (fun j g1 g2=>?_))
   · have ee : ((List.range (min [y1,y2].toArray.size [x1,x2].toArray.size)).all (fun j=>if j = 0 then eqV (.str p.1) (.str a) else eqV (.str p.2) (.str b)) && [y1,y2].toArray.size == [x1,x2].toArray.size) = decide (∃ d' : Addr,Value.ref d = Value.ref d' ∧ H d' = some (.tup [.str a,.str b])):=by
      show ((List.range 2).all _ && true) = _
      rw [Bool.and_true,Bool.eq_iff_iff,decide_eq_true_eq]
      simp only [List.range_succ,List.range_zero,List.nil_append,List.all_append,List.all_cons,List.all_nil,Bool.and_true,Bool.and_eq_true,if_pos,eqV,beq_iff_eq]
      constructor
      · rintro ⟨e1,e2⟩
        refine ⟨d,rfl,?_⟩
        rw [hD,e1,show p.2 = b by simpa using e2]
      · rintro ⟨d',e,h'⟩
        cases e
        rw [hD] at h'
        simp at h'
        exact ⟨h'.1,by simpa using h'.2⟩
     rw [ee] at key
     exact key
   · match j,g1 with
     | 0,_=>exact eqAt_V s1 r1 rfl rfl
     | 1,_=>exact eqAt_V s2 r2 rfl rfl
 · have e : its.toArray.any (fun w=>decide (∃ d : Addr,w = Value.ref d ∧ H d = some (.tup [.str a,.str b]))) = decide ((a,b) ∈ ps):=by
    rw [Bool.eq_iff_iff,decide_eq_true_eq]
    rw [show its.toArray.any (fun w=>decide (∃ d : Addr,w = Value.ref d ∧ H d = some (.tup [.str a,.str b]))) = its.any (fun w=>decide (∃ d : Addr,w = Value.ref d ∧ H d = some (.tup [.str a,.str b]))) by simp,List.any_eq_true]
    constructor
    · rintro ⟨w,hw,hd⟩
      obtain ⟨d,p,rfl,_,hpm,hD⟩:=at_ w hw
      obtain ⟨d',e,h'⟩:=of_decide_eq_true hd
      cases e
      rw [hD] at h'
      simp at h'
      have : p = (a,b):=Prod.ext h'.1 h'.2
      exact this ▸ hpm
    · intro hm
      obtain ⟨i,hi,e⟩:=List.getElem_of_mem hm
      obtain ⟨d,hd,hD⟩:=paired_ix hp (i:=i) (List.getElem?_eq_getElem hi)
      obtain ⟨w',e1,e2⟩:=rv.get (x:=.ref d) (by rw [List.getElem?_map,hd]; rfl)
      refine ⟨w',List.mem_of_getElem? e1,decide_eq_true ⟨d,e2,?_⟩⟩
      rw [hD,e]
   rw [e]
   exact q
end
end L2
namespace L2
open PySem PySem.Spec PyProof.Rows PySem.W
section
variable {X : Cx}
def qus (k : Nat) : Str:=⟨(List.replicate k 113).toArray⟩
theorem rep_foldlC (c : Nat) (acc : Array Nat) : ∀ k : Nat,((List.replicate k (#[c] : Array Nat)).foldl (· ++ ·) acc).toList = acc.toList ++ List.replicate k c:=by
 intro k
 induction k generalizing acc with
 | zero=>simp
 | succ k ih =>
  rw [List.replicate_succ,List.foldl_cons,ih,List.replicate_succ]
  simp
def rQus : R2:=fun x y H Q=>∃ k : Nat,x = .str "q" ∧ y = .int (k : Int) ∧ k ≤ 1000 ∧ Q (.str (qus k)) H
theorem op_qus : OpR X (binaryOp .Mult) rQus:=by
 intro pins s σ H x y v u Q I rx ry h
 obtain ⟨k,rfl,rfl,hk,q⟩:=h
 obtain ⟨t,rfl⟩:=rx
 obtain ⟨t',rfl⟩:=ry
 have e32 : ("q" : Str) = ⟨#[113]⟩:=by decide +kernel
 have el : (("q" : Str).length) = 1:=by decide +kernel
 refine P.mul_str ?_ (fun _ _=>?_) (fun _ _=>?_) ?_
 · rw [decide_eq_false (by omega),decide_eq_false (by omega)]
   rfl
 · rw [el]
   have h1 : (1 : Int) ≤ (2 ^ 63 - 1) / (k : Int) ∨ k = 0:=by
    rcases Nat.eq_zero_or_pos k with h | h
    · exact .inr h
    · left
      have:=(Int.le_ediv_iff_mul_le (a:=1) (b:=(2 ^ 63 - 1 : Int)) (c:=(k : Int)) (by omega)).mpr (by omega)
      exact this
   rcases h1 with h1 | h1
   · omega
   · subst h1
     omega
 · rw [el,Nat.one_mul,Int.toNat_natCast]
   unfold Builtin.Str.tooLong sizeLine
   exact decide_eq_false (by omega)
 · by_cases h0 : (k : Int) < 1
   · rw [if_pos h0]
     have : k = 0:=by omega
     subst this
     exact ⟨by decide,.str (qus 0),H,I.tok _,⟨_,rfl⟩,q⟩
   · rw [if_neg h0]
     by_cases h1 : k = 1
     · subst h1
       rw [if_pos (by decide +kernel)]
       refine ⟨.str (qus 1),H,I,⟨t,?_⟩,q⟩
       rw [e32]
       rfl
     · have hb : ((k : Int) == 1 || ("q" : Str).length == 0) = false:=by
        rw [el,Bool.or_eq_false_iff]
        exact ⟨beq_eq_false_iff_ne.mpr (by omega),rfl⟩
       rw [if_neg (by rw [hb]; exact Bool.false_ne_true)]
       have ef : (⟨(List.replicate (k : Int).toNat ("q" : Str).cps).foldl (· ++ ·) #[]⟩ : Str) = qus k:=by
        rw [Int.toNat_natCast,e32]
        unfold qus
        congr 1
        apply Array.toList_inj.mp
        rw [rep_foldlC]
        simp
       rw [ef]
       refine ⟨?_,.str (qus k),H,I.tok _,⟨_,rfl⟩,q⟩
       show (qus k).length ≤ sizeLine
       have : (qus k).length = k:=by simp [qus,Str.length]
       rw [this]
       exact Nat.le_trans hk (by decide)
end
end L2
namespace Gen
open PySem L2
abbrev sWn : Stmt:=top 28
def qusL : List Str:=(List.range 8).map fun k=>qus (k + 1)
def candN : List Str:=(["no", "none", "nought"] : List Str) ++ qusL
theorem candN_nd : candN.Nodup:=by
 have : decide (candN.Nodup) = true:=by decide +kernel
 exact of_decide_eq_true this
theorem candN_names : ∀ x ∈ candN,NameS x:=by
 have h : candN.all (fun x=>decide (1 ≤ x.cps.toList.length) && decide (x.cps.toList.length ≤ 8) && x.cps.toList.all fun c=>decide (c ∈ letters)) = true:=by decide +kernel
 intro x hx
 have:=List.all_eq_true.mp h x hx
 simp only [Bool.and_eq_true,decide_eq_true_eq,List.all_eq_true] at this
 exact ⟨this.1.1,this.1.2,this.2⟩
theorem candN_free (told : List Str) (h : told.length < 11) : ∃ x ∈ candN,x ∉ told:=by
 have hl : candN.length = 11:=by decide +kernel
 refine Classical.byContradiction fun hc=>?_
 have:=nodup_le candN told candN_nd fun x hx=>Classical.byContradiction fun hn=>hc ⟨x,hx,hn⟩
 omega
def Mach.plus (M : Mach) (nm : Str) : Mach:={ M with nevers:=M.nevers ++ [(nm,("0" : Str))] }
theorem Fm.plus {M : Mach} {names : List Str} (h : Fm M names) {nm : Str} (hn : NameS nm) (h1 : nm ∉ (M.nevers ++ M.somes).map (·.1)) : Fm (M.plus nm) names:=by
 rw [List.map_append,List.mem_append,not_or] at h1
 have w:=h.ok.nvw
 have w2:=h.ok.smw
 refine ⟨⟨h.ok.all,h.ok.nm,h.ok.nd,h.ok.first,h.ok.nxk,h.ok.nxl,h.ok.nxd,⟨?_,?_,(fun _ _ h=>nomatch h),?_⟩,⟨w2.nm,w2.lit,?_,w2.nd⟩,h.ok.gl⟩,h.n1,h.n2,h.n3⟩
 · intro r hr
   rcases List.mem_append.mp hr with hr | hr
   · exact w.nm r hr
   · rw [List.mem_singleton.mp hr]; exact hn
 · intro r hr
   rcases List.mem_append.mp hr with hr | hr
   · exact w.lit r hr
   · rw [List.mem_singleton.mp hr]; exact .inl rfl
 · show ((M.nevers ++ [(nm,("0" : Str))]).map (·.1)).Nodup
   rw [List.map_append]
   exact nodup_snoc w.nd h1.1
 · intro r hr hin
   change r.1 ∈ (M.nevers ++ [(nm,("0" : Str))]).map (·.1) at hin
   rw [List.map_append] at hin
   rcases List.mem_append.mp hin with hin | hin
   · exact w2.ut r hr hin
   · have : r.1 = nm:=List.mem_singleton.mp hin
     exact h1.2 (this ▸ List.mem_map.mpr ⟨r,hr,rfl⟩)
def spWn (K : PySem.W.Frag) : Sp:=fun vs H Q _=>∃ (m a1 a2 a3 a4 a5 a6 : Addr) (M : Mach) (names : List Str),vs = [.ref m] ∧ MachAt H m M a1 a2 a3 a4 a5 a6 ∧ Fm M names ∧ M.nevers.length + M.somes.length ≤ 10 ∧
 ∀ nm H',(∀ b o,H b = some o → b ≠ a5 → H' b = some o) → MachAt H' m (M.plus nm) a1 a2 a3 a4 a5 a6 → Fm (M.plus nm) names → Q (.str nm) H'
abbrev nWn : List Str:=["_law_m", "_law_told", "_law_name"]
theorem ndOne : (["_law_one"] : List Str).Nodup:=by decide +kernel
theorem ndK1 : (["_law_k"] : List Str).Nodup:=by decide +kernel
theorem ndOnT : (["_law_one", "_law_told"] : List Str).Nodup:=by decide +kernel
section
variable {P : Program} {w : World} {K : PySem.W.Frag} {mg : Str → Option Value} {base : Heap}
theorem scWn : FnScope nWn ["_law_m"] (defScope sWn):=⟨rfl,rfl,rfl,by decide +kernel,rfl,by decide +kernel,by decide +kernel⟩
theorem ok_wn {f : Addr} {fd : FuncData} (F : Fun K "_law_with_nought" "_law_with_nought" sWn f fd) (T : Own mg) : FnOk P w K mg base CX0 1 f fd ["_law_m"] (spWn K):=by
 refine F.ok scWn (fun vs H Q E h=>?_) (fun cdv A outer s H vs Q E hr h=>?_)
 · obtain ⟨m,a1,a2,a3,a4,a5,a6,M,names,rfl,_⟩:=h
   rfl
 · obtain ⟨m,a1,a2,a3,a4,a5,a6,M,names,rfl,hM,hm,h10,kk⟩:=h
   have hu:=hu_of hr
   refine ⟨_,pss_cons (ps_set (i:=1) scWn.nd rfl (Or.inr rfl) (pe_lc (N:=["_law_one"]) (js:=[none]) (by kernel_rfl) rfl (pi_list (pe_op op_cat (pe_dget hu (pv 0) pe_str (fun _ _=>rfl)) (pe_dget hu (pv 0) pe_str (fun _ _=>rfl)))) (fun _ _ _ _ _ _=>pg_name (i:=0) ndOne rfl (Or.inl rfl) (.inr rfl)) (fun _ _ _ _ _ _=>pifs_nil) (fun _ _ _ _ _ _=>pe_ix (r:=rIxT K) ix_tup (pv 0) pe_int (fun _ _=>rfl))))
    (pss_cons (ps_set (i:=2) scWn.nd rfl (Or.inl rfl) (pe_ix ix_list
     (pe_lc (N:=["_law_one", "_law_told"]) (js:=[none,some 1]) (by kernel_rfl) rfl (pi_list (pe_op op_cat (pe_lst (pa_cons pe_str (pa_cons pe_str (pa_cons pe_str pa_nil)))) (pe_lc (N:=["_law_k"]) (js:=[none]) (by kernel_rfl) rfl (pi_range2 rfl T.range (pa_cons pe_int (pa_cons pe_int pa_nil))) (fun _ _ _ _ _ _=>pg_name (i:=0) ndK1 rfl (Or.inl rfl) (.inr rfl)) (fun _ _ _ _ _ _=>pifs_nil) (fun _ _ _ _ _ _=>pe_op op_qus pe_str (pv 0))))) (fun _ _ _ _ _ _=>pg_name (i:=0) ndOnT rfl (Or.inl rfl) (.inr rfl))
      (fun _ _ _ _ _ _=>pifs_one (pt_cmpR (r:=rIn K true) op_notIn_seq (pv 0) (pv 1) (by with_unfolding_all rfl))) (fun _ _ _ _ _ _=>pv 0)) pe_int (fun _ _=>rfl)))
    (pss_cons (ps_expr (pe_bm PySem.F.plainAttrs_list PySem.F.slot_list_append PySem.F.type_list_append mt_append (pe_dget hu (pv 0) pe_str (fun _ _=>rfl)) (pa_cons (pe_tup (pa_cons (pv 2) (pa_cons pe_str pa_nil))) pa_nil)))
    (pss_one (ps_ret (pv 2))))),?_⟩
   obtain ⟨ts,h5,hts⟩:=id hM.nv
   obtain ⟨us,h6,hus⟩:=id hM.sm
   have lts:=hts.length
   have lus:=hus.length
   rw [List.length_map] at lts lus
   refine ⟨_,rfl,m,.ref a5,rfl,DGet.k (k:=.inr "nevers") hM.top,_,rfl,m,.ref a6,rfl,DGet.k (k:=.inr "somes") hM.top,a5,a6,_,_,rfl,rfl,h5,h6,(by rw [List.length_map,List.length_map]; exact Nat.le_of_lt (small (by omega))),fun p hp=>?_⟩
   have s1 : Same H (upd H p (.lst (ts.map V.ref ++ us.map V.ref))):=Same.upd_new hp
   have u1 : (upd H p (.lst (ts.map V.ref ++ us.map V.ref))) p = some (.lst ((ts ++ us).map V.ref)):=by rw [upd_same,List.map_append]
   generalize upd H p (.lst (ts.map V.ref ++ us.map V.ref)) = H1 at s1 u1 ⊢
   have hpr : Paired (fun t r=>H1 t = some (.tup r)) (ts ++ us) ((M.nevers ++ M.somes).map row2):=by
    rw [List.map_append]
    exact paired_append (Paired.mapP hts fun _ _ e=>s1 _ _ e) (Paired.mapP hus fun _ _ e=>s1 _ _ e)
   refine ⟨p,rfl,⟨_,SqL.of u1⟩,fun D hD=>lc_firsts hD u1 hpr (by rw [List.length_append]; omega) ?_⟩
   have s2 : Same H1 (upd H1 D (.lst (((M.nevers ++ M.somes).map (·.1)).map V.str))):=Same.upd_new hD
   have u2 : (upd H1 D (.lst (((M.nevers ++ M.somes).map (·.1)).map V.str))) D = some (.lst (((M.nevers ++ M.somes).map (·.1)).map V.str)):=upd_same
   generalize upd H1 D (.lst (((M.nevers ++ M.somes).map (·.1)).map V.str)) = H2 at s2 u2 ⊢
   have s02:=s1.trans s2
   have htl : ((M.nevers ++ M.somes).map (·.1)).length < 11:=by rw [List.length_map,List.length_append]; omega
   have hpl:=fun nm hn h1=>hm.plus (nm:=nm) hn h1
   generalize (M.nevers ++ M.somes).map (·.1) = told at u2 htl hpl
   refine ⟨(by show 3 ≤ sizeLine; decide),fun q hq=>?_⟩
   have s3 : Same H2 (upd H2 q (.lst [.str "no",.str "none",.str "nought"])):=Same.upd_new hq
   have u3 : (upd H2 q (.lst [.str "no",.str "none",.str "nought"])) q = some (.lst [.str "no",.str "none",.str "nought"]):=upd_same
   generalize upd H2 q (.lst [.str "no",.str "none",.str "nought"]) = H3 at s3 u3 ⊢
   refine ⟨1,9,rfl,⟨by decide,by decide,by decide,by decide⟩,fun E2 hE2=>?_⟩
   refine lc_by 8 (fun j acc σ H4=>acc = (qusL.take j).map V.str ∧ (∃ u,σ = [u]) ∧ Same H3 H4) ⟨rfl,⟨none,rfl⟩,Same.upd_new hE2⟩ upd_same ?_ ?_
   · rintro acc σ H4 hDD ⟨rfl,_,s4⟩
     rw [List.take_of_length_le (by decide +kernel)] at hDD
     refine ⟨(by show (9 - 1 : Int).toNat ≤ 8; decide),q,E2,_,_,rfl,rfl,s4 _ _ u3,hDD,(by rw [List.length_map]; show 3 + qusL.length ≤ sizeLine; exact Nat.le_of_lt (small (by decide +kernel))),fun r hr=>?_⟩
     have s5 : Same H4 (upd H4 r (.lst ([.str "no",.str "none",.str "nought"] ++ qusL.map V.str))):=Same.upd_new hr
     have u5 : (upd H4 r (.lst ([.str "no",.str "none",.str "nought"] ++ qusL.map V.str))) r = some (.lst (candN.map V.str)):=by rw [upd_same]; rfl
     generalize upd H4 r (.lst ([.str "no",.str "none",.str "nought"] ++ qusL.map V.str)) = H5 at s5 u5 ⊢
     have s25:=s3.trans (s4.trans s5)
     have s05:=s02.trans s25
     refine ⟨r,rfl,⟨_,SqL.of u5⟩,fun G hG=>?_⟩
     have hcl : candN.length = 11:=by decide +kernel
     refine lc_by candN.length (fun i acc σ H6=>acc = ((candN.take i).filter fun z=>!decide (z ∈ told)).map V.str ∧ (∃ v,σ = [v,some (.ref D)]) ∧ Same H5 H6) ⟨rfl,⟨none,rfl⟩,Same.upd_new hG⟩ upd_same ?_ ?_
     · rintro acc σ H6 hGG ⟨rfl,_,s6⟩
       rw [List.take_length] at hGG
       refine ⟨⟨_,SqL.of (s6 _ _ u5),by rw [List.length_map]; exact Nat.le_refl _⟩,?_⟩
       obtain ⟨z,hz,hzt⟩:=candN_free told htl
       have hzf : z ∈ candN.filter fun z=>!decide (z ∈ told):=List.mem_filter.mpr ⟨hz,by simp [hzt]⟩
       cases hfl : candN.filter fun z=>!decide (z ∈ told) with
       | nil=>rw [hfl] at hzf; cases hzf
       | cons z0 rr =>
        have h0 : z0 ∈ candN.filter fun z=>!decide (z ∈ told):=by rw [hfl]; exact List.mem_cons_self
        obtain ⟨m1,m2⟩:=List.mem_filter.mp h0
        have m3 : z0 ∉ told:=by simpa using m2
        rw [hfl] at hGG
        have s06:=s05.trans s6
        refine ⟨G,_,0,.str z0,rfl,rfl,SqL.of hGG,(atI_nat (j:=0) (by rfl) : atI _ ((0 : Nat) : Int) = _),?_⟩
        have h56:=s06 _ _ h5
        refine ⟨_,rfl,m,.ref a5,rfl,DGet.k (k:=.inr "nevers") (s06 _ _ hM.top),.inl ⟨rfl,_,SqL.of h56⟩,_,rfl,(by show 2 ≤ sizeLine; decide),fun t ht=>?_⟩
        have s7 : Same H6 (upd H6 t (.tup [.str z0,.str "0"])):=Same.upd_new ht
        have u7 : (upd H6 t (.tup [.str z0,.str "0"])) t = some (.tup (row2 (z0, "0"))):=upd_same
        generalize upd H6 t (.tup [.str z0,.str "0"]) = H7 at s7 u7 ⊢
        have s07:=s06.trans s7
        have h57:=s07 _ _ h5
        refine ⟨a5,_,_,rfl,rfl,h57,(by rw [List.length_map]; exact small (by omega)),?_⟩
        have hM7:=hM.same s07
        have hfm:=hpl z0 (candN_names _ m1) m3
        have kp : ∀ b o,H7 b = some o → b ≠ a5 → (upd H7 a5 (.lst (ts.map V.ref ++ [.ref t]))) b = some o:=fun b o h n=>by rw [upd_ne n]; exact h
        have ofT : ∀ {b : Addr} {rs : List (List V)},b ≠ a5 → TupsAt H7 b rs → TupsAt (upd H7 a5 (.lst (ts.map V.ref ++ [.ref t]))) b rs:=fun hn hT=>hT.keep (fun b o h n=>kp b o h n) h57 hn
        obtain ⟨d1,d2,d3,d4,d6⟩:=hM.df
        refine ⟨_,rfl,kk z0 _ (fun b o hb hn=>kp b o (s07 _ _ hb) hn) ⟨kp _ _ hM7.top (ne_of hM7.top h57 (by intro z; cases z)),kp _ _ hM7.sw (Ne.symm d1),ofT (Ne.symm d2) hM7.kp,ofT (Ne.symm d3) hM7.gt,ofT (Ne.symm d4) hM7.nx,?_,ofT (Ne.symm d6) hM7.sm,hM.df⟩ hfm⟩
        have:=TupsAt.snoc (p:=a5) (t:=t) (r:=row2 (z0, "0")) (Paired.mapP hts fun _ _ e=>s07 _ _ e) u7 fun a xs h=>ne_of h h57 (by intro z; cases z)
        show TupsAt _ a5 ((M.nevers ++ [(z0,("0" : Str))]).map row2)
        rw [List.map_append]
        exact this
     · rintro i acc σ H6 hi hGG ⟨rfl,⟨v,rfl⟩,s6⟩
       have hci : candN[i]? = some candN[i]:=List.getElem?_eq_getElem hi
       have hx : (candN.map V.str)[i]? = some (.str candN[i]):=by rw [List.getElem?_map,hci]; rfl
       refine ⟨⟨_,_,SqL.of (s6 _ _ u5),hx⟩,?_⟩
       rintro x H' ⟨rfl,hall⟩
       have ex:=hall _ (SqL.of (s6 _ _ u5))
       rw [hx] at ex
       cases ex
       refine ⟨_,rfl,_,rfl,D,_,rfl,.inl (SqL.of (s6 _ _ (s25 _ _ u2))),rfl,flat_strs told,_,rfl,?_⟩
       have lenF : ∀ j,(((candN.take j).filter fun z=>!decide (z ∈ told)).map V.str).length < sizeLine:=fun j=>by
        rw [List.length_map]
        refine Nat.lt_of_le_of_lt (List.length_filter_le _ _) ?_
        rw [List.length_take]
        exact small (by omega)
       refine ite2 (fun h=>?_) (fun h=>?_)
       · have hnt : candN[i] ∉ told:=by simpa [inV_str] using h
         refine ⟨_,rfl,_,hGG,lenF i,lcW_next hi upd_same ⟨?_,⟨_,rfl⟩,fun y o hy=>by rw [upd_ne (ne_of_none hy hG)]; exact s6 y o hy⟩⟩
         rw [filter_take hci,if_pos (by simp [hnt]),List.map_append]
         rfl
       · have hnt : candN[i] ∈ told:=by simpa [inV_str] using h
         refine lcW_next hi hGG ⟨?_,⟨_,rfl⟩,s6⟩
         rw [filter_take hci,if_neg (by simp [hnt]),List.append_nil]
   · rintro j acc σ H4 hj hDD ⟨rfl,⟨u,rfl⟩,s4⟩
     refine ⟨(by show j < (9 - 1 : Int).toNat; exact hj),?_⟩
     rintro x H' ⟨rfl,rfl⟩
     refine gName_yes ?_
     refine ⟨_,rfl,j + 1,rfl,by congr 1; omega,by omega,_,hDD,?_,lcW_next hj upd_same ⟨?_,⟨_,rfl⟩,fun y o hy=>by rw [upd_ne (ne_of_none hy hE2)]; exact s4 y o hy⟩⟩
     · rw [List.length_map,List.length_take]
       exact small (by omega)
     · have : qusL[j]? = some (qus (j + 1)):=by
        unfold qusL
        rw [List.getElem?_map,List.getElem?_range hj]
        rfl
       rw [List.take_succ,this,List.map_append]
       rfl
end
end Gen
namespace L2
open PySem PySem.Spec PyProof.Rows
theorem for_enumL {K : PySem.W.Frag} {a : Addr} {xs : List V} {g : TG} {tb : TS} {D : Ends} {σ : St} {H : Hp} (Pv : Nat → St → Hp → Prop) (h0 : Pv 0 σ H) (hl : ∀ i σ H,i ≤ xs.length → Pv i σ H → SqL K H a xs)
 (hs : ∀ i x T σ H,xs[i]? = some x → H T = none → Pv i σ H → g (.ref T) σ (upd H T (.tup [.int (i : Int),x])) fun σ2 H2=>tb { D with nx:=Pv (i + 1),ct:=Pv (i + 1),bk:=D.nx } σ2 H2) (hd : ∀ σ H,Pv xs.length σ H → D.nx σ H) :
 ∃ W : Nat → Nat → St → Hp → Prop,(∃ m,W 0 m σ H) ∧ ∀ i m σ H,W i m σ H →
  ((Ite K a).stop i H ∧ D.nx σ H) ∨ ((Ite K a).go i H ∧ ∃ N : St → Hp → Prop,(∀ σ' H',N σ' H' → ∃ m',m' < m ∧ W (i + 1) m' σ' H') ∧ ∀ x H',(Ite K a).yld i H x H' → g x σ H' fun σ2 H2=>tb { D with nx:=N,ct:=N,bk:=D.nx } σ2 H2):=by
 refine ⟨fun i m σ H=>m = xs.length - i ∧ i ≤ xs.length ∧ Pv i σ H,⟨xs.length,by simp,Nat.zero_le _,h0⟩,?_⟩
 rintro i m σ H ⟨rfl,hi,p⟩
 have q:=hl i σ H hi p
 by_cases hlt : i < xs.length
 · refine .inr ⟨⟨xs,xs[i],q,by simp [hlt]⟩,Pv (i + 1),fun σ' H' p'=>⟨xs.length - (i + 1),by omega,rfl,hlt,p'⟩,fun x H' y=>?_⟩
   obtain ⟨T,v,rfl,hT,rfl,hv⟩:=y
   exact hs i v T σ H (hv xs q) hT p
 · refine .inl ⟨⟨xs,q,by omega⟩,?_⟩
   obtain rfl : i = xs.length:=by omega
   exact hd σ H p
end L2
namespace Gen
open PySem L2
abbrev sFault : Stmt:=top 24
structure Faultless (M : Mach) (l : Str) (F : List (List Str)) : Prop where
 first : ∀ ls ∈ F,∀ cs ∈ firstsM M,keepsP M ls cs = true
 step : ∀ ls ∈ F,∀ r ∈ waysF M F,keepsP M ls (stepM M r.2 r.1) = true
 never : ∀ r ∈ waysF M F,litI (valsM M r.2 r.1 M.gates.length) l ≠ 1
def spFault (K : PySem.W.Frag) : Sp:=fun vs H Q _=>∃ (m a1 a2 a3 a4 a5 a6 fc : Addr) (M : Mach) (names : List Str) (l : Str) (F : List (List Str)) (ps : List Addr),vs = [.ref m,.str l,.ref fc] ∧ MachAt H m M a1 a2 a3 a4 a5 a6 ∧ Fm M names ∧ Lit names l ∧ M.keepers.length ≤ 4 ∧ M.switches.length ≤ 3 ∧ PcsAt H fc ps F ∧ (∀ ls ∈ F,PieceOk M ls) ∧ F.length ≤ 400 ∧
 (∀ H',Same H H' → Faultless M l F → Q .non H') ∧ ∀ t H',Same H H' → ¬ Faultless M l F → Q (.ref t) H'
theorem take_mem {α : Type} {l : List α} {i : Nat} (hi : i < l.length) {P : α → Prop} (h : ∀ x ∈ l.take i,P x) (hx : P l[i]) : ∀ x ∈ l.take (i + 1),P x:=fun x hm=>by
 rw [List.take_succ,List.getElem?_eq_getElem hi] at hm
 rcases List.mem_append.mp hm with hm | hm
 · exact h x hm
 · have : x = l[i]:=by simpa using hm
   rw [this]
   exact hx
theorem not0 {α : Type} {l : List α} {P : α → Prop} : ∀ x ∈ l.take 0,P x:=fun _ h=>by rw [List.take_zero] at h; cases h
abbrev nFt : List Str:=["_law_m", "_law_literal_here", "_law_fence", "_law_place", "_law_piece", "_law_stand", "_law_ways_here", "_law_told", "_law_behind"]
abbrev pFt : List Str:=["_law_m", "_law_literal_here", "_law_fence"]
section
variable {P : Program} {w : World} {K : PySem.W.Frag} {mg : Str → Option Value} {base : Heap}
theorem scFt : FnScope nFt pFt (defScope sFault):=⟨rfl,rfl,rfl,by decide +kernel,rfl,by decide +kernel,by decide +kernel⟩
theorem ok_fault {f fF fK fY fV fB : Addr} {fd dF dK dY dV dB : FuncData} (F : Fun K "_law_fault" "_law_fault" sFault f fd) (T : Own mg)
 (gF : FnOk P w K mg base CX0 2 fF dF ["_law_m"] (spFirsts K)) (mF : mg "_law_firsts" = some (.ref fF)) (kF : PySem.W.keepIn K (.ref fF) = true) (bF : Binds K dF ["_law_m"] [])
 (gK : FnOk P w K mg base CX0 2 fK dK pKp (spKeeps K)) (mK : mg "_law_keeps" = some (.ref fK)) (kK : PySem.W.keepIn K (.ref fK) = true) (bK : Binds K dK pKp [])
 (gY : FnOk P w K mg base CX0 4 fY dY ["_law_m", "_law_fence"] (spWays K)) (mY : mg "_law_ways" = some (.ref fY)) (kY : PySem.W.keepIn K (.ref fY) = true) (bY : Binds K dY ["_law_m", "_law_fence"] [])
 (gV : FnOk P w K mg base CX0 2 fV dV pVs (spValues K)) (mV : mg "_law_values" = some (.ref fV)) (kV' : PySem.W.keepIn K (.ref fV) = true) (bV : Binds K dV pVs [])
 (gB : FnOk P w K mg base CX0 1 fB dB ["_law_values_here", "_law_literal_here"] spLitV) (mB : mg "_law_bit" = some (.ref fB)) (kB : PySem.W.keepIn K (.ref fB) = true) (bB : Binds K dB ["_law_values_here", "_law_literal_here"] []) : FnOk P w K mg base CX0 5 f fd pFt (spFault K):=by
 refine F.ok scFt (fun vs H Q E h=>?_) (fun cdv A outer s H vs Q E hr h=>?_)
 · obtain ⟨m,a1,a2,a3,a4,a5,a6,fc,M,names,l,F,ps,rfl,_⟩:=h
   rfl
 · obtain ⟨m,a1,a2,a3,a4,a5,a6,fc,M,names,l,F,ps,rfl,hM,hm,hlit,k4,w3,hF,hok,hFl,ka,kb⟩:=h
   have hu:=hu_of hr
   have hr2 : Room 2 _:=hr.mono (by decide)
   have hr1 : Room 1 _:=hr.mono (by decide)
   refine ⟨_,pss_cons (ps_for PassesOwn.never rfl (pi_enum rfl T.enum (pa_cons (pv 2) pa_nil)) (pg_tup rfl (pgs_cons (pg_name (i:=3) scFt.nd rfl (Or.inl rfl)) (pgs_cons (pg_name (i:=4) scFt.nd rfl (Or.inl rfl)) pgs_nil)))
    (pss_one (ps_for PassesOwn.never rfl (pi_list (pe_call gF hr2 rfl mF kF bF .nil pass0 (pa_cons (pv 0) pa_nil))) (pg_name (i:=5) scFt.nd rfl (Or.inl rfl))
     (pss_one (ps_if (pt_not (pt_val (pe_call gK hr2 rfl mK kK bK .nil pass0 (pa_cons (pv 0) (pa_cons (pv 4) (pa_cons (pv 5) pa_nil)))))) (pss_one (ps_ret (pe_tup (pa_cons pe_str (pa_cons (pv 3) (pa_cons (pv 5) pa_nil)))))) pss_nil)))))
    (pss_cons (ps_set (i:=6) scFt.nd rfl (Or.inl rfl) (pe_call gY hr rfl mY kY bY .nil pass0 (pa_cons (pv 0) (pa_cons (pv 2) pa_nil))))
    (pss_cons (ps_for PassesOwn.never rfl (pi_enum rfl T.enum (pa_cons (pv 2) pa_nil)) (pg_tup rfl (pgs_cons (pg_name (i:=3) scFt.nd rfl (Or.inl rfl)) (pgs_cons (pg_name (i:=4) scFt.nd rfl (Or.inl rfl)) pgs_nil)))
     (pss_one (ps_for PassesOwn.never rfl (pi_list (pv 6)) (pg_tup rfl (pgs_cons (pg_name (i:=5) scFt.nd rfl (Or.inl rfl)) (pgs_cons (pg_name (i:=7) scFt.nd rfl (Or.inl rfl)) (pgs_cons (pg_name (i:=8) scFt.nd rfl (Or.inl rfl)) pgs_nil))))
      (pss_one (ps_if (pt_not (pt_val (pe_call gK hr2 rfl mK kK bK .nil pass0 (pa_cons (pv 0) (pa_cons (pv 4) (pa_cons (pv 8) pa_nil)))))) (pss_one (ps_ret (pe_tup (pa_cons pe_str (pa_cons (pv 3) (pa_cons (pv 5) (pa_cons (pv 7) pa_nil))))))) pss_nil)))))
    (pss_cons (ps_for PassesOwn.never rfl (pi_list (pv 6)) (pg_tup rfl (pgs_cons (pg_name (i:=5) scFt.nd rfl (Or.inl rfl)) (pgs_cons (pg_name (i:=7) scFt.nd rfl (Or.inl rfl)) (pgs_cons (pg_name (i:=8) scFt.nd rfl (Or.inl rfl)) pgs_nil))))
     (pss_one (ps_if (pt_cmpR op_eq (pe_call gB hr1 rfl mB kB bB .nil pass0 (pa_cons (pe_call gV hr2 rfl mV kV' bV .nil pass0 (pa_cons (pv 0) (pa_cons (pv 5) (pa_cons (pv 7) pa_nil)))) (pa_cons (pv 1) pa_nil))) pe_int (nomark _)) (pss_one (ps_ret (pe_tup (pa_cons pe_str (pa_cons (pv 5) (pa_cons (pv 7) pa_nil)))))) pss_nil)))
    (pss_one (ps_ret pe_non))))),?_⟩
   have hpl:=hF.len
   have fbt : ∀ cs ∈ firstsM M,BitsN M.keepers.length cs:=fun cs h=>ris_bits _ _ (List.mem_filter.mp h).1
   refine ⟨_,rfl,fc,rfl,⟨_,SqL.of hF.at_⟩,for_enumL (K:=K) (a:=fc) (xs:=ps.map V.ref) (fun i σ H1=>∃ (v3 v4 v5 : Option V),σ = [some (.ref m),some (.str l),some (.ref fc),v3,v4,v5,none,none,none] ∧ Same H H1 ∧ ∀ ls ∈ F.take i,∀ cs ∈ firstsM M,keepsP M ls cs = true) ⟨none,none,none,rfl,(fun _ _ h=>h),not0⟩ ?_ ?_ ?_⟩
   · rintro i σ H1 _ ⟨_,_,_,_,s1,_⟩
     exact SqL.of (s1 _ _ hF.at_)
   · rintro i xv Tp σ H1 hx hTp ⟨v3,v4,v5,rfl,s1,hall⟩
     have hi : i < F.length:=by
      have:=(List.getElem?_eq_some_iff.mp hx).1
      rw [List.length_map] at this
      omega
     obtain ⟨p,hp,hP⟩:=paired_at hF.all (i:=i) (List.getElem?_eq_getElem hi)
     have ex : xv = .ref p:=by
      rw [List.getElem?_map,hp] at hx
      exact (Option.some.inj hx).symm
     subst ex
     have t2 : Same H1 (upd H1 Tp (.tup [.int (i : Int),.ref p])):=Same.upd_new hTp
     have u2 : (upd H1 Tp (.tup [.int (i : Int),.ref p])) Tp = some (.tup [.int (i : Int),.ref p]):=upd_same
     generalize upd H1 Tp (.tup [.int (i : Int),.ref p]) = H2 at t2 u2 ⊢
     have s2:=s1.trans t2
     have hstep:=take_mem (P:=fun ls=>∀ cs ∈ firstsM M,keepsP M ls cs = true) hi hall
     have hmem:=List.getElem_mem hi
     generalize F[i] = ls at hP hstep hmem
     refine ⟨Tp,_,rfl,SqT.of u2,rfl,_,_,rfl,_,_,rfl,rfl,?_⟩
     refine ⟨_,rfl,m,a1,a2,a3,a4,a5,a6,M,rfl,hM.same s2,by omega,hm.ok.first,fun fh us H3 s3 hfh hfh3 hus=>?_⟩
     have hul:=hus.length
     have ef : firstsM M = (risL M.keepers.length).filter (okF (M.keepers.map (·.2))):=rfl
     rw [← ef] at hus hul
     have s03:=s2.trans s3
     refine ⟨fh,rfl,⟨_,SqL.of hfh3⟩,for_list (K:=K) (a:=fh) (xs:=us.map V.ref) (fun j σ H4=>∃ v5 : Option V,σ = [some (.ref m),some (.str l),some (.ref fc),some (.int (i : Int)),some (.ref p),v5,none,none,none] ∧ Same H3 H4 ∧ ∀ cs ∈ (firstsM M).take j,keepsP M ls cs = true) ⟨_,rfl,(fun _ _ h=>h),not0⟩ ?_ ?_ ?_⟩
     · rintro j σ H4 _ ⟨_,_,s4,_⟩
       exact SqL.of (s4 _ _ hfh3)
     · rintro j yv σ H4 hy ⟨v5,rfl,s4,hc⟩
       have hj : j < (firstsM M).length:=by
        have:=(List.getElem?_eq_some_iff.mp hy).1
        rw [List.length_map] at this
        omega
       obtain ⟨t,ht,hT⟩:=paired_at hus (i:=j) (List.getElem?_eq_getElem hj)
       have ey : yv = .ref t:=by
        rw [List.getElem?_map,ht] at hy
        exact (Option.some.inj hy).symm
       subst ey
       have hcj:=List.getElem_mem hj
       have hcs:=take_mem (P:=fun cs=>keepsP M ls cs = true) hj hc
       generalize (firstsM M)[j] = cs at hT hcj hcs
       have s04:=s03.trans s4
       refine ⟨_,rfl,_,rfl,_,rfl,m,a1,a2,a3,a4,a5,a6,p,t,M,names,ls,cs,rfl,hM.same s04,hm,SqT.of (s04 _ _ hP),hok _ hmem,TupI.k (s4 _ _ hT),(fbt _ hcj).1,fun H5 s5=>⟨_,rfl,?_⟩⟩
       cases hk : keepsP M ls cs with
       | true=>exact iteF' rfl ⟨_,rfl,s4.trans s5,hcs hk⟩
       | false =>
        refine iteT' rfl ⟨_,rfl,_,rfl,(by show 3 ≤ sizeLine; decide),fun t2 ht2=>kb t2 _ ((s04.trans s5).trans (Same.upd_new ht2)) fun hf=>?_⟩
        have:=hf.first ls hmem cs hcj
        rw [hk] at this
        cases this
     · rintro σ H4 ⟨v5,rfl,s4,hc⟩
       rw [List.length_map,hul,List.take_length] at hc
       exact ⟨_,_,_,rfl,s03.trans s4,hstep hc⟩
   rintro σ H1 ⟨v3,v4,v5,rfl,s1,hall⟩
   rw [List.length_map,hpl,List.take_length] at hall
   refine ⟨_,rfl,_,rfl,m,a1,a2,a3,a4,a5,a6,fc,M,names,F,ps,rfl,hM.same s1,hm,k4,w3,hF.same s1,hok,hFl,fun y ws H2 t2 hy hy2 hws=>?_⟩
   have s2:=s1.trans t2
   have hwl:=hws.length
   have hwb : ∀ r ∈ waysF M F,BitsN M.keepers.length r.1 ∧ BitsN M.switches.length r.2:=fun r hr=>ways_bits hr
   have key : ∀ G,waysF M F = G → (Faultless M l F → (∀ ls ∈ F,∀ r ∈ G,keepsP M ls (stepM M r.2 r.1) = true) ∧ ∀ r ∈ G,litI (valsM M r.2 r.1 M.gates.length) l ≠ 1) ∧ ((∀ ls ∈ F,∀ r ∈ G,keepsP M ls (stepM M r.2 r.1) = true) → (∀ r ∈ G,litI (valsM M r.2 r.1 M.gates.length) l ≠ 1) → Faultless M l F):=fun G e=>e ▸ ⟨fun h=>⟨h.step,h.never⟩,fun h1 h2=>⟨hall,h1,h2⟩⟩
   obtain ⟨key1,key2⟩:=key _ rfl
   clear key
   generalize waysF M F = G at hws hwl hwb key1 key2
   refine ⟨_,rfl,fc,rfl,⟨_,SqL.of (s2 _ _ hF.at_)⟩,for_enumL (K:=K) (a:=fc) (xs:=ps.map V.ref) (fun i σ H3=>∃ (v3 v4 v5 v7 v8 : Option V),σ = [some (.ref m),some (.str l),some (.ref fc),v3,v4,v5,some (.ref y),v7,v8] ∧ Same H2 H3 ∧ ∀ ls ∈ F.take i,∀ r ∈ G,keepsP M ls (stepM M r.2 r.1) = true) ⟨_,_,_,_,_,rfl,(fun _ _ h=>h),not0⟩ ?_ ?_ ?_⟩
   · rintro i σ H3 _ ⟨_,_,_,_,_,_,s3,_⟩
     exact SqL.of (s3 _ _ (s2 _ _ hF.at_))
   · clear v3 v4 v5
     rintro i xv Tp σ H3 hx hTp ⟨v3,v4,v5,v7,v8,rfl,s3,hst⟩
     have hi : i < F.length:=by
      have:=(List.getElem?_eq_some_iff.mp hx).1
      rw [List.length_map] at this
      omega
     obtain ⟨p,hp,hP⟩:=paired_at hF.all (i:=i) (List.getElem?_eq_getElem hi)
     have ex : xv = .ref p:=by
      rw [List.getElem?_map,hp] at hx
      exact (Option.some.inj hx).symm
     subst ex
     have t4 : Same H3 (upd H3 Tp (.tup [.int (i : Int),.ref p])):=Same.upd_new hTp
     have u4 : (upd H3 Tp (.tup [.int (i : Int),.ref p])) Tp = some (.tup [.int (i : Int),.ref p]):=upd_same
     generalize upd H3 Tp (.tup [.int (i : Int),.ref p]) = H4 at t4 u4 ⊢
     have s24:=s3.trans t4
     have hstep:=take_mem (P:=fun ls=>∀ r ∈ G,keepsP M ls (stepM M r.2 r.1) = true) hi hst
     have hmem:=List.getElem_mem hi
     generalize F[i] = ls at hP hstep hmem
     refine ⟨Tp,_,rfl,SqT.of u4,rfl,_,_,rfl,_,_,rfl,rfl,?_⟩
     refine ⟨_,rfl,y,rfl,⟨_,SqL.of (s24 _ _ hy2)⟩,for_list (K:=K) (a:=y) (xs:=ws.map V.ref) (fun j σ H5=>∃ v5 v7 v8 : Option V,σ = [some (.ref m),some (.str l),some (.ref fc),some (.int (i : Int)),some (.ref p),v5,some (.ref y),v7,v8] ∧ Same H2 H5 ∧ ∀ r ∈ G.take j,keepsP M ls (stepM M r.2 r.1) = true) ⟨_,_,_,rfl,s24,not0⟩ ?_ ?_ ?_⟩
     · rintro j σ H5 _ ⟨_,_,_,_,s5,_⟩
       exact SqL.of (s5 _ _ hy2)
     · clear v5 v7 v8
       rintro j yv σ H5 hyv ⟨v5,v7,v8,rfl,s5,hc⟩
       have hj : j < G.length:=by
        have:=(List.getElem?_eq_some_iff.mp hyv).1
        rw [List.length_map] at this
        omega
       obtain ⟨t,ht,hT⟩:=paired_at hws (i:=j) (List.getElem?_eq_getElem hj)
       have ey : yv = .ref t:=by
        rw [List.getElem?_map,ht] at hyv
        exact (Option.some.inj hyv).symm
       subst ey
       have hcj:=List.getElem_mem hj
       have hcs:=take_mem (P:=fun r : List Int × List Int=>keepsP M ls (stepM M r.2 r.1) = true) hj hc
       generalize G[j] = r at hT hcj hcs
       obtain ⟨x1,x2,x3,q1,q2,q3,q4⟩:=hT.same s5
       have s05:=s2.trans s5
       have hb:=hwb r hcj
       refine ⟨t,_,rfl,SqT.of q1,rfl,_,_,rfl,_,_,rfl,_,_,rfl,rfl,?_⟩
       refine ⟨_,rfl,_,rfl,_,rfl,m,a1,a2,a3,a4,a5,a6,p,x3,M,names,ls,_,rfl,hM.same s05,hm,SqT.of (s05 _ _ hP),hok _ hmem,TupI.k q4,(hm.step hb.2 hb.1).1,fun H6 s6=>⟨_,rfl,?_⟩⟩
       cases hk : keepsP M ls (stepM M r.2 r.1) with
       | true=>exact iteF' rfl ⟨_,_,_,rfl,s5.trans s6,hcs hk⟩
       | false =>
        refine iteT' rfl ⟨_,rfl,_,rfl,_,rfl,(by show 4 ≤ sizeLine; decide),fun t2 ht2=>kb t2 _ ((s05.trans s6).trans (Same.upd_new ht2)) fun hf=>?_⟩
        have:=(key1 hf).1 ls hmem r hcj
        rw [hk] at this
        cases this
     · rintro σ H5 ⟨v5,v7,v8,rfl,s5,hc⟩
       rw [List.length_map,hwl,List.take_length] at hc
       exact ⟨_,_,_,_,_,rfl,s5,hstep hc⟩
   rintro σ H3 ⟨v3,v4,v5,v7,v8,rfl,s3,hst⟩
   rw [List.length_map,hpl,List.take_length] at hst
   refine ⟨_,rfl,y,rfl,⟨_,SqL.of (s3 _ _ hy2)⟩,for_list (K:=K) (a:=y) (xs:=ws.map V.ref) (fun j σ H5=>∃ v3 v4 v5 v7 v8 : Option V,σ = [some (.ref m),some (.str l),some (.ref fc),v3,v4,v5,some (.ref y),v7,v8] ∧ Same H2 H5 ∧ ∀ r ∈ G.take j,litI (valsM M r.2 r.1 M.gates.length) l ≠ 1) ⟨_,_,_,_,_,rfl,s3,not0⟩ ?_ ?_ ?_⟩
   · rintro j σ H5 _ ⟨_,_,_,_,_,_,s5,_⟩
     exact SqL.of (s5 _ _ hy2)
   · clear v3 v4 v5 v7 v8
     rintro j yv σ H5 hyv ⟨v3,v4,v5,v7,v8,rfl,s5,hc⟩
     have hj : j < G.length:=by
      have:=(List.getElem?_eq_some_iff.mp hyv).1
      rw [List.length_map] at this
      omega
     obtain ⟨t,ht,hT⟩:=paired_at hws (i:=j) (List.getElem?_eq_getElem hj)
     have ey : yv = .ref t:=by
      rw [List.getElem?_map,ht] at hyv
      exact (Option.some.inj hyv).symm
     subst ey
     have hcj:=List.getElem_mem hj
     have hcs:=take_mem (P:=fun r : List Int × List Int=>litI (valsM M r.2 r.1 M.gates.length) l ≠ 1) hj hc
     generalize G[j] = r at hT hcj hcs
     obtain ⟨x1,x2,x3,q1,q2,q3,q4⟩:=hT.same s5
     have s05:=s2.trans s5
     have hb:=hwb r hcj
     have hfit:=hm.fit hb.2 hb.1
     refine ⟨t,_,rfl,SqT.of q1,rfl,_,_,rfl,_,_,rfl,_,_,rfl,rfl,?_⟩
     refine ⟨_,rfl,_,rfl,_,rfl,m,a1,a2,a3,a4,a5,a6,x1,x2,M,names,r.2,r.1,rfl,hM.same s05,hfit,TupI.k q2,TupI.k q3,fun d H6 hd s6 hd6=>?_⟩
     refine ⟨_,rfl,d,_,l,rfl,.inl hd6,Lit.in_ hlit hm.ok.nm (by rw [hfit.keys]; exact fun _ h=>h),fun H7 s7=>⟨rfl,_,rfl,?_⟩⟩
     have s57:=s6.trans s7
     refine ite2 (fun h=>?_) (fun h=>?_)
     · have e1 : litI (valsM M r.2 r.1 M.gates.length) l = 1:=V.int.inj (of_decide_eq_true h)
       exact ⟨_,rfl,_,rfl,(by show 3 ≤ sizeLine; decide),fun t2 ht2=>kb t2 _ ((s05.trans s57).trans (Same.upd_new ht2)) fun hf=>(key1 hf).2 r hcj e1⟩
     · exact ⟨_,_,_,_,_,rfl,s5.trans s57,hcs fun e=>h (decide_eq_true (by rw [e]))⟩
   · rintro σ H5 ⟨v3,v4,v5,v7,v8,rfl,s5,hc⟩
     rw [List.length_map,hwl,List.take_length] at hc
     exact ka H5 (s2.trans s5) (key2 hst hc)
end
end Gen
namespace Gen
open PySem L2
abbrev sSome : Stmt:=top 29
abbrev sJoined : Stmt:=top 1
theorem cut_toL (xs : List V) (k : Nat) : cutV xs none (some (k : Int)) = xs.take k:=by
 unfold cutV
 rw [HT.sIx_none,HT.sIx_nat,List.drop_zero,Nat.sub_zero]
 rcases Nat.le_total k xs.length with h | h
 · rw [Nat.min_eq_left h]
 · rw [Nat.min_eq_right h,List.take_of_length_le (Nat.le_refl _),List.take_of_length_le h]
theorem within_sub {M : Mach} {F G : List (List Str)} (h : ∀ ls ∈ F,ls ∈ G) : ∀ cs ∈ withinF M G,cs ∈ withinF M F:=fun cs hc=>by
 obtain ⟨h1,h2⟩:=List.mem_filter.mp hc
 exact List.mem_filter.mpr ⟨h1,List.all_eq_true.mpr fun ls hl=>List.all_eq_true.mp h2 ls (h ls hl)⟩
theorem ways_sub {M : Mach} {F G : List (List Str)} (h : ∀ ls ∈ F,ls ∈ G) : ∀ r ∈ waysF M G,r ∈ waysF M F:=fun r hr=>by
 unfold waysF at hr ⊢
 obtain ⟨cs,h1,h2⟩:=List.mem_flatMap.mp hr
 exact List.mem_flatMap.mpr ⟨cs,within_sub h cs h1,h2⟩
theorem Held.union {M : Mach} {G : List (List Str)} (h : ∀ ls ∈ G,∃ F,Held M F ∧ ls ∈ F ∧ ∀ x ∈ F,x ∈ G) : Held M G :=
 ⟨fun ls hl=>let ⟨_,a,b,_⟩:=h ls hl; a.ok ls b,fun ls hl=>let ⟨_,a,b,_⟩:=h ls hl; a.first ls b,fun ls hl r hr=>let ⟨_,a,b,c⟩:=h ls hl; a.step ls b r (ways_sub c r hr)⟩
theorem PcsAt.ne {H : Hp} {q l : Addr} {qs : List Addr} {F : List (List Str)} {ys : List V} (h : PcsAt H q qs F) (hl : H l = some (.lst ys)) (hp : pool ys) : q ≠ l:=fun e=>by
 have h1:=h.at_
 rw [e,hl] at h1
 have h2 : ys = qs.map V.ref:=by injection h1 with h1; injection h1
 rcases hp with ⟨a,rfl⟩ | ⟨a,b,rfl⟩
 · cases qs with
   | nil=>cases h2
   | cons x r=>cases (List.cons.inj h2).1
 · cases qs with
   | nil=>cases h2
   | cons x r=>cases (List.cons.inj h2).1
theorem PcsAt.keep {H H' : Hp} {q l : Addr} {qs : List Addr} {F : List (List Str)} {ys : List V} (h : PcsAt H q qs F) (hl : H l = some (.lst ys)) (hp : pool ys) (k : Keep H H' l) : PcsAt H' q qs F :=
 ⟨k _ _ h.at_ (h.ne hl hp),Paired.mapP h.all fun _ _ e=>k.tup hl e⟩
def spSome (K : PySem.W.Frag) : Sp:=fun vs H Q _=>∃ (m a1 a2 a3 a4 a5 a6 sc : Addr) (M : Mach) (names : List Str) (ns : List Int) (k : Int),vs = [.ref m,.ref sc,.int k] ∧ MachAt H m M a1 a2 a3 a4 a5 a6 ∧ Fm M names ∧ M.keepers.length ≤ 4 ∧ M.switches.length ≤ 3 ∧ SqL K H sc (ns.map V.int) ∧ 0 ≤ k ∧ k ≤ 20 ∧
 ∀ p ps F H',Same H H' → H p = none → PcsAt H' p ps F → Held M F → F.length ≤ 44 → Q (.ref p) H'
abbrev nSf : List Str:=["_law_m", "_law_script", "_law_k", "_law_left", "_law_drawn", "_law_fence"]
abbrev pSf : List Str:=["_law_m", "_law_script", "_law_k"]
def addN (L : List (List Str)) (x : List Str) : List (List Str):=if x ∈ L then L else L ++ [x]
def joinF (Fs : List (List (List Str))) : List (List Str):=Fs.flatten.foldl addN []
def kS (ls : List Str) : List Key:=ls.map Sum.inr
theorem kS_kV (ls : List Str) : (kS ls).map kV = ls.map V.str:=by unfold kS; rw [List.map_map]; rfl
theorem kS_inj : ∀ {a b : List Str},kS a = kS b → a = b
 | [],[],_=>rfl
 | [],_ :: _,h=>nomatch h
 | _ :: _,[],h=>nomatch h
 | x :: a,y :: b,h=>by
  have h1:=List.cons.inj h
  rw [Sum.inr.inj h1.1,kS_inj h1.2]
theorem mem_addN {L : List (List Str)} {x y : List Str} : y ∈ addN L x ↔ y ∈ L ∨ y = x:=by
 unfold addN
 split
 · rename_i h
   exact ⟨.inl,fun h1=>h1.elim (fun z=>z) fun e=>e ▸ h⟩
 · rw [List.mem_append,List.mem_singleton]
theorem mem_fold {y : List Str} : ∀ {F L : List (List Str)},y ∈ F.foldl addN L ↔ y ∈ L ∨ y ∈ F
 | [],L=>by simp
 | x :: F,L=>by rw [List.foldl_cons,mem_fold,mem_addN,List.mem_cons,or_assoc]
theorem fold_len : ∀ {F L : List (List Str)},(F.foldl addN L).length ≤ L.length + F.length
 | [],L=>by simp
 | x :: F,L=>by
  rw [List.foldl_cons]
  refine Nat.le_trans fold_len ?_
  unfold addN
  split <;> simp <;> omega
theorem put_keys {kvs : List (List Key × V)} {L : List (List Str)} {x : List Str} {v : V} (h : kvs.map (·.1) = L.map kS) : (putK kvs (kS x) v).map (·.1) = (addN L x).map kS:=by
 have ha : (kvs.any fun kv=>decide (kv.1 = kS x)) = decide (x ∈ L):=by
  rw [Bool.eq_iff_iff,List.any_eq_true,decide_eq_true_eq]
  constructor
  · rintro ⟨kv,hkv,e⟩
    have : kv.1 ∈ L.map kS:=by rw [← h]; exact List.mem_map.mpr ⟨kv,hkv,rfl⟩
    obtain ⟨c,hc,ec⟩:=List.mem_map.mp this
    rw [← kS_inj (ec.trans (of_decide_eq_true e))]
    exact hc
  · intro hc
    have : kS x ∈ kvs.map (·.1):=by rw [h]; exact List.mem_map.mpr ⟨x,hc,rfl⟩
    obtain ⟨kv,hkv,e⟩:=List.mem_map.mp this
    exact ⟨kv,hkv,decide_eq_true e⟩
 unfold putK addN
 rw [ha]
 by_cases hx : x ∈ L
 · rw [decide_eq_true hx,if_pos rfl,if_pos hx,← h,List.map_map]
   refine List.map_congr_left fun kv _=>?_
   show (if kv.1 = kS x then (kv.1,v) else kv).1 = kv.1
   split <;> rfl
 · rw [decide_eq_false hx,if_neg Bool.false_ne_true,if_neg hx,List.map_append,List.map_append,h]
   rfl
structure PcssAt (H : Hp) (wl : Addr) (qs : List Addr) (Fs : List (List (List Str))) : Prop where
 at_ : H wl = some (.lst (qs.map V.ref))
 all : Paired (fun q F=>∃ ps,PcsAt H q ps F) qs Fs
theorem PcssAt.same {H H' : Hp} {wl : Addr} {qs : List Addr} {Fs : List (List (List Str))} (h : PcssAt H wl qs Fs) (s : Same H H') : PcssAt H' wl qs Fs:=⟨s _ _ h.at_,Paired.mapP h.all fun _ _ ⟨ps,e⟩=>⟨ps,e.same s⟩⟩
def spJoined (K : PySem.W.Frag) : Sp:=fun vs H Q _=>∃ (wl : Addr) (qs : List Addr) (Fs : List (List (List Str))),vs = [.ref wl] ∧ PcssAt H wl qs Fs ∧ Fs.flatten.length ≤ 1000 ∧
 ∀ p ps H',Same H H' → H p = none → PcsAt H' p ps (joinF Fs) → Q (.ref p) H'
abbrev nJn : List Str:=["walls", "found", "wall", "piece"]
section
variable {P : Program} {w : World} {K : PySem.W.Frag} {mg : Str → Option Value} {base : Heap}
theorem scSf : FnScope nSf pSf (defScope sSome):=⟨rfl,rfl,rfl,by decide +kernel,rfl,by decide +kernel,by decide +kernel⟩
theorem scJn : FnScope nJn ["walls"] (defScope sJoined):=⟨rfl,rfl,rfl,by decide +kernel,rfl,by decide +kernel,by decide +kernel⟩
theorem ok_joined {f : Addr} {fd : FuncData} (F : Fun K "joined" "joined" sJoined f fd) (O2 : Own2 mg) : FnOk P w K mg base CX0 1 f fd ["walls"] (spJoined K):=by
 refine F.ok scJn (fun vs H Q E h=>?_) (fun cdv A outer s H vs Q E hr h=>?_)
 · obtain ⟨wl,qs,Fs,rfl,_⟩:=h
   rfl
 · obtain ⟨wl,qs,Fs,rfl,hW,hn,kk⟩:=h
   have hu:=hu_of hr
   refine ⟨_,pss_cons (ps_set (i:=1) scJn.nd rfl (Or.inl rfl) pe_dnewT)
    (pss_cons (ps_for PassesOwn.never rfl (pi_list (pv 0)) (pg_name (i:=2) scJn.nd rfl (Or.inl rfl))
     (pss_one (ps_for PassesOwn.never rfl (pi_list (pv 2)) (pg_name (i:=3) scJn.nd rfl (Or.inl rfl))
      (pss_one (ps_dput hu (pv 1) (pv 3) pe_bl rfl)))))
    (pss_one (ps_ret (pe_callTy (call_list_dT rfl) (by rfl) O2.list PyProof.Rows.boot_list (pa_cons (pv 1) pa_nil))))),?_⟩
   intro d hd
   have s1 : Same H (upd H d (.dT [])):=Same.upd_new hd
   have u1 : (upd H d (.dT [])) d = some (.dT []):=upd_same
   generalize upd H d (.dT []) = H1 at s1 u1 ⊢
   have hql:=hW.all.length
   refine ⟨_,rfl,wl,rfl,⟨_,SqL.of (s1 _ _ hW.at_)⟩,for_list (K:=K) (a:=wl) (xs:=qs.map V.ref) (fun i σ H2=>∃ (kvs : List (List Key × V)) (v2 v3 : Option V),σ = [some (.ref wl),some (.ref d),v2,v3] ∧ Same H H2 ∧ H2 d = some (.dT kvs) ∧ kvs.map (·.1) = ((Fs.take i).flatten.foldl addN []).map kS) ?_ ?_ ?_ ?_⟩
   · exact ⟨[],none,none,rfl,s1,u1,by simp⟩
   · rintro i σ H2 _ ⟨_,_,_,_,s2,_⟩
     exact SqL.of (s2 _ _ hW.at_)
   · rintro i xv σ H2 hx ⟨kvs,v2,v3,rfl,s2,hd2,hk⟩
     have hi : i < Fs.length:=by
      have:=(List.getElem?_eq_some_iff.mp hx).1
      rw [List.length_map] at this
      omega
     obtain ⟨q,hq,ps,hP⟩:=paired_at hW.all (i:=i) (List.getElem?_eq_getElem hi)
     have ex : xv = .ref q:=by
      rw [List.getElem?_map,hq] at hx
      exact (Option.some.inj hx).symm
     subst ex
     have htk : (Fs.take (i + 1)).flatten = (Fs.take i).flatten ++ Fs[i]:=by
      rw [List.take_succ,List.getElem?_eq_getElem hi,List.flatten_append]
      simp
     have hle : ((Fs.take i).flatten ++ Fs[i]).length ≤ 1000:=by
      rw [← htk]
      refine Nat.le_trans ?_ hn
      have : Fs.flatten = (Fs.take (i + 1)).flatten ++ (Fs.drop (i + 1)).flatten:=by rw [← List.flatten_append,List.take_append_drop]
      rw [this,List.length_append]
      omega
     generalize Fs[i] = G at hP htk hle
     generalize (Fs.take i).flatten = B at hk htk hle
     have hpl:=hP.len
     rw [List.length_append] at hle
     refine ⟨_,rfl,q,rfl,⟨_,SqL.of (s2 _ _ hP.at_)⟩,for_list (K:=K) (a:=q) (xs:=ps.map V.ref) (fun j σ H3=>∃ (kvs : List (List Key × V)) (v3 : Option V),σ = [some (.ref wl),some (.ref d),some (.ref q),v3] ∧ Same H H3 ∧ H3 d = some (.dT kvs) ∧ kvs.map (·.1) = ((B ++ G.take j).foldl addN []).map kS) ?_ ?_ ?_ ?_⟩
     · exact ⟨kvs,_,rfl,s2,hd2,by rw [List.take_zero,List.append_nil]; exact hk⟩
     · rintro j σ H3 _ ⟨_,_,_,s3,_⟩
       exact SqL.of (s3 _ _ hP.at_)
     · clear hk hd2 kvs
       rintro j yv σ H3 hy ⟨kvs,v3,rfl,s3,hd3,hk⟩
       have hj : j < G.length:=by
        have:=(List.getElem?_eq_some_iff.mp hy).1
        rw [List.length_map] at this
        omega
       obtain ⟨p,hp,hp2⟩:=paired_at hP.all (i:=j) (List.getElem?_eq_getElem hj)
       have ey : yv = .ref p:=by
        rw [List.getElem?_map,hp] at hy
        exact (Option.some.inj hy).symm
       subst ey
       have hkl : kvs.length ≤ 1000:=by
        have:=congrArg List.length hk
        rw [List.length_map,List.length_map] at this
        have h2:=fold_len (F:=B ++ G.take j) (L:=[])
        rw [List.length_append,List.length_take,List.length_nil] at h2
        omega
       have hkey : H3 p = some (.tup ((kS G[j]).map kV)):=by rw [kS_kV]; exact s3 _ _ hp2
       refine ⟨_,rfl,_,rfl,d,_,rfl,DPut.t (k:=kS G[j]) hd3 hkey (small (by omega : kvs.length ≤ 1000)),?_⟩
       refine ⟨_,_,rfl,fun b o hb=>?_,upd_same,?_⟩
       · rw [upd_ne (ne_of_none hb hd)]
         exact s3 b o hb
       · rw [put_keys hk,List.take_succ,List.getElem?_eq_getElem hj,← List.append_assoc,List.foldl_append (l:=B ++ G.take j)]
         rfl
     · rintro σ H3 ⟨kvs',v3,rfl,s3,hd3,hk'⟩
       rw [List.length_map,hpl,List.take_length] at hk'
       exact ⟨kvs',_,_,rfl,s3,hd3,by rw [htk]; exact hk'⟩
   · rintro σ H2 ⟨kvs,v2,v3,rfl,s2,hd2,hk⟩
     rw [List.length_map,hql,List.take_length] at hk
     refine ⟨_,rfl,d,kvs,rfl,.inl hd2,fun p ts hp hts=>?_⟩
     refine kk p ts _ (s2.trans (Same.upd_new hp)) (s2.free hp) ⟨upd_same,?_⟩
     have hk2 : kvs.map (·.1) = (joinF Fs).map kS:=hk
     generalize joinF Fs = L at hk2
     have gen : ∀ {kvs : List (List Key × V)} {ts : List Addr} {L : List (List Str)},Paired (fun t (kv : List Key × V)=>H2 t = some (.tup (kv.1.map kV))) ts kvs → kvs.map (·.1) = L.map kS → Paired (fun t ls=>H2 t = some (.tup (ls.map V.str))) ts L:=by
      intro kvs ts L h
      induction h generalizing L with
      | nil =>
       intro e
       cases L with
       | nil=>exact .nil
       | cons _ _=>cases e
      | cons a b ih =>
       intro e
       cases L with
       | nil=>cases e
       | cons x L =>
        have e1:=List.cons.inj e
        exact .cons (by rw [← kS_kV,← e1.1]; exact a) (ih e1.2)
     exact Paired.mapP (gen hts hk2) fun t ls e=>by rw [upd_ne (ne_of_none e hp)]; exact e
theorem ok_some {f fC fP fD fA fH : Addr} {fd dC dP dD dA dH : FuncData} (F : Fun K "_law_some_fence" "_law_some_fence" sSome f fd)
 (gC : FnOk P w K mg base CX0 3 fC dC ["_law_script", "_law_k"] (spCellR K)) (mC : mg "_law_cell" = some (.ref fC)) (kC : PySem.W.keepIn K (.ref fC) = true) (bC : Binds K dC ["_law_script", "_law_k"] [])
 (gP : FnOk P w K mg base CX0 1 fP dP ["_law_left", "_law_many"] spPick) (mP : mg "_law_pick" = some (.ref fP)) (kP : PySem.W.keepIn K (.ref fP) = true) (bP : Binds K dP ["_law_left", "_law_many"] [])
 (gD : FnOk P w K mg base CX0 2 fD dD pDr (spDrawn K)) (mD : mg "_law_drawn_pieces" = some (.ref fD)) (kD : PySem.W.keepIn K (.ref fD) = true) (bD : Binds K dD pDr [])
 (gA : FnOk P w K mg base CX0 5 fA dA ["_law_m"] (spApart K)) (mA : mg "_law_apart" = some (.ref fA)) (kA : PySem.W.keepIn K (.ref fA) = true) (bA : Binds K dA ["_law_m"] [])
 (gH : FnOk P w K mg base CX0 5 fH dH ["_law_m", "_law_pieces"] (spHeld K)) (mH : mg "_law_held" = some (.ref fH)) (kH : PySem.W.keepIn K (.ref fH) = true) (bH : Binds K dH ["_law_m", "_law_pieces"] []) : FnOk P w K mg base CX0 6 f fd pSf (spSome K):=by
 refine F.ok scSf (fun vs H Q E h=>?_) (fun cdv A outer s H vs Q E hr h=>?_)
 · obtain ⟨m,a1,a2,a3,a4,a5,a6,sc,M,names,ns,k,rfl,_⟩:=h
   rfl
 · obtain ⟨m,a1,a2,a3,a4,a5,a6,sc,M,names,ns,k,rfl,hM,hm,k4,w3,hsc,k0,k20,kk⟩:=h
   have hr1 : Room 1 _:=hr.mono (by decide)
   have hr2 : Room 2 _:=hr.mono (by decide)
   have hr3 : Room 3 _:=hr.mono (by decide)
   refine ⟨_,pss_cons (ps_set (i:=3) scSf.nd rfl (Or.inl rfl) (pe_lst (pa_cons (pe_call gC hr3 rfl mC kC bC .nil pass0 (pa_cons (pv 1) (pa_cons (pe_op op_add pe_int (pv 2)) pa_nil))) pa_nil)))
    (pss_cons (ps_set (i:=4) scSf.nd rfl (Or.inl rfl) (pe_call gD hr2 rfl mD kD bD .nil pass0 (pa_cons (pv 0) (pa_cons (pv 3) (pa_cons (pe_call gP hr1 rfl mP kP bP .nil pass0 (pa_cons (pv 3) (pa_cons pe_int pa_nil))) pa_nil)))))
    (pss_cons (ps_set (i:=5) scSf.nd rfl (Or.inl rfl) (pe_call gH hr rfl mH kH bH .nil pass0 (pa_cons (pv 0) (pa_cons (pe_ix (r:=rIxL K) ix_list (pe_lst (pa_cons (pv 4) (pa_cons (pe_op op_cat (pv 4) (pe_call gA hr rfl mA kA bA .nil pass0 (pa_cons (pv 0) pa_nil))) (pa_cons (pe_call gA hr rfl mA kA bA .nil pass0 (pa_cons (pv 0) pa_nil)) pa_nil)))) (pe_call gP hr1 rfl mP kP bP .nil pass0 (pa_cons (pv 3) (pa_cons pe_int pa_nil))) (fun _ _=>rfl)) pa_nil))))
    (pss_one (ps_ret (pe_op op_cat (pv 5) (pe_slice (r:=rSlL K) sl_list (pv 5) po_none (po_some (pe_call gP hr1 rfl mP kP bP .nil pass0 (pa_cons (pv 3) (pa_cons pe_int pa_nil)))))))))),?_⟩
   refine ⟨_,rfl,_,rfl,_,_,rfl,rfl,sc,ns,_,rfl,hsc,by omega,by omega,fun v=>⟨(by show 1 ≤ sizeLine; decide),fun l hl=>?_⟩⟩
   have hU : Under H (upd H l (.lst [.int v])) l:=fun b o hb=>⟨ne_of_none hb hl,by rw [upd_ne (ne_of_none hb hl)]; exact hb⟩
   have u1 : (upd H l (.lst [.int v])) l = some (.lst [.int v]):=upd_same
   generalize upd H l (.lst [.int v]) = H1 at hU u1 ⊢
   refine ⟨_,rfl,_,rfl,_,rfl,l,_,6,rfl,u1,.inl ⟨v,rfl⟩,by decide,by decide,fun n ys2 H2 n0 n6 hp2 hl2 kp2=>?_⟩
   have hU2 : Under H H2 l:=fun b o hb=>⟨(hU b o hb).1,kp2 b o (hU b o hb).2 (hU b o hb).1⟩
   refine ⟨H,m,a1,a2,a3,a4,a5,a6,l,M,ys2,n,rfl,hM,hU2,by omega,fun r hr=>hm.ok.nm _ (by rw [hm.ok.all]; exact List.mem_append_left _ (List.mem_append_right _ (List.mem_map.mpr ⟨r,hr,rfl⟩))),hl2,hp2,n0,by omega,fun q qs F1 ys3 H3 kp3 hl3 hp3 hF1 ok1 len1=>?_⟩
   have s3 : Same H H3:=hU2.same kp3
   refine ⟨_,rfl,_,rfl,_,rfl,_,rfl,m,a1,a2,a3,a4,a5,a6,M,names,rfl,hM.same s3,hm,k4,w3,fun p4 ps4 F4 H4 s4 hF4 ok4 len4=>?_⟩
   have hF14:=hF1.same s4
   have l14:=hF14.len
   have l4:=hF4.len
   refine ⟨q,p4,_,_,rfl,rfl,hF14.at_,hF4.at_,(by rw [List.length_map,List.length_map]; exact Nat.le_of_lt (small (by omega))),fun p5 hp5=>?_⟩
   have s5 : Same H4 (upd H4 p5 (.lst (qs.map V.ref ++ ps4.map V.ref))):=Same.upd_new hp5
   have u5 : PcsAt (upd H4 p5 (.lst (qs.map V.ref ++ ps4.map V.ref))) p5 (qs ++ ps4) (F1 ++ F4):=⟨by rw [upd_same,List.map_append],paired_append (Paired.mapP hF14.all fun _ _ e=>s5 _ _ e) (Paired.mapP hF4.all fun _ _ e=>s5 _ _ e)⟩
   generalize upd H4 p5 (.lst (qs.map V.ref ++ ps4.map V.ref)) = H5 at s5 u5 ⊢
   have s35:=s4.trans s5
   refine ⟨_,rfl,m,a1,a2,a3,a4,a5,a6,M,names,rfl,hM.same (s3.trans s35),hm,k4,w3,fun p6 ps6 F6 H6 s6 hF6 ok6 len6=>?_⟩
   refine ⟨(by show 3 ≤ sizeLine; decide),fun e he=>?_⟩
   have s7 : Same H6 (upd H6 e (.lst [.ref q,.ref p5,.ref p6])):=Same.upd_new he
   have u7 : (upd H6 e (.lst [.ref q,.ref p5,.ref p6])) e = some (.lst [.ref q,.ref p5,.ref p6]):=upd_same
   generalize upd H6 e (.lst [.ref q,.ref p5,.ref p6]) = H7 at s7 u7 ⊢
   have s37:=s35.trans (s6.trans s7)
   have hl7:=s37 _ _ hl3
   have nel : e ≠ l:=fun z=>by
    rw [z,hl7] at u7
    have h2 : ys3 = [V.ref q,.ref p5,.ref p6]:=by injection u7 with u7; injection u7
    rcases hp3 with ⟨a,rfl⟩ | ⟨a,b,rfl⟩ <;> cases h2
   refine ⟨_,rfl,l,ys3,3,rfl,hl7,hp3,by decide,by decide,fun d ys8 H8 d0 d3 hp8 hl8 kp8=>?_⟩
   have s8 : Same H H8:=hU2.same ((kp3.trans (Same.keep s37 l)).trans kp8)
   have he8:=kp8 _ _ u7 nel
   have h8q:=(hF1.same s37).keep hl7 hp3 kp8
   have h8b:=(u5.same (s6.trans s7)).keep hl7 hp3 kp8
   have h8c:=(hF6.same s7).keep hl7 hp3 kp8
   have fin : ∀ (fc : Addr) (fs : List Addr) (G : List (List Str)),PcsAt H8 fc fs G → (∀ ls ∈ G,PieceOk M ls) → G.length ≤ 22 → spHeld K [.ref m,.ref fc] H8 (fun x H'=>gName 5 x [some (.ref m),some (.ref sc),some (.int k),some (.ref l),some (.ref q),none] H' fun σ H'=>tOp rCat (tVar 5) (tSl (rSlL K) (tVar 5) tNoPart (tPart (tCall spPick [] E0 (tCons (tVar 3) (tCons (tC (.int 2)) tNil))))) σ H' Q) E0:=by
    intro fc fs G hG okG lG
    refine ⟨m,a1,a2,a3,a4,a5,a6,fc,M,names,G,fs,rfl,hM.same s8,hm,k4,w3,hG,okG,by omega,fun p9 ps9 F9 H9 s9 hF9 held9 len9=>?_⟩
    have hl9:=s9 _ _ hl8
    refine ⟨_,rfl,_,rfl,_,rfl,l,ys8,2,rfl,hl9,hp8,by decide,by decide,fun c ysA HA c0 c2 hpA hlA kpA=>?_⟩
    have hFA:=hF9.keep hl9 hp8 kpA
    have lA:=hFA.len
    have sA : Same H HA:=hU2.same (((kp3.trans (Same.keep s37 l)).trans kp8).trans ((Same.keep s9 l).trans kpA))
    refine ⟨c,rfl,p9,_,rfl,SqL.of hFA.at_,fun pB hpB=>?_⟩
    have ec : c = ((c.toNat : Nat) : Int):=by omega
    have ecut : cutV (ps9.map V.ref) none (some c) = (ps9.take c.toNat).map V.ref:=by rw [ec,cut_toL,List.map_take]; rfl
    rw [ecut]
    have sB : Same HA (upd HA pB (.lst ((ps9.take c.toNat).map V.ref))):=Same.upd_new hpB
    have uB : (upd HA pB (.lst ((ps9.take c.toNat).map V.ref))) pB = some (.lst ((ps9.take c.toNat).map V.ref)):=upd_same
    generalize upd HA pB (.lst ((ps9.take c.toNat).map V.ref)) = HB at sB uB ⊢
    have hFB:=hFA.same sB
    refine ⟨p9,pB,_,_,rfl,rfl,hFB.at_,uB,(by rw [List.length_map,List.length_map,List.length_take]; exact Nat.le_of_lt (small (by omega))),fun pC hpC=>?_⟩
    have sC : Same HB (upd HB pC (.lst (ps9.map V.ref ++ (ps9.take c.toNat).map V.ref))):=Same.upd_new hpC
    refine kk pC (ps9 ++ ps9.take c.toNat) (F9 ++ F9.take c.toNat) _ (sA.trans (sB.trans sC)) ((sA.trans sB).free hpC) ⟨by rw [upd_same,List.map_append],paired_append (Paired.mapP hFB.all fun _ _ e=>sC _ _ e) (paired_take _ (Paired.mapP hFB.all fun _ _ e=>sC _ _ e))⟩ ?_ (by rw [List.length_append,List.length_take]; omega)
    exact Held.union fun ls hl=>⟨F9,held9,by
     rcases List.mem_append.mp hl with h | h
     · exact h
     · exact List.mem_of_mem_take h,fun x hx=>List.mem_append_left _ hx⟩
   rcases (show d = 0 ∨ d = 1 ∨ d = 2 by omega) with rfl | rfl | rfl
   · exact ⟨e,_,0,.ref q,rfl,rfl,SqL.of he8,rfl,fin q qs F1 h8q ok1 (by omega)⟩
   · exact ⟨e,_,1,.ref p5,rfl,rfl,SqL.of he8,rfl,fin p5 _ _ h8b (fun ls h=>(List.mem_append.mp h).elim (ok1 ls) (ok4 ls)) (by rw [List.length_append]; omega)⟩
   · exact ⟨e,_,2,.ref p6,rfl,rfl,SqL.of he8,rfl,fin p6 ps6 F6 h8c ok6 (by omega)⟩
end
end Gen
namespace Gen
open PySem L2
abbrev dS (ls : List Str) : PyData:=.tuple (ls.map PyData.str)
abbrev dF (F : List (List Str)) : PyData:=.list (F.map dS)
abbrev dFs (Fs : List (List (List Str))) : PyData:=.list (Fs.map dF)
theorem eqv_map {α : Type} [DecidableEq α] {f : α → PyData} (h : ∀ a b,PyData.eqv (f a) (f b) = decide (a = b)) : ∀ (b c : List α),PyData.eqvAll (b.map f) (c.map f) = decide (b = c)
 | [],[]=>rfl
 | [],_ :: _=>rfl
 | _ :: _,[]=>rfl
 | x :: b,y :: c=>by
  rw [List.map_cons,List.map_cons,PyData.eqvAll,eqv_map h b c,h,Bool.eq_iff_iff,Bool.and_eq_true,decide_eq_true_eq,decide_eq_true_eq,decide_eq_true_eq,List.cons.injEq]
theorem eqv_str (a b : Str) : PyData.eqv (.str a) (.str b) = decide (a = b):=by
 rw [PyData.eqv,Bool.eq_iff_iff,beq_iff_eq,decide_eq_true_eq]
theorem eqv_S (a b : List Str) : PyData.eqv (dS a) (dS b) = decide (a = b):=by rw [PyData.eqv]; exact eqv_map eqv_str a b
theorem eqv_F (a b : List (List Str)) : PyData.eqv (dF a) (dF b) = decide (a = b):=by rw [PyData.eqv]; exact eqv_map eqv_S a b
theorem eqv_Fs (a b : List (List (List Str))) : PyData.eqv (dFs a) (dFs b) = decide (a = b):=by rw [PyData.eqv]; exact eqv_map eqv_F a b
theorem dep_strs : ∀ (b : List Str),PyData.depthAll (b.map PyData.str) = 0
 | []=>rfl
 | _ :: b=>by rw [List.map_cons,PyData.depthAll,dep_strs b]; rfl
theorem dep_S (b : List Str) : (dS b).depth ≤ 1:=by rw [PyData.depth,dep_strs]; exact Nat.le_refl _
theorem dep_F (b : List (List Str)) : (dF b).depth ≤ 2:=by
 rw [PyData.depth]
 exact Nat.succ_le_succ (dep_all fun d hd=>by obtain ⟨ls,_,rfl⟩:=List.mem_map.mp hd; exact dep_S ls)
theorem dep_Fs (b : List (List (List Str))) : (dFs b).depth ≤ 3:=by
 rw [PyData.depth]
 exact Nat.succ_le_succ (dep_all fun d hd=>by obtain ⟨ls,_,rfl⟩:=List.mem_map.mp hd; exact dep_F ls)
theorem strOk_of {x : Str} (h : ∀ c ∈ x.cps.toList,c < 1114112) : PyData.strOk x = true:=by
 unfold PyData.strOk
 rw [Array.all_eq_true']
 exact fun c hc=>decide_eq_true (h c (Array.mem_toList_iff.mpr hc))
theorem name_codes {x : Str} (h : NameS x) : ∀ c ∈ x.cps.toList,c < 1114112:=fun c hc=>by
 have:=mem_letters.mp (h.2.2 c hc)
 omega
theorem LitK.strOk {M : Mach} {names : List Str} (hm : Fm M names) {l : Str} (h : LitK M l) : PyData.strOk l = true:=by
 obtain ⟨x,hx,h⟩:=h
 have hn : NameS x:=hm.ok.nm x (by rw [hm.ok.all]; exact List.mem_append_left _ (List.mem_append_right _ hx))
 rcases h with rfl | rfl
 · exact strOk_of (name_codes hn)
 · refine strOk_of fun c hc=>?_
   rw [tilde_cps] at hc
   rcases List.mem_cons.mp hc with rfl | hc
   · decide
   · exact name_codes hn c hc
theorem PieceOk.lay {M : Mach} {names : List Str} (hm : Fm M names) {ls : List Str} (h : PieceOk M ls) : (dS ls).canLay0 = true:=by
 rw [PyData.canLay0]
 refine lay_all fun d hd=>?_
 obtain ⟨l,hl,rfl⟩:=List.mem_map.mp hd
 rw [PyData.canLay0]
 exact (h.1 l hl).strOk hm
theorem lay_F {F : List (List Str)} (h : ∀ ls ∈ F,(dS ls).canLay0 = true) : (dF F).canLay0 = true:=by
 rw [PyData.canLay0]
 exact lay_all fun d hd=>by obtain ⟨l,hl,rfl⟩:=List.mem_map.mp hd; exact h l hl
theorem lay_Fs {Fs : List (List (List Str))} (h : ∀ F ∈ Fs,∀ ls ∈ F,(dS ls).canLay0 = true) : (dFs Fs).canLay0 = true:=by
 rw [PyData.canLay0]
 exact lay_all fun d hd=>by obtain ⟨l,hl,rfl⟩:=List.mem_map.mp hd; exact lay_F (h l hl)
theorem any_S {L : List (List Str)} {x : List Str} : ((L.map dS).any fun e=>PyData.eqv e (dS x)) = decide (x ∈ L):=by
 rw [Bool.eq_iff_iff,List.any_eq_true,decide_eq_true_eq]
 constructor
 · rintro ⟨e,he,h⟩
   obtain ⟨y,hy,rfl⟩:=List.mem_map.mp he
   rw [eqv_S,decide_eq_true_eq] at h
   exact h ▸ hy
 · intro h
   exact ⟨_,List.mem_map.mpr ⟨x,h,rfl⟩,by rw [eqv_S]; exact decide_eq_true rfl⟩
theorem dp_S {K : PySem.W.Frag} {H : Hp} {p : Addr} {ls : List Str} (h : H p = some (.tup (ls.map V.str))) : Dp K H (.ref p) (dS ls):=.tup (SqT.of h) (dps_strs ls)
theorem PcsAt.dps {K : PySem.W.Frag} {H : Hp} {fc : Addr} {ps : List Addr} {F : List (List Str)} (h : PcsAt H fc ps F) : Dps K H (ps.map V.ref) (F.map dS):=dps_refs (Paired.mapP h.all fun _ _ e=>dp_S e)
theorem PcsAt.dp {K : PySem.W.Frag} {H : Hp} {fc : Addr} {ps : List Addr} {F : List (List Str)} (h : PcsAt H fc ps F) : Dp K H (.ref fc) (dF F):=.lst (SqL.of h.at_) h.dps
theorem PcssAt.dp {K : PySem.W.Frag} {H : Hp} {wl : Addr} {qs : List Addr} {Fs : List (List (List Str))} (h : PcssAt H wl qs Fs) : Dp K H (.ref wl) (dFs Fs):=.lst (SqL.of h.at_) (dps_refs (Paired.mapP h.all fun _ _ ⟨_,e⟩=>e.dp))
theorem addN_in {L : List (List Str)} {x : List Str} (h : x ∈ L) : addN L x = L:=if_pos h
theorem addN_out {L : List (List Str)} {x : List Str} (h : x ∉ L) : addN L x = L ++ [x]:=if_neg h
theorem lc_due {K : PySem.W.Frag} {H1 : Hp} {D fc du : Addr} {ps ds : List Addr} {F L : List (List Str)} {Q : Hp → Prop} (hD : H1 D = none) (hF : PcsAt H1 fc ps F) (hL : PcsAt H1 du ds L) (lF : ∀ ls ∈ F,(dS ls).canLay0 = true) (lL : ∀ ls ∈ L,(dS ls).canLay0 = true) (hl : F.length ≤ 400)
 (fin : ∀ H4 ds' A,Same H1 H4 → PcsAt H4 D ds' A → L ++ A = F.foldl addN L → Q H4) :
 ∃ W : Nat → Nat → St → Hp → Prop,(∃ k,W 0 k [none,none,some (.ref du),some (.ref fc)] (upd H1 D (.lst []))) ∧ bLC D (gTup K 2 (gCons (gName 0) (gCons (gName 1) gNil))) (tAnd (tTest (tOp (rInD K 1 true) (tVar 1) (tVar 2))) (tTest (tOp (rInD K 1 true) (tVar 1) (tSl (rSlL K) (tVar 3) tNoPart (tPart (tVar 0)))))) (tVar 1) (Ite K fc) W Q:=by
 have hpl:=hF.len
 refine lc_by F.length (fun j acc σ H4=>(∃ (us : List Addr) (A : List (List Str)),acc = us.map V.ref ∧ Paired (fun p ls=>H4 p = some (.tup (ls.map V.str))) us A ∧ us.length ≤ j ∧ L ++ A = (F.take j).foldl addN L) ∧ (∃ u v,σ = [u,v,some (.ref du),some (.ref fc)]) ∧ Same H1 H4) ⟨⟨[],[],rfl,.nil,Nat.le_refl _,by simp⟩,⟨none,none,rfl⟩,Same.upd_new hD⟩ upd_same ?_ ?_
 · rintro acc σ H4 hDD ⟨⟨us,A,rfl,hus,_,hA⟩,_,s4⟩
   rw [List.take_length] at hA
   exact ⟨⟨_,SqL.of (s4 _ _ hF.at_),by rw [List.length_map,hpl]; exact Nat.le_refl _⟩,fin H4 us A s4 ⟨hDD,hus⟩ hA⟩
 · rintro j acc σ H4 hj hDD ⟨⟨us,A,rfl,hus,hul,hA⟩,⟨u,v,rfl⟩,s4⟩
   obtain ⟨p,hp,hP⟩:=paired_at hF.all (i:=j) (List.getElem?_eq_getElem hj)
   have ej : (ps.map V.ref)[j]? = some (.ref p):=by rw [List.getElem?_map,hp]; rfl
   refine ⟨⟨_,_,SqL.of (s4 _ _ hF.at_),ej⟩,?_⟩
   rintro x' H' ⟨Tp,xv,rfl,hTp,rfl,hall⟩
   have ex:=hall _ (SqL.of (s4 _ _ hF.at_))
   rw [ej] at ex
   cases ex
   have s5 : Same H4 (upd H4 Tp (.tup [.int (j : Int),.ref p])):=Same.upd_new hTp
   have u5 : (upd H4 Tp (.tup [.int (j : Int),.ref p])) Tp = some (.tup [.int (j : Int),.ref p]):=upd_same
   generalize upd H4 Tp (.tup [.int (j : Int),.ref p]) = H5 at s5 u5 ⊢
   have s15:=s4.trans s5
   have hlp:=lF _ (List.getElem_mem hj)
   have htk : (F.take (j + 1)).foldl addN L = addN ((F.take j).foldl addN L) F[j]:=by
    rw [List.take_succ,List.getElem?_eq_getElem hj,List.foldl_append]
    rfl
   have hmf : F[j] ∈ (F.take j).foldl addN L ↔ F[j] ∈ L ∨ F[j] ∈ F.take j:=mem_fold
   generalize F[j] = x at hP hlp htk hmf
   have hP5:=s15 _ _ hP
   have hL5:=hL.same s15
   have hD5:=s5 _ _ hDD
   have hus5 : Paired (fun p ls=>H5 p = some (.tup (ls.map V.str))) us A:=Paired.mapP hus fun _ _ e=>s5 _ _ e
   have skip : ∀ H6,Same H5 H6 → (x ∈ L ∨ x ∈ F.take j) → ∃ m',m' < F.length - j ∧ LcW D F.length (fun j acc σ H4=>(∃ (us : List Addr) (A : List (List Str)),acc = us.map V.ref ∧ Paired (fun p ls=>H4 p = some (.tup (ls.map V.str))) us A ∧ us.length ≤ j ∧ L ++ A = (F.take j).foldl addN L) ∧ (∃ u v,σ = [u,v,some (.ref du),some (.ref fc)]) ∧ Same H1 H4) (j + 1) m' [some (.int (j : Int)),some (.ref p),some (.ref du),some (.ref fc)] H6:=fun H6 s6 hx=>lcW_next hj (s6 _ _ hD5) ⟨⟨us,A,rfl,Paired.mapP hus5 fun _ _ e=>s6 _ _ e,by omega,by rw [htk,addN_in (hmf.mpr hx)]; exact hA⟩,⟨_,_,rfl⟩,s15.trans s6⟩
   refine ⟨Tp,_,rfl,SqT.of u5,rfl,_,_,rfl,_,_,rfl,rfl,?_⟩
   refine ⟨_,rfl,_,rfl,du,_,dS x,L.map dS,rfl,.inl (SqL.of hL5.at_),hL5.dps,dp_S hP5,hlp,(fun e he=>by obtain ⟨y,hy,rfl⟩:=List.mem_map.mp he; exact lL y hy),dep_S x,_,rfl,?_⟩
   rw [any_S]
   by_cases hxL : x ∈ L
   · rw [decide_eq_true hxL]
     exact iteF' rfl (iteF' rfl (skip H5 (fun _ _ h=>h) (.inl hxL)))
   · rw [decide_eq_false hxL]
     refine iteT' rfl ?_
     have hF5:=hF.same s15
     refine ⟨_,rfl,_,rfl,_,rfl,_,rfl,fc,_,rfl,SqL.of hF5.at_,fun e he=>?_⟩
     rw [cut_toL,← List.map_take]
     have s6 : Same H5 (upd H5 e (.lst ((ps.take j).map V.ref))):=Same.upd_new he
     have u6 : PcsAt (upd H5 e (.lst ((ps.take j).map V.ref))) e (ps.take j) (F.take j):=⟨upd_same,Paired.mapP (paired_take j hF5.all) fun _ _ e=>s6 _ _ e⟩
     generalize upd H5 e (.lst ((ps.take j).map V.ref)) = H6 at s6 u6 ⊢
     have hP6:=s6 _ _ hP5
     refine ⟨e,_,dS x,(F.take j).map dS,rfl,.inl (SqL.of u6.at_),u6.dps,dp_S hP6,hlp,(fun e he=>by obtain ⟨y,hy,rfl⟩:=List.mem_map.mp he; exact lF y (List.mem_of_mem_take hy)),dep_S x,_,rfl,?_⟩
     rw [any_S]
     by_cases hxF : x ∈ F.take j
     · rw [decide_eq_true hxF]
       exact iteF' rfl (skip H6 s6 (.inr hxF))
     · rw [decide_eq_false hxF]
       refine iteT' rfl ?_
       have hD6:=s6 _ _ hD5
       have nt : ∀ {b : Addr} {xs : List V},H6 b = some (.tup xs) → b ≠ D:=fun hb=>ne_of hb hD6 (by intro z; cases z)
       refine ⟨_,rfl,_,hD6,(by rw [List.length_map]; exact small (by omega)),lcW_next hj upd_same ⟨⟨us ++ [p],A ++ [x],by rw [List.map_append]; rfl,?_,by rw [List.length_append,List.length_singleton]; omega,?_⟩,⟨_,_,rfl⟩,fun y o hy=>?_⟩⟩
       · exact paired_append (Paired.mapP hus5 fun c d e=>by have:=s6 _ _ e; rw [upd_ne (nt this)]; exact this) (.cons (by rw [upd_ne (nt hP6)]; exact hP6) .nil)
       · rw [htk,addN_out (fun h=>(hmf.mp h).elim hxL hxF),← List.append_assoc,hA]
       · rw [upd_ne (ne_of_none hy hD)]
         exact (s15.trans s6) y o hy
theorem join_fit {M : Mach} {l : Str} {Fs : List (List (List Str))} (h : ∀ F ∈ Fs,Held M F) {F : List (List Str)} (hF : F ∈ Fs) (hf : Faultless M l F) : Faultless M l (joinF Fs):=by
 have hin : ∀ F ∈ Fs,∀ ls ∈ F,ls ∈ joinF Fs:=fun F hF ls hl=>mem_fold.mpr (.inr (List.mem_flatten.mpr ⟨F,hF,hl⟩))
 have hh : Held M (joinF Fs):=Held.union fun ls hl=>by
  rcases mem_fold.mp hl with h0 | h0
  · cases h0
  · obtain ⟨G,hG,hlG⟩:=List.mem_flatten.mp h0
    exact ⟨G,h G hG,hlG,hin G hG⟩
 exact ⟨hh.first,hh.step,fun r hr=>hf.never r (ways_sub (hin F hF) r hr)⟩
theorem join_ok {M : Mach} {Fs : List (List (List Str))} (h : ∀ F ∈ Fs,Held M F) : ∀ ls ∈ joinF Fs,PieceOk M ls:=fun ls hl=>by
 rcases mem_fold.mp hl with h0 | h0
 · cases h0
 · obtain ⟨G,hG,hlG⟩:=List.mem_flatten.mp h0
   exact (h G hG).ok ls hlG
theorem flat_len {n : Nat} : ∀ {Fs : List (List (List Str))},(∀ F ∈ Fs,F.length ≤ n) → Fs.flatten.length ≤ Fs.length * n
 | [],_=>by simp
 | F :: Fs,h=>by
  rw [List.flatten_cons,List.length_append,List.length_cons,Nat.succ_mul]
  have:=h F List.mem_cons_self
  have:=flat_len (Fs:=Fs) fun G hG=>h G (List.mem_cons_of_mem _ hG)
  omega
end Gen
namespace Gen
open PySem L2
abbrev sLaw : Stmt:=top 30
def spLaw (K : PySem.W.Frag) : Sp:=fun vs H Q _=>∃ (a : Addr) (ns : List Int),vs = [.ref a] ∧ SqL K H a (ns.map V.int) ∧ ∀ H',Q (.bl true) H'
abbrev nLaw : List Str:=["_law_script", "_law_m", "_law_number", "_law_fences", "_law_handed", "_law_due", "_law_fence", "_law_found", "_law_wish", "_law_literal_here", "_law_fit"]
theorem ndKMS : (["_law_k", "_law_m", "_law_script"] : List Str).Nodup:=by decide +kernel
theorem ndFe : (["_law_fence"] : List Str).Nodup:=by decide +kernel
theorem ndKPDF : (["_law_k", "_law_piece", "_law_due", "_law_fence"] : List Str).Nodup:=by decide +kernel
theorem ndFML : (["_law_fence", "_law_m", "_law_literal_here"] : List Str).Nodup:=by decide +kernel
def rLst (K : PySem.W.Frag) : List V → Hp → VK → Prop:=fun xs H Q=>∃ p ys,xs = [.ref p] ∧ (SqL K H p ys ∨ SqT K H p ys) ∧ ∀ l,H l = none → Q (.ref l) (upd H l (.lst ys))
structure CallsL (P : Program) (w : World) (K : PySem.W.Frag) (mg : Str → Option Value) (base : Heap) (fM fW fX fC fS fJ fF : Addr) (dM dW dX dC dS' dJ dF' : FuncData) : Prop where
 gM : FnOk P w K mg base CX0 5 fM dM ["_law_script", "_law_sizes"] (spMachine K)
 mM : mg "_law_machine" = some (.ref fM)
 kM : PySem.W.keepIn K (.ref fM) = true
 bM : Binds K dM ["_law_script", "_law_sizes"] []
 gW : FnOk P w K mg base CX0 1 fW dW ["_law_m"] (spWn K)
 mW : mg "_law_with_nought" = some (.ref fW)
 kW : PySem.W.keepIn K (.ref fW) = true
 bW : Binds K dW ["_law_m"] []
 gX : FnOk P w K mg base CX0 1 fX dX ["_law_cell_here", "_law_k"] spMix
 mX : mg "_law_mix" = some (.ref fX)
 kX : PySem.W.keepIn K (.ref fX) = true
 bX : Binds K dX ["_law_cell_here", "_law_k"] []
 gC : FnOk P w K mg base CX0 1 fC dC ["_law_script", "_law_k"] (spCell K)
 mC : mg "_law_cell_at" = some (.ref fC)
 kC : PySem.W.keepIn K (.ref fC) = true
 bC : Binds K dC ["_law_script", "_law_k"] []
 gS : FnOk P w K mg base CX0 6 fS dS' pSf (spSome K)
 mS : mg "_law_some_fence" = some (.ref fS)
 kS : PySem.W.keepIn K (.ref fS) = true
 bS : Binds K dS' pSf []
 gJ : FnOk P w K mg base CX0 1 fJ dJ ["walls"] (spJoined K)
 mJ : mg "joined" = some (.ref fJ)
 kJ : PySem.W.keepIn K (.ref fJ) = true
 bJ : Binds K dJ ["walls"] []
 gF : FnOk P w K mg base CX0 5 fF dF' pFt (spFault K)
 mF : mg "_law_fault" = some (.ref fF)
 kF : PySem.W.keepIn K (.ref fF) = true
 bF : Binds K dF' pFt []
section
variable {P : Program} {w : World} {K : PySem.W.Frag} {mg : Str → Option Value} {base : Heap} {fM fW fX fC fS fJ fF : Addr} {dM dW dX dC dS' dJ dF' : FuncData}
theorem scLaw : FnScope nLaw ["_law_script"] (defScope sLaw):=⟨rfl,rfl,rfl,by decide +kernel,rfl,by decide +kernel,by decide +kernel⟩
theorem eq_F (a : List (List Str)) : PyData.eqv (dF a) (dF a) = true:=by rw [eqv_F]; exact decide_eq_true rfl
theorem eq_Fs (a : List (List (List Str))) : PyData.eqv (dFs a) (dFs a) = true:=by rw [eqv_Fs]; exact decide_eq_true rfl
theorem ne_F (a : List (List Str)) : (!PyData.eqv (dF a) (dF a)) = false:=by rw [eq_F]; rfl
theorem ne_Fs (a : List (List (List Str))) : (!PyData.eqv (dFs a) (dFs a)) = false:=by rw [eq_Fs]; rfl
theorem PcsAt.but {H H' : Hp} {q D : Addr} {ps : List Addr} {F : List (List Str)} {n : List V} (h : PcsAt H q ps F) (k : Keep H H' D) (hD : H D = some (.lst n)) (hn : q ≠ D) : PcsAt H' q ps F:=⟨k _ _ h.at_ hn,Paired.mapP h.all fun _ _ e=>k.tup hD e⟩
theorem ok_law {f : Addr} {fd : FuncData} (F : Fun K "law" "law" sLaw f fd) (T : Own mg) (O2 : Own2 mg) (G : CallsL P w K mg base fM fW fX fC fS fJ fF dM dW dX dC dS' dJ dF') : FnOk P w K mg base CX0 7 f fd ["_law_script"] (spLaw K):=by
 refine F.ok scLaw (fun vs H Q E h=>?_) (fun cdv A outer s H vs Q E hr h=>?_)
 · obtain ⟨a,ns,rfl,_⟩:=h
   rfl
 · obtain ⟨a,ns,rfl,hS,kk⟩:=h
   have hu:=hu_of hr
   have hu4:=Nat.lt_of_le_of_lt (Nat.add_le_add_left (by decide : 4 ≤ 64) _) hr.units
   have hu3:=Nat.lt_of_le_of_lt (Nat.add_le_add_left (by decide : 3 ≤ 64) _) hr.units
   have hu2:=Nat.lt_of_le_of_lt (Nat.add_le_add_left (by decide : 2 ≤ 64) _) hr.units
   have hr1 : Room 1 _:=hr.mono (by decide)
   have hr5 : Room 5 _:=hr.mono (by decide)
   refine ⟨_,pss_cons (ps_set (i:=1) scLaw.nd rfl (Or.inr rfl) (pe_call G.gM hr5 rfl G.mM G.kM G.bM .nil pass0 (pa_cons (pv 0) (pa_cons (pe_lst (pa_cons pe_int (pa_cons pe_int (pa_cons pe_int (pa_cons pe_int pa_nil))))) pa_nil))))
    (pss_cons (ps_expr (pe_call G.gW hr1 rfl G.mW G.kW G.bW .nil pass0 (pa_cons (pv 1) pa_nil)))
    (pss_cons (ps_set (i:=2) scLaw.nd rfl (Or.inl rfl) (pe_call G.gX hr1 rfl G.mX G.kX G.bX .nil pass0 (pa_cons (pe_call G.gC hr1 rfl G.mC G.kC G.bC .nil pass0 (pa_cons (pv 0) (pa_cons pe_int pa_nil))) (pa_cons pe_int pa_nil))))
    (pss_cons (ps_lc (i:=3) (N:=["_law_k", "_law_m", "_law_script"]) (js:=[none,some 1,some 0]) scLaw.nd rfl rfl (by kernel_rfl) rfl (pi_range1 rfl T.range (pa_cons (pe_op op_add (pe_op op_add pe_int (pe_op op_mod (pv 2) pe_int)) (pe_op op_mul pe_int (pe_callTy call_int1 (by rfl) O2.int PyProof.Rows.boot_int (pa_cons (pe_cmpR op_eq (pe_op op_mod (pe_op op_fdiv (pv 2) pe_int) pe_int) pe_int (nomark _)) pa_nil)))) pa_nil)) (fun _ _ _ _ _ _=>pg_name (i:=0) ndKMS rfl (Or.inl rfl) (.inr rfl)) (fun _ _ _ _ _ _=>pifs_nil)
     (fun _ _ _ _ _ _=>pe_call G.gS hr rfl G.mS G.kS G.bS .nil pass0 (pa_cons (pv 1) (pa_cons (pv 2) (pa_cons (pv 0) pa_nil)))))
    (pss_cons (ps_lc (i:=4) (N:=["_law_fence"]) (js:=[none]) scLaw.nd rfl rfl (by kernel_rfl) rfl (pi_list (pv 3)) (fun _ _ _ _ _ _=>pg_name (i:=0) ndFe rfl (Or.inl rfl) (.inr rfl)) (fun _ _ _ _ _ _=>pifs_nil) (fun _ _ _ _ _ _=>pe_callTy (r:=rLst K) call_list_of (by rfl) O2.list PyProof.Rows.boot_list (pa_cons (pv 0) pa_nil)))
    (pss_cons (ps_set (i:=5) scLaw.nd rfl (Or.inr rfl) (pe_lst pa_nil))
    (pss_cons (ps_for PassesOwn.never rfl (pi_list (pv 3)) (pg_name (i:=6) scLaw.nd rfl (Or.inr rfl))
     (pss_one (ps_set (i:=5) scLaw.nd rfl (Or.inr rfl) (pe_op op_cat (pv 5) (pe_lc (N:=["_law_k", "_law_piece", "_law_due", "_law_fence"]) (js:=[none,none,some 5,some 6]) (g:=gTup K 2 (gCons (gName 0) (gCons (gName 1) gNil))) (by kernel_rfl) rfl (pi_enum rfl T.enum (pa_cons (pv 6) pa_nil))
      (fun _ _ _ _ _ _=>pg_tup rfl (pgs_cons (pg_name (i:=0) ndKPDF rfl (Or.inl rfl) (.inr rfl)) (pgs_cons (pg_name (i:=1) ndKPDF rfl (Or.inl rfl) (.inr rfl)) pgs_nil)))
      (fun _ _ _ _ _ _=>pifs_one (pw_and (pt_cmpR (r:=rInD K 1 true) (op_notInD hu2) (pv 1) (pv 2) (by with_unfolding_all rfl)) (pw_and1 (pt_cmpR (r:=rInD K 1 true) (op_notInD hu2) (pv 1) (pe_slice (r:=rSlL K) sl_list (pv 3) po_none (po_some (pv 0))) (by with_unfolding_all rfl)))).pt) (fun _ _ _ _ _ _=>pv 1))))))
    (pss_cons (ps_set (i:=7) scLaw.nd rfl (Or.inl rfl) (pe_call G.gJ hr1 rfl G.mJ G.kJ G.bJ .nil pass0 (pa_cons (pv 4) pa_nil)))
    (pss_cons (ps_if (pw_or (pt_not (pt_val (pe_callB call_isinst (by rfl) O2.isi PyProof.Rows.boot_isinstance (pa_cons (pv 7) (pa_cons (pe_bltn (v:=.ty "list") (by rfl) O2.list PyProof.Rows.boot_list rfl) pa_nil))))) (pw_or (pt_cmpR (op_neDp (n:=3) hu3) (pv 7) (pv 5) (nomark _)) (pw_or1 (pt_cmpR (op_neDp (n:=3) hu3) (pv 4) (pv 3) (nomark _))))).pt (pss_one (ps_ret pe_bl)) pss_nil)
    (pss_cons (ps_for PassesOwn.never rfl (pi_list (pe_dget hu (pv 1) pe_str (fun _ _=>rfl))) (pg_tup rfl (pgs_cons (pg_name (i:=8) scLaw.nd rfl (Or.inl rfl)) (pgs_cons (pg_name (i:=9) scLaw.nd rfl (Or.inr rfl)) pgs_nil)))
     (pss_cons (ps_lc (i:=10) (N:=["_law_fence", "_law_m", "_law_literal_here"]) (js:=[none,some 1,some 9]) scLaw.nd rfl rfl (by kernel_rfl) rfl (pi_list (pv 3)) (fun _ _ _ _ _ _=>pg_name (i:=0) ndFML rfl (Or.inl rfl) (.inr rfl)) (fun _ _ _ _ _ _=>pifs_one (pt_cmp (pc_isN (pe_call G.gF hr5 (by rfl) G.mF G.kF G.bF .nil pass0 (pa_cons (pv 1) (pa_cons (pv 2) (pa_cons (pv 0) pa_nil))))))) (fun _ _ _ _ _ _=>pv 0))
     (pss_one (ps_if (pw_and (pt_cmpR (op_neE (Nat.lt_of_succ_lt hu)) (pv 10) (pe_lst pa_nil) (nomark _)) (pw_and1 (pt_cmp (pc_notN (pe_call G.gF hr5 (by rfl) G.mF G.kF G.bF .nil pass0 (pa_cons (pv 1) (pa_cons (pv 9) (pa_cons (pv 7) pa_nil)))))))).pt (pss_one (ps_ret pe_bl)) pss_nil))))
    (pss_cons (ps_expr (pe_bm PySem.F.plainAttrs_list PySem.F.slot_list_append PySem.F.type_list_append mt_append (pv 7) (pa_cons (pe_tup pa_nil) pa_nil)))
    (pss_cons (ps_expr (pe_bm0 PySem.F.plainAttrs_list PySem.F.slot_list_reverse PySem.F.type_list_reverse mt_reverse (pv 7)))
    (pss_one (ps_ret (pe_and (pe_cmpR (op_eqDp (n:=3) hu3) (pv 4) (pv 3) (nomark _)) (pe_one (pe_cmpR (op_eqDp (n:=3) hu3) (pe_call G.gJ hr1 rfl G.mJ G.kJ G.bJ .nil pass0 (pa_cons (pv 4) pa_nil)) (pv 5) (nomark _))))))))))))))))),?_⟩
   refine ⟨_,rfl,(by show 4 ≤ sizeLine; decide),fun z hz=>?_⟩
   have st : Same H (upd H z (.lst [.int 2,.int 4,.int 6,.int 2])):=Same.upd_new hz
   refine ⟨a,z,ns,2,4,6,2,rfl,Same.seq st hS,⟨.inl (SqL.of upd_same),by decide,by decide,by decide,by decide,by decide⟩,⟨_,upd_same⟩,fun m M0 names a1 a2 a3 a4 a5 a6 H1 ok l1 l0 l2 l3 l4 l5 l6 l7 hM0 s1=>?_⟩
   have hS1:=Same.seq s1 (Same.seq st hS)
   have hm0 : Fm M0 names:=⟨ok,l0.2,l2.2,l3⟩
   refine ⟨_,rfl,m,a1,a2,a3,a4,a5,a6,M0,names,rfl,hM0,hm0,by omega,fun nm H2 k2 hM hm=>?_⟩
   have hk4 : (M0.plus nm).keepers.length ≤ 4:=by show M0.keepers.length ≤ 4; omega
   have hw3 : (M0.plus nm).switches.length ≤ 3:=by show M0.switches.length ≤ 3; omega
   have hS2 : SqL K H2 a (ns.map V.int):=by
    obtain ⟨ts,h5,hts⟩:=hM0.nv
    have lts:=hts.length
    rw [List.length_map] at lts
    rcases hS1 with (h | ⟨o,h⟩) | h
    · refine .inl (.inl (k2 _ _ h fun e=>?_))
      rw [e,h5] at h
      have h2 : ts.map V.ref = ns.map V.int:=by injection h with h; injection h
      cases ts with
      | nil=>simp at lts; omega
      | cons x r =>
       cases ns with
       | nil=>cases h2
       | cons y q=>cases (List.cons.inj h2).1
    · refine .inl (.inr ⟨o,k2 _ _ h fun e=>?_⟩)
      rw [e,h5] at h
      cases h
    · exact .inr h
   generalize M0.plus nm = M at hM hm hk4 hw3
   clear hM0 hm0 ok l1 l0 l2 l3 l4 l5 l6 l7 k2 hS1 s1 st
   refine ⟨_,rfl,a,ns,7,rfl,hS2,by decide,fun c=>⟨c,5,rfl,by decide,by decide,fun nb nb0 nb1=>?_⟩⟩
   refine ⟨_,rfl,_,_,rfl,rfl,(by show (0 : Int) < 4; decide),_,_,rfl,rfl,_,rfl,_,_,rfl,rfl,?cdiv,?rest⟩
   case cdiv=>exact ⟨by decide,by omega⟩
   case rest =>
   refine ⟨_,_,rfl,rfl,(by show (0 : Int) < 4; decide),rfl,.inr ⟨_,rfl,?_⟩⟩
   generalize decide (V.int (nb / 4 % 4) = V.int 1) = kb
   refine ⟨_,_,rfl,rfl,.inl ⟨by decide,by decide⟩,_,_,rfl,rfl,_,rfl,?_⟩
   have hn : 1 ≤ (1 + nb % 4 + 4 * (if kb = true then 1 else 0) : Int) ∧ (1 + nb % 4 + 4 * (if kb = true then 1 else 0) : Int) ≤ 8:=by cases kb <;> simp <;> omega
   generalize (1 + nb % 4 + 4 * (if kb = true then 1 else 0) : Int) = n at hn ⊢
   refine ⟨by omega,Int.lt_trans (by omega : n < 1000) (by decide),fun D hD=>?_⟩
   refine lc_by n.toNat (fun j acc σ H3=>(∃ (us : List Addr) (Fs : List (List (List Str))),acc = us.map V.ref ∧ Paired (fun q F=>q ≠ D ∧ ∃ ps,PcsAt H3 q ps F) us Fs ∧ us.length = j ∧ ∀ F ∈ Fs,Held M F ∧ F.length ≤ 44) ∧ (∃ u,σ = [u,some (.ref m),some (.ref a)]) ∧ Same H2 H3) ⟨⟨[],[],rfl,.nil,rfl,(fun _ h=>nomatch h)⟩,⟨none,rfl⟩,Same.upd_new hD⟩ upd_same ?fin ?step
   case step =>
    rintro j acc σ H3 hj hDD ⟨⟨us,Fs,rfl,hus,hul,hFs⟩,⟨u,rfl⟩,s3⟩
    refine ⟨hj,?_⟩
    rintro x H' ⟨rfl,rfl⟩
    refine gName_yes ?_
    refine ⟨_,rfl,_,rfl,_,rfl,m,a1,a2,a3,a4,a5,a6,a,M,names,ns,_,rfl,hM.same s3,hm,hk4,hw3,Same.seq s3 hS2,by omega,by omega,fun p ps F H4 s4 hp0 hF held hlen=>?_⟩
    have hD4:=s4 _ _ hDD
    have npD : p ≠ D:=fun e=>by rw [e,hDD] at hp0; cases hp0
    refine ⟨_,hD4,(by rw [List.length_map]; exact small (by omega)),lcW_next hj upd_same ⟨⟨us ++ [p],Fs ++ [F],by rw [List.map_append]; rfl,?_,by rw [List.length_append,List.length_singleton,hul],fun G hG=>?_⟩,⟨_,rfl⟩,fun y o hy=>?_⟩⟩
    · exact paired_append (Paired.mapP hus fun q F ⟨e1,ps,e2⟩=>⟨e1,ps,(e2.same s4).but Keep.upd_at hD4 e1⟩) (.cons ⟨npD,ps,hF.but Keep.upd_at hD4 npD⟩ .nil)
    · rcases List.mem_append.mp hG with hG | hG
      · exact hFs G hG
      · rw [List.mem_singleton.mp hG]; exact ⟨held,hlen⟩
    · rw [upd_ne (ne_of_none hy hD)]
      exact s4 _ _ (s3 y o hy)
   rintro acc σ H3 hDD ⟨⟨us,Fs,rfl,hus,hul,hFs⟩,_,s3⟩
   refine ⟨Nat.le_refl _,?_⟩
   have hFl:=hus.length
   have hW : PcssAt H3 D us Fs:=⟨hDD,Paired.mapP hus fun _ _ e=>e.2⟩
   have held : ∀ F ∈ Fs,Held M F:=fun F h=>(hFs F h).1
   have hfl : Fs.flatten.length ≤ 352:=Nat.le_trans (flat_len fun F h=>(hFs F h).2) (Nat.le_trans (Nat.mul_le_mul_right 44 (by omega : Fs.length ≤ 8)) (by decide))
   have lay : ∀ F ∈ Fs,∀ ls ∈ F,(Gen.dS ls).canLay0 = true:=fun F h ls hl=>((held F h).ok ls hl).lay hm
   have hFl8 : Fs.length ≤ 8:=by omega
   have hM3:=hM.same s3
   clear hus hul hn
   refine ⟨_,rfl,D,rfl,⟨_,SqL.of hDD⟩,fun E2 hE2=>?_⟩
   refine lc_by Fs.length (fun j acc σ H4=>(∃ vs : List Addr,acc = vs.map V.ref ∧ Paired (fun q F=>q ≠ E2 ∧ ∃ ps,PcsAt H4 q ps F) vs (Fs.take j) ∧ vs.length = j) ∧ (∃ u,σ = [u]) ∧ Same H3 H4) ⟨⟨[],rfl,.nil,rfl⟩,⟨none,rfl⟩,Same.upd_new hE2⟩ upd_same ?fin2 ?step2
   case step2 =>
    rintro j acc σ H4 hj hEE ⟨⟨vs,rfl,hvs,hvl⟩,⟨u,rfl⟩,s4⟩
    obtain ⟨q,hq,ps,hP⟩:=paired_at hW.all (i:=j) (List.getElem?_eq_getElem hj)
    have ej : (us.map V.ref)[j]? = some (.ref q):=by rw [List.getElem?_map,hq]; rfl
    refine ⟨⟨_,_,SqL.of (s4 _ _ hDD),ej⟩,?_⟩
    rintro x' H' ⟨rfl,hall⟩
    have ex:=hall _ (SqL.of (s4 _ _ hDD))
    rw [ej] at ex
    cases ex
    refine gName_yes ?_
    have hP4:=hP.same s4
    refine ⟨_,rfl,q,_,rfl,.inl (SqL.of hP4.at_),fun q2 hq2=>?_⟩
    have s5 : Same H' (upd H' q2 (.lst (ps.map V.ref))):=Same.upd_new hq2
    have u5 : PcsAt (upd H' q2 (.lst (ps.map V.ref))) q2 ps Fs[j]:=⟨upd_same,Paired.mapP hP4.all fun _ _ e=>s5 _ _ e⟩
    have nq : q2 ≠ E2:=fun e=>by rw [e,hEE] at hq2; cases hq2
    generalize upd H' q2 (.lst (ps.map V.ref)) = H5 at s5 u5 ⊢
    have hE5:=s5 _ _ hEE
    refine ⟨_,hE5,(by rw [List.length_map]; exact small (by omega)),lcW_next hj upd_same ⟨⟨vs ++ [q2],by rw [List.map_append]; rfl,?_,by rw [List.length_append,List.length_singleton,hvl]⟩,⟨_,rfl⟩,fun y o hy=>?_⟩⟩
    · rw [List.take_succ,List.getElem?_eq_getElem hj]
      exact paired_append (Paired.mapP hvs fun q F ⟨e1,ps,e2⟩=>⟨e1,ps,(e2.same s5).but Keep.upd_at hE5 e1⟩) (.cons ⟨nq,ps,u5.but Keep.upd_at hE5 nq⟩ .nil)
    · rw [upd_ne (ne_of_none hy hE2)]
      exact s5 _ _ (s4 y o hy)
   rintro acc σ H4 hEE ⟨⟨vs,rfl,hvs,hvl⟩,_,s4⟩
   rw [List.take_length] at hvs
   refine ⟨⟨_,SqL.of (s4 _ _ hDD),by rw [List.length_map,hFl]; exact Nat.le_refl _⟩,?_⟩
   have hHd : PcssAt H4 E2 vs Fs:=⟨hEE,Paired.mapP hvs fun _ _ e=>e.2⟩
   have hW4:=hW.same s4
   have hM4:=hM3.same s4
   clear hvs hvl hW hM3 hDD hEE s4 s3 hD hE2
   refine ⟨(by show 0 ≤ sizeLine; decide),fun d0 hd0=>?_⟩
   have s5 : Same H4 (upd H4 d0 (.lst [])):=Same.upd_new hd0
   have u5 : PcsAt (upd H4 d0 (.lst [])) d0 [] []:=⟨upd_same,.nil⟩
   generalize upd H4 d0 (.lst []) = H5 at s5 u5 ⊢
   refine ⟨_,rfl,D,rfl,⟨_,SqL.of (s5 _ _ hW4.at_)⟩,for_list (K:=K) (a:=D) (xs:=us.map V.ref) (fun i σ H6=>∃ (du : Addr) (ds : List Addr) (v6 : Option V),σ = [some (.ref a),some (.ref m),some (.int nb),some (.ref D),some (.ref E2),some (.ref du),v6,none,none,none,none] ∧ Same H4 H6 ∧ PcsAt H6 du ds ((Fs.take i).flatten.foldl addN [])) ⟨d0,[],none,rfl,s5,by simpa using u5⟩ ?_ ?_ ?_⟩
   · rintro i σ H6 _ ⟨_,_,_,_,s6,_⟩
     exact SqL.of (s6 _ _ hW4.at_)
   · rintro i xv σ H6 hx ⟨du,ds,v6,rfl,s6,hdu⟩
     have hi : i < Fs.length:=by
      have:=(List.getElem?_eq_some_iff.mp hx).1
      rw [List.length_map] at this
      omega
     obtain ⟨q,hq,ps,hP⟩:=paired_at hW4.all (i:=i) (List.getElem?_eq_getElem hi)
     have ex : xv = .ref q:=by
      rw [List.getElem?_map,hq] at hx
      exact (Option.some.inj hx).symm
     subst ex
     have hlF:=(hFs _ (List.getElem_mem hi)).2
     have layF:=lay _ (List.getElem_mem hi)
     have htk : (Fs.take (i + 1)).flatten.foldl addN [] = Fs[i].foldl addN ((Fs.take i).flatten.foldl addN []):=by
      rw [List.take_succ,List.getElem?_eq_getElem hi,List.flatten_append,List.foldl_append]
      simp
     have layL : ∀ ls ∈ (Fs.take i).flatten.foldl addN [],(Gen.dS ls).canLay0 = true:=fun ls hl=>by
      rcases mem_fold.mp hl with h0 | h0
      · cases h0
      · obtain ⟨G',hG,hlG⟩:=List.mem_flatten.mp h0
        exact lay G' (List.mem_of_mem_take hG) ls hlG
     have hLl : ((Fs.take i).flatten.foldl addN []).length ≤ 352:=by
      refine Nat.le_trans fold_len ?_
      have : Fs.flatten = (Fs.take i).flatten ++ (Fs.drop i).flatten:=by rw [← List.flatten_append,List.take_append_drop]
      rw [this,List.length_append] at hfl
      rw [List.length_nil,Nat.zero_add]
      omega
     generalize Fs[i] = F1 at hP htk hlF layF
     generalize (Fs.take i).flatten.foldl addN [] = L at hdu htk layL hLl
     have hP6:=hP.same s6
     refine ⟨_,rfl,_,rfl,q,rfl,⟨_,SqL.of hP6.at_⟩,fun D3 hD3=>?_⟩
     refine lc_due (K:=K) hD3 hP6 hdu layF layL (by omega) fun H7 ds' A s7 hA hLA=>?_
     have hdu7:=hdu.same s7
     have l1:=hdu7.len
     have l2:=hA.len
     have l3 : L.length + A.length ≤ L.length + F1.length:=by
      have:=congrArg List.length hLA
      rw [List.length_append] at this
      rw [this]
      exact fold_len
     refine ⟨du,D3,_,_,rfl,rfl,hdu7.at_,hA.at_,(by rw [List.length_map,List.length_map]; exact Nat.le_of_lt (small (by omega))),fun p hp=>?_⟩
     have s8 : Same H7 (upd H7 p (.lst (ds.map V.ref ++ ds'.map V.ref))):=Same.upd_new hp
     refine ⟨p,ds ++ ds',_,rfl,s6.trans (s7.trans s8),?_⟩
     rw [htk,← hLA]
     exact ⟨by rw [upd_same,List.map_append],paired_append (Paired.mapP hdu7.all fun _ _ e=>s8 _ _ e) (Paired.mapP hA.all fun _ _ e=>s8 _ _ e)⟩
   rintro σ H6 ⟨du,ds,v6,rfl,s6,hdu⟩
   rw [List.length_map,hFl,List.take_length] at hdu
   have hdu' : PcsAt H6 du ds (joinF Fs):=hdu
   clear hdu
   have hW6:=hW4.same s6
   have hHd6:=hHd.same s6
   have hM6:=hM4.same s6
   clear hW4 hHd hM4 s6 s5 u5 hd0
   refine ⟨_,rfl,E2,vs,Fs,rfl,hHd6,by omega,fun p ps H7 s7 hp0 hp7=>?_⟩
   have layJ : (dF (joinF Fs)).canLay0 = true:=lay_F fun ls hl=>(join_ok held ls hl).lay hm
   have layFs : (dFs Fs).canLay0 = true:=lay_Fs lay
   refine ⟨_,rfl,.ref p,_, "list",true,rfl,.lst hp7.at_,rfl,_,rfl,?_⟩
   refine iteF' rfl ?_
   have minle : ∀ {x y : PyData},x.depth ≤ 3 → min x.depth y.depth ≤ 3:=fun h=>Nat.le_trans (Nat.min_le_left _ _) h
   have d2 : (dF (joinF Fs)).depth ≤ 3:=Nat.le_trans (dep_F _) (by decide)
   refine ⟨_,rfl,_,rfl,dF (joinF Fs),dF (joinF Fs),hp7.dp,(hdu'.same s7).dp,layJ,layJ,minle d2,_,rfl,?_⟩
   refine iteF' (ne_F _) ?_
   refine ⟨_,rfl,_,rfl,dFs Fs,dFs Fs,(hHd6.same s7).dp,(hW6.same s7).dp,layFs,layFs,minle (dep_Fs _),_,rfl,?_⟩
   refine iteF' (ne_Fs _) ?_
   have hM7:=hM6.same s7
   have hW7:=hW6.same s7
   obtain ⟨ts,h5,hts⟩:=id hM7.nv
   have lts:=hts.length
   rw [List.length_map] at lts
   have hjl : (joinF Fs).length ≤ 400:=by
    have:=fold_len (F:=Fs.flatten) (L:=[])
    rw [List.length_nil] at this
    unfold joinF
    omega
   refine ⟨_,rfl,m,.ref a5,rfl,DGet.k (k:=.inr "nevers") hM7.top,a5,rfl,⟨_,SqL.of h5⟩,for_list (K:=K) (a:=a5) (xs:=ts.map V.ref) (fun i σ H8=>∃ (v8 v9 v10 : Option V),σ = [some (.ref a),some (.ref m),some (.int nb),some (.ref D),some (.ref E2),some (.ref du),v6,some (.ref p),v8,v9,v10] ∧ Same H7 H8) ⟨none,none,none,rfl,(fun _ _ h=>h)⟩ ?_ ?_ ?_⟩
   · rintro i σ H8 _ ⟨_,_,_,_,s8⟩
     exact SqL.of (s8 _ _ h5)
   · rintro i xv σ H8 hx ⟨v8,v9,v10,rfl,s8⟩
     have hi : i < M.nevers.length:=by
      have:=(List.getElem?_eq_some_iff.mp hx).1
      rw [List.length_map] at this
      omega
     obtain ⟨t,ht,hT⟩:=paired_at hts (i:=i) (b:=row2 M.nevers[i]) (by rw [List.getElem?_map,List.getElem?_eq_getElem hi]; rfl)
     have ex : xv = .ref t:=by
      rw [List.getElem?_map,ht] at hx
      exact (Option.some.inj hx).symm
     subst ex
     have hlit:=hm.ok.nvw.lit _ (List.getElem_mem hi)
     generalize M.nevers[i] = row at hT hlit
     obtain ⟨wi,l⟩:=row
     refine ⟨t,_,rfl,SqT.of (s8 _ _ hT),rfl,_,_,rfl,_,_,rfl,rfl,?_⟩
     have hW8:=hW7.same s8
     have hM8:=hM7.same s8
     refine ⟨_,rfl,D,rfl,⟨_,SqL.of hW8.at_⟩,fun D4 hD4=>?_⟩
     refine lc_by Fs.length (fun j acc σ H9=>(∃ ws : List Addr,acc = ws.map V.ref ∧ ws.length ≤ j ∧ (ws ≠ [] → ∃ F ∈ Fs,Faultless M l F)) ∧ (∃ u,σ = [u,some (.ref m),some (.str l)]) ∧ Same H8 H9) ⟨⟨[],rfl,Nat.le_refl _,fun h=>absurd rfl h⟩,⟨none,rfl⟩,Same.upd_new hD4⟩ upd_same ?fin3 ?step3
     case step3 =>
      rintro j acc σ H9 hj hDD ⟨⟨ws,rfl,hwl,hws⟩,⟨u,rfl⟩,s9⟩
      obtain ⟨q,hq,qs,hP⟩:=paired_at hW8.all (i:=j) (List.getElem?_eq_getElem hj)
      have ej : (us.map V.ref)[j]? = some (.ref q):=by rw [List.getElem?_map,hq]; rfl
      refine ⟨⟨_,_,SqL.of (s9 _ _ hW8.at_),ej⟩,?_⟩
      rintro x' H' ⟨rfl,hall⟩
      have ex:=hall _ (SqL.of (s9 _ _ hW8.at_))
      rw [ej] at ex
      cases ex
      have hmem:=List.getElem_mem hj
      generalize Fs[j] = F1 at hP hmem
      have hlen1:=(hFs F1 hmem).2
      refine ⟨_,rfl,_,rfl,_,rfl,m,a1,a2,a3,a4,a5,a6,q,M,names,l,F1,qs,rfl,hM8.same s9,hm,hlit,hk4,hw3,hP.same s9,(held F1 hmem).ok,by omega,fun H10 s10 hf=>⟨_,rfl,?_⟩,fun t2 H10 s10 hnf=>⟨_,rfl,?_⟩⟩
      · refine iteT' (decide_eq_true rfl) ?_
        refine ⟨_,rfl,_,s10 _ _ hDD,(by rw [List.length_map]; exact small (by omega)),lcW_next hj upd_same ⟨⟨ws ++ [q],by rw [List.map_append]; rfl,by rw [List.length_append,List.length_singleton]; omega,fun _=>⟨F1,hmem,hf⟩⟩,⟨_,rfl⟩,fun y o hy=>?_⟩⟩
        rw [upd_ne (ne_of_none hy hD4)]
        exact s10 _ _ (s9 y o hy)
      · exact iteF' (decide_eq_false (by intro z; cases z)) (lcW_next hj (s10 _ _ hDD) ⟨⟨ws,rfl,by omega,hws⟩,⟨_,rfl⟩,s9.trans s10⟩)
     rintro acc σ H9 hDD ⟨⟨ws,rfl,hwl,hws⟩,_,s9⟩
     refine ⟨⟨_,SqL.of (s9 _ _ hW8.at_),by rw [List.length_map,hFl]; exact Nat.le_refl _⟩,?_⟩
     have s79:=s8.trans s9
     refine ⟨_,rfl,(by show 0 ≤ sizeLine; decide),fun e he=>?_⟩
     have s10 : Same H9 (upd H9 e (.lst [])):=Same.upd_new he
     have u10 : (upd H9 e (.lst [])) e = some (.lst []):=upd_same
     generalize upd H9 e (.lst []) = H10 at s10 u10 ⊢
     have s710:=s79.trans s10
     refine ⟨D4,e,_,rfl,rfl,SqL.of (s10 _ _ hDD),SqL.of u10,_,rfl,?_⟩
     cases hws0 : ws with
     | nil=>exact iteF' (by rw [if_pos rfl]; rfl) (iteF' rfl ⟨_,_,_,rfl,s710⟩)
     | cons w0 wr =>
      obtain ⟨F1,hF1,hf⟩:=hws (by rw [hws0]; intro z; cases z)
      refine iteT' (by rw [if_pos rfl]; rfl) ?_
      refine ⟨_,rfl,_,rfl,_,rfl,m,a1,a2,a3,a4,a5,a6,p,M,names,l,joinF Fs,ps,rfl,hM7.same s710,hm,hlit,hk4,hw3,hp7.same s710,join_ok held,hjl,fun H11 s11 _=>⟨_,rfl,?_⟩,fun t2 H11 s11 hnf=>absurd (join_fit held hF1 hf) hnf⟩
      exact iteF' (by rw [decide_eq_true rfl]; rfl) ⟨_,_,_,rfl,s710.trans s11⟩
   rintro σ H8 ⟨v8,v9,v10,rfl,s8⟩
   have hp8:=hp7.same s8
   have lp8:=hp8.len
   refine ⟨_,rfl,.inl ⟨rfl,_,SqL.of hp8.at_⟩,(by show 0 ≤ sizeLine; decide),fun t ht=>?_⟩
   have s9 : Same H8 (upd H8 t (.tup [])):=Same.upd_new ht
   generalize upd H8 t (.tup []) = H9 at s9 ⊢
   have hp9:=s9 _ _ hp8.at_
   refine ⟨p,_,_,rfl,rfl,hp9,(by rw [List.length_map]; exact small (by omega)),?_⟩
   have u10 : (upd H9 p (.lst (ps.map V.ref ++ [.ref t]))) p = some (.lst (ps.map V.ref ++ [.ref t])):=upd_same
   have s10 : Same H6 (upd H9 p (.lst (ps.map V.ref ++ [.ref t]))):=fun b o hb=>by
    rw [upd_ne (ne_of_none hb hp0)]
    exact s9 _ _ (s8 _ _ (s7 _ _ hb))
   generalize upd H9 p (.lst (ps.map V.ref ++ [.ref t])) = H10 at u10 s10 ⊢
   refine ⟨_,rfl,.inl ⟨rfl,_,SqL.of u10⟩,p,_,rfl,rfl,u10,?_⟩
   have s11 : Same H6 (upd H10 p (.lst (ps.map V.ref ++ [V.ref t]).reverse)):=fun b o hb=>by
    rw [upd_ne (ne_of_none hb hp0)]
    exact s10 _ _ hb
   generalize upd H10 p (.lst (ps.map V.ref ++ [V.ref t]).reverse) = H11 at s11 ⊢
   refine ⟨_,rfl,_,rfl,dFs Fs,dFs Fs,(hHd6.same s11).dp,(hW6.same s11).dp,layFs,layFs,minle (dep_Fs _),?_⟩
   refine ⟨_,rfl,iteT' (eq_Fs _) ?_⟩
   refine ⟨_,rfl,E2,vs,Fs,rfl,hHd6.same s11,by omega,fun p2 ps2 H12 s12 _ hp12=>?_⟩
   refine ⟨_,rfl,dF (joinF Fs),dF (joinF Fs),hp12.dp,(hdu'.same (s11.trans s12)).dp,layJ,layJ,minle d2,?_⟩
   show Q (.bl (PyData.eqv (dF (joinF Fs)) (dF (joinF Fs)))) _
   rw [eq_F]
   exact kk _
end
end Gen
namespace L2
open PySem PySem.Spec PyProof.Rows
theorem lst1 {α : Type} : ∀ {us : List α},us.length = 1 → ∃ a,us = [a]
 | [a],_=>⟨a,rfl⟩
theorem lstS {α : Type} : ∀ {us : List α} {n : Nat},us.length = n + 1 → ∃ a r,us = a :: r ∧ r.length = n
 | a :: r,_,h=>⟨a,r,rfl,Nat.succ.inj h⟩
theorem lst2 {α : Type} {us : List α} (h : us.length = 2) : ∃ a b,us = [a,b]:=by
 obtain ⟨a,r,rfl,h1⟩:=lstS h
 obtain ⟨b,rfl⟩:=lst1 h1
 exact ⟨a,b,rfl⟩
theorem lst3 {α : Type} {us : List α} (h : us.length = 3) : ∃ a b c,us = [a,b,c]:=by
 obtain ⟨a,r,rfl,h1⟩:=lstS h
 obtain ⟨b,c,rfl⟩:=lst2 h1
 exact ⟨a,b,c,rfl⟩
theorem lst4 {α : Type} {us : List α} (h : us.length = 4) : ∃ a b c d,us = [a,b,c,d]:=by
 obtain ⟨a,r,rfl,h1⟩:=lstS h
 obtain ⟨b,c,d,rfl⟩:=lst3 h1
 exact ⟨a,b,c,d,rfl⟩
end L2
namespace Gen
open PySem L2
section
theorem all_mk {l : PySem.W.OpenLaw} {w : World} {K : PySem.W.Frag} {h : Heap} {mg : Str → Option Value} {fa f1 f3 f4 f5 f6 f7 f8 f9 f10 f11 f14 f15 f16 f17 f18 f19 f20 f21 f22 f23 f24 f25 f26 f27 f28 f29 f30 : Addr} (X : K.In h) (G : h.Ns mainGlobals mg) (hfa : mg "law" = some (.ref fa))
 {od1 an1 od3 an3 od4 an4 od5 an5 od6 an6 od7 an7 od8 an8 od9 an9 od10 an10 od11 an11 od14 an14 od15 an15 od16 an16 od17 an17 od18 an18 od19 an19 od20 an20 od21 an21 od22 an22 od23 an23 od24 an24 od25 an25 od26 an26 od27 an27 od28 an28 od29 an29 od30 an30 : Option Addr} {sl1 sl3 sl4 sl5 sl6 sl7 sl8 sl9 sl10 sl11 sl14 sl15 sl16 sl17 sl18 sl19 sl20 sl21 sl22 sl23 sl24 sl25 sl26 sl27 sl28 sl29 sl30 : Array (Option Value)} {oc1 kV1 dc1 pm1 cd1 ct1 oc3 kV3 dc3 pm3 cd3 ct3 oc4 kV4 dc4 pm4 cd4 ct4 oc5 kV5 dc5 pm5 cd5 ct5 oc6 kV6 dc6 pm6 cd6 ct6 oc7 kV7 dc7 pm7 cd7 ct7 oc8 kV8 dc8 pm8 cd8 ct8 oc9 kV9 dc9 pm9 cd9 ct9 oc10 kV10 dc10 pm10 cd10 ct10 oc11 kV11 dc11 pm11 cd11 ct11 oc14 kV14 dc14 pm14 cd14 ct14 oc15 kV15 dc15 pm15 cd15 ct15 oc16 kV16 dc16 pm16 cd16 ct16 oc17 kV17 dc17 pm17 cd17 ct17 oc18 kV18 dc18 pm18 cd18 ct18 oc19 kV19 dc19 pm19 cd19 ct19 oc20 kV20 dc20 pm20 cd20 ct20 oc21 kV21 dc21 pm21 cd21 ct21 oc22 kV22 dc22 pm22 cd22 ct22 oc23 kV23 dc23 pm23 cd23 ct23 oc24 kV24 dc24 pm24 cd24 ct24 oc25 kV25 dc25 pm25 cd25 ct25 oc26 kV26 dc26 pm26 cd26 ct26 oc27 kV27 dc27 pm27 cd27 ct27 oc28 kV28 dc28 pm28 cd28 ct28 oc29 kV29 dc29 pm29 cd29 ct29 oc30 kV30 dc30 pm30 cd30 ct30 : Value}
 (a1 : PySem.W.nsIn K mainGlobals "joined" = some (some (.ref f1))) (l1 : K.lookup f1 = some ⟨oc1,od1,.func (PySem.W.fnOf "joined" "joined" (defArgs sJoined) (defBody sJoined) (defScope sJoined) .none kV1 dc1 pm1 an1 cd1 ct1),sl1⟩) (c1 : PySem.W.codeIn K cd1 "joined" = true) (k1 : PySem.W.keepIn K (.ref f1) = true)
 (a3 : PySem.W.nsIn K mainGlobals "_law_cell_at" = some (some (.ref f3))) (l3 : K.lookup f3 = some ⟨oc3,od3,.func (PySem.W.fnOf "_law_cell_at" "_law_cell_at" (defArgs sCell) (defBody sCell) (defScope sCell) .none kV3 dc3 pm3 an3 cd3 ct3),sl3⟩) (c3 : PySem.W.codeIn K cd3 "_law_cell_at" = true) (k3 : PySem.W.keepIn K (.ref f3) = true)
 (a4 : PySem.W.nsIn K mainGlobals "_law_mix" = some (some (.ref f4))) (l4 : K.lookup f4 = some ⟨oc4,od4,.func (PySem.W.fnOf "_law_mix" "_law_mix" (defArgs sMix) (defBody sMix) (defScope sMix) .none kV4 dc4 pm4 an4 cd4 ct4),sl4⟩) (c4 : PySem.W.codeIn K cd4 "_law_mix" = true) (k4 : PySem.W.keepIn K (.ref f4) = true)
 (a5 : PySem.W.nsIn K mainGlobals "_law_rich" = some (some (.ref f5))) (l5 : K.lookup f5 = some ⟨oc5,od5,.func (PySem.W.fnOf "_law_rich" "_law_rich" (defArgs sRich) (defBody sRich) (defScope sRich) .none kV5 dc5 pm5 an5 cd5 ct5),sl5⟩) (c5 : PySem.W.codeIn K cd5 "_law_rich" = true) (k5 : PySem.W.keepIn K (.ref f5) = true)
 (a6 : PySem.W.nsIn K mainGlobals "_law_pick" = some (some (.ref f6))) (l6 : K.lookup f6 = some ⟨oc6,od6,.func (PySem.W.fnOf "_law_pick" "_law_pick" (defArgs sPick) (defBody sPick) (defScope sPick) .none kV6 dc6 pm6 an6 cd6 ct6),sl6⟩) (c6 : PySem.W.codeIn K cd6 "_law_pick" = true) (k6 : PySem.W.keepIn K (.ref f6) = true)
 (a7 : PySem.W.nsIn K mainGlobals "_law_spelt" = some (some (.ref f7))) (l7 : K.lookup f7 = some ⟨oc7,od7,.func (PySem.W.fnOf "_law_spelt" "_law_spelt" (defArgs sSpelt) (defBody sSpelt) (defScope sSpelt) .none kV7 dc7 pm7 an7 cd7 ct7),sl7⟩) (c7 : PySem.W.codeIn K cd7 "_law_spelt" = true) (k7 : PySem.W.keepIn K (.ref f7) = true)
 (a8 : PySem.W.nsIn K mainGlobals "_law_literal" = some (some (.ref f8))) (l8 : K.lookup f8 = some ⟨oc8,od8,.func (PySem.W.fnOf "_law_literal" "_law_literal" (defArgs sLiteral) (defBody sLiteral) (defScope sLiteral) .none kV8 dc8 pm8 an8 cd8 ct8),sl8⟩) (c8 : PySem.W.codeIn K cd8 "_law_literal" = true) (k8 : PySem.W.keepIn K (.ref f8) = true)
 (a9 : PySem.W.nsIn K mainGlobals "_law_wishes" = some (some (.ref f9))) (l9 : K.lookup f9 = some ⟨oc9,od9,.func (PySem.W.fnOf "_law_wishes" "_law_wishes" (defArgs sWishes) (defBody sWishes) (defScope sWishes) .none kV9 dc9 pm9 an9 cd9 ct9),sl9⟩) (c9 : PySem.W.codeIn K cd9 "_law_wishes" = true) (k9 : PySem.W.keepIn K (.ref f9) = true)
 (a10 : PySem.W.nsIn K mainGlobals "_law_machine_digits" = some (some (.ref f10))) (l10 : K.lookup f10 = some ⟨oc10,od10,.func (PySem.W.fnOf "_law_machine_digits" "_law_machine_digits" (defArgs sDigits) (defBody sDigits) (defScope sDigits) .none kV10 dc10 pm10 an10 cd10 ct10),sl10⟩) (c10 : PySem.W.codeIn K cd10 "_law_machine_digits" = true) (k10 : PySem.W.keepIn K (.ref f10) = true)
 (a11 : PySem.W.nsIn K mainGlobals "_law_machine" = some (some (.ref f11))) (l11 : K.lookup f11 = some ⟨oc11,od11,.func (PySem.W.fnOf "_law_machine" "_law_machine" (defArgs sMachine) (defBody sMachine) (defScope sMachine) .none kV11 dc11 pm11 an11 cd11 ct11),sl11⟩) (c11 : PySem.W.codeIn K cd11 "_law_machine" = true) (k11 : PySem.W.keepIn K (.ref f11) = true)
 (a14 : PySem.W.nsIn K mainGlobals "_law_values" = some (some (.ref f14))) (l14 : K.lookup f14 = some ⟨oc14,od14,.func (PySem.W.fnOf "_law_values" "_law_values" (defArgs sValues) (defBody sValues) (defScope sValues) .none kV14 dc14 pm14 an14 cd14 ct14),sl14⟩) (c14 : PySem.W.codeIn K cd14 "_law_values" = true) (k14 : PySem.W.keepIn K (.ref f14) = true)
 (a15 : PySem.W.nsIn K mainGlobals "_law_bit" = some (some (.ref f15))) (l15 : K.lookup f15 = some ⟨oc15,od15,.func (PySem.W.fnOf "_law_bit" "_law_bit" (defArgs sBit) (defBody sBit) (defScope sBit) .none kV15 dc15 pm15 an15 cd15 ct15),sl15⟩) (c15 : PySem.W.codeIn K cd15 "_law_bit" = true) (k15 : PySem.W.keepIn K (.ref f15) = true)
 (a16 : PySem.W.nsIn K mainGlobals "_law_next" = some (some (.ref f16))) (l16 : K.lookup f16 = some ⟨oc16,od16,.func (PySem.W.fnOf "_law_next" "_law_next" (defArgs sNext) (defBody sNext) (defScope sNext) .none kV16 dc16 pm16 an16 cd16 ct16),sl16⟩) (c16 : PySem.W.codeIn K cd16 "_law_next" = true) (k16 : PySem.W.keepIn K (.ref f16) = true)
 (a17 : PySem.W.nsIn K mainGlobals "_law_all_bits" = some (some (.ref f17))) (l17 : K.lookup f17 = some ⟨oc17,od17,.func (PySem.W.fnOf "_law_all_bits" "_law_all_bits" (defArgs sAllB) (defBody sAllB) (defScope sAllB) .none kV17 dc17 pm17 an17 cd17 ct17),sl17⟩) (c17 : PySem.W.codeIn K cd17 "_law_all_bits" = true) (k17 : PySem.W.keepIn K (.ref f17) = true)
 (a18 : PySem.W.nsIn K mainGlobals "_law_firsts" = some (some (.ref f18))) (l18 : K.lookup f18 = some ⟨oc18,od18,.func (PySem.W.fnOf "_law_firsts" "_law_firsts" (defArgs sFirsts) (defBody sFirsts) (defScope sFirsts) .none kV18 dc18 pm18 an18 cd18 ct18),sl18⟩) (c18 : PySem.W.codeIn K cd18 "_law_firsts" = true) (k18 : PySem.W.keepIn K (.ref f18) = true)
 (a19 : PySem.W.nsIn K mainGlobals "_law_rings" = some (some (.ref f19))) (l19 : K.lookup f19 = some ⟨oc19,od19,.func (PySem.W.fnOf "_law_rings" "_law_rings" (defArgs sRings) (defBody sRings) (defScope sRings) .none kV19 dc19 pm19 an19 cd19 ct19),sl19⟩) (c19 : PySem.W.codeIn K cd19 "_law_rings" = true) (k19 : PySem.W.keepIn K (.ref f19) = true)
 (a20 : PySem.W.nsIn K mainGlobals "_law_cell" = some (some (.ref f20))) (l20 : K.lookup f20 = some ⟨oc20,od20,.func (PySem.W.fnOf "_law_cell" "_law_cell" (defArgs sCellR) (defBody sCellR) (defScope sCellR) .none kV20 dc20 pm20 an20 cd20 ct20),sl20⟩) (c20 : PySem.W.codeIn K cd20 "_law_cell" = true) (k20 : PySem.W.keepIn K (.ref f20) = true)
 (a21 : PySem.W.nsIn K mainGlobals "_law_keeps" = some (some (.ref f21))) (l21 : K.lookup f21 = some ⟨oc21,od21,.func (PySem.W.fnOf "_law_keeps" "_law_keeps" (defArgs sKeeps) (defBody sKeeps) (defScope sKeeps) .none kV21 dc21 pm21 an21 cd21 ct21),sl21⟩) (c21 : PySem.W.codeIn K cd21 "_law_keeps" = true) (k21 : PySem.W.keepIn K (.ref f21) = true)
 (a22 : PySem.W.nsIn K mainGlobals "_law_within" = some (some (.ref f22))) (l22 : K.lookup f22 = some ⟨oc22,od22,.func (PySem.W.fnOf "_law_within" "_law_within" (defArgs sWithin) (defBody sWithin) (defScope sWithin) .none kV22 dc22 pm22 an22 cd22 ct22),sl22⟩) (c22 : PySem.W.codeIn K cd22 "_law_within" = true) (k22 : PySem.W.keepIn K (.ref f22) = true)
 (a23 : PySem.W.nsIn K mainGlobals "_law_ways" = some (some (.ref f23))) (l23 : K.lookup f23 = some ⟨oc23,od23,.func (PySem.W.fnOf "_law_ways" "_law_ways" (defArgs sWays) (defBody sWays) (defScope sWays) .none kV23 dc23 pm23 an23 cd23 ct23),sl23⟩) (c23 : PySem.W.codeIn K cd23 "_law_ways" = true) (k23 : PySem.W.keepIn K (.ref f23) = true)
 (a24 : PySem.W.nsIn K mainGlobals "_law_fault" = some (some (.ref f24))) (l24 : K.lookup f24 = some ⟨oc24,od24,.func (PySem.W.fnOf "_law_fault" "_law_fault" (defArgs sFault) (defBody sFault) (defScope sFault) .none kV24 dc24 pm24 an24 cd24 ct24),sl24⟩) (c24 : PySem.W.codeIn K cd24 "_law_fault" = true) (k24 : PySem.W.keepIn K (.ref f24) = true)
 (a25 : PySem.W.nsIn K mainGlobals "_law_drawn_pieces" = some (some (.ref f25))) (l25 : K.lookup f25 = some ⟨oc25,od25,.func (PySem.W.fnOf "_law_drawn_pieces" "_law_drawn_pieces" (defArgs sDrawn) (defBody sDrawn) (defScope sDrawn) .none kV25 dc25 pm25 an25 cd25 ct25),sl25⟩) (c25 : PySem.W.codeIn K cd25 "_law_drawn_pieces" = true) (k25 : PySem.W.keepIn K (.ref f25) = true)
 (a26 : PySem.W.nsIn K mainGlobals "_law_apart" = some (some (.ref f26))) (l26 : K.lookup f26 = some ⟨oc26,od26,.func (PySem.W.fnOf "_law_apart" "_law_apart" (defArgs sApart) (defBody sApart) (defScope sApart) .none kV26 dc26 pm26 an26 cd26 ct26),sl26⟩) (c26 : PySem.W.codeIn K cd26 "_law_apart" = true) (k26 : PySem.W.keepIn K (.ref f26) = true)
 (a27 : PySem.W.nsIn K mainGlobals "_law_held" = some (some (.ref f27))) (l27 : K.lookup f27 = some ⟨oc27,od27,.func (PySem.W.fnOf "_law_held" "_law_held" (defArgs sHeld) (defBody sHeld) (defScope sHeld) .none kV27 dc27 pm27 an27 cd27 ct27),sl27⟩) (c27 : PySem.W.codeIn K cd27 "_law_held" = true) (k27 : PySem.W.keepIn K (.ref f27) = true)
 (a28 : PySem.W.nsIn K mainGlobals "_law_with_nought" = some (some (.ref f28))) (l28 : K.lookup f28 = some ⟨oc28,od28,.func (PySem.W.fnOf "_law_with_nought" "_law_with_nought" (defArgs sWn) (defBody sWn) (defScope sWn) .none kV28 dc28 pm28 an28 cd28 ct28),sl28⟩) (c28 : PySem.W.codeIn K cd28 "_law_with_nought" = true) (k28 : PySem.W.keepIn K (.ref f28) = true)
 (a29 : PySem.W.nsIn K mainGlobals "_law_some_fence" = some (some (.ref f29))) (l29 : K.lookup f29 = some ⟨oc29,od29,.func (PySem.W.fnOf "_law_some_fence" "_law_some_fence" (defArgs sSome) (defBody sSome) (defScope sSome) .none kV29 dc29 pm29 an29 cd29 ct29),sl29⟩) (c29 : PySem.W.codeIn K cd29 "_law_some_fence" = true) (k29 : PySem.W.keepIn K (.ref f29) = true)
 (a30 : PySem.W.nsIn K mainGlobals "law" = some (some (.ref f30))) (l30 : K.lookup f30 = some ⟨oc30,od30,.func (PySem.W.fnOf "law" "law" (defArgs sLaw) (defBody sLaw) (defScope sLaw) .none kV30 dc30 pm30 an30 cd30 ct30),sl30⟩) (c30 : PySem.W.codeIn K cd30 "law" = true) (k30 : PySem.W.keepIn K (.ref f30) = true)
 (z0 : PySem.W.nsIn K mainGlobals "len" = some none) (z1 : PySem.W.nsIn K mainGlobals "range" = some none) (z2 : PySem.W.nsIn K mainGlobals "enumerate" = some none) (z3 : PySem.W.nsIn K mainGlobals "list" = some none) (z4 : PySem.W.nsIn K mainGlobals "dict" = some none) (z5 : PySem.W.nsIn K mainGlobals "tuple" = some none) (z6 : PySem.W.nsIn K mainGlobals "str" = some none) (z7 : PySem.W.nsIn K mainGlobals "int" = some none) (z8 : PySem.W.nsIn K mainGlobals "bool" = some none) (z9 : PySem.W.nsIn K mainGlobals "zip" = some none) (z10 : PySem.W.nsIn K mainGlobals "all" = some none) (z11 : PySem.W.nsIn K mainGlobals "isinstance" = some none) (z12 : PySem.W.nsIn K mainGlobals "any" = some none) (z13 : PySem.W.nsIn K mainGlobals "sorted" = some none)
 :
 ∃ fd : FuncData,(∀ (s : Shared) (v : Value),BindsTo s fd ⟨[v],[]⟩ [("_law_script",v)]) ∧ ∀ base : Heap,K.In base → base.Ns mainGlobals mg → FnOk l.prog w K mg base CX0 7 fa fd ["_law_script"] (spLaw K):=by
 have e:=hfa.symm.trans (PySem.W.mg_of X G a30)
 cases e
 have O : Own mg:=⟨PySem.W.mg_none_of X G z0,PySem.W.mg_none_of X G z1,PySem.W.mg_none_of X G z2,PySem.W.mg_none_of X G z3⟩
 have O2 : Own2 mg:=⟨PySem.W.mg_none_of X G z0,PySem.W.mg_none_of X G z3,PySem.W.mg_none_of X G z4,PySem.W.mg_none_of X G z5,PySem.W.mg_none_of X G z6,PySem.W.mg_none_of X G z7,PySem.W.mg_none_of X G z8,PySem.W.mg_none_of X G z9,PySem.W.mg_none_of X G z10,PySem.W.mg_none_of X G z11⟩
 have hAny : mg "any" = none:=PySem.W.mg_none_of X G z12
 have hB_sorted : mg "sorted" = none:=PySem.W.mg_none_of X G z13
 have F1:=fun_mk (st:=sJoined) l1 c1 k1
 have m1:=PySem.W.mg_of X G a1
 have b1:=F1.binds (ps:=["walls"]) fun _ _ _ _ _ _ us hl=>by obtain ⟨_,rfl⟩:=lst1 hl; rfl
 have F3:=fun_mk (st:=sCell) l3 c3 k3
 have m3:=PySem.W.mg_of X G a3
 have b3:=F3.binds (ps:=["_law_script", "_law_k"]) fun _ _ _ _ _ _ us hl=>by obtain ⟨_,_,rfl⟩:=lst2 hl; rfl
 have F4:=fun_mk (st:=sMix) l4 c4 k4
 have m4:=PySem.W.mg_of X G a4
 have b4:=F4.binds (ps:=["_law_cell_here", "_law_k"]) fun _ _ _ _ _ _ us hl=>by obtain ⟨_,_,rfl⟩:=lst2 hl; rfl
 have F5:=fun_mk (st:=sRich) l5 c5 k5
 have m5:=PySem.W.mg_of X G a5
 have b5:=F5.binds (ps:=["_law_cell_here", "_law_k"]) fun _ _ _ _ _ _ us hl=>by obtain ⟨_,_,rfl⟩:=lst2 hl; rfl
 have F6:=fun_mk (st:=sPick) l6 c6 k6
 have m6:=PySem.W.mg_of X G a6
 have b6:=F6.binds (ps:=["_law_left", "_law_many"]) fun _ _ _ _ _ _ us hl=>by obtain ⟨_,_,rfl⟩:=lst2 hl; rfl
 have F7:=fun_mk (st:=sSpelt) l7 c7 k7
 have m7:=PySem.W.mg_of X G a7
 have b7:=F7.binds (ps:=["_law_left", "_law_told"]) fun _ _ _ _ _ _ us hl=>by obtain ⟨_,_,rfl⟩:=lst2 hl; rfl
 have F8:=fun_mk (st:=sLiteral) l8 c8 k8
 have m8:=PySem.W.mg_of X G a8
 have b8:=F8.binds (ps:=["_law_left", "_law_names"]) fun _ _ _ _ _ _ us hl=>by obtain ⟨_,_,rfl⟩:=lst2 hl; rfl
 have F9:=fun_mk (st:=sWishes) l9 c9 k9
 have m9:=PySem.W.mg_of X G a9
 have b9:=F9.binds (ps:=pWishes) fun _ _ _ _ _ _ us hl=>by obtain ⟨_,_,_,_,rfl⟩:=lst4 hl; rfl
 have F10:=fun_mk (st:=sDigits) l10 c10 k10
 have m10:=PySem.W.mg_of X G a10
 have b10:=F10.binds (ps:=pDig) fun _ _ _ _ _ _ us hl=>by obtain ⟨_,_,rfl⟩:=lst2 hl; rfl
 have F11:=fun_mk (st:=sMachine) l11 c11 k11
 have m11:=PySem.W.mg_of X G a11
 have b11:=F11.binds (ps:=pMac) fun _ _ _ _ _ _ us hl=>by obtain ⟨_,_,rfl⟩:=lst2 hl; rfl
 have F14:=fun_mk (st:=sValues) l14 c14 k14
 have m14:=PySem.W.mg_of X G a14
 have b14:=F14.binds (ps:=pVs) fun _ _ _ _ _ _ us hl=>by obtain ⟨_,_,_,rfl⟩:=lst3 hl; rfl
 have F15:=fun_mk (st:=sBit) l15 c15 k15
 have m15:=PySem.W.mg_of X G a15
 have b15:=F15.binds (ps:=["_law_values_here", "_law_literal_here"]) fun _ _ _ _ _ _ us hl=>by obtain ⟨_,_,rfl⟩:=lst2 hl; rfl
 have F16:=fun_mk (st:=sNext) l16 c16 k16
 have m16:=PySem.W.mg_of X G a16
 have b16:=F16.binds (ps:=pVs) fun _ _ _ _ _ _ us hl=>by obtain ⟨_,_,_,rfl⟩:=lst3 hl; rfl
 have F17:=fun_mk (st:=sAllB) l17 c17 k17
 have m17:=PySem.W.mg_of X G a17
 have b17:=F17.binds (ps:=["_law_many"]) fun _ _ _ _ _ _ us hl=>by obtain ⟨_,rfl⟩:=lst1 hl; rfl
 have F18:=fun_mk (st:=sFirsts) l18 c18 k18
 have m18:=PySem.W.mg_of X G a18
 have b18:=F18.binds (ps:=["_law_m"]) fun _ _ _ _ _ _ us hl=>by obtain ⟨_,rfl⟩:=lst1 hl; rfl
 have F19:=fun_mk (st:=sRings) l19 c19 k19
 have m19:=PySem.W.mg_of X G a19
 have b19:=F19.binds (ps:=["_law_m"]) fun _ _ _ _ _ _ us hl=>by obtain ⟨_,rfl⟩:=lst1 hl; rfl
 have F20:=fun_mk (st:=sCellR) l20 c20 k20
 have m20:=PySem.W.mg_of X G a20
 have b20:=F20.binds (ps:=["_law_script", "_law_k"]) fun _ _ _ _ _ _ us hl=>by obtain ⟨_,_,rfl⟩:=lst2 hl; rfl
 have F21:=fun_mk (st:=sKeeps) l21 c21 k21
 have m21:=PySem.W.mg_of X G a21
 have b21:=F21.binds (ps:=pKp) fun _ _ _ _ _ _ us hl=>by obtain ⟨_,_,_,rfl⟩:=lst3 hl; rfl
 have F22:=fun_mk (st:=sWithin) l22 c22 k22
 have m22:=PySem.W.mg_of X G a22
 have b22:=F22.binds (ps:=["_law_m", "_law_fence"]) fun _ _ _ _ _ _ us hl=>by obtain ⟨_,_,rfl⟩:=lst2 hl; rfl
 have F23:=fun_mk (st:=sWays) l23 c23 k23
 have m23:=PySem.W.mg_of X G a23
 have b23:=F23.binds (ps:=["_law_m", "_law_fence"]) fun _ _ _ _ _ _ us hl=>by obtain ⟨_,_,rfl⟩:=lst2 hl; rfl
 have F24:=fun_mk (st:=sFault) l24 c24 k24
 have m24:=PySem.W.mg_of X G a24
 have b24:=F24.binds (ps:=pFt) fun _ _ _ _ _ _ us hl=>by obtain ⟨_,_,_,rfl⟩:=lst3 hl; rfl
 have F25:=fun_mk (st:=sDrawn) l25 c25 k25
 have m25:=PySem.W.mg_of X G a25
 have b25:=F25.binds (ps:=pDr) fun _ _ _ _ _ _ us hl=>by obtain ⟨_,_,_,rfl⟩:=lst3 hl; rfl
 have F26:=fun_mk (st:=sApart) l26 c26 k26
 have m26:=PySem.W.mg_of X G a26
 have b26:=F26.binds (ps:=["_law_m"]) fun _ _ _ _ _ _ us hl=>by obtain ⟨_,rfl⟩:=lst1 hl; rfl
 have F27:=fun_mk (st:=sHeld) l27 c27 k27
 have m27:=PySem.W.mg_of X G a27
 have b27:=F27.binds (ps:=["_law_m", "_law_pieces"]) fun _ _ _ _ _ _ us hl=>by obtain ⟨_,_,rfl⟩:=lst2 hl; rfl
 have F28:=fun_mk (st:=sWn) l28 c28 k28
 have m28:=PySem.W.mg_of X G a28
 have b28:=F28.binds (ps:=["_law_m"]) fun _ _ _ _ _ _ us hl=>by obtain ⟨_,rfl⟩:=lst1 hl; rfl
 have F29:=fun_mk (st:=sSome) l29 c29 k29
 have m29:=PySem.W.mg_of X G a29
 have b29:=F29.binds (ps:=pSf) fun _ _ _ _ _ _ us hl=>by obtain ⟨_,_,_,rfl⟩:=lst3 hl; rfl
 have F30:=fun_mk (st:=sLaw) l30 c30 k30
 have m30:=PySem.W.mg_of X G a30
 refine ⟨PySem.W.fnOf "law" "law" (defArgs sLaw) (defBody sLaw) (defScope sLaw) .none kV30 dc30 pm30 an30 cd30 ct30,fun s v=>.of_eq rfl,fun base _ _=>?_⟩
 have gP : FnOk l.prog w K mg base CX0 1 f6 _ ["_law_left", "_law_many"] spPick:=ok_pick F6 O
 have gS : FnOk l.prog w K mg base CX0 2 f7 _ ["_law_left", "_law_told"] (spSpelt K):=ok_spelt F7 O F6 b6 m6
 have gL : FnOk l.prog w K mg base CX0 2 f8 _ ["_law_left", "_law_names"] (spLiteral K):=ok_literal F8 O F6 b6 m6
 have gW : FnOk l.prog w K mg base CX0 3 f9 _ pWishes (spWishes K):=ok_wishes F9 O F6 b6 m6 F7 b7 m7 F8 b8 m8
 have gR : FnOk l.prog w K mg base CX0 2 f5 _ ["_law_cell_here", "_law_k"] spRich:=ok_rich F5 O F4 b4 m4
 have gD : FnOk l.prog w K mg base CX0 4 f10 _ pDig (spDigits K):=ok_digits F10 ⟨O,gP,m6,k6,b6,gS,m7,k7,b7,gL,m8,k8,b8,gW,m9,k9,b9,gR,m5,k5,b5⟩
 have gC : FnOk l.prog w K mg base CX0 1 f3 _ ["_law_script", "_law_k"] (spCell K):=ok_cell F3 O
 have gM : FnOk l.prog w K mg base CX0 5 f11 _ pMac (spMachine K):=ok_machine F11 O gD m10 k10 b10 gC m3 k3 b3 gR m5 k5 b5
 have gBit : FnOk l.prog w K mg base CX0 1 f15 _ ["_law_values_here", "_law_literal_here"] spLitV:=ok_bit F15 O2
 have gVs : FnOk l.prog w K mg base CX0 2 f14 _ pVs (spValues K):=ok_values F14 O2 gBit m15 k15 b15
 have gNx : FnOk l.prog w K mg base CX0 3 f16 _ pVs (spNext K):=ok_next8 F16 O2 gVs m14 k14 b14 gBit m15 k15 b15
 have gAB : FnOk l.prog w K mg base CX0 1 f17 _ ["_law_many"] (spAllB K):=ok_all_bits F17 O hB_sorted
 have gFs : FnOk l.prog w K mg base CX0 2 f18 _ ["_law_m"] (spFirsts K):=ok_firsts F18 O2 gAB m17 k17 b17
 have gK : FnOk l.prog w K mg base CX0 2 f21 _ pKp (spKeeps K):=ok_keeps F21 O2 hAny gBit m15 k15 b15
 have gWi : FnOk l.prog w K mg base CX0 3 f22 _ ["_law_m", "_law_fence"] (spWithin K):=ok_within F22 O2 gAB m17 k17 b17 gK m21 k21 b21
 have gWy : FnOk l.prog w K mg base CX0 4 f23 _ ["_law_m", "_law_fence"] (spWays K):=ok_ways F23 O2 gAB m17 k17 b17 gWi m22 k22 b22 gNx m16 k16 b16
 have gRg : FnOk l.prog w K mg base CX0 4 f19 _ ["_law_m"] (spRings K):=ok_rings F19 O2 gAB m17 k17 b17 gFs m18 k18 b18 gNx m16 k16 b16
 have gCr : FnOk l.prog w K mg base CX0 3 f20 _ ["_law_script", "_law_k"] (spCellR K):=ok_cellR F20 gC m3 k3 b3 gR m5 k5 b5
 have gDr : FnOk l.prog w K mg base CX0 2 f25 _ pDr (spDrawn K):=ok_drawn F25 O gP m6 k6 b6
 have gAp : FnOk l.prog w K mg base CX0 5 f26 _ ["_law_m"] (spApart K):=ok_apart F26 O2 gAB m17 k17 b17 gRg m19 k19 b19
 have gHd : FnOk l.prog w K mg base CX0 5 f27 _ ["_law_m", "_law_pieces"] (spHeld K):=ok_held F27 O O2 gFs m18 k18 b18 gK m21 k21 b21 gWy m23 k23 b23
 have gFt : FnOk l.prog w K mg base CX0 5 f24 _ pFt (spFault K):=ok_fault F24 O gFs m18 k18 b18 gK m21 k21 b21 gWy m23 k23 b23 gVs m14 k14 b14 gBit m15 k15 b15
 have gWn : FnOk l.prog w K mg base CX0 1 f28 _ ["_law_m"] (spWn K):=ok_wn F28 O
 have gSf : FnOk l.prog w K mg base CX0 6 f29 _ pSf (spSome K):=ok_some F29 gCr m20 k20 b20 gP m6 k6 b6 gDr m25 k25 b25 gAp m26 k26 b26 gHd m27 k27 b27
 have gJ : FnOk l.prog w K mg base CX0 1 f1 _ ["walls"] (spJoined K):=ok_joined F1 O2
 exact ok_law F30 O O2 ⟨gM,m11,k11,b11,gWn,m28,k28,b28,ok_mix F4,m4,k4,b4,gC,m3,k3,b3,gSf,m29,k29,b29,gJ,m1,k1,b1,gFt,m24,k24,b24⟩
theorem walk {l : PySem.W.OpenLaw} {q : Program} {loose : List Str} {XP : (Str → Option Value) → Heap → Prop} {YP : World → Heap → Prop} {d : DefRec} {K : Params → PySem.W.Frag} (hn : l.most = some 63) (hdf : d.params.defaults = [])
 (hY : ∀ (w : World) (h : Heap),YP w h → (K w.params).In h)
 (F : ∀ (w : World) (mg : Str → Option Value) (fa : Addr) (h : Heap),(K w.params).In h → h.Ns mainGlobals mg → mg d.name = some (.ref fa) →
  ∃ fd : FuncData,(∀ (s : Shared) (u : Value),BindsTo s fd ⟨[u],[]⟩ [("_law_script",u)]) ∧ ∀ base : Heap,(K w.params).In base → base.Ns mainGlobals mg → FnOk l.prog w (K w.params) mg base CX0 7 fa fd ["_law_script"] (spLaw (K w.params))) :
 PySem.W.WalkO q loose XP YP l.row.toRowW d [] (fun f vs=>PySem.call f vs) :=
 L2.walk_of (n:=63) (k:=7) (x:="_law_script") (CX:=fun _=>CX0) (sp:=fun w=>spLaw (K w.params)) hn (by decide) hdf ⟨rfl,by decide,by decide⟩ hY F (fun _ _ a ns hl _ hS=>⟨a,ns,rfl,hS,fun _=>rfl⟩) fun _ _ _ _ _ z=>z
end
end Gen
open PySem PySem.W PyProof.Rows
theorem PySem.W.Fast.tw3635279730600494364 : True:=trivial
theorem PySem.W.Fast.tw11013243560653282013 : True:=trivial
theorem PySem.W.Fast.tw9291941793904054120 : True:=trivial
theorem PySem.W.Fast.tw17604989847958643622 : True:=trivial
theorem PySem.W.Fast.tw15293644804836815881 : True:=trivial
theorem PySem.W.Fast.tw6117910098802848580 : True:=trivial
theorem PySem.W.Fast.tw14080346692378371101 : True:=trivial
theorem PySem.W.Fast.tw3173403434221502241 : True:=trivial
theorem PySem.W.Fast.tw7427758851643685340 : True:=trivial
theorem PySem.W.Fast.te7427758851643685340 : True:=trivial
theorem PySem.W.Fast.tw9351525965236884251 : True:=trivial
theorem PySem.W.Fast.tw4558632591132150878 : True:=trivial
theorem PySem.W.Fast.tw10003921632580776010 : True:=trivial
set_option maxRecDepth 100000 in
set_option maxHeartbeats 0 in
theorem PySem.Challenge.cw_everguard_k55_walls_joined_holds : PySem.Challenge.rw_everguard_k55_walls_joined.Holds := by
 w_on; o_law; k_head; (case hw=>w_witness2)
 k_fill
 refine Gen.walk (l:=PySem.Challenge.rw_everguard_k55_walls_joined) rfl rfl (fun w h Y=>PySem.W.kIn_of Y) ?F
 case F =>
  intro w mg fa h KX G hmg
  refine' Gen.all_mk KX G hmg ?a1 ?l1 ?c1 ?k1 ?a3 ?l3 ?c3 ?k3 ?a4 ?l4 ?c4 ?k4 ?a5 ?l5 ?c5 ?k5 ?a6 ?l6 ?c6 ?k6 ?a7 ?l7 ?c7 ?k7 ?a8 ?l8 ?c8 ?k8 ?a9 ?l9 ?c9 ?k9 ?a10 ?l10 ?c10 ?k10 ?a11 ?l11 ?c11 ?k11 ?a14 ?l14 ?c14 ?k14 ?a15 ?l15 ?c15 ?k15 ?a16 ?l16 ?c16 ?k16 ?a17 ?l17 ?c17 ?k17 ?a18 ?l18 ?c18 ?k18 ?a19 ?l19 ?c19 ?k19 ?a20 ?l20 ?c20 ?k20 ?a21 ?l21 ?c21 ?k21 ?a22 ?l22 ?c22 ?k22 ?a23 ?l23 ?c23 ?k23 ?a24 ?l24 ?c24 ?k24 ?a25 ?l25 ?c25 ?k25 ?a26 ?l26 ?c26 ?k26 ?a27 ?l27 ?c27 ?k27 ?a28 ?l28 ?c28 ?k28 ?a29 ?l29 ?c29 ?k29 ?a30 ?l30 ?c30 ?k30 ?z0 ?z1 ?z2 ?z3 ?z4 ?z5 ?z6 ?z7 ?z8 ?z9 ?z10 ?z11 ?z12 ?z13
  (case a1=>k_is); (case l1=>k_is); (case c1=>k_is); (case k1=>k_is); (case a3=>k_is); (case l3=>k_is)
  (case c3=>k_is); (case k3=>k_is); (case a4=>k_is); (case l4=>k_is); (case c4=>k_is); (case k4=>k_is)
  (case a5=>k_is); (case l5=>k_is); (case c5=>k_is); (case k5=>k_is); (case a6=>k_is); (case l6=>k_is)
  (case c6=>k_is); (case k6=>k_is); (case a7=>k_is); (case l7=>k_is); (case c7=>k_is); (case k7=>k_is)
  (case a8=>k_is); (case l8=>k_is); (case c8=>k_is); (case k8=>k_is); (case a9=>k_is); (case l9=>k_is)
  (case c9=>k_is); (case k9=>k_is); (case a10=>k_is); (case l10=>k_is); (case c10=>k_is); (case k10=>k_is)
  (case a11=>k_is); (case l11=>k_is); (case c11=>k_is); (case k11=>k_is); (case a14=>k_is); (case l14=>k_is)
  (case c14=>k_is); (case k14=>k_is); (case a15=>k_is); (case l15=>k_is); (case c15=>k_is); (case k15=>k_is)
  (case a16=>k_is); (case l16=>k_is); (case c16=>k_is); (case k16=>k_is); (case a17=>k_is); (case l17=>k_is)
  (case c17=>k_is); (case k17=>k_is); (case a18=>k_is); (case l18=>k_is); (case c18=>k_is); (case k18=>k_is)
  (case a19=>k_is); (case l19=>k_is); (case c19=>k_is); (case k19=>k_is); (case a20=>k_is); (case l20=>k_is)
  (case c20=>k_is); (case k20=>k_is); (case a21=>k_is); (case l21=>k_is); (case c21=>k_is); (case k21=>k_is)
  (case a22=>k_is); (case l22=>k_is); (case c22=>k_is); (case k22=>k_is); (case a23=>k_is); (case l23=>k_is)
  (case c23=>k_is); (case k23=>k_is); (case a24=>k_is); (case l24=>k_is); (case c24=>k_is); (case k24=>k_is)
  (case a25=>k_is); (case l25=>k_is); (case c25=>k_is); (case k25=>k_is); (case a26=>k_is); (case l26=>k_is)
  (case c26=>k_is); (case k26=>k_is); (case a27=>k_is); (case l27=>k_is); (case c27=>k_is); (case k27=>k_is)
  (case a28=>k_is); (case l28=>k_is); (case c28=>k_is); (case k28=>k_is); (case a29=>k_is); (case l29=>k_is)
  (case c29=>k_is); (case k29=>k_is); (case a30=>k_is); (case l30=>k_is); (case c30=>k_is); (case k30=>k_is)
  (case z0=>k_is); (case z1=>k_is); (case z2=>k_is); (case z3=>k_is); (case z4=>k_is); (case z5=>k_is)
  (case z6=>k_is); (case z7=>k_is); (case z8=>k_is); (case z9=>k_is); (case z10=>k_is); (case z11=>k_is)
  (case z12=>k_is); (case z13=>k_is)
#print axioms PySem.Challenge.cw_everguard_k55_walls_joined_holds
