import PyProof.Rows.All
import Wide.All
import OpenK.AllK
import Wide.FinOn
import Lean
import PyProof.EqAt
import PyProof.EqKinds
import PyProof.TupleCall
import PyProof.StrBlockL
import PyProof.Rows.SortRuns
import KE.KSortTup
import PyProof.NeData
import PyProof.P3Eq
import PyProof.Rows.Chain
import PyProof.Rows.RuleIs
import PyProof.DictRoadsH
import PyProof.TupleKey
import Wide.Seal
import PyProof.MaxThree
import PyProof.IsiH_list
import PyProof.AttrMiss
import PyProof.ConsumeWalk
import PyProof.TupleIter
import KE.KDictOf
import PyProof.DictWalks
import KE.KDictList
import PyProof.NeKinds
import PyProof.ZipIter
import PyProof.StrLawsOcc
import Wide.Txt
import KE.KIntText
import PyProof.DictValues
import PyProof.StrOps2
import PyProof.StrCalls6
import PyProof.StrCalls5
import PyProof.DictItems
import PyProof.Rows.FStr
import KE.KRevIter
import PyProof.ListNew
import PyProof.Rows.FactsT2
import PyProof.Rows.BitMore
import PySem.Challenge.RW_everguard_k42_some_of_and_put_for
set_option Elab.async false
set_option linter.all false
set_option maxRecDepth 100000
namespace L2
open PySem PySem.Spec PyProof.Rows
abbrev Key:=Sum Int Str
def gz:Key->Value->Bool
 | .inl k,v=>Value.isInt k v
 | .inr x,v=>Value.isStrOf x v
def Oc (w:World):Key->Int
 | .inl k=>hashInt k
 | .inr x=>hashStr w x
theorem cU:∀{k:Key}{v:Value},gz k v=true->(∃i t,k=Sum.inl i/\v=Value.int i t)\/(∃x t,k=Sum.inr x/\v=Value.str x t)
 | .inl i,v,h=>by
  obtain ⟨t,e⟩:=Value.isInt_shape (k:=i) (v:=v) h
  exact .inl ⟨i,t,rfl,e⟩
 | .inr x,v,h=>by
  obtain ⟨t,e⟩:=Value.isStrOf_shape (x:=x) (v:=v) h
  exact .inr ⟨x,t,rfl,e⟩
theorem zr (i:Int) (t:Tok):gz (.inl i) (.int i t)=true:=by simp [gz,Value.isInt]
theorem zt (x:Str) (t:Tok):gz (.inr x) (.str x t)=true:=by simp [gz,Value.isStrOf]
theorem FJ (a b:Int):decide ((Sum.inl a:Key)=Sum.inl b)=(a == b):=by
 by_cases e:a=b
 . subst e; simp
 . have h:¬ (Sum.inl a:Key)=Sum.inl b:=λq=>e (Sum.inl.inj q)
   rw [decide_eq_false h]
   exact (beq_eq_false_iff_ne.mpr e).symm
theorem FK (a b:Str):decide ((Sum.inr a:Key)=Sum.inr b)=decide (a=b):=by
 by_cases e:a=b
 . subst e; simp
 . have h:¬ (Sum.inr a:Key)=Sum.inr b:=λq=>e (Sum.inr.inj q)
   rw [decide_eq_false h,decide_eq_false e]
theorem FL (a:Int) (b:Str):decide ((Sum.inl a:Key)=Sum.inr b)=false:=decide_eq_false (λq=>nomatch q)
theorem FN (a:Str) (b:Int):decide ((Sum.inr a:Key)=Sum.inl b)=false:=decide_eq_false (λq=>nomatch q)
def ba (prog:Program) (w:World):PySem.KeyKind prog w Key where
 is:=gz
 hash:=Oc w
 inj:=λv a b ha hb=>by
  rcases cU ha with ⟨i,t,rfl,rfl⟩ | ⟨x,t,rfl,rfl⟩
  . rcases cU hb with ⟨j,u,rfl,e⟩ | ⟨y,u,rfl,e⟩
    . injection e with e1 _; rw [e1]
    . exact nomatch e
  . rcases cU hb with ⟨j,u,rfl,e⟩ | ⟨y,u,rfl,e⟩
    . exact nomatch e
    . injection e with e1 _; rw [e1]
 byValue:=λk v h=>by
  rcases cU h with ⟨i,t,rfl,rfl⟩ | ⟨x,t,rfl,rfl⟩ <;> rfl
 pyHash:=λhv h=>by
  rcases cU hv with ⟨i,t,rfl,rfl⟩ | ⟨x,t,rfl,rfl⟩
  . exact wpAny_pyHash_int h
  . exact wpAny_pyHash_str h
 eqBool:=λhu hv h=>by
  rcases cU hu with ⟨i,t,rfl,rfl⟩ | ⟨x,t,rfl,rfl⟩
  . rcases cU hv with ⟨j,u,rfl,rfl⟩ | ⟨y,u,rfl,rfl⟩
    . rw [FJ] at h; exact wpAny_eqBool_int h
    . rw [FL] at h; exact SeqAt.EqAt.int_str i t y u _ _ _ _ h
  . rcases cU hv with ⟨j,u,rfl,rfl⟩ | ⟨y,u,rfl,rfl⟩
    . rw [FN] at h; exact SeqAt.EqAt.str_int x t j u _ _ _ _ h
    . rw [FK] at h; exact wpAny_eqBool_str h
 «strs»:=λk x t v h=>by
  rcases cU h with ⟨i,u,rfl,e⟩ | ⟨y,u,rfl,e⟩
  . exact nomatch e
  . injection e with e1 _
    subst e1
    cases v <;> rfl
theorem xX (prog:Program) (w:World) (k:Key) (v:Value):(ba prog w).is k v=gz k v:=rfl
theorem wu (prog:Program) (w:World) (i:Int) (t:Tok):(ba prog w).is (.inl i) (.int i t)=true:=zr i t
theorem wx (prog:Program) (w:World) (x:Str) (t:Tok):(ba prog w).is (.inr x) (.str x t)=true:=zt x t
end L2
namespace L2
open PySem PySem.Spec PyProof.Rows
inductive V where
 | aX | bl (b:Bool) | int (i:Int) | str (x:Str) | kg (b:Array UInt8) | rV (b:UInt64) | ref (a:Addr) | ty (n:String)
 deriving DecidableEq
def RelV:V->Value->Prop
 | .aX,u=>u=Value.none
 | .bl b,u=>u=Value.bool b
 | .int i,u=>∃t,u=Value.int i t
 | .str x,u=>∃t,u=Value.str x t
 | .kg b,u=>∃t,u=Value.bytes b t
 | .rV b,u=>∃t,u=Value.float b t
 | .ref a,u=>u=Value.ref a
 | .ty n,u=>u=Value.type n
abbrev Vals:List V->List Value->Prop:=Paired RelV
theorem Vals.length {xs:List V}{us:List Value}(r:Vals xs us):xs.length=us.length:=Paired.length r
theorem Vals.get:∀{xs:List V}{us:List Value}{i:Nat}{x:V},Vals xs us->xs[i]?=some x->∃u,us[i]?=some u/\RelV x u
 | _,_,_,_,.nil,e=>by simp at e
 | _,_,0,_,.cons r _,e=>by simp at e; subst e; exact ⟨_,rfl,r⟩
 | _,_,i+1,x,.cons _ t,e=>by
  obtain ⟨u,h1,h2⟩:=Vals.get (i:=i) (x:=x) t (by simpa using e)
  exact ⟨u,by simpa using h1,h2⟩
theorem Vals.set {x:V}{u:Value}(r:RelV x u):∀{xs:List V}{us:List Value}(i:Nat),Vals xs us->Vals (xs.set i x) (us.set i u)
 | _,_,_,.nil=>.nil
 | _,_,0,.cons _ t=>.cons r t
 | _,_,i+1,.cons q t=>.cons q (Vals.set r i t)
theorem Vals.append:∀{xs ys:List V}{us ws:List Value},Vals xs us->Vals ys ws->Vals (xs++ys) (us++ws)
 | _,_,_,_,.nil,s=>s
 | _,_,_,_,.cons r t,s=>.cons r (Vals.append t s)
theorem Vals.take:∀{xs:List V}{us:List Value}(n:Nat),Vals xs us->Vals (xs.take n) (us.take n)
 | _,_,0,_=>.nil
 | _,_,_+1,.nil=>.nil
 | _,_,n+1,.cons r t=>.cons r (Vals.take n t)
theorem Vals.drop:∀{xs:List V}{us:List Value}(n:Nat),Vals xs us->Vals (xs.drop n) (us.drop n)
 | _,_,0,r=>r
 | _,_,_+1,.nil=>.nil
 | _,_,n+1,.cons _ t=>Vals.drop n t
def dQ:Option V->Option Value->Prop
 | some v,some u=>RelV v u
 | none,none=>True
 | _,_=>False
def KV {κ:Type} : List (κ×V)->List (κ×Value)->Prop:=Paired λ(p:κ×V) (q:κ×Value)=>p.1=q.1/\RelV p.2 q.2
def kV:Key->V
 | .inl i=>.int i
 | .inr x=>.str x
inductive HO where
 /-- a list -/
 | lst (xs:List V)
 /-- a tuple (never changes) -/
 | tup (xs:List V)
 /-- a dict whose keys are ints and texts; one whose keys are tuples of ints and texts (the empty one is both) -/
 | dK (kvs:List (Key×V)) | dT (kvs:List (List Key×V))
 /-- a set of ints: its members,its size -/
 | set (S:Int->Bool) (n:Nat)
 /-- an instance of the class at C,its dict at dx,its attributes -/
 | ins (C dx:Addr) (fs:List (Str×V))
 /-- the dict of the instance at x -/
 | own (x:Addr)
 /-- the dict of an exception -/
 | xd (fs:List (Str×V))
 /-- a bound method,f of x -/
 | met (f x:Addr)
 /-- a range object lo,lo+1,.. below hi -/
 | FQ (lo hi:Int)
 /-- a thing that is known to the object (the script; a dict while a loop walks it): read,never written while it is so -/
 | cz (o:Obj) (u:HO)
 /-- a code object's table -/
 | tO (ps:Array Value)
 /-- any other thing,by what is true of its one object (a def of one's own: SetO a S n:=HO.ext λh=>..) -/
 | ext (φ:Heap->Prop)
abbrev Hp:=Addr->Option HO
def upd (H:Hp) (a:Addr) (o:HO):Hp:=λb=>if b=a then some o else H b
theorem ae {H:Hp}{a:Addr}{o:HO} : upd H a o a=some o:=by unfold upd; rw [if_pos rfl]
theorem ai {H:Hp}{a b:Addr}{o:HO}(h:b≠a):upd H a o b=H b:=by unfold upd; rw [if_neg h]
theorem wI {H:Hp}{a:Addr}{o u:HO} : upd (upd H a o) a u=upd H a u:=by
 funext b; unfold upd; split <;> rfl
theorem aL {H:Hp}{a b:Addr}{o u:HO}(h:H a=some o) (h':H b=some u) (d:o≠u):a≠b:=by
 intro e; subst e; rw [h] at h'; exact d (Option.some.inj h')
theorem ab {H:Hp}{a b:Addr}{o:HO}(h:H a=some o) (h':H b=none):a≠b:=by
 intro e; subst e; rw [h] at h'; cases h'
section
variable (P:Program) (w:World)
def bg (H:Hp) (h:Heap) (a:Addr):HO->Prop
 | .lst xs=>xs.length<=sizeLine/\∃(its:List Value) (n:Nat),Vals xs its/\h.get? a=some { cls:=.type "list",data:=.seq its.toArray n }
 | .tup xs=>xs.length<=sizeLine/\∃its:List Value,Vals xs its/\IsTup h a its.toArray
 | .dK kvs=>kvs.length<=sizeLine/\(a == sysModules)=false/\∃vs,KV kvs vs/\h.DictOf (ba P w) a vs
 | .dT kvs=>kvs.length<=sizeLine/\(a == sysModules)=false/\∃xs:List (List Key×Addr×Value),
  Paired (λ(p:List Key×V) (q:List Key×Addr×Value)=>p.1=q.1/\H q.2.1=some (.tup (p.1.map kV))/\RelV p.2 q.2.2) kvs xs/\
  ∃o es ep,h.get? a=some o/\o.ExactDict/\o.data=.dict es ep/\es.toList=xs.map (entryOfKey (tupleKind (ba P w)))/\(xs.map (·.1)).Nodup
 | .set S n=>h.SetOf (intKind P w) a S n
 | .ins C dx fs=>H dx=some (.own a)/\fs.length<=1000/\dx≠a/\h.get? a=some (W.instObj C dx)/\
  ∃mA,h.Ns1 dx mA/\(∀f,dQ (fs.lookup f) (mA f))/\PySem.Within mA (fs.map (·.1))
 | .own _=>∃o,h.get? a=some o
 | .xd fs=>∃mA,h.Ns1 a mA/\∀f,dQ (fs.lookup f) (mA f)
 | .FQ lo hi=>∃t u v,h.get? a=some { cls:=.type "range",data:=.fields #[.int lo t,.int hi u,.int 1 v] }
 | .cz o u=>h.get? a=some o/\bg H h a u
 | .tO ps=>h.get? a=some { cls:=.none,data:=.fields ps }
 | .met f x=>h.get? a=some (W.methodObj (.ref f) (.ref x))
 | .ext φ=>φ h/\(∃o,h.get? a=some o)/\∀h1 h2:Heap,φ h1->(∀o,h1.get? a=some o->h2.get? a=some o)->φ h2
def cY (H:Hp) (h:Heap):Prop:=∀a o,H a=some o->bg P w H h a o
end
section
variable {P:Program}{w:World}{H H':Hp}{h h':Heap}{a:Addr}{o:HO}
theorem bg.lt (x:bg P w H h a o):a<h.objs.size:=by
 cases o with
 | lst xs=>obtain ⟨_,_,_,_,e⟩:=x; exact Heap.lt_size e
 | tup xs=>obtain ⟨_,_,_,p⟩:=x; exact p.lt
 | dK kvs=>obtain ⟨_,_,_,_,o,_,_,e,_⟩:=x; exact Heap.lt_size e
 | dT kvs=>obtain ⟨_,_,_,_,o,_,_,e,_⟩:=x; exact Heap.lt_size e
 | set S n=>obtain ⟨o,_,_,_,e,_⟩:=x; exact Heap.lt_size e
 | ins C dx fs=>obtain ⟨_,_,_,e,_⟩:=x; exact Heap.lt_size e
 | own y=>obtain ⟨_,e⟩:=x; exact Heap.lt_size e
 | xd fs=>obtain ⟨_,⟨_,_,_,e,_⟩,_⟩:=x; exact Heap.lt_size e
 | FQ lo hi=>obtain ⟨_,_,_,e⟩:=x; exact Heap.lt_size e
 | cz ob u=>obtain ⟨e,_⟩:=x; exact Heap.lt_size e
 | tO ps=>exact Heap.lt_size (show h.get? a=some _ from x)
 | met f y=>exact Heap.lt_size (show h.get? a=some _ from x)
 | ext φ=>obtain ⟨_,⟨_,e⟩,_⟩:=x; exact Heap.lt_size e
theorem Paired.cy {α β:Type}{F G:α->β->Prop} : ∀{jK:List α}{kh:List β},Paired F jK kh->(∀a b,F a b->G a b)->Paired G jK kh
 | _,_,.nil,_=>.nil
 | _,_,.cons r t,f=>.cons (f _ _ r) (Paired.cy t f)
theorem bg.eK (x:bg P w H h a o) (k:∀b u,(b=a\/H b=some (.own a))->h.get? b=some u->h'.get? b=some u)
 (ho:∀b,H b=some (.own a)->H' b=some (.own a)) (ht:∀b xs,H b=some (.tup xs)->H' b=some (.tup xs)):bg P w H' h' a o:=by
 induction o with
 | lst xs=>obtain ⟨z,its,n,r,e⟩:=x; exact ⟨z,its,n,r,k _ _ (.inl rfl) e⟩
 | tup xs=>obtain ⟨z,its,r,ob,e,c⟩:=x; exact ⟨z,its,r,ob,k _ _ (.inl rfl) e,c⟩
 | dK kvs=>obtain ⟨z,y,vs,r,ob,es,ep,e,c⟩:=x; exact ⟨z,y,vs,r,ob,es,ep,k _ _ (.inl rfl) e,c⟩
 | dT kvs=>
  obtain ⟨z,y,xs,r,ob,es,ep,e,c⟩:=x
  exact ⟨z,y,xs,Paired.cy r λp q z=>⟨z.1,ht _ _ z.2.1,z.2.2⟩,ob,es,ep,k _ _ (.inl rfl) e,c⟩
 | set S n=>obtain ⟨ob,es,ep,t,e,c⟩:=x; exact ⟨ob,es,ep,t,k _ _ (.inl rfl) e,c⟩
 | ins C dx fs=>
  obtain ⟨d,z,ne,e,mA,⟨od,es,ep,e2,c⟩,r⟩:=x
  exact ⟨ho _ d,z,ne,k _ _ (.inl rfl) e,mA,⟨od,es,ep,k _ _ (.inr d) e2,c⟩,r⟩
 | own y=>obtain ⟨ob,e⟩:=x; exact ⟨ob,k _ _ (.inl rfl) e⟩
 | xd fs=>obtain ⟨mA,⟨od,es,ep,e,c⟩,r⟩:=x; exact ⟨mA,⟨od,es,ep,k _ _ (.inl rfl) e,c⟩,r⟩
 | FQ lo hi=>obtain ⟨t,u,v,e⟩:=x; exact ⟨t,u,v,k _ _ (.inl rfl) e⟩
 | cz ob u ih=>obtain ⟨e,q⟩:=x; exact ⟨k _ _ (.inl rfl) e,ih q⟩
 | tO ps=>
  have e:h.get? a=some { cls:=.none,data:=.fields ps }:=x
  show h'.get? a=some { cls:=.none,data:=.fields ps }
  exact k a _ (.inl rfl) e
 | met f y=>
  have e:h.get? a=some (W.methodObj (.ref f) (.ref y)):=x
  show h'.get? a=some (W.methodObj (.ref f) (.ref y))
  exact k a _ (.inl rfl) e
 | ext φ=>obtain ⟨p,⟨o,e⟩,st⟩:=x; exact ⟨st _ _ p λo q=>k _ _ (.inl rfl) q,⟨o,k _ _ (.inl rfl) e⟩,st⟩
theorem cY.lt (x:cY P w H h) (e:H a=some o):a<h.objs.size:=(x a o e).lt
theorem cY.fresh (x:cY P w H h) (e:h.objs.size<=a):H a=none:=by
 cases q:H a with
 | none=>rfl
 | some u=>exact absurd (Nat.lt_of_lt_of_le (x.lt q) e) (Nat.lt_irrefl _)
theorem cY.kept (x:cY P w H h) (k:∀b u,h.get? b=some u->h'.get? b=some u):cY P w H h':=λa o e=>
 (x a o e).eK (λb u _ q=>k b u q) (λ_ q=>q) λ_ _ q=>q
theorem cY.laid (x:cY P w H h) (k:∀b u,h.get? b=some u->h'.get? b=some u) (hp:h.objs.size<=a) (new:bg P w (upd H a o) h' a o):cY P w (upd H a o) h':=λb u e=>by
 have hn:=x.fresh hp
 by_cases hb:b=a
 . subst hb; rw [ae] at e; cases e; exact new
 . rw [ai hb] at e
   exact (x b u e).eK (λc v _ q=>k c v q) (λc q=>by rw [ai (ab q hn)]; exact q) λc xs q=>by rw [ai (ab q hn)]; exact q
end
def Rd (H:Hp) (a:Addr) (u:HO):Prop:=H a=some u\/∃o,H a=some (.cz o u)
theorem Rd.of {H:Hp}{a:Addr}{u:HO}(h:H a=some u):Rd H a u:=.inl h
theorem Rd.ok {P:Program}{w:World}{H:Hp}{h:Heap}{a:Addr}{u:HO}(r:Rd H a u) (x:cY P w H h):bg P w H h a u:=by
 rcases r with r | ⟨o,r⟩
 . exact x a u r
 . obtain ⟨_,q⟩:=x a _ r
   exact q
def zu:Option HO->Prop
 | some (.lst _)=>True
 | some (.dK _)=>True
 | some (.dT _)=>True
 | some (.set _ _)=>True
 | some (.ins _ _ _)=>True
 | some (.ext _)=>True
 | _=>False
section
variable {P:Program}{w:World}{H:Hp}{h h':Heap}{x e:Addr}{o':HO}
theorem cY.write (ok:cY P w H h) (mu:zu (H x)) (he:e=x\/H e=some (.own x)) (k:∀b u,b≠e->h.get? b=some u->h'.get? b=some u) (wJ:∃u,h'.get? e=some u)
 (new:bg P w (upd H x o') h' x o'):cY P w (upd H x o') h':=λb u q=>by
 have FR:∀c y,H c=some (.own y)->c≠x:=λc y r z=>by subst z; rw [r] at mu; exact mu
 have Od:∀c xs,H c=some (.tup xs)->c≠x:=λc xs r z=>by subst z; rw [r] at mu; exact mu
 by_cases hb:b=x
 . subst hb; rw [ae] at q; cases q; exact new
 . rw [ai hb] at q
   by_cases oI:b=e
   . have q':H b=some (.own x):=by
      rcases he with z | z
      . exact absurd (oI.trans z) hb
      . rw [oI]; exact z
     rw [q] at q'; cases q'
     obtain ⟨v,hv⟩:=wJ
     exact ⟨v,by rw [oI]; exact hv⟩
   . refine (ok b u q).eK (λc v hc r=>k c v ?_ r) (λc r=>by rw [ai (FR c b r)]; exact r) λc xs r=>by rw [ai (Od c xs r)]; exact r
     rcases hc with rfl | hc
     . exact oI
     . rintro rfl
       rcases he with z | z
       . exact FR c b hc z
       . rw [hc] at z; cases z; exact hb rfl
end
structure Un (fs ex:List Addr) (H H':Hp) (h h':Heap):Prop where
 keep:∀b o,h.get? b=some o->H b=none->b∉fs->b∉ex->h'.get? b=some o
 slot:∀b o,h.get? b=some o->H b=none->b∈fs->b∉ex->∃sl,h'.get? b=some { o with slots:=sl }
 free:∀b o,h.get? b=some o->H b=none->b∉ex->H' b=none
 there:∀b o,h.get? b=some o->b∉ex->∃o',h'.get? b=some o'
 dr:∀b xs,H b=some (.tup xs)->H' b=some (.tup xs)
 frzs:∀b o u,H b=some (.cz o u)->H' b=some (.cz o u)
 tbls:∀b ps,H b=some (.tO ps)->∃more,H' b=some (.tO (ps++more))
section
variable {fs fs' ex Wt:List Addr}{H H1 H2:Hp}{h h1 h2 h':Heap}{a x e:Addr}{o:HO}
theorem Un.any (u:Un fs ex H H1 h h1){b:Addr}{ob:Obj}(q:h.get? b=some ob) (n:H b=none) (hx:b∉ex):∃sl,h1.get? b=some { ob with slots:=sl }:=by
 by_cases hb:b∈fs
 . exact u.slot b ob q n hb hx
 . exact ⟨ob.slots,u.keep b ob q n hb hx⟩
theorem Un.trans (a:Un fs ex H H1 h h1) (b:Un fs ex H1 H2 h1 h2):Un fs ex H H2 h h2 where
 keep:=λc ob q n hc hx=>b.keep c ob (a.keep c ob q n hc hx) (a.free c ob q n hx) hc hx
 slot:=λc ob q n hc hx=>by
  obtain ⟨sl,e1⟩:=a.slot c ob q n hc hx
  obtain ⟨FT,e2⟩:=b.slot c _ e1 (a.free c ob q n hx) hc hx
  exact ⟨FT,e2⟩
 free:=λc ob q n hx=>by
  obtain ⟨o',e1⟩:=a.there c ob q hx
  exact b.free c o' e1 (a.free c ob q n hx) hx
 there:=λc ob q hx=>by
  obtain ⟨o',e1⟩:=a.there c ob q hx
  exact b.there c o' e1 hx
 dr:=λc xs q=>b.dr c xs (a.dr c xs q)
 frzs:=λc ob xs q=>b.frzs c ob xs (a.frzs c ob xs q)
 tbls:=λc ps q=>by
  obtain ⟨m1,e1⟩:=a.tbls c ps q
  obtain ⟨m2,e2⟩:=b.tbls c _ e1
  exact ⟨m1++m2,by rw [e2,Array.append_assoc]⟩
theorem Un.kept (k:∀b u,h.get? b=some u->h'.get? b=some u):Un fs ex H H h h':=
 ⟨λb ob q _ _ _=>k b ob q,λb ob q _ _ _=>⟨ob.slots,k b ob q⟩,λ_ _ _ n _=>n,λb ob q _=>⟨ob,k b ob q⟩,λ_ _ q=>q,λ_ _ _ q=>q,λ_ ps q=>⟨#[],by rw [q]; simp⟩⟩
theorem Un.refl:Un fs ex H H h h:=Un.kept λ_ _ q=>q
theorem Un.laid (k:∀b u,h.get? b=some u->h'.get? b=some u) (hp:h.objs.size<=a) (hn:H a=none):Un fs ex H (upd H a o) h h' where
 keep:=λb u q _ _ _=>k b u q
 slot:=λb u q _ _ _=>⟨u.slots,k b u q⟩
 free:=λb u q n _=>by rw [ai (Nat.ne_of_lt (Nat.lt_of_lt_of_le (Heap.lt_size q) hp))]; exact n
 there:=λb u q _=>⟨u,k b u q⟩
 dr:=λb xs q=>by rw [ai (ab q hn)]; exact q
 frzs:=λb u xs q=>by rw [ai (ab q hn)]; exact q
 tbls:=λb ps q=>⟨#[],by rw [ai (ab q hn),q]; simp⟩
theorem Un.write (mu:zu (H x)) (he:e=x\/H e=some (.own x)) (k:∀b u,b≠e->h.get? b=some u->h'.get? b=some u) (wJ:∃u,h'.get? e=some u):Un fs ex H (upd H x o) h h':=by
 have hx:∀b,H b=none->b≠x:=λb n z=>by subst z; rw [n] at mu; exact mu
 have hb:∀b,H b=none->b≠e:=λb n z=>by
  subst z
  rcases he with r | r
  . exact hx b n r
  . rw [n] at r; cases r
 have hm:∀b u,H b=some u->¬ zu (some u)->b≠x:=λb u q nm z=>by subst z; rw [q] at mu; exact nm mu
 refine ⟨λb u q n _ _=>k b u (hb b n) q,λb u q n _ _=>⟨u.slots,k b u (hb b n) q⟩,λb u q n _=>by rw [ai (hx b n)]; exact n,λb u q _=>?_,
  λb xs q=>by rw [ai (hm b _ q λz=>z)]; exact q,λb u xs q=>by rw [ai (hm b _ q λz=>z)]; exact q,λb ps q=>⟨#[],by rw [ai (hm b _ q λz=>z),q]; simp⟩⟩
 by_cases oI:b=e
 . subst oI; exact wJ
 . exact ⟨u,k b u oI q⟩
end
def C4 (h:Heap) (H:Hp):List Addr:=(List.range h.objs.size).filter λa=>(H a).isSome
def lD (h:Heap) (H:Hp):Heap:=W.hideAll h (C4 h H)
theorem zv (h:Heap) (H:Hp):(lD h H).objs.size=h.objs.size:=W.hideAll_size _ _
theorem BJ {h:Heap}{H:Hp}{b:Addr}{o:Obj}(e:h.get? b=some o) (n:H b=none):(lD h H).get? b=some o:=
 W.hideAll_get _ e λhm=>by
  have q:(H b).isSome=true:=(List.mem_filter.mp hm).2
  rw [n] at q; simp at q
theorem EE {h:Heap}{H:Hp}{b:Addr}{o:Obj}(e:(lD h H).get? b=some o):h.get? b=some o/\H b=none:=by
 have e':h.get? b=some o:=W.of_hideAll (C4 h H) e
 refine ⟨e',?_⟩
 cases q:H b with
 | none=>rfl
 | some x=>
  have hm:b∈C4 h H:=List.mem_filter.mpr ⟨List.mem_range.mpr (Heap.lt_size e'),by simp [q]⟩
  have z:(lD h H).get? b=none:=W.hideAll_none (C4 h H) hm
  rw [z] at e; cases e
def EF (g h:Heap) (L:Addr):List (Addr×Obj):=(List.range h.objs.size).filterMap λa=>if a=L\/(g.get? a).isSome=true then none else (h.get? a).map λo=>(a,o)
def rest (g h:Heap) (L d:Addr):List (Addr×Obj):=(EF g h L).filter λp=>decide (p.1≠d)
end L2
namespace L2
open PySem PySem.Spec PyProof.Rows
structure Mod (K:W.Frag) (mg:Str->Option Value) (base:Heap):Prop where
 kin:K.In base
 glob:base.Ns mainGlobals mg
 blt:∃mb,base.Ns builtinsNs mb/\∀x:Str,x ≠ "__name__" -> mb x=bootBuiltins x
 nolimit:base.NoLimit
structure Cx where
 prog:Program
 w:World
 K:W.Frag
 mg:Str->Option Value
 base:Heap
 A:Around
 N:List Str
 iT:Shared
 xY:Hp
 env:Env
 outer:List Env
 stack:List Env
 ex:List Addr
 fn:Str->Bool
 calm:Bool
 pn:List (Addr×Obj)
 xe:Value->Shared->Prop
def mi (l:List Env):List Addr:=l.filterMap (·.frame)
abbrev Cx.fs (X:Cx):List Addr:=mi X.outer
def FU (sc:Scope) (x:Str):Prop:=sc.names.lookup x=some .local\/sc.names.lookup x=some .cell\/sc.names.lookup x=some .free
def Loc (sc:Scope) (x:Str):Prop:=sc.names.lookup x=some .local\/sc.names.lookup x=some .cell
def Look (env:Env) (h:Heap) (m:Str->Option Value) (x:Str) (u:Value):Prop:=
 (env.kindOf x=some .local/\m x=some u)\/((env.kindOf x=some .cell\/env.kindOf x=some .free)/\∃c,env.cells.lookup x=some c/\h.IsCell c (some u))
structure Cx.Ok (X:Cx):Prop where
 mod:Mod X.K X.mg X.base
 kind:X.env.scope.kind=.function
 glob:X.env.globals=mainGlobals
 blt:X.env.builtins=builtinsNs
 above:X.iT.heap.objs.size<=X.env.locals
 inj:∀x y c,X.env.cells.lookup x=some c->X.env.cells.lookup y=some c->x=y
 has:∀x,(X.env.kindOf x=some .cell\/X.env.kindOf x=some .free)->∃c,X.env.cells.lookup x=some c
 cab:∀x c,X.fn x=true->X.env.cells.lookup x=some c->X.iT.heap.objs.size<=c
 hd:X.calm=true->X.A.handled=none
 frames:X.A.frames=some X.stack
 stk:X.stack=X.outer\/(X.stack=X.env::X.outer/\X.env.frame=some X.env.locals)
 exf:∀b∈X.ex,b≠X.env.locals/\∀x c,X.env.cells.lookup x=some c->c≠b
 bs:∀b o,X.base.get? b=some o->X.iT.heap.get? b=some o/\X.xY b=none
 bsz:X.base.objs.size<=X.iT.heap.objs.size
 noex:∀b o,X.base.get? b=some o->b∉X.ex
 exfs:∀b∈X.ex,b∉X.fs
 ia:X.iT.heap.FunFrames X.base X.outer
 frf:∀b∈X.fs,X.xY b=none
structure Inv (X:Cx) (pins:List (Addr×Obj)) (σ:List (Option V)) (H:Hp) (s:Shared):Prop where
 ok:X.Ok
 os:s.os=X.iT.os
 bare:AllBare s.gens
 base:Un X.fs X.ex X.xY H X.iT.heap s.heap
 loc:∃m,s.heap.Ns X.env.locals m/\∀(i:Nat) (x:Str) (v:V),X.N[i]?=some x->σ[i]?=some (some v)->FU X.env.scope x->∃u,RelV v u/\Look X.env s.heap m x u
 cell:∀x c,X.env.cells.lookup x=some c->∃v,s.heap.IsCell c v
 free:H X.env.locals=none
 freeC:∀x c,X.env.cells.lookup x=some c->H c=none
 pin:∀p∈X.pn++pins,s.heap.get? p.1=some p.2/\H p.1=none/\p.1≠X.env.locals/\p.1∉X.fs/\∀v,p.2.data≠.cell v
 hok:cY X.prog X.w H s.heap
 len:σ.length=X.N.length
section
variable {X:Cx}{pins:List (Addr×Obj)}{σ:List (Option V)}{H H':Hp}{s:Shared}{h':Heap}
theorem Cx.Ok.Oe (ok:X.Ok){b:Addr}{o:Obj}(e:X.base.get? b=some o):b∉X.fs:=λhb=>by
 have:=(ok.ia.mem hb).1
 rw [e] at this; cases this
theorem Inv.bs (I:Inv X pins σ H s):∀b o,X.base.get? b=some o->s.heap.get? b=some o/\H b=none:=λb o e=>
 ⟨I.base.keep b o (I.ok.bs b o e).1 (I.ok.bs b o e).2 (I.ok.Oe e) (I.ok.noex b o e),I.base.free b o (I.ok.bs b o e).1 (I.ok.bs b o e).2 (I.ok.noex b o e)⟩
theorem Inv.bk (I:Inv X pins σ H s):∀b o,X.base.get? b=some o->s.heap.get? b=some o:=λb o e=>(I.bs b o e).1
theorem Inv.mod (I:Inv X pins σ H s):Mod X.K X.mg X.base:=I.ok.mod
theorem Inv.eC (I:Inv X pins σ H s):X.K.In s.heap:=I.ok.mod.kin.keeps I.bk
theorem Inv.lt (I:Inv X pins σ H s):X.env.locals<s.heap.objs.size:=let ⟨_,hn,_⟩:=I.loc; hn.lt
theorem Inv.sz (I:Inv X pins σ H s):X.iT.heap.objs.size<=s.heap.objs.size:=Nat.le_trans I.ok.above (Nat.le_of_lt I.lt)
theorem Inv.Of (I:Inv X pins σ H s){a:Addr}(h:s.heap.objs.size<=a):a∉X.fs:=λhb=>by
 obtain ⟨_,o,ho,_⟩:=I.ok.ia.mem hb
 exact absurd (Nat.lt_of_lt_of_le (Heap.lt_size ho) (Nat.le_trans I.sz h)) (Nat.lt_irrefl _)
theorem Inv.tP (I:Inv X pins σ H s):∀x c,X.env.cells.lookup x=some c->c≠X.env.locals:=λx c e z=>by
 obtain ⟨v,o,ho,hd⟩:=I.cell x c e
 obtain ⟨m,⟨o',es,ep,d6,hd',_⟩,_⟩:=I.loc
 rw [z,d6] at ho; cases ho; rw [hd'] at hd; cases hd
theorem Inv.ia (I:Inv X pins σ H s):s.heap.FunFrames X.base X.outer:=by
 have all:∀(l:List Env),(∀b∈mi l,b∈X.fs)->X.iT.heap.FunFrames X.base l->s.heap.FunFrames X.base l:=by
  intro l
  induction l with
  | nil=>intro _ _; trivial
  | cons env r ih=>
   intro hs hl
   obtain ⟨hk,⟨L,o,hf,hn,ho,hd⟩,hr⟩:=hl
   have hL:L∈X.fs:=hs L (by unfold mi; rw [List.filterMap_cons,hf]; exact List.mem_cons_self)
   obtain ⟨sl,e⟩:=I.base.slot L o ho (I.ok.frf L hL) hL λz=>I.ok.exfs L z hL
   exact ⟨hk,⟨L,_,hf,hn,e,hd⟩,ih (λb hb=>hs b (by unfold mi; rw [List.filterMap_cons,hf]; exact List.mem_cons_of_mem _ hb)) hr⟩
 exact all X.outer (λ_ hb=>hb) I.ok.ia
theorem Inv.stack (I:Inv X pins σ H s):s.heap.FunFrames X.base X.stack:=by
 rcases I.ok.stk with e | ⟨e,hf⟩
 . rw [e]; exact I.ia
 . rw [e]
   obtain ⟨m,hn,_⟩:=I.loc
   refine .cons (by rw [I.ok.kind]; decide) hf hn ?_ I.ia
   exact Heap.get?_none_of_le (Nat.le_trans I.ok.bsz I.ok.above)
theorem Inv.pR (I:Inv X pins σ H s):∀b∈mi X.stack,b∈X.env.locals::X.fs:=λb hb=>by
 rcases I.ok.stk with e | ⟨e,hf⟩
 . rw [e] at hb; exact List.mem_cons_of_mem _ hb
 . rw [e] at hb
   unfold mi at hb
   rw [List.filterMap_cons,hf] at hb
   exact hb
theorem Inv.wK (I:Inv X pins σ H s):∀b∈mi X.stack,H b=none:=λb hb=>by
 rcases List.mem_cons.mp (I.pR b hb) with e | hb
 . rw [e]; exact I.free
 . obtain ⟨_,o,ho,_⟩:=I.ok.ia.mem hb
   exact I.base.free b o ho (I.ok.frf b hb) λz=>I.ok.exfs b z hb
theorem Inv.step {g':Array GenState}{t':Nat}{d':Drawn}{ch:List Addr}(I:Inv X pins σ H s)
 (mj:∀b∈ch,(b∈X.ex\/X.iT.heap.objs.size<=b)/\b≠X.env.locals/\(∀x c,X.env.cells.lookup x=some c->c≠b)/\∀p∈X.pn++pins,p.1≠b)
 (keep:∀b o,b≠X.env.locals->b∉X.fs->b∉ch->s.heap.get? b=some o->H b=none->h'.get? b=some o)
 (slot:∀b o,b≠X.env.locals->b∈X.fs->b∉ch->s.heap.get? b=some o->H b=none->∃sl,h'.get? b=some { o with slots:=sl }) (free:∀b o,b∉ch->s.heap.get? b=some o->H b=none->H' b=none)
 (there:∀b o,b∉ch->s.heap.get? b=some o->∃o',h'.get? b=some o')
 (dr:∀b xs,H b=some (.tup xs)->H' b=some (.tup xs)) (frzs:∀b o u,H b=some (.cz o u)->H' b=some (.cz o u)) (tbls:∀b ps,H b=some (.tO ps)->∃more,H' b=some (.tO (ps++more)))
 (ns:∀m,s.heap.Ns X.env.locals m->h'.Ns X.env.locals m) (hok:cY X.prog X.w H' h') (hg:AllBare g') :
 Inv X pins σ H' { s with heap:=h',gens:=g',drawn:=d',toks:=t' }:=by
 have L6:∀b o,X.iT.heap.get? b=some o->b≠X.env.locals:=λb o e=>Nat.ne_of_lt (Nat.lt_of_lt_of_le (Heap.lt_size e) I.ok.above)
 have C5:∀b o,X.iT.heap.get? b=some o->b∉X.ex->b∉ch:=λb o e hx hb=>by
  rcases (mj b hb).1 with z | z
  . exact hx z
  . exact absurd (Nat.lt_of_lt_of_le (Heap.lt_size e) z) (Nat.lt_irrefl _)
 have cellK:∀x c,X.env.cells.lookup x=some c->∀v,s.heap.IsCell c v->h'.IsCell c v:=λx c e v ⟨o,ho,hd⟩=>by
  have zw:c∉ch:=λz=>(mj c z).2.2.1 x c e rfl
  by_cases hc:c∈X.fs
  . obtain ⟨sl,q⟩:=slot c o (I.tP x c e) hc zw ho (I.freeC x c e)
    exact ⟨_,q,hd⟩
  . exact ⟨o,keep c o (I.tP x c e) hc zw ho (I.freeC x c e),hd⟩
 refine ⟨I.ok,I.os,hg,⟨λb o e n hb hx=>?_,λb o e n hb hx=>?_,λb o e n hx=>?_,λb o e hx=>?_,λb xs e=>dr b xs (I.base.dr b xs e),λb o xs e=>frzs b o xs (I.base.frzs b o xs e),λb ps e=>?_⟩,?_,λx c e=>?_,?_,λx c e=>?_,λp hp=>?_,hok,I.len⟩
 . exact keep b o (L6 b o e) hb (C5 b o e hx) (I.base.keep b o e n hb hx) (I.base.free b o e n hx)
 . obtain ⟨sl,e1⟩:=I.base.slot b o e n hb hx
   obtain ⟨FT,e2⟩:=slot b _ (L6 b o e) hb (C5 b o e hx) e1 (I.base.free b o e n hx)
   exact ⟨FT,e2⟩
 . obtain ⟨o',e1⟩:=I.base.there b o e hx
   exact free b o' (C5 b o e hx) e1 (I.base.free b o e n hx)
 . obtain ⟨o',e1⟩:=I.base.there b o e hx
   exact there b o' (C5 b o e hx) e1
 . obtain ⟨m1,e1⟩:=I.base.tbls b ps e
   obtain ⟨m2,e2⟩:=tbls b _ e1
   exact ⟨m1++m2,by rw [e2,Array.append_assoc]⟩
 . obtain ⟨m,hn,hl⟩:=I.loc
   refine ⟨m,ns m hn,λi x v e1 e2 e3=>?_⟩
   obtain ⟨u,r,l⟩:=hl i x v e1 e2 e3
   refine ⟨u,r,?_⟩
   rcases l with l | ⟨k,c,e,z⟩
   . exact .inl l
   . exact .inr ⟨k,c,e,cellK x c e _ z⟩
 . obtain ⟨v,z⟩:=I.cell x c e
   exact ⟨v,cellK x c e v z⟩
 . obtain ⟨m,⟨o,_,_,ho,_⟩,_⟩:=I.loc
   exact free _ o (λz=>(mj _ z).2.1 rfl) ho I.free
 . obtain ⟨v,o,ho,hd⟩:=I.cell x c e
   exact free c o (λz=>(mj c z).2.2.1 x c e rfl) ho (I.freeC x c e)
 . obtain ⟨e,n,ne,nf,d⟩:=I.pin p hp
   have zw:p.1∉ch:=λz=>(mj p.1 z).2.2.2 p hp rfl
   exact ⟨keep p.1 p.2 ne nf zw e n,free p.1 p.2 zw e n,ne,nf,d⟩
theorem Inv.un {t':Nat}(I:Inv X pins σ H s) (u:Un X.fs [] H H' s.heap h') (hok:cY X.prog X.w H' h'):Inv X pins σ H' { s with heap:=h',toks:=t' }:=by
 obtain ⟨m,⟨o,es,ep,ho,r⟩,_⟩:=id I.loc
 obtain ⟨sl,hL⟩:=u.any ho I.free (by simp)
 exact I.step (g':=s.gens) (d':=s.drawn) (ch:=[]) (λ_ z=>nomatch z) (λb o _ hb _ e n=>u.keep b o e n hb (by simp)) (λb o _ hb _ e n=>u.slot b o e n hb (by simp)) (λb o _ e n=>u.free b o e n (by simp)) (λb o _ e=>u.there b o e (by simp)) u.dr u.frzs u.tbls (λm' hm=>by
  obtain ⟨o',tQ,tS,d6,r'⟩:=hm
  rw [ho] at d6; cases d6
  exact ⟨_,tQ,tS,hL,r'⟩) hok I.bare
theorem Inv.call {g':Array GenState}{t':Nat}{d':Drawn}{ch:List Addr}(I:Inv X pins σ H s) (u:Un (mi X.stack) ch H H' s.heap h') (hok:cY X.prog X.w H' h') (hg:AllBare g')
 (mj:∀b∈ch,(b∈X.ex\/X.iT.heap.objs.size<=b)/\b≠X.env.locals/\(∀x c,X.env.cells.lookup x=some c->c≠b)/\∀p∈X.pn++pins,p.1≠b) :
 Inv X pins σ H' { s with heap:=h',gens:=g',drawn:=d',toks:=t' }:=by
 obtain ⟨m,⟨o,es,ep,ho,r⟩,_⟩:=id I.loc
 obtain ⟨sl,hL⟩:=u.any ho I.free λz=>(mj _ z).2.1 rfl
 exact I.step (ch:=ch) mj (λb o hL hb hc e n=>u.keep b o e n (λz=>(List.mem_cons.mp (I.pR b z)).elim hL hb) hc) (λb o _ _ hc e n=>u.any e n hc) (λb o hc e n=>u.free b o e n hc) (λb o hc e=>u.there b o e hc) u.dr u.frzs u.tbls (λm' hm=>by
  obtain ⟨o',tQ,tS,d6,r'⟩:=hm
  rw [ho] at d6; cases d6
  exact ⟨_,tQ,tS,hL,r'⟩) hok hg
theorem Inv.turned {t':Nat}{it:Addr}(I:Inv X pins σ H s) (k:∀b o,b≠it->s.heap.get? b=some o->h'.get? b=some o) (hn:H it=none) (hL:it≠X.env.locals)
 (h1:it∈X.ex\/X.iT.heap.objs.size<=it) (h2:∀x c,X.env.cells.lookup x=some c->c≠it) (h3:∀p∈X.pn++pins,p.1≠it):Inv X pins σ H { s with heap:=h',toks:=t' }:=by
 have L7:∀b u,H b=some u->b≠it:=λb u e z=>by rw [z,hn] at e; cases e
 refine I.step (g':=s.gens) (d':=s.drawn) (ch:=[it]) (λb hb=>?_) (λb o _ _ hc e _=>k b o (λz=>hc (by simp [z])) e) (λb o _ _ hc e _=>⟨o.slots,k b o (λz=>hc (by simp [z])) e⟩) (λ_ _ _ _ n=>n)
  (λb o hc e=>⟨o,k b o (λz=>hc (by simp [z])) e⟩) (λ_ _ e=>e) (λ_ _ _ e=>e) (λb ps e=>⟨#[],by rw [e]; simp⟩) (λm hm=>?_) (λb u e=>?_) I.bare
 . have e:b=it:=by simpa using hb
   subst e
   exact ⟨h1,hL,h2,h3⟩
 . obtain ⟨o,es,ep,ho,r⟩:=hm
   exact ⟨o,es,ep,k _ o (Ne.symm hL) ho,r⟩
 . refine (I.hok b u e).eK (λc v hc q=>k c v ?_ q) (λ_ q=>q) λ_ _ q=>q
   rcases hc with z | z
   . rw [z]; exact L7 b u e
   . exact L7 c _ z
theorem Inv.tok (I:Inv X pins σ H s) (t:Nat):Inv X pins σ H { s with toks:=t }:=I.un (h':=s.heap) (t':=t) Un.refl I.hok
theorem Inv.kept {t':Nat}(I:Inv X pins σ H s) (k:∀b u,s.heap.get? b=some u->h'.get? b=some u):Inv X pins σ H { s with heap:=h',toks:=t' }:=I.un (Un.kept k) (I.hok.kept k)
theorem Inv.laid {a:Addr}{o:HO}{t':Nat}(I:Inv X pins σ H s) (k:∀b u,s.heap.get? b=some u->h'.get? b=some u) (hp:s.heap.objs.size<=a) (new:bg X.prog X.w (upd H a o) h' a o) :
 Inv X pins σ (upd H a o) { s with heap:=h',toks:=t' }:=I.un (Un.laid k hp (I.hok.fresh hp)) (I.hok.laid k hp new)
theorem Inv.write {x e:Addr}{o:HO}{t':Nat}(I:Inv X pins σ H s) (mu:zu (H x)) (he:e=x\/H e=some (.own x)) (k:∀b u,b≠e->s.heap.get? b=some u->h'.get? b=some u) (wJ:∃u,h'.get? e=some u)
 (new:bg X.prog X.w (upd H x o) h' x o):Inv X pins σ (upd H x o) { s with heap:=h',toks:=t' }:=I.un (Un.write mu he k wJ) (I.hok.write mu he k wJ new)
theorem Inv.wL {C6:List (Addr×Obj)}(I:Inv X pins σ H s) (h:∀p∈C6,s.heap.get? p.1=some p.2/\H p.1=none/\p.1≠X.env.locals/\p.1∉X.fs/\∀v,p.2.data≠.cell v):Inv X C6 σ H s:=
 ⟨I.ok,I.os,I.bare,I.base,I.loc,I.cell,I.free,I.freeC,λp hp=>(List.mem_append.mp hp).elim (λz=>I.pin p (List.mem_append_left _ z)) (h p),I.hok,I.len⟩
theorem tT {N:List Str}(hN:N.Nodup){i j:Nat}{x:Str}(a:N[i]?=some x) (b:N[j]?=some x):i=j:=by
 obtain ⟨h1,e1⟩:=List.getElem?_eq_some_iff.mp a
 obtain ⟨h2,e2⟩:=List.getElem?_eq_some_iff.mp b
 exact (List.getElem_inj hN).mp (e1.trans e2.symm)
theorem rW {M:Model}{A:Around}{E:Value->Shared->Prop}{i:Nat}{x:Str}{v:V}{u:Value}{Q:Unit->Shared->Prop}(I:Inv X pins σ H s) (hN:X.N.Nodup) (hi:X.N[i]?=some x) (hx:Loc X.env.scope x) (r:RelV v u)
 (h:∀s',Inv X pins (σ.set i (some v)) H s'->(∃a,Heap.SameBut a s.heap s'.heap/\(a=X.env.locals\/X.env.cells.lookup x=some a))->Q () s') (hf:X.fn x=true\/X.env.scope.names.lookup x=some .local:=by first | exact .inl rfl | exact .inr rfl | assumption):wpAny M A (storeName X.env x u) Q E s:=by
 obtain ⟨m,hn,hl⟩:=id I.loc
 have Og:(X.env.scope.kind == .class || (X.env.scope.kind == .module && X.env.locals != X.env.globals))=false:=by rw [I.ok.kind]; rfl
 have hiσ:i < σ.length:=by rw [I.len]; exact (List.getElem?_eq_some_iff.mp hi).1
 have tP:=I.tP
 have tracked:∀{a:Addr}{h':Heap},(∃o,s.heap.get? a=some o/\H a=none)->Heap.SameBut a s.heap h'->cY X.prog X.w H h':=λ{a h'} ha hs b ob e=>by
  obtain ⟨_,_,C7⟩:=ha
  refine (I.hok b ob e).eK (λc w' hc q=>(hs.2 c ?_).trans q) (λ_ q=>q) λ_ _ q=>q
  rintro rfl
  rcases hc with rfl | hc
  . rw [C7] at e; cases e
  . rw [C7] at hc; cases hc
 rcases hx with hk | hk
 . refine wpAny_storeName_local hk hn (λh' C8 hs=>?_) Og
   obtain ⟨oL,_,_,tU,_⟩:=id hn
   refine h _ ⟨I.ok,I.os,I.bare,⟨λb o e n hb hx=>?_,λb o e n hb hx=>?_,I.base.free,λb o e hx=>?_,I.base.dr,I.base.frzs,I.base.tbls⟩,⟨_,C8,λj y v' e1 e2 e3=>?_⟩,λy c e=>?_,I.free,I.freeC,λp hp=>?_,tracked ⟨oL,tU,I.free⟩ hs,by simpa using I.len⟩ ⟨_,hs,.inl rfl⟩
   . exact (hs.2 b (Nat.ne_of_lt (Nat.lt_of_lt_of_le (Heap.lt_size e) I.ok.above))).trans (I.base.keep b o e n hb hx)
   . obtain ⟨sl,e1⟩:=I.base.slot b o e n hb hx
     exact ⟨sl,(hs.2 b (Nat.ne_of_lt (Nat.lt_of_lt_of_le (Heap.lt_size e) I.ok.above))).trans e1⟩
   . obtain ⟨o',e1⟩:=I.base.there b o e hx
     exact ⟨o',(hs.2 b (Nat.ne_of_lt (Nat.lt_of_lt_of_le (Heap.lt_size e) I.ok.above))).trans e1⟩
   . by_cases hj:j=i
     . subst hj
       rw [hi] at e1; cases e1
       rw [List.getElem?_set_self hiσ] at e2
       cases e2
       exact ⟨u,r,.inl ⟨hk,by simp⟩⟩
     . rw [List.getElem?_set_ne (Ne.symm hj)] at e2
       obtain ⟨u',r',q⟩:=hl j y v' e1 e2 e3
       refine ⟨u',r',?_⟩
       rcases q with ⟨k,e⟩ | ⟨k,c,e,z⟩
       . refine .inl ⟨k,?_⟩
         have:y≠x:=λe=>hj (tT hN e1 (e ▸ hi))
         simp [this,e]
       . exact .inr ⟨k,c,e,z.sameBut hs (tP y c e)⟩
   . obtain ⟨w',z⟩:=I.cell y c e
     exact ⟨w',z.sameBut hs (tP y c e)⟩
   . obtain ⟨e,n,ne,nf,d⟩:=I.pin p hp
     exact ⟨(hs.2 p.1 ne).trans e,n,ne,nf,d⟩
 . have FV:X.fn x=true:=by
    rcases hf with z | z
    . exact z
    . rw [z] at hk; cases hk
   obtain ⟨c,hc⟩:=I.ok.has x (.inl hk)
   obtain ⟨w',z⟩:=I.cell x c hc
   refine wpAny_storeName_cell I.ok.kind hk hc z (λh' ft hs=>?_)
   obtain ⟨oc,L8,Oh⟩:=id z
   refine h { s with heap:=h' } ⟨I.ok,I.os,I.bare,⟨λb o e n hb hx=>?_,λb o e n hb hx=>?_,I.base.free,λb o e hx=>?_,I.base.dr,I.base.frzs,I.base.tbls⟩,⟨m,hn.sameBut hs (Ne.symm (tP x c hc)),λj y v' e1 e2 e3=>?_⟩,λy c' e=>?_,I.free,I.freeC,λp hp=>?_,tracked ⟨oc,L8,I.freeC x c hc⟩ hs,by simpa using I.len⟩ ⟨c,hs,.inr hc⟩
   . exact (hs.2 b (Nat.ne_of_lt (Nat.lt_of_lt_of_le (Heap.lt_size e) (I.ok.cab x c FV hc)))).trans (I.base.keep b o e n hb hx)
   . obtain ⟨sl,e1⟩:=I.base.slot b o e n hb hx
     exact ⟨sl,(hs.2 b (Nat.ne_of_lt (Nat.lt_of_lt_of_le (Heap.lt_size e) (I.ok.cab x c FV hc)))).trans e1⟩
   . obtain ⟨o',e1⟩:=I.base.there b o e hx
     exact ⟨o',(hs.2 b (Nat.ne_of_lt (Nat.lt_of_lt_of_le (Heap.lt_size e) (I.ok.cab x c FV hc)))).trans e1⟩
   . by_cases hj:j=i
     . subst hj
       rw [hi] at e1; cases e1
       rw [List.getElem?_set_self hiσ] at e2
       cases e2
       exact ⟨u,r,.inr ⟨.inl hk,c,hc,ft⟩⟩
     . rw [List.getElem?_set_ne (Ne.symm hj)] at e2
       obtain ⟨u',r',q⟩:=hl j y v' e1 e2 e3
       refine ⟨u',r',?_⟩
       rcases q with q | ⟨k,c',e,z'⟩
       . exact .inl q
       . refine .inr ⟨k,c',e,z'.sameBut hs ?_⟩
         rintro rfl
         exact hj (tT hN e1 (I.ok.inj _ _ _ e hc ▸ hi))
   . by_cases L9:c'=c
     . subst L9; exact ⟨_,ft⟩
     . obtain ⟨w2,z2⟩:=I.cell y c' e
       exact ⟨w2,z2.sameBut hs L9⟩
   . obtain ⟨e,n,ne,nf,d⟩:=I.pin p hp
     refine ⟨(hs.2 p.1 ?_).trans e,n,ne,nf,d⟩
     intro q
     rw [q,L8] at e
     have q':oc=p.2:=Option.some.inj e
     exact d w' (by rw [← q']; exact Oh)
theorem tV {M:Model}{A:Around}{E:Value->Shared->Prop}{i:Nat}{x:Str}{v:V}{u:Value}{Q:Unit->Shared->Prop}(I:Inv X pins σ H s) (hN:X.N.Nodup) (hi:X.N[i]?=some x) (hx:Loc X.env.scope x) (r:RelV v u)
 (h:∀s',Inv X pins (σ.set i (some v)) H s'->Q () s') (hf:X.fn x=true\/X.env.scope.names.lookup x=some .local:=by first | exact .inl rfl | exact .inr rfl | assumption):wpAny M A (storeName X.env x u) Q E s:=
 rW I hN hi hx r (λs' I' _=>h s' I') hf
theorem Inv.JW {s':Shared}{ch:List Addr}(I:Inv X pins σ H s) (ho:s'.os=s.os) (u:Un (mi X.stack) ch H H' s.heap s'.heap) (hok:cY X.prog X.w H' s'.heap) (hg:AllBare s'.gens)
 (mj:∀b∈ch,(b∈X.ex\/X.iT.heap.objs.size<=b)/\b≠X.env.locals/\(∀x c,X.env.cells.lookup x=some c->c≠b)/\∀p∈X.pn++pins,p.1≠b):Inv X pins σ H' s':=by
 obtain ⟨h',g',d',t',o'⟩:=s'
 have e:o'=s.os:=ho
 subst e
 exact I.call (g':=g') (t':=t') (d':=d') u hok hg mj
end
abbrev XK:=Value->Option Addr->Hp->Prop
abbrev St:=List (Option V)
abbrev VK:=V->Hp->Prop
abbrev TE:=St->Hp->VK->Prop
abbrev TT:=St->Hp->(Bool->Hp->Prop)->Prop
abbrev TA:=St->Hp->(List V->Hp->Prop)->Prop
structure Ends where
 nx:St->Hp->Prop
 rt:VK
 bk:St->Hp->Prop:=λ_ _=>False
 ct:St->Hp->Prop:=λ_ _=>False
abbrev TS:=Ends->St->Hp->Prop
def EP (X:Cx) (pins:List (Addr×Obj)) (σ:St) (Q:VK) (u:Value) (s':Shared):Prop:=∃v H',Inv X pins σ H' s'/\RelV v u/\Q v H'
def TP (X:Cx) (pins:List (Addr×Obj)) (σ:St) (Q:Bool->Hp->Prop) (b:Bool) (s':Shared):Prop:=∃H',Inv X pins σ H' s'/\Q b H'
def AP (X:Cx) (pins:List (Addr×Obj)) (σ:St) (Q:List V->Hp->Prop) (us:List Value) (s':Shared):Prop:=∃vs H',Inv X pins σ H' s'/\Vals vs us/\Q vs H'
def SP (X:Cx) (pins:List (Addr×Obj)) (D:Ends) (f:Flow) (s':Shared):Prop:=
 match f with
 | .next=>∃cg H',Inv X pins cg H' s'/\D.nx cg H'
 | .brk=>∃cg H',Inv X pins cg H' s'/\D.bk cg H'
 | .cont=>∃cg H',Inv X pins cg H' s'/\D.ct cg H'
 | .ret u=>∃v cg H',Inv X pins cg H' s'/\RelV v u/\D.rt v H'
def PE (X:Cx) (e:Expr) (t:TE):Prop:=
 ∀(pins:List (Addr×Obj)) (s:Shared) (σ:St) (H:Hp) (Q:VK),Inv X pins σ H s->t σ H Q->wpAny (model X.prog X.w) X.A (eval e X.env) (EP X pins σ Q) X.xe s
def PT (X:Cx) (e:Expr) (t:TT):Prop:=
 ∀(pins:List (Addr×Obj)) (s:Shared) (σ:St) (H:Hp) (Q:Bool->Hp->Prop),Inv X pins σ H s->t σ H Q->wpAny (model X.prog X.w) X.A (isTrue e X.env (eval e X.env)) (TP X pins σ Q) X.xe s
def PW (X:Cx) (e:Expr) (t:TT):Prop:=
 ∀(whole:Sem Value) (pins:List (Addr×Obj)) (s:Shared) (σ:St) (H:Hp) (Q:Bool->Hp->Prop),Inv X pins σ H s->t σ H Q->wpAny (model X.prog X.w) X.A (isTrue e X.env whole) (TP X pins σ Q) X.xe s
theorem PW.pt {X:Cx}{e:Expr}{t:TT}(h:PW X e t):PT X e t:=h _
def PA (X:Cx) (es:List Expr) (t:TA):Prop:=
 ∀(pos:Pos) (pins:List (Addr×Obj)) (s:Shared) (σ:St) (H:Hp) (Q:List V->Hp->Prop),Inv X pins σ H s->t σ H Q->wpAny (model X.prog X.w) X.A (spliced (backTo pos (starEach es X.env))) (AP X pins σ Q) X.xe s
def PS (X:Cx) (st:Stmt) (t:TS):Prop:=
 ∀(pins:List (Addr×Obj)) (s:Shared) (σ:St) (H:Hp) (D:Ends),Inv X pins σ H s->t D σ H->wpAny (model X.prog X.w) X.A (exec st X.env) (SP X pins D) X.xe s
def jh (X:Cx) (st:List Stmt) (t:TS):Prop:=
 ∀(pins:List (Addr×Obj)) (s:Shared) (σ:St) (H:Hp) (D:Ends),Inv X pins σ H s->t D σ H->wpAny (model X.prog X.w) X.A (execs st X.env) (SP X pins D) X.xe s
theorem aH {α:Type}{t:Sem α}{Q Q':α->Shared->Prop}{M:Model}{A:Around}{E:Value->Shared->Prop}{s:Shared}(h:wpAny M A t Q E s) (hQ:∀a s,Q a s->Q' a s):wpAny M A t Q' E s:=wpAny_mono h hQ λ_ _ x=>x
end L2
namespace L2
open PySem PySem.Spec PyProof.Rows
section
variable {X:Cx}
theorem bin {a b:Expr}{ta tb:TE}(ha:PE X a ta) (hb:PE X b tb){pins:List (Addr×Obj)}{s:Shared}{σ:St}{H:Hp}{R:V->V->Hp->Prop}(I:Inv X pins σ H s) (h:ta σ H λx H1=>tb σ H1 λy H2=>R x y H2)
 {α:Type}{Q:α->Shared->Prop}{f:Value->Value->Sem α}
 (hf:∀v u s2 x y H2,Inv X pins σ H2 s2->RelV x v->RelV y u->R x y H2->wpAny (model X.prog X.w) X.A (f v u) Q X.xe s2) :
 wpAny (model X.prog X.w) X.A (eval a X.env) (λv cE=>wpAny (model X.prog X.w) X.A (eval b X.env) (λu qZ=>wpAny (model X.prog X.w) X.A (f v u) Q X.xe qZ) X.xe cE) X.xe s:=by
 refine aH (ha pins s σ H _ I h) λv s1 ⟨x,H1,I1,r1,q1⟩=>?_
 refine aH (hb pins s1 σ H1 _ I1 q1) λu s2 ⟨y,H2,I2,r2,q2⟩=>?_
 exact hf v u s2 x y H2 I2 r1 r2 q2
def ib (i:Nat):TE:=λσ H Q=>∃v,σ[i]?=some (some v)/\Q v H
def tC (v:V):TE:=λ_ H Q=>Q v H
theorem FW {i:Nat}{x:Str}{pos:Pos}(hN:X.N[i]?=some x) (hv:FU X.env.scope x) (hd:(x == ("__debug__" : Str))=false:=by decide) (mX:(x == ("__classdict__" : Str))=false:=by decide):PE X (.Name x pos) (ib i):=by
 intro pins s σ H Q I h
 obtain ⟨v,e,h⟩:=h
 obtain ⟨m,hn,hl⟩:=I.loc
 obtain ⟨u,r,l⟩:=hl i x v hN e hv
 have fin:EP X pins σ Q u s:=⟨v,H,I,r,h⟩
 rcases l with ⟨hk,hm⟩ | ⟨hk,c,hc,C9⟩
 . exact wpAny_Name (wpAny_loadName_local I.ok.kind hk hn hm fin) hd
 . rcases hk with hk | hk
   . exact wpAny_Name (wpAny_loadName_cell I.ok.kind hk hc C9 fin) hd
   . exact wpAny_Name (wpAny_loadName_free I.ok.kind hk hc C9 fin mX) hd
theorem ah {i j pos} : PE X (.Constant (.int i) j pos) (tC (.int i)):=λ_ _ _ H _ I h=>wpAny_Constant_int ⟨.int i,H,I.tok _,⟨_,rfl⟩,h⟩
theorem iC {b j pos} : PE X (.Constant (.bool b) j pos) (tC (.bl b)):=λ_ _ _ H _ I h=>Constant_bool ⟨.bl b,H,I,rfl,h⟩
theorem ji {x j pos} : PE X (.Constant (.str x) j pos) (tC (.str x)):=λ_ _ _ H _ I h=>Calls.Constant_str ⟨.str x,H,I.tok _,⟨_,rfl⟩,h⟩
def Gl (X:Cx) (x:Str):Prop:=X.env.kindOf x=some .globalImplicit
theorem wM {E:Value->Shared->Prop}{pins:List (Addr×Obj)}{s:Shared}{σ:St}{H:Hp}{x:Str}{u:Value}{pos:Pos}{Q:Value->Shared->Prop}(I:Inv X pins σ H s) (hg:Gl X x) (hm:X.mg x=some u) (h:Q u s)
 (hd:(x == ("__debug__" : Str))=false:=by decide):wpAny (model X.prog X.w) X.A (eval (.Name x pos) X.env) Q E s:=
 Calls.Name_function_global I.ok.kind hg (Calls.loadGlobal_global (by rw [I.ok.glob]; exact I.mod.glob.keeps I.bk) hm h) hd
theorem iH {E:Value->Shared->Prop}{pins:List (Addr×Obj)}{s:Shared}{σ:St}{H:Hp}{x:Str}{u:Value}{pos:Pos}{Q:Value->Shared->Prop}(I:Inv X pins σ H s) (hg:Gl X x) (hm:X.mg x=none) (hv:bootBuiltins x=some u) (h:Q u s)
 (hn:x ≠ "__name__":=by decide) (hd:(x == ("__debug__" : Str))=false:=by decide):wpAny (model X.prog X.w) X.A (eval (.Name x pos) X.env) Q E s:=by
 obtain ⟨mb,h1,h2⟩:=I.mod.blt
 exact Calls.Name_function_global I.ok.kind hg (Calls.loadGlobal_builtin (by rw [I.ok.glob]; exact I.mod.glob.keeps I.bk) hm (by rw [I.ok.blt]; exact h1.keeps I.bk) ((h2 x hn).trans hv) h) hd
theorem ja {x:Str}{v:V}{u:Value}{pos:Pos}(hg:Gl X x) (hm:X.mg x=none) (hv:bootBuiltins x=some u) (r:RelV v u) (hn:x ≠ "__name__":=by decide) (hd:(x == ("__debug__" : Str))=false:=by decide):PE X (.Name x pos) (tC v):=
 λ_ _ _ H _ I h=>iH I hg hm hv ⟨v,H,I,r,h⟩ hn hd
variable {a b:Expr}{ta tb:TE}{pos:Pos}
def PC (X:Cx) (op:CmpOp) (a b:Expr) (t:TE):Prop:=
 ∀(pins:List (Addr×Obj)) (s:Shared) (σ:St) (H:Hp) (Q:VK),Inv X pins σ H s->t σ H Q->
  wpAny (model X.prog X.w) X.A (eval a X.env) (λv cE=>wpAny (model X.prog X.w) X.A (eval b X.env) (λu qZ=>wpAny (model X.prog X.w) X.A (compareOp op v u) (EP X pins σ Q) X.xe qZ) X.xe cE) X.xe s
theorem tW (b:Expr){op:CmpOp}(h:op≠.In) (h2:op≠.NotIn):behindInMarks op b=false:=by
 have e1:(op == CmpOp.In)=false:=by cases op <;> first | rfl | exact absurd rfl h
 have e2:(op == CmpOp.NotIn)=false:=by cases op <;> first | rfl | exact absurd rfl h2
 cases b <;> simp [behindInMarks,e1,e2]
def Oi (ta:TE):TE:=λσ H Q=>ta σ H λx H1=>Q (.bl (decide (x=.aX))) H1
theorem RelV.BK {x:V}{v:Value}(r:RelV x v):(v == Value.none)=decide (x=.aX):=by
 cases x with
 | aX=>cases r; rfl
 | bl _=>cases r; rfl
 | int _=>obtain ⟨t,rfl⟩:=r; rfl
 | str _=>obtain ⟨t,rfl⟩:=r; rfl
 | kg _=>obtain ⟨t,rfl⟩:=r; rfl
 | rV _=>obtain ⟨t,rfl⟩:=r; rfl
 | ref _=>cases r; rfl
 | ty _=>cases r; rfl
theorem pS {j pos'} (ha:PE X a ta):PC X .Is a (.Constant .none j pos') (Oi ta):=by
 intro pins s σ H Q I h
 refine aH (ha pins s σ H _ I h) λv s1 ⟨x,H1,I1,r1,q1⟩=>?_
 exact Constant_none (is_none_gen ⟨.bl _,H1,I1,by rw [r1.BK]; rfl,q1⟩)
def tB (t:TE):TT:=λσ H Q=>t σ H λx H1=>∃c,x=.bl c/\Q c H1
theorem FX {op:CmpOp}{t:TE}(h:PC X op a b t) (h1:behindInMarks op b=false:=by first | exact tW _ (by decide) (by decide) | rfl):PE X (.Compare a [op] [b] pos) t:=λpins s σ H Q I hw=>wpAny_Compare1 (h pins s σ H Q I hw) h1
theorem fu {op:CmpOp}{t:TE}(h:PC X op a b t) (h1:behindInMarks op b=false:=by first | exact tW _ (by decide) (by decide) | rfl):PT X (.Compare a [op] [b] pos) (tB t):=by
 intro pins s σ H Q I hw
 refine wpAny_isTrue_Compare1 (aH (h pins s σ H _ I hw) λv s1 h1=>aH h1 λu s2 h2=>aH h2 λc s3 ⟨x,H1,I1,r1,q1⟩=>?_) h1
 obtain ⟨d,rfl,q⟩:=q1
 cases r1
 exact wpAny_truthy_bool ⟨H1,I1,q⟩
theorem fv {e:Expr}{t:TE}(h:PE X e t) (he:∀whole,isTrue e X.env whole=(do let v ← whole; standAt e.pos; holding [v] (truthy v)):=by intro _; rfl):PT X e (tB t):=by
 intro pins s σ H Q I hw
 refine isTrue_plain (aH (h pins s σ H _ I hw) λv s1 ⟨x,H1,I1,r1,q1⟩=>?_) (he _)
 obtain ⟨d,rfl,q⟩:=q1
 cases r1
 exact wpAny_truthy_bool ⟨H1,I1,q⟩
variable {tA Dc:TT}{rest:List Expr}
def Oj (t u:TT):TT:=λσ H Q=>t σ H λc H1=>if c=true then u σ H1 Q else Q false H1
def Ry (t u:TT):TT:=λσ H Q=>t σ H λc H1=>if c=true then Q true H1 else u σ H1 Q
def Ol (t:TT):TT:=λσ H Q=>t σ H λc H1=>Q (!c) H1
theorem wN (ha:PT X a tA):PW X (.BoolOp .And [a] pos) tA:=by
 intro wh pins s σ H Q I h
 refine isTrue_and (aH (ha pins s σ H Q I h) λc s1 e=>?_)
 cases c with
 | true=>exact isTrue_and_nil e
 | false=>exact e
theorem pT (ha:PT X a tA):PW X (.BoolOp .Or [a] pos) tA:=by
 intro wh pins s σ H Q I h
 refine isTrue_or (aH (ha pins s σ H Q I h) λc s1 e=>?_)
 cases c with
 | false=>exact isTrue_or_nil e
 | true=>exact e
theorem pU (ha:PT X a tA) (hb:PW X (.BoolOp .And (b::rest) pos) Dc):PW X (.BoolOp .And (a::b::rest) pos) (Oj tA Dc):=by
 intro wh pins s σ H Q I h
 refine isTrue_and (aH (ha pins s σ H _ I h) λc s1 ⟨H1,I1,q1⟩=>?_)
 cases c with
 | true=>exact hb wh pins s1 σ H1 Q I1 q1
 | false=>exact ⟨H1,I1,q1⟩
theorem nY (ha:PT X a tA) (hb:PW X (.BoolOp .Or (b::rest) pos) Dc):PW X (.BoolOp .Or (a::b::rest) pos) (Ry tA Dc):=by
 intro wh pins s σ H Q I h
 refine isTrue_or (aH (ha pins s σ H _ I h) λc s1 ⟨H1,I1,q1⟩=>?_)
 cases c with
 | true=>exact ⟨H1,I1,q1⟩
 | false=>exact hb wh pins s1 σ H1 Q I1 q1
theorem ko (ha:PT X a tA):PT X (.UnaryOp .Not a pos) (Ol tA):=by
 intro pins s σ H Q I h
 exact isTrue_not (ha pins s σ H (λc H1=>Q (!c) H1) I h)
def JX (ta tb:TE):TE:=λσ H Q=>ta σ H λx H1=>∃c,x=.bl c/\if c=true then tb σ H1 Q else Q (.bl false) H1
theorem zx {op} {t:TE}(h:PE X a t):PE X (.BoolOp op [a] pos) t:=λpins s σ H Q I hw=>BoolOp_one (h pins s σ H Q I hw)
theorem tX (ha:PE X a ta) (hb:PE X (.BoolOp .And (b::rest) pos) tb):PE X (.BoolOp .And (a::b::rest) pos) (JX ta tb):=by
 intro pins s σ H Q I h
 refine BoolOp_and (aH (ha pins s σ H _ I h) λv s1 ⟨x,H1,I1,r1,q1⟩=>?_)
 obtain ⟨c,rfl,q1⟩:=q1
 cases r1
 refine wpAny_truthy_bool ?_
 cases c with
 | true=>exact hb pins s1 σ H1 Q I1 q1
 | false=>exact ⟨.bl false,H1,I1,rfl,q1⟩
def Rz (t:TT) (ta tb:TE):TE:=λσ H Q=>t σ H λc H1=>if c=true then ta σ H1 Q else tb σ H1 Q
theorem lE {c:Expr}(hc:PT X c tA) (ha:PE X a ta) (hb:PE X b tb):PE X (.IfExp c a b pos) (Rz tA ta tb):=by
 intro pins s σ H Q I h
 refine wpAny_IfExp (aH (hc pins s σ H _ I h) λd s1 ⟨H1,I1,q1⟩=>?_)
 cases d with
 | true=>exact ha pins s1 σ H1 Q I1 q1
 | false=>exact hb pins s1 σ H1 Q I1 q1
end
end L2
namespace L2
open PySem PySem.Spec PyProof.Rows
def ay (K:W.Frag) (H:Hp) (a:Addr) (xs:List V):Prop:=
 Rd H a (.lst xs)\/
  ∃(o:Obj) (its:Array Value) (n:Nat),K.lookup a=some o/\o.cls=.type "list" /\ o.dict=none/\o.data=.seq its n/\its.size<=sizeLine/\Vals xs its.toList
def aT (K:W.Frag) (H:Hp) (a:Addr) (xs:List V):Prop:=
 Rd H a (.tup xs)\/
  ∃(o:Obj) (its:Array Value) (n:Nat),K.lookup a=some o/\o.cls=.type "tuple" /\ o.data=.seq its n/\its.size<=sizeLine/\Vals xs its.toList
def Om:Value->Option V
 | .none=>some .aX
 | .bool b=>some (.bl b)
 | .int i _=>some (.int i)
 | .str x _=>some (.str x)
 | .bytes b _=>some (.kg b)
 | .float b _=>some (.rV b)
 | .ref a=>some (.ref a)
 | .type n=>some (.ty n)
 | _=>none
theorem RelV.abs {x:V}{u:Value}(r:RelV x u):Om u=some x:=by
 cases x with
 | aX=>cases r; rfl
 | bl _=>cases r; rfl
 | int _=>obtain ⟨t,rfl⟩:=r; rfl
 | str _=>obtain ⟨t,rfl⟩:=r; rfl
 | kg _=>obtain ⟨t,rfl⟩:=r; rfl
 | rV _=>obtain ⟨t,rfl⟩:=r; rfl
 | ref _=>cases r; rfl
 | ty _=>cases r; rfl
theorem RelV.inj {x y:V}{u:Value}(r:RelV x u) (q:RelV y u):x=y:=Option.some.inj (r.abs.symm.trans q.abs)
theorem Vals.inj:∀{xs ys:List V}{us:List Value},Vals xs us->Vals ys us->xs=ys
 | _,_,_,.nil,.nil=>rfl
 | _,_,_,.cons r t,.cons r' t'=>by rw [r.inj r',Vals.inj t t']
section
variable {X:Cx}{pins:List (Addr×Obj)}{σ:St}{H:Hp}{s:Shared}{a:Addr}{xs ys:List V}
theorem ay.of {K:W.Frag}(h:H a=some (.lst xs)):ay K H a xs:=.inl (.inl h)
theorem aT.of {K:W.Frag}(h:H a=some (.tup xs)):aT K H a xs:=.inl (.inl h)
theorem Inv.list (I:Inv X pins σ H s) (h:ay X.K H a xs):∃its:List Value,Vals xs its/\PlainL s.heap a its.toArray/\xs.length<=sizeLine:=by
 rcases h with h | ⟨o,its,n,hk,hc,hd,hs,hz,r⟩
 . obtain ⟨z,its,n,r,e⟩:=h.ok I.hok
   exact ⟨its,r,⟨_,n,e,rfl,rfl,rfl⟩,z⟩
 . refine ⟨its.toList,r,⟨o,n,I.eC a o hk,hc,hd,by simpa using hs⟩,?_⟩
   have e:=r.length
   simp only [Array.length_toList] at e
   omega
theorem Inv.tuple (I:Inv X pins σ H s) (h:aT X.K H a xs):∃its:List Value,Vals xs its/\IsTup s.heap a its.toArray/\xs.length<=sizeLine:=by
 rcases h with h | ⟨o,its,n,hk,hc,hs,hz,r⟩
 . obtain ⟨z,its,r,p⟩:=h.ok I.hok
   exact ⟨its,r,p,z⟩
 . refine ⟨its.toList,r,⟨o,I.eC a o hk,hc,n,by simpa using hs⟩,?_⟩
   have e:=r.length
   simp only [Array.length_toList] at e
   omega
theorem Inv.o4 (I:Inv X pins σ H s) (h:ay X.K H a xs) (h':ay X.K H a ys):xs=ys:=by
 obtain ⟨its,r,⟨o,n,e,_,_,d⟩,_⟩:=I.list h
 obtain ⟨its',r',⟨o',n',e',_,_,d'⟩,_⟩:=I.list h'
 rw [e] at e'; cases e'
 rw [d] at d'
 injection d' with d1 _
 have:its=its':=by simpa using congrArg Array.toList d1
 subst this
 exact r.inj r'
theorem Inv.mY (I:Inv X pins σ H s) (h:aT X.K H a xs) (h':aT X.K H a ys):xs=ys:=by
 obtain ⟨its,r,⟨o,e,_,n,d⟩,_⟩:=I.tuple h
 obtain ⟨its',r',⟨o',e',_,n',d'⟩,_⟩:=I.tuple h'
 rw [e] at e'; cases e'
 rw [d] at d'
 injection d' with d1 _
 have:its=its':=by simpa using congrArg Array.toList d1
 subst this
 exact r.inj r'
end
abbrev Cx.jZ (X:Cx) (E:Value->Shared->Prop):Cx:={ X with xe:=E }
abbrev Cx.tY (X:Cx):Cx:=X.jZ λ_ _=>False
theorem Cx.Ok.jZ {X:Cx}(ok:X.Ok) (E:Value->Shared->Prop):(X.jZ E).Ok:=
 ⟨ok.mod,ok.kind,ok.glob,ok.blt,ok.above,ok.inj,ok.has,ok.cab,ok.hd,ok.frames,ok.stk,ok.exf,ok.bs,ok.bsz,ok.noex,ok.exfs,ok.ia,ok.frf⟩
theorem Cx.Ok.iI {X:Cx}{E:Value->Shared->Prop}(ok:(X.jZ E).Ok):X.Ok:=
 ⟨ok.mod,ok.kind,ok.glob,ok.blt,ok.above,ok.inj,ok.has,ok.cab,ok.hd,ok.frames,ok.stk,ok.exf,ok.bs,ok.bsz,ok.noex,ok.exfs,ok.ia,ok.frf⟩
section
variable {X:Cx}{pins:List (Addr×Obj)}{σ:St}{H:Hp}{s:Shared}{E:Value->Shared->Prop}
theorem Inv.jZ (I:Inv X pins σ H s) (E:Value->Shared->Prop):Inv (X.jZ E) pins σ H s:=⟨I.ok.jZ E,I.os,I.bare,I.base,I.loc,I.cell,I.free,I.freeC,I.pin,I.hok,I.len⟩
theorem Inv.iI (I:Inv (X.jZ E) pins σ H s):Inv X pins σ H s:=⟨I.ok.iI,I.os,I.bare,I.base,I.loc,I.cell,I.free,I.freeC,I.pin,I.hok,I.len⟩
theorem SP.iI {D:Ends}{f:Flow}{s':Shared}(h:SP (X.jZ E) pins D f s'):SP X pins D f s':=by
 cases f with
 | next=>obtain ⟨cg,H',I,q⟩:=h; exact ⟨cg,H',I.iI,q⟩
 | brk=>obtain ⟨cg,H',I,q⟩:=h; exact ⟨cg,H',I.iI,q⟩
 | cont=>obtain ⟨cg,H',I,q⟩:=h; exact ⟨cg,H',I.iI,q⟩
 | ret u=>obtain ⟨v,cg,H',I,r,q⟩:=h; exact ⟨v,cg,H',I.iI,r,q⟩
theorem jh.tY {st:List Stmt}{t:TS}(h:jh X.tY st t):jh X st t:=λpins s σ H D I hw=>
 wpAny_mono (h pins s σ H D (I.jZ _) hw) (λ_ _ q=>q.iI) λ_ _ z=>False.elim z
end
section
variable {X:Cx}{st:Stmt}{rest:List Stmt}{t u:TS}{e:Expr}{te:TE}{pos:Pos}
def JY:TS:=λD σ H=>D.nx σ H
def dj (t u:TS):TS:=λD σ H=>t { D with nx:=u D } σ H
theorem aY:jh X [] JY:=λ_ _ σ H _ I h=>wpAny_execs_nil ⟨σ,H,I,h⟩
theorem ag (h1:PS X st t) (h2:jh X rest u):jh X (st::rest) (dj t u):=by
 intro pins s σ H D I h
 refine wpAny_execs_cons (aH (h1 pins s σ H { D with nx:=u D } I h) λf s1 q=>?_)
 cases f with
 | next=>
  obtain ⟨cg,H',I',q⟩:=q
  exact h2 pins s1 cg H' D I' q
 | ret v=>exact q
 | brk=>exact q
 | cont=>exact q
theorem aq (h1:PS X st t):jh X [st] t:=by
 intro pins s σ H D I h
 refine wpAny_execs_cons (aH (h1 pins s σ H D I h) λf s1 q=>?_)
 cases f with
 | next=>exact wpAny_execs_nil q
 | ret v=>exact q
 | brk=>exact q
 | cont=>exact q
theorem Inv.quiet {pins:List (Addr×Obj)}{σ:St}{H:Hp}{s:Shared}(I:Inv X pins σ H s):interactive X.env=false:=by simp [interactive,I.ok.kind]
def JZ (te:TE):TS:=λD σ H=>te σ H λ_ H1=>D.nx σ H1
theorem jb (he:PE X e te) (hs:swapsWith e none pos.line X.env=pure false:=by rfl):PS X (.Expr e pos) (JZ te):=by
 intro pins s σ H D I h
 exact wpAny_Expr_any (aH (he pins s σ H _ I h) λv s1 ⟨x,H1,I1,r1,q1⟩=>⟨σ,H1,I1,q1⟩) I.quiet hs
def BL (te:TE):TS:=λD σ H=>te σ H D.rt
theorem aK (he:PE X e te):PS X (.Return (some e) pos) (BL te):=by
 intro pins s σ H D I h
 exact wpAny_Return_some (aH (he pins s σ H _ I h) λv s1 ⟨x,H1,I1,r1,q1⟩=>⟨x,σ,H1,I1,r1,q1⟩)
def Oo (c:TT) (t u:TS):TS:=λD σ H=>c σ H λb H1=>if b=true then t D σ H1 else u D σ H1
theorem bF {c:Expr}{a b:List Stmt}{tc:TT}(hc:PT X c tc) (ha:jh X a t) (hb:jh X b u):PS X (.If c a b pos) (Oo tc t u):=by
 intro pins s σ H D I h
 refine wpAny_If (aH (hc pins s σ H _ I h) λd s1 ⟨H1,I1,q1⟩=>?_)
 cases d with
 | true=>exact ha pins s1 σ H1 D I1 q1
 | false=>exact hb pins s1 σ H1 D I1 q1
end
abbrev TG:=V->St->Hp->(St->Hp->Prop)->Prop
abbrev tZ:=List V->St->Hp->(St->Hp->Prop)->Prop
def PG (X:Cx) (target:Expr) (t:TG):Prop:=
 ∀(pins:List (Addr×Obj)) (s:Shared) (σ:St) (H:Hp) (v:V) (u:Value) (Q:St->Hp->Prop),Inv X pins σ H s->RelV v u->t v σ H Q->
  wpAny (model X.prog X.w) X.A (assign target X.env u) (λ_ s'=>∃cg H',Inv X pins cg H' s'/\Q cg H') X.xe s
def De (X:Cx) (ts:List Expr) (t:tZ):Prop:=
 ∀(pins:List (Addr×Obj)) (s:Shared) (σ:St) (H:Hp) (vs:List V) (us:List Value) (Q:St->Hp->Prop),Inv X pins σ H s->Vals vs us->t vs σ H Q->
  wpAny (model X.prog X.w) X.A (assignInOrder ((assignEach ts X.env).map (·.2)) us) (λ_ s'=>∃cg H',Inv X pins cg H' s'/\Q cg H') X.xe s
abbrev BM:=V->V->V->Hp->(Hp->Prop)->Prop
def FY (X:Cx) (t:BM):Prop:=
 ∀(pins:List (Addr×Obj)) (s:Shared) (σ:St) (H:Hp) (o i v:V) (ov iv u:Value) (Q:Hp->Prop),Inv X pins σ H s->RelV o ov->RelV i iv->RelV v u->t o i v H Q->
  wpAny (model X.prog X.w) X.A (setItem ov iv u) (λ_ s'=>∃H',Inv X pins σ H' s'/\Q H') X.xe s
section
variable {X:Cx}{pos:Pos}
def dm (i:Nat):TG:=λv σ H Q=>Q (σ.set i (some v)) H
theorem aQ {i:Nat}{x:Str}(hN:X.N.Nodup) (hi:X.N[i]?=some x) (hx:Loc X.env.scope x) (hf:X.fn x=true\/X.env.scope.names.lookup x=some .local:=by first | exact .inl rfl | exact .inr rfl | assumption):PG X (.Name x pos) (dm i):=by
 intro pins s σ H v u Q I r h
 exact wpAny_assign_Name (tV I hN hi hx r (λs' I'=>⟨_,H,I',h⟩) hf)
def xZ:tZ:=λvs σ H Q=>vs=[]/\Q σ H
def lF (t:TG) (u:tZ):tZ:=λvs σ H Q=>∃v r,vs=v::r/\t v σ H λcg H'=>u r cg H' Q
theorem ie:De X [] xZ:=by
 intro pins s σ H vs us Q I r h
 obtain ⟨e,h⟩:=h
 subst e
 cases r
 exact assignInOrder_nil ⟨σ,H,I,h⟩
theorem cF {e:Expr}{es:List Expr}{t:TG}{u:tZ}(h1:PG X e t) (h2:De X es u)
 (hs:(assignEach (e::es) X.env).map (·.2)=assign e X.env::(assignEach es X.env).map (·.2):=by rfl):De X (e::es) (lF t u):=by
 intro pins s σ H vs us Q I r h
 obtain ⟨v,vr,e1,h⟩:=h
 subst e1
 cases r with
 | cons r rr=>
  rw [hs]
  refine assignInOrder_cons (aH (h1 pins s σ H _ _ _ I r h) λ_ s1 ⟨Wg,H1,I1,q1⟩=>?_)
  exact h2 pins s1 Wg H1 _ _ Q I1 rr q1
def x6 (K:W.Frag) (n:Nat) (t:tZ):TG:=λv σ H Q=>∃a xs,v=.ref a/\aT K H a xs/\xs.length=n/\t xs σ H Q
theorem jj {es:List Expr}{k:Nat}{t:tZ}{n:Nat}(hc:X.calm=true) (h:De X es t)
 (hn:(assignEach es X.env).length=n:=by rfl) (jL:(assignEach es X.env).findIdx? (·.1)=none:=by rfl):PG X (.Tuple es k pos) (x6 X.K n t):=by
 intro pins s σ H v u Q I r hw
 obtain ⟨a,xs,e1,hq,hl,hw⟩:=hw
 subst e1
 cases r
 obtain ⟨its,rv,ht,hz⟩:=I.tuple hq
 refine assign_Tuple_tuple (I.ok.hd hc) ht (by simp [hn,← hl,rv.length]) jL λh' hx=>?_
 have I1:Inv X pins σ H { s with heap:=h' }:=I.kept (t':=s.toks) λb o e=>hx b o (Nat.ne_of_lt (Heap.lt_size e)) e
 exact h pins _ σ H xs _ Q I1 (by simpa using rv) hw
def Oq (to ti:TE) (t:BM):TG:=λv σ H Q=>to σ H λo H1=>ti σ H1 λi H2=>t o i v H2 λH3=>Q σ H3
theorem zy {o i:Expr}{to ti:TE}{t:BM}(ho:PE X o to) (hi:PE X i ti) (hs:FY X t)
 (ha:∀v,assign (.Subscript o i pos) X.env v=(do
  let ov ← holding [v] (eval o X.env)
  let iv ← holding [v,ov] (eval i X.env)
  standAt pos
  holding [v,ov,iv] (setItem ov iv v)
  release [v,ov,iv] []):=by intro _; rfl):PG X (.Subscript o i pos) (Oq to ti t):=by
 intro pins s σ H v u Q I r h
 rw [ha]
 refine wpAny_bind (wpAny_holding (aH (ho pins s σ H _ I h) λov s1 ⟨x,H1,I1,r1,q1⟩=>?_))
 refine wpAny_bind (wpAny_holding (aH (hi pins s1 σ H1 _ I1 q1) λiv s2 ⟨y,H2,I2,r2,q2⟩=>?_))
 refine wpAny_bind (wpAny_standAt (wpAny_bind (wpAny_holding (aH (hs pins s2 σ H2 x y v ov iv u _ I2 r1 r2 r q2) λ_ s3 ⟨H3,I3,q3⟩=>?_))))
 exact wpAny_release ⟨σ,H3,I3,q3⟩
def BN (te:TE) (g:TG):TS:=λD σ H=>te σ H λx H1=>g x σ H1 D.nx
theorem zz {tg e:Expr}{te:TE}{g:TG}(he:PE X e te) (hg:PG X tg g) (hs:swapsWithSole [tg] e pos.line X.env=pure false:=by rfl) (hw:swappedStores [tg] e X.env=pure none:=by rfl)
 (h1:(assignEach [tg] X.env).map (·.2)=[assign tg X.env]:=by rfl):PS X (.Assign [tg] e pos) (BN te g):=by
 intro pins s σ H D I h
 refine wpAny_Assign_stores (aH (he pins s σ H _ I h) λv s1 ⟨x,H1,I1,r1,q1⟩=>?_) hs hw
 rw [h1]
 exact aH (hg pins s1 σ H1 x v _ I1 r1 q1) λ_ s2 q=>q
theorem ax {i:Nat}{x:Str}{e:Expr}{te:TE}{pos':Pos}(hN:X.N.Nodup) (hi:X.N[i]?=some x) (hx:Loc X.env.scope x) (he:PE X e te) (hs:swapsWith e (some (.Name x pos')) pos.line X.env=pure false:=by rfl) (hf:X.fn x=true\/X.env.scope.names.lookup x=some .local:=by first | exact .inl rfl | exact .inr rfl | assumption) :
 PS X (.Assign [.Name x pos'] e pos) (BN te (dm i)):=by
 intro pins s σ H D I h
 refine wpAny_Assign_Name (aH (he pins s σ H _ I h) λv s1 ⟨y,H1,I1,r1,q1⟩=>?_) hs
 exact tV I1 hN hi hx r1 (λs2 I2=>⟨_,H1,I2,q1⟩) hf
end
section
variable {X:Cx}{pos:Pos}
end
structure It where
 go:Nat->Hp->Prop
 yld:Nat->Hp->V->Hp->Prop
 stop:Nat->Hp->Prop
def gE (X:Cx) (pins:List (Addr×Obj)) (H:Hp) (b:Addr):Prop:=
 H b=none/\b≠X.env.locals/\b∉X.fs/\(b∈X.ex\/X.iT.heap.objs.size<=b)/\(∀x c,X.env.cells.lookup x=some c->c≠b)/\∀p∈X.pn++pins,p.1≠b
theorem Inv.o6 {X:Cx}{pins:List (Addr×Obj)}{σ:St}{H H':Hp}{s:Shared}{b:Addr}(I:Inv X pins σ H s) (hb:s.heap.objs.size<=b) (hn:H' b=none):gE X pins H' b:=by
 refine ⟨hn,Nat.ne_of_gt (Nat.lt_of_lt_of_le I.lt hb),I.Of hb,.inr (Nat.le_trans I.sz hb),λx c e z=>?_,λp hp z=>?_⟩
 . obtain ⟨v,q⟩:=I.cell x c e
   exact absurd (Nat.lt_of_lt_of_le q.lt (by rw [z]; exact hb)) (Nat.lt_irrefl _)
 . exact absurd (Nat.lt_of_lt_of_le (Heap.lt_size (I.pin p hp).1) (by rw [z]; exact hb)) (Nat.lt_irrefl _)
structure Turn (P:Program) (w:World) (K:W.Frag) (tg:Expr) (J:It) (fp:List Addr) (it:Addr) (tn:Nat->Heap->Prop):Prop where
 mem:it∈fp
 obj:∀i h,tn i h->∀b∈fp,∃o,h.get? b=some o/\∀v,o.data≠.cell v
 keep:∀i h h',tn i h->(∀b∈fp,∀o,h.get? b=some o->h'.get? b=some o)->tn i h'
 item:∀(X:Cx),X.prog=P->X.w=w->X.K=K->X.calm=true->∀(i:Nat) (pins:List (Addr×Obj)) (s:Shared) (σ:St) (H:Hp) (E:Value->Shared->Prop),Inv X pins σ H s->(∀b∈fp,gE X pins H b)->tn i s.heap->J.go i H->
  wpAny (model P w) X.A (pyNext (.ref it)) (λr s1=>∃u,r=some u/\
   wpAny (model P w) X.A (letOwnedTupleGo tg (.ref it) u) (λ_ s2=>∃x H',Inv X pins σ H' s2/\RelV x u/\J.yld i H x H'/\tn (i+1) s2.heap/\∀b∈fp,H' b=none) E s1) E s
 done:∀(X:Cx),X.prog=P->X.w=w->X.K=K->X.calm=true->∀(i:Nat) (pins:List (Addr×Obj)) (s:Shared) (σ:St) (H:Hp) (E:Value->Shared->Prop),Inv X pins σ H s->(∀b∈fp,gE X pins H b)->tn i s.heap->J.stop i H->
  wpAny (model P w) X.A (pyNext (.ref it)) (λr s1=>r=none/\Inv X pins σ H s1) E s
 self:∀(A:Around) (i:Nat) (s:Shared) (Q:Value->Shared->Prop) (E:Value->Shared->Prop),tn i s.heap->Q (.ref it) s->wpAny (model P w) A (pyIter (.ref it)) Q E s
abbrev TI:=St->Hp->(It->Hp->Prop)->Prop
def Ma (X:Cx) (pins:List (Addr×Obj)) (σ:St) (tg:Expr) (R:It->Hp->Prop) (FZ:Value) (s2:Shared):Prop:=
 ∃(it:Addr) (fp:List Addr) (tn:Nat->Heap->Prop) (J:It) (H':Hp),FZ=.ref it/\Inv X pins σ H' s2/\Turn X.prog X.w X.K tg J fp it tn/\tn 0 s2.heap/\(∀b∈fp,gE X pins H' b)/\R J H'
def PI (X:Cx) (tg iter:Expr) (wi:TI):Prop:=
 ∀(pins:List (Addr×Obj)) (s:Shared) (σ:St) (H:Hp) (R:It->Hp->Prop),Inv X pins σ H s->wi σ H R->
  wpAny (model X.prog X.w) X.A (eval iter X.env) (λv s1=>wpAny (model X.prog X.w) X.A (pyIter v) (Ma X pins σ tg R) X.xe s1) X.xe s
theorem tI {M:Model}{A:Around}{E:Value->Shared->Prop}{s:Shared}{tg:Expr}{it:Addr}{u:Value}{o:Obj}{n:String}{vs:Array Value}{Q:Unit->Shared->Prop}(ho:s.heap.get? it=some o) (hc:o.cls=.type n) (hd:o.data=.fields vs)
 (hn:["enumerate", "zip", "dict_itemiterator", "dict_reverseitemiterator", "odict_iterator", "itertools.zip_longest", "itertools.pairwise"].contains n=false) (hQ:Q () s):wpAny M A (letOwnedTupleGo tg (.ref it) u) Q E s:=by
 unfold letOwnedTupleGo
 cases tg <;> first
  | exact wpAny_pure hQ
  | (cases u <;> first
      | exact wpAny_pure hQ
      | (refine wpAny_bind (wpAny_load ho ?_)
         rw [hc,hd]
         show wpAny M A (if (["enumerate", "zip", "dict_itemiterator", "dict_reverseitemiterator", "odict_iterator", "itertools.zip_longest", "itertools.pairwise"].contains n && vs[0]? == some (rawInt _))=true then _ else _) Q E s
         rw [if_neg (by intro h; rw [hn,Bool.false_and] at h; cases h)]
         exact wpAny_pure hQ))
def t7 (K:W.Frag) (a:Addr):It:=
 ⟨λi H=>∃xs x,ay K H a xs/\xs[i]?=some x,λi H x H'=>H'=H/\∀xs,ay K H a xs->xs[i]?=some x,λi H=>∃xs,ay K H a xs/\xs.length<=i⟩
def t8 (lo:Int) (n:Nat):It:=⟨λi _=>i<n,λi H x H'=>H'=H/\x=.int (lo+i),λi _=>n<=i⟩
theorem zA {P:Program}{w:World}{K:W.Frag}{tg:Expr}(a it:Addr):Turn P w K tg (t7 K a) [it] it (λi h=>h.IsListIter it a i) where
 mem:=by simp
 obj:=λi h st b hb=>by
  have e:b=it:=by simpa using hb
  subst e
  obtain ⟨o,e,c,d⟩:=st
  exact ⟨o,e,λv z=>by rw [d] at z; cases z⟩
 keep:=λi h h' st k=>st.at λo e=>k it (by simp) o e
 item:=by
  intro X hP hw hK hc i pins s σ H E I hf st hg
  subst hP hw hK
  obtain ⟨xs,x,hq,hx⟩:=hg
  obtain ⟨its,rv,p,hz⟩:=I.list hq
  obtain ⟨u,hu,ru⟩:=rv.get hx
  obtain ⟨f0,f1,f2,f3,f4,f5⟩:=hf it (by simp)
  refine wpAny_pyNext_list_item st p.isList (x:=u) (by simpa using hu) λh' aG sb=>?_
  have I1:Inv X pins σ H { s with heap:=h' }:=I.turned (t':=s.toks) (λb o hb e=>(sb.2 b hb).trans e) f0 f1 f3 f4 f5
  obtain ⟨o,e,c,d⟩:=id aG
  exact ⟨u,rfl,tI (s:={ s with heap:=h' }) e c d (by decide) ⟨x,H,I1,ru,⟨rfl,λys hy=>by rw [I.o4 hy hq]; exact hx⟩,aG,λb hb=>(hf b hb).1⟩⟩
 done:=by
  intro X hP hw hK hc i pins s σ H E I hf st hg
  subst hP hw hK
  obtain ⟨xs,hq,hx⟩:=hg
  obtain ⟨its,rv,p,hz⟩:=I.list hq
  obtain ⟨f0,f1,f2,f3,f4,f5⟩:=hf it (by simp)
  have hl:=rv.length
  exact wpAny_pyNext_list_end (I.ok.hd hc) st p.isList (by simp; omega) λh' eb=>⟨rfl,I.turned (t':=s.toks) (λb o hb e=>eb b o hb e) f0 f1 f3 f4 f5⟩
 self:=λ_ _ _ _ _ st h=>wpAny_pyIter_listiter st h
theorem x8 {P:Program}{w:World}{K:W.Frag}{tg:Expr}(it:Addr) (lo:Int) (n:Nat):Turn P w K tg (t8 lo n) [it] it (λi h=>IsRangeIter h it (lo+(i:Nat)*1) ((n:Int)-(i:Nat)) 1) where
 mem:=by simp
 obj:=λi h st b hb=>by
  have e:b=it:=by simpa using hb
  subst e
  exact ⟨_,st,λv z=>by
   have z':Data.fields _=Data.cell v:=z
   cases z'⟩
 keep:=λi h h' st k=>k it (by simp) _ st
 item:=by
  intro X hP hw hK hc i pins s σ H E I hf st hg
  subst hP hw hK
  obtain ⟨f0,f1,f2,f3,f4,f5⟩:=hf it (by simp)
  have W:=Walks.range (prog:=X.prog) (w:=X.w) (I.ok.hd hc) it lo 1 n
  refine W.item i s _ _ hg st λv h' tk hv aG kk=>?_
  obtain ⟨t,rfl⟩:=hv
  have I1:Inv X pins σ H { s with heap:=h',toks:=tk }:=I.turned (λb o hb e=>kk b o (by simpa using hb) e) f0 f1 f3 f4 f5
  refine ⟨_,rfl,tI (s:={ s with heap:=h',toks:=tk }) (n:="range_iterator") aG rfl rfl (by decide) ⟨.int (lo+i),H,I1,⟨t,?_⟩,⟨rfl,rfl⟩,aG,λb hb=>(hf b hb).1⟩⟩
  rw [Int.mul_one]
 done:=by
  intro X hP hw hK hc i pins s σ H E I hf st hg
  subst hP hw hK
  obtain ⟨f0,f1,f2,f3,f4,f5⟩:=hf it (by simp)
  exact wpAny_pyNext_range_end (I.ok.hd hc) st (by have:n<=i:=hg; omega) λh' eb=>⟨rfl,I.turned (t':=s.toks) (λb o hb e=>eb b o hb e) f0 f1 f3 f4 f5⟩
 self:=λ_ _ _ _ _ st h=>wpAny_pyIter_rangeiter st h
end L2
namespace L2
open PySem PySem.Spec PyProof.Rows
section
variable {X:Cx}{tg:Expr}
def J0 (K:W.Frag) (tl:TE):TI:=λσ H R=>tl σ H λx H1=>∃a,x=.ref a/\(∃xs,ay K H1 a xs)/\R (t7 K a) H1
theorem kq {l:Expr}{tl:TE}(hl:PE X l tl):PI X tg l (J0 X.K tl):=by
 intro pins s σ H R I h
 refine aH (hl pins s σ H _ I h) λv s1 ⟨x,H1,I1,r1,q1⟩=>?_
 obtain ⟨a,e,⟨xs,hq⟩,q⟩:=q1
 subst e
 cases r1
 obtain ⟨its,rv,p,hz⟩:=I1.list hq
 refine wpAny_pyIter_list p.isList ?_
 refine ⟨s1.heap.objs.size,[s1.heap.objs.size],_,_,H1,rfl,I1.kept (t':=s1.toks) λb o e=>Heap.get?_push_of_some _ e,zA a _,⟨_,Heap.get?_push_size _ rfl,rfl,rfl⟩,λb hb=>?_,q⟩
 have e:b=s1.heap.objs.size:=by simpa using hb
 subst e
 exact I1.o6 (Nat.le_refl _) (I1.hok.fresh (Nat.le_refl _))
theorem BO {pins:List (Addr×Obj)}{σ:St}{H:Hp}{s:Shared}{R:It->Hp->Prop}{E:Value->Shared->Prop}{lo hi:Int}{t u v:Tok}{tk:Nat}(I:Inv X pins σ H s) (h1 : -(2 ^ 62)<=lo) (h2:lo<2 ^ 62) (h3 : -(2 ^ 62)<=hi) (h4:hi<2 ^ 62)
 (q:R (t8 lo (hi-lo).toNat) H):wpAny (model X.prog X.w) X.A (pyIter (.ref s.heap.objs.size)) (Ma X pins σ tg R) E { s with heap:=s.heap.push { cls:=.type "range",data:=.fields #[.int lo t,.int hi u,.int 1 v] },toks:=tk }:=by
 refine wpAny_pyIter_range (IsRange.new ..) (small_one h1 h2 h3 h4) ?_
 have I1:Inv X pins σ H { s with heap:=s.heap.push { cls:=.type "range",data:=.fields #[.int lo t,.int hi u,.int 1 v] },toks:=tk }:=I.kept λb o e=>Heap.get?_push_of_some _ e
 refine ⟨(s.heap.push { cls:=.type "range",data:=.fields #[.int lo t,.int hi u,.int 1 v] }).objs.size,[(s.heap.push { cls:=.type "range",data:=.fields #[.int lo t,.int hi u,.int 1 v] }).objs.size],_,_,H,rfl,
  I1.kept (t':=tk) λb o e=>Heap.get?_push_of_some _ e,x8 _ lo (hi-lo).toNat,?_,λb hb=>?_,q⟩
 . have e1:lo+((0:Nat):Int)*1=lo:=by simp
   have e2:(((hi-lo).toNat:Nat):Int)-((0:Nat):Int)=Builtin.Range.rangeSize lo hi 1:=by rw [rangeSize_one]; split <;> omega
   show IsRangeIter _ _ (lo+((0:Nat):Int)*1) ((((hi-lo).toNat:Nat):Int)-((0:Nat):Int)) 1
   rw [e1,e2]
   exact Heap.get?_push_size _ rfl
 . have e:b=(s.heap.push { cls:=.type "range",data:=.fields #[.int lo t,.int hi u,.int 1 v] }).objs.size:=by simpa using hb
   subst e
   exact I1.o6 (Nat.le_refl _) (I1.hok.fresh (Nat.le_refl _))
def J1 (ta:TA):TI:=λσ H R=>ta σ H λvs H1=>∃j:Int,vs=[.int j] /\ -(2 ^ 62)<=j/\j<2 ^ 62/\R (t8 0 j.toNat) H1
theorem cV {a:Expr}{ta:TA}{p pos:Pos}(hg:Gl X "range") (hm:X.mg "range" = none) (ha:PA X [a] ta) (hs:starEach [a] X.env=[(false,eval a X.env)]:=by rfl):PI X tg (.Call (.Name "range" p) [a] [] pos) (J1 ta):=by
 intro pins s σ H R I h
 refine Call_ (iH I hg hm boot_range (PyProof.Rows.callWith_type1 (aH (ha pos pins s σ H _ I h) λus s1 ⟨vs,H1,I1,r1,q1⟩=>?_) hs rfl))
 obtain ⟨j,e,q1,q2,q⟩:=q1
 subst e
 cases r1 with
 | cons r rr=>
  cases rr
  obtain ⟨t,rfl⟩:=r
  exact call_range_1 (BO I1 (by omega) (by omega) q1 q2 (by simpa using q))
def Ot (wi:TI) (g:TG) (tb:TS):TS:=λD σ H=>wi σ H λJ H1=>∃W:Nat->Nat->St->Hp->Prop,(∃m,W 0 m σ H1)/\∀i m σ H,W i m σ H->
 (J.stop i H/\D.nx σ H)\/(J.go i H/\∃N:St->Hp->Prop,(∀cg H',N cg H'->∃m',m'<m/\W (i+1) m' cg H')/\∀x H',J.yld i H x H'->g x σ H' λgb H2=>tb { D with nx:=N,ct:=N,bk:=D.nx } gb H2)
def mZ (fp:List Addr) (h:Heap):List (Addr×Obj):=fp.filterMap λb=>(h.get? b).map λo=>(b,o)
theorem i6 {fp:List Addr}{h:Heap}{b:Addr}{o:Obj}(hb:b∈fp) (e:h.get? b=some o):(b,o)∈mZ fp h:=List.mem_filterMap.mpr ⟨b,hb,by rw [e]; rfl⟩
theorem zB {fp:List Addr}{h:Heap}{p:Addr×Obj}(hp:p∈mZ fp h):p.1∈fp/\h.get? p.1=some p.2:=by
 obtain ⟨b,hb,e⟩:=List.mem_filterMap.mp hp
 cases q:h.get? b with
 | none=>rw [q] at e; cases e
 | some o=>
  rw [q] at e
  have e':(b,o)=p:=Option.some.inj e
  subst e'
  exact ⟨hb,q⟩
theorem Inv.pinned {pins:List (Addr×Obj)}{σ:St}{H:Hp}{s:Shared}{fp:List Addr}(I:Inv X pins σ H s) (hf:∀b∈fp,gE X pins H b) (ho:∀b∈fp,∃o,s.heap.get? b=some o/\∀v,o.data≠.cell v):Inv X (pins++mZ fp s.heap) σ H s:=
 I.wL λp hp=>(List.mem_append.mp hp).elim (λz=>I.pin p (List.mem_append_right _ z)) λz=>by
  obtain ⟨hb,e⟩:=zB z
  obtain ⟨f0,f1,f2,_⟩:=hf p.1 hb
  obtain ⟨o,e',d⟩:=ho p.1 hb
  rw [e] at e'; cases e'
  exact ⟨e,f0,f1,f2,d⟩
theorem Inv.lG {pins pl:List (Addr×Obj)}{σ:St}{H:Hp}{s:Shared}(I:Inv X (pins++pl) σ H s):Inv X pins σ H s:=I.wL λp hp=>I.pin p (List.mem_append_right _ (List.mem_append_left _ hp))
theorem d9 {iter:Expr}{body:List Stmt}{wi:TI}{g:TG}{tb:TS}{pos:Pos}(hp:PassesOwn (model X.prog X.w) X.A X.env X.xe) (hc:X.calm=true) (hi:PI X tg iter wi) (hg:PG X tg g) (hb:jh X body tb)
 (hs:∀x,foldedSetIterable iter X.env x=pure x:=by intro _; rfl):PS X (.For tg iter body [] pos) (Ot wi g tb):=by
 intro pins s σ H D I h
 refine wpAny_For (aH (hi pins s σ H _ I h) λv s1 h1=>aH h1 λFZ s2 h2=>?_) hs
 obtain ⟨it,fp,tn,J,H2,e,I2,T,oJ,f2,W,⟨m0,w0⟩,turn⟩:=h2
 subst e
 have BP:∀{H':Hp},(∀b∈fp,H' b=none)->∀b∈fp,gE X pins H' b:=λhn b hb=>⟨hn b hb,(f2 b hb).2⟩
 refine codeAny_forLoop_any (λn s'=>∃i cg H',Inv X pins cg H' s'/\tn i s'.heap/\(∀b∈fp,H' b=none)/\W i n cg H') ?_ m0 ⟨0,σ,H2,I2,oJ,λb hb=>(f2 b hb).1,w0⟩
 rintro n s3 ⟨i,F4,H3,I3,Mb,Mc,w3⟩
 rcases turn i n F4 H3 w3 with ⟨stop,qn⟩ | ⟨go,N,hN,step⟩
 . refine wpAny_passesOwn hp (aH (T.done X rfl rfl rfl hc i pins s3 F4 H3 X.xe I3 (BP Mc) Mb stop) λr s4 ⟨hr,I4⟩=>?_)
   subst hr
   exact wpAny_execs_nil ⟨F4,H3,I4,qn⟩
 . refine wpAny_passesOwn hp (aH (T.item X rfl rfl rfl hc i pins s3 F4 H3 X.xe I3 (BP Mc) Mb go) λr s4 ⟨u,hr,h4⟩=>?_)
   subst hr
   refine wpAny_passesOwn hp (aH h4 λ_ s5 ⟨x,H5,I5,r5,y5,wO,Df⟩=>?_)
   have RA:=I5.pinned (BP Df) (T.obj _ _ wO)
   refine wpAny_passesOwn hp (aH (hg _ s5 F4 H5 x u _ RA r5 (step x H5 y5)) λ_ s6 ⟨Wh,H6,I6,q6⟩=>?_)
   refine wpAny_passesOwn hp (aH (hb _ s6 Wh H6 _ I6 q6) λf s7 q7=>?_)
   have again:∀{t9:St}{H7:Hp},Inv X (pins++mZ fp s5.heap) t9 H7 s7->N t9 H7->∃m,m<n/\∃i cg H',Inv X pins cg H' s7/\tn i s7.heap/\(∀b∈fp,H' b=none)/\W i m cg H':=λ{t9 H7} I7 n7=>by
    obtain ⟨m',hm,w7⟩:=hN t9 H7 n7
    refine ⟨m',hm,i+1,t9,H7,I7.lG,T.keep _ _ _ wO λb hb o e=>(I7.pin (b,o) (List.mem_append_right _ (List.mem_append_right _ (i6 hb e)))).1,λb hb=>?_,w7⟩
    obtain ⟨o,e,d⟩:=T.obj _ _ wO b hb
    exact (I7.pin (b,o) (List.mem_append_right _ (List.mem_append_right _ (i6 hb e)))).2.1
   cases f with
   | next=>obtain ⟨t9,H7,I7,n7⟩:=q7; exact again I7 n7
   | cont=>obtain ⟨t9,H7,I7,n7⟩:=q7; exact again I7 n7
   | brk=>obtain ⟨t9,H7,I7,q7⟩:=q7; exact ⟨t9,H7,I7.lG,q7⟩
   | ret v=>obtain ⟨x7,t9,H7,I7,r7,q7⟩:=q7; exact ⟨x7,t9,H7,I7.lG,r7,q7⟩
end
theorem BQ {K:W.Frag}{a:Addr}{xs:List V}{g:TG}{tb:TS}{D:Ends}{σ:St}{H:Hp}(Pv:Nat->St->Hp->Prop) (h0:Pv 0 σ H) (hl:∀i σ H,i<=xs.length->Pv i σ H->ay K H a xs)
 (hs:∀i x σ H,xs[i]?=some x->Pv i σ H->g x σ H λgb H2=>tb { D with nx:=Pv (i+1),ct:=Pv (i+1),bk:=D.nx } gb H2) (hd:∀σ H,Pv xs.length σ H->D.nx σ H) :
 ∃W:Nat->Nat->St->Hp->Prop,(∃m,W 0 m σ H)/\∀i m σ H,W i m σ H->
  ((t7 K a).stop i H/\D.nx σ H)\/((t7 K a).go i H/\∃N:St->Hp->Prop,(∀cg H',N cg H'->∃m',m'<m/\W (i+1) m' cg H')/\∀x H',(t7 K a).yld i H x H'->g x σ H' λgb H2=>tb { D with nx:=N,ct:=N,bk:=D.nx } gb H2):=by
 refine ⟨λi m σ H=>m=xs.length-i/\i<=xs.length/\Pv i σ H,⟨xs.length,by simp,Nat.zero_le _,h0⟩,?_⟩
 rintro i m σ H ⟨rfl,hi,p⟩
 have q:=hl i σ H hi p
 by_cases dv:i<xs.length
 . refine .inr ⟨⟨xs,xs[i],q,by simp [dv]⟩,Pv (i+1),λcg H' p'=>⟨xs.length-(i+1),by omega,rfl,dv,p'⟩,λx H' y=>?_⟩
   obtain ⟨e,y⟩:=y
   subst e
   exact hs i x σ _ (y xs q) p
 . have e:i=xs.length:=by omega
   subst e
   exact .inl ⟨⟨xs,q,Nat.le_refl _⟩,hd σ H p⟩
theorem eL {lo:Int}{n:Nat}{g:TG}{tb:TS}{D:Ends}{σ:St}{H:Hp}(Pv:Nat->St->Hp->Prop) (h0:Pv 0 σ H)
 (hs:∀i σ H,i<n->Pv i σ H->g (.int (lo+i)) σ H λgb H2=>tb { D with nx:=Pv (i+1),ct:=Pv (i+1),bk:=D.nx } gb H2) (hd:∀σ H,Pv n σ H->D.nx σ H) :
 ∃W:Nat->Nat->St->Hp->Prop,(∃m,W 0 m σ H)/\∀i m σ H,W i m σ H->
  ((t8 lo n).stop i H/\D.nx σ H)\/((t8 lo n).go i H/\∃N:St->Hp->Prop,(∀cg H',N cg H'->∃m',m'<m/\W (i+1) m' cg H')/\∀x H',(t8 lo n).yld i H x H'->g x σ H' λgb H2=>tb { D with nx:=N,ct:=N,bk:=D.nx } gb H2):=by
 refine ⟨λi m σ H=>m=n-i/\i<=n/\Pv i σ H,⟨n,by simp,Nat.zero_le _,h0⟩,?_⟩
 rintro i m σ H ⟨rfl,hi,p⟩
 by_cases dv:i<n
 . refine .inr ⟨dv,Pv (i+1),λcg H' p'=>⟨n-(i+1),by omega,rfl,dv,p'⟩,λx H' y=>?_⟩
   obtain ⟨e,y⟩:=y
   subst e y
   exact hs i σ _ dv p
 . have e:i=n:=by omega
   subst e
   exact .inl ⟨Nat.le_refl _,hd σ H p⟩
end L2
namespace L2
open PySem PySem.Spec PyProof.Rows
abbrev R2:=V->V->Hp->VK->Prop
def di (X:Cx) (f:Value->Value->Sem Value) (r:R2):Prop:=
 ∀(pins:List (Addr×Obj)) (s:Shared) (σ:St) (H:Hp) (x y:V) (v u:Value) (Q:VK),Inv X pins σ H s->RelV x v->RelV y u->r x y H Q->
  wpAny (model X.prog X.w) X.A (f v u) (EP X pins σ Q) X.xe s
def eD (X:Cx) (f:Value) (r:List V->Hp->VK->Prop):Prop:=
 ∀(pins:List (Addr×Obj)) (s:Shared) (σ:St) (H:Hp) (xs:List V) (us:List Value) (Q:VK),Inv X pins σ H s->Vals xs us->r xs H Q->
  wpAny (model X.prog X.w) X.A (call f us) (EP X pins σ Q) X.xe s
def rX (r:R2) (ta tb:TE):TE:=λσ H Q=>ta σ H λx H1=>tb σ H1 λy H2=>r x y H2 Q
def rI (C:Int->Int->Prop) (g:Int->Int->V):R2:=λx y H Q=>∃i j,x=.int i/\y=.int j/\C i j/\Q (g i j) H
def pV (g:Int->Int->V):R2:=λx y H Q=>∃i j,x=.int i/\y=.int j/\Q (g i j) H
section
variable {X:Cx}{a b c:Expr}{ta tb tc:TE}{pos:Pos}
theorem BR (ha:PE X a ta) (hb:PE X b tb){pins:List (Addr×Obj)}{s:Shared}{σ:St}{H:Hp}{R:V->V->Hp->Prop}(I:Inv X pins σ H s)
 (h:ta σ H λx H1=>tb σ H1 λy H2=>R x y H2){Q:Value->Shared->Prop}{f:Value->Value->Sem Value}
 (hf:∀v u s2 x y H2,Inv X pins σ H2 s2->RelV x v->RelV y u->R x y H2->wpAny (model X.prog X.w) X.A (f v u) Q X.xe s2) :
 wpAny (model X.prog X.w) X.A (eval a X.env) (λv cE=>wpAny (model X.prog X.w) X.A (eval b X.env) (λu qZ=>wpAny (model X.prog X.w) X.A (f v u) Q X.xe qZ) X.xe cE) X.xe s:=by
 refine aH (ha pins s σ H _ I h) λv s1 ⟨x,H1,I1,r1,q1⟩=>?_
 refine aH (hb pins s1 σ H1 _ I1 q1) λu s2 ⟨y,H2,I2,r2,q2⟩=>?_
 exact hf v u s2 x y H2 I2 r1 r2 q2
theorem aD {op:Operator}{r:R2}(ho:di X (binaryOp op) r) (ha:PE X a ta) (hb:PE X b tb):PE X (.BinOp a op b pos) (rX r ta tb):=by
 intro pins s σ H Q I h
 exact wpAny_BinOp (BR ha hb I h λv u s2 x y H2 I2 rx ry q=>ho pins s2 σ H2 x y v u Q I2 rx ry q)
theorem wQ {f:Value->Value->Sem Value}{C:Int->Int->Prop}{g:Int->Int->Int}
 (rule:∀(i j:Int) (t u:Tok) (s:Shared) (Q:Value->Shared->Prop) (E:Value->Shared->Prop),C i j->Q (.int (g i j) s.toks) { s with toks:=s.toks+1 } -> wpAny (model X.prog X.w) X.A (f (.int i t) (.int j u)) Q E s) :
 di X f (rI C λi j=>.int (g i j)):=by
 intro pins s σ H x y v u Q I rx ry h
 obtain ⟨i,j,rfl,rfl,hc,q⟩:=h
 obtain ⟨t,rfl⟩:=rx
 obtain ⟨t',rfl⟩:=ry
 exact rule i j t t' s _ _ hc ⟨.int (g i j),H,I.tok _,⟨_,rfl⟩,q⟩
theorem x9 {f:Value->Value->Sem Value}{g:Int->Int->Int}
 (rule:∀(i j:Int) (t u:Tok) (s:Shared) (Q:Value->Shared->Prop) (E:Value->Shared->Prop),Q (.int (g i j) s.toks) { s with toks:=s.toks+1 } -> wpAny (model X.prog X.w) X.A (f (.int i t) (.int j u)) Q E s) :
 di X f (pV λi j=>.int (g i j)):=by
 intro pins s σ H x y v u Q I rx ry h
 obtain ⟨i,j,rfl,rfl,q⟩:=h
 obtain ⟨t,rfl⟩:=rx
 obtain ⟨t',rfl⟩:=ry
 exact rule i j t t' s _ _ ⟨.int (g i j),H,I.tok _,⟨_,rfl⟩,q⟩
theorem F5 {f:Value->Value->Sem Value}{g:Int->Int->Bool}
 (rule:∀(i j:Int) (t u:Tok) (s:Shared) (Q:Value->Shared->Prop) (E:Value->Shared->Prop),Q (.bool (g i j)) s->wpAny (model X.prog X.w) X.A (f (.int i t) (.int j u)) Q E s) :
 di X f (pV λi j=>.bl (g i j)):=by
 intro pins s σ H x y v u Q I rx ry h
 obtain ⟨i,j,rfl,rfl,q⟩:=h
 obtain ⟨t,rfl⟩:=rx
 obtain ⟨t',rfl⟩:=ry
 exact rule i j t t' s _ _ ⟨.bl (g i j),H,I,rfl,q⟩
def Ou (i j:Int):Prop:=0<j/\j<1073741824
def Ga (i j:Int):Prop:=0<=j/\j<=1000000/\i.natAbs<2 ^ 64
def BS (i j:Int):Prop:=(-(2 ^ 64)<i/\i<2 ^ 64)\/(-(2 ^ 64)<j/\j<2 ^ 64)
theorem BS.ok {i j:Int}(h:BS i j):IntMulOk i j:=by
 rcases h with ⟨h1,h2⟩ | ⟨h1,h2⟩
 . exact .of_left (intBits_le_64 h1 h2)
 . exact .of_right (intBits_le_64 h1 h2)
theorem ya (k:Nat):(0:Int)<=2 ^ k:=by
 rw [two_pow_cast]
 exact Int.natCast_nonneg _
theorem dw:di X (binaryOp .Add) (pV λi j=>.int (i+j)):=x9 λ_ _ _ _ _ _ _ q=>add_int q
theorem zC:di X (binaryOp .Sub) (pV λi j=>.int (i-j)):=x9 λ_ _ _ _ _ _ _ q=>sub_int q
theorem eM:di X (binaryOp .Mult) (rI BS λi j=>.int (i*j)):=wQ λ_ _ _ _ _ _ _ hc q=>mul_int q hc.ok
theorem kr:di X (binaryOp .FloorDiv) (rI Ou λi j=>.int (i / j)):=wQ λi j _ _ _ _ _ hc q=>by
 have h1:(0:Int)<j:=hc.1
 have h2:j<1073741824:=hc.2
 exact floordiv_int (by omega) (by rw [Int.fdiv_eq_ediv_of_nonneg i (by omega)]; exact q) (.inl (PyProof.noPylong_small (by omega)))
theorem gF:di X (binaryOp .Mod) (rI (λ_ j=>0<j) λi j=>.int (i % j)):=wQ λi j _ _ _ _ _ hc q=>by
 have h1:(0:Int)<j:=hc
 exact mod_int' (by omega) (by rw [Int.fmod_eq_emod_of_nonneg i (by omega)]; exact q)
theorem Gb:di X (binaryOp .Pow) (rI Ga λi j=>.int (i ^ j.toNat)):=wQ λ_ _ _ _ _ _ _ hc q=>pow_int_small hc.1 hc.2.1 hc.2.2 q
theorem ua:di X (binaryOp .LShift) (rI Ga λi j=>.int (i*2 ^ j.toNat)):=wQ λ_ _ _ _ _ _ _ hc q=>lshift_int_small hc.1 hc.2.1 hc.2.2 q
theorem ku:di X (binaryOp .RShift) (rI (λ_ j=>0<=j) λi j=>.int (i / 2 ^ j.toNat)):=wQ λi j _ _ _ _ _ hc q=>
 rshift_int hc (by rw [Int.fdiv_eq_ediv_of_nonneg i (ya _)]; exact q)
theorem nc:di X (binaryOp .BitAnd) (pV λi j=>.int (Builtin.bitAnd i j)):=x9 λ_ _ _ _ _ _ _ q=>and_int q
theorem Gd:di X (binaryOp .BitXor) (pV λi j=>.int (Builtin.bitXor i j)):=x9 λ_ _ _ _ _ _ _ q=>xor_int q
end
def Ge:V->V->Bool
 | .aX,.aX=>true | .aX,.int _=>true | .int _,.aX=>true | .aX,.bl _=>true | .bl _,.aX=>true | .aX,.str _=>true | .str _,.aX=>true
 | .int _,.int _=>true | .bl _,.bl _=>true | .str _,.str _=>true | .kg _,.kg _=>true
 | .int _,.str _=>true | .str _,.int _=>true | .bl _,.str _=>true | .str _,.bl _=>true
 | _,_=>false
def RB:R2:=λx y H Q=>Ge x y=true/\Q (.bl (decide (x=y))) H
def RC:R2:=λx y H Q=>Ge x y=true/\Q (.bl (!decide (x=y))) H
theorem wR {i j:Int} : decide (V.int i=V.int j)=(i == j):=by
 rw [Bool.eq_iff_iff]
 simp
theorem zD {i j:Bool} : decide (V.bl i=V.bl j)=(i == j):=by
 rw [Bool.eq_iff_iff]
 simp
theorem wU {i j:Str} : decide (V.str i=V.str j)=(i == j):=by
 rw [Bool.eq_iff_iff]
 simp
theorem wV {i j:Array UInt8} : decide (V.kg i=V.kg j)=(i.toList == j.toList):=by
 rw [Bool.eq_iff_iff]
 cases i
 cases j
 simp
section
variable {X:Cx}{a b c:Expr}{ta tb tc:TE}{pos:Pos}
theorem bo {pins:List (Addr×Obj)}{σ:St}{H:Hp}{s:Shared}{Q:VK}{k k':Bool}(I:Inv X pins σ H s) (q:Q (.bl k) H) (e:k=k'):EP X pins σ Q (.bool k') s:=by
 subst e
 exact ⟨.bl k,H,I,rfl,q⟩
theorem dX:di X (compareOp .Eq) RB:=by
 intro pins s σ H x y v u Q I rx ry h
 obtain ⟨hs,q⟩:=h
 cases x with
 | aX=>
  cases rx
  cases y with
  | aX=>cases ry; exact PySem.EqNone.eq_none_none (bo I q (by simp))
  | bl j=>cases ry; exact PySem.EqNone.eq_none_bool (bo I q (by simp))
  | int j=>obtain ⟨t',rfl⟩:=ry; exact PySem.EqNone.eq_none_int (bo I q (by simp))
  | str j=>obtain ⟨t',rfl⟩:=ry; exact PySem.EqNone.eq_none_str (bo I q (by simp))
  | _=>exact absurd (show false=true from hs) Bool.false_ne_true
 | bl i=>
  cases rx
  cases y with
  | aX=>cases ry; exact PySem.EqNone.eq_bool_none (bo I q (by simp))
  | bl j=>cases ry; exact eq_bool (bo I q zD)
  | str j=>obtain ⟨t',rfl⟩:=ry; exact PySem.EqMixed.eq_bool_str (bo I q (by simp))
  | _=>exact absurd (show false=true from hs) Bool.false_ne_true
 | int i=>
  obtain ⟨t,rfl⟩:=rx
  cases y with
  | aX=>cases ry; exact PySem.EqNone.eq_int_none (bo I q (by simp))
  | int j=>obtain ⟨t',rfl⟩:=ry; exact eq_int (bo I q wR)
  | str j=>obtain ⟨t',rfl⟩:=ry; exact PySem.EqMixed.eq_int_str (bo I q (by simp))
  | _=>exact absurd (show false=true from hs) Bool.false_ne_true
 | str i=>
  obtain ⟨t,rfl⟩:=rx
  cases y with
  | aX=>cases ry; exact PySem.EqNone.eq_str_none (bo I q (by simp))
  | bl j=>cases ry; exact PySem.EqMixed.eq_str_bool (bo I q (by simp))
  | int j=>obtain ⟨t',rfl⟩:=ry; exact PySem.EqMixed.eq_str_int (bo I q (by simp))
  | str j=>obtain ⟨t',rfl⟩:=ry; exact eq_str (bo I q wU)
  | _=>exact absurd (show false=true from hs) Bool.false_ne_true
 | kg i=>
  obtain ⟨t,rfl⟩:=rx
  cases y with
  | kg j=>obtain ⟨t',rfl⟩:=ry; exact W.eq_bytes (bo I q wV)
  | _=>exact absurd (show false=true from hs) Bool.false_ne_true
 | _=>cases y <;> exact absurd (show false=true from hs) Bool.false_ne_true
theorem Dg:di X (compareOp .NotEq) RC:=by
 intro pins s σ H x y v u Q I rx ry h
 obtain ⟨hs,q⟩:=h
 cases x with
 | aX=>
  cases rx
  cases y with
  | aX=>cases ry; exact PySem.EqNone.ne_none_none (bo I q (by simp))
  | bl j=>cases ry; exact PySem.EqNone.ne_none_bool (bo I q (by simp))
  | int j=>obtain ⟨t',rfl⟩:=ry; exact PySem.EqNone.ne_none_int (bo I q (by simp))
  | str j=>obtain ⟨t',rfl⟩:=ry; exact PySem.EqNone.ne_none_str (bo I q (by simp))
  | _=>exact absurd (show false=true from hs) Bool.false_ne_true
 | bl i=>
  cases rx
  cases y with
  | aX=>cases ry; exact PySem.EqNone.ne_bool_none (bo I q (by simp))
  | bl j=>cases ry; exact ne_bool (bo I q (congrArg not zD))
  | str j=>obtain ⟨t',rfl⟩:=ry; exact PySem.EqMixed.ne_bool_str (bo I q (by simp))
  | _=>exact absurd (show false=true from hs) Bool.false_ne_true
 | int i=>
  obtain ⟨t,rfl⟩:=rx
  cases y with
  | aX=>cases ry; exact PySem.EqNone.ne_int_none (bo I q (by simp))
  | int j=>obtain ⟨t',rfl⟩:=ry; exact ne_int (bo I q (congrArg not wR))
  | str j=>obtain ⟨t',rfl⟩:=ry; exact PySem.EqMixed.ne_int_str (bo I q (by simp))
  | _=>exact absurd (show false=true from hs) Bool.false_ne_true
 | str i=>
  obtain ⟨t,rfl⟩:=rx
  cases y with
  | aX=>cases ry; exact PySem.EqNone.ne_str_none (bo I q (by simp))
  | bl j=>cases ry; exact PySem.EqMixed.ne_str_bool (bo I q (by simp))
  | int j=>obtain ⟨t',rfl⟩:=ry; exact PySem.EqMixed.ne_str_int (bo I q (by simp))
  | str j=>obtain ⟨t',rfl⟩:=ry; exact ne_str (bo I q (congrArg not wU))
  | _=>exact absurd (show false=true from hs) Bool.false_ne_true
 | kg i=>
  obtain ⟨t,rfl⟩:=rx
  cases y with
  | kg j=>obtain ⟨t',rfl⟩:=ry; exact W.ne_bytes (bo I q (congrArg not wV))
  | _=>exact absurd (show false=true from hs) Bool.false_ne_true
 | _=>cases y <;> exact absurd (show false=true from hs) Bool.false_ne_true
theorem lH:di X (compareOp .Lt) (pV λi j=>.bl (decide (i<j))):=F5 λ_ _ _ _ _ _ _ q=>lt_int q
theorem J2:di X (compareOp .Gt) (pV λi j=>.bl (decide (j<i))):=F5 λ_ _ _ _ _ _ _ q=>gt_int q
theorem br (b:Expr){op:CmpOp}(h:op≠.In:=by decide) (h2:op≠.NotIn:=by decide):behindInMarks op b=false:=by
 have e1:(op == CmpOp.In)=false:=by cases op <;> first | rfl | exact absurd rfl h
 have e2:(op == CmpOp.NotIn)=false:=by cases op <;> first | rfl | exact absurd rfl h2
 cases b <;> simp [behindInMarks,e1,e2]
theorem rg {op:CmpOp}{r:R2}(ho:di X (compareOp op) r) (ha:PE X a ta) (hb:PE X b tb) (hm:behindInMarks op b=false):PE X (.Compare a [op] [b] pos) (rX r ta tb):=by
 intro pins s σ H Q I h
 exact wpAny_Compare1 (BR ha hb I h λv u s2 x y H2 I2 rx ry q=>ho pins s2 σ H2 x y v u Q I2 rx ry q) hm
def J4 (t:TE):TT:=λσ H Q=>t σ H λx H'=>∃k,x=.bl k/\Q k H'
theorem bj {op:CmpOp}{r:R2}(ho:di X (compareOp op) r) (ha:PE X a ta) (hb:PE X b tb) (hm:behindInMarks op b=false):PT X (.Compare a [op] [b] pos) (J4 (rX r ta tb)):=by
 intro pins s σ H Q I h
 refine wpAny_isTrue_Compare1 (aH (ha pins s σ H _ I h) λv s1 ⟨x,H1,I1,r1,q1⟩=>aH (hb pins s1 σ H1 _ I1 q1) λu s2 ⟨y,H2,I2,r2,q2⟩=>
  aH (ho pins s2 σ H2 x y v u _ I2 r1 r2 q2) λc s3 ⟨z,H3,I3,r3,k,e,q3⟩=>?_) hm
 subst e
 cases r3
 exact wpAny_truthy_bool ⟨H3,I3,q3⟩
theorem nh:(sizeLine:Nat)<2 ^ 63:=by rw [sizeLine_eq]; decide
theorem dY:di X (binaryOp .Add) (λx y H Q=>∃i j,x=.str i/\y=.str j/\i.length+j.length<=sizeLine/\Q (.str (i++j)) H):=by
 intro pins s σ H x y v u Q I rx ry h
 obtain ⟨i,j,rfl,rfl,hz,q⟩:=h
 obtain ⟨t,rfl⟩:=rx
 obtain ⟨t',rfl⟩:=ry
 exact add_str (λt' tk=>⟨.str (i++j),H,I.tok _,⟨_,rfl⟩,q⟩) hz
theorem vals1 {x:V}{us:List Value}(r:Vals [x] us):∃u,us=[u]/\RelV x u:=by
 cases r with
 | cons r1 r2=>cases r2; exact ⟨_,rfl,r1⟩
theorem vals2 {x y:V}{us:List Value}(r:Vals [x,y] us):∃u w',us=[u,w']/\RelV x u/\RelV y w':=by
 cases r with
 | cons r1 r2=>
  cases r2 with
  | cons r3 r4=>cases r4; exact ⟨_,_,rfl,r1,r3⟩
theorem zE (hc:X.calm=true):eD X (.builtin "max") (λxs H Q=>∃i j,xs=[.int i,.int j]/\Q (.int (if j>i then j else i)) H):=by
 intro pins s σ H xs us Q I r h
 obtain ⟨i,j,rfl,q⟩:=h
 obtain ⟨u,w',rfl,⟨t,rfl⟩,⟨t',rfl⟩⟩:=vals2 r
 refine max_two_ints (I.ok.hd hc) λh' tk k=>⟨_,H,I.kept k,?_,q⟩
 by_cases hj:j>i
 . rw [if_pos hj,if_pos hj]; exact ⟨_,rfl⟩
 . rw [if_neg hj,if_neg hj]; exact ⟨_,rfl⟩
theorem zF (hc:X.calm=true):eD X (.builtin "min") (λxs H Q=>∃i j,xs=[.int i,.int j]/\Q (.int (if j<i then j else i)) H):=by
 intro pins s σ H xs us Q I r h
 obtain ⟨i,j,rfl,q⟩:=h
 obtain ⟨u,w',rfl,⟨t,rfl⟩,⟨t',rfl⟩⟩:=vals2 r
 refine min_two_ints (I.ok.hd hc) λh' tk k=>⟨_,H,I.kept k,?_,q⟩
 by_cases hj:j<i
 . rw [if_pos hj,if_pos hj]; exact ⟨_,rfl⟩
 . rw [if_neg hj,if_neg hj]; exact ⟨_,rfl⟩
theorem zG:eD X (.type "int") (λxs H Q=>(∃i,xs=[.int i]/\Q (.int i) H)\/∃k,xs=[.bl k]/\Q (.int (if k then 1 else 0)) H):=by
 intro pins s σ H xs us Q I r h
 rcases h with ⟨i,rfl,q⟩ | ⟨k,rfl,q⟩
 . obtain ⟨u,rfl,t,rfl⟩:=vals1 r
   exact call_int_int ⟨.int i,H,I,⟨_,rfl⟩,q⟩
 . obtain ⟨u,rfl,r1⟩:=vals1 r
   cases r1
   exact call_int_bool ⟨.int (if k then 1 else 0),H,I.tok _,⟨_,rfl⟩,q⟩
end
end L2
namespace L2
open PySem PySem.Spec PyProof.Rows
structure o7 (h:Heap) (x dx C:Addr) (mA:Str->Option Value):Prop where
 obj:h.get? x=some (W.instObj C dx)
 ns:h.Ns1 dx mA
 ne:dx≠x
theorem zH {h:Heap}{dx:Addr}{mA:Str->Option Value}(n:h.Ns1 dx mA):∃od,h.get? dx=some od/\∀name,W.lookIn name od=some (mA name):=by
 obtain ⟨o,es,ep,ho,hd,hk,_,hm⟩:=n
 refine ⟨o,ho,λname=>?_⟩
 have e:=hm name
 unfold nsFind findBy at e
 rw [← Array.find?_toList] at e
 unfold W.lookIn
 rw [hd]
 dsimp only
 split
 . rename_i y q
   rw [q] at e
   exact congrArg some e
 . rename_i q
   rw [q] at e
   have a:es.toList.any (·.refKey)=false:=by
    rw [List.any_eq_false]
    intro y hy
    obtain ⟨z,t,fk⟩:=hk y (Array.mem_toList_iff.mp hy)
    simp [DictEntry.refKey,fk]
   have a':¬ es.toList.any (·.refKey)=true:=by rw [a]; exact Bool.false_ne_true
   rw [if_neg a']
   exact congrArg some e
theorem o7.look {h:Heap}{x dx C:Addr}{mA:Str->Option Value}(I:o7 h x dx C mA):∃od,W.InstAt h x (W.instObj C dx) C (some od)/\∀name,W.lookIn name od=some (mA name):=
 let ⟨od,ho,hl⟩:=zH I.ns
 ⟨od,⟨I.obj,rfl,rfl,ho⟩,hl⟩
section
variable {prog:Program}{w:World}{A:Around}{E:Value->Shared->Prop}{s:Shared}{K:W.Frag}{x dx C f:Addr}{mA:Str->Option Value}{name:Str}{v:Value}
theorem get_map {expr:Bool}{Q:Value->Shared->Prop}(X:K.In s.heap) (I:o7 s.heap x dx C mA) (hg:W.plainGet K C name=true) (hh:W.hasDictIn K C=true)
 (ha:W.findIn K (.ref C) name=some none) (hv:mA name=some v) (zI:W.handedIn v=true) (h:Q v { s with toks:=s.toks+1 }) :
 wpAny (model prog w) A (getAttr (.ref x) name expr) Q E s:=by
 obtain ⟨od,J,hl⟩:=I.look
 exact W.get_value X J (W.plainGet_of hg).1 (W.findObj_own hh ha rfl (by rw [hl,hv])) zI h
theorem BU {pl:Sem Bool}{Q:Value×List Value->Shared->Prop}(X:K.In s.heap) (I:o7 s.heap x dx C mA) (hg:W.plainGet K C name=true)
 (hf:W.findIn K (.ref C) name=some (some (.ref f))) (ht:W.isFn K (.ref f)=true) (hv:mA name=none) (h:Q (.ref f,[.ref x]) s) :
 wpAny (model prog w) A (getMethod (.ref x) name pl) Q E s:=by
 obtain ⟨od,J,hl⟩:=I.look
 exact W.method_fn X J (W.plainGet_of hg).1 (W.plainGet_of hg).2 hf (beq_iff_eq.mp ht) (by show (W.lookIn name od).map (·.isSome)=some false; rw [hl,hv]; rfl) h
theorem EG {ns:List Str}{Q:Unit->Shared->Prop}(X:K.In s.heap) (I:o7 s.heap x dx C mA)
 (hs:W.findIn K (.ref C) "__setattr__" = some (some (.builtin "object.__setattr__"))) (hp:W.plainOver K C=true) (ht:W.takerIn K C name=some none) (hh:W.hasDictIn K C=true)
 (hw:PySem.Within mA ns) (hsz:ns.length<=sizeLine)
 (h:∀h',o7 h' x dx C (λy=>if y=name then some v else mA y)->Heap.SameBut dx s.heap h'->Q () { s with heap:=h',toks:=s.toks+2 }) :
 wpAny (model prog w) A (setAttr (.ref x) name v) Q E s:=by
 obtain ⟨od,J,hl⟩:=I.look
 refine W.set_plain X J hs (W.osa_open (s:={ s with toks:=s.toks+1 }) (r:=none) X J hp ht λb=>?_)
 obtain ⟨cd,hc,hd'⟩:=W.any_some hh
 have hx:s.heap.get? x=some ⟨.ref C,some dx,.plain,#[]⟩:=I.obj
 refine wpAny_bind (wpAny_pure (wpAny_bind (wpAny_bind (wpAny_loadPart hx (wpAny_bind (W.Looks.here (s:={ s with toks:=s.toks+1 }) (W.looks_clsIn X hc) ?_))))))
 rw [hd']
 refine wpAny_pure (a:=some dx) (wpAny_bind (wpAny_pure (wpAny_bind ?_)))
 refine wpAny_nsSet1 (s:={ s with toks:=s.toks+1 }) I.ns λh' ml jM=>?_
 obtain ⟨oD,Wu,Wv,RD,RE,RF⟩:=ml.count (PySem.Within.cons name v hw)
 refine wpAny_bind (wpAny_lookBehind RD (by rw [RE]; exact pastItsLine_dict (Nat.le_trans RF (by rw [List.length_cons]; omega))) ?_)
 exact wpAny_pure (h _ ⟨(jM.2 _ (Ne.symm I.ne)).trans I.obj,ml,I.ne⟩ jM)
theorem BV {R:Result->Shared->Prop}{vs:List Value}{kw:List (Str×Value)}(X:K.In s.heap) (hm:W.makesIn K C=true)
 (hi:W.findIn K (.ref C) "__init__" = some (some (.ref f))) (hf:W.typeIn K (.ref f)=some (.type "function"))
 (h:codeAny (model prog w) (A.under (.builtin "type.__call__" ⟨.ref C::vs,kw⟩)) (.call (.ref f) ⟨.ref (s.heap.objs.size+1)::vs,kw⟩) (W.InitBack (s.heap.objs.size+1) R)
  { s with heap:=(s.heap.push W.emptyDict).push (W.instObj C s.heap.objs.size) }) :
 codeAny (model prog w) A (.call (.ref C) ⟨vs,kw⟩) R s:=by
 obtain ⟨hh,g,d,t,os⟩:=s
 exact W.make_core (W.makes_of X hm) (W.looks_findIn X hi) (λself=>W.bind_fn X self hf) (.inl rfl) h
end
def aA (f:Str) (v:V):List (Str×V)->List (Str×V)
 | []=>[(f,v)]
 | (g,x)::r=>if g=f then (g,v)::r else (g,x)::aA f v r
theorem aw (f g:Str) (v:V):∀fs:List (Str×V),(aA f v fs).lookup g=if g=f then some v else fs.lookup g
 | []=>by
  show List.lookup g [(f,v)]=_
  by_cases h:g=f
  . have hb:(g == f)=true:=beq_iff_eq.mpr h
    simp only [List.lookup,hb,if_pos h]
  . have hb:(g == f)=false:=beq_eq_false_iff_ne.mpr h
    simp only [List.lookup,hb,if_neg h]
 | (k,x)::r=>by
  have ih:=aw f g v r
  rw [show aA f v ((k,x)::r)=(if k=f then (k,v)::r else (k,x)::aA f v r) from rfl]
  by_cases hk:k=f
  . rw [if_pos hk]
    by_cases h:g=k
    . have hb:(g == k)=true:=beq_iff_eq.mpr h
      simp only [List.lookup,hb,if_pos (h.trans hk)]
    . have hb:(g == k)=false:=beq_eq_false_iff_ne.mpr h
      simp only [List.lookup,hb,if_neg (λe:g=f=>h (e.trans hk.symm))]
  . rw [if_neg hk]
    by_cases h:g=k
    . have hb:(g == k)=true:=beq_iff_eq.mpr h
      simp only [List.lookup,hb,if_neg (λe:g=f=>hk (h.symm.trans e))]
    . have hb:(g == k)=false:=beq_eq_false_iff_ne.mpr h
      simp only [List.lookup,hb]
      exact ih
theorem ni (f:Str) (v:V):∀fs:List (Str×V),f∈(aA f v fs).map (·.1)/\∀g,g∈fs.map (·.1)->g∈(aA f v fs).map (·.1)
 | []=>⟨by simp [aA],λg h=>by simp at h⟩
 | (k,x)::r=>by
  obtain ⟨i1,i2⟩:=ni f v r
  rw [show aA f v ((k,x)::r)=(if k=f then (k,v)::r else (k,x)::aA f v r) from rfl]
  by_cases hk:k=f
  . rw [if_pos hk]
    subst hk
    exact ⟨by simp,λg h=>by simpa using h⟩
  . rw [if_neg hk]
    refine ⟨?_,λg h=>?_⟩
    . rw [List.map_cons]
      exact List.mem_cons_of_mem _ i1
    . rw [List.map_cons] at h ⊢
      rcases List.mem_cons.mp h with e | e
      . exact List.mem_cons.mpr (.inl e)
      . exact List.mem_cons_of_mem _ (i2 g e)
theorem j0 (f:Str) (v:V):∀fs:List (Str×V),(aA f v fs).length<=fs.length+1
 | []=>by simp [aA]
 | (k,x)::r=>by
  have ih:=j0 f v r
  rw [show aA f v ((k,x)::r)=(if k=f then (k,v)::r else (k,x)::aA f v r) from rfl]
  by_cases hk:k=f
  . rw [if_pos hk,List.length_cons,List.length_cons]; omega
  . rw [if_neg hk,List.length_cons,List.length_cons]; omega
theorem dQ.some_of {v:V}{o:Option Value}(r:dQ (some v) o):∃u,o=some u/\RelV v u:=by
 cases o with
 | none=>exact (show False from r).elim
 | some u=>exact ⟨u,rfl,r⟩
theorem dQ.none_of {o:Option Value}(r:dQ none o):o=none:=by
 cases o with
 | none=>rfl
 | some u=>exact (show False from r).elim
theorem zJ {v:V}{u:Value}(r:RelV v u):W.handedIn u=true:=by
 cases v with
 | aX=>cases (show u=Value.none from r); rfl
 | bl b=>cases (show u=Value.bool b from r); rfl
 | int i=>obtain ⟨t,e⟩:=(show ∃t,u=Value.int i t from r); cases e; rfl
 | str x=>obtain ⟨t,e⟩:=(show ∃t,u=Value.str x t from r); cases e; rfl
 | kg b=>obtain ⟨t,e⟩:=(show ∃t,u=Value.bytes b t from r); cases e; rfl
 | rV b=>obtain ⟨t,e⟩:=(show ∃t,u=Value.float b t from r); cases e; rfl
 | ref a=>cases (show u=Value.ref a from r); rfl
 | ty n=>cases (show u=Value.type n from r); rfl
section
variable {P:Program}{w:World}{H H':Hp}{h h':Heap}{a C dx:Addr}{fs fs':List (Str×V)}
theorem nZ (hok:cY P w H h) (e:H a=some (.ins C dx fs)):∃mA,o7 h a dx C mA/\(∀f,dQ (fs.lookup f) (mA f))/\PySem.Within mA (fs.map (·.1))/\fs.length<=1000/\H dx=some (.own a):=by
 obtain ⟨d,z,ne,ob,mA,n,r,q⟩:=(show bg P w H h a (.ins C dx fs) from hok a _ e)
 exact ⟨mA,⟨ob,n,ne⟩,r,q,z,d⟩
end
structure nj (K:W.Frag) (C:Addr):Prop where
 pg:W.plainGet K C Str.empty=true
 hd:W.hasDictIn K C=true
 po:W.plainOver K C=true
 sa:W.findIn K (.ref C) "__setattr__" = some (some (.builtin "object.__setattr__"))
theorem nj.get {K:W.Frag}{C:Addr}(c:nj K C) (f:Str):W.plainGet K C f=true:=c.pg
def dz (K:W.Frag) (C:Addr) (f:Str):Prop:=W.findIn K (.ref C) f=some none
theorem dz.J5 {K:W.Frag}{C:Addr}{f:Str}(n:dz K C f):W.takerIn K C f=some none:=by
 unfold W.takerIn
 rw [show W.findIn K (.ref C) f=some none from n]
 rfl
structure Meth (K:W.Frag) (C:Addr) (m:Str) (f:Addr):Prop where
 at_:W.findIn K (.ref C) m=some (some (.ref f))
 fn:W.isFn K (.ref f)=true
 kp:W.keepIn K (.ref f)=true
section
variable {X:Cx}{pins:List (Addr×Obj)}{σ:St}{H:Hp}{s:Shared}{a C dx:Addr}{fs:List (Str×V)}{f:Str}{v:V}{A:Around}{E:Value->Shared->Prop}
theorem yb {b:Bool}{Q:Value->Shared->Prop}(I:Inv X pins σ H s) (e:H a=some (.ins C dx fs)) (c:nj X.K C) (n:dz X.K C f) (l:fs.lookup f=some v)
 (h:∀u s',Inv X pins σ H s'->RelV v u->Q u s'):wpAny (model X.prog X.w) A (getAttr (.ref a) f b) Q E s:=by
 obtain ⟨mA,O,r,_,_,_⟩:=nZ I.hok e
 obtain ⟨u,hu,ru⟩:=dQ.some_of (v:=v) (o:=mA f) (by rw [← l]; exact r f)
 exact get_map I.eC O (c.get f) c.hd n hu (zJ ru) (h u _ (I.tok _) ru)
theorem pW {m:Str}{g:Addr}{pl:Sem Bool}{Q:Value×List Value->Shared->Prop}(I:Inv X pins σ H s) (e:H a=some (.ins C dx fs)) (c:nj X.K C) (k:Meth X.K C m g) (l:fs.lookup m=none)
 (h:Q (.ref g,[.ref a]) s):wpAny (model X.prog X.w) A (getMethod (.ref a) m pl) Q E s:=by
 obtain ⟨mA,O,r,_,_,_⟩:=nZ I.hok e
 have hn:mA m=none:=dQ.none_of (by rw [← l]; exact r m)
 exact BU I.eC O (c.get m) k.at_ k.fn hn h
theorem yc {y:V}{u:Value}{Q:Unit->Shared->Prop}(I:Inv X pins σ H s) (e:H a=some (.ins C dx fs)) (c:nj X.K C) (n:dz X.K C f) (hl:fs.length<1000) (ry:RelV y u)
 (h:∀s',Inv X pins σ (upd H a (.ins C dx (aA f y fs))) s'->Q () s'):wpAny (model X.prog X.w) A (setAttr (.ref a) f u) Q E s:=by
 obtain ⟨mA,O,r,wi,_,ho⟩:=nZ I.hok e
 have hz:(fs.map (·.1)).length<=sizeLine:=by rw [List.length_map,sizeLine_eq]; omega
 refine EG I.eC O c.sa c.po n.J5 c.hd wi hz λh' O' sb=>h _ ?_
 have hd:∃o,h'.get? dx=some o:=let ⟨o,_,_,e',_⟩:=O'.ns; ⟨o,e'⟩
 refine I.write (x:=a) (e:=dx) (by rw [e]; exact True.intro) (.inr ho) (λb q hb z=>(sb.2 b hb).trans z) hd ?_
 refine ⟨by rw [ai O.ne]; exact ho,?_,O.ne,O'.obj,_,O'.ns,λg=>?_,λg hg=>?_⟩
 . have:=j0 f y fs; omega
 . show dQ ((aA f y fs).lookup g) (if g=f then some u else mA g)
   rw [aw]
   by_cases q:g=f
   . rw [if_pos q,if_pos q]; exact ry
   . rw [if_neg q,if_neg q]; exact r g
 . by_cases q:g=f
   . rw [q]; exact (ni f y fs).1
   . refine (ni f y fs).2 g (wi g λz=>hg ?_)
     show (if g=f then some u else mA g)=none
     rw [if_neg q]; exact z
theorem Inv.made (I:Inv X pins σ H s):Inv X pins σ (upd (upd H s.heap.objs.size (.own (s.heap.objs.size+1))) (s.heap.objs.size+1) (.ins C s.heap.objs.size []))
 { s with heap:=(s.heap.push W.emptyDict).push (W.instObj C s.heap.objs.size) }:=by
 have e1:(s.heap.push W.emptyDict).get? s.heap.objs.size=some W.emptyDict:=Heap.get?_push_size s.heap rfl
 have e2:((s.heap.push W.emptyDict).push (W.instObj C s.heap.objs.size)).get? (s.heap.objs.size+1)=some (W.instObj C s.heap.objs.size):=by
  have:=Heap.get?_push_size (s.heap.push W.emptyDict) (o:=W.instObj C s.heap.objs.size) rfl
  rwa [Heap.size_push] at this
 have e3:(s.heap.push W.emptyDict).Ns s.heap.objs.size (λ_=>none):=⟨W.emptyDict,#[],_,e1,rfl,(λe he=>absurd he (by simp)),λ_=>rfl⟩
 have I1:=I.laid (a:=s.heap.objs.size) (o:=.own (s.heap.objs.size+1)) (h':=s.heap.push W.emptyDict) (t':=s.toks) (λb u q=>Heap.get?_push_of_some _ q) (Nat.le_refl _) ⟨_,e1⟩
 refine I1.laid (a:=s.heap.objs.size+1) (o:=.ins C s.heap.objs.size []) (t':=s.toks) (λb u q=>Heap.get?_push_of_some _ q) (Nat.le_of_eq (Heap.size_push _ _)) ?_
 have ne:s.heap.objs.size≠s.heap.objs.size+1:=Nat.ne_of_lt (Nat.lt_succ_self _)
 refine ⟨by rw [ai ne,ae],Nat.zero_le _,ne,e2,λ_=>none,(Heap.Ns1.of_empty e3).at λo q=>Heap.get?_push_of_some _ q,λ_=>True.intro,λy hy=>absurd rfl hy⟩
theorem EH {prog:Program}{w:World}{env:Env}{e:Expr}{f:Str}{pos:Pos}{s:Shared}{Q:Value->Shared->Prop}(hb:attributeBase e f env (eval e env)=eval e env)
 (h:wpAny (model prog w) A (eval e env) (λo cE=>wpAny (model prog w) A (getAttr o f true) Q E cE) E s):wpAny (model prog w) A (eval (.Attribute e f pos) env) Q E s:=
 Attribute_any_ h (by rw [arm_eval_Attribute,hb])
end
def Ov (K:W.Frag) (ta:TE) (f:Str):TE:=λσ H Q=>ta σ H λx H1=>∃a C dx fs v,x=.ref a/\H1 a=some (.ins C dx fs)/\nj K C/\dz K C f/\fs.lookup f=some v/\Q v H1
def Ow (K:W.Frag) (ta tv:TE) (f:Str):TS:=λD σ H=>tv σ H λy H1=>ta σ H1 λx H2=>∃a C dx fs,x=.ref a/\H2 a=some (.ins C dx fs)/\nj K C/\dz K C f/\fs.length<1000/\
 D.nx σ (upd H2 a (.ins C dx (aA f y fs)))
section
variable {X:Cx}{o e value:Expr}{f:Str}{pos pos' Ox:Pos}{ta tv:TE}
theorem bX (he:PE X e ta) (hb:attributeBase e f X.env (eval e X.env)=eval e X.env):PE X (.Attribute e f pos) (Ov X.K ta f):=by
 intro pins s σ H Q I h
 refine EH hb (aH (he pins s σ H _ I h) λu s1 ⟨x,H1,I1,rx,a,C,dx,fs,v,ex,ea,c,n,l,q⟩=>?_)
 subst ex
 obtain rfl:u=Value.ref a:=rx
 exact yb I1 ea c n l λu' s2 I2 ru=>⟨v,H1,I2,ru,q⟩
theorem jk (ha:PE X o ta) (hv:PE X value tv) (hs:swapsWith value (some (.Attribute o f pos')) pos.line X.env=pure false):PS X (.Assign [.Attribute o f pos'] value pos) (Ow X.K ta tv f):=by
 intro pins s σ H D I h
 refine plainObj_wpAny_Assign_Attribute (aH (hv pins s σ H _ I h) λu s1 ⟨y,H1,I1,ry,q⟩=>aH (ha pins s1 σ H1 _ I1 q) λov s2 ⟨x,H2,I2,rx,a,C,dx,fs,ex,ea,c,n,l,q2⟩=>?_) hs
 subst ex
 obtain rfl:ov=Value.ref a:=rx
 exact yc I2 ea c n l ry λs3 I3=>⟨σ,_,I3,q2⟩
theorem JU {pl:Sem Bool}{m:Str}{apos:Pos}{args:List Expr}{pins:List (Addr×Obj)}{s:Shared}{σ:St}{H:Hp}{Q:Value->Shared->Prop}{te:TE}(he:PE X e te) (I:Inv X pins σ H s)
 (h:te σ H λx H1=>∃a C dx fs g,x=.ref a/\H1 a=some (.ins C dx fs)/\nj X.K C/\Meth X.K C m g/\fs.lookup m=none/\
  ∀s1,Inv X pins σ H1 s1->wpAny (model X.prog X.w) X.A (callWith pos (.ref g) [.ref a] (backTo pos (starEach args X.env)) (backToKw pos (keywordEach [] X.env))) Q X.xe s1)
 (ht:eval (.Call (.Attribute e m apos) args [] pos) X.env=(do
  let ov ← eval e X.env
  standAt apos.atName
  let (f,first) ← holding [ov] (getMethod ov m pl)
  callWith pos f first (backTo pos (starEach args X.env)) (backToKw pos (keywordEach [] X.env)))) :
 wpAny (model X.prog X.w) X.A (eval (.Call (.Attribute e m apos) args [] pos) X.env) Q X.xe s:=by
 refine W.methodCall_KW (pl:=pl) (aH (he pins s σ H _ I h) λu s1 ⟨x,H1,I1,rx,a,C,dx,fs,g,ex,ea,c,k,l,q⟩=>?_) ht
 subst ex
 obtain rfl:u=Value.ref a:=rx
 exact pW I1 ea c k l (q s1 I1)
end
section
variable {X:Cx}{pins:List (Addr×Obj)}{σ:St}{H:Hp}{s:Shared}{A:Around}{E:Value->Shared->Prop}{Q:Value->Shared->Prop}{c:Value}{b:Bool}
inductive ig (K:W.Frag) (H:Hp):V->Value->Prop where
 | aX:ig K H .aX (.type "NoneType")
 | bl (x:Bool):ig K H (.bl x) (.type "bool")
 | int (i:Int):ig K H (.int i) (.type "int")
 | str (x:Str):ig K H (.str x) (.type "str")
 | rV (x:UInt64):ig K H (.rV x) (.type "float")
 | lst {a:Addr}{xs:List V}(e:H a=some (.lst xs)):ig K H (.ref a) (.type "list")
 | cz {a:Addr}{o:Obj}{xs:List V}(e:H a=some (.cz o (.lst xs))):ig K H (.ref a) (.type "list")
 | tup {a:Addr}{xs:List V}(e:H a=some (.tup xs)):ig K H (.ref a) (.type "tuple")
 | dK {a:Addr}{kvs:List (Key×V)}(e:H a=some (.dK kvs)):ig K H (.ref a) (.type "dict")
 | dT {a:Addr}{kvs:List (List Key×V)}(e:H a=some (.dT kvs)):ig K H (.ref a) (.type "dict")
 | ins {a C dx:Addr}{fs:List (Str×V)}(e:H a=some (.ins C dx fs)) (cl:nj K C) (ha:W.findIn K (.ref C) "__class__" = some (some (.builtin "object.__class__")))
  (hn:W.specialIn K (.builtin "object.__class__") "__get__" = some (some (.builtin "getset_descriptor.__get__"))) (ky:W.takesIn K (.builtin "object.__class__")=some true)
  (hm:W.mroIn K C (.type "object")=some true):ig K H (.ref a) (.ref C)
theorem zK {x:V}{u t:Value}(I:Inv X pins σ H s) (rx:RelV x u) (ty:ig X.K H x t) (e:W.kitOne X.K t c=some b) (h:∀tk,Q (.bool b) { s with toks:=tk }) :
 wpAny (model X.prog X.w) A (call (.builtin "isinstance") [u,c]) Q E s:=by
 cases ty with
 | aX=>cases (show u=Value.none from rx); exact W.kia_one W.kitx_none I.eC True.intro e (λz=>nomatch z) h
 | bl y=>cases (show u=Value.bool y from rx); exact W.kia_one W.kitx_bool I.eC True.intro e (λz=>nomatch z) h
 | int i=>obtain ⟨t,q⟩:=(show ∃t,u=Value.int i t from rx); cases q; exact W.kia_one W.kitx_int I.eC True.intro e (λz=>nomatch z) h
 | str y=>obtain ⟨t,q⟩:=(show ∃t,u=Value.str y t from rx); cases q; exact W.kia_one W.kitx_str I.eC True.intro e (λz=>nomatch z) h
 | rV y=>obtain ⟨t,q⟩:=(show ∃t,u=Value.float y t from rx); cases q; exact W.kia_one W.kitx_float I.eC True.intro e (λz=>nomatch z) h
 | @lst a xs ea=>
  cases (show u=Value.ref a from rx)
  obtain ⟨_,_,n,_,h1⟩:=(show bg X.prog X.w H s.heap a (.lst xs) from I.hok a _ ea)
  exact W.kia_one W.kitx_list I.eC ⟨_,h1,rfl⟩ e (λz=>nomatch z) h
 | @cz a ob xs ea=>
  cases (show u=Value.ref a from rx)
  obtain ⟨_,_,_,n,_,h1⟩:=(show bg X.prog X.w H s.heap a (.cz ob (.lst xs)) from I.hok a _ ea)
  exact W.kia_one W.kitx_list I.eC ⟨_,h1,rfl⟩ e (λz=>nomatch z) h
 | @tup a xs ea=>
  cases (show u=Value.ref a from rx)
  obtain ⟨_,_,_,p⟩:=(show bg X.prog X.w H s.heap a (.tup xs) from I.hok a _ ea)
  obtain ⟨o,h1,h2,_⟩:=p
  exact W.kia_one W.kitx_tuple I.eC ⟨o,h1,h2⟩ e (λz=>nomatch z) h
 | @dK a kvs ea=>
  cases (show u=Value.ref a from rx)
  obtain ⟨_,_,vs,_,p⟩:=(show bg X.prog X.w H s.heap a (.dK kvs) from I.hok a _ ea)
  obtain ⟨o,es,ep,h1,h2,_⟩:=p
  exact W.kia_one W.kitx_dict I.eC ⟨o,h1,h2.1⟩ e (λz=>nomatch z) h
 | @dT a kvs ea=>
  cases (show u=Value.ref a from rx)
  obtain ⟨_,_,xs,_,o,es,ep,h1,h2,_⟩:=(show bg X.prog X.w H s.heap a (.dT kvs) from I.hok a _ ea)
  exact W.kia_one W.kitx_dict I.eC ⟨o,h1,h2.1⟩ e (λz=>nomatch z) h
 | @ins a C dx fs ea cl ha hn ky hm=>
  cases (show u=Value.ref a from rx)
  obtain ⟨mA,O,_⟩:=nZ I.hok ea
  obtain ⟨od,J,_⟩:=O.look
  exact W.kia_one (W.kitx_own (cl.get _) cl.hd ha hn ky hm) I.eC J e (λz=>nomatch z) h
end
end L2
namespace L2
open PySem PySem.Spec PyProof.Rows
structure bw (k:Nat) (A:Around):Prop where
 hd:A.handled=none
 dp:A.depth+3*k+5<recursionLimit
 un:A.units+16*k+200<cLine
theorem bw.mono {j k:Nat}{A:Around}(r:bw k A) (h:j<=k):bw j A:=⟨r.hd,by have:=r.dp; omega,by have:=r.un; omega⟩
theorem bw.deeper {k:Nat}{A:Around}(r:bw (k+1) A) (env:Env):bw k (A.deeper env):=
 ⟨r.hd,by have:=r.dp; show A.depth+1+3*k+5<_; omega,by have:=r.un; show A.units+3+16*k+200<_; omega⟩
theorem bw.in1 {k:Nat}{A:Around}(r:bw (k+1) A):bw k A.in1:=
 ⟨r.hd,by have:=r.dp; show A.depth+3*k+5<_; omega,by have:=r.un; show A.units+1+16*k+200<_; omega⟩
theorem yd {A:Around}{C:Addr}{us:List Value}{kw:List (Str×Value)} : (A.under (.builtin "type.__call__" ⟨.ref C::us,kw⟩)).depth=A.depth+1:=by
 first | rfl | simp [Around.under,Code.weight,Code.isCreation,Code.isGuard,Code.isCaller,Code.frames,Code.isFrame,guardIds]
theorem ye {A:Around}{C:Addr}{us:List Value}{kw:List (Str×Value)} : (A.under (.builtin "type.__call__" ⟨.ref C::us,kw⟩)).units=A.units+1:=by
 first | rfl | simp [Around.under,Code.cUnits,Code.frames,Code.isFrame]
theorem bw.make {k:Nat}{A:Around}(r:bw (k+1) A) (C:Addr) (us:List Value) (kw:List (Str×Value)):bw k (A.under (.builtin "type.__call__" ⟨.ref C::us,kw⟩)):=
 ⟨r.hd,by have:=r.dp; rw [yd]; omega,by have:=r.un; rw [ye]; omega⟩
theorem bw.depth {k:Nat}{A:Around}(r:bw k A):A.depth<recursionLimit:=by have:=r.dp; omega
theorem bw.units {k:Nat}{A:Around}(r:bw k A):A.units+64<cLine:=by have:=r.un; omega
def yf:TA:=λ_ H Q=>Q [] H
def lI (ta:TE) (tr:TA):TA:=λσ H Q=>ta σ H λx H1=>tr σ H1 λxs H2=>Q (x::xs) H2
section
variable {X:Cx}{e:Expr}{es:List Expr}{te:TE}{t:TA}{pos:Pos}
theorem af:PA X [] yf:=λ_ _ _ _ H Q I h=>Calls.spliced_nil ⟨[],H,I,.nil,h⟩
theorem aa (ha:PE X e te) (hr:PA X es t) (hs:starEach (e::es) X.env=(false,eval e X.env)::starEach es X.env:=by rfl):PA X (e::es) (lI te t):=by
 intro pos pins s σ H Q I h
 rw [hs]
 show wpAny _ _ (spliced ((false,eval e X.env)::backTo pos (starEach es X.env))) _ _ s
 refine Calls.spliced_cons (aH (ha pins s σ H _ I h) λu s1 ⟨x,H1,I1,r1,q1⟩=>?_)
 exact aH (hr pos pins s1 σ H1 _ I1 q1) λus s2 ⟨xs,H2,I2,r2,q2⟩=>⟨x::xs,H2,I2,.cons r1 r2,q2⟩
def BW (t:TA):TE:=λσ H Q=>t σ H λxs H1=>xs.length<=sizeLine/\∀p,H1 p=none->Q (.ref p) (upd H1 p (.tup xs))
def Oy (t:TA):TE:=λσ H Q=>t σ H λxs H1=>xs.length<=sizeLine/\∀p,H1 p=none->Q (.ref p) (upd H1 p (.lst xs))
theorem dE {x1} (h:PA X es t):PE X (.Tuple es x1 pos) (BW t):=by
 intro pins s σ H Q I hq
 refine wpAny_Tuple_spliced (aH (h pos pins s σ H _ I hq) λus s1 ⟨xs,H1,I1,r,z,q⟩=>⟨by rw [← r.length]; exact z,?_⟩)
 have hf:H1 s1.heap.objs.size=none:=I1.hok.fresh (Nat.le_refl _)
 refine ⟨.ref s1.heap.objs.size,upd H1 s1.heap.objs.size (.tup xs),I1.laid (t':=s1.toks) (λb u e=>Heap.get?_push_of_some _ e) (Nat.le_refl _) ?_,rfl,q _ hf⟩
 exact ⟨z,us,r,⟨_,Heap.get?_push_size _ rfl,rfl,_,rfl⟩⟩
theorem fw (h:PA X es t):PE X (.List es pos) (Oy t):=by
 intro pins s σ H Q I hq
 refine wpAny_List_spliced (aH (h pos pins s σ H _ I hq) λus s1 ⟨xs,H1,I1,r,z,q⟩=>⟨by rw [← r.length]; exact z,?_⟩)
 have hf:H1 s1.heap.objs.size=none:=I1.hok.fresh (Nat.le_refl _)
 refine ⟨.ref s1.heap.objs.size,upd H1 s1.heap.objs.size (.lst xs),I1.laid (t':=s1.toks) (λb u e=>Heap.get?_push_of_some _ e) (Nat.le_refl _) ?_,rfl,q _ hf⟩
 exact ⟨z,us,0,r,Heap.get?_push_size _ rfl⟩
end
abbrev Sp:=List V->Hp->VK->XK->Prop
abbrev nq:=List Env->Hp->Shared->XK->Value->Shared->Prop
structure j4 (P:Program) (w:World) (K:W.Frag) (mg:Str->Option Value) (base:Heap) (A:Around) (outer:List Env) (s:Shared) (H:Hp):Prop where
 frames:A.frames=some outer
 mod:Mod K mg base
 bs:∀b o,base.get? b=some o->s.heap.get? b=some o/\H b=none
 bsz:base.objs.size<=s.heap.objs.size
 ia:s.heap.FunFrames base outer
 frf:∀b∈mi outer,H b=none
 hok:cY P w H s.heap
 bare:AllBare s.gens
def CE (outer:List Env) (P:Program) (w:World) (H:Hp) (s:Shared) (Q:VK) (u:Value) (s':Shared):Prop:=
 ∃v H',s'.os=s.os/\AllBare s'.gens/\Un (mi outer) [] H H' s.heap s'.heap/\cY P w H' s'.heap/\RelV v u/\Q v H'
def CR (CX:nq) (outer:List Env) (P:Program) (w:World) (H:Hp) (s:Shared) (Q:VK) (E:XK) (r:Result) (s':Shared):Prop:=
 match r with
 | .ok (.ret u)=>CE outer P w H s Q u s'
 | .ok _=>False
 | .error e=>CX outer H s E e s'
structure av (P:Program) (w:World) (K:W.Frag) (mg:Str->Option Value) (base:Heap) (CX:nq) (k:Nat) (f:Addr) (fd:FuncData) (ps:List Str) (sp:Sp):Prop where
 len:∀vs H Q E,sp vs H Q E->vs.length=ps.length
 run:∀(A:Around) (outer:List Env) (s:Shared) (H:Hp) (args:Args) (us:List Value) (vs:List V) (Q:VK) (E:XK),bw k A->j4 P w K mg base A outer s H->BindsTo s fd args (ps.zip us)->Vals vs us->sp vs H Q E->
  codeAny (model P w) A (.call (.ref f) args) (CR CX outer P w H s Q E) s
theorem j4.make {P:Program}{w:World}{K:W.Frag}{mg:Str->Option Value}{base:Heap}{A:Around}{outer:List Env}{s:Shared}{H:Hp}(e:j4 P w K mg base A outer s H) (C:Addr) (us:List Value) (kw:List (Str×Value)) :
 j4 P w K mg base (A.under (.builtin "type.__call__" ⟨.ref C::us,kw⟩)) outer s H:=⟨by first | exact e.frames | (simpa [Around.under,Code.envs,Code.isFrame,pushEnvs] using e.frames),e.mod,e.bs,e.bsz,e.ia,e.frf,e.hok,e.bare⟩
theorem j4.in1 {P:Program}{w:World}{K:W.Frag}{mg:Str->Option Value}{base:Heap}{A:Around}{outer:List Env}{s:Shared}{H:Hp}(e:j4 P w K mg base A outer s H) :
 j4 P w K mg base A.in1 outer s H:=⟨e.frames,e.mod,e.bs,e.bsz,e.ia,e.frf,e.hok,e.bare⟩
section
variable {X:Cx}{pins:List (Addr×Obj)}{σ:St}{H:Hp}{s s':Shared}
theorem Inv.Gf (I:Inv X pins σ H s):j4 X.prog X.w X.K X.mg X.base X.A X.stack s H:=
 ⟨I.ok.frames,I.ok.mod,I.bs,Nat.le_trans I.ok.bsz I.sz,I.stack,I.wK,I.hok,I.bare⟩
theorem Inv.after {Q:VK}{u:Value}(I:Inv X pins σ H s) (h:CE X.stack X.prog X.w H s Q u s'):EP X pins σ Q u s':=by
 obtain ⟨v,H',os,bare,un,hok,r,q⟩:=h
 obtain ⟨hh,g,d,t,RG⟩:=s'
 obtain rfl:RG=s.os:=os
 exact ⟨v,H',I.call (h':=hh) (g':=g) (d':=d) (t':=t) (ch:=[]) un hok bare (λb z=>absurd z (by simp)),r,q⟩
end
def J6 (sp:Sp) (gG:List V) (E:XK) (t:TA):TE:=λσ H Q=>t σ H λvs H1=>sp (vs++gG) H1 Q E
def J7 (C:Addr) (m:Str) (sp:Sp) (gG:List V) (E:XK) (ta:TE) (t:TA):TE:=λσ H Q=>ta σ H λx H1=>∃a dx fs,x=.ref a/\H1 a=some (.ins C dx fs)/\fs.lookup m=none/\
 t σ H1 λvs H2=>sp (x::(vs++gG)) H2 Q E
def J8 (C:Addr) (sp:Sp) (gG:List V) (E:XK) (t:TA):TE:=λσ H Q=>t σ H λvs H1=>∀x dx,H1 x=none->H1 dx=none->dx≠x->
 sp (.ref x::(vs++gG)) (upd (upd H1 dx (.own x)) x (.ins C dx [])) (λv H2=>v=.aX/\Q (.ref x) H2) E
def Binds (K:W.Frag) (fd:FuncData) (ps:List Str) (ds:List Value):Prop:=
 ∀(s:Shared) (us:List Value),K.In s.heap->(us++ds).length=ps.length->BindsTo s fd ⟨us,[]⟩ (ps.zip (us++ds))
theorem Binds.all {K:W.Frag}{fd:FuncData}{ps:List Str}(h:∀us:List Value,us.length=ps.length->bindArgs fd ⟨us,[]⟩=pure (ps.zip us)):Binds K fd ps []:=λs us _ hl=>by
 rw [List.append_nil] at hl ⊢
 exact .of_eq (h us hl)
def Passes (CX:nq) (X:Cx) (E:XK):Prop:=∀(pins:List (Addr×Obj)) (σ:St) (H:Hp) (s:Shared) (e:Value) (s':Shared),Inv X pins σ H s->CX X.stack H s E e s'->X.xe e s'
section
variable {X:Cx}{CX:nq}{k:Nat}{f C:Addr}{fd:FuncData}{ps:List Str}{sp:Sp}{gG:List V}{ds:List Value}{E:XK}{x m:Str}{p pos apos:Pos}{e o:Expr}{es:List Expr}{ta:TE}{t:TA}
theorem zL {pins:List (Addr×Obj)}{σ:St}{H:Hp}{s:Shared}{Q:VK}{us:List Value}{vs:List V}(F:av X.prog X.w X.K X.mg X.base CX k f fd ps sp) (hr:bw k X.A) (hb:Binds X.K fd ps ds) (hd:Vals gG ds) (hx:Passes CX X E)
 (I:Inv X pins σ H s) (r:Vals vs us) (h:sp (vs++gG) H Q E):wpAny (model X.prog X.w) X.A (call (.ref f) us) (EP X pins σ Q) X.xe s:=by
 have r2:Vals (vs++gG) (us++ds):=r.append hd
 have hl:(us++ds).length=ps.length:=by rw [← r2.length]; exact F.len _ _ _ _ h
 refine wpAny_call (codeAny_mono (F.run X.A X.stack s H ⟨us,[]⟩ (us++ds) (vs++gG) Q E hr I.Gf (hb s us I.eC hl) r2 h) λr s' hq=>?_)
 cases r with
 | error e=>exact hx pins σ H s e s' I hq
 | ok fl=>
  cases fl with
  | ret u=>exact I.after hq
  | next=>exact False.elim hq
  | brk=>exact False.elim hq
  | cont=>exact False.elim hq
theorem aJ (F:av X.prog X.w X.K X.mg X.base CX k f fd ps sp) (hr:bw k X.A) (hg:Gl X x) (hm:X.mg x=some (.ref f)) (hk:W.keepIn X.K (.ref f)=true) (hb:Binds X.K fd ps ds) (hd:Vals gG ds) (hx:Passes CX X E)
 (ha:PA X (e::es) t) (ub:(x == ("__debug__" : Str))=false:=by decide) (he:starEach (e::es) X.env=(false,eval e X.env)::starEach es X.env:=by rfl) (jN:(backTo pos (starEach es X.env)).any (·.1)=false:=by rfl) :
 PE X (.Call (.Name x p) (e::es) [] pos) (J6 sp gG E t):=by
 intro pins s σ H Q I h
 refine wpAny_Call_Name_kw (wM I hg hm ?_ ub)
 refine W.callWith_K (h₀:=X.base) I.ok.mod.kin hk (aH (ha pos pins s σ H _ I h) λus s1 ⟨vs,H1,I1,r,q⟩=>⟨I1.eC,?_⟩) he jN
 exact zL F hr hb hd hx I1 r q
theorem bb {pl:Sem Bool}(he:PE X o ta) (c:nj X.K C) (hm:Meth X.K C m f) (F:av X.prog X.w X.K X.mg X.base CX k f fd ps sp) (hr:bw k X.A) (hb:Binds X.K fd ps ds) (hd:Vals gG ds) (hx:Passes CX X E) (ha:PA X (e::es) t)
 (jL:starEach (e::es) X.env=(false,eval e X.env)::starEach es X.env:=by rfl) (jN:(backTo pos (starEach es X.env)).any (·.1)=false:=by rfl)
 (ht:eval (.Call (.Attribute o m apos) (e::es) [] pos) X.env=(do
  let ov ← eval o X.env
  standAt apos.atName
  let (f,first) ← holding [ov] (getMethod ov m pl)
  callWith pos f first (backTo pos (starEach (e::es) X.env)) (backToKw pos (keywordEach [] X.env))):=by rfl) :
 PE X (.Call (.Attribute o m apos) (e::es) [] pos) (J7 C m sp gG E ta t):=by
 intro pins s σ H Q I h
 refine W.methodCall_KW (pl:=pl) (aH (he pins s σ H _ I h) λu s1 ⟨x,H1,I1,rx,a,dx,fs,ex,ea,l,q⟩=>?_) ht
 subst ex
 obtain rfl:u=Value.ref a:=rx
 refine pW I1 ea c hm l ?_
 refine W.callWith_K (first:=[.ref a]) (h₀:=X.base) I.ok.mod.kin hm.kp (aH (ha pos pins s1 σ H1 _ I1 q) λus s2 ⟨vs,H2,I2,r,q2⟩=>⟨I2.eC,?_⟩) jL jN
 exact zL (us:=.ref a::us) (vs:=.ref a::vs) F hr hb hd hx I2 (.cons rfl r) q2
structure Mk (K:W.Frag) (C f:Addr):Prop where
 makes:W.makesIn K C=true
 init:W.findIn K (.ref C) "__init__" = some (some (.ref f))
 fn:W.isFn K (.ref f)=true
 kp:W.keepIn K (.ref C)=true
theorem BZ {pins:List (Addr×Obj)}{σ:St}{H:Hp}{s:Shared}{Q:VK}{us:List Value}{vs:List V}(M:Mk X.K C f) (F:av X.prog X.w X.K X.mg X.base CX k f fd ps sp) (hr:bw (k+1) X.A) (hb:Binds X.K fd ps ds) (hd:Vals gG ds)
 (hx:Passes CX X E) (I:Inv X pins σ H s) (r:Vals vs us)
 (h:∀x dx,H x=none->H dx=none->dx≠x->sp (.ref x::(vs++gG)) (upd (upd H dx (.own x)) x (.ins C dx [])) (λv H2=>v=.aX/\Q (.ref x) H2) E) :
 wpAny (model X.prog X.w) X.A (call (.ref C) us) (EP X pins σ Q) X.xe s:=by
 have hq:=h (s.heap.objs.size+1) s.heap.objs.size (I.hok.fresh (Nat.le_succ _)) (I.hok.fresh (Nat.le_refl _)) (Nat.ne_of_lt (Nat.lt_succ_self _))
 have I2:=Inv.made (C:=C) I
 have r2:Vals (V.ref (s.heap.objs.size+1)::(vs++gG)) (Value.ref (s.heap.objs.size+1)::(us++ds)):=.cons rfl (r.append hd)
 have hl:(Value.ref (s.heap.objs.size+1)::us++ds).length=ps.length:=by
  have e:=r2.length
  rw [F.len _ _ _ _ hq] at e
  exact e.symm
 refine wpAny_call (BV (f:=f) I.eC M.makes M.init (beq_iff_eq.mp M.fn) (codeAny_mono (F.run _ X.stack _ _ ⟨Value.ref (s.heap.objs.size+1)::us,[]⟩ (Value.ref (s.heap.objs.size+1)::(us++ds)) _ _ E (hr.make C us [])
  (I2.Gf.make C us []) (hb _ (Value.ref (s.heap.objs.size+1)::us) I2.eC hl) r2 hq) λr s' zM=>?_))
 cases r with
 | error e=>exact hx pins σ _ _ e s' I2 zM
 | ok fl=>
  cases fl with
  | ret u=>
   obtain ⟨v,H',I3,rv,ev,q3⟩:=I2.after zM
   subst ev
   exact ⟨rv,⟨V.ref (s.heap.objs.size+1),H',I3,rfl,q3⟩⟩
  | next=>exact False.elim zM
  | brk=>exact False.elim zM
  | cont=>exact False.elim zM
theorem wW (M:Mk X.K C f) (F:av X.prog X.w X.K X.mg X.base CX k f fd ps sp) (hr:bw (k+1) X.A) (hg:Gl X x) (hm:X.mg x=some (.ref C)) (hb:Binds X.K fd ps ds) (hd:Vals gG ds) (hx:Passes CX X E)
 (ha:PA X (e::es) t) (ub:(x == ("__debug__" : Str))=false:=by decide) (he:starEach (e::es) X.env=(false,eval e X.env)::starEach es X.env:=by rfl) (jN:(backTo pos (starEach es X.env)).any (·.1)=false:=by rfl) :
 PE X (.Call (.Name x p) (e::es) [] pos) (J8 C sp gG E t):=by
 intro pins s σ H Q I h
 refine wpAny_Call_Name_kw (wM I hg hm ?_ ub)
 refine W.callWith_K (h₀:=X.base) I.ok.mod.kin M.kp (aH (ha pos pins s σ H _ I h) λus s1 ⟨vs,H1,I1,r,q⟩=>⟨I1.eC,?_⟩) he jN
 exact BZ M F hr hb hd hx I1 r q
end
section
variable {X:Cx}{CX:nq}{k:Nat}{f C:Addr}{fd:FuncData}{ps ks:List Str}{sp:Sp}{E:XK}{x m:Str}{p pos apos Wi:Pos}{e o:Expr}{es:List Expr}{Ww:List Keyword}{te ta:TE}{t tk:TA}{nm:Option Str}
variable {g:List Value->List Value->List Value}{gV:List V->List V->List V}
end
structure aZ (N P:List Str) (sc:Scope):Prop where
 kind:sc.kind=.function
 co:sc.isCoroutine=false
 gen:sc.isGenerator=false
 nd:N.Nodup
 pre:N.take P.length=P
 par:∀x∈P,sc.names.lookup x=some .local\/sc.names.lookup x=some .cell
 nofree:∀y∈sc.names,y.2≠.free
theorem rY {kindOf:Str->Option NameKind}{x:Str} : ∀{binds:List (Str×Value)}{m:Str->Option Value},(∀v,(x,v)∉binds)->bindL kindOf binds m x=m x
 | [],_,_=>rfl
 | (n,v)::r,m,h=>by
  unfold bindL
  rw [rY λw hw=>h w (List.mem_cons_of_mem _ hw)]
  split
  . have:x≠n:=by rintro rfl; exact h v List.mem_cons_self
    simp [this]
  . rfl
theorem rZ {kindOf:Str->Option NameKind}{x:Str} : ∀{binds:List (Str×Value)}{m:Str->Option Value},(∀v,(x,v)∉binds)->bindC kindOf binds m x=m x
 | [],_,_=>rfl
 | (n,v)::r,m,h=>by
  unfold bindC
  rw [rZ λw hw=>h w (List.mem_cons_of_mem _ hw)]
  split
  . rfl
  . have:x≠n:=by rintro rfl; exact h v List.mem_cons_self
    simp [this]
theorem sj {kindOf:Str->Option NameKind}{x:Str}{v:Value} : ∀{P:List Str}{vs:List Value}{i:Nat}{m:Str->Option Value},P.Nodup->P[i]?=some x->vs[i]?=some v->kindOf x=some .local->
 bindL kindOf (P.zip vs) m x=some v
 | [],_,_,_,_,h,_,_=>by simp at h
 | _::_,[],_,_,_,_,h,_=>by simp at h
 | p::P,w::vs,0,m,nd,h1,h2,hk=>by
  simp at h1 h2; subst h1; subst h2
  show bindL kindOf ((p,w)::P.zip vs) m p=_
  unfold bindL
  rw [rY λv hv=>(List.nodup_cons.mp nd).1 (List.of_mem_zip hv).1,if_pos hk]
  simp
 | p::P,w::vs,i+1,m,nd,h1,h2,hk=>by
  show bindL kindOf ((p,w)::P.zip vs) m x=_
  unfold bindL
  exact sj (i:=i) (List.nodup_cons.mp nd).2 (by simpa using h1) (by simpa using h2) hk
theorem so {kindOf:Str->Option NameKind}{x:Str}{v:Value} : ∀{P:List Str}{vs:List Value}{i:Nat}{m:Str->Option Value},P.Nodup->P[i]?=some x->vs[i]?=some v->kindOf x≠some .local->
 bindC kindOf (P.zip vs) m x=some v
 | [],_,_,_,_,h,_,_=>by simp at h
 | _::_,[],_,_,_,_,h,_=>by simp at h
 | p::P,w::vs,0,m,nd,h1,h2,hk=>by
  simp at h1 h2; subst h1; subst h2
  show bindC kindOf ((p,w)::P.zip vs) m p=_
  unfold bindC
  rw [rZ λv hv=>(List.nodup_cons.mp nd).1 (List.of_mem_zip hv).1,if_neg hk]
  simp
 | p::P,w::vs,i+1,m,nd,h1,h2,hk=>by
  show bindC kindOf ((p,w)::P.zip vs) m x=_
  unfold bindC
  exact so (i:=i) (List.nodup_cons.mp nd).2 (by simpa using h1) (by simpa using h2) hk
def start (N:List Str) (vs:List V):St:=vs.map some++List.replicate (N.length-vs.length) none
def lJ (CX:nq) (P:Program) (w:World) (K:W.Frag) (mg:Str->Option Value) (base:Heap) (N:List Str) (qual:Str) (scope:Scope) (f:Addr) (cd:Value) (A:Around) (outer:List Env) (s:Shared) (H:Hp) (E:XK):Cx where
 prog:=P
 w:=w
 K:=K
 mg:=mg
 base:=base
 A:=A.deeper (envOfC qual scope s.heap.objs.size f cd)
 N:=N
 iT:=s
 xY:=H
 env:=envOfC qual scope s.heap.objs.size f cd
 outer:=outer
 stack:=envOfC qual scope s.heap.objs.size f cd::outer
 ex:=[]
 calm:=true
 fn:=λ_=>true
 pn:=[]
 xe:=λe s'=>wpAny (model P w) (A.deeper (envOfC qual scope s.heap.objs.size f cd)) (leaving (envOfC qual scope s.heap.objs.size f cd) e) (λ_ zN=>CX outer H s E e zN) (λe' zN=>CX outer H s E e' zN) s'
theorem uc {sc:Scope}{n:Nat}{x:Str}(h:sc.names.lookup x=some .cell):∃c,(cellsFrom n sc.names []).lookup x=some c:=by
 have q:=W.cellsFrom_some sc.names n [] (.inl h)
 exact Option.isSome_iff_exists.mp q
theorem zO {CX:nq}{P:Program}{w:World}{K:W.Frag}{mg:Str->Option Value}{base:Heap}{N ps:List Str}{qual:Str}{scope:Scope}{f:Addr}{cd:Value}{A:Around}{outer:List Env}{s s1:Shared}{H:Hp}{E:XK}{us:List Value}{vs:List V}
 (S:aZ N ps scope) (hd:A.handled=none) (e0:j4 P w K mg base A outer s H) (hl:vs.length=ps.length) (r:Vals vs us)
 (x:InCallC s s.heap.objs.size (bindL (envOfC qual scope s.heap.objs.size f cd).kindOf (ps.zip us) λ_=>none) (cellsFrom (s.heap.objs.size+1) scope.names []) (bindC (envOfC qual scope s.heap.objs.size f cd).kindOf (ps.zip us) λ_=>none) s1) :
 Inv (lJ CX P w K mg base N qual scope f cd A outer s H E) [] (start N vs) H s1:=by
 have jN:ps.length<=N.length:=by have:=congrArg List.length S.pre; rw [List.length_take] at this; omega
 obtain ⟨h1,tk,rfl,hk⟩:=x.done
 have zP:∀b:Addr,b∉(lJ CX P w K mg base N qual scope f cd A outer s H E).ex:=λb z=>absurd (show b∈([]:List Addr) from z) (by simp)
 refine ⟨⟨e0.mod,S.kind,rfl,rfl,Nat.le_refl _,λy z c h1 h2=>?_,λy hy=>?_,λy c _ h=>?_,λ_=>hd,Around.frames_deeper e0.frames,.inr ⟨rfl,rfl⟩,λb z=>absurd z (zP b),e0.bs,e0.bsz,λb _ _=>zP b,λb z=>absurd z (zP b),e0.ia,e0.frf⟩,
  rfl,e0.bare,Un.kept hk,⟨_,x.toInCall.ns,λi y v h1 h2 h3=>?_⟩,λy c h=>⟨_,x.cell y c h⟩,e0.hok.fresh (Nat.le_refl _),λy c h=>?_,λp hp=>absurd (show p∈([]:List (Addr×Obj)) from hp) (by simp),e0.hok.kept hk,?_⟩
 . exact name_of_addr x.apart (PySem.mem_of_lookup h1) (PySem.mem_of_lookup h2)
 . have hy:scope.names.lookup y=some .cell\/scope.names.lookup y=some .free:=hy
   rcases hy with hy | hy
   . exact uc hy
   . exact absurd rfl (S.nofree _ (PySem.mem_of_lookup hy))
 . exact Nat.le_of_lt (x.above y c (PySem.mem_of_lookup h))
 . have hi:i<vs.length:=by
    unfold start at h2
    by_cases hi:i<vs.length
    . exact hi
    . rw [List.getElem?_append_right (by simpa using hi)] at h2
      rw [List.getElem?_replicate] at h2
      split at h2 <;> cases h2
   have ha:vs[i]?=some v:=by
    unfold start at h2
    rw [List.getElem?_append_left (by simpa using hi),List.getElem?_map] at h2
    cases e:vs[i]? with
    | none=>rw [e] at h2; cases h2
    | some a=>rw [e] at h2; cases h2; rfl
   obtain ⟨u,hu,rv⟩:=r.get ha
   have hp:ps[i]?=some y:=by
    rw [← S.pre,List.getElem?_take_of_lt (by omega)]; exact h1
   have Md:ps.Nodup:=by rw [← S.pre]; exact S.nd.sublist (List.take_sublist _ _)
   refine ⟨u,rv,?_⟩
   rcases S.par y (List.mem_of_getElem? hp) with k | k
   . exact .inl ⟨k,sj Md hp hu k⟩
   . obtain ⟨c,e⟩:=uc (n:=s.heap.objs.size+1) k
     refine .inr ⟨.inl k,c,e,?_⟩
     have q:=x.cell y c e
     rw [so Md hp hu (by show scope.names.lookup y≠_; rw [k]; decide)] at q
     exact q
 . exact e0.hok.fresh (Nat.le_of_lt (x.above y c (PySem.mem_of_lookup h)))
 . unfold start
   show _=N.length
   rw [List.length_append,List.length_map,List.length_replicate]
   omega
theorem J9 {CX:nq}{P:Program}{w:World}{K:W.Frag}{mg:Str->Option Value}{base:Heap}{k:Nat}{f:Addr}{name qual:Str}{params:Arguments}{body:List Stmt}{scope:Scope}{dV kV doc pm cdv ct oc:Value}{an od:Option Addr}
 {sq:Array (Option Value)}{N ps:List Str}{sp:Sp}(lk:K.lookup f=some ⟨oc,od,.func (W.fnOf name qual params body scope dV kV doc pm an cdv ct),sq⟩) (mX:W.codeIn K cdv qual=true) (S:aZ N ps scope)
 (len:∀vs H Q E,sp vs H Q E->vs.length=ps.length)
 (yg:∀(A:Around) (outer:List Env) (s:Shared) (H:Hp) (vs:List V) (Q:VK) (E:XK),bw k (A.deeper (envOfC qual scope s.heap.objs.size f cdv))->sp vs H Q E->
  ∃t,jh (lJ CX P w K mg base N qual scope f cdv A outer s H E) body t/\t { nx:=λ_ H'=>Q .aX H',rt:=Q } (start N vs) H) :
 av P w K mg base CX (k+1) f (W.fnOf name qual params body scope dV kV doc pm an cdv ct) ps sp:=by
 refine ⟨len,λA outer s H args us vs Q E hr e0 hb r jl=>?_⟩
 have hl:=len _ _ _ _ jl
 have KX:K.In s.heap:=e0.mod.kin.keeps λb o e=>(e0.bs b o e).1
 have lim:s.heap.NoLimit:=e0.mod.nolimit.keeps λb o e=>(e0.bs b o e).1
 have Ka:∀y∈ps.zip us,scope.names.lookup y.1=some .local\/(scope.names.lookup y.1=some .cell/\((cellsFrom (s.heap.objs.size+1) scope.names []).lookup y.1).isSome=true):=λ⟨n,v⟩ hy=>by
  rcases S.par n (List.of_mem_zip hy).1 with q | q
  . exact .inl q
  . exact .inr ⟨q,W.cellsFrom_some _ _ _ (.inl q)⟩
 refine codeAny_call_function hr.depth (KX _ _ lk) rfl S.co S.gen rfl (W.codeRec_of KX mX) (hb _ _ _ _ ?_)
 refine wpAny_newFunctionEnv_cells S.kind Ka λenv he s1 x=>?_
 subst he
 refine ⟨lim.keeps x.toInCall.keep,codeAny_func ?_⟩
 obtain ⟨t,ht,hq⟩:=yg A outer s H vs Q E (hr.deeper _) jl
 have I:Inv (lJ CX P w K mg base N qual scope f cdv A outer s H E) [] (start N vs) H s1:=zO S hr.hd e0 hl r x
 refine wpAny_mono (ht [] s1 (start N vs) H _ I hq) (λfl s' hs=>?_) λe s' hs=>hs
 have fin:∀{cg:St}{H':Hp}{v:V}{u:Value},Inv (lJ CX P w K mg base N qual scope f cdv A outer s H E) [] cg H' s'->RelV v u->Q v H'->CE outer P w H s Q u s':=
  λ{cg H' v u} J rv q=>⟨v,H',J.os,J.bare,J.base,J.hok,rv,q⟩
 cases fl with
 | ret u=>
  obtain ⟨v,cg,H',J,rv,q⟩:=hs
  exact fin J rv q
 | next=>
  obtain ⟨cg,H',J,q⟩:=hs
  exact fin (v:=V.aX) (u:=Value.none) J rfl q
 | brk=>
  obtain ⟨_,_,_,q⟩:=hs
  exact False.elim q
 | cont=>
  obtain ⟨_,_,_,q⟩:=hs
  exact False.elim q
end L2
namespace L2
open PySem PySem.Spec PyProof.Rows
section
variable {X:Cx}{x:Str}{p pos:Pos}{e:Expr}{es:List Expr}{t:TA}{id T:String}{r:List V->Hp->VK->Prop}
def Me (r:List V->Hp->VK->Prop) (t:TA):TE:=λσ H Q=>t σ H λvs H1=>r vs H1 Q
theorem aU (hc:eD X (.builtin id) r) (hg:Gl X x) (hm:X.mg x=none) (hv:bootBuiltins x=some (.builtin id)) (ha:PA X (e::es) t) (hn:x ≠ "__name__":=by decide) (ub:(x == ("__debug__" : Str))=false:=by decide)
 (he:starEach (e::es) X.env=(false,eval e X.env)::starEach es X.env:=by rfl) (jN:(backTo pos (starEach es X.env)).any (·.1)=false:=by rfl):PE X (.Call (.Name x p) (e::es) [] pos) (Me r t):=by
 intro pins s σ H Q I h
 refine wpAny_Call_Name_kw (iH I hg hm hv ?_ hn ub)
 exact PyProof.Rows.callWith_builtin1 (aH (ha pos pins s σ H _ I h) λus s1 ⟨vs,H1,I1,r1,q1⟩=>hc pins s1 σ H1 vs us Q I1 r1 q1) he jN
theorem cO (hc:eD X (.type T) r) (hg:Gl X x) (hm:X.mg x=none) (hv:bootBuiltins x=some (.type T)) (ha:PA X (e::es) t) (hn:x ≠ "__name__":=by decide) (ub:(x == ("__debug__" : Str))=false:=by decide)
 (he:starEach (e::es) X.env=(false,eval e X.env)::starEach es X.env:=by rfl) (jN:(backTo pos (starEach es X.env)).any (·.1)=false:=by rfl):PE X (.Call (.Name x p) (e::es) [] pos) (Me r t):=by
 intro pins s σ H Q I h
 refine wpAny_Call_Name_kw (iH I hg hm hv ?_ hn ub)
 exact PyProof.Rows.callWith_type1 (aH (ha pos pins s σ H _ I h) λus s1 ⟨vs,H1,I1,r1,q1⟩=>hc pins s1 σ H1 vs us Q I1 r1 q1) he jN
end
end L2
namespace L2
open PySem PySem.Spec PyProof.Rows
section
variable {κ:Type}[DecidableEq κ]
def aR (kvs:List (κ×V)) (k:κ):Option V:=(kvs.find? λkv=>decide (kv.1=k)).map (·.2)
def putK (kvs:List (κ×V)) (k:κ) (v:V):List (κ×V):=
 if (kvs.any λkv=>decide (kv.1=k))=true then kvs.map (λkv=>if kv.1=k then (kv.1,v) else kv) else kvs++[(k,v)]
theorem bG {p:κ×V}{r:List (κ×V)}{k:κ}(e:p.1=k):aR (p::r) k=some p.2:=by simp [aR,List.find?_cons,e]
theorem bx {p:κ×V}{r:List (κ×V)}{k:κ}(e:¬ p.1=k):aR (p::r) k=aR r k:=by simp [aR,List.find?_cons,e]
theorem jm (k:κ):∀kvs:List (κ×V),(kvs.any λkv=>decide (kv.1=k))=(aR kvs k).isSome
 | []=>rfl
 | p::r=>by
  rw [List.any_cons]
  by_cases e:p.1=k
  . simp only [bG e,decide_eq_true e,Bool.true_or,Option.isSome_some]
  . rw [bx e,decide_eq_false e,Bool.false_or]; exact jm k r
theorem ud (k j:κ) (y:V):∀kvs:List (κ×V),aR (kvs.map λkv=>if kv.1=k then (kv.1,y) else kv) j=(aR kvs j).map λx=>if j=k then y else x
 | []=>rfl
 | p::r=>by
  have ih:=ud k j y r
  rw [List.map_cons]
  by_cases h:p.1=k
  . rw [if_pos h]
    by_cases e:p.1=j
    . rw [bG (p:=(p.1,y)) e,bG e,Option.map_some,if_pos (e.symm.trans h)]
    . rw [bx (p:=(p.1,y)) e,bx e,ih]
  . rw [if_neg h]
    by_cases e:p.1=j
    . rw [bG (p:=p) e,bG e,Option.map_some,if_neg (λz=>h (e.trans z))]
    . rw [bx (p:=p) e,bx e,ih]
theorem nr (k j:κ) (y:V):∀kvs:List (κ×V),aR kvs k=none->aR (kvs++[(k,y)]) j=if j=k then some y else aR kvs j
 | [],_=>by
  by_cases e:k=j
  . rw [if_pos e.symm]; exact bG (p:=(k,y)) e
  . rw [if_neg (λz=>e z.symm)]; exact bx (p:=(k,y)) e
 | p::r,hn=>by
  rw [List.cons_append]
  have hk:¬ p.1=k:=λz=>by rw [bG z] at hn; cases hn
  rw [bx hk] at hn
  have ih:=nr k j y r hn
  by_cases e:p.1=j
  . rw [bG e,bG e,if_neg (λz=>hk (e.trans z))]
  . rw [bx e,bx e,ih]
theorem o8 (kvs:List (κ×V)) (k j:κ) (y:V):aR (putK kvs k y) j=if j=k then some y else aR kvs j:=by
 unfold putK
 by_cases a:(kvs.any λkv=>decide (kv.1=k))=true
 . rw [if_pos a,ud]
   rw [jm] at a
   by_cases e:j=k
   . obtain ⟨x,hx⟩:=Option.isSome_iff_exists.mp a
     rw [if_pos e,e,hx,Option.map_some,if_pos rfl]
   . rw [if_neg e]
     cases aR kvs j with
     | none=>rfl
     | some x=>rw [Option.map_some,if_neg e]
 . rw [if_neg a]
   refine nr k j y kvs ?_
   rw [jm] at a
   cases q:aR kvs k with
   | none=>rfl
   | some x=>rw [q] at a; exact (a rfl).elim
theorem eg (kvs:List (κ×V)) (k:κ) (v:V):(putK kvs k v).length<=kvs.length+1:=by
 unfold putK
 split
 . rw [List.length_map]; omega
 . rw [List.length_append,List.length_cons,List.length_nil]; omega
theorem lK {kvs:List (κ×V)}{k:κ}(v:V) (h:aR kvs k=none):putK kvs k v=kvs++[(k,v)]:=by
 unfold putK
 rw [jm,h]
 exact if_neg (by decide)
theorem dQ.iJ {o:Option V}{u:Option Value}(r:dQ o u):o.isSome=u.isSome:=by
 cases o with
 | none=>cases u with
  | none=>rfl
  | some _=>exact (show False from r).elim
 | some _=>cases u with
  | none=>exact (show False from r).elim
  | some _=>rfl
theorem dQ.getD {o:Option V}{u:Option Value}{d:V}{d':Value}(r:dQ o u) (rd:RelV d d'):RelV (o.getD d) (u.getD d'):=by
 cases o with
 | none=>cases u with
  | none=>exact rd
  | some _=>exact (show False from r).elim
 | some _=>cases u with
  | none=>exact (show False from r).elim
  | some _=>exact r
theorem KV.val {kvs:List (κ×V)}{vs:List (κ×Value)}(r:KV kvs vs) (k:κ):dQ (aR kvs k) (valueAt vs k):=by
 unfold KV at r
 induction r with
 | nil=>exact True.intro
 | @cons p q ps qs h t ih=>
  obtain ⟨h1,h2⟩:=h
  by_cases e:p.1=k
  . have e':q.1=k:=h1.symm.trans e
    have b:valueAt (q::qs) k=some q.2:=by simp [valueAt,List.find?_cons,e']
    rw [bG e,b]; exact h2
  . have e':¬ q.1=k:=λz=>e (h1.trans z)
    have b:valueAt (q::qs) k=valueAt qs k:=by simp [valueAt,List.find?_cons,e']
    rw [bx e,b]; exact ih
theorem KV.any {kvs:List (κ×V)}{vs:List (κ×Value)}(r:KV kvs vs) (k:κ):(kvs.any λkv=>decide (kv.1=k))=vs.any λkv=>decide (kv.1=k):=by
 unfold KV at r
 induction r with
 | nil=>rfl
 | cons h t ih=>rw [List.any_cons,List.any_cons,ih,h.1]
theorem KV.B0 {kvs:List (κ×V)}{vs:List (κ×Value)}(r:KV kvs vs) (k:κ){y:V}{u:Value}(ry:RelV y u) :
 KV (kvs.map λkv=>if kv.1=k then (kv.1,y) else kv) (vs.map λkv=>if kv.1=k then (kv.1,u) else kv):=by
 unfold KV at r ⊢
 induction r with
 | nil=>exact .nil
 | @cons p q ps qs h t ih=>
  rw [List.map_cons,List.map_cons]
  refine .cons ?_ ih
  obtain ⟨h1,h2⟩:=h
  by_cases e:p.1=k
  . rw [if_pos e,if_pos (h1.symm.trans e)]; exact ⟨h1,ry⟩
  . rw [if_neg e,if_neg (λz=>e (h1.trans z))]; exact ⟨h1,h2⟩
theorem KV.put {kvs:List (κ×V)}{vs:List (κ×Value)}(r:KV kvs vs) (k:κ){y:V}{u:Value}(ry:RelV y u):KV (putK kvs k y) (stored vs k u):=by
 unfold putK stored
 rw [r.any k]
 by_cases e:(vs.any λkv=>decide (kv.1=k))=true
 . rw [if_pos e,if_pos e]; exact r.B0 k ry
 . rw [if_neg e,if_neg e]; exact Paired.snoc r ⟨rfl,ry⟩
theorem KV.length {kvs:List (κ×V)}{vs:List (κ×Value)}(r:KV kvs vs):kvs.length=vs.length:=Paired.length r
end
theorem jO {P:Program}{w:World}{k:Key}{u:Value}(r:RelV (kV k) u):(ba P w).is k u=true:=by
 cases k with
 | inl i=>obtain ⟨t,e⟩:=(show ∃t,u=Value.int i t from r); subst e; exact wu P w i t
 | inr x=>obtain ⟨t,e⟩:=(show ∃t,u=Value.str x t from r); subst e; exact wx P w x t
theorem sr {P:Program}{w:World} : ∀{ks:List Key}{us:List Value},Vals (ks.map kV) us->ItemsAre (ba P w) ks us
 | [],_,r=>by rw [List.map_nil] at r; cases r; exact .nil
 | k::ks,_,r=>by
  rw [List.map_cons] at r
  cases r with
  | cons h t=>exact .cons (jO h) (sr t)
abbrev KT (H:Hp):List (List Key×V)->List (List Key×Addr×Value)->Prop:=Paired λp q=>p.1=q.1/\H q.2.1=some (.tup (p.1.map kV))/\RelV p.2 q.2.2
theorem KT.val {H:Hp}{kvs:List (List Key×V)}{xs:List (List Key×Addr×Value)}(r:KT H kvs xs) (k:List Key):dQ (aR kvs k) ((atKey xs k).map (·.2)):=by
 induction r with
 | nil=>exact True.intro
 | @cons p q ps qs h t ih=>
  obtain ⟨h1,_,h2⟩:=h
  by_cases e:p.1=k
  . have e':q.1=k:=h1.symm.trans e
    have b:atKey (q::qs) k=some q.2:=by simp [atKey,List.find?_cons,e']
    rw [bG e,b]; exact h2
  . have e':¬ q.1=k:=λz=>e (h1.trans z)
    have b:atKey (q::qs) k=atKey qs k:=by simp [atKey,List.find?_cons,e']
    rw [bx e,b]; exact ih
theorem KT.B0 {H:Hp}{kvs:List (List Key×V)}{xs:List (List Key×Addr×Value)}(r:KT H kvs xs) (k:List Key){y:V}{u:Value}(ry:RelV y u) :
 KT H (kvs.map λkv=>if kv.1=k then (kv.1,y) else kv) (xs.map (putAt k u)):=by
 induction r with
 | nil=>exact .nil
 | @cons p q ps qs h t ih=>
  rw [List.map_cons,List.map_cons]
  refine .cons ?_ ih
  obtain ⟨h1,h2,h3⟩:=h
  unfold putAt
  by_cases e:p.1=k
  . rw [if_pos e,if_pos (h1.symm.trans e)]; exact ⟨h1,h2,ry⟩
  . rw [if_neg e,if_neg (λz=>e (h1.trans z))]; exact ⟨h1,h2,h3⟩
theorem KT.put {H:Hp}{kvs:List (List Key×V)}{xs:List (List Key×Addr×Value)}(r:KT H kvs xs) (k:List Key){b:Addr}{y:V}{u:Value}(hb:H b=some (.tup (k.map kV))) (ry:RelV y u) :
 KT H (putK kvs k y) (storedH xs k b u):=by
 have e:(kvs.any λkv=>decide (kv.1=k))=(atKey xs k).isSome:=by
  rw [jm,(r.val k).iJ,Option.isSome_map]
 unfold putK storedH
 rw [e]
 by_cases q:(atKey xs k).isSome=true
 . rw [if_pos q,if_pos q]; exact r.B0 k ry
 . rw [if_neg q,if_neg q]; exact Paired.snoc r ⟨rfl,hb,ry⟩
theorem KT.keeps {H H':Hp}{kvs:List (List Key×V)}{xs:List (List Key×Addr×Value)}(r:KT H kvs xs) (ht:∀b ys,H b=some (.tup ys)->H' b=some (.tup ys)):KT H' kvs xs:=
 Paired.cy r λ_ _ z=>⟨z.1,ht _ _ z.2.1,z.2.2⟩
section
variable {P:Program}{w:World}{H:Hp}{h:Heap}{a:Addr}
theorem Dh {u:HO}(ok:cY P w H h) (e:Rd H a u):bg P w H h a u:=e.ok ok
theorem jP {kvs:List (Key×V)}(ok:cY P w H h) (e:Rd H a (.dK kvs)):kvs.length<=sizeLine/\(a == sysModules)=false/\∃vs,KV kvs vs/\h.DictOf (ba P w) a vs:=
 show bg P w H h a (.dK kvs) from Dh ok e
theorem pX {kvs:List (Key×V)}(ok:cY P w H h) (e:H a=some (.dK kvs)):kvs.length<=sizeLine/\(a == sysModules)=false/\∃vs,KV kvs vs/\h.DictOf (ba P w) a vs:=jP ok (.inl e)
theorem kz {ks:List Key}(ok:cY P w H h) (e:H a=some (.tup (ks.map kV))):(tupleKind (ba P w)).is h ks a:=by
 obtain ⟨_,its,r,o,h1,h2,n,h3⟩:=(show bg P w H h a (.tup (ks.map kV)) from ok a _ e)
 exact ⟨o,its.toArray,n,h1,h2,h3,by simpa using sr r⟩
theorem lL {kvs:List (List Key×V)}(ok:cY P w H h) (e:Rd H a (.dT kvs)):kvs.length<=sizeLine/\(a == sysModules)=false/\
 ∃xs,KT H kvs xs/\h.DictOfH (tupleKind (ba P w)) a xs:=by
 obtain ⟨z,y,xs,r,o,es,ep,h1,h2,h3,h4,h5⟩:=(show bg P w H h a (.dT kvs) from Dh ok e)
 refine ⟨z,y,xs,r,o,es,ep,h1,h2,h3,h4,λx hx=>?_,h5⟩
 have all:∀{l:List (List Key×V)}{m:List (List Key×Addr×Value)},KT H l m->∀x∈m,(tupleKind (ba P w)).is h x.1 x.2.1:=by
  intro l m q
  induction q with
  | nil=>intro x hx; exact nomatch hx
  | @cons p q ps qs hq t ih=>
   intro x hx
   rcases List.mem_cons.mp hx with e | hx
   . subst e
     exact kz ok (by rw [← hq.1]; exact hq.2.1)
   . exact ih x hx
 exact all r x hx
theorem Kb {kvs:List (List Key×V)}(ok:cY P w H h) (e:H a=some (.dT kvs)):kvs.length<=sizeLine/\(a == sysModules)=false/\
 ∃xs,KT H kvs xs/\h.DictOfH (tupleKind (ba P w)) a xs:=lL ok (.inl e)
end
def cG (H:Hp) (a:Addr) (y:V) (r:Option V):Prop:=
 (∃kvs k,Rd H a (.dK kvs)/\y=kV k/\r=aR kvs k)\/∃kvs k b,Rd H a (.dT kvs)/\y=.ref b/\H b=some (.tup (k.map kV))/\r=aR kvs k
def gJ (H:Hp) (a:Addr) (y v:V) (H':Hp):Prop:=
 (∃kvs k,H a=some (.dK kvs)/\y=kV k/\kvs.length<sizeLine/\H'=upd H a (.dK (putK kvs k v)))\/
 ∃kvs k b,H a=some (.dT kvs)/\y=.ref b/\H b=some (.tup (k.map kV))/\kvs.length<sizeLine/\H'=upd H a (.dT (putK kvs k v))
theorem cG.k {H:Hp}{a:Addr}{kvs:List (Key×V)}{k:Key}(e:H a=some (.dK kvs)):cG H a (kV k) (aR kvs k):=.inl ⟨kvs,k,.inl e,rfl,rfl⟩
theorem cG.t {H:Hp}{a b:Addr}{kvs:List (List Key×V)}{k:List Key}(e:H a=some (.dT kvs)) (eb:H b=some (.tup (k.map kV))):cG H a (.ref b) (aR kvs k):=.inr ⟨kvs,k,b,.inl e,rfl,eb,rfl⟩
theorem gJ.k {H:Hp}{a:Addr}{kvs:List (Key×V)}{k:Key}{v:V}(e:H a=some (.dK kvs)) (hl:kvs.length<sizeLine):gJ H a (kV k) v (upd H a (.dK (putK kvs k v))):=.inl ⟨kvs,k,e,rfl,hl,rfl⟩
theorem gJ.t {H:Hp}{a b:Addr}{kvs:List (List Key×V)}{k:List Key}{v:V}(e:H a=some (.dT kvs)) (eb:H b=some (.tup (k.map kV))) (hl:kvs.length<sizeLine) :
 gJ H a (.ref b) v (upd H a (.dT (putK kvs k v))):=.inr ⟨kvs,k,b,e,rfl,eb,hl,rfl⟩
section
variable {X:Cx}{pins:List (Addr×Obj)}{σ:St}{H:Hp}{s:Shared}{a:Addr}{y v:V}{u r:Value}{o:Option V}{A:Around}{E:Value->Shared->Prop}
theorem Inv.big (I:Inv X pins σ H s):sysModules<s.heap.objs.size:=by
 have h:mainGlobals<s.heap.objs.size:=(I.mod.glob.keeps I.bk).lt
 exact Nat.lt_trans (by decide) h
theorem zQ {Q:Value->Shared->Prop}(hu:A.units+1<cLine) (I:Inv X pins σ H s) (g:cG H a y (some v)) (ry:RelV y u) (h:∀w' s',Inv X pins σ H s'->RelV v w'->Q w' s') :
 wpAny (model X.prog X.w) A (getItem (.ref a) u) Q E s:=by
 rcases g with ⟨kvs,k,e,ey,l⟩ | ⟨kvs,k,b,e,ey,eb,l⟩
 . subst ey
   obtain ⟨z,hd,vs,rel,dd⟩:=jP I.hok e
   obtain ⟨w',hw,kE⟩:=dQ.some_of (v:=v) (o:=valueAt vs k) (by rw [l]; exact rel.val k)
   exact wpAny_getItem_of (jO ry) dd.mapOf hw (h w' _ (I.tok _) kE)
 . subst ey
   cases (show u=Value.ref b from ry)
   obtain ⟨z,hd,xs,rel,dd⟩:=lL I.hok e
   obtain ⟨w',hw,kE⟩:=dQ.some_of (v:=v) (o:=(atKey xs k).map (·.2)) (by rw [l]; exact rel.val k)
   obtain ⟨p,hp,iK⟩:=Option.map_eq_some_iff.mp hw
   refine wpAny_getItem_heap (tupleKind_room_in1 hu) (kz I.hok eb) dd hp ?_
   rw [iK]
   exact h w' _ (I.tok _) kE
theorem Oz {Q:Value->Shared->Prop}(hu:A.units+1<cLine) (I:Inv X pins σ H s) (g:cG H a y o) (ry:RelV y u) (h:∀s',Inv X pins σ H s'->Q (.bool o.isSome) s') :
 wpAny (model X.prog X.w) A (compareOp .In u (.ref a)) Q E s:=by
 rcases g with ⟨kvs,k,e,ey,l⟩ | ⟨kvs,k,b,e,ey,eb,l⟩
 . subst ey
   obtain ⟨z,hd,vs,rel,dd⟩:=jP I.hok e
   refine wpAny_in_of (jO ry) hd dd.mapOf ?_
   rw [← (rel.val k).iJ,← l]
   exact h _ (I.tok _)
 . subst ey
   cases (show u=Value.ref b from ry)
   obtain ⟨z,hd,xs,rel,dd⟩:=lL I.hok e
   refine wpAny_in_heap (tupleKind_room_in1 hu) (kz I.hok eb) hd dd ?_
   have q:=(rel.val k).iJ
   rw [Option.isSome_map] at q
   rw [← q,← l]
   exact h _ (I.tok _)
theorem EI {Q:Value->Shared->Prop}(hu:A.units+1<cLine) (I:Inv X pins σ H s) (g:cG H a y o) (ry:RelV y u) (h:∀s',Inv X pins σ H s'->Q (.bool (!o.isSome)) s') :
 wpAny (model X.prog X.w) A (compareOp .NotIn u (.ref a)) Q E s:=by
 rcases g with ⟨kvs,k,e,ey,l⟩ | ⟨kvs,k,b,e,ey,eb,l⟩
 . subst ey
   obtain ⟨z,hd,vs,rel,dd⟩:=jP I.hok e
   refine wpAny_notIn_of (jO ry) hd dd.mapOf ?_
   rw [← (rel.val k).iJ,← l]
   exact h _ (I.tok _)
 . subst ey
   cases (show u=Value.ref b from ry)
   obtain ⟨z,hd,xs,rel,dd⟩:=lL I.hok e
   refine wpAny_notIn_heap (tupleKind_room_in1 hu) (kz I.hok eb) hd dd ?_
   have q:=(rel.val k).iJ
   rw [Option.isSome_map] at q
   rw [← q,← l]
   exact h _ (I.tok _)
theorem n9 {h':Heap}{t':Nat}{ob:HO}(I:Inv X pins σ H s) (mu:zu (H a)) (hs:Heap.SameBut a s.heap h') (he:∃q,h'.get? a=some q) (new:bg X.prog X.w (upd H a ob) h' a ob) :
 Inv X pins σ (upd H a ob) { s with heap:=h',toks:=t' } :=
 I.write (x:=a) (e:=a) mu (.inl rfl) (λb q hb z=>(hs.2 b hb).trans z) he new
theorem pY {P:Program}{w:World}{H':Hp}{h':Heap}{kvs:List (Key×V)}{vs:List (Key×Value)}(z:kvs.length<=sizeLine) (hd:(a == sysModules)=false) (rel:KV kvs vs) (dd:h'.DictOf (ba P w) a vs) :
 bg P w H' h' a (.dK kvs):=⟨z,hd,vs,rel,dd⟩
theorem zR {H':Hp}{Q:Unit->Shared->Prop}(hu:A.units+1<cLine) (I:Inv X pins σ H s) (g:gJ H a y v H') (ry:RelV y u) (rv:RelV v r) (h:∀s',Inv X pins σ H' s'->Q () s') :
 wpAny (model X.prog X.w) A (setItem (.ref a) u r) Q E s:=by
 rcases g with ⟨kvs,k,e,ey,l,eH⟩ | ⟨kvs,k,b,e,ey,eb,l,eH⟩
 . subst ey eH
   obtain ⟨z,hd,vs,rel,dd⟩:=pX I.hok e
   have hz:vs.length<=sizeLine:=by rw [← rel.length]; exact z
   have hl:(putK kvs k v).length<=sizeLine:=by have:=eg kvs k v; omega
   refine wpAny_setItem_pairs (hsz:=hz) (jO ry) dd λh' pZ hs=>h _ ?_
   have he:∃q,h'.get? a=some q:=let ⟨q,_,_,hq,_⟩:=pZ; ⟨q,hq⟩
   exact n9 I (by rw [e]; exact True.intro) hs he (pY hl hd (rel.put k rv) pZ)
 . subst ey eH
   cases (show u=Value.ref b from ry)
   obtain ⟨z,hd,xs,rel,dd⟩:=Kb I.hok e
   have hz:xs.length<=sizeLine:=by rw [← Paired.length rel]; exact z
   have hl:(putK kvs k v).length<=sizeLine:=by have:=eg kvs k v; omega
   refine wpAny_setItem_heap (hsz:=hz) (tupleKind_room_in1 hu) (kz I.hok eb) dd λh' pZ hs=>h _ ?_
   obtain ⟨q,es,ep,hq,h2,h3,h4,_,h5⟩:=pZ
   refine n9 I (by rw [e]; exact True.intro) hs ⟨q,hq⟩ ⟨hl,hd,_,(rel.put k eb rv).keeps λc ys ec=>?_,q,es,ep,hq,h2,h3,h4,h5⟩
   rw [ai (aL ec e (λz=>nomatch z))]
   exact ec
end
section
variable {X:Cx}{pins:List (Addr×Obj)}{σ:St}{H:Hp}{s:Shared}{a:Addr}{kvs:List (Key×V)}{k:Key}{u:Value}{A:Around}{E:Value->Shared->Prop}
end
def Gg (i:Expr):Prop:=∀ov iv,subscripted i false ov iv=operate [ov,iv] (getItem ov iv)
theorem EJ {prog:Program}{w:World}{A:Around}{E:Value->Shared->Prop}{s:Shared}{env:Env}{value slice:Expr}{pos:Pos}{T id:String}{Q:Value->Shared->Prop}
 (hl:typeLookup (.type T) "__getitem__" = pure (some (.builtin id))) (hs:Gg slice)
 (h:wpAny (model prog w) A (eval value env) (λo cE=>wpAny (model prog w) A (eval slice env) (λi qZ=>qZ.TypeIs o T/\wpAny (model prog w) A (getItem o i) Q E qZ) E cE) E s) :
 wpAny (model prog w) A (eval (.Subscript value slice pos) env) Q E s:=by
 refine Subscript_ (wpAny_mono h (λo cE jn=>wpAny_mono jn (λi qZ o9=>?_) λ_ _ x=>x) λ_ _ x=>x)
 obtain ⟨hT,o9⟩:=o9
 unfold subscriptTail
 refine wpAny_bind ?_
 rw [getitemInPython_of_ne hT.not_modules]
 refine wpAny_bind (wpAny_specialOf hT hl ?_)
 have fin:wpAny (model prog w) A (subscripted slice false o i) (λr EK=>wpAny (model prog w) A (letTemporaryGo value o r >>= λ_=>pure r) Q E EK) E qZ:=by
  rw [hs o i]
  exact wpAny_operating (wpAny_mono o9 (λr EK rh=>wpAny_bind (wpAny_letTemporaryGo (wpAny_pure rh))) λ_ _ x=>x)
 first
  | exact wpAny_pure (wpAny_bind fin)
  | exact wpAny_bind (wpAny_pure (wpAny_bind fin))
  | exact wpAny_bind fin
theorem wy {X:Cx}{pins:List (Addr×Obj)}{σ:St}{H:Hp}{s:Shared}{a:Addr}{y:V}{o:Option V}(I:Inv X pins σ H s) (g:cG H a y o):s.TypeIs (.ref a) "dict":=by
 rcases g with ⟨kvs,k,e,_,_⟩ | ⟨kvs,k,b,e,_,_,_⟩
 . obtain ⟨_,_,vs,_,dd⟩:=jP I.hok e
   exact dd.typeIs
 . obtain ⟨_,_,xs,_,dd⟩:=lL I.hok e
   exact dd.typeIs
def yh (td ty:TE):TE:=λσ H Q=>td σ H λx H1=>ty σ H1 λy H2=>∃a v,x=.ref a/\cG H2 a y (some v)/\Q v H2
def OA (ty td:TE):TE:=λσ H Q=>ty σ H λy H1=>td σ H1 λx H2=>∃a o,x=.ref a/\cG H2 a y o/\Q (.bl o.isSome) H2
def EL (ty td:TE):TE:=λσ H Q=>ty σ H λy H1=>td σ H1 λx H2=>∃a o,x=.ref a/\cG H2 a y o/\Q (.bl (!o.isSome)) H2
def Kc (td ty tv:TE):TS:=λD σ H=>tv σ H λv H1=>td σ H1 λx H2=>ty σ H2 λy H3=>∃a H4,x=.ref a/\gJ H3 a y v H4/\D.nx σ H4
section
variable {X:Cx}{o i e value:Expr}{pos pos' Ox:Pos}{td ty tv:TE}
theorem ij (hu:X.A.units+1<cLine) (ho:PE X o td) (hi:PE X i ty) (hs:Gg i):PE X (.Subscript o i pos) (yh td ty):=by
 intro pins s σ H Q I h
 refine EJ PySem.F.slot_dict_getitem.lookup hs (aH (ho pins s σ H _ I h) λu s1 ⟨x,H1,I1,rx,q1⟩=>aH (hi pins s1 σ H1 _ I1 q1) λiv s2 ⟨y,H2,I2,ry,a,v,ex,g,q2⟩=>?_)
 subst ex
 obtain rfl:u=Value.ref a:=rx
 exact ⟨wy I2 g,zQ hu I2 g ry λw' s3 I3 kE=>⟨v,H2,I3,kE,q2⟩⟩
theorem ue (hu:X.A.units+1<cLine) (hi:PE X i ty) (ho:PE X o td):PC X .In i o (OA ty td):=by
 intro pins s σ H Q I h
 refine aH (hi pins s σ H _ I h) λiv s1 ⟨y,H1,I1,ry,q1⟩=>aH (ho pins s1 σ H1 _ I1 q1) λu s2 ⟨x,H2,I2,rx,a,ov,ex,g,q2⟩=>?_
 subst ex
 obtain rfl:u=Value.ref a:=rx
 exact Oz hu I2 g ry λs3 I3=>⟨.bl ov.isSome,H2,I3,rfl,q2⟩
theorem su (hu:X.A.units+1<cLine) (hi:PE X i ty) (ho:PE X o td):PC X .NotIn i o (EL ty td):=by
 intro pins s σ H Q I h
 refine aH (hi pins s σ H _ I h) λiv s1 ⟨y,H1,I1,ry,q1⟩=>aH (ho pins s1 σ H1 _ I1 q1) λu s2 ⟨x,H2,I2,rx,a,ov,ex,g,q2⟩=>?_
 subst ex
 obtain rfl:u=Value.ref a:=rx
 exact EI hu I2 g ry λs3 I3=>⟨.bl (!ov.isSome),H2,I3,rfl,q2⟩
theorem jc (hu:X.A.units+1<cLine) (ho:PE X o td) (hi:PE X i ty) (hv:PE X value tv) (hs:swapsWith value (some (.Subscript o i pos')) pos.line X.env=pure false) :
 PS X (.Assign [.Subscript o i pos'] value pos) (Kc td ty tv):=by
 intro pins s σ H D I h
 refine wpAny_Assign_Subscript (aH (hv pins s σ H _ I h) λr s1 ⟨v,H1,I1,rv,q1⟩=>aH (ho pins s1 σ H1 _ I1 q1) λu s2 ⟨x,H2,I2,rx,q2⟩=>aH (hi pins s2 σ H2 _ I2 q2) λiv s3 ⟨y,H3,I3,ry,a,H4,ex,g,q3⟩=>?_) hs
 subst ex
 obtain rfl:u=Value.ref a:=rx
 exact zR hu I3 g ry rv λs4 I4=>⟨σ,H4,I4,q3⟩
end
theorem uf {P:Program}{w:World}{H:Hp}(h:Heap) (hb:sysModules<h.objs.size):bg P w H (h.push { cls:=.type "dict",data:=.dict #[] }) h.objs.size (.dK []):=
 ⟨Nat.zero_le _,beq_eq_false_iff_ne.mpr (Ne.symm (Nat.ne_of_lt hb)),[],.nil,Heap.DictOf.new h⟩
theorem B7 {P:Program}{w:World}{H:Hp}(h:Heap) (hb:sysModules<h.objs.size):bg P w H (h.push { cls:=.type "dict",data:=.dict #[] }) h.objs.size (.dT []):=
 ⟨Nat.zero_le _,beq_eq_false_iff_ne.mpr (Ne.symm (Nat.ne_of_lt hb)),[],.nil,_,#[],0,Heap.get?_push_size _ rfl,⟨rfl,rfl,rfl⟩,rfl,rfl,List.nodup_nil⟩
def Gh:TE:=λ_ H Q=>∀p,H p=none->Q (.ref p) (upd H p (.dK []))
def Gi:TE:=λ_ H Q=>∀p,H p=none->Q (.ref p) (upd H p (.dT []))
section
variable {X:Cx}{pos:Pos}
theorem pb:PE X (.Dict [] [] pos) Gh:=λpins s σ H Q I h=>
 wpAny_Dict_empty ⟨.ref s.heap.objs.size,_,I.laid (a:=s.heap.objs.size) (o:=.dK []) (t':=s.toks) (λ_ _ q=>Heap.get?_push_of_some _ q) (Nat.le_refl _) (uf s.heap I.big),rfl,h _ (I.hok.fresh (Nat.le_refl _))⟩
theorem ug:PE X (.Dict [] [] pos) Gi:=λpins s σ H Q I h=>
 wpAny_Dict_empty ⟨.ref s.heap.objs.size,_,I.laid (a:=s.heap.objs.size) (o:=.dT []) (t':=s.toks) (λ_ _ q=>Heap.get?_push_of_some _ q) (Nat.le_refl _) (B7 s.heap I.big),rfl,h _ (I.hok.fresh (Nat.le_refl _))⟩
end
def uh:List (TE×TE)->St->Hp->(List (V×V)->Hp->Prop)->Prop
 | [],_,H,Q=>Q [] H
 | (tk,tv)::r,σ,H,Q=>tk σ H λx H1=>tv σ H1 λy H2=>uh r σ H2 λps H3=>Q ((x,y)::ps) H3
abbrev VV:List (V×V)->List (Value×Value)->Prop:=Paired λp q=>RelV p.1 q.1/\RelV p.2 q.2
def Di (X:Cx) (pos:Pos) (keys:List (Option Expr)) (values:List Expr) (qa:List (TE×TE)):Prop:=
 ∀(pins:List (Addr×Obj)) (s:Shared) (σ:St) (H:Hp) (Q:List (V×V)->Hp->Prop),Inv X pins σ H s->uh qa σ H Q->
  wpAny (model X.prog X.w) X.A (evalPairs (pairTrees keys values X.env pos)) (λvs s'=>∃ps H',Inv X pins σ H' s'/\VV ps vs/\Q ps H') X.xe s
theorem EM {X:Cx}{pos:Pos} : Di X pos [] [] []:=λpins s σ H Q I h=>pairTrees_nil_walk ⟨[],H,I,.nil,h⟩
theorem ui {X:Cx}{pos:Pos}{k v:Expr}{ks:List (Option Expr)}{vs:List Expr}{tk tv:TE}{qa:List (TE×TE)}(hk:PE X k tk) (hv:PE X v tv) (hr:Di X pos ks vs qa) :
 Di X pos (some k::ks) (v::vs) ((tk,tv)::qa):=λpins s σ H Q I h=>
 pairTrees_cons_walk (aH (hk pins s σ H _ I h) λu s1 ⟨x,H1,I1,rx,q1⟩=>aH (hv pins s1 σ H1 _ I1 q1) λw2 s2 ⟨y,H2,I2,ry,q2⟩=>
  aH (hr pins s2 σ H2 _ I2 q2) λws s3 ⟨ps,H3,I3,rel,q3⟩=>⟨(x,y)::ps,H3,I3,.cons ⟨rx,ry⟩ rel,q3⟩)
def cH (kvs more:List (Key×V)):List (Key×V):=more.foldl (λacc kv=>putK acc kv.1 kv.2) kvs
theorem KV.merge:∀{more:List (Key×V)}{rs:List (Key×Value)}{kvs:List (Key×V)}{vs:List (Key×Value)},KV more rs->KV kvs vs->KV (cH kvs more) (merged vs rs):=by
 intro more rs kvs vs r
 unfold KV at r
 induction r generalizing kvs vs with
 | nil=>intro q; exact q
 | @cons p q ps qs h t ih=>
  intro r0
  have e:KV (putK kvs p.1 p.2) (stored vs q.1 q.2):=by
   have:=r0.put p.1 h.2
   rw [← h.1]; exact this
  exact ih e
theorem iU:∀(more kvs:List (Key×V)),(cH kvs more).length<=kvs.length+more.length
 | [],kvs=>by show kvs.length<=kvs.length+0; omega
 | p::r,kvs=>by
  have h1:=iU r (putK kvs p.1 p.2)
  have h2:=eg kvs p.1 p.2
  show (cH (putK kvs p.1 p.2) r).length<=_
  rw [List.length_cons]; omega
theorem qd {P:Program}{w:World} : ∀{kvs:List (Key×V)}{ws:List (Value×Value)},VV (kvs.map λkv=>(kV kv.1,kv.2)) ws->∃rs,Carries (ba P w) ws rs/\KV kvs rs
 | [],_,r=>by rw [List.map_nil] at r; cases r; exact ⟨[],True.intro,.nil⟩
 | p::kvs,_,r=>by
  rw [List.map_cons] at r
  cases r with
  | @cons a b as bs h t=>
   obtain ⟨rs,c,q⟩:=qd (P:=P) (w:=w) t
   obtain ⟨b1,b2⟩:=b
   exact ⟨(p.1,b2)::rs,⟨jO h.1,rfl,c⟩,.cons ⟨rfl,h.2⟩ q⟩
def Kd (qa:List (TE×TE)):TE:=λσ H Q=>∀p,H p=none->uh qa σ (upd H p (.dK [])) λps H2=>H2 p=some (.dK [])/\∃kvs:List (Key×V),ps=kvs.map (λkv=>(kV kv.1,kv.2))/\kvs.length<=15/\Q (.ref p) (upd H2 p (.dK (cH [] kvs)))
theorem EN {X:Cx}{pos:Pos}{keys:List (Option Expr)}{values:List Expr}{qa:List (TE×TE)}(h:Di X pos keys values qa) (jo:keys.all (·.isSome)=true) (hl:keys.length=values.length) (h0:keys≠[])
 (RH:keys.length<=15):PE X (.Dict keys values pos) (Kd qa):=by
 intro pins s σ H Q I q
 have hn:=I.hok.fresh (Nat.le_refl s.heap.objs.size)
 have I1:=I.laid (a:=s.heap.objs.size) (o:=.dK []) (h':=s.heap.push { cls:=.type "dict",data:=.dict #[] }) (t':=s.toks) (λ_ _ q=>Heap.get?_push_of_some _ q) (Nat.le_refl _) (uf s.heap I.big)
 refine wpAny_Dict_walk (knd:=ba X.prog X.w) jo hl h0 RH (aH (h pins _ σ _ _ I1 (q _ hn)) λws s2 ⟨ps,H2,I2,rel,e,kvs,ep,lk,q2⟩=>?_)
 subst ep
 obtain ⟨rs,c,rk⟩:=qd (P:=X.prog) (w:=X.w) rel
 obtain ⟨z,hd,Wx,r0,dd⟩:=pX I2.hok e
 cases r0
 refine ⟨rs,c,dd,λh' pZ hs=>⟨.ref s.heap.objs.size,_,?_,rfl,q2⟩⟩
 have hz:(cH [] kvs).length<=sizeLine:=by
  have h1:=iU kvs []
  rw [List.length_nil] at h1
  rw [sizeLine_eq]; omega
 have he:∃q,h'.get? s.heap.objs.size=some q:=let ⟨q,_,_,hq,_⟩:=pZ; ⟨q,hq⟩
 exact n9 I2 (by rw [e]; exact True.intro) hs he (pY hz hd (rk.merge .nil) pZ)
structure M1 (X:Cx) (o:Expr) (m:Str) (apos:Pos) (e:Expr) (df:Pos):Prop where
 base:attributeBase o m X.env (eval o X.env)=eval o X.env
 qg:((backTo df (starEach [e] X.env)).all (λx=>!x.1) && (backToKw df (keywordEach [] X.env)).all (λx=>x.1.isSome)
  && decide (([e]:List Expr).length+([]:List Keyword).length+(if ([]:List Keyword).isEmpty then 0 else 1)<30))=true
 line:(apos.endLine == df.line)=true
 trees:backTo df (starEach [e] X.env)=[(false,eval e X.env)]
def Mf (H:Hp) (a:Addr):Prop:=(∃kvs,Rd H a (.dK kvs))\/∃kvs,Rd H a (.dT kvs)
theorem Gj {X:Cx}{pins:List (Addr×Obj)}{σ:St}{H:Hp}{s:Shared}{a:Addr}(I:Inv X pins σ H s) (d:Mf H a) :
 s.TypeIs (.ref a) "dict" /\ (∀b,Value.ref a=.ref b->∃ob,s.heap.get? b=some ob/\ob.dict=none)/\(a == sysModules)=false:=by
 rcases d with ⟨kvs,e⟩ | ⟨kvs,e⟩
 . obtain ⟨_,hd,vs,_,dd⟩:=jP I.hok e
   refine ⟨dd.typeIs,λb q=>?_,hd⟩
   cases q
   obtain ⟨ob,_,_,h1,h2,_⟩:=dd
   exact ⟨ob,h1,h2.2.1⟩
 . obtain ⟨_,hd,xs,_,dd⟩:=lL I.hok e
   refine ⟨dd.typeIs,λb q=>?_,hd⟩
   cases q
   obtain ⟨ob,_,_,h1,h2,_⟩:=dd
   exact ⟨ob,h1,h2.2.1⟩
section
variable {X:Cx}{pins:List (Addr×Obj)}{σ:St}{H:Hp}{s:Shared}{a:Addr}{y d:V}{u r:Value}{o:Option V}{A:Around}{E:Value->Shared->Prop}
theorem Gk {Q:Value->Shared->Prop}(hu:A.units+1<cLine) (I:Inv X pins σ H s) (g:cG H a y o) (ry:RelV y u) (h:∀w' s',Inv X pins σ H s'->RelV (o.getD .aX) w'->Q w' s') :
 wpAny (model X.prog X.w) A (call (.builtin "dict.get") [.ref a,u]) Q E s:=by
 rcases g with ⟨kvs,k,e,ey,l⟩ | ⟨kvs,k,b,e,ey,eb,l⟩
 . subst ey
   obtain ⟨z,hd,vs,rel,dd⟩:=jP I.hok e
   refine call_meetsIn PySem.F.slot_dict_get dd.typeIs PySem.F.entry_dict_get (PySem.F.args_dict_get_2 _ _) (meets_dict_get (ba X.prog X.w) a (jO ry) hd) ⟨_,dd.mapOf,h _ _ (I.tok _) ?_⟩
   rw [l]
   exact (rel.val k).getD rfl
 . subst ey
   cases (show u=Value.ref b from ry)
   obtain ⟨z,hd,xs,rel,dd⟩:=lL I.hok e
   refine call_meetsIn PySem.F.slot_dict_get dd.typeIs PySem.F.entry_dict_get (PySem.F.args_dict_get_2 _ _) (meetsH_dict_get (tupleKind (ba X.prog X.w)) a b hd) ⟨tupleKind_room_in1 hu,k,xs,kz I.hok eb,dd,h _ _ (I.tok _) ?_⟩
   rw [l]
   exact (rel.val k).getD rfl
end
def Gm (td ty:TE):TE:=λσ H Q=>td σ H λx H1=>∃a,x=.ref a/\Mf H1 a/\ty σ H1 λy H2=>∃o,cG H2 a y o/\Q (o.getD .aX) H2
section
variable {X:Cx}{o e f:Expr}{apos df:Pos}{td ty tx:TE}
theorem pe (hu:X.A.units+1<cLine) (ho:PE X o td) (he:PE X e ty) (m:M1 X o "get" apos e df):PE X (.Call (.Attribute o "get" apos) [e] [] df) (Gm td ty):=by
 intro pins s σ H Q I h
 refine wpAny_Call_method m.base m.qg m.line PySem.F.plainAttrs_dict PySem.F.slot_dict_get PySem.F.type_dict_get (aH (ho pins s σ H _ I h) λu s1 ⟨x,H1,I1,rx,a,ex,d,q1⟩=>?_)
 subst ex
 obtain rfl:u=Value.ref a:=rx
 obtain ⟨t1,t2,_⟩:=Gj I1 d
 refine ⟨t1,t2,?_⟩
 rw [m.trees]
 refine Calls.callWith_builtin rfl (Calls.evalArgs_plain (Calls.spliced_cons (aH (he pins s1 σ H1 _ I1 q1) λiv s2 ⟨y,H2,I2,ry,ov,g,q2⟩=>Calls.spliced_nil ?_)))
 exact Gk hu I2 g ry λw' s3 I3 kE=>⟨_,H2,I3,kE,q2⟩
end
section
variable {X:Cx}{pins:List (Addr×Obj)}{σ:St}{H:Hp}{s:Shared}{a:Addr}{kvs:List (Key×V)}{A:Around}{E:Value->Shared->Prop}
end
section
variable {X:Cx}{pins:List (Addr×Obj)}{σ:St}{H:Hp}{s:Shared}{a:Addr}{y:V}{u:Value}{A:Around}{E:Value->Shared->Prop}
end
end L2
namespace HT
open PySem PyProof.Rows
def lexLt:List Int->List Int->Bool
 | [],[]=>false
 | [],_::_=>true
 | _::_,[]=>false
 | x::xs,y::ys=>if x=y then lexLt xs ys else decide (x<y)
theorem i7 (x y:Int) (xs ys:List Int):lexLt (x::xs) (y::ys)=if x=y then lexLt xs ys else decide (x<y):=rfl
theorem tG:lexLt [] []=false:=rfl
section
open PySem.SeqAt
open PySem.AutoSeq1 (wpAny_loadPart')
open PySem.MeetsSeq PySem.MeetsSeq2 PySem.MeetsSeq3
end
section
variable {prog:Program}{w:World}{A:Around}{E:Value->Shared->Prop}{s:Shared}
theorem EO {t b:Addr}{vs ws:List Value}{Q:Value->Shared->Prop}(ht:IsTup s.heap t vs.toArray) (hb:IsTup s.heap b ws.toArray) (hv:vs≠[])
 (h1:ws=[]->Q (.ref t) s) (h2:ws≠[]->Q (.ref s.heap.objs.size) { s with heap:=s.heap.push { cls:=.type "tuple",data:=.seq (vs++ws).toArray } })
 (hsz:vs.length+ws.length<=sizeLine):wpAny (model prog w) A (binaryOp .Add (.ref t) (.ref b)) Q E s:=by
 obtain ⟨⟨cls,dd,data,sl⟩,ho,hc,n,hd⟩:=id ht
 obtain ⟨⟨OB,Dj,data2,wX⟩,qh,zS,n2,hd2⟩:=id hb
 simp only at hc hd zS hd2
 subst hc hd zS hd2
 have e:vs.toArray++ws.toArray=(vs++ws).toArray:=by simp
 by_cases hw:ws=[]
 . exact concat_meets ⟨_,ho,rfl⟩ ⟨_,qh,rfl⟩ noFill_tuple_add seq_tuple_add PySem.F.slot_tuple_add PySem.F.entry_tuple_add (PySem.F.args_tuple_add_2 _ _)
    (tuple_addW1 t b vs.toArray ws.toArray n n2 dd Dj sl wX (by simpa using hv) (by simp [hw])) ⟨ho,qh,h1 hw⟩
 . refine concat_meets ⟨_,ho,rfl⟩ ⟨_,qh,rfl⟩ noFill_tuple_add seq_tuple_add PySem.F.slot_tuple_add PySem.F.entry_tuple_add (PySem.F.args_tuple_add_2 _ _)
    (tuple_addW2 t b vs.toArray ws.toArray n n2 dd Dj sl wX (by simpa using hv) (by simpa using hw) (by rw [List.size_toArray,List.size_toArray]; exact hsz)) ⟨ho,qh,?_⟩
   rw [e]
   exact h2 hw
def iL (n d:Nat):Option Int->Nat
 | none=>d
 | some v=>if v<0 then (v+(n:Int)).toNat else min v.toNat n
theorem uk (n d:Nat):iL n d none=d:=rfl
theorem wY (n d k:Nat):iL n d (some (k:Int))=min k n:=by
 show (if (k:Int)<0 then ((k:Int)+(n:Int)).toNat else min (k:Int).toNat n)=min k n
 rw [if_neg (by omega),Int.toNat_natCast]
end
end HT
namespace L2
open PySem PySem.Spec PyProof.Rows
abbrev TO:=St->Hp->(Option Int->Hp->Prop)->Prop
def PO (X:Cx) (e:Option Expr) (t:TO):Prop:=
 ∀(pins:List (Addr×Obj)) (s:Shared) (σ:St) (H:Hp) (Q:Option Int->Hp->Prop),Inv X pins σ H s->t σ H Q->
  wpAny (model X.prog X.w) X.A (evalPart e X.env) (λu s'=>∃o H',Inv X pins σ H' s'/\IsPart u o/\Q o H') X.xe s
def ER:TO:=λ_ H Q=>Q none H
def Ke (t:TE):TO:=λσ H Q=>t σ H λx H1=>∃i,x=.int i/\Q (some i) H1
theorem intsAre_of {ns:List Int} : ∀{us:List Value},Vals (ns.map V.int) us->IntsAre us ns:=by
 induction ns with
 | nil=>intro us r; rw [List.map_nil] at r; cases r; exact .nil
 | cons n ns ih=>
  intro us r
  rw [List.map_cons] at r
  cases r with
  | cons r1 r2=>
   obtain ⟨t,e⟩:=r1
   subst e
   exact .cons n t (ih r2)
section
variable {X:Cx}{e:Expr}{te:TE}{lo hi:Option Expr}{tl th:TO}{pos p2:Pos}
theorem gm:PO X none ER:=by
 intro pins s σ H Q I h
 rw [evalPart_none]
 exact wpAny_pure ⟨none,H,I,.none,h⟩
theorem eu (h:PE X e te):PO X (some e) (Ke te):=by
 intro pins s σ H Q I hw
 rw [evalPart_some]
 refine aH (h pins s σ H _ I hw) λu s1 ⟨x,H1,I1,r1,q1⟩=>?_
 obtain ⟨i,rfl,q⟩:=q1
 obtain ⟨t,rfl⟩:=r1
 exact ⟨some i,H1,I1,.int i t,q⟩
def Gn (X:Cx) (r:V->Option Int->Option Int->Hp->VK->Prop):Prop:=
 ∀(pins:List (Addr×Obj)) (s:Shared) (σ:St) (H:Hp) (x:V) (v vl vu:Value) (lo hi:Option Int) (sl:Addr) (Q:VK),Inv X pins σ H s->RelV x v->s.heap.IsSliceOf sl vl vu .none->IsPart vl lo->IsPart vu hi->r x lo hi H Q->
  ∃T id,typeLookup (.type T) "__getitem__" = pure (some (.builtin id))/\s.TypeIs v T/\wpAny (model X.prog X.w) X.A (getItem v (.ref sl)) (EP X pins σ Q) X.xe s
def RI (r:V->Option Int->Option Int->Hp->VK->Prop) (te:TE) (tl th:TO):TE:=λσ H Q=>te σ H λx H1=>tl σ H1 λl H2=>th σ H2 λu H3=>r x l u H3 Q
theorem dZ {r:V->Option Int->Option Int->Hp->VK->Prop}(hr:Gn X r) (he:PE X e te) (hl:PO X lo tl) (hu:PO X hi th):PE X (.Subscript e (.Slice lo hi none p2) pos) (RI r te tl th):=by
 intro pins s σ H Q I h
 refine Subscript_ (aH (he pins s σ H _ I h) λv s1 ⟨x,H1,I1,r1,q1⟩=>?_)
 refine wpAny_Slice (aH (hl pins s1 σ H1 _ I1 q1) λvl s2 ⟨l,H2,I2,pl,q2⟩=>aH (hu pins s2 σ H2 _ I2 q2) λvu s3 ⟨u,H3,I3,pu,q3⟩=>?_)
 rw [evalPart_none]
 refine wpAny_pure ?_
 have I4:Inv X pins σ H3 { s3 with heap:=s3.heap.push { cls:=.type "slice",data:=.fields #[vl,vu,.none] } }:=I3.kept (t':=s3.toks) λb ob q=>Heap.get?_push_of_some _ q
 obtain ⟨T,id,hT,ht,hg⟩:=hr pins { s3 with heap:=s3.heap.push { cls:=.type "slice",data:=.fields #[vl,vu,.none] } } σ H3 x v vl vu l u s3.heap.objs.size Q I4 r1 (Heap.IsSliceOf.new ..) pl pu q3
 show wpAny (model X.prog X.w) X.A (subscriptTail e (.Slice lo hi none p2) v (.ref s3.heap.objs.size)) (EP X pins σ Q) X.xe { s3 with heap:=s3.heap.push { cls:=.type "slice",data:=.fields #[vl,vu,.none] } }
 exact tail_any (ops:=[.ref s3.heap.objs.size,v]) ht hT hg (by with_unfolding_all rfl)
def d4 (xs:List V) (lo hi:Option Int):List V:=(xs.drop (HT.iL xs.length 0 lo)).take (HT.iL xs.length xs.length hi-HT.iL xs.length 0 lo)
theorem wz (xs:List V) (lo hi:Option Int):(d4 xs lo hi).length<=xs.length:=by
 unfold d4
 rw [List.length_take,List.length_drop]
 omega
def Kf (K:W.Frag):R2:=λx y H Q=>∃a b xs ys,x=.ref a/\y=.ref b/\aT K H a xs/\aT K H b ys/\xs≠[]/\xs.length+ys.length<=sizeLine/\
 (ys=[]->Q (.ref a) H)/\(ys≠[]->∀p,H p=none->Q (.ref p) (upd H p (.tup (xs++ys))))
theorem Vals.oa {xs:List V}{us:List Value}(r:Vals xs us):us=[] ↔ xs=[]:=by
 cases r with
 | nil=>simp
 | cons _ _=>simp
theorem ES:di X (binaryOp .Add) (Kf X.K):=by
 intro pins s σ H x y v u Q I rx ry h
 obtain ⟨a,b,xs,ys,rfl,rfl,ha,hb,hx,hz,q1,q2⟩:=h
 cases rx
 cases ry
 obtain ⟨its,r1,p1,_⟩:=I.tuple ha
 obtain ⟨j5,r2,p2,_⟩:=I.tuple hb
 refine HT.EO p1 p2 (λz=>hx (r1.oa.mp z)) (λz=>⟨.ref a,H,I,rfl,q1 (r2.oa.mp z)⟩) (λz=>?_) (by rw [← r1.length,← r2.length]; exact hz)
 refine ⟨.ref s.heap.objs.size,_,I.laid (t':=s.toks) (o:=.tup (xs++ys)) (λb ob q=>Heap.get?_push_of_some _ q) (Nat.le_refl _) ?_,rfl,q2 (λw=>z (r2.oa.mpr w)) _ (I.hok.fresh (Nat.le_refl _))⟩
 exact ⟨by rw [List.length_append]; exact hz,_,r1.append r2,IsTup.new _ _⟩
end
end L2
namespace L2
open PySem PySem.Spec PyProof.Rows
def sv (n:Nat) (i:Int):Option Nat:=if 0<=i then (if i<n then some i.toNat else none) else if -(n:Int)<=i then some (i+n).toNat else none
def jQ {α:Type}(xs:List α) (i:Int):Option α:=(sv xs.length i).bind λj=>xs[j]?
theorem wZ {n:Nat}{i:Int}{j:Nat}(h:sv n i=some j):seqIndex? i n=some j/\j<n /\ -(n:Int)<=i/\i<n:=by
 unfold sv at h
 by_cases h0:0<=i
 . rw [if_pos h0] at h
   by_cases h1:i<n
   . rw [if_pos h1] at h
     have e:i.toNat=j:=Option.some.inj h
     exact ⟨by rw [seqIndex_of h0 h1,e],by omega,by omega,h1⟩
   . rw [if_neg h1] at h; cases h
 . rw [if_neg h0] at h
   by_cases h1 : -(n:Int)<=i
   . rw [if_pos h1] at h
     have e:(i+n).toNat=j:=Option.some.inj h
     exact ⟨by rw [seqIndex_neg (by omega) h1,e],by omega,h1,by omega⟩
   . rw [if_neg h1] at h; cases h
theorem rj {α:Type}{xs:List α}{i:Int}{v:α}(h:jQ xs i=some v):∃j,seqIndex? i xs.length=some j/\xs[j]?=some v/\j<xs.length /\ -(xs.length:Int)<=i/\i<xs.length:=by
 unfold jQ at h
 cases e:sv xs.length i with
 | none=>rw [e] at h; cases h
 | some j=>
  rw [e] at h
  obtain ⟨h1,h2,h3,h4⟩:=wZ e
  exact ⟨j,h1,h,h2,h3,h4⟩
theorem aF {α:Type}{xs:List α}{j:Nat}{v:α}(h:xs[j]?=some v):jQ xs (j:Int)=some v:=by
 have hj:j<xs.length:=(List.getElem?_eq_some_iff.mp h).1
 have e:sv xs.length (j:Int)=some j:=by
  unfold sv
  rw [if_pos (by omega),if_pos (by omega)]; simp
 unfold jQ; rw [e]; exact h
def ET (b:Expr):Prop:=∀o i,subscripted b false o i=operate [o,i] (getItem o i)
def Dk (X:Cx) (r:R2):Prop:=
 ∀(value slice:Expr) (pins:List (Addr×Obj)) (s:Shared) (σ:St) (H:Hp) (x y:V) (v u:Value) (Q:VK),Inv X pins σ H s->RelV x v->RelV y u->r x y H Q->
  subscripted slice false v u=operate [v,u] (getItem v u)->wpAny (model X.prog X.w) X.A (subscriptTail value slice v u) (EP X pins σ Q) X.xe s
def Mg (X:Cx) (id:String) (r:V->List V->Hp->VK->Prop):Prop:=
 ∀(pins:List (Addr×Obj)) (s:Shared) (σ:St) (H:Hp) (x:V) (xs:List V) (v:Value) (us:List Value) (Q:VK),Inv X pins σ H s->RelV x v->Vals xs us->r x xs H Q->
  wpAny (model X.prog X.w) X.A (call (.builtin id) (v::us)) (EP X pins σ Q) X.xe s
section
variable {X:Cx}{a b:Expr}{ta tb:TE}{pos:Pos}
theorem aS {r:R2}(hr:Dk X r) (ha:PE X a ta) (hb:PE X b tb) (hs:ET b):PE X (.Subscript a b pos) (rX r ta tb):=by
 intro pins s σ H Q I h
 exact Subscript_ (BR ha hb I h λv u s2 x y H2 I2 rx ry q=>hr a b pins s2 σ H2 x y v u Q I2 rx ry q (hs _ _))
def dt (K:W.Frag):R2:=λx y H Q=>∃p xs i v,x=.ref p/\y=.int i/\ay K H p xs/\jQ xs i=some v/\Q v H
def cW (K:W.Frag):R2:=λx y H Q=>∃p xs i v,x=.ref p/\y=.int i/\aT K H p xs/\jQ xs i=some v/\Q v H
def OC:R2:=λx y H Q=>∃z i c,x=.str z/\y=.int i/\z.length<=sizeLine/\jQ z.cps.toList i=some c/\Q (.str ⟨#[c]⟩) H
theorem bz:Dk X (dt X.K):=by
 intro value slice pins s σ H x y v u Q I rx ry h hs
 obtain ⟨p,xs,i,z,rfl,rfl,hq,he,q⟩:=h
 cases rx
 obtain ⟨t,rfl⟩:=ry
 obtain ⟨its,r,pl,hz⟩:=I.list hq
 obtain ⟨j,h1,h2,h3,h4,h5⟩:=rj he
 obtain ⟨w,ew,kE⟩:=r.get h2
 have hl:=r.length
 have hn:=nh
 have fin:EP X pins σ Q w s:=⟨z,H,I,kE,q⟩
 by_cases h0:0<=i
 . have hj:i.toNat=j:=by
    rw [seqIndex_of h0 h5] at h1
    exact Option.some.inj h1
   exact item_listR pl.isList h0 (by omega) (by rw [hj]; simpa using ew) fin hs
 . have hj:(i+(its.toArray.size:Int)).toNat=j:=by
    rw [seqIndex_neg (by omega) h4] at h1
    rw [List.size_toArray,← hl]
    exact Option.some.inj h1
   exact subscriptTail_builtinR (x:=w) pl.isList.typeIs slot_list_getitem.lookup
    (wpAny_getItem_list_neg (Q:=λr s'=>r=w/\EP X pins σ Q r s') pl.isList (by omega) (by rw [List.size_toArray] <;> omega) (by omega) (by rw [hj]; simpa using ew) ⟨rfl,fin⟩) hs
theorem bQ:Dk X (cW X.K):=by
 intro value slice pins s σ H x y v u Q I rx ry h hs
 obtain ⟨p,xs,i,z,rfl,rfl,hq,he,q⟩:=h
 cases rx
 obtain ⟨t,rfl⟩:=ry
 obtain ⟨its,r,pl,hz⟩:=I.tuple hq
 obtain ⟨j,h1,h2,h3,h4,h5⟩:=rj he
 obtain ⟨w,ew,kE⟩:=r.get h2
 have hl:=r.length
 have hn:=nh
 have fin:EP X pins σ Q w s:=⟨z,H,I,kE,q⟩
 exact subscriptTail_builtinR (x:=w) pl.typeIs slot_tuple_getitem.lookup
  (getItem_tuple (j:=j) (Q:=λr s'=>r=w/\EP X pins σ Q r s') pl (by omega) (by omega) (by rw [List.size_toArray,← hl]; exact h1) (by simpa using ew) ⟨rfl,fin⟩) hs
theorem Gp:Dk X OC:=by
 intro value slice pins s σ H x y v u Q I rx ry h hs
 obtain ⟨z,i,c,rfl,rfl,hz,he,q⟩:=h
 obtain ⟨t,rfl⟩:=rx
 obtain ⟨t',rfl⟩:=ry
 obtain ⟨j,h1,h2,h3,h4,h5⟩:=rj he
 have hl:z.cps.toList.length=z.length:=by simp [Str.length]
 rw [hl] at h1 h4 h5
 have hn:=nh
 exact tail_any (typeIs_str s z t) slot_str_getitem.lookup (getItem_str (c:=c) (by
  have e1:decide (i < -(2 ^ 63:Int))=false:=decide_eq_false (by omega)
  have e2:decide (i≥2 ^ 63)=false:=decide_eq_false (by omega)
  rw [e1,e2,Bool.or_false]) (by rw [h1]; simpa using h2) ⟨.str ⟨#[c]⟩,H,I.tok _,⟨_,rfl⟩,q⟩) hs
theorem yi (its:List Value) (n j:Nat) (u:Value):Obj.mapSeq (·.setIfInBounds j u) { cls:=.type "list",data:=.seq its.toArray n } = { cls:=.type "list",data:=.seq (its.set j u).toArray n }:=by
 simp [Obj.mapSeq]
theorem Inv.lst {pins:List (Addr×Obj)}{σ:St}{H:Hp}{s:Shared}{p:Addr}{xs:List V}(I:Inv X pins σ H s) (h:H p=some (.lst xs)) :
 ∃(its:List Value) (n:Nat),Vals xs its/\s.heap.get? p=some { cls:=.type "list",data:=.seq its.toArray n } /\ xs.length<=sizeLine:=by
 obtain ⟨z,its,n,r,e⟩:=I.hok p _ h
 exact ⟨its,n,r,e,z⟩
theorem Inv.Gq {pins:List (Addr×Obj)}{σ:St}{H:Hp}{s:Shared}{p:Addr}{xs ys:List V}{its its':List Value}{n n':Nat}{f:Obj->Obj}(I:Inv X pins σ H s) (h:H p=some (.lst xs))
 (ho:s.heap.get? p=some { cls:=.type "list",data:=.seq its.toArray n }) (hf:f { cls:=.type "list",data:=.seq its.toArray n } = { cls:=.type "list",data:=.seq its'.toArray n' }) (r:Vals ys its') (hz:ys.length<=sizeLine) (t:Nat) :
 Inv X pins σ (upd H p (.lst ys)) { s with heap:=s.heap.update p f,toks:=t }:=by
 have e:(s.heap.update p f).get? p=some { cls:=.type "list",data:=.seq its'.toArray n' }:=by
  rw [Heap.get?_update_self f ho (by rw [hf] <;> rfl),hf]
 refine I.write (x:=p) (e:=p) (by rw [h]; trivial) (.inl rfl) (λb u hb q=>(Heap.get?_update_other _ _ (Ne.symm hb)).trans q) ⟨_,e⟩ ?_
 exact ⟨hz,its',n',r,e⟩
def Kg:V->V->V->Hp->(Hp->Prop)->Prop:=λo i v H Q=>∃p xs k j,o=.ref p/\i=.int k/\H p=some (.lst xs)/\sv xs.length k=some j/\Q (upd H p (.lst (xs.set j v)))
theorem set_list:FY X Kg:=by
 intro pins s σ H o i v ov iv u Q I ro ri rv h
 obtain ⟨p,xs,k,j,rfl,rfl,hp,hj,q⟩:=h
 cases ro
 obtain ⟨t,rfl⟩:=ri
 obtain ⟨its,n,r,ho,hz⟩:=I.lst hp
 obtain ⟨h1,h2,h3,h4⟩:=wZ hj
 have hl:=r.length
 have hn:=nh
 have I':Inv X pins σ (upd H p (.lst (xs.set j v))) { s with heap:=s.heap.update p (Obj.mapSeq (·.setIfInBounds j u)) } :=
  I.Gq hp ho (yi its n j u) (r.set rv j) (by rw [List.length_set]; exact hz) s.toks
 by_cases h0:0<=k
 . have hk:k.toNat=j:=by
    rw [seqIndex_of h0 h4] at h1
    exact Option.some.inj h1
   exact W.ki_setAt ho h0 (by omega) (by rw [List.size_toArray,← hl]; exact h4) (by rw [hk]; exact ⟨_,I',q⟩)
 . have hk:(k+(its.toArray.size:Int)).toNat=j:=by
    rw [seqIndex_neg (by omega) h3] at h1
    rw [List.size_toArray,← hl]
    exact Option.some.inj h1
   exact W.ki_setBack ho (by omega) (by rw [List.size_toArray,← hl]; exact h3) (by omega) (by rw [hk]; exact ⟨_,I',q⟩)
theorem um (lo hi:Option Int) (n:Nat):(sliceBounds lo hi none n).1=((HT.iL n 0 lo:Nat):Int)/\(sliceBounds lo hi none n).2.1=((HT.iL n n hi:Nat):Int)/\(sliceBounds lo hi none n).2.2=1:=by
 refine ⟨?_,?_,rfl⟩
 . cases lo with
   | none=>simp [sliceBounds,HT.iL]
   | some i=>
    simp only [sliceBounds,HT.iL,Option.getD_none,show (1:Int)>0 by decide,if_true]
    by_cases h:i<0
    . simp only [h,if_true] <;> omega
    . simp only [h,if_false] <;> omega
 . cases hi with
   | none=>simp [sliceBounds,HT.iL]
   | some i=>
    simp only [sliceBounds,HT.iL,Option.getD_none,show (1:Int)>0 by decide,if_true]
    by_cases h:i<0
    . simp only [h,if_true] <;> omega
    . simp only [h,if_false] <;> omega
theorem tH (its:List Value) (lo hi:Option Int):slicePick its.toArray lo hi none=((its.drop (HT.iL its.length 0 lo)).take (HT.iL its.length its.length hi-HT.iL its.length 0 lo)).toArray:=by
 obtain ⟨h1,h2,h3⟩:=um lo hi its.toArray.size
 unfold slicePick
 rw [h1,h2,h3]
 simp only [sliceRange_one,pick_run,List.size_toArray] <;> rfl
def OD (K:W.Frag):V->Option Int->Option Int->Hp->VK->Prop:=λx lo hi H Q=>∃a xs,x=.ref a/\ay K H a xs/\∀p,H p=none->Q (.ref p) (upd H p (.lst (d4 xs lo hi)))
theorem kF:Gn X (OD X.K):=by
 intro pins s σ H x v vl vu lo hi sl Q I rx hs pl pu h
 obtain ⟨a,xs,rfl,hx,q⟩:=h
 cases rx
 obtain ⟨its,r,ht,hz⟩:=I.list hx
 have hlen:=r.length
 refine ⟨"list",_,slot_list_getitem.lookup,ht.isList.typeIs,?_⟩
 refine wpAny_getItem_list_slice ht.isList hs pl pu .none (by simp) ?_ (by rw [List.size_toArray] <;> omega)
 rw [tH,← hlen]
 refine ⟨.ref s.heap.objs.size,_,I.laid (t':=s.toks) (o:=.lst (d4 xs lo hi)) (λb ob q=>Heap.get?_push_of_some _ q) (Nat.le_refl _) ?_,rfl,q _ (I.hok.fresh (Nat.le_refl _))⟩
 exact ⟨Nat.le_trans (wz xs lo hi) hz,_,0,(r.drop (HT.iL xs.length 0 lo)).take (HT.iL xs.length xs.length hi-HT.iL xs.length 0 lo),Heap.get?_push_size _ rfl⟩
def gM:V->Bool
 | .aX=>true
 | .bl _=>true
 | .int _=>true
 | .str _=>true
 | _=>false
def gp:V->V->Bool
 | .aX,.aX=>true
 | .bl a,.bl b=>a == b
 | .bl a,.int b=>(if a then 1 else 0) == b
 | .int a,.bl b=>a == (if b then 1 else 0)
 | .int a,.int b=>a == b
 | .str a,.str b=>a == b
 | _,_=>false
theorem nu {A:Around}{s:Shared}{y x:V}{u v:Value}(ry:RelV y u) (rx:RelV x v) (fy:gM y=true) (fx:gM x=true):SeqAt.EqAt A s u v (gp y x):=by
 cases y with
 | aX=>
  cases ry
  cases x with
  | aX=>cases rx; exact SeqAt.EqAt.same _
  | bl b=>cases rx; exact SeqAt.EqAt.none_bool b
  | int b=>obtain ⟨t,rfl⟩:=rx; exact SeqAt.EqAt.none_int b t
  | str b=>obtain ⟨t,rfl⟩:=rx; exact SeqAt.EqAt.none_str b t
  | _=>exact absurd (show false=true from fx) Bool.false_ne_true
 | bl a=>
  cases ry
  cases x with
  | aX=>cases rx; exact SeqAt.EqAt.bool_none a
  | bl b=>cases rx; exact SeqAt.EqAt.bool_bool a b
  | int b=>obtain ⟨t,rfl⟩:=rx; exact SeqAt.EqAt.bool_int a b t
  | str b=>obtain ⟨t,rfl⟩:=rx; exact SeqAt.EqAt.bool_str a b t
  | _=>exact absurd (show false=true from fx) Bool.false_ne_true
 | int a=>
  obtain ⟨t',rfl⟩:=ry
  cases x with
  | aX=>cases rx; exact SeqAt.EqAt.int_none a t'
  | bl b=>cases rx; exact SeqAt.EqAt.int_bool a t' b
  | int b=>obtain ⟨t,rfl⟩:=rx; exact SeqAt.EqAt.int_int a t' b t
  | str b=>obtain ⟨t,rfl⟩:=rx; exact SeqAt.EqAt.int_str a t' b t
  | _=>exact absurd (show false=true from fx) Bool.false_ne_true
 | str a=>
  obtain ⟨t',rfl⟩:=ry
  cases x with
  | aX=>cases rx; exact SeqAt.EqAt.str_none a t'
  | bl b=>cases rx; exact SeqAt.EqAt.str_bool a t' b
  | int b=>obtain ⟨t,rfl⟩:=rx; exact SeqAt.EqAt.str_int a t' b t
  | str b=>obtain ⟨t,rfl⟩:=rx; exact SeqAt.EqAt.str_str a t' b t
  | _=>exact absurd (show false=true from fx) Bool.false_ne_true
 | _=>exact absurd (show false=true from fy) Bool.false_ne_true
def jq (x:V) (u:Value):Bool:=match u with
 | .none=>gp .aX x
 | .bool b=>gp (.bl b) x
 | .int i _=>gp (.int i) x
 | .str z _=>gp (.str z) x
 | _=>false
theorem zT {x y:V}{u:Value}(r:RelV y u) (f:gM y=true):jq x u=gp y x:=by
 cases y with
 | aX=>cases r; rfl
 | bl b=>cases r; rfl
 | int i=>obtain ⟨t,rfl⟩:=r; rfl
 | str z=>obtain ⟨t,rfl⟩:=r; rfl
 | _=>exact absurd (show false=true from f) Bool.false_ne_true
theorem kG {x:V} : ∀{xs:List V}{us:List Value},Vals xs us->xs.all gM=true->us.any (jq x)=xs.any λy=>gp y x
 | _,_,.nil,_=>rfl
 | y::xs,u::us,.cons r t,f=>by
  rw [List.all_cons,Bool.and_eq_true] at f
  rw [List.any_cons,List.any_cons,zT r f.1,kG t f.2]
theorem jr {A:Around}{s:Shared}{x:V}{v:Value}(rx:RelV x v) (fx:gM x=true):∀{xs:List V}{us:List Value},Vals xs us->xs.all gM=true->∀u∈us,SeqAt.EqAt A s u v (jq x u)
 | _,_,.nil,_=>λu hu=>by cases hu
 | y::xs,u::us,.cons r t,f=>λu' hu=>by
  rw [List.all_cons,Bool.and_eq_true] at f
  rcases List.mem_cons.mp hu with rfl | hu
  . rw [zT r f.1]; exact nu r rx f.1 fx
  . exact jr rx fx t f.2 u' hu
def Dl (x:V) (xs:List V):Bool:=xs.any λy=>gp y x
def Dm (K:W.Frag) (neg:Bool):R2:=λx y H Q=>∃p xs,y=.ref p/\(ay K H p xs\/aT K H p xs)/\gM x=true/\xs.all gM=true/\Q (.bl (if neg then !Dl x xs else Dl x xs)) H
theorem zU:di X (compareOp .In) (Dm X.K false):=by
 intro pins s σ H x y v u Q I rx ry h
 obtain ⟨p,xs,rfl,hq,fx,fs,q⟩:=h
 cases ry
 rcases hq with hq | hq
 . obtain ⟨its,r,pl,hz⟩:=I.list hq
   refine SeqAt.in_listAt (jq x) pl.isList (λw hw=>jr rx fx r fs w (by simpa using hw)) ⟨.bl _,H,I,rfl,?_⟩
   rw [show its.toArray.any (jq x)=its.any (jq x) by simp,kG r fs]
   exact q
 . obtain ⟨its,r,pl,hz⟩:=I.tuple hq
   refine SeqAt.in_tupleAt (jq x) pl (λw hw=>jr rx fx r fs w (by simpa using hw)) ⟨.bl _,H,I,rfl,?_⟩
   rw [show its.toArray.any (jq x)=its.any (jq x) by simp,kG r fs]
   exact q
theorem uo:di X (compareOp .NotIn) (Dm X.K true):=by
 intro pins s σ H x y v u Q I rx ry h
 obtain ⟨p,xs,rfl,hq,fx,fs,q⟩:=h
 cases ry
 rcases hq with hq | hq
 . obtain ⟨its,r,pl,hz⟩:=I.list hq
   refine SeqAt.notIn_listAt (jq x) pl.isList (λw hw=>jr rx fx r fs w (by simpa using hw)) ⟨.bl _,H,I,rfl,?_⟩
   rw [show its.toArray.any (jq x)=its.any (jq x) by simp,kG r fs]
   exact q
 . obtain ⟨its,r,pl,hz⟩:=I.tuple hq
   refine SeqAt.notIn_tupleAt (jq x) pl (λw hw=>jr rx fx r fs w (by simpa using hw)) ⟨.bl _,H,I,rfl,?_⟩
   rw [show its.toArray.any (jq x)=its.any (jq x) by simp,kG r fs]
   exact q
theorem aV:eD X (.builtin "len") (λxs H Q=>∃p ys,xs=[.ref p]/\(ay X.K H p ys\/aT X.K H p ys)/\Q (.int ys.length) H):=by
 intro pins s σ H xs us Q I r h
 obtain ⟨p,ys,rfl,hq,q⟩:=h
 obtain ⟨u,rfl,rx⟩:=vals1 r
 cases rx
 have hn:=nh
 rcases hq with hq | hq
 . obtain ⟨its,r',pl,hz⟩:=I.list hq
   have hlen:=r'.length
   exact Calls.call_len_list pl.isList (by simp only [List.size_toArray] <;> omega) ⟨.int ys.length,H,I.tok _,⟨s.toks+1,by rw [List.size_toArray,hlen]⟩,q⟩
 . obtain ⟨its,r',pl,hz⟩:=I.tuple hq
   have hlen:=r'.length
   exact len_tuple pl (by simp only [List.size_toArray] <;> omega) ⟨.int ys.length,H,I.tok _,⟨s.toks+1,by rw [List.size_toArray,hlen]⟩,q⟩
theorem eN:eD X (.type "list") (λxs H Q=>∃p ys,xs=[.ref p]/\(ay X.K H p ys\/aT X.K H p ys)/\∀l,H l=none->Q (.ref l) (upd H l (.lst ys))):=by
 intro pins s σ H xs us Q I r h
 obtain ⟨p,ys,rfl,hq,q⟩:=h
 obtain ⟨u,rfl,rx⟩:=vals1 r
 cases rx
 have fin:∀(its:List Value),Vals ys its->ys.length<=sizeLine->∀(h':Heap) (c':Nat),(∀b o',s.heap.get? b=some o'->h'.get? b=some o')->
  h'.get? s.heap.objs.size=some { cls:=.type "list",dict:=none,data:=.seq its.toArray c',slots:=#[] } -> EP X pins σ Q (.ref s.heap.objs.size) { s with heap:=h' }:=λits r' hz h' c' kp e=>
  ⟨.ref s.heap.objs.size,_,I.laid (t':=s.toks) kp (Nat.le_refl _) (show bg X.prog X.w _ h' _ (.lst ys) from ⟨hz,its,c',r',e⟩),rfl,q _ (I.hok.fresh (Nat.le_refl _))⟩
 rcases hq with hq | hq
 . obtain ⟨its,r',pl,hz⟩:=I.list hq
   have hlen:=r'.length
   obtain ⟨o,ho,hc,n,hd⟩:=pl.isList
   exact call_list_seq p (.inl rfl) ho hc hd (λh' c' kp e=>fin its r' hz h' c' kp e) (by simp only [List.size_toArray] <;> omega)
 . obtain ⟨its,r',pl,hz⟩:=I.tuple hq
   have hlen:=r'.length
   obtain ⟨o,ho,hc,n,hd⟩:=pl
   exact call_list_seq p (.inr rfl) ho hc hd (λh' c' kp e=>fin its r' hz h' c' kp e) (by simp only [List.size_toArray] <;> omega)
def Gr (K:W.Frag) (T:String) (x:V) (H:Hp):Prop:=match x with
 | .str _=>T = "str"
 | .int _=>T = "int"
 | .ref p=>(T = "list" /\ ∃xs,ay K H p xs)\/(T = "tuple" /\ ∃o,K.lookup p=some o/\o.cls=.type "tuple" /\ o.dict=none)\/
  (T = "dict" /\ ((∃kvs,H p=some (.dK kvs))\/∃kvs,H p=some (.dT kvs)))\/(T = "set" /\ ∃S n,H p=some (.set S n))
 | _=>False
theorem ur {pins:List (Addr×Obj)}{σ:St}{H:Hp}{s:Shared}{T:String}{x:V}{v:Value}(I:Inv X pins σ H s) (r:RelV x v) (ty:Gr X.K T x H) :
 s.TypeIs v T/\∀a,v=.ref a->∃ob,s.heap.get? a=some ob/\ob.dict=none:=by
 cases x with
 | str z=>
  obtain ⟨t,rfl⟩:=r
  cases (show T = "str" from ty)
  exact ⟨typeIs_str s z t,λ_ e=>nomatch e⟩
 | int i=>
  obtain ⟨t,rfl⟩:=r
  cases (show T = "int" from ty)
  exact ⟨typeIs_int s i t,λ_ e=>nomatch e⟩
 | ref p=>
  cases r
  rcases ty with ⟨rfl,xs,hq⟩ | ⟨rfl,o,hk,hc,hd⟩ | ⟨rfl,hk⟩ | ⟨rfl,S,n,hk⟩
  . obtain ⟨its,_,pl,_⟩:=I.list hq
    refine ⟨pl.isList.typeIs,λa e=>?_⟩
    cases e
    obtain ⟨o,n,e,c,hd,_⟩:=pl
    exact ⟨o,e,hd⟩
  . refine ⟨⟨o,I.eC p o hk,hc⟩,λa e=>?_⟩
    cases e
    exact ⟨o,I.eC _ o hk,hd⟩
  . have z:∃o,s.heap.get? p=some o/\o.ExactDict:=by
     rcases hk with ⟨kvs,hk⟩ | ⟨kvs,hk⟩
     . obtain ⟨_,_,_,_,o,_,_,e,ex,_⟩:=I.hok p _ hk
       exact ⟨o,e,ex⟩
     . obtain ⟨_,_,_,_,o,_,_,e,ex,_⟩:=I.hok p _ hk
       exact ⟨o,e,ex⟩
    obtain ⟨o,e,ex⟩:=z
    refine ⟨⟨o,e,ex.1⟩,λa e2=>?_⟩
    cases e2
    exact ⟨o,e,ex.2.1⟩
  . obtain ⟨o,_,_,_,e,ex,_⟩:=I.hok p _ hk
    refine ⟨⟨o,e,ex.1⟩,λa e2=>?_⟩
    cases e2
    exact ⟨o,e,ex.2.1⟩
 | _=>exact False.elim ty
def OE (K:W.Frag) (T:String) (r:V->List V->Hp->VK->Prop) (to:TE):TE:=λσ H Q=>to σ H λx H1=>Gr K T x H1/\r x [] H1 Q
def RJ (K:W.Frag) (T:String) (r:V->List V->Hp->VK->Prop) (to:TE) (t:TA):TE:=λσ H Q=>to σ H λx H1=>Gr K T x H1/\t σ H1 λxs H2=>r x xs H2 Q
variable {o e:Expr}{es:List Expr}{to:TE}{t:TA}{name:Str}{apos df:Pos}{T id:String}{r:V->List V->Hp->VK->Prop}
theorem Gs (pa:PlainAttrs T) (slot:Slot T name id) (Gu:typeOf (.builtin id)=pure (.type "method_descriptor")) (hm:Mg X id r) (ho:PE X o to)
 (qk:attributeBase o name X.env (eval o X.env)=eval o X.env:=by rfl) (ql:(apos.endLine == df.line)=true:=by rfl):PE X (.Call (.Attribute o name apos) [] [] df) (OE X.K T r to):=by
 intro pins s σ H Q I h
 refine wpAny_Call_method0_late qk ql (aH (ho pins s σ H _ I h) λv s1 ⟨x,H1,I1,r1,ty,q1⟩=>?_)
 obtain ⟨h1,h2⟩:=ur I1 r1 ty
 exact ⟨T,id,pa,slot,Gu,h1,h2,Calls.callWith_builtin rfl (PySem.evalArgs_none (hm pins s1 σ H1 x [] v [] Q I1 r1 .nil q1))⟩
theorem lM (pa:PlainAttrs T) (slot:Slot T name id) (Gu:typeOf (.builtin id)=pure (.type "method_descriptor")) (hm:Mg X id r) (ho:PE X o to) (ha:PA X (e::es) t)
 (qk:attributeBase o name X.env (eval o X.env)=eval o X.env:=by rfl)
 (OF:((backTo df (starEach (e::es) X.env)).all (λx=>!x.1) && (backToKw df (keywordEach [] X.env)).all (λx=>x.1.isSome)
  && decide ((e::es).length+([]:List Keyword).length+(if ([]:List Keyword).isEmpty then 0 else 1)<30))=true:=by rfl)
 (ql:(apos.endLine == df.line)=true:=by rfl) (hs:starEach (e::es) X.env=(false,eval e X.env)::starEach es X.env:=by rfl) (Gv:(backTo df (starEach es X.env)).any (·.1)=false:=by rfl) :
 PE X (.Call (.Attribute o name apos) (e::es) [] df) (RJ X.K T r to t):=by
 intro pins s σ H Q I h
 refine wpAny_Call_method_late qk OF ql rfl (aH (ho pins s σ H _ I h) λv s1 ⟨x,H1,I1,r1,ty,q1⟩=>?_)
 obtain ⟨h1,h2⟩:=ur I1 r1 ty
 refine ⟨T,id,pa,slot,Gu,h1,h2,?_⟩
 have hA:=ha df pins s1 σ H1 _ I1 q1
 rw [hs] at hA ⊢
 refine Calls.callWith_builtin (by show (false || (backTo df (starEach es X.env)).any (·.1))=false; rw [Gv] <;> rfl) (Calls.evalArgs_plain ?_)
 exact aH hA λus s2 ⟨vs,H2,I2,r2,q2⟩=>hm pins s2 σ H2 x vs v us Q I2 r1 r2 q2
end
end L2
namespace L2
open PySem PySem.Spec PyProof.Rows
def w4 (X:Cx) (id:String) (r:V->List V->Hp->VK->Prop):Prop:=
 ∀(pins:List (Addr×Obj)) (s:Shared) (σ:St) (H:Hp) (x:V) (xs:List V) (v:Value) (us:List Value) (Q:VK),Inv X pins σ H s->RelV x v->Vals xs us->r x xs H Q->
  wpAny (model X.prog X.w) X.A (call (.builtin id) (v::us)) (EP X pins σ Q) X.xe s
theorem Vals.one:∀{x:V}{us:List Value},Vals [x] us->∃u,us=[u]/\RelV x u
 | _,_,.cons r .nil=>⟨_,rfl,r⟩
theorem Vals.zero:∀{us:List Value},Vals [] us->us=[]
 | _,.nil=>rfl
theorem Vals.dropLast {xs:List V}{us:List Value}(h:Vals xs us):Vals xs.dropLast us.dropLast:=by
 induction h with
 | nil=>exact .nil
 | cons r t ih=>
  cases t with
  | nil=>exact .nil
  | cons q t'=>exact .cons r ih
theorem Vals.eraseIdx:∀{xs:List V}{us:List Value}(i:Nat),Vals xs us->Vals (xs.eraseIdx i) (us.eraseIdx i)
 | _,_,_,.nil=>.nil
 | _,_,0,.cons _ t=>t
 | _,_,i+1,.cons r t=>.cons r (Vals.eraseIdx i t)
theorem Vals.reverse {xs:List V}{us:List Value}(h:Vals xs us):Vals xs.reverse us.reverse:=by
 induction h with
 | nil=>exact .nil
 | cons r t ih=>rw [List.reverse_cons,List.reverse_cons]; exact Vals.append ih (.cons r .nil)
theorem yj {α:Type}(l:List α):l.eraseIdx (l.length-1)=l.dropLast:=by
 induction l with
 | nil=>rfl
 | cons a r ih=>
  cases r with
  | nil=>rfl
  | cons b r=>
   have e:(a::b::r).length-1=((b::r).length-1)+1:=by
    have h1:(a::b::r).length=r.length+2:=rfl
    have h2:(b::r).length=r.length+1:=rfl
    omega
   rw [e,List.eraseIdx_cons_succ,ih]
   all_goals rfl
section
variable {X:Cx}{pins:List (Addr×Obj)}{σ:St}{H:Hp}{s:Shared}{l b:Addr}{xs ys zs:List V}
theorem Inv.yk {its its':List Value}{n:Nat}{f:Array Value->Array Value}{t':Nat}(I:Inv X pins σ H s) (hH:H l=some (.lst xs))
 (e:s.heap.get? l=some { cls:=.type "list",data:=.seq its.toArray n }) (hf:f its.toArray=its'.toArray) (hv:Vals ys its') (hz:ys.length<=sizeLine) :
 Inv X pins σ (upd H l (.lst ys)) { s with heap:=s.heap.update l (Obj.mapSeq f),toks:=t' }:=by
 have q:=PySem.IsL.update e f
 rw [hf] at q
 refine I.write (x:=l) (e:=l) (by rw [hH]; exact trivial) (.inl rfl) (λb' u hb hu=>(Heap.get?_update_other s.heap (Obj.mapSeq f) (Ne.symm hb)).trans hu) ⟨_,q⟩ ?_
 exact ⟨hz,its',_,hv,q⟩
theorem Inv.B8 {its:List Value}{t':Nat}(I:Inv X pins σ H s) (hv:Vals ys its) (hz:ys.length<=sizeLine) :
 Inv X pins σ (upd H s.heap.objs.size (.lst ys)) { s with heap:=s.heap.push { cls:=.type "list",data:=.seq its.toArray },toks:=t' } :=
 I.laid (λ_ _ q=>Heap.get?_push_of_some _ q) (Nat.le_refl _) ⟨hz,its,0,hv,Heap.get?_push_size _ rfl⟩
theorem Inv.fresh (I:Inv X pins σ H s):H s.heap.objs.size=none:=I.hok.fresh (Nat.le_refl _)
theorem Inv.pf (I:Inv X pins σ H s) (hH:H l=some (.lst xs)):xs.length<=sizeLine/\∃(its:List Value) (n:Nat),Vals xs its/\xs.length=its.length/\s.heap.get? l=some { cls:=.type "list",data:=.seq its.toArray n }:=by
 obtain ⟨z,its,n,r,e⟩:=I.hok l _ hH
 exact ⟨z,its,n,r,r.length,e⟩
theorem pj {n:Nat}(h:n<=sizeLine):Builtin.List.listTooLong n=false:=by
 unfold Builtin.List.listTooLong
 exact decide_eq_false (by omega)
end
section
variable {X:Cx}
def EU:V->List V->Hp->VK->Prop:=λx vs H Q=>∃l xs y,x=.ref l/\vs=[y]/\H l=some (.lst xs)/\xs.length<sizeLine/\Q .aX (upd H l (.lst (xs++[y])))
theorem gq:w4 X "list.append" EU:=by
 intro pins s σ H x vs v us Q I rx rv h
 obtain ⟨l,xs,y,rfl,rfl,hH,hz,q⟩:=h
 cases rx
 obtain ⟨u,rfl,ru⟩:=rv.one
 obtain ⟨z,its,n,r,hl,e⟩:=I.pf hH
 refine call_meets F.slot_list_append ⟨_,e,rfl⟩ F.entry_list_append (F.args_list_append_2 _ _) (PySem.list_append l its.toArray n u (by rw [List.size_toArray]; omega)) ⟨e,?_⟩
 refine ⟨.aX,_,I.yk (its':=its++[u]) hH e (by simp) (r.append (.cons ru .nil)) ?_,rfl,q⟩
 rw [List.length_append,List.length_singleton]
 omega
def EV:V->List V->Hp->VK->Prop:=λx vs H Q=>∃l b xs zs,x=.ref l/\vs=[.ref b]/\H l=some (.lst xs)/\H b=some (.lst zs)/\xs.length+zs.length<=sizeLine/\Q .aX (upd H l (.lst (xs++zs)))
theorem Mh:w4 X "list.extend" EV:=by
 intro pins s σ H x vs v us Q I rx rv h
 obtain ⟨l,b,xs,zs,rfl,rfl,hH,hB,hz,q⟩:=h
 cases rx
 obtain ⟨u,rfl,ru⟩:=rv.one
 cases ru
 obtain ⟨z,its,n,r,hl,e⟩:=I.pf hH
 obtain ⟨z2,j5,n2,r2,fg,e2⟩:=I.pf hB
 have hsz:its.toArray.size+j5.toArray.size<=sizeLine:=by rw [List.size_toArray,List.size_toArray]; omega
 have Kh:¬ (!its.toArray.isEmpty && Builtin.List.listTooLong (its.toArray.size+j5.toArray.size))=true:=by
  rw [pj hsz,Bool.and_false]
  exact Bool.false_ne_true
 refine call_meets F.slot_list_extend ⟨_,e,rfl⟩ F.entry_list_extend (F.args_list_extend_2 _ _)
  (AutoSeq1.list_extend_list_list_0 l its.toArray n b j5.toArray n2 Kh (by rw [List.size_toArray]; omega) (by omega)) ⟨e,e2,?_⟩
 refine ⟨.aX,_,I.yk (its':=its++j5) hH e (by simp) (r.append r2) ?_,rfl,q⟩
 rw [List.length_append]
 omega
def OG:V->List V->Hp->VK->Prop:=λx vs H Q=>∃l xs y,x=.ref l/\vs=[]/\H l=some (.lst xs)/\xs[xs.length-1]?=some y/\Q y (upd H l (.lst xs.dropLast))
theorem RK:w4 X "list.pop" OG:=by
 intro pins s σ H x vs v us Q I rx rv h
 obtain ⟨l,xs,y,rfl,rfl,hH,hy,q⟩:=h
 cases rx
 have uu:=rv.zero
 subst uu
 obtain ⟨z,its,n,r,hl,e⟩:=I.pf hH
 obtain ⟨u,hu,ru⟩:=r.get hy
 have Gw:its.toArray[its.toArray.size-1]?=some u:=by
  show its.toArray[its.length-1]?=some u
  rw [← Array.getElem?_toList,← hl]
  exact hu
 refine call_meets F.slot_list_pop ⟨_,e,rfl⟩ F.entry_list_pop (F.args_list_pop_1 _) (MeetsSeq.list_pop_last l its.toArray n u Gw (by rw [List.size_toArray]; omega)) ⟨e,?_⟩
 refine ⟨y,_,I.yk (its':=its.dropLast) hH e ?_ r.dropLast ?_,ru,q⟩
 . show its.toArray.eraseIdxIfInBounds (its.toArray.size-1)=its.dropLast.toArray
   rw [List.size_toArray,List.eraseIdxIfInBounds_toArray,yj]
 . rw [List.length_dropLast]
   omega
def B9:V->List V->Hp->VK->Prop:=λx vs H Q=>∃l xs,x=.ref l/\vs=[]/\H l=some (.lst xs)/\Q .aX (upd H l (.lst xs.reverse))
theorem yl:w4 X "list.reverse" B9:=by
 intro pins s σ H x vs v us Q I rx rv h
 obtain ⟨l,xs,rfl,rfl,hH,q⟩:=h
 cases rx
 have uu:=rv.zero
 subst uu
 obtain ⟨z,its,n,r,hl,e⟩:=I.pf hH
 refine call_meets F.slot_list_reverse ⟨_,e,rfl⟩ F.entry_list_reverse (F.args_list_reverse_1 _) (AutoSeq1.list_reverse_list_0 l its.toArray n (by rw [List.size_toArray]; omega)) ⟨e,?_⟩
 refine ⟨.aX,_,I.yk (its':=its.reverse) hH e (by simp) r.reverse ?_,rfl,q⟩
 rw [List.length_reverse]
 omega
def OH:R2:=λx y H Q=>∃l b xs zs,x=.ref l/\y=.ref b/\H l=some (.lst xs)/\H b=some (.lst zs)/\xs.length+zs.length<=sizeLine/\∀p,H p=none->Q (.ref p) (upd H p (.lst (xs++zs)))
theorem nv:di X (binaryOp .Add) OH:=by
 intro pins s σ H x y v u Q I rx ry h
 obtain ⟨l,b,xs,zs,rfl,rfl,hH,hB,hz,q⟩:=h
 cases rx
 cases ry
 obtain ⟨z,its,n,r,hl,e⟩:=I.pf hH
 obtain ⟨z2,j5,n2,r2,fg,e2⟩:=I.pf hB
 refine PySem.P.add_list e e2 ?_ (by rw [List.size_toArray,List.size_toArray]; omega)
 have ea:its.toArray++j5.toArray=(its++j5).toArray:=by simp
 rw [ea]
 exact ⟨.ref _,_,I.B8 (t':=s.toks) (r.append r2) (by rw [List.length_append]; omega),rfl,q _ I.fresh⟩
end
section
variable {prog:Program}{w:World}{A:Around}{E:Value->Shared->Prop}{s:Shared}
theorem ym {a c n:Nat}(Mi:a<=c) (hc:c<=n):sliceBounds (some (a:Int)) (some (c:Int)) none n=((a:Int),(c:Int),1):=by
 simp only [sliceBounds,Option.getD_none]
 have h1:¬ ((a:Int)<0):=by omega
 have h2:¬ ((c:Int)<0):=by omega
 simp only [h1,h2,if_false,show (1:Int)>0 by decide,if_true]
 congr 1
 . omega
 . congr 1; omega
set_option maxRecDepth 100000 in
theorem FI {l b sl:Addr}{items new:Array Value}{n n2:Nat}{vl vu:Value}{a c:Nat}{Q:Unit->Shared->Prop}
 (e:s.heap.get? l=some { cls:=.type "list",data:=.seq items n }) (e2:s.heap.get? b=some { cls:=.type "list",data:=.seq new n2 }) (gr:l≠b)
 (hs:s.heap.IsSliceOf sl vl vu .none) (pl:IsPart vl (some (a:Int))) (pu:IsPart vu (some (c:Int))) (Mi:a<=c) (hc:c<=items.size)
 (hsz:items.size+new.size<=sizeLine) (h:Q () { s with heap:=s.heap.update l (Obj.mapSeq λxs=>xs.extract 0 a++new++xs.extract c xs.size) }) :
 wpAny (model prog w) A (setItem (.ref l) (.ref sl) (.ref b)) Q E s:=by
 have hl:s.heap.IsList l items:=PySem.IsL.isList e
 have hb:s.heap.IsList b new:=PySem.IsL.isList e2
 obtain ⟨os,Dn,dF,Gx⟩:=id hs
 have Mj:s.TypeIs (.ref sl) "slice":=⟨os,Dn,dF⟩
 have Ki:¬ ((rawPart none == rawInt 0)=true):=Bool.false_ne_true
 have yn:Builtin.List.listSameRef (.ref l) (.ref b)=false:=by
  unfold Builtin.List.listSameRef
  exact beq_eq_false_iff_ne.mpr gr
 have OI:(max (a:Int) (c:Int)).toNat=c:=by omega
 have uv:((λxs:Array Value=>xs.extract 0 a++new++xs.extract c xs.size) items).size<=sizeLine+1:=by
  simp only [Array.size_append,Array.size_extract]
  omega
 unfold setItem
 try with_reducible refine wpAny_holding ?_
 first | refine wpAny_bind (wpAny_pure ?_) | skip
 refine wpAny_bind (wpAny_sequenceKey hl.typeIs (by decide) ?_)
 refine wpAny_bind (wpAny_callSpecial?_slot (name:=Str.ofString "__setitem__") hl.typeIs slot_list_setitem
  (wpAny_call_entry slot_list_setitem hl.typeIs entry_list_setitem ?_ (args_list_setitem _ _ _)))
 show wpAny _ _ (Builtin.List.listSubscript? (.ref sl) >>= _) _ _ s
 refine wpAny_bind ?_
 unfold Builtin.List.listSubscript?
 refine wpAny_bind (wpAny_specialOf Mj slice_no_index ?_)
 simp only [Option.isNone_none,if_true]
 refine wpAny_pure ?_
 show wpAny _ _ (typeOf (.ref sl) >>= _) _ _ s
 refine wpAny_bind (wpAny_typeOf Mj ?_)
 first
  | rw [if_neg (by decide)]
  | refine W.KFB.if_not (by decide) ?_
 rw [listSliceParts_eq]
 refine wpAny_bind (wpAny_bind (wpAny_field Dn Gx (x:=.none) rfl (wpAny_bind (wpAny_listPart .none ?_))))
 rw [if_neg Ki]
 refine wpAny_bind (wpAny_field Dn Gx (x:=vl) rfl (wpAny_bind (wpAny_listPart pl ?_)))
 refine wpAny_bind (wpAny_field Dn Gx (x:=vu) rfl (wpAny_bind (wpAny_listPart pu (wpAny_pure ?_))))
 first
  | simp only [yn,Bool.false_eq_true,if_false]
  | refine W.KFB.if_not yn ?_
  | (dsimp only
     rw [if_neg (by rw [yn]; exact Bool.false_ne_true)])
 refine wpAny_bind (m:=Builtin.List.listAllItems (.ref b) "must assign iterable to extended slice") ?_
 unfold Builtin.List.listAllItems
 refine wpAny_bind (wpAny_typeOf hb.typeIs ?_)
 first
  | refine W.KFB.if_so (by decide) ?_
  | rw [if_pos (by decide)]
  | simp only [beq_self_eq_true,Bool.true_or,if_true]
 unfold Builtin.List.listItems
 refine wpAny_bind (wpAny_seqItems e2 rfl (wpAny_pure ?_))
 refine wpAny_bind (wpAny_bind (wpAny_seqItems e rfl (wpAny_pure ?_)))
 refine wpAny_bind (wpAny_of_eq ((sliceIndices_raw (some (a:Int)) (some (c:Int)) none items.size (by simp)).trans (congrArg (pure:Int×Int×Int->Sem (Int×Int×Int)) (ym Mi hc))) ?_)
 show wpAny _ _ (if ((1:Int) == 1)=true then _ else _) _ _ s
 rw [if_pos (by decide)]
 refine wpAny_bind (wpAny_rule ?_)
 first
  | simp only [pj hsz,Bool.false_eq_true,if_false]
  | refine W.KFB.if_not (pj hsz) ?_
 first | refine wpAny_bind (wpAny_pure ?_) | skip
 show wpAny _ _ (updateSeq l (λxs=>xs.extract 0 ((a:Int)).toNat++new++xs.extract (max (a:Int) (c:Int)).toNat xs.size) >>= _) _ _ s
 rw [OI,Int.toNat_natCast]
 refine wpAny_bind (wpAny_updateSeq (hz:=Nat.le_trans (Nat.le_add_right _ _) hsz) (_hz':=uv) e rfl ?_)
 refine wpAny_bind (wpAny_letGo ?_)
 first
  | exact wpAny_bind (wpAny_pure (wpAny_pure ⟨.none,rfl,wpAny_pure h⟩))
  | exact wpAny_pure ⟨.none,rfl,wpAny_pure h⟩
end
section
variable {X:Cx}
end
end L2
namespace Ml
open PySem PySem.W PySem.Calls PyProof.Rows
theorem qm {P:Params}{h:Heap} : ∀(ns:List Int) (vs:List Value),WellAll P h vs (ns.map WData.int)->IntsAre vs ns:=by
 intro ns
 induction ns with
 | nil=>
  intro vs w
  rw [List.map_nil] at w
  cases w
  exact .nil
 | cons n ns ih=>
  intro vs w
  rw [List.map_cons] at w
  cases w with
  | cons a b=>
   cases a
   exact .cons _ _ (ih _ b)
theorem zV {l:OpenLaw}{n:Nat}(hn:l.most=some n){P:Params}{h:Heap}{args:List WData}{vals:List Value}
 (yo:l.row.toRowW.claim.pre args=true) (zW:WellAll P h vals args) :
 ∃a vs ns,vals=[Value.ref a]/\args=[WData.list (ns.map WData.int)]/\h.get? a=some { cls:=.type "list",data:=.seq vs.toArray } /\ IntsAre vs ns/\ns.length<=n:=by
 have RL:WShape.hasAll [] args [.list .int]=true:=(pre_splitW yo).1
 have hc:l.pre.holds [] { args:=args } = true:=(pre_splitW yo).2
 obtain ⟨d,r,rfl,h1,h2⟩:=hasAllW_cons RL
 obtain rfl:=hasAllW_nil h2
 obtain ⟨xs,rfl,h3⟩:=hasW_list h1
 obtain ⟨ns,rfl⟩:=items_int h3
 have hlen:ns.length<=n:=by
  unfold OpenLaw.pre at hc
  have h4:(WTm.not (.lt (.lit (.int (n:Int))) (.len (.arg 0)))).holds [] { args:=[.list (ns.map .int)] } = true:=by
   have h4:=(holds_andW hc).1
   rw [hn] at h4
   exact h4
  have h5:=condW_of h4 (w_not (w_lt w_lit (w_len_list (w_arg rfl))))
  rw [List.length_map] at h5
  refine Nat.le_of_not_lt λq=>?_
  have q':(n:Int)<((ns.length:Nat):Int):=by omega
  first
   | (rw [decide_eq_true q'] at h5; exact absurd h5 (by decide))
   | (simp at h5; omega)
 cases zW with
 | cons w1 w2=>
  cases w2
  cases w1 with
  | list ho jo=>exact ⟨_,_,ns,rfl,rfl,ho,qm ns _ jo,hlen⟩
theorem zX (l:OpenLaw) (args:List WData):l.row.toRowW.claim.post args (.bool true) args=true:=
 postW_of (r:=l.row.toRowW) (X:=(true == true))
  (show WShape.has [] (.bool true) .bool=true by first | rfl | decide | simp [WShape.has,WShape.arms,WShape.armsAll])
  (show (WTm.eq .res (.lit (.bool true))).value [] { args:=args,res:=some (.bool true),after:=args } = some (.bool (true == true)) from w_eq_bool (w_res rfl) w_lit) rfl
theorem wA {l:OpenLaw}{n:Nat}{q:Program}{loose:List Str}{XP:(Str->Option Value)->Heap->Prop}{YP:World->Heap->Prop}{d:DefRec}
 (hn:l.most=some n) (zY:d.params.defaults=[])
 (call:∀(w:World) (iT cE:Shared) (mg mb:Str->Option Value) (fa:Addr) (o:Obj) (pm cd doc:Value) (a:Addr) (vs:List Value) (ns:List Int),
  Ground q loose [] XP w iT mg mb cE.heap->YP w cE.heap->
  cE.heap.get? fa=some o->o.data=.func (docDef d.name d.params d.body d.scope pm cd doc)->cE.heap.CodeRec cd d.name->mg d.name=some (.ref fa)->
  cE.heap.get? a=some { cls:=.type "list",data:=.seq vs.toArray } -> IntsAre vs ns->ns.length<=n->cE.gens = #[]->
  codeAny (model l.prog w) callerA (.call (.ref fa) ⟨[.ref a],[]⟩) (λr s'=>r=.ok (.ret (.bool true))/\OldK cE.heap s'.heap/\s'.os=cE.os/\AllBare s'.gens) cE) :
 WalkO q loose XP YP l.row.toRowW d [] (λf vs=>PySem.call f vs):=by
 intro w iT cE mg mb G Y fa o pm cd doc dV kV ho hd mX hD zZ hg args vals as yo Wj Wy zW Wz
 obtain rfl:dV=.none:=Dflts.none hD zY
 obtain rfl:kV=.none:=Dflts.noKw hD
 obtain ⟨a,vs,ns,rfl,rfl,Ca,hints,hlen⟩:=zV hn yo zW
 refine enter_call (codeAny_mono (call w iT cE mg mb fa o pm cd doc a vs ns G Y ho (fd_plain hd) mX zZ Ca hints hlen hg) λr s' hq=>?_)
 obtain ⟨rfl,h2,h3,h4⟩:=hq
 exact ⟨.inl ⟨.bool true,.bool true,[],rfl,λ_=>rfl,.bool true,zX l _,λ_=>⟨List.Pairwise.nil,λ_ hm=>(nomatch hm)⟩⟩,h2,h3,h4⟩
section
variable {prog:Program}{w:World}{A:Around}{E:Value->Shared->Prop}{s:Shared}{K:Frag}
end
end Ml
namespace L2
open PySem PySem.Spec PyProof.Rows
theorem sA:∀{vs:List Value}{ns:List Int},IntsAre vs ns->Vals (ns.map V.int) vs
 | _,_,.nil=>.nil
 | _,_,.cons n t h=>.cons ⟨t,rfl⟩ (sA h)
def Cb (H:Hp):Prop:=∀b,H b=none\/∃o xs,H b=some (.cz o (.lst xs))
theorem Cc {P:Program}{w:World}{K:W.Frag}{mg mb:Str->Option Value}{CX:nq}{k:Nat}{fa a:Addr}{fd:FuncData}{x:Str}{sp:Sp}{cE:Shared}{vs:List Value}{ns:List Int}
 (KX:K.In cE.heap) (Mm:cE.heap.Ns mainGlobals mg) (hb:cE.heap.Ns builtinsNs mb) (RM:∀x:Str,x ≠ "__name__" -> mb x=bootBuiltins x) (OJ:cE.heap.NoLimit) (hg:cE.gens = #[])
 (ha:cE.heap.get? a=some { cls:=.type "list",data:=.seq vs.toArray }) (hi:IntsAre vs ns) (hl:ns.length<=sizeLine) (hr:bw k callerA)
 (F:∀base:Heap,K.In base->base.Ns mainGlobals mg->av P w K mg base CX k fa fd [x] sp) (Kj:∀(s:Shared) (u:Value),BindsTo s fd ⟨[u],[]⟩ [(x,u)])
 (jl:∀H:Hp,Cb H->ay K H a (ns.map V.int)->sp [.ref a] H (λv _=>v=.bl true) λ_ _ _=>False)
 (Gy:∀H e s',CX [] H cE (λ_ _ _=>False) e s'->False) :
 codeAny (model P w) callerA (.call (.ref fa) ⟨[.ref a],[]⟩) (λr s'=>r=.ok (.ret (.bool true))/\OldK cE.heap s'.heap/\s'.os=cE.os/\AllBare s'.gens) cE:=by
 have rv:=sA hi
 have OK:=hi.length
 have core:∀H:Hp,Cb H->ay K H a (ns.map V.int)->cY P w H cE.heap->(∀b,H b≠none->b=a)->(H a≠none->K.lookup a=none)->
  codeAny (model P w) callerA (.call (.ref fa) ⟨[.ref a],[]⟩) (λr s'=>r=.ok (.ret (.bool true))/\OldK cE.heap s'.heap/\s'.os=cE.os/\AllBare s'.gens) cE:=by
  intro H hO hS hok hA hK
  have w6:∀{b:Addr}{o:Obj},cE.heap.get? b=some o->H b=none->(lD cE.heap H).get? b=some o:=λe n=>BJ e n
  have zP:∀{b:Addr}{o:Obj}{es:Array DictEntry}{ep:Nat},cE.heap.get? b=some o->o.data=.dict es ep->H b=none:=λ{b o es ep} e d=>by
   cases q:H b with
   | none=>rfl
   | some u=>
    have e':b=a:=hA b (by rw [q]; simp)
    subst e'
    rw [ha] at e; cases e
    have d':Data.seq vs.toArray _=Data.dict es ep:=d
    cases d'
  have Dq:∀{b:Addr}{m:Str->Option Value},cE.heap.Ns b m->(lD cE.heap H).Ns b m:=λ{b m} ⟨o,es,ep,e,d,r⟩=>⟨o,es,ep,w6 e (zP e d),d,r⟩
  have Mn:K.In (lD cE.heap H):=λb o e=>w6 (KX b o e) (by
   cases q:H b with
   | none=>rfl
   | some u=>
    have e':b=a:=hA b (by rw [q]; simp)
    subst e'
    rw [hK (by rw [q]; simp)] at e; cases e)
  have hM:Mod K mg (lD cE.heap H):=⟨Mn,Dq Mm,⟨mb,Dq hb,RM⟩,let ⟨mc,h1,h2⟩:=OJ; ⟨mc,Dq h1,h2⟩⟩
  have e0:j4 P w K mg (lD cE.heap H) callerA [] cE H:=⟨rfl,hM,λb o e=>EE e,Nat.le_of_eq (zv _ _),trivial,λb hb=>absurd (show b∈([]:List Addr) from hb) (by simp),hok,.of_eq hg⟩
  refine codeAny_mono ((F _ Mn (Dq Mm)).run callerA [] cE H ⟨[.ref a],[]⟩ [.ref a] [.ref a] _ _ hr e0 (Kj cE (.ref a)) (.cons rfl .nil) (jl H hO hS)) λr s' h=>?_
  cases r with
  | error e=>exact (Gy H e s' h).elim
  | ok fl=>
   cases fl with
   | next=>exact False.elim h
   | brk=>exact False.elim h
   | cont=>exact False.elim h
   | ret u=>
    obtain ⟨v,H',os,bare,un,OL,r',q⟩:=h
    have q':v=.bl true:=q
    subst q'
    obtain rfl:u=Value.bool true:=r'
    refine ⟨rfl,OldK.of_keep λb o e=>?_,os,bare⟩
    cases q:H b with
    | none=>exact un.keep b o e q (by intro z; exact absurd (show b∈([]:List Addr) from z) (by simp)) (by simp)
    | some u=>
     rcases hO b with z | ⟨ob,xs,z⟩
     . rw [q] at z; cases z
     . have z2:=un.frzs b ob _ z
       obtain ⟨e1,_⟩:=hok b _ z
       obtain ⟨e2,_⟩:=OL b _ z2
       rw [e] at e1; cases e1
       exact e2
 cases hk:K.lookup a with
 | some o=>
  have e:=KX a o hk
  rw [ha] at e
  cases e
  refine core (λ_=>none) (λ_=>.inl rfl) (.inr ⟨_,vs.toArray,_,hk,rfl,rfl,rfl,by rw [List.size_toArray,OK]; exact hl,by simpa using rv⟩) (λb u z=>by have z':(none:Option HO)=some u:=z; cases z') (λb z=>absurd rfl z) λz=>absurd rfl z
 | none=>
  refine core (λb=>if b=a then some (.cz { cls:=.type "list",data:=.seq vs.toArray } (.lst (ns.map V.int))) else none) (λb=>?_) (.inl (.inr ⟨{ cls:=.type "list",data:=.seq vs.toArray },if_pos rfl⟩)) (λb u z=>?_) (λb z=>?_) λ_=>hk
  . by_cases hb:b=a
    . exact .inr ⟨_,_,if_pos hb⟩
    . exact .inl (if_neg hb)
  . by_cases hb:b=a
    . have z':=(if_pos hb).symm.trans z
      cases z'
      subst hb
      exact ⟨ha,by rw [List.length_map]; exact hl,vs,_,rv,ha⟩
    . have z':=(if_neg hb).symm.trans z
      cases z'
  . by_cases hb:b=a
    . exact hb
    . exact absurd (if_neg hb) z
end L2
namespace L2
open PySem PySem.Spec PyProof.Rows
theorem EW {l:W.OpenLaw}{n k:Nat}{q:Program}{loose:List Str}{XP:(Str->Option Value)->Heap->Prop}{YP:World->Heap->Prop}{d:DefRec}{K:Params->W.Frag}{CX:World->nq}{sp:World->Sp}{x:Str}
 (hn:l.most=some n) (ml:n<=sizeLine) (zY:d.params.defaults=[]) (hr:bw k callerA)
 (hY:∀(w:World) (h:Heap),YP w h->(K w.params).In h)
 (F:∀(w:World) (mg:Str->Option Value) (fa:Addr) (h:Heap),(K w.params).In h->h.Ns mainGlobals mg->mg d.name=some (.ref fa)->
  ∃fd:FuncData,(∀(s:Shared) (u:Value),BindsTo s fd ⟨[u],[]⟩ [(x,u)])/\
   ∀base:Heap,(K w.params).In base->base.Ns mainGlobals mg->av l.prog w (K w.params) mg base (CX w) k fa fd [x] (sp w))
 (jl:∀(w:World) (H:Hp) (a:Addr) (ns:List Int),ns.length<=n->Cb H->ay (K w.params) H a (ns.map V.int)->sp w [.ref a] H (λv _=>v=.bl true) λ_ _ _=>False)
 (Gy:∀(w:World) (H:Hp) (s:Shared) (e:Value) (s':Shared),CX w [] H s (λ_ _ _=>False) e s'->False) :
 W.WalkO q loose XP YP l.row.toRowW d [] (λf vs=>PySem.call f vs):=by
 refine Ml.wA hn zY λw iT cE mg mb fa o pm cd doc a vs ns G Y ho hd mX zZ Ca hints hlen hg=>?_
 have KX:=hY w _ Y
 obtain ⟨fd,hb,hF⟩:=F w mg fa _ KX G.T.g zZ
 exact Cc KX G.T.g G.T.b G.T.builtins G.T.nolimit hg Ca hints (Nat.le_trans hlen ml) hr hF hb (λH hO hS=>jl w H a ns hlen hO hS) λH e s'=>Gy w H cE e s'
end L2
namespace L2
open PySem PySem.Spec PyProof.Rows
def inClass (s:Stmt) (j:Nat):Stmt:=match s with
 | .ClassDef _ _ _ body _ _ _ _ _ _ _=>body.getD j (.Pass ⟨0,0,0,0⟩)
 | _=>.Pass ⟨0,0,0,0⟩
def aW (s:Stmt):Arguments:=match s with
 | .FunctionDef _ a _ _ _ _ _ _ _ _=>a
 | _=>{ posonlyargs:=[],args:=[],vararg:=none,kwonlyargs:=[],kw_defaults:=[],kwarg:=none,defaults:=[] }
def aN (s:Stmt):List Stmt:=match s with
 | .FunctionDef _ _ b _ _ _ _ _ _ _=>b
 | _=>[]
def ao (s:Stmt):Scope:=match s with
 | .FunctionDef _ _ _ _ _ _ sc _ _ _=>sc
 | _=>{ kind:=.function,names:=[],isGenerator:=false,isCoroutine:=false }
abbrev aE:nq:=λ_ _ _ _ _ _=>False
abbrev E0:XK:=λ_ _ _=>False
theorem aB {X:Cx} : Passes aE X E0:=λ_ _ _ _ _ _ _ h=>h.elim
structure cw (K:W.Frag) (x qual:Str) (st:Stmt) (f:Addr) (fd:FuncData):Prop where
 ex:∃(oc:Value) (od:Option Addr) (kV doc pm:Value) (an:Option Addr) (cdv ct:Value) (sq:Array (Option Value)),
  fd=W.fnOf x qual (aW st) (aN st) (ao st) .none kV doc pm an cdv ct/\K.lookup f=some ⟨oc,od,.func fd,sq⟩/\W.codeIn K cdv qual=true
 kp:W.keepIn K (.ref f)=true
section
variable {P:Program}{w:World}{K:W.Frag}{mg:Str->Option Value}{base:Heap}
theorem cw.ok {x qual:Str}{st:Stmt}{f:Addr}{fd:FuncData}{N ps:List Str}{k:Nat}{sp:Sp}(F:cw K x qual st f fd) (S:aZ N ps (ao st)) (len:∀vs H Q E,sp vs H Q E->vs.length=ps.length)
 (yg:∀(cdv:Value) (A:Around) (outer:List Env) (s:Shared) (H:Hp) (vs:List V) (Q:VK) (E:XK),bw k (A.deeper (envOfC qual (ao st) s.heap.objs.size f cdv))->sp vs H Q E->
  ∃t,jh (lJ aE P w K mg base N qual (ao st) f cdv A outer s H E).tY (aN st) t/\t { nx:=λ_ H'=>Q .aX H',rt:=Q } (start N vs) H):av P w K mg base aE (k+1) f fd ps sp:=by
 obtain ⟨oc,od,kV,doc,pm,an,cdv,ct,sq,rfl,lk,mX⟩:=F.ex
 refine J9 lk mX S len λA outer s H vs Q E hr jl=>?_
 obtain ⟨t,h,q⟩:=yg cdv A outer s H vs Q E hr jl
 exact ⟨t,h.tY,q⟩
theorem cw.binds {x qual:Str}{st:Stmt}{f:Addr}{fd:FuncData}{ps:List Str}(F:cw K x qual st f fd)
 (h:∀(kV doc pm:Value) (an:Option Addr) (cdv ct:Value) (us:List Value),us.length=ps.length->bindArgs (W.fnOf x qual (aW st) (aN st) (ao st) .none kV doc pm an cdv ct) ⟨us,[]⟩=pure (ps.zip us)):Binds K fd ps []:=by
 obtain ⟨oc,od,kV,doc,pm,an,cdv,ct,sq,rfl,lk,mX⟩:=F.ex
 exact .all (h kV doc pm an cdv ct)
theorem bu {x qual:Str}{st:Stmt}{f:Addr}{oc:Value}{od an:Option Addr}{sq:Array (Option Value)}{kV doc pm cdv ct:Value}(l:K.lookup f=some ⟨oc,od,.func (W.fnOf x qual (aW st) (aN st) (ao st) .none kV doc pm an cdv ct),sq⟩)
 (c:W.codeIn K cdv qual=true) (k:W.keepIn K (.ref f)=true):cw K x qual st f (W.fnOf x qual (aW st) (aN st) (ao st) .none kV doc pm an cdv ct):=⟨⟨oc,od,kV,doc,pm,an,cdv,ct,sq,rfl,l,c⟩,k⟩
end
theorem iD {A:Around}{k:Nat}(hr:bw k A):A.units+1<cLine:=Nat.lt_of_le_of_lt (Nat.add_le_add_left (by decide:1<=64) _) hr.units
theorem sC {n:Nat}(h:n<=1000):n<sizeLine:=Nat.lt_of_le_of_lt h (by decide)
section
variable {X:Cx}
theorem pv (i:Nat){x:Str}{pos:Pos}(hN:X.N[i]?=some x:=by rfl) (hv:FU X.env.scope x:=by first | exact Or.inl rfl | exact Or.inr (Or.inl rfl) | exact Or.inr (Or.inr rfl)) (hd:(x == ("__debug__" : Str))=false:=by decide)
 (mX:(x == ("__classdict__" : Str))=false:=by decide):PE X (.Name x pos) (ib i):=FW hN hv hd mX
end
theorem gQ {A B:Prop}(h:B):if false=true then A else B:=by
 rw [if_neg Bool.false_ne_true]
 exact h
theorem rm {A B:Prop}(h:A):if true=true then A else B:=by
 rw [if_pos rfl]
 exact h
theorem jt {c A B:Prop}[Decidable c] (h1:c->A) (h2:¬ c->B):if c then A else B:=by
 by_cases h:c
 . rw [if_pos h]
   exact h1 h
 . rw [if_neg h]
   exact h2 h
def aj (H H':Hp):Prop:=∀b o,H b=some o->H' b=some o
theorem aj.trans {H H1 H2:Hp}(a:aj H H1) (b:aj H1 H2):aj H H2:=λc o h=>b c o (a c o h)
theorem aj.free {H H':Hp}(e:aj H H'){l:Addr}(h:H' l=Option.none):H l=Option.none:=by
 cases q:H l with
 | none=>rfl
 | some o=>
  rw [e l o q] at h
  cases h
theorem aj.seq {K:W.Frag}{H H':Hp}{a:Addr}{xs:List V}(e:aj H H') (h:ay K H a xs):ay K H' a xs:=by
 rcases h with (h | ⟨o,h⟩) | h
 . exact .inl (.inl (e _ _ h))
 . exact .inl (.inr ⟨o,e _ _ h⟩)
 . exact .inr h
end L2
namespace L2
open PySem PySem.Spec PyProof.Rows
section
variable {X:Cx}
end
end L2
set_option maxHeartbeats 4000000
namespace L2
open PySem PySem.Spec PyProof.Rows
theorem lN {env:Env}(f:Str×NameKind->List (Str×Addr)->Sem (ForInStep (List (Str×Addr))))
 (hf:∀n k cs,f (n,k) cs=if (k == NameKind.free)=true then (cellOf env n >>= λa=>pure (ForInStep.yield ((n,a)::cs))) else pure (ForInStep.yield cs)) :
 ∀(names:List (Str×NameKind)) (acc:List (Str×Addr)),(∀x∈names,x.2=NameKind.free->∃c,env.cells.lookup x.1=some c)->(∀x c,acc.lookup x=some c->env.cells.lookup x=some c)->
  ∃cl,forIn names acc f=(pure cl:Sem (List (Str×Addr)))/\(∀x c,cl.lookup x=some c->env.cells.lookup x=some c)/\(∀x c,acc.lookup x=some c->∃c',cl.lookup x=some c')/\∀x∈names,x.2=NameKind.free->∃c,cl.lookup x.1=some c
 | [],acc,_,ha=>⟨acc,by simp,ha,λx c e=>⟨c,e⟩,λx hx=>by simp at hx⟩
 | (n,k)::r,acc,hn,ha=>by
  have C8:∀x∈r,x.2=NameKind.free->∃c,env.cells.lookup x.1=some c:=λx hx=>hn x (List.mem_cons_of_mem _ hx)
  cases hk:k == NameKind.free with
  | false=>
   obtain ⟨cl,e,h1,h2,h3⟩:=lN f hf r acc C8 ha
   refine ⟨cl,?_,h1,h2,λx hx hz=>?_⟩
   . rw [List.forIn_cons,hf,hk,if_neg Bool.false_ne_true,pure_bind]
     exact e
   . rcases List.mem_cons.mp hx with z | hx
     . subst z
       have uv:k=NameKind.free:=hz
       rw [uv] at hk
       exact absurd hk (by decide)
     . exact h3 x hx hz
  | true=>
   have kI:k=NameKind.free:=by cases k <;> first | rfl | exact absurd hk (by decide)
   obtain ⟨c,hc⟩:=hn (n,k) List.mem_cons_self kI
   have ft:env.cells.lookup n=some c:=hc
   obtain ⟨cl,e,h1,h2,h3⟩:=lN f hf r ((n,c)::acc) C8 (λx d ed=>by
    rw [List.lookup_cons] at ed
    cases hx:x == n with
    | true=>
     rw [hx] at ed
     rw [eq_of_beq hx,ft]
     exact ed
    | false=>
     rw [hx] at ed
     exact ha x d ed)
   have Mo:∃c',cl.lookup n=some c':=h2 n c (by rw [List.lookup_cons,beq_self_eq_true])
   refine ⟨cl,?_,h1,λx d ed=>?_,λx hx hz=>?_⟩
   . rw [List.forIn_cons,hf,hk,if_pos rfl]
     unfold cellOf
     rw [ft]
     rw [pure_bind,pure_bind]
     exact e
   . cases hx:x == n with
     | true=>
      rw [eq_of_beq hx]
      exact Mo
     | false=>
      refine h2 x d ?_
      rw [List.lookup_cons,hx]
      exact ed
   . rcases List.mem_cons.mp hx with z | hx
     . subst z
       exact Mo
     . exact h3 x hx hz
theorem rn {scope:Scope}{env:Env}(h:∀x∈scope.names,x.2=NameKind.free->∃c,env.cells.lookup x.1=some c) :
 ∃cl,closureFor scope env=pure cl/\(∀x c,cl.lookup x=some c->env.cells.lookup x=some c)/\∀x∈scope.names,x.2=NameKind.free->∃c,cl.lookup x.1=some c:=by
 obtain ⟨cl,e,h1,_,h3⟩:=lN (env:=env) (λp cs=>if (p.2 == NameKind.free)=true then (cellOf env p.1 >>= λa=>pure (ForInStep.yield ((p.1,a)::cs))) else pure (ForInStep.yield cs)) (λn k cs=>rfl) scope.names [] h (λx c z=>by simp at z)
 refine ⟨cl,?_,h1,h3⟩
 have key:closureFor scope env=(forIn scope.names ([]:List (Str×Addr)) (λ(p:Str×NameKind) cs=>if (p.2 == NameKind.free)=true then (cellOf env p.1 >>= λa=>pure (ForInStep.yield ((p.1,a)::cs))) else pure (ForInStep.yield cs)) >>= λcs=>pure cs):=rfl
 rw [key,e,pure_bind]
theorem lookup_mem {names:List (Str×NameKind)}{x:Str}{k:NameKind}(h:names.lookup x=some k):(x,k)∈names:=by
 induction names with
 | nil=>simp at h
 | cons p r ih=>
  obtain ⟨n,j⟩:=p
  rw [List.lookup_cons] at h
  cases hx:x == n with
  | true=>
   rw [hx] at h
   have e:j=k:=Option.some.inj h
   rw [eq_of_beq hx,e]
   exact List.mem_cons_self
  | false=>
   rw [hx] at h
   exact List.mem_cons_of_mem _ (ih h)
def j6 (env:Env) (p:Str×NameKind):Str×NameKind:=if (p.2 == NameKind.free && env.scope.kind == .function && env.kindOf p.1 == some .cell) then (p.1,.cell) else p
theorem mm (scope:Scope) (env:Env):(relabel scope env).names=scope.names.map (j6 env):=rfl
theorem j7 {env:Env} : ∀(names:List (Str×NameKind)) (x:Str),(names.map (j6 env)).lookup x=(names.lookup x).map λk=>(j6 env (x,k)).2
 | [],x=>rfl
 | (n,k)::r,x=>by
  rw [List.map_cons]
  have e1:(j6 env (n,k)).1=n:=by unfold j6; split <;> rfl
  have:j6 env (n,k)=(n,(j6 env (n,k)).2):=Prod.ext e1 rfl
  rw [this,List.lookup_cons,List.lookup_cons]
  cases hx:x == n with
  | true=>
   rw [eq_of_beq hx]
   rfl
  | false=>exact j7 r x
theorem Cd {scope:Scope}{env:Env}{x:Str}(h:scope.names.lookup x=some .free):(relabel scope env).names.lookup x=some .cell\/(relabel scope env).names.lookup x=some .free:=by
 rw [mm,j7,h]
 unfold j6
 simp only [Option.map_some]
 split
 . exact .inl rfl
 . exact .inr rfl
theorem Aa {scope:Scope}{env:Env}{x:Str}(hc:∀y∈scope.names,y.2≠.cell) (h:(relabel scope env).names.lookup x=some .cell\/(relabel scope env).names.lookup x=some .free):scope.names.lookup x=some .free:=by
 rw [mm,j7] at h
 cases e:scope.names.lookup x with
 | none=>rw [e] at h; rcases h with h | h <;> cases h
 | some k=>
  rw [e] at h
  have hm:=lookup_mem e
  have nk:k≠.cell:=hc _ hm
  simp only [Option.map_some,Option.some.injEq] at h
  by_cases hf:k=.free
  . rw [hf]
  . have hb:(k == NameKind.free)=false:=by cases k <;> first | rfl | exact absurd rfl hf
    have:(j6 env (x,k)).2=k:=by
     unfold j6
     simp [hb]
    rw [this] at h
    rcases h with h | h
    . exact absurd h nk
    . exact absurd h hf
def cA (X:Cx) (N:List Str) (scope:Scope) (cl:List (Str×Addr)) (C:Addr) (s:Shared) (H:Hp) (fp:List Addr) (pn:List (Addr×Obj)):Cx where
 prog:=X.prog
 w:=X.w
 K:=X.K
 mg:=X.mg
 base:=X.base
 A:=X.A
 N:=N
 iT:=s
 xY:=H
 env:=compEnvC scope cl C X.env
 outer:=X.stack
 stack:=X.stack
 ex:=fp
 fn:=λ_=>false
 calm:=true
 pn:=pn
 xe:=λ_ _=>False
structure kJ (X:Cx) (N:List Str) (js:List (Option Nat)) (scope:Scope):Prop where
 kind:scope.kind=.function
 nocell:∀y∈scope.names,y.2≠.cell
 names:∀y∈scope.names,y.2=.local->scope.names.lookup y.1=some .local
 frees:∀y∈scope.names,y.2=.free->X.env.kindOf y.1=some .cell\/X.env.kindOf y.1=some .free
 len:js.length=N.length
 pull:∀(i j:Nat) (x:Str),js[i]?=some (some j)->N[i]?=some x->X.N[j]?=some x/\scope.names.lookup x=some .free
def dq (xn:List Str) (names:List (Str×NameKind)):List Str->List (Option Nat)->Bool
 | [],[]=>true
 | _::N,none::js=>dq xn names N js
 | x::N,some j::js=>(match xn[j]? with | some y=>decide (y=x) | none=>false) && (match names.lookup x with | some .free=>true | _=>false) && dq xn names N js
 | _,_=>false
theorem lO {xn:List Str}{names:List (Str×NameKind)} : ∀{N:List Str}{js:List (Option Nat)},dq xn names N js=true->js.length=N.length
 | [],[],_=>rfl
 | x::N,none::js,h=>by
  have:=lO (N:=N) (js:=js) (by simpa [dq] using h)
  simp [this]
 | x::N,some j::js,h=>by
  have h':dq xn names N js=true:=by
   simp only [dq,Bool.and_eq_true] at h
   exact h.2
  simp [lO h']
 | [],_::_,h=>by simp [dq] at h
 | _::_,[],h=>by simp [dq] at h
theorem ny {xn:List Str}{names:List (Str×NameKind)} : ∀{N:List Str}{js:List (Option Nat)},dq xn names N js=true->∀(i j:Nat) (x:Str),js[i]?=some (some j)->N[i]?=some x->xn[j]?=some x/\names.lookup x=some .free
 | [],[],_,i,j,x,e,_=>by simp at e
 | y::N,none::js,h,i,j,x,e1,e2=>by
  cases i with
  | zero=>simp at e1
  | succ i=>
   exact ny (N:=N) (js:=js) (by simpa [dq] using h) i j x (by simpa using e1) (by simpa using e2)
 | y::N,some j'::js,h,i,j,x,e1,e2=>by
  simp only [dq,Bool.and_eq_true] at h
  obtain ⟨⟨h1,h2⟩,h3⟩:=h
  cases i with
  | zero=>
   have ej:j'=j:=by simpa using e1
   have ey:y=x:=by simpa using e2
   subst ej ey
   constructor
   . cases q:xn[j']? with
     | none=>rw [q] at h1; cases h1
     | some z=>
      rw [q] at h1
      rw [of_decide_eq_true h1]
   . cases q:names.lookup y with
     | none=>rw [q] at h2; cases h2
     | some k=>
      rw [q] at h2
      cases k <;> first | rfl | cases h2
  | succ i=>exact ny h3 i j x (by simpa using e1) (by simpa using e2)
 | [],_::_,h,_,_,_,_,_=>by simp [dq] at h
 | _::_,[],h,_,_,_,_,_=>by simp [dq] at h
def isFn:ScopeKind->Bool
 | .function=>true
 | _=>false
def qo (xn:List Str) (xs:List (Str×NameKind)) (N:List Str) (js:List (Option Nat)) (scope:Scope):Bool:=
 isFn scope.kind && (scope.names.all λy=>match y.2 with
  | .cell=>false
  | .local=>(match scope.names.lookup y.1 with | some .local=>true | _=>false)
  | .free=>(match xs.lookup y.1 with | some .cell=>true | some .free=>true | _=>false)
  | _=>true) && dq xn scope.names N js
theorem kJ.of {X:Cx}{N:List Str}{js:List (Option Nat)}{scope:Scope}(h:qo X.N X.env.scope.names N js scope=true):kJ X N js scope:=by
 unfold qo at h
 simp only [Bool.and_eq_true,List.all_eq_true] at h
 obtain ⟨⟨h1,h2⟩,h3⟩:=h
 refine ⟨?_,λy hy e=>?_,λy hy e=>?_,λy hy e=>?_,lO h3,ny h3⟩
 . cases q:scope.kind <;> rw [q] at h1 <;> first | rfl | cases h1
 . have:=h2 y hy
   rw [e] at this
   cases this
 . have:=h2 y hy
   rw [e] at this
   cases q:scope.names.lookup y.1 with
   | none=>rw [q] at this; cases this
   | some k=>rw [q] at this; cases k <;> first | rfl | cases this
 . have:=h2 y hy
   rw [e] at this
   show X.env.scope.names.lookup y.1=some .cell\/X.env.scope.names.lookup y.1=some .free
   cases q:X.env.scope.names.lookup y.1 with
   | none=>rw [q] at this; cases this
   | some k=>rw [q] at this; cases k <;> first | exact .inl rfl | exact .inr rfl | cases this
def og (js:List (Option Nat)) (σ:St):St:=js.map λoj=>match oj with | none=>none | some j=>(σ[j]?).getD none
section
variable {X:Cx}{pins:List (Addr×Obj)}{σ:St}{H:Hp}{s:Shared}
theorem Inv.enter {N:List Str}{js:List (Option Nat)}{scope:Scope}{cl:List (Str×Addr)}{C:Addr}{fp:List Addr}{h':Heap}{m:Str->Option Value}{tk:Nat}(I:Inv X pins σ H s) (S:kJ X N js scope) (hc:X.calm=true)
 (gs:∀x c,cl.lookup x=some c->X.env.cells.lookup x=some c) (Gz:∀x∈scope.names,x.2=NameKind.free->∃c,cl.lookup x.1=some c) (hC:C=s.heap.objs.size)
 (hf:∀b∈fp,gE X pins H b) (hl:∀b∈fp,b<s.heap.objs.size) (hn:h'.Ns C m) (k:∀b o,s.heap.get? b=some o->h'.get? b=some o) :
 Inv (cA X N scope cl C s H fp (X.pn++pins)) [] (og js σ) H { s with heap:=h',toks:=tk }:=by
 have lt:∀b o,s.heap.get? b=some o->b≠C:=λb o e=>by
  rw [hC]
  exact Nat.ne_of_lt (Heap.lt_size e)
 have Ab:∀x,scope.names.lookup x=some .free->∃c,cl.lookup x=some c:=λx e=>Gz _ (lookup_mem e) rfl
 have stk:∀b,b≠X.env.locals->b∉X.fs->b∉mi X.stack:=λb h1 h2 z=>(List.mem_cons.mp (I.pR b z)).elim h1 h2
 have ok:(cA X N scope cl C s H fp (X.pn++pins)).Ok:=by
  refine ⟨I.ok.mod,S.kind,I.ok.glob,I.ok.blt,Nat.le_of_eq hC.symm,λx y c e1 e2=>I.ok.inj x y c (gs x c e1) (gs y c e2),λx hx=>Ab x (Aa S.nocell hx),λx c e _=>?_,λ_=>I.ok.hd hc,
   I.ok.frames,.inl rfl,λb hb=>⟨?_,λx c e=>(hf b hb).2.2.2.2.1 x c (gs x c e)⟩,I.bs,Nat.le_trans I.ok.bsz I.sz,λb o e hb=>?_,λb hb=>stk b (hf b hb).2.1 (hf b hb).2.2.1,I.stack,I.wK⟩
  . cases e
  . show b≠C
    rw [hC]
    exact Nat.ne_of_lt (hl b hb)
  . rcases (hf b hb).2.2.2.1 with z | z
    . exact I.ok.noex b o e z
    . exact absurd (Nat.lt_of_lt_of_le (Heap.lt_size e) (Nat.le_trans I.ok.bsz z)) (Nat.lt_irrefl _)
 refine ⟨ok,rfl,I.bare,Un.kept k,⟨m,hn,λi x v e1 e2 e3=>?_⟩,λx c e=>?_,?_,λx c e=>I.freeC x c (gs x c e),λp hp=>?_,I.hok.kept k,?_⟩
 . -- a name that the block closes over
   have uw:(og js σ)[i]?=some (some v):=e2
   unfold og at uw
   rw [List.getElem?_map] at uw
   cases q:js[i]? with
   | none=>rw [q] at uw; cases uw
   | some oj=>
    rw [q] at uw
    cases oj with
    | none=>cases uw
    | some j=>
     have ev:(σ[j]?).getD none=some v:=Option.some.inj uw
     have RN:σ[j]?=some (some v):=by
      cases z:σ[j]? with
      | none=>rw [z] at ev; cases ev
      | some o=>rw [z] at ev; exact congrArg some ev
     obtain ⟨n1,n2⟩:=S.pull i j x q e1
     obtain ⟨c,ft⟩:=Ab x n2
     have RO:=gs x c ft
     obtain ⟨m0,_,xa⟩:=I.loc
     have kx:=S.frees (x,.free) (lookup_mem n2) rfl
     have Mp:X.env.kindOf x=some .cell\/X.env.kindOf x=some .free:=kx
     obtain ⟨u,ru,lk⟩:=xa j x v n1 RN (Mp.elim (λz=>.inr (.inl z)) λz=>.inr (.inr z))
     refine ⟨u,ru,.inr ⟨Cd n2,c,ft,?_⟩⟩
     rcases lk with ⟨kl,_⟩ | ⟨_,c2,e2,ic⟩
     . rcases Mp with z | z <;> (rw [kl] at z; cases z)
     . rw [RO] at e2
       cases e2
       obtain ⟨o,ho,hd⟩:=ic
       exact ⟨o,k c o ho,hd⟩
 . obtain ⟨v,o,ho,hd⟩:=I.cell x c (gs x c e)
   exact ⟨v,o,k c o ho,hd⟩
 . show H C=none
   rw [hC]
   exact I.hok.fresh (Nat.le_refl _)
 . have RP:p∈X.pn++pins:=by simpa [cA] using hp
   obtain ⟨e,n,ne,nf,d⟩:=I.pin p RP
   exact ⟨k _ _ e,n,lt _ _ e,stk _ ne nf,d⟩
 . show (og js σ).length=N.length
   unfold og
   rw [List.length_map]
   exact S.len
theorem Inv.left {N:List Str}{scope:Scope}{cl:List (Str×Addr)}{C:Addr}{fp:List Addr}{Wk:St}{H':Hp}{s':Shared}{pn:List (Addr×Obj)}(I:Inv X pins σ H s) (hf:∀b∈fp,gE X pins H b)
 (J:Inv (cA X N scope cl C s H fp pn) [] Wk H' s'):Inv X pins σ H' s':=
 I.JW (ch:=fp) J.os J.base J.hok J.bare λb hb=>⟨(hf b hb).2.2.2.1,(hf b hb).2.1,(hf b hb).2.2.2.2.1,(hf b hb).2.2.2.2.2⟩
end
def ux (X:Cx) (ifs:List Expr) (t:TT):Prop:=
 ∀(pins:List (Addr×Obj)) (s:Shared) (σ:St) (H:Hp) (Q:Bool->Hp->Prop),Inv X pins σ H s->t σ H Q->
  wpAny (model X.prog X.w) X.A (forIn ifs true λc r=>if r=true then do let ok ← isTrue c X.env (eval c X.env); pure (ForInStep.yield ok) else pure (ForInStep.yield r)) (TP X pins σ Q) X.xe s
def nz:TT:=λ_ H Q=>Q true H
theorem cI {X:Cx} : ux X [] nz:=λpins s σ H Q I h=>by
 rw [List.forIn_nil]
 exact wpAny_pure ⟨H,I,h⟩
theorem uy {X:Cx}{c:Expr}{t:TT}(hc:PT X c t):ux X [c] t:=λpins s σ H Q I h=>by
 rw [List.forIn_cons]
 refine wpAny_bind ?_
 rw [if_pos rfl]
 refine wpAny_bind (aH (hc pins s σ H Q I h) λb s1 h1=>?_)
 refine wpAny_pure ?_
 show wpAny _ _ (forIn [] b _) _ _ _
 rw [List.forIn_nil]
 exact wpAny_pure h1
theorem uz {prog:Program}{w:World}{A:Around}{R:Result->Shared->Prop}{s:Shared}{elt target iter:Expr}{ifs:List Expr}{scope:Scope}{pos:Pos}{it acc:Value}{env:Env}(I:Nat->Shared->Prop)
 (turn:∀n s,I n s->wpAny (model prog w) A (pyNext it) (λr cE=>match r with
  | none=>R (.ok .next) cE
  | some v=>wpAny (model prog w) A (letOwnedTupleGo target it v) (λ_ Mq=>wpAny (model prog w) A (assign target env v) (λ_ qZ=>
   wpAny (model prog w) A (forIn ifs true λc r=>if r=true then do let ok ← isTrue c env (eval c env); pure (ForInStep.yield ok) else pure (ForInStep.yield r)) (λok EK=>
    if ok=true then wpAny (model prog w) A (eval elt env) (λx RQ=>
     wpAny (model prog w) A (call (.builtin "list.append") [acc,x]) (λ_ RR=>∃m,m<n/\I m RR) (λ_ _=>False) RQ) (λ_ _=>False) EK
    else ∃m,m<n/\I m EK) (λ_ _=>False) qZ) (λ_ _=>False) Mq) (λ_ _=>False) cE) (λ_ _=>False) s)
 (n:Nat) (h:I n s) :
 codeAny (model prog w) A (.compLoop (.ListComp elt [⟨target,iter,ifs,0⟩] scope pos) 0 it acc env) R s:=by
 refine codeAny_loop rfl I (λn s hI=>?_) n h
 show wpAny _ A ((compTurn (.ListComp elt [⟨target,iter,ifs,0⟩] scope pos) 0 it acc env).onRaise (λx=>do noteFrame x env; theTreesLotGoes x)) _ _ s
 refine wpAny_noted ?_
 rw [compTurn_list]
 refine wpAny_bind (wpAny_standAt (wpAny_bind (wpAny_mono (turn n s hI) (λr cE jn=>?_) λ_ _ h'=>h'.elim)))
 cases r with
 | none=>exact wpAny_pure jn
 | some v=>
  refine wpAny_bind (wpAny_mono jn (λ_ Mq RS=>?_) λ_ _ h'=>h'.elim)
  refine wpAny_bind (wpAny_mono RS (λ_ qZ o9=>wpAny_bind (wpAny_mono o9 (λok EK rh=>?_) λ_ _ h'=>h'.elim)) λ_ _ h'=>h'.elim)
  cases ok with
  | false=>exact wpAny_pure ⟨rfl,rh⟩
  | true=>
   exact wpAny_bind (wpAny_bind (wpAny_mono rh (λx RQ yp=>wpAny_bind (wpAny_mono yp (λ_ RR fm=>wpAny_pure (wpAny_pure ⟨rfl,fm⟩)) λ_ _ h'=>h'.elim)) λ_ _ h'=>h'.elim))
def xb (D:Addr) (g:TG) (ti:TT) (te:TE) (J:It) (W:Nat->Nat->St->Hp->Prop) (Q:Hp->Prop):Prop:=∀i m σ H,W i m σ H->
 (J.stop i H/\Q H)\/(J.go i H/\∀x H',J.yld i H x H'->g x σ H' λgb H2=>ti gb H2 λb H3=>
  if b=true then te gb H3 λy H4=>∃acc,H4 D=some (.lst acc)/\acc.length<sizeLine/\∃m',m'<m/\W (i+1) m' gb (upd H4 D (.lst (acc++[y])))
  else ∃m',m'<m/\W (i+1) m' gb H3)
def GA (js:List (Option Nat)) (wi:TI) (g:TG) (ti:TT) (te:TE):TE:=λσ H Q=>wi σ H λJ H1=>∀D,H1 D=none->
 ∃W:Nat->Nat->St->Hp->Prop,(∃m,W 0 m (og js σ) (upd H1 D (.lst [])))/\xb D g ti te J W (λH'=>Q (.ref D) H')
section
variable {X:Cx}{N:List Str}{js:List (Option Nat)}{scope:Scope}{elt tg iter:Expr}{ifs:List Expr}{pos:Pos}{wi:TI}{g:TG}{ti:TT}{te:TE}
theorem Ac {use:Option (Value->Sem Unit)}{R:Value->Shared->Prop}(S:kJ X N js scope) (hc:X.calm=true) (hi:PI X tg iter wi)
 (hg:∀cl C s H fp pn,PG (cA X N scope cl C s H fp pn) tg g) (ht:∀cl C s H fp pn,ux (cA X N scope cl C s H fp pn) ifs ti) (he:∀cl C s H fp pn,PE (cA X N scope cl C s H fp pn) elt te)
 (hs:∀x,foldedSetIterable iter X.env x=pure x){pins:List (Addr×Obj)}{s:Shared}{σ:St}{H:Hp}{Q:V->Hp->Prop}(I:Inv X pins σ H s) (h:GA js wi g ti te σ H Q)
 (hR:∀D C (H':Hp) (s':Shared),Inv X pins σ H' s'->(∃m,s'.heap.Ns C m)->H' C=none->C≠X.env.locals->(C∈X.ex\/X.iT.heap.objs.size<=C)->(∀x c,X.env.cells.lookup x=some c->c≠C)->(∀p∈X.pn++pins,p.1≠C)->Q (.ref D) H'->
  compPost (model X.prog X.w) X.A X.xe use R (.ref D) C (.ok .next) s') :
 wpAny (model X.prog X.w) X.A (comprehension (.ListComp elt [⟨tg,iter,ifs,0⟩] scope pos) scope X.env (firstIterPos [⟨tg,iter,ifs,0⟩] pos) (newList []) false (eval iter X.env) use) R X.xe s:=by
 obtain ⟨cl,Kk,gs,Gz⟩:=rn (scope:=scope) (env:=X.env) λx hx hk=>I.ok.has x.1 (S.frees x hx hk)
 refine wpAny_comprehension_free (use:=use) rfl hs Kk S.kind S.names (aH (hi pins s σ H _ I h) λxv s1 h1=>aH h1 λFZ s2 h2=>?_)
 obtain ⟨it,fp,tn,J,H2,e,I2,T,oJ,f2,q2⟩:=h2
 subst e
 refine wpAny_newObj_type (wpAny_newFunctionEnv S.nocell (by intro y hy; simp at hy) (λjn Ce Cf=>?_) S.kind)
 dsimp only at Ce Cf ⊢
 have I3:Inv X pins σ (upd H2 s2.heap.objs.size (.lst [])) { s2 with heap:=s2.heap.push { cls:=.type "list",data:=.seq ([]:List Value).toArray },toks:=s2.toks }:=I2.B8 .nil (by show 0<=sizeLine; decide)
 have lt2:∀b∈fp,b<s2.heap.objs.size:=λb hb=>let ⟨o,e,_⟩:=T.obj _ _ oJ b hb; Heap.lt_size e
 have f3:∀b∈fp,gE X pins (upd H2 s2.heap.objs.size (.lst [])) b:=λb hb=>⟨by rw [ai (Nat.ne_of_lt (lt2 b hb))]; exact (f2 b hb).1,(f2 b hb).2⟩
 obtain ⟨W,⟨m0,w0⟩,turn⟩:=q2 s2.heap.objs.size (I2.hok.fresh (Nat.le_refl _))
 generalize Dr:({ s2 with heap:=s2.heap.push { cls:=.type "list",data:=.seq ([]:List Value).toArray },toks:=s2.toks } : Shared)=s3 at I3
 have e3:s3.heap=s2.heap.push { cls:=.type "list",data:=.seq ([]:List Value).toArray }:=by rw [← Dr]
 have z3:s3.heap.objs.size=s2.heap.objs.size+1:=by rw [e3,Heap.size_push]
 have k1:∀b o,s3.heap.get? b=some o->jn.get? b=some o:=λb o e=>by
  have hb:b<s3.heap.objs.size:=Heap.lt_size e
  refine Cf.extBut b o ?_ (Heap.get?_push_of_some _ (by rw [← e3]; exact e))
  rw [← e3]
  exact Nat.ne_of_lt hb
 have hC:(s2.heap.push { cls:=.type "list",data:=.seq ([]:List Value).toArray }).objs.size=s3.heap.objs.size:=by rw [e3]
 have I4:=I3.enter (N:=N) (js:=js) (scope:=scope) (cl:=cl) (fp:=fp) (C:=(s2.heap.push { cls:=.type "list",data:=.seq ([]:List Value).toArray }).objs.size) (h':=jn) (tk:=s2.toks+([]:List (Str×Value)).length) S hc gs Gz hC f3
  (λb hb=>by rw [z3]; exact Nat.lt_succ_of_lt (lt2 b hb)) Ce k1
 have Mr:tn 0 jn:=T.keep _ _ _ oJ λb hb o e=>k1 b o (by rw [e3]; exact Heap.get?_push_of_some _ e)
 generalize WA:(s2.heap.push { cls:=.type "list",data:=.seq ([]:List Value).toArray }).objs.size=C at Ce Cf hC I4 ⊢
 have RT:({ s3 with heap:=jn,toks:=s2.toks+([]:List (Str×Value)).length } : Shared) = { s2 with heap:=jn,toks:=s2.toks+([]:List (Str×Value)).length }:=by rw [← Dr]
 rw [RT] at I4
 have fY:∀{H':Hp},(∀b∈fp,H' b=none)->∀b∈fp,gE (cA X N scope cl C s3 (upd H2 s2.heap.objs.size (.lst [])) fp (X.pn++pins)) [] H' b:=λhn b hb=>by
  obtain ⟨f0,fa,fb,fc,fd,fe⟩:=f3 b hb
  refine ⟨hn b hb,?_,λz=>(List.mem_cons.mp (I3.pR b z)).elim fa fb,.inl hb,λx c e=>fd x c (gs x c e),λp hp=>fe p (by simpa [cA] using hp)⟩
  show b≠C
  rw [hC,z3]
  exact Nat.ne_of_lt (Nat.lt_succ_of_lt (lt2 b hb))
 have loop:codeAny (model X.prog X.w) X.A (.compLoop (.ListComp elt [⟨tg,iter,ifs,0⟩] scope pos) 0 (.ref it) (.ref s2.heap.objs.size) (compEnvC scope cl C X.env))
  (compPost (model X.prog X.w) X.A X.xe use R (.ref s2.heap.objs.size) C) { s2 with heap:=jn,toks:=s2.toks+([]:List (Str×Value)).length }:=by
  refine uz (λn s'=>∃i cg H',Inv (cA X N scope cl C s3 (upd H2 s2.heap.objs.size (.lst [])) fp (X.pn++pins)) [] cg H' s'/\tn i s'.heap/\(∀b∈fp,H' b=none)/\W i n cg H') ?_ m0
   ⟨0,_,_,I4,Mr,λb hb=>(f3 b hb).1,w0⟩
  rintro n s5 ⟨i,Kl,H5,I5,wO,Df,w5⟩
  rcases turn i n Kl H5 w5 with ⟨stop,qn⟩ | ⟨go,step⟩
  . refine aH (T.done (cA X N scope cl C s3 (upd H2 s2.heap.objs.size (.lst [])) fp (X.pn++pins)) rfl rfl rfl rfl i [] s5 Kl H5 (λ_ _=>False) I5 (fY Df) wO stop) λr s6 ⟨hr,I6⟩=>?_
    subst hr
    have I7:Inv X pins σ H5 s6:=I3.left f3 I6
    have RU:X.iT.heap.objs.size<=C:=by rw [hC]; exact I3.sz
    refine hR s2.heap.objs.size C H5 s6 I7 (let ⟨m,hn,_⟩:=I6.loc; ⟨m,hn⟩) I6.free ?_ (.inr RU) (λx c e z=>?_) (λp hp z=>?_) qn
    . rw [hC]
      exact Nat.ne_of_gt I3.lt
    . obtain ⟨v,o,ho,_⟩:=I3.cell x c e
      have:=Heap.lt_size ho
      rw [z,hC] at this
      exact Nat.lt_irrefl _ this
    . obtain ⟨e,_⟩:=I3.pin p hp
      have:=Heap.lt_size e
      rw [z,hC] at this
      exact Nat.lt_irrefl _ this
  . refine aH (T.item (cA X N scope cl C s3 (upd H2 s2.heap.objs.size (.lst [])) fp (X.pn++pins)) rfl rfl rfl rfl i [] s5 Kl H5 (λ_ _=>False) I5 (fY Df) wO go) λr s6 ⟨u,hr,h6⟩=>?_
    subst hr
    refine aH h6 λ_ s7 ⟨x,H7,I7,r7,y7,GB,RV⟩=>?_
    have RW:=I7.pinned (fY RV) (T.obj _ _ GB)
    have again:∀{n':Nat}{Ad:St}{H8:Hp}{s8:Shared},Inv (cA X N scope cl C s3 (upd H2 s2.heap.objs.size (.lst [])) fp (X.pn++pins)) ([]++mZ fp s7.heap) Ad H8 s8->n'<n->W (i+1) n' Ad H8->
     ∃m,m<n/\∃i cg H',Inv (cA X N scope cl C s3 (upd H2 s2.heap.objs.size (.lst [])) fp (X.pn++pins)) [] cg H' s8/\tn i s8.heap/\(∀b∈fp,H' b=none)/\W i m cg H':=λ{n' Ad H8 s8} I8 hm w8=>by
     refine ⟨n',hm,i+1,Ad,H8,I8.lG,T.keep _ _ _ GB λb hb o e=>(I8.pin (b,o) (List.mem_append_right _ (List.mem_append_right _ (i6 hb e)))).1,λb hb=>?_,w8⟩
     obtain ⟨o,e,d⟩:=T.obj _ _ GB b hb
     exact (I8.pin (b,o) (List.mem_append_right _ (List.mem_append_right _ (i6 hb e)))).2.1
    refine aH (hg _ _ _ _ _ _ _ s7 Kl H7 x u _ RW r7 (step x H7 y7)) λ_ s8 ⟨Ad,H8,I8,q8⟩=>?_
    refine aH (ht _ _ _ _ _ _ _ s8 Ad H8 _ I8 q8) λok s9 ⟨H9,I9,q9⟩=>?_
    cases ok with
    | false=>
     rw [if_neg Bool.false_ne_true] at q9 ⊢
     obtain ⟨m',hm,w9⟩:=q9
     exact again I9 hm w9
    | true=>
     rw [if_pos rfl] at q9 ⊢
     refine aH (he _ _ _ _ _ _ _ s9 Ad H9 _ I9 q9) λyv RX ⟨y,Ms,RY,RZ,acc,hD,hl,m',hm,R0⟩=>?_
     refine aH (gq _ RX Ad Ms (.ref s2.heap.objs.size) [y] (.ref s2.heap.objs.size) [yv] (λ_ H'=>H'=upd Ms s2.heap.objs.size (.lst (acc++[y]))) RY rfl (.cons RZ .nil) ⟨s2.heap.objs.size,acc,y,rfl,rfl,hD,hl,rfl⟩) λ_ WB ⟨_,WC,R1,_,R3⟩=>?_
     subst R3
     exact again R1 hm R0
 exact codeAny_compStart_list loop (T.self _ 0 _ _ _ Mr loop)
theorem eE (S:qo X.N X.env.scope.names N js scope=true) (hc:X.calm=true) (hi:PI X tg iter wi)
 (hg:∀cl C s H fp pn,PG (cA X N scope cl C s H fp pn) tg g) (ht:∀cl C s H fp pn,ux (cA X N scope cl C s H fp pn) ifs ti) (he:∀cl C s H fp pn,PE (cA X N scope cl C s H fp pn) elt te)
 (hs:∀x,foldedSetIterable iter X.env x=pure x:=by intro _; rfl):PE X (.ListComp elt [⟨tg,iter,ifs,0⟩] scope pos) (GA js wi g ti te):=by
 intro pins s σ H Q I h
 rw [eval_ListComp]
 refine Ac (use:=none) (kJ.of S) hc hi hg ht he hs I h ?_
 rintro D C H' s' I' ⟨m,hn⟩ c1 c2 c3 c4 c5 q
 refine ⟨m,hn,λh' sD=>?_⟩
 exact ⟨.ref D,H',I'.turned (t':=s'.toks) (λb o hb e=>sD.extBut b o hb e) c1 c2 c3 c4 c5,rfl,q⟩
theorem Ds {i:Nat}{x:Str}{pos' GC:Pos}(hN:X.N.Nodup) (R4:X.N[i]?=some x) (hx:X.env.scope.names.lookup x=some .local) (S:qo X.N X.env.scope.names N js scope=true) (hc:X.calm=true) (hi:PI X tg iter wi)
 (hg:∀cl C s H fp pn,PG (cA X N scope cl C s H fp pn) tg g) (ht:∀cl C s H fp pn,ux (cA X N scope cl C s H fp pn) ifs ti) (he:∀cl C s H fp pn,PE (cA X N scope cl C s H fp pn) elt te)
 (R5:swapsWith (.ListComp elt [⟨tg,iter,ifs,0⟩] scope pos) (some (.Name x pos')) GC.line X.env=pure true:=by rfl)
 (hs:∀x,foldedSetIterable iter X.env x=pure x:=by intro _; rfl):PS X (.Assign [.Name x pos'] (.ListComp elt [⟨tg,iter,ifs,0⟩] scope pos) GC) (BN (GA js wi g ti te) (dm i)):=by
 intro pins s σ H D I h
 rw [exec_Assign_Name_used _ _ _ _ R5]
 refine wpAny_bind (wpAny_standAt (wpAny_bind ?_))
 show wpAny _ X.A (do let _ ← comprehension (.ListComp elt [⟨tg,iter,ifs,0⟩] scope pos) scope X.env _ (newList []) false (eval iter X.env) (some (assign (.Name x pos') X.env))) _ _ s
 refine wpAny_bind (aH (Ac (use:=some (assign (.Name x pos') X.env)) (R:=λ_ s'=>SP X pins D .next s') (kJ.of S) hc hi hg ht he hs I h ?_) λ_ s' hq=>wpAny_pure (wpAny_pure hq))
 rintro Dd C H' s' I' ⟨m,hn⟩ c1 c2 c3 c4 c5 q
 show wpAny _ X.A (assign (.Name x pos') X.env (.ref Dd)) _ _ _
 refine wpAny_assign_Name (rW I' hN R4 (.inl hx) (v:=.ref Dd) rfl (λzN R6 ⟨a,sb,ha⟩=>?_) (.inr hx))
 have ea:a≠C:=by
  rcases ha with ha | ha
  . rw [ha]
    exact Ne.symm c2
  . exact c4 x a ha
 refine ⟨m,hn.sameBut sb (Ne.symm ea),λh' sD=>?_⟩
 exact ⟨_,_,R6.turned (t':=zN.toks) (λb o hb e=>sD.extBut b o hb e) c1 c2 c3 c4 c5,q⟩
end
def Ae (D:Addr) (n:Nat) (Pv:Nat->List V->St->Hp->Prop):Nat->Nat->St->Hp->Prop:=λi m σ H=>i<=n/\m=n-i/\∃acc,H D=some (.lst acc)/\Pv i acc σ H
theorem cJ {D:Addr}{n i:Nat}{Pv:Nat->List V->St->Hp->Prop}{acc:List V}{σ:St}{H:Hp}(hi:i<n) (hD:H D=some (.lst acc)) (hp:Pv (i+1) acc σ H):∃m',m'<n-i/\Ae D n Pv (i+1) m' σ H:=
 ⟨n-(i+1),by omega,hi,rfl,acc,hD,hp⟩
theorem fQ {D:Addr}{g:TG}{ti:TT}{te:TE}{J:It}{Q:Hp->Prop}{R7:St}{H0:Hp}(n:Nat) (Pv:Nat->List V->St->Hp->Prop) (h0:Pv 0 [] R7 H0) (R8:H0 D=some (.lst []))
 (fin:∀acc σ H,H D=some (.lst acc)->Pv n acc σ H->J.stop n H/\Q H)
 (step:∀i acc σ H,i<n->H D=some (.lst acc)->Pv i acc σ H->J.go i H/\∀x H',J.yld i H x H'->g x σ H' λgb H2=>ti gb H2 λb H3=>
  if b=true then te gb H3 λy H4=>∃acc,H4 D=some (.lst acc)/\acc.length<sizeLine/\∃m',m'<n-i/\Ae D n Pv (i+1) m' gb (upd H4 D (.lst (acc++[y]))) else ∃m',m'<n-i/\Ae D n Pv (i+1) m' gb H3) :
 ∃W:Nat->Nat->St->Hp->Prop,(∃m,W 0 m R7 H0)/\xb D g ti te J W Q:=by
 refine ⟨Ae D n Pv,⟨n,Nat.zero_le _,rfl,[],R8,h0⟩,?_⟩
 rintro i m σ H ⟨hi,rfl,acc,hD,hp⟩
 rcases Nat.lt_or_ge i n with h | h
 . exact .inr (step i acc σ H h hD hp)
 . have e:i=n:=Nat.le_antisymm hi h
   subst e
   exact .inl (fin acc σ H hD hp)
end L2
namespace L2
open PySem PySem.Spec PyProof.Rows
section
variable {X:Cx}{pins:List (Addr×Obj)}{σ:St}{H:Hp}{s:Shared}{h':Heap}
theorem Inv.rp {t':Nat}{fp:List Addr}(I:Inv X pins σ H s) (hf:∀b∈fp,gE X pins H b) (k:∀b o,b∉fp->s.heap.get? b=some o->h'.get? b=some o):Inv X pins σ H { s with heap:=h',toks:=t' }:=by
 have Af:∀b u,H b=some u->b∉fp:=λb u e z=>by rw [(hf b z).1] at e; cases e
 refine I.step (g':=s.gens) (d':=s.drawn) (ch:=fp) (λb hb=>⟨(hf b hb).2.2.2.1,(hf b hb).2.1,(hf b hb).2.2.2.2.1,(hf b hb).2.2.2.2.2⟩) (λb o _ _ hc e _=>k b o hc e) (λb o _ _ hc e _=>⟨o.slots,k b o hc e⟩) (λ_ _ _ _ n=>n)
  (λb o hc e=>⟨o,k b o hc e⟩) (λ_ _ e=>e) (λ_ _ _ e=>e) (λb ps e=>⟨#[],by rw [e]; simp⟩) (λm hm=>?_) (λb u e=>?_) I.bare
 . obtain ⟨o,es,ep,ho,r⟩:=hm
   exact ⟨o,es,ep,k _ o (λz=>(hf _ z).2.1 rfl) ho,r⟩
 . refine (I.hok b u e).eK (λc v hc q=>k c v ?_ q) (λ_ q=>q) λ_ _ q=>q
   rcases hc with z | z
   . rw [z]; exact Af b u e
   . exact Af c _ z
theorem Inv.rq {t':Nat}{fp:List Addr}{T:Addr}{xs:List V}{its:List Value}(I:Inv X pins σ H s) (hf:∀b∈fp,gE X pins H b) (k:∀b o,b∉fp->s.heap.get? b=some o->h'.get? b=some o)
 (hT:s.heap.objs.size<=T) (ht:IsTup h' T its.toArray) (rv:Vals xs its) (hz:xs.length<=sizeLine):Inv X pins σ (upd H T (.tup xs)) { s with heap:=h',toks:=t' }:=by
 have Af:∀b u,H b=some u->b∉fp:=λb u e z=>by rw [(hf b z).1] at e; cases e
 have Ag:H T=none:=I.hok.fresh hT
 have neT:∀b u,H b=some u->b≠T:=λb u e z=>by rw [z,Ag] at e; cases e
 have R9:∀b o,s.heap.get? b=some o->b≠T:=λb o e=>Nat.ne_of_lt (Nat.lt_of_lt_of_le (Heap.lt_size e) hT)
 refine I.step (g':=s.gens) (d':=s.drawn) (ch:=fp) (λb hb=>⟨(hf b hb).2.2.2.1,(hf b hb).2.1,(hf b hb).2.2.2.2.1,(hf b hb).2.2.2.2.2⟩) (λb o _ _ hc e _=>k b o hc e) (λb o _ _ hc e _=>⟨o.slots,k b o hc e⟩)
  (λb o _ e n=>by rw [ai (R9 b o e)]; exact n) (λb o hc e=>⟨o,k b o hc e⟩) (λb ys e=>by rw [ai (neT b _ e)]; exact e) (λb o u e=>by rw [ai (neT b _ e)]; exact e)
  (λb ps e=>⟨#[],by rw [ai (neT b _ e),e]; simp⟩) (λm hm=>?_) (λb u e=>?_) I.bare
 . obtain ⟨o,es,ep,ho,r⟩:=hm
   exact ⟨o,es,ep,k _ o (λz=>(hf _ z).2.1 rfl) ho,r⟩
 . by_cases hb:b=T
   . subst hb
     rw [ae] at e
     cases e
     exact ⟨hz,its,rv,ht⟩
   . rw [ai hb] at e
     refine (I.hok b u e).eK (λc v hc q=>k c v ?_ q) (λc q=>by rw [ai (neT c _ q)]; exact q) λc ys q=>by rw [ai (neT c _ q)]; exact q
     rcases hc with z | z
     . rw [z]; exact Af b u e
     . exact Af c _ z
end
def GD (z:Str):It:=⟨λi _=>i<z.cps.size,λi H x H'=>H'=H/\∃c,z.cps[i]?=some c/\x=.str ⟨#[c]⟩,λi _=>i=z.cps.size⟩
theorem uA {P:Program}{w:World}{K:W.Frag}{tg:Expr}(it:Addr) (z:Str) (t:Tok) (ty:String) (W:∀A:Around,A.handled=none->Walks P w A it [it] [it] z.cps.size (SignAt z) (λi h=>h.IsStrIter it ty z t i))
 (hs:∀(A:Around) (i:Nat) (s:Shared) (Q:Value->Shared->Prop) (E:Value->Shared->Prop),s.heap.IsStrIter it ty z t i->Q (.ref it) s->wpAny (model P w) A (pyIter (.ref it)) Q E s)
 (hn:["enumerate", "zip", "dict_itemiterator", "dict_reverseitemiterator", "odict_iterator", "itertools.zip_longest", "itertools.pairwise"].contains ty=false) :
 Turn P w K tg (GD z) [it] it (λi h=>h.IsStrIter it ty z t i) where
 mem:=by simp
 obj:=λi h st b hb=>by
  have e:b=it:=by simpa using hb
  subst e
  obtain ⟨o,e,c,d⟩:=st
  exact ⟨o,e,λv z=>by rw [d] at z; cases z⟩
 keep:=λi h h' st k=>let ⟨o,e,r⟩:=st; ⟨o,k it (by simp) o e,r⟩
 item:=by
  intro X hP hw hK hc i pins s σ H E I hf st hg
  subst hP hw hK
  obtain ⟨f0,f1,f2,f3,f4,f5⟩:=hf it (by simp)
  refine (W X.A (I.ok.hd hc)).item i s _ _ hg st λv h' tk hv aG kk=>?_
  obtain ⟨c,u,ec,rfl⟩:=hv
  have I1:Inv X pins σ H { s with heap:=h',toks:=tk }:=I.turned (λb o hb e=>kk b o (by simpa using hb) e) f0 f1 f3 f4 f5
  obtain ⟨o,e,oc,od⟩:=id aG
  exact ⟨_,rfl,tI (s:={ s with heap:=h',toks:=tk }) e oc od hn ⟨.str ⟨#[c]⟩,H,I1,⟨u,rfl⟩,⟨rfl,c,ec,rfl⟩,aG,λb hb=>(hf b hb).1⟩⟩
 done:=by
  intro X hP hw hK hc i pins s σ H E I hf st hg
  subst hP hw hK
  obtain ⟨f0,f1,f2,f3,f4,f5⟩:=hf it (by simp)
  have Ah:i=z.cps.size:=hg
  subst Ah
  exact (W X.A (I.ok.hd hc)).done s _ _ st λh' tk kk=>⟨rfl,I.turned (λb o hb e=>kk b o (by simpa using hb) e) f0 f1 f3 f4 f5⟩
 self:=λA i s Q E st h=>hs A i s Q E st h
section
variable {X:Cx}{tg:Expr}
def OM (ts:TE):TI:=λσ H R=>ts σ H λx H1=>∃z,x=.str z/\R (GD z) H1
theorem qp {l:Expr}{tl:TE}(hl:PE X l tl):PI X tg l (OM tl):=by
 intro pins s σ H R I h
 refine aH (hl pins s σ H _ I h) λv s1 ⟨x,H1,I1,r1,q1⟩=>?_
 obtain ⟨z,e,q⟩:=q1
 subst e
 obtain ⟨t,rfl⟩:=r1
 have fin:∀b∈[s1.heap.objs.size],gE X pins H1 b:=λb hb=>by
  have e:b=s1.heap.objs.size:=by simpa using hb
  subst e
  exact I1.o6 (Nat.le_refl _) (I1.hok.fresh (Nat.le_refl _))
 cases ha:z.cps.all (· < 128) with
 | true=>
  refine wpAny_pyIter_ascii ha ?_
  exact ⟨s1.heap.objs.size,[s1.heap.objs.size],_,_,H1,rfl,I1.kept (t':=s1.toks) λb o e=>Heap.get?_push_of_some _ e,
   uA _ z t "str_ascii_iterator" (λA hA=>Walks.strAscii hA _ z t) (λ_ _ _ _ _ st h=>wpAny_pyIter_striter_ascii st h) (by decide),⟨_,Heap.get?_push_size _ rfl,rfl,rfl⟩,fin,q⟩
 | false=>
  refine wpAny_pyIter_wide ha ?_
  exact ⟨s1.heap.objs.size,[s1.heap.objs.size],_,_,H1,rfl,I1.kept (t':=s1.toks) λb o e=>Heap.get?_push_of_some _ e,
   uA _ z t "str_iterator" (λA hA=>Walks.strWide hA _ z t) (λ_ _ _ _ _ st h=>wpAny_pyIter_striter_wide st h) (by decide),⟨_,Heap.get?_push_size _ rfl,rfl,rfl⟩,fin,q⟩
end
def Ai (K:W.Frag) (a:Addr):It:=
 ⟨λi H=>∃xs x,ay K H a xs/\xs[i]?=some x,λi H v H'=>∃T x,v=.ref T/\H T=none/\H'=upd H T (.tup [.int (i:Int),x])/\∀xs,ay K H a xs->xs[i]?=some x,λi H=>∃xs,ay K H a xs/\xs.length<=i⟩
theorem Aj {P:Program}{w:World}{K:W.Frag}{es:List Expr}{kk:Nat}{tp:Pos}(a e it:Addr) (Mt:e≠it):Turn P w K (.Tuple es kk tp) (Ai K a) [e,it] e (λi h=>(∃old,IsEnum h e it (i:Int) old)/\h.IsListIter it a i) where
 mem:=by simp
 obj:=λi h st b hb=>by
  obtain ⟨⟨old,he⟩,o,e1,c,d⟩:=st
  rcases List.mem_cons.mp hb with z | z
  . subst z
    exact ⟨_,he,λv z=>by
     have z':Data.fields _=Data.cell v:=z
     cases z'⟩
  . have z':b=it:=by simpa using z
    subst z'
    exact ⟨o,e1,λv z=>by rw [d] at z; cases z⟩
 keep:=λi h h' st k=>⟨let ⟨old,he⟩:=st.1; ⟨old,k e (by simp) _ he⟩,st.2.at λo e1=>k it (by simp) o e1⟩
 item:=by
  intro X hP hw hK hc i pins s σ H E I hf st hg
  subst hP hw hK
  obtain ⟨xs,x,hq,hx⟩:=hg
  obtain ⟨its,rv,p,hz⟩:=I.list hq
  obtain ⟨u,hu,ru⟩:=rv.get hx
  obtain ⟨⟨old,he⟩,hit⟩:=st
  refine wpAny_pyNext_enum_item he hit p.isList (x:=u) (by simpa using hu) Mt λh' ho ON hT hsz hk=>?_
  refine ⟨.ref s.heap.objs.size,rfl,?_⟩
  refine wpAny_letOwnedTupleGo_enum ho λh2 GF jM=>?_
  have Ak:s.heap.objs.size≠e:=Nat.ne_of_gt (Heap.lt_size he)
  have Al:h2.get? s.heap.objs.size=some { cls:=.type "tuple",data:=.seq #[.int i s.toks,u] }:=(jM.2 _ Ak).trans hT
  have I1:Inv X pins σ (upd H s.heap.objs.size (.tup [.int (i:Int),x])) { s with heap:=h2,toks:=s.toks+1 }:=I.rq (its:=[.int i s.toks,u]) hf (λb o hb e1=>by
   have b1:b≠e:=λz=>hb (by simp [z])
   have b2:b≠it:=λz=>hb (by simp [z])
   exact (jM.2 b b1).trans (hk b o b1 b2 e1)) (Nat.le_refl _) ⟨_,Al,rfl,_,rfl⟩ (.cons ⟨_,rfl⟩ (.cons ru .nil)) (by show 2<=sizeLine; decide)
  have fr:H s.heap.objs.size=none:=I.hok.fresh (Nat.le_refl _)
  refine ⟨.ref s.heap.objs.size,_,I1,rfl,⟨s.heap.objs.size,x,rfl,fr,rfl,λys hy=>by rw [I.o4 hy hq]; exact hx⟩,⟨⟨u,?_⟩,ON.at λo e1=>(jM.2 it Mt.symm).trans e1⟩,λb hb=>?_⟩
  . have e3:(((i+1:Nat):Nat):Int)=(i:Int)+1:=by omega
    rw [e3]
    exact GF
  . have qq:=(hf b hb).1
    have nb:b≠s.heap.objs.size:=by
     rcases List.mem_cons.mp hb with z | z
     . rw [z]; exact Ne.symm Ak
     . have z':b=it:=by simpa using z
       rw [z']
       obtain ⟨o,e1,_⟩:=hit
       exact Nat.ne_of_lt (Heap.lt_size e1)
    rw [ai nb]
    exact qq
 done:=by
  intro X hP hw hK hc i pins s σ H E I hf st hg
  subst hP hw hK
  obtain ⟨xs,hq,hx⟩:=hg
  obtain ⟨its,rv,p,hz⟩:=I.list hq
  obtain ⟨⟨old,he⟩,hit⟩:=st
  have hl:=rv.length
  exact wpAny_pyNext_enum_end (I.ok.hd hc) he hit p.isList (by simp; omega) λh' eb=>⟨rfl,I.rp (t':=s.toks) hf λb o hb e1=>eb b o (λz=>hb (by simp [z])) e1⟩
 self:=λ_ _ _ _ _ st h=>let ⟨old,he⟩:=st.1; wpAny_pyIter_enum he h
section
variable {X:Cx}
def Km (K:W.Frag) (ta:TA):TI:=λσ H R=>ta σ H λvs H1=>∃a,vs=[.ref a]/\(∃xs,ay K H1 a xs)/\R (Ai K a) H1
theorem kM {es:List Expr}{kk:Nat}{tp:Pos}{a:Expr}{ta:TA}{p pos:Pos}(hg:Gl X "enumerate") (hm:X.mg "enumerate" = none) (ha:PA X [a] ta) (hs:starEach [a] X.env=[(false,eval a X.env)]:=by rfl) :
 PI X (.Tuple es kk tp) (.Call (.Name "enumerate" p) [a] [] pos) (Km X.K ta):=by
 intro pins s σ H R I h
 refine Call_ (iH I hg hm boot_enumerate (PyProof.Rows.callWith_type1 (aH (ha pos pins s σ H _ I h) λus s1 ⟨vs,H1,I1,r1,q1⟩=>?_) hs rfl))
 obtain ⟨l,e,⟨xs,hq⟩,q⟩:=q1
 subst e
 cases r1 with
 | cons r rr=>
  cases rr
  cases r
  obtain ⟨its,rv,pl,hz⟩:=I1.list hq
  refine call_enumerate_list pl.isList λh' he hit hsz hk=>?_
  refine wpAny_pyIter_enum he ?_
  have I2:Inv X pins σ H1 { s1 with heap:=h' }:=I1.kept (t':=s1.toks) hk
  refine ⟨s1.heap.objs.size+1,[s1.heap.objs.size+1,s1.heap.objs.size],_,_,H1,rfl,I2,Aj l _ _ (Nat.ne_of_gt (Nat.lt_succ_self _)),⟨⟨_,he⟩,hit⟩,λb hb=>?_,q⟩
  have qq:s1.heap.objs.size<=b:=by
   rcases List.mem_cons.mp hb with z | z
   . rw [z]; exact Nat.le_succ _
   . have z':b=s1.heap.objs.size:=by simpa using z
     rw [z']; exact Nat.le_refl _
  exact I1.o6 qq (I1.hok.fresh qq)
end
section
variable {X:Cx}
def OO:V->Option Int->Option Int->Hp->VK->Prop:=λx lo hi H Q=>∃z j,x=.str z/\lo=none/\hi=some j/\z.length<=sizeLine/\Q (.str (Txt.slice z none (some j))) H
theorem qr:Gn X OO:=by
 intro pins s σ H x v vl vu lo hi sl Q I rx hs pl pu h
 obtain ⟨z,j,rfl,rfl,rfl,hz,q⟩:=h
 obtain ⟨t,rfl⟩:=rx
 cases pl
 cases pu with
 | int _ uj=>
  refine ⟨"str",_,F.slot_str_getitem.lookup,typeIs_str _ _ _,wpAny_getItem_str_slice (l:=none) (u:=some (j,uj)) (st:=none) hs rfl
   (post_val_or_str ⟨Nat.le_trans (Txt.slice_le z _ _) hz,λt' k=>⟨.str (Txt.slice z none (some j)),H,I.tok k,⟨t',rfl⟩,q⟩⟩)⟩
def rJoin (K:W.Frag):V->List V->Hp->VK->Prop:=λx vs H Q=>∃z a ys,x=.str z/\vs=[.ref a]/\ay K H a (ys.map V.str)/\(ys.map (·.length)).sum+ys.length*z.length<=16777216/\Q (.str (Txt.join z ys)) H
theorem qt:∀{ys:List Str}{us:List Value},Vals (ys.map V.str) us->StrsAre us ys
 | [],us,r=>by
  cases r
  exact .nil
 | y::ys,us,r=>by
  cases r with
  | cons h t=>
   obtain ⟨tk,rfl⟩:=h
   exact .cons _ _ (qt t)
theorem EY:w4 X "str.join" (rJoin X.K):=by
 intro pins s σ H x vs v us Q I rx rv h
 obtain ⟨z,a,ys,rfl,rfl,hq,hl,q⟩:=h
 obtain ⟨t,rfl⟩:=rx
 obtain ⟨u,rfl,ru⟩:=rv.one
 cases ru
 obtain ⟨its,r,pl,_⟩:=I.list hq
 exact join_list pl.isList (by simpa using qt r) hl λt' k=>⟨.str (Txt.join z ys),H,I.tok k,⟨t',rfl⟩,q⟩
def GG:V->List V->Hp->VK->Prop:=λx vs H Q=>∃z y,x=.str z/\vs=[.str y]/\z.length<=sizeLine/\(y.length == 0)=false/\
 (Builtin.Str.partsBetween z (Builtin.Str.occurrences z y 0 z.length (z.length+1)) y.length).length<=sizeLine/\∀p,H p=none->Q (.ref p) (upd H p (.lst ((Txt.split z y).map V.str)))
theorem mn:∀(tk:Nat) (xs:List Str),Vals (xs.map V.str) (strValues (numbered tk xs))
 | _,[]=>.nil
 | tk,x::r=>.cons ⟨tk,rfl⟩ (mn (tk+1) r)
theorem split_le (z y:Str) (h:(Builtin.Str.partsBetween z (Builtin.Str.occurrences z y 0 z.length (z.length+1)) y.length).length<=sizeLine):(Txt.split z y).length<=sizeLine:=by
 unfold Txt.split
 split
 . show 1<=sizeLine; decide
 . split
   . show 1<=sizeLine; decide
   . exact h
theorem Cg:w4 X "str.split" GG:=by
 intro pins s σ H x vs v us Q I rx rv h
 obtain ⟨z,y,rfl,rfl,hz,hy,hl,q⟩:=h
 obtain ⟨t,rfl⟩:=rx
 obtain ⟨u,rfl,tu,rfl⟩:=rv.one
 have qu:=split_le z y hl
 have fin:∀(l:List (Str×Tok)) (tk:Nat),Vals ((Txt.split z y).map V.str) (strValues l)->
  EP X pins σ Q (.ref s.heap.objs.size) { s with heap:=s.heap.push { cls:=.type "list",data:=.seq (strValues l).toArray },toks:=tk }:=λl tk r=>
  ⟨.ref s.heap.objs.size,_,I.B8 r (by rw [List.length_map]; exact qu),rfl,q _ (I.hok.fresh (Nat.le_refl _))⟩
 cases h1:(decide (z.length<y.length) || decide (Builtin.Str.strKind z<Builtin.Str.strKind y)) with
 | true=>
  refine call_meets F.slot_str_split (typeIs_str _ _ _) F.entry_str_split (F.args_str_split_2 _ _) (meets_str_split_cannot_occur z y t tu h1) ?_
  exact fin [(z,t)] s.toks (by
   have e:Txt.split z y=[z]:=if_pos h1
   rw [e]
   exact .cons ⟨t,rfl⟩ .nil)
 | false=>
  cases hf:(Builtin.Str.occurrences z y 0 z.length (z.length+1)).isEmpty with
  | true=>
   refine call_meets F.slot_str_split (typeIs_str _ _ _) F.entry_str_split (F.args_str_split_2 _ _) (meets_str_split_not_found z y t tu h1 hy hf) ?_
   exact fin [(z,t)] s.toks (by
    have e:Txt.split z y=[z]:=(if_neg (ne_true_of_eq_false h1)).trans (if_pos hf)
    rw [e]
    exact .cons ⟨t,rfl⟩ .nil)
  | false=>
   refine call_meets F.slot_str_split (typeIs_str _ _ _) F.entry_str_split (F.args_str_split_2 _ _) (meets_str_split_sep z y t tu h1 hy hf hz hl) ?_
   have e:Txt.split z y=Builtin.Str.partsBetween z (Builtin.Str.occurrences z y 0 z.length (z.length+1)) y.length:=(if_neg (ne_true_of_eq_false h1)).trans (if_neg (ne_true_of_eq_false hf))
   have:=fin (numbered s.toks (Builtin.Str.partsBetween z (Builtin.Str.occurrences z y 0 z.length (z.length+1)) y.length)) (s.toks+(Builtin.Str.partsBetween z (Builtin.Str.occurrences z y 0 z.length (z.length+1)) y.length).length) (by
    rw [e]
    exact mn _ _)
   show EP X pins σ Q _ { s with toks:=_,heap:=s.heap.push { cls:=.type "list",data:=.seq (strsFrom s.toks (Builtin.Str.partsBetween z (Builtin.Str.occurrences z y 0 z.length (z.length+1)) y.length)).toArray } }
   rw [strsFrom_eq]
   exact this
end
section
variable {X:Cx}
end
section
variable {prog:Program}{w:World}{A:Around}{E:Value->Shared->Prop}
end
section
variable {X:Cx}{pos:Pos}
theorem hide {a b:TS}{D:Ends}{σ:St}{H:Hp}(h:∀r:TS,r=b->dj a r D σ H):dj a b D σ H:=h b rfl
end
end L2
namespace Gen
open PySem
theorem uB {α:Type}[DecidableEq α]:∀(l t:List α),l.Nodup->(∀x∈l,x∈t)->l.length<=t.length
 | [],t,_,_=>Nat.zero_le _
 | a::l,t,hn,hs=>by
  have ha:a∈t:=hs a List.mem_cons_self
  obtain ⟨h1,h2⟩:=List.nodup_cons.mp hn
  have:=uB l (t.erase a) h2 λx hx=>(List.mem_erase_of_ne (λ(e:x=a)=>h1 (by rw [← e]; exact hx))).mpr (hs x (List.mem_cons_of_mem _ hx))
  rw [List.length_erase_of_mem ha] at this
  have:0<t.length:=List.length_pos_of_mem ha
  simp only [List.length_cons]
  omega
theorem yq (k len:Nat):Builtin.Str.strSliceIndices none (some (k:Int)) 1 len=List.range (min k len):=by
 have h1:¬ ((k:Int)<0):=by omega
 have e:max (0:Int) (min (k:Int) (len:Int))=((min k len:Nat):Int):=by omega
 simp only [Builtin.Str.strSliceIndices,sliceRange,h1,if_false,show ((1:Int)>0)=True from by simp,if_true,e]
 by_cases h:(0:Int)<((min k len:Nat):Int)
 . have e3:(((min k len:Nat):Int)-0+1-1) / 1=((min k len:Nat):Int):=by simp
   rw [if_pos h,e3,Int.toNat_natCast]
   conv=>rhs; rw [← List.map_id (List.range (min k len))]
   exact List.map_congr_left λj _=>by simp
 . have:min k len=0:=by omega
   simp [this]
theorem wB {α:Type}(l:List α) (n:Nat) (h:n<=l.length):(List.range n).filterMap (l[·]?)=l.take n:=by
 have:=StrLaws.picks l n 0 (by omega)
 simpa using this
theorem pk (x:Str) (k:Nat):(Txt.slice x none (some (k:Int))).cps.toList=x.cps.toList.take k:=by
 unfold Txt.slice
 rw [yq]
 have hl:x.cps.toList.length=x.length:=by simp [Str.length]
 split
 . rename_i h
   simp only [beq_self_eq_true,Bool.true_and,List.length_range,beq_iff_eq] at h
   rw [List.take_of_length_le]
   omega
 . have e:(λ(i:Nat)=>x.cps[i]?)=(λ(i:Nat)=>x.cps.toList[i]?):=by funext i; simp
   show (List.filterMap (λ(i:Nat)=>x.cps[i]?) (List.range (min k x.length))).toArray.toList=_
   rw [List.toList_toArray,e,wB _ _ (by omega)]
   rcases Nat.le_total k x.length with h | h
   . rw [Nat.min_eq_left h]
   . rw [Nat.min_eq_right h,List.take_of_length_le (by omega),List.take_of_length_le (by omega)]
def az:List Nat:=(List.range 26).map (· + 97)
theorem oK {c:Nat} : c∈az ↔ 97<=c/\c<=122:=by
 unfold az
 simp only [List.mem_map,List.mem_range]
 constructor
 . rintro ⟨a,h,rfl⟩; omega
 . intro h; exact ⟨c-97,by omega,by omega⟩
def isName (n:List Nat):Prop:=1<=n.length/\n.length<=8/\∀c∈n,c∈az
def pq (n:List Nat):List (List Nat):=
 [n]++az.map (λc=>n.take 7++[c])++az.map (λc=>n.take 6++[c,113])++az.map (λc=>n.take 6++[c,122])++az.map (λc=>n.take 5++[c,113,122])
theorem Am {n x:List Nat}(hn:isName n) (hx:x∈pq n):isName x:=by
 obtain ⟨h1,h2,h3⟩:=hn
 have tk:∀k,∀c∈n.take k,c∈az:=λk c hc=>h3 c (List.mem_of_mem_take hc)
 have Ci:113∈az:=by decide
 have Cj:122∈az:=by decide
 unfold pq at hx
 simp only [List.mem_append,List.mem_singleton,List.mem_map] at hx
 rcases hx with (((rfl | ⟨c,hc,rfl⟩) | ⟨c,hc,rfl⟩) | ⟨c,hc,rfl⟩) | ⟨c,hc,rfl⟩
 . exact ⟨h1,h2,h3⟩
 all_goals
  refine ⟨by simp,by simp only [List.length_append,List.length_take,List.length_cons,List.length_nil]; omega,λd hd=>?_⟩
  simp only [List.mem_append,List.mem_cons,List.not_mem_nil,or_false] at hd
  rcases hd with hd | hd
  . exact tk _ d hd
  . rcases hd with rfl | hd <;> first | exact hc | (rcases hd with rfl | hd <;> first | exact Ci | exact Cj | (rcases hd with rfl <;> first | exact Ci | exact Cj)) | (subst hd; first | exact Ci | exact Cj)
def sub (n:List Nat):List (List Nat):=
 (az.filter λc=>decide (c≠113/\c≠122)).map (λc=>n.take 7++[c])++az.map (λc=>n.take 6++[c,113])++az.map (λc=>n.take 6++[c,122])
  ++ (az.filter λc=>decide (some c≠n[5]?)).map (λc=>n.take 5++[c,113,122])
theorem Ck {n x:List Nat}(h:x∈sub n):x∈pq n:=by
 unfold sub at h
 unfold pq
 simp only [List.mem_append,List.mem_singleton,List.mem_map,List.mem_filter] at h ⊢
 rcases h with ((⟨c,⟨hc,_⟩,rfl⟩ | ⟨c,hc,rfl⟩) | ⟨c,hc,rfl⟩) | ⟨c,⟨hc,_⟩,rfl⟩
 . exact .inl (.inl (.inl (.inr ⟨c,hc,rfl⟩)))
 . exact .inl (.inl (.inr ⟨c,hc,rfl⟩))
 . exact .inl (.inr ⟨c,hc,rfl⟩)
 . exact .inr ⟨c,hc,rfl⟩
theorem fX:az.Nodup:=by decide
theorem eX {l:List Nat}(hl:l.Nodup) (p q:List Nat):(l.map λc=>p++c::q).Nodup:=by
 induction l with
 | nil=>exact List.nodup_nil
 | cons a l ih=>
  obtain ⟨h1,h2⟩:=List.nodup_cons.mp hl
  rw [List.map_cons,List.nodup_cons]
  refine ⟨λh=>?_,ih h2⟩
  obtain ⟨b,hb,e⟩:=List.mem_map.mp h
  have:=List.append_cancel_left e
  injection this with e1 _
  exact h1 (e1 ▸ hb)
theorem EZ {p:List Nat}{a:Nat} : (p++[a]).getLast?=some a:=by simp
theorem An (n:List Nat):(sub n).Nodup:=by
 unfold sub
 have yr:∀x∈az.map (λc=>n.take 6++[c,113]),x.getLast?=some 113:=λx hx=>by
  obtain ⟨c,_,rfl⟩:=List.mem_map.mp hx
  simp
 have Dt:∀x∈az.map (λc=>n.take 6++[c,122]),x.getLast?=some 122:=λx hx=>by
  obtain ⟨c,_,rfl⟩:=List.mem_map.mp hx
  simp
 have Du:∀x∈(az.filter λc=>decide (some c≠n[5]?)).map (λc=>n.take 5++[c,113,122]),x.getLast?=some 122:=λx hx=>by
  obtain ⟨c,_,rfl⟩:=List.mem_map.mp hx
  simp
 have yt:∀x∈(az.filter λc=>decide (c≠113/\c≠122)).map (λc=>n.take 7++[c]),x.getLast?≠some 113/\x.getLast?≠some 122:=λx hx=>by
  obtain ⟨c,hc,rfl⟩:=List.mem_map.mp hx
  obtain ⟨_,hc⟩:=List.mem_filter.mp hc
  have ft:=of_decide_eq_true hc
  rw [EZ]
  exact ⟨λe=>ft.1 (Option.some.inj e),λe=>ft.2 (Option.some.inj e)⟩
 refine List.nodup_append.mpr ⟨List.nodup_append.mpr ⟨List.nodup_append.mpr ⟨eX (fX.filter _) _ _,eX fX _ _,?_⟩,eX fX _ _,?_⟩,eX (fX.filter _) _ _,?_⟩
 . intro a ha b hb e
   exact (yt a ha).1 (e ▸ yr b hb)
 . intro a ha b hb e
   rcases List.mem_append.mp ha with ha | ha
   . exact (yt a ha).2 (e ▸ Dt b hb)
   . have:=yr a ha
     rw [e,Dt b hb] at this
     cases this
 . intro a ha b hb e
   rcases List.mem_append.mp ha with ha | ha
   . rcases List.mem_append.mp ha with ha | ha
     . exact (yt a ha).2 (e ▸ Du b hb)
     . have:=yr a ha
       rw [e,Du b hb] at this
       cases this
   . obtain ⟨c,_,rfl⟩:=List.mem_map.mp ha
     obtain ⟨d,hd,rfl⟩:=List.mem_map.mp hb
     obtain ⟨_,hd⟩:=List.mem_filter.mp hd
     have hd':some d≠n[5]?:=of_decide_eq_true hd
     rcases Nat.lt_or_ge 5 n.length with hl | hl
     . -- both have eight letters
       have e5:(n.take 6++[c,122])[5]?=(n.take 5++[d,113,122])[5]?:=by rw [e]
       have t6:(n.take 6).length=6:=by rw [List.length_take]; omega
       have t5:(n.take 5).length=5:=by rw [List.length_take]; omega
       rw [List.getElem?_append_left (by omega),List.getElem?_append_right (by omega),t5,List.getElem?_take] at e5
       simp at e5
       exact hd' e5.symm
     . have el:=congrArg List.length e
       simp only [List.length_append,List.length_take,List.length_cons,List.length_nil] at el
       omega
theorem yu (n:List Nat):100<=(sub n).length:=by
 unfold sub
 simp only [List.length_append,List.length_map]
 have h1:az.length=26:=by decide
 have h2:(az.filter λc=>decide (c≠113/\c≠122)).length=24:=by decide
 have h3:25<=(az.filter λc=>decide (some c≠n[5]?)).length:=by
  cases n[5]? with
  | none=>
   have:(az.filter λc=>decide (some c≠none))=az:=List.filter_eq_self.mpr λc _=>by simp
   rw [this,h1]
   decide
  | some d=>
   have e:(az.filter λc=>decide (some c≠some d))=az.filter λc=>c != d:=by
    apply List.filter_congr
    intro c _
    by_cases h:c=d
    . subst h; simp
    . simp [h]
   rw [e]
   by_cases hd:d∈az
   . obtain ⟨a,b⟩:=oK.mp hd
     have:∀k,k<26->25<=(az.filter λc=>c != k+97).length:=by decide
     have:=this (d-97) (by omega)
     rw [show d-97+97=d by omega] at this
     exact this
   . have:(az.filter λc=>c != d)=az:=List.filter_eq_self.mpr λc hc=>by
      have:c≠d:=λe=>hd (e ▸ hc)
      simpa using this
     rw [this,h1]
     decide
 rw [h1,h2]
 omega
theorem Ao (n:List Nat) (told:List (List Nat)) (h:told.length<100):∃x∈pq n,x∉told:=by
 apply Classical.byContradiction
 intro hx
 have all:∀x∈sub n,x∈told:=λx hs=>Classical.byContradiction λht=>hx ⟨x,Ck hs,ht⟩
 have:=uB (sub n) told (An n) all
 have:=yu n
 omega
end Gen
namespace Gen
open PySem
theorem Ap:("" : Str).cps.toList=[]:=by decide +kernel
theorem Kn:("q" : Str).cps.toList=[113]:=by decide +kernel
theorem Ko:("z" : Str).cps.toList=[122]:=by decide +kernel
theorem GH:("qz" : Str).cps.toList=[113,122]:=by decide +kernel
theorem xc:("abcdefghijklmnopqrstuvwxyz" : Str).cps.toList=az:=by decide +kernel
theorem rz (a b:Str):(a++b).cps.toList=a.cps.toList++b.cps.toList:=by rw [Str.cps_append,Array.toList_append]
theorem uC:∀ys:List Str,(Str.join "" ys).cps.toList=(ys.map (·.cps.toList)).flatten
 | []=>rfl
 | [x]=>by simp [Str.join]
 | x::y::r=>by
  have ih:=uC (y::r)
  show (x ++ "" ++ Str.join "" (y::r)).cps.toList=_
  rw [rz,rz,ih,Ap]
  simp
theorem Aq (ys:List Str):(Txt.join "" ys).cps.toList=(ys.map (·.cps.toList)).flatten:=by
 unfold Txt.join
 rw [StrLaws.glued_eq_join]
 exact uC ys
def c7 (n:Str):List Str:=az.map λc=>Txt.slice n none (some 7)++⟨#[c]⟩
def Dv (n:Str):List Str:=az.map λc=>Txt.slice n none (some 6)++⟨#[c]⟩ ++ "q"
def Dw (n:Str):List Str:=az.map λc=>Txt.slice n none (some 6)++⟨#[c]⟩ ++ "z"
def c5 (n:Str):List Str:=az.map λc=>Txt.slice n none (some 5)++⟨#[c]⟩ ++ "qz"
def cC (n:Str):List Str:=[n]++c7 n++Dv n++Dw n++c5 n
theorem sE (n:Str):(cC n).map (·.cps.toList)=pq n.cps.toList:=by
 have s7:=pk n 7
 have s6:=pk n 6
 have s5:=pk n 5
 have e7:((7:Nat):Int)=7:=rfl
 have e6:((6:Nat):Int)=6:=rfl
 have e5:((5:Nat):Int)=5:=rfl
 rw [e7] at s7
 rw [e6] at s6
 rw [e5] at s5
 unfold cC pq c7 Dv Dw c5
 simp only [List.map_append,List.map_map,List.map_cons,List.map_nil,Function.comp_def,rz,s7,s6,s5,Kn,Ko,GH,List.append_assoc,List.cons_append,List.nil_append]
def eF (z:Str):Prop:=isName z.cps.toList
theorem yw {n z:Str}(hn:eF n) (hz:z∈cC n):eF z:=by
 refine Am hn ?_
 rw [← sE]
 exact List.mem_map.mpr ⟨z,hz,rfl⟩
theorem yx (n:Str) (told:List Str) (h:told.length<100):∃x∈cC n,x∉told:=by
 obtain ⟨x,hx,ht⟩:=Ao n.cps.toList (told.map (·.cps.toList)) (by simpa using h)
 rw [← sE] at hx
 obtain ⟨z,hz,rfl⟩:=List.mem_map.mp hx
 exact ⟨z,hz,λhm=>ht (List.mem_map.mpr ⟨z,hm,rfl⟩)⟩
def dg:List Str:=["switch", "keep", "gate", "next", "never", "some", "wall", "row", "step", "piece", "lasso"]
theorem wC:Txt.split "switch keep gate next never some wall row step piece lasso" " " = dg:=by decide +kernel
theorem wD:∀x∈dg,eF x:=by
 have h:dg.all (λx=>decide (1<=x.cps.toList.length) && decide (x.cps.toList.length<=8) && x.cps.toList.all λc=>decide (c∈az))=true:=by decide +kernel
 intro x hx
 have:=List.all_eq_true.mp h x hx
 simp only [Bool.and_eq_true,decide_eq_true_eq,List.all_eq_true] at this
 exact ⟨this.1.1,this.1.2,this.2⟩
theorem eF.len {z:Str}(h:eF z):z.length<=8:=by
 have:=h.2.1
 simpa [Str.length] using this
theorem wF {ys:List Str}(h1:1<=ys.length) (h2:ys.length<=8) (h:∀y∈ys,∃c∈az,y=⟨#[c]⟩):eF (Txt.join "" ys):=by
 have e:∀zs:List Str,(∀y∈zs,∃c∈az,y=⟨#[c]⟩)->(zs.map (·.cps.toList)).flatten.length=zs.length/\∀c∈(zs.map (·.cps.toList)).flatten,c∈az:=by
  intro zs
  induction zs with
  | nil=>intro _; exact ⟨rfl,λc hc=>by simp at hc⟩
  | cons z zs ih=>
   intro hz
   obtain ⟨c,hc,rfl⟩:=hz z List.mem_cons_self
   obtain ⟨i1,i2⟩:=ih λy hy=>hz y (List.mem_cons_of_mem _ hy)
   refine ⟨?_,λd hd=>?_⟩
   . rw [List.map_cons,List.flatten_cons,List.length_append,i1]
     simp
     omega
   . rw [List.map_cons,List.flatten_cons,List.mem_append] at hd
     rcases hd with hd | hd
     . have:d=c:=by simpa using hd
       rw [this]; exact hc
     . exact i2 d hd
 obtain ⟨e1,e2⟩:=e ys h
 unfold eF isName
 rw [Aq,e1]
 exact ⟨h1,h2,e2⟩
end Gen
namespace Gen
open PySem L2
def top (i:Nat):Stmt:=PySem.Challenge.pw_everguard_k42_some_of_and_put_for.main.body.getD i (.Pass ⟨0,0,0,0⟩)
abbrev om:Stmt:=top 6
abbrev px:Stmt:=top 7
abbrev oo:Stmt:=top 8
abbrev lP:Stmt:=top 9
abbrev iM:Stmt:=top 10
structure Own (mg:Str->Option Value):Prop where
 len:mg "len" = none
 range:mg "range" = none
 enum:mg "enumerate" = none
 list:mg "list" = none
def lQ (xs:List V):Prop:=(∃a:Int,xs=[.int a])\/∃a b:Int,xs=[.int a,.int b]
def cK (H H':Hp) (l:Addr):Prop:=∀b o,H b=some o->b≠l->H' b=some o
theorem cK.trans {H H1 H2:Hp}{l:Addr}(a:cK H H1 l) (b:cK H1 H2 l):cK H H2 l:=λc o h n=>b c o (a c o h n) n
theorem aj.keep {H H':Hp}(s:aj H H') (l:Addr):cK H H' l:=λb o h _=>s b o h
theorem cK.ar {H:Hp}{l p:Addr}{o:HO}(hp:H p=none):cK H (upd H p o) l:=λb u h _=>by rw [ai (ab h hp)]; exact h
theorem aj.ar {H:Hp}{p:Addr}{o:HO}(hp:H p=none):aj H (upd H p o):=λb u h=>by rw [ai (ab h hp)]; exact h
theorem cK.Ar {H:Hp}{l:Addr}{o:HO} : cK H (upd H l o) l:=λb u h n=>by rw [ai n]; exact h
theorem cK.seq {K:W.Frag}{H H':Hp}{a l:Addr}{xs:List V}{n:List V}(e:cK H H' l) (hl:H l=some (.lst n)) (h:ay K H a xs) (gr:a≠l):ay K H' a xs:=by
 rcases h with (h | ⟨o,h⟩) | h
 . exact .inl (.inl (e a _ h gr))
 . exact .inl (.inr ⟨o,e a _ h gr⟩)
 . exact .inr h
def qv (K:W.Frag):Sp:=λvs H Q _=>∃(a:Addr) (ns:List Int) (k:Int),vs=[.ref a,.int k]/\ay K H a (ns.map V.int)/\0<=k/\∀v:Int,Q (.int v) H
def Dx:Sp:=λvs H Q _=>∃(c k:Int),vs=[.int c,.int k]/\0<=k/\k<=1000000/\∀v:Int,0<=v->v<1999999973->Q (.int v) H
def qw:Sp:=λvs H Q _=>∃(c k:Int),vs=[.int c,.int k]/\0<=k/\k<=1000/\∀v:Int,Q (.int v) H
def qx:Sp:=λvs H Q _=>∃(l:Addr) (xs:List V) (m:Int),vs=[.ref l,.int m]/\H l=some (.lst xs)/\lQ xs/\0<m/\m<1073741824/\
 ∀(d:Int) (ys:List V) (H':Hp),0<=d->d<m->lQ ys->H' l=some (.lst ys)->cK H H' l->Q (.int d) H'
section
variable {P:Program}{w:World}{K:W.Frag}{mg:Str->Option Value}{base:Heap}
theorem GI:aZ ["_law_script", "_law_k"] ["_law_script", "_law_k"] (ao om):=⟨rfl,rfl,rfl,by decide +kernel,rfl,by decide +kernel,by decide +kernel⟩
theorem E1 {f:Addr}{fd:FuncData}(F:cw K "_law_cell_at" "_law_cell_at" om f fd) (T:Own mg):av P w K mg base aE 1 f fd ["_law_script", "_law_k"] (qv K):=by
 refine F.ok GI (λvs H Q E h=>?_) (λcdv A outer s H vs Q E hr h=>?_)
 . obtain ⟨a,ns,k,rfl,_⟩:=h
   rfl
 . obtain ⟨a,ns,k,rfl,hS,h0,kk⟩:=h
   refine ⟨_,ag (bF (bj lH (pv 1) (aU aV (by rfl) T.len PySem.boot_len (aa (pv 0) af)) (br _)) (aq (aK (aS bz (pv 0) (pv 1) (λ_ _=>rfl)))) aY)
    (aq (aK ah)),?_⟩
   refine ⟨_,rfl,_,rfl,a,_,rfl,.inl hS,_,_,rfl,rfl,_,rfl,?_⟩
   refine jt (λhc=>?_) (λ_=>kk 0)
   have ft:k<((ns.map V.int).length:Int):=of_decide_eq_true hc
   rw [List.length_map] at ft
   have hk:k.toNat<ns.length:=by omega
   have e:((k.toNat:Nat):Int)=k:=by omega
   have As:jQ (ns.map V.int) ((k.toNat:Nat):Int)=some (.int ns[k.toNat]):=aF (by rw [List.getElem?_map,List.getElem?_eq_getElem hk]; rfl)
   rw [e] at As
   exact ⟨_,rfl,_,rfl,a,_,_,.int ns[k.toNat],rfl,rfl,hS,As,kk _⟩
theorem Dy:aZ ["_law_cell", "_law_k", "_law_m"] ["_law_cell", "_law_k"] (ao px):=⟨rfl,rfl,rfl,by decide +kernel,rfl,by decide +kernel,by decide +kernel⟩
theorem GJ {f:Addr}{fd:FuncData}(F:cw K "_law_mix" "_law_mix" px f fd):av P w K mg base aE 1 f fd ["_law_cell", "_law_k"] Dx:=by
 refine F.ok Dy (λvs H Q E h=>?_) (λcdv A outer s H vs Q E hr h=>?_)
 . obtain ⟨c,k,rfl,_⟩:=h
   rfl
 . obtain ⟨c,k,rfl,h0,h1,kk⟩:=h
   refine ⟨_,ag (ax (i:=2) Dy.nd rfl (Or.inl rfl) (aD gF (aD eM (aD dw (aD dw (aD gF (pv 0) ah) (aD eM (aD eM (pv 1) (pv 1)) ah)) ah) ah) ah))
    (aq (aK (aD gF (aD eM (pv 2) (pv 2)) ah))),?_⟩
   refine ⟨_,rfl,_,_,rfl,rfl,(by show (0:Int)<2147483629; decide),_,rfl,_,rfl,_,_,rfl,rfl,.inl ⟨by omega,by omega⟩,_,_,rfl,rfl,.inr ⟨by decide,by decide⟩,_,_,rfl,rfl,_,_,rfl,rfl,
    _,_,rfl,rfl,.inr ⟨by decide,by decide⟩,_,_,rfl,rfl,(by show (0:Int)<2147483647; decide),?_⟩
   generalize hm:((c % 2147483629+k*k*7919+11)*48271 % 2147483647:Int)=m
   have m0:0<=m:=by rw [← hm]; exact Int.emod_nonneg _ (by decide)
   have m1:m<2147483647:=by rw [← hm]; exact Int.emod_lt_of_pos _ (by decide)
   refine ⟨_,rfl,_,rfl,_,_,rfl,rfl,.inl ⟨by omega,by omega⟩,_,_,rfl,rfl,(by show (0:Int)<1999999973; decide),?_⟩
   exact kk _ (Int.emod_nonneg _ (by decide)) (Int.emod_lt_of_pos _ (by decide))
theorem qy:aZ ["_law_cell", "_law_k", "_law_number_here", "_law_j"] ["_law_cell", "_law_k"] (ao oo):=⟨rfl,rfl,rfl,by decide +kernel,rfl,by decide +kernel,by decide +kernel⟩
theorem E2 {f fM:Addr}{fd GK:FuncData}(F:cw K "_law_rich" "_law_rich" oo f fd) (T:Own mg) (FM:cw K "_law_mix" "_law_mix" px fM GK) (bM:Binds K GK ["_law_cell", "_law_k"] []) (mM:mg "_law_mix" = some (.ref fM)) :
 av P w K mg base aE 2 f fd ["_law_cell", "_law_k"] qw:=by
 have GM:av P w K mg base aE 1 fM GK ["_law_cell", "_law_k"] Dx:=GJ FM
 refine F.ok qy (λvs H Q E h=>?_) (λcdv A outer s H vs Q E hr h=>?_)
 . obtain ⟨c,k,rfl,_⟩:=h
   rfl
 . obtain ⟨c,k,rfl,h0,h1,kk⟩:=h
   refine ⟨_,ag (ax (i:=2) qy.nd rfl (Or.inl rfl) ah)
    (ag (d9 PassesOwn.never rfl (cV rfl T.range (aa ah af)) (aQ (i:=3) qy.nd rfl (Or.inl rfl))
     (aq (ax (i:=2) qy.nd rfl (Or.inl rfl) (aD dw (aD eM (pv 2) ah) (aJ GM hr rfl mM FM.kp bM .nil aB (aa (pv 0) (aa (aD dw (aD eM ah (pv 1)) (pv 3)) af)))))))
    (aq (aK (pv 2)))),?_⟩
   refine ⟨12,rfl,by decide,by decide,eL (n:=12) (λi σ H2=>H2=H/\∃(n:Int) (v:Option V),σ=[some (.int c),some (.int k),some (.int n),v]) ⟨rfl,0,none,rfl⟩ ?_ ?_⟩
   . rintro i σ H2 hi ⟨rfl,n,v,rfl⟩
     refine ⟨_,rfl,_,_,rfl,rfl,.inr ⟨by decide,by decide⟩,_,rfl,_,rfl,_,_,rfl,rfl,.inl ⟨by decide,by decide⟩,_,rfl,_,_,rfl,rfl,?_⟩
     refine ⟨_,_,rfl,by omega,by omega,λv GL WD=>⟨_,_,rfl,rfl,rfl,_,_,rfl⟩⟩
   . rintro σ H2 ⟨rfl,n,v,rfl⟩
     exact ⟨_,rfl,kk n⟩
theorem Au:aZ ["_law_left", "_law_many", "_law_digit"] ["_law_left", "_law_many"] (ao lP):=⟨rfl,rfl,rfl,by decide +kernel,rfl,by decide +kernel,by decide +kernel⟩
theorem xf {f:Addr}{fd:FuncData}(F:cw K "_law_pick" "_law_pick" lP f fd) (T:Own mg):av P w K mg base aE 1 f fd ["_law_left", "_law_many"] qx:=by
 refine F.ok Au (λvs H Q E h=>?_) (λcdv A outer s H vs Q E hr h=>?_)
 . obtain ⟨l,xs,m,rfl,_⟩:=h
   rfl
 . obtain ⟨l,xs,m,rfl,hl,hp,m0,m1,kk⟩:=h
   refine ⟨_,ag (ax (i:=2) Au.nd rfl (Or.inl rfl) (aD gF (aS bz (pv 0) ah (λ_ _=>rfl)) (pv 1)))
    (ag (zz (aD kr (aS bz (pv 0) ah (λ_ _=>rfl)) (pv 1)) (zy (pv 0) ah set_list))
    (aq (aK (pv 2)))),?_⟩
   rcases hp with ⟨a,rfl⟩ | ⟨a,b,rfl⟩
   . refine ⟨_,rfl,l,_,_,.int a,rfl,rfl,ay.of hl,rfl,_,rfl,_,_,rfl,rfl,m0,?_⟩
     refine ⟨_,rfl,l,_,_,.int a,rfl,rfl,ay.of hl,rfl,_,rfl,_,_,rfl,rfl,⟨m0,m1⟩,_,rfl,l,_,_,0,rfl,rfl,hl,rfl,?_⟩
     exact ⟨_,rfl,kk _ _ _ (Int.emod_nonneg _ (by omega)) (Int.emod_lt_of_pos _ m0) (.inl ⟨_,rfl⟩) ae cK.Ar⟩
   . refine ⟨_,rfl,l,_,_,.int a,rfl,rfl,ay.of hl,rfl,_,rfl,_,_,rfl,rfl,m0,?_⟩
     refine ⟨_,rfl,l,_,_,.int a,rfl,rfl,ay.of hl,rfl,_,rfl,_,_,rfl,rfl,⟨m0,m1⟩,_,rfl,l,_,_,0,rfl,rfl,hl,rfl,?_⟩
     exact ⟨_,rfl,kk _ _ _ (Int.emod_nonneg _ (by omega)) (Int.emod_lt_of_pos _ m0) (.inr ⟨_,_,rfl⟩) ae cK.Ar⟩
end
end Gen
namespace Gen
open PySem L2
theorem small {n:Nat}(h:n<=1000):n<sizeLine:=sC h
theorem uD {n:Nat}(h:n<=1000):n<=sizeLine:=Nat.le_of_lt (sC h)
def rC (K:W.Frag):Sp:=λvs H Q _=>∃(l t:Addr) (xs:List V) (told:List Str),vs=[.ref l,.ref t]/\H l=some (.lst xs)/\lQ xs/\t≠l/\ay K H t (told.map V.str)/\told.length<100/\
 ∀(z:Str) (ys:List V) (H':Hp),eF z->z∉told->lQ ys->H' l=some (.lst ys)->cK H H' l->Q (.str z) H'
theorem oq (z:Str) (told:List Str):Dl (.str z) (told.map V.str)=decide (z∈told):=by
 unfold Dl
 rw [Bool.eq_iff_iff,List.any_eq_true,decide_eq_true_eq]
 constructor
 . rintro ⟨v,hv,e⟩
   obtain ⟨y,hy,rfl⟩:=List.mem_map.mp hv
   have:y=z:=by simpa [gp] using e
   rw [← this]; exact hy
 . intro h
   exact ⟨.str z,List.mem_map.mpr ⟨z,h,rfl⟩,by simp [gp]⟩
theorem jR (told:List Str):(told.map V.str).all gM=true:=by
 rw [List.all_eq_true]
 intro v hv
 obtain ⟨y,_,rfl⟩:=List.mem_map.mp hv
 rfl
theorem Av {i:Nat}{c:Nat}(h:("abcdefghijklmnopqrstuvwxyz" : Str).cps[i]?=some c):az[i]?=some c:=by
 rw [← xc]
 simpa using h
theorem Aw {α β:Type}{l:List α}{i:Nat}{c:α}(f:α->β) (h:l[i]?=some c):(l.take (i+1)).map f=(l.take i).map f++[f c]:=by
 rw [List.take_add_one,h]
 simp
theorem dM {i:Nat}{x:V}{σ:St}{H:Hp}{A B:St->Hp->Prop}(h:A (σ.set i (some x)) H):dm i x σ H (λgb H2=>nz gb H2 (λb H3=>if b=true then A gb H3 else B gb H3)):=by
 show (if true=true then A (σ.set i (some x)) H else B (σ.set i (some x)) H)
 rw [if_pos rfl]
 exact h
theorem Kq:(["_law_k", "_law_left", "_law_letters"]:List Str).Nodup:=by decide +kernel
theorem yy:(["_law_one", "_law_name"]:List Str).Nodup:=by decide +kernel
theorem OP:(["_law_one", "_law_told"]:List Str).Nodup:=by decide +kernel
section
variable {P:Program}{w:World}{K:W.Frag}{mg:Str->Option Value}{base:Heap}
abbrev Ax:List Str:=["_law_left", "_law_told", "_law_letters", "_law_words", "_law_size", "_law_name", "_law_some_here"]
theorem gu:aZ Ax ["_law_left", "_law_told"] (ao iM):=⟨rfl,rfl,rfl,by decide +kernel,rfl,by decide +kernel,by decide +kernel⟩
theorem i8 {D:Addr}{te:TE}{Q:Hp->Prop}{H1:Hp}{nm:Str}(f:Nat->Str) (hD:H1 D=none)
 (he:∀(c:Nat) (H:Hp) (R:VK),c∈az->R (.str (f c)) H->te [some (.str ⟨#[c]⟩),some (.str nm)] H R)
 (fin:Q (upd H1 D (.lst ((az.map f).map V.str)))) :
 ∃W:Nat->Nat->St->Hp->Prop,(∃m,W 0 m [none,some (.str nm)] (upd H1 D (.lst [])))/\xb D (dm 0) nz te (GD "abcdefghijklmnopqrstuvwxyz") W Q:=by
 have hsz:("abcdefghijklmnopqrstuvwxyz" : Str).cps.size=26:=by decide +kernel
 have sF:az.length=26:=by decide
 refine fQ 26 (λi acc σ H=>acc=((az.take i).map f).map V.str/\(∃v,σ=[v,some (.str nm)])/\H=upd H1 D (.lst acc)) ⟨rfl,⟨none,rfl⟩,rfl⟩ ae ?_ ?_
 . rintro acc σ H _ ⟨rfl,_,rfl⟩
   refine ⟨hsz.symm,?_⟩
   rw [List.take_of_length_le (by rw [sF]; decide)]
   exact fin
 . rintro i acc σ H hi cP ⟨rfl,⟨v,rfl⟩,rfl⟩
   refine ⟨by show i<_; rw [hsz]; exact hi,?_⟩
   rintro x H' ⟨rfl,c,hc,rfl⟩
   have ft:=Av hc
   refine dM ?_
   refine he c _ _ (List.mem_of_getElem? ft) ?_
   refine ⟨_,ae,?_,cJ hi ae ⟨?_,⟨_,rfl⟩,?_⟩⟩
   . rw [List.length_map,List.length_map,List.length_take]
     exact small (by omega)
   . rw [Aw f ft,List.map_append]
     rfl
   . rw [wI]
theorem uE:∀zs:List Str,(∀y∈zs,∃c∈az,y=⟨#[c]⟩)->(zs.map (·.length)).sum=zs.length
 | [],_=>rfl
 | z::zs,h=>by
  obtain ⟨c,_,rfl⟩:=h z List.mem_cons_self
  have ih:=uE zs λy hy=>h y (List.mem_cons_of_mem _ hy)
  rw [List.map_cons,List.sum_cons,ih,List.length_cons]
  show 1+zs.length=zs.length+1
  omega
theorem pz (n:Str) (h:eF n) (k:Int):(Txt.slice n none (some k)).length<=8:=Nat.le_trans (Txt.slice_le n _ _) h.len
theorem ju (c:Nat):(⟨#[c]⟩:Str).length=1:=rfl
theorem uF (a b:Str):(a++b).length=a.length+b.length:=Str.length_append a b
theorem gZ {n:Nat}(h:n<=100):n<=sizeLine:=Nat.le_trans h (by decide)
abbrev E3 (P:Program) (w:World) (K:W.Frag) (mg:Str->Option Value) (base:Heap) (f:Addr) (cdv:Value) (A:Around) (outer:List Env) (s:Shared) (H:Hp) (E:XK):Cx:=
 (lJ aE P w K mg base Ax "_law_spelt" (ao iM) f cdv A outer s H E).tY
abbrev sG:Str:="abcdefghijklmnopqrstuvwxyz"
theorem yz {f:Addr}{cdv:Value}{A:Around}{outer:List Env}{s:Shared}{H:Hp}{E:XK}{Q:VK}{l t:Addr}{told:List Str}(hS:ay K H t (told.map V.str)) (gr:t≠l) (dv:told.length<100) (xa:∃xs,H l=some (.lst xs))
 (kk:∀(z:Str) (ys:List V) (H':Hp),eF z->z∉told->lQ ys->H' l=some (.lst ys)->cK H H' l->Q (.str z) H') :
 ∃tR:TS,jh (E3 P w K mg base f cdv A outer s H E) (List.drop 5 (aN iM)) tR/\∀(nm:Str) (ys:List V) (H4:Hp) (w1:Addr) (sz:Int),eF nm->lQ ys->H4 l=some (.lst ys)->cK H H4 l->
  tR { nx:=λ_ H'=>Q .aX H',rt:=Q } [some (.ref l),some (.ref t),some (.str sG),some (.ref w1),some (.int sz),some (.str nm),none] H4:=by
 refine ⟨_,ag (ax (i:=6) gu.nd rfl (Or.inl rfl) (aD nv (aD nv (fw (aa (pv 5) af))
  (eE (N:=["_law_one", "_law_name"]) (js:=[none,some 5]) (by kernel_rfl) rfl (qp (pv 2)) (λ_ _ _ _ _ _=>aQ (i:=0) yy rfl (Or.inl rfl) (.inr rfl)) (λ_ _ _ _ _ _=>cI)
   (λ_ _ _ _ _ _=>aD dY (dZ qr (pv 1) gm (eu ah)) (pv 0))))
  (eE (N:=["_law_one", "_law_name"]) (js:=[none,some 5]) (by kernel_rfl) rfl (qp (pv 2)) (λ_ _ _ _ _ _=>aQ (i:=0) yy rfl (Or.inl rfl) (.inr rfl)) (λ_ _ _ _ _ _=>cI)
   (λ_ _ _ _ _ _=>aD dY (aD dY (dZ qr (pv 1) gm (eu ah)) (pv 0)) ji))))
  (ag (ax (i:=6) gu.nd rfl (Or.inl rfl) (aD nv (aD nv (pv 6)
   (eE (N:=["_law_one", "_law_name"]) (js:=[none,some 5]) (by kernel_rfl) rfl (qp (pv 2)) (λ_ _ _ _ _ _=>aQ (i:=0) yy rfl (Or.inl rfl) (.inr rfl)) (λ_ _ _ _ _ _=>cI)
    (λ_ _ _ _ _ _=>aD dY (aD dY (dZ qr (pv 1) gm (eu ah)) (pv 0)) ji)))
   (eE (N:=["_law_one", "_law_name"]) (js:=[none,some 5]) (by kernel_rfl) rfl (qp (pv 2)) (λ_ _ _ _ _ _=>aQ (i:=0) yy rfl (Or.inl rfl) (.inr rfl)) (λ_ _ _ _ _ _=>cI)
    (λ_ _ _ _ _ _=>aD dY (aD dY (dZ qr (pv 1) gm (eu ah)) (pv 0)) ji))))
  (aq (aK (aS bz
   (eE (N:=["_law_one", "_law_told"]) (js:=[none,some 1]) (by kernel_rfl) rfl (kq (pv 6)) (λ_ _ _ _ _ _=>aQ (i:=0) OP rfl (Or.inl rfl) (.inr rfl))
    (λ_ _ _ _ _ _=>uy (bj (r:=Dm K true) uo (pv 0) (pv 1) (by with_unfolding_all rfl))) (λ_ _ _ _ _ _=>pv 0)) ah (λ_ _=>rfl))))),?_⟩
 intro nm ys H4 w1 sz hn hp uG xg
 have oM:∀g:Nat->Str,((az.map g).map V.str).length=26:=λg=>by rw [List.length_map,List.length_map]; decide
 have h8:∀k:Int,nm.length<=sizeLine:=λ_=>gZ (Nat.le_trans hn.len (by decide))
 refine ⟨_,rfl,(by show 1<=sizeLine; decide),λp1 GN=>?_⟩
 refine ⟨_,rfl,sG,rfl,λD1 GO=>i8 (nm:=nm) (λc=>Txt.slice nm none (some 7)++⟨#[c]⟩) GO (λc H R hc hR=>?_) ?_⟩
 . refine ⟨_,rfl,_,rfl,nm,7,rfl,rfl,rfl,h8 0,_,rfl,_,_,rfl,rfl,?_,hR⟩
   have:=pz nm hn 7
   rw [ju]
   exact gZ (by omega)
 have n1:p1≠D1:=ab (ae (H:=H4)) GO
 refine ⟨p1,D1,_,_,rfl,rfl,(by rw [ai n1,ae]),ae,?_,λp2 iK=>?_⟩
 . rw [oM]
   exact gZ (by show 1+26<=100; decide)
 refine ⟨_,rfl,sG,rfl,λD2 jv=>i8 (nm:=nm) (λc=>Txt.slice nm none (some 6)++⟨#[c]⟩ ++ "q") jv (λc H R hc hR=>?_) ?_⟩
 . refine ⟨_,rfl,_,rfl,nm,6,rfl,rfl,rfl,h8 0,_,rfl,_,_,rfl,rfl,?_,_,_,rfl,rfl,?_,hR⟩
   . have:=pz nm hn 6
     rw [ju]
     exact gZ (by omega)
   . have:=pz nm hn 6
     have e1:("q" : Str).length=1:=by decide +kernel
     rw [uF,ju,e1]
     exact gZ (by omega)
 have n2:p2≠D2:=ab (ae (H:=_)) jv
 refine ⟨p2,D2,_,_,rfl,rfl,(by rw [ai n2,ae]),ae,?_,λp3 uH=>?_⟩
 . rw [List.length_append,oM,oM]
   exact gZ (by show 1+26+26<=100; decide)
 refine ⟨_,rfl,_,rfl,sG,rfl,λD3 oN=>i8 (nm:=nm) (λc=>Txt.slice nm none (some 6)++⟨#[c]⟩ ++ "z") oN (λc H R hc hR=>?_) ?_⟩
 . refine ⟨_,rfl,_,rfl,nm,6,rfl,rfl,rfl,h8 0,_,rfl,_,_,rfl,rfl,?_,_,_,rfl,rfl,?_,hR⟩
   . have:=pz nm hn 6
     rw [ju]
     exact gZ (by omega)
   . have:=pz nm hn 6
     have e1:("z" : Str).length=1:=by decide +kernel
     rw [uF,ju,e1]
     exact gZ (by omega)
 have n3:p3≠D3:=ab (ae (H:=_)) oN
 refine ⟨p3,D3,_,_,rfl,rfl,(by rw [ai n3,ae]),ae,?_,λp4 uI=>?_⟩
 . rw [List.length_append,List.length_append,oM,oM,oM]
   exact gZ (by show 1+26+26+26<=100; decide)
 refine ⟨_,rfl,sG,rfl,λD4 sH=>i8 (nm:=nm) (λc=>Txt.slice nm none (some 5)++⟨#[c]⟩ ++ "qz") sH (λc H R hc hR=>?_) ?_⟩
 . refine ⟨_,rfl,_,rfl,nm,5,rfl,rfl,rfl,h8 0,_,rfl,_,_,rfl,rfl,?_,_,_,rfl,rfl,?_,hR⟩
   . have:=pz nm hn 5
     rw [ju]
     exact gZ (by omega)
   . have:=pz nm hn 5
     have e1:("qz" : Str).length=2:=by decide +kernel
     rw [uF,ju,e1]
     exact gZ (by omega)
 have n4:p4≠D4:=ab (ae (H:=_)) sH
 refine ⟨p4,D4,_,_,rfl,rfl,(by rw [ai n4,ae]),ae,?_,λp5 Ay=>?_⟩
 . rw [List.length_append,List.length_append,List.length_append,oM,oM,oM,oM]
   exact uD (by show 1+26+26+26+26<=1000; decide)
 have OQ:[V.str nm]++((az.map λc=>Txt.slice nm none (some 7)++⟨#[c]⟩).map V.str)++((az.map λc=>Txt.slice nm none (some 6)++⟨#[c]⟩ ++ "q").map V.str)++((az.map λc=>Txt.slice nm none (some 6)++⟨#[c]⟩ ++ "z").map V.str)
  ++ ((az.map λc=>Txt.slice nm none (some 5)++⟨#[c]⟩ ++ "qz").map V.str)=(cC nm).map V.str:=by
  unfold cC c7 Dv Dw c5
  simp only [List.map_append,List.map_cons,List.map_nil]
 rw [OQ]
 have sm:∀o5,aj H4 (upd (upd (upd (upd (upd (upd (upd (upd (upd H4 p1 _) D1 _) p2 _) D2 _) p3 _) D3 _) p4 _) D4 _) p5 o5):=λo5=>
  (((((((((aj.ar GN).trans (aj.ar GO)).trans (aj.ar iK)).trans (aj.ar jv)).trans (aj.ar uH)).trans (aj.ar oN)).trans (aj.ar uI)).trans (aj.ar sH)).trans (aj.ar Ay))
 have GQ:=sm (.lst ((cC nm).map V.str))
 generalize hG:upd _ p5 (HO.lst ((cC nm).map V.str))=G at *
 have GR:G p5=some (.lst ((cC nm).map V.str)):=by rw [← hG,ae]
 refine ⟨_,rfl,p5,rfl,⟨_,ay.of GR⟩,λD hD=>?_⟩
 obtain ⟨WE,xa⟩:=xa
 have np:p5≠D:=ab GR hD
 have h5:∀o,(upd G D o) p5=some (.lst ((cC nm).map V.str)):=λo=>by rw [ai np]; exact GR
 have Sa:∀o,ay K (upd G D o) t (told.map V.str):=λo=>aj.seq (aj.ar hD) (aj.seq GQ (xg.seq xa hS gr))
 refine fQ (cC nm).length (λi acc σ H=>acc=(((cC nm).take i).filter λz=>!decide (z∈told)).map V.str/\(∃v,σ=[v,some (.ref t)])/\H=upd G D (.lst acc)) ⟨rfl,⟨none,rfl⟩,rfl⟩ ae ?_ ?_
 . rintro acc σ H5 _ ⟨rfl,_,rfl⟩
   refine ⟨⟨_,ay.of (h5 _),by simp⟩,?_⟩
   rw [List.take_length]
   obtain ⟨z,hz,Sb⟩:=yx nm told dv
   have Mu:z∈(cC nm).filter λz=>!decide (z∈told):=List.mem_filter.mpr ⟨hz,by simp [Sb]⟩
   cases Mv:(cC nm).filter λz=>!decide (z∈told) with
   | nil=>rw [Mv] at Mu; cases Mu
   | cons z0 r=>
    have h0:z0∈(cC nm).filter λz=>!decide (z∈told):=by rw [Mv]; exact List.mem_cons_self
    obtain ⟨m1,m2⟩:=List.mem_filter.mp h0
    have m3:z0∉told:=by simpa using m2
    have sl:G l=some (.lst ys):=GQ l _ uG
    have nl:l≠D:=ab sl hD
    exact ⟨D,_,0,.str z0,rfl,rfl,ay.of ae,(aF (j:=0) (by rfl):jQ _ ((0:Nat):Int)=_),kk z0 ys _ (yw hn m1) m3 hp (by rw [ai nl]; exact sl) ((xg.trans (aj.keep GQ l)).trans (cK.ar hD))⟩
 . rintro i acc σ H5 hi cP ⟨rfl,⟨v,rfl⟩,rfl⟩
   have xh:(cC nm)[i]?=some (cC nm)[i]:=List.getElem?_eq_getElem hi
   have hx:((cC nm).map V.str)[i]?=some (.str (cC nm)[i]):=by rw [List.getElem?_map,xh]; rfl
   refine ⟨⟨_,_,ay.of (h5 _),hx⟩,?_⟩
   rintro x H' ⟨rfl,jo⟩
   have ex:=jo _ (ay.of (h5 _))
   rw [hx] at ex
   cases ex
   refine ⟨_,rfl,_,rfl,t,_,rfl,.inl (Sa _),rfl,jR told,_,rfl,?_⟩
   have OR:∀j,((((cC nm).take j).filter λz=>!decide (z∈told)).map V.str).length<sizeLine:=λj=>by
    rw [List.length_map]
    refine Nat.lt_of_le_of_lt (List.length_filter_le _ _) ?_
    rw [List.length_take]
    have:(cC nm).length=105:=by
     unfold cC c7 Dv Dw c5
     simp only [List.length_append,List.length_map,List.length_singleton]
     decide
    exact small (by omega)
   refine jt (λh=>?_) (λh=>?_)
   . have GS:(cC nm)[i]∉told:=by simpa [oq] using h
     refine ⟨_,rfl,_,ae,OR i,cJ hi ae ⟨?_,⟨_,rfl⟩,by rw [wI]⟩⟩
     rw [take_succ_filter _ _ _ _ xh,if_pos (by simp [GS]),List.map_append]
     rfl
   . have GS:(cC nm)[i]∈told:=by simpa [oq] using h
     refine cJ hi ae ⟨?_,⟨_,rfl⟩,rfl⟩
     rw [take_succ_filter _ _ _ _ xh,if_neg (by simp [GS]),List.append_nil]
theorem Cm {f fP:Addr}{fd GU:FuncData}(F:cw K "_law_spelt" "_law_spelt" iM f fd) (T:Own mg) (FP:cw K "_law_pick" "_law_pick" lP fP GU) (bP:Binds K GU ["_law_left", "_law_many"] []) (mP:mg "_law_pick" = some (.ref fP)) :
 av P w K mg base aE 2 f fd ["_law_left", "_law_told"] (rC K):=by
 have GP:av P w K mg base aE 1 fP GU ["_law_left", "_law_many"] qx:=xf FP T
 refine F.ok gu (λvs H Q E h=>?_) (λcdv A outer s H vs Q E hr h=>?_)
 . obtain ⟨l,t,xs,told,rfl,_⟩:=h
   rfl
 . obtain ⟨l,t,xs,told,rfl,hl,hp,gr,hS,dv,kk⟩:=h
   obtain ⟨tR,hR,rR⟩:=yz (P:=P) (w:=w) (mg:=mg) (base:=base) (f:=f) (cdv:=cdv) (A:=A) (outer:=outer) (s:=s) (E:=E) hS gr dv ⟨xs,hl⟩ kk
   refine ⟨_,ag (ax (i:=2) gu.nd rfl (Or.inr rfl) ji)
    (ag (ax (i:=3) gu.nd rfl (Or.inl rfl) (lM PySem.F.plainAttrs_str PySem.F.slot_str_split PySem.F.type_str_split Cg ji (aa ji af)))
    (ag (ax (i:=4) gu.nd rfl (Or.inl rfl) (aD dw ah (aJ GP hr rfl mP FP.kp bP .nil aB (aa (pv 0) (aa ah af)))))
    (ag (ax (i:=5) gu.nd rfl (Or.inr rfl) (aS bz (pv 3) (aJ GP hr rfl mP FP.kp bP .nil aB (aa (pv 0) (aa ah af))) (λ_ _=>rfl)))
    (ag (bF (bj lH (pv 4) ah (br _))
     (aq (ax (i:=5) gu.nd rfl (Or.inr rfl) (lM PySem.F.plainAttrs_str PySem.F.slot_str_join PySem.F.type_str_join EY ji (aa
      (eE (N:=["_law_k", "_law_left", "_law_letters"]) (js:=[none,some 0,some 2]) (by kernel_rfl) rfl (cV rfl T.range (aa (pv 4) af)) (λ_ _ _ _ _ _=>aQ (i:=0) Kq rfl (Or.inl rfl) (.inr rfl)) (λ_ _ _ _ _ _=>cI)
       (λ_ _ _ _ _ _=>aS Gp (pv 2) (aJ GP hr rfl mP FP.kp bP .nil aB (aa (pv 1) (aa ah af))) (λ_ _=>rfl))) af)))) aY) hR)))),?_⟩
   refine ⟨rfl,_,_,rfl,rfl,(by decide +kernel),(by decide +kernel),(by decide +kernel),λw1 Mw=>?_⟩
   rw [wC]
   have nw:l≠w1:=ab hl Mw
   refine ⟨_,rfl,l,xs,9,rfl,(by rw [ai nw]; exact hl),hp,by decide,by decide,λd ys H2 d0 d1 iK fg Mx=>⟨_,_,rfl,rfl,?_⟩⟩
   have Dz:H2 w1=some (.lst (dg.map V.str)):=Mx w1 _ ae (Ne.symm nw)
   refine ⟨_,rfl,_,rfl,l,ys,11,rfl,fg,iK,by decide,by decide,λd2 My H3 e0 e1 uH xi Mz=>?_⟩
   have DA:H3 w1=some (.lst (dg.map V.str)):=Mz w1 _ Dz (Ne.symm nw)
   have GV:cK H H3 l:=((cK.ar Mw).trans Mx).trans Mz
   have hlen:dg.length=11:=by decide +kernel
   have hd2:d2.toNat<dg.length:=by rw [hlen]; omega
   have Sd:((d2.toNat:Nat):Int)=d2:=by omega
   have As:jQ (dg.map V.str) ((d2.toNat:Nat):Int)=some (.str dg[d2.toNat]):=aF (by rw [List.getElem?_map,List.getElem?_eq_getElem hd2]; rfl)
   rw [Sd] at As
   have Se:eF dg[d2.toNat]:=wD _ (List.getElem_mem hd2)
   refine ⟨w1,_,_,.str dg[d2.toNat],rfl,rfl,ay.of DA,As,?_⟩
   refine ⟨_,rfl,_,_,rfl,rfl,_,rfl,?_⟩
   refine jt (λhc=>?_) (λ_=>?_)
   . have ft:(1:Int)+d<9:=of_decide_eq_true hc
     refine ⟨rfl,_,rfl,_,rfl,by omega,by omega,λD hD=>?_⟩
     have nD:l≠D:=ab xi hD
     refine fQ (1+d).toNat (λi acc σ H'=>∃(zs:List Str) (v:Option V) (qB:List V),acc=zs.map V.str/\zs.length=i/\(∀y∈zs,∃c∈az,y=⟨#[c]⟩)/\σ=[v,some (.ref l),some (.str sG)]/\lQ qB/\H' l=some (.lst qB)/\cK H3 H' l)
      ⟨[],none,My,rfl,rfl,λy hy=>(by cases hy),rfl,uH,(by rw [ai nD]; exact xi),cK.ar hD⟩ ae ?_ ?_
     . rintro acc σ H4 cP ⟨zs,v,qB,rfl,DB,hz,rfl,uI,uG,xg⟩
       refine ⟨Nat.le_refl _,?_⟩
       refine ⟨"",D,zs,rfl,rfl,ay.of cP,?_,?_⟩
       . rw [uE zs hz]
         have e0:("" : Str).length=0:=by decide +kernel
         rw [e0]
         omega
       . exact rR _ qB H4 w1 _ (wF (by omega) (by omega) hz) uI uG (GV.trans xg)
     . rintro i acc σ H4 hi cP ⟨zs,v,qB,rfl,DB,hz,rfl,uI,uG,xg⟩
       refine ⟨hi,?_⟩
       rintro x H' ⟨rfl,rfl⟩
       refine dM ?_
       refine ⟨_,rfl,_,rfl,l,qB,26,rfl,uG,uI,by decide,by decide,λd' Sf H5 c0 c1 Ay Sg MA=>?_⟩
       have sF:az.length=26:=by decide
       have hd':d'.toNat<az.length:=by omega
       have Sh:((d'.toNat:Nat):Int)=d':=by omega
       have GW:jQ sG.cps.toList ((d'.toNat:Nat):Int)=some az[d'.toNat]:=aF (by rw [xc]; exact List.getElem?_eq_getElem hd')
       rw [Sh] at GW
       have GX:H5 D=some (.lst (zs.map V.str)):=MA D _ cP (Ne.symm nD)
       refine ⟨sG,d',az[d'.toNat],rfl,rfl,(by decide +kernel),GW,_,GX,?_,cJ hi ae ⟨zs++[⟨#[az[d'.toNat]]⟩],_,Sf,?_,?_,λy hy=>?_,rfl,Ay,?_,?_⟩⟩
       . rw [List.length_map]
         exact small (by omega)
       . rw [List.map_append]
         rfl
       . rw [List.length_append,List.length_singleton,DB]
       . rcases List.mem_append.mp hy with hy | hy
         . exact hz y hy
         . have:y=⟨#[az[d'.toNat]]⟩:=by simpa using hy
           exact ⟨_,List.getElem_mem hd',this⟩
       . rw [ai nD]
         exact Sg
       . intro b o hb Az
         have nb:b≠D:=λz=>by rw [z,hD] at hb; cases hb
         rw [ai nb]
         exact MA b o (xg b o hb Az) Az
   . exact rR _ My H3 w1 _ Se uH xi GV
end
end Gen
namespace L2
open PySem PySem.Spec PyProof.Rows
def rev:Nat->Nat->Nat
 | 0,_=>0
 | k+1,i=>(i % 2)*2 ^ k+rev k (i / 2)
def cB (k i j:Nat):Bool:=Nat.blt (rev k i) (rev k j)
def place (c:Nat->Nat->Bool) (p:Array Nat) (lo k:Nat):Nat->Nat->Nat->Nat
 | 0,l,_=>l
 | f+1,l,r=>if l≥r then l else if c (p.getD (lo+k) 0) (p.getD (lo+(l+r) / 2) 0)=true then place c p lo k f l ((l+r) / 2) else place c p lo k f ((l+r) / 2+1) r
def bE (c:Nat->Nat->Bool) (lo:Nat):Nat->Nat->Array Nat->Array Nat
 | 0,_,p=>p
 | f+1,k,p=>bE c lo f (k+1) (bubble p (lo+k) (lo+k-(lo+place c p lo k k 0 k)))
theorem sI {α β:Type}(f:α->β) (u v:Nat->Nat):∀(l:List Nat) (xs:Array α),l.foldl (λa k=>a.swapIfInBounds (u k) (v k)) (xs.map f)=(l.foldl (λa k=>a.swapIfInBounds (u k) (v k)) xs).map f
 | [],_=>rfl
 | k::l,xs=>by
  rw [List.foldl_cons,List.foldl_cons,W.kas_swap_map]
  exact sI f u v l _
section
variable {prog:Program}{w:World}{A:Around}{E:Value->Shared->Prop}{s:Shared}{κ:SortKind}{it:Nat->Keyed}{N:Nat}{c:Nat->Nat->Bool}{p:Array Nat}{pd:Array (Nat×Nat×Nat)}
def dG (prog:Program) (w:World) (A:Around) (s:Shared) (κ:SortKind) (it:Nat->Keyed) (N:Nat) (c:Nat->Nat->Bool):Prop:=
 ∀i j,i<N->j<N->∀(E:Value->Shared->Prop) (Q:Bool->Shared->Prop),Q (c i j) s->wpAny (model prog w) A (keyLt' κ (it i).1 (it j).1) Q E s
def aP (κ:SortKind) (it:Nat->Keyed) (p:Array Nat) (pd:Array (Nat×Nat×Nat)):SortSt:=SortSt.mk' κ (p.map it) pd 7 none
def fz (N:Nat) (p:Array Nat):Prop:=∀i,i<p.size->p.getD i 0<N
theorem rD (C:dG prog w A s κ it N c){st:SortSt}{i j:Nat}{Q:Option Bool->SortSt->Prop}(hk:kindOf st=κ) (hi:i<N) (hj:j<N) (h:Q (some (c i j)) st):wpS (model prog w) A E s (lt' (it i) (it j)) Q st:=by
 rw [lt'_eq]
 refine wpS_bind (wpS_get ?_)
 rw [hk]
 refine wpS_bind (wpS_lift (wpAny_attempt (C i j hi hj _ _ ⟨rfl,?_⟩)))
 exact wpS_pure h
theorem dh {st:SortSt}{i:Nat}{Q:Keyed->SortSt->Prop}(hi:i<p.size) (h:Q (it (p.getD i 0)) st):wpS (model prog w) A E s (elem' (p.map it) i) Q st:=by
 rw [elem'_eq]
 have e:(p.map it)[i]?=some (it (p.getD i 0)):=by simp [Array.getD,hi]
 rw [e]
 exact wpS_pure h
theorem uJ (C:dG prog w A s κ it N c){i j:Nat}{Q:Option Bool->SortSt->Prop}(B:fz N p) (hi:i<p.size) (hj:j<p.size) (h:Q (some (c (p.getD i 0) (p.getD j 0))) (aP κ it p pd)):wpS (model prog w) A E s (ltAt' i j) Q (aP κ it p pd):=by
 rw [ltAt'_eq]
 refine wpS_bind (wpS_get (wpS_bind (dh hi (wpS_bind (dh hj ?_)))))
 exact rD C rfl (B i hi) (B j hj) h
theorem GY {k l:Nat}{Q:Unit->SortSt->Prop}(h:Q () (aP κ it (bubble p k (k-l)) pd)):wpS (model prog w) A E s (moveDown' k l) Q (aP κ it p pd):=by
 rw [moveDown'_eq]
 refine wpS_modify ?_
 have e:bubble (p.map it) k (k-l)=(bubble p k (k-l)).map it:=sI it (λi=>k-i) (λi=>k-i-1) _ p
 show Q () (SortSt.mk' κ (bubble (p.map it) k (k-l)) pd 7 none)
 rw [e]
 exact h
theorem fz.perm {q:Array Nat}(B:fz N p) (h:q.Perm p):fz N q:=λi hi=>by
 have hs:q.size=p.size:=h.size_eq
 have hm:q.getD i 0∈p:=h.mem_iff.mp (by
  have:q.getD i 0=q[i]:=by simp [Array.getD,hi]
  rw [this]
  exact Array.getElem_mem hi)
 obtain ⟨j,hj,e⟩:=Array.mem_iff_getElem.mp hm
 rw [← e]
 have:p.getD j 0=p[j]:=by simp [Array.getD,hj]
 rw [← this]
 exact B j hj
theorem tJ (C:dG prog w A s κ it N c){lo n ok:Nat}{Q:Bool->SortSt->Prop}(B:fz N p) (hz:lo+n<=p.size) (hok:1<=ok) (hn:ok<=n) (h:Q true (aP κ it (bE c lo (n-ok) ok p) pd)):wpS (model prog w) A E s (binarySort' lo n ok) Q (aP κ it p pd):=by
 rw [binarySort'_eq]
 have hm:max ok 1=ok:=by omega
 rw [hm]
 refine wpS_bind (wpS_mono (wpS_forRange (I:=λk d aG=>d=(none,())/\∃q:Array Nat,aG=aP κ it q pd/\q.Perm p/\bE c lo (n-k) k q=bE c lo (n-ok) ok p)
  (Q:=λd aG=>d=(none,())/\aG=aP κ it (bE c lo (n-ok) ok p) pd) ?step ?fin ⟨rfl,p,rfl,Array.Perm.refl _,rfl⟩) ?post)
 case post=>
  rintro d aG ⟨rfl,rfl⟩
  exact wpS_pure h
 case fin=>
  rintro d aG ⟨rfl,q,rfl,_,e⟩
  refine ⟨rfl,?_⟩
  rw [show n-max ok n=0 by omega] at e
  rw [← e]
  rfl
 case step=>
  rintro k d aG hk WG ⟨rfl,q,rfl,hq,e⟩
  have hs:q.size=p.size:=hq.size_eq
  have Bq:=B.perm hq
  refine wpS_bind (wpS_mono (wpS_forRange (I:=λx d aO=>aO=aP κ it q pd/\∃l r,d=(none,l,r)/\l<=r/\r<=k/\place c q lo k (k-x) l r=place c q lo k k 0 k)
   (Q:=λd aO=>aO=aP κ it q pd/\∃l r,d=(none,l,r)/\l=place c q lo k k 0 k) ?istep ?ifin ⟨rfl,0,k,rfl,by omega,by omega,rfl⟩) ?ipost)
  case ifin=>
   rintro d aO ⟨rfl,l,r,rfl,h1,h2,e2⟩
   refine ⟨rfl,l,r,rfl,?_⟩
   rw [show k-max 0 k=0 by omega] at e2
   exact e2
  case istep=>
   rintro x d aO _ hx ⟨rfl,l,r,rfl,h1,h2,e2⟩
   obtain ⟨f,hf⟩:∃f,k-x=f+1:=⟨k-x-1,by omega⟩
   have MB:k-(x+1)=f:=by omega
   rw [hf,place] at e2
   dsimp only
   by_cases MC:l≥r
   . rw [if_pos MC] at e2 ⊢
     exact wpS_pure ⟨rfl,l,r,rfl,e2⟩
   . rw [if_neg MC] at e2 ⊢
     refine wpS_bind (uJ C Bq (by omega) (by omega) ?_)
     dsimp only
     cases hc:c (q.getD (lo+k) 0) (q.getD (lo+(l+r) / 2) 0) with
     | true=>
      rw [hc,if_pos rfl] at e2
      rw [if_pos rfl]
      exact wpS_pure ⟨rfl,l,(l+r) / 2,rfl,by omega,by omega,by rw [MB]; exact e2⟩
     | false=>
      rw [hc,if_neg (by decide)] at e2
      rw [if_neg (by decide)]
      exact wpS_pure ⟨rfl,(l+r) / 2+1,r,rfl,by omega,by omega,by rw [MB]; exact e2⟩
  case ipost=>
   rintro d aO ⟨rfl,l,r,rfl,e2⟩
   refine wpS_bind (GY (wpS_pure ⟨rfl,_,rfl,(bubble_perm _ _ _).trans hq,?_⟩))
   obtain ⟨f,hf⟩:∃f,n-k=f+1:=⟨n-k-1,by omega⟩
   rw [hf,bE,← e2] at e
   rw [show n-(k+1)=f by omega]
   exact e
theorem lR (C:dG prog w A s κ it N c){lo n:Nat}{Q:Option Nat->SortSt->Prop}(B:fz N p) (hz:lo+n<=p.size) (hn:3<=n) (h1:c (p.getD (lo+1) 0) (p.getD lo 0)=false) (h2:c (p.getD (lo+2) 0) (p.getD (lo+1) 0)=true) (h3:c (p.getD lo 0) (p.getD (lo+1) 0)=true)
 (h:Q (some 2) (aP κ it p pd)):wpS (model prog w) A E s (countRun' lo n) Q (aP κ it p pd):=by
 rw [countRun'_eq]
 refine wpS_bind (wpS_mono (wpS_forRange (I:=λx d aG=>aG=aP κ it p pd/\((x=1/\d=(none,1))\/(x=2/\d=(none,2))))
  (Q:=λd aG=>aG=aP κ it p pd/\d=(none,2)) ?step ?fin ⟨rfl,.inl ⟨rfl,rfl⟩⟩) ?post)
 case fin=>
  rintro d aG ⟨rfl,⟨e,rfl⟩ | ⟨e,rfl⟩⟩
  . omega
  . exact ⟨rfl,rfl⟩
 case step=>
  rintro x d aG hx Si ⟨rfl,⟨rfl,rfl⟩ | ⟨rfl,rfl⟩⟩
  . refine wpS_bind (uJ C B (by omega) (by omega) ?_)
    rw [show lo+1-1=lo by omega,h1]
    exact wpS_pure ⟨rfl,.inr ⟨rfl,rfl⟩⟩
  . refine wpS_bind (uJ C B (by omega) (by omega) ?_)
    rw [show lo+2-1=lo+1 by omega,h2]
    exact wpS_pure ⟨rfl,rfl⟩
 case post=>
  rintro d aG ⟨rfl,rfl⟩
  dsimp only
  rw [if_neg (by simp; omega),if_pos (by omega)]
  refine wpS_bind (uJ C B (by omega) (by omega) ?_)
  rw [show lo+2-1=lo+1 by omega,h3]
  exact wpS_pure h
end
end L2
namespace L2
open PySem PySem.Spec PyProof.Rows
section
variable {prog:Program}{w:World}{A:Around}{E:Value->Shared->Prop}{s:Shared}{κ:SortKind}{it:Nat->Keyed}{N:Nat}{c:Nat->Nat->Bool}{p:Array Nat}{pd:Array (Nat×Nat×Nat)}
def xj:Bool->Keyed->Array Keyed->Nat->Nat->Nat->StateT SortSt Sem (Option Nat):=sortPriv% PySem.Builtin.gallop
def Cn:Array Keyed->Array Keyed->StateT SortSt Sem (Array Keyed):=sortPriv% PySem.Builtin.mergeLo
theorem xk (C:dG prog w A s κ it N c){kb n base:Nat}{Q:Option Nat->SortSt->Prop}{st:SortSt}(hk:kindOf st=κ) (B:fz N p) (hb:kb<N) (hn:2<=n) (hz:base+n<=p.size) (h1:c kb (p.getD base 0)=false) (h2:c kb (p.getD (base+1) 0)=true) (h:Q (some 1) st) :
 wpS (model prog w) A E s (xj false (it kb) (p.map it) base n 0) Q st:=by
 refine wpS_bind (wpS_bind (dh (show base+0<p.size by omega) ?_))
 rw [if_neg (by decide)]
 refine wpS_bind (rD C hk hb (B _ (by omega)) ?_)
 rw [Nat.add_zero,h1]
 refine wpS_pure ?_
 show wpS _ _ _ _ (do
  let r ← _
  _) _ _
 refine wpS_bind (wpS_mono (wpS_forRange (I:=λx d aG=>aG=st/\x=0/\d=(none,0,1)) (Q:=λd aG=>aG=st/\d=(none,0,1)) ?step ?fin ⟨rfl,rfl,rfl⟩) ?post)
 case fin=>
  rintro d aG ⟨_,e,_⟩
  omega
 case step=>
  rintro x d aG _ hx ⟨rfl,rfl,rfl⟩
  dsimp only
  rw [if_neg (by omega)]
  refine wpS_bind (wpS_bind (dh (show base+(0+1)<p.size by omega) ?_))
  rw [if_neg (by decide)]
  refine wpS_bind (rD C hk hb (B _ (by omega)) ?_)
  rw [Nat.zero_add,h2]
  exact wpS_pure (wpS_pure ⟨rfl,rfl⟩)
 case post=>
  rintro d aG ⟨rfl,rfl⟩
  dsimp only
  refine wpS_bind (wpS_mono (wpS_forRange (I:=λx d aO=>aO=aG/\d=(none,1,1)) (Q:=λd aO=>aO=aG/\d=(none,1,1)) ?step2 (λ_ _ z=>z) ⟨rfl,?ini⟩) ?post2)
  case ini=>
   rw [Nat.min_eq_left (by omega)]
  case step2=>
   rintro x d aO _ hx ⟨rfl,rfl⟩
   dsimp only
   rw [if_pos (Nat.le_refl _)]
   exact wpS_pure ⟨rfl,rfl⟩
  case post2=>
   rintro d aO ⟨rfl,rfl⟩
   exact wpS_pure h
theorem xl (C:dG prog w A s κ it N c){ka n base:Nat}{Q:Option Nat->SortSt->Prop}{st:SortSt}(hk:kindOf st=κ) (B:fz N p) (hb:ka<N) (hn:2<=n) (hz:base+n<=p.size) (h1:c (p.getD (base+(n-1)) 0) ka=false) (h2:c (p.getD (base+(n-2)) 0) ka=true) (h:Q (some (n-1)) st) :
 wpS (model prog w) A E s (xj true (it ka) (p.map it) base n (n-1)) Q st:=by
 refine wpS_bind (wpS_bind (dh (show base+(n-1)<p.size by omega) ?_))
 rw [if_pos rfl]
 refine rD C hk (B _ (by omega)) hb ?_
 rw [h1]
 show wpS _ _ _ _ (do
  let r ← _
  _) _ _
 refine wpS_bind (wpS_mono (wpS_forRange (I:=λx d aG=>aG=st/\x=0/\d=(none,0,1)) (Q:=λd aG=>aG=st/\d=(none,0,1)) ?step ?fin ⟨rfl,rfl,rfl⟩) ?post)
 case fin=>
  rintro d aG ⟨_,e,_⟩
  omega
 case step=>
  rintro x d aG _ hx ⟨rfl,rfl,rfl⟩
  dsimp only
  rw [if_neg (by omega)]
  refine wpS_bind (wpS_bind (dh (show base+(n-1-1)<p.size by omega) ?_))
  rw [if_pos rfl]
  refine rD C hk (B _ (by omega)) hb ?_
  rw [show n-1-1=n-2 by omega,h2]
  exact wpS_pure ⟨rfl,rfl⟩
 case post=>
  rintro d aG ⟨rfl,rfl⟩
  dsimp only
  refine wpS_bind (wpS_mono (wpS_forRange (I:=λx d aO=>aO=aG/\d=(none,n-1,n-1)) (Q:=λd aO=>aO=aG/\d=(none,n-1,n-1)) ?step2 (λ_ _ z=>z) ⟨rfl,?ini⟩) ?post2)
  case ini=>
   rw [Nat.min_eq_left (by omega),show n-1+1-1=n-1 by omega,Nat.sub_zero]
  case step2=>
   rintro x d aO _ hx ⟨rfl,rfl⟩
   dsimp only
   rw [if_pos (Nat.le_refl _)]
   exact wpS_pure ⟨rfl,rfl⟩
  case post2=>
   rintro d aO ⟨rfl,rfl⟩
   exact wpS_pure h
end
end L2
namespace L2
open PySem PySem.Spec PyProof.Rows
def mq (X Y:Array Nat) (t:Nat):Nat:=if t % 2=0 then Y.getD (t / 2) 0 else X.getD (t / 2) 0
def cj (X Y:Array Nat) (t:Nat):Array Nat:=((List.range t).map (mq X Y)).toArray
theorem iN (X Y:Array Nat) (t:Nat):cj X Y (t+1)=(cj X Y t).push (mq X Y t):=by
 unfold cj
 rw [List.range_succ,List.map_append]
 simp
section
variable {prog:Program}{w:World}{A:Around}{E:Value->Shared->Prop}{s:Shared}{κ:SortKind}{it:Nat->Keyed}{N:Nat}{c:Nat->Nat->Bool}{X Y:Array Nat}{n:Nat}
theorem uK {Y:Array Nat}(hy:Y.size=n) (hn:1<=n):(Y.map it).extract (n-1) (Y.map it).size = #[it (Y.getD (n-1) 0)]:=by
 apply Array.ext
 . simp
   omega
 . intro i h1 h2
   simp at h2
   subst h2
   have dv:n-1<Y.size:=by omega
   simp [Array.getD,dv]
theorem AA (C:dG prog w A s κ it N c){Q:Array Keyed->SortSt->Prop}{st:SortSt}(hk:kindOf st=κ) (hg:gallopOf st=7) (BX:fz N X) (BY:fz N Y) (hx:X.size=n) (hy:Y.size=n) (hn:3<=n)
 (hA:∀i,i+1<n->c (Y.getD (i+1) 0) (X.getD i 0)=false) (hB:∀i,i<n->c (Y.getD i 0) (X.getD i 0)=true) (h:Q ((cj X Y (2*n)).map it) st) :
 wpS (model prog w) A E s (Cn (X.map it) (Y.map it)) Q st:=by
 refine wpS_bind (wpS_lift (wpAny_rule ⟨rfl,?_⟩))
 refine wpS_bind (dh (show 0<Y.size by omega) ?_)
 have sx:(X.map it).size=n:=by rw [Array.size_map,hx]
 have sy:(Y.map it).size=n:=by rw [Array.size_map,hy]
 dsimp only
 rw [if_neg (by rw [sy]; simp; omega),if_neg (by rw [sx]; simp; omega)]
 refine wpS_bind (wpS_get ?_)
 have Ah:(sortPriv% PySem.Builtin.SortState.minGallop) st=7:=hg
 rw [Ah]
 have Sj:(cj X Y (2*n)).map it=(cj X Y (2*n-2)).map it++(Y.map it).extract (n-1) (Y.map it).size++(X.map it).extract (n-1) (X.map it).size:=by
  rw [uK hy (by omega),uK hx (by omega)]
  have e1:2*n=2*n-2+1+1:=by omega
  have z1:mq X Y (2*n-2)=Y.getD (n-1) 0:=by
   unfold mq
   rw [if_pos (by omega),show (2*n-2) / 2=n-1 by omega]
  have z2:mq X Y (2*n-2+1)=X.getD (n-1) 0:=by
   unfold mq
   rw [if_neg (by omega),show (2*n-2+1) / 2=n-1 by omega]
  conv=>lhs; rw [e1,iN,iN,z1,z2]
  simp
 refine wpS_bind (wpS_mono (wpS_forRange (I:=λx d aG=>aG=st/\x=0/\d=(none,#[it (Y.getD 0 0)],0,1,7)) (Q:=λd aG=>aG=st/\d.1=some ((cj X Y (2*n)).map it)) ?step ?fin ⟨rfl,rfl,rfl⟩) ?post)
 case fin=>
  rintro d aG ⟨_,e,_⟩
  rw [sx,sy] at e
  omega
 case post=>
  rintro ⟨d1,d2⟩ aG ⟨rfl,e⟩
  cases (show d1=_ from e)
  exact wpS_pure h
 case step=>
  rintro x d aG _ WH ⟨rfl,rfl,rfl⟩
  dsimp only
  refine wpS_bind (wpS_mono (wpS_forRange (I:=λt d aO=>aO=aG/\t<=2*n-4/\∃ac bc,d=(none,(cj X Y (t+1)).map it,(t+1) / 2,t / 2+1,ac,bc)/\ac<=1/\bc<=1/\(t % 2=0->ac=0)/\(t % 2=1->bc=0))
   (Q:=λd aO=>aO=aG/\d.1=some ((cj X Y (2*n)).map it)) ?istep ?ifin ⟨rfl,by omega,0,0,?ini,by omega,by omega,λ_=>rfl,λ_=>rfl⟩) ?ipost)
  case ini=>
   have:cj X Y (0+1) = #[Y.getD 0 0]:=by
    rw [iN]
    rfl
   rw [this]
   simp
  case ifin=>
   rintro d aO ⟨_,e,_⟩
   rw [sx,sy] at e
   omega
  case ipost=>
   rintro ⟨d1,d2⟩ aO ⟨rfl,e⟩
   cases (show d1=_ from e)
   exact wpS_pure ⟨rfl,rfl⟩
  case istep=>
   rintro t d aO _ ht ⟨rfl,WI,ac,bc,rfl,oO,WJ,Sk,Sl⟩
   dsimp only
   have iy:t / 2+1<Y.size:=by omega
   have ix:(t+1) / 2<X.size:=by omega
   refine wpS_bind (dh iy (wpS_bind (dh ix (wpS_bind (rD C hk (BY _ iy) (BX _ ix) ?_)))))
   rcases Nat.mod_two_eq_zero_or_one t with e | e
   . -- x wins
     have ei:(t+1) / 2=t / 2:=by omega
     have hc:c (Y.getD (t / 2+1) 0) (X.getD ((t+1) / 2) 0)=false:=by rw [ei]; exact hA _ (by omega)
     rw [hc]
     dsimp only
     rw [if_neg (by decide)]
     refine wpS_bind (dh ix ?_)
     have z1:mq X Y (t+1)=X.getD ((t+1) / 2) 0:=by
      unfold mq
      rw [if_neg (by omega)]
     have eo:((cj X Y (t+1)).map it).push (it (X.getD ((t+1) / 2) 0))=(cj X Y (t+1+1)).map it:=by
      rw [iN X Y (t+1),z1]
      simp
     rw [eo]
     by_cases he:t=2*n-4
     . rw [if_pos (by rw [sx]; simp; omega)]
       refine wpS_pure ⟨rfl,?_⟩
       show some _=some _
       rw [Sj,show (t+1) / 2+1=n-1 by omega,show t / 2+1=n-1 by omega,show t+1+1=2*n-2 by omega]
     . rw [if_neg (by rw [sx]; simp; omega),if_neg (by omega)]
       refine wpS_pure ⟨rfl,by omega,ac+1,0,?_,by have:=Sk e; omega,by omega,λz=>by omega,λ_=>rfl⟩
       rw [show (t+1+1) / 2=(t+1) / 2+1 by omega,show (t+1) / 2+1=t / 2+1 by omega]
   . -- y wins
     have ei:(t+1) / 2=t / 2+1:=by omega
     have hc:c (Y.getD (t / 2+1) 0) (X.getD ((t+1) / 2) 0)=true:=by rw [ei]; exact hB _ (by omega)
     rw [hc]
     dsimp only
     rw [if_pos rfl]
     refine wpS_bind (dh iy ?_)
     have z1:mq X Y (t+1)=Y.getD (t / 2+1) 0:=by
      unfold mq
      rw [if_pos (by omega),ei]
     have eo:((cj X Y (t+1)).map it).push (it (Y.getD (t / 2+1) 0))=(cj X Y (t+1+1)).map it:=by
      rw [iN X Y (t+1),z1]
      simp
     rw [eo,if_neg (by rw [sy]; simp; omega),if_neg (by omega)]
     refine wpS_pure ⟨rfl,by omega,0,bc+1,?_,by omega,by have:=Sl e; omega,λ_=>rfl,λz=>by omega⟩
     rw [show (t+1+1) / 2=(t+1) / 2 by omega,show (t+1) / 2+1=t / 2+1+1 by omega]
end
end L2
namespace L2
open PySem PySem.Spec PyProof.Rows
def DC (p z:Array Nat):Array Nat:=z.toList.zipIdx.foldl (λa x=>a.setIfInBounds (1+x.2) x.1) p
theorem xm (it:Nat->Keyed):∀(l:List Nat) (i:Nat) (p:Array Nat),((l.map it).zipIdx i).foldl (λ(a:Array Keyed) x=>a.setIfInBounds (1+x.2) x.1) (p.map it)=((l.zipIdx i).foldl (λa x=>a.setIfInBounds (1+x.2) x.1) p).map it
 | [],_,_=>rfl
 | x::l,i,p=>by
  rw [List.map_cons,List.zipIdx_cons,List.zipIdx_cons,List.foldl_cons,List.foldl_cons,← xm it l (i+1)]
  congr 1
  simp
section
variable {prog:Program}{w:World}{A:Around}{E:Value->Shared->Prop}{s:Shared}{κ:SortKind}{it:Nat->Keyed}{N:Nat}{c:Nat->Nat->Bool}{p:Array Nat}{n:Nat}
theorem jw {i j k:Nat}(hj:j<=p.size) (hk:k<j-i):(p.extract i j).getD k 0=p.getD (i+k) 0:=by
 have h1:k<(p.extract i j).size:=by simp; omega
 have h2:i+k<p.size:=by omega
 simp only [Array.getD,h1,h2,dif_pos]
 simp
theorem qC {i j:Nat}(hj:j<=p.size) (B:fz N p):fz N (p.extract i j):=λk hk=>by
 have kI:k<j-i:=by
  simp at hk
  omega
 rw [jw hj kI]
 exact B _ (by omega)
theorem GZ (C:dG prog w A s κ it N c){Q:Bool->SortSt->Prop}{pw:Nat}(B:fz N p) (hp:p.size=2*n) (hn:4<=n)
 (hA:∀i,i<n->c (p.getD (n+i) 0) (p.getD i 0)=false) (hB:∀i,i+1<n->c (p.getD (n+i) 0) (p.getD (i+1) 0)=true)
 (h:Q true (aP κ it (DC p (cj (p.extract 1 n) (p.extract n (2*n-1)) (2*(n-1)))) #[(0,n+n,pw)])) :
 wpS (model prog w) A E s (mergeAt' 0) Q (aP κ it p #[(0,n,pw),(n,n,0)]):=by
 refine wpS_bind (wpS_get ?_)
 refine wpS_bind (wpS_modify ?_)
 have ep:((#[(0,n,pw),(n,n,0)]:Array (Nat×Nat×Nat)).setIfInBounds 0 (0,n+n,pw)).eraseIdxIfInBounds 1 = #[(0,n+n,pw)]:=by simp [Array.setIfInBounds,Array.eraseIdxIfInBounds]
 show wpS _ _ _ _ _ _ (SortSt.mk' κ (p.map it) (((#[(0,n,pw),(n,n,0)]:Array (Nat×Nat×Nat)).setIfInBounds 0 (0,n+n,pw)).eraseIdxIfInBounds 1) 7 none)
 rw [ep]
 refine wpS_bind (dh (show n<p.size by omega) ?_)
 refine wpS_bind (xk C rfl B (B _ (by omega)) (by omega) (show 0+n<=p.size by omega) ?_ ?_ ?_)
 . exact hA 0 (by omega)
 . exact hB 0 (by omega)
 dsimp only
 rw [if_neg (by simp; omega)]
 refine wpS_bind (dh (show 0+1+(n-1)-1<p.size by omega) ?_)
 refine wpS_bind (xl C rfl B (B _ (by omega)) (by omega) (show n+n<=p.size by omega) ?_ ?_ ?_)
 . rw [show 0+1+(n-1)-1=n-1 by omega]
   exact hA (n-1) (by omega)
 . have:=hB (n-2) (by omega)
   rw [show 0+1+(n-1)-1=n-2+1 by omega]
   exact this
 dsimp only
 rw [if_neg (by simp; omega),if_pos (by omega)]
 have ex:∀i j,(p.map it).extract i j=(p.extract i j).map it:=λi j=>by
  apply Array.ext
  . simp
  . intro k h1 h2
    simp
 have sX:(p.extract 1 n).size=n-1:=by
  simp
  omega
 have sY:(p.extract n (2*n-1)).size=n-1:=by
  simp
  omega
 have gX:∀i,i<n-1->(p.extract 1 n).getD i 0=p.getD (i+1) 0:=λi hi=>by rw [jw (by omega) (by omega),Nat.add_comm]
 have gY:∀i,i<n-1->(p.extract n (2*n-1)).getD i 0=p.getD (n+i) 0:=λi hi=>jw (by omega) (by omega)
 have key:=AA C (E:=E) (st:=SortSt.mk' κ (p.map it) #[(0,n+n,pw)] 7 none) (X:=p.extract 1 n) (Y:=p.extract n (2*n-1)) (n:=n-1)
  (Q:=λa aG=>a=(cj (p.extract 1 n) (p.extract n (2*n-1)) (2*(n-1))).map it/\aG=SortSt.mk' κ (p.map it) #[(0,n+n,pw)] 7 none) rfl rfl (qC (by omega) B) (qC (by omega) B) sX sY (by omega)
  (λi hi=>by rw [gX i (by omega),gY (i+1) (by omega)]; exact hA (i+1) (by omega)) (λi hi=>by rw [gX i hi,gY i hi]; exact hB i (by omega)) ⟨rfl,rfl⟩
 rw [← ex,← ex] at key
 have e1:n+(n-1)=2*n-1:=by omega
 rw [show (0+1:Nat)=1 from rfl,e1]
 refine wpS_bind (wpS_mono key λa aG hq=>?_)
 obtain ⟨rfl,rfl⟩:=hq
 refine wpS_bind (wpS_modify (wpS_bind (wpS_get (wpS_pure ?_))))
 have e2:=xm it (cj (p.extract 1 n) (p.extract n (2*n-1)) (2*(n-1))).toList 0 p
 have e3:SortSt.mk' κ ((((cj (p.extract 1 n) (p.extract n (2*n-1)) (2*(n-1))).map it).toList.zipIdx).foldl (λ(a:Array Keyed) x=>a.setIfInBounds (1+x.2) x.1) (p.map it)) #[(0,n+n,pw)] 7 none=aP κ it (DC p (cj (p.extract 1 n) (p.extract n (2*n-1)) (2*(n-1)))) #[(0,n+n,pw)]:=by
  unfold aP DC
  rw [Array.toList_map,e2]
 show Q true (SortSt.mk' κ ((((cj (p.extract 1 n) (p.extract n (2*n-1)) (2*(n-1))).map it).toList.zipIdx).foldl (λ(a:Array Keyed) x=>a.setIfInBounds (1+x.2) x.1) (p.map it)) #[(0,n+n,pw)] 7 none)
 rw [e3]
 exact h
end
end L2
namespace L2
open PySem PySem.Spec PyProof.Rows
section
variable {prog:Program}{w:World}{A:Around}{E:Value->Shared->Prop}{s:Shared}{κ:SortKind}{it:Nat->Keyed}{N:Nat}{c:Nat->Nat->Bool}{p:Array Nat}{n:Nat}
theorem nB (h0:1<=n) (h:n<64):minRun' n n 0=n:=by
 obtain ⟨f,hf⟩:∃f,n=f+1:=⟨n-1,by omega⟩
 have:minRun' (f+1) n 0=n:=by rw [minRun'_succ,if_pos h]; rfl
 rwa [← hf] at this
theorem iO (c:Nat->Nat->Bool) (lo:Nat):∀(f k:Nat) (p:Array Nat),(bE c lo f k p).Perm p
 | 0,_,_=>Array.Perm.refl _
 | f+1,k,p=>(iO c lo f (k+1) _).trans (bubble_perm _ _ _)
theorem AB (C:dG prog w A s κ it N c){Q:Unit->SortSt->Prop}(B:fz N p) (hp:p.size=n) (hn:3<=n) (xo:n<64) (h1:c (p.getD 1 0) (p.getD 0 0)=false) (h2:c (p.getD 2 0) (p.getD 1 0)=true) (h3:c (p.getD 0 0) (p.getD 1 0)=true)
 (h:Q () (aP κ it (bE c 0 (n-2) 2 p) #[(0,n,0)])):wpS (model prog w) A E s sortRuns' Q (aP κ it p #[]):=by
 rw [sortRuns'_eq]
 refine wpS_bind (wpS_get ?_)
 have hs:(arrOf (aP κ it p #[])).size=n:=by show (p.map it).size=n; rw [Array.size_map,hp]
 simp only [hs,nB (by omega) xo]
 refine wpS_bind (wpS_mono (wpS_forRange (I:=λx d aG=>(x=0/\d=(none,0)/\aG=aP κ it p #[])\/(1<=x/\d=(none,n)/\aG=aP κ it (bE c 0 (n-2) 2 p) #[(0,n,0)]))
  (Q:=λd aG=>d=(none,n)/\aG=aP κ it (bE c 0 (n-2) 2 p) #[(0,n,0)]) ?step ?fin (.inl ⟨rfl,rfl,rfl⟩)) ?post)
 case fin=>
  rintro d aG (⟨hx,_,_⟩ | ⟨_,hc,hD⟩)
  . omega
  . exact ⟨hc,hD⟩
 case step=>
  rintro x d aG _ hx (⟨rfl,rfl,rfl⟩ | ⟨jS,rfl,rfl⟩)
  . dsimp only
    rw [if_neg (by omega)]
    simp only [Nat.sub_zero,Nat.min_self,Nat.zero_add]
    refine wpS_bind (lR C B (by omega) hn h1 h2 h3 ?_)
    dsimp only
    rw [if_pos (by omega)]
    refine wpS_bind (wpS_lift (wpAny_rule ⟨rfl,?_⟩))
    refine wpS_bind (tJ C B (by omega) (by omega) (by omega) ?_)
    simp only [Bool.not_true,Bool.false_eq_true,if_false]
    refine wpS_bind (wpS_get ?_)
    exact wpS_bind (wpS_modify (wpS_pure (.inr ⟨by omega,rfl,rfl⟩)))
  . dsimp only
    rw [if_pos (Nat.le_refl _)]
    exact wpS_pure ⟨rfl,rfl⟩
 case post=>
  rintro d aG ⟨rfl,rfl⟩
  dsimp only
  refine wpS_bind (wpS_mono (wpS_forRange (I:=λ_ d aO=>aO=aP κ it (bE c 0 (n-2) 2 p) #[(0,n,0)]/\d=(none,())) (Q:=λd aO=>aO=aP κ it (bE c 0 (n-2) 2 p) #[(0,n,0)]/\d=(none,())) ?_ (λ_ _ hh=>hh) ⟨rfl,rfl⟩) ?_)
  . rintro x d aO _ _ ⟨rfl,rfl⟩
    refine wpS_bind (wpS_get ?_)
    rw [if_pos (show (pendingOf (aP κ it (bE c 0 (n-2) 2 p) #[(0,n,0)])).size<=1 from Nat.le_refl 1)]
    exact wpS_pure ⟨rfl,rfl⟩
  . rintro d aO ⟨rfl,rfl⟩
    exact wpS_pure h
theorem E4 (C:dG prog w A s κ it N c){Q:Unit->SortSt->Prop}(B:fz N p) (hp:p.size=2) (h1:c (p.getD 1 0) (p.getD 0 0)=false)
 (h:Q () (aP κ it p #[(0,2,0)])):wpS (model prog w) A E s sortRuns' Q (aP κ it p #[]):=by
 rw [sortRuns'_eq]
 refine wpS_bind (wpS_get ?_)
 have hs:(arrOf (aP κ it p #[])).size=2:=by show (p.map it).size=2; rw [Array.size_map,hp]
 simp only [hs,nB (show 1<=2 by decide) (by decide)]
 refine wpS_bind (wpS_mono (wpS_forRange (I:=λx d aG=>(x=0/\d=(none,0)/\aG=aP κ it p #[])\/(1<=x/\d=(none,2)/\aG=aP κ it p #[(0,2,0)]))
  (Q:=λd aG=>d=(none,2)/\aG=aP κ it p #[(0,2,0)]) ?step ?fin (.inl ⟨rfl,rfl,rfl⟩)) ?post)
 case fin=>
  rintro d aG (⟨hx,_,_⟩ | ⟨_,hc,hD⟩)
  . omega
  . exact ⟨hc,hD⟩
 case step=>
  rintro x d aG _ hx (⟨rfl,rfl,rfl⟩ | ⟨jS,rfl,rfl⟩)
  . dsimp only
    rw [if_neg (by omega)]
    rw [countRun'_eq]
    refine wpS_bind (wpS_bind (wpS_mono (wpS_forRange (I:=λx d aG=>aG=aP κ it p #[]/\((x=1/\d=(none,1))\/(x=2/\d=(none,2)))) (Q:=λd aG=>aG=aP κ it p #[]/\d=(none,2)) ?cs ?cf ⟨rfl,.inl ⟨rfl,rfl⟩⟩) ?cp))
    case cf=>
     rintro d aG ⟨rfl,⟨e,rfl⟩ | ⟨e,rfl⟩⟩
     . omega
     . exact ⟨rfl,rfl⟩
    case cs=>
     rintro x d aG hx Si ⟨rfl,⟨rfl,rfl⟩ | ⟨rfl,rfl⟩⟩
     . refine wpS_bind (uJ C B (by omega) (by omega) ?_)
       rw [show 0+1-1=0 by omega,show 0+1=1 by omega,h1]
       exact wpS_pure ⟨rfl,.inr ⟨rfl,rfl⟩⟩
     . omega
    case cp=>
     rintro d aG ⟨rfl,rfl⟩
     refine wpS_pure ?_
     dsimp only
     rw [if_neg (by decide)]
     refine wpS_bind (wpS_get ?_)
     exact wpS_bind (wpS_modify (wpS_pure (.inr ⟨by omega,rfl,rfl⟩)))
  . dsimp only
    rw [if_pos (Nat.le_refl _)]
    exact wpS_pure ⟨rfl,rfl⟩
 case post=>
  rintro d aG ⟨rfl,rfl⟩
  dsimp only
  refine wpS_bind (wpS_mono (wpS_forRange (I:=λ_ d aO=>aO=aP κ it p #[(0,2,0)]/\d=(none,())) (Q:=λd aO=>aO=aP κ it p #[(0,2,0)]/\d=(none,())) ?_ (λ_ _ hh=>hh) ⟨rfl,rfl⟩) ?_)
  . rintro x d aO _ _ ⟨rfl,rfl⟩
    refine wpS_bind (wpS_get ?_)
    rw [if_pos (show (pendingOf (aP κ it p #[(0,2,0)])).size<=1 from Nat.le_refl 1)]
    exact wpS_pure ⟨rfl,rfl⟩
  . rintro d aO ⟨rfl,rfl⟩
    exact wpS_pure h
def two32 (c:Nat->Nat->Bool) (p:Array Nat):Array Nat:=bE c 32 30 2 (bE c 0 30 2 p)
def qD (c:Nat->Nat->Bool) (p:Array Nat):Array Nat:=DC (two32 c p) (cj ((two32 c p).extract 1 32) ((two32 c p).extract 32 63) 62)
theorem G1 (C:dG prog w A s κ it N c){Q:Unit->SortSt->Prop}(B:fz N p) (hp:p.size=64) (h1:c (p.getD 1 0) (p.getD 0 0)=false) (h2:c (p.getD 2 0) (p.getD 1 0)=true) (h3:c (p.getD 0 0) (p.getD 1 0)=true)
 (k1:c ((bE c 0 30 2 p).getD 33 0) ((bE c 0 30 2 p).getD 32 0)=false) (k2:c ((bE c 0 30 2 p).getD 34 0) ((bE c 0 30 2 p).getD 33 0)=true) (k3:c ((bE c 0 30 2 p).getD 32 0) ((bE c 0 30 2 p).getD 33 0)=true)
 (hA:∀i,i<32->c ((two32 c p).getD (32+i) 0) ((two32 c p).getD i 0)=false) (hB:∀i,i+1<32->c ((two32 c p).getD (32+i) 0) ((two32 c p).getD (i+1) 0)=true)
 (h:∀pd,Q () (aP κ it (qD c p) pd)):wpS (model prog w) A E s sortRuns' Q (aP κ it p #[]):=by
 rw [sortRuns'_eq]
 refine wpS_bind (wpS_get ?_)
 have hs:(arrOf (aP κ it p #[])).size=64:=by show (p.map it).size=64; rw [Array.size_map,hp]
 have hm:minRun' 64 64 0=32:=by decide +kernel
 simp only [hs,hm]
 have B1:fz N (bE c 0 30 2 p):=B.perm (iO ..)
 have s1:(bE c 0 30 2 p).size=64:=(iO c 0 30 2 p).size_eq.trans hp
 have B2:fz N (two32 c p):=B1.perm (iO ..)
 have s2:(two32 c p).size=64:=(iO c 32 30 2 _).size_eq.trans s1
 generalize AD:power' 64 (2*0+32) (2*0+32+32+32) 64=pw
 refine wpS_bind (wpS_mono (wpS_forRange (I:=λx d aG=>(x=0/\d=(none,0)/\aG=aP κ it p #[])\/(x=1/\d=(none,32)/\aG=aP κ it (bE c 0 30 2 p) #[(0,32,0)])\/(2<=x/\d=(none,64)/\aG=aP κ it (two32 c p) #[(0,32,pw),(32,32,0)]))
  (Q:=λd aG=>d=(none,64)/\aG=aP κ it (two32 c p) #[(0,32,pw),(32,32,0)]) ?step ?fin (.inl ⟨rfl,rfl,rfl⟩)) ?post)
 case fin=>
  rintro d aG (⟨hx,_,_⟩ | ⟨hx,_,_⟩ | ⟨_,hc,hD⟩)
  . omega
  . omega
  . exact ⟨hc,hD⟩
 case step=>
  rintro x d aG _ hx (⟨rfl,rfl,rfl⟩ | ⟨rfl,rfl,rfl⟩ | ⟨jS,rfl,rfl⟩)
  . dsimp only
    rw [if_neg (by omega)]
    refine wpS_bind (lR C B (by omega) (by omega) h1 h2 h3 ?_)
    dsimp only
    rw [if_pos (by omega)]
    refine wpS_bind (wpS_lift (wpAny_rule ⟨rfl,?_⟩))
    refine wpS_bind (tJ C B (show 0+32<=p.size by omega) (by omega) (show 2<=32 by omega) ?_)
    simp only [Bool.not_true,Bool.false_eq_true,if_false]
    refine wpS_bind (wpS_get ?_)
    exact wpS_bind (wpS_modify (wpS_pure (.inr (.inl ⟨trivial,rfl,rfl⟩))))
  . dsimp only
    rw [if_neg (by omega)]
    refine wpS_bind (lR C B1 (by omega) (by omega) k1 k2 k3 ?_)
    dsimp only
    rw [if_pos (by omega)]
    refine wpS_bind (wpS_lift (wpAny_rule ⟨rfl,?_⟩))
    refine wpS_bind (tJ C B1 (show 32+32<=(bE c 0 30 2 p).size by omega) (by omega) (show 2<=32 by omega) ?_)
    simp only [Bool.not_true,Bool.false_eq_true,if_false]
    refine wpS_bind (wpS_get ?_)
    refine wpS_bind (wpS_mono (wpS_forRange (I:=λ_ d aO=>aO=aP κ it (two32 c p) #[(0,32,0)]/\d=(none,())) (Q:=λd aO=>aO=aP κ it (two32 c p) #[(0,32,0)]/\d=(none,())) ?ws (λ_ _ hh=>hh) ⟨rfl,rfl⟩) ?wp)
    case ws=>
     rintro x d aO _ _ ⟨rfl,rfl⟩
     refine wpS_bind (wpS_get ?_)
     exact wpS_pure ⟨rfl,rfl⟩
    case wp=>
     rintro d aO ⟨rfl,rfl⟩
     refine wpS_bind (wpS_modify (wpS_bind (wpS_modify (wpS_pure (.inr (.inr ⟨by omega,rfl,?_⟩))))))
     rw [← AD]
     rfl
  . dsimp only
    rw [if_pos (Nat.le_refl _)]
    exact wpS_pure ⟨rfl,rfl⟩
 case post=>
  rintro d aG ⟨rfl,rfl⟩
  dsimp only
  refine wpS_bind (wpS_mono (wpS_forRange (I:=λx d aO=>d=(none,())/\((x=0/\aO=aP κ it (two32 c p) #[(0,32,pw),(32,32,0)])\/(1<=x/\aO=aP κ it (qD c p) #[(0,64,pw)]))) (Q:=λd aO=>aO=aP κ it (qD c p) #[(0,64,pw)]/\d=(none,())) ?ls ?lf ⟨rfl,.inl ⟨rfl,rfl⟩⟩) ?lp)
  case lf=>
   rintro d aO ⟨rfl,⟨hx,_⟩ | ⟨_,rfl⟩⟩
   . omega
   . exact ⟨rfl,rfl⟩
  case lp=>
   rintro d aO ⟨rfl,rfl⟩
   exact wpS_pure (h _)
  case ls=>
   rintro x d aO _ _ ⟨rfl,⟨rfl,rfl⟩ | ⟨jS,rfl⟩⟩
   . refine wpS_bind (wpS_get ?_)
     rw [if_neg (show ¬ (pendingOf (aP κ it (two32 c p) #[(0,32,pw),(32,32,0)])).size<=1 from by show ¬ (2<=1); decide)]
     refine wpS_bind (GZ (n:=32) C B2 s2 (by decide) hA hB ?_)
     simp only [Bool.not_true,Bool.false_eq_true,if_false]
     exact wpS_pure ⟨rfl,.inr ⟨by omega,rfl⟩⟩
   . refine wpS_bind (wpS_get ?_)
     rw [if_pos (show (pendingOf (aP κ it (qD c p) #[(0,64,pw)])).size<=1 from Nat.le_refl 1)]
     exact wpS_pure ⟨rfl,rfl⟩
end
end L2
namespace L2
open PySem PySem.Spec PyProof.Rows PySem.W
def j8 (h:Heap) (v:Value) (ns:List Int):Prop:=∃a o xs n,v=.ref a/\h.get? a=some o/\o.cls=.type "tuple" /\ o.data=.seq xs n/\IntsAre xs.toList ns
theorem j8.keep {h h':Heap}{v:Value}{ns:List Int}(x:j8 h v ns) (k:∀a o xs n,h.get? a=some o->o.cls=.type "tuple" -> o.data=.seq xs n->h'.get? a=some o):j8 h' v ns:=by
 obtain ⟨a,o,xs,n,e,h1,h2,h3,h4⟩:=x
 exact ⟨a,o,xs,n,e,k a o xs n h1 h2 h3,h2,h3,h4⟩
section
variable {prog:Program}{w:World}{A:Around}{E:Value->Shared->Prop}{s:Shared}{Q:Bool->Shared->Prop}
theorem E5 {a b:Int}{t u:Tok}(f:Bool) (h:Q (decide (a<b)) s):wpAny (model prog w) A (oneLt' f (.int a t) (.int b u)) Q E s:=by
 cases f with
 | true=>exact oneLt_int h
 | false=>exact kat_one _ _ (PyProof.Rows.lt_int h)
theorem oP:∀{xs ys:List Value}{as bs:List Int}(i:Nat),IntsAre xs as->IntsAre ys bs->as.length=bs.length->Q (HT.lexLt as bs) s->KatLex prog w A true false Q (xs.zip ys) i s
 | _,_,_,_,_,.nil,.nil,_,h=>h
 | _,_,_,_,_,.nil,.cons _ _ _,h,_=>nomatch h
 | _,_,_,_,_,.cons _ _ _,.nil,h,_=>nomatch h
 | _,_,_,_,i,.cons a t r,.cons b u r',hl,h=>by
  rw [HT.i7] at h
  refine kat_cons (wpAny_eqBool_int ?_)
  by_cases e:a=b
  . rw [if_pos e] at h
    have:(a == b)=true:=by simpa using e
    rw [this]
    exact kat_yes (oP (i+1) r r' (Nat.succ.inj hl) h)
  . rw [if_neg e] at h
    have:(a == b)=false:=by simpa using e
    rw [this]
    exact kat_no (E5 _ h)
theorem E6 {v u:Value}{as bs:List Int}(hv:j8 s.heap v as) (hu:j8 s.heap u bs) (hl:as.length=bs.length) (h:Q (HT.lexLt as bs) s):wpAny (model prog w) A (keyLt' (tuples' true) v u) Q E s:=by
 obtain ⟨a,o,xs,n,rfl,h1,_,h3,h4⟩:=hv
 obtain ⟨b,o2,ys,m,rfl,k1,_,k3,k4⟩:=hu
 refine kat_lt h1 h3 k1 k3 ?_
 have e1:=h4.length
 have e2:=k4.length
 rw [Array.length_toList] at e1 e2
 have:decide (xs.size<ys.size)=false:=decide_eq_false (by omega)
 rw [this]
 exact oP 0 h4 k4 hl h
end
theorem sL {h:Heap} : ∀{vs:List Value}{bs:List (List Int)},Paired (j8 h) vs bs->(∀b∈bs,b≠[])->∃fs,KatTups h vs fs/\fs.length=vs.length/\∀v∈fs,∃i t,v=Value.int i t
 | _,_,.nil,_=>⟨[],.nil,rfl,λ_ h=>nomatch h⟩
 | v::vs,b::bs,.cons hv t,hb=>by
  obtain ⟨fs,h1,h2,h3⟩:=sL t λx hx=>hb x (List.mem_cons_of_mem _ hx)
  obtain ⟨a,o,xs,n,rfl,k1,k2,k3,k4⟩:=hv
  have hn:=hb b List.mem_cons_self
  generalize hx:xs.toList=l at k4
  cases k4 with
  | nil=>exact absurd rfl hn
  | cons i t r=>
   refine ⟨.int i t::fs,KatTups.cons k1 k2 k3 ?_ h1,by rw [List.length_cons,List.length_cons,h2],λz hz=>?_⟩
   . rw [← Array.getElem?_toList,hx]
     rfl
   . rcases List.mem_cons.mp hz with rfl | hz
     . exact ⟨i,t,rfl⟩
     . exact h3 z hz
def G2 (vs:List Value) (i:Nat):Keyed:=(vs.getD i .none,vs.getD i .none)
theorem E7 (vs:List Value):vs.toArray.zip vs.toArray=((List.range vs.length).toArray).map (G2 vs):=by
 apply Array.ext
 . simp
 . intro i h1 h2
   simp at h1
   simp [G2,h1]
theorem i9 {α β:Type}{F:α->β->Prop}{d:α}{e:β} : ∀{jK:List α}{kh:List β},Paired F jK kh->∀i,i<jK.length->F (jK.getD i d) (kh.getD i e)
 | _,_,.nil,i,h=>absurd h (Nat.not_lt_zero _)
 | _,_,.cons h t,0,_=>by simpa using h
 | _,_,.cons h t,i+1,hi=>by simpa using i9 t i (by simpa using hi)
section
variable {prog:Program}{w:World}{A:Around}{E:Value->Shared->Prop}{s:Shared}
def jT (prog:Program) (w:World) (bs:List (List Int)) (q:Array Nat):Prop:=q.size=bs.length/\∀(A:Around) (E:Value->Shared->Prop) (s:Shared) (it:Nat->Keyed),dG prog w A s (tuples' true) it bs.length (λi j=>HT.lexLt (bs.getD i []) (bs.getD j []))->
 wpS (model prog w) A E s sortRuns' (λ_ aG=>arrOf aG=q.map it/\failedOf aG=none) (aP (tuples' true) it (List.range bs.length).toArray #[])
theorem AE {a:Addr}{vs:List Value}{bs:List (List Int)}{n k:Nat}{q:Array Nat}{P:Fin->Shared->Prop}(ho:s.heap.get? a=some (seqObj "list" vs.toArray n)) (hT:Paired (j8 s.heap) vs bs) (hk:∀b∈bs,b.length=k) (ME:1<=k) (h2:2<=vs.length) (xo:vs.length<=1000)
 (hq:jT prog w bs q) (h:P (.done (.ret .none)) { s with heap:=sortedHeap s.heap a vs (q.map λi=>vs.getD i .none) }) :
 wpAny (model prog w) A (Builtin.«list.sort» ⟨[.ref a],[]⟩) P E s:=by
 rw [list_sort_plain]
 have ha:a<s.heap.objs.size:=Heap.lt_size ho
 have lb:=hT.length
 refine wpAny_bind (listItems_at ho rfl ?_)
 refine wpAny_bind (listUpdate_at ho rfl ?_ (by rw [List.size_toArray,sizeLine_eq]; omega) (Nat.zero_le _))
 obtain ⟨e1,oQ⟩:∃e1,(s.heap.update a (Obj.mapSeq λ_=>#[])).get? a=some (seqObj "list" #[] e1):=⟨_,get?_update_seq ho (λ_=>#[])⟩
 refine wpAny_bind (seqEpoch_at oQ rfl ?_)
 refine wpAny_bind (wpAny_newTuple ?_ (by show vs.length<=_; rw [sizeLine_eq]; omega))
 refine wpAny_bind (wpAny_newList ?_ (Nat.zero_le _))
 refine wpAny_holding ?_
 have xp:(((s.heap.update a (Obj.mapSeq λ_=>#[])).push (seqObj "tuple" vs.toArray 0)).push (seqObj "list" #[] 0)).get? a=some (seqObj "list" #[] e1):=by
  rw [Heap.get?_push_ne _ _ _ (by rw [size_push',Heap.size_update]; exact Nat.ne_of_lt (Nat.lt_succ_of_lt ha)),Heap.get?_push_ne _ _ _ (by rw [Heap.size_update]; exact Nat.ne_of_lt ha)]
  exact oQ
 show wpAny (model prog w) A _ P E { s with heap:=((s.heap.update a (Obj.mapSeq λ_=>#[])).push (seqObj "tuple" vs.toArray 0)).push (seqObj "list" #[] 0) }
 dsimp only
 have ml:¬ vs.toArray.size<2:=by rw [List.size_toArray]; omega
 rw [if_neg ml,if_neg ml]
 have DD:Paired (j8 (((s.heap.update a (Obj.mapSeq λ_=>#[])).push (seqObj "tuple" vs.toArray 0)).push (seqObj "list" #[] 0))) vs bs:=Paired.cy hT λv b x=>x.keep λb o xs n h1 h2 h3=>by
  have nb:b≠a:=λe=>by
   rw [e,ho] at h1
   cases (Option.some.inj h1)
   exact absurd (Value.type.inj (show Value.type "list" = Value.type "tuple" from h2)) (by decide)
  refine Heap.get?_push_of_some _ (Heap.get?_push_of_some _ ?_)
  rw [(Heap.SameBut.update s.heap a (Obj.mapSeq λ_=>(#[]:Array Value))).2 b nb]
  exact h1
 generalize Sm:((s.heap.update a (Obj.mapSeq λ_=>#[])).push (seqObj "tuple" vs.toArray 0)).push (seqObj "list" #[] 0)=h6 at xp DD
 obtain ⟨fs,f1,f2,f3⟩:=sL DD (λb hb e=>by have:=hk b hb; rw [e] at this; simp at this; omega)
 refine wpAny_bind (kat_kind (M:=model prog w) (T:=.type "int") f1 (by omega) (λv hv=>?_) rfl ?_)
 . obtain ⟨i,t,rfl⟩:=f3 v hv
   exact Looks.of_pure rfl
 have hb:∀i,i<bs.length->(bs.getD i []).length=k:=λi hi=>hk _ (by simp [hi])
 have C:dG prog w A { s with heap:=h6 } (tuples' true) (G2 vs) bs.length (λi j=>HT.lexLt (bs.getD i []) (bs.getD j [])):=λi j hi hj E Q hQ=>
  E6 (i9 DD i (by omega)) (i9 DD j (by omega)) (by rw [hb i hi,hb j hj]) hQ
 have run:=hq.2 A E _ _ C
 rw [E7,lb]
 refine wpAny_bind (wpAny_mono run ?_ λ_ _ e=>e)
 rintro ⟨⟨⟩,aG⟩ s' ⟨rfl,Sn,hf⟩
 dsimp only
 have hsz:((arrOf aG).map (·.2))=q.map λi=>vs.getD i .none:=by
  rw [Sn,Array.map_map]
  rfl
 refine wpAny_bind (seqEpoch_at xp rfl ?_)
 refine wpAny_bind (listUpdate_at xp rfl ?_ (hsz2:=by rw [hsz,Array.size_map,hq.1,sizeLine_eq]; omega))
 have WK:(sortPriv% PySem.Builtin.SortState.failed) aG=none:=hf
 rw [hf]
 simp only [bne_self_eq_false,Bool.false_eq_true,if_false]
 refine wpAny_pure ?_
 rw [hsz,← Sm]
 exact h
theorem oR {l:Addr}{vs:List Value}{bs:List (List Int)}{k:Nat}{q:Array Nat}{Q:Value->Shared->Prop}(hl:s.heap.IsList l vs.toArray) (hT:Paired (j8 s.heap) vs bs) (hk:∀b∈bs,b.length=k) (ME:1<=k) (h2:2<=vs.length) (xo:vs.length<=1000)
 (hq:jT prog w bs q) (h:Q (.ref (s.heap.objs.size+1)) { s with heap:=sortedAll s.heap vs (q.map λi=>vs.getD i .none) }) :
 wpAny (model prog w) A (call (.builtin "sorted") [.ref l]) Q E s:=by
 refine Calls.call_function_entry kind_sorted plain_sorted entry_sorted (args_sorted1 _) ?_
 unfold Builtin.«sorted»
 refine wpAny_bind (m:=checkCount "sorted" 1 1 _) (wpAny_pure ?_)
 refine wpAny_bind (collect_list hl ?_ (by rw [sizeLine_eq]; omega))
 refine wpAny_bind (wpAny_newList ?_ (by rw [sizeLine_eq]; omega))
 have hsz:((s.heap.push (seqObj "list" #[] 0)).update s.heap.objs.size (Obj.mapSeq (· ++ vs.toArray))).objs.size=s.heap.objs.size+1:=by
  rw [Heap.size_update,size_push']
 have tU:(((s.heap.push (seqObj "list" #[] 0)).update s.heap.objs.size (Obj.mapSeq (· ++ vs.toArray))).push (seqObj "list" vs.toArray 0)).get? (s.heap.objs.size+1)=some (seqObj "list" vs.toArray 0):=by
  rw [← hsz]; exact Heap.get?_push_size _ rfl
 have keep:∀b o,s.heap.get? b=some o->(((s.heap.push (seqObj "list" #[] 0)).update s.heap.objs.size (Obj.mapSeq (· ++ vs.toArray))).push (seqObj "list" vs.toArray 0)).get? b=some o:=λb o hb=>by
  refine Heap.get?_push_of_some _ ?_
  rw [(Heap.SameBut.update _ _ _).2 b (Nat.ne_of_lt (Heap.lt_size hb))]
  exact Heap.get?_push_of_some _ hb
 show wpAny _ _ _ _ _ { s with heap:=((s.heap.push (seqObj "list" #[] 0)).update s.heap.objs.size (Obj.mapSeq (· ++ vs.toArray))).push (seqObj "list" vs.toArray 0) }
 rw [hsz]
 refine wpAny_bind (wpAny_holding (wpAny_call_entry slot_list_sort ⟨_,tU,rfl⟩ entry_list_sort (AE tU (Paired.cy hT λv b x=>x.keep λb o _ _ h1 _ _=>keep b o h1) hk ME h2 xo hq ⟨_,rfl,?_⟩) (args_list_sort _)))
 exact wpAny_pure ⟨_,rfl,h⟩
end
end L2
namespace L2
open PySem PySem.Spec PyProof.Rows PySem.W
def bh:Nat->List (List Int)
 | 0=>[[]]
 | k+1=>(bh k).map (· ++ [0])++(bh k).map (· ++ [1])
def cm:Nat->List (List Int)
 | 0=>[[]]
 | k+1=>(cm k).flatMap λr=>[r++[0],r++[1]]
def g7 (k:Nat):Bool:=(bh k).zipIdx.all λx=>(bh k).zipIdx.all λy=>HT.lexLt x.1 y.1 == cB k x.2 y.2
theorem AF:g7 1=true/\g7 2=true/\g7 3=true/\g7 4=true/\g7 5=true/\g7 6=true:=by decide +kernel
def p0 (k:Nat):Array Nat:=(List.range (2 ^ k)).toArray
def kQ:Nat->Array Nat
 | 0=>p0 0
 | 1=>p0 1
 | 6=>qD (cB 6) (p0 6)
 | k=>bE (cB k) 0 (2 ^ k-2) 2 (p0 k)
theorem xq:∀k∈[0,1,2,3,4,5,6],((kQ k).toList.map λi=>(bh k).getD i [])=cm k:=by decide +kernel
theorem cT (k:Nat):(bh k).length=2 ^ k:=by
 induction k with
 | zero=>rfl
 | succ k ih=>
  rw [bh,List.length_append,List.length_map,List.length_map,ih,Nat.pow_succ]
  omega
theorem jU (k:Nat):∀b∈bh k,b.length=k:=by
 induction k with
 | zero=>simp [bh]
 | succ k ih=>
  intro b hb
  rw [bh] at hb
  rcases List.mem_append.mp hb with h | h <;> (obtain ⟨r,hr,rfl⟩:=List.mem_map.mp h; rw [List.length_append,ih r hr]; rfl)
theorem pB {k i j:Nat}(h:g7 k=true) (hi:i<2 ^ k) (hj:j<2 ^ k):HT.lexLt ((bh k).getD i []) ((bh k).getD j [])=cB k i j:=by
 unfold g7 at h
 have mem:∀i,i<2 ^ k->((bh k).getD i [],i)∈(bh k).zipIdx:=λi hi=>by
  have hl:i<(bh k).length:=by rw [cT]; exact hi
  rw [List.mem_zipIdx_iff_getElem?]
  simp [hl]
 have h1:=List.all_eq_true.mp h _ (mem i hi)
 have h2:=List.all_eq_true.mp h1 _ (mem j hj)
 simpa using h2
theorem Co (k:Nat):fz (2 ^ k) (p0 k):=λi hi=>by
 unfold p0 at hi ⊢
 simp at hi
 simp [Array.getD,hi]
theorem dG.congr {prog:Program}{w:World}{A:Around}{s:Shared}{κ:SortKind}{it:Nat->Keyed}{N:Nat}{c c':Nat->Nat->Bool}(C:dG prog w A s κ it N c) (h:∀i j,i<N->j<N->c i j=c' i j):dG prog w A s κ it N c':=λi j hi hj E Q hQ=>C i j hi hj E Q (by rw [h i j hi hj]; exact hQ)
def gw (k:Nat):Bool:=!cB k 1 0 && (cB k 2 1 && cB k 0 1)
theorem AG:gw 2=true/\gw 3=true/\gw 4=true/\gw 5=true:=by decide +kernel
def DE:Bool:=gw 6 && (!cB 6 ((bE (cB 6) 0 30 2 (p0 6)).getD 33 0) ((bE (cB 6) 0 30 2 (p0 6)).getD 32 0) && (cB 6 ((bE (cB 6) 0 30 2 (p0 6)).getD 34 0) ((bE (cB 6) 0 30 2 (p0 6)).getD 33 0) && (cB 6 ((bE (cB 6) 0 30 2 (p0 6)).getD 32 0) ((bE (cB 6) 0 30 2 (p0 6)).getD 33 0) &&
 ((List.range 32).all (λi=>!cB 6 ((two32 (cB 6) (p0 6)).getD (32+i) 0) ((two32 (cB 6) (p0 6)).getD i 0)) && (List.range 31).all (λi=>cB 6 ((two32 (cB 6) (p0 6)).getD (32+i) 0) ((two32 (cB 6) (p0 6)).getD (i+1) 0))))))
theorem E8:DE=true:=by decide +kernel
theorem uL:∀k∈[0,1,2,3,4,5,6],(kQ k).size=2 ^ k:=by decide +kernel
section
variable {prog:Program}{w:World}
theorem iE {k:Nat}(ha:g7 k=true) (ho:gw k=true) (h3:3<=2 ^ k) (xo:2 ^ k<64) (hs:(bE (cB k) 0 (2 ^ k-2) 2 (p0 k)).size=2 ^ k):jT prog w (bh k) (bE (cB k) 0 (2 ^ k-2) 2 (p0 k)):=by
 refine ⟨by rw [cT]; exact hs,λA E s it C=>?_⟩
 rw [cT] at C ⊢
 have C':=C.congr λi j hi hj=>pB ha hi hj
 unfold gw at ho
 rw [Bool.and_eq_true,Bool.and_eq_true,Bool.not_eq_true'] at ho
 have g:∀i,i<2 ^ k->(p0 k).getD i 0=i:=λi hi=>by
  unfold p0
  simp [Array.getD,hi]
 refine AB C' (p:=p0 k) (n:=2 ^ k) (Co k) (by unfold p0; simp) h3 xo ?_ ?_ ?_ ⟨rfl,rfl⟩
 . rw [g 1 (by omega),g 0 (by omega)]; exact ho.1
 . rw [g 2 (by omega),g 1 (by omega)]; exact ho.2.1
 . rw [g 0 (by omega),g 1 (by omega)]; exact ho.2.2
theorem sM (k:Nat) (h1:1<=k) (h6:k<=6):jT prog w (bh k) (kQ k):=by
 obtain ⟨a1,a2,a3,a4,a5,a6⟩:=AF
 obtain ⟨b2,b3,b4,b5⟩:=AG
 have qs:=λk hk=>uL k hk
 rcases (show k=1\/k=2\/k=3\/k=4\/k=5\/k=6 by omega) with rfl | rfl | rfl | rfl | rfl | rfl
 . refine ⟨rfl,λA E s it C=>?_⟩
   have C':=C.congr λi j hi hj=>pB a1 hi hj
   exact E4 C' (p:=p0 1) (Co 1) rfl (by decide +kernel) ⟨rfl,rfl⟩
 . exact iE a2 b2 (by decide) (by decide) (qs 2 (by simp))
 . exact iE a3 b3 (by decide) (by decide) (qs 3 (by simp))
 . exact iE a4 b4 (by decide) (by decide) (qs 4 (by simp))
 . exact iE a5 b5 (by decide) (by decide) (qs 5 (by simp))
 . refine ⟨by rw [cT]; exact qs 6 (by simp),λA E s it C=>?_⟩
   rw [cT] at C ⊢
   have C':=C.congr λi j hi hj=>pB a6 hi hj
   have hb:=E8
   unfold DE gw at hb
   simp only [Bool.and_eq_true,Bool.not_eq_true',List.all_eq_true,List.mem_range] at hb
   obtain ⟨⟨c1,c2,c3⟩,d1,d2,d3,e1,e2⟩:=hb
   have g:∀i,i<2 ^ 6->(p0 6).getD i 0=i:=λi hi=>by
    unfold p0
    simp [Array.getD,hi]
   refine G1 C' (p:=p0 6) (Co 6) rfl ?_ ?_ ?_ d1 d2 d3 (λi hi=>e1 i hi) (λi hi=>e2 i (by omega)) λpd=>⟨rfl,rfl⟩
   . rw [g 1 (by decide),g 0 (by decide)]; exact c1
   . rw [g 2 (by decide),g 1 (by decide)]; exact c2
   . rw [g 0 (by decide),g 1 (by decide)]; exact c3
end
end L2
namespace L2
open PySem PySem.Spec PyProof.Rows PySem.W
section
variable {X:Cx}
theorem iV (h:Heap) (vs:List Value) (out:Array Value):∃n,(sortedAll h vs out).get? (h.objs.size+1)=some (seqObj "list" out n):=by
 unfold sortedAll sortedHeap
 have hsz:((h.push (seqObj "list" #[] 0)).update h.objs.size (Obj.mapSeq (· ++ vs.toArray))).objs.size=h.objs.size+1:=by rw [Heap.size_update,size_push']
 have h1:(((h.push (seqObj "list" #[] 0)).update h.objs.size (Obj.mapSeq (· ++ vs.toArray))).push (seqObj "list" vs.toArray 0)).get? (h.objs.size+1)=some (seqObj "list" vs.toArray 0):=by
  rw [← hsz]; exact Heap.get?_push_size _ rfl
 exact ⟨_,get?_update_seq (Heap.get?_push_of_some _ (Heap.get?_push_of_some _ (get?_update_seq h1 λ_=>#[]))) λ_=>out⟩
theorem il {h:Heap}{vs:List Value}{out:Array Value}{b:Addr}{o:Obj}(hb:h.get? b=some o):(sortedAll h vs out).get? b=some o:=by
 have lt:=Heap.lt_size hb
 have So:b≠h.objs.size:=Nat.ne_of_lt lt
 have ne1:b≠h.objs.size+1:=Nat.ne_of_lt (Nat.lt_succ_of_lt lt)
 unfold sortedAll sortedHeap
 rw [(Heap.SameBut.update _ _ _).2 b ne1]
 refine Heap.get?_push_of_some _ (Heap.get?_push_of_some _ ?_)
 rw [(Heap.SameBut.update _ _ _).2 b ne1]
 refine Heap.get?_push_of_some _ ?_
 rw [(Heap.SameBut.update _ _ _).2 b So]
 exact Heap.get?_push_of_some _ hb
theorem rE {pins:List (Addr×Obj)}{σ:St}{H:Hp}{s:Shared}(I:Inv X pins σ H s):∀{ts:List Addr}{vs:List Value}{bs:List (List Int)},Vals (ts.map V.ref) vs->Paired (λt b=>aT X.K H t (b.map V.int)) ts bs->Paired (j8 s.heap) vs bs
 | [],vs,_,r,.nil=>by
  rw [List.map_nil] at r
  cases r
  exact .nil
 | t::ts,vs,b::bs,r,.cons h p=>by
  rw [List.map_cons] at r
  cases r with
  | cons r1 r2=>
   cases r1
   obtain ⟨its,rv,⟨o,h1,h2,n,h3⟩,_⟩:=I.tuple h
   exact .cons ⟨t,o,_,n,rfl,h1,h2,h3,intsAre_of rv⟩ (rE I r2 p)
theorem uM {ts:List Addr}{i:Nat}{d:Addr}(h:i<ts.length):(ts.map V.ref).getD i .aX=.ref (ts.getD i d):=by simp [h]
theorem E9 {xs:List V}{vs:List Value}(r:Vals xs vs){i:Nat}(h:i<xs.length):RelV (xs.getD i .aX) (vs.getD i .none):=by
 obtain ⟨w',e,kE⟩:=r.get (i:=i) (List.getElem?_eq_getElem h)
 have e1:vs.getD i .none=w':=by simp [e]
 have e2:xs.getD i .aX=xs[i]:=by simp [h]
 rw [e1,e2]
 exact kE
theorem pC {xs:List V}{vs:List Value}(r:Vals xs vs):∀{l:List Nat},(∀i∈l,i<xs.length)->Vals (l.map λi=>xs.getD i .aX) (l.map λi=>vs.getD i .none)
 | [],_=>.nil
 | i::l,h=>.cons (E9 r (h i List.mem_cons_self)) (pC r λj hj=>h j (List.mem_cons_of_mem _ hj))
theorem lS {α β:Type}{F:α->β->Prop}{d:α}{e:β}{jK:List α}{kh:List β}(p:Paired F jK kh):∀{l:List Nat},(∀i∈l,i<jK.length)->Paired F (l.map λi=>jK.getD i d) (l.map λi=>kh.getD i e)
 | [],_=>.nil
 | i::l,h=>.cons (i9 p i (h i List.mem_cons_self)) (lS p λj hj=>h j (List.mem_cons_of_mem _ hj))
theorem G3:∀k∈[0,1,2,3,4,5,6],((kQ k).toList.all λi=>Nat.blt i (2 ^ k))=true:=by decide +kernel
theorem uN:eD X (.builtin "sorted") (λxs H Q=>∃p ts k,xs=[.ref p]/\ay X.K H p (ts.map V.ref)/\Paired (λt b=>aT X.K H t (b.map V.int)) ts (bh k)/\1<=k/\k<=6/\
 ∀D oS,H D=none->Paired (λt b=>aT X.K H t (b.map V.int)) oS (cm k)->Q (.ref D) (upd H D (.lst (oS.map V.ref)))):=by
 intro pins s σ H xs us Q I r h
 obtain ⟨p,ts,k,rfl,hp,hb,h1,h6,q⟩:=h
 obtain ⟨u,rfl,rx⟩:=vals1 r
 cases (show u=Value.ref p from rx)
 obtain ⟨its,rv,pl,hz⟩:=I.list hp
 have l1:=rv.length
 rw [List.length_map] at l1
 have l2:=hb.length
 rw [cT] at l2
 have hk:k∈[0,1,2,3,4,5,6]:=by
  rcases (show k=1\/k=2\/k=3\/k=4\/k=5\/k=6 by omega) with rfl | rfl | rfl | rfl | rfl | rfl <;> simp
 have two:2<=2 ^ k/\2 ^ k<=64:=by
  rcases (show k=1\/k=2\/k=3\/k=4\/k=5\/k=6 by omega) with rfl | rfl | rfl | rfl | rfl | rfl <;> decide
 have eG:∀i∈(kQ k).toList,i<2 ^ k:=λi hi=>by
  have:=List.all_eq_true.mp (G3 k hk) i hi
  rwa [Nat.blt_eq] at this
 refine oR (k:=k) (q:=kQ k) pl.isList (rE I rv hb) (jU k) h1 (by omega) (by omega) (sM k h1 h6) ?_
 obtain ⟨n,hn⟩:=iV s.heap its ((kQ k).map λi=>its.getD i .none)
 have iK:=lS (d:=0) (e:=[]) hb (l:=(kQ k).toList) (λi hi=>by have:=eG i hi; omega)
 rw [xq k hk] at iK
 refine ⟨.ref (s.heap.objs.size+1),_,I.laid (t':=s.toks) (o:=.lst (((kQ k).toList.map λi=>ts.getD i 0).map V.ref)) (λb o hb=>il hb) (by omega) ?_,rfl,q _ _ (I.hok.fresh (by omega)) iK⟩
 refine ⟨?_,((kQ k).map λi=>its.getD i .none).toList,n,?_,?_⟩
 . rw [List.length_map,List.length_map,Array.length_toList,uL k hk,sizeLine_eq]
   omega
 . have v:=pC rv (l:=(kQ k).toList) (λi hi=>by rw [List.length_map]; have:=eG i hi; omega)
   rw [Array.toList_map]
   have e:((kQ k).toList.map λi=>ts.getD i 0).map V.ref=(kQ k).toList.map λi=>(ts.map V.ref).getD i .aX:=by
    rw [List.map_map]
    refine List.map_congr_left λi hi=>?_
    show V.ref (ts.getD i 0)=_
    exact (uM (by have:=eG i hi; omega)).symm
   rw [e]
   exact v
 . rw [Array.toArray_toList]
   exact hn
def tK (K:W.Frag):R2:=λx y H Q=>∃a b xs ys,x=.ref a/\y=.ref b/\aT K H a xs/\aT K H b ys/\ys≠[]/\xs.length+ys.length<=sizeLine/\(xs=[]->Q (.ref b) H)/\(xs≠[]->∀p,H p=none->Q (.ref p) (upd H p (.tup (xs++ys))))
theorem xr:di X (binaryOp .Add) (tK X.K):=by
 intro pins s σ H x y v u Q I rx ry h
 obtain ⟨a,b,xs,ys,rfl,rfl,ha,hb,hy,hz,q1,q2⟩:=h
 by_cases hx:xs=[]
 . cases rx
   cases ry
   obtain ⟨its,r1,p1,_⟩:=I.tuple ha
   obtain ⟨j5,r2,p2,_⟩:=I.tuple hb
   obtain ⟨⟨cls,dd,data,sl⟩,ho,hc,n,hd⟩:=id p1
   obtain ⟨⟨OB,Dj,data2,wX⟩,qh,zS,n2,hd2⟩:=id p2
   simp only at hc hd zS hd2
   subst hc hd zS hd2
   have he:its=[]:=r1.oa.mpr hx
   exact concat_meets ⟨_,ho,rfl⟩ ⟨_,qh,rfl⟩ noFill_tuple_add seq_tuple_add PySem.F.slot_tuple_add PySem.F.entry_tuple_add (PySem.F.args_tuple_add_2 _ _)
    (tuple_addW0 a b its.toArray j5.toArray n n2 dd Dj sl wX (by simp [he])) ⟨ho,qh,⟨.ref b,H,I,rfl,q1 hx⟩⟩
 . exact ES pins s σ H _ _ v u Q I rx ry ⟨a,b,xs,ys,rfl,rfl,ha,hb,hx,hz,λe=>absurd e hy,λ_=>q2 hx⟩
end
end L2
namespace L2
open PySem PySem.Spec PyProof.Rows PySem.W
section
variable {prog:Program}{w:World}{A:Around}{E:Value->Shared->Prop}{s:Shared}
theorem Cp {a:Addr}{vs:List Value}{n:Nat}{P:Fin->Shared->Prop}(ho:s.heap.get? a=some (seqObj "list" vs.toArray n)) (h2:vs.length<2) (h:P (.done (.ret .none)) { s with heap:=sortedHeap s.heap a vs vs.toArray }) :
 wpAny (model prog w) A (Builtin.«list.sort» ⟨[.ref a],[]⟩) P E s:=by
 rw [list_sort_plain]
 have ha:a<s.heap.objs.size:=Heap.lt_size ho
 refine wpAny_bind (listItems_at ho rfl ?_)
 refine wpAny_bind (listUpdate_at ho rfl ?_ (by rw [List.size_toArray,sizeLine_eq]; omega) (Nat.zero_le _))
 obtain ⟨e1,oQ⟩:∃e1,(s.heap.update a (Obj.mapSeq λ_=>#[])).get? a=some (seqObj "list" #[] e1):=⟨_,get?_update_seq ho (λ_=>#[])⟩
 refine wpAny_bind (seqEpoch_at oQ rfl ?_)
 refine wpAny_bind (wpAny_newTuple ?_ (by show vs.length<=_; rw [sizeLine_eq]; omega))
 refine wpAny_bind (wpAny_newList ?_ (Nat.zero_le _))
 refine wpAny_holding ?_
 have xp:(((s.heap.update a (Obj.mapSeq λ_=>#[])).push (seqObj "tuple" vs.toArray 0)).push (seqObj "list" #[] 0)).get? a=some (seqObj "list" #[] e1):=
  Heap.get?_push_of_some _ (Heap.get?_push_of_some _ oQ)
 show wpAny (model prog w) A _ P E { s with heap:=((s.heap.update a (Obj.mapSeq λ_=>#[])).push (seqObj "tuple" vs.toArray 0)).push (seqObj "list" #[] 0) }
 dsimp only
 have ml:vs.toArray.size<2:=by rw [List.size_toArray]; omega
 rw [if_pos ml,if_pos ml]
 refine wpAny_bind (wpAny_pure ?_)
 rw [StateT.run_pure]
 refine wpAny_bind (wpAny_pure ?_)
 dsimp only
 have hsz:((vs.toArray.zip vs.toArray).map (·.2))=vs.toArray:=by
  apply Array.ext
  . simp
  . intro i h1 h2
    simp
 refine wpAny_bind (seqEpoch_at xp rfl ?_)
 show wpAny _ _ (Builtin.List.listUpdate (.ref a) (λ_=>((vs.toArray.zip vs.toArray).map (·.2))) >>= _) _ _ _
 rw [hsz]
 refine wpAny_bind (listUpdate_at xp rfl ?_ (hsz2:=by rw [List.size_toArray,sizeLine_eq]; omega))
 simp only [bne_self_eq_false,Bool.false_eq_true,if_false]
 exact wpAny_pure h
theorem yA {l:Addr}{vs:List Value}{Q:Value->Shared->Prop}(hl:s.heap.IsList l vs.toArray) (h2:vs.length<2) (h:Q (.ref (s.heap.objs.size+1)) { s with heap:=sortedAll s.heap vs vs.toArray }) :
 wpAny (model prog w) A (call (.builtin "sorted") [.ref l]) Q E s:=by
 refine Calls.call_function_entry kind_sorted plain_sorted entry_sorted (args_sorted1 _) ?_
 unfold Builtin.«sorted»
 refine wpAny_bind (m:=checkCount "sorted" 1 1 _) (wpAny_pure ?_)
 refine wpAny_bind (collect_list hl ?_ (by rw [sizeLine_eq]; omega))
 refine wpAny_bind (wpAny_newList ?_ (by rw [sizeLine_eq]; omega))
 have hsz:((s.heap.push (seqObj "list" #[] 0)).update s.heap.objs.size (Obj.mapSeq (· ++ vs.toArray))).objs.size=s.heap.objs.size+1:=by
  rw [Heap.size_update,size_push']
 have tU:(((s.heap.push (seqObj "list" #[] 0)).update s.heap.objs.size (Obj.mapSeq (· ++ vs.toArray))).push (seqObj "list" vs.toArray 0)).get? (s.heap.objs.size+1)=some (seqObj "list" vs.toArray 0):=by
  rw [← hsz]; exact Heap.get?_push_size _ rfl
 show wpAny _ _ _ _ _ { s with heap:=((s.heap.push (seqObj "list" #[] 0)).update s.heap.objs.size (Obj.mapSeq (· ++ vs.toArray))).push (seqObj "list" vs.toArray 0) }
 rw [hsz]
 refine wpAny_bind (wpAny_holding (wpAny_call_entry slot_list_sort ⟨_,tU,rfl⟩ entry_list_sort (Cp tU h2 ⟨_,rfl,?_⟩) (args_list_sort _)))
 exact wpAny_pure ⟨_,rfl,h⟩
end
theorem pD:∀{b c:List Int},b.map V.int=c.map V.int->b=c
 | [],[],_=>rfl
 | [],_::_,h=>nomatch h
 | _::_,[],h=>nomatch h
 | x::b,y::c,h=>by
  rw [List.map_cons,List.map_cons] at h
  have h1:=List.cons.inj h
  rw [V.int.inj h1.1,pD h1.2]
section
variable {X:Cx}
theorem uO:eD X (.builtin "sorted") (λxs H Q=>∃p ts k,xs=[.ref p]/\ay X.K H p (ts.map V.ref)/\Paired (λt b=>aT X.K H t (b.map V.int)) ts (bh k)/\k<=6/\
 ∀D oS,H D=none->Paired (λt b=>aT X.K H t (b.map V.int)) oS (cm k)->Q (.ref D) (upd H D (.lst (oS.map V.ref)))):=by
 intro pins s σ H xs us Q I r h
 obtain ⟨p,ts,k,rfl,hp,hb,h6,q⟩:=h
 by_cases hk:k=0
 . subst hk
   obtain ⟨u,rfl,rx⟩:=vals1 r
   cases (show u=Value.ref p from rx)
   obtain ⟨its,rv,pl,hz⟩:=I.list hp
   have l1:=rv.length
   rw [List.length_map] at l1
   have l2:=hb.length
   rw [cT] at l2
   obtain ⟨n,hn⟩:=iV s.heap its its.toArray
   refine yA pl.isList (by omega) ⟨.ref (s.heap.objs.size+1),_,I.laid (t':=s.toks) (o:=.lst (ts.map V.ref)) (λb o hb=>il hb) (by omega) ⟨hz,its,n,rv,hn⟩,rfl,q _ ts (I.hok.fresh (by omega)) hb⟩
 . exact uN pins s σ H _ us Q I r ⟨p,ts,k,rfl,hp,hb,by omega,h6,q⟩
open Classical in
def OS (K:W.Frag):R2:=λx y H Q=>∃(t p:Addr) (b:List Int) (ts:List Addr) (bs:List (List Int)),x=.ref t/\y=.ref p/\aT K H t (b.map V.int)/\ay K H p (ts.map V.ref)/\Paired (λt b=>aT K H t (b.map V.int)) ts bs/\Q (.bl (decide (b∈bs))) H
theorem Fc {A:Around}{pins:List (Addr×Obj)}{σ:St}{H:Hp}{s:Shared}(I:Inv X pins σ H s) (hu:A.units+1<cLine){t u:Addr}{b c:List Int}(ht:aT X.K H t (b.map V.int)) (AH:aT X.K H u (c.map V.int)):SeqAt.EqAt A s (.ref t) (.ref u) (decide (b=c)):=by
 by_cases e:t=u
 . subst e
   have e2:b=c:=pD (I.mY ht AH)
   rw [decide_eq_true e2]
   exact SeqAt.EqAt.same _
 . refine SeqAt.EqAt.of_refs e ?_
   obtain ⟨its,rv,pl,_⟩:=I.tuple ht
   obtain ⟨its',qE,xt,_⟩:=I.tuple AH
   have l1:=rv.length
   have l2:=qE.length
   rw [List.length_map] at l1 l2
   have key:=SeqAt.RcAt.tuples (A:=A) (s:=s) (e:=λj=>decide (b.getD j 0=c.getD j 0)) pl xt (by omega) (λj g1 g2=>?_)
   . have e3:((List.range (min its.toArray.size its'.toArray.size)).all (λj=>decide (b.getD j 0=c.getD j 0)) && its.toArray.size == its'.toArray.size)=decide (b=c):=by
      rw [Bool.eq_iff_iff,Bool.and_eq_true,decide_eq_true_eq,List.all_eq_true]
      simp only [List.size_toArray,beq_iff_eq,List.mem_range,decide_eq_true_eq]
      constructor
      . rintro ⟨h1,h2⟩
        apply List.ext_getElem (by omega)
        intro i g1 g2
        have:=h1 i (by omega)
        simpa [g1,g2] using this
      . rintro rfl
        exact ⟨λ_ _=>rfl,by omega⟩
     rw [← e3]
     exact key
   . simp only [List.size_toArray] at g1 g2
     have hj:j<b.length:=by omega
     have MF:j<c.length:=by omega
     obtain ⟨w1,e1,r1⟩:=rv.get (x:=.int b[j]) (by rw [List.getElem?_map,List.getElem?_eq_getElem hj]; rfl)
     obtain ⟨w2,e2,r2⟩:=qE.get (x:=.int c[j]) (by rw [List.getElem?_map,List.getElem?_eq_getElem MF]; rfl)
     have z:=nu (A:=A.in1) (s:=s) r1 r2 rfl rfl
     have a1:its.toArray[j]=w1:=by
      have:=(List.getElem?_eq_some_iff.mp e1).2
      simpa using this
     have a2:its'.toArray[j]=w2:=by
      have:=(List.getElem?_eq_some_iff.mp e2).2
      simpa using this
     rw [a1,a2]
     have e4:gp (.int b[j]) (.int c[j])=decide (b.getD j 0=c.getD j 0):=by
      simp [gp,hj,MF]
      rfl
     rw [← e4]
     exact z
theorem uP {A:Around}{pins:List (Addr×Obj)}{σ:St}{H:Hp}{s:Shared}(I:Inv X pins σ H s) (hu:A.units+1<cLine){t:Addr}{b:List Int}(ht:aT X.K H t (b.map V.int)) (f:Value->Bool) (hf:∀u c,aT X.K H u (c.map V.int)->f (.ref u)=decide (c=b)):∀{ts:List Addr}{vs:List Value}{bs:List (List Int)},Vals (ts.map V.ref) vs->Paired (λt b=>aT X.K H t (b.map V.int)) ts bs->(∀v∈vs,SeqAt.EqAt A s v (.ref t) (f v))/\vs.any f=bs.any λc=>decide (c=b)
 | [],vs,_,r,.nil=>by
  rw [List.map_nil] at r
  cases r
  exact ⟨(λ_ h=>nomatch h),rfl⟩
 | u::ts,vs,c::bs,r,.cons h p=>by
  rw [List.map_cons] at r
  cases r with
  | cons r1 r2=>
   cases r1
   obtain ⟨h1,h2⟩:=uP I hu ht f hf r2 p
   refine ⟨λv hv=>?_,?_⟩
   . rcases List.mem_cons.mp hv with rfl | hv
     . rw [hf u c h]
       exact Fc I hu h ht
     . exact h1 v hv
   . rw [List.any_cons,List.any_cons,h2,hf u c h]
open Classical in
theorem Sq (hu:X.A.units+2<cLine):di X (compareOp .In) (OS X.K):=by
 intro pins s σ H x y v u Q I rx ry h
 obtain ⟨t,p,b,ts,bs,rfl,rfl,ht,hp,hb,q⟩:=h
 cases (show v=Value.ref t from rx)
 cases (show u=Value.ref p from ry)
 obtain ⟨its,rv,pl,hz⟩:=I.list hp
 have hf:∀u c,aT X.K H u (c.map V.int)->(λv:Value=>decide (∃u,v=.ref u/\aT X.K H u (b.map V.int))) (.ref u)=decide (c=b):=λu c hc=>by
  show decide _=decide _
  congr 1
  refine propext ⟨?_,?_⟩
  . rintro ⟨u',e,h'⟩
    cases e
    exact pD (I.mY hc h')
  . rintro rfl
    exact ⟨u,rfl,hc⟩
 obtain ⟨m1,m2⟩:=uP (A:=X.A.in1) I (by show X.A.in1.units+1<cLine; exact hu) ht (λv:Value=>decide (∃u,v=.ref u/\aT X.K H u (b.map V.int))) hf rv hb
 refine SeqAt.in_listAt _ pl.isList (λw hw=>m1 w (by simpa using hw)) ⟨.bl _,H,I,rfl,?_⟩
 have e:its.toArray.any (λv:Value=>decide (∃u,v=.ref u/\aT X.K H u (b.map V.int)))=decide (b∈bs):=by
  rw [show its.toArray.any (λv:Value=>decide (∃u,v=.ref u/\aT X.K H u (b.map V.int)))=its.any (λv:Value=>decide (∃u,v=.ref u/\aT X.K H u (b.map V.int))) by simp,m2,Bool.eq_iff_iff,List.any_eq_true,decide_eq_true_eq]
  constructor
  . rintro ⟨c,hc,e⟩
    exact of_decide_eq_true e ▸ hc
  . intro h
    exact ⟨b,h,by simp⟩
 rw [e]
 exact q
end
end L2
namespace L2
open PySem PySem.Spec PyProof.Rows
mutual
inductive Dp (K:W.Frag) (H:Hp):V->PyData->Prop
 | aX:Dp K H .aX .none
 | bl (b):Dp K H (.bl b) (.bool b)
 | int (i):Dp K H (.int i) (.int i)
 | str (x):Dp K H (.str x) (.str x)
 | lst {a xs ds} : ay K H a xs->sN K H xs ds->Dp K H (.ref a) (.list ds)
 | tup {a xs ds} : aT K H a xs->sN K H xs ds->Dp K H (.ref a) (.tuple ds)
inductive sN (K:W.Frag) (H:Hp):List V->List PyData->Prop
 | nil:sN K H [] []
 | cons {x d xs ds} : Dp K H x d->sN K H xs ds->sN K H (x::xs) (d::ds)
end
section
variable {X:Cx}{pins:List (Addr×Obj)}{σ:St}{H:Hp}{s:Shared}
theorem sN.get {K:W.Frag}{H:Hp} : ∀{xs:List V}{ds:List PyData}{i:Nat}{d:PyData},sN K H xs ds->ds[i]?=some d->∃x,xs[i]?=some x/\Dp K H x d
 | _,_,_,_,.nil,e=>by simp at e
 | _,_,0,_,.cons h _,e=>by simp at e; subst e; exact ⟨_,rfl,h⟩
 | _,_,i+1,_,.cons _ t,e=>by
  obtain ⟨x,h1,h2⟩:=sN.get (i:=i) t (by simpa using e)
  exact ⟨x,by simpa using h1,h2⟩
abbrev dT (b:List Int):PyData:=.tuple (b.map PyData.int)
theorem Fd {l:List PyData}(h:∀d∈l,d.canLay0=true):PyData.canLayAll0 l=true:=by
 induction l with
 | nil=>rfl
 | cons d l ih=>rw [PyData.canLayAll0,h d List.mem_cons_self,ih λe he=>h e (List.mem_cons_of_mem _ he)]; rfl
theorem Fe {l:List PyData}{n:Nat}(h:∀d∈l,d.depth<=n):PyData.depthAll l<=n:=by
 induction l with
 | nil=>exact Nat.zero_le _
 | cons d l ih=>rw [PyData.depthAll]; exact Nat.max_le.mpr ⟨h d List.mem_cons_self,ih λe he=>h e (List.mem_cons_of_mem _ he)⟩
end
end L2
namespace L2
open PySem PySem.Spec PyProof.Rows
section
variable {X:Cx}
def OT (K:W.Frag) (neg:Bool):R2:=λx y H Q=>∃(p p':Addr) (xs:List V),x=.ref p/\y=.ref p'/\ay K H p xs/\ay K H p' []/\Q (.bl (if neg=true then !xs.isEmpty else xs.isEmpty)) H
theorem G4 (hu:X.A.units<cLine):di X (compareOp .Eq) (OT X.K false):=by
 intro pins s σ H x y v u Q I rx ry h
 obtain ⟨p,p',xs,rfl,rfl,h1,h2,q⟩:=h
 cases (show v=Value.ref p from rx)
 cases (show u=Value.ref p' from ry)
 obtain ⟨its,rv,pl,hz⟩:=I.list h1
 obtain ⟨its',qE,xt,uv⟩:=I.list h2
 have l1:=rv.length
 have l2:=qE.length
 cases xs with
 | nil=>
  have key:=SeqAt.RcAt.lists (A:=X.A) (s:=s) (e:=λ_=>true) pl.isList xt.isList (by simp only [List.size_toArray]; omega) hu (λj g1 g2=>by simp only [List.size_toArray,List.length_nil] at g1 l1; omega) X.prog X.w X.xe
  refine key _ ?_
  rw [show ((List.range its.toArray.size).all λ_=>true)=true by simp]
  exact ⟨.bl true,H,I,rfl,q⟩
 | cons a xs=>
  have key:=SeqAt.RcAt.lists_lengths (A:=X.A) (s:=s) pl.isList xt.isList (by simp only [List.size_toArray,List.length_cons,List.length_nil] at l1 l2 ⊢; rw [← l1,← l2]; rfl) hu X.prog X.w X.xe
  exact key _ ⟨.bl false,H,I,rfl,q⟩
end
end L2
namespace L2
open PySem PySem.Spec PyProof.Rows
inductive Tr where
 | leaf (b:Bool) | node (n:Str) (l r:Tr)
 deriving DecidableEq
def Tr.dep:Tr->Nat
 | .leaf _=>0
 | .node _ l r=>max l.dep r.dep+1
def cZ (h:Heap):Tr->Value->Prop
 | .leaf b,v=>v=.bool b
 | .node n l r,v=>∃a o k t vl vr,v=.ref a/\h.get? a=some o/\o.cls=.type "tuple" /\ o.data=.seq #[.str n t,vl,vr] k/\cZ h l vl/\cZ h r vr
def jV (w:World):Tr->Int
 | .leaf b=>reduceHash (if b=true then 1 else 0)
 | .node n l r=>reduceHash (Builtin.Tuple.tupleHashOf [hashStr w n,jV w l,jV w r])
def iP:Tr->Nat
 | .leaf _=>1
 | .node _ l r=>1+iP l+iP r+1
theorem cZ.inj {h:Heap} : ∀{x y:Tr}{v:Value},cZ h x v->cZ h y v->x=y
 | .leaf _,.leaf _,_,e1,e2=>by
  rw [show _=Value.bool _ from e1] at e2
  injection (show Value.bool _=Value.bool _ from e2) with e
  rw [e]
 | .leaf _,.node ..,_,e1,⟨_,_,_,_,_,_,e2,_⟩=>by
  rw [show _=Value.bool _ from e1] at e2
  cases e2
 | .node ..,.leaf _,_,⟨_,_,_,_,_,_,e2,_⟩,e1=>by
  rw [show _=Value.bool _ from e1] at e2
  cases e2
 | .node ..,.node ..,_,⟨a,o,k,t,vl,vr,e,g,_,d,hl,hr⟩,⟨a',o',k',t',Sr,Ss,e',g',_,d',qu,AI⟩=>by
  rw [e] at e'
  injection e' with ea
  subst ea
  rw [g] at g'
  injection g' with eo
  subst eo
  rw [d] at d'
  injection d' with e1 e2
  have MG:=congrArg Array.toList e1
  simp only [List.cons.injEq,and_true] at MG
  obtain ⟨q1,q2,q3⟩:=MG
  injection q1 with n1 _
  subst n1 q2 q3
  rw [cZ.inj hl qu,cZ.inj hr AI]
theorem cZ.keep {h h':Heap}(k:∀a o its n,h.get? a=some o->o.cls=.type "tuple" -> o.data=.seq its n->h'.get? a=some o):∀{t:Tr}{v:Value},cZ h t v->cZ h' t v
 | .leaf _,_,e=>e
 | .node ..,_,⟨a,o,n,t,vl,vr,e,g,c,d,hl,hr⟩=>⟨a,o,n,t,vl,vr,e,k _ _ _ _ g c d,c,d,hl.keep k,hr.keep k⟩
section
variable {prog:Program}{w:World}{E:Value->Shared->Prop}
theorem cZ.hash:∀(t:Tr) (v:Value) (A:Around) (s:Shared) (Q:Int->Shared->Prop),cZ s.heap t v->A.units+t.dep<cLine->Q (jV w t) { s with toks:=s.toks+iP t } -> wpAny (model prog w) A (pyHash v) Q E s
 | .leaf b,v,A,s,Q,e,hu,q=>by
  cases (show v=.bool b from e)
  refine W.pyHash_slot (T:="bool") rfl PySem.F.slot_bool_hash entry_int_hash (args_int_hash _) (beq_builtin_none _) (.inr (by omega)) ?_
  cases b
  . exact (show wpAny _ _ (do ret (← mkInt 0)) _ _ s from wpAny_bind (wpAny_mkInt (wpAny_pure ⟨_,_,rfl,q⟩)))
  . exact (show wpAny _ _ (do ret (← mkInt 1)) _ _ s from wpAny_bind (wpAny_mkInt (wpAny_pure ⟨_,_,rfl,q⟩)))
 | .node n l r,v,A,s,Q,⟨a,o,k,t,vl,vr,e,g,c,d,hl,hr⟩,hu,q=>by
  subst e
  have AH:A.units+(max l.dep r.dep+1)<cLine:=hu
  refine W.pyHash_slot (T:="tuple") ⟨o,g,c⟩ PySem.F.slot_tuple_hash PySem.F.entry_tuple_hash (PySem.F.args_tuple_hash_1 _) (beq_builtin_none _) (.inr (by omega)) ?_
  show wpAny _ _ (Builtin.Tuple.tupleItemsOf (.ref a) >>= _) _ _ s
  refine wpAny_bind (wpAny_tupleItemsOf g d (wpAny_bind ?_))
  rw [← Array.forIn_toList]
  refine wpAny_forIn_list _ (λrest (b:Array Int) z=>(rest=[.str n t,vl,vr]/\b = #[]/\z=s)\/(rest=[vl,vr]/\b = #[hashStr w n]/\z = { s with toks:=s.toks+1 })\/(rest=[vr]/\b = #[hashStr w n,jV w l]/\z = { s with toks:=s.toks+(1+iP l) })\/(rest=[]/\b = #[hashStr w n,jV w l,jV w r]/\z = { s with toks:=s.toks+(1+iP l+iP r) })) _ ?_ ?_ _ _ (.inl ⟨rfl,rfl,rfl⟩)
  . rintro x rest b z (⟨e1,rfl,rfl⟩ | ⟨e1,rfl,rfl⟩ | ⟨e1,rfl,rfl⟩ | ⟨e1,_⟩)
    . injection e1 with e1 e2
      subst e1 e2
      exact wpAny_bind (wpAny_pyHash_str (wpAny_pure (.inr (.inl ⟨rfl,rfl,rfl⟩))))
    . injection e1 with e1 e2
      subst e1 e2
      exact wpAny_bind (cZ.hash l _ _ _ _ hl (by simp only [Around.in1_units]; omega) (wpAny_pure (.inr (.inr (.inl ⟨rfl,rfl,by simp only [Nat.add_assoc]⟩)))))
    . injection e1 with e1 e2
      subst e1 e2
      exact wpAny_bind (cZ.hash r _ _ _ _ hr (by simp only [Around.in1_units]; omega) (wpAny_pure (.inr (.inr (.inr ⟨rfl,rfl,by simp only [Nat.add_assoc]⟩)))))
    . cases e1
  . rintro b z (⟨e1,_⟩ | ⟨e1,_⟩ | ⟨e1,_⟩ | ⟨_,rfl,rfl⟩)
    . cases e1
    . cases e1
    . cases e1
    . exact (show wpAny _ _ (retInt _) _ _ _ from wpAny_bind (wpAny_mkInt (wpAny_pure ⟨_,_,rfl,by simpa only [Nat.add_assoc,iP,jV] using q⟩)))
theorem cZ.calm:∀(t:Tr) (v:Value) (k:Nat) (A:Around) (s:Shared) (Q:Bool->Shared->Prop),cZ s.heap t v->t.dep<=k->Q true s->wpAny (model prog w) A (eqIsQuiet k v) Q E s
 | .leaf b,v,k,A,s,Q,e,_,q=>by
  cases (show v=.bool b from e)
  rw [eqIsQuiet_byValue _ rfl]
  exact wpAny_pure q
 | .node n l r,v,0,A,s,Q,_,hk,_=>absurd hk (Nat.not_succ_le_zero _)
 | .node n l r,v,k+1,A,s,Q,⟨a,o,m,t,vl,vr,e,g,c,d,hl,hr⟩,hk,q=>by
  subst e
  have kI:max l.dep r.dep+1<=k+1:=hk
  have hT:s.TypeIs (.ref a) "tuple":=⟨o,g,c⟩
  unfold eqIsQuiet
  refine wpAny_bind (wpAny_specialOf hT PySem.F.slot_tuple_eq.lookup ?_)
  show wpAny _ _ (isInstance (.ref a) (.type "tuple") >>= _) _ _ s
  refine wpAny_bind (wpAny_isInstance hT isSubtype_tuple_tuple ?_)
  simp only [Bool.not_true,Bool.false_eq_true,if_false]
  refine wpAny_bind (wpAny_seqItems g d (wpAny_bind ?_))
  show wpAny _ _ (forIn #[Value.str n t,vl,vr] _ _) _ _ s
  rw [← Array.forIn_toList]
  refine wpAny_forIn_list _ (λrest x z=>x.1=none/\z=s/\(rest=[.str n t,vl,vr]\/rest=[vl,vr]\/rest=[vr]\/rest=[])) _ ?_ ?_ _ _ ⟨rfl,rfl,.inl rfl⟩
  . rintro x rest b z ⟨hb,rfl,e1 | e1 | e1 | e1⟩
    . injection e1 with e1 e2
      subst e1 e2
      rw [eqIsQuiet_byValue _ rfl]
      refine wpAny_bind (wpAny_pure ?_)
      rw [if_neg (show ¬ (!true)=true by decide)]
      exact wpAny_pure ⟨rfl,rfl,.inr (.inl rfl)⟩
    . injection e1 with e1 e2
      subst e1 e2
      refine wpAny_bind (cZ.calm l _ k _ _ _ hl (by omega) ?_)
      rw [if_neg (show ¬ (!true)=true by decide)]
      exact wpAny_pure ⟨rfl,rfl,.inr (.inr (.inl rfl))⟩
    . injection e1 with e1 e2
      subst e1 e2
      refine wpAny_bind (cZ.calm r _ k _ _ _ hr (by omega) ?_)
      rw [if_neg (show ¬ (!true)=true by decide)]
      exact wpAny_pure ⟨rfl,rfl,.inr (.inr (.inr rfl))⟩
    . cases e1
  . rintro ⟨r1,r2⟩ z ⟨hb,rfl,_⟩
    simp only at hb
    subst hb
    exact wpAny_pure q
end
def Tr.pd:Tr->PyData
 | .leaf b=>.bool b
 | .node n l r=>.tuple [.str n,l.pd,r.pd]
def Tr.xu:Tr->Prop
 | .leaf _=>True
 | .node n l r=>PyData.strOk n=true/\l.xu/\r.xu
theorem Tr.qF:∀t:Tr,t.xu->t.pd.canLay0=true
 | .leaf _,_=>rfl
 | .node n l r,⟨h1,h2,h3⟩=>by
  rw [Tr.pd,PyData.canLay0]
  refine Fd λd hd=>?_
  have:d=.str n\/d=l.pd\/d=r.pd:=by simpa using hd
  rcases this with rfl | rfl | rfl
  . rw [PyData.canLay0]
    exact h1
  . exact l.qF h2
  . exact r.qF h3
theorem Tr.uQ:∀t:Tr,t.pd.depth<=t.dep
 | .leaf _=>Nat.le_refl _
 | .node n l r=>by
  rw [Tr.pd,PyData.depth,Tr.dep]
  have hl:=l.uQ
  have hr:=r.uQ
  have:PyData.depthAll [.str n,l.pd,r.pd]<=max l.dep r.dep:=Fe λd hd=>by
   have:d=.str n\/d=l.pd\/d=r.pd:=by simpa using hd
   rcases this with rfl | rfl | rfl
   . exact Nat.zero_le _
   . omega
   . omega
  omega
theorem Tr.uR:∀x y:Tr,PyData.eqv x.pd y.pd=decide (x=y)
 | .leaf a,.leaf b=>by
  rw [Tr.pd,Tr.pd,PyData.eqv,Bool.eq_iff_iff,decide_eq_true_eq]
  simp
 | .leaf _,.node ..=>by rw [decide_eq_false (by intro z; cases z)]; rfl
 | .node ..,.leaf _=>by rw [decide_eq_false (by intro z; cases z)]; rfl
 | .node n l r,.node n' l' r'=>by
  rw [Tr.pd,Tr.pd,PyData.eqv]
  have h1:=Tr.uR l l'
  have h2:=Tr.uR r r'
  have h3:PyData.eqv (.str n) (.str n')=decide (n=n'):=by rw [PyData.eqv,Bool.eq_iff_iff,decide_eq_true_eq]; simp
  simp only [PyData.eqvAll,h1,h2,h3,Bool.and_true]
  rw [Bool.eq_iff_iff]
  simp
theorem cZ.reads {h:Heap} : ∀{t:Tr}{v:Value},cZ h t v->∃as,Reads h v t.pd as
 | .leaf b,v,e=>by cases (show v=.bool b from e); exact ⟨_,.bool b⟩
 | .node ..,_,⟨a,o,k,t,vl,vr,e,g,c,d,hl,hr⟩=>by
  subst e
  obtain ⟨as,ra⟩:=hl.reads
  obtain ⟨bs,rb⟩:=hr.reads
  exact ⟨_,.tuple g c d (.cons (.str _ _) (.cons ra (.cons rb .nil)))⟩
def nE (prog:Program) (w:World):HeapKind prog w Tr where
 is:=λh t a=>cZ h t (.ref a)/\t.dep<=8/\t.xu
 hash:=jV w
 draws:=iP
 room:=λA=>A.units+16<cLine
 inj:=λhx hy=>hx.1.inj hy.1
 keeps:=λhk g d sb=>by
  refine ⟨hk.1.keep λa o its n ga _ da=>sb.extBut a o (λe=>?_) ga,hk.2⟩
  subst e
  rw [ga] at g
  injection g with eo
  subst eo
  rw [da] at d
  cases d
 pyHash:=λ{A E s k a Q} hu hk q=>cZ.hash k (.ref a) A s Q hk.1 (by have:=hk.2.1; omega) q
 eqBool:=λ{A E s x y a b Q} hu hx hy q=>by
  obtain ⟨as,ra⟩:=hx.1.reads
  obtain ⟨bs,rb⟩:=hy.1.reads
  have d1:=x.uQ
  have h8:=hx.2.1
  have z:=SeqAt.eqAt_reads x.pd y.pd A s _ _ as bs ra rb (x.qF hx.2.2) (y.qF hy.2.2) (by omega)
  rw [Tr.uR] at z
  exact z prog w E Q q
 quiet:=λ{A E s k a Q} hk q=>cZ.calm k (.ref a) 8 A s Q hk.1 hk.2.1 q
end L2
namespace L2
open PySem PySem.Spec PyProof.Rows
def fZ (L:List (Tr×Addr×V)) (t:Tr):Option V:=(L.find? λp=>decide (p.1=t)).map (·.2.2)
abbrev pE (L:List (Tr×Addr×V)) (vs:List (Tr×Addr×Value)):Prop:=Paired (λp q=>p.1=q.1/\p.2.1=q.2.1/\RelV p.2.2 q.2.2) L vs
def DF (P:Program) (w:World) (a:Addr) (L:List (Tr×Addr×V)) (h:Heap):Prop:=
 L.length<=sizeLine/\(a == sysModules)=false/\∃vs,pE L vs/\∃o es ep,h.get? a=some o/\o.ExactDict/\o.data=.dict es ep/\es.toList=vs.map (entryOfKey (nE P w))/\(vs.map (·.1)).Nodup
def iX (P:Program) (w:World) (a:Addr) (L:List (Tr×Addr×V)):HO:=.ext (DF P w a L)
theorem AJ {P:Program}{w:World}{H:Hp}{h:Heap}{a:Addr}{L:List (Tr×Addr×V)}(x:DF P w a L h):bg P w H h a (iX P w a L):=by
 refine ⟨x,?_,λh1 h2 y k=>?_⟩
 . obtain ⟨_,_,vs,_,o,_,_,g,_⟩:=x
   exact ⟨o,g⟩
 . obtain ⟨y0,y1,vs,y2,o,es,ep,g,r⟩:=y
   exact ⟨y0,y1,vs,y2,o,es,ep,k o g,r⟩
def cL (H:Hp):Tr->V->Prop
 | .leaf b,v=>v=.bl b
 | .node n l r,v=>∃a vl vr,v=.ref a/\H a=some (.tup [.str n,vl,vr])/\cL H l vl/\cL H r vr
theorem cL.keep {H H':Hp}(k:∀a xs,H a=some (.tup xs)->H' a=some (.tup xs)):∀{t:Tr}{v:V},cL H t v->cL H' t v
 | .leaf _,_,e=>e
 | .node ..,_,⟨a,vl,vr,e,g,hl,hr⟩=>⟨a,vl,vr,e,k _ _ g,hl.keep k,hr.keep k⟩
theorem cL.at {P:Program}{w:World}{H:Hp}{h:Heap}(ok:cY P w H h):∀{t:Tr}{v:V}{u:Value},cL H t v->RelV v u->cZ h t u
 | .leaf b,v,u,e,r=>by
  cases (show v=.bl b from e)
  exact r
 | .node n l r,v,u,⟨a,vl,vr,e,g,hl,hr⟩,ru=>by
  subst e
  cases (show u=.ref a from ru)
  obtain ⟨_,its,rv,o,h1,h2,k,h3⟩:=(show bg P w H h a (.tup [.str n,vl,vr]) from ok a _ g)
  cases rv with
  | cons r1 rv=>
   cases rv with
   | cons r2 rv=>
    cases rv with
    | cons r3 rv=>
     cases rv
     obtain ⟨t,rfl⟩:=r1
     exact ⟨a,o,k,t,_,_,rfl,h1,h2,h3,hl.at ok r2,hr.at ok r3⟩
structure iq (H:Hp) (t:Tr) (b:Addr):Prop where
 at_:cL H t (.ref b)
 d8:t.dep<=8
 sk:t.xu
theorem iq.keep {H H':Hp}{t:Tr}{b:Addr}(h:iq H t b) (k:∀a xs,H a=some (.tup xs)->H' a=some (.tup xs)):iq H' t b:=⟨h.at_.keep k,h.d8,h.sk⟩
theorem pE.len {L:List (Tr×Addr×V)}{vs:List (Tr×Addr×Value)}(r:pE L vs):L.length=vs.length:=Paired.length r
theorem pE.look {L:List (Tr×Addr×V)}{vs:List (Tr×Addr×Value)}(r:pE L vs) (t:Tr):dQ (fZ L t) ((atKey vs t).map (·.2)):=by
 unfold fZ atKey
 induction r with
 | nil=>exact True.intro
 | @cons p q ps qs h _ ih=>
  by_cases e:p.1=t
  . rw [List.find?_cons_of_pos (by simpa using e),List.find?_cons_of_pos (by simpa using h.1.symm.trans e)]
    exact h.2.2
  . rw [List.find?_cons_of_neg (by simpa using e),List.find?_cons_of_neg (by simpa using λz=>e (h.1.trans z))]
    exact ih
theorem DG {P:Program}{w:World}{H:Hp}{h:Heap}{a:Addr}{L:List (Tr×Addr×V)}(ok:cY P w H h) (e:H a=some (iX P w a L)) (hk:∀p∈L,iq H p.1 p.2.1) :
 L.length<=sizeLine/\(a == sysModules)=false/\∃vs,pE L vs/\h.DictOfH (nE P w) a vs:=by
 obtain ⟨⟨y0,y1,vs,y2,o,es,ep,g,x1,x2,x3,x4⟩,_⟩:=(show bg P w H h a (.ext (DF P w a L)) from ok a _ e)
 refine ⟨y0,y1,vs,y2,o,es,ep,g,x1,x2,x3,λx hx=>?_,x4⟩
 have all:∀{l:List (Tr×Addr×V)}{m:List (Tr×Addr×Value)},pE l m->(∀p∈l,iq H p.1 p.2.1)->∀x∈m,(nE P w).is h x.1 x.2.1:=by
  intro l m q
  induction q with
  | nil=>intro _ x hx; exact nomatch hx
  | @cons p q ps qs hq _ ih=>
   intro hk x hx
   rcases List.mem_cons.mp hx with e | hx
   . subst e
     have:=hk p List.mem_cons_self
     rw [hq.1,hq.2.1] at this
     exact ⟨this.at_.at ok rfl,this.d8,this.sk⟩
   . exact ih (λp h=>hk p (List.mem_cons_of_mem _ h)) x hx
 exact all y2 hk x hx
section
variable {X:Cx}{o i value e:Expr}{pos pos' apos df:Pos}{td ty tv:TE}
def Kr (P:Program) (w:World):TE:=λ_ H Q=>∀p,H p=none->Q (.ref p) (upd H p (iX P w p []))
theorem Cq:PE X (.Dict [] [] pos) (Kr X.prog X.w):=λpins s σ H Q I h=>
 wpAny_Dict_empty ⟨.ref s.heap.objs.size,_,I.laid (a:=s.heap.objs.size) (o:=iX X.prog X.w s.heap.objs.size []) (t':=s.toks) (λ_ _ q=>Heap.get?_push_of_some _ q) (Nat.le_refl _)
  (AJ ⟨Nat.zero_le _,beq_eq_false_iff_ne.mpr (Ne.symm (Nat.ne_of_lt I.big)),[],.nil,_,#[],0,Heap.get?_push_size _ rfl,⟨rfl,rfl,rfl⟩,rfl,rfl,List.nodup_nil⟩),rfl,h _ (I.hok.fresh (Nat.le_refl _))⟩
def Ks (P:Program) (w:World) (td ty:TE):TE:=λσ H Q=>td σ H λx H1=>∃a L,x=.ref a/\H1 a=some (iX P w a L)/\ty σ H1 λy H2=>∃t b,y=.ref b/\H2 a=some (iX P w a L)/\iq H2 t b/\(∀p∈L,iq H2 p.1 p.2.1)/\Q ((fZ L t).getD .aX) H2
theorem Ff (hu:X.A.units+17<cLine) (ho:PE X o td) (he:PE X e ty) (m:M1 X o "get" apos e df):PE X (.Call (.Attribute o "get" apos) [e] [] df) (Ks X.prog X.w td ty):=by
 intro pins s σ H Q I h
 refine wpAny_Call_method m.base m.qg m.line PySem.F.plainAttrs_dict PySem.F.slot_dict_get PySem.F.type_dict_get (aH (ho pins s σ H _ I h) λu s1 ⟨x,H1,I1,rx,a,L,ex,ea,q1⟩=>?_)
 subst ex
 obtain rfl:u=Value.ref a:=rx
 obtain ⟨⟨_,y1,vs,_,ob,es,ep,g,x1,_⟩,_⟩:=(show bg X.prog X.w H1 s1.heap a (.ext (DF X.prog X.w a L)) from I1.hok a _ ea)
 refine ⟨⟨ob,g,x1.1⟩,λb q=>by cases q; exact ⟨ob,g,x1.2.1⟩,?_⟩
 rw [m.trees]
 refine Calls.callWith_builtin rfl (Calls.evalArgs_plain (Calls.spliced_cons (aH (he pins s1 σ H1 _ I1 q1) λiv s2 ⟨y,H2,I2,ry,t,b,ey,Su,kt,kl,q2⟩=>Calls.spliced_nil ?_)))
 subst ey
 cases (show iv=Value.ref b from ry)
 obtain ⟨_,hd,ws,rel,dd⟩:=DG I2.hok Su kl
 refine call_meetsIn PySem.F.slot_dict_get dd.typeIs PySem.F.entry_dict_get (PySem.F.args_dict_get_2 _ _) (meetsH_dict_get (nE X.prog X.w) a b hd) ⟨(show X.A.in1.units+16<cLine by simp only [Around.in1_units]; omega),t,ws,⟨kt.at_.at I2.hok rfl,kt.d8,kt.sk⟩,dd,⟨_,H2,I2.tok _,?_,q2⟩⟩
 exact (rel.look t).getD rfl
def Kt (P:Program) (w:World) (td ty tv:TE):TS:=λD σ H=>tv σ H λv H1=>td σ H1 λx H2=>ty σ H2 λy H3=>∃a L t b,x=.ref a/\y=.ref b/\H3 a=some (iX P w a L)/\iq H3 t b/\(∀p∈L,iq H3 p.1 p.2.1)/\fZ L t=none/\L.length<sizeLine/\D.nx σ (upd H3 a (iX P w a (L++[(t,b,v)])))
theorem Fg (hu:X.A.units+17<cLine) (ho:PE X o td) (hi:PE X i ty) (hv:PE X value tv) (hs:swapsWith value (some (.Subscript o i pos')) pos.line X.env=pure false) :
 PS X (.Assign [.Subscript o i pos'] value pos) (Kt X.prog X.w td ty tv):=by
 intro pins s σ H D I h
 refine wpAny_Assign_Subscript (aH (hv pins s σ H _ I h) λr s1 ⟨v,H1,I1,rv,q1⟩=>aH (ho pins s1 σ H1 _ I1 q1) λu s2 ⟨x,H2,I2,rx,q2⟩=>aH (hi pins s2 σ H2 _ I2 q2) λiv s3 ⟨y,H3,I3,ry,a,L,t,b,ex,ey,ea,kt,kl,hn,hl,q3⟩=>?_) hs
 subst ex ey
 obtain rfl:u=Value.ref a:=rx
 cases (show iv=Value.ref b from ry)
 obtain ⟨hz,hd,ws,rel,dd⟩:=DG I3.hok ea kl
 have AK:atKey ws t=none:=by
  have:=rel.look t
  rw [hn] at this
  cases e:atKey ws t with
  | none=>rfl
  | some p=>rw [e] at this; exact this.elim
 refine wpAny_setItem_heap (hsz:=by rw [← rel.len]; exact hz) (show X.A.in1.units+16<cLine by simp only [Around.in1_units]; omega) (show (nE X.prog X.w).is _ t b from ⟨kt.at_.at I3.hok rfl,kt.d8,kt.sk⟩) dd λh' pZ sb=>?_
 obtain ⟨q,es,ep,g,x1,x2,x3,_,x5⟩:=pZ
 rw [storedH_new AK] at x3 x5
 refine ⟨σ,_,n9 I3 (by rw [ea]; exact True.intro) sb ⟨q,g⟩ (AJ ⟨by rw [List.length_append]; exact hl,hd,ws++[(t,b,r)],Paired.snoc rel ⟨rfl,rfl,rv⟩,q,es,ep,g,x1,x2,x3,x5⟩),q3⟩
end
end L2
namespace Gen
open PySem L2
theorem gx {α β:Type}{F:α->β->Prop} : ∀{jK:List α}{kh:List β}{i:Nat}{b:β},Paired F jK kh->kh[i]?=some b->∃a,jK[i]?=some a/\F a b
 | _,_,i,b,.nil,h=>by simp at h
 | _,_,0,b,.cons h t,e=>⟨_,rfl,by simpa using (show _=_ from Option.some.inj e) ▸ h⟩
 | _,_,i+1,b,.cons h t,e=>let ⟨a,h1,h2⟩:=gx t (i:=i) (b:=b) (by simpa using e); ⟨a,by simpa using h1,h2⟩
theorem b0 {α β:Type}{F:α->β->Prop} : ∀{jK m₁:List α}{kh m₂:List β},Paired F jK kh->Paired F m₁ m₂->Paired F (jK++m₁) (kh++m₂)
 | _,_,_,_,.nil,h=>h
 | _,_,_,_,.cons a t,h=>.cons a (b0 t h)
def ev (e:Str->Bool):Tr->Bool
 | .leaf b=>b
 | .node n l r=>if e n then ev e r else ev e l
inductive cq:List Str->Tr->Prop
 | leaf (ns:List Str) (b:Bool):cq ns (.leaf b)
 | node {n:Str}{r:List Str}{l h:Tr} : l≠h->cq r l->cq r h->cq (n::r) (.node n l h)
 | skip {n:Str}{r:List Str}{t:Tr} : cq r t->cq (n::r) t
def put (e:Str->Bool) (n:Str) (b:Bool):Str->Bool:=λz=>if z=n then b else e z
theorem fE {ns:List Str}{t:Tr}(h:cq ns t){n:Str}(hn:n∉ns) (e:Str->Bool) (b:Bool):ev (put e n b) t=ev e t:=by
 induction h with
 | leaf=>rfl
 | @node k r l h _ _ _ Sv Sw=>
  rw [List.mem_cons,not_or] at hn
  unfold ev
  rw [Sv hn.2,Sw hn.2]
  have:put e n b k=e k:=if_neg λq=>hn.1 q.symm
  rw [this]
 | @skip k r t _ ih=>
  rw [List.mem_cons,not_or] at hn
  exact ih hn.2
theorem eY:∀{ns:List Str}{t t':Tr},ns.Nodup->cq ns t->cq ns t'->(∀e,ev e t=ev e t')->t=t'
 | [],_,_,_,.leaf _ a,.leaf _ b,h=>by rw [show a=b from h λ_=>true]
 | n::r,t,t',hn,h1,h2,h=>by
  rw [List.nodup_cons] at hn
  have split:∀{l u x:Tr},cq r l->cq r u->cq r x->(∀e,ev e (.node n l u)=ev e x)->l=u:=λ{l u x} cl cu cx hh=>by
   have e1:l=x:=eY hn.2 cl cx λe=>by
    have:=hh (put e n false)
    rw [fE cx hn.1] at this
    rw [← this,ev,show put e n false n=false from if_pos rfl,if_neg (by decide),fE cl hn.1]
   have e2:u=x:=eY hn.2 cu cx λe=>by
    have:=hh (put e n true)
    rw [fE cx hn.1] at this
    rw [← this,ev,show put e n true n=true from if_pos rfl,if_pos rfl,fE cu hn.1]
   rw [e1,e2]
  have both:∀{l u l' u':Tr},cq r l->cq r u->cq r l'->cq r u'->(∀e,ev e (.node n l u)=ev e (.node n l' u'))->l=l'/\u=u':=λ{l u l' u'} cl cu xw DH hh=>by
   refine ⟨eY hn.2 cl xw λe=>?_,eY hn.2 cu DH λe=>?_⟩
   . have:=hh (put e n false)
     rw [ev,ev,show put e n false n=false from if_pos rfl,if_neg (by decide),if_neg (by decide),fE cl hn.1,fE xw hn.1] at this
     exact this
   . have:=hh (put e n true)
     rw [ev,ev,show put e n true n=true from if_pos rfl,if_pos rfl,if_pos rfl,fE cu hn.1,fE DH hn.1] at this
     exact this
  cases h1 with
  | leaf _ a=>
   cases h2 with
   | leaf _ b=>rw [show a=b from h λ_=>true]
   | node ne cl cu=>exact absurd (split cl cu (.leaf r a) λe=>(h e).symm) ne
   | skip c=>exact eY hn.2 (.leaf r a) c h
  | node ne cl cu=>
   cases h2 with
   | leaf _ b=>exact absurd (split cl cu (.leaf r b) h) ne
   | node ne' xw DH=>
    obtain ⟨q1,q2⟩:=both cl cu xw DH h
    rw [q1,q2]
   | skip c=>exact absurd (split cl cu c h) ne
  | skip c=>
   cases h2 with
   | leaf _ b=>exact eY hn.2 c (.leaf r b) h
   | node ne cl cu=>exact absurd (split cl cu c λe=>(h e).symm) ne
   | skip c'=>exact eY hn.2 c c' h
theorem eZ {ns:List Str}{t:Tr}(h:cq ns t):t.dep<=ns.length:=by
 induction h with
 | leaf=>exact Nat.zero_le _
 | node _ _ _ i1 i2=>unfold Tr.dep; rw [List.length_cons]; omega
 | skip _ i=>rw [List.length_cons]; omega
theorem Fh {ns:List Str}{t:Tr}(h:cq ns t) (hs:∀n∈ns,PyData.strOk n=true):t.xu:=by
 induction h with
 | leaf=>exact True.intro
 | node _ _ _ i1 i2=>exact ⟨hs _ List.mem_cons_self,i1 λn h=>hs n (List.mem_cons_of_mem _ h),i2 λn h=>hs n (List.mem_cons_of_mem _ h)⟩
 | skip _ i=>exact i λn h=>hs n (List.mem_cons_of_mem _ h)
theorem G5 {a b:List Str}{t:Tr}(h:cq b t):cq (a++b) t:=by
 induction a with
 | nil=>exact h
 | cons n a ih=>exact .skip ih
theorem eO {ns:List Str}{i j:Nat}{t:Tr}(h:cq (ns.drop j) t) (WL:i<=j):cq (ns.drop i) t:=by
 have e:ns.drop j=(ns.drop i).drop (j-i):=by rw [List.drop_drop]; congr 1; omega
 rw [e] at h
 rw [← List.take_append_drop (j-i) (ns.drop i)]
 exact G5 h
def neg:Tr->Tr
 | .leaf b=>.leaf (!b)
 | .node n l r=>.node n (neg l) (neg r)
abbrev Nd:=Nat×Nat×Nat
def au (N:List Nd) (i:Nat):Nat:=(N.getD i (0,0,0)).1
def low (N:List Nd) (i:Nat):Nat:=(N.getD i (0,0,0)).2.1
def cM (N:List Nd) (i:Nat):Nat:=(N.getD i (0,0,0)).2.2
def ak (TS:List Tr) (i:Nat):Tr:=TS.getD i (.leaf false)
structure FS (names:List Str) (N:List Nd) (TS:List Tr):Prop where
 len:N.length=TS.length
 two:2<=N.length
 z0:N.getD 0 (0,0,0)=(names.length,0,0)
 z1:N.getD 1 (0,0,0)=(names.length,1,1)
 t0:ak TS 0=.leaf false
 t1:ak TS 1=.leaf true
 nd:∀i,2<=i->i<N.length->au N i<names.length/\low N i<i/\cM N i<i/\low N i≠cM N i/\au N i<au N (low N i)/\au N i<au N (cM N i)/\ak TS i=.node (names.getD (au N i) "") (ak TS (low N i)) (ak TS (cM N i))
 uq:∀i j,2<=i->2<=j->i<N.length->j<N.length->N.getD i (0,0,0)=N.getD j (0,0,0)->i=j
section
variable {names:List Str}{N:List Nd}{TS:List Tr}
theorem FS.inj (h:FS names N TS) (hn:names.Nodup):∀i j,i<N.length->j<N.length->ak TS i=ak TS j->i=j:=by
 intro i
 induction i using Nat.strongRecOn with
 | ind i ih=>
  intro j hi hj e
  have tL:∀k,k<2->ak TS k=.leaf (decide (k=1)):=λk hk=>by
   rcases (show k=0\/k=1 by omega) with rfl | rfl
   . exact h.t0
   . exact h.t1
  by_cases i2:i<2
  . by_cases j2:j<2
    . rw [tL i i2,tL j j2] at e
      injection e with e
      rcases (show i=0\/i=1 by omega) with rfl | rfl <;> rcases (show j=0\/j=1 by omega) with rfl | rfl <;> first | rfl | (revert e; decide)
    . rw [tL i i2,(h.nd j (by omega) hj).2.2.2.2.2.2] at e
      cases e
  . by_cases j2:j<2
    . rw [tL j j2,(h.nd i (by omega) hi).2.2.2.2.2.2] at e
      cases e
    . obtain ⟨a1,a2,a3,_,_,_,a7⟩:=h.nd i (by omega) hi
      obtain ⟨b1,b2,b3,_,_,_,b7⟩:=h.nd j (by omega) hj
      rw [a7,b7] at e
      injection e with e1 e2 e3
      have q2:=ih _ a2 _ (by omega) (by omega) e2
      have q3:=ih _ a3 _ (by omega) (by omega) e3
      have q1:au N i=au N j:=by
       rw [List.getD_eq_getElem?_getD,List.getD_eq_getElem?_getD,List.getElem?_eq_getElem a1,List.getElem?_eq_getElem b1] at e1
       exact (List.getElem_inj hn).mp e1
      refine h.uq i j (by omega) (by omega) hi hj ?_
      exact Prod.ext q1 (Prod.ext q2 q3)
theorem FS.Rw (h:FS names N TS){i:Nat}(hi:i<N.length):au N i<=names.length:=by
 by_cases i2:i<2
 . unfold au
   rcases (show i=0\/i=1 by omega) with rfl | rfl
   . rw [h.z0]
     exact Nat.le_refl _
   . rw [h.z1]
     exact Nat.le_refl _
 . exact Nat.le_of_lt (h.nd i (by omega) hi).1
theorem FS.DI (h:FS names N TS) (hn:names.Nodup):∀i,i<N.length->cq (names.drop (au N i)) (ak TS i):=by
 intro i
 induction i using Nat.strongRecOn with
 | ind i ih=>
  intro hi
  by_cases i2:i<2
  . rcases (show i=0\/i=1 by omega) with rfl | rfl
    . rw [h.t0]
      exact .leaf _ _
    . rw [h.t1]
      exact .leaf _ _
  . obtain ⟨a1,a2,a3,a4,a5,a6,a7⟩:=h.nd i (by omega) hi
    rw [a7,List.drop_eq_getElem_cons a1,List.getD_eq_getElem?_getD,List.getElem?_eq_getElem a1]
    refine .node (λq=>a4 (h.inj hn _ _ (by omega) (by omega) q)) (eO (ih _ a2 (by omega)) a5) (eO (ih _ a3 (by omega)) a6)
theorem jx {α:Type}{l m:List α}{d:α}{i:Nat}(h:i<l.length):(l++m).getD i d=l.getD i d:=by
 rw [List.getD_eq_getElem?_getD,List.getD_eq_getElem?_getD,List.getElem?_append_left h]
theorem lT {α:Type}{l:List α}{x d:α} : (l++[x]).getD l.length d=x:=by
 rw [List.getD_eq_getElem?_getD,List.getElem?_append_right (Nat.le_refl _),Nat.sub_self]
 rfl
theorem FS.push (h:FS names N TS){s l u:Nat}(hs:s<names.length) (hl:l<N.length) (hu:u<N.length) (ne:l≠u) (s1:s<au N l) (s2:s<au N u) (iW:∀i,2<=i->i<N.length->N.getD i (0,0,0)≠(s,l,u)) :
 FS names (N++[(s,l,u)]) (TS++[.node (names.getD s "") (ak TS l) (ak TS u)]):=by
 have h2:=h.two
 have hlen:=h.len
 have ir:∀i,i<N.length->(N++[(s,l,u)]).getD i (0,0,0)=N.getD i (0,0,0):=λi hi=>jx hi
 have pF:∀i,i<N.length->ak (TS++[.node (names.getD s "") (ak TS l) (ak TS u)]) i=ak TS i:=λi hi=>jx (by omega)
 have uS:(N++[(s,l,u)]).getD N.length (0,0,0)=(s,l,u):=lT
 refine ⟨by rw [List.length_append,List.length_append,hlen]; rfl,by rw [List.length_append]; omega,by rw [ir 0 (by omega)]; exact h.z0,by rw [ir 1 (by omega)]; exact h.z1,by rw [pF 0 (by omega)]; exact h.t0,by rw [pF 1 (by omega)]; exact h.t1,λi i2 hi=>?_,λi j i2 j2 hi hj e=>?_⟩
 . rw [List.length_append,List.length_singleton] at hi
   by_cases q:i<N.length
   . obtain ⟨a1,a2,a3,a4,a5,a6,a7⟩:=h.nd i i2 q
     have e1:au (N++[(s,l,u)]) i=au N i:=by unfold au; rw [ir i q]
     have e2:low (N++[(s,l,u)]) i=low N i:=by unfold low; rw [ir i q]
     have e3:cM (N++[(s,l,u)]) i=cM N i:=by unfold cM; rw [ir i q]
     have e4:au (N++[(s,l,u)]) (low N i)=au N (low N i):=by unfold au; rw [ir _ (by omega)]
     have e5:au (N++[(s,l,u)]) (cM N i)=au N (cM N i):=by unfold au; rw [ir _ (by omega)]
     rw [e1,e2,e3,e4,e5,pF i q,pF _ (by omega),pF _ (by omega)]
     exact ⟨a1,a2,a3,a4,a5,a6,a7⟩
   . have ei:i=N.length:=by omega
     subst ei
     have e1:au (N++[(s,l,u)]) N.length=s:=by unfold au; rw [uS]
     have e2:low (N++[(s,l,u)]) N.length=l:=by unfold low; rw [uS]
     have e3:cM (N++[(s,l,u)]) N.length=u:=by unfold cM; rw [uS]
     have e4:au (N++[(s,l,u)]) l=au N l:=by unfold au; rw [ir _ hl]
     have e5:au (N++[(s,l,u)]) u=au N u:=by unfold au; rw [ir _ hu]
     rw [e1,e2,e3,e4,e5,pF _ hl,pF _ hu]
     refine ⟨hs,hl,hu,ne,s1,s2,?_⟩
     rw [hlen]
     exact lT
 . rw [List.length_append,List.length_singleton] at hi hj
   by_cases qi:i<N.length
   . by_cases qj:j<N.length
     . rw [ir i qi,ir j qj] at e
       exact h.uq i j i2 j2 qi qj e
     . rw [ir i qi,show j=N.length by omega,uS] at e
       exact absurd e (iW i i2 qi)
   . by_cases qj:j<N.length
     . rw [ir j qj,show i=N.length by omega,uS] at e
       exact absurd e.symm (iW j j2 qj)
     . omega
end
end Gen
namespace Gen
open PySem L2
abbrev ou:Stmt:=inClass (top 4) 1
abbrev ow:Stmt:=inClass (top 4) 6
structure gc (mg:Str->Option Value):Prop where
 len:mg "len" = none
 list:mg "list" = none
 dict:mg "dict" = none
 tuple:mg "tuple" = none
 str:mg "str" = none
 int:mg "int" = none
 bool:mg "bool" = none
 zip:mg "zip" = none
 isi:mg "isinstance" = none
 min:mg "min" = none
 rev:mg "reversed" = none
structure eP (K:W.Frag) (mg:Str->Option Value) (C:Addr):Prop where
 cl:nj K C
 n1:dz K C "names"
 n2:dz K C "spots"
 n3:dz K C "nodes"
 n4:dz K C "known"
 n5:dz K C "choices"
 n6:dz K C "imported"
 n7:dz K C "exported"
 mgC:mg "Forest" = some (.ref C)
def cD (nm sp nd kn ch im ex:Addr):List (Str×V):=aA "exported" (.ref ex) (aA "imported" (.ref im) (aA "choices" (.ref ch) (aA "known" (.ref kn) (aA "nodes" (.ref nd) (aA "spots" (.ref sp) (aA "names" (.ref nm) []))))))
section
variable (nm sp nd kn ch im ex:Addr)
theorem Cr:(cD nm sp nd kn ch im ex).lookup ("names" : Str)=some (.ref nm):=by
 unfold cD
 rw [aw,if_neg (by decide +kernel),aw,if_neg (by decide +kernel),aw,if_neg (by decide +kernel),aw,if_neg (by decide +kernel),aw,if_neg (by decide +kernel),aw,if_neg (by decide +kernel),aw,if_pos rfl]
theorem G6:(cD nm sp nd kn ch im ex).lookup ("spots" : Str)=some (.ref sp):=by
 unfold cD
 rw [aw,if_neg (by decide +kernel),aw,if_neg (by decide +kernel),aw,if_neg (by decide +kernel),aw,if_neg (by decide +kernel),aw,if_neg (by decide +kernel),aw,if_pos rfl]
theorem lU:(cD nm sp nd kn ch im ex).lookup ("nodes" : Str)=some (.ref nd):=by
 unfold cD
 rw [aw,if_neg (by decide +kernel),aw,if_neg (by decide +kernel),aw,if_neg (by decide +kernel),aw,if_neg (by decide +kernel),aw,if_pos rfl]
theorem G7:(cD nm sp nd kn ch im ex).lookup ("known" : Str)=some (.ref kn):=by
 unfold cD
 rw [aw,if_neg (by decide +kernel),aw,if_neg (by decide +kernel),aw,if_neg (by decide +kernel),aw,if_pos rfl]
theorem G8:(cD nm sp nd kn ch im ex).lookup ("choices" : Str)=some (.ref ch):=by
 unfold cD
 rw [aw,if_neg (by decide +kernel),aw,if_neg (by decide +kernel),aw,if_pos rfl]
theorem G9:(cD nm sp nd kn ch im ex).lookup ("imported" : Str)=some (.ref im):=by
 unfold cD
 rw [aw,if_neg (by decide +kernel),aw,if_pos rfl]
theorem Hn:(cD nm sp nd kn ch im ex).lookup ("exported" : Str)=some (.ref ex):=by
 unfold cD
 rw [aw,if_pos rfl]
theorem jy {m:Str}(h1:m ≠ "names") (h2:m ≠ "spots") (h3:m ≠ "nodes") (h4:m ≠ "known") (h5:m ≠ "choices") (h6:m ≠ "imported") (h7:m ≠ "exported"):(cD nm sp nd kn ch im ex).lookup m=none:=by
 unfold cD
 rw [aw,if_neg h7,aw,if_neg h6,aw,if_neg h5,aw,if_neg h4,aw,if_neg h3,aw,if_neg h2,aw,if_neg h1]
 rfl
end
theorem bJ {b:Bool}{A B:Prop}(h:b=false) (k:B):if b=true then A else B:=by rw [h]; exact gQ k
theorem bY {b:Bool}{A B:Prop}(h:b=true) (k:A):if b=true then A else B:=by rw [h]; exact rm k
def fF:Nat->List Str->List (Key×V)
 | _,[]=>[]
 | i,n::r=>(.inr n,.int (i:Int))::fF (i+1) r
theorem uT:∀(names:List Str) (i j:Nat) (z:Str),names.Nodup->names[j]?=some z->aR (fF i names) (.inr z)=some (V.int ((i+j:Nat):Int))
 | [],_,_,_,_,h=>by simp at h
 | n::r,i,0,z,_,h=>by
  have e:n=z:=by simpa using h
  subst e
  rw [fF,bG rfl]
  rfl
 | n::r,i,j+1,z,hn,h=>by
  have h2:r[j]?=some z:=by simpa using h
  have hz:z≠n:=λe=>(List.nodup_cons.mp hn).1 (e ▸ List.mem_of_getElem? h2)
  rw [fF,bx (λq=>hz (Sum.inr.inj q).symm),uT r (i+1) j z (List.nodup_cons.mp hn).2 h2,show i+1+j=i+(j+1) by omega]
def fh (p:Nd):List V:=[.int (p.1:Int),.int (p.2.1:Int),.int (p.2.2:Int)]
def iQ (p:Nd):List Key:=[.inl (p.1:Int),.inl (p.2.1:Int),.inl (p.2.2:Int)]
theorem rF {p q:Nd}(h:iQ p=iQ q):p=q:=by
 unfold iQ at h
 simp only [List.cons.injEq,Sum.inl.injEq,and_true] at h
 obtain ⟨h1,h2,h3⟩:=h
 exact Prod.ext (by omega) (Prod.ext (by omega) (by omega))
def eQ:Nat->List Nd->List (List Key×V)
 | _,[]=>[]
 | i,p::r=>(iQ p,.int (i:Int))::eQ (i+1) r
theorem xy:∀(l:List Nd) (i:Nat),(eQ i l).length=l.length
 | [],_=>rfl
 | _::r,i=>by rw [eQ,List.length_cons,List.length_cons,xy r]
theorem xA:∀(a b:List Nd) (i:Nat),eQ i (a++b)=eQ i a++eQ (i+a.length) b
 | [],b,i=>rfl
 | p::r,b,i=>by rw [List.cons_append,eQ,eQ,xA r b (i+1),List.cons_append,List.length_cons,show i+1+r.length=i+(r.length+1) by omega]
theorem uU:∀(l:List Nd) (i:Nat) (p:Nd),aR (eQ i l) (iQ p)=none->p∉l
 | [],_,_,_=>List.not_mem_nil
 | q::r,i,p,h=>by
  by_cases e:q=p
  . rw [e,eQ,bG rfl] at h
    cases h
  . rw [eQ,bx (λz=>e (rF z))] at h
    rw [List.mem_cons,not_or]
    exact ⟨λz=>e z.symm,uU r (i+1) p h⟩
theorem uV:∀(l:List Nd) (i:Nat) (p:Nd) (v:V),aR (eQ i l) (iQ p)=some v->∃j,l[j]?=some p/\v=.int ((i+j:Nat):Int)
 | [],_,_,_,h=>nomatch h
 | q::r,i,p,v,h=>by
  by_cases e:q=p
  . rw [e,eQ,bG rfl] at h
    exact ⟨0,by rw [e]; rfl,(Option.some.inj h).symm⟩
  . rw [eQ,bx (λz=>e (rF z))] at h
    obtain ⟨j,h1,h2⟩:=uV r (i+1) p v h
    exact ⟨j+1,by simpa using h1,by rw [h2,show i+1+j=i+(j+1) by omega]⟩
structure bZ where
 N:List Nd
 TS:List Tr
 ts:List Addr
 CH:List (List Key×V)
 IM:List (Tr×Addr×V)
 EX:List (Key×V)
def pG (N:List Nd) (TS:List Tr) (e:List Key×V):Prop:=∃t h l n:Nat,e.1=[.inl (t:Int),.inl (h:Int),.inl (l:Int)]/\e.2=.int (n:Int)/\t<N.length/\h<N.length/\l<N.length/\n<N.length/\
 (∀v,ev v (ak TS n)=if ev v (ak TS t)=true then ev v (ak TS h) else ev v (ak TS l))/\min (au N t) (min (au N h) (au N l))<=au N n
structure FO (P:Program) (w:World) (C:Addr) (H:Hp) (y dy nm sp nd kn ch im ex:Addr) (names:List Str) (S:bZ):Prop where
 hy:H y=some (.ins C dy (cD nm sp nd kn ch im ex))
 hn:H nm=some (.lst (names.map V.str))
 hs:H sp=some (.dK (fF 0 names))
 hd:H nd=some (.lst (S.ts.map V.ref))
 ht:Paired (λt p=>H t=some (.tup (fh p))) S.ts S.N
 hk:H kn=some (.dT (eQ 2 (S.N.drop 2)))
 hc:H ch=some (.dT S.CH)
 ck:∀e∈S.CH,pG S.N S.TS e
 hi:H im=some (iX P w im S.IM)
 ik:∀p∈S.IM,iq H p.1 p.2.1/\∃i:Nat,i<S.N.length/\p.2.2=.int (i:Int)/\ak S.TS i=p.1
 he:H ex=some (.dK S.EX)
 ek:∀kv∈S.EX,∃i:Nat,kv.1=.inl (i:Int)/\i<S.N.length/\cL H (ak S.TS i) kv.2
 e0:aR S.EX (.inl 0)=some (.bl false)/\aR S.EX (.inl 1)=some (.bl true)
 fs:FS names S.N S.TS
 nn:names.Nodup
 ns:∀n∈names,PyData.strOk n=true
 n8:names.length<=8
 d1:nd≠nm
 d2:kn≠ch
 d3:sp≠ex
def Kp (H H':Hp) (nd kn ch im ex:Addr):Prop:=∀b o,H b=some o->b≠nd->b≠kn->b≠ch->b≠im->b≠ex->H' b=some o
structure Bd (S:bZ) (b:Nat):Prop where
 b1:S.N.length<=b
 b2:S.CH.length<=b
 b3:S.IM.length<=b
 b4:S.EX.length<=b
structure cS (S S':bZ):Prop where
 gn:∃a,S'.N=S.N++a
 gt:∃a,S'.TS=S.TS++a
theorem cS.refl (S:bZ):cS S S:=⟨⟨[],by simp⟩,⟨[],by simp⟩⟩
theorem cS.trans {S S1 S2:bZ}(a:cS S S1) (b:cS S1 S2):cS S S2:=by
 obtain ⟨⟨x,hx⟩,⟨y,hy⟩⟩:=a
 obtain ⟨⟨x',DJ⟩,⟨y',Gw⟩⟩:=b
 exact ⟨⟨x++x',by rw [DJ,hx,List.append_assoc]⟩,⟨y++y',by rw [Gw,hy,List.append_assoc]⟩⟩
theorem cS.le {S S':bZ}(a:cS S S'):S.N.length<=S'.N.length:=by
 obtain ⟨⟨x,hx⟩,_⟩:=a
 rw [hx,List.length_append]
 omega
theorem cS.nd {S S':bZ}(a:cS S S'){i:Nat}(h:i<S.N.length):S'.N.getD i (0,0,0)=S.N.getD i (0,0,0):=by
 obtain ⟨⟨x,hx⟩,_⟩:=a
 rw [hx]
 exact jx h
theorem cS.au {S S':bZ}(a:cS S S'){i:Nat}(h:i<S.N.length):Gen.au S'.N i=Gen.au S.N i:=by unfold Gen.au; rw [a.nd h]
theorem cS.ak {S S':bZ}(a:cS S S'){i:Nat}(h:i<S.TS.length):Gen.ak S'.TS i=Gen.ak S.TS i:=by
 obtain ⟨_,⟨x,hx⟩⟩:=a
 unfold Gen.ak
 rw [hx]
 exact jx h
theorem pG.grow {S S':bZ}(a:cS S S') (hl:S.N.length=S.TS.length){e:List Key×V}(h:pG S.N S.TS e):pG S'.N S'.TS e:=by
 obtain ⟨t,h',l,n,e1,e2,l1,l2,l3,l4,hv,hm⟩:=h
 have:=a.le
 refine ⟨t,h',l,n,e1,e2,by omega,by omega,by omega,by omega,λv=>?_,?_⟩
 . rw [a.ak (by omega),a.ak (by omega),a.ak (by omega),a.ak (by omega)]
   exact hv v
 . rw [a.au l1,a.au l2,a.au l3,a.au l4]
   exact hm
section
variable {P:Program}{w:World}{K:W.Frag}{mg:Str->Option Value}{base:Heap}{C y dy nm sp nd kn ch im ex:Addr}{names:List Str}{S:bZ}{H H':Hp}
theorem Kp.of (s:aj H H'):Kp H H' nd kn ch im ex:=λb o h _ _ _ _ _=>s b o h
theorem Kp.trans {H1:Hp}(a:Kp H H1 nd kn ch im ex) (b:Kp H1 H' nd kn ch im ex):Kp H H' nd kn ch im ex:=λc o h h1 h2 h3 h4 h5=>b c o (a c o h h1 h2 h3 h4 h5) h1 h2 h3 h4 h5
theorem FO.dr (h:FO P w C H y dy nm sp nd kn ch im ex names S) (k:Kp H H' nd kn ch im ex):∀a xs,H a=some (.tup xs)->H' a=some (.tup xs):=λa xs e=>
 k a _ e (aL e h.hd (by intro z; cases z)) (aL e h.hk (by intro z; cases z)) (aL e h.hc (by intro z; cases z)) (aL e h.hi (by intro z; cases z)) (aL e h.he (by intro z; cases z))
theorem FO.same (h:FO P w C H y dy nm sp nd kn ch im ex names S) (s:aj H H'):FO P w C H' y dy nm sp nd kn ch im ex names S:=
 ⟨s _ _ h.hy,s _ _ h.hn,s _ _ h.hs,s _ _ h.hd,Paired.cy h.ht λ_ _ e=>s _ _ e,s _ _ h.hk,s _ _ h.hc,h.ck,s _ _ h.hi,λp hp=>⟨(h.ik p hp).1.keep λa xs e=>s _ _ e,(h.ik p hp).2⟩,s _ _ h.he,
  λkv bf=>let ⟨i,a,b,c⟩:=h.ek kv bf; ⟨i,a,b,c.keep λa xs e=>s _ _ e⟩,h.e0,h.fs,h.nn,h.ns,h.n8,h.d1,h.d2,h.d3⟩
theorem FO.node (h:FO P w C H y dy nm sp nd kn ch im ex names S){i:Nat}(hi:i<S.N.length):∃t,S.ts[i]?=some t/\H t=some (.tup (fh (S.N.getD i (0,0,0)))):=by
 obtain ⟨t,h1,h2⟩:=gx h.ht (i:=i) (List.getElem?_eq_getElem hi)
 refine ⟨t,h1,?_⟩
 rw [h2,List.getD_eq_getElem?_getD,List.getElem?_eq_getElem hi]
 rfl
def qG (P:Program) (w:World) (C:Addr):Sp:=λvs H Q _=>∃(y dy nm sp nd kn ch im ex:Addr) (names:List Str) (S:bZ) (x s:Nat) (b:Bool),vs=[.ref y,.int (x:Int),.int (s:Int),.int (if b=true then 2 else 1)]/\FO P w C H y dy nm sp nd kn ch im ex names S/\x<S.N.length/\
 Q (.int ((if au S.N x=s then (if b=true then cM S.N x else low S.N x) else x:Nat):Int)) H
theorem AL:aZ ["self", "number", "spot", "side", "node"] ["self", "number", "spot", "side"] (ao ow):=⟨rfl,rfl,rfl,by decide +kernel,rfl,by decide +kernel,by decide +kernel⟩
theorem Fi {f:Addr}{fd:FuncData}(F:cw K "half" "Forest.half" ow f fd) (T:eP K mg C):av P w K mg base aE 1 f fd ["self", "number", "spot", "side"] (qG P w C):=by
 refine F.ok AL (λvs H Q E h=>?_) (λcdv A outer s H vs Q E hr h=>?_)
 . obtain ⟨y,dy,nm,sp,nd,kn,ch,im,ex,names,S,x,s0,b,rfl,_⟩:=h
   rfl
 . obtain ⟨y,dy,nm,sp,nd,kn,ch,im,ex,names,S,x,s0,b,rfl,hO,hx,kk⟩:=h
   refine ⟨_,ag (ax (i:=4) AL.nd rfl (Or.inl rfl) (aS (r:=dt K) bz (bX (pv 0) rfl) (pv 1) (λ_ _=>rfl)))
    (aq (aK (lE (bj dX (aS (r:=cW K) bQ (pv 4) ah (λ_ _=>rfl)) (pv 2) (br _)) (aS (r:=cW K) bQ (pv 4) (pv 3) (λ_ _=>rfl)) (pv 1)))),?_⟩
   obtain ⟨t,h1,h2⟩:=hO.node hx
   refine ⟨_,rfl,y,C,dy,_,_,rfl,hO.hy,T.cl,T.n3,lU ..,_,rfl,nd,_,_,.ref t,rfl,rfl,ay.of hO.hd,aF (by rw [List.getElem?_map,h1]; rfl),?_⟩
   refine ⟨_,rfl,t,_,0,_,rfl,rfl,aT.of h2,aF (j:=0) rfl,_,rfl,rfl,_,rfl,?_⟩
   by_cases e:au S.N x=s0
   . rw [if_pos e] at kk
     refine bY (decide_eq_true (by rw [← e]; rfl)) ?_
     refine ⟨_,rfl,_,rfl,t,_,_,_,rfl,rfl,aT.of h2,?_,kk⟩
     cases b
     . exact aF (j:=1) rfl
     . exact aF (j:=2) rfl
   . rw [if_neg e] at kk
     refine bJ (decide_eq_false λz=>e ?_) ⟨_,rfl,kk⟩
     have:=V.int.inj z
     have q:((au S.N x:Nat):Int)=(s0:Int):=this
     omega
def g9 (P:Program) (w:World) (C:Addr):Sp:=λvs H Q _=>∃(y dy nm sp nd kn ch im ex:Addr) (names:List Str) (S:bZ) (s l u b:Nat),vs=[.ref y,.int (s:Int),.int (l:Int),.int (u:Int)]/\FO P w C H y dy nm sp nd kn ch im ex names S/\s<names.length/\l<S.N.length/\u<S.N.length/\s<au S.N l/\s<au S.N u/\Bd S b/\b<4000000/\
 ∀(n:Nat) (S':bZ) (H':Hp),FO P w C H' y dy nm sp nd kn ch im ex names S'->Kp H H' nd kn ch im ex->cS S S'->Bd S' (b+1)->S'.CH=S.CH->S'.IM=S.IM->S'.EX=S.EX->n<S'.N.length->s<=au S'.N n->ak S'.TS n=(if l=u then ak S.TS l else .node (names.getD s "") (ak S.TS l) (ak S.TS u))->Q (.int (n:Int)) H'
abbrev Sx:List Str:=["self", "spot", "low", "high", "key", "number"]
abbrev hZ:List Str:=["self", "spot", "low", "high"]
theorem yB:aZ Sx hZ (ao ou):=⟨rfl,rfl,rfl,by decide +kernel,rfl,by decide +kernel,by decide +kernel⟩
theorem big {n:Nat}(h:n<=8000000):n<sizeLine:=Nat.lt_of_le_of_lt h (by decide)
theorem Cs {α:Type}{l:List α}{j:Nat}{x d:α}(h:(l.drop 2)[j]?=some x):2+j<l.length/\l.getD (2+j) d=x:=by
 rw [List.getElem?_drop] at h
 have:=(List.getElem?_eq_some_iff.mp h).1
 exact ⟨this,by rw [List.getD_eq_getElem?_getD,h]; rfl⟩
theorem Fj {f:Addr}{fd:FuncData}(F:cw K "node" "Forest.node" ou f fd) (T:eP K mg C) (O2:gc mg):av P w K mg base aE 1 f fd hZ (g9 P w C):=by
 refine F.ok yB (λvs H Q E h=>?_) (λcdv A outer s H vs Q E hr h=>?_)
 . obtain ⟨y,dy,nm,sp,nd,kn,ch,im,ex,names,S,s0,l,u,b,rfl,_⟩:=h
   rfl
 . obtain ⟨y,dy,nm,sp,nd,kn,ch,im,ex,names,S,s0,l,u,b,rfl,hO,hs,hl,AH,s1,s2,hB,hb,kk⟩:=h
   have hu:=iD hr
   refine ⟨_,ag (bF (bj dX (pv 2) (pv 3) (br _)) (aq (aK (pv 2))) aY)
    (ag (ax (i:=4) yB.nd rfl (Or.inl rfl) (dE (aa (pv 1) (aa (pv 2) (aa (pv 3) af)))))
    (ag (ax (i:=5) yB.nd rfl (Or.inl rfl) (pe hu (bX (pv 0) rfl) (pv 4) ⟨rfl,rfl,rfl,rfl⟩))
    (ag (bF (fu (pS (pv 5)))
     (ag (ax (i:=5) yB.nd rfl (Or.inl rfl) (aU aV (by rfl) O2.len PySem.boot_len (aa (bX (pv 0) rfl) af)))
     (ag (jb (lM PySem.F.plainAttrs_list PySem.F.slot_list_append PySem.F.type_list_append gq (bX (pv 0) rfl) (aa (pv 4) af)))
     (aq (jc hu (bX (pv 0) rfl) (pv 4) (pv 5) rfl)))) aY)
    (aq (aK (pv 5)))))),?_⟩
   refine ⟨_,rfl,_,rfl,rfl,_,rfl,?_⟩
   by_cases e:l=u
   . refine bY (decide_eq_true (by rw [e])) ⟨_,rfl,kk l S H hO (λ_ _ h _ _ _ _ _=>h) (.refl S) ⟨Nat.le_succ_of_le hB.b1,Nat.le_succ_of_le hB.b2,Nat.le_succ_of_le hB.b3,Nat.le_succ_of_le hB.b4⟩ rfl rfl rfl hl (Nat.le_of_lt s1) (by rw [if_pos e])⟩
   . refine bJ (decide_eq_false λz=>e (by have:=V.int.inj z; omega)) ?_
     refine ⟨_,rfl,_,rfl,_,rfl,(by show 3<=sizeLine; decide),λt ht=>?_⟩
     have q1:(upd H t (.tup (fh (s0,l,u)))) t=some (.tup (fh (s0,l,u))):=ae
     have AM:aj H (upd H t (.tup (fh (s0,l,u)))):=aj.ar ht
     show dj _ _ _ _ (upd H t (.tup (fh (s0,l,u))))
     generalize upd H t (.tup (fh (s0,l,u)))=H1 at q1 AM ⊢
     have aM:=hO.same AM
     have hlen:=aM.fs.len
     have fk:H1 t=some (.tup ((iQ (s0,l,u)).map kV)):=q1
     refine ⟨_,rfl,y,C,dy,_,_,rfl,aM.hy,T.cl,T.n4,G7 ..,kn,rfl,.inr ⟨_,.inl aM.hk⟩,_,rfl,_,cG.t (k:=iQ (s0,l,u)) aM.hk fk,?_⟩
     cases hv:aR (eQ 2 (S.N.drop 2)) (iQ (s0,l,u)) with
     | some v=>
      obtain ⟨j,hj,rfl⟩:=uV _ _ _ _ hv
      obtain ⟨j1,j2⟩:=Cs (d:=(0,0,0)) hj
      refine ⟨_,rfl,_,rfl,bJ rfl ⟨_,rfl,kk (2+j) S H1 aM (.of AM) (.refl S) ⟨Nat.le_succ_of_le hB.b1,Nat.le_succ_of_le hB.b2,Nat.le_succ_of_le hB.b3,Nat.le_succ_of_le hB.b4⟩ rfl rfl rfl j1 ?_ ?_⟩⟩
      . unfold au
        rw [j2]
        exact Nat.le_refl _
      . obtain ⟨_,_,_,_,_,_,a7⟩:=aM.fs.nd (2+j) (by omega) j1
        rw [a7,if_neg e]
        unfold au low cM
        rw [j2]
     | none=>
      have AK:=uU _ _ _ hv
      have MH:=aM.ht.length
      refine ⟨_,rfl,_,rfl,bY rfl ?_⟩
      refine ⟨_,rfl,y,C,dy,_,_,rfl,aM.hy,T.cl,T.n3,lU ..,nd,_,rfl,.inl (ay.of aM.hd),?_⟩
      rw [List.length_map,MH]
      refine ⟨_,rfl,y,C,dy,_,_,rfl,aM.hy,T.cl,T.n3,lU ..,.inl ⟨rfl,_,ay.of aM.hd⟩,_,rfl,nd,_,_,rfl,rfl,aM.hd,(by rw [List.length_map,MH]; exact big (by have:=hB.b1; omega)),?_⟩
      have q2:(upd H1 nd (.lst (S.ts.map V.ref++[.ref t]))) nd=some (.lst ((S.ts++[t]).map V.ref)):=by rw [ae,List.map_append]; rfl
      have k2:∀b o,H1 b=some o->b≠nd->(upd H1 nd (.lst (S.ts.map V.ref++[.ref t]))) b=some o:=λb o h n=>by rw [ai n]; exact h
      generalize upd H1 nd (.lst (S.ts.map V.ref++[.ref t]))=H2 at q2 k2 ⊢
      have nl:∀{b:Addr}{o:HO},H1 b=some o->(∀xs,o≠.lst xs)->b≠nd:=λhb ho z=>by
       rw [z,aM.hd] at hb
       exact ho _ (Option.some.inj hb).symm
      have y2:=k2 _ _ aM.hy (nl aM.hy (λ_ z=>by cases z))
      have Sy:=k2 _ _ aM.hk (nl aM.hk (λ_ z=>by cases z))
      have t2:=k2 _ _ fk (nl fk (λ_ z=>by cases z))
      refine ⟨_,rfl,_,rfl,y,C,dy,_,_,rfl,y2,T.cl,T.n4,G7 ..,_,rfl,kn,_,rfl,gJ.t (k:=iQ (s0,l,u)) Sy t2 (by rw [xy]; exact big (by have:=hB.b1; rw [List.length_drop]; omega)),?_⟩
      have OU:putK (eQ 2 (S.N.drop 2)) (iQ (s0,l,u)) (.int (S.N.length:Int))=eQ 2 ((S.N++[(s0,l,u)]).drop 2):=by
       have h2:=aM.fs.two
       rw [lK _ hv,List.drop_append_of_le_length h2,xA,List.length_drop,show 2+(S.N.length-2)=S.N.length by omega]
       rfl
      rw [OU]
      have q3:(upd H2 kn (.dT (eQ 2 ((S.N++[(s0,l,u)]).drop 2)))) kn=some (.dT (eQ 2 ((S.N++[(s0,l,u)]).drop 2))):=ae
      have k3:∀b o,H1 b=some o->b≠nd->b≠kn->(upd H2 kn (.dT (eQ 2 ((S.N++[(s0,l,u)]).drop 2)))) b=some o:=λb o h n1 n2=>by rw [ai n2]; exact k2 b o h n1
      have MI:(upd H2 kn (.dT (eQ 2 ((S.N++[(s0,l,u)]).drop 2)))) nd=some (.lst ((S.ts++[t]).map V.ref)):=by rw [ai (Ne.symm (nl aM.hk (λ_ z=>by cases z)))]; exact q2
      generalize upd H2 kn (.dT (eQ 2 ((S.N++[(s0,l,u)]).drop 2)))=H3 at q3 k3 MI ⊢
      have kt:∀{b:Addr}{o:HO},H1 b=some o->(∀xs,o≠.lst xs)->(∀xs,o≠.dT xs)->H3 b=some o:=λhb ho hd=>k3 _ _ hb (nl hb ho) λz=>by
       rw [z,aM.hk] at hb
       exact hd _ (Option.some.inj hb).symm
      have G:cS S { S with N:=S.N++[(s0,l,u)],TS:=S.TS++[.node (names.getD s0 "") (ak S.TS l) (ak S.TS u)],ts:=S.ts++[t] }:=⟨⟨_,rfl⟩,⟨_,rfl⟩⟩
      have fs':=aM.fs.push hs hl AH e s1 s2 λi i2 hi z=>AK (by
       rw [List.mem_iff_getElem?]
       refine ⟨i-2,?_⟩
       rw [List.getElem?_drop,show 2+(i-2)=i by omega,List.getElem?_eq_getElem hi]
       rw [List.getD_eq_getElem?_getD,List.getElem?_eq_getElem hi] at z
       exact congrArg some z)
      have yC:∀a xs,H1 a=some (.tup xs)->H3 a=some (.tup xs):=λa xs h=>kt h (λ_ z=>by cases z) (λ_ z=>by cases z)
      refine ⟨_,rfl,kk S.N.length { S with N:=S.N++[(s0,l,u)],TS:=S.TS++[.node (names.getD s0 "") (ak S.TS l) (ak S.TS u)],ts:=S.ts++[t] } H3 ⟨kt aM.hy (λ_ z=>by cases z) (λ_ z=>by cases z),k3 _ _ aM.hn (Ne.symm aM.d1) (aL aM.hn aM.hk (by intro z; cases z)),kt aM.hs (λ_ z=>by cases z) (λ_ z=>by cases z),MI,b0 (Paired.cy aM.ht λ_ _ h=>yC _ _ h) (.cons (yC _ _ q1) .nil),q3,k3 _ _ aM.hc (nl aM.hc (λ_ z=>by cases z)) (Ne.symm aM.d2),λe' h=>pG.grow G hlen (aM.ck e' h),kt aM.hi (λ_ z=>by cases z) (λ_ z=>by cases z),λp hp=>?_,kt aM.he (λ_ z=>by cases z) (λ_ z=>by cases z),λkv bf=>?_,aM.e0,fs',aM.nn,aM.ns,aM.n8,aM.d1,aM.d2,aM.d3⟩ (λb o h n1 n2 _ _ _=>k3 _ _ (AM _ _ h) n1 n2) G ⟨by rw [List.length_append]; have:=hB.b1; show S.N.length+1<=b+1; omega,Nat.le_succ_of_le hB.b2,Nat.le_succ_of_le hB.b3,Nat.le_succ_of_le hB.b4⟩ rfl rfl rfl (by rw [List.length_append]; exact Nat.lt_succ_self _) ?_ ?_⟩
      . obtain ⟨h1,i,i1,i2,i3⟩:=aM.ik p hp
        exact ⟨h1.keep yC,i,by rw [List.length_append]; show i<S.N.length+1; omega,i2,by rw [← i3]; exact G.ak (by omega)⟩
      . obtain ⟨i,i1,i2,i3⟩:=aM.ek kv bf
        have e9:ak (S.TS++[.node (names.getD s0 "") (ak S.TS l) (ak S.TS u)]) i=ak S.TS i:=G.ak (by omega)
        exact ⟨i,i1,by rw [List.length_append]; show i<S.N.length+1; omega,by rw [e9]; exact i3.keep yC⟩
      . show s0<=au (S.N++[(s0,l,u)]) S.N.length
        unfold au
        rw [lT]
        exact Nat.le_refl _
      . rw [if_neg e,hlen]
        exact lT
end
end Gen
namespace L2
open PySem PySem.Spec PyProof.Rows
section
variable {X:Cx}{a:Expr}{ta:TE}
def OV (c:Bool) (ta:TE):TE:=λσ H Q=>ta σ H λx H1=>(∃b,x=.bl b/\Q (.bl (b == c)) H1)\/∃p,x=.ref p/\Q (.bl false) H1
theorem AN {c:Bool}{j pos'} (ha:PE X a ta):PC X .Is a (.Constant (.bool c) j pos') (OV c ta):=by
 intro pins s σ H Q I h
 refine aH (ha pins s σ H _ I h) λv s1 ⟨x,H1,I1,r1,q1⟩=>Constant_bool ?_
 rcases q1 with ⟨b,rfl,q⟩ | ⟨p,rfl,q⟩
 . obtain rfl:v=Value.bool b:=r1
   exact wpAny_pure ⟨.bl _,H1,I1,by cases b <;> cases c <;> rfl,q⟩
 . obtain rfl:v=Value.ref p:=r1
   exact wpAny_pure ⟨.bl _,H1,I1,rfl,q⟩
theorem AO (hc:X.calm=true):eD X (.builtin "min") (λxs H Q=>∃i j k,xs=[.int i,.int j,.int k]/\Q (.int (min i (min j k))) H):=by
 intro pins s σ H xs us Q I r h
 obtain ⟨i,j,k,rfl,q⟩:=h
 cases r with
 | cons r1 r=>
  cases r with
  | cons r2 r=>
   cases r with
   | cons r3 r=>
    cases r
    obtain ⟨t1,rfl⟩:=r1
    obtain ⟨t2,rfl⟩:=r2
    obtain ⟨t3,rfl⟩:=r3
    refine min_three_ints (I.ok.hd hc) λh' tk kp=>⟨_,H,I.kept kp,?_,q⟩
    by_cases h1:j<i
    . rw [if_pos h1]
      by_cases h2:k<j
      . rw [if_pos h2,show min i (min j k)=k by omega]; exact ⟨_,rfl⟩
      . rw [if_neg h2,show min i (min j k)=j by omega]; exact ⟨_,rfl⟩
    . rw [if_neg h1]
      by_cases h2:k<i
      . rw [if_pos h2,show min i (min j k)=k by omega]; exact ⟨_,rfl⟩
      . rw [if_neg h2,show min i (min j k)=i by omega]; exact ⟨_,rfl⟩
end
end L2
namespace Gen
open PySem L2
abbrev jz:Stmt:=inClass (top 4) 3
abbrev iu:Stmt:=inClass (top 4) 4
def fi:Tr->Nat
 | .leaf _=>0
 | .node _ l r=>fi l+fi r+2
theorem iR {κ:Type}[DecidableEq κ] {k:κ}{v:V} : ∀{kvs:List (κ×V)},aR kvs k=some v->(k,v)∈kvs
 | [],h=>nomatch h
 | (k',v')::r,h=>by
  by_cases e:k'=k
  . subst e
    rw [bG rfl] at h
    cases h
    exact List.mem_cons_self
  . rw [bx e] at h
    exact List.mem_cons_of_mem _ (iR h)
theorem nF {κ:Type}[DecidableEq κ] {k:κ} : ∀{kvs:List (κ×V)},(∀kv∈kvs,kv.1≠k)->aR kvs k=none
 | [],_=>rfl
 | (k',v')::r,h=>by
  rw [bx (h _ List.mem_cons_self)]
  exact nF λkv hk=>h kv (List.mem_cons_of_mem _ hk)
theorem xB {κ:Type}[DecidableEq κ] {k:κ} : ∀{kvs:List (κ×V)},aR kvs k=none->∀kv∈kvs,kv.1≠k
 | [],_,_,h=>nomatch h
 | (k',v')::r,h,kv,hk=>by
  by_cases e:k'=k
  . subst e
    rw [bG rfl] at h
    cases h
  . rw [bx e] at h
    rcases List.mem_cons.mp hk with rfl | hk
    . exact e
    . exact xB h kv hk
theorem pH {κ:Type}[DecidableEq κ] {kvs:List (κ×V)}{k:κ}{v:V}{e:κ×V}(h:e∈putK kvs k v):e∈kvs\/e=(k,v):=by
 unfold putK at h
 split at h
 . obtain ⟨p,hp,rfl⟩:=List.mem_map.mp h
   by_cases q:p.1=k
   . rw [if_pos q]
     exact .inr (by rw [q])
   . rw [if_neg q]
     exact .inl hp
 . rcases List.mem_append.mp h with h | h
   . exact .inl h
   . exact .inr (List.mem_singleton.mp h)
theorem yD {L:List (Tr×Addr×V)}{t:Tr}{v:V}(h:fZ L t=some v):∃b,(t,b,v)∈L:=by
 unfold fZ at h
 cases e:L.find? λp=>decide (p.1=t) with
 | none=>rw [e] at h; cases h
 | some p=>
  rw [e] at h
  have h1:=List.find?_some e
  have h2:=List.mem_of_find?_eq_some e
  obtain ⟨a,b,c⟩:=p
  have:a=t:=of_decide_eq_true h1
  subst this
  cases (show c=v from Option.some.inj h)
  exact ⟨b,h2⟩
theorem yE {L:List (Tr×Addr×V)}{t:Tr}(h:∀p∈L,p.1≠t):fZ L t=none:=by
 unfold fZ
 rw [List.find?_eq_none.mpr λp hp=>by rw [decide_eq_true_eq]; exact h p hp]
 rfl
theorem Ct {L:List (Tr×Addr×V)}{t:Tr}(h:fZ L t=none):∀p∈L,p.1≠t:=λp hp e=>by
 unfold fZ at h
 rw [Option.map_eq_none_iff,List.find?_eq_none] at h
 exact h p hp (by rw [decide_eq_true_eq]; exact e)
theorem xC {ns:List Str}{n:Str}{l r:Tr}(h:cq ns (.node n l r)):∃j,ns[j]?=some n/\l≠r/\cq (ns.drop (j+1)) l/\cq (ns.drop (j+1)) r:=by
 generalize et:Tr.node n l r=t at h
 induction h with
 | leaf=>cases et
 | node ne a b=>
  cases et
  exact ⟨0,rfl,ne,a,b⟩
 | skip _ ih=>
  obtain ⟨j,a,b,c,d⟩:=ih et
  exact ⟨j+1,by simpa using a,b,by simpa using c,by simpa using d⟩
theorem FS.Ho {names:List Str}{N:List Nd}{TS:List Tr}(h:FS names N TS) (hn:names.Nodup){i k:Nat}(hi:i<N.length) (hk:k<=names.length) (hc:cq (names.drop k) (ak TS i)):k<=au N i:=by
 by_cases i2:i<2
 . unfold au
   rcases (show i=0\/i=1 by omega) with rfl | rfl
   . rw [h.z0]
     exact hk
   . rw [h.z1]
     exact hk
 . obtain ⟨a1,_,_,_,_,_,a7⟩:=h.nd i (by omega) hi
   rw [a7] at hc
   obtain ⟨j,h1,_⟩:=xC hc
   rw [List.getElem?_drop] at h1
   have hj:=(List.getElem?_eq_some_iff.mp h1).1
   rw [List.getD_eq_getElem?_getD,List.getElem?_eq_getElem a1,List.getElem?_eq_getElem hj] at h1
   have:=(List.getElem_inj hn).mp (Option.some.inj h1)
   omega
section
variable {P:Program}{w:World}{K:W.Frag}{mg:Str->Option Value}{base:Heap}{C y dy nm sp nd kn ch im ex:Addr}{names:List Str}{S:bZ}{H H':Hp}
theorem Bd.up {S:bZ}{b c:Nat}(h:Bd S b) (hc:b<=c):Bd S c:=⟨Nat.le_trans h.b1 hc,Nat.le_trans h.b2 hc,Nat.le_trans h.b3 hc,Nat.le_trans h.b4 hc⟩
theorem Bd.Sz {S:bZ}{b:Nat}(h:Bd S b) (e:Tr×Addr×V):Bd { S with IM:=S.IM++[e] } (b+1):=⟨Nat.le_succ_of_le h.b1,Nat.le_succ_of_le h.b2,by rw [List.length_append]; exact Nat.succ_le_succ h.b3,Nat.le_succ_of_le h.b4⟩
theorem Bd.SA {S:bZ}{b:Nat}(h:Bd S b) (e:Key×V):Bd { S with EX:=S.EX++[e] } (b+1):=⟨Nat.le_succ_of_le h.b1,Nat.le_succ_of_le h.b2,Nat.le_succ_of_le h.b3,by rw [List.length_append]; exact Nat.succ_le_succ h.b4⟩
theorem Bd.SD {S:bZ}{b:Nat}(h:Bd S b) (k:List Key) (v:V):Bd { S with CH:=putK S.CH k v } (b+1):=⟨Nat.le_succ_of_le h.b1,Nat.le_trans (eg _ _ _) (Nat.succ_le_succ h.b2),Nat.le_succ_of_le h.b3,Nat.le_succ_of_le h.b4⟩
theorem yF {a:Addr}{o:HO}(h:a=nd\/a=kn\/a=ch\/a=im\/a=ex):Kp H (upd H a o) nd kn ch im ex:=λb ob hb h1 h2 h3 h4 h5=>by
 rw [ai (by rcases h with rfl | rfl | rfl | rfl | rfl <;> assumption)]
 exact hb
theorem FO.Ku (h:FO P w C H y dy nm sp nd kn ch im ex names S){t:Tr}{b:Addr}{i:Nat}(hk:iq H t b) (hi:i<S.N.length) (ht:ak S.TS i=t) :
 FO P w C (upd H im (iX P w im (S.IM++[(t,b,.int (i:Int))]))) y dy nm sp nd kn ch im ex names { S with IM:=S.IM++[(t,b,.int (i:Int))] }:=by
 have k:∀{a:Addr}{o:HO},H a=some o->o≠iX P w im S.IM->(upd H im (iX P w im (S.IM++[(t,b,.int (i:Int))]))) a=some o:=λha ho=>by
  rw [ai (aL ha h.hi ho)]
  exact ha
 have kt:∀a xs,H a=some (.tup xs)->(upd H im (iX P w im (S.IM++[(t,b,.int (i:Int))]))) a=some (.tup xs):=λa xs ha=>k ha (by intro z; cases z)
 refine ⟨k h.hy (by intro z; cases z),k h.hn (by intro z; cases z),k h.hs (by intro z; cases z),k h.hd (by intro z; cases z),Paired.cy h.ht λ_ _ e=>kt _ _ e,k h.hk (by intro z; cases z),k h.hc (by intro z; cases z),h.ck,ae,λp hp=>?_,k h.he (by intro z; cases z),
  λkv bf=>let ⟨i,a,b,c⟩:=h.ek kv bf; ⟨i,a,b,c.keep kt⟩,h.e0,h.fs,h.nn,h.ns,h.n8,h.d1,h.d2,h.d3⟩
 rcases List.mem_append.mp hp with hp | hp
 . exact ⟨(h.ik p hp).1.keep kt,(h.ik p hp).2⟩
 . rw [List.mem_singleton] at hp
   subst hp
   exact ⟨hk.keep kt,i,hi,rfl,ht⟩
theorem FO.Kv (h:FO P w C H y dy nm sp nd kn ch im ex names S){v:V}{i:Nat}(hv:cL H (ak S.TS i) v) (hi:i<S.N.length) (hn:aR S.EX (.inl (i:Int))=none) :
 FO P w C (upd H ex (.dK (S.EX++[(.inl (i:Int),v)]))) y dy nm sp nd kn ch im ex names { S with EX:=S.EX++[(.inl (i:Int),v)] }:=by
 have k:∀{a:Addr}{o:HO},H a=some o->(∀q,o≠.dK q)->(upd H ex (.dK (S.EX++[(.inl (i:Int),v)]))) a=some o:=λha ho=>by
  rw [ai (aL ha h.he (ho _))]
  exact ha
 have kt:∀a xs,H a=some (.tup xs)->(upd H ex (.dK (S.EX++[(.inl (i:Int),v)]))) a=some (.tup xs):=λa xs ha=>k ha (by intro _ z; cases z)
 refine ⟨k h.hy (by intro _ z; cases z),k h.hn (by intro _ z; cases z),by rw [ai h.d3]; exact h.hs,k h.hd (by intro _ z; cases z),Paired.cy h.ht λ_ _ e=>kt _ _ e,k h.hk (by intro _ z; cases z),k h.hc (by intro _ z; cases z),h.ck,k h.hi (by intro _ z; cases z),λp hp=>⟨(h.ik p hp).1.keep kt,(h.ik p hp).2⟩,ae,
  λkv bf=>?_,?_,h.fs,h.nn,h.ns,h.n8,h.d1,h.d2,h.d3⟩
 . rcases List.mem_append.mp bf with bf | bf
   . obtain ⟨i,a,b,c⟩:=h.ek kv bf
     exact ⟨i,a,b,c.keep kt⟩
   . rw [List.mem_singleton] at bf
     subst bf
     exact ⟨i,rfl,hi,hv.keep kt⟩
 . have old:∀(c:Int) (u:V),aR S.EX (.inl c)=some u->aR (S.EX++[(.inl (i:Int),v)]) (.inl c)=some u:=λc u hc=>by
    rw [nr _ _ _ _ hn,if_neg (λz=>by rw [z,hn] at hc; cases hc)]
    exact hc
   exact ⟨old 0 _ h.e0.1,old 1 _ h.e0.2⟩
theorem FO.Kw (h:FO P w C H y dy nm sp nd kn ch im ex names S){k':List Key}{u:V}(hc:pG S.N S.TS (k',u)) :
 FO P w C (upd H ch (.dT (putK S.CH k' u))) y dy nm sp nd kn ch im ex names { S with CH:=putK S.CH k' u }:=by
 have k:∀{a:Addr}{o:HO},H a=some o->(∀q,o≠.dT q)->(upd H ch (.dT (putK S.CH k' u))) a=some o:=λha ho=>by
  rw [ai (aL ha h.hc (ho _))]
  exact ha
 have kt:∀a xs,H a=some (.tup xs)->(upd H ch (.dT (putK S.CH k' u))) a=some (.tup xs):=λa xs ha=>k ha (by intro _ z; cases z)
 refine ⟨k h.hy (by intro _ z; cases z),k h.hn (by intro _ z; cases z),k h.hs (by intro _ z; cases z),k h.hd (by intro _ z; cases z),Paired.cy h.ht λ_ _ e=>kt _ _ e,by rw [ai h.d2]; exact h.hk,ae,λe' he=>?_,k h.hi (by intro _ z; cases z),λp hp=>⟨(h.ik p hp).1.keep kt,(h.ik p hp).2⟩,k h.he (by intro _ z; cases z),
  λkv bf=>let ⟨i,a,b,c⟩:=h.ek kv bf; ⟨i,a,b,c.keep kt⟩,h.e0,h.fs,h.nn,h.ns,h.n8,h.d1,h.d2,h.d3⟩
 rcases pH he with he | he
 . exact h.ck e' he
 . subst he
   exact hc
def kW (P:Program) (w:World) (C:Addr) (d:Nat):Sp:=λvs H Q _=>∃(y dy nm sp nd kn ch im ex:Addr) (names:List Str) (S:bZ) (t:Tr) (v:V) (b:Nat),vs=[.ref y,v]/\FO P w C H y dy nm sp nd kn ch im ex names S/\cL H t v/\cq names t/\t.dep<d/\Bd S b/\b+fi t<4000000/\
 ∀(n:Nat) (S':bZ) (H':Hp),FO P w C H' y dy nm sp nd kn ch im ex names S'->Kp H H' nd kn ch im ex->cS S S'->Bd S' (b+fi t)->S'.CH=S.CH->S'.EX=S.EX->(∀p∈S'.IM,p∈S.IM\/p.1.dep<=t.dep)->n<S'.N.length->ak S'.TS n=t->Q (.int (n:Int)) H'
abbrev SE:List Str:=["self", "tree", "number"]
theorem Cu:aZ SE ["self", "tree"] (ao jz):=⟨rfl,rfl,rfl,by decide +kernel,rfl,by decide +kernel,by decide +kernel⟩
theorem OW {A:Around}{k:Nat}(hr:bw k A):A.units+17<cLine:=by have:=hr.un; omega
theorem dJ:Kp H H nd kn ch im ex:=λ_ _ h _ _ _ _ _=>h
theorem Cv {f fN:Addr}{fd dN:FuncData}{d k:Nat}(F:cw K "taken" "Forest.taken" jz f fd) (T:eP K mg C) (G:av P w K mg base aE (k+1) f fd ["self", "tree"] (kW P w C d)) (mT:Meth K C "taken" f) (bT:Binds K fd ["self", "tree"] [])
 (gN:av P w K mg base aE 1 fN dN hZ (g9 P w C)) (mN:Meth K C "node" fN) (bN:Binds K dN hZ []):av P w K mg base aE (k+1+1) f fd ["self", "tree"] (kW P w C (d+1)):=by
 refine F.ok Cu (λvs H Q E h=>?_) (λcdv A outer s H vs Q E hr h=>?_)
 . obtain ⟨y,dy,nm,sp,nd,kn,ch,im,ex,names,S,t,v,b,rfl,_⟩:=h
   rfl
 . obtain ⟨y,dy,nm,sp,nd,kn,ch,im,ex,names,S,t,v,b,rfl,hO,hv,hc,hd,hB,hb,kk⟩:=h
   have hu:=iD hr
   have MJ:=OW hr
   have ef:=hr.mono (Nat.succ_le_succ (Nat.zero_le k))
   refine ⟨_,ag (bF (fu (AN (pv 1))) (aq (aK ah)) aY)
    (ag (bF (fu (AN (pv 1))) (aq (aK ah)) aY)
    (ag (ax (i:=2) Cu.nd rfl (Or.inl rfl) (Ff MJ (bX (pv 0) rfl) (pv 1) ⟨rfl,rfl,rfl,rfl⟩))
    (ag (bF (fu (pS (pv 2)))
     (ag (ax (i:=2) Cu.nd rfl (Or.inl rfl) (bb (pv 0) T.cl mN gN ef bN .nil aB (aa (ij hu (bX (pv 0) rfl) (aS (r:=cW K) bQ (pv 1) ah (λ_ _=>rfl)) (λ_ _=>rfl))
      (aa (bb (pv 0) T.cl mT G hr bT .nil aB (aa (aS (r:=cW K) bQ (pv 1) ah (λ_ _=>rfl)) af))
      (aa (bb (pv 0) T.cl mT G hr bT .nil aB (aa (aS (r:=cW K) bQ (pv 1) ah (λ_ _=>rfl)) af)) af)))))
     (aq (Fg MJ (bX (pv 0) rfl) (pv 1) (pv 2) rfl))) aY)
    (aq (aK (pv 2)))))),?_⟩
   cases t with
   | leaf c=>
    cases (show v=.bl c from hv)
    have two:=hO.fs.two
    cases c
    . refine ⟨_,rfl,.inl ⟨_,rfl,_,rfl,bJ rfl ?_⟩⟩
      refine ⟨_,rfl,.inl ⟨_,rfl,_,rfl,bY rfl ?_⟩⟩
      exact kk 0 S H hO dJ (.refl S) (hB.up (Nat.le_add_right ..)) rfl rfl (λp hp=>.inl hp) (by omega) hO.fs.t0
    . refine ⟨_,rfl,.inl ⟨_,rfl,_,rfl,bY rfl ?_⟩⟩
      exact kk 1 S H hO dJ (.refl S) (hB.up (Nat.le_add_right ..)) rfl rfl (λp hp=>.inl hp) (by omega) hO.fs.t1
   | node n l r=>
    obtain ⟨a,vl,vr,rfl,ha,hl,hR⟩:=hv
    have fk:iq H (.node n l r) a:=⟨⟨a,vl,vr,rfl,ha,hl,hR⟩,Nat.le_trans (eZ hc) hO.n8,Fh hc hO.ns⟩
    refine ⟨_,rfl,.inr ⟨_,rfl,_,rfl,bJ rfl ?_⟩⟩
    refine ⟨_,rfl,.inr ⟨_,rfl,_,rfl,bJ rfl ?_⟩⟩
    refine ⟨_,rfl,y,C,dy,_,_,rfl,hO.hy,T.cl,T.n6,G9 ..,im,_,rfl,hO.hi,_,rfl,_,a,rfl,hO.hi,fk,λp hp=>(hO.ik p hp).1,?_⟩
    cases oT:fZ S.IM (.node n l r) with
    | some u=>
     obtain ⟨b',hm⟩:=yD oT
     obtain ⟨_,i,hi,e1,e2⟩:=hO.ik _ hm
     cases (show u=.int (i:Int) from e1)
     refine ⟨_,rfl,_,rfl,bJ rfl ⟨_,rfl,?_⟩⟩
     exact kk i S H hO dJ (.refl S) (hB.up (Nat.le_add_right ..)) rfl rfl (λp hp=>.inl hp) hi e2
    | none=>
     obtain ⟨j,hj,gr,cl,cr⟩:=xC hc
     have AQ:=(List.getElem?_eq_some_iff.mp hj).1
     have xw:cq names l:=eO (i:=0) (ns:=names) cl (Nat.zero_le _)
     have SF:cq names r:=eO (i:=0) (ns:=names) cr (Nat.zero_le _)
     have hsz:fi (.node n l r)=fi l+fi r+2:=rfl
     have yG:(Tr.node n l r).dep=max l.dep r.dep+1:=rfl
     refine ⟨_,rfl,_,rfl,bY rfl ?_⟩
     refine ⟨_,rfl,y,dy,_,rfl,hO.hy,jy _ _ _ _ _ _ _ (by decide +kernel) (by decide +kernel) (by decide +kernel) (by decide +kernel) (by decide +kernel) (by decide +kernel) (by decide +kernel),?_⟩
     refine ⟨_,rfl,y,C,dy,_,_,rfl,hO.hy,T.cl,T.n2,G6 ..,_,rfl,a,_,0,_,rfl,rfl,aT.of ha,aF (j:=0) rfl,sp,.int ((0+j:Nat):Int),rfl,?_,?_⟩
     . have:=cG.k (k:=.inr n) hO.hs
       rw [uT names 0 j n hO.nn hj] at this
       exact this
     refine ⟨_,rfl,y,dy,_,rfl,hO.hy,jy _ _ _ _ _ _ _ (by decide +kernel) (by decide +kernel) (by decide +kernel) (by decide +kernel) (by decide +kernel) (by decide +kernel) (by decide +kernel),?_⟩
     refine ⟨_,rfl,a,_,1,_,rfl,rfl,aT.of ha,aF (j:=1) rfl,?_⟩
     refine ⟨y,dy,nm,sp,nd,kn,ch,im,ex,names,S,l,vl,b,rfl,hO,hl,xw,by omega,hB,by omega,λn1 S1 H1 aM k1 g1 B1 c1 x1 i1 l1 t1=>?_⟩
     have oO:=hO.dr k1 _ _ ha
     refine ⟨_,rfl,y,dy,_,rfl,aM.hy,jy _ _ _ _ _ _ _ (by decide +kernel) (by decide +kernel) (by decide +kernel) (by decide +kernel) (by decide +kernel) (by decide +kernel) (by decide +kernel),?_⟩
     refine ⟨_,rfl,a,_,2,_,rfl,rfl,aT.of oO,aF (j:=2) rfl,?_⟩
     refine ⟨y,dy,nm,sp,nd,kn,ch,im,ex,names,S1,r,vr,b+fi l,rfl,aM,hR.keep (hO.dr k1),SF,by omega,B1,by omega,λn2 S2 H2 cv k2 g2 B2 c2 x2 i2 l2 t2=>?_⟩
     have sO:n1<S2.N.length:=Nat.lt_of_lt_of_le l1 g2.le
     have sP:ak S2.TS n1=l:=by rw [g2.ak (by rw [← aM.fs.len]; exact l1)]; exact t1
     refine ⟨y,dy,nm,sp,nd,kn,ch,im,ex,names,S2,j,n1,n2,b+fi l+fi r,by rw [Nat.zero_add]; rfl,cv,AQ,sO,l2,cv.fs.Ho cv.nn sO AQ (by rw [sP]; exact cl),cv.fs.Ho cv.nn l2 AQ (by rw [t2]; exact cr),B2,by omega,λn3 S3 H3 cQ k3 g3 B3 c3 m3 x3 l3 s3 t3=>?_⟩
     have uW:=(k1.trans k2).trans k3
     have MK:ak S3.TS n3=.node n l r:=by
      rw [t3,sP,t2,if_neg (λz=>gr (by rw [← sP,← t2,z])),List.getD_eq_getElem?_getD,hj]
      rfl
     have DK:iq H3 (.node n l r) a:=fk.keep (hO.dr uW)
     have iW:fZ S3.IM (.node n l r)=none:=yE λp hp z=>by
      rw [m3] at hp
      rcases i2 p hp with hp | hp
      . rcases i1 p hp with hp | hp
        . exact Ct oT p hp z
        . rw [z] at hp
          omega
      . rw [z] at hp
        omega
     refine ⟨_,rfl,_,rfl,y,C,dy,_,_,rfl,cQ.hy,T.cl,T.n6,G9 ..,_,rfl,im,S3.IM,_,a,rfl,rfl,cQ.hi,DK,λp hp=>(cQ.ik p hp).1,iW,big (by have:=B3.b3; omega),?_⟩
     have hJ:=cQ.Ku DK l3 MK
     refine ⟨_,rfl,kk n3 _ _ hJ (uW.trans (yF (.inr (.inr (.inr (.inl rfl)))))) ((g1.trans g2).trans ⟨g3.gn,g3.gt⟩) ((B3.Sz _).up (by omega)) (c3.trans (c2.trans c1)) (x3.trans (x2.trans x1)) (λp hp=>?_) l3 MK⟩
     rcases List.mem_append.mp hp with hp | hp
     . rw [m3] at hp
       rcases i2 p hp with hp | hp
       . rcases i1 p hp with hp | hp
         . exact .inl hp
         . exact .inr (by omega)
       . exact .inr (by omega)
     . rw [List.mem_singleton] at hp
       subst hp
       exact .inr (Nat.le_refl _)
def jA (P:Program) (w:World) (C:Addr) (d:Nat):Sp:=λvs H Q _=>∃(y dy nm sp nd kn ch im ex:Addr) (names:List Str) (S:bZ) (n b:Nat),vs=[.ref y,.int (n:Int)]/\FO P w C H y dy nm sp nd kn ch im ex names S/\n<S.N.length/\(ak S.TS n).dep<d/\Bd S b/\b+fi (ak S.TS n)<4000000/\
 ∀(v:V) (S':bZ) (H':Hp),FO P w C H' y dy nm sp nd kn ch im ex names S'->Kp H H' nd kn ch im ex->S'.N=S.N->S'.TS=S.TS->Bd S' (b+fi (ak S.TS n))->(∀kv∈S'.EX,kv∈S.EX\/∃i:Nat,kv.1=.inl (i:Int)/\(ak S.TS i).dep<=(ak S.TS n).dep)->cL H' (ak S.TS n) v->Q v H'
abbrev SG:List Str:=["self", "number", "tree", "node"]
theorem yH:aZ SG ["self", "number"] (ao iu):=⟨rfl,rfl,rfl,by decide +kernel,rfl,by decide +kernel,by decide +kernel⟩
theorem yI {f:Addr}{fd:FuncData}{d k:Nat}(F:cw K "tree_at" "Forest.tree_at" iu f fd) (T:eP K mg C) (G:av P w K mg base aE k f fd ["self", "number"] (jA P w C d)) (mT:Meth K C "tree_at" f) (bT:Binds K fd ["self", "number"] []) :
 av P w K mg base aE (k+1) f fd ["self", "number"] (jA P w C (d+1)):=by
 refine F.ok yH (λvs H Q E h=>?_) (λcdv A outer s H vs Q E hr h=>?_)
 . obtain ⟨y,dy,nm,sp,nd,kn,ch,im,ex,names,S,n,b,rfl,_⟩:=h
   rfl
 . obtain ⟨y,dy,nm,sp,nd,kn,ch,im,ex,names,S,n,b,rfl,hO,hn,hd,hB,hb,kk⟩:=h
   have hu:=iD hr
   refine ⟨_,ag (ax (i:=2) yH.nd rfl (Or.inl rfl) (pe hu (bX (pv 0) rfl) (pv 1) ⟨rfl,rfl,rfl,rfl⟩))
    (ag (bF (fu (pS (pv 2)))
     (ag (ax (i:=3) yH.nd rfl (Or.inl rfl) (aS (r:=dt K) bz (bX (pv 0) rfl) (pv 1) (λ_ _=>rfl)))
     (ag (ax (i:=2) yH.nd rfl (Or.inl rfl) (dE (aa (aS (r:=dt K) bz (bX (pv 0) rfl) (aS (r:=cW K) bQ (pv 3) ah (λ_ _=>rfl)) (λ_ _=>rfl))
      (aa (bb (pv 0) T.cl mT G hr bT .nil aB (aa (aS (r:=cW K) bQ (pv 3) ah (λ_ _=>rfl)) af))
      (aa (bb (pv 0) T.cl mT G hr bT .nil aB (aa (aS (r:=cW K) bQ (pv 3) ah (λ_ _=>rfl)) af)) af)))))
     (aq (jc hu (bX (pv 0) rfl) (pv 1) (pv 2) rfl)))) aY)
    (aq (aK (pv 2)))),?_⟩
   refine ⟨_,rfl,y,C,dy,_,_,rfl,hO.hy,T.cl,T.n7,Hn ..,ex,rfl,.inl ⟨_,.inl hO.he⟩,_,rfl,_,cG.k (k:=.inl (n:Int)) hO.he,?_⟩
   cases hv:aR S.EX (.inl (n:Int)) with
   | some v=>
    obtain ⟨i,e1,i1,i2⟩:=hO.ek _ (iR hv)
    have ei:i=n:=by have:=Sum.inl.inj e1; omega
    subst ei
    have GL:v≠.aX:=λz=>by
     have i3:cL H (ak S.TS i) v:=i2
     rw [z] at i3
     cases ht:ak S.TS i with
     | leaf c=>rw [ht] at i3; cases (show V.aX=.bl c from i3)
     | node a l r=>rw [ht] at i3; obtain ⟨_,_,_,z,_⟩:=i3; cases z
    refine ⟨_,rfl,_,rfl,bJ (decide_eq_false GL) ⟨_,rfl,?_⟩⟩
    exact kk v S H hO dJ rfl rfl (hB.up (Nat.le_add_right ..)) (λkv h=>.inl h) i2
   | none=>
    have n2:2<=n:=Nat.le_of_not_lt λq=>by
     rcases (show n=0\/n=1 by omega) with rfl | rfl
     . rw [show ((0:Nat):Int)=0 from rfl,hO.e0.1] at hv
       cases hv
     . rw [show ((1:Nat):Int)=1 from rfl,hO.e0.2] at hv
       cases hv
    obtain ⟨a1,a2,a3,a4,a5,a6,a7⟩:=hO.fs.nd n n2 hn
    have rG:low S.N n<S.N.length:=by omega
    have uX:cM S.N n<S.N.length:=by omega
    have hsz:fi (ak S.TS n)=fi (ak S.TS (low S.N n))+fi (ak S.TS (cM S.N n))+2:=by rw [a7]; rfl
    have yG:(ak S.TS n).dep=max (ak S.TS (low S.N n)).dep (ak S.TS (cM S.N n)).dep+1:=by rw [a7]; rfl
    obtain ⟨t,h1,h2⟩:=hO.node hn
    refine ⟨_,rfl,_,rfl,bY rfl ?_⟩
    refine ⟨_,rfl,y,C,dy,_,_,rfl,hO.hy,T.cl,T.n3,lU ..,_,rfl,nd,_,_,.ref t,rfl,rfl,ay.of hO.hd,aF (by rw [List.getElem?_map,h1]; rfl),?_⟩
    refine ⟨_,rfl,y,C,dy,_,_,rfl,hO.hy,T.cl,T.n1,Cr ..,_,rfl,t,_,0,_,rfl,rfl,aT.of h2,aF (j:=0) rfl,nm,_,_,.str (names.getD (au S.N n) ""),rfl,rfl,ay.of hO.hn,aF (by rw [List.getElem?_map]; exact (show names[au S.N n]?.map V.str=some (.str (names.getD (au S.N n) "")) by rw [List.getD_eq_getElem?_getD,List.getElem?_eq_getElem a1]; rfl)),?_⟩
    refine ⟨_,rfl,y,dy,_,rfl,hO.hy,jy _ _ _ _ _ _ _ (by decide +kernel) (by decide +kernel) (by decide +kernel) (by decide +kernel) (by decide +kernel) (by decide +kernel) (by decide +kernel),?_⟩
    refine ⟨_,rfl,t,_,1,_,rfl,rfl,aT.of h2,aF (j:=1) rfl,?_⟩
    refine ⟨y,dy,nm,sp,nd,kn,ch,im,ex,names,S,low S.N n,b,rfl,hO,rG,by omega,hB,by omega,λv1 S1 H1 aM k1 g1 t1 B1 x1 r1=>?_⟩
    have SH:=hO.dr k1 _ _ h2
    refine ⟨_,rfl,y,dy,_,rfl,aM.hy,jy _ _ _ _ _ _ _ (by decide +kernel) (by decide +kernel) (by decide +kernel) (by decide +kernel) (by decide +kernel) (by decide +kernel) (by decide +kernel),?_⟩
    refine ⟨_,rfl,t,_,2,_,rfl,rfl,aT.of SH,aF (j:=2) rfl,?_⟩
    refine ⟨y,dy,nm,sp,nd,kn,ch,im,ex,names,S1,cM S.N n,b+fi (ak S.TS (low S.N n)),rfl,aM,by rw [g1]; exact uX,by rw [t1]; omega,B1,by rw [t1]; omega,λv2 S2 H2 cv k2 g2 t2 B2 x2 r2=>?_⟩
    rw [t1] at t2 B2 x2 r2
    refine ⟨(by show 3<=sizeLine; decide),λq hq=>?_⟩
    have s3:aj H2 (upd H2 q (.tup [.str (names.getD (au S.N n) ""),v1,v2])):=aj.ar hq
    have q3:(upd H2 q (.tup [.str (names.getD (au S.N n) ""),v1,v2])) q=some (.tup [.str (names.getD (au S.N n) ""),v1,v2]):=ae
    show dj _ _ _ _ (upd H2 q (.tup [.str (names.getD (au S.N n) ""),v1,v2]))
    generalize upd H2 q (.tup [.str (names.getD (au S.N n) ""),v1,v2])=H3 at s3 q3 ⊢
    have cQ:=cv.same s3
    have ML:∀a xs,H2 a=some (.tup xs)->H3 a=some (.tup xs):=λa xs h=>s3 _ _ h
    have uW:=(k1.trans k2).trans (Kp.of s3)
    have hT:cL H3 (ak S.TS n) (.ref q):=by
     rw [a7]
     exact ⟨q,v1,v2,rfl,q3,(r1.keep (aM.dr k2)).keep ML,r2.keep ML⟩
    have iW:aR S2.EX (.inl (n:Int))=none:=nF λkv bf z=>by
     rcases x2 kv bf with bf | ⟨i,e1,e2⟩
     . rcases x1 kv bf with bf | ⟨i,e1,e2⟩
       . exact xB hv kv bf z
       . rw [e1] at z
         have:i=n:=by have:=Sum.inl.inj z; omega
         rw [this] at e2
         omega
     . rw [e1] at z
       have:i=n:=by have:=Sum.inl.inj z; omega
       rw [this] at e2
       omega
    refine ⟨_,rfl,_,rfl,y,C,dy,_,_,rfl,cQ.hy,T.cl,T.n7,Hn ..,_,rfl,ex,_,rfl,gJ.k (k:=.inl (n:Int)) cQ.he (big (by have:=B2.b4; omega)),?_⟩
    rw [lK _ iW]
    have hJ:=cQ.Kv (i:=n) (v:=.ref q) (by rw [t2]; exact hT) (by rw [g2,g1]; exact hn) iW
    refine ⟨_,rfl,kk (.ref q) _ _ hJ (uW.trans (yF (.inr (.inr (.inr (.inr rfl)))))) (g2.trans g1) t2 ((B2.SA _).up (by omega)) (λkv bf=>?_) (hT.keep λa xs e=>by rw [ai (aL e cQ.he (by intro z; cases z))]; exact e)⟩
    rcases List.mem_append.mp bf with bf | bf
    . rcases x2 kv bf with bf | ⟨i,e1,e2⟩
      . rcases x1 kv bf with bf | ⟨i,e1,e2⟩
        . exact .inl bf
        . exact .inr ⟨i,e1,by omega⟩
      . exact .inr ⟨i,e1,by omega⟩
    . rw [List.mem_singleton] at bf
      subst bf
      exact .inr ⟨n,rfl,Nat.le_refl _⟩
end
end Gen
namespace Gen
open PySem L2
abbrev iw:Stmt:=inClass (top 4) 5
def cst:Nat->Nat
 | 0=>0
 | d+1=>2*cst d+2
def hf (N:List Nd) (s:Nat) (b:Bool) (n:Nat):Nat:=if au N n=s then (if b=true then cM N n else low N n) else n
section
variable {names:List Str}{N:List Nd}{TS:List Tr}
theorem FS.at2 (h:FS names N TS){n:Nat}(hn:n<N.length) (hs:au N n<names.length):2<=n:=Nat.le_of_not_lt λq=>by
 unfold au at hs
 rcases (show n=0\/n=1 by omega) with rfl | rfl
 . rw [h.z0] at hs
   exact Nat.lt_irrefl _ hs
 . rw [h.z1] at hs
   exact Nat.lt_irrefl _ hs
theorem FS.yJ (h:FS names N TS){n s:Nat}{b:Bool}(hn:n<N.length) (hs:s<names.length):hf N s b n<N.length:=by
 unfold hf
 split
 . next e=>
   obtain ⟨_,a2,a3,_⟩:=h.nd n (h.at2 hn (by omega)) hn
   split <;> omega
 . exact hn
theorem FS.uY (h:FS names N TS){n s:Nat}{b:Bool}(hn:n<N.length) (hs:s<names.length) (hle:s<=au N n):s<au N (hf N s b n):=by
 unfold hf
 split
 . next e=>
   obtain ⟨_,_,_,_,a5,a6,_⟩:=h.nd n (h.at2 hn (by omega)) hn
   split <;> omega
 . next e=>omega
theorem FS.yK (h:FS names N TS){n s:Nat}(hn:n<N.length) (hs:s<names.length) (v:Str->Bool):ev v (ak TS n)=if v (names.getD s "")=true then ev v (ak TS (hf N s true n)) else ev v (ak TS (hf N s false n)):=by
 unfold hf
 by_cases e:au N n=s
 . obtain ⟨_,_,_,_,_,_,a7⟩:=h.nd n (h.at2 hn (by omega)) hn
   rw [if_pos e,if_pos e,a7,e]
   rfl
 . rw [if_neg e,if_neg e]
   split <;> rfl
end
def gf (P:Program) (w:World) (C:Addr) (d:Nat):Sp:=λvs H Q _=>∃(y dy nm sp nd kn ch im ex:Addr) (names:List Str) (S:bZ) (t h l b:Nat),vs=[.ref y,.int (t:Int),.int (h:Int),.int (l:Int)]/\FO P w C H y dy nm sp nd kn ch im ex names S/\t<S.N.length/\h<S.N.length/\l<S.N.length/\names.length-min (au S.N t) (min (au S.N h) (au S.N l))<d/\Bd S b/\b+cst d<4000000/\
 ∀(n:Nat) (S':bZ) (H':Hp),FO P w C H' y dy nm sp nd kn ch im ex names S'->Kp H H' nd kn ch im ex->cS S S'->Bd S' (b+cst d)->S'.IM=S.IM->S'.EX=S.EX->n<S'.N.length->(∀v,ev v (ak S'.TS n)=if ev v (ak S.TS t)=true then ev v (ak S.TS h) else ev v (ak S.TS l))->min (au S.N t) (min (au S.N h) (au S.N l))<=au S'.N n->Q (.int (n:Int)) H'
abbrev SI:List Str:=["self", "test", "high", "low", "key", "number", "spot", "lows", "highs"]
abbrev jB:List Str:=["self", "test", "high", "low"]
theorem pI:aZ SI jB (ao iw):=⟨rfl,rfl,rfl,by decide +kernel,rfl,by decide +kernel,by decide +kernel⟩
section
variable {P:Program}{w:World}{K:W.Frag}{mg:Str->Option Value}{base:Heap}{C:Addr}
theorem AR {f fN fH:Addr}{fd dN dH:FuncData}{d k:Nat}(F:cw K "chosen" "Forest.chosen" iw f fd) (T:eP K mg C) (O2:gc mg) (G:av P w K mg base aE (k+1) f fd jB (gf P w C d)) (mC:Meth K C "chosen" f) (bC:Binds K fd jB [])
 (gN:av P w K mg base aE 1 fN dN hZ (g9 P w C)) (mN:Meth K C "node" fN) (bN:Binds K dN hZ [])
 (gH:av P w K mg base aE 1 fH dH ["self", "number", "spot", "side"] (qG P w C)) (mH:Meth K C "half" fH) (bH:Binds K dH ["self", "number", "spot", "side"] []):av P w K mg base aE (k+1+1) f fd jB (gf P w C (d+1)):=by
 refine F.ok pI (λvs H Q E h=>?_) (λcdv A outer s H vs Q E hr h=>?_)
 . obtain ⟨y,dy,nm,sp,nd,kn,ch,im,ex,names,S,t,h,l,b,rfl,_⟩:=h
   rfl
 . obtain ⟨y,dy,nm,sp,nd,kn,ch,im,ex,names,S,t,h,l,b,rfl,hO,ht,hh,hl,hd,hB,hb,kk⟩:=h
   have hu:=iD hr
   have ef:=hr.mono (Nat.succ_le_succ (Nat.zero_le k))
   refine ⟨_,ag (bF (PW.pt (nY (bj dX (pv 1) ah (br _)) (pT (bj dX (pv 2) (pv 3) (br _))))) (aq (aK (pv 2))) aY)
    (ag (bF (bj dX (pv 1) ah (br _)) (aq (aK (pv 3))) aY)
    (ag (ax (i:=4) pI.nd rfl (Or.inl rfl) (dE (aa (pv 1) (aa (pv 2) (aa (pv 3) af)))))
    (ag (ax (i:=5) pI.nd rfl (Or.inl rfl) (pe hu (bX (pv 0) rfl) (pv 4) ⟨rfl,rfl,rfl,rfl⟩))
    (ag (bF (fu (pS (pv 5)))
     (ag (ax (i:=6) pI.nd rfl (Or.inl rfl) (aU (AO rfl) (by rfl) O2.min PyProof.Rows.boot_min (aa (aS (r:=cW K) bQ (aS (r:=dt K) bz (bX (pv 0) rfl) (pv 1) (λ_ _=>rfl)) ah (λ_ _=>rfl))
      (aa (aS (r:=cW K) bQ (aS (r:=dt K) bz (bX (pv 0) rfl) (pv 2) (λ_ _=>rfl)) ah (λ_ _=>rfl)) (aa (aS (r:=cW K) bQ (aS (r:=dt K) bz (bX (pv 0) rfl) (pv 3) (λ_ _=>rfl)) ah (λ_ _=>rfl)) af)))))
     (ag (ax (i:=7) pI.nd rfl (Or.inl rfl) (bb (pv 0) T.cl mC G hr bC .nil aB (aa (bb (pv 0) T.cl mH gH ef bH .nil aB (aa (pv 1) (aa (pv 6) (aa ah af))))
      (aa (bb (pv 0) T.cl mH gH ef bH .nil aB (aa (pv 2) (aa (pv 6) (aa ah af)))) (aa (bb (pv 0) T.cl mH gH ef bH .nil aB (aa (pv 3) (aa (pv 6) (aa ah af)))) af)))))
     (ag (ax (i:=8) pI.nd rfl (Or.inl rfl) (bb (pv 0) T.cl mC G hr bC .nil aB (aa (bb (pv 0) T.cl mH gH ef bH .nil aB (aa (pv 1) (aa (pv 6) (aa ah af))))
      (aa (bb (pv 0) T.cl mH gH ef bH .nil aB (aa (pv 2) (aa (pv 6) (aa ah af)))) (aa (bb (pv 0) T.cl mH gH ef bH .nil aB (aa (pv 3) (aa (pv 6) (aa ah af)))) af)))))
     (ag (ax (i:=5) pI.nd rfl (Or.inl rfl) (bb (pv 0) T.cl mN gN ef bN .nil aB (aa (pv 6) (aa (pv 7) (aa (pv 8) af)))))
     (aq (jc hu (bX (pv 0) rfl) (pv 4) (pv 5) rfl)))))) aY)
    (aq (aK (pv 5))))))),?_⟩
   have Wl:cst (d+1)=2*cst d+2:=rfl
   have eK:∀{H1:Hp}{n:Nat},FO P w C H1 y dy nm sp nd kn ch im ex names S->Kp H H1 nd kn ch im ex->n<S.N.length->(∀v,ev v (ak S.TS n)=if ev v (ak S.TS t)=true then ev v (ak S.TS h) else ev v (ak S.TS l))->min (au S.N t) (min (au S.N h) (au S.N l))<=au S.N n->Q (.int (n:Int)) H1:=
    λo1 k1 n1 v1 m1=>kk _ S _ o1 k1 (.refl S) (hB.up (Nat.le_add_right ..)) rfl rfl n1 v1 m1
   refine ⟨_,rfl,rfl,_,rfl,?_⟩
   by_cases e1:t=1
   . refine bY (decide_eq_true (by rw [e1]; rfl)) (bY rfl ⟨_,rfl,eK hO dJ hh (λv=>?_) (by omega)⟩)
     rw [e1,hO.fs.t1]
     exact (if_pos rfl).symm
   refine bJ (decide_eq_false λz=>e1 (by have:=V.int.inj z; omega)) ⟨_,rfl,_,rfl,rfl,_,rfl,?_⟩
   by_cases e2:h=l
   . refine bY (decide_eq_true (by rw [e2])) ⟨_,rfl,eK hO dJ hh (λv=>?_) (by omega)⟩
     rw [e2]
     split <;> rfl
   refine bJ (decide_eq_false λz=>e2 (by have:=V.int.inj z; omega)) ⟨_,rfl,rfl,_,rfl,?_⟩
   by_cases e3:t=0
   . refine bY (decide_eq_true (by rw [e3]; rfl)) ⟨_,rfl,eK hO dJ hl (λv=>?_) (by omega)⟩
     rw [e3,hO.fs.t0]
     exact (if_neg (λz=>by cases z)).symm
   refine bJ (decide_eq_false λz=>e3 (by have:=V.int.inj z; omega)) ?_
   refine ⟨_,rfl,_,rfl,_,rfl,(by show 3<=sizeLine; decide),λq hq=>?_⟩
   have q1:(upd H q (.tup (fh (t,h,l)))) q=some (.tup (fh (t,h,l))):=ae
   have s1:aj H (upd H q (.tup (fh (t,h,l)))):=aj.ar hq
   show dj _ _ _ _ (upd H q (.tup (fh (t,h,l))))
   generalize upd H q (.tup (fh (t,h,l)))=H1 at q1 s1 ⊢
   have aM:=hO.same s1
   have fk:H1 q=some (.tup ((iQ (t,h,l)).map kV)):=q1
   refine ⟨_,rfl,y,C,dy,_,_,rfl,aM.hy,T.cl,T.n5,G8 ..,ch,rfl,.inr ⟨_,.inl aM.hc⟩,_,rfl,_,cG.t (k:=iQ (t,h,l)) aM.hc fk,?_⟩
   cases hv:aR S.CH (iQ (t,h,l)) with
   | some u=>
    obtain ⟨t',h',l',n,ek,en,_,_,_,l4,nG,SJ⟩:=aM.ck _ (iR hv)
    have SK:=rF (p:=(t,h,l)) (q:=(t',h',l')) ek
    cases SK
    cases (show u=.int (n:Int) from en)
    exact ⟨_,rfl,_,rfl,bJ rfl ⟨_,rfl,eK aM (.of s1) l4 nG SJ⟩⟩
   | none=>
    have tl:au S.N t<names.length:=(hO.fs.nd t (by omega) ht).1
    refine ⟨_,rfl,_,rfl,bY rfl ?_⟩
    obtain ⟨r1,x1,SM⟩:=aM.node ht
    obtain ⟨r2,x2,SN⟩:=aM.node hh
    obtain ⟨r3,x3,SO⟩:=aM.node hl
    obtain ⟨s0,SQ⟩:∃s0,s0=min (au S.N t) (min (au S.N h) (au S.N l)):=⟨_,rfl⟩
    have oU:s0<names.length:=by omega
    refine ⟨_,rfl,y,C,dy,_,_,rfl,aM.hy,T.cl,T.n3,lU ..,_,rfl,nd,_,_,.ref r1,rfl,rfl,ay.of aM.hd,aF (by rw [List.getElem?_map,x1]; rfl),r1,_,0,.int (au S.N t:Int),rfl,rfl,aT.of SM,aF (j:=0) rfl,?_⟩
    refine ⟨_,rfl,y,C,dy,_,_,rfl,aM.hy,T.cl,T.n3,lU ..,_,rfl,nd,_,_,.ref r2,rfl,rfl,ay.of aM.hd,aF (by rw [List.getElem?_map,x2]; rfl),r2,_,0,.int (au S.N h:Int),rfl,rfl,aT.of SN,aF (j:=0) rfl,?_⟩
    refine ⟨_,rfl,y,C,dy,_,_,rfl,aM.hy,T.cl,T.n3,lU ..,_,rfl,nd,_,_,.ref r3,rfl,rfl,ay.of aM.hd,aF (by rw [List.getElem?_map,x3]; rfl),r3,_,0,.int (au S.N l:Int),rfl,rfl,aT.of SO,aF (j:=0) rfl,?_⟩
    refine ⟨_,_,_,rfl,?_⟩
    rw [show min ((au S.N t:Nat):Int) (min ((au S.N h:Nat):Int) ((au S.N l:Nat):Int))=((s0:Nat):Int) by omega]
    have hU:∀m∈["half", "chosen", "node"],(cD nm sp nd kn ch im ex).lookup (m:Str)=none:=λm hm=>by
     simp only [List.mem_cons,List.not_mem_nil,or_false] at hm
     rcases hm with rfl | rfl | rfl <;> exact jy _ _ _ _ _ _ _ (by decide +kernel) (by decide +kernel) (by decide +kernel) (by decide +kernel) (by decide +kernel) (by decide +kernel) (by decide +kernel)
    have nH:=hU "half" (by decide)
    have nC:=hU "chosen" (by decide)
    have nN:=hU "node" (by decide)
    have lt:=λb=>hO.fs.yJ (b:=b) ht oU
    have lh:=λb=>hO.fs.yJ (b:=b) hh oU
    have ll:=λb=>hO.fs.yJ (b:=b) hl oU
    have pt:=λb=>hO.fs.uY (b:=b) ht oU (by omega)
    have ph:=λb=>hO.fs.uY (b:=b) hh oU (by omega)
    have pl:=λb=>hO.fs.uY (b:=b) hl oU (by omega)
    refine ⟨_,rfl,y,dy,_,rfl,aM.hy,nC,?_⟩
    refine ⟨_,rfl,y,dy,_,rfl,aM.hy,nH,_,rfl,_,rfl,y,dy,nm,sp,nd,kn,ch,im,ex,names,S,t,s0,false,rfl,aM,ht,?_⟩
    refine ⟨_,rfl,y,dy,_,rfl,aM.hy,nH,_,rfl,_,rfl,y,dy,nm,sp,nd,kn,ch,im,ex,names,S,h,s0,false,rfl,aM,hh,?_⟩
    refine ⟨_,rfl,y,dy,_,rfl,aM.hy,nH,_,rfl,_,rfl,y,dy,nm,sp,nd,kn,ch,im,ex,names,S,l,s0,false,rfl,aM,hl,?_⟩
    have m1:=pt false
    have m2:=ph false
    have m3:=pl false
    refine ⟨y,dy,nm,sp,nd,kn,ch,im,ex,names,S,hf S.N s0 false t,hf S.N s0 false h,hf S.N s0 false l,b,rfl,aM,lt false,lh false,ll false,by omega,hB,by omega,λn2 S2 H2 cv k2 g2 B2 i2 x2 l2 v2 p2=>?_⟩
    have MM:=g2.le
    have xD:∀{i:Nat},i<S.N.length->au S2.N i=au S.N i:=λhi=>g2.au hi
    have Hq:∀{i:Nat},i<S.N.length->ak S2.TS i=ak S.TS i:=λhi=>g2.ak (by rw [← hO.fs.len]; exact hi)
    have Hr:∀{i:Nat},i<S.N.length->∀b,hf S2.N s0 b i=hf S.N s0 b i:=λhi b=>by unfold hf au low cM; rw [g2.nd hi]
    refine ⟨_,rfl,y,dy,_,rfl,cv.hy,nC,?_⟩
    refine ⟨_,rfl,y,dy,_,rfl,cv.hy,nH,_,rfl,_,rfl,y,dy,nm,sp,nd,kn,ch,im,ex,names,S2,t,s0,true,rfl,cv,by omega,?_⟩
    refine ⟨_,rfl,y,dy,_,rfl,cv.hy,nH,_,rfl,_,rfl,y,dy,nm,sp,nd,kn,ch,im,ex,names,S2,h,s0,true,rfl,cv,by omega,?_⟩
    refine ⟨_,rfl,y,dy,_,rfl,cv.hy,nH,_,rfl,_,rfl,y,dy,nm,sp,nd,kn,ch,im,ex,names,S2,l,s0,true,rfl,cv,by omega,?_⟩
    have m4:=pt true
    have m5:=ph true
    have m6:=pl true
    have lt':=lt true
    have Hs:=lh true
    have Hu:=ll true
    have e4:=Hr ht true
    have e5:=Hr hh true
    have e6:=Hr hl true
    refine ⟨y,dy,nm,sp,nd,kn,ch,im,ex,names,S2,hf S2.N s0 true t,hf S2.N s0 true h,hf S2.N s0 true l,b+cst d,rfl,cv,by omega,by omega,by omega,?_,B2,by omega,λn3 S3 H3 cQ k3 g3 B3 i3 x3 l3 v3 p3=>?_⟩
    . rw [e4,e5,e6,xD lt',xD Hs,xD Hu]
      omega
    rw [e4,e5,e6,xD lt',xD Hs,xD Hu] at p3
    rw [e4,e5,e6,Hq lt',Hq Hs,Hq Hu] at v3
    have SR:n2<S3.N.length:=Nat.lt_of_lt_of_le l2 g3.le
    have Hv:au S3.N n2=au S2.N n2:=g3.au l2
    have SS:ak S3.TS n2=ak S2.TS n2:=g3.ak (by rw [← cv.fs.len]; exact l2)
    refine ⟨_,rfl,y,dy,_,rfl,cQ.hy,nN,_,rfl,_,rfl,_,rfl,y,dy,nm,sp,nd,kn,ch,im,ex,names,S3,s0,n2,n3,b+cst d+cst d,rfl,cQ,oU,SR,l3,by omega,by omega,B3,by omega,λn4 S4 H4 hJ k4 g4 B4 c4 i4 x4 l4 s4 t4=>?_⟩
    have SU:=(((Kp.of s1).trans k2).trans k3).trans k4
    have qH:=(g2.trans g3).trans g4
    have nG:∀v,ev v (ak S4.TS n4)=if ev v (ak S.TS t)=true then ev v (ak S.TS h) else ev v (ak S.TS l):=λv=>by
     have e7:ev v (ak S4.TS n4)=if v (names.getD s0 "")=true then ev v (ak S3.TS n3) else ev v (ak S3.TS n2):=by
      rw [t4]
      by_cases z:n2=n3
      . rw [if_pos z,z]
        split <;> rfl
      . rw [if_neg z]
        rfl
     rw [e7,SS,v2 v,v3 v,hO.fs.yK ht oU v,hO.fs.yK hh oU v,hO.fs.yK hl oU v]
     cases v (names.getD s0 "") <;> rfl
    have WM:=qH.le
    have Hw:H4 q=some (.tup ((iQ (t,h,l)).map kV)):=aM.dr ((k2.trans k3).trans k4) _ _ fk
    have SV:pG S4.N S4.TS (iQ (t,h,l),.int (n4:Int)):=by
     refine ⟨t,h,l,n4,rfl,rfl,by omega,by omega,by omega,l4,λv=>?_,?_⟩
     . rw [nG v,qH.ak (by rw [← hO.fs.len]; exact ht),qH.ak (by rw [← hO.fs.len]; exact hh),qH.ak (by rw [← hO.fs.len]; exact hl)]
     . rw [qH.au ht,qH.au hh,qH.au hl]
       omega
    refine ⟨_,rfl,_,rfl,y,C,dy,_,_,rfl,hJ.hy,T.cl,T.n5,G8 ..,_,rfl,ch,_,rfl,gJ.t (k:=iQ (t,h,l)) hJ.hc Hw (big (by have:=B4.b2; omega)),?_⟩
    have qI:=hJ.Kw SV
    exact ⟨_,rfl,kk n4 _ _ qI (SU.trans (yF (.inr (.inr (.inl rfl))))) ⟨qH.gn,qH.gt⟩ ((B4.SD _ _).up (by omega)) (i4.trans (i3.trans i2)) (x4.trans (x3.trans x2)) l4 nG (by rw [← SQ]; exact s4)⟩
end
end Gen
namespace PySem
open Sem (wp)
theorem lV:typeLookup (.type "list") "__getattr__" = pure none:=by rw [typeLookup_type,builtinLookup_eq_fast]; kernel_rfl
theorem oH:typeLookup (.type "list") "keys" = pure none:=by rw [typeLookup_type,builtinLookup_eq_fast]; kernel_rfl
theorem lW {A:Around}{prog:Program}{w:World}{Q:Fin->Shared->Prop}{E:Value->Shared->Prop}{h:Heap}{g d t os} {a:Addr}{items:Array Value}{n:Nat}(u:Tok) (hx:h.get? a=some { cls:=.type "list",data:=.seq items n }) (hh:A.handled=none)
 (hE:∀h' tk e,Heap.NewAttrErr h h' e (.ref a) "keys" -> E (.ref e) ⟨h',g,d,tk,os⟩) :
 wpAny (model prog w) A (Builtin.«object.__getattribute__» ⟨[.ref a,.str "keys" u],[]⟩) Q E ⟨h,g,d,t,os⟩:=by
 have hT:∀t',(⟨h,g,d,t',os⟩:Shared).TypeIs (.ref a) "list":=λt'=>⟨_,hx,rfl⟩
 have WN:=hT t
 have We:=oH
 have hc:[Str.ofString "__module__",Str.ofString "__name__",Str.ofString "__qualname__",Str.ofString "__doc__",Str.ofString "__annotations__"].contains (Str.ofString "keys")=false:=by decide +kernel
 unfold Builtin.«object.__getattribute__»
 repeat (any_goals (first | assumption | wp_step | refine wpAny_ite_false hc ?_))
 all_goals first
  | exact wpAny_raiseAttrError hh hE (attrMsg_fits (by decide +kernel) (by decide))
  | skip
theorem uZ {A:Around}{prog:Program}{w:World}{R:Result->Shared->Prop}{h:Heap}{g d t os} {a:Addr}{items:Array Value}{n:Nat}{u:Tok}(hx:h.get? a=some { cls:=.type "list",data:=.seq items n }) (hh:A.handled=none)
 (hE:∀h' tk e,Heap.NewAttrErr h h' e (.ref a) "keys" -> R (.error (.ref e)) ⟨h',g,d,tk,os⟩) :
 codeAny (model prog w) A (.call (.builtin "list.__getattribute__") ⟨[.ref a,.str "keys" u],[]⟩) R ⟨h,g,d,t,os⟩:=
 codeAny_call_builtin F.slot_list_getattribute.plain F.entry_list_ga (F.slot_list_getattribute.check _ _ _ _ _ _ _ _ (show (⟨h,g,d,t,os⟩:Shared).TypeIs (.ref a) "list" from ⟨_,hx,rfl⟩) (F.args_list_getattribute_2 _ _) (lW u hx hh hE))
theorem u0 {A:Around}{prog:Program}{w:World}{E:Value->Shared->Prop}{h:Heap}{g d t os} {a:Addr}{items:Array Value}{n:Nat}{Q:Option Value->Shared->Prop}(hx:h.get? a=some { cls:=.type "list",data:=.seq items n }) (hh:A.handled=none)
 (hQ:∀h' tk,(∀b o,h.get? b=some o->h'.get? b=some o)->Q none ⟨h',g,d,tk,os⟩):wpAny (model prog w) A (getAttr? (.ref a) "keys") Q E ⟨h,g,d,t,os⟩:=by
 have hT:(⟨h,g,d,t,os⟩:Shared).TypeIs (.ref a) "list":=⟨_,hx,rfl⟩
 have f1:=sub_AttributeError
 have f2:=F.slot_list_getattribute.lookup
 have f3:=F.slot_list_getattribute.bind (.ref a)
 have f5:=lV
 unfold getAttr? getAttrBy? getAttrBy
 repeat (any_goals (first | assumption | ((with_reducible show codeAny _ _ (Code.call (Value.builtin "list.__getattribute__") _) _ _); refine uZ hx hh ?_; intro h' AS e DJ; obtain ⟨t1,u1,he⟩:=DJ.there) | wp_step))
 exact hQ h' AS DJ.keeps
end PySem
namespace PySem
open Sem (wp)
namespace F
theorem hV:entryFor table "dict.update.loop" = some Builtin.«dict.update.loop»:=entryFor_of_tree (by kernel_rfl)
theorem dc:plainId "dict.update.loop" = true:=by decide +kernel
end F
section
variable {prog:Program}{w:World}{K:Type}[DecidableEq K] {knd:KeyKind prog w K}{A:Around}{R:Result->Shared->Prop}
def u3 (knd:KeyKind prog w K) (h:Heap) (u:Value) (kv:K×Value):Prop:=∃t key,u=.ref t/\h.IsTuple t #[key,kv.2]/\knd.is kv.1 key=true
theorem rH {d it l:Addr}{items:Array Value}{kvs:List (K×Value)}(HA:d≠it) (oV:d≠l) (HB:l≠it) (hz:kvs.length<=sizeLine) (hh:A.handled=none) :
 ∀(k i:Nat) (s:Shared) (tk:Tok) (acc:List (K×Value)),items.size-i=k->i<=items.size->kvs.length=items.size->s.heap.IsListIter it l i->s.heap.IsList l items->s.heap.DictOf knd d acc->acc.length<=i->
 (∀(j:Nat) (u:Value) (kv:K×Value),items[j]?=some u->kvs[j]?=some kv->u3 knd s.heap u kv/\(∀t,u=.ref t->t≠d/\t≠it))->
 (∀h' tk,h'.DictOf knd d ((kvs.drop i).foldl (λa kv=>stored a kv.1 kv.2) acc)->(∀b o,b≠d->b≠it->s.heap.get? b=some o->h'.get? b=some o)->R (.ok (.ret .none)) { s with heap:=h',toks:=tk })->
 codeAny (model prog w) A (.builtin "dict.update.loop" ⟨[.ref d,.ref it,.int (i:Int) tk,.none],[]⟩) R s:=by
 intro k
 induction k with
 | zero=>
  intro i s tk acc hk hi hlen hit hl hd lX hp hR
  have eG:i=items.size:=by omega
  refine codeAny_builtin F.hV ?_
  rw [Around.under_plainId F.dc _]
  show wpAny _ A.in1 (pyNext (.ref it) >>= _) _ _ s
  refine wpAny_bind (wpAny_pyNext_list_end (A:=A.in1) hh hit hl (Array.getElem?_eq_none (by omega)) λh' he=>?_)
  refine wpAny_bind (wpAny_pure (wpAny_pure ?_))
  have hd':h'.DictOf knd d acc:=let ⟨o,es,ep,ho,r⟩:=hd; ⟨o,es,ep,he d o HA ho,r⟩
  refine hR h' s.toks ?_ λb o _ hb e=>he b o hb e
  rw [List.drop_of_length_le (by omega)]
  exact hd'
 | succ k ih=>
  intro i s tk acc hk hi hlen hit hl hd lX hp hR
  have dv:i<items.size:=by omega
  have hx:items[i]?=some items[i]:=Array.getElem?_eq_getElem dv
  have bf:kvs[i]?=some kvs[i]:=List.getElem?_eq_getElem (by omega)
  obtain ⟨⟨t,key,ht,OX,fk⟩,gr⟩:=hp i _ _ hx bf
  obtain ⟨WO,SW⟩:=gr t ht
  refine codeAny_builtin F.hV ?_
  rw [Around.under_plainId F.dc _]
  show wpAny _ A.in1 (pyNext (.ref it) >>= _) _ _ s
  refine wpAny_bind (wpAny_pyNext_list_item hit hl hx λh1 OY AU=>?_)
  rw [ht]
  have Kx:h1.IsTuple t #[key,(kvs[i]).2]:=let ⟨o,e,r⟩:=OX; ⟨o,(AU.2 t SW).trans e,r⟩
  refine wpAny_bind (wpAny_holding (wpAny_bind ?_))
  refine wpAny_tryCatch ?_
  unfold Builtin.Dict.pairItems
  obtain ⟨ot,e1,HC,n1,SX⟩:=id Kx
  refine wpAny_bind (wpAny_typeOf (show ({ s with heap:=h1 } : Shared).TypeIs (.ref t) "tuple" from ⟨ot,e1,HC⟩) ?_)
  rw [if_pos (by decide)]
  refine wpAny_bind (wpAny_seqItems e1 SX (wpAny_pure ?_))
  show wpAny _ A.in1 (holding [key,(kvs[i]).2] (dictSet d key (kvs[i]).2)) _ _ _
  refine wpAny_holding ?_
  unfold dictSet
  try with_reducible refine wpAny_holding ?_
  have kX:h1.DictOf knd d acc:=let ⟨o,es,ep,ho,r⟩:=hd; ⟨o,es,ep,(AU.2 d HA).trans ho,r⟩
  refine wpAny_bind (knd.pyHash fk ?_)
  refine wpAny_dictSetHashed_pairs fk kX (λh2 hd2 jM=>?_) (by omega)
  refine wpAny_pure ⟨plainId_quiet F.dc _,?_⟩
  have er:rawInt ((i:Int)+1)=Value.int (((i+1:Nat):Nat):Int) 0:=by simp [rawInt]
  rw [er]
  have keep:∀b o,b≠d->b≠it->s.heap.get? b=some o->h2.get? b=some o:=λb o b1 b2 e=>(jM.2 b b1).trans ((AU.2 b b2).trans e)
  refine ih (i+1) _ 0 (stored acc (kvs[i]).1 (kvs[i]).2) (by omega) (by omega) hlen ?_ ?_ hd2 ?_ ?_ ?_
  . obtain ⟨o,e,r⟩:=OY
    exact ⟨o,(jM.2 it (Ne.symm HA)).trans e,r⟩
  . obtain ⟨o,e,r⟩:=hl
    exact ⟨o,keep l o (Ne.symm oV) HB e,r⟩
  . have:=stored_length_le acc (kvs[i]).1 (kvs[i]).2
    omega
  . intro j u kv hu OZ
    obtain ⟨⟨t',O0,e',SY,kI⟩,HD⟩:=hp j u kv hu OZ
    obtain ⟨a1,a2⟩:=HD t' e'
    obtain ⟨o,e,r⟩:=SY
    exact ⟨⟨t',O0,e',⟨o,keep t' o a1 a2 e,r⟩,kI⟩,HD⟩
  . intro h' AS hd' kI
    refine hR h' AS ?_ λb o b1 b2 e=>kI b o b1 b2 (keep b o b1 b2 e)
    rw [List.drop_eq_getElem_cons (by omega),List.foldl_cons]
    exact hd'
end
section
variable {prog:Program}{w:World}{K:Type}[DecidableEq K] {knd:KeyKind prog w K}{A:Around}{E:Value->Shared->Prop}{s:Shared}
theorem u4 {l:Addr}{items:Array Value}{n:Nat}{kvs:List (K×Value)}{Q:Value->Shared->Prop}(hh:A.handled=none) (hl:s.heap.get? l=some { cls:=.type "list",data:=.seq items n }) (hlen:kvs.length=items.size) (hz:kvs.length<=sizeLine)
 (hp:∀(j:Nat) (u:Value) (kv:K×Value),items[j]?=some u->kvs[j]?=some kv->u3 knd s.heap u kv)
 (h:∀h' tk,h'.DictOf knd s.heap.objs.size (merged [] kvs)->(∀b o,s.heap.get? b=some o->h'.get? b=some o)->Q (.ref s.heap.objs.size) { s with heap:=h',toks:=tk }) :
 wpAny (model prog w) A (call (.type "dict") [.ref l]) Q E s:=by
 refine callType_codes (Q₁:=λobj cE=>obj=.ref s.heap.objs.size/\cE = { s with heap:=s.heap.push { cls:=.type "dict",data:=.dict #[] } }) F.kt_called_dict (F.kt_typeCall_dict_1 _) F.entry_dict_init (kt_code_dict_new _ ⟨rfl,rfl⟩) ?_
 rintro obj cE ⟨rfl,rfl⟩
 have iW:(s.heap.push { cls:=.type "dict",data:=.dict #[] }).DictOf knd s.heap.objs.size []:=Heap.DictOf.new s.heap
 have qu:(s.heap.push { cls:=.type "dict",data:=.dict #[] }).get? l=some { cls:=.type "list",data:=.seq items n }:=Heap.get?_push_of_some _ hl
 refine ⟨iW.typeIs,F.args_dict_init_2 _ _,?_⟩
 unfold Builtin.«dict.__init__»
 refine wpAny_bind ?_
 unfold Builtin.Dict.selfAndRest
 refine wpAny_bind (wpAny_notOrdered_dict iW.typeIs ?_)
 show wpAny _ _ (pure (s.heap.objs.size,[Value.ref l])) _ _ _
 refine wpAny_pure ?_
 show wpAny _ _ (Builtin.Dict.updateFrom "dict.__init__" s.heap.objs.size (.ref l) [] .none) _ _ _
 unfold Builtin.Dict.updateFrom
 refine wpAny_bind (wpAny_typeOf (show ({ s with heap:=s.heap.push { cls:=.type "dict",data:=.dict #[] } } : Shared).TypeIs (.ref l) "list" from ⟨_,qu,rfl⟩) ?_)
 rw [if_pos (by decide)]
 generalize AU:({ s with heap:=s.heap.push { cls:=.type "dict",data:=.dict #[] } } : Shared)=s1 at *
 obtain ⟨g1,g2,g3,g4,g5⟩:=s1
 cases AU
 refine wpAny_bind (u0 qu (by first | exact hh | rfl) λh2 S0 k2=>?_)
 rw [if_pos (show (none:Option Value).isNone=true from rfl)]
 have fg:h2.get? l=some { cls:=.type "list",data:=.seq items n }:=k2 _ _ qu
 have lt2:∀b o,(s.heap.push { cls:=.type "dict",data:=.dict #[] }).get? b=some o->b<h2.objs.size:=λb o e=>Heap.lt_size (k2 b o e)
 refine wpAny_bind (wpAny_rule (wpAny_bind (wpAny_pyIter_list (s:={ heap:=h2,gens:=s.gens,drawn:=s.drawn,toks:=S0,os:=s.os }) (items:=items) ⟨_,fg,rfl,n,rfl⟩ ?_)))
 refine wpAny_pure ⟨plainId_quiet F.dc _,?_⟩
 have hd2:h2.DictOf knd s.heap.objs.size []:=let ⟨o,es,ep,ho,r⟩:=iW; ⟨o,es,ep,k2 _ _ ho,r⟩
 have oV:s.heap.objs.size<h2.objs.size:=let ⟨o,es,ep,ho,r⟩:=iW; lt2 _ _ ho
 have sF:l<s.heap.objs.size:=Heap.lt_size hl
 refine rH (knd:=knd) (d:=s.heap.objs.size) (it:=h2.objs.size) (l:=l) (items:=items) (kvs:=kvs) (Nat.ne_of_lt oV) (Nat.ne_of_gt sF) (Nat.ne_of_lt (Nat.lt_trans sF oV)) hz (by first | exact hh | rfl) items.size 0 _ 0 [] rfl (Nat.zero_le _) hlen
  ⟨_,Heap.get?_push_size _ rfl,rfl,rfl⟩ ⟨_,Heap.get?_push_of_some _ fg,rfl,n,rfl⟩ ?_ (Nat.le_refl _) ?_ ?_
 . obtain ⟨o,es,ep,ho,r⟩:=hd2
   exact ⟨o,es,ep,Heap.get?_push_of_some _ ho,r⟩
 . intro j u kv hu bf
   obtain ⟨t,key,e,⟨o,eo,r⟩,hk⟩:=hp j u kv hu bf
   have ht:t<s.heap.objs.size:=Heap.lt_size eo
   refine ⟨⟨t,key,e,⟨o,Heap.get?_push_of_some _ (k2 _ _ (Heap.get?_push_of_some _ eo)),r⟩,hk⟩,λt' e'=>?_⟩
   rw [e] at e'
   cases e'
   exact ⟨Nat.ne_of_lt ht,Nat.ne_of_lt (Nat.lt_trans ht oV)⟩
 . intro h' AS hd' kI
   refine ⟨rfl,h h' AS ?_ λb o e=>?_⟩
   . simpa [merged] using hd'
   . have hb:b<s.heap.objs.size:=Heap.lt_size e
     exact kI b o (Nat.ne_of_lt hb) (Nat.ne_of_lt (Nat.lt_trans hb oV)) (Heap.get?_push_of_some _ (k2 _ _ (Heap.get?_push_of_some _ e)))
end
end PySem
namespace L2
open PySem PySem.Spec PyProof.Rows
section
variable {X:Cx}
theorem yL {P:Program}{w:World}{k:Key}{u:Value}(h:(ba P w).is k u=true):RelV (kV k) u:=by
 rw [xX] at h
 cases k with
 | inl i=>cases u <;> first | (simp [gz,Value.isInt] at h; done) | (simp [gz,Value.isInt] at h; subst h; exact ⟨_,rfl⟩)
 | inr x=>cases u <;> first | (simp [gz,Value.isStrOf] at h; done) | (simp [gz,Value.isStrOf] at h; subst h; exact ⟨_,rfl⟩)
theorem pairs_at {P:Program}{w:World}{H:Hp}{h:Heap}(ok:cY P w H h):∀{ts:List Addr}{kvs:List (Key×V)}{us:List Value},Paired (λt kv=>H t=some (.tup [kV kv.1,kv.2])) ts kvs->Vals (ts.map V.ref) us->
 ∃vs:List (Key×Value),KV kvs vs/\Paired (λu kv=>u3 (ba P w) h u kv) us vs
 | [],[],us,.nil,r=>by
  cases r
  exact ⟨[],.nil,.nil⟩
 | t::ts,kv::kvs,us,.cons e p,r=>by
  cases r with
  | @cons _ u _ WQ ru r'=>
   obtain ⟨vs,k1,k2⟩:=pairs_at ok p r'
   cases (show u=Value.ref t from ru)
   obtain ⟨_,its,rv,ip⟩:=(show bg P w H h t (.tup [kV kv.1,kv.2]) from ok t _ e)
   obtain ⟨key,val,rfl,rk,rl⟩:=vals2 rv
   exact ⟨(kv.1,val)::vs,.cons ⟨rfl,rl⟩ k1,.cons ⟨t,key,rfl,ip,jO rk⟩ k2⟩
theorem iF {α β:Type}{F:α->β->Prop} : ∀{jK:List α}{kh:List β}{i:Nat}{a:α}{b:β},Paired F jK kh->jK[i]?=some a->kh[i]?=some b->F a b
 | _,_,i,a,b,.nil,h,_=>by simp at h
 | _,_,0,a,b,.cons h t,e1,e2=>by
  simp at e1 e2
  subst e1 e2
  exact h
 | _,_,i+1,a,b,.cons h t,e1,e2=>iF (i:=i) t (by simpa using e1) (by simpa using e2)
theorem eI (hc:X.calm=true):eD X (.type "dict") (λxs H Q=>∃p ts kvs,xs=[.ref p]/\H p=some (.lst (ts.map V.ref))/\Paired (λt kv=>H t=some (.tup [kV kv.1,kv.2])) ts kvs/\∀d,H d=none->Q (.ref d) (upd H d (.dK (cH [] kvs)))):=by
 intro pins s σ H xs us Q I r h
 obtain ⟨p,ts,kvs,rfl,hp,hT,q⟩:=h
 obtain ⟨u,rfl,rx⟩:=vals1 r
 cases (show u=Value.ref p from rx)
 obtain ⟨hz,its,n,rv,e⟩:=(show bg X.prog X.w H s.heap p (.lst (ts.map V.ref)) from I.hok p _ hp)
 obtain ⟨vs,kv,pv⟩:=pairs_at I.hok hT rv
 have l1:vs.length=its.toArray.size:=by rw [List.size_toArray]; exact pv.length.symm
 have l2:kvs.length=vs.length:=kv.length
 have l3:vs.length<=sizeLine:=by
  have:=hT.length
  rw [List.length_map] at hz
  omega
 refine u4 (knd:=ba X.prog X.w) (kvs:=vs) (I.ok.hd hc) e l1 l3 (λj u kv hu bf=>iF pv (by simpa using hu) bf) λh' tk dd kk=>?_
 refine ⟨.ref s.heap.objs.size,_,I.laid (a:=s.heap.objs.size) (o:=.dK (cH [] kvs)) kk (Nat.le_refl _) (pY ?_ (beq_eq_false_iff_ne.mpr (Ne.symm (Nat.ne_of_lt I.big))) (KV.merge kv .nil) dd),rfl,q _ (I.hok.fresh (Nat.le_refl _))⟩
 have:=iU kvs []
 simp at this
 omega
theorem eB:eD X (.builtin "isinstance") (λxs H Q=>∃x t c b,xs=[x,.ty c]/\ig X.K H x t/\W.kitOne X.K t (.type c)=some b/\Q (.bl b) H):=by
 intro pins s σ H xs us Q I r h
 obtain ⟨x,t,c,b,rfl,ty,e,q⟩:=h
 obtain ⟨u,v,rfl,rx,ry⟩:=vals2 r
 cases (show v=Value.type c from ry)
 exact zK I rx ty e λtk=>⟨.bl b,H,I.tok _,rfl,q⟩
theorem kY (hc:X.calm=true):eD X (.type "list") (λxs H Q=>∃p kvs,xs=[.ref p]/\Rd H p (.dK kvs)/\∀l,H l=none->Q (.ref l) (upd H l (.lst (kvs.map λkv=>kV kv.1)))):=by
 intro pins s σ H xs us Q I r h
 obtain ⟨p,kvs,rfl,hp,q⟩:=h
 obtain ⟨u,rfl,rx⟩:=vals1 r
 cases (show u=Value.ref p from rx)
 obtain ⟨z,hd,vs,rel,dd⟩:=jP I.hok hp
 obtain ⟨ep,da⟩:=dd.dictAt
 have hlen:kvs.length=vs.length:=rel.length
 refine W.kdl_call (W.kdl_dict (knd:=ba X.prog X.w) (ep:=ep) hd) (I.ok.hd hc) da (by omega) λh' tk cX c' kk e it=>?_
 have rv:Vals (kvs.map λkv=>kV kv.1) cX.toList:=by
  obtain ⟨i1,i2⟩:=it
  have gen:∀(kvs:List (Key×V)) (vs:List (Key×Value)) (us:List Value),KV kvs vs->us.length=vs.length->(∀(j:Nat) v,us[j]?=some v->∃k x,vs[j]?=some (k,x)/\(ba X.prog X.w).is k v=true)->Vals (kvs.map λkv=>kV kv.1) us:=by
   intro kvs vs us kv
   induction kv generalizing us with
   | nil=>
    intro hl _
    have:us=[]:=List.length_eq_zero_iff.mp hl
    subst this
    exact .nil
   | @cons a b as bs S6 t ih=>
    intro hl hu
    match us,hl with
    | u::us,hl=>
     obtain ⟨k,x,e1,e2⟩:=hu 0 u rfl
     simp at e1
     have ek:k=a.1:=by rw [S6.1,e1]
     subst ek
     refine .cons (yL e2) (ih us (by simpa using hl) λj v hj=>?_)
     obtain ⟨k',x',e3,e4⟩:=hu (j+1) v (by simpa using hj)
     exact ⟨k',x',by simpa using e3,e4⟩
  exact gen kvs vs cX.toList rel (by rw [Array.length_toList,i1]) λj v hj=>i2 j v (by rw [← Array.getElem?_toList]; exact hj)
 refine ⟨.ref s.heap.objs.size,_,I.laid (t':=tk) kk (Nat.le_refl _) (show bg X.prog X.w _ h' _ (.lst (kvs.map λkv=>kV kv.1)) from ⟨by rw [List.length_map]; exact z,cX.toList,c',rv,by simpa using e⟩),rfl,q _ (I.hok.fresh (Nat.le_refl _))⟩
end
section
variable {X:Cx}{pins:List (Addr×Obj)}{σ:St}{H:Hp}{s:Shared}{d:Addr}{kvs:List (Key×V)}
theorem Inv.freeze (I:Inv X pins σ H s) (e:H d=some (.dK kvs)):∃o,s.heap.get? d=some o/\Inv X pins σ (upd H d (.cz o (.dK kvs))) s:=by
 obtain ⟨z,hd,vs,rel,dd⟩:=pX I.hok e
 obtain ⟨o,es,ep,ho,r⟩:=id dd
 refine ⟨o,ho,I.write (x:=d) (e:=d) (t':=s.toks) (h':=s.heap) (by rw [e]; trivial) (.inl rfl) (λb u _ q=>q) ⟨o,ho⟩ (show bg X.prog X.w _ s.heap d (.cz o (.dK kvs)) from ⟨ho,pY z hd rel dd⟩)⟩
theorem Inv.O1 {o:Obj}(I:Inv X pins σ H s) (e:H d=some (.cz o (.dK kvs))) (hn:∀o' u,X.xY d≠some (.cz o' u)):Inv X pins σ (upd H d (.dK kvs)) s:=by
 have ne:∀b,H b=none->b≠d:=λb h z=>by rw [z,e] at h; cases h
 have up:∀b,H b=none->upd H d (.dK kvs) b=none:=λb h=>by rw [ai (ne b h)]; exact h
 refine ⟨I.ok,I.os,I.bare,⟨I.base.keep,I.base.slot,λb ob q n hx=>up b (I.base.free b ob q n hx),I.base.there,λb xs q=>?_,λb ob u q=>?_,λb ps q=>?_⟩,I.loc,I.cell,up _ I.free,λx c q=>up _ (I.freeC x c q),λp hp=>?_,λb u q=>?_,I.len⟩
 . have q1:=I.base.dr b xs q
   rw [ai (λz=>by rw [z,e] at q1; cases q1)]
   exact q1
 . have q1:=I.base.frzs b ob u q
   rw [ai (λz=>hn ob u (by rw [← z]; exact q))]
   exact q1
 . obtain ⟨more,q1⟩:=I.base.tbls b ps q
   exact ⟨more,by rw [ai (λz=>by rw [z,e] at q1; cases q1)]; exact q1⟩
 . obtain ⟨a1,a2,a3⟩:=I.pin p hp
   exact ⟨a1,up _ a2,a3⟩
 . by_cases hb:b=d
   . subst hb
     rw [ae] at q
     cases q
     obtain ⟨_,k⟩:=(show bg X.prog X.w H s.heap b (.cz o (.dK kvs)) from I.hok b _ e)
     exact k
   . rw [ai hb] at q
     exact (I.hok b u q).eK (λ_ _ _ z=>z) (λc z=>by rw [ai (λy=>by rw [y,e] at z; cases z)]; exact z) λc xs z=>by rw [ai (λy=>by rw [y,e] at z; cases z)]; exact z
end
section
variable {X:Cx}
def Ky (xY:Hp) (t:TE):TE:=λσ H Q=>t σ H λv H1=>∃d o kvs,H1 d=some (.cz o (.dK kvs))/\(∀o' u,xY d≠some (.cz o' u))/\Q v (upd H1 d (.dK kvs))
theorem xE {e:Expr}{t:TE}(h:PE X e t):PE X e (Ky X.xY t):=by
 intro pins s σ H Q I q
 refine aH (h pins s σ H _ I q) λv s1 ⟨x,H1,I1,r1,q1⟩=>?_
 obtain ⟨d,o,kvs,e1,hn,q2⟩:=q1
 exact ⟨x,_,I1.O1 e1 hn,r1,q2⟩
def MN (d:Addr) (o:Obj) (kvs:List (Key×V)):It:=⟨λi H=>H d=some (.cz o (.dK kvs))/\i<kvs.length,λi H x H'=>H'=H/\∃kv,kvs[i]?=some kv/\x=kV kv.1,λi H=>H d=some (.cz o (.dK kvs))/\i=kvs.length⟩
theorem AV {P:Program}{w:World}{K:W.Frag}{tg:Expr}{d it:Addr}{o:Obj}{es:Array DictEntry}{ep:Nat}{kvs:List (Key×V)}(hd:o.data=.dict es ep) (gr:d≠it):Turn P w K tg (MN d o kvs) [it] it (λi h=>h.IsKeyIter it d i kvs.length ep) where
 mem:=by simp
 obj:=λi h st b hb=>by
  have e:b=it:=by simpa using hb
  subst e
  obtain ⟨o,e,c,d⟩:=st
  exact ⟨o,e,λv z=>by rw [d] at z; cases z⟩
 keep:=λi h h' st k=>let ⟨o,e,r⟩:=st; ⟨o,k it (by simp) o e,r⟩
 item:=by
  intro X hP hw hK hc i pins s σ H E I hf st hg
  subst hP hw hK
  obtain ⟨f0,f1,f2,f3,f4,f5⟩:=hf it (by simp)
  obtain ⟨g1,g2⟩:=hg
  obtain ⟨ho,z,hs,vs,rel,o',tQ,tS,d6,r'⟩:=(show bg X.prog X.w H s.heap d (.cz o (.dK kvs)) from I.hok d _ g1)
  rw [ho] at d6
  cases d6
  have kX:=r'.2.1
  rw [hd] at kX
  cases kX
  have hl:kvs.length=vs.length:=rel.length
  refine (Walks.dictKeys (knd:=ba X.prog X.w) (I.ok.hd hc) it d gr vs ep).item i s _ _ (by omega) ⟨by rw [← hl]; exact st,o,es,ho,r'⟩ λv h' tk hv aG kk=>?_
  obtain ⟨k,x,ek,ik⟩:=hv
  have I1:Inv X pins σ H { s with heap:=h',toks:=tk }:=I.turned (λb o hb e=>kk b o (by simpa using hb) e) f0 f1 f3 f4 f5
  have oJ:h'.IsKeyIter it d (i+1) kvs.length ep:=by rw [hl]; exact aG.1
  obtain ⟨oi,e,oc,od⟩:=id oJ
  have AW:kvs[i]?=some kvs[i]:=List.getElem?_eq_getElem g2
  have HE:(kvs[i]).1=k:=(iF rel AW ek).1
  exact ⟨_,rfl,tI (s:={ s with heap:=h',toks:=tk }) e oc od (by decide) ⟨kV k,H,I1,yL ik,⟨rfl,_,AW,by rw [HE]⟩,oJ,λb hb=>(hf b hb).1⟩⟩
 done:=by
  intro X hP hw hK hc i pins s σ H E I hf st hg
  subst hP hw hK
  obtain ⟨f0,f1,f2,f3,f4,f5⟩:=hf it (by simp)
  obtain ⟨g1,g2⟩:=hg
  subst g2
  obtain ⟨ho,z,hs,vs,rel,o',tQ,tS,d6,r'⟩:=(show bg X.prog X.w H s.heap d (.cz o (.dK kvs)) from I.hok d _ g1)
  rw [ho] at d6
  cases d6
  have kX:=r'.2.1
  rw [hd] at kX
  cases kX
  have hl:kvs.length=vs.length:=rel.length
  exact (Walks.dictKeys (knd:=ba X.prog X.w) (I.ok.hd hc) it d gr vs ep).done s _ _ ⟨by rw [← hl]; exact st,o,es,ho,r'⟩ λh' tk kk=>⟨rfl,I.turned (λb o hb e=>kk b o (by simpa using hb) e) f0 f1 f3 f4 f5⟩
 self:=λA i s Q E st h=>wpAny_pyIter_keyiter st h
def Kz (td:TE):TI:=λσ H R=>td σ H λx H1=>∃d kvs,x=.ref d/\H1 d=some (.dK kvs)/\∀o,R (MN d o kvs) (upd H1 d (.cz o (.dK kvs)))
theorem Fl {tg l:Expr}{tl:TE}(hl:PE X l tl):PI X tg l (Kz tl):=by
 intro pins s σ H R I h
 refine aH (hl pins s σ H _ I h) λv s1 ⟨x,H1,I1,r1,q1⟩=>?_
 obtain ⟨d,kvs,e,hd,q⟩:=q1
 subst e
 cases (show v=Value.ref d from r1)
 obtain ⟨z,hm,vs,rel,dd⟩:=pX I1.hok hd
 obtain ⟨o,es,ep,ho,r⟩:=id dd
 have hlen:kvs.length=vs.length:=rel.length
 obtain ⟨o',d6,I2⟩:=I1.freeze hd
 rw [ho] at d6
 cases d6
 refine wpAny_pyIter_dict (knd:=ba X.prog X.w) (ep:=ep) hm ⟨o,es,ho,r⟩ ?_
 have dv:d<s1.heap.objs.size:=Heap.lt_size ho
 refine ⟨s1.heap.objs.size,[s1.heap.objs.size],_,_,_,rfl,I2.kept (t':=s1.toks) λb o e=>Heap.get?_push_of_some _ e,AV (es:=es) (ep:=ep) (o:=o) (kvs:=kvs) r.2.1 (Nat.ne_of_lt dv),?_,?_,q o⟩
 . exact ⟨_,Heap.get?_push_size _ rfl,rfl,by rw [hlen]; rfl⟩
 . intro b hb
   have e:b=s1.heap.objs.size:=by simpa using hb
   subst e
   exact I2.o6 (Nat.le_refl _) (I2.hok.fresh (Nat.le_refl _))
def O3 (K:W.Frag):R2:=λx y H Q=>∃p p' xs,x=.ref p/\y=.ref p'/\ay K H p xs/\ay K H p' xs/\xs.all gM=true/\(∀z∈xs,gp z z=true)/\Q (.bl false) H
theorem AX (hu:X.A.units+1<cLine):di X (compareOp .NotEq) (O3 X.K):=by
 intro pins s σ H x y v u Q I rx ry h
 obtain ⟨p,p',xs,rfl,rfl,h1,h2,hf,hs,q⟩:=h
 cases (show v=Value.ref p from rx)
 cases (show u=Value.ref p' from ry)
 obtain ⟨its,rv,pl,hz⟩:=I.list h1
 obtain ⟨its',qE,xt,uv⟩:=I.list h2
 have l1:=rv.length
 have l2:=qE.length
 have key:=SeqAt.RcNeAt.lists (A:=X.A) (s:=s) (e:=λ_=>true) pl.isList xt.isList (by simp only [List.size_toArray]; omega) (by omega) (λj g1 g2=>?_) X.prog X.w X.xe
 . exact key _ (by
    have e:(!(List.range its.toArray.size).all λ_=>true)=false:=by simp
    rw [e]
    exact ⟨.bl false,H,I,rfl,q⟩)
 . have hj:j<xs.length:=by simp only [List.size_toArray] at g1; omega
   obtain ⟨w1,e1,r1⟩:=rv.get (List.getElem?_eq_getElem hj)
   obtain ⟨w2,e2,r2⟩:=qE.get (List.getElem?_eq_getElem hj)
   have fl:gM xs[j]=true:=List.all_eq_true.mp hf _ (List.getElem_mem hj)
   have z:=nu (A:=X.A.in1) (s:=s) r1 r2 fl fl
   rw [hs _ (List.getElem_mem hj)] at z
   have a1:its.toArray[j]=w1:=by
    have:=(List.getElem?_eq_some_iff.mp e1).2
    simpa using this
   have a2:its'.toArray[j]=w2:=by
    have:=(List.getElem?_eq_some_iff.mp e2).2
    simpa using this
   rw [a1,a2]
   exact z
end
end L2
namespace Gen
open PySem L2
abbrev kZ:Stmt:=inClass (top 4) 0
theorem AY {σ:St}{H:Hp}{A B:Hp->Prop}(h:A H):nz σ H (λb H3=>if b=true then A H3 else B H3):=by
 show if true=true then A H else B H
 rw [if_pos rfl]
 exact h
theorem bp {f:Str}{v:V}{fs:List (Str×V)}{n:Nat}(h:fs.length<=n):(aA f v fs).length<=n+1:=Nat.le_trans (j0 f v fs) (Nat.succ_le_succ h)
theorem qg {n m:Nat}(h:n<=m) (hm:m<1000):n<1000:=Nat.lt_of_le_of_lt h hm
theorem eS {H:Hp}{p g C dx:Addr}{o:HO}{fs fs':List (Str×V)}(hp:H p=some (.ins C dx fs)) (hg:H g=none) :
 (upd (upd H g o) p (.ins C dx fs')) p=some (.ins C dx fs')/\(upd (upd H g o) p (.ins C dx fs')) g=some o/\(upd H g o) p=some (.ins C dx fs)/\∀b u,H b=some u->b≠p->(upd (upd H g o) p (.ins C dx fs')) b=some u:=by
 have n:=ab hp hg
 refine ⟨ae,by rw [ai (Ne.symm n),ae],by rw [ai n]; exact hp,λb u hb nb=>by rw [ai nb,ai (ab hb hg)]; exact hb⟩
theorem gy {H H':Hp}{p g:Addr}(k:∀b u,H b=some u->b≠p->H' b=some u) (hg:H' g=none) (np:g≠p):H g=none:=by
 cases e:H g with
 | none=>rfl
 | some o=>rw [k g o e np] at hg; cases hg
theorem hW:∀(kvs acc:List (Key×V)),((acc++kvs).map (·.1)).Nodup->cH acc kvs=acc++kvs
 | [],acc,_=>(List.append_nil acc).symm
 | (k,v)::r,acc,h=>by
  have hn:aR acc k=none:=nF λkv bf z=>by
   rw [List.map_append,List.map_cons,List.nodup_append] at h
   exact h.2.2 _ (List.mem_map.mpr ⟨kv,bf,z⟩) _ List.mem_cons_self rfl
  show cH (putK acc k v) r=acc++(k,v)::r
  rw [lK v hn,hW r (acc++[(k,v)]) (by rw [List.append_assoc]; exact h),List.append_assoc]
  rfl
theorem u5:∀(names:List Str) (i:Nat),(fF i names).map (·.1)=names.map Sum.inr
 | [],_=>rfl
 | n::r,i=>by rw [fF,List.map_cons,List.map_cons,u5 r]
theorem xF:∀(names:List Str) (i:Nat),(fF i names).length=names.length
 | [],_=>rfl
 | n::r,i=>by rw [fF,List.length_cons,List.length_cons,xF r]
theorem xG:∀(a b:List Str) (i:Nat),fF i (a++b)=fF i a++fF (i+a.length) b
 | [],b,i=>rfl
 | p::r,b,i=>by rw [List.cons_append,fF,fF,xG r b (i+1),List.cons_append,List.length_cons,show i+1+r.length=i+(r.length+1) by omega]
theorem AZ {names:List Str}(h:names.Nodup):cH [] (fF 0 names)=fF 0 names:=hW _ [] (by
 rw [List.nil_append,u5]
 exact List.pairwise_map.mpr (List.Pairwise.imp (λh z=>h (Sum.inr.inj z)) h))
def DL (n:Nat) (t0 t1:Addr):bZ:=⟨[(n,0,0),(n,1,1)],[.leaf false,.leaf true],[t0,t1],[],[],[(.inl 0,.bl false),(.inl 1,.bl true)]⟩
theorem S7 (names:List Str) (t0 t1:Addr):FS names (DL names.length t0 t1).N (DL names.length t0 t1).TS:=
 ⟨rfl,Nat.le_refl _,rfl,rfl,rfl,rfl,λi h2 hi=>absurd (show i<2 from hi) (by omega),λi j h2 _ hi=>absurd (show i<2 from hi) (by omega)⟩
def ox (P:Program) (w:World) (C:Addr):Sp:=λvs H Q _=>∃(p dy o:Addr) (names:List Str),vs=[.ref p,.ref o]/\H p=some (.ins C dy [])/\H o=some (.lst (names.map V.str))/\names.Nodup/\(∀n∈names,PyData.strOk n=true)/\names.length<=8/\
 ∀(nm sp nd kn ch im ex t0 t1:Addr) (H':Hp),FO P w C H' p dy nm sp nd kn ch im ex names (DL names.length t0 t1)->cK H H' p->(∀g∈[nd,kn,ch,im,ex],H g=none)->H sp=none->Q .aX H'
theorem HF:(["spot", "name"]:List Str).Nodup:=by decide +kernel
section
variable {P:Program}{w:World}{K:W.Frag}{mg:Str->Option Value}{base:Heap}{C:Addr}
theorem O4:aZ ["self", "order"] ["self", "order"] (ao kZ):=⟨rfl,rfl,rfl,by decide +kernel,rfl,by decide +kernel,by decide +kernel⟩
theorem Cw {f:Addr}{fd:FuncData}(F:cw K "__init__" "Forest.__init__" kZ f fd) (T:eP K mg C) (O2:gc mg) (O:Own mg):av P w K mg base aE 1 f fd ["self", "order"] (ox P w C):=by
 refine F.ok O4 (λvs H Q E h=>?_) (λcdv A outer s H vs Q E hr h=>?_)
 . obtain ⟨p,dy,o,names,rfl,_⟩:=h
   rfl
 . obtain ⟨p,dy,o,names,rfl,hp,ho,nn,ns,n8,kk⟩:=h
   refine ⟨_,ag (jk (pv 0) (cO eN (by rfl) O2.list PyProof.Rows.boot_list (aa (pv 1) af)) rfl)
    (ag (jk (pv 0) (cO (eI rfl) (by rfl) O2.dict PyProof.Rows.boot_dict (aa (eE (N:=["spot", "name"]) (js:=[none,none]) (g:=x6 K 2 (lF (dm 0) (lF (dm 1) xZ))) (by kernel_rfl) rfl (kM rfl O.enum (aa (pv 1) af))
     (λ_ _ _ _ _ _=>jj rfl (cF (aQ (i:=0) HF rfl (Or.inl rfl) (.inr rfl)) (cF (aQ (i:=1) HF rfl (Or.inl rfl) (.inr rfl)) ie))) (λ_ _ _ _ _ _=>cI)
     (λ_ _ _ _ _ _=>dE (aa (pv 1) (aa (pv 0) af)))) af)) rfl)
    (ag (jk (pv 0) (fw (aa (dE (aa (aU aV (by rfl) O2.len PySem.boot_len (aa (bX (pv 0) rfl) af)) (aa ah (aa ah af))))
     (aa (dE (aa (aU aV (by rfl) O2.len PySem.boot_len (aa (bX (pv 0) rfl) af)) (aa ah (aa ah af)))) af))) rfl)
    (ag (jk (pv 0) ug rfl)
    (ag (jk (pv 0) ug rfl)
    (ag (jk (pv 0) Cq rfl)
    (aq (jk (pv 0) (EN (ui ah iC (ui ah iC EM)) rfl rfl (by simp) (by decide)) rfl))))))),?_⟩
   have np:∀{b:Addr}{u:HO},H b=some u->(∀C dx fs,u≠.ins C dx fs)->b≠p:=λhb hu z=>by
    rw [z,hp] at hb
    exact hu _ _ _ (Option.some.inj hb).symm
   have S8:o≠p:=np ho (λ_ _ _ z=>by cases z)
   refine ⟨_,rfl,o,_,rfl,.inl (ay.of ho),λnm e1=>?_⟩
   obtain ⟨p1,q1,r1,k1⟩:=eS (o:=.lst (names.map V.str)) (fs':=aA "names" (.ref nm) []) hp e1
   have b1:nm≠p:=(ab hp e1).symm
   refine ⟨_,rfl,p,C,dy,_,rfl,r1,T.cl,T.n1,(by show 0<1000; decide),?_⟩
   show dj _ _ _ _ (upd (upd H nm (.lst (names.map V.str))) p (.ins C dy (aA "names" (.ref nm) [])))
   generalize upd (upd H nm (.lst (names.map V.str))) p (.ins C dy (aA "names" (.ref nm) []))=H1 at p1 q1 k1 ⊢
   have oQ:=k1 _ _ ho S8
   refine ⟨_,rfl,o,rfl,⟨_,ay.of oQ⟩,λR hR=>?_⟩
   refine fQ names.length (λi acc σ H9=>(∃vs:List Addr,acc=vs.map V.ref/\Paired (λt (kv:Key×V)=>H9 t=some (.tup [kV kv.1,kv.2])) vs (fF 0 (names.take i)))/\(∃u v,σ=[u,v])/\aj H1 H9) ⟨⟨[],rfl,.nil⟩,⟨none,none,rfl⟩,aj.ar hR⟩ ae ?_ ?_
   . rintro acc σ H2 HG ⟨⟨vs,rfl,A0⟩,_,s2⟩
     rw [List.take_length] at A0
     refine ⟨⟨_,ay.of (s2 _ _ oQ),by rw [List.length_map]; exact Nat.le_refl _⟩,R,vs,_,rfl,HG,A0,λsp jl=>?_⟩
     rw [AZ nn]
     obtain ⟨p3,q3,r3,k3⟩:=eS (o:=.dK (fF 0 names)) (fs':=aA "spots" (.ref sp) (aA "names" (.ref nm) [])) (s2 _ _ p1) jl
     have b3:sp≠p:=(ab (s2 _ _ p1) jl).symm
     have k13:∀b u,H1 b=some u->b≠p->(upd (upd H2 sp (.dK (fF 0 names))) p (.ins C dy (aA "spots" (.ref sp) (aA "names" (.ref nm) [])))) b=some u:=λb u hb nb=>k3 _ _ (s2 _ _ hb) nb
     refine ⟨_,rfl,p,C,dy,_,rfl,r3,T.cl,T.n2,qg (bp (Nat.le_refl _)) (by show 1<1000; decide),?_⟩
     show dj _ _ _ _ (upd (upd H2 sp (.dK (fF 0 names))) p (.ins C dy (aA "spots" (.ref sp) (aA "names" (.ref nm) []))))
     generalize upd (upd H2 sp (.dK (fF 0 names))) p (.ins C dy (aA "spots" (.ref sp) (aA "names" (.ref nm) [])))=H3 at p3 q3 k13 ⊢
     have uW:cK H H3 p:=λb u hb nb=>k13 _ _ (k1 _ _ hb nb) nb
     have DM:=k13 _ _ q1 b1
     have MO:∀{f:Str}{v:V}{r:List (Str×V)},f ≠ "names" -> (aA f v r).lookup ("names" : Str)=r.lookup ("names" : Str):=λh=>by rw [aw,if_neg (Ne.symm h)]
     refine ⟨_,rfl,p,C,dy,_,_,rfl,p3,T.cl,T.n1,(by rw [MO (by decide +kernel),aw,if_pos rfl]),nm,_,rfl,.inl (ay.of DM),?_⟩
     rw [List.length_map]
     refine ⟨(by show 3<=sizeLine; decide),λt0 S9=>?_⟩
     have s4:aj H3 (upd H3 t0 (.tup (fh (names.length,0,0)))):=aj.ar S9
     have q4:(upd H3 t0 (.tup (fh (names.length,0,0)))) t0=some (.tup (fh (names.length,0,0))):=ae
     show lI _ _ _ (upd H3 t0 (.tup (fh (names.length,0,0)))) _
     generalize upd H3 t0 (.tup (fh (names.length,0,0)))=H4 at s4 q4 ⊢
     refine ⟨_,rfl,p,C,dy,_,_,rfl,s4 _ _ p3,T.cl,T.n1,(by rw [MO (by decide +kernel),aw,if_pos rfl]),nm,_,rfl,.inl (ay.of (s4 _ _ DM)),?_⟩
     rw [List.length_map]
     refine ⟨(by show 3<=sizeLine; decide),λt1 Ta=>?_⟩
     have s5:aj H4 (upd H4 t1 (.tup (fh (names.length,1,1)))):=aj.ar Ta
     have q5:(upd H4 t1 (.tup (fh (names.length,1,1)))) t1=some (.tup (fh (names.length,1,1))):=ae
     show yf _ (upd H4 t1 (.tup (fh (names.length,1,1)))) _
     generalize upd H4 t1 (.tup (fh (names.length,1,1)))=H5 at s5 q5 ⊢
     refine ⟨(by show 2<=sizeLine; decide),λnd e6=>?_⟩
     have oW:=s4.trans s5
     obtain ⟨p6,q6,r6,k6⟩:=eS (o:=.lst [.ref t0,.ref t1]) (fs':=aA "nodes" (.ref nd) (aA "spots" (.ref sp) (aA "names" (.ref nm) []))) (oW _ _ p3) e6
     have b6:nd≠p:=(ab (oW _ _ p3) e6).symm
     have d1:nd≠nm:=(ab (oW _ _ DM) e6).symm
     refine ⟨_,rfl,p,C,dy,_,rfl,r6,T.cl,T.n3,qg (bp (bp (Nat.le_refl _))) (by show 2<1000; decide),?_⟩
     show dj _ _ _ _ (upd (upd H5 nd (.lst [.ref t0,.ref t1])) p (.ins C dy (aA "nodes" (.ref nd) (aA "spots" (.ref sp) (aA "names" (.ref nm) [])))))
     have f6:H nd=none:=gy (λb u hb nb=>oW _ _ (uW _ _ hb nb)) e6 b6
     have A1:∀b u,H3 b=some u->b≠p->(upd (upd H5 nd (.lst [.ref t0,.ref t1])) p (.ins C dy (aA "nodes" (.ref nd) (aA "spots" (.ref sp) (aA "names" (.ref nm) []))))) b=some u:=λb u hb nb=>k6 _ _ (oW _ _ hb) nb
     have tp:∀{b:Addr}{xs:List V},H5 b=some (.tup xs)->b≠p:=λhb=>aL hb (oW _ _ p3) (by intro z; cases z)
     have MP:=k6 _ _ (s5 _ _ q4) (tp (s5 _ _ q4))
     have MQ:=k6 _ _ q5 (tp q5)
     have n0:t0≠p:=tp (s5 _ _ q4)
     have n1:t1≠p:=tp q5
     generalize upd (upd H5 nd (.lst [.ref t0,.ref t1])) p (.ins C dy (aA "nodes" (.ref nd) (aA "spots" (.ref sp) (aA "names" (.ref nm) []))))=H6 at p6 q6 A1 MP MQ ⊢
     have MR:cK H H6 p:=λb u hb nb=>A1 _ _ (uW _ _ hb nb) nb
     intro kn e7
     obtain ⟨p7,q7,r7,k7⟩:=eS (o:=.dT []) (fs':=aA "known" (.ref kn) (aA "nodes" (.ref nd) (aA "spots" (.ref sp) (aA "names" (.ref nm) [])))) p6 e7
     have b7:kn≠p:=(ab p6 e7).symm
     refine ⟨_,rfl,p,C,dy,_,rfl,r7,T.cl,T.n4,qg (bp (bp (bp (Nat.le_refl _)))) (by show 3<1000; decide),?_⟩
     show dj _ _ _ _ (upd (upd H6 kn (.dT [])) p (.ins C dy (aA "known" (.ref kn) (aA "nodes" (.ref nd) (aA "spots" (.ref sp) (aA "names" (.ref nm) []))))))
     have f7:H kn=none:=gy MR e7 b7
     generalize upd (upd H6 kn (.dT [])) p (.ins C dy (aA "known" (.ref kn) (aA "nodes" (.ref nd) (aA "spots" (.ref sp) (aA "names" (.ref nm) [])))))=H7 at p7 q7 k7 ⊢
     have MS:cK H H7 p:=λb u hb nb=>k7 _ _ (MR _ _ hb nb) nb
     intro ch e8
     obtain ⟨p8,q8,r8,k8⟩:=eS (o:=.dT []) (fs':=aA "choices" (.ref ch) (aA "known" (.ref kn) (aA "nodes" (.ref nd) (aA "spots" (.ref sp) (aA "names" (.ref nm) []))))) p7 e8
     have b8:ch≠p:=(ab p7 e8).symm
     have d2:kn≠ch:=ab q7 e8
     refine ⟨_,rfl,p,C,dy,_,rfl,r8,T.cl,T.n5,qg (bp (bp (bp (bp (Nat.le_refl _))))) (by show 4<1000; decide),?_⟩
     show dj _ _ _ _ (upd (upd H7 ch (.dT [])) p (.ins C dy (aA "choices" (.ref ch) (aA "known" (.ref kn) (aA "nodes" (.ref nd) (aA "spots" (.ref sp) (aA "names" (.ref nm) [])))))))
     have f8:H ch=none:=gy MS e8 b8
     generalize upd (upd H7 ch (.dT [])) p (.ins C dy (aA "choices" (.ref ch) (aA "known" (.ref kn) (aA "nodes" (.ref nd) (aA "spots" (.ref sp) (aA "names" (.ref nm) []))))))=H8 at p8 q8 k8 ⊢
     have MT:cK H H8 p:=λb u hb nb=>k8 _ _ (MS _ _ hb nb) nb
     intro im e9
     obtain ⟨p9,q9,r9,k9⟩:=eS (o:=iX P w im []) (fs':=aA "imported" (.ref im) (aA "choices" (.ref ch) (aA "known" (.ref kn) (aA "nodes" (.ref nd) (aA "spots" (.ref sp) (aA "names" (.ref nm) [])))))) p8 e9
     have b9:im≠p:=(ab p8 e9).symm
     refine ⟨_,rfl,p,C,dy,_,rfl,r9,T.cl,T.n6,qg (bp (bp (bp (bp (bp (Nat.le_refl _)))))) (by show 5<1000; decide),?_⟩
     show dj _ _ _ _ (upd (upd H8 im (iX P w im [])) p (.ins C dy (aA "imported" (.ref im) (aA "choices" (.ref ch) (aA "known" (.ref kn) (aA "nodes" (.ref nd) (aA "spots" (.ref sp) (aA "names" (.ref nm) []))))))))
     have f9:H im=none:=gy MT e9 b9
     generalize upd (upd H8 im (iX P w im [])) p (.ins C dy (aA "imported" (.ref im) (aA "choices" (.ref ch) (aA "known" (.ref kn) (aA "nodes" (.ref nd) (aA "spots" (.ref sp) (aA "names" (.ref nm) [])))))))=H9 at p9 q9 k9 ⊢
     have MU:cK H H9 p:=λb u hb nb=>k9 _ _ (MT _ _ hb nb) nb
     intro ex eA
     refine ⟨ae,[(.inl 0,.bl false),(.inl 1,.bl true)],rfl,(by show 2<=15; decide),?_⟩
     have bA:ex≠p:=(ab p9 eA).symm
     have fA:H ex=none:=gy MU eA bA
     have Tb:∀o':HO,upd (upd H9 ex (.dK [])) ex o'=upd H9 ex o':=λo'=>by
      funext b
      by_cases e:b=ex
      . rw [e,ae,ae]
      . rw [ai e,ai e,ai e]
     rw [show cH [] [((.inl 0:Key),V.bl false),(.inl 1,.bl true)]=[(.inl 0,.bl false),(.inl 1,.bl true)] from hW _ [] (by decide),Tb]
     obtain ⟨pA,qA,rA,kA⟩:=eS (o:=.dK [(.inl 0,.bl false),(.inl 1,.bl true)]) (fs':=cD nm sp nd kn ch im ex) p9 eA
     refine ⟨_,rfl,p,C,dy,_,rfl,rA,T.cl,T.n7,qg (bp (bp (bp (bp (bp (bp (Nat.le_refl _))))))) (by show 6<1000; decide),?_⟩
     have A2:∀b u,H6 b=some u->b≠p->(upd (upd H9 ex (.dK [(.inl 0,.bl false),(.inl 1,.bl true)])) p (.ins C dy (cD nm sp nd kn ch im ex))) b=some u:=λb u hb nb=>kA _ _ (k9 _ _ (k8 _ _ (k7 _ _ hb nb) nb) nb) nb
     have Tc:=k9 _ _ (k8 _ _ (k7 _ _ (A1 _ _ q3 b3) b3) b3) b3
     have f3:H sp=none:=gy (λb u hb nb=>s2 _ _ (k1 _ _ hb nb)) jl b3
     refine kk nm sp nd kn ch im ex t0 t1 _ ⟨pA,A2 _ _ (A1 _ _ DM b1) b1,A2 _ _ (A1 _ _ q3 b3) b3,A2 _ _ q6 b6,.cons (A2 _ _ MP n0) (.cons (A2 _ _ MQ n1) .nil),kA _ _ (k9 _ _ (k8 _ _ q7 b7) b7) b7,kA _ _ (k9 _ _ q8 b8) b8,(λ_ h=>nomatch h),kA _ _ q9 b9,(λ_ h=>nomatch h),qA,?_,⟨rfl,rfl⟩,S7 names t0 t1,nn,ns,n8,d1,d2,ab Tc eA⟩ (λb u hb nb=>kA _ _ (MU _ _ hb nb) nb) ?_ f3
     . intro kv bf
       rcases List.mem_cons.mp bf with rfl | bf
       . exact ⟨0,rfl,Nat.zero_lt_two,rfl⟩
       . rw [List.mem_singleton] at bf
         subst bf
         exact ⟨1,rfl,Nat.one_lt_two,rfl⟩
     . intro g hg
       simp only [List.mem_cons,List.not_mem_nil,or_false] at hg
       rcases hg with rfl | rfl | rfl | rfl | rfl <;> assumption
   . rintro i acc σ H9 hi HG ⟨⟨vs,rfl,A0⟩,⟨u,v,rfl⟩,s9⟩
     have u6:names[i]?=some names[i]:=List.getElem?_eq_getElem hi
     have ei:(names.map V.str)[i]?=some (.str names[i]):=by rw [List.getElem?_map,u6]; rfl
     refine ⟨⟨_,_,ay.of (s9 _ _ oQ),ei⟩,?_⟩
     rintro x' H' ⟨Tp,xv,rfl,Ag,rfl,jo⟩
     have ex:=jo _ (ay.of (s9 _ _ oQ))
     rw [ei] at ex
     cases ex
     have sT:aj H9 (upd H9 Tp (.tup [.int (i:Int),.str names[i]])):=aj.ar Ag
     have qT:(upd H9 Tp (.tup [.int (i:Int),.str names[i]])) Tp=some (.tup [.int (i:Int),.str names[i]]):=ae
     refine ⟨Tp,_,rfl,aT.of qT,rfl,_,_,rfl,_,_,rfl,rfl,?_⟩
     show nz _ (upd H9 Tp (.tup [.int (i:Int),.str names[i]])) _
     generalize upd H9 Tp (.tup [.int (i:Int),.str names[i]])=HT at sT qT ⊢
     refine AY ?_
     refine ⟨_,rfl,_,rfl,(by show 2<=sizeLine; decide),λt2 HH=>?_⟩
     have HI:=sT _ _ HG
     have nR:R≠t2:=ab HI HH
     have Td:=A0.length
     rw [xF,List.length_take] at Td
     refine ⟨_,(ai nR).trans HI,(by rw [List.length_map]; exact small (by omega)),cJ hi ae ⟨⟨vs++[t2],by rw [List.map_append]; rfl,?_⟩,⟨_,_,rfl⟩,λb o' hb=>?_⟩⟩
     . rw [List.take_succ,u6,Option.toList_some,xG,List.length_take,Nat.min_eq_left (Nat.le_of_lt hi)]
       refine b0 (Paired.cy A0 λt kv e=>?_) (.cons ?_ .nil)
       . have e':=sT _ _ e
         rw [ai (aL e' HI (by intro z; cases z)),ai (ab e' HH)]
         exact e'
       . rw [ai (Ne.symm nR),ae]
         show some (HO.tup [V.str names[i],V.int (i:Int)])=some (HO.tup [V.str names[i],V.int ((0+i:Nat):Int)])
         rw [Nat.zero_add]
     . rw [ai (ab hb hR),ai (ab (sT _ _ (s9 _ _ hb)) HH)]
       exact sT _ _ (s9 _ _ hb)
end
end Gen
namespace Gen
open PySem L2
theorem u7:∀t:Tr,fi t+2<=2*2 ^ t.dep
 | .leaf _=>Nat.le_refl _
 | .node _ l r=>by
  have h1:=u7 l
  have h2:=u7 r
  have e1:2 ^ l.dep<=2 ^ max l.dep r.dep:=Nat.pow_le_pow_right (by decide) (by omega)
  have e2:2 ^ r.dep<=2 ^ max l.dep r.dep:=Nat.pow_le_pow_right (by decide) (by omega)
  show fi l+fi r+2+2<=2*2 ^ (max l.dep r.dep+1)
  rw [Nat.pow_succ]
  omega
theorem qJ {t:Tr}(h:t.dep<=8):fi t<=510:=by
 have h1:=u7 t
 have h2:2 ^ t.dep<=2 ^ 8:=Nat.pow_le_pow_right (by decide) h
 omega
section
variable (P:Program) (w:World) (K:W.Frag) (mg:Str->Option Value) (base:Heap) (C:Addr)
end
structure Ord (H:Hp) (o:Addr) (names:List Str):Prop where
 at_:H o=some (.lst (names.map V.str))
 nd:names.Nodup
 ok:∀n∈names,PyData.strOk n=true
 n8:names.length<=8
theorem eJ {H H':Hp}(s:aj H H'):∀a xs,H a=some (.tup xs)->H' a=some (.tup xs):=λa xs e=>s _ _ e
section
variable {P:Program}{w:World}{K:W.Frag}{mg:Str->Option Value}{base:Heap}{C fI fT fC fA:Addr}{dI dT dC dA:FuncData}
theorem MV {n:Nat}{t0 t1:Addr} : Bd (DL n t0 t1) 2:=⟨Nat.le_refl _,Nat.zero_le _,Nat.zero_le _,Nat.le_refl _⟩
theorem u9 {H H1:Hp}{x dx C:Addr}(hx:H x=none) (mr:H dx=none) (k1:cK (upd (upd H dx (.own x)) x (.ins C dx [])) H1 x):aj H H1:=λb o hb=>by
 have n1:=ab hb hx
 have n2:=ab hb mr
 exact k1 b o (by rw [ai n1,ai n2]; exact hb) n1
theorem pJ {H:Hp}{x dx C g:Addr}(hx:H x=none) (mr:H dx=none) (hg:(upd (upd H dx (.own x)) x (.ins C dx [])) g=none):H g=none:=by
 cases e:H g with
 | none=>rfl
 | some o=>
  rw [ai (ab e hx),ai (ab e mr),e] at hg
  cases hg
end
end Gen
namespace Gen
open PySem L2
abbrev oy:Stmt:=inClass (top 4) 2
abbrev gg:Stmt:=inClass (top 4) 7
def hX (G:List Str) (e:Str->Bool) (t:Tr):Prop:=∃e':Str->Bool,(∀z,z∉G->e' z=e z)/\ev e' t=true
theorem Cy {G:List Str}{e:Str->Bool}{b:Bool} : hX G e (.leaf b) ↔ b=true:=⟨λ⟨_,_,h⟩=>h,λh=>⟨e,λ_ _=>rfl,h⟩⟩
theorem HJ {G ns:List Str}{e:Str->Bool}{n:Str}{l r:Tr}(hn:n∈G) (hs:n∉ns) (cl:cq ns l) (cr:cq ns r):hX G e (.node n l r) ↔ hX G e l\/hX G e r:=by
 constructor
 . rintro ⟨e',h1,h2⟩
   unfold ev at h2
   cases h:e' n
   . rw [h,if_neg (by decide)] at h2
     exact .inl ⟨e',h1,h2⟩
   . rw [h,if_pos rfl] at h2
     exact .inr ⟨e',h1,h2⟩
 . rintro (⟨e',h1,h2⟩ | ⟨e',h1,h2⟩)
   . refine ⟨put e' n false,λz hz=>?_,?_⟩
     . rw [← h1 z hz]
       exact if_neg λq:z=n=>hz (by rw [q]; exact hn)
     . unfold ev
       rw [show put e' n false n=false from if_pos rfl,if_neg (by decide),fE cl hs]
       exact h2
   . refine ⟨put e' n true,λz hz=>?_,?_⟩
     . rw [← h1 z hz]
       exact if_neg λq:z=n=>hz (by rw [q]; exact hn)
     . unfold ev
       rw [show put e' n true n=true from if_pos rfl,if_pos rfl,fE cr hs]
       exact h2
theorem Fm {G:List Str}{e:Str->Bool}{n:Str}{l r:Tr}(hn:n∉G):hX G e (.node n l r) ↔ if e n=true then hX G e r else hX G e l:=by
 have key:∀e':Str->Bool,(∀z,z∉G->e' z=e z)->ev e' (.node n l r)=if e n=true then ev e' r else ev e' l:=λe' h=>by
  unfold ev
  rw [h n hn]
  cases r <;> cases l <;> rfl
 cases h:e n
 . rw [if_neg (by decide)]
   constructor
   . rintro ⟨e',h1,h2⟩
     rw [key e' h1,h,if_neg (by decide)] at h2
     exact ⟨e',h1,h2⟩
   . rintro ⟨e',h1,h2⟩
     refine ⟨e',h1,?_⟩
     rw [key e' h1,h,if_neg (by decide)]
     exact h2
 . rw [if_pos rfl]
   constructor
   . rintro ⟨e',h1,h2⟩
     rw [key e' h1,h,if_pos rfl] at h2
     exact ⟨e',h1,h2⟩
   . rintro ⟨e',h1,h2⟩
     refine ⟨e',h1,?_⟩
     rw [key e' h1,h,if_pos rfl]
     exact h2
def wc:Tr->Nat
 | .leaf _=>0
 | .node _ l r=>wc l+wc r+1100
section
variable {P:Program}{w:World}{K:W.Frag}{mg:Str->Option Value}{base:Heap}{C y dy nm sp nd kn ch im ex:Addr}{names:List Str}{S:bZ}{H H':Hp}
theorem FO.putD (h:FO P w C H y dy nm sp nd kn ch im ex names S){md:Addr}{M M':List (Key×V)}(hm:H md=some (.dK M)) (n1:md≠sp) (n2:md≠ex):FO P w C (upd H md (.dK M')) y dy nm sp nd kn ch im ex names S:=by
 have k:∀{a:Addr}{o:HO},H a=some o->(∀q,o≠.dK q)->(upd H md (.dK M')) a=some o:=λha ho=>by
  rw [ai (aL ha hm (ho _))]
  exact ha
 have kt:∀a xs,H a=some (.tup xs)->(upd H md (.dK M')) a=some (.tup xs):=λa xs ha=>k ha (by intro _ z; cases z)
 exact ⟨k h.hy (by intro _ z; cases z),k h.hn (by intro _ z; cases z),by rw [ai (Ne.symm n1)]; exact h.hs,k h.hd (by intro _ z; cases z),Paired.cy h.ht λ_ _ e=>kt _ _ e,k h.hk (by intro _ z; cases z),k h.hc (by intro _ z; cases z),h.ck,k h.hi (by intro _ z; cases z),λp hp=>⟨(h.ik p hp).1.keep kt,(h.ik p hp).2⟩,by rw [ai (Ne.symm n2)]; exact h.he,
  λkv bf=>let ⟨i,a,b,c⟩:=h.ek kv bf; ⟨i,a,b,c.keep kt⟩,h.e0,h.fs,h.nn,h.ns,h.n8,h.d1,h.d2,h.d3⟩
theorem FO.dk (h:FO P w C H y dy nm sp nd kn ch im ex names S){b:Addr}{M:List (Key×V)}(hb:H b=some (.dK M)) (n2:b≠ex) (k:Kp H H' nd kn ch im ex):H' b=some (.dK M):=
 k b _ hb (aL hb h.hd (by intro z; cases z)) (aL hb h.hk (by intro z; cases z)) (aL hb h.hc (by intro z; cases z)) (aL hb h.hi (by intro z; cases z)) n2
def va (P:Program) (w:World) (C:Addr):Sp:=λvs H Q _=>∃(y dy nm sp nd kn ch im ex:Addr) (names:List Str) (S:bZ) (n:Str) (j b:Nat),vs=[.ref y,.str n]/\FO P w C H y dy nm sp nd kn ch im ex names S/\names[j]?=some n/\Bd S b/\b<3000000/\
 ∀(i:Nat) (S':bZ) (H':Hp),FO P w C H' y dy nm sp nd kn ch im ex names S'->Kp H H' nd kn ch im ex->cS S S'->Bd S' (b+1)->S'.IM=S.IM->S'.EX=S.EX->i<S'.N.length->ak S'.TS i=.node n (.leaf false) (.leaf true)->Q (.int (i:Int)) H'
theorem O5:aZ ["self", "name"] ["self", "name"] (ao oy):=⟨rfl,rfl,rfl,by decide +kernel,rfl,by decide +kernel,by decide +kernel⟩
theorem Fn {f fN:Addr}{fd dN:FuncData}(F:cw K "leaf_of" "Forest.leaf_of" oy f fd) (T:eP K mg C)
 (gN:av P w K mg base aE 1 fN dN hZ (g9 P w C)) (mN:Meth K C "node" fN) (bN:Binds K dN hZ []):av P w K mg base aE 2 f fd ["self", "name"] (va P w C):=by
 refine F.ok O5 (λvs H Q E h=>?_) (λcdv A outer s H vs Q E hr h=>?_)
 . obtain ⟨y,dy,nm,sp,nd,kn,ch,im,ex,names,S,n,j,b,rfl,_⟩:=h
   rfl
 . obtain ⟨y,dy,nm,sp,nd,kn,ch,im,ex,names,S,n,j,b,rfl,hO,hj,hB,hb,kk⟩:=h
   have hu:=iD hr
   refine ⟨_,aq (aK (bb (pv 0) T.cl mN gN hr bN .nil aB (aa (ij hu (bX (pv 0) rfl) (pv 1) (λ_ _=>rfl)) (aa ah (aa ah af))))),?_⟩
   have two:=hO.fs.two
   have AQ:=(List.getElem?_eq_some_iff.mp hj).1
   have z0:au S.N 0=names.length:=by unfold au; rw [hO.fs.z0]
   have z1:au S.N 1=names.length:=by unfold au; rw [hO.fs.z1]
   refine ⟨_,rfl,y,dy,_,rfl,hO.hy,jy _ _ _ _ _ _ _ (by decide +kernel) (by decide +kernel) (by decide +kernel) (by decide +kernel) (by decide +kernel) (by decide +kernel) (by decide +kernel),?_⟩
   refine ⟨_,rfl,y,C,dy,_,_,rfl,hO.hy,T.cl,T.n2,G6 ..,_,rfl,sp,.int ((0+j:Nat):Int),rfl,?_,?_⟩
   . have:=cG.k (k:=.inr n) hO.hs
     rw [uT names 0 j n hO.nn hj] at this
     exact this
   refine ⟨y,dy,nm,sp,nd,kn,ch,im,ex,names,S,j,0,1,b,by rw [Nat.zero_add]; rfl,hO,AQ,by omega,by omega,by omega,by omega,hB,by omega,λi S' H' Te k' g' B' c' m' x' l' s' t'=>?_⟩
   refine kk i S' H' Te k' g' B' m' x' l' ?_
   rw [t',if_neg (by decide),hO.fs.t0,hO.fs.t1,List.getD_eq_getElem?_getD,hj]
   rfl
end
end Gen
namespace Gen
open PySem L2
def vb (S:bZ) (R:(Str->Bool)->Tr->Prop) (MD:List (Key×V)):Prop:=∀kv∈MD,∃i m:Nat,kv.1=.inl (i:Int)/\kv.2=.int (m:Int)/\i<S.N.length/\m<S.N.length/\(∀e,ev e (ak S.TS m)=true ↔ R e (ak S.TS i))/\au S.N i<=au S.N m
theorem vb.grow {S S':bZ}{R:(Str->Bool)->Tr->Prop}{MD:List (Key×V)}(h:vb S R MD) (g:cS S S') (hl:S.N.length=S.TS.length):vb S' R MD:=λkv bf=>by
 obtain ⟨i,m,e1,e2,l1,l2,hv,hs⟩:=h kv bf
 have:=g.le
 refine ⟨i,m,e1,e2,by omega,by omega,λe=>?_,?_⟩
 . rw [g.ak (by omega),g.ak (by omega)]
   exact hv e
 . rw [g.au l1,g.au l2]
   exact hs
def mv (H H':Hp) (nd kn ch im ex md:Addr):Prop:=∀b o,H b=some o->b≠nd->b≠kn->b≠ch->b≠im->b≠ex->b≠md->H' b=some o
theorem mv.of {H H':Hp}{nd kn ch im ex md:Addr}(k:Kp H H' nd kn ch im ex):mv H H' nd kn ch im ex md:=λb o h h1 h2 h3 h4 h5 _=>k b o h h1 h2 h3 h4 h5
theorem mv.trans {H H1 H':Hp}{nd kn ch im ex md:Addr}(a:mv H H1 nd kn ch im ex md) (b:mv H1 H' nd kn ch im ex md):mv H H' nd kn ch im ex md:=λc o h h1 h2 h3 h4 h5 h6=>b c o (a c o h h1 h2 h3 h4 h5 h6) h1 h2 h3 h4 h5 h6
def yM (P:Program) (w:World) (C:Addr) (d:Nat):Sp:=λvs H Q _=>∃(y dy nm sp nd kn ch im ex g md:Addr) (names G:List Str) (S:bZ) (gk MD:List (Key×V)) (n b:Nat),vs=[.ref y,.int (n:Int),.ref g,.ref md]/\FO P w C H y dy nm sp nd kn ch im ex names S/\n<S.N.length/\(ak S.TS n).dep<d/\
 H g=some (.dK gk)/\H md=some (.dK MD)/\md≠sp/\md≠ex/\g≠ex/\g≠md/\(∀z,(aR gk (.inr z)).isSome=true ↔ z∈G)/\vb S (hX G) MD/\MD.length<=b/\Bd S b/\b+wc (ak S.TS n)<3000000/\
 ∀(m:Nat) (S':bZ) (qK:List (Key×V)) (H':Hp),FO P w C H' y dy nm sp nd kn ch im ex names S'->H' md=some (.dK qK)->vb S' (hX G) qK->qK.length<=b+wc (ak S.TS n)->mv H H' nd kn ch im ex md->cS S S'->Bd S' (b+wc (ak S.TS n))->S'.IM=S.IM->S'.EX=S.EX->m<S'.N.length->(∀e,ev e (ak S'.TS m)=true ↔ hX G e (ak S.TS n))->au S.N n<=au S'.N m->Q (.int (m:Int)) H'
abbrev Tf:List Str:=["self", "number", "gone", "made", "node", "low", "high", "is_gone"]
abbrev qL:List Str:=["self", "number", "gone", "made"]
section
variable {P:Program}{w:World}{K:W.Frag}{mg:Str->Option Value}{base:Heap}{C:Addr}
theorem vc:aZ Tf qL (ao gg):=⟨rfl,rfl,rfl,by decide +kernel,rfl,by decide +kernel,by decide +kernel⟩
theorem yN {f fN fC:Addr}{fd dN dC:FuncData}{d k:Nat}(F:cw K "without" "Forest.without" gg f fd) (T:eP K mg C) (G0:av P w K mg base aE (k+10) f fd qL (yM P w C d)) (mW:Meth K C "without" f) (bW:Binds K fd qL [])
 (gN:av P w K mg base aE 1 fN dN hZ (g9 P w C)) (mN:Meth K C "node" fN) (bN:Binds K dN hZ [])
 (gC:av P w K mg base aE 10 fC dC jB (gf P w C 9)) (mC:Meth K C "chosen" fC) (bC:Binds K dC jB []):av P w K mg base aE (k+10+1) f fd qL (yM P w C (d+1)):=by
 refine F.ok vc (λvs H Q E h=>?_) (λcdv A outer s H vs Q E hr h=>?_)
 . obtain ⟨y,dy,nm,sp,nd,kn,ch,im,ex,g,md,names,G,S,gk,MD,n,b,rfl,_⟩:=h
   rfl
 . obtain ⟨y,dy,nm,sp,nd,kn,ch,im,ex,g,md,names,G,S,gk,MD,n,b,rfl,hO,hn,hd,hg,fG,m1,m2,g1,g2,hG,hM,HK,hB,hb,kk⟩:=h
   have hu:=iD hr
   have ef:bw 1 _:=hr.mono (by omega)
   have j9:bw 10 _:=hr.mono (by omega)
   refine ⟨_,ag (bF (bj lH (pv 1) ah (br _)) (aq (aK (pv 1))) aY)
    (ag (bF (fu (su hu (pv 1) (pv 3)) (by with_unfolding_all rfl))
     (ag (ax (i:=4) vc.nd rfl (Or.inl rfl) (aS (r:=dt K) bz (bX (pv 0) rfl) (pv 1) (λ_ _=>rfl)))
     (ag (ax (i:=5) vc.nd rfl (Or.inl rfl) (bb (pv 0) T.cl mW G0 hr bW .nil aB (aa (aS (r:=cW K) bQ (pv 4) ah (λ_ _=>rfl)) (aa (pv 2) (aa (pv 3) af)))))
     (ag (ax (i:=6) vc.nd rfl (Or.inl rfl) (bb (pv 0) T.cl mW G0 hr bW .nil aB (aa (aS (r:=cW K) bQ (pv 4) ah (λ_ _=>rfl)) (aa (pv 2) (aa (pv 3) af)))))
     (ag (ax (i:=7) vc.nd rfl (Or.inl rfl) (FX (ue hu (aS (r:=dt K) bz (bX (pv 0) rfl) (aS (r:=cW K) bQ (pv 4) ah (λ_ _=>rfl)) (λ_ _=>rfl)) (pv 2)) (by with_unfolding_all rfl)))
     (aq (jc hu (pv 3) (pv 1) (lE (fv (pv 7)) (bb (pv 0) T.cl mC gC j9 bC .nil aB (aa (pv 5) (aa ah (aa (pv 6) af)))) (bb (pv 0) T.cl mN gN ef bN .nil aB (aa (aS (r:=cW K) bQ (pv 4) ah (λ_ _=>rfl)) (aa (pv 5) (aa (pv 6) af))))) rfl)))))) aY)
    (aq (aK (ij hu (pv 3) (pv 1) (λ_ _=>rfl))))),?_⟩
   refine ⟨_,rfl,_,_,rfl,rfl,_,rfl,?_⟩
   by_cases h2:n<2
   . refine bY (decide_eq_true (by omega)) ⟨_,rfl,kk n S MD H hO fG hM (by omega) (.of dJ) (.refl S) (hB.up (Nat.le_add_right ..)) rfl rfl hn (λe=>?_) (Nat.le_refl _)⟩
     have yO:∃c,ak S.TS n=.leaf c:=by
      rcases (show n=0\/n=1 by omega) with rfl | rfl
      . exact ⟨_,hO.fs.t0⟩
      . exact ⟨_,hO.fs.t1⟩
     obtain ⟨c,hc⟩:=yO
     rw [hc,Cy]
     exact Iff.rfl
   refine bJ (decide_eq_false (by omega)) ?_
   refine ⟨_,rfl,_,rfl,md,_,rfl,cG.k (k:=.inl (n:Int)) fG,_,rfl,?_⟩
   have eK:∀{v:V},aR MD (.inl (n:Int))=some v->Q v H:=λhv=>by
    obtain ⟨i,m,e1,e2,l1,l2,zI,hs⟩:=hM _ (iR hv)
    have ei:i=n:=by have:=Sum.inl.inj e1; omega
    subst ei
    cases (show _=V.int (m:Int) from e2)
    exact kk m S MD H hO fG hM (by omega) (.of dJ) (.refl S) (hB.up (Nat.le_add_right ..)) rfl rfl l2 zI hs
   cases hv:aR MD (.inl (n:Int)) with
   | some v=>
    refine bJ rfl ⟨_,rfl,_,rfl,md,v,rfl,?_,eK hv⟩
    have:=cG.k (k:=.inl (n:Int)) fG
    rw [hv] at this
    exact this
   | none=>
    refine bY rfl ?_
    obtain ⟨a1,a2,a3,a4,a5,a6,a7⟩:=hO.fs.nd n (by omega) hn
    have rG:low S.N n<S.N.length:=by omega
    have uX:cM S.N n<S.N.length:=by omega
    have Tg:wc (ak S.TS n)=wc (ak S.TS (low S.N n))+wc (ak S.TS (cM S.N n))+1100:=by rw [a7]; rfl
    have yG:(ak S.TS n).dep=max (ak S.TS (low S.N n)).dep (ak S.TS (cM S.N n)).dep+1:=by rw [a7]; rfl
    obtain ⟨t,h1,mw⟩:=hO.node hn
    have hU:∀m∈["without", "chosen", "node"],(cD nm sp nd kn ch im ex).lookup (m:Str)=none:=λm hm=>by
     simp only [List.mem_cons,List.not_mem_nil,or_false] at hm
     rcases hm with rfl | rfl | rfl <;> exact jy _ _ _ _ _ _ _ (by decide +kernel) (by decide +kernel) (by decide +kernel) (by decide +kernel) (by decide +kernel) (by decide +kernel) (by decide +kernel)
    have nW:=hU "without" (by decide)
    have nC:=hU "chosen" (by decide)
    have nN:=hU "node" (by decide)
    refine ⟨_,rfl,y,C,dy,_,_,rfl,hO.hy,T.cl,T.n3,lU ..,_,rfl,nd,_,_,.ref t,rfl,rfl,ay.of hO.hd,aF (by rw [List.getElem?_map,h1]; rfl),?_⟩
    refine ⟨_,rfl,y,dy,_,rfl,hO.hy,nW,_,rfl,t,_,1,_,rfl,rfl,aT.of mw,aF (j:=1) rfl,_,rfl,_,rfl,?_⟩
    refine ⟨y,dy,nm,sp,nd,kn,ch,im,ex,g,md,names,G,S,gk,MD,low S.N n,b,rfl,hO,rG,by omega,hg,fG,m1,m2,g1,g2,hG,hM,HK,hB,by omega,λn1 S1 HL H1 aM Cz HM CA k1 qM B1 HN HP l1 e1 p1=>?_⟩
    have Th:=qM.le
    have hlen:=hO.fs.len
    have kd:∀{Hx:Hp}{b:Addr}{M:List (Key×V)},mv H Hx nd kn ch im ex md->H b=some (.dK M)->b≠ex->b≠md->Hx b=some (.dK M):=λk hb n1 n2=>k _ _ hb (aL hb hO.hd (by intro z; cases z)) (aL hb hO.hk (by intro z; cases z)) (aL hb hO.hc (by intro z; cases z)) (aL hb hO.hi (by intro z; cases z)) n1 n2
    have kt:∀{Hx:Hp}{b:Addr}{xs:List V},mv H Hx nd kn ch im ex md->H b=some (.tup xs)->Hx b=some (.tup xs):=λk hb=>k _ _ hb (aL hb hO.hd (by intro z; cases z)) (aL hb hO.hk (by intro z; cases z)) (aL hb hO.hc (by intro z; cases z)) (aL hb hO.hi (by intro z; cases z)) (aL hb hO.he (by intro z; cases z)) (aL hb fG (by intro z; cases z))
    have th:ak S1.TS (cM S.N n)=ak S.TS (cM S.N n):=qM.ak (by omega)
    have sh:au S1.N (cM S.N n)=au S.N (cM S.N n):=qM.au uX
    refine ⟨_,rfl,y,dy,_,rfl,aM.hy,nW,_,rfl,t,_,2,_,rfl,rfl,aT.of (kt k1 mw),aF (j:=2) rfl,_,rfl,_,rfl,?_⟩
    refine ⟨y,dy,nm,sp,nd,kn,ch,im,ex,g,md,names,G,S1,gk,HL,cM S.N n,b+wc (ak S.TS (low S.N n)),rfl,aM,by omega,by rw [th]; omega,kd k1 hg g1 g2,Cz,m1,m2,g1,g2,hG,HM,CA,B1,by rw [th]; omega,λn2 S2 vd H2 cv CB HQ CC k2 sQ B2 HR HS l2 e2 p2=>?_⟩
    rw [th] at CC B2 e2
    rw [sh] at p2
    have sR:=k1.trans k2
    have yP:=qM.trans sQ
    have MM:=sQ.le
    have sO:n1<S2.N.length:=by omega
    have sP:ak S2.TS n1=ak S1.TS n1:=sQ.ak (by rw [← aM.fs.len]; exact l1)
    have AM:au S2.N n1=au S1.N n1:=sQ.au l1
    have two:=cv.fs.two
    have Wm:au S2.N 1=names.length:=by unfold au; rw [cv.fs.z1]
    have my:(names.map V.str)[au S.N n]?=some (.str (names.getD (au S.N n) "")):=by rw [List.getElem?_map,List.getD_eq_getElem?_getD,List.getElem?_eq_getElem a1]; rfl
    have DN:=kd sR hg g1 g2
    refine ⟨_,rfl,y,C,dy,_,_,rfl,cv.hy,T.cl,T.n1,Cr ..,_,rfl,t,_,0,_,rfl,rfl,aT.of (kt sR mw),aF (j:=0) rfl,nm,_,_,.str (names.getD (au S.N n) ""),rfl,rfl,ay.of cv.hn,aF my,_,rfl,g,_,rfl,cG.k (k:=.inr (names.getD (au S.N n) "")) DN,?_⟩
    have ln:names.getD (au S.N n) "" ∉ names.drop (au S.N n+1):=by
     have h3:=hO.nn
     rw [← List.take_append_drop (au S.N n) names,List.drop_eq_getElem_cons a1] at h3
     have h4:=(List.nodup_append.mp h3).2.1
     rw [List.getD_eq_getElem?_getD,List.getElem?_eq_getElem a1]
     exact (List.nodup_cons.mp h4).1
    have cl:cq (names.drop (au S.N n+1)) (ak S.TS (low S.N n)):=eO (hO.fs.DI hO.nn _ rG) a5
    have cr:cq (names.drop (au S.N n+1)) (ak S.TS (cM S.N n)):=eO (hO.fs.DI hO.nn _ uX) a6
    have fin:∀(m:Nat) (S3:bZ) (H3:Hp),FO P w C H3 y dy nm sp nd kn ch im ex names S3->Kp H2 H3 nd kn ch im ex->cS S2 S3->Bd S3 (b+wc (ak S.TS n))->S3.IM=S2.IM->S3.EX=S2.EX->m<S3.N.length->(∀e,ev e (ak S3.TS m)=true ↔ hX G e (ak S.TS n))->au S.N n<=au S3.N m->
     ∃a H4,V.ref md=.ref a/\gJ H3 a (.int (n:Int)) (.int (m:Int)) H4/\(BL (yh (ib 3) (ib 1))) { nx:=λ_ H'=>Q .aX H',rt:=Q } ((((([some (.ref y),some (.int (n:Int)),some (.ref g),some (.ref md),some (.ref t),some (.int (n1:Int)),some (.int (n2:Int)),some (.bl (aR gk (.inr (names.getD (au S.N n) ""))).isSome)]:St))))) H4:=by
     intro m S3 H3 cQ k3 la B3 nI nJ l3 A3 Hv
     have ve:=cv.dk CB m2 k3
     have nK:=yP.trans la
     have Ti:=nK.le
     have CD:=cQ.putD (M':=putK vd (.inl (n:Int)) (.int (m:Int))) ve m1 m2
     refine ⟨md,_,rfl,gJ.k (k:=.inl (n:Int)) ve (big (by omega)),?_⟩
     refine ⟨_,rfl,_,rfl,md,.int (m:Int),rfl,?_,?_⟩
     . have:=cG.k (k:=.inl (n:Int)) (show (upd H3 md (.dK (putK vd (.inl (n:Int)) (.int (m:Int))))) md=some (.dK (putK vd (.inl (n:Int)) (.int (m:Int)))) from ae)
       rw [o8,if_pos rfl] at this
       exact this
     refine kk m S3 _ _ CD ae (λkv bf=>?_) (Nat.le_trans (eg _ _ _) (by omega)) ((sR.trans (.of k3)).trans λc o hc _ _ _ _ _ n6=>by rw [ai n6]; exact hc) nK B3 (nI.trans (HR.trans HN)) (nJ.trans (HS.trans HP)) l3 A3 Hv
     rcases pH bf with bf | bf
     . exact (HQ.grow la cv.fs.len) kv bf
     . subst bf
       exact ⟨n,m,rfl,rfl,by omega,l3,λe=>by rw [nK.ak (i:=n) (by omega)]; exact A3 e,by rw [nK.au hn]; exact Hv⟩
    have Tj:cst 9=1022:=rfl
    have n8:=hO.n8
    by_cases eG:names.getD (au S.N n) "" ∈ G
    . refine ⟨_,rfl,_,rfl,bY ((hG _).mpr eG) ?_⟩
      refine ⟨_,rfl,y,dy,_,rfl,cv.hy,nC,_,rfl,_,rfl,?_⟩
      refine ⟨y,dy,nm,sp,nd,kn,ch,im,ex,names,S2,n1,1,n2,b+wc (ak S.TS (low S.N n))+wc (ak S.TS (cM S.N n)),rfl,cv,sO,by omega,l2,by omega,B2,by omega,λm S3 H3 cQ k3 la B3 nI nJ l3 e3 p3=>⟨_,rfl,_,rfl,fin m S3 H3 cQ k3 la (B3.up (by omega)) nI nJ l3 (λe=>?_) (by omega)⟩⟩
      rw [e3 e,sP,cv.fs.t1,a7,HJ eG ln cl cr,← e1 e,← e2 e,show ev e (Tr.leaf true)=true from rfl]
      cases ev e (ak S1.TS n1) <;> cases ev e (ak S2.TS n2) <;> decide
    . have AK:(aR gk (.inr (names.getD (au S.N n) ""))).isSome=false:=by
       cases h:(aR gk (.inr (names.getD (au S.N n) ""))).isSome
       . rfl
       . exact absurd ((hG _).mp h) eG
      refine ⟨_,rfl,_,rfl,bJ AK ?_⟩
      refine ⟨_,rfl,y,dy,_,rfl,cv.hy,nN,_,rfl,t,_,0,_,rfl,rfl,aT.of (kt sR mw),aF (j:=0) rfl,_,rfl,_,rfl,?_⟩
      refine ⟨y,dy,nm,sp,nd,kn,ch,im,ex,names,S2,au S.N n,n1,n2,b+wc (ak S.TS (low S.N n))+wc (ak S.TS (cM S.N n)),rfl,cv,a1,sO,l2,by omega,by omega,B2,by omega,λm S3 H3 cQ k3 la B3 _ nI nJ l3 p3 t3=>⟨_,rfl,_,rfl,fin m S3 H3 cQ k3 la (B3.up (by omega)) nI nJ l3 (λe=>?_) p3⟩⟩
      have e7:ev e (ak S3.TS m)=if e (names.getD (au S.N n) "")=true then ev e (ak S2.TS n2) else ev e (ak S2.TS n1):=by
       rw [t3]
       by_cases z:n1=n2
       . rw [if_pos z,z]
         split <;> rfl
       . rw [if_neg z]
         rfl
      rw [e7,a7,Fm eG,sP]
      cases e (names.getD (au S.N n) "")
      . rw [if_neg (by decide),if_neg (by decide)]
        exact e1 e
      . rw [if_pos rfl,if_pos rfl]
        exact e2 e
end
end Gen
namespace Gen
open PySem L2
abbrev eT:Stmt:=inClass (top 4) 8
def fq (R:Str->Option Tr) (e:Str->Bool):Str->Bool:=λn=>match R n with | some t=>ev e t | none=>e n
def vf (S:bZ) (R:Str->Option Tr) (MD:List (Key×V)):Prop:=∀kv∈MD,∃i m:Nat,kv.1=.inl (i:Int)/\kv.2=.int (m:Int)/\i<S.N.length/\m<S.N.length/\∀e,ev e (ak S.TS m)=ev (fq R e) (ak S.TS i)
theorem vf.grow {S S':bZ}{R:Str->Option Tr}{MD:List (Key×V)}(h:vf S R MD) (g:cS S S') (hl:S.N.length=S.TS.length):vf S' R MD:=λkv bf=>by
 obtain ⟨i,m,e1,e2,l1,l2,hv⟩:=h kv bf
 have:=g.le
 refine ⟨i,m,e1,e2,by omega,by omega,λe=>?_⟩
 rw [g.ak (by omega),g.ak (by omega)]
 exact hv e
def vg (S:bZ) (R:Str->Option Tr) (gk:List (Key×V)):Prop:=∀z,match R z with | some t=>∃i:Nat,aR gk (.inr z)=some (.int (i:Int))/\i<S.N.length/\ak S.TS i=t | none=>aR gk (.inr z)=none
theorem vg.grow {S S':bZ}{R:Str->Option Tr}{gk:List (Key×V)}(h:vg S R gk) (g:cS S S') (hl:S.N.length=S.TS.length):vg S' R gk:=λz=>by
 have hz:=h z
 have:=g.le
 cases e:R z with
 | none=>rw [e] at hz; exact hz
 | some t=>
  rw [e] at hz
  obtain ⟨i,h1,h2,h3⟩:=hz
  exact ⟨i,h1,by omega,by rw [g.ak (by omega)]; exact h3⟩
def yQ (P:Program) (w:World) (C:Addr) (d:Nat):Sp:=λvs H Q _=>∃(y dy nm sp nd kn ch im ex g md:Addr) (names:List Str) (R:Str->Option Tr) (S:bZ) (gk MD:List (Key×V)) (n b:Nat),vs=[.ref y,.int (n:Int),.ref g,.ref md]/\FO P w C H y dy nm sp nd kn ch im ex names S/\n<S.N.length/\(ak S.TS n).dep<d/\
 H g=some (.dK gk)/\H md=some (.dK MD)/\md≠sp/\md≠ex/\g≠ex/\g≠md/\vg S R gk/\vf S R MD/\MD.length<=b/\Bd S b/\b+wc (ak S.TS n)<3000000/\
 ∀(m:Nat) (S':bZ) (qK:List (Key×V)) (H':Hp),FO P w C H' y dy nm sp nd kn ch im ex names S'->H' md=some (.dK qK)->vf S' R qK->qK.length<=b+wc (ak S.TS n)->mv H H' nd kn ch im ex md->cS S S'->Bd S' (b+wc (ak S.TS n))->S'.IM=S.IM->S'.EX=S.EX->m<S'.N.length->(∀e,ev e (ak S'.TS m)=ev (fq R e) (ak S.TS n))->Q (.int (m:Int)) H'
abbrev Tn:List Str:=["self", "number", "trees", "made", "node", "low", "high", "name"]
abbrev qN:List Str:=["self", "number", "trees", "made"]
section
variable {P:Program}{w:World}{K:W.Frag}{mg:Str->Option Value}{base:Heap}{C:Addr}
theorem vh:aZ Tn qN (ao eT):=⟨rfl,rfl,rfl,by decide +kernel,rfl,by decide +kernel,by decide +kernel⟩
theorem wG {f fL fC:Addr}{fd dL dC:FuncData}{d k:Nat}(F:cw K "replaced" "Forest.replaced" eT f fd) (T:eP K mg C) (G0:av P w K mg base aE (k+10) f fd qN (yQ P w C d)) (mW:Meth K C "replaced" f) (bW:Binds K fd qN [])
 (gL:av P w K mg base aE 2 fL dL ["self", "name"] (va P w C)) (mL:Meth K C "leaf_of" fL) (bL:Binds K dL ["self", "name"] [])
 (gC:av P w K mg base aE 10 fC dC jB (gf P w C 9)) (mC:Meth K C "chosen" fC) (bC:Binds K dC jB []):av P w K mg base aE (k+10+1) f fd qN (yQ P w C (d+1)):=by
 refine F.ok vh (λvs H Q E h=>?_) (λcdv A outer s H vs Q E hr h=>?_)
 . obtain ⟨y,dy,nm,sp,nd,kn,ch,im,ex,g,md,names,R,S,gk,MD,n,b,rfl,_⟩:=h
   rfl
 . obtain ⟨y,dy,nm,sp,nd,kn,ch,im,ex,g,md,names,R,S,gk,MD,n,b,rfl,hO,hn,hd,hg,fG,m1,m2,g1,g2,hG,hM,HK,hB,hb,kk⟩:=h
   have hu:=iD hr
   have A4:bw 2 _:=hr.mono (by omega)
   have j9:bw 10 _:=hr.mono (by omega)
   refine ⟨_,ag (bF (bj lH (pv 1) ah (br _)) (aq (aK (pv 1))) aY)
    (ag (bF (fu (su hu (pv 1) (pv 3)) (by with_unfolding_all rfl))
     (ag (ax (i:=4) vh.nd rfl (Or.inl rfl) (aS (r:=dt K) bz (bX (pv 0) rfl) (pv 1) (λ_ _=>rfl)))
     (ag (ax (i:=5) vh.nd rfl (Or.inl rfl) (bb (pv 0) T.cl mW G0 hr bW .nil aB (aa (aS (r:=cW K) bQ (pv 4) ah (λ_ _=>rfl)) (aa (pv 2) (aa (pv 3) af)))))
     (ag (ax (i:=6) vh.nd rfl (Or.inl rfl) (bb (pv 0) T.cl mW G0 hr bW .nil aB (aa (aS (r:=cW K) bQ (pv 4) ah (λ_ _=>rfl)) (aa (pv 2) (aa (pv 3) af)))))
     (ag (ax (i:=7) vh.nd rfl (Or.inl rfl) (aS (r:=dt K) bz (bX (pv 0) rfl) (aS (r:=cW K) bQ (pv 4) ah (λ_ _=>rfl)) (λ_ _=>rfl)))
     (aq (jc hu (pv 3) (pv 1) (bb (pv 0) T.cl mC gC j9 bC .nil aB (aa (lE (fu (ue hu (pv 7) (pv 2)) (by with_unfolding_all rfl)) (ij hu (pv 2) (pv 7) (λ_ _=>rfl)) (bb (pv 0) T.cl mL gL A4 bL .nil aB (aa (pv 7) af))) (aa (pv 6) (aa (pv 5) af)))) rfl)))))) aY)
    (aq (aK (ij hu (pv 3) (pv 1) (λ_ _=>rfl))))),?_⟩
   refine ⟨_,rfl,_,_,rfl,rfl,_,rfl,?_⟩
   by_cases h2:n<2
   . refine bY (decide_eq_true (by omega)) ⟨_,rfl,kk n S MD H hO fG hM (by omega) (.of dJ) (.refl S) (hB.up (Nat.le_add_right ..)) rfl rfl hn (λe=>?_)⟩
     have yO:∃c,ak S.TS n=.leaf c:=by
      rcases (show n=0\/n=1 by omega) with rfl | rfl
      . exact ⟨_,hO.fs.t0⟩
      . exact ⟨_,hO.fs.t1⟩
     obtain ⟨c,hc⟩:=yO
     rw [hc]
     rfl
   refine bJ (decide_eq_false (by omega)) ?_
   refine ⟨_,rfl,_,rfl,md,_,rfl,cG.k (k:=.inl (n:Int)) fG,_,rfl,?_⟩
   have eK:∀{v:V},aR MD (.inl (n:Int))=some v->Q v H:=λhv=>by
    obtain ⟨i,m,e1,e2,l1,l2,zI⟩:=hM _ (iR hv)
    have ei:i=n:=by have:=Sum.inl.inj e1; omega
    subst ei
    cases (show _=V.int (m:Int) from e2)
    exact kk m S MD H hO fG hM (by omega) (.of dJ) (.refl S) (hB.up (Nat.le_add_right ..)) rfl rfl l2 zI
   cases hv:aR MD (.inl (n:Int)) with
   | some v=>
    refine bJ rfl ⟨_,rfl,_,rfl,md,v,rfl,?_,eK hv⟩
    have:=cG.k (k:=.inl (n:Int)) fG
    rw [hv] at this
    exact this
   | none=>
    refine bY rfl ?_
    obtain ⟨a1,a2,a3,a4,a5,a6,a7⟩:=hO.fs.nd n (by omega) hn
    have rG:low S.N n<S.N.length:=by omega
    have uX:cM S.N n<S.N.length:=by omega
    have Tg:wc (ak S.TS n)=wc (ak S.TS (low S.N n))+wc (ak S.TS (cM S.N n))+1100:=by rw [a7]; rfl
    have yG:(ak S.TS n).dep=max (ak S.TS (low S.N n)).dep (ak S.TS (cM S.N n)).dep+1:=by rw [a7]; rfl
    obtain ⟨t,h1,mw⟩:=hO.node hn
    have hU:∀m∈["replaced", "chosen", "leaf_of"],(cD nm sp nd kn ch im ex).lookup (m:Str)=none:=λm hm=>by
     simp only [List.mem_cons,List.not_mem_nil,or_false] at hm
     rcases hm with rfl | rfl | rfl <;> exact jy _ _ _ _ _ _ _ (by decide +kernel) (by decide +kernel) (by decide +kernel) (by decide +kernel) (by decide +kernel) (by decide +kernel) (by decide +kernel)
    have nW:=hU "replaced" (by decide)
    have nC:=hU "chosen" (by decide)
    have nL:=hU "leaf_of" (by decide)
    refine ⟨_,rfl,y,C,dy,_,_,rfl,hO.hy,T.cl,T.n3,lU ..,_,rfl,nd,_,_,.ref t,rfl,rfl,ay.of hO.hd,aF (by rw [List.getElem?_map,h1]; rfl),?_⟩
    refine ⟨_,rfl,y,dy,_,rfl,hO.hy,nW,_,rfl,t,_,1,_,rfl,rfl,aT.of mw,aF (j:=1) rfl,_,rfl,_,rfl,?_⟩
    refine ⟨y,dy,nm,sp,nd,kn,ch,im,ex,g,md,names,R,S,gk,MD,low S.N n,b,rfl,hO,rG,by omega,hg,fG,m1,m2,g1,g2,hG,hM,HK,hB,by omega,λn1 S1 HL H1 aM Cz HM CA k1 qM B1 HN HP l1 e1=>?_⟩
    have Th:=qM.le
    have hlen:=hO.fs.len
    have kd:∀{Hx:Hp}{b:Addr}{M:List (Key×V)},mv H Hx nd kn ch im ex md->H b=some (.dK M)->b≠ex->b≠md->Hx b=some (.dK M):=λk hb n1 n2=>k _ _ hb (aL hb hO.hd (by intro z; cases z)) (aL hb hO.hk (by intro z; cases z)) (aL hb hO.hc (by intro z; cases z)) (aL hb hO.hi (by intro z; cases z)) n1 n2
    have kt:∀{Hx:Hp}{b:Addr}{xs:List V},mv H Hx nd kn ch im ex md->H b=some (.tup xs)->Hx b=some (.tup xs):=λk hb=>k _ _ hb (aL hb hO.hd (by intro z; cases z)) (aL hb hO.hk (by intro z; cases z)) (aL hb hO.hc (by intro z; cases z)) (aL hb hO.hi (by intro z; cases z)) (aL hb hO.he (by intro z; cases z)) (aL hb fG (by intro z; cases z))
    have th:ak S1.TS (cM S.N n)=ak S.TS (cM S.N n):=qM.ak (by omega)
    refine ⟨_,rfl,y,dy,_,rfl,aM.hy,nW,_,rfl,t,_,2,_,rfl,rfl,aT.of (kt k1 mw),aF (j:=2) rfl,_,rfl,_,rfl,?_⟩
    refine ⟨y,dy,nm,sp,nd,kn,ch,im,ex,g,md,names,R,S1,gk,HL,cM S.N n,b+wc (ak S.TS (low S.N n)),rfl,aM,by omega,by rw [th]; omega,kd k1 hg g1 g2,Cz,m1,m2,g1,g2,hG.grow qM hlen,HM,CA,B1,by rw [th]; omega,λn2 S2 vd H2 cv CB HQ CC k2 sQ B2 HR HS l2 e2=>?_⟩
    rw [th] at CC B2 e2
    have sR:=k1.trans k2
    have yP:=qM.trans sQ
    have MM:=sQ.le
    have sO:n1<S2.N.length:=by omega
    have sP:ak S2.TS n1=ak S1.TS n1:=sQ.ak (by rw [← aM.fs.len]; exact l1)
    have To:=hG.grow yP hlen
    have my:(names.map V.str)[au S.N n]?=some (.str (names.getD (au S.N n) "")):=by rw [List.getElem?_map,List.getD_eq_getElem?_getD,List.getElem?_eq_getElem a1]; rfl
    have A5:names[au S.N n]?=some (names.getD (au S.N n) ""):=by rw [List.getD_eq_getElem?_getD,List.getElem?_eq_getElem a1]; rfl
    have DN:=kd sR hg g1 g2
    refine ⟨_,rfl,y,C,dy,_,_,rfl,cv.hy,T.cl,T.n1,Cr ..,_,rfl,t,_,0,_,rfl,rfl,aT.of (kt sR mw),aF (j:=0) rfl,nm,_,_,.str (names.getD (au S.N n) ""),rfl,rfl,ay.of cv.hn,aF my,?_⟩
    have fin:∀(m:Nat) (S3:bZ) (H3:Hp),FO P w C H3 y dy nm sp nd kn ch im ex names S3->Kp H2 H3 nd kn ch im ex->cS S2 S3->Bd S3 (b+wc (ak S.TS n))->S3.IM=S2.IM->S3.EX=S2.EX->m<S3.N.length->(∀e,ev e (ak S3.TS m)=ev (fq R e) (ak S.TS n))->
     ∃a H4,V.ref md=.ref a/\gJ H3 a (.int (n:Int)) (.int (m:Int)) H4/\(BL (yh (ib 3) (ib 1))) { nx:=λ_ H'=>Q .aX H',rt:=Q } ([some (.ref y),some (.int (n:Int)),some (.ref g),some (.ref md),some (.ref t),some (.int (n1:Int)),some (.int (n2:Int)),some (.str (names.getD (au S.N n) ""))]:St) H4:=by
     intro m S3 H3 cQ k3 la B3 nI nJ l3 A3
     have ve:=cv.dk CB m2 k3
     have nK:=yP.trans la
     have Ti:=nK.le
     have CD:=cQ.putD (M':=putK vd (.inl (n:Int)) (.int (m:Int))) ve m1 m2
     refine ⟨md,_,rfl,gJ.k (k:=.inl (n:Int)) ve (big (by omega)),?_⟩
     refine ⟨_,rfl,_,rfl,md,.int (m:Int),rfl,?_,?_⟩
     . have:=cG.k (k:=.inl (n:Int)) (show (upd H3 md (.dK (putK vd (.inl (n:Int)) (.int (m:Int))))) md=some (.dK (putK vd (.inl (n:Int)) (.int (m:Int)))) from ae)
       rw [o8,if_pos rfl] at this
       exact this
     refine kk m S3 _ _ CD ae (λkv bf=>?_) (Nat.le_trans (eg _ _ _) (by omega)) ((sR.trans (.of k3)).trans λc o hc _ _ _ _ _ n6=>by rw [ai n6]; exact hc) nK B3 (nI.trans (HR.trans HN)) (nJ.trans (HS.trans HP)) l3 A3
     rcases pH bf with bf | bf
     . exact (HQ.grow la cv.fs.len) kv bf
     . subst bf
       exact ⟨n,m,rfl,rfl,by omega,l3,λe=>by rw [nK.ak (i:=n) (by omega)]; exact A3 e⟩
    have Tj:cst 9=1022:=rfl
    have n8:=hO.n8
    refine ⟨_,rfl,y,dy,_,rfl,cv.hy,nC,_,rfl,_,rfl,g,_,rfl,cG.k (k:=.inr (names.getD (au S.N n) "")) DN,_,rfl,?_⟩
    have MW:∀e,ev (fq R e) (ak S.TS n)=if fq R e (names.getD (au S.N n) "")=true then ev e (ak S2.TS n2) else ev e (ak S2.TS n1):=λe=>by
     rw [a7,e2 e,sP,e1 e]
     rfl
    have hz:=To (names.getD (au S.N n) "")
    cases hR:R (names.getD (au S.N n) "") with
    | some tr=>
     rw [hR] at hz
     obtain ⟨i,MX,nM,DO⟩:=hz
     refine bY (by rw [MX]; rfl) ⟨_,rfl,_,rfl,g,.int (i:Int),rfl,?_,?_⟩
     . have:=cG.k (k:=.inr (names.getD (au S.N n) "")) DN
       rw [MX] at this
       exact this
     refine ⟨_,rfl,_,rfl,y,dy,nm,sp,nd,kn,ch,im,ex,names,S2,i,n2,n1,b+wc (ak S.TS (low S.N n))+wc (ak S.TS (cM S.N n)),rfl,cv,nM,l2,sO,by omega,B2,by omega,λm S3 H3 cQ k3 la B3 nI nJ l3 e3 p3=>⟨_,rfl,_,rfl,fin m S3 H3 cQ k3 la (B3.up (by omega)) nI nJ l3 (λe=>?_)⟩⟩
     rw [e3 e,DO,MW e,show fq R e (names.getD (au S.N n) "")=ev e tr by unfold fq; rw [hR]]
    | none=>
     rw [hR] at hz
     refine bJ (by rw [show aR gk (.inr (names.getD (au S.N n) ""))=none from hz]; rfl) ?_
     refine ⟨_,rfl,y,dy,_,rfl,cv.hy,nL,_,rfl,y,dy,nm,sp,nd,kn,ch,im,ex,names,S2,names.getD (au S.N n) "",au S.N n,b+wc (ak S.TS (low S.N n))+wc (ak S.TS (cM S.N n)),rfl,cv,A5,B2,by omega,λi S5 H5 qI k5 DP B5 Tq Ts l5 t5=>?_⟩
     have WR:=DP.le
     have Tt:ak S5.TS n2=ak S2.TS n2:=DP.ak (by rw [← cv.fs.len]; exact l2)
     have Tu:ak S5.TS n1=ak S2.TS n1:=DP.ak (by rw [← cv.fs.len]; exact sO)
     refine ⟨_,rfl,_,rfl,y,dy,nm,sp,nd,kn,ch,im,ex,names,S5,i,n2,n1,b+wc (ak S.TS (low S.N n))+wc (ak S.TS (cM S.N n))+1,rfl,qI,l5,by omega,by omega,by omega,B5,by omega,λm S3 H3 cQ k3 la B3 nI nJ l3 e3 p3=>⟨_,rfl,_,rfl,fin m S3 H3 cQ (k5.trans k3) (DP.trans la) (B3.up (by omega)) (nI.trans Tq) (nJ.trans Ts) l3 (λe=>?_)⟩⟩
     rw [e3 e,t5,Tt,Tu,MW e,show fq R e (names.getD (au S.N n) "")=e (names.getD (au S.N n) "") by unfold fq; rw [hR]]
     show (if (if e _=true then true else false)=true then _ else _)=_
     cases e (names.getD (au S.N n) "") <;> rfl
end
end Gen
namespace Gen
open PySem L2
abbrev jd:Stmt:=top 2
theorem yR:∀t:Tr,wc t+1100<=1100*2 ^ t.dep
 | .leaf _=>Nat.le_refl _
 | .node _ l r=>by
  have h1:=yR l
  have h2:=yR r
  have e1:2 ^ l.dep<=2 ^ max l.dep r.dep:=Nat.pow_le_pow_right (by decide) (by omega)
  have e2:2 ^ r.dep<=2 ^ max l.dep r.dep:=Nat.pow_le_pow_right (by decide) (by omega)
  show wc l+wc r+1100+1100<=1100*2 ^ (max l.dep r.dep+1)
  rw [Nat.pow_succ]
  omega
theorem HU {t:Tr}(h:t.dep<=8):wc t<=281600:=by
 have h1:=yR t
 have h2:2 ^ t.dep<=2 ^ 8:=Nat.pow_le_pow_right (by decide) h
 omega
theorem nO:∀(l:List Str) (acc:List (Key×V)) (n:Str),(aR (cH acc (l.map λz=>((.inr z:Key),V.bl true))) (.inr n)).isSome=true ↔ (n∈l\/(aR acc (.inr n)).isSome=true)
 | [],acc,n=>⟨λh=>.inr h,λh=>h.elim (λz=>nomatch z) id⟩
 | z::l,acc,n=>by
  show (aR (cH (putK acc (.inr z) (.bl true)) (l.map λz=>((.inr z:Key),V.bl true))) (.inr n)).isSome=true ↔ _
  rw [nO l,o8,List.mem_cons]
  by_cases e:n=z
  . rw [if_pos (by rw [e])]
    exact ⟨λ_=>.inl (.inl e),λ_=>.inr rfl⟩
  . rw [if_neg (λq=>e (Sum.inr.inj q))]
    constructor
    . rintro (h | h)
      . exact .inl (.inr h)
      . exact .inr h
    . rintro ((h | h) | h)
      . exact absurd h e
      . exact .inl h
      . exact .inr h
theorem Fo {D a:Addr}{l:List Str}{K:W.Frag}{Q:Hp->Prop}{H:Hp}(hl:l.length<=600) (hD:H D=none) (ha:H a=some (.lst (l.map V.str)))
 (fin:∀H' (ts:List Addr),aj H H'->H' D=some (.lst (ts.map V.ref))->Paired (λt (kv:Key×V)=>H' t=some (.tup [kV kv.1,kv.2])) ts (l.map λz=>((.inr z:Key),V.bl true))->Q H') :
 ∃W:Nat->Nat->St->Hp->Prop,(∃m,W 0 m [none] (upd H D (.lst [])))/\xb D (dm 0) nz (BW (lI (ib 0) (lI (tC (.bl true)) yf))) (t7 K a) W Q:=by
 refine fQ l.length (λi acc σ H9=>(∃ts:List Addr,acc=ts.map V.ref/\Paired (λt (kv:Key×V)=>H9 t=some (.tup [kV kv.1,kv.2])) ts ((l.take i).map λz=>((.inr z:Key),V.bl true)))/\(∃u,σ=[u])/\aj H H9) ⟨⟨[],rfl,.nil⟩,⟨none,rfl⟩,aj.ar hD⟩ ae ?_ ?_
 . rintro acc σ H9 cP ⟨⟨ts,rfl,eU⟩,_,s9⟩
   rw [List.take_length] at eU
   exact ⟨⟨_,ay.of (s9 _ _ ha),by rw [List.length_map]; exact Nat.le_refl _⟩,fin H9 ts s9 cP eU⟩
 . rintro i acc σ H9 hi cP ⟨⟨ts,rfl,eU⟩,⟨u,rfl⟩,s9⟩
   have xh:l[i]?=some l[i]:=List.getElem?_eq_getElem hi
   have hx:(l.map V.str)[i]?=some (.str l[i]):=by rw [List.getElem?_map,xh]; rfl
   refine ⟨⟨_,_,ay.of (s9 _ _ ha),hx⟩,?_⟩
   rintro x H' ⟨rfl,jo⟩
   have ex:=jo _ (ay.of (s9 _ _ ha))
   rw [hx] at ex
   cases ex
   refine dM ⟨_,rfl,(by show 2<=sizeLine; decide),λt ht=>?_⟩
   have DQ:D≠t:=ab cP ht
   have oX:=eU.length
   rw [List.length_map,List.length_take] at oX
   refine ⟨_,(ai DQ).trans cP,(by rw [List.length_map]; exact small (by omega)),cJ hi ae ⟨⟨ts++[t],by rw [List.map_append]; rfl,?_⟩,⟨_,rfl⟩,λb o hb=>?_⟩⟩
   . rw [List.take_succ,xh,Option.toList_some,List.map_append]
     refine b0 (Paired.cy eU λb kv e=>?_) (.cons ?_ .nil)
     . rw [ai (aL e cP (by intro z; cases z)),ai (ab e ht)]
       exact e
     . rw [ai (Ne.symm DQ),ae]
       rfl
   . rw [ai (ab hb hD),ai (ab (s9 _ _ hb) ht)]
     exact s9 _ _ hb
section
variable (P:Program) (w:World) (K:W.Frag) (mg:Str->Option Value) (base:Heap) (C:Addr)
structure HV (fI fT fA fW:Addr) (dI dT dA dW:FuncData):Prop where
 gI:av P w K mg base aE 1 fI dI ["self", "order"] (ox P w C)
 mI:Mk K C fI
 bI:Binds K dI ["self", "order"] []
 gT:av P w K mg base aE 10 fT dT ["self", "tree"] (kW P w C 9)
 mT:Meth K C "taken" fT
 bT:Binds K dT ["self", "tree"] []
 gA:av P w K mg base aE 10 fA dA ["self", "number"] (jA P w C 9)
 mA:Meth K C "tree_at" fA
 bA:Binds K dA ["self", "number"] []
 gW:av P w K mg base aE 19 fW dW qL (yM P w C 9)
 mW:Meth K C "without" fW
 bW:Binds K dW qL []
end
def vi:Sp:=λvs H Q _=>∃(o tl:Addr) (v:V) (names told:List Str) (t:Tr),vs=[.ref o,v,.ref tl]/\Ord H o names/\cL H t v/\cq names t/\H tl=some (.lst (told.map V.str))/\told.length<=8/\
 ∀(u:V) (t':Tr) (H':Hp),aj H H'->cL H' t' u->cq names t'->(∀e,ev e t'=true ↔ hX told e t)->Q u H'
abbrev Tv:List Str:=["order", "tree", "names", "forest", "gone"]
theorem O6:(["name"]:List Str).Nodup:=by decide +kernel
section
variable {P:Program}{w:World}{K:W.Frag}{mg:Str->Option Value}{base:Heap}{C fI fT fA fW:Addr}{dI dT dA dW:FuncData}
theorem CF:aZ Tv ["order", "tree", "names"] (ao jd):=⟨rfl,rfl,rfl,by decide +kernel,rfl,by decide +kernel,by decide +kernel⟩
theorem yS {f:Addr}{fd:FuncData}(F:cw K "some_of" "some_of" jd f fd) (T:eP K mg C) (O2:gc mg) (G:HV P w K mg base C fI fT fA fW dI dT dA dW):av P w K mg base aE 20 f fd ["order", "tree", "names"] vi:=by
 refine F.ok CF (λvs H Q E h=>?_) (λcdv A outer s H vs Q E hr h=>?_)
 . obtain ⟨o,tl,v,names,told,t,rfl,_⟩:=h
   rfl
 . obtain ⟨o,tl,v,names,told,t,rfl,hOr,hv,hc,oX,MY,kk⟩:=h
   have j9:bw 10 _:=hr.mono (by decide)
   refine ⟨_,ag (ax (i:=3) CF.nd rfl (Or.inl rfl) (wW G.mI G.gI (hr.mono (by decide)) rfl T.mgC G.bI .nil aB (aa (pv 0) af)))
    (ag (ax (i:=4) CF.nd rfl (Or.inl rfl) (cO (eI rfl) (by rfl) O2.dict PyProof.Rows.boot_dict (aa (eE (N:=["name"]) (js:=[none]) (by kernel_rfl) rfl (kq (pv 2)) (λ_ _ _ _ _ _=>aQ (i:=0) O6 rfl (Or.inl rfl) (.inr rfl)) (λ_ _ _ _ _ _=>cI) (λ_ _ _ _ _ _=>dE (aa (pv 0) (aa iC af)))) af)))
    (aq (aK (bb (pv 3) T.cl G.mA G.gA j9 G.bA .nil aB (aa (bb (pv 3) T.cl G.mW G.gW hr G.bW .nil aB (aa (bb (pv 3) T.cl G.mT G.gT j9 G.bT .nil aB (aa (pv 1) af)) (aa (pv 4) (aa pb af)))) af))))),?_⟩
   refine ⟨_,rfl,λx dx hx mr Tw=>?_⟩
   refine ⟨x,dx,o,names,rfl,ae,by rw [ai (ab hOr.at_ hx),ai (ab hOr.at_ mr)]; exact hOr.at_,hOr.nd,hOr.ok,hOr.n8,λnm sp nd kn ch im ex a0 a1 H1 aM k1 HW _=>⟨rfl,?_⟩⟩
   have s1:=u9 hx mr k1
   have fr:∀g∈[nd,kn,ch,im,ex],H g=none:=λg hg=>pJ hx mr (HW g hg)
   have hU:∀m∈["taken", "without", "tree_at"],(cD nm sp nd kn ch im ex).lookup (m:Str)=none:=λm hm=>by
    simp only [List.mem_cons,List.not_mem_nil,or_false] at hm
    rcases hm with rfl | rfl | rfl <;> exact jy _ _ _ _ _ _ _ (by decide +kernel) (by decide +kernel) (by decide +kernel) (by decide +kernel) (by decide +kernel) (by decide +kernel) (by decide +kernel)
   have nT:=hU "taken" (by decide)
   have nW:=hU "without" (by decide)
   have nA:=hU "tree_at" (by decide)
   have y1:=Nat.le_trans (eZ hc) hOr.n8
   have z1:=qJ y1
   have w1:=HU y1
   refine ⟨_,rfl,tl,rfl,⟨_,ay.of (s1 _ _ oX)⟩,λD hD=>Fo (by omega) hD (s1 _ _ oX) λH2 ts s2 jv eU=>?_⟩
   refine ⟨D,ts,_,rfl,jv,eU,λg hg=>?_⟩
   have s3:aj H2 (upd H2 g (.dK (cH [] (told.map λz=>((.inr z:Key),V.bl true))))):=aj.ar hg
   have q3:(upd H2 g (.dK (cH [] (told.map λz=>((.inr z:Key),V.bl true))))) g=some (.dK (cH [] (told.map λz=>((.inr z:Key),V.bl true)))):=ae
   have cv:=aM.same s2
   have ng:∀{b:Addr}{u:HO},H2 b=some u->g≠b:=λhb=>(ab hb hg).symm
   have A6:g≠ex:=ng cv.he
   generalize upd H2 g (.dK (cH [] (told.map λz=>((.inr z:Key),V.bl true))))=H3 at s3 q3 ⊢
   have cQ:=cv.same s3
   have HX:=s2.trans s3
   have mz:=s1.trans HX
   refine ⟨_,rfl,x,dx,_,rfl,cQ.hy,nA,_,rfl,x,dx,_,rfl,cQ.hy,nW,_,rfl,x,dx,_,rfl,cQ.hy,nT,_,rfl,x,dx,nm,sp,nd,kn,ch,im,ex,names,_,t,v,2,rfl,cQ,hv.keep (eJ mz),hc,by omega,MV,by omega,λn1 S1 H4 hJ k4 g4 B4 _ _ _ l1 e1=>?_⟩
   refine ⟨_,rfl,λmd fG=>?_⟩
   have s5:aj H4 (upd H4 md (.dK [])):=aj.ar fG
   have q5:(upd H4 md (.dK [])) md=some (.dK []):=ae
   have vj:∀{b:Addr}{u:HO},H4 b=some u->md≠b:=λhb=>(ab hb fG).symm
   have A7:=cQ.dk q3 A6 k4
   have HY:=vj hJ.hs
   have HZ:=vj hJ.he
   have Ia:=(vj A7).symm
   generalize upd H4 md (.dK [])=H5 at s5 q5 ⊢
   have qI:=hJ.same s5
   refine ⟨x,dx,nm,sp,nd,kn,ch,im,ex,g,md,names,told,S1,_,[],n1,2+fi t,rfl,qI,l1,by rw [e1]; omega,s5 _ _ A7,q5,HY,HZ,A6,Ia,λz=>⟨λh=>((nO told [] z).mp h).elim id (λq=>nomatch q),λh=>(nO told [] z).mpr (.inl h)⟩,(λ_ h=>(nomatch h)),Nat.zero_le _,B4,by rw [e1]; omega,λm S2 qK H6 A8 O7 _ _ k6 g6 B6 _ _ l6 e6 p6=>?_⟩
   rw [e1] at B6 e6
   have A9:cq names (ak S2.TS m):=eO (i:=0) (ns:=names) (A8.fs.DI hOr.nd m l6) (Nat.zero_le _)
   have y6:=Nat.le_trans (eZ A9) hOr.n8
   have z6:=qJ y6
   refine ⟨x,dx,nm,sp,nd,kn,ch,im,ex,names,S2,m,_,rfl,A8,l6,by omega,B6,by omega,λu S3 H7 Tx k7 _ _ _ _ r7=>?_⟩
   refine kk u _ H7 (λb o hb=>?_) r7 A9 e6
   have f1:=ab hb (fr nd (by simp))
   have f2:=ab hb (fr kn (by simp))
   have f3:=ab hb (fr ch (by simp))
   have f4:=ab hb (fr im (by simp))
   have f5:=ab hb (fr ex (by simp))
   have h4:=k4 b o (mz b o hb) f1 f2 f3 f4 f5
   exact k7 b o (k6 b o (s5 b o h4) f1 f2 f3 f4 f5 (ab h4 fG)) f1 f2 f3 f4 f5
end
end Gen
namespace PySem
open Sem (wp)
section
variable {prog:Program}{w:World}{A:Around}{E:Value->Shared->Prop}{s:Shared}
theorem lY {it t:Addr}{i:Nat}{items} {x:Value}{Q:Value->Shared->Prop}(hit:s.heap.IsTupleIter it t i) (ht:s.heap.IsTuple t items) (hx:items[i]?=some x)
 (hQ:∀h',h'.IsTupleIter it t (i+1)->Heap.SameBut it s.heap h'->Q x { s with heap:=h' }):wpAny (model prog w) A (Builtin.SmallTypes.nextOf (.ref it)) Q E s:=by
 obtain ⟨o,ho,hc,hd⟩:=id hit
 obtain ⟨ol,Ib,_,nl,oV⟩:=ht
 unfold Builtin.SmallTypes.nextOf
 refine wpAny_bind (wpAny_callSpecial?_slot (name:=Str.ofString "__next__") hit.typeIs F.slot_tuple_iterator_next (wpAny_call_entry F.slot_tuple_iterator_next hit.typeIs F.entry_tuple_iterator_next ?_ (F.args_tuple_iterator_next_1 _)))
 show wpAny _ _ (field (.ref it) 0 >>= _) _ _ s
 refine wpAny_bind (wpAny_field ho hd (x:=.ref t) rfl ?_)
 show wpAny _ _ (if (Value.ref t == Value.none)=true then _ else _) _ _ s
 rw [if_neg (show ¬ ((Value.ref t == Value.none)=true) from Bool.false_ne_true)]
 show wpAny _ _ (field (.ref it) 1 >>= _) _ _ s
 refine wpAny_bind (wpAny_field ho hd (x:=.int i 0) rfl ?_)
 show wpAny _ _ (seqItems? (.ref t) >>= _) _ _ s
 refine wpAny_bind (wpAny_seqItems Ib oV ?_)
 simp only [Int.toNat_natCast,hx]
 refine wpAny_bind (wpAny_setField ho hd (by simp) (wpAny_pure ⟨x,rfl,wpAny_pure (hQ _ ?_ (Heap.SameBut.update ..))⟩))
 exact ⟨_,Heap.get?_update_self _ ho (Obj.isFreed_of_fields (Obj.data_mapFields hd _)),(Obj.cls_mapFields ..).trans hc,by rw [Obj.data_mapFields hd]; simp [rawInt]⟩
theorem mQ {it t:Addr}{i:Nat}{items} {Q:Value->Shared->Prop}(hh:A.handled=none) (hit:s.heap.IsTupleIter it t i) (ht:s.heap.IsTuple t items) (hx:items[i]?=none)
 (hE:∀h' e,Heap.ExtBut it s.heap h'->(∃o,h'.get? e=some o/\o.cls=.type "StopIteration")->E (.ref e) { s with heap:=h' }):wpAny (model prog w) A (Builtin.SmallTypes.nextOf (.ref it)) Q E s:=by
 obtain ⟨o,ho,hc,hd⟩:=id hit
 obtain ⟨ol,Ib,_,nl,oV⟩:=ht
 unfold Builtin.SmallTypes.nextOf
 refine wpAny_bind (wpAny_callSpecial?_slot (name:=Str.ofString "__next__") hit.typeIs F.slot_tuple_iterator_next (wpAny_call_entry F.slot_tuple_iterator_next hit.typeIs F.entry_tuple_iterator_next ?_ (F.args_tuple_iterator_next_1 _)))
 show wpAny _ _ (field (.ref it) 0 >>= _) _ _ s
 refine wpAny_bind (wpAny_field ho hd (x:=.ref t) rfl ?_)
 show wpAny _ _ (if (Value.ref t == Value.none)=true then _ else _) _ _ s
 rw [if_neg (show ¬ ((Value.ref t == Value.none)=true) from Bool.false_ne_true)]
 show wpAny _ _ (field (.ref it) 1 >>= _) _ _ s
 refine wpAny_bind (wpAny_field ho hd (x:=.int i 0) rfl ?_)
 show wpAny _ _ (seqItems? (.ref t) >>= _) _ _ s
 refine wpAny_bind (wpAny_seqItems Ib oV ?_)
 simp only [Int.toNat_natCast,hx]
 refine wpAny_bind (wpAny_rule (wpAny_bind (wpAny_setField ho hd (by simp) ?_)))
 show wpAny _ _ (newExc (.type "StopIteration") [] >>= _) _ _ _
 refine wpAny_bind ?_
 simp only [newExc,newTuple]
 refine wpAny_bind (wpAny_newObj_type ?_ (by size_fits))
 refine wpAny_bind (m:=firstArgMember _ _) (wpAny_of_eq (a:=Value.none) (by first | rfl | (simp only [firstArgMember]; rfl)) ?_)
 refine wpAny_newObj_type ?_ (by size_fits)
 simp only [raiseNew]
 refine wpAny_bind (wpAny_handled ?_)
 first | rw [show A.in1.handled=none from hh] | rw [hh]
 refine wpAny_bind (wpAny_pure (wpAny_throw ?_))
 exact hE _ _ (((Heap.SameBut.update ..).extBut.push _).push _) ⟨_,Heap.get?_push_size _ rfl,rfl⟩
end
def lg (tp:Bool) (h:Heap) (l:Addr) (xs:Array Value):Prop:=match tp with | true=>h.IsTuple l xs | false=>h.IsList l xs
def eV (tp:Bool) (h:Heap) (i l:Addr) (k:Nat):Prop:=match tp with | true=>h.IsTupleIter i l k | false=>h.IsListIter i l k
theorem lg.at {tp:Bool}{h h':Heap}{l:Addr}{xs:Array Value}(x:lg tp h l xs) (k:∀o,h.get? l=some o->h'.get? l=some o):lg tp h' l xs:=by
 cases tp <;> (obtain ⟨o,e,r⟩:=x; exact ⟨o,k o e,r⟩)
theorem eV.at {tp:Bool}{h h':Heap}{i l:Addr}{n:Nat}(x:eV tp h i l n) (k:∀o,h.get? i=some o->h'.get? i=some o):eV tp h' i l n:=by
 cases tp <;> (obtain ⟨o,e,r⟩:=x; exact ⟨o,k o e,r⟩)
theorem eV.there {tp:Bool}{h:Heap}{i l:Addr}{n:Nat}(x:eV tp h i l n):∃o,h.get? i=some o/\∃vs,o.data=.fields vs:=by
 cases tp <;> (obtain ⟨o,e,c,d⟩:=x; exact ⟨o,e,_,d⟩)
theorem lg.there {tp:Bool}{h:Heap}{l:Addr}{xs:Array Value}(x:lg tp h l xs):∃o,h.get? l=some o:=by
 cases tp <;> (obtain ⟨o,e,r⟩:=x; exact ⟨o,e⟩)
section
variable {prog:Program}{w:World}{A:Around}{E:Value->Shared->Prop}{s:Shared}{tp:Bool}
theorem oz {it l:Addr}{i:Nat}{items} {x:Value}{Q:Value->Shared->Prop}(hit:eV tp s.heap it l i) (hl:lg tp s.heap l items) (hx:items[i]?=some x)
 (hQ:∀h',eV tp h' it l (i+1)->Heap.SameBut it s.heap h'->Q x { s with heap:=h' }):wpAny (model prog w) A (Builtin.SmallTypes.nextOf (.ref it)) Q E s:=by
 cases tp
 . exact wpAny_nextOf_list_item hit hl hx hQ
 . exact lY hit hl hx hQ
theorem Ic {it l:Addr}{i:Nat}{items} {Q:Value->Shared->Prop}(hh:A.handled=none) (hit:eV tp s.heap it l i) (hl:lg tp s.heap l items) (hx:items[i]?=none)
 (hE:∀h' e,Heap.ExtBut it s.heap h'->(∃o,h'.get? e=some o/\o.cls=.type "StopIteration")->E (.ref e) { s with heap:=h' }):wpAny (model prog w) A (Builtin.SmallTypes.nextOf (.ref it)) Q E s:=by
 cases tp
 . exact wpAny_nextOf_list_end hh hit hl hx hE
 . exact mQ hh hit hl hx hE
theorem Rx {z TI TO i1 i2 l1 l2:Addr}{k:Nat}{xs ys:Array Value}{x y a b:Value}{Q:Option Value->Shared->Prop}(nd:[z,TI,TO,i1,i2].Nodup) (n1:l1∉[z,TI,TO,i1,i2]) (n2:l2∉[z,TI,TO,i1,i2])
 (hz:IsZip s.heap z TI TO .none) (jC:IsPair s.heap TI (.ref i1) (.ref i2)) (nP:IsPair s.heap TO a b) (h1:eV tp s.heap i1 l1 k) (h2:eV tp s.heap i2 l2 k) (lj:lg tp s.heap l1 xs) (fg:lg tp s.heap l2 ys) (hx:xs[k]?=some x) (hy:ys[k]?=some y)
 (hQ:∀h',IsZip h' z TI TO (rawInt s.heap.objs.size)->IsPair h' TO x y->eV tp h' i1 l1 (k+1)->eV tp h' i2 l2 (k+1)->IsPair h' s.heap.objs.size x y->
  (∀c o,c≠z->c≠TO->c≠i1->c≠i2->s.heap.get? c=some o->h'.get? c=some o)->Q (some (.ref s.heap.objs.size)) { s with heap:=h' }):wpAny (model prog w) A (pyNext (.ref z)) Q E s:=by
 simp only [List.nodup_cons,List.mem_cons,List.not_mem_nil,or_false,not_or] at nd n1 n2
 obtain ⟨⟨Ba,mE,mF,oY⟩,⟨TITO,TIi1,TIi2⟩,⟨TOi1,TOi2⟩,i12,_⟩:=nd
 obtain ⟨l1z,Ie,l1TO,l1i1,l1i2⟩:=n1
 obtain ⟨l2z,O8,l2TO,l2i1,l2i2⟩:=n2
 have hT:s.TypeIs (.ref z) "zip":=⟨_,hz,rfl⟩
 unfold pyNext
 refine wpAny_bind (wpAny_attempt (wpAny_callSpecial?_slot (name:=Str.ofString "__next__") hT F.slot_zip_next (wpAny_call_entry F.slot_zip_next hT F.entry_zip_next ?_ (F.args_zip_next_1 _))))
 show wpAny _ _ (field (.ref z) 2 >>= _) _ _ _
 refine wpAny_bind (wpAny_field hz rfl (x:=.bool false) rfl ?_)
 show wpAny _ _ (field (.ref z) 3 >>= _) _ _ _
 refine wpAny_bind (wpAny_field hz rfl (x:=.ref TI) rfl ?_)
 refine wpAny_bind (wpAny_seqItems jC rfl ?_)
 show wpAny _ _ (Builtin.SmallTypes.ownedTupleIsFree (.ref z) >>= _) _ _ _
 refine wpAny_bind ?_
 unfold Builtin.SmallTypes.ownedTupleIsFree
 refine wpAny_bind (wpAny_field hz rfl (x:=.none) rfl (wpAny_pure ?_))
 simp only [if_true]
 refine wpAny_bind (wpAny_rule ?_)
 refine wpAny_bind (wpAny_field hz rfl (x:=.ref TO) rfl ?_)
 refine wpAny_bind (wpAny_setField_rec hz (by simp) λjn nQ qO=>?_)
 replace nQ:IsZip jn z TI TO .ellipsis:=nQ
 refine wpAny_bind ?_
 simp only [List.zipIdx_cons,List.zipIdx_nil,List.forIn_cons,List.forIn_nil]
 have k1:∀c o,c≠z->s.heap.get? c=some o->jn.get? c=some o:=λc o n e=>qO.extBut _ _ n e
 refine wpAny_bind (wpAny_bind (wpAny_onRaise ?_))
 show wpAny _ _ (Builtin.SmallTypes.nextOf (.ref i1) >>= _) _ _ _
 refine wpAny_bind (oz (h1.at λo e=>k1 _ o (Ne.symm mF) e) (lj.at λo e=>k1 _ o l1z e) hx λo9 Ig sS=>wpAny_pure ?_)
 have k2:∀c o,c≠i1->jn.get? c=some o->o9.get? c=some o:=λc o n e=>sS.extBut _ _ n e
 have vk:IsPair o9 TO a b:=k2 _ _ TOi1 (k1 _ _ (Ne.symm mE) nP)
 refine wpAny_bind (wpAny_seqItems vk rfl ?_)
 refine wpAny_bind (wpAny_updateSeq_pair vk λrh pK sU=>?_)
 replace pK:IsPair rh TO x b:=pK
 have k3:∀c o,c≠TO->o9.get? c=some o->rh.get? c=some o:=λc o n e=>sU.extBut _ _ n e
 refine wpAny_bind (wpAny_letGo (wpAny_pure ?_))
 refine wpAny_bind (wpAny_bind (wpAny_onRaise ?_))
 show wpAny _ _ (Builtin.SmallTypes.nextOf (.ref i2) >>= _) _ _ _
 refine wpAny_bind (oz (h2.at λo e=>k3 _ o (Ne.symm TOi2) (k2 _ o (Ne.symm i12) (k1 _ o (Ne.symm oY) e))) (fg.at λo e=>k3 _ o l2TO (k2 _ o l2i1 (k1 _ o l2z e))) hy λyp Ih Bb=>wpAny_pure ?_)
 have k4:∀c o,c≠i2->rh.get? c=some o->yp.get? c=some o:=λc o n e=>Bb.extBut _ _ n e
 have vm:IsPair yp TO x b:=k4 _ _ TOi2 pK
 refine wpAny_bind (wpAny_seqItems vm rfl ?_)
 refine wpAny_bind (wpAny_updateSeq_pair vm λfm lZ Bc=>?_)
 replace lZ:IsPair fm TO x y:=lZ
 have k5:∀c o,c≠TO->yp.get? c=some o->fm.get? c=some o:=λc o n e=>Bc.extBut _ _ n e
 refine wpAny_bind (wpAny_letGo (wpAny_pure (wpAny_pure ?_)))
 refine wpAny_bind (wpAny_seqItems lZ rfl ?_)
 refine wpAny_bind (wpAny_newTuple ?_)
 have hsz:fm.objs.size=s.heap.objs.size:=by rw [Bc.1,Bb.1,sU.1,sS.1,qO.1]
 have Be:IsZip fm z TI TO .ellipsis:=k5 _ _ mE (k4 _ _ oY (k3 _ _ mE (k2 _ _ mF nQ)))
 have Ii:∀c o,c≠z->c≠TO->c≠i1->c≠i2->s.heap.get? c=some o->fm.get? c=some o:=λc o c1 c2 c3 c4 e=>k5 _ _ c2 (k4 _ _ c4 (k3 _ _ c2 (k2 _ _ c3 (k1 _ _ c1 e))))
 have Ij:eV tp fm i1 l1 (k+1):=Ig.at λo e=>k5 _ _ (Ne.symm TOi1) (k4 _ _ i12 (k3 _ _ (Ne.symm TOi1) e))
 have Ik:eV tp fm i2 l2 (k+1):=Ih.at λo e=>k5 _ _ (Ne.symm TOi2) e
 have vn:z<fm.objs.size:=Heap.lt_size Be
 show wpAny _ _ (Builtin.SmallTypes.ownedTupleHandOut (.ref z) (.ref fm.objs.size) >>= _) _ _ _
 refine wpAny_bind ?_
 unfold Builtin.SmallTypes.ownedTupleHandOut
 have Il:IsZip (fm.push { cls:=.type "tuple",data:=.seq #[x,y] }) z TI TO .ellipsis:=Heap.get?_push_of_some _ Be
 refine wpAny_bind (wpAny_setField_rec Il (by simp) λO9 vo Bf=>?_)
 replace vo:IsZip O9 z TI TO (rawInt fm.objs.size):=vo
 refine wpAny_setField_rec vo (by simp) λyT qP Bg=>?_
 replace qP:IsZip yT z TI TO (rawInt fm.objs.size):=qP
 have up:∀c o,c≠z->fm.get? c=some o->yT.get? c=some o:=λc o c1 e=>Bg.extBut _ _ c1 (Bf.extBut _ _ c1 (Heap.get?_push_of_some _ e))
 have Bh:IsPair yT fm.objs.size x y:=Bg.extBut _ _ (Nat.ne_of_gt vn) (Bf.extBut _ _ (Nat.ne_of_gt vn) (Heap.get?_push_size _ rfl))
 rw [hsz] at qP Bh
 refine wpAny_pure ⟨.ref fm.objs.size,rfl,wpAny_pure ?_⟩
 rw [hsz]
 exact hQ yT qP (up _ _ (Ne.symm mE) lZ) (Ij.at λo e=>up _ o (Ne.symm mF) e) (Ik.at λo e=>up _ o (Ne.symm oY) e) Bh λc o c1 c2 c3 c4 e=>up c o c1 (Ii c o c1 c2 c3 c4 e)
theorem Fp {z TI TO i1 i2 l1:Addr}{k:Nat}{xs:Array Value}{a b:Value}{Q:Option Value->Shared->Prop}(hh:A.handled=none) (nd:[z,TI,TO,i1,i2].Nodup) (n1:l1∉[z,TI,TO,i1,i2])
 (hz:IsZip s.heap z TI TO .none) (jC:IsPair s.heap TI (.ref i1) (.ref i2)) (h1:eV tp s.heap i1 l1 k) (lj:lg tp s.heap l1 xs) (hx:xs[k]?=none)
 (hQ:∀h',(∀c o,c≠z->c≠TO->c≠i1->c≠i2->s.heap.get? c=some o->h'.get? c=some o)->Q none { s with heap:=h' }):wpAny (model prog w) A (pyNext (.ref z)) Q E s:=by
 simp only [List.nodup_cons,List.mem_cons,List.not_mem_nil,or_false,not_or] at nd n1
 obtain ⟨⟨Ba,mE,mF,oY⟩,⟨TITO,TIi1,TIi2⟩,⟨TOi1,TOi2⟩,i12,_⟩:=nd
 obtain ⟨l1z,Ie,l1TO,l1i1,l1i2⟩:=n1
 have hT:s.TypeIs (.ref z) "zip":=⟨_,hz,rfl⟩
 unfold pyNext
 refine wpAny_bind (wpAny_attempt (wpAny_callSpecial?_slot (name:=Str.ofString "__next__") hT F.slot_zip_next (wpAny_call_entry F.slot_zip_next hT F.entry_zip_next ?_ (F.args_zip_next_1 _))))
 show wpAny _ _ (field (.ref z) 2 >>= _) _ _ _
 refine wpAny_bind (wpAny_field hz rfl (x:=.bool false) rfl ?_)
 show wpAny _ _ (field (.ref z) 3 >>= _) _ _ _
 refine wpAny_bind (wpAny_field hz rfl (x:=.ref TI) rfl ?_)
 refine wpAny_bind (wpAny_seqItems jC rfl ?_)
 show wpAny _ _ (Builtin.SmallTypes.ownedTupleIsFree (.ref z) >>= _) _ _ _
 refine wpAny_bind ?_
 unfold Builtin.SmallTypes.ownedTupleIsFree
 refine wpAny_bind (wpAny_field hz rfl (x:=.none) rfl (wpAny_pure ?_))
 simp only [if_true]
 refine wpAny_bind (wpAny_rule ?_)
 refine wpAny_bind (wpAny_field hz rfl (x:=.ref TO) rfl ?_)
 refine wpAny_bind (wpAny_setField_rec hz (by simp) λjn nQ qO=>?_)
 replace nQ:IsZip jn z TI TO .ellipsis:=nQ
 refine wpAny_bind ?_
 simp only [List.zipIdx_cons,List.zipIdx_nil,List.forIn_cons,List.forIn_nil]
 refine wpAny_bind (wpAny_bind (wpAny_onRaise ?_))
 show wpAny _ _ (Builtin.SmallTypes.nextOf (.ref i1) >>= _) _ _ _
 refine wpAny_bind (Ic (by first | exact hh | rfl) (h1.at λo e=>qO.extBut _ o (Ne.symm mF) e) (lj.at λo e=>qO.extBut _ o l1z e) hx λo9 e sS he=>?_)
 obtain ⟨oe,Im,MZ⟩:=he
 have M0:IsZip o9 z TI TO .ellipsis:=sS _ _ mF nQ
 have Tz:e≠z:=λx=>by subst x; rw [M0] at Im; cases Im; simp at MZ
 refine wpAny_setField_rec M0 (by simp) λrh _ sU=>?_
 refine wpAny_bind (wpAny_isInstance (T:="StopIteration") (b:=true) ⟨oe,sU.extBut _ _ Tz Im,MZ⟩ isSubtype_stop ?_)
 exact wpAny_pure (hQ _ λc o c1 _ c3 _ x=>sU.extBut _ _ c1 (sS _ _ c3 (qO.extBut _ _ c1 x)))
end
end PySem
namespace PySem
section
variable {prog:Program}{w:World}{A:Around}{E:Value->Shared->Prop}{s:Shared}{tp:Bool}
end
end PySem
namespace L2
open PySem PySem.Spec PyProof.Rows
def ZH (tp:Bool) (H:Hp) (a:Addr) (xs:List V):Prop:=match tp with | true=>H a=some (.tup xs) | false=>H a=some (.lst xs)
theorem ZH.inj {tp:Bool}{H:Hp}{a:Addr}{xs ys:List V}(h:ZH tp H a xs) (h':ZH tp H a ys):xs=ys:=by
 cases tp <;> (have e:=(show H a=_ from h).symm.trans (show H a=_ from h'); cases e; rfl)
theorem ZH.same {tp:Bool}{H H':Hp}{a:Addr}{xs:List V}(h:ZH tp H a xs) (k:∀o,H a=some o->H' a=some o):ZH tp H' a xs:=by cases tp <;> exact k _ h
section
variable {X:Cx}
end
end L2
namespace PySem
open PySem PySem.Spec PyProof.Rows
section
variable {prog:Program}{w:World}{A:Around}{E:Value->Shared->Prop}{s:Shared}{tp tq:Bool}
theorem Fq {z TI TO i1 i2 l1 l2:Addr}{k:Nat}{xs ys:Array Value}{x y a b:Value}{Q:Option Value->Shared->Prop}(nd:[z,TI,TO,i1,i2].Nodup) (n1:l1∉[z,TI,TO,i1,i2]) (n2:l2∉[z,TI,TO,i1,i2])
 (hz:IsZip s.heap z TI TO .none) (jC:IsPair s.heap TI (.ref i1) (.ref i2)) (nP:IsPair s.heap TO a b) (h1:eV tp s.heap i1 l1 k) (h2:eV tq s.heap i2 l2 k) (lj:lg tp s.heap l1 xs) (fg:lg tq s.heap l2 ys) (hx:xs[k]?=some x) (hy:ys[k]?=some y)
 (hQ:∀h',IsZip h' z TI TO (rawInt s.heap.objs.size)->IsPair h' TO x y->eV tp h' i1 l1 (k+1)->eV tq h' i2 l2 (k+1)->IsPair h' s.heap.objs.size x y->
  (∀c o,c≠z->c≠TO->c≠i1->c≠i2->s.heap.get? c=some o->h'.get? c=some o)->Q (some (.ref s.heap.objs.size)) { s with heap:=h' }):wpAny (model prog w) A (pyNext (.ref z)) Q E s:=by
 simp only [List.nodup_cons,List.mem_cons,List.not_mem_nil,or_false,not_or] at nd n1 n2
 obtain ⟨⟨Ba,mE,mF,oY⟩,⟨TITO,TIi1,TIi2⟩,⟨TOi1,TOi2⟩,i12,_⟩:=nd
 obtain ⟨l1z,Ie,l1TO,l1i1,l1i2⟩:=n1
 obtain ⟨l2z,O8,l2TO,l2i1,l2i2⟩:=n2
 have hT:s.TypeIs (.ref z) "zip":=⟨_,hz,rfl⟩
 unfold pyNext
 refine wpAny_bind (wpAny_attempt (wpAny_callSpecial?_slot (name:=Str.ofString "__next__") hT F.slot_zip_next (wpAny_call_entry F.slot_zip_next hT F.entry_zip_next ?_ (F.args_zip_next_1 _))))
 show wpAny _ _ (field (.ref z) 2 >>= _) _ _ _
 refine wpAny_bind (wpAny_field hz rfl (x:=.bool false) rfl ?_)
 show wpAny _ _ (field (.ref z) 3 >>= _) _ _ _
 refine wpAny_bind (wpAny_field hz rfl (x:=.ref TI) rfl ?_)
 refine wpAny_bind (wpAny_seqItems jC rfl ?_)
 show wpAny _ _ (Builtin.SmallTypes.ownedTupleIsFree (.ref z) >>= _) _ _ _
 refine wpAny_bind ?_
 unfold Builtin.SmallTypes.ownedTupleIsFree
 refine wpAny_bind (wpAny_field hz rfl (x:=.none) rfl (wpAny_pure ?_))
 simp only [if_true]
 refine wpAny_bind (wpAny_rule ?_)
 refine wpAny_bind (wpAny_field hz rfl (x:=.ref TO) rfl ?_)
 refine wpAny_bind (wpAny_setField_rec hz (by simp) λjn nQ qO=>?_)
 replace nQ:IsZip jn z TI TO .ellipsis:=nQ
 refine wpAny_bind ?_
 simp only [List.zipIdx_cons,List.zipIdx_nil,List.forIn_cons,List.forIn_nil]
 have k1:∀c o,c≠z->s.heap.get? c=some o->jn.get? c=some o:=λc o n e=>qO.extBut _ _ n e
 refine wpAny_bind (wpAny_bind (wpAny_onRaise ?_))
 show wpAny _ _ (Builtin.SmallTypes.nextOf (.ref i1) >>= _) _ _ _
 refine wpAny_bind (oz (h1.at λo e=>k1 _ o (Ne.symm mF) e) (lj.at λo e=>k1 _ o l1z e) hx λo9 Ig sS=>wpAny_pure ?_)
 have k2:∀c o,c≠i1->jn.get? c=some o->o9.get? c=some o:=λc o n e=>sS.extBut _ _ n e
 have vk:IsPair o9 TO a b:=k2 _ _ TOi1 (k1 _ _ (Ne.symm mE) nP)
 refine wpAny_bind (wpAny_seqItems vk rfl ?_)
 refine wpAny_bind (wpAny_updateSeq_pair vk λrh pK sU=>?_)
 replace pK:IsPair rh TO x b:=pK
 have k3:∀c o,c≠TO->o9.get? c=some o->rh.get? c=some o:=λc o n e=>sU.extBut _ _ n e
 refine wpAny_bind (wpAny_letGo (wpAny_pure ?_))
 refine wpAny_bind (wpAny_bind (wpAny_onRaise ?_))
 show wpAny _ _ (Builtin.SmallTypes.nextOf (.ref i2) >>= _) _ _ _
 refine wpAny_bind (oz (h2.at λo e=>k3 _ o (Ne.symm TOi2) (k2 _ o (Ne.symm i12) (k1 _ o (Ne.symm oY) e))) (fg.at λo e=>k3 _ o l2TO (k2 _ o l2i1 (k1 _ o l2z e))) hy λyp Ih Bb=>wpAny_pure ?_)
 have k4:∀c o,c≠i2->rh.get? c=some o->yp.get? c=some o:=λc o n e=>Bb.extBut _ _ n e
 have vm:IsPair yp TO x b:=k4 _ _ TOi2 pK
 refine wpAny_bind (wpAny_seqItems vm rfl ?_)
 refine wpAny_bind (wpAny_updateSeq_pair vm λfm lZ Bc=>?_)
 replace lZ:IsPair fm TO x y:=lZ
 have k5:∀c o,c≠TO->yp.get? c=some o->fm.get? c=some o:=λc o n e=>Bc.extBut _ _ n e
 refine wpAny_bind (wpAny_letGo (wpAny_pure (wpAny_pure ?_)))
 refine wpAny_bind (wpAny_seqItems lZ rfl ?_)
 refine wpAny_bind (wpAny_newTuple ?_)
 have hsz:fm.objs.size=s.heap.objs.size:=by rw [Bc.1,Bb.1,sU.1,sS.1,qO.1]
 have Be:IsZip fm z TI TO .ellipsis:=k5 _ _ mE (k4 _ _ oY (k3 _ _ mE (k2 _ _ mF nQ)))
 have Ii:∀c o,c≠z->c≠TO->c≠i1->c≠i2->s.heap.get? c=some o->fm.get? c=some o:=λc o c1 c2 c3 c4 e=>k5 _ _ c2 (k4 _ _ c4 (k3 _ _ c2 (k2 _ _ c3 (k1 _ _ c1 e))))
 have Ij:eV tp fm i1 l1 (k+1):=Ig.at λo e=>k5 _ _ (Ne.symm TOi1) (k4 _ _ i12 (k3 _ _ (Ne.symm TOi1) e))
 have Ik:eV tq fm i2 l2 (k+1):=Ih.at λo e=>k5 _ _ (Ne.symm TOi2) e
 have vn:z<fm.objs.size:=Heap.lt_size Be
 show wpAny _ _ (Builtin.SmallTypes.ownedTupleHandOut (.ref z) (.ref fm.objs.size) >>= _) _ _ _
 refine wpAny_bind ?_
 unfold Builtin.SmallTypes.ownedTupleHandOut
 have Il:IsZip (fm.push { cls:=.type "tuple",data:=.seq #[x,y] }) z TI TO .ellipsis:=Heap.get?_push_of_some _ Be
 refine wpAny_bind (wpAny_setField_rec Il (by simp) λO9 vo Bf=>?_)
 replace vo:IsZip O9 z TI TO (rawInt fm.objs.size):=vo
 refine wpAny_setField_rec vo (by simp) λyT qP Bg=>?_
 replace qP:IsZip yT z TI TO (rawInt fm.objs.size):=qP
 have up:∀c o,c≠z->fm.get? c=some o->yT.get? c=some o:=λc o c1 e=>Bg.extBut _ _ c1 (Bf.extBut _ _ c1 (Heap.get?_push_of_some _ e))
 have Bh:IsPair yT fm.objs.size x y:=Bg.extBut _ _ (Nat.ne_of_gt vn) (Bf.extBut _ _ (Nat.ne_of_gt vn) (Heap.get?_push_size _ rfl))
 rw [hsz] at qP Bh
 refine wpAny_pure ⟨.ref fm.objs.size,rfl,wpAny_pure ?_⟩
 rw [hsz]
 exact hQ yT qP (up _ _ (Ne.symm mE) lZ) (Ij.at λo e=>up _ o (Ne.symm mF) e) (Ik.at λo e=>up _ o (Ne.symm oY) e) Bh λc o c1 c2 c3 c4 e=>up c o c1 (Ii c o c1 c2 c3 c4 e)
end
end PySem
namespace L2
open PySem PySem.Spec PyProof.Rows
def ZK (K:W.Frag) (tp:Bool) (H:Hp) (a:Addr) (xs:List V):Prop:=match tp with | true=>aT K H a xs | false=>ay K H a xs
section
variable {X:Cx}{pins:List (Addr×Obj)}{σ:St}{H:Hp}{s:Shared}{tp:Bool}{a:Addr}{xs ys:List V}
theorem Inv.zk (I:Inv X pins σ H s) (h:ZK X.K tp H a xs):∃its:List Value,Vals xs its/\lg tp s.heap a its.toArray/\xs.length<=sizeLine:=by
 cases tp
 . obtain ⟨its,r,pl,z⟩:=I.list h
   exact ⟨its,r,pl.isList,z⟩
 . obtain ⟨its,r,⟨o,e,c,n,d⟩,z⟩:=I.tuple h
   exact ⟨its,r,⟨o,e,c,n,d⟩,z⟩
theorem Inv.Bi (I:Inv X pins σ H s) (h:ZK X.K tp H a xs) (h':ZK X.K tp H a ys):xs=ys:=by
 cases tp
 . exact I.o4 h h'
 . exact I.mY h h'
theorem Inv.vp {fp:List Addr}(I:Inv X pins σ H s) (h:ZK X.K tp H a xs) (hf:∀b∈fp,gE X pins H b):a∉fp:=λm=>by
 have own:∀o,X.K.lookup a=some o->False:=λo e=>by
  have eb:=I.ok.mod.kin a o e
  obtain ⟨_,_,_,h4,_⟩:=hf a m
  rcases h4 with h4 | h4
  . exact I.ok.noex a o eb h4
  . exact absurd (Nat.lt_of_lt_of_le (Heap.lt_size eb) (Nat.le_trans I.ok.bsz h4)) (Nat.lt_irrefl _)
 have aX:=(hf a m).1
 cases tp
 . rcases h with (h | ⟨o,h⟩) | ⟨o,_,_,e,_⟩
   . rw [aX] at h; cases h
   . rw [aX] at h; cases h
   . exact own o e
 . rcases h with (h | ⟨o,h⟩) | ⟨o,_,_,e,_⟩
   . rw [aX] at h; cases h
   . rw [aX] at h; cases h
   . exact own o e
end
def Itm (K:W.Frag) (tp tq:Bool) (a b:Addr):It:=
 ⟨λi H=>∃xs ys x y,ZK K tp H a xs/\ZK K tq H b ys/\xs[i]?=some x/\ys[i]?=some y,λi H v H'=>∃T x y,v=.ref T/\H T=none/\H'=upd H T (.tup [x,y])/\(∀xs,ZK K tp H a xs->xs[i]?=some x)/\∀ys,ZK K tq H b ys->ys[i]?=some y,
  λi H=>∃xs,ZK K tp H a xs/\xs.length<=i⟩
theorem Fs {P:Program}{w:World}{K:W.Frag}{es:List Expr}{kk:Nat}{pp:Pos}{tp tq:Bool}{a b z TI TO i1 i2:Addr}(nd:[z,TI,TO,i1,i2].Nodup) :
 Turn P w K (.Tuple es kk pp) (Itm K tp tq a b) [z,TI,TO,i1,i2] z (λi h=>IsZip h z TI TO .none/\IsPair h TI (.ref i1) (.ref i2)/\(∃a b,IsPair h TO a b)/\eV tp h i1 a i/\eV tq h i2 b i) where
 mem:=by simp
 obj:=λi h st c hc=>by
  obtain ⟨hz,jC,⟨u,v,nP⟩,h1,h2⟩:=st
  simp only [List.mem_cons,List.not_mem_nil,or_false] at hc
  rcases hc with rfl | rfl | rfl | rfl | rfl
  . exact ⟨_,hz,λv z=>by cases (show Data.fields _=Data.cell v from z)⟩
  . exact ⟨_,jC,λv z=>by cases (show Data.seq _=Data.cell v from z)⟩
  . exact ⟨_,nP,λv z=>by cases (show Data.seq _=Data.cell v from z)⟩
  . obtain ⟨o,e,vs,d⟩:=h1.there
    exact ⟨o,e,λv z=>by rw [d] at z; cases z⟩
  . obtain ⟨o,e,vs,d⟩:=h2.there
    exact ⟨o,e,λv z=>by rw [d] at z; cases z⟩
 keep:=λi h h' st k=>by
  obtain ⟨hz,jC,⟨u,v,nP⟩,h1,h2⟩:=st
  exact ⟨k z (by simp) _ hz,k TI (by simp) _ jC,⟨u,v,k TO (by simp) _ nP⟩,h1.at λo e=>k i1 (by simp) o e,h2.at λo e=>k i2 (by simp) o e⟩
 item:=by
  intro X hP hw hK hc i pins s σ H E I hf st hg
  subst hP hw hK
  obtain ⟨xs,ys,x,y,jS,Io,hx,hy⟩:=hg
  obtain ⟨its,rv,p,TB⟩:=I.zk jS
  obtain ⟨its',qE,p',Wn⟩:=I.zk Io
  obtain ⟨u,hu,ru⟩:=rv.get hx
  obtain ⟨v,hv,TC⟩:=qE.get hy
  obtain ⟨hz,jC,⟨c,d,nP⟩,h1,h2⟩:=st
  have na:a∉[z,TI,TO,i1,i2]:=I.vp jS hf
  have nb:b∉[z,TI,TO,i1,i2]:=I.vp Io hf
  refine Fq nd na nb hz jC nP h1 h2 p p' (x:=u) (y:=v) (by simpa using hu) (by simpa using hv) λh' a1 a2 a3 a4 a5 kk=>?_
  refine ⟨.ref s.heap.objs.size,rfl,?_⟩
  refine wpAny_letOwnedTupleGo_zip a1 λh3 TF Dr=>?_
  have M3:=nd
  simp only [List.nodup_cons,List.mem_cons,List.not_mem_nil,or_false,not_or] at M3
  obtain ⟨⟨Ba,mE,mF,oY⟩,⟨TITO,TIi1,TIi2⟩,⟨TOi1,TOi2⟩,i12,_⟩:=M3
  have lt:∀c∈[z,TI,TO,i1,i2],c≠s.heap.objs.size:=λc hc=>by
   simp only [List.mem_cons,List.not_mem_nil,or_false] at hc
   rcases hc with rfl | rfl | rfl | rfl | rfl
   . exact Nat.ne_of_lt (Heap.lt_size hz)
   . exact Nat.ne_of_lt (Heap.lt_size jC)
   . exact Nat.ne_of_lt (Heap.lt_size nP)
   . obtain ⟨o,e,_⟩:=h1.there
     exact Nat.ne_of_lt (Heap.lt_size e)
   . obtain ⟨o,e,_⟩:=h2.there
     exact Nat.ne_of_lt (Heap.lt_size e)
  have k3:∀c o,c≠z->h'.get? c=some o->h3.get? c=some o:=λc o n e=>Dr.extBut _ _ n e
  have I1:Inv X pins σ (upd H s.heap.objs.size (.tup [x,y])) { s with heap:=h3,toks:=s.toks }:=I.rq (its:=[u,v]) hf (λb o hb e1=>by
   simp only [List.mem_cons,List.not_mem_nil,or_false,not_or] at hb
   exact k3 b o hb.1 (kk b o hb.1 hb.2.2.1 hb.2.2.2.1 hb.2.2.2.2 e1)) (Nat.le_refl _) ⟨_,k3 _ _ (Ne.symm (lt z (by simp))) a5,rfl,_,rfl⟩ (.cons ru (.cons TC .nil)) (by show 2<=sizeLine; decide)
  have fr:H s.heap.objs.size=none:=I.hok.fresh (Nat.le_refl _)
  refine ⟨.ref s.heap.objs.size,_,I1,rfl,⟨s.heap.objs.size,x,y,rfl,fr,rfl,λWS h=>by rw [I.Bi h jS]; exact hx,λqB h=>by rw [I.Bi h Io]; exact hy⟩,⟨TF,k3 _ _ (Ne.symm Ba) (kk _ _ (Ne.symm Ba) TITO TIi1 TIi2 jC),⟨_,_,k3 _ _ (Ne.symm mE) a2⟩,a3.at λo e=>k3 _ o (Ne.symm mF) e,a4.at λo e=>k3 _ o (Ne.symm oY) e⟩,λb hb=>?_⟩
  rw [ai (lt b hb)]
  exact (hf b hb).1
 done:=by
  intro X hP hw hK hc i pins s σ H E I hf st hg
  subst hP hw hK
  obtain ⟨xs,jS,hx⟩:=hg
  obtain ⟨its,rv,p,TB⟩:=I.zk jS
  obtain ⟨hz,jC,⟨c,d,nP⟩,h1,h2⟩:=st
  have hl:=rv.length
  have na:a∉[z,TI,TO,i1,i2]:=I.vp jS hf
  exact Fp (I.ok.hd hc) nd na hz jC h1 p (a:=.none) (b:=.none) (by simp; omega) λh' kk=>⟨rfl,I.rp (t':=s.toks) hf λb o hb e1=>by
   simp only [List.mem_cons,List.not_mem_nil,or_false,not_or] at hb
   exact kk b o hb.1 hb.2.2.1 hb.2.2.2.1 hb.2.2.2.2 e1⟩
 self:=λ_ _ _ _ _ st h=>wpAny_pyIter_zip st.1 h
section
variable {X:Cx}
end
end L2
namespace PySem
open PySem.Spec PyProof.Rows
section
variable {prog:Program}{w:World}{A:Around}{E:Value->Shared->Prop}{s:Shared}{z TI TO i1 i2:Addr}{m1 m2:List Addr}{n1 n2:Nat}{P1 P2:Nat->Value->Prop}{M4 oJ:Nat->Heap->Prop}
end
end PySem
namespace PySem
open PySem.Spec PyProof.Rows
section
variable {prog:Program}{w:World}{K:Type}[DecidableEq K] {knd:KeyKind prog w K}{A:Around}{E:Value->Shared->Prop}{s:Shared}
end
namespace F
end F
end PySem
namespace PySem
open PySem.Spec PyProof.Rows
section
variable {prog:Program}{w:World}{K:Type}[DecidableEq K] {knd:KeyKind prog w K}{A:Around}{R:Result->Shared->Prop}{z TI TO i1 i2:Addr}{m1 m2:List Addr}{n1 n2:Nat}{P1 P2:Nat->Value->Prop}{M4 oJ:Nat->Heap->Prop}
end
section
variable {prog:Program}{w:World}{K:Type}[DecidableEq K] {knd:KeyKind prog w K}{A:Around}{E:Value->Shared->Prop}{s:Shared}{z TI TO i1 i2:Addr}{m1 m2:List Addr}{n1 n2:Nat}{P1 P2:Nat->Value->Prop}{M4 oJ:Nat->Heap->Prop}
end
end PySem
namespace PySem
open PySem.Spec PyProof.Rows
abbrev rJ (h:Heap) (o:Obj):Heap:=h.push o
abbrev yU (h:Heap) (o:Obj) (l2:Addr):Heap:=(rJ h o).push { cls:=.type "tuple_iterator",data:=.fields #[.ref l2,.int 0 0] }
abbrev yV (h:Heap) (o:Obj) (l2:Addr):Heap:=(yU h o l2).push { cls:=.type "tuple",data:=.seq #[.ref h.objs.size,.ref (rJ h o).objs.size] }
abbrev vq (h:Heap) (o:Obj) (l2:Addr):Heap:=(yV h o l2).push { cls:=.type "tuple",data:=.seq #[.none,.none] }
abbrev iz (h:Heap) (o:Obj) (l2:Addr):Heap:=(vq h o l2).push { cls:=.type "zip",data:=.fields #[.none,.bool false,.bool false,.ref (yU h o l2).objs.size,.ref (yV h o l2).objs.size] }
abbrev oA (l:Addr):Obj:={ cls:=.type "list_iterator",data:=.fields #[.ref l,.int 0 0] }
theorem yW (l1 l2:Addr) (xs ys:Array Value) :
 Meets (Builtin.«zip.__new__» ⟨[.type "zip",.ref l1,.ref l2],[]⟩) (λ_ R s=>s.heap.IsList l1 xs/\s.heap.IsTuple l2 ys/\R (.ok (.ret (.ref (vq s.heap (oA l1) l2).objs.size))) { s with heap:=iz s.heap (oA l1) l2 }):=
 .of_wp λprog w A R s h=>by
  obtain ⟨hp,g,d,tk,os⟩:=s; obtain ⟨lj,fg,h⟩:=h
  have yX:=sub_zip
  have TH:Heap.IsList (Shared.heap ⟨hp,g,d,tk,os⟩) l1 xs:=lj
  have TJ:Heap.IsTuple (Shared.heap ⟨hp.push { cls:=.type "list_iterator",data:=.fields #[.ref l1,.int 0 0] },g,d,tk,os⟩) l2 ys:=Heap.IsTuple.push fg _
  wp_walk using wpAny_pyIter_list TH,wpAny_pyIter_tuple TJ
  exact ⟨_,rfl,h⟩
section
variable {prog:Program}{w:World}{A:Around}{E:Value->Shared->Prop}{s:Shared}
theorem Ft (h:Heap) (o:Obj) (l2:Addr) (hg:(rJ h o).get? h.objs.size=some o):IsZip (iz h o l2) (h.objs.size+4) (h.objs.size+2) (h.objs.size+3) .none/\IsPair (iz h o l2) (h.objs.size+2) (.ref h.objs.size) (.ref (h.objs.size+1))/\IsPair (iz h o l2) (h.objs.size+3) .none .none/\
 (iz h o l2).get? h.objs.size=some o/\(iz h o l2).IsTupleIter (h.objs.size+1) l2 0/\(∀c q,h.get? c=some q->(iz h o l2).get? c=some q)/\(vq h o l2).objs.size=h.objs.size+4:=by
 have z1:(rJ h o).objs.size=h.objs.size+1:=Heap.size_push ..
 have z2:(yU h o l2).objs.size=h.objs.size+2:=by rw [Heap.size_push,z1]
 have z3:(yV h o l2).objs.size=h.objs.size+3:=by rw [Heap.size_push,z2]
 have z4:(vq h o l2).objs.size=h.objs.size+4:=by rw [Heap.size_push,z3]
 have g5:(iz h o l2).get? (vq h o l2).objs.size=some _:=Heap.get?_push_size _ rfl
 have g4:(iz h o l2).get? (yV h o l2).objs.size=some _:=Heap.get?_push_of_some _ (Heap.get?_push_size _ rfl)
 have g3:(iz h o l2).get? (yU h o l2).objs.size=some _:=Heap.get?_push_of_some _ (Heap.get?_push_of_some _ (Heap.get?_push_size _ rfl))
 have g2:(iz h o l2).get? (rJ h o).objs.size=some _:=Heap.get?_push_of_some _ (Heap.get?_push_of_some _ (Heap.get?_push_of_some _ (Heap.get?_push_size _ rfl)))
 have g1:(iz h o l2).get? h.objs.size=some _:=Heap.get?_push_of_some _ (Heap.get?_push_of_some _ (Heap.get?_push_of_some _ (Heap.get?_push_of_some _ hg)))
 rw [z2,z3,z4] at g5
 rw [z1,z2] at g3
 rw [z3] at g4
 rw [z1] at g2
 exact ⟨g5,g3,g4,g1,⟨_,g2,rfl,rfl⟩,λc q x=>Heap.get?_push_of_some _ (Heap.get?_push_of_some _ (Heap.get?_push_of_some _ (Heap.get?_push_of_some _ (Heap.get?_push_of_some _ x)))),z4⟩
end
end PySem
namespace L2
open PySem PySem.Spec PyProof.Rows
section
variable {X:Cx}{pins:List (Addr×Obj)}{σ:St}{H:Hp}{s:Shared}{h':Heap}
end
section
variable {X:Cx}
end
end L2
namespace PySem
open Builtin Builtin.Str
def Wf (c:Nat) (L:List Nat) (a k:Nat):List Nat:=(List.range' a k).filter λi=>decide (L[i]?=some c)
end PySem
namespace L2
open PySem PySem.Spec PyProof.Rows
section
variable {X:Cx}
end
end L2
namespace PySem
open Builtin Builtin.Str
end PySem
namespace L2
open PySem PySem.Spec PyProof.Rows
section
variable {X:Cx}{pins:List (Addr×Obj)}{σ:St}{H:Hp}{s:Shared}{a:Addr}{kvs:List (Key×V)}{k:Key}{v:V}{u:Value}{E:Value->Shared->Prop}
end
section
variable {X:Cx}{o i:Expr}{pos:Pos}{td ty:TE}
end
end L2
namespace L2
open PySem PySem.Spec PyProof.Rows
section
variable {X:Cx}
def KA (K:W.Frag) (ta:TA):TI:=λσ H R=>ta σ H λvs H1=>∃a b,vs=[.ref a,.ref b]/\(∃xs,ay K H1 a xs)/\(∃ys,aT K H1 b ys)/\R (Itm K false true a b) H1
theorem Fu {es:List Expr}{kk:Nat}{pp:Pos}{a b:Expr}{ta:TA}{p pos:Pos}(hg:Gl X "zip") (hm:X.mg "zip" = none) (ha:PA X [a,b] ta) (hs:starEach [a,b] X.env=(false,eval a X.env)::starEach [b] X.env:=by rfl) (hp:(backTo pos (starEach [b] X.env)).any (·.1)=false:=by rfl) :
 PI X (.Tuple es kk pp) (.Call (.Name "zip" p) [a,b] [] pos) (KA X.K ta):=by
 intro pins s σ H R I h
 refine Call_ (iH I hg hm boot_zip (PyProof.Rows.callWith_type1 (aH (ha pos pins s σ H _ I h) λus s1 ⟨vs,H1,I1,r1,q1⟩=>?_) hs hp))
 obtain ⟨l,m,e,⟨xs,hx⟩,⟨ys,hy⟩,q⟩:=q1
 subst e
 obtain ⟨u,v,rfl,ru,rv⟩:=vals2 r1
 cases (show u=Value.ref l from ru)
 cases (show v=Value.ref m from rv)
 obtain ⟨its,_,p1,_⟩:=I1.zk (tp:=false) hx
 obtain ⟨its',_,p2,_⟩:=I1.zk (tp:=true) hy
 refine callType_new F.called_zip (by decide) (F.typeCall_zip_2 _ _) (F.newCall_zip_2 _ _) (λobj=>F.args_object_init_3 obj _ _) F.entry_zip_new (yW l m its.toArray its'.toArray) ⟨p1,p2,?_⟩
 have Ah:(rJ s1.heap (oA l)).get? s1.heap.objs.size=some (oA l):=Heap.get?_push_size _ rfl
 obtain ⟨a1,a2,a3,a4,a5,TK,g6⟩:=Ft s1.heap (oA l) m Ah
 show _/\_
 rw [g6]
 refine ⟨⟨_,a1,rfl⟩,?_⟩
 refine wpAny_pyIter_zip a1 ?_
 have I2:Inv X pins σ H1 { s1 with heap:=iz s1.heap (oA l) m }:=I1.kept (t':=s1.toks) TK
 refine ⟨_,_,_,_,H1,rfl,I2,Fs (tp:=false) (tq:=true) (a:=l) (b:=m) (z:=s1.heap.objs.size+4) (TI:=s1.heap.objs.size+2) (TO:=s1.heap.objs.size+3) (i1:=s1.heap.objs.size) (i2:=s1.heap.objs.size+1) ?_,⟨a1,a2,⟨_,_,a3⟩,⟨_,a4,rfl,rfl⟩,a5⟩,λb hb=>?_,q⟩
 . simp
 . have qq:s1.heap.objs.size<=b:=by
    simp only [List.mem_cons,List.not_mem_nil,or_false] at hb
    rcases hb with rfl | rfl | rfl | rfl | rfl
    . exact Nat.le_add_right _ _
    . exact Nat.le_add_right _ _
    . exact Nat.le_add_right _ _
    . exact Nat.le_refl _
    . exact Nat.le_add_right _ _
   exact I1.o6 qq (I1.hok.fresh qq)
theorem Fv {K:W.Frag}{tp tq:Bool}{a b:Addr}{xs ys:List V}{g:TG}{tb:TS}{D:Ends}{σ:St}{H:Hp}(WT:xs.length<=ys.length) (Pv:Nat->St->Hp->Prop) (h0:Pv 0 σ H) (hl:∀i σ H,i<=xs.length->Pv i σ H->ZK K tp H a xs/\ZK K tq H b ys)
 (hs:∀i x y T σ H,xs[i]?=some x->ys[i]?=some y->H T=none->Pv i σ H->g (.ref T) σ (upd H T (.tup [x,y])) λgb H2=>tb { D with nx:=Pv (i+1),ct:=Pv (i+1),bk:=D.nx } gb H2) (hd:∀σ H,Pv xs.length σ H->D.nx σ H) :
 ∃W:Nat->Nat->St->Hp->Prop,(∃m,W 0 m σ H)/\∀i m σ H,W i m σ H->
  ((Itm K tp tq a b).stop i H/\D.nx σ H)\/((Itm K tp tq a b).go i H/\∃N:St->Hp->Prop,(∀cg H',N cg H'->∃m',m'<m/\W (i+1) m' cg H')/\∀x H',(Itm K tp tq a b).yld i H x H'->g x σ H' λgb H2=>tb { D with nx:=N,ct:=N,bk:=D.nx } gb H2):=by
 refine ⟨λi m σ H=>m=xs.length-i/\i<=xs.length/\Pv i σ H,⟨xs.length,by simp,Nat.zero_le _,h0⟩,?_⟩
 rintro i m σ H ⟨rfl,hi,p⟩
 obtain ⟨q1,q2⟩:=hl i σ H hi p
 by_cases dv:i<xs.length
 . refine .inr ⟨⟨xs,ys,xs[i],ys[i]'(by omega),q1,q2,List.getElem?_eq_getElem dv,List.getElem?_eq_getElem (by omega)⟩,Pv (i+1),λcg H' p'=>⟨xs.length-(i+1),by omega,rfl,dv,p'⟩,λx H' y=>?_⟩
   obtain ⟨T,v,u,rfl,hT,rfl,hv,hu⟩:=y
   exact hs i v u T σ H (hv xs q1) (hu ys q2) hT p
 . refine .inl ⟨⟨xs,q1,by omega⟩,?_⟩
   obtain rfl:i=xs.length:=by omega
   exact hd σ H p
end
end L2
namespace L2
open PySem PySem.Spec PyProof.Rows
section
variable {X:Cx}
end
end L2
namespace L2
open PySem PySem.Spec PyProof.Rows
end L2
namespace L2
open PySem PySem.Spec PyProof.Rows
section
variable {X:Cx}
end
end L2
namespace L2
open PySem PySem.Spec PyProof.Rows
theorem nS {α β:Type}{F:α->β->Prop} : ∀{jK:List α}{kh:List β}{i:Nat}{b:β},Paired F jK kh->kh[i]?=some b->∃a,jK[i]?=some a/\F a b
 | _,_,_,_,.nil,h=>by simp at h
 | _,_,0,_,.cons h t,e=>⟨_,rfl,by simp at e; subst e; exact h⟩
 | _,_,i+1,_,.cons h t,e=>by
  obtain ⟨a,h1,h2⟩:=nS (i:=i) t (by simpa using e)
  exact ⟨a,by simpa using h1,h2⟩
section
variable {X:Cx}
def Pa (K:W.Frag):R2:=λx y H Q=>∃(t l:Addr) (a b:Str) (ts:List Addr) (ps:List (Str×Str)),x=.ref t/\y=.ref l/\H t=some (.tup [.str a,.str b])/\ay K H l (ts.map V.ref)/\Paired (λu p=>H u=some (.tup [.str p.1,.str p.2])) ts ps/\t∉ts/\Q (.bl (decide ((a,b)∈ps))) H
open Classical in
theorem JV (hu:X.A.units+1<cLine):di X (compareOp .In) (Pa X.K):=by
 intro pins s σ H x y v u Q I rx ry h
 obtain ⟨t,l,a,b,ts,ps,rfl,rfl,ht,hl,hp,hn,q⟩:=h
 cases (show v=Value.ref t from rx)
 cases (show u=Value.ref l from ry)
 obtain ⟨its,rv,pl,hz⟩:=I.list hl
 obtain ⟨WU,rt,pt,_⟩:=I.tuple (aT.of ht)
 obtain ⟨x1,x2,ej,r1,r2⟩:=vals2 rt
 subst ej
 have at_:∀w,w∈its->∃(d:Addr) (p:Str×Str),w=Value.ref d/\d∈ts/\p∈ps/\H d=some (.tup [.str p.1,.str p.2]):=by
  intro w hw
  obtain ⟨i,hi,e⟩:=List.getElem_of_mem hw
  have hlen:=rv.length
  rw [List.length_map] at hlen
  have nM:i<ts.length:=by omega
  have fg:=hp.length
  have DO:i<ps.length:=by omega
  obtain ⟨w',e1,e2⟩:=rv.get (x:=.ref ts[i]) (by rw [List.getElem?_map,List.getElem?_eq_getElem nM]; rfl)
  rw [List.getElem?_eq_getElem hi,e] at e1
  cases e1
  obtain ⟨d,hd,hD⟩:=nS hp (i:=i) (List.getElem?_eq_getElem DO)
  rw [List.getElem?_eq_getElem nM] at hd
  cases hd
  exact ⟨ts[i],ps[i],e2,List.getElem_mem nM,List.getElem_mem DO,hD⟩
 refine SeqAt.in_listAt (λw=>decide (∃d:Addr,w=Value.ref d/\H d=some (.tup [.str a,.str b]))) pl.isList (λw hw=>?_) ⟨.bl _,H,I,rfl,?_⟩
 . obtain ⟨d,p,rfl,hd,_,hD⟩:=at_ w (by simpa using hw)
   obtain ⟨WV,rd,pd,_⟩:=I.tuple (aT.of hD)
   obtain ⟨y1,y2,ed,s1,s2⟩:=vals2 rd
   subst ed
   have gr:d≠t:=λe=>hn (e ▸ hd)
   have key:=SeqAt.EqAt.of_refs gr (SeqAt.RcAt.tuples (A:=X.A.in1) (s:=s) (e:=λj=>if j=0 then gp (.str p.1) (.str a) else gp (.str p.2) (.str b)) pd pt (by show X.A.units+1<cLine; exact hu) (λj g1 g2=>?_))
   . have ee:((List.range (min [y1,y2].toArray.size [x1,x2].toArray.size)).all (λj=>if j=0 then gp (.str p.1) (.str a) else gp (.str p.2) (.str b)) && [y1,y2].toArray.size == [x1,x2].toArray.size)=decide (∃d':Addr,Value.ref d=Value.ref d'/\H d'=some (.tup [.str a,.str b])):=by
      show ((List.range 2).all _ && true)=_
      rw [Bool.and_true,Bool.eq_iff_iff,decide_eq_true_eq]
      simp only [List.range_succ,List.range_zero,List.nil_append,List.all_append,List.all_cons,List.all_nil,Bool.and_true,Bool.and_eq_true,if_pos,gp,beq_iff_eq]
      constructor
      . rintro ⟨e1,e2⟩
        refine ⟨d,rfl,?_⟩
        rw [hD,e1,show p.2=b by simpa using e2]
      . rintro ⟨d',e,h'⟩
        cases e
        rw [hD] at h'
        simp at h'
        exact ⟨h'.1,by simpa using h'.2⟩
     rw [ee] at key
     exact key
   . match j,g1 with
     | 0,_=>exact nu s1 r1 rfl rfl
     | 1,_=>exact nu s2 r2 rfl rfl
 . have e:its.toArray.any (λw=>decide (∃d:Addr,w=Value.ref d/\H d=some (.tup [.str a,.str b])))=decide ((a,b)∈ps):=by
    rw [Bool.eq_iff_iff,decide_eq_true_eq]
    rw [show its.toArray.any (λw=>decide (∃d:Addr,w=Value.ref d/\H d=some (.tup [.str a,.str b])))=its.any (λw=>decide (∃d:Addr,w=Value.ref d/\H d=some (.tup [.str a,.str b]))) by simp,List.any_eq_true]
    constructor
    . rintro ⟨w,hw,hd⟩
      obtain ⟨d,p,rfl,_,M5,hD⟩:=at_ w hw
      obtain ⟨d',e,h'⟩:=of_decide_eq_true hd
      cases e
      rw [hD] at h'
      simp at h'
      have:p=(a,b):=Prod.ext h'.1 h'.2
      exact this ▸ M5
    . intro hm
      obtain ⟨i,hi,e⟩:=List.getElem_of_mem hm
      obtain ⟨d,hd,hD⟩:=nS hp (i:=i) (List.getElem?_eq_getElem hi)
      obtain ⟨w',e1,e2⟩:=rv.get (x:=.ref d) (by rw [List.getElem?_map,hd]; rfl)
      refine ⟨w',List.mem_of_getElem? e1,decide_eq_true ⟨d,e2,?_⟩⟩
      rw [hD,e]
   rw [e]
   exact q
end
end L2
namespace L2
open PySem PySem.Spec PyProof.Rows
section
variable {X:Cx}{N:List Str}{js:List (Option Nat)}{scope:Scope}{elt tg iter:Expr}{ifs:List Expr}{pos:Pos}{wi:TI}{g:TG}{ti:TT}{te:TE}
end
end L2
namespace L2
open PySem PySem.Spec PyProof.Rows
def M6 (d:Addr) (o:Obj) (kvs:List (Key×V)):It:=
 ⟨λi H=>H d=some (.cz o (.dK kvs))/\i<kvs.length,λi H x H'=>∃T kv,x=.ref T/\H T=none/\kvs[i]?=some kv/\H'=upd H T (.tup [kV kv.1,kv.2]),λi H=>H d=some (.cz o (.dK kvs))/\i=kvs.length⟩
theorem rK:entryFor table "dict_itemiterator.__iter__" = some Builtin.«dict_keyiterator.__iter__»:=entryFor_alias (id':="dict_keyiterator.__iter__") (by kernel_rfl) rfl (by decide +kernel) (by kernel_rfl)
theorem yY {P:Program}{w:World}{K:W.Frag}{Ip:List Expr}{kk:Nat}{tp:Pos}{d it:Addr}{o:Obj}{es:Array DictEntry}{ep:Nat}{kvs:List (Key×V)}(hd:o.data=.dict es ep) (gr:d≠it):Turn P w K (.Tuple Ip kk tp) (M6 d o kvs) [it] it (λi h=>∃ok ov,IsItemIter h it d i kvs.length ep ok ov) where
 mem:=by simp
 obj:=λi h st b hb=>by
  have e:b=it:=by simpa using hb
  subst e
  obtain ⟨ok,ov,e⟩:=st
  exact ⟨_,e,λv z=>by
   have z':Data.fields _=Data.cell v:=z
   cases z'⟩
 keep:=λi h h' st k=>let ⟨ok,ov,e⟩:=st; ⟨ok,ov,k it (by simp) _ e⟩
 item:=by
  intro X hP hw hK hc i pins s σ H E I hf st hg
  subst hP hw hK
  obtain ⟨g1,g2⟩:=hg
  obtain ⟨ho,z,hs,vs,rel,o',tQ,tS,d6,r'⟩:=(show bg X.prog X.w H s.heap d (.cz o (.dK kvs)) from I.hok d _ g1)
  rw [ho] at d6
  cases d6
  have kX:=r'.2.1
  rw [hd] at kX
  cases kX
  have hl:kvs.length=vs.length:=rel.length
  obtain ⟨ok,ov,hit⟩:=st
  have gv:i<vs.length:=by omega
  have AW:kvs[i]?=some kvs[i]:=List.getElem?_eq_getElem g2
  have ev:vs[i]?=some (vs[i].1,vs[i].2):=List.getElem?_eq_getElem gv
  obtain ⟨HE,A4⟩:=iF rel AW ev
  rw [hl] at hit
  refine wpAny_pyNext_items_item (knd:=ba X.prog X.w) hit ⟨o,es,ho,r'⟩ ev λkey h' fk hO hT hsz hk=>?_
  refine ⟨.ref s.heap.objs.size,rfl,?_⟩
  refine wpAny_letOwnedTupleGo_items hO λh2 GF jM=>?_
  have Ak:s.heap.objs.size≠it:=Nat.ne_of_gt (Heap.lt_size hit)
  have Al:h2.get? s.heap.objs.size=some { cls:=.type "tuple",data:=.seq #[key,vs[i].2] }:=(jM.2 _ Ak).trans hT
  have I1:Inv X pins σ (upd H s.heap.objs.size (.tup [kV kvs[i].1,kvs[i].2])) { s with heap:=h2,toks:=s.toks }:=I.rq (its:=[key,vs[i].2]) hf (λb o hb e1=>by
   have b1:b≠it:=λz=>hb (by simp [z])
   exact (jM.2 b b1).trans (hk b o b1 e1)) (Nat.le_refl _) ⟨_,Al,rfl,_,rfl⟩ (.cons (by rw [HE]; exact yL fk) (.cons A4 .nil)) (by show 2<=sizeLine; decide)
  have fr:H s.heap.objs.size=none:=I.hok.fresh (Nat.le_refl _)
  refine ⟨.ref s.heap.objs.size,_,I1,rfl,⟨s.heap.objs.size,kvs[i],rfl,fr,AW,rfl⟩,⟨_,_,by rw [hl]; exact GF⟩,λb hb=>?_⟩
  have qq:=(hf b hb).1
  have e:b=it:=by simpa using hb
  rw [ai (by rw [e]; exact Ne.symm Ak)]
  exact qq
 done:=by
  intro X hP hw hK hc i pins s σ H E I hf st hg
  subst hP hw hK
  obtain ⟨g1,g2⟩:=hg
  subst g2
  obtain ⟨ho,z,hs,vs,rel,o',tQ,tS,d6,r'⟩:=(show bg X.prog X.w H s.heap d (.cz o (.dK kvs)) from I.hok d _ g1)
  rw [ho] at d6
  cases d6
  have kX:=r'.2.1
  rw [hd] at kX
  cases kX
  have hl:kvs.length=vs.length:=rel.length
  obtain ⟨ok,ov,hit⟩:=st
  rw [hl] at hit
  exact wpAny_pyNext_items_end (knd:=ba X.prog X.w) (I.ok.hd hc) hit ⟨o,es,ho,r'⟩ (by simp) λh' eb=>⟨rfl,I.rp (t':=s.toks) hf λb o hb e1=>eb b o (λz=>hb (by simp [z])) e1⟩
 self:=λA i s Q E st h=>by
  obtain ⟨ok,ov,hit⟩:=st
  have hT:s.TypeIs (.ref it) "dict_itemiterator":=⟨_,hit,rfl⟩
  refine wpAny_pyIter_slot hT F.slot_dict_itemiterator_iter (wpAny_call_entry F.slot_dict_itemiterator_iter hT rK ?_ (F.args_dict_itemiterator_iter_1 _))
  show wpAny _ _ (ret (.ref it)) _ _ s
  exact wpAny_pure ⟨_,rfl, "dict_itemiterator",_,hT,F.slot_dict_itemiterator_next.lookup,h⟩
section
variable {X:Cx}
def Iq (td:TE):TI:=λσ H R=>td σ H λx H1=>∃d kvs,x=.ref d/\H1 d=some (.dK kvs)/\∀o,R (M6 d o kvs) (upd H1 d (.cz o (.dK kvs)))
theorem CG {Ip:List Expr}{kk:Nat}{tp:Pos}{o:Expr}{to:TE}{apos df:Pos}(ho:PE X o to)
 (qk:attributeBase o "items" X.env (eval o X.env)=eval o X.env:=by rfl) (ql:(apos.endLine == df.line)=true:=by rfl):PI X (.Tuple Ip kk tp) (.Call (.Attribute o "items" apos) [] [] df) (Iq to):=by
 intro pins s σ H R I h
 refine wpAny_Call_method0_late qk ql (aH (ho pins s σ H _ I h) λv s1 ⟨x,H1,I1,r1,d,kvs,e,hd,q⟩=>?_)
 subst e
 cases (show v=Value.ref d from r1)
 obtain ⟨h1,h2⟩:=ur (T:="dict") (x:=.ref d) I1 rfl (.inr (.inr (.inl ⟨rfl,.inl ⟨_,hd⟩⟩)))
 refine ⟨"dict", "dict.items",PySem.F.plainAttrs_dict,PySem.F.slot_dict_items,PySem.F.type_dict_items,h1,h2,Calls.callWith_builtin rfl (PySem.evalArgs_none ?_)⟩
 obtain ⟨z,hm,vs,rel,dd⟩:=pX I1.hok hd
 obtain ⟨ob,es,ep,Ir,r⟩:=id dd
 have hlen:kvs.length=vs.length:=rel.length
 obtain ⟨o',d6,I2⟩:=I1.freeze hd
 rw [Ir] at d6
 cases d6
 refine call_meetsIn PySem.F.slot_dict_items h1 PySem.F.entry_dict_items (PySem.F.args_dict_items_1 _) (meets_dict_items (ba X.prog X.w) d hm) ⟨⟨vs,dd⟩,?_⟩
 have dv:d<s1.heap.objs.size:=Heap.lt_size Ir
 refine wpAny_pyIter_items (knd:=ba X.prog X.w) (kvs:=vs) (ep:=ep) (d:=d) ⟨_,Heap.get?_push_size _ rfl,rfl,rfl⟩ ⟨ob,es,Heap.get?_push_of_some _ Ir,r⟩ ?_
 have I3:Inv X pins σ (upd H1 d (.cz ob (.dK kvs))) { s1 with heap:=s1.heap.push { cls:=.type "dict_items",data:=.fields #[.ref d] } }:=I2.kept (t':=s1.toks) λb o e=>Heap.get?_push_of_some _ e
 have I4:=I3.kept (h':=(s1.heap.push { cls:=.type "dict_items",data:=.fields #[.ref d] }).push { cls:=.type "dict_itemiterator",data:=.fields #[.none,.bool false,.ref d,.int 0 0,.int vs.length 0,.int ep 0,.none,.none] }) (t':=s1.toks) λb o e=>Heap.get?_push_of_some _ e
 refine ⟨(s1.heap.push { cls:=.type "dict_items",data:=.fields #[.ref d] }).objs.size,[(s1.heap.push { cls:=.type "dict_items",data:=.fields #[.ref d] }).objs.size],_,_,_,rfl,I4,yY (es:=es) (ep:=ep) (o:=ob) (kvs:=kvs) r.2.1 (Nat.ne_of_lt (by rw [Heap.size_push]; exact Nat.lt_succ_of_lt dv)),?_,?_,q ob⟩
 . refine ⟨.none,.none,?_⟩
   show Heap.get? _ _=_
   rw [hlen]
   exact Heap.get?_push_size _ rfl
 . intro b hb
   have e:b=(s1.heap.push { cls:=.type "dict_items",data:=.fields #[.ref d] }).objs.size:=by simpa using hb
   subst e
   exact I3.o6 (Nat.le_refl _) (I3.hok.fresh (Nat.le_refl _))
end
end L2
namespace Gen
open PySem L2
abbrev je:Stmt:=top 3
def look (L:List (Str×Tr)) (z:Str):Option Tr:=(L.find? λp=>decide (p.1=z)).map (·.2)
abbrev vt (S:bZ):List (Key×V)->List (Str×Tr)->Prop:=Paired λkv p=>kv.1=.inr p.1/\∃i:Nat,kv.2=.int (i:Int)/\i<S.N.length/\ak S.TS i=p.2
theorem sV {S S':bZ}{ks:List (Key×V)}{L:List (Str×Tr)}(h:vt S ks L) (g:cS S S') (hl:S.N.length=S.TS.length):vt S' ks L:=Paired.cy h λkv p ⟨e1,i,e2,e3,e4⟩=>by
 have:=g.le
 exact ⟨e1,i,e2,by omega,by rw [g.ak (by omega)]; exact e4⟩
theorem Bj {S:bZ}{ks:List (Key×V)}{L:List (Str×Tr)}(h:vt S ks L):ks.map (·.1)=L.map λp=>Sum.inr p.1:=by
 induction h with
 | nil=>rfl
 | cons e _ ih=>rw [List.map_cons,List.map_cons,ih,e.1]
theorem Fw {S:bZ}{ks:List (Key×V)}{L:List (Str×Tr)}(h:vt S ks L):vg S (look L) ks:=by
 induction h with
 | nil=>exact λz=>rfl
 | @cons kv p ks L e _ ih=>
  intro z
  unfold look
  by_cases q:p.1=z
  . rw [List.find?_cons_of_pos (by simpa using q)]
    obtain ⟨e1,i,e2,e3,e4⟩:=e
    exact ⟨i,by rw [bG (by rw [e1,q]),e2],e3,e4⟩
  . rw [List.find?_cons_of_neg (by simpa using q)]
    have:=ih z
    unfold look at this
    rw [show aR (kv::ks) (.inr z)=aR ks (.inr z) from bx (by rw [e.1]; exact λw=>q (Sum.inr.inj w))]
    exact this
section
variable {P:Program}{w:World}{C y dy nm sp nd kn ch im ex:Addr}{names:List Str}{S:bZ}{H:Hp}
theorem FO.CI (h:FO P w C H y dy nm sp nd kn ch im ex names S){a:Addr}{u o:HO}(hm:H a=some u) (n0:a≠y) (n1:a≠nm) (n2:a≠sp) (n3:a≠nd) (n4:a≠kn) (n5:a≠ch) (n6:a≠im) (n7:a≠ex) (nt:∀xs,u≠.tup xs):FO P w C (upd H a o) y dy nm sp nd kn ch im ex names S:=by
 have kt:∀b xs,H b=some (.tup xs)->(upd H a o) b=some (.tup xs):=λb xs hb=>by
  rw [ai (aL hb hm λz=>nt xs z.symm)]
  exact hb
 exact ⟨(ai (Ne.symm n0)).trans h.hy,(ai (Ne.symm n1)).trans h.hn,(ai (Ne.symm n2)).trans h.hs,(ai (Ne.symm n3)).trans h.hd,Paired.cy h.ht λ_ _ e=>kt _ _ e,(ai (Ne.symm n4)).trans h.hk,(ai (Ne.symm n5)).trans h.hc,h.ck,(ai (Ne.symm n6)).trans h.hi,λp hp=>⟨(h.ik p hp).1.keep kt,(h.ik p hp).2⟩,(ai (Ne.symm n7)).trans h.he,
  λkv bf=>let ⟨i,a,b,c⟩:=h.ek kv bf; ⟨i,a,b,c.keep kt⟩,h.e0,h.fs,h.nn,h.ns,h.n8,h.d1,h.d2,h.d3⟩
end
end Gen
namespace Gen
open PySem L2
section
variable (P:Program) (w:World) (K:W.Frag) (mg:Str->Option Value) (base:Heap) (C:Addr)
structure Iu (fI fT fA fR:Addr) (dI dT dA dR:FuncData):Prop where
 gI:av P w K mg base aE 1 fI dI ["self", "order"] (ox P w C)
 mI:Mk K C fI
 bI:Binds K dI ["self", "order"] []
 gT:av P w K mg base aE 10 fT dT ["self", "tree"] (kW P w C 9)
 mT:Meth K C "taken" fT
 bT:Binds K dT ["self", "tree"] []
 gA:av P w K mg base aE 10 fA dA ["self", "number"] (jA P w C 9)
 mA:Meth K C "tree_at" fA
 bA:Binds K dA ["self", "number"] []
 gR:av P w K mg base aE 19 fR dR qN (yQ P w C 9)
 mR:Meth K C "replaced" fR
 bR:Binds K dR qN []
end
abbrev DR (H:Hp) (names:List Str):List (Key×V)->List (Str×Tr)->Prop:=Paired λkv p=>kv.1=.inr p.1/\cL H p.2 kv.2/\cq names p.2
def vw:Sp:=λvs H Q _=>∃(o gd:Addr) (v:V) (names:List Str) (L:List (Str×Tr)) (gkv:List (Key×V)) (t:Tr),vs=[.ref o,v,.ref gd]/\Ord H o names/\cL H t v/\cq names t/\H gd=some (.dK gkv)/\DR H names gkv L/\(L.map (·.1)).Nodup/\L.length<=8/\
 ∀(u:V) (t':Tr) (H':Hp),aj H H'->cL H' t' u->cq names t'->(∀e,ev e t'=ev (fq (look L) e) t)->Q u H'
abbrev TL:List Str:=["order", "tree", "given", "forest", "trees"]
theorem DS:(["name", "part", "forest"]:List Str).Nodup:=by decide +kernel
section
variable {P:Program}{w:World}{K:W.Frag}{mg:Str->Option Value}{base:Heap}{C fI fT fA fR:Addr}{dI dT dA dR:FuncData}
theorem CJ:aZ TL ["order", "tree", "given"] (ao je):=⟨rfl,rfl,rfl,by decide +kernel,rfl,by decide +kernel,by decide +kernel⟩
theorem yZ {f:Addr}{fd:FuncData}(F:cw K "put_for" "put_for" je f fd) (T:eP K mg C) (O2:gc mg) (G:Iu P w K mg base C fI fT fA fR dI dT dA dR):av P w K mg base aE 20 f fd ["order", "tree", "given"] vw:=by
 refine F.ok CJ (λvs H Q E h=>?_) (λcdv A outer s H vs Q E hr h=>?_)
 . obtain ⟨o,gd,v,names,L,gkv,t,rfl,_⟩:=h
   rfl
 . obtain ⟨o,gd,v,names,L,gkv,t,rfl,hOr,hv,hc,iY,hL,TM,WW,kk⟩:=h
   have j9:bw 10 _:=hr.mono (by decide)
   refine ⟨_,ag (ax (i:=3) CJ.nd rfl (Or.inr rfl) (wW G.mI G.gI (hr.mono (by decide)) rfl T.mgC G.bI .nil aB (aa (pv 0) af)))
    (ag (ax (i:=4) CJ.nd rfl (Or.inl rfl) (cO (eI rfl) (by rfl) O2.dict PyProof.Rows.boot_dict (aa (xE (eE (N:=["name", "part", "forest"]) (js:=[none,none,some 3]) (g:=x6 K 2 (lF (dm 0) (lF (dm 1) xZ))) (by kernel_rfl) rfl (CG (pv 2))
     (λ_ _ _ _ _ _=>jj rfl (cF (aQ (i:=0) DS rfl (Or.inl rfl) (.inr rfl)) (cF (aQ (i:=1) DS rfl (Or.inl rfl) (.inr rfl)) ie))) (λ_ _ _ _ _ _=>cI) (λ_ _ _ _ _ _=>dE (aa (pv 0) (aa (bb (pv 2) T.cl G.mT G.gT j9 G.bT .nil aB (aa (pv 1) af)) af))))) af)))
    (aq (aK (bb (pv 3) T.cl G.mA G.gA j9 G.bA .nil aB (aa (bb (pv 3) T.cl G.mR G.gR hr G.bR .nil aB (aa (bb (pv 3) T.cl G.mT G.gT j9 G.bT .nil aB (aa (pv 1) af)) (aa (pv 4) (aa pb af)))) af))))),?_⟩
   refine ⟨_,rfl,λx dx hx mr Tw=>?_⟩
   refine ⟨x,dx,o,names,rfl,ae,by rw [ai (ab hOr.at_ hx),ai (ab hOr.at_ mr)]; exact hOr.at_,hOr.nd,hOr.ok,hOr.n8,λnm sp nd kn ch im ex a0 a1 H1 aM k1 HW Pb=>⟨rfl,?_⟩⟩
   have s1:=u9 hx mr k1
   have fr:∀g∈[nd,kn,ch,im,ex],H g=none:=λg hg=>pJ hx mr (HW g hg)
   have TN:H sp=none:=pJ hx mr Pb
   have hU:∀m∈["taken", "replaced", "tree_at"],(cD nm sp nd kn ch im ex).lookup (m:Str)=none:=λm hm=>by
    simp only [List.mem_cons,List.not_mem_nil,or_false] at hm
    rcases hm with rfl | rfl | rfl <;> exact jy _ _ _ _ _ _ _ (by decide +kernel) (by decide +kernel) (by decide +kernel) (by decide +kernel) (by decide +kernel) (by decide +kernel) (by decide +kernel)
   have nT:=hU "taken" (by decide)
   have nR:=hU "replaced" (by decide)
   have nA:=hU "tree_at" (by decide)
   have y1:=Nat.le_trans (eZ hc) hOr.n8
   have z1:=qJ y1
   have w1:=HU y1
   have vx:=s1 _ _ iY
   have TQ:=hL.length
   have c1:gd≠x:=ab iY hx
   have c2:gd≠nm:=aL vx aM.hn (by intro z; cases z)
   have c3:gd≠sp:=ab iY TN
   have c4:gd≠nd:=ab iY (fr nd (by simp))
   have c5:gd≠kn:=ab iY (fr kn (by simp))
   have c6:gd≠ch:=ab iY (fr ch (by simp))
   have c7:gd≠im:=ab iY (fr im (by simp))
   have c8:gd≠ex:=ab iY (fr ex (by simp))
   refine ⟨_,rfl,gd,gkv,rfl,vx,λob D hD=>?_⟩
   have jW:=aM.CI (o:=.cz ob (.dK gkv)) vx c1 c2 c3 c4 c5 c6 c7 c8 (by intro _ z; cases z)
   have qQ:(upd H1 gd (.cz ob (.dK gkv))) gd=some (.cz ob (.dK gkv)):=ae
   have kf:∀b u,H1 b=some u->b≠gd->(upd H1 gd (.cz ob (.dK gkv))) b=some u:=λb u hb nb=>by rw [ai nb]; exact hb
   generalize upd H1 gd (.cz ob (.dK gkv))=Hf at hD jW qQ kf ⊢
   have nU:∀{b:Addr}{u:HO},Hf b=some u->D≠b:=λhb=>(ab hb hD).symm
   have e0:=nU jW.hy
   have e1:=nU jW.hn
   have e2:=nU jW.hs
   have e3:=nU jW.hd
   have e4:=nU jW.hk
   have e5:=nU jW.hc
   have e6:=nU jW.hi
   have e7:=nU jW.he
   refine fQ gkv.length (λi acc σ Hx=>∃(ts:List Addr) (ks:List (Key×V)) (S:bZ),acc=ts.map V.ref/\Paired (λt (kv:Key×V)=>Hx t=some (.tup [kV kv.1,kv.2])) ts ks/\vt S ks (L.take i)/\(∃u1 u2,σ=[u1,u2,some (.ref x)])/\FO P w C Hx x dx nm sp nd kn ch im ex names S/\Bd S (2+512*i)/\Kp Hf Hx nd kn ch im ex)
    ⟨[],[],_,rfl,.nil,.nil,⟨none,none,rfl⟩,jW.same (aj.ar hD),MV,λb u hb _ _ _ _ _=>by rw [ai (ab hb hD)]; exact hb⟩ ae ?_ ?_
   . rintro acc σ Hx cP ⟨ts,ks,S,rfl,eU,xH,_,Bk,Iv,kx⟩
     rw [show L.take gkv.length=L by rw [TQ,List.take_length]] at xH
     have lq:=kx _ _ qQ c4 c5 c6 c7 c8
     refine ⟨⟨lq,rfl⟩,gd,ob,gkv,lq,(λo' u e=>by have e':H gd=_:=e; rw [iY] at e'; cases e'),?_⟩
     have Iw:=Bk.CI (o:=.dK gkv) lq c1 c2 c3 c4 c5 c6 c7 c8 (by intro _ z; cases z)
     have TR:D≠gd:=nU qQ
     have Bl:(upd Hx gd (.dK gkv)) D=some (.lst (ts.map V.ref)):=by rw [ai TR]; exact cP
     have Bm:Paired (λt (kv:Key×V)=>(upd Hx gd (.dK gkv)) t=some (.tup [kV kv.1,kv.2])) ts ks:=Paired.cy eU λb kv e=>by rw [ai (aL e lq (by intro z; cases z))]; exact e
     have M7:∀b u,H1 b=some u->b≠nd->b≠kn->b≠ch->b≠im->b≠ex->(upd Hx gd (.dK gkv)) b=some u:=λb u hb n1 n2 n3 n4 n5=>by
      by_cases e:b=gd
      . rw [e,vx] at hb
        rw [e,ae,← hb]
      . rw [ai e]
        exact kx b u (kf b u hb e) n1 n2 n3 n4 n5
     generalize upd Hx gd (.dK gkv)=Ht at Iw Bl Bm M7 ⊢
     refine ⟨D,ts,ks,rfl,Bl,Bm,λg hg=>?_⟩
     rw [show cH [] ks=ks from hW _ [] (by rw [List.nil_append,Bj xH]; exact List.pairwise_map.mpr (List.Pairwise.imp (λh z=>h (Sum.inr.inj z)) (List.pairwise_map.mp TM)))]
     have s3:aj Ht (upd Ht g (.dK ks)):=aj.ar hg
     have q3:(upd Ht g (.dK ks)) g=some (.dK ks):=ae
     have A6:g≠ex:=(ab Iw.he hg).symm
     generalize upd Ht g (.dK ks)=H3 at s3 q3 ⊢
     have cQ:=Iw.same s3
     have mz:∀b u,H b=some u->H3 b=some u:=λb u hb=>s3 _ _ (M7 b u (s1 _ _ hb) (ab hb (fr nd (by simp))) (ab hb (fr kn (by simp))) (ab hb (fr ch (by simp))) (ab hb (fr im (by simp))) (ab hb (fr ex (by simp))))
     refine ⟨_,rfl,x,dx,_,rfl,cQ.hy,nA,_,rfl,x,dx,_,rfl,cQ.hy,nR,_,rfl,x,dx,_,rfl,cQ.hy,nT,_,rfl,x,dx,nm,sp,nd,kn,ch,im,ex,names,S,t,v,_,rfl,cQ,hv.keep (eJ mz),hc,by omega,Iv,by omega,λn1 S1 H4 hJ k4 g4 B4 _ _ _ l1 t4=>?_⟩
     refine ⟨_,rfl,λmd fG=>?_⟩
     have s5:aj H4 (upd H4 md (.dK [])):=aj.ar fG
     have q5:(upd H4 md (.dK [])) md=some (.dK []):=ae
     have vj:∀{b:Addr}{u:HO},H4 b=some u->md≠b:=λhb=>(ab hb fG).symm
     have A7:=cQ.dk q3 A6 k4
     have HY:=vj hJ.hs
     have HZ:=vj hJ.he
     have Ia:=(vj A7).symm
     generalize upd H4 md (.dK [])=H5 at s5 q5 ⊢
     have qI:=hJ.same s5
     refine ⟨x,dx,nm,sp,nd,kn,ch,im,ex,g,md,names,look L,S1,_,[],n1,2+512*gkv.length+fi t,rfl,qI,l1,by rw [t4]; omega,s5 _ _ A7,q5,HY,HZ,A6,Ia,Fw (sV xH g4 Bk.fs.len),(λ_ h=>(nomatch h)),Nat.zero_le _,B4,by rw [t4]; omega,λm S2 qK H6 A8 O7 _ _ k6 g6 B6 _ _ l6 M8=>?_⟩
     rw [t4] at B6 M8
     have A9:cq names (ak S2.TS m):=eO (i:=0) (ns:=names) (A8.fs.DI hOr.nd m l6) (Nat.zero_le _)
     have y6:=Nat.le_trans (eZ A9) hOr.n8
     have z6:=qJ y6
     refine ⟨x,dx,nm,sp,nd,kn,ch,im,ex,names,S2,m,_,rfl,A8,l6,by omega,B6,by omega,λu S3 H7 Tx k7 _ _ _ _ r7=>?_⟩
     refine kk u _ H7 (λb o hb=>?_) r7 A9 M8
     have f1:=ab hb (fr nd (by simp))
     have f2:=ab hb (fr kn (by simp))
     have f3:=ab hb (fr ch (by simp))
     have f4:=ab hb (fr im (by simp))
     have f5:=ab hb (fr ex (by simp))
     have h4:=k4 b o (mz b o hb) f1 f2 f3 f4 f5
     exact k7 b o (k6 b o (s5 b o h4) f1 f2 f3 f4 f5 (ab h4 fG)) f1 f2 f3 f4 f5
   . rintro i acc σ Hx hi cP ⟨ts,ks,S,rfl,eU,xH,⟨u1,u2,rfl⟩,Bk,Iv,kx⟩
     have lq:=kx _ _ qQ c4 c5 c6 c7 c8
     have Iy:i<L.length:=by omega
     have Bn:L[i]?=some L[i]:=List.getElem?_eq_getElem Iy
     obtain ⟨sW,vy,f1,f2,f3⟩:=gx hL Bn
     refine ⟨⟨lq,hi⟩,?_⟩
     rintro x' H' ⟨Tp,kv,rfl,Ag,bf,rfl⟩
     rw [vy] at bf
     cases bf
     generalize L[i]=p at Bn f1 f2 f3
     rw [f1]
     have d8:=Nat.le_trans (eZ f3) hOr.n8
     have zp:=qJ d8
     have sT:aj Hx (upd Hx Tp (.tup [kV (.inr p.1),sW.2])):=aj.ar Ag
     have qT:(upd Hx Tp (.tup [kV (.inr p.1),sW.2])) Tp=some (.tup [kV (.inr p.1),sW.2]):=ae
     refine ⟨Tp,_,rfl,aT.of qT,rfl,_,_,rfl,_,_,rfl,rfl,AY ?_⟩
     have xI:=sT _ _ cP
     generalize upd Hx Tp (.tup [kV (.inr p.1),sW.2])=HT at sT qT xI ⊢
     have Iz:=Bk.same sT
     have TU:cL HT p.2 sW.2:=(((f2.keep (eJ s1)).keep λb xs e=>kf _ _ e (aL e vx (by intro z; cases z))).keep (jW.dr kx)).keep (eJ sT)
     refine ⟨_,rfl,_,rfl,x,dx,_,rfl,Iz.hy,nT,_,rfl,x,dx,nm,sp,nd,kn,ch,im,ex,names,S,p.2,sW.2,2+512*i,rfl,Iz,TU,f3,by omega,Iv,by omega,λn S' H2 cv k2 g2 B2 _ _ _ l2 t2=>⟨(by show 2<=sizeLine; decide),λtt Bo=>?_⟩⟩
     have jv:=k2 _ _ xI e3 e4 e5 e6 e7
     have DQ:D≠tt:=ab jv Bo
     have s4:aj H2 (upd H2 tt (.tup [.str p.1,.int (n:Int)])):=aj.ar Bo
     have q4:(upd H2 tt (.tup [.str p.1,.int (n:Int)])) tt=some (.tup [.str p.1,.int (n:Int)]):=ae
     have sH:=s4 _ _ jv
     have oX:=eU.length
     have DT:=xH.length
     rw [List.length_take] at DT
     have hJ:=cv.same s4
     have Pc:∀b xs,Hx b=some (.tup xs)->(upd H2 tt (.tup [.str p.1,.int (n:Int)])) b=some (.tup xs):=λb xs e=>s4 _ _ (Iz.dr k2 _ _ (sT _ _ e))
     have TV:Kp Hx (upd H2 tt (.tup [.str p.1,.int (n:Int)])) nd kn ch im ex:=λb u hb n1 n2 n3 n4 n5=>s4 _ _ (k2 _ _ (sT _ _ hb) n1 n2 n3 n4 n5)
     refine ⟨_,sH,(by rw [List.length_map]; exact small (by omega)),cJ hi ae ⟨ts++[tt],ks++[(.inr p.1,.int (n:Int))],S',by rw [List.map_append]; rfl,?_,?_,⟨_,_,rfl⟩,hJ.CI sH e0 e1 e2 e3 e4 e5 e6 e7 (by intro _ z; cases z),B2.up (by omega),λb u hb n1 n2 n3 n4 n5=>?_⟩⟩
     . refine b0 (Paired.cy eU λb kv e=>?_) (.cons ?_ .nil)
       . have e':=Pc _ _ e
         rw [ai (aL e' sH (by intro z; cases z))]
         exact e'
       . rw [ai (aL q4 sH (by intro z; cases z))]
         exact q4
     . rw [List.take_succ,Bn,Option.toList_some]
       exact b0 (sV xH g2 Bk.fs.len) (.cons ⟨rfl,n,rfl,l2,t2⟩ .nil)
     . rw [ai (ab hb hD)]
       exact TV b u (kx b u hb n1 n2 n3 n4 n5) n1 n2 n3 n4 n5
end
end Gen
namespace Gen
open PySem L2
abbrev jD:Stmt:=top 12
abbrev jE:Stmt:=top 13
def bV (b:Bool):V:=.int (if b=true then 1 else 0)
def cn:List Str->List Bool->Tr
 | [],bs=>.leaf (bs.headD false)
 | n::r,bs=>if cn r (bs.take (bs.length / 2))=cn r (bs.drop (bs.length / 2)) then cn r (bs.take (bs.length / 2)) else .node n (cn r (bs.take (bs.length / 2))) (cn r (bs.drop (bs.length / 2)))
theorem rL (n:Str) (r:List Str) (bs:List Bool):cn (n::r) bs=if cn r (bs.take (bs.length / 2))=cn r (bs.drop (bs.length / 2)) then cn r (bs.take (bs.length / 2)) else .node n (cn r (bs.take (bs.length / 2))) (cn r (bs.drop (bs.length / 2))):=rfl
theorem eW:∀(names:List Str) (bs:List Bool),cq names (cn names bs)
 | [],bs=>.leaf _ _
 | n::r,bs=>by
  rw [rL]
  by_cases e:cn r (bs.take (bs.length / 2))=cn r (bs.drop (bs.length / 2))
  . rw [if_pos e]
    exact .skip (eW r _)
  . rw [if_neg e]
    exact .node e (eW r _) (eW r _)
theorem KC (e:Str->Bool) (n:Str) (r:List Str) (bs:List Bool):ev e (cn (n::r) bs)=if e n=true then ev e (cn r (bs.drop (bs.length / 2))) else ev e (cn r (bs.take (bs.length / 2))):=by
 rw [rL]
 by_cases q:cn r (bs.take (bs.length / 2))=cn r (bs.drop (bs.length / 2))
 . rw [if_pos q,q]
   split <;> rfl
 . rw [if_neg q]
   rfl
theorem vz (n:Nat):2 ^ (n+1) / 2=2 ^ n:=by rw [Nat.pow_succ]; omega
def iA (d:Nat):Sp:=λvs H Q _=>∃(u v:V) (t t':Tr),vs=[u,v]/\cL H t u/\cL H t' v/\t.dep<d/\Q (.bl (decide (t=t'))) H
section
variable {P:Program}{w:World}{K:W.Frag}{mg:Str->Option Value}{base:Heap}
abbrev jF:List Str:=["_law_found", "_law_due"]
theorem Pe:aZ jF jF (ao jE):=⟨rfl,rfl,rfl,by decide +kernel,rfl,by decide +kernel,by decide +kernel⟩
theorem vA {f:Addr}{fd:FuncData}{d k:Nat}(F:cw K "_law_same_tree" "_law_same_tree" jE f fd) (T:gc mg) (G:av P w K mg base aE k f fd jF (iA d)) (mS:mg "_law_same_tree" = some (.ref f)) (bS:Binds K fd jF []):av P w K mg base aE (k+1) f fd jF (iA (d+1)):=by
 refine F.ok Pe (λvs H Q E h=>?_) (λcdv A outer s H vs Q E hr h=>?_)
 . obtain ⟨u,v,t,t',rfl,_⟩:=h
   rfl
 . obtain ⟨u,v,t,t',rfl,hu,hv,hd,kk⟩:=h
   refine ⟨_,ag (bF (PW.pt (nY (fv (aU eB (by rfl) T.isi PyProof.Rows.boot_isinstance (aa (pv 1) (aa (ja (v:=.ty "bool") (by rfl) T.bool PyProof.Rows.boot_bool rfl) af))))
    (pT (fv (aU eB (by rfl) T.isi PyProof.Rows.boot_isinstance (aa (pv 0) (aa (ja (v:=.ty "bool") (by rfl) T.bool PyProof.Rows.boot_bool rfl) af)))))))
    (aq (aK (tX (aU eB (by rfl) T.isi PyProof.Rows.boot_isinstance (aa (pv 1) (aa (ja (v:=.ty "bool") (by rfl) T.bool PyProof.Rows.boot_bool rfl) af)))
     (tX (aU eB (by rfl) T.isi PyProof.Rows.boot_isinstance (aa (pv 0) (aa (ja (v:=.ty "bool") (by rfl) T.bool PyProof.Rows.boot_bool rfl) af))) (zx (rg dX (pv 0) (pv 1) (br _))))))) aY)
    (ag (bF (PW.pt (nY (ko (fv (aU eB (by rfl) T.isi PyProof.Rows.boot_isinstance (aa (pv 0) (aa (ja (v:=.ty "tuple") (by rfl) T.tuple PyProof.Rows.boot_tuple rfl) af)))))
     (nY (bj Dg (aU aV (by rfl) T.len PySem.boot_len (aa (pv 0) af)) ah (br _))
     (nY (ko (fv (aU eB (by rfl) T.isi PyProof.Rows.boot_isinstance (aa (aS (r:=cW K) bQ (pv 0) ah (λ_ _=>rfl)) (aa (ja (v:=.ty "str") (by rfl) T.str PyProof.Rows.boot_str rfl) af)))))
     (pT (bj Dg (aS (r:=cW K) bQ (pv 0) ah (λ_ _=>rfl)) (aS (r:=cW K) bQ (pv 1) ah (λ_ _=>rfl)) (br _)))))))
     (aq (aK iC)) aY)
    (aq (aK (tX (aJ G hr rfl mS F.kp bS .nil aB (aa (aS (r:=cW K) bQ (pv 0) ah (λ_ _=>rfl)) (aa (aS (r:=cW K) bQ (pv 1) ah (λ_ _=>rfl)) af)))
     (zx (aJ G hr rfl mS F.kp bS .nil aB (aa (aS (r:=cW K) bQ (pv 0) ah (λ_ _=>rfl)) (aa (aS (r:=cW K) bQ (pv 1) ah (λ_ _=>rfl)) af)))))))),?_⟩
   have fin:∀{b:Bool},(b=true ↔ t=t')->Q (.bl b) H:=λ{b} hb=>by
    rw [show b=decide (t=t') by rw [Bool.eq_iff_iff,hb,decide_eq_true_iff]]
    exact kk
   cases t' with
   | leaf c'=>
    cases (show v=.bl c' from hv)
    refine ⟨_,rfl,_,_, "bool",true,rfl,.bl _,rfl,_,rfl,rm (rm ?_)⟩
    refine ⟨_,rfl,_,_, "bool",true,rfl,.bl _,rfl,_,rfl,rm ?_⟩
    cases t with
    | leaf c=>
     cases (show u=.bl c from hu)
     refine ⟨_,rfl,_,_, "bool",true,rfl,.bl _,rfl,_,rfl,rm ⟨_,rfl,_,rfl,rfl,fin ?_⟩⟩
     rw [decide_eq_true_iff]
     exact ⟨λz=>(by cases z; rfl),λz=>(by cases z; rfl)⟩
    | node n l r=>
     obtain ⟨a,vl,vr,rfl,ha,_,_⟩:=hu
     exact ⟨_,rfl,_,_, "bool",false,rfl,.tup ha,rfl,_,rfl,gQ (fin ⟨λz=>(by cases z),λz=>(by cases z)⟩)⟩
   | node n' l' r'=>
    obtain ⟨a',Sr,Ss,rfl,Bp,qu,AI⟩:=hv
    refine ⟨_,rfl,_,_, "bool",false,rfl,.tup Bp,rfl,_,rfl,gQ ?_⟩
    cases t with
    | leaf c=>
     cases (show u=.bl c from hu)
     refine ⟨_,rfl,_,_, "bool",true,rfl,.bl _,rfl,_,rfl,rm ?_⟩
     exact ⟨_,rfl,_,_, "bool",false,rfl,.tup Bp,rfl,_,rfl,gQ (fin ⟨λz=>(by cases z),λz=>(by cases z)⟩)⟩
    | node n l r=>
     obtain ⟨a,vl,vr,rfl,ha,hl,hR⟩:=hu
     have yG:(Tr.node n l r).dep=max l.dep r.dep+1:=rfl
     refine ⟨_,rfl,_,_, "bool",false,rfl,.tup ha,rfl,_,rfl,gQ ?_⟩
     refine ⟨_,rfl,_,_, "tuple",true,rfl,.tup ha,rfl,_,rfl,gQ ?_⟩
     refine ⟨_,rfl,a,_,rfl,.inr (aT.of ha),rfl,_,rfl,gQ ?_⟩
     refine ⟨_,rfl,a,_,0,_,rfl,rfl,aT.of ha,aF (j:=0) rfl,_,_, "str",true,rfl,.str n,rfl,_,rfl,gQ ?_⟩
     refine ⟨_,rfl,a,_,0,_,rfl,rfl,aT.of ha,aF (j:=0) rfl,_,rfl,a',_,0,_,rfl,rfl,aT.of Bp,aF (j:=0) rfl,rfl,_,rfl,?_⟩
     by_cases en:n=n'
     . subst en
       refine bJ (by rw [decide_eq_true rfl]; rfl) ?_
       refine ⟨_,rfl,a,_,1,_,rfl,rfl,aT.of ha,aF (j:=1) rfl,_,rfl,a',_,1,_,rfl,rfl,aT.of Bp,aF (j:=1) rfl,_,_,l,l',rfl,hl,qu,by omega,_,rfl,?_⟩
       by_cases el:l=l'
       . subst el
         refine bY (decide_eq_true rfl) ?_
         refine ⟨_,rfl,a,_,2,_,rfl,rfl,aT.of ha,aF (j:=2) rfl,_,rfl,a',_,2,_,rfl,rfl,aT.of Bp,aF (j:=2) rfl,_,_,r,r',rfl,hR,AI,by omega,fin ?_⟩
         rw [decide_eq_true_iff]
         exact ⟨λz=>(by rw [z]),λz=>(by injection z)⟩
       . refine bJ (decide_eq_false el) (fin ?_)
         exact ⟨λz=>(nomatch z),λz=>absurd (by injection z) el⟩
     . refine bY (by rw [decide_eq_false (λz=>en (V.str.inj z))]; rfl) (fin ⟨λz=>(nomatch z),λz=>absurd (by injection z) en⟩)
def lr (d:Nat):Sp:=λvs H Q _=>∃(p q:Addr) (names:List Str) (bs:List Bool),vs=[.ref p,.ref q]/\H p=some (.lst (names.map V.str))/\H q=some (.lst (bs.map bV))/\names.length<d/\names.length<=8/\bs.length=2 ^ names.length/\
 ∀(v:V) (H':Hp),aj H H'->cL H' (cn names bs) v->Q v H'
abbrev TX:List Str:=["_law_names", "_law_bits_here", "_law_half", "_law_low", "_law_high"]
abbrev oZ:List Str:=["_law_names", "_law_bits_here"]
theorem y3:aZ TX oZ (ao jD):=⟨rfl,rfl,rfl,by decide +kernel,rfl,by decide +kernel,by decide +kernel⟩
theorem vB {xs:List V}{k:Nat}(h:k<=xs.length):d4 xs (some (k:Int)) none=xs.drop k:=by
 unfold d4
 rw [HT.wY,HT.uk,Nat.min_eq_left h]
 exact List.take_of_length_le (by rw [List.length_drop]; exact Nat.le_refl _)
theorem IA {xs:List V}{k:Nat}(h:k<=xs.length):d4 xs none (some (k:Int))=xs.take k:=by
 unfold d4
 rw [HT.wY,HT.uk,Nat.min_eq_left h]
 rfl
theorem CK {f fS:Addr}{fd dS:FuncData}{d k:Nat}(F:cw K "_law_canon" "_law_canon" jD f fd) (O2:gc mg) (G:av P w K mg base aE (k+9) f fd oZ (lr d)) (mC:mg "_law_canon" = some (.ref f)) (bC:Binds K fd oZ [])
 (gS:av P w K mg base aE 9 fS dS jF (iA 9)) (mS:mg "_law_same_tree" = some (.ref fS)) (kS:W.keepIn K (.ref fS)=true) (bS:Binds K dS jF []):av P w K mg base aE (k+9+1) f fd oZ (lr (d+1)):=by
 refine F.ok y3 (λvs H Q E h=>?_) (λcdv A outer s H vs Q E hr h=>?_)
 . obtain ⟨p,q,names,bs,rfl,_⟩:=h
   rfl
 . obtain ⟨p,q,names,bs,rfl,hp,hq,hd,n8,hlen,kk⟩:=h
   have hu:=iD hr
   have TY:=hr.mono (Nat.le_add_left 9 k)
   refine ⟨_,ag (bF (bj (G4 (Nat.lt_of_succ_lt hu)) (pv 0) (fw af) (br _)) (aq (aK (rg dX (aS (r:=dt K) bz (pv 1) ah (λ_ _=>rfl)) ah (br _)))) aY)
    (ag (ax (i:=2) y3.nd rfl (Or.inl rfl) (aD kr (aU aV (by rfl) O2.len PySem.boot_len (aa (pv 1) af)) ah))
    (ag (ax (i:=3) y3.nd rfl (Or.inl rfl) (aJ G hr rfl mC F.kp bC .nil aB (aa (dZ kF (pv 0) (eu ah) gm) (aa (dZ kF (pv 1) gm (eu (pv 2))) af))))
    (ag (ax (i:=4) y3.nd rfl (Or.inl rfl) (aJ G hr rfl mC F.kp bC .nil aB (aa (dZ kF (pv 0) (eu ah) gm) (aa (dZ kF (pv 1) (eu (pv 2)) gm) af))))
    (ag (bF (fv (aJ gS TY rfl mS kS bS .nil aB (aa (pv 3) (aa (pv 4) af)))) (aq (aK (pv 3))) aY)
    (aq (aK (dE (aa (aS (r:=dt K) bz (pv 0) ah (λ_ _=>rfl)) (aa (pv 3) (aa (pv 4) af)))))))))),?_⟩
   refine ⟨_,rfl,(by show 0<=sizeLine; decide),λe0 TZ=>?_⟩
   have s1:aj H (upd H e0 (.lst [])):=aj.ar TZ
   have q1:(upd H e0 (.lst [])) e0=some (.lst []):=ae
   generalize upd H e0 (.lst [])=H1 at s1 q1 ⊢
   refine ⟨p,e0,_,rfl,rfl,ay.of (s1 _ _ hp),ay.of q1,_,rfl,?_⟩
   cases names with
   | nil=>
    match bs,hlen with
    | [b],_=>
     refine bY rfl ⟨_,rfl,q,_,0,_,rfl,rfl,ay.of (s1 _ _ hq),aF (j:=0) rfl,rfl,kk _ H1 s1 ?_⟩
     cases b <;> rfl
   | cons n r=>
    rw [List.length_cons] at hd n8 hlen
    have AD:=vz r.length
    have WX:=Nat.pow_succ 2 r.length
    have hh:bs.length / 2=2 ^ r.length:=by rw [hlen,AD]
    refine bJ rfl ⟨_,rfl,q,_,rfl,.inl (ay.of (s1 _ _ hq)),_,_,rfl,rfl,⟨by decide,by decide⟩,?_⟩
    have eh:V.int ((((bs.map bV).length:Nat):Int) / 2)=V.int ((2 ^ r.length:Nat):Int):=by rw [List.length_map,← hh]; rfl
    show dm 2 (V.int ((((bs.map bV).length:Nat):Int) / 2)) _ _ _
    rw [eh]
    have hle:2 ^ r.length<=(bs.map bV).length:=by rw [List.length_map]; omega
    have n1:d4 ((n::r).map V.str) (some 1) none=r.map V.str:=vB (k:=1) (by rw [List.length_map,List.length_cons]; omega)
    have M9:r.length<=8:=by omega
    refine ⟨_,rfl,_,rfl,p,_,rfl,ay.of (s1 _ _ hp),λp2 iK=>?_⟩
    rw [n1]
    have s2:aj H1 (upd H1 p2 (.lst (r.map V.str))):=aj.ar iK
    have q2:(upd H1 p2 (.lst (r.map V.str))) p2=some (.lst (r.map V.str)):=ae
    show lI _ _ _ (upd H1 p2 (.lst (r.map V.str))) _
    generalize upd H1 p2 (.lst (r.map V.str))=H2 at s2 q2 ⊢
    have sZ:=s1.trans s2
    refine ⟨_,rfl,_,rfl,_,rfl,q,_,rfl,ay.of (sZ _ _ hq),λb2 T3=>?_⟩
    rw [IA hle,← List.map_take]
    have s3:aj H2 (upd H2 b2 (.lst ((bs.take (2 ^ r.length)).map bV))):=aj.ar T3
    have q3:(upd H2 b2 (.lst ((bs.take (2 ^ r.length)).map bV))) b2=some (.lst ((bs.take (2 ^ r.length)).map bV)):=ae
    refine ⟨p2,b2,r,bs.take (2 ^ r.length),rfl,s3 _ _ q2,q3,by omega,M9,by rw [List.length_take]; omega,λv1 H4 s4 r1=>?_⟩
    have IB:=(sZ.trans s3).trans s4
    refine ⟨_,rfl,_,rfl,p,_,rfl,ay.of (IB _ _ hp),λp5 Ay=>?_⟩
    rw [n1]
    have s5:aj H4 (upd H4 p5 (.lst (r.map V.str))):=aj.ar Ay
    have q5:(upd H4 p5 (.lst (r.map V.str))) p5=some (.lst (r.map V.str)):=ae
    show lI _ _ _ (upd H4 p5 (.lst (r.map V.str))) _
    generalize upd H4 p5 (.lst (r.map V.str))=H5 at s5 q5 ⊢
    have T4:=IB.trans s5
    refine ⟨_,rfl,_,rfl,_,rfl,q,_,rfl,ay.of (T4 _ _ hq),λb6 T5=>?_⟩
    rw [vB hle,← List.map_drop]
    have s6:aj H5 (upd H5 b6 (.lst ((bs.drop (2 ^ r.length)).map bV))):=aj.ar T5
    have q6:(upd H5 b6 (.lst ((bs.drop (2 ^ r.length)).map bV))) b6=some (.lst ((bs.drop (2 ^ r.length)).map bV)):=ae
    refine ⟨p5,b6,r,bs.drop (2 ^ r.length),rfl,s6 _ _ q5,q6,by omega,M9,by rw [List.length_drop]; omega,λv2 H7 s7 r2=>?_⟩
    have Na:=(s5.trans s6).trans s7
    have Br:=IB.trans Na
    have IC:=r1.keep (eJ Na)
    have c1:=eZ (eW r (bs.take (2 ^ r.length)))
    refine ⟨_,rfl,_,rfl,_,_,_,_,rfl,IC,r2,by omega,_,rfl,?_⟩
    have ec:=rL n r bs
    rw [hh] at ec
    by_cases e:cn r (bs.take (2 ^ r.length))=cn r (bs.drop (2 ^ r.length))
    . refine bY (decide_eq_true e) ⟨_,rfl,kk v1 H7 Br ?_⟩
      rw [ec,if_pos e]
      exact IC
    . refine bJ (decide_eq_false e) ?_
      refine ⟨_,rfl,p,_,0,_,rfl,rfl,ay.of (Br _ _ hp),aF (j:=0) rfl,_,rfl,_,rfl,(by show 3<=sizeLine; decide),λt ht=>?_⟩
      have s8:aj H7 (upd H7 t (.tup [.str n,v1,v2])):=aj.ar ht
      refine kk (.ref t) _ (Br.trans s8) ?_
      rw [ec,if_neg e]
      exact ⟨t,v1,v2,rfl,ae,IC.keep (eJ s8),r2.keep (eJ s8)⟩
end
end Gen
namespace PySem
section
theorem Bs:typeLookup (.type "list_reverseiterator") "__len__" = pure none:=by rw [typeLookup_type,builtinLookup_eq_fast]; kernel_rfl
theorem CL:typeLookup (.type "list_reverseiterator") "__length_hint__" = pure (some (.builtin "list_reverseiterator.__length_hint__")):=by rw [typeLookup_type,builtinLookup_eq_fast]; kernel_rfl
variable {prog:Program}{w:World}{A:Around}{s:Shared}{R:Result->Shared->Prop}
variable {I:Addr}{fp wr:List Addr}{G:Array GenState->Array GenState->Prop}{n:Nat}{P:Nat->Value->Prop}{St:Nat->Shared->Prop}
theorem y4 (W:WalksS prog w A.in1 I fp wr G n P St) (hT:∀i s,St i s->s.TypeIs (.ref I) "list_reverseiterator") (S:Addr) (res:Value) (c₀:Nat) (jL:St 0 s) (vC:S∉fp) (hI:I∈fp)
 (hS:s.heap.get? S=some { cls:=.type "list",data:=.seq #[] c₀ })
 (hR:∀s' cX c',Moved (S::wr) G s s'->s'.heap.get? S=some { cls:=.type "list",dict:=none,data:=.seq cX c',slots:=#[] } -> ItemsOf P cX n->R (.ok (.ret res)) s') (hn:n<=sizeLine) :
 wpAny (model prog w) A.in1 (Builtin.List.listExtendWith (.ref S) (.ref I) res)
  (λfin s'=>match fin with | .done f=>R (.ok f) s' | .again c'=>c'.quiet=true/\codeAny (model prog w) A c' R s') (λe s'=>R (.error e) s') s:=by
 have T6:S≠I:=λe=>vC (e ▸ hI)
 unfold Builtin.List.listExtendWith
 refine wpAny_bind (wpAny_typeOf (hT 0 _ jL) ?_)
 have h1:Builtin.List.listSameRef (.ref S) (.ref I)=false:=by simp [Builtin.List.listSameRef,T6]
 have h2:(Value.type "list_reverseiterator" == Value.type "list")=false:=by decide
 have h3:(Value.type "list_reverseiterator" == Value.type "tuple")=false:=by decide
 rw [if_neg (by rw [h1]; decide)]
 refine wpAny_bind (W.self 0 _ _ _ jL ?_)
 refine wpAny_bind (wpAny_holding ?_)
 unfold Builtin.List.listLengthHint
 refine wpAny_bind (wpAny_specialOf (hT 0 _ jL) Bs ?_)
 show wpAny _ A.in1 (specialOf (Value.ref I) (Str.ofString "__length_hint__") >>= _) _ _ _
 refine wpAny_bind (wpAny_specialOf (hT 0 _ jL) CL ?_)
 generalize Bt:("list_reverseiterator.__length_hint__" : String)=T7
 wp_delta
 rw [show splitId T7=some ("list_reverseiterator", "__length_hint__") from by subst Bt; decide +kernel]
 subst Bt
 refine wpAny_bind (wpAny_isInstance (b:=true) (hT 0 _ jL) (by rw [isSubtype_type]; kernel_rfl) ?_)
 refine wpAny_pure ?_
 rw [if_neg (by decide)]
 exact wpAny_pure ⟨plainId_quiet F.plain_extend_loop _,codeAny_extend_loopS W hn _ vC _ n 0 _ _ _ rfl (Nat.zero_le _) jL hS (ItemsOf.nil P) λs' cX c' hm vD lX=>hR s' cX c' hm vD lX⟩
theorem CM (W:WalksS prog w A.in1 I fp wr G n P St) (hT:∀i s,St i s->s.TypeIs (.ref I) "list_reverseiterator") (S:Addr) (jL:St 0 s) (vC:S∉fp) (hI:I∈fp)
 (hS:s.heap.get? S=some { cls:=.type "list",data:=.seq #[] })
 (hR:∀s' cX c',Moved (S::wr) G s s'->s'.heap.get? S=some { cls:=.type "list",dict:=none,data:=.seq cX c',slots:=#[] } -> ItemsOf P cX n->R (.ok (.ret .none)) s') (hn:n<=sizeLine) :
 wpAny (model prog w) A.in1 (Builtin.«list.__init__» ⟨[.ref S,.ref I],[]⟩)
  (λfin s'=>match fin with | .done f=>R (.ok f) s' | .again c'=>c'.quiet=true/\codeAny (model prog w) A c' R s') (λe s'=>R (.error e) s') s:=by
 show wpAny _ A.in1 (do let old ← Builtin.List.listItems (.ref S); Builtin.List.listUpdate (.ref S) (λ_=>#[]); letGo old.toList.reverse; Builtin.List.listExtendWith (.ref S) (.ref I) .none) _ _ s
 refine wpAny_bind ?_
 unfold Builtin.List.listItems
 refine wpAny_bind (wpAny_seqItems hS rfl (wpAny_pure ?_))
 show wpAny _ A.in1 (updateSeq S (λ_=>#[]) >>= λ_=>letGo (#[]:Array Value).toList.reverse >>= λ_=>Builtin.List.listExtendWith (.ref S) (.ref I) .none) _ _ s
 refine wpAny_bind (wpAny_updateSeq hS rfl ?_)
 have T8:=Heap.get?_update_self (Obj.mapSeq (λ_=>(#[]:Array Value))) hS rfl
 have Nb:∀b o,b≠S->s.heap.get? b=some o->(s.heap.update S (Obj.mapSeq (λ_=>(#[]:Array Value)))).get? b=some o:=
  λb o hb e=>(Heap.get?_update_other _ _ (Ne.symm hb)).trans e
 refine wpAny_bind (wpAny_letGo ?_)
 refine y4 W hT S .none _ (W.frame 0 s _ s.toks jL (Nat.le_refl _) λb hb o e=>Nb b o (λh=>vC (h ▸ hb)) e) vC hI T8 (λs' cX c' hm vD lX=>?_) hn
 exact hR s' cX c' (Moved.trans W.gtrans ((Moved.refl W.grefl).then_heap (Nat.le_refl _) λb o hb e=>Nb b o (λh=>hb (h ▸ List.mem_cons_self)) e) hm) vD lX
theorem CN {E:Value->Shared->Prop}{Q:Value->Shared->Prop}(W:WalksS prog w A.in1.in1 I fp wr G n P St) (hT:∀i s,St i s->s.TypeIs (.ref I) "list_reverseiterator") (jL:St 0 s) (T9:∀b∈fp,b<s.heap.objs.size) (hI:I∈fp)
 (hQ:∀s' cX c',Moved (s.heap.objs.size::wr) G { s with heap:=s.heap.push { cls:=.type "list",data:=.seq #[] } } s'->
  s'.heap.get? s.heap.objs.size=some { cls:=.type "list",dict:=none,data:=.seq cX c',slots:=#[] } -> ItemsOf P cX n->Q (.ref s.heap.objs.size) s') (hn:n<=sizeLine) :
 wpAny (model prog w) A (call (.type "list") [.ref I]) Q E s:=by
 have vC:s.heap.objs.size∉fp:=λhm=>Nat.lt_irrefl _ (T9 _ hm)
 refine callType_codes (Q₁:=λobj cE=>obj=.ref s.heap.objs.size/\cE = { s with heap:=s.heap.push { cls:=.type "list",data:=.seq #[] } }) F.called_list (F.typeCall_list_1 _) F.entry_list_init
  (code_list_new _ ⟨rfl,rfl⟩) λobj cE jn=>?_
 obtain ⟨rfl,rfl⟩:=jn
 have hS:(s.heap.push { cls:=.type "list",data:=.seq #[] }).get? s.heap.objs.size=some { cls:=.type "list",data:=.seq #[] }:=Heap.get?_push_size _ rfl
 refine ⟨⟨_,hS,rfl⟩,F.args_list_init_2 _ _,CM W hT _ (W.frame 0 s _ s.toks jL (Nat.le_refl _) λb _ o e=>Heap.get?_push_of_some _ e) vC hI hS (λs' cX c' hm vD lX=>?_) hn⟩
 exact ⟨rfl,hQ s' cX c' hm vD lX⟩
end
end PySem
namespace L2
open PySem PySem.Spec PyProof.Rows
section
variable {X:Cx}
theorem vE:∀{xs:List V}{us:List Value},Vals xs us->Vals xs.reverse us.reverse
 | _,_,.nil=>.nil
 | _,_,.cons h t=>by
  rw [List.reverse_cons,List.reverse_cons]
  exact (vE t).append (.cons h .nil)
def Pf (K:W.Frag) (ta:TA):TE:=λσ H Q=>ta σ H λvs H1=>∃p ys,vs=[.ref p]/\ay K H1 p ys/\∀l,H1 l=none->Q (.ref l) (upd H1 l (.lst ys.reverse))
theorem ID {a:Expr}{ta:TA}{p1 p2 pos vF:Pos}(Ua:Gl X "list") (Ub:X.mg "list" = none) (Uc:Gl X "reversed") (Ud:X.mg "reversed" = none) (hc:X.calm=true) (ha:PA X [a] ta)
 (hs:starEach [Expr.Call (.Name "reversed" p2) [a] [] vF] X.env=(false,eval (Expr.Call (.Name "reversed" p2) [a] [] vF) X.env)::starEach [] X.env:=by rfl) (jN:(backTo pos (starEach [] X.env)).any (·.1)=false:=by rfl)
 (jM:starEach [a] X.env=(false,eval a X.env)::starEach [] X.env:=by rfl) (iK:(backTo vF (starEach [] X.env)).any (·.1)=false:=by rfl) :
 PE X (.Call (.Name "list" p1) [.Call (.Name "reversed" p2) [a] [] vF] [] pos) (Pf X.K ta):=by
 intro pins s σ H Q I h
 refine wpAny_Call_Name_kw (iH I Ua Ub PyProof.Rows.boot_list ?_ (by decide) (by decide))
 refine PyProof.Rows.callWith_type1 ?_ hs jN
 rw [hs]
 show wpAny _ _ (spliced ((false,eval _ X.env)::backTo pos (starEach [] X.env))) _ _ s
 refine Calls.spliced_cons ?_
 refine Call_ (iH I Uc Ud PyProof.Rows.boot_reversed (PyProof.Rows.callWith_type1 (aH (ha vF pins s σ H _ I h) λus s1 ⟨vs,H1,I1,r1,q1⟩=>?_) jM iK))
 obtain ⟨p,ys,e,hp,q⟩:=q1
 subst e
 obtain ⟨u,rfl,ru⟩:=vals1 r1
 cases (show u=Value.ref p from ru)
 obtain ⟨its,rv,pl,hz⟩:=I1.list hp
 have hl:=pl.isList
 have dv:p<s1.heap.objs.size:=by obtain ⟨_,e,_⟩:=hl; exact Heap.lt_size e
 refine call_reversed_list hl (Calls.spliced_nil ?_)
 have W:=Walks.listRev (prog:=X.prog) (w:=X.w) (A:=X.A.in1.in1) (by show X.A.handled=none; exact I1.ok.hd hc) s1.heap.objs.size p (Nat.ne_of_lt dv) its.toArray
 have hsz:(s1.heap.push (revObj p ((its.toArray.size:Int)-1))).objs.size=s1.heap.objs.size+1:=by simp [Heap.push]
 have hle:its.toArray.size<=sizeLine:=by rw [List.size_toArray,← rv.length]; exact hz
 refine CN W.toS (λi s x=>x.2.1.typeIs) ⟨Nat.zero_le _,⟨_,Heap.get?_push_size _ rfl,rfl,by simp [revObj]⟩,hl.at λo e=>Heap.get?_push_of_some _ e⟩ (λb hb=>?_) (by simp) (λs' cX c' hm vD lX=>?_) hle
 . show b<(s1.heap.push (revObj p ((its.toArray.size:Int)-1))).objs.size
   rw [hsz]
   simp only [List.mem_cons,List.not_mem_nil,or_false] at hb
   rcases hb with rfl | rfl
   . exact Nat.lt_succ_self _
   . exact Nat.lt_succ_of_lt dv
 . have hS'':s'.heap.get? (s1.heap.objs.size+1)=some { cls:=.type "list",dict:=none,data:=.seq cX c',slots:=#[] }:=by
    have:=vD
    rw [show (s1.heap.push (revObj p ((its.toArray.size:Int)-1))).objs.size=s1.heap.objs.size+1 from hsz] at this
    exact this
   have kk:∀b u,s1.heap.get? b=some u->s'.heap.get? b=some u:=λb u e=>by
    have hb:=Heap.lt_size e
    refine hm.heap b u (λCO=>?_) (Heap.get?_push_of_some _ (Heap.get?_push_of_some _ e))
    rcases List.mem_cons.mp CO with z | CO
    . exact absurd hb (by rw [z.trans hsz]; exact Nat.not_lt.mpr (Nat.le_succ _))
    . exact absurd hb (by rw [List.mem_singleton.mp CO]; exact Nat.lt_irrefl _)
   have ea:cX.toList=its.reverse:=by
    obtain ⟨i1,i2⟩:=lX
    have lj:cX.toList.length=its.length:=by rw [Array.length_toList,i1,List.size_toArray]
    refine List.ext_getElem (by rw [lj,List.length_reverse]) λj g1 g2=>?_
    have:=i2 j cX.toList[j] (by rw [← Array.getElem?_toList]; exact List.getElem?_eq_getElem g1)
    rw [List.size_toArray,List.getElem?_toArray] at this
    have hj:j<its.length:=by omega
    rw [List.getElem_reverse]
    rw [List.getElem?_eq_getElem (by omega)] at this
    exact (Option.some.inj this).symm
   have rr:Vals ys.reverse cX.toList:=by rw [ea]; exact vE rv
   rw [Moved.eq_with hm]
   refine ⟨.ref (s1.heap.objs.size+1),_,I1.laid (a:=s1.heap.objs.size+1) (t':=s'.toks) kk (Nat.le_succ _) (show bg X.prog X.w _ s'.heap _ (.lst ys.reverse) from ⟨by rw [List.length_reverse]; exact hz,cX.toList,c',rr,by simpa using hS''⟩),?_,q _ (I1.hok.fresh (Nat.le_succ _))⟩
   show Value.ref _=Value.ref _
   rw [hsz]
end
end L2
namespace Gen
open PySem L2
abbrev fJ:Stmt:=top 14
abbrev jf:Stmt:=top 15
abbrev oB:Stmt:=top 16
theorem IE (i:Int):∃b:Bool,V.int (Builtin.bitAnd i 1)=bV b:=by
 by_cases h:0<=i
 . refine ⟨decide (i.toNat % 2=1),?_⟩
   rw [PyProof.Rows.bitAnd_pp h (by decide),show (1:Int).toNat=1 from rfl,Nat.and_one_is_mod]
   unfold bV
   rcases Nat.mod_two_eq_zero_or_one i.toNat with e | e <;> rw [e] <;> rfl
 . refine ⟨decide ((Builtin.bitNot i).toNat % 2=0),?_⟩
   rw [PyProof.Rows.bitAnd_np h (by decide),show (1:Int).toNat=1 from rfl,Nat.and_comm,Nat.and_one_is_mod]
   unfold bV
   rcases Nat.mod_two_eq_zero_or_one (Builtin.bitNot i).toNat with e | e <;> rw [e] <;> rfl
theorem KD (i:Int):∃d:Nat,d<2/\Builtin.bitAnd i 1=(d:Int):=by
 obtain ⟨b,h⟩:=IE i
 have:=V.int.inj h
 cases b
 . exact ⟨0,by decide,this⟩
 . exact ⟨1,by decide,this⟩
theorem Fx {x:Str}(h:eF x):PyData.strOk x=true:=by
 unfold PyData.strOk
 rw [Array.all_eq_true']
 refine λc hc=>decide_eq_true ?_
 have:=oK.mp (h.2.2 c (Array.mem_toList_iff.mpr hc))
 omega
def vG (K:W.Frag):Sp:=λvs H Q _=>∃(a:Addr) (ns:List Int) (k:Int),vs=[.ref a,.int k]/\ay K H a (ns.map V.int)/\0<=k/\k<=1000/\∀v:Int,Q (.int v) H
def qR:Sp:=λvs H Q _=>∃(x:Int) (n:Nat),vs=[.int x,.int (n:Int)]/\n<=8/\∀(q:Addr) (bs:List Bool) (H':Hp),aj H H'->H q=none->H' q=some (.lst (bs.map bV))->bs.length=2 ^ n->Q (.ref q) H'
def xJ (K:W.Frag):Sp:=λvs H Q _=>∃(a:Addr) (ns:List Int),vs=[.ref a]/\ay K H a (ns.map V.int)/\∀(l:Addr) (names:List Str) (H':Hp),aj H H'->H l=none->Ord H' l names->Q (.ref l) H'
theorem Pg:(["_law_place_here", "_law_number_here"]:List Str).Nodup:=by decide +kernel
theorem Ph:(["_law_place_here"]:List Str).Nodup:=by decide +kernel
theorem nV {n:Nat}(h:n<=8):2 ^ n<=256:=Nat.pow_le_pow_right (by decide) h
theorem pow_int (n:Nat):(1:Int)*2 ^ ((n:Int)).toNat=((2 ^ n:Nat):Int):=by rw [Int.one_mul,Int.toNat_natCast]; exact (Int.natCast_pow 2 n).symm
section
variable {P:Program}{w:World}{K:W.Frag}{mg:Str->Option Value}{base:Heap}
theorem y9:aZ ["_law_script", "_law_k", "_law_number_here"] ["_law_script", "_law_k"] (ao jf):=⟨rfl,rfl,rfl,by decide +kernel,rfl,by decide +kernel,by decide +kernel⟩
theorem Bu {f fC fR:Addr}{fd dC dR:FuncData}(F:cw K "_law_number" "_law_number" jf f fd)
 (gC:av P w K mg base aE 1 fC dC ["_law_script", "_law_k"] (qv K)) (mC:mg "_law_cell_at" = some (.ref fC)) (kC:W.keepIn K (.ref fC)=true) (bC:Binds K dC ["_law_script", "_law_k"] [])
 (gR:av P w K mg base aE 2 fR dR ["_law_cell", "_law_k"] qw) (mR:mg "_law_rich" = some (.ref fR)) (kR:W.keepIn K (.ref fR)=true) (bR:Binds K dR ["_law_cell", "_law_k"] []):av P w K mg base aE 3 f fd ["_law_script", "_law_k"] (vG K):=by
 refine F.ok y9 (λvs H Q E h=>?_) (λcdv A outer s H vs Q E hr h=>?_)
 . obtain ⟨a,ns,k,rfl,_⟩:=h
   rfl
 . obtain ⟨a,ns,k,rfl,ha,k0,k1,kk⟩:=h
   have ef:bw 1 _:=hr.mono (by decide)
   refine ⟨_,ag (ax (i:=2) y9.nd rfl (Or.inl rfl) (aJ gC ef rfl mC kC bC .nil aB (aa (pv 0) (aa (pv 1) af))))
    (ag (bF (bj dX (aD gF (aJ gC ef rfl mC kC bC .nil aB (aa (pv 0) (aa ah af))) ah) ah (br _)) (aq (ax (i:=2) y9.nd rfl (Or.inl rfl) (aJ gR hr rfl mR kR bR .nil aB (aa (pv 2) (aa (pv 1) af))))) aY)
    (aq (aK (pv 2)))),?_⟩
   refine ⟨_,rfl,_,rfl,a,ns,k,rfl,ha,k0,λx=>?_⟩
   refine ⟨_,rfl,a,ns,0,rfl,ha,by decide,λc=>⟨_,_,rfl,rfl,(by show (0:Int)<2; decide),rfl,_,rfl,?_⟩⟩
   exact jt (λ_=>⟨_,rfl,_,rfl,_,k,rfl,k0,k1,λz=>⟨_,rfl,kk z⟩⟩) (λ_=>⟨_,rfl,kk x⟩)
abbrev Ue:List Str:=["_law_number_here", "_law_many", "_law_bits_here", "_law_k"]
abbrev tf:List Str:=["_law_number_here", "_law_many"]
theorem za:aZ Ue tf (ao oB):=⟨rfl,rfl,rfl,by decide +kernel,rfl,by decide +kernel,by decide +kernel⟩
theorem Fy {f:Addr}{fd:FuncData}(F:cw K "_law_bits" "_law_bits" oB f fd) (O:Own mg):av P w K mg base aE 1 f fd tf qR:=by
 refine F.ok za (λvs H Q E h=>?_) (λcdv A outer s H vs Q E hr h=>?_)
 . obtain ⟨x,n,rfl,_⟩:=h
   rfl
 . obtain ⟨x,n,rfl,n8,kk⟩:=h
   refine ⟨_,ag (bF (bj lH (pv 1) ah (br _)) (aq (aK (eE (N:=["_law_place_here", "_law_number_here"]) (js:=[none,some 0]) (by kernel_rfl) rfl (cV rfl O.range (aa (aD ua ah (pv 1)) af)) (λ_ _ _ _ _ _=>aQ (i:=0) Pg rfl (Or.inl rfl) (.inr rfl)) (λ_ _ _ _ _ _=>cI)
    (λ_ _ _ _ _ _=>aD nc (aD ku (pv 1) (pv 0)) ah)))) aY)
    (ag (Ds (i:=2) (N:=["_law_place_here"]) (js:=[none]) za.nd rfl rfl (by kernel_rfl) rfl (cV rfl O.range (aa (aD ua ah (pv 1)) af)) (λ_ _ _ _ _ _=>aQ (i:=0) Ph rfl (Or.inl rfl) (.inr rfl)) (λ_ _ _ _ _ _=>cI)
     (λ_ _ _ _ _ _=>ah))
    (ag (d9 PassesOwn.never rfl (cV rfl O.range (aa ah af)) (aQ (i:=3) za.nd rfl (Or.inl rfl))
     (ag (zz ah (zy (pv 2) (aD gF (pv 0) (aU aV (by rfl) O.len PySem.boot_len (aa (pv 2) af))) set_list))
     (aq (ax (i:=0) za.nd rfl (Or.inr rfl) (aD kr (pv 0) (aU aV (by rfl) O.len PySem.boot_len (aa (pv 2) af)))))))
    (aq (aK (pv 2))))),?_⟩
   have hp:=nV n8
   have IF:0<2 ^ n:=Nat.two_pow_pos n
   have DU:=pow_int n
   have Ug:∃j:Int,(1:Int)*2 ^ ((n:Int)).toNat=j /\ -(2 ^ 62)<=j/\j<2 ^ 62/\j.toNat=2 ^ n:=⟨_,DU,Int.le_trans (by decide : -(2 ^ 62)<=(0:Int)) (by omega),Int.lt_of_le_of_lt (by omega:((2 ^ n:Nat):Int)<=256) (by decide),by omega⟩
   obtain ⟨j,ej,j1,j2,j3⟩:=Ug
   refine ⟨_,rfl,_,_,rfl,rfl,_,rfl,?_⟩
   refine jt (λ_=>?_) (λ_=>?_)
   . refine ⟨_,rfl,_,_,rfl,rfl,⟨by omega,by omega,by decide⟩,_,rfl,by rw [ej]; exact j1,by rw [ej]; exact j2,λD hD=>?_⟩
     rw [ej,j3]
     refine fQ (2 ^ n) (λi acc σ H3=>(∃bs:List Bool,acc=bs.map bV/\bs.length=i)/\(∃u,σ=[u,some (.int x)])/\aj H H3) ⟨⟨[],rfl,rfl⟩,⟨none,rfl⟩,aj.ar hD⟩ ae ?_ ?_
     . rintro acc σ H3 cP ⟨⟨bs,rfl,jG⟩,_,s3⟩
       exact ⟨Nat.le_refl _,kk D bs H3 s3 hD cP jG⟩
     . rintro i acc σ H3 hi cP ⟨⟨bs,rfl,jG⟩,⟨u,rfl⟩,s3⟩
       refine ⟨hi,?_⟩
       rintro y H' ⟨rfl,rfl⟩
       refine dM ?_
       refine ⟨_,rfl,_,rfl,_,_,rfl,rfl,(by show (0:Int)<=0+(i:Int); omega),_,_,rfl,rfl,?_⟩
       obtain ⟨b,hb⟩:=IE (x / 2 ^ (0+(i:Int)).toNat)
       refine ⟨_,cP,(by rw [List.length_map]; exact small (by omega)),cJ hi ae ⟨⟨bs++[b],by rw [List.map_append]; exact congrArg (bs.map bV++[·]) hb,by rw [List.length_append,jG]; rfl⟩,⟨_,rfl⟩,λc o hc=>?_⟩⟩
       rw [ai (ab hc hD)]
       exact s3 _ _ hc
   . refine ⟨_,rfl,_,_,rfl,rfl,⟨by omega,by omega,by decide⟩,_,rfl,by rw [ej]; exact j1,by rw [ej]; exact j2,λD hD=>?_⟩
     rw [ej,j3]
     refine fQ (2 ^ n) (λi acc σ H3=>(∃bs:List Bool,acc=bs.map bV/\bs.length=i)/\(∃u,σ=[u])/\aj H H3) ⟨⟨[],rfl,rfl⟩,⟨none,rfl⟩,aj.ar hD⟩ ae ?_ ?_
     . rintro acc σ H3 cP ⟨⟨bs,rfl,jG⟩,_,s3⟩
       refine ⟨Nat.le_refl _,?_⟩
       refine ⟨_,rfl,by decide,by decide,eL (n:=6) (λi σ Hi=>∃(y:Int) (v3:Option V) (cs:List Bool),σ=[some (.int y),some (.int (n:Int)),some (.ref D),v3]/\Hi D=some (.lst (cs.map bV))/\cs.length=2 ^ n/\aj H Hi) ⟨x,none,bs,rfl,cP,jG,s3⟩ ?_ ?_⟩
       . rintro i σ Hi hi ⟨y,v3,cs,rfl,qS,dF,si⟩
         have hlen:(((cs.map bV).length:Nat):Int)=((2 ^ n:Nat):Int):=by rw [List.length_map,dF]
         have l0:(0:Int)<(((cs.map bV).length:Nat):Int):=by rw [hlen]; omega
         have l1:(((cs.map bV).length:Nat):Int)<1073741824:=by rw [hlen]; omega
         have Nc:=Int.emod_nonneg y (Int.ne_of_gt l0)
         have WY:=Int.emod_lt_of_pos y l0
         refine ⟨_,rfl,_,rfl,_,rfl,D,_,rfl,.inl (ay.of qS),_,_,rfl,rfl,l0,D,_,_,(y % (((cs.map bV).length:Nat):Int)).toNat,rfl,rfl,qS,?_,?_⟩
         . unfold sv
           rw [if_pos Nc,if_pos (by omega)]
         have q2:(upd Hi D (.lst ((cs.map bV).set (y % (((cs.map bV).length:Nat):Int)).toNat (.int 1)))) D=some (.lst ((cs.set (y % (((cs.map bV).length:Nat):Int)).toNat true).map bV)):=by rw [ae,List.map_set]; rfl
         have s2:aj H (upd Hi D (.lst ((cs.map bV).set (y % (((cs.map bV).length:Nat):Int)).toNat (.int 1)))):=λc o hc=>by rw [ai (ab hc hD)]; exact si _ _ hc
         generalize upd Hi D (.lst ((cs.map bV).set (y % (((cs.map bV).length:Nat):Int)).toNat (.int 1)))=H2 at q2 s2 ⊢
         have fg:(cs.set (y % (((cs.map bV).length:Nat):Int)).toNat true).length=2 ^ n:=by rw [List.length_set]; exact dF
         generalize cs.set (y % (((cs.map bV).length:Nat):Int)).toNat true=DV at q2 fg
         refine ⟨_,rfl,_,rfl,D,_,rfl,.inl (ay.of q2),_,_,rfl,rfl,⟨by rw [List.length_map,fg]; omega,by rw [List.length_map,fg]; omega⟩,?_⟩
         exact ⟨_,_,DV,rfl,q2,fg,s2⟩
       . rintro σ Hi ⟨y,v3,cs,rfl,qS,dF,si⟩
         exact ⟨_,rfl,kk D cs Hi si hD qS dF⟩
     . rintro i acc σ H3 hi cP ⟨⟨bs,rfl,jG⟩,⟨u,rfl⟩,s3⟩
       refine ⟨hi,?_⟩
       rintro y H' ⟨rfl,rfl⟩
       refine dM ?_
       refine ⟨_,cP,(by rw [List.length_map]; exact small (by omega)),cJ hi ae ⟨⟨bs++[false],by rw [List.map_append]; rfl,by rw [List.length_append,jG]; rfl⟩,⟨_,rfl⟩,λc o hc=>?_⟩⟩
       rw [ai (ab hc hD)]
       exact s3 _ _ hc
abbrev IG:List Str:=["_law_script", "_law_number_here", "_law_left", "_law_names", "_law_many", "_law_k"]
theorem nX:aZ IG ["_law_script"] (ao fJ):=⟨rfl,rfl,rfl,by decide +kernel,rfl,by decide +kernel,by decide +kernel⟩
end
end Gen
namespace Gen
open PySem L2
section
variable {P:Program}{w:World}{K:W.Frag}{mg:Str->Option Value}{base:Heap}
theorem CP {f fC fR fP fS:Addr}{fd dC dR dP dS:FuncData}(F:cw K "_law_order" "_law_order" fJ f fd) (O:Own mg)
 (gC:av P w K mg base aE 1 fC dC ["_law_script", "_law_k"] (qv K)) (mC:mg "_law_cell_at" = some (.ref fC)) (kC:W.keepIn K (.ref fC)=true) (bC:Binds K dC ["_law_script", "_law_k"] [])
 (gR:av P w K mg base aE 2 fR dR ["_law_cell", "_law_k"] qw) (mR:mg "_law_rich" = some (.ref fR)) (kR:W.keepIn K (.ref fR)=true) (bR:Binds K dR ["_law_cell", "_law_k"] [])
 (gP:av P w K mg base aE 1 fP dP ["_law_left", "_law_many"] qx) (mP:mg "_law_pick" = some (.ref fP)) (kP:W.keepIn K (.ref fP)=true) (bP:Binds K dP ["_law_left", "_law_many"] [])
 (gS:av P w K mg base aE 2 fS dS ["_law_left", "_law_told"] (rC K)) (mS:mg "_law_spelt" = some (.ref fS)) (kS:W.keepIn K (.ref fS)=true) (bS:Binds K dS ["_law_left", "_law_told"] []):av P w K mg base aE 3 f fd ["_law_script"] (xJ K):=by
 refine F.ok nX (λvs H Q E h=>?_) (λcdv A outer s H vs Q E hr h=>?_)
 . obtain ⟨a,ns,rfl,_⟩:=h
   rfl
 . obtain ⟨a,ns,rfl,ha,kk⟩:=h
   have ef:bw 1 _:=hr.mono (by decide)
   obtain ⟨tA,hA,rA⟩:∃t,jh (lJ aE P w K mg base IG "_law_order" (ao fJ) f cdv A outer s H E).tY ((aN fJ).drop 6) t/\
    ∀(x:V) (l nm:Addr) (xs:List V) (many:Nat) (H1:Hp),many<=8->aj H H1->H l=none->H nm=none->l≠nm->H1 l=some (.lst xs)->lQ xs->H1 nm=some (.lst [])->t { nx:=λ_ H'=>Q .aX H',rt:=Q } [some (.ref a),some x,some (.ref l),some (.ref nm),some (.int (many:Int)),none] H1:=by
    refine ⟨_,ag (d9 PassesOwn.never rfl (cV rfl O.range (aa (pv 4) af)) (aQ (i:=5) nX.nd rfl (Or.inl rfl))
     (aq (jb (lM PySem.F.plainAttrs_list PySem.F.slot_list_append PySem.F.type_list_append gq (pv 3) (aa (aJ gS hr rfl mS kS bS .nil aB (aa (pv 2) (aa (pv 3) af))) af)))))
     (aq (aK (pv 3))),?_⟩
    intro x l nm xs many H1 hm s1 hl my nl lj GN Uh
    refine ⟨_,rfl,_,rfl,Int.le_trans (by decide : -(2 ^ 62)<=(0:Int)) (by omega),Int.lt_of_le_of_lt (by omega:((many:Nat):Int)<=256) (by decide),eL (n:=((many:Int)).toNat) (λi σ Hi=>∃(v5:Option V) (ys:List V) (names:List Str),σ=[some (.ref a),some x,some (.ref l),some (.ref nm),some (.int (many:Int)),v5]/\aj H Hi/\Hi l=some (.lst ys)/\lQ ys/\Hi nm=some (.lst (names.map V.str))/\names.length=i/\names.Nodup/\∀z∈names,eF z) ⟨none,xs,[],rfl,s1,lj,GN,Uh,rfl,List.nodup_nil,λ_ h=>nomatch h⟩ ?_ ?_⟩
    . rintro i σ Hi hi ⟨v5,ys,names,rfl,si,Nf,DU,h9,hlen,iZ,CQ⟩
      rw [Int.toNat_natCast] at hi
      refine ⟨_,rfl,.inl ⟨rfl,_,ay.of h9⟩,_,rfl,_,rfl,l,nm,ys,names,rfl,Nf,DU,Ne.symm nl,ay.of h9,by omega,λz qB H2 hz Ui iK fg k2=>?_⟩
      have ml:=k2 _ _ h9 (Ne.symm nl)
      refine ⟨nm,_,_,rfl,rfl,ml,(by rw [List.length_map]; exact small (by omega)),?_⟩
      refine ⟨_,qB,names++[z],rfl,λc o hc=>?_,(ai nl).trans fg,iK,by rw [ae,List.map_append]; rfl,by rw [List.length_append,hlen]; rfl,?_,λy hy=>?_⟩
      . rw [ai (ab hc my)]
        exact k2 _ _ (si _ _ hc) (ab hc hl)
      . rw [List.nodup_append]
        exact ⟨iZ,List.pairwise_singleton _ _,λp hp q hq=>by rw [List.mem_singleton] at hq; rw [hq]; exact λe=>Ui (e ▸ hp)⟩
      . rcases List.mem_append.mp hy with hy | hy
        . exact CQ y hy
        . rw [List.mem_singleton.mp hy]
          exact hz
    . rintro σ Hi ⟨v5,ys,names,rfl,si,Nf,DU,h9,hlen,iZ,CQ⟩
      rw [Int.toNat_natCast] at hlen
      exact ⟨_,rfl,kk nm names Hi si my ⟨h9,iZ,λz hz=>Fx (CQ z hz),by omega⟩⟩
   obtain ⟨tB,hB,rB⟩:∃t,jh (lJ aE P w K mg base IG "_law_order" (ao fJ) f cdv A outer s H E).tY ((aN fJ).drop 2) t/\
    ∀(x:Int),t { nx:=λ_ H'=>Q .aX H',rt:=Q } [some (.ref a),some (.int x),none,none,none,none] H:=by
    refine ⟨_,ag (ax (i:=2) nX.nd rfl (Or.inl rfl) (fw (aa (pv 1) af)))
     (ag (ax (i:=3) nX.nd rfl (Or.inl rfl) (fw af))
     (ag (ax (i:=4) nX.nd rfl (Or.inl rfl) (aJ gP ef rfl mP kP bP .nil aB (aa (pv 2) (aa ah af))))
     (ag (bF (bj dX (pv 4) ah (br _)) (aq (ax (i:=4) nX.nd rfl (Or.inl rfl) (aD dw ah (aJ gP ef rfl mP kP bP .nil aB (aa (pv 2) (aa ah af)))))) aY) hA))),?_⟩
    intro x
    refine ⟨_,rfl,(by show 1<=sizeLine; decide),λl hl=>?_⟩
    have q1:(upd H l (.lst [.int x])) l=some (.lst [.int x]):=ae
    have s1:aj H (upd H l (.lst [.int x])):=aj.ar hl
    show dj _ _ _ _ (upd H l (.lst [.int x]))
    generalize upd H l (.lst [.int x])=H1 at q1 s1 ⊢
    refine ⟨(by show 0<=sizeLine; decide),λnm my=>?_⟩
    have nl:l≠nm:=ab q1 my
    have q2:(upd H1 nm (.lst [])) nm=some (.lst []):=ae
    have s2:aj H1 (upd H1 nm (.lst [])):=aj.ar my
    have IH:H nm=none:=by
     cases e:H nm with
     | none=>rfl
     | some o=>rw [s1 _ _ e] at my; cases my
    show dj _ _ _ _ (upd H1 nm (.lst []))
    generalize upd H1 nm (.lst [])=H2 at q2 s2 ⊢
    have sZ:=s1.trans s2
    refine ⟨_,rfl,l,_,8,rfl,s2 _ _ q1,.inl ⟨_,rfl⟩,by decide,by decide,λd ys H3 d0 d1 uH xi k3=>?_⟩
    have Ng:=k3 _ _ q2 (Ne.symm nl)
    have mz:aj H H3:=λc o hc=>k3 _ _ (sZ _ _ hc) (ab hc hl)
    obtain ⟨dn,rfl⟩:=Int.eq_ofNat_of_zero_le d0
    refine ⟨_,rfl,rfl,_,rfl,?_⟩
    refine jt (λ_=>?_) (λ_=>?_)
    . refine ⟨_,rfl,l,_,2,rfl,xi,uH,by decide,by decide,λe zs H4 e0 e1 uI uG k4=>?_⟩
      obtain ⟨en,rfl⟩:=Int.eq_ofNat_of_zero_le e0
      refine ⟨_,_,rfl,rfl,?_⟩
      exact rA _ l nm _ (7+en) H4 (by omega) (λc o hc=>k4 _ _ (mz _ _ hc) (ab hc hl)) hl IH nl uG uI (k4 _ _ Ng (Ne.symm nl))
    . exact rA _ l nm _ dn H3 (by omega) mz hl IH nl xi uH Ng
   refine ⟨_,ag (ax (i:=1) nX.nd rfl (Or.inl rfl) (aD kr (aJ gC ef rfl mC kC bC .nil aB (aa (pv 0) (aa ah af))) ah))
    (ag (bF (bj dX (aD gF (aJ gC ef rfl mC kC bC .nil aB (aa (pv 0) (aa ah af))) ah) ah (br _)) (aq (ax (i:=1) nX.nd rfl (Or.inl rfl) (aJ gR hr rfl mR kR bR .nil aB (aa (pv 1) (aa ah af))))) aY) hB),?_⟩
   refine ⟨_,rfl,a,ns,0,rfl,ha,by decide,λx=>⟨_,_,rfl,rfl,⟨by decide,by decide⟩,?_⟩⟩
   refine ⟨_,rfl,a,ns,0,rfl,ha,by decide,λc=>⟨_,_,rfl,rfl,(by show (0:Int)<2; decide),rfl,_,rfl,?_⟩⟩
   exact jt (λ_=>⟨_,rfl,_,0,rfl,by decide,by decide,λz=>rB z⟩) (λ_=>rB _)
end
end Gen
namespace L2
open PySem PySem.Spec PyProof.Rows
section
variable {X:Cx}{a:Expr}{ta:TE}
end
end L2
namespace L2
open PySem PySem.Spec PyProof.Rows PySem.W
theorem jH:∀(m i:Nat),rev m i<2 ^ m
 | 0,_=>Nat.one_pos
 | m+1,i=>by
  have:=jH m (i / 2)
  have h2:i % 2<2:=Nat.mod_lt _ (by decide)
  rw [rev,Nat.pow_succ]
  rcases (show i % 2=0\/i % 2=1 by omega) with e | e <;> rw [e] <;> omega
theorem jX:∀(m j y u:Nat),u<2 ^ m->rev (m+j) (2 ^ m*y+u)=rev m u*2 ^ j+rev j y
 | 0,j,y,u,h=>by
  have:u=0:=by rw [Nat.pow_zero] at h; omega
  rw [this,Nat.zero_add,Nat.pow_zero,Nat.one_mul,Nat.add_zero]
  show rev j y=0*2 ^ j+rev j y
  omega
 | m+1,j,y,u,h=>by
  rw [Nat.pow_succ] at h
  have e1:(2 ^ (m+1)*y+u) % 2=u % 2:=by rw [Nat.pow_succ,show 2 ^ m*2*y=2*(2 ^ m*y) by rw [Nat.mul_comm (2 ^ m) 2,Nat.mul_assoc]]; omega
  have e2:(2 ^ (m+1)*y+u) / 2=2 ^ m*y+u / 2:=by rw [Nat.pow_succ,show 2 ^ m*2*y=2*(2 ^ m*y) by rw [Nat.mul_comm (2 ^ m) 2,Nat.mul_assoc]]; omega
  rw [show m+1+j=(m+j)+1 by omega,rev,e1,e2,jX m j y (u / 2) (by omega),rev,Nat.add_mul,Nat.pow_add,Nat.mul_assoc]
  omega
theorem lu (m u b:Nat) (h:u<2 ^ m) (hb:b<2):rev (m+1) (2 ^ m*b+u)=2*rev m u+b:=by
 rw [jX m 1 b u h]
 have:rev 1 b=b:=by rcases (show b=0\/b=1 by omega) with rfl | rfl <;> rfl
 rw [this]
 omega
theorem rev_rev:∀(m i:Nat),i<2 ^ m->rev m (rev m i)=i
 | 0,i,h=>by rw [Nat.pow_zero] at h; show 0=i; omega
 | m+1,i,h=>by
  rw [Nat.pow_succ] at h
  rw [show rev (m+1) i=2 ^ m*(i % 2)+rev m (i / 2) by rw [rev,Nat.mul_comm],lu m _ _ (jH _ _) (Nat.mod_lt _ (by decide)),rev_rev m (i / 2) (by omega)]
  omega
theorem rev_inj {m i j:Nat}(hi:i<2 ^ m) (hj:j<2 ^ m) (h:rev m i=rev m j):i=j:=by rw [← rev_rev m i hi,← rev_rev m j hj,h]
theorem lx (k:Nat){b u:Nat}(h:u<2 ^ k) (hb:b<2):(bh (k+1)).getD (2 ^ k*b+u) []=(bh k).getD u []++[(b:Int)]:=by
 have hl:=cT k
 rw [bh,List.getD_eq_getElem?_getD,List.getD_eq_getElem?_getD]
 rcases (show b=0\/b=1 by omega) with rfl | rfl
 . rw [Nat.mul_zero,Nat.zero_add,List.getElem?_append_left (by rw [List.length_map,hl]; exact h),List.getElem?_map,List.getElem?_eq_getElem (by omega)]
   rfl
 . rw [Nat.mul_one,List.getElem?_append_right (by rw [List.length_map,hl]; omega),List.length_map,hl,Nat.add_sub_cancel_left,List.getElem?_map,List.getElem?_eq_getElem (by omega)]
   rfl
theorem vH:∀(x y:List Int) (a b:Int),x.length=y.length->HT.lexLt (x++[a]) (y++[b])=(HT.lexLt x y || (decide (x=y) && decide (a<b)))
 | [],[],a,b,_=>by
  rw [List.nil_append,List.nil_append,HT.i7,HT.tG]
  by_cases h:a=b
  . rw [if_pos h,h]
    simp
  . rw [if_neg h]
    simp
 | [],_::_,_,_,h=>nomatch h
 | _::_,[],_,_,h=>nomatch h
 | p::x,q::y,a,b,h=>by
  rw [List.cons_append,List.cons_append,HT.i7,HT.i7,vH x y a b (Nat.succ.inj h)]
  by_cases e:p=q
  . subst e
    rw [if_pos rfl,if_pos rfl]
    simp
  . rw [if_neg e,if_neg e]
    simp [e]
theorem tM {k i:Nat}(h:i<2 ^ (k+1)):∃b u,b<2/\u<2 ^ k/\i=2 ^ k*b+u:=by
 rw [Nat.pow_succ] at h
 by_cases q:i<2 ^ k
 . exact ⟨0,i,by decide,q,by omega⟩
 . exact ⟨1,i-2 ^ k,by decide,by omega,by omega⟩
theorem vI:∀(k:Nat){i j:Nat},i<2 ^ k->j<2 ^ k->(bh k).getD i []=(bh k).getD j []->i=j
 | 0,i,j,h1,h2,_=>by rw [Nat.pow_zero] at h1 h2; omega
 | k+1,i,j,h1,h2,h=>by
  obtain ⟨b,u,hb,hu,rfl⟩:=tM h1
  obtain ⟨c,v,hc,hv,rfl⟩:=tM h2
  rw [lx k hu hb,lx k hv hc] at h
  obtain ⟨e1,e2⟩:=List.append_inj' h rfl
  rw [vI k hu hv e1]
  have:=List.cons.inj e2
  have:b=c:=by have:=this.1; omega
  rw [this]
theorem qU {k i:Nat}(h:i<2 ^ k):((bh k).getD i []).length=k:=by
 refine jU k _ ?_
 rw [List.getD_eq_getElem?_getD,List.getElem?_eq_getElem (by rw [cT]; exact h)]
 exact List.getElem_mem _
theorem agree:∀(k:Nat){i j:Nat},i<2 ^ k->j<2 ^ k->HT.lexLt ((bh k).getD i []) ((bh k).getD j [])=cB k i j
 | 0,i,j,h1,h2=>by
  rw [Nat.pow_zero] at h1 h2
  have:i=0:=by omega
  have:j=0:=by omega
  subst i j
  rfl
 | k+1,i,j,h1,h2=>by
  obtain ⟨b,u,hb,hu,rfl⟩:=tM h1
  obtain ⟨c,v,hc,hv,rfl⟩:=tM h2
  rw [lx k hu hb,lx k hv hc,vH _ _ _ _ (by rw [qU hu,qU hv]),agree k hu hv]
  unfold cB
  rw [lu k u b hu hb,lu k v c hv hc,Bool.eq_iff_iff]
  simp only [Bool.or_eq_true,Bool.and_eq_true,decide_eq_true_eq,Nat.blt_eq]
  constructor
  . rintro (h | ⟨h,h'⟩)
    . omega
    . have:=vI k hu hv h
      subst this
      omega
  . intro h
    by_cases e:rev k u=rev k v
    . have:=rev_inj hu hv e
      subst this
      exact .inr ⟨rfl,by omega⟩
    . exact .inl (by omega)
theorem de:∀k,(cm k).length=2 ^ k
 | 0=>rfl
 | k+1=>by
  rw [cm,List.length_flatMap,Nat.pow_succ,← de k]
  generalize cm k=l
  induction l with
  | nil=>rfl
  | cons a l ih=>rw [List.map_cons,List.sum_cons,ih,List.length_cons]; show 2+l.length*2=(l.length+1)*2; omega
theorem xK:∀(l:List (List Int)) (t:Nat),t<2*l.length->(l.flatMap λr=>[r++[0],r++[1]])[t]?=some (l.getD (t / 2) []++[((t % 2:Nat):Int)])
 | [],t,h=>by simp at h
 | a::l,0,h=>rfl
 | a::l,1,h=>rfl
 | a::l,t+2,h=>by
  rw [List.flatMap_cons,List.getElem?_append_right (by show 2<=t+2; omega)]
  have:=xK l t (by rw [List.length_cons] at h; omega)
  rw [show t+2 - [a++[(0:Int)],a++[1]].length=t from rfl,this,show (t+2) / 2=t / 2+1 by omega,show (t+2) % 2=t % 2 by omega]
  rfl
theorem Bv:∀(k t:Nat),t<2 ^ k->(cm k)[t]?=some ((bh k).getD (rev k t) [])
 | 0,t,h=>by
  rw [Nat.pow_zero] at h
  have:t=0:=by omega
  subst this
  rfl
 | k+1,t,h=>by
  rw [Nat.pow_succ] at h
  rw [cm,xK _ _ (by rw [de]; omega),rev,Nat.mul_comm (t % 2),lx k (jH _ _) (Nat.mod_lt _ (by decide))]
  have:=Bv k (t / 2) (by omega)
  rw [List.getD_eq_getElem?_getD,this]
  rfl
def aI (N:Nat) (f:Nat->Nat):Array Nat:=((List.range N).map f).toArray
theorem cR (N:Nat) (f:Nat->Nat):(aI N f).size=N:=by unfold aI; simp
theorem cN {N i:Nat}(f:Nat->Nat) (h:i<N):(aI N f).getD i 0=f i:=by
 unfold aI
 simp [Array.getD,h]
theorem vJ {N:Nat}{p:Array Nat}{f:Nat->Nat}(hs:p.size=N) (h:∀i,i<N->p.getD i 0=f i):p=aI N f:=by
 apply Array.ext
 . rw [hs,cR]
 . intro i h1 h2
   have e1:=h i (by omega)
   have e2:=cN f (show i<N by omega)
   rw [← e1] at e2
   simp only [Array.getD,h1,h2,dif_pos] at e2
   exact e2.symm
theorem vK {N M:Nat}{f:Nat->Nat}(h:∀i,i<N->f i<M):fz M (aI N f):=λi hi=>by
 rw [cR] at hi
 rw [cN f hi]
 exact h i hi
def seg (f:Nat->Nat) (a n m:Nat):Nat->Nat:=λi=>if a<=i/\i<a+n then a+rev m (i-a) else f i
theorem qV {f:Nat->Nat}{a n m t:Nat}(h:t<n):seg f a n m (a+t)=a+rev m t:=by
 unfold seg
 rw [if_pos ⟨by omega,by omega⟩,Nat.add_sub_cancel_left]
theorem xM {f:Nat->Nat}{a n m i:Nat}(h:¬ (a<=i/\i<a+n)):seg f a n m i=f i:=if_neg h
theorem xN {f:Nat->Nat}{a m N:Nat}(hf:∀i,i<N->f i<N) (h:a+2 ^ m<=N):∀i,i<N->seg f a (2 ^ m) m i<N:=λi hi=>by
 unfold seg
 split
 . have:=jH m (i-a)
   omega
 . exact hf i hi
end L2
namespace L2
open PySem PySem.Spec PyProof.Rows PySem.W
theorem oC {p:Array Nat}{x y i:Nat}(hx:x<p.size) (hy:y<p.size):(p.swapIfInBounds x y).getD i 0=if i=x then p.getD y 0 else if i=y then p.getD x 0 else p.getD i 0:=by
 have e:p.swapIfInBounds x y=p.swap x y hx hy:=by simp [Array.swapIfInBounds,hx,hy]
 rw [e]
 by_cases h:i<p.size
 . have h':i<(p.swap x y hx hy).size:=by simpa using h
   simp only [Array.getD,h,h',hx,hy,dif_pos]
   by_cases e1:i=x
   . subst e1
     rw [if_pos rfl]
     simp
   . rw [if_neg e1]
     by_cases e2:i=y
     . subst e2
       rw [if_pos rfl]
       simp
     . rw [if_neg e2]
       show (p.swap x y hx hy)[i]=p[i]
       rw [Array.getElem_swap]
       simp [e1,e2]
 . rw [if_neg (by omega),if_neg (by omega)]
   have h':¬ i<(p.swap x y hx hy).size:=by simpa using h
   simp only [Array.getD,h,h',dif_neg,not_false_eq_true]
structure d5 (lo N:Nat) (g:Nat->Nat) (p q:Array Nat):Prop where
 sz:p.size=N
 qs:q.size=32
 ins:∀t,t<32->p.getD (lo+t) 0=lo+q.getD t 0
 out:∀i,i<N->¬ (lo<=i/\i<lo+32)->p.getD i 0=g i
 bq:∀t,t<32->q.getD t 0<32
theorem d5.swap {lo N:Nat}{g:Nat->Nat}{p q:Array Nat}(h:d5 lo N g p q) (hN:lo+32<=N){x y:Nat}(hx:x<32) (hy:y<32):d5 lo N g (p.swapIfInBounds (lo+x) (lo+y)) (q.swapIfInBounds x y):=by
 have s1:=h.sz
 have s2:=h.qs
 refine ⟨by simpa using s1,by simpa using s2,λt ht=>?_,λi hi ho=>?_,λt ht=>?_⟩
 . rw [oC (by omega) (by omega),oC (by omega) (by omega)]
   by_cases e1:t=x
   . rw [if_pos (by omega),if_pos e1,h.ins y hy]
   . rw [if_neg (by omega),if_neg e1]
     by_cases e2:t=y
     . rw [if_pos (by omega),if_pos e2,h.ins x hx]
     . rw [if_neg (by omega),if_neg e2,h.ins t ht]
 . rw [oC (by omega) (by omega),if_neg (by omega),if_neg (by omega)]
   exact h.out i hi ho
 . rw [oC (by omega) (by omega)]
   split
   . exact h.bq y hy
   . split
     . exact h.bq x hx
     . exact h.bq t ht
theorem d5.bubble {lo N:Nat}{g:Nat->Nat}{p q:Array Nat}(h:d5 lo N g p q) (hN:lo+32<=N){k:Nat}(hk:k<32):∀d,d<=k->d5 lo N g (PyProof.Rows.bubble p (lo+k) d) (PyProof.Rows.bubble q k d)
 | 0,_=>h
 | d+1,hd=>by
  rw [bubble_succ,bubble_succ,show lo+k-d=lo+(k-d) by omega,show lo+(k-d)-1=lo+(k-d-1) by omega]
  exact (d5.bubble h hN hk d (by omega)).swap hN (by omega) (by omega)
theorem d5.place {lo N:Nat}{g:Nat->Nat}{p q:Array Nat}(h:d5 lo N g p q){c c':Nat->Nat->Bool}(hc:∀u v,u<32->v<32->c (lo+u) (lo+v)=c' u v){k:Nat}(hk:k<32):∀f l r,r<=k->L2.place c p lo k f l r=L2.place c' q 0 k f l r/\(l<=k->L2.place c' q 0 k f l r<=k)
 | 0,l,r,_=>⟨rfl,λh=>h⟩
 | f+1,l,r,hr=>by
  unfold L2.place
  by_cases e:l≥r
  . rw [if_pos e,if_pos e]
    exact ⟨rfl,λh=>h⟩
  . rw [if_neg e,if_neg e,h.ins k hk,h.ins ((l+r) / 2) (by omega),hc _ _ (h.bq k hk) (h.bq _ (by omega)),Nat.zero_add,Nat.zero_add]
    by_cases e2:c' (q.getD k 0) (q.getD ((l+r) / 2) 0)=true
    . rw [if_pos e2,if_pos e2]
      exact ⟨(d5.place h hc hk f l ((l+r) / 2) (by omega)).1,λhl=>(d5.place h hc hk f l ((l+r) / 2) (by omega)).2 hl⟩
    . rw [if_neg e2,if_neg e2]
      exact ⟨(d5.place h hc hk f ((l+r) / 2+1) r hr).1,λhl=>(d5.place h hc hk f ((l+r) / 2+1) r hr).2 (by omega)⟩
theorem d5.bin {lo N:Nat}{g:Nat->Nat}{c c':Nat->Nat->Bool}(hc:∀u v,u<32->v<32->c (lo+u) (lo+v)=c' u v) (hN:lo+32<=N):∀(f k:Nat) (p q:Array Nat),k+f<=32->d5 lo N g p q->d5 lo N g (bE c lo f k p) (bE c' 0 f k q)
 | 0,_,_,_,_,h=>h
 | f+1,k,p,q,hk,h=>by
  obtain ⟨e1,e2⟩:=h.place hc (show k<32 by omega) k 0 k (Nat.le_refl _)
  have e2:=e2 (Nat.zero_le _)
  unfold bE
  rw [e1,show lo+k-(lo+L2.place c' q 0 k k 0 k)=k-L2.place c' q 0 k k 0 k by omega,Nat.zero_add,Nat.zero_add]
  exact d5.bin hc hN f (k+1) _ _ (by omega) (h.bubble hN (by omega) _ (by omega))
theorem q5:∀t,t<32->(bE (cB 5) 0 30 2 (p0 5)).getD t 0=rev 5 t:=by
 have:(List.range 32).all (λt=>(bE (cB 5) 0 30 2 (p0 5)).getD t 0 == rev 5 t)=true:=by decide +kernel
 intro t ht
 have:=List.all_eq_true.mp this t (List.mem_range.mpr ht)
 exact eq_of_beq this
theorem pL {m j y u v:Nat}(hu:u<2 ^ m) (hv:v<2 ^ m):cB (m+j) (2 ^ m*y+u) (2 ^ m*y+v)=cB m u v:=by
 unfold cB
 rw [jX m j y u hu,jX m j y v hv,Bool.eq_iff_iff,Nat.blt_eq,Nat.blt_eq]
 constructor
 . intro h
   exact Nat.lt_of_mul_lt_mul_right (show rev m u*2 ^ j<rev m v*2 ^ j by omega)
 . intro h
   have:=Nat.mul_lt_mul_of_pos_right h (Nat.two_pow_pos j)
   omega
theorem Fz {j y N:Nat}{f:Nat->Nat}(hN:32*y+32<=N) (hf:∀t,t<32->f (32*y+t)=32*y+t):bE (cB (5+j)) (32*y) 30 2 (aI N f)=aI N (seg f (32*y) 32 5):=by
 have L0:d5 (32*y) N f (aI N f) (p0 5):=⟨cR _ _,rfl,λt ht=>by
  rw [cN f (by omega),hf t ht]
  have:(p0 5).getD t 0=t:=by unfold p0; simp [Array.getD,ht]
  rw [this],λi hi _=>cN f hi,λt ht=>by
  have:(p0 5).getD t 0=t:=by unfold p0; simp [Array.getD,ht]
  omega⟩
 have L1:=d5.bin (c:=cB (5+j)) (c':=cB 5) (λu v hu hv=>pL (m:=5) (j:=j) (y:=y) hu hv) hN 30 2 _ _ (Nat.le_refl _) L0
 refine vJ L1.sz λi hi=>?_
 by_cases h:32*y<=i/\i<32*y+32
 . have e:i=32*y+(i-32*y):=by omega
   rw [e,L1.ins _ (by omega),q5 _ (by omega),qV (by omega)]
 . rw [L1.out i hi h,xM h]
section
variable {prog:Program}{w:World}{A:Around}{E:Value->Shared->Prop}{s:Shared}{κ:SortKind}{it:Nat->Keyed}{N:Nat}{c:Nat->Nat->Bool}{p:Array Nat}{pd:Array (Nat×Nat×Nat)}{n a i pw DW:Nat}
def rM (p:Array Nat) (o:Nat) (z:Array Nat):Array Nat:=z.toList.zipIdx.foldl (λa x=>a.setIfInBounds (o+x.2) x.1) p
theorem vL (it:Nat->Keyed) (o:Nat):∀(l:List Nat) (i:Nat) (p:Array Nat),((l.map it).zipIdx i).foldl (λ(a:Array Keyed) x=>a.setIfInBounds (o+x.2) x.1) (p.map it)=((l.zipIdx i).foldl (λa x=>a.setIfInBounds (o+x.2) x.1) p).map it
 | [],_,_=>rfl
 | x::l,i,p=>by
  rw [List.map_cons,List.zipIdx_cons,List.zipIdx_cons,List.foldl_cons,List.foldl_cons,← vL it o l (i+1)]
  congr 1
  simp
theorem FA (C:dG prog w A s κ it N c){Q:Bool->SortSt->Prop}(B:fz N p) (hp:a+2*n<=p.size) (hn:4<=n) (h0:pd[i]?=some (a,n,pw)) (h1:pd[i+1]?=some (a+n,n,DW))
 (hA:∀i,i<n->c (p.getD (a+n+i) 0) (p.getD (a+i) 0)=false) (hB:∀i,i+1<n->c (p.getD (a+n+i) 0) (p.getD (a+i+1) 0)=true)
 (h:Q true (aP κ it (rM p (a+1) (cj (p.extract (a+1) (a+n)) (p.extract (a+n) (a+2*n-1)) (2*(n-1)))) ((pd.setIfInBounds i (a,n+n,pw)).eraseIdxIfInBounds (i+1)))) :
 wpS (model prog w) A E s (mergeAt' i) Q (aP κ it p pd):=by
 refine wpS_bind (wpS_get ?_)
 have g0:(pendingOf (aP κ it p pd))[i]?=some (a,n,pw):=h0
 have g1:(pendingOf (aP κ it p pd))[i+1]?=some (a+n,n,DW):=h1
 simp only [g0,g1]
 refine wpS_bind (wpS_modify ?_)
 generalize Uj:(pd.setIfInBounds i (a,n+n,pw)).eraseIdxIfInBounds (i+1)=pd' at h
 show wpS _ _ _ _ _ _ (SortSt.mk' κ (p.map it) ((pd.setIfInBounds i (a,n+n,pw)).eraseIdxIfInBounds (i+1)) 7 none)
 rw [Uj]
 refine wpS_bind (dh (show a+n<p.size by omega) ?_)
 refine wpS_bind (xk C rfl B (B _ (by omega)) (by omega) (show a+n<=p.size by omega) ?_ ?_ ?_)
 . exact hA 0 (by omega)
 . exact hB 0 (by omega)
 dsimp only
 rw [if_neg (by simp; omega)]
 refine wpS_bind (dh (show a+1+(n-1)-1<p.size by omega) ?_)
 refine wpS_bind (xl C rfl B (B _ (by omega)) (by omega) (show a+n+n<=p.size by omega) ?_ ?_ ?_)
 . rw [show a+1+(n-1)-1=a+(n-1) by omega]
   exact hA (n-1) (by omega)
 . have:=hB (n-2) (by omega)
   rw [show a+1+(n-1)-1=a+(n-2)+1 by omega]
   exact this
 dsimp only
 rw [if_neg (by simp; omega),if_pos (by omega)]
 have ex:∀i j,(p.map it).extract i j=(p.extract i j).map it:=λi j=>by
  apply Array.ext
  . simp
  . intro k h1 h2
    simp
 have sX:(p.extract (a+1) (a+n)).size=n-1:=by
  simp
  omega
 have sY:(p.extract (a+n) (a+2*n-1)).size=n-1:=by
  simp
  omega
 have gX:∀i,i<n-1->(p.extract (a+1) (a+n)).getD i 0=p.getD (a+i+1) 0:=λi hi=>by rw [jw (by omega) (by omega),show a+1+i=a+i+1 by omega]
 have gY:∀i,i<n-1->(p.extract (a+n) (a+2*n-1)).getD i 0=p.getD (a+n+i) 0:=λi hi=>jw (by omega) (by omega)
 have key:=AA C (E:=E) (st:=SortSt.mk' κ (p.map it) pd' 7 none) (X:=p.extract (a+1) (a+n)) (Y:=p.extract (a+n) (a+2*n-1)) (n:=n-1)
  (Q:=λz aG=>z=(cj (p.extract (a+1) (a+n)) (p.extract (a+n) (a+2*n-1)) (2*(n-1))).map it/\aG=SortSt.mk' κ (p.map it) pd' 7 none) rfl rfl (qC (by omega) B) (qC (by omega) B) sX sY (by omega)
  (λi hi=>by rw [gX i (by omega),gY (i+1) (by omega)]; exact hA (i+1) (by omega)) (λi hi=>by rw [gX i hi,gY i hi]; exact hB i (by omega)) ⟨rfl,rfl⟩
 rw [← ex,← ex] at key
 have e1:a+n+(n-1)=a+2*n-1:=by omega
 rw [e1]
 refine wpS_bind (wpS_mono key λz aG hq=>?_)
 obtain ⟨rfl,rfl⟩:=hq
 refine wpS_bind (wpS_modify (wpS_bind (wpS_get (wpS_pure ?_))))
 have e2:=vL it (a+1) (cj (p.extract (a+1) (a+n)) (p.extract (a+n) (a+2*n-1)) (2*(n-1))).toList 0 p
 have e3:SortSt.mk' κ ((((cj (p.extract (a+1) (a+n)) (p.extract (a+n) (a+2*n-1)) (2*(n-1))).map it).toList.zipIdx).foldl (λ(b:Array Keyed) x=>b.setIfInBounds (a+1+x.2) x.1) (p.map it)) pd' 7 none=aP κ it (rM p (a+1) (cj (p.extract (a+1) (a+n)) (p.extract (a+n) (a+2*n-1)) (2*(n-1)))) pd':=by
  unfold aP rM
  rw [Array.toList_map,e2]
 show Q true (SortSt.mk' κ ((((cj (p.extract (a+1) (a+n)) (p.extract (a+n) (a+2*n-1)) (2*(n-1))).map it).toList.zipIdx).foldl (λ(b:Array Keyed) x=>b.setIfInBounds (a+1+x.2) x.1) (p.map it)) pd' 7 none)
 rw [e3]
 exact h
end
theorem FC {p:Array Nat}{x i v:Nat}(hx:x<p.size):(p.setIfInBounds x v).getD i 0=if i=x then v else p.getD i 0:=by
 by_cases h:i<p.size
 . have h':i<(p.setIfInBounds x v).size:=by simpa using h
   simp only [Array.getD,h,h',dif_pos]
   show (p.setIfInBounds x v)[i]=_
   rw [Array.getElem_setIfInBounds]
   by_cases e:i=x
   . rw [if_pos e.symm,if_pos e]
   . rw [if_neg (Ne.symm e),if_neg e]
     rfl
 . have h':¬ i<(p.setIfInBounds x v).size:=by simpa using h
   rw [if_neg (by omega)]
   simp only [Array.getD,h,h',dif_neg,not_false_eq_true]
theorem vM:∀(l:List Nat) (o j:Nat) (p:Array Nat),o+j+l.length<=p.size->((l.zipIdx j).foldl (λa x=>a.setIfInBounds (o+x.2) x.1) p).size=p.size/\∀i,((l.zipIdx j).foldl (λa x=>a.setIfInBounds (o+x.2) x.1) p).getD i 0=if o+j<=i/\i<o+j+l.length then l.getD (i-(o+j)) 0 else p.getD i 0
 | [],o,j,p,_=>⟨rfl,λi=>by rw [if_neg (by show ¬ (o+j<=i/\i<o+j+0); omega)]; rfl⟩
 | v::l,o,j,p,h=>by
  rw [List.length_cons] at h
  rw [List.zipIdx_cons,List.foldl_cons]
  obtain ⟨h1,h2⟩:=vM l o (j+1) (p.setIfInBounds (o+j) v) (by rw [Array.size_setIfInBounds]; omega)
  refine ⟨by rw [h1,Array.size_setIfInBounds],λi=>?_⟩
  rw [h2 i,FC (by omega),List.length_cons]
  by_cases e:i=o+j
  . subst e
    rw [if_neg (by omega),if_pos rfl,if_pos (by omega),Nat.sub_self]
    rfl
  . by_cases e2:o+(j+1)<=i/\i<o+(j+1)+l.length
    . rw [if_pos e2,if_pos (by omega),show i-(o+j)=(i-(o+(j+1)))+1 by omega]
      rfl
    . rw [if_neg e2,if_neg e,if_neg (by omega)]
theorem FD {N a m:Nat}{f:Nat->Nat}(hN:a+2*2 ^ m<=N) (h0:∀t,t<2 ^ m->f (a+t)=a+rev m t) (h1:∀t,t<2 ^ m->f (a+2 ^ m+t)=a+2 ^ m+rev m t) :
 rM (aI N f) (a+1) (cj ((aI N f).extract (a+1) (a+2 ^ m)) ((aI N f).extract (a+2 ^ m) (a+2*2 ^ m-1)) (2*(2 ^ m-1)))=aI N (seg f a (2*2 ^ m) (m+1)):=by
 have hs:=cR N f
 have IF:=Nat.two_pow_pos m
 have hz:(cj ((aI N f).extract (a+1) (a+2 ^ m)) ((aI N f).extract (a+2 ^ m) (a+2*2 ^ m-1)) (2*(2 ^ m-1))).toList.length=2*(2 ^ m-1):=by unfold cj; simp
 obtain ⟨e1,e2⟩:=vM (cj ((aI N f).extract (a+1) (a+2 ^ m)) ((aI N f).extract (a+2 ^ m) (a+2*2 ^ m-1)) (2*(2 ^ m-1))).toList (a+1) 0 (aI N f) (by rw [hz,hs]; omega)
 refine vJ (by unfold rM; rw [e1,hs]) λi hi=>?_
 have e3:(rM (aI N f) (a+1) (cj ((aI N f).extract (a+1) (a+2 ^ m)) ((aI N f).extract (a+2 ^ m) (a+2*2 ^ m-1)) (2*(2 ^ m-1)))).getD i 0=_:=e2 i
 rw [e3,hz]
 by_cases eG:a<=i/\i<a+2*2 ^ m
 . obtain ⟨s,rfl⟩:∃s,i=a+s:=⟨i-a,by omega⟩
   rw [qV (by omega)]
   have er:rev (m+1) s=(s % 2)*2 ^ m+rev m (s / 2):=rfl
   by_cases II:a+1+0<=a+s/\a+s<a+1+0+2*(2 ^ m-1)
   . rw [if_pos II]
     have ez:(cj ((aI N f).extract (a+1) (a+2 ^ m)) ((aI N f).extract (a+2 ^ m) (a+2*2 ^ m-1)) (2*(2 ^ m-1))).toList.getD (a+s-(a+1+0)) 0=mq ((aI N f).extract (a+1) (a+2 ^ m)) ((aI N f).extract (a+2 ^ m) (a+2*2 ^ m-1)) (s-1):=by
      unfold cj
      rw [show a+s-(a+1+0)=s-1 by omega]
      simp [show s-1<2*(2 ^ m-1) by omega]
     rw [ez]
     unfold mq
     by_cases od:s % 2=1
     . rw [if_pos (by omega),jw (by omega) (by omega),cN f (by omega),h1 _ (by omega),er,od,show (s-1) / 2=s / 2 by omega]
       omega
     . rw [if_neg (by omega),jw (by omega) (by omega),cN f (by omega),show a+1+(s-1) / 2=a+s / 2 by omega,h0 _ (by omega),er,show s % 2=0 by omega]
       omega
   . rw [if_neg II,cN f hi]
     rcases (show s=0\/s=2*2 ^ m-1 by omega) with rfl | rfl
     . rw [h0 0 IF,er]
       simp
     . rw [show a+(2*2 ^ m-1)=a+2 ^ m+(2 ^ m-1) by omega,h1 _ (by omega),er,show (2*2 ^ m-1) % 2=1 by omega,show (2*2 ^ m-1) / 2=2 ^ m-1 by omega]
       omega
 . rw [xM eG,if_neg (by omega),cN f hi]
end L2
namespace L2
open PySem PySem.Spec PyProof.Rows PySem.W
abbrev Pd:=Array (Nat×Nat×Nat)
def Fb (k:Nat) (f:Nat->Nat):Prop:=∀i,i<2 ^ k->f i<2 ^ k
structure vN (k:Nat) (f:Nat->Nat) (a m:Nat):Prop where
 le:a+2*2 ^ m<=2 ^ k
 at_:∃y j,a=2 ^ (m+1)*y/\k=m+1+j
 m2:2<=m
 lo:∀t,t<2 ^ m->f (a+t)=a+rev m t
 hi:∀t,t<2 ^ m->f (a+2 ^ m+t)=a+2 ^ m+rev m t
theorem vN.fb {k a m:Nat}{f:Nat->Nat}(h:vN k f a m) (hf:Fb k f):Fb k (seg f a (2*2 ^ m) (m+1)):=by
 have e:2*2 ^ m=2 ^ (m+1):=by rw [Nat.pow_succ]; omega
 rw [e]
 exact xN hf (by have:=h.le; omega)
def vO (pd:Pd) (i a n pw:Nat):Pd:=(pd.setIfInBounds i (a,n+n,pw)).eraseIdxIfInBounds (i+1)
section
variable {prog:Program}{w:World}{A:Around}{E:Value->Shared->Prop}{s:Shared}{κ:SortKind}{it:Nat->Keyed}{k:Nat}
theorem DX (C:dG prog w A s κ it (2 ^ k) (cB k)){Q:Bool->SortSt->Prop}{f:Nat->Nat}{pd:Pd}{i a m pw DW:Nat}(hf:Fb k f) (ok:vN k f a m) (h0:pd[i]?=some (a,2 ^ m,pw)) (h1:pd[i+1]?=some (a+2 ^ m,2 ^ m,DW))
 (h:Q true (aP κ it (aI (2 ^ k) (seg f a (2*2 ^ m) (m+1))) (vO pd i a (2 ^ m) pw))):wpS (model prog w) A E s (mergeAt' i) Q (aP κ it (aI (2 ^ k) f) pd):=by
 have hle:=ok.le
 have h4:2 ^ 2<=2 ^ m:=Nat.pow_le_pow_right (by decide) ok.m2
 obtain ⟨y,j,rfl,rfl⟩:=ok.at_
 have Wo:2 ^ (m+1)=2 ^ m*2:=Nat.pow_succ ..
 have key:∀u v,u<2 ^ m->v<2 ^ m->∀b,b<2->cB (m+1+j) (2 ^ (m+1)*y+2 ^ m+rev m u) (2 ^ (m+1)*y+rev m v)=Nat.blt (2*u+1) (2*v):=λu v hu hv b hb=>by
  have l1:=jH m u
  have l2:=jH m v
  rw [show 2 ^ (m+1)*y+2 ^ m+rev m u=2 ^ (m+1)*y+(2 ^ m*1+rev m u) by omega,show 2 ^ (m+1)*y+rev m v=2 ^ (m+1)*y+(2 ^ m*0+rev m v) by omega,pL (by omega) (by omega)]
  unfold cB
  rw [lu m _ 1 l1 (by decide),lu m _ 0 l2 (by decide),rev_rev m u hu,rev_rev m v hv]
  rfl
 refine FA C (a:=2 ^ (m+1)*y) (n:=2 ^ m) (vK hf) (by rw [cR]; exact hle) h4 h0 h1 (λi hi=>?_) (λi hi=>?_) ?_
 . rw [cN f (by omega),cN f (by omega),ok.hi i hi,ok.lo i hi,key i i hi hi 0 (by decide)]
   rw [Bool.eq_false_iff,ne_eq,Nat.blt_eq]
   omega
 . rw [cN f (by omega),cN f (by omega),ok.hi i (by omega),show 2 ^ (m+1)*y+i+1=2 ^ (m+1)*y+(i+1) by omega,ok.lo (i+1) hi,key i (i+1) (by omega) hi 0 (by decide),Nat.blt_eq]
   omega
 . rw [FD hle ok.lo ok.hi]
   exact h
end
inductive qW (k pw:Nat):Nat->(Nat->Nat)->Pd->(Nat->Nat)->Pd->Prop
 | one {f:Nat->Nat}{pd:Pd} : pd.size<=1->qW k pw 0 f pd f pd
 | stop {f:Nat->Nat}{pd:Pd}{a n o:Nat} : 1<pd.size->pd[pd.size-2]?=some (a,n,o)->o<=pw->qW k pw 0 f pd f pd
 | step {l:Nat}{f f':Nat->Nat}{pd pd':Pd}{a m o o2:Nat} : 1<pd.size->pd[pd.size-2]?=some (a,2 ^ m,o)->pd[pd.size-2+1]?=some (a+2 ^ m,2 ^ m,o2)->pw<o->vN k f a m->qW k pw l (seg f a (2*2 ^ m) (m+1)) (vO pd (pd.size-2) a (2 ^ m) o) f' pd'->qW k pw (l+1) f pd f' pd'
def DY (pd:Pd):Nat:=if ((if pd.size-2>0 then pd[pd.size-2-1]?.map (·.2.1) else none):Option Nat).any (· < (pd[pd.size-2+1]?.elim 0 (·.2.1))) then pd.size-2-1 else pd.size-2
inductive ma (k:Nat):Nat->(Nat->Nat)->Pd->(Nat->Nat)->Pd->Prop
 | one {f:Nat->Nat}{pd:Pd} : pd.size<=1->ma k 0 f pd f pd
 | step {l:Nat}{f f':Nat->Nat}{pd pd':Pd}{a m o o2:Nat} : 1<pd.size->pd[DY pd]?=some (a,2 ^ m,o)->pd[DY pd+1]?=some (a+2 ^ m,2 ^ m,o2)->vN k f a m->ma k l (seg f a (2*2 ^ m) (m+1)) (vO pd (DY pd) a (2 ^ m) o) f' pd'->ma k (l+1) f pd f' pd'
inductive Run (k:Nat) (x:Nat) (f:Nat->Nat) (pd:Pd):(Nat->Nat)->Pd->Prop
 | first:pd = #[]->Run k x f pd (seg f (32*x) 32 5) (pd.push (32*x,32,0))
 | more {s n o pw l:Nat}{f':Nat->Nat}{pd':Pd} : pd.back?=some (s,n,o)->power' (2 ^ k) (2*s+n) (2*s+n+n+32) (2 ^ k)=pw->qW k pw l (seg f (32*x) 32 5) pd f' pd'->l<=2 ^ k->Run k x f pd f' ((pd'.modify (pd'.size-1) λ(st,len,_)=>(st,len,pw)).push (32*x,32,0))
section
variable {prog:Program}{w:World}{A:Around}{E:Value->Shared->Prop}{s:Shared}{κ:SortKind}{it:Nat->Keyed}{j:Nat}
theorem vP (C:dG prog w A s κ it (2 ^ (5+j)) (cB (5+j))){Q:Unit->SortSt->Prop}(F:Nat->Nat->Nat) (PD:Nat->Pd) (hj:1<=j) (Pj:minRun' (2 ^ (5+j)) (2 ^ (5+j)) 0=32) (F0:F 0=id) (P0:PD 0 = #[]) (hb:∀x,x<=2 ^ j->Fb (5+j) (F x))
 (Bt:∀x,x<2 ^ j->∀t,t<32->F x (32*x+t)=32*x+t) (Pk:∀x,x<2 ^ j->Run (5+j) x (F x) (PD x) (F (x+1)) (PD (x+1))){l:Nat}{f':Nat->Nat}{pd':Pd}(hl:l<=2 ^ (5+j)) (Pl:ma (5+j) l (F (2 ^ j)) (PD (2 ^ j)) f' pd')
 (h:Q () (aP κ it (aI (2 ^ (5+j)) f') pd')):wpS (model prog w) A E s sortRuns' Q (aP κ it (aI (2 ^ (5+j)) id) #[]):=by
 have hN:2 ^ (5+j)=32*2 ^ j:=Nat.pow_add 2 5 j
 have WZ:=Nat.two_pow_pos j
 have W0:Fb (5+j) id:=λi hi=>hi
 rw [sortRuns'_eq]
 refine wpS_bind (wpS_get ?_)
 have hs:(arrOf (aP κ it (aI (2 ^ (5+j)) id) #[])).size=2 ^ (5+j):=by show ((aI (2 ^ (5+j)) id).map it).size=_; rw [Array.size_map,cR]
 simp only [hs,Pj]
 refine wpS_bind (wpS_mono (wpS_forRange (I:=λx d aG=>(x<=2 ^ j/\d=(none,32*x)/\aG=aP κ it (aI (2 ^ (5+j)) (F x)) (PD x))\/(2 ^ j<x/\d=(none,32*2 ^ j)/\aG=aP κ it (aI (2 ^ (5+j)) (F (2 ^ j))) (PD (2 ^ j))))
  (Q:=λd aG=>d=(none,32*2 ^ j)/\aG=aP κ it (aI (2 ^ (5+j)) (F (2 ^ j))) (PD (2 ^ j))) ?step ?fin (.inl ⟨Nat.zero_le _,rfl,by rw [F0,P0]⟩)) ?post)
 case fin=>
  rintro d aG (⟨hx,_,_⟩ | ⟨_,hc,hD⟩)
  . omega
  . exact ⟨hc,hD⟩
 case step=>
  rintro x d aG _ hx (⟨jS,rfl,rfl⟩ | ⟨jS,rfl,rfl⟩)
  . dsimp only
    by_cases Uk:x=2 ^ j
    . subst Uk
      rw [if_pos (by omega)]
      exact wpS_pure ⟨rfl,rfl⟩
    . have vQ:x<2 ^ j:=by omega
      rw [if_neg (by omega)]
      have hle:32*x+32<=2 ^ (5+j):=by omega
      have g:∀t,t<32->(aI (2 ^ (5+j)) (F x)).getD (32*x+t) 0=32*x+t:=λt ht=>by rw [cN _ (by omega),Bt x vQ t ht]
      have cc:∀u v,u<32->v<32->cB (5+j) (32*x+u) (32*x+v)=cB 5 u v:=λu v hu hv=>pL (m:=5) hu hv
      have B:=vK (hb x jS)
      refine wpS_bind (lR C B (by rw [cR]; omega) (by omega) ?_ ?_ ?_ ?_)
      . rw [g 1 (by decide),show 32*x=32*x+0 from rfl,g 0 (by decide),cc 1 0 (by decide) (by decide)]
        decide +kernel
      . rw [g 2 (by decide),g 1 (by decide),cc 2 1 (by decide) (by decide)]
        decide +kernel
      . rw [g 1 (by decide),show (aI (2 ^ (5+j)) (F x)).getD (32*x) 0=32*x+0 from g 0 (by decide),cc 0 1 (by decide) (by decide)]
        decide +kernel
      dsimp only
      rw [if_pos (by decide)]
      refine wpS_bind (wpS_lift (wpAny_rule ⟨rfl,?_⟩))
      rw [show min (2 ^ (5+j)-32*x) 32=32 by omega]
      refine wpS_bind (tJ C B (show 32*x+32<=(aI (2 ^ (5+j)) (F x)).size by rw [cR]; exact hle) (by omega) (show 2<=32 by omega) ?_)
      rw [show 32-2=30 from rfl,Fz hle (Bt x vQ)]
      simp only [Bool.not_true,Bool.false_eq_true,if_false]
      refine wpS_bind (wpS_get ?_)
      have hr:=Pk x vQ
      generalize hF:F (x+1)=F1 at hr
      generalize hP:PD (x+1)=P1 at hr
      cases hr with
      | first he=>
       have IJ:(pendingOf (aP κ it (aI (2 ^ (5+j)) (seg (F x) (32*x) 32 5)) (PD x))).back?=none:=by show (PD x).back?=none; rw [he]; rfl
       simp only [IJ]
       exact wpS_bind (wpS_modify (wpS_pure (.inl ⟨vQ,by rw [Nat.mul_succ],rfl⟩)))
      | @more s0 n0 o pw l0 _ tj IJ AD Pm xa=>
       have Pn:(pendingOf (aP κ it (aI (2 ^ (5+j)) (seg (F x) (32*x) 32 5)) (PD x))).back?=some (s0,n0,o):=IJ
       simp only [Pn,AD]
       refine wpS_bind (wpS_mono (wpS_forRange (I:=λx d aO=>d=(none,())/\∃(l:Nat) (f:Nat->Nat) (pd:Pd),aO=aP κ it (aI (2 ^ (5+j)) f) pd/\Fb (5+j) f/\qW (5+j) pw l f pd F1 tj/\l+x<=2 ^ (5+j)) (Q:=λd aO=>d=(none,())/\aO=aP κ it (aI (2 ^ (5+j)) F1) tj) ?ws ?wf ⟨rfl,l0,_,_,rfl,xN (m:=5) (hb x jS) hle,Pm,by omega⟩) ?wp)
       case ws=>
        rintro z d aO _ _ ⟨rfl,l,f,pd,rfl,vR,hc,Bw⟩
        refine wpS_bind (wpS_get ?_)
        cases hc with
        | one h1=>
         have e:(if (pendingOf (aP κ it (aI (2 ^ (5+j)) F1) tj)).size>1 then (pendingOf (aP κ it (aI (2 ^ (5+j)) F1) tj))[(pendingOf (aP κ it (aI (2 ^ (5+j)) F1) tj)).size-2]? else none)=none:=if_neg (Nat.not_lt.mpr h1)
         simp only [e]
         exact wpS_pure ⟨rfl,rfl⟩
        | @stop _ _ a n o' h1 h2 h3=>
         have e:(if (pendingOf (aP κ it (aI (2 ^ (5+j)) F1) tj)).size>1 then (pendingOf (aP κ it (aI (2 ^ (5+j)) F1) tj))[(pendingOf (aP κ it (aI (2 ^ (5+j)) F1) tj)).size-2]? else none)=some (a,n,o'):=(if_pos h1).trans h2
         simp only [e]
         rw [if_pos h3]
         exact wpS_pure ⟨rfl,rfl⟩
        | @step l' _ _ _ _ a m o' o2 h1 h2 mw h3 ok ft=>
         have e:(if (pendingOf (aP κ it (aI (2 ^ (5+j)) f) pd)).size>1 then (pendingOf (aP κ it (aI (2 ^ (5+j)) f) pd))[(pendingOf (aP κ it (aI (2 ^ (5+j)) f) pd)).size-2]? else none)=some (a,2 ^ m,o'):=(if_pos h1).trans h2
         simp only [e]
         rw [if_neg (by omega)]
         refine wpS_bind (DX C vR ok h2 mw ?_)
         simp only [Bool.not_true,Bool.false_eq_true,if_false]
         exact wpS_pure ⟨rfl,l',_,_,rfl,ok.fb vR,ft,by omega⟩
       case wf=>
        rintro d aO ⟨rfl,l,f,pd,rfl,vR,hc,Bw⟩
        rw [Nat.max_eq_right (Nat.zero_le _)] at Bw
        have IK:l=0:=by omega
        subst IK
        cases hc with
        | one=>exact ⟨rfl,rfl⟩
        | stop=>exact ⟨rfl,rfl⟩
       case wp=>
        rintro d aO ⟨rfl,rfl⟩
        exact wpS_bind (wpS_modify (wpS_bind (wpS_modify (wpS_pure (.inl ⟨vQ,by rw [Nat.mul_succ],rfl⟩)))))
  . dsimp only
    rw [if_pos (by omega)]
    exact wpS_pure ⟨rfl,rfl⟩
 case post=>
  rintro d aG ⟨rfl,rfl⟩
  dsimp only
  refine wpS_bind (wpS_mono (wpS_forRange (I:=λx d aO=>d=(none,())/\∃(l:Nat) (f:Nat->Nat) (pd:Pd),aO=aP κ it (aI (2 ^ (5+j)) f) pd/\Fb (5+j) f/\ma (5+j) l f pd f' pd'/\l+x<=2 ^ (5+j)) (Q:=λd aO=>d=(none,())/\aO=aP κ it (aI (2 ^ (5+j)) f') pd') ?ls ?lf ⟨rfl,l,_,_,rfl,hb _ (Nat.le_refl _),Pl,by omega⟩) ?lp)
  case lf=>
   rintro d aO ⟨rfl,l,f,pd,rfl,vR,hc,Bw⟩
   rw [Nat.max_eq_right (Nat.zero_le _)] at Bw
   have IK:l=0:=by omega
   subst IK
   cases hc with
   | one=>exact ⟨rfl,rfl⟩
  case lp=>
   rintro d aO ⟨rfl,rfl⟩
   exact wpS_pure h
  case ls=>
   rintro z d aO _ _ ⟨rfl,l,f,pd,rfl,vR,hc,Bw⟩
   refine wpS_bind (wpS_get ?_)
   cases hc with
   | one h1=>
    rw [if_pos (show (pendingOf (aP κ it (aI (2 ^ (5+j)) f') pd')).size<=1 from h1)]
    exact wpS_pure ⟨rfl,rfl⟩
   | @step l' _ _ _ _ a m o' o2 h1 h2 mw ok ft=>
    rw [if_neg (show ¬ (pendingOf (aP κ it (aI (2 ^ (5+j)) f) pd)).size<=1 from Nat.not_le.mpr h1)]
    refine wpS_bind (DX C vR ok h2 mw ?_)
    simp only [Bool.not_true,Bool.false_eq_true,if_false]
    exact wpS_pure ⟨rfl,l',_,_,rfl,ok.fb vR,ft,by omega⟩
end
end L2
namespace L2
open PySem PySem.Spec PyProof.Rows PySem.W
theorem du {k x:Nat}{f:Nat->Nat}{pd:Pd}{s n o pw l:Nat}{f':Nat->Nat}{pd' P1:Pd}(h1:pd.back?=some (s,n,o)) (h2:power' (2 ^ k) (2*s+n) (2*s+n+n+32) (2 ^ k)=pw) (h3:qW k pw l (seg f (32*x) 32 5) pd f' pd') (h4:l<=2 ^ k)
 (h5:P1=(pd'.modify (pd'.size-1) λ(st,len,_)=>(st,len,pw)).push (32*x,32,0)):Run k x f pd f' P1:=h5 ▸ Run.more h1 h2 h3 h4
theorem jI {k pw l:Nat}{f f':Nat->Nat}{pd pd' p1:Pd}(a m o o2:Nat) (h1:1<pd.size) (h2:pd[pd.size-2]?=some (a,2 ^ m,o)) (h3:pd[pd.size-2+1]?=some (a+2 ^ m,2 ^ m,o2)) (h4:pw<o) (ok:vN k f a m) (hp:vO pd (pd.size-2) a (2 ^ m) o=p1) (h:qW k pw l (seg f a (2*2 ^ m) (m+1)) p1 f' pd'):qW k pw (l+1) f pd f' pd':=.step h1 h2 h3 h4 ok (hp ▸ h)
theorem jJ {k l:Nat}{f f':Nat->Nat}{pd pd' p1:Pd}(i a m o o2:Nat) (h1:1<pd.size) (hi:DY pd=i) (h2:pd[i]?=some (a,2 ^ m,o)) (h3:pd[i+1]?=some (a+2 ^ m,2 ^ m,o2)) (ok:vN k f a m) (hp:vO pd i a (2 ^ m) o=p1) (h:ma k l (seg f a (2*2 ^ m) (m+1)) p1 f' pd'):ma k (l+1) f pd f' pd':=.step h1 (by rw [hi]; exact h2) (by rw [hi]; exact h3) ok (by rw [hi,hp]; exact h)
def a7:Nat->Nat:=seg id (32*0) 32 5
def b7:Nat->Nat:=seg a7 (32*1) 32 5
def c7:Nat->Nat:=seg (seg b7 (32*2) 32 5) 0 (2*2 ^ 5) (5+1)
def d7:Nat->Nat:=seg c7 (32*3) 32 5
def e7:Nat->Nat:=seg d7 64 (2*2 ^ 5) (5+1)
def z7:Nat->Nat:=seg e7 0 (2*2 ^ 6) (6+1)
def F7:Nat->Nat->Nat
 | 0=>id | 1=>a7 | 2=>b7 | 3=>c7 | _=>d7
def P7:Nat->Pd
 | 0=>#[] | 1=>#[(0,32,0)] | 2=>#[(0,32,2),(32,32,0)] | 3=>#[(0,64,1),(64,32,0)] | _=>#[(0,64,1),(64,32,2),(96,32,0)]
theorem Po:∀x,x<2 ^ 2->Run (5+2) x (F7 x) (P7 x) (F7 (x+1)) (P7 (x+1))
 | 0,_=>.first rfl
 | 1,_=>du (pw:=2) (l:=0) (pd':=#[(0,32,0)]) rfl (by decide +kernel) (.one (by decide)) (by decide) (by decide +kernel)
 | 2,_=>du (pw:=1) (l:=1) (pd':=#[(0,64,2)]) rfl (by decide +kernel) (jI 0 5 2 0 (by decide) rfl rfl (by decide) ⟨by decide,⟨0,1,rfl,rfl⟩,by decide,by decide +kernel,by decide +kernel⟩ (p1:=#[(0,64,2)]) (by decide +kernel) (.one (by decide))) (by decide) (by decide +kernel)
 | 3,_=>du (pw:=2) (l:=0) (pd':=#[(0,64,1),(64,32,0)]) rfl (by decide +kernel) (.stop (a:=0) (n:=64) (o:=1) (by decide) rfl (by decide)) (by decide) (by decide +kernel)
 | x+4,h=>absurd h (by show ¬ x+4<4; omega)
theorem Pp:ma (5+2) 2 (F7 (2 ^ 2)) (P7 (2 ^ 2)) z7 #[(0,128,1)]:=
 jJ 1 64 5 2 0 (by decide) (by decide +kernel) rfl rfl ⟨by decide,⟨1,1,rfl,rfl⟩,by decide,by decide +kernel,by decide +kernel⟩ (p1:=#[(0,64,1),(64,64,2)]) (by decide +kernel)
  (jJ 0 0 6 1 2 (by decide) (by decide +kernel) rfl rfl ⟨by decide,⟨0,0,rfl,rfl⟩,by decide,by decide +kernel,by decide +kernel⟩ (p1:=#[(0,128,1)]) (by decide +kernel) (.one (by decide)))
theorem Ul:∀x,x<=2 ^ 2->Fb (5+2) (F7 x):=by
 unfold Fb
 decide +kernel
theorem Um:∀x,x<2 ^ 2->∀t,t<32->F7 x (32*x+t)=32*x+t:=by decide +kernel
def a8:Nat->Nat:=seg id (32*0) 32 5
def b8:Nat->Nat:=seg a8 (32*1) 32 5
def c8:Nat->Nat:=seg (seg b8 (32*2) 32 5) 0 (2*2 ^ 5) (5+1)
def d8:Nat->Nat:=seg c8 (32*3) 32 5
def e8:Nat->Nat:=seg (seg (seg d8 (32*4) 32 5) 64 (2*2 ^ 5) (5+1)) 0 (2*2 ^ 6) (6+1)
def f8:Nat->Nat:=seg e8 (32*5) 32 5
def g8:Nat->Nat:=seg (seg f8 (32*6) 32 5) 128 (2*2 ^ 5) (5+1)
def h8:Nat->Nat:=seg g8 (32*7) 32 5
def y8:Nat->Nat:=seg (seg h8 192 (2*2 ^ 5) (5+1)) 128 (2*2 ^ 6) (6+1)
def z8:Nat->Nat:=seg y8 0 (2*2 ^ 7) (7+1)
def F8:Nat->Nat->Nat
 | 0=>id | 1=>a8 | 2=>b8 | 3=>c8 | 4=>d8 | 5=>e8 | 6=>f8 | 7=>g8 | _=>h8
def P8:Nat->Pd
 | 0=>#[] | 1=>#[(0,32,0)] | 2=>#[(0,32,3),(32,32,0)] | 3=>#[(0,64,2),(64,32,0)] | 4=>#[(0,64,2),(64,32,3),(96,32,0)] | 5=>#[(0,128,1),(128,32,0)] | 6=>#[(0,128,1),(128,32,3),(160,32,0)] | 7=>#[(0,128,1),(128,64,2),(192,32,0)] | _=>#[(0,128,1),(128,64,2),(192,32,3),(224,32,0)]
theorem Pq:∀x,x<2 ^ 3->Run (5+3) x (F8 x) (P8 x) (F8 (x+1)) (P8 (x+1))
 | 0,_=>.first rfl
 | 1,_=>du (pw:=3) (l:=0) (pd':=#[(0,32,0)]) rfl (by decide +kernel) (.one (by decide)) (by decide) (by decide +kernel)
 | 2,_=>du (pw:=2) (l:=1) (pd':=#[(0,64,3)]) rfl (by decide +kernel) (jI 0 5 3 0 (by decide) rfl rfl (by decide) ⟨by decide,⟨0,2,rfl,rfl⟩,by decide,by decide +kernel,by decide +kernel⟩ (p1:=#[(0,64,3)]) (by decide +kernel) (.one (by decide))) (by decide) (by decide +kernel)
 | 3,_=>du (pw:=3) (l:=0) (pd':=#[(0,64,2),(64,32,0)]) rfl (by decide +kernel) (.stop (a:=0) (n:=64) (o:=2) (by decide) rfl (by decide)) (by decide) (by decide +kernel)
 | 4,_=>du (pw:=1) (l:=2) (pd':=#[(0,128,2)]) rfl (by decide +kernel) (jI 64 5 3 0 (by decide) rfl rfl (by decide) ⟨by decide,⟨1,2,rfl,rfl⟩,by decide,by decide +kernel,by decide +kernel⟩ (p1:=#[(0,64,2),(64,64,3)]) (by decide +kernel) (jI 0 6 2 3 (by decide) rfl rfl (by decide) ⟨by decide,⟨0,1,rfl,rfl⟩,by decide,by decide +kernel,by decide +kernel⟩ (p1:=#[(0,128,2)]) (by decide +kernel) (.one (by decide)))) (by decide) (by decide +kernel)
 | 5,_=>du (pw:=3) (l:=0) (pd':=#[(0,128,1),(128,32,0)]) rfl (by decide +kernel) (.stop (a:=0) (n:=128) (o:=1) (by decide) rfl (by decide)) (by decide) (by decide +kernel)
 | 6,_=>du (pw:=2) (l:=1) (pd':=#[(0,128,1),(128,64,3)]) rfl (by decide +kernel) (jI 128 5 3 0 (by decide) rfl rfl (by decide) ⟨by decide,⟨2,2,rfl,rfl⟩,by decide,by decide +kernel,by decide +kernel⟩ (p1:=#[(0,128,1),(128,64,3)]) (by decide +kernel) (.stop (a:=0) (n:=128) (o:=1) (by decide) rfl (by decide))) (by decide) (by decide +kernel)
 | 7,_=>du (pw:=3) (l:=0) (pd':=#[(0,128,1),(128,64,2),(192,32,0)]) rfl (by decide +kernel) (.stop (a:=128) (n:=64) (o:=2) (by decide) rfl (by decide)) (by decide) (by decide +kernel)
 | x+8,h=>absurd h (by show ¬ x+8<8; omega)
theorem Pr:ma (5+3) 3 (F8 (2 ^ 3)) (P8 (2 ^ 3)) z8 #[(0,256,1)]:=
 jJ 2 192 5 3 0 (by decide) (by decide +kernel) rfl rfl ⟨by decide,⟨3,2,rfl,rfl⟩,by decide,by decide +kernel,by decide +kernel⟩ (p1:=#[(0,128,1),(128,64,2),(192,64,3)]) (by decide +kernel)
  (jJ 1 128 6 2 3 (by decide) (by decide +kernel) rfl rfl ⟨by decide,⟨1,1,rfl,rfl⟩,by decide,by decide +kernel,by decide +kernel⟩ (p1:=#[(0,128,1),(128,128,2)]) (by decide +kernel)
   (jJ 0 0 7 1 2 (by decide) (by decide +kernel) rfl rfl ⟨by decide,⟨0,0,rfl,rfl⟩,by decide,by decide +kernel,by decide +kernel⟩ (p1:=#[(0,256,1)]) (by decide +kernel) (.one (by decide))))
theorem Uo:∀x,x<=2 ^ 3->Fb (5+3) (F8 x):=by
 unfold Fb
 decide +kernel
theorem Up:∀x,x<2 ^ 3->∀t,t<32->F8 x (32*x+t)=32*x+t:=by decide +kernel
section
variable {prog:Program}{w:World}
theorem vS {k:Nat}(h:∀(A:Around) (E:Value->Shared->Prop) (s:Shared) (it:Nat->Keyed),dG prog w A s (tuples' true) it (2 ^ k) (cB k)->wpS (model prog w) A E s sortRuns' (λ_ aG=>arrOf aG=(aI (2 ^ k) (rev k)).map it/\failedOf aG=none) (aP (tuples' true) it (aI (2 ^ k) id) #[])):jT prog w (bh k) (aI (2 ^ k) (rev k)):=by
 refine ⟨by rw [cR,cT],λA E s it C=>?_⟩
 rw [cT] at C ⊢
 have e:(List.range (2 ^ k)).toArray=aI (2 ^ k) id:=by unfold aI; rw [List.map_id]
 rw [e]
 exact h A E s it (C.congr λi j hi hj=>agree k hi hj)
theorem xO {N:Nat}{f g:Nat->Nat}(h:∀i,i<N->f i=g i):aI N f=aI N g:=vJ (cR _ _) λi hi=>by rw [cN f hi,h i hi]
theorem IL:jT prog w (bh 7) (aI (2 ^ 7) (rev 7)):=vS λA E s it C=>by
 refine vP (j:=2) C F7 P7 (by decide) (by decide +kernel) rfl rfl Ul Um Po (l:=2) (f':=z7) (pd':=#[(0,128,1)]) (by decide) Pp ?_
 rw [show aI (2 ^ (5+2)) z7=aI (2 ^ 7) (rev 7) from xO λi hi=>by
  have:=qV (f:=e7) (a:=0) (n:=2*2 ^ 6) (m:=6+1) (t:=i) hi
  rw [Nat.zero_add,Nat.zero_add] at this
  exact this]
 exact ⟨rfl,rfl⟩
theorem IP:jT prog w (bh 8) (aI (2 ^ 8) (rev 8)):=vS λA E s it C=>by
 refine vP (j:=3) C F8 P8 (by decide) (by decide +kernel) rfl rfl Uo Up Pq (l:=3) (f':=z8) (pd':=#[(0,256,1)]) (by decide) Pr ?_
 rw [show aI (2 ^ (5+3)) z8=aI (2 ^ 8) (rev 8) from xO λi hi=>by
  have:=qV (f:=y8) (a:=0) (n:=2*2 ^ 7) (m:=7+1) (t:=i) hi
  rw [Nat.zero_add,Nat.zero_add] at this
  exact this]
 exact ⟨rfl,rfl⟩
theorem xP (k:Nat):((aI (2 ^ k) (rev k)).toList.map λi=>(bh k).getD i [])=cm k:=by
 apply List.ext_getElem?
 intro t
 unfold aI
 rw [List.map_map]
 by_cases h:t<2 ^ k
 . rw [Bv k t h,List.getElem?_map,List.getElem?_range h]
   rfl
 . rw [List.getElem?_eq_none (by rw [List.length_map,List.length_range]; omega),List.getElem?_eq_none (by rw [de]; omega)]
theorem Bx (k:Nat) (h1:1<=k) (h8:k<=8):∃q,jT prog w (bh k) q/\q.size=2 ^ k/\(q.toList.map λi=>(bh k).getD i [])=cm k/\∀i∈q.toList,i<2 ^ k:=by
 by_cases h6:k<=6
 . have hk:k∈[0,1,2,3,4,5,6]:=by
    rcases (show k=1\/k=2\/k=3\/k=4\/k=5\/k=6 by omega) with rfl | rfl | rfl | rfl | rfl | rfl <;> simp
   exact ⟨_,sM k h1 h6,uL k hk,xq k hk,λi hi=>by
    have:=List.all_eq_true.mp (G3 k hk) i hi
    rwa [Nat.blt_eq] at this⟩
 . have hr:∀i∈(aI (2 ^ k) (rev k)).toList,i<2 ^ k:=λi hi=>by
    unfold aI at hi
    obtain ⟨t,_,rfl⟩:=List.mem_map.mp hi
    exact jH _ _
   rcases (show k=7\/k=8 by omega) with rfl | rfl
   . exact ⟨_,IL,cR _ _,xP 7,hr⟩
   . exact ⟨_,IP,cR _ _,xP 8,hr⟩
end
section
variable {X:Cx}
theorem vT:eD X (.builtin "sorted") (λxs H Q=>∃p ts k,xs=[.ref p]/\ay X.K H p (ts.map V.ref)/\Paired (λt b=>aT X.K H t (b.map V.int)) ts (bh k)/\k<=8/\
 ∀D oS,H D=none->Paired (λt b=>aT X.K H t (b.map V.int)) oS (cm k)->Q (.ref D) (upd H D (.lst (oS.map V.ref)))):=by
 intro pins s σ H xs us Q I r h
 obtain ⟨p,ts,k,rfl,hp,hb,h8,q⟩:=h
 by_cases hk:k=0
 . exact uO pins s σ H _ us Q I r ⟨p,ts,k,rfl,hp,hb,by omega,q⟩
 obtain ⟨u,rfl,rx⟩:=vals1 r
 cases (show u=Value.ref p from rx)
 obtain ⟨its,rv,pl,hz⟩:=I.list hp
 have l1:=rv.length
 rw [List.length_map] at l1
 have l2:=hb.length
 rw [cT] at l2
 have two:2 ^ 1<=2 ^ k/\2 ^ k<=2 ^ 8:=⟨Nat.pow_le_pow_right (by decide) (by omega),Nat.pow_le_pow_right (by decide) h8⟩
 obtain ⟨Z,hS,hsz,Pt,eG⟩:=Bx (prog:=X.prog) (w:=X.w) k (by omega) h8
 refine oR (k:=k) (q:=Z) pl.isList (rE I rv hb) (jU k) (by omega) (by omega) (by omega) hS ?_
 obtain ⟨n,hn⟩:=iV s.heap its (Z.map λi=>its.getD i .none)
 have iK:=lS (d:=0) (e:=[]) hb (l:=Z.toList) (λi hi=>by have:=eG i hi; omega)
 rw [Pt] at iK
 refine ⟨.ref (s.heap.objs.size+1),_,I.laid (t':=s.toks) (o:=.lst ((Z.toList.map λi=>ts.getD i 0).map V.ref)) (λb o hb=>il hb) (by omega) ?_,rfl,q _ _ (I.hok.fresh (by omega)) iK⟩
 refine ⟨?_,(Z.map λi=>its.getD i .none).toList,n,?_,?_⟩
 . rw [List.length_map,List.length_map,Array.length_toList,hsz,sizeLine_eq]
   omega
 . have v:=pC rv (l:=Z.toList) (λi hi=>by rw [List.length_map]; have:=eG i hi; omega)
   rw [Array.toList_map]
   have e:(Z.toList.map λi=>ts.getD i 0).map V.ref=Z.toList.map λi=>(ts.map V.ref).getD i .aX:=by
    rw [List.map_map]
    refine List.map_congr_left λi hi=>?_
    show V.ref (ts.getD i 0)=_
    exact (uM (by have:=eG i hi; omega)).symm
   rw [e]
   exact v
 . rw [Array.toArray_toList]
   exact hn
end
end L2
namespace Gen
open PySem L2
abbrev oE:Stmt:=top 11
def iG (H:Hp) (ts:List Addr) (bs:List (List Int)):Prop:=Paired (λt b=>H t=some (.tup (b.map V.int))) ts bs
theorem iG.same {H H':Hp}{ts:List Addr}{bs:List (List Int)}(h:iG H ts bs) (s:aj H H'):iG H' ts bs:=Paired.cy h λt b e=>s _ _ e
def oF (K:W.Frag) (H:Hp) (ts:List Addr) (bs:List (List Int)):Prop:=Paired (λt b=>aT K H t (b.map V.int)) ts bs
theorem iG.t {K:W.Frag}{H:Hp}{ts:List Addr}{bs:List (List Int)}(h:iG H ts bs):oF K H ts bs:=Paired.cy h λt b e=>aT.of e
theorem By {K:W.Frag}{H H':Hp}{a:Addr}{xs:List V}(e:aj H H') (h:aT K H a xs):aT K H' a xs:=by
 rcases h with (h | ⟨o,h⟩) | h
 . exact .inl (.inl (e a _ h))
 . exact .inl (.inr ⟨o,e a _ h⟩)
 . exact .inr h
theorem oF.same {K:W.Frag}{H H':Hp}{ts:List Addr}{bs:List (List Int)}(h:oF K H ts bs) (s:aj H H'):oF K H' ts bs:=Paired.cy h λt b e=>By s e
def vU (K:W.Frag):Sp:=λvs H Q _=>∃(n:Nat),vs=[.int (n:Int)]/\n<=8/\∀p us H',aj H H'->H p=none->H' p=some (.lst (us.map V.ref))->oF K H' us (cm n)->Q (.ref p) H'
theorem FE (r:List Int) (b:Int):(r.map V.int++[V.int b])=(r++[b]).map V.int:=by rw [List.map_append]; rfl
theorem Nh:(["_law_one"]:List Str).Nodup:=by decide +kernel
theorem Bz {K:W.Frag}{b:Int}{D p:Addr}{Q:Hp->Prop}{H1:Hp}{ts:List Addr}{bs:List (List Int)}(hD:H1 D=none) (hp:H1 p=some (.lst (ts.map V.ref))) (h2:iG H1 ts bs) (hlen:bs.length<=256) (hk:∀r∈bs,r.length<=8)
 (fin:∀H4 ws,aj H1 H4->H4 D=some (.lst (ws.map V.ref))->iG H4 ws (bs.map (· ++ [b]))->Q H4) :
 ∃W:Nat->Nat->St->Hp->Prop,(∃m,W 0 m [none] (upd H1 D (.lst [])))/\xb D (dm 0) nz (rX (tK K) (ib 0) (BW (lI (tC (.int b)) yf))) (t7 K p) W Q:=by
 have hl:=h2.length
 refine fQ bs.length (λj acc cg H4=>(∃ws:List Addr,acc=ws.map V.ref/\iG H4 ws ((bs.take j).map (· ++ [b]))/\ws.length=j)/\(∃u,cg=[u])/\aj H1 H4) ⟨⟨[],rfl,.nil,rfl⟩,⟨none,rfl⟩,aj.ar hD⟩ ae ?_ ?_
 . rintro acc cg H4 cP ⟨⟨ws,rfl,DZ,_⟩,_,s4⟩
   rw [List.take_length] at DZ
   exact ⟨⟨_,ay.of (s4 _ _ hp),by rw [List.length_map,hl]; exact Nat.le_refl _⟩,fin H4 ws s4 cP DZ⟩
 . rintro j acc cg H4 hj cP ⟨⟨ws,rfl,DZ,zW⟩,⟨u,rfl⟩,s4⟩
   have mG:bs[j]?=some bs[j]:=List.getElem?_eq_getElem hj
   obtain ⟨t,ht,hT⟩:=gx h2 (i:=j) mG
   have ej:(ts.map V.ref)[j]?=some (.ref t):=by rw [List.getElem?_map,ht]; rfl
   refine ⟨⟨_,_,ay.of (s4 _ _ hp),ej⟩,?_⟩
   rintro x' H' ⟨rfl,jo⟩
   have ex:=jo _ (ay.of (s4 _ _ hp))
   rw [ej] at ex
   cases ex
   refine dM ?_
   have ky:(bs.take (j+1)).map (· ++ [b])=(bs.take j).map (· ++ [b])++[bs[j]++[b]]:=by
    rw [List.take_succ,mG,List.map_append]
    rfl
   have BA:=hk _ (List.getElem_mem hj)
   generalize bs[j]=r at hT ky BA
   have fin2:∀(R:Addr) (J:Hp),aj H' J->J R=some (.tup ((r++[b]).map V.int))->∃acc,J D=some (.lst acc)/\acc.length<sizeLine/\∃m',m'<bs.length-j/\Ae D bs.length (λj acc cg H4=>(∃ws:List Addr,acc=ws.map V.ref/\iG H4 ws ((bs.take j).map (· ++ [b]))/\ws.length=j)/\(∃u,cg=[u])/\aj H1 H4) (j+1) m' [some (.ref t)] (upd J D (.lst (acc++[.ref R]))):=by
    intro R J sJ hR
    have Ni:=sJ _ _ cP
    have nt:∀{b:Addr}{o:List V},J b=some (.tup o)->b≠D:=λhb e=>by rw [e,Ni] at hb; cases hb
    refine ⟨_,Ni,(by rw [List.length_map]; exact small (by omega)),cJ hj ae ⟨⟨ws++[R],by rw [List.map_append]; rfl,?_,by rw [List.length_append,List.length_singleton,zW]⟩,⟨_,rfl⟩,?_⟩⟩
    . rw [ky]
      refine Paired.snoc (Paired.cy DZ λc d e=>?_) ?_
      . have:=sJ _ _ e
        rw [ai (nt this)]
        exact this
      . rw [ai (nt hR)]
        exact hR
    . intro y o hy
      rw [ai (ab hy hD)]
      exact sJ _ _ (s4 _ _ hy)
   refine ⟨_,rfl,(by show 1<=sizeLine; decide),λT1 Uq=>?_⟩
   have z1:aj H' (upd H' T1 (.tup [.int b])):=aj.ar Uq
   have z2:(upd H' T1 (.tup [.int b])) T1=some (.tup [.int b]):=ae
   generalize upd H' T1 (.tup [.int b])=J3 at z1 z2 ⊢
   refine ⟨t,T1,_,_,rfl,rfl,aT.of (z1 _ _ (s4 _ _ hT)),aT.of z2,(by simp),?_,λe=>?_,λ_ R hR=>?_⟩
   . rw [List.length_map]
     exact uD (by show r.length+1<=1000; omega)
   . have:r=[]:=List.map_eq_nil_iff.mp e
     subst this
     exact fin2 T1 J3 z1 z2
   . exact fin2 R _ (z1.trans (aj.ar hR)) (by rw [ae,FE])
section
variable {P:Program}{w:World}{K:W.Frag}{mg:Str->Option Value}{base:Heap}
theorem BB {H H':Hp}{D:Addr}(s:aj H H') (h:H' D=none):H D=none:=by
 cases e:H D with
 | none=>rfl
 | some o=>rw [s _ _ e] at h; cases h
theorem zb:aZ ["_law_many", "_law_found", "_law_k"] ["_law_many"] (ao oE):=⟨rfl,rfl,rfl,by decide +kernel,rfl,by decide +kernel,by decide +kernel⟩
theorem wH {f:Addr}{fd:FuncData}(F:cw K "_law_all_bits" "_law_all_bits" oE f fd) (O:Own mg) (hS:mg "sorted" = none):av P w K mg base aE 1 f fd ["_law_many"] (vU K):=by
 refine F.ok zb (λvs H Q E h=>?_) (λcdv A outer s H vs Q E hr h=>?_)
 . obtain ⟨k,rfl,_⟩:=h
   rfl
 . obtain ⟨n,rfl,n8,kk⟩:=h
   refine ⟨_,ag (ax (i:=1) zb.nd rfl (Or.inl rfl) (fw (aa (dE af) af)))
    (ag (d9 PassesOwn.never rfl (cV rfl O.range (aa (pv 0) af)) (aQ (i:=2) zb.nd rfl (Or.inl rfl))
     (aq (ax (i:=1) zb.nd rfl (Or.inl rfl) (aD nv
      (eE (N:=["_law_one"]) (js:=[none]) (by kernel_rfl) rfl (kq (pv 1)) (λ_ _ _ _ _ _=>aQ (i:=0) Nh rfl (Or.inl rfl) (.inr rfl)) (λ_ _ _ _ _ _=>cI) (λ_ _ _ _ _ _=>aD (r:=tK K) xr (pv 0) (dE (aa ah af))))
      (eE (N:=["_law_one"]) (js:=[none]) (by kernel_rfl) rfl (kq (pv 1)) (λ_ _ _ _ _ _=>aQ (i:=0) Nh rfl (Or.inl rfl) (.inr rfl)) (λ_ _ _ _ _ _=>cI) (λ_ _ _ _ _ _=>aD (r:=tK K) xr (pv 0) (dE (aa ah af))))))))
    (aq (aK (aU vT (by rfl) hS PyProof.Rows.boot_sorted (aa (pv 1) af))))),?_⟩
   refine ⟨(by show 0<=sizeLine; decide),λe he=>?_⟩
   have t0:aj H (upd H e (.tup [])):=aj.ar he
   have q0:(upd H e (.tup [])) e=some (.tup (([]:List Int).map V.int)):=ae
   generalize upd H e (.tup [])=H0 at t0 q0 ⊢
   refine ⟨(by show 1<=sizeLine; decide),λp0 Ur=>?_⟩
   have t1:aj H0 (upd H0 p0 (.lst [.ref e])):=aj.ar Ur
   have q1:(upd H0 p0 (.lst [.ref e])) p0=some (.lst ([e].map V.ref)):=ae
   generalize upd H0 p0 (.lst [.ref e])=H1 at t1 q1 ⊢
   have Us:=t0.trans t1
   refine ⟨_,rfl,_,rfl,Int.le_trans (by decide : -(2 ^ 62)<=(0:Int)) (by omega),Int.lt_of_le_of_lt (by omega:((n:Nat):Int)<=256) (by decide),eL (n:=((n:Int)).toNat) (λi σ Hi=>∃(p:Addr) (ts:List Addr) (v2:Option V),σ=[some (.int (n:Int)),some (.ref p),v2]/\Hi p=some (.lst (ts.map V.ref))/\iG Hi ts (bh i)/\aj H Hi) ?_ ?_ ?_⟩
   . exact ⟨p0,[e],none,rfl,q1,.cons (t1 _ _ q0) .nil,Us⟩
   . rintro i σ Hi hi ⟨p,ts,v2,rfl,hp,eU,si⟩
     rw [Int.toNat_natCast] at hi
     have Az:(bh i).length<=256:=by
      rw [cT]
      exact nV (by omega)
     have oI:∀r∈bh i,r.length<=8:=λr AI=>by rw [jU i r AI]; omega
     refine ⟨_,rfl,p,rfl,⟨_,ay.of hp⟩,λD hD=>Bz hD hp eU Az oI λH2 ws s2 jv Dz=>?_⟩
     refine ⟨_,rfl,p,rfl,⟨_,ay.of (s2 _ _ hp)⟩,λD' Ut=>Bz Ut (s2 _ _ hp) (eU.same s2) Az oI λH3 Uu s3 oN DA=>?_⟩
     have l1:=Dz.length
     have l2:=DA.length
     rw [List.length_map] at l1 l2
     refine ⟨D,D',_,_,rfl,rfl,s3 _ _ jv,oN,(by rw [List.length_map,List.length_map]; exact uD (by omega)),λR hR=>⟨R,ws++Uu,_,rfl,?_,?_,?_⟩⟩
     . rw [ae,List.map_append]
     . rw [bh]
       exact b0 (Paired.cy Dz λt b e=>by have:=s3 _ _ e; rw [ai (ab this hR)]; exact this) (Paired.cy DA λt b e=>by rw [ai (ab e hR)]; exact e)
     . exact si.trans (s2.trans (s3.trans (aj.ar hR)))
   . rintro σ Hi ⟨p,ts,v2,rfl,hp,eU,si⟩
     rw [Int.toNat_natCast] at eU
     refine ⟨_,rfl,p,ts,n,rfl,ay.of hp,eU.t,n8,λD oS hD Pu=>?_⟩
     exact kk D oS _ (si.trans (aj.ar hD)) (BB si hD) ae (oF.same Pu (aj.ar hD))
end
def bI (b:Bool):Int:=if b=true then 1 else 0
def rowOf (e:Str->Bool) (names:List Str):List Int:=names.map λn=>bI (e n)
theorem me:∀k,cm (k+1)=(cm k).map (0 :: ·)++(cm k).map (1 :: ·)
 | 0=>rfl
 | k+1=>by
  have dist:∀(x:Int) (l:List (List Int)),(l.map (x :: ·)).flatMap (λr=>[r++[(0:Int)],r++[1]])=(l.flatMap λr=>[r++[(0:Int)],r++[1]]).map (x :: ·):=λx l=>by
   induction l with
   | nil=>rfl
   | cons a l ih=>rw [List.map_cons,List.flatMap_cons,ih,List.flatMap_cons,List.map_append]; rfl
  have h:=me k
  rw [show cm (k+1+1)=(cm (k+1)).flatMap λr=>[r++[0],r++[1]] from rfl,h,List.flatMap_append,dist,dist,← h]
  rfl
theorem gh {k t:Nat}(h:t<2 ^ k):(cm (k+1))[t]?=((cm k)[t]?).map (0 :: ·):=by
 rw [me,List.getElem?_append_left (by rw [List.length_map,de]; exact h),List.getElem?_map]
theorem gi {k t:Nat}(h:¬ t<2 ^ k):(cm (k+1))[t]?=((cm k)[t-2 ^ k]?).map (1 :: ·):=by
 rw [me,List.getElem?_append_right (by rw [List.length_map,de]; omega),List.length_map,de,List.getElem?_map]
theorem iS (e:Str->Bool):∀(names:List Str) (bs:List Bool) (t:Nat),bs.length=2 ^ names.length->(cm names.length)[t]?=some (rowOf e names)->ev e (cn names bs)=bs.getD t false
 | [],bs,t,h1,h2=>by
  match bs,h1 with
  | [b],_=>
   have:t<1:=(List.getElem?_eq_some_iff.mp h2).1
   have:t=0:=by omega
   subst this
   rfl
 | n::r,bs,t,h1,h2=>by
  rw [List.length_cons] at h1 h2
  have hp:=vz r.length
  have hq:=Nat.pow_succ 2 r.length
  have lt:=(List.getElem?_eq_some_iff.mp h2).1
  rw [de] at lt
  rw [KC,h1,hp]
  by_cases q:t<2 ^ r.length
  . rw [gh q,Option.map_eq_some_iff] at h2
    obtain ⟨x,hx,e1⟩:=h2
    have e2:=List.cons.inj e1
    have en:e n=false:=by
     cases h:e n
     . rfl
     . have:=e2.1
       rw [show (λn=>bI (e n)) n=1 by show bI (e n)=1; rw [h]; rfl] at this
       cases this
    rw [en,if_neg (by decide),iS e r _ t (by rw [List.length_take]; omega) (by rw [hx,e2.2]; rfl),List.getD_eq_getElem?_getD,List.getD_eq_getElem?_getD,List.getElem?_take_of_lt q]
  . rw [gi q,Option.map_eq_some_iff] at h2
    obtain ⟨x,hx,e1⟩:=h2
    have e2:=List.cons.inj e1
    have en:e n=true:=by
     cases h:e n
     . have:=e2.1
       rw [show (λn=>bI (e n)) n=0 by show bI (e n)=0; rw [h]; rfl] at this
       cases this
     . rfl
    rw [en,if_pos rfl,iS e r _ (t-2 ^ r.length) (by rw [List.length_drop]; omega) (by rw [hx,e2.2]; rfl),List.getD_eq_getElem?_getD,List.getD_eq_getElem?_getD,List.getElem?_drop,show 2 ^ r.length+(t-2 ^ r.length)=t by omega]
theorem vV (e:Str->Bool):∀(names:List Str),∃t,t<2 ^ names.length/\(cm names.length)[t]?=some (rowOf e names)
 | []=>⟨0,by decide,rfl⟩
 | n::r=>by
  obtain ⟨t,h1,h2⟩:=vV e r
  rw [List.length_cons]
  have hq:=Nat.pow_succ 2 r.length
  cases h:e n
  . refine ⟨t,by omega,?_⟩
    rw [gh h1,h2]
    show some (0::rowOf e r)=some (bI (e n)::rowOf e r)
    rw [h]
    rfl
  . refine ⟨2 ^ r.length+t,by omega,?_⟩
    rw [gi (by omega),Nat.add_sub_cancel_left,h2]
    show some (1::rowOf e r)=some (bI (e n)::rowOf e r)
    rw [h]
    rfl
theorem pM:∀(k:Nat),∀r∈cm k,r.length=k/\∀x∈r,x=0\/x=1
 | 0,r,h=>by
  rw [show r=[] from List.mem_singleton.mp h]
  exact ⟨rfl,λ_ h=>nomatch h⟩
 | k+1,r,h=>by
  rw [me] at h
  rcases List.mem_append.mp h with h | h
  . obtain ⟨q,hq,rfl⟩:=List.mem_map.mp h
    obtain ⟨l,b⟩:=pM k q hq
    exact ⟨by rw [List.length_cons,l],λx hx=>by rcases List.mem_cons.mp hx with rfl | hx; exact .inl rfl; exact b x hx⟩
  . obtain ⟨q,hq,rfl⟩:=List.mem_map.mp h
    obtain ⟨l,b⟩:=pM k q hq
    exact ⟨by rw [List.length_cons,l],λx hx=>by rcases List.mem_cons.mp hx with rfl | hx; exact .inr rfl; exact b x hx⟩
end Gen
namespace Gen
open PySem L2
theorem ly {n u:Nat}(h:u<2 ^ n):2 ^ n ^^^ u=2 ^ n+u:=by
 apply Nat.eq_of_testBit_eq
 intro j
 rw [Nat.testBit_xor]
 rcases Nat.lt_trichotomy j n with q | q | q
 . rw [Nat.testBit_two_pow_add_gt q,Nat.testBit_two_pow_of_ne (by omega)]
   simp
 . subst q
   rw [Nat.testBit_two_pow_add_eq,Nat.testBit_two_pow_self,Nat.testBit_lt_two_pow h]
   rfl
 . have h1:u<2 ^ j:=Nat.lt_of_lt_of_le h (Nat.pow_le_pow_right (by decide) (by omega))
   have h2:2 ^ n+u<2 ^ j:=by
    have:2 ^ (n+1)<=2 ^ j:=Nat.pow_le_pow_right (by decide) (by omega)
    rw [Nat.pow_succ] at this
    omega
   rw [Nat.testBit_two_pow_of_ne (by omega),Nat.testBit_lt_two_pow h1,Nat.testBit_lt_two_pow h2]
   rfl
theorem BC {e e':Str->Bool}{names:List Str}(h:∀n∈names,e n=e' n):rowOf e names=rowOf e' names:=List.map_congr_left λn hn=>by rw [h n hn]
theorem pN (e:Str->Bool):∀(names:List Str) (s t:Nat) (n:Str),names.Nodup->names[s]?=some n->(cm names.length)[t]?=some (rowOf e names)->(cm names.length)[t ^^^ 2 ^ (names.length-1-s)]?=some (rowOf (put e n (!e n)) names)
 | [],s,t,n,_,h,_=>by simp at h
 | m::r,s,t,n,hn,hs,ht=>by
  have iZ:=List.nodup_cons.mp hn
  rw [List.length_cons] at ht ⊢
  have lt:=(List.getElem?_eq_some_iff.mp ht).1
  rw [de,Nat.pow_succ] at lt
  cases s with
  | zero=>
   have em:m=n:=by simpa using hs
   subst em
   rw [show r.length+1-1-0=r.length by omega]
   have D0:rowOf (put e m (!e m)) r=rowOf e r:=BC λz hz=>if_neg λq:z=m=>iZ.1 (by rw [← q]; exact hz)
   have qX:put e m (!e m) m = !e m:=if_pos rfl
   by_cases q:t<2 ^ r.length
   . rw [gh q,Option.map_eq_some_iff] at ht
     obtain ⟨x,hx,e1⟩:=ht
     have e2:=List.cons.inj e1
     rw [Nat.xor_comm,ly q,gi (by omega),Nat.add_sub_cancel_left,hx]
     show some (1::x)=some (bI (put e m (!e m) m)::rowOf (put e m (!e m)) r)
     rw [qX,D0,e2.2]
     have h0:(0:Int)=bI (e m):=e2.1
     cases h:e m
     . rfl
     . rw [h] at h0
       cases h0
   . rw [gi q,Option.map_eq_some_iff] at ht
     obtain ⟨x,hx,e1⟩:=ht
     have e2:=List.cons.inj e1
     have et:t=2 ^ r.length+(t-2 ^ r.length):=by omega
     have ex:t ^^^ 2 ^ r.length=t-2 ^ r.length:=by
      rw [et,← ly (show t-2 ^ r.length<2 ^ r.length by omega),Nat.xor_comm,← Nat.xor_assoc,Nat.xor_self,Nat.zero_xor,ly (by omega)]
      omega
     rw [ex,gh (by omega),hx]
     show some (0::x)=some (bI (put e m (!e m) m)::rowOf (put e m (!e m)) r)
     rw [qX,D0,e2.2]
     have h0:(1:Int)=bI (e m):=e2.1
     cases h:e m
     . rw [h] at h0
       cases h0
     . rfl
  | succ s=>
   have sD:r[s]?=some n:=by simpa using hs
   have sl:=(List.getElem?_eq_some_iff.mp sD).1
   have gr:m≠n:=λq=>iZ.1 (q ▸ List.mem_of_getElem? sD)
   have qX:put e n (!e n) m=e m:=if_neg gr
   rw [show r.length+1-1-(s+1)=r.length-1-s by omega]
   have hf:2 ^ (r.length-1-s)<2 ^ r.length:=Nat.pow_lt_pow_right (by decide) (by omega)
   by_cases q:t<2 ^ r.length
   . rw [gh q,Option.map_eq_some_iff] at ht
     obtain ⟨x,hx,e1⟩:=ht
     have e2:=List.cons.inj e1
     have ih:=pN e r s t n iZ.2 sD (by rw [hx,e2.2]; rfl)
     rw [gh (Nat.xor_lt_two_pow q hf),ih]
     show some (0::rowOf (put e n (!e n)) r)=some (bI (put e n (!e n) m)::rowOf (put e n (!e n)) r)
     rw [qX,← show (0:Int)=bI (e m) from e2.1]
   . rw [gi q,Option.map_eq_some_iff] at ht
     obtain ⟨x,hx,e1⟩:=ht
     have e2:=List.cons.inj e1
     have ih:=pN e r s (t-2 ^ r.length) n iZ.2 sD (by rw [hx,e2.2]; rfl)
     have hu:t-2 ^ r.length<2 ^ r.length:=by omega
     have vQ:=Nat.xor_lt_two_pow hu hf
     have ex:t ^^^ 2 ^ (r.length-1-s)=2 ^ r.length+((t-2 ^ r.length) ^^^ 2 ^ (r.length-1-s)):=by
      rw [← ly vQ,← Nat.xor_assoc,ly hu]
      congr 1
      omega
     rw [ex,gi (by omega),Nat.add_sub_cancel_left,ih]
     show some (1::rowOf (put e n (!e n)) r)=some (bI (put e n (!e n) m)::rowOf (put e n (!e n)) r)
     rw [qX,← show (1:Int)=bI (e m) from e2.1]
def mx (F:List Bool) (far:Nat):List Bool:=(List.range F.length).map λt=>F.getD t false || F.getD (t ^^^ far) false
theorem KG {names:List Str}{F:List Bool}{s:Nat}{n:Str}(hn:names.Nodup) (hF:F.length=2 ^ names.length) (hs:names[s]?=some n) (e:Str->Bool):ev e (cn names (mx F (2 ^ (names.length-1-s))))=(ev e (cn names F) || ev (put e n (!e n)) (cn names F)):=by
 obtain ⟨t,h1,h2⟩:=vV e names
 have h3:=pN e names s t n hn hs h2
 rw [iS e names _ t (by unfold mx; rw [List.length_map,List.length_range]; exact hF) h2,iS e names F t hF h2,iS _ names F _ hF h3]
 unfold mx
 rw [List.getD_eq_getElem?_getD,List.getElem?_map,List.getElem?_range (by omega)]
 rfl
def i0:List Bool->Nat:=List.foldl (λa b=>2*a+(if b=true then 1 else 0)) 0
theorem rN:∀(cs:List Bool) (a:Nat),cs.foldl (λa b=>2*a+(if b=true then 1 else 0)) a=a*2 ^ cs.length+i0 cs
 | [],a=>by show a=a*1+0; omega
 | b::cs,a=>by
  have e0:i0 (b::cs)=(if b=true then 1 else 0)*2 ^ cs.length+i0 cs:=by
   show cs.foldl _ (2*0+(if b=true then 1 else 0))=_
   rw [rN cs,Nat.mul_zero,Nat.zero_add]
  have e1:2*a*2 ^ cs.length=a*(2 ^ cs.length*2):=by rw [Nat.mul_comm 2 a,Nat.mul_assoc,Nat.mul_comm 2]
  rw [List.foldl_cons,rN cs,e0,List.length_cons,Nat.pow_succ,Nat.add_mul,e1]
  omega
theorem vW:∀(cs:List Bool),i0 cs<2 ^ cs.length/\(cm cs.length)[i0 cs]?=some (cs.map bI)
 | []=>⟨by decide,rfl⟩
 | b::cs=>by
  obtain ⟨h1,h2⟩:=vW cs
  have e:i0 (b::cs)=(if b=true then 1 else 0)*2 ^ cs.length+i0 cs:=by
   show cs.foldl _ (2*0+(if b=true then 1 else 0))=_
   rw [rN cs,Nat.mul_zero,Nat.zero_add]
  rw [List.length_cons,Nat.pow_succ,e]
  cases b
  . rw [if_neg (by decide),Nat.zero_mul,Nat.zero_add,gh h1,h2]
    exact ⟨by omega,rfl⟩
  . rw [if_pos rfl,Nat.one_mul,gi (by omega),Nat.add_sub_cancel_left,h2]
    exact ⟨by omega,rfl⟩
end Gen
namespace Gen
open PySem L2
abbrev lz:Stmt:=top 17
abbrev lA:Stmt:=top 18
theorem vX {ns:List Str}{t:Tr}(h:cq ns t){e e':Str->Bool}(he:∀n∈ns,e n=e' n):ev e t=ev e' t:=by
 induction h with
 | leaf=>rfl
 | node _ _ _ i1 i2=>
  unfold ev
  rw [he _ List.mem_cons_self,i1 λn hn=>he n (List.mem_cons_of_mem _ hn),i2 λn hn=>he n (List.mem_cons_of_mem _ hn)]
 | skip _ i=>exact i λn hn=>he n (List.mem_cons_of_mem _ hn)
theorem tm {ns G G':List Str}{t:Tr}(h:cq ns t) (hG:∀n∈ns,n∈G->n∈G'){e:Str->Bool} : hX G e t->hX G' e t:=λ⟨e',h1,h2⟩=>by
 classical
 refine ⟨λz=>if z∈ns then e' z else e z,λz hz=>?_,?_⟩
 . by_cases q:z∈ns
   . show (if z∈ns then e' z else e z)=e z
     rw [if_pos q]
     exact h1 z λhg=>hz (hG z q hg)
   . show (if z∈ns then e' z else e z)=e z
     rw [if_neg q]
 . rw [← h2]
   exact vX h λn hn=>if_pos hn
theorem CS {G:List Str}{n:Str}{e:Str->Bool}{t:Tr} : hX (G++[n]) e t ↔ hX G e t\/hX G (put e n (!e n)) t:=by
 constructor
 . rintro ⟨e',h1,h2⟩
   by_cases q:e' n=e n
   . refine .inl ⟨e',λz hz=>?_,h2⟩
     by_cases w:z=n
     . rw [w]
       exact q
     . exact h1 z λhg=>by
        rcases List.mem_append.mp hg with hg | hg
        . exact hz hg
        . exact w (List.mem_singleton.mp hg)
   . refine .inr ⟨e',λz hz=>?_,h2⟩
     by_cases w:z=n
     . rw [w,show put e n (!e n) n = !e n from if_pos rfl]
       cases h:e n <;> cases h':e' n <;> rw [h,h'] at q <;> first | rfl | exact absurd rfl q
     . rw [show put e n (!e n) z=e z from if_neg w]
       exact h1 z λhg=>by
        rcases List.mem_append.mp hg with hg | hg
        . exact hz hg
        . exact w (List.mem_singleton.mp hg)
 . rintro (⟨e',h1,h2⟩ | ⟨e',h1,h2⟩)
   . exact ⟨e',λz hz=>h1 z λhg=>hz (List.mem_append_left _ hg),h2⟩
   . refine ⟨e',λz hz=>?_,h2⟩
     rw [h1 z λhg=>hz (List.mem_append_left _ hg)]
     exact if_neg λq:z=n=>hz (List.mem_append_right _ (by rw [q]; exact List.mem_singleton_self _))
def xQ:Sp:=λvs H Q _=>∃(r:Addr) (cs:List Bool),vs=[.ref r]/\H r=some (.lst (cs.map bV))/\cs.length<=8/\Q (.int ((i0 cs:Nat):Int)) H
section
variable {P:Program}{w:World}{K:W.Frag}{mg:Str->Option Value}{base:Heap}
theorem zc:aZ ["_law_row", "_law_place_here", "_law_bit"] ["_law_row"] (ao lz):=⟨rfl,rfl,rfl,by decide +kernel,rfl,by decide +kernel,by decide +kernel⟩
theorem CT {f:Addr}{fd:FuncData}(F:cw K "_law_place" "_law_place" lz f fd):av P w K mg base aE 1 f fd ["_law_row"] xQ:=by
 refine F.ok zc (λvs H Q E h=>?_) (λcdv A outer s H vs Q E hr h=>?_)
 . obtain ⟨r,cs,rfl,_⟩:=h
   rfl
 . obtain ⟨r,cs,rfl,Nj,hl,kk⟩:=h
   refine ⟨_,ag (ax (i:=1) zc.nd rfl (Or.inl rfl) ah)
    (ag (d9 PassesOwn.never rfl (kq (pv 0)) (aQ (i:=2) zc.nd rfl (Or.inl rfl)) (aq (ax (i:=1) zc.nd rfl (Or.inl rfl) (aD dw (aD eM ah (pv 1)) (pv 2)))))
    (aq (aK (pv 1)))),?_⟩
   refine ⟨_,rfl,r,rfl,⟨_,ay.of Nj⟩,BQ (K:=K) (a:=r) (xs:=cs.map bV) (λi σ Hi=>Hi=H/\∃v2,σ=[some (.ref r),some (.int ((i0 (cs.take i):Nat):Int)),v2]) ⟨rfl,none,rfl⟩ ?_ ?_ ?_⟩
   . rintro i σ Hi _ ⟨rfl,_⟩
     exact ay.of Nj
   . rintro i x σ Hi hx ⟨rfl,v2,rfl⟩
     have hi:i<cs.length:=by
      have:=(List.getElem?_eq_some_iff.mp hx).1
      rwa [List.length_map] at this
     have ex:x=bV cs[i]:=by
      rw [List.getElem?_map,List.getElem?_eq_getElem hi] at hx
      exact (Option.some.inj hx).symm
     subst ex
     have hp:i0 (cs.take (i+1))=2*i0 (cs.take i)+(if cs[i]=true then 1 else 0):=by
      unfold i0
      rw [List.take_succ,List.getElem?_eq_getElem hi,Option.toList_some,List.foldl_append]
      rfl
     refine ⟨_,rfl,_,_,rfl,rfl,.inl ⟨by decide,by decide⟩,_,rfl,_,_,rfl,rfl,rfl,some (bV cs[i]),?_⟩
     rw [hp]
     cases cs[i] <;> rfl
   . rintro σ Hi ⟨rfl,v2,rfl⟩
     rw [List.length_map,List.take_length]
     exact ⟨_,rfl,kk⟩
end
end Gen
namespace Gen
open PySem L2
theorem pO {K:W.Frag}{a:Addr}{xs:List V}{g:TG}{tb:TS}{D:Ends}{σ:St}{H:Hp}(Pv:Nat->St->Hp->Prop) (h0:Pv 0 σ H) (hl:∀i σ H,i<=xs.length->Pv i σ H->ay K H a xs)
 (hs:∀i x T σ H,xs[i]?=some x->H T=none->Pv i σ H->g (.ref T) σ (upd H T (.tup [.int (i:Int),x])) λgb H2=>tb { D with nx:=Pv (i+1),ct:=Pv (i+1),bk:=D.nx } gb H2) (hd:∀σ H,Pv xs.length σ H->D.nx σ H) :
 ∃W:Nat->Nat->St->Hp->Prop,(∃m,W 0 m σ H)/\∀i m σ H,W i m σ H->
  ((Ai K a).stop i H/\D.nx σ H)\/((Ai K a).go i H/\∃N:St->Hp->Prop,(∀cg H',N cg H'->∃m',m'<m/\W (i+1) m' cg H')/\∀x H',(Ai K a).yld i H x H'->g x σ H' λgb H2=>tb { D with nx:=N,ct:=N,bk:=D.nx } gb H2):=by
 refine ⟨λi m σ H=>m=xs.length-i/\i<=xs.length/\Pv i σ H,⟨xs.length,by simp,Nat.zero_le _,h0⟩,?_⟩
 rintro i m σ H ⟨rfl,hi,p⟩
 have q:=hl i σ H hi p
 by_cases dv:i<xs.length
 . refine .inr ⟨⟨xs,xs[i],q,by simp [dv]⟩,Pv (i+1),λcg H' p'=>⟨xs.length-(i+1),by omega,rfl,dv,p'⟩,λx H' y=>?_⟩
   obtain ⟨T,v,rfl,hT,rfl,hv⟩:=y
   exact hs i v T σ H (hv xs q) hT p
 . refine .inl ⟨⟨xs,q,by omega⟩,?_⟩
   obtain rfl:i=xs.length:=by omega
   exact hd σ H p
theorem xor_int (t far:Nat):Builtin.bitXor (t:Int) (far:Int)=((t ^^^ far:Nat):Int):=by
 have h1:Builtin.bitXor (t:Int) (far:Int)=Builtin.bitOr (t:Int) (far:Int)-Builtin.bitAnd (t:Int) (far:Int):=rfl
 rw [h1,PyProof.Rows.bitOr_and,PyProof.Rows.bitAnd_pp (by omega) (by omega),Int.toNat_natCast,Int.toNat_natCast]
 have h2:(t ^^^ far)+2*(t &&& far)=t+far:=by
  have a1:(t ^^^ far)+(t &&& far)=(t ||| far):=by
   have:=PyProof.Rows.nat_or_add_and (t ^^^ far) (t &&& far)
   have z:(t ^^^ far) &&& (t &&& far)=0:=by
    apply Nat.eq_of_testBit_eq
    intro j
    rw [Nat.testBit_and,Nat.testBit_xor,Nat.testBit_and,Nat.zero_testBit]
    cases t.testBit j <;> cases far.testBit j <;> rfl
   have o:(t ^^^ far) ||| (t &&& far)=t ||| far:=by
    apply Nat.eq_of_testBit_eq
    intro j
    rw [Nat.testBit_or,Nat.testBit_xor,Nat.testBit_and,Nat.testBit_or]
    cases t.testBit j <;> cases far.testBit j <;> rfl
   rw [z,o] at this
   omega
  have a2:=PyProof.Rows.nat_or_add_and t far
  omega
 omega
def rO:Sp:=λvs H Q _=>∃(p q tl:Addr) (names told:List Str) (bs:List Bool),vs=[.ref p,.ref q,.ref tl]/\Ord H p names/\H q=some (.lst (bs.map bV))/\bs.length=2 ^ names.length/\H tl=some (.lst (told.map V.str))/\
 ∀(r:Addr) (cs:List Bool) (H':Hp),aj H H'->H' r=some (.lst (cs.map bV))->cs.length=2 ^ names.length->(∀e,ev e (cn names cs)=true ↔ hX told e (cn names bs))->Q (.ref r) H'
abbrev Uv:List Str:=["_law_names", "_law_bits_here", "_law_told", "_law_found", "_law_spot", "_law_name", "_law_far"]
theorem KH:(["_law_place_here", "_law_found", "_law_far"]:List Str).Nodup:=by decide +kernel
theorem KI {K:W.Frag}{D a:Addr}{F:List Bool}{far:Nat}{Q:Hp->Prop}{H:Hp}(hD:H D=none) (ha:H a=some (.lst (F.map bV))) (hs:F.length<=256) (hx:∀t,t<F.length->t ^^^ far<F.length)
 (fin:∀H',aj H H'->H' D=some (.lst ((mx F far).map bV))->Q H') :
 ∃W:Nat->Nat->St->Hp->Prop,(∃m,W 0 m [none,some (.ref a),some (.int (far:Int))] (upd H D (.lst [])))/\xb D (dm 0) nz (λσ H Q=>rX (dt K) (ib 1) (ib 0) σ H λx H1=>rX (dt K) (ib 1) (rX (pV λi j=>.int (Builtin.bitXor i j)) (ib 0) (ib 2)) σ H1 λy H2=>∃i j,[x,y]=[.int i,.int j]/\Q (.int (if j>i then j else i)) H2) (t8 0 F.length) W Q:=by
 refine fQ F.length (λi acc σ H9=>acc=((List.range i).map λt=>F.getD t false || F.getD (t ^^^ far) false).map bV/\(∃u,σ=[u,some (.ref a),some (.int (far:Int))])/\aj H H9) ⟨rfl,⟨none,rfl⟩,aj.ar hD⟩ ae ?_ ?_
 . rintro acc σ H9 cP ⟨rfl,_,s9⟩
   exact ⟨Nat.le_refl _,fin H9 s9 cP⟩
 . rintro i acc σ H9 hi cP ⟨rfl,⟨u,rfl⟩,s9⟩
   refine ⟨hi,?_⟩
   rintro x H' ⟨rfl,rfl⟩
   have nM:=hx i hi
   have g1:(F.map bV)[i]?=some (bV (F.getD i false)):=by rw [List.getElem?_map,List.getD_eq_getElem?_getD,List.getElem?_eq_getElem hi]; rfl
   have g2:(F.map bV)[i ^^^ far]?=some (bV (F.getD (i ^^^ far) false)):=by rw [List.getElem?_map,List.getD_eq_getElem?_getD,List.getElem?_eq_getElem nM]; rfl
   refine dM ⟨_,rfl,_,rfl,a,_,_,bV (F.getD i false),rfl,rfl,ay.of (s9 _ _ ha),?_,?_⟩
   . show jQ _ (0+(i:Int))=_
     rw [Int.zero_add]
     exact aF g1
   refine ⟨_,rfl,_,rfl,_,rfl,_,_,rfl,rfl,a,_,_,bV (F.getD (i ^^^ far) false),rfl,rfl,ay.of (s9 _ _ ha),?_,?_⟩
   . show jQ _ (Builtin.bitXor (0+(i:Int)) (far:Int))=_
     rw [Int.zero_add,xor_int]
     exact aF g2
   refine ⟨_,_,rfl,_,cP,?_,cJ hi ae ⟨?_,⟨_,rfl⟩,λb o hb=>?_⟩⟩
   . rw [List.length_map,List.length_map,List.length_range]
     exact small (by omega)
   . rw [List.range_succ,List.map_append,List.map_append]
     congr 1
     show [V.int _]=[bV (F.getD i false || F.getD (i ^^^ far) false)]
     cases F.getD i false <;> cases F.getD (i ^^^ far) false <;> rfl
   . rw [ai (ab hb hD)]
     exact s9 _ _ hb
end Gen
namespace Gen
open PySem L2
section
variable {P:Program}{w:World}{K:W.Frag}{mg:Str->Option Value}{base:Heap}
theorem rP:aZ Uv ["_law_names", "_law_bits_here", "_law_told"] (ao lA):=⟨rfl,rfl,rfl,by decide +kernel,rfl,by decide +kernel,by decide +kernel⟩
theorem CU {f:Addr}{fd:FuncData}(F:cw K "_law_some" "_law_some" lA f fd) (O2:gc mg) (O:Own mg) (CV:mg "max" = none):av P w K mg base aE 1 f fd ["_law_names", "_law_bits_here", "_law_told"] rO:=by
 refine F.ok rP (λvs H Q E h=>?_) (λcdv A outer s H vs Q E hr h=>?_)
 . obtain ⟨p,q,tl,names,told,bs,rfl,_⟩:=h
   rfl
 . obtain ⟨p,q,tl,names,told,bs,rfl,hO,hq,jG,oX,kk⟩:=h
   refine ⟨_,ag (ax (i:=3) rP.nd rfl (Or.inr rfl) (cO eN (by rfl) O2.list PyProof.Rows.boot_list (aa (pv 1) af)))
    (ag (d9 PassesOwn.never rfl (kM rfl O.enum (aa (pv 0) af)) (jj rfl (cF (aQ (i:=4) rP.nd rfl (Or.inl rfl)) (cF (aQ (i:=5) rP.nd rfl (Or.inl rfl)) ie)))
     (aq (bF (bj (r:=Dm K false) zU (pv 5) (pv 2) (by with_unfolding_all rfl))
      (ag (ax (i:=6) rP.nd rfl (Or.inr rfl) (aD ua ah (aD zC (aD zC (aU aV (by rfl) O2.len PySem.boot_len (aa (pv 0) af)) ah) (pv 4))))
      (aq (ax (i:=3) rP.nd rfl (Or.inr rfl) (eE (N:=["_law_place_here", "_law_found", "_law_far"]) (js:=[none,some 3,some 6]) (by kernel_rfl) rfl (cV rfl O.range (aa (aU aV (by rfl) O2.len PySem.boot_len (aa (pv 3) af)) af)) (λ_ _ _ _ _ _=>aQ (i:=0) KH rfl (Or.inl rfl) (.inr rfl)) (λ_ _ _ _ _ _=>cI)
       (λ_ _ _ _ _ _=>aU (zE rfl) (by rfl) CV PyProof.Rows.boot_max (aa (aS (r:=dt K) bz (pv 1) (pv 0) (λ_ _=>rfl)) (aa (aS (r:=dt K) bz (pv 1) (aD Gd (pv 0) (pv 2)) (λ_ _=>rfl)) af))))))) aY)))
    (aq (aK (pv 3)))),?_⟩
   have n8:=hO.n8
   have Uw:=nV n8
   refine ⟨_,rfl,q,_,rfl,.inl (ay.of hq),λfo xR=>?_⟩
   have s1:aj H (upd H fo (.lst (bs.map bV))):=aj.ar xR
   have q1:(upd H fo (.lst (bs.map bV))) fo=some (.lst (bs.map bV)):=ae
   show dj _ _ _ _ (upd H fo (.lst (bs.map bV)))
   generalize upd H fo (.lst (bs.map bV))=H1 at s1 q1 ⊢
   refine ⟨_,rfl,p,rfl,⟨_,ay.of (s1 _ _ hO.at_)⟩,pO (K:=K) (a:=p) (xs:=names.map V.str) (λi σ Hi=>∃(r:Addr) (cs:List Bool) (v4 v5 v6:Option V),σ=[some (.ref p),some (.ref q),some (.ref tl),some (.ref r),v4,v5,v6]/\aj H1 Hi/\Hi r=some (.lst (cs.map bV))/\cs.length=2 ^ names.length/\∀e,ev e (cn names cs)=true ↔ hX ((names.take i).filter λz=>decide (z∈told)) e (cn names bs)) ?_ ?_ ?_ ?_⟩
   . refine ⟨fo,bs,_,_,_,rfl,λ_ _ h=>h,q1,jG,λe=>⟨λh=>⟨e,λ_ _=>rfl,h⟩,λ⟨e',h1,h2⟩=>?_⟩⟩
     rw [← h2]
     exact vX (eW names bs) λn _=>(h1 n (List.not_mem_nil)).symm
   . rintro i σ Hi _ ⟨r,cs,v4,v5,v6,rfl,si,_⟩
     exact ay.of (si _ _ (s1 _ _ hO.at_))
   . rintro i xv Tp σ Hi mJ hT ⟨r,cs,v4,v5,v6,rfl,si,hr,dF,nG⟩
     have hi:i<names.length:=by
      have:=(List.getElem?_eq_some_iff.mp mJ).1
      rwa [List.length_map] at this
     have h9:names[i]?=some names[i]:=List.getElem?_eq_getElem hi
     rw [List.getElem?_map,h9] at mJ
     cases mJ
     generalize names[i]=n at h9
     have sT:aj Hi (upd Hi Tp (.tup [.int (i:Int),.str n])):=aj.ar hT
     have qT:(upd Hi Tp (.tup [.int (i:Int),.str n])) Tp=some (.tup [.int (i:Int),.str n]):=ae
     refine ⟨Tp,_,rfl,aT.of qT,rfl,_,_,rfl,_,_,rfl,rfl,?_⟩
     have D5:=si.trans sT
     have mG:=sT _ _ hr
     generalize upd Hi Tp (.tup [.int (i:Int),.str n])=Hj at sT qT D5 mG ⊢
     have Nk:=s1.trans D5
     refine ⟨_,rfl,_,rfl,tl,_,rfl,.inl (ay.of (Nk _ _ oX)),rfl,jR told,_,rfl,?_⟩
     have ky:names.take (i+1)=names.take i++[n]:=by rw [List.take_succ,h9]; rfl
     refine jt (λh=>?_) (λh=>?_)
     . have eG:n∈told:=by simpa [oq] using h
       have tw:((names.take (i+1)).filter λz=>decide (z∈told))=((names.take i).filter λz=>decide (z∈told))++[n]:=by rw [ky,List.filter_append]; simp [eG]
       have yX:(((names.map V.str).length:Nat):Int)-1-(i:Int)=((names.length-1-i:Nat):Int):=by rw [List.length_map]; omega
       refine ⟨_,rfl,p,_,rfl,.inl (ay.of (Nk _ _ hO.at_)),_,_,rfl,rfl,_,rfl,_,_,rfl,rfl,_,_,rfl,rfl,⟨by rw [yX]; omega,by rw [yX]; omega,by decide⟩,?_⟩
       show dm 6 (V.int ((1:Int)*2 ^ ((((names.map V.str).length:Nat):Int)-1-(i:Int)).toNat)) _ _ _
       rw [yX,pow_int]
       refine ⟨_,rfl,r,_,rfl,.inl (ay.of mG),?_⟩
       rw [List.length_map]
       refine ⟨_,rfl,Int.le_trans (by decide : -(2 ^ 62)<=(0:Int)) (by omega),Int.lt_of_le_of_lt (by omega:((cs.length:Nat):Int)<=256) (by decide),λD hD=>?_⟩
       rw [Int.toNat_natCast]
       have hf:2 ^ (names.length-1-i)<2 ^ names.length:=Nat.pow_lt_pow_right (by decide) (by omega)
       refine KI (K:=K) (far:=2 ^ (names.length-1-i)) hD mG (by omega) (λt ht=>by rw [dF] at ht ⊢; exact Nat.xor_lt_two_pow ht hf) λH5 s5 GX=>?_
       refine ⟨D,mx cs (2 ^ (names.length-1-i)),_,_,_,rfl,D5.trans s5,GX,by unfold mx; rw [List.length_map,List.length_range]; exact dF,λe=>?_⟩
       rw [KG hO.nd dF h9 e,Bool.or_eq_true,tw,CS,nG e,nG]
     . have eG:n∉told:=by simpa [oq] using h
       have tw:((names.take (i+1)).filter λz=>decide (z∈told))=((names.take i).filter λz=>decide (z∈told)):=by rw [ky,List.filter_append]; simp [eG]
       refine ⟨r,cs,_,_,_,rfl,D5,mG,dF,λe=>?_⟩
       rw [tw]
       exact nG e
   . rintro σ Hi ⟨r,cs,v4,v5,v6,rfl,si,hr,dF,nG⟩
     rw [List.length_map,List.take_length] at nG
     refine ⟨_,rfl,kk r cs Hi (s1.trans si) hr dF λe=>?_⟩
     rw [nG e]
     constructor
     . exact tm (eW names bs) λz _ hz=>of_decide_eq_true (List.mem_filter.mp hz).2
     . exact tm (eW names bs) λz hz uv=>List.mem_filter.mpr ⟨hz,decide_eq_true uv⟩
end
end Gen
namespace Gen
open PySem L2
abbrev oG:Stmt:=top 19
def ff (L:List (Str×List Bool)) (z:Str):Option (List Bool):=(L.find? λp=>decide (p.1=z)).map (·.2)
def i5 (names:List Str) (L:List (Str×List Bool)):List (Str×Tr):=L.map λp=>(p.1,cn names p.2)
theorem xS (names:List Str):∀(L:List (Str×List Bool)) (z:Str),look (i5 names L) z=(ff L z).map (cn names)
 | [],_=>rfl
 | p::L,z=>by
  have ih:=xS names L z
  unfold look ff i5 at ih ⊢
  rw [List.map_cons]
  by_cases q:p.1=z
  . rw [List.find?_cons_of_pos (by simpa using q),List.find?_cons_of_pos (by simpa using q)]
    rfl
  . rw [List.find?_cons_of_neg (by simpa using q),List.find?_cons_of_neg (by simpa using q)]
    exact ih
theorem tD {L:List (Str×List Bool)}{z:Str}{l:List Bool}(h:ff L z=some l):(z,l)∈L:=by
 unfold ff at h
 cases e:L.find? λp=>decide (p.1=z) with
 | none=>rw [e] at h; cases h
 | some p=>
  rw [e] at h
  have h0:=List.find?_some e
  have h1:p.1=z:=of_decide_eq_true h0
  have h2:=List.mem_of_find?_eq_some e
  cases (show p.2=l from Option.some.inj h)
  subst h1
  exact h2
def fj (L:List (Str×List Bool)) (t:Nat) (n:Str) (b:Bool):Bool:=match ff L n with | some l=>l.getD t false | none=>b
theorem IQ {names:List Str}{L:List (Str×List Bool)}{bs cs:List Bool}(jG:bs.length=2 ^ names.length) (dF:cs.length=2 ^ names.length) (hL:∀p∈L,p.2.length=2 ^ names.length)
 (h:∀(t:Nat) (e:Str->Bool),(cm names.length)[t]?=some (rowOf e names)->cs.getD t false=bs.getD (i0 (names.map λn=>fj L t n (e n))) false) (e:Str->Bool):ev e (cn names cs)=ev (fq (look (i5 names L)) e) (cn names bs):=by
 obtain ⟨t,h1,h2⟩:=vV e names
 rw [iS e names cs t dF h2,h t e h2]
 have mj:∀n,fj L t n (e n)=fq (look (i5 names L)) e n:=λn=>by
  unfold fj fq
  rw [xS]
  cases hl:ff L n with
  | none=>rfl
  | some l=>exact (iS e names l t (hL _ (tD hl)) h2).symm
 rw [show (names.map λn=>fj L t n (e n))=names.map (fq (look (i5 names L)) e) from List.map_congr_left λn _=>mj n]
 have hp:=(vW (names.map (fq (look (i5 names L)) e))).2
 rw [List.length_map,List.map_map] at hp
 exact (iS _ names bs _ jG hp).symm
abbrev vY (H:Hp) (names:List Str):List (Key×V)->List (Str×List Bool)->Prop:=Paired λkv p=>kv.1=.inr p.1/\∃a:Addr,kv.2=.ref a/\H a=some (.lst (p.2.map bV))/\p.2.length=2 ^ names.length
theorem pP {H:Hp}{names:List Str}{gkv:List (Key×V)}{L:List (Str×List Bool)}(h:vY H names gkv L) (z:Str):match ff L z with | some l=>∃a,aR gkv (.inr z)=some (.ref a)/\H a=some (.lst (l.map bV))/\l.length=2 ^ names.length | none=>aR gkv (.inr z)=none:=by
 induction h with
 | nil=>rfl
 | @cons kv p gkv L e _ ih=>
  unfold ff
  by_cases q:p.1=z
  . rw [List.find?_cons_of_pos (by simpa using q)]
    obtain ⟨e1,a,e2,e3,e4⟩:=e
    exact ⟨a,by rw [bG (by rw [e1,q]),e2],e3,e4⟩
  . rw [List.find?_cons_of_neg (by simpa using q),show aR (kv::gkv) (.inr z)=aR gkv (.inr z) from bx (by rw [e.1]; exact λw=>q (Sum.inr.inj w))]
    exact ih
end Gen
namespace Gen
open PySem L2
def vZ:Sp:=λvs H Q _=>∃(p q gd:Addr) (names:List Str) (L:List (Str×List Bool)) (gkv:List (Key×V)) (bs:List Bool),vs=[.ref p,.ref q,.ref gd]/\Ord H p names/\H q=some (.lst (bs.map bV))/\bs.length=2 ^ names.length/\H gd=some (.dK gkv)/\vY H names gkv L/\(∀p∈L,p.2.length=2 ^ names.length)/\
 ∀(r:Addr) (cs:List Bool) (H':Hp),aj H H'->H' r=some (.lst (cs.map bV))->cs.length=2 ^ names.length->(∀e,ev e (cn names cs)=ev (fq (look (i5 names L)) e) (cn names bs))->Q (.ref r) H'
abbrev Ux:List Str:=["_law_names", "_law_bits_here", "_law_given", "_law_found", "_law_place_here", "_law_row", "_law_changed", "_law_name", "_law_bit"]
abbrev xT:List Str:=["_law_names", "_law_bits_here", "_law_given"]
section
variable {P:Program}{w:World}{K:W.Frag}{mg:Str->Option Value}{base:Heap}
theorem mf:aZ Ux xT (ao oG):=⟨rfl,rfl,rfl,by decide +kernel,rfl,by decide +kernel,by decide +kernel⟩
theorem FF {f fA fP:Addr}{fd dA dP:FuncData}(F:cw K "_law_put" "_law_put" oG f fd) (O2:gc mg) (O:Own mg)
 (gA:av P w K mg base aE 1 fA dA ["_law_many"] (vU K)) (mA:mg "_law_all_bits" = some (.ref fA)) (kA:W.keepIn K (.ref fA)=true) (bA:Binds K dA ["_law_many"] [])
 (gP:av P w K mg base aE 1 fP dP ["_law_row"] xQ) (mP:mg "_law_place" = some (.ref fP)) (kP:W.keepIn K (.ref fP)=true) (bP:Binds K dP ["_law_row"] []):av P w K mg base aE 2 f fd xT vZ:=by
 refine F.ok mf (λvs H Q E h=>?_) (λcdv A outer s H vs Q E hr h=>?_)
 . obtain ⟨p,q,gd,names,L,gkv,bs,rfl,_⟩:=h
   rfl
 . obtain ⟨p,q,gd,names,L,gkv,bs,rfl,hO,hq,jG,iY,hL,IS,kk⟩:=h
   have hu:=iD hr
   refine ⟨_,ag (ax (i:=3) mf.nd rfl (Or.inl rfl) (fw af))
    (ag (d9 PassesOwn.never rfl (kM rfl O.enum (aa (aJ gA hr rfl mA kA bA .nil aB (aa (aU aV (by rfl) O2.len PySem.boot_len (aa (pv 0) af)) af)) af)) (jj rfl (cF (aQ (i:=4) mf.nd rfl (Or.inl rfl)) (cF (aQ (i:=5) mf.nd rfl (Or.inl rfl)) ie)))
     (ag (ax (i:=6) mf.nd rfl (Or.inl rfl) (fw af))
     (ag (d9 PassesOwn.never rfl (Fu rfl O2.zip (aa (pv 0) (aa (pv 5) af))) (jj rfl (cF (aQ (i:=7) mf.nd rfl (Or.inl rfl)) (cF (aQ (i:=8) mf.nd rfl (Or.inl rfl)) ie)))
      (aq (jb (lM PySem.F.plainAttrs_list PySem.F.slot_list_append PySem.F.type_list_append gq (pv 6) (aa (lE (fu (ue hu (pv 7) (pv 2)) (by with_unfolding_all rfl)) (aS (r:=dt K) bz (ij hu (pv 2) (pv 7) (λ_ _=>rfl)) (pv 4) (λ_ _=>rfl)) (pv 8)) af)))))
     (aq (jb (lM PySem.F.plainAttrs_list PySem.F.slot_list_append PySem.F.type_list_append gq (pv 3) (aa (aS (r:=dt K) bz (pv 1) (aJ gP hr rfl mP kP bP .nil aB (aa (pv 6) af)) (λ_ _=>rfl)) af)))))))
    (aq (aK (pv 3)))),?_⟩
   have n8:=hO.n8
   have xU:(names.map V.str).length<=8:=by rw [List.length_map]; exact n8
   have Uw:=nV n8
   refine ⟨(by show 0<=sizeLine; decide),λfo xR=>?_⟩
   have s1:aj H (upd H fo (.lst [])):=aj.ar xR
   have q1:(upd H fo (.lst [])) fo=some (.lst (([]:List Bool).map bV)):=ae
   show dj _ _ _ _ (upd H fo (.lst []))
   generalize upd H fo (.lst [])=H1 at s1 q1 ⊢
   refine ⟨_,rfl,p,_,rfl,.inl (ay.of (s1 _ _ hO.at_)),_,rfl,xU,λR us H2 s2 hR Nl uu=>?_⟩
   rw [List.length_map] at uu
   have Nm:=uu.length
   rw [de] at Nm
   have sZ:=s1.trans s2
   refine ⟨R,rfl,⟨_,ay.of Nl⟩,pO (K:=K) (a:=R) (xs:=us.map V.ref) (λi σ Hi=>∃(cs:List Bool) (v4 v5 v6 v7 v8:Option V),σ=[some (.ref p),some (.ref q),some (.ref gd),some (.ref fo),v4,v5,v6,v7,v8]/\(∀b u,H2 b=some u->b≠fo->Hi b=some u)/\Hi fo=some (.lst (cs.map bV))/\cs.length=i/\∀(t:Nat) (e:Str->Bool),t<i->(cm names.length)[t]?=some (rowOf e names)->cs.getD t false=bs.getD (i0 (names.map λn=>fj L t n (e n))) false) ?_ ?_ ?_ ?_⟩
   . exact ⟨[],_,_,_,_,_,rfl,λ_ _ h _=>h,s2 _ _ q1,rfl,λt e h=>absurd h (Nat.not_lt_zero _)⟩
   . rintro i σ Hi _ ⟨cs,v4,v5,v6,v7,v8,rfl,ki,_⟩
     refine ay.of (ki _ _ Nl λz=>?_)
     rw [z,q1] at hR
     cases hR
   . rintro i xv Tp σ Hi mJ hT ⟨cs,v4,v5,v6,v7,v8,rfl,ki,tw,gs,dF⟩
     have hi:i<us.length:=by
      have:=(List.getElem?_eq_some_iff.mp mJ).1
      rwa [List.length_map] at this
     have nM:i<2 ^ names.length:=by omega
     have ex:xv=.ref us[i]:=by
      rw [List.getElem?_map,List.getElem?_eq_getElem hi] at mJ
      exact (Option.some.inj mJ).symm
     subst ex
     have u6:(cm names.length)[i]?=some ((cm names.length)[i]'(by rw [de]; exact nM)):=List.getElem?_eq_getElem _
     have zd:aT K H2 us[i] (((cm names.length)[i]'(by rw [de]; exact nM)).map V.int):=by
      obtain ⟨a,oO,Uy⟩:=gx uu u6
      rw [List.getElem?_eq_getElem hi] at oO
      rw [Option.some.inj oO]
      exact Uy
     obtain ⟨BA,Nn⟩:=pM _ _ (List.mem_of_getElem? u6)
     generalize (cm names.length)[i]'(by rw [de]; exact nM)=row at u6 zd BA Nn
     generalize us[i]=ra at mJ zd ⊢
     have k2:∀{a:Addr}{xs:List V},aT K H2 a xs->∀{Hx:Hp},(∀b u,H2 b=some u->b≠fo->Hx b=some u)->aT K Hx a xs:=λh Hx k=>by
      rcases h with (h | ⟨o,h⟩) | h
      . exact .inl (.inl (k _ _ h (aL h (s2 _ _ q1) (by intro z; cases z))))
      . exact .inl (.inr ⟨o,k _ _ h (aL h (s2 _ _ q1) (by intro z; cases z))⟩)
      . exact .inr h
     have sT:aj Hi (upd Hi Tp (.tup [.int (i:Int),.ref ra])):=aj.ar hT
     have qT:(upd Hi Tp (.tup [.int (i:Int),.ref ra])) Tp=some (.tup [.int (i:Int),.ref ra]):=ae
     refine ⟨Tp,_,rfl,aT.of qT,rfl,_,_,rfl,_,_,rfl,rfl,?_⟩
     show dj _ _ _ _ (upd Hi Tp (.tup [.int (i:Int),.ref ra]))
     generalize upd Hi Tp (.tup [.int (i:Int),.ref ra])=Hj at sT qT ⊢
     refine ⟨(by show 0<=sizeLine; decide),λca D6=>?_⟩
     have s4:aj Hj (upd Hj ca (.lst [])):=aj.ar D6
     have q4:(upd Hj ca (.lst [])) ca=some (.lst []):=ae
     have Uz:fo≠ca:=ab (sT _ _ tw) D6
     show dj _ _ _ _ (upd Hj ca (.lst []))
     generalize upd Hj ca (.lst [])=Hk at s4 q4 ⊢
     have D7:∀b u,H2 b=some u->b≠fo->Hk b=some u:=λb u hb nb=>s4 _ _ (sT _ _ (ki b u hb nb))
     have kH:∀{Hx:Hp},(∀b u,Hk b=some u->b≠ca->Hx b=some u)->∀b u,H b=some u->Hx b=some u:=λk b u hb=>k b u (D7 b u (sZ _ _ hb) (ab hb xR)) (ab (sT _ _ (ki b u (sZ _ _ hb) (ab hb xR))) D6)
     have IT:(row.map λx=>decide (x=1)).length=names.length:=by rw [List.length_map,BA]
     refine ⟨_,rfl,_,rfl,p,ra,rfl,⟨_,ay.of (kH (λ_ _ h _=>h) _ _ hO.at_)⟩,⟨_,k2 zd D7⟩,Fv (K:=K) (tp:=false) (tq:=true) (a:=p) (b:=ra) (xs:=names.map V.str) (ys:=row.map V.int) (by rw [List.length_map,List.length_map,BA]; exact Nat.le_refl _) (λj σ Hl=>∃(v7 v8:Option V),σ=[some (.ref p),some (.ref q),some (.ref gd),some (.ref fo),some (.int (i:Int)),some (.ref ra),some (.ref ca),v7,v8]/\(∀b u,Hk b=some u->b≠ca->Hl b=some u)/\Hl ca=some (.lst ((List.zipWith (λn b=>fj L i n b) (names.take j) ((row.map λx=>decide (x=1)).take j)).map bV))) ⟨_,_,rfl,λ_ _ h _=>h,q4⟩ ?_ ?_ ?_⟩
     . rintro j σ Hl _ ⟨v7,v8,rfl,kl,_⟩
       refine ⟨ay.of (kH kl _ _ hO.at_),?_⟩
       have h5:=k2 zd D7
       rcases h5 with (h | ⟨o,h⟩) | h
       . exact .inl (.inl (kl _ _ h (aL h q4 (by intro z; cases z))))
       . exact .inl (.inr ⟨o,kl _ _ h (aL h q4 (by intro z; cases z))⟩)
       . exact .inr h
     . rintro j x y T2 σ Hl hx hy Al ⟨v7,v8,rfl,kl,ze⟩
       have UA:j<names.length:=by
        have:=(List.getElem?_eq_some_iff.mp hx).1
        rwa [List.length_map] at this
       have A5:names[j]?=some names[j]:=List.getElem?_eq_getElem UA
       have mG:row[j]?=some (row[j]'(by omega)):=List.getElem?_eq_getElem _
       rw [List.getElem?_map,A5] at hx
       rw [List.getElem?_map,mG] at hy
       cases hx
       cases hy
       have IU:=Nn _ (List.mem_of_getElem? mG)
       generalize row[j]'(by omega)=bt at mG IU
       generalize names[j]=lB at A5
       have IV:aj Hl (upd Hl T2 (.tup [.str lB,.int bt])):=aj.ar Al
       have Np:(upd Hl T2 (.tup [.str lB,.int bt])) T2=some (.tup [.str lB,.int bt]):=ae
       refine ⟨T2,_,rfl,aT.of Np,rfl,_,_,rfl,_,_,rfl,rfl,?_⟩
       have zf:=IV _ _ ze
       have km:∀b u,Hk b=some u->b≠ca->(upd Hl T2 (.tup [.str lB,.int bt])) b=some u:=λb u hb nb=>IV _ _ (kl b u hb nb)
       generalize upd Hl T2 (.tup [.str lB,.int bt])=Hm at IV Np zf km ⊢
       have IW:=kH km _ _ iY
       have hlen:((List.zipWith (λn b=>fj L i n b) (names.take j) ((row.map λx=>decide (x=1)).take j)).map bV).length<sizeLine:=by
        rw [List.length_map,List.length_zipWith,List.length_take]
        exact small (by omega)
       have ky:∀c:Bool,c=fj L i lB (decide (bt=1))->(List.zipWith (λn b=>fj L i n b) (names.take j) ((row.map λx=>decide (x=1)).take j)).map bV++[bV c]=(List.zipWith (λn b=>fj L i n b) (names.take (j+1)) ((row.map λx=>decide (x=1)).take (j+1))).map bV:=λc hc=>by
        rw [List.take_succ,List.take_succ,A5,List.getElem?_map,mG,Option.map_some,Option.toList_some,Option.toList_some,List.zipWith_append (by rw [List.length_take,List.length_take,IT]),List.map_append,hc]
        rfl
       have Nq:∀c:Bool,c=fj L i lB (decide (bt=1))->∃(v7 v8:Option V),([some (.ref p),some (.ref q),some (.ref gd),some (.ref fo),some (.int (i:Int)),some (.ref ra),some (.ref ca),some (.str lB),some (.int bt)]:St)=[some (.ref p),some (.ref q),some (.ref gd),some (.ref fo),some (.int (i:Int)),some (.ref ra),some (.ref ca),v7,v8]/\(∀b u,Hk b=some u->b≠ca->(upd Hm ca (.lst ((List.zipWith (λn b=>fj L i n b) (names.take j) ((row.map λx=>decide (x=1)).take j)).map bV++[bV c]))) b=some u)/\(upd Hm ca (.lst ((List.zipWith (λn b=>fj L i n b) (names.take j) ((row.map λx=>decide (x=1)).take j)).map bV++[bV c]))) ca=some (.lst ((List.zipWith (λn b=>fj L i n b) (names.take (j+1)) ((row.map λx=>decide (x=1)).take (j+1))).map bV)):=λc hc=>
        ⟨_,_,rfl,λb u hb nb=>by rw [ai nb]; exact km b u hb nb,by rw [ae,ky c hc]⟩
       refine ⟨_,rfl,.inl ⟨rfl,_,ay.of zf⟩,_,rfl,_,rfl,gd,_,rfl,cG.k (k:=.inr lB) IW,_,rfl,?_⟩
       have oT:=pP hL lB
       cases hb:ff L lB with
       | some l=>
        rw [hb] at oT
        obtain ⟨a,rQ,ha,hl⟩:=oT
        have HB:i<l.length:=by omega
        refine bY (by rw [rQ]; rfl) ⟨_,rfl,_,rfl,gd,.ref a,rfl,?_,_,rfl,a,_,_,bV (l.getD i false),rfl,rfl,ay.of (kH km _ _ ha),aF (by rw [List.getElem?_map,List.getD_eq_getElem?_getD,List.getElem?_eq_getElem HB]; rfl),ca,_,_,rfl,rfl,zf,hlen,Nq _ (by unfold fj; rw [hb])⟩
        have:=cG.k (k:=.inr lB) IW
        rw [rQ] at this
        exact this
       | none=>
        rw [hb] at oT
        refine bJ (by rw [show aR gkv (.inr lB)=none from oT]; rfl) ⟨_,rfl,ca,_,_,rfl,rfl,zf,hlen,?_⟩
        have hc:V.int bt=bV (decide (bt=1)):=by rcases IU with rfl | rfl <;> rfl
        rw [hc]
        exact hc ▸ Nq _ (by unfold fj; rw [hb])
     . rintro σ Hl ⟨v7,v8,rfl,kl,ze⟩
       rw [List.length_map,List.take_length,show (row.map λx=>decide (x=1)).take names.length=row.map λx=>decide (x=1) by rw [← IT,List.take_length]] at ze
       have DB:(List.zipWith (λn b=>fj L i n b) names (row.map λx=>decide (x=1))).length=names.length:=by rw [List.length_zipWith,IT,Nat.min_self]
       have jN:=(vW (List.zipWith (λn b=>fj L i n b) names (row.map λx=>decide (x=1)))).1
       rw [DB] at jN
       have IX:=kl _ _ (s4 _ _ (sT _ _ tw)) Uz
       refine ⟨_,rfl,.inl ⟨rfl,_,ay.of IX⟩,_,rfl,_,rfl,ca,_,rfl,ze,by omega,q,_,_,bV (bs.getD (i0 (List.zipWith (λn b=>fj L i n b) names (row.map λx=>decide (x=1)))) false),rfl,rfl,ay.of (kH kl _ _ hq),aF (by rw [List.getElem?_map,List.getD_eq_getElem?_getD,List.getElem?_eq_getElem (by omega)]; rfl),fo,_,_,rfl,rfl,IX,(by rw [List.length_map]; exact small (by omega)),?_⟩
       refine ⟨cs++[bs.getD (i0 (List.zipWith (λn b=>fj L i n b) names (row.map λx=>decide (x=1)))) false],_,_,_,_,_,rfl,λb u hb nb=>?_,by rw [ae,List.map_append]; rfl,by rw [List.length_append,gs]; rfl,λt e ht IY=>?_⟩
       . rw [ai nb]
         exact kl _ _ (D7 b u hb nb) (ab (sT _ _ (ki b u hb nb)) D6)
       . by_cases et:t=i
         . subst et
           rw [u6] at IY
           rw [Option.some.inj IY,List.getD_eq_getElem?_getD,List.getElem?_append_right (by omega),gs,Nat.sub_self]
           show bs.getD _ false=_
           congr 2
           unfold rowOf
           rw [List.map_map]
           have:∀l:List Str,List.zipWith (λn b=>fj L t n b) l (l.map ((λx=>decide (x=(1:Int)))∘λn=>bI (e n)))=l.map λn=>fj L t n (e n):=λl=>by
            induction l with
            | nil=>rfl
            | cons a l ih=>
             rw [List.map_cons,List.zipWith_cons_cons,List.map_cons,ih]
             congr 2
             show decide (bI (e a)=1)=e a
             cases e a <;> rfl
           exact this names
         . rw [jx (by omega)]
           exact dF t e (by omega) IY
   . rintro σ Hi ⟨cs,v4,v5,v6,v7,v8,rfl,ki,tw,gs,dF⟩
     rw [List.length_map,Nm] at gs dF
     refine ⟨_,rfl,kk fo cs Hi (λb u hb=>ki _ _ (sZ _ _ hb) (ab hb xR)) tw gs λe=>IQ jG gs IS (λt e' h=>dF t e' ?_ h) e⟩
     have:=(List.getElem?_eq_some_iff.mp h).1
     rwa [de] at this
end
end Gen
namespace Gen
open PySem L2
abbrev jg:Stmt:=top 20
def wa:Sp:=λvs H Q _=>∃(q:Addr) (bs:List Bool) (n:Nat),vs=[.ref q,.int (n:Int)]/\n<=8/\H q=some (.lst (bs.map bV))/\bs.length=2 ^ n/\∀(r:Addr) (cs:List Bool) (H':Hp),aj H H'->H r=none->H' r=some (.lst (cs.map bV))->cs.length=2 ^ n->Q (.ref r) H'
section
variable {P:Program}{w:World}{K:W.Frag}{mg:Str->Option Value}{base:Heap}
abbrev UB:List Str:=["_law_bits_here", "_law_many", "_law_found", "_law_place_here", "_law_spot", "_law_k"]
abbrev BD:List Str:=["_law_bits_here", "_law_many"]
theorem rS:aZ UB BD (ao jg):=⟨rfl,rfl,rfl,by decide +kernel,rfl,by decide +kernel,by decide +kernel⟩
theorem BE {f:Addr}{fd:FuncData}(F:cw K "_law_turned" "_law_turned" jg f fd) (O:Own mg):av P w K mg base aE 1 f fd BD wa:=by
 refine F.ok rS (λvs H Q E h=>?_) (λcdv A outer s H vs Q E hr h=>?_)
 . obtain ⟨q,bs,n,rfl,_⟩:=h
   rfl
 . obtain ⟨q,bs,n,rfl,n8,hq,jG,kk⟩:=h
   refine ⟨_,ag (ax (i:=2) rS.nd rfl (Or.inl rfl) (fw af))
    (ag (d9 PassesOwn.never rfl (cV rfl O.range (aa (aU aV (by rfl) O.len PySem.boot_len (aa (pv 0) af)) af)) (aQ (i:=3) rS.nd rfl (Or.inl rfl))
     (ag (ax (i:=4) rS.nd rfl (Or.inl rfl) ah)
     (ag (d9 PassesOwn.never rfl (cV rfl O.range (aa (pv 1) af)) (aQ (i:=5) rS.nd rfl (Or.inl rfl))
      (aq (ax (i:=4) rS.nd rfl (Or.inl rfl) (aD dw (aD eM ah (pv 4)) (aD nc (aD ku (pv 3) (pv 5)) ah)))))
     (aq (jb (lM PySem.F.plainAttrs_list PySem.F.slot_list_append PySem.F.type_list_append gq (pv 2) (aa (aS (r:=dt K) bz (pv 0) (pv 4) (λ_ _=>rfl)) af)))))))
    (aq (aK (pv 2)))),?_⟩
   have hp:=nV n8
   refine ⟨(by show 0<=sizeLine; decide),λD hD=>?_⟩
   have W2:q≠D:=ab hq hD
   refine ⟨_,rfl,q,_,rfl,.inl (ay.of ((aj.ar hD) _ _ hq)),?_⟩
   rw [List.length_map,jG]
   refine ⟨_,rfl,Int.le_trans (by decide : -(2 ^ 62)<=(0:Int)) (by omega),Int.lt_of_le_of_lt (by omega:((2 ^ n:Nat):Int)<=256) (by decide),eL (n:=(((2 ^ n:Nat):Int)).toNat) (λi σ Hi=>∃(v3 v4 v5:Option V) (cs:List Bool),σ=[some (.ref q),some (.int (n:Int)),some (.ref D),v3,v4,v5]/\Hi D=some (.lst (cs.map bV))/\cs.length=i/\aj H Hi) ⟨none,none,none,[],rfl,ae,rfl,aj.ar hD⟩ ?_ ?_⟩
   . rintro i σ Hi hi ⟨v3,v4,v5,cs,rfl,qS,dF,si⟩
     rw [Int.toNat_natCast] at hi
     refine ⟨_,rfl,_,rfl,Int.le_trans (by decide : -(2 ^ 62)<=(0:Int)) (by omega),Int.lt_of_le_of_lt (by omega:((n:Nat):Int)<=256) (by decide),eL (n:=((n:Int)).toNat) (λm σ Hm=>Hm=Hi/\∃(sp:Nat) (v5:Option V),σ=[some (.ref q),some (.int (n:Int)),some (.ref D),some (.int (0+(i:Int))),some (.int (sp:Int)),v5]/\sp<2 ^ m) ⟨rfl,0,v5,rfl,Nat.one_pos⟩ ?_ ?_⟩
     . rintro m σ Hm hm ⟨rfl,sp,v5,rfl,jl⟩
       rw [Int.toNat_natCast] at hm
       have M5:=nV (Nat.le_trans (Nat.le_of_lt hm) n8)
       obtain ⟨d,d2,hd⟩:=KD ((0+(i:Int)) / 2 ^ (0+(m:Int)).toNat)
       refine ⟨_,rfl,_,_,rfl,rfl,.inl ⟨by decide,by decide⟩,_,rfl,_,rfl,_,_,rfl,rfl,(by show (0:Int)<=0+(m:Int); omega),_,_,rfl,rfl,_,_,rfl,rfl,rfl,2*sp+d,some (.int (0+(m:Int))),?_,?_⟩
       . rw [hd]
         rfl
       . rw [Nat.pow_succ]
         omega
     . rintro σ Hm ⟨rfl,sp,v5,rfl,jl⟩
       rw [Int.toNat_natCast] at jl
       have gs:cs.length<257:=by omega
       refine ⟨_,rfl,.inl ⟨rfl,_,ay.of qS⟩,_,rfl,_,rfl,q,_,_,bV (bs[sp]'(by omega)),rfl,rfl,ay.of (si _ _ hq),aF (by rw [List.getElem?_map,List.getElem?_eq_getElem (by omega)]; rfl),D,_,_,rfl,rfl,qS,(by rw [List.length_map]; exact small (by omega)),?_⟩
       refine ⟨_,_,_,cs++[bs[sp]'(by omega)],rfl,by rw [ae,List.map_append]; rfl,by rw [List.length_append,dF]; rfl,λc o hc=>?_⟩
       rw [ai (ab hc hD)]
       exact si _ _ hc
   . rintro σ Hi ⟨v3,v4,v5,cs,rfl,qS,dF,si⟩
     rw [Int.toNat_natCast] at dF
     exact ⟨_,rfl,kk D cs Hi si hD qS dF⟩
end
end Gen
namespace Gen
open PySem L2
abbrev mh:Stmt:=top 22
abbrev lC:Stmt:=top 21
section
variable {P:Program}{w:World}{K:W.Frag}{mg:Str->Option Value}{base:Heap}{C:Addr}
theorem iB {k:Nat}{f:Addr}{fd:FuncData}{ps:List Str}{sp:Sp}(h:∀vs H Q E,¬ sp vs H Q E):av P w K mg base aE k f fd ps sp:=⟨λvs H Q E q=>(h _ _ _ _ q).elim,λA outer s H args us vs Q E _ _ _ _ q=>(h _ _ _ _ q).elim⟩
theorem tE {f fN:Addr}{fd dN:FuncData}(F:cw K "taken" "Forest.taken" jz f fd) (T:eP K mg C) (mT:Meth K C "taken" f) (bT:Binds K fd ["self", "tree"] []) (gN:av P w K mg base aE 1 fN dN hZ (g9 P w C)) (mN:Meth K C "node" fN) (bN:Binds K dN hZ []) :
 ∀d,av P w K mg base aE (d+1) f fd ["self", "tree"] (kW P w C d)
 | 0=>iB λvs H Q E ⟨_,_,_,_,_,_,_,_,_,_,_,_,_,_,_,_,_,_,h,_⟩=>Nat.not_lt_zero _ h
 | d+1=>Cv F T (tE F T mT bT gN mN bN d) mT bT gN mN bN
theorem o3 {f:Addr}{fd:FuncData}(F:cw K "tree_at" "Forest.tree_at" iu f fd) (T:eP K mg C) (mT:Meth K C "tree_at" f) (bT:Binds K fd ["self", "number"] []):∀d,av P w K mg base aE (d+1) f fd ["self", "number"] (jA P w C d)
 | 0=>iB λvs H Q E ⟨_,_,_,_,_,_,_,_,_,_,_,_,_,_,_,_,h,_⟩=>Nat.not_lt_zero _ h
 | d+1=>yI F T (o3 F T mT bT d) mT bT
theorem qY {f fN fH:Addr}{fd dN dH:FuncData}(F:cw K "chosen" "Forest.chosen" iw f fd) (T:eP K mg C) (O2:gc mg) (mC:Meth K C "chosen" f) (bC:Binds K fd jB []) (gN:av P w K mg base aE 1 fN dN hZ (g9 P w C)) (mN:Meth K C "node" fN) (bN:Binds K dN hZ [])
 (gH:av P w K mg base aE 1 fH dH ["self", "number", "spot", "side"] (qG P w C)) (mH:Meth K C "half" fH) (bH:Binds K dH ["self", "number", "spot", "side"] []):∀d,av P w K mg base aE (d+1) f fd jB (gf P w C d)
 | 0=>iB λvs H Q E ⟨_,_,_,_,_,_,_,_,_,_,_,_,_,_,_,_,_,_,_,_,h,_⟩=>Nat.not_lt_zero _ h
 | d+1=>AR F T O2 (qY F T O2 mC bC gN mN bN gH mH bH d) mC bC gN mN bN gH mH bH
theorem wb {f:Addr}{fd:FuncData}(F:cw K "_law_same_tree" "_law_same_tree" jE f fd) (T:gc mg) (mS:mg "_law_same_tree" = some (.ref f)) (bS:Binds K fd jF []):∀d,av P w K mg base aE d f fd jF (iA d)
 | 0=>iB λvs H Q E ⟨_,_,_,_,_,_,_,h,_⟩=>Nat.not_lt_zero _ h
 | d+1=>vA F T (wb F T mS bS d) mS bS
theorem tF {f fS:Addr}{fd dS:FuncData}(F:cw K "_law_canon" "_law_canon" jD f fd) (O2:gc mg) (mC:mg "_law_canon" = some (.ref f)) (bC:Binds K fd oZ [])
 (gS:av P w K mg base aE 9 fS dS jF (iA 9)) (mS:mg "_law_same_tree" = some (.ref fS)) (kS:W.keepIn K (.ref fS)=true) (bS:Binds K dS jF []):∀d,av P w K mg base aE (d+9) f fd oZ (lr d)
 | 0=>iB λvs H Q E ⟨_,_,_,_,_,_,_,h,_⟩=>Nat.not_lt_zero _ h
 | d+1=>(show d+9+1=d+1+9 by omega) ▸ CK F O2 (tF F O2 mC bC gS mS kS bS d) mC bC gS mS kS bS
theorem BF {f fN fC:Addr}{fd dN dC:FuncData}(F:cw K "without" "Forest.without" gg f fd) (T:eP K mg C) (mW:Meth K C "without" f) (bW:Binds K fd qL []) (gN:av P w K mg base aE 1 fN dN hZ (g9 P w C)) (mN:Meth K C "node" fN) (bN:Binds K dN hZ [])
 (gC:av P w K mg base aE 10 fC dC jB (gf P w C 9)) (mC:Meth K C "chosen" fC) (bC:Binds K dC jB []):∀d,av P w K mg base aE (d+10) f fd qL (yM P w C d)
 | 0=>iB λvs H Q E ⟨_,_,_,_,_,_,_,_,_,_,_,_,_,_,_,_,_,_,_,_,_,h,_⟩=>Nat.not_lt_zero _ h
 | d+1=>(show d+10+1=d+1+10 by omega) ▸ yN F T (BF F T mW bW gN mN bN gC mC bC d) mW bW gN mN bN gC mC bC
theorem BG {f fL fC:Addr}{fd dL dC:FuncData}(F:cw K "replaced" "Forest.replaced" eT f fd) (T:eP K mg C) (mW:Meth K C "replaced" f) (bW:Binds K fd qN []) (gL:av P w K mg base aE 2 fL dL ["self", "name"] (va P w C)) (mL:Meth K C "leaf_of" fL) (bL:Binds K dL ["self", "name"] [])
 (gC:av P w K mg base aE 10 fC dC jB (gf P w C 9)) (mC:Meth K C "chosen" fC) (bC:Binds K dC jB []):∀d,av P w K mg base aE (d+10) f fd qN (yQ P w C d)
 | 0=>iB λvs H Q E ⟨_,_,_,_,_,_,_,_,_,_,_,_,_,_,_,_,_,_,_,_,_,h,_⟩=>Nat.not_lt_zero _ h
 | d+1=>(show d+10+1=d+1+10 by omega) ▸ wG F T (BG F T mW bW gL mL bL gC mC bC d) mW bW gL mL bL gC mC bC
end
structure Row (H:Hp) (q:Addr) (bs:List Bool) (n:Nat):Prop where
 at_:H q=some (.lst (bs.map bV))
 len:bs.length=2 ^ n
theorem Row.same {H H':Hp}{q:Addr}{bs:List Bool}{n:Nat}(h:Row H q bs n) (s:aj H H'):Row H' q bs n:=⟨s _ _ h.at_,h.len⟩
theorem Ord.same {H H':Hp}{o:Addr}{names:List Str}(h:Ord H o names) (s:aj H H'):Ord H' o names:=⟨s _ _ h.at_,h.nd,h.ok,h.n8⟩
theorem Ord.rev {H:Hp}{o p:Addr}{names:List Str}(h:Ord H o names) (hp:H p=some (.lst (names.reverse.map V.str))):Ord H p names.reverse:=⟨hp,List.pairwise_reverse.mpr (List.Pairwise.imp (λh z=>h z.symm) h.nd),λn hn=>h.ok n (List.mem_reverse.mp hn),by rw [List.length_reverse]; exact h.n8⟩
theorem wd:∀{L:List (Str×List Bool)}{i:Nat}{p:Str×List Bool},(L.map (·.1)).Nodup->L[i]?=some p->ff L p.1=some p.2
 | [],_,_,_,h=>by cases h
 | x::L,0,p,_,h=>by
  cases h
  unfold ff
  rw [List.find?_cons_of_pos (by simp)]
  rfl
 | x::L,i+1,p,nd,h=>by
  have h':L[i]?=some p:=h
  rw [List.map_cons,List.nodup_cons] at nd
  unfold ff
  rw [List.find?_cons_of_neg]
  . exact wd nd.2 h'
  . intro z
    exact nd.1 (List.mem_map.mpr ⟨p,List.mem_of_getElem? h',(of_decide_eq_true z).symm⟩)
theorem FG {H:Hp}{names:List Str}{gkv:List (Key×V)}{L:List (Str×List Bool)}(h:vY H names gkv L):∀p∈L,p.2.length=2 ^ names.length:=by
 induction h with
 | nil=>exact λ_ h=>nomatch h
 | @cons kv p gkv L e _ ih=>
  intro q hq
  rcases List.mem_cons.mp hq with rfl | hq
  . obtain ⟨_,a,_,_,e4⟩:=e
    exact e4
  . exact ih q hq
theorem CW {H:Hp}{names:List Str}{gkv:List (Key×V)}{L:List (Str×List Bool)}(h:vY H names gkv L):gkv.map (λkv=>kV kv.1)=(L.map (·.1)).map V.str:=by
 induction h with
 | nil=>rfl
 | cons e _ ih=>rw [List.map_cons,List.map_cons,List.map_cons,ih,e.1]; rfl
theorem val_one {H:Hp}{names:List Str}{a a':Addr}{kv:Key×V} : ∀{gkv:List (Key×V)}{L:List (Str×List Bool)}{i:Nat}{pp:Str×List Bool},vY H names gkv L->(L.map (·.1)).Nodup->L[i]?=some pp->gkv[i]?=some kv->aR gkv (.inr pp.1)=some (.ref a')->kv.2=.ref a->V.ref a'=.ref a
 | _,_,_,_,.nil,_,h,_,_,_=>by cases h
 | _,_,0,_,.cons e _,_,h,h2,h3,h4=>by
  cases h
  cases h2
  rw [bG e.1,h4] at h3
  exact (Option.some.inj h3).symm
 | _,_,i+1,pp,.cons (a:=sW) (b:=p0) e t,nd,h,h2,h3,h4=>by
  rw [List.map_cons,List.nodup_cons] at nd
  have h':_=some pp:=h
  rw [List.getElem?_cons_succ] at h' h2
  rw [bx (by rw [e.1]; exact λz=>nd.1 (List.mem_map.mpr ⟨pp,List.mem_of_getElem? h',(Sum.inr.inj z).symm⟩))] at h3
  exact val_one t nd.2 h' h2 h3 h4
theorem we {H:Hp}{names:List Str}{ks:List (Key×V)}{L:List (Str×Tr)}(h:DR H names ks L):ks.map (·.1)=L.map λp=>Sum.inr p.1:=by
 induction h with
 | nil=>rfl
 | cons e _ ih=>rw [List.map_cons,List.map_cons,ih,e.1]
theorem pQ (names:List Str) (L:List (Str×List Bool)):(i5 names L).map (·.1)=L.map (·.1):=by unfold i5; rw [List.map_map]; rfl
theorem wg (l:List Str):∀z∈l.map V.str,gp z z=true:=λz hz=>by
 obtain ⟨x,_,rfl⟩:=List.mem_map.mp hz
 simp [gp]
end Gen
namespace Gen
open PySem L2
def rT:Sp:=λvs H Q _=>∃(p q:Addr) (names:List Str) (bs:List Bool) (x y:Int),vs=[.ref p,.ref q,.int x,.int y]/\Ord H p names/\Row H q bs names.length/\∀H',aj H H'->Q (.bl true) H'
section
variable (P:Program) (w:World) (K:W.Frag) (mg:Str->Option Value) (base:Heap)
structure IZ (fK fS fB fO fL fU fV:Addr) (dK dS dB dO dL dU dV:FuncData):Prop where
 gK:av P w K mg base aE 18 fK dK oZ (lr 9)
 mK:mg "_law_canon" = some (.ref fK)
 kK:W.keepIn K (.ref fK)=true
 bK:Binds K dK oZ []
 gS:av P w K mg base aE 9 fS dS jF (iA 9)
 mS:mg "_law_same_tree" = some (.ref fS)
 kS:W.keepIn K (.ref fS)=true
 bS:Binds K dS jF []
 gB:av P w K mg base aE 1 fB dB tf qR
 mB:mg "_law_bits" = some (.ref fB)
 kB:W.keepIn K (.ref fB)=true
 bB:Binds K dB tf []
 gO:av P w K mg base aE 20 fO dO ["order", "tree", "names"] vi
 mO:mg "some_of" = some (.ref fO)
 kO:W.keepIn K (.ref fO)=true
 bO:Binds K dO ["order", "tree", "names"] []
 gL:av P w K mg base aE 1 fL dL ["_law_names", "_law_bits_here", "_law_told"] rO
 mL:mg "_law_some" = some (.ref fL)
 kL:W.keepIn K (.ref fL)=true
 bL:Binds K dL ["_law_names", "_law_bits_here", "_law_told"] []
 gU:av P w K mg base aE 20 fU dU ["order", "tree", "given"] vw
 mU:mg "put_for" = some (.ref fU)
 kU:W.keepIn K (.ref fU)=true
 bU:Binds K dU ["order", "tree", "given"] []
 gV:av P w K mg base aE 2 fV dV xT vZ
 mV:mg "_law_put" = some (.ref fV)
 kV:W.keepIn K (.ref fV)=true
 bV:Binds K dV xT []
end
abbrev UC:List Str:=["_law_names", "_law_bits_here", "_law_number_here", "_law_more", "_law_tree", "_law_told", "_law_kept", "_law_given", "_law_spot", "_law_name", "_law_trees", "_law_found"]
abbrev xV:List Str:=["_law_names", "_law_bits_here", "_law_number_here", "_law_more"]
theorem D8:(["_law_spot", "_law_name", "_law_number_here"]:List Str).Nodup:=by decide +kernel
theorem KJ:(["_law_name", "_law_names", "_law_given"]:List Str).Nodup:=by decide +kernel
section
variable {P:Program}{w:World}{K:W.Frag}{mg:Str->Option Value}{base:Heap}{fK fS fB fO fL fU fV:Addr}{dK dS dB dO dL dU dV:FuncData}
theorem ke:aZ UC xV (ao lC):=⟨rfl,rfl,rfl,by decide +kernel,rfl,by decide +kernel,by decide +kernel⟩
theorem CY {f:Addr}{fd:FuncData}(F:cw K "_law_right" "_law_right" lC f fd) (O2:gc mg) (O:Own mg) (G:IZ P w K mg base fK fS fB fO fL fU fV dK dS dB dO dL dU dV):av P w K mg base aE 21 f fd xV rT:=by
 refine F.ok ke (λvs H Q E h=>?_) (λcdv A outer s H vs Q E hr h=>?_)
 . obtain ⟨p,q,names,bs,x,y,rfl,_⟩:=h
   rfl
 . obtain ⟨p,q,names,bs,x,y,rfl,hO,hb,kk⟩:=h
   have hu:=iD hr
   have D9:bw 18 _:=hr.mono (by decide)
   have Nr:bw 9 _:=hr.mono (by decide)
   have ef:bw 1 _:=hr.mono (by decide)
   have A4:bw 2 _:=hr.mono (by decide)
   refine ⟨_,ag (ax (i:=4) ke.nd rfl (Or.inl rfl) (aJ G.gK D9 rfl G.mK G.kK G.bK .nil aB (aa (pv 0) (aa (pv 1) af))))
    (ag (Ds (i:=5) (N:=["_law_spot", "_law_name", "_law_number_here"]) (js:=[none,none,some 2]) (g:=x6 K 2 (lF (dm 0) (lF (dm 1) xZ))) ke.nd rfl rfl (by kernel_rfl) rfl (kM rfl O.enum (aa (pv 0) af))
     (λ_ _ _ _ _ _=>jj rfl (cF (aQ (i:=0) D8 rfl (Or.inl rfl) (.inr rfl)) (cF (aQ (i:=1) D8 rfl (Or.inl rfl) (.inr rfl)) ie)))
     (λ_ _ _ _ _ _=>uy (bj dX (aD nc (aD ku (pv 2) (pv 0)) ah) ah (br _))) (λ_ _ _ _ _ _=>pv 1))
    (ag (bF (bj dX (aD nc (aD ku (pv 2) ah) ah) ah (br _)) (aq (jb (Gs PySem.F.plainAttrs_list PySem.F.slot_list_reverse PySem.F.type_list_reverse yl (pv 5)))) aY)
    (ag (ax (i:=6) ke.nd rfl (Or.inl rfl) (cO eN (by rfl) O2.list PyProof.Rows.boot_list (aa (pv 5) af)))
    (ag (bF (ko (fv (aJ G.gS Nr rfl G.mS G.kS G.bS .nil aB (aa (aJ G.gO hr rfl G.mO G.kO G.bO .nil aB (aa (cO eN (by rfl) O2.list PyProof.Rows.boot_list (aa (pv 0) af)) (aa (pv 4) (aa (pv 5) af))))
     (aa (aJ G.gK D9 rfl G.mK G.kK G.bK .nil aB (aa (pv 0) (aa (aJ G.gL ef rfl G.mL G.kL G.bL .nil aB (aa (pv 0) (aa (pv 1) (aa (pv 5) af)))) af))) af))))) (aq (aK iC)) aY)
    (ag (ax (i:=7) ke.nd rfl (Or.inr rfl) pb)
    (ag (d9 PassesOwn.never rfl (kM rfl O.enum (aa (pv 0) af)) (jj rfl (cF (aQ (i:=8) ke.nd rfl (Or.inl rfl)) (cF (aQ (i:=9) ke.nd rfl (Or.inl rfl)) ie)))
     (aq (bF (bj dX (aD nc (aD ku (pv 2) (aD dw ah (pv 8))) ah) ah (br _))
      (ag (jc hu (pv 7) (pv 9) (aJ G.gB ef rfl G.mB G.kB G.bB .nil aB (aa (pv 3) (aa (aU aV (by rfl) O2.len PySem.boot_len (aa (pv 0) af)) af))) rfl)
      (aq (ax (i:=3) ke.nd rfl (Or.inl rfl) (aD ku (pv 3) ah)))) aY)))
    (ag (ax (i:=10) ke.nd rfl (Or.inl rfl) (cO (eI rfl) (by rfl) O2.dict PyProof.Rows.boot_dict (aa (xE (eE (N:=["_law_name", "_law_names", "_law_given"]) (js:=[none,some 0,some 7]) (by kernel_rfl) rfl (Fl (pv 7)) (λ_ _ _ _ _ _=>aQ (i:=0) KJ rfl (Or.inl rfl) (.inr rfl)) (λ_ _ _ _ _ _=>cI)
     (λ_ _ _ _ _ _=>dE (aa (pv 0) (aa (aJ G.gK D9 rfl G.mK G.kK G.bK .nil aB (aa (pv 1) (aa (ij hu (pv 2) (pv 0) (λ_ _=>rfl)) af))) af))))) af)))
    (ag (ax (i:=11) ke.nd rfl (Or.inl rfl) (aJ G.gU hr rfl G.mU G.kU G.bU .nil aB (aa (cO eN (by rfl) O2.list PyProof.Rows.boot_list (aa (pv 0) af)) (aa (pv 4) (aa (pv 10) af)))))
    (ag (bF (PW.pt (nY (bj (AX hu) (pv 5) (pv 6) (br _)) (pT (bj (AX hu) (cO (kY rfl) (by rfl) O2.list PyProof.Rows.boot_list (aa (pv 10) af)) (cO (kY rfl) (by rfl) O2.list PyProof.Rows.boot_list (aa (pv 7) af)) (br _))))) (aq (aK iC)) aY)
    (aq (aK (aJ G.gS Nr rfl G.mS G.kS G.bS .nil aB (aa (pv 11) (aa (aJ G.gK D9 rfl G.mK G.kK G.bK .nil aB (aa (pv 0) (aa (aJ G.gV A4 rfl G.mV G.kV G.bV .nil aB (aa (pv 0) (aa (pv 1) (aa (pv 7) af)))) af))) af)))))))))))))),?_⟩
   have n8:=hO.n8
   have xU:(names.map V.str).length<=8:=by rw [List.length_map]; exact n8
   have hp:=nV n8
   have bl:=hb.len
   have xW:names.length<9:=by omega
   refine ⟨_,rfl,_,rfl,p,q,names,bs,rfl,hO.at_,hb.at_,xW,n8,bl,λv1 H1 s1 r1=>?_⟩
   refine ⟨_,rfl,p,rfl,⟨_,ay.of (s1 _ _ hO.at_)⟩,λD hD=>?_⟩
   refine fQ names.length (λi acc σ H9=>(∃told:List Str,acc=told.map V.str/\told.length<=i)/\(∃u1 u2,σ=[u1,u2,some (.int x)])/\aj H1 H9) ⟨⟨[],rfl,Nat.le_refl _⟩,⟨none,none,rfl⟩,aj.ar hD⟩ ae ?fin ?step
   case step=>
    rintro i acc σ H9 hi cP ⟨⟨told,rfl,oX⟩,⟨u1,u2,rfl⟩,s9⟩
    have h9:(names.map V.str)[i]?=some (.str names[i]):=by rw [List.getElem?_map,List.getElem?_eq_getElem hi]; rfl
    refine ⟨⟨_,_,ay.of (s9 _ _ (s1 _ _ hO.at_)),h9⟩,?_⟩
    rintro xx H' ⟨Tp,v,rfl,hT,rfl,hv⟩
    have ex:=hv _ (ay.of (s9 _ _ (s1 _ _ hO.at_)))
    rw [h9] at ex
    cases ex
    refine ⟨Tp,_,rfl,aT.of ae,rfl,_,_,rfl,_,_,rfl,rfl,?_⟩
    have W3:D≠Tp:=ab cP hT
    have sT:aj H9 (upd H9 Tp (.tup [.int (i:Int),.str names[i]])):=aj.ar hT
    have xI:=sT _ _ cP
    generalize upd H9 Tp (.tup [.int (i:Int),.str names[i]])=HT at sT xI ⊢
    refine ⟨_,rfl,_,rfl,_,_,rfl,rfl,(by show (0:Int)<=i; omega),_,_,rfl,rfl,rfl,_,rfl,?_⟩
    refine jt (λ_=>?_) (λ_=>?_)
    . refine ⟨_,rfl,_,xI,by rw [List.length_map]; exact small (by omega),cJ hi ae ⟨⟨told++[names[i]],by rw [List.map_append]; rfl,by rw [List.length_append]; exact Nat.succ_le_succ oX⟩,⟨_,_,rfl⟩,λb o hb=>?_⟩⟩
      rw [ai (ab hb hD)]
      exact sT _ _ (s9 _ _ hb)
    . exact cJ hi xI ⟨⟨told,rfl,by omega⟩,⟨_,_,rfl⟩,s9.trans sT⟩
   case fin=>
   rintro acc σ H2 cP ⟨⟨Ea,rfl,Wq⟩,_,s2⟩
   refine ⟨⟨_,ay.of (s2 _ _ (s1 _ _ hO.at_)),by rw [List.length_map]; exact Nat.le_refl _⟩,?_⟩
   dsimp only [dm]
   refine hide λR eR=>?_
   have rest:∀(told:List Str) (H3:Hp),told.length<=8->aj H1 H3->H3 D=some (.lst (told.map V.str))->R { nx:=λ_ H'=>Q .aX H',rt:=Q } [some (.ref p),some (.ref q),some (.int x),some (.int y),some v1,some (.ref D),none,none,none,none,none,none] H3:=by
    subst eR
    intro told H3 MY s3 oN
    have mz:=s1.trans s3
    have cQ:=hO.same mz
    refine ⟨_,rfl,D,_,rfl,.inl (ay.of oN),λkp UD=>?_⟩
    have s4:aj H3 (upd H3 kp (.lst (told.map V.str))):=aj.ar UD
    have q4:(upd H3 kp (.lst (told.map V.str))) kp=some (.lst (told.map V.str)):=ae
    show dj _ _ _ _ (upd H3 kp (.lst (told.map V.str)))
    generalize upd H3 kp (.lst (told.map V.str))=H4 at s4 q4 ⊢
    refine ⟨_,rfl,p,_,rfl,.inl (ay.of (s4 _ _ cQ.at_)),λoh UE=>?_⟩
    have s5:aj H4 (upd H4 oh (.lst (names.map V.str))):=aj.ar UE
    have q5:(upd H4 oh (.lst (names.map V.str))) oh=some (.lst (names.map V.str)):=ae
    generalize upd H4 oh (.lst (names.map V.str))=H5 at s5 q5 ⊢
    have oW:=s4.trans s5
    have UG:=s3.trans oW
    have qI:Ord H5 oh names:=⟨q5,hO.nd,hO.ok,hO.n8⟩
    have cb:cq names (cn names bs):=eW _ _
    refine ⟨_,rfl,_,rfl,oh,D,v1,names,told,cn names bs,rfl,qI,r1.keep (eJ UG),cb,oW _ _ oN,MY,λv2 t2 H6 s6 r2 c2 e2=>?_⟩
    have I0:=oW.trans s6
    have Ja:=mz.trans I0
    refine ⟨_,rfl,_,rfl,_,rfl,_,rfl,p,q,D,names,told,bs,rfl,hO.same Ja,Ja _ _ hb.at_,bl,I0 _ _ oN,λr cs H7 s7 UH dF e7=>?_⟩
    have UI:=I0.trans s7
    have Br:=Ja.trans s7
    refine ⟨p,r,names,cs,rfl,Br _ _ hO.at_,UH,xW,n8,dF,λv3 H8 s8 r3=>?_⟩
    have et:t2=cn names cs:=eY hO.nd c2 (eW _ _) λe=>Bool.eq_iff_iff.mpr ((e2 e).trans (e7 e).symm)
    refine ⟨_,_,_,_,rfl,r2.keep (eJ (s7.trans s8)),r3,Nat.lt_of_le_of_lt (eZ c2) xW,_,rfl,bJ (by rw [decide_eq_true et]; rfl) ?_⟩
    have Jb:=UI.trans s8
    have Jc:=mz.trans Jb
    have UJ:=s3.trans Jb
    refine λgd iY=>?_
    have s9:aj H8 (upd H8 gd (.dK [])):=aj.ar iY
    have q9:(upd H8 gd (.dK [])) gd=some (.dK []):=ae
    show dj _ _ _ _ (upd H8 gd (.dK []))
    generalize upd H8 gd (.dK [])=H9 at s9 q9 ⊢
    have Eb:=Jc.trans s9
    have Ec:H gd=none:=by
     cases e:H gd with
     | none=>rfl
     | some u=>exact absurd (Jc _ _ e) (by rw [iY]; exact λz=>nomatch z)
    refine ⟨_,rfl,p,rfl,⟨_,ay.of (Eb _ _ hO.at_)⟩,pO (K:=K) (a:=p) (xs:=names.map V.str) (λi σ Hi=>∃(L:List (Str×List Bool)) (gkv:List (Key×V)) (v8 v9:Option V) (y':Int),σ=[some (.ref p),some (.ref q),some (.int x),some (.int y'),some v1,some (.ref D),some (.ref kp),some (.ref gd),v8,v9,none,none]/\(∀b u,H9 b=some u->b≠gd->Hi b=some u)/\Hi gd=some (.dK gkv)/\vY Hi names gkv L/\(L.map (·.1)).Nodup/\(∀p∈L,p.1∈names.take i)/\L.length<=i) ?_ ?_ ?_ ?_⟩
    . exact ⟨[],[],_,_,y,rfl,λ_ _ h _=>h,q9,.nil,List.nodup_nil,(λ_ h=>nomatch h),Nat.le_refl _⟩
    . rintro i σ Hi _ ⟨L,gkv,v8,v9,y',rfl,ki,_⟩
      exact ay.of (ki _ _ (Eb _ _ hO.at_) (ab hO.at_ Ec))
    . rintro i xv Tp σ Hi mJ hT ⟨L,gkv,v8,v9,y',rfl,ki,UK,hL,iZ,eG,Bn⟩
      have hi:i<names.length:=by
       have:=(List.getElem?_eq_some_iff.mp mJ).1
       rwa [List.length_map] at this
      have h9:names[i]?=some names[i]:=List.getElem?_eq_getElem hi
      rw [List.getElem?_map,h9] at mJ
      cases mJ
      generalize names[i]=n at h9
      have sT:aj Hi (upd Hi Tp (.tup [.int (i:Int),.str n])):=aj.ar hT
      have qT:(upd Hi Tp (.tup [.int (i:Int),.str n])) Tp=some (.tup [.int (i:Int),.str n]):=ae
      refine ⟨Tp,_,rfl,aT.of qT,rfl,_,_,rfl,_,_,rfl,rfl,?_⟩
      have kj:∀b u,H9 b=some u->b≠gd->(upd Hi Tp (.tup [.int (i:Int),.str n])) b=some u:=λb u hb nb=>sT _ _ (ki b u hb nb)
      have Ed:=sT _ _ UK
      have Jd:vY (upd Hi Tp (.tup [.int (i:Int),.str n])) names gkv L:=Paired.cy hL λkv p ⟨e1,a,e2,e3,e4⟩=>⟨e1,a,e2,sT _ _ e3,e4⟩
      generalize upd Hi Tp (.tup [.int (i:Int),.str n])=Hj at sT qT kj Ed Jd ⊢
      have ky:names.take (i+1)=names.take i++[n]:=by rw [List.take_succ,h9]; rfl
      refine ⟨_,rfl,_,rfl,_,_,rfl,rfl,_,_,rfl,rfl,(by show (0:Int)<=6+(i:Int); omega),_,_,rfl,rfl,rfl,_,rfl,?_⟩
      refine jt (λ_=>?_) (λ_=>?_)
      . refine ⟨_,rfl,_,rfl,p,_,rfl,.inl (ay.of (kj _ _ (Eb _ _ hO.at_) (ab hO.at_ Ec))),y',_,rfl,xU,λqb cb Hb sb Wr Nt gs=>?_⟩
        rw [List.length_map] at gs
        have Nu:=sb _ _ Ed
        have sF:=hL.length
        have Je:n∉L.map (·.1):=λhm=>by
         obtain ⟨pp,BH,e⟩:=List.mem_map.mp hm
         have h1:=eG pp BH
         rw [e] at h1
         obtain ⟨j,hj,ej⟩:=List.mem_take_iff_getElem.mp h1
         have UL:j<names.length:=by omega
         have e1:names[i]?=names[j]?:=by rw [h9,List.getElem?_eq_getElem UL,ej]
         have:=(List.getElem?_inj hi hO.nd).mp e1
         omega
        have rQ:aR gkv (.inr n)=none:=by
         have:=pP hL n
         cases oT:ff L n with
         | none=>rw [oT] at this; exact this
         | some l=>exact absurd (List.mem_map.mpr ⟨_,tD oT,rfl⟩) Je
        refine ⟨_,rfl,_,rfl,gd,_,rfl,gJ.k (k:=.inr n) Nu (small (by omega)),?_⟩
        rw [lK _ rQ]
        refine ⟨_,rfl,_,_,rfl,rfl,(by show (0:Int)<=3; decide),?_⟩
        refine ⟨L++[(n,cb)],gkv++[(.inr n,.ref qb)],_,_,_,rfl,λb u hb nb=>?_,ae,?_,?_,?_,?_⟩
        . rw [ai nb]
          exact sb _ _ (kj b u hb nb)
        . refine b0 (Paired.cy Jd λkv p ⟨e1,a,e2,e3,e4⟩=>⟨e1,a,e2,?_,e4⟩) (.cons ⟨rfl,qb,rfl,?_,gs⟩ .nil)
          . rw [ai (aL e3 Ed (by intro z; cases z))]
            exact sb _ _ e3
          . rw [ai (aL Nt Nu (by intro z; cases z))]
            exact Nt
        . rw [List.map_append,List.nodup_append]
          refine ⟨iZ,by simp,λa ha b hb e=>?_⟩
          have:b=n:=by simpa using hb
          exact Je (by rw [← this,← e]; exact ha)
        . intro pp BH
          rw [ky]
          rcases List.mem_append.mp BH with h | h
          . exact List.mem_append_left _ (eG pp h)
          . rw [List.mem_singleton.mp h]
            exact List.mem_append_right _ (List.mem_singleton_self _)
        . rw [List.length_append]
          exact Nat.succ_le_succ Bn
      . refine ⟨L,gkv,_,_,_,rfl,kj,Ed,Jd,iZ,λpp BH=>?_,by omega⟩
        rw [ky]
        exact List.mem_append_left _ (eG pp BH)
    . rintro σ Ha ⟨L,gkv,v8,v9,y',rfl,ka,Ee,hL,iZ,eG,IS⟩
      rw [List.length_map] at IS
      have sF:=hL.length
      have Nv:aj H Ha:=λb u hb=>ka _ _ (Eb _ _ hb) (ab hb Ec)
      have Nw:aj H8 Ha:=λb u hb=>ka _ _ (s9 _ _ hb) (ab hb iY)
      refine ⟨_,rfl,gd,gkv,rfl,Ee,λob D2 jv=>?_⟩
      have qQ:(upd Ha gd (.cz ob (.dK gkv))) gd=some (.cz ob (.dK gkv)):=ae
      have kf:∀b u,Ha b=some u->b≠gd->(upd Ha gd (.cz ob (.dK gkv))) b=some u:=λb u hb nb=>by rw [ai nb]; exact hb
      generalize upd Ha gd (.cz ob (.dK gkv))=Hf at jv qQ kf ⊢
      have nU:D2≠gd:=(ab qQ jv).symm
      have k8:∀{Hx:Hp},aj Hf Hx->aj H8 Hx:=λs b u hb=>s _ _ (kf _ _ (Nw _ _ hb) (ab hb iY))
      refine fQ gkv.length (λi acc σ Hx=>∃(ts:List Addr) (ks:List (Key×V)),acc=ts.map V.ref/\Paired (λt (kv:Key×V)=>Hx t=some (.tup [L2.kV kv.1,kv.2])) ts ks/\DR Hx names ks (i5 names (L.take i))/\(∃u,σ=[u,some (.ref p),some (.ref gd)])/\aj Hf Hx)
       ⟨[],[],rfl,.nil,.nil,⟨none,rfl⟩,aj.ar jv⟩ ae ?fin2 ?step2
      case step2=>
       rintro i acc σ Hx hi Jf ⟨ts,ks,rfl,eU,BI,⟨u,rfl⟩,sx⟩
       have lq:=sx _ _ qQ
       have Iy:i<L.length:=by omega
       have wj:L[i]?=some L[i]:=List.getElem?_eq_getElem Iy
       obtain ⟨sW,vy,f1,a,f2,f3,f4⟩:=gx hL wj
       refine ⟨⟨lq,hi⟩,?_⟩
       rintro x' H' ⟨rfl,kv,bf,rfl⟩
       rw [vy] at bf
       cases bf
       generalize L[i]=pp at wj f1 f3 f4
       have rQ:aR gkv (.inr pp.1)=some (.ref a):=by
        have:=pP hL pp.1
        rw [wd iZ wj] at this
        obtain ⟨a',h1,h2,_⟩:=this
        rw [h1]
        have GL:=List.mem_of_getElem? vy
        exact congrArg some (val_one hL iZ wj vy h1 f2)
       rw [f1]
       have ha:=sx _ _ (kf _ _ f3 (aL f3 Ee (by intro z; cases z)))
       refine dM ⟨_,rfl,_,rfl,_,rfl,_,rfl,gd,.ref a,rfl,.inl ⟨gkv,.inr pp.1,.inr ⟨ob,lq⟩,rfl,rQ.symm⟩,p,a,names,pp.2,rfl,k8 sx _ _ (Jc _ _ hO.at_),ha,xW,n8,f4,λvv Hy sy ry=>⟨(by show 2<=sizeLine; decide),λtt Bo=>?_⟩⟩
       have Nx:=sy _ _ Jf
       have DQ:D2≠tt:=ab Nx Bo
       have sz:aj Hy (upd Hy tt (.tup [L2.kV (Sum.inr pp.1),vv])):=aj.ar Bo
       have qz:(upd Hy tt (.tup [L2.kV (Sum.inr pp.1),vv])) tt=some (.tup [L2.kV (Sum.inr pp.1),vv]):=ae
       generalize upd Hy tt (.tup [L2.kV (Sum.inr pp.1),vv])=Hz at sz qz ⊢
       have Ny:=sz _ _ Nx
       have oX:=eU.length
       have DT:=BI.length
       unfold i5 at DT
       rw [List.length_map,List.length_take] at DT
       have wk:∀b xs,Hz b=some (.tup xs)->(upd Hz D2 (.lst (ts.map V.ref++[.ref tt]))) b=some (.tup xs):=λb xs e=>by rw [ai (aL e Ny (by intro z; cases z))]; exact e
       refine ⟨_,Ny,by rw [List.length_map]; exact small (by omega),cJ hi ae ⟨ts++[tt],ks++[(.inr pp.1,vv)],by rw [List.map_append]; rfl,?_,?_,⟨_,rfl⟩,λb o hb=>?_⟩⟩
       . exact b0 (Paired.cy eU λb kv e=>wk _ _ (sz _ _ (sy _ _ e))) (.cons (wk _ _ qz) .nil)
       . unfold i5
         rw [List.take_succ,wj,Option.toList_some,List.map_append]
         exact b0 (Paired.cy BI λkv p ⟨e1,e2,e3⟩=>⟨e1,(e2.keep (eJ (sy.trans sz))).keep wk,e3⟩) (.cons ⟨rfl,(ry.keep (eJ sz)).keep wk,eW _ _⟩ .nil)
       . rw [ai (ab hb jv)]
         exact sz _ _ (sy _ _ (sx _ _ hb))
      case fin2=>
      rintro acc σ Hx Jf ⟨ts,ks,rfl,eU,BI,_,sx⟩
      rw [show L.take gkv.length=L by rw [sF,List.take_length]] at BI
      have lq:=sx _ _ qQ
      refine ⟨⟨lq,rfl⟩,gd,ob,gkv,lq,(λo' u e=>by have e':H gd=_:=e; rw [Ec] at e'; cases e'),?_⟩
      have wk:∀b xs,Hx b=some (.tup xs)->(upd Hx gd (.dK gkv)) b=some (.tup xs):=λb xs e=>by rw [ai (aL e lq (by intro z; cases z))]; exact e
      have Bl:(upd Hx gd (.dK gkv)) D2=some (.lst (ts.map V.ref)):=by rw [ai nU]; exact Jf
      have Nz:(upd Hx gd (.dK gkv)) gd=some (.dK gkv):=ae
      have Bm:Paired (λt (kv:Key×V)=>(upd Hx gd (.dK gkv)) t=some (.tup [L2.kV kv.1,kv.2])) ts ks:=Paired.cy eU λb kv e=>wk _ _ e
      have Ef:DR (upd Hx gd (.dK gkv)) names ks (i5 names L):=Paired.cy BI λkv p ⟨e1,e2,e3⟩=>⟨e1,e2.keep wk,e3⟩
      have sat:aj Ha (upd Hx gd (.dK gkv)):=λb u hb=>by
       by_cases e:b=gd
       . rw [e,Ee] at hb
         rw [e,ae,← hb]
       . rw [ai e]
         exact sx _ _ (kf _ _ hb e)
      generalize upd Hx gd (.dK gkv)=Ht at Bl Nz Bm Ef sat ⊢
      refine ⟨D2,ts,ks,rfl,Bl,Bm,λtd UM=>?_⟩
      have UN:(ks.map (·.1)).Nodup:=by
       rw [we Ef]
       have:((i5 names L).map (·.1)).Nodup:=by rw [pQ]; exact iZ
       exact List.pairwise_map.mpr (List.Pairwise.imp (λh z=>h (Sum.inr.inj z)) (List.pairwise_map.mp this))
      rw [show cH [] ks=ks from hW _ [] (by rw [List.nil_append]; exact UN)]
      have sb:aj Ht (upd Ht td (.dK ks)):=aj.ar UM
      have qb:(upd Ht td (.dK ks)) td=some (.dK ks):=ae
      show dj _ _ _ _ (upd Ht td (.dK ks))
      generalize upd Ht td (.dK ks)=Hb at sb qb ⊢
      have NA:=sat.trans sb
      have UO:=Nw.trans NA
      have UP:=Nv.trans NA
      refine ⟨_,rfl,p,_,rfl,.inl (ay.of (UP _ _ hO.at_)),λo2 qh=>?_⟩
      have sc:aj Hb (upd Hb o2 (.lst (names.map V.str))):=aj.ar qh
      have qc:(upd Hb o2 (.lst (names.map V.str))) o2=some (.lst (names.map V.str)):=ae
      generalize upd Hb o2 (.lst (names.map V.str))=Hc at sc qc ⊢
      have NB:=UO.trans sc
      have UQ:=sb.trans sc
      refine ⟨_,rfl,_,rfl,o2,td,v1,names,i5 names L,ks,cn names bs,rfl,⟨qc,hO.nd,hO.ok,hO.n8⟩,r1.keep (eJ (UJ.trans NB)),cb,sc _ _ qb,Paired.cy Ef λkv p ⟨e1,e2,e3⟩=>⟨e1,e2.keep (eJ UQ),e3⟩,by rw [pQ]; exact iZ,by unfold i5; rw [List.length_map]; omega,λv4 t4 Hd sd r4 c4 e4=>?_⟩
      have NC:=NB.trans sd
      have ND:=sc.trans sd
      have NF:=sb.trans ND
      refine ⟨_,rfl,_,rfl,D,kp,told.map V.str,rfl,rfl,ay.of (NC _ _ (Jb _ _ oN)),ay.of (NC _ _ ((s5.trans (s6.trans (s7.trans s8))) _ _ q4)),jR told,wg told,_,rfl,gQ ?_⟩
      refine ⟨_,rfl,td,ks,rfl,.inl (ND _ _ qb),λl1 lj=>?_⟩
      have KL:ks.map (λkv=>L2.kV kv.1)=(L.map (·.1)).map V.str:=by
       rw [show (ks.map λkv=>L2.kV kv.1)=(ks.map (·.1)).map L2.kV by rw [List.map_map]; rfl,we Ef,List.map_map,← pQ names L,List.map_map]
       rfl
      rw [KL]
      have se:aj Hd (upd Hd l1 (.lst ((L.map (·.1)).map V.str))):=aj.ar lj
      have qe:(upd Hd l1 (.lst ((L.map (·.1)).map V.str))) l1=some (.lst ((L.map (·.1)).map V.str)):=ae
      generalize upd Hd l1 (.lst ((L.map (·.1)).map V.str))=He at se qe ⊢
      refine ⟨_,rfl,gd,gkv,rfl,.inl (se _ _ (NF _ _ Nz)),λl2 fg=>?_⟩
      rw [CW hL]
      have sf:aj He (upd He l2 (.lst ((L.map (·.1)).map V.str))):=aj.ar fg
      have qf:(upd He l2 (.lst ((L.map (·.1)).map V.str))) l2=some (.lst ((L.map (·.1)).map V.str)):=ae
      generalize upd He l2 (.lst ((L.map (·.1)).map V.str))=Hg at sf qf ⊢
      refine ⟨l1,l2,_,rfl,rfl,ay.of (sf _ _ qe),ay.of qf,jR _,wg _,_,rfl,gQ ?_⟩
      have NG:=se.trans sf
      have Jg:=sat.trans (NF.trans NG)
      have Eg:=Nv.trans Jg
      refine ⟨_,rfl,_,rfl,_,rfl,_,rfl,_,rfl,p,q,gd,names,L,gkv,bs,rfl,hO.same Eg,Eg _ _ hb.at_,bl,Jg _ _ Ee,Paired.cy hL λkv p ⟨e1,a,e2,e3,e4⟩=>⟨e1,a,e2,Jg _ _ e3,e4⟩,FG hL,λUR DV Hh sh Pw Px e5=>?_⟩
      refine ⟨p,UR,names,DV,rfl,sh _ _ (Eg _ _ hO.at_),Pw,xW,n8,Px,λv5 Hk sk r5=>?_⟩
      have US:t4=cn names DV:=eY hO.nd c4 (eW _ _) λe=>by rw [e4 e,e5 e]
      refine ⟨_,_,_,_,rfl,r4.keep (eJ (NG.trans (sh.trans sk))),r5,Nat.lt_of_le_of_lt (eZ c4) xW,?_⟩
      rw [decide_eq_true US]
      exact kk Hk (Eg.trans (sh.trans sk))
   clear eR
   refine ⟨_,rfl,_,_,rfl,rfl,(by show (0:Int)<=5; decide),_,_,rfl,rfl,rfl,_,rfl,?_⟩
   refine jt (λ_=>?_) (λ_=>?_)
   . refine ⟨_,rfl,.inl ⟨rfl,_,ay.of cP⟩,D,_,rfl,rfl,cP,?_⟩
     refine rest Ea.reverse _ (by rw [List.length_reverse]; omega) (λb u hb=>?_) (by rw [List.map_reverse]; exact ae)
     rw [ai (ab hb hD)]
     exact s2 _ _ hb
   . exact rest Ea H2 (by omega) s2 cP
end
end Gen
namespace Gen
open PySem L2
def tN (K:W.Frag):Sp:=λvs H Q _=>∃(a:Addr) (ns:List Int),vs=[.ref a]/\ay K H a (ns.map V.int)/\∀H',Q (.bl true) H'
abbrev Py:List Str:=["_law_script", "_law_names", "_law_k", "_law_bits_here", "_law_number_here", "_law_more", "_law_back", "_law_twin"]
section
variable (P:Program) (w:World) (K:W.Frag) (mg:Str->Option Value) (base:Heap)
structure Jh (fD fN fT fR fU:Addr) (dD dN dT dR dU:FuncData):Prop where
 gD:av P w K mg base aE 3 fD dD ["_law_script"] (xJ K)
 mD:mg "_law_order" = some (.ref fD)
 kD:W.keepIn K (.ref fD)=true
 bD:Binds K dD ["_law_script"] []
 gN:av P w K mg base aE 3 fN dN ["_law_script", "_law_k"] (vG K)
 mN:mg "_law_number" = some (.ref fN)
 kN:W.keepIn K (.ref fN)=true
 bN:Binds K dN ["_law_script", "_law_k"] []
 gT:av P w K mg base aE 1 fT dT tf qR
 mT:mg "_law_bits" = some (.ref fT)
 kT:W.keepIn K (.ref fT)=true
 bT:Binds K dT tf []
 gR:av P w K mg base aE 21 fR dR xV rT
 mR:mg "_law_right" = some (.ref fR)
 kR:W.keepIn K (.ref fR)=true
 bR:Binds K dR xV []
 gU:av P w K mg base aE 1 fU dU BD wa
 mU:mg "_law_turned" = some (.ref fU)
 kU:W.keepIn K (.ref fU)=true
 bU:Binds K dU BD []
end
section
variable {P:Program}{w:World}{K:W.Frag}{mg:Str->Option Value}{base:Heap}{fD fN fT fR fU:Addr}{dD dN dT dR dU:FuncData}
theorem jY:aZ Py ["_law_script"] (ao mh):=⟨rfl,rfl,rfl,by decide +kernel,rfl,by decide +kernel,by decide +kernel⟩
theorem Ji {f:Addr}{fd:FuncData}(F:cw K "law" "law" mh f fd) (O:Own mg) (O2:gc mg) (G:Jh P w K mg base fD fN fT fR fU dD dN dT dR dU):av P w K mg base aE 22 f fd ["_law_script"] (tN K):=by
 refine F.ok jY (λvs H Q E h=>?_) (λcdv A outer s H vs Q E hr h=>?_)
 . obtain ⟨a,ns,rfl,_⟩:=h
   rfl
 . obtain ⟨a,ns,rfl,ha,kk⟩:=h
   have Eh:bw 3 _:=hr.mono (by decide)
   have ef:bw 1 _:=hr.mono (by decide)
   refine ⟨_,ag (ax (i:=1) jY.nd rfl (Or.inl rfl) (aJ G.gD Eh rfl G.mD G.kD G.bD .nil aB (aa (pv 0) af)))
    (ag (d9 PassesOwn.never rfl (cV rfl O.range (aa (aD dw ah (aU (zF rfl) (by rfl) O2.min PyProof.Rows.boot_min (aa (aS (r:=dt K) bz (fw (aa ah (aa ah af))) (cO zG (by rfl) O2.int PyProof.Rows.boot_int (aa (rg J2 (aU aV (by rfl) O2.len PySem.boot_len (aa (pv 1) af)) ah (br _)) af)) (λ_ _=>rfl))
     (aa (aD kr (aU aV (by rfl) O2.len PySem.boot_len (aa (dZ kF (pv 0) (eu ah) (eu ah)) af)) ah) af)))) af)) (aQ (i:=2) jY.nd rfl (Or.inl rfl))
     (ag (ax (i:=3) jY.nd rfl (Or.inl rfl) (aJ G.gT ef rfl G.mT G.kT G.bT .nil aB (aa (aJ G.gN Eh rfl G.mN G.kN G.bN .nil aB (aa (pv 0) (aa (aD dw ah (aD eM ah (pv 2))) af))) (aa (aU aV (by rfl) O2.len PySem.boot_len (aa (pv 1) af)) af))))
     (ag (ax (i:=4) jY.nd rfl (Or.inl rfl) (aD gF (aJ G.gN Eh rfl G.mN G.kN G.bN .nil aB (aa (pv 0) (aa (aD dw ah (aD eM ah (pv 2))) af))) ah))
     (ag (ax (i:=5) jY.nd rfl (Or.inl rfl) (aD gF (aJ G.gN Eh rfl G.mN G.kN G.bN .nil aB (aa (pv 0) (aa (aD dw ah (aD eM ah (pv 2))) af))) (aD Gb ah ah)))
     (ag (bF (ko (fv (aJ G.gR hr rfl G.mR G.kR G.bR .nil aB (aa (pv 1) (aa (pv 3) (aa (pv 4) (aa (pv 5) af))))))) (aq (aK iC)) aY)
     (ag (ax (i:=6) jY.nd rfl (Or.inl rfl) (ID (by rfl) O2.list (by rfl) O2.rev rfl (aa (pv 1) af)))
     (ag (ax (i:=7) jY.nd rfl (Or.inl rfl) (aJ G.gU ef rfl G.mU G.kU G.bU .nil aB (aa (pv 3) (aa (aU aV (by rfl) O2.len PySem.boot_len (aa (pv 1) af)) af))))
     (ag (bF (PW.pt (pU (bj dX (pv 2) ah (br _)) (pU (bj lH (aU aV (by rfl) O2.len PySem.boot_len (aa (pv 1) af)) ah (br _)) (wN (ko (fv (aJ G.gR hr rfl G.mR G.kR G.bR .nil aB (aa (pv 6) (aa (pv 7) (aa (pv 4) (aa (pv 5) af))))))))))) (aq (aK iC)) aY)
     (aq (bF (PW.pt (pU (bj dX (pv 2) ah (br _)) (pU (bj lH (aU aV (by rfl) O2.len PySem.boot_len (aa (pv 1) af)) ah (br _)) (wN (ko (fv (aJ G.gR hr rfl G.mR G.kR G.bR .nil aB (aa (pv 1) (aa (pv 3) (aa (pv 4) (aa (pv 5) af))))))))))) (aq (aK iC)) aY))))))))))
    (aq (aK iC))),?_⟩
   refine ⟨_,rfl,a,ns,rfl,ha,λnm names H1 s1 my hO=>?_⟩
   have n8:=hO.n8
   have hp:=nV n8
   have oO:=aj.seq s1 ha
   have xU:(names.map V.str).length<=8:=by rw [List.length_map]; exact n8
   refine ⟨(by show 2<=sizeLine; decide),λL hL=>?_⟩
   have s2:aj H1 (upd H1 L (.lst [.int 8,.int 0])):=aj.ar hL
   have q2:(upd H1 L (.lst [.int 8,.int 0])) L=some (.lst [.int 8,.int 0]):=ae
   generalize upd H1 L (.lst [.int 8,.int 0])=H2 at s2 q2 ⊢
   refine ⟨_,rfl,nm,_,rfl,.inl (ay.of (s2 _ _ hO.at_)),_,_,rfl,rfl,.inr ⟨_,rfl,?_⟩⟩
   obtain ⟨m0,Nc,UT⟩:∃m0:Int,(m0=8\/m0=0)/\jQ [V.int 8,V.int 0] (if decide ((5:Int)<(((names.map V.str).length:Nat):Int))=true then 1 else 0)=some (.int m0):=by
    by_cases h:(5:Int)<(((names.map V.str).length:Nat):Int)
    . exact ⟨0,.inr rfl,by rw [decide_eq_true h]; rfl⟩
    . exact ⟨8,.inl rfl,by rw [decide_eq_false h]; rfl⟩
   refine ⟨L,_,_,.int m0,rfl,rfl,ay.of q2,UT,?_⟩
   refine ⟨_,rfl,_,rfl,_,rfl,a,_,rfl,aj.seq s2 oO,λc hc=>?_⟩
   have s3:aj H2 (upd H2 c (.lst (d4 (ns.map V.int) (some 1) (some 63)))):=aj.ar hc
   have q3:(upd H2 c (.lst (d4 (ns.map V.int) (some 1) (some 63)))) c=some (.lst (d4 (ns.map V.int) (some 1) (some 63))):=ae
   generalize upd H2 c (.lst (d4 (ns.map V.int) (some 1) (some 63)))=H3 at s3 q3 ⊢
   refine ⟨c,_,rfl,.inl (ay.of q3),_,_,rfl,rfl,⟨by decide,by decide⟩,_,_,rfl,_,_,rfl,rfl,?_⟩
   have HX:=s2.trans s3
   have NH:(1:Int)+(if (((d4 (ns.map V.int) (some 1) (some 63)).length:Nat):Int) / 3<m0 then (((d4 (ns.map V.int) (some 1) (some 63)).length:Nat):Int) / 3 else m0)<=9:=by split <;> omega
   have NI : -(2 ^ 62)<=(1:Int)+(if (((d4 (ns.map V.int) (some 1) (some 63)).length:Nat):Int) / 3<m0 then (((d4 (ns.map V.int) (some 1) (some 63)).length:Nat):Int) / 3 else m0):=by
    have:(-1:Int)<=(if (((d4 (ns.map V.int) (some 1) (some 63)).length:Nat):Int) / 3<m0 then (((d4 (ns.map V.int) (some 1) (some 63)).length:Nat):Int) / 3 else m0):=by
     split <;> omega
    exact Int.le_trans (by decide : -(2 ^ 62)<=(0:Int)) (by omega)
   refine ⟨_,rfl,NI,Int.lt_of_le_of_lt NH (by decide),eL (λi σ Hi=>∃(v2 v3 v4 v5 v6 v7:Option V),σ=[some (.ref a),some (.ref nm),v2,v3,v4,v5,v6,v7]/\aj H1 Hi) ⟨none,none,none,none,none,none,rfl,HX⟩ ?_ ?_⟩
   . rintro i σ Hi hi ⟨v2,v3,v4,v5,v6,v7,rfl,si⟩
     have Ws:(i:Int)<9:=by omega
     clear NH NI hi
     have UU:=aj.seq si oO
     have UW:=hO.same si
     refine ⟨_,rfl,_,rfl,_,_,rfl,rfl,.inl ⟨by decide,by decide⟩,_,_,rfl,rfl,a,ns,_,rfl,UU,by omega,by omega,λx1=>?_⟩
     refine ⟨_,rfl,nm,_,rfl,.inl (ay.of UW.at_),x1,_,rfl,xU,λq bs H4 s4 _ Hw lb=>?_⟩
     rw [List.length_map] at lb
     have r1:Row H4 q bs names.length:=⟨Hw,lb⟩
     have Ei:=si.trans s4
     have hJ:=hO.same Ei
     refine ⟨_,rfl,_,rfl,_,_,rfl,rfl,.inl ⟨by decide,by decide⟩,_,_,rfl,rfl,a,ns,_,rfl,aj.seq Ei oO,by omega,by omega,λx2=>⟨_,_,rfl,rfl,(by show (0:Int)<16384; decide),?_⟩⟩
     refine ⟨_,rfl,_,rfl,_,_,rfl,rfl,.inl ⟨by decide,by decide⟩,_,_,rfl,rfl,a,ns,_,rfl,aj.seq Ei oO,by omega,by omega,λx3=>⟨_,_,rfl,rfl,⟨by decide,by decide,by decide⟩,_,_,rfl,rfl,(by show (0:Int)<10 ^ (30:Int).toNat; decide),?_⟩⟩
     refine ⟨_,rfl,_,rfl,_,rfl,_,rfl,nm,q,names,bs,_,_,rfl,hJ,r1,λHa sa=>⟨_,rfl,bJ rfl ?_⟩⟩
     have NJ:=Ei.trans sa
     have NK:=hO.same NJ
     refine ⟨_,rfl,nm,_,rfl,ay.of NK.at_,λl hl=>?_⟩
     rw [← List.map_reverse]
     have sf:aj Ha (upd Ha l (.lst (names.reverse.map V.str))):=aj.ar hl
     have qf:(upd Ha l (.lst (names.reverse.map V.str))) l=some (.lst (names.reverse.map V.str)):=ae
     show dj _ _ _ _ (upd Ha l (.lst (names.reverse.map V.str)))
     generalize upd Ha l (.lst (names.reverse.map V.str))=Hf at sf qf ⊢
     have jW:=NK.same sf
     have rf:=(r1.same sa).same sf
     refine ⟨_,rfl,_,rfl,nm,_,rfl,.inl (ay.of jW.at_),q,bs,_,rfl,xU,rf.at_,by rw [List.length_map]; exact lb,λt1 e1 Hc sc _ HC NL=>?_⟩
     rw [List.length_map] at NL
     have Ej:=jW.same sc
     have rc:=rf.same sc
     have Jj:=NJ.trans (sf.trans sc)
     refine ⟨_,rfl,rfl,_,rfl,?_⟩
     by_cases hk:i=0
     . refine bY (decide_eq_true (by rw [hk]; rfl)) ?_
       refine ⟨_,rfl,nm,_,rfl,.inl (ay.of Ej.at_),_,_,rfl,rfl,_,rfl,?_⟩
       by_cases h7:(((names.map V.str).length:Nat):Int)<7
       . refine bY (decide_eq_true h7) ?_
         refine ⟨_,rfl,_,rfl,_,rfl,_,rfl,l,t1,names.reverse,e1,_,_,rfl,Ej.rev (sc _ _ qf),⟨HC,by rw [List.length_reverse]; exact NL⟩,λHg sg=>⟨_,rfl,bJ rfl ?_⟩⟩
         have NM:=Ej.same sg
         refine ⟨_,rfl,rfl,_,rfl,bY (decide_eq_true (by rw [hk]; rfl)) ?_⟩
         refine ⟨_,rfl,nm,_,rfl,.inl (ay.of NM.at_),_,_,rfl,rfl,_,rfl,bY (decide_eq_true h7) ?_⟩
         refine ⟨_,rfl,_,rfl,_,rfl,_,rfl,nm,q,names,bs,_,_,rfl,NM,rc.same sg,λHh sh=>⟨_,rfl,bJ rfl ?_⟩⟩
         exact ⟨_,_,_,_,_,_,rfl,Jj.trans (sg.trans sh)⟩
       . refine bJ (decide_eq_false h7) (gQ ?_)
         refine ⟨_,rfl,rfl,_,rfl,bY (decide_eq_true (by rw [hk]; rfl)) ?_⟩
         refine ⟨_,rfl,nm,_,rfl,.inl (ay.of Ej.at_),_,_,rfl,rfl,_,rfl,bJ (decide_eq_false h7) (gQ ?_)⟩
         exact ⟨_,_,_,_,_,_,rfl,Jj⟩
     . have kI:decide (V.int (0+(i:Int))=V.int 0)=false:=decide_eq_false λz=>hk (by have:=V.int.inj z; omega)
       refine bJ kI (gQ ⟨_,rfl,rfl,_,rfl,bJ kI (gQ ⟨_,_,_,_,_,_,rfl,Jj⟩)⟩)
   . rintro σ Hi ⟨v2,v3,v4,v5,v6,v7,rfl,si⟩
     exact kk Hi
end
end Gen
namespace L2
open PySem PySem.Spec PyProof.Rows
theorem zg {α:Type} : ∀{us:List α},us.length=1->∃a,us=[a]
 | [a],_=>⟨a,rfl⟩
theorem CZ {α:Type} : ∀{us:List α}{n:Nat},us.length=n+1->∃a r,us=a::r/\r.length=n
 | a::r,_,h=>⟨a,r,rfl,Nat.succ.inj h⟩
theorem gj {α:Type}{us:List α}(h:us.length=2):∃a b,us=[a,b]:=by
 obtain ⟨a,r,rfl,h1⟩:=CZ h
 obtain ⟨b,rfl⟩:=zg h1
 exact ⟨a,b,rfl⟩
theorem wm {α:Type}{us:List α}(h:us.length=3):∃a b c,us=[a,b,c]:=by
 obtain ⟨a,r,rfl,h1⟩:=CZ h
 obtain ⟨b,c,rfl⟩:=gj h1
 exact ⟨a,b,c,rfl⟩
theorem rU {α:Type}{us:List α}(h:us.length=4):∃a b c d,us=[a,b,c,d]:=by
 obtain ⟨a,r,rfl,h1⟩:=CZ h
 obtain ⟨b,c,d,rfl⟩:=wm h1
 exact ⟨a,b,c,d,rfl⟩
end L2
namespace Gen
open PySem L2
section
theorem all_mk {l:W.OpenLaw}{w:World}{K:W.Frag}{h:Heap}{mg:Str->Option Value}{fa C wo wq zh zi zj wt zl zm zo f2 f3 f6 f7 f8 f9 Ek El Em En Jk Jl Eo Jm Ep Er Jn Es Jo:Addr}(X:K.In h) (G:h.Ns mainGlobals mg) (UX:mg "law" = some (.ref fa))
 {KN KO KP KQ KR KS KU KW KY KZ K0 K1 K2 K3 K4 K5 K6 K7 UY UZ U0 U1 U2 U3 U4 U5 U6 U7 U8 U9 Pz PB PF PH PJ PK PL PM PN PQ PR PU PV PX PY PZ P4 P5 P6 P9 Qa Qb Qc Qd Qe Jp:Option Addr}{K8 K9 La Lb Lc Ld Le Lf Lg wX Va Vb Vc Vd Ve Qf Qg Qh Qi Qj Qk Ql Qm Qn Qo Qp Qq Qr:Array (Option Value)}{Lh Li Lj Lk Et Ll Lm Ln Lo Lp Eu Lq Lr Ls Lu Lv Ew Lw Lx Ly Lz LA Ex LB LC LD LF LG Ey LH LI LJ LK LL Ez LM LN LO LP LQ EA LR LS LU LV LW EB LX LY LZ L3 L4 EC L5 Vf Vg Vh Vi NN Vj Vk Vl Vm Vn NO Vo Vp Vq Vr Vs NP Vt Vu Vv Vw Vx NQ Vy Vz VA VB VC NR VD VE VF VG VH NS VI Qs Qt Qu Qv Jq Qw Qx Qy Qz QA Jr QB QC QD QE QF Js QG QH QI QJ QK Jt QL QM QN QO QP Ju QQ QR QS QT QU Jv QV QW QX QY QZ Jw Q0 Q1 Q2 Q3 Q4 Jx Q5 Q6 Q7 Q8 Q9 Jy Ra Rb Rc Rf Rg Jz Rh Ri Rj Rk Rl JA Rm Rn Ro Rp Rq JB Rr Rt JC JD JE C0 JF:Value}
 (aC:W.nsIn K mainGlobals "Forest" = some (some (.ref C)))
 (a100:W.findIn K (.ref C) "__init__" = some (some (.ref wo))) (i100:W.isFn K (.ref wo)=true) (l100:K.lookup wo=some ⟨Lh,KN,.func (W.fnOf "__init__" "Forest.__init__" (aW kZ) (aN kZ) (ao kZ) .none Li Lj Lk KO Et Ll),K8⟩) (c100:W.codeIn K Et "Forest.__init__" = true) (k100:W.keepIn K (.ref wo)=true)
 (a101:W.findIn K (.ref C) "node" = some (some (.ref wq))) (i101:W.isFn K (.ref wq)=true) (l101:K.lookup wq=some ⟨Lm,KP,.func (W.fnOf "node" "Forest.node" (aW ou) (aN ou) (ao ou) .none Ln Lo Lp KQ Eu Lq),K9⟩) (c101:W.codeIn K Eu "Forest.node" = true) (k101:W.keepIn K (.ref wq)=true)
 (a102:W.findIn K (.ref C) "taken" = some (some (.ref zh))) (i102:W.isFn K (.ref zh)=true) (l102:K.lookup zh=some ⟨Lr,KR,.func (W.fnOf "taken" "Forest.taken" (aW jz) (aN jz) (ao jz) .none Ls Lu Lv KS Ew Lw),La⟩) (c102:W.codeIn K Ew "Forest.taken" = true) (k102:W.keepIn K (.ref zh)=true)
 (a103:W.findIn K (.ref C) "tree_at" = some (some (.ref zi))) (i103:W.isFn K (.ref zi)=true) (l103:K.lookup zi=some ⟨Lx,KU,.func (W.fnOf "tree_at" "Forest.tree_at" (aW iu) (aN iu) (ao iu) .none Ly Lz LA KW Ex LB),Lb⟩) (c103:W.codeIn K Ex "Forest.tree_at" = true) (k103:W.keepIn K (.ref zi)=true)
 (a104:W.findIn K (.ref C) "chosen" = some (some (.ref zj))) (i104:W.isFn K (.ref zj)=true) (l104:K.lookup zj=some ⟨LC,KY,.func (W.fnOf "chosen" "Forest.chosen" (aW iw) (aN iw) (ao iw) .none LD LF LG KZ Ey LH),Lc⟩) (c104:W.codeIn K Ey "Forest.chosen" = true) (k104:W.keepIn K (.ref zj)=true)
 (a105:W.findIn K (.ref C) "half" = some (some (.ref wt))) (i105:W.isFn K (.ref wt)=true) (l105:K.lookup wt=some ⟨LI,K0,.func (W.fnOf "half" "Forest.half" (aW ow) (aN ow) (ao ow) .none LJ LK LL K1 Ez LM),Ld⟩) (c105:W.codeIn K Ez "Forest.half" = true) (k105:W.keepIn K (.ref wt)=true)
 (a106:W.findIn K (.ref C) "leaf_of" = some (some (.ref zl))) (i106:W.isFn K (.ref zl)=true) (l106:K.lookup zl=some ⟨LN,K2,.func (W.fnOf "leaf_of" "Forest.leaf_of" (aW oy) (aN oy) (ao oy) .none LO LP LQ K3 EA LR),Le⟩) (c106:W.codeIn K EA "Forest.leaf_of" = true) (k106:W.keepIn K (.ref zl)=true)
 (a107:W.findIn K (.ref C) "without" = some (some (.ref zm))) (i107:W.isFn K (.ref zm)=true) (l107:K.lookup zm=some ⟨LS,K4,.func (W.fnOf "without" "Forest.without" (aW gg) (aN gg) (ao gg) .none LU LV LW K5 EB LX),Lf⟩) (c107:W.codeIn K EB "Forest.without" = true) (k107:W.keepIn K (.ref zm)=true)
 (a108:W.findIn K (.ref C) "replaced" = some (some (.ref zo))) (i108:W.isFn K (.ref zo)=true) (l108:K.lookup zo=some ⟨LY,K6,.func (W.fnOf "replaced" "Forest.replaced" (aW eT) (aN eT) (ao eT) .none LZ L3 L4 K7 EC L5),Lg⟩) (c108:W.codeIn K EC "Forest.replaced" = true) (k108:W.keepIn K (.ref zo)=true)
 (a2:W.nsIn K mainGlobals "some_of" = some (some (.ref f2))) (l2:K.lookup f2=some ⟨Vf,UY,.func (W.fnOf "some_of" "some_of" (aW jd) (aN jd) (ao jd) .none Vg Vh Vi UZ NN Vj),wX⟩) (c2:W.codeIn K NN "some_of" = true) (k2:W.keepIn K (.ref f2)=true)
 (a3:W.nsIn K mainGlobals "put_for" = some (some (.ref f3))) (l3:K.lookup f3=some ⟨Vk,U0,.func (W.fnOf "put_for" "put_for" (aW je) (aN je) (ao je) .none Vl Vm Vn U1 NO Vo),Va⟩) (c3:W.codeIn K NO "put_for" = true) (k3:W.keepIn K (.ref f3)=true)
 (a6:W.nsIn K mainGlobals "_law_cell_at" = some (some (.ref f6))) (l6:K.lookup f6=some ⟨Vp,U2,.func (W.fnOf "_law_cell_at" "_law_cell_at" (aW om) (aN om) (ao om) .none Vq Vr Vs U3 NP Vt),Vb⟩) (c6:W.codeIn K NP "_law_cell_at" = true) (k6:W.keepIn K (.ref f6)=true)
 (a7:W.nsIn K mainGlobals "_law_mix" = some (some (.ref f7))) (l7:K.lookup f7=some ⟨Vu,U4,.func (W.fnOf "_law_mix" "_law_mix" (aW px) (aN px) (ao px) .none Vv Vw Vx U5 NQ Vy),Vc⟩) (c7:W.codeIn K NQ "_law_mix" = true) (k7:W.keepIn K (.ref f7)=true)
 (a8:W.nsIn K mainGlobals "_law_rich" = some (some (.ref f8))) (l8:K.lookup f8=some ⟨Vz,U6,.func (W.fnOf "_law_rich" "_law_rich" (aW oo) (aN oo) (ao oo) .none VA VB VC U7 NR VD),Vd⟩) (c8:W.codeIn K NR "_law_rich" = true) (k8:W.keepIn K (.ref f8)=true)
 (a9:W.nsIn K mainGlobals "_law_pick" = some (some (.ref f9))) (l9:K.lookup f9=some ⟨VE,U8,.func (W.fnOf "_law_pick" "_law_pick" (aW lP) (aN lP) (ao lP) .none VF VG VH U9 NS VI),Ve⟩) (c9:W.codeIn K NS "_law_pick" = true) (k9:W.keepIn K (.ref f9)=true)
 (a10:W.nsIn K mainGlobals "_law_spelt" = some (some (.ref Ek))) (l10:K.lookup Ek=some ⟨Qs,Pz,.func (W.fnOf "_law_spelt" "_law_spelt" (aW iM) (aN iM) (ao iM) .none Qt Qu Qv PB Jq Qw),Qf⟩) (c10:W.codeIn K Jq "_law_spelt" = true) (k10:W.keepIn K (.ref Ek)=true)
 (a11:W.nsIn K mainGlobals "_law_all_bits" = some (some (.ref El))) (l11:K.lookup El=some ⟨Qx,PF,.func (W.fnOf "_law_all_bits" "_law_all_bits" (aW oE) (aN oE) (ao oE) .none Qy Qz QA PH Jr QB),Qg⟩) (c11:W.codeIn K Jr "_law_all_bits" = true) (k11:W.keepIn K (.ref El)=true)
 (a12:W.nsIn K mainGlobals "_law_canon" = some (some (.ref Em))) (l12:K.lookup Em=some ⟨QC,PJ,.func (W.fnOf "_law_canon" "_law_canon" (aW jD) (aN jD) (ao jD) .none QD QE QF PK Js QG),Qh⟩) (c12:W.codeIn K Js "_law_canon" = true) (k12:W.keepIn K (.ref Em)=true)
 (a13:W.nsIn K mainGlobals "_law_same_tree" = some (some (.ref En))) (l13:K.lookup En=some ⟨QH,PL,.func (W.fnOf "_law_same_tree" "_law_same_tree" (aW jE) (aN jE) (ao jE) .none QI QJ QK PM Jt QL),Qi⟩) (c13:W.codeIn K Jt "_law_same_tree" = true) (k13:W.keepIn K (.ref En)=true)
 (a14:W.nsIn K mainGlobals "_law_order" = some (some (.ref Jk))) (l14:K.lookup Jk=some ⟨QM,PN,.func (W.fnOf "_law_order" "_law_order" (aW fJ) (aN fJ) (ao fJ) .none QN QO QP PQ Ju QQ),Qj⟩) (c14:W.codeIn K Ju "_law_order" = true) (k14:W.keepIn K (.ref Jk)=true)
 (a15:W.nsIn K mainGlobals "_law_number" = some (some (.ref Jl))) (l15:K.lookup Jl=some ⟨QR,PR,.func (W.fnOf "_law_number" "_law_number" (aW jf) (aN jf) (ao jf) .none QS QT QU PU Jv QV),Qk⟩) (c15:W.codeIn K Jv "_law_number" = true) (k15:W.keepIn K (.ref Jl)=true)
 (a16:W.nsIn K mainGlobals "_law_bits" = some (some (.ref Eo))) (l16:K.lookup Eo=some ⟨QW,PV,.func (W.fnOf "_law_bits" "_law_bits" (aW oB) (aN oB) (ao oB) .none QX QY QZ PX Jw Q0),Ql⟩) (c16:W.codeIn K Jw "_law_bits" = true) (k16:W.keepIn K (.ref Eo)=true)
 (a17:W.nsIn K mainGlobals "_law_place" = some (some (.ref Jm))) (l17:K.lookup Jm=some ⟨Q1,PY,.func (W.fnOf "_law_place" "_law_place" (aW lz) (aN lz) (ao lz) .none Q2 Q3 Q4 PZ Jx Q5),Qm⟩) (c17:W.codeIn K Jx "_law_place" = true) (k17:W.keepIn K (.ref Jm)=true)
 (a18:W.nsIn K mainGlobals "_law_some" = some (some (.ref Ep))) (l18:K.lookup Ep=some ⟨Q6,P4,.func (W.fnOf "_law_some" "_law_some" (aW lA) (aN lA) (ao lA) .none Q7 Q8 Q9 P5 Jy Ra),Qn⟩) (c18:W.codeIn K Jy "_law_some" = true) (k18:W.keepIn K (.ref Ep)=true)
 (a19:W.nsIn K mainGlobals "_law_put" = some (some (.ref Er))) (l19:K.lookup Er=some ⟨Rb,P6,.func (W.fnOf "_law_put" "_law_put" (aW oG) (aN oG) (ao oG) .none Rc Rf Rg P9 Jz Rh),Qo⟩) (c19:W.codeIn K Jz "_law_put" = true) (k19:W.keepIn K (.ref Er)=true)
 (a20:W.nsIn K mainGlobals "_law_turned" = some (some (.ref Jn))) (l20:K.lookup Jn=some ⟨Ri,Qa,.func (W.fnOf "_law_turned" "_law_turned" (aW jg) (aN jg) (ao jg) .none Rj Rk Rl Qb JA Rm),Qp⟩) (c20:W.codeIn K JA "_law_turned" = true) (k20:W.keepIn K (.ref Jn)=true)
 (a21:W.nsIn K mainGlobals "_law_right" = some (some (.ref Es))) (l21:K.lookup Es=some ⟨Rn,Qc,.func (W.fnOf "_law_right" "_law_right" (aW lC) (aN lC) (ao lC) .none Ro Rp Rq Qd JB Rr),Qq⟩) (c21:W.codeIn K JB "_law_right" = true) (k21:W.keepIn K (.ref Es)=true)
 (a22:W.nsIn K mainGlobals "law" = some (some (.ref Jo))) (l22:K.lookup Jo=some ⟨Rt,Qe,.func (W.fnOf "law" "law" (aW mh) (aN mh) (ao mh) .none JC JD JE Jp C0 JF),Qr⟩) (c22:W.codeIn K C0 "law" = true) (k22:W.keepIn K (.ref Jo)=true)
 (pg:W.plainGet K C Str.empty=true) (hd:W.hasDictIn K C=true) (po:W.plainOver K C=true) (sa:W.findIn K (.ref C) "__setattr__" = some (some (.builtin "object.__setattr__"))) (mk:W.makesIn K C=true) (kc:W.keepIn K (.ref C)=true)
 (n1:W.findIn K (.ref C) "names" = some none) (n2:W.findIn K (.ref C) "spots" = some none) (n3:W.findIn K (.ref C) "nodes" = some none) (n4:W.findIn K (.ref C) "known" = some none) (n5:W.findIn K (.ref C) "choices" = some none) (n6:W.findIn K (.ref C) "imported" = some none) (n7:W.findIn K (.ref C) "exported" = some none)
 (z0:W.nsIn K mainGlobals "len" = some none) (z1:W.nsIn K mainGlobals "range" = some none) (z2:W.nsIn K mainGlobals "enumerate" = some none) (z3:W.nsIn K mainGlobals "list" = some none) (z4:W.nsIn K mainGlobals "dict" = some none) (z5:W.nsIn K mainGlobals "tuple" = some none) (z6:W.nsIn K mainGlobals "str" = some none) (z7:W.nsIn K mainGlobals "int" = some none) (z8:W.nsIn K mainGlobals "bool" = some none) (z9:W.nsIn K mainGlobals "zip" = some none) (z10:W.nsIn K mainGlobals "isinstance" = some none) (z11:W.nsIn K mainGlobals "min" = some none) (z12:W.nsIn K mainGlobals "reversed" = some none) (z13:W.nsIn K mainGlobals "sorted" = some none) (z14:W.nsIn K mainGlobals "max" = some none)
 :
 ∃fd:FuncData,(∀(s:Shared) (v:Value),BindsTo s fd ⟨[v],[]⟩ [("_law_script",v)])/\∀base:Heap,K.In base->base.Ns mainGlobals mg->av l.prog w K mg base aE 22 fa fd ["_law_script"] (tN K):=by
 have e:=UX.symm.trans (W.mg_of X G a22)
 cases e
 have T:eP K mg C:=⟨⟨pg,hd,po,sa⟩,n1,n2,n3,n4,n5,n6,n7,W.mg_of X G aC⟩
 have O:Own mg:=⟨W.mg_none_of X G z0,W.mg_none_of X G z1,W.mg_none_of X G z2,W.mg_none_of X G z3⟩
 have O2:gc mg:=⟨W.mg_none_of X G z0,W.mg_none_of X G z3,W.mg_none_of X G z4,W.mg_none_of X G z5,W.mg_none_of X G z6,W.mg_none_of X G z7,W.mg_none_of X G z8,W.mg_none_of X G z9,W.mg_none_of X G z10,W.mg_none_of X G z11,W.mg_none_of X G z12⟩
 have FH:mg "sorted" = none:=W.mg_none_of X G z13
 have CV:mg "max" = none:=W.mg_none_of X G z14
 have JG:=bu (st:=kZ) l100 c100 k100
 have JH:=JG.binds (ps:=["self", "order"]) λ_ _ _ _ _ _ us hl=>by obtain ⟨_,_,rfl⟩:=gj hl; rfl
 have JI:=bu (st:=ou) l101 c101 k101
 have zq:=JI.binds (ps:=hZ) λ_ _ _ _ _ _ us hl=>by obtain ⟨_,_,_,_,rfl⟩:=rU hl; rfl
 have JJ:=bu (st:=jz) l102 c102 k102
 have C1:=JJ.binds (ps:=["self", "tree"]) λ_ _ _ _ _ _ us hl=>by obtain ⟨_,_,rfl⟩:=gj hl; rfl
 have JK:=bu (st:=iu) l103 c103 k103
 have C2:=JK.binds (ps:=["self", "number"]) λ_ _ _ _ _ _ us hl=>by obtain ⟨_,_,rfl⟩:=gj hl; rfl
 have JL:=bu (st:=iw) l104 c104 k104
 have C3:=JL.binds (ps:=jB) λ_ _ _ _ _ _ us hl=>by obtain ⟨_,_,_,_,rfl⟩:=rU hl; rfl
 have JM:=bu (st:=ow) l105 c105 k105
 have Ru:=JM.binds (ps:=["self", "number", "spot", "side"]) λ_ _ _ _ _ _ us hl=>by obtain ⟨_,_,_,_,rfl⟩:=rU hl; rfl
 have JN:=bu (st:=oy) l106 c106 k106
 have Rv:=JN.binds (ps:=["self", "name"]) λ_ _ _ _ _ _ us hl=>by obtain ⟨_,_,rfl⟩:=gj hl; rfl
 have JO:=bu (st:=gg) l107 c107 k107
 have JP:=JO.binds (ps:=qL) λ_ _ _ _ _ _ us hl=>by obtain ⟨_,_,_,_,rfl⟩:=rU hl; rfl
 have JQ:=bu (st:=eT) l108 c108 k108
 have JR:=JQ.binds (ps:=qN) λ_ _ _ _ _ _ us hl=>by obtain ⟨_,_,_,_,rfl⟩:=rU hl; rfl
 have F2:=bu (st:=jd) l2 c2 k2
 have m2:=W.mg_of X G a2
 have b2:=F2.binds (ps:=["order", "tree", "names"]) λ_ _ _ _ _ _ us hl=>by obtain ⟨_,_,_,rfl⟩:=wm hl; rfl
 have F3:=bu (st:=je) l3 c3 k3
 have m3:=W.mg_of X G a3
 have b3:=F3.binds (ps:=["order", "tree", "given"]) λ_ _ _ _ _ _ us hl=>by obtain ⟨_,_,_,rfl⟩:=wm hl; rfl
 have F6:=bu (st:=om) l6 c6 k6
 have m6:=W.mg_of X G a6
 have b6:=F6.binds (ps:=["_law_script", "_law_k"]) λ_ _ _ _ _ _ us hl=>by obtain ⟨_,_,rfl⟩:=gj hl; rfl
 have F7:=bu (st:=px) l7 c7 k7
 have m7:=W.mg_of X G a7
 have b7:=F7.binds (ps:=["_law_cell", "_law_k"]) λ_ _ _ _ _ _ us hl=>by obtain ⟨_,_,rfl⟩:=gj hl; rfl
 have F8:=bu (st:=oo) l8 c8 k8
 have m8:=W.mg_of X G a8
 have b8:=F8.binds (ps:=["_law_cell", "_law_k"]) λ_ _ _ _ _ _ us hl=>by obtain ⟨_,_,rfl⟩:=gj hl; rfl
 have F9:=bu (st:=lP) l9 c9 k9
 have m9:=W.mg_of X G a9
 have b9:=F9.binds (ps:=["_law_left", "_law_many"]) λ_ _ _ _ _ _ us hl=>by obtain ⟨_,_,rfl⟩:=gj hl; rfl
 have NT:=bu (st:=iM) l10 c10 k10
 have VJ:=W.mg_of X G a10
 have VL:=NT.binds (ps:=["_law_left", "_law_told"]) λ_ _ _ _ _ _ us hl=>by obtain ⟨_,_,rfl⟩:=gj hl; rfl
 have NU:=bu (st:=oE) l11 c11 k11
 have VM:=W.mg_of X G a11
 have VN:=NU.binds (ps:=["_law_many"]) λ_ _ _ _ _ _ us hl=>by obtain ⟨_,rfl⟩:=zg hl; rfl
 have NV:=bu (st:=jD) l12 c12 k12
 have NW:=W.mg_of X G a12
 have NX:=NV.binds (ps:=oZ) λ_ _ _ _ _ _ us hl=>by obtain ⟨_,_,rfl⟩:=gj hl; rfl
 have NY:=bu (st:=jE) l13 c13 k13
 have JS:=W.mg_of X G a13
 have JT:=NY.binds (ps:=jF) λ_ _ _ _ _ _ us hl=>by obtain ⟨_,_,rfl⟩:=gj hl; rfl
 have NZ:=bu (st:=fJ) l14 c14 k14
 have VO:=W.mg_of X G a14
 have VP:=NZ.binds (ps:=["_law_script"]) λ_ _ _ _ _ _ us hl=>by obtain ⟨_,rfl⟩:=zg hl; rfl
 have N0:=bu (st:=jf) l15 c15 k15
 have VQ:=W.mg_of X G a15
 have VR:=N0.binds (ps:=["_law_script", "_law_k"]) λ_ _ _ _ _ _ us hl=>by obtain ⟨_,_,rfl⟩:=gj hl; rfl
 have N1:=bu (st:=oB) l16 c16 k16
 have N2:=W.mg_of X G a16
 have N3:=N1.binds (ps:=tf) λ_ _ _ _ _ _ us hl=>by obtain ⟨_,_,rfl⟩:=gj hl; rfl
 have N4:=bu (st:=lz) l17 c17 k17
 have VS:=W.mg_of X G a17
 have VT:=N4.binds (ps:=["_law_row"]) λ_ _ _ _ _ _ us hl=>by obtain ⟨_,rfl⟩:=zg hl; rfl
 have N5:=bu (st:=lA) l18 c18 k18
 have VU:=W.mg_of X G a18
 have VW:=N5.binds (ps:=["_law_names", "_law_bits_here", "_law_told"]) λ_ _ _ _ _ _ us hl=>by obtain ⟨_,_,_,rfl⟩:=wm hl; rfl
 have N6:=bu (st:=oG) l19 c19 k19
 have VX:=W.mg_of X G a19
 have VY:=N6.binds (ps:=xT) λ_ _ _ _ _ _ us hl=>by obtain ⟨_,_,_,rfl⟩:=wm hl; rfl
 have N7:=bu (st:=jg) l20 c20 k20
 have VZ:=W.mg_of X G a20
 have V0:=N7.binds (ps:=BD) λ_ _ _ _ _ _ us hl=>by obtain ⟨_,_,rfl⟩:=gj hl; rfl
 have N8:=bu (st:=lC) l21 c21 k21
 have V1:=W.mg_of X G a21
 have V2:=N8.binds (ps:=xV) λ_ _ _ _ _ _ us hl=>by obtain ⟨_,_,_,_,rfl⟩:=rU hl; rfl
 have V3:=bu (st:=mh) l22 c22 k22
 have W4:=W.mg_of X G a22
 refine ⟨W.fnOf "law" "law" (aW mh) (aN mh) (ao mh) .none JC JD JE Jp C0 JF,λs v=>.of_eq rfl,λbase _ _=>?_⟩
 have gP:av l.prog w K mg base aE 1 f9 _ ["_law_left", "_law_many"] qx:=xf F9 O
 have gS:av l.prog w K mg base aE 2 Ek _ ["_law_left", "_law_told"] (rC K):=Cm NT O F9 b9 m9
 have gR:av l.prog w K mg base aE 2 f8 _ ["_law_cell", "_law_k"] qw:=E2 F8 O F7 b7 m7
 have gC:av l.prog w K mg base aE 1 f6 _ ["_law_script", "_law_k"] (qv K):=E1 F6 O
 have ED:av l.prog w K mg base aE 1 wq _ hZ (g9 l.prog w C):=Fj JI T O2
 have V4:av l.prog w K mg base aE 1 wt _ ["self", "number", "spot", "side"] (qG l.prog w C):=Fi JM T
 have gT:=tE JJ T ⟨a102,i102,k102⟩ C1 ED ⟨a101,i101,k101⟩ zq 9
 have N9:=qY JL T O2 ⟨a104,i104,k104⟩ C3 ED ⟨a101,i101,k101⟩ zq V4 ⟨a105,i105,k105⟩ Ru 9
 have gA:=o3 (P:=l.prog) (w:=w) (base:=base) JK T ⟨a103,i103,k103⟩ C2 9
 have gI:av l.prog w K mg base aE 1 wo _ ["self", "order"] (ox l.prog w C):=Cw JG T O2 O
 have V5:=Fn JN T ED ⟨a101,i101,k101⟩ zq
 have V6:=BF JO T ⟨a107,i107,k107⟩ JP ED ⟨a101,i101,k101⟩ zq N9 ⟨a104,i104,k104⟩ C3 9
 have V7:=BG JQ T ⟨a108,i108,k108⟩ JR V5 ⟨a106,i106,k106⟩ Rv N9 ⟨a104,i104,k104⟩ C3 9
 have V8:=yS F2 T O2 ⟨gI,⟨mk,a100,i100,kc⟩,JH,gT,⟨a102,i102,k102⟩,C1,gA,⟨a103,i103,k103⟩,C2,V6,⟨a107,i107,k107⟩,JP⟩
 have V9:=yZ F3 T O2 ⟨gI,⟨mk,a100,i100,kc⟩,JH,gT,⟨a102,i102,k102⟩,C1,gA,⟨a103,i103,k103⟩,C2,V7,⟨a108,i108,k108⟩,JR⟩
 have Oa:av l.prog w K mg base aE 9 En _ jF (iA 9):=wb NY O2 JS JT 9
 have gK:av l.prog w K mg base aE 18 Em _ oZ (lr 9):=tF NV O2 NW NX Oa JS k13 JT 9
 have Wa:av l.prog w K mg base aE 1 El _ ["_law_many"] (vU K):=wH NU O FH
 have Ob:av l.prog w K mg base aE 1 Eo _ tf qR:=Fy N1 O
 have Wb:av l.prog w K mg base aE 1 Ep _ ["_law_names", "_law_bits_here", "_law_told"] rO:=CU N5 O2 O CV
 have Wc:av l.prog w K mg base aE 2 Er _ xT vZ:=FF N6 O2 O Wa VM k11 VN (CT N4) VS k17 VT
 have Wd:av l.prog w K mg base aE 21 Es _ xV rT:=CY N8 O2 O ⟨gK,NW,k12,NX,Oa,JS,k13,JT,Ob,N2,k16,N3,V8,m2,k2,b2,Wb,VU,k18,VW,V9,m3,k3,b3,Wc,VX,k19,VY⟩
 exact Ji V3 O O2 ⟨CP NZ O gC m6 k6 b6 gR m8 k8 b8 gP m9 k9 b9 gS VJ k10 VL,VO,k14,VP,Bu N0 gC m6 k6 b6 gR m8 k8 b8,VQ,k15,VR,Ob,N2,k16,N3,Wd,V1,k21,V2,BE N7 O,VZ,k20,V0⟩
theorem walk {l:W.OpenLaw}{q:Program}{loose:List Str}{XP:(Str->Option Value)->Heap->Prop}{YP:World->Heap->Prop}{d:DefRec}{K:Params->W.Frag}(hn:l.most=some 63) (zY:d.params.defaults=[])
 (hY:∀(w:World) (h:Heap),YP w h->(K w.params).In h)
 (F:∀(w:World) (mg:Str->Option Value) (fa:Addr) (h:Heap),(K w.params).In h->h.Ns mainGlobals mg->mg d.name=some (.ref fa)->
  ∃fd:FuncData,(∀(s:Shared) (u:Value),BindsTo s fd ⟨[u],[]⟩ [("_law_script",u)])/\∀base:Heap,(K w.params).In base->base.Ns mainGlobals mg->av l.prog w (K w.params) mg base aE 22 fa fd ["_law_script"] (tN (K w.params))) :
 W.WalkO q loose XP YP l.row.toRowW d [] (λf vs=>PySem.call f vs):=
 L2.EW (n:=63) (k:=22) (x:="_law_script") (CX:=λ_=>aE) (sp:=λw=>tN (K w.params)) hn (by decide) zY ⟨rfl,by decide,by decide⟩ hY F (λ_ _ a ns hl _ hS=>⟨a,ns,rfl,hS,λ_=>rfl⟩) λ_ _ _ _ _ z=>z
end
end Gen
open PySem PySem.W PyProof.Rows
inductive PySem.W.Fast : Prop
|tw6790132316173177584
|tw364861506737690638
|tw11251998335275030076
|tw3211997731587088497
|tw7463762321298719799
|tw10459442362293536089
|tw14079034291588950256
|tw7475166215831463154
|tw9251270146801270772
|tw15118016586739071372
|tw16487916596034931009
|tw4215305621525300724
|tw1977667431465701121
|tw15511893290380491994
|tw10165642754244297740
|tw10689622863223290999
|tw14870334571015164788
|tw16478927360805213385
|tw4611672191156307319
|tw7251634872148430845
|tw4449067673994567586
|tw13290990370712448409
|tw704755713697527254
|tw11053990943208818916
|tw3979010345000501553
|tw17454320118700566576
|tw6960047954770454725
|tw15439774151271194553
|tw6870899318068052382
|tw2639261873109717887
|tw16757103249482104314
|tw9003943174162919130
|tw6587317184886895080
|tw12828541826261637666
|tw15921190239006426527
|tw10476590123762243410
|tw2647573648060928969
|tw13541443847117213256
|tw6540782048097611118
|tw17742516749423456737
|tw7329424279934168127
|tw13231320565563074620
|tw7031875018715661230
|tw6030727983665907770
|tw11523308121160292411
|tw3587157920786030896
|tw5437948053433432464
|tw14523684172197143552
|tw10725510524151478775
|tw13345530717331283130
|tw12593365726767349609
|tw5671496101011663555
|tw8034966900492539502
|tw15558235770630554650
|tw11128894707719839034
|tw16948481571516572336
|tw11273260594588572165
|tw8424038435493276677
|tw17770788228911581199
|tw14947751111601431292
|tw16147382941800236861
|tw11545285423263305115
|tw5521121982239384807
|tw14287091880904538277
|tw8761085225276184563
|tw4953255678169817314
|tw3933827833534378521
|tw1018973307442644763
|tw11212497843795740689
|tw11237430768976163108
|tw5209058000221315144
|tw3283157808998306553
|tw2171905935528275352
|tw15714655016627402040
|tw14507869294589578747
|tw4484577097386194372
|tw344596783394811503
|tw5009561408124272152
|tw4227859449055493245
|tw10330879376018157844
|tw1915766554677923481
|tw11334850393492553084
|tw8773562631980244412
|tw14776377992188618073
|tw12437486066481742799
|tw9837902817797448683
|tw5626357424237248047
|tw14834485685678663942
|tw3878427112888672369
|tw7148452656701390987
|tw5666508640781760347
|tw2805628439729678603
|tw16553282226734505032
|tw7063542932640878719
|tw6524853006397411852
|tw6929051263045272741
|tw18022840479437777673
|tw293849573338743891
|tw15917031320970487561
|tw6721696962429612355
|tw7880220422211373339
|tw11998251938957759719
|tw14595581154662072524
|tw9029228846194052479
|tw6336951245484727358
|tw14942990194002054865
|tw15097461600566736866
|tw262823759565192022
|tw2848283167605528614
|tw7391441246858761942
|tw15143558923016790516
|tw2066074242706823865
|tw3021625131542936761
|tw17647419546800306905
|tw10370105772388774747
|tw11837981830998937889
|tw4614736435577489440
|tw10399558426146103076
|te10399558426146103076
|tw872272592763353944
|tw11584253317049114298
|tw17049919917212929860
|tw10313032025213814478
|tw2333772796726409634
|tw2566287381341686117
|tw16834443379309672498
|tw1747706996135815737
|tw18161655013491439381
set_option maxRecDepth 100000 in
set_option maxHeartbeats 0 in
theorem PySem.Challenge.cw_everguard_k42_some_of_and_put_for_holds : PySem.Challenge.rw_everguard_k42_some_of_and_put_for.Holds := by
 w_on; o_law; k_head; (case hw=>w_witness2)
 k_fill
 refine Gen.walk (l:=PySem.Challenge.rw_everguard_k42_some_of_and_put_for) rfl rfl (λw h Y=>W.kIn_of Y) ?F
 case F=>
  intro w mg fa h KX G zZ
  refine' Gen.all_mk KX G zZ ?aC ?a100 ?i100 ?l100 ?c100 ?k100 ?a101 ?i101 ?l101 ?c101 ?k101 ?a102 ?i102 ?l102 ?c102 ?k102 ?a103 ?i103 ?l103 ?c103 ?k103 ?a104 ?i104 ?l104 ?c104 ?k104 ?a105 ?i105 ?l105 ?c105 ?k105 ?a106 ?i106 ?l106 ?c106 ?k106 ?a107 ?i107 ?l107 ?c107 ?k107 ?a108 ?i108 ?l108 ?c108 ?k108 ?a2 ?l2 ?c2 ?k2 ?a3 ?l3 ?c3 ?k3 ?a6 ?l6 ?c6 ?k6 ?a7 ?l7 ?c7 ?k7 ?a8 ?l8 ?c8 ?k8 ?a9 ?l9 ?c9 ?k9 ?a10 ?l10 ?c10 ?k10 ?a11 ?l11 ?c11 ?k11 ?a12 ?l12 ?c12 ?k12 ?a13 ?l13 ?c13 ?k13 ?a14 ?l14 ?c14 ?k14 ?a15 ?l15 ?c15 ?k15 ?a16 ?l16 ?c16 ?k16 ?a17 ?l17 ?c17 ?k17 ?a18 ?l18 ?c18 ?k18 ?a19 ?l19 ?c19 ?k19 ?a20 ?l20 ?c20 ?k20 ?a21 ?l21 ?c21 ?k21 ?a22 ?l22 ?c22 ?k22 ?pg ?hd ?po ?sa ?mk ?kc ?n1 ?n2 ?n3 ?n4 ?n5 ?n6 ?n7 ?z0 ?z1 ?z2 ?z3 ?z4 ?z5 ?z6 ?z7 ?z8 ?z9 ?z10 ?z11 ?z12 ?z13 ?z14
  (case aC=>k_is); (case a100=>k_is); (case i100=>k_is); (case l100=>k_is); (case c100=>k_is); (case k100=>k_is)
  (case a101=>k_is); (case i101=>k_is); (case l101=>k_is); (case c101=>k_is); (case k101=>k_is); (case a102=>k_is)
  (case i102=>k_is); (case l102=>k_is); (case c102=>k_is); (case k102=>k_is); (case a103=>k_is); (case i103=>k_is)
  (case l103=>k_is); (case c103=>k_is); (case k103=>k_is); (case a104=>k_is); (case i104=>k_is); (case l104=>k_is)
  (case c104=>k_is); (case k104=>k_is); (case a105=>k_is); (case i105=>k_is); (case l105=>k_is); (case c105=>k_is)
  (case k105=>k_is); (case a106=>k_is); (case i106=>k_is); (case l106=>k_is); (case c106=>k_is); (case k106=>k_is)
  (case a107=>k_is); (case i107=>k_is); (case l107=>k_is); (case c107=>k_is); (case k107=>k_is); (case a108=>k_is)
  (case i108=>k_is); (case l108=>k_is); (case c108=>k_is); (case k108=>k_is); (case a2=>k_is); (case l2=>k_is)
  (case c2=>k_is); (case k2=>k_is); (case a3=>k_is); (case l3=>k_is); (case c3=>k_is); (case k3=>k_is)
  (case a6=>k_is); (case l6=>k_is); (case c6=>k_is); (case k6=>k_is); (case a7=>k_is); (case l7=>k_is)
  (case c7=>k_is); (case k7=>k_is); (case a8=>k_is); (case l8=>k_is); (case c8=>k_is); (case k8=>k_is)
  (case a9=>k_is); (case l9=>k_is); (case c9=>k_is); (case k9=>k_is); (case a10=>k_is); (case l10=>k_is)
  (case c10=>k_is); (case k10=>k_is); (case a11=>k_is); (case l11=>k_is); (case c11=>k_is); (case k11=>k_is)
  (case a12=>k_is); (case l12=>k_is); (case c12=>k_is); (case k12=>k_is); (case a13=>k_is); (case l13=>k_is)
  (case c13=>k_is); (case k13=>k_is); (case a14=>k_is); (case l14=>k_is); (case c14=>k_is); (case k14=>k_is)
  (case a15=>k_is); (case l15=>k_is); (case c15=>k_is); (case k15=>k_is); (case a16=>k_is); (case l16=>k_is)
  (case c16=>k_is); (case k16=>k_is); (case a17=>k_is); (case l17=>k_is); (case c17=>k_is); (case k17=>k_is)
  (case a18=>k_is); (case l18=>k_is); (case c18=>k_is); (case k18=>k_is); (case a19=>k_is); (case l19=>k_is)
  (case c19=>k_is); (case k19=>k_is); (case a20=>k_is); (case l20=>k_is); (case c20=>k_is); (case k20=>k_is)
  (case a21=>k_is); (case l21=>k_is); (case c21=>k_is); (case k21=>k_is); (case a22=>k_is); (case l22=>k_is)
  (case c22=>k_is); (case k22=>k_is); (case pg=>k_is); (case hd=>k_is); (case po=>k_is); (case sa=>k_is)
  (case mk=>k_is); (case kc=>k_is); (case n1=>k_is); (case n2=>k_is); (case n3=>k_is); (case n4=>k_is)
  (case n5=>k_is); (case n6=>k_is); (case n7=>k_is); (case z0=>k_is); (case z1=>k_is); (case z2=>k_is)
  (case z3=>k_is); (case z4=>k_is); (case z5=>k_is); (case z6=>k_is); (case z7=>k_is); (case z8=>k_is)
  (case z9=>k_is); (case z10=>k_is); (case z11=>k_is); (case z12=>k_is); (case z13=>k_is); (case z14=>k_is)
#print axioms PySem.Challenge.cw_everguard_k42_some_of_and_put_for_holds
