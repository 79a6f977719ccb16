import PyProof.Rows.All
import Wide.All
import OpenK.AllK
import PySem.Challenge.RW_everguard_k13_none_by_going_through_all
set_option Elab.async false
set_option compiler.extract_closed false
set_option linter.all false
set_option maxRecDepth 100000
def Xl:=@List.length_map
def Xm:=@List.mem_singleton
def Xn:=@List.mem_of_getElem?
def Xo:=@List.getElem?_eq_getElem
def Xp:=@List.mem_append
def Xq:=@Option.some.inj
def Xr:=@List.getElem?_eq_some_iff
def Xs:=@List.length_append
def Xt:=@List.getElem?_map
def Xu:=@List.mem_append_right
def Xv:=@Nat.le_refl
def Xw:=@decide_eq_true
def Xx:=@List.map_append
def Xy:=@PySem.wpAny_bind
def Xz:=@decide_eq_false
def XA:=@List.mem_cons_of_mem
def XB:=@List.mem_cons_self
def XC:=@PySem.Heap.get?_push_of_some
def XD:=@PySem.F.plainAttrs_list
def XE:=@List.length_singleton
def XF:=@List.mem_append_left
def XG:=@PySem.F.slot_list_append
def XH:=@PySem.F.type_list_append
def XI:=@List.mem_cons
def XJ:=@List.mem_map
def XM:=@Bool.false_ne_true
def XN:=@List.size_toArray
def XO:=@if_pos
def XQ:=@List.map_cons
def XR:=@PySem.Heap.lt_size
def XS:=@Nat.le_trans
def XT:=@Nat.lt_of_le_of_lt
def XU:=@List.take_length
def XW:=@if_neg
def XX:=@PySem.PassesOwn.never
def XY:=@List.length_take
def XZ:=@Nat.ne_of_lt
def X0:=@List.length_cons
def X1:=@PySem.wpAny_pure
def X2:=@List.mem_iff_getElem?
def X3:=@List.getElem?_eq_none
def X4:=@PyProof.Rows.boot_abs
def X5:=@PySem.boot_len
def X6:=@List.nodup_cons
def X7:=@Nat.le_of_lt
def X8:=@List.getElem?_append_left
def X9:=@List.pairwise_iff_getElem
def Ya:=@Int.natAbs_neg
def Yb:=@List.nodup_nil
def Yc:=@Nat.lt_of_lt_of_le
def Yd:=@PySem.Heap.get?_push_size
def Ye:=@List.nodup_append
def Yf:=@List.not_mem_nil
def Yg:=@List.take_succ
def Yh:=@of_decide_eq_true
def Yi:=@Nat.zero_le
def Yj:=@Int.toNat_natCast
def Yk:=@List.getElem_map
def Yl:=@List.append_nil
def Ym:=@List.map_nil
def Yn:=@Nat.lt_or_ge
def Yo:=@List.singleton_append
def Yp:=@List.getElem?_set_self
def Yq:=@List.length_eq_zero_iff
def Yr:=@List.getElem?_append_right
def Ys:=@List.getD_eq_getElem?_getD
def Yt:=@List.mem_iff_getElem
def Yu:=@List.mem_of_mem_take
def Yv:=@List.getElem?_take
def Yw:=@List.any_eq_true
def Yx:=@beq_eq_false_iff_ne
def Yy:=@List.take_zero
def Yz:=@PyProof.Rows.callWith_type1
def YA:=@List.length_nil
def YB:=@List.length_set
def YC:=@List.getElem?_cons_succ
def YD:=@List.getElem?_set_ne
def YE:=@Nat.lt_succ_self
def YF:=@Ne.symm
def YG:=@PySem.wpAny_mono
def YH:=@PySem.wpAny_Call_Name_kw
def YI:=@PySem.F.slot_list_extend
def YJ:=@PySem.F.type_list_extend
def YK:=@List.take_append_of_le_length
def YL:=@List.mem_range
def YM:=@PySem.W.mg_none_of
def YN:=@List.pairwise_map
def YO:=@Array.length_toList
def YQ:=@PySem.W.mg_of
def YR:=@PyProof.Rows.boot_list
def YS:=@List.cons_append
def YT:=@Bool.and_eq_true
def YU:=@Nat.lt_irrefl
def YV:=@PySem.wpAny_holding
def YW:=@Option.toList_some
def YX:=@PySem.sizeLine_eq
def YY:=@Nat.le_succ
def YZ:=@List.pairwise_append
def Y0:=@List.mem_filter
def Y1:=@PySem.wpAny_passesOwn
def Y2:=@List.append_assoc
def Y3:=@List.mem_range'_1
def Y4:=@PySem.F.slot_list_getattribute
def Y5:=@List.map_map
def Y6:=@PySem.mem_of_lookup
def Y7:=@List.replicate_succ
def Y8:=@List.map_congr_left
def Y9:=@List.lookup_cons
def Za:=@Bool.eq_iff_iff
def Zb:=@Nat.le_of_eq
def Zc:=@List.find?_cons
def Zd:=@Option.map_some
def Ze:=@PySem.Paired.snoc
def Zf:=@List.length_filter_le
def Zg:=@List.any_cons
def Zh:=@Nat.lt_succ_of_lt
def Zi:=@List.take_subset_take_left
def Zj:=@List.drop_eq_getElem_cons
def Zk:=@Nat.succ_ne_zero
def Zl:=@Sum.inl.inj
def Zm:=@List.mem_map_of_mem
def Zn:=@PySem.Heap.SameBut.update
def Zo:=@List.Pairwise.imp_of_mem
def Zp:=@PySem.tupleKind_room_in1
def Zq:=@Bool.false_eq_true
def Zr:=@Int.emod_lt_of_pos
def Zs:=@List.countP_append
def Zt:=@Nat.min_eq_left
def Zu:=@List.pairwise_cons
def Zv:=@List.filter_append
def Zw:=@PyProof.Rows.boot_dict
def Zx:=@PySem.wpAny_truthy_bool
def Zy:=@List.flatten_cons
def Zz:=@List.ext_getElem?
def ZA:=@Nat.ne_of_gt
def ZC:=@List.take_append_drop
def ZD:=@List.countP_eq_length
def ZE:=@List.all_eq_true
def ZF:=@List.eq_nil_of_length_eq_zero
def ZG:=@not_or
def ZH:=@Nat.pow_le_pow_right
def ZI:=@PySem.W.plainGet_of
def ZJ:=@List.dropLast_concat_getLast
def ZK:=@List.cons.inj
def ZL:=@beq_iff_eq
def ZM:=@List.filterMap_cons
def ZN:=@PySem.wpAny_execs_nil
def ZO:=@Int.emod_nonneg
def ZP:=@Int.neg_neg
def ZQ:=@PySem.Calls.Name_function_global
def ZR:=@PySem.codeAny_mono
def ZS:=@Nat.lt_or_gt_of_ne
def ZT:=@List.take_take
def ZU:=@PySem.wpAny_pyIter_list
def ZV:=@Option.isSome_iff_exists
def ZW:=@List.take_sublist
def ZX:=@Option.isSome_map
def ZY:=@decide_eq_true_eq
def ZZ:=@List.getElem_take
def Z0:=@Nat.lt_trichotomy
def Z1:=@List.length_range
def Z2:=@List.Pairwise.imp
def Z3:=@PyProof.Rows.callWith_kw
def Z4:=@PySem.F.slot_dict_update
def Z5:=@PySem.wpAny_standAt
def Z6:=@List.getElem?_replicate
def Z7:=@List.countP_cons_of_neg
def Z8:=@List.pairwise_singleton
def Z9:=@PyProof.Rows.listUpdate_at
def aaa:=@List.filter_cons_of_pos
def aab:=@List.filter_cons_of_neg
def aac:=@Option.getD_none
def aad:=@List.sublist_cons_self
def aae:=@List.take_of_length_le
def aaf:=@Bool.beq_eq_decide_eq
def aag:=@PySem.W.methodCall_KW
def aah:=@List.of_mem_zip
def aai:=@List.length_replicate
def aaj:=@Nat.lt_trans
def aak:=@Array.getElem?_toList
def aal:=@Nat.add_comm
def aam:=@PySem.wpAny_typeOf
def aan:=@List.forIn_cons
def aao:=@Nat.two_pow_pos
def aap:=@Nat.add_zero
def aaq:=@List.append_inj
def aar:=@Nat.not_lt_zero
def aas:=@List.getElem?_reverse
def aat:=@PyProof.Rows.boot_int
def aau:=@if_false
def aav:=@PySem.call_meets
def aaw:=@List.length_dropLast
def aax:=@Array.toArray_toList
def aay:=@List.range'_1_concat
def aaz:=@PySem.Heap.size_push
def aaA:=@PySem.wpAny_listPart
def aaB:=@PySem.wpAny_seqItems
def aaC:=@if_true
def aaD:=@List.Sublist.append
def aaE:=@List.getElem?_range
def aaF:=@or_iff_left
def aaG:=@List.countP_pos_iff
def aaH:=@List.length_reverse
def aaI:=@PySem.Paired.length
def aaJ:=@Array.append_assoc
def aaK:=@List.mem_filterMap
def aaL:=@List.all_cons
def aaM:=@List.getElem?_drop
def aaN:=@List.append_of_mem
def aaO:=@Array.forIn_toList
def aaP:=@Nat.add_sub_cancel
def aaQ:=@Nat.eq_or_lt_of_le
def aaR:=@Int.lt_or_gt_of_ne
def aaS:=@PySem.wpAny_call
def aaT:=@PySem.wpAny_rule
def aaU:=@List.Sublist.refl
def aaV:=@Nat.sub_self
def aaW:=@Nat.min_self
def aaX:=@Nat.zero_add
namespace L2
open PySem PySem.Spec PyProof.Rows
abbrev Key:=Sum Int Str
def i6:Key->Value->Bool
 | .inl k,v=>Value.isInt k v
 | .inr x,v=>Value.isStrOf x v
def PM(w:World):Key->Int
 | .inl k=>hashInt k
 | .inr x=>hashStr w x
theorem d7:∀{k:Key}{v:Value},i6 k v=true->(∃i t,k=Sum.inl i/\v=Value.int i t)\/(∃x t,k=Sum.inr x/\v=Value.str x t)
 | .inl i,v,h=>by
  obtain⟨t,e⟩:=Value.isInt_shape (k:=i) (v:=v) h
  exact .inl ⟨i,t,rfl,e⟩
 | .inr x,v,h=>by
  obtain⟨t,e⟩:=Value.isStrOf_shape (x:=x) (v:=v) h
  exact .inr ⟨x,t,rfl,e⟩
theorem yY(i:Int)(t:Tok):i6 (.inl i) (.int i t)=true:=by simp[i6,Value.isInt]
theorem yZ(x:Str)(t:Tok):i6 (.inr x) (.str x t)=true:=by simp[i6,Value.isStrOf]
theorem FP(a b:Int):decide ((Sum.inl a:Key)=Sum.inl b)=(a == b):=by
 by_cases e:a=b
 . subst e;simp
 . have h:¬ (Sum.inl a:Key)=Sum.inl b:=λq=>e (Zl q)
   rw[Xz h]
   exact(Yx.mpr e).symm
theorem FQ(a b:Str):decide ((Sum.inr a:Key)=Sum.inr b)=decide (a=b):=by
 by_cases e:a=b
 . subst e;simp
 . have h:¬ (Sum.inr a:Key)=Sum.inr b:=λq=>e (Sum.inr.inj q)
   rw[Xz h,Xz e]
theorem FR(a:Int)(b:Str):decide ((Sum.inl a:Key)=Sum.inr b)=false:=Xz (λq=>nomatch q)
theorem FT(a:Str)(b:Int):decide ((Sum.inr a:Key)=Sum.inl b)=false:=Xz (λq=>nomatch q)
def cg(prog:Program)(w:World):PySem.KeyKind prog w Key where
 is:=i6
 hash:=PM w
 inj:=λv a b ha hb=>by
  rcases d7 ha with⟨i,t,rfl,rfl⟩|⟨x,t,rfl,rfl⟩
  . rcases d7 hb with⟨j,u,rfl,e⟩|⟨y,u,rfl,e⟩
    . injection e with e1 _;rw[e1]
    . exact nomatch e
  . rcases d7 hb with⟨j,u,rfl,e⟩|⟨y,u,rfl,e⟩
    . exact nomatch e
    . injection e with e1 _;rw[e1]
 byValue:=λk v h=>by
  rcases d7 h with⟨i,t,rfl,rfl⟩|⟨x,t,rfl,rfl⟩ <;> rfl
 pyHash:=λhv h=>by
  rcases d7 hv with⟨i,t,rfl,rfl⟩|⟨x,t,rfl,rfl⟩
  . exact wpAny_pyHash_int h
  . exact wpAny_pyHash_str h
 eqBool:=λhu hv h=>by
  rcases d7 hu with⟨i,t,rfl,rfl⟩|⟨x,t,rfl,rfl⟩
  . rcases d7 hv with⟨j,u,rfl,rfl⟩|⟨y,u,rfl,rfl⟩
    . rw[FP]at h;exact wpAny_eqBool_int h
    . rw[FR]at h;exact SeqAt.EqAt.int_str i t y u _ _ _ _ h
  . rcases d7 hv with⟨j,u,rfl,rfl⟩|⟨y,u,rfl,rfl⟩
    . rw[FT]at h;exact SeqAt.EqAt.str_int x t j u _ _ _ _ h
    . rw[FQ]at h;exact wpAny_eqBool_str h
 «strs»:=λk x t v h=>by
  rcases d7 h with⟨i,u,rfl,e⟩|⟨y,u,rfl,e⟩
  . exact nomatch e
  . injection e with e1 _
    subst e1
    cases v <;> rfl
theorem yj(prog:Program)(w:World)(k:Key)(v:Value):(cg prog w).is k v=i6 k v:=rfl
theorem wA(prog:Program)(w:World)(i:Int)(t:Tok):(cg prog w).is (.inl i) (.int i t)=true:=yY i t
theorem wB(prog:Program)(w:World)(x:Str)(t:Tok):(cg prog w).is (.inr x) (.str x t)=true:=yZ x t
inductive V where
 | bb|bl (b:Bool)|int (i:Int)|str (x:Str)|kR (b:Array UInt8)|y1 (b:UInt64)|ref (a:Addr)|ty (n:String)
 deriving DecidableEq
def RelV:V->Value->Prop
 | .bb,u=>u=Value.none
 | .bl b,u=>u=Value.bool b
 | .int i,u=>∃t,u=Value.int i t
 | .str x,u=>∃t,u=Value.str x t
 | .kR b,u=>∃t,u=Value.bytes b t
 | .y1 b,u=>∃t,u=Value.float b t
 | .ref a,u=>u=Value.ref a
 | .ty n,u=>u=Value.type n
abbrev Vals:List V->List Value->Prop:=Paired RelV
theorem Vals.length{xs:List V}{us:List Value}(r:Vals xs us):xs.length=us.length:=aaI r
theorem Vals.get:∀{xs:List V}{us:List Value}{i:Nat}{x:V},Vals xs us->xs[i]?=some x->∃u,us[i]?=some u/\RelV x u
 | _,_,_,_,.nil,e=>by simp at e
 | _,_,0,_,.cons r _,e=>by simp at e;subst e;exact⟨_,rfl,r⟩
 | _,_,i+1,x,.cons _ t,e=>by
  obtain⟨u,h1,h2⟩:=Vals.get (i:=i) (x:=x) t (by simpa using e)
  exact⟨u,by simpa using h1,h2⟩
theorem Vals.set{x:V}{u:Value}(r:RelV x u):∀{xs:List V}{us:List Value}(i:Nat),Vals xs us->Vals (xs.set i x) (us.set i u)
 | _,_,_,.nil=>.nil
 | _,_,0,.cons _ t=>.cons r t
 | _,_,i+1,.cons q t=>.cons q (Vals.set r i t)
theorem Vals.append:∀{xs ys:List V}{us ws:List Value},Vals xs us->Vals ys ws->Vals (xs++ys) (us++ws)
 | _,_,_,_,.nil,s=>s
 | _,_,_,_,.cons r t,s=>.cons r (Vals.append t s)
theorem Vals.take:∀{xs:List V}{us:List Value}(n:Nat),Vals xs us->Vals (xs.take n) (us.take n)
 | _,_,0,_=>.nil
 | _,_,_+1,.nil=>.nil
 | _,_,n+1,.cons r t=>.cons r (Vals.take n t)
theorem Vals.drop:∀{xs:List V}{us:List Value}(n:Nat),Vals xs us->Vals (xs.drop n) (us.drop n)
 | _,_,0,r=>r
 | _,_,_+1,.nil=>.nil
 | _,_,n+1,.cons _ t=>Vals.drop n t
def gZ:Option V->Option Value->Prop
 | some v,some u=>RelV v u
 | none,none=>True
 | _,_=>False
def KV{κ:Type} : List (κ×V)->List (κ×Value)->Prop:=Paired λ(p:κ×V) (q:κ×Value)=>p.1=q.1/\RelV p.2 q.2
def kV:Key->V
 | .inl i=>.int i
 | .inr x=>.str x
inductive HO where
 /-- a list -/
 | lst (xs:List V)
 /-- a tuple (never changes) -/
 | tup (xs:List V)
 /-- a dict whose keys are ints and texts;one whose keys are tuples of ints and texts (the empty one is both) -/
 | dK (kvs:List (Key×V))|dT (kvs:List (List Key×V))
 /-- a set of ints: its members,its size -/
 | set (S:Int->Bool) (n:Nat)
 /-- an instance of the class at C,its dict at dx,its attributes -/
 | ins (C dx:Addr) (fs:List (Str×V))
 /-- the dict of the instance at x -/
 | own (x:Addr)
 /-- the dict of an exception -/
 | xd (fs:List (Str×V))
 /-- a bound method,f of x -/
 | met (f x:Addr)
 /-- a range object lo,lo+1,.. below hi -/
 | FU (lo hi:Int)
 /-- a thing that is known to the object (the script;a dict while a loop walks it): read,never written while it is so -/
 | cX (o:Obj) (u:HO)
 /-- a code object's table -/
 | tT (ps:Array Value)
 /-- any other thing,by what is true of its one object (a def of one's own: SetO a S n:=HO.ext λh=>..) -/
 | ext (φ:Heap->Prop)
abbrev Hp:=Addr->Option HO
def upd(H:Hp)(a:Addr)(o:HO):Hp:=λb=>if b=a then some o else H b
theorem aj{H:Hp}{a:Addr}{o:HO} : upd H a o a=some o:=by unfold upd;rw[XO rfl]
theorem ag{H:Hp}{a b:Addr}{o:HO}(h:b≠a):upd H a o b=H b:=by unfold upd;rw[XW h]
theorem nV{H:Hp}{a:Addr}{o u:HO} : upd (upd H a o) a u=upd H a u:=by
 funext b;unfold upd;split <;> rfl
theorem d8{H:Hp}{a b:Addr}{o u:HO}(h:H a=some o)(h':H b=some u)(d:o≠u):a≠b:=by
 intro e;subst e;rw[h]at h';exact d (Xq h')
theorem aq{H:Hp}{a b:Addr}{o:HO}(h:H a=some o)(h':H b=none):a≠b:=by
 intro e;subst e;rw[h]at h';cases h'
section
variable (P:Program) (w:World)
def cI(H:Hp)(h:Heap)(a:Addr):HO->Prop
 | .lst xs=>xs.length<=sizeLine/\∃(its:List Value) (n:Nat),Vals xs its/\h.get? a=some {cls:=.type "list",data:=.seq its.toArray n}
 | .tup xs=>xs.length<=sizeLine/\∃its:List Value,Vals xs its/\IsTup h a its.toArray
 | .dK kvs=>kvs.length<=sizeLine/\(a == sysModules)=false/\∃vs,KV kvs vs/\h.DictOf (cg P w) a vs
 | .dT kvs=>kvs.length<=sizeLine/\(a == sysModules)=false/\∃xs:List (List Key×Addr×Value),
  Paired (λ(p:List Key×V) (q:List Key×Addr×Value)=>p.1=q.1/\H q.2.1=some (.tup (p.1.map kV))/\RelV p.2 q.2.2) kvs xs/\
  ∃o es ep,h.get? a=some o/\o.ExactDict/\o.data=.dict es ep/\es.toList=xs.map (entryOfKey (tupleKind (cg P w)))/\(xs.map (·.1)).Nodup
 | .set S n=>h.SetOf (intKind P w) a S n
 | .ins C dx fs=>H dx=some (.own a)/\fs.length<=1000/\dx≠a/\h.get? a=some (W.instObj C dx)/\
  ∃mA,h.Ns1 dx mA/\(∀f,gZ (fs.lookup f) (mA f))/\PySem.Within mA (fs.map (·.1))
 | .own _=>∃o,h.get? a=some o
 | .xd fs=>∃mA,h.Ns1 a mA/\∀f,gZ (fs.lookup f) (mA f)
 | .FU lo hi=>∃t u v,h.get? a=some {cls:=.type "range",data:=.fields #[.int lo t,.int hi u,.int 1 v] }
 | .cX o u=>h.get? a=some o/\cI H h a u
 | .tT ps=>h.get? a=some {cls:=.none,data:=.fields ps}
 | .met f x=>h.get? a=some (W.methodObj (.ref f) (.ref x))
 | .ext φ=>φ h/\(∃o,h.get? a=some o)/\∀h1 h2:Heap,φ h1->(∀o,h1.get? a=some o->h2.get? a=some o)->φ h2
def fg(H:Hp)(h:Heap):Prop:=∀a o,H a=some o->cI P w H h a o
end
section
variable {P:Program}{w:World}{H H':Hp}{h h':Heap}{a:Addr}{o:HO}
theorem cI.lt(x:cI P w H h a o):a<h.objs.size:=by
 cases o with
 | lst xs=>obtain⟨_,_,_,_,e⟩:=x;exact XR e
 | tup xs=>obtain⟨_,_,_,p⟩:=x;exact p.lt
 | dK kvs=>obtain⟨_,_,_,_,o,_,_,e,_⟩:=x;exact XR e
 | dT kvs=>obtain⟨_,_,_,_,o,_,_,e,_⟩:=x;exact XR e
 | set S n=>obtain⟨o,_,_,_,e,_⟩:=x;exact XR e
 | ins C dx fs=>obtain⟨_,_,_,e,_⟩:=x;exact XR e
 | own y=>obtain⟨_,e⟩:=x;exact XR e
 | xd fs=>obtain⟨_,⟨_,_,_,e,_⟩,_⟩:=x;exact XR e
 | FU lo hi=>obtain⟨_,_,_,e⟩:=x;exact XR e
 | cX ob u=>obtain⟨e,_⟩:=x;exact XR e
 | tT ps=>exact XR (show h.get? a=some _ from x)
 | met f y=>exact XR (show h.get? a=some _ from x)
 | ext φ=>obtain⟨_,⟨_,e⟩,_⟩:=x;exact XR e
theorem Paired.bQ{α β:Type}{F G:α->β->Prop} : ∀{l₁:List α}{l₂:List β},Paired F l₁ l₂->(∀a b,F a b->G a b)->Paired G l₁ l₂
 | _,_,.nil,_=>.nil
 | _,_,.cons r t,f=>.cons (f _ _ r) (Paired.bQ t f)
theorem cI.i7(x:cI P w H h a o) (k:∀b u,(b=a\/H b=some (.own a))->h.get? b=some u->h'.get? b=some u)
 (ho:∀b,H b=some (.own a)->H' b=some (.own a)) (ht:∀b xs,H b=some (.tup xs)->H' b=some (.tup xs)):cI P w H' h' a o:=by
 induction o with
 | lst xs=>obtain⟨z,its,n,r,e⟩:=x;exact⟨z,its,n,r,k _ _ (.inl rfl) e⟩
 | tup xs=>obtain⟨z,its,r,ob,e,c⟩:=x;exact⟨z,its,r,ob,k _ _ (.inl rfl) e,c⟩
 | dK kvs=>obtain⟨z,y,vs,r,ob,es,ep,e,c⟩:=x;exact⟨z,y,vs,r,ob,es,ep,k _ _ (.inl rfl) e,c⟩
 | dT kvs=>
  obtain⟨z,y,xs,r,ob,es,ep,e,c⟩:=x
  exact⟨z,y,xs,Paired.bQ r λp q z=>⟨z.1,ht _ _ z.2.1,z.2.2⟩,ob,es,ep,k _ _ (.inl rfl) e,c⟩
 | set S n=>obtain⟨ob,es,ep,t,e,c⟩:=x;exact⟨ob,es,ep,t,k _ _ (.inl rfl) e,c⟩
 | ins C dx fs=>
  obtain⟨d,z,ne,e,mA,⟨od,es,ep,e2,c⟩,r⟩:=x
  exact⟨ho _ d,z,ne,k _ _ (.inl rfl) e,mA,⟨od,es,ep,k _ _ (.inr d) e2,c⟩,r⟩
 | own y=>obtain⟨ob,e⟩:=x;exact⟨ob,k _ _ (.inl rfl) e⟩
 | xd fs=>obtain⟨mA,⟨od,es,ep,e,c⟩,r⟩:=x;exact⟨mA,⟨od,es,ep,k _ _ (.inl rfl) e,c⟩,r⟩
 | FU lo hi=>obtain⟨t,u,v,e⟩:=x;exact⟨t,u,v,k _ _ (.inl rfl) e⟩
 | cX ob u ih=>obtain⟨e,q⟩:=x;exact⟨k _ _ (.inl rfl) e,ih q⟩
 | tT ps=>
  have e:h.get? a=some {cls:=.none,data:=.fields ps}:=x
  show h'.get? a=some {cls:=.none,data:=.fields ps}
  exact k a _ (.inl rfl) e
 | met f y=>
  have e:h.get? a=some (W.methodObj (.ref f) (.ref y)):=x
  show h'.get? a=some (W.methodObj (.ref f) (.ref y))
  exact k a _ (.inl rfl) e
 | ext φ=>obtain⟨p,⟨o,e⟩,st⟩:=x;exact⟨st _ _ p λo q=>k _ _ (.inl rfl) q,⟨o,k _ _ (.inl rfl) e⟩,st⟩
theorem fg.lt(x:fg P w H h)(e:H a=some o):a<h.objs.size:=(x a o e).lt
theorem fg.fresh(x:fg P w H h)(e:h.objs.size<=a):H a=none:=by
 cases q:H a with
 | none=>rfl
 | some u=>exact absurd (Yc (x.lt q) e) (YU _)
theorem fg.kept(x:fg P w H h)(k:∀b u,h.get? b=some u->h'.get? b=some u):fg P w H h':=λa o e=>
 (x a o e).i7 (λb u _ q=>k b u q) (λ_ q=>q) λ_ _ q=>q
theorem fg.laid(x:fg P w H h)(k:∀b u,h.get? b=some u->h'.get? b=some u)(hp:h.objs.size<=a) (new:cI P w (upd H a o) h' a o):fg P w (upd H a o) h':=λb u e=>by
 have hn:=x.fresh hp
 by_cases hb:b=a
 . subst hb;rw[aj]at e;cases e;exact new
 . rw[ag hb]at e
   exact(x b u e).i7 (λc v _ q=>k c v q) (λc q=>by rw[ag (aq q hn)];exact q) λc xs q=>by rw[ag (aq q hn)];exact q
end
def Rd(H:Hp)(a:Addr)(u:HO):Prop:=H a=some u\/∃o,H a=some (.cX o u)
theorem Rd.ok{P:Program}{w:World}{H:Hp}{h:Heap}{a:Addr}{u:HO}(r:Rd H a u)(x:fg P w H h):cI P w H h a u:=by
 rcases r with r|⟨o,r⟩
 . exact x a u r
 . obtain⟨_,q⟩:=x a _ r
   exact q
def y2:Option HO->Prop
 | some (.lst _)=>True
 | some (.dK _)=>True
 | some (.dT _)=>True
 | some (.set _ _)=>True
 | some (.ins _ _ _)=>True
 | some (.ext _)=>True
 | _=>False
section
variable {P:Program}{w:World}{H:Hp}{h h':Heap}{x e:Addr}{o':HO}
theorem fg.write(ok:fg P w H h) (mu:y2 (H x)) (he:e=x\/H e=some (.own x)) (k:∀b u,b≠e->h.get? b=some u->h'.get? b=some u) (wJ:∃u,h'.get? e=some u)
 (new:cI P w (upd H x o') h' x o'):fg P w (upd H x o') h':=λb u q=>by
 have mG:∀c y,H c=some (.own y)->c≠x:=λc y r z=>by subst z;rw[r]at mu;exact mu
 have PN:∀c xs,H c=some (.tup xs)->c≠x:=λc xs r z=>by subst z;rw[r]at mu;exact mu
 by_cases hb:b=x
 . subst hb;rw[aj]at q;cases q;exact new
 . rw[ag hb]at q
   by_cases tV:b=e
   . have q':H b=some (.own x):=by
      rcases he with z|z
      . exact absurd (tV.trans z) hb
      . rw[tV];exact z
     rw[q]at q';cases q'
     obtain⟨v,hv⟩:=wJ
     exact⟨v,by rw[tV];exact hv⟩
   . refine(ok b u q).i7 (λc v hc r=>k c v ?_ r) (λc r=>by rw[ag (mG c b r)];exact r) λc xs r=>by rw[ag (PN c xs r)];exact r
     rcases hc with rfl|hc
     . exact tV
     . rintro rfl
       rcases he with z|z
       . exact mG c b hc z
       . rw[hc]at z;cases z;exact hb rfl
end
structure Un(fs ex:List Addr) (H H':Hp) (h h':Heap):Prop where
 keep:∀b o,h.get? b=some o->H b=none->b∉fs->b∉ex->h'.get? b=some o
 slot:∀b o,h.get? b=some o->H b=none->b∈fs->b∉ex->∃sl,h'.get? b=some {o with slots:=sl}
 free:∀b o,h.get? b=some o->H b=none->b∉ex->H' b=none
 there:∀b o,h.get? b=some o->b∉ex->∃o',h'.get? b=some o'
 tups:∀b xs,H b=some (.tup xs)->H' b=some (.tup xs)
 frzs:∀b o u,H b=some (.cX o u)->H' b=some (.cX o u)
 tbls:∀b ps,H b=some (.tT ps)->∃more,H' b=some (.tT (ps++more))
section
variable {fs wK ex WV:List Addr}{H H1 H2:Hp}{h h1 h2 h':Heap}{a x e:Addr}{o:HO}
theorem Un.any(u:Un fs ex H H1 h h1){b:Addr}{ob:Obj}(q:h.get? b=some ob)(n:H b=none)(hx:b∉ex):∃sl,h1.get? b=some {ob with slots:=sl}:=by
 by_cases hb:b∈fs
 . exact u.slot b ob q n hb hx
 . exact⟨ob.slots,u.keep b ob q n hb hx⟩
theorem Un.trans(a:Un fs ex H H1 h h1)(b:Un fs ex H1 H2 h1 h2):Un fs ex H H2 h h2 where
 keep:=λc ob q n hc hx=>b.keep c ob (a.keep c ob q n hc hx) (a.free c ob q n hx) hc hx
 slot:=λc ob q n hc hx=>by
  obtain⟨sl,e1⟩:=a.slot c ob q n hc hx
  obtain⟨FV,e2⟩:=b.slot c _ e1 (a.free c ob q n hx) hc hx
  exact⟨FV,e2⟩
 free:=λc ob q n hx=>by
  obtain⟨o',e1⟩:=a.there c ob q hx
  exact b.free c o' e1 (a.free c ob q n hx) hx
 there:=λc ob q hx=>by
  obtain⟨o',e1⟩:=a.there c ob q hx
  exact b.there c o' e1 hx
 tups:=λc xs q=>b.tups c xs (a.tups c xs q)
 frzs:=λc ob xs q=>b.frzs c ob xs (a.frzs c ob xs q)
 tbls:=λc ps q=>by
  obtain⟨m1,e1⟩:=a.tbls c ps q
  obtain⟨m2,e2⟩:=b.tbls c _ e1
  exact⟨m1++m2,by rw[e2,aaJ]⟩
theorem Un.kept(k:∀b u,h.get? b=some u->h'.get? b=some u):Un fs ex H H h h':=
 ⟨λb ob q _ _ _=>k b ob q,λb ob q _ _ _=>⟨ob.slots,k b ob q⟩,λ_ _ _ n _=>n,λb ob q _=>⟨ob,k b ob q⟩,λ_ _ q=>q,λ_ _ _ q=>q,λ_ ps q=>⟨#[],by rw[q];simp⟩⟩
theorem Un.refl:Un fs ex H H h h:=Un.kept λ_ _ q=>q
theorem Un.laid(k:∀b u,h.get? b=some u->h'.get? b=some u)(hp:h.objs.size<=a)(hn:H a=none):Un fs ex H (upd H a o) h h' where
 keep:=λb u q _ _ _=>k b u q
 slot:=λb u q _ _ _=>⟨u.slots,k b u q⟩
 free:=λb u q n _=>by rw[ag (XZ (Yc (XR q) hp))];exact n
 there:=λb u q _=>⟨u,k b u q⟩
 tups:=λb xs q=>by rw[ag (aq q hn)];exact q
 frzs:=λb u xs q=>by rw[ag (aq q hn)];exact q
 tbls:=λb ps q=>⟨#[],by rw[ag (aq q hn),q];simp⟩
theorem Un.write(mu:y2 (H x)) (he:e=x\/H e=some (.own x)) (k:∀b u,b≠e->h.get? b=some u->h'.get? b=some u) (wJ:∃u,h'.get? e=some u):Un fs ex H (upd H x o) h h':=by
 have hx:∀b,H b=none->b≠x:=λb n z=>by subst z;rw[n]at mu;exact mu
 have hb:∀b,H b=none->b≠e:=λb n z=>by
  subst z
  rcases he with r|r
  . exact hx b n r
  . rw[n]at r;cases r
 have hm:∀b u,H b=some u->¬ y2 (some u)->b≠x:=λb u q nm z=>by subst z;rw[q]at mu;exact nm mu
 refine⟨λb u q n _ _=>k b u (hb b n) q,λb u q n _ _=>⟨u.slots,k b u (hb b n) q⟩,λb u q n _=>by rw[ag (hx b n)];exact n,λb u q _=>?_,
  λb xs q=>by rw[ag (hm b _ q λz=>z)];exact q,λb u xs q=>by rw[ag (hm b _ q λz=>z)];exact q,λb ps q=>⟨#[],by rw[ag (hm b _ q λz=>z),q];simp⟩⟩
 by_cases tV:b=e
 . subst tV;exact wJ
 . exact⟨u,k b u tV q⟩
end
def C5(h:Heap)(H:Hp):List Addr:=(List.range h.objs.size).filter λa=>(H a).isSome
def lL(h:Heap)(H:Hp):Heap:=W.hideAll h (C5 h H)
theorem y3(h:Heap)(H:Hp):(lL h H).objs.size=h.objs.size:=W.hideAll_size _ _
theorem Br{h:Heap}{H:Hp}{b:Addr}{o:Obj}(e:h.get? b=some o)(n:H b=none):(lL h H).get? b=some o:=
 W.hideAll_get _ e λhm=>by
  have q:(H b).isSome=true:=(Y0.mp hm).2
  rw[n]at q;simp at q
theorem Ep{h:Heap}{H:Hp}{b:Addr}{o:Obj}(e:(lL h H).get? b=some o):h.get? b=some o/\H b=none:=by
 have e':h.get? b=some o:=W.of_hideAll (C5 h H) e
 refine⟨e',?_⟩
 cases q:H b with
 | none=>rfl
 | some x=>
  have hm:b∈C5 h H:=Y0.mpr ⟨YL.mpr (XR e'),by simp[q]⟩
  have z:(lL h H).get? b=none:=W.hideAll_none (C5 h H) hm
  rw[z]at e;cases e
def Er(g h:Heap)(L:Addr):List (Addr×Obj):=(List.range h.objs.size).filterMap λa=>if a=L\/(g.get? a).isSome=true then none else (h.get? a).map λo=>(a,o)
def rest(g h:Heap)(L d:Addr):List (Addr×Obj):=(Er g h L).filter λp=>decide (p.1≠d)
structure Mod(K:W.Frag) (mg:Str->Option Value) (base:Heap):Prop where
 kin:K.In base
 glob:base.Ns mainGlobals mg
 blt:∃mb,base.Ns builtinsNs mb/\∀x:Str,x ≠ "__name__" -> mb x=bootBuiltins x
 nolimit:base.NoLimit
structure Cx where
 prog:Program
 w:World
 K:W.Frag
 mg:Str->Option Value
 base:Heap
 A:Around
 N:List Str
 j5:Shared
 tD:Hp
 env:Env
 outer:List Env
 stack:List Env
 ex:List Addr
 fn:Str->Bool
 calm:Bool
 pn:List (Addr×Obj)
 xe:Value->Shared->Prop
def mi(l:List Env):List Addr:=l.filterMap (·.frame)
abbrev Cx.fs(X:Cx):List Addr:=mi X.outer
def C6(sc:Scope)(x:Str):Prop:=sc.names.lookup x=some .local\/sc.names.lookup x=some .cell\/sc.names.lookup x=some .free
def Loc(sc:Scope)(x:Str):Prop:=sc.names.lookup x=some .local\/sc.names.lookup x=some .cell
def Look(env:Env)(h:Heap)(m:Str->Option Value)(x:Str)(u:Value):Prop:=
 (env.kindOf x=some .local/\m x=some u)\/((env.kindOf x=some .cell\/env.kindOf x=some .free)/\∃c,env.cells.lookup x=some c/\h.IsCell c (some u))
structure Cx.Ok(X:Cx):Prop where
 mod:Mod X.K X.mg X.base
 kind:X.env.scope.kind=.function
 glob:X.env.globals=mainGlobals
 blt:X.env.builtins=builtinsNs
 above:X.j5.heap.objs.size<=X.env.locals
 inj:∀x y c,X.env.cells.lookup x=some c->X.env.cells.lookup y=some c->x=y
 has:∀x,(X.env.kindOf x=some .cell\/X.env.kindOf x=some .free)->∃c,X.env.cells.lookup x=some c
 cab:∀x c,X.fn x=true->X.env.cells.lookup x=some c->X.j5.heap.objs.size<=c
 hd:X.calm=true->X.A.handled=none
 frames:X.A.frames=some X.stack
 stk:X.stack=X.outer\/(X.stack=X.env::X.outer/\X.env.frame=some X.env.locals)
 exf:∀b∈X.ex,b≠X.env.locals/\∀x c,X.env.cells.lookup x=some c->c≠b
 bs:∀b o,X.base.get? b=some o->X.j5.heap.get? b=some o/\X.tD b=none
 bsz:X.base.objs.size<=X.j5.heap.objs.size
 noex:∀b o,X.base.get? b=some o->b∉X.ex
 exfs:∀b∈X.ex,b∉X.fs
 jy:X.j5.heap.FunFrames X.base X.outer
 frf:∀b∈X.fs,X.tD b=none
structure Inv(X:Cx) (pins:List (Addr×Obj)) (σ:List (Option V)) (H:Hp) (s:Shared):Prop where
 ok:X.Ok
 os:s.os=X.j5.os
 bare:AllBare s.gens
 base:Un X.fs X.ex X.tD H X.j5.heap s.heap
 loc:∃m,s.heap.Ns X.env.locals m/\∀(i:Nat) (x:Str) (v:V),X.N[i]?=some x->σ[i]?=some (some v)->C6 X.env.scope x->∃u,RelV v u/\Look X.env s.heap m x u
 cell:∀x c,X.env.cells.lookup x=some c->∃v,s.heap.IsCell c v
 free:H X.env.locals=none
 freeC:∀x c,X.env.cells.lookup x=some c->H c=none
 pin:∀p∈X.pn++pins,s.heap.get? p.1=some p.2/\H p.1=none/\p.1≠X.env.locals/\p.1∉X.fs/\∀v,p.2.data≠.cell v
 hok:fg X.prog X.w H s.heap
 len:σ.length=X.N.length
section
variable {X:Cx}{pins:List (Addr×Obj)}{σ:List (Option V)}{H H':Hp}{s:Shared}{h':Heap}
theorem Cx.Ok.PQ(ok:X.Ok){b:Addr}{o:Obj}(e:X.base.get? b=some o):b∉X.fs:=λhb=>by
 have:=(ok.jy.mem hb).1
 rw[e]at this;cases this
theorem Inv.bs(I:Inv X pins σ H s):∀b o,X.base.get? b=some o->s.heap.get? b=some o/\H b=none:=λb o e=>
 ⟨I.base.keep b o (I.ok.bs b o e).1 (I.ok.bs b o e).2 (I.ok.PQ e) (I.ok.noex b o e),I.base.free b o (I.ok.bs b o e).1 (I.ok.bs b o e).2 (I.ok.noex b o e)⟩
theorem Inv.bk(I:Inv X pins σ H s):∀b o,X.base.get? b=some o->s.heap.get? b=some o:=λb o e=>(I.bs b o e).1
theorem Inv.mod(I:Inv X pins σ H s):Mod X.K X.mg X.base:=I.ok.mod
theorem Inv.jo(I:Inv X pins σ H s):X.K.In s.heap:=I.ok.mod.kin.keeps I.bk
theorem Inv.lt(I:Inv X pins σ H s):X.env.locals<s.heap.objs.size:=let ⟨_,hn,_⟩:=I.loc;hn.lt
theorem Inv.sz(I:Inv X pins σ H s):X.j5.heap.objs.size<=s.heap.objs.size:=XS I.ok.above (X7 I.lt)
theorem Inv.PR(I:Inv X pins σ H s){a:Addr}(h:s.heap.objs.size<=a):a∉X.fs:=λhb=>by
 obtain⟨_,o,ho,_⟩:=I.ok.jy.mem hb
 exact absurd (Yc (XR ho) (XS I.sz h)) (YU _)
theorem Inv.tW(I:Inv X pins σ H s):∀x c,X.env.cells.lookup x=some c->c≠X.env.locals:=λx c e z=>by
 obtain⟨v,o,ho,hd⟩:=I.cell x c e
 obtain⟨m,⟨o',es,ep,jq,hd',_⟩,_⟩:=I.loc
 rw[z,jq]at ho;cases ho;rw[hd']at hd;cases hd
theorem Inv.jy(I:Inv X pins σ H s):s.heap.FunFrames X.base X.outer:=by
 have all:∀(l:List Env),(∀b∈mi l,b∈X.fs)->X.j5.heap.FunFrames X.base l->s.heap.FunFrames X.base l:=by
  intro l
  induction l with
  | nil=>intro _ _;trivial
  | cons env r ih=>
   intro hs hl
   obtain⟨hk,⟨L,o,hf,hn,ho,hd⟩,hr⟩:=hl
   have hL:L∈X.fs:=hs L (by unfold mi;rw[ZM,hf];exact XB)
   obtain⟨sl,e⟩:=I.base.slot L o ho (I.ok.frf L hL) hL λz=>I.ok.exfs L z hL
   exact⟨hk,⟨L,_,hf,hn,e,hd⟩,ih (λb hb=>hs b (by unfold mi;rw[ZM,hf];exact XA _ hb)) hr⟩
 exact all X.outer (λ_ hb=>hb) I.ok.jy
theorem Inv.stack(I:Inv X pins σ H s):s.heap.FunFrames X.base X.stack:=by
 rcases I.ok.stk with e|⟨e,hf⟩
 . rw[e];exact I.jy
 . rw[e]
   obtain⟨m,hn,_⟩:=I.loc
   refine .cons (by rw[I.ok.kind];decide) hf hn ?_ I.jy
   exact Heap.get?_none_of_le (XS I.ok.bsz I.ok.above)
theorem Inv.pO(I:Inv X pins σ H s):∀b∈mi X.stack,b∈X.env.locals::X.fs:=λb hb=>by
 rcases I.ok.stk with e|⟨e,hf⟩
 . rw[e]at hb;exact XA _ hb
 . rw[e]at hb
   unfold mi at hb
   rw[ZM,hf]at hb
   exact hb
theorem Inv.wL(I:Inv X pins σ H s):∀b∈mi X.stack,H b=none:=λb hb=>by
 rcases XI.mp (I.pO b hb) with e|hb
 . rw[e];exact I.free
 . obtain⟨_,o,ho,_⟩:=I.ok.jy.mem hb
   exact I.base.free b o ho (I.ok.frf b hb) λz=>I.ok.exfs b z hb
theorem Inv.step{g':Array GenState}{t':Nat}{d':Drawn}{ch:List Addr}(I:Inv X pins σ H s)
 (ke:∀b∈ch,(b∈X.ex\/X.j5.heap.objs.size<=b)/\b≠X.env.locals/\(∀x c,X.env.cells.lookup x=some c->c≠b)/\∀p∈X.pn++pins,p.1≠b)
 (keep:∀b o,b≠X.env.locals->b∉X.fs->b∉ch->s.heap.get? b=some o->H b=none->h'.get? b=some o)
 (slot:∀b o,b≠X.env.locals->b∈X.fs->b∉ch->s.heap.get? b=some o->H b=none->∃sl,h'.get? b=some {o with slots:=sl}) (free:∀b o,b∉ch->s.heap.get? b=some o->H b=none->H' b=none)
 (there:∀b o,b∉ch->s.heap.get? b=some o->∃o',h'.get? b=some o')
 (tups:∀b xs,H b=some (.tup xs)->H' b=some (.tup xs)) (frzs:∀b o u,H b=some (.cX o u)->H' b=some (.cX o u)) (tbls:∀b ps,H b=some (.tT ps)->∃more,H' b=some (.tT (ps++more)))
 (ns:∀m,s.heap.Ns X.env.locals m->h'.Ns X.env.locals m) (hok:fg X.prog X.w H' h') (hg:AllBare g') :
 Inv X pins σ H' {s with heap:=h',gens:=g',drawn:=d',toks:=t'}:=by
 have M7:∀b o,X.j5.heap.get? b=some o->b≠X.env.locals:=λb o e=>XZ (Yc (XR e) I.ok.above)
 have C7:∀b o,X.j5.heap.get? b=some o->b∉X.ex->b∉ch:=λb o e hx hb=>by
  rcases (ke b hb).1 with z|z
  . exact hx z
  . exact absurd (Yc (XR e) z) (YU _)
 have cellK:∀x c,X.env.cells.lookup x=some c->∀v,s.heap.IsCell c v->h'.IsCell c v:=λx c e v ⟨o,ho,hd⟩=>by
  have y4:c∉ch:=λz=>(ke c z).2.2.1 x c e rfl
  by_cases hc:c∈X.fs
  . obtain⟨sl,q⟩:=slot c o (I.tW x c e) hc y4 ho (I.freeC x c e)
    exact⟨_,q,hd⟩
  . exact⟨o,keep c o (I.tW x c e) hc y4 ho (I.freeC x c e),hd⟩
 refine⟨I.ok,I.os,hg,⟨λb o e n hb hx=>?_,λb o e n hb hx=>?_,λb o e n hx=>?_,λb o e hx=>?_,λb xs e=>tups b xs (I.base.tups b xs e),λb o xs e=>frzs b o xs (I.base.frzs b o xs e),λb ps e=>?_⟩,?_,λx c e=>?_,?_,λx c e=>?_,λp hp=>?_,hok,I.len⟩
 . exact keep b o (M7 b o e) hb (C7 b o e hx) (I.base.keep b o e n hb hx) (I.base.free b o e n hx)
 . obtain⟨sl,e1⟩:=I.base.slot b o e n hb hx
   obtain⟨FV,e2⟩:=slot b _ (M7 b o e) hb (C7 b o e hx) e1 (I.base.free b o e n hx)
   exact⟨FV,e2⟩
 . obtain⟨o',e1⟩:=I.base.there b o e hx
   exact free b o' (C7 b o e hx) e1 (I.base.free b o e n hx)
 . obtain⟨o',e1⟩:=I.base.there b o e hx
   exact there b o' (C7 b o e hx) e1
 . obtain⟨m1,e1⟩:=I.base.tbls b ps e
   obtain⟨m2,e2⟩:=tbls b _ e1
   exact⟨m1++m2,by rw[e2,aaJ]⟩
 . obtain⟨m,hn,hl⟩:=I.loc
   refine⟨m,ns m hn,λi x v e1 e2 e3=>?_⟩
   obtain⟨u,r,l⟩:=hl i x v e1 e2 e3
   refine⟨u,r,?_⟩
   rcases l with l|⟨k,c,e,z⟩
   . exact .inl l
   . exact .inr ⟨k,c,e,cellK x c e _ z⟩
 . obtain⟨v,z⟩:=I.cell x c e
   exact⟨v,cellK x c e v z⟩
 . obtain⟨m,⟨o,_,_,ho,_⟩,_⟩:=I.loc
   exact free _ o (λz=>(ke _ z).2.1 rfl) ho I.free
 . obtain⟨v,o,ho,hd⟩:=I.cell x c e
   exact free c o (λz=>(ke c z).2.2.1 x c e rfl) ho (I.freeC x c e)
 . obtain⟨e,n,ne,nf,d⟩:=I.pin p hp
   have y4:p.1∉ch:=λz=>(ke p.1 z).2.2.2 p hp rfl
   exact⟨keep p.1 p.2 ne nf y4 e n,free p.1 p.2 y4 e n,ne,nf,d⟩
theorem Inv.un{t':Nat}(I:Inv X pins σ H s)(u:Un X.fs [] H H' s.heap h')(hok:fg X.prog X.w H' h'):Inv X pins σ H' {s with heap:=h',toks:=t'}:=by
 obtain⟨m,⟨o,es,ep,ho,r⟩,_⟩:=id I.loc
 obtain⟨sl,hL⟩:=u.any ho I.free (by simp)
 exact I.step (g':=s.gens) (d':=s.drawn) (ch:=[]) (λ_ z=>nomatch z) (λb o _ hb _ e n=>u.keep b o e n hb (by simp)) (λb o _ hb _ e n=>u.slot b o e n hb (by simp)) (λb o _ e n=>u.free b o e n (by simp)) (λb o _ e=>u.there b o e (by simp)) u.tups u.frzs u.tbls (λm' hm=>by
  obtain⟨o',y6,y8,jq,r'⟩:=hm
  rw[ho]at jq;cases jq
  exact⟨_,y6,y8,hL,r'⟩) hok I.bare
theorem Inv.call{g':Array GenState}{t':Nat}{d':Drawn}{ch:List Addr}(I:Inv X pins σ H s) (u:Un (mi X.stack) ch H H' s.heap h') (hok:fg X.prog X.w H' h') (hg:AllBare g')
 (ke:∀b∈ch,(b∈X.ex\/X.j5.heap.objs.size<=b)/\b≠X.env.locals/\(∀x c,X.env.cells.lookup x=some c->c≠b)/\∀p∈X.pn++pins,p.1≠b) :
 Inv X pins σ H' {s with heap:=h',gens:=g',drawn:=d',toks:=t'}:=by
 obtain⟨m,⟨o,es,ep,ho,r⟩,_⟩:=id I.loc
 obtain⟨sl,hL⟩:=u.any ho I.free λz=>(ke _ z).2.1 rfl
 exact I.step (ch:=ch) ke (λb o hL hb hc e n=>u.keep b o e n (λz=>(XI.mp (I.pO b z)).elim hL hb) hc) (λb o _ _ hc e n=>u.any e n hc) (λb o hc e n=>u.free b o e n hc) (λb o hc e=>u.there b o e hc) u.tups u.frzs u.tbls (λm' hm=>by
  obtain⟨o',y6,y8,jq,r'⟩:=hm
  rw[ho]at jq;cases jq
  exact⟨_,y6,y8,hL,r'⟩) hok hg
theorem Inv.turned{t':Nat}{it:Addr}(I:Inv X pins σ H s)(k:∀b o,b≠it->s.heap.get? b=some o->h'.get? b=some o)(hn:H it=none)(hL:it≠X.env.locals)
 (h1:it∈X.ex\/X.j5.heap.objs.size<=it) (h2:∀x c,X.env.cells.lookup x=some c->c≠it) (h3:∀p∈X.pn++pins,p.1≠it):Inv X pins σ H {s with heap:=h',toks:=t'}:=by
 have M8:∀b u,H b=some u->b≠it:=λb u e z=>by rw[z,hn]at e;cases e
 refine I.step (g':=s.gens) (d':=s.drawn) (ch:=[it]) (λb hb=>?_) (λb o _ _ hc e _=>k b o (λz=>hc (by simp[z])) e) (λb o _ _ hc e _=>⟨o.slots,k b o (λz=>hc (by simp[z])) e⟩) (λ_ _ _ _ n=>n)
  (λb o hc e=>⟨o,k b o (λz=>hc (by simp[z])) e⟩) (λ_ _ e=>e) (λ_ _ _ e=>e) (λb ps e=>⟨#[],by rw[e];simp⟩) (λm hm=>?_) (λb u e=>?_) I.bare
 . have e:b=it:=by simpa using hb
   subst e
   exact⟨h1,hL,h2,h3⟩
 . obtain⟨o,es,ep,ho,r⟩:=hm
   exact⟨o,es,ep,k _ o (YF hL) ho,r⟩
 . refine(I.hok b u e).i7 (λc v hc q=>k c v ?_ q) (λ_ q=>q) λ_ _ q=>q
   rcases hc with z|z
   . rw[z];exact M8 b u e
   . exact M8 c _ z
theorem Inv.tok(I:Inv X pins σ H s)(t:Nat):Inv X pins σ H {s with toks:=t}:=I.un (h':=s.heap) (t':=t) Un.refl I.hok
theorem Inv.kept{t':Nat}(I:Inv X pins σ H s)(k:∀b u,s.heap.get? b=some u->h'.get? b=some u):Inv X pins σ H {s with heap:=h',toks:=t'}:=I.un (Un.kept k) (I.hok.kept k)
theorem Inv.laid{a:Addr}{o:HO}{t':Nat}(I:Inv X pins σ H s)(k:∀b u,s.heap.get? b=some u->h'.get? b=some u)(hp:s.heap.objs.size<=a) (new:cI X.prog X.w (upd H a o) h' a o) :
 Inv X pins σ (upd H a o) {s with heap:=h',toks:=t'}:=I.un (Un.laid k hp (I.hok.fresh hp)) (I.hok.laid k hp new)
theorem Inv.write{x e:Addr}{o:HO}{t':Nat}(I:Inv X pins σ H s) (mu:y2 (H x)) (he:e=x\/H e=some (.own x)) (k:∀b u,b≠e->s.heap.get? b=some u->h'.get? b=some u) (wJ:∃u,h'.get? e=some u)
 (new:cI X.prog X.w (upd H x o) h' x o):Inv X pins σ (upd H x o) {s with heap:=h',toks:=t'}:=I.un (Un.write mu he k wJ) (I.hok.write mu he k wJ new)
theorem Inv.wM{C8:List (Addr×Obj)}(I:Inv X pins σ H s) (h:∀p∈C8,s.heap.get? p.1=some p.2/\H p.1=none/\p.1≠X.env.locals/\p.1∉X.fs/\∀v,p.2.data≠.cell v):Inv X C8 σ H s:=
 ⟨I.ok,I.os,I.bare,I.base,I.loc,I.cell,I.free,I.freeC,λp hp=>(Xp.mp hp).elim (λz=>I.pin p (XF _ z)) (h p),I.hok,I.len⟩
theorem tX{N:List Str}(hN:N.Nodup){i j:Nat}{x:Str}(a:N[i]?=some x)(b:N[j]?=some x):i=j:=by
 obtain⟨h1,e1⟩:=Xr.mp a
 obtain⟨h2,e2⟩:=Xr.mp b
 exact(List.getElem_inj hN).mp (e1.trans e2.symm)
theorem so{M:Model}{A:Around}{E:Value->Shared->Prop}{i:Nat}{x:Str}{v:V}{u:Value}{Q:Unit->Shared->Prop}(I:Inv X pins σ H s)(hN:X.N.Nodup)(hi:X.N[i]?=some x)(hx:Loc X.env.scope x)(r:RelV v u)
 (h:∀s',Inv X pins (σ.set i (some v)) H s'->(∃a,Heap.SameBut a s.heap s'.heap/\(a=X.env.locals\/X.env.cells.lookup x=some a))->Q () s') (hf:X.fn x=true\/X.env.scope.names.lookup x=some .local:=by first|exact .inl rfl|exact .inr rfl|assumption):wpAny M A (storeName X.env x u) Q E s:=by
 obtain⟨m,hn,hl⟩:=id I.loc
 have PU:(X.env.scope.kind == .class || (X.env.scope.kind == .module && X.env.locals != X.env.globals))=false:=by rw[I.ok.kind];rfl
 have hiσ:i < σ.length:=by rw[I.len];exact(Xr.mp hi).1
 have tW:=I.tW
 have tracked:∀{a:Addr}{h':Heap},(∃o,s.heap.get? a=some o/\H a=none)->Heap.SameBut a s.heap h'->fg X.prog X.w H h':=λ{a h'} ha hs b ob e=>by
  obtain⟨_,_,C9⟩:=ha
  refine(I.hok b ob e).i7 (λc w' hc q=>(hs.2 c ?_).trans q) (λ_ q=>q) λ_ _ q=>q
  rintro rfl
  rcases hc with rfl|hc
  . rw[C9]at e;cases e
  . rw[C9]at hc;cases hc
 rcases hx with hk|hk
 . refine wpAny_storeName_local hk hn (λh' Dc hs=>?_) PU
   obtain⟨oL,_,_,sq,_⟩:=id hn
   refine h _ ⟨I.ok,I.os,I.bare,⟨λb o e n hb hx=>?_,λb o e n hb hx=>?_,I.base.free,λb o e hx=>?_,I.base.tups,I.base.frzs,I.base.tbls⟩,⟨_,Dc,λj y v' e1 e2 e3=>?_⟩,λy c e=>?_,I.free,I.freeC,λp hp=>?_,tracked ⟨oL,sq,I.free⟩ hs,by simpa using I.len⟩ ⟨_,hs,.inl rfl⟩
   . exact(hs.2 b (XZ (Yc (XR e) I.ok.above))).trans (I.base.keep b o e n hb hx)
   . obtain⟨sl,e1⟩:=I.base.slot b o e n hb hx
     exact⟨sl,(hs.2 b (XZ (Yc (XR e) I.ok.above))).trans e1⟩
   . obtain⟨o',e1⟩:=I.base.there b o e hx
     exact⟨o',(hs.2 b (XZ (Yc (XR e) I.ok.above))).trans e1⟩
   . by_cases hj:j=i
     . subst hj
       rw[hi]at e1;cases e1
       rw[Yp hiσ]at e2
       cases e2
       exact⟨u,r,.inl ⟨hk,by simp⟩⟩
     . rw[YD (YF hj)]at e2
       obtain⟨u',r',q⟩:=hl j y v' e1 e2 e3
       refine⟨u',r',?_⟩
       rcases q with⟨k,e⟩|⟨k,c,e,z⟩
       . refine .inl ⟨k,?_⟩
         have:y≠x:=λe=>hj (tX hN e1 (e ▸ hi))
         simp[this,e]
       . exact .inr ⟨k,c,e,z.sameBut hs (tW y c e)⟩
   . obtain⟨w',z⟩:=I.cell y c e
     exact⟨w',z.sameBut hs (tW y c e)⟩
   . obtain⟨e,n,ne,nf,d⟩:=I.pin p hp
     exact⟨(hs.2 p.1 ne).trans e,n,ne,nf,d⟩
 . have FW:X.fn x=true:=by
    rcases hf with z|z
    . exact z
    . rw[z]at hk;cases hk
   obtain⟨c,hc⟩:=I.ok.has x (.inl hk)
   obtain⟨w',z⟩:=I.cell x c hc
   refine wpAny_storeName_cell I.ok.kind hk hc z (λh' gb hs=>?_)
   obtain⟨oc,M9,PV⟩:=id z
   refine h {s with heap:=h'} ⟨I.ok,I.os,I.bare,⟨λb o e n hb hx=>?_,λb o e n hb hx=>?_,I.base.free,λb o e hx=>?_,I.base.tups,I.base.frzs,I.base.tbls⟩,⟨m,hn.sameBut hs (YF (tW x c hc)),λj y v' e1 e2 e3=>?_⟩,λy c' e=>?_,I.free,I.freeC,λp hp=>?_,tracked ⟨oc,M9,I.freeC x c hc⟩ hs,by simpa using I.len⟩ ⟨c,hs,.inr hc⟩
   . exact(hs.2 b (XZ (Yc (XR e) (I.ok.cab x c FW hc)))).trans (I.base.keep b o e n hb hx)
   . obtain⟨sl,e1⟩:=I.base.slot b o e n hb hx
     exact⟨sl,(hs.2 b (XZ (Yc (XR e) (I.ok.cab x c FW hc)))).trans e1⟩
   . obtain⟨o',e1⟩:=I.base.there b o e hx
     exact⟨o',(hs.2 b (XZ (Yc (XR e) (I.ok.cab x c FW hc)))).trans e1⟩
   . by_cases hj:j=i
     . subst hj
       rw[hi]at e1;cases e1
       rw[Yp hiσ]at e2
       cases e2
       exact⟨u,r,.inr ⟨.inl hk,c,hc,gb⟩⟩
     . rw[YD (YF hj)]at e2
       obtain⟨u',r',q⟩:=hl j y v' e1 e2 e3
       refine⟨u',r',?_⟩
       rcases q with q|⟨k,c',e,z'⟩
       . exact .inl q
       . refine .inr ⟨k,c',e,z'.sameBut hs ?_⟩
         rintro rfl
         exact hj (tX hN e1 (I.ok.inj _ _ _ e hc ▸ hi))
   . by_cases pP:c'=c
     . subst pP;exact⟨_,gb⟩
     . obtain⟨w2,z2⟩:=I.cell y c' e
       exact⟨w2,z2.sameBut hs pP⟩
   . obtain⟨e,n,ne,nf,d⟩:=I.pin p hp
     refine⟨(hs.2 p.1 ?_).trans e,n,ne,nf,d⟩
     intro q
     rw[q,M9]at e
     have q':oc=p.2:=Xq e
     exact d w' (by rw[← q'];exact PV)
theorem oX{M:Model}{A:Around}{E:Value->Shared->Prop}{i:Nat}{x:Str}{v:V}{u:Value}{Q:Unit->Shared->Prop}(I:Inv X pins σ H s)(hN:X.N.Nodup)(hi:X.N[i]?=some x)(hx:Loc X.env.scope x)(r:RelV v u)
 (h:∀s',Inv X pins (σ.set i (some v)) H s'->Q () s') (hf:X.fn x=true\/X.env.scope.names.lookup x=some .local:=by first|exact .inl rfl|exact .inr rfl|assumption):wpAny M A (storeName X.env x u) Q E s:=
 so I hN hi hx r (λs' I' _=>h s' I') hf
theorem Inv.Me{s':Shared}{ch:List Addr}(I:Inv X pins σ H s)(ho:s'.os=s.os) (u:Un (mi X.stack) ch H H' s.heap s'.heap) (hok:fg X.prog X.w H' s'.heap) (hg:AllBare s'.gens)
 (ke:∀b∈ch,(b∈X.ex\/X.j5.heap.objs.size<=b)/\b≠X.env.locals/\(∀x c,X.env.cells.lookup x=some c->c≠b)/\∀p∈X.pn++pins,p.1≠b):Inv X pins σ H' s':=by
 obtain⟨h',g',d',t',o'⟩:=s'
 have e:o'=s.os:=ho
 subst e
 exact I.call (g':=g') (t':=t') (d':=d') u hok hg ke
end
abbrev XK:=Value->Option Addr->Hp->Prop
abbrev St:=List (Option V)
abbrev VK:=V->Hp->Prop
abbrev TE:=St->Hp->VK->Prop
abbrev TT:=St->Hp->(Bool->Hp->Prop)->Prop
abbrev TA:=St->Hp->(List V->Hp->Prop)->Prop
structure Ends where
 nx:St->Hp->Prop
 rt:VK
 bk:St->Hp->Prop:=λ_ _=>False
 ct:St->Hp->Prop:=λ_ _=>False
abbrev TS:=Ends->St->Hp->Prop
def EP(X:Cx) (pins:List (Addr×Obj)) (σ:St) (Q:VK) (u:Value) (s':Shared):Prop:=∃v H',Inv X pins σ H' s'/\RelV v u/\Q v H'
def TP(X:Cx) (pins:List (Addr×Obj)) (σ:St) (Q:Bool->Hp->Prop) (b:Bool) (s':Shared):Prop:=∃H',Inv X pins σ H' s'/\Q b H'
def AP(X:Cx) (pins:List (Addr×Obj)) (σ:St) (Q:List V->Hp->Prop) (us:List Value) (s':Shared):Prop:=∃vs H',Inv X pins σ H' s'/\Vals vs us/\Q vs H'
def SP(X:Cx) (pins:List (Addr×Obj)) (D:Ends) (f:Flow) (s':Shared):Prop:=
 match f with
 | .next=>∃bq H',Inv X pins bq H' s'/\D.nx bq H'
 | .brk=>∃bq H',Inv X pins bq H' s'/\D.bk bq H'
 | .cont=>∃bq H',Inv X pins bq H' s'/\D.ct bq H'
 | .ret u=>∃v bq H',Inv X pins bq H' s'/\RelV v u/\D.rt v H'
def PE(X:Cx)(e:Expr)(t:TE):Prop:=
 ∀(pins:List (Addr×Obj)) (s:Shared) (σ:St) (H:Hp) (Q:VK),Inv X pins σ H s->t σ H Q->wpAny (model X.prog X.w) X.A (eval e X.env) (EP X pins σ Q) X.xe s
def PT(X:Cx)(e:Expr)(t:TT):Prop:=
 ∀(pins:List (Addr×Obj)) (s:Shared) (σ:St) (H:Hp) (Q:Bool->Hp->Prop),Inv X pins σ H s->t σ H Q->wpAny (model X.prog X.w) X.A (isTrue e X.env (eval e X.env)) (TP X pins σ Q) X.xe s
def PW(X:Cx)(e:Expr)(t:TT):Prop:=
 ∀(whole:Sem Value) (pins:List (Addr×Obj)) (s:Shared) (σ:St) (H:Hp) (Q:Bool->Hp->Prop),Inv X pins σ H s->t σ H Q->wpAny (model X.prog X.w) X.A (isTrue e X.env whole) (TP X pins σ Q) X.xe s
theorem PW.pt{X:Cx}{e:Expr}{t:TT}(h:PW X e t):PT X e t:=h _
def PA(X:Cx)(es:List Expr)(t:TA):Prop:=
 ∀(pos:Pos) (pins:List (Addr×Obj)) (s:Shared) (σ:St) (H:Hp) (Q:List V->Hp->Prop),Inv X pins σ H s->t σ H Q->wpAny (model X.prog X.w) X.A (spliced (backTo pos (starEach es X.env))) (AP X pins σ Q) X.xe s
def PS(X:Cx)(st:Stmt)(t:TS):Prop:=
 ∀(pins:List (Addr×Obj)) (s:Shared) (σ:St) (H:Hp) (D:Ends),Inv X pins σ H s->t D σ H->wpAny (model X.prog X.w) X.A (exec st X.env) (SP X pins D) X.xe s
def kg(X:Cx)(st:List Stmt)(t:TS):Prop:=
 ∀(pins:List (Addr×Obj)) (s:Shared) (σ:St) (H:Hp) (D:Ends),Inv X pins σ H s->t D σ H->wpAny (model X.prog X.w) X.A (execs st X.env) (SP X pins D) X.xe s
theorem aS{α:Type}{t:Sem α}{Q Q':α->Shared->Prop}{M:Model}{A:Around}{E:Value->Shared->Prop}{s:Shared}(h:wpAny M A t Q E s)(hQ:∀a s,Q a s->Q' a s):wpAny M A t Q' E s:=YG h hQ λ_ _ x=>x
section
variable {X:Cx}
theorem bin{a b:Expr}{ta tb:TE}(ha:PE X a ta)(hb:PE X b tb){pins:List (Addr×Obj)}{s:Shared}{σ:St}{H:Hp}{R:V->V->Hp->Prop}(I:Inv X pins σ H s) (h:ta σ H λx H1=>tb σ H1 λy H2=>R x y H2)
 {α:Type}{Q:α->Shared->Prop}{f:Value->Value->Sem α}
 (hf:∀v u s2 x y H2,Inv X pins σ H2 s2->RelV x v->RelV y u->R x y H2->wpAny (model X.prog X.w) X.A (f v u) Q X.xe s2) :
 wpAny (model X.prog X.w) X.A (eval a X.env) (λv dQ=>wpAny (model X.prog X.w) X.A (eval b X.env) (λu oY=>wpAny (model X.prog X.w) X.A (f v u) Q X.xe oY) X.xe dQ) X.xe s:=by
 refine aS (ha pins s σ H _ I h) λv s1 zq=>?_
 obtain⟨x,H1,I1,r1,q1⟩:=zq
 refine aS (hb pins s1 σ H1 _ I1 q1) λu s2 zq=>?_
 obtain⟨y,H2,I2,r2,q2⟩:=zq
 exact hf v u s2 x y H2 I2 r1 r2 q2
def eU(i:Nat):TE:=λσ H Q=>∃v,σ[i]?=some (some v)/\Q v H
def tC(v:V):TE:=λ_ H Q=>Q v H
theorem FX{i:Nat}{x:Str}{pos:Pos}(hN:X.N[i]?=some x)(hv:C6 X.env.scope x) (hd:(x == ("__debug__" : Str))=false:=by decide) (cE:(x == ("__classdict__" : Str))=false:=by decide):PE X (.Name x pos) (eU i):=by
 intro pins s σ H Q I h
 obtain⟨v,e,h⟩:=h
 obtain⟨m,hn,hl⟩:=I.loc
 obtain⟨u,r,l⟩:=hl i x v hN e hv
 have fin:EP X pins σ Q u s:=⟨v,H,I,r,h⟩
 rcases l with⟨hk,hm⟩|⟨hk,c,hc,tJ⟩
 . exact wpAny_Name (wpAny_loadName_local I.ok.kind hk hn hm fin) hd
 . rcases hk with hk|hk
   . exact wpAny_Name (wpAny_loadName_cell I.ok.kind hk hc tJ fin) hd
   . exact wpAny_Name (wpAny_loadName_free I.ok.kind hk hc tJ fin cE) hd
theorem au{i j pos} : PE X (.Constant (.int i) j pos) (tC (.int i)):=λ_ _ _ H _ I h=>wpAny_Constant_int ⟨.int i,H,I.tok _,⟨_,rfl⟩,h⟩
theorem fo{b j pos} : PE X (.Constant (.bool b) j pos) (tC (.bl b)):=λ_ _ _ H _ I h=>Constant_bool ⟨.bl b,H,I,rfl,h⟩
theorem i8{j pos} : PE X (.Constant .none j pos) (tC .bb):=λ_ _ _ H _ I h=>Constant_none ⟨.bb,H,I,rfl,h⟩
theorem pQ{x j pos} : PE X (.Constant (.str x) j pos) (tC (.str x)):=λ_ _ _ H _ I h=>Calls.Constant_str ⟨.str x,H,I.tok _,⟨_,rfl⟩,h⟩
def Gl(X:Cx)(x:Str):Prop:=X.env.kindOf x=some .globalImplicit
theorem nW{E:Value->Shared->Prop}{pins:List (Addr×Obj)}{s:Shared}{σ:St}{H:Hp}{x:Str}{u:Value}{pos:Pos}{Q:Value->Shared->Prop}(I:Inv X pins σ H s) (hg:Gl X x) (hm:X.mg x=some u) (h:Q u s)
 (hd:(x == ("__debug__" : Str))=false:=by decide):wpAny (model X.prog X.w) X.A (eval (.Name x pos) X.env) Q E s:=
 ZQ I.ok.kind hg (Calls.loadGlobal_global (by rw[I.ok.glob];exact I.mod.glob.keeps I.bk) hm h) hd
theorem jL{E:Value->Shared->Prop}{pins:List (Addr×Obj)}{s:Shared}{σ:St}{H:Hp}{x:Str}{u:Value}{pos:Pos}{Q:Value->Shared->Prop}(I:Inv X pins σ H s) (hg:Gl X x) (hm:X.mg x=none) (hv:bootBuiltins x=some u) (h:Q u s)
 (hn:x ≠ "__name__":=by decide) (hd:(x == ("__debug__" : Str))=false:=by decide):wpAny (model X.prog X.w) X.A (eval (.Name x pos) X.env) Q E s:=by
 obtain⟨mb,h1,h2⟩:=I.mod.blt
 exact ZQ I.ok.kind hg (Calls.loadGlobal_builtin (by rw[I.ok.glob];exact I.mod.glob.keeps I.bk) hm (by rw[I.ok.blt];exact h1.keeps I.bk) ((h2 x hn).trans hv) h) hd
theorem wN{x:Str}{v:V}{u:Value}{pos:Pos}(hg:Gl X x)(hm:X.mg x=some u)(r:RelV v u) (hd:(x == ("__debug__" : Str))=false:=by decide):PE X (.Name x pos) (tC v):=
 λ_ _ _ H _ I h=>nW I hg hm ⟨v,H,I,r,h⟩ hd
def R3(ta tb:TE)(k:Int->Int->Hp->Prop):St->Hp->Prop:=λσ H=>ta σ H λx H1=>tb σ H1 λy H2=>∃i j,x=.int i/\y=.int j/\k i j H2
variable {a b:Expr}{ta tb:TE}{pos:Pos}
def PC(X:Cx)(op:CmpOp)(a b:Expr)(t:TE):Prop:=
 ∀(pins:List (Addr×Obj)) (s:Shared) (σ:St) (H:Hp) (Q:VK),Inv X pins σ H s->t σ H Q->
  wpAny (model X.prog X.w) X.A (eval a X.env) (λv dQ=>wpAny (model X.prog X.w) X.A (eval b X.env) (λu oY=>wpAny (model X.prog X.w) X.A (compareOp op v u) (EP X pins σ Q) X.xe oY) X.xe dQ) X.xe s
theorem tY(b:Expr){op:CmpOp}(h:op≠.In)(h2:op≠.NotIn):behindInMarks op b=false:=by
 have e1:(op == CmpOp.In)=false:=by cases op <;> first|rfl|exact absurd rfl h
 have e2:(op == CmpOp.NotIn)=false:=by cases op <;> first|rfl|exact absurd rfl h2
 cases b <;> simp[behindInMarks,e1,e2]
def tZ(p:Int->Int->Bool)(ta tb:TE):TE:=λσ H Q=>R3 ta tb (λi j H2=>Q (.bl (p i j)) H2) σ H
abbrev R7:TE->TE->TE:=tZ λi j=>decide (i<j)
abbrev Na:TE->TE->TE:=tZ λi j=>decide (j<i)
abbrev PX:TE->TE->TE:=tZ λi j=>decide (i=j)
abbrev PY:TE->TE->TE:=tZ λi j=>!decide (i=j)
theorem pR{op:CmpOp}{p:Int->Int->Bool}(ha:PE X a ta)(hb:PE X b tb)
 (rule:∀(i j:Int) (t u:Tok) (Q:Value->Shared->Prop) (s:Shared),Q (.bool (p i j)) s->wpAny (model X.prog X.w) X.A (compareOp op (.int i t) (.int j u)) Q X.xe s):PC X op a b (tZ p ta tb):=by
 intro pins s σ H Q I h
 refine bin ha hb I h λv u s2 x y H2 I2 rx ry q=>?_
 obtain⟨i,j,rfl,rfl,q⟩:=q
 obtain⟨t,rfl⟩:=rx
 obtain⟨t',rfl⟩:=ry
 exact rule i j t t' _ s2 ⟨.bl _,H2,I2,rfl,q⟩
theorem nX(ha:PE X a ta)(hb:PE X b tb):PC X .Lt a b (R7 ta tb):=pR ha hb λ_ _ _ _ _ _ h=>lt_int h
theorem j6(ha:PE X a ta)(hb:PE X b tb):PC X .Gt a b (Na ta tb):=pR ha hb λ_ _ _ _ _ _ h=>gt_int h
theorem c7(ha:PE X a ta)(hb:PE X b tb):PC X .Eq a b (PX ta tb):=pR ha hb λ_ _ _ _ _ _ h=>eq_int (by rw[aaf];exact h)
theorem y9(ha:PE X a ta)(hb:PE X b tb):PC X .NotEq a b (PY ta tb):=pR ha hb λ_ _ _ _ _ _ h=>ne_int (by rw[bne,aaf];exact h)
def PZ(ta:TE):TE:=λσ H Q=>ta σ H λx H1=>Q (.bl (decide (x=.bb))) H1
def Mf(ta:TE):TE:=λσ H Q=>ta σ H λx H1=>Q (.bl (!decide (x=.bb))) H1
theorem RelV.t6{x:V}{v:Value}(r:RelV x v):(v == Value.none)=decide (x=.bb):=by
 cases x with
 | bb=>cases r;rfl
 | bl _=>cases r;rfl
 | int _=>obtain⟨t,rfl⟩:=r;rfl
 | str _=>obtain⟨t,rfl⟩:=r;rfl
 | kR _=>obtain⟨t,rfl⟩:=r;rfl
 | y1 _=>obtain⟨t,rfl⟩:=r;rfl
 | ref _=>cases r;rfl
 | ty _=>cases r;rfl
theorem pS{j pos'} (ha:PE X a ta):PC X .Is a (.Constant .none j pos') (PZ ta):=by
 intro pins s σ H Q I h
 refine aS (ha pins s σ H _ I h) λv s1 zq=>?_
 obtain⟨x,H1,I1,r1,q1⟩:=zq
 exact Constant_none (is_none_gen ⟨.bl _,H1,I1,by rw[r1.t6];rfl,q1⟩)
theorem wO{j pos'} (ha:PE X a ta):PC X .IsNot a (.Constant .none j pos') (Mf ta):=by
 intro pins s σ H Q I h
 refine aS (ha pins s σ H _ I h) λv s1 zq=>?_
 obtain⟨x,H1,I1,r1,q1⟩:=zq
 exact Constant_none (isnot_none_gen ⟨.bl _,H1,I1,by rw[r1.t6];rfl,q1⟩)
def tB(t:TE):TT:=λσ H Q=>t σ H λx H1=>∃c,x=.bl c/\Q c H1
theorem pT{op:CmpOp}{t:TE}(h:PC X op a b t) (h1:behindInMarks op b=false:=by first|exact tY _ (by decide) (by decide)|rfl):PE X (.Compare a [op] [b] pos) t:=λpins s σ H Q I hw=>wpAny_Compare1 (h pins s σ H Q I hw) h1
theorem aX{op:CmpOp}{t:TE}(h:PC X op a b t) (h1:behindInMarks op b=false:=by first|exact tY _ (by decide) (by decide)|rfl):PT X (.Compare a [op] [b] pos) (tB t):=by
 intro pins s σ H Q I hw
 refine wpAny_isTrue_Compare1 (aS (h pins s σ H _ I hw) λv s1 h1=>aS h1 λu s2 h2=>aS h2 λc s3 ⟨x,H1,I1,r1,q1⟩=>?_) h1
 obtain⟨d,rfl,q⟩:=q1
 cases r1
 exact Zx ⟨H1,I1,q⟩
theorem i9{e:Expr}{t:TE}(h:PE X e t) (he:∀whole,isTrue e X.env whole=(do let v ← whole;standAt e.pos;holding [v] (truthy v)):=by intro _;rfl):PT X e (tB t):=by
 intro pins s σ H Q I hw
 refine isTrue_plain (aS (h pins s σ H _ I hw) λv s1 ⟨x,H1,I1,r1,q1⟩=>?_) (he _)
 obtain⟨d,rfl,q⟩:=q1
 cases r1
 exact Zx ⟨H1,I1,q⟩
variable {tA De:TT}{rest:List Expr}
def P5(t u:TT):TT:=λσ H Q=>t σ H λc H1=>if c=true then u σ H1 Q else Q false H1
def Sa(t u:TT):TT:=λσ H Q=>t σ H λc H1=>if c=true then Q true H1 else u σ H1 Q
def P6(t:TT):TT:=λσ H Q=>t σ H λc H1=>Q (!c) H1
theorem iq(ha:PT X a tA):PW X (.BoolOp .And [a] pos) tA:=by
 intro wh pins s σ H Q I h
 refine isTrue_and (aS (ha pins s σ H Q I h) λc s1 e=>?_)
 cases c with
 | true=>exact isTrue_and_nil e
 | false=>exact e
theorem za(ha:PT X a tA):PW X (.BoolOp .Or [a] pos) tA:=by
 intro wh pins s σ H Q I h
 refine isTrue_or (aS (ha pins s σ H Q I h) λc s1 e=>?_)
 cases c with
 | false=>exact isTrue_or_nil e
 | true=>exact e
theorem ja(ha:PT X a tA) (hb:PW X (.BoolOp .And (b::rest) pos) De):PW X (.BoolOp .And (a::b::rest) pos) (P5 tA De):=by
 intro wh pins s σ H Q I h
 refine isTrue_and (aS (ha pins s σ H _ I h) λc s1 zq=>?_)
 obtain⟨H1,I1,q1⟩:=zq
 cases c with
 | true=>exact hb wh pins s1 σ H1 Q I1 q1
 | false=>exact⟨H1,I1,q1⟩
theorem Df(ha:PT X a tA) (hb:PW X (.BoolOp .Or (b::rest) pos) De):PW X (.BoolOp .Or (a::b::rest) pos) (Sa tA De):=by
 intro wh pins s σ H Q I h
 refine isTrue_or (aS (ha pins s σ H _ I h) λc s1 zq=>?_)
 obtain⟨H1,I1,q1⟩:=zq
 cases c with
 | true=>exact⟨H1,I1,q1⟩
 | false=>exact hb wh pins s1 σ H1 Q I1 q1
theorem zb(ha:PT X a tA):PT X (.UnaryOp .Not a pos) (P6 tA):=by
 intro pins s σ H Q I h
 exact isTrue_not (ha pins s σ H (λc H1=>Q (!c) H1) I h)
def Sb(t:TT)(ta tb:TE):TE:=λσ H Q=>t σ H λc H1=>if c=true then ta σ H1 Q else tb σ H1 Q
theorem oZ{c:Expr}(hc:PT X c tA)(ha:PE X a ta)(hb:PE X b tb):PE X (.IfExp c a b pos) (Sb tA ta tb):=by
 intro pins s σ H Q I h
 refine wpAny_IfExp (aS (hc pins s σ H _ I h) λd s1 zq=>?_)
 obtain⟨H1,I1,q1⟩:=zq
 cases d with
 | true=>exact ha pins s1 σ H1 Q I1 q1
 | false=>exact hb pins s1 σ H1 Q I1 q1
end
def ax(K:W.Frag)(H:Hp)(a:Addr)(xs:List V):Prop:=
 Rd H a (.lst xs)\/
  ∃(o:Obj) (its:Array Value) (n:Nat),K.lookup a=some o/\o.cls=.type "list" /\ o.dict=none/\o.data=.seq its n/\its.size<=sizeLine/\Vals xs its.toList
def jr(K:W.Frag)(H:Hp)(a:Addr)(xs:List V):Prop:=
 Rd H a (.tup xs)\/
  ∃(o:Obj) (its:Array Value) (n:Nat),K.lookup a=some o/\o.cls=.type "tuple" /\ o.data=.seq its n/\its.size<=sizeLine/\Vals xs its.toList
def P7:Value->Option V
 | .none=>some .bb
 | .bool b=>some (.bl b)
 | .int i _=>some (.int i)
 | .str x _=>some (.str x)
 | .bytes b _=>some (.kR b)
 | .float b _=>some (.y1 b)
 | .ref a=>some (.ref a)
 | .type n=>some (.ty n)
 | _=>none
theorem RelV.abs{x:V}{u:Value}(r:RelV x u):P7 u=some x:=by
 cases x with
 | bb=>cases r;rfl
 | bl _=>cases r;rfl
 | int _=>obtain⟨t,rfl⟩:=r;rfl
 | str _=>obtain⟨t,rfl⟩:=r;rfl
 | kR _=>obtain⟨t,rfl⟩:=r;rfl
 | y1 _=>obtain⟨t,rfl⟩:=r;rfl
 | ref _=>cases r;rfl
 | ty _=>cases r;rfl
theorem RelV.inj{x y:V}{u:Value}(r:RelV x u)(q:RelV y u):x=y:=Xq (r.abs.symm.trans q.abs)
theorem Vals.inj:∀{xs ys:List V}{us:List Value},Vals xs us->Vals ys us->xs=ys:=by
 intro xs ys us h h'
 induction h generalizing ys with
 | nil=>cases h';rfl
 | cons r t ih=>
  cases h' with
  | cons r' t'=>rw[r.inj r',ih t']
section
variable {X:Cx}{pins:List (Addr×Obj)}{σ:St}{H:Hp}{s:Shared}{a:Addr}{xs ys:List V}
theorem ax.of{K:W.Frag}(h:H a=some (.lst xs)):ax K H a xs:=.inl (.inl h)
theorem jr.of{K:W.Frag}(h:H a=some (.tup xs)):jr K H a xs:=.inl (.inl h)
theorem Inv.list(I:Inv X pins σ H s)(h:ax X.K H a xs):∃its:List Value,Vals xs its/\PlainL s.heap a its.toArray/\xs.length<=sizeLine:=by
 rcases h with h|⟨o,its,n,hk,hc,hd,hs,hz,r⟩
 . obtain⟨z,its,n,r,e⟩:=h.ok I.hok
   exact⟨its,r,⟨_,n,e,rfl,rfl,rfl⟩,z⟩
 . refine⟨its.toList,r,⟨o,n,I.jo a o hk,hc,hd,by simpa using hs⟩,?_⟩
   have e:=r.length
   simp only[YO]at e
   omega
theorem Inv.tuple(I:Inv X pins σ H s)(h:jr X.K H a xs):∃its:List Value,Vals xs its/\IsTup s.heap a its.toArray/\xs.length<=sizeLine:=by
 rcases h with h|⟨o,its,n,hk,hc,hs,hz,r⟩
 . obtain⟨z,its,r,p⟩:=h.ok I.hok
   exact⟨its,r,p,z⟩
 . refine⟨its.toList,r,⟨o,I.jo a o hk,hc,n,by simpa using hs⟩,?_⟩
   have e:=r.length
   simp only[YO]at e
   omega
theorem Inv.t7(I:Inv X pins σ H s)(h:ax X.K H a xs)(h':ax X.K H a ys):xs=ys:=by
 obtain⟨its,r,⟨o,n,e,_,_,d⟩,_⟩:=I.list h
 obtain⟨its',r',⟨o',n',e',_,_,d'⟩,_⟩:=I.list h'
 rw[e]at e';cases e'
 rw[d]at d'
 injection d' with d1 _
 have:its=its':=by simpa using congrArg Array.toList d1
 subst this
 exact r.inj r'
end
abbrev Cx.kK(X:Cx)(E:Value->Shared->Prop):Cx:={X with xe:=E}
abbrev Cx.zc(X:Cx):Cx:=X.kK λ_ _=>False
theorem Cx.Ok.kK{X:Cx}(ok:X.Ok)(E:Value->Shared->Prop):(X.kK E).Ok:=
 ⟨ok.mod,ok.kind,ok.glob,ok.blt,ok.above,ok.inj,ok.has,ok.cab,ok.hd,ok.frames,ok.stk,ok.exf,ok.bs,ok.bsz,ok.noex,ok.exfs,ok.jy,ok.frf⟩
theorem Cx.Ok.jM{X:Cx}{E:Value->Shared->Prop}(ok:(X.kK E).Ok):X.Ok:=
 ⟨ok.mod,ok.kind,ok.glob,ok.blt,ok.above,ok.inj,ok.has,ok.cab,ok.hd,ok.frames,ok.stk,ok.exf,ok.bs,ok.bsz,ok.noex,ok.exfs,ok.jy,ok.frf⟩
section
variable {X:Cx}{pins:List (Addr×Obj)}{σ:St}{H:Hp}{s:Shared}{E:Value->Shared->Prop}
theorem Inv.kK(I:Inv X pins σ H s)(E:Value->Shared->Prop):Inv (X.kK E) pins σ H s:=⟨I.ok.kK E,I.os,I.bare,I.base,I.loc,I.cell,I.free,I.freeC,I.pin,I.hok,I.len⟩
theorem Inv.jM(I:Inv (X.kK E) pins σ H s):Inv X pins σ H s:=⟨I.ok.jM,I.os,I.bare,I.base,I.loc,I.cell,I.free,I.freeC,I.pin,I.hok,I.len⟩
theorem SP.jM{D:Ends}{f:Flow}{s':Shared}(h:SP (X.kK E) pins D f s'):SP X pins D f s':=by
 cases f with
 | next=>obtain⟨bq,H',I,q⟩:=h;exact⟨bq,H',I.jM,q⟩
 | brk=>obtain⟨bq,H',I,q⟩:=h;exact⟨bq,H',I.jM,q⟩
 | cont=>obtain⟨bq,H',I,q⟩:=h;exact⟨bq,H',I.jM,q⟩
 | ret u=>obtain⟨v,bq,H',I,r,q⟩:=h;exact⟨v,bq,H',I.jM,r,q⟩
theorem kg.zc{st:List Stmt}{t:TS}(h:kg X.zc st t):kg X st t:=λpins s σ H D I hw=>
 YG (h pins s σ H D (I.kK _) hw) (λ_ _ q=>q.jM) λ_ _ z=>False.elim z
end
section
variable {X:Cx}{st:Stmt}{rest:List Stmt}{t u:TS}{e:Expr}{te:TE}{pos:Pos}
def Mg:TS:=λD σ H=>D.nx σ H
def lM(t u:TS):TS:=λD σ H=>t {D with nx:=u D} σ H
theorem br:kg X [] Mg:=λ_ _ σ H _ I h=>ZN ⟨σ,H,I,h⟩
theorem ae(h1:PS X st t)(h2:kg X rest u):kg X (st::rest) (lM t u):=by
 intro pins s σ H D I h
 refine wpAny_execs_cons (aS (h1 pins s σ H {D with nx:=u D} I h) λf s1 q=>?_)
 cases f with
 | next=>
  obtain⟨bq,H',I',q⟩:=q
  exact h2 pins s1 bq H' D I' q
 | ret v=>exact q
 | brk=>exact q
 | cont=>exact q
theorem av(h1:PS X st t):kg X [st] t:=by
 intro pins s σ H D I h
 refine wpAny_execs_cons (aS (h1 pins s σ H D I h) λf s1 q=>?_)
 cases f with
 | next=>exact ZN q
 | ret v=>exact q
 | brk=>exact q
 | cont=>exact q
def Mh:TS:=λD σ H=>D.ct σ H
theorem oC:PS X (.Continue pos) Mh:=λ_ _ σ H _ I h=>wpAny_Continue ⟨σ,H,I,h⟩
theorem Inv.quiet{pins:List (Addr×Obj)}{σ:St}{H:Hp}{s:Shared}(I:Inv X pins σ H s):interactive X.env=false:=by simp[interactive,I.ok.kind]
def yk(te:TE):TS:=λD σ H=>te σ H λ_ H1=>D.nx σ H1
theorem aK(he:PE X e te)(hs:swapsWith e none pos.line X.env=pure false:=by rfl):PS X (.Expr e pos) (yk te):=by
 intro pins s σ H D I h
 exact wpAny_Expr_any (aS (he pins s σ H _ I h) λv s1 ⟨x,H1,I1,r1,q1⟩=>⟨σ,H1,I1,q1⟩) I.quiet hs
def FY(te:TE):TS:=λD σ H=>te σ H D.rt
theorem aY(he:PE X e te):PS X (.Return (some e) pos) (FY te):=by
 intro pins s σ H D I h
 exact wpAny_Return_some (aS (he pins s σ H _ I h) λv s1 ⟨x,H1,I1,r1,q1⟩=>⟨x,σ,H1,I1,r1,q1⟩)
def qR(c:TT)(t u:TS):TS:=λD σ H=>c σ H λb H1=>if b=true then t D σ H1 else u D σ H1
theorem bR{c:Expr}{a b:List Stmt}{tc:TT}(hc:PT X c tc)(ha:kg X a t)(hb:kg X b u):PS X (.If c a b pos) (qR tc t u):=by
 intro pins s σ H D I h
 refine wpAny_If (aS (hc pins s σ H _ I h) λd s1 zq=>?_)
 obtain⟨H1,I1,q1⟩:=zq
 cases d with
 | true=>exact ha pins s1 σ H1 D I1 q1
 | false=>exact hb pins s1 σ H1 D I1 q1
def FZ:TS:=λ_ _ _=>False
theorem sr{Sd:List Stmt} : kg X Sd FZ:=λ_ _ _ _ _ _ h=>h.elim
end
abbrev TG:=V->St->Hp->(St->Hp->Prop)->Prop
abbrev t8:=List V->St->Hp->(St->Hp->Prop)->Prop
def PG(X:Cx)(target:Expr)(t:TG):Prop:=
 ∀(pins:List (Addr×Obj)) (s:Shared) (σ:St) (H:Hp) (v:V) (u:Value) (Q:St->Hp->Prop),Inv X pins σ H s->RelV v u->t v σ H Q->
  wpAny (model X.prog X.w) X.A (assign target X.env u) (λ_ s'=>∃bq H',Inv X pins bq H' s'/\Q bq H') X.xe s
def Dg(X:Cx)(ts:List Expr)(t:t8):Prop:=
 ∀(pins:List (Addr×Obj)) (s:Shared) (σ:St) (H:Hp) (vs:List V) (us:List Value) (Q:St->Hp->Prop),Inv X pins σ H s->Vals vs us->t vs σ H Q->
  wpAny (model X.prog X.w) X.A (assignInOrder ((assignEach ts X.env).map (·.2)) us) (λ_ s'=>∃bq H',Inv X pins bq H' s'/\Q bq H') X.xe s
abbrev Bs:=V->V->V->Hp->(Hp->Prop)->Prop
def F0(X:Cx)(t:Bs):Prop:=
 ∀(pins:List (Addr×Obj)) (s:Shared) (σ:St) (H:Hp) (o i v:V) (ov iv u:Value) (Q:Hp->Prop),Inv X pins σ H s->RelV o ov->RelV i iv->RelV v u->t o i v H Q->
  wpAny (model X.prog X.w) X.A (setItem ov iv u) (λ_ s'=>∃H',Inv X pins σ H' s'/\Q H') X.xe s
abbrev Dh:=V->V->Hp->VK->Prop
def F1(X:Cx)(op:Operator)(t:Dh):Prop:=
 ∀(pins:List (Addr×Obj)) (s:Shared) (σ:St) (H:Hp) (x y:V) (v u:Value) (Q:VK),Inv X pins σ H s->RelV x v->RelV y u->t x y H Q->
  wpAny (model X.prog X.w) X.A (inplaceOp op v u) (EP X pins σ Q) X.xe s
section
variable {X:Cx}{pos:Pos}
def ee(i:Nat):TG:=λv σ H Q=>Q (σ.set i (some v)) H
theorem aL{i:Nat}{x:Str}(hN:X.N.Nodup)(hi:X.N[i]?=some x)(hx:Loc X.env.scope x)(hf:X.fn x=true\/X.env.scope.names.lookup x=some .local:=by first|exact .inl rfl|exact .inr rfl|assumption):PG X (.Name x pos) (ee i):=by
 intro pins s σ H v u Q I r h
 exact wpAny_assign_Name (oX I hN hi hx r (λs' I'=>⟨_,H,I',h⟩) hf)
def F2:t8:=λvs σ H Q=>vs=[]/\Q σ H
def Di(t:TG)(u:t8):t8:=λvs σ H Q=>∃v r,vs=v::r/\t v σ H λbq H'=>u r bq H' Q
theorem nY:Dg X [] F2:=by
 intro pins s σ H vs us Q I r h
 obtain⟨e,h⟩:=h
 subst e
 cases r
 exact assignInOrder_nil ⟨σ,H,I,h⟩
theorem gq{e:Expr}{es:List Expr}{t:TG}{u:t8}(h1:PG X e t)(h2:Dg X es u)
 (hs:(assignEach (e::es) X.env).map (·.2)=assign e X.env::(assignEach es X.env).map (·.2):=by rfl):Dg X (e::es) (Di t u):=by
 intro pins s σ H vs us Q I r h
 obtain⟨v,vr,e1,h⟩:=h
 subst e1
 cases r with
 | cons r rr=>
  rw[hs]
  refine assignInOrder_cons (aS (h1 pins s σ H _ _ _ I r h) λ_ s1 zq=>?_)
  obtain⟨wC,H1,I1,q1⟩:=zq
  exact h2 pins s1 wC H1 _ _ Q I1 rr q1
def F3(K:W.Frag)(n:Nat)(t:t8):TG:=λv σ H Q=>∃a xs,v=.ref a/\jr K H a xs/\xs.length=n/\t xs σ H Q
theorem pU{es:List Expr}{k:Nat}{t:t8}{n:Nat}(hc:X.calm=true)(h:Dg X es t)
 (hn:(assignEach es X.env).length=n:=by rfl) (j1:(assignEach es X.env).findIdx? (·.1)=none:=by rfl):PG X (.Tuple es k pos) (F3 X.K n t):=by
 intro pins s σ H v u Q I r hw
 obtain⟨a,xs,e1,hq,hl,hw⟩:=hw
 subst e1
 cases r
 obtain⟨its,rv,ht,hz⟩:=I.tuple hq
 refine assign_Tuple_tuple (I.ok.hd hc) ht (by simp[hn,← hl,rv.length]) j1 λh' hx=>?_
 have I1:Inv X pins σ H {s with heap:=h'}:=I.kept (t':=s.toks) λb o e=>hx b o (XZ (XR e)) e
 exact h pins _ σ H xs _ Q I1 (by simpa using rv) hw
def P8(to ti:TE)(t:Bs):TG:=λv σ H Q=>to σ H λo H1=>ti σ H1 λi H2=>t o i v H2 λH3=>Q σ H3
theorem c8{o i:Expr}{to ti:TE}{t:Bs}(ho:PE X o to)(hi:PE X i ti)(hs:F0 X t)
 (ha:∀v,assign (.Subscript o i pos) X.env v=(do
  let ov ← holding [v] (eval o X.env)
  let iv ← holding [v,ov] (eval i X.env)
  standAt pos
  holding [v,ov,iv] (setItem ov iv v)
  release [v,ov,iv] []):=by intro _;rfl):PG X (.Subscript o i pos) (P8 to ti t):=by
 intro pins s σ H v u Q I r h
 rw[ha]
 refine Xy (YV (aS (ho pins s σ H _ I h) λov s1 zq=>?_))
 obtain⟨x,H1,I1,r1,q1⟩:=zq
 refine Xy (YV (aS (hi pins s1 σ H1 _ I1 q1) λiv s2 zq=>?_))
 obtain⟨y,H2,I2,r2,q2⟩:=zq
 refine Xy (Z5 (Xy (YV (aS (hs pins s2 σ H2 x y v ov iv u _ I2 r1 r2 r q2) λ_ s3 zq=>?_))))
 obtain⟨H3,I3,q3⟩:=zq
 exact wpAny_release ⟨σ,H3,I3,q3⟩
def qS(te:TE)(g:TG):TS:=λD σ H=>te σ H λx H1=>g x σ H1 D.nx
theorem cY{tg e:Expr}{te:TE}{g:TG}(he:PE X e te)(hg:PG X tg g)(hs:swapsWithSole [tg] e pos.line X.env=pure false:=by rfl)(hw:swappedStores [tg] e X.env=pure none:=by rfl)
 (h1:(assignEach [tg] X.env).map (·.2)=[assign tg X.env]:=by rfl):PS X (.Assign [tg] e pos) (qS te g):=by
 intro pins s σ H D I h
 refine wpAny_Assign_stores (aS (he pins s σ H _ I h) λv s1 ⟨x,H1,I1,r1,q1⟩=>?_) hs hw
 rw[h1]
 exact aS (hg pins s1 σ H1 x v _ I1 r1 q1) λ_ s2 q=>q
theorem t9{i:Nat}{x:Str}{e:Expr}{te:TE}{pos':Pos}(hN:X.N.Nodup)(hi:X.N[i]?=some x)(hx:Loc X.env.scope x)(he:PE X e te) (hs:swapsWith e (some (.Name x pos')) pos.line X.env=pure false:=by rfl) (hf:X.fn x=true\/X.env.scope.names.lookup x=some .local:=by first|exact .inl rfl|exact .inr rfl|assumption) :
 PS X (.Assign [.Name x pos'] e pos) (qS te (ee i)):=by
 intro pins s σ H D I h
 refine wpAny_Assign_Name (aS (he pins s σ H _ I h) λv s1 ⟨y,H1,I1,r1,q1⟩=>?_) hs
 exact oX I1 hN hi hx r1 (λs2 I2=>⟨_,H1,I2,q1⟩) hf
def P9(i:Nat)(te:TE)(ti:Dh):TS:=λD σ H=>∃x,σ[i]?=some (some x)/\te σ H λy H1=>ti x y H1 λz H2=>D.nx (σ.set i (some z)) H2
theorem mQ{i:Nat}{x:Str}{e:Expr}{te:TE}{op:Operator}{ti:Dh}{pos':Pos}(hN:X.N.Nodup)(hi:X.N[i]?=some x)(hx:Loc X.env.scope x)(he:PE X e te)(ho:F1 X op ti)(hf:X.fn x=true\/X.env.scope.names.lookup x=some .local:=by first|exact .inl rfl|exact .inr rfl|assumption) :
 PS X (.AugAssign (.Name x pos') op e pos) (P9 i te ti):=by
 intro pins s σ H D I h
 obtain⟨v,e1,h⟩:=h
 obtain⟨m,hn,hl⟩:=I.loc
 have Se:C6 X.env.scope x:=by rcases hx with k|k;exact .inl k;exact .inr (.inl k)
 obtain⟨u,r,l⟩:=hl i x v hi e1 Se
 refine wpAny_AugAssign_Name ?_
 have go:wpAny (model X.prog X.w) X.A (eval e X.env) (λw oY=>wpAny (model X.prog X.w) X.A (inplaceOp op u w) (λr zd=>wpAny (model X.prog X.w) X.A (storeName X.env x r) (λ_=>SP X pins D .next) X.xe zd) X.xe oY) X.xe s:=by
  refine aS (he pins s σ H _ I h) λw s1 zq=>?_
  obtain⟨y,H1,I1,r1,q1⟩:=zq
  refine aS (ho pins s1 σ H1 v y u w _ I1 r r1 q1) λz s2 zq=>?_
  obtain⟨zv,H2,I2,r2,q2⟩:=zq
  exact oX I2 hN hi hx r2 (λs3 I3=>⟨_,H2,I3,q2⟩) hf
 rcases l with⟨hk,hm⟩|⟨hk,c,hc,tJ⟩
 . exact wpAny_loadName_local I.ok.kind hk hn hm go
 . rcases hk with hk|hk
   . exact wpAny_loadName_cell I.ok.kind hk hc tJ go
   . rcases hx with k|k
     . have:X.env.scope.names.lookup x=some .free:=hk
       rw[k]at this;cases this
     . have:X.env.scope.names.lookup x=some .free:=hk
       rw[k]at this;cases this
def Nb(f:Int->Int->Int):Dh:=λx y H Q=>∃i j,x=.int i/\y=.int j/\Q (.int (f i j)) H
theorem ze:F1 X .Add (Nb λi j=>i+j):=by
 intro pins s σ H x y v u Q I r1 r2 h
 obtain⟨i,j,e1,e2,q⟩:=h
 subst e1;subst e2
 obtain⟨t,rfl⟩:=r1
 obtain⟨t',rfl⟩:=r2
 exact iadd_int ⟨.int _,H,I.tok _,⟨_,rfl⟩,q⟩
theorem ua:F1 X .Sub (Nb λi j=>i-j):=by
 intro pins s σ H x y v u Q I r1 r2 h
 obtain⟨i,j,e1,e2,q⟩:=h
 subst e1;subst e2
 obtain⟨t,rfl⟩:=r1
 obtain⟨t',rfl⟩:=r2
 exact isub_int ⟨.int _,H,I.tok _,⟨_,rfl⟩,q⟩
def zf(c:TT)(tb:TS):TS:=λD σ H=>∃W:Nat->St->Hp->Prop,(∃m,W m σ H)/\∀m σ H,W m σ H->
 c σ H λb H1=>if b=true then ∃N:St->Hp->Prop,(∀bq H',N bq H'->∃m',m'<m/\W m' bq H')/\tb {D with nx:=N,ct:=N,bk:=D.nx} σ H1 else D.nx σ H1
theorem iL{c:Expr}{body:List Stmt}{tc:TT}{tb:TS}(hp:PassesOwn (model X.prog X.w) X.A X.env X.xe) (hc:PT X c tc) (hb:kg X body tb):PS X (.While c body [] pos) (zf tc tb):=by
 intro pins s σ H D I h
 obtain⟨W,⟨m0,w0⟩,turn⟩:=h
 refine wpAny_While (codeAny_whileLoop (λn s'=>∃bq H',Inv X pins bq H' s'/\W n bq H') ?_ m0 ⟨σ,H,I,w0⟩)
 rintro n s1 ⟨wC,H1,I1,w1⟩
 refine Y1 hp (aS (hc pins s1 wC H1 _ I1 (turn n wC H1 w1)) λb s2 zq=>?_)
 obtain⟨H2,I2,q2⟩:=zq
 cases b with
 | true=>
  obtain⟨N,hN,q2⟩:=q2
  rw[XO rfl]
  refine Y1 hp (aS (hb pins s2 wC H2 _ I2 q2) λf s3 q3=>?_)
  cases f with
  | next=>
   obtain⟨ub,H3,I3,n3⟩:=q3
   obtain⟨m',hm,w3⟩:=hN ub H3 n3
   exact⟨m',hm,ub,H3,I3,w3⟩
  | cont=>
   obtain⟨ub,H3,I3,n3⟩:=q3
   obtain⟨m',hm,w3⟩:=hN ub H3 n3
   exact⟨m',hm,ub,H3,I3,w3⟩
  | brk=>exact q3
  | ret v=>exact q3
 | false=>
  rw[XW XM]
  exact ZN ⟨wC,H2,I2,q2⟩
end
structure It where
 go:Nat->Hp->Prop
 yld:Nat->Hp->V->Hp->Prop
 stop:Nat->Hp->Prop
def hJ(X:Cx) (pins:List (Addr×Obj)) (H:Hp) (b:Addr):Prop:=
 H b=none/\b≠X.env.locals/\b∉X.fs/\(b∈X.ex\/X.j5.heap.objs.size<=b)/\(∀x c,X.env.cells.lookup x=some c->c≠b)/\∀p∈X.pn++pins,p.1≠b
theorem Inv.o6{X:Cx}{pins:List (Addr×Obj)}{σ:St}{H H':Hp}{s:Shared}{b:Addr}(I:Inv X pins σ H s) (hb:s.heap.objs.size<=b) (hn:H' b=none):hJ X pins H' b:=by
 refine⟨hn,ZA (Yc I.lt hb),I.PR hb,.inr (XS I.sz hb),λx c e z=>?_,λp hp z=>?_⟩
 . obtain⟨v,q⟩:=I.cell x c e
   exact absurd (Yc q.lt (by rw[z];exact hb)) (YU _)
 . exact absurd (Yc (XR (I.pin p hp).1) (by rw[z];exact hb)) (YU _)
structure Turn(P:Program) (w:World) (K:W.Frag) (tg:Expr) (J:It) (fp:List Addr) (it:Addr) (tn:Nat->Heap->Prop):Prop where
 mem:it∈fp
 obj:∀i h,tn i h->∀b∈fp,∃o,h.get? b=some o/\∀v,o.data≠.cell v
 keep:∀i h h',tn i h->(∀b∈fp,∀o,h.get? b=some o->h'.get? b=some o)->tn i h'
 item:∀(X:Cx),X.prog=P->X.w=w->X.K=K->X.calm=true->∀(i:Nat) (pins:List (Addr×Obj)) (s:Shared) (σ:St) (H:Hp) (E:Value->Shared->Prop),Inv X pins σ H s->(∀b∈fp,hJ X pins H b)->tn i s.heap->J.go i H->
  wpAny (model P w) X.A (pyNext (.ref it)) (λr s1=>∃u,r=some u/\
   wpAny (model P w) X.A (letOwnedTupleGo tg (.ref it) u) (λ_ s2=>∃x H',Inv X pins σ H' s2/\RelV x u/\J.yld i H x H'/\tn (i+1) s2.heap/\∀b∈fp,H' b=none) E s1) E s
 done:∀(X:Cx),X.prog=P->X.w=w->X.K=K->X.calm=true->∀(i:Nat) (pins:List (Addr×Obj)) (s:Shared) (σ:St) (H:Hp) (E:Value->Shared->Prop),Inv X pins σ H s->(∀b∈fp,hJ X pins H b)->tn i s.heap->J.stop i H->
  wpAny (model P w) X.A (pyNext (.ref it)) (λr s1=>r=none/\Inv X pins σ H s1) E s
 self:∀(A:Around) (i:Nat) (s:Shared) (Q:Value->Shared->Prop) (E:Value->Shared->Prop),tn i s.heap->Q (.ref it) s->wpAny (model P w) A (pyIter (.ref it)) Q E s
abbrev TI:=St->Hp->(It->Hp->Prop)->Prop
def Nc(X:Cx) (pins:List (Addr×Obj)) (σ:St) (tg:Expr) (R:It->Hp->Prop) (F4:Value) (s2:Shared):Prop:=
 ∃(it:Addr) (fp:List Addr) (tn:Nat->Heap->Prop) (J:It) (H':Hp),F4=.ref it/\Inv X pins σ H' s2/\Turn X.prog X.w X.K tg J fp it tn/\tn 0 s2.heap/\(∀b∈fp,hJ X pins H' b)/\R J H'
def PI(X:Cx)(tg iter:Expr)(wi:TI):Prop:=
 ∀(pins:List (Addr×Obj)) (s:Shared) (σ:St) (H:Hp) (R:It->Hp->Prop),Inv X pins σ H s->wi σ H R->
  wpAny (model X.prog X.w) X.A (eval iter X.env) (λv s1=>wpAny (model X.prog X.w) X.A (pyIter v) (Nc X pins σ tg R) X.xe s1) X.xe s
theorem tK{M:Model}{A:Around}{E:Value->Shared->Prop}{s:Shared}{tg:Expr}{it:Addr}{u:Value}{o:Obj}{n:String}{vs:Array Value}{Q:Unit->Shared->Prop}(ho:s.heap.get? it=some o)(hc:o.cls=.type n)(hd:o.data=.fields vs)
 (hn:["enumerate", "zip", "dict_itemiterator", "dict_reverseitemiterator", "odict_iterator", "itertools.zip_longest", "itertools.pairwise"].contains n=false) (hQ:Q () s):wpAny M A (letOwnedTupleGo tg (.ref it) u) Q E s:=by
 unfold letOwnedTupleGo
 cases tg <;> first
  | exact X1 hQ
  | (cases u <;> first
      | exact X1 hQ
      | (refine Xy (wpAny_load ho ?_)
         rw[hc,hd]
         show wpAny M A (if (["enumerate", "zip", "dict_itemiterator", "dict_reverseitemiterator", "odict_iterator", "itertools.zip_longest", "itertools.pairwise"].contains n && vs[0]? == some (rawInt _))=true then _ else _) Q E s
         rw[XW (by intro h;rw[hn,Bool.false_and]at h;cases h)]
         exact X1 hQ))
def pV(K:W.Frag)(a:Addr):It:=
 ⟨λi H=>∃xs x,ax K H a xs/\xs[i]?=some x,λi H x H'=>H'=H/\∀xs,ax K H a xs->xs[i]?=some x,λi H=>∃xs,ax K H a xs/\xs.length<=i⟩
def pW(lo:Int)(n:Nat):It:=⟨λi _=>i<n,λi H x H'=>H'=H/\x=.int (lo+i),λi _=>n<=i⟩
theorem zg{P:Program}{w:World}{K:W.Frag}{tg:Expr}(a it:Addr):Turn P w K tg (pV K a) [it] it (λi h=>h.IsListIter it a i) where
 mem:=by simp
 obj:=λi h st b hb=>by
  have e:b=it:=by simpa using hb
  subst e
  obtain⟨o,e,c,d⟩:=st
  exact⟨o,e,λv z=>by rw[d]at z;cases z⟩
 keep:=λi h h' st k=>st.at λo e=>k it (by simp) o e
 item:=by
  intro X hP hw hK hc i pins s σ H E I hf st hg
  subst hP hw hK
  obtain⟨xs,x,hq,hx⟩:=hg
  obtain⟨its,rv,p,hz⟩:=I.list hq
  obtain⟨u,hu,ru⟩:=rv.get hx
  obtain⟨f0,f1,f2,f3,f4,f5⟩:=hf it (by simp)
  refine wpAny_pyNext_list_item st p.isList (x:=u) (by simpa using hu) λh' jN sb=>?_
  have I1:Inv X pins σ H {s with heap:=h'}:=I.turned (t':=s.toks) (λb o hb e=>(sb.2 b hb).trans e) f0 f1 f3 f4 f5
  obtain⟨o,e,c,d⟩:=id jN
  exact⟨u,rfl,tK (s:={s with heap:=h'}) e c d (by decide) ⟨x,H,I1,ru,⟨rfl,λys hy=>by rw[I.t7 hy hq];exact hx⟩,jN,λb hb=>(hf b hb).1⟩⟩
 done:=by
  intro X hP hw hK hc i pins s σ H E I hf st hg
  subst hP hw hK
  obtain⟨xs,hq,hx⟩:=hg
  obtain⟨its,rv,p,hz⟩:=I.list hq
  obtain⟨f0,f1,f2,f3,f4,f5⟩:=hf it (by simp)
  have hl:=rv.length
  exact wpAny_pyNext_list_end (I.ok.hd hc) st p.isList (by simp;omega) λh' eb=>⟨rfl,I.turned (t':=s.toks) (λb o hb e=>eb b o hb e) f0 f1 f3 f4 f5⟩
 self:=λ_ _ _ _ _ st h=>wpAny_pyIter_listiter st h
theorem yl{P:Program}{w:World}{K:W.Frag}{tg:Expr}(it:Addr)(lo:Int)(n:Nat):Turn P w K tg (pW lo n) [it] it (λi h=>IsRangeIter h it (lo+(i:Nat)*1) ((n:Int)-(i:Nat)) 1) where
 mem:=by simp
 obj:=λi h st b hb=>by
  have e:b=it:=by simpa using hb
  subst e
  exact⟨_,st,λv z=>by
   have z':Data.fields _=Data.cell v:=z
   cases z'⟩
 keep:=λi h h' st k=>k it (by simp) _ st
 item:=by
  intro X hP hw hK hc i pins s σ H E I hf st hg
  subst hP hw hK
  obtain⟨f0,f1,f2,f3,f4,f5⟩:=hf it (by simp)
  have W:=Walks.range (prog:=X.prog) (w:=X.w) (I.ok.hd hc) it lo 1 n
  refine W.item i s _ _ hg st λv h' tk hv jN kk=>?_
  obtain⟨t,rfl⟩:=hv
  have I1:Inv X pins σ H {s with heap:=h',toks:=tk}:=I.turned (λb o hb e=>kk b o (by simpa using hb) e) f0 f1 f3 f4 f5
  refine⟨_,rfl,tK (s:={s with heap:=h',toks:=tk}) (n:="range_iterator") jN rfl rfl (by decide) ⟨.int (lo+i),H,I1,⟨t,?_⟩,⟨rfl,rfl⟩,jN,λb hb=>(hf b hb).1⟩⟩
  rw[Int.mul_one]
 done:=by
  intro X hP hw hK hc i pins s σ H E I hf st hg
  subst hP hw hK
  obtain⟨f0,f1,f2,f3,f4,f5⟩:=hf it (by simp)
  exact wpAny_pyNext_range_end (I.ok.hd hc) st (by have:n<=i:=hg;omega) λh' eb=>⟨rfl,I.turned (t':=s.toks) (λb o hb e=>eb b o hb e) f0 f1 f3 f4 f5⟩
 self:=λ_ _ _ _ _ st h=>wpAny_pyIter_rangeiter st h
section
variable {X:Cx}{tg:Expr}
def Mi(K:W.Frag)(tl:TE):TI:=λσ H R=>tl σ H λx H1=>∃a,x=.ref a/\(∃xs,ax K H1 a xs)/\R (pV K a) H1
theorem b7{l:Expr}{tl:TE}(hl:PE X l tl):PI X tg l (Mi X.K tl):=by
 intro pins s σ H R I h
 refine aS (hl pins s σ H _ I h) λv s1 zq=>?_
 obtain⟨x,H1,I1,r1,q1⟩:=zq
 obtain⟨a,e,⟨xs,hq⟩,q⟩:=q1
 subst e
 cases r1
 obtain⟨its,rv,p,hz⟩:=I1.list hq
 refine ZU p.isList ?_
 refine⟨s1.heap.objs.size,[s1.heap.objs.size],_,_,H1,rfl,I1.kept (t':=s1.toks) λb o e=>XC _ e,zg a _,⟨_,Yd _ rfl,rfl,rfl⟩,λb hb=>?_,q⟩
 have e:b=s1.heap.objs.size:=by simpa using hb
 subst e
 exact I1.o6 (Xv _) (I1.hok.fresh (Xv _))
theorem uc{pins:List (Addr×Obj)}{σ:St}{H:Hp}{s:Shared}{R:It->Hp->Prop}{E:Value->Shared->Prop}{lo hi:Int}{t u v:Tok}{tk:Nat}(I:Inv X pins σ H s) (h1 : -(2 ^ 62)<=lo) (h2:lo<2 ^ 62) (h3 : -(2 ^ 62)<=hi) (h4:hi<2 ^ 62)
 (q:R (pW lo (hi-lo).toNat) H):wpAny (model X.prog X.w) X.A (pyIter (.ref s.heap.objs.size)) (Nc X pins σ tg R) E {s with heap:=s.heap.push {cls:=.type "range",data:=.fields #[.int lo t,.int hi u,.int 1 v] },toks:=tk}:=by
 refine wpAny_pyIter_range (IsRange.new ..) (small_one h1 h2 h3 h4) ?_
 have I1:Inv X pins σ H {s with heap:=s.heap.push {cls:=.type "range",data:=.fields #[.int lo t,.int hi u,.int 1 v] },toks:=tk}:=I.kept λb o e=>XC _ e
 refine⟨(s.heap.push {cls:=.type "range",data:=.fields #[.int lo t,.int hi u,.int 1 v] }).objs.size,[(s.heap.push {cls:=.type "range",data:=.fields #[.int lo t,.int hi u,.int 1 v] }).objs.size],_,_,H,rfl,
  I1.kept (t':=tk) λb o e=>XC _ e,yl _ lo (hi-lo).toNat,?_,λb hb=>?_,q⟩
 . have e1:lo+((0:Nat):Int)*1=lo:=by simp
   have e2:(((hi-lo).toNat:Nat):Int)-((0:Nat):Int)=Builtin.Range.rangeSize lo hi 1:=by rw[rangeSize_one];split <;> omega
   show IsRangeIter _ _ (lo+((0:Nat):Int)*1) ((((hi-lo).toNat:Nat):Int)-((0:Nat):Int)) 1
   rw[e1,e2]
   exact Yd _ rfl
 . have e:b=(s.heap.push {cls:=.type "range",data:=.fields #[.int lo t,.int hi u,.int 1 v] }).objs.size:=by simpa using hb
   subst e
   exact I1.o6 (Xv _) (I1.hok.fresh (Xv _))
def Mj(ta:TA):TI:=λσ H R=>ta σ H λvs H1=>∃j:Int,vs=[.int j] /\ -(2 ^ 62)<=j/\j<2 ^ 62/\R (pW 0 j.toNat) H1
def Ml(ta:TA):TI:=λσ H R=>ta σ H λvs H1=>∃i j:Int,vs=[.int i,.int j]/\(-(2 ^ 62)<=i/\i<2 ^ 62 /\ -(2 ^ 62)<=j/\j<2 ^ 62)/\R (pW i (j-i).toNat) H1
theorem hV{a:Expr}{ta:TA}{p pos:Pos}(hg:Gl X "range")(hm:X.mg "range" = none)(ha:PA X [a] ta) (hs:starEach [a] X.env=[(false,eval a X.env)]:=by rfl):PI X tg (.Call (.Name "range" p) [a] [] pos) (Mj ta):=by
 intro pins s σ H R I h
 refine Call_ (jL I hg hm boot_range (Yz (aS (ha pos pins s σ H _ I h) λus s1 ⟨vs,H1,I1,r1,q1⟩=>?_) hs rfl))
 obtain⟨j,e,q1,q2,q⟩:=q1
 subst e
 cases r1 with
 | cons r rr=>
  cases rr
  obtain⟨t,rfl⟩:=r
  exact call_range_1 (uc I1 (by omega) (by omega) q1 q2 (by simpa using q))
theorem zh{a b:Expr}{ta:TA}{p pos:Pos}(hg:Gl X "range")(hm:X.mg "range" = none)(ha:PA X [a,b] ta) (hs:starEach [a,b] X.env=[(false,eval a X.env),(false,eval b X.env)]:=by rfl) (kC:starEach [b] X.env=[(false,eval b X.env)]:=by rfl) :
 PI X tg (.Call (.Name "range" p) [a,b] [] pos) (Ml ta):=by
 intro pins s σ H R I h
 refine Call_ (jL I hg hm boot_range (Yz (aS (ha pos pins s σ H _ I h) λus s1 ⟨vs,H1,I1,r1,q1⟩=>?_) (by rw[hs,kC]) (by rw[kC];rfl)))
 obtain⟨i,j,e,⟨q1,q2,q3,q4⟩,q⟩:=q1
 subst e
 cases r1 with
 | cons r rr=>
  cases rr with
  | cons r' rr=>
   cases rr
   obtain⟨t,rfl⟩:=r
   obtain⟨t',rfl⟩:=r'
   exact call_range_2 (uc I1 q1 q2 q3 q4 q)
def Qa(wi:TI)(g:TG)(tb:TS):TS:=λD σ H=>wi σ H λJ H1=>∃W:Nat->Nat->St->Hp->Prop,(∃m,W 0 m σ H1)/\∀i m σ H,W i m σ H->
 (J.stop i H/\D.nx σ H)\/(J.go i H/\∃N:St->Hp->Prop,(∀bq H',N bq H'->∃m',m'<m/\W (i+1) m' bq H')/\∀x H',J.yld i H x H'->g x σ H' λgr H2=>tb {D with nx:=N,ct:=N,bk:=D.nx} gr H2)
def mR(fp:List Addr)(h:Heap):List (Addr×Obj):=fp.filterMap λb=>(h.get? b).map λo=>(b,o)
theorem jb{fp:List Addr}{h:Heap}{b:Addr}{o:Obj}(hb:b∈fp)(e:h.get? b=some o):(b,o)∈mR fp h:=aaK.mpr ⟨b,hb,by rw[e];rfl⟩
theorem zi{fp:List Addr}{h:Heap}{p:Addr×Obj}(hp:p∈mR fp h):p.1∈fp/\h.get? p.1=some p.2:=by
 obtain⟨b,hb,e⟩:=aaK.mp hp
 cases q:h.get? b with
 | none=>rw[q]at e;cases e
 | some o=>
  rw[q]at e
  have e':(b,o)=p:=Xq e
  subst e'
  exact⟨hb,q⟩
theorem Inv.pinned{pins:List (Addr×Obj)}{σ:St}{H:Hp}{s:Shared}{fp:List Addr}(I:Inv X pins σ H s) (hf:∀b∈fp,hJ X pins H b) (ho:∀b∈fp,∃o,s.heap.get? b=some o/\∀v,o.data≠.cell v):Inv X (pins++mR fp s.heap) σ H s:=
 I.wM λp hp=>(Xp.mp hp).elim (λz=>I.pin p (Xu _ z)) λz=>by
  obtain⟨hb,e⟩:=zi z
  obtain⟨f0,f1,f2,_⟩:=hf p.1 hb
  obtain⟨o,e',d⟩:=ho p.1 hb
  rw[e]at e';cases e'
  exact⟨e,f0,f1,f2,d⟩
theorem Inv.kh{pins pl:List (Addr×Obj)}{σ:St}{H:Hp}{s:Shared}(I:Inv X (pins++pl) σ H s):Inv X pins σ H s:=I.wM λp hp=>I.pin p (Xu _ (XF _ hp))
theorem cJ{iter:Expr}{body:List Stmt}{wi:TI}{g:TG}{tb:TS}{pos:Pos}(hp:PassesOwn (model X.prog X.w) X.A X.env X.xe) (hc:X.calm=true) (hi:PI X tg iter wi) (hg:PG X tg g) (hb:kg X body tb)
 (hs:∀x,foldedSetIterable iter X.env x=pure x:=by intro _;rfl):PS X (.For tg iter body [] pos) (Qa wi g tb):=by
 intro pins s σ H D I h
 refine wpAny_For (aS (hi pins s σ H _ I h) λv s1 h1=>aS h1 λF4 s2 h2=>?_) hs
 obtain⟨it,fp,tn,J,H2,e,I2,T,oE,f2,W,⟨m0,w0⟩,turn⟩:=h2
 subst e
 have Bt:∀{H':Hp},(∀b∈fp,H' b=none)->∀b∈fp,hJ X pins H' b:=λhn b hb=>⟨hn b hb,(f2 b hb).2⟩
 refine codeAny_forLoop_any (λn s'=>∃i bq H',Inv X pins bq H' s'/\tn i s'.heap/\(∀b∈fp,H' b=none)/\W i n bq H') ?_ m0 ⟨0,σ,H2,I2,oE,λb hb=>(f2 b hb).1,w0⟩
 rintro n s3 ⟨i,ub,H3,I3,Nf,wQ,w3⟩
 rcases turn i n ub H3 w3 with⟨stop,qn⟩|⟨go,N,hN,step⟩
 . refine Y1 hp (aS (T.done X rfl rfl rfl hc i pins s3 ub H3 X.xe I3 (Bt wQ) Nf stop) λr s4 ⟨hr,I4⟩=>?_)
   subst hr
   exact ZN ⟨ub,H3,I4,qn⟩
 . refine Y1 hp (aS (T.item X rfl rfl rfl hc i pins s3 ub H3 X.xe I3 (Bt wQ) Nf go) λr s4 zq=>?_)
   obtain⟨u,hr,h4⟩:=zq
   subst hr
   refine Y1 hp (aS h4 λ_ s5 zq=>?_)
   obtain⟨x,H5,I5,r5,y5,wR,Dj⟩:=zq
   have Sf:=I5.pinned (Bt Dj) (T.obj _ _ wR)
   refine Y1 hp (aS (hg _ s5 ub H5 x u _ Sf r5 (step x H5 y5)) λ_ s6 zq=>?_)
   obtain⟨WL,H6,I6,q6⟩:=zq
   refine Y1 hp (aS (hb _ s6 WL H6 _ I6 q6) λf s7 q7=>?_)
   have again:∀{ud:St}{H7:Hp},Inv X (pins++mR fp s5.heap) ud H7 s7->N ud H7->∃m,m<n/\∃i bq H',Inv X pins bq H' s7/\tn i s7.heap/\(∀b∈fp,H' b=none)/\W i m bq H':=λ{ud H7} I7 n7=>by
    obtain⟨m',hm,w7⟩:=hN ud H7 n7
    refine⟨m',hm,i+1,ud,H7,I7.kh,T.keep _ _ _ wR λb hb o e=>(I7.pin (b,o) (Xu _ (Xu _ (jb hb e)))).1,λb hb=>?_,w7⟩
    obtain⟨o,e,d⟩:=T.obj _ _ wR b hb
    exact(I7.pin (b,o) (Xu _ (Xu _ (jb hb e)))).2.1
   cases f with
   | next=>obtain⟨ud,H7,I7,n7⟩:=q7;exact again I7 n7
   | cont=>obtain⟨ud,H7,I7,n7⟩:=q7;exact again I7 n7
   | brk=>obtain⟨ud,H7,I7,q7⟩:=q7;exact⟨ud,H7,I7.kh,q7⟩
   | ret v=>obtain⟨x7,ud,H7,I7,r7,q7⟩:=q7;exact⟨x7,ud,H7,I7.kh,r7,q7⟩
end
theorem dh{K:W.Frag}{a:Addr}{xs:List V}{g:TG}{tb:TS}{D:Ends}{σ:St}{H:Hp}(Pv:Nat->St->Hp->Prop)(h0:Pv 0 σ H)(hl:∀i σ H,i<=xs.length->Pv i σ H->ax K H a xs)
 (hs:∀i x σ H,xs[i]?=some x->Pv i σ H->g x σ H λgr H2=>tb {D with nx:=Pv (i+1),ct:=Pv (i+1),bk:=D.nx} gr H2) (hd:∀σ H,Pv xs.length σ H->D.nx σ H) :
 ∃W:Nat->Nat->St->Hp->Prop,(∃m,W 0 m σ H)/\∀i m σ H,W i m σ H->
  ((pV K a).stop i H/\D.nx σ H)\/((pV K a).go i H/\∃N:St->Hp->Prop,(∀bq H',N bq H'->∃m',m'<m/\W (i+1) m' bq H')/\∀x H',(pV K a).yld i H x H'->g x σ H' λgr H2=>tb {D with nx:=N,ct:=N,bk:=D.nx} gr H2):=by
 refine⟨λi m σ H=>m=xs.length-i/\i<=xs.length/\Pv i σ H,⟨xs.length,by simp,Yi _,h0⟩,?_⟩
 rintro i m σ H ⟨rfl,hi,p⟩
 have q:=hl i σ H hi p
 by_cases eF:i<xs.length
 . refine .inr ⟨⟨xs,xs[i],q,by simp[eF]⟩,Pv (i+1),λbq H' p'=>⟨xs.length-(i+1),by omega,rfl,eF,p'⟩,λx H' y=>?_⟩
   obtain⟨e,y⟩:=y
   subst e
   exact hs i x σ _ (y xs q) p
 . have e:i=xs.length:=by omega
   subst e
   exact .inl ⟨⟨xs,q,Xv _⟩,hd σ H p⟩
theorem jO{lo:Int}{n:Nat}{g:TG}{tb:TS}{D:Ends}{σ:St}{H:Hp}(Pv:Nat->St->Hp->Prop)(h0:Pv 0 σ H)
 (hs:∀i σ H,i<n->Pv i σ H->g (.int (lo+i)) σ H λgr H2=>tb {D with nx:=Pv (i+1),ct:=Pv (i+1),bk:=D.nx} gr H2) (hd:∀σ H,Pv n σ H->D.nx σ H) :
 ∃W:Nat->Nat->St->Hp->Prop,(∃m,W 0 m σ H)/\∀i m σ H,W i m σ H->
  ((pW lo n).stop i H/\D.nx σ H)\/((pW lo n).go i H/\∃N:St->Hp->Prop,(∀bq H',N bq H'->∃m',m'<m/\W (i+1) m' bq H')/\∀x H',(pW lo n).yld i H x H'->g x σ H' λgr H2=>tb {D with nx:=N,ct:=N,bk:=D.nx} gr H2):=by
 refine⟨λi m σ H=>m=n-i/\i<=n/\Pv i σ H,⟨n,by simp,Yi _,h0⟩,?_⟩
 rintro i m σ H ⟨rfl,hi,p⟩
 by_cases eF:i<n
 . refine .inr ⟨eF,Pv (i+1),λbq H' p'=>⟨n-(i+1),by omega,rfl,eF,p'⟩,λx H' y=>?_⟩
   obtain⟨e,y⟩:=y
   subst e y
   exact hs i σ _ eF p
 . have e:i=n:=by omega
   subst e
   exact .inl ⟨Xv _,hd σ H p⟩
abbrev R2:=V->V->Hp->VK->Prop
def jt(X:Cx)(f:Value->Value->Sem Value)(r:R2):Prop:=
 ∀(pins:List (Addr×Obj)) (s:Shared) (σ:St) (H:Hp) (x y:V) (v u:Value) (Q:VK),Inv X pins σ H s->RelV x v->RelV y u->r x y H Q->
  wpAny (model X.prog X.w) X.A (f v u) (EP X pins σ Q) X.xe s
def F5(X:Cx)(f:Value->Sem Value)(r:V->Hp->VK->Prop):Prop:=
 ∀(pins:List (Addr×Obj)) (s:Shared) (σ:St) (H:Hp) (x:V) (v:Value) (Q:VK),Inv X pins σ H s->RelV x v->r x H Q->
  wpAny (model X.prog X.w) X.A (f v) (EP X pins σ Q) X.xe s
def ir(X:Cx)(f:Value)(r:List V->Hp->VK->Prop):Prop:=
 ∀(pins:List (Addr×Obj)) (s:Shared) (σ:St) (H:Hp) (xs:List V) (us:List Value) (Q:VK),Inv X pins σ H s->Vals xs us->r xs H Q->
  wpAny (model X.prog X.w) X.A (call f us) (EP X pins σ Q) X.xe s
def oF(r:R2)(ta tb:TE):TE:=λσ H Q=>ta σ H λx H1=>tb σ H1 λy H2=>r x y H2 Q
def Ng(r:V->Hp->VK->Prop)(ta:TE):TE:=λσ H Q=>ta σ H λx H1=>r x H1 Q
def rI(C:Int->Int->Prop)(g:Int->Int->V):R2:=λx y H Q=>∃i j,x=.int i/\y=.int j/\C i j/\Q (g i j) H
def wU(g:Int->Int->V):R2:=λx y H Q=>∃i j,x=.int i/\y=.int j/\Q (g i j) H
def rU(g:Int->V):V->Hp->VK->Prop:=λx H Q=>∃i,x=.int i/\Q (g i) H
section
variable {X:Cx}{a b c:Expr}{ta tb tc:TE}{pos:Pos}
theorem Bu(ha:PE X a ta)(hb:PE X b tb){pins:List (Addr×Obj)}{s:Shared}{σ:St}{H:Hp}{R:V->V->Hp->Prop}(I:Inv X pins σ H s)
 (h:ta σ H λx H1=>tb σ H1 λy H2=>R x y H2){Q:Value->Shared->Prop}{f:Value->Value->Sem Value}
 (hf:∀v u s2 x y H2,Inv X pins σ H2 s2->RelV x v->RelV y u->R x y H2->wpAny (model X.prog X.w) X.A (f v u) Q X.xe s2) :
 wpAny (model X.prog X.w) X.A (eval a X.env) (λv dQ=>wpAny (model X.prog X.w) X.A (eval b X.env) (λu oY=>wpAny (model X.prog X.w) X.A (f v u) Q X.xe oY) X.xe dQ) X.xe s:=by
 refine aS (ha pins s σ H _ I h) λv s1 zq=>?_
 obtain⟨x,H1,I1,r1,q1⟩:=zq
 refine aS (hb pins s1 σ H1 _ I1 q1) λu s2 zq=>?_
 obtain⟨y,H2,I2,r2,q2⟩:=zq
 exact hf v u s2 x y H2 I2 r1 r2 q2
theorem aV{op:Operator}{r:R2}(ho:jt X (binaryOp op) r) (ha:PE X a ta) (hb:PE X b tb):PE X (.BinOp a op b pos) (oF r ta tb):=by
 intro pins s σ H Q I h
 exact wpAny_BinOp (Bu ha hb I h λv u s2 x y H2 I2 rx ry q=>ho pins s2 σ H2 x y v u Q I2 rx ry q)
theorem f7{op:UnaryOp}{r:V->Hp->VK->Prop}(ho:F5 X (unaryOp op) r) (ha:PE X a ta):PE X (.UnaryOp op a pos) (Ng r ta):=by
 intro pins s σ H Q I h
 exact UnaryOp_ (aS (ha pins s σ H _ I h) λv s1 ⟨x,H1,I1,r1,q1⟩=>ho pins s1 σ H1 x v Q I1 r1 q1)
theorem F6{f:Value->Value->Sem Value}{C:Int->Int->Prop}{g:Int->Int->Int}
 (rule:∀(i j:Int) (t u:Tok) (s:Shared) (Q:Value->Shared->Prop) (E:Value->Shared->Prop),C i j->Q (.int (g i j) s.toks) {s with toks:=s.toks+1} -> wpAny (model X.prog X.w) X.A (f (.int i t) (.int j u)) Q E s) :
 jt X f (rI C λi j=>.int (g i j)):=by
 intro pins s σ H x y v u Q I rx ry h
 obtain⟨i,j,rfl,rfl,hc,q⟩:=h
 obtain⟨t,rfl⟩:=rx
 obtain⟨t',rfl⟩:=ry
 exact rule i j t t' s _ _ hc ⟨.int (g i j),H,I.tok _,⟨_,rfl⟩,q⟩
theorem F7{f:Value->Value->Sem Value}{g:Int->Int->Int}
 (rule:∀(i j:Int) (t u:Tok) (s:Shared) (Q:Value->Shared->Prop) (E:Value->Shared->Prop),Q (.int (g i j) s.toks) {s with toks:=s.toks+1} -> wpAny (model X.prog X.w) X.A (f (.int i t) (.int j u)) Q E s) :
 jt X f (wU λi j=>.int (g i j)):=by
 intro pins s σ H x y v u Q I rx ry h
 obtain⟨i,j,rfl,rfl,q⟩:=h
 obtain⟨t,rfl⟩:=rx
 obtain⟨t',rfl⟩:=ry
 exact rule i j t t' s _ _ ⟨.int (g i j),H,I.tok _,⟨_,rfl⟩,q⟩
theorem F8{f:Value->Value->Sem Value}{g:Int->Int->Bool}
 (rule:∀(i j:Int) (t u:Tok) (s:Shared) (Q:Value->Shared->Prop) (E:Value->Shared->Prop),Q (.bool (g i j)) s->wpAny (model X.prog X.w) X.A (f (.int i t) (.int j u)) Q E s) :
 jt X f (wU λi j=>.bl (g i j)):=by
 intro pins s σ H x y v u Q I rx ry h
 obtain⟨i,j,rfl,rfl,q⟩:=h
 obtain⟨t,rfl⟩:=rx
 obtain⟨t',rfl⟩:=ry
 exact rule i j t t' s _ _ ⟨.bl (g i j),H,I,rfl,q⟩
def Qb(i j:Int):Prop:=0<j/\j<1073741824
def Bv(i j:Int):Prop:=(-(2 ^ 64)<i/\i<2 ^ 64)\/(-(2 ^ 64)<j/\j<2 ^ 64)
theorem Bv.ok{i j:Int}(h:Bv i j):IntMulOk i j:=by
 rcases h with⟨h1,h2⟩|⟨h1,h2⟩
 . exact .of_left (intBits_le_64 h1 h2)
 . exact .of_right (intBits_le_64 h1 h2)
theorem fq:jt X (binaryOp .Add) (wU λi j=>.int (i+j)):=F7 λ_ _ _ _ _ _ _ q=>add_int q
theorem kT:jt X (binaryOp .Sub) (wU λi j=>.int (i-j)):=F7 λ_ _ _ _ _ _ _ q=>sub_int q
theorem ft:jt X (binaryOp .Mult) (rI Bv λi j=>.int (i*j)):=F6 λ_ _ _ _ _ _ _ hc q=>mul_int q hc.ok
theorem wV:jt X (binaryOp .FloorDiv) (rI Qb λi j=>.int (i / j)):=F6 λi j _ _ _ _ _ hc q=>by
 have h1:(0:Int)<j:=hc.1
 have h2:j<1073741824:=hc.2
 exact floordiv_int (by omega) (by rw[Int.fdiv_eq_ediv_of_nonneg i (by omega)];exact q) (.inl (PyProof.noPylong_small (by omega)))
theorem mV:jt X (binaryOp .Mod) (rI (λ_ j=>0<j) λi j=>.int (i % j)):=F6 λi j _ _ _ _ _ hc q=>by
 have h1:(0:Int)<j:=hc
 exact mod_int' (by omega) (by rw[Int.fmod_eq_emod_of_nonneg i (by omega)];exact q)
theorem Sg{f:Value->Sem Value}{g:Int->Int}
 (rule:∀(i:Int) (t:Tok) (s:Shared) (Q:Value->Shared->Prop) (E:Value->Shared->Prop),Q (.int (g i) s.toks) {s with toks:=s.toks+1} -> wpAny (model X.prog X.w) X.A (f (.int i t)) Q E s) :
 F5 X f (rU λi=>.int (g i)):=by
 intro pins s σ H x v Q I rx h
 obtain⟨i,rfl,q⟩:=h
 obtain⟨t,rfl⟩:=rx
 exact rule i t s _ _ ⟨.int (g i),H,I.tok _,⟨_,rfl⟩,q⟩
theorem eQ:F5 X (unaryOp .USub) (rU λi=>.int (-i)):=Sg λ_ _ _ _ _ q=>neg_int q
end
def Ga:V->V->Bool
 | .bb,.bb=>true | .bb,.int _=>true | .int _,.bb=>true | .bb,.bl _=>true | .bl _,.bb=>true | .bb,.str _=>true | .str _,.bb=>true
 | .int _,.int _=>true | .bl _,.bl _=>true | .str _,.str _=>true | .kR _,.kR _=>true
 | .int _,.str _=>true | .str _,.int _=>true | .bl _,.str _=>true | .str _,.bl _=>true
 | _,_=>false
def Sh:R2:=λx y H Q=>Ga x y=true/\Q (.bl (decide (x=y))) H
def Si:R2:=λx y H Q=>Ga x y=true/\Q (.bl (!decide (x=y))) H
theorem wW{i j:Int} : decide (V.int i=V.int j)=(i == j):=by
 rw[Za]
 simp
theorem zj{i j:Bool} : decide (V.bl i=V.bl j)=(i == j):=by
 rw[Za]
 simp
theorem wX{i j:Str} : decide (V.str i=V.str j)=(i == j):=by
 rw[Za]
 simp
theorem wY{i j:Array UInt8} : decide (V.kR i=V.kR j)=(i.toList == j.toList):=by
 rw[Za]
 cases i
 cases j
 simp
section
variable {X:Cx}{a b c:Expr}{ta tb tc:TE}{pos:Pos}
theorem bZ{pins:List (Addr×Obj)}{σ:St}{H:Hp}{s:Shared}{Q:VK}{k k':Bool}(I:Inv X pins σ H s) (q:Q (.bl k) H) (e:k=k'):EP X pins σ Q (.bool k') s:=by
 subst e
 exact⟨.bl k,H,I,rfl,q⟩
theorem Mm:jt X (compareOp .Eq) Sh:=by
 intro pins s σ H x y v u Q I rx ry h
 obtain⟨hs,q⟩:=h
 cases x with
 | bb=>
  cases rx
  cases y with
  | bb=>cases ry;exact PySem.EqNone.eq_none_none (bZ I q (by simp))
  | bl j=>cases ry;exact PySem.EqNone.eq_none_bool (bZ I q (by simp))
  | int j=>obtain⟨t',rfl⟩:=ry;exact PySem.EqNone.eq_none_int (bZ I q (by simp))
  | str j=>obtain⟨t',rfl⟩:=ry;exact PySem.EqNone.eq_none_str (bZ I q (by simp))
  | _=>exact absurd (show false=true from hs) XM
 | bl i=>
  cases rx
  cases y with
  | bb=>cases ry;exact PySem.EqNone.eq_bool_none (bZ I q (by simp))
  | bl j=>cases ry;exact eq_bool (bZ I q zj)
  | str j=>obtain⟨t',rfl⟩:=ry;exact PySem.EqMixed.eq_bool_str (bZ I q (by simp))
  | _=>exact absurd (show false=true from hs) XM
 | int i=>
  obtain⟨t,rfl⟩:=rx
  cases y with
  | bb=>cases ry;exact PySem.EqNone.eq_int_none (bZ I q (by simp))
  | int j=>obtain⟨t',rfl⟩:=ry;exact eq_int (bZ I q wW)
  | str j=>obtain⟨t',rfl⟩:=ry;exact PySem.EqMixed.eq_int_str (bZ I q (by simp))
  | _=>exact absurd (show false=true from hs) XM
 | str i=>
  obtain⟨t,rfl⟩:=rx
  cases y with
  | bb=>cases ry;exact PySem.EqNone.eq_str_none (bZ I q (by simp))
  | bl j=>cases ry;exact PySem.EqMixed.eq_str_bool (bZ I q (by simp))
  | int j=>obtain⟨t',rfl⟩:=ry;exact PySem.EqMixed.eq_str_int (bZ I q (by simp))
  | str j=>obtain⟨t',rfl⟩:=ry;exact eq_str (bZ I q wX)
  | _=>exact absurd (show false=true from hs) XM
 | kR i=>
  obtain⟨t,rfl⟩:=rx
  cases y with
  | kR j=>obtain⟨t',rfl⟩:=ry;exact W.eq_bytes (bZ I q wY)
  | _=>exact absurd (show false=true from hs) XM
 | _=>cases y <;> exact absurd (show false=true from hs) XM
theorem Mn:jt X (compareOp .NotEq) Si:=by
 intro pins s σ H x y v u Q I rx ry h
 obtain⟨hs,q⟩:=h
 cases x with
 | bb=>
  cases rx
  cases y with
  | bb=>cases ry;exact PySem.EqNone.ne_none_none (bZ I q (by simp))
  | bl j=>cases ry;exact PySem.EqNone.ne_none_bool (bZ I q (by simp))
  | int j=>obtain⟨t',rfl⟩:=ry;exact PySem.EqNone.ne_none_int (bZ I q (by simp))
  | str j=>obtain⟨t',rfl⟩:=ry;exact PySem.EqNone.ne_none_str (bZ I q (by simp))
  | _=>exact absurd (show false=true from hs) XM
 | bl i=>
  cases rx
  cases y with
  | bb=>cases ry;exact PySem.EqNone.ne_bool_none (bZ I q (by simp))
  | bl j=>cases ry;exact ne_bool (bZ I q (congrArg not zj))
  | str j=>obtain⟨t',rfl⟩:=ry;exact PySem.EqMixed.ne_bool_str (bZ I q (by simp))
  | _=>exact absurd (show false=true from hs) XM
 | int i=>
  obtain⟨t,rfl⟩:=rx
  cases y with
  | bb=>cases ry;exact PySem.EqNone.ne_int_none (bZ I q (by simp))
  | int j=>obtain⟨t',rfl⟩:=ry;exact ne_int (bZ I q (congrArg not wW))
  | str j=>obtain⟨t',rfl⟩:=ry;exact PySem.EqMixed.ne_int_str (bZ I q (by simp))
  | _=>exact absurd (show false=true from hs) XM
 | str i=>
  obtain⟨t,rfl⟩:=rx
  cases y with
  | bb=>cases ry;exact PySem.EqNone.ne_str_none (bZ I q (by simp))
  | bl j=>cases ry;exact PySem.EqMixed.ne_str_bool (bZ I q (by simp))
  | int j=>obtain⟨t',rfl⟩:=ry;exact PySem.EqMixed.ne_str_int (bZ I q (by simp))
  | str j=>obtain⟨t',rfl⟩:=ry;exact ne_str (bZ I q (congrArg not wX))
  | _=>exact absurd (show false=true from hs) XM
 | kR i=>
  obtain⟨t,rfl⟩:=rx
  cases y with
  | kR j=>obtain⟨t',rfl⟩:=ry;exact W.ne_bytes (bZ I q (congrArg not wY))
  | _=>exact absurd (show false=true from hs) XM
 | _=>cases y <;> exact absurd (show false=true from hs) XM
theorem Mo:jt X (compareOp .Lt) (wU λi j=>.bl (decide (i<j))):=F8 λ_ _ _ _ _ _ _ q=>lt_int q
theorem Mp:jt X (compareOp .Gt) (wU λi j=>.bl (decide (j<i))):=F8 λ_ _ _ _ _ _ _ q=>gt_int q
theorem pX(b:Expr){op:CmpOp}(h:op≠.In:=by decide)(h2:op≠.NotIn:=by decide):behindInMarks op b=false:=by
 have e1:(op == CmpOp.In)=false:=by cases op <;> first|rfl|exact absurd rfl h
 have e2:(op == CmpOp.NotIn)=false:=by cases op <;> first|rfl|exact absurd rfl h2
 cases b <;> simp[behindInMarks,e1,e2]
theorem Es{op:CmpOp}{r:R2}(ho:jt X (compareOp op) r) (ha:PE X a ta) (hb:PE X b tb) (hm:behindInMarks op b=false):PE X (.Compare a [op] [b] pos) (oF r ta tb):=by
 intro pins s σ H Q I h
 exact wpAny_Compare1 (Bu ha hb I h λv u s2 x y H2 I2 rx ry q=>ho pins s2 σ H2 x y v u Q I2 rx ry q) hm
def Mq(t:TE):TT:=λσ H Q=>t σ H λx H'=>∃k,x=.bl k/\Q k H'
theorem jz{op:CmpOp}{r:R2}(ho:jt X (compareOp op) r) (ha:PE X a ta) (hb:PE X b tb) (hm:behindInMarks op b=false):PT X (.Compare a [op] [b] pos) (Mq (oF r ta tb)):=by
 intro pins s σ H Q I h
 refine wpAny_isTrue_Compare1 (aS (ha pins s σ H _ I h) λv s1 ⟨x,H1,I1,r1,q1⟩=>aS (hb pins s1 σ H1 _ I1 q1) λu s2 ⟨y,H2,I2,r2,q2⟩=>
  aS (ho pins s2 σ H2 x y v u _ I2 r1 r2 q2) λc s3 ⟨z,H3,I3,r3,k,e,q3⟩=>?_) hm
 subst e
 cases r3
 exact Zx ⟨H3,I3,q3⟩
theorem pY:(sizeLine:Nat)<2 ^ 63:=by rw[YX];decide
theorem vals1{x:V}{us:List Value}(r:Vals [x] us):∃u,us=[u]/\RelV x u:=by
 cases r with
 | cons r1 r2=>cases r2;exact⟨_,rfl,r1⟩
theorem vals2{x y:V}{us:List Value}(r:Vals [x,y] us):∃u w',us=[u,w']/\RelV x u/\RelV y w':=by
 cases r with
 | cons r1 r2=>
  cases r2 with
  | cons r3 r4=>cases r4;exact⟨_,_,rfl,r1,r3⟩
theorem c6:ir X (.builtin "abs") (λxs H Q=>∃i,xs=[.int i]/\Q (.int (if i<0 then -i else i)) H):=by
 intro pins s σ H xs us Q I r h
 obtain⟨i,rfl,q⟩:=h
 obtain⟨u,rfl,t,rfl⟩:=vals1 r
 exact call_abs_int λu tk=>⟨.int (if i<0 then -i else i),H,I.tok _,⟨_,rfl⟩,q⟩
theorem su:ir X (.type "int") (λxs H Q=>(∃i,xs=[.int i]/\Q (.int i) H)\/∃k,xs=[.bl k]/\Q (.int (if k then 1 else 0)) H):=by
 intro pins s σ H xs us Q I r h
 rcases h with⟨i,rfl,q⟩|⟨k,rfl,q⟩
 . obtain⟨u,rfl,t,rfl⟩:=vals1 r
   exact call_int_int ⟨.int i,H,I,⟨_,rfl⟩,q⟩
 . obtain⟨u,rfl,r1⟩:=vals1 r
   cases r1
   exact call_int_bool ⟨.int (if k then 1 else 0),H,I.tok _,⟨_,rfl⟩,q⟩
end
structure o7(h:Heap) (x dx C:Addr) (mA:Str->Option Value):Prop where
 obj:h.get? x=some (W.instObj C dx)
 ns:h.Ns1 dx mA
 ne:dx≠x
theorem zk{h:Heap}{dx:Addr}{mA:Str->Option Value}(n:h.Ns1 dx mA):∃od,h.get? dx=some od/\∀name,W.lookIn name od=some (mA name):=by
 obtain⟨o,es,ep,ho,hd,hk,_,hm⟩:=n
 refine⟨o,ho,λname=>?_⟩
 have e:=hm name
 unfold nsFind findBy at e
 rw[← Array.find?_toList]at e
 unfold W.lookIn
 rw[hd]
 dsimp only
 split
 . rename_i y q
   rw[q]at e
   exact congrArg some e
 . rename_i q
   rw[q]at e
   have a:es.toList.any (·.refKey)=false:=by
    rw[List.any_eq_false]
    intro y hy
    obtain⟨z,t,yo⟩:=hk y (Array.mem_toList_iff.mp hy)
    simp[DictEntry.refKey,yo]
   have a':¬ es.toList.any (·.refKey)=true:=by rw[a];exact XM
   rw[XW a']
   exact congrArg some e
theorem o7.look{h:Heap}{x dx C:Addr}{mA:Str->Option Value}(I:o7 h x dx C mA):∃od,W.InstAt h x (W.instObj C dx) C (some od)/\∀name,W.lookIn name od=some (mA name):=
 let ⟨od,ho,hl⟩:=zk I.ns
 ⟨od,⟨I.obj,rfl,rfl,ho⟩,hl⟩
section
variable {prog:Program}{w:World}{A:Around}{E:Value->Shared->Prop}{s:Shared}{K:W.Frag}{x dx C f:Addr}{mA:Str->Option Value}{name:Str}{v:Value}
theorem get_map{expr:Bool}{Q:Value->Shared->Prop}(X:K.In s.heap)(I:o7 s.heap x dx C mA)(hg:W.plainGet K C name=true)(hh:W.hasDictIn K C=true)
 (ha:W.findIn K (.ref C) name=some none) (hv:mA name=some v) (Dk:W.handedIn v=true) (h:Q v {s with toks:=s.toks+1}) :
 wpAny (model prog w) A (getAttr (.ref x) name expr) Q E s:=by
 obtain⟨od,J,hl⟩:=I.look
 exact W.get_value X J (ZI hg).1 (W.findObj_own hh ha rfl (by rw[hl,hv])) Dk h
theorem Bw{pl:Sem Bool}{Q:Value×List Value->Shared->Prop}(X:K.In s.heap)(I:o7 s.heap x dx C mA)(hg:W.plainGet K C name=true)
 (hf:W.findIn K (.ref C) name=some (some (.ref f))) (ht:W.isFn K (.ref f)=true) (hv:mA name=none) (h:Q (.ref f,[.ref x]) s) :
 wpAny (model prog w) A (getMethod (.ref x) name pl) Q E s:=by
 obtain⟨od,J,hl⟩:=I.look
 exact W.method_fn X J (ZI hg).1 (ZI hg).2 hf (ZL.mp ht) (by show (W.lookIn name od).map (·.isSome)=some false;rw[hl,hv];rfl) h
theorem Et{ns:List Str}{Q:Unit->Shared->Prop}(X:K.In s.heap)(I:o7 s.heap x dx C mA)
 (hs:W.findIn K (.ref C) "__setattr__" = some (some (.builtin "object.__setattr__"))) (hp:W.plainOver K C=true) (ht:W.takerIn K C name=some none) (hh:W.hasDictIn K C=true)
 (hw:PySem.Within mA ns) (hsz:ns.length<=sizeLine)
 (h:∀h',o7 h' x dx C (λy=>if y=name then some v else mA y)->Heap.SameBut dx s.heap h'->Q () {s with heap:=h',toks:=s.toks+2}) :
 wpAny (model prog w) A (setAttr (.ref x) name v) Q E s:=by
 obtain⟨od,J,hl⟩:=I.look
 refine W.set_plain X J hs (W.osa_open (s:={s with toks:=s.toks+1}) (r:=none) X J hp ht λb=>?_)
 obtain⟨cd,hc,hd'⟩:=W.any_some hh
 have hx:s.heap.get? x=some ⟨.ref C,some dx,.plain,#[]⟩:=I.obj
 refine Xy (X1 (Xy (Xy (wpAny_loadPart hx (Xy (W.Looks.here (s:={s with toks:=s.toks+1}) (W.looks_clsIn X hc) ?_))))))
 rw[hd']
 refine X1 (a:=some dx) (Xy (X1 (Xy ?_)))
 refine wpAny_nsSet1 (s:={s with toks:=s.toks+1}) I.ns λh' Dl kC=>?_
 obtain⟨oD,WW,WX,Sj,Sk,Sm⟩:=Dl.count (PySem.Within.cons name v hw)
 refine Xy (wpAny_lookBehind Sj (by rw[Sk];exact pastItsLine_dict (XS Sm (by rw[X0];omega))) ?_)
 exact X1 (h _ ⟨(kC.2 _ (YF I.ne)).trans I.obj,Dl,I.ne⟩ kC)
theorem Bx{R:Result->Shared->Prop}{vs:List Value}{kw:List (Str×Value)}(X:K.In s.heap) (hm:W.makesIn K C=true)
 (hi:W.findIn K (.ref C) "__init__" = some (some (.ref f))) (hf:W.typeIn K (.ref f)=some (.type "function"))
 (h:codeAny (model prog w) (A.under (.builtin "type.__call__" ⟨.ref C::vs,kw⟩)) (.call (.ref f) ⟨.ref (s.heap.objs.size+1)::vs,kw⟩) (W.InitBack (s.heap.objs.size+1) R)
  {s with heap:=(s.heap.push W.emptyDict).push (W.instObj C s.heap.objs.size)}) :
 codeAny (model prog w) A (.call (.ref C) ⟨vs,kw⟩) R s:=by
 obtain⟨hh,g,d,t,os⟩:=s
 exact W.make_core (W.makes_of X hm) (W.looks_findIn X hi) (λself=>W.bind_fn X self hf) (.inl rfl) h
end
def eM(f:Str)(v:V):List (Str×V)->List (Str×V)
 | []=>[(f,v)]
 | (g,x)::r=>if g=f then (g,v)::r else (g,x)::eM f v r
theorem oG(f g:Str)(v:V):∀fs:List (Str×V),(eM f v fs).lookup g=if g=f then some v else fs.lookup g
 | []=>by
  show List.lookup g [(f,v)]=_
  by_cases h:g=f
  . have hb:(g == f)=true:=ZL.mpr h
    simp only[List.lookup,hb,XO h]
  . have hb:(g == f)=false:=Yx.mpr h
    simp only[List.lookup,hb,XW h]
 | (k,x)::r=>by
  have ih:=oG f g v r
  rw[show eM f v ((k,x)::r)=(if k=f then (k,v)::r else (k,x)::eM f v r) from rfl]
  by_cases hk:k=f
  . rw[XO hk]
    by_cases h:g=k
    . have hb:(g == k)=true:=ZL.mpr h
      simp only[List.lookup,hb,XO (h.trans hk)]
    . have hb:(g == k)=false:=Yx.mpr h
      simp only[List.lookup,hb,XW (λe:g=f=>h (e.trans hk.symm))]
  . rw[XW hk]
    by_cases h:g=k
    . have hb:(g == k)=true:=ZL.mpr h
      simp only[List.lookup,hb,XW (λe:g=f=>hk (h.symm.trans e))]
    . have hb:(g == k)=false:=Yx.mpr h
      simp only[List.lookup,hb]
      exact ih
theorem mX(f:Str)(v:V):∀fs:List (Str×V),f∈(eM f v fs).map (·.1)/\∀g,g∈fs.map (·.1)->g∈(eM f v fs).map (·.1)
 | []=>⟨by simp[eM],λg h=>by simp at h⟩
 | (k,x)::r=>by
  obtain⟨i1,i2⟩:=mX f v r
  rw[show eM f v ((k,x)::r)=(if k=f then (k,v)::r else (k,x)::eM f v r) from rfl]
  by_cases hk:k=f
  . rw[XO hk]
    subst hk
    exact⟨by simp,λg h=>by simpa using h⟩
  . rw[XW hk]
    refine⟨?_,λg h=>?_⟩
    . rw[XQ]
      exact XA _ i1
    . rw[XQ]at h ⊢
      rcases XI.mp h with e|e
      . exact XI.mpr (.inl e)
      . exact XA _ (i2 g e)
theorem oH(f:Str)(v:V):∀fs:List (Str×V),(eM f v fs).length<=fs.length+1
 | []=>by simp[eM]
 | (k,x)::r=>by
  have ih:=oH f v r
  rw[show eM f v ((k,x)::r)=(if k=f then (k,v)::r else (k,x)::eM f v r) from rfl]
  by_cases hk:k=f
  . rw[XO hk,X0,X0];omega
  . rw[XW hk,X0,X0];omega
theorem gZ.some_of{v:V}{o:Option Value}(r:gZ (some v) o):∃u,o=some u/\RelV v u:=by
 cases o with
 | none=>exact(show False from r).elim
 | some u=>exact⟨u,rfl,r⟩
theorem gZ.none_of{o:Option Value}(r:gZ none o):o=none:=by
 cases o with
 | none=>rfl
 | some u=>exact(show False from r).elim
theorem zm{v:V}{u:Value}(r:RelV v u):W.handedIn u=true:=by
 cases v with
 | bb=>cases(show u=Value.none from r);rfl
 | bl b=>cases(show u=Value.bool b from r);rfl
 | int i=>obtain⟨t,e⟩:=(show ∃t,u=Value.int i t from r);cases e;rfl
 | str x=>obtain⟨t,e⟩:=(show ∃t,u=Value.str x t from r);cases e;rfl
 | kR b=>obtain⟨t,e⟩:=(show ∃t,u=Value.bytes b t from r);cases e;rfl
 | y1 b=>obtain⟨t,e⟩:=(show ∃t,u=Value.float b t from r);cases e;rfl
 | ref a=>cases(show u=Value.ref a from r);rfl
 | ty n=>cases(show u=Value.type n from r);rfl
section
variable {P:Program}{w:World}{H H':Hp}{h h':Heap}{a C dx:Addr}{fs wK:List (Str×V)}
theorem nZ(hok:fg P w H h) (e:H a=some (.ins C dx fs)):∃mA,o7 h a dx C mA/\(∀f,gZ (fs.lookup f) (mA f))/\PySem.Within mA (fs.map (·.1))/\fs.length<=1000/\H dx=some (.own a):=by
 obtain⟨d,z,ne,ob,mA,n,r,q⟩:=(show cI P w H h a (.ins C dx fs) from hok a _ e)
 exact⟨mA,⟨ob,n,ne⟩,r,q,z,d⟩
end
structure iB(K:W.Frag) (C:Addr):Prop where
 pg:W.plainGet K C Str.empty=true
 hd:W.hasDictIn K C=true
 po:W.plainOver K C=true
 sa:W.findIn K (.ref C) "__setattr__" = some (some (.builtin "object.__setattr__"))
theorem iB.get{K:W.Frag}{C:Addr}(c:iB K C)(f:Str):W.plainGet K C f=true:=c.pg
def aH(K:W.Frag)(C:Addr)(f:Str):Prop:=W.findIn K (.ref C) f=some none
theorem aH.Mr{K:W.Frag}{C:Addr}{f:Str}(n:aH K C f):W.takerIn K C f=some none:=by
 unfold W.takerIn
 rw[show W.findIn K (.ref C) f=some none from n]
 rfl
structure Meth(K:W.Frag) (C:Addr) (m:Str) (f:Addr):Prop where
 at_:W.findIn K (.ref C) m=some (some (.ref f))
 fn:W.isFn K (.ref f)=true
 kp:W.keepIn K (.ref f)=true
section
variable {X:Cx}{pins:List (Addr×Obj)}{σ:St}{H:Hp}{s:Shared}{a C dx:Addr}{fs:List (Str×V)}{f:Str}{v:V}{A:Around}{E:Value->Shared->Prop}
theorem pZ{b:Bool}{Q:Value->Shared->Prop}(I:Inv X pins σ H s) (e:H a=some (.ins C dx fs)) (c:iB X.K C) (n:aH X.K C f) (l:fs.lookup f=some v)
 (h:∀u s',Inv X pins σ H s'->RelV v u->Q u s'):wpAny (model X.prog X.w) A (getAttr (.ref a) f b) Q E s:=by
 obtain⟨mA,O,r,_,_,_⟩:=nZ I.hok e
 obtain⟨u,hu,ru⟩:=gZ.some_of (v:=v) (o:=mA f) (by rw[← l];exact r f)
 exact get_map I.jo O (c.get f) c.hd n hu (zm ru) (h u _ (I.tok _) ru)
theorem lN{m:Str}{g:Addr}{pl:Sem Bool}{Q:Value×List Value->Shared->Prop}(I:Inv X pins σ H s) (e:H a=some (.ins C dx fs)) (c:iB X.K C) (k:Meth X.K C m g) (l:fs.lookup m=none)
 (h:Q (.ref g,[.ref a]) s):wpAny (model X.prog X.w) A (getMethod (.ref a) m pl) Q E s:=by
 obtain⟨mA,O,r,_,_,_⟩:=nZ I.hok e
 have hn:mA m=none:=gZ.none_of (by rw[← l];exact r m)
 exact Bw I.jo O (c.get m) k.at_ k.fn hn h
theorem qa{y:V}{u:Value}{Q:Unit->Shared->Prop}(I:Inv X pins σ H s) (e:H a=some (.ins C dx fs)) (c:iB X.K C) (n:aH X.K C f) (hl:fs.length<1000) (ry:RelV y u)
 (h:∀s',Inv X pins σ (upd H a (.ins C dx (eM f y fs))) s'->Q () s'):wpAny (model X.prog X.w) A (setAttr (.ref a) f u) Q E s:=by
 obtain⟨mA,O,r,wi,_,ho⟩:=nZ I.hok e
 have hz:(fs.map (·.1)).length<=sizeLine:=by rw[Xl,YX];omega
 refine Et I.jo O c.sa c.po n.Mr c.hd wi hz λh' O' sb=>h _ ?_
 have hd:∃o,h'.get? dx=some o:=let ⟨o,_,_,e',_⟩:=O'.ns; ⟨o,e'⟩
 refine I.write (x:=a) (e:=dx) (by rw[e];exact True.intro) (.inr ho) (λb q hb z=>(sb.2 b hb).trans z) hd ?_
 refine⟨by rw[ag O.ne];exact ho,?_,O.ne,O'.obj,_,O'.ns,λg=>?_,λg hg=>?_⟩
 . have:=oH f y fs;omega
 . show gZ ((eM f y fs).lookup g) (if g=f then some u else mA g)
   rw[oG]
   by_cases q:g=f
   . rw[XO q,XO q];exact ry
   . rw[XW q,XW q];exact r g
 . by_cases q:g=f
   . rw[q];exact(mX f y fs).1
   . refine(mX f y fs).2 g (wi g λz=>hg ?_)
     show (if g=f then some u else mA g)=none
     rw[XW q];exact z
theorem Inv.made(I:Inv X pins σ H s):Inv X pins σ (upd (upd H s.heap.objs.size (.own (s.heap.objs.size+1))) (s.heap.objs.size+1) (.ins C s.heap.objs.size []))
 {s with heap:=(s.heap.push W.emptyDict).push (W.instObj C s.heap.objs.size)}:=by
 have e1:(s.heap.push W.emptyDict).get? s.heap.objs.size=some W.emptyDict:=Yd s.heap rfl
 have e2:((s.heap.push W.emptyDict).push (W.instObj C s.heap.objs.size)).get? (s.heap.objs.size+1)=some (W.instObj C s.heap.objs.size):=by
  have:=Yd (s.heap.push W.emptyDict) (o:=W.instObj C s.heap.objs.size) rfl
  rwa[aaz]at this
 have e3:(s.heap.push W.emptyDict).Ns s.heap.objs.size (λ_=>none):=⟨W.emptyDict,#[],_,e1,rfl,(λe he=>absurd he (by simp)),λ_=>rfl⟩
 have I1:=I.laid (a:=s.heap.objs.size) (o:=.own (s.heap.objs.size+1)) (h':=s.heap.push W.emptyDict) (t':=s.toks) (λb u q=>XC _ q) (Xv _) ⟨_,e1⟩
 refine I1.laid (a:=s.heap.objs.size+1) (o:=.ins C s.heap.objs.size []) (t':=s.toks) (λb u q=>XC _ q) (Zb (aaz _ _)) ?_
 have ne:s.heap.objs.size≠s.heap.objs.size+1:=XZ (YE _)
 refine⟨by rw[ag ne,aj],Yi _,ne,e2,λ_=>none,(Heap.Ns1.of_empty e3).at λo q=>XC _ q,λ_=>True.intro,λy hy=>absurd rfl hy⟩
theorem wZ{prog:Program}{w:World}{env:Env}{e:Expr}{f:Str}{pos:Pos}{s:Shared}{Q:Value->Shared->Prop}(hb:attributeBase e f env (eval e env)=eval e env)
 (h:wpAny (model prog w) A (eval e env) (λo dQ=>wpAny (model prog w) A (getAttr o f true) Q E dQ) E s):wpAny (model prog w) A (eval (.Attribute e f pos) env) Q E s:=
 Attribute_any_ h (by rw[arm_eval_Attribute,hb])
end
def o8(K:W.Frag)(ta:TE)(f:Str):TE:=λσ H Q=>ta σ H λx H1=>∃a C dx fs v,x=.ref a/\H1 a=some (.ins C dx fs)/\iB K C/\aH K C f/\fs.lookup f=some v/\Q v H1
def Gb(K:W.Frag)(ta tv:TE)(f:Str):TS:=λD σ H=>tv σ H λy H1=>ta σ H1 λx H2=>∃a C dx fs,x=.ref a/\H2 a=some (.ins C dx fs)/\iB K C/\aH K C f/\fs.length<1000/\
 D.nx σ (upd H2 a (.ins C dx (eM f y fs)))
def By(X:Cx)(op:Operator)(rd:V->V->Hp->VK->Prop):Prop:=
 ∀(pins:List (Addr×Obj)) (s:Shared) (σ:St) (H:Hp) (x y:V) (u v:Value) (Q:VK),Inv X pins σ H s->RelV x u->RelV y v->rd x y H Q->wpAny (model X.prog X.w) X.A (inplaceOp op u v) (EP X pins σ Q) X.xe s
def Eu(K:W.Frag)(ta tv:TE)(rd:V->V->Hp->VK->Prop)(f:Str):TS:=λD σ H=>ta σ H λx H1=>∃a C dx fs v,x=.ref a/\H1 a=some (.ins C dx fs)/\iB K C/\aH K C f/\fs.lookup f=some v/\
 tv σ H1 λy H2=>rd v y H2 λz H3=>∃Gd wK,H3 a=some (.ins C Gd wK)/\wK.length<1000/\D.nx σ (upd H3 a (.ins C Gd (eM f z wK)))
section
variable {X:Cx}{o e value:Expr}{f:Str}{pos pos' Ge:Pos}{ta tv:TE}
theorem aw(he:PE X e ta) (hb:attributeBase e f X.env (eval e X.env)=eval e X.env):PE X (.Attribute e f pos) (o8 X.K ta f):=by
 intro pins s σ H Q I h
 refine wZ hb (aS (he pins s σ H _ I h) λu s1 zq=>?_)
 obtain⟨x,H1,I1,rx,a,C,dx,fs,v,ex,ea,c,n,l,q⟩:=zq
 subst ex
 obtain rfl:u=Value.ref a:=rx
 exact pZ I1 ea c n l λu' s2 I2 ru=>⟨v,H1,I2,ru,q⟩
theorem bu(ha:PE X o ta)(hv:PE X value tv) (hs:swapsWith value (some (.Attribute o f pos')) pos.line X.env=pure false):PS X (.Assign [.Attribute o f pos'] value pos) (Gb X.K ta tv f):=by
 intro pins s σ H D I h
 refine plainObj_wpAny_Assign_Attribute (aS (hv pins s σ H _ I h) λu s1 ⟨y,H1,I1,ry,q⟩=>aS (ha pins s1 σ H1 _ I1 q) λov s2 ⟨x,H2,I2,rx,a,C,dx,fs,ex,ea,c,n,l,q2⟩=>?_) hs
 subst ex
 obtain rfl:ov=Value.ref a:=rx
 exact qa I2 ea c n l ry λs3 I3=>⟨σ,_,I3,q2⟩
theorem mY{op:Operator}{rd:V->V->Hp->VK->Prop}(ha:PE X o ta)(hv:PE X value tv)(So:By X op rd):PS X (.AugAssign (.Attribute o f Ge) op value pos) (Eu X.K ta tv rd f):=by
 intro pins s σ H D I h
 refine wpAny_AugAssign_AttributeAny (aS (ha pins s σ H _ I h) λov s1 zq=>?_)
 obtain⟨x,H1,I1,rx,a,C,dx,fs,v,ex,ea,c,n,l,q⟩:=zq
 subst ex
 obtain rfl:ov=Value.ref a:=rx
 refine pZ I1 ea c n l λu s2 I2 ru=>aS (hv pins s2 σ H1 _ I2 q) λw3 s3 ⟨y,H2,I3,ry,q3⟩=>aS (So pins s3 σ H2 v y u w3 _ I3 ru ry q3) λw4 s4 zq=>?_
 obtain⟨z,H3,I4,rz,Gd,wK,Sq,l',q4⟩:=zq
 exact qa I4 Sq c n l' rz λs5 I5=>⟨σ,_,I5,q4⟩
def Qc:V->V->Hp->VK->Prop:=λx y H Q=>∃i j,x=.int i/\y=.int j/\Q (.int (i+j)) H
def Qd:V->V->Hp->VK->Prop:=λx y H Q=>∃i j,x=.int i/\y=.int j/\Q (.int (i-j)) H
theorem zo:By X .Add Qc:=by
 rintro pins s σ H x y u v Q I rx ry ⟨i,j,rfl,rfl,q⟩
 obtain⟨t,rfl⟩:=(show ∃t,u=Value.int i t from rx)
 obtain⟨t',rfl⟩:=(show ∃t',v=Value.int j t' from ry)
 exact PyProof.Rows.iadd_int ⟨.int (i+j),H,I.tok _,⟨_,rfl⟩,q⟩
theorem Gf:By X .Sub Qd:=by
 rintro pins s σ H x y u v Q I rx ry ⟨i,j,rfl,rfl,q⟩
 obtain⟨t,rfl⟩:=(show ∃t,u=Value.int i t from rx)
 obtain⟨t',rfl⟩:=(show ∃t',v=Value.int j t' from ry)
 exact PyProof.Rows.isub_int ⟨.int (i-j),H,I.tok _,⟨_,rfl⟩,q⟩
theorem Md{pl:Sem Bool}{m:Str}{apos:Pos}{args:List Expr}{pins:List (Addr×Obj)}{s:Shared}{σ:St}{H:Hp}{Q:Value->Shared->Prop}{te:TE}(he:PE X e te) (I:Inv X pins σ H s)
 (h:te σ H λx H1=>∃a C dx fs g,x=.ref a/\H1 a=some (.ins C dx fs)/\iB X.K C/\Meth X.K C m g/\fs.lookup m=none/\
  ∀s1,Inv X pins σ H1 s1->wpAny (model X.prog X.w) X.A (callWith pos (.ref g) [.ref a] (backTo pos (starEach args X.env)) (backToKw pos (keywordEach [] X.env))) Q X.xe s1)
 (ht:eval (.Call (.Attribute e m apos) args [] pos) X.env=(do
  let ov ← eval e X.env
  standAt apos.atName
  let (f,first) ← holding [ov] (getMethod ov m pl)
  callWith pos f first (backTo pos (starEach args X.env)) (backToKw pos (keywordEach [] X.env)))) :
 wpAny (model X.prog X.w) X.A (eval (.Call (.Attribute e m apos) args [] pos) X.env) Q X.xe s:=by
 refine aag (pl:=pl) (aS (he pins s σ H _ I h) λu s1 ⟨x,H1,I1,rx,a,C,dx,fs,g,ex,ea,c,k,l,q⟩=>?_) ht
 subst ex
 obtain rfl:u=Value.ref a:=rx
 exact lN I1 ea c k l (q s1 I1)
end
section
variable {X:Cx}{pins:List (Addr×Obj)}{σ:St}{H:Hp}{s:Shared}{A:Around}{E:Value->Shared->Prop}{Q:Value->Shared->Prop}{c:Value}{b:Bool}
end
structure bx(k:Nat) (A:Around):Prop where
 hd:A.handled=none
 dp:A.depth+3*k+5<recursionLimit
 un:A.units+16*k+200<cLine
theorem bx.mono{j k:Nat}{A:Around}(r:bx k A)(h:j<=k):bx j A:=⟨r.hd,by have:=r.dp;omega,by have:=r.un;omega⟩
theorem bx.deeper{k:Nat}{A:Around}(r:bx (k+1) A) (env:Env):bx k (A.deeper env):=
 ⟨r.hd,by have:=r.dp;show A.depth+1+3*k+5<_;omega,by have:=r.un;show A.units+3+16*k+200<_;omega⟩
theorem bx.in1{k:Nat}{A:Around}(r:bx (k+1) A):bx k A.in1:=
 ⟨r.hd,by have:=r.dp;show A.depth+3*k+5<_;omega,by have:=r.un;show A.units+1+16*k+200<_;omega⟩
theorem yp{A:Around}{C:Addr}{us:List Value}{kw:List (Str×Value)} : (A.under (.builtin "type.__call__" ⟨.ref C::us,kw⟩)).depth=A.depth+1:=by
 first|rfl|simp[Around.under,Code.weight,Code.isCreation,Code.isGuard,Code.isCaller,Code.frames,Code.isFrame,guardIds]
theorem yr{A:Around}{C:Addr}{us:List Value}{kw:List (Str×Value)} : (A.under (.builtin "type.__call__" ⟨.ref C::us,kw⟩)).units=A.units+1:=by
 first|rfl|simp[Around.under,Code.cUnits,Code.frames,Code.isFrame]
theorem bx.make{k:Nat}{A:Around}(r:bx (k+1) A) (C:Addr) (us:List Value) (kw:List (Str×Value)):bx k (A.under (.builtin "type.__call__" ⟨.ref C::us,kw⟩)):=
 ⟨r.hd,by have:=r.dp;rw[yp];omega,by have:=r.un;rw[yr];omega⟩
theorem bx.depth{k:Nat}{A:Around}(r:bx k A):A.depth<recursionLimit:=by have:=r.dp;omega
theorem bx.units{k:Nat}{A:Around}(r:bx k A):A.units+64<cLine:=by have:=r.un;omega
def lO:TA:=λ_ H Q=>Q [] H
def n0(ta:TE)(tr:TA):TA:=λσ H Q=>ta σ H λx H1=>tr σ H1 λxs H2=>Q (x::xs) H2
section
variable {X:Cx}{e:Expr}{es:List Expr}{te:TE}{t:TA}{pos:Pos}
theorem ak:PA X [] lO:=λ_ _ _ _ H Q I h=>Calls.spliced_nil ⟨[],H,I,.nil,h⟩
theorem aa(ha:PE X e te)(hr:PA X es t) (hs:starEach (e::es) X.env=(false,eval e X.env)::starEach es X.env:=by rfl):PA X (e::es) (n0 te t):=by
 intro pos pins s σ H Q I h
 rw[hs]
 show wpAny _ _ (spliced ((false,eval e X.env)::backTo pos (starEach es X.env))) _ _ s
 refine Calls.spliced_cons (aS (ha pins s σ H _ I h) λu s1 zq=>?_)
 obtain⟨x,H1,I1,r1,q1⟩:=zq
 exact aS (hr pos pins s1 σ H1 _ I1 q1) λus s2 ⟨xs,H2,I2,r2,q2⟩=>⟨x::xs,H2,I2,.cons r1 r2,q2⟩
def Qe(t:TA):TE:=λσ H Q=>t σ H λxs H1=>xs.length<=sizeLine/\∀p,H1 p=none->Q (.ref p) (upd H1 p (.tup xs))
def Bz(t:TA):TE:=λσ H Q=>t σ H λxs H1=>xs.length<=sizeLine/\∀p,H1 p=none->Q (.ref p) (upd H1 p (.lst xs))
theorem gy{x1} (h:PA X es t):PE X (.Tuple es x1 pos) (Qe t):=by
 intro pins s σ H Q I hq
 refine wpAny_Tuple_spliced (aS (h pos pins s σ H _ I hq) λus s1 ⟨xs,H1,I1,r,z,q⟩=>⟨by rw[← r.length];exact z,?_⟩)
 have hf:H1 s1.heap.objs.size=none:=I1.hok.fresh (Xv _)
 refine⟨.ref s1.heap.objs.size,upd H1 s1.heap.objs.size (.tup xs),I1.laid (t':=s1.toks) (λb u e=>XC _ e) (Xv _) ?_,rfl,q _ hf⟩
 exact⟨z,us,r,⟨_,Yd _ rfl,rfl,_,rfl⟩⟩
theorem bj(h:PA X es t):PE X (.List es pos) (Bz t):=by
 intro pins s σ H Q I hq
 refine wpAny_List_spliced (aS (h pos pins s σ H _ I hq) λus s1 ⟨xs,H1,I1,r,z,q⟩=>⟨by rw[← r.length];exact z,?_⟩)
 have hf:H1 s1.heap.objs.size=none:=I1.hok.fresh (Xv _)
 refine⟨.ref s1.heap.objs.size,upd H1 s1.heap.objs.size (.lst xs),I1.laid (t':=s1.toks) (λb u e=>XC _ e) (Xv _) ?_,rfl,q _ hf⟩
 exact⟨z,us,0,r,Yd _ rfl⟩
end
abbrev Sp:=List V->Hp->VK->XK->Prop
abbrev mZ:=List Env->Hp->Shared->XK->Value->Shared->Prop
structure ki(P:Program) (w:World) (K:W.Frag) (mg:Str->Option Value) (base:Heap) (A:Around) (outer:List Env) (s:Shared) (H:Hp):Prop where
 frames:A.frames=some outer
 mod:Mod K mg base
 bs:∀b o,base.get? b=some o->s.heap.get? b=some o/\H b=none
 bsz:base.objs.size<=s.heap.objs.size
 jy:s.heap.FunFrames base outer
 frf:∀b∈mi outer,H b=none
 hok:fg P w H s.heap
 bare:AllBare s.gens
def CE(outer:List Env)(P:Program)(w:World)(H:Hp)(s:Shared)(Q:VK)(u:Value)(s':Shared):Prop:=
 ∃v H',s'.os=s.os/\AllBare s'.gens/\Un (mi outer) [] H H' s.heap s'.heap/\fg P w H' s'.heap/\RelV v u/\Q v H'
def CR(CX:mZ)(outer:List Env)(P:Program)(w:World)(H:Hp)(s:Shared)(Q:VK)(E:XK)(r:Result)(s':Shared):Prop:=
 match r with
 | .ok (.ret u)=>CE outer P w H s Q u s'
 | .ok _=>False
 | .error e=>CX outer H s E e s'
structure aD(P:Program) (w:World) (K:W.Frag) (mg:Str->Option Value) (base:Heap) (CX:mZ) (k:Nat) (f:Addr) (fd:FuncData) (ps:List Str) (sp:Sp):Prop where
 len:∀vs H Q E,sp vs H Q E->vs.length=ps.length
 run:∀(A:Around) (outer:List Env) (s:Shared) (H:Hp) (args:Args) (us:List Value) (vs:List V) (Q:VK) (E:XK),bx k A->ki P w K mg base A outer s H->BindsTo s fd args (ps.zip us)->Vals vs us->sp vs H Q E->
  codeAny (model P w) A (.call (.ref f) args) (CR CX outer P w H s Q E) s
theorem ki.make{P:Program}{w:World}{K:W.Frag}{mg:Str->Option Value}{base:Heap}{A:Around}{outer:List Env}{s:Shared}{H:Hp}(e:ki P w K mg base A outer s H)(C:Addr)(us:List Value) (kw:List (Str×Value)) :
 ki P w K mg base (A.under (.builtin "type.__call__" ⟨.ref C::us,kw⟩)) outer s H:=⟨by first|exact e.frames|(simpa[Around.under,Code.envs,Code.isFrame,pushEnvs]using e.frames),e.mod,e.bs,e.bsz,e.jy,e.frf,e.hok,e.bare⟩
theorem ki.in1{P:Program}{w:World}{K:W.Frag}{mg:Str->Option Value}{base:Heap}{A:Around}{outer:List Env}{s:Shared}{H:Hp}(e:ki P w K mg base A outer s H) :
 ki P w K mg base A.in1 outer s H:=⟨e.frames,e.mod,e.bs,e.bsz,e.jy,e.frf,e.hok,e.bare⟩
section
variable {X:Cx}{pins:List (Addr×Obj)}{σ:St}{H:Hp}{s s':Shared}
theorem Inv.BA(I:Inv X pins σ H s):ki X.prog X.w X.K X.mg X.base X.A X.stack s H:=
 ⟨I.ok.frames,I.ok.mod,I.bs,XS I.ok.bsz I.sz,I.stack,I.wL,I.hok,I.bare⟩
theorem Inv.after{Q:VK}{u:Value}(I:Inv X pins σ H s)(h:CE X.stack X.prog X.w H s Q u s'):EP X pins σ Q u s':=by
 obtain⟨v,H',os,bare,un,hok,r,q⟩:=h
 obtain⟨hh,g,d,t,Sr⟩:=s'
 obtain rfl:Sr=s.os:=os
 exact⟨v,H',I.call (h':=hh) (g':=g) (d':=d) (t':=t) (ch:=[]) un hok bare (λb z=>absurd z (by simp)),r,q⟩
end
def Dm(sp:Sp)(hW:List V)(E:XK)(t:TA):TE:=λσ H Q=>t σ H λvs H1=>sp (vs++hW) H1 Q E
def qb(C:Addr)(m:Str)(sp:Sp)(hW:List V)(E:XK)(ta:TE)(t:TA):TE:=λσ H Q=>ta σ H λx H1=>∃a dx fs,x=.ref a/\H1 a=some (.ins C dx fs)/\fs.lookup m=none/\
 t σ H1 λvs H2=>sp (x::(vs++hW)) H2 Q E
def Dn(C:Addr)(sp:Sp)(hW:List V)(E:XK)(t:TA):TE:=λσ H Q=>t σ H λvs H1=>∀x dx,H1 x=none->H1 dx=none->dx≠x->
 sp (.ref x::(vs++hW)) (upd (upd H1 dx (.own x)) x (.ins C dx [])) (λv H2=>v=.bb/\Q (.ref x) H2) E
def Binds(K:W.Frag)(fd:FuncData)(ps:List Str)(ds:List Value):Prop:=
 ∀(s:Shared) (us:List Value),K.In s.heap->(us++ds).length=ps.length->BindsTo s fd ⟨us,[]⟩ (ps.zip (us++ds))
theorem Binds.all{K:W.Frag}{fd:FuncData}{ps:List Str}(h:∀us:List Value,us.length=ps.length->bindArgs fd ⟨us,[]⟩=pure (ps.zip us)):Binds K fd ps []:=λs us _ hl=>by
 rw[Yl]at hl ⊢
 exact .of_eq (h us hl)
def Passes(CX:mZ)(X:Cx)(E:XK):Prop:=∀(pins:List (Addr×Obj)) (σ:St) (H:Hp) (s:Shared) (e:Value) (s':Shared),Inv X pins σ H s->CX X.stack H s E e s'->X.xe e s'
section
variable {X:Cx}{CX:mZ}{k:Nat}{f C:Addr}{fd:FuncData}{ps:List Str}{sp:Sp}{hW:List V}{ds:List Value}{E:XK}{x m:Str}{p pos apos:Pos}{e o:Expr}{es:List Expr}{ta:TE}{t:TA}
theorem ue{pins:List (Addr×Obj)}{σ:St}{H:Hp}{s:Shared}{Q:VK}{us:List Value}{vs:List V}(F:aD X.prog X.w X.K X.mg X.base CX k f fd ps sp) (hr:bx k X.A) (hb:Binds X.K fd ps ds) (hd:Vals hW ds) (hx:Passes CX X E)
 (I:Inv X pins σ H s) (r:Vals vs us) (h:sp (vs++hW) H Q E):wpAny (model X.prog X.w) X.A (call (.ref f) us) (EP X pins σ Q) X.xe s:=by
 have r2:Vals (vs++hW) (us++ds):=r.append hd
 have hl:(us++ds).length=ps.length:=by rw[← r2.length];exact F.len _ _ _ _ h
 refine aaS (ZR (F.run X.A X.stack s H ⟨us,[]⟩ (us++ds) (vs++hW) Q E hr I.BA (hb s us I.jo hl) r2 h) λr s' hq=>?_)
 cases r with
 | error e=>exact hx pins σ H s e s' I hq
 | ok fl=>
  cases fl with
  | ret u=>exact I.after hq
  | next=>exact False.elim hq
  | brk=>exact False.elim hq
  | cont=>exact False.elim hq
theorem Ew(F:aD X.prog X.w X.K X.mg X.base CX k f fd ps sp)(hr:bx k X.A)(hg:Gl X x) (hm:X.mg x=some (.ref f)) (hk:W.keepIn X.K (.ref f)=true) (hb:Binds X.K fd ps ds) (hd:Vals hW ds) (hx:Passes CX X E)
 (ha:PA X (e::es) t) (m7:(x == ("__debug__" : Str))=false:=by decide) (he:starEach (e::es) X.env=(false,eval e X.env)::starEach es X.env:=by rfl) (gi:(backTo pos (starEach es X.env)).any (·.1)=false:=by rfl) :
 PE X (.Call (.Name x p) (e::es) [] pos) (Dm sp hW E t):=by
 intro pins s σ H Q I h
 refine YH (nW I hg hm ?_ m7)
 refine W.callWith_K (h₀:=X.base) I.ok.mod.kin hk (aS (ha pos pins s σ H _ I h) λus s1 ⟨vs,H1,I1,r,q⟩=>⟨I1.jo,?_⟩) he gi
 exact ue F hr hb hd hx I1 r q
theorem Ex{pl:Sem Bool}(he:PE X o ta)(c:iB X.K C)(hm:Meth X.K C m f)(F:aD X.prog X.w X.K X.mg X.base CX k f fd ps sp)(hr:bx k X.A)(hb:Binds X.K fd ps ds)(hd:Vals hW ds)(hx:Passes CX X E) (ha:PA X (e::es) t)
 (j1:starEach (e::es) X.env=(false,eval e X.env)::starEach es X.env:=by rfl) (gi:(backTo pos (starEach es X.env)).any (·.1)=false:=by rfl)
 (ht:eval (.Call (.Attribute o m apos) (e::es) [] pos) X.env=(do
  let ov ← eval o X.env
  standAt apos.atName
  let (f,first) ← holding [ov] (getMethod ov m pl)
  callWith pos f first (backTo pos (starEach (e::es) X.env)) (backToKw pos (keywordEach [] X.env))):=by rfl) :
 PE X (.Call (.Attribute o m apos) (e::es) [] pos) (qb C m sp hW E ta t):=by
 intro pins s σ H Q I h
 refine aag (pl:=pl) (aS (he pins s σ H _ I h) λu s1 ⟨x,H1,I1,rx,a,dx,fs,ex,ea,l,q⟩=>?_) ht
 subst ex
 obtain rfl:u=Value.ref a:=rx
 refine lN I1 ea c hm l ?_
 refine W.callWith_K (first:=[.ref a]) (h₀:=X.base) I.ok.mod.kin hm.kp (aS (ha pos pins s1 σ H1 _ I1 q) λus s2 ⟨vs,H2,I2,r,q2⟩=>⟨I2.jo,?_⟩) j1 gi
 exact ue (us:=.ref a::us) (vs:=.ref a::vs) F hr hb hd hx I2 (.cons rfl r) q2
theorem jA{pl:Sem Bool}(he:PE X o ta)(c:iB X.K C)(hm:Meth X.K C m f)(F:aD X.prog X.w X.K X.mg X.base CX k f fd ps sp)(hr:bx k X.A)(hb:Binds X.K fd ps ds)(hd:Vals hW ds)(hx:Passes CX X E)
 (ht:eval (.Call (.Attribute o m apos) [] [] pos) X.env=(do
  let ov ← eval o X.env
  standAt apos.atName
  let (f,first) ← holding [ov] (getMethod ov m pl)
  callWith pos f first (backTo pos (starEach [] X.env)) (backToKw pos (keywordEach [] X.env))):=by rfl) :
 PE X (.Call (.Attribute o m apos) [] [] pos) (qb C m sp hW E ta lO):=by
 intro pins s σ H Q I h
 refine aag (pl:=pl) (aS (he pins s σ H _ I h) λu s1 ⟨x,H1,I1,rx,a,dx,fs,ex,ea,l,q⟩=>?_) ht
 subst ex
 obtain rfl:u=Value.ref a:=rx
 refine lN I1 ea c hm l ?_
 exact W.callWith_K0 (first:=[.ref a]) I1.jo hm.kp (ue (us:=[.ref a]) (vs:=[.ref a]) F hr hb hd hx I1 (.cons rfl .nil) q)
structure Mk(K:W.Frag) (C f:Addr):Prop where
 makes:W.makesIn K C=true
 init:W.findIn K (.ref C) "__init__" = some (some (.ref f))
 fn:W.isFn K (.ref f)=true
 kp:W.keepIn K (.ref C)=true
theorem uf{pins:List (Addr×Obj)}{σ:St}{H:Hp}{s:Shared}{Q:VK}{us:List Value}{vs:List V}(M:Mk X.K C f) (F:aD X.prog X.w X.K X.mg X.base CX k f fd ps sp) (hr:bx (k+1) X.A) (hb:Binds X.K fd ps ds) (hd:Vals hW ds)
 (hx:Passes CX X E) (I:Inv X pins σ H s) (r:Vals vs us)
 (h:∀x dx,H x=none->H dx=none->dx≠x->sp (.ref x::(vs++hW)) (upd (upd H dx (.own x)) x (.ins C dx [])) (λv H2=>v=.bb/\Q (.ref x) H2) E) :
 wpAny (model X.prog X.w) X.A (call (.ref C) us) (EP X pins σ Q) X.xe s:=by
 have hq:=h (s.heap.objs.size+1) s.heap.objs.size (I.hok.fresh (YY _)) (I.hok.fresh (Xv _)) (XZ (YE _))
 have I2:=Inv.made (C:=C) I
 have r2:Vals (V.ref (s.heap.objs.size+1)::(vs++hW)) (Value.ref (s.heap.objs.size+1)::(us++ds)):=.cons rfl (r.append hd)
 have hl:(Value.ref (s.heap.objs.size+1)::us++ds).length=ps.length:=by
  have e:=r2.length
  rw[F.len _ _ _ _ hq]at e
  exact e.symm
 refine aaS (Bx (f:=f) I.jo M.makes M.init (ZL.mp M.fn) (ZR (F.run _ X.stack _ _ ⟨Value.ref (s.heap.objs.size+1)::us,[]⟩ (Value.ref (s.heap.objs.size+1)::(us++ds)) _ _ E (hr.make C us [])
  (I2.BA.make C us []) (hb _ (Value.ref (s.heap.objs.size+1)::us) I2.jo hl) r2 hq) λr s' kU=>?_))
 cases r with
 | error e=>exact hx pins σ _ _ e s' I2 kU
 | ok fl=>
  cases fl with
  | ret u=>
   obtain⟨v,H',I3,rv,ev,q3⟩:=I2.after kU
   subst ev
   exact⟨rv,⟨V.ref (s.heap.objs.size+1),H',I3,rfl,q3⟩⟩
  | next=>exact False.elim kU
  | brk=>exact False.elim kU
  | cont=>exact False.elim kU
theorem Ey(M:Mk X.K C f)(F:aD X.prog X.w X.K X.mg X.base CX k f fd ps sp) (hr:bx (k+1) X.A) (hg:Gl X x) (hm:X.mg x=some (.ref C)) (hb:Binds X.K fd ps ds) (hd:Vals hW ds) (hx:Passes CX X E)
 (ha:PA X (e::es) t) (m7:(x == ("__debug__" : Str))=false:=by decide) (he:starEach (e::es) X.env=(false,eval e X.env)::starEach es X.env:=by rfl) (gi:(backTo pos (starEach es X.env)).any (·.1)=false:=by rfl) :
 PE X (.Call (.Name x p) (e::es) [] pos) (Dn C sp hW E t):=by
 intro pins s σ H Q I h
 refine YH (nW I hg hm ?_ m7)
 refine W.callWith_K (h₀:=X.base) I.ok.mod.kin M.kp (aS (ha pos pins s σ H _ I h) λus s1 ⟨vs,H1,I1,r,q⟩=>⟨I1.jo,?_⟩) he gi
 exact uf M F hr hb hd hx I1 r q
theorem ug(M:Mk X.K C f)(F:aD X.prog X.w X.K X.mg X.base CX k f fd ps sp) (hr:bx (k+1) X.A) (hg:Gl X x) (hm:X.mg x=some (.ref C)) (hb:Binds X.K fd ps ds) (hd:Vals hW ds) (hx:Passes CX X E)
 (m7:(x == ("__debug__" : Str))=false:=by decide):PE X (.Call (.Name x p) [] [] pos) (Dn C sp hW E lO):=by
 intro pins s σ H Q I h
 refine YH (nW I hg hm ?_ m7)
 exact W.callWith_K0 I.jo M.kp (uf (us:=[]) M F hr hb hd hx I .nil h)
end
def PK(X:Cx)(zp:List Keyword)(t:TA):Prop:=
 ∀(pos:Pos) (pins:List (Addr×Obj)) (s:Shared) (σ:St) (H:Hp) (Q:List V->Hp->Prop),Inv X pins σ H s->t σ H Q->wpAny (model X.prog X.w) X.A (evalAll ((backToKw pos (keywordEach zp X.env)).map (·.2))) (AP X pins σ Q) X.xe s
section
variable {X:Cx}{CX:mZ}{k:Nat}{f C:Addr}{fd:FuncData}{ps ks:List Str}{sp:Sp}{E:XK}{x m:Str}{p pos apos kpos:Pos}{e o:Expr}{es:List Expr}{zp:List Keyword}{te ta:TE}{t tk:TA}{nm:Option Str}
theorem zr:PK X [] lO:=λ_ _ _ _ H Q I h=>wpAny_evalAll_nil ⟨[],H,I,.nil,h⟩
theorem xc(ha:PE X e te)(hr:PK X zp t):PK X (⟨nm,e,kpos⟩::zp) (n0 te t):=by
 intro pos pins s σ H Q I h
 show wpAny _ _ (evalAll ((do let v ← eval e X.env;standAt pos;pure v)::(backToKw pos (keywordEach zp X.env)).map (·.2))) _ _ s
 refine wpAny_evalAll_cons (Xy (aS (ha pins s σ H _ I h) λu s1 ⟨x,H1,I1,r1,q1⟩=>Xy (Z5 (X1 ?_))))
 exact aS (hr pos pins s1 σ H1 _ I1 q1) λus s2 ⟨xs,H2,I2,r2,q2⟩=>⟨x::xs,H2,I2,.cons r1 r2,q2⟩
variable {g:List Value->List Value->List Value}{gV:List V->List V->List V}
end
structure aG(N P:List Str) (sc:Scope):Prop where
 kind:sc.kind=.function
 co:sc.isCoroutine=false
 gen:sc.isGenerator=false
 nd:N.Nodup
 pre:N.take P.length=P
 par:∀x∈P,sc.names.lookup x=some .local\/sc.names.lookup x=some .cell
 nofree:∀y∈sc.names,y.2≠.free
theorem sv{kindOf:Str->Option NameKind}{x:Str} : ∀{binds:List (Str×Value)}{m:Str->Option Value},(∀v,(x,v)∉binds)->bindL kindOf binds m x=m x
 | [],_,_=>rfl
 | (n,v)::r,m,h=>by
  unfold bindL
  rw[sv λw hw=>h w (XA _ hw)]
  split
  . have:x≠n:=by rintro rfl;exact h v XB
    simp[this]
  . rfl
theorem sA{kindOf:Str->Option NameKind}{x:Str} : ∀{binds:List (Str×Value)}{m:Str->Option Value},(∀v,(x,v)∉binds)->bindC kindOf binds m x=m x
 | [],_,_=>rfl
 | (n,v)::r,m,h=>by
  unfold bindC
  rw[sA λw hw=>h w (XA _ hw)]
  split
  . rfl
  . have:x≠n:=by rintro rfl;exact h v XB
    simp[this]
theorem sC{kindOf:Str->Option NameKind}{x:Str}{v:Value} : ∀{P:List Str}{vs:List Value}{i:Nat}{m:Str->Option Value},P.Nodup->P[i]?=some x->vs[i]?=some v->kindOf x=some .local->
 bindL kindOf (P.zip vs) m x=some v
 | [],_,_,_,_,h,_,_=>by simp at h
 | _::_,[],_,_,_,_,h,_=>by simp at h
 | p::P,w::vs,0,m,nd,h1,h2,hk=>by
  simp at h1 h2;subst h1;subst h2
  show bindL kindOf ((p,w)::P.zip vs) m p=_
  unfold bindL
  rw[sv λv hv=>(X6.mp nd).1 (aah hv).1,XO hk]
  simp
 | p::P,w::vs,i+1,m,nd,h1,h2,hk=>by
  show bindL kindOf ((p,w)::P.zip vs) m x=_
  unfold bindL
  exact sC (i:=i) (X6.mp nd).2 (by simpa using h1) (by simpa using h2) hk
theorem sD{kindOf:Str->Option NameKind}{x:Str}{v:Value} : ∀{P:List Str}{vs:List Value}{i:Nat}{m:Str->Option Value},P.Nodup->P[i]?=some x->vs[i]?=some v->kindOf x≠some .local->
 bindC kindOf (P.zip vs) m x=some v
 | [],_,_,_,_,h,_,_=>by simp at h
 | _::_,[],_,_,_,_,h,_=>by simp at h
 | p::P,w::vs,0,m,nd,h1,h2,hk=>by
  simp at h1 h2;subst h1;subst h2
  show bindC kindOf ((p,w)::P.zip vs) m p=_
  unfold bindC
  rw[sA λv hv=>(X6.mp nd).1 (aah hv).1,XW hk]
  simp
 | p::P,w::vs,i+1,m,nd,h1,h2,hk=>by
  show bindC kindOf ((p,w)::P.zip vs) m x=_
  unfold bindC
  exact sD (i:=i) (X6.mp nd).2 (by simpa using h1) (by simpa using h2) hk
def start(N:List Str)(vs:List V):St:=vs.map some++List.replicate (N.length-vs.length) none
def o9(CX:mZ)(P:Program)(w:World)(K:W.Frag)(mg:Str->Option Value)(base:Heap)(N:List Str)(qual:Str)(scope:Scope)(f:Addr)(cd:Value)(A:Around)(outer:List Env)(s:Shared)(H:Hp)(E:XK):Cx where
 prog:=P
 w:=w
 K:=K
 mg:=mg
 base:=base
 A:=A.deeper (envOfC qual scope s.heap.objs.size f cd)
 N:=N
 j5:=s
 tD:=H
 env:=envOfC qual scope s.heap.objs.size f cd
 outer:=outer
 stack:=envOfC qual scope s.heap.objs.size f cd::outer
 ex:=[]
 calm:=true
 fn:=λ_=>true
 pn:=[]
 xe:=λe s'=>wpAny (model P w) (A.deeper (envOfC qual scope s.heap.objs.size f cd)) (leaving (envOfC qual scope s.heap.objs.size f cd) e) (λ_ kD=>CX outer H s E e kD) (λe' kD=>CX outer H s E e' kD) s'
theorem uh{sc:Scope}{n:Nat}{x:Str}(h:sc.names.lookup x=some .cell):∃c,(cellsFrom n sc.names []).lookup x=some c:=by
 have q:=W.cellsFrom_some sc.names n [] (.inl h)
 exact ZV.mp q
theorem zt{CX:mZ}{P:Program}{w:World}{K:W.Frag}{mg:Str->Option Value}{base:Heap}{N ps:List Str}{qual:Str}{scope:Scope}{f:Addr}{cd:Value}{A:Around}{outer:List Env}{s s1:Shared}{H:Hp}{E:XK}{us:List Value}{vs:List V}
 (S:aG N ps scope) (hd:A.handled=none) (e0:ki P w K mg base A outer s H) (hl:vs.length=ps.length) (r:Vals vs us)
 (x:InCallC s s.heap.objs.size (bindL (envOfC qual scope s.heap.objs.size f cd).kindOf (ps.zip us) λ_=>none) (cellsFrom (s.heap.objs.size+1) scope.names []) (bindC (envOfC qual scope s.heap.objs.size f cd).kindOf (ps.zip us) λ_=>none) s1) :
 Inv (o9 CX P w K mg base N qual scope f cd A outer s H E) [] (start N vs) H s1:=by
 have gi:ps.length<=N.length:=by have:=congrArg List.length S.pre;rw[XY]at this;omega
 obtain⟨h1,tk,rfl,hk⟩:=x.done
 have zu:∀b:Addr,b∉(o9 CX P w K mg base N qual scope f cd A outer s H E).ex:=λb z=>absurd (show b∈([]:List Addr) from z) (by simp)
 refine⟨⟨e0.mod,S.kind,rfl,rfl,Xv _,λy z c h1 h2=>?_,λy hy=>?_,λy c _ h=>?_,λ_=>hd,Around.frames_deeper e0.frames,.inr ⟨rfl,rfl⟩,λb z=>absurd z (zu b),e0.bs,e0.bsz,λb _ _=>zu b,λb z=>absurd z (zu b),e0.jy,e0.frf⟩,
  rfl,e0.bare,Un.kept hk,⟨_,x.toInCall.ns,λi y v h1 h2 h3=>?_⟩,λy c h=>⟨_,x.cell y c h⟩,e0.hok.fresh (Xv _),λy c h=>?_,λp hp=>absurd (show p∈([]:List (Addr×Obj)) from hp) (by simp),e0.hok.kept hk,?_⟩
 . exact name_of_addr x.apart (Y6 h1) (Y6 h2)
 . have hy:scope.names.lookup y=some .cell\/scope.names.lookup y=some .free:=hy
   rcases hy with hy|hy
   . exact uh hy
   . exact absurd rfl (S.nofree _ (Y6 hy))
 . exact X7 (x.above y c (Y6 h))
 . have hi:i<vs.length:=by
    unfold start at h2
    by_cases hi:i<vs.length
    . exact hi
    . rw[Yr (by simpa using hi)]at h2
      rw[Z6]at h2
      split at h2 <;> cases h2
   have ha:vs[i]?=some v:=by
    unfold start at h2
    rw[X8 (by simpa using hi),Xt]at h2
    cases e:vs[i]? with
    | none=>rw[e]at h2;cases h2
    | some a=>rw[e]at h2;cases h2;rfl
   obtain⟨u,hu,rv⟩:=r.get ha
   have hp:ps[i]?=some y:=by
    rw[← S.pre,List.getElem?_take_of_lt (by omega)];exact h1
   have Nh:ps.Nodup:=by rw[← S.pre];exact S.nd.sublist (ZW _ _)
   refine⟨u,rv,?_⟩
   rcases S.par y (Xn hp) with k|k
   . exact .inl ⟨k,sC Nh hp hu k⟩
   . obtain⟨c,e⟩:=uh (n:=s.heap.objs.size+1) k
     refine .inr ⟨.inl k,c,e,?_⟩
     have q:=x.cell y c e
     rw[sD Nh hp hu (by show scope.names.lookup y≠_;rw[k];decide)]at q
     exact q
 . exact e0.hok.fresh (X7 (x.above y c (Y6 h)))
 . unfold start
   show _=N.length
   rw[Xs,Xl,aai]
   omega
theorem Ms{CX:mZ}{P:Program}{w:World}{K:W.Frag}{mg:Str->Option Value}{base:Heap}{k:Nat}{f:Addr}{name qual:Str}{params:Arguments}{body:List Stmt}{scope:Scope}{dV kV doc pm a6 ct oc:Value}{an od:Option Addr}
 {sF:Array (Option Value)}{N ps:List Str}{sp:Sp}(lk:K.lookup f=some ⟨oc,od,.func (W.fnOf name qual params body scope dV kV doc pm an a6 ct),sF⟩) (cE:W.codeIn K a6 qual=true) (S:aG N ps scope)
 (len:∀vs H Q E,sp vs H Q E->vs.length=ps.length)
 (qc:∀(A:Around) (outer:List Env) (s:Shared) (H:Hp) (vs:List V) (Q:VK) (E:XK),bx k (A.deeper (envOfC qual scope s.heap.objs.size f a6))->sp vs H Q E->
  ∃t,kg (o9 CX P w K mg base N qual scope f a6 A outer s H E) body t/\t {nx:=λ_ H'=>Q .bb H',rt:=Q} (start N vs) H) :
 aD P w K mg base CX (k+1) f (W.fnOf name qual params body scope dV kV doc pm an a6 ct) ps sp:=by
 refine⟨len,λA outer s H args us vs Q E hr e0 hb r j2=>?_⟩
 have hl:=len _ _ _ _ j2
 have KX:K.In s.heap:=e0.mod.kin.keeps λb o e=>(e0.bs b o e).1
 have lim:s.heap.NoLimit:=e0.mod.nolimit.keeps λb o e=>(e0.bs b o e).1
 have Mt:∀y∈ps.zip us,scope.names.lookup y.1=some .local\/(scope.names.lookup y.1=some .cell/\((cellsFrom (s.heap.objs.size+1) scope.names []).lookup y.1).isSome=true):=λ⟨n,v⟩ hy=>by
  rcases S.par n (aah hy).1 with q|q
  . exact .inl q
  . exact .inr ⟨q,W.cellsFrom_some _ _ _ (.inl q)⟩
 refine codeAny_call_function hr.depth (KX _ _ lk) rfl S.co S.gen rfl (W.codeRec_of KX cE) (hb _ _ _ _ ?_)
 refine wpAny_newFunctionEnv_cells S.kind Mt λenv he s1 x=>?_
 subst he
 refine⟨lim.keeps x.toInCall.keep,codeAny_func ?_⟩
 obtain⟨t,ht,hq⟩:=qc A outer s H vs Q E (hr.deeper _) j2
 have I:Inv (o9 CX P w K mg base N qual scope f a6 A outer s H E) [] (start N vs) H s1:=zt S hr.hd e0 hl r x
 refine YG (ht [] s1 (start N vs) H _ I hq) (λfl s' hs=>?_) λe s' hs=>hs
 have fin:∀{bq:St}{H':Hp}{v:V}{u:Value},Inv (o9 CX P w K mg base N qual scope f a6 A outer s H E) [] bq H' s'->RelV v u->Q v H'->CE outer P w H s Q u s':=
  λ{bq H' v u} J rv q=>⟨v,H',J.os,J.bare,J.base,J.hok,rv,q⟩
 cases fl with
 | ret u=>
  obtain⟨v,bq,H',J,rv,q⟩:=hs
  exact fin J rv q
 | next=>
  obtain⟨bq,H',J,q⟩:=hs
  exact fin (v:=V.bb) (u:=Value.none) J rfl q
 | brk=>
  obtain⟨_,_,_,q⟩:=hs
  exact False.elim q
 | cont=>
  obtain⟨_,_,_,q⟩:=hs
  exact False.elim q
section
variable {X:Cx}{x:Str}{p pos:Pos}{e:Expr}{es:List Expr}{t:TA}{id T:String}{r:List V->Hp->VK->Prop}
def Dp(r:List V->Hp->VK->Prop)(t:TA):TE:=λσ H Q=>t σ H λvs H1=>r vs H1 Q
theorem aJ(hc:ir X (.builtin id) r) (hg:Gl X x) (hm:X.mg x=none) (hv:bootBuiltins x=some (.builtin id)) (ha:PA X (e::es) t) (hn:x ≠ "__name__":=by decide) (m7:(x == ("__debug__" : Str))=false:=by decide)
 (he:starEach (e::es) X.env=(false,eval e X.env)::starEach es X.env:=by rfl) (gi:(backTo pos (starEach es X.env)).any (·.1)=false:=by rfl):PE X (.Call (.Name x p) (e::es) [] pos) (Dp r t):=by
 intro pins s σ H Q I h
 refine YH (jL I hg hm hv ?_ hn m7)
 exact PyProof.Rows.callWith_builtin1 (aS (ha pos pins s σ H _ I h) λus s1 ⟨vs,H1,I1,r1,q1⟩=>hc pins s1 σ H1 vs us Q I1 r1 q1) he gi
theorem eC(hc:ir X (.type T) r) (hg:Gl X x) (hm:X.mg x=none) (hv:bootBuiltins x=some (.type T)) (ha:PA X (e::es) t) (hn:x ≠ "__name__":=by decide) (m7:(x == ("__debug__" : Str))=false:=by decide)
 (he:starEach (e::es) X.env=(false,eval e X.env)::starEach es X.env:=by rfl) (gi:(backTo pos (starEach es X.env)).any (·.1)=false:=by rfl):PE X (.Call (.Name x p) (e::es) [] pos) (Dp r t):=by
 intro pins s σ H Q I h
 refine YH (jL I hg hm hv ?_ hn m7)
 exact Yz (aS (ha pos pins s σ H _ I h) λus s1 ⟨vs,H1,I1,r1,q1⟩=>hc pins s1 σ H1 vs us Q I1 r1 q1) he gi
end
section
variable {κ:Type}[DecidableEq κ]
def cv(kvs:List (κ×V)) (k:κ):Option V:=(kvs.find? λkv=>decide (kv.1=k)).map (·.2)
def putK(kvs:List (κ×V)) (k:κ) (v:V):List (κ×V):=
 if (kvs.any λkv=>decide (kv.1=k))=true then kvs.map (λkv=>if kv.1=k then (kv.1,v) else kv) else kvs++[(k,v)]
theorem eN{p:κ×V}{r:List (κ×V)}{k:κ}(e:p.1=k):cv (p::r) k=some p.2:=by simp[cv,Zc,e]
theorem eO{p:κ×V}{r:List (κ×V)}{k:κ}(e:¬ p.1=k):cv (p::r) k=cv r k:=by simp[cv,Zc,e]
theorem kj(k:κ):∀kvs:List (κ×V),(kvs.any λkv=>decide (kv.1=k))=(cv kvs k).isSome
 | []=>rfl
 | p::r=>by
  rw[Zg]
  by_cases e:p.1=k
  . simp only[eN e,Xw e,Bool.true_or,Option.isSome_some]
  . rw[eO e,Xz e,Bool.false_or];exact kj k r
theorem ui(k j:κ)(y:V):∀kvs:List (κ×V),cv (kvs.map λkv=>if kv.1=k then (kv.1,y) else kv) j=(cv kvs j).map λx=>if j=k then y else x
 | []=>rfl
 | p::r=>by
  have ih:=ui k j y r
  rw[XQ]
  by_cases h:p.1=k
  . rw[XO h]
    by_cases e:p.1=j
    . rw[eN (p:=(p.1,y)) e,eN e,Zd,XO (e.symm.trans h)]
    . rw[eO (p:=(p.1,y)) e,eO e,ih]
  . rw[XW h]
    by_cases e:p.1=j
    . rw[eN (p:=p) e,eN e,Zd,XW (λz=>h (e.trans z))]
    . rw[eO (p:=p) e,eO e,ih]
theorem m8(k j:κ)(y:V):∀kvs:List (κ×V),cv kvs k=none->cv (kvs++[(k,y)]) j=if j=k then some y else cv kvs j
 | [],_=>by
  by_cases e:k=j
  . rw[XO e.symm];exact eN (p:=(k,y)) e
  . rw[XW (λz=>e z.symm)];exact eO (p:=(k,y)) e
 | p::r,hn=>by
  rw[YS]
  have hk:¬ p.1=k:=λz=>by rw[eN z]at hn;cases hn
  rw[eO hk]at hn
  have ih:=m8 k j y r hn
  by_cases e:p.1=j
  . rw[eN e,eN e,XW (λz=>hk (e.trans z))]
  . rw[eO e,eO e,ih]
theorem uj(kvs:List (κ×V)) (k j:κ) (y:V):cv (putK kvs k y) j=if j=k then some y else cv kvs j:=by
 unfold putK
 by_cases a:(kvs.any λkv=>decide (kv.1=k))=true
 . rw[XO a,ui]
   rw[kj]at a
   by_cases e:j=k
   . obtain⟨x,hx⟩:=ZV.mp a
     rw[XO e,e,hx,Zd,XO rfl]
   . rw[XW e]
     cases cv kvs j with
     | none=>rfl
     | some x=>rw[Zd,XW e]
 . rw[XW a]
   refine m8 k j y kvs ?_
   rw[kj]at a
   cases q:cv kvs k with
   | none=>rfl
   | some x=>rw[q]at a;exact(a rfl).elim
theorem kL(kvs:List (κ×V)) (k:κ) (v:V):(putK kvs k v).length<=kvs.length+1:=by
 unfold putK
 split
 . rw[Xl];omega
 . rw[Xs,X0,YA];omega
theorem gZ.jP{o:Option V}{u:Option Value}(r:gZ o u):o.isSome=u.isSome:=by
 cases o with
 | none=>cases u with
  | none=>rfl
  | some _=>exact(show False from r).elim
 | some _=>cases u with
  | none=>exact(show False from r).elim
  | some _=>rfl
theorem KV.val{kvs:List (κ×V)}{vs:List (κ×Value)}(r:KV kvs vs) (k:κ):gZ (cv kvs k) (valueAt vs k):=by
 unfold KV at r
 induction r with
 | nil=>exact True.intro
 | @cons p q ps qs h t ih=>
  obtain⟨h1,h2⟩:=h
  by_cases e:p.1=k
  . have e':q.1=k:=h1.symm.trans e
    have b:valueAt (q::qs) k=some q.2:=by simp[valueAt,Zc,e']
    rw[eN e,b];exact h2
  . have e':¬ q.1=k:=λz=>e (h1.trans z)
    have b:valueAt (q::qs) k=valueAt qs k:=by simp[valueAt,Zc,e']
    rw[eO e,b];exact ih
theorem KV.any{kvs:List (κ×V)}{vs:List (κ×Value)}(r:KV kvs vs) (k:κ):(kvs.any λkv=>decide (kv.1=k))=vs.any λkv=>decide (kv.1=k):=by
 unfold KV at r
 induction r with
 | nil=>rfl
 | cons h t ih=>rw[Zg,Zg,ih,h.1]
theorem KV.BB{kvs:List (κ×V)}{vs:List (κ×Value)}(r:KV kvs vs) (k:κ){y:V}{u:Value}(ry:RelV y u) :
 KV (kvs.map λkv=>if kv.1=k then (kv.1,y) else kv) (vs.map λkv=>if kv.1=k then (kv.1,u) else kv):=by
 unfold KV at r ⊢
 induction r with
 | nil=>exact .nil
 | @cons p q ps qs h t ih=>
  rw[XQ,XQ]
  refine .cons ?_ ih
  obtain⟨h1,h2⟩:=h
  by_cases e:p.1=k
  . rw[XO e,XO (h1.symm.trans e)];exact⟨h1,ry⟩
  . rw[XW e,XW (λz=>e (h1.trans z))];exact⟨h1,h2⟩
theorem KV.put{kvs:List (κ×V)}{vs:List (κ×Value)}(r:KV kvs vs) (k:κ){y:V}{u:Value}(ry:RelV y u):KV (putK kvs k y) (stored vs k u):=by
 unfold putK stored
 rw[r.any k]
 by_cases e:(vs.any λkv=>decide (kv.1=k))=true
 . rw[XO e,XO e];exact r.BB k ry
 . rw[XW e,XW e];exact Ze r ⟨rfl,ry⟩
theorem KV.length{kvs:List (κ×V)}{vs:List (κ×Value)}(r:KV kvs vs):kvs.length=vs.length:=aaI r
end
theorem n8{P:Program}{w:World}{k:Key}{u:Value}(r:RelV (kV k) u):(cg P w).is k u=true:=by
 cases k with
 | inl i=>obtain⟨t,e⟩:=(show ∃t,u=Value.int i t from r);subst e;exact wA P w i t
 | inr x=>obtain⟨t,e⟩:=(show ∃t,u=Value.str x t from r);subst e;exact wB P w x t
theorem sG{P:Program}{w:World} : ∀{ks:List Key}{us:List Value},Vals (ks.map kV) us->ItemsAre (cg P w) ks us
 | [],_,r=>by rw[Ym]at r;cases r;exact .nil
 | k::ks,_,r=>by
  rw[XQ]at r
  cases r with
  | cons h t=>exact .cons (n8 h) (sG t)
abbrev KT(H:Hp):List (List Key×V)->List (List Key×Addr×Value)->Prop:=Paired λp q=>p.1=q.1/\H q.2.1=some (.tup (p.1.map kV))/\RelV p.2 q.2.2
theorem KT.val{H:Hp}{kvs:List (List Key×V)}{xs:List (List Key×Addr×Value)}(r:KT H kvs xs) (k:List Key):gZ (cv kvs k) ((atKey xs k).map (·.2)):=by
 induction r with
 | nil=>exact True.intro
 | @cons p q ps qs h t ih=>
  obtain⟨h1,_,h2⟩:=h
  by_cases e:p.1=k
  . have e':q.1=k:=h1.symm.trans e
    have b:atKey (q::qs) k=some q.2:=by simp[atKey,Zc,e']
    rw[eN e,b];exact h2
  . have e':¬ q.1=k:=λz=>e (h1.trans z)
    have b:atKey (q::qs) k=atKey qs k:=by simp[atKey,Zc,e']
    rw[eO e,b];exact ih
theorem KT.BB{H:Hp}{kvs:List (List Key×V)}{xs:List (List Key×Addr×Value)}(r:KT H kvs xs) (k:List Key){y:V}{u:Value}(ry:RelV y u) :
 KT H (kvs.map λkv=>if kv.1=k then (kv.1,y) else kv) (xs.map (putAt k u)):=by
 induction r with
 | nil=>exact .nil
 | @cons p q ps qs h t ih=>
  rw[XQ,XQ]
  refine .cons ?_ ih
  obtain⟨h1,h2,h3⟩:=h
  unfold putAt
  by_cases e:p.1=k
  . rw[XO e,XO (h1.symm.trans e)];exact⟨h1,h2,ry⟩
  . rw[XW e,XW (λz=>e (h1.trans z))];exact⟨h1,h2,h3⟩
theorem KT.put{H:Hp}{kvs:List (List Key×V)}{xs:List (List Key×Addr×Value)}(r:KT H kvs xs) (k:List Key){b:Addr}{y:V}{u:Value}(hb:H b=some (.tup (k.map kV))) (ry:RelV y u) :
 KT H (putK kvs k y) (storedH xs k b u):=by
 have e:(kvs.any λkv=>decide (kv.1=k))=(atKey xs k).isSome:=by
  rw[kj,(r.val k).jP,ZX]
 unfold putK storedH
 rw[e]
 by_cases q:(atKey xs k).isSome=true
 . rw[XO q,XO q];exact r.BB k ry
 . rw[XW q,XW q];exact Ze r ⟨rfl,hb,ry⟩
theorem KT.keeps{H H':Hp}{kvs:List (List Key×V)}{xs:List (List Key×Addr×Value)}(r:KT H kvs xs) (ht:∀b ys,H b=some (.tup ys)->H' b=some (.tup ys)):KT H' kvs xs:=
 Paired.bQ r λ_ _ z=>⟨z.1,ht _ _ z.2.1,z.2.2⟩
section
variable {P:Program}{w:World}{H:Hp}{h:Heap}{a:Addr}
theorem Dq{u:HO}(ok:fg P w H h)(e:Rd H a u):cI P w H h a u:=e.ok ok
theorem j7{kvs:List (Key×V)}(ok:fg P w H h) (e:Rd H a (.dK kvs)):kvs.length<=sizeLine/\(a == sysModules)=false/\∃vs,KV kvs vs/\h.DictOf (cg P w) a vs:=
 show cI P w H h a (.dK kvs) from Dq ok e
theorem tL{kvs:List (Key×V)}(ok:fg P w H h) (e:H a=some (.dK kvs)):kvs.length<=sizeLine/\(a == sysModules)=false/\∃vs,KV kvs vs/\h.DictOf (cg P w) a vs:=j7 ok (.inl e)
theorem ng{ks:List Key}(ok:fg P w H h) (e:H a=some (.tup (ks.map kV))):(tupleKind (cg P w)).is h ks a:=by
 obtain⟨_,its,r,o,h1,h2,n,h3⟩:=(show cI P w H h a (.tup (ks.map kV)) from ok a _ e)
 exact⟨o,its.toArray,n,h1,h2,h3,by simpa using sG r⟩
theorem qe{kvs:List (List Key×V)}(ok:fg P w H h) (e:Rd H a (.dT kvs)):kvs.length<=sizeLine/\(a == sysModules)=false/\
 ∃xs,KT H kvs xs/\h.DictOfH (tupleKind (cg P w)) a xs:=by
 obtain⟨z,y,xs,r,o,es,ep,h1,h2,h3,h4,h5⟩:=(show cI P w H h a (.dT kvs) from Dq ok e)
 refine⟨z,y,xs,r,o,es,ep,h1,h2,h3,h4,λx hx=>?_,h5⟩
 have all:∀{l:List (List Key×V)}{m:List (List Key×Addr×Value)},KT H l m->∀x∈m,(tupleKind (cg P w)).is h x.1 x.2.1:=by
  intro l m q
  induction q with
  | nil=>intro x hx;exact nomatch hx
  | @cons p q ps qs hq t ih=>
   intro x hx
   rcases XI.mp hx with e|hx
   . subst e
     exact ng ok (by rw[← hq.1];exact hq.2.1)
   . exact ih x hx
 exact all r x hx
theorem Mu{kvs:List (List Key×V)}(ok:fg P w H h) (e:H a=some (.dT kvs)):kvs.length<=sizeLine/\(a == sysModules)=false/\
 ∃xs,KT H kvs xs/\h.DictOfH (tupleKind (cg P w)) a xs:=qe ok (.inl e)
end
def gc(H:Hp)(a:Addr)(y:V)(r:Option V):Prop:=
 (∃kvs k,Rd H a (.dK kvs)/\y=kV k/\r=cv kvs k)\/∃kvs k b,Rd H a (.dT kvs)/\y=.ref b/\H b=some (.tup (k.map kV))/\r=cv kvs k
def jB(H:Hp)(a:Addr)(y v:V)(H':Hp):Prop:=
 (∃kvs k,H a=some (.dK kvs)/\y=kV k/\kvs.length<sizeLine/\H'=upd H a (.dK (putK kvs k v)))\/
 ∃kvs k b,H a=some (.dT kvs)/\y=.ref b/\H b=some (.tup (k.map kV))/\kvs.length<sizeLine/\H'=upd H a (.dT (putK kvs k v))
theorem gc.k{H:Hp}{a:Addr}{kvs:List (Key×V)}{k:Key}(e:H a=some (.dK kvs)):gc H a (kV k) (cv kvs k):=.inl ⟨kvs,k,.inl e,rfl,rfl⟩
theorem jB.k{H:Hp}{a:Addr}{kvs:List (Key×V)}{k:Key}{v:V}(e:H a=some (.dK kvs)) (hl:kvs.length<sizeLine):jB H a (kV k) v (upd H a (.dK (putK kvs k v))):=.inl ⟨kvs,k,e,rfl,hl,rfl⟩
section
variable {X:Cx}{pins:List (Addr×Obj)}{σ:St}{H:Hp}{s:Shared}{a:Addr}{y v:V}{u r:Value}{o:Option V}{A:Around}{E:Value->Shared->Prop}
theorem Inv.big(I:Inv X pins σ H s):sysModules<s.heap.objs.size:=by
 have h:mainGlobals<s.heap.objs.size:=(I.mod.glob.keeps I.bk).lt
 exact aaj (by decide) h
theorem zw{Q:Value->Shared->Prop}(hu:A.units+1<cLine)(I:Inv X pins σ H s) (g:gc H a y (some v)) (ry:RelV y u) (h:∀w' s',Inv X pins σ H s'->RelV v w'->Q w' s') :
 wpAny (model X.prog X.w) A (getItem (.ref a) u) Q E s:=by
 rcases g with⟨kvs,k,e,ey,l⟩|⟨kvs,k,b,e,ey,eb,l⟩
 . subst ey
   obtain⟨z,hd,vs,rel,dd⟩:=j7 I.hok e
   obtain⟨w',hw,qf⟩:=gZ.some_of (v:=v) (o:=valueAt vs k) (by rw[l];exact rel.val k)
   exact wpAny_getItem_of (n8 ry) dd.mapOf hw (h w' _ (I.tok _) qf)
 . subst ey
   cases(show u=Value.ref b from ry)
   obtain⟨z,hd,xs,rel,dd⟩:=qe I.hok e
   obtain⟨w',hw,qf⟩:=gZ.some_of (v:=v) (o:=(atKey xs k).map (·.2)) (by rw[l];exact rel.val k)
   obtain⟨p,hp,Gg⟩:=Option.map_eq_some_iff.mp hw
   refine wpAny_getItem_heap (Zp hu) (ng I.hok eb) dd hp ?_
   rw[Gg]
   exact h w' _ (I.tok _) qf
theorem Qg{Q:Value->Shared->Prop}(hu:A.units+1<cLine)(I:Inv X pins σ H s)(g:gc H a y o)(ry:RelV y u) (h:∀s',Inv X pins σ H s'->Q (.bool o.isSome) s') :
 wpAny (model X.prog X.w) A (compareOp .In u (.ref a)) Q E s:=by
 rcases g with⟨kvs,k,e,ey,l⟩|⟨kvs,k,b,e,ey,eb,l⟩
 . subst ey
   obtain⟨z,hd,vs,rel,dd⟩:=j7 I.hok e
   refine wpAny_in_of (n8 ry) hd dd.mapOf ?_
   rw[← (rel.val k).jP,← l]
   exact h _ (I.tok _)
 . subst ey
   cases(show u=Value.ref b from ry)
   obtain⟨z,hd,xs,rel,dd⟩:=qe I.hok e
   refine wpAny_in_heap (Zp hu) (ng I.hok eb) hd dd ?_
   have q:=(rel.val k).jP
   rw[ZX]at q
   rw[← q,← l]
   exact h _ (I.tok _)
theorem Ez{Q:Value->Shared->Prop}(hu:A.units+1<cLine)(I:Inv X pins σ H s)(g:gc H a y o)(ry:RelV y u) (h:∀s',Inv X pins σ H s'->Q (.bool (!o.isSome)) s') :
 wpAny (model X.prog X.w) A (compareOp .NotIn u (.ref a)) Q E s:=by
 rcases g with⟨kvs,k,e,ey,l⟩|⟨kvs,k,b,e,ey,eb,l⟩
 . subst ey
   obtain⟨z,hd,vs,rel,dd⟩:=j7 I.hok e
   refine wpAny_notIn_of (n8 ry) hd dd.mapOf ?_
   rw[← (rel.val k).jP,← l]
   exact h _ (I.tok _)
 . subst ey
   cases(show u=Value.ref b from ry)
   obtain⟨z,hd,xs,rel,dd⟩:=qe I.hok e
   refine wpAny_notIn_heap (Zp hu) (ng I.hok eb) hd dd ?_
   have q:=(rel.val k).jP
   rw[ZX]at q
   rw[← q,← l]
   exact h _ (I.tok _)
theorem qT{h':Heap}{t':Nat}{ob:HO}(I:Inv X pins σ H s) (mu:y2 (H a)) (hs:Heap.SameBut a s.heap h') (he:∃q,h'.get? a=some q) (new:cI X.prog X.w (upd H a ob) h' a ob) :
 Inv X pins σ (upd H a ob) {s with heap:=h',toks:=t'} :=
 I.write (x:=a) (e:=a) mu (.inl rfl) (λb q hb z=>(hs.2 b hb).trans z) he new
theorem nh{P:Program}{w:World}{H':Hp}{h':Heap}{kvs:List (Key×V)}{vs:List (Key×Value)}(z:kvs.length<=sizeLine) (hd:(a == sysModules)=false) (rel:KV kvs vs) (dd:h'.DictOf (cg P w) a vs) :
 cI P w H' h' a (.dK kvs):=⟨z,hd,vs,rel,dd⟩
theorem zx{H':Hp}{Q:Unit->Shared->Prop}(hu:A.units+1<cLine)(I:Inv X pins σ H s)(g:jB H a y v H')(ry:RelV y u)(rv:RelV v r) (h:∀s',Inv X pins σ H' s'->Q () s') :
 wpAny (model X.prog X.w) A (setItem (.ref a) u r) Q E s:=by
 rcases g with⟨kvs,k,e,ey,l,eH⟩|⟨kvs,k,b,e,ey,eb,l,eH⟩
 . subst ey eH
   obtain⟨z,hd,vs,rel,dd⟩:=tL I.hok e
   have hz:vs.length<=sizeLine:=by rw[← rel.length];exact z
   have hl:(putK kvs k v).length<=sizeLine:=by have:=kL kvs k v;omega
   refine wpAny_setItem_pairs (hsz:=hz) (n8 ry) dd λh' qg hs=>h _ ?_
   have he:∃q,h'.get? a=some q:=let ⟨q,_,_,hq,_⟩:=qg; ⟨q,hq⟩
   exact qT I (by rw[e];exact True.intro) hs he (nh hl hd (rel.put k rv) qg)
 . subst ey eH
   cases(show u=Value.ref b from ry)
   obtain⟨z,hd,xs,rel,dd⟩:=Mu I.hok e
   have hz:xs.length<=sizeLine:=by rw[← aaI rel];exact z
   have hl:(putK kvs k v).length<=sizeLine:=by have:=kL kvs k v;omega
   refine wpAny_setItem_heap (hsz:=hz) (Zp hu) (ng I.hok eb) dd λh' qg hs=>h _ ?_
   obtain⟨q,es,ep,hq,h2,h3,h4,_,h5⟩:=qg
   refine qT I (by rw[e];exact True.intro) hs ⟨q,hq⟩ ⟨hl,hd,_,(rel.put k eb rv).keeps λc ys ec=>?_,q,es,ep,hq,h2,h3,h4,h5⟩
   rw[ag (d8 ec e (λz=>nomatch z))]
   exact ec
end
section
variable {X:Cx}{pins:List (Addr×Obj)}{σ:St}{H:Hp}{s:Shared}{a:Addr}{kvs:List (Key×V)}{k:Key}{u:Value}{A:Around}{E:Value->Shared->Prop}
theorem Mv{Q:Value->Shared->Prop}(I:Inv X pins σ H s) (e:Rd H a (.dK kvs)) (h:∀t s',Inv X pins σ H s'->Q (.int kvs.length t) s'):wpAny (model X.prog X.w) A (call (.builtin "len") [.ref a]) Q E s:=by
 obtain⟨z,hd,vs,rel,dd⟩:=j7 I.hok e
 refine call_len_dict hd dd (by rw[← rel.length];rw[YX]at z;omega) ?_
 rw[← rel.length]
 exact h _ _ (I.tok _)
end
def Gh(i:Expr):Prop:=∀ov iv,subscripted i false ov iv=operate [ov,iv] (getItem ov iv)
theorem EA{prog:Program}{w:World}{A:Around}{E:Value->Shared->Prop}{s:Shared}{env:Env}{value slice:Expr}{pos:Pos}{T id:String}{Q:Value->Shared->Prop}
 (hl:typeLookup (.type T) "__getitem__" = pure (some (.builtin id))) (hs:Gh slice)
 (h:wpAny (model prog w) A (eval value env) (λo dQ=>wpAny (model prog w) A (eval slice env) (λi oY=>oY.TypeIs o T/\wpAny (model prog w) A (getItem o i) Q E oY) E dQ) E s) :
 wpAny (model prog w) A (eval (.Subscript value slice pos) env) Q E s:=by
 refine Subscript_ (YG h (λo dQ zy=>YG zy (λi oY Gi=>?_) λ_ _ x=>x) λ_ _ x=>x)
 obtain⟨hT,Gi⟩:=Gi
 unfold subscriptTail
 refine Xy ?_
 rw[getitemInPython_of_ne hT.not_modules]
 refine Xy (wpAny_specialOf hT hl ?_)
 have fin:wpAny (model prog w) A (subscripted slice false o i) (λr zd=>wpAny (model prog w) A (letTemporaryGo value o r >>= λ_=>pure r) Q E zd) E oY:=by
  rw[hs o i]
  exact wpAny_operating (YG Gi (λr zd Mw=>Xy (wpAny_letTemporaryGo (X1 Mw))) λ_ _ x=>x)
 first
  | exact X1 (Xy fin)
  | exact Xy (X1 (Xy fin))
  | exact Xy fin
theorem wD{X:Cx}{pins:List (Addr×Obj)}{σ:St}{H:Hp}{s:Shared}{a:Addr}{y:V}{o:Option V}(I:Inv X pins σ H s) (g:gc H a y o):s.TypeIs (.ref a) "dict":=by
 rcases g with⟨kvs,k,e,_,_⟩|⟨kvs,k,b,e,_,_,_⟩
 . obtain⟨_,_,vs,_,dd⟩:=j7 I.hok e
   exact dd.typeIs
 . obtain⟨_,_,xs,_,dd⟩:=qe I.hok e
   exact dd.typeIs
def Mx(td ty:TE):TE:=λσ H Q=>td σ H λx H1=>ty σ H1 λy H2=>∃a v,x=.ref a/\gc H2 a y (some v)/\Q v H2
def Qh(ty td:TE):TE:=λσ H Q=>ty σ H λy H1=>td σ H1 λx H2=>∃a o,x=.ref a/\gc H2 a y o/\Q (.bl o.isSome) H2
def EB(ty td:TE):TE:=λσ H Q=>ty σ H λy H1=>td σ H1 λx H2=>∃a o,x=.ref a/\gc H2 a y o/\Q (.bl (!o.isSome)) H2
def My(td ty tv:TE):TS:=λD σ H=>tv σ H λv H1=>td σ H1 λx H2=>ty σ H2 λy H3=>∃a H4,x=.ref a/\jB H3 a y v H4/\D.nx σ H4
section
variable {X:Cx}{o i e value:Expr}{pos pos' Ge:Pos}{td ty tv:TE}
theorem kW(hu:X.A.units+1<cLine)(ho:PE X o td)(hi:PE X i ty)(hs:Gh i):PE X (.Subscript o i pos) (Mx td ty):=by
 intro pins s σ H Q I h
 refine EA PySem.F.slot_dict_getitem.lookup hs (aS (ho pins s σ H _ I h) λu s1 ⟨x,H1,I1,rx,q1⟩=>aS (hi pins s1 σ H1 _ I1 q1) λiv s2 zq=>?_)
 obtain⟨y,H2,I2,ry,a,v,ex,g,q2⟩:=zq
 subst ex
 obtain rfl:u=Value.ref a:=rx
 exact⟨wD I2 g,zw hu I2 g ry λw' s3 I3 qf=>⟨v,H2,I3,qf,q2⟩⟩
theorem uk(hu:X.A.units+1<cLine)(hi:PE X i ty)(ho:PE X o td):PC X .In i o (Qh ty td):=by
 intro pins s σ H Q I h
 refine aS (hi pins s σ H _ I h) λiv s1 ⟨y,H1,I1,ry,q1⟩=>aS (ho pins s1 σ H1 _ I1 q1) λu s2 zq=>?_
 obtain⟨x,H2,I2,rx,a,ov,ex,g,q2⟩:=zq
 subst ex
 obtain rfl:u=Value.ref a:=rx
 exact Qg hu I2 g ry λs3 I3=>⟨.bl ov.isSome,H2,I3,rfl,q2⟩
theorem kE(hu:X.A.units+1<cLine)(hi:PE X i ty)(ho:PE X o td):PC X .NotIn i o (EB ty td):=by
 intro pins s σ H Q I h
 refine aS (hi pins s σ H _ I h) λiv s1 ⟨y,H1,I1,ry,q1⟩=>aS (ho pins s1 σ H1 _ I1 q1) λu s2 zq=>?_
 obtain⟨x,H2,I2,rx,a,ov,ex,g,q2⟩:=zq
 subst ex
 obtain rfl:u=Value.ref a:=rx
 exact Ez hu I2 g ry λs3 I3=>⟨.bl (!ov.isSome),H2,I3,rfl,q2⟩
theorem iu(hu:X.A.units+1<cLine)(ho:PE X o td)(hi:PE X i ty)(hv:PE X value tv) (hs:swapsWith value (some (.Subscript o i pos')) pos.line X.env=pure false) :
 PS X (.Assign [.Subscript o i pos'] value pos) (My td ty tv):=by
 intro pins s σ H D I h
 refine wpAny_Assign_Subscript (aS (hv pins s σ H _ I h) λr s1 ⟨v,H1,I1,rv,q1⟩=>aS (ho pins s1 σ H1 _ I1 q1) λu s2 ⟨x,H2,I2,rx,q2⟩=>aS (hi pins s2 σ H2 _ I2 q2) λiv s3 ⟨y,H3,I3,ry,a,H4,ex,g,q3⟩=>?_) hs
 subst ex
 obtain rfl:u=Value.ref a:=rx
 exact zx hu I3 g ry rv λs4 I4=>⟨σ,H4,I4,q3⟩
end
theorem BC{P:Program}{w:World}{H:Hp}(h:Heap)(hb:sysModules<h.objs.size):cI P w H (h.push {cls:=.type "dict",data:=.dict #[] }) h.objs.size (.dK []):=
 ⟨Yi _,Yx.mpr (YF (XZ hb)),[],.nil,Heap.DictOf.new h⟩
def Gj:TE:=λ_ H Q=>∀p,H p=none->Q (.ref p) (upd H p (.dK []))
section
variable {X:Cx}{pos:Pos}
theorem jC:PE X (.Dict [] [] pos) Gj:=λpins s σ H Q I h=>
 wpAny_Dict_empty ⟨.ref s.heap.objs.size,_,I.laid (a:=s.heap.objs.size) (o:=.dK []) (t':=s.toks) (λ_ _ q=>XC _ q) (Xv _) (BC s.heap I.big),rfl,h _ (I.hok.fresh (Xv _))⟩
end
def c9(kvs more:List (Key×V)):List (Key×V):=more.foldl (λacc kv=>putK acc kv.1 kv.2) kvs
theorem KV.merge:∀{more:List (Key×V)}{rs:List (Key×Value)}{kvs:List (Key×V)}{vs:List (Key×Value)},KV more rs->KV kvs vs->KV (c9 kvs more) (merged vs rs):=by
 intro more rs kvs vs r
 unfold KV at r
 induction r generalizing kvs vs with
 | nil=>intro q;exact q
 | @cons p q ps qs h t ih=>
  intro r0
  have e:KV (putK kvs p.1 p.2) (stored vs q.1 q.2):=by
   have:=r0.put p.1 h.2
   rw[← h.1];exact this
  exact ih e
theorem j0:∀(more kvs:List (Key×V)),(c9 kvs more).length<=kvs.length+more.length
 | [],kvs=>by show kvs.length<=kvs.length+0;omega
 | p::r,kvs=>by
  have h1:=j0 r (putK kvs p.1 p.2)
  have h2:=kL kvs p.1 p.2
  show (c9 (putK kvs p.1 p.2) r).length<=_
  rw[X0];omega
structure M1(X:Cx) (o:Expr) (m:Str) (apos:Pos) (e:Expr) (iM:Pos):Prop where
 base:attributeBase o m X.env (eval o X.env)=eval o X.env
 few:((backTo iM (starEach [e] X.env)).all (λx=>!x.1) && (backToKw iM (keywordEach [] X.env)).all (λx=>x.1.isSome)
  && decide (([e]:List Expr).length+([]:List Keyword).length+(if ([]:List Keyword).isEmpty then 0 else 1)<30))=true
 line:(apos.endLine == iM.line)=true
 trees:backTo iM (starEach [e] X.env)=[(false,eval e X.env)]
section
variable {X:Cx}{pins:List (Addr×Obj)}{σ:St}{H:Hp}{s:Shared}{a:Addr}{y d:V}{u r:Value}{o:Option V}{A:Around}{E:Value->Shared->Prop}
end
section
variable {X:Cx}{o e f:Expr}{apos iM:Pos}{td ty tx:TE}
end
section
variable {X:Cx}{pins:List (Addr×Obj)}{σ:St}{H:Hp}{s:Shared}{a:Addr}{kvs:List (Key×V)}{A:Around}{E:Value->Shared->Prop}
theorem BD{Q:Value->Shared->Prop}(I:Inv X pins σ H s) (e:Rd H a (.dK kvs)) (h:∀p s',H p=none->Inv X pins σ (upd H p (.dK kvs)) s'->Q (.ref p) s'):wpAny (model X.prog X.w) A (call (.type "dict") [.ref a]) Q E s:=by
 obtain⟨z,hd,vs,rel,dd⟩:=j7 I.hok e
 refine kt_call_dict hd dd (by rw[← rel.length];exact z) λh' qg hs=>?_
 refine h _ _ (I.hok.fresh (Xv _)) (I.laid (a:=s.heap.objs.size) (o:=.dK kvs) (t':=s.toks) (λb q hq=>?_) (Xv _) (nh z (Yx.mpr (YF (XZ I.big))) rel qg))
 exact(hs.2 b (XZ (XR hq))).trans (XC _ hq)
end
section
variable {X:Cx}{pins:List (Addr×Obj)}{σ:St}{H:Hp}{s:Shared}{a:Addr}{y:V}{u:Value}{A:Around}{E:Value->Shared->Prop}
end
end L2
namespace HT
open PySem PyProof.Rows
section
open PySem.SeqAt
open PySem.AutoSeq1 (wpAny_loadPart')
open PySem.MeetsSeq PySem.MeetsSeq2 PySem.MeetsSeq3
end
section
variable {prog:Program}{w:World}{A:Around}{E:Value->Shared->Prop}{s:Shared}
def iC(n d:Nat):Option Int->Nat
 | none=>d
 | some v=>if v<0 then (v+(n:Int)).toNat else min v.toNat n
theorem n9(n d k:Nat):iC n d (some (k:Int))=min k n:=by
 show (if (k:Int)<0 then ((k:Int)+(n:Int)).toNat else min (k:Int).toNat n)=min k n
 rw[XW (by omega),Yj]
end
end HT
namespace L2
open PySem PySem.Spec PyProof.Rows
abbrev TO:=St->Hp->(Option Int->Hp->Prop)->Prop
def PO(X:Cx)(e:Option Expr)(t:TO):Prop:=
 ∀(pins:List (Addr×Obj)) (s:Shared) (σ:St) (H:Hp) (Q:Option Int->Hp->Prop),Inv X pins σ H s->t σ H Q->
  wpAny (model X.prog X.w) X.A (evalPart e X.env) (λu s'=>∃o H',Inv X pins σ H' s'/\IsPart u o/\Q o H') X.xe s
def EC:TO:=λ_ H Q=>Q none H
def Mz(t:TE):TO:=λσ H Q=>t σ H λx H1=>∃i,x=.int i/\Q (some i) H1
section
variable {X:Cx}{e:Expr}{te:TE}{lo hi:Option Expr}{tl th:TO}{pos p2:Pos}
theorem iw:PO X none EC:=by
 intro pins s σ H Q I h
 rw[evalPart_none]
 exact X1 ⟨none,H,I,.none,h⟩
theorem gd(h:PE X e te):PO X (some e) (Mz te):=by
 intro pins s σ H Q I hw
 rw[evalPart_some]
 refine aS (h pins s σ H _ I hw) λu s1 zq=>?_
 obtain⟨x,H1,I1,r1,q1⟩:=zq
 obtain⟨i,rfl,q⟩:=q1
 obtain⟨t,rfl⟩:=r1
 exact⟨some i,H1,I1,.int i t,q⟩
def Ni(X:Cx)(r:V->Option Int->Option Int->Hp->VK->Prop):Prop:=
 ∀(pins:List (Addr×Obj)) (s:Shared) (σ:St) (H:Hp) (x:V) (v vl vu:Value) (lo hi:Option Int) (sl:Addr) (Q:VK),Inv X pins σ H s->RelV x v->s.heap.IsSliceOf sl vl vu .none->IsPart vl lo->IsPart vu hi->r x lo hi H Q->
  ∃T id,typeLookup (.type T) "__getitem__" = pure (some (.builtin id))/\s.TypeIs v T/\wpAny (model X.prog X.w) X.A (getItem v (.ref sl)) (EP X pins σ Q) X.xe s
def Ss(r:V->Option Int->Option Int->Hp->VK->Prop)(te:TE)(tl th:TO):TE:=λσ H Q=>te σ H λx H1=>tl σ H1 λl H2=>th σ H2 λu H3=>r x l u H3 Q
theorem fR{r:V->Option Int->Option Int->Hp->VK->Prop}(hr:Ni X r)(he:PE X e te)(hl:PO X lo tl)(hu:PO X hi th):PE X (.Subscript e (.Slice lo hi none p2) pos) (Ss r te tl th):=by
 intro pins s σ H Q I h
 refine Subscript_ (aS (he pins s σ H _ I h) λv s1 zq=>?_)
 obtain⟨x,H1,I1,r1,q1⟩:=zq
 refine wpAny_Slice (aS (hl pins s1 σ H1 _ I1 q1) λvl s2 ⟨l,H2,I2,pl,q2⟩=>aS (hu pins s2 σ H2 _ I2 q2) λvu s3 zq=>?_)
 obtain⟨u,H3,I3,pu,q3⟩:=zq
 rw[evalPart_none]
 refine X1 ?_
 have I4:Inv X pins σ H3 {s3 with heap:=s3.heap.push {cls:=.type "slice",data:=.fields #[vl,vu,.none] } }:=I3.kept (t':=s3.toks) λb ob q=>XC _ q
 obtain⟨T,id,hT,ht,hg⟩:=hr pins {s3 with heap:=s3.heap.push {cls:=.type "slice",data:=.fields #[vl,vu,.none] } } σ H3 x v vl vu l u s3.heap.objs.size Q I4 r1 (Heap.IsSliceOf.new ..) pl pu q3
 show wpAny (model X.prog X.w) X.A (subscriptTail e (.Slice lo hi none p2) v (.ref s3.heap.objs.size)) (EP X pins σ Q) X.xe {s3 with heap:=s3.heap.push {cls:=.type "slice",data:=.fields #[vl,vu,.none] } }
 exact tail_any (ops:=[.ref s3.heap.objs.size,v]) ht hT hg (by with_unfolding_all rfl)
def gs(xs:List V)(lo hi:Option Int):List V:=(xs.drop (HT.iC xs.length 0 lo)).take (HT.iC xs.length xs.length hi-HT.iC xs.length 0 lo)
theorem wF(xs:List V)(lo hi:Option Int):(gs xs lo hi).length<=xs.length:=by
 unfold gs
 rw[XY,List.length_drop]
 omega
end
def ni(n:Nat)(i:Int):Option Nat:=if 0<=i then (if i<n then some i.toNat else none) else if -(n:Int)<=i then some (i+n).toNat else none
def kF{α:Type}(xs:List α)(i:Int):Option α:=(ni xs.length i).bind λj=>xs[j]?
theorem xf{n:Nat}{i:Int}{j:Nat}(h:ni n i=some j):seqIndex? i n=some j/\j<n /\ -(n:Int)<=i/\i<n:=by
 unfold ni at h
 by_cases h0:0<=i
 . rw[XO h0]at h
   by_cases h1:i<n
   . rw[XO h1]at h
     have e:i.toNat=j:=Xq h
     exact⟨by rw[seqIndex_of h0 h1,e],by omega,by omega,h1⟩
   . rw[XW h1]at h;cases h
 . rw[XW h0]at h
   by_cases h1 : -(n:Int)<=i
   . rw[XO h1]at h
     have e:(i+n).toNat=j:=Xq h
     exact⟨by rw[seqIndex_neg (by omega) h1,e],by omega,h1,by omega⟩
   . rw[XW h1]at h;cases h
theorem xg{α:Type}{xs:List α}{i:Int}{v:α}(h:kF xs i=some v):∃j,seqIndex? i xs.length=some j/\xs[j]?=some v/\j<xs.length /\ -(xs.length:Int)<=i/\i<xs.length:=by
 unfold kF at h
 cases e:ni xs.length i with
 | none=>rw[e]at h;cases h
 | some j=>
  rw[e]at h
  obtain⟨h1,h2,h3,h4⟩:=xf e
  exact⟨j,h1,h,h2,h3,h4⟩
theorem bt{α:Type}{xs:List α}{j:Nat}{v:α}(h:xs[j]?=some v):kF xs (j:Int)=some v:=by
 have hj:j<xs.length:=(Xr.mp h).1
 have e:ni xs.length (j:Int)=some j:=by
  unfold ni
  rw[XO (by omega),XO (by omega)];simp
 unfold kF;rw[e];exact h
def EE(b:Expr):Prop:=∀o i,subscripted b false o i=operate [o,i] (getItem o i)
def Gk(X:Cx)(r:R2):Prop:=
 ∀(value slice:Expr) (pins:List (Addr×Obj)) (s:Shared) (σ:St) (H:Hp) (x y:V) (v u:Value) (Q:VK),Inv X pins σ H s->RelV x v->RelV y u->r x y H Q->
  subscripted slice false v u=operate [v,u] (getItem v u)->wpAny (model X.prog X.w) X.A (subscriptTail value slice v u) (EP X pins σ Q) X.xe s
def Nj(X:Cx)(id:String)(r:V->List V->Hp->VK->Prop):Prop:=
 ∀(pins:List (Addr×Obj)) (s:Shared) (σ:St) (H:Hp) (x:V) (xs:List V) (v:Value) (us:List Value) (Q:VK),Inv X pins σ H s->RelV x v->Vals xs us->r x xs H Q->
  wpAny (model X.prog X.w) X.A (call (.builtin id) (v::us)) (EP X pins σ Q) X.xe s
section
variable {X:Cx}{a b:Expr}{ta tb:TE}{pos:Pos}
theorem aF{r:R2}(hr:Gk X r)(ha:PE X a ta)(hb:PE X b tb)(hs:EE b):PE X (.Subscript a b pos) (oF r ta tb):=by
 intro pins s σ H Q I h
 exact Subscript_ (Bu ha hb I h λv u s2 x y H2 I2 rx ry q=>hr a b pins s2 σ H2 x y v u Q I2 rx ry q (hs _ _))
def aZ(K:W.Frag):R2:=λx y H Q=>∃p xs i v,x=.ref p/\y=.int i/\ax K H p xs/\kF xs i=some v/\Q v H
def yt(K:W.Frag):R2:=λx y H Q=>∃p xs i v,x=.ref p/\y=.int i/\jr K H p xs/\kF xs i=some v/\Q v H
theorem ay:Gk X (aZ X.K):=by
 intro value slice pins s σ H x y v u Q I rx ry h hs
 obtain⟨p,xs,i,z,rfl,rfl,hq,he,q⟩:=h
 cases rx
 obtain⟨t,rfl⟩:=ry
 obtain⟨its,r,pl,hz⟩:=I.list hq
 obtain⟨j,h1,h2,h3,h4,h5⟩:=xg he
 obtain⟨w,ew,qf⟩:=r.get h2
 have hl:=r.length
 have hn:=pY
 have fin:EP X pins σ Q w s:=⟨z,H,I,qf,q⟩
 by_cases h0:0<=i
 . have hj:i.toNat=j:=by
    rw[seqIndex_of h0 h5]at h1
    exact Xq h1
   exact item_listR pl.isList h0 (by omega) (by rw[hj];simpa using ew) fin hs
 . have hj:(i+(its.toArray.size:Int)).toNat=j:=by
    rw[seqIndex_neg (by omega) h4]at h1
    rw[XN,← hl]
    exact Xq h1
   exact subscriptTail_builtinR (x:=w) pl.isList.typeIs slot_list_getitem.lookup
    (wpAny_getItem_list_neg (Q:=λr s'=>r=w/\EP X pins σ Q r s') pl.isList (by omega) (by rw[XN] <;> omega) (by omega) (by rw[hj];simpa using ew) ⟨rfl,fin⟩) hs
theorem um:Gk X (yt X.K):=by
 intro value slice pins s σ H x y v u Q I rx ry h hs
 obtain⟨p,xs,i,z,rfl,rfl,hq,he,q⟩:=h
 cases rx
 obtain⟨t,rfl⟩:=ry
 obtain⟨its,r,pl,hz⟩:=I.tuple hq
 obtain⟨j,h1,h2,h3,h4,h5⟩:=xg he
 obtain⟨w,ew,qf⟩:=r.get h2
 have hl:=r.length
 have hn:=pY
 have fin:EP X pins σ Q w s:=⟨z,H,I,qf,q⟩
 exact subscriptTail_builtinR (x:=w) pl.typeIs slot_tuple_getitem.lookup
  (getItem_tuple (j:=j) (Q:=λr s'=>r=w/\EP X pins σ Q r s') pl (by omega) (by omega) (by rw[XN,← hl];exact h1) (by simpa using ew) ⟨rfl,fin⟩) hs
theorem yu(its:List Value)(n j:Nat)(u:Value):Obj.mapSeq (·.setIfInBounds j u) {cls:=.type "list",data:=.seq its.toArray n} = {cls:=.type "list",data:=.seq (its.set j u).toArray n}:=by
 simp[Obj.mapSeq]
theorem Inv.lst{pins:List (Addr×Obj)}{σ:St}{H:Hp}{s:Shared}{p:Addr}{xs:List V}(I:Inv X pins σ H s) (h:H p=some (.lst xs)) :
 ∃(its:List Value) (n:Nat),Vals xs its/\s.heap.get? p=some {cls:=.type "list",data:=.seq its.toArray n} /\ xs.length<=sizeLine:=by
 obtain⟨z,its,n,r,e⟩:=I.hok p _ h
 exact⟨its,n,r,e,z⟩
theorem Inv.Gm{pins:List (Addr×Obj)}{σ:St}{H:Hp}{s:Shared}{p:Addr}{xs ys:List V}{its its':List Value}{n n':Nat}{f:Obj->Obj}(I:Inv X pins σ H s) (h:H p=some (.lst xs))
 (ho:s.heap.get? p=some {cls:=.type "list",data:=.seq its.toArray n}) (hf:f {cls:=.type "list",data:=.seq its.toArray n} = {cls:=.type "list",data:=.seq its'.toArray n'}) (r:Vals ys its') (hz:ys.length<=sizeLine) (t:Nat) :
 Inv X pins σ (upd H p (.lst ys)) {s with heap:=s.heap.update p f,toks:=t}:=by
 have e:(s.heap.update p f).get? p=some {cls:=.type "list",data:=.seq its'.toArray n'}:=by
  rw[Heap.get?_update_self f ho (by rw[hf] <;> rfl),hf]
 refine I.write (x:=p) (e:=p) (by rw[h];trivial) (.inl rfl) (λb u hb q=>(Heap.get?_update_other _ _ (YF hb)).trans q) ⟨_,e⟩ ?_
 exact⟨hz,its',n',r,e⟩
def MA:V->V->V->Hp->(Hp->Prop)->Prop:=λo i v H Q=>∃p xs k j,o=.ref p/\i=.int k/\H p=some (.lst xs)/\ni xs.length k=some j/\Q (upd H p (.lst (xs.set j v)))
theorem set_list:F0 X MA:=by
 intro pins s σ H o i v ov iv u Q I ro ri rv h
 obtain⟨p,xs,k,j,rfl,rfl,hp,hj,q⟩:=h
 cases ro
 obtain⟨t,rfl⟩:=ri
 obtain⟨its,n,r,ho,hz⟩:=I.lst hp
 obtain⟨h1,h2,h3,h4⟩:=xf hj
 have hl:=r.length
 have hn:=pY
 have I':Inv X pins σ (upd H p (.lst (xs.set j v))) {s with heap:=s.heap.update p (Obj.mapSeq (·.setIfInBounds j u))} :=
  I.Gm hp ho (yu its n j u) (r.set rv j) (by rw[YB];exact hz) s.toks
 by_cases h0:0<=k
 . have hk:k.toNat=j:=by
    rw[seqIndex_of h0 h4]at h1
    exact Xq h1
   exact W.ki_setAt ho h0 (by omega) (by rw[XN,← hl];exact h4) (by rw[hk];exact⟨_,I',q⟩)
 . have hk:(k+(its.toArray.size:Int)).toNat=j:=by
    rw[seqIndex_neg (by omega) h3]at h1
    rw[XN,← hl]
    exact Xq h1
   exact W.ki_setBack ho (by omega) (by rw[XN,← hl];exact h3) (by omega) (by rw[hk];exact⟨_,I',q⟩)
theorem uo(lo hi:Option Int)(n:Nat):(sliceBounds lo hi none n).1=((HT.iC n 0 lo:Nat):Int)/\(sliceBounds lo hi none n).2.1=((HT.iC n n hi:Nat):Int)/\(sliceBounds lo hi none n).2.2=1:=by
 refine⟨?_,?_,rfl⟩
 . cases lo with
   | none=>simp[sliceBounds,HT.iC]
   | some i=>
    simp only[sliceBounds,HT.iC,aac,show (1:Int)>0 by decide,aaC]
    by_cases h:i<0
    . simp only[h,aaC] <;> omega
    . simp only[h,aau] <;> omega
 . cases hi with
   | none=>simp[sliceBounds,HT.iC]
   | some i=>
    simp only[sliceBounds,HT.iC,aac,show (1:Int)>0 by decide,aaC]
    by_cases h:i<0
    . simp only[h,aaC] <;> omega
    . simp only[h,aau] <;> omega
theorem tG(its:List Value)(lo hi:Option Int):slicePick its.toArray lo hi none=((its.drop (HT.iC its.length 0 lo)).take (HT.iC its.length its.length hi-HT.iC its.length 0 lo)).toArray:=by
 obtain⟨h1,h2,h3⟩:=uo lo hi its.toArray.size
 unfold slicePick
 rw[h1,h2,h3]
 simp only[sliceRange_one,pick_run,XN] <;> rfl
def Qi(K:W.Frag):V->Option Int->Option Int->Hp->VK->Prop:=λx lo hi H Q=>∃a xs,x=.ref a/\ax K H a xs/\∀p,H p=none->Q (.ref p) (upd H p (.lst (gs xs lo hi)))
theorem gQ:Ni X (Qi X.K):=by
 intro pins s σ H x v vl vu lo hi sl Q I rx hs pl pu h
 obtain⟨a,xs,rfl,hx,q⟩:=h
 cases rx
 obtain⟨its,r,ht,hz⟩:=I.list hx
 have hlen:=r.length
 refine⟨"list",_,slot_list_getitem.lookup,ht.isList.typeIs,?_⟩
 refine wpAny_getItem_list_slice ht.isList hs pl pu .none (by simp) ?_ (by rw[XN] <;> omega)
 rw[tG,← hlen]
 refine⟨.ref s.heap.objs.size,_,I.laid (t':=s.toks) (o:=.lst (gs xs lo hi)) (λb ob q=>XC _ q) (Xv _) ?_,rfl,q _ (I.hok.fresh (Xv _))⟩
 exact⟨XS (wF xs lo hi) hz,_,0,(r.drop (HT.iC xs.length 0 lo)).take (HT.iC xs.length xs.length hi-HT.iC xs.length 0 lo),Yd _ rfl⟩
def jH:V->Bool
 | .bb=>true
 | .bl _=>true
 | .int _=>true
 | .str _=>true
 | _=>false
def qh:V->V->Bool
 | .bb,.bb=>true
 | .bl a,.bl b=>a == b
 | .bl a,.int b=>(if a then 1 else 0) == b
 | .int a,.bl b=>a == (if b then 1 else 0)
 | .int a,.int b=>a == b
 | .str a,.str b=>a == b
 | _,_=>false
theorem Gn{A:Around}{s:Shared}{y x:V}{u v:Value}(ry:RelV y u)(rx:RelV x v)(fy:jH y=true)(fx:jH x=true):SeqAt.EqAt A s u v (qh y x):=by
 cases y with
 | bb=>
  cases ry
  cases x with
  | bb=>cases rx;exact SeqAt.EqAt.same _
  | bl b=>cases rx;exact SeqAt.EqAt.none_bool b
  | int b=>obtain⟨t,rfl⟩:=rx;exact SeqAt.EqAt.none_int b t
  | str b=>obtain⟨t,rfl⟩:=rx;exact SeqAt.EqAt.none_str b t
  | _=>exact absurd (show false=true from fx) XM
 | bl a=>
  cases ry
  cases x with
  | bb=>cases rx;exact SeqAt.EqAt.bool_none a
  | bl b=>cases rx;exact SeqAt.EqAt.bool_bool a b
  | int b=>obtain⟨t,rfl⟩:=rx;exact SeqAt.EqAt.bool_int a b t
  | str b=>obtain⟨t,rfl⟩:=rx;exact SeqAt.EqAt.bool_str a b t
  | _=>exact absurd (show false=true from fx) XM
 | int a=>
  obtain⟨t',rfl⟩:=ry
  cases x with
  | bb=>cases rx;exact SeqAt.EqAt.int_none a t'
  | bl b=>cases rx;exact SeqAt.EqAt.int_bool a t' b
  | int b=>obtain⟨t,rfl⟩:=rx;exact SeqAt.EqAt.int_int a t' b t
  | str b=>obtain⟨t,rfl⟩:=rx;exact SeqAt.EqAt.int_str a t' b t
  | _=>exact absurd (show false=true from fx) XM
 | str a=>
  obtain⟨t',rfl⟩:=ry
  cases x with
  | bb=>cases rx;exact SeqAt.EqAt.str_none a t'
  | bl b=>cases rx;exact SeqAt.EqAt.str_bool a t' b
  | int b=>obtain⟨t,rfl⟩:=rx;exact SeqAt.EqAt.str_int a t' b t
  | str b=>obtain⟨t,rfl⟩:=rx;exact SeqAt.EqAt.str_str a t' b t
  | _=>exact absurd (show false=true from fx) XM
 | _=>exact absurd (show false=true from fy) XM
def qi(x:V)(u:Value):Bool:=match u with
 | .none=>qh .bb x
 | .bool b=>qh (.bl b) x
 | .int i _=>qh (.int i) x
 | .str z _=>qh (.str z) x
 | _=>false
theorem zz{x y:V}{u:Value}(r:RelV y u)(f:jH y=true):qi x u=qh y x:=by
 cases y with
 | bb=>cases r;rfl
 | bl b=>cases r;rfl
 | int i=>obtain⟨t,rfl⟩:=r;rfl
 | str z=>obtain⟨t,rfl⟩:=r;rfl
 | _=>exact absurd (show false=true from f) XM
theorem qU{x:V} : ∀{xs:List V}{us:List Value},Vals xs us->xs.all jH=true->us.any (qi x)=xs.any λy=>qh y x
 | _,_,.nil,_=>rfl
 | y::xs,u::us,.cons r t,f=>by
  rw[aaL,YT]at f
  rw[Zg,Zg,zz r f.1,qU t f.2]
theorem pb{A:Around}{s:Shared}{x:V}{v:Value}(rx:RelV x v)(fx:jH x=true):∀{xs:List V}{us:List Value},Vals xs us->xs.all jH=true->∀u∈us,SeqAt.EqAt A s u v (qi x u)
 | _,_,.nil,_=>λu hu=>by cases hu
 | y::xs,u::us,.cons r t,f=>λu' hu=>by
  rw[aaL,YT]at f
  rcases XI.mp hu with rfl|hu
  . rw[zz r f.1];exact Gn r rx f.1 fx
  . exact pb rx fx t f.2 u' hu
def Dr(x:V)(xs:List V):Bool:=xs.any λy=>qh y x
def Su(K:W.Frag)(neg:Bool):R2:=λx y H Q=>∃p xs,y=.ref p/\(ax K H p xs\/jr K H p xs)/\jH x=true/\xs.all jH=true/\Q (.bl (if neg then !Dr x xs else Dr x xs)) H
theorem jc:jt X (compareOp .NotIn) (Su X.K true):=by
 intro pins s σ H x y v u Q I rx ry h
 obtain⟨p,xs,rfl,hq,fx,fs,q⟩:=h
 cases ry
 rcases hq with hq|hq
 . obtain⟨its,r,pl,hz⟩:=I.list hq
   refine SeqAt.notIn_listAt (qi x) pl.isList (λw hw=>pb rx fx r fs w (by simpa using hw)) ⟨.bl _,H,I,rfl,?_⟩
   rw[show its.toArray.any (qi x)=its.any (qi x) by simp,qU r fs]
   exact q
 . obtain⟨its,r,pl,hz⟩:=I.tuple hq
   refine SeqAt.notIn_tupleAt (qi x) pl (λw hw=>pb rx fx r fs w (by simpa using hw)) ⟨.bl _,H,I,rfl,?_⟩
   rw[show its.toArray.any (qi x)=its.any (qi x) by simp,qU r fs]
   exact q
theorem a7:ir X (.builtin "len") (λxs H Q=>∃p ys,xs=[.ref p]/\(ax X.K H p ys\/jr X.K H p ys)/\Q (.int ys.length) H):=by
 intro pins s σ H xs us Q I r h
 obtain⟨p,ys,rfl,hq,q⟩:=h
 obtain⟨u,rfl,rx⟩:=vals1 r
 cases rx
 have hn:=pY
 rcases hq with hq|hq
 . obtain⟨its,r',pl,hz⟩:=I.list hq
   have hlen:=r'.length
   exact Calls.call_len_list pl.isList (by simp only[XN] <;> omega) ⟨.int ys.length,H,I.tok _,⟨s.toks+1,by rw[XN,hlen]⟩,q⟩
 . obtain⟨its,r',pl,hz⟩:=I.tuple hq
   have hlen:=r'.length
   exact len_tuple pl (by simp only[XN] <;> omega) ⟨.int ys.length,H,I.tok _,⟨s.toks+1,by rw[XN,hlen]⟩,q⟩
theorem jd:ir X (.type "list") (λxs H Q=>∃p ys,xs=[.ref p]/\(ax X.K H p ys\/jr X.K H p ys)/\∀l,H l=none->Q (.ref l) (upd H l (.lst ys))):=by
 intro pins s σ H xs us Q I r h
 obtain⟨p,ys,rfl,hq,q⟩:=h
 obtain⟨u,rfl,rx⟩:=vals1 r
 cases rx
 have fin:∀(its:List Value),Vals ys its->ys.length<=sizeLine->∀(h':Heap) (c':Nat),(∀b o',s.heap.get? b=some o'->h'.get? b=some o')->
  h'.get? s.heap.objs.size=some {cls:=.type "list",dict:=none,data:=.seq its.toArray c',slots:=#[] } -> EP X pins σ Q (.ref s.heap.objs.size) {s with heap:=h'}:=λits r' hz h' c' kp e=>
  ⟨.ref s.heap.objs.size,_,I.laid (t':=s.toks) kp (Xv _) (show cI X.prog X.w _ h' _ (.lst ys) from⟨hz,its,c',r',e⟩),rfl,q _ (I.hok.fresh (Xv _))⟩
 rcases hq with hq|hq
 . obtain⟨its,r',pl,hz⟩:=I.list hq
   have hlen:=r'.length
   obtain⟨o,ho,hc,n,hd⟩:=pl.isList
   exact call_list_seq p (.inl rfl) ho hc hd (λh' c' kp e=>fin its r' hz h' c' kp e) (by simp only[XN] <;> omega)
 . obtain⟨its,r',pl,hz⟩:=I.tuple hq
   have hlen:=r'.length
   obtain⟨o,ho,hc,n,hd⟩:=pl
   exact call_list_seq p (.inr rfl) ho hc hd (λh' c' kp e=>fin its r' hz h' c' kp e) (by simp only[XN] <;> omega)
def Gp(K:W.Frag)(T:String)(x:V)(H:Hp):Prop:=match x with
 | .str _=>T = "str"
 | .int _=>T = "int"
 | .ref p=>(T = "list" /\ ∃xs,ax K H p xs)\/(T = "tuple" /\ ∃o,K.lookup p=some o/\o.cls=.type "tuple" /\ o.dict=none)\/
  (T = "dict" /\ ((∃kvs,H p=some (.dK kvs))\/∃kvs,H p=some (.dT kvs)))\/(T = "set" /\ ∃S n,H p=some (.set S n))
 | _=>False
theorem zA{pins:List (Addr×Obj)}{σ:St}{H:Hp}{s:Shared}{T:String}{x:V}{v:Value}(I:Inv X pins σ H s) (r:RelV x v) (ty:Gp X.K T x H) :
 s.TypeIs v T/\∀a,v=.ref a->∃ob,s.heap.get? a=some ob/\ob.dict=none:=by
 cases x with
 | str z=>
  obtain⟨t,rfl⟩:=r
  cases(show T = "str" from ty)
  exact⟨typeIs_str s z t,λ_ e=>nomatch e⟩
 | int i=>
  obtain⟨t,rfl⟩:=r
  cases(show T = "int" from ty)
  exact⟨typeIs_int s i t,λ_ e=>nomatch e⟩
 | ref p=>
  cases r
  rcases ty with⟨rfl,xs,hq⟩|⟨rfl,o,hk,hc,hd⟩|⟨rfl,hk⟩|⟨rfl,S,n,hk⟩
  . obtain⟨its,_,pl,_⟩:=I.list hq
    refine⟨pl.isList.typeIs,λa e=>?_⟩
    cases e
    obtain⟨o,n,e,c,hd,_⟩:=pl
    exact⟨o,e,hd⟩
  . refine⟨⟨o,I.jo p o hk,hc⟩,λa e=>?_⟩
    cases e
    exact⟨o,I.jo _ o hk,hd⟩
  . have z:∃o,s.heap.get? p=some o/\o.ExactDict:=by
     rcases hk with⟨kvs,hk⟩|⟨kvs,hk⟩
     . obtain⟨_,_,_,_,o,_,_,e,ex,_⟩:=I.hok p _ hk
       exact⟨o,e,ex⟩
     . obtain⟨_,_,_,_,o,_,_,e,ex,_⟩:=I.hok p _ hk
       exact⟨o,e,ex⟩
    obtain⟨o,e,ex⟩:=z
    refine⟨⟨o,e,ex.1⟩,λa e2=>?_⟩
    cases e2
    exact⟨o,e,ex.2.1⟩
  . obtain⟨o,_,_,_,e,ex,_⟩:=I.hok p _ hk
    refine⟨⟨o,e,ex.1⟩,λa e2=>?_⟩
    cases e2
    exact⟨o,e,ex.2.1⟩
 | _=>exact False.elim ty
def Qj(K:W.Frag)(T:String)(r:V->List V->Hp->VK->Prop)(to:TE):TE:=λσ H Q=>to σ H λx H1=>Gp K T x H1/\r x [] H1 Q
def Sv(K:W.Frag)(T:String)(r:V->List V->Hp->VK->Prop)(to:TE)(t:TA):TE:=λσ H Q=>to σ H λx H1=>Gp K T x H1/\t σ H1 λxs H2=>r x xs H2 Q
variable {o e:Expr}{es:List Expr}{to:TE}{t:TA}{name:Str}{apos iM:Pos}{T id:String}{r:V->List V->Hp->VK->Prop}
theorem Gq(pa:PlainAttrs T)(slot:Slot T name id) (Gr:typeOf (.builtin id)=pure (.type "method_descriptor")) (hm:Nj X id r) (ho:PE X o to)
 (yw:attributeBase o name X.env (eval o X.env)=eval o X.env:=by rfl) (yx:(apos.endLine == iM.line)=true:=by rfl):PE X (.Call (.Attribute o name apos) [] [] iM) (Qj X.K T r to):=by
 intro pins s σ H Q I h
 refine wpAny_Call_method0_late yw yx (aS (ho pins s σ H _ I h) λv s1 zq=>?_)
 obtain⟨x,H1,I1,r1,ty,q1⟩:=zq
 obtain⟨h1,h2⟩:=zA I1 r1 ty
 exact⟨T,id,pa,slot,Gr,h1,h2,Calls.callWith_builtin rfl (PySem.evalArgs_none (hm pins s1 σ H1 x [] v [] Q I1 r1 .nil q1))⟩
theorem cV(pa:PlainAttrs T)(slot:Slot T name id) (Gr:typeOf (.builtin id)=pure (.type "method_descriptor")) (hm:Nj X id r) (ho:PE X o to) (ha:PA X (e::es) t)
 (yw:attributeBase o name X.env (eval o X.env)=eval o X.env:=by rfl)
 (Qk:((backTo iM (starEach (e::es) X.env)).all (λx=>!x.1) && (backToKw iM (keywordEach [] X.env)).all (λx=>x.1.isSome)
  && decide ((e::es).length+([]:List Keyword).length+(if ([]:List Keyword).isEmpty then 0 else 1)<30))=true:=by rfl)
 (yx:(apos.endLine == iM.line)=true:=by rfl) (hs:starEach (e::es) X.env=(false,eval e X.env)::starEach es X.env:=by rfl) (Gu:(backTo iM (starEach es X.env)).any (·.1)=false:=by rfl) :
 PE X (.Call (.Attribute o name apos) (e::es) [] iM) (Sv X.K T r to t):=by
 intro pins s σ H Q I h
 refine wpAny_Call_method_late yw Qk yx rfl (aS (ho pins s σ H _ I h) λv s1 zq=>?_)
 obtain⟨x,H1,I1,r1,ty,q1⟩:=zq
 obtain⟨h1,h2⟩:=zA I1 r1 ty
 refine⟨T,id,pa,slot,Gr,h1,h2,?_⟩
 have hA:=ha iM pins s1 σ H1 _ I1 q1
 rw[hs]at hA ⊢
 refine Calls.callWith_builtin (by show (false || (backTo iM (starEach es X.env)).any (·.1))=false;rw[Gu] <;> rfl) (Calls.evalArgs_plain ?_)
 exact aS hA λus s2 ⟨vs,H2,I2,r2,q2⟩=>hm pins s2 σ H2 x vs v us Q I2 r1 r2 q2
end
def Ds(X:Cx)(id:String)(r:V->List V->Hp->VK->Prop):Prop:=
 ∀(pins:List (Addr×Obj)) (s:Shared) (σ:St) (H:Hp) (x:V) (xs:List V) (v:Value) (us:List Value) (Q:VK),Inv X pins σ H s->RelV x v->Vals xs us->r x xs H Q->
  wpAny (model X.prog X.w) X.A (call (.builtin id) (v::us)) (EP X pins σ Q) X.xe s
theorem Vals.inv{x:V}{xs:List V}{us:List Value}(h:Vals (x::xs) us):∃u t,us=u::t/\RelV x u/\Vals xs t:=by
 cases h with
 | cons r t=>exact⟨_,_,rfl,r,t⟩
theorem Vals.one:∀{x:V}{us:List Value},Vals [x] us->∃u,us=[u]/\RelV x u:=by
 intro x us h
 obtain⟨u,t,rfl,r,h⟩:=h.inv
 cases h
 exact⟨u,rfl,r⟩
theorem Vals.zero:∀{us:List Value},Vals [] us->us=[]:=by
 intro us h
 cases h
 rfl
theorem Vals.dropLast{xs:List V}{us:List Value}(h:Vals xs us):Vals xs.dropLast us.dropLast:=by
 induction h with
 | nil=>exact .nil
 | cons r t ih=>
  cases t with
  | nil=>exact .nil
  | cons q t'=>exact .cons r ih
theorem Vals.rep{xs:List V}{us:List Value}(h:Vals xs us):∀k:Nat,Vals (List.replicate k xs).flatten (List.replicate k us).flatten
 | 0=>.nil
 | k+1=>by
  rw[Y7,Y7,Zy,Zy]
  exact Vals.append h (Vals.rep h k)
theorem yy{α:Type}(l:List α):l.eraseIdx (l.length-1)=l.dropLast:=by
 induction l with
 | nil=>rfl
 | cons a r ih=>
  cases r with
  | nil=>rfl
  | cons b r=>
   have e:(a::b::r).length-1=((b::r).length-1)+1:=by
    have h1:(a::b::r).length=r.length+2:=rfl
    have h2:(b::r).length=r.length+1:=rfl
    omega
   rw[e,List.eraseIdx_cons_succ,ih]
   all_goals rfl
theorem foldl_rep(its:List Value):∀(k:Nat) (acc:List Value),
 List.foldl (λx1 x2=>x1++x2) acc.toArray (List.replicate k its.toArray)=(acc++(List.replicate k its).flatten).toArray
 | 0,acc=>by simp
 | k+1,acc=>by
  have e:acc.toArray++its.toArray=(acc++its).toArray:=by simp
  have e2:(acc++its)++(List.replicate k its).flatten=acc++(List.replicate (k+1) its).flatten:=by
   rw[Y7,Zy,Y2]
  rw[← e2,← foldl_rep its k (acc++its),← e,Y7,List.foldl_cons]
section
variable {X:Cx}{pins:List (Addr×Obj)}{σ:St}{H:Hp}{s:Shared}{l b:Addr}{xs ys zs:List V}
theorem Inv.BE{its its':List Value}{n:Nat}{f:Array Value->Array Value}{t':Nat}(I:Inv X pins σ H s) (hH:H l=some (.lst xs))
 (e:s.heap.get? l=some {cls:=.type "list",data:=.seq its.toArray n}) (hf:f its.toArray=its'.toArray) (hv:Vals ys its') (hz:ys.length<=sizeLine) :
 Inv X pins σ (upd H l (.lst ys)) {s with heap:=s.heap.update l (Obj.mapSeq f),toks:=t'}:=by
 have q:=PySem.IsL.update e f
 rw[hf]at q
 refine I.write (x:=l) (e:=l) (by rw[hH];exact trivial) (.inl rfl) (λb' u hb hu=>(Heap.get?_update_other s.heap (Obj.mapSeq f) (YF hb)).trans hu) ⟨_,q⟩ ?_
 exact⟨hz,its',_,hv,q⟩
theorem Inv.BF{its:List Value}{t':Nat}(I:Inv X pins σ H s)(hv:Vals ys its)(hz:ys.length<=sizeLine) :
 Inv X pins σ (upd H s.heap.objs.size (.lst ys)) {s with heap:=s.heap.push {cls:=.type "list",data:=.seq its.toArray},toks:=t'} :=
 I.laid (λ_ _ q=>XC _ q) (Xv _) ⟨hz,its,0,hv,Yd _ rfl⟩
theorem Inv.fresh(I:Inv X pins σ H s):H s.heap.objs.size=none:=I.hok.fresh (Xv _)
theorem Inv.pf(I:Inv X pins σ H s) (hH:H l=some (.lst xs)):xs.length<=sizeLine/\∃(its:List Value) (n:Nat),Vals xs its/\xs.length=its.length/\s.heap.get? l=some {cls:=.type "list",data:=.seq its.toArray n}:=by
 obtain⟨z,its,n,r,e⟩:=I.hok l _ hH
 exact⟨z,its,n,r,r.length,e⟩
theorem lP{n:Nat}(h:n<=sizeLine):Builtin.List.listTooLong n=false:=by
 unfold Builtin.List.listTooLong
 exact Xz (by omega)
end
section
variable {X:Cx}
def EF:V->List V->Hp->VK->Prop:=λx vs H Q=>∃l xs y,x=.ref l/\vs=[y]/\H l=some (.lst xs)/\xs.length<sizeLine/\Q .bb (upd H l (.lst (xs++[y])))
theorem bz:Ds X "list.append" EF:=by
 intro pins s σ H x vs v us Q I rx rv h
 obtain⟨l,xs,y,rfl,rfl,hH,hz,q⟩:=h
 cases rx
 obtain⟨u,rfl,ru⟩:=rv.one
 obtain⟨z,its,n,r,hl,e⟩:=I.pf hH
 refine aav XG ⟨_,e,rfl⟩ F.entry_list_append (F.args_list_append_2 _ _) (PySem.list_append l its.toArray n u (by rw[XN];omega)) ⟨e,?_⟩
 refine⟨.bb,_,I.BE (its':=its++[u]) hH e (by simp) (r.append (.cons ru .nil)) ?_,rfl,q⟩
 rw[Xs,XE]
 omega
def EG:V->List V->Hp->VK->Prop:=λx vs H Q=>∃l b xs zs,x=.ref l/\vs=[.ref b]/\H l=some (.lst xs)/\H b=some (.lst zs)/\xs.length+zs.length<=sizeLine/\Q .bb (upd H l (.lst (xs++zs)))
theorem jQ:Ds X "list.extend" EG:=by
 intro pins s σ H x vs v us Q I rx rv h
 obtain⟨l,b,xs,zs,rfl,rfl,hH,hB,hz,q⟩:=h
 cases rx
 obtain⟨u,rfl,ru⟩:=rv.one
 cases ru
 obtain⟨z,its,n,r,hl,e⟩:=I.pf hH
 obtain⟨z2,ph,n2,r2,gX,e2⟩:=I.pf hB
 have hsz:its.toArray.size+ph.toArray.size<=sizeLine:=by rw[XN,XN];omega
 have yz:¬ (!its.toArray.isEmpty && Builtin.List.listTooLong (its.toArray.size+ph.toArray.size))=true:=by
  rw[lP hsz,Bool.and_false]
  exact XM
 refine aav YI ⟨_,e,rfl⟩ F.entry_list_extend (F.args_list_extend_2 _ _)
  (AutoSeq1.list_extend_list_list_0 l its.toArray n b ph.toArray n2 yz (by rw[XN];omega) (by omega)) ⟨e,e2,?_⟩
 refine⟨.bb,_,I.BE (its':=its++ph) hH e (by simp) (r.append r2) ?_,rfl,q⟩
 rw[Xs]
 omega
def Ql:V->List V->Hp->VK->Prop:=λx vs H Q=>∃l xs y,x=.ref l/\vs=[]/\H l=some (.lst xs)/\xs[xs.length-1]?=some y/\Q y (upd H l (.lst xs.dropLast))
theorem Gv:Ds X "list.pop" Ql:=by
 intro pins s σ H x vs v us Q I rx rv h
 obtain⟨l,xs,y,rfl,rfl,hH,hy,q⟩:=h
 cases rx
 have Gw:=rv.zero
 subst Gw
 obtain⟨z,its,n,r,hl,e⟩:=I.pf hH
 obtain⟨u,hu,ru⟩:=r.get hy
 have uq:its.toArray[its.toArray.size-1]?=some u:=by
  show its.toArray[its.length-1]?=some u
  rw[← aak,← hl]
  exact hu
 refine aav F.slot_list_pop ⟨_,e,rfl⟩ F.entry_list_pop (F.args_list_pop_1 _) (MeetsSeq.list_pop_last l its.toArray n u uq (by rw[XN];omega)) ⟨e,?_⟩
 refine⟨y,_,I.BE (its':=its.dropLast) hH e ?_ r.dropLast ?_,ru,q⟩
 . show its.toArray.eraseIdxIfInBounds (its.toArray.size-1)=its.dropLast.toArray
   rw[XN,List.eraseIdxIfInBounds_toArray,yy]
 . rw[aaw]
   omega
def Gx:R2:=λx y H Q=>∃l b xs zs,x=.ref l/\y=.ref b/\H l=some (.lst xs)/\H b=some (.lst zs)/\xs.length+zs.length<=sizeLine/\∀p,H p=none->Q (.ref p) (upd H p (.lst (xs++zs)))
theorem hX:jt X (binaryOp .Add) Gx:=by
 intro pins s σ H x y v u Q I rx ry h
 obtain⟨l,b,xs,zs,rfl,rfl,hH,hB,hz,q⟩:=h
 cases rx
 cases ry
 obtain⟨z,its,n,r,hl,e⟩:=I.pf hH
 obtain⟨z2,ph,n2,r2,gX,e2⟩:=I.pf hB
 refine PySem.P.add_list e e2 ?_ (by rw[XN,XN];omega)
 have ea:its.toArray++ph.toArray=(its++ph).toArray:=by simp
 rw[ea]
 exact⟨.ref _,_,I.BF (t':=s.toks) (r.append r2) (by rw[Xs];omega),rfl,q _ I.fresh⟩
def Qm:R2:=λx y H Q=>∃l k xs,x=.ref l/\y=.int k/\H l=some (.lst xs) /\ -(2 ^ 63)<=k/\k<2 ^ 63/\xs.length*k.toNat<=sizeLine/\
 ∀p,H p=none->Q (.ref p) (upd H p (.lst (List.replicate k.toNat xs).flatten))
theorem len_rep{α:Type}(xs:List α)(k:Nat):(List.replicate k xs).flatten.length=k*xs.length:=by
 induction k with
 | zero=>simp
 | succ k ih=>rw[Y7,Zy,Xs,ih,Nat.succ_mul,aal]
theorem nr:jt X (binaryOp .Mult) Qm:=by
 intro pins s σ H x y v u Q I rx ry h
 obtain⟨l,k,xs,rfl,rfl,hH,h1,h2,hz,q⟩:=h
 cases rx
 obtain⟨t,rfl⟩:=ry
 obtain⟨z,its,n,r,hl,e⟩:=I.pf hH
 have hlen:its.toArray.size*k.toNat<=sizeLine:=by rw[XN,← hl];exact hz
 have Qn:¬ its.toArray.size*k.toNat>(2 ^ 63-1) / 8:=by
  have:(sizeLine:Nat)<=(2 ^ 63-1) / 8:=by decide
  omega
 have Qo:¬ (!Builtin.List.listFitsIndex k)=true:=by
  rw[fitsIndex_both h1 h2]
  exact XM
 have yz:¬ Builtin.List.listTooLong (its.toArray.size*k.toNat)=true:=by
  rw[lP hlen]
  exact XM
 have qV:List.foldl (λx1 x2=>x1++x2) #[] (List.replicate (if its.toArray.isEmpty=true then 0 else k.toNat) its.toArray)=(List.replicate k.toNat its).flatten.toArray:=by
  have f0:∀m:Nat,List.foldl (λx1 x2=>x1++x2) #[] (List.replicate m its.toArray)=(List.replicate m its).flatten.toArray:=λm=>by
   have:=foldl_rep its m []
   rw[List.nil_append]at this
   exact this
  rw[f0]
  cases its with
  | nil=>simp
  | cons a r'=>rw[XW (by simp)]
 refine wpAny_binaryOp_repeat_ref (T:="list") (U:="int") (by decide) ⟨_,e,rfl⟩ (λs'=>typeIs_int s' k t) noFill_list_mul F.fills_int_mul F.slot_int_rmul repeat_list F.slot_int_index.lookup
  (aav F.slot_int_rmul (typeIs_int s k t) F.entry_int_rmul (F.args_int_rmul_2 _ _) (int___rmul___int_list k t l its.toArray n)
   ⟨e,rfl,⟨_,e,rfl⟩,aav F.slot_list_mul ⟨_,e,rfl⟩ F.entry_list_mul (F.args_list_mul_2 _ _) (AutoListH.list___mul___list_int_3 l its.toArray n k t Qo Qn yz) ⟨e,?_⟩⟩)
 rw[qV]
 exact⟨.ref _,_,I.BF (t':=s.toks) (r.rep k.toNat) (by rw[len_rep,Nat.mul_comm];exact hz),rfl,q _ I.fresh⟩
end
section
variable {prog:Program}{w:World}{A:Around}{E:Value->Shared->Prop}{s:Shared}
theorem yA{a c n:Nat}(je:a<=c)(hc:c<=n):sliceBounds (some (a:Int)) (some (c:Int)) none n=((a:Int),(c:Int),1):=by
 simp only[sliceBounds,aac]
 have h1:¬ ((a:Int)<0):=by omega
 have h2:¬ ((c:Int)<0):=by omega
 simp only[h1,h2,aau,show (1:Int)>0 by decide,aaC]
 congr 1
 . omega
 . congr 1;omega
set_option maxRecDepth 100000 in
theorem FO{l b sl:Addr}{items new:Array Value}{n n2:Nat}{vl vu:Value}{a c:Nat}{Q:Unit->Shared->Prop}
 (e:s.heap.get? l=some {cls:=.type "list",data:=.seq items n}) (e2:s.heap.get? b=some {cls:=.type "list",data:=.seq new n2}) (iF:l≠b)
 (hs:s.heap.IsSliceOf sl vl vu .none) (pl:IsPart vl (some (a:Int))) (pu:IsPart vu (some (c:Int))) (je:a<=c) (hc:c<=items.size)
 (hsz:items.size+new.size<=sizeLine) (h:Q () {s with heap:=s.heap.update l (Obj.mapSeq λxs=>xs.extract 0 a++new++xs.extract c xs.size)}) :
 wpAny (model prog w) A (setItem (.ref l) (.ref sl) (.ref b)) Q E s:=by
 have hl:s.heap.IsList l items:=PySem.IsL.isList e
 have hb:s.heap.IsList b new:=PySem.IsL.isList e2
 obtain⟨os,Dt,qj,Gy⟩:=id hs
 have Nk:s.TypeIs (.ref sl) "slice":=⟨os,Dt,qj⟩
 have MB:¬ ((rawPart none == rawInt 0)=true):=XM
 have yB:Builtin.List.listSameRef (.ref l) (.ref b)=false:=by
  unfold Builtin.List.listSameRef
  exact Yx.mpr iF
 have Qp:(max (a:Int) (c:Int)).toNat=c:=by omega
 have Gz:((λxs:Array Value=>xs.extract 0 a++new++xs.extract c xs.size) items).size<=sizeLine+1:=by
  simp only[Array.size_append,Array.size_extract]
  omega
 unfold setItem
 try with_reducible refine YV ?_
 first|refine Xy (X1 ?_)|skip
 refine Xy (wpAny_sequenceKey hl.typeIs (by decide) ?_)
 refine Xy (wpAny_callSpecial?_slot (name:=Str.ofString "__setitem__") hl.typeIs slot_list_setitem
  (wpAny_call_entry slot_list_setitem hl.typeIs entry_list_setitem ?_ (args_list_setitem _ _ _)))
 show wpAny _ _ (Builtin.List.listSubscript? (.ref sl) >>= _) _ _ s
 refine Xy ?_
 unfold Builtin.List.listSubscript?
 refine Xy (wpAny_specialOf Nk slice_no_index ?_)
 simp only[Option.isNone_none,aaC]
 refine X1 ?_
 show wpAny _ _ (typeOf (.ref sl) >>= _) _ _ s
 refine Xy (aam Nk ?_)
 first
  | rw[XW (by decide)]
  | refine W.KFB.if_not (by decide) ?_
 rw[listSliceParts_eq]
 refine Xy (Xy (wpAny_field Dt Gy (x:=.none) rfl (Xy (aaA .none ?_))))
 rw[XW MB]
 refine Xy (wpAny_field Dt Gy (x:=vl) rfl (Xy (aaA pl ?_)))
 refine Xy (wpAny_field Dt Gy (x:=vu) rfl (Xy (aaA pu (X1 ?_))))
 first
  | simp only[yB,Zq,aau]
  | refine W.KFB.if_not yB ?_
  | (dsimp only
     rw[XW (by rw[yB];exact XM)])
 refine Xy (m:=Builtin.List.listAllItems (.ref b) "must assign iterable to extended slice") ?_
 unfold Builtin.List.listAllItems
 refine Xy (aam hb.typeIs ?_)
 first
  | refine W.KFB.if_so (by decide) ?_
  | rw[XO (by decide)]
  | simp only[beq_self_eq_true,Bool.true_or,aaC]
 unfold Builtin.List.listItems
 refine Xy (aaB e2 rfl (X1 ?_))
 refine Xy (Xy (aaB e rfl (X1 ?_)))
 refine Xy (wpAny_of_eq ((sliceIndices_raw (some (a:Int)) (some (c:Int)) none items.size (by simp)).trans (congrArg (pure:Int×Int×Int->Sem (Int×Int×Int)) (yA je hc))) ?_)
 show wpAny _ _ (if ((1:Int) == 1)=true then _ else _) _ _ s
 rw[XO (by decide)]
 refine Xy (aaT ?_)
 first
  | simp only[lP hsz,Zq,aau]
  | refine W.KFB.if_not (lP hsz) ?_
 first|refine Xy (X1 ?_)|skip
 show wpAny _ _ (updateSeq l (λxs=>xs.extract 0 ((a:Int)).toNat++new++xs.extract (max (a:Int) (c:Int)).toNat xs.size) >>= _) _ _ s
 rw[Qp,Yj]
 refine Xy (wpAny_updateSeq (hz:=XS (Nat.le_add_right _ _) hsz) (_hz':=Gz) e rfl ?_)
 refine Xy (wpAny_letGo ?_)
 first
  | exact Xy (X1 (X1 ⟨.none,rfl,X1 h⟩))
  | exact X1 ⟨.none,rfl,X1 h⟩
end
section
variable {X:Cx}
end
end L2
namespace Nm
open PySem PySem.W PySem.Calls PyProof.Rows
theorem qk{P:Params}{h:Heap} : ∀(ns:List Int) (vs:List Value),WellAll P h vs (ns.map WData.int)->IntsAre vs ns:=by
 intro ns
 induction ns with
 | nil=>
  intro vs w
  rw[Ym]at w
  cases w
  exact .nil
 | cons n ns ih=>
  intro vs w
  rw[XQ]at w
  cases w with
  | cons a b=>
   cases a
   exact .cons _ _ (ih _ b)
theorem zB{l:OpenLaw}{n:Nat}(hn:l.most=some n){P:Params}{h:Heap}{args:List WData}{vals:List Value}
 (yC:l.row.toRowW.claim.pre args=true) (GC:WellAll P h vals args) :
 ∃a vs ns,vals=[Value.ref a]/\args=[WData.list (ns.map WData.int)]/\h.get? a=some {cls:=.type "list",data:=.seq vs.toArray} /\ IntsAre vs ns/\ns.length<=n:=by
 have Sw:WShape.hasAll [] args [.list .int]=true:=(pre_splitW yC).1
 have hc:l.pre.holds [] {args:=args} = true:=(pre_splitW yC).2
 obtain⟨d,r,rfl,h1,h2⟩:=hasAllW_cons Sw
 obtain rfl:=hasAllW_nil h2
 obtain⟨xs,rfl,h3⟩:=hasW_list h1
 obtain⟨ns,rfl⟩:=items_int h3
 have hlen:ns.length<=n:=by
  unfold OpenLaw.pre at hc
  have h4:(WTm.not (.lt (.lit (.int (n:Int))) (.len (.arg 0)))).holds [] {args:=[.list (ns.map .int)] } = true:=by
   have h4:=(holds_andW hc).1
   rw[hn]at h4
   exact h4
  have h5:=condW_of h4 (w_not (w_lt w_lit (w_len_list (w_arg rfl))))
  rw[Xl]at h5
  refine Nat.le_of_not_lt λq=>?_
  have q':(n:Int)<((ns.length:Nat):Int):=by omega
  first
   | (rw[Xw q']at h5;exact absurd h5 (by decide))
   | (simp at h5;omega)
 cases GC with
 | cons w1 w2=>
  cases w2
  cases w1 with
  | list ho Qq=>exact⟨_,_,ns,rfl,rfl,ho,qk ns _ Qq,hlen⟩
theorem zC(l:OpenLaw)(args:List WData):l.row.toRowW.claim.post args (.bool true) args=true:=
 postW_of (r:=l.row.toRowW) (X:=(true == true))
  (show WShape.has [] (.bool true) .bool=true by first|rfl|decide|simp[WShape.has,WShape.arms,WShape.armsAll])
  (show (WTm.eq .res (.lit (.bool true))).value [] {args:=args,res:=some (.bool true),after:=args} = some (.bool (true == true)) from w_eq_bool (w_res rfl) w_lit) rfl
theorem wG{l:OpenLaw}{n:Nat}{q:Program}{loose:List Str}{XP:(Str->Option Value)->Heap->Prop}{YP:World->Heap->Prop}{d:DefRec}
 (hn:l.most=some n) (zD:d.params.defaults=[])
 (call:∀(w:World) (j5 dQ:Shared) (mg mb:Str->Option Value) (fa:Addr) (o:Obj) (pm cd doc:Value) (a:Addr) (vs:List Value) (ns:List Int),
  Ground q loose [] XP w j5 mg mb dQ.heap->YP w dQ.heap->
  dQ.heap.get? fa=some o->o.data=.func (docDef d.name d.params d.body d.scope pm cd doc)->dQ.heap.CodeRec cd d.name->mg d.name=some (.ref fa)->
  dQ.heap.get? a=some {cls:=.type "list",data:=.seq vs.toArray} -> IntsAre vs ns->ns.length<=n->dQ.gens = #[]->
  codeAny (model l.prog w) callerA (.call (.ref fa) ⟨[.ref a],[]⟩) (λr s'=>r=.ok (.ret (.bool true))/\OldK dQ.heap s'.heap/\s'.os=dQ.os/\AllBare s'.gens) dQ) :
 WalkO q loose XP YP l.row.toRowW d [] (λf vs=>PySem.call f vs):=by
 intro w j5 dQ mg mb G Y fa o pm cd doc dV kV ho hd cE hD zE hg args vals as yC WM WY GC WZ
 obtain rfl:dV=.none:=Dflts.none hD zD
 obtain rfl:kV=.none:=Dflts.noKw hD
 obtain⟨a,vs,ns,rfl,rfl,BG,hints,hlen⟩:=zB hn yC GC
 refine enter_call (ZR (call w j5 dQ mg mb fa o pm cd doc a vs ns G Y ho (fd_plain hd) cE zE BG hints hlen hg) λr s' hq=>?_)
 obtain⟨rfl,h2,h3,h4⟩:=hq
 exact⟨.inl ⟨.bool true,.bool true,[],rfl,λ_=>rfl,.bool true,zC l _,λ_=>⟨List.Pairwise.nil,λ_ hm=>(nomatch hm)⟩⟩,h2,h3,h4⟩
section
variable {prog:Program}{w:World}{A:Around}{E:Value->Shared->Prop}{s:Shared}{K:Frag}
end
end Nm
namespace L2
open PySem PySem.Spec PyProof.Rows
theorem sH:∀{vs:List Value}{ns:List Int},IntsAre vs ns->Vals (ns.map V.int) vs
 | _,_,.nil=>.nil
 | _,_,.cons n t h=>.cons ⟨t,rfl⟩ (sH h)
def BH(H:Hp):Prop:=∀b,H b=none\/∃o xs,H b=some (.cX o (.lst xs))
theorem BI{P:Program}{w:World}{K:W.Frag}{mg mb:Str->Option Value}{CX:mZ}{k:Nat}{fa a:Addr}{fd:FuncData}{x:Str}{sp:Sp}{dQ:Shared}{vs:List Value}{ns:List Int}
 (KX:K.In dQ.heap) (Nn:dQ.heap.Ns mainGlobals mg) (hb:dQ.heap.Ns builtinsNs mb) (Sx:∀x:Str,x ≠ "__name__" -> mb x=bootBuiltins x) (Qr:dQ.heap.NoLimit) (hg:dQ.gens = #[])
 (ha:dQ.heap.get? a=some {cls:=.type "list",data:=.seq vs.toArray}) (hi:IntsAre vs ns) (hl:ns.length<=sizeLine) (hr:bx k callerA)
 (F:∀base:Heap,K.In base->base.Ns mainGlobals mg->aD P w K mg base CX k fa fd [x] sp) (MC:∀(s:Shared) (u:Value),BindsTo s fd ⟨[u],[]⟩ [(x,u)])
 (j2:∀H:Hp,BH H->ax K H a (ns.map V.int)->sp [.ref a] H (λv _=>v=.bl true) λ_ _ _=>False)
 (GD:∀H e s',CX [] H dQ (λ_ _ _=>False) e s'->False) :
 codeAny (model P w) callerA (.call (.ref fa) ⟨[.ref a],[]⟩) (λr s'=>r=.ok (.ret (.bool true))/\OldK dQ.heap s'.heap/\s'.os=dQ.os/\AllBare s'.gens) dQ:=by
 have rv:=sH hi
 have Qs:=hi.length
 have core:∀H:Hp,BH H->ax K H a (ns.map V.int)->fg P w H dQ.heap->(∀b,H b≠none->b=a)->(H a≠none->K.lookup a=none)->
  codeAny (model P w) callerA (.call (.ref fa) ⟨[.ref a],[]⟩) (λr s'=>r=.ok (.ret (.bool true))/\OldK dQ.heap s'.heap/\s'.os=dQ.os/\AllBare s'.gens) dQ:=by
  intro H hO hS hok hA hK
  have xh:∀{b:Addr}{o:Obj},dQ.heap.get? b=some o->H b=none->(lL dQ.heap H).get? b=some o:=λe n=>Br e n
  have zu:∀{b:Addr}{o:Obj}{es:Array DictEntry}{ep:Nat},dQ.heap.get? b=some o->o.data=.dict es ep->H b=none:=λ{b o es ep} e d=>by
   cases q:H b with
   | none=>rfl
   | some u=>
    have e':b=a:=hA b (by rw[q];simp)
    subst e'
    rw[ha]at e;cases e
    have d':Data.seq vs.toArray _=Data.dict es ep:=d
    cases d'
  have Du:∀{b:Addr}{m:Str->Option Value},dQ.heap.Ns b m->(lL dQ.heap H).Ns b m:=λ{b m} ⟨o,es,ep,e,d,r⟩=>⟨o,es,ep,xh e (zu e d),d,r⟩
  have Np:K.In (lL dQ.heap H):=λb o e=>xh (KX b o e) (by
   cases q:H b with
   | none=>rfl
   | some u=>
    have e':b=a:=hA b (by rw[q];simp)
    subst e'
    rw[hK (by rw[q];simp)]at e;cases e)
  have hM:Mod K mg (lL dQ.heap H):=⟨Np,Du Nn,⟨mb,Du hb,Sx⟩,let ⟨mc,h1,h2⟩:=Qr; ⟨mc,Du h1,h2⟩⟩
  have e0:ki P w K mg (lL dQ.heap H) callerA [] dQ H:=⟨rfl,hM,λb o e=>Ep e,Zb (y3 _ _),trivial,λb hb=>absurd (show b∈([]:List Addr) from hb) (by simp),hok,.of_eq hg⟩
  refine ZR ((F _ Np (Du Nn)).run callerA [] dQ H ⟨[.ref a],[]⟩ [.ref a] [.ref a] _ _ hr e0 (MC dQ (.ref a)) (.cons rfl .nil) (j2 H hO hS)) λr s' h=>?_
  cases r with
  | error e=>exact(GD H e s' h).elim
  | ok fl=>
   cases fl with
   | next=>exact False.elim h
   | brk=>exact False.elim h
   | cont=>exact False.elim h
   | ret u=>
    obtain⟨v,H',os,bare,un,Qt,r',q⟩:=h
    have q':v=.bl true:=q
    subst q'
    obtain rfl:u=Value.bool true:=r'
    refine⟨rfl,OldK.of_keep λb o e=>?_,os,bare⟩
    cases q:H b with
    | none=>exact un.keep b o e q (by intro z;exact absurd (show b∈([]:List Addr) from z) (by simp)) (by simp)
    | some u=>
     rcases hO b with z|⟨ob,xs,z⟩
     . rw[q]at z;cases z
     . have z2:=un.frzs b ob _ z
       obtain⟨e1,_⟩:=hok b _ z
       obtain⟨e2,_⟩:=Qt b _ z2
       rw[e]at e1;cases e1
       exact e2
 cases hk:K.lookup a with
 | some o=>
  have e:=KX a o hk
  rw[ha]at e
  cases e
  refine core (λ_=>none) (λ_=>.inl rfl) (.inr ⟨_,vs.toArray,_,hk,rfl,rfl,rfl,by rw[XN,Qs];exact hl,by simpa using rv⟩) (λb u z=>by have z':(none:Option HO)=some u:=z;cases z') (λb z=>absurd rfl z) λz=>absurd rfl z
 | none=>
  refine core (λb=>if b=a then some (.cX {cls:=.type "list",data:=.seq vs.toArray} (.lst (ns.map V.int))) else none) (λb=>?_) (.inl (.inr ⟨{cls:=.type "list",data:=.seq vs.toArray},XO rfl⟩)) (λb u z=>?_) (λb z=>?_) λ_=>hk
  . by_cases hb:b=a
    . exact .inr ⟨_,_,XO hb⟩
    . exact .inl (XW hb)
  . by_cases hb:b=a
    . have z':=(XO hb).symm.trans z
      cases z'
      subst hb
      exact⟨ha,by rw[Xl];exact hl,vs,_,rv,ha⟩
    . have z':=(XW hb).symm.trans z
      cases z'
  . by_cases hb:b=a
    . exact hb
    . exact absurd (XW hb) z
theorem EH{l:W.OpenLaw}{n k:Nat}{q:Program}{loose:List Str}{XP:(Str->Option Value)->Heap->Prop}{YP:World->Heap->Prop}{d:DefRec}{K:Params->W.Frag}{CX:World->mZ}{sp:World->Sp}{x:Str}
 (hn:l.most=some n) (Dl:n<=sizeLine) (zD:d.params.defaults=[]) (hr:bx k callerA)
 (hY:∀(w:World) (h:Heap),YP w h->(K w.params).In h)
 (F:∀(w:World) (mg:Str->Option Value) (fa:Addr) (h:Heap),(K w.params).In h->h.Ns mainGlobals mg->mg d.name=some (.ref fa)->
  ∃fd:FuncData,(∀(s:Shared) (u:Value),BindsTo s fd ⟨[u],[]⟩ [(x,u)])/\
   ∀base:Heap,(K w.params).In base->base.Ns mainGlobals mg->aD l.prog w (K w.params) mg base (CX w) k fa fd [x] (sp w))
 (j2:∀(w:World) (H:Hp) (a:Addr) (ns:List Int),ns.length<=n->BH H->ax (K w.params) H a (ns.map V.int)->sp w [.ref a] H (λv _=>v=.bl true) λ_ _ _=>False)
 (GD:∀(w:World) (H:Hp) (s:Shared) (e:Value) (s':Shared),CX w [] H s (λ_ _ _=>False) e s'->False) :
 W.WalkO q loose XP YP l.row.toRowW d [] (λf vs=>PySem.call f vs):=by
 refine Nm.wG hn zD λw j5 dQ mg mb fa o pm cd doc a vs ns G Y ho hd cE zE BG hints hlen hg=>?_
 have KX:=hY w _ Y
 obtain⟨fd,hb,hF⟩:=F w mg fa _ KX G.T.g zE
 exact BI KX G.T.g G.T.b G.T.builtins G.T.nolimit hg BG hints (XS hlen Dl) hr hF hb (λH hO hS=>j2 w H a ns hlen hO hS) λH e s'=>GD w H dQ e s'
def inClass(s:Stmt)(j:Nat):Stmt:=match s with
 | .ClassDef _ _ _ body _ _ _ _ _ _ _=>body.getD j (.Pass ⟨0,0,0,0⟩)
 | _=>.Pass ⟨0,0,0,0⟩
def iS(s:Stmt):Arguments:=match s with
 | .FunctionDef _ a _ _ _ _ _ _ _ _=>a
 | _=>{posonlyargs:=[],args:=[],vararg:=none,kwonlyargs:=[],kw_defaults:=[],kwarg:=none,defaults:=[] }
def gR(s:Stmt):List Stmt:=match s with
 | .FunctionDef _ _ b _ _ _ _ _ _ _=>b
 | _=>[]
def aB(s:Stmt):Scope:=match s with
 | .FunctionDef _ _ _ _ _ _ sc _ _ _=>sc
 | _=>{kind:=.function,names:=[],isGenerator:=false,isCoroutine:=false}
abbrev aT:mZ:=λ_ _ _ _ _ _=>False
abbrev E0:XK:=λ_ _ _=>False
theorem jf{X:Cx} : Passes aT X E0:=λ_ _ _ _ _ _ _ h=>h.elim
structure aM(K:W.Frag) (x qual:Str) (st:Stmt) (f:Addr) (fd:FuncData):Prop where
 ex:∃(oc:Value) (od:Option Addr) (kV doc pm:Value) (an:Option Addr) (a6 ct:Value) (sF:Array (Option Value)),
  fd=W.fnOf x qual (iS st) (gR st) (aB st) .none kV doc pm an a6 ct/\K.lookup f=some ⟨oc,od,.func fd,sF⟩/\W.codeIn K a6 qual=true
 kp:W.keepIn K (.ref f)=true
section
variable {P:Program}{w:World}{K:W.Frag}{mg:Str->Option Value}{base:Heap}
theorem aM.ok{x qual:Str}{st:Stmt}{f:Addr}{fd:FuncData}{N ps:List Str}{k:Nat}{sp:Sp}(F:aM K x qual st f fd) (S:aG N ps (aB st)) (len:∀vs H Q E,sp vs H Q E->vs.length=ps.length)
 (qc:∀(a6:Value) (A:Around) (outer:List Env) (s:Shared) (H:Hp) (vs:List V) (Q:VK) (E:XK),bx k (A.deeper (envOfC qual (aB st) s.heap.objs.size f a6))->sp vs H Q E->
  ∃t,kg (o9 aT P w K mg base N qual (aB st) f a6 A outer s H E).zc (gR st) t/\t {nx:=λ_ H'=>Q .bb H',rt:=Q} (start N vs) H):aD P w K mg base aT (k+1) f fd ps sp:=by
 obtain⟨oc,od,kV,doc,pm,an,a6,ct,sF,rfl,lk,cE⟩:=F.ex
 refine Ms lk cE S len λA outer s H vs Q E hr j2=>?_
 obtain⟨t,h,q⟩:=qc a6 A outer s H vs Q E hr j2
 exact⟨t,h.zc,q⟩
theorem aM.binds{x qual:Str}{st:Stmt}{f:Addr}{fd:FuncData}{ps:List Str}(F:aM K x qual st f fd)
 (h:∀(kV doc pm:Value) (an:Option Addr) (a6 ct:Value) (us:List Value),us.length=ps.length->bindArgs (W.fnOf x qual (iS st) (gR st) (aB st) .none kV doc pm an a6 ct) ⟨us,[]⟩=pure (ps.zip us)):Binds K fd ps []:=by
 obtain⟨oc,od,kV,doc,pm,an,a6,ct,sF,rfl,lk,cE⟩:=F.ex
 exact .all (h kV doc pm an a6 ct)
theorem GG{x qual:Str}{st:Stmt}{f:Addr}{oc:Value}{od an:Option Addr}{sF:Array (Option Value)}{kV doc pm a6 ct:Value}(l:K.lookup f=some ⟨oc,od,.func (W.fnOf x qual (iS st) (gR st) (aB st) .none kV doc pm an a6 ct),sF⟩)
 (c:W.codeIn K a6 qual=true) (k:W.keepIn K (.ref f)=true):aM K x qual st f (W.fnOf x qual (iS st) (gR st) (aB st) .none kV doc pm an a6 ct):=⟨⟨oc,od,kV,doc,pm,an,a6,ct,sF,rfl,l,c⟩,k⟩
end
theorem jI{A:Around}{k:Nat}(hr:bx k A):A.units+1<cLine:=XT (Nat.add_le_add_left (by decide:1<=64) _) hr.units
theorem hZ{n:Nat}(h:n<=1000):n<sizeLine:=XT h (by decide)
section
variable {X:Cx}
theorem pv(i:Nat){x:Str}{pos:Pos}(hN:X.N[i]?=some x:=by rfl) (hv:C6 X.env.scope x:=by first|exact Or.inl rfl|exact Or.inr (Or.inl rfl)|exact Or.inr (Or.inr rfl)) (hd:(x == ("__debug__" : Str))=false:=by decide)
 (cE:(x == ("__classdict__" : Str))=false:=by decide):PE X (.Name x pos) (eU i):=FX hN hv hd cE
end
theorem eP{A B:Prop}(h:B):if false=true then A else B:=by
 rw[XW XM]
 exact h
theorem iE{A B:Prop}(h:A):if true=true then A else B:=by
 rw[XO rfl]
 exact h
theorem pj{c A B:Prop}[Decidable c] (h1:c->A) (h2:¬ c->B):if c then A else B:=by
 by_cases h:c
 . rw[XO h]
   exact h1 h
 . rw[XW h]
   exact h2 h
def aC(H H':Hp):Prop:=∀b o,H b=some o->H' b=some o
theorem aC.trans{H H1 H2:Hp}(a:aC H H1)(b:aC H1 H2):aC H H2:=λc o h=>b c o (a c o h)
theorem aC.free{H H':Hp}(e:aC H H'){l:Addr}(h:H' l=Option.none):H l=Option.none:=by
 cases q:H l with
 | none=>rfl
 | some o=>
  rw[e l o q]at h
  cases h
theorem aC.seq{K:W.Frag}{H H':Hp}{a:Addr}{xs:List V}(e:aC H H')(h:ax K H a xs):ax K H' a xs:=by
 rcases h with (h|⟨o,h⟩)|h
 . exact .inl (.inl (e _ _ h))
 . exact .inl (.inr ⟨o,e _ _ h⟩)
 . exact .inr h
section
variable {X:Cx}
theorem ny:ir X (.builtin "len") (λxs H Q=>∃a kvs,xs=[V.ref a]/\H a=some (.dK kvs)/\Q (.int kvs.length) H):=by
 intro pins s σ H xs us Q I r h
 obtain⟨a,kvs,rfl,ha,q⟩:=h
 obtain⟨u,rfl,ru⟩:=vals1 r
 cases ru
 exact Mv I (.inl ha) λt s' I'=>⟨.int kvs.length,H,I',⟨t,rfl⟩,q⟩
end
end L2
set_option maxHeartbeats 4000000
namespace L2
open PySem PySem.Spec PyProof.Rows
theorem lQ(f:Str×NameKind->List (Str×Addr)->Sem (ForInStep (List (Str×Addr))))
 (hf:∀n k cs,f (n,k) cs=if (k == NameKind.free)=true then (cellOf env n >>= λa=>pure (ForInStep.yield ((n,a)::cs))) else pure (ForInStep.yield cs)) :
 ∀(names:List (Str×NameKind)) (acc:List (Str×Addr)),(∀x∈names,x.2=NameKind.free->∃c,env.cells.lookup x.1=some c)->(∀x c,acc.lookup x=some c->env.cells.lookup x=some c)->
  ∃cl,forIn names acc f=(pure cl:Sem (List (Str×Addr)))/\(∀x c,cl.lookup x=some c->env.cells.lookup x=some c)/\(∀x c,acc.lookup x=some c->∃c',cl.lookup x=some c')/\∀x∈names,x.2=NameKind.free->∃c,cl.lookup x.1=some c
 | [],acc,_,ha=>⟨acc,by simp,ha,λx c e=>⟨c,e⟩,λx hx=>by simp at hx⟩
 | (n,k)::r,acc,hn,ha=>by
  have Dc:∀x∈r,x.2=NameKind.free->∃c,env.cells.lookup x.1=some c:=λx hx=>hn x (XA _ hx)
  cases hk:k == NameKind.free with
  | false=>
   obtain⟨cl,e,h1,h2,h3⟩:=lQ f hf r acc Dc ha
   refine⟨cl,?_,h1,h2,λx hx hz=>?_⟩
   . rw[aan,hf,hk,XW XM,pure_bind]
     exact e
   . rcases XI.mp hx with z|hx
     . subst z
       have Gz:k=NameKind.free:=hz
       rw[Gz]at hk
       exact absurd hk (by decide)
     . exact h3 x hx hz
  | true=>
   have kX:k=NameKind.free:=by cases k <;> first|rfl|exact absurd hk (by decide)
   obtain⟨c,hc⟩:=hn (n,k) XB kX
   have gb:env.cells.lookup n=some c:=hc
   obtain⟨cl,e,h1,h2,h3⟩:=lQ f hf r ((n,c)::acc) Dc (λx d ed=>by
    rw[Y9]at ed
    cases hx:x == n with
    | true=>
     rw[hx]at ed
     rw[eq_of_beq hx,gb]
     exact ed
    | false=>
     rw[hx]at ed
     exact ha x d ed)
   have mj:∃c',cl.lookup n=some c':=h2 n c (by rw[Y9,beq_self_eq_true])
   refine⟨cl,?_,h1,λx d ed=>?_,λx hx hz=>?_⟩
   . rw[aan,hf,hk,XO rfl]
     unfold cellOf
     rw[gb]
     rw[pure_bind,pure_bind]
     exact e
   . cases hx:x == n with
     | true=>
      rw[eq_of_beq hx]
      exact mj
     | false=>
      refine h2 x d ?_
      rw[Y9,hx]
      exact ed
   . rcases XI.mp hx with z|hx
     . subst z
       exact mj
     . exact h3 x hx hz
theorem qW(h:∀x∈scope.names,x.2=NameKind.free->∃c,env.cells.lookup x.1=some c) :
 ∃cl,closureFor scope env=pure cl/\(∀x c,cl.lookup x=some c->env.cells.lookup x=some c)/\∀x∈scope.names,x.2=NameKind.free->∃c,cl.lookup x.1=some c:=by
 obtain⟨cl,e,h1,_,h3⟩:=lQ (env:=env) (λp cs=>if (p.2 == NameKind.free)=true then (cellOf env p.1 >>= λa=>pure (ForInStep.yield ((p.1,a)::cs))) else pure (ForInStep.yield cs)) (λn k cs=>rfl) scope.names [] h (λx c z=>by simp at z)
 refine⟨cl,?_,h1,h3⟩
 have key:closureFor scope env=(forIn scope.names ([]:List (Str×Addr)) (λ(p:Str×NameKind) cs=>if (p.2 == NameKind.free)=true then (cellOf env p.1 >>= λa=>pure (ForInStep.yield ((p.1,a)::cs))) else pure (ForInStep.yield cs)) >>= λcs=>pure cs):=rfl
 rw[key,e,pure_bind]
theorem lookup_mem{names:List (Str×NameKind)}{x:Str}{k:NameKind}(h:names.lookup x=some k):(x,k)∈names:=by
 induction names with
 | nil=>simp at h
 | cons p r ih=>
  obtain⟨n,j⟩:=p
  rw[Y9]at h
  cases hx:x == n with
  | true=>
   rw[hx]at h
   have e:j=k:=Xq h
   rw[eq_of_beq hx,e]
   exact XB
  | false=>
   rw[hx]at h
   exact XA _ (ih h)
def kM(env:Env)(p:Str×NameKind):Str×NameKind:=if (p.2 == NameKind.free && env.scope.kind == .function && env.kindOf p.1 == some .cell) then (p.1,.cell) else p
theorem mm(scope:Scope)(env:Env):(relabel scope env).names=scope.names.map (kM env):=rfl
theorem kN:∀(names:List (Str×NameKind)) (x:Str),(names.map (kM env)).lookup x=(names.lookup x).map λk=>(kM env (x,k)).2
 | [],x=>rfl
 | (n,k)::r,x=>by
  rw[XQ]
  have e1:(kM env (n,k)).1=n:=by unfold kM;split <;> rfl
  have:kM env (n,k)=(n,(kM env (n,k)).2):=Prod.ext e1 rfl
  rw[this,Y9,Y9]
  cases hx:x == n with
  | true=>
   rw[eq_of_beq hx]
   rfl
  | false=>exact kN r x
theorem BJ(h:scope.names.lookup x=some .free):(relabel scope env).names.lookup x=some .cell\/(relabel scope env).names.lookup x=some .free:=by
 rw[mm,kN,h]
 unfold kM
 simp only[Zd]
 split
 . exact .inl rfl
 . exact .inr rfl
theorem yD(h:(relabel scope env).names.lookup x=some .cell\/(relabel scope env).names.lookup x=some .free):scope.names.lookup x=some .free\/scope.names.lookup x=some .cell:=by
 rw[mm,kN]at h
 cases e:scope.names.lookup x with
 | none=>rw[e]at h;rcases h with h|h <;> cases h
 | some k=>
  rw[e]at h
  simp only[Zd,Option.some.injEq]at h
  by_cases hf:k=.free
  . rw[hf];exact .inl rfl
  . have hb:(k == NameKind.free)=false:=by cases k <;> first|rfl|exact absurd rfl hf
    have:(kM env (x,k)).2=k:=by
     unfold kM
     simp[hb]
    rw[this]at h
    rcases h with h|h
    . rw[h];exact .inr rfl
    . exact absurd h hf
def gz(X:Cx)(N:List Str)(scope:Scope) (cl:List (Str×Addr)) (C:Addr) (s:Shared) (H:Hp) (fp:List Addr) (pn:List (Addr×Obj)):Cx where
 prog:=X.prog
 w:=X.w
 K:=X.K
 mg:=X.mg
 base:=X.base
 A:=X.A
 N:=N
 j5:=s
 tD:=H
 env:=compEnvC scope cl C X.env
 outer:=X.stack
 stack:=X.stack
 ex:=fp
 fn:=λ_=>false
 calm:=true
 pn:=pn
 xe:=λ_ _=>False
abbrev sI(X:Cx)(N:List Str)(scope:Scope)(f:Str->Bool) (cl:List (Str×Addr)) (C:Addr) (s:Shared) (H:Hp) (fp:List Addr) (pn:List (Addr×Obj)):Cx:={gz X N scope cl C s H fp pn with fn:=f}
structure iG(X:Cx) (N:List Str) (js:List (Option Nat)) (scope:Scope) (ys:List Str:=[]):Prop where
 kind:scope.kind=.function
 one:(scope.names.filter λp=>p.2 == .cell).map (·.1)=ys
 at_:∀y∈scope.names,y.2=.local\/y.2=.cell->scope.names.lookup y.1=some y.2
 frees:∀y∈scope.names,y.2=.free->X.env.kindOf y.1=some .cell\/X.env.kindOf y.1=some .free
 len:js.length=N.length
 pull:∀(i j:Nat) (x:Str),js[i]?=some (some j)->N[i]?=some x->X.N[j]?=some x/\scope.names.lookup x=some .free
def fu(xn:List Str) (names:List (Str×NameKind)):List Str->List (Option Nat)->Bool
 | [],[]=>true
 | _::N,none::js=>fu xn names N js
 | x::N,some j::js=>(match xn[j]? with|some y=>decide (y=x)|none=>false) && (match names.lookup x with|some .free=>true|_=>false) && fu xn names N js
 | _,_=>false
theorem lR:∀{N:List Str}{js:List (Option Nat)},fu xn names N js=true->js.length=N.length
 | [],[],_=>rfl
 | x::N,none::js,h=>by
  have:=lR (N:=N) (js:=js) (by simpa[fu]using h)
  simp[this]
 | x::N,some j::js,h=>by
  have h':fu xn names N js=true:=by
   simp only[fu,YT]at h
   exact h.2
  simp[lR h']
 | [],_::_,h=>by simp[fu]at h
 | _::_,[],h=>by simp[fu]at h
theorem nz:∀{N:List Str}{js:List (Option Nat)},fu xn names N js=true->∀(i j:Nat) (x:Str),js[i]?=some (some j)->N[i]?=some x->xn[j]?=some x/\names.lookup x=some .free
 | [],[],_,i,j,x,e,_=>by simp at e
 | y::N,none::js,h,i,j,x,e1,e2=>by
  cases i with
  | zero=>simp at e1
  | succ i=>
   exact nz (N:=N) (js:=js) (by simpa[fu]using h) i j x (by simpa using e1) (by simpa using e2)
 | y::N,some j'::js,h,i,j,x,e1,e2=>by
  simp only[fu,YT]at h
  obtain⟨⟨h1,h2⟩,h3⟩:=h
  cases i with
  | zero=>
   have ej:j'=j:=by simpa using e1
   have ey:y=x:=by simpa using e2
   subst ej ey
   constructor
   . cases q:xn[j']? with
     | none=>rw[q]at h1;cases h1
     | some z=>
      rw[q]at h1
      rw[Yh h1]
   . cases q:names.lookup y with
     | none=>rw[q]at h2;cases h2
     | some k=>
      rw[q]at h2
      cases k <;> first|rfl|cases h2
  | succ i=>exact nz h3 i j x (by simpa using e1) (by simpa using e2)
 | [],_::_,h,_,_,_,_,_=>by simp[fu]at h
 | _::_,[],h,_,_,_,_,_=>by simp[fu]at h
def isFn:ScopeKind->Bool
 | .function=>true
 | _=>false
def qm(xn:List Str) (xs:List (Str×NameKind)) (N:List Str) (js:List (Option Nat)) (scope:Scope) (ys:List Str:=[]):Bool:=
 isFn scope.kind && decide ((scope.names.filter λp=>p.2 == .cell).map (·.1)=ys) && (scope.names.all λy=>match y.2 with
  | .cell=>(match scope.names.lookup y.1 with|some .cell=>true|_=>false)
  | .local=>(match scope.names.lookup y.1 with|some .local=>true|_=>false)
  | .free=>(match xs.lookup y.1 with|some .cell=>true|some .free=>true|_=>false)
  | _=>true) && fu xn scope.names N js
theorem iG.of(h:qm X.N X.env.scope.names N js scope ys=true):iG X N js scope ys:=by
 unfold qm at h
 simp only[YT,ZE,ZY]at h
 obtain⟨⟨⟨h1,h0⟩,h2⟩,h3⟩:=h
 refine⟨?_,h0,λy hy e=>?_,λy hy e=>?_,lR h3,nz h3⟩
 . cases q:scope.kind <;> rw[q]at h1 <;> first|rfl|cases h1
 . have:=h2 y hy
   rcases e with e|e <;> rw[e]at this ⊢
   all_goals
    cases q:scope.names.lookup y.1 with
    | none=>rw[q]at this;cases this
    | some k=>rw[q]at this;cases k <;> first|rfl|cases this
 . have:=h2 y hy
   rw[e]at this
   show X.env.scope.names.lookup y.1=some .cell\/X.env.scope.names.lookup y.1=some .free
   cases q:X.env.scope.names.lookup y.1 with
   | none=>rw[q]at this;cases this
   | some k=>rw[q]at this;cases k <;> first|exact .inl rfl|exact .inr rfl|cases this
theorem iG.names(S:iG X N js scope ys):∀y∈scope.names,y.2=.local->scope.names.lookup y.1=some .local:=λy hy e=>by
 rw[S.at_ y hy (.inl e),e]
theorem iG.mem(S:iG X N js scope ys)(hy:y∈scope.names)(e:y.2=.cell):y.1∈ys:=by
 rw[← S.one]
 exact Zm (Y0.mpr ⟨hy,by rw[e];rfl⟩)
theorem iG.zF(S:iG X N js scope):∀y∈scope.names,y.2≠.cell:=λy hy e=>by cases S.mem hy e
def oe(js:List (Option Nat)) (σ:St):St:=js.map λoj=>match oj with|none=>none|some j=>(σ[j]?).getD none
section
variable {X:Cx}{pins:List (Addr×Obj)}{σ:St}{H:Hp}{s:Shared}
theorem Inv.enter{f:Str->Bool}(I:Inv X pins σ H s)(S:iG X N js scope ys)(hc:X.calm=true)(nf:∀x,scope.names.lookup x=some .free->f x=false)(one:∀x z,f x=true->f z=true->x=z)
 (hcl:∀x c,cl.lookup x=some c->(f x=true/\c=C+1/\h'.IsCell c none)\/(f x=false/\X.env.cells.lookup x=some c)) (zG:∀x,scope.names.lookup x=some .free\/scope.names.lookup x=some .cell->∃c,cl.lookup x=some c) (hC:C=s.heap.objs.size)
 (hf:∀b∈fp,hJ X pins H b) (hl:∀b∈fp,b<s.heap.objs.size) (hn:h'.Ns C m) (k:∀b o,s.heap.get? b=some o->h'.get? b=some o) :
 Inv (sI X N scope f cl C s H fp (X.pn++pins)) [] (oe js σ) H {s with heap:=h',toks:=tk}:=by
 have lt:∀b o,s.heap.get? b=some o->b≠C:=λb o e=>by
  rw[hC]
  exact XZ (XR e)
 have Nq:∀x c,X.env.cells.lookup x=some c->c≠C+1:=λx c e=>by
  obtain⟨v,o,ho,_⟩:=I.cell x c e
  rw[hC]
  exact XZ (Zh (XR ho))
 have stk:∀b,b≠X.env.locals->b∉X.fs->b∉mi X.stack:=λb h1 h2 z=>(XI.mp (I.pO b z)).elim h1 h2
 have ok:(sI X N scope f cl C s H fp (X.pn++pins)).Ok:=by
  refine⟨I.ok.mod,S.kind,I.ok.glob,I.ok.blt,Zb hC.symm,λx z c e1 e2=>?_,λx hx=>zG x (yD hx),λx c e e1=>?_,λ_=>I.ok.hd hc,
   I.ok.frames,.inl rfl,λb hb=>⟨?_,λx c e=>?_⟩,I.bs,XS I.ok.bsz I.sz,λb o e hb=>?_,λb hb=>stk b (hf b hb).2.1 (hf b hb).2.2.1,I.stack,I.wL⟩
  . rcases hcl x c e1 with⟨r1,r2,_⟩|⟨r1,r2⟩ <;> rcases hcl z c e2 with⟨q1,q2,_⟩|⟨q1,q2⟩
    . exact one x z r1 q1
    . exact absurd r2 (Nq z c q2)
    . exact absurd q2 (Nq x c r2)
    . exact I.ok.inj x z c r2 q2
  . rcases hcl x c e1 with⟨_,r2,_⟩|⟨r1,_⟩
    . rw[r2,hC];exact YY _
    . rw[show f x=true from e]at r1;cases r1
  . show b≠C
    rw[hC]
    exact XZ (hl b hb)
  . rcases hcl x c e with⟨_,r2,_⟩|⟨_,r2⟩
    . rw[r2,hC];exact ZA (Zh (hl b hb))
    . exact(hf b hb).2.2.2.2.1 x c r2
  . rcases (hf b hb).2.2.2.1 with z|z
    . exact I.ok.noex b o e z
    . exact absurd (Yc (XR e) (XS I.ok.bsz z)) (YU _)
 refine⟨ok,rfl,I.bare,Un.kept k,⟨m,hn,λi x v e1 e2 e3=>?_⟩,λx c e=>?_,?_,λx c e=>?_,λp hp=>?_,I.hok.kept k,?_⟩
 . -- a name that the block closes over
   have ur:(oe js σ)[i]?=some (some v):=e2
   unfold oe at ur
   rw[Xt]at ur
   cases q:js[i]? with
   | none=>rw[q]at ur;cases ur
   | some oj=>
    rw[q]at ur
    cases oj with
    | none=>cases ur
    | some j=>
     have ev:(σ[j]?).getD none=some v:=Xq ur
     have Sy:σ[j]?=some (some v):=by
      cases z:σ[j]? with
      | none=>rw[z]at ev;cases ev
      | some o=>rw[z]at ev;exact congrArg some ev
     obtain⟨n1,n2⟩:=S.pull i j x q e1
     obtain⟨c,gb⟩:=zG x (.inl n2)
     have Sz:X.env.cells.lookup x=some c:=by
      rcases hcl x c gb with⟨z,_⟩|⟨_,z⟩
      . rw[nf x n2]at z;cases z
      . exact z
     obtain⟨m0,_,SA⟩:=I.loc
     have kx:=S.frees (x,.free) (lookup_mem n2) rfl
     have Nr:X.env.kindOf x=some .cell\/X.env.kindOf x=some .free:=kx
     obtain⟨u,ru,lk⟩:=SA j x v n1 Sy (Nr.elim (λz=>.inr (.inl z)) λz=>.inr (.inr z))
     refine⟨u,ru,.inr ⟨BJ n2,c,gb,?_⟩⟩
     rcases lk with⟨kl,_⟩|⟨_,c2,e2,ic⟩
     . rcases Nr with z|z <;> (rw[kl]at z;cases z)
     . rw[Sz]at e2
       cases e2
       obtain⟨o,ho,hd⟩:=ic
       exact⟨o,k c o ho,hd⟩
 . rcases hcl x c e with⟨_,_,r2⟩|⟨_,r2⟩
   . exact⟨none,r2⟩
   . obtain⟨v,o,ho,hd⟩:=I.cell x c r2
     exact⟨v,o,k c o ho,hd⟩
 . show H C=none
   rw[hC]
   exact I.hok.fresh (Xv _)
 . rcases hcl x c e with⟨_,r2,_⟩|⟨_,r2⟩
   . rw[r2,hC];exact I.hok.fresh (YY _)
   . exact I.freeC x c r2
 . have Dv:p∈X.pn++pins:=by simpa[gz]using hp
   obtain⟨e,n,ne,nf,d⟩:=I.pin p Dv
   exact⟨k _ _ e,n,lt _ _ e,stk _ ne nf,d⟩
 . show (oe js σ).length=N.length
   unfold oe
   rw[Xl]
   exact S.len
theorem Inv.left{f:Str->Bool}(I:Inv X pins σ H s)(hf:∀b∈fp,hJ X pins H b)
 (J:Inv (sI X N scope f cl C s H fp pn) [] Xk H' s'):Inv X pins σ H' s':=
 I.Me (ch:=fp) J.os J.base J.hok J.bare λb hb=>⟨(hf b hb).2.2.2.1,(hf b hb).2.1,(hf b hb).2.2.2.2.1,(hf b hb).2.2.2.2.2⟩
end
def qX(X:Cx)(ifs:List Expr)(t:TT):Prop:=
 ∀(pins:List (Addr×Obj)) (s:Shared) (σ:St) (H:Hp) (Q:Bool->Hp->Prop),Inv X pins σ H s->t σ H Q->
  wpAny (model X.prog X.w) X.A (forIn ifs true λc r=>if r=true then do let ok ← isTrue c X.env (eval c X.env);pure (ForInStep.yield ok) else pure (ForInStep.yield r)) (TP X pins σ Q) X.xe s
def lS:TT:=λ_ H Q=>Q true H
theorem dj:qX X [] lS:=λpins s σ H Q I h=>by
 rw[List.forIn_nil]
 exact X1 ⟨H,I,h⟩
theorem pA(hc:PT X c t):qX X [c] t:=λpins s σ H Q I h=>by
 rw[aan]
 refine Xy ?_
 rw[XO rfl]
 refine Xy (aS (hc pins s σ H Q I h) λb s1 h1=>?_)
 refine X1 ?_
 show wpAny _ _ (forIn [] b _) _ _ _
 rw[List.forIn_nil]
 exact X1 h1
theorem uu(I:Nat->Shared->Prop)
 (turn:∀n s,I n s->wpAny (model prog w) A (pyNext it) (λr dQ=>match r with
  | none=>R (.ok .next) dQ
  | some v=>wpAny (model prog w) A (letOwnedTupleGo target it v) (λ_ Nt=>wpAny (model prog w) A (assign target env v) (λ_ oY=>
   wpAny (model prog w) A (forIn ifs true λc r=>if r=true then do let ok ← isTrue c env (eval c env);pure (ForInStep.yield ok) else pure (ForInStep.yield r)) (λok zd=>
    if ok=true then wpAny (model prog w) A (eval elt env) (λx SD=>
     wpAny (model prog w) A (call (.builtin "list.append") [acc,x]) (λ_ SE=>∃m,m<n/\I m SE) (λ_ _=>False) SD) (λ_ _=>False) zd
    else ∃m,m<n/\I m zd) (λ_ _=>False) oY) (λ_ _=>False) Nt) (λ_ _=>False) dQ) (λ_ _=>False) s)
 (n:Nat) (h:I n s) :
 codeAny (model prog w) A (.compLoop (.ListComp elt [⟨target,iter,ifs,0⟩] scope pos) 0 it acc env) R s:=by
 refine codeAny_loop rfl I (λn s hI=>?_) n h
 show wpAny _ A ((compTurn (.ListComp elt [⟨target,iter,ifs,0⟩] scope pos) 0 it acc env).onRaise (λx=>do noteFrame x env;theTreesLotGoes x)) _ _ s
 refine wpAny_noted ?_
 rw[compTurn_list]
 refine Xy (Z5 (Xy (YG (turn n s hI) (λr dQ zy=>?_) λ_ _ h'=>h'.elim)))
 cases r with
 | none=>exact X1 zy
 | some v=>
  refine Xy (YG zy (λ_ Nt SF=>?_) λ_ _ h'=>h'.elim)
  refine Xy (YG SF (λ_ oY Gi=>Xy (YG Gi (λok zd Mw=>?_) λ_ _ h'=>h'.elim)) λ_ _ h'=>h'.elim)
  cases ok with
  | false=>exact X1 ⟨rfl,Mw⟩
  | true=>
   exact Xy (Xy (YG Mw (λx SD WN=>Xy (YG WN (λ_ SE WO=>X1 (X1 ⟨rfl,WO⟩)) λ_ _ h'=>h'.elim)) λ_ _ h'=>h'.elim))
def nB(D:Addr)(g:TG)(ti:TT)(te:TE)(J:It)(W:Nat->Nat->St->Hp->Prop)(Q:Hp->Prop):Prop:=∀i m σ H,W i m σ H->
 (J.stop i H/\Q H)\/(J.go i H/\∀x H',J.yld i H x H'->g x σ H' λgr H2=>ti gr H2 λb H3=>
  if b=true then te gr H3 λy H4=>∃acc,H4 D=some (.lst acc)/\acc.length<sizeLine/\∃m',m'<m/\W (i+1) m' gr (upd H4 D (.lst (acc++[y])))
  else ∃m',m'<m/\W (i+1) m' gr H3)
def GH(js:List (Option Nat)) (wi:TI) (g:TG) (ti:TT) (te:TE):TE:=λσ H Q=>wi σ H λJ H1=>∀D,H1 D=none->
 ∃W:Nat->Nat->St->Hp->Prop,(∃m,W 0 m (oe js σ) (upd H1 D (.lst [])))/\nB D g ti te J W (λH'=>Q (.ref D) H')
section
variable {X:Cx}{N:List Str}{js:List (Option Nat)}{scope:Scope}{elt tg iter:Expr}{ifs:List Expr}{pos:Pos}{wi:TI}{g:TG}{ti:TT}{te:TE}
def Nu(X:Cx) (pins:List (Addr×Obj)) (σ:St) (Q:VK) (use:Option (Value->Sem Unit)) (R:Value->Shared->Prop):Prop:=
 ∀D C (H':Hp) (s':Shared),Inv X pins σ H' s'->(∃m,s'.heap.Ns C m)->H' C=none->C≠X.env.locals->(C∈X.ex\/X.j5.heap.objs.size<=C)->(∀x c,X.env.cells.lookup x=some c->c≠C)->(∀p∈X.pn++pins,p.1≠C)->Q (.ref D) H'->
  compPost (model X.prog X.w) X.A X.xe use R (.ref D) C (.ok .next) s'
def zH(X:Cx)(elt tg iter:Expr)(ifs:List Expr)(scope:Scope)(pos:Pos)(t:TE):Prop:=∀(pins:List (Addr×Obj)) (s:Shared) (σ:St) (H:Hp) (Q:VK) (use:Option (Value->Sem Unit)) (R:Value->Shared->Prop),Inv X pins σ H s->t σ H Q->Nu X pins σ Q use R->
 wpAny (model X.prog X.w) X.A (comprehension (.ListComp elt [⟨tg,iter,ifs,0⟩] scope pos) scope X.env (firstIterPos [⟨tg,iter,ifs,0⟩] pos) (newList []) false (eval iter X.env) use) R X.xe s
theorem MD{f:Str->Bool}(hg:∀cl C s H fp pn,PG (sI X N scope f cl C s H fp pn) tg g) (ht:∀cl C s H fp pn,qX (sI X N scope f cl C s H fp pn) ifs ti) (he:∀cl C s H fp pn,PE (sI X N scope f cl C s H fp pn) elt te)
 (I3:Inv X pins σ H3 s3) (f3:∀b∈fp,hJ X pins H3 b) (hC:C=s3.heap.objs.size) (SG:∀b∈fp,b<s3.heap.objs.size) (hcl:∀x c,cl.lookup x=some c->∀b∈fp,c≠b)
 (I4:Inv (sI X N scope f cl C s3 H3 fp (X.pn++pins)) [] WQ H3 s4) (T:Turn X.prog X.w X.K tg J fp it tn) (Dw:tn 0 s4.heap) (w0:W 0 m0 WQ H3) (turn:nB D g ti te J W (λH'=>Q (.ref D) H')) (hR:Nu X pins σ Q use R) :
 codeAny (model X.prog X.w) X.A (.compLoop (.ListComp elt [⟨tg,iter,ifs,0⟩] scope pos) 0 (.ref it) (.ref D) (compEnvC scope cl C X.env)) (compPost (model X.prog X.w) X.A X.xe use R (.ref D) C) s4:=by
 generalize hY:sI X N scope f cl C s3 H3 fp (X.pn++pins)=Y at I4
 have fY:∀{H':Hp},(∀b∈fp,H' b=none)->∀b∈fp,hJ Y [] H' b:=λhn b hb=>by
  obtain⟨f0,fa,fb,fc,fd,fe⟩:=f3 b hb
  subst hY
  refine⟨hn b hb,?_,λz=>(XI.mp (I3.pO b z)).elim fa fb,.inl hb,λx c e=>hcl x c e b hb,λp hp=>fe p (by simpa[gz]using hp)⟩
  show b≠C
  rw[hC]
  exact XZ (SG b hb)
 obtain⟨e1,e2,e3,e4,e5,e6,e7⟩:Y.prog=X.prog/\Y.w=X.w/\Y.A=X.A/\Y.env=compEnvC scope cl C X.env/\(Y.xe=λ_ _=>False)/\Y.K=X.K/\Y.calm=true:=by subst hY;exact⟨rfl,rfl,rfl,rfl,rfl,rfl,rfl⟩
 refine uu (λn s'=>∃i bq H',Inv Y [] bq H' s'/\tn i s'.heap/\(∀b∈fp,H' b=none)/\W i n bq H') ?_ m0 ⟨0,_,_,I4,Dw,λb hb=>(f3 b hb).1,w0⟩
 rintro n s5 ⟨i,ME,H5,I5,wR,Dj,w5⟩
 rcases turn i n ME H5 w5 with⟨stop,qn⟩|⟨go,step⟩
 . have t:=T.done Y e1 e2 e6 e7 i [] s5 ME H5 (λ_ _=>False) I5 (fY Dj) wR stop
   subst hY
   refine aS t λr s6 z=>?_
   obtain⟨hr,I6⟩:=z
   subst hr
   have n:∀b o,s3.heap.get? b=some o->b≠C:=λb o e=>by
    rw[hC]
    exact XZ (XR e)
   refine hR D C H5 s6 (I3.left f3 I6) (let ⟨m,hn,_⟩:=I6.loc; ⟨m,hn⟩) I6.free ?_ (.inr ?_) (λx c e=>?_) (λp hp=>?_) qn
   . rw[hC]
     exact ZA I3.lt
   . rw[hC];exact I3.sz
   . obtain⟨v,o,ho,_⟩:=I3.cell x c e
     exact n _ _ ho
   . exact n _ _ (I3.pin p hp).1
 . have t:=T.item Y e1 e2 e6 e7 i [] s5 ME H5 (λ_ _=>False) I5 (fY Dj) wR go
   have hg:=hg cl C s3 H3 fp (X.pn++pins)
   have ht:=ht cl C s3 H3 fp (X.pn++pins)
   have he:=he cl C s3 H3 fp (X.pn++pins)
   rw[hY]at hg ht he
   rw[e3]at t
   refine aS t λr s6 z=>?_
   obtain⟨u,hr,h6⟩:=z
   subst hr
   refine aS h6 λ_ s7 z=>?_
   obtain⟨x,H7,I7,r7,y7,GI,SH⟩:=z
   have SI:=I7.pinned (fY SH) (T.obj _ _ GI)
   have again:∀{n':Nat}{zI:St}{H8:Hp}{s8:Shared},Inv Y ([]++mR fp s7.heap) zI H8 s8->n'<n->W (i+1) n' zI H8->
    ∃m,m<n/\∃i bq H',Inv Y [] bq H' s8/\tn i s8.heap/\(∀b∈fp,H' b=none)/\W i m bq H':=λ{n' zI H8 s8} I8 hm w8=>by
    refine⟨n',hm,i+1,zI,H8,I8.kh,T.keep _ _ _ GI λb hb o e=>(I8.pin (b,o) (Xu _ (Xu _ (jb hb e)))).1,λb hb=>?_,w8⟩
    obtain⟨o,e,d⟩:=T.obj _ _ GI b hb
    exact(I8.pin (b,o) (Xu _ (Xu _ (jb hb e)))).2.1
   have g7:=hg _ s7 ME H7 x u _ SI r7 (step x H7 y7)
   rw[e1,e2,e3,e4,e5]at g7
   refine aS g7 λ_ s8 z=>?_
   obtain⟨zI,H8,I8,q8⟩:=z
   have g8:=ht _ s8 zI H8 _ I8 q8
   rw[e1,e2,e3,e4,e5]at g8
   refine aS g8 λok s9 z=>?_
   obtain⟨H9,I9,q9⟩:=z
   cases ok with
   | false=>
    rw[XW XM]at q9 ⊢
    obtain⟨m',hm,w9⟩:=q9
    exact again I9 hm w9
   | true=>
    rw[XO rfl]at q9 ⊢
    have g9:=he _ s9 zI H9 _ I9 q9
    rw[e1,e2,e3,e4,e5]at g9
    refine aS g9 λyv GJ z=>?_
    obtain⟨y,kG,SJ,SK,acc,hD,hl,m',hm,SM⟩:=z
    have Nv:=bz (X:=Y) _ GJ zI kG (.ref D) [y] (.ref D) [yv] (λ_ H'=>H'=upd kG D (.lst (acc++[y]))) SJ rfl (.cons SK .nil) ⟨D,acc,y,rfl,rfl,hD,hl,rfl⟩
    rw[e1,e2,e3,e5]at Nv
    refine aS Nv λ_ Nw z=>?_
    obtain⟨_,xi,SN,_,xj⟩:=z
    subst xj
    exact again SN hm SM
theorem zJ(S:iG X N js scope)(hc:X.calm=true)(hi:PI X tg iter wi)
 (hg:∀cl C s H fp pn,PG (gz X N scope cl C s H fp pn) tg g) (ht:∀cl C s H fp pn,qX (gz X N scope cl C s H fp pn) ifs ti) (he:∀cl C s H fp pn,PE (gz X N scope cl C s H fp pn) elt te)
 (hs:∀x,foldedSetIterable iter X.env x=pure x):zH X elt tg iter ifs scope pos (GH js wi g ti te):=by
 intro pins s σ H Q use R I h hR
 obtain⟨cl,MF,hcl,SO⟩:=qW (scope:=scope) (env:=X.env) λx hx hk=>I.ok.has x.1 (S.frees x hx hk)
 refine wpAny_comprehension_free (use:=use) rfl hs MF S.kind S.names (aS (hi pins s σ H _ I h) λxv s1 h1=>aS h1 λF4 s2 h2=>?_)
 obtain⟨it,fp,tn,J,H2,e,I2,T,oE,f2,q2⟩:=h2
 subst e
 refine wpAny_newObj_type (wpAny_newFunctionEnv S.zF (by intro y hy;simp at hy) (λzy GK GN=>?_) S.kind)
 dsimp only at GK GN ⊢
 have I3:Inv X pins σ (upd H2 s2.heap.objs.size (.lst [])) {s2 with heap:=s2.heap.push {cls:=.type "list",data:=.seq ([]:List Value).toArray},toks:=s2.toks}:=I2.BF .nil (by show 0<=sizeLine;decide)
 have lt2:∀b∈fp,b<s2.heap.objs.size:=λb hb=>let ⟨o,e,_⟩:=T.obj _ _ oE b hb;XR e
 have f3:∀b∈fp,hJ X pins (upd H2 s2.heap.objs.size (.lst [])) b:=λb hb=>⟨by rw[ag (XZ (lt2 b hb))];exact(f2 b hb).1,(f2 b hb).2⟩
 obtain⟨W,⟨m0,w0⟩,turn⟩:=q2 s2.heap.objs.size (I2.hok.fresh (Xv _))
 have k1:∀b o,(s2.heap.push {cls:=.type "list",data:=.seq ([]:List Value).toArray}).get? b=some o->zy.get? b=some o:=λb o e=>GN.extBut b o (XZ (XR e)) (XC _ e)
 have l3:∀b∈fp,b<(s2.heap.push {cls:=.type "list",data:=.seq ([]:List Value).toArray}).objs.size:=λb hb=>by rw[aaz];exact Zh (lt2 b hb)
 have Dw:tn 0 zy:=T.keep _ _ _ oE λb hb o e=>k1 b o (XC _ e)
 have I4:=I3.enter (f:=λ_=>false) (h':=zy) (tk:=s2.toks+([]:List (Str×Value)).length) S hc (λ_ _=>rfl) (λ_ _ e=>by cases e) (λx c e=>.inr ⟨rfl,hcl x c e⟩) (λx hx=>hx.elim (λe=>SO _ (lookup_mem e) rfl) λe=>absurd rfl (S.zF _ (lookup_mem e))) rfl f3 l3 GK k1
 have loop:=MD (f:=λ_=>false) (iter:=iter) (pos:=pos) hg ht he I3 f3 rfl l3 (λx c e b hb=>(f3 b hb).2.2.2.2.1 x c (hcl x c e)) I4 T Dw w0 turn hR
 exact codeAny_compStart_list loop (T.self _ 0 _ _ _ Dw loop)
theorem zH.pe(h:zH X elt tg iter ifs scope pos t):PE X (.ListComp elt [⟨tg,iter,ifs,0⟩] scope pos) t:=by
 intro pins s σ H Q I q
 rw[eval_ListComp]
 refine h pins s σ H Q none _ I q ?_
 rintro D C H' s' I' ⟨m,hn⟩ c1 c2 c3 c4 c5 q
 exact⟨m,hn,λh' mn=>⟨.ref D,H',I'.turned (t':=s'.toks) (λb o hb e=>mn.extBut b o hb e) c1 c2 c3 c4 c5,rfl,q⟩⟩
theorem zH.ps(h:zH X elt tg iter ifs scope pos t)(hN:X.N.Nodup)(gf:X.N[i]?=some x)(hx:X.env.scope.names.lookup x=some .local)
 (GU:swapsWith (.ListComp elt [⟨tg,iter,ifs,0⟩] scope pos) (some (.Name x pos')) BK.line X.env=pure true):PS X (.Assign [.Name x pos'] (.ListComp elt [⟨tg,iter,ifs,0⟩] scope pos) BK) (qS t (ee i)):=by
 intro pins s σ H D I q
 rw[exec_Assign_Name_used _ _ _ _ GU]
 refine Xy (Z5 (Xy ?_))
 show wpAny _ X.A (do let _ ← comprehension (.ListComp elt [⟨tg,iter,ifs,0⟩] scope pos) scope X.env _ (newList []) false (eval iter X.env) (some (assign (.Name x pos') X.env))) _ _ s
 refine Xy (aS (h pins s σ H _ (some (assign (.Name x pos') X.env)) (λ_ s'=>SP X pins D .next s') I q ?_) λ_ s' hq=>X1 (X1 hq))
 rintro Dd C H' s' I' ⟨m,hn⟩ c1 c2 c3 c4 c5 q
 show wpAny _ X.A (assign (.Name x pos') X.env (.ref Dd)) _ _ _
 refine wpAny_assign_Name (so I' hN gf (.inl hx) (v:=.ref Dd) rfl (λkD SQ ⟨a,sb,ha⟩=>?_) (.inr hx))
 have ea:a≠C:=by
  rcases ha with ha|ha
  . rw[ha]
    exact YF c2
  . exact c4 x a ha
 exact⟨m,hn.sameBut sb (YF ea),λh' mn=>⟨_,_,SQ.turned (t':=kD.toks) (λb o hb e=>mn.extBut b o hb e) c1 c2 c3 c4 c5,q⟩⟩
theorem gu(S:qm X.N X.env.scope.names N js scope=true)(hc:X.calm=true)(hi:PI X tg iter wi)
 (hg:∀cl C s H fp pn,PG (gz X N scope cl C s H fp pn) tg g) (ht:∀cl C s H fp pn,qX (gz X N scope cl C s H fp pn) ifs ti) (he:∀cl C s H fp pn,PE (gz X N scope cl C s H fp pn) elt te)
 (hs:∀x,foldedSetIterable iter X.env x=pure x:=by intro _;rfl):PE X (.ListComp elt [⟨tg,iter,ifs,0⟩] scope pos) (GH js wi g ti te):=(zJ (.of S) hc hi hg ht he hs).pe
theorem Dx(hN:X.N.Nodup)(gf:X.N[i]?=some x)(hx:X.env.scope.names.lookup x=some .local)(S:qm X.N X.env.scope.names N js scope=true)(hc:X.calm=true)(hi:PI X tg iter wi)
 (hg:∀cl C s H fp pn,PG (gz X N scope cl C s H fp pn) tg g) (ht:∀cl C s H fp pn,qX (gz X N scope cl C s H fp pn) ifs ti) (he:∀cl C s H fp pn,PE (gz X N scope cl C s H fp pn) elt te)
 (GU:swapsWith (.ListComp elt [⟨tg,iter,ifs,0⟩] scope pos) (some (.Name x pos')) BK.line X.env=pure true:=by rfl)
 (hs:∀x,foldedSetIterable iter X.env x=pure x:=by intro _;rfl):PS X (.Assign [.Name x pos'] (.ListComp elt [⟨tg,iter,ifs,0⟩] scope pos) BK) (qS (GH js wi g ti te) (ee i)):=(zJ (.of S) hc hi hg ht he hs).ps hN gf hx GU
end
def Dy(D:Addr)(n:Nat)(Pv:Nat->List V->St->Hp->Prop):Nat->Nat->St->Hp->Prop:=λi m σ H=>i<=n/\m=n-i/\∃acc,H D=some (.lst acc)/\Pv i acc σ H
theorem gv(hi:i<n) (hD:H D=some (.lst acc)) (hp:Pv (i+1) acc σ H):∃m',m'<n-i/\Dy D n Pv (i+1) m' σ H:=
 ⟨n-(i+1),by lia,hi,rfl,acc,hD,hp⟩
theorem lU(n:Nat)(Pv:Nat->List V->St->Hp->Prop)(h0:Pv 0 [] Qu H0) (SR:H0 D=some (.lst []))
 (fin:∀acc σ H,H D=some (.lst acc)->Pv n acc σ H->J.stop n H/\Q H)
 (step:∀i acc σ H,i<n->H D=some (.lst acc)->Pv i acc σ H->J.go i H/\∀x H',J.yld i H x H'->g x σ H' λgr H2=>ti gr H2 λb H3=>
  if b=true then te gr H3 λy H4=>∃acc,H4 D=some (.lst acc)/\acc.length<sizeLine/\∃m',m'<n-i/\Dy D n Pv (i+1) m' gr (upd H4 D (.lst (acc++[y]))) else ∃m',m'<n-i/\Dy D n Pv (i+1) m' gr H3) :
 ∃W:Nat->Nat->St->Hp->Prop,(∃m,W 0 m Qu H0)/\nB D g ti te J W Q:=by
 refine⟨Dy D n Pv,⟨n,Yi _,rfl,[],SR,h0⟩,?_⟩
 rintro i m σ H ⟨hi,rfl,acc,hD,hp⟩
 rcases Yn i n with h|h
 . exact .inr (step i acc σ H h hD hp)
 . have e:i=n:=Nat.le_antisymm hi h
   subst e
   exact .inl (fin acc σ H hD hp)
section
variable {X:Cx}{pins:List (Addr×Obj)}{σ:St}{H:Hp}{s:Shared}{h':Heap}
theorem Inv.EI{t':Nat}{fp:List Addr}(I:Inv X pins σ H s)(hf:∀b∈fp,hJ X pins H b)(k:∀b o,b∉fp->s.heap.get? b=some o->h'.get? b=some o):Inv X pins σ H {s with heap:=h',toks:=t'}:=by
 have sJ:∀b u,H b=some u->b∉fp:=λb u e z=>by rw[(hf b z).1]at e;cases e
 refine I.step (g':=s.gens) (d':=s.drawn) (ch:=fp) (λb hb=>⟨(hf b hb).2.2.2.1,(hf b hb).2.1,(hf b hb).2.2.2.2.1,(hf b hb).2.2.2.2.2⟩) (λb o _ _ hc e _=>k b o hc e) (λb o _ _ hc e _=>⟨o.slots,k b o hc e⟩) (λ_ _ _ _ n=>n)
  (λb o hc e=>⟨o,k b o hc e⟩) (λ_ _ e=>e) (λ_ _ _ e=>e) (λb ps e=>⟨#[],by rw[e];simp⟩) (λm hm=>?_) (λb u e=>?_) I.bare
 . obtain⟨o,es,ep,ho,r⟩:=hm
   exact⟨o,es,ep,k _ o (λz=>(hf _ z).2.1 rfl) ho,r⟩
 . refine(I.hok b u e).i7 (λc v hc q=>k c v ?_ q) (λ_ q=>q) λ_ _ q=>q
   rcases hc with z|z
   . rw[z];exact sJ b u e
   . exact sJ c _ z
theorem Inv.EJ{t':Nat}{fp:List Addr}{T:Addr}{xs:List V}{its:List Value}(I:Inv X pins σ H s)(hf:∀b∈fp,hJ X pins H b)(k:∀b o,b∉fp->s.heap.get? b=some o->h'.get? b=some o)
 (hT:s.heap.objs.size<=T) (ht:IsTup h' T its.toArray) (rv:Vals xs its) (hz:xs.length<=sizeLine):Inv X pins σ (upd H T (.tup xs)) {s with heap:=h',toks:=t'}:=by
 have sJ:∀b u,H b=some u->b∉fp:=λb u e z=>by rw[(hf b z).1]at e;cases e
 have GV:H T=none:=I.hok.fresh hT
 have neT:∀b u,H b=some u->b≠T:=λb u e z=>by rw[z,GV]at e;cases e
 have SU:∀b o,s.heap.get? b=some o->b≠T:=λb o e=>XZ (Yc (XR e) hT)
 refine I.step (g':=s.gens) (d':=s.drawn) (ch:=fp) (λb hb=>⟨(hf b hb).2.2.2.1,(hf b hb).2.1,(hf b hb).2.2.2.2.1,(hf b hb).2.2.2.2.2⟩) (λb o _ _ hc e _=>k b o hc e) (λb o _ _ hc e _=>⟨o.slots,k b o hc e⟩)
  (λb o _ e n=>by rw[ag (SU b o e)];exact n) (λb o hc e=>⟨o,k b o hc e⟩) (λb ys e=>by rw[ag (neT b _ e)];exact e) (λb o u e=>by rw[ag (neT b _ e)];exact e)
  (λb ps e=>⟨#[],by rw[ag (neT b _ e),e];simp⟩) (λm hm=>?_) (λb u e=>?_) I.bare
 . obtain⟨o,es,ep,ho,r⟩:=hm
   exact⟨o,es,ep,k _ o (λz=>(hf _ z).2.1 rfl) ho,r⟩
 . by_cases hb:b=T
   . subst hb
     rw[aj]at e
     cases e
     exact⟨hz,its,rv,ht⟩
   . rw[ag hb]at e
     refine(I.hok b u e).i7 (λc v hc q=>k c v ?_ q) (λc q=>by rw[ag (neT c _ q)];exact q) λc ys q=>by rw[ag (neT c _ q)];exact q
     rcases hc with z|z
     . rw[z];exact sJ b u e
     . exact sJ c _ z
end
section
variable {X:Cx}{tg:Expr}
end
def zK(K:W.Frag)(a:Addr):It:=
 ⟨λi H=>∃xs x,ax K H a xs/\xs[i]?=some x,λi H v H'=>∃T x,v=.ref T/\H T=none/\H'=upd H T (.tup [.int (i:Int),x])/\∀xs,ax K H a xs->xs[i]?=some x,λi H=>∃xs,ax K H a xs/\xs.length<=i⟩
theorem zL{P:Program}{w:World}{K:W.Frag}{es:List Expr}{kk:Nat}{tp:Pos}(a e it:Addr)(Nx:e≠it):Turn P w K (.Tuple es kk tp) (zK K a) [e,it] e (λi h=>(∃old,IsEnum h e it (i:Int) old)/\h.IsListIter it a i) where
 mem:=by simp
 obj:=λi h st b hb=>by
  obtain⟨⟨old,he⟩,o,e1,c,d⟩:=st
  rcases XI.mp hb with z|z
  . subst z
    exact⟨_,he,λv z=>by
     have z':Data.fields _=Data.cell v:=z
     cases z'⟩
  . have z':b=it:=by simpa using z
    subst z'
    exact⟨o,e1,λv z=>by rw[d]at z;cases z⟩
 keep:=λi h h' st k=>⟨let ⟨old,he⟩:=st.1; ⟨old,k e (by simp) _ he⟩,st.2.at λo e1=>k it (by simp) o e1⟩
 item:=by
  intro X hP hw hK hc i pins s σ H E I hf st hg
  subst hP hw hK
  obtain⟨xs,x,hq,hx⟩:=hg
  obtain⟨its,rv,p,hz⟩:=I.list hq
  obtain⟨u,hu,ru⟩:=rv.get hx
  obtain⟨⟨old,he⟩,hit⟩:=st
  refine wpAny_pyNext_enum_item he hit p.isList (x:=u) (by simpa using hu) Nx λh' ho Qv hT hsz hk=>?_
  refine⟨.ref s.heap.objs.size,rfl,?_⟩
  refine wpAny_letOwnedTupleGo_enum ho λh2 zM kC=>?_
  have Ny:s.heap.objs.size≠e:=ZA (XR he)
  have GX:h2.get? s.heap.objs.size=some {cls:=.type "tuple",data:=.seq #[.int i s.toks,u] }:=(kC.2 _ Ny).trans hT
  have I1:Inv X pins σ (upd H s.heap.objs.size (.tup [.int (i:Int),x])) {s with heap:=h2,toks:=s.toks+1}:=I.EJ (its:=[.int i s.toks,u]) hf (λb o hb e1=>by
   have b1:b≠e:=λz=>hb (by simp[z])
   have b2:b≠it:=λz=>hb (by simp[z])
   exact(kC.2 b b1).trans (hk b o b1 b2 e1)) (Xv _) ⟨_,GX,rfl,_,rfl⟩ (.cons ⟨_,rfl⟩ (.cons ru .nil)) (by show 2<=sizeLine;decide)
  have fr:H s.heap.objs.size=none:=I.hok.fresh (Xv _)
  refine⟨.ref s.heap.objs.size,_,I1,rfl,⟨s.heap.objs.size,x,rfl,fr,rfl,λys hy=>by rw[I.t7 hy hq];exact hx⟩,⟨⟨u,?_⟩,Qv.at λo e1=>(kC.2 it Nx.symm).trans e1⟩,λb hb=>?_⟩
  . have e3:(((i+1:Nat):Nat):Int)=(i:Int)+1:=by omega
    rw[e3]
    exact zM
  . have uv:=(hf b hb).1
    have nb:b≠s.heap.objs.size:=by
     rcases XI.mp hb with z|z
     . rw[z];exact YF Ny
     . have z':b=it:=by simpa using z
       rw[z']
       obtain⟨o,e1,_⟩:=hit
       exact XZ (XR e1)
    rw[ag nb]
    exact uv
 done:=by
  intro X hP hw hK hc i pins s σ H E I hf st hg
  subst hP hw hK
  obtain⟨xs,hq,hx⟩:=hg
  obtain⟨its,rv,p,hz⟩:=I.list hq
  obtain⟨⟨old,he⟩,hit⟩:=st
  have hl:=rv.length
  exact wpAny_pyNext_enum_end (I.ok.hd hc) he hit p.isList (by simp;omega) λh' eb=>⟨rfl,I.EI (t':=s.toks) hf λb o hb e1=>eb b o (λz=>hb (by simp[z])) e1⟩
 self:=λ_ _ _ _ _ st h=>let ⟨old,he⟩:=st.1;wpAny_pyIter_enum he h
section
variable {X:Cx}
def MG(K:W.Frag)(ta:TA):TI:=λσ H R=>ta σ H λvs H1=>∃a,vs=[.ref a]/\(∃xs,ax K H1 a xs)/\R (zK K a) H1
theorem EK{es:List Expr}{kk:Nat}{tp:Pos}{a:Expr}{ta:TA}{p pos:Pos}(hg:Gl X "enumerate")(hm:X.mg "enumerate" = none)(ha:PA X [a] ta) (hs:starEach [a] X.env=[(false,eval a X.env)]:=by rfl) :
 PI X (.Tuple es kk tp) (.Call (.Name "enumerate" p) [a] [] pos) (MG X.K ta):=by
 intro pins s σ H R I h
 refine Call_ (jL I hg hm boot_enumerate (Yz (aS (ha pos pins s σ H _ I h) λus s1 ⟨vs,H1,I1,r1,q1⟩=>?_) hs rfl))
 obtain⟨l,e,⟨xs,hq⟩,q⟩:=q1
 subst e
 cases r1 with
 | cons r rr=>
  cases rr
  cases r
  obtain⟨its,rv,pl,hz⟩:=I1.list hq
  refine call_enumerate_list pl.isList λh' he hit hsz hk=>?_
  refine wpAny_pyIter_enum he ?_
  have I2:Inv X pins σ H1 {s1 with heap:=h'}:=I1.kept (t':=s1.toks) hk
  refine⟨s1.heap.objs.size+1,[s1.heap.objs.size+1,s1.heap.objs.size],_,_,H1,rfl,I2,zL l _ _ (ZA (YE _)),⟨⟨_,he⟩,hit⟩,λb hb=>?_,q⟩
  have uv:s1.heap.objs.size<=b:=by
   rcases XI.mp hb with z|z
   . rw[z];exact YY _
   . have z':b=s1.heap.objs.size:=by simpa using z
     rw[z'];exact Xv _
  exact I1.o6 uv (I1.hok.fresh uv)
end
section
variable {prog:Program}{w:World}{A:Around}{E:Value->Shared->Prop}
end
section
variable {X:Cx}{pos:Pos}
end
end L2
namespace Gen
open PySem L2
def top(i:Nat):Stmt:=PySem.Challenge.pw_everguard_k13_none_by_going_through_all.main.body.getD i (.Pass ⟨0,0,0,0⟩)
abbrev yE:Stmt:=top 16
abbrev BL:Stmt:=top 17
abbrev yF:Stmt:=top 18
structure Own(mg:Str->Option Value):Prop where
 len:mg "len" = none
 range:mg "range" = none
 enum:mg "enumerate" = none
 list:mg "list" = none
def iN(xs:List V):Prop:=(∃a:Int,xs=[.int a])\/∃a b:Int,xs=[.int a,.int b]
def cH(H H':Hp)(l:Addr):Prop:=∀b o,H b=some o->b≠l->H' b=some o
theorem cH.trans{H H1 H2:Hp}{l:Addr}(a:cH H H1 l)(b:cH H1 H2 l):cH H H2 l:=λc o h n=>b c o (a c o h n) n
theorem cH.refl(H:Hp)(l:Addr):cH H H l:=λ_ _ h _=>h
theorem aC.keep{H H':Hp}(s:aC H H')(l:Addr):cH H H' l:=λb o h _=>s b o h
theorem cH.ix{H:Hp}{l p:Addr}{o:HO}(hp:H p=none):cH H (upd H p o) l:=λb u h _=>by rw[ag (aq h hp)];exact h
theorem aC.ix{H:Hp}{p:Addr}{o:HO}(hp:H p=none):aC H (upd H p o):=λb u h=>by rw[ag (aq h hp)];exact h
theorem cH.zN{H:Hp}{l:Addr}{o:HO} : cH H (upd H l o) l:=λb u h n=>by rw[ag n];exact h
theorem cH.seq{K:W.Frag}{H H':Hp}{a l:Addr}{xs:List V}{n:List V}(e:cH H H' l) (hl:H l=some (.lst n)) (h:ax K H a xs) (iF:a≠l):ax K H' a xs:=by
 rcases h with (h|⟨o,h⟩)|h
 . exact .inl (.inl (e a _ h iF))
 . exact .inl (.inr ⟨o,e a _ h iF⟩)
 . exact .inr h
def zO(K:W.Frag):Sp:=λvs H Q _=>∃(a:Addr) (ns:List Int) (k:Int),vs=[.ref a,.int k]/\ax K H a (ns.map V.int)/\0<=k/\∀v:Int,Q (.int v) H
def Dz:Sp:=λvs H Q _=>∃(c k:Int),vs=[.int c,.int k]/\0<=k/\k<=1000000/\∀v:Int,0<=v->v<1999999973->Q (.int v) H
def qo:Sp:=λvs H Q _=>∃(l:Addr) (xs:List V) (m:Int),vs=[.ref l,.int m]/\H l=some (.lst xs)/\iN xs/\0<m/\m<1073741824/\
 ∀(d:Int) (ys:List V) (H':Hp),0<=d->d<m->iN ys->H' l=some (.lst ys)->cH H H' l->Q (.int d) H'
section
variable {P:Program}{w:World}{K:W.Frag}{mg:Str->Option Value}{base:Heap}
theorem Ha:aG ["_law_script", "_law_k"] ["_law_script", "_law_k"] (aB yE):=⟨rfl,rfl,rfl,by decide+kernel,rfl,by decide+kernel,by decide+kernel⟩
theorem EL{f:Addr}{fd:FuncData}(F:aM K "_law_cell_at" "_law_cell_at" yE f fd)(T:Own mg):aD P w K mg base aT 1 f fd ["_law_script", "_law_k"] (zO K):=by
 refine F.ok Ha (λvs H Q E h=>?_) (λa6 A outer s H vs Q E hr h=>?_)
 . obtain⟨a,ns,k,rfl,_⟩:=h
   rfl
 . obtain⟨a,ns,k,rfl,hS,h0,kk⟩:=h
   refine⟨_,ae (bR (jz Mo (pv 1) (aJ a7 (by rfl) T.len X5 (aa (pv 0) ak)) (pX _)) (av (aY (aF ay (pv 0) (pv 1) (λ_ _=>rfl)))) br)
    (av (aY au)),?_⟩
   refine⟨_,rfl,_,rfl,a,_,rfl,.inl hS,_,_,rfl,rfl,_,rfl,?_⟩
   refine pj (λhc=>?_) (λ_=>kk 0)
   have gb:k<((ns.map V.int).length:Int):=Yh hc
   rw[Xl]at gb
   have hk:k.toNat<ns.length:=by omega
   have e:((k.toNat:Nat):Int)=k:=by omega
   have Nz:kF (ns.map V.int) ((k.toNat:Nat):Int)=some (.int ns[k.toNat]):=bt (by rw[Xt,Xo hk];rfl)
   rw[e]at Nz
   exact⟨_,rfl,_,rfl,a,_,_,.int ns[k.toNat],rfl,rfl,hS,Nz,kk _⟩
theorem DA:aG ["_law_cell", "_law_k", "_law_m"] ["_law_cell", "_law_k"] (aB BL):=⟨rfl,rfl,rfl,by decide+kernel,rfl,by decide+kernel,by decide+kernel⟩
theorem Hb{f:Addr}{fd:FuncData}(F:aM K "_law_mix" "_law_mix" BL f fd):aD P w K mg base aT 1 f fd ["_law_cell", "_law_k"] Dz:=by
 refine F.ok DA (λvs H Q E h=>?_) (λa6 A outer s H vs Q E hr h=>?_)
 . obtain⟨c,k,rfl,_⟩:=h
   rfl
 . obtain⟨c,k,rfl,h0,h1,kk⟩:=h
   refine⟨_,ae (t9 (i:=2) DA.nd rfl (Or.inl rfl) (aV mV (aV ft (aV fq (aV fq (aV mV (pv 0) au) (aV ft (aV ft (pv 1) (pv 1)) au)) au) au) au))
    (av (aY (aV mV (aV ft (pv 2) (pv 2)) au))),?_⟩
   refine⟨_,rfl,_,_,rfl,rfl,(by show (0:Int)<2147483629;decide),_,rfl,_,rfl,_,_,rfl,rfl,.inl ⟨by omega,by omega⟩,_,_,rfl,rfl,.inr ⟨by decide,by decide⟩,_,_,rfl,rfl,_,_,rfl,rfl,
    _,_,rfl,rfl,.inr ⟨by decide,by decide⟩,_,_,rfl,rfl,(by show (0:Int)<2147483647;decide),?_⟩
   generalize hm:((c % 2147483629+k*k*7919+11)*48271 % 2147483647:Int)=m
   have m0:0<=m:=by rw[← hm];exact ZO _ (by decide)
   have m1:m<2147483647:=by rw[← hm];exact Zr _ (by decide)
   refine⟨_,rfl,_,rfl,_,_,rfl,rfl,.inl ⟨by omega,by omega⟩,_,_,rfl,rfl,(by show (0:Int)<1999999973;decide),?_⟩
   exact kk _ (ZO _ (by decide)) (Zr _ (by decide))
theorem zP:aG ["_law_left", "_law_many", "_law_digit"] ["_law_left", "_law_many"] (aB yF):=⟨rfl,rfl,rfl,by decide+kernel,rfl,by decide+kernel,by decide+kernel⟩
theorem EM{f:Addr}{fd:FuncData}(F:aM K "_law_pick" "_law_pick" yF f fd)(T:Own mg):aD P w K mg base aT 1 f fd ["_law_left", "_law_many"] qo:=by
 refine F.ok zP (λvs H Q E h=>?_) (λa6 A outer s H vs Q E hr h=>?_)
 . obtain⟨l,xs,m,rfl,_⟩:=h
   rfl
 . obtain⟨l,xs,m,rfl,hl,hp,m0,m1,kk⟩:=h
   refine⟨_,ae (t9 (i:=2) zP.nd rfl (Or.inl rfl) (aV mV (aF ay (pv 0) au (λ_ _=>rfl)) (pv 1)))
    (ae (cY (aV wV (aF ay (pv 0) au (λ_ _=>rfl)) (pv 1)) (c8 (pv 0) au set_list))
    (av (aY (pv 2)))),?_⟩
   rcases hp with⟨a,rfl⟩|⟨a,b,rfl⟩
   . refine⟨_,rfl,l,_,_,.int a,rfl,rfl,ax.of hl,rfl,_,rfl,_,_,rfl,rfl,m0,?_⟩
     refine⟨_,rfl,l,_,_,.int a,rfl,rfl,ax.of hl,rfl,_,rfl,_,_,rfl,rfl,⟨m0,m1⟩,_,rfl,l,_,_,0,rfl,rfl,hl,rfl,?_⟩
     exact⟨_,rfl,kk _ _ _ (ZO _ (by omega)) (Zr _ m0) (.inl ⟨_,rfl⟩) aj cH.zN⟩
   . refine⟨_,rfl,l,_,_,.int a,rfl,rfl,ax.of hl,rfl,_,rfl,_,_,rfl,rfl,m0,?_⟩
     refine⟨_,rfl,l,_,_,.int a,rfl,rfl,ax.of hl,rfl,_,rfl,_,_,rfl,rfl,⟨m0,m1⟩,_,rfl,l,_,_,0,rfl,rfl,hl,rfl,?_⟩
     exact⟨_,rfl,kk _ _ _ (ZO _ (by omega)) (Zr _ m0) (.inr ⟨_,_,rfl⟩) aj cH.zN⟩
end
end Gen
namespace Sat
def val(n:Nat)(cuts:List Nat):Nat->Nat
 | 0=>0
 | k+1=>val n cuts k+(if k∈cuts then 0 else 2 ^ (n-1-k))
theorem uw{n k:Nat}(h:k<n):2 ^ (n-k)=2 ^ (n-1-k)+2 ^ (n-1-k):=by
 rw[show n-k=(n-1-k)+1 by omega,Nat.pow_succ];omega
theorem ux{n:Nat}{cuts:List Nat}{j:Nat} : ∀k,j<=k->k<=n->val n cuts k+2 ^ (n-k)<=val n cuts j+2 ^ (n-j)
 | 0,h,_=>by
  have:j=0:=by omega
  subst this;exact Xv _
 | k+1,h,hk=>by
  by_cases e:j=k+1
  . subst e;exact Xv _
  . have ih:=ux (n:=n) (cuts:=cuts) (j:=j) k (by omega) (by omega)
    have p:=uw (n:=n) (k:=k) (by omega)
    have q:2 ^ (n-(k+1))=2 ^ (n-1-k):=by rw[show n-(k+1)=n-1-k by omega]
    have r:=aao (n-(k+1))
    rw[val]
    split <;> omega
theorem og{n:Nat}{cuts:List Nat}{k:Nat}(h:k<=n):val n cuts k+1<=2 ^ n:=by
 have:=ux (n:=n) (cuts:=cuts) (j:=0) k (Yi _) h
 rw[val,Nat.sub_zero]at this
 have:=aao (n-k)
 omega
theorem pB{n:Nat}{cuts:List Nat}{j:Nat} : ∀k,j<=k->val n cuts j<=val n cuts k
 | 0,h=>by
  have:j=0:=by omega
  subst this;exact Xv _
 | k+1,h=>by
  by_cases e:j=k+1
  . subst e;exact Xv _
  . have ih:=pB (n:=n) (cuts:=cuts) (j:=j) k (by omega)
    rw[val];omega
theorem qY{n:Nat}{cuts oh:List Nat} : ∀k,(∀i,i<k->(i∈cuts ↔ i∈oh))->val n cuts k=val n oh k
 | 0,_=>rfl
 | k+1,h=>by
  rw[val,val,qY k λi hi=>h i (by omega)]
  have:=h k (YE _)
  by_cases e:k∈cuts
  . rw[XO e,XO (this.mp e)]
  . rw[XW e,XW λz=>e (this.mpr z)]
theorem Hc{n:Nat}{cuts oh:List Nat}{c k:Nat}(hc:c∈cuts)(hk:c<k)(hn:k<=n)(gb:c∉oh) (he:∀i,i<c->(i∈cuts ↔ i∈oh)):val n cuts k<val n oh (c+1):=by
 have h1:=ux (n:=n) (cuts:=cuts) (j:=c+1) k (by omega) hn
 have h2:=uw (n:=n) (k:=c) (by omega)
 have h3:=aao (n-k)
 have q:2 ^ (n-(c+1))=2 ^ (n-1-c):=by rw[show n-(c+1)=n-1-c by omega]
 rw[val,XO hc,qY c he]at h1
 rw[val,XW gb]
 omega
def lvl(cuts:List Nat)(i:Nat):Nat:=cuts.countP λc=>decide (c<=i)
theorem uy(cuts:List Nat)(i:Nat):lvl cuts i<=cuts.length:=List.countP_le_length
theorem lV{cuts:List Nat}{i j:Nat}(h:i<=j):lvl cuts i<=lvl cuts j:=List.countP_mono_left λc _ hc=>by
 have:=Yh hc
 exact Xw (by omega)
theorem pC{cuts:List Nat}(cs:cuts.Pairwise (· < ·)){k c:Nat}(hk:cuts[k]?=some c){i:Nat}(hi:i<c):lvl (cuts.take k) i=lvl cuts i:=by
 have e:cuts=cuts.take k++cuts.drop k:=(ZC _ _).symm
 unfold lvl
 conv=>rhs;rw[e,Zs]
 have z:(cuts.drop k).countP (λc=>decide (c<=i))=0:=by
  rw[List.countP_eq_zero]
  intro d hd hq
  have hq:=Yh hq
  obtain⟨j,hj⟩:=X2.mp hd
  rw[aaM]at hj
  by_cases e0:j=0
  . subst e0;rw[aap,hk]at hj;cases hj;omega
  . have h1:=(Xr.mp hk)
    have h2:=(Xr.mp hj)
    obtain⟨l1,rfl⟩:=h1
    obtain⟨l2,rfl⟩:=h2
    have:=X9.mp cs k (k+j) l1 l2 (by omega)
    omega
 rw[z,aap]
theorem zQ{cuts:List Nat}(cs:cuts.Pairwise (· < ·)){k c:Nat}(hk:cuts[k]?=some c) (i:Nat):lvl cuts i<=k ↔ i<c:=by
 constructor
 . intro h
   rcases Yn i c with z|z
   . exact z
   exfalso
   have h1:k+1<=lvl cuts i:=by
    have e:cuts=cuts.take (k+1)++cuts.drop (k+1):=(ZC _ _).symm
    have hl:=(Xr.mp hk).1
    unfold lvl
    rw[e,Zs]
    have:(cuts.take (k+1)).countP (λc=>decide (c<=i))=(cuts.take (k+1)).length:=by
     rw[ZD]
     intro d hd
     obtain⟨j,hj,rfl⟩:=Yt.mp hd
     rw[XY]at hj
     rw[ZZ]
     apply Xw
     by_cases ej:j=k
     . subst ej
       have:=(Xr.mp hk).2
       omega
     . have:=X9.mp cs j k (by omega) hl (by omega)
       have:=(Xr.mp hk).2
       omega
    rw[this,XY]
    omega
   omega
 . intro h
   have h1:=pC cs hk h
   have h2:=uy (cuts.take k) i
   rw[XY]at h2
   omega
theorem qZ{cuts:List Nat}{i:Nat}(h:∀c∈cuts,c<=i):lvl cuts i=cuts.length:=by
 unfold lvl
 rw[ZD]
 exact λc hc=>Xw (h c hc)
def b8(h h':List (List Int)):Prop:=∀(r:Nat) (c:List Int),h[r]?=some c->∃c',h'[r]?=some c'/\∀x,x∈c' ↔ x∈c
theorem b8.refl(h:List (List Int)):b8 h h:=λ_ c e=>⟨c,e,λ_=>Iff.rfl⟩
theorem b8.trans{a b c:List (List Int)}(h:b8 a b) (k:b8 b c):b8 a c:=λr x e=>by
 obtain⟨y,ey,hy⟩:=h r x e
 obtain⟨z,ez,hz⟩:=k r y ey
 exact⟨z,ez,λw=>(hz w).trans (hy w)⟩
theorem b8.app(h l:List (List Int)):b8 h (h++l):=λr c e=>⟨c,by rw[X8 (Xr.mp e).1];exact e,λ_=>Iff.rfl⟩
def He(wants:List Int) (held:List (List Int)) (T:List Int) (cuts:List Nat) (i:Nat) (l:Int):Option Nat->Prop
 | none=>i∈cuts\/(lvl cuts i=0/\l∈wants)
 | some r=>∃c,held[r]?=some c/\l∈c/\∀x∈c,x≠l -> -x∈T.take i
structure fj(n:Nat) (wants:List Int) (held:List (List Int)) (T:List Int) (cuts:List Nat) (lev pla:Nat->Int) (rea:Nat->Option Nat):Prop where
 lit:∀l∈T,l≠0/\l.natAbs<=n
 nd:(T.map Int.natAbs).Nodup
 cs:cuts.Pairwise (· < ·)
 cl:∀c∈cuts,c<T.length
 at_:∀(i:Nat) (l:Int),T[i]?=some l->pla l.natAbs=i/\lev l.natAbs=lvl cuts i/\He wants held T cuts i l (rea l.natAbs)
theorem lW{n:Nat} : ∀{T:List Nat},T.Nodup->(∀l∈T,1<=l/\l<=n)->T.length<=n:=λ{T} nd h=>by
 have h1:T ⊆ List.range' 1 n:=λx hx=>by
  have:=h x hx
  rw[Y3]
  omega
 have:=nd.length_le_of_subset h1
 rwa[List.length_range']at this
section
variable {n:Nat}{wants:List Int}{held:List (List Int)}{T:List Int}{cuts:List Nat}{lev pla:Nat->Int}{rea:Nat->Option Nat}
theorem fj.len(h:fj n wants held T cuts lev pla rea):T.length<=n:=by
 have:=lW (n:=n) h.nd λv hv=>by
  obtain⟨l,hl,rfl⟩:=XJ.mp hv
  have:=h.lit l hl
  omega
 rwa[Xl]at this
theorem fj.inj(h:fj n wants held T cuts lev pla rea){i j:Nat}{x y:Int}(hx:T[i]?=some x)(hy:T[j]?=some y)(e:x.natAbs=y.natAbs):i=j/\x=y:=by
 have h1:=(h.at_ i x hx).1
 have h2:=(h.at_ j y hy).1
 rw[e]at h1
 have:(i:Int)=j:=h1.symm.trans h2
 have ij:i=j:=by omega
 subst ij
 rw[hx]at hy
 exact⟨rfl,Xq hy⟩
theorem fj.ext(h:fj n wants held T cuts lev pla rea){DB:List (List Int)}(k:b8 held DB):fj n wants DB T cuts lev pla rea:=by
 refine⟨h.lit,h.nd,h.cs,h.cl,λi l hi=>?_⟩
 obtain⟨h1,h2,h3⟩:=h.at_ i l hi
 refine⟨h1,h2,?_⟩
 cases e:rea l.natAbs with
 | none=>rw[e]at h3;exact h3
 | some r=>
  rw[e]at h3
  obtain⟨c,hc,hl,hx⟩:=h3
  obtain⟨c',gb,hm⟩:=k r c hc
  exact⟨c',gb,(hm l).mpr hl,λx DC=>hx x ((hm x).mp DC)⟩
theorem iO{α:Type}{T:List α}{x:α}{i:Nat}(h:i<=T.length):(T++[x]).take i=T.take i:=YK h
theorem fj.put(h:fj n wants held T cuts lev pla rea){l:Int}{r:Option Nat}(h0:l≠0)(hn:l.natAbs<=n)(hv:l.natAbs∉T.map Int.natAbs)(hr:He wants held T cuts T.length l r){uz uA:Nat->Int}{uB:Nat->Option Nat}
 (e1:uz=λv=>if v=l.natAbs then (cuts.length:Int) else lev v) (e2:uA=λv=>if v=l.natAbs then (T.length:Int) else pla v) (e3:uB=λv=>if v=l.natAbs then r else rea v):fj n wants held (T++[l]) cuts uz uA uB:=by
 subst e1 e2 e3
 refine⟨λx hx=>?_,?_,h.cs,λc hc=>?_,λi x hi=>?_⟩
 . rcases Xp.mp hx with hx|hx
   . exact h.lit x hx
   . rw[Xm.mp hx];exact⟨h0,hn⟩
 . rw[Xx,Ye]
   refine⟨h.nd,X6.mpr ⟨Yf,Yb⟩,λa ha b hb e=>?_⟩
   rw[XQ,Ym]at hb
   rw[Xm.mp hb]at e
   exact hv (e ▸ ha)
 . have:=h.cl c hc
   rw[Xs]
   omega
 . rcases Yn i T.length with hl|hl
   . rw[X8 hl]at hi
     have ne:x.natAbs≠l.natAbs:=λe=>hv (e ▸ XJ.mpr ⟨x,Xn hi,rfl⟩)
     obtain⟨h1,h2,h3⟩:=h.at_ i x hi
     refine⟨by rw[XW ne];exact h1,by rw[XW ne];exact h2,?_⟩
     rw[XW ne]
     cases e:rea x.natAbs with
     | none=>rw[e]at h3;exact h3
     | some r=>
      rw[e]at h3
      obtain⟨c,hc,gk,hx⟩:=h3
      exact⟨c,hc,gk,λz hz iF=>by rw[iO (by omega)];exact hx z hz iF⟩
   . have e:i=T.length:=by
      have:=(Xr.mp hi).1
      rw[Xs,XE]at this
      omega
     subst e
     rw[Yr (Xv _),aaV]at hi
     cases hi
     refine⟨XO rfl,?_,?_⟩
     . rw[XO rfl,qZ λc hc=>X7 (h.cl c hc)]
     . rw[XO rfl]
       cases r with
       | none=>exact hr
       | some r=>
        obtain⟨c,hc,gk,hx⟩:=hr
        exact⟨c,hc,gk,λz hz iF=>by rw[iO (Xv _)];exact hx z hz iF⟩
theorem uC{cuts:List Nat}{i m:Nat}(h:i<m):lvl (cuts++[m]) i=lvl cuts i:=by
 unfold lvl
 rw[Zs,Z7 (by simpa using h),List.countP_nil,aap]
theorem fj.BM(h:fj n wants held T cuts lev pla rea){l:Int}(h0:l≠0)(hn:l.natAbs<=n)(hv:l.natAbs∉T.map Int.natAbs){uz uA:Nat->Int}{uB:Nat->Option Nat}
 (e1:uz=λv=>if v=l.natAbs then ((cuts++[T.length]).length:Int) else lev v) (e2:uA=λv=>if v=l.natAbs then (T.length:Int) else pla v) (e3:uB=λv=>if v=l.natAbs then none else rea v):fj n wants held (T++[l]) (cuts++[T.length]) uz uA uB:=by
 subst e1 e2 e3
 refine⟨λx hx=>?_,?_,?_,λc hc=>?_,λi x hi=>?_⟩
 . rcases Xp.mp hx with hx|hx
   . exact h.lit x hx
   . rw[Xm.mp hx];exact⟨h0,hn⟩
 . rw[Xx,Ye]
   refine⟨h.nd,X6.mpr ⟨Yf,Yb⟩,λa ha b hb e=>?_⟩
   rw[XQ,Ym]at hb
   rw[Xm.mp hb]at e
   exact hv (e ▸ ha)
 . rw[YZ]
   exact⟨h.cs,Z8 _ _,λa ha b hb=>by rw[Xm.mp hb];exact h.cl a ha⟩
 . rw[Xs,XE]
   rcases Xp.mp hc with hc|hc
   . have:=h.cl c hc;omega
   . rw[Xm.mp hc];omega
 . rcases Yn i T.length with hl|hl
   . rw[X8 hl]at hi
     have ne:x.natAbs≠l.natAbs:=λe=>hv (e ▸ XJ.mpr ⟨x,Xn hi,rfl⟩)
     obtain⟨h1,h2,h3⟩:=h.at_ i x hi
     refine⟨by rw[XW ne];exact h1,by rw[XW ne,uC hl];exact h2,?_⟩
     rw[XW ne]
     cases e:rea x.natAbs with
     | none=>
      rw[e]at h3
      rcases h3 with h3|⟨h3,h4⟩
      . exact .inl (XF _ h3)
      . exact .inr ⟨by rw[uC hl];exact h3,h4⟩
     | some r=>
      rw[e]at h3
      obtain⟨c,hc,gk,hx⟩:=h3
      exact⟨c,hc,gk,λz hz iF=>by rw[iO (by omega)];exact hx z hz iF⟩
   . have e:i=T.length:=by
      have:=(Xr.mp hi).1
      rw[Xs,XE]at this
      omega
     subst e
     rw[Yr (Xv _),aaV]at hi
     cases hi
     refine⟨XO rfl,?_,?_⟩
     . rw[XO rfl,qZ]
       intro c hc
       rcases Xp.mp hc with hc|hc
       . exact X7 (h.cl c hc)
       . rw[Xm.mp hc];exact Xv _
     . rw[XO rfl]
       exact .inl (Xu _ (Xm.mpr rfl))
theorem kY(cs:cuts.Pairwise (· < ·)){k c:Nat}(hk:cuts[k]?=some c){d:Nat}(hd:d∈cuts.take k):d<c:=by
 obtain⟨j,hj,rfl⟩:=Yt.mp hd
 rw[XY]at hj
 rw[ZZ]
 obtain⟨l1,rfl⟩:=Xr.mp hk
 exact X9.mp cs j k (by omega) l1 (by omega)
theorem zR(cs:cuts.Pairwise (· < ·)){k c:Nat}(hk:cuts[k]?=some c){d:Nat}(hd:d∈cuts) (h:d<c):d∈cuts.take k:=by
 obtain⟨j,hj,rfl⟩:=Yt.mp hd
 obtain⟨l1,rfl⟩:=Xr.mp hk
 have:j<k:=by
  rcases Yn j k with z|z
  . exact z
  . by_cases e:j=k
    . subst e;omega
    . have:=X9.mp cs k j l1 hj (by omega)
      omega
 rw[Yt]
 exact⟨j,by rw[XY];omega,ZZ⟩
theorem fj.back(h:fj n wants held T cuts lev pla rea){k c:Nat}(hk:cuts[k]?=some c):fj n wants held (T.take c) (cuts.take k) lev pla rea:=by
 have hcl:=h.cl c (Xn hk)
 refine⟨λl hl=>h.lit l (Yu hl),?_,h.cs.sublist (ZW _ _),λd hd=>?_,λi l hi=>?_⟩
 . rw[List.map_take]
   exact h.nd.sublist (ZW _ _)
 . have:=kY h.cs hk hd
   rw[XY]
   omega
 . have zS:i<c:=by
    have:=(Xr.mp hi).1
    rw[XY]at this
    omega
   rw[Yv,XO zS]at hi
   obtain⟨h1,h2,h3⟩:=h.at_ i l hi
   refine⟨h1,by rw[pC h.cs hk zS];exact h2,?_⟩
   cases e:rea l.natAbs with
   | none=>
    rw[e]at h3
    rcases h3 with h3|⟨h3,h4⟩
    . exact .inl (zR h.cs hk h3 zS)
    . exact .inr ⟨by rw[pC h.cs hk zS];exact h3,h4⟩
   | some r=>
    rw[e]at h3
    obtain⟨d,hd,gk,hx⟩:=h3
    exact⟨d,hd,gk,λz hz iF=>by rw[ZT,Zt (X7 zS)];exact hx z hz iF⟩
end
end Sat
namespace Sat
def fU{α β:Type}[DecidableEq α] (f:α->β) (a:α) (b:β):α->β:=λx=>if x=a then b else f x
theorem aI{α β:Type}[DecidableEq α] {f:α->β}{a:α}{b:β} : fU f a b a=b:=XO rfl
theorem aW{α β:Type}[DecidableEq α] {f:α->β}{a x:α}{b:β}(h:x≠a):fU f a b x=f x:=XW h
theorem gE{α β:Type}[DecidableEq α] {f:α->β}{a:α}{b:β}{l:List α}(h:a∉l):l.map (fU f a b)=l.map f:=Y8 λx hx=>aW λe=>h (e ▸ hx)
structure Ring(perm:List Nat) (ah bh:Nat->Nat):Prop where
 b:(0::perm).map bh=perm++[0]
 a:(perm++[0]).map ah=0::perm
 nd:perm.Nodup
 z:0∉perm
theorem oq{α:Type}(x:α)(l:List α):∃q y,x::l=q++[y]:=⟨(x::l).dropLast,(x::l).getLast (by simp),(ZJ (by simp)).symm⟩
theorem j9{α:Type}{a b:List α}{x y:α}(h:a++[x]=b++[y]):a=b/\x=y:=by
 have:=List.append_inj' h rfl
 exact⟨this.1,by simpa using this.2⟩
theorem Ring.link{p:List Nat}{ah bh:Nat->Nat}(R:Ring p ah bh){v:Nat}(hv:v∉p)(h0:v≠0):Ring (p++[v]) (fU (fU ah v (ah 0)) 0 v) (fU (fU bh (ah 0) v) v 0):=by
 obtain⟨q,y,hq⟩:=oq 0 p
 have ra:=R.a
 have rb:=R.b
 have nq:(q++[y]).Nodup:=by rw[← hq];exact X6.mpr ⟨R.z,R.nd⟩
 rw[hq,Xx,XQ,Ym]at ra
 rw[hq,Xx,XQ,Ym]at rb
 obtain⟨a1,a2⟩:=j9 ra
 obtain⟨b1,b2⟩:=j9 rb
 have vq:v∉q++[y]:=by rw[← hq,XI,ZG];exact⟨h0,hv⟩
 rw[Xp,Xm,ZG]at vq
 have yq:y∉q:=λh=>(Ye.mp nq).2.2 y h y (Xm.mpr rfl) rfl
 rw[a2]
 refine⟨?_,?_,?_,?_⟩
 . rw[← YS,hq,Xx,Xx,XQ,Ym,XQ,Ym,gE vq.1,gE yq,b1,aW (YF vq.2),aI,aI]
 . have z1:(0:Nat)∉p:=R.z
   rw[Xx,Xx,XQ,Ym,XQ,Ym,gE z1,gE hv,a1,aI,aW h0,aI,← YS,hq]
 . rw[Ye]
   exact⟨R.nd,X6.mpr ⟨Yf,Yb⟩,λa ha b hb e=>hv (by rw[Xm.mp hb]at e;exact e ▸ ha)⟩
 . rw[Xp,Xm,ZG]
   exact⟨R.z,YF h0⟩
theorem Ring.unlink{a b:List Nat}{v:Nat}{ah bh:Nat->Nat}(R:Ring (a++v::b) ah bh):Ring (a++b) (fU ah (bh v) (ah v)) (fU bh (ah v) (bh v)):=by
 obtain⟨a',x,ha⟩:=oq 0 a
 have nd:=R.nd
 have z:=R.z
 rw[Xp,XI,ZG,ZG]at z
 rw[Ye,X6]at nd
 obtain⟨n1,⟨n2,n3⟩,n4⟩:=nd
 have rb:=R.b
 have ra:=R.a
 have r1:(0::a).map bh++(bh v::b.map bh)=(a++[v])++(b++[0]):=by
  have:(0::a).map bh++(bh v::b.map bh)=(0::(a++v::b)).map bh:=by simp
  rw[this,rb];simp
 have hb:=aaq r1 (by simp)
 have Hf:(a++[v]).map ah++(b++[0]).map ah=(0::a)++(v::b):=by
  have:(a++[v]).map ah++(b++[0]).map ah=(a++v::b++[0]).map ah:=by simp
  rw[this,ra];simp
 have uD:=aaq Hf (by simp)
 rw[ha,Xx,XQ,Ym]at hb
 rw[ha,Xx,XQ,Ym]at uD
 obtain⟨b1,b2⟩:=j9 hb.1
 obtain⟨a1,a2⟩:=j9 uD.1
 have nq:(a'++[x]).Nodup:=by rw[← ha];exact X6.mpr ⟨z.1,n1⟩
 have xa:x∉a':=λh=>(Ye.mp nq).2.2 x h x (Xm.mpr rfl) rfl
 have xm:x∈0::a:=by rw[ha];exact Xu _ (Xm.mpr rfl)
 have xb:x∉b:=λh=>by
  rcases XI.mp xm with e|e
  . exact z.2.2 (e ▸ h)
  . exact n4 x e x (XA _ h) rfl
 have hy:b++[0]=bh v::b.map bh:=hb.2.symm
 have nb:(b++[0]).Nodup:=by
  rw[Ye]
  exact⟨n3,X6.mpr ⟨Yf,Yb⟩,λp hp q hq e=>z.2.2 (by rw[Xm.mp hq]at e;exact e ▸ hp)⟩
 have yb:bh v∉b.map bh:=by rw[hy]at nb;exact(X6.mp nb).1
 have ym:bh v∈b++[0]:=by rw[hy];exact XB
 have ya:bh v∉a:=λh=>by
  rcases Xp.mp ym with e|e
  . exact n4 _ h _ (XA _ e) rfl
  . rw[Xm.mp e]at h;exact z.1 h
 rw[hy,XQ]at uD
 have zT:=(ZK uD.2).2
 rw[a2]
 refine⟨?_,?_,?_,?_⟩
 . rw[← YS,ha,Xx,Xx,XQ,Ym,gE xa,b1,aI,gE xb,Y2,Yo,hb.2,Y2]
 . rw[Y2,hy,Xx,XQ,gE ya,a1,aI,gE yb,zT,← YS,ha]
   simp
 . rw[Ye]
   exact⟨n1,n3,λp hp q hq=>n4 p hp q (XA _ hq)⟩
 . rw[Xp,ZG];exact⟨z.1,z.2.2⟩
structure iy(perm:List Nat) (mk:Nat->Nat) (newest:Nat):Prop where
 up:(perm.map mk).Pairwise (· < ·)
 pos:∀v∈perm,0<mk v/\mk v<=newest
 z:mk 0=0
theorem iy.link{p:List Nat}{mk:Nat->Nat}{m:Nat}(M:iy p mk m){v:Nat}(hv:v∉p)(h0:v≠0):iy (p++[v]) (fU mk v (m+1)) (m+1):=by
 refine⟨?_,λu hu=>?_,by rw[aW (YF h0)];exact M.z⟩
 . rw[Xx,YZ,gE hv,XQ,Ym,aI]
   refine⟨M.up,Z8 _ _,λa ha b hb=>?_⟩
   obtain⟨u,hu,rfl⟩:=XJ.mp ha
   rw[Xm.mp hb]
   have:=M.pos u hu
   omega
 . rcases Xp.mp hu with hu|hu
   . have ne:u≠v:=λe=>hv (e ▸ hu)
     rw[aW ne]
     have:=M.pos u hu
     omega
   . rw[Xm.mp hu,aI];omega
theorem iy.drop{a b:List Nat}{v:Nat}{mk:Nat->Nat}{m:Nat}(M:iy (a++v::b) mk m):iy (a++b) mk m:=by
 refine⟨M.up.sublist ?_,λu hu=>M.pos u ?_,M.z⟩
 . rw[Xx,Xx,XQ]
   exact aaD (aaU _) (aad _ _)
 . rcases Xp.mp hu with hu|hu
   . exact XF _ hu
   . exact Xu _ (XA _ hu)
theorem Ring.ahead{perm:List Nat}{ah bh:Nat->Nat}(R:Ring perm ah bh){mk:Nat->Nat}{m:Nat}(M:iy perm mk m){v:Nat}(hv:v∈perm):(ah v=0\/ah v∈perm)/\mk (ah v)<mk v/\∀u∈perm,mk u<mk v->mk u<=mk (ah v):=by
 obtain⟨a,b,rfl⟩:=aaN hv
 obtain⟨a',x,ha⟩:=oq 0 a
 have ra:=R.a
 have Hf:(a++[v]).map ah++(b++[0]).map ah=(0::a)++(v::b):=by
  have:(a++[v]).map ah++(b++[0]).map ah=(a++v::b++[0]).map ah:=by simp
  rw[this,ra];simp
 have uD:=(aaq Hf (by simp)).1
 rw[ha,Xx,XQ,Ym]at uD
 obtain⟨a1,a2⟩:=j9 uD
 have xm:x∈0::a:=by rw[ha];exact Xu _ (Xm.mpr rfl)
 have up:=M.up
 rw[Xx,YZ,XQ,Zu]at up
 rw[a2]
 have lt:mk x<mk v:=by
  rcases XI.mp xm with e|e
  . rw[e,M.z];exact(M.pos v hv).1
  . exact up.2.2 _ (XJ.mpr ⟨x,e,rfl⟩) _ XB
 refine⟨?_,lt,λu hu hl=>?_⟩
 . rcases XI.mp xm with e|e
   . exact .inl e
   . exact .inr (XF _ e)
 . rcases Xp.mp hu with h|h
   . -- u in a: at or ahead of x
     have h0:u∈a'++[x]:=by rw[← ha];exact XA _ h
     rcases Xp.mp h0 with h1|h1
     . have h2:((0::a).map mk).Pairwise (· < ·):=by
        rw[XQ,Zu]
        refine⟨λz hz=>?_,up.1⟩
        obtain⟨y,hy,rfl⟩:=XJ.mp hz
        rw[M.z]
        exact(M.pos y (XF _ hy)).1
       rw[ha,Xx,YZ]at h2
       exact X7 (h2.2.2 _ (XJ.mpr ⟨u,h1,rfl⟩) _ (XJ.mpr ⟨x,Xm.mpr rfl,rfl⟩))
     . rw[Xm.mp h1];exact Xv _
   . rcases XI.mp h with h|h
     . rw[h]at hl;omega
     . have:=up.2.1.1 _ (XJ.mpr ⟨u,h,rfl⟩)
       omega
theorem Ring.last{perm:List Nat}{ah bh:Nat->Nat}(R:Ring perm ah bh){mk:Nat->Nat}{m:Nat}(M:iy perm mk m):(ah 0=0\/ah 0∈perm)/\∀u∈perm,mk u<=mk (ah 0):=by
 obtain⟨q,y,hq⟩:=oq 0 perm
 have ra:=R.a
 rw[hq,Xx,XQ,Ym]at ra
 obtain⟨_,a2⟩:=j9 ra
 have ym:y∈0::perm:=by rw[hq];exact Xu _ (Xm.mpr rfl)
 rw[a2]
 refine⟨XI.mp ym,λu hu=>?_⟩
 have h0:u∈q++[y]:=by rw[← hq];exact XA _ hu
 rcases Xp.mp h0 with h1|h1
 . have h2:((0::perm).map mk).Pairwise (· < ·):=by
    rw[XQ,Zu]
    refine⟨λz hz=>?_,M.up⟩
    obtain⟨y,hy,rfl⟩:=XJ.mp hz
    rw[M.z]
    exact(M.pos y hy).1
   rw[hq,Xx,YZ]at h2
   exact X7 (h2.2.2 _ (XJ.mpr ⟨u,h1,rfl⟩) _ (XJ.mpr ⟨y,Xm.mpr rfl,rfl⟩))
 . rw[Xm.mp h1];exact Xv _
structure fi(n:Nat) (ah bh mk:Nat->Nat) (newest seek:Nat) (fr:Nat->Prop) (perm:List Nat):Prop where
 R:Ring perm ah bh
 M:iy perm mk newest
 mem:∀v,v∈perm ↔ 1<=v/\v<=n
 sk:seek<=n
 no:∀v,1<=v->v<=n->mk seek<mk v->¬ fr v
theorem fi.inj{n:Nat}{ah bh mk:Nat->Nat}{newest seek:Nat}{fr:Nat->Prop}{perm:List Nat}(h:fi n ah bh mk newest seek fr perm){u v:Nat}(hu:1<=u/\u<=n)(hv:1<=v/\v<=n)(e:mk u=mk v):u=v:=by
 obtain⟨i,hi,ei⟩:=Yt.mp ((h.mem u).mpr hu)
 obtain⟨j,hj,ej⟩:=Yt.mp ((h.mem v).mpr hv)
 have up:=X9.mp h.M.up
 rcases Z0 i j with l|l|l
 . have:=up i j (by rw[Xl];exact hi) (by rw[Xl];exact hj) l
   rw[Yk,Yk,ei,ej]at this
   omega
 . subst l;exact ei.symm.trans ej
 . have:=up j i (by rw[Xl];exact hj) (by rw[Xl];exact hi) l
   rw[Yk,Yk,ei,ej]at this
   omega
inductive fh(h:List (List Int)):List (Nat×Int)->(Int->Prop)->Prop
 | one {r:Nat}{p:Int}{c:List Int}{C:Int->Prop} : h[r]?=some c->(∀x,C x ↔ x∈c)->fh h [(r,p)] C
 | step {ch:List (Nat×Int)}{C C':Int->Prop}{r:Nat}{p:Int}{c:List Int} : fh h ch C->h[r]?=some c->p≠0->p∈c->C (-p)->(∀x,C' x ↔ (x ≠ -p/\C x)\/(x≠p/\x∈c))->(∀x,C' x->¬ C' (-x))->fh h (ch++[(r,p)]) C'
theorem fh.congr{h:List (List Int)}{ch:List (Nat×Int)}{C C':Int->Prop}(k:fh h ch C) (e:∀x,C' x ↔ C x):fh h ch C':=by
 cases k with
 | one a b=>exact .one a λx=>(e x).trans (b x)
 | step a b c d f g i=>exact .step a b c d f (λx=>(e x).trans (g x)) λx hx hy=>i x ((e x).mp hx) ((e _).mp hy)
theorem fh.ext{h h':List (List Int)}(k:b8 h h'){ch:List (Nat×Int)}{C:Int->Prop}(q:fh h ch C):fh h' ch C:=by
 induction q with
 | one a b=>
  obtain⟨c',e,m⟩:=k _ _ a
  exact .one e λx=>(b x).trans (m x).symm
 | step a b c d f g i ih=>
  obtain⟨c',e,m⟩:=k _ _ b
  exact .step ih e c ((m _).mpr d) f (λx=>(g x).trans (by rw[m x])) i
theorem fh.lt{h:List (List Int)}{ch:List (Nat×Int)}{C:Int->Prop}(q:fh h ch C):∀z∈ch,z.1<h.length:=by
 induction q with
 | one a b=>intro z hz;rw[Xm.mp hz];exact(Xr.mp a).1
 | step a b c d f g i ih=>
  intro z hz
  rcases Xp.mp hz with hz|hz
  . exact ih z hz
  . rw[Xm.mp hz];exact(Xr.mp b).1
theorem fh.ne{h:List (List Int)}{ch:List (Nat×Int)}{C:Int->Prop}(q:fh h ch C):ch≠[]:=by
 cases q with
 | one a b=>exact λe=>by cases e
 | step a b c d f g i=>exact λe=>by simp at e
theorem fh.sound{h:List (List Int)}{ν:Int->Prop} (hν:∀x,x≠0->(ν (-x) ↔ ¬ ν x)) (hs:∀c∈h,∃x∈c,ν x){ch:List (Nat×Int)}{C:Int->Prop}(q:fh h ch C):∃x,C x/\ν x:=by
 induction q with
 | one a b=>
  obtain⟨x,hx,hv⟩:=hs _ (Xn a)
  exact⟨x,(b x).mpr hx,hv⟩
 | @step ch C C' r p c a b c0 d f g i ih=>
  obtain⟨x,hx,hv⟩:=hs _ (Xn b)
  obtain⟨y,hy,hw⟩:=ih
  by_cases e:x=p
  . by_cases e2:y = -p
    . subst e e2
      exact absurd hv ((hν x c0).mp hw)
    . exact⟨y,(g y).mpr (.inl ⟨e2,hy⟩),hw⟩
  . exact⟨x,(g x).mpr (.inr ⟨e,hx⟩),hv⟩
end Sat
namespace Sat
def Cn(T:List Int)(sn nd:Nat->Prop)(q p:Nat)(x:Int):Prop:=∃i,i<p/\T[i]?=some (-x)/\sn x.natAbs/\¬ (nd x.natAbs/\q<=i)
section
variable {n:Nat}{wants:List Int}{held:List (List Int)}{T:List Int}{cuts:List Nat}{lev pla:Nat->Int}{rea:Nat->Option Nat}
theorem EN(h:fj n wants held T cuts lev pla rea){sn nd:Nat->Prop}{q p:Nat}(x:Int)(hx:Cn T sn nd q p x):¬ Cn T sn nd q p (-x):=by
 rintro⟨j,_,hj,_⟩
 obtain⟨i,_,hi,_⟩:=hx
 have e:=(h.inj hi hj (by omega)).2
 have:=(h.lit _ (Xn hi)).1
 omega
theorem iP{α:Type}{l:List α}{k:Nat}{x:α}(h:x∈l.take k):∃i,i<k/\l[i]?=some x:=by
 obtain⟨i,hi⟩:=X2.mp h
 rw[Yv]at hi
 split at hi
 . exact⟨i,by assumption,hi⟩
 . cases hi
theorem uE{α:Type}{l:List α}{k i:Nat}{x:α}(h:l[i]?=some x)(hi:i<k):x∈l.take k:=X2.mpr ⟨i,by rw[Yv,XO hi];exact h⟩
theorem Hh(h:fj n wants held T cuts lev pla rea){r:Nat}{c:List Int}(hr:held[r]?=some c)(hc:∀x∈c,-x∈T){sn:Nat->Prop}(hs:∀v,sn v ↔ ∃x∈c,x.natAbs=v)(pv:Int):fh held [(r,pv)] (Cn T sn (λ_=>False) 0 T.length):=by
 refine .one hr λx=>⟨?_,λhx=>?_⟩
 . rintro⟨i,_,hi,dE,_⟩
   obtain⟨y,hy,e⟩:=(hs _).mp dE
   obtain⟨j,hj⟩:=X2.mp (hc y hy)
   have:=(h.inj hi hj (by omega)).2
   rw[show x=y by omega]
   exact hy
 . obtain⟨j,hj⟩:=X2.mp (hc x hx)
   exact⟨j,(Xr.mp hj).1,hj,(hs _).mpr ⟨x,hx,rfl⟩,λz=>z.1⟩
theorem xk(h:fj n wants held T cuts lev pla rea){ch:List (Nat×Int)}{sn aN nd:Nat->Prop}{q q' p:Nat}(k:fh held ch (Cn T sn nd q p)){pv:Int}{r:Nat}{c:List Int}(hp:T[q']?=some pv) (hq:q'<q) (SV:q'<p) (dE:sn pv.natAbs) (NA:nd pv.natAbs)
 (hr:held[r]?=some c) (hc:pv∈c) (hx:∀x∈c,x≠pv -> -x∈T.take q') (hs:∀v,aN v ↔ sn v\/∃x∈c,x.natAbs=v) (one:∀i x,q'<=i->i<q->T[i]?=some x->nd x.natAbs->i=q'):fh held (ch++[(r,pv)]) (Cn T aN nd q' p):=by
 have p0:=(h.lit _ (Xn hp)).1
 have e0:(- -pv:Int)=pv:=by omega
 refine .step k hr p0 hc ⟨q',SV,by rw[e0];exact hp,by rw[Ya];exact dE,λz=>by omega⟩ (λx=>⟨?_,?_⟩) (EN h)
 . rintro⟨i,hi,hT,h1,h2⟩
   rcases (hs _).mp h1 with h3|⟨y,hy,e⟩
   . refine .inl ⟨λe=>?_,i,hi,hT,h3,λz=>h2 ⟨z.1,by omega⟩⟩
     subst e
     rw[e0]at hT
     have:=(h.inj hT hp rfl).1
     exact h2 ⟨by rw[Ya];exact NA,by omega⟩
   . by_cases ey:y=pv
     . subst ey
       have:=(h.inj hT hp (by omega)).1
       exact absurd ⟨by rw[← e];exact NA,by omega⟩ h2
     . obtain⟨j,hj,GX⟩:=iP (hx y hy ey)
       have:=(h.inj hT GX (by omega)).2
       have SW:x=y:=by omega
       rw[SW]
       exact .inr ⟨ey,hy⟩
 . rintro (⟨ne,i,hi,hT,h1,h2⟩|⟨ne,uF⟩)
   . refine⟨i,hi,hT,(hs _).mpr (.inl h1),λz=>?_⟩
     have NB:i<q:=by
      rcases Yn i q with z'|z'
      . exact z'
      . exact absurd ⟨z.1,z'⟩ h2
     have e:=one i (-x) z.2 NB hT (by rw[Ya];exact z.1)
     subst e
     rw[hp]at hT
     have:=Xq hT
     exact ne (by omega)
   . obtain⟨j,hj,hT⟩:=iP (hx x uF ne)
     exact⟨j,by omega,hT,(hs _).mpr (.inr ⟨x,uF,rfl⟩),λz=>by omega⟩
theorem BN(h:fj n wants held T cuts lev pla rea){ch:List (Nat×Int)}{sn aN:Nat->Prop}{p:Nat}(k:fh held ch (Cn T sn (λ_=>False) 0 (p+1))){pv:Int}{r:Nat}{c:List Int}(hp:T[p]?=some pv) (dE:sn pv.natAbs)
 (hr:held[r]?=some c) (hc:pv∈c) (hx:∀x∈c,x≠pv -> -x∈T.take p) (hs:∀v,aN v ↔ sn v\/∃x∈c,x.natAbs=v):fh held (ch++[(r,pv)]) (Cn T aN (λ_=>False) 0 p):=by
 have k1:fh held ch (Cn T sn (λv=>v=pv.natAbs) (p+1) (p+1)):=k.congr λx=>⟨λ⟨i,a,b,c,_⟩=>⟨i,a,b,c,λz=>z.1⟩,λ⟨i,a,b,c,_⟩=>⟨i,a,b,c,λz=>by omega⟩⟩
 refine(xk h k1 hp (YE _) (YE _) dE rfl hr hc hx hs λi x h1 h2 _ _=>by omega).congr λx=>⟨λ⟨i,a,b,c,_⟩=>⟨i,by omega,b,c,λz=>by omega⟩,λ⟨i,a,b,c,d⟩=>?_⟩
 refine⟨i,?_,b,c,λz=>z.1⟩
 rcases Yn i p with z|z
 . exact z
 . have e:i=p:=by omega
   subst e
   rw[hp]at b
   have:=Xq b
   exact absurd ⟨by omega,Xv _⟩ d
theorem Hi{sn:Nat->Prop}{p p':Nat}(hp:p'<=p)(hg:∀i x,p'<=i->i<p->T[i]?=some x->¬ sn x.natAbs)(x:Int):Cn T sn (λ_=>False) 0 p' x ↔ Cn T sn (λ_=>False) 0 p x:=by
 constructor
 . rintro⟨i,a,b,c,d⟩
   exact⟨i,by omega,b,c,d⟩
 . rintro⟨i,a,b,c,d⟩
   refine⟨i,?_,b,c,d⟩
   rcases Yn i p' with z|z
   . exact z
   . exact absurd c (by rw[← Ya];exact hg i _ z a b)
end
theorem sL{α:Type}[DecidableEq α] {P Q:α->Bool}{v:α} : ∀{l:List α},l.Nodup->v∈l->P v=true->Q v=false->(∀u∈l,u≠v->P u=Q u)->l.countP P=l.countP Q+1
 | [],_,h,_,_,_=>nomatch h
 | u::l,nd,h,hp,hq,he=>by
  rw[X6]at nd
  by_cases e:u=v
  . subst e
    rw[List.countP_cons_of_pos hp,Z7 (by rw[hq];decide)]
    rw[List.countP_congr λx hx=>by rw[he x (XA _ hx) λz=>nd.1 (z ▸ hx)]]
  . have hv:v∈l:=(XI.mp h).resolve_left λz=>e z.symm
    have ih:=sL nd.2 hv hp hq λx hx=>he x (XA _ hx)
    rw[List.countP_cons,List.countP_cons,ih,he u XB e]
    omega
def idx(n:Nat)(l:Int):Nat:=(if l<0 then l+(2*n+1:Nat) else l).toNat
theorem kZ{n:Nat}{l:Int}(h:l.natAbs<=n):idx n l<2*n+1:=by unfold idx;split <;> omega
theorem dR{n:Nat}{l k:Int}(h:l.natAbs<=n)(h':k.natAbs<=n)(e:idx n l=idx n k):l=k:=by
 unfold idx at e
 split at e <;> split at e <;> omega
def WP(T:List Int)(cuts:List Nat)(p:Nat)(a b:Int):Prop:=-a∈T.take p->b∈T/\∀c∈cuts,-a∈T.take c->b∈T.take c
theorem WP.put{T:List Int}{cuts:List Nat}{p:Nat}{a b:Int}(h:WP T cuts p a b)(hp:p<=T.length)(hc:∀c∈cuts,c<=T.length)(l:Int):WP (T++[l]) cuts p a b:=λha=>by
 rw[iO hp]at ha
 refine⟨XF _ (h ha).1,λc pP je=>?_⟩
 rw[iO (hc c pP)]at je ⊢
 exact(h ha).2 c pP je
theorem WP.cut{T:List Int}{cuts:List Nat}{a b:Int}(h:WP T cuts T.length a b):WP T (cuts++[T.length]) T.length a b:=λha=>by
 refine⟨(h ha).1,λc pP je=>?_⟩
 rcases Xp.mp pP with hc|hc
 . exact(h ha).2 c hc je
 . rw[Xm.mp hc,XU]
   exact(h ha).1
theorem WP.back{T:List Int}{cuts:List Nat}{p k c:Nat}{a b:Int}(h:WP T cuts p a b) (cs:cuts.Pairwise (· < ·)) (hk:cuts[k]?=some c) (hp:c<=p):WP (T.take c) (cuts.take k) c a b:=λha=>by
 rw[ZT,aaW]at ha
 have h1:=h (Zi T hp ha)
 refine⟨h1.2 c (Xn hk) ha,λd hd NC=>?_⟩
 have SX:=kY cs hk hd
 rw[ZT,Zt (X7 SX)]at NC ⊢
 exact h1.2 d (Yu hd) NC
structure cf(n:Nat) (c:List Int):Prop where
 ok:∀l∈c,l≠0/\l.natAbs<=n
 nd:(c.map Int.natAbs).Nodup
theorem cf.len{n:Nat}{c:List Int}(h:cf n c):c.length<=n:=by
 have:=lW (n:=n) h.nd λv hv=>by
  obtain⟨l,hl,rfl⟩:=XJ.mp hv
  have:=h.ok l hl
  omega
 rwa[Xl]at this
theorem cf.perm{n:Nat}{c d:List Int}(h:cf n c)(p:d.Perm c):cf n d:=⟨λl hl=>h.ok l (p.mem_iff.mp hl),(p.map Int.natAbs).nodup_iff.mpr h.nd⟩
end Sat
namespace L2
open PySem PySem.Spec PyProof.Rows
theorem dk [Decidable p] (h:decide p=true:=by decide+kernel):p:=Yh h
theorem fs(h:aG N p sc:=by exact⟨rfl,rfl,rfl,by decide+kernel,rfl,by decide+kernel,by decide+kernel⟩):aG N p sc:=h
section
variable {K:W.Frag}{x q:Str}{st:Stmt}{f:Addr}{fd:FuncData}
theorem jJ{us:List α}(h:us.length=n+1):∃a t,us=a::t/\t.length=n:=by
 cases us with
 | nil=>cases h
 | cons a t=>exact⟨a,t,rfl,Nat.succ.inj h⟩
theorem aM.b1{p:Str}(F:aM K x q st f fd) (h:∀(kV doc pm:Value) (an:Option Addr) (a6 ct a:Value),bindArgs (W.fnOf x q (iS st) (gR st) (aB st) .none kV doc pm an a6 ct) ⟨[a],[]⟩=pure [(p,a)]:=by intros;rfl):Binds K fd [p] []:=F.binds λkV doc pm an a6 ct us hl=>by obtain⟨a,t0,rfl,h0⟩:=jJ hl;cases Yq.mp h0;exact h kV doc pm an a6 ct a
theorem aM.b2{p p2:Str}(F:aM K x q st f fd) (h:∀(kV doc pm:Value) (an:Option Addr) (a6 ct a b:Value),bindArgs (W.fnOf x q (iS st) (gR st) (aB st) .none kV doc pm an a6 ct) ⟨[a,b],[]⟩=pure [(p,a),(p2,b)]:=by intros;rfl):Binds K fd [p,p2] []:=F.binds λkV doc pm an a6 ct us hl=>by obtain⟨a,t0,rfl,h0⟩:=jJ hl;obtain⟨b,t1,rfl,h1⟩:=jJ h0;cases Yq.mp h1;exact h kV doc pm an a6 ct a b
theorem aM.b3(F:aM K x q st f fd) (h:∀(kV doc pm:Value) (an:Option Addr) (a6 ct a b c:Value),bindArgs (W.fnOf x q (iS st) (gR st) (aB st) .none kV doc pm an a6 ct) ⟨[a,b,c],[]⟩=pure [(p,a),(p2,b),(p3,c)]:=by intros;rfl):Binds K fd [p,p2,p3] []:=F.binds λkV doc pm an a6 ct us hl=>by obtain⟨a,t0,rfl,h0⟩:=jJ hl;obtain⟨b,t1,rfl,h1⟩:=jJ h0;obtain⟨c,t2,rfl,h2⟩:=jJ h1;cases Yq.mp h2;exact h kV doc pm an a6 ct a b c
theorem aM.b4(F:aM K x q st f fd) (h:∀(kV doc pm:Value) (an:Option Addr) (a6 ct a b c d:Value),bindArgs (W.fnOf x q (iS st) (gR st) (aB st) .none kV doc pm an a6 ct) ⟨[a,b,c,d],[]⟩=pure [(p,a),(p2,b),(p3,c),(p4,d)]:=by intros;rfl):Binds K fd [p,p2,p3,p4] []:=F.binds λkV doc pm an a6 ct us hl=>by obtain⟨a,t0,rfl,h0⟩:=jJ hl;obtain⟨b,t1,rfl,h1⟩:=jJ h0;obtain⟨c,t2,rfl,h2⟩:=jJ h1;obtain⟨d,t3,rfl,h3⟩:=jJ h2;cases Yq.mp h3;exact h kV doc pm an a6 ct a b c d
theorem aM.run(F:aM K x q st f fd) (S:aG N ps (aB st))
 (qc:∀(a6:Value) (A:Around) (outer:List Env) (s:Shared) (H:Hp) (vs:List V) (Q:VK) (E:XK),bx k (A.deeper (envOfC q (aB st) s.heap.objs.size f a6))->sp vs H Q E->
  ∃t,kg (o9 aT P w K mg base N q (aB st) f a6 A outer s H E).zc (gR st) t/\t {nx:=λ_ H'=>Q .bb H',rt:=Q} (start N vs) H)
 (len:∀vs H Q E,sp vs H Q E->vs.length=ps.length:=by intro _ _ _ _ h;cases h;subst_vars;rfl):aD P w K mg base aT (k+1) f fd ps sp:=F.ok S len qc
structure iT(P:Program) (w:World) (K:W.Frag) (mg:Str->Option Value) (base:Heap) (k:Nat) (f:Addr) (d:FuncData) (x:Str) (ps:List Str) (sp:Sp):Prop where
 g:aD P w K mg base aT k f d ps sp
 m:mg x=some (.ref f)
 k:W.keepIn K (.ref f)=true
 b:Binds K d ps []
end
section
variable {X:Cx}{k:Nat}{f C:Addr}{fd:FuncData}{ps:List Str}{sp:Sp}{x m:Str}{p pos apos:Pos}{e o:Expr}{es:List Expr}{ta:TE}{t:TA}
theorem b6(F:iT X.prog X.w X.K X.mg X.base k f fd x ps sp)(hr:bx k X.A) (ha:PA X (e::es) t) (hg:Gl X x:=by rfl) (hx:Passes aT X E0:=by exact jf) (m7:(x == ("__debug__" : Str))=false:=by decide) (he:starEach (e::es) X.env=(false,eval e X.env)::starEach es X.env:=by rfl) (gi:(backTo pos (starEach es X.env)).any (·.1)=false:=by rfl) :
 PE X (.Call (.Name x p) (e::es) [] pos) (Dm sp [] E0 t):=Ew F.g hr hg F.m F.k F.b .nil hx ha m7 he gi
end
section
variable {X:Cx}{k:Nat}{f C:Addr}{fd:FuncData}{ps:List Str}{sp:Sp}{x m:Str}{p pos pos' apos:Pos}{e o:Expr}{es:List Expr}{ta te:TE}{t:TA}
theorem aQ(i:Nat)(hN:X.N.Nodup)(he:PE X e te)(hi:X.N[i]?=some x:=by rfl)(hx:Loc X.env.scope x:=by first|exact Or.inl rfl|exact Or.inr rfl) (hs:swapsWith e (some (.Name x pos')) pos.line X.env=pure false:=by rfl) (hf:X.fn x=true\/X.env.scope.names.lookup x=some .local:=by first|exact .inl rfl|exact .inr rfl|assumption) :
 PS X (.Assign [.Name x pos'] e pos) (qS te (ee i)):=t9 hN hi hx he hs hf
theorem cQ(he:PE X o ta)(c:iB X.K C)(hm:Meth X.K C m f)(F:aD X.prog X.w X.K X.mg X.base aT k f fd ps sp)(hr:bx k X.A)(hb:Binds X.K fd ps []) (ha:PA X (e::es) t) (hx:Passes aT X E0:=by exact jf)
 (j1:starEach (e::es) X.env=(false,eval e X.env)::starEach es X.env:=by rfl) (gi:(backTo pos (starEach es X.env)).any (·.1)=false:=by rfl)
 (ht:eval (.Call (.Attribute o m apos) (e::es) [] pos) X.env=(do
  let ov ← eval o X.env
  standAt apos.atName
  let (f,first) ← holding [ov] (getMethod ov m pl)
  callWith pos f first (backTo pos (starEach (e::es) X.env)) (backToKw pos (keywordEach [] X.env))):=by rfl) :
 PE X (.Call (.Attribute o m apos) (e::es) [] pos) (qb C m sp [] E0 ta t):=Ex he c hm F hr hb .nil hx ha j1 gi ht
end
end L2
namespace L2
open PySem PySem.Spec PyProof.Rows Sat
structure eG{ι:Type} (H:Hp) (ad:ι->Addr) (c:ι->Option HO):Prop where
 at_:∀s o,c s=some o->H (ad s)=some o
 inj:∀s t o u,c s=some o->c t=some u->ad s=ad t->s=t
section
variable {ι:Type} [DecidableEq ι] {H H':Hp}{ad bp:ι->Addr}{c c':ι->Option HO}{s:ι}{o o':HO}{p:Addr}
theorem eG.upd(h:eG H ad c)(hs:c s=some o')(h1:c' s=some o)(h2:∀t,t≠s->c' t=c t):eG (upd H (ad s) o) ad c':=by
 have key:∀t u,c' t=some u->∃u',c t=some u':=λt u ht=>by
  by_cases e:t=s
  . subst e;exact⟨_,hs⟩
  . rw[h2 t e]at ht;exact⟨_,ht⟩
 refine⟨λt u ht=>?_,λt r u u' ht hr e=>?_⟩
 . by_cases e:t=s
   . subst e
     rw[h1]at ht
     cases ht
     exact aj
   . rw[h2 t e]at ht
     rw[ag λz=>e (h.inj _ _ _ _ ht hs z)]
     exact h.at_ _ _ ht
 . obtain⟨_,q1⟩:=key t u ht
   obtain⟨_,q2⟩:=key r u' hr
   exact h.inj _ _ _ _ q1 q2 e
theorem eG.put(h:eG H ad c)(hp:H p=none)(h1:c' s=some o)(h2:∀t,t≠s->c' t=c t)(ha:bp s=p)(hb:∀t,t≠s->bp t=ad t):eG (L2.upd H p o) bp c':=by
 have ne:∀t u,c t=some u->ad t≠p:=λt u ht e=>by
  have:=h.at_ _ _ ht
  rw[e,hp]at this
  cases this
 refine⟨λt u ht=>?_,λt r u u' ht hr e=>?_⟩
 . by_cases e:t=s
   . subst e
     rw[h1]at ht
     cases ht
     rw[ha]
     exact aj
   . rw[h2 t e]at ht
     rw[hb t e,ag (ne _ _ ht)]
     exact h.at_ _ _ ht
 . by_cases e1:t=s
   . by_cases e2:r=s
     . rw[e1,e2]
     . rw[h2 r e2]at hr
       rw[e1,ha,hb r e2]at e
       exact absurd e.symm (ne _ _ hr)
   . by_cases e2:r=s
     . rw[h2 t e1]at ht
       rw[e2,ha,hb t e1]at e
       exact absurd e (ne _ _ ht)
     . rw[h2 t e1]at ht
       rw[h2 r e2]at hr
       rw[hb t e1,hb r e2]at e
       exact h.inj _ _ _ _ ht hr e
theorem eG.keep(h:eG H ad c) (hk:∀s o,c s=some o->H' (ad s)=some o):eG H' ad c:=⟨hk,h.inj⟩
theorem eG.same(h:eG H ad c)(hk:aC H H'):eG H' ad c:=⟨λs o hs=>hk _ _ (h.at_ s o hs),h.inj⟩
end
def iQ{ι:Type} (ad:ι->Addr)(c:ι->Option HO)(b:Addr):Prop:=∃s o,c s=some o/\ad s=b
structure Kp(O:Addr->Prop) (H H':Hp) (O':Addr->Prop):Prop where
 st:∀b u,H b=some u->¬ O b->H' b=some u
 nw:∀b,O' b->O b\/H b=none
theorem Kp.refl(O:Addr->Prop)(H:Hp):Kp O H H O:=⟨λ_ _ h _=>h,λ_ h=>.inl h⟩
theorem Kp.trans{O O' O'':Addr->Prop}{H H' sM:Hp}(h:Kp O H H' O')(k:Kp O' H' sM O''):Kp O H sM O'':=by
 refine⟨λb u hb ho=>k.st b u (h.st b u hb ho) λz=>(h.nw b z).elim ho (λz=>by rw[z]at hb;cases hb),λb hb=>?_⟩
 rcases k.nw b hb with z|z
 . exact h.nw b z
 . by_cases e:O b
   . exact .inl e
   . cases q:H b with
     | none=>exact .inr rfl
     | some u=>rw[h.st b u q e]at z;cases z
theorem Kp.upd{O:Addr->Prop}{H:Hp}{a:Addr}{o:HO}(ha:O a):Kp O H (upd H a o) O:=⟨λb u hb ho=>by
 have ne:b≠a:=λe=>ho (e ▸ ha)
 rw[ag ne];exact hb,λ_ h=>.inl h⟩
theorem Kp.new{O O':Addr->Prop}{H:Hp}{a:Addr}{o:HO}(ha:H a=none)(h:∀b,O' b->O b\/b=a):Kp O H (L2.upd H a o) O':=⟨λb u hb ho=>by rw[ag (aq hb ha)];exact hb,λb hb=>(h b hb).elim .inl λe=>.inr (e ▸ ha)⟩
theorem Kp.less{O O' O'':Addr->Prop}{H H':Hp}(h:Kp O H H' O')(k:∀b,O'' b->O' b):Kp O H H' O'':=⟨h.st,λb hb=>h.nw b (k b hb)⟩
def fl{α:Type}(m:Nat)(f:Nat->α):List α:=(List.range m).map f
section
variable {α:Type}{m k:Nat}{f g:Nat->α}
theorem aR:(fl m f).length=m:=by unfold fl;rw[Xl,Z1]
theorem iJ(h:k<m):(fl m f)[k]?=some (f k):=by unfold fl;rw[Xt,aaE h];rfl
theorem uG(h:∀k,k<m->f k=g k):fl m f=fl m g:=Y8 λx hx=>h x (YL.mp hx)
theorem eD{v:α} : (fl m f).set k v=fl m (fU f k v):=by
 apply Zz
 intro i
 rw[List.getElem?_set,aR]
 by_cases e:k=i
 . subst e
   by_cases h:k<m
   . rw[XO rfl,XO h,iJ h,aI]
   . rw[XO rfl,XW h,X3 (by rw[aR];omega)]
 . rw[XW e]
   by_cases h:i<m
   . rw[iJ h,iJ h,aW (YF e)]
   . rw[X3 (by rw[aR];omega),X3 (by rw[aR];omega)]
theorem EO:fl (m+1) f=fl m f++[f m]:=by unfold fl;rw[List.range_succ,Xx];rfl
theorem du{n j:Nat}(h:j<n):ni n (j:Int)=some j:=by unfold ni;rw[XO (by omega),XO (by omega)];rfl
theorem kc{n:Nat}{l:Int}(h:l.natAbs<=n):ni (2*n+1) l=some (idx n l):=by
 unfold ni idx
 by_cases h0:0<=l
 . rw[XO h0,XO (by omega),XW (by omega)]
 . rw[XW h0,XO (by omega),XO (by omega)]
theorem bY(h:k<m):kF (fl m f) (k:Int)=some (f k):=bt (iJ h)
theorem fE{n:Nat}{l:Int}(h:l.natAbs<=n):kF (fl (2*n+1) f) l=some (f (idx n l)):=by
 unfold kF
 rw[aR,kc h]
 exact iJ (kZ h)
end
abbrev iV(i:Nat):V:=.int (i:Int)
def oV:Option Nat->V
 | none=>.bb
 | some r=>iV r
inductive Sl where
 | self|dm|held|cl (i:Nat)|singles|bits|watches|wl (i:Nat)|pairs|pl (i:Nat)|levels|reasons|places|signs|trail|cuts|order|kO|ahead|behind|marks|pauses|uH|chains|ch (i:Nat)|spans|ranks
 deriving DecidableEq
structure SS where
 n:Nat
 g:Nat
 held:List (List Int)
 singles:List Nat
 bits:Nat->Int
 wl:Nat->List Nat
 pa:Nat->List Addr
 pl:Nat->List (Int×Nat)
 lev:Nat->Int
 rea:Nat->Option Nat
 pla:Nat->Int
 sg:Nat->Int
 T:List Int
 passed:Nat
 cuts:List Nat
 ah:Nat->Nat
 bh:Nat->Nat
 mk_:Nat->Nat
 newest:Nat
 seek:Nat
 left:Int
 ca:Nat->List Addr
 ch:Nat->List (Nat×Int)
 spans:List (Key×V)
def cR(ad:Sl->Addr)(n passed:Nat):List (Str×V):=[("size",iV n),("held",.ref (ad .held)),("ranks",.ref (ad .ranks)),("singles",.ref (ad .singles)),("bits",.ref (ad .bits)),("watches",.ref (ad .watches)),("pairs",.ref (ad .pairs)),("levels",.ref (ad .levels)),("reasons",.ref (ad .reasons)),("places",.ref (ad .places)),("signs",.ref (ad .signs)),("trail",.ref (ad .trail)),("passed",iV passed),("cuts",.ref (ad .cuts)),("order",.ref (ad .order)),("pauses",.ref (ad .pauses)),("chains",.ref (ad .chains)),("spans",.ref (ad .spans)),("forget_at",.int 600)]
def fV(a b m:Addr)(newest seek:Nat):List (Str×V):=[("ahead",.ref a),("behind",.ref b),("marks",.ref m),("newest",iV newest),("seek",iV seek)]
abbrev DD(ad:Sl->Addr)(newest seek:Nat):List (Str×V):=fV (ad .ahead) (ad .behind) (ad .marks) newest seek
def oI(left:Int):List (Str×V):=[("turn",.int 1),("length",.int 1),("left",.int left)]
def cont(C CO CP:Addr)(ad:Sl->Addr)(S:SS):Sl->Option HO
 | .self=>some (.ins C (ad .dm) (cR ad S.n S.passed))
 | .held=>some (.lst (fl S.held.length λi=>.ref (ad (.cl i))))
 | .cl i=>(S.held[i]?).map λc=>.lst (c.map V.int)
 | .singles=>some (.lst (S.singles.map iV))
 | .bits=>some (.lst (fl (2*S.n+1) λi=>.int (S.bits i)))
 | .watches=>some (.lst (fl (2*S.n+1) λi=>.ref (ad (.wl i))))
 | .wl i=>if i<2*S.n+1 then some (.lst ((S.wl i).map iV)) else none
 | .pairs=>some (.lst (fl (2*S.n+1) λi=>.ref (ad (.pl i))))
 | .pl i=>if i<2*S.n+1 then some (.lst ((S.pa i).map V.ref)) else none
 | .levels=>some (.lst (fl (S.n+1) λi=>.int (S.lev i)))
 | .reasons=>some (.lst (fl (S.n+1) λi=>oV (S.rea i)))
 | .places=>some (.lst (fl (S.n+1) λi=>.int (S.pla i)))
 | .signs=>some (.lst (fl (S.n+1) λi=>.int (S.sg i)))
 | .trail=>some (.lst (S.T.map V.int))
 | .cuts=>some (.lst (S.cuts.map iV))
 | .order=>some (.ins CO (ad .kO) (DD ad S.newest S.seek))
 | .ahead=>some (.lst (fl (S.n+1) λi=>iV (S.ah i)))
 | .behind=>some (.lst (fl (S.n+1) λi=>iV (S.bh i)))
 | .marks=>some (.lst (fl (S.n+1) λi=>iV (S.mk_ i)))
 | .pauses=>some (.ins CP (ad .uH) (oI S.left))
 | .chains=>some (.dK (fl (S.held.length-S.g) λi=>(.inl ((S.g+i:Nat):Int),.ref (ad (.ch (S.g+i))))))
 | .ch i=>if S.g<=i/\i<S.held.length then some (.lst ((S.ca i).map V.ref)) else none
 | .spans=>some (.dK S.spans)
 | .ranks=>some (.dK (fl S.g λi=>(.inl (i:Int),iV i)))
 | .dm=>none
 | .kO=>none
 | .uH=>none
def HT(H H':Hp):Prop:=∀b xs,H b=some (.tup xs)->H' b=some (.tup xs)
theorem HT.upd{H:Hp}{a:Addr}{o u:HO}(h:H a=some u)(hu:∀xs,u≠.tup xs):HT H (L2.upd H a o):=λb xs hb=>by
 rw[ag λe=>hu xs (by rw[e,h]at hb;exact Xq hb)];exact hb
theorem HT.new{H:Hp}{a:Addr}{o:HO}(h:H a=none):HT H (L2.upd H a o):=λb xs hb=>by rw[ag (aq hb h)];exact hb
theorem HT.trans{a b c:Hp}(h:HT a b)(k:HT b c):HT a c:=λx y z=>k x y (h x y z)
theorem HT.refl(a:Hp):HT a a:=λ_ _ h=>h
structure Rep(C CO CP:Addr) (H:Hp) (ad:Sl->Addr) (S:SS):Prop where
 st:eG H ad (cont C CO CP ad S)
 tp:∀i,Paired (λt (q:Int×Nat)=>H t=some (.tup [.int q.1,iV q.2])) (S.pa i) (S.pl i)
 tc:∀i,Paired (λt (q:Nat×Int)=>H t=some (.tup [iV q.1,.int q.2])) (S.ca i) (S.ch i)
abbrev cB(C CO CP:Addr)(ad:Sl->Addr)(S:SS):Addr->Prop:=iQ ad (cont C CO CP ad S)
section
variable {C CO CP:Addr}{H H':Hp}{ad:Sl->Addr}{S S':SS}
theorem lX{s:Sl}{xs:List V} : cont C CO CP ad S s≠some (.tup xs):=by
 intro h
 cases s <;> simp only[cont]at h <;> first|cases h|(split at h <;> cases h)|skip
 case cl i=>
  cases e:S.held[i]? with
  | none=>rw[e]at h;cases h
  | some c=>rw[e]at h;cases h
theorem Rep.ht{h:Rep C CO CP H ad S}{s:Sl}{o u:HO}(hs:cont C CO CP ad S s=some u):HT H (L2.upd H (ad s) o):=HT.upd (h.st.at_ _ _ hs) λxs e=>lX (hs.trans (by rw[e]))
theorem Rep.DE(h:Rep C CO CP H ad S) (st:eG H' ad (cont C CO CP ad S')) (ht:HT H H') (e1:S'.pa=S.pa) (e2:S'.pl=S.pl) (e3:S'.ca=S.ca) (e4:S'.ch=S.ch):Rep C CO CP H' ad S':=⟨st,by rw[e1,e2];exact λi=>Paired.bQ (h.tp i) λ_ _ z=>ht _ _ z,by rw[e3,e4];exact λi=>Paired.bQ (h.tc i) λ_ _ z=>ht _ _ z⟩
theorem Rep.upd(h:Rep C CO CP H ad S){s:Sl}{o u:HO}(hs:cont C CO CP ad S s=some u)(h1:cont C CO CP ad S' s=some o)(h2:∀t,t≠s->cont C CO CP ad S' t=cont C CO CP ad S t)(e1:S'.pa=S.pa:=by rfl)(e2:S'.pl=S.pl:=by rfl)(e3:S'.ca=S.ca:=by rfl)(e4:S'.ch=S.ch:=by rfl) :
 Rep C CO CP (L2.upd H (ad s) o) ad S':=h.DE (h.st.upd hs h1 h2) (Rep.ht (h:=h) hs) e1 e2 e3 e4
theorem Rep.keep(h:Rep C CO CP H ad S)(k:∀b u,H b=some u->¬ cB C CO CP ad S b->H' b=some u) (j:∀s o,cont C CO CP ad S s=some o->H' (ad s)=some o):Rep C CO CP H' ad S:=by
 refine h.DE (h.st.keep j) (λb xs hb=>k b _ hb ?_) rfl rfl rfl rfl
 rintro⟨s,o,hs,e⟩
 have:=h.st.at_ _ _ hs
 rw[e,hb]at this
 cases this
 exact lX hs
theorem Rep.same(h:Rep C CO CP H ad S)(k:aC H H'):Rep C CO CP H' ad S:=h.DE (h.st.same k) (λb xs hb=>k b _ hb) rfl rfl rfl rfl
theorem zU{s:Sl}{o:HO}(h:cont C CO CP ad S s=some o):cB C CO CP ad S (ad s):=⟨s,o,h,rfl⟩
theorem xp{s:Sl}{u:HO}(hs:cont C CO CP ad S s=some u)(h2:∀t,t≠s->cont C CO CP ad S' t=cont C CO CP ad S t)(b:Addr)(h:cB C CO CP ad S' b):cB C CO CP ad S b:=by
 obtain⟨t,o,ht,e⟩:=h
 by_cases q:t=s
 . subst q;exact⟨t,u,hs,e⟩
 . exact⟨t,o,by rw[← h2 t q];exact ht,e⟩
end
end L2
namespace Gen
open PySem L2 Sat
abbrev uI:Stmt:=inClass (top 5) 2
abbrev rf:Stmt:=inClass (top 5) 3
abbrev pE:Stmt:=inClass (top 5) 4
abbrev uJ:Stmt:=inClass (top 5) 6
structure jD(K:W.Frag) (mg:Str->Option Value) (C:Addr):Prop where
 cl:iB K C
 n1:aH K C "ahead"
 n2:aH K C "behind"
 n3:aH K C "marks"
 n4:aH K C "newest"
 n5:aH K C "seek"
 mgC:mg "Order" = some (.ref C)
section
variable {a b m:Addr}{ne se:Nat}
theorem nC:(fV a b m ne se).lookup ("ahead" : Str)=some (.ref a):=by kernel_rfl
theorem uK:(fV a b m ne se).lookup ("behind" : Str)=some (.ref b):=by kernel_rfl
theorem rg:(fV a b m ne se).lookup ("marks" : Str)=some (.ref m):=by kernel_rfl
theorem Hj:(fV a b m ne se).lookup ("newest" : Str)=some (iV ne):=by kernel_rfl
theorem Hk:(fV a b m ne se).lookup ("seek" : Str)=some (iV se):=by kernel_rfl
theorem Qw{x:Nat} : eM "newest" (iV x) (fV a b m ne se)=fV a b m x se:=by kernel_rfl
theorem BO{x:Nat} : eM "seek" (iV x) (fV a b m ne se)=fV a b m ne x:=by kernel_rfl
end
theorem k6{H:Hp}{o a C dx:Addr}{fs:List (Str×V)}{xs:List V}(h:H o=some (.ins C dx fs)) (k:H a=some (.lst xs)):o≠a:=d8 h k (by intro z;cases z)
theorem lY{f:Nat->Nat}{k v:Nat} : fU (λi=>iV (f i)) k (iV v)=λi=>iV (fU f k v i):=by
 funext i
 unfold fU
 split <;> rfl
section
variable (CO:Addr)
inductive BP(vs:List V) (H:Hp) (Q:VK):Prop
 | mk (o dx a b m v k:Nat) (ah bh mk:Nat->Nat) (ne se:Nat) (h1:vs=[.ref o,iV v]) (ho:H o=some (.ins CO dx (fV a b m ne se))) (ha:H a=some (.lst (fl (k+1) λi=>iV (ah i)))) (hb:H b=some (.lst (fl (k+1) λi=>iV (bh i)))) (hm:H m=some (.lst (fl (k+1) λi=>iV (mk i)))) (ab:a≠b) (am:a≠m) (bm:b≠m) (hv:v<=k) (hl:ah 0<=k)
  (kk:∀H':Hp,H' o=some (.ins CO dx (fV a b m (ne+1) se))->H' a=some (.lst (fl (k+1) λi=>iV (fU (fU ah v (ah 0)) 0 v i)))->H' b=some (.lst (fl (k+1) λi=>iV (fU (fU bh (ah 0) v) v 0 i)))->H' m=some (.lst (fl (k+1) λi=>iV (fU mk v (ne+1) i)))->
   (∀x,x≠o->x≠a->x≠b->x≠m->H' x=H x)->Q .bb H')
def rh:Sp:=λvs H Q _=>BP CO vs H Q
end
abbrev Hl:List Str:=["self", "variable", "last"]
theorem xq:aG Hl ["self", "variable"] (aB uI):=fs
section
variable {P:Program}{w:World}{K:W.Frag}{mg:Str->Option Value}{base:Heap}{CO:Addr}
theorem BQ{f:Addr}{fd:FuncData}(F:aM K "link_last" "Order.link_last" uI f fd)(T:jD K mg CO):aD P w K mg base aT 1 f fd ["self", "variable"] (rh CO):=by
 refine F.run xq λa6 A outer s H vs Q E hr h=>?_
 obtain⟨o,dx,a,b,m,v,k,ah,bh,mk,ne,se,rfl,ho,ha,hb,hm,ab,am,bm,hv,hl,kk⟩:=h
 have oa:=k6 ho ha
 have ob:=k6 ho hb
 have om:=k6 ho hm
 refine⟨_,ae (aQ 2 xq.nd (aF ay (aw (pv 0) rfl) au (λ_ _=>rfl)))
  (ae (cY (pv 1) (c8 (aw (pv 0) rfl) (pv 2) set_list))
  (ae (cY (pv 2) (c8 (aw (pv 0) rfl) (pv 1) set_list))
  (ae (cY au (c8 (aw (pv 0) rfl) (pv 1) set_list))
  (ae (cY (pv 1) (c8 (aw (pv 0) rfl) au set_list))
  (ae (mY (pv 0) au zo)
  (av (cY (aw (pv 0) rfl) (c8 (aw (pv 0) rfl) (pv 1) set_list)))))))),?_⟩
 refine⟨_,rfl,o,_,_,_,_,rfl,ho,T.cl,T.n1,nC,a,_,_,_,rfl,rfl,ax.of ha,bY (k:=0) (by omega),?_⟩
 refine⟨_,rfl,_,rfl,o,_,_,_,_,rfl,ho,T.cl,T.n2,uK,_,rfl,b,_,_,_,rfl,rfl,hb,by rw[aR];exact du (by omega),?_⟩
 rw[eD,lY]
 generalize e1:L2.upd H b (.lst (fl (k+1) λi=>iV (fU bh (ah 0) v i)))=H1
 have b1:H1 b=some (.lst (fl (k+1) λi=>iV (fU bh (ah 0) v i))):=by rw[← e1];exact aj
 have x1:∀x,x≠b->H1 x=H x:=λx h=>by rw[← e1];exact ag h
 have o1:=(x1 o ob).trans ho
 have a1:=(x1 a ab).trans ha
 have m1:=(x1 m bm.symm).trans hm
 refine⟨_,rfl,_,rfl,o,_,_,_,_,rfl,o1,T.cl,T.n1,nC,_,rfl,a,_,_,_,rfl,rfl,a1,by rw[aR];exact du (by omega),?_⟩
 rw[eD,lY]
 generalize e2:L2.upd H1 a (.lst (fl (k+1) λi=>iV (fU ah v (ah 0) i)))=H2
 have a2:H2 a=some (.lst (fl (k+1) λi=>iV (fU ah v (ah 0) i))):=by rw[← e2];exact aj
 have x2:∀x,x≠a->H2 x=H1 x:=λx h=>by rw[← e2];exact ag h
 have o2:=(x2 o oa).trans o1
 have b2:=(x2 b ab.symm).trans b1
 have m2:=(x2 m am.symm).trans m1
 refine⟨_,rfl,o,_,_,_,_,rfl,o2,T.cl,T.n2,uK,_,rfl,b,_,_,_,rfl,rfl,b2,by rw[aR];exact du (by omega),?_⟩
 rw[eD,show (V.int 0)=iV 0 from rfl,lY]
 generalize e3:L2.upd H2 b (.lst (fl (k+1) λi=>iV (fU (fU bh (ah 0) v) v 0 i)))=H3
 have b3:H3 b=some (.lst (fl (k+1) λi=>iV (fU (fU bh (ah 0) v) v 0 i))):=by rw[← e3];exact aj
 have x3:∀x,x≠b->H3 x=H2 x:=λx h=>by rw[← e3];exact ag h
 have o3:=(x3 o ob).trans o2
 have a3:=(x3 a ab).trans a2
 have m3:=(x3 m bm.symm).trans m2
 refine⟨_,rfl,_,rfl,o,_,_,_,_,rfl,o3,T.cl,T.n1,nC,a,_,0,_,rfl,rfl,a3,by rw[aR];exact du (j:=0) (by omega),?_⟩
 rw[eD,lY]
 generalize e4:L2.upd H3 a (.lst (fl (k+1) λi=>iV (fU (fU ah v (ah 0)) 0 v i)))=H4
 have a4:H4 a=some (.lst (fl (k+1) λi=>iV (fU (fU ah v (ah 0)) 0 v i))):=by rw[← e4];exact aj
 have x4:∀x,x≠a->H4 x=H3 x:=λx h=>by rw[← e4];exact ag h
 have o4:=(x4 o oa).trans o3
 have b4:=(x4 b ab.symm).trans b3
 have m4:=(x4 m am.symm).trans m3
 refine⟨_,rfl,o,_,_,_,_,rfl,o4,T.cl,T.n4,Hj,_,_,rfl,rfl,_,_,o4,(by show 5<1000;decide),?_⟩
 rw[show V.int ((ne:Int)+1)=iV (ne+1) from rfl,Qw]
 generalize e5:L2.upd H4 o (.ins CO dx (fV a b m (ne+1) se))=H5
 have o5:H5 o=some (.ins CO dx (fV a b m (ne+1) se)):=by rw[← e5];exact aj
 have x5:∀x,x≠o->H5 x=H4 x:=λx h=>by rw[← e5];exact ag h
 have m5:=(x5 m om.symm).trans m4
 refine⟨_,rfl,o,_,_,_,_,rfl,o5,T.cl,T.n4,Hj,_,rfl,o,_,_,_,_,rfl,o5,T.cl,T.n3,rg,_,rfl,m,_,_,_,rfl,rfl,m5,by rw[aR];exact du (by omega),?_⟩
 rw[eD,lY]
 refine kk _ ?_ ?_ ?_ aj λx h1 h2 h3 h4=>?_
 . rw[ag om];exact o5
 . rw[ag am];exact(x5 a oa.symm).trans a4
 . rw[ag bm];exact(x5 b ob.symm).trans b4
 . rw[ag h4,x5 x h1,x4 x h2,x3 x h3,x2 x h2,x1 x h3]
end
end Gen
namespace L2
open PySem PySem.Spec PyProof.Rows Sat
def SS.tM(S:SS)(f:Nat->Int):SS:={S with bits:=f}
def SS.Qx(S:SS)(f:Nat->Int):SS:={S with lev:=f}
def SS.Qy(S:SS)(f:Nat->Option Nat):SS:={S with rea:=f}
def SS.Qz(S:SS)(f:Nat->Int):SS:={S with pla:=f}
def SS.SY(S:SS)(f:Nat->Int):SS:={S with sg:=f}
def SS.sT(S:SS)(T:List Int):SS:={S with T:=T}
def SS.iz(S:SS)(c:List Nat):SS:={S with cuts:=c}
def SS.MH(S:SS)(c:List Nat):SS:={S with singles:=c}
def SS.bG(S:SS)(p:Nat):SS:={S with passed:=p}
def SS.tN(S:SS)(ne se:Nat):SS:={S with newest:=ne,seek:=se}
def SS.NF(S:SS)(f:Nat->Nat):SS:={S with ah:=f}
def SS.NG(S:SS)(f:Nat->Nat):SS:={S with bh:=f}
def SS.S5(S:SS)(f:Nat->Nat):SS:={S with mk_:=f}
def SS.yG(S:SS)(l:Int):SS:={S with left:=l}
def SS.Hm(S:SS) (d:List (Key×V)):SS:={S with spans:=d}
def SS.ju(S:SS)(k:Nat)(l:List Nat):SS:={S with wl:=fU S.wl k l}
def SS.iK(S:SS) (h:List (List Int)):SS:={S with held:=h}
structure Go(C CO CP:Addr) (H:Hp) (ad:Sl->Addr) (S:SS) (H':Hp) (bp:Sl->Addr) (S':SS):Prop where
 rep:Rep C CO CP H' bp S'
 kp:Kp (cB C CO CP ad S) H H' (cB C CO CP bp S')
section
variable {C CO CP:Addr}{H H' sM:Hp}{ad bp Hn:Sl->Addr}{S S' NH:SS}
theorem Go.trans(a:Go C CO CP H ad S H' bp S')(b:Go C CO CP H' bp S' sM Hn NH):Go C CO CP H ad S sM Hn NH:=⟨b.rep,a.kp.trans b.kp⟩
theorem Go.refl(h:Rep C CO CP H ad S):Go C CO CP H ad S H ad S:=⟨h,Kp.refl _ _⟩
theorem Go.tup(a:Go C CO CP H ad S H' bp S')(h:Rep C CO CP H ad S):HT H H':=λb xs hb=>a.kp.st b _ hb λ⟨s,o,hs,e⟩=>by
 have:=h.st.at_ _ _ hs
 rw[e,hb]at this
 cases this
 exact lX hs
theorem Rep.go(h:Rep C CO CP H ad S){s:Sl}{o u:HO}(hs:cont C CO CP ad S s=some u)(h1:cont C CO CP ad S' s=some o)(h2:∀t,t≠s->cont C CO CP ad S' t=cont C CO CP ad S t)(e1:S'.pa=S.pa:=by rfl)(e2:S'.pl=S.pl:=by rfl)(e3:S'.ca=S.ca:=by rfl)(e4:S'.ch=S.ch:=by rfl) :
 Go C CO CP H ad S (L2.upd H (ad s) o) ad S':=⟨h.upd hs h1 h2 e1 e2 e3 e4,(Kp.upd (zU hs)).less (xp hs h2)⟩
variable (h:Rep C CO CP H ad S)
include h
theorem Rep.qp(f:Nat->Int):Go C CO CP H ad S (L2.upd H (ad .bits) (.lst (fl (2*S.n+1) λi=>.int (f i)))) ad (S.tM f):=h.go (s:=.bits) rfl rfl λt ht=>by cases t <;> first|rfl|exact absurd rfl ht
theorem Rep.MI(f:Nat->Int):Go C CO CP H ad S (L2.upd H (ad .levels) (.lst (fl (S.n+1) λi=>.int (f i)))) ad (S.Qx f):=h.go (s:=.levels) rfl rfl λt ht=>by cases t <;> first|rfl|exact absurd rfl ht
theorem Rep.MJ(f:Nat->Option Nat):Go C CO CP H ad S (L2.upd H (ad .reasons) (.lst (fl (S.n+1) λi=>oV (f i)))) ad (S.Qy f):=h.go (s:=.reasons) rfl rfl λt ht=>by cases t <;> first|rfl|exact absurd rfl ht
theorem Rep.MK(f:Nat->Int):Go C CO CP H ad S (L2.upd H (ad .places) (.lst (fl (S.n+1) λi=>.int (f i)))) ad (S.Qz f):=h.go (s:=.places) rfl rfl λt ht=>by cases t <;> first|rfl|exact absurd rfl ht
theorem Rep.QA(f:Nat->Int):Go C CO CP H ad S (L2.upd H (ad .signs) (.lst (fl (S.n+1) λi=>.int (f i)))) ad (S.SY f):=h.go (s:=.signs) rfl rfl λt ht=>by cases t <;> first|rfl|exact absurd rfl ht
theorem Rep.NI(T:List Int):Go C CO CP H ad S (L2.upd H (ad .trail) (.lst (T.map V.int))) ad (S.sT T):=h.go (s:=.trail) rfl rfl λt ht=>by cases t <;> first|rfl|exact absurd rfl ht
theorem Rep.Ho(c:List Nat):Go C CO CP H ad S (L2.upd H (ad .cuts) (.lst (c.map iV))) ad (S.iz c):=h.go (s:=.cuts) rfl rfl λt ht=>by cases t <;> first|rfl|exact absurd rfl ht
theorem Rep.Hq(c:List Nat):Go C CO CP H ad S (L2.upd H (ad .singles) (.lst (c.map iV))) ad (S.MH c):=h.go (s:=.singles) rfl rfl λt ht=>by cases t <;> first|rfl|exact absurd rfl ht
theorem Rep.uL(p:Nat):Go C CO CP H ad S (L2.upd H (ad .self) (.ins C (ad .dm) (cR ad S.n p))) ad (S.bG p):=h.go (s:=.self) rfl rfl λt ht=>by cases t <;> first|rfl|exact absurd rfl ht
theorem Rep.uN(ne se:Nat):Go C CO CP H ad S (L2.upd H (ad .order) (.ins CO (ad .kO) (DD ad ne se))) ad (S.tN ne se):=h.go (s:=.order) rfl rfl λt ht=>by cases t <;> first|rfl|exact absurd rfl ht
theorem Rep.Hr(f:Nat->Nat):Go C CO CP H ad S (L2.upd H (ad .ahead) (.lst (fl (S.n+1) λi=>iV (f i)))) ad (S.NF f):=h.go (s:=.ahead) rfl rfl λt ht=>by cases t <;> first|rfl|exact absurd rfl ht
theorem Rep.Hs(f:Nat->Nat):Go C CO CP H ad S (L2.upd H (ad .behind) (.lst (fl (S.n+1) λi=>iV (f i)))) ad (S.NG f):=h.go (s:=.behind) rfl rfl λt ht=>by cases t <;> first|rfl|exact absurd rfl ht
theorem Rep.QB(f:Nat->Nat):Go C CO CP H ad S (L2.upd H (ad .marks) (.lst (fl (S.n+1) λi=>iV (f i)))) ad (S.S5 f):=h.go (s:=.marks) rfl rfl λt ht=>by cases t <;> first|rfl|exact absurd rfl ht
theorem Rep.goLeft(l:Int):Go C CO CP H ad S (L2.upd H (ad .pauses) (.ins CP (ad .uH) (oI l))) ad (S.yG l):=h.go (s:=.pauses) rfl rfl λt ht=>by cases t <;> first|rfl|exact absurd rfl ht
theorem Rep.ER(d:List (Key×V)):Go C CO CP H ad S (L2.upd H (ad .spans) (.dK d)) ad (S.Hm d):=h.go (s:=.spans) rfl rfl λt ht=>by cases t <;> first|rfl|exact absurd rfl ht
theorem Rep.uO{k:Nat}(hk:k<2*S.n+1)(l:List Nat):Go C CO CP H ad S (L2.upd H (ad (.wl k)) (.lst (l.map iV))) ad (S.ju k l):=by
 refine h.go (s:=.wl k) (by rw[cont,XO hk]) (by show (if k<2*S.n+1 then some (HO.lst ((fU S.wl k l k).map iV)) else none)=_;rw[XO hk,aI]) λt ht=>?_
 cases t <;> first|rfl|skip
 case wl i=>
  have ne:i≠k:=λe=>ht (by rw[e])
  show (if i<2*S.n+1 then some (HO.lst ((fU S.wl k l i).map iV)) else none)=_
  rw[aW ne]
  rfl
theorem Rep.rj{k:Nat}(hk:k<S.held.length)(c:List Int):Go C CO CP H ad S (L2.upd H (ad (.cl k)) (.lst (c.map V.int))) ad (S.iK (S.held.set k c)):=by
 refine h.go (s:=.cl k) (u:=.lst (S.held[k].map V.int)) (by rw[cont,Xo hk];rfl) (by show ((S.held.set k c)[k]?).map _=_;rw[Yp hk];rfl) λt ht=>?_
 cases t <;> first|rfl|skip
 case held=>show some (HO.lst (fl (S.held.set k c).length _))=_;rw[YB];rfl
 case cl i=>
  have ne:i≠k:=λe=>ht (by rw[e])
  show ((S.held.set k c)[i]?).map _=_
  rw[YD (YF ne)]
  rfl
 case chains=>show some (HO.dK (fl ((S.held.set k c).length-S.g) _))=_;rw[YB];rfl
 case ch i=>show (if S.g<=i/\i<(S.held.set k c).length then _ else _)=_;rw[YB];rfl
theorem Rep.at_{s:Sl}{o:HO}(hs:cont C CO CP ad S s=some o):H (ad s)=some o:=h.st.at_ s o hs
theorem Rep.eI{k:Nat}{c:List Int}(hk:S.held[k]?=some c):H (ad (.cl k))=some (.lst (c.map V.int)):=h.st.at_ _ _ (by rw[cont,hk];rfl)
theorem Rep.oJ{k:Nat}(hk:k<2*S.n+1):H (ad (.wl k))=some (.lst ((S.wl k).map iV)):=h.st.at_ _ _ (by rw[cont,XO hk])
theorem Rep.xr{k:Nat}(hk:k<2*S.n+1):H (ad (.pl k))=some (.lst ((S.pa k).map V.ref)):=h.st.at_ _ _ (by rw[cont,XO hk])
omit h
theorem jR{f:Nat->Int}{k:Nat}{v:Int} : fU (λi=>V.int (f i)) k (.int v)=λi=>V.int (fU f k v i):=by
 funext i
 unfold fU
 split <;> rfl
theorem ML{f:Nat->Option Nat}{k:Nat}{v:Option Nat} : fU (λi=>oV (f i)) k (oV v)=λi=>oV (fU f k v i):=by
 funext i
 unfold fU
 split <;> rfl
end
section
variable {ι:Type} [DecidableEq ι] {H:Hp}{ad:ι->Addr}{c c':ι->Option HO}{s:ι}{o u:HO}{p:Addr}
theorem eG.Ht(h:eG H ad c)(hs:c s=some u):eG (L2.upd H (ad s) o) ad (fU c s (some o)):=h.upd hs aI λt ht=>aW ht
theorem eG.Hu(h:eG H ad c)(hp:H p=none):eG (L2.upd H p o) (fU ad s p) (fU c s (some o)):=h.put (s:=s) hp aI (λt ht=>aW ht) aI λt ht=>aW ht
theorem eG.congr(h:eG H ad c)(e:∀t,c' t=c t):eG H ad c':=(funext e:c'=c) ▸ h
end
def bV(T:List Int)(l:Int):Int:=if l∈T then 1 else if -l∈T then -1 else 0
theorem gg{T:List Int}{l:Int} : bV T l=0 ↔ l∉T /\ -l∉T:=by
 unfold bV
 split
 . exact⟨λh=>by omega,λh=>absurd (by assumption) h.1⟩
 . split
   . exact⟨λh=>by omega,λh=>absurd (by assumption) h.2⟩
   . exact⟨λ_=>⟨by assumption,by assumption⟩,λ_=>rfl⟩
theorem kn{T:List Int}{l:Int} : bV T l=1 ↔ l∈T:=by
 unfold bV
 split
 . exact⟨λ_=>by assumption,λ_=>rfl⟩
 . split <;> exact⟨λh=>by omega,λh=>absurd h (by assumption)⟩
theorem nF{T:List Int}{l:Int}(h:bV T l = -1) : -l∈T:=by
 unfold bV at h
 split at h
 . omega
 . split at h
   . assumption
   . omega
theorem ou(T:List Int)(l:Int):bV T l=0\/bV T l=1\/bV T l = -1:=by
 unfold bV
 split
 . exact .inr (.inl rfl)
 . split
   . exact .inr (.inr rfl)
   . exact .inl rfl
theorem fX{T:List Int}{l:Int} : l.natAbs∈T.map Int.natAbs ↔ l∈T \/ -l∈T:=by
 rw[XJ]
 constructor
 . rintro⟨x,hx,e⟩
   rcases Int.natAbs_eq_natAbs_iff.mp e with e|e
   . exact .inl (e ▸ hx)
   . exact .inr (e ▸ hx)
 . rintro (h|h)
   . exact⟨l,h,rfl⟩
   . exact⟨-l,h,Ya l⟩
theorem rp(n v:Nat):idx n (v:Int)=v:=by unfold idx;split <;> omega
structure Bk(S:SS):Prop where
 lit:∀l∈S.T,l≠0/\l.natAbs<=S.n
 nd:(S.T.map Int.natAbs).Nodup
 bit:∀l:Int,l.natAbs<=S.n->S.bits (idx S.n l)=bV S.T l
 ord:∃perm,fi S.n S.ah S.bh S.mk_ S.newest S.seek (λv=>S.bits v=0) perm
 sgn:∀v,1<=v->v<=S.n->S.sg v=1\/S.sg v = -1
theorem Bk.len{S:SS}(h:Bk S):S.T.length<=S.n:=by
 have:=lW (n:=S.n) h.nd λv hv=>by
  obtain⟨l,hl,rfl⟩:=XJ.mp hv
  have:=h.lit l hl
  omega
 rwa[Xl]at this
theorem Bk.oK{S:SS}(h:Bk S){x:Int}(hx:x∈S.T) : -x∉S.T:=λhy=>by
 obtain⟨i,hi,ei⟩:=Yt.mp hx
 obtain⟨j,hj,ej⟩:=Yt.mp hy
 have pw:=X9.mp h.nd
 have e:i=j:=by
  rcases Z0 i j with q|q|q
  . exact absurd (by rw[Yk,Yk,ei,ej,Ya]) (pw i j (by rw[Xl];exact hi) (by rw[Xl];exact hj) q)
  . exact q
  . exact absurd (by rw[Yk,Yk,ei,ej,Ya]) (pw j i (by rw[Xl];exact hj) (by rw[Xl];exact hi) q)
 subst e
 have:=(h.lit x hx).1
 omega
theorem Bk.var{S:SS}(h:Bk S){v:Nat}(hv:v<=S.n):S.bits v=bV S.T (v:Int):=by
 have:=h.bit (v:Int) (by omega)
 rwa[rp]at this
theorem _root_.Sat.fi.mono{n:Nat}{ah bh mk:Nat->Nat}{newest seek:Nat}{fr NJ:Nat->Prop}{perm:List Nat}(h:fi n ah bh mk newest seek fr perm)(k:∀v,1<=v->v<=n->NJ v->fr v):fi n ah bh mk newest seek NJ perm:=⟨h.R,h.M,h.mem,h.sk,λv h1 h2 h3 z=>h.no v h1 h2 h3 (k v h1 h2 z)⟩
def gh(S:SS)(l:Int)(r:Option Nat):SS:={S with bits:=fU (fU S.bits (idx S.n l) 1) (idx S.n (-l)) (-1),lev:=fU S.lev l.natAbs S.cuts.length,rea:=fU S.rea l.natAbs r,pla:=fU S.pla l.natAbs S.T.length,T:=S.T++[l] }
theorem BR{S:SS}(h:∀l:Int,l.natAbs<=S.n->S.bits (idx S.n l)=bV S.T l){l:Int}(hl:l.natAbs<=S.n) (h0:l≠0) (hv:l.natAbs∉S.T.map Int.natAbs) (k:Int) (hk:k.natAbs<=S.n):(fU (fU S.bits (idx S.n l) 1) (idx S.n (-l)) (-1)) (idx S.n k)=bV (S.T++[l]) k:=by
 rw[fX,ZG]at hv
 by_cases e1:k = -l
 . subst e1
   rw[aI]
   unfold bV
   rw[XW (by rw[Xp,Xm,ZG];exact⟨hv.2,by omega⟩),XO (by rw[ZP];exact Xu _ (Xm.mpr rfl))]
 . rw[aW λe=>e1 (dR hk (by rw[Ya];exact hl) e)]
   by_cases e2:k=l
   . subst e2
     rw[aI,kn.mpr (Xu _ (Xm.mpr rfl))]
   . rw[aW λe=>e2 (dR hk hl e),h k hk]
     unfold bV
     have m1:k∈S.T++[l] ↔ k∈S.T:=by rw[Xp,Xm];exact aaF e2
     have m2 : -k∈S.T++[l] ↔ -k∈S.T:=by rw[Xp,Xm];exact aaF λe=>e1 (by omega)
     simp only[m1,m2]
theorem Bk.put{S:SS}(h:Bk S){l:Int}(r:Option Nat)(hl:l.natAbs<=S.n)(h0:l≠0)(hv:l.natAbs∉S.T.map Int.natAbs):Bk (gh S l r):=by
 have nb:=BR h.bit hl h0 hv
 refine⟨λx hx=>?_,?_,nb,?_,h.sgn⟩
 . rcases Xp.mp hx with hx|hx
   . exact h.lit x hx
   . rw[Xm.mp hx];exact⟨h0,hl⟩
 . show ((S.T++[l]).map Int.natAbs).Nodup
   rw[Xx,Ye]
   refine⟨h.nd,X6.mpr ⟨Yf,Yb⟩,λa ha b hb e=>?_⟩
   rw[XQ,Ym]at hb
   rw[Xm.mp hb]at e
   exact hv (e ▸ ha)
 . obtain⟨perm,o⟩:=h.ord
   refine⟨perm,o.mono λv h1 h2 hf=>?_⟩
   have hf:(fU (fU S.bits (idx S.n l) 1) (idx S.n (-l)) (-1)) v=0:=hf
   have e:=nb (v:Int) (by omega)
   rw[rp,hf]at e
   have:=gg.mp e.symm
   show S.bits v=0
   rw[h.var h2]
   exact gg.mpr ⟨λz=>this.1 (XF _ z),λz=>this.2 (XF _ z)⟩
def gY(S:SS)(b sg:Nat->Int)(se k:Nat):SS:={S with bits:=b,sg:=sg,seek:=se,T:=S.T.take k}
theorem Bk.pop{S:SS}(h:Bk S){T:List Int}{l:Int}(hT:S.T=T++[l]):Bk {S with bits:=fU (fU S.bits (idx S.n l) 0) (idx S.n (-l)) 0,sg:=fU S.sg l.natAbs (if 0<l then 1 else -1),seek:=if S.mk_ S.seek<S.mk_ l.natAbs then l.natAbs else S.seek,T:=T}:=by
 have hl:=h.lit l (by rw[hT];exact Xu _ (Xm.mpr rfl))
 have nd:=h.nd
 rw[hT,Xx,Ye]at nd
 have hv:l.natAbs∉T.map Int.natAbs:=λz=>nd.2.2 _ z _ (by rw[XQ];exact XB) rfl
 have oM:=hv
 rw[fX,ZG]at oM
 have nb:∀k:Int,k.natAbs<=S.n->(fU (fU S.bits (idx S.n l) 0) (idx S.n (-l)) 0) (idx S.n k)=bV T k:=λk hk=>by
  by_cases e1:k = -l
  . subst e1
    rw[aI,gg.mpr ⟨oM.2,by rw[ZP];exact oM.1⟩]
  . rw[aW λe=>e1 (dR hk (by rw[Ya];exact hl.2) e)]
    by_cases e2:k=l
    . subst e2
      rw[aI,gg.mpr oM]
    . rw[aW λe=>e2 (dR hk hl.2 e),h.bit k hk,hT]
      unfold bV
      have m1:k∈T++[l] ↔ k∈T:=by rw[Xp,Xm];exact aaF e2
      have m2 : -k∈T++[l] ↔ -k∈T:=by rw[Xp,Xm];exact aaF λe=>e1 (by omega)
      simp only[m1,m2]
 refine⟨λx hx=>h.lit x (by rw[hT];exact XF _ hx),nd.1,nb,?_,λv h1 h2=>?_⟩
 . obtain⟨perm,o⟩:=h.ord
   refine⟨perm,o.R,o.M,o.mem,?_,λv h1 h2 h3 hf=>?_⟩
   . show (if S.mk_ S.seek<S.mk_ l.natAbs then l.natAbs else S.seek)<=S.n
     split
     . exact hl.2
     . exact o.sk
   . have hf:(fU (fU S.bits (idx S.n l) 0) (idx S.n (-l)) 0) v=0:=hf
     have h3:S.mk_ (if S.mk_ S.seek<S.mk_ l.natAbs then l.natAbs else S.seek)<S.mk_ v:=h3
     have e:=nb (v:Int) (by have:v<=S.n:=h2;omega)
     rw[rp,hf]at e
     have e:=gg.mp e.symm
     have nv:v≠l.natAbs:=λz=>by
      subst z
      split at h3 <;> omega
     have fr:S.bits v=0:=by
      rw[h.var h2,hT]
      refine gg.mpr ⟨λz=>?_,λz=>?_⟩
      . rcases Xp.mp z with z|z
        . exact e.1 z
        . have:=Xm.mp z;omega
      . rcases Xp.mp z with z|z
        . exact e.2 z
        . have:=Xm.mp z;omega
     refine o.no v h1 h2 ?_ fr
     split at h3 <;> omega
 . show fU S.sg l.natAbs (if 0<l then 1 else -1) v=1\/_
   by_cases e:v=l.natAbs
   . subst e
     show fU S.sg l.natAbs (if 0<l then 1 else -1) l.natAbs=1\/fU S.sg l.natAbs (if 0<l then 1 else -1) l.natAbs = -1
     rw[aI]
     split
     . exact .inl rfl
     . exact .inr rfl
   . show fU S.sg l.natAbs (if 0<l then 1 else -1) v=1\/fU S.sg l.natAbs (if 0<l then 1 else -1) v = -1
     rw[aW e]
     exact h.sgn v h1 h2
end L2
namespace Gen
open PySem L2 Sat
abbrev yH:Stmt:=inClass (top 7) 8
abbrev rq:Stmt:=inClass (top 7) 20
structure dZ(K:W.Frag) (mg:Str->Option Value) (C:Addr):Prop where
 cl:iB K C
 size:aH K C "size"
 held:aH K C "held"
 ranks:aH K C "ranks"
 singles:aH K C "singles"
 bits:aH K C "bits"
 watches:aH K C "watches"
 pairs:aH K C "pairs"
 levels:aH K C "levels"
 reasons:aH K C "reasons"
 places:aH K C "places"
 signs:aH K C "signs"
 trail:aH K C "trail"
 passed:aH K C "passed"
 cuts:aH K C "cuts"
 order:aH K C "order"
 pauses:aH K C "pauses"
 chains:aH K C "chains"
 spans:aH K C "spans"
 forget:aH K C "forget_at"
 mgC:mg "Search" = some (.ref C)
section
variable {ad:Sl->Addr}{n p:Nat}
theorem rA:(cR ad n p).lookup ("size" : Str)=some (iV n):=by kernel_rfl
theorem eX:(cR ad n p).lookup ("held" : Str)=some (.ref (ad .held)):=by kernel_rfl
theorem ko:(cR ad n p).lookup ("ranks" : Str)=some (.ref (ad .ranks)):=by kernel_rfl
theorem qr:(cR ad n p).lookup ("singles" : Str)=some (.ref (ad .singles)):=by kernel_rfl
theorem eZ:(cR ad n p).lookup ("bits" : Str)=some (.ref (ad .bits)):=by kernel_rfl
theorem gw:(cR ad n p).lookup ("watches" : Str)=some (.ref (ad .watches)):=by kernel_rfl
theorem kq:(cR ad n p).lookup ("pairs" : Str)=some (.ref (ad .pairs)):=by kernel_rfl
theorem fG:(cR ad n p).lookup ("levels" : Str)=some (.ref (ad .levels)):=by kernel_rfl
theorem iA:(cR ad n p).lookup ("reasons" : Str)=some (.ref (ad .reasons)):=by kernel_rfl
theorem kH:(cR ad n p).lookup ("places" : Str)=some (.ref (ad .places)):=by kernel_rfl
theorem lZ:(cR ad n p).lookup ("signs" : Str)=some (.ref (ad .signs)):=by kernel_rfl
theorem d3:(cR ad n p).lookup ("trail" : Str)=some (.ref (ad .trail)):=by kernel_rfl
theorem nG:(cR ad n p).lookup ("passed" : Str)=some (iV p):=by kernel_rfl
theorem iU:(cR ad n p).lookup ("cuts" : Str)=some (.ref (ad .cuts)):=by kernel_rfl
theorem l6:(cR ad n p).lookup ("order" : Str)=some (.ref (ad .order)):=by kernel_rfl
theorem zV:(cR ad n p).lookup ("pauses" : Str)=some (.ref (ad .pauses)):=by kernel_rfl
theorem jS:(cR ad n p).lookup ("chains" : Str)=some (.ref (ad .chains)):=by kernel_rfl
theorem BS:(cR ad n p).lookup ("spans" : Str)=some (.ref (ad .spans)):=by kernel_rfl
theorem sN{q:Nat} : eM "passed" (iV q) (cR ad n p)=cR ad n q:=by kernel_rfl
end
section
variable {C CO CP:Addr}{H:Hp}{ad:Sl->Addr}{S:SS}
theorem Rep.s(R:Rep C CO CP H ad S):H (ad .self)=some (.ins C (ad .dm) (cR ad S.n S.passed)):=R.at_ (s:=.self) rfl
theorem Rep.o(R:Rep C CO CP H ad S):H (ad .order)=some (.ins CO (ad .kO) (fV (ad .ahead) (ad .behind) (ad .marks) S.newest S.seek)):=R.at_ (s:=.order) rfl
end
section
variable (C CO CP:Addr)
inductive BU(vs:List V) (H:Hp) (Q:VK):Prop
 | mk (ad:Sl->Addr) (S:SS) (v:Nat) (h1:vs=[.ref (ad .order),iV v]) (R:Rep C CO CP H ad S) (hv:v<=S.n) (hs:S.seek<=S.n) (kk:∀H',Go C CO CP H ad S H' ad (S.tN S.newest (if S.mk_ S.seek<S.mk_ v then v else S.seek))->Q .bb H')
def rB:Sp:=λvs H Q _=>BU C CO CP vs H Q
inductive zW(vs:List V) (H:Hp) (Q:VK):Prop
 | mk (ad:Sl->Addr) (S:SS) (perm:List Nat) (h1:vs=[.ref (ad .order),.ref (ad .bits)]) (R:Rep C CO CP H ad S) (ho:fi S.n S.ah S.bh S.mk_ S.newest S.seek (λv=>S.bits v=0) perm)
  (kk:∀(v:Nat) (H':Hp),fi S.n S.ah S.bh S.mk_ S.newest v (λv=>S.bits v=0) perm->(v=0->∀u,1<=u->u<=S.n->S.bits u≠0)->(v≠0->S.bits v=0)->Go C CO CP H ad S H' ad (S.tN S.newest v)->Q (iV v) H')
def uP:Sp:=λvs H Q _=>zW C CO CP vs H Q
inductive ES(vs:List V) (H:Hp) (Q:VK):Prop
 | mk (ad:Sl->Addr) (S:SS) (l:Int) (r:Option Nat) (h1:vs=[.ref (ad .self),.int l,oV r]) (R:Rep C CO CP H ad S) (hl:l.natAbs<=S.n) (ht:S.T.length<=1000) (kk:∀H',Go C CO CP H ad S H' ad (gh S l r)->Q .bb H')
def k7:Sp:=λvs H Q _=>ES C CO CP vs H Q
end
abbrev ET:List Str:=["self", "variable"]
theorem BV:aG ET ["self", "variable"] (aB rf):=fs
abbrev BW:List Str:=["self", "bits", "variable"]
theorem nH:aG BW ["self", "bits"] (aB pE):=fs
abbrev MM:List Str:=["self", "literal", "reason", "variable"]
theorem zX:aG MM ["self", "literal", "reason"] (aB yH):=fs
theorem cc{b:Bool}{A B:Prop}(h:b=false)(k:B):if b=true then A else B:=by rw[h];exact eP k
theorem bX{b:Bool}{A B:Prop}(h:b=true)(k:A):if b=true then A else B:=by rw[h];exact iE k
theorem dv(l:Int):(if l<0 then -l else l)=(l.natAbs:Int):=by split <;> omega
section
variable {P:Program}{w:World}{K:W.Frag}{mg:Str->Option Value}{base:Heap}{C CO CP:Addr}
theorem BX{f:Addr}{fd:FuncData}(F:aM K "freed" "Order.freed" rf f fd)(T:jD K mg CO):aD P w K mg base aT 1 f fd ["self", "variable"] (rB C CO CP):=by
 refine F.run BV λa6 A outer s H vs Q E hr h=>?_
 obtain⟨ad,S,v,rfl,R,hv,hs,kk⟩:=h
 have ho:=Rep.o R
 have hm:=R.at_ (s:=.marks) rfl
 refine⟨_,av (bR (jz Mp (aF ay (aw (pv 0) rfl) (pv 1) (λ_ _=>rfl)) (aF ay (aw (pv 0) rfl) (aw (pv 0) rfl) (λ_ _=>rfl)) (pX _)) (av (bu (pv 0) (pv 1) rfl)) br),?_⟩
 refine⟨_,rfl,ad .order,_,_,_,_,rfl,ho,T.cl,T.n3,rg,_,rfl,ad .marks,_,_,_,rfl,rfl,ax.of hm,bY (by omega),_,rfl,ad .order,_,_,_,_,rfl,ho,T.cl,T.n3,rg,_,rfl,ad .order,_,_,_,_,rfl,ho,T.cl,T.n5,Hk,ad .marks,_,_,_,rfl,rfl,ax.of hm,bY (by omega),_,_,rfl,rfl,_,rfl,?_⟩
 refine pj (λhc=>?_) (λhc=>?_)
 . have hc:=Yh hc
   refine⟨_,rfl,_,rfl,ad .order,_,_,_,rfl,ho,T.cl,T.n5,(by show 5<1000;decide),?_⟩
   rw[BO]
   refine kk _ ?_
   rw[XO (by omega)]
   exact R.uN S.newest v
 . have hc:¬ ((S.mk_ S.seek:Int)<(S.mk_ v:Int)):=λz=>hc (Xw z)
   refine kk _ ?_
   rw[XW (by omega)]
   exact Go.refl R
theorem zY{f:Addr}{fd:FuncData}(F:aM K "latest_free" "Order.latest_free" pE f fd)(T:jD K mg CO):aD P w K mg base aT 1 f fd ["self", "bits"] (uP C CO CP):=by
 refine F.run nH λa6 A outer s H vs Q E hr h=>?_
 obtain⟨ad,S,perm,rfl,R,hO,kk⟩:=h
 have ho:=Rep.o R
 have ha:=R.at_ (s:=.ahead) rfl
 have hb:=R.at_ (s:=.bits) rfl
 refine⟨_,ae (aQ 2 nH.nd (aw (pv 0) rfl))
  (ae (iL XX (PW.pt (ja (aX (y9 (pv 2) au)) (iq (aX (y9 (aF ay (pv 1) (pv 2) (λ_ _=>rfl)) au))))) (av (aQ 2 nH.nd (aF ay (aw (pv 0) rfl) (pv 2) (λ_ _=>rfl)))))
  (ae (bu (pv 0) (pv 2) rfl) (av (aY (pv 2))))),?_⟩
 refine⟨_,rfl,ad .order,_,_,_,_,rfl,ho,T.cl,T.n5,Hk,?_⟩
 refine⟨λm σ Hx=>∃v:Nat,m=S.mk_ v/\σ=[some (.ref (ad .order)),some (.ref (ad .bits)),some (iV v)]/\Hx=H/\v<=S.n/\∀u,1<=u->u<=S.n->S.mk_ v<S.mk_ u->S.bits u≠0,⟨_,S.seek,rfl,rfl,rfl,hO.sk,hO.no⟩,?_⟩
 rintro m σ Hx ⟨v,rfl,rfl,rfl,hv,hn⟩
 have stop:(v=0->∀u,1<=u->u<=S.n->S.bits u≠0)->(v≠0->S.bits v=0)->lM (Gb K (eU 0) (eU 2) "seek") (FY (eU 2)) {nx:=λ_ H'=>Q .bb H',rt:=Q} [some (.ref (ad .order)),some (.ref (ad .bits)),some (iV v)] Hx:=λh1 h2=>by
  refine⟨_,rfl,_,rfl,ad .order,_,_,_,rfl,ho,T.cl,T.n5,(by show 5<1000;decide),?_⟩
  rw[BO]
  exact⟨_,rfl,kk v _ ⟨hO.R,hO.M,hO.mem,hv,hn⟩ h1 h2 (R.uN S.newest v)⟩
 refine⟨_,rfl,_,_,rfl,rfl,_,rfl,?_⟩
 by_cases e:v=0
 . subst e
   refine eP ?_
   exact eP (stop (λ_ u h1 h2=>hn u h1 h2 (by rw[hO.M.z];exact(hO.M.pos u ((hO.mem u).mpr ⟨h1,h2⟩)).1)) λz=>absurd rfl z)
 . refine bX (by show (!decide ((v:Int)=0))=true;rw[Xz (by omega)];rfl) ⟨_,rfl,_,rfl,ad .bits,_,_,_,rfl,rfl,ax.of hb,bY (by omega),_,_,rfl,rfl,_,rfl,?_⟩
   by_cases e0:S.bits v=0
   . exact cc (by show (!decide (S.bits v=0))=false;rw[e0];rfl) (stop (λz=>absurd z e) λ_=>e0)
   . have hm:=(hO.mem v).mpr ⟨by omega,hv⟩
     obtain⟨a1,a2,a3⟩:=hO.R.ahead hO.M hm
     have al:S.ah v<=S.n:=a1.elim (λz=>by omega) λz=>((hO.mem _).mp z).2
     refine bX (by show (!decide (S.bits v=0))=true;rw[Xz e0];rfl) ⟨λbq H'=>bq=[some (.ref (ad .order)),some (.ref (ad .bits)),some (iV (S.ah v))]/\H'=Hx,?_,?_⟩
     . rintro bq H' ⟨rfl,rfl⟩
       refine⟨_,a2,S.ah v,rfl,rfl,rfl,al,λu h1 h2 h3=>?_⟩
       by_cases c:S.mk_ v<S.mk_ u
       . exact hn u h1 h2 c
       . have hu:=(hO.mem u).mpr ⟨h1,h2⟩
         by_cases c2:S.mk_ u<S.mk_ v
         . have:=a3 u hu c2
           omega
         . have:u=v:=hO.inj ⟨h1,h2⟩ ((hO.mem v).mp hm) (by omega)
           rw[this];exact e0
     . exact⟨_,rfl,ad .order,_,_,_,_,rfl,ho,T.cl,T.n1,nC,_,rfl,ad .ahead,_,_,_,rfl,rfl,ax.of ha,bY (by omega),rfl,rfl⟩
theorem EU{f:Addr}{fd:FuncData}(F:aM K "put" "Search.put" yH f fd)(T:dZ K mg C)(hA:mg "abs" = none)(O:Own mg):aD P w K mg base aT 1 f fd ["self", "literal", "reason"] (k7 C CO CP):=by
 refine F.run zX λa6 A outer s H vs Q E hr h=>?_
 obtain⟨ad,S,l,r,rfl,R,hl,ht,kk⟩:=h
 refine⟨_,ae (aQ 3 zX.nd (aJ c6 (by rfl) hA X4 (aa (pv 1) ak)))
  (ae (cY au (c8 (aw (pv 0) rfl) (pv 1) set_list))
  (ae (cY (f7 eQ au) (c8 (aw (pv 0) rfl) (f7 eQ (pv 1)) set_list))
  (ae (cY (aJ a7 (by rfl) O.len X5 (aa (aw (pv 0) rfl) ak)) (c8 (aw (pv 0) rfl) (pv 3) set_list))
  (ae (cY (pv 2) (c8 (aw (pv 0) rfl) (pv 3) set_list))
  (ae (cY (aJ a7 (by rfl) O.len X5 (aa (aw (pv 0) rfl) ak)) (c8 (aw (pv 0) rfl) (pv 3) set_list))
  (av (aK (cV XD XG XH bz (aw (pv 0) rfl) (aa (pv 1) ak))))))))),?_⟩
 have oN:l.natAbs<S.n+1:=by omega
 refine⟨_,rfl,l,rfl,?_⟩
 rw[dv]
 refine⟨_,rfl,ad .self,_,_,_,_,rfl,(Rep.s R),T.cl,T.bits,eZ,_,rfl,ad .bits,_,_,_,rfl,rfl,R.at_ (s:=.bits) rfl,by rw[aR];exact kc hl,?_⟩
 rw[eD,jR]
 have g1:=R.qp (fU S.bits (idx S.n l) 1)
 refine⟨_,rfl,_,rfl,ad .self,_,_,_,_,rfl,(Rep.s g1.rep),T.cl,T.bits,eZ,_,rfl,l,rfl,ad .bits,_,_,_,rfl,rfl,g1.rep.at_ (s:=.bits) rfl,by rw[aR];exact kc (l:=-l) (by rw[Ya];exact hl),?_⟩
 rw[eD,jR]
 have g2:Go C CO CP H ad S _ ad (S.tM (fU (fU S.bits (idx S.n l) 1) (idx S.n (-l)) (-1))):=g1.trans (g1.rep.qp (fU (fU S.bits (idx S.n l) 1) (idx S.n (-l)) (-1)))
 refine⟨_,rfl,ad .self,_,_,_,_,rfl,(Rep.s g2.rep),T.cl,T.cuts,iU,ad .cuts,_,rfl,.inl (ax.of (g2.rep.at_ (s:=.cuts) rfl)),_,rfl,ad .self,_,_,_,_,rfl,(Rep.s g2.rep),T.cl,T.levels,fG,_,rfl,ad .levels,_,_,_,rfl,rfl,g2.rep.at_ (s:=.levels) rfl,by rw[aR];exact du oN,?_⟩
 rw[eD,jR,Xl]
 have g3:=g2.trans (g2.rep.MI (fU S.lev l.natAbs S.cuts.length))
 refine⟨_,rfl,_,rfl,ad .self,_,_,_,_,rfl,(Rep.s g3.rep),T.cl,T.reasons,iA,_,rfl,ad .reasons,_,_,_,rfl,rfl,g3.rep.at_ (s:=.reasons) rfl,by rw[aR];exact du oN,?_⟩
 rw[eD,ML]
 have g4:=g3.trans (g3.rep.MJ (fU S.rea l.natAbs r))
 refine⟨_,rfl,ad .self,_,_,_,_,rfl,(Rep.s g4.rep),T.cl,T.trail,d3,ad .trail,_,rfl,.inl (ax.of (g4.rep.at_ (s:=.trail) rfl)),_,rfl,ad .self,_,_,_,_,rfl,(Rep.s g4.rep),T.cl,T.places,kH,_,rfl,ad .places,_,_,_,rfl,rfl,g4.rep.at_ (s:=.places) rfl,by rw[aR];exact du oN,?_⟩
 rw[eD,jR,Xl]
 have g5:=g4.trans (g4.rep.MK (fU S.pla l.natAbs S.T.length))
 refine⟨_,rfl,ad .self,_,_,_,_,rfl,(Rep.s g5.rep),T.cl,T.trail,d3,.inl ⟨rfl,_,ax.of (g5.rep.at_ (s:=.trail) rfl)⟩,_,rfl,ad .trail,_,_,rfl,rfl,g5.rep.at_ (s:=.trail) rfl,(by rw[Xl];exact hZ ht),?_⟩
 refine kk _ (g5.trans ?_)
 have:=g5.rep.NI (S.T++[l])
 rw[Xx]at this
 exact this
end
end Gen
namespace L2
open PySem PySem.Spec PyProof.Rows Sat
theorem zZ(xs:List V){k:Nat}(h:k<=xs.length):gs xs none (some (k:Int))=xs.take k:=by
 unfold gs
 have e0:HT.iC xs.length 0 none=0:=rfl
 have e1:HT.iC xs.length xs.length (some (k:Int))=k:=by rw[HT.n9];omega
 rw[e0,e1]
 rfl
theorem sO(xs:List V){k:Nat}(h:k<=xs.length):gs xs (some (k:Int)) none=xs.drop k:=by
 unfold gs
 have e0:HT.iC xs.length xs.length none=xs.length:=rfl
 have e1:HT.iC xs.length 0 (some (k:Int))=k:=by rw[HT.n9];omega
 rw[e0,e1,aae (by rw[List.length_drop];omega)]
section
variable {C CO CP:Addr}{H H':Hp}{ad:Sl->Addr}{S:SS}{p:Addr}
theorem Rep.xt(h:Rep C CO CP H ad S)(hp:H p=none)(c:List Nat):Go C CO CP H ad S (L2.upd (L2.upd H p (.lst (c.map iV))) (ad .self) (.ins C (ad .dm) (cR (fU ad .cuts p) S.n S.passed))) (fU ad .cuts p) (S.iz c):=by
 have s1:=h.st.Hu (s:=.cuts) (o:=.lst (c.map iV)) hp
 have s2:=s1.Ht (s:=.self) (u:=.ins C (ad .dm) (cR ad S.n S.passed)) (o:=.ins C (ad .dm) (cR (fU ad .cuts p) S.n S.passed)) rfl
 have np:ad .self≠p:=aq (h.at_ (s:=.self) rfl) hp
 have ht:HT H (L2.upd (L2.upd H p (.lst (c.map iV))) (ad .self) (.ins C (ad .dm) (cR (fU ad .cuts p) S.n S.passed))):=(HT.new hp).trans (HT.upd (u:=.ins C (ad .dm) (cR ad S.n S.passed)) (by rw[ag np];exact h.at_ (s:=.self) rfl) λxs e=>by cases e)
 have sf:=s2.congr (c':=cont C CO CP (fU ad .cuts p) (S.iz c)) λt=>by cases t <;> rfl
 refine⟨⟨sf,λi=>Paired.bQ (h.tp i) λ_ _ z=>ht _ _ z,λi=>Paired.bQ (h.tc i) λ_ _ z=>ht _ _ z⟩,⟨λb u hb ho=>?_,λb hb=>?_⟩⟩
 . rw[ag λe=>ho ⟨.self,_,rfl,e.symm⟩,ag (aq hb hp)];exact hb
 . obtain⟨t,o,ht,e⟩:=hb
   by_cases q:t=.cuts
   . subst q
     exact .inr (e ▸ hp)
   . refine .inl ?_
     rw[aW q]at e
     by_cases q2:t=.self
     . subst q2;exact⟨.self,_,rfl,e⟩
     . have z:cont C CO CP (fU ad .cuts p) (S.iz c) t=cont C CO CP ad S t:=by cases t <;> first|rfl|exact absurd rfl q|exact absurd rfl q2
       exact⟨t,o,by rw[← z];exact ht,e⟩
theorem Rep.MN(h:Rep C CO CP H ad S){k:Nat}(hk:k<2*S.n+1)(hp:H p=none)(l:List Nat):Go C CO CP H ad S (L2.upd (L2.upd H p (.lst (l.map iV))) (ad .watches) (.lst ((fl (2*S.n+1) λi=>.ref (ad (.wl i))).set k (.ref p)))) (fU ad (.wl k) p) (S.ju k l)/\
 (∀{H':Hp},H'=L2.upd (L2.upd H p (.lst (l.map iV))) (ad .watches) (.lst ((fl (2*S.n+1) λi=>.ref (ad (.wl i))).set k (.ref p)))->H' (ad (.wl k))=some (.lst ((S.wl k).map iV)))/\¬ cB C CO CP (fU ad (.wl k) p) (S.ju k l) (ad (.wl k)):=by
 have s1:=h.st.Hu (s:=.wl k) (o:=.lst (l.map iV)) hp
 have s2:=s1.Ht (s:=.watches) (u:=.lst (fl (2*S.n+1) λi=>.ref (ad (.wl i)))) (o:=.lst ((fl (2*S.n+1) λi=>.ref (ad (.wl i))).set k (.ref p))) rfl
 have hw:H (ad .watches)=some (.lst (fl (2*S.n+1) λi=>.ref (ad (.wl i)))):=h.at_ (s:=.watches) rfl
 have np:ad .watches≠p:=aq hw hp
 have hold:=h.oJ hk
 have no:ad (.wl k)≠p:=aq hold hp
 have nw:ad (.wl k)≠ad .watches:=λe=>by
  have:=h.st.inj (.wl k) .watches _ _ (by rw[cont,XO hk]) rfl e
  cases this
 have ht:HT H (L2.upd (L2.upd H p (.lst (l.map iV))) (ad .watches) (.lst ((fl (2*S.n+1) λi=>.ref (ad (.wl i))).set k (.ref p)))):=(HT.new hp).trans (HT.upd (u:=.lst (fl (2*S.n+1) λi=>.ref (ad (.wl i)))) (by rw[ag np];exact hw) λxs e=>by cases e)
 have cw:cont C CO CP (fU ad (.wl k) p) (S.ju k l) .watches=some (.lst ((fl (2*S.n+1) λi=>.ref (ad (.wl i))).set k (.ref p))):=by
  rw[eD]
  show some (HO.lst (fl (2*S.n+1) λi=>.ref (fU ad (.wl k) p (.wl i))))=_
  congr 2
  refine uG λi hi=>?_
  by_cases e:i=k
  . subst e;rw[aI,aI]
  . rw[aW e,aW (show Sl.wl i≠.wl k from λz=>e (Sl.wl.inj z))]
 have ck:cont C CO CP (fU ad (.wl k) p) (S.ju k l) (.wl k)=some (.lst (l.map iV)):=by
  show (if k<2*S.n+1 then some (HO.lst ((fU S.wl k l k).map iV)) else none)=_
  rw[XO hk,aI]
 have co:∀t,t≠.watches->t≠.wl k->cont C CO CP (fU ad (.wl k) p) (S.ju k l) t=cont C CO CP ad S t:=λt q1 q2=>by
  cases t <;> first|rfl|exact absurd rfl q1|skip
  case wl i=>
   have ne:i≠k:=λe=>q2 (by rw[e])
   show (if i<2*S.n+1 then some (HO.lst ((fU S.wl k l i).map iV)) else none)=_
   rw[aW ne]
   rfl
 have sf:=s2.congr (c':=cont C CO CP (fU ad (.wl k) p) (S.ju k l)) λt=>by
  by_cases q1:t=.watches
  . subst q1;rw[cw,aI]
  . rw[aW q1]
    by_cases q2:t=.wl k
    . subst q2;rw[ck,aI]
    . rw[aW q2];exact co t q1 q2
 refine⟨⟨⟨sf,λi=>Paired.bQ (h.tp i) λ_ _ z=>ht _ _ z,λi=>Paired.bQ (h.tc i) λ_ _ z=>ht _ _ z⟩,⟨λb u hb ho=>?_,λb hb=>?_⟩⟩,λ{H'} e=>?_,?_⟩
 . rw[ag λe=>ho ⟨.watches,_,rfl,e.symm⟩,ag (aq hb hp)];exact hb
 . obtain⟨t,o,ht,e⟩:=hb
   by_cases q:t=.wl k
   . subst q
     rw[aI]at e
     exact .inr (e ▸ hp)
   . refine .inl ?_
     rw[aW q]at e
     by_cases q2:t=.watches
     . subst q2;exact⟨.watches,_,rfl,e⟩
     . exact⟨t,o,by rw[← co t q2 q];exact ht,e⟩
 . rw[e,ag nw,ag no];exact hold
 . rintro⟨t,o,ht,e⟩
   by_cases q:t=.wl k
   . subst q
     rw[aI]at e
     exact no e.symm
   . rw[aW q]at e
     by_cases q2:t=.watches
     . subst q2;exact nw e.symm
     . rw[co t q2 q]at ht
       exact q (h.st.inj t (.wl k) _ _ ht (by rw[cont,XO hk]) e)
end
end L2
namespace Gen
open PySem L2 Sat
abbrev uQ:Stmt:=inClass (top 7) 18
abbrev yI:Stmt:=inClass (top 7) 19
section
variable (C CO CP:Addr)
inductive BY(vs:List V) (H:Hp) (Q:VK):Prop
 | mk (ad:Sl->Addr) (S:SS) (cut:Nat) (h1:vs=[.ref (ad .self),iV cut]) (R:Rep C CO CP H ad S) (hb:Bk S) (hc:cut<=S.T.length)
  (kk:∀(H':Hp) (b sg:Nat->Int) (se:Nat),Bk (gY S b sg se cut)->Go C CO CP H ad S H' ad ((gY S b sg se cut).bG cut)->Q .bb H')
def rC:Sp:=λvs H Q _=>BY C CO CP vs H Q
end
abbrev EV:List Str:=["self", "cut", "literal", "variable"]
theorem pF:aG EV ["self", "cut"] (aB rq):=fs
section
variable {P:Program}{w:World}{K:W.Frag}{mg:Str->Option Value}{base:Heap}{C CO CP:Addr}
theorem BZ{f fF:Addr}{fd dF:FuncData}(F:aM K "unput" "Search.unput" rq f fd)(T:dZ K mg C)(TO:jD K mg CO)(hA:mg "abs" = none)(O:Own mg) (gF:aD P w K mg base aT 1 fF dF ["self", "variable"] (rB C CO CP)) (mF:Meth K CO "freed" fF) (bF:Binds K dF ["self", "variable"] []) :
 aD P w K mg base aT 2 f fd ["self", "cut"] (rC C CO CP):=by
 refine F.run pF λa6 A outer s H vs Q E hr h=>?_
 obtain⟨ad,S,cut,rfl,R,hb,hc,kk⟩:=h
 refine⟨_,ae (iL XX (aX (j6 (aJ a7 (by rfl) O.len X5 (aa (aw (pv 0) rfl) ak)) (pv 1)))
  (ae (aQ 2 pF.nd (Gq XD PySem.F.slot_list_pop PySem.F.type_list_pop Gv (aw (pv 0) rfl)))
  (ae (aQ 3 pF.nd (aJ c6 (by rfl) hA X4 (aa (pv 2) ak)))
  (ae (cY au (c8 (aw (pv 0) rfl) (pv 2) set_list))
  (ae (cY au (c8 (aw (pv 0) rfl) (f7 eQ (pv 2)) set_list))
  (ae (cY (oZ (aX (j6 (pv 2) au)) au (f7 eQ au)) (c8 (aw (pv 0) rfl) (pv 3) set_list))
  (av (aK (cQ (aw (pv 0) rfl) TO.cl mF gF hr bF (aa (pv 3) ak))))))))))
  (av (bu (pv 0) (pv 1) rfl)),?_⟩
 refine⟨λm σ Hx=>∃(k:Nat) (b sg:Nat->Int) (se:Nat) (v2 v3:Option V),m=k/\σ=[some (.ref (ad .self)),some (iV cut),v2,v3]/\cut<=k/\k<=S.T.length/\Bk (gY S b sg se k)/\Go C CO CP H ad S Hx ad (gY S b sg se k),
  ⟨S.T.length,S.T.length,S.bits,S.sg,S.seek,none,none,rfl,rfl,hc,Xv _,?_,?_⟩,?_⟩
 . have e:gY S S.bits S.sg S.seek S.T.length=S:=by unfold gY;rw[XU]
   rw[e];exact hb
 . have e:gY S S.bits S.sg S.seek S.T.length=S:=by unfold gY;rw[XU]
   rw[e];exact Go.refl R
 rintro m σ Hx ⟨k,b,sg,se,v2,v3,rfl,rfl,W0,NK,hB,g⟩
 have e1:(gY S b sg se m).T=S.T.take m:=rfl
 have tl:(S.T.take m).length=m:=by rw[XY];omega
 refine⟨_,rfl,ad .self,_,_,_,_,rfl,(Rep.s g.rep),T.cl,T.trail,d3,ad .trail,_,rfl,.inl (ax.of (g.rep.at_ (s:=.trail) rfl)),_,rfl,_,_,rfl,rfl,_,rfl,?_⟩
 rw[Xl,e1,tl]
 refine pj (λmq=>?_) (λmq=>?_)
 . have mq:cut<m:=by have:=Yh mq;omega
   obtain⟨k,rfl⟩:∃k,m=k+1:=⟨m-1,by omega⟩
   obtain⟨l,hl⟩:∃l,S.T[k]?=some l:=⟨_,Xo (by omega)⟩
   have hT:S.T.take (k+1)=S.T.take k++[l]:=by rw[Yg,hl];rfl
   have tk:(S.T.take k).length=k:=by rw[XY];omega
   have S6:=hB.pop (T:=S.T.take k) (l:=l) hT
   have S7:=(hB.lit l (by rw[e1,hT];exact Xu _ (Xm.mpr rfl)))
   have gX:l.natAbs<=S.n:=S7.2
   have oN:l.natAbs<S.n+1:=by omega
   refine⟨λbq Hx=>∃(b sg:Nat->Int) (se:Nat) (v2 v3:Option V),bq=[some (.ref (ad .self)),some (iV cut),v2,v3]/\Bk (gY S b sg se k)/\Go C CO CP H ad S Hx ad (gY S b sg se k),?_,?_⟩
   . rintro bq H' ⟨b,sg,se,v2,v3,rfl,q1,q2⟩
     exact⟨k,by omega,k,b,sg,se,v2,v3,rfl,rfl,by omega,by omega,q1,q2⟩
   refine⟨_,rfl,ad .self,_,_,_,_,rfl,(Rep.s g.rep),T.cl,T.trail,d3,.inl ⟨rfl,_,ax.of (g.rep.at_ (s:=.trail) rfl)⟩,ad .trail,_,.int l,rfl,rfl,g.rep.at_ (s:=.trail) rfl,?_,?_⟩
   . rw[Xl,e1,hT,Xs,tk,Xx,Yr (by rw[Xl,tk];exact Xv _),Xl,tk]
     show [V.int l][k+1-1-k]?=_
     rw[show k+1-1-k=0 by omega]
     rfl
   rw[e1,hT,Xx,XQ,Ym,List.dropLast_concat]
   have g1:=g.trans (g.rep.NI (S.T.take k))
   refine⟨_,rfl,l,rfl,?_⟩
   rw[dv]
   refine⟨_,rfl,ad .self,_,_,_,_,rfl,(Rep.s g1.rep),T.cl,T.bits,eZ,_,rfl,ad .bits,_,_,_,rfl,rfl,g1.rep.at_ (s:=.bits) rfl,by rw[aR];exact kc gX,?_⟩
   rw[eD,jR]
   have g2:=g1.trans (g1.rep.qp (fU b (idx S.n l) 0))
   refine⟨_,rfl,ad .self,_,_,_,_,rfl,(Rep.s g2.rep),T.cl,T.bits,eZ,_,rfl,l,rfl,ad .bits,_,_,_,rfl,rfl,g2.rep.at_ (s:=.bits) rfl,by rw[aR];exact kc (l:=-l) (by rw[Ya];exact gX),?_⟩
   rw[eD,jR]
   have g3:=g2.trans (g2.rep.qp (fU (fU b (idx S.n l) 0) (idx S.n (-l)) 0))
   have fin:∀{Hy:Hp}(x:Int),x=(if 0<l then 1 else -1)->Go C CO CP H ad S Hy ad ((((gY S b sg se (k+1)).sT (S.T.take k)).tM (fU b (idx S.n l) 0)).tM (fU (fU b (idx S.n l) 0) (idx S.n (-l)) 0))->yk (qb CO "freed" (rB C CO CP) [] E0 (o8 K (eU 0) "order") (n0 (eU 3) lO)) {nx:=λbq Hx=>∃(b sg:Nat->Int) (se:Nat) (v2 v3:Option V),bq=[some (.ref (ad .self)),some (iV cut),v2,v3]/\Bk (gY S b sg se k)/\Go C CO CP H ad S Hx ad (gY S b sg se k),rt:=Q}
    [some (.ref (ad .self)),some (iV cut),some (.int l),some (iV l.natAbs)] (L2.upd Hy (ad .signs) (.lst (fl (S.n+1) λi=>.int (fU sg l.natAbs x i)))):=λ{Hy} x hx g3=>by
    have g4:=g3.trans (g3.rep.QA (fU sg l.natAbs x))
    obtain⟨perm,oo⟩:=hB.ord
    refine⟨_,rfl,ad .self,_,_,_,_,rfl,(Rep.s g4.rep),T.cl,T.order,l6,ad .order,_,_,rfl,Rep.o g4.rep,by kernel_rfl,_,rfl,?_⟩
    refine⟨ad,_,l.natAbs,rfl,g4.rep,gX,oo.sk,λH' g5=>?_⟩
    subst hx
    exact⟨_,_,_,_,_,rfl,S6,g4.trans g5⟩
   refine⟨_,rfl,_,_,rfl,rfl,_,rfl,?_⟩
   refine pj (λhp=>?_) (λhp=>?_)
   . have hp:=Yh hp
     refine⟨_,rfl,ad .self,_,_,_,_,rfl,(Rep.s g3.rep),T.cl,T.signs,lZ,_,rfl,ad .signs,_,_,_,rfl,rfl,g3.rep.at_ (s:=.signs) rfl,by rw[aR];exact du oN,?_⟩
     rw[eD,jR]
     exact fin 1 (by rw[XO (by omega)]) g3
   . have hp:¬ (0<l):=λz=>hp (Xw z)
     refine⟨_,rfl,_,rfl,ad .self,_,_,_,_,rfl,(Rep.s g3.rep),T.cl,T.signs,lZ,_,rfl,ad .signs,_,_,_,rfl,rfl,g3.rep.at_ (s:=.signs) rfl,by rw[aR];exact du oN,?_⟩
     rw[eD,jR]
     exact fin (-1) (by rw[XW hp]) g3
 . have mq:m=cut:=by
    have:¬ ((cut:Int)<(m:Int)):=λz=>mq (Xw z)
    omega
   subst mq
   refine⟨_,rfl,_,rfl,ad .self,_,_,_,rfl,Rep.s g.rep,T.cl,T.passed,(by show 19<1000;decide),?_⟩
   rw[sN]
   exact kk _ b sg se hB (g.trans (g.rep.uL m))
end
section
variable {ad:Sl->Addr}{n p:Nat}{q:Addr}
theorem xu:eM "cuts" (.ref q) (cR ad n p)=cR (fU ad .cuts q) n p:=by kernel_rfl
end
def j8(S:SS)(b sg:Nat->Int)(se c k:Nat):SS:=((gY S b sg se c).bG c).iz (S.cuts.take k)
section
variable (C CO CP:Addr)
inductive B1(vs:List V) (H:Hp) (Q:VK):Prop
 | mk (ad:Sl->Addr) (S:SS) (k c:Nat) (h1:vs=[.ref (ad .self),iV k]) (R:Rep C CO CP H ad S) (hb:Bk S) (hk:S.cuts[k]?=some c) (hc:c<=S.T.length)
  (kk:∀(H':Hp) (p:Addr) (b sg:Nat->Int) (se:Nat),Bk (j8 S b sg se c k)->Go C CO CP H ad S H' (fU ad .cuts p) (j8 S b sg se c k)->Q .bb H')
def rD:Sp:=λvs H Q _=>B1 C CO CP vs H Q
inductive EW(vs:List V) (H:Hp) (Q:VK):Prop
 | mk (ad:Sl->Addr) (S:SS) (h1:vs=[.ref (ad .self)]) (R:Rep C CO CP H ad S) (hb:Bk S)
  (kk:∀(H':Hp) (p:Addr) (b sg:Nat->Int) (se:Nat),Bk (((gY S b sg se 0).bG 0).iz [])->Go C CO CP H ad S H' (fU ad .cuts p) (((gY S b sg se 0).bG 0).iz [])->Q .bb H')
def Aa:Sp:=λvs H Q _=>EW C CO CP vs H Q
end
abbrev Hv:List Str:=["self", "level"]
theorem EX:aG Hv ["self", "level"] (aB uQ):=fs
theorem HA:aG ["self"] ["self"] (aB yI):=fs
section
variable {P:Program}{w:World}{K:W.Frag}{mg:Str->Option Value}{base:Heap}{C CO CP:Addr}
theorem EY{f Ab:Addr}{fd dU:FuncData}(F:aM K "go_back" "Search.go_back" uQ f fd)(T:dZ K mg C)(O:Own mg) (gU:aD P w K mg base aT 2 Ab dU ["self", "cut"] (rC C CO CP)) (mU:Meth K C "unput" Ab) (bU:Binds K dU ["self", "cut"] []):aD P w K mg base aT 3 f fd ["self", "level"] (rD C CO CP):=by
 refine F.run EX λa6 A outer s H vs Q E hr h=>?_
 obtain⟨ad,S,k,c,rfl,R,hb,hk,hc,kk⟩:=h
 have hl:=(Xr.mp hk).1
 refine⟨_,av (bR (aX (nX (pv 1) (aJ a7 (by rfl) O.len X5 (aa (aw (pv 0) rfl) ak))))
  (ae (aK (cQ (pv 0) T.cl mU gU hr bU (aa (aF ay (aw (pv 0) rfl) (pv 1) (λ_ _=>rfl)) ak)))
  (av (bu (pv 0) (fR gQ (aw (pv 0) rfl) iw (gd (pv 1))) rfl))) br),?_⟩
 refine⟨_,rfl,_,rfl,ad .self,_,_,_,_,rfl,(Rep.s R),T.cl,T.cuts,iU,ad .cuts,_,rfl,.inl (ax.of (R.at_ (s:=.cuts) rfl)),_,_,rfl,rfl,_,rfl,?_⟩
 rw[Xl]
 refine bX (Xw (by omega)) ?_
 refine⟨_,rfl,ad .self,_,_,rfl,Rep.s R,by kernel_rfl,_,rfl,ad .self,_,_,_,_,rfl,(Rep.s R),T.cl,T.cuts,iU,_,rfl,ad .cuts,_,_,iV c,rfl,rfl,ax.of (R.at_ (s:=.cuts) rfl),bt (by rw[Xt,hk];rfl),?_⟩
 refine⟨ad,S,c,rfl,R,hb,hc,λH1 b sg se hB g=>?_⟩
 refine⟨_,rfl,ad .self,_,_,_,_,rfl,(Rep.s g.rep),T.cl,T.cuts,iU,_,rfl,_,rfl,ad .cuts,_,rfl,ax.of (g.rep.at_ (s:=.cuts) rfl),λp hp=>?_⟩
 have e:gs ((((gY S b sg se c).bG c).cuts).map iV) none (some (k:Int))=(S.cuts.take k).map iV:=by rw[zZ _ (by rw[Xl];exact X7 hl),List.map_take];rfl
 rw[e]
 refine⟨_,rfl,ad .self,_,_,_,rfl,(by rw[ag (aq (Rep.s g.rep) hp)];exact Rep.s g.rep),T.cl,T.cuts,(by show 19<1000;decide),?_⟩
 rw[xu]
 exact kk _ p b sg se ⟨hB.lit,hB.nd,hB.bit,hB.ord,hB.sgn⟩ (g.trans (g.rep.xt hp (S.cuts.take k)))
theorem yJ{f Ab:Addr}{fd dU:FuncData}(F:aM K "take_back_all" "Search.take_back_all" yI f fd)(T:dZ K mg C) (gU:aD P w K mg base aT 2 Ab dU ["self", "cut"] (rC C CO CP)) (mU:Meth K C "unput" Ab) (bU:Binds K dU ["self", "cut"] []):aD P w K mg base aT 3 f fd ["self"] (Aa C CO CP):=by
 refine F.run HA λa6 A outer s H vs Q E hr h=>?_
 obtain⟨ad,S,rfl,R,hb,kk⟩:=h
 refine⟨_,ae (aK (cQ (pv 0) T.cl mU gU hr bU (aa au ak))) (av (bu (pv 0) (bj ak) rfl)),?_⟩
 refine⟨_,rfl,ad .self,_,_,rfl,Rep.s R,by kernel_rfl,?_⟩
 refine⟨ad,S,0,rfl,R,hb,Yi _,λH1 b sg se hB g=>?_⟩
 refine⟨(by show 0<=sizeLine;decide),λp hp=>?_⟩
 refine⟨_,rfl,ad .self,_,_,_,rfl,(by rw[ag (aq (Rep.s g.rep) hp)];exact Rep.s g.rep),T.cl,T.cuts,(by show 19<1000;decide),?_⟩
 rw[xu]
 exact kk _ p b sg se ⟨hB.lit,hB.nd,hB.bit,hB.ord,hB.sgn⟩ (g.trans (g.rep.xt hp []))
end
end Gen
namespace L2
open PySem PySem.Spec PyProof.Rows Sat
structure cG(n g:Nat) (held:List (List Int)) (wl:Nat->List Nat) (pl:Nat->List (Int×Nat)) (singles:List Nat):Prop where
 wn:∀k,(wl k).Nodup
 wx:∀k j,j∈wl k->∃a b r,held[j]?=some (a::b::r)/\r≠[]/\(k=idx n a\/k=idx n b)
 wc:∀(j:Nat) a b r,j<g->held[j]?=some (a::b::r)->r≠[]->j∈wl (idx n a)/\j∈wl (idx n b)
 px:∀k (q:Int×Nat),q∈pl k->∃x,k=idx n x/\(held[q.2]?=some [x,q.1]\/held[q.2]?=some [q.1,x])
 pc:∀(j:Nat) a b,j<g->held[j]?=some [a,b]->(b,j)∈pl (idx n a)/\(a,j)∈pl (idx n b)
 pn:∀k,((pl k).map (·.2)).Nodup
 sx:∀j∈singles,∃c,held[j]?=some c/\c.length<2
 sc:∀(j:Nat) c,j<g->held[j]?=some c->c.length<2->j∈singles
 sn:singles.Nodup
 hcl:∀c∈held,cf n c
theorem k8{m:Nat}{l:List Nat}(nd:l.Nodup)(h:∀j∈l,j<m):l.length<=m:=by
 have:=nd.length_le_of_subset (l₂:=List.range m) λx hx=>YL.mpr (h x hx)
 rwa[Z1]at this
theorem aO{α:Type}{l:List α}{j:Nat}{x:α}(h:l[j]?=some x):j<l.length:=(Xr.mp h).1
section
variable {n g:Nat}{held:List (List Int)}{wl:Nat->List Nat}{pl:Nat->List (Int×Nat)}{singles:List Nat}
theorem cG.pG(h:cG n g held wl pl singles)(k:Nat):(wl k).length<=held.length:=k8 (h.wn k) λj hj=>by
 obtain⟨a,b,r,e,_⟩:=h.wx k j hj
 exact aO e
theorem cG.perm(h:cG n g held wl pl singles){j:Nat}{a b:Int}{r:List Int}(hj:held[j]?=some (a::b::r)) (hr:r≠[]){a' b':Int}{r':List Int}(hp:(a'::b'::r').Perm (a::b::r)) (k9:Nat->List Nat)
 (wn:∀k,(k9 k).Nodup) (wx:∀k i,i∈k9 k->(i=j/\(k=idx n a'\/k=idx n b'))\/(i≠j/\i∈wl k)) (wc:∀i k,i≠j->i∈wl k->i∈k9 k) (w1:j<g->j∈k9 (idx n a')/\j∈k9 (idx n b')):cG n g (held.set j (a'::b'::r')) k9 pl singles:=by
 have lr:r'.length=r.length:=by have:=hp.length_eq;simpa using this
 have sP:r'≠[]:=λe=>hr (Yq.mp (by rw[← lr,e];rfl))
 have jl:=aO hj
 have ne:∀{i:Nat},i≠j->(held.set j (a'::b'::r'))[i]?=held[i]?:=λh=>YD (YF h)
 have eq:(held.set j (a'::b'::r'))[j]?=some (a'::b'::r'):=Yp jl
 have long:∀{c:List Int},held[j]?=some c->c.length<3->False:=λhc hl=>by
  rw[hj]at hc
  cases hc
  cases r with
  | nil=>exact hr rfl
  | cons _ _=>simp only[X0]at hl;omega
 refine⟨wn,λk i hi=>?_,λi x y s hg he hs=>?_,λk q hq=>?_,λi x y hg he=>?_,h.pn,λi hi=>?_,λi c hg he hl=>?_,h.sn,λc hc=>?_⟩
 . rcases wx k i hi with⟨e,hk⟩|⟨e,hi⟩
   . subst e;exact⟨a',b',r',eq,sP,hk⟩
   . obtain⟨x,y,s,NL⟩:=h.wx k i hi
     exact⟨x,y,s,by rw[ne e];exact NL.1,NL.2⟩
 . by_cases e:i=j
   . subst e
     rw[eq]at he
     cases he
     exact w1 hg
   . rw[ne e]at he
     obtain⟨h1,h2⟩:=h.wc i x y s hg he hs
     exact⟨wc _ _ e h1,wc _ _ e h2⟩
 . obtain⟨x,hx,hh⟩:=h.px k q hq
   have e:q.2≠j:=λe=>by
    rw[e]at hh
    rcases hh with hh|hh <;> exact long hh (by simp)
   exact⟨x,hx,by rw[ne e];exact hh⟩
 . have e:i≠j:=λe=>by
    subst e
    rw[eq]at he
    cases r' with
    | nil=>exact sP rfl
    | cons _ _=>cases he
   rw[ne e]at he
   exact h.pc i x y hg he
 . obtain⟨c,hc,hl⟩:=h.sx i hi
   have e:i≠j:=λe=>by subst e;exact long hc (by omega)
   exact⟨c,by rw[ne e];exact hc,hl⟩
 . have e:i≠j:=λe=>by
    subst e
    rw[eq]at he
    cases he
    simp at hl
    omega
   rw[ne e]at he
   exact h.sc i c hg he hl
 . rcases List.mem_or_eq_of_mem_set hc with hc|hc
   . exact h.hcl c hc
   . rw[hc]
     exact(h.hcl _ (Xn hj)).perm hp
end
theorem b8.set{h:List (List Int)}{j:Nat}{c d:List Int}(hj:h[j]?=some c) (hp:d.Perm c):b8 h (h.set j d):=λr x hx=>by
 by_cases e:r=j
 . subst e
   rw[hj]at hx
   cases hx
   exact⟨d,Yp (aO hj),λ_=>hp.mem_iff⟩
 . exact⟨x,by rw[YD (YF e)];exact hx,λ_=>Iff.rfl⟩
def iW(g:Nat) (held:List (List Int)) (T:List Int) (cuts:List Nat) (p:Nat) (done:Nat->Prop):Prop:=∀(j:Nat) a b r,j<g->held[j]?=some (a::b::r)->(WP T cuts p a b/\WP T cuts p b a)/\(done j->WP T cuts (p+1) a b/\WP T cuts (p+1) b a)
theorem iW.put{g:Nat}{held:List (List Int)}{T:List Int}{cuts:List Nat}{p:Nat}{done:Nat->Prop}(h:iW g held T cuts p done) (hp:p<T.length) (hc:∀c∈cuts,c<=T.length) (l:Int):iW g held (T++[l]) cuts p done:=λj a b r hg he=>by
 obtain⟨⟨h1,h2⟩,h3⟩:=h j a b r hg he
 exact⟨⟨h1.put (by omega) hc l,h2.put (by omega) hc l⟩,λd=>⟨(h3 d).1.put hp hc l,(h3 d).2.put hp hc l⟩⟩
theorem WP.here{T:List Int}{cuts:List Nat}{p:Nat}{a b x:Int}(hp:T[p]?=some x) (nd:(T.map Int.natAbs).Nodup) (hb:b∈T) (ha : -a=x) (hc:∀c∈cuts,c<=p):WP T cuts (p+1) a b:=λ_=>by
 refine⟨hb,λc pP je=>?_⟩
 exfalso
 obtain⟨i,hi,he⟩:=iP je
 have:=hc c pP
 have pw:=X9.mp nd
 have l1:=aO he
 have l2:=aO hp
 have:=pw i p (by rw[Xl];exact l1) (by rw[Xl];exact l2) (by omega)
 rw[Yk,Yk,(Xr.mp he).2,(Xr.mp hp).2,ha]at this
 exact this rfl
theorem WP.never{T:List Int}{cuts:List Nat}{p:Nat}{a b:Int}(h : -a∉T):WP T cuts p a b:=λha=>absurd (Yu ha) h
theorem WP.next{T:List Int}{cuts:List Nat}{p:Nat}{a b x:Int}(h:WP T cuts p a b)(hp:T[p]?=some x)(ha : -a≠x):WP T cuts (p+1) a b:=λhm=>by
 rw[Yg,hp]at hm
 rcases Xp.mp hm with hm|hm
 . exact h hm
 . exact absurd (by simpa using hm) ha
structure Pg(S S':SS):Prop where
 n:S'.n=S.n
 g:S'.g=S.g
 cuts:S'.cuts=S.cuts
 left:S'.left=S.left
 ch:S'.ch=S.ch
 passed:S'.passed=S.passed
 T:∃more,S'.T=S.T++more
 he:b8 S.held S'.held
 hl:S'.held.length=S.held.length
 sp:S'.spans=S.spans
theorem Pg.refl(S:SS):Pg S S:=⟨rfl,rfl,rfl,rfl,rfl,rfl,⟨[],(Yl _).symm⟩,b8.refl _,rfl,rfl⟩
theorem Pg.trans{a b c:SS}(h:Pg a b)(k:Pg b c):Pg a c:=⟨k.n.trans h.n,k.g.trans h.g,k.cuts.trans h.cuts,k.left.trans h.left,k.ch.trans h.ch,k.passed.trans h.passed,by
 obtain⟨x,hx⟩:=h.T
 obtain⟨y,hy⟩:=k.T
 exact⟨x++y,by rw[hy,hx,Y2]⟩,h.he.trans k.he,k.hl.trans h.hl,k.sp.trans h.sp⟩
structure Lk(wants:List Int) (S:SS) (k p:Nat) (aP:Int) (rest pend:List Nat):Prop where
 bk:Bk S
 tok:fj S.n wants S.held S.T S.cuts S.lev S.pla S.rea
 wat:cG S.n S.g S.held (fU S.wl k (S.wl k++rest)) S.pl S.singles
 wd:iW S.g S.held S.T S.cuts p (λj=>j∉pend)
 hp:S.T[p]?=some (-aP)
 hc:∀c∈S.cuts,c<=p
 hk:k=idx S.n aP
section
variable {wants:List Int}{S:SS}{k p:Nat}{aP:Int}{rest pend:List Nat}{j:Nat}
theorem Lk.fT(h:Lk wants S k p aP rest pend) : -aP∈S.T:=Xn h.hp
theorem Lk.rF(h:Lk wants S k p aP rest pend):aP≠0/\aP.natAbs<=S.n:=by
 have:=h.bk.lit _ h.fT
 omega
theorem Lk.here(h:Lk wants S k p aP (j::rest) pend):∃a b r,S.held[j]?=some (a::b::r)/\r≠[]/\(aP=a\/aP=b):=by
 obtain⟨a,b,r,e,hr,hk⟩:=h.wat.wx k j (by rw[aI];exact Xu _ XB)
 have ok:=h.wat.hcl _ (Xn e)
 have ha:=(ok.ok a XB).2
 have hb:=(ok.ok b (XA _ XB)).2
 refine⟨a,b,r,e,hr,hk.imp (λz=>dR h.rF.2 ha (h.hk ▸ z)) λz=>dR h.rF.2 hb (h.hk ▸ z)⟩
theorem l8{n:Nat}{c:List Int}(ok:cf n c){i j:Nat}{x y:Int}(hx:c[i]?=some x)(hy:c[j]?=some y)(ij:i≠j):x≠y/\x ≠ -y:=by
 have pw:=X9.mp ok.nd
 have l1:=aO hx
 have l2:=aO hy
 have e1:=(Xr.mp hx).2
 have e2:=(Xr.mp hy).2
 have key:x.natAbs≠y.natAbs:=by
  rcases ZS ij with q|q
  . have:=pw i j (by rw[Xl];exact l1) (by rw[Xl];exact l2) q
    rwa[Yk,Yk,e1,e2]at this
  . have:=pw j i (by rw[Xl];exact l2) (by rw[Xl];exact l1) q
    rw[Yk,Yk,e1,e2]at this
    exact λz=>this z.symm
 exact⟨λz=>key (by rw[z]),λz=>key (by rw[z,Ya])⟩
theorem HB{α:Type}{l r:List α}{x:α}(h:(l++x::r).Nodup):x∉l/\x∉r:=by
 rw[Ye,X6]at h
 exact⟨λz=>h.2.2 x z x XB rfl,h.2.1.1⟩
theorem Lk.swap(h:Lk wants S k p aP (j::rest) pend){b:Int}{r:List Int}(hj:S.held[j]?=some (aP::b::r)) (hr:r≠[]):Lk wants (S.iK (S.held.set j (b::aP::r))) k p aP (j::rest) pend:=by
 have pm:(b::aP::r).Perm (aP::b::r):=List.Perm.swap _ _ _
 refine⟨⟨h.bk.lit,h.bk.nd,h.bk.bit,h.bk.ord,h.bk.sgn⟩,h.tok.ext (b8.set hj pm),?_,λi x y s hg he=>?_,h.hp,h.hc,h.hk⟩
 . refine h.wat.perm hj hr pm _ h.wat.wn (λk' i hi=>?_) (λ_ _ _ hi=>hi) λhg=>?_
   . by_cases e:i=j
     . subst e
       obtain⟨a',b',r',e',_,hk⟩:=h.wat.wx k' i hi
       rw[hj]at e'
       cases e'
       exact .inl ⟨rfl,hk.symm⟩
     . exact .inr ⟨e,hi⟩
   . obtain⟨h1,h2⟩:=h.wat.wc j _ _ _ hg hj hr
     exact⟨h2,h1⟩
 . have he:(S.held.set j (b::aP::r))[i]?=some (x::y::s):=he
   by_cases e:i=j
   . subst e
     rw[Yp (aO hj)]at he
     cases he
     obtain⟨h1,h2⟩:=h.wd i _ _ _ hg hj
     exact⟨h1.symm,λd=>(h2 d).symm⟩
   . rw[YD (YF e)]at he
     exact h.wd i x y s hg he
theorem DF{α β:Type}[DecidableEq α] {f:α->β}{a:α}{x y:β} : fU (fU f a x) a y=fU f a y:=by
 funext z
 unfold fU
 split <;> rfl
theorem DG{α β:Type}[DecidableEq α] {f:α->β}{a:α} : fU f a (f a)=f:=by
 funext z
 unfold fU
 split
 . rename_i e;rw[e]
 . rfl
theorem Lk.push(h:Lk wants S k p aP (j::rest) pend):Lk wants (S.ju k (S.wl k++[j])) k p aP rest pend:=by
 refine⟨⟨h.bk.lit,h.bk.nd,h.bk.bit,h.bk.ord,h.bk.sgn⟩,h.tok,?_,h.wd,h.hp,h.hc,h.hk⟩
 have e:fU (fU S.wl k (S.wl k++[j])) k (fU S.wl k (S.wl k++[j]) k++rest)=fU S.wl k (S.wl k++j::rest):=by rw[DF,aI,Y2,Yo]
 have:=h.wat
 rw[← e]at this
 exact this
theorem Lk.i7(h:Lk wants S k p aP rest (j::pend)){a:Int}{r:List Int}(hj:S.held[j]?=some (a::aP::r)) (ha:a∈S.T):Lk wants S k p aP rest pend:=by
 refine⟨h.bk,h.tok,h.wat,λi x y s hg he=>?_,h.hp,h.hc,h.hk⟩
 obtain⟨h1,h2⟩:=h.wd i x y s hg he
 refine⟨h1,λd=>?_⟩
 by_cases e:i=j
 . subst e
   have zM:=hj.symm.trans he
   cases zM
   exact⟨WP.never (h.bk.oK ha),WP.here h.hp h.bk.nd ha rfl h.hc⟩
 . exact h2 λz=>(XI.mp z).elim e d
def DH(S:SS)(j:Nat)(c:List Int)(q:Nat):SS:={S with held:=S.held.set j c,wl:=fU S.wl q (S.wl q++[j])}
theorem Lk.move(h:Lk wants S k p aP (j::rest) (j::pend)){a b:Int}{r:List Int}{i:Nat}(hj:S.held[j]?=some (a::aP::r)) (hi:r[i]?=some b) (hb : -b∉S.T):Lk wants (DH S j (a::b::r.set i aP) (idx S.n b)) k p aP rest pend/\b8 S.held (S.held.set j (a::b::r.set i aP)):=by
 have hr:r≠[]:=λe=>by rw[e]at hi;cases hi
 have ok:=h.wat.hcl _ (Xn hj)
 have pm:(a::b::r.set i aP).Perm (a::aP::r):=by
  refine List.Perm.cons _ ?_
  have hl:=aO hi
  have e:r=r.take i++b::r.drop (i+1):=by
   have e1:=(Xr.mp hi).2
   conv=>lhs;rw[← ZC i r,Zj hl,e1]
  rw[List.set_eq_take_append_cons_drop,XO hl]
  conv=>rhs;rw[e]
  refine((List.perm_middle (a:=aP) (l₁:=r.take i) (l₂:=r.drop (i+1))).cons b).trans ?_
  refine(List.Perm.swap _ _ _).trans ?_
  exact(List.perm_middle (a:=b)).symm.cons aP
 have uR:=ok.ok b (XA _ (XA _ (Xn hi)))
 have bf:b≠aP:=(l8 ok (i:=i+2) (j:=1) (x:=b) (y:=aP) hi rfl (by omega)).1
 have ba:b≠a:=(l8 ok (i:=i+2) (j:=0) (x:=b) (y:=a) hi rfl (by omega)).1
 have af:a≠aP:=(l8 ok (i:=0) (j:=1) rfl rfl (by omega)).1
 have lb:=ok.ok a XB
 have kb:idx S.n b≠k:=λe=>bf (dR uR.2 h.rF.2 (e.trans h.hk))
 have nj:j∉S.wl (idx S.n b):=λz=>by
  obtain⟨x,y,s,e,_,hk⟩:=h.wat.wx (idx S.n b) j (by rw[aW kb];exact z)
  rw[hj]at e
  cases e
  rcases hk with q|q
  . exact ba (dR uR.2 lb.2 q)
  . exact bf (dR uR.2 h.rF.2 q)
 have HC:=h.wat.wn k
 rw[aI]at HC
 have NM:=HB HC
 refine⟨⟨⟨h.bk.lit,h.bk.nd,h.bk.bit,h.bk.ord,h.bk.sgn⟩,h.tok.ext (b8.set hj pm),?_,λi' x y s hg he=>?_,h.hp,h.hc,h.hk⟩,b8.set hj pm⟩
 . have ek:∀q,fU (fU S.wl (idx S.n b) (S.wl (idx S.n b)++[j])) k (fU S.wl (idx S.n b) (S.wl (idx S.n b)++[j]) k++rest) q=if q=k then S.wl k++rest else if q=idx S.n b then S.wl (idx S.n b)++[j] else S.wl q:=λq=>by
    unfold fU
    by_cases e1:q=k
    . rw[XO e1,XW kb.symm,XO e1]
    . rw[XW e1,XW e1]
   refine h.wat.perm hj hr pm (fU (fU S.wl (idx S.n b) (S.wl (idx S.n b)++[j])) k (fU S.wl (idx S.n b) (S.wl (idx S.n b)++[j]) k++rest)) (λq=>?_) (λq i' gf=>?_) (λi' q iF gf=>?_) λhg=>?_
   . rw[ek]
     split
     . refine HC.sublist ?_
       exact aaD (aaU _) (aad _ _)
     . split
       . rw[Ye]
         have:=h.wat.wn (idx S.n b)
         rw[aW kb]at this
         exact⟨this,X6.mpr ⟨Yf,Yb⟩,λu hu v hv e=>nj (by rw[Xm.mp hv]at e;exact e ▸ hu)⟩
       . rename_i q1 _
         have:=h.wat.wn q
         rwa[aW q1]at this
   . rw[ek]at gf
     by_cases e:i'=j
     . subst e
       refine .inl ⟨rfl,?_⟩
       split at gf
       . rcases Xp.mp gf with z|z
         . exact absurd z NM.1
         . exact absurd z NM.2
       . split at gf
         . rename_i q2;exact .inr q2
         . rename_i q1 q2
           obtain⟨x,y,s,e',_,hk⟩:=h.wat.wx q i' (by rw[aW q1];exact gf)
           rw[hj]at e'
           cases e'
           rcases hk with z|z
           . exact .inl z
           . exact absurd (z.trans h.hk.symm) q1
     . refine .inr ⟨e,?_⟩
       split at gf
       . rename_i q1
         rw[q1,aI]
         rcases Xp.mp gf with z|z
         . exact XF _ z
         . exact Xu _ (XA _ z)
       . rename_i q1
         rw[aW q1]
         split at gf
         . rename_i q2
           rw[q2]
           rcases Xp.mp gf with z|z
           . exact z
           . exact absurd (Xm.mp z) e
         . exact gf
   . rw[ek]
     by_cases q1:q=k
     . rw[XO q1]
       rw[q1,aI]at gf
       rcases Xp.mp gf with z|z
       . exact XF _ z
       . exact Xu _ ((XI.mp z).resolve_left iF)
     . rw[XW q1]
       rw[aW q1]at gf
       split
       . rename_i q2
         rw[q2]at gf
         exact XF _ gf
       . exact gf
   . have h1:=(h.wat.wc j _ _ _ hg hj hr).1
     have ka:idx S.n a≠k:=λe=>af (dR lb.2 h.rF.2 (e.trans h.hk))
     rw[aW ka]at h1
     refine⟨?_,?_⟩
     . rw[ek,XW ka,XW λe=>ba (dR uR.2 lb.2 e.symm)]
       exact h1
     . rw[ek,XW kb,XO rfl]
       exact Xu _ (Xm.mpr rfl)
 . have he:(S.held.set j (a::b::r.set i aP))[i']?=some (x::y::s):=he
   by_cases e:i'=j
   . subst e
     rw[Yp (aO hj)]at he
     cases he
     obtain⟨⟨h1,h2⟩,_⟩:=h.wd i' _ _ _ hg hj
     have na : -a∉S.T.take p:=λz=>h.bk.oK (h1 z).1 (by exact h.fT)
     have xw:∀q b',q<=p+1->WP S.T S.cuts q a b':=λq b' hq z=>by
      exfalso
      have z:=Zi S.T hq z
      rw[Yg,h.hp]at z
      rcases Xp.mp z with z|z
      . exact na z
      . have : -a = -aP:=by simpa using z
        exact af (by omega)
     exact⟨⟨xw p b (by omega),WP.never hb⟩,λ_=>⟨xw (p+1) b (by omega),WP.never hb⟩⟩
   . rw[YD (YF e)]at he
     obtain⟨h1,h2⟩:=h.wd i' x y s hg he
     exact⟨h1,λd=>h2 λz=>(XI.mp z).elim e d⟩
theorem Lk.unit(h:Lk wants S k p aP rest (j::pend)){a:Int}{r:List Int}(hj:S.held[j]?=some (a::aP::r)) (hr:∀x∈r,-x∈S.T) (ha:a.natAbs∉S.T.map Int.natAbs):Lk wants (gh S a (some j)) k p aP rest pend:=by
 have ok:=h.wat.hcl _ (Xn hj)
 have lb:=ok.ok a XB
 have gi:=aO h.hp
 have hcl:∀c∈S.cuts,c<=S.T.length:=λc hc=>X7 (h.tok.cl c hc)
 have zT:=ha
 rw[fX,ZG]at zT
 refine⟨h.bk.put (some j) lb.2 lb.1 ha,h.tok.put (r:=some j) lb.1 lb.2 ha ⟨_,hj,XB,λx hx ne=>?_⟩ rfl rfl rfl,h.wat,λi x y s hg he=>?_,?_,h.hc,h.hk⟩
 . rw[XU]
   rcases XI.mp hx with e|hx
   . exact absurd e ne
   . rcases XI.mp hx with e|hx
     . rw[e];exact h.fT
     . exact hr x hx
 . obtain⟨⟨h1,h2⟩,h3⟩:=h.wd i x y s hg he
   refine⟨⟨h1.put (X7 gi) hcl a,h2.put (X7 gi) hcl a⟩,λd=>?_⟩
   by_cases e:i=j
   . subst e
     have zM:=hj.symm.trans he
     cases zM
     refine⟨WP.never λz=>?_,WP.here (x:=-aP) (show (S.T++[a])[p]?=_ by rw[X8 gi];exact h.hp) (h.bk.put (some i) lb.2 lb.1 ha).nd (Xu _ (Xm.mpr rfl)) rfl h.hc⟩
     rcases Xp.mp z with z|z
     . exact zT.2 z
     . have:=Xm.mp z;omega
   . obtain⟨h4,h5⟩:=h3 λz=>(XI.mp z).elim e d
     exact⟨h4.put gi hcl a,h5.put gi hcl a⟩
 . show (S.T++[a])[p]?=_
   rw[X8 gi]
   exact h.hp
end
theorem iX{a b:TS}{D:Ends}{σ:St}{H:Hp}(I:St->Hp->Prop) (h1:∀r:TS,(∀bq H',I bq H'->r D bq H')->lM a r D σ H) (h2:∀bq H',I bq H'->b D bq H'):lM a b D σ H:=h1 b h2
theorem rG{v:V}{i:Nat}{b:TS}{D:Ends}{σ:St}{H:Hp}(h:b D (σ.set i (some v)) H):lM (qS (tC v) (ee i)) b D σ H:=h
section
variable {C CO CP:Addr}{H H':Hp}{ad bp:Sl->Addr}{S S':SS}
theorem Go.alloc(g:Go C CO CP H ad S H' bp S'){p:Addr}{o:HO}(hp:H' p=none):Go C CO CP H ad S (L2.upd H' p o) bp S':=by
 have s:aC H' (L2.upd H' p o):=λb u hb=>by rw[ag (aq hb hp)];exact hb
 exact⟨g.rep.same s,⟨λb u hb ho=>s _ _ (g.kp.st b u hb ho),g.kp.nw⟩⟩
theorem Rep.HD(h:Rep C CO CP H ad S){j q:Nat}(hj:j<S.held.length)(hq:q<2*S.n+1)(c1 c2:List Int) :
 Go C CO CP H ad S (L2.upd (L2.upd (L2.upd H (ad (.cl j)) (.lst (c1.map V.int))) (ad (.cl j)) (.lst (c2.map V.int))) (ad (.wl q)) (.lst ((S.wl q++[j]).map iV))) ad (DH S j c2 q):=by
 have g1:=h.rj hj c1
 have e1:(S.iK (S.held.set j c1)).held=S.held.set j c1:=rfl
 have g2:=g1.trans (g1.rep.rj (k:=j) (by rw[e1,YB];exact hj) c2)
 have e2:(S.iK (S.held.set j c1)).iK ((S.iK (S.held.set j c1)).held.set j c2)=S.iK (S.held.set j c2):=by
  rw[e1,List.set_set]
  rfl
 rw[e2]at g2
 exact g2.trans (g2.rep.uO (k:=q) hq (S.wl q++[j]))
end
end L2
namespace Gen
open PySem L2 Sat
abbrev uS:Stmt:=inClass (top 7) 11
theorem B4{K:W.Frag}{a:Addr}{xs:List V}{g:TG}{tb:TS}{D:Ends}{σ:St}{H:Hp}(Pv:Nat->St->Hp->Prop)(h0:Pv 0 σ H)(hl:∀i σ H,i<=xs.length->Pv i σ H->ax K H a xs)
 (hs:∀i x T σ H,xs[i]?=some x->H T=none->Pv i σ H->g (.ref T) σ (upd H T (.tup [.int (i:Int),x])) λgr H2=>tb {D with nx:=Pv (i+1),ct:=Pv (i+1),bk:=D.nx} gr H2) (hd:∀σ H,Pv xs.length σ H->D.nx σ H) :
 ∃W:Nat->Nat->St->Hp->Prop,(∃m,W 0 m σ H)/\∀i m σ H,W i m σ H->
  ((zK K a).stop i H/\D.nx σ H)\/((zK K a).go i H/\∃N:St->Hp->Prop,(∀bq H',N bq H'->∃m',m'<m/\W (i+1) m' bq H')/\∀x H',(zK K a).yld i H x H'->g x σ H' λgr H2=>tb {D with nx:=N,ct:=N,bk:=D.nx} gr H2):=by
 refine⟨λi m σ H=>m=xs.length-i/\i<=xs.length/\Pv i σ H,⟨xs.length,by simp,Yi _,h0⟩,?_⟩
 rintro i m σ H ⟨rfl,hi,p⟩
 have q:=hl i σ H hi p
 by_cases eF:i<xs.length
 . refine .inr ⟨⟨xs,xs[i],q,by simp[eF]⟩,Pv (i+1),λbq H' p'=>⟨xs.length-(i+1),by omega,rfl,eF,p'⟩,λx H' y=>?_⟩
   obtain⟨T,v,rfl,hT,rfl,hv⟩:=y
   exact hs i v T σ H (hv xs q) hT p
 . refine .inl ⟨⟨xs,q,by omega⟩,?_⟩
   obtain rfl:i=xs.length:=by omega
   exact hd σ H p
structure tO(S:SS) (p r:Nat):Prop where
 ex:∃c,S.held[r]?=some c/\(∀x∈c,-x∈S.T)/\∃x∈c,S.T[p]?=some (-x)
section
variable (C CO CP:Addr) (wants:List Int)
inductive B5(vs:List V) (H:Hp) (Q:VK):Prop
 | mk (ad:Sl->Addr) (S:SS) (p:Nat) (aP:Int) (h1:vs=[.ref (ad .self),.int aP]) (R:Rep C CO CP H ad S) (hb:Bk S) (tok:fj S.n wants S.held S.T S.cuts S.lev S.pla S.rea) (wat:cG S.n S.g S.held S.wl S.pl S.singles) (wd:iW S.g S.held S.T S.cuts p (λj=>j∉S.wl (idx S.n aP)))
  (hp:S.T[p]?=some (-aP)) (hc:∀c∈S.cuts,c<=p) (hm:S.held.length<=1000000) (hn:S.n<=1000)
  (k0:∀(H':Hp) (bp:Sl->Addr) (S':SS),bp .self=ad .self->bp .bits=ad .bits->Go C CO CP H ad S H' bp S'->Pg S S'->Bk S'->fj S'.n wants S'.held S'.T S'.cuts S'.lev S'.pla S'.rea->cG S'.n S'.g S'.held S'.wl S'.pl S'.singles->iW S'.g S'.held S'.T S'.cuts (p+1) (λ_=>False)->Q .bb H')
  (k1:∀(H':Hp) (bp:Sl->Addr) (S':SS) (r:Nat),bp .self=ad .self->bp .bits=ad .bits->Go C CO CP H ad S H' bp S'->Pg S S'->Bk S'->fj S'.n wants S'.held S'.T S'.cuts S'.lev S'.pla S'.rea->cG S'.n S'.g S'.held S'.wl S'.pl S'.singles->iW S'.g S'.held S'.T S'.cuts p (λ_=>False)->tO S' p r->Q (iV r) H')
def xx:Sp:=λvs H Q _=>B5 C CO CP wants vs H Q
end
abbrev HE:List Str:=["self", "fallen", "bits", "held", "watching", "stay", "seen", "number", "clause", "first", "bit", "place"]
theorem ff:aG HE ["self", "fallen"] (aB uS):=fs
theorem iW.none{g:Nat}{held:List (List Int)}{T:List Int}{cuts:List Nat}{p:Nat}{done:Nat->Prop}(h:iW g held T cuts p done):iW g held T cuts p (λ_=>False):=λj a b r hg he=>⟨(h j a b r hg he).1,λz=>z.elim⟩
theorem iW.step{g:Nat}{held:List (List Int)}{T:List Int}{cuts:List Nat}{p:Nat}(h:iW g held T cuts p (λj=>j∉([]:List Nat))):iW g held T cuts (p+1) (λ_=>False):=λj a b r hg he=>⟨(h j a b r hg he).2 Yf,λz=>z.elim⟩
section
variable {P:Program}{w:World}{K:W.Frag}{mg:Str->Option Value}{base:Heap}{C CO CP:Addr}{wants:List Int}
theorem EZ{f fP:Addr}{fd dP:FuncData}(F:aM K "looked_at" "Search.looked_at" uS f fd)(T:dZ K mg C)(O:Own mg) (gP:aD P w K mg base aT 1 fP dP ["self", "literal", "reason"] (k7 C CO CP)) (mP:Meth K C "put" fP) (bP:Binds K dP ["self", "literal", "reason"] []) :
 aD P w K mg base aT 2 f fd ["self", "fallen"] (xx C CO CP wants):=by
 refine F.run ff λa6 A outer s H vs Q E hr h=>?_
 obtain⟨ad,S,p,aP,rfl,R,hb,tok,wat,wd,hp,hc,hm,hn,k0,k1⟩:=h
 refine⟨_,(ae (aQ 2 ff.nd (aw (pv 0) rfl))
  (ae (aQ 3 ff.nd (aw (pv 0) rfl))
  (ae (aQ 4 ff.nd (aF (r:=aZ K) ay (aw (pv 0) rfl) (pv 1) (λ_ _=>rfl)))
  (ae (aQ 5 ff.nd (bj ak))
  (ae (cY (pv 5) (c8 (aw (pv 0) rfl) (pv 1) set_list))
  (ae (cJ XX rfl (EK (by rfl) O.enum (aa (pv 4) ak)) (pU rfl (gq (aL (i:=6) ff.nd rfl (Or.inl rfl)) (gq (aL (i:=7) ff.nd rfl (Or.inl rfl)) nY)))
   (ae (aQ 8 ff.nd (aF (r:=aZ K) ay (pv 3) (pv 7) (λ_ _=>rfl)))
   (ae (aQ 9 ff.nd (aF (r:=aZ K) ay (pv 8) au (λ_ _=>rfl)))
   (ae (bR (aX (c7 (pv 9) (pv 1)))
    (ae (aQ 9 ff.nd (aF (r:=aZ K) ay (pv 8) au (λ_ _=>rfl)))
    (ae (cY (pv 9) (c8 (pv 8) au set_list))
    (av (cY (pv 1) (c8 (pv 8) au set_list))))) br)
   (ae (aQ 10 ff.nd (aF (r:=aZ K) ay (pv 2) (pv 9) (λ_ _=>rfl)))
   (ae (bR (aX (c7 (pv 10) au))
    (ae (aK (cV XD XG XH bz (pv 5) (aa (pv 7) ak)))
    (av (oC))) br)
   (ae (aQ 11 ff.nd au)
   (ae (iL XX (PW.pt (ja (aX (nX (pv 11) (aJ a7 (by rfl) O.len X5 (aa (pv 8) ak)))) (iq (aX (c7 (aF (r:=aZ K) ay (pv 2) (aF (r:=aZ K) ay (pv 8) (pv 11) (λ_ _=>rfl)) (λ_ _=>rfl)) (f7 eQ au))))))
    (av (mQ (i:=11) ff.nd rfl (Or.inl rfl) au ze)))
   (ae (bR (aX (nX (pv 11) (aJ a7 (by rfl) O.len X5 (aa (pv 8) ak))))
    (ae (cY (aF (r:=aZ K) ay (pv 8) (pv 11) (λ_ _=>rfl)) (c8 (pv 8) au set_list))
    (ae (cY (pv 1) (c8 (pv 8) (pv 11) set_list))
    (ae (aK (cV XD XG XH bz (aF (r:=aZ K) ay (aw (pv 0) rfl) (aF (r:=aZ K) ay (pv 8) au (λ_ _=>rfl)) (λ_ _=>rfl)) (aa (pv 7) ak)))
    (av (oC))))) br)
   (ae (aK (cV XD XG XH bz (pv 5) (aa (pv 7) ak)))
   (ae (bR (aX (c7 (pv 10) (f7 eQ au)))
    (ae (aK (cV XD YI YJ jQ (pv 5) (aa (fR gQ (pv 4) (gd (aV fq (pv 6) au)) iw) ak)))
    (av (aY (pv 7)))) br)
   (av (aK (cQ (pv 0) T.cl mP gP hr bP (aa (pv 9) (aa (pv 7) ak))))))))))))))))
  (av (aY i8)))))))),?_⟩
 have fn:aP.natAbs<=S.n:=by have:=hb.lit _ (Xn hp);omega
 generalize hk:idx S.n aP=k at wd
 have uT:k<2*S.n+1:=by rw[← hk];exact kZ fn
 refine⟨_,rfl,ad .self,_,_,_,_,rfl,(Rep.s R),T.cl,T.bits,eZ,_,rfl,ad .self,_,_,_,_,rfl,(Rep.s R),T.cl,T.held,eX,_,rfl,ad .self,_,_,_,_,rfl,(Rep.s R),T.cl,T.watches,gw,_,rfl,ad .watches,_,_,_,rfl,rfl,ax.of (R.at_ (s:=.watches) rfl),fE fn,?_⟩
 rw[hk]
 refine⟨(by show 0<=sizeLine;decide),λsy HF=>?_⟩
 refine⟨_,rfl,_,rfl,ad .self,_,_,_,_,rfl,(by rw[ag (aq (Rep.s R) HF)];exact Rep.s R),T.cl,T.watches,gw,_,rfl,ad .watches,_,_,_,rfl,rfl,(by rw[ag (aq (R.at_ (s:=.watches) rfl) HF)];exact R.at_ (s:=.watches) rfl),by rw[aR];exact kc fn,?_⟩
 rw[hk]
 obtain⟨g0,hold,mG⟩:=R.MN uT HF []
 have hold:=hold rfl
 obtain⟨df,qt⟩:∃df,df=fU ad (.wl k) sy:=⟨_,rfl⟩
 have ow:df .self=ad .self:=by rw[qt];rfl
 have tP:df .bits=ad .bits:=by rw[qt];rfl
 have MO:df .held=ad .held:=by rw[qt];rfl
 have Ac:df (.wl k)=sy:=by rw[qt,aI]
 rw[← qt]at g0 mG
 have L0:Lk wants (S.ju k []) k p aP (S.wl k) (S.wl k):=by
  refine⟨⟨hb.lit,hb.nd,hb.bit,hb.ord,hb.sgn⟩,tok,?_,wd,hp,hc,hk.symm⟩
  show cG S.n S.g S.held (fU (fU S.wl k []) k (fU S.wl k [] k++S.wl k)) S.pl S.singles
  rw[DF,aI,List.nil_append,DG]
  exact wat
 have P0:Pg S (S.ju k []):=⟨rfl,rfl,rfl,rfl,rfl,rfl,⟨[],(Yl _).symm⟩,b8.refl _,rfl,rfl⟩
 generalize S.ju k []=S1 at g0 mG L0 P0
 rw[Ym]at g0 hold
 generalize (upd (upd H sy (HO.lst [])) (ad Sl.watches) (HO.lst ((fl (2*S.n+1) λi=>V.ref (ad (Sl.wl i))).set k (V.ref sy))))=H1 at g0 hold ⊢
 generalize hq:ad (.wl k)=q at hold mG ⊢
 generalize MP:S.wl k=old at L0 hold ⊢
 have ol:old.length<=1000000:=by rw[← MP];exact XS (wat.pG k) hm
 refine⟨_,rfl,q,rfl,⟨_,ax.of hold⟩,?_⟩
 refine B4 (xs:=old.map iV) (λi σ Hx=>∃(S':SS) (v6 v7 v8 v9 v10 v11:Option V),σ=[some (.ref (ad .self)),some (.int aP),some (.ref (ad .bits)),some (.ref (ad .held)),some (.ref q),some (.ref sy),v6,v7,v8,v9,v10,v11]/\Go C CO CP H1 df S1 Hx df S'/\Pg S S'/\Lk wants S' k p aP (old.drop i) (old.drop i))
  ⟨S1,none,none,none,none,none,none,rfl,Go.refl g0.rep,P0,L0⟩ ?_ ?_ ?_
 . rintro i σ Hx hi ⟨S',v6,v7,v8,v9,v10,v11,rfl,g,_⟩
   exact ax.of (g.kp.st q _ hold mG)
 . rintro i x tt σ Hx hx kr ⟨S2,v6,v7,v8,v9,v10,v11,rfl,g,pg,L⟩
   obtain⟨j,NN,rfl⟩:∃j,old[i]?=some j/\x=iV j:=by
    rw[Xt]at hx
    cases e:old[i]? with
    | none=>rw[e]at hx;cases hx
    | some j=>rw[e]at hx;exact⟨j,rfl,(Xq hx).symm⟩
   have Ad:=aO NN
   have S8:old.drop i=j::old.drop (i+1):=by rw[Zj Ad,(Xr.mp NN).2]
   rw[S8]at L
   generalize tQ:old.drop (i+1)=rest at L
   have g:=g.alloc (o:=.tup [.int (i:Int),iV j]) kr
   refine⟨tt,_,rfl,jr.of aj,rfl,_,_,rfl,_,_,rfl,rfl,?_⟩
   generalize upd Hx tt (.tup [.int (i:Int),iV j])=Hy at g ⊢
   obtain⟨a0,b0,r0,iY,Ae,xy⟩:=L.here
   have jl:=aO iY
   refine⟨_,rfl,_,rfl,ad .held,_,_,.ref (df (.cl j)),rfl,rfl,by rw[← MO];exact ax.of (g.rep.at_ (s:=.held) rfl),bY jl,?_⟩
   refine⟨_,rfl,df (.cl j),_,_,.int a0,rfl,rfl,ax.of (g.rep.eI iY),bt (j:=0) rfl,?_⟩
   dsimp only[ee]
   refine iX (a:=qR _ _ _) (λbq H'=>∃(S3:SS) (a:Int) (r:List Int),bq=[some (.ref (ad .self)),some (.int aP),some (.ref (ad .bits)),some (.ref (ad .held)),some (.ref q),some (.ref sy),some (.int (i:Int)),some (iV j),some (.ref (df (.cl j))),some (.int a),v10,v11]/\Go C CO CP H1 df S1 H' df S3/\Pg S S3/\Lk wants S3 k p aP (j::rest) (j::rest)/\S3.held[j]?=some (a::aP::r)/\r≠[]) (λrr next=>?_) ?_
   . refine⟨_,rfl,_,rfl,_,_,rfl,rfl,_,rfl,?_⟩
     by_cases ef:a0=aP
     . subst ef
       refine bX (Xw rfl) ?_
       refine⟨_,rfl,df (.cl j),_,_,.int b0,rfl,rfl,ax.of (g.rep.eI iY),bt (j:=1) rfl,?_⟩
       refine⟨_,rfl,_,rfl,df (.cl j),_,0,0,rfl,rfl,g.rep.eI iY,du (j:=0) (by simp),?_⟩
       refine⟨_,rfl,_,rfl,df (.cl j),_,1,1,rfl,rfl,aj,du (j:=1) (by simp),?_⟩
       have g1:=g.rep.rj jl (b0::b0::r0)
       have e1:(S2.iK (S2.held.set j (b0::b0::r0))).held=S2.held.set j (b0::b0::r0):=rfl
       have g2:=g1.trans (g1.rep.rj (k:=j) (by rw[e1,YB];exact jl) (b0::a0::r0))
       have e2:(S2.iK (S2.held.set j (b0::b0::r0))).iK ((S2.iK (S2.held.set j (b0::b0::r0))).held.set j (b0::a0::r0))=S2.iK (S2.held.set j (b0::a0::r0)):=by
        rw[e1,List.set_set]
        rfl
       rw[e2]at g2
       have pm:(b0::a0::r0).Perm (a0::b0::r0):=List.Perm.swap _ _ _
       exact next _ _ ⟨_,b0,r0,rfl,g.trans g2,pg.trans ⟨rfl,rfl,rfl,rfl,rfl,rfl,⟨[],(Yl _).symm⟩,b8.set iY pm,YB,rfl⟩,L.swap iY Ae,Yp jl,Ae⟩
     . refine cc (Xz ef) ?_
       have eb:aP=b0:=xy.resolve_left λz=>ef z.symm
       subst eb
       exact next _ _ ⟨S2,a0,r0,rfl,g,pg,L,iY,Ae⟩
   clear g pg L iY Ae xy jl
   rintro bq Hz ⟨S3,a,r,rfl,g,pg,L,iY,Ae⟩
   have jl:=aO iY
   have ok:=L.wat.hcl _ (Xn iY)
   have an:=ok.ok a XB
   have uR:S3.bits (idx S3.n a)=bV S3.T a:=L.bk.bit a an.2
   have h3:S3.held.length<=1000000:=by rw[pg.hl];exact hm
   have NO:k<2*S3.n+1:=by rw[pg.n];exact uT
   have HG:(S3.wl k).length<sizeLine:=by
    have:=L.wat.pG k
    rw[aI,Xs]at this
    exact XT (by omega:_<=1000000) (by decide)
   have uU:∀{Hw:Hp},Go C CO CP H1 df S1 Hw df S3->Hw sy=some (.lst ((S3.wl k).map iV)):=λg=>by rw[← Ac];exact g.rep.oJ NO
   refine⟨_,rfl,_,rfl,ad .bits,_,_,.int (bV S3.T a),rfl,rfl,by rw[← tP];exact ax.of (g.rep.at_ (s:=.bits) rfl),by rw[fE an.2,uR],?_⟩
   have push:∀{Hw:Hp},Go C CO CP H1 df S1 Hw df S3->Go C CO CP H1 df S1 (upd Hw sy (.lst ((S3.wl k).map iV++[iV j]))) df (S3.ju k (S3.wl k++[j])):=λg=>by
    have:=g.trans (g.rep.uO NO (S3.wl k++[j]))
    rw[Ac,Xx]at this
    exact this
   have HH:∀l,Pg S (S3.ju k l):=λl=>pg.trans ⟨rfl,rfl,rfl,rfl,rfl,rfl,⟨[],(Yl _).symm⟩,b8.refl _,rfl,rfl⟩
   dsimp only[ee]
   refine iX (a:=qR _ _ _) (λbq H'=>bq=[some (.ref (ad .self)),some (.int aP),some (.ref (ad .bits)),some (.ref (ad .held)),some (.ref q),some (.ref sy),some (.int (i:Int)),some (iV j),some (.ref (df (.cl j))),some (.int a),some (.int (bV S3.T a)),v11]/\Hz=H'/\bV S3.T a≠1) (λrr next=>?_) ?_
   . refine⟨_,rfl,_,_,rfl,rfl,_,rfl,?_⟩
     by_cases eb:bV S3.T a=1
     . refine bX (Xw eb) ?_
       refine⟨_,rfl,.inl ⟨rfl,_,ax.of (uU g)⟩,_,rfl,sy,_,_,rfl,rfl,uU g,(by rw[Xl];exact HG),?_⟩
       refine⟨_,_,_,_,_,_,_,rfl,push g,HH _,?_⟩
       exact(L.push).i7 iY (kn.mp eb)
     . exact cc (Xz eb) (next _ _ ⟨rfl,rfl,eb⟩)
   rintro bq H' ⟨rfl,rfl,NP⟩
   refine rG ?_
   refine iX (a:=zf _ _) (λbq H'=>∃m:Nat,bq=[some (.ref (ad .self)),some (.int aP),some (.ref (ad .bits)),some (.ref (ad .held)),some (.ref q),some (.ref sy),some (.int (i:Int)),some (iV j),some (.ref (df (.cl j))),some (.int a),some (.int (bV S3.T a)),some (iV (2+m))]/\Hz=H'/\m<=r.length/\(∀x∈r.take m,-x∈S3.T)/\∀x,r[m]?=some x->bV S3.T x ≠ -1) (λrr next=>?_) ?_
   . refine⟨λz bq H'=>∃m:Nat,z=r.length-m/\bq=[some (.ref (ad .self)),some (.int aP),some (.ref (ad .bits)),some (.ref (ad .held)),some (.ref q),some (.ref sy),some (.int (i:Int)),some (iV j),some (.ref (df (.cl j))),some (.int a),some (.int (bV S3.T a)),some (iV (2+m))]/\H'=H'/\Hz=H'/\m<=r.length/\∀x∈r.take m,-x∈S3.T,⟨_,0,rfl,rfl,rfl,rfl,Yi _,λx hx=>by rw[Yy]at hx;cases hx⟩,?_⟩
     rintro z bq H' ⟨m,rfl,rfl,_,rfl,HI,sQ⟩
     have len:((a::aP::r).map V.int).length=r.length+2:=by rw[Xl];rfl
     refine⟨_,rfl,_,rfl,df (.cl j),_,rfl,.inl (ax.of (g.rep.eI iY)),_,_,rfl,rfl,_,rfl,?_⟩
     rw[len]
     by_cases em:m=r.length
     . subst em
       refine cc (Xz (by omega)) (eP ?_)
       exact next _ _ ⟨_,rfl,rfl,HI,sQ,λx hx=>by rw[X3 (Xv _)]at hx;cases hx⟩
     . have DI:m<r.length:=by omega
       obtain⟨x,hx⟩:∃x,r[m]?=some x:=⟨_,Xo DI⟩
       have xn:=ok.ok x (XA _ (XA _ (Xn hx)))
       have HJ:kF ((a::aP::r).map V.int) ((2+m:Nat):Int)=some (.int x):=bt (by rw[show 2+m=m+1+1 by omega,XQ,XQ,YC,YC,Xt,hx];rfl)
       refine bX (Xw (by omega)) ⟨_,rfl,_,rfl,_,rfl,df (.cl j),_,_,.int x,rfl,rfl,ax.of (g.rep.eI iY),HJ,ad .bits,_,_,.int (bV S3.T x),rfl,rfl,by rw[← tP];exact ax.of (g.rep.at_ (s:=.bits) rfl),by rw[fE xn.2,L.bk.bit x xn.2],_,rfl,_,_,rfl,rfl,_,rfl,?_⟩
       by_cases ex:bV S3.T x = -1
       . refine bX (Xw ex) ⟨λbq H'=>bq=[some (.ref (ad .self)),some (.int aP),some (.ref (ad .bits)),some (.ref (ad .held)),some (.ref q),some (.ref sy),some (.int (i:Int)),some (iV j),some (.ref (df (.cl j))),some (.int a),some (.int (bV S3.T a)),some (iV (2+(m+1)))]/\Hz=H',?_,?_⟩
         . rintro bq H' ⟨rfl,rfl⟩
           refine⟨r.length-(m+1),by omega,m+1,rfl,rfl,rfl,rfl,DI,λy hy=>?_⟩
           rw[Yg,hx]at hy
           rcases Xp.mp hy with hy|hy
           . exact sQ y hy
           . have:y=x:=by simpa using hy
             rw[this];exact nF ex
         . exact⟨_,rfl,_,_,rfl,rfl,rfl,rfl⟩
       . refine cc (Xz ex) ?_
         exact next _ _ ⟨m,rfl,rfl,HI,sQ,λy hy=>by rw[hx]at hy;cases hy;exact ex⟩
   rintro bq H' ⟨m,rfl,rfl,HI,sQ,NQ⟩
   have len:((a::aP::r).map V.int).length=r.length+2:=by rw[Xl];rfl
   refine iX (a:=qR _ _ _) (λbq H'=>bq=[some (.ref (ad .self)),some (.int aP),some (.ref (ad .bits)),some (.ref (ad .held)),some (.ref q),some (.ref sy),some (.int (i:Int)),some (iV j),some (.ref (df (.cl j))),some (.int a),some (.int (bV S3.T a)),some (iV (2+m))]/\H'=H'/\Hz=H'/\m=r.length) (λrr next=>?_) ?_
   . refine⟨_,rfl,_,rfl,df (.cl j),_,rfl,.inl (ax.of (g.rep.eI iY)),_,_,rfl,rfl,_,rfl,?_⟩
     rw[len]
     by_cases em:m=r.length
     . exact cc (Xz (by omega)) (next _ _ ⟨rfl,rfl,rfl,em⟩)
     . have DI:m<r.length:=by omega
       obtain⟨x,hx⟩:∃x,r[m]?=some x:=⟨_,Xo DI⟩
       have xn:=ok.ok x (XA _ (XA _ (Xn hx)))
       have HJ:kF ((a::aP::r).map V.int) ((2+m:Nat):Int)=some (.int x):=bt (by rw[show 2+m=m+1+1 by omega,XQ,XQ,YC,YC,Xt,hx];rfl)
       have nx : -x∉S3.T:=λz=>NQ x hx (by
        unfold bV
        rw[XW λy=>L.bk.oK y z,XO z])
       refine bX (Xw (by omega)) ⟨_,rfl,_,rfl,df (.cl j),_,_,.int x,rfl,rfl,ax.of (g.rep.eI iY),HJ,_,rfl,df (.cl j),_,1,1,rfl,rfl,g.rep.eI iY,du (j:=1) (by simp),?_⟩
       refine⟨_,rfl,_,rfl,_,rfl,df (.cl j),_,_,2+m,rfl,rfl,aj,(by rw[YB,len];exact du (by omega)),?_⟩
       obtain⟨S9,Ta⟩:=L.move iY hx nx
       have xl:idx S3.n x<2*S3.n+1:=kZ xn.2
       have gm:=g.rep.HD (j:=j) jl xl (a::x::r) (a::x::r.set m aP)
       have es:(((a::aP::r).map V.int).set 1 (.int x)).set (2+m) (.int aP)=(a::x::r.set m aP).map V.int:=by
        rw[show 2+m=m+1+1 by omega,XQ,XQ,XQ,XQ,List.map_set]
        rfl
       rw[es]
       have g2:=g.rep.rj jl (a::x::r)
       have r2:=(g2.rep.rj (k:=j) (by show j<(S3.held.set j _).length;rw[YB];exact jl) (a::x::r.set m aP)).rep
       have Tb:((a::aP::r).map V.int).set 1 (.int x)=(a::x::r).map V.int:=rfl
       rw[Tb]
       refine⟨_,rfl,ad .self,_,_,_,_,rfl,(by rw[← ow];exact Rep.s r2),T.cl,T.watches,gw,_,rfl,df (.cl j),_,_,.int x,rfl,rfl,ax.of aj,bt (j:=1) rfl,df .watches,_,_,.ref (df (.wl (idx S3.n x))),rfl,rfl,ax.of (r2.at_ (s:=.watches) rfl),fE xn.2,.inl ⟨rfl,_,ax.of (r2.oJ (k:=idx S3.n x) xl)⟩,_,rfl,df (.wl (idx S3.n x)),_,_,rfl,rfl,r2.oJ (k:=idx S3.n x) xl,?_,?_⟩
       . rw[Xl]
         have kx:idx S3.n x≠k:=λe=>(l8 ok (i:=m+2) (j:=1) (x:=x) (y:=aP) hx rfl (by omega)).1 (dR xn.2 L.rF.2 (e.trans L.hk))
         have:=L.wat.pG (idx S3.n x)
         rw[aW kx]at this
         exact XT (by exact XS this h3:_<=1000000) (by decide)
       . rw[Xx]at gm
         refine⟨_,_,_,_,_,_,_,rfl,g.trans gm,pg.trans ⟨rfl,rfl,rfl,rfl,rfl,rfl,⟨[],(Yl _).symm⟩,Ta,YB,rfl⟩,?_⟩
         exact S9
   rintro bq H' ⟨rfl,_,rfl,rfl⟩
   rw[XU]at sQ
   refine⟨_,rfl,.inl ⟨rfl,_,ax.of (uU g)⟩,_,rfl,sy,_,_,rfl,rfl,uU g,(by rw[Xl];exact HG),?_⟩
   have g4:=push g
   have P4:=HH (S3.wl k++[j])
   have L4:=L.push
   have DJ:(S3.ju k (S3.wl k++[j])).held[j]?=some (a::aP::r):=iY
   have T4:(S3.ju k (S3.wl k++[j])).T=S3.T:=rfl
   have W4:(S3.ju k (S3.wl k++[j])).wl k=S3.wl k++[j]:=aI
   rw[← List.map_singleton (f:=iV),← Xx]at g4 ⊢
   generalize upd Hz sy (.lst ((S3.wl k++[j]).map iV))=Hw at g4 ⊢
   generalize S3.ju k (S3.wl k++[j])=S4 at g4 P4 L4 DJ T4 W4
   rw[← T4]at sQ NP ⊢
   clear uU push HH uR HG L pg g iY jl NQ
   refine⟨_,rfl,_,rfl,_,_,rfl,rfl,_,rfl,?_⟩
   by_cases eb:bV S4.T a = -1
   . -- a clash
     refine bX (Xw eb) ?_
     have Tc:=g4.kp.st q _ hold mG
     have HK:k<2*S4.n+1:=by rw[P4.n];exact uT
     refine⟨_,rfl,.inl ⟨rfl,_,ax.of (by rw[← Ac];exact g4.rep.oJ HK)⟩,_,rfl,_,rfl,_,_,rfl,rfl,_,rfl,q,_,rfl,ax.of Tc,λz hz=>?_⟩
     have e5:gs (old.map iV) (some ((i:Int)+1)) none=rest.map iV:=by
      rw[show ((i:Int)+1)=((i+1:Nat):Int) from rfl,sO _ (by rw[Xl];omega),← tQ,List.map_drop]
     rw[e5]
     have g5:=g4.alloc (o:=.lst (rest.map iV)) hz
     have lw:(S4.wl k).length+rest.length<=1000000:=by
      have:=L4.wat.pG k
      rw[aI,Xs]at this
      exact XS this (by rw[P4.hl];exact hm)
     refine⟨sy,z,_,_,rfl,rfl,by rw[← Ac];exact g5.rep.oJ HK,aj,(by rw[Xl,Xl];exact XS lw (by decide)),?_⟩
     have g6:=g5.trans (g5.rep.uO HK (S4.wl k++rest))
     rw[Ac,Xx]at g6
     refine⟨_,rfl,k1 _ df _ j ow tP (g0.trans g6) (P4.trans ⟨rfl,rfl,rfl,rfl,rfl,rfl,⟨[],(Yl _).symm⟩,b8.refl _,rfl,rfl⟩) ⟨L4.bk.lit,L4.bk.nd,L4.bk.bit,L4.bk.ord,L4.bk.sgn⟩ L4.tok L4.wat (iW.none L4.wd) ⟨_,DJ,λx hx=>?_,aP,XA _ XB,L4.hp⟩⟩
     rcases XI.mp hx with e|hx
     . rw[e];exact nF eb
     . rcases XI.mp hx with e|hx
       . rw[e];exact L4.fT
       . exact sQ x hx
   . refine cc (Xz eb) ?_
     have b0:bV S4.T a=0:=(ou S4.T a).resolve_right λz=>z.elim NP eb
     have fr:=gg.mp b0
     have fv:a.natAbs∉S4.T.map Int.natAbs:=by rw[fX,ZG];exact fr
     have Td:a.natAbs<=S4.n:=((L4.wat.hcl _ (Xn DJ)).ok a XB).2
     refine⟨_,rfl,ad .self,_,_,rfl,by rw[← ow];exact Rep.s g4.rep,by kernel_rfl,_,rfl,_,rfl,?_⟩
     rw[← ow]
     refine⟨df,S4,a,some j,rfl,g4.rep,Td,XS L4.bk.len (by rw[P4.n];exact hn),λH' g5=>?_⟩
     refine⟨gh S4 a (some j),_,_,_,_,_,_,by rw[ow],g4.trans g5,P4.trans ⟨rfl,rfl,rfl,rfl,rfl,rfl,⟨[a],rfl⟩,b8.refl _,rfl,rfl⟩,?_⟩
     exact L4.unit DJ sQ fv
 . rintro σ Hx ⟨S',v6,v7,v8,v9,v10,v11,rfl,g,pg,L⟩
   rw[Xl,List.drop_length]at L
   have e:fU S'.wl k (S'.wl k++[])=S'.wl:=by rw[Yl,DG]
   have W:=L.wat
   rw[e]at W
   exact k0 _ df S' ow tP (g0.trans g) pg L.bk L.tok W (iW.step L.wd)
end
end Gen
namespace L2
open PySem PySem.Spec PyProof.Rows Sat
structure Iv(wants:List Int) (S:SS):Prop where
 bk:Bk S
 tok:fj S.n wants S.held S.T S.cuts S.lev S.pla S.rea
 wat:cG S.n S.g S.held S.wl S.pl S.singles
abbrev Wd(S:SS)(p:Nat):Prop:=iW S.g S.held S.T S.cuts p (λ_=>False)
structure Al(wants:List Int) (S:SS):Prop where
 iv:Iv wants S
 ps:S.passed<=S.T.length
 pc:∀c∈S.cuts,c<=S.passed
 s1:∀(j:Nat) c,j<S.g->S.held[j]?=some c->c.length<2->∃l∈c,l∈S.T/\∀d∈S.cuts,l∈S.T.take d
 sw:∀x∈wants,x∈S.T/\∀d∈S.cuts,x∈S.T.take d
 gl:S.g<=S.held.length
 ch:∀(j:Nat) c,S.g<=j->S.held[j]?=some c->fh (S.held.take j) (S.ch j) (λx=>x∈c)
 lf:S.left=100-((S.held.length-S.g:Nat):Int)
 cn:S.held.length-S.g<=val S.n S.cuts S.T.length
 n6:S.n<=6
 g1:S.g<=1000
 sp:S.spans.length<=S.held.length
 cb:∀j,S.g<=j->j<S.held.length->(S.ch j).length<=200
structure Rl(S S':SS):Prop where
 n:S'.n=S.n
 g:S'.g=S.g
 he:b8 S.held S'.held
theorem Rl.trans{a b c:SS}(h:Rl a b)(k:Rl b c):Rl a c:=⟨k.n.trans h.n,k.g.trans h.g,h.he.trans k.he⟩
theorem Al.small{wants:List Int}{S:SS}(h:Al wants S):S.held.length<=2000:=by
 have h1:=h.cn
 have h2:=og (n:=S.n) (cuts:=S.cuts) (k:=S.T.length) h.iv.bk.len
 have h3:2 ^ S.n<=2 ^ 6:=ZH (by decide) h.n6
 have:=h.g1
 have:=h.gl
 omega
theorem b8.take{h h':List (List Int)}(k:b8 h h') (j:Nat):b8 (h.take j) (h'.take j):=λr c hr=>by
 rw[Yv]at hr
 split at hr
 . rename_i hj
   obtain⟨c',e,m⟩:=k r c hr
   exact⟨c',by rw[Yv,XO hj];exact e,m⟩
 . cases hr
theorem b8.back{h h':List (List Int)}(k:b8 h h'){j:Nat}{c':List Int}(hj:h'[j]?=some c') (hl:j<h.length):∃c,h[j]?=some c/\∀x,x∈c' ↔ x∈c:=by
 obtain⟨d,e,m⟩:=k j _ (Xo hl)
 rw[hj]at e
 cases e
 exact⟨_,Xo hl,m⟩
theorem MQ{n:Nat}{c:List Int}(h:cf n c):c.Nodup:=Z2 (λhn e=>hn (by rw[e])) (YN.mp h.nd)
theorem Al.pg{wants:List Int}{S S':SS}(h:Al wants S) (k:Pg (S.bG S'.passed) S') (i:Iv wants S') (hp:S'.passed<=S'.T.length) (hc:∀c∈S'.cuts,c<=S'.passed):Al wants S':=by
 obtain⟨more,et⟩:=k.T
 have et:S'.T=S.T++more:=et
 have ec:S'.cuts=S.cuts:=k.cuts
 have eg:S'.g=S.g:=k.g
 have en:S'.n=S.n:=k.n
 have ch:S'.ch=S.ch:=k.ch
 have el:S'.held.length=S.held.length:=k.hl
 have he:b8 S.held S'.held:=k.he
 have tk:∀d∈S.cuts,S'.T.take d=S.T.take d:=λd hd=>by rw[et,YK (X7 (h.iv.tok.cl d hd))]
 refine⟨i,hp,hc,λj c hj lg hl=>?_,λx hx=>?_,by rw[eg,el];exact h.gl,λj c hj lg=>?_,?_,?_,by rw[en];exact h.n6,by rw[eg];exact h.g1,by rw[show S'.spans=S.spans from k.sp,el];exact h.sp,by rw[eg,el,ch];exact h.cb⟩
 . rw[eg]at hj
   obtain⟨c0,e0,m0⟩:=b8.back he lg (by rw[← el];exact aO lg)
   have l0:c0.length<2:=by
    have:=(MQ (h.iv.wat.hcl c0 (Xn e0))).length_le_of_subset λx hx=>(m0 x).mpr hx
    omega
   obtain⟨l,Te,h1,h2⟩:=h.s1 j c0 hj e0 l0
   refine⟨l,(m0 l).mpr Te,by rw[et];exact XF _ h1,λd hd=>?_⟩
   rw[ec]at hd
   rw[tk d hd]
   exact h2 d hd
 . obtain⟨h1,h2⟩:=h.sw x hx
   refine⟨by rw[et];exact XF _ h1,λd hd=>?_⟩
   rw[ec]at hd
   rw[tk d hd]
   exact h2 d hd
 . rw[eg]at hj
   obtain⟨c0,e0,m0⟩:=b8.back he lg (by rw[← el];exact aO lg)
   rw[ch]
   exact((h.ch j c0 hj e0).ext (b8.take he j)).congr λx=>m0 x
 . rw[show S'.left=S.left from k.left,el,eg];exact h.lf
 . rw[el,eg,en,ec,et,Xs]
   exact XS h.cn (pB _ (by omega))
theorem Rl.pg{S S':SS}{p:Nat}(k:Pg (S.bG p) S'):Rl S S':=⟨k.n,k.g,k.he⟩
def mu(S:SS):Nat:=(2 ^ S.n-val S.n S.cuts S.T.length)*(S.n+2)+(S.n+1-S.T.length)
theorem MR{a b:Nat}{n v v' t t':Nat}(h1:v+1<=2 ^ n)(h2:v'+1<=2 ^ n) (h:v<v'\/(v=v'/\t<t')) (ht:t<=n) (Af:t'<=n):(2 ^ n-v')*(n+2)+(n+1-t')<(2 ^ n-v)*(n+2)+(n+1-t):=by
 rcases h with h|⟨h,h3⟩
 . have e:2 ^ n-v=(2 ^ n-v')+(v'-v):=by omega
   have e2:(n+2)<=(v'-v)*(n+2):=Nat.le_mul_of_pos_left _ (by omega)
   rw[e,Nat.add_mul]
   omega
 . subst h
   omega
theorem rH{S S':SS}(hn:S'.n=S.n)(hl:S.T.length<=S.n)(gk:S'.T.length<=S'.n) (h:val S.n S.cuts S.T.length<val S'.n S'.cuts S'.T.length\/(val S.n S.cuts S.T.length=val S'.n S'.cuts S'.T.length/\S.T.length<S'.T.length)):mu S'<mu S:=by
 unfold mu
 rw[hn]at h gk ⊢
 exact MR (a:=0) (b:=0) (og hl) (og gk) h hl gk
theorem Al.BM{wants:List Int}{S:SS}(h:Al wants S)(hw:Wd S S.T.length)(hp:S.passed=S.T.length){v:Nat}{l:Int}(hv:l.natAbs=v)(oN:1<=v)(oM:v<=S.n)(fr:S.bits v=0){se:Nat}(ho:∃perm,fi S.n S.ah S.bh S.mk_ S.newest se (λv=>S.bits v=0) perm){S2:SS}
 (e:S2 = {S with seek:=se,cuts:=S.cuts++[S.T.length] }):Al wants (gh S2 l none)/\Wd (gh S2 l none) (gh S2 l none).passed/\val S.n S.cuts S.T.length=val (gh S2 l none).n (gh S2 l none).cuts (gh S2 l none).T.length/\(gh S2 l none).T.length=S.T.length+1:=by
 have l0:l≠0:=by omega
 have ln:l.natAbs<=S.n:=by omega
 have fv:l.natAbs∉S.T.map Int.natAbs:=by
  rw[hv]
  have:=gg.mp ((h.iv.bk.var oM).symm.trans fr)
  rw[show v=(v:Int).natAbs by omega,fX,ZG]
  exact this
 have b2:Bk S2:=by subst e;exact⟨h.iv.bk.lit,h.iv.bk.nd,h.iv.bk.bit,ho,h.iv.bk.sgn⟩
 have t2:fj S.n wants S.held (S.T++[l]) (S.cuts++[S.T.length]) (gh S2 l none).lev (gh S2 l none).pla (gh S2 l none).rea:=by subst e;exact h.iv.tok.BM l0 ln fv rfl rfl rfl
 have w2:cG S.n S.g S.held S2.wl S2.pl S2.singles:=by subst e;exact h.iv.wat
 have HL:val S.n S.cuts S.T.length=val S.n (S.cuts++[S.T.length]) (S.T.length+1):=by
  rw[val,XO (Xu _ (Xm.mpr rfl)),aap]
  refine qY _ λi hi=>?_
  rw[Xp,Xm]
  exact⟨.inl,λz=>z.elim id λz=>by omega⟩
 have tk:∀d∈S.cuts++[S.T.length],d<=S.T.length:=λd hd=>by
  rcases Xp.mp hd with hd|hd
  . exact X7 (h.iv.tok.cl d hd)
  . rw[Xm.mp hd];exact Xv _
 have up:∀{x:Int},x∈S.T->(∀d∈S.cuts,x∈S.T.take d)->∀d∈S.cuts++[S.T.length],x∈(S.T++[l]).take d:=λ{x} h1 h2 d hd=>by
  rw[iO (tk d hd)]
  rcases Xp.mp hd with hd|hd
  . exact h2 d hd
  . rw[Xm.mp hd,XU];exact h1
 have hb:=b2.put (l:=l) none (by subst e;exact ln) l0 (by subst e;exact fv)
 refine⟨?_,?_,?_,?_⟩
 . subst e
   refine⟨⟨hb,t2,w2⟩,?_,λc hc=>?_,λj c hj lg hl=>?_,λx hx=>?_,h.gl,h.ch,h.lf,?_,h.n6,h.g1,h.sp,h.cb⟩
   . show S.passed<=(S.T++[l]).length
     rw[Xs,hp]
     omega
   . show c<=S.passed
     rw[hp]
     exact tk c hc
   . obtain⟨x,hx,h1,h2⟩:=h.s1 j c hj lg hl
     exact⟨x,hx,XF _ h1,up h1 h2⟩
   . obtain⟨h1,h2⟩:=h.sw x hx
     exact⟨XF _ h1,up h1 h2⟩
   . show S.held.length-S.g<=val S.n (S.cuts++[S.T.length]) (S.T++[l]).length
     rw[Xs,XE,← HL]
     exact h.cn
 . subst e
   show iW S.g S.held (S.T++[l]) (S.cuts++[S.T.length]) S.passed (λ_=>False)
   rw[hp]
   intro j a b r hg he
   obtain⟨⟨h1,h2⟩,_⟩:=hw j a b r hg he
   exact⟨⟨h1.cut.put (Xv _) tk l,h2.cut.put (Xv _) tk l⟩,λz=>z.elim⟩
 . subst e
   show val S.n S.cuts S.T.length=val S.n (S.cuts++[S.T.length]) (S.T++[l]).length
   rw[Xs,XE]
   exact HL
 . subst e
   show (S.T++[l]).length=_
   rw[Xs,XE]
end L2
namespace Gen
open PySem L2 Sat
theorem gn{α β:Type}{F:α->β->Prop} : ∀{l₁:List α}{l₂:List β}{i:Nat}{b:β},Paired F l₁ l₂->l₂[i]?=some b->∃a,l₁[i]?=some a/\F a b
 | _,_,i,b,.nil,h=>by simp at h
 | _,_,0,b,.cons h t,e=>⟨_,rfl,by simpa using (show _=_ from Xq e) ▸ h⟩
 | _,_,i+1,b,.cons h t,e=>let ⟨a,h1,h2⟩:=gn t (i:=i) (b:=b) (by simpa using e); ⟨a,by simpa using h1,h2⟩
abbrev uV:Stmt:=inClass (top 7) 10
section
variable (C CO CP:Addr) (wants:List Int)
inductive B6(vs:List V) (H:Hp) (Q:VK):Prop
 | mk (ad:Sl->Addr) (S:SS) (h1:vs=[.ref (ad .self)]) (R:Rep C CO CP H ad S) (I:Iv wants S) (wd:Wd S S.passed) (hp:S.passed<=S.T.length) (hc:∀c∈S.cuts,c<=S.passed) (hm:S.held.length<=1000000) (hn:S.n<=1000)
  (k0:∀(H':Hp) (bp:Sl->Addr) (S':SS),bp .self=ad .self->Go C CO CP H ad S H' bp S'->Pg (S.bG S'.passed) S'->Iv wants S'->Wd S' S'.passed->S'.passed=S'.T.length->Q .bb H')
  (k1:∀(H':Hp) (bp:Sl->Addr) (S':SS) (p r:Nat),bp .self=ad .self->Go C CO CP H ad S H' bp S'->Pg (S.bG S'.passed) S'->Iv wants S'->Wd S' p->(∀c∈S'.cuts,c<=p)->S'.passed=p+1->tO S' p r->Q (iV r) H')
def xA:Sp:=λvs H Q _=>B6 C CO CP wants vs H Q
end
abbrev HM:List Str:=["self", "bits", "fallen", "other", "number", "clash"]
theorem kd:aG HM ["self"] (aB uV):=fs
theorem Pg.HN{S S':SS}{p q:Nat}(h:Pg (S.bG p) S') (e:S'.passed=q):Pg (S.bG S'.passed) S':=⟨h.n,h.g,h.cuts,h.left,h.ch,rfl,h.T,h.he,h.hl,h.sp⟩
theorem B7{n g:Nat}{held:List (List Int)}{wl:Nat->List Nat}{pl:Nat->List (Int×Nat)}{singles:List Nat}{T:List Int}{cuts:List Nat}{p:Nat}{aP:Int}(W:cG n g held wl pl singles) (h:iW g held T cuts p (λ_=>False)) (nd:(T.map Int.natAbs).Nodup) (oK:∀x∈T,-x∉T) (hp:T[p]?=some (-aP)) (hc:∀c∈cuts,c<=p) (hq:∀q∈pl (idx n aP),q.1∈T) :
 iW g held T cuts p (λj=>j∉wl (idx n aP)):=λj a b r hg he=>by
 obtain⟨⟨h1,h2⟩,_⟩:=h j a b r hg he
 refine⟨⟨h1,h2⟩,λd=>?_⟩
 by_cases ea:a=aP
 . subst ea
   by_cases hr:r=[]
   . subst hr
     have hb:=hq _ (W.pc j a b hg he).1
     exact⟨WP.here hp nd hb rfl hc,WP.never (oK b hb)⟩
   . exact absurd (W.wc j a b r hg he hr).1 d
 . by_cases eb:b=aP
   . subst eb
     by_cases hr:r=[]
     . subst hr
       have ha:=hq _ (W.pc j a b hg he).2
       exact⟨WP.never (oK a ha),WP.here hp nd ha rfl hc⟩
     . exact absurd (W.wc j a b r hg he hr).2 d
   . exact⟨WP.next h1 hp (by omega),WP.next h2 hp (by omega)⟩
section
variable {P:Program}{w:World}{K:W.Frag}{mg:Str->Option Value}{base:Heap}{C CO CP:Addr}{wants:List Int}
theorem E1{f fP fL:Addr}{fd dP dL:FuncData}(F:aM K "passed_on" "Search.passed_on" uV f fd)(T:dZ K mg C)(O:Own mg) (gP:aD P w K mg base aT 1 fP dP ["self", "literal", "reason"] (k7 C CO CP)) (mP:Meth K C "put" fP) (bP:Binds K dP ["self", "literal", "reason"] [])
 (gL:aD P w K mg base aT 2 fL dL ["self", "fallen"] (xx C CO CP wants)) (mL:Meth K C "looked_at" fL) (bL:Binds K dL ["self", "fallen"] []):aD P w K mg base aT 3 f fd ["self"] (xA C CO CP wants):=by
 refine F.run kd λa6 A outer s H vs Q E hr h=>?_
 obtain⟨ad,S,rfl,R,I,wd,hp,hc,hm,hn,k0,k1⟩:=h
 have iZ:bx 1 _:=hr.mono (by decide)
 refine⟨_,(ae (aQ 1 kd.nd (aw (pv 0) rfl))
  (ae (iL XX (aX (nX (aw (pv 0) rfl) (aJ a7 (by rfl) O.len X5 (aa (aw (pv 0) rfl) ak))))
   (ae (aQ 2 kd.nd (f7 eQ (aF (r:=aZ K) ay (aw (pv 0) rfl) (aw (pv 0) rfl) (λ_ _=>rfl))))
   (ae (mY (pv 0) au zo)
   (ae (cJ XX rfl (b7 (aF (r:=aZ K) ay (aw (pv 0) rfl) (pv 2) (λ_ _=>rfl))) (pU rfl (gq (aL (i:=3) kd.nd rfl (Or.inl rfl)) (gq (aL (i:=4) kd.nd rfl (Or.inl rfl)) nY)))
    (av (bR (aX (c7 (aF (r:=aZ K) ay (pv 1) (pv 3) (λ_ _=>rfl)) au))
     (av (aK (cQ (pv 0) T.cl mP gP iZ bP (aa (pv 3) (aa (pv 4) ak)))))
     (av (bR (aX (c7 (aF (r:=aZ K) ay (pv 1) (pv 3) (λ_ _=>rfl)) (f7 eQ au)))
      (av (aY (pv 4))) br)))))
   (ae (aQ 5 kd.nd (cQ (pv 0) T.cl mL gL hr bL (aa (pv 2) ak)))
   (av (bR (aX (wO (pv 5)))
    (av (aY (pv 5))) br)))))))
  (av (aY i8)))),?_⟩
 refine⟨_,rfl,ad .self,_,_,_,_,rfl,(Rep.s R),T.cl,T.bits,eZ,?_⟩
 refine⟨λm σ Hx=>∃(bc:Sl->Addr) (S1:SS) (v2 v3 v4 v5:Option V),m=S.n-S1.passed/\σ=[some (.ref (ad .self)),some (.ref (ad .bits)),v2,v3,v4,v5]/\bc .self=ad .self/\bc .bits=ad .bits/\Go C CO CP H ad S Hx bc S1/\Pg (S.bG S1.passed) S1/\Iv wants S1/\Wd S1 S1.passed/\S1.passed<=S1.T.length/\∀c∈S1.cuts,c<=S1.passed,
  ⟨_,ad,S,none,none,none,none,rfl,rfl,rfl,rfl,Go.refl R,Pg.refl S,I,wd,hp,hc⟩,?_⟩
 clear wd hp hc I
 rintro m σ Hx ⟨bc,S1,v2,v3,v4,v5,rfl,rfl,as,ab,g,pg,I,wd,hp,hc⟩
 have n1:S1.n=S.n:=pg.n
 refine⟨_,rfl,ad .self,_,_,_,_,rfl,(by rw[← as];exact Rep.s g.rep),T.cl,T.passed,nG,_,rfl,ad .self,_,_,_,_,rfl,(by rw[← as];exact Rep.s g.rep),T.cl,T.trail,d3,bc .trail,_,rfl,.inl (ax.of (g.rep.at_ (s:=.trail) rfl)),_,_,rfl,rfl,_,rfl,?_⟩
 rw[Xl]
 by_cases e:S1.passed=S1.T.length
 . refine cc (Xz (by omega)) ?_
   exact k0 _ bc S1 as g pg I wd e
 have hl:S1.passed<S1.T.length:=by omega
 obtain⟨x,hx⟩:∃x,S1.T[S1.passed]?=some x:=⟨_,Xo hl⟩
 obtain⟨aP,rfl⟩:∃aP,x = -aP:=⟨-x,by omega⟩
 have tl:=I.bk.len
 refine bX (Xw (by omega)) ⟨λσ Hx=>∃(bc:Sl->Addr) (S2:SS) (v2 v3 v4 v5:Option V),S2.passed=S1.passed+1/\σ=[some (.ref (ad .self)),some (.ref (ad .bits)),v2,v3,v4,v5]/\bc .self=ad .self/\bc .bits=ad .bits/\Go C CO CP H ad S Hx bc S2/\Pg (S.bG S2.passed) S2/\Iv wants S2/\Wd S2 S2.passed/\S2.passed<=S2.T.length/\∀c∈S2.cuts,c<=S2.passed,?_,?_⟩
 . rintro bq H' ⟨eW,S2,v2,v3,v4,v5,ep,rfl,q⟩
   exact⟨S.n-S2.passed,by omega,eW,S2,v2,v3,v4,v5,rfl,rfl,q⟩
 refine⟨_,rfl,ad .self,_,_,_,_,rfl,(by rw[← as];exact Rep.s g.rep),T.cl,T.trail,d3,_,rfl,ad .self,_,_,_,_,rfl,(by rw[← as];exact Rep.s g.rep),T.cl,T.passed,nG,bc .trail,_,_,.int (-aP),rfl,rfl,ax.of (g.rep.at_ (s:=.trail) rfl),bt (by rw[Xt,hx];rfl),-aP,rfl,?_⟩
 dsimp only[ee]
 rw[ZP]
 refine⟨_,rfl,ad .self,_,_,_,_,rfl,(by rw[← as];exact Rep.s g.rep),T.cl,T.passed,nG,_,_,rfl,rfl,_,_,(by rw[← as];exact Rep.s g.rep),(by show 19<1000;decide),?_⟩
 rw[show V.int ((S1.passed:Int)+1)=iV (S1.passed+1) from rfl,sN]
 have fn:aP≠0/\aP.natAbs<=S1.n:=by have:=I.bk.lit _ (Xn hx);omega
 have g1:=g.trans (g.rep.uL (S1.passed+1))
 have I1:Iv wants (S1.bG (S1.passed+1)):=⟨⟨I.bk.lit,I.bk.nd,I.bk.bit,I.bk.ord,I.bk.sgn⟩,I.tok,I.wat⟩
 have Ag:Pg (S.bG (S1.passed+1)) (S1.bG (S1.passed+1)):=⟨pg.n,pg.g,pg.cuts,pg.left,pg.ch,rfl,pg.T,pg.he,pg.hl,pg.sp⟩
 have NR:Wd (S1.bG (S1.passed+1)) S1.passed:=wd
 have NS:(S1.bG (S1.passed+1)).T[S1.passed]?=some (-aP):=hx
 have mq:∀c∈(S1.bG (S1.passed+1)).cuts,c<=S1.passed:=hc
 have n2:(S1.bG (S1.passed+1)).n=S1.n:=rfl
 have p2:(S1.bG (S1.passed+1)).passed=S1.passed+1:=rfl
 rw[as]at g1
 generalize S1.bG (S1.passed+1)=S2 at g1 I1 Ag NR NS mq n2 p2
 rw[← n2]at fn n1
 generalize upd Hx (ad .self) _=Hy at g1 ⊢
 generalize S1.passed=p at *
 clear g I wd hx hc pg n2 tl hl e
 have kl:idx S2.n aP<2*S2.n+1:=kZ fn.2
 have DK:=g1.rep.tp (idx S2.n aP)
 have gi:=DK.length
 refine⟨_,rfl,ad .self,_,_,_,_,rfl,(by rw[← as];exact Rep.s g1.rep),T.cl,T.pairs,kq,_,rfl,bc .pairs,_,_,.ref (bc (.pl (idx S2.n aP))),rfl,rfl,ax.of (g1.rep.at_ (s:=.pairs) rfl),fE fn.2,bc (.pl (idx S2.n aP)),rfl,⟨_,ax.of (g1.rep.xr kl)⟩,?_⟩
 refine dh (xs:=(S2.pa (idx S2.n aP)).map V.ref) (λi σ Hx=>∃(S3:SS) (v3 v4:Option V),σ=[some (.ref (ad .self)),some (.ref (ad .bits)),some (.int aP),v3,v4,v5]/\Go C CO CP H ad S Hx bc S3/\HT Hy Hx/\S3.pa=S2.pa/\S3.pl=S2.pl/\Pg S2 S3/\Iv wants S3/\Wd S3 p/\S3.T[p]?=some (-aP)/\∀q∈(S2.pl (idx S2.n aP)).take i,q.1∈S3.T)
  ⟨S2,v3,v4,rfl,g1,HT.refl _,rfl,rfl,Pg.refl _,I1,NR,NS,λq hq=>by rw[Yy]at hq;cases hq⟩ ?_ ?_ ?_
 . rintro i σ Hz hi ⟨S3,v3,v4,rfl,g3,_,Ah,xB,jh,_⟩
   have:=g3.rep.xr (k:=idx S2.n aP) (by rw[jh.n];exact kl)
   rw[Ah]at this
   exact ax.of this
 . rintro i xv σ Hz aU ⟨S3,v3,v4,rfl,g3,DL,Ah,xB,jh,I3,Ai,qu,Aj⟩
   obtain⟨t,NT,rfl⟩:∃t,(S2.pa (idx S2.n aP))[i]?=some t/\xv=.ref t:=by
    rw[Xt]at aU
    cases e:(S2.pa (idx S2.n aP))[i]? with
    | none=>rw[e]at aU;cases aU
    | some j=>rw[e]at aU;exact⟨j,rfl,(Xq aU).symm⟩
   obtain⟨⟨o,j⟩,HP⟩:∃q,(S2.pl (idx S2.n aP))[i]?=some q:=⟨_,Xo (by rw[← gi];exact aO NT)⟩
   obtain⟨t',Af,kr⟩:=gn DK HP
   rw[NT]at Af
   cases Af
   refine⟨t,_,rfl,jr.of (DL _ _ kr),rfl,_,_,rfl,_,_,rfl,rfl,?_⟩
   have Tf:(o,j)∈S3.pl (idx S3.n aP):=by rw[xB,jh.n];exact Xn HP
   obtain⟨y,ey,hcl⟩:=I3.wat.px _ _ Tf
   have uW:∃c,S3.held[j]?=some c/\(c=[y,o]\/c=[o,y]):=by rcases hcl with h|h <;> exact⟨_,h,by simp⟩
   obtain⟨c,oO,HQ⟩:=uW
   have cl:=I3.wat.hcl c (Xn oO)
   have ym:y∈c:=by rcases HQ with h|h <;> simp[h]
   have om:o∈c:=by rcases HQ with h|h <;> simp[h]
   have Tg:aP.natAbs<=S3.n:=by rw[jh.n];exact fn.2
   have yf:y=aP:=(dR Tg (cl.ok y ym).2 ey).symm
   subst yf
   have on:=cl.ok o om
   have mem:∀z∈c,z=y\/z=o:=λz hz=>by
    rcases HQ with h|h
    . rw[h,XI,Xm]at hz;exact hz
    . rw[h,XI,Xm]at hz;exact hz.symm
   have fT : -y∈S3.T:=Xn qu
   have bo:S3.bits (idx S3.n o)=bV S3.T o:=I3.bk.bit o on.2
   have take1:∀{S4:SS},(∀q∈(S2.pl (idx S2.n y)).take i,q.1∈S4.T)->o∈S4.T->∀q∈(S2.pl (idx S2.n y)).take (i+1),q.1∈S4.T:=λh1 h2 q hq=>by
    rw[Yg,HP]at hq
    rcases Xp.mp hq with hq|hq
    . exact h1 q hq
    . have:q=(o,j):=by simpa using hq
      rw[this];exact h2
   refine⟨_,rfl,_,rfl,ad .bits,_,_,.int (bV S3.T o),rfl,rfl,by rw[← ab];exact ax.of (g3.rep.at_ (s:=.bits) rfl),by rw[fE on.2,bo],_,_,rfl,rfl,_,rfl,?_⟩
   by_cases e0:bV S3.T o=0
   . refine bX (Xw e0) ?_
     refine⟨_,rfl,ad .self,_,_,rfl,by rw[← as];exact Rep.s g3.rep,by kernel_rfl,_,rfl,_,rfl,?_⟩
     rw[← as]
     refine⟨bc,S3,o,some j,rfl,g3.rep,on.2,XS I3.bk.len (by rw[jh.n,n1];exact hn),λH' g5=>?_⟩
     have fv:o.natAbs∉S3.T.map Int.natAbs:=by rw[fX,ZG];exact gg.mp e0
     have lt:=aO qu
     have Th:∀c∈S3.cuts,c<=S3.T.length:=λc hc=>X7 (I3.tok.cl c hc)
     refine⟨gh S3 o (some j),_,_,by rw[as];rfl,g3.trans g5,DL.trans (g5.tup g3.rep),Ah,xB,jh.trans ⟨rfl,rfl,rfl,rfl,rfl,rfl,⟨[o],rfl⟩,b8.refl _,rfl,rfl⟩,⟨I3.bk.put (some j) on.2 on.1 fv,I3.tok.put (r:=some j) on.1 on.2 fv ⟨c,oO,om,λz hz ne=>?_⟩ rfl rfl rfl,I3.wat⟩,iW.put Ai lt Th o,?_,take1 (λq hq=>XF _ (Aj q hq)) (Xu _ (Xm.mpr rfl))⟩
     . rw[XU]
       rcases mem z hz with e|e
       . rw[e];exact fT
       . exact absurd e ne
     . show (S3.T++[o])[p]?=_
       rw[X8 lt]
       exact qu
   . refine cc (Xz e0) ?_
     refine⟨_,rfl,_,rfl,ad .bits,_,_,.int (bV S3.T o),rfl,rfl,by rw[← ab];exact ax.of (g3.rep.at_ (s:=.bits) rfl),by rw[fE on.2,bo],_,rfl,_,_,rfl,rfl,_,rfl,?_⟩
     by_cases e1:bV S3.T o = -1
     . refine bX (Xw e1) ⟨_,rfl,?_⟩
       refine k1 _ bc S3 p j as g3 (Pg.HN (Ag.trans jh) rfl) I3 Ai (by rw[jh.cuts];exact mq) (by rw[jh.passed,p2]) ⟨c,oO,λz hz=>?_,y,ym,qu⟩
       rcases mem z hz with e|e
       . rw[e];exact fT
       . rw[e];exact nF e1
     . refine cc (Xz e1) ?_
       have b1:bV S3.T o=1:=((ou S3.T o).resolve_left e0).resolve_right e1
       exact⟨S3,_,_,rfl,g3,DL,Ah,xB,jh,I3,Ai,qu,take1 Aj (kn.mp b1)⟩
 . rintro σ Hz ⟨S3,v3,v4,rfl,g3,DL,Ah,xB,jh,I3,Ai,qu,Aj⟩
   rw[Xl,gi,XU]at Aj
   refine⟨_,rfl,ad .self,_,_,rfl,by rw[← as];exact Rep.s g3.rep,by kernel_rfl,_,rfl,?_⟩
   rw[← as]
   have oO:∀c∈S3.cuts,c<=p:=by rw[jh.cuts];exact mq
   have sR:S3.held.length<=1000000:=by rw[(Ag.trans jh).hl];exact hm
   refine⟨bc,S3,p,aP,rfl,g3.rep,I3.bk,I3.tok,I3.wat,B7 I3.wat Ai I3.bk.nd (λx hx=>I3.bk.oK hx) qu oO (by rw[xB,jh.n];exact Aj),qu,oO,sR,by rw[jh.n,n1];exact hn,λH' bp S4 a1 a2 g4 sS b4 t4 w4 HR=>?_,λH' bp S4 r a1 a2 g4 sS b4 t4 w4 HR Ti=>?_⟩
   . refine⟨_,rfl,_,rfl,eP ?_⟩
     have e4:S4.passed=p+1:=by rw[sS.passed,jh.passed,p2]
     obtain⟨more,et⟩:=sS.T
     refine⟨bp,S4,_,_,_,_,e4,rfl,a1,a2.trans ab,g3.trans g4,Pg.HN (Ag.trans (jh.trans sS)) rfl,⟨b4,t4,w4⟩,by rw[e4];exact HR,?_,λc hc=>?_⟩
     . have:=aO qu
       rw[e4,et,Xs]
       omega
     . rw[sS.cuts]at hc
       have:=oO c hc
       omega
   . refine⟨_,rfl,_,rfl,iE ⟨_,rfl,?_⟩⟩
     exact k1 _ bp S4 p r (a1.trans as) (g3.trans g4) (Pg.HN (Ag.trans (jh.trans sS)) rfl) ⟨b4,t4,w4⟩ HR (by rw[sS.cuts];exact oO) (by rw[sS.passed,jh.passed,p2]) Ti
end
end Gen
namespace L2
open PySem PySem.Spec PyProof.Rows Sat
structure No(wants:List Int) (S:SS) (r:Nat):Prop where
 cu:S.cuts=[]
 iv:Iv wants S
 gl:S.g<=S.held.length
 ch:∀(j:Nat) c,S.g<=j->S.held[j]?=some c->fh (S.held.take j) (S.ch j) (λx=>x∈c)
 cl:∃c,S.held[r]?=some c/\∀x∈c,-x∈S.T
 lh:S.held.length<=2000
 n6:S.n<=6
 cb:∀j,S.g<=j->j<S.held.length->(S.ch j).length<=200
theorem Al.no{wants:List Int}{S:SS}(h:Al wants S){r:Nat}(cu:S.cuts=[])(cl:∃c,S.held[r]?=some c/\∀x∈c,-x∈S.T):No wants S r:=⟨cu,h.iv,h.gl,h.ch,cl,h.small,h.n6,h.cb⟩
structure nI(S:SS):Prop where
 bk:Bk S
 wat:cG S.n S.g S.held S.wl S.pl S.singles
 gl:S.g=S.held.length
 lf:S.left=100
 n6:S.n<=6
 g1:S.g<=1000
 sp:S.spans.length<=S.held.length
structure Bg(wants:List Int) (S:SS):Prop where
 iv:Iv wants S
 cu:S.cuts=[]
 ps:S.passed=0
 gl:S.g=S.held.length
 lf:S.left=100
 n6:S.n<=6
 g1:S.g<=1000
 sp:S.spans.length<=S.held.length
theorem Bg.put{wants:List Int}{S:SS}(h:Bg wants S){l:Int}{r:Option Nat}(l0:l≠0)(ln:l.natAbs<=S.n)(fr:bV S.T l=0)(hr:He wants S.held S.T S.cuts S.T.length l r):Bg wants (gh S l r):=by
 have fv:l.natAbs∉S.T.map Int.natAbs:=by rw[fX,ZG];exact gg.mp fr
 exact⟨⟨h.iv.bk.put r ln l0 fv,h.iv.tok.put (r:=r) l0 ln fv hr rfl rfl rfl,h.iv.wat⟩,h.cu,h.ps,h.gl,h.lf,h.n6,h.g1,h.sp⟩
theorem Bg.no{wants:List Int}{S:SS}(h:Bg wants S){r:Nat}(cl:∃c,S.held[r]?=some c/\∀x∈c,-x∈S.T):No wants S r:=⟨h.cu,h.iv,Zb h.gl,λj c hj hc=>absurd (aO hc) (by have:=h.gl;omega),cl,by have:=h.gl;have:=h.g1;omega,h.n6,λj h1 h2=>absurd h2 (by have:=h.gl;omega)⟩
theorem Bg.al{wants:List Int}{S:SS}(h:Bg wants S)(hw:∀x∈wants,x∈S.T)(hs:∀j∈S.singles,∃c,S.held[j]?=some c/\∃l∈c,l∈S.T):Al wants S:=by
 have nc:∀d∈S.cuts,False:=λd hd=>by rw[h.cu]at hd;cases hd
 have g0:S.held.length-S.g=0:=by have:=h.gl;omega
 refine⟨h.iv,by rw[h.ps];exact Yi _,λc hc=>(nc c hc).elim,λj c hj hc hl=>?_,λx hx=>⟨hw x hx,λd hd=>(nc d hd).elim⟩,Zb h.gl,λj c hj hc=>absurd (aO hc) (by have:=h.gl;omega),by rw[h.lf,g0];rfl,by rw[g0];exact Yi _,h.n6,h.g1,h.sp,λj h1 h2=>absurd h2 (by have:=h.gl;omega)⟩
 obtain⟨c',e,l,gk,ht⟩:=hs j (h.iv.wat.sc j c hj hc hl)
 rw[hc]at e
 cases e
 exact⟨l,gk,ht,λd hd=>(nc d hd).elim⟩
theorem Bg.wd{wants:List Int}{S:SS}(h:Bg wants S):Wd S S.passed:=by
 rw[h.ps]
 exact λj a b r hg he=>⟨⟨λz=>(by rw[Yy]at z;cases z),λz=>(by rw[Yy]at z;cases z)⟩,λz=>z.elim⟩
theorem fj.nil{n:Nat}{wants:List Int}{held:List (List Int)}{lev pla:Nat->Int}{rea:Nat->Option Nat} : fj n wants held [] [] lev pla rea:=⟨λ_ h=>(by cases h),Yb,List.Pairwise.nil,λ_ h=>(by cases h),λi l h=>by simp at h⟩
structure uX(n:Nat) (wants:List Int):Prop where
 ok:∀l∈wants,l≠0/\l.natAbs<=n
 nd:(wants.map Int.natAbs).Nodup
theorem uX.oK{n:Nat}{wants:List Int}(h:uX n wants){x:Int}(hx:x∈wants) : -x∉wants:=λhy=>by
 obtain⟨i,hi⟩:=X2.mp hx
 obtain⟨j,hj⟩:=X2.mp hy
 have h0:=(h.ok x hx).1
 by_cases e:i=j
 . subst e
   rw[hi]at hj
   have:=Xq hj
   omega
 . exact(l8 (n:=n) ⟨h.ok,h.nd⟩ hi hj e).2 (by omega)
end L2
namespace Gen
open PySem L2 Sat
abbrev rJ:Stmt:=inClass (top 7) 9
abbrev rK:Stmt:=inClass (top 7) 7
section
variable (C CO CP:Addr) (wants:List Int)
inductive Ak(vs:List V) (H:Hp) (Q:VK):Prop
 | mk (ad:Sl->Addr) (S:SS) (h1:vs=[.ref (ad .self)]) (R:Rep C CO CP H ad S) (I:Al wants S) (wd:Wd S S.T.length) (hp:S.passed=S.T.length)
  (k0:∀(H':Hp) (S':SS),Go C CO CP H ad S H' ad S'->Rl S S'->Al wants S'->Wd S' S'.T.length->(∀v,1<=v->v<=S'.n->v∈S'.T.map Int.natAbs)->Q (.bl false) H')
  (k1:∀(H':Hp) (S':SS),Go C CO CP H ad S H' ad S'->Rl S S'->Al wants S'->Wd S' S'.passed->mu S'<mu S->Q (.bl true) H')
def uY:Sp:=λvs H Q _=>Ak C CO CP wants vs H Q
end
abbrev E2:List Str:=["self", "variable"]
theorem uZ:aG E2 ["self"] (aB rJ):=fs
section
variable {P:Program}{w:World}{K:W.Frag}{mg:Str->Option Value}{base:Heap}{C CO CP:Addr}{wants:List Int}
theorem B8{f fP fL:Addr}{fd dP dL:FuncData}(F:aM K "tried" "Search.tried" rJ f fd)(T:dZ K mg C)(TO:jD K mg CO)(O:Own mg) (gP:aD P w K mg base aT 1 fP dP ["self", "literal", "reason"] (k7 C CO CP)) (mP:Meth K C "put" fP) (bP:Binds K dP ["self", "literal", "reason"] [])
 (gL:aD P w K mg base aT 1 fL dL ["self", "bits"] (uP C CO CP)) (mL:Meth K CO "latest_free" fL) (bL:Binds K dL ["self", "bits"] []):aD P w K mg base aT 2 f fd ["self"] (uY C CO CP wants):=by
 refine F.run uZ λa6 A outer s H vs Q E hr h=>?_
 obtain⟨ad,S,rfl,R,I,wd,hp,k0,k1⟩:=h
 refine⟨_,(ae (aQ 1 uZ.nd (cQ (aw (pv 0) rfl) TO.cl mL gL hr bL (aa (aw (pv 0) rfl) ak)))
  (ae (bR (aX (c7 (pv 1) au))
   (av (aY fo)) br)
  (ae (aK (cV XD XG XH bz (aw (pv 0) rfl) (aa (aJ a7 (by rfl) O.len X5 (aa (aw (pv 0) rfl) ak)) ak)))
  (ae (aK (cQ (pv 0) T.cl mP gP hr bP (aa (aV ft (pv 1) (aF (r:=aZ K) ay (aw (pv 0) rfl) (pv 1) (λ_ _=>rfl))) (aa i8 ak))))
  (av (aY fo)))))),?_⟩
 obtain⟨perm,ho⟩:=I.iv.bk.ord
 have len:=I.iv.bk.len
 refine⟨_,rfl,ad .self,_,_,_,_,rfl,(Rep.s R),T.cl,T.order,l6,ad .order,_,_,rfl,Rep.o R,by kernel_rfl,_,rfl,ad .self,_,_,_,_,rfl,(Rep.s R),T.cl,T.bits,eZ,?_⟩
 refine⟨ad,S,perm,rfl,R,ho,λv H1 oP f0 f1 g1=>?_⟩
 refine⟨_,rfl,_,_,rfl,rfl,_,rfl,?_⟩
 by_cases e:v=0
 . refine bX (Xw (by omega)) ?_
   refine k0 _ _ g1 ⟨rfl,rfl,b8.refl _⟩ ⟨⟨⟨I.iv.bk.lit,I.iv.bk.nd,I.iv.bk.bit,⟨perm,oP⟩,I.iv.bk.sgn⟩,I.iv.tok,I.iv.wat⟩,I.ps,I.pc,I.s1,I.sw,I.gl,I.ch,I.lf,I.cn,I.n6,I.g1,I.sp,I.cb⟩ wd λu h1 h2=>?_
   have h2:u<=S.n:=h2
   have:=f0 e u h1 h2
   rw[I.iv.bk.var h2]at this
   show u∈S.T.map Int.natAbs
   rw[show u=(u:Int).natAbs by omega,fX]
   by_cases q1:(u:Int)∈S.T
   . exact .inl q1
   . by_cases q2 : -(u:Int)∈S.T
     . exact .inr q2
     . exact absurd (gg.mpr ⟨q1,q2⟩) this
 . refine cc (Xz (by omega)) ?_
   have oM:v<=S.n:=oP.sk
   have oN:1<=v:=by omega
   refine⟨_,rfl,ad .self,_,_,_,_,rfl,(Rep.s g1.rep),T.cl,T.cuts,iU,.inl ⟨rfl,_,ax.of (g1.rep.at_ (s:=.cuts) rfl)⟩,_,rfl,ad .self,_,_,_,_,rfl,(Rep.s g1.rep),T.cl,T.trail,d3,ad .trail,_,rfl,.inl (ax.of (g1.rep.at_ (s:=.trail) rfl)),ad .cuts,_,_,rfl,rfl,g1.rep.at_ (s:=.cuts) rfl,?_,?_⟩
   . rw[Xl]
     have h1:∀c∈S.cuts,c<S.T.length:=I.iv.tok.cl
     have:=k8 (l:=S.cuts) (m:=S.T.length) (Z2 XZ I.iv.tok.cs) h1
     have n6:=I.n6
     exact XT (show S.cuts.length<=6 by omega) (by decide)
   have g2:=g1.trans (g1.rep.Ho (S.cuts++[S.T.length]))
   have e2:((S.tN S.newest v).iz (S.cuts++[S.T.length])) = {S with seek:=v,cuts:=S.cuts++[S.T.length] }:=rfl
   rw[e2,Xx]at g2
   rw[Xl]
   generalize i3:({S with seek:=v,cuts:=S.cuts++[S.T.length] } : SS)=S2 at g2
   have Tj:S2.sg=S.sg:=by rw[← i3]
   have nE:S2.n=S.n:=by rw[← i3]
   have tE:S2.T=S.T:=by rw[← i3]
   have rE:Rl S S2:=by rw[← i3];exact⟨rfl,rfl,b8.refl _⟩
   have g2:Go C CO CP H ad S (upd H1 (ad .cuts) (.lst (S.cuts.map iV++[iV S.T.length]))) ad S2:=g2
   refine⟨_,rfl,ad .self,_,_,rfl,Rep.s g2.rep,by kernel_rfl,_,rfl,_,rfl,ad .self,_,_,_,_,rfl,Rep.s g2.rep,T.cl,T.signs,lZ,_,rfl,ad .signs,_,_,.int (S2.sg v),rfl,rfl,ax.of (g2.rep.at_ (s:=.signs) rfl),bY (by rw[nE];omega),_,_,rfl,rfl,?_,?_⟩
   . have:=I.n6
     exact .inl ⟨by omega,by omega⟩
   have sg:=I.iv.bk.sgn v oN oM
   rw[Tj]
   have la:((v:Int)*S.sg v).natAbs=v:=by rcases sg with q|q <;> rw[q] <;> omega
   obtain⟨A1,A2,A3,A4⟩:=I.BM wd hp (l:=(v:Int)*S.sg v) la oN oM (f1 e) ⟨perm,oP⟩ i3.symm
   refine⟨ad,S2,(v:Int)*S.sg v,none,rfl,g2.rep,by rw[la,nE];exact oM,(by rw[tE];have:=I.n6;omega),λH' g3=>?_⟩
   refine k1 _ _ (g2.trans g3) (rE.trans ⟨rfl,rfl,b8.refl _⟩) A1 A2 (rH nE len A1.iv.bk.len (.inr ⟨A3,by rw[A4];omega⟩))
end
section
variable (C CO CP:Addr) (wants:List Int)
inductive Am(K:W.Frag) (vs:List V) (H:Hp) (Q:VK):Prop
 | mk (ad:Sl->Addr) (S:SS) (a:Addr) (h1:vs=[.ref (ad .self),.ref a]) (R:Rep C CO CP H ad S) (N:nI S) (W:uX S.n wants) (ha:H a=some (.lst (wants.map V.int))) (oQ:¬ cB C CO CP ad S a)
  (k0:∀(H':Hp) (bp:Sl->Addr) (S':SS),bp .self=ad .self->Go C CO CP H ad S H' bp S'->Rl S S'->Al wants S'->Wd S' S'.passed->Q .bb H')
  (k1:∀(H':Hp) (bp:Sl->Addr) (S':SS) (r:Nat),bp .self=ad .self->Go C CO CP H ad S H' bp S'->Rl S S'->No wants S' r->Q (iV r) H')
def u0(K:W.Frag):Sp:=λvs H Q _=>Am C CO CP wants K vs H Q
end
abbrev E3:List Str:=["self", "wants", "want", "number", "clause"]
theorem l9:aG E3 ["self", "wants"] (aB rK):=fs
section
variable {P:Program}{w:World}{K:W.Frag}{mg:Str->Option Value}{base:Heap}{C CO CP:Addr}{wants:List Int}
theorem B9{f fP fA:Addr}{fd dP dA:FuncData}(F:aM K "begun" "Search.begun" rK f fd)(T:dZ K mg C)(O:Own mg) (gP:aD P w K mg base aT 1 fP dP ["self", "literal", "reason"] (k7 C CO CP)) (mP:Meth K C "put" fP) (bP:Binds K dP ["self", "literal", "reason"] [])
 (gA:aD P w K mg base aT 3 fA dA ["self"] (Aa C CO CP)) (mA:Meth K C "take_back_all" fA) (bA:Binds K dA ["self"] []):aD P w K mg base aT 4 f fd ["self", "wants"] (u0 C CO CP wants K):=by
 refine F.run l9 λa6 A outer s H vs Q E hr h=>?_
 obtain⟨ad,S,a,rfl,R,N,W,ha,oQ,k0,k1⟩:=h
 have iZ:bx 1 _:=hr.mono (by decide)
 refine⟨_,(ae (aK (jA (pv 0) T.cl mA gA hr bA .nil jf))
  (ae (cJ XX rfl (b7 (pv 1)) (aL (i:=2) l9.nd rfl (Or.inl rfl))
   (av (bR (aX (c7 (aF (r:=aZ K) ay (aw (pv 0) rfl) (pv 2) (λ_ _=>rfl)) au))
    (av (aK (cQ (pv 0) T.cl mP gP iZ bP (aa (pv 2) (aa i8 ak))))) br)))
  (ae (cJ XX rfl (b7 (aw (pv 0) rfl)) (aL (i:=3) l9.nd rfl (Or.inl rfl))
   (ae (aQ 4 l9.nd (aF (r:=aZ K) ay (aw (pv 0) rfl) (pv 3) (λ_ _=>rfl)))
   (ae (bR (PW.pt (Df (aX (c7 (aJ a7 (by rfl) O.len X5 (aa (pv 4) ak)) au)) (za (aX (c7 (aF (r:=aZ K) ay (aw (pv 0) rfl) (aF (r:=aZ K) ay (pv 4) au (λ_ _=>rfl)) (λ_ _=>rfl)) (f7 eQ au))))))
    (av (aY (pv 3))) br)
   (av (bR (aX (c7 (aF (r:=aZ K) ay (aw (pv 0) rfl) (aF (r:=aZ K) ay (pv 4) au (λ_ _=>rfl)) (λ_ _=>rfl)) au))
    (av (aK (cQ (pv 0) T.cl mP gP iZ bP (aa (aF (r:=aZ K) ay (pv 4) au (λ_ _=>rfl)) (aa (pv 3) ak))))) br)))))
  (av (aY i8))))),?_⟩
 refine⟨_,rfl,ad .self,_,_,rfl,Rep.s R,by kernel_rfl,?_⟩
 refine⟨ad,S,rfl,R,N.bk,λH1 p b sg se hB g=>?_⟩
 obtain⟨bc,qt⟩:∃bc,bc=fU ad .cuts p:=⟨_,rfl⟩
 have as:bc .self=ad .self:=by rw[qt];rfl
 have ab:bc .bits=ad .bits:=by rw[qt];rfl
 rw[← qt]at g
 have e0:((gY S b sg se 0).bG 0).iz [] = {S with bits:=b,sg:=sg,seek:=se,T:=[],passed:=0,cuts:=[] }:=by unfold gY;rw[Yy];rfl
 have B0:Bg wants (((gY S b sg se 0).bG 0).iz []):=by
  rw[e0]at hB ⊢
  exact⟨⟨hB,fj.nil,N.wat⟩,rfl,rfl,N.gl,N.lf,N.n6,N.g1,N.sp⟩
 have T0:(((gY S b sg se 0).bG 0).iz []).T=[]:=by rw[e0]
 have r0:Rl S (((gY S b sg se 0).bG 0).iz []):=⟨rfl,rfl,b8.refl _⟩
 generalize ((gY S b sg se 0).bG 0).iz []=S1 at g B0 T0 r0
 clear e0 hB
 have lb:∀{Hx:Hp}{bp:Sl->Addr}{S':SS},Go C CO CP H ad S Hx bp S'->Hx a=some (.lst (wants.map V.int)):=λg=>g.kp.st a _ ha oQ
 refine⟨_,rfl,a,rfl,⟨_,ax.of (lb g)⟩,?_⟩
 refine dh (xs:=wants.map V.int) (λi σ Hx=>∃(S2:SS) (v2:Option V),σ=[some (.ref (ad .self)),some (.ref a),v2,none,none]/\Go C CO CP H ad S Hx bc S2/\Rl S S2/\Bg wants S2/\(∀x∈S2.T,x∈wants)/\∀x∈wants.take i,x∈S2.T)
  ⟨S1,none,rfl,g,r0,B0,λx hx=>(by rw[T0]at hx;cases hx),λx hx=>(by rw[Yy]at hx;cases hx)⟩ ?_ ?_ ?_
 . rintro i σ Hx hi ⟨S2,v2,rfl,g2,_⟩
   exact ax.of (lb g2)
 . rintro i xv σ Hx aU ⟨S2,v2,rfl,g2,r2,B2,tw,hw⟩
   obtain⟨l,hl,rfl⟩:∃l,wants[i]?=some l/\xv=.int l:=by
    rw[Xt]at aU
    cases e:wants[i]? with
    | none=>rw[e]at aU;cases aU
    | some j=>rw[e]at aU;exact⟨j,rfl,(Xq aU).symm⟩
   have lm:=Xn hl
   have lo:=W.ok l lm
   have ln:l.natAbs<=S2.n:=by rw[r2.n];exact lo.2
   have tk:∀{T':List Int},(∀x∈wants.take i,x∈T')->l∈T'->∀x∈wants.take (i+1),x∈T':=λh1 h2 x hx=>by
    rw[Yg,hl]at hx
    rcases Xp.mp hx with hx|hx
    . exact h1 x hx
    . have:x=l:=by simpa using hx
      rw[this];exact h2
   refine⟨_,rfl,ad .self,_,_,_,_,rfl,(by rw[← as];exact Rep.s g2.rep),T.cl,T.bits,eZ,_,rfl,bc .bits,_,_,.int (bV S2.T l),rfl,rfl,ax.of (g2.rep.at_ (s:=.bits) rfl),by rw[fE ln,B2.iv.bk.bit l ln],_,_,rfl,rfl,_,rfl,?_⟩
   by_cases e0:bV S2.T l=0
   . refine bX (Xw e0) ?_
     refine⟨_,rfl,ad .self,_,_,rfl,by rw[← as];exact Rep.s g2.rep,by kernel_rfl,_,rfl,?_⟩
     rw[← as]
     refine⟨bc,S2,l,none,rfl,g2.rep,ln,XS B2.iv.bk.len (by have:=B2.n6;omega),λH' g3=>?_⟩
     refine⟨gh S2 l none,_,by rw[as];rfl,g2.trans g3,r2.trans ⟨rfl,rfl,b8.refl _⟩,B2.put lo.1 ln e0 (.inr ⟨by rw[B2.cu];rfl,lm⟩),λx hx=>?_,tk (λx hx=>XF _ (hw x hx)) (Xu _ (Xm.mpr rfl))⟩
     rcases Xp.mp hx with hx|hx
     . exact tw x hx
     . rw[Xm.mp hx];exact lm
   . refine cc (Xz e0) ?_
     have e1:bV S2.T l=1:=by
      rcases ou S2.T l with q|q|q
      . exact absurd q e0
      . exact q
      . exact absurd (tw _ (nF q)) (W.oK lm)
     exact⟨S2,_,rfl,g2,r2,B2,tw,tk hw (kn.mp e1)⟩
 rintro σ Hx ⟨S2,v2,rfl,g2,r2,B2,_,hw⟩
 rw[Xl,XU]at hw
 refine⟨_,rfl,ad .self,_,_,_,_,rfl,(by rw[← as];exact Rep.s g2.rep),T.cl,T.singles,qr,bc .singles,rfl,⟨_,ax.of (g2.rep.at_ (s:=.singles) rfl)⟩,?_⟩
 refine dh (xs:=S2.singles.map iV) (λi σ Hx=>∃(S3:SS) (v3 v4:Option V),σ=[some (.ref (ad .self)),some (.ref a),v2,v3,v4]/\Go C CO CP H ad S Hx bc S3/\Rl S S3/\Bg wants S3/\S3.singles=S2.singles/\S3.held=S2.held/\(∀x∈wants,x∈S3.T)/\∀j∈S2.singles.take i,∃c,S2.held[j]?=some c/\∃l∈c,l∈S3.T)
  ⟨S2,none,none,rfl,g2,r2,B2,rfl,rfl,hw,λx hx=>(by rw[Yy]at hx;cases hx)⟩ ?_ ?_ ?_
 . rintro i σ Hx hi ⟨S3,v3,v4,rfl,g3,_,_,es,_⟩
   have:=g3.rep.at_ (s:=.singles) rfl
   rw[es]at this
   exact ax.of this
 . rintro i xv σ Hx aU ⟨S3,v3,v4,rfl,g3,r3,B3,es,eh,DM,nJ⟩
   obtain⟨j,hj,rfl⟩:∃j,S2.singles[i]?=some j/\xv=iV j:=by
    rw[Xt]at aU
    cases e:S2.singles[i]? with
    | none=>rw[e]at aU;cases aU
    | some j=>rw[e]at aU;exact⟨j,rfl,(Xq aU).symm⟩
   obtain⟨c,hc,hl⟩:=B3.iv.wat.sx j (by rw[es];exact Xn hj)
   have An:S2.held[j]?=some c:=by rw[← eh];exact hc
   have tk:∀{T':List Int},(∀j∈S2.singles.take i,∃c,S2.held[j]?=some c/\∃l∈c,l∈T')->(∃l∈c,l∈T')->∀j∈S2.singles.take (i+1),∃c,S2.held[j]?=some c/\∃l∈c,l∈T':=λh1 h2 x hx=>by
    rw[Yg,hj]at hx
    rcases Xp.mp hx with hx|hx
    . exact h1 x hx
    . have:x=j:=by simpa using hx
      rw[this];exact⟨c,An,h2⟩
   refine⟨_,rfl,ad .self,_,_,_,_,rfl,(by rw[← as];exact Rep.s g3.rep),T.cl,T.held,eX,_,rfl,bc .held,_,_,.ref (bc (.cl j)),rfl,rfl,ax.of (g3.rep.at_ (s:=.held) rfl),bY (aO hc),?_⟩
   refine⟨_,rfl,bc (.cl j),_,rfl,.inl (ax.of (g3.rep.eI hc)),_,_,rfl,rfl,_,rfl,?_⟩
   rw[Xl]
   cases c with
   | nil=>
    refine iE (iE ⟨_,rfl,?_⟩)
    exact k1 _ bc S3 j as g3 r3 (B3.no ⟨[],hc,λx hx=>(by cases hx)⟩)
   | cons l c'=>
    have c0:c'=[]:=by
     cases c' with
     | nil=>rfl
     | cons _ _=>simp only[X0]at hl;omega
    subst c0
    have lo:=(B3.iv.wat.hcl _ (Xn hc)).ok l XB
    refine eP ⟨_,rfl,ad .self,_,_,_,_,rfl,(by rw[← as];exact Rep.s g3.rep),T.cl,T.bits,eZ,_,rfl,bc (.cl j),_,_,.int l,rfl,rfl,ax.of (g3.rep.eI hc),bt (j:=0) rfl,bc .bits,_,_,.int (bV S3.T l),rfl,rfl,ax.of (g3.rep.at_ (s:=.bits) rfl),by rw[fE lo.2,B3.iv.bk.bit l lo.2],_,rfl,_,_,rfl,rfl,_,rfl,?_⟩
    by_cases em:bV S3.T l = -1
    . refine bX (Xw em) ⟨_,rfl,?_⟩
      exact k1 _ bc S3 j as g3 r3 (B3.no ⟨[l],hc,λx hx=>by rw[Xm.mp hx];exact nF em⟩)
    . refine cc (Xz em) ?_
      refine⟨_,rfl,ad .self,_,_,_,_,rfl,(by rw[← as];exact Rep.s g3.rep),T.cl,T.bits,eZ,_,rfl,bc (.cl j),_,_,.int l,rfl,rfl,ax.of (g3.rep.eI hc),bt (j:=0) rfl,bc .bits,_,_,.int (bV S3.T l),rfl,rfl,ax.of (g3.rep.at_ (s:=.bits) rfl),by rw[fE lo.2,B3.iv.bk.bit l lo.2],_,_,rfl,rfl,_,rfl,?_⟩
      by_cases e0:bV S3.T l=0
      . refine bX (Xw e0) ?_
        refine⟨_,rfl,ad .self,_,_,rfl,by rw[← as];exact Rep.s g3.rep,by kernel_rfl,_,rfl,bc (.cl j),_,_,.int l,rfl,rfl,ax.of (g3.rep.eI hc),bt (j:=0) rfl,_,rfl,?_⟩
        rw[← as]
        refine⟨bc,S3,l,some j,rfl,g3.rep,lo.2,XS B3.iv.bk.len (by have:=B3.n6;omega),λH' g4=>?_⟩
        refine⟨gh S3 l (some j),_,_,by rw[as];rfl,g3.trans g4,r3.trans ⟨rfl,rfl,b8.refl _⟩,B3.put lo.1 lo.2 e0 ⟨[l],hc,Xm.mpr rfl,λx hx ne=>absurd (Xm.mp hx) ne⟩,es,eh,λx hx=>XF _ (DM x hx),tk (λj hj=>?_) ⟨l,Xm.mpr rfl,Xu _ (Xm.mpr rfl)⟩⟩
        obtain⟨c,h1,l',h2,h3⟩:=nJ j hj
        exact⟨c,h1,l',h2,XF _ h3⟩
      . refine cc (Xz e0) ?_
        have e1:bV S3.T l=1:=((ou S3.T l).resolve_left e0).resolve_right em
        exact⟨S3,_,_,rfl,g3,r3,B3,es,eh,DM,tk nJ ⟨l,Xm.mpr rfl,kn.mp e1⟩⟩
 rintro σ Hx ⟨S3,v3,v4,rfl,g3,r3,B3,es,eh,DM,nJ⟩
 rw[Xl,XU]at nJ
 exact k0 _ bc S3 as g3 r3 (B3.al DM (by rw[es,eh];exact nJ)) B3.wd
end
end Gen
namespace PySem
open Sem (wp)
theorem ma:typeLookup (.type "list") "__getattr__" = pure none:=by rw[typeLookup_type,builtinLookup_eq_fast];kernel_rfl
theorem oB:typeLookup (.type "list") "keys" = pure none:=by rw[typeLookup_type,builtinLookup_eq_fast];kernel_rfl
theorem md{A:Around}{prog:Program}{w:World}{Q:Fin->Shared->Prop}{E:Value->Shared->Prop}{h:Heap}{g d t os} {a:Addr}{items:Array Value}{n:Nat}(u:Tok) (hx:h.get? a=some {cls:=.type "list",data:=.seq items n}) (hh:A.handled=none)
 (hE:∀h' tk e,Heap.NewAttrErr h h' e (.ref a) "keys" -> E (.ref e) ⟨h',g,d,tk,os⟩) :
 wpAny (model prog w) A (Builtin.«object.__getattribute__» ⟨[.ref a,.str "keys" u],[]⟩) Q E ⟨h,g,d,t,os⟩:=by
 have hT:∀t',(⟨h,g,d,t',os⟩:Shared).TypeIs (.ref a) "list":=λt'=>⟨_,hx,rfl⟩
 have W2:=hT t
 have WK:=oB
 have hc:[Str.ofString "__module__",Str.ofString "__name__",Str.ofString "__qualname__",Str.ofString "__doc__",Str.ofString "__annotations__"].contains (Str.ofString "keys")=false:=by decide+kernel
 unfold Builtin.«object.__getattribute__»
 repeat (any_goals (first|assumption|wp_step|refine wpAny_ite_false hc ?_))
 all_goals first
  | exact wpAny_raiseAttrError hh hE (attrMsg_fits (by decide+kernel) (by decide))
  | skip
theorem u5{A:Around}{prog:Program}{w:World}{R:Result->Shared->Prop}{h:Heap}{g d t os} {a:Addr}{items:Array Value}{n:Nat}{u:Tok}(hx:h.get? a=some {cls:=.type "list",data:=.seq items n}) (hh:A.handled=none)
 (hE:∀h' tk e,Heap.NewAttrErr h h' e (.ref a) "keys" -> R (.error (.ref e)) ⟨h',g,d,tk,os⟩) :
 codeAny (model prog w) A (.call (.builtin "list.__getattribute__") ⟨[.ref a,.str "keys" u],[]⟩) R ⟨h,g,d,t,os⟩:=
 codeAny_call_builtin Y4.plain F.entry_list_ga (Y4.check _ _ _ _ _ _ _ _ (show (⟨h,g,d,t,os⟩:Shared).TypeIs (.ref a) "list" from⟨_,hx,rfl⟩) (F.args_list_getattribute_2 _ _) (md u hx hh hE))
theorem u9{A:Around}{prog:Program}{w:World}{E:Value->Shared->Prop}{h:Heap}{g d t os} {a:Addr}{items:Array Value}{n:Nat}{Q:Option Value->Shared->Prop}(hx:h.get? a=some {cls:=.type "list",data:=.seq items n}) (hh:A.handled=none)
 (hQ:∀h' tk,(∀b o,h.get? b=some o->h'.get? b=some o)->Q none ⟨h',g,d,tk,os⟩):wpAny (model prog w) A (getAttr? (.ref a) "keys") Q E ⟨h,g,d,t,os⟩:=by
 have hT:(⟨h,g,d,t,os⟩:Shared).TypeIs (.ref a) "list":=⟨_,hx,rfl⟩
 have f1:=sub_AttributeError
 have f2:=Y4.lookup
 have f3:=Y4.bind (.ref a)
 have f5:=ma
 unfold getAttr? getAttrBy? getAttrBy
 repeat (any_goals (first|assumption|((with_reducible show codeAny _ _ (Code.call (Value.builtin "list.__getattribute__") _) _ _);refine u5 hx hh ?_;intro h' Ao e DC;obtain⟨t1,u1,he⟩:=DC.there)|wp_step))
 exact hQ h' Ao DC.keeps
namespace F
theorem ji:entryFor table "dict.update.loop" = some Builtin.«dict.update.loop»:=entryFor_of_tree (by kernel_rfl)
theorem eV:plainId "dict.update.loop" = true:=by decide+kernel
end F
section
variable {prog:Program}{w:World}{K:Type}[DecidableEq K] {knd:KeyKind prog w K}{A:Around}{R:Result->Shared->Prop}
def va(knd:KeyKind prog w K)(h:Heap)(u:Value)(kv:K×Value):Prop:=∃t key,u=.ref t/\h.IsTuple t #[key,kv.2]/\knd.is kv.1 key=true
theorem rL{d it l:Addr}{items:Array Value}{kvs:List (K×Value)}(HS:d≠it) (xC:d≠l) (Ad:l≠it) (hz:kvs.length<=sizeLine) (hh:A.handled=none) :
 ∀(k i:Nat) (s:Shared) (tk:Tok) (acc:List (K×Value)),items.size-i=k->i<=items.size->kvs.length=items.size->s.heap.IsListIter it l i->s.heap.IsList l items->s.heap.DictOf knd d acc->acc.length<=i->
 (∀(j:Nat) (u:Value) (kv:K×Value),items[j]?=some u->kvs[j]?=some kv->va knd s.heap u kv/\(∀t,u=.ref t->t≠d/\t≠it))->
 (∀h' tk,h'.DictOf knd d ((kvs.drop i).foldl (λa kv=>stored a kv.1 kv.2) acc)->(∀b o,b≠d->b≠it->s.heap.get? b=some o->h'.get? b=some o)->R (.ok (.ret .none)) {s with heap:=h',toks:=tk})->
 codeAny (model prog w) A (.builtin "dict.update.loop" ⟨[.ref d,.ref it,.int (i:Int) tk,.none],[]⟩) R s:=by
 intro k
 induction k with
 | zero=>
  intro i s tk acc hk hi hlen hit hl hd QC hp hR
  have jT:i=items.size:=by omega
  refine codeAny_builtin F.ji ?_
  rw[Around.under_plainId F.eV _]
  show wpAny _ A.in1 (pyNext (.ref it) >>= _) _ _ s
  refine Xy (wpAny_pyNext_list_end (A:=A.in1) hh hit hl (Array.getElem?_eq_none (by omega)) λh' he=>?_)
  refine Xy (X1 (X1 ?_))
  have hd':h'.DictOf knd d acc:=let ⟨o,es,ep,ho,r⟩:=hd; ⟨o,es,ep,he d o HS ho,r⟩
  refine hR h' s.toks ?_ λb o _ hb e=>he b o hb e
  rw[List.drop_of_length_le (by omega)]
  exact hd'
 | succ k ih=>
  intro i s tk acc hk hi hlen hit hl hd QC hp hR
  have eF:i<items.size:=by omega
  have hx:items[i]?=some items[i]:=Array.getElem?_eq_getElem eF
  have dG:kvs[i]?=some kvs[i]:=Xo (by omega)
  obtain⟨⟨t,key,ht,QD,yo⟩,iF⟩:=hp i _ _ hx dG
  obtain⟨W3,Tn⟩:=iF t ht
  refine codeAny_builtin F.ji ?_
  rw[Around.under_plainId F.eV _]
  show wpAny _ A.in1 (pyNext (.ref it) >>= _) _ _ s
  refine Xy (wpAny_pyNext_list_item hit hl hx λh1 QE mr=>?_)
  rw[ht]
  have MS:h1.IsTuple t #[key,(kvs[i]).2]:=let ⟨o,e,r⟩:=QD; ⟨o,(mr.2 t Tn).trans e,r⟩
  refine Xy (YV (Xy ?_))
  refine wpAny_tryCatch ?_
  unfold Builtin.Dict.pairItems
  obtain⟨ot,e1,mq,n1,To⟩:=id MS
  refine Xy (aam (show ({s with heap:=h1} : Shared).TypeIs (.ref t) "tuple" from⟨ot,e1,mq⟩) ?_)
  rw[XO (by decide)]
  refine Xy (aaB e1 To (X1 ?_))
  show wpAny _ A.in1 (holding [key,(kvs[i]).2] (dictSet d key (kvs[i]).2)) _ _ _
  refine YV ?_
  unfold dictSet
  try with_reducible refine YV ?_
  have jU:h1.DictOf knd d acc:=let ⟨o,es,ep,ho,r⟩:=hd; ⟨o,es,ep,(mr.2 d HS).trans ho,r⟩
  refine Xy (knd.pyHash yo ?_)
  refine wpAny_dictSetHashed_pairs yo jU (λh2 hd2 kC=>?_) (by omega)
  refine X1 ⟨plainId_quiet F.eV _,?_⟩
  have er:rawInt ((i:Int)+1)=Value.int (((i+1:Nat):Nat):Int) 0:=by simp[rawInt]
  rw[er]
  have keep:∀b o,b≠d->b≠it->s.heap.get? b=some o->h2.get? b=some o:=λb o b1 b2 e=>(kC.2 b b1).trans ((mr.2 b b2).trans e)
  refine ih (i+1) _ 0 (stored acc (kvs[i]).1 (kvs[i]).2) (by omega) (by omega) hlen ?_ ?_ hd2 ?_ ?_ ?_
  . obtain⟨o,e,r⟩:=QE
    exact⟨o,(kC.2 it (YF HS)).trans e,r⟩
  . obtain⟨o,e,r⟩:=hl
    exact⟨o,keep l o (YF xC) Ad e,r⟩
  . have:=stored_length_le acc (kvs[i]).1 (kvs[i]).2
    omega
  . intro j u kv hu QF
    obtain⟨⟨t',QG,e',Af,kX⟩,HU⟩:=hp j u kv hu QF
    obtain⟨a1,a2⟩:=HU t' e'
    obtain⟨o,e,r⟩:=Af
    exact⟨⟨t',QG,e',⟨o,keep t' o a1 a2 e,r⟩,kX⟩,HU⟩
  . intro h' Ao hd' kX
    refine hR h' Ao ?_ λb o b1 b2 e=>kX b o b1 b2 (keep b o b1 b2 e)
    rw[Zj (by omega),List.foldl_cons]
    exact hd'
end
section
variable {prog:Program}{w:World}{K:Type}[DecidableEq K] {knd:KeyKind prog w K}{A:Around}{E:Value->Shared->Prop}{s:Shared}
theorem vb{l:Addr}{items:Array Value}{n:Nat}{kvs:List (K×Value)}{Q:Value->Shared->Prop}(hh:A.handled=none) (hl:s.heap.get? l=some {cls:=.type "list",data:=.seq items n}) (hlen:kvs.length=items.size) (hz:kvs.length<=sizeLine)
 (hp:∀(j:Nat) (u:Value) (kv:K×Value),items[j]?=some u->kvs[j]?=some kv->va knd s.heap u kv)
 (h:∀h' tk,h'.DictOf knd s.heap.objs.size (merged [] kvs)->(∀b o,s.heap.get? b=some o->h'.get? b=some o)->Q (.ref s.heap.objs.size) {s with heap:=h',toks:=tk}) :
 wpAny (model prog w) A (call (.type "dict") [.ref l]) Q E s:=by
 refine callType_codes (Q₁:=λobj dQ=>obj=.ref s.heap.objs.size/\dQ = {s with heap:=s.heap.push {cls:=.type "dict",data:=.dict #[] } }) F.kt_called_dict (F.kt_typeCall_dict_1 _) F.entry_dict_init (kt_code_dict_new _ ⟨rfl,rfl⟩) ?_
 rintro obj dQ ⟨rfl,rfl⟩
 have qV:(s.heap.push {cls:=.type "dict",data:=.dict #[] }).DictOf knd s.heap.objs.size []:=Heap.DictOf.new s.heap
 have gk:(s.heap.push {cls:=.type "dict",data:=.dict #[] }).get? l=some {cls:=.type "list",data:=.seq items n}:=XC _ hl
 refine⟨qV.typeIs,F.args_dict_init_2 _ _,?_⟩
 unfold Builtin.«dict.__init__»
 refine Xy ?_
 unfold Builtin.Dict.selfAndRest
 refine Xy (wpAny_notOrdered_dict qV.typeIs ?_)
 show wpAny _ _ (pure (s.heap.objs.size,[Value.ref l])) _ _ _
 refine X1 ?_
 show wpAny _ _ (Builtin.Dict.updateFrom "dict.__init__" s.heap.objs.size (.ref l) [] .none) _ _ _
 unfold Builtin.Dict.updateFrom
 refine Xy (aam (show ({s with heap:=s.heap.push {cls:=.type "dict",data:=.dict #[] } } : Shared).TypeIs (.ref l) "list" from⟨_,gk,rfl⟩) ?_)
 rw[XO (by decide)]
 generalize mr:({s with heap:=s.heap.push {cls:=.type "dict",data:=.dict #[] } } : Shared)=s1 at *
 obtain⟨g1,g2,g3,g4,g5⟩:=s1
 cases mr
 refine Xy (u9 gk (by first|exact hh|rfl) λh2 Tp k2=>?_)
 rw[XO (show (none:Option Value).isNone=true from rfl)]
 have gX:h2.get? l=some {cls:=.type "list",data:=.seq items n}:=k2 _ _ gk
 have lt2:∀b o,(s.heap.push {cls:=.type "dict",data:=.dict #[] }).get? b=some o->b<h2.objs.size:=λb o e=>XR (k2 b o e)
 refine Xy (aaT (Xy (ZU (s:={heap:=h2,gens:=s.gens,drawn:=s.drawn,toks:=Tp,os:=s.os}) (items:=items) ⟨_,gX,rfl,n,rfl⟩ ?_)))
 refine X1 ⟨plainId_quiet F.eV _,?_⟩
 have hd2:h2.DictOf knd s.heap.objs.size []:=let ⟨o,es,ep,ho,r⟩:=qV; ⟨o,es,ep,k2 _ _ ho,r⟩
 have xC:s.heap.objs.size<h2.objs.size:=let ⟨o,es,ep,ho,r⟩:=qV;lt2 _ _ ho
 have xD:l<s.heap.objs.size:=XR hl
 refine rL (knd:=knd) (d:=s.heap.objs.size) (it:=h2.objs.size) (l:=l) (items:=items) (kvs:=kvs) (XZ xC) (ZA xD) (XZ (aaj xD xC)) hz (by first|exact hh|rfl) items.size 0 _ 0 [] rfl (Yi _) hlen
  ⟨_,Yd _ rfl,rfl,rfl⟩ ⟨_,XC _ gX,rfl,n,rfl⟩ ?_ (Xv _) ?_ ?_
 . obtain⟨o,es,ep,ho,r⟩:=hd2
   exact⟨o,es,ep,XC _ ho,r⟩
 . intro j u kv hu dG
   obtain⟨t,key,e,⟨o,eo,r⟩,hk⟩:=hp j u kv hu dG
   have ht:t<s.heap.objs.size:=XR eo
   refine⟨⟨t,key,e,⟨o,XC _ (k2 _ _ (XC _ eo)),r⟩,hk⟩,λt' e'=>?_⟩
   rw[e]at e'
   cases e'
   exact⟨XZ ht,XZ (aaj ht xC)⟩
 . intro h' Ao hd' kX
   refine⟨rfl,h h' Ao ?_ λb o e=>?_⟩
   . simpa[merged]using hd'
   . have hb:b<s.heap.objs.size:=XR e
     exact kX b o (XZ hb) (XZ (aaj hb xC)) (XC _ (k2 _ _ (XC _ e)))
end
end PySem
namespace L2
open PySem PySem.Spec PyProof.Rows
section
variable {X:Cx}
theorem DN(h:(cg P w).is k u=true):RelV (kV k) u:=by
 rw[yj]at h
 cases k with
 | inl i=>cases u <;> first|(simp[i6,Value.isInt]at h;done)|(simp[i6,Value.isInt]at h;subst h;exact⟨_,rfl⟩)
 | inr x=>cases u <;> first|(simp[i6,Value.isStrOf]at h;done)|(simp[i6,Value.isStrOf]at h;subst h;exact⟨_,rfl⟩)
theorem pairs_at(ok:fg P w H h){ts:List Addr}{kvs:List (Key×V)}{us:List Value}(p:Paired (λt kv=>H t=some (.tup [kV kv.1,kv.2])) ts kvs) (r:Vals (ts.map V.ref) us) :
 ∃vs:List (Key×Value),KV kvs vs/\Paired (λu kv=>va (cg P w) h u kv) us vs:=by
 induction p generalizing us with
 | nil=>
  cases r
  exact⟨[],.nil,.nil⟩
 | @cons t kv ts kvs e p ih=>
  obtain⟨u,W5,rfl,ru,r'⟩:=r.inv
  obtain⟨vs,k1,k2⟩:=ih r'
  cases(show u=Value.ref t from ru)
  obtain⟨_,its,rv,ip⟩:=(show cI P w H h t (.tup [kV kv.1,kv.2]) from ok t _ e)
  obtain⟨key,val,rfl,rk,rl⟩:=vals2 rv
  exact⟨(kv.1,val)::vs,.cons ⟨rfl,rl⟩ k1,.cons ⟨t,key,rfl,ip,n8 rk⟩ k2⟩
theorem kP{α β:Type}{F:α->β->Prop} : ∀{l₁:List α}{l₂:List β}{i:Nat}{a:α}{b:β},Paired F l₁ l₂->l₁[i]?=some a->l₂[i]?=some b->F a b
 | _,_,i,a,b,.nil,h,_=>by simp at h
 | _,_,0,a,b,.cons h t,e1,e2=>by
  simp at e1 e2
  subst e1 e2
  exact h
 | _,_,i+1,a,b,.cons h t,e1,e2=>kP (i:=i) t (by simpa using e1) (by simpa using e2)
theorem kI(hc:X.calm=true):ir X (.type "dict") (λxs H Q=>∃p ts kvs,xs=[.ref p]/\H p=some (.lst (ts.map V.ref))/\Paired (λt kv=>H t=some (.tup [kV kv.1,kv.2])) ts kvs/\∀d,H d=none->Q (.ref d) (upd H d (.dK (c9 [] kvs)))):=by
 intro pins s σ H xs us Q I r h
 obtain⟨p,ts,kvs,rfl,hp,hT,q⟩:=h
 obtain⟨u,rfl,rx⟩:=vals1 r
 cases(show u=Value.ref p from rx)
 obtain⟨hz,its,n,rv,e⟩:=(show cI X.prog X.w H s.heap p (.lst (ts.map V.ref)) from I.hok p _ hp)
 obtain⟨vs,kv,pv⟩:=pairs_at I.hok hT rv
 have l1:vs.length=its.toArray.size:=by rw[XN];exact pv.length.symm
 have l2:kvs.length=vs.length:=kv.length
 have l3:vs.length<=sizeLine:=by
  have:=hT.length
  rw[Xl]at hz
  lia
 refine vb (knd:=cg X.prog X.w) (kvs:=vs) (I.ok.hd hc) e l1 l3 (λj u kv hu dG=>kP pv (by simpa using hu) dG) λh' tk dd kk=>?_
 refine⟨.ref s.heap.objs.size,_,I.laid (a:=s.heap.objs.size) (o:=.dK (c9 [] kvs)) kk (Xv _) (nh ?_ (Yx.mpr (YF (XZ I.big))) (KV.merge kv .nil) dd),rfl,q _ (I.hok.fresh (Xv _))⟩
 have:=j0 kvs []
 simp at this
 lia
theorem rM:ir X (.type "dict") (λxs H Q=>∃p kvs,xs=[.ref p]/\Rd H p (.dK kvs)/\∀d,H d=none->Q (.ref d) (upd H d (.dK kvs))):=by
 intro pins s σ H xs us Q I r h
 obtain⟨p,kvs,rfl,hp,q⟩:=h
 obtain⟨u,rfl,rx⟩:=vals1 r
 cases(show u=Value.ref p from rx)
 exact BD I hp λd s' hd I'=>⟨.ref d,_,I',rfl,q d hd⟩
theorem rN(hc:X.calm=true):ir X (.type "list") (λxs H Q=>∃p kvs,xs=[.ref p]/\Rd H p (.dK kvs)/\∀l,H l=none->Q (.ref l) (upd H l (.lst (kvs.map λkv=>kV kv.1)))):=by
 intro pins s σ H xs us Q I r h
 obtain⟨p,kvs,rfl,hp,q⟩:=h
 obtain⟨u,rfl,rx⟩:=vals1 r
 cases(show u=Value.ref p from rx)
 obtain⟨z,hd,vs,rel,dd⟩:=j7 I.hok hp
 obtain⟨ep,da⟩:=dd.dictAt
 have hlen:kvs.length=vs.length:=rel.length
 refine W.kdl_call (W.kdl_dict (knd:=cg X.prog X.w) (ep:=ep) hd) (I.ok.hd hc) da (by lia) λh' tk Ca c' kk e it=>?_
 have rv:Vals (kvs.map λkv=>kV kv.1) Ca.toList:=by
  obtain⟨i1,i2⟩:=it
  have gen:∀(kvs:List (Key×V)) (vs:List (Key×Value)) (us:List Value),KV kvs vs->us.length=vs.length->(∀(j:Nat) v,us[j]?=some v->∃k x,vs[j]?=some (k,x)/\(cg X.prog X.w).is k v=true)->Vals (kvs.map λkv=>kV kv.1) us:=by
   intro kvs vs us kv
   induction kv generalizing us with
   | nil=>
    intro hl _
    have:us=[]:=Yq.mp hl
    subst this
    exact .nil
   | @cons a b as bs xy t ih=>
    intro hl hu
    match us,hl with
    | u::us,hl=>
     obtain⟨k,x,e1,e2⟩:=hu 0 u rfl
     simp at e1
     have ek:k=a.1:=by rw[xy.1,e1]
     subst ek
     refine .cons (DN e2) (ih us (by simpa using hl) λj v hj=>?_)
     obtain⟨k',x',e3,e4⟩:=hu (j+1) v (by simpa using hj)
     exact⟨k',x',by simpa using e3,e4⟩
  exact gen kvs vs Ca.toList rel (by rw[YO,i1]) λj v hj=>i2 j v (by rw[← aak];exact hj)
 refine⟨.ref s.heap.objs.size,_,I.laid (t':=tk) kk (Xv _) (show cI X.prog X.w _ h' _ (.lst (kvs.map λkv=>kV kv.1)) from⟨by rw[Xl];exact z,Ca.toList,c',rv,by simpa using e⟩),rfl,q _ (I.hok.fresh (Xv _))⟩
end
section
variable {X:Cx}{pins:List (Addr×Obj)}{σ:St}{H:Hp}{s:Shared}{d:Addr}{kvs:List (Key×V)}
theorem Inv.freeze(I:Inv X pins σ H s) (e:H d=some (.dK kvs)):∃o,s.heap.get? d=some o/\Inv X pins σ (upd H d (.cX o (.dK kvs))) s:=by
 obtain⟨z,hd,vs,rel,dd⟩:=tL I.hok e
 obtain⟨o,es,ep,ho,r⟩:=id dd
 refine⟨o,ho,I.write (x:=d) (e:=d) (t':=s.toks) (h':=s.heap) (by rw[e];trivial) (.inl rfl) (λb u _ q=>q) ⟨o,ho⟩ (show cI X.prog X.w _ s.heap d (.cX o (.dK kvs)) from⟨ho,nh z hd rel dd⟩)⟩
theorem Inv.HV(I:Inv X pins σ H s) (e:H d=some (.cX o (.dK kvs))) (hn:∀o' u,X.tD d≠some (.cX o' u)):Inv X pins σ (upd H d (.dK kvs)) s:=by
 have ne:∀b,H b=none->b≠d:=λb h z=>by rw[z,e]at h;cases h
 have up:∀b,H b=none->upd H d (.dK kvs) b=none:=λb h=>by rw[ag (ne b h)];exact h
 refine⟨I.ok,I.os,I.bare,⟨I.base.keep,I.base.slot,λb ob q n hx=>up b (I.base.free b ob q n hx),I.base.there,λb xs q=>?_,λb ob u q=>?_,λb ps q=>?_⟩,I.loc,I.cell,up _ I.free,λx c q=>up _ (I.freeC x c q),λp hp=>?_,λb u q=>?_,I.len⟩
 . have q1:=I.base.tups b xs q
   rw[ag (λz=>by rw[z,e]at q1;cases q1)]
   exact q1
 . have q1:=I.base.frzs b ob u q
   rw[ag (λz=>hn ob u (by rw[← z];exact q))]
   exact q1
 . obtain⟨more,q1⟩:=I.base.tbls b ps q
   exact⟨more,by rw[ag (λz=>by rw[z,e]at q1;cases q1)];exact q1⟩
 . obtain⟨a1,a2,a3⟩:=I.pin p hp
   exact⟨a1,up _ a2,a3⟩
 . by_cases hb:b=d
   . subst hb
     rw[aj]at q
     cases q
     obtain⟨_,k⟩:=(show cI X.prog X.w H s.heap b (.cX o (.dK kvs)) from I.hok b _ e)
     exact k
   . rw[ag hb]at q
     exact(I.hok b u q).i7 (λ_ _ _ z=>z) (λc z=>by rw[ag (λy=>by rw[y,e]at z;cases z)];exact z) λc xs z=>by rw[ag (λy=>by rw[y,e]at z;cases z)];exact z
end
section
variable {X:Cx}
def MT(tD:Hp)(t:TE):TE:=λσ H Q=>t σ H λv H1=>∃d o kvs,H1 d=some (.cX o (.dK kvs))/\(∀o' u,tD d≠some (.cX o' u))/\Q v (upd H1 d (.dK kvs))
theorem rO(h:PE X e t):PE X e (MT X.tD t):=by
 intro pins s σ H Q I q
 refine aS (h pins s σ H _ I q) λv s1 ⟨x,H1,I1,r1,q1⟩=>?_
 obtain⟨d,o,kvs,e1,hn,q2⟩:=q1
 exact⟨x,_,I1.HV e1 hn,r1,q2⟩
def vc(d:Addr)(o:Obj) (kvs:List (Key×V)):It:=⟨λi H=>H d=some (.cX o (.dK kvs))/\i<kvs.length,λi H x H'=>H'=H/\∃kv,kvs[i]?=some kv/\x=kV kv.1,λi H=>H d=some (.cX o (.dK kvs))/\i=kvs.length⟩
theorem Ap{P:Program}{w:World}{K:W.Frag}{tg:Expr}{d it:Addr}{o:Obj}{es:Array DictEntry}{ep:Nat}{kvs:List (Key×V)}(hd:o.data=.dict es ep) (iF:d≠it):Turn P w K tg (vc d o kvs) [it] it (λi h=>h.IsKeyIter it d i kvs.length ep) where
 mem:=by simp
 obj:=λi h st b hb=>by
  have e:b=it:=by simpa using hb
  subst e
  obtain⟨o,e,c,d⟩:=st
  exact⟨o,e,λv z=>by rw[d]at z;cases z⟩
 keep:=λi h h' st k=>let ⟨o,e,r⟩:=st; ⟨o,k it (by simp) o e,r⟩
 item:=by
  intro X hP hw hK hc i pins s σ H E I hf st hg
  subst hP hw hK
  obtain⟨f0,f1,f2,f3,f4,f5⟩:=hf it (by simp)
  obtain⟨g1,g2⟩:=hg
  obtain⟨ho,z,hs,vs,rel,o',y6,y8,jq,r'⟩:=(show cI X.prog X.w H s.heap d (.cX o (.dK kvs)) from I.hok d _ g1)
  rw[ho]at jq
  cases jq
  have jU:=r'.2.1
  rw[hd]at jU
  cases jU
  have hl:kvs.length=vs.length:=rel.length
  refine(Walks.dictKeys (knd:=cg X.prog X.w) (I.ok.hd hc) it d iF vs ep).item i s _ _ (by lia) ⟨by rw[← hl];exact st,o,es,ho,r'⟩ λv h' tk hv jN kk=>?_
  obtain⟨k,x,ek,ik⟩:=hv
  have I1:Inv X pins σ H {s with heap:=h',toks:=tk}:=I.turned (λb o hb e=>kk b o (by simpa using hb) e) f0 f1 f3 f4 f5
  have oE:h'.IsKeyIter it d (i+1) kvs.length ep:=by rw[hl];exact jN.1
  obtain⟨oi,e,oc,od⟩:=id oE
  have NU:kvs[i]?=some kvs[i]:=Xo g2
  have NK:(kvs[i]).1=k:=(kP rel NU ek).1
  exact⟨_,rfl,tK (s:={s with heap:=h',toks:=tk}) e oc od (by decide) ⟨kV k,H,I1,DN ik,⟨rfl,_,NU,by rw[NK]⟩,oE,λb hb=>(hf b hb).1⟩⟩
 done:=by
  intro X hP hw hK hc i pins s σ H E I hf st hg
  subst hP hw hK
  obtain⟨f0,f1,f2,f3,f4,f5⟩:=hf it (by simp)
  obtain⟨g1,g2⟩:=hg
  subst g2
  obtain⟨ho,z,hs,vs,rel,o',y6,y8,jq,r'⟩:=(show cI X.prog X.w H s.heap d (.cX o (.dK kvs)) from I.hok d _ g1)
  rw[ho]at jq
  cases jq
  have jU:=r'.2.1
  rw[hd]at jU
  cases jU
  have hl:kvs.length=vs.length:=rel.length
  exact(Walks.dictKeys (knd:=cg X.prog X.w) (I.ok.hd hc) it d iF vs ep).done s _ _ ⟨by rw[← hl];exact st,o,es,ho,r'⟩ λh' tk kk=>⟨rfl,I.turned (λb o hb e=>kk b o (by simpa using hb) e) f0 f1 f3 f4 f5⟩
 self:=λA i s Q E st h=>wpAny_pyIter_keyiter st h
def MU(td:TE):TI:=λσ H R=>td σ H λx H1=>∃d kvs,x=.ref d/\H1 d=some (.dK kvs)/\∀o,R (vc d o kvs) (upd H1 d (.cX o (.dK kvs)))
theorem lj(hl:PE X l tl):PI X tg l (MU tl):=by
 intro pins s σ H R I h
 refine aS (hl pins s σ H _ I h) λv s1 ⟨x,H1,I1,r1,q1⟩=>?_
 obtain⟨d,kvs,e,hd,q⟩:=q1
 subst e
 cases(show v=Value.ref d from r1)
 obtain⟨z,hm,vs,rel,dd⟩:=tL I1.hok hd
 obtain⟨o,es,ep,ho,r⟩:=id dd
 have hlen:kvs.length=vs.length:=rel.length
 obtain⟨o',jq,I2⟩:=I1.freeze hd
 rw[ho]at jq
 cases jq
 refine wpAny_pyIter_dict (knd:=cg X.prog X.w) (ep:=ep) hm ⟨o,es,ho,r⟩ ?_
 have eF:d<s1.heap.objs.size:=XR ho
 refine⟨s1.heap.objs.size,[s1.heap.objs.size],_,_,_,rfl,I2.kept (t':=s1.toks) λb o e=>XC _ e,Ap (es:=es) (ep:=ep) (o:=o) (kvs:=kvs) r.2.1 (XZ eF),?_,?_,q o⟩
 . exact⟨_,Yd _ rfl,rfl,by rw[hlen];rfl⟩
 . intro b hb
   have e:b=s1.heap.objs.size:=by simpa using hb
   subst e
   exact I2.o6 (Xv _) (I2.hok.fresh (Xv _))
end
end L2
namespace L2
open PySem PySem.Spec PyProof.Rows Sat
def de(H Hx:Hp)(a b:Addr):Prop:=∀c u,H c=some u->c≠a->c≠b->Hx c=some u
theorem de.refl(H:Hp)(a b:Addr):de H H a b:=λ_ _ h _ _=>h
theorem de.trans{H H' sM:Hp}{a b:Addr}(h:de H H' a b)(k:de H' sM a b):de H sM a b:=λc u hc n1 n2=>k c u (h c u hc n1 n2) n1 n2
theorem de.new{H:Hp}{a b t:Addr}{o:HO}(h:H t=none):de H (L2.upd H t o) a b:=λc u hc _ _=>by rw[ag (aq hc h)];exact hc
theorem de.xE{H:Hp}{a b:Addr}{o:HO} : de H (L2.upd H a o) a b:=λc u hc n _=>by rw[ag n];exact hc
theorem de.at2{H:Hp}{a b:Addr}{o:HO} : de H (L2.upd H b o) a b:=λc u hc _ n=>by rw[ag n];exact hc
section
variable {C CO CP:Addr}{H Hx:Hp}{ad:Sl->Addr}{S:SS}{a b:Addr}
theorem Rep.vd(h:Rep C CO CP H ad S)(f:de H Hx a b)(na:¬ cB C CO CP ad S a)(nb:¬ cB C CO CP ad S b) (ta:∀xs,H a≠some (.tup xs)) (tb:∀xs,H b≠some (.tup xs)):Rep C CO CP Hx ad S:=by
 refine h.DE (h.st.keep λs o hs=>f _ _ (h.st.at_ _ _ hs) (λe=>na ⟨s,o,hs,e⟩) λe=>nb ⟨s,o,hs,e⟩) (λc xs hc=>f c _ hc (λe=>ta xs (e ▸ hc)) λe=>tb xs (e ▸ hc)) rfl rfl rfl rfl
end
def a8(sn:List Nat):List (Key×V):=sn.map λv:Nat=>((.inl (v:Int),.bl true):Key×V)
theorem E4(a b:List Nat):a8 (a++b)=a8 a++a8 b:=Xx
theorem eJ(a:List Nat):(a8 a).length=a.length:=Xl _
theorem ll:∀{sn:List Nat}{v:Nat},(cv (a8 sn) (.inl (v:Int))).isSome=decide (v∈sn)
 | [],v=>by simp[a8,cv]
 | u::sn,v=>by
  by_cases e:u=v
  . subst e
    have:cv (a8 (u::sn)) (.inl (u:Int))=some (.bl true):=eN (p:=((.inl (u:Int):Key),V.bl true)) rfl
    rw[this]
    simp
  . have:cv (a8 (u::sn)) (.inl (v:Int))=cv (a8 sn) (.inl (v:Int)):=eO (p:=((.inl (u:Int):Key),V.bl true)) (λz=>e (by have:=Zl z;omega))
    rw[this,ll]
    have:(v∈u::sn) ↔ v∈sn:=by rw[XI];exact or_iff_right λz=>e z.symm
    simp only[this]
theorem ox{sn:List Nat}{v:Nat}(h:v∉sn):putK (a8 sn) (.inl (v:Int)) (.bl true)=a8 (sn++[v]):=by
 unfold putK
 rw[XW ?_,E4]
 . rfl
 . intro z
   obtain⟨kv,dG,e⟩:=Yw.mp z
   obtain⟨u,hu,rfl⟩:=XJ.mp dG
   have e:=Yh e
   have:(u:Int)=v:=Zl e
   exact h (by rw[show v=u by omega];exact hu)
theorem vf{sn:List Nat}{v:Nat}(h:v∈sn):putK (a8 sn) (.inl (v:Int)) (.bl true)=a8 sn:=by
 unfold putK
 have hh:((a8 sn).any λkv=>decide (kv.fst=Sum.inl (v:Int)))=true:=Yw.mpr ⟨((.inl (v:Int):Key),V.bl true),XJ.mpr ⟨v,h,rfl⟩,Xw rfl⟩
 rw[XO hh]
 unfold a8
 rw[Y5]
 refine Y8 λu hu=>?_
 show (if ((.inl (u:Int):Key)=.inl (v:Int)) then ((.inl (u:Int):Key),V.bl true) else (.inl (u:Int),V.bl true))=_
 split <;> rfl
def iD(lev pla:Nat->Int)(L p:Nat)(sn:List Nat):Nat:=sn.countP λv=>decide (lev v=L) && decide (pla v<p)
theorem E5{lev pla:Nat->Int}{L p:Nat}{sn:List Nat}{v:Nat}(h:pla v<p):(iD lev pla L p (sn++[v]):Int)=iD lev pla L p sn+(if lev v=L then 1 else 0):=by
 unfold iD
 rw[Zs,List.countP_singleton]
 by_cases e:lev v=L
 . rw[Xw e,Xw h,XO e];rfl
 . rw[Xz e,XW e];rfl
structure Hd(S:SS) (rs:Nat) (pv:Int) (pl:Nat) (sn:List Nat) (ch:List (Nat×Int)) (c:List Int):Prop where
 nd:sn.Nodup
 inT:∀v∈sn,v∈S.T.map Int.natAbs
 hc:S.held[rs]?=some c
 go:∀aN:List Nat,(∀v,v∈aN ↔ v∈sn\/∃x∈c,x.natAbs=v)->fh S.held (ch++[(rs,pv)]) (Cn S.T (λv=>v∈aN) (λ_=>False) 0 pl)
 low:∀x∈c,x.natAbs∈sn \/ -x∈S.T.take pl
 some_:(∃v∈sn,S.lev v=S.cuts.length/\S.pla v<pl)\/∃x∈c,S.lev x.natAbs=S.cuts.length /\ -x∈S.T.take pl
 pll:pl<=S.T.length
section
variable {wants:List Int}{S:SS}
theorem eR(h:Iv wants S){v:Nat}(hv:v∈S.T.map Int.natAbs):∃(i:Nat) (x:Int),S.T[i]?=some x/\x.natAbs=v/\S.pla v=i/\S.lev v=lvl S.cuts i:=by
 obtain⟨x,hx,rfl⟩:=XJ.mp hv
 obtain⟨i,hi⟩:=X2.mp hx
 exact⟨i,x,hi,rfl,(h.tok.at_ i x hi).1,(h.tok.at_ i x hi).2.1⟩
theorem jV(h:Iv wants S){x:Int}{p:Nat}(hx : -x∈S.T.take p):x.natAbs∈S.T.map Int.natAbs/\S.pla x.natAbs<p:=by
 obtain⟨i,hi,he⟩:=iP hx
 have:=(h.tok.at_ i _ he).1
 rw[Ya]at this
 refine⟨fX.mpr (.inr (Xn he)),by rw[this];omega⟩
theorem Hd.first(h:Iv wants S){p r:Nat}{c:List Int}(hr:S.held[r]?=some c)(hc:∀x∈c,-x∈S.T){x:Int}(hx:x∈c) (hp:S.T[p]?=some (-x)) (cut:∀d∈S.cuts,d<=p):Hd S r 0 S.T.length [] [] c:=by
 refine⟨Yb,λv hv=>(by cases hv),hr,λaN hs=>?_,λy hy=>.inr (by rw[XU];exact hc y hy),.inr ⟨x,hx,?_,by rw[XU];exact hc x hx⟩,Xv _⟩
 . exact Hh h.tok hr hc (λv=>(hs v).trans ⟨λz=>z.resolve_left (by intro z;cases z),.inr⟩) 0
 . have:=(h.tok.at_ p _ hp).2.1
   rw[Ya]at this
   rw[this,qZ cut]
theorem Hd.next(h:Iv wants S){rs pl q:Nat}{pv x:Int}{sn aN:List Nat}{ch:List (Nat×Int)}{c:List Int}(k:Hd S rs pv pl sn ch c) (hs:∀v,v∈aN ↔ v∈sn\/∃x∈c,x.natAbs=v) (nK:aN.Nodup) (hq:q<pl) (hx:S.T[q]?=some x) (hm:x.natAbs∈aN) (gap:∀i y,q<i->i<pl->S.T[i]?=some y->y.natAbs∉aN) :
 (∀v∈aN,v∈S.T.map Int.natAbs)/\S.lev x.natAbs=S.cuts.length/\iD S.lev S.pla S.cuts.length pl aN=iD S.lev S.pla S.cuts.length q aN+1/\fh S.held (ch++[(rs,pv)]) (Cn S.T (λv=>v∈aN) (λ_=>False) 0 (q+1)):=by
 have inT:∀v∈aN,v∈S.T.map Int.natAbs:=λv hv=>by
  rcases (hs v).mp hv with z|⟨y,hy,rfl⟩
  . exact k.inT v z
  . rcases k.low y hy with z|z
    . exact k.inT _ z
    . exact(jV h z).1
 have pH:=h.tok.at_ q x hx
 have ex:∃v∈aN,S.lev v=S.cuts.length/\S.pla v<pl:=by
  rcases k.some_ with⟨v,hv,h1,h2⟩|⟨y,hy,h1,h2⟩
  . exact⟨v,(hs v).mpr (.inl hv),h1,h2⟩
  . exact⟨_,(hs _).mpr (.inr ⟨y,hy,rfl⟩),h1,(jV h h2).2⟩
 have near:∀v∈aN,S.pla v<pl->S.pla v<=q/\(S.pla v=q->v=x.natAbs):=λv hv hl=>by
  obtain⟨i,y,hi,rfl,e1,e2⟩:=eR h (inT v hv)
  rw[e1]at hl ⊢
  have:i<=q:=by
   rcases Yn q i with z|z
   . exact absurd hv (gap i y z (by omega) hi)
   . exact z
  refine⟨by omega,λz=>?_⟩
  have:i=q:=by omega
  subst this
  rw[hx]at hi
  rw[Xq hi]
 have lq:S.lev x.natAbs=S.cuts.length:=by
  obtain⟨v,hv,h1,h2⟩:=ex
  obtain⟨i,y,hi,rfl,e1,e2⟩:=eR h (inT v hv)
  have:=(near _ hv h2).1
  have m:lvl S.cuts i<=lvl S.cuts q:=lV (by omega)
  have:=uy S.cuts q
  rw[pH.2.1]
  omega
 refine⟨inT,lq,?_,?_⟩
 . unfold iD
   refine sL nK hm ?_ ?_ λu hu ne=>?_
   . rw[Xw lq,show decide (S.pla x.natAbs<(pl:Int))=true from Xw (by rw[pH.1];omega)];rfl
   . rw[show decide (S.pla x.natAbs<(q:Int))=false from Xz (by rw[pH.1];omega),Bool.and_false]
   . have e:decide (S.pla u<(pl:Int))=decide (S.pla u<(q:Int)):=by
      by_cases z:S.pla u<pl
      . have:=near u hu z
        have:S.pla u<q:=by
         rcases Int.lt_or_eq_of_le this.1 with y|y
         . exact y
         . exact absurd (this.2 y) ne
        rw[Xw z,Xw this]
      . rw[Xz z,Xz (by omega)]
     rw[e]
 . refine(k.go aN hs).congr λy=>?_
   exact Hi (by omega) (λi z h1 h2 h3=>gap i z (by omega) h2 h3) y
theorem Hd.step(h:Iv wants S){q:Nat}{x:Int}{sn:List Nat}{ch:List (Nat×Int)}(hx:S.T[q]?=some x) (hm:x.natAbs∈sn) (nd:sn.Nodup) (inT:∀v∈sn,v∈S.T.map Int.natAbs) (lq:S.lev x.natAbs=S.cuts.length) (hL:0<S.cuts.length) (hw:0<iD S.lev S.pla S.cuts.length q sn) (k:fh S.held ch (Cn S.T (λv=>v∈sn) (λ_=>False) 0 (q+1))) :
 ∃rs c,S.rea x.natAbs=some rs/\Hd S rs x q sn ch c:=by
 obtain⟨v,hv,HW⟩:=aaG.mp hw
 rw[YT]at HW
 have v1:=Yh HW.1
 have v2:=Yh HW.2
 obtain⟨i,y,hi,rfl,e1,e2⟩:=eR h (inT v hv)
 have pH:=h.tok.at_ q x hx
 have li:lvl S.cuts i=S.cuts.length:=by omega
 have ci:∀d∈S.cuts,d<=i:=λd hd=>by
  unfold lvl at li
  rw[ZD]at li
  exact Yh (li d hd)
 cases e:S.rea x.natAbs with
 | none=>
  exfalso
  have r:=pH.2.2
  rw[e]at r
  rcases r with r|⟨r,_⟩
  . have:=ci q r
    omega
  . have:=pH.2.1
    omega
 | some rs=>
  have r:=pH.2.2
  rw[e]at r
  obtain⟨c,hc,uF,ho⟩:=r
  refine⟨rs,c,rfl,nd,inT,hc,λaN hs=>BN h.tok k hx hm hc uF ho hs,λz hz=>?_,.inl ⟨_,hv,v1,v2⟩,X7 (aO hx)⟩
  by_cases ez:z=x
  . rw[ez];exact .inl hm
  . exact .inr (ho z hz ez)
end
def Nl(S:SS)(sn:List Nat)(v:Nat):Prop:=∃r c,S.rea v=some r/\S.held[r]?=some c/\∀y∈c,y.natAbs∈sn\/S.lev y.natAbs=0
section
variable {wants:List Int}{S:SS}
structure Nd(S:SS) (q:Nat) (oR nl:List Nat) (t:Nat) (sn:List Nat) (ch:List (Nat×Int)):Prop where
 nd:sn.Nodup
 inT:∀v∈sn,v∈S.T.map Int.natAbs
 up:∀v∈oR,v∈sn
 new:∀v∈sn,v∈oR\/S.lev v=0
 go:fh S.held ch (Cn S.T (λv=>v∈sn) (λv=>v∈nl) t (q+1))
theorem Nd.start{q:Nat}{sn nl:List Nat}{ch:List (Nat×Int)}(nd:sn.Nodup) (inT:∀v∈sn,v∈S.T.map Int.natAbs) (k:fh S.held ch (Cn S.T (λv=>v∈sn) (λ_=>False) 0 (q+1))):Nd S q sn nl (q+1) sn ch:=
 ⟨nd,inT,λ_ h=>h,λ_ h=>.inl h,k.congr λx=>⟨λ⟨i,a,b,c,_⟩=>⟨i,a,b,c,λz=>z.1⟩,λ⟨i,a,b,c,_⟩=>⟨i,a,b,c,λz=>by omega⟩⟩⟩
theorem Nd.step(h:Iv wants S){q t t':Nat}{oR nl sn aN:List Nat}{ch:List (Nat×Int)}(k:Nd S q oR nl t sn ch){x:Int}{r:Nat}{c:List Int}(hx:S.T[t']?=some x) (ht:t'<t) (HY:t'<q+1) (hm:x.natAbs∈nl) (Tq:x.natAbs∈oR) (hr:S.rea x.natAbs=some r) (hc:S.held[r]?=some c) (hy:∀y∈c,y.natAbs∈oR\/S.lev y.natAbs=0)
 (hs:∀v,v∈aN ↔ v∈sn\/∃y∈c,y.natAbs=v) (nK:aN.Nodup) (one:∀i y,t'<=i->i<t->S.T[i]?=some y->y.natAbs∈nl->i=t'):Nd S q oR nl t' aN (ch++[(r,x)]):=by
 have rs:=(h.tok.at_ t' x hx).2.2
 rw[hr]at rs
 obtain⟨c',gb,uF,ho⟩:=rs
 rw[hc]at gb
 cases gb
 refine⟨nK,λv hv=>?_,λv hv=>(hs v).mpr (.inl (k.up v hv)),λv hv=>?_,xk h.tok k.go hx ht HY (k.up _ Tq) hm hc uF ho hs one⟩
 . rcases (hs v).mp hv with z|⟨y,Aq,rfl⟩
   . exact k.inT v z
   . by_cases e:y=x
     . rw[e];exact XJ.mpr ⟨x,Xn hx,rfl⟩
     . exact(jV h (ho y Aq e)).1
 . rcases (hs v).mp hv with z|⟨y,Aq,rfl⟩
   . exact k.new v z
   . exact hy y Aq
theorem Nd.fin{q t:Nat}{oR nl sn:List Nat}{ch:List (Nat×Int)}(k:Nd S q oR nl t sn ch) (low:∀i y,i<q+1->S.T[i]?=some y->y.natAbs∈nl->t<=i):Nd S q oR nl 0 sn ch:=
 ⟨k.nd,k.inT,k.up,k.new,k.go.congr λx=>⟨λ⟨i,a,b,c,d⟩=>⟨i,a,b,c,λz=>d ⟨z.1,Yi _⟩⟩,λ⟨i,a,b,c,d⟩=>⟨i,a,b,c,λz=>d ⟨z.1,low i _ a b (by rw[Ya];exact z.1)⟩⟩⟩⟩
end
section
variable {n g g':Nat}{held:List (List Int)}{wl:Nat->List Nat}{pl:Nat->List (Int×Nat)}{singles:List Nat}{c:List Int}
theorem qw{α:Type}{l:List α}{x y:α}{j:Nat}(h:(l++[x])[j]?=some y):l[j]?=some y\/(j=l.length/\x=y):=by
 rcases Yn j l.length with z|z
 . rw[X8 z]at h;exact .inl h
 . rw[Yr z]at h
   cases e:j-l.length with
   | zero=>rw[e]at h;exact .inr ⟨by omega,Xq h⟩
   | succ k=>rw[e]at h;simp at h
theorem qy{α:Type}{l:List α}{x y:α}{j:Nat}(h:l[j]?=some y):(l++[x])[j]?=some y:=by rw[X8 (aO h)];exact h
theorem fm{α:Type}{l:List α}{x:α} : (l++[x])[l.length]?=some x:=by rw[Yr (Xv _),aaV];rfl
theorem cG.more(h:cG n g held wl pl singles)(hc:cf n c)(hg:∀i,i<g'->i<g\/i=held.length){k9:Nat->List Nat}{lu:Nat->List (Int×Nat)}{HZ:List Nat}
 (w1:∀k j,j∈k9 k ↔ j∈wl k\/(j=held.length/\∃a b r,c=a::b::r/\r≠[]/\(k=idx n a\/k=idx n b))) (w2:∀k,(k9 k).Nodup)
 (p1:∀k q,q∈lu k ↔ q∈pl k\/∃a b,c=[a,b]/\((k=idx n a/\q=(b,held.length))\/(k=idx n b/\q=(a,held.length)))) (p2:∀k,((lu k).map (·.2)).Nodup)
 (s1:∀j,j∈HZ ↔ j∈singles\/(j=held.length/\c.length<2)) (s2:HZ.Nodup):cG n g' (held++[c]) k9 lu HZ:=by
 refine⟨w2,λk j hj=>?_,λj a b r hj he hr=>?_,λk q hq=>?_,λj a b hj he=>?_,p2,λj hj=>?_,λj d hj he hl=>?_,s2,λd hd=>?_⟩
 . rcases (w1 k j).mp hj with z|⟨rfl,a,b,r,rfl,hr,hk⟩
   . obtain⟨a,b,r,e,q⟩:=h.wx k j z
     exact⟨a,b,r,qy e,q⟩
   . exact⟨a,b,r,fm,hr,hk⟩
 . rcases qw he with e|⟨rfl,rfl⟩
   . have:j<g:=(hg j hj).resolve_right λz=>by have:=aO e;omega
     obtain⟨h1,h2⟩:=h.wc j a b r this e hr
     exact⟨(w1 _ _).mpr (.inl h1),(w1 _ _).mpr (.inl h2)⟩
   . exact⟨(w1 _ _).mpr (.inr ⟨rfl,a,b,r,rfl,hr,.inl rfl⟩),(w1 _ _).mpr (.inr ⟨rfl,a,b,r,rfl,hr,.inr rfl⟩)⟩
 . rcases (p1 k q).mp hq with z|⟨a,b,rfl,⟨rfl,rfl⟩|⟨rfl,rfl⟩⟩
   . obtain⟨x,hx,e⟩:=h.px k q z
     exact⟨x,hx,e.imp qy qy⟩
   . exact⟨a,rfl,.inl fm⟩
   . exact⟨b,rfl,.inr fm⟩
 . rcases qw he with e|⟨rfl,rfl⟩
   . have:j<g:=(hg j hj).resolve_right λz=>by have:=aO e;omega
     obtain⟨h1,h2⟩:=h.pc j a b this e
     exact⟨(p1 _ _).mpr (.inl h1),(p1 _ _).mpr (.inl h2)⟩
   . exact⟨(p1 _ _).mpr (.inr ⟨a,b,rfl,.inl ⟨rfl,rfl⟩⟩),(p1 _ _).mpr (.inr ⟨a,b,rfl,.inr ⟨rfl,rfl⟩⟩)⟩
 . rcases (s1 j).mp hj with z|⟨rfl,hl⟩
   . obtain⟨d,e,hl⟩:=h.sx j z
     exact⟨d,qy e,hl⟩
   . exact⟨c,fm,hl⟩
 . rcases qw he with e|⟨rfl,rfl⟩
   . have:j<g:=(hg j hj).resolve_right λz=>by have:=aO e;omega
     exact(s1 j).mpr (.inl (h.sc j d this e hl))
   . exact(s1 _).mpr (.inr ⟨rfl,hl⟩)
 . rcases Xp.mp hd with hd|hd
   . exact h.hcl d hd
   . rw[Xm.mp hd];exact hc
theorem cG.NV(h:cG n g held wl pl singles){k j:Nat}(hj:j∈wl k):j<held.length:=by
 obtain⟨a,b,r,e,_⟩:=h.wx k j hj
 exact aO e
theorem cG.NW(h:cG n g held wl pl singles){k:Nat}{q:Int×Nat}(hj:q∈pl k):q.2<held.length:=by
 obtain⟨x,_,e|e⟩:=h.px k q hj <;> exact aO e
theorem cG.slt(h:cG n g held wl pl singles){j:Nat}(hj:j∈singles):j<held.length:=by
 obtain⟨c,e,_⟩:=h.sx j hj
 exact aO e
theorem i4{α:Type}{l:List α}{x:α}(h:l.Nodup)(hx:x∉l):(l++[x]).Nodup:=by
 rw[Ye]
 exact⟨h,X6.mpr ⟨Yf,Yb⟩,λa ha b hb e=>hx (by rw[Xm.mp hb]at e;exact e ▸ ha)⟩
theorem cG.single(h:cG n g held wl pl singles)(hc:cf n c)(hg:∀i,i<g'->i<g\/i=held.length)(hl:c.length<2):cG n g' (held++[c]) wl pl (singles++[held.length]):=by
 refine h.more hc hg (λk j=>⟨.inl,λz=>z.elim id λ⟨_,a,b,r,e,_⟩=>?_⟩) h.wn (λk q=>⟨.inl,λz=>z.elim id λ⟨a,b,e,_⟩=>?_⟩) h.pn (λj=>?_) (i4 h.sn λz=>by have:=h.slt z;omega)
 . rw[e]at hl;simp only[X0]at hl;omega
 . rw[e]at hl;simp only[X0]at hl;omega
 . rw[Xp,Xm]
   exact⟨λz=>z.imp id λz=>⟨z,hl⟩,λz=>z.imp id λz=>z.1⟩
theorem cG.long(h:cG n g held wl pl singles){a b:Int}{r:List Int}(hc:cf n (a::b::r)) (hg:∀i,i<g'->i<g\/i=held.length) (hr:r≠[]):cG n g' (held++[a::b::r]) (fU (fU wl (idx n a) (wl (idx n a)++[held.length])) (idx n b) (fU wl (idx n a) (wl (idx n a)++[held.length]) (idx n b)++[held.length])) pl singles:=by
 have ab:idx n a≠idx n b:=λe=>(l8 hc (i:=0) (j:=1) rfl rfl (by omega)).1 (dR (hc.ok a XB).2 (hc.ok b (XA _ XB)).2 e)
 have ev:∀k,fU (fU wl (idx n a) (wl (idx n a)++[held.length])) (idx n b) (fU wl (idx n a) (wl (idx n a)++[held.length]) (idx n b)++[held.length]) k=if k=idx n b then wl (idx n b)++[held.length] else if k=idx n a then wl (idx n a)++[held.length] else wl k:=λk=>by
  unfold fU
  by_cases e:k=idx n b
  . rw[XO e,XO e,XW ab.symm]
  . rw[XW e,XW e]
 refine h.more hc hg (λk j=>?_) (λk=>?_) (λk q=>⟨.inl,λz=>z.elim id λ⟨a',b',e,_⟩=>?_⟩) h.pn (λj=>⟨.inl,λz=>z.elim id λz=>?_⟩) h.sn
 . rw[ev]
   constructor
   . intro z
     split at z
     . rename_i e
       rcases Xp.mp z with z|z
       . exact .inl (e ▸ z)
       . exact .inr ⟨Xm.mp z,a,b,r,rfl,hr,.inr e⟩
     . split at z
       . rename_i e
         rcases Xp.mp z with z|z
         . exact .inl (e ▸ z)
         . exact .inr ⟨Xm.mp z,a,b,r,rfl,hr,.inl e⟩
       . exact .inl z
   . rintro (z|⟨rfl,a',b',r',e,_,hk⟩)
     . split
       . rename_i e;rw[e]at z;exact XF _ z
       . split
         . rename_i e;rw[e]at z;exact XF _ z
         . exact z
     . cases e
       rcases hk with e|e
       . rw[XW (by rw[e];exact ab),XO e];exact Xu _ (Xm.mpr rfl)
       . rw[XO e];exact Xu _ (Xm.mpr rfl)
 . rw[ev]
   split
   . exact i4 (h.wn _) λz=>by have:=h.NV z;omega
   . split
     . exact i4 (h.wn _) λz=>by have:=h.NV z;omega
     . exact h.wn k
 . have:=(ZK (ZK e).2).2
   exact absurd this hr
 . simp only[X0]at z;omega
theorem cG.pair(h:cG n g held wl pl singles){a b:Int}(hc:cf n [a,b])(hg:∀i,i<g'->i<g\/i=held.length):cG n g' (held++[[a,b]]) wl (fU (fU pl (idx n a) (pl (idx n a)++[(b,held.length)])) (idx n b) (fU pl (idx n a) (pl (idx n a)++[(b,held.length)]) (idx n b)++[(a,held.length)])) singles:=by
 have ab:idx n a≠idx n b:=λe=>(l8 hc (i:=0) (j:=1) rfl rfl (by omega)).1 (dR (hc.ok a XB).2 (hc.ok b (XA _ XB)).2 e)
 have ev:∀k,fU (fU pl (idx n a) (pl (idx n a)++[(b,held.length)])) (idx n b) (fU pl (idx n a) (pl (idx n a)++[(b,held.length)]) (idx n b)++[(a,held.length)]) k=if k=idx n b then pl (idx n b)++[(a,held.length)] else if k=idx n a then pl (idx n a)++[(b,held.length)] else pl k:=λk=>by
  unfold fU
  by_cases e:k=idx n b
  . rw[XO e,XO e,XW ab.symm]
  . rw[XW e,XW e]
 have no:∀k,held.length∉(pl k).map (·.2):=λk z=>by
  obtain⟨q,hq,e⟩:=XJ.mp z
  have:=h.NW hq
  omega
 refine h.more hc hg (λk j=>⟨.inl,λz=>z.elim id λ⟨_,a',b',r',e,hr,_⟩=>?_⟩) h.wn (λk q=>?_) (λk=>?_) (λj=>⟨.inl,λz=>z.elim id λz=>?_⟩) h.sn
 . exact absurd (ZK (ZK e).2).2.symm hr
 . rw[ev]
   constructor
   . intro z
     split at z
     . rename_i e
       rcases Xp.mp z with z|z
       . exact .inl (e ▸ z)
       . exact .inr ⟨a,b,rfl,.inr ⟨e,Xm.mp z⟩⟩
     . split at z
       . rename_i e
         rcases Xp.mp z with z|z
         . exact .inl (e ▸ z)
         . exact .inr ⟨a,b,rfl,.inl ⟨e,Xm.mp z⟩⟩
       . exact .inl z
   . rintro (z|⟨a',b',e,hk⟩)
     . split
       . rename_i e;rw[e]at z;exact XF _ z
       . split
         . rename_i e;rw[e]at z;exact XF _ z
         . exact z
     . cases e
       rcases hk with⟨e,rfl⟩|⟨e,rfl⟩
       . rw[XW (by rw[e];exact ab),XO e];exact Xu _ (Xm.mpr rfl)
       . rw[XO e];exact Xu _ (Xm.mpr rfl)
 . rw[ev]
   split
   . rw[Xx];exact i4 (h.pn _) (no _)
   . split
     . rw[Xx];exact i4 (h.pn _) (no _)
     . exact h.pn k
 . simp only[X0,YA]at z;omega
end
section
variable {C CO CP:Addr}{H:Hp}{ad:Sl->Addr}{S:SS}
theorem Rep.Ia(h:Rep C CO CP H ad S){k:Nat}(hk:k<2*S.n+1){t:Addr}{q:Int×Nat}(ht:H t=some (.tup [.int q.1,iV q.2])):Go C CO CP H ad S (L2.upd H (ad (.pl k)) (.lst ((S.pa k++[t]).map V.ref))) ad {S with pa:=fU S.pa k (S.pa k++[t]),pl:=fU S.pl k (S.pl k++[q])}:=by
 have c0:cont C CO CP ad S (.pl k)=some (.lst ((S.pa k).map V.ref)):=by rw[cont,XO hk]
 have c2:∀t',t'≠.pl k->cont C CO CP ad {S with pa:=fU S.pa k (S.pa k++[t]),pl:=fU S.pl k (S.pl k++[q])} t'=cont C CO CP ad S t':=λt' ne=>by
  cases t' <;> first|rfl|skip
  case pl i=>
   have ne:i≠k:=λe=>ne (by rw[e])
   show (if i<2*S.n+1 then some (HO.lst ((fU S.pa k (S.pa k++[t]) i).map V.ref)) else none)=_
   rw[aW ne]
   rfl
 have st:=h.st.upd (s:=.pl k) (c':=cont C CO CP ad {S with pa:=fU S.pa k (S.pa k++[t]),pl:=fU S.pl k (S.pl k++[q])}) (o:=.lst ((S.pa k++[t]).map V.ref)) c0 (by show (if k<2*S.n+1 then some (HO.lst ((fU S.pa k (S.pa k++[t]) k).map V.ref)) else none)=_;rw[XO hk,aI]) c2
 have hT:HT H (L2.upd H (ad (.pl k)) (.lst ((S.pa k++[t]).map V.ref))):=Rep.ht (h:=h) c0
 refine⟨⟨st,λi=>?_,λi=>Paired.bQ (h.tc i) λ_ _ z=>hT _ _ z⟩,(Kp.upd (zU c0)).less (xp c0 c2)⟩
 show Paired _ (fU S.pa k (S.pa k++[t]) i) (fU S.pl k (S.pl k++[q]) i)
 by_cases e:i=k
 . subst e
   rw[aI,aI]
   exact Ze (Paired.bQ (h.tp i) λ_ _ z=>hT _ _ z) (hT _ _ ht)
 . rw[aW e,aW e]
   exact Paired.bQ (h.tp i) λ_ _ z=>hT _ _ z
end
end L2
namespace Gen
open PySem L2 Sat
abbrev rP:Stmt:=inClass (top 7) 3
abbrev rQ:Stmt:=inClass (top 7) 4
section
variable (C CO CP:Addr) (wants:List Int)
inductive Ar(vs:List V) (H:Hp) (Q:VK):Prop
 | mk (ad:Sl->Addr) (S:SS) (held:List (List Int)) (c:List Int) (g g':Nat) (h1:vs=[.ref (ad .self),iV held.length]) (R:Rep C CO CP H ad S) (hh:S.held=held++[c]) (hc:cf S.n c) (W:cG S.n g held S.wl S.pl S.singles) (hg:∀i,i<g'->i<g\/i=held.length) (hb:held.length<=1000000)
  (k:∀(H':Hp) (wl:Nat->List Nat) (pa:Nat->List Addr) (pl:Nat->List (Int×Nat)) (si:List Nat),Go C CO CP H ad S H' ad {S with wl:=wl,pa:=pa,pl:=pl,singles:=si} -> cG S.n g' S.held wl pl si->Q .bb H')
def pI:Sp:=λvs H Q _=>Ar C CO CP vs H Q
end
abbrev E6:List Str:=["self", "number", "clause"]
theorem vg:aG E6 ["self", "number"] (aB rP):=fs
section
variable {P:Program}{w:World}{K:W.Frag}{mg:Str->Option Value}{base:Heap}{C CO CP:Addr}{wants:List Int}
theorem Cb{f:Addr}{fd:FuncData}(F:aM K "watch" "Search.watch" rP f fd)(T:dZ K mg C)(O:Own mg):aD P w K mg base aT 1 f fd ["self", "number"] (pI C CO CP):=by
 refine F.run vg λa6 A outer s H vs Q E hr h=>?_
 obtain⟨ad,S,held,c,g,g',rfl,R,hh,hc,W,hg,hb,k⟩:=h
 refine⟨_,(ae (aQ 2 vg.nd (aF (r:=aZ K) ay (aw (pv 0) rfl) (pv 1) (λ_ _=>rfl)))
  (av (bR (aX (nX (aJ a7 (by rfl) O.len X5 (aa (pv 2) ak)) au))
   (av (aK (cV XD XG XH bz (aw (pv 0) rfl) (aa (pv 1) ak))))
   (av (bR (aX (c7 (aJ a7 (by rfl) O.len X5 (aa (pv 2) ak)) au))
    (ae (aK (cV XD XG XH bz (aF (r:=aZ K) ay (aw (pv 0) rfl) (aF (r:=aZ K) ay (pv 2) au (λ_ _=>rfl)) (λ_ _=>rfl)) (aa (gy (aa (aF (r:=aZ K) ay (pv 2) au (λ_ _=>rfl)) (aa (pv 1) ak))) ak)))
    (av (aK (cV XD XG XH bz (aF (r:=aZ K) ay (aw (pv 0) rfl) (aF (r:=aZ K) ay (pv 2) au (λ_ _=>rfl)) (λ_ _=>rfl)) (aa (gy (aa (aF (r:=aZ K) ay (pv 2) au (λ_ _=>rfl)) (aa (pv 1) ak))) ak)))))
    (ae (aK (cV XD XG XH bz (aF (r:=aZ K) ay (aw (pv 0) rfl) (aF (r:=aZ K) ay (pv 2) au (λ_ _=>rfl)) (λ_ _=>rfl)) (aa (pv 1) ak)))
    (av (aK (cV XD XG XH bz (aF (r:=aZ K) ay (aw (pv 0) rfl) (aF (r:=aZ K) ay (pv 2) au (λ_ _=>rfl)) (λ_ _=>rfl)) (aa (pv 1) ak)))))))))),?_⟩
 have hcl:S.held[held.length]?=some c:=by rw[hh];exact fm
 refine⟨_,rfl,ad .self,_,_,_,_,rfl,Rep.s R,T.cl,T.held,eX,_,rfl,ad .held,_,_,.ref (ad (.cl held.length)),rfl,rfl,ax.of (R.at_ (s:=.held) rfl),bY (aO hcl),?_⟩
 refine⟨_,rfl,ad (.cl held.length),_,rfl,.inl (ax.of (R.eI hcl)),?_⟩
 refine⟨_,_,rfl,rfl,_,rfl,?_⟩
 rw[Xl]
 have sl:∀{m:Nat},m<=held.length->m<sizeLine:=λh=>XT (XS h hb) (by decide)
 by_cases l2:c.length<2
 . refine bX (Xw (by omega)) ?_
   refine⟨_,rfl,ad .self,_,_,_,_,rfl,Rep.s R,T.cl,T.singles,qr,.inl ⟨rfl,_,ax.of (R.at_ (s:=.singles) rfl)⟩,_,rfl,ad .singles,_,_,rfl,rfl,R.at_ (s:=.singles) rfl,?_,?_⟩
   . rw[Xl]
     exact sl (k8 W.sn λj hj=>W.slt hj)
   have g2:=R.Hq (S.singles++[held.length])
   rw[Xx]at g2
   exact k _ S.wl S.pa S.pl _ g2 (by rw[hh];exact W.single hc hg l2)
 refine cc (Xz (by omega)) ?_
 refine⟨_,rfl,ad (.cl held.length),_,rfl,.inl (ax.of (R.eI hcl)),?_⟩
 refine⟨_,_,rfl,rfl,_,rfl,?_⟩
 rw[Xl]
 obtain⟨a,b,r,rfl⟩:∃a b r,c=a::b::r:=by
  match c,l2 with
  | a::b::r,_=>exact⟨a,b,r,rfl⟩
  | [],h=>exact absurd Nat.zero_lt_two h
  | [_],h=>exact absurd Nat.one_lt_two h
 have ao:=hc.ok a XB
 have bo:=hc.ok b (XA _ XB)
 have ia:idx S.n a<2*S.n+1:=kZ ao.2
 have ib:idx S.n b<2*S.n+1:=kZ bo.2
 by_cases l3:r=[]
 . subst l3
   refine bX (Xw rfl) ?_
   refine⟨_,rfl,ad .self,_,_,_,_,rfl,Rep.s R,T.cl,T.pairs,kq,_,rfl,ad (.cl held.length),_,_,.int a,rfl,rfl,ax.of (R.eI hcl),bt (j:=0) rfl,ad .pairs,_,_,.ref (ad (.pl (idx S.n a))),rfl,rfl,ax.of (R.at_ (s:=.pairs) rfl),fE ao.2,.inl ⟨rfl,_,ax.of (R.xr ia)⟩,?_⟩
   refine⟨_,rfl,ad (.cl held.length),_,_,.int b,rfl,rfl,ax.of (R.eI hcl),bt (j:=1) rfl,_,rfl,(by show 2<=sizeLine;decide),λp hp=>?_⟩
   have g1:=(Go.refl R).alloc (o:=.tup [.int b,iV held.length]) hp
   have l1:∀k,(S.pa k).length<=held.length:=λk=>by
    rw[(R.tp k).length]
    have:=k8 (W.pn k) (m:=held.length) λj hj=>by
     obtain⟨q,hq,e⟩:=XJ.mp hj
     rw[← e]
     exact W.NW hq
    rwa[Xl]at this
   refine⟨ad (.pl (idx S.n a)),_,_,rfl,rfl,g1.rep.xr ia,?_,?_⟩
   . rw[Xl]
     exact sl (l1 _)
   have g2:=g1.trans (g1.rep.Ia ia (t:=p) (q:=(b,held.length)) aj)
   rw[Xx]at g2
   refine⟨_,rfl,ad .self,_,_,_,_,rfl,Rep.s g2.rep,T.cl,T.pairs,kq,_,rfl,ad (.cl held.length),_,_,.int b,rfl,rfl,ax.of (g2.rep.eI hcl),bt (j:=1) rfl,ad .pairs,_,_,.ref (ad (.pl (idx S.n b))),rfl,rfl,ax.of (g2.rep.at_ (s:=.pairs) rfl),fE bo.2,.inl ⟨rfl,_,ax.of (g2.rep.xr ib)⟩,?_⟩
   refine⟨_,rfl,ad (.cl held.length),_,_,.int a,rfl,rfl,ax.of (g2.rep.eI hcl),bt (j:=0) rfl,_,rfl,(by show 2<=sizeLine;decide),λp2 Gg=>?_⟩
   have g3:=g2.alloc (o:=.tup [.int a,iV held.length]) Gg
   refine⟨ad (.pl (idx S.n b)),_,_,rfl,rfl,g3.rep.xr ib,?_,?_⟩
   . rw[Xl]
     show (fU S.pa (idx S.n a) (S.pa (idx S.n a)++[p]) (idx S.n b)).length<sizeLine
     unfold fU
     split
     . rw[Xs];exact XT (Nat.add_le_add (XS (l1 _) hb) (Xv 1)) (by decide)
     . exact sl (l1 _)
   have g4:=g3.trans (g3.rep.Ia ib (t:=p2) (q:=(a,held.length)) aj)
   rw[Xx]at g4
   exact k _ S.wl _ _ S.singles g4 (by rw[hh];exact W.pair hc hg)
 . refine cc (Xz λz=>l3 (Yq.mp (by simp only[X0]at z;omega))) ?_
   refine⟨_,rfl,ad .self,_,_,_,_,rfl,Rep.s R,T.cl,T.watches,gw,_,rfl,ad (.cl held.length),_,_,.int a,rfl,rfl,ax.of (R.eI hcl),bt (j:=0) rfl,ad .watches,_,_,.ref (ad (.wl (idx S.n a))),rfl,rfl,ax.of (R.at_ (s:=.watches) rfl),fE ao.2,.inl ⟨rfl,_,ax.of (R.oJ ia)⟩,_,rfl,ad (.wl (idx S.n a)),_,_,rfl,rfl,R.oJ ia,?_,?_⟩
   . rw[Xl]
     exact sl (W.pG _)
   have g2:=R.uO ia (S.wl (idx S.n a)++[held.length])
   rw[Xx]at g2
   refine⟨_,rfl,ad .self,_,_,_,_,rfl,Rep.s g2.rep,T.cl,T.watches,gw,_,rfl,ad (.cl held.length),_,_,.int b,rfl,rfl,ax.of (g2.rep.eI hcl),bt (j:=1) rfl,ad .watches,_,_,.ref (ad (.wl (idx S.n b))),rfl,rfl,ax.of (g2.rep.at_ (s:=.watches) rfl),fE bo.2,.inl ⟨rfl,_,ax.of (g2.rep.oJ ib)⟩,_,rfl,ad (.wl (idx S.n b)),_,_,rfl,rfl,g2.rep.oJ ib,?_,?_⟩
   . rw[Xl]
     show (fU S.wl (idx S.n a) (S.wl (idx S.n a)++[held.length]) (idx S.n b)).length<sizeLine
     unfold fU
     split
     . rw[Xs];exact XT (Nat.add_le_add (XS (W.pG _) hb) (Xv 1)) (by decide)
     . exact sl (W.pG _)
   have g3:=g2.trans (g2.rep.uO ib ((S.ju (idx S.n a) (S.wl (idx S.n a)++[held.length])).wl (idx S.n b)++[held.length]))
   rw[Xx]at g3
   exact k _ _ S.pa S.pl S.singles g3 (by rw[hh];exact W.long hc hg l3)
end
end Gen
namespace L2
open PySem PySem.Spec PyProof.Rows Sat
section
variable {ι:Type} [DecidableEq ι] {H H':Hp}{ad bp:ι->Addr}{c c':ι->Option HO}{s:ι}{o o':HO}{p:Addr}
theorem eG.adopt(h:eG H ad c)(hp:H p=some o)(no:¬ iQ ad c p)(h0:c s=none):eG H (fU ad s p) (fU c s (some o)):=by
 have a1:∀t,t≠s->fU ad s p t=ad t:=λt e=>by unfold fU;rw[XW e]
 have c1:∀t,t≠s->fU c s (some o) t=c t:=λt e=>by unfold fU;rw[XW e]
 have a0:fU ad s p s=p:=by unfold fU;rw[XO rfl]
 have c0:fU c s (some o) s=some o:=by unfold fU;rw[XO rfl]
 refine⟨λt u ht=>?_,λt r u u' ht hr e=>?_⟩
 . by_cases e:t=s
   . subst e
     rw[c0]at ht
     rw[a0,← Xq ht]
     exact hp
   . rw[c1 t e]at ht
     rw[a1 t e]
     exact h.at_ _ _ ht
 . by_cases e1:t=s
   . by_cases e2:r=s
     . rw[e1,e2]
     . rw[c1 r e2]at hr
       rw[e1,a0,a1 r e2]at e
       exact absurd ⟨r,_,hr,e.symm⟩ no
   . by_cases e2:r=s
     . rw[c1 t e1]at ht
       rw[e2,a0,a1 t e1]at e
       exact absurd ⟨t,_,ht,e⟩ no
     . rw[c1 t e1]at ht
       rw[c1 r e2]at hr
       rw[a1 t e1,a1 r e2]at e
       exact h.inj _ _ _ _ ht hr e
theorem eG.set(h:eG H ad c)(hs:c s=some o'):eG (L2.upd H (ad s) o) ad (fU c s (some o)):=h.upd hs (by unfold fU;rw[XO rfl]) λt e=>by unfold fU;rw[XW e]
end
def eE(ad:Sl->Addr)(m:Nat)(cA cd:Addr):Sl->Addr:=fU (fU ad (.cl m) cA) (.ch m) cd
def me(S:SS)(c:List Int)(ca:List Addr) (ch:List (Nat×Int)):SS:={S with held:=S.held++[c],ca:=fU S.ca S.held.length ca,ch:=fU S.ch S.held.length ch}
section
variable {C CO CP:Addr}{H:Hp}{ad:Sl->Addr}{S:SS}{cA cd:Addr}{c:List Int}{ca:List Addr}{ch:List (Nat×Int)}
theorem ly{α:Type}{m:Nat}{f g:Nat->α}{x:α}(h:∀i,i<m->g i=f i)(hx:g m=x):fl m f++[x]=fl (m+1) g:=by
 unfold fl
 rw[List.range_succ,Xx,← hx]
 congr 1
 exact Y8 λi hi=>(h i (YL.mp hi)).symm
theorem Rep.Ib(R:Rep C CO CP H ad S) (hA:H cA=some (.lst (c.map V.int))) (hd:H cd=some (.lst (ca.map V.ref))) (hp:Paired (λt (q:Nat×Int)=>H t=some (.tup [iV q.1,.int q.2])) ca ch)
 (nA:¬ cB C CO CP ad S cA) (nd:¬ cB C CO CP ad S cd) (ne:cA≠cd) (hg:S.g<=S.held.length) :
 ∃H',H'=L2.upd (L2.upd H (ad .held) (.lst (fl S.held.length (λi=>.ref (ad (.cl i)))++[.ref cA]))) (ad .chains) (.dK (fl (S.held.length-S.g) (λi=>(.inl ((S.g+i:Nat):Int),.ref (ad (.ch (S.g+i)))))++[(.inl (S.held.length:Int),.ref cd)]))/\Rep C CO CP H' (eE ad S.held.length cA cd) (me S c ca ch)
  /\ Kp (λb=>cB C CO CP ad S b\/b=cA\/b=cd) H H' (cB C CO CP (eE ad S.held.length cA cd) (me S c ca ch)):=by
 have s1:=R.st.adopt (s:=.cl S.held.length) hA nA (by show (S.held[S.held.length]?).map _=none;rw[X3 (Xv _)];rfl)
 have Tr:¬ iQ (fU ad (.cl S.held.length) cA) (fU (cont C CO CP ad S) (.cl S.held.length) (some (.lst (c.map V.int)))) cd:=by
  rintro⟨t,o,ht,e⟩
  by_cases z:t=.cl S.held.length
  . rw[z]at e
    exact ne (by rw[← e];unfold fU;rw[XO rfl])
  . unfold fU at ht e
    rw[XW z]at ht e
    exact nd ⟨t,o,ht,e⟩
 have s2:=s1.adopt (s:=.ch S.held.length) hd Tr (by show (if S.g<=S.held.length/\S.held.length<S.held.length then _ else none)=none;rw[XW λz=>YU _ z.2])
 have s3:=s2.set (s:=.held) (o:=.lst (fl S.held.length (λi=>.ref (ad (.cl i)))++[.ref cA])) rfl
 have s4:=s3.set (s:=.chains) (o:=.dK (fl (S.held.length-S.g) (λi=>(.inl ((S.g+i:Nat):Int),.ref (ad (.ch (S.g+i)))))++[(.inl (S.held.length:Int),.ref cd)])) rfl
 have acl:∀i,i<S.held.length->eE ad S.held.length cA cd (.cl i)=ad (.cl i):=λi hi=>by
  unfold eE fU
  rw[XW (by intro z;cases z),XW (by intro z;cases z;omega)]
 have Ts:∀i,i<S.held.length->eE ad S.held.length cA cd (.ch i)=ad (.ch i):=λi hi=>by
  unfold eE fU
  rw[XW (by intro z;cases z;omega),XW (by intro z;cases z)]
 have NX:eE ad S.held.length cA cd (.cl S.held.length)=cA:=by
  unfold eE fU
  rw[XW (by intro z;cases z),XO rfl]
 have NY:eE ad S.held.length cA cd (.ch S.held.length)=cd:=by
  unfold eE fU
  rw[XO rfl]
 have e1:fl S.held.length (λi=>V.ref (ad (.cl i)))++[.ref cA]=fl (S.held.length+1) λi=>V.ref (eE ad S.held.length cA cd (.cl i)):=ly (λi hi=>by rw[acl i hi]) (by rw[NX])
 have e2:fl (S.held.length-S.g) (λi=>((.inl ((S.g+i:Nat):Int),.ref (ad (.ch (S.g+i)))):Key×V))++[(.inl (S.held.length:Int),.ref cd)]=fl (S.held.length+1-S.g) λi=>(.inl ((S.g+i:Nat):Int),.ref (eE ad S.held.length cA cd (.ch (S.g+i)))):=by
  rw[show S.held.length+1-S.g=(S.held.length-S.g)+1 by omega]
  exact ly (λi hi=>by rw[Ts _ (by omega)]) (by rw[show S.g+(S.held.length-S.g)=S.held.length by omega,NY])
 rw[e1,e2]at s4 ⊢
 have ce:∀t,cont C CO CP (eE ad S.held.length cA cd) (me S c ca ch) t=fU (fU (fU (fU (cont C CO CP ad S) (.cl S.held.length) (some (.lst (c.map V.int)))) (.ch S.held.length) (some (.lst (ca.map V.ref)))) .held (some (.lst (fl (S.held.length+1) λi=>V.ref (eE ad S.held.length cA cd (.cl i)))))) .chains (some (.dK (fl (S.held.length+1-S.g) λi=>(.inl ((S.g+i:Nat):Int),.ref (eE ad S.held.length cA cd (.ch (S.g+i))))))) t:=by
  intro t
  cases t with
  | cl i=>
   show ((S.held++[c])[i]?).map _=fU (cont C CO CP ad S) (.cl S.held.length) (some (.lst (c.map V.int))) (.cl i)
   by_cases z:i=S.held.length
   . subst z
     rw[fm]
     unfold fU
     rw[XO rfl]
     rfl
   . unfold fU
     rw[XW (λe=>z (Sl.cl.inj e))]
     show _=(S.held[i]?).map _
     rcases ZS z with y|y
     . rw[X8 y]
     . rw[X3 (by rw[Xs];exact y),X3 (X7 y)]
  | ch i=>
   show (if S.g<=i/\i<(S.held++[c]).length then some (HO.lst ((fU S.ca S.held.length ca i).map V.ref)) else none)=fU (cont C CO CP ad S) (.ch S.held.length) (some (.lst (ca.map V.ref))) (.ch i)
   rw[Xs]
   unfold fU
   by_cases z:i=S.held.length
   . subst z
     rw[XO rfl,XO rfl,XO ⟨hg,YE _⟩]
   . rw[XW z,XW (λe=>z (Sl.ch.inj e))]
     show _=if S.g<=i/\i<S.held.length then _ else none
     by_cases y:S.g<=i/\i<S.held.length
     . rw[XO y,XO ⟨y.1,Zh y.2⟩]
     . rw[XW y,XW λq=>y ⟨q.1,by have:i<S.held.length+1:=q.2;omega⟩]
  | held=>
   show some (HO.lst (fl (S.held++[c]).length _))=_
   rw[Xs]
   rfl
  | chains=>
   show some (HO.dK (fl ((S.held++[c]).length-S.g) _))=_
   rw[Xs]
   rfl
  | _=>rfl
 have tu:HT H (L2.upd (L2.upd H (ad .held) (.lst (fl (S.held.length+1) λi=>V.ref (eE ad S.held.length cA cd (.cl i))))) (ad .chains) (.dK (fl (S.held.length+1-S.g) λi=>(.inl ((S.g+i:Nat):Int),.ref (eE ad S.held.length cA cd (.ch (S.g+i))))))):=by
  have n:ad .chains≠ad .held:=λe=>by have:=R.st.inj .chains .held _ _ rfl rfl e;cases this
  exact(HT.upd (R.at_ (s:=.held) rfl) (by intro xs z;cases z)).trans (HT.upd (by rw[ag n];exact R.at_ (s:=.chains) rfl) (by intro xs z;cases z))
 refine⟨_,rfl,⟨by rw[funext ce];exact s4,λi=>Paired.bQ (R.tp i) λ_ _ h=>tu _ _ h,λi=>?_⟩,λb u hb ho=>?_,λb hb=>.inl ?_⟩
 . show Paired _ (fU S.ca S.held.length ca i) (fU S.ch S.held.length ch i)
   unfold fU
   by_cases z:i=S.held.length
   . rw[XO z,XO z]
     exact Paired.bQ hp λ_ _ h=>tu _ _ h
   . rw[XW z,XW z]
     exact Paired.bQ (R.tc i) λ_ _ h=>tu _ _ h
 . rw[ag λe=>ho (.inl ⟨.chains,_,rfl,e.symm⟩),ag λe=>ho (.inl ⟨.held,_,rfl,e.symm⟩)]
   exact hb
 . obtain⟨t,o,ht,e⟩:=hb
   by_cases z1:t=.cl S.held.length
   . rw[z1,NX]at e;exact .inr (.inl e.symm)
   by_cases z2:t=.ch S.held.length
   . rw[z2,NY]at e;exact .inr (.inr e.symm)
   have ea:eE ad S.held.length cA cd t=ad t:=by
    unfold eE fU
    rw[XW z2,XW z1]
   rw[ea]at e
   by_cases z3:t=.held
   . subst z3;exact .inl ⟨.held,_,rfl,e⟩
   by_cases z4:t=.chains
   . subst z4;exact .inl ⟨.chains,_,rfl,e⟩
   rw[ce]at ht
   unfold fU at ht
   rw[XW z4,XW z3,XW z2,XW z1]at ht
   exact .inl ⟨t,o,ht,e⟩
end
theorem kJ{i:Nat}{x:V}{σ:St}{H:Hp}{A B:St->Hp->Prop}(h:A (σ.set i (some x)) H):ee i x σ H (λgr H2=>lS gr H2 (λb H3=>if b=true then A gr H3 else B gr H3)):=by
 show (if true=true then A (σ.set i (some x)) H else B (σ.set i (some x)) H)
 rw[XO rfl]
 exact h
theorem lA{K:W.Frag}{D a:Addr}{xs ys:List V}{te:TE}{cap:St}{Q:Hp->Prop}{H:Hp}(hl:ys.length=xs.length) (he:∀(i:Nat) (x y:V) (Hx:Hp) (R:VK),xs[i]?=some x->ys[i]?=some y->aC H Hx->R y Hx->te (some x::cap) Hx R) (hD:H D=none) (ha:H a=some (.lst xs)) (hs:xs.length<=sizeLine)
 (fin:∀H',aC H H'->H' D=some (.lst ys)->Q H'):∃W:Nat->Nat->St->Hp->Prop,(∃m,W 0 m (none::cap) (upd H D (.lst [])))/\nB D (ee 0) lS te (pV K a) W Q:=by
 have nw:∀{H9:Hp}{o:HO},aC H H9->aC H (upd H9 D o):=λs9 c o hc=>by rw[ag (aq hc hD)];exact s9 c o hc
 refine lU xs.length (λi acc σ H9=>acc=ys.take i/\(∃u,σ=u::cap)/\aC H H9) ⟨rfl,⟨none,rfl⟩,nw λ_ _ h=>h⟩ aj ?_ ?_
 . rintro acc σ H9 dq ⟨rfl,_,s9⟩
   rw[← hl,XU]at dq
   exact⟨⟨_,ax.of (s9 _ _ ha),Xv _⟩,fin H9 s9 dq⟩
 . rintro i acc σ H9 hi dq ⟨rfl,⟨u,rfl⟩,s9⟩
   have e1:xs[i]?=some xs[i]:=Xo hi
   have e2:ys[i]?=some (ys[i]'(by omega)):=Xo (by omega)
   refine⟨⟨_,_,ax.of (s9 _ _ ha),e1⟩,?_⟩
   rintro x H' ⟨rfl,w1⟩
   have z1:=w1 _ (ax.of (s9 _ _ ha))
   rw[e1]at z1
   cases z1
   refine kJ ?_
   refine he i _ _ _ _ e1 e2 s9 ⟨_,dq,?_,gv hi aj ⟨?_,⟨_,rfl⟩,nw s9⟩⟩
   . rw[XY]
     omega
   . rw[Yg,e2,YW]
end L2
namespace L2
open PySem PySem.Spec PyProof.Rows
section
variable {X:Cx}
theorem tI:ir X (.builtin "len") (λxs H Q=>∃p S n,xs=[.ref p]/\H p=some (.set S n)/\Q (.int (n:Nat)) H):=by
 intro pins s σ H xs us Q I r h
 obtain⟨p,S,n,rfl,hp,q⟩:=h
 obtain⟨u,rfl,rx⟩:=vals1 r
 cases(show u=Value.ref p from rx)
 obtain⟨o,es,ep,t,g,ex,dt,_,_,hb,hf,hn⟩:=(show s.heap.SetOf (intKind X.prog X.w) p S n from I.hok p _ hp)
 refine call_len_set g ex dt hf (Int.lt_trans (by have:es.size<4096:=hb;omega:(es.size:Int)<4096) (by decide)) ⟨.int (n:Nat),H,I.tok _,⟨_,by rw[hn]⟩,q⟩
end
end L2
namespace PySem
section
variable {prog:Program}{w:World}{A:Around}{E:Value->Shared->Prop}{s:Shared}
end
end PySem
namespace L2
open PySem PySem.Spec PyProof.Rows
section
variable {X:Cx}
end
end L2
namespace L2
open PySem PySem.Spec PyProof.Rows PySem.W
theorem intsOf:∀{ns:List Int}{us:List Value},Vals (ns.map V.int) us->IntsAre us ns
 | [],_,.nil=>.nil
 | n::ns,_,.cons r t=>by
  obtain⟨k,rfl⟩:=(show ∃k,_=Value.int n k from r)
  exact .cons _ _ (intsOf t)
theorem As:∀{us:List Value}{ns:List Int},IntsAre us ns->Vals (ns.map V.int) us
 | _,_,.nil=>.nil
 | _,_,.cons _ _ t=>.cons ⟨_,rfl⟩ (As t)
section
variable {prog:Program}{w:World}{A:Around}{E:Value->Shared->Prop}{s:Shared}{a kS:Addr}{b:Bool}{vs:List Value}{kz:List Int}{keys:Array Value}{e e1:Nat}{P:PySem.Fin->Shared->Prop}
theorem xF{st:SortSt}(nk:s.heap.get? kS=some (seqObj "list" keys e)) (na:s.heap.get? a=some (seqObj "list" #[] e1)) (nL:kS≠a)
 (hk:IntsAre keys.toList kz) (hlen:kz.length=vs.length) (mv:vs.length<64) (hp:(arrOf st).Perm (keys.zip vs.toArray)) (hs:SortedTo (arrOf st) (arrOf st).size) (Tt:failedOf st=none)
 (h:∀h' tk out c,(∀b o,b≠a->b≠kS->s.heap.get? b=some o->h'.get? b=some o)->h'.get? a=some (seqObj "list" out c)->KskOut b kz vs out.toList->P (.done (.ret .none)) {s with heap:=h',toks:=tk}) :
 wpAny (model prog w) A (ksk_tail a b e1 (.ref kS) st) P E s:=by
 have hsz:keys.size=vs.length:=by
  have h1:=hk.length
  rw[YO]at h1
  omega
 have Ic:(arrOf st).size=vs.length:=by rw[hp.size_eq,Array.size_zip,hsz,XN,aaW]
 have Cc:(if b then ((arrOf st).map (·.2)).reverse else (arrOf st).map (·.2)).size=vs.length:=by
  cases b with
  | false=>simp only[Zq,aau,Array.size_map];exact Ic
  | true=>simp only[aaC,Array.size_reverse,Array.size_map];exact Ic
 have s1:=Zn s.heap kS (Obj.mapSeq λ_=>(#[]:Array Value))
 have xw:(s.heap.update kS (Obj.mapSeq λ_=>(#[]:Array Value))).get? a=some (seqObj "list" #[] e1):=(s1.2 a nL.symm).trans na
 have s2:=Zn (s.heap.update kS (Obj.mapSeq λ_=>(#[]:Array Value))) a (Obj.mapSeq λ_=>if b then ((arrOf st).map (·.2)).reverse else (arrOf st).map (·.2))
 obtain⟨c2,An⟩:∃c2,((s.heap.update kS (Obj.mapSeq λ_=>(#[]:Array Value))).update a (Obj.mapSeq λ_=>if b then ((arrOf st).map (·.2)).reverse else (arrOf st).map (·.2))).get? a=some (seqObj "list" (if b then ((arrOf st).map (·.2)).reverse else (arrOf st).map (·.2)) c2):=
  ⟨_,get?_update_seq xw λ_=>if b then ((arrOf st).map (·.2)).reverse else (arrOf st).map (·.2)⟩
 unfold ksk_tail
 try dsimp only
 refine Xy (Z9 nk rfl ?_ (by rw[hsz,YX];omega) (Yi _))
 refine Xy (wpAny_letGo ?_)
 refine Xy (seqEpoch_at xw rfl ?_)
 refine Xy (Z9 xw rfl ?_ (Yi _) (XS (Zb Cc) (by rw[YX];omega)))
 rw[Tt]
 simp only[bne_self_eq_false,Zq,aau]
 exact X1 (h _ _ _ c2 (λb' o h1 h2 ho=>(s2.2 b' h1).trans ((s1.2 b' h2).trans ho)) An (ksk_out hk hp hs))
theorem Ie(nk:s.heap.get? kS=some (seqObj "list" keys e)) (na:s.heap.get? a=some (seqObj "list" #[] e1)) (nL:kS≠a) (hk:IntsAre keys.toList kz) (hlen:kz.length=vs.length) (mv:vs.length<64)
 (h:∀h' tk out c,(∀b o,b≠a->b≠kS->s.heap.get? b=some o->h'.get? b=some o)->h'.get? a=some (seqObj "list" out c)->KskOut b kz vs out.toList->P (.done (.ret .none)) {s with heap:=h',toks:=tk}) :
 wpAny (model prog w) A (ksk_end a b vs.toArray e1 (.ref kS) keys) P E s:=by
 have hsz:keys.size=vs.length:=by
  have h1:=hk.length
  rw[YO]at h1
  omega
 have Ig:(keys.zip vs.toArray).size=vs.length:=by rw[Array.size_zip,hsz,XN,aaW]
 have step:∀t:Sem PySem.Fin,wpAny (model prog w) A t P E s->wpAny (model prog w) A (if b=true then (do let _ ← rule "list.sort.reverse"; t) else t) P E s:=by
  intro t ht
  split
  . exact Xy (aaT ht)
  . exact ht
 have vh:(if b=true then (keys.zip vs.toArray).reverse else keys.zip vs.toArray).Perm (keys.zip vs.toArray):=by
  cases b with
  | false=>exact Array.Perm.refl _
  | true=>exact Array.perm_iff_toList_perm.mpr (by rw[XO rfl,Array.toList_reverse];exact List.reverse_perm _)
 unfold ksk_end
 try dsimp only
 refine step _ ?_
 by_cases h2:vs.toArray.size<2
 . rw[XO h2,XO h2]
   refine Xy (X1 ?_)
   rw[StateT.run_pure]
   refine Xy (X1 ?_)
   try dsimp only
   refine xF (st:=SortSt.mk' general' (if b=true then (keys.zip vs.toArray).reverse else keys.zip vs.toArray) #[] 7 none) nk na nL hk hlen mv vh ?_ rfl h
   intro i j W7 hj
   have Tu:j<(if b=true then (keys.zip vs.toArray).reverse else keys.zip vs.toArray).size:=hj
   rw[vh.size_eq,Ig]at Tu
   rw[XN]at h2
   have:i=j:=by omega
   subst this
   exact Int.le_refl _
 . rw[XW h2,XW h2]
   rw[XN]at h2
   rw[ksk_kind hk (by rw[hsz];omega)]
   refine Xy (X1 ?_)
   refine Xy (YG (wpS_sortRuns (a₀:=keys.zip vs.toArray) (st:=SortSt.mk' oneType' (if b=true then (keys.zip vs.toArray).reverse else keys.zip vs.toArray) #[] 7 none)
    (Q:=λ_ jN=>(arrOf jN).Perm (keys.zip vs.toArray)/\failedOf jN=none/\SortedTo (arrOf jN) (keys.zip vs.toArray).size)
    (ksk_intKeys hk) ⟨vh,rfl,rfl,rfl⟩ (by rw[Ig];omega) (by rw[Ig];exact mv) λjN a1 a2 a3=>⟨a1,a2,a3⟩) ?_ λ_ _ e=>e)
   rintro⟨⟨⟩,jN⟩ s' ⟨rfl,hp,hf,hs⟩
   try dsimp only
   exact xF nk na nL hk hlen mv hp (by rw[hp.size_eq];exact hs) hf h
theorem E7{f:Value}{G:Shared->Prop}(nk:s.heap.get? kS=some (seqObj "list" #[] 0)) (na:s.heap.get? a=some (seqObj "list" #[] e1)) (nL:kS≠a) (hlen:kz.length=vs.length) (mv:vs.length<64) (hG:G s)
 (turn:∀(i:Nat) (v:Value) (k:Int),vs[i]?=some v->kz[i]?=some k->∀(s':Shared) (ok oa:Obj),G s'->s'.heap.get? kS=some ok->(∀u,ok.data≠.cell u)->s'.heap.get? a=some oa->(∀u,oa.data≠.cell u)->
  wpAny (model prog w) A (call f [v]) (λr kD=>(∃t,r=.int k t)/\G kD/\kD.heap.get? kS=some ok/\kD.heap.get? a=some oa) (λ_ _=>False) s')
 (QH:∀(s':Shared) (h':Heap),G s'->(∀b o,b≠kS->s'.heap.get? b=some o->h'.get? b=some o)->G {s' with heap:=h'})
 (h:∀s2 h' tk out c,G s2->(∀b o,b≠a->b≠kS->s2.heap.get? b=some o->h'.get? b=some o)->h'.get? a=some (seqObj "list" out c)->KskOut b kz vs out.toList->P (.done (.ret .none)) {s2 with heap:=h',toks:=tk}) :
 wpAny (model prog w) A (ksk_rest a f b vs.toArray e1 (.ref kS)) P E s:=by
 unfold ksk_rest
 refine Xy (aaT ?_)
 first
  | rw[List.forIn_toArray]
  | (rw[← aaO];simp only[List.toList_toArray])
  | rw[← aaO]
 refine Xy (ksk_fold (λi s'=>∃kA e,G s'/\s'.heap.get? kS=some (seqObj "list" kA e)/\s'.heap.get? a=some (seqObj "list" #[] e1)/\IntsAre kA.toList (kz.take i)) vs 0 s
  ⟨#[],0,hG,nk,na,by simpa using IntsAre.nil⟩ ?step ?done)
 case step=>
  rintro j x s' hx ⟨kA,e,Ih,DO,Ii,hk⟩
  simp only[aaX]at hk ⊢
  have hj:j<vs.length:=(Xr.mp hx).1
  obtain⟨k,NZ⟩:∃k,kz[j]?=some k:=⟨_,Xo (by omega)⟩
  have hz:kA.size<=vs.length:=by
   have h1:=hk.length
   rw[YO,XY]at h1
   omega
  refine Xy (wpAny_attempt (YG (turn j x k hx NZ s' _ _ Ih DO (λu z=>by cases z) Ii (λu z=>by cases z)) (λv kD he=>?_) λ_ _ hF=>hF.elim))
  obtain⟨⟨t2,rfl⟩,N0,N3,Tv⟩:=he
  try dsimp only
  have s1:=Zn kD.heap kS (Obj.mapSeq (·.push (.int k t2)))
  obtain⟨c2,An⟩:∃c2,(kD.heap.update kS (Obj.mapSeq (·.push (.int k t2)))).get? kS=some (seqObj "list" (kA.push (.int k t2)) c2):=⟨_,get?_update_seq N3 (·.push (.int k t2))⟩
  have ek:kz.take (j+1)=kz.take j++[k]:=by rw[List.take_add_one,NZ];simp
  have ea:(kA.push (Value.int k t2)).toList=kA.toList++[Value.int k t2]:=by simp
  refine Xy (Z9 N3 rfl ?_ (by rw[YX];omega) (XS (Zb (Array.size_push ..)) (by rw[YX];omega)))
  exact X1 ⟨rfl,kA.push (.int k t2),c2,QH _ _ N0 λb o hb ho=>(s1.2 b hb).trans ho,An,(s1.2 a nL.symm).trans Tv,by rw[ea,ek];exact ksk_snoc hk⟩
 case done=>
  rintro s' ⟨kA,e,Ih,DO,Ii,hk⟩
  have kX:IntsAre kA.toList kz:=by
   have e3:kz.take (0+vs.length)=kz:=aae (by omega)
   rw[e3]at hk
   exact hk
  try dsimp only
  refine Xy (listItems_at DO rfl ?_)
  exact Ie DO Ii nL kX hlen mv λh3 Tw out c k3 n3 o3=>h s' h3 Tw out c Ih k3 n3 o3
end
section
variable {X:Cx}{pins:List (Addr×Obj)}{σ:St}{H:Hp}{s:Shared}{k:Nat}{q x g C:Addr}{fd:FuncData}{ps:List Str}{sp:Sp}
theorem yK{A:Around}{u:Value}{v:V}{Q:VK}(I:Inv X pins σ H s) (hq:s.heap.get? q=some (methodObj (.ref g) (.ref x))) (F:aD X.prog X.w X.K X.mg X.base aT k g fd ps sp) (hr:bx k A) (he:ki X.prog X.w X.K X.mg X.base A X.stack s H) (hb:Binds X.K fd ps []) (rv:RelV v u) (h:sp [.ref x,v] H Q E0) :
 wpAny (model X.prog X.w) A (call (.ref q) [u]) (EP X pins σ Q) (λ_ _=>False) s:=by
 have r2:Vals [V.ref x,v] [Value.ref x,u]:=.cons rfl (.cons rv .nil)
 have hl:([Value.ref x,u]++[]).length=ps.length:=by rw[Yl,← r2.length];exact F.len _ _ _ _ h
 have uv:=hb s [Value.ref x,u] I.jo hl
 rw[Yl]at uv
 refine aaS (method_call hq (ZR (F.run A X.stack s H ⟨[Value.ref x,u],[]⟩ [Value.ref x,u] [V.ref x,v] Q E0 hr he uv r2 h) λr s' kU=>?_))
 cases r with
 | error e=>exact kU.elim
 | ok fl=>
  cases fl with
  | ret u'=>exact I.after kU
  | next=>exact False.elim kU
  | brk=>exact False.elim kU
  | cont=>exact False.elim kU
end
structure xG(K:W.Frag) (g:Addr) (m:Str):Prop where
 get:W.specialIn K (.ref g) "__get__" = some (some (.builtin "function.__get__"))
 takes:W.takesIn K (.ref g)=some false
 cp:W.copiedNames.contains m=false
section
variable {X:Cx}{pins:List (Addr×Obj)}{σ:St}{H:Hp}{s:Shared}{k:Nat}{q x g C l dx:Addr}{fd:FuncData}{ps:List Str}{sp:Sp}{fs:List (Str×V)}{m:Str}
theorem wH{A:Around}{E:Value->Shared->Prop}{Q:Value->Shared->Prop}(I:Inv X pins σ H s) (e:H x=some (.ins C dx fs)) (c:iB X.K C) (km:Meth X.K C m g) (b:xG X.K g m) (hl:fs.lookup m=none)
 (h:Q (.ref s.heap.objs.size) {s with heap:=s.heap.push (W.methodObj (.ref g) (.ref x)),toks:=s.toks+1}):wpAny (model X.prog X.w) A (getAttr (.ref x) m true) Q E s:=by
 obtain⟨mA,O,r,_,_,_⟩:=nZ I.hok e
 have hn:mA m=none:=gZ.none_of (by rw[← hl];exact r m)
 obtain⟨od,J,Tx⟩:=O.look
 exact W.get_bind I.jo J (ZI (c.get m)).1 (W.findObj_fn c.hd km.at_ b.get b.takes b.cp (by rw[Tx,hn])) (ZI (c.get m)).2
  (aaS (W.fn_get (s:={s with toks:=s.toks+1}) I.jo (ZL.mp km.fn) (W.handed_on rfl h)))
theorem Au{vs out:List Value}{ns:List Int}(h:IntsAre vs ns)(p:out.Perm vs):∃ms:List Int,ms.Perm ns/\Vals (ms.map V.int) out:=by
 have key:∀{l:List Value},(∀u∈l,∃i t,u=Value.int i t)->Vals ((l.map numOf).map V.int) l:=λ{l} hl=>by
  induction l with
  | nil=>exact .nil
  | cons u l ih=>
   obtain⟨i,t,rfl⟩:=hl u XB
   exact .cons ⟨t,rfl⟩ (ih λv hv=>hl v (XA _ hv))
 have all:∀{vs:List Value}{ns:List Int},IntsAre vs ns->∀u∈vs,∃i t,u=Value.int i t:=λ{vs ns} h=>by
  induction h with
  | nil=>intro u hu;cases hu
  | cons i t _ ih=>
   intro u hu
   rcases XI.mp hu with e|e
   . exact⟨i,t,e⟩
   . exact ih u e
 refine⟨out.map numOf,?_,key λu hu=>all h u (p.mem_iff.mp hu)⟩
 rw[← h.nums]
 exact p.map _
theorem Inv.adopt{t':Nat}{fp:List Addr}{a:Addr}{xs:List V}{its:List Value}{n:Nat}{h':Heap}(I:Inv X pins σ H s)(hf:∀b∈fp,hJ X pins H b)(ha:a∈fp)(k:∀b o,b∉fp->s.heap.get? b=some o->h'.get? b=some o)
 (ho:h'.get? a=some {cls:=.type "list",data:=.seq its.toArray n}) (rv:Vals xs its) (hz:xs.length<=sizeLine):Inv X pins σ (upd H a (.lst xs)) {s with heap:=h',toks:=t'}:=by
 have sJ:∀b u,H b=some u->b∉fp:=λb u e z=>by rw[(hf b z).1]at e;cases e
 have GV:H a=none:=(hf a ha).1
 have neT:∀b u,H b=some u->b≠a:=λb u e z=>by rw[z,GV]at e;cases e
 refine I.step (g':=s.gens) (d':=s.drawn) (ch:=fp) (λb hb=>⟨(hf b hb).2.2.2.1,(hf b hb).2.1,(hf b hb).2.2.2.2.1,(hf b hb).2.2.2.2.2⟩) (λb o _ _ hc e _=>k b o hc e) (λb o _ _ hc e _=>⟨o.slots,k b o hc e⟩)
  (λb o hc e n=>by
   have ne:b≠a:=λz=>hc (z ▸ ha)
   rw[ag ne];exact n) (λb o hc e=>⟨o,k b o hc e⟩) (λb ys e=>by rw[ag (neT b _ e)];exact e) (λb o u e=>by rw[ag (neT b _ e)];exact e)
  (λb ps e=>⟨#[],by rw[ag (neT b _ e),e];simp⟩) (λm hm=>?_) (λb u e=>?_) I.bare
 . obtain⟨o,es,ep,ho,r⟩:=hm
   exact⟨o,es,ep,k _ o (λz=>(hf _ z).2.1 rfl) ho,r⟩
 . by_cases hb:b=a
   . subst hb
     rw[aj]at e
     cases e
     exact⟨hz,its,n,rv,ho⟩
   . rw[ag hb]at e
     exact(I.hok b u e).i7 (λc v hc q=>k c v (λz=>by
      rcases hc with hc|hc
      . exact sJ b u e (hc ▸ z)
      . exact sJ c _ hc z) q) (λc q=>by rw[ag (neT c _ q)];exact q) λc ys q=>by rw[ag (neT c _ q)];exact q
theorem yL{ns:List Int}{kf:Int->Int}{Q:VK}{E:Value->Shared->Prop}(I:Inv X pins σ H s) (hp:ax X.K H l (ns.map V.int)) (mv:ns.length<64) (Tz:H q=some (.met g x))
 (F:aD X.prog X.w X.K X.mg X.base aT k g fd ps sp) (hr:bx (k+2) X.A) (hb:Binds X.K fd ps []) (j2:∀v∈ns,sp [.ref x,.int v] H (λr H'=>H'=H/\r=.int (kf v)) E0)
 (h:∀(D:Addr) (ms:List Int),H D=none->ms.Perm ns->Q (.ref D) (upd H D (.lst (ms.map V.int)))) :
 wpAny (model X.prog X.w) X.A (call (.builtin "sorted") [.ref l] [(Str.ofString "key",.ref q)]) (EP X pins σ Q) E s:=by
 have met:∀{s':Shared},Inv X pins σ H s'->s'.heap.get? q=some (methodObj (.ref g) (.ref x)):=λI'=>I'.hok q _ Tz
 have hq:=met I
 obtain⟨vs,rv,pl,hz⟩:=I.list hp
 have hi:=intsOf rv
 have hl:s.heap.IsList l vs.toArray:=pl.isList
 have TB:vs.length<64:=by have:=hi.length;omega
 have hlen:(ns.map kf).length=vs.length:=by rw[Xl];exact hi.length.symm
 refine call_function_entry_kw kind_sorted plain_sorted entry_sorted (ksk_s1 _ _) ?_
 unfold Builtin.«sorted»
 refine Xy (m:=checkCount "sorted" 1 1 _) (X1 ?_)
 refine Xy (collect_list hl ?_ (by rw[YX];omega))
 refine Xy (wpAny_newList ?_ (by rw[YX];omega))
 have hsz:((s.heap.push (seqObj "list" #[] 0)).update s.heap.objs.size (Obj.mapSeq (· ++ vs.toArray))).objs.size=s.heap.objs.size+1:=by
  rw[Heap.size_update,size_push']
 have sq:(((s.heap.push (seqObj "list" #[] 0)).update s.heap.objs.size (Obj.mapSeq (· ++ vs.toArray))).push (seqObj "list" vs.toArray 0)).get? (s.heap.objs.size+1)=some (seqObj "list" vs.toArray 0):=by
  rw[← hsz];exact Yd _ rfl
 have keep:∀b o,s.heap.get? b=some o->(((s.heap.push (seqObj "list" #[] 0)).update s.heap.objs.size (Obj.mapSeq (· ++ vs.toArray))).push (seqObj "list" vs.toArray 0)).get? b=some o:=λb o q=>by
  have eF:b<s.heap.objs.size:=XR q
  rw[Heap.get?_push_ne _ _ _ (by rw[hsz];exact XZ (Zh eF)),Heap.get?_update_ne _ _ _ _ (XZ eF),Heap.get?_push_ne _ _ _ (XZ eF)]
  exact q
 show wpAny _ _ _ _ _ {s with heap:=((s.heap.push (seqObj "list" #[] 0)).update s.heap.objs.size (Obj.mapSeq (· ++ vs.toArray))).push (seqObj "list" vs.toArray 0)}
 rw[hsz]
 generalize hG:((s.heap.push (seqObj "list" #[] 0)).update s.heap.objs.size (Obj.mapSeq (· ++ vs.toArray))).push (seqObj "list" vs.toArray 0)=h1 at sq keep ⊢
 have I1:Inv X pins σ H {s with heap:=h1}:=I.kept (t':=s.toks) keep
 have fa:hJ X pins H (s.heap.objs.size+1):=I.o6 (YY _) (I.hok.fresh (YY _))
 have W8:s.heap.objs.size+1<h1.objs.size:=XR sq
 refine Xy (YV (wpAny_call_entry_kw slot_list_sort ⟨_,sq,rfl⟩ entry_list_sort ?body (ksk_l1 _ _)))
 show wpAny (model X.prog X.w) X.A.in1.in1 (Builtin.«list.sort» ⟨[.ref (s.heap.objs.size+1)],[(Str.ofString "key",.ref q)]⟩) _ _ _
 rw[ksk_t1]
 have s1:=Zn h1 (s.heap.objs.size+1) (Obj.mapSeq λ_=>(#[]:Array Value))
 obtain⟨e1,oP⟩:∃e1,(h1.update (s.heap.objs.size+1) (Obj.mapSeq λ_=>(#[]:Array Value))).get? (s.heap.objs.size+1)=some (seqObj "list" #[] e1):=⟨_,get?_update_seq sq λ_=>#[]⟩
 unfold ksk_tree
 refine Xy (listItems_at sq rfl ?_)
 refine Xy (Z9 sq rfl ?_ (by rw[XN,YX];omega) (Yi _))
 refine Xy (seqEpoch_at oP rfl ?_)
 refine Xy (wpAny_newTuple ?_ (by show vs.length<=_;rw[YX];omega))
 refine Xy (wpAny_newList ?_ (Yi _))
 refine YV ?_
 obtain⟨f0,f1,f2,f3,f4,f5⟩:=fa
 have I2:Inv X pins σ H { ({s with heap:=h1} : Shared) with heap:=h1.update (s.heap.objs.size+1) (Obj.mapSeq λ_=>(#[]:Array Value)),toks:=s.toks}:=I1.turned (t':=s.toks) (it:=s.heap.objs.size+1) (λb o hb e=>(s1.2 b hb).trans e) f0 f1 f3 f4 f5
 generalize N0:h1.update (s.heap.objs.size+1) (Obj.mapSeq λ_=>(#[]:Array Value))=h2 at oP I2 s1 ⊢
 have I3:Inv X pins σ H {s with heap:=h2.push (seqObj "tuple" vs.toArray 0)}:=I2.kept (t':=s.toks) λb o e=>XC _ e
 have I4:Inv X pins σ H {s with heap:=(h2.push (seqObj "tuple" vs.toArray 0)).push (seqObj "list" #[] 0)}:=I3.kept (t':=s.toks) λb o e=>XC _ e
 have TC:(h2.push (seqObj "tuple" vs.toArray 0)).objs.size=h2.objs.size+1:=size_push' _ _
 have fk:hJ X pins H (h2.push (seqObj "tuple" vs.toArray 0)).objs.size:=I3.o6 (Xv _) (I3.hok.fresh (Xv _))
 have zT:s.heap.objs.size+1<h2.objs.size:=XR oP
 have nL:(h2.push (seqObj "tuple" vs.toArray 0)).objs.size≠s.heap.objs.size+1:=by rw[TC];omega
 have N4:((h2.push (seqObj "tuple" vs.toArray 0)).push (seqObj "list" #[] 0)).get? (h2.push (seqObj "tuple" vs.toArray 0)).objs.size=some (seqObj "list" #[] 0):=Yd _ rfl
 have N5:((h2.push (seqObj "tuple" vs.toArray 0)).push (seqObj "list" #[] 0)).get? (s.heap.objs.size+1)=some (seqObj "list" #[] e1):=XC _ (XC _ oP)
 generalize (h2.push (seqObj "tuple" vs.toArray 0)).objs.size=kS at fk nL N4 ⊢
 generalize s.heap.objs.size+1=a at f0 f1 f2 f3 f4 f5 nL N5 ⊢
 refine E7 (s:={s with heap:=(h2.push (seqObj "tuple" vs.toArray 0)).push (seqObj "list" #[] 0)}) (kz:=ns.map kf) (b:=false) (G:=λs'=>Inv X pins σ H s') N4 N5 nL hlen TB I4 ?turn ?set ?fin
 case turn=>
  rintro i v kk hv hk s' ok oa I' Ij hok jW TF
  have kU:=met I'
  obtain⟨n,hn,rfl⟩:∃n,ns[i]?=some n/\kk=kf n:=by
   rw[Xt]at hk
   cases e:ns[i]? with
   | none=>rw[e]at hk;cases hk
   | some n=>rw[e]at hk;exact⟨n,rfl,(Xq hk).symm⟩
  have rn:RelV (.int n) v:=by
   obtain⟨u,hu,r⟩:=rv.get (i:=i) (x:=.int n) (by rw[Xt,hn];rfl)
   rw[hv]at hu
   cases hu
   exact r
  have hf:∀b∈[kS,a],hJ X pins H b:=λb hb=>by
   rcases XI.mp hb with e|hb
   . rw[e];exact fk
   . rw[Xm.mp hb];exact⟨f0,f1,f2,f3,f4,f5⟩
  have ho:∀b∈[kS,a],∃o,s'.heap.get? b=some o/\∀v,o.data≠.cell v:=λb hb=>by
   rcases XI.mp hb with e|hb
   . rw[e];exact⟨_,Ij,hok⟩
   . rw[Xm.mp hb];exact⟨_,jW,TF⟩
  have I5:=I'.pinned hf ho
  refine YG (yK I5 kU F hr.in1.in1 I5.BA.in1.in1 hb rn (j2 n (Xn hn))) (λr kD he=>?_) λ_ _ z=>z
  obtain⟨v',H',I6,r',rfl,rfl⟩:=he
  have pin:∀b o,b∈[kS,a]->s'.heap.get? b=some o->kD.heap.get? b=some o:=λb o hb e=>(I6.pin (b,o) (Xu _ (Xu _ (jb hb e)))).1
  exact⟨r',I6.kh,pin _ _ (by simp) Ij,pin _ _ (by simp) jW⟩
 case set=>
  rintro s' h' I' kX
  obtain⟨k0,k1,k2,k3,k4,k5⟩:=fk
  exact I'.turned (t':=s'.toks) (it:=kS) kX k0 k1 k3 k4 k5
 case fin=>
  rintro s2 h' tk out c I' kX Cc ⟨W9,MV,qz,_⟩
  have op:out.toList.Perm vs:=by
   rw[qz]
   have:=MV.map Prod.snd
   rwa[List.map_snd_zip (by rw[hlen];exact Xv _)]at this
  obtain⟨ms,pm,rm⟩:=Au hi op
  refine⟨_,rfl,X1 ⟨_,rfl,.ref a,upd H a (.lst (ms.map V.int)),?_,rfl,h a ms f0 pm⟩⟩
  have MW:h'.get? a=some {cls:=.type "list",data:=.seq out.toList.toArray c}:=by rw[aax];exact Cc
  refine I'.adopt (t':=tk) (fp:=[a,kS]) (λb hb=>?_) XB (λb o hb e=>kX b o (λz=>hb (z ▸ XB)) (λz=>hb (z ▸ XA _ (Xm.mpr rfl))) e) MW rm ?_
  . rcases XI.mp hb with e|hb
    . rw[e];exact⟨f0,f1,f2,f3,f4,f5⟩
    . rw[Xm.mp hb];exact fk
  . rw[Xl,pm.length_eq]
    exact XS (X7 mv) (by decide)
end
section
variable {X:Cx}{e o:Expr}{ta to:TE}{p pos apos kp cp:Pos}{cj:Nat}{m:Str}{C g:Addr}
def qA(C:Addr)(m:Str)(g:Addr)(to:TE):TE:=λσ H Q=>to σ H λx H1=>∃a dx fs,x=.ref a/\H1 a=some (.ins C dx fs)/\fs.lookup m=none/\∀q,H1 q=none->Q (.ref q) (upd H1 q (.met g a))
theorem Cd(he:PE X o to)(c:iB X.K C)(km:Meth X.K C m g)(b:xG X.K g m) (hb:attributeBase o m X.env (eval o X.env)=eval o X.env):PE X (.Attribute o m apos) (qA C m g to):=by
 intro pins s σ H Q I h
 refine wZ hb (aS (he pins s σ H _ I h) λu s1 ⟨x,H1,I1,rx,a,dx,fs,ex,ea,l,q⟩=>?_)
 subst ex
 obtain rfl:u=Value.ref a:=rx
 exact wH I1 ea c km b l ⟨.ref s1.heap.objs.size,_,I1.laid (t':=s1.toks+1) (o:=.met g a) (λb u q=>XC _ q) (Xv _) (Yd _ rfl),rfl,q _ (I1.hok.fresh (Xv _))⟩
def Ik(K:W.Frag)(ta:TA):TE:=λσ H Q=>ta σ H λvs H1=>∃(l:Addr) (ns:List Int),vs=[.ref l]/\ax K H1 l (ns.map V.int)/\ns.length<64/\∀(D:Addr) (ms:List Int),H1 D=none->ms.Perm ns->ms.Pairwise (λx y=>y<=x)->Q (.ref D) (upd H1 D (.lst (ms.map V.int)))
theorem vi{ta:TA}(hg:Gl X "sorted")(hm:X.mg "sorted" = none)(ha:PA X [e] ta) (hs:starEach [e] X.env=[(false,eval e X.env)]:=by rfl):PE X (.Call (.Name "sorted" p) [e] [⟨some "reverse",.Constant (.bool true) cj cp,kp⟩] pos) (Ik X.K ta):=by
 intro pins s σ H Q I h
 refine YH (jL I hg hm boot_sorted (Z3 (aS (ha pos pins s σ H _ I h) λus s1 ⟨vs,H1,I1,r1,q1⟩=>?_) (by rw[hs];rfl) (by rw[hs];rfl)))
 obtain⟨l,ns,rfl,hp,mv,q⟩:=q1
 obtain⟨u,rfl,ru⟩:=vals1 r1
 cases(show u=Value.ref l from ru)
 refine aS (xc (nm:=some "reverse") (kpos:=kp) fo zr pos pins s1 σ H1 (λvs H2=>vs=[.bl true]/\H2=H1) I1 ⟨rfl,rfl⟩) λus s2 ⟨vs,H2,I2,r2,e1,e2⟩=>?_
 subst e1 e2
 obtain⟨u,rfl,ru⟩:=vals1 r2
 cases(show u=Value.bool true from ru)
 obtain⟨its,rv,pl,hz⟩:=I2.list hp
 have hi:=intsOf rv
 have hl:=hi.length
 refine PyProof.Rows.sorted_ints_rev (b:=true) pl.isList hi (by omega) λout ms a1 a2 a3=>?_
 obtain⟨n,hn⟩:=sortedAll_at s2.heap its out
 have ho:ms.Pairwise (λx y=>y<=x):=a3
 refine⟨.ref (s2.heap.objs.size+1),_,I2.laid (t':=s2.toks) (o:=.lst (ms.map V.int)) (λb o hb=>sortedAll_old hb) (YY _) ⟨?_,out.toList,n,As a1,by rw[aax];exact hn⟩,rfl,q _ ms (I2.hok.fresh (YY _)) a2 ho⟩
 rw[Xl,a2.length_eq]
 exact XS (X7 mv) (by decide)
def Il(K:W.Frag)(sp:Sp)(C:Addr)(m:Str)(g:Addr)(ta:TA)(to:TE):TE:=λσ H Q=>ta σ H λvs H0=>qA C m g to σ H0 λqv H1=>∃(q l x:Addr) (ns:List Int) (kf:Int->Int),qv=.ref q/\vs=[.ref l]/\H1 q=some (.met g x)/\ax K H1 l (ns.map V.int)/\ns.length<64/\(∀v∈ns,sp [.ref x,.int v] H1 (λr H'=>H'=H1/\r=.int (kf v)) E0)/\∀(D:Addr) (ms:List Int),H1 D=none->ms.Perm ns->Q (.ref D) (upd H1 D (.lst (ms.map V.int)))
theorem Ce{ta:TA}{k:Nat}{fd:FuncData}{ps:List Str}{sp:Sp}(hg:Gl X "sorted")(hm:X.mg "sorted" = none)(ha:PA X [e] ta)(he:PE X o to)(c:iB X.K C)(km:Meth X.K C m g)(b:xG X.K g m)(F:aD X.prog X.w X.K X.mg X.base aT k g fd ps sp) (hr:bx (k+2) X.A) (hb:Binds X.K fd ps []) (xy:attributeBase o m X.env (eval o X.env)=eval o X.env:=by rfl) (hs:starEach [e] X.env=[(false,eval e X.env)]:=by rfl) :
 PE X (.Call (.Name "sorted" p) [e] [⟨some "key",.Attribute o m apos,kp⟩] pos) (Il X.K sp C m g ta to):=by
 intro pins s σ H Q I h
 refine YH (jL I hg hm boot_sorted (Z3 (aS (ha pos pins s σ H _ I h) λus s1 ⟨vs,H1,I1,r1,q1⟩=>?_) (by rw[hs];rfl) (by rw[hs];rfl)))
 obtain⟨P,hP⟩:∃P:VK,P=λqv H1=>∃(q l x:Addr) (ns:List Int) (kf:Int->Int),qv=.ref q/\vs=[.ref l]/\H1 q=some (.met g x)/\ax X.K H1 l (ns.map V.int)/\ns.length<64/\(∀v∈ns,sp [.ref x,.int v] H1 (λr H'=>H'=H1/\r=.int (kf v)) E0)/\∀(D:Addr) (ms:List Int),H1 D=none->ms.Perm ns->Q (.ref D) (upd H1 D (.lst (ms.map V.int))):=⟨_,rfl⟩
 have q1:qA C m g to σ H1 P:=by rw[hP];exact q1
 have e:(λ(x:V) (H2:Hp)=>([x].length=1/\P ([x].headD .bb) H2))=P:=by
  funext x H2
  exact propext ⟨λz=>z.2,λz=>⟨rfl,z⟩⟩
 refine aS (xc (nm:=some "key") (kpos:=kp) (Cd (apos:=apos) he c km b xy) zr pos pins s1 σ H1 (λks H2=>ks.length=1/\P (ks.headD .bb) H2) I1 ?_) λus s2 ⟨ks,H2,I2,r2,e1,hq⟩=>?_
 . show qA C m g to σ H1 (λ(x:V) (H2:Hp)=>([x].length=1/\P ([x].headD .bb) H2))
   rw[e]
   exact q1
 . match ks,e1 with
   | [qv],_=>
    rw[hP]at hq
    obtain⟨q,l,x,ns,kf,e2,e3,hq,hp,mv,j2,qq⟩:=hq
    have e2:qv=.ref q:=e2
    subst e2 e3
    obtain⟨u,rfl,ru⟩:=vals1 r1
    cases(show u=Value.ref l from ru)
    obtain⟨u,rfl,ru⟩:=vals1 r2
    cases(show u=Value.ref q from ru)
    exact yL I2 hp mv hq F hr hb j2 qq
end
section
variable {X:Cx}
theorem vj(hc:X.calm=true):ir X (.type "set") (λxs H Q=>∃(p:Addr) (ns:List Int),xs=[.ref p]/\ax X.K H p (ns.map V.int)/\ns.length<=1000/\∀q S n,H q=none->Q (.ref q) (upd H q (.set S n))):=by
 intro pins s σ H xs us Q I r h
 obtain⟨p,ns,rfl,hp,hl,q⟩:=h
 obtain⟨u,rfl,rx⟩:=vals1 r
 cases(show u=Value.ref p from rx)
 obtain⟨its,rv,pl,hz⟩:=I.list hp
 have el:its.length=ns.length:=by have:=rv.length;rw[Xl]at this;exact this.symm
 refine call_set_list (ns:=ns) (I.ok.hd hc) pl.isList (by simpa using intsOf rv) (by rw[XN,el];show ns.length+1<4096;omega) λh' tk hS hk=>?_
 exact⟨.ref s.heap.objs.size,_,I.laid (t':=tk) (λb o e=>hk b o (XR e) e) (Xv _) (show cI X.prog X.w _ h' _ (.set _ _) from hS),rfl,q _ _ _ (I.hok.fresh (Xv _))⟩
end
end L2
namespace PySem
open Sem (wp)
section
variable {prog:Program}{w:World}{A:Around}{E:Value->Shared->Prop}{s:Shared}
end
def N6(tp:Bool)(h:Heap)(l:Addr)(xs:Array Value):Prop:=match tp with|true=>h.IsTuple l xs|false=>h.IsList l xs
def N7(tp:Bool)(h:Heap)(i l:Addr)(k:Nat):Prop:=match tp with|true=>h.IsTupleIter i l k|false=>h.IsListIter i l k
theorem N7.there{tp:Bool}{h:Heap}{i l:Addr}{n:Nat}(x:N7 tp h i l n):∃o,h.get? i=some o/\∃vs,o.data=.fields vs:=by
 cases tp <;> (obtain⟨o,e,c,d⟩:=x;exact⟨o,e,_,d⟩)
theorem N6.there{tp:Bool}{h:Heap}{l:Addr}{xs:Array Value}(x:N6 tp h l xs):∃o,h.get? l=some o:=by
 cases tp <;> (obtain⟨o,e,r⟩:=x;exact⟨o,e⟩)
section
variable {prog:Program}{w:World}{A:Around}{E:Value->Shared->Prop}{s:Shared}{tp:Bool}
end
end PySem
namespace PySem
section
variable {prog:Program}{w:World}{A:Around}{E:Value->Shared->Prop}{s:Shared}{tp:Bool}
end
end PySem
namespace L2
open PySem PySem.Spec PyProof.Rows
section
variable {X:Cx}
end
end L2
namespace PySem
open PySem PySem.Spec PyProof.Rows
section
variable {prog:Program}{w:World}{A:Around}{E:Value->Shared->Prop}{s:Shared}{tp tq:Bool}
end
end PySem
namespace L2
open PySem PySem.Spec PyProof.Rows
section
variable {X:Cx}{pins:List (Addr×Obj)}{σ:St}{H:Hp}{s:Shared}{tp:Bool}{a:Addr}{xs ys:List V}
end
section
variable {X:Cx}
end
end L2
namespace PySem
open PySem.Spec PyProof.Rows
section
variable {prog:Program}{w:World}{A:Around}{E:Value->Shared->Prop}{s:Shared}{z TI TO i1 i2:Addr}{m1 m2:List Addr}{n1 n2:Nat}{P1 P2:Nat->Value->Prop}{N8 oE:Nat->Heap->Prop}
end
section
variable {prog:Program}{w:World}{K:Type}[DecidableEq K] {knd:KeyKind prog w K}{A:Around}{E:Value->Shared->Prop}{s:Shared}
end
namespace F
end F
section
variable {prog:Program}{w:World}{K:Type}[DecidableEq K] {knd:KeyKind prog w K}{A:Around}{R:Result->Shared->Prop}{z TI TO i1 i2:Addr}{m1 m2:List Addr}{n1 n2:Nat}{P1 P2:Nat->Value->Prop}{N8 oE:Nat->Heap->Prop}
end
section
variable {prog:Program}{w:World}{K:Type}[DecidableEq K] {knd:KeyKind prog w K}{A:Around}{E:Value->Shared->Prop}{s:Shared}{z TI TO i1 i2:Addr}{m1 m2:List Addr}{n1 n2:Nat}{P1 P2:Nat->Value->Prop}{N8 oE:Nat->Heap->Prop}
end
section
variable {prog:Program}{w:World}{A:Around}{E:Value->Shared->Prop}{s:Shared}
end
end PySem
namespace L2
open PySem PySem.Spec PyProof.Rows
section
variable {X:Cx}{pins:List (Addr×Obj)}{σ:St}{H:Hp}{s:Shared}{h':Heap}
end
section
variable {X:Cx}
end
end L2
namespace PySem
open Builtin Builtin.Str
end PySem
namespace Gen
open PySem
def E8:List Nat:=(List.range 26).map (· + 97)
def c5(n:Str):List Str:=E8.map λc=>Txt.slice n none (some 5)++⟨#[c]⟩ ++ "qz"
end Gen
namespace L2
open PySem PySem.Spec PyProof.Rows
section
variable {X:Cx}
end
end L2
namespace PySem
open Builtin Builtin.Str
end PySem
namespace L2
open PySem PySem.Spec PyProof.Rows
section
variable {X:Cx}{pins:List (Addr×Obj)}{σ:St}{H:Hp}{s:Shared}{a:Addr}{kvs:List (Key×V)}{k:Key}{v:V}{u:Value}{E:Value->Shared->Prop}
end
section
variable {X:Cx}{o i:Expr}{pos:Pos}{td ty:TE}
end
section
variable {X:Cx}
def E9:V->List V->Hp->VK->Prop:=λx vs H Q=>∃d e kvs more,x=.ref d/\vs=[.ref e]/\H d=some (.dK kvs)/\Rd H e (.dK more)/\d≠e/\kvs.length+more.length<=sizeLine/\Q .bb (upd H d (.dK (c9 kvs more)))
theorem Av:Ds X "dict.update" E9:=by
 intro pins s σ H x vs v us Q I rx rv h
 obtain⟨d,e,kvs,more,rfl,rfl,hd,he,iF,hsz,q⟩:=h
 cases(show v=Value.ref d from rx)
 obtain⟨u,rfl,ru⟩:=rv.one
 cases(show u=Value.ref e from ru)
 obtain⟨z1,n1,TH,Im,N9⟩:=tL I.hok hd
 obtain⟨z2,n2,TJ,Io,TK⟩:=j7 I.hok he
 have e1:=Im.length
 have e2:=Io.length
 refine call_meetsIn Z4 N9.typeIs PySem.F.entry_dict_update (PySem.F.args_dict_update_2 _ _) (meets_dict_update (cg X.prog X.w) d e iF n2) ⟨TH,TJ,N9,TK,by omega,λh' qg _ hs=>?_⟩
 have TL:∃q,h'.get? d=some q:=let ⟨q,_,_,hq,_⟩:=qg; ⟨q,hq⟩
 refine⟨.bb,_,qT I (by rw[hd];trivial) hs TL (nh ?_ n1 (KV.merge Io Im) qg),rfl,q⟩
 have:=j0 more kvs
 omega
theorem Cf{d:Addr}{o:Obj}{kvs:List (Key×V)}{g:TG}{tb:TS}{D:Ends}{σ:St}{H:Hp}(Pv:Nat->St->Hp->Prop) (h0:Pv 0 σ H) (hl:∀i σ H,i<=kvs.length->Pv i σ H->H d=some (.cX o (.dK kvs)))
 (hs:∀i kv σ H,kvs[i]?=some kv->Pv i σ H->g (kV kv.1) σ H λgr H2=>tb {D with nx:=Pv (i+1),ct:=Pv (i+1),bk:=D.nx} gr H2) (hd:∀σ H,Pv kvs.length σ H->D.nx σ H) :
 ∃W:Nat->Nat->St->Hp->Prop,(∃m,W 0 m σ H)/\∀i m σ H,W i m σ H->
  ((vc d o kvs).stop i H/\D.nx σ H)\/((vc d o kvs).go i H/\∃N:St->Hp->Prop,(∀bq H',N bq H'->∃m',m'<m/\W (i+1) m' bq H')/\∀x H',(vc d o kvs).yld i H x H'->g x σ H' λgr H2=>tb {D with nx:=N,ct:=N,bk:=D.nx} gr H2):=by
 refine⟨λi m σ H=>m=kvs.length-i/\i<=kvs.length/\Pv i σ H,⟨kvs.length,by simp,Yi _,h0⟩,?_⟩
 rintro i m σ H ⟨rfl,hi,p⟩
 have q:=hl i σ H hi p
 by_cases eF:i<kvs.length
 . refine .inr ⟨⟨q,eF⟩,Pv (i+1),λbq H' p'=>⟨kvs.length-(i+1),by omega,rfl,eF,p'⟩,λx H' y=>?_⟩
   obtain⟨rfl,kv,dG,rfl⟩:=y
   exact hs i kv σ _ dG p
 . obtain rfl:i=kvs.length:=by omega
   exact .inl ⟨⟨q,rfl⟩,hd σ H p⟩
end
end L2
namespace Gen
open PySem L2 Sat
abbrev vk:Stmt:=inClass (top 7) 17
section
variable (C CO CP:Addr) (wants:List Int)
inductive Cg(vs:List V) (H:Hp) (Q:VK):Prop
 | mk (ad:Sl->Addr) (S:SS) (cA cd:Addr) (c:List Int) (ca:List Addr) (ch:List (Nat×Int)) (h1:vs=[.ref (ad .self),.ref cA,.ref cd]) (R:Rep C CO CP H ad S) (hA:H cA=some (.lst (c.map V.int))) (hd:H cd=some (.lst (ca.map V.ref))) (hp:Paired (λt (q:Nat×Int)=>H t=some (.tup [iV q.1,.int q.2])) ca ch)
  (nA:¬ cB C CO CP ad S cA) (nd:¬ cB C CO CP ad S cd) (ne:cA≠cd) (hg:S.g<=S.held.length) (hc:cf S.n c) (hl:c.length<=1000) (W:cG S.n S.g S.held S.wl S.pl S.singles) (hb:S.held.length<=1000000) (hs:S.spans.length<=1000000)
  (k:∀(H':Hp) (sp:List (Key×V)) (wl:Nat->List Nat) (pa:Nat->List Addr) (pl:Nat->List (Int×Nat)) (si:List Nat),sp.length<=S.spans.length+1->Rep C CO CP H' (eE ad S.held.length cA cd) {S with held:=S.held++[c],ca:=fU S.ca S.held.length ca,ch:=fU S.ch S.held.length ch,spans:=sp,wl:=wl,pa:=pa,pl:=pl,singles:=si} ->
   Kp (λb=>cB C CO CP ad S b\/b=cA\/b=cd) H H' (cB C CO CP (eE ad S.held.length cA cd) {S with held:=S.held++[c],ca:=fU S.ca S.held.length ca,ch:=fU S.ch S.held.length ch,spans:=sp,wl:=wl,pa:=pa,pl:=pl,singles:=si})->
   cG S.n S.g (S.held++[c]) wl pl si->Q (iV S.held.length) H')
def xH:Sp:=λvs H Q _=>Cg C CO CP vs H Q
end
abbrev Ip:List Str:=["self", "clause", "chain", "number"]
theorem xI:aG Ip ["self", "clause", "chain"] (aB vk):=fs
section
variable {P:Program}{w:World}{K:W.Frag}{mg:Str->Option Value}{base:Heap}{C CO CP:Addr}{wants:List Int}
theorem Fb{f fW:Addr}{fd dW:FuncData}(F:aM K "keep" "Search.keep" vk f fd)(T:dZ K mg C)(O:Own mg)(hA:mg "abs" = none)(Ci:mg "set" = none) (gW:aD P w K mg base aT 1 fW dW ["self", "number"] (pI C CO CP)) (mW:Meth K C "watch" fW) (bW:Binds K dW ["self", "number"] []):aD P w K mg base aT 2 f fd ["self", "clause", "chain"] (xH C CO CP):=by
 refine F.run xI λa6 A outer s H vs Q E hr h=>?_
 obtain⟨ad,S,cA,cd,c,ca,ch,rfl,R,Aw,cE,hp,nA,nd,ne,hg,hc,hl,W,hb,hs,k⟩:=h
 have hu:=jI hr
 refine⟨_,(ae (aQ 3 xI.nd (aJ a7 (by rfl) O.len X5 (aa (aw (pv 0) rfl) ak)))
  (ae (aK (cV XD XG XH bz (aw (pv 0) rfl) (aa (pv 1) ak)))
  (ae (iu hu (aw (pv 0) rfl) (pv 3) (pv 2) rfl)
  (ae (iu hu (aw (pv 0) rfl) (pv 3) (aJ tI (by rfl) O.len X5 (aa (eC (vj rfl) (by rfl) Ci PyProof.Rows.boot_set (aa (gu (N:=["literal", "self"]) (js:=[none,some 0]) (te:=(oF (aZ K) (o8 K (eU 1) "levels") (Dp (λxs H Q=>∃i,xs=[.int i]/\Q (.int (if i<0 then -i else i)) H) (n0 (eU 0) lO)))) (by kernel_rfl) rfl (b7 (pv 1)) (λ_ _ _ _ _ _=>(aL (i:=0) (show (["literal", "self"]:List Str).Nodup from dk) rfl (Or.inl rfl) (.inr rfl))) (λ_ _ _ _ _ _=>dj) (λ_ _ _ _ _ _=>(aF (r:=aZ K) ay (aw (pv 1) rfl) (aJ c6 (by rfl) hA X4 (aa (pv 0) ak)) (λ_ _=>rfl)))) ak)) ak)) rfl)
  (ae (aK (cQ (pv 0) T.cl mW gW hr bW (aa (pv 3) ak)))
  (av (aY (pv 3)))))))),?_⟩
 have oS:∀{a b:Sl}{o u:HO},cont C CO CP ad S a=some o->cont C CO CP ad S b=some u->a≠b->ad a≠ad b:=λh1 h2 n e=>n (R.st.inj _ _ _ _ h1 h2 e)
 refine⟨_,rfl,ad .self,_,_,_,_,rfl,Rep.s R,T.cl,T.held,eX,ad .held,_,rfl,.inl (ax.of (R.at_ (s:=.held) rfl)),?_⟩
 rw[aR]
 refine⟨_,rfl,ad .self,_,_,_,_,rfl,Rep.s R,T.cl,T.held,eX,.inl ⟨rfl,_,ax.of (R.at_ (s:=.held) rfl)⟩,_,rfl,ad .held,_,_,rfl,rfl,R.at_ (s:=.held) rfl,(by rw[aR];exact XT hb (by decide)),?_⟩
 have s1:upd H (ad .held) (.lst (fl S.held.length (λi=>.ref (ad (.cl i)))++[.ref cA])) (ad .self)=some (.ins C (ad .dm) (cR ad S.n S.passed)):=by rw[ag (oS (a:=.self) (b:=.held) rfl rfl (by intro z;cases z))];exact Rep.s R
 have s2:upd H (ad .held) (.lst (fl S.held.length (λi=>.ref (ad (.cl i)))++[.ref cA])) (ad .chains)=some (.dK (fl (S.held.length-S.g) λi=>(.inl ((S.g+i:Nat):Int),.ref (ad (.ch (S.g+i)))))):=by rw[ag (oS (a:=.chains) (b:=.held) rfl rfl (by intro z;cases z))];exact R.at_ (s:=.chains) rfl
 refine⟨_,rfl,_,rfl,ad .self,_,_,_,_,rfl,s1,T.cl,T.chains,jS,_,rfl,ad .chains,_,rfl,jB.k (k:=.inl (S.held.length:Int)) s2 (by rw[aR];exact XT (XS (Nat.sub_le _ _) hb) (by decide)),?_⟩
 have pk:putK (fl (S.held.length-S.g) λi=>((.inl ((S.g+i:Nat):Int),.ref (ad (.ch (S.g+i)))):Key×V)) (.inl (S.held.length:Int)) (.ref cd)=fl (S.held.length-S.g) (λi=>(.inl ((S.g+i:Nat):Int),.ref (ad (.ch (S.g+i)))))++[(.inl (S.held.length:Int),.ref cd)]:=by
  unfold putK
  rw[XW]
  intro z
  obtain⟨kv,dG,e⟩:=Yw.mp z
  unfold fl at dG
  obtain⟨i,hi,rfl⟩:=XJ.mp dG
  have:=Zl (Yh e)
  have:=YL.mp hi
  omega
 rw[pk]
 obtain⟨H2,e2,R2,kp⟩:=R.Ib Aw cE hp nA nd ne hg
 rw[← e2]
 clear e2 pk s1 s2
 have Iq:=R2.eI (k:=S.held.length) (c:=c) (by show (S.held++[c])[S.held.length]?=some c;exact fm)
 have eA:eE ad S.held.length cA cd (.cl S.held.length)=cA:=by
  unfold eE fU
  rw[XW (by intro z;cases z),XO rfl]
 rw[eA]at Iq
 have es:eE ad S.held.length cA cd .self=ad .self:=rfl
 have el:eE ad S.held.length cA cd .levels=ad .levels:=rfl
 have ep:eE ad S.held.length cA cd .spans=ad .spans:=rfl
 have le:(me S c ca ch).held.length=S.held.length+1:=by show (S.held++[c]).length=_;rw[Xs];rfl
 generalize eE ad S.held.length cA cd=eW at R2 kp es el ep k
 refine⟨_,rfl,cA,rfl,⟨_,ax.of Iq⟩,λD hD=>?_⟩
 refine lA (xs:=c.map V.int) (ys:=c.map λl=>V.int (S.lev l.natAbs)) (cap:=[some (.ref (ad .self))]) (by rw[Xl,Xl]) (λi x y Hx R' hx hy sx hR=>?_) hD Iq (by rw[Xl];exact XS hl (by decide)) (λH3 sm ku=>?_)
 . obtain⟨l,gk,rfl,rfl⟩:∃l,c[i]?=some l/\x=.int l/\y=.int (S.lev l.natAbs):=by
    rw[Xt]at hx hy
    cases e:c[i]? with
    | none=>rw[e]at hx;cases hx
    | some l=>
     rw[e]at hx hy
     exact⟨l,rfl,(Xq hx).symm,(Xq hy).symm⟩
   have lo:=hc.ok l (Xn gk)
   refine⟨_,rfl,ad .self,_,_,_,_,rfl,sx _ _ (by rw[← es];exact Rep.s R2),T.cl,T.levels,fG,_,rfl,l,rfl,?_⟩
   rw[dv]
   exact⟨eW .levels,_,_,_,rfl,rfl,ax.of (sx _ _ (R2.at_ (s:=.levels) rfl)),bY (by have:(me S c ca ch).n=S.n:=rfl;omega),hR⟩
 refine⟨D,c.map λl=>S.lev l.natAbs,rfl,ax.of (by rw[ku,Y5];rfl),(by rw[Xl];exact hl),λq SS n hq=>?_⟩
 refine⟨q,SS,n,rfl,aj,?_⟩
 have s4:aC H2 (upd H3 q (.set SS n)):=λb u hb=>by
  have h3:=sm b u hb
  rw[ag (aq h3 hq)]
  exact h3
 generalize upd H3 q (.set SS n)=H4 at s4 ⊢
 have R4:Rep C CO CP H4 eW (me S c ca ch):=⟨R2.st.same s4,λi=>Paired.bQ (R2.tp i) λ_ _ h=>s4 _ _ h,λi=>Paired.bQ (R2.tc i) λ_ _ h=>s4 _ _ h⟩
 have TM:Kp (λb=>cB C CO CP ad S b\/b=cA\/b=cd) H H4 (cB C CO CP eW (me S c ca ch)):=⟨λb u hb ho=>s4 _ _ (kp.st b u hb ho),kp.nw⟩
 have j2:=R4.at_ (s:=.spans) rfl
 refine⟨_,rfl,ad .self,_,_,_,_,rfl,(by rw[← es];exact Rep.s R4),T.cl,T.spans,BS,_,rfl,eW .spans,_,rfl,jB.k (k:=.inl (S.held.length:Int)) j2 (XT hs (by decide)),?_⟩
 have g5:=R4.ER (putK S.spans (.inl (S.held.length:Int)) (.int (n:Nat)))
 refine⟨_,rfl,ad .self,_,_,rfl,by rw[← es];exact Rep.s g5.rep,by kernel_rfl,_,rfl,?_⟩
 rw[← es]
 refine⟨eW,_,S.held,c,S.g,S.g,rfl,g5.rep,rfl,hc,W,λi hi=>.inl hi,hb,λH6 wl pa pl si g6 W6=>?_⟩
 refine⟨_,rfl,?_⟩
 refine k H6 (putK S.spans (.inl (S.held.length:Int)) (.int (n:Nat))) wl pa pl si ?_ g6.rep (TM.trans (g5.kp.trans g6.kp)) W6
 unfold putK
 split
 . rw[Xl];exact YY _
 . rw[Xs];exact Xv _
end
abbrev yM:Stmt:=inClass (top 6) 1
structure vo(K:W.Frag) (mg:Str->Option Value) (C:Addr):Prop where
 cl:iB K C
 n1:aH K C "turn"
 n2:aH K C "length"
 n3:aH K C "left"
 mgC:mg "Pauses" = some (.ref C)
theorem xJ{l:Int} : (oI l).lookup ("left" : Str)=some (.int l):=by kernel_rfl
theorem Fc{l x:Int} : eM "left" (.int x) (oI l)=oI x:=by kernel_rfl
section
variable (C CO CP:Addr)
inductive Ir(vs:List V) (H:Hp) (Q:VK):Prop
 | mk (ad:Sl->Addr) (S:SS) (h1:vs=[.ref (ad .pauses)]) (R:Rep C CO CP H ad S) (hl:2<=S.left) (hm:S.left<=1000) (k:∀H':Hp,Go C CO CP H ad S H' ad (S.yG (S.left-1))->Q (.bl false) H')
def DP:Sp:=λvs H Q _=>Ir C CO CP vs H Q
end
abbrev MX:List Str:=["self"]
theorem Iu:aG MX ["self"] (aB yM):=fs
section
variable {P:Program}{w:World}{K:W.Frag}{mg:Str->Option Value}{base:Heap}{C CO CP:Addr}
theorem Iw{f:Addr}{fd:FuncData}(F:aM K "due" "Pauses.due" yM f fd)(TP:vo K mg CP):aD P w K mg base aT 1 f fd ["self"] (DP C CO CP):=by
 refine F.run Iu λa6 A outer s H vs Q E hr h=>?_
 obtain⟨ad,S,rfl,R,hl,hm,k⟩:=h
 refine⟨_,(ae (mY (pv 0) au Gf)
  (ae (bR (aX (j6 (aw (pv 0) rfl) au))
   (av (aY fo)) br)
  sr)),?_⟩
 have hp:=R.at_ (s:=.pauses) rfl
 refine⟨_,rfl,ad .pauses,_,_,_,_,rfl,hp,TP.cl,TP.n3,xJ,_,_,rfl,rfl,_,_,hp,(by show 3<1000;decide),?_⟩
 rw[Fc]
 have g:=R.goLeft (S.left-1)
 refine⟨_,rfl,ad .pauses,_,_,_,_,rfl,aj,TP.cl,TP.n3,xJ,_,_,rfl,rfl,_,rfl,bX (Xw (by omega)) ?_⟩
 exact k _ g
end
end Gen
namespace Sat
theorem fi.last{n:Nat}{ah bh mk:Nat->Nat}{ne se:Nat}{fr:Nat->Prop}{perm:List Nat}(h:fi n ah bh mk ne se fr perm){v:Nat}(hv:1<=v/\v<=n)(nf:¬ fr v) :
 (∃p,fi n (fU (fU (fU ah (bh v) (ah v)) v (fU ah (bh v) (ah v) 0)) 0 v) (fU (fU (fU bh (ah v) (bh v)) (fU ah (bh v) (ah v) 0) v) v 0) (fU mk v (ne+1)) (ne+1) se fr p)/\ah v<=n/\bh v<=n/\fU ah (bh v) (ah v) 0<=n:=by
 have hm:=(h.mem v).mpr hv
 obtain⟨a,b,e⟩:=aaN hm
 have R:=h.R
 have M:=h.M
 rw[e]at R M
 have R1:=R.unlink
 have M1:=M.drop
 have nv:v∉a++b:=λz=>by
  have nd:=R.nd
  rw[Ye]at nd
  rcases Xp.mp z with z|z
  . exact nd.2.2 v z v XB rfl
  . exact(X6.mp nd.2.1).1 z
 have v0:v≠0:=by omega
 have bd:∀u,(u=0\/u∈perm)->u<=n:=λu z=>z.elim (λz=>by omega) λz=>((h.mem u).mp z).2
 refine⟨⟨a++b++[v],R1.link nv v0,M1.link nv v0,λu=>?_,h.sk,λu h1 h2 h3=>?_⟩,?_,?_,?_⟩
 . rw[← h.mem u,e]
   simp only[Xp,XI,Xm,Yf,or_false]
   constructor
   . rintro ((z|z)|z)
     . exact .inl z
     . exact .inr (.inr z)
     . exact .inr (.inl z)
   . rintro (z|z|z)
     . exact .inl (.inl z)
     . exact .inr z
     . exact .inl (.inr z)
 . by_cases eu:u=v
   . rw[eu];exact nf
   . rw[aW eu]at h3
     by_cases es:se=v
     . rw[es,aI]at h3
       have:=(h.M.pos u ((h.mem u).mpr ⟨h1,h2⟩)).2
       omega
     . rw[aW es]at h3
       exact h.no u h1 h2 h3
 . have:ah v∈(perm++[0]).map ah:=Zm (XF _ hm)
   rw[h.R.a]at this
   exact bd _ (XI.mp this)
 . have:bh v∈(0::perm).map bh:=Zm (XA _ hm)
   rw[h.R.b]at this
   exact bd _ ((Xp.mp this).symm.imp (λz=>Xm.mp z) id)
 . have:fU ah (bh v) (ah v) 0∈((a++b)++[0]).map (fU ah (bh v) (ah v)):=Zm (Xu _ XB)
   rw[R1.a]at this
   refine bd _ ((XI.mp this).imp id λz=>?_)
   rw[e]
   exact(Xp.mp z).elim (XF _) λz=>Xu _ (XA _ z)
end Sat
namespace L2
open PySem PySem.Spec PyProof.Rows Sat
theorem Rep.Iy{C CO CP:Addr}{H H':Hp}{ad:Sl->Addr}{S:SS}(R:Rep C CO CP H ad S){a b m:Nat->Nat}{ne:Nat}(h1:H' (ad .order)=some (.ins CO (ad .kO) (DD ad ne S.seek))) (h2:H' (ad .ahead)=some (.lst (fl (S.n+1) λi=>iV (a i)))) (h3:H' (ad .behind)=some (.lst (fl (S.n+1) λi=>iV (b i)))) (h4:H' (ad .marks)=some (.lst (fl (S.n+1) λi=>iV (m i))))
 (h5:∀x,x≠ad .order->x≠ad .ahead->x≠ad .behind->x≠ad .marks->H' x=H x):Go C CO CP H ad S H' ad {S with ah:=a,bh:=b,mk_:=m,newest:=ne}:=by
 have oS:∀{p q:Sl}{o u:HO},cont C CO CP ad S p=some o->cont C CO CP ad S q=some u->p≠q->ad p≠ad q:=λh1 h2 n e=>n (R.st.inj _ _ _ _ h1 h2 e)
 have g1:=R.Hr a
 have g2:=g1.trans (g1.rep.Hs b)
 have g3:=g2.trans (g2.rep.QB m)
 have g4:=g3.trans (g3.rep.uN ne S.seek)
 have e:H'=L2.upd (L2.upd (L2.upd (L2.upd H (ad .ahead) (.lst (fl (S.n+1) λi=>iV (a i)))) (ad .behind) (.lst (fl (S.n+1) λi=>iV (b i)))) (ad .marks) (.lst (fl (S.n+1) λi=>iV (m i)))) (ad .order) (.ins CO (ad .kO) (DD ad ne S.seek)):=by
  funext x
  by_cases e1:x=ad .order
  . rw[e1,h1,aj]
  rw[ag e1]
  by_cases e2:x=ad .marks
  . rw[e2,h4,aj]
  rw[ag e2]
  by_cases e3:x=ad .behind
  . rw[e3,h3,aj]
  rw[ag e3]
  by_cases e4:x=ad .ahead
  . rw[e4,h2,aj]
  rw[ag e4]
  exact h5 x e1 e4 e3 e2
 rw[e]
 exact g4
end L2
namespace Gen
open PySem L2 Sat
abbrev vp:Stmt:=inClass (top 5) 5
section
variable (C CO CP:Addr)
inductive Fd(vs:List V) (H:Hp) (Q:VK):Prop
 | mk (ad:Sl->Addr) (S:SS) (v:Nat) (h1:vs=[.ref (ad .order),iV v]) (R:Rep C CO CP H ad S) (hv:v<=S.n) (k:Q (iV (S.mk_ v)) H)
def Ax:Sp:=λvs H Q _=>Fd C CO CP vs H Q
inductive Cj(vs:List V) (H:Hp) (Q:VK):Prop
 | mk (ad:Sl->Addr) (S:SS) (a:Addr) (us:List Nat) (perm:List Nat) (h1:vs=[.ref (ad .order),.ref a]) (R:Rep C CO CP H ad S) (ha:H a=some (.lst (us.map iV))) (hu:∀v∈us,(1<=v/\v<=S.n)/\S.bits v≠0) (hl:us.length<64) (ok:fi S.n S.ah S.bh S.mk_ S.newest S.seek (λv=>S.bits v=0) perm)
  (k:∀(H':Hp) (ah bh mk:Nat->Nat) (ne:Nat) (p:List Nat),Go C CO CP H ad S H' ad {S with ah:=ah,bh:=bh,mk_:=mk,newest:=ne} -> fi S.n ah bh mk ne S.seek (λv=>S.bits v=0) p->Q .bb H')
def xK:Sp:=λvs H Q _=>Cj C CO CP vs H Q
end
theorem Fe:aG ["self", "variable"] ["self", "variable"] (aB uJ):=fs
abbrev Iz:List Str:=["self", "variables", "variable", "before", "after"]
theorem oy:aG Iz ["self", "variables"] (aB vp):=fs
section
variable {P:Program}{w:World}{K:W.Frag}{mg:Str->Option Value}{base:Heap}{C CO CP:Addr}
theorem Ff{f:Addr}{fd:FuncData}(F:aM K "mark_of" "Order.mark_of" uJ f fd)(T:jD K mg CO):aD P w K mg base aT 1 f fd ["self", "variable"] (Ax C CO CP):=by
 refine F.run Fe λa6 A outer s H vs Q E hr h=>?_
 obtain⟨ad,S,v,rfl,R,hv,k⟩:=h
 refine⟨_,(av (aY (aF (r:=aZ K) ay (aw (pv 0) rfl) (pv 1) (λ_ _=>rfl)))),?_⟩
 exact⟨_,rfl,ad .order,_,_,_,_,rfl,Rep.o R,T.cl,T.n3,rg,_,rfl,ad .marks,_,_,_,rfl,rfl,ax.of (R.at_ (s:=.marks) rfl),bY (by omega),k⟩
theorem Ck{f fM fL:Addr}{fd dM dL:FuncData}(F:aM K "put_last" "Order.put_last" vp f fd)(T:jD K mg CO)(qB:mg "sorted" = none) (gM:aD P w K mg base aT 1 fM dM ["self", "variable"] (Ax C CO CP)) (mM:Meth K CO "mark_of" fM) (bM:Binds K dM ["self", "variable"] []) (uM:xG K fM "mark_of")
 (gL:aD P w K mg base aT 1 fL dL ["self", "variable"] (rh CO)) (mL:Meth K CO "link_last" fL) (bL:Binds K dL ["self", "variable"] []):aD P w K mg base aT 4 f fd ["self", "variables"] (xK C CO CP):=by
 refine F.run oy λa6 A outer s H vs Q E hr h=>?_
 obtain⟨ad,S,a,us,perm,rfl,R,ha,hu,hl,ok,k⟩:=h
 have iZ:bx 1 _:=hr.mono (by decide)
 refine⟨_,(av (cJ XX rfl (b7 (Ce (by rfl) qB (aa (pv 1) ak) (pv 0) T.cl mM uM gM hr bM)) (aL (i:=2) oy.nd rfl (Or.inl rfl))
  (ae (aQ 3 oy.nd (aF (r:=aZ K) ay (aw (pv 0) rfl) (pv 2) (λ_ _=>rfl)))
  (ae (aQ 4 oy.nd (aF (r:=aZ K) ay (aw (pv 0) rfl) (pv 2) (λ_ _=>rfl)))
  (ae (cY (pv 4) (c8 (aw (pv 0) rfl) (pv 3) set_list))
  (ae (cY (pv 3) (c8 (aw (pv 0) rfl) (pv 4) set_list))
  (av (aK (cQ (pv 0) T.cl mL gL iZ bL (aa (pv 2) ak)))))))))),?_⟩
 have eu:us.map iV=(us.map λv:Nat=>(v:Int)).map V.int:=by rw[Y5];rfl
 refine⟨_,rfl,_,rfl,ad .order,_,_,rfl,Rep.o R,by kernel_rfl,λq hq=>?_⟩
 have g0:=(Go.refl R).alloc (o:=.met fM (ad .order)) hq
 refine⟨q,a,ad .order,us.map λv:Nat=>(v:Int),λi=>(S.mk_ i.toNat:Int),rfl,rfl,aj,ax.of (by rw[ag (aq ha hq),ha,eu]),by rw[Xl];exact hl,λv hv=>?_,λD ms hD pm=>?_⟩
 . obtain⟨u,hm,rfl⟩:=XJ.mp hv
   exact⟨ad,S,u,rfl,g0.rep,(hu u hm).1.2,rfl,by show iV (S.mk_ u)=V.int ((S.mk_ (Int.toNat (u:Int)):Nat):Int);rw[Yj]⟩
 have g1:=g0.alloc (o:=.lst (ms.map V.int)) hD
 have dn:¬ cB C CO CP ad S D:=λ⟨s,o,hs,e⟩=>by
  have:=g0.rep.st.at_ s o hs
  rw[e,hD]at this
  cases this
 have dD:upd (upd H q (.met fM (ad .order))) D (.lst (ms.map V.int)) D=some (.lst (ms.map V.int)):=aj
 generalize upd (upd H q (.met fM (ad .order))) D (.lst (ms.map V.int))=HX at g1 dD ⊢
 refine⟨D,rfl,⟨_,ax.of dD⟩,?_⟩
 have gS:Go C CO CP HX ad S HX ad {S with ah:=S.ah,bh:=S.bh,mk_:=S.mk_,newest:=S.newest}:=Go.refl g1.rep
 refine dh (xs:=ms.map V.int) (λi σ Hx=>∃(ah bh mk:Nat->Nat) (ne:Nat) (p:List Nat) (v2 v3 v4:Option V),σ=[some (.ref (ad .order)),some (.ref a),v2,v3,v4]/\Go C CO CP HX ad S Hx ad {S with ah:=ah,bh:=bh,mk_:=mk,newest:=ne} /\ fi S.n ah bh mk ne S.seek (λv=>S.bits v=0) p)
  ⟨_,_,_,_,perm,none,none,none,rfl,gS,ok⟩ ?_ ?_ ?_
 . rintro i σ Hx hi ⟨ah,bh,mk,ne,p,v2,v3,v4,rfl,g,_⟩
   exact ax.of (g.kp.st D _ dD dn)
 . rintro i xv σ Hx aU ⟨ah,bh,mk,ne,p,v2,v3,v4,rfl,g,Ay⟩
   obtain⟨l,gk,rfl⟩:∃l,ms[i]?=some l/\xv=.int l:=by
    rw[Xt]at aU
    cases e:ms[i]? with
    | none=>rw[e]at aU;cases aU
    | some j=>rw[e]at aU;exact⟨j,rfl,(Xq aU).symm⟩
   obtain⟨u,hm,rfl⟩:=XJ.mp (pm.mem_iff.mp (Xn gk))
   have xM:=hu u hm
   obtain⟨⟨p',Oa⟩,b1,b2,b3⟩:=Ay.last xM.1 xM.2
   generalize fZ:({S with ah:=ah,bh:=bh,mk_:=mk,newest:=ne} : SS)=S1 at g
   have nE:S1.n=S.n:=by rw[← fZ]
   have aE:S1.ah=ah:=by rw[← fZ]
   have bE:S1.bh=bh:=by rw[← fZ]
   have mE:S1.mk_=mk:=by rw[← fZ]
   have wE:S1.newest=ne:=by rw[← fZ]
   have sE:S1.seek=S.seek:=by rw[← fZ]
   have eS:∀A B M N,({S1 with ah:=A,bh:=B,mk_:=M,newest:=N} : SS) = {S with ah:=A,bh:=B,mk_:=M,newest:=N}:=λA B M N=>by rw[← fZ]
   clear fZ
   subst aE bE mE wE
   refine⟨_,rfl,ad .order,_,_,_,_,rfl,Rep.o g.rep,T.cl,T.n1,nC,_,rfl,ad .ahead,_,_,_,rfl,rfl,ax.of (g.rep.at_ (s:=.ahead) rfl),bY (by omega),?_⟩
   refine⟨_,rfl,ad .order,_,_,_,_,rfl,Rep.o g.rep,T.cl,T.n2,uK,_,rfl,ad .behind,_,_,_,rfl,rfl,ax.of (g.rep.at_ (s:=.behind) rfl),bY (by omega),?_⟩
   refine⟨_,rfl,_,rfl,ad .order,_,_,_,_,rfl,Rep.o g.rep,T.cl,T.n2,uK,_,rfl,ad .behind,_,_,_,rfl,rfl,g.rep.at_ (s:=.behind) rfl,by rw[aR];exact du (by omega),?_⟩
   rw[eD,lY]
   have g2:=g.rep.Hs (fU S1.bh (S1.ah u) (S1.bh u))
   refine⟨_,rfl,_,rfl,ad .order,_,_,_,_,rfl,Rep.o g2.rep,T.cl,T.n1,nC,_,rfl,ad .ahead,_,_,_,rfl,rfl,g2.rep.at_ (s:=.ahead) rfl,by rw[aR];exact du (by show _<S1.n+1;omega),?_⟩
   rw[eD,lY]
   have g3:=g2.trans (g2.rep.Hr (fU S1.ah (S1.bh u) (S1.ah u)))
   generalize vv:((S1.NG (fU S1.bh (S1.ah u) (S1.bh u))).NF (fU S1.ah (S1.bh u) (S1.ah u)))=S3 at g3
   have n3:S3.n=S1.n:=by rw[← vv];rfl
   have a3:S3.ah=fU S1.ah (S1.bh u) (S1.ah u):=by rw[← vv];rfl
   have c3:S3.bh=fU S1.bh (S1.ah u) (S1.bh u):=by rw[← vv];rfl
   have m3:S3.mk_=S1.mk_:=by rw[← vv];rfl
   have w3:S3.newest=S1.newest:=by rw[← vv];rfl
   have eT:∀A B M N,({S3 with ah:=A,bh:=B,mk_:=M,newest:=N} : SS) = {S with ah:=A,bh:=B,mk_:=M,newest:=N}:=λA B M N=>by rw[← eS,← vv];rfl
   clear vv
   have oS:∀{p q:Sl}{o u:HO},cont C CO CP ad S3 p=some o->cont C CO CP ad S3 q=some u->p≠q->ad p≠ad q:=λh1 h2 n e=>n (g3.rep.st.inj _ _ _ _ h1 h2 e)
   refine⟨_,rfl,ad .order,_,_,rfl,Rep.o g3.rep,by kernel_rfl,_,rfl,?_⟩
   refine⟨ad .order,ad .kO,ad .ahead,ad .behind,ad .marks,u,S3.n,S3.ah,S3.bh,S3.mk_,S3.newest,S3.seek,rfl,Rep.o g3.rep,g3.rep.at_ (s:=.ahead) rfl,g3.rep.at_ (s:=.behind) rfl,g3.rep.at_ (s:=.marks) rfl,oS (p:=.ahead) (q:=.behind) rfl rfl (by intro z;cases z),oS (p:=.ahead) (q:=.marks) rfl rfl (by intro z;cases z),oS (p:=.behind) (q:=.marks) rfl rfl (by intro z;cases z),by omega,by rw[a3];omega,λH' q1 q2 q3 q4 q5=>?_⟩
   have g4:=g3.rep.Iy q1 q2 q3 q4 q5
   rw[eT]at g4
   refine⟨_,_,_,_,p',_,_,_,rfl,g.trans (g3.trans g4),?_⟩
   rw[a3,c3,m3,w3]
   exact Oa
 . rintro σ Hx ⟨ah,bh,mk,ne,p,v2,v3,v4,rfl,g,Ay⟩
   exact k Hx ah bh mk ne p (g1.trans g) Ay
end
abbrev pJ:Stmt:=inClass (top 7) 5
section
variable (C CO CP:Addr)
inductive Az(vs:List V) (H:Hp) (Q:VK):Prop
 | mk (ad:Sl->Addr) (S:SS) (h1:vs=[.ref (ad .self)]) (R:Rep C CO CP H ad S) (k:Q (iV S.cuts.length) H)
def vw:Sp:=λvs H Q _=>Az C CO CP vs H Q
inductive yN(vs:List V) (H:Hp) (Q:VK):Prop
 | mk (ad:Sl->Addr) (S:SS) (h1:vs=[.ref (ad .self)]) (R:Rep C CO CP H ad S) (hn:S.n<=1000) (k:∀(H':Hp) (D:Addr),aC H H'->H D=none->H' D=some (.lst (fl S.n λi=>.int (if S.bits (i+1)=1 then 1 else 0)))->Q (.ref D) H')
def sU:Sp:=λvs H Q _=>yN C CO CP vs H Q
end
theorem Cm:aG ["self"] ["self"] (aB rQ):=fs
theorem AA:aG ["self"] ["self"] (aB pJ):=fs
section
variable {P:Program}{w:World}{K:W.Frag}{mg:Str->Option Value}{base:Heap}{C CO CP:Addr}
theorem Co{f:Addr}{fd:FuncData}(F:aM K "level" "Search.level" rQ f fd)(T:dZ K mg C)(O:Own mg):aD P w K mg base aT 1 f fd ["self"] (vw C CO CP):=by
 refine F.run Cm λa6 A outer s H vs Q E hr h=>?_
 obtain⟨ad,S,rfl,R,k⟩:=h
 refine⟨_,(av (aY (aJ a7 (by rfl) O.len X5 (aa (aw (pv 0) rfl) ak)))),?_⟩
 refine⟨_,rfl,ad .self,_,_,_,_,rfl,Rep.s R,T.cl,T.cuts,iU,ad .cuts,_,rfl,.inl (ax.of (R.at_ (s:=.cuts) rfl)),?_⟩
 rw[Xl]
 exact k
theorem AB{f:Addr}{fd:FuncData}(F:aM K "choice" "Search.choice" pJ f fd)(T:dZ K mg C):aD P w K mg base aT 1 f fd ["self"] (sU C CO CP):=by
 refine F.run AA λa6 A outer s H vs Q E hr h=>?_
 obtain⟨ad,S,rfl,R,hn,k⟩:=h
 refine⟨_,(av (aY (gu (N:=["bit"]) (js:=[none]) (by kernel_rfl) rfl (b7 (fR gQ (aw (pv 0) rfl) (gd au) (gd (aV fq (aw (pv 0) rfl) au)))) (λ_ _ _ _ _ _=>(aL (i:=0) (show (["bit"]:List Str).Nodup from dk) rfl (Or.inl rfl) (.inr rfl))) (λ_ _ _ _ _ _=>dj) (λ_ _ _ _ _ _=>(oZ (aX (c7 (pv 0) au)) au au))))),?_⟩
 refine⟨_,rfl,ad .self,_,_,_,_,rfl,Rep.s R,T.cl,T.bits,eZ,_,rfl,_,rfl,ad .self,_,_,_,_,rfl,Rep.s R,T.cl,T.size,rA,_,_,rfl,rfl,_,rfl,ad .bits,_,rfl,ax.of (R.at_ (s:=.bits) rfl),λp hp=>?_⟩
 have ec:gs (fl (2*S.n+1) λi=>V.int (S.bits i)) (some 1) (some ((S.n:Int)+1))=fl S.n λi=>V.int (S.bits (i+1)):=by
  unfold gs
  rw[show HT.iC (fl (2*S.n+1) λi=>V.int (S.bits i)).length 0 (some 1)=1 from(by rw[aR];exact(HT.n9 _ _ 1).trans (by omega)),show HT.iC (fl (2*S.n+1) λi=>V.int (S.bits i)).length (fl (2*S.n+1) λi=>V.int (S.bits i)).length (some ((S.n:Int)+1))=S.n+1 from(by rw[aR];exact(HT.n9 _ _ (S.n+1)).trans (by omega)),aaP]
  refine Zz λi=>?_
  rw[Yv]
  split
  . rename_i h
    rw[aaM,iJ (by omega),iJ h,aal]
  . rename_i h
    rw[X3 (by rw[aR];omega)]
 rw[ec]
 refine⟨p,rfl,⟨_,ax.of aj⟩,λD hD=>?_⟩
 have nD:D≠p:=λe=>by rw[e,aj]at hD;cases hD
 have TN:H D=none:=by rw[ag nD]at hD;exact hD
 refine lA (xs:=fl S.n λi=>V.int (S.bits (i+1))) (ys:=fl S.n λi=>.int (if S.bits (i+1)=1 then 1 else 0)) (cap:=[]) (by rw[aR,aR]) (λi x y Hx R' hx hy sx hR=>?_) hD aj (by rw[aR];exact XS hn (by decide)) (λH3 sm ku=>?_)
 . have hi:i<S.n:=by have:=aO hx;rwa[aR]at this
   rw[iJ hi]at hx hy
   cases hx
   cases hy
   refine⟨_,rfl,_,_,rfl,rfl,_,rfl,?_⟩
   by_cases e:S.bits (i+1)=1
   . refine bX (Xw e) ?_
     rw[XO e]at hR
     exact hR
   . refine cc (Xz e) ?_
     rw[XW e]at hR
     exact hR
 . exact k H3 D (λb o hb=>sm b o (by rw[ag (aq hb hp)];exact hb)) TN ku
end
abbrev vx:Stmt:=inClass (top 7) 13
abbrev d5(H:Hp)(t:Addr)(q:Nat×Int):Prop:=H t=some (.tup [iV q.1,.int q.2])
section
variable (C CO CP:Addr) (wants:List Int)
inductive Fg(vs:List V) (H:Hp) (Q:VK):Prop
 | mk (ad:Sl->Addr) (S:SS) (p r:Nat) (sd cd:Addr) (h1:vs=[.ref (ad .self),iV r,.ref sd,.ref cd]) (R:Rep C CO CP H ad S) (I:Iv wants S) (hL:0<S.cuts.length) (hc:∀c∈S.cuts,c<=p) (cl:tO S p r) (hn:S.n<=1000) (hs:H sd=some (.dK [])) (hh:H cd=some (.lst [])) (ns:¬ cB C CO CP ad S sd) (nc:¬ cB C CO CP ad S cd)
  (kk:∀(H':Hp) (sn:List Nat) (ts:List Addr) (ch:List (Nat×Int)) (q:Nat) (x:Int),de H H' sd cd->H' sd=some (.dK (a8 sn))->H' cd=some (.lst (ts.map V.ref))->Paired (d5 H') ts ch->ch.length<=S.T.length->sn.Nodup->(∀v∈sn,v∈S.T.map Int.natAbs)->S.T[q]?=some x->x.natAbs∈sn->S.lev x.natAbs=S.cuts.length->(∀v∈sn,S.lev v=S.cuts.length->(q:Int)<=S.pla v)->fh S.held ch (Cn S.T (λv=>v∈sn) (λ_=>False) 0 (q+1))->Q (.int x) H')
def AD:Sp:=λvs H Q _=>Fg C CO CP wants vs H Q
end
abbrev IA:List Str:=["self", "clash", "seen", "chain", "level", "reason", "pivot", "place", "waiting", "literal", "variable"]
theorem eK:aG IA ["self", "clash", "seen", "chain"] (aB vx):=fs
theorem qC{T:List Int}{sn:List Nat}(nd:sn.Nodup)(h:∀v∈sn,v∈T.map Int.natAbs):sn.length<=T.length:=by
 have:=nd.length_le_of_subset h
 rwa[Xl]at this
section
variable {P:Program}{w:World}{K:W.Frag}{mg:Str->Option Value}{base:Heap}{C CO CP:Addr}{wants:List Int}
theorem Fh{f:Addr}{fd:FuncData}(F:aM K "singled_out" "Search.singled_out" vx f fd)(T:dZ K mg C)(O:Own mg)(hA:mg "abs" = none):aD P w K mg base aT 1 f fd ["self", "clash", "seen", "chain"] (AD C CO CP wants):=by
 refine F.run eK λa6 A outer s H vs Q E hr h=>?_
 obtain⟨ad,S,p,r,sd,cd,rfl,R,I,hL,QI,⟨c0,vy,TQ,x0,TR,AE⟩,hn,hs,hh,ns,nc,kk⟩:=h
 have hu:=jI hr
 refine⟨_,(ae (aQ 4 eK.nd (aJ a7 (by rfl) O.len X5 (aa (aw (pv 0) rfl) ak)))
  (ae (aQ 5 eK.nd (pv 1))
  (ae (aQ 6 eK.nd au)
  (ae (aQ 7 eK.nd (aJ a7 (by rfl) O.len X5 (aa (aw (pv 0) rfl) ak)))
  (ae (aQ 8 eK.nd au)
  (av (iL XX (i9 fo)
   (ae (aK (cV XD XG XH bz (pv 3) (aa (gy (aa (pv 5) (aa (pv 6) ak))) ak)))
   (ae (cJ XX rfl (b7 (aF (r:=aZ K) ay (aw (pv 0) rfl) (pv 5) (λ_ _=>rfl))) (aL (i:=9) eK.nd rfl (Or.inl rfl))
    (ae (aQ 10 eK.nd (aJ c6 (by rfl) hA X4 (aa (pv 9) ak)))
    (av (bR (aX (kE hu (pv 10) (pv 2)))
     (ae (iu hu (pv 2) (pv 10) fo rfl)
     (av (bR (aX (c7 (aF (r:=aZ K) ay (aw (pv 0) rfl) (pv 10) (λ_ _=>rfl)) (pv 4)))
      (av (mQ (i:=8) eK.nd rfl (Or.inl rfl) au ze)) br))) br))))
   (ae (mQ (i:=7) eK.nd rfl (Or.inl rfl) au ua)
   (ae (iL XX (aX (kE hu (aJ c6 (by rfl) hA X4 (aa (aF (r:=aZ K) ay (aw (pv 0) rfl) (pv 7) (λ_ _=>rfl)) ak)) (pv 2)))
    (av (mQ (i:=7) eK.nd rfl (Or.inl rfl) au ua)))
   (ae (aQ 6 eK.nd (aF (r:=aZ K) ay (aw (pv 0) rfl) (pv 7) (λ_ _=>rfl)))
   (ae (mQ (i:=8) eK.nd rfl (Or.inl rfl) au ua)
   (ae (bR (aX (c7 (pv 8) au))
    (av (aY (pv 6))) br)
   (av (aQ 5 eK.nd (aF (r:=aZ K) ay (aw (pv 0) rfl) (aJ c6 (by rfl) hA X4 (aa (pv 6) ak)) (λ_ _=>rfl)))))))))))))))))),?_⟩
 have rep:∀{Hx:Hp},de H Hx sd cd->Rep C CO CP Hx ad S:=λf=>R.vd f ns nc (λxs e=>by rw[hs]at e;cases e) (λxs e=>by rw[hh]at e;cases e)
 have sc:sd≠cd:=d8 hs hh (by intro z;cases z)
 have tl:=I.bk.len
 refine⟨_,rfl,ad .self,_,_,_,_,rfl,(Rep.s R),T.cl,T.cuts,iU,ad .cuts,_,rfl,.inl (ax.of (R.at_ (s:=.cuts) rfl)),?_⟩
 rw[Xl]
 refine⟨_,rfl,?_⟩
 refine rG ?_
 refine⟨_,rfl,ad .self,_,_,_,_,rfl,(Rep.s R),T.cl,T.trail,d3,ad .trail,_,rfl,.inl (ax.of (R.at_ (s:=.trail) rfl)),?_⟩
 rw[Xl]
 refine rG ?_
 refine⟨λm σ Hx=>∃(rs:Nat) (pv:Int) (pl:Nat) (sn:List Nat) (ch:List (Nat×Int)) (c:List Int) (ts:List Addr) (v9 v10:Option V),m=pl/\σ=[some (.ref (ad .self)),some (iV r),some (.ref sd),some (.ref cd),some (iV S.cuts.length),some (iV rs),some (.int pv),some (iV pl),some (iV (iD S.lev S.pla S.cuts.length pl sn)),v9,v10]/\de H Hx sd cd/\Hx sd=some (.dK (a8 sn))/\Hx cd=some (.lst (ts.map V.ref))/\Paired (d5 Hx) ts ch/\ch.length+pl<=S.T.length/\Hd S rs pv pl sn ch c,
  ⟨_,r,0,S.T.length,[],[],c0,[],none,none,rfl,rfl,de.refl _ _ _,hs,hh,.nil,by rw[YA,aaX];exact Xv _,Hd.first I vy TQ TR AE QI⟩,?_⟩
 rintro m σ Hx ⟨rs,pv,pl,sn,ch,c,ts,v9,v10,rfl,rfl,fr,gp,cE,h9,AF,hd⟩
 refine⟨_,rfl,iE ⟨λσ Hx=>∃(lu:Nat) (rs:Nat) (pv:Int) (sn:List Nat) (ch:List (Nat×Int)) (c:List Int) (ts:List Addr) (v9 v10:Option V),lu<m/\σ=[some (.ref (ad .self)),some (iV r),some (.ref sd),some (.ref cd),some (iV S.cuts.length),some (iV rs),some (.int pv),some (iV lu),some (iV (iD S.lev S.pla S.cuts.length lu sn)),v9,v10]/\de H Hx sd cd/\Hx sd=some (.dK (a8 sn))/\Hx cd=some (.lst (ts.map V.ref))/\Paired (d5 Hx) ts ch/\ch.length+lu<=S.T.length/\Hd S rs pv lu sn ch c,?_,?_⟩⟩
 . rintro bq H' ⟨lu,rs,pv,sn,ch,c,ts,v9,v10,eF,rfl,q⟩
   exact⟨lu,eF,rs,pv,lu,sn,ch,c,ts,v9,v10,rfl,rfl,q⟩
 have pll:=hd.pll
 have IB:=h9.length
 refine⟨_,rfl,.inl ⟨rfl,_,ax.of cE⟩,_,rfl,_,rfl,(by show 2<=sizeLine;decide),λt ht=>?_⟩
 have nt:cd≠t:=aq cE ht
 refine⟨cd,_,_,rfl,rfl,by rw[ag nt];exact cE,(by rw[Xl];exact hZ (by omega)),?_⟩
 have vz:de H (upd (upd Hx t (.tup [iV rs,.int pv])) cd (.lst (ts.map V.ref++[.ref t]))) sd cd:=fr.trans ((de.new ht).trans de.at2)
 have vA:(upd (upd Hx t (.tup [iV rs,.int pv])) cd (.lst (ts.map V.ref++[.ref t]))) sd=some (.dK (a8 sn)):=by rw[ag sc,ag (aq gp ht)];exact gp
 have vB:(upd (upd Hx t (.tup [iV rs,.int pv])) cd (.lst (ts.map V.ref++[.ref t]))) cd=some (.lst ((ts++[t]).map V.ref)):=by rw[aj,Xx];rfl
 have vC:Paired (d5 (upd (upd Hx t (.tup [iV rs,.int pv])) cd (.lst (ts.map V.ref++[.ref t])))) (ts++[t]) (ch++[(rs,pv)]):=by
  refine Ze (Paired.bQ h9 λa b e=>?_) ?_
  . have:a≠cd:=d8 e cE (by intro z;cases z)
    show upd _ _ _ a=_
    rw[ag this,ag (aq e ht)];exact e
  . show upd _ _ _ t=_
    rw[ag nt.symm,aj]
 generalize upd (upd Hx t (.tup [iV rs,.int pv])) cd (.lst (ts.map V.ref++[.ref t]))=H1 at vz vA vB vC ⊢
 clear fr gp cE h9 ht nt
 have R1:=rep vz
 refine⟨_,rfl,ad .self,_,_,_,_,rfl,(Rep.s R1),T.cl,T.held,eX,_,rfl,ad .held,_,_,.ref (ad (.cl rs)),rfl,rfl,ax.of (R1.at_ (s:=.held) rfl),bY (aO hd.hc),ad (.cl rs),rfl,⟨_,ax.of (R1.eI hd.hc)⟩,?_⟩
 have uW:=I.wat.hcl c (Xn hd.hc)
 have DQ:∀{aN:List Nat}{i:Nat},(∀v,v∈aN ↔ v∈sn\/∃x∈c.take i,x.natAbs=v)->∀v∈aN,v∈S.T.map Int.natAbs:=λh v hv=>by
  rcases (h v).mp hv with z|⟨y,hy,rfl⟩
  . exact hd.inT v z
  . rcases hd.low y (Yu hy) with z|z
    . exact hd.inT _ z
    . exact(jV I z).1
 refine dh (xs:=c.map V.int) (λi σ Hx=>∃(aN:List Nat) (v9 v10:Option V),σ=[some (.ref (ad .self)),some (iV r),some (.ref sd),some (.ref cd),some (iV S.cuts.length),some (iV rs),some (.int pv),some (iV m),some (iV (iD S.lev S.pla S.cuts.length m aN)),v9,v10]/\de H Hx sd cd/\Hx sd=some (.dK (a8 aN))/\Hx cd=some (.lst ((ts++[t]).map V.ref))/\Paired (d5 Hx) (ts++[t]) (ch++[(rs,pv)])/\aN.Nodup/\∀v,v∈aN ↔ v∈sn\/∃x∈c.take i,x.natAbs=v)
  ⟨sn,v9,v10,rfl,vz,vA,vB,vC,hd.nd,λv=>⟨.inl,λz=>z.elim id λ⟨x,hx,_⟩=>by rw[Yy]at hx;cases hx⟩⟩ ?_ ?_ ?_
 . rintro i σ Hy hi ⟨aN,v9,v10,rfl,fr,_⟩
   exact ax.of ((rep fr).eI hd.hc)
 . rintro i xv σ Hy aU ⟨aN,v9,v10,rfl,fr,gp,cE,h9,nK,dE⟩
   obtain⟨l,hl,rfl⟩:∃l,c[i]?=some l/\xv=.int l:=by
    rw[Xt]at aU
    cases e:c[i]? with
    | none=>rw[e]at aU;cases aU
    | some j=>rw[e]at aU;exact⟨j,rfl,(Xq aU).symm⟩
   have lo:=uW.ok l (Xn hl)
   refine⟨_,rfl,l,rfl,?_⟩
   rw[dv]
   have step:∀{jv:List Nat},(∀v,v∈jv ↔ v∈aN\/v=l.natAbs)->∀v,v∈jv ↔ v∈sn\/∃x∈c.take (i+1),x.natAbs=v:=λh v=>by
    rw[h,dE,Yg,hl]
    constructor
    . rintro ((z|⟨y,hy,e⟩)|z)
      . exact .inl z
      . exact .inr ⟨y,XF _ hy,e⟩
      . exact .inr ⟨l,Xu _ (by simp),z.symm⟩
    . rintro (z|⟨y,hy,e⟩)
      . exact .inl (.inl z)
      . rcases Xp.mp hy with hy|hy
        . exact .inl (.inr ⟨y,hy,e⟩)
        . have:y=l:=by simpa using hy
          exact .inr (by rw[← e,this])
   refine⟨_,rfl,_,rfl,sd,_,rfl,gc.k (k:=.inl (l.natAbs:Int)) gp,_,rfl,?_⟩
   rw[ll]
   by_cases em:l.natAbs∈aN
   . refine cc (by rw[Xw em];rfl) ?_
     exact⟨aN,_,_,rfl,fr,gp,cE,h9,nK,step λv=>⟨.inl,λz=>z.elim id λz=>z ▸ em⟩⟩
   . refine bX (by rw[Xz em];rfl) ?_
     have DR:=qC nK (DQ dE)
     refine⟨_,rfl,_,rfl,sd,_,rfl,jB.k (k:=.inl (l.natAbs:Int)) gp (by rw[eJ];exact hZ (by omega)),?_⟩
     rw[ox em]
     have vd:=fr.trans (de.xE (H:=Hy) (a:=sd) (b:=cd) (o:=.dK (a8 (aN++[l.natAbs]))))
     have R2:=rep vd
     have lt : -l∈S.T.take m:=(hd.low l (Xn hl)).resolve_left λz=>em ((dE _).mpr (.inl z))
     have AG:=E5 (lev:=S.lev) (L:=S.cuts.length) (sn:=aN) (jV I lt).2
     have sV:(aN++[l.natAbs]).Nodup:=by
      rw[Ye]
      exact⟨nK,X6.mpr ⟨Yf,Yb⟩,λa ha b hb e=>em (by rw[Xm.mp hb]at e;exact e ▸ ha)⟩
     have IC:Paired (d5 (upd Hy sd (.dK (a8 (aN++[l.natAbs]))))) (ts++[t]) (ch++[(rs,pv)]):=Paired.bQ h9 λa b e=>by
      show upd _ _ _ a=_
      rw[ag (d8 e gp (by intro z;cases z))];exact e
     have ID:∀v,v∈aN++[l.natAbs] ↔ v∈aN\/v=l.natAbs:=λv=>by rw[Xp,Xm]
     refine⟨_,rfl,ad .self,_,_,_,_,rfl,(Rep.s R2),T.cl,T.levels,fG,_,rfl,ad .levels,_,_,.int (S.lev l.natAbs),rfl,rfl,ax.of (R2.at_ (s:=.levels) rfl),bY (by omega),_,rfl,_,_,rfl,rfl,_,rfl,?_⟩
     by_cases el:S.lev l.natAbs=S.cuts.length
     . refine bX (Xw el) ⟨_,rfl,_,_,rfl,rfl,?_⟩
       rw[XO el]at AG
       exact⟨_,_,_,by rw[show (iV (iD S.lev S.pla S.cuts.length m (aN++[l.natAbs])))=V.int ((iD S.lev S.pla S.cuts.length m aN:Nat)+1:Int) from congrArg V.int AG];rfl,vd,aj,by rw[ag sc.symm];exact cE,IC,sV,step ID⟩
     . refine cc (Xz el) ?_
       rw[XW el,Int.add_zero]at AG
       exact⟨_,_,_,by rw[show (iV (iD S.lev S.pla S.cuts.length m (aN++[l.natAbs])))=iV (iD S.lev S.pla S.cuts.length m aN) from congrArg V.int AG];rfl,vd,aj,by rw[ag sc.symm];exact cE,IC,sV,step ID⟩
 rintro σ Hy ⟨aN,Ob,IE,rfl,fr,gp,cE,h9,nK,dE⟩
 have Cp:=DQ dE
 rw[Xl,XU]at dE
 have R2:=rep fr
 have ex:∃v∈aN,S.lev v=S.cuts.length/\S.pla v<m:=by
  rcases hd.some_ with⟨v,hv,h1,h2⟩|⟨y,hy,h1,h2⟩
  . exact⟨v,(dE v).mpr (.inl hv),h1,h2⟩
  . exact⟨_,(dE _).mpr (.inr ⟨y,hy,rfl⟩),h1,(jV I h2).2⟩
 obtain⟨v0,IF,Xa,TU⟩:=ex
 obtain⟨i0,y0,Oc,rfl,e1,e2⟩:=eR I (Cp v0 IF)
 rw[e1]at TU
 have WR:i0<m:=by omega
 refine⟨_,rfl,_,_,rfl,rfl,?_⟩
 refine⟨λz σ Hz=>∃q:Nat,z=q/\σ=[some (.ref (ad .self)),some (iV r),some (.ref sd),some (.ref cd),some (iV S.cuts.length),some (iV rs),some (.int pv),some (iV q),some (iV (iD S.lev S.pla S.cuts.length m aN)),Ob,IE]/\Hy=Hz/\q<m/\i0<=q/\∀i y,q<i->i<m->S.T[i]?=some y->y.natAbs∉aN,
  ⟨_,m-1,rfl,by rw[show V.int ((m:Int)-1)=iV (m-1) from congrArg V.int (by omega)];rfl,rfl,by omega,by omega,λi y h1 h2=>by omega⟩,?_⟩
 rintro z σ Hz ⟨q,rfl,rfl,rfl,hq,NB,gap⟩
 obtain⟨x,hx⟩:∃x,S.T[z]?=some x:=⟨_,Xo (by omega)⟩
 have xo:=I.bk.lit x (Xn hx)
 refine⟨_,rfl,ad .self,_,_,_,_,rfl,Rep.s R2,T.cl,T.trail,d3,_,rfl,ad .trail,_,_,.int x,rfl,rfl,ax.of (R2.at_ (s:=.trail) rfl),bt (by rw[Xt,hx];rfl),x,rfl,?_⟩
 rw[dv]
 refine⟨_,rfl,sd,_,rfl,gc.k (k:=.inl (x.natAbs:Int)) gp,_,rfl,?_⟩
 rw[ll]
 by_cases em:x.natAbs∈aN
 . refine cc (by rw[Xw em];rfl) ?_
   obtain⟨_,lq,AG,ke⟩:=hd.next I dE nK hq hx em gap
   refine⟨_,rfl,ad .self,_,_,_,_,rfl,(Rep.s R2),T.cl,T.trail,d3,_,rfl,ad .trail,_,_,.int x,rfl,rfl,ax.of (R2.at_ (s:=.trail) rfl),bt (by rw[Xt,hx];rfl),?_⟩
   refine⟨_,rfl,_,_,rfl,rfl,?_⟩
   have ew:V.int ((iD S.lev S.pla S.cuts.length m aN:Nat)-1:Int)=iV (iD S.lev S.pla S.cuts.length z aN):=congrArg V.int (by omega)
   refine⟨_,rfl,_,_,rfl,rfl,_,rfl,?_⟩
   by_cases e0:iD S.lev S.pla S.cuts.length z aN=0
   . refine bX (Xw (by show ((iD S.lev S.pla S.cuts.length m aN:Nat):Int)-1=0;omega)) ⟨_,rfl,?_⟩
     refine kk Hy aN (ts++[t]) (ch++[(rs,pv)]) z x fr gp cE h9 (by rw[Xs,XE];omega) nK Cp hx em lq (λv hv hl=>?_) ke
     rcases Int.lt_or_le (S.pla v) z with y|y
     . exfalso
       have:0<iD S.lev S.pla S.cuts.length z aN:=aaG.mpr ⟨v,hv,by rw[Xw hl,Xw y];rfl⟩
       omega
     . exact y
   . refine cc (Xz (by show ¬ (((iD S.lev S.pla S.cuts.length m aN:Nat):Int)-1=0);omega)) ?_
     obtain⟨TV,c',sP,hd'⟩:=Hd.step I hx em nK Cp lq hL (Nat.pos_of_ne_zero e0) ke
     refine⟨_,rfl,ad .self,_,_,_,_,rfl,(Rep.s R2),T.cl,T.reasons,iA,_,rfl,x,rfl,?_⟩
     rw[dv]
     refine⟨ad .reasons,_,_,oV (S.rea x.natAbs),rfl,rfl,ax.of (R2.at_ (s:=.reasons) rfl),bY (by omega),?_⟩
     rw[sP]
     exact⟨z,TV,x,aN,_,c',_,_,_,hq,by rw[← ew];rfl,fr,gp,cE,h9,by rw[Xs,XE];omega,hd'⟩
 . refine bX (by rw[Xz em];rfl) ⟨λbq Hz=>bq=[some (.ref (ad .self)),some (iV r),some (.ref sd),some (.ref cd),some (iV S.cuts.length),some (iV rs),some (.int pv),some (iV (z-1)),some (iV (iD S.lev S.pla S.cuts.length m aN)),Ob,IE]/\Hy=Hz,?_,?_⟩
   . rintro bq H' ⟨rfl,rfl⟩
     have ne:i0≠z:=λe=>by
      subst e
      rw[Oc]at hx
      cases hx
      exact em IF
     refine⟨z-1,by omega,z-1,rfl,rfl,rfl,by omega,by omega,λi y h1 h2 h3=>?_⟩
     by_cases ei:i=z
     . subst ei
       rw[hx]at h3
       cases h3
       exact em
     . exact gap i y (by omega) h2 h3
   . refine⟨_,rfl,_,_,rfl,rfl,?_,rfl⟩
     have:i0≠z:=λe=>by
      subst e
      rw[Oc]at hx
      cases hx
      exact em IF
     rw[show V.int ((z:Int)-1)=iV (z-1) from congrArg V.int (by omega)]
     rfl
end
end Gen
namespace L2
open PySem PySem.Spec PyProof.Rows
section
variable {X:Cx}
theorem jX(ns:List Int):(ns.map V.int).all jH=true:=by
 rw[ZE]
 intro z hz
 obtain⟨n,_,rfl⟩:=XJ.mp hz
 rfl
end
theorem IG(bs:List Bool):((List.range bs.length).any λi=>(bs[i]?).getD false)=bs.any _root_.id:=by
 rw[Za,Yw,Yw]
 constructor
 . rintro⟨i,hi,h⟩
   have gf:=YL.mp hi
   rw[Xo gf]at h
   exact⟨bs[i],List.getElem_mem gf,h⟩
 . rintro⟨b,hb,h⟩
   obtain⟨i,hi,e⟩:=List.getElem_of_mem hb
   refine⟨i,YL.mpr hi,?_⟩
   rw[Xo hi,e]
   exact h
theorem rR{X:Cx}(hc:X.calm=true):ir X (.builtin "any") (λxs H Q=>∃(p:Addr) (bs:List Bool),xs=[.ref p]/\ax X.K H p (bs.map V.bl)/\Q (.bl (bs.any _root_.id)) H):=by
 intro pins s σ H xs us Q I r h
 obtain⟨p,bs,rfl,hp,q⟩:=h
 obtain⟨u,rfl,rx⟩:=vals1 r
 cases(show u=Value.ref p from rx)
 obtain⟨its,rv,pl,hz⟩:=I.list hp
 have hl:=pl.isList
 have hlen:bs.length=its.length:=by
  have:=rv.length
  rw[Xl]at this
  exact this
 have eF:p<s.heap.objs.size:=by obtain⟨_,e,_⟩:=hl;exact XR e
 refine call_any_walk (ZU hl ?_)
 refine⟨s.heap.objs.size,[s.heap.objs.size,p],[s.heap.objs.size],its.toArray.size,_,_,λi=>(bs[i]?).getD false,rfl,Walks.list (A:=X.A.in1) (by show X.A.in1.handled=none;exact I.ok.hd hc) _ p (XZ eF) its.toArray,
  ⟨⟨_,Yd _ rfl,rfl,rfl⟩,hl.push _⟩,λi v s' Q' E' hP hQ=>?_,λh' tk hk=>?_⟩
 . have hi:its[i]?=some v:=by simpa using hP
   have IH:i<bs.length:=by
    have:=(Xr.mp hi).1
    omega
   obtain⟨w',e1,e2⟩:=rv.get (x:=.bl bs[i]) (by rw[Xt,Xo IH];rfl)
   rw[hi]at e1
   cases e1
   cases(show v=Value.bool bs[i] from e2)
   simp only[Xo IH,Option.getD_some]at hQ
   exact Zx hQ
 . have e:((List.range its.toArray.size).any λi=>(bs[i]?).getD false)=bs.any _root_.id:=by
    rw[XN,← hlen]
    exact IG bs
   rw[e]
   exact⟨.bl _,H,I.kept (t':=tk) (λb o eb=>hk b o (λhm=>by rw[Xm.mp hm]at eb;exact YU _ (XR eb)) (XC _ eb)),rfl,q⟩
section
variable {X:Cx}
end
section
variable {X:Cx}{N:List Str}{js:List (Option Nat)}{scope:Scope}{elt tg iter:Expr}{ifs:List Expr}{pos:Pos}{wi:TI}{g:TG}{ti:TT}{te:TE}
end
section
variable {X:Cx}
def II(tD:Hp)(t:TS):TS:=λD σ H=>t {D with nx:=λwC H1=>∃d o kvs,H1 d=some (.cX o (.dK kvs))/\(∀o' u,tD d≠some (.cX o' u))/\D.nx wC (upd H1 d (.dK kvs))} σ H
theorem xN{st:Stmt}{t:TS}(h:PS X st t):PS X st (II X.tD t):=by
 intro pins s σ H D I q
 refine aS (h pins s σ H _ I q) λf s1 hf=>?_
 cases f with
 | next=>
  obtain⟨wC,H1,I1,d,o,kvs,e,hn,q1⟩:=hf
  exact⟨wC,_,I1.HV e hn,q1⟩
 | _=>exact hf
end
end L2
namespace Gen
open PySem L2 Sat
abbrev rS:Stmt:=inClass (top 7) 14
abbrev vD:Stmt:=inClass (top 7) 15
abbrev vE:Stmt:=inClass (top 7) 16
section
variable (C CO CP:Addr) (wants:List Int)
inductive Cq(vs:List V) (H:Hp) (Q:VK):Prop
 | mk (ad:Sl->Addr) (S:SS) (v:Nat) (h1:vs=[.ref (ad .self),iV v]) (R:Rep C CO CP H ad S) (hv:v<=S.n) (kk:Q (.bl (decide (S.lev v<S.cuts.length))) H)
def rT:Sp:=λvs H Q _=>Cq C CO CP vs H Q
inductive Fi(vs:List V) (H:Hp) (Q:VK):Prop
 | mk (ad:Sl->Addr) (S:SS) (v:Nat) (sd:Addr) (sn:List Nat) (h1:vs=[.ref (ad .self),iV v,.ref sd]) (R:Rep C CO CP H ad S) (I:Iv wants S) (hv:v∈S.T.map Int.natAbs) (hs:Rd H sd (.dK (a8 sn))) (kk:∀b:Bool,(b=true->Nl S sn v)->Q (.bl b) H)
def AH:Sp:=λvs H Q _=>Fi C CO CP wants vs H Q
end
theorem AI{i:Nat}{x:V}{σ:St}{H:Hp}{A B:St->Hp->Prop}(h:A (σ.set i (some x)) H):ee i x σ H (λgr H2=>lS gr H2 (λb H3=>if b=true then A gr H3 else B gr H3)):=by
 show (if true=true then A (σ.set i (some x)) H else B (σ.set i (some x)) H)
 rw[XO rfl]
 exact h
theorem Cr:aG ["self", "variable"] ["self", "variable"] (aB rS):=fs
abbrev IJ:List Str:=["self", "variable", "seen", "reason", "literal"]
theorem rV:aG IJ ["self", "variable", "seen"] (aB vE):=fs
section
variable {P:Program}{w:World}{K:W.Frag}{mg:Str->Option Value}{base:Heap}{C CO CP:Addr}{wants:List Int}
theorem Cs{f:Addr}{fd:FuncData}(F:aM K "is_lower" "Search.is_lower" rS f fd)(T:dZ K mg C)(O:Own mg):aD P w K mg base aT 1 f fd ["self", "variable"] (rT C CO CP):=by
 refine F.run Cr λa6 A outer s H vs Q E hr h=>?_
 obtain⟨ad,S,v,rfl,R,hv,kk⟩:=h
 refine⟨_,(av (aY (pT (nX (aF (r:=aZ K) ay (aw (pv 0) rfl) (pv 1) (λ_ _=>rfl)) (aJ a7 (by rfl) O.len X5 (aa (aw (pv 0) rfl) ak)))))),?_⟩
 refine⟨_,rfl,ad .self,_,_,_,_,rfl,(Rep.s R),T.cl,T.levels,fG,_,rfl,ad .levels,_,_,_,rfl,rfl,ax.of (R.at_ (s:=.levels) rfl),bY (by omega),_,rfl,ad .self,_,_,_,_,rfl,(Rep.s R),T.cl,T.cuts,iU,ad .cuts,_,rfl,.inl (ax.of (R.at_ (s:=.cuts) rfl)),_,_,rfl,rfl,?_⟩
 rw[Xl]
 exact kk
theorem Fj{f:Addr}{fd:FuncData}(F:aM K "is_needless" "Search.is_needless" vE f fd)(T:dZ K mg C)(hA:mg "abs" = none):aD P w K mg base aT 1 f fd ["self", "variable", "seen"] (AH C CO CP wants):=by
 refine F.run rV λa6 A outer s H vs Q E hr h=>?_
 obtain⟨ad,S,v,sd,sn,rfl,R,I,hv,hs,kk⟩:=h
 have hu:=jI hr
 refine⟨_,(ae (aQ 3 rV.nd (aF (r:=aZ K) ay (aw (pv 0) rfl) (pv 1) (λ_ _=>rfl)))
  (ae (bR (PW.pt (Df (aX (pS (pv 3))) (za (aX (c7 (aF (r:=aZ K) ay (aw (pv 0) rfl) (pv 1) (λ_ _=>rfl)) au)))))
   (av (aY fo)) br)
  (ae (cJ XX rfl (b7 (aF (r:=aZ K) ay (aw (pv 0) rfl) (pv 3) (λ_ _=>rfl))) (aL (i:=4) rV.nd rfl (Or.inl rfl))
   (av (bR (PW.pt (ja (aX (kE hu (aJ c6 (by rfl) hA X4 (aa (pv 4) ak)) (pv 2))) (iq (aX (j6 (aF (r:=aZ K) ay (aw (pv 0) rfl) (aJ c6 (by rfl) hA X4 (aa (pv 4) ak)) (λ_ _=>rfl)) au)))))
    (av (aY fo)) br)))
  (av (aY fo))))),?_⟩
 obtain⟨i,x,hi,rfl,e1,e2⟩:=eR I hv
 have vn:x.natAbs<=S.n:=(I.bk.lit x (Xn hi)).2
 have rs:=(I.tok.at_ i x hi).2.2
 refine⟨_,rfl,ad .self,_,_,_,_,rfl,(Rep.s R),T.cl,T.reasons,iA,_,rfl,ad .reasons,_,_,oV (S.rea x.natAbs),rfl,rfl,ax.of (R.at_ (s:=.reasons) rfl),bY (by omega),?_⟩
 refine⟨_,rfl,_,rfl,?_⟩
 cases er:S.rea x.natAbs with
 | none=>exact iE (iE (kk false (λz=>by cases z)))
 | some r=>
  rw[er]at rs
  obtain⟨c,hc,uF,ho⟩:=rs
  refine eP ⟨_,rfl,ad .self,_,_,_,_,rfl,(Rep.s R),T.cl,T.levels,fG,_,rfl,ad .levels,_,_,.int (S.lev x.natAbs),rfl,rfl,ax.of (R.at_ (s:=.levels) rfl),bY (by omega),_,_,rfl,rfl,_,rfl,?_⟩
  by_cases el:S.lev x.natAbs=0
  . exact bX (Xw el) (kk false (λz=>by cases z))
  refine cc (Xz el) ?_
  refine⟨_,rfl,ad .self,_,_,_,_,rfl,Rep.s R,T.cl,T.held,eX,_,rfl,ad .held,_,_,.ref (ad (.cl r)),rfl,rfl,ax.of (R.at_ (s:=.held) rfl),bY (aO hc),ad (.cl r),rfl,⟨_,ax.of (R.eI hc)⟩,?_⟩
  have uW:=I.wat.hcl c (Xn hc)
  refine dh (xs:=c.map V.int) (λj σ Hx=>∃v4:Option V,σ=[some (.ref (ad .self)),some (iV x.natAbs),some (.ref sd),some (iV r),v4]/\H=Hx/\∀y∈c.take j,y.natAbs∈sn\/S.lev y.natAbs=0)
   ⟨none,rfl,rfl,λy hy=>by rw[Yy]at hy;cases hy⟩ ?_ ?_ ?_
  . rintro j σ Hx hj ⟨v4,rfl,rfl,_⟩
    exact ax.of (R.eI hc)
  . rintro j xv σ Hx nM ⟨v4,rfl,rfl,hy⟩
    obtain⟨l,hl,rfl⟩:∃l,c[j]?=some l/\xv=.int l:=by
     rw[Xt]at nM
     cases e:c[j]? with
     | none=>rw[e]at nM;cases nM
     | some j=>rw[e]at nM;exact⟨j,rfl,(Xq nM).symm⟩
    have lm:=Xn hl
    have ln:=(uW.ok l lm).2
    have lv:l.natAbs∈S.T.map Int.natAbs:=by
     by_cases e:l=x
     . rw[e];exact hv
     . exact(jV I (ho l lm e)).1
    have l0:0<=S.lev l.natAbs:=by
     obtain⟨i',x',_,_,_,e⟩:=eR I lv
     omega
    have tk:(l.natAbs∈sn\/S.lev l.natAbs=0)->∀y∈c.take (j+1),y.natAbs∈sn\/S.lev y.natAbs=0:=λh y uq=>by
     rw[Yg,hl]at uq
     rcases Xp.mp uq with z|z
     . exact hy y z
     . have:y=l:=by simpa using z
       rw[this];exact h
    refine⟨_,rfl,l,rfl,?_⟩
    rw[dv]
    refine⟨_,rfl,sd,_,rfl,.inl ⟨_,.inl (l.natAbs:Int),hs,rfl,rfl⟩,_,rfl,?_⟩
    rw[ll]
    by_cases em:l.natAbs∈sn
    . exact cc (by rw[Xw em];rfl) (eP ⟨_,rfl,rfl,tk (.inl em)⟩)
    . refine bX (by rw[Xz em];rfl) ⟨_,rfl,ad .self,_,_,_,_,rfl,Rep.s R,T.cl,T.levels,fG,_,rfl,l,rfl,?_⟩
      rw[dv]
      refine⟨ad .levels,_,_,.int (S.lev l.natAbs),rfl,rfl,ax.of (R.at_ (s:=.levels) rfl),bY (by omega),_,_,rfl,rfl,_,rfl,?_⟩
      by_cases ez:S.lev l.natAbs=0
      . exact cc (Xz (by omega)) ⟨_,rfl,rfl,tk (.inr ez)⟩
      . exact bX (Xw (by omega)) (kk false (λz=>by cases z))
  . rintro σ Hx ⟨v4,rfl,rfl,hy⟩
    rw[Xl,XU]at hy
    exact kk true λ_=>⟨r,c,er,hc,hy⟩
end
section
variable (C CO CP:Addr) (wants:List Int)
inductive Fl(vs:List V) (H:Hp) (Q:VK):Prop
 | mk (ad:Sl->Addr) (S:SS) (sd cd:Addr) (sn:List Nat) (ts:List Addr) (ch:List (Nat×Int)) (q:Nat) (x:Int) (h1:vs=[.ref (ad .self),.ref sd,.ref cd]) (R:Rep C CO CP H ad S) (I:Iv wants S) (hn:S.n<=60) (hs:H sd=some (.dK (a8 sn))) (cE:H cd=some (.lst (ts.map V.ref))) (h9:Paired (d5 H) ts ch) (AF:ch.length<=S.T.length)
  (ns:¬ cB C CO CP ad S sd) (nc:¬ cB C CO CP ad S cd) (nd:sn.Nodup) (inT:∀v∈sn,v∈S.T.map Int.natAbs) (hx:S.T[q]?=some x) (lq:S.lev x.natAbs=S.cuts.length) (k:fh S.held ch (Cn S.T (λv=>v∈sn) (λ_=>False) 0 (q+1)))
  (kk:∀(H':Hp) (dd:Addr) (aN nl:List Nat) (gG:List Addr) (jw:List (Nat×Int)),de H H' sd cd->H' sd=some (.dK (a8 aN))->H' cd=some (.lst (gG.map V.ref))->Paired (d5 H') gG jw->H dd=none->H' dd=some (.dK (a8 nl))->nl.Nodup->(∀v∈nl,v∈sn/\S.lev v<S.cuts.length)->Nd S q sn nl 0 aN jw->jw.length<=200->Q (.ref dd) H')
def AJ:Sp:=λvs H Q _=>Fl C CO CP wants vs H Q
end
abbrev IK:List Str:=["self", "seen", "chain", "needless", "variable", "place", "pivot", "reason", "literal"]
theorem jE:aG IK ["self", "seen", "chain"] (aB vD):=fs
section
variable {P:Program}{w:World}{K:W.Frag}{mg:Str->Option Value}{base:Heap}{C CO CP:Addr}{wants:List Int}
theorem Fm{f fL fN:Addr}{fd dL dN:FuncData}(F:aM K "join_needless" "Search.join_needless" vD f fd)(T:dZ K mg C)(O:Own mg)(hA:mg "abs" = none)(qB:mg "sorted" = none) (gL:aD P w K mg base aT 1 fL dL ["self", "variable"] (rT C CO CP)) (mL:Meth K C "is_lower" fL) (bL:Binds K dL ["self", "variable"] [])
 (gN:aD P w K mg base aT 1 fN dN ["self", "variable", "seen"] (AH C CO CP wants)) (mN:Meth K C "is_needless" fN) (bN:Binds K dN ["self", "variable", "seen"] []):aD P w K mg base aT 2 f fd ["self", "seen", "chain"] (AJ C CO CP wants):=by
 refine F.run jE λa6 A outer s H vs Q E hr h=>?_
 obtain⟨ad,S,sd,cd,sn,ts,ch,q,x,rfl,R,I,hn,hs,cE,h9,AF,ns,nc,nd,inT,hx,lq,hk,kk⟩:=h
 have hu:=jI hr
 refine⟨_,(ae (aQ 3 jE.nd jC)
  (ae (xN (cJ XX rfl (lj (pv 1)) (aL (i:=4) jE.nd rfl (Or.inl rfl))
   (av (bR (PW.pt (ja (i9 (cQ (pv 0) T.cl mL gL hr bL (aa (pv 4) ak))) (iq (i9 (cQ (pv 0) T.cl mN gN hr bN (aa (pv 4) (aa (pv 1) ak)))))))
    (av (iu hu (pv 3) (pv 4) fo rfl)) br))))
  (ae (cJ XX rfl (b7 (vi (by rfl) qB (aa (rO (gu (N:=["variable", "self"]) (js:=[none,some 0]) (te:=(oF (aZ K) (o8 K (eU 1) "places") (eU 0))) (by kernel_rfl) rfl (lj (pv 3)) (λ_ _ _ _ _ _=>(aL (i:=0) (show (["variable", "self"]:List Str).Nodup from dk) rfl (Or.inl rfl) (.inr rfl))) (λ_ _ _ _ _ _=>dj) (λ_ _ _ _ _ _=>(aF (r:=aZ K) ay (aw (pv 1) rfl) (pv 0) (λ_ _=>rfl))))) ak))) (aL (i:=5) jE.nd rfl (Or.inl rfl))
   (ae (aQ 6 jE.nd (aF (r:=aZ K) ay (aw (pv 0) rfl) (pv 5) (λ_ _=>rfl)))
   (ae (aQ 7 jE.nd (aF (r:=aZ K) ay (aw (pv 0) rfl) (aJ c6 (by rfl) hA X4 (aa (pv 6) ak)) (λ_ _=>rfl)))
   (ae (aK (cV XD XG XH bz (pv 2) (aa (gy (aa (pv 7) (aa (pv 6) ak))) ak)))
   (av (cJ XX rfl (b7 (aF (r:=aZ K) ay (aw (pv 0) rfl) (pv 7) (λ_ _=>rfl))) (aL (i:=8) jE.nd rfl (Or.inl rfl))
    (av (iu hu (pv 1) (aJ c6 (by rfl) hA X4 (aa (pv 8) ak)) fo rfl))))))))
  (av (aY (pv 3)))))),?_⟩
 have rep:∀{Hx:Hp},de H Hx sd cd->Rep C CO CP Hx ad S:=λf=>R.vd f ns nc (λxs e=>by rw[hs]at e;cases e) (λxs e=>by rw[cE]at e;cases e)
 have sc:sd≠cd:=d8 hs cE (by intro z;cases z)
 have tl:=I.bk.len
 have DR:=qC nd inT
 refine λdd jU=>?_
 have vF:dd≠sd:=(aq hs jU).symm
 have Ct:dd≠cd:=(aq cE jU).symm
 have mr:(upd H dd (.dK [])) sd=some (.dK (a8 sn)):=by rw[ag vF.symm];exact hs
 refine⟨_,rfl,sd,_,rfl,mr,λo=>?_⟩
 have f1:de H (upd (upd H dd (.dK [])) sd (.cX o (.dK (a8 sn)))) sd cd:=(de.new jU).trans de.xE
 have c1:(upd (upd H dd (.dK [])) sd (.cX o (.dK (a8 sn)))) cd=some (.lst (ts.map V.ref)):=by rw[ag sc.symm,ag Ct.symm];exact cE
 have d1:(upd (upd H dd (.dK [])) sd (.cX o (.dK (a8 sn)))) dd=some (.dK (a8 [])):=by rw[ag vF,aj];rfl
 generalize TX:upd (upd H dd (.dK [])) sd (.cX o (.dK (a8 sn)))=H1 at f1 c1 d1 ⊢
 have s1:H1 sd=some (.cX o (.dK (a8 sn))):=by rw[← TX];exact aj
 refine Cf (kvs:=a8 sn) (o:=o) (λi σ Hx=>∃(nl:List Nat) (v4:Option V),σ=[some (.ref (ad .self)),some (.ref sd),some (.ref cd),some (.ref dd),v4,none,none,none,none]/\de H Hx sd cd/\Hx sd=some (.cX o (.dK (a8 sn)))/\Hx cd=some (.lst (ts.map V.ref))/\Hx dd=some (.dK (a8 nl))/\nl.Nodup/\(∀v∈nl,v∈sn.take i)/\∀v∈nl,S.lev v<S.cuts.length/\Nl S sn v)
  ⟨[],none,rfl,f1,s1,c1,d1,Yb,λv hv=>(by cases hv),λv hv=>(by cases hv)⟩ ?_ ?_ ?_
 . rintro i σ Hx hi ⟨nl,v4,rfl,_,h,_⟩
   exact h
 . rintro i kv σ Hx dG ⟨nl,v4,rfl,fx,sx,cx,dx,qD,jT,mj⟩
   obtain⟨v,hv,rfl⟩:∃v,sn[i]?=some v/\kv=((.inl (v:Int):Key),V.bl true):=by
    unfold a8 at dG
    rw[Xt]at dG
    cases e:sn[i]? with
    | none=>rw[e]at dG;cases dG
    | some j=>rw[e]at dG;exact⟨j,rfl,(Xq dG).symm⟩
   have vm:=Xn hv
   have vT:=inT v vm
   obtain⟨iv,xv,vG,rfl,e1,e2⟩:=eR I vT
   have vn:xv.natAbs<=S.n:=(I.bk.lit xv (Xn vG)).2
   have Rx:=rep fx
   have more:∀v∈nl,v∈sn.take (i+1):=λu hu=>Zi sn (YY i) (jT u hu)
   refine⟨_,rfl,ad .self,_,_,rfl,Rep.s Rx,by kernel_rfl,_,rfl,ad,S,xv.natAbs,rfl,Rx,vn,_,rfl,?_⟩
   by_cases el:S.lev xv.natAbs<S.cuts.length
   . refine bX (Xw el) ⟨_,rfl,ad .self,_,_,rfl,Rep.s Rx,by kernel_rfl,_,rfl,_,rfl,ad,S,xv.natAbs,sd,sn,rfl,Rx,I,vT,.inr ⟨o,sx⟩,λb hb=>⟨b,rfl,?_⟩⟩
     cases b with
     | false=>exact eP ⟨nl,_,rfl,fx,sx,cx,dx,qD,more,mj⟩
     | true=>
      refine iE ?_
      have Od:xv.natAbs∉nl:=λz=>by
       obtain⟨j,hj,Oe⟩:=iP (jT _ z)
       have pw:=X9.mp nd
       have:=pw j i (aO Oe) (aO hv) hj
       rw[(Xr.mp Oe).2,(Xr.mp hv).2]at this
       exact this rfl
      have TY:nl.length<=sn.length:=qD.length_le_of_subset λu hu=>Yu (jT u hu)
      refine⟨_,rfl,_,rfl,dd,_,rfl,jB.k (k:=.inl (xv.natAbs:Int)) dx (by rw[eJ];exact hZ (by omega)),?_⟩
      rw[ox Od]
      refine⟨nl++[xv.natAbs],_,rfl,?_,by rw[ag vF.symm];exact sx,by rw[ag Ct.symm];exact cx,aj,?_,λu hu=>?_,λu hu=>?_⟩
      . intro b u hb n1 n2
        rw[ag (aq hb jU)]
        exact fx b u hb n1 n2
      . rw[Ye]
        exact⟨qD,X6.mpr ⟨Yf,Yb⟩,λa ha b hb e=>Od (by rw[Xm.mp hb]at e;exact e ▸ ha)⟩
      . rcases Xp.mp hu with hu|hu
        . exact more u hu
        . rw[Xm.mp hu];exact uE hv (YE _)
      . rcases Xp.mp hu with hu|hu
        . exact mj u hu
        . rw[Xm.mp hu];exact⟨el,hb rfl⟩
   . exact cc (Xz el) (eP ⟨nl,_,rfl,fx,sx,cx,dx,qD,more,mj⟩)
 rintro σ Hx ⟨nl,v4,rfl,fx,sx,cx,dx,qD,jT,mj⟩
 rw[eJ,XU]at jT
 refine⟨sd,o,a8 sn,sx,λo' u z=>(by have z:H sd=some (.cX o' u):=z;rw[hs]at z;cases z),?_⟩
 have f2:de H (upd Hx sd (.dK (a8 sn))) sd cd:=fx.trans de.xE
 have c2:(upd Hx sd (.dK (a8 sn))) cd=some (.lst (ts.map V.ref)):=by rw[ag sc.symm];exact cx
 have d2:(upd Hx sd (.dK (a8 sn))) dd=some (.dK (a8 nl)):=by rw[ag vF];exact dx
 have p2:Paired (d5 (upd Hx sd (.dK (a8 sn)))) ts ch:=Paired.bQ h9 λa b e=>f2 a _ e (d8 e hs (by intro z;cases z)) (d8 e cE (by intro z;cases z))
 generalize TZ:upd Hx sd (.dK (a8 sn))=H2 at f2 c2 d2 p2 ⊢
 have s2:H2 sd=some (.dK (a8 sn)):=by rw[← TZ];exact aj
 clear fx sx cx dx s1 c1 d1 f1
 have TY:nl.length<=sn.length:=qD.length_le_of_subset jT
 have DS:∀v∈nl,v∈S.T.map Int.natAbs:=λv hv=>inT v (jT v hv)
 refine⟨_,rfl,dd,_,rfl,d2,λo2=>λD hD=>?_⟩
 have DT:D≠dd:=λe=>by rw[e,aj]at hD;cases hD
 have oT:H2 D=none:=by rw[ag DT]at hD;exact hD
 refine lU (a8 nl).length (λi acc σ H9=>acc=(nl.take i).map (λv=>V.int (S.pla v))/\(∃u,σ=[u,some (.ref (ad .self))])/\H9 dd=some (.cX o2 (.dK (a8 nl)))/\∀b u,H2 b=some u->b≠dd->H9 b=some u)
  ⟨rfl,⟨none,rfl⟩,by rw[ag DT.symm,aj],λb u hb n=>by rw[ag (aq hb oT),ag n];exact hb⟩ aj ?_ ?_
 . rintro acc σ H9 Of ⟨rfl,_,iH,s9⟩
   rw[eJ,XU]at Of
   refine⟨⟨iH,rfl⟩,dd,o2,a8 nl,iH,λo' u z=>(by have z:H dd=some (.cX o' u):=z;rw[jU]at z;cases z),?_⟩
   have e9:nl.map (λv=>V.int (S.pla v))=(nl.map S.pla).map V.int:=by rw[Y5];rfl
   refine⟨D,nl.map S.pla,rfl,ax.of (by rw[ag DT,Of,e9]),(by rw[Xl];omega),λD2 ms kQ pm po=>?_⟩
   have f3:∀b u,H2 b=some u->(upd (upd H9 dd (.dK (a8 nl))) D2 (.lst (ms.map V.int))) b=some u:=λb u hb=>by
    have n1:b≠D2:=λe=>by
     rw[← e]at kQ
     by_cases q:b=dd
     . rw[q,aj]at kQ;cases kQ
     . rw[ag q,s9 b u hb q]at kQ;cases kQ
    rw[ag n1]
    by_cases q:b=dd
    . rw[q,aj];rw[q,d2]at hb;exact hb
    . rw[ag q];exact s9 b u hb q
   refine⟨D2,rfl,⟨_,ax.of aj⟩,?_⟩
   have Og:(upd (upd H9 dd (.dK (a8 nl))) D2 (.lst (ms.map V.int))) D2=some (.lst (ms.map V.int)):=aj
   have IL:∀b u,H2 b=some u->b≠D2:=λb u hb e=>by
    rw[← e]at kQ
    by_cases q:b=dd
    . rw[q,aj]at kQ;cases kQ
    . rw[ag q,s9 b u hb q]at kQ;cases kQ
   have f4:de H (upd (upd H9 dd (.dK (a8 nl))) D2 (.lst (ms.map V.int))) sd cd:=λb u hb n1 n2=>f3 b u (f2 b u hb n1 n2)
   have s4:=f3 sd _ s2
   have c4:=f3 cd _ c2
   have d4:=f3 dd _ d2
   have p4:Paired (d5 (upd (upd H9 dd (.dK (a8 nl))) D2 (.lst (ms.map V.int)))) ts ch:=Paired.bQ p2 λa b e=>f3 a _ e
   generalize upd (upd H9 dd (.dK (a8 nl))) D2 (.lst (ms.map V.int))=H4 at Og f4 s4 c4 d4 p4 ⊢
   have ky:D2≠sd:=(IL sd _ s2).symm
   have T1:D2≠cd:=(IL cd _ c2).symm
   have Xb:dd≠D2:=IL dd _ d2
   have pos:∀m∈ms,∃(i:Nat) (y:Int),m=i/\S.T[i]?=some y/\y.natAbs∈nl:=λm hm=>by
    obtain⟨v,hv,rfl⟩:=XJ.mp (pm.mem_iff.mp hm)
    obtain⟨i,y,hi,rfl,e1,_⟩:=eR I (DS v hv)
    exact⟨i,y,e1,hi,hv⟩
   have back:∀(i:Nat) (y:Int),S.T[i]?=some y->y.natAbs∈nl->(i:Int)∈ms:=λi y hi hy=>pm.mem_iff.mpr (XJ.mpr ⟨_,hy,(I.tok.at_ i y hi).1⟩)
   have IM:ms.Nodup:=by
    refine pm.nodup_iff.mpr ?_
    rw[List.Nodup,YN]
    refine Zo (λ{a b} ha hb ne e=>ne ?_) qD
    obtain⟨i,y,hi,rfl,e1,_⟩:=eR I (DS a ha)
    obtain⟨j,z,hj,rfl,e3,_⟩:=eR I (DS b hb)
    have:i=j:=by omega
    subst this
    rw[hi]at hj
    rw[Xq hj]
   have low:∀m∈ms,m<(q:Int)+1:=λm hm=>by
    obtain⟨i,y,rfl,hi,hy⟩:=pos m hm
    have l1:=(mj _ hy).1
    have e1:=(I.tok.at_ i y hi).2.1
    have e2:=(I.tok.at_ q x hx).2.1
    rcases Yn q i with z|z
    . have:=lV (cuts:=S.cuts) (X7 z)
      omega
    . omega
   have WS:ms.length=nl.length:=by rw[pm.length_eq,Xl]
   refine dh (xs:=ms.map V.int) (λi σ Hx=>∃(aN:List Nat) (gG:List Addr) (jw:List (Nat×Int)) (t:Nat) (v5 v6 v7 v8:Option V),σ=[some (.ref (ad .self)),some (.ref sd),some (.ref cd),some (.ref dd),v4,v5,v6,v7,v8]/\de H Hx sd cd/\Hx D2=some (.lst (ms.map V.int))/\Hx sd=some (.dK (a8 aN))/\Hx cd=some (.lst (gG.map V.ref))/\Hx dd=some (.dK (a8 nl))/\Paired (d5 Hx) gG jw/\jw.length<=S.T.length+i/\Nd S q sn nl t aN jw/\(∀j m,i<=j->ms[j]?=some m->m<t)/\∀j m,j<i->ms[j]?=some m->(t:Int)<=m)
    ⟨sn,ts,ch,q+1,none,none,none,none,rfl,f4,Og,s4,c4,d4,p4,AF,Nd.start nd inT hk,λj m _ hm=>by have:=low m (Xn hm);omega,λj m hj _=>by omega⟩ ?_ ?_ ?_
   . rintro i σ Hz hi ⟨_,_,_,_,_,_,_,_,_,_,h,_⟩
     exact ax.of h
   . rintro i xv σ Hz aU ⟨aN,gG,jw,t,v5,v6,v7,v8,rfl,fz,mz,sz,cz,dz,pz,lz,N,Oh,AK⟩
     obtain⟨m,hm,rfl⟩:∃m,ms[i]?=some m/\xv=.int m:=by
      rw[Xt]at aU
      cases e:ms[i]? with
      | none=>rw[e]at aU;cases aU
      | some j=>rw[e]at aU;exact⟨j,rfl,(Xq aU).symm⟩
     obtain⟨t',y,rfl,hy,IP⟩:=pos m (Xn hm)
     have il:=aO hm
     obtain⟨r,c,sP,hc,Aq⟩:=(mj _ IP).2
     have Rz:=rep fz
     have yn:y.natAbs<=S.n:=(I.bk.lit y (Xn hy)).2
     have ht:t'<t:=by have:=Oh i _ (Xv _) hm;omega
     have HY:t'<q+1:=by have:=low _ (Xn hm);omega
     have pw:=X9.mp po
     have rs:=(I.tok.at_ t' y hy).2.2
     rw[sP]at rs
     obtain⟨c',gb,WT,jq⟩:=rs
     rw[hc]at gb
     cases gb
     refine⟨_,rfl,ad .self,_,_,_,_,rfl,Rep.s Rz,T.cl,T.trail,d3,_,rfl,ad .trail,_,_,.int y,rfl,rfl,ax.of (Rz.at_ (s:=.trail) rfl),bt (by rw[Xt,hy];rfl),?_⟩
     refine⟨_,rfl,ad .self,_,_,_,_,rfl,Rep.s Rz,T.cl,T.reasons,iA,_,rfl,y,rfl,?_⟩
     rw[dv]
     refine⟨ad .reasons,_,_,oV (S.rea y.natAbs),rfl,rfl,ax.of (Rz.at_ (s:=.reasons) rfl),bY (by omega),?_⟩
     rw[sP,show oV (some r)=iV r from rfl]
     refine⟨_,rfl,.inl ⟨rfl,_,ax.of cz⟩,_,rfl,_,rfl,(by show 2<=sizeLine;decide),λtt kr=>?_⟩
     have nt:cd≠tt:=aq cz kr
     have IB:=pz.length
     refine⟨cd,_,_,rfl,rfl,by rw[ag nt];exact cz,(by rw[Xl];exact hZ (by omega)),?_⟩
     have vz:de H (upd (upd Hz tt (.tup [iV r,.int y])) cd (.lst (gG.map V.ref++[.ref tt]))) sd cd:=fz.trans ((de.new kr).trans de.at2)
     have vA:(upd (upd Hz tt (.tup [iV r,.int y])) cd (.lst (gG.map V.ref++[.ref tt]))) sd=some (.dK (a8 aN)):=by rw[ag sc,ag (aq sz kr)];exact sz
     have IQ:(upd (upd Hz tt (.tup [iV r,.int y])) cd (.lst (gG.map V.ref++[.ref tt]))) dd=some (.dK (a8 nl)):=by rw[ag Ct,ag (aq dz kr)];exact dz
     have IS:(upd (upd Hz tt (.tup [iV r,.int y])) cd (.lst (gG.map V.ref++[.ref tt]))) D2=some (.lst (ms.map V.int)):=by rw[ag T1,ag (aq mz kr)];exact mz
     have vB:(upd (upd Hz tt (.tup [iV r,.int y])) cd (.lst (gG.map V.ref++[.ref tt]))) cd=some (.lst ((gG++[tt]).map V.ref)):=by rw[aj,Xx];rfl
     have vC:Paired (d5 (upd (upd Hz tt (.tup [iV r,.int y])) cd (.lst (gG.map V.ref++[.ref tt])))) (gG++[tt]) (jw++[(r,y)]):=by
      refine Ze (Paired.bQ pz λa b e=>?_) ?_
      . have:a≠cd:=d8 e cz (by intro z;cases z)
        show upd _ _ _ a=_
        rw[ag this,ag (aq e kr)];exact e
      . show upd _ _ _ tt=_
        rw[ag nt.symm,aj]
     generalize upd (upd Hz tt (.tup [iV r,.int y])) cd (.lst (gG.map V.ref++[.ref tt]))=H5 at vz vA IQ IS vB vC ⊢
     have R5:=rep vz
     refine⟨_,rfl,ad .self,_,_,_,_,rfl,Rep.s R5,T.cl,T.held,eX,_,rfl,ad .held,_,_,.ref (ad (.cl r)),rfl,rfl,ax.of (R5.at_ (s:=.held) rfl),bY (aO hc),ad (.cl r),rfl,⟨_,ax.of (R5.eI hc)⟩,?_⟩
     have DQ:∀{jv:List Nat}{i:Nat},(∀v,v∈jv ↔ v∈aN\/∃z∈c.take i,z.natAbs=v)->∀v∈jv,v∈S.T.map Int.natAbs:=λh v hv=>by
      rcases (h v).mp hv with z|⟨z,hz,rfl⟩
      . exact N.inT v z
      . by_cases e:z=y
        . rw[e];exact XJ.mpr ⟨y,Xn hy,rfl⟩
        . exact(jV I (jq z (Yu hz) e)).1
     refine dh (xs:=c.map V.int) (λj σ Hw=>∃(jv:List Nat) (v8:Option V),σ=[some (.ref (ad .self)),some (.ref sd),some (.ref cd),some (.ref dd),v4,some (iV t'),some (.int y),some (iV r),v8]/\de H Hw sd cd/\Hw D2=some (.lst (ms.map V.int))/\Hw sd=some (.dK (a8 jv))/\Hw cd=some (.lst ((gG++[tt]).map V.ref))/\Hw dd=some (.dK (a8 nl))/\Paired (d5 Hw) (gG++[tt]) (jw++[(r,y)])/\jv.Nodup/\∀v,v∈jv ↔ v∈aN\/∃z∈c.take j,z.natAbs=v)
      ⟨aN,v8,rfl,vz,IS,vA,vB,IQ,vC,N.nd,λv=>⟨.inl,λz=>z.elim id λ⟨x,hx,_⟩=>by rw[Yy]at hx;cases hx⟩⟩ ?_ ?_ ?_
     . rintro j σ Hw hj ⟨jv,v8,rfl,fw,_⟩
       exact ax.of ((rep fw).eI hc)
     . rintro j xv σ Hw nM ⟨jv,v8,rfl,fw,mw,sw,cw,dw,IT,sV,dE⟩
       obtain⟨l,hl,rfl⟩:∃l,c[j]?=some l/\xv=.int l:=by
        rw[Xt]at nM
        cases e:c[j]? with
        | none=>rw[e]at nM;cases nM
        | some j=>rw[e]at nM;exact⟨j,rfl,(Xq nM).symm⟩
       have l2:=qC sV (DQ dE)
       have step:∀{qE:List Nat},(∀v,v∈qE ↔ v∈jv\/v=l.natAbs)->∀v,v∈qE ↔ v∈aN\/∃z∈c.take (j+1),z.natAbs=v:=λh v=>by
        rw[h,dE,Yg,hl]
        constructor
        . rintro ((z|⟨z,hz,e⟩)|z)
          . exact .inl z
          . exact .inr ⟨z,XF _ hz,e⟩
          . exact .inr ⟨l,Xu _ (by simp),z.symm⟩
        . rintro (z|⟨z,hz,e⟩)
          . exact .inl (.inl z)
          . rcases Xp.mp hz with hz|hz
            . exact .inl (.inr ⟨z,hz,e⟩)
            . have:z=l:=by simpa using hz
              exact .inr (by rw[← e,this])
       refine⟨_,rfl,_,rfl,l,rfl,?_⟩
       rw[dv]
       refine⟨sd,_,rfl,jB.k (k:=.inl (l.natAbs:Int)) sw (by rw[eJ];exact hZ (by omega)),?_⟩
       have fin:∀qE:List Nat,de H (upd Hw sd (.dK (a8 qE))) sd cd/\(upd Hw sd (.dK (a8 qE))) D2=some (.lst (ms.map V.int))/\(upd Hw sd (.dK (a8 qE))) cd=some (.lst ((gG++[tt]).map V.ref))/\(upd Hw sd (.dK (a8 qE))) dd=some (.dK (a8 nl))/\Paired (d5 (upd Hw sd (.dK (a8 qE)))) (gG++[tt]) (jw++[(r,y)]):=λqE=>
        ⟨fw.trans de.xE,by rw[ag ky];exact mw,by rw[ag sc.symm];exact cw,by rw[ag vF];exact dw,Paired.bQ IT λa b e=>by
         show upd _ _ _ a=_
         rw[ag (d8 e sw (by intro z;cases z))];exact e⟩
       by_cases em:l.natAbs∈jv
       . rw[vf em]
         obtain⟨q1,q2,q3,q4,q5⟩:=fin jv
         exact⟨jv,_,rfl,q1,q2,aj,q3,q4,q5,sV,step λv=>⟨.inl,λz=>z.elim id λz=>z ▸ em⟩⟩
       . rw[ox em]
         obtain⟨q1,q2,q3,q4,q5⟩:=fin (jv++[l.natAbs])
         refine⟨_,_,rfl,q1,q2,aj,q3,q4,q5,?_,step λv=>by rw[Xp,Xm]⟩
         rw[Ye]
         exact⟨sV,X6.mpr ⟨Yf,Yb⟩,λa ha b hb e=>em (by rw[Xm.mp hb]at e;exact e ▸ ha)⟩
     . rintro σ Hw ⟨jv,v8,rfl,fw,mw,sw,cw,dw,IT,sV,dE⟩
       rw[Xl,XU]at dE
       refine⟨jv,_,_,t',_,_,_,_,rfl,fw,mw,sw,cw,dw,IT,by rw[Xs,XE];omega,N.step I hy ht HY IP (jT _ IP) sP hc Aq dE sV λi' y' h1 h2 h3 h4=>?_,λj m' hj sW=>?_,λj m' hj sW=>?_⟩
       . obtain⟨j,hj⟩:=X2.mp (back i' y' h3 h4)
         rcases Z0 j i with z|z|z
         . have:=AK j _ z hj
           omega
         . subst z
           rw[hm]at hj
           have:=Xq hj
           omega
         . have:=pw i j il (aO hj) z
           rw[(Xr.mp hm).2,(Xr.mp hj).2]at this
           omega
       . have z:i<j:=by omega
         have a1:=pw i j il (aO sW) z
         rw[(Xr.mp hm).2,(Xr.mp sW).2]at a1
         have a2:=X9.mp IM i j il (aO sW) z
         rw[(Xr.mp hm).2,(Xr.mp sW).2]at a2
         omega
       . by_cases e:j=i
         . subst e
           rw[hm]at sW
           have:=Xq sW
           omega
         . have:=AK j m' (by omega) sW
           omega
   . rintro σ Hz ⟨aN,gG,jw,t,v5,v6,v7,v8,rfl,fz,mz,sz,cz,dz,pz,lz,N,Oh,AK⟩
     rw[Xl]at AK lz
     refine⟨_,rfl,kk Hz dd aN nl gG jw fz sz cz pz jU dz qD (λv hv=>⟨jT v hv,(mj v hv).1⟩) (N.fin λi y h1 h2 h3=>?_) (by omega)⟩
     obtain⟨j,hj⟩:=X2.mp (back i y h2 h3)
     have:=AK j _ (aO hj) hj
     omega
 . rintro i acc σ H9 hi dq ⟨rfl,⟨u,rfl⟩,iH,s9⟩
   rw[eJ]at hi
   refine⟨⟨iH,by rw[eJ];exact hi⟩,?_⟩
   rintro xv H' ⟨rfl,kv,dG,rfl⟩
   obtain⟨v,hv,rfl⟩:∃v,nl[i]?=some v/\kv=((.inl (v:Int):Key),V.bl true):=by
    unfold a8 at dG
    rw[Xt]at dG
    cases e:nl[i]? with
    | none=>rw[e]at dG;cases dG
    | some j=>rw[e]at dG;exact⟨j,rfl,(Xq dG).symm⟩
   have vn:v<=S.n:=by
    obtain⟨iv,xv,vG,rfl,e1,e2⟩:=eR I (DS v (Xn hv))
    exact(I.bk.lit xv (Xn vG)).2
   have f9:de H H' sd cd:=λb u hb n1 n2=>s9 b u (f2 b u hb n1 n2) (aq hb jU)
   have R9:=rep f9
   refine AI ⟨_,rfl,ad .self,_,_,_,_,rfl,Rep.s R9,T.cl,T.places,kH,_,rfl,ad .places,_,_,.int (S.pla v),rfl,rfl,ax.of (R9.at_ (s:=.places) rfl),bY (by omega),?_⟩
   refine⟨_,dq,(by rw[Xl,XY];exact hZ (by omega)),gv (by rw[eJ];exact hi) aj ⟨?_,⟨_,rfl⟩,by rw[ag DT.symm];exact iH,λb u hb n=>by rw[ag (aq hb oT)];exact s9 b u hb n⟩⟩
   rw[Yg,hv,Xx]
   rfl
end
end Gen
namespace L2
open PySem PySem.Spec PyProof.Rows Sat
structure oU(S:SS) (q:Nat) (x:Int) (ps:List Nat) (c:List Int) (ch:List (Nat×Int)):Prop where
 hx:S.T[q]?=some x
 lq:lvl S.cuts q=S.cuts.length
 lt:∀p∈ps,p<S.T.length/\lvl S.cuts p<S.cuts.length
 dn:ps.Pairwise (· > ·)
 hc:c = -x::ps.map λp=>-(S.T[p]?.getD 0)
 k:fh S.held ch (λy=>y∈c)
 lc:ch.length<=200
def ie(cuts:List Nat):List Nat->Nat
 | []=>0
 | p::_=>lvl cuts p
section
variable {wants:List Int}{S:SS}{q:Nat}{x:Int}{ps:List Nat}{c:List Int}{ch:List (Nat×Int)}
theorem oU.lv(h:oU S q x ps c ch)(h0:0<S.cuts.length):∃ck,S.cuts[ie S.cuts ps]?=some ck:=by
 have:ie S.cuts ps<S.cuts.length:=by
  cases ps with
  | nil=>exact h0
  | cons p r=>exact(h.lt p XB).2
 exact⟨_,Xo this⟩
theorem oU.low(h:oU S q x ps c ch) (cs:S.cuts.Pairwise (· < ·)){ck:Nat}(hk:S.cuts[ie S.cuts ps]?=some ck):∀p∈ps,p<ck:=λp hp=>by
 refine(zQ cs hk p).mp ?_
 have dn:=h.dn
 cases ps with
 | nil=>cases hp
 | cons p0 r=>
  show lvl S.cuts p<=lvl S.cuts p0
  rcases XI.mp hp with e|e
  . rw[e];exact Xv _
  . exact lV (X7 ((Zu.mp dn).1 p e))
theorem oU.ge(h:oU S q x ps c ch) (cs:S.cuts.Pairwise (· < ·)){ck:Nat}(hk:S.cuts[ie S.cuts ps]?=some ck):ck<=q:=by
 refine Nat.le_of_not_lt λz=>?_
 have:=(zQ cs hk q).mpr z
 have:=aO hk
 have:=h.lq
 omega
theorem oU.cl(h:oU S q x ps c ch)(A:Iv wants S):cf S.n c:=by
 have tok:=A.tok
 have key:∀p∈ps,∃y,S.T[p]?=some y/\S.T[p]?.getD 0=y:=λp hp=>⟨_,Xo (h.lt p hp).1,by rw[Xo (h.lt p hp).1];rfl⟩
 rw[h.hc]
 refine⟨λl hl=>?_,?_⟩
 . rcases XI.mp hl with e|e
   . have:=tok.lit x (Xn h.hx)
     rw[e]
     exact⟨by omega,by omega⟩
   . obtain⟨p,hp,rfl⟩:=XJ.mp e
     obtain⟨y,hy,e⟩:=key p hp
     have:=tok.lit y (Xn hy)
     rw[e]
     exact⟨by omega,by omega⟩
 . rw[XQ,X6,Y5]
   constructor
   . intro z
     obtain⟨p,hp,e⟩:=XJ.mp z
     obtain⟨y,hy,ey⟩:=key p hp
     have e:(-(S.T[p]?.getD 0)).natAbs=(-x).natAbs:=e
     rw[ey]at e
     have pq:=(tok.inj hy h.hx (by omega)).1
     have l1:=(h.lt p hp).2
     have:=h.lq
     rw[pq]at l1
     omega
   . rw[List.Nodup,YN]
     refine Zo (λ{a b} ha hb gt e=>?_) h.dn
     obtain⟨y,hy,ey⟩:=key a ha
     obtain⟨z,hz,ez⟩:=key b hb
     have e:(-(S.T[a]?.getD 0)).natAbs=(-(S.T[b]?.getD 0)).natAbs:=e
     rw[ey,ez]at e
     have:=(tok.inj hy hz (by omega)).1
     omega
theorem Al.MY(A:Al wants S){p ck:Nat}(wd:Wd S p)(T2:∀d∈S.cuts,d<=p)(h:oU S q x ps c ch)(hk:S.cuts[ie S.cuts ps]?=some ck){S':SS}(n:S'.n=S.n)(g:S'.g=S.g)(held:S'.held=S.held++[c])(eT:S'.T=S.T.take ck++[-x]) (ec:S'.cuts=S.cuts.take (ie S.cuts ps)) (ep:S'.passed=ck)
 (el:S'.lev=fU S.lev x.natAbs (ie S.cuts ps:Nat)) (er:S'.rea=fU S.rea x.natAbs (some S.held.length)) (ea:S'.pla=fU S.pla x.natAbs (ck:Nat)) (eh:S'.ch=fU S.ch S.held.length ch) (ef:S'.left=S.left-1) (T3:S'.spans.length<=S.spans.length+1) (bk:Bk S') (wat:cG S'.n S'.g S'.held S'.wl S'.pl S'.singles) :
 Al wants S'/\Wd S' S'.passed/\mu S'<mu S:=by
 have tok:=A.iv.tok
 have cs:=tok.cs
 have cl:=h.cl A.iv
 have cm:=Xn hk
 have cT:=tok.cl ck cm
 have cq:=h.ge cs hk
 have lT:(S.T.take ck).length=ck:=by rw[XY];omega
 have hx:=h.hx
 have x0:=tok.lit x (Xn hx)
 have QJ:(S.cuts.take (ie S.cuts ps)).length=ie S.cuts ps:=by rw[XY];have:=aO hk;omega
 have nv:(-x).natAbs∉(S.T.take ck).map Int.natAbs:=λz=>by
  obtain⟨y,hy,e⟩:=XJ.mp z
  obtain⟨i,hi,ei⟩:=iP hy
  have:=(tok.inj ei hx (by omega)).1
  omega
 have low:=h.low cs hk
 have inT:∀y∈c,y ≠ -x -> -y∈S.T.take ck:=λy hy ne=>by
  rw[h.hc]at hy
  rcases XI.mp hy with e|e
  . exact absurd e ne
  . obtain⟨p,hp,rfl⟩:=XJ.mp e
    have Dv:=Xo (h.lt p hp).1
    rw[Dv,ZP]
    exact uE Dv (low p hp)
 have xa:(-x).natAbs=x.natAbs:=by omega
 have QK:fj S.n wants (S.held++[c]) (S.T.take ck++[-x]) (S.cuts.take (ie S.cuts ps)) S'.lev S'.pla S'.rea:=by
  refine((tok.ext (b8.app S.held [c])).back hk).put (l:=-x) (r:=some S.held.length) (by omega) (by omega) nv ⟨c,fm,by rw[h.hc];exact XB,λy hy ne=>?_⟩ ?_ ?_ ?_
  . rw[XU];exact inT y hy ne
  . rw[el,xa,QJ];rfl
  . rw[ea,xa,lT];rfl
  . rw[er,xa];rfl
 have hold:∀j d,j<S.g->(S.held++[c])[j]?=some d->S.held[j]?=some d:=λj d hj hd=>by
  have:=A.gl
  rwa[X8 (by omega)]at hd
 have i7:∀l:Int,(l∈S.T/\∀d∈S.cuts,l∈S.T.take d)->l∈S.T.take ck++[-x]/\∀d∈S.cuts.take (ie S.cuts ps),l∈(S.T.take ck++[-x]).take d:=λl hl=>by
  refine⟨XF _ (hl.2 ck cm),λd hd=>?_⟩
  have dc:=kY cs hk hd
  rw[iO (by rw[lT];omega),ZT,Zt (by omega)]
  exact hl.2 d (Yu hd)
 have up:val S.n S.cuts S.T.length<val S.n (S.cuts.take (ie S.cuts ps)) (ck+1):=Hc cm cT tok.len (λz=>YU _ (kY cs hk z)) λi hi=>⟨λz=>zR cs hk z hi,Yu⟩
 have DU:S'.T.length=ck+1:=by rw[eT,Xs,lT];rfl
 refine⟨⟨⟨bk,by rw[n,held,eT,ec];exact QK,wat⟩,by rw[ep,DU];omega,λd hd=>?_,λj d hj hd hl=>?_,λy hy=>?_,?_,λj d hj hd=>?_,?_,?_,by rw[n];exact A.n6,by rw[g];exact A.g1,by rw[held,Xs];exact XS T3 (Nat.succ_le_succ A.sp),λj h1 h2=>(by
  rw[eh]
  by_cases e:j=S.held.length
  . rw[e,aI];exact h.lc
  . rw[aW e]
    rw[held,Xs,XE]at h2
    rw[g]at h1
    exact A.cb j h1 (by omega))⟩,λj a b r hj he=>?_,?_⟩
 . rw[ec]at hd
   rw[ep]
   exact X7 (kY cs hk hd)
 . rw[g]at hj
   rw[held]at hd
   obtain⟨l,h1,h2⟩:=A.s1 j d hj (hold j d hj hd) hl
   rw[eT,ec]
   exact⟨l,h1,i7 l h2⟩
 . rw[eT,ec]
   exact i7 y (A.sw y hy)
 . rw[g,held,Xs]
   exact XS A.gl (Nat.le_add_right _ _)
 . rw[g]at hj
   rw[held]at hd ⊢
   rw[eh]
   rcases qw hd with e|⟨e,ed⟩
   . have:=aO e
     rw[aW (by omega),YK (by omega)]
     exact A.ch j d hj e
   . subst ed
     rw[e,aI,YK (Xv _),XU]
     exact h.k
 . rw[ef,A.lf,held,g,Xs]
   have:=A.gl
   show (100:Int)-_-1=100-((S.held.length+1-S.g:Nat):Int)
   omega
 . rw[held,g,n,ec,DU,Xs]
   have:=A.cn
   have:=A.gl
   show S.held.length+1-S.g<=_
   omega
 . rw[g]at hj
   rw[held]at he
   obtain⟨⟨w1,w2⟩,_⟩:=wd j a b r hj (hold j _ hj he)
   have pc:=T2 ck cm
   have gb:∀d∈S.cuts.take (ie S.cuts ps),d<=(S.T.take ck).length:=λd hd=>by rw[lT];exact X7 (kY cs hk hd)
   rw[eT,ec,ep]
   exact⟨⟨(w1.back cs hk pc).put (by rw[lT];exact Xv _) gb _,(w2.back cs hk pc).put (by rw[lT];exact Xv _) gb _⟩,λz=>z.elim⟩
 . exact rH n tok.len (by rw[DU,n];have:=tok.len;omega) (.inl (by rw[n,ec,DU];exact up))
end
theorem xO{sd D:Addr}{o:Obj}{sn:List Nat}{ti:TT}{cap:St}{f:Nat->Bool}{H:Hp}{Q:Hp->Prop}(ky:D≠sd)(hD:H D=none)(hl:sn.length<=1000)
 (he:∀v∈sn,∀(Hx:Hp) (R:Bool->Hp->Prop),Hx sd=some (.cX o (.dK (a8 sn)))->(∀b u,H b=some u->b≠sd->Hx b=some u)->R (f v) Hx->ti (some (iV v)::cap) Hx R)
 (fin:∀H',H' sd=some (.cX o (.dK (a8 sn)))->(∀b u,H b=some u->b≠sd->H' b=some u)->H' D=some (.lst ((sn.filter f).map iV))->Q H') :
 ∃W:Nat->Nat->St->Hp->Prop,(∃m,W 0 m (none::cap) (upd (upd H sd (.cX o (.dK (a8 sn)))) D (.lst [])))/\nB D (ee 0) ti (eU 0) (vc sd o (a8 sn)) W Q:=by
 have nw:∀{H9:Hp}{o':HO},(∀b u,H b=some u->b≠sd->H9 b=some u)->∀b u,H b=some u->b≠sd->upd H9 D o' b=some u:=λs9 b u hb n=>by rw[ag (aq hb hD)];exact s9 b u hb n
 refine lU (a8 sn).length (λi acc σ H9=>acc=((sn.take i).filter f).map iV/\(∃u,σ=u::cap)/\H9 sd=some (.cX o (.dK (a8 sn)))/\∀b u,H b=some u->b≠sd->H9 b=some u)
  ⟨rfl,⟨none,rfl⟩,by rw[ag ky.symm,aj],nw λb u hb n=>by rw[ag n];exact hb⟩ aj ?_ ?_
 . rintro acc σ H9 dq ⟨rfl,_,iH,s9⟩
   rw[eJ,XU]at dq
   exact⟨⟨iH,rfl⟩,fin H9 iH s9 dq⟩
 . rintro i acc σ H9 hi dq ⟨rfl,⟨u,rfl⟩,iH,s9⟩
   rw[eJ]at hi
   refine⟨⟨iH,by rw[eJ];exact hi⟩,?_⟩
   rintro xv H' ⟨rfl,kv,dG,rfl⟩
   obtain⟨v,hv,rfl⟩:∃v,sn[i]?=some v/\kv=((.inl (v:Int):Key),V.bl true):=by
    unfold a8 at dG
    rw[Xt]at dG
    cases e:sn[i]? with
    | none=>rw[e]at dG;cases dG
    | some j=>rw[e]at dG;exact⟨j,rfl,(Xq dG).symm⟩
   have et:sn.take (i+1)=sn.take i++[v]:=by rw[Yg,hv,YW]
   have gf:i<(a8 sn).length:=by rw[eJ];exact hi
   refine he v (Xn hv) _ _ iH s9 ?_
   cases hf:f v with
   | true=>
    refine(XO rfl:_=_) ▸ ?_
    refine⟨_,rfl,_,dq,?_,gv gf aj ⟨?_,⟨_,rfl⟩,by rw[ag ky.symm];exact iH,nw s9⟩⟩
    . rw[Xl]
      refine XT (XS (Zf _ _) (by rw[XY];omega:_<=1000)) (by decide)
    . rw[et,Zv,Xx,aaa hf]
      rfl
   | false=>
    refine(XW XM:_=_) ▸ ?_
    refine gv gf dq ⟨?_,⟨_,rfl⟩,iH,s9⟩
    rw[et,Zv,aab (by rw[hf];decide)]
    rw[List.filter_nil,Yl]
end L2
namespace Gen
open PySem L2 Sat
abbrev rW:Stmt:=inClass (top 7) 12
section
variable (C CO CP:Addr) (wants:List Int)
inductive Cu(vs:List V) (H:Hp) (Q:VK):Prop
 | mk (ad:Sl->Addr) (S:SS) (p r:Nat) (h1:vs=[.ref (ad .self),iV r]) (R:Rep C CO CP H ad S) (A:Al wants S) (hL:0<S.cuts.length) (wd:Wd S p) (hc:∀c∈S.cuts,c<=p) (cl:tO S p r)
  (k:∀(H':Hp) (bp:Sl->Addr) (S':SS),bp .self=ad .self->Go C CO CP H ad S H' bp S'->Rl S S'->Al wants S'->Wd S' S'.passed->mu S'<mu S->Q .bb H')
def xP:Sp:=λvs H Q _=>Cu C CO CP wants vs H Q
end
abbrev Fn:List Str:=["self", "clash", "seen", "chain", "single", "needless", "others", "places", "clause", "number"]
theorem gx:aG Fn ["self", "clash"] (aB rW):=fs
section
variable {P:Program}{w:World}{K:W.Frag}{mg:Str->Option Value}{base:Heap}{C CO CP:Addr}{wants:List Int}
theorem Cv{f fS fJ fL fK fO fB fP fD:Addr}{fd dS dJ dL dK dO dB dP dD:FuncData}(F:aM K "learn" "Search.learn" rW f fd)(T:dZ K mg C)(TO:jD K mg CO)(TP:vo K mg CP)(O:Own mg)(hA:mg "abs" = none)(qB:mg "sorted" = none)
 (gS:aD P w K mg base aT 1 fS dS ["self", "clash", "seen", "chain"] (AD C CO CP wants)) (mS:Meth K C "singled_out" fS) (bS:Binds K dS ["self", "clash", "seen", "chain"] [])
 (gJ:aD P w K mg base aT 2 fJ dJ ["self", "seen", "chain"] (AJ C CO CP wants)) (mJ:Meth K C "join_needless" fJ) (bJ:Binds K dJ ["self", "seen", "chain"] [])
 (gL:aD P w K mg base aT 1 fL dL ["self", "variable"] (rT C CO CP)) (mL:Meth K C "is_lower" fL) (bL:Binds K dL ["self", "variable"] [])
 (gK:aD P w K mg base aT 2 fK dK ["self", "clause", "chain"] (xH C CO CP)) (mK:Meth K C "keep" fK) (bK:Binds K dK ["self", "clause", "chain"] [])
 (gO:aD P w K mg base aT 4 fO dO ["self", "variables"] (xK C CO CP)) (mO:Meth K CO "put_last" fO) (bO:Binds K dO ["self", "variables"] [])
 (gB:aD P w K mg base aT 3 fB dB ["self", "level"] (rD C CO CP)) (mB:Meth K C "go_back" fB) (bB:Binds K dB ["self", "level"] [])
 (gP:aD P w K mg base aT 1 fP dP ["self", "literal", "reason"] (k7 C CO CP)) (mP:Meth K C "put" fP) (bP:Binds K dP ["self", "literal", "reason"] [])
 (gD:aD P w K mg base aT 1 fD dD ["self"] (DP C CO CP)) (mD:Meth K CP "due" fD) (bD:Binds K dD ["self"] []):aD P w K mg base aT 5 f fd ["self", "clash"] (xP C CO CP wants):=by
 refine F.run gx λa6 A outer s H vs Q E hr h=>?_
 obtain⟨ad,S,p,r,rfl,R,Al,hL,wd,hc,cl,k⟩:=h
 have hu:=jI hr
 have iZ:bx 1 _:=hr.mono (by decide)
 have nN:bx 2 _:=hr.mono (by decide)
 have vH:bx 3 _:=hr.mono (by decide)
 refine⟨_,(ae (aQ 2 gx.nd jC)
  (ae (aQ 3 gx.nd (bj ak))
  (ae (aQ 4 gx.nd (cQ (pv 0) T.cl mS gS iZ bS (aa (pv 1) (aa (pv 2) (aa (pv 3) ak)))))
  (ae (aQ 5 gx.nd (cQ (pv 0) T.cl mJ gJ nN bJ (aa (pv 2) (aa (pv 3) ak))))
  (ae (xN (Dx (i:=6) gx.nd rfl rfl (N:=["variable", "needless", "self"]) (js:=[none,some 5,some 0]) (te:=(eU 0)) (by kernel_rfl) rfl (lj (pv 2)) (λ_ _ _ _ _ _=>(aL (i:=0) (show (["variable", "needless", "self"]:List Str).Nodup from dk) rfl (Or.inl rfl) (.inr rfl))) (λ_ _ _ _ _ _=>(pA (PW.pt (ja (i9 (cQ (pv 2) T.cl mL gL iZ bL (aa (pv 0) ak))) (iq (aX (kE hu (pv 0) (pv 1)))))))) (λ_ _ _ _ _ _=>(pv 0))))
  (ae (aQ 7 gx.nd (vi (by rfl) qB (aa (gu (N:=["variable", "self"]) (js:=[none,some 0]) (te:=(oF (aZ K) (o8 K (eU 1) "places") (eU 0))) (by kernel_rfl) rfl (b7 (pv 6)) (λ_ _ _ _ _ _=>(aL (i:=0) (show (["variable", "self"]:List Str).Nodup from dk) rfl (Or.inl rfl) (.inr rfl))) (λ_ _ _ _ _ _=>dj) (λ_ _ _ _ _ _=>(aF (r:=aZ K) ay (aw (pv 1) rfl) (pv 0) (λ_ _=>rfl)))) ak)))
  (ae (aQ 8 gx.nd (aV hX (bj (aa (f7 eQ (pv 4)) ak)) (gu (N:=["place", "self"]) (js:=[none,some 0]) (te:=(Ng (rU λi=>.int (-i)) (oF (aZ K) (o8 K (eU 1) "trail") (eU 0)))) (by kernel_rfl) rfl (b7 (pv 7)) (λ_ _ _ _ _ _=>(aL (i:=0) (show (["place", "self"]:List Str).Nodup from dk) rfl (Or.inl rfl) (.inr rfl))) (λ_ _ _ _ _ _=>dj) (λ_ _ _ _ _ _=>(f7 eQ (aF (r:=aZ K) ay (aw (pv 1) rfl) (pv 0) (λ_ _=>rfl)))))))
  (ae (aQ 9 gx.nd (cQ (pv 0) T.cl mK gK nN bK (aa (pv 8) (aa (pv 3) ak))))
  (ae (aK (cQ (aw (pv 0) rfl) TO.cl mO gO hr bO (aa (rO (gu (N:=["variable", "self"]) (js:=[none,some 0]) (te:=(eU 0)) (ti:=(tB (Na (oF (aZ K) (o8 K (eU 1) "levels") (eU 0)) (tC (.int 0))))) (by kernel_rfl) rfl (lj (pv 2)) (λ_ _ _ _ _ _=>(aL (i:=0) (show (["variable", "self"]:List Str).Nodup from dk) rfl (Or.inl rfl) (.inr rfl))) (λ_ _ _ _ _ _=>(pA (aX (j6 (aF (r:=aZ K) ay (aw (pv 1) rfl) (pv 0) (λ_ _=>rfl)) au)))) (λ_ _ _ _ _ _=>(pv 0)))) ak)))
  (ae (aK (cQ (pv 0) T.cl mB gB vH bB (aa (oZ (aX (j6 (aJ a7 (by rfl) O.len X5 (aa (pv 8) ak)) au)) (aF (r:=aZ K) ay (aw (pv 0) rfl) (aJ c6 (by rfl) hA X4 (aa (aF (r:=aZ K) ay (pv 8) au (λ_ _=>rfl)) ak)) (λ_ _=>rfl)) au) ak)))
  (ae (aK (cQ (pv 0) T.cl mP gP iZ bP (aa (aF (r:=aZ K) ay (pv 8) au (λ_ _=>rfl)) (aa (pv 9) ak))))
  (av (bR (i9 (jA (aw (pv 0) rfl) TP.cl mD gD iZ bD .nil jf))
   sr br))))))))))))),?_⟩
 have I:=Al.iv
 have n6:=Al.n6
 have noOwn:∀{b:Addr},H b=none->¬ cB C CO CP ad S b:=λhb ⟨s,o,hs,e⟩=>by
  have:=R.st.at_ s o hs
  rw[e,hb]at this
  cases this
 refine λsd gp=>⟨by show 0<=sizeLine;decide,λcd cE=>?_⟩
 have g2:=((Go.refl R).alloc (o:=.dK []) gp).alloc (o:=.lst []) cE
 have sc:sd≠cd:=λe=>by rw[← e,aj]at cE;cases cE
 have DV:H cd=none:=by rw[ag sc.symm]at cE;exact cE
 have s2:upd (upd H sd (.dK [])) cd (.lst []) sd=some (.dK []):=by rw[ag sc,aj]
 have c2:upd (upd H sd (.dK [])) cd (.lst []) cd=some (.lst []):=aj
 have ns:=noOwn gp
 have nc:=noOwn DV
 have Oi:aC H (upd (upd H sd (.dK [])) cd (.lst [])):=λb u hb=>by rw[ag (aq hb DV),ag (aq hb gp)];exact hb
 generalize upd (upd H sd (.dK [])) cd (.lst [])=H2 at g2 s2 c2 Oi ⊢
 have rep:∀{Hx:Hp},de H2 Hx sd cd->Rep C CO CP Hx ad S:=λf=>g2.rep.vd f ns nc (λxs e=>by rw[s2]at e;cases e) (λxs e=>by rw[c2]at e;cases e)
 refine⟨_,rfl,ad .self,_,_,rfl,Rep.s g2.rep,by kernel_rfl,_,rfl,_,rfl,_,rfl,?_⟩
 refine⟨ad,S,p,r,sd,cd,rfl,g2.rep,I,hL,hc,cl,by omega,s2,c2,ns,nc,λH3 sn ts ch q x wQ nJ oO h9 AF nd inT hx T5 lx top T6=>?_⟩
 refine⟨_,rfl,ad .self,_,_,rfl,Rep.s (rep wQ),by kernel_rfl,_,rfl,_,rfl,?_⟩
 refine⟨ad,S,sd,cd,sn,ts,ch,q,x,rfl,rep wQ,I,by omega,nJ,oO,h9,AF,ns,nc,nd,inT,hx,lx,T6,λH4 dd aN nl gG jw QL IU Oj QM jU T7 qD mj ND QN=>?_⟩
 have nO:=wQ.trans QL
 have T8:dd≠sd:=(aq nJ jU).symm
 refine⟨_,rfl,sd,_,rfl,IU,λo=>λD hD=>?_⟩
 have ky:D≠sd:=λe=>by rw[e,aj]at hD;cases hD
 have jY:H4 D=none:=by rw[ag ky]at hD;exact hD
 have DW:∀v∈aN,v<=S.n:=λv hv=>by
  obtain⟨iv,xv,vG,rfl,e1,e2⟩:=eR I (ND.inT v hv)
  exact(I.bk.lit xv (Xn vG)).2
 have DR:=qC ND.nd ND.inT
 have tl:=I.bk.len
 have fx:∀{Hx:Hp},(∀b u,H4 b=some u->b≠sd->Hx b=some u)->de H2 Hx sd cd:=λs9 b u hb n1 n2=>s9 b u (nO b u hb n1 n2) n1
 refine xO (f:=λv=>decide (S.lev v<S.cuts.length) && !decide (v∈nl)) (cap:=[some (.ref dd),some (.ref (ad .self))]) ky jY (by omega) (λv hv Hx R' Ol s9 hR=>?_) (λH5 IV s5 IW=>?_)
 . have Rx:=rep (fx s9)
   have lB:=s9 dd _ T7 T8
   refine⟨_,rfl,ad .self,_,_,rfl,Rep.s Rx,by kernel_rfl,_,rfl,ad,S,v,rfl,Rx,DW v hv,_,rfl,?_⟩
   by_cases el:S.lev v<S.cuts.length
   . refine bX (Xw el) ?_
     refine⟨_,rfl,_,rfl,dd,_,rfl,gc.k (k:=.inl (v:Int)) lB,_,rfl,?_⟩
     rw[ll]
     rw[Xw el,Bool.true_and]at hR
     exact hR
   . refine cc (Xz el) ?_
     rw[Xz el]at hR
     exact hR
 refine⟨sd,o,a8 aN,IV,λo' u z=>(by have z:H sd=some (.cX o' u):=z;rw[gp]at z;cases z),?_⟩
 have DX:aC H4 (upd H5 sd (.dK (a8 aN))):=λb u hb=>by
  by_cases e:b=sd
  . rw[e,aj];rw[e,IU]at hb;exact hb
  . rw[ag e];exact s5 b u hb e
 have D6:upd H5 sd (.dK (a8 aN)) D=some (.lst ((aN.filter λv=>decide (S.lev v<S.cuts.length) && !decide (v∈nl)).map iV)):=by rw[ag ky];exact IW
 generalize upd H5 sd (.dK (a8 aN))=H6 at DX D6 ⊢
 have sX:∀v∈aN.filter (λv=>decide (S.lev v<S.cuts.length) && !decide (v∈nl)),v∈aN/\S.lev v<S.cuts.length/\v∉nl:=λv hv=>by
  obtain⟨h1,h2⟩:=Y0.mp hv
  rw[YT,Bool.not_eq_true',ZY,decide_eq_false_iff_not]at h2
  exact⟨h1,h2⟩
 have Om:∀v,v∈aN->S.lev v<S.cuts.length->v∉nl->v∈aN.filter (λv=>decide (S.lev v<S.cuts.length) && !decide (v∈nl)):=λv h1 h2 h3=>Y0.mpr ⟨h1,by rw[Xw h2,Xz h3];rfl⟩
 have Oo:=ND.nd.filter (λv=>decide (S.lev v<S.cuts.length) && !decide (v∈nl))
 have T9:(aN.filter λv=>decide (S.lev v<S.cuts.length) && !decide (v∈nl)).length<=aN.length:=Zf _ _
 generalize (aN.filter λv=>decide (S.lev v<S.cuts.length) && !decide (v∈nl))=os at D6 sX Om Oo T9
 have Ua:de H2 H6 sd cd:=λb u hb n1 n2=>DX _ _ (nO b u hb n1 n2)
 have R6:=rep Ua
 refine⟨_,rfl,D,rfl,⟨_,ax.of D6⟩,λD2 oT=>?_⟩
 refine lA (xs:=os.map iV) (ys:=os.map λv=>V.int (S.pla v)) (cap:=[some (.ref (ad .self))]) (by rw[Xl,Xl]) (λi y z Hx R' hy hz sx hR=>?_) oT D6 (by rw[Xl];exact XS (show os.length<=1000 by omega) (by decide)) (λH7 Ub Uc=>?_)
 . obtain⟨v,hv,rfl,rfl⟩:∃v,os[i]?=some v/\y=iV v/\z=.int (S.pla v):=by
    rw[Xt]at hy hz
    cases e:os[i]? with
    | none=>rw[e]at hy;cases hy
    | some l=>
     rw[e]at hy hz
     exact⟨l,rfl,(Xq hy).symm,(Xq hz).symm⟩
   have vn:=DW v (sX v (Xn hv)).1
   exact⟨_,rfl,ad .self,_,_,_,_,rfl,sx _ _ (Rep.s R6),T.cl,T.places,kH,_,rfl,ad .places,_,_,_,rfl,rfl,ax.of (sx _ _ (R6.at_ (s:=.places) rfl)),bY (by omega),hR⟩
 have e7:os.map (λv=>V.int (S.pla v))=(os.map S.pla).map V.int:=by rw[Y5];rfl
 refine⟨D2,os.map S.pla,rfl,ax.of (by rw[Uc,e7]),(by rw[Xl];omega),λD3 ms ku pm po=>?_⟩
 have DY:aC H6 (upd H7 D3 (.lst (ms.map V.int))):=λb u hb=>by
  have:=Ub b u hb
  rw[ag (aq this ku)]
  exact this
 have D8:upd H7 D3 (.lst (ms.map V.int)) D3=some (.lst (ms.map V.int)):=aj
 generalize upd H7 D3 (.lst (ms.map V.int))=H8 at DY D8 ⊢
 have pos:∀m∈ms,∃(i:Nat) (y:Int),m=i/\S.T[i]?=some y/\y.natAbs∈os/\S.lev y.natAbs=lvl S.cuts i:=λm hm=>by
  obtain⟨v,hv,rfl⟩:=XJ.mp (pm.mem_iff.mp hm)
  obtain⟨i,y,hi,rfl,e1,e2⟩:=eR I (ND.inT v (sX v hv).1)
  exact⟨i,y,e1,hi,hv,e2⟩
 have IM:ms.Nodup:=by
  refine pm.nodup_iff.mpr ?_
  rw[List.Nodup,YN]
  refine Zo (λ{a b} ha hb ne e=>ne ?_) Oo
  obtain⟨i,y,hi,rfl,e1,_⟩:=eR I (ND.inT a (sX a ha).1)
  obtain⟨j,z,hj,rfl,e3,_⟩:=eR I (ND.inT b (sX b hb).1)
  have:i=j:=by omega
  subst this
  rw[hi]at hj
  rw[Xq hj]
 obtain⟨ps,rfl⟩:∃ps:List Nat,ms=ps.map λi:Nat=>(i:Int):=⟨ms.map Int.toNat,by
  rw[Y5]
  refine(List.map_id ms).symm.trans (Y8 λm hm=>?_)
  obtain⟨i,y,rfl,_⟩:=pos m hm
  rfl⟩
 have yO:∀i∈ps,∃y,S.T[i]?=some y/\y.natAbs∈os/\S.lev y.natAbs=lvl S.cuts i:=λi hi=>by
  obtain⟨j,y,e,h⟩:=pos i (XJ.mpr ⟨i,hi,rfl⟩)
  have:i=j:=by omega
  subst this
  exact⟨y,h⟩
 have lu:ps.length<=aN.length:=by have:=pm.length_eq;rw[Xl,Xl]at this;omega
 have R8:=R6.same DY
 refine⟨_,rfl,x,rfl,?_⟩
 refine⟨by show 1<=sizeLine;decide,λA1 Ud=>?_⟩
 have AL:aC H8 (upd H8 A1 (.lst [.int (-x)])):=λb u hb=>by rw[ag (aq hb Ud)];exact hb
 have A9:upd H8 A1 (.lst [.int (-x)]) A1=some (.lst [.int (-x)]):=aj
 generalize upd H8 A1 (.lst [.int (-x)])=H9 at AL A9 ⊢
 have D9:=AL _ _ D8
 have R9:=R8.same AL
 refine⟨_,rfl,D3,rfl,⟨_,ax.of D9⟩,λD4 QO=>?_⟩
 refine lA (ys:=(ps.map λp=>-(S.T[p]?.getD 0)).map V.int) (cap:=[some (.ref (ad .self))]) (by simp only[Xl]) (λi y z Hx R' hy hz sx hR=>?_) QO D9 (by simp only[Xl];exact XS (show ps.length<=1000 by omega) (by decide)) (λkG IX QP=>?_)
 . obtain⟨m,hm,rfl,rfl⟩:∃m,ps[i]?=some m/\y=.int ((m:Nat):Int)/\z=.int (-(S.T[m]?.getD 0)):=by
    rw[Xt,Xt]at hy hz
    cases e:ps[i]? with
    | none=>rw[e]at hy;cases hy
    | some l=>
     rw[e]at hy hz
     exact⟨l,rfl,(Xq hy).symm,(Xq hz).symm⟩
   obtain⟨y,uq,_⟩:=yO m (Xn hm)
   rw[uq]at hR
   exact⟨_,rfl,ad .self,_,_,_,_,rfl,sx _ _ (Rep.s R9),T.cl,T.trail,d3,_,rfl,ad .trail,_,_,.int y,rfl,rfl,ax.of (sx _ _ (R9.at_ (s:=.trail) rfl)),bt (by rw[Xt,uq];rfl),y,rfl,hR⟩
 refine⟨A1,D4,_,_,rfl,rfl,IX _ _ A9,QP,?_,λcA Aw=>?_⟩
 . simp only[X0,Xl,YA]
   exact XS (show _<=1000 by omega) (by decide)
 have IY:aC H9 (upd kG cA (.lst ((-x::ps.map λp=>-(S.T[p]?.getD 0)).map V.int))):=λb u hb=>by
  have:=IX b u hb
  rw[ag (aq this Aw)]
  exact this
 have yP:upd kG cA (.lst ((-x::ps.map λp=>-(S.T[p]?.getD 0)).map V.int)) cA=some (.lst ((-x::ps.map λp=>-(S.T[p]?.getD 0)).map V.int)):=aj
 have L:oU S q x ps (-x::ps.map λp=>-(S.T[p]?.getD 0)) jw:=by
  have lq:lvl S.cuts q=S.cuts.length:=by
   have:=(I.tok.at_ q x hx).2.1
   omega
  have Oq:∀p∈ps,p<S.T.length/\lvl S.cuts p<S.cuts.length:=λp hp=>by
   obtain⟨y,hy,ho,e⟩:=yO p hp
   have:=(sX _ ho).2.1
   exact⟨aO hy,by omega⟩
  refine⟨hx,lq,Oq,?_,rfl,ND.go.congr λy=>?_,QN⟩
  . have p1:=YN.mp po
    have p2:=YN.mp IM
    exact Z2 (λ{a b} h=>by have h1:(b:Int)<=a:=h.1;have h2:(a:Int)≠b:=h.2;show b<a;omega) (p1.and p2)
  . constructor
    . intro hy
      rcases XI.mp hy with e|e
      . refine⟨q,YE _,by rw[e,ZP];exact hx,?_,λz=>?_⟩
        . rw[e,Ya];exact ND.up _ T5
        . rw[e,Ya]at z
          have:=(mj _ z.1).2
          omega
      . obtain⟨p,hp,rfl⟩:=XJ.mp e
        obtain⟨z,hz,ho,_⟩:=yO p hp
        rw[hz]
        show ∃i,i<q+1/\S.T[i]?=some (-(-z))/\(-z).natAbs∈aN/\¬ ((-z).natAbs∈nl/\0<=i)
        rw[ZP,Ya]
        refine⟨p,?_,hz,(sX _ ho).1,λw=>(sX _ ho).2.2 w.1⟩
        refine Nat.lt_of_not_le λw=>?_
        have:=lV (cuts:=S.cuts) (show q<=p by omega)
        have:=(Oq p hp).2
        omega
    . rintro⟨i,hi,hy,hs,hn⟩
      have hn:y.natAbs∉nl:=λz=>hn ⟨z,Yi _⟩
      by_cases e:i=q
      . rw[e,hx]at hy
        have:=Xq hy
        rw[show y = -x by omega]
        exact XB
      . obtain⟨a1,a2,_⟩:=I.tok.at_ i _ hy
        rw[Ya]at a1 a2
        have lv:S.lev y.natAbs<S.cuts.length:=by
         have:=uy S.cuts i
         refine Int.lt_iff_le_and_ne.mpr ⟨by omega,λz=>?_⟩
         rcases ND.new _ hs with w|w
         . have:=top _ w z
           omega
         . omega
        have ho:=Om _ hs lv hn
        have:(i:Int)∈ps.map λi:Nat=>(i:Int):=pm.mem_iff.mpr (XJ.mpr ⟨_,ho,a1⟩)
        obtain⟨j,hj,ej⟩:=XJ.mp this
        have:j=i:=by omega
        subst this
        refine XA _ (XJ.mpr ⟨j,hj,?_⟩)
        rw[hy]
        show -(-y)=y
        omega
 have Ot:aC H4 kG:=λb u hb=>IX _ _ (AL _ _ (DY _ _ (DX _ _ hb)))
 have AM:aC H4 (upd kG cA (.lst ((-x::ps.map λp=>-(S.T[p]?.getD 0)).map V.int))):=λb u hb=>IY _ _ (AL _ _ (DY _ _ (DX _ _ hb)))
 have Ou:aC H H4:=λb u hb=>nO b u (Oi b u hb) (aq hb gp) (aq hb DV)
 have IZ:H cA=none:=by
  cases e:H cA with
  | none=>rfl
  | some u=>
   have:=Ot _ _ (Ou _ _ e)
   rw[Aw]at this
   cases this
 have Ue:cA≠cd:=λe=>by
  have:=Ot _ _ Oj
  rw[← e,Aw]at this
  cases this
 have AN:=L.cl I
 have xj:upd kG cA (.lst ([V.int (-x)]++(ps.map λp=>-(S.T[p]?.getD 0)).map V.int))=upd kG cA (.lst ((-x::ps.map λp=>-(S.T[p]?.getD 0)).map V.int)):=rfl
 rw[xj]
 clear xj
 generalize upd kG cA (.lst ((-x::ps.map λp=>-(S.T[p]?.getD 0)).map V.int))=xi at yP AM IY ⊢
 have Ov:=R9.same IY
 have QQ:=AM _ _ Oj
 have nP:=AM _ _ IU
 have MZ:Paired (d5 xi) gG jw:=Paired.bQ QM λa b e=>AM _ _ e
 have small:=Al.small
 refine⟨_,rfl,ad .self,_,_,rfl,Rep.s Ov,by kernel_rfl,_,rfl,_,rfl,?_⟩
 refine⟨ad,S,cA,cd,-x::ps.map (λp=>-(S.T[p]?.getD 0)),gG,jw,rfl,Ov,yP,QQ,MZ,noOwn IZ,nc,Ue,Al.gl,AN,XS AN.len (by omega),I.wat,by omega,by have:=Al.sp;omega,λqF sp wl pa pl si j2 sY vI Ug=>?_⟩
 have I0:Kp (cB C CO CP ad S) H qF _:=Kp.trans ⟨λb u hb _=>AM _ _ (Ou _ _ hb),λb hb=>hb.elim .inl λz=>.inr (z.elim (λz=>z ▸ IZ) λz=>z ▸ DV)⟩ vI
 have Ja:qF sd=some (.dK (a8 aN)):=vI.st sd _ nP λz=>z.elim ns λz=>z.elim (λz=>by rw[z]at nP;rw[yP]at nP;cases nP) λz=>sc z
 have WU:qF cA=some (.lst ((-x::ps.map λp=>-(S.T[p]?.getD 0)).map V.int)):=by
  have:=sY.eI (k:=S.held.length) (c:=-x::ps.map λp=>-(S.T[p]?.getD 0)) fm
  rwa[show eE ad S.held.length cA cd (.cl S.held.length)=cA by unfold eE fU;rw[XW (by intro z;cases z),XO rfl]]at this
 have jZ:eE ad S.held.length cA cd .self=ad .self:=rfl
 have Uh:eE ad S.held.length cA cd .order=ad .order:=rfl
 have Ui:eE ad S.held.length cA cd .pauses=ad .pauses:=rfl
 have Jb:eE ad S.held.length cA cd (.cl S.held.length)=cA:=by unfold eE fU;rw[XW (by intro z;cases z),XO rfl]
 generalize eE ad S.held.length cA cd=eW at Jb sY I0 vI jZ Uh Ui
 generalize fZ:({S with held:=S.held++[-x::ps.map λp=>-(S.T[p]?.getD 0)],ca:=fU S.ca S.held.length gG,ch:=fU S.ch S.held.length jw,spans:=sp,wl:=wl,pa:=pa,pl:=pl,singles:=si} : SS)=S1 at sY I0 vI
 have nE:S1.n=S.n:=by rw[← fZ]
 have lE:S1.lev=S.lev:=by rw[← fZ]
 have Ow:¬ cB C CO CP eW S1 sd:=λz=>(vI.nw sd z).elim (λz=>z.elim ns λz=>z.elim (λz=>by rw[z]at nP;rw[yP]at nP;cases nP) λz=>sc z) λz=>by rw[nP]at z;cases z
 refine⟨_,rfl,ad .self,_,_,_,_,rfl,(by rw[← jZ];exact Rep.s sY),T.cl,T.order,l6,eW .order,_,_,rfl,Rep.o sY,by kernel_rfl,_,rfl,sd,_,rfl,Ja,λo2=>λD5 yQ=>?_⟩
 have Cw:D5≠sd:=λe=>by rw[e,aj]at yQ;cases yQ
 have QR:qF D5=none:=by rw[ag Cw]at yQ;exact yQ
 refine xO (f:=λv=>decide (0<S.lev v)) (cap:=[some (.ref (ad .self))]) Cw QR (by omega) (λv hv Hx R' Ol s9 hR=>?_) (λCy QS Jc QT=>?_)
 . have jK:=s9 _ _ (Rep.s sY) (λe=>Ow ⟨.self,_,rfl,e⟩)
   have Jd:=s9 _ _ (sY.at_ (s:=.levels) rfl) (λe=>Ow ⟨.levels,_,rfl,e⟩)
   rw[lE]at Jd
   exact⟨_,rfl,ad .self,_,_,_,_,rfl,(by rw[← jZ];exact jK),T.cl,T.levels,fG,_,rfl,eW .levels,_,_,_,rfl,rfl,ax.of Jd,bY (by have:=DW v hv;omega),_,_,rfl,rfl,_,rfl,hR⟩
 refine⟨sd,o2,a8 aN,QS,λo' u z=>(by have z:H sd=some (.cX o' u):=z;rw[gp]at z;cases z),?_⟩
 have yR:aC qF (upd Cy sd (.dK (a8 aN))):=λb u hb=>by
  by_cases e:b=sd
  . rw[e,aj];rw[e,Ja]at hb;exact hb
  . rw[ag e];exact Jc b u hb e
 have Ox:upd Cy sd (.dK (a8 aN)) D5=some (.lst ((aN.filter λv=>decide (0<S.lev v)).map iV)):=by rw[ag Cw];exact QT
 generalize upd Cy sd (.dK (a8 aN))=DZ at yR Ox ⊢
 have Uj:=sY.same yR
 obtain⟨perm,ho⟩:=I.bk.ord
 have bE:S1.bits=S.bits:=by rw[← fZ]
 have oP:fi S1.n S1.ah S1.bh S1.mk_ S1.newest S1.seek (λv=>S1.bits v=0) perm:=by rw[← fZ];exact ho
 have Gw:∀v∈aN.filter (λv=>decide (0<S.lev v)),(1<=v/\v<=S1.n)/\S1.bits v≠0:=λv hv=>by
  have Dk:=(Y0.mp hv).1
  have vn:=DW v Dk
  obtain⟨iv,xv,vG,rfl,_,_⟩:=eR I (ND.inT v Dk)
  have xm:=Xn vG
  have:=(I.bk.lit xv xm).1
  refine⟨⟨by omega,by rw[nE];exact vn⟩,?_⟩
  rw[bE,I.bk.var vn]
  intro z
  obtain⟨z1,z2⟩:=gg.mp z
  rcases Int.natAbs_eq xv with e|e
  . exact z1 (e ▸ xm)
  . exact z2 (e ▸ xm)
 refine⟨eW,S1,D5,aN.filter (λv=>decide (0<S.lev v)),perm,rfl,Uj,Ox,Gw,XT (Zf _ _) (by omega),oP,λAO ah bh mk ne p' Je QU=>?_⟩
 have xQ:=Je.rep
 obtain⟨ck,hk⟩:=L.lv hL
 have Jf:AO cA=some (.lst ((-x::ps.map λp=>-(S.T[p]?.getD 0)).map V.int)):=by
  have:=xQ.eI (k:=S.held.length) (c:=-x::ps.map λp=>-(S.T[p]?.getD 0)) (by show S1.held[S.held.length]?=_;rw[← fZ];exact fm)
  rwa[Jb]at this
 generalize i3:({S1 with ah:=ah,bh:=bh,mk_:=mk,newest:=ne} : SS)=S2 at Je xQ
 have D0:Bk S1:=by rw[← fZ];exact⟨I.bk.lit,I.bk.nd,I.bk.bit,⟨perm,ho⟩,I.bk.sgn⟩
 have Uk:Bk S2:=by rw[← i3];exact⟨D0.lit,D0.nd,D0.bit,⟨p',QU⟩,D0.sgn⟩
 have Jg:S2.cuts=S.cuts:=by rw[← i3,← fZ]
 have D7:S2.T=S.T:=by rw[← i3,← fZ]
 have Oy:S2.lev=S.lev:=by rw[← i3,← fZ]
 have AQ:S2.n=S.n:=by rw[← i3,← fZ]
 dsimp only
 refine iX (a:=yk (qb C "go_back" _ _ _ _ _)) (λbq H'=>bq=[some (.ref (ad .self)),some (iV r),some (.ref sd),some (.ref cd),some (.int x),some (.ref dd),some (.ref D),some (.ref D3),some (.ref cA),some (iV S.held.length)]/\∃(pc:Addr) (b sg:Nat->Int) (se:Nat),Bk (j8 S2 b sg se ck (ie S.cuts ps))/\Go C CO CP AO eW S2 H' (fU eW .cuts pc) (j8 S2 b sg se ck (ie S.cuts ps))) ?_ ?_
 . intro rest tQ
   have fin:∀Qf:VK,(∀H',(∃(pc:Addr) (b sg:Nat->Int) (se:Nat),Bk (j8 S2 b sg se ck (ie S.cuts ps))/\Go C CO CP AO eW S2 H' (fU eW .cuts pc) (j8 S2 b sg se ck (ie S.cuts ps)))->Qf .bb H')->rD C CO CP [.ref (ad .self),iV (ie S.cuts ps)] AO Qf E0:=λQf h=>by
    rw[← jZ]
    exact⟨eW,S2,ie S.cuts ps,ck,rfl,xQ,Uk,by rw[Jg];exact hk,by rw[D7];exact X7 (I.tok.cl ck (Xn hk)),λsZ pc b sg se Ul xR=>h sZ ⟨pc,b,sg,se,Ul,xR⟩⟩
   refine⟨_,rfl,ad .self,_,_,rfl,(by rw[← jZ];exact Rep.s xQ),by kernel_rfl,_,rfl,cA,_,rfl,.inl (ax.of Jf),_,_,rfl,rfl,_,rfl,?_⟩
   rw[Xl,X0,Xl]
   have AE:∀p∈ps,∃y,S.T[p]?=some y/\y.natAbs<=S.n/\S.lev y.natAbs=lvl S.cuts p:=λp hp=>by
    obtain⟨y,hy,_,e⟩:=yO p hp
    exact⟨y,hy,(I.bk.lit y (Xn hy)).2,e⟩
   cases ps with
   | nil=>
    refine cc (Xz (by decide)) ?_
    exact fin _ λH' h=>tQ _ _ ⟨rfl,h⟩
   | cons p0 r0=>
    refine bX (Xw (by simp only[X0];omega)) ?_
    obtain⟨y,hy,yn,ye⟩:=AE p0 XB
    refine⟨_,rfl,ad .self,_,_,_,_,rfl,(by rw[← jZ];exact Rep.s xQ),T.cl,T.levels,fG,_,rfl,cA,_,_,.int (-(S.T[p0]?.getD 0)),rfl,rfl,ax.of Jf,bt (j:=1) rfl,_,rfl,?_⟩
    rw[dv,hy]
    refine⟨eW .levels,_,_,iV (lvl S.cuts p0),rfl,rfl,ax.of (xQ.at_ (s:=.levels) rfl),?_,?_⟩
    . rw[bY (by rw[AQ];show (-y).natAbs<_;omega),Oy]
      show some (V.int (S.lev (-y).natAbs))=_
      rw[Ya,ye]
    . exact fin _ λH' h=>tQ _ _ ⟨rfl,h⟩
 rintro bq sZ ⟨rfl,pc,b,sg,se,Jh,xR⟩
 have Ea:fU eW .cuts pc .self=ad .self:=jZ
 have Um:fU eW .cuts pc (.cl S.held.length)=cA:=Jb
 have Ji:S2.held=S.held++[-x::ps.map λp=>-(S.T[p]?.getD 0)]:=by rw[← i3,← fZ]
 have QV:sZ cA=some (.lst ((-x::ps.map λp=>-(S.T[p]?.getD 0)).map V.int)):=by
  have:=xR.rep.eI (k:=S.held.length) (c:=-x::ps.map λp=>-(S.T[p]?.getD 0)) (by show S2.held[S.held.length]?=_;rw[Ji];exact fm)
  rwa[Um]at this
 have xn:=(I.bk.lit x (Xn hx)).2
 refine⟨_,rfl,ad .self,_,_,rfl,(by rw[← Ea];exact Rep.s xR.rep),by kernel_rfl,_,rfl,cA,_,_,.int (-x),rfl,rfl,ax.of QV,bt (j:=0) rfl,_,rfl,?_⟩
 refine⟨fU eW .cuts pc,_,-x,some S.held.length,by rw[Ea];rfl,xR.rep,by show (-x).natAbs<=S2.n;rw[AQ];omega,by have:=Jh.len;have:(j8 S2 b sg se ck (ie S.cuts ps)).n=S2.n:=rfl;omega,λEb Ec=>?_⟩
 have Uo:S2.left=S.left:=by rw[← i3,← fZ]
 have cnt:=Al.cn
 have vt:=og (n:=S.n) (cuts:=S.cuts) (k:=S.T.length) tl
 have p6:2 ^ S.n<=2 ^ 6:=ZH (by decide) n6
 have lf:=Al.lf
 refine⟨_,rfl,ad .self,_,_,_,_,rfl,(by rw[← Ea];exact Rep.s Ec.rep),T.cl,T.pauses,zV,fU eW .cuts pc .pauses,_,_,rfl,Ec.rep.at_ (s:=.pauses) rfl,by kernel_rfl,?_⟩
 refine⟨fU eW .cuts pc,_,rfl,Ec.rep,(by show 2<=S2.left;omega),(by show S2.left<=1000;omega),λAR Oz=>⟨_,rfl,eP ?_⟩⟩
 have nv:(-x).natAbs∉(S2.T.take ck).map Int.natAbs:=λz=>by
  obtain⟨y,hy,e⟩:=XJ.mp z
  rw[D7]at hy
  obtain⟨i,hi,ei⟩:=iP hy
  have:=(I.tok.inj ei hx (by omega)).1
  have:=L.ge I.tok.cs hk
  omega
 have x0:=(I.bk.lit x (Xn hx)).1
 have vJ:=Jh.put (l:=-x) (some S.held.length) (by show (-x).natAbs<=S2.n;rw[AQ];omega) (by omega) nv
 have cT:=I.tok.cl ck (Xn hk)
 have fin:=Al.MY wd hc L hk (S':=(gh (j8 S2 b sg se ck (ie S.cuts ps)) (-x) (some S.held.length)).yG ((gh (j8 S2 b sg se ck (ie S.cuts ps)) (-x) (some S.held.length)).left-1)) AQ (by show S2.g=S.g;rw[← i3,← fZ]) Ji (by show S2.T.take ck++[-x]=_;rw[D7]) (by show S2.cuts.take _=_;rw[Jg]) rfl
  (by show fU S2.lev (-x).natAbs ((S2.cuts.take (ie S.cuts ps)).length:Int)=_;rw[Oy,Jg,Ya,XY,Zt (X7 (aO hk))])
  (by show fU S2.rea (-x).natAbs (some S.held.length)=_;rw[Ya,← i3,← fZ])
  (by show fU S2.pla (-x).natAbs ((S2.T.take ck).length:Int)=_;rw[D7,Ya,XY,Zt (X7 cT),← i3,← fZ])
  (by show S2.ch=_;rw[← i3,← fZ]) (by show S2.left-1=S.left-1;rw[Uo]) (by show S2.spans.length<=_;rw[← i3,← fZ];exact j2) ⟨vJ.lit,vJ.nd,vJ.bit,vJ.ord,vJ.sgn⟩ (by show cG S2.n S2.g S2.held S2.wl S2.pl S2.singles;rw[← i3,← fZ];exact Ug)
 exact k AR (fU eW .cuts pc) _ Ea ⟨Oz.rep,I0.trans (Kp.trans ⟨λb u hb _=>yR b u hb,λb hb=>.inl hb⟩ (Je.kp.trans (xR.kp.trans (Ec.kp.trans Oz.kp))))⟩ ⟨AQ,by show S2.g=S.g;rw[← i3,← fZ],by show b8 S.held S2.held;rw[Ji];exact b8.app _ _⟩ fin.1 fin.2.1 fin.2.2
end
abbrev rX:Stmt:=inClass (top 7) 6
section
variable (C CO CP:Addr) (wants:List Int)
inductive Cz(vs:List V) (H:Hp) (Q:VK):Prop
 | mk (ad:Sl->Addr) (S:SS) (a:Addr) (h1:vs=[.ref (ad .self),.ref a]) (R:Rep C CO CP H ad S) (N:nI S) (W:uX S.n wants) (ha:H a=some (.lst (wants.map V.int))) (oQ:¬ cB C CO CP ad S a)
  (k0:∀(H':Hp) (bp:Sl->Addr) (S':SS),bp .self=ad .self->Go C CO CP H ad S H' bp S'->Rl S S'->Al wants S'->Wd S' S'.T.length->(∀v,1<=v->v<=S'.n->v∈S'.T.map Int.natAbs)->Q .bb H')
  (k1:∀(H':Hp) (bp:Sl->Addr) (S':SS) (r:Nat),bp .self=ad .self->Go C CO CP H ad S H' bp S'->Rl S S'->No wants S' r->Q (iV r) H')
def xS:Sp:=λvs H Q _=>Cz C CO CP wants vs H Q
end
abbrev Fo:List Str:=["self", "wants", "clash"]
theorem mf:aG Fo ["self", "wants"] (aB rX):=fs
theorem Ed{S S':SS}{p:Nat}(k:Pg (S.bG p) S') (hl:S'.T.length<=S'.n):mu S'<=mu S:=by
 obtain⟨more,et⟩:=k.T
 have et:S'.T=S.T++more:=et
 have ec:S'.cuts=S.cuts:=k.cuts
 have en:S'.n=S.n:=k.n
 have gX:S.T.length<=S'.T.length:=by rw[et,Xs];omega
 have v:=pB (n:=S.n) (cuts:=S.cuts) (j:=S.T.length) S'.T.length gX
 rcases aaQ gX with e|e
 . unfold mu
   rw[ec,en,e]
   exact Xv _
 . refine X7 (rH en (by omega) hl ?_)
   rw[ec,en]
   omega
section
variable {P:Program}{w:World}{K:W.Frag}{mg:Str->Option Value}{base:Heap}{C CO CP:Addr}{wants:List Int}
theorem CA{f fB fP fT fL fN:Addr}{fd dB dP dT dL dN:FuncData}(F:aM K "clash_with" "Search.clash_with" rX f fd)(T:dZ K mg C)
 (gB:aD P w K mg base aT 4 fB dB ["self", "wants"] (u0 C CO CP wants K)) (mB:Meth K C "begun" fB) (bB:Binds K dB ["self", "wants"] [])
 (gP:aD P w K mg base aT 3 fP dP ["self"] (xA C CO CP wants)) (mP:Meth K C "passed_on" fP) (bP:Binds K dP ["self"] [])
 (gT:aD P w K mg base aT 2 fT dT ["self"] (uY C CO CP wants)) (mT:Meth K C "tried" fT) (bT:Binds K dT ["self"] [])
 (gL:aD P w K mg base aT 1 fL dL ["self"] (vw C CO CP)) (mL:Meth K C "level" fL) (bL:Binds K dL ["self"] [])
 (gN:aD P w K mg base aT 5 fN dN ["self", "clash"] (xP C CO CP wants)) (mN:Meth K C "learn" fN) (bN:Binds K dN ["self", "clash"] []):aD P w K mg base aT 6 f fd ["self", "wants"] (xS C CO CP wants):=by
 refine F.run mf λa6 A outer s H vs Q E hr h=>?_
 obtain⟨ad,S,a,rfl,R,N,W,ha,oQ,k0,k1⟩:=h
 have iZ:bx 1 _:=hr.mono (by decide)
 have nN:bx 2 _:=hr.mono (by decide)
 have vH:bx 3 _:=hr.mono (by decide)
 have Up:bx 4 _:=hr.mono (by decide)
 refine⟨_,(ae (aQ 2 mf.nd (cQ (pv 0) T.cl mB gB Up bB (aa (pv 1) ak)))
  (av (iL XX (i9 fo)
   (ae (bR (aX (pS (pv 2)))
    (av (aQ 2 mf.nd (jA (pv 0) T.cl mP gP vH bP .nil jf))) br)
   (av (bR (aX (pS (pv 2)))
    (av (bR (zb (i9 (jA (pv 0) T.cl mT gT nN bT .nil jf)))
     (av (aY i8)) br))
    (av (bR (aX (c7 (jA (pv 0) T.cl mL gL iZ bL .nil jf) au))
     (av (aY (pv 2)))
     (ae (aK (cQ (pv 0) T.cl mN gN hr bN (aa (pv 2) ak)))
     (av (aQ 2 mf.nd i8))))))))))),?_⟩
 have jK:∀{Hx:Hp}{bc:Sl->Addr}{S1:SS},bc .self=ad .self->Rep C CO CP Hx bc S1->Hx (ad .self)=some (.ins C (bc .dm) (cR bc S1.n S1.passed)):=λe r=>by rw[← e];exact Rep.s r
 refine iX (λσ Hx=>∃(bc:Sl->Addr) (S1:SS) (v:V),σ=[some (.ref (ad .self)),some (.ref a),some v]/\bc .self=ad .self/\Go C CO CP H ad S Hx bc S1/\Rl S S1/\((v=.bb/\Al wants S1/\Wd S1 S1.passed)\/∃r,v=iV r/\No wants S1 r)) (λt ht=>?_) ?_
 . refine⟨_,rfl,ad .self,_,_,rfl,Rep.s R,by kernel_rfl,_,rfl,?_⟩
   refine⟨ad,S,a,rfl,R,N,W,ha,oQ,λH' bp S' e g r A w=>?_,λH' bp S' r e g rl n=>?_⟩
   . exact ht _ _ ⟨bp,S',.bb,rfl,e,g,r,.inl ⟨rfl,A,w⟩⟩
   . exact ht _ _ ⟨bp,S',_,rfl,e,g,rl,.inr ⟨r,rfl,n⟩⟩
 rintro Qu H0 ⟨df,S0,v0,rfl,e0,g0,r0,h0⟩
 refine⟨λm σ Hx=>∃(bc:Sl->Addr) (S1:SS) (v:V),σ=[some (.ref (ad .self)),some (.ref a),some v]/\bc .self=ad .self/\Go C CO CP H ad S Hx bc S1/\Rl S S1/\((v=.bb/\m=mu S1/\Al wants S1/\Wd S1 S1.passed)\/∃r,v=iV r/\No wants S1 r),⟨mu S0,df,S0,v0,rfl,e0,g0,r0,h0.imp (λh=>⟨h.1,rfl,h.2⟩) id⟩,?_⟩
 clear g0 r0 h0 e0
 rintro m σ Hx ⟨bc,S1,v,rfl,e1,g1,r1,h1⟩
 refine⟨_,rfl,iE ⟨λσ Hx=>∃(bc:Sl->Addr) (S1:SS),σ=[some (.ref (ad .self)),some (.ref a),some .bb]/\bc .self=ad .self/\Go C CO CP H ad S Hx bc S1/\Rl S S1/\mu S1<m/\Al wants S1/\Wd S1 S1.passed,?_,?_⟩⟩
 . rintro bq H' ⟨bp,S',rfl,e,g,r,lt,A,w⟩
   exact⟨mu S',lt,bp,S',.bb,rfl,e,g,r,.inl ⟨rfl,rfl,A,w⟩⟩
 rcases h1 with⟨rfl,rfl,A1,w1⟩|⟨r,rfl,n1⟩
 . refine⟨_,rfl,_,rfl,iE ⟨_,rfl,ad .self,_,_,rfl,jK e1 g1.rep,by kernel_rfl,?_⟩⟩
   have sm:=A1.small
   have n6:=A1.n6
   refine⟨bc,S1,by rw[e1];rfl,g1.rep,A1.iv,w1,A1.ps,A1.pc,by omega,by omega,λH' bp S' e g pg I wd hp=>?_,λH' bp S' p r e g pg I wd hc ep cl=>?_⟩
   . have A2:=A1.pg pg I (Zb hp) (λc hc=>by rw[hp];exact X7 (I.tok.cl c hc))
     have m2:=Ed pg I.bk.len
     have g2:=g1.trans g
     have r2:=r1.trans (Rl.pg pg)
     have e2:=e.trans e1
     refine⟨_,rfl,_,rfl,iE ⟨_,rfl,ad .self,_,_,rfl,jK e2 g2.rep,by kernel_rfl,?_⟩⟩
     refine⟨bp,S',by rw[e2];rfl,g2.rep,A2,by rw[← hp];exact wd,hp,λH3 S3 g3 r3 A3 w3 al=>?_,λH3 S3 g3 r3 A3 w3 lt=>?_⟩
     . refine⟨_,rfl,iE ?_⟩
       exact k0 _ _ _ e2 (g2.trans g3) (r2.trans r3) A3 w3 al
     . refine⟨_,rfl,eP ?_⟩
       exact⟨bp,S3,rfl,e2,g2.trans g3,r2.trans r3,by omega,A3,w3⟩
   . have pl:p<S'.T.length:=by obtain⟨c,_,_,x,_,h⟩:=cl.ex;exact aO h
     have A2:=A1.pg pg I (by omega) (λc h=>by have:=hc c h;omega)
     have m2:=Ed pg I.bk.len
     have g2:=g1.trans g
     have r2:=r1.trans (Rl.pg pg)
     have e2:=e.trans e1
     refine⟨_,rfl,_,rfl,eP ⟨_,rfl,ad .self,_,_,rfl,jK e2 g2.rep,by kernel_rfl,?_⟩⟩
     refine⟨bp,S',by rw[e2];rfl,g2.rep,_,_,rfl,rfl,_,rfl,?_⟩
     by_cases q:S'.cuts.length=0
     . refine bX (Xw (by omega)) ⟨_,rfl,?_⟩
       exact k1 _ _ _ r e2 g2 r2 (A2.no (ZF q) (by obtain⟨c,h1,h2,_⟩:=cl.ex;exact⟨c,h1,h2⟩))
     . refine cc (Xz (by omega)) ⟨_,rfl,ad .self,_,_,rfl,jK e2 g2.rep,by kernel_rfl,_,rfl,?_⟩
       refine⟨bp,S',p,r,by rw[e2];rfl,g2.rep,A2,by omega,wd,hc,cl,λH3 Uq S3 e3 g3 r3 A3 w3 lt=>?_⟩
       exact⟨Uq,S3,rfl,e3.trans e2,g2.trans g3,r2.trans r3,by omega,A3,w3⟩
 . refine⟨_,rfl,_,rfl,eP ⟨_,rfl,_,rfl,eP ⟨_,rfl,ad .self,_,_,rfl,jK e1 g1.rep,by kernel_rfl,?_⟩⟩⟩
   refine⟨bc,S1,by rw[e1];rfl,g1.rep,_,_,rfl,rfl,_,rfl,?_⟩
   refine bX (Xw (by rw[n1.cu];rfl)) ⟨_,rfl,?_⟩
   exact k1 _ _ _ r e1 g1 r1 n1
end
end Gen
namespace Sat
theorem Ring.wide{p:List Nat}{ah bh:Nat->Nat}(R:Ring p ah bh){v:Nat}(hv:v∉p)(h0:v≠0):Ring p (fU ah v 0) (fU bh v 0):=by
 have h1:v∉0::p:=by rw[XI,ZG];exact⟨h0,hv⟩
 have h2:v∉p++[0]:=by rw[Xp,Xm,ZG];exact⟨hv,h0⟩
 exact⟨by rw[gE h1];exact R.b,by rw[gE h2];exact R.a,R.nd,R.z⟩
theorem iy.wide{p:List Nat}{mk:Nat->Nat}{m:Nat}(M:iy p mk m){v:Nat}(hv:v∉p)(h0:v≠0):iy p (fU mk v 0) m:=by
 refine⟨by rw[gE hv];exact M.up,λu hu=>?_,by rw[aW (YF h0)];exact M.z⟩
 have:u≠v:=λe=>hv (e ▸ hu)
 rw[aW this]
 exact M.pos u hu
end Sat
namespace L2
open PySem PySem.Spec PyProof.Rows Sat
section
variable {ι:Type} [DecidableEq ι] {H0 H H':Hp}{O0:Addr->Prop}{ad bp:ι->Addr}{c c':ι->Option HO}{s:ι}{o o':HO}{p q:Addr}
structure Gs(O0:Addr->Prop) (H0 H:Hp) (ad:ι->Addr) (c:ι->Option HO):Prop where
 st:eG H ad c
 kp:Kp O0 H0 H (iQ ad c)
theorem Gs.refl(h:eG H ad c):Gs (iQ ad c) H H ad c:=⟨h,Kp.refl _ _⟩
theorem Gs.trans(h:Gs O0 H0 H ad c) (k:Gs (iQ ad c) H H' bp c'):Gs O0 H0 H' bp c':=⟨k.st,h.kp.trans k.kp⟩
theorem vK{v:Option HO}{b:Addr}(h:iQ (fU ad s p) (fU c s v) b):iQ ad c b\/b=p:=by
 obtain⟨t,u,ht,e⟩:=h
 by_cases z:t=s
 . subst z
   rw[aI]at e
   exact .inr e.symm
 . rw[aW z]at ht e
   exact .inl ⟨t,u,ht,e⟩
theorem lC{v:Option HO}(h:¬ iQ ad c q)(n:q≠p):¬ iQ (fU ad s p) (fU c s v) q:=λz=>(vK z).elim h n
theorem eG.no(h:eG H ad c)(hp:H p=none):¬ iQ ad c p:=by
 rintro⟨t,u,ht,e⟩
 have:=h.at_ _ _ ht
 rw[e,hp]at this
 cases this
theorem Gs.upd(h:Gs O0 H0 H ad c)(hs:c s=some o'):Gs O0 H0 (L2.upd H (ad s) o) ad (fU c s (some o)):=by
 refine⟨h.st.set hs,(h.kp.trans (Kp.upd ⟨s,o',hs,rfl⟩)).less λb hb=>?_⟩
 obtain⟨t,u,ht,e⟩:=hb
 by_cases z:t=s
 . subst z;exact⟨t,o',hs,e⟩
 . rw[aW z]at ht;exact⟨t,u,ht,e⟩
theorem Gs.put(h:Gs O0 H0 H ad c)(hp:H p=none):Gs O0 H0 (L2.upd H p o) (fU ad s p) (fU c s (some o)):=
 ⟨h.st.put (s:=s) hp aI (λt e=>aW e) aI (λt e=>aW e),h.kp.trans (Kp.new hp λb hb=>vK hb)⟩
theorem Gs.same(h:Gs O0 H0 H ad c)(sm:aC H H'):Gs O0 H0 H' ad c:=⟨h.st.same sm,λb u hb ho=>sm _ _ (h.kp.st b u hb ho),h.kp.nw⟩
theorem Gs.other(h:Gs O0 H0 H ad c)(hp:H p=none):Gs O0 H0 (L2.upd H p o) ad c:=h.same λb u hb=>by rw[ag (aq hb hp)];exact hb
theorem Gs.adopt(h:Gs O0 H0 H ad c)(hp:H p=some o)(no:¬ iQ ad c p)(h0:c s=none)(hn:H0 p=none):Gs O0 H0 H (fU ad s p) (fU c s (some o)):=
 ⟨h.st.adopt hp no h0,h.kp.st,λb hb=>(vK hb).elim (h.kp.nw b) λe=>.inr (e ▸ hn)⟩
theorem Gs.at_(h:Gs O0 H0 H ad c)(hs:c s=some o):H (ad s)=some o:=h.st.at_ _ _ hs
theorem Gs.more(h:Gs O0 H0 H ad c)(sm:aC H H')(N:ι->Prop) (h1:∀s o,c' s=some o->(¬ N s/\c s=some o/\bp s=ad s)\/(N s/\H (bp s)=none/\H' (bp s)=some o)) (inj:∀s t o u,c' s=some o->c' t=some u->N s->N t->bp s=bp t->s=t):Gs O0 H0 H' bp c':=by
 refine⟨⟨λs o hs=>?_,λs t o u hs ht e=>?_⟩,?_,λb hb=>?_⟩
 . rcases h1 s o hs with⟨_,a,e⟩|⟨_,_,e⟩
   . rw[e];exact sm _ _ (h.at_ a)
   . exact e
 . rcases h1 s o hs with⟨n1,a,e1⟩|⟨n1,a,_⟩
   . rcases h1 t u ht with⟨n2,b,e2⟩|⟨n2,b,_⟩
     . exact h.st.inj _ _ _ _ a b (by rw[← e1,← e2];exact e)
     . rw[← e,e1,h.at_ a]at b;cases b
   . rcases h1 t u ht with⟨n2,b,e2⟩|⟨n2,b,_⟩
     . rw[e,e2,h.at_ b]at a;cases a
     . exact inj _ _ _ _ hs ht n1 n2 e
 . exact λb u hb ho=>sm _ _ (h.kp.st b u hb ho)
 . obtain⟨s,o,hs,e⟩:=hb
   rcases h1 s o hs with⟨_,a,e1⟩|⟨_,a,_⟩
   . exact h.kp.nw b ⟨s,o,a,by rw[← e1];exact e⟩
   . rw[e]at a
     by_cases z:O0 b
     . exact .inl z
     . refine .inr ?_
       cases q:H0 b with
       | none=>rfl
       | some u=>rw[h.kp.st b u q z]at a;cases a
theorem Gs.chg(h:Gs O0 H0 H ad c)(L:List ι) (hL:∀s∈L,∃o o',c s=some o'/\c' s=some o/\H' (ad s)=some o) (hn:∀s,s∉L->c' s=c s) (hk:∀x,(∀s∈L,x≠ad s)->H' x=H x):Gs O0 H0 H' ad c':=by
 have key:∀s o,c' s=some o->∃o',c s=some o':=λs o hs=>by
  by_cases z:s∈L
  . obtain⟨_,o',e,_⟩:=hL s z;exact⟨o',e⟩
  . rw[hn s z]at hs;exact⟨o,hs⟩
 refine⟨⟨λs o hs=>?_,λs t o u hs ht e=>?_⟩,?_,λb hb=>?_⟩
 . by_cases z:s∈L
   . obtain⟨o2,_,_,e,e2⟩:=hL s z
     rw[hs]at e
     rw[Xq e];exact e2
   . rw[hn s z]at hs
     rw[hk _ λt ht e=>?_]
     . exact h.at_ hs
     . obtain⟨_,_,e2,_⟩:=hL t ht
       exact z (h.st.inj _ _ _ _ hs e2 e ▸ ht)
 . obtain⟨_,a⟩:=key s o hs
   obtain⟨_,b⟩:=key t u ht
   exact h.st.inj _ _ _ _ a b e
 . refine(h.kp.trans (O'':=iQ ad c) ⟨λb u hb ho=>?_,λb z=>.inl z⟩).st
   rw[hk b λt ht e=>?_]
   . exact hb
   . obtain⟨_,_,e2,_⟩:=hL t ht
     exact ho ⟨t,_,e2,e.symm⟩
 . obtain⟨s,o,hs,e⟩:=hb
   obtain⟨o',a⟩:=key s o hs
   exact h.kp.nw b ⟨s,o',a,e⟩
theorem Gs.congr(h:Gs O0 H0 H ad c)(e:∀t,c' t=c t):Gs O0 H0 H ad c':=(funext e:c'=c) ▸ h
theorem Gs.Jj(h:Gs O0 H0 H ad c)(h0:c s=none):Gs O0 H0 H (fU ad s p) c:=by
 have e:∀t u,c t=some u->fU ad s p t=ad t:=λt u ht=>aW λz=>by rw[z,h0]at ht;cases ht
 refine⟨⟨λt u ht=>by rw[e t u ht];exact h.at_ ht,λt r u v ht hr z=>?_⟩,h.kp.st,λb ⟨t,u,ht,z⟩=>h.kp.nw b ⟨t,u,ht,by rw[← e t u ht];exact z⟩⟩
 rw[e t u ht,e r v hr]at z
 exact h.st.inj _ _ _ _ ht hr z
theorem Gs.fld{s t:ι}{oi oi':HO}(h:Gs O0 H0 H ad c)(hs:c s=some oi)(ne:t≠s)(hp:H p=none):(L2.upd H p o) (ad s)=some oi/\Gs O0 H0 (L2.upd (L2.upd H p o) (ad s) oi') (fU ad t p) (fU (fU c t (some o)) s (some oi')):=by
 have h1:=(h.put (s:=t) (o:=o) hp).upd (s:=s) (o:=oi') (o':=oi) (by rw[aW (YF ne)];exact hs)
 rw[aW (YF ne)]at h1
 refine⟨?_,h1⟩
 rw[ag (aq (h.at_ hs) hp)]
 exact h.at_ hs
end
def AS:SS:=⟨0,0,[],[],λ_=>0,λ_=>[],λ_=>[],λ_=>[],λ_=>0,λ_=>none,λ_=>0,λ_=>-1,[],0,[],λ_=>0,λ_=>0,λ_=>0,0,0,100,λ_=>[],λ_=>[],[]⟩
def S0(n:Nat)(ah bh mk:Nat->Nat)(ne se:Nat):SS:=⟨n,0,[],[],λ_=>0,λ_=>[],λ_=>[],λ_=>[],λ_=>0,λ_=>none,λ_=>0,λ_=>-1,[],0,[],ah,bh,mk,ne,se,100,λ_=>[],λ_=>[],[]⟩
theorem nI.s0{n:Nat}{ah bh mk:Nat->Nat}{ne se:Nat}{perm:List Nat}(h:fi n ah bh mk ne se (λ_=>True) perm) (hn:n<=6):nI (S0 n ah bh mk ne se):=⟨⟨λ_ h=>(by cases h),Yb,λl hl=>(gg.mpr ⟨Yf,Yf⟩).symm,⟨perm,h.R,h.M,h.mem,h.sk,λv h1 h2 h3 _=>h.no v h1 h2 h3 trivial⟩,λv _ _=>.inr rfl⟩,⟨λ_=>Yb,λ_ _ h=>(by cases h),λj a b r hj=>absurd hj (aar _),λ_ _ h=>(by cases h),λj a b hj=>absurd hj (aar _),λ_=>Yb,λ_ h=>(by cases h),λj c hj=>absurd hj (aar _),Yb,λ_ h=>(by cases h)⟩,rfl,rfl,hn,Yi _,Yi _⟩
def jj(ad:Sl->Addr)(f:Nat->Addr):Sl->Addr
 | .wl i=>f i
 | t=>ad t
def nQ(ad:Sl->Addr)(f:Nat->Addr):Sl->Addr
 | .pl i=>f i
 | t=>ad t
def Jk(c:Sl->Option HO)(m:Nat):Sl->Option HO
 | .wl i=>if i<m then some (.lst []) else none
 | t=>c t
def Jl(c:Sl->Option HO)(m:Nat):Sl->Option HO
 | .pl i=>if i<m then some (.lst []) else none
 | t=>c t
theorem getD_inj{ps:List Addr}(nd:ps.Nodup){i j:Nat}(hi:i<ps.length)(hj:j<ps.length)(e:ps.getD i 0=ps.getD j 0):i=j:=by
 rw[Ys,Ys,Xo hi,Xo hj]at e
 exact(List.getElem_inj nd).mp e
theorem getD_mem{ps:List Addr}{i:Nat}(hi:i<ps.length):ps.getD i 0∈ps:=by
 rw[Ys,Xo hi]
 exact List.getElem_mem hi
section
variable {H0 H H':Hp}{O0:Addr->Prop}{ad:Sl->Addr}{c:Sl->Option HO}
theorem Gs.Ur(h:Gs O0 H0 H ad c) (hc:c (.wl 0)=some (.lst [])) (sm:aC H H'){ps:List Addr}{m:Nat}(hm:ps.length=m) (nd:ps.Nodup) (hp:∀p∈ps,H p=none/\H' p=some (.lst [])):Gs O0 H0 H' (jj ad λi=>if i=0 then ad (.wl 0) else ps.getD (i-1) 0) (Jk c (m+1)):=by
 refine h.more sm (λs=>∃i,s=.wl (i+1)) (λs o hs=>?_) λs t o u hs ht=>?_
 . cases s <;> first|exact .inl ⟨λ⟨_,e⟩=>(by cases e),hs,rfl⟩|skip
   case wl i=>
    simp only[Jk]at hs
    split at hs
    . rename_i hi
      cases hs
      cases i with
      | zero=>exact .inl ⟨λ⟨_,e⟩=>(by cases e),hc,rfl⟩
      | succ i=>
       obtain⟨a,b⟩:=hp _ (getD_mem (ps:=ps) (i:=i) (by omega))
       exact .inr ⟨⟨i,rfl⟩,a,b⟩
    . cases hs
 . rintro⟨i,rfl⟩ ⟨j,rfl⟩ e
   simp only[Jk]at hs ht
   split at hs
   . split at ht
     . rw[getD_inj nd (i:=i) (j:=j) (by omega) (by omega) e]
     . cases ht
   . cases hs
theorem Gs.Us(h:Gs O0 H0 H ad c) (hc:c (.pl 0)=some (.lst [])) (sm:aC H H'){ps:List Addr}{m:Nat}(hm:ps.length=m) (nd:ps.Nodup) (hp:∀p∈ps,H p=none/\H' p=some (.lst [])):Gs O0 H0 H' (nQ ad λi=>if i=0 then ad (.pl 0) else ps.getD (i-1) 0) (Jl c (m+1)):=by
 refine h.more sm (λs=>∃i,s=.pl (i+1)) (λs o hs=>?_) λs t o u hs ht=>?_
 . cases s <;> first|exact .inl ⟨λ⟨_,e⟩=>(by cases e),hs,rfl⟩|skip
   case pl i=>
    simp only[Jl]at hs
    split at hs
    . rename_i hi
      cases hs
      cases i with
      | zero=>exact .inl ⟨λ⟨_,e⟩=>(by cases e),hc,rfl⟩
      | succ i=>
       obtain⟨a,b⟩:=hp _ (getD_mem (ps:=ps) (i:=i) (by omega))
       exact .inr ⟨⟨i,rfl⟩,a,b⟩
    . cases hs
 . rintro⟨i,rfl⟩ ⟨j,rfl⟩ e
   simp only[Jl]at hs ht
   split at hs
   . split at ht
     . rw[getD_inj nd (i:=i) (j:=j) (by omega) (by omega) e]
     . cases ht
   . cases hs
end
theorem Gs.ord{H0 H H':Hp}{O0:Addr->Prop}{ad:Sl->Addr}{c:Sl->Option HO}{u1 u2 u3 u4 v1 v2 v3 v4:HO}(h:Gs O0 H0 H ad c)(e1:c .order=some u1)(e2:c .ahead=some u2)(e3:c .behind=some u3)(e4:c .marks=some u4)
 (o1:H' (ad .order)=some v1) (o2:H' (ad .ahead)=some v2) (o3:H' (ad .behind)=some v3) (o4:H' (ad .marks)=some v4) (ot:∀x,x≠ad .order->x≠ad .ahead->x≠ad .behind->x≠ad .marks->H' x=H x) :
 Gs O0 H0 H' ad (fU (fU (fU (fU c .order (some v1)) .ahead (some v2)) .behind (some v3)) .marks (some v4)):=by
 refine h.chg [.order,.ahead,.behind,.marks] (λs hs=>?_) (λs hs=>?_) (λx hx=>ot x (hx .order (by simp)) (hx .ahead (by simp)) (hx .behind (by simp)) (hx .marks (by simp)))
 . simp only[XI,Yf,or_false]at hs
   rcases hs with rfl|rfl|rfl|rfl
   . exact⟨_,_,e1,rfl,o1⟩
   . exact⟨_,_,e2,rfl,o2⟩
   . exact⟨_,_,e3,rfl,o3⟩
   . exact⟨_,_,e4,rfl,o4⟩
 . simp only[XI,Yf,or_false,ZG]at hs
   rw[aW hs.2.2.2,aW hs.2.2.1,aW hs.2.1,aW hs.1]
theorem xT{a:Addr}{ps:List Addr}{m:Nat}(hm:ps.length=m):V.ref a::ps.map V.ref=fl (m+1) λi=>V.ref (if i=0 then a else ps.getD (i-1) 0):=by
 refine Zz λi=>?_
 rcases Yn i (m+1) with h|h
 . rw[iJ h]
   cases i with
   | zero=>rfl
   | succ i=>
    rw[YC,Xt,Xo (by omega),XW (Zk i),aaP,Ys,Xo (by omega)]
    rfl
 . rw[X3 (by rw[X0,Xl];omega),X3 (by rw[aR];omega)]
theorem nR{x:V}{k:Nat} : x::(List.replicate k [x]).flatten=fl (k+1) λ_=>x:=by
 refine Zz λi=>?_
 rw[List.flatten_replicate_singleton]
 rcases Yn i (k+1) with h|h
 . rw[iJ h]
   cases i with
   | zero=>rfl
   | succ i=>rw[YC,Z6,XO (by omega)]
 . rw[X3 (by rw[X0,aai];omega),X3 (by rw[aR];omega)]
theorem vL{m:Nat}{D:Addr}{H:Hp}{Q:Hp->Prop}(hD:H D=none)(hm:m<=1000)
 (fin:∀(H':Hp) (ps:List Addr),ps.length=m->ps.Nodup->(∀p∈ps,H p=none/\p≠D/\H' p=some (.lst []))->aC H H'->H' D=some (.lst (ps.map V.ref))->Q H') :
 ∃W:Nat->Nat->St->Hp->Prop,(∃m,W 0 m [none] (upd H D (.lst [])))/\nB D (ee 0) lS (Bz lO) (pW 0 m) W Q:=by
 have nw:∀{H9:Hp}{o:HO},aC H H9->aC H (upd H9 D o):=λs9 c o hc=>by rw[ag (aq hc hD)];exact s9 c o hc
 refine lU m (λi acc σ H9=>∃(ps:List Addr) (u:Option V),σ=[u]/\acc=ps.map V.ref/\ps.length=i/\ps.Nodup/\(∀p∈ps,H p=none/\p≠D/\H9 p=some (.lst []))/\aC H H9) ⟨[],none,rfl,rfl,rfl,Yb,λ_ h=>(by cases h),nw λ_ _ h=>h⟩ aj ?_ ?_
 . rintro acc σ H9 dq ⟨ps,u,rfl,rfl,h1,h2,h3,h4⟩
   exact⟨Xv _,fin H9 ps h1 h2 h3 h4 dq⟩
 . rintro i acc σ H9 hi dq ⟨ps,u,rfl,rfl,h1,h2,h3,h4⟩
   refine⟨hi,?_⟩
   rintro x H' ⟨rfl,rfl⟩
   refine kJ ⟨by decide,λp hp=>?_⟩
   have pD:p≠D:=(aq dq hp).symm
   have AE:H p=none:=by
    cases e:H p with
    | none=>rfl
    | some o=>rw[h4 p o e]at hp;cases hp
   refine⟨ps.map V.ref,by rw[ag pD.symm];exact dq,?_,gv hi aj ⟨ps++[p],_,rfl,?_,?_,?_,?_,nw λb o hb=>?_⟩⟩
   . rw[Xl]
     exact XT (XS (by omega:ps.length<=1000) (Xv _)) (by decide)
   . rw[Xx];rfl
   . rw[Xs,h1];rfl
   . exact i4 h2 λz=>by rw[(h3 p z).2.2]at hp;cases hp
   . intro r hr
     rcases Xp.mp hr with hr|hr
     . obtain⟨a1,a2,a3⟩:=h3 r hr
       exact⟨a1,a2,by rw[ag a2,ag (aq a3 hp)];exact a3⟩
     . rw[Xm.mp hr]
       exact⟨AE,pD,by rw[ag pD,aj]⟩
   . rw[ag (aq (h4 b o hb) hp)]
     exact h4 b o hb
end L2
namespace Gen
open PySem L2 Sat
abbrev vM:Stmt:=inClass (top 5) 0
abbrev yS:Stmt:=inClass (top 5) 1
abbrev vN:Stmt:=inClass (top 6) 0
def z1:List V:=fl 1 λ_=>iV 0
section
variable (CO CP:Addr)
inductive CB(vs:List V) (H:Hp) (Q:VK):Prop
 | mk (o dx:Addr) (h1:vs=[.ref o]) (ho:H o=some (.ins CO dx []))
  (kk:∀(a b m:Addr) (H':Hp),H' o=some (.ins CO dx (fV a b m 0 0))->H' a=some (.lst z1)->H' b=some (.lst z1)->H' m=some (.lst z1)->H a=none->H b=none->H m=none->a≠b->a≠m->b≠m->cH H H' o->Q .bb H')
def xU:Sp:=λvs H Q _=>CB CO vs H Q
inductive CC(vs:List V) (H:Hp) (Q:VK):Prop
 | mk (o dx:Addr) (h1:vs=[.ref o]) (ho:H o=some (.ins CP dx [])) (kk:Q .bb (upd H o (.ins CP dx (oI 100))))
def xV:Sp:=λvs H Q _=>CC CP vs H Q
inductive Fp(vs:List V) (H:Hp) (Q:VK):Prop
 | mk (o dx a b m n:Nat) (h1:vs=[.ref o,iV n]) (ho:H o=some (.ins CO dx (fV a b m 0 0))) (ha:H a=some (.lst z1)) (hb:H b=some (.lst z1)) (hm:H m=some (.lst z1)) (ab:a≠b) (am:a≠m) (bm:b≠m) (hn:n<=1000)
  (kk:∀(H':Hp) (ah bh mk:Nat->Nat) (ne se:Nat) (perm:List Nat),H' o=some (.ins CO dx (fV a b m ne se))->H' a=some (.lst (fl (n+1) λi=>iV (ah i)))->H' b=some (.lst (fl (n+1) λi=>iV (bh i)))->H' m=some (.lst (fl (n+1) λi=>iV (mk i)))->fi n ah bh mk ne se (λ_=>True) perm->
   (∀x,x≠o->x≠a->x≠b->x≠m->H' x=H x)->Q .bb H')
def AU:Sp:=λvs H Q _=>Fp CO vs H Q
end
theorem Fq:aG ["self"] ["self"] (aB vM):=fs
theorem Fs:aG ["self"] ["self"] (aB vN):=fs
abbrev M0:List Str:=["self", "many", "variable"]
theorem AV:aG M0 ["self", "many"] (aB yS):=fs
theorem xW{H:Hp}{p:Addr}{o:HO}{s:Sl}(h:H p=some o):Gs (λx=>x=p) H H (λ_=>p) (fU (λ_=>none) s (some o)):=by
 have key:∀{t:Sl}{u:HO},fU (λ_=>none) s (some o) t=some u->t=s/\u=o:=λ{t u} e=>by
  by_cases z:t=s
  . subst z;rw[aI]at e;exact⟨rfl,(Xq e).symm⟩
  . rw[aW z]at e;cases e
 refine⟨⟨λt u e=>?_,λt r u u' e e' _=>?_⟩,λ_ _ h _=>h,λb hb=>.inl ?_⟩
 . rw[(key e).2];exact h
 . rw[(key e).1,(key e').1]
 . obtain⟨_,_,_,e⟩:=hb;exact e.symm
section
variable {P:Program}{w:World}{K:W.Frag}{mg:Str->Option Value}{base:Heap}{CO CP:Addr}
theorem CD{f:Addr}{fd:FuncData}(F:aM K "__init__" "Pauses.__init__" vN f fd)(TP:vo K mg CP) (hU:∃u,mg "RESTART_UNIT" = some u/\RelV (.int 100) u):aD P w K mg base aT 1 f fd ["self"] (xV CP):=by
 refine F.run Fs λa6 A outer s H vs Q E hr h=>?_
 obtain⟨o,dx,rfl,ho,kk⟩:=h
 obtain⟨u,xM,Jm⟩:=hU
 refine⟨_,(ae (bu (pv 0) au rfl)
  (ae (bu (pv 0) au rfl)
  (av (bu (pv 0) (wN rfl xM Jm) rfl)))),?_⟩
 refine⟨_,rfl,o,CP,dx,_,rfl,ho,TP.cl,TP.n1,(by show 0<1000;decide),?_⟩
 refine⟨_,rfl,o,CP,dx,_,rfl,aj,TP.cl,TP.n2,(by show 1<1000;decide),?_⟩
 rw[nV]
 refine⟨_,rfl,o,CP,dx,_,rfl,aj,TP.cl,TP.n3,(by show 2<1000;decide),?_⟩
 rw[nV]
 exact kk
theorem CF{f:Addr}{fd:FuncData}(F:aM K "__init__" "Order.__init__" vM f fd)(T:jD K mg CO):aD P w K mg base aT 1 f fd ["self"] (xU CO):=by
 refine F.run Fq λa6 A outer s H vs Q E hr h=>?_
 obtain⟨o,dx,rfl,ho,kk⟩:=h
 refine⟨_,(ae (bu (pv 0) (bj (aa au ak)) rfl)
  (ae (bu (pv 0) (bj (aa au ak)) rfl)
  (ae (bu (pv 0) (bj (aa au ak)) rfl)
  (ae (bu (pv 0) au rfl)
  (av (bu (pv 0) au rfl)))))),?_⟩
 have G0:=xW (s:=.order) ho
 refine⟨by decide,λa ha=>?_⟩
 obtain⟨e1,G1⟩:=G0.fld (s:=.order) (t:=.ahead) (o:=.lst z1) (oi':=.ins CO dx [("ahead",.ref a)]) aI (by decide) ha
 refine⟨_,rfl,o,CO,dx,_,rfl,e1,T.cl,T.n1,(by show 0<1000;decide),?_⟩
 show lM _ _ _ _ (upd (upd H a (.lst z1)) o (.ins CO dx [("ahead",.ref a)]))
 generalize upd (upd H a (.lst z1)) o (.ins CO dx [("ahead",.ref a)])=H1 at G1 ⊢
 refine⟨by decide,λb hb=>?_⟩
 obtain⟨e2,G2⟩:=G1.fld (s:=.order) (t:=.behind) (o:=.lst z1) (oi':=.ins CO dx [("ahead",.ref a),("behind",.ref b)]) aI (by decide) hb
 refine⟨_,rfl,o,CO,dx,_,rfl,e2,T.cl,T.n2,(by show 1<1000;decide),?_⟩
 show lM _ _ _ _ (upd (upd H1 b (.lst z1)) o (.ins CO dx [("ahead",.ref a),("behind",.ref b)]))
 change Gs _ _ (upd (upd H1 b (.lst z1)) o (.ins CO dx [("ahead",.ref a),("behind",.ref b)])) _ _ at G2
 generalize upd (upd H1 b (.lst z1)) o (.ins CO dx [("ahead",.ref a),("behind",.ref b)])=H2 at G2 ⊢
 refine⟨by decide,λm hm=>?_⟩
 obtain⟨e3,G3⟩:=G2.fld (s:=.order) (t:=.marks) (o:=.lst z1) (oi':=.ins CO dx [("ahead",.ref a),("behind",.ref b),("marks",.ref m)]) aI (by decide) hm
 refine⟨_,rfl,o,CO,dx,_,rfl,e3,T.cl,T.n3,(by show 2<1000;decide),?_⟩
 show lM _ _ _ _ (upd (upd H2 m (.lst z1)) o (.ins CO dx [("ahead",.ref a),("behind",.ref b),("marks",.ref m)]))
 change Gs _ _ (upd (upd H2 m (.lst z1)) o (.ins CO dx [("ahead",.ref a),("behind",.ref b),("marks",.ref m)])) _ _ at G3
 generalize upd (upd H2 m (.lst z1)) o (.ins CO dx [("ahead",.ref a),("behind",.ref b),("marks",.ref m)])=H3 at G3 ⊢
 refine⟨_,rfl,o,CO,dx,_,rfl,(show H3 o=_ from G3.at_ (s:=Sl.order) rfl),T.cl,T.n4,(by show 3<1000;decide),?_⟩
 refine⟨_,rfl,o,CO,dx,_,rfl,aj,T.cl,T.n5,(by show 4<1000;decide),?_⟩
 rw[nV]
 have G4:=G3.upd (s:=.order) (o:=.ins CO dx (fV a b m 0 0)) (o':=.ins CO dx [("ahead",.ref a),("behind",.ref b),("marks",.ref m)]) rfl
 have ne:∀{s t:Sl}{u v:HO},_=some u->_=some v->s≠t->_≠_:=λ{s t u v} hu hv n e=>n (G4.st.inj s t u v hu hv e)
 have nw:∀{s:Sl}{u:HO}{x:Addr},_=some u->s≠.order->_=x->H x=none:=λ{s u x} hu n e=>by
  rcases G4.kp.nw _ ⟨s,u,hu,rfl⟩ with z|z
  . exact absurd (show _=_ from z) (ne hu (t:=.order) (v:=.ins CO dx (fV a b m 0 0)) rfl n)
  . rw[← e];exact z
 refine kk a b m _ (G4.at_ (s:=Sl.order) rfl) (G4.at_ (s:=Sl.ahead) rfl) (G4.at_ (s:=Sl.behind) rfl) (G4.at_ (s:=Sl.marks) rfl) ha (nw (s:=.behind) rfl (by decide) rfl) (nw (s:=.marks) rfl (by decide) rfl) (ne (s:=.ahead) (t:=.behind) rfl rfl (by decide)) (ne (s:=.ahead) (t:=.marks) rfl rfl (by decide)) (ne (s:=.behind) (t:=.marks) rfl rfl (by decide)) λb u hb n=>G4.kp.st b u hb n
theorem rY{k:Nat}{f:Nat->Nat} : (fl (k+1) λi=>iV (f i))++[V.int 0]=fl (k+1+1) λi=>iV (fU f (k+1) 0 i):=by
 refine ly (λi hi=>?_) ?_
 . rw[aW (by omega)]
 . rw[aI];rfl
theorem Ft{f fL:Addr}{fd dL:FuncData}(F:aM K "lengthen" "Order.lengthen" yS f fd)(T:jD K mg CO)(O:Own mg) (gL:aD P w K mg base aT 1 fL dL ["self", "variable"] (rh CO)) (mL:Meth K CO "link_last" fL) (bL:Binds K dL ["self", "variable"] []):aD P w K mg base aT 2 f fd ["self", "many"] (AU CO):=by
 refine F.run AV λa6 A outer s H vs Q E hr h=>?_
 obtain⟨o,dx,a,b,m,n,rfl,ho,ha,hb,hm,ab,am,bm,hn,kk⟩:=h
 have oa:=k6 ho ha
 have ob:=k6 ho hb
 have om:=k6 ho hm
 refine⟨_,(ae (cJ XX rfl (zh rfl O.range (aa (aJ a7 (by rfl) O.len X5 (aa (aw (pv 0) rfl) ak)) (aa (aV fq (pv 1) au) ak))) (aL (i:=2) AV.nd rfl (Or.inl rfl))
  (ae (aK (cV XD XG XH bz (aw (pv 0) rfl) (aa au ak)))
  (ae (aK (cV XD XG XH bz (aw (pv 0) rfl) (aa au ak)))
  (ae (aK (cV XD XG XH bz (aw (pv 0) rfl) (aa au ak)))
  (av (aK (cQ (pv 0) T.cl mL gL hr bL (aa (pv 2) ak))))))))
  (av (bu (pv 0) (aF (r:=aZ K) ay (aw (pv 0) rfl) au (λ_ _=>rfl)) rfl))),?_⟩
 refine⟨_,rfl,o,_,_,_,_,rfl,ho,T.cl,T.n3,rg,m,_,rfl,.inl (ax.of hm),_,rfl,_,_,rfl,rfl,_,_,rfl,⟨by decide,by decide,by omega,by omega⟩,?_⟩
 rw[show z1.length=1 from rfl,show ((n:Int)+1-((1:Nat):Int)).toNat=n by omega]
 refine jO (λi σ Hx=>∃(ah bh mk:Nat->Nat) (ne:Nat) (v2:Option V),σ=[some (.ref o),some (iV n),v2]/\Hx o=some (.ins CO dx (fV a b m ne 0))/\Hx a=some (.lst (fl (i+1) λi=>iV (ah i)))/\Hx b=some (.lst (fl (i+1) λi=>iV (bh i)))/\Hx m=some (.lst (fl (i+1) λi=>iV (mk i)))/\Ring (List.range' 1 i) ah bh/\iy (List.range' 1 i) mk ne/\∀x,x≠o->x≠a->x≠b->x≠m->Hx x=H x)
  ⟨λ_=>0,λ_=>0,λ_=>0,0,none,rfl,ho,ha,hb,hm,⟨rfl,rfl,Yb,Yf⟩,⟨List.Pairwise.nil,λ_ h=>(by cases h),rfl⟩,λ_ _ _ _ _=>rfl⟩ ?_ ?_
 . rintro i σ Hx hi ⟨ah,bh,mk,ne,v2,rfl,h1,h2,h3,h4,R,M,h5⟩
   have nv:i+1∉List.range' 1 i:=λz=>by rw[Y3]at z;omega
   have sl:i+1<sizeLine:=XT (show i+1<=1000 by omega) (by decide)
   refine⟨_,rfl,o,_,_,_,_,rfl,h1,T.cl,T.n1,nC,.inl ⟨rfl,_,ax.of h2⟩,a,_,_,rfl,rfl,h2,(by rw[aR];exact sl),?_⟩
   rw[rY]
   generalize e1:L2.upd Hx a (.lst (fl (i+1+1) λj=>iV (fU ah (i+1) 0 j)))=H1
   have a1:H1 a=some (.lst (fl (i+1+1) λj=>iV (fU ah (i+1) 0 j))):=by rw[← e1];exact aj
   have x1:∀x,x≠a->H1 x=Hx x:=λx h=>by rw[← e1];exact ag h
   have o1:=(x1 o oa).trans h1
   have b1:=(x1 b ab.symm).trans h3
   have m1:=(x1 m am.symm).trans h4
   refine⟨_,rfl,o,_,_,_,_,rfl,o1,T.cl,T.n2,uK,.inl ⟨rfl,_,ax.of b1⟩,b,_,_,rfl,rfl,b1,(by rw[aR];exact sl),?_⟩
   rw[rY]
   generalize e2:L2.upd H1 b (.lst (fl (i+1+1) λj=>iV (fU bh (i+1) 0 j)))=H2
   have b2:H2 b=some (.lst (fl (i+1+1) λj=>iV (fU bh (i+1) 0 j))):=by rw[← e2];exact aj
   have x2:∀x,x≠b->H2 x=H1 x:=λx h=>by rw[← e2];exact ag h
   have o2:=(x2 o ob).trans o1
   have a2:=(x2 a ab).trans a1
   have m2:=(x2 m bm.symm).trans m1
   refine⟨_,rfl,o,_,_,_,_,rfl,o2,T.cl,T.n3,rg,.inl ⟨rfl,_,ax.of m2⟩,m,_,_,rfl,rfl,m2,(by rw[aR];exact sl),?_⟩
   rw[rY]
   generalize e3:L2.upd H2 m (.lst (fl (i+1+1) λj=>iV (fU mk (i+1) 0 j)))=H3
   have m3:H3 m=some (.lst (fl (i+1+1) λj=>iV (fU mk (i+1) 0 j))):=by rw[← e3];exact aj
   have x3:∀x,x≠m->H3 x=H2 x:=λx h=>by rw[← e3];exact ag h
   have o3:=(x3 o om).trans o2
   have a3:=(x3 a am).trans a2
   have b3:=(x3 b bm).trans b2
   have R1:=R.wide nv (Zk i)
   have M1:=M.wide nv (Zk i)
   have la:fU ah (i+1) 0 0<=i+1:=by
    rcases (R1.last M1).1 with e|e
    . rw[e];omega
    . rw[Y3]at e;omega
   refine⟨_,rfl,o,_,_,rfl,o3,by kernel_rfl,_,rfl,?_⟩
   refine⟨o,dx,a,b,m,i+1,i+1,_,_,_,ne,0,?_,o3,a3,b3,m3,ab,am,bm,Xv _,la,λH4 o4 a4 b4 m4 x4=>?_⟩
   . show [V.ref o,V.int ((1:Int)+i)]=_
     rw[show (1:Int)+i=((i+1:Nat):Int) by omega]
   refine⟨_,_,_,_,_,rfl,o4,a4,b4,m4,?_,?_,λx q1 q2 q3 q4=>by rw[x4 x q1 q2 q3 q4,x3 x q4,x2 x q3,x1 x q2,h5 x q1 q2 q3 q4]⟩
   . rw[aay,aal 1 i]
     exact R1.link nv (Zk i)
   . rw[aay,aal 1 i]
     exact M1.link nv (Zk i)
 . rintro σ Hx ⟨ah,bh,mk,ne,v2,rfl,h1,h2,h3,h4,R,M,h5⟩
   refine⟨_,rfl,o,_,_,_,_,rfl,h1,T.cl,T.n1,nC,a,_,_,_,rfl,rfl,ax.of h2,bY (k:=0) (by omega),_,rfl,o,_,_,_,rfl,h1,T.cl,T.n5,(by show 5<1000;decide),?_⟩
   rw[BO]
   obtain⟨l1,l2⟩:=R.last M
   refine kk _ ah bh mk ne (ah 0) (List.range' 1 n) aj (by rw[ag oa.symm];exact h2) (by rw[ag ob.symm];exact h3) (by rw[ag om.symm];exact h4) ⟨R,M,λv=>by rw[Y3];omega,?_,λv v1 v2 lt=>?_⟩ λx q1 q2 q3 q4=>by rw[ag q1];exact h5 x q1 q2 q3 q4
   . rcases l1 with e|e
     . rw[e];omega
     . rw[Y3]at e;omega
   . have:=l2 v (by rw[Y3];omega)
     omega
end
abbrev vO:Stmt:=inClass (top 7) 1
section
variable (C CO CP:Addr)
inductive Fu(vs:List V) (H:Hp) (Q:VK):Prop
 | mk (ad:Sl->Addr) (n:Nat) (h1:vs=[.ref (ad .self),iV n]) (st:eG H ad (cont C CO CP ad AS)) (hn:n<=6)
  (k:∀(H':Hp) (bp:Sl->Addr) (ah bh mk:Nat->Nat) (ne se:Nat),bp .self=ad .self->Gs (cB C CO CP ad AS) H H' bp (cont C CO CP bp (S0 n ah bh mk ne se))->nI (S0 n ah bh mk ne se)->Q .bb H')
def AW:Sp:=λvs H Q _=>Fu C CO CP vs H Q
end
abbrev Jn:List Str:=["self", "many", "more", "middle"]
theorem rZ:aG Jn ["self", "many"] (aB vO):=fs
theorem un{H:Hp}{p q:Addr}{o u:HO}(h:H p=some o)(hq:H q=none):upd H q u p=some o:=by rw[ag (aq h hq)];exact h
section
variable {P:Program}{w:World}{K:W.Frag}{mg:Str->Option Value}{base:Heap}{C CO CP:Addr}
theorem Fv{f fL:Addr}{fd dL:FuncData}(F:aM K "widen" "Search.widen" vO f fd)(T:dZ K mg C)(TO:jD K mg CO)(O:Own mg) (gL:aD P w K mg base aT 2 fL dL ["self", "many"] (AU CO)) (mL:Meth K CO "lengthen" fL) (bL:Binds K dL ["self", "many"] []):aD P w K mg base aT 3 f fd ["self", "many"] (AW C CO CP):=by
 refine F.run rZ λa6 A outer s H vs Q E hr h=>?_
 obtain⟨ad,n,rfl,st,hn,k⟩:=h
 refine⟨_,(ae (aQ 2 rZ.nd (aV kT (pv 1) (aw (pv 0) rfl)))
  (ae (aQ 3 rZ.nd (aV fq (aw (pv 0) rfl) au))
  (ae (bu (pv 0) (aV hX (aV hX (fR gQ (aw (pv 0) rfl) iw (gd (pv 3))) (aV nr (bj (aa au ak)) (aV ft au (pv 2)))) (fR gQ (aw (pv 0) rfl) (gd (pv 3)) iw)) rfl)
  (ae (bu (pv 0) (aV hX (aV hX (fR gQ (aw (pv 0) rfl) iw (gd (pv 3))) (gu (N:=["place"]) (js:=[none]) (by kernel_rfl) rfl (hV rfl O.range (aa (aV ft au (pv 2)) ak)) (λ_ _ _ _ _ _=>(aL (i:=0) (show (["place"]:List Str).Nodup from dk) rfl (Or.inl rfl) (.inr rfl))) (λ_ _ _ _ _ _=>dj) (λ_ _ _ _ _ _=>(bj ak)))) (fR gQ (aw (pv 0) rfl) (gd (pv 3)) iw)) rfl)
  (ae (bu (pv 0) (aV hX (aV hX (fR gQ (aw (pv 0) rfl) iw (gd (pv 3))) (gu (N:=["place"]) (js:=[none]) (by kernel_rfl) rfl (hV rfl O.range (aa (aV ft au (pv 2)) ak)) (λ_ _ _ _ _ _=>(aL (i:=0) (show (["place"]:List Str).Nodup from dk) rfl (Or.inl rfl) (.inr rfl))) (λ_ _ _ _ _ _=>dj) (λ_ _ _ _ _ _=>(bj ak)))) (fR gQ (aw (pv 0) rfl) (gd (pv 3)) iw)) rfl)
  (ae (aK (cV XD YI YJ jQ (aw (pv 0) rfl) (aa (aV nr (bj (aa au ak)) (pv 2)) ak)))
  (ae (aK (cV XD YI YJ jQ (aw (pv 0) rfl) (aa (aV nr (bj (aa i8 ak)) (pv 2)) ak)))
  (ae (aK (cV XD YI YJ jQ (aw (pv 0) rfl) (aa (aV nr (bj (aa au ak)) (pv 2)) ak)))
  (ae (aK (cV XD YI YJ jQ (aw (pv 0) rfl) (aa (aV nr (bj (aa (f7 eQ au) ak)) (pv 2)) ak)))
  (ae (aK (cQ (aw (pv 0) rfl) TO.cl mL gL hr bL (aa (pv 1) ak)))
  (av (bu (pv 0) (pv 1) rfl)))))))))))),?_⟩
 have G0:=Gs.refl st
 have s0:=G0.at_ (s:=Sl.self) rfl
 refine⟨_,rfl,_,rfl,ad .self,_,_,_,_,rfl,s0,T.cl,T.size,rA,_,_,rfl,rfl,?_⟩
 refine⟨_,rfl,ad .self,_,_,_,_,rfl,s0,T.cl,T.size,rA,_,_,rfl,rfl,?_⟩
 show lM _ _ _ [some (.ref (ad .self)),some (iV n),some (iV n),some (.int 1)] H
 refine⟨_,rfl,ad .self,_,_,_,_,rfl,s0,T.cl,T.bits,eZ,_,rfl,_,rfl,ad .bits,[.int 0],rfl,ax.of (G0.at_ (s:=Sl.bits) rfl),λp1 q1=>?_⟩
 rw[show gs [V.int 0] none (some 1)=[V.int 0] from rfl]
 have G1:=G0.other (o:=.lst [.int 0]) q1
 refine⟨by decide,λp2 q2=>?_⟩
 have G2:=G1.other (o:=.lst [.int 0]) q2
 have z2:(2*(n:Int)).toNat=2*n:=by omega
 have ln:∀{x:V},(List.replicate (2*n) [x]).flatten.length<=100:=by intro x;rw[len_rep,XE];omega
 have big:200<=sizeLine:=by decide
 refine⟨_,rfl,_,_,rfl,rfl,.inl ⟨by decide,by decide⟩,p2,_,_,rfl,rfl,aj,by omega,by omega,by rw[z2,XE];omega,?_⟩
 rw[z2]
 intro p3 q3
 have G3:=G2.other (o:=.lst (List.replicate (2*n) [.int 0]).flatten) q3
 have f1:upd (upd (upd H p1 (.lst [.int 0])) p2 (.lst [.int 0])) p3 (.lst (List.replicate (2*n) [.int 0]).flatten) p1=_:=un (un aj q2) q3
 have f3:upd (upd (upd H p1 (.lst [.int 0])) p2 (.lst [.int 0])) p3 (.lst (List.replicate (2*n) [.int 0]).flatten) p3=_:=aj
 generalize upd (upd (upd H p1 (.lst [.int 0])) p2 (.lst [.int 0])) p3 (.lst (List.replicate (2*n) [.int 0]).flatten)=H3 at G3 f1 f3 ⊢
 refine⟨p1,p3,_,_,rfl,rfl,f1,f3,?_,?_⟩
 . have:=ln (x:=.int 0);rw[XE];omega
 rw[Yo,nR]
 intro p4 q4
 have G4:=G3.other (o:=.lst (fl (2*n+1) λ_=>V.int 0)) q4
 refine⟨_,rfl,ad .self,_,_,_,_,rfl,G4.at_ (s:=Sl.self) rfl,T.cl,T.bits,eZ,_,rfl,_,rfl,ad .bits,[.int 0],rfl,ax.of (G4.at_ (s:=Sl.bits) rfl),λp5 q5=>?_⟩
 rw[show gs [V.int 0] (some 1) none=[] from rfl]
 have G5:=G4.other (o:=.lst []) q5
 refine⟨p4,p5,_,_,rfl,rfl,un aj q5,aj,?_,?_⟩
 . rw[aR,YA];omega
 rw[Yl]
 intro p6 q6
 obtain⟨e6,G6⟩:=G5.fld (s:=.self) (t:=.bits) (o:=.lst (fl (2*n+1) λ_=>V.int 0)) (oi':=.ins C (ad .dm) (cR (fU ad .bits p6) 0 0)) rfl (by decide) q6
 refine⟨_,rfl,ad .self,_,_,_,rfl,e6,T.cl,T.bits,(by show 19<1000;decide),?_⟩
 rw[show eM "bits" (V.ref p6) (cR ad AS.n AS.passed)=cR (fU ad .bits p6) 0 0 by kernel_rfl]
 generalize upd (upd _ p6 (.lst (fl (2*n+1) λ_=>V.int 0))) (ad .self) (.ins C (ad .dm) (cR (fU ad .bits p6) 0 0))=H6 at G6 ⊢
 clear q1 q2 q3 q4 q5 q6 e6 G1 G2 G3 G4 G5 s0 G0 f1 f3
 refine⟨_,rfl,ad .self,_,_,_,_,rfl,G6.at_ (s:=Sl.self) rfl,T.cl,T.watches,gw,_,rfl,_,rfl,ad .watches,[.ref (ad (.wl 0))],rfl,ax.of (G6.at_ (s:=Sl.watches) rfl),λa1 b1=>?_⟩
 rw[show gs [V.ref (ad (.wl 0))] none (some 1)=[V.ref (ad (.wl 0))] from rfl]
 have G1:=G6.other (o:=.lst [.ref (ad (.wl 0))]) b1
 refine⟨_,rfl,_,_,rfl,rfl,.inl ⟨by decide,by decide⟩,_,rfl,by omega,by omega,λD hD=>?_⟩
 rw[z2]
 refine vL hD (by omega) λH7 ps hl nd qz sm dq=>?_
 have G2:=G1.Ur rfl sm hl nd λp hp=>⟨(qz p hp).1,(qz p hp).2.2⟩
 have f1:=sm _ _ (show upd H6 a1 (.lst [.ref (ad (.wl 0))]) a1=_ from aj)
 clear qz sm hD G1 b1
 refine⟨a1,D,_,_,rfl,rfl,f1,dq,?_,?_⟩
 . rw[XE,Xl];omega
 rw[Yo,xT hl]
 intro a3 b3
 have G3:=G2.other (o:=.lst (fl (2*n+1) λi=>V.ref (if i=0 then ad (.wl 0) else ps.getD (i-1) 0))) b3
 refine⟨_,rfl,ad .self,_,_,_,_,rfl,G3.at_ (s:=Sl.self) rfl,T.cl,T.watches,gw,_,rfl,_,rfl,ad .watches,[.ref (ad (.wl 0))],rfl,ax.of (G3.at_ (s:=Sl.watches) rfl),λa4 b4=>?_⟩
 rw[show gs [V.ref (ad (.wl 0))] (some 1) none=[] from rfl]
 have G4:=G3.other (o:=.lst []) b4
 refine⟨a3,a4,_,_,rfl,rfl,un aj b4,aj,?_,?_⟩
 . rw[aR,YA];omega
 rw[Yl]
 intro a5 b5
 obtain⟨e5,GW⟩:=G4.fld (s:=.self) (t:=.watches) (o:=.lst (fl (2*n+1) λi=>V.ref (if i=0 then ad (.wl 0) else ps.getD (i-1) 0))) (oi':=.ins C (ad .dm) (cR (fU (jj (fU ad .bits p6) λi=>if i=0 then ad (.wl 0) else ps.getD (i-1) 0) .watches a5) 0 0)) rfl (by decide) b5
 refine⟨_,rfl,ad .self,_,_,_,rfl,e5,T.cl,T.watches,(by show 19<1000;decide),?_⟩
 rw[show eM "watches" (V.ref a5) (cR (fU ad .bits p6) 0 0)=cR (fU (jj (fU ad .bits p6) λi=>if i=0 then ad (.wl 0) else ps.getD (i-1) 0) .watches a5) 0 0 by kernel_rfl]
 change Gs _ _ (upd (upd _ a5 (.lst (fl (2*n+1) λi=>V.ref (if i=0 then ad (.wl 0) else ps.getD (i-1) 0)))) (ad .self) (.ins C (ad .dm) (cR (fU (jj (fU ad .bits p6) λi=>if i=0 then ad (.wl 0) else ps.getD (i-1) 0) .watches a5) 0 0))) (fU (jj (fU ad .bits p6) λi=>if i=0 then ad (.wl 0) else ps.getD (i-1) 0) .watches a5) _ at GW
 generalize upd (upd _ a5 (.lst (fl (2*n+1) λi=>V.ref (if i=0 then ad (.wl 0) else ps.getD (i-1) 0)))) (ad .self) (.ins C (ad .dm) (cR (fU (jj (fU ad .bits p6) λi=>if i=0 then ad (.wl 0) else ps.getD (i-1) 0) .watches a5) 0 0))=Ut at GW ⊢
 clear b5 e5 b4 b3 f1 dq G6 G2 G3 G4 nd
 refine⟨_,rfl,ad .self,_,_,_,_,rfl,GW.at_ (s:=Sl.self) rfl,T.cl,T.pairs,kq,_,rfl,_,rfl,ad .pairs,[.ref (ad (.pl 0))],rfl,ax.of (GW.at_ (s:=Sl.pairs) rfl),λc1 b1=>?_⟩
 rw[show gs [V.ref (ad (.pl 0))] none (some 1)=[V.ref (ad (.pl 0))] from rfl]
 have G1:=GW.other (o:=.lst [.ref (ad (.pl 0))]) b1
 refine⟨_,rfl,_,_,rfl,rfl,.inl ⟨by decide,by decide⟩,_,rfl,by omega,by omega,λD hD=>?_⟩
 rw[z2]
 refine vL hD (by omega) λH8 qs hl nd qz sm dq=>?_
 have G2:=G1.Us rfl sm hl nd λp hp=>⟨(qz p hp).1,(qz p hp).2.2⟩
 have f1:=sm _ _ (show upd Ut c1 (.lst [.ref (ad (.pl 0))]) c1=_ from aj)
 clear qz sm hD G1 b1
 refine⟨c1,D,_,_,rfl,rfl,f1,dq,?_,?_⟩
 . rw[XE,Xl];omega
 rw[Yo,xT hl]
 intro c3 b3
 have G3:=G2.other (o:=.lst (fl (2*n+1) λi=>V.ref (if i=0 then ad (.pl 0) else qs.getD (i-1) 0))) b3
 refine⟨_,rfl,ad .self,_,_,_,_,rfl,G3.at_ (s:=Sl.self) rfl,T.cl,T.pairs,kq,_,rfl,_,rfl,ad .pairs,[.ref (ad (.pl 0))],rfl,ax.of (G3.at_ (s:=Sl.pairs) rfl),λc4 b4=>?_⟩
 rw[show gs [V.ref (ad (.pl 0))] (some 1) none=[] from rfl]
 have G4:=G3.other (o:=.lst []) b4
 refine⟨c3,c4,_,_,rfl,rfl,un aj b4,aj,?_,?_⟩
 . rw[aR,YA];omega
 rw[Yl]
 intro c5 b5
 obtain⟨e5,GP⟩:=G4.fld (s:=.self) (t:=.pairs) (o:=.lst (fl (2*n+1) λi=>V.ref (if i=0 then ad (.pl 0) else qs.getD (i-1) 0))) (oi':=.ins C (ad .dm) (cR (fU (nQ (fU (jj (fU ad .bits p6) λi=>if i=0 then ad (.wl 0) else ps.getD (i-1) 0) .watches a5) λi=>if i=0 then ad (.pl 0) else qs.getD (i-1) 0) .pairs c5) 0 0)) rfl (by decide) b5
 refine⟨_,rfl,ad .self,_,_,_,rfl,e5,T.cl,T.pairs,(by show 19<1000;decide),?_⟩
 rw[show eM "pairs" (V.ref c5) (cR (fU (jj (fU ad .bits p6) λi=>if i=0 then ad (.wl 0) else ps.getD (i-1) 0) .watches a5) 0 0)=cR (fU (nQ (fU (jj (fU ad .bits p6) λi=>if i=0 then ad (.wl 0) else ps.getD (i-1) 0) .watches a5) λi=>if i=0 then ad (.pl 0) else qs.getD (i-1) 0) .pairs c5) 0 0 by kernel_rfl]
 change Gs _ _ (upd (upd _ c5 (.lst (fl (2*n+1) λi=>V.ref (if i=0 then ad (.pl 0) else qs.getD (i-1) 0)))) (ad .self) (.ins C (ad .dm) (cR (fU (nQ (fU (jj (fU ad .bits p6) λi=>if i=0 then ad (.wl 0) else ps.getD (i-1) 0) .watches a5) λi=>if i=0 then ad (.pl 0) else qs.getD (i-1) 0) .pairs c5) 0 0))) (fU (nQ (fU (jj (fU ad .bits p6) λi=>if i=0 then ad (.wl 0) else ps.getD (i-1) 0) .watches a5) λi=>if i=0 then ad (.pl 0) else qs.getD (i-1) 0) .pairs c5) _ at GP
 generalize upd (upd _ c5 (.lst (fl (2*n+1) λi=>V.ref (if i=0 then ad (.pl 0) else qs.getD (i-1) 0)))) (ad .self) (.ins C (ad .dm) (cR (fU (nQ (fU (jj (fU ad .bits p6) λi=>if i=0 then ad (.wl 0) else ps.getD (i-1) 0) .watches a5) λi=>if i=0 then ad (.pl 0) else qs.getD (i-1) 0) .pairs c5) 0 0))=Xc at GP ⊢
 clear b5 e5 b4 b3 f1 dq GW G2 G3 G4 nd
 refine⟨_,rfl,ad .self,_,_,_,_,rfl,GP.at_ (s:=Sl.self) rfl,T.cl,T.levels,fG,.inl ⟨rfl,_,ax.of (GP.at_ (s:=Sl.levels) rfl)⟩,by decide,λd1 r1=>?_⟩
 have G1:=GP.other (o:=.lst [V.int 0]) r1
 refine⟨_,rfl,d1,_,_,rfl,rfl,aj,by omega,by omega,by rw[Yj,XE];omega,?_⟩
 rw[Yj]
 intro d2 r2
 have G2:=G1.other (o:=.lst (List.replicate n [V.int 0]).flatten) r2
 refine⟨ad .levels,d2,[V.int 0],_,rfl,rfl,G2.at_ (s:=Sl.levels) rfl,aj,by rw[len_rep,XE];omega,?_⟩
 rw[Yo,nR]
 have GL:=G2.upd (s:=Sl.levels) (o:=.lst (fl (n+1) λ_=>V.int 0)) rfl
 change Gs _ _ (upd _ (ad .levels) _) _ _ at GL
 generalize upd _ (ad .levels) (.lst (fl (n+1) λ_=>V.int 0))=QW at GL ⊢
 clear r1 r2 G1 G2 GP
 refine⟨_,rfl,ad .self,_,_,_,_,rfl,GL.at_ (s:=Sl.self) rfl,T.cl,T.reasons,iA,.inl ⟨rfl,_,ax.of (GL.at_ (s:=Sl.reasons) rfl)⟩,by decide,λd1 r1=>?_⟩
 have G1:=GL.other (o:=.lst [V.bb]) r1
 refine⟨_,rfl,d1,_,_,rfl,rfl,aj,by omega,by omega,by rw[Yj,XE];omega,?_⟩
 rw[Yj]
 intro d2 r2
 have G2:=G1.other (o:=.lst (List.replicate n [V.bb]).flatten) r2
 refine⟨ad .reasons,d2,[V.bb],_,rfl,rfl,G2.at_ (s:=Sl.reasons) rfl,aj,by rw[len_rep,XE];omega,?_⟩
 rw[Yo,nR]
 have GR:=G2.upd (s:=Sl.reasons) (o:=.lst (fl (n+1) λ_=>V.bb)) rfl
 change Gs _ _ (upd _ (ad .reasons) _) _ _ at GR
 generalize upd _ (ad .reasons) (.lst (fl (n+1) λ_=>V.bb))=OA at GR ⊢
 clear r1 r2 G1 G2 GL
 refine⟨_,rfl,ad .self,_,_,_,_,rfl,GR.at_ (s:=Sl.self) rfl,T.cl,T.places,kH,.inl ⟨rfl,_,ax.of (GR.at_ (s:=Sl.places) rfl)⟩,by decide,λd1 r1=>?_⟩
 have G1:=GR.other (o:=.lst [V.int 0]) r1
 refine⟨_,rfl,d1,_,_,rfl,rfl,aj,by omega,by omega,by rw[Yj,XE];omega,?_⟩
 rw[Yj]
 intro d2 r2
 have G2:=G1.other (o:=.lst (List.replicate n [V.int 0]).flatten) r2
 refine⟨ad .places,d2,[V.int 0],_,rfl,rfl,G2.at_ (s:=Sl.places) rfl,aj,by rw[len_rep,XE];omega,?_⟩
 rw[Yo,nR]
 have GQ:=G2.upd (s:=Sl.places) (o:=.lst (fl (n+1) λ_=>V.int 0)) rfl
 change Gs _ _ (upd _ (ad .places) _) _ _ at GQ
 generalize upd _ (ad .places) (.lst (fl (n+1) λ_=>V.int 0))=QX at GQ ⊢
 clear r1 r2 G1 G2 GR
 refine⟨_,rfl,ad .self,_,_,_,_,rfl,GQ.at_ (s:=Sl.self) rfl,T.cl,T.signs,lZ,.inl ⟨rfl,_,ax.of (GQ.at_ (s:=Sl.signs) rfl)⟩,_,rfl,by decide,λd1 r1=>?_⟩
 have G1:=GQ.other (o:=.lst [V.int (-1)]) r1
 refine⟨_,rfl,d1,_,_,rfl,rfl,aj,by omega,by omega,by rw[Yj,XE];omega,?_⟩
 rw[Yj]
 intro d2 r2
 have G2:=G1.other (o:=.lst (List.replicate n [V.int (-1)]).flatten) r2
 refine⟨ad .signs,d2,[V.int (-1)],_,rfl,rfl,G2.at_ (s:=Sl.signs) rfl,aj,by rw[len_rep,XE];omega,?_⟩
 rw[Yo,nR]
 have GS:=G2.upd (s:=Sl.signs) (o:=.lst (fl (n+1) λ_=>V.int (-1))) rfl
 change Gs _ _ (upd _ (ad .signs) _) _ _ at GS
 generalize upd _ (ad .signs) (.lst (fl (n+1) λ_=>V.int (-1)))=R0 at GS ⊢
 clear r1 r2 G1 G2 GQ
 refine⟨_,rfl,ad .self,_,_,_,_,rfl,GS.at_ (s:=Sl.self) rfl,T.cl,T.order,l6,ad .order,_,_,rfl,GS.at_ (s:=Sl.order) rfl,by kernel_rfl,_,rfl,?_⟩
 refine⟨ad .order,ad .kO,ad .ahead,ad .behind,ad .marks,n,rfl,GS.at_ (s:=Sl.order) rfl,GS.at_ (s:=Sl.ahead) rfl,GS.at_ (s:=Sl.behind) rfl,GS.at_ (s:=Sl.marks) rfl,λe=>?_,λe=>?_,λe=>?_,by omega,λEe ah bh mk ne se perm o1 o2 o3 o4 ok ot=>?_⟩
 . cases GS.st.inj Sl.ahead Sl.behind _ _ rfl rfl e
 . cases GS.st.inj Sl.ahead Sl.marks _ _ rfl rfl e
 . cases GS.st.inj Sl.behind Sl.marks _ _ rfl rfl e
 have GO:=GS.ord rfl rfl rfl rfl o1 o2 o3 o4 ot
 refine⟨_,rfl,_,rfl,ad .self,_,_,_,rfl,GO.at_ (s:=Sl.self) rfl,T.cl,T.size,(by show 19<1000;decide),?_⟩
 have GF:=GO.upd (s:=Sl.self) (o:=.ins C (ad .dm) (cR (fU (nQ (fU (jj (fU ad .bits p6) λi=>if i=0 then ad (.wl 0) else ps.getD (i-1) 0) .watches a5) λi=>if i=0 then ad (.pl 0) else qs.getD (i-1) 0) .pairs c5) n 0)) rfl
 refine k _ (fU (nQ (fU (jj (fU ad .bits p6) λi=>if i=0 then ad (.wl 0) else ps.getD (i-1) 0) .watches a5) λi=>if i=0 then ad (.pl 0) else qs.getD (i-1) 0) .pairs c5) ah bh mk ne se rfl (GF.congr λt=>?_) (nI.s0 ok hn)
 cases t <;> rfl
end
abbrev vP:Stmt:=inClass (top 7) 0
section
variable (C CO CP:Addr)
inductive CG(vs:List V) (H:Hp) (Q:VK):Prop
 | mk (o dx n:Nat) (h1:vs=[.ref o,iV n]) (ho:H o=some (.ins C dx [])) (hn:n<=6)
  (kk:∀(H':Hp) (ad:Sl->Addr) (S:SS),ad .self=o->Rep C CO CP H' ad S->Kp (λx=>x=o) H H' (cB C CO CP ad S)->nI S->S.n=n->S.held=[]->Q .bb H')
def xX:Sp:=λvs H Q _=>CG C CO CP vs H Q
end
theorem Fw:aG ["self", "many"] ["self", "many"] (aB vP):=fs
theorem eB{t:St->Hp->Prop}{σ:St}{H H':Hp}(e:H'=H)(h:t σ H'):t σ H:=e ▸ h
theorem xY{H H1:Hp}{x dx C:Addr}(hx:H x=none)(lB:H dx=none) (k1:cH (upd (upd H dx (.own x)) x (.ins C dx [])) H1 x):aC H H1:=λb o hb=>by
 have n1:=aq hb hx
 have n2:=aq hb lB
 exact k1 b o (by rw[ag n1,ag n2];exact hb) n1
theorem oz{H:Hp}{x dx C g:Addr}(hx:H x=none)(lB:H dx=none) (hg:(upd (upd H dx (.own x)) x (.ins C dx [])) g=none):H g=none:=by
 cases e:H g with
 | none=>rfl
 | some o=>
  rw[ag (aq e hx),ag (aq e lB),e]at hg
  cases hg
theorem qG{ad:Sl->Addr}{c:Sl->Option HO}{s:Sl}{p q:Addr}(h0:c s=none)(h:¬ iQ ad c q):¬ iQ (fU ad s p) c q:=λ⟨t,u,ht,e⟩=>h ⟨t,u,ht,by rw[aW λz=>by rw[z,h0]at ht;cases ht]at e;exact e⟩
section
variable {P:Program}{w:World}{K:W.Frag}{mg:Str->Option Value}{base:Heap}{C CO CP:Addr}
theorem CH{f fO fP fW:Addr}{fd dO dP dW:FuncData}(F:aM K "__init__" "Search.__init__" vP f fd)(T:dZ K mg C)(TO:jD K mg CO)(TP:vo K mg CP) (hF:∃u,mg "FORGET_FROM" = some u/\RelV (.int 600) u)
 (mO:Mk K CO fO) (gO:aD P w K mg base aT 1 fO dO ["self"] (xU CO)) (bO:Binds K dO ["self"] [])
 (mP:Mk K CP fP) (gP:aD P w K mg base aT 1 fP dP ["self"] (xV CP)) (bP:Binds K dP ["self"] [])
 (gW:aD P w K mg base aT 3 fW dW ["self", "many"] (AW C CO CP)) (mW:Meth K C "widen" fW) (bW:Binds K dW ["self", "many"] []):aD P w K mg base aT 4 f fd ["self", "many"] (xX C CO CP):=by
 refine F.run Fw λa6 A outer s H vs Q E hr h=>?_
 obtain⟨o,dx,n,rfl,ho,hn,kk⟩:=h
 obtain⟨u,xM,Jm⟩:=hF
 have nN:bx 2 _:=hr.mono (by decide)
 refine⟨_,(ae (bu (pv 0) au rfl)
  (ae (bu (pv 0) (bj ak) rfl)
  (ae (bu (pv 0) jC rfl)
  (ae (bu (pv 0) (bj ak) rfl)
  (ae (bu (pv 0) (bj (aa au ak)) rfl)
  (ae (bu (pv 0) (bj (aa (bj ak) ak)) rfl)
  (ae (bu (pv 0) (bj (aa (bj ak) ak)) rfl)
  (ae (bu (pv 0) (bj (aa au ak)) rfl)
  (ae (bu (pv 0) (bj (aa i8 ak)) rfl)
  (ae (bu (pv 0) (bj (aa au ak)) rfl)
  (ae (bu (pv 0) (bj (aa (f7 eQ au) ak)) rfl)
  (ae (bu (pv 0) (bj ak) rfl)
  (ae (bu (pv 0) au rfl)
  (ae (bu (pv 0) (bj ak) rfl)
  (ae (bu (pv 0) (ug mO gO nN rfl TO.mgC bO .nil jf) rfl)
  (ae (bu (pv 0) (ug mP gP nN rfl TP.mgC bP .nil jf) rfl)
  (ae (bu (pv 0) jC rfl)
  (ae (bu (pv 0) jC rfl)
  (ae (bu (pv 0) (wN rfl xM Jm) rfl)
  (av (aK (cQ (pv 0) T.cl mW gW hr bW (aa (pv 1) ak))))))))))))))))))))))),?_⟩
 have G0:=(xW (s:=.self) ho).Jj (s:=.dm) (p:=dx) rfl
 refine⟨_,rfl,o,C,dx,_,rfl,G0.at_ (s:=Sl.self) rfl,T.cl,T.size,(by show 0<1000;decide),?_⟩
 refine eB (H':=upd H o (.ins C dx [("size",V.int 0)])) rfl ?_
 have G1:=G0.upd (s:=Sl.self) (o:=.ins C dx [("size",V.int 0)]) rfl
 change Gs _ _ (upd H o (.ins C dx [("size",V.int 0)])) _ _ at G1
 generalize upd H o (.ins C dx [("size",V.int 0)])=H1 at G1 ⊢
 refine⟨by decide,λp2 q2=>?_⟩
 obtain⟨e2,G2⟩:=G1.fld (s:=.self) (t:=.held) (o:=.lst []) (oi':=.ins C dx [("size",V.int 0),("held",.ref p2)]) rfl (by decide) q2
 refine⟨_,rfl,o,C,dx,_,rfl,e2,T.cl,T.held,(by show 1<1000;decide),?_⟩
 refine eB (H':=upd (upd H1 p2 (.lst [])) o (.ins C dx [("size",V.int 0),("held",.ref p2)])) rfl ?_
 change Gs _ _ (upd (upd H1 p2 (.lst [])) o (.ins C dx [("size",V.int 0),("held",.ref p2)])) _ _ at G2
 generalize upd (upd H1 p2 (.lst [])) o (.ins C dx [("size",V.int 0),("held",.ref p2)])=H2 at G2 ⊢
 refine λp3 q3=>?_
 obtain⟨e3,G3⟩:=G2.fld (s:=.self) (t:=.ranks) (o:=.dK []) (oi':=.ins C dx [("size",V.int 0),("held",.ref p2),("ranks",.ref p3)]) rfl (by decide) q3
 refine⟨_,rfl,o,C,dx,_,rfl,e3,T.cl,T.ranks,(by show 2<1000;decide),?_⟩
 refine eB (H':=upd (upd H2 p3 (.dK [])) o (.ins C dx [("size",V.int 0),("held",.ref p2),("ranks",.ref p3)])) rfl ?_
 change Gs _ _ (upd (upd H2 p3 (.dK [])) o (.ins C dx [("size",V.int 0),("held",.ref p2),("ranks",.ref p3)])) _ _ at G3
 generalize upd (upd H2 p3 (.dK [])) o (.ins C dx [("size",V.int 0),("held",.ref p2),("ranks",.ref p3)])=H3 at G3 ⊢
 refine⟨by decide,λp4 q4=>?_⟩
 obtain⟨e4,G4⟩:=G3.fld (s:=.self) (t:=.singles) (o:=.lst []) (oi':=.ins C dx [("size",V.int 0),("held",.ref p2),("ranks",.ref p3),("singles",.ref p4)]) rfl (by decide) q4
 refine⟨_,rfl,o,C,dx,_,rfl,e4,T.cl,T.singles,(by show 3<1000;decide),?_⟩
 refine eB (H':=upd (upd H3 p4 (.lst [])) o (.ins C dx [("size",V.int 0),("held",.ref p2),("ranks",.ref p3),("singles",.ref p4)])) rfl ?_
 change Gs _ _ (upd (upd H3 p4 (.lst [])) o (.ins C dx [("size",V.int 0),("held",.ref p2),("ranks",.ref p3),("singles",.ref p4)])) _ _ at G4
 generalize upd (upd H3 p4 (.lst [])) o (.ins C dx [("size",V.int 0),("held",.ref p2),("ranks",.ref p3),("singles",.ref p4)])=H4 at G4 ⊢
 refine⟨by decide,λp5 q5=>?_⟩
 obtain⟨e5,G5⟩:=G4.fld (s:=.self) (t:=.bits) (o:=.lst [V.int 0]) (oi':=.ins C dx [("size",V.int 0),("held",.ref p2),("ranks",.ref p3),("singles",.ref p4),("bits",.ref p5)]) rfl (by decide) q5
 refine⟨_,rfl,o,C,dx,_,rfl,e5,T.cl,T.bits,(by show 4<1000;decide),?_⟩
 refine eB (H':=upd (upd H4 p5 (.lst [V.int 0])) o (.ins C dx [("size",V.int 0),("held",.ref p2),("ranks",.ref p3),("singles",.ref p4),("bits",.ref p5)])) rfl ?_
 change Gs _ _ (upd (upd H4 p5 (.lst [V.int 0])) o (.ins C dx [("size",V.int 0),("held",.ref p2),("ranks",.ref p3),("singles",.ref p4),("bits",.ref p5)])) _ _ at G5
 generalize upd (upd H4 p5 (.lst [V.int 0])) o (.ins C dx [("size",V.int 0),("held",.ref p2),("ranks",.ref p3),("singles",.ref p4),("bits",.ref p5)])=H5 at G5 ⊢
 refine⟨by decide,λw6 u6=>?_⟩
 have OB:=G5.put (s:=Sl.wl 0) (o:=.lst []) u6
 generalize upd H5 w6 (.lst [])=Jo at OB ⊢
 refine⟨(show 1<=sizeLine by decide),λp6 q6=>?_⟩
 obtain⟨e6,G6⟩:=OB.fld (s:=.self) (t:=.watches) (o:=.lst [.ref w6]) (oi':=.ins C dx [("size",V.int 0),("held",.ref p2),("ranks",.ref p3),("singles",.ref p4),("bits",.ref p5),("watches",.ref p6)]) rfl (by decide) q6
 refine⟨_,rfl,o,C,dx,_,rfl,e6,T.cl,T.watches,(by show 5<1000;decide),?_⟩
 refine eB (H':=upd (upd Jo p6 (.lst [.ref w6])) o (.ins C dx [("size",V.int 0),("held",.ref p2),("ranks",.ref p3),("singles",.ref p4),("bits",.ref p5),("watches",.ref p6)])) rfl ?_
 change Gs _ _ (upd (upd Jo p6 (.lst [.ref w6])) o (.ins C dx [("size",V.int 0),("held",.ref p2),("ranks",.ref p3),("singles",.ref p4),("bits",.ref p5),("watches",.ref p6)])) _ _ at G6
 generalize upd (upd Jo p6 (.lst [.ref w6])) o (.ins C dx [("size",V.int 0),("held",.ref p2),("ranks",.ref p3),("singles",.ref p4),("bits",.ref p5),("watches",.ref p6)])=H6 at G6 ⊢
 refine⟨by decide,λw7 u7=>?_⟩
 have OC:=G6.put (s:=Sl.pl 0) (o:=.lst []) u7
 generalize upd H6 w7 (.lst [])=Jp at OC ⊢
 refine⟨(show 1<=sizeLine by decide),λp7 q7=>?_⟩
 obtain⟨e7,G7⟩:=OC.fld (s:=.self) (t:=.pairs) (o:=.lst [.ref w7]) (oi':=.ins C dx [("size",V.int 0),("held",.ref p2),("ranks",.ref p3),("singles",.ref p4),("bits",.ref p5),("watches",.ref p6),("pairs",.ref p7)]) rfl (by decide) q7
 refine⟨_,rfl,o,C,dx,_,rfl,e7,T.cl,T.pairs,(by show 6<1000;decide),?_⟩
 refine eB (H':=upd (upd Jp p7 (.lst [.ref w7])) o (.ins C dx [("size",V.int 0),("held",.ref p2),("ranks",.ref p3),("singles",.ref p4),("bits",.ref p5),("watches",.ref p6),("pairs",.ref p7)])) rfl ?_
 change Gs _ _ (upd (upd Jp p7 (.lst [.ref w7])) o (.ins C dx [("size",V.int 0),("held",.ref p2),("ranks",.ref p3),("singles",.ref p4),("bits",.ref p5),("watches",.ref p6),("pairs",.ref p7)])) _ _ at G7
 generalize upd (upd Jp p7 (.lst [.ref w7])) o (.ins C dx [("size",V.int 0),("held",.ref p2),("ranks",.ref p3),("singles",.ref p4),("bits",.ref p5),("watches",.ref p6),("pairs",.ref p7)])=H7 at G7 ⊢
 refine⟨by decide,λp8 q8=>?_⟩
 obtain⟨e8,G8⟩:=G7.fld (s:=.self) (t:=.levels) (o:=.lst [V.int 0]) (oi':=.ins C dx [("size",V.int 0),("held",.ref p2),("ranks",.ref p3),("singles",.ref p4),("bits",.ref p5),("watches",.ref p6),("pairs",.ref p7),("levels",.ref p8)]) rfl (by decide) q8
 refine⟨_,rfl,o,C,dx,_,rfl,e8,T.cl,T.levels,(by show 7<1000;decide),?_⟩
 refine eB (H':=upd (upd H7 p8 (.lst [V.int 0])) o (.ins C dx [("size",V.int 0),("held",.ref p2),("ranks",.ref p3),("singles",.ref p4),("bits",.ref p5),("watches",.ref p6),("pairs",.ref p7),("levels",.ref p8)])) rfl ?_
 change Gs _ _ (upd (upd H7 p8 (.lst [V.int 0])) o (.ins C dx [("size",V.int 0),("held",.ref p2),("ranks",.ref p3),("singles",.ref p4),("bits",.ref p5),("watches",.ref p6),("pairs",.ref p7),("levels",.ref p8)])) _ _ at G8
 generalize upd (upd H7 p8 (.lst [V.int 0])) o (.ins C dx [("size",V.int 0),("held",.ref p2),("ranks",.ref p3),("singles",.ref p4),("bits",.ref p5),("watches",.ref p6),("pairs",.ref p7),("levels",.ref p8)])=H8 at G8 ⊢
 refine⟨by decide,λp9 q9=>?_⟩
 obtain⟨e9,G9⟩:=G8.fld (s:=.self) (t:=.reasons) (o:=.lst [V.bb]) (oi':=.ins C dx [("size",V.int 0),("held",.ref p2),("ranks",.ref p3),("singles",.ref p4),("bits",.ref p5),("watches",.ref p6),("pairs",.ref p7),("levels",.ref p8),("reasons",.ref p9)]) rfl (by decide) q9
 refine⟨_,rfl,o,C,dx,_,rfl,e9,T.cl,T.reasons,(by show 8<1000;decide),?_⟩
 refine eB (H':=upd (upd H8 p9 (.lst [V.bb])) o (.ins C dx [("size",V.int 0),("held",.ref p2),("ranks",.ref p3),("singles",.ref p4),("bits",.ref p5),("watches",.ref p6),("pairs",.ref p7),("levels",.ref p8),("reasons",.ref p9)])) rfl ?_
 change Gs _ _ (upd (upd H8 p9 (.lst [V.bb])) o (.ins C dx [("size",V.int 0),("held",.ref p2),("ranks",.ref p3),("singles",.ref p4),("bits",.ref p5),("watches",.ref p6),("pairs",.ref p7),("levels",.ref p8),("reasons",.ref p9)])) _ _ at G9
 generalize upd (upd H8 p9 (.lst [V.bb])) o (.ins C dx [("size",V.int 0),("held",.ref p2),("ranks",.ref p3),("singles",.ref p4),("bits",.ref p5),("watches",.ref p6),("pairs",.ref p7),("levels",.ref p8),("reasons",.ref p9)])=H9 at G9 ⊢
 refine⟨by decide,λcZ Uu=>?_⟩
 obtain⟨Uv,Jq⟩:=G9.fld (s:=.self) (t:=.places) (o:=.lst [V.int 0]) (oi':=.ins C dx [("size",V.int 0),("held",.ref p2),("ranks",.ref p3),("singles",.ref p4),("bits",.ref p5),("watches",.ref p6),("pairs",.ref p7),("levels",.ref p8),("reasons",.ref p9),("places",.ref cZ)]) rfl (by decide) Uu
 refine⟨_,rfl,o,C,dx,_,rfl,Uv,T.cl,T.places,(by show 9<1000;decide),?_⟩
 refine eB (H':=upd (upd H9 cZ (.lst [V.int 0])) o (.ins C dx [("size",V.int 0),("held",.ref p2),("ranks",.ref p3),("singles",.ref p4),("bits",.ref p5),("watches",.ref p6),("pairs",.ref p7),("levels",.ref p8),("reasons",.ref p9),("places",.ref cZ)])) rfl ?_
 change Gs _ _ (upd (upd H9 cZ (.lst [V.int 0])) o (.ins C dx [("size",V.int 0),("held",.ref p2),("ranks",.ref p3),("singles",.ref p4),("bits",.ref p5),("watches",.ref p6),("pairs",.ref p7),("levels",.ref p8),("reasons",.ref p9),("places",.ref cZ)])) _ _ at Jq
 generalize upd (upd H9 cZ (.lst [V.int 0])) o (.ins C dx [("size",V.int 0),("held",.ref p2),("ranks",.ref p3),("singles",.ref p4),("bits",.ref p5),("watches",.ref p6),("pairs",.ref p7),("levels",.ref p8),("reasons",.ref p9),("places",.ref cZ)])=kG at Jq ⊢
 refine⟨_,rfl,by decide,λdi Uw=>?_⟩
 obtain⟨xj,Jr⟩:=Jq.fld (s:=.self) (t:=.signs) (o:=.lst [V.int (-1)]) (oi':=.ins C dx [("size",V.int 0),("held",.ref p2),("ranks",.ref p3),("singles",.ref p4),("bits",.ref p5),("watches",.ref p6),("pairs",.ref p7),("levels",.ref p8),("reasons",.ref p9),("places",.ref cZ),("signs",.ref di)]) rfl (by decide) Uw
 refine⟨_,rfl,o,C,dx,_,rfl,xj,T.cl,T.signs,(by show 10<1000;decide),?_⟩
 refine eB (H':=upd (upd kG di (.lst [V.int (-1)])) o (.ins C dx [("size",V.int 0),("held",.ref p2),("ranks",.ref p3),("singles",.ref p4),("bits",.ref p5),("watches",.ref p6),("pairs",.ref p7),("levels",.ref p8),("reasons",.ref p9),("places",.ref cZ),("signs",.ref di)])) rfl ?_
 change Gs _ _ (upd (upd kG di (.lst [V.int (-1)])) o (.ins C dx [("size",V.int 0),("held",.ref p2),("ranks",.ref p3),("singles",.ref p4),("bits",.ref p5),("watches",.ref p6),("pairs",.ref p7),("levels",.ref p8),("reasons",.ref p9),("places",.ref cZ),("signs",.ref di)])) _ _ at Jr
 generalize upd (upd kG di (.lst [V.int (-1)])) o (.ins C dx [("size",V.int 0),("held",.ref p2),("ranks",.ref p3),("singles",.ref p4),("bits",.ref p5),("watches",.ref p6),("pairs",.ref p7),("levels",.ref p8),("reasons",.ref p9),("places",.ref cZ),("signs",.ref di)])=xi at Jr ⊢
 refine⟨by decide,λd6 Ux=>?_⟩
 obtain⟨Uy,Ef⟩:=Jr.fld (s:=.self) (t:=.trail) (o:=.lst []) (oi':=.ins C dx [("size",V.int 0),("held",.ref p2),("ranks",.ref p3),("singles",.ref p4),("bits",.ref p5),("watches",.ref p6),("pairs",.ref p7),("levels",.ref p8),("reasons",.ref p9),("places",.ref cZ),("signs",.ref di),("trail",.ref d6)]) rfl (by decide) Ux
 refine⟨_,rfl,o,C,dx,_,rfl,Uy,T.cl,T.trail,(by show 11<1000;decide),?_⟩
 refine eB (H':=upd (upd xi d6 (.lst [])) o (.ins C dx [("size",V.int 0),("held",.ref p2),("ranks",.ref p3),("singles",.ref p4),("bits",.ref p5),("watches",.ref p6),("pairs",.ref p7),("levels",.ref p8),("reasons",.ref p9),("places",.ref cZ),("signs",.ref di),("trail",.ref d6)])) rfl ?_
 change Gs _ _ (upd (upd xi d6 (.lst [])) o (.ins C dx [("size",V.int 0),("held",.ref p2),("ranks",.ref p3),("singles",.ref p4),("bits",.ref p5),("watches",.ref p6),("pairs",.ref p7),("levels",.ref p8),("reasons",.ref p9),("places",.ref cZ),("signs",.ref di),("trail",.ref d6)])) _ _ at Ef
 generalize upd (upd xi d6 (.lst [])) o (.ins C dx [("size",V.int 0),("held",.ref p2),("ranks",.ref p3),("singles",.ref p4),("bits",.ref p5),("watches",.ref p6),("pairs",.ref p7),("levels",.ref p8),("reasons",.ref p9),("places",.ref cZ),("signs",.ref di),("trail",.ref d6)])=qF at Ef ⊢
 refine⟨_,rfl,o,C,dx,_,rfl,Ef.at_ (s:=Sl.self) rfl,T.cl,T.passed,(by show 12<1000;decide),?_⟩
 refine eB (H':=upd qF o (.ins C dx [("size",V.int 0),("held",.ref p2),("ranks",.ref p3),("singles",.ref p4),("bits",.ref p5),("watches",.ref p6),("pairs",.ref p7),("levels",.ref p8),("reasons",.ref p9),("places",.ref cZ),("signs",.ref di),("trail",.ref d6),("passed",V.int 0)])) rfl ?_
 have Js:=Ef.upd (s:=Sl.self) (o:=.ins C dx [("size",V.int 0),("held",.ref p2),("ranks",.ref p3),("singles",.ref p4),("bits",.ref p5),("watches",.ref p6),("pairs",.ref p7),("levels",.ref p8),("reasons",.ref p9),("places",.ref cZ),("signs",.ref di),("trail",.ref d6),("passed",V.int 0)]) rfl
 change Gs _ _ (upd qF o (.ins C dx [("size",V.int 0),("held",.ref p2),("ranks",.ref p3),("singles",.ref p4),("bits",.ref p5),("watches",.ref p6),("pairs",.ref p7),("levels",.ref p8),("reasons",.ref p9),("places",.ref cZ),("signs",.ref di),("trail",.ref d6),("passed",V.int 0)])) _ _ at Js
 generalize upd qF o (.ins C dx [("size",V.int 0),("held",.ref p2),("ranks",.ref p3),("singles",.ref p4),("bits",.ref p5),("watches",.ref p6),("pairs",.ref p7),("levels",.ref p8),("reasons",.ref p9),("places",.ref cZ),("signs",.ref di),("trail",.ref d6),("passed",V.int 0)])=DZ at Js ⊢
 refine⟨by decide,λf6 Uz=>?_⟩
 obtain⟨UA,tf⟩:=Js.fld (s:=.self) (t:=.cuts) (o:=.lst []) (oi':=.ins C dx [("size",V.int 0),("held",.ref p2),("ranks",.ref p3),("singles",.ref p4),("bits",.ref p5),("watches",.ref p6),("pairs",.ref p7),("levels",.ref p8),("reasons",.ref p9),("places",.ref cZ),("signs",.ref di),("trail",.ref d6),("passed",V.int 0),("cuts",.ref f6)]) rfl (by decide) Uz
 refine⟨_,rfl,o,C,dx,_,rfl,UA,T.cl,T.cuts,(by show 13<1000;decide),?_⟩
 refine eB (H':=upd (upd DZ f6 (.lst [])) o (.ins C dx [("size",V.int 0),("held",.ref p2),("ranks",.ref p3),("singles",.ref p4),("bits",.ref p5),("watches",.ref p6),("pairs",.ref p7),("levels",.ref p8),("reasons",.ref p9),("places",.ref cZ),("signs",.ref di),("trail",.ref d6),("passed",V.int 0),("cuts",.ref f6)])) rfl ?_
 change Gs _ _ (upd (upd DZ f6 (.lst [])) o (.ins C dx [("size",V.int 0),("held",.ref p2),("ranks",.ref p3),("singles",.ref p4),("bits",.ref p5),("watches",.ref p6),("pairs",.ref p7),("levels",.ref p8),("reasons",.ref p9),("places",.ref cZ),("signs",.ref di),("trail",.ref d6),("passed",V.int 0),("cuts",.ref f6)])) _ _ at tf
 generalize upd (upd DZ f6 (.lst [])) o (.ins C dx [("size",V.int 0),("held",.ref p2),("ranks",.ref p3),("singles",.ref p4),("bits",.ref p5),("watches",.ref p6),("pairs",.ref p7),("levels",.ref p8),("reasons",.ref p9),("places",.ref cZ),("signs",.ref di),("trail",.ref d6),("passed",V.int 0),("cuts",.ref f6)])=AO at tf ⊢
 refine λx dX hx lB UB=>⟨x,dX,rfl,aj,λa b m Ee o1 o2 o3 o4 n1 n2 n3 ab am bm kp=>⟨rfl,?_⟩⟩
 have sm:=xY hx lB kp
 have xa:a≠x:=λe=>by rw[e,aj]at n1;cases n1
 have xb:b≠x:=λe=>by rw[e,aj]at n2;cases n2
 have xm:m≠x:=λe=>by rw[e,aj]at n3;cases n3
 have m1:=oz hx lB n1
 have m2:=oz hx lB n2
 have m3:=oz hx lB n3
 have GA:=(Gs.refl tf.st).same sm
 have GB:=tf.trans (((((GA.Jj (s:=Sl.kO) (p:=dX) rfl).adopt (s:=Sl.order) o1 (qG rfl (tf.st.no hx)) rfl hx).adopt (s:=Sl.ahead) o2 (lC (qG rfl (tf.st.no m1)) xa) rfl m1).adopt (s:=Sl.behind) o3 (lC (lC (qG rfl (tf.st.no m2)) xb) ab.symm) rfl m2).adopt (s:=Sl.marks) o4 (lC (lC (lC (qG rfl (tf.st.no m3)) xm) am.symm) bm.symm) rfl m3)
 refine⟨_,rfl,o,C,dx,_,rfl,GB.at_ (s:=Sl.self) rfl,T.cl,T.order,(by show 14<1000;decide),?_⟩
 refine eB (H':=upd Ee o (.ins C dx [("size",V.int 0),("held",.ref p2),("ranks",.ref p3),("singles",.ref p4),("bits",.ref p5),("watches",.ref p6),("pairs",.ref p7),("levels",.ref p8),("reasons",.ref p9),("places",.ref cZ),("signs",.ref di),("trail",.ref d6),("passed",V.int 0),("cuts",.ref f6),("order",.ref x)])) rfl ?_
 have Jt:=GB.upd (s:=Sl.self) (o:=.ins C dx [("size",V.int 0),("held",.ref p2),("ranks",.ref p3),("singles",.ref p4),("bits",.ref p5),("watches",.ref p6),("pairs",.ref p7),("levels",.ref p8),("reasons",.ref p9),("places",.ref cZ),("signs",.ref di),("trail",.ref d6),("passed",V.int 0),("cuts",.ref f6),("order",.ref x)]) rfl
 change Gs _ _ (upd Ee o (.ins C dx [("size",V.int 0),("held",.ref p2),("ranks",.ref p3),("singles",.ref p4),("bits",.ref p5),("watches",.ref p6),("pairs",.ref p7),("levels",.ref p8),("reasons",.ref p9),("places",.ref cZ),("signs",.ref di),("trail",.ref d6),("passed",V.int 0),("cuts",.ref f6),("order",.ref x)])) _ _ at Jt
 generalize upd Ee o (.ins C dx [("size",V.int 0),("held",.ref p2),("ranks",.ref p3),("singles",.ref p4),("bits",.ref p5),("watches",.ref p6),("pairs",.ref p7),("levels",.ref p8),("reasons",.ref p9),("places",.ref cZ),("signs",.ref di),("trail",.ref d6),("passed",V.int 0),("cuts",.ref f6),("order",.ref x)])=sZ at Jt ⊢
 refine λy dY hy UC UD=>⟨y,dY,rfl,aj,rfl,?_⟩
 rw[nV]
 have GY:=(Jt.other (o:=.own y) UC).Jj (s:=Sl.uH) (p:=dY) rfl
 have UE:upd sZ dY (.own y) y=none:=by rw[ag (YF UD)];exact hy
 obtain⟨eY,Ju⟩:=GY.fld (s:=.self) (t:=.pauses) (o:=.ins CP dY (oI 100)) (oi':=.ins C dx [("size",V.int 0),("held",.ref p2),("ranks",.ref p3),("singles",.ref p4),("bits",.ref p5),("watches",.ref p6),("pairs",.ref p7),("levels",.ref p8),("reasons",.ref p9),("places",.ref cZ),("signs",.ref di),("trail",.ref d6),("passed",V.int 0),("cuts",.ref f6),("order",.ref x),("pauses",.ref y)]) rfl (by decide) UE
 refine⟨_,rfl,o,C,dx,_,rfl,eY,T.cl,T.pauses,(by show 15<1000;decide),?_⟩
 refine eB (H':=upd (upd (upd sZ dY (.own y)) y (.ins CP dY (oI 100))) o (.ins C dx [("size",V.int 0),("held",.ref p2),("ranks",.ref p3),("singles",.ref p4),("bits",.ref p5),("watches",.ref p6),("pairs",.ref p7),("levels",.ref p8),("reasons",.ref p9),("places",.ref cZ),("signs",.ref di),("trail",.ref d6),("passed",V.int 0),("cuts",.ref f6),("order",.ref x),("pauses",.ref y)])) rfl ?_
 change Gs _ _ (upd (upd (upd sZ dY (.own y)) y (.ins CP dY (oI 100))) o (.ins C dx [("size",V.int 0),("held",.ref p2),("ranks",.ref p3),("singles",.ref p4),("bits",.ref p5),("watches",.ref p6),("pairs",.ref p7),("levels",.ref p8),("reasons",.ref p9),("places",.ref cZ),("signs",.ref di),("trail",.ref d6),("passed",V.int 0),("cuts",.ref f6),("order",.ref x),("pauses",.ref y)])) _ _ at Ju
 generalize upd (upd (upd sZ dY (.own y)) y (.ins CP dY (oI 100))) o (.ins C dx [("size",V.int 0),("held",.ref p2),("ranks",.ref p3),("singles",.ref p4),("bits",.ref p5),("watches",.ref p6),("pairs",.ref p7),("levels",.ref p8),("reasons",.ref p9),("places",.ref cZ),("signs",.ref di),("trail",.ref d6),("passed",V.int 0),("cuts",.ref f6),("order",.ref x),("pauses",.ref y)])=Eb at Ju ⊢
 refine λj3 UG=>?_
 obtain⟨UH,Jv⟩:=Ju.fld (s:=.self) (t:=.chains) (o:=.dK []) (oi':=.ins C dx [("size",V.int 0),("held",.ref p2),("ranks",.ref p3),("singles",.ref p4),("bits",.ref p5),("watches",.ref p6),("pairs",.ref p7),("levels",.ref p8),("reasons",.ref p9),("places",.ref cZ),("signs",.ref di),("trail",.ref d6),("passed",V.int 0),("cuts",.ref f6),("order",.ref x),("pauses",.ref y),("chains",.ref j3)]) rfl (by decide) UG
 refine⟨_,rfl,o,C,dx,_,rfl,UH,T.cl,T.chains,(by show 16<1000;decide),?_⟩
 refine eB (H':=upd (upd Eb j3 (.dK [])) o (.ins C dx [("size",V.int 0),("held",.ref p2),("ranks",.ref p3),("singles",.ref p4),("bits",.ref p5),("watches",.ref p6),("pairs",.ref p7),("levels",.ref p8),("reasons",.ref p9),("places",.ref cZ),("signs",.ref di),("trail",.ref d6),("passed",V.int 0),("cuts",.ref f6),("order",.ref x),("pauses",.ref y),("chains",.ref j3)])) rfl ?_
 change Gs _ _ (upd (upd Eb j3 (.dK [])) o (.ins C dx [("size",V.int 0),("held",.ref p2),("ranks",.ref p3),("singles",.ref p4),("bits",.ref p5),("watches",.ref p6),("pairs",.ref p7),("levels",.ref p8),("reasons",.ref p9),("places",.ref cZ),("signs",.ref di),("trail",.ref d6),("passed",V.int 0),("cuts",.ref f6),("order",.ref x),("pauses",.ref y),("chains",.ref j3)])) _ _ at Jv
 generalize upd (upd Eb j3 (.dK [])) o (.ins C dx [("size",V.int 0),("held",.ref p2),("ranks",.ref p3),("singles",.ref p4),("bits",.ref p5),("watches",.ref p6),("pairs",.ref p7),("levels",.ref p8),("reasons",.ref p9),("places",.ref cZ),("signs",.ref di),("trail",.ref d6),("passed",V.int 0),("cuts",.ref f6),("order",.ref x),("pauses",.ref y),("chains",.ref j3)])=AR at Jv ⊢
 refine λmx UI=>?_
 obtain⟨UJ,Eg⟩:=Jv.fld (s:=.self) (t:=.spans) (o:=.dK []) (oi':=.ins C dx [("size",V.int 0),("held",.ref p2),("ranks",.ref p3),("singles",.ref p4),("bits",.ref p5),("watches",.ref p6),("pairs",.ref p7),("levels",.ref p8),("reasons",.ref p9),("places",.ref cZ),("signs",.ref di),("trail",.ref d6),("passed",V.int 0),("cuts",.ref f6),("order",.ref x),("pauses",.ref y),("chains",.ref j3),("spans",.ref mx)]) rfl (by decide) UI
 refine⟨_,rfl,o,C,dx,_,rfl,UJ,T.cl,T.spans,(by show 17<1000;decide),?_⟩
 refine eB (H':=upd (upd AR mx (.dK [])) o (.ins C dx [("size",V.int 0),("held",.ref p2),("ranks",.ref p3),("singles",.ref p4),("bits",.ref p5),("watches",.ref p6),("pairs",.ref p7),("levels",.ref p8),("reasons",.ref p9),("places",.ref cZ),("signs",.ref di),("trail",.ref d6),("passed",V.int 0),("cuts",.ref f6),("order",.ref x),("pauses",.ref y),("chains",.ref j3),("spans",.ref mx)])) rfl ?_
 change Gs _ _ (upd (upd AR mx (.dK [])) o (.ins C dx [("size",V.int 0),("held",.ref p2),("ranks",.ref p3),("singles",.ref p4),("bits",.ref p5),("watches",.ref p6),("pairs",.ref p7),("levels",.ref p8),("reasons",.ref p9),("places",.ref cZ),("signs",.ref di),("trail",.ref d6),("passed",V.int 0),("cuts",.ref f6),("order",.ref x),("pauses",.ref y),("chains",.ref j3),("spans",.ref mx)])) _ _ at Eg
 generalize upd (upd AR mx (.dK [])) o (.ins C dx [("size",V.int 0),("held",.ref p2),("ranks",.ref p3),("singles",.ref p4),("bits",.ref p5),("watches",.ref p6),("pairs",.ref p7),("levels",.ref p8),("reasons",.ref p9),("places",.ref cZ),("signs",.ref di),("trail",.ref d6),("passed",V.int 0),("cuts",.ref f6),("order",.ref x),("pauses",.ref y),("chains",.ref j3),("spans",.ref mx)])=Jw at Eg ⊢
 refine⟨_,rfl,o,C,dx,_,rfl,Eg.at_ (s:=Sl.self) rfl,T.cl,T.forget,(by show 18<1000;decide),?_⟩
 refine eB (H':=upd Jw o (.ins C dx [("size",V.int 0),("held",.ref p2),("ranks",.ref p3),("singles",.ref p4),("bits",.ref p5),("watches",.ref p6),("pairs",.ref p7),("levels",.ref p8),("reasons",.ref p9),("places",.ref cZ),("signs",.ref di),("trail",.ref d6),("passed",V.int 0),("cuts",.ref f6),("order",.ref x),("pauses",.ref y),("chains",.ref j3),("spans",.ref mx),("forget_at",V.int 600)])) rfl ?_
 have Jx:=Eg.upd (s:=Sl.self) (o:=.ins C dx [("size",V.int 0),("held",.ref p2),("ranks",.ref p3),("singles",.ref p4),("bits",.ref p5),("watches",.ref p6),("pairs",.ref p7),("levels",.ref p8),("reasons",.ref p9),("places",.ref cZ),("signs",.ref di),("trail",.ref d6),("passed",V.int 0),("cuts",.ref f6),("order",.ref x),("pauses",.ref y),("chains",.ref j3),("spans",.ref mx),("forget_at",V.int 600)]) rfl
 change Gs _ _ (upd Jw o (.ins C dx [("size",V.int 0),("held",.ref p2),("ranks",.ref p3),("singles",.ref p4),("bits",.ref p5),("watches",.ref p6),("pairs",.ref p7),("levels",.ref p8),("reasons",.ref p9),("places",.ref cZ),("signs",.ref di),("trail",.ref d6),("passed",V.int 0),("cuts",.ref f6),("order",.ref x),("pauses",.ref y),("chains",.ref j3),("spans",.ref mx),("forget_at",V.int 600)])) _ _ at Jx
 generalize upd Jw o (.ins C dx [("size",V.int 0),("held",.ref p2),("ranks",.ref p3),("singles",.ref p4),("bits",.ref p5),("watches",.ref p6),("pairs",.ref p7),("levels",.ref p8),("reasons",.ref p9),("places",.ref cZ),("signs",.ref di),("trail",.ref d6),("passed",V.int 0),("cuts",.ref f6),("order",.ref x),("pauses",.ref y),("chains",.ref j3),("spans",.ref mx),("forget_at",V.int 600)])=Xd at Jx ⊢
 have GE:=Jx.congr (c':=cont C CO CP (fU (fU (fU (fU (fU (fU (fU (fU (fU (fU (fU (fU (fU (fU (fU (fU (fU (fU (fU (fU (fU (fU (fU (fU (λ_=>o) .dm dx) .held p2) .ranks p3) .singles p4) .bits p5) (.wl 0) w6) .watches p6) (.pl 0) w7) .pairs p7) .levels p8) .reasons p9) .places cZ) .signs di) .trail d6) .cuts f6) .kO dX) .order x) .ahead a) .behind b) .marks m) .uH dY) .pauses y) .chains j3) .spans mx) AS) λt=>by
  cases t <;> first|rfl|skip
  case wl i=>cases i <;> rfl
  case pl i=>cases i <;> rfl
 refine⟨_,rfl,o,_,_,rfl,GE.at_ (s:=Sl.self) rfl,by kernel_rfl,_,rfl,?_⟩
 refine⟨_,n,rfl,GE.st,hn,λH' bp ah bh mk ne se es g N=>?_⟩
 have GZ:=GE.trans g
 exact kk H' bp _ es ⟨GZ.st,λ_=>.nil,λ_=>.nil⟩ GZ.kp N rfl rfl
end
end Gen
namespace L2
open PySem PySem.Spec PyProof.Rows Sat
section
variable {C CO CP:Addr}{H H':Hp}{ad bp:Sl->Addr}{S S':SS}
theorem Rep.QY(R:Rep C CO CP H ad S) (g:Gs (cB C CO CP ad S) H H' bp (cont C CO CP bp S')) (e1:S'.pa=S.pa:=by rfl) (e2:S'.pl=S.pl:=by rfl) (e3:S'.ca=S.ca:=by rfl) (e4:S'.ch=S.ch:=by rfl):Go C CO CP H ad S H' bp S':=by
 have ht:HT H H':=λb xs hb=>g.kp.st b _ hb λ⟨s,o,hs,e⟩=>by
  have:=R.st.at_ _ _ hs
  rw[e,hb]at this
  cases this
  exact lX hs
 exact⟨⟨g.st,by rw[e1,e2];exact λi=>Paired.bQ (R.tp i) λ_ _ z=>ht _ _ z,by rw[e3,e4];exact λi=>Paired.bQ (R.tc i) λ_ _ z=>ht _ _ z⟩,g.kp⟩
theorem Rep.Jy(R:Rep C CO CP H ad S)(hg:S.g=S.held.length){p:Addr}{d:HO}(ed:d=.dK (fl (S.g+1) λi=>(.inl (i:Int),iV i))) (hp:L2.upd H (ad .ranks) d p=none) (c:List Int) :
 Go C CO CP H ad S (L2.upd (L2.upd (L2.upd H (ad .ranks) d) p (.lst (c.map V.int))) (ad .held) (.lst (fl S.held.length (λi=>.ref (ad (.cl i)))++[.ref p]))) (fU ad (.cl S.held.length) p) {S with g:=S.g+1,held:=S.held++[c] }:=by
 have g1:=(((Gs.refl R.st).upd (s:=Sl.ranks) (o:=d) rfl).put (s:=Sl.cl S.held.length) (o:=.lst (c.map V.int)) hp).upd (s:=Sl.held) (o:=.lst (fl S.held.length (λi=>.ref (ad (.cl i)))++[.ref p])) rfl
 refine R.QY (g1.congr λt=>?_)
 have ne:∀{i:Nat},i≠S.held.length->fU ad (.cl S.held.length) p (.cl i)=ad (.cl i):=λh=>aW λe=>h (Sl.cl.inj e)
 have e1:fl (S.held.length+1) (λi=>V.ref (fU ad (.cl S.held.length) p (.cl i)))=fl S.held.length (λi=>.ref (ad (.cl i)))++[.ref p]:=(ly (λi hi=>by rw[ne (by omega)]) (by rw[aI])).symm
 have lh:(S.held++[c]).length=S.held.length+1:=by rw[Xs];rfl
 cases t <;> first|rfl|skip
 case held=>
  show some (HO.lst (fl (S.held++[c]).length _))=some (.lst (fl S.held.length (λi=>.ref (ad (.cl i)))++[.ref p]))
  rw[lh,e1]
 case cl i=>
  show ((S.held++[c])[i]?).map _=fU (fU (cont C CO CP ad S) .ranks (some d)) (.cl S.held.length) (some (.lst (c.map V.int))) (.cl i)
  by_cases z:i=S.held.length
  . subst z
    rw[fm,aI]
    rfl
  . rw[aW λe=>z (Sl.cl.inj e),aW (by intro e;cases e)]
    show _=(S.held[i]?).map _
    rcases ZS z with y|y
    . rw[X8 y]
    . rw[X3 (by rw[lh];exact y),X3 (X7 y)]
 case chains=>
  show some (HO.dK (fl ((S.held++[c]).length-(S.g+1)) _))=some (HO.dK (fl (S.held.length-S.g) _))
  rw[lh,show S.held.length+1-(S.g+1)=0 by omega,show S.held.length-S.g=0 by omega]
  rfl
 case ch i=>
  show (if S.g+1<=i/\i<(S.held++[c]).length then _ else none)=if S.g<=i/\i<S.held.length then _ else none
  rw[XW (by rw[lh];omega),XW (by omega)]
 case ranks=>
  show some (HO.dK (fl (S.g+1) _))=some d
  rw[ed]
end
end L2
namespace Gen
open PySem L2 Sat
abbrev vQ:Stmt:=inClass (top 7) 2
section
variable (C CO CP:Addr)
inductive Fx(vs:List V) (H:Hp) (Q:VK):Prop
 | mk (ad:Sl->Addr) (S:SS) (cs:Addr) (as:List Addr) (cls:List (List Int)) (h1:vs=[.ref (ad .self),.ref cs]) (R:Rep C CO CP H ad S) (N:nI S) (h0:S.held=[]) (qj:H cs=some (.lst (as.map V.ref))) (hp:Paired (λa (c:List Int)=>H a=some (.lst (c.map V.int))/\¬ cB C CO CP ad S a) as cls) (OD:¬ cB C CO CP ad S cs) (ok:∀c∈cls,cf S.n c) (hm:cls.length<=1000)
  (k:∀(H':Hp) (bp:Sl->Addr) (S':SS),bp .self=ad .self->Go C CO CP H ad S H' bp S'->nI S'->S'.n=S.n->S'.held=cls->Q .bb H')
def AX:Sp:=λvs H Q _=>Fx C CO CP vs H Q
end
abbrev Jz:List Str:=["self", "clauses", "clause"]
theorem xZ:aG Jz ["self", "clauses"] (aB vQ):=fs
section
variable {P:Program}{w:World}{K:W.Frag}{mg:Str->Option Value}{base:Heap}{C CO CP:Addr}
theorem Fy{f fW:Addr}{fd dW:FuncData}(F:aM K "take" "Search.take" vQ f fd)(T:dZ K mg C)(O:Own mg) (gW:aD P w K mg base aT 1 fW dW ["self", "number"] (pI C CO CP)) (mW:Meth K C "watch" fW) (bW:Binds K dW ["self", "number"] []):aD P w K mg base aT 2 f fd ["self", "clauses"] (AX C CO CP):=by
 refine F.run xZ λa6 A outer s H vs Q E hr h=>?_
 obtain⟨ad,S,cs,as,cls,rfl,R,N,h0,qj,hp,OD,ok,hm,k⟩:=h
 have hu:=jI hr
 have gi:=hp.length
 refine⟨_,(av (cJ XX rfl (b7 (pv 1)) (aL (i:=2) xZ.nd rfl (Or.inl rfl))
  (ae (iu hu (aw (pv 0) rfl) (aJ a7 (by rfl) O.len X5 (aa (aw (pv 0) rfl) ak)) (aJ ny (by rfl) O.len X5 (aa (aw (pv 0) rfl) ak)) rfl)
  (ae (aK (cV XD XG XH bz (aw (pv 0) rfl) (aa (eC jd (by rfl) O.list YR (aa (pv 2) ak)) ak)))
  (av (aK (cQ (pv 0) T.cl mW gW hr bW (aa (aV kT (aJ a7 (by rfl) O.len X5 (aa (aw (pv 0) rfl) ak)) au) ak)))))))),?_⟩
 refine⟨_,rfl,cs,rfl,⟨_,ax.of qj⟩,?_⟩
 refine dh (xs:=as.map V.ref) (λi σ Hx=>∃(bc:Sl->Addr) (S1:SS) (v2:Option V),σ=[some (.ref (ad .self)),some (.ref cs),v2]/\bc .self=ad .self/\Go C CO CP H ad S Hx bc S1/\nI S1/\S1.n=S.n/\S1.held=cls.take i)
  ⟨ad,S,none,rfl,rfl,Go.refl R,N,rfl,by rw[h0];rfl⟩ ?_ ?_ ?_
 . rintro i σ Hx hi ⟨bc,S1,v2,rfl,_,g,_⟩
   exact ax.of (g.kp.st _ _ qj OD)
 . rintro i xv σ Hx aU ⟨bc,S1,v2,rfl,es,g,N1,en,eh⟩
   obtain⟨a,ha,rfl⟩:∃a,as[i]?=some a/\xv=.ref a:=by
    rw[Xt]at aU
    cases e:as[i]? with
    | none=>rw[e]at aU;cases aU
    | some j=>rw[e]at aU;exact⟨j,rfl,(Xq aU).symm⟩
   have il:=aO ha
   obtain⟨c,hc⟩:∃c,cls[i]?=some c:=⟨_,Xo (by omega)⟩
   obtain⟨a',jW,je,oQ⟩:=gn hp hc
   rw[ha]at jW
   cases jW
   have OE:=g.kp.st _ _ je oQ
   have hl:S1.held.length=i:=by rw[eh,XY];omega
   have uW:cf S1.n c:=by rw[en];exact ok c (Xn hc)
   have jK:∀{Hx:Hp}{bc:Sl->Addr}{S1:SS},bc .self=ad .self->Rep C CO CP Hx bc S1->Hx (ad .self)=some (.ins C (bc .dm) (cR bc S1.n S1.passed)):=λe r=>by rw[← e];exact Rep.s r
   have mr:=jK es g.rep
   have sl:∀{m:Nat},m<=1000->m<sizeLine:=λh=>XT h (by decide)
   refine⟨_,rfl,ad .self,_,_,_,_,rfl,mr,T.cl,T.ranks,ko,bc .ranks,_,rfl,g.rep.at_ (s:=.ranks) rfl,_,rfl,ad .self,_,_,_,_,rfl,mr,T.cl,T.ranks,ko,_,rfl,ad .self,_,_,_,_,rfl,mr,T.cl,T.held,eX,bc .held,_,rfl,.inl (ax.of (g.rep.at_ (s:=.held) rfl)),bc .ranks,_,rfl,jB.k (k:=.inl ((fl S1.held.length λi=>V.ref (bc (.cl i))).length:Int)) (g.rep.at_ (s:=.ranks) rfl) (by rw[aR];exact sl N1.g1),?_⟩
   have gl:=N1.gl
   have pk:putK (fl S1.g λi=>((.inl (i:Int),iV i):Key×V)) (.inl ((fl S1.held.length λi=>V.ref (bc (.cl i))).length:Int)) (V.int ((fl S1.g λi=>((.inl (i:Int),iV i):Key×V)).length:Int))=fl (S1.g+1) λi=>(.inl (i:Int),iV i):=by
    rw[aR,aR,← gl]
    unfold putK
    rw[XW]
    . exact ly (λ_ _=>rfl) rfl
    intro z
    obtain⟨kv,dG,e⟩:=Yw.mp z
    unfold fl at dG
    obtain⟨i,hi,rfl⟩:=XJ.mp dG
    have:=Zl (Yh e)
    have:=YL.mp hi
    omega
   rw[pk]
   obtain⟨d,ed⟩:∃d:HO,d=.dK (fl (S1.g+1) λi=>(.inl (i:Int),iV i)):=⟨_,rfl⟩
   rw[← ed]
   have oS:∀{a b:Sl}{o u:HO},cont C CO CP bc S1 a=some o->cont C CO CP bc S1 b=some u->a≠b->bc a≠bc b:=λh1 h2 n e=>n (g.rep.st.inj _ _ _ _ h1 h2 e)
   have u1:∀{b:Addr}{o:HO},Hx b=some o->b≠bc .ranks->upd Hx (bc .ranks) d b=some o:=λh n=>by rw[ag n];exact h
   have kC:=u1 mr (by rw[← es];exact oS (a:=.self) (b:=.ranks) rfl rfl (by intro z;cases z))
   have hd2:=u1 (g.rep.at_ (s:=.held) rfl) (oS (a:=.held) (b:=.ranks) rfl rfl (by intro z;cases z))
   have ar:a≠bc .ranks:=d8 OE (g.rep.at_ (s:=.ranks) rfl) (by intro z;cases z)
   refine⟨_,rfl,ad .self,_,_,_,_,rfl,kC,T.cl,T.held,eX,.inl ⟨rfl,_,ax.of hd2⟩,_,rfl,a,_,rfl,.inl (ax.of (u1 OE ar)),λp OF=>?_⟩
   have g2:=g.rep.Jy gl ed OF c
   refine⟨bc .held,_,_,rfl,rfl,un hd2 OF,(by rw[aR,hl];exact sl (by omega)),?_⟩
   have jZ:fU bc (.cl S1.held.length) p .self=ad .self:=es
   generalize fU bc (.cl S1.held.length) p=eW at g2 jZ
   have nJ:=jK jZ g2.rep
   have UK:=g2.rep.at_ (s:=.held) rfl
   refine⟨_,rfl,ad .self,_,_,rfl,nJ,by kernel_rfl,_,rfl,ad .self,_,_,_,_,rfl,nJ,T.cl,T.held,eX,eW .held,_,rfl,.inl (ax.of UK),_,_,rfl,rfl,?_⟩
   refine⟨eW,_,S1.held,c,S1.g,S1.g+1,?_,g2.rep,rfl,uW,N1.wat,λj hj=>by omega,by omega,λH4 wl pa pl si g4 W4=>?_⟩
   . show [V.ref (ad .self),V.int (((fl (S1.held++[c]).length λi=>V.ref (eW (.cl i))).length:Int)-1)]=_
     rw[aR,Xs,XE,jZ,show ((S1.held.length+1:Nat):Int)-1=(S1.held.length:Int) by omega]
   . refine⟨eW,_,_,rfl,jZ,(g.trans g2).trans g4,⟨⟨N1.bk.lit,N1.bk.nd,N1.bk.bit,N1.bk.ord,N1.bk.sgn⟩,W4,?_,N1.lf,N1.n6,?_,?_⟩,en,?_⟩
     . show S1.g+1=(S1.held++[c]).length
       rw[Xs,gl];rfl
     . show S1.g+1<=1000
       omega
     . show S1.spans.length<=(S1.held++[c]).length
       rw[Xs]
       have:=N1.sp
       omega
     . show S1.held++[c]=cls.take (i+1)
       rw[Yg,hc,eh];rfl
 . rintro σ Hx ⟨bc,S1,v2,rfl,es,g,N1,en,eh⟩
   rw[Xl,gi,XU]at eh
   exact k _ bc S1 es g N1 en eh
end
end Gen
namespace L2
open PySem PySem.Spec PyProof.Rows
def AY(K:W.Frag)(a:Addr)(xs:List V):It:=⟨λi H=>ax K H a xs/\i<xs.length,λi H x H'=>H'=H/\xs.reverse[i]?=some x,λi H=>i=xs.length⟩
theorem CI{P:Program}{w:World}{K:W.Frag}{tg:Expr}{xs:List V}(a it:Addr):Turn P w K tg (AY K a xs) [it] it (λi h=>i<=xs.length/\h.IsRevIter it a ((xs.length:Int)-1-(i:Int))) where
 mem:=by simp
 obj:=λi h st b hb=>by
  have e:b=it:=by simpa using hb
  subst e
  obtain⟨_,o,e,c,d⟩:=st
  exact⟨o,e,λv z=>by rw[d]at z;cases z⟩
 keep:=λi h h' st k=>⟨st.1,st.2.at λo e=>k it (by simp) o e⟩
 item:=by
  intro X hP hw hK hc i pins s σ H E I hf st hg
  subst hP hw hK
  obtain⟨hq,hi⟩:=hg
  obtain⟨its,rv,p,hz⟩:=I.list hq
  have hl:=rv.length
  have hx:xs[xs.length-1-i]?=some (xs[xs.length-1-i]'(by omega)):=Xo (by omega)
  obtain⟨u,hu,ru⟩:=rv.get hx
  obtain⟨f0,f1,f2,f3,f4,f5⟩:=hf it (by simp)
  have hit:=st.2
  have e:(xs.length:Int)-1-(i:Int)=((xs.length-1-i:Nat):Int):=by omega
  rw[e]at hit
  refine wpAny_pyNext_rev_item hit p.isList (x:=u) (by simpa using hu) λh' jN sb=>?_
  have I1:Inv X pins σ H {s with heap:=h'}:=I.turned (t':=s.toks) (λb o hb e=>(sb.2 b hb).trans e) f0 f1 f3 f4 f5
  obtain⟨o,e1,c,d⟩:=id jN
  have e2:((xs.length-1-i:Nat):Int)-1=(xs.length:Int)-1-((i+1:Nat):Int):=by omega
  rw[e2]at jN
  refine⟨u,rfl,tK (s:={s with heap:=h'}) e1 c d (by decide) ⟨_,H,I1,ru,⟨rfl,?_⟩,⟨hi,jN⟩,λb hb=>(hf b hb).1⟩⟩
  rw[aas (by omega)]
  exact hx
 done:=by
  intro X hP hw hK hc i pins s σ H E I hf st hg
  subst hP hw hK
  obtain⟨f0,f1,f2,f3,f4,f5⟩:=hf it (by simp)
  have hit:=st.2
  have hi:i=xs.length:=hg
  have e:(xs.length:Int)-1-(i:Int) = -1:=by omega
  rw[e]at hit
  exact wpAny_pyNext_rev_end (I.ok.hd hc) hit λh' eb=>⟨rfl,I.turned (t':=s.toks) (λb o hb e=>eb b o hb e) f0 f1 f3 f4 f5⟩
 self:=λ_ _ _ _ _ st h=>wpAny_pyIter_revIter st.2 h
section
variable {X:Cx}{tg:Expr}
def M3(K:W.Frag)(ta:TA):TI:=λσ H R=>ta σ H λvs H1=>∃a xs,vs=[.ref a]/\ax K H1 a xs/\R (AY K a xs) H1
theorem AZ{a:Expr}{ta:TA}{p pos:Pos}(hg:Gl X "reversed")(hm:X.mg "reversed" = none)(ha:PA X [a] ta) (hs:starEach [a] X.env=[(false,eval a X.env)]:=by rfl) :
 PI X tg (.Call (.Name "reversed" p) [a] [] pos) (M3 X.K ta):=by
 intro pins s σ H R I h
 refine Call_ (jL I hg hm PyProof.Rows.boot_reversed (Yz (aS (ha pos pins s σ H _ I h) λus s1 ⟨vs,H1,I1,r1,q1⟩=>?_) hs rfl))
 obtain⟨l,xs,e,hq,q⟩:=q1
 subst e
 cases r1 with
 | cons r rr=>
  cases rr
  cases r
  obtain⟨its,rv,pl,hz⟩:=I1.list hq
  have hl:=rv.length
  refine call_reversed_list pl.isList ?_
  have hit:(s1.heap.push (revObj l ((its.toArray.size:Int)-1))).IsRevIter s1.heap.objs.size l ((xs.length:Int)-1-((0:Nat):Int)):=⟨_,Yd _ rfl,rfl,by simp[revObj,hl]⟩
  refine wpAny_pyIter_revIter hit ?_
  refine⟨s1.heap.objs.size,[s1.heap.objs.size],_,_,H1,rfl,I1.kept (t':=s1.toks) λb o e=>XC _ e,CI (xs:=xs) l _,⟨Yi _,hit⟩,λb hb=>?_,q⟩
  have e:b=s1.heap.objs.size:=by simpa using hb
  subst e
  exact I1.o6 (Xv _) (I1.hok.fresh (Xv _))
end
theorem x6{K:W.Frag}{a:Addr}{xs:List V}{g:TG}{tb:TS}{D:Ends}{σ:St}{H:Hp}(Pv:Nat->St->Hp->Prop)(h0:Pv 0 σ H)(hl:∀i σ H,i<=xs.length->Pv i σ H->ax K H a xs)
 (hs:∀i x σ H,xs.reverse[i]?=some x->Pv i σ H->g x σ H λgr H2=>tb {D with nx:=Pv (i+1),ct:=Pv (i+1),bk:=D.nx} gr H2) (hd:∀σ H,Pv xs.length σ H->D.nx σ H) :
 ∃W:Nat->Nat->St->Hp->Prop,(∃m,W 0 m σ H)/\∀i m σ H,W i m σ H->
  ((AY K a xs).stop i H/\D.nx σ H)\/((AY K a xs).go i H/\∃N:St->Hp->Prop,(∀bq H',N bq H'->∃m',m'<m/\W (i+1) m' bq H')/\∀x H',(AY K a xs).yld i H x H'->g x σ H' λgr H2=>tb {D with nx:=N,ct:=N,bk:=D.nx} gr H2):=by
 refine⟨λi m σ H=>m=xs.length-i/\i<=xs.length/\Pv i σ H,⟨xs.length,by simp,Yi _,h0⟩,?_⟩
 rintro i m σ H ⟨rfl,hi,p⟩
 have q:=hl i σ H hi p
 by_cases eF:i<xs.length
 . refine .inr ⟨⟨q,eF⟩,Pv (i+1),λbq H' p'=>⟨xs.length-(i+1),by omega,rfl,eF,p'⟩,λx H' y=>?_⟩
   obtain⟨e,y⟩:=y
   subst e
   exact hs i x σ _ y p
 . have e:i=xs.length:=by omega
   subst e
   exact .inl ⟨rfl,hd σ H p⟩
end L2
namespace L2
open PySem PySem.Spec PyProof.Rows Sat
theorem Fz{sd D:Addr}{o:Obj}{sn:List Nat}{kvs:List (Key×V)}{ti:TT}{cap:St}{f:Nat->Bool}{H:Hp}{Q:Hp->Prop}(hk:∀i:Nat,(kvs[i]?).map (·.1)=(sn[i]?).map λv:Nat=>(.inl (v:Int):Key)) (uT:kvs.length=sn.length) (ky:D≠sd) (hD:H D=none) (hl:sn.length<=10000)
 (he:∀v∈sn,∀(Hx:Hp) (R:Bool->Hp->Prop),Hx sd=some (.cX o (.dK kvs))->(∀b u,H b=some u->b≠sd->Hx b=some u)->R (f v) Hx->ti (some (iV v)::cap) Hx R)
 (fin:∀H',H' sd=some (.cX o (.dK kvs))->(∀b u,H b=some u->b≠sd->H' b=some u)->H' D=some (.lst ((sn.filter f).map iV))->Q H') :
 ∃W:Nat->Nat->St->Hp->Prop,(∃m,W 0 m (none::cap) (upd (upd H sd (.cX o (.dK kvs))) D (.lst [])))/\nB D (ee 0) ti (eU 0) (vc sd o kvs) W Q:=by
 have nw:∀{H9:Hp}{o':HO},(∀b u,H b=some u->b≠sd->H9 b=some u)->∀b u,H b=some u->b≠sd->upd H9 D o' b=some u:=λs9 b u hb n=>by rw[ag (aq hb hD)];exact s9 b u hb n
 refine lU kvs.length (λi acc σ H9=>acc=((sn.take i).filter f).map iV/\(∃u,σ=u::cap)/\H9 sd=some (.cX o (.dK kvs))/\∀b u,H b=some u->b≠sd->H9 b=some u)
  ⟨rfl,⟨none,rfl⟩,by rw[ag ky.symm,aj],nw λb u hb n=>by rw[ag n];exact hb⟩ aj ?_ ?_
 . rintro acc σ H9 dq ⟨rfl,_,iH,s9⟩
   rw[uT,XU]at dq
   exact⟨⟨iH,rfl⟩,fin H9 iH s9 dq⟩
 . rintro i acc σ H9 hi dq ⟨rfl,⟨u,rfl⟩,iH,s9⟩
   refine⟨⟨iH,hi⟩,?_⟩
   rintro xv H' ⟨rfl,kv,dG,rfl⟩
   obtain⟨v,hv,ek⟩:∃v,sn[i]?=some v/\kv.1=(.inl (v:Int):Key):=by
    have:=hk i
    rw[dG]at this
    cases e:sn[i]? with
    | none=>rw[e]at this;cases this
    | some j=>rw[e]at this;exact⟨j,rfl,Xq this⟩
   have et:sn.take (i+1)=sn.take i++[v]:=by rw[Yg,hv,YW]
   rw[ek]
   refine he v (Xn hv) _ _ iH s9 ?_
   cases hf:f v with
   | true=>
    refine(XO rfl:_=_) ▸ ?_
    refine⟨_,rfl,_,dq,?_,gv hi aj ⟨?_,⟨_,rfl⟩,by rw[ag ky.symm];exact iH,nw s9⟩⟩
    . rw[Xl]
      refine XT (XS (Zf _ _) (by rw[XY];omega:_<=10000)) (by decide)
    . rw[et,Zv,Xx,aaa hf]
      rfl
   | false=>
    refine(XW XM:_=_) ▸ ?_
    refine gv hi dq ⟨?_,⟨_,rfl⟩,iH,s9⟩
    rw[et,Zv,aab (by rw[hf];decide)]
    rw[List.filter_nil,Yl]
theorem nS{k:Key} : ∀{more acc:List (Key×V)},(cv (c9 acc more) k).isSome=((cv acc k).isSome || more.any λkv=>decide (kv.1=k))
 | [],acc=>by simp[c9]
 | kv::more,acc=>by
  show (cv (c9 (putK acc kv.1 kv.2) more) k).isSome=_
  rw[nS,uj,Zg]
  by_cases e:kv.1=k
  . rw[XO e.symm,Xw e];simp
  . rw[XW (YF e),Xz e,Bool.false_or]
theorem vR{κ:Type}[DecidableEq κ] {kvs:List (κ×V)}{k:κ}{v:V} : (putK kvs k v).length<=kvs.length+1:=by
 unfold putK
 split
 . rw[Xl];exact YY _
 . rw[Xs];exact Xv _
theorem jk:∀{more acc:List (Key×V)},(c9 acc more).length<=acc.length+more.length
 | [],acc=>Xv _
 | kv::more,acc=>by
  show (c9 (putK acc kv.1 kv.2) more).length<=_
  refine XS jk ?_
  have:=vR (kvs:=acc) (k:=kv.1) (v:=kv.2)
  rw[X0]
  omega
def jn(ch:List (Nat×Int)):List (Key×V):=ch.map λz=>((.inl (z.1:Int),.int z.2):Key×V)
theorem JA{ch:List (Nat×Int)}{r:Nat} : ((jn ch).any λkv=>decide (kv.1=(.inl (r:Int):Key)))=true ↔ ∃p,(r,p)∈ch:=by
 rw[Yw]
 constructor
 . rintro⟨kv,h,e⟩
   obtain⟨z,hz,rfl⟩:=XJ.mp h
   have:(z.1:Int)=r:=Zl (Yh e)
   exact⟨z.2,by rw[show r=z.1 by omega];exact hz⟩
 . rintro⟨p,hp⟩
   exact⟨_,XJ.mpr ⟨_,hp,rfl⟩,Xw rfl⟩
theorem vS{H:Hp}{ts:List Addr}{ch:List (Nat×Int)}(h:Paired (λt (q:Nat×Int)=>H t=some (.tup [iV q.1,.int q.2])) ts ch):Paired (λt (kv:Key×V)=>H t=some (.tup [kV kv.1,kv.2])) ts (jn ch):=by
 induction h with
 | nil=>exact .nil
 | cons a _ ih=>exact .cons a ih
def Hg(kvs:List (Key×V)) (r:Nat):Prop:=(cv kvs (.inl (r:Int))).isSome=true
theorem Hg.merge{acc:List (Key×V)}{ch:List (Nat×Int)}{r:Nat} : Hg (c9 acc (jn ch)) r ↔ Hg acc r\/∃p,(r,p)∈ch:=by
 unfold Hg
 rw[nS,Bool.or_eq_true,JA]
theorem Hg.self{ch:List (Nat×Int)}{r:Nat} : Hg (c9 [] (jn ch)) r ↔ ∃p,(r,p)∈ch:=by
 rw[Hg.merge]
 exact⟨λh=>h.elim (λz=>by cases z) id,.inr⟩
theorem Hg.both{acc more:List (Key×V)}{r:Nat} : Hg (c9 acc more) r ↔ Hg acc r\/Hg more r:=by
 unfold Hg
 rw[nS,Bool.or_eq_true,kj]
theorem lF{g:Nat}{f:Nat->V}{j:Nat} : ∀m,cv (fl m λi=>((.inl ((g+i:Nat):Int),f i):Key×V)) (.inl (j:Int))=if g<=j/\j<g+m then some (f (j-g)) else none
 | 0=>by rw[XW (by omega)];rfl
 | m+1=>by
  rw[EO,m8]
  . by_cases e:j=g+m
    . subst e
      rw[XO rfl,XO (by omega),Nat.add_sub_cancel_left]
    . rw[XW λz=>e (by have:=Zl z;omega),lF m]
      by_cases h:g<=j/\j<g+m
      . rw[XO h,XO (by omega)]
      . rw[XW h,XW (by omega)]
  . exact(lF (j:=g+m) m).trans (XW (by omega))
def fQ(ρ:Nat->Nat)(G:Nat):List (Nat×Int)->Nat->List (Nat×Nat×Int)->Nat×List (Nat×Nat×Int)
 | [],cur,st=>(cur,st)
 | (r,p)::t,cur,st=>fQ ρ G t (G+st.length) (st++[if p>0 then (ρ r,cur,p) else (cur,ρ r,-p)])
theorem pK{ρ:Nat->Nat} {G:Nat}{r:Nat}{p:Int} : ∀{ch:List (Nat×Int)}{cur:Nat}{st:List (Nat×Nat×Int)},fQ ρ G (ch++[(r,p)]) cur st=(G+(fQ ρ G ch cur st).2.length,(fQ ρ G ch cur st).2++[if p>0 then (ρ r,(fQ ρ G ch cur st).1,p) else ((fQ ρ G ch cur st).1,ρ r,-p)])
 | [],_,_=>rfl
 | (r',p')::t,cur,st=>by
  show fQ ρ G (t++[(r,p)]) _ _=_
  rw[pK]
  rfl
theorem r6{ρ:Nat->Nat} {G:Nat} : ∀{ch:List (Nat×Int)}{cur:Nat}{st:List (Nat×Nat×Int)},(fQ ρ G ch cur st).2.length=st.length+ch.length
 | [],_,_=>rfl
 | (r',p')::t,cur,st=>by
  show (fQ ρ G t _ _).2.length=_
  rw[r6,Xs,XE,X0]
  omega
end L2
namespace Gen
open PySem L2 Sat
abbrev vU:Stmt:=top 14
abbrev vV(H:Hp)(t:Addr)(q:Nat×Nat×Int):Prop:=H t=some (.tup [iV q.1,iV q.2.1,.int q.2.2])
inductive CJ(vs:List V) (H:Hp) (Q:VK):Prop
 | mk (cd rn st G:Nat) (ts ss:List Addr) (ch:List (Nat×Int)) (kvs:List (Key×V)) (ρ:Nat->Nat) (tr:List (Nat×Nat×Int)) (r0:Nat) (p0:Int) (h1:vs=[.ref cd,.ref rn,.ref st,iV G]) (cE:H cd=some (.lst (ts.map V.ref))) (h9:Paired (d5 H) ts ((r0,p0)::ch)) (qH:H rn=some (.dK kvs)) (hρ:∀z∈(r0,p0)::ch,cv kvs (.inl (z.1:Int))=some (iV (ρ z.1))) (j1:H st=some (.lst (ss.map V.ref))) (JB:Paired (vV H) ss tr) (ne:cd≠st) (hb:tr.length+ch.length<=1000000)
  (k:∀(H':Hp) (ig:List Addr),H' st=some (.lst (ig.map V.ref))->Paired (vV H') ig (fQ ρ G ch (ρ r0) tr).2->cH H H' st->Q (iV (fQ ρ G ch (ρ r0) tr).1) H')
def x8:Sp:=λvs H Q _=>CJ vs H Q
abbrev JC:List Str:=["chain", "renamed", "steps", "given", "current", "number", "pivot"]
theorem lG:aG JC ["chain", "renamed", "steps", "given"] (aB vU):=fs
section
variable {P:Program}{w:World}{K:W.Frag}{mg:Str->Option Value}{base:Heap}
theorem CK{f:Addr}{fd:FuncData}(F:aM K "write_chain" "write_chain" vU f fd)(O:Own mg):aD P w K mg base aT 1 f fd ["chain", "renamed", "steps", "given"] x8:=by
 refine F.run lG λa6 A outer s H vs Q E hr h=>?_
 obtain⟨cd,rn,st,G,ts,ss,ch,kvs,ρ,tr,r0,p0,rfl,cE,h9,qH,hρ,j1,JB,ne,hb,k⟩:=h
 have hu:=jI hr
 refine⟨_,(ae (aQ 4 lG.nd (kW hu (pv 1) (aF (r:=yt K) um (aF (r:=aZ K) ay (pv 0) au (λ_ _=>rfl)) au (λ_ _=>rfl)) (λ_ _=>rfl)))
  (ae (cJ XX rfl (b7 (fR gQ (pv 0) (gd au) iw)) (pU rfl (gq (aL (i:=5) lG.nd rfl (Or.inl rfl)) (gq (aL (i:=6) lG.nd rfl (Or.inl rfl)) nY)))
   (ae (bR (aX (j6 (pv 6) au))
    (av (aK (cV XD XG XH bz (pv 2) (aa (gy (aa (kW hu (pv 1) (pv 5) (λ_ _=>rfl)) (aa (pv 4) (aa (pv 6) ak)))) ak))))
    (av (aK (cV XD XG XH bz (pv 2) (aa (gy (aa (pv 4) (aa (kW hu (pv 1) (pv 5) (λ_ _=>rfl)) (aa (f7 eQ (pv 6)) ak)))) ak)))))
   (av (aQ 4 lG.nd (aV kT (aV fq (pv 3) (aJ a7 (by rfl) O.len X5 (aa (pv 2) ak))) au)))))
  (av (aY (pv 4))))),?_⟩
 cases h9 with
 | @cons t0 _ ts _ JD h9=>
 have OG:rn≠st:=d8 qH j1 (by intro z;cases z)
 have tl:=h9.length
 have sl:=JB.length
 refine⟨_,rfl,_,rfl,cd,_,0,.ref t0,rfl,rfl,ax.of cE,bt (j:=0) rfl,t0,_,0,iV r0,rfl,rfl,jr.of JD,bt (j:=0) rfl,rn,iV (ρ r0),rfl,?_,?_⟩
 . rw[← hρ (r0,p0) XB];exact gc.k (k:=.inl (r0:Int)) qH
 refine⟨_,rfl,_,rfl,cd,_,rfl,ax.of cE,λq hq=>?_⟩
 rw[show gs ((t0::ts).map V.ref) (some 1) none=ts.map V.ref from sO (k:=1) _ (by rw[Xl,X0];omega)]
 have k0:cH H (upd H q (.lst (ts.map V.ref))) st:=cH.ix hq
 have JE:upd H q (.lst (ts.map V.ref)) q=some (.lst (ts.map V.ref)):=aj
 have qs:q≠st:=(aq j1 hq).symm
 have JF:upd H q (.lst (ts.map V.ref)) st=some (.lst (ss.map V.ref)):=by rw[ag qs.symm];exact j1
 have tn:∀{t:Addr}{xs:List V},H t=some (.tup xs)->t≠st:=λh=>d8 h j1 (by intro z;cases z)
 generalize upd H q (.lst (ts.map V.ref))=H1 at k0 JE JF
 refine⟨q,rfl,⟨_,ax.of JE⟩,?_⟩
 have JG:∀i,i<=ch.length->(fQ ρ G (ch.take i) (ρ r0) tr).2.length=tr.length+i:=λi hi=>by rw[r6,XY];omega
 refine dh (xs:=ts.map V.ref) (λi σ Hx=>∃(ig:List Addr) (v5 v6:Option V),σ=[some (.ref cd),some (.ref rn),some (.ref st),some (iV G),some (iV (fQ ρ G (ch.take i) (ρ r0) tr).1),v5,v6]/\Hx st=some (.lst (ig.map V.ref))/\Paired (vV Hx) ig (fQ ρ G (ch.take i) (ρ r0) tr).2/\cH H1 Hx st)
  ⟨ss,none,none,rfl,JF,Paired.bQ JB λa b e=>k0 _ _ e (tn e),cH.refl _ _⟩ ?_ ?_ ?_
 . rintro i σ Hx hi ⟨ig,v5,v6,rfl,_,_,kp⟩
   exact ax.of (kp _ _ JE qs)
 . rintro i xv σ Hx aU ⟨ig,v5,v6,rfl,mn,A0,kp⟩
   obtain⟨t,ht,rfl⟩:∃a,ts[i]?=some a/\xv=.ref a:=by
    rw[Xt]at aU
    cases e:ts[i]? with
    | none=>rw[e]at aU;cases aU
    | some j=>rw[e]at aU;exact⟨j,rfl,(Xq aU).symm⟩
   have il:=aO ht
   obtain⟨⟨r,p⟩,hc⟩:∃c,ch[i]?=some c:=⟨_,Xo (by omega)⟩
   obtain⟨a',jW,je⟩:=gn h9 hc
   rw[ht]at jW
   cases jW
   have ci:=JG i (by omega)
   have pl:=A0.length
   have UL:Hx t=some (.tup [iV r,.int p]):=kp _ _ (k0 _ _ je (tn je)) (tn je)
   have UM:Hx rn=some (.dK kvs):=kp _ _ (k0 _ _ qH OG) OG
   have hv:=hρ (r,p) (XA _ (Xn hc))
   have tk:ch.take (i+1)=ch.take i++[(r,p)]:=by rw[Yg,hc];rfl
   have sz:ig.length<sizeLine:=XT (show ig.length<=1000000 by omega) (by decide)
   have dg:gc Hx rn (iV r) (some (iV (ρ r))):=by rw[← hv];exact gc.k (k:=.inl (r:Int)) UM
   refine⟨t,_,rfl,jr.of UL,rfl,_,_,rfl,_,_,rfl,rfl,?_⟩
   have fin:∀(u:Addr) (xs:List V),Hx u=none->xs=[iV (if p>0 then (ρ r,(fQ ρ G (ch.take i) (ρ r0) tr).1,p) else ((fQ ρ G (ch.take i) (ρ r0) tr).1,ρ r,-p)).1,iV (if p>0 then (ρ r,(fQ ρ G (ch.take i) (ρ r0) tr).1,p) else ((fQ ρ G (ch.take i) (ρ r0) tr).1,ρ r,-p)).2.1,.int (if p>0 then (ρ r,(fQ ρ G (ch.take i) (ρ r0) tr).1,p) else ((fQ ρ G (ch.take i) (ρ r0) tr).1,ρ r,-p)).2.2]->
    ∀Hz,Hz=upd (upd Hx u (.tup xs)) st (.lst (ig.map V.ref++[.ref u]))->Hz st=some (.lst ((ig++[u]).map V.ref))/\Paired (vV Hz) (ig++[u]) (fQ ρ G (ch.take (i+1)) (ρ r0) tr).2/\cH H1 Hz st:=λu xs hu ex Hz eH=>by
    have us:u≠st:=(aq mn hu).symm
    subst eH
    refine⟨by rw[aj,Xx];rfl,?_,λb o hb n=>by rw[ag n,ag (aq (kp b o hb n) hu)];exact kp b o hb n⟩
    rw[tk,pK]
    refine Ze (Paired.bQ A0 λa b e=>?_) ?_
    . have:a≠st:=d8 e mn (by intro z;cases z)
      show upd _ _ _ a=_
      rw[ag this,ag (aq e hu)];exact e
    . show upd _ _ _ u=_
      rw[ag us,aj,ex]
   have ve:∀u:Addr,V.int ((G:Int)+(((ig++[u]).map V.ref).length:Int)-1)=iV (fQ ρ G (ch.take (i+1)) (ρ r0) tr).1:=λu=>by
    rw[tk,pK,Xl,Xs,XE]
    show V.int _=V.int ((G+(fQ ρ G (ch.take i) (ρ r0) tr).2.length:Nat):Int)
    rw[← pl]
    congr 1
    omega
   refine⟨_,rfl,_,_,rfl,rfl,_,rfl,?_⟩
   by_cases e:p>0
   . refine bX (Xw e) ?_
     refine⟨_,rfl,.inl ⟨rfl,_,ax.of mn⟩,_,rfl,_,rfl,rn,_,rfl,dg,_,rfl,_,rfl,(show 3<=sizeLine by decide),λu hu=>?_⟩
     refine⟨st,_,_,rfl,rfl,un mn hu,(by rw[Xl];exact sz),?_⟩
     obtain⟨a1,a2,a3⟩:=fin u _ hu (by rw[XO e]) _ rfl
     refine eB (H':=upd (upd Hx u (.tup [iV (ρ r),iV (fQ ρ G (ch.take i) (ρ r0) tr).1,.int p])) st (.lst (ig.map V.ref++[.ref u]))) rfl ?_
     generalize upd (upd Hx u (.tup [iV (ρ r),iV (fQ ρ G (ch.take i) (ρ r0) tr).1,.int p])) st (.lst (ig.map V.ref++[.ref u]))=Hz at a1 a2 a3 ⊢
     refine⟨_,rfl,_,rfl,st,_,rfl,.inl (ax.of a1),_,_,rfl,rfl,_,_,rfl,rfl,ig++[u],some (iV r),some (.int p),?_,a1,a2,a3⟩
     rw[← ve u]
     rfl
   . refine cc (Xz e) ?_
     refine⟨_,rfl,.inl ⟨rfl,_,ax.of mn⟩,_,rfl,_,rfl,_,rfl,rn,_,rfl,dg,_,rfl,_,rfl,(show 3<=sizeLine by decide),λu hu=>?_⟩
     refine⟨st,_,_,rfl,rfl,un mn hu,(by rw[Xl];exact sz),?_⟩
     obtain⟨a1,a2,a3⟩:=fin u _ hu (by rw[XW e]) _ rfl
     refine eB (H':=upd (upd Hx u (.tup [iV (fQ ρ G (ch.take i) (ρ r0) tr).1,iV (ρ r),.int (-p)])) st (.lst (ig.map V.ref++[.ref u]))) rfl ?_
     generalize upd (upd Hx u (.tup [iV (fQ ρ G (ch.take i) (ρ r0) tr).1,iV (ρ r),.int (-p)])) st (.lst (ig.map V.ref++[.ref u]))=Hz at a1 a2 a3 ⊢
     refine⟨_,rfl,_,rfl,st,_,rfl,.inl (ax.of a1),_,_,rfl,rfl,_,_,rfl,rfl,ig++[u],some (iV r),some (.int p),?_,a1,a2,a3⟩
     rw[← ve u]
     rfl
 . rintro σ Hx ⟨ig,v5,v6,rfl,mn,A0,kp⟩
   rw[Xl,tl,XU]at A0 ⊢
   exact⟨_,rfl,k _ _ mn A0 (k0.trans kp)⟩
end
abbrev yT:Stmt:=top 12
section
variable (C CO CP:Addr) (wants:List Int)
inductive FA(vs:List V) (H:Hp) (Q:VK):Prop
 | mk (ad:Sl->Addr) (S:SS) (r:Nat) (h1:vs=[.ref (ad .self),iV r]) (R:Rep C CO CP H ad S) (N:No wants S r)
  (k:∀(H':Hp) (cd:Addr) (ts:List Addr) (z0:Nat×Int) (ch:List (Nat×Int)),aC H H'->H cd=none->H' cd=some (.lst (ts.map V.ref))->Paired (d5 H') ts (z0::ch)->(∀z∈z0::ch,z.1<S.held.length)->ch.length<=6->Q (.ref cd) H')
def A5:Sp:=λvs H Q _=>FA C CO CP wants vs H Q
end
abbrev M4:List Str:=["search", "clash", "chain", "seen", "literal", "pivot", "reason"]
theorem kB:aG M4 ["search", "clash"] (aB yT):=fs
structure Sn(n:Nat) (sn:List Nat):Prop where
 nd:sn.Nodup
 ok:∀v∈sn,1<=v/\v<=n
theorem Sn.len{n:Nat}{sn:List Nat}(h:Sn n sn):sn.length<=n:=lW h.nd h.ok
theorem Sn.add{n v:Nat}{sn:List Nat}(h:Sn n sn)(hv:1<=v/\v<=n):∃aN,putK (a8 sn) (.inl (v:Int)) (.bl true)=a8 aN/\Sn n aN:=by
 by_cases e:v∈sn
 . exact⟨sn,vf e,h⟩
 . refine⟨sn++[v],ox e,i4 h.nd e,λu hu=>?_⟩
   rcases Xp.mp hu with hu|hu
   . exact h.ok u hu
   . rw[Xm.mp hu];exact hv
theorem bg{a b c:Hp}(h:aC a b)(k:aC b c):aC a c:=λx u hx=>k x u (h x u hx)
theorem bw{H Hx:Hp}(s:aC H Hx){p:Addr}{o:HO}(hp:H p=none):aC H (upd Hx p o):=λb u hb=>by rw[ag (aq hb hp)];exact s b u hb
theorem same_none{H Hx:Hp}(s:aC H Hx){p:Addr}(hp:Hx p=Option.none):H p=Option.none:=by
 cases e:H p with
 | none=>rfl
 | some u=>rw[s p u e]at hp;cases hp
section
variable {P:Program}{w:World}{K:W.Frag}{mg:Str->Option Value}{base:Heap}{C CO CP:Addr}{wants:List Int}
theorem FC{f:Addr}{fd:FuncData}(F:aM K "last_chain" "last_chain" yT f fd)(T:dZ K mg C)(O:Own mg)(hA:mg "abs" = none)(x9:mg "reversed" = none):aD P w K mg base aT 1 f fd ["search", "clash"] (A5 C CO CP wants):=by
 refine F.run kB λa6 A outer s H vs Q E hr h=>?_
 obtain⟨ad,S,r,rfl,R,N,k⟩:=h
 have hu:=jI hr
 obtain⟨c0,vy,_⟩:=N.cl
 have n6:=N.n6
 have lT:=N.iv.bk.len
 refine⟨_,(ae (aQ 2 kB.nd (bj (aa (gy (aa (pv 1) (aa au ak))) ak)))
  (ae (aQ 3 kB.nd jC)
  (ae (cJ XX rfl (b7 (aF (r:=aZ K) ay (aw (pv 0) rfl) (pv 1) (λ_ _=>rfl))) (aL (i:=4) kB.nd rfl (Or.inl rfl))
   (av (iu hu (pv 3) (aJ c6 (by rfl) hA X4 (aa (pv 4) ak)) fo rfl)))
  (ae (cJ XX rfl (AZ (by rfl) x9 (aa (aw (pv 0) rfl) ak)) (aL (i:=5) kB.nd rfl (Or.inl rfl))
   (ae (aQ 6 kB.nd (aF (r:=aZ K) ay (aw (pv 0) rfl) (aJ c6 (by rfl) hA X4 (aa (pv 5) ak)) (λ_ _=>rfl)))
   (av (bR (PW.pt (ja (aX (uk hu (aJ c6 (by rfl) hA X4 (aa (pv 5) ak)) (pv 3))) (iq (aX (wO (pv 6))))))
    (ae (aK (cV XD XG XH bz (pv 2) (aa (gy (aa (pv 6) (aa (pv 5) ak))) ak)))
    (av (cJ XX rfl (b7 (aF (r:=aZ K) ay (aw (pv 0) rfl) (pv 6) (λ_ _=>rfl))) (aL (i:=4) kB.nd rfl (Or.inl rfl))
     (av (iu hu (pv 3) (aJ c6 (by rfl) hA X4 (aa (pv 4) ak)) fo rfl))))) br))))
  (av (aY (pv 2))))))),?_⟩
 refine⟨_,rfl,by show 2<=sizeLine;decide,λt0 JD=>⟨by show 1<=sizeLine;decide,λcd cE=>?_⟩⟩
 refine λsd gp=>?_
 have tc:t0≠cd:=λe=>by rw[← e,aj]at cE;cases cE
 have CL:H cd=none:=by rw[ag tc.symm]at cE;exact cE
 have sc:sd≠cd:=λe=>by rw[e,aj]at gp;cases gp
 have st:sd≠t0:=λe=>by rw[e,ag tc,aj]at gp;cases gp
 have CM:H sd=none:=by rw[ag sc,ag st]at gp;exact gp
 have s0:aC H (upd (upd (upd H t0 (.tup [iV r,.int 0])) cd (.lst [.ref t0])) sd (.dK [])):=bw (bw (bw (λ_ _ h=>h) JD) CL) CM
 have OH:upd (upd (upd H t0 (.tup [iV r,.int 0])) cd (.lst [.ref t0])) sd (.dK []) cd=some (.lst [.ref t0]):=by rw[ag sc.symm,aj]
 have d0:upd (upd (upd H t0 (.tup [iV r,.int 0])) cd (.lst [.ref t0])) sd (.dK []) sd=some (.dK []):=aj
 have p0:d5 (upd (upd (upd H t0 (.tup [iV r,.int 0])) cd (.lst [.ref t0])) sd (.dK [])) t0 (r,0):=by
  show upd _ _ _ t0=_
  rw[ag st.symm,ag tc,aj]
 generalize upd (upd (upd H t0 (.tup [iV r,.int 0])) cd (.lst [.ref t0])) sd (.dK [])=H1 at s0 OH d0 p0 ⊢
 have rep:∀{Hx:Hp},aC H Hx->Rep C CO CP Hx ad S:=λs=>R.same s
 have OI:∀{c:List Int}{j:Nat},S.held[j]?=some c->∀l∈c,1<=l.natAbs/\l.natAbs<=S.n:=λh l hl=>by
  have:=(N.iv.wat.hcl _ (Xn h)).ok l hl
  omega
 have R1:=rep s0
 refine⟨_,rfl,ad .self,_,_,_,_,rfl,Rep.s R1,T.cl,T.held,eX,_,rfl,ad .held,_,_,.ref (ad (.cl r)),rfl,rfl,ax.of (R1.at_ (s:=.held) rfl),bY (aO vy),ad (.cl r),rfl,⟨_,ax.of (R1.eI vy)⟩,?_⟩
 refine dh (xs:=c0.map V.int) (λi σ Hx=>∃(sn:List Nat) (v4:Option V),σ=[some (.ref (ad .self)),some (iV r),some (.ref cd),some (.ref sd),v4,none,none]/\aC H Hx/\Hx cd=some (.lst [.ref t0])/\Hx sd=some (.dK (a8 sn))/\d5 Hx t0 (r,0)/\Sn S.n sn)
  ⟨[],none,rfl,s0,OH,d0,p0,Yb,λ_ h=>(by cases h)⟩ ?_ ?_ ?_
 . rintro i σ Hx hi ⟨sn,v4,rfl,sx,_⟩
   exact ax.of ((rep sx).eI vy)
 . rintro i xv σ Hx aU ⟨sn,v4,rfl,sx,cx,dx,px,dE⟩
   obtain⟨l,hl,rfl⟩:∃l,c0[i]?=some l/\xv=.int l:=by
    rw[Xt]at aU
    cases e:c0[i]? with
    | none=>rw[e]at aU;cases aU
    | some j=>rw[e]at aU;exact⟨j,rfl,(Xq aU).symm⟩
   obtain⟨aN,es,CN⟩:=dE.add (OI vy l (Xn hl))
   have:=dE.len
   refine⟨_,rfl,_,rfl,l,rfl,?_⟩
   rw[dv]
   refine⟨sd,_,rfl,jB.k (k:=.inl (l.natAbs:Int)) dx (by rw[eJ];exact XT (show sn.length<=6 by omega) (by decide)),?_⟩
   rw[es]
   have pt:t0≠sd:=d8 px dx (by intro z;cases z)
   exact⟨aN,_,rfl,bw sx CM,by rw[ag sc.symm];exact cx,aj,by show upd _ _ _ t0=_;rw[ag pt];exact px,CN⟩
 rintro σ Hx ⟨sn,v4,rfl,sx,cx,dx,px,dE⟩
 have Rx:=rep sx
 refine⟨_,rfl,ad .self,_,_,_,_,rfl,Rep.s Rx,T.cl,T.trail,d3,ad .trail,_,rfl,ax.of (Rx.at_ (s:=.trail) rfl),?_⟩
 refine x6 (xs:=S.T.map V.int) (λi σ Hx=>∃(ts:List Addr) (ch:List (Nat×Int)) (sn:List Nat) (v4 v5 v6:Option V),σ=[some (.ref (ad .self)),some (iV r),some (.ref cd),some (.ref sd),v4,v5,v6]/\aC H Hx/\Hx cd=some (.lst (ts.map V.ref))/\Hx sd=some (.dK (a8 sn))/\Paired (d5 Hx) ts ((r,0)::ch)/\Sn S.n sn/\(∀z∈(r,(0:Int))::ch,z.1<S.held.length)/\ch.length<=i)
  ⟨[t0],[],sn,v4,none,none,rfl,sx,cx,dx,.cons px .nil,dE,λz hz=>by rw[Xm.mp hz];exact aO vy,Xv _⟩ ?_ ?_ ?_
 . rintro i σ Hy hi ⟨ts,ch,sn,v4,v5,v6,rfl,sy,_⟩
   exact ax.of ((rep sy).at_ (s:=.trail) rfl)
 . clear cx dx px dE
   rintro i xv σ Hy aU ⟨ts,ch,sn,v4,v5,v6,rfl,sy,cy,dy,py,dE,eF,OJ⟩
   have Ry:=rep sy
   have jT:xv∈S.T.map V.int:=List.mem_reverse.mp (Xn aU)
   obtain⟨y,hy,rfl⟩:=XJ.mp jT
   have il:i<S.T.length:=by have:=aO aU;rwa[aaH,Xl]at this
   obtain⟨q,hq⟩:=X2.mp hy
   have yn:=(N.iv.bk.lit y hy).2
   refine⟨_,rfl,ad .self,_,_,_,_,rfl,Rep.s Ry,T.cl,T.reasons,iA,_,rfl,y,rfl,?_⟩
   rw[dv]
   refine⟨ad .reasons,_,_,oV (S.rea y.natAbs),rfl,rfl,ax.of (Ry.at_ (s:=.reasons) rfl),bY (by omega),?_⟩
   have idle:∀{bq:St},bq=[some (.ref (ad .self)),some (iV r),some (.ref cd),some (.ref sd),v4,some (.int y),some (oV (S.rea y.natAbs))]->∃(ts:List Addr) (ch:List (Nat×Int)) (sn:List Nat) (v4 v5 v6:Option V),bq=[some (.ref (ad .self)),some (iV r),some (.ref cd),some (.ref sd),v4,v5,v6]/\aC H Hy/\Hy cd=some (.lst (ts.map V.ref))/\Hy sd=some (.dK (a8 sn))/\Paired (d5 Hy) ts ((r,0)::ch)/\Sn S.n sn/\(∀z∈(r,(0:Int))::ch,z.1<S.held.length)/\ch.length<=i+1:=
    λe=>⟨ts,ch,sn,_,_,_,e,sy,cy,dy,py,dE,eF,by omega⟩
   refine⟨_,rfl,y,rfl,?_⟩
   rw[dv]
   refine⟨_,rfl,sd,_,rfl,gc.k (k:=.inl (y.natAbs:Int)) dy,_,rfl,?_⟩
   rw[ll]
   by_cases e1:y.natAbs∈sn
   . refine bX (Xw e1) ⟨_,rfl,_,rfl,?_⟩
     cases er:S.rea y.natAbs with
     | none=>
      rw[er]at idle
      exact eP (idle rfl)
     | some j=>
      rw[show oV (some j)=iV j from rfl]
      refine iE ?_
      have rs:=(N.iv.tok.at_ q y hq).2.2
      rw[er]at rs
      obtain⟨c,hc,_⟩:=rs
      have IB:=py.length
      have DR:=dE.len
      rw[X0]at IB
      refine⟨_,rfl,.inl ⟨rfl,_,ax.of cy⟩,_,rfl,_,rfl,(by show 2<=sizeLine;decide),λtt kr=>?_⟩
      have nt:cd≠tt:=aq cy kr
      have tH:=same_none sy kr
      refine⟨cd,_,_,rfl,rfl,by rw[ag nt];exact cy,(by rw[Xl];exact XT (show ts.length<=100 by omega) (by decide)),?_⟩
      have s2:aC H (upd (upd Hy tt (.tup [iV j,.int y])) cd (.lst (ts.map V.ref++[.ref tt]))):=bw (bw sy tH) CL
      have d2:(upd (upd Hy tt (.tup [iV j,.int y])) cd (.lst (ts.map V.ref++[.ref tt]))) sd=some (.dK (a8 sn)):=by rw[ag sc,ag (aq dy kr)];exact dy
      have c2:(upd (upd Hy tt (.tup [iV j,.int y])) cd (.lst (ts.map V.ref++[.ref tt]))) cd=some (.lst ((ts++[tt]).map V.ref)):=by rw[aj,Xx];rfl
      have p2:Paired (d5 (upd (upd Hy tt (.tup [iV j,.int y])) cd (.lst (ts.map V.ref++[.ref tt])))) (ts++[tt]) ((r,0)::(ch++[(j,y)])):=by
       rw[← YS]
       refine Ze (Paired.bQ py λa b e=>?_) ?_
       . have:a≠cd:=d8 e cy (by intro z;cases z)
         show upd _ _ _ a=_
         rw[ag this,ag (aq e kr)];exact e
       . show upd _ _ _ tt=_
         rw[ag nt.symm,aj]
      generalize upd (upd Hy tt (.tup [iV j,.int y])) cd (.lst (ts.map V.ref++[.ref tt]))=H5 at s2 d2 c2 p2 ⊢
      have R5:=rep s2
      refine⟨_,rfl,ad .self,_,_,_,_,rfl,Rep.s R5,T.cl,T.held,eX,_,rfl,ad .held,_,_,.ref (ad (.cl j)),rfl,rfl,ax.of (R5.at_ (s:=.held) rfl),bY (aO hc),ad (.cl j),rfl,⟨_,ax.of (R5.eI hc)⟩,?_⟩
      refine dh (xs:=c.map V.int) (λm σ Hz=>∃(sn:List Nat) (v4:Option V),σ=[some (.ref (ad .self)),some (iV r),some (.ref cd),some (.ref sd),v4,some (.int y),some (iV j)]/\aC H Hz/\Hz cd=some (.lst ((ts++[tt]).map V.ref))/\Hz sd=some (.dK (a8 sn))/\Paired (d5 Hz) (ts++[tt]) ((r,0)::(ch++[(j,y)]))/\Sn S.n sn)
       ⟨sn,v4,rfl,s2,c2,d2,p2,dE⟩ ?_ ?_ ?_
      . rintro m σ Hz hm ⟨sn,v4,rfl,sz,_⟩
        exact ax.of ((rep sz).eI hc)
      . clear d2 c2 p2 dE dy DR e1
        rintro m xv σ Hz A6 ⟨sn,v4,rfl,sz,cz,dz,pz,dE⟩
        obtain⟨l,hl,rfl⟩:∃l,c[m]?=some l/\xv=.int l:=by
         rw[Xt]at A6
         cases e:c[m]? with
         | none=>rw[e]at A6;cases A6
         | some j=>rw[e]at A6;exact⟨j,rfl,(Xq A6).symm⟩
        obtain⟨aN,es,CN⟩:=dE.add (OI hc l (Xn hl))
        have:=dE.len
        refine⟨_,rfl,_,rfl,l,rfl,?_⟩
        rw[dv]
        refine⟨sd,_,rfl,jB.k (k:=.inl (l.natAbs:Int)) dz (by rw[eJ];exact XT (show sn.length<=6 by omega) (by decide)),?_⟩
        rw[es]
        refine⟨aN,_,rfl,bw sz CM,by rw[ag sc.symm];exact cz,aj,Paired.bQ pz λa b e=>?_,CN⟩
        have pt:a≠sd:=d8 e dz (by intro z;cases z)
        show upd _ _ _ a=_
        rw[ag pt];exact e
      . rintro σ Hz ⟨sn,v4,rfl,sz,cz,dz,pz,dE⟩
        refine⟨ts++[tt],ch++[(j,y)],sn,_,_,_,rfl,sz,cz,dz,pz,dE,λz hz=>?_,by rw[Xs,XE];omega⟩
        rw[← YS]at hz
        rcases Xp.mp hz with hz|hz
        . exact eF z hz
        . rw[Xm.mp hz];exact aO hc
   . refine cc (Xz e1) ?_
     exact eP (idle rfl)
 . rintro σ Hy ⟨ts,ch,sn,v4,v5,v6,rfl,sy,cy,dy,py,dE,eF,OJ⟩
   rw[Xl]at OJ
   exact⟨_,rfl,k _ cd ts _ ch sy CL cy py eF (by omega)⟩
end
abbrev r8:Stmt:=top 13
section
variable (C CO CP:Addr) (wants:List Int)
inductive A7(vs:List V) (H:Hp) (Q:VK):Prop
 | mk (ad:Sl->Addr) (S:SS) (r:Nat) (cd:Addr) (ts:List Addr) (ch:List (Nat×Int)) (h1:vs=[.ref (ad .self),.ref cd]) (R:Rep C CO CP H ad S) (N:No wants S r) (cE:H cd=some (.lst (ts.map V.ref))) (h9:Paired (d5 H) ts ch) (hl:ch.length<=1000)
  (k:∀(H':Hp) (D:Addr) (L:List Nat),aC H H'->H D=none->H' D=some (.lst (L.map iV))->L.Pairwise (· < ·)->(∀j∈L,S.g<=j/\j<S.held.length)->(∀z∈ch,S.g<=z.1->z.1<S.held.length->z.1∈L)->(∀j∈L,∀z∈S.ch j,S.g<=z.1->z.1∈L)->Q (.ref D) H')
def vW:Sp:=λvs H Q _=>A7 C CO CP wants vs H Q
end
abbrev FD:List Str:=["search", "last", "hung_on", "number"]
theorem pL:aG FD ["search", "last"] (aB r8):=fs
section
variable {P:Program}{w:World}{K:W.Frag}{mg:Str->Option Value}{base:Heap}{C CO CP:Addr}{wants:List Int}
theorem A8{f:Addr}{fd:FuncData}(F:aM K "needed" "needed" r8 f fd)(T:dZ K mg C)(O:Own mg)(vX:mg "dict" = none)(x9:mg "reversed" = none):aD P w K mg base aT 1 f fd ["search", "last"] (vW C CO CP wants):=by
 refine F.run pL λa6 A outer s H vs Q E hr h=>?_
 obtain⟨ad,S,r,cd,ts,ch,rfl,R,N,cE,h9,hl,k⟩:=h
 have hu:=jI hr
 have lh:=N.lh
 have gl:=N.gl
 refine⟨_,(ae (aQ 2 pL.nd (eC (kI rfl) (by rfl) vX Zw (aa (pv 1) ak)))
  (ae (cJ XX rfl (AZ (by rfl) x9 (aa (eC (rN rfl) (by rfl) O.list YR (aa (aw (pv 0) rfl) ak)) ak)) (aL (i:=3) pL.nd rfl (Or.inl rfl))
   (av (bR (aX (uk hu (pv 3) (pv 2)))
    (av (aK (cV PySem.F.plainAttrs_dict Z4 PySem.F.type_dict_update Av (pv 2) (aa (eC (kI rfl) (by rfl) vX Zw (aa (kW hu (aw (pv 0) rfl) (pv 3) (λ_ _=>rfl)) ak)) ak)))) br)))
  (av (aY (rO (gu (N:=["number", "hung_on"]) (js:=[none,some 2]) (te:=eU 0) (by kernel_rfl) rfl (lj (aw (pv 0) rfl)) (λ_ _ _ _ _ _=>(aL (i:=0) (show (["number", "hung_on"]:List Str).Nodup from dk) rfl (Or.inl rfl) (.inr rfl))) (λ_ _ _ _ _ _=>(pA (aX (uk hu (pv 0) (pv 1))))) (λ_ _ _ _ _ _=>(pv 0)))))))),?_⟩
 have rep:∀{Hx:Hp},aC H Hx->Rep C CO CP Hx ad S:=λs=>R.same s
 refine⟨_,rfl,cd,ts,jn ch,rfl,cE,vS h9,λd hd=>?_⟩
 have s0:aC H (upd H d (.dK (c9 [] (jn ch)))):=bw (λ_ _ h=>h) hd
 have d0:upd H d (.dK (c9 [] (jn ch))) d=some (.dK (c9 [] (jn ch))):=aj
 generalize upd H d (.dK (c9 [] (jn ch)))=H1 at s0 d0 ⊢
 have R1:=rep s0
 refine⟨_,rfl,ad .self,_,_,_,_,rfl,Rep.s R1,T.cl,T.chains,jS,ad .chains,_,rfl,.inl (R1.at_ (s:=.chains) rfl),λl xD=>?_⟩
 have lH:=same_none s0 xD
 have UN:d≠l:=aq d0 xD
 have ek:∀f:Nat->V,(fl (S.held.length-S.g) λi=>(((.inl ((S.g+i:Nat):Int)),f i):Key×V)).map (λkv=>kV kv.1)=(fl (S.held.length-S.g) λi=>S.g+i).map iV:=λf=>by
  unfold fl
  rw[Y5,Y5]
  rfl
 rw[ek]
 generalize eL:(fl (S.held.length-S.g) λi=>S.g+i)=LL
 have s1:aC H (upd H1 l (.lst (LL.map iV))):=bw s0 lH
 have d1:upd H1 l (.lst (LL.map iV)) d=some (.dK (c9 [] (jn ch))):=un d0 xD
 have l1:upd H1 l (.lst (LL.map iV)) l=some (.lst (LL.map iV)):=aj
 generalize upd H1 l (.lst (LL.map iV))=H2 at s1 d1 l1 ⊢
 refine⟨l,_,rfl,ax.of l1,?_⟩
 have OK:LL.length=S.held.length-S.g:=by rw[← eL,aR]
 have JH:∀i,i<LL.length->LL[i]?=some (S.g+i):=λi hi=>by rw[← eL];exact iJ (by omega)
 have dl:d≠l:=UN
 refine x6 (xs:=LL.map iV) (λi σ Hx=>∃(kvs:List (Key×V)) (v3:Option V),σ=[some (.ref (ad .self)),some (.ref cd),some (.ref d),v3]/\aC H Hx/\Hx d=some (.dK kvs)/\Hx l=some (.lst (LL.map iV))/\(∀z∈ch,Hg kvs z.1)/\(∀j,S.held.length-i<=j->j<S.held.length->Hg kvs j->∀z∈S.ch j,Hg kvs z.1)/\kvs.length<=1000+200*i)
  ⟨_,none,rfl,s1,d1,l1,λz hz=>Hg.self.mpr ⟨z.2,hz⟩,λj h1 h2=>by omega,XS jk (by unfold jn;rw[YA,Xl];omega)⟩ ?_ ?_ ?_
 . rintro i σ Hx hi ⟨kvs,v3,rfl,_,_,lx,_⟩
   exact ax.of lx
 . rintro i xv σ Hx aU ⟨kvs,v3,rfl,sx,dx,lx,jT,hcl,uT⟩
   have il:i<LL.length:=by have:=aO aU;rwa[aaH,Xl]at this
   obtain rfl:xv=iV (S.held.length-1-i):=by
    rw[aas (by rw[Xl];exact il),Xl,Xt,JH _ (by omega)]at aU
    have:=(Xq aU).symm
    rw[this,show S.g+(LL.length-1-i)=S.held.length-1-i by omega]
   generalize ej:S.held.length-1-i=j
   have jl:j<S.held.length:=by omega
   have gj:S.g<=j:=by omega
   obtain⟨cj,lg⟩:∃c,S.held[j]?=some c:=⟨_,Xo jl⟩
   have Ba:=N.ch j cj gj lg
   have UO:∀z∈S.ch j,z.1<j:=λz hz=>by
    have:=Ba.lt z hz
    rw[XY]at this
    omega
   have cb:=N.cb j gj jl
   have Rx:=rep sx
   refine⟨_,rfl,_,rfl,d,_,rfl,gc.k (k:=.inl (j:Int)) dx,_,rfl,?_⟩
   by_cases e:(cv kvs (.inl (j:Int))).isSome=true
   . refine bX e ?_
     have je:Hx (ad (.ch j))=some (.lst ((S.ca j).map V.ref)):=Rx.st.at_ (.ch j) _ (by rw[cont,XO ⟨gj,jl⟩])
     have JI:cv (fl (S.held.length-S.g) λi=>((.inl ((S.g+i:Nat):Int),.ref (ad (.ch (S.g+i)))):Key×V)) (.inl (j:Int))=some (.ref (ad (.ch j))):=by
      rw[lF (f:=λi=>.ref (ad (.ch (S.g+i)))),XO (by omega),show S.g+(j-S.g)=j by omega]
     refine⟨_,rfl,.inr (.inr (.inl ⟨rfl,.inl ⟨_,dx⟩⟩)),_,rfl,ad .self,_,_,_,_,rfl,Rep.s Rx,T.cl,T.chains,jS,_,rfl,ad .chains,_,rfl,(by rw[← JI];exact gc.k (k:=.inl (j:Int)) (Rx.at_ (s:=.chains) rfl)),ad (.ch j),S.ca j,jn (S.ch j),rfl,je,vS (Rx.tc j),λq hq=>?_⟩
     have qd:d≠q:=aq dx hq
     refine⟨d,q,kvs,c9 [] (jn (S.ch j)),rfl,rfl,un dx hq,.inl aj,qd,?_,?_⟩
     . have:=jk (more:=jn (S.ch j)) (acc:=[])
       unfold jn at this
       rw[YA,Xl]at this
       exact XS (show _<=1000000 by unfold jn;omega) (by decide)
     refine⟨_,_,rfl,bw (bw sx (same_none sx hq)) hd,aj,?_,?_,?_,?_⟩
     . have ql:l≠q:=aq lx hq
       rw[ag dl.symm,ag ql];exact lx
     . exact λz hz=>Hg.both.mpr (.inl (jT z hz))
     . intro j' h1 h2 h3 z hz
       by_cases UP:j'=j
       . rw[UP]at hz
         exact Hg.both.mpr (.inr (Hg.self.mpr ⟨z.2,hz⟩))
       . rcases Hg.both.mp h3 with h3|h3
         . exact Hg.both.mpr (.inl (hcl j' (by omega) h2 h3 z hz))
         . obtain⟨p,hp⟩:=Hg.self.mp h3
           have:=UO _ hp
           omega
     . have:=jk (more:=c9 [] (jn (S.ch j))) (acc:=kvs)
       have:=jk (more:=jn (S.ch j)) (acc:=[])
       have e3:(jn (S.ch j)).length=(S.ch j).length:=Xl _
       rw[YA]at this
       omega
   . refine cc (by simpa using e) ?_
     refine⟨kvs,_,rfl,sx,dx,lx,jT,λj' h1 h2 h3=>?_,by omega⟩
     by_cases z:j'=j
     . rw[z]at h3;exact absurd h3 e
     . exact hcl j' (by omega) h2 h3
 . rintro σ Hx ⟨kvs,v3,rfl,sx,dx,lx,jT,hcl,uT⟩
   have Rx:=rep sx
   have ke:=Rx.at_ (s:=.chains) rfl
   refine⟨_,rfl,ad .self,_,_,_,_,rfl,Rep.s Rx,T.cl,T.chains,jS,ad .chains,_,rfl,ke,λo=>λD hD=>?_⟩
   have ky:D≠ad .chains:=λe=>by rw[e,aj]at hD;cases hD
   have iI:Hx D=none:=by rw[ag ky]at hD;exact hD
   have UQ:d≠ad .chains:=(aq (R.at_ (s:=.chains) rfl) hd).symm
   refine Fz (sn:=LL) (f:=λv=>(cv kvs (.inl (v:Int))).isSome) (cap:=[some (.ref d)]) (λi=>?_) (by rw[OK,aR]) ky iI (by omega) (λv hv Hz R' Ol s9 hR=>?_) (λH5 IV s5 IW=>?_)
   . rcases Yn i (S.held.length-S.g) with h|h
     . rw[iJ h,JH i (by omega)];rfl
     . rw[X3 (by rw[aR];exact h),X3 (by omega)];rfl
   . exact⟨_,rfl,_,rfl,d,_,rfl,gc.k (k:=.inl (v:Int)) (s9 d _ dx UQ),_,rfl,hR⟩
   refine⟨ad .chains,o,_,IV,λo' u z=>?_,?_⟩
   . have z:H (ad .chains)=some (.cX o' u):=z
     rw[R.at_ (s:=.chains) rfl]at z
     cases z
   have s6:aC H (upd H5 (ad .chains) (.dK (fl (S.held.length-S.g) λi=>(.inl ((S.g+i:Nat):Int),.ref (ad (.ch (S.g+i))))))):=λb u hb=>by
    by_cases e:b=ad .chains
    . rw[e,aj];rw[e,R.at_ (s:=.chains) rfl]at hb;exact hb
    . rw[ag e];exact s5 b u (sx b u hb) e
   have mem:∀j:Nat,j∈LL.filter (λv:Nat=>(cv kvs (.inl (v:Int))).isSome) ↔ (S.g<=j/\j<S.held.length)/\Hg kvs j:=λj=>by
    rw[Y0]
    refine and_congr ⟨λh=>?_,λh=>?_⟩ Iff.rfl
    . rw[← eL]at h
      unfold fl at h
      obtain⟨i,hi,rfl⟩:=XJ.mp h
      have:=YL.mp hi
      omega
    . have:=JH (j-S.g) (by omega)
      rw[show S.g+(j-S.g)=j by omega]at this
      exact Xn this
   refine k _ D _ s6 (same_none sx iI) (by rw[ag ky];exact IW) ?_ (λj hj=>((mem j).mp hj).1) (λz hz h1 h2=>(mem _).mpr ⟨⟨h1,h2⟩,jT z hz⟩) (λj hj z hz h1=>?_)
   . refine List.Pairwise.filter _ ?_
     rw[← eL]
     unfold fl
     rw[YN]
     exact List.pairwise_lt_range.imp λh=>by omega
   . obtain⟨⟨gj,jl⟩,hj⟩:=(mem j).mp hj
     obtain⟨cj,lg⟩:∃c,S.held[j]?=some c:=⟨_,Xo jl⟩
     have:=(N.ch j cj gj lg).lt z hz
     rw[XY]at this
     rw[Xl,OK]at hcl
     exact(mem _).mpr ⟨⟨h1,by omega⟩,hcl j (by omega) jl hj z hz⟩
end
abbrev vY:Stmt:=top 11
section
variable (C CO CP:Addr) (wants:List Int)
inductive CQ(vs:List V) (H:Hp) (Q:VK):Prop
 | mk (ad:Sl->Addr) (S:SS) (r:Nat) (h1:vs=[.ref (ad .self),iV r]) (R:Rep C CO CP H ad S) (N:No wants S r)
  (k:∀(H':Hp) (v:V),aC H H'->Q v H')
def yc:Sp:=λvs H Q _=>CQ C CO CP wants vs H Q
end
abbrev JJ:List Str:=["search", "clash", "last", "steps", "renamed", "number"]
theorem lI:aG JJ ["search", "clash"] (aB vY):=fs
def nT(kvs:List (Key×V)) (j:Nat):Nat:=match cv kvs (.inl (j:Int)) with
 | some (.int x)=>x.toNat
 | _=>0
def my(kvs:List (Key×V)) (j:Nat):Prop:=∃x:Nat,cv kvs (.inl (j:Int))=some (iV x)
theorem my.at_{kvs:List (Key×V)}{j:Nat}(h:my kvs j):cv kvs (.inl (j:Int))=some (iV (nT kvs j)):=by
 obtain⟨x,e⟩:=h
 unfold nT
 rw[e]
 rfl
theorem my.put{kvs:List (Key×V)}{j i x:Nat}(h:my kvs j\/j=i):my (putK kvs (.inl (i:Int)) (iV x)) j:=by
 unfold my
 rw[uj]
 by_cases e:j=i
 . rw[e,XO rfl];exact⟨x,rfl⟩
 . rw[XW λz=>e (by have:=Zl z;omega)]
   exact h.resolve_right e
section
variable {P:Program}{w:World}{K:W.Frag}{mg:Str->Option Value}{base:Heap}{C CO CP:Addr}{wants:List Int}
theorem CS{f fL fN fW:Addr}{fd dL dN dW:FuncData}(F:aM K "paper_of" "paper_of" vY f fd)(T:dZ K mg C)(O:Own mg)(vX:mg "dict" = none) (cL:iT P w K mg base 1 fL dL "last_chain" ["search", "clash"] (A5 C CO CP wants)) (cN:iT P w K mg base 1 fN dN "needed" ["search", "last"] (vW C CO CP wants)) (cW:iT P w K mg base 1 fW dW "write_chain" ["chain", "renamed", "steps", "given"] x8):aD P w K mg base aT 2 f fd ["search", "clash"] (yc C CO CP wants):=by
 refine F.run lI λa6 A outer s H vs Q E hr h=>?_
 obtain⟨ad,S,r,rfl,R,N,k⟩:=h
 have hu:=jI hr
 have lh:=N.lh
 have gl:=N.gl
 refine⟨_,(ae (aQ 2 lI.nd (b6 cL hr (aa (pv 0) (aa (pv 1) ak))))
  (ae (aQ 3 lI.nd (bj ak))
  (ae (aQ 4 lI.nd (eC rM (by rfl) vX Zw (aa (aw (pv 0) rfl) ak)))
  (ae (cJ XX rfl (b7 (b6 cN hr (aa (pv 0) (aa (pv 2) ak)))) (aL (i:=5) lI.nd rfl (Or.inl rfl))
   (av (iu hu (pv 4) (pv 5) (b6 cW hr (aa (kW hu (aw (pv 0) rfl) (pv 5) (λ_ _=>rfl)) (aa (pv 4) (aa (pv 3) (aa (aJ ny (by rfl) O.len X5 (aa (aw (pv 0) rfl) ak)) ak))))) rfl)))
  (av (aY (gy (aa (pv 3) (aa (b6 cW hr (aa (pv 2) (aa (pv 4) (aa (pv 3) (aa (aJ ny (by rfl) O.len X5 (aa (aw (pv 0) rfl) ak)) ak))))) ak))))))))),?_⟩
 have rep:∀{Hx:Hp},aC H Hx->Rep C CO CP Hx ad S:=λs=>R.same s
 refine⟨_,rfl,_,rfl,ad,S,r,rfl,R,N,λH1 cd ts z0 ch s1 cE c1 p1 eF Xe=>?_⟩
 refine⟨by decide,λst j1=>?_⟩
 have OL:=same_none s1 j1
 have s2:aC H (upd H1 st (.lst [])):=bw s1 OL
 have c2:=un (u:=.lst []) c1 j1
 have t2:upd H1 st (.lst []) st=some (.lst []):=aj
 have p2:Paired (d5 (upd H1 st (.lst []))) ts (z0::ch):=Paired.bQ p1 λa b e=>un e j1
 generalize upd H1 st (.lst [])=H2 at s2 c2 t2 p2 ⊢
 have R2:=rep s2
 refine⟨_,rfl,ad .self,_,_,_,_,rfl,Rep.s R2,T.cl,T.ranks,ko,ad .ranks,_,rfl,.inl (R2.at_ (s:=.ranks) rfl),λrn qH=>?_⟩
 generalize ek:(fl S.g λi=>((.inl (i:Int),iV i):Key×V))=tj
 have OM:=same_none s2 qH
 have s3:aC H (upd H2 rn (.dK tj)):=bw s2 OM
 have c3:=un (u:=.dK tj) c2 qH
 have t3:=un (u:=.dK tj) t2 qH
 have r3:upd H2 rn (.dK tj) rn=some (.dK tj):=aj
 have p3:Paired (d5 (upd H2 rn (.dK tj))) ts (z0::ch):=Paired.bQ p2 λa b e=>un e qH
 generalize upd H2 rn (.dK tj)=H3 at s3 c3 t3 r3 p3 ⊢
 refine⟨_,rfl,_,rfl,ad,S,r,cd,ts,z0::ch,rfl,rep s3,N,c3,p3,by rw[X0];omega,λH4 D L Bb nD hD lp lr lz lc=>?_⟩
 have ds:D≠st:=(aq t3 nD).symm
 have dr:D≠rn:=(aq r3 nD).symm
 have rs:rn≠st:=d8 r3 t3 (by intro z;cases z)
 have Ll:L.length<=2000:=by
  have:=k8 (m:=S.held.length) (lp.imp λh=>XZ h) λj hj=>(lr j hj).2
  omega
 have nx:∀{Hx:Hp}{a:Addr}{u:HO},H a=some u->a≠st/\a≠rn:=λh=>⟨aq h OL,aq h OM⟩
 have cs:cd≠st:=(aq c1 j1)
 have hz:∀{kvs:List (Key×V)}{X:Nat->Prop}{zs:List (Nat×Int)},(∀j,j<S.g->my kvs j)->(∀j,X j->my kvs j)->(∀z∈zs,z.1<S.g\/X z.1)->∀z∈zs,cv kvs (.inl (z.1:Int))=some (iV (nT kvs z.1)):=λh1 h2 h3 z UR=>((h3 z UR).elim (h1 _) (h2 _)).at_
 refine⟨D,rfl,⟨_,ax.of hD⟩,?_⟩
 refine dh (xs:=L.map iV) (λi σ Hx=>∃(kvs:List (Key×V)) (ss:List Addr) (tr:List (Nat×Nat×Int)) (v5:Option V),σ=[some (.ref (ad .self)),some (iV r),some (.ref cd),some (.ref st),some (.ref rn),v5]/\aC H Hx/\Hx cd=some (.lst (ts.map V.ref))/\Paired (d5 Hx) ts (z0::ch)/\Hx D=some (.lst (L.map iV))/\Hx st=some (.lst (ss.map V.ref))/\Paired (vV Hx) ss tr/\Hx rn=some (.dK kvs)/\(∀j,j<S.g->my kvs j)/\(∀j∈L.take i,my kvs j)/\tr.length<=200*i/\kvs.length<=2000+i)
  ⟨tj,[],[],none,rfl,bg s3 Bb,Bb _ _ c3,Paired.bQ p3 λa b e=>Bb _ _ e,hD,Bb _ _ t3,.nil,Bb _ _ r3,λj hj=>?_,λj hj=>(by rw[Yy]at hj;cases hj),Xv _,by rw[← ek,aR];omega⟩ ?_ ?_ ?_
 . refine⟨j,?_⟩
   rw[← ek]
   have:=lF (g:=0) (f:=λi=>iV i) (j:=j) S.g
   simp only[aaX,Nat.sub_zero]at this
   exact this.trans (XO ⟨Yi _,hj⟩)
 . rintro i σ Hx hi ⟨kvs,ss,tr,v5,rfl,_,_,_,iI,_⟩
   exact ax.of iI
 . rintro i xv σ Hx aU ⟨kvs,ss,tr,v5,rfl,sx,cx,px,iI,tx,qx,rx,n1,n2,ON,OO⟩
   obtain⟨j,hj,rfl⟩:∃l,L[i]?=some l/\xv=iV l:=by
    rw[Xt]at aU
    cases e:L[i]? with
    | none=>rw[e]at aU;cases aU
    | some j=>rw[e]at aU;exact⟨j,rfl,(Xq aU).symm⟩
   have jm:=Xn hj
   have il:=aO hj
   obtain⟨gj,jl⟩:=lr j jm
   obtain⟨cj,lg⟩:∃c,S.held[j]?=some c:=⟨_,Xo jl⟩
   have Ba:=N.ch j cj gj lg
   have cb:=N.cb j gj jl
   have Rx:=rep sx
   have je:Hx (ad (.ch j))=some (.lst ((S.ca j).map V.ref)):=Rx.st.at_ (.ch j) _ (by rw[cont,XO ⟨gj,jl⟩])
   have QZ:H (ad (.ch j))=some (.lst ((S.ca j).map V.ref)):=R.st.at_ (.ch j) _ (by rw[cont,XO ⟨gj,jl⟩])
   have JI:cv (fl (S.held.length-S.g) λi=>((.inl ((S.g+i:Nat):Int),.ref (ad (.ch (S.g+i)))):Key×V)) (.inl (j:Int))=some (.ref (ad (.ch j))):=by
    rw[lF (f:=λi=>.ref (ad (.ch (S.g+i)))),XO (by omega),show S.g+(j-S.g)=j by omega]
   have OP:=Rx.tc j
   have Eh:∀z∈S.ch j,z.1<S.g\/z.1∈L.take i:=λz Bc=>by
    have l1:=Ba.lt z Bc
    rw[XY]at l1
    rcases Yn z.1 S.g with h|h
    . exact .inl h
    . have zl:=lc j jm z Bc h
      obtain⟨m,hm⟩:=X2.mp zl
      have ml:=aO hm
      refine .inr (X2.mpr ⟨m,?_⟩)
      rw[Yv,XO]
      . exact hm
      rcases Yn m i with q|q
      . exact q
      . exfalso
        rcases aaQ q with q|q
        . subst q
          rw[hj]at hm
          have:=Xq hm
          omega
        . have:=X9.mp lp i m il ml q
          rw[Xo il]at hj
          rw[Xo ml]at hm
          have e1:=Xq hj
          have e2:=Xq hm
          omega
   have hρ:=hz n1 n2 Eh
   generalize S.ch j=US at OP Eh hρ cb Ba
   cases US with
   | nil=>exact absurd rfl Ba.ne
   | cons q0 cr=>
   rw[X0]at cb
   obtain⟨r0,q1⟩:=q0
   refine⟨_,rfl,ad .self,_,_,_,_,rfl,Rep.s Rx,T.cl,T.chains,jS,_,rfl,ad .chains,_,rfl,(by rw[← JI];exact gc.k (k:=.inl (j:Int)) (Rx.at_ (s:=.chains) rfl)),_,rfl,_,rfl,_,rfl,ad .self,_,_,_,_,rfl,Rep.s Rx,T.cl,T.ranks,ko,ad .ranks,_,rfl,Rx.at_ (s:=.ranks) rfl,?_⟩
   rw[aR]
   refine⟨ad (.ch j),rn,st,S.g,S.ca j,ss,cr,kvs,nT kvs,tr,r0,q1,rfl,je,OP,rx,hρ,tx,qx,(nx (Hx:=Hx) QZ).1,by omega,λH5 ig t5 q5 k5=>?_⟩
   have ql:=r6 (ρ:=nT kvs) (G:=S.g) (ch:=cr) (cur:=nT kvs r0) (st:=tr)
   generalize (fQ (nT kvs) S.g cr (nT kvs r0) tr).1=nu
   generalize (fQ (nT kvs) S.g cr (nT kvs r0) tr).2=UT at q5 ql
   refine⟨_,rfl,_,rfl,rn,_,rfl,jB.k (k:=.inl (j:Int)) (k5 _ _ rx rs) (XT (show kvs.length<=10000 by omega) (by decide)),?_⟩
   have np:∀{a:Addr}{xs:List V},H5 a=some (.tup xs)->a≠rn:=λh=>d8 h (k5 _ _ rx rs) (by intro z;cases z)
   have tn:∀{a:Addr}{xs:List V},Hx a=some (.tup xs)->a≠st:=λh=>d8 h tx (by intro z;cases z)
   have UU:cd≠rn:=d8 cx rx (by intro z;cases z)
   refine⟨_,ig,UT,_,rfl,λb u hb=>?_,?_,?_,?_,?_,?_,aj,λj' h=>my.put (.inl (n1 j' h)),λj' h=>my.put ?_,?_,?_⟩
   . obtain⟨e1,e2⟩:=nx (Hx:=Hx) hb
     rw[ag e2]
     exact k5 _ _ (sx b u hb) e1
   . rw[ag UU];exact k5 _ _ cx cs
   . refine Paired.bQ px λa b e=>?_
     have e2:=k5 _ _ e (tn e)
     show upd _ _ _ a=_
     rw[ag (np e2)];exact e2
   . rw[ag dr];exact k5 _ _ iI ds
   . rw[ag rs.symm];exact t5
   . refine Paired.bQ q5 λa b e=>?_
     show upd _ _ _ a=_
     rw[ag (np e)];exact e
   . rw[Yg,hj]at h
     rcases Xp.mp h with h|h
     . exact .inl (n2 j' h)
     . exact .inr (by simpa using h)
   . omega
   . have:=vR (kvs:=kvs) (k:=(.inl (j:Int):Key)) (v:=iV nu)
     omega
 . rintro σ Hx ⟨kvs,ss,tr,v5,rfl,sx,cx,px,iI,tx,qx,rx,n1,n2,ON,OO⟩
   rw[Xl]at n2 ON OO
   rw[XU]at n2
   have Rx:=rep sx
   have Eh:∀z∈z0::ch,z.1<S.g\/z.1∈L:=λz Bc=>by
    rcases Yn z.1 S.g with h|h
    . exact .inl h
    . exact .inr (lz z Bc h (eF z Bc))
   have hρ:=hz n1 n2 Eh
   obtain⟨r0,q1⟩:=z0
   refine⟨_,rfl,_,rfl,_,rfl,_,rfl,_,rfl,ad .self,_,_,_,_,rfl,Rep.s Rx,T.cl,T.ranks,ko,ad .ranks,_,rfl,Rx.at_ (s:=.ranks) rfl,?_⟩
   rw[aR]
   refine⟨cd,rn,st,S.g,ts,ss,ch,kvs,nT kvs,tr,r0,q1,rfl,cx,px,rx,hρ,tx,qx,cs,by omega,λH5 ig t5 q5 k5=>?_⟩
   refine⟨(show 2<=sizeLine by decide),λt ht=>?_⟩
   exact k _ _ (bw (λb u hb=>k5 _ _ (sx b u hb) (nx (Hx:=Hx) hb).1) (same_none (λb u hb=>k5 _ _ (sx b u hb) (nx (Hx:=Hx) hb).1) ht))
end
end Gen
namespace L2
open PySem PySem.Spec PyProof.Rows Sat
def tv(b:Nat->Bool)(l:Int):Prop:=b l.natAbs=decide (0<l)
def iR(b:Nat->Bool) (cls:List (List Int)) (wants:List Int):Prop:=(∀c∈cls,∃l∈c,tv b l)/\∀l∈wants,tv b l
theorem vZ{b:Nat->Bool}{x:Int}(h:x≠0):tv b (-x) ↔ ¬ tv b x:=by
 unfold tv
 rw[Ya]
 rcases aaR h with h|h
 . rw[Xw (show 0 < -x by omega),Xz (show ¬ 0<x by omega),Bool.not_eq_false]
 . rw[Xz (show ¬ 0 < -x by omega),Xw (show 0<x by omega),Bool.not_eq_true]
theorem Al.Q0{wants:List Int}{S S':SS}(A:Al wants S')(wd:Wd S' S'.T.length)(al:∀v,1<=v->v<=S'.n->v∈S'.T.map Int.natAbs)(rl:Rl S S')(hg:S.g=S.held.length)(hw:∀l∈wants,l≠0):iR (λv=>decide (S'.bits v=1)) S.held wants:=by
 have key:∀l∈S'.T,tv (λv=>decide (S'.bits v=1)) l:=λl hl=>by
  obtain⟨h0,hn⟩:=A.iv.bk.lit l hl
  have e:S'.bits l.natAbs=bV S'.T (l.natAbs:Int):=A.iv.bk.var hn
  unfold tv
  show decide (S'.bits l.natAbs=1)=_
  rw[e]
  rcases aaR h0 with h|h
  . rw[Xz (show ¬ 0<l by omega),Xz]
    intro z
    rw[kn,show (l.natAbs:Int) = -l by omega]at z
    exact A.iv.bk.oK hl z
  . rw[Xw (show 0<l by omega),Xw]
    rw[kn,show (l.natAbs:Int)=l by omega]
    exact hl
 refine⟨λc hc=>?_,λl hl=>key l (A.sw l hl).1⟩
 obtain⟨j,hj⟩:=X2.mp hc
 have jl:=aO hj
 obtain⟨c',gb,m⟩:=rl.he j c hj
 have jg:j<S'.g:=by rw[rl.g,hg];exact jl
 have go:∀l∈c',l∈S'.T->∃l∈c,tv (λv=>decide (S'.bits v=1)) l:=λl h1 h2=>⟨l,(m l).mp h1,key l h2⟩
 rcases Yn c'.length 2 with h|h
 . obtain⟨l,h1,h2,_⟩:=A.s1 j c' jg gb h
   exact go l h1 h2
 . obtain⟨a,b,r,rfl⟩:∃a b r,c'=a::b::r:=by
    cases c' with
    | nil=>exact absurd h (by decide)
    | cons a c'=>
     cases c' with
     | nil=>exact absurd h (Nat.not_le_of_lt (show 1<2 by decide))
     | cons b r=>exact⟨a,b,r,rfl⟩
   obtain⟨⟨w1,_⟩,_⟩:=wd j a b r jg gb
   have ao:=(A.iv.wat.hcl _ (Xn gb)).ok a XB
   have:=al a.natAbs (by omega) ao.2
   rw[fX]at this
   rcases this with h1|h1
   . exact go a XB h1
   . exact go b (XA _ XB) (w1 (by rw[XU];exact h1)).1
theorem No.unsat{wants:List Int}{S S':SS}{r:Nat}(N:No wants S' r)(rl:Rl S S')(hg:S.g=S.held.length)(b:Nat->Bool):¬ iR b S.held wants:=by
 rintro⟨hc,hw⟩
 have h1:∀(j:Nat) (c:List Int),S'.held[j]?=some c->∃l∈c,tv b l:=by
  intro j
  induction j using Nat.strongRecOn with
  | ind j ih=>
   intro c OQ
   rcases Yn j S'.g with h|h
   . obtain⟨c0,e,m⟩:=b8.back rl.he OQ (by rw[← hg,← rl.g];exact h)
     obtain⟨l,a1,a2⟩:=hc c0 (Xn e)
     exact⟨l,(m l).mpr a1,a2⟩
   . refine(N.ch j c h OQ).sound (ν:=tv b) (λx=>vZ) (λd hd=>?_)
     obtain⟨i,hi⟩:=X2.mp hd
     rw[Yv]at hi
     split at hi
     . exact ih i (by assumption) d hi
     . cases hi
 have h2:∀(i:Nat) (l:Int),S'.T[i]?=some l->tv b l:=by
  intro i
  induction i using Nat.strongRecOn with
  | ind i ih=>
   intro l Ad
   have rs:=(N.iv.tok.at_ i l Ad).2.2
   cases e:S'.rea l.natAbs with
   | none=>
    rw[e]at rs
    rcases rs with h|h
    . rw[N.cu]at h;cases h
    . exact hw l h.2
   | some q=>
    rw[e]at rs
    obtain⟨c,a1,a2,a3⟩:=rs
    obtain⟨x,x1,x2⟩:=h1 q c a1
    by_cases z:x=l
    . rw[← z];exact x2
    . obtain⟨p,hp⟩:=X2.mp (a3 x x1 z)
      rw[Yv]at hp
      split at hp
      . have:=ih p (by assumption) (-x) hp
        exact absurd x2 ((vZ ((N.iv.wat.hcl c (Xn a1)).ok x x1).1).mp this)
      . cases hp
 obtain⟨c,a1,a2⟩:=N.cl
 obtain⟨x,x1,x2⟩:=h1 r c a1
 obtain⟨p,hp⟩:=X2.mp (a2 x x1)
 exact absurd x2 ((vZ ((N.iv.wat.hcl c (Xn a1)).ok x x1).1).mp (h2 p _ hp))
end L2
namespace Gen
open PySem L2 Sat
abbrev r9:Stmt:=top 10
abbrev sh:Stmt:=top 9
abbrev yU(n:Nat)(b:Nat->Bool):List V:=fl n λi=>.int (if b (i+1)=true then 1 else 0)
section
variable (C CO CP:Addr) (wants:List Int)
inductive Bd(vs:List V) (H:Hp) (Q:VK):Prop
 | mk (ad:Sl->Addr) (S:SS) (a:Addr) (h1:vs=[.ref (ad .self),.ref a]) (R:Rep C CO CP H ad S) (N:nI S) (W:uX S.n wants) (ha:H a=some (.lst (wants.map V.int))) (oQ:¬ cB C CO CP ad S a)
  (k0:∀(H':Hp) (t D:Addr) (b:Nat->Bool),(∀x u,H x=some u->¬ cB C CO CP ad S x->H' x=some u)->H' t=some (.tup [.str "yes",.ref D])->H' D=some (.lst (yU S.n b))->iR b S.held wants->Q (.ref t) H')
  (k1:∀(H':Hp) (t:Addr) (v:V),(∀x u,H x=some u->¬ cB C CO CP ad S x->H' x=some u)->H' t=some (.tup [.str "no",v])->(∀b,¬ iR b S.held wants)->Q (.ref t) H')
def pM:Sp:=λvs H Q _=>Bd C CO CP wants vs H Q
inductive Be(vs:List V) (H:Hp) (Q:VK):Prop
 | mk (n:Nat) (cs a:Addr) (as:List Addr) (cls:List (List Int)) (wants:List Int) (h1:vs=[iV n,.ref cs,.ref a]) (hn:n<=6) (qj:H cs=some (.lst (as.map V.ref))) (hp:Paired (λx (c:List Int)=>H x=some (.lst (c.map V.int))) as cls) (ok:∀c∈cls,cf n c) (hm:cls.length<=1000) (W:uX n wants) (ha:H a=some (.lst (wants.map V.int)))
  (k0:∀(H':Hp) (t D:Addr) (b:Nat->Bool),aC H H'->H' t=some (.tup [.str "yes",.ref D])->H' D=some (.lst (yU n b))->iR b cls wants->Q (.ref t) H')
  (k1:∀(H':Hp) (t:Addr) (v:V),aC H H'->H' t=some (.tup [.str "no",v])->(∀b,¬ iR b cls wants)->Q (.ref t) H')
def wb:Sp:=λvs H Q _=>Be vs H Q
end
abbrev FE:List Str:=["search", "wants", "clash"]
theorem we:aG FE ["search", "wants"] (aB r9):=fs
abbrev FF:List Str:=["many", "clauses", "wants", "search"]
theorem wg:aG FF ["many", "clauses", "wants"] (aB sh):=fs
section
variable {P:Program}{w:World}{K:W.Frag}{mg:Str->Option Value}{base:Heap}{C CO CP:Addr}{wants:List Int}
theorem Bf{f fC fH fP:Addr}{fd dC dH dP:FuncData}(F:aM K "answer_of" "answer_of" r9 f fd)(T:dZ K mg C)
 (gC:aD P w K mg base aT 6 fC dC ["self", "wants"] (xS C CO CP wants)) (mC:Meth K C "clash_with" fC) (bC:Binds K dC ["self", "wants"] [])
 (gH:aD P w K mg base aT 1 fH dH ["self"] (sU C CO CP)) (mH:Meth K C "choice" fH) (bH:Binds K dH ["self"] [])
 (cP:iT P w K mg base 2 fP dP "paper_of" ["search", "clash"] (yc C CO CP wants)):aD P w K mg base aT 7 f fd ["search", "wants"] (pM C CO CP wants):=by
 refine F.run we λa6 A outer s H vs Q E hr h=>?_
 obtain⟨ad,S,a,rfl,R,N,W,ha,oQ,k0,k1⟩:=h
 have iZ:bx 1 _:=hr.mono (by decide)
 have nN:bx 2 _:=hr.mono (by decide)
 refine⟨_,(ae (aQ 2 we.nd (cQ (pv 0) T.cl mC gC hr bC (aa (pv 1) ak)))
  (ae (bR (aX (pS (pv 2)))
   (av (aY (gy (aa pQ (aa (jA (pv 0) T.cl mH gH iZ bH .nil jf) ak))))) br)
  (av (aY (gy (aa pQ (aa (b6 cP nN (aa (pv 0) (aa (pv 2) ak))) ak))))))),?_⟩
 refine⟨_,rfl,ad .self,_,_,rfl,Rep.s R,by kernel_rfl,_,rfl,?_⟩
 refine⟨ad,S,a,rfl,R,N,W,ha,oQ,λH1 bc S1 es g rl Al wd al=>?_,λH1 bc S1 r es g rl No=>?_⟩
 . refine⟨_,rfl,_,rfl,iE ?_⟩
   refine⟨_,rfl,ad .self,_,_,rfl,(by rw[← es];exact Rep.s g.rep),by kernel_rfl,?_⟩
   refine⟨bc,S1,by rw[es];rfl,g.rep,by have:=Al.n6;omega,λH2 D sm nD hD=>?_⟩
   refine⟨(show 2<=sizeLine by decide),λt ht=>?_⟩
   have s2:=bw (o:=.tup [.str "yes",.ref D]) sm (same_none sm ht)
   refine k0 _ t D (λv=>decide (S1.bits v=1)) (λx u hx JK=>s2 _ _ (g.kp.st x u hx JK)) aj ?_ (Al.Q0 wd al rl N.gl λl hl=>(W.ok l hl).1)
   rw[ag (aq hD ht),hD,rl.n]
   unfold yU
   refine congrArg some (congrArg HO.lst (uG λi hi=>?_))
   simp only[ZY]
 . refine⟨_,rfl,_,rfl,eP ?_⟩
   refine⟨_,rfl,_,rfl,?_⟩
   refine⟨bc,S1,r,by rw[es];rfl,g.rep,No,λH2 v sm=>?_⟩
   refine⟨(show 2<=sizeLine by decide),λt ht=>?_⟩
   have s2:=bw (o:=.tup [.str "no",v]) sm (same_none sm ht)
   exact k1 _ t v (λx u hx JK=>s2 _ _ (g.kp.st x u hx JK)) aj (No.unsat rl N.gl)
theorem Bh{f fI fT fA:Addr}{fd dI dT dA:FuncData}(F:aM K "solved" "solved" sh f fd)(T:dZ K mg C)
 (mI:Mk K C fI) (gI:aD P w K mg base aT 4 fI dI ["self", "many"] (xX C CO CP)) (bI:Binds K dI ["self", "many"] [])
 (gT:aD P w K mg base aT 2 fT dT ["self", "clauses"] (AX C CO CP)) (mT:Meth K C "take" fT) (bT:Binds K dT ["self", "clauses"] [])
 (cA:∀wants,iT P w K mg base 7 fA dA "answer_of" ["search", "wants"] (pM C CO CP wants)):aD P w K mg base aT 8 f fd ["many", "clauses", "wants"] wb:=by
 refine F.run wg λa6 A outer s H vs Q E hr h=>?_
 obtain⟨n,cs,a,as,cls,wants,rfl,hn,qj,hp,ok,hm,W,ha,k0,k1⟩:=h
 have nN:bx 2 _:=hr.mono (by decide)
 have UW:bx 5 _:=hr.mono (by decide)
 refine⟨_,(ae (aQ 3 wg.nd (Ey mI gI UW rfl T.mgC bI .nil jf (aa (pv 0) ak)))
  (ae (aK (cQ (pv 3) T.cl mT gT nN bT (aa (pv 1) ak)))
  (av (aY (b6 (cA wants) hr (aa (pv 3) (aa (pv 2) ak))))))),?_⟩
 refine⟨_,rfl,λx dx hx lB UB=>?_⟩
 refine⟨x,dx,n,rfl,aj,hn,λH1 ad S es R kp N en eh=>⟨rfl,?_⟩⟩
 have sm:aC H H1:=xY hx lB λb u hb nb=>kp.st b u hb nb
 have no:∀{b:Addr}{u:HO},H b=some u->¬ cB C CO CP ad S b:=λhb z=>by
  rcases kp.nw _ z with e|e
  . rw[e,hx]at hb;cases hb
  . rw[oz hx lB e]at hb;cases hb
 refine⟨_,rfl,x,_,_,rfl,(by rw[← es];exact Rep.s R),by kernel_rfl,_,rfl,?_⟩
 refine⟨ad,S,cs,as,cls,by rw[es];rfl,R,N,eh,sm _ _ qj,Paired.bQ hp λa c e=>⟨sm _ _ e,no e⟩,no qj,by rw[en];exact ok,hm,λH2 eW S2 jZ g2 N2 OR OS=>?_⟩
 have JL:aC H H2:=λb u hb=>g2.kp.st b u (sm b u hb) (no hb)
 have JM:∀{b:Addr}{u:HO},H b=some u->¬ cB C CO CP eW S2 b:=λhb z=>by
  rcases g2.kp.nw _ z with e|e
  . exact no hb e
  . rw[sm _ _ hb]at e;cases e
 refine⟨_,rfl,_,rfl,eW,S2,a,by rw[jZ,es];rfl,g2.rep,N2,by rw[OR,en];exact W,JL _ _ ha,JM ha,λH3 t D b fr ht hD sat=>?_,λH3 t v fr ht un=>?_⟩
 . rw[OS]at sat
   rw[OR,en]at hD
   exact k0 H3 t D b (λx u hb=>fr x u (JL x u hb) (JM hb)) ht hD sat
 . rw[OS]at un
   exact k1 H3 t v (λx u hb=>fr x u (JL x u hb) (JM hb)) ht un
end
abbrev CT:Stmt:=top 19
abbrev CU:Stmt:=top 20
abbrev CV:Stmt:=top 21
inductive JN(K:W.Frag) (vs:List V) (H:Hp) (Q:VK):Prop
 | mk (a:Addr) (ns:List Int) (k:Int) (h1:vs=[.ref a,.int k]) (ha:ax K H a (ns.map V.int)) (h0:0<=k) (hk:k<=1000) (kk:∀(v:Int) (H':Hp),aC H H'->Q (.int v) H')
def Ei(K:W.Frag):Sp:=λvs H Q _=>JN K vs H Q
inductive JO(vs:List V) (H:Hp) (Q:VK):Prop
 | mk (l n:Nat) (xs:List V) (h1:vs=[.ref l,iV n]) (hl:H l=some (.lst xs)) (hp:iN xs) (n1:1<=n) (n6:n<=1000)
  (k:∀(H':Hp) (D:Addr) (c:List Int) (ys:List V),cH H H' l->H D=none->H' l=some (.lst ys)->iN ys->H' D=some (.lst (c.map V.int))->cf n c->c.length<=4->Q (.ref D) H')
def Ej:Sp:=λvs H Q _=>JO vs H Q
inductive JP(vs:List V) (H:Hp) (Q:VK):Prop
 | mk (l n m:Nat) (xs:List V) (h1:vs=[.ref l,iV n,iV m]) (hl:H l=some (.lst xs)) (hp:iN xs) (n1:1<=n) (n6:n<=1000) (m6:m<=1000)
  (k:∀(H':Hp) (D:Addr) (c:List Int) (ys:List V),cH H H' l->H D=none->H' l=some (.lst ys)->iN ys->H' D=some (.lst (c.map V.int))->cf n c->c.length<=m->Q (.ref D) H')
def Ek:Sp:=λvs H Q _=>JP vs H Q
abbrev Q1:List Str:=["_law_script", "_law_k", "_law_cell", "_law_number_here", "_law_j"]
theorem qI:aG Q1 ["_law_script", "_law_k"] (aB CT):=fs
abbrev Q2:List Str:=["_law_left", "_law_many", "_law_size", "_law_clause_here", "_law_k", "_law_variable", "_law_sign"]
theorem mh:aG Q2 ["_law_left", "_law_many"] (aB CU):=fs
abbrev Q3:List Str:=["_law_left", "_law_many", "_law_most", "_law_wants_here", "_law_k", "_law_variable", "_law_sign"]
theorem qJ:aG Q3 ["_law_left", "_law_many", "_law_most"] (aB CV):=fs
theorem i5(z:Int)(L:List Int):Dr (.int z) (L.map V.int)=decide (z∈L):=by
 unfold Dr
 rw[List.any_map,Za]
 simp[qh]
theorem jX(L:List Int):(L.map V.int).all jH=true:=ZE.mpr λv hv=>by obtain⟨z,_,rfl⟩:=XJ.mp hv;rfl
theorem nU{n:Nat} : cf n []:=⟨λ_ h=>(by cases h),Yb⟩
theorem Bi{n:Nat}{c:List Int}(h:cf n c){x s:Int}(x1:1<=x)(xn:x<=n)(s1:s=1\/s = -1)(h1:x∉c)(h2 : -x∉c):cf n (c++[s*x]):=by
 have e:(s*x).natAbs=x.toNat:=by rcases s1 with rfl|rfl <;> omega
 refine⟨λl hl=>?_,?_⟩
 . rcases Xp.mp hl with hl|hl
   . exact h.ok l hl
   . rw[Xm.mp hl]
     rcases s1 with rfl|rfl <;> omega
 . rw[Xx]
   refine i4 h.nd λz=>?_
   obtain⟨y,hy,ey⟩:=XJ.mp z
   rw[e]at ey
   by_cases p:0<y
   . exact h1 (by rw[show x=y by omega];exact hy)
   . exact h2 (by rw[show -x=y by omega];exact hy)
section
variable {P:Program}{w:World}{K:W.Frag}{mg:Str->Option Value}{base:Heap}
theorem JQ{f fC fM:Addr}{fd dC dM:FuncData}(F:aM K "_law_number" "_law_number" CT f fd)(O:Own mg)(hI:mg "int" = none) (cC:iT P w K mg base 1 fC dC "_law_cell_at" ["_law_script", "_law_k"] (zO K)) (cM:iT P w K mg base 1 fM dM "_law_mix" ["_law_cell", "_law_k"] Dz):aD P w K mg base aT 2 f fd ["_law_script", "_law_k"] (Ei K):=by
 refine F.run qI λa6 A outer s H vs Q E hr h=>?_
 obtain⟨a,ns,k,rfl,ha,h0,hk,kk⟩:=h
 refine⟨_,(ae (aQ 2 qI.nd (b6 cC hr (aa (pv 0) (aa (pv 1) ak))))
  (ae (bR (aX (c7 (aV mV (b6 cC hr (aa (pv 0) (aa au ak))) au) au))
   (ae (aQ 3 qI.nd au)
   (ae (cJ XX rfl (hV rfl O.range (aa au ak)) (aL (i:=4) qI.nd rfl (Or.inl rfl))
    (av (aQ 3 qI.nd (aV fq (aV ft (pv 3) au) (b6 cM hr (aa (pv 2) (aa (aV fq (aV ft au (pv 1)) (pv 4)) ak)))))))
   (av (aY (pv 3))))) br)
  (av (aY (aV wV (pv 2) (aF (r:=aZ K) ay (bj (aa au (aa au ak))) (eC su (by rfl) hI aat (aa (pT (c7 (pv 1) au)) ak)) (λ_ _=>rfl))))))),?_⟩
 refine⟨_,rfl,_,rfl,a,ns,k,rfl,ha,h0,λx=>?_⟩
 refine⟨_,rfl,a,ns,0,rfl,ha,by decide,λy=>?_⟩
 refine⟨_,_,rfl,rfl,(by show (0:Int)<2;decide),_,_,rfl,rfl,_,rfl,?_⟩
 refine pj (λ_=>?_) (λ_=>?_)
 . refine⟨_,rfl,by decide,by decide,?_⟩
   refine jO (λi σ Hx=>∃(z:Int) (v4:Option V),σ=[some (.ref a),some (.int k),some (.int x),some (.int z),v4]/\Hx=H) ⟨0,none,rfl,rfl⟩ ?_ ?_
   . rintro i σ Hx hi ⟨z,v4,rfl,rfl⟩
     have hi:i<60:=hi
     refine⟨_,rfl,_,_,rfl,rfl,.inr ⟨by decide,by decide⟩,_,rfl,_,rfl,_,_,rfl,rfl,.inl ⟨by decide,by decide⟩,_,rfl,_,_,rfl,rfl,?_⟩
     refine⟨x,61*k+(0+(i:Int)),rfl,by omega,by omega,λv v0 v1=>?_⟩
     exact⟨_,_,rfl,rfl,_,_,rfl,rfl⟩
   . rintro σ Hx ⟨z,v4,rfl,rfl⟩
     exact⟨_,rfl,kk z _ λ_ _ h=>h⟩
 . refine⟨_,rfl,by decide,λq hq=>?_⟩
   refine⟨_,rfl,_,_,rfl,rfl,.inr ⟨decide (k=0),rfl,?_⟩⟩
   have fin:aC H (upd H q (.lst [.int 1,.int 2])):=λb o hb=>by rw[ag (aq hb hq)];exact hb
   by_cases e:k=0
   . rw[Xw e]
     exact⟨q,_,_,.int 2,rfl,rfl,ax.of aj,bt (j:=1) rfl,_,_,rfl,rfl,⟨by decide,by decide⟩,kk _ _ fin⟩
   . rw[Xz e]
     exact⟨q,_,_,.int 1,rfl,rfl,ax.of aj,bt (j:=0) rfl,_,_,rfl,rfl,⟨by decide,by decide⟩,kk _ _ fin⟩
theorem JR{f fP:Addr}{fd dP:FuncData}(F:aM K "_law_wants" "_law_wants" CV f fd)(O:Own mg)(cP:iT P w K mg base 1 fP dP "_law_pick" ["_law_left", "_law_many"] qo):aD P w K mg base aT 2 f fd ["_law_left", "_law_many", "_law_most"] Ek:=by
 refine F.run qJ λa6 A outer s H vs Q E hr h=>?_
 obtain⟨l,n,m,xs,rfl,hl,hp,n1,n6,m6,k⟩:=h
 refine⟨_,(ae (aQ 3 qJ.nd (bj ak))
  (ae (cJ XX rfl (hV rfl O.range (aa (b6 cP hr (aa (pv 0) (aa (aV fq (pv 2) au) ak))) ak)) (aL (i:=4) qJ.nd rfl (Or.inl rfl))
   (ae (aQ 5 qJ.nd (aV fq au (b6 cP hr (aa (pv 0) (aa (pv 1) ak)))))
   (ae (aQ 6 qJ.nd (aV kT au (aV ft au (b6 cP hr (aa (pv 0) (aa au ak))))))
   (av (bR (PW.pt (ja (jz jc (pv 5) (pv 3) (by with_unfolding_all rfl)) (iq (jz jc (f7 eQ (pv 5)) (pv 3) (by with_unfolding_all rfl)))))
    (av (aK (cV XD XG XH bz (pv 3) (aa (aV ft (pv 6) (pv 5)) ak)))) br)))))
  (av (aY (pv 3))))),?_⟩
 refine⟨by decide,λD hD=>?_⟩
 have qK:upd H D (.lst []) l=some (.lst xs):=by rw[ag (aq hl hD)];exact hl
 have lD:l≠D:=aq hl hD
 have k1:cH H (upd H D (.lst [])) l:=cH.ix hD
 have d1:upd H D (.lst []) D=some (.lst []):=aj
 generalize upd H D (.lst [])=H1 at qK k1 d1 ⊢
 refine⟨_,rfl,_,rfl,_,_,rfl,rfl,l,xs,_,rfl,qK,hp,by omega,by omega,λd ys H2 d0 dl py gX k2=>?_⟩
 refine⟨_,rfl,by omega,by omega,?_⟩
 refine jO (λi σ Hx=>∃(c:List Int) (ys:List V) (v4 v5 v6:Option V),σ=[some (.ref l),some (iV n),some (iV m),some (.ref D),v4,v5,v6]/\(∀b u,H b=some u->b≠l->Hx b=some u)/\Hx l=some (.lst ys)/\iN ys/\Hx D=some (.lst (c.map V.int))/\cf n c/\c.length<=i)
  ⟨[],ys,none,none,none,rfl,λb u hb nb=>k2 _ _ (k1 _ _ hb nb) nb,gX,py,k2 _ _ d1 lD.symm,nU,Xv _⟩ ?_ ?_
 . clear gX py
   rintro i σ Hx hi ⟨c,ys,v4,v5,v6,rfl,fr,qL,py,iI,ok,cl⟩
   refine⟨_,rfl,_,rfl,l,ys,_,rfl,qL,py,by omega,by omega,λv JS H3 v0 vl JT sR k3=>?_⟩
   refine⟨_,_,rfl,rfl,?_⟩
   refine⟨_,rfl,l,JS,2,rfl,sR,JT,by decide,by decide,λg tm H4 g0 gl wj wk k4=>?_⟩
   refine⟨_,_,rfl,rfl,.inl ⟨by decide,by decide⟩,_,_,rfl,rfl,?_⟩
   have jY:H4 D=some (.lst (c.map V.int)):=k4 _ _ (k3 _ _ iI lD.symm) lD.symm
   have nO:∀b u,H b=some u->b≠l->H4 b=some u:=λb u hb nb=>k4 _ _ (k3 _ _ (fr b u hb nb) nb) nb
   refine⟨_,rfl,_,rfl,D,_,rfl,.inl (ax.of jY),rfl,jX c,_,rfl,?_⟩
   by_cases e1:(1+v:Int)∈c
   . refine cc (by rw[XO rfl,i5,Xw e1];rfl) (eP ?_)
     exact⟨c,tm,_,_,_,rfl,nO,wk,wj,jY,ok,by omega⟩
   refine bX (by rw[XO rfl,i5,Xz e1];rfl) ?_
   refine⟨_,rfl,_,rfl,_,rfl,D,_,rfl,.inl (ax.of jY),rfl,jX c,_,rfl,?_⟩
   by_cases e2 : -(1+v:Int)∈c
   . refine cc (by rw[XO rfl,i5,Xw e2];rfl) ?_
     exact⟨c,tm,_,_,_,rfl,nO,wk,wj,jY,ok,by omega⟩
   refine bX (by rw[XO rfl,i5,Xz e2];rfl) ?_
   refine⟨_,rfl,.inl ⟨rfl,_,ax.of jY⟩,_,rfl,_,rfl,_,_,rfl,rfl,.inl ⟨by omega,by omega⟩,D,_,_,rfl,rfl,jY,(by rw[Xl];exact XT (show c.length<=2000 by omega) (by decide)),?_⟩
   refine⟨c++[(1-2*g)*(1+v)],tm,_,_,_,rfl,λb u hb nb=>?_,by rw[ag lD];exact wk,wj,by rw[aj,Xx];rfl,Bi ok (by omega) (by omega) (by omega) e1 e2,by rw[Xs,XE];omega⟩
   rw[ag (aq hb hD)]
   exact nO b u hb nb
 . rintro σ Hx ⟨c,ys,v4,v5,v6,rfl,fr,qL,py,iI,ok,cl⟩
   exact⟨_,rfl,k _ D c ys (λb u hb nb=>fr b u hb nb) hD qL py iI ok (by omega)⟩
theorem JU{f fP:Addr}{fd dP:FuncData}(F:aM K "_law_clause" "_law_clause" CU f fd)(O:Own mg)(cP:iT P w K mg base 1 fP dP "_law_pick" ["_law_left", "_law_many"] qo):aD P w K mg base aT 2 f fd ["_law_left", "_law_many"] Ej:=by
 refine F.run mh λa6 A outer s H vs Q E hr h=>?_
 obtain⟨l,n,xs,rfl,hl,hp,n1,n6,k⟩:=h
 refine⟨_,(ae (aQ 2 mh.nd (aF (r:=aZ K) ay (bj (aa au (aa au (aa au (aa au (aa au (aa au (aa au (aa au ak))))))))) (b6 cP hr (aa (pv 0) (aa au ak))) (λ_ _=>rfl)))
  (ae (bR (PW.pt (ja (aX (c7 (pv 2) au)) (iq (aX (j6 (b6 cP hr (aa (pv 0) (aa au ak))) au)))))
   (av (aQ 2 mh.nd au)) br)
  (ae (aQ 3 mh.nd (bj ak))
  (ae (cJ XX rfl (hV rfl O.range (aa (pv 2) ak)) (aL (i:=4) mh.nd rfl (Or.inl rfl))
   (ae (aQ 5 mh.nd (aV fq au (b6 cP hr (aa (pv 0) (aa (pv 1) ak)))))
   (ae (aQ 6 mh.nd (aV kT au (aV ft au (b6 cP hr (aa (pv 0) (aa au ak))))))
   (av (bR (PW.pt (ja (jz jc (pv 5) (pv 3) (by with_unfolding_all rfl)) (iq (jz jc (f7 eQ (pv 5)) (pv 3) (by with_unfolding_all rfl)))))
    (av (aK (cV XD XG XH bz (pv 3) (aa (aV ft (pv 6) (pv 5)) ak)))) br)))))
  (av (aY (pv 3))))))),?_⟩
 refine⟨by decide,λq hq=>?_⟩
 have qK:upd H q (.lst [.int 1,.int 2,.int 2,.int 3,.int 3,.int 3,.int 4,.int 0]) l=some (.lst xs):=by rw[ag (aq hl hq)];exact hl
 have lq:l≠q:=aq hl hq
 have k1:cH H (upd H q (.lst [.int 1,.int 2,.int 2,.int 3,.int 3,.int 3,.int 4,.int 0])) l:=cH.ix hq
 have d1:upd H q (.lst [.int 1,.int 2,.int 2,.int 3,.int 3,.int 3,.int 4,.int 0]) q=some (.lst [.int 1,.int 2,.int 2,.int 3,.int 3,.int 3,.int 4,.int 0]):=aj
 generalize upd H q (.lst [.int 1,.int 2,.int 2,.int 3,.int 3,.int 3,.int 4,.int 0])=H1 at qK k1 d1 ⊢
 refine⟨_,rfl,l,xs,8,rfl,qK,hp,by decide,by decide,λd ys H2 d0 dl py gX k2=>?_⟩
 obtain⟨z,hz,z4⟩:∃z:Nat,kF [V.int 1,.int 2,.int 2,.int 3,.int 3,.int 3,.int 4,.int 0] d=some (iV z)/\z<=4:=by
  obtain⟨e,rfl⟩:∃e:Nat,d=e:=⟨d.toNat,by omega⟩
  have:e<8:=by omega
  match e,this with
  | 0,_=>exact⟨1,rfl,by decide⟩
  | 1,_=>exact⟨2,rfl,by decide⟩
  | 2,_=>exact⟨2,rfl,by decide⟩
  | 3,_=>exact⟨3,rfl,by decide⟩
  | 4,_=>exact⟨3,rfl,by decide⟩
  | 5,_=>exact⟨3,rfl,by decide⟩
  | 6,_=>exact⟨4,rfl,by decide⟩
  | 7,_=>exact⟨0,rfl,by decide⟩
 refine⟨q,_,_,_,rfl,rfl,ax.of (k2 _ _ d1 lq.symm),hz,?_⟩
 dsimp only[ee]
 refine iX (a:=qR _ _ _) (λσ Hx=>∃(z:Nat) (ys:List V),z<=4/\σ=[some (.ref l),some (iV n),some (iV z),none,none,none,none]/\cH H Hx l/\Hx l=some (.lst ys)/\iN ys) (λt ht=>?_) ?_
 . have fin:∀{z:Nat}{ys:List V}{Hx:Hp},z<=4->cH H2 Hx l->Hx l=some (.lst ys)->iN ys->∃(z':Nat) (ys:List V),z'<=4/\[some (.ref l),some (iV n),some (iV z),none,none,none,none]=[some (.ref l),some (iV n),some (iV z'),none,none,none,none]/\cH H Hx l/\Hx l=some (.lst ys)/\iN ys:=λhz hk gk UX=>⟨_,_,hz,rfl,(k1.trans k2).trans hk,gk,UX⟩
   refine⟨_,rfl,_,_,rfl,rfl,_,rfl,?_⟩
   refine pj (λ_=>?_) (λ_=>eP (ht _ _ (fin z4 (cH.refl _ _) gX py)))
   refine⟨_,rfl,l,ys,5,rfl,gX,py,by decide,by decide,λg tm H3 g0 gl OT sR k3=>?_⟩
   refine⟨_,_,rfl,rfl,_,rfl,?_⟩
   exact pj (λ_=>ht _ _ (fin (z:=2) (by decide) k3 sR OT)) (λ_=>ht _ _ (fin z4 k3 sR OT))
 clear gX py k2 z4 hz d0 dl
 rintro Qu H0 ⟨z,ys,z4,rfl,k2,gX,py⟩
 refine⟨by decide,λD hD=>?_⟩
 have qK:upd H0 D (.lst []) l=some (.lst ys):=by rw[ag (aq gX hD)];exact gX
 have lD:l≠D:=aq gX hD
 have k1:cH H0 (upd H0 D (.lst [])) l:=cH.ix hD
 have d1:upd H0 D (.lst []) D=some (.lst []):=aj
 have hD:H D=none:=by
  cases e:H D with
  | none=>rfl
  | some u=>rw[k2 _ _ e lD.symm]at hD;cases hD
 generalize upd H0 D (.lst [])=H1 at qK k1 d1 ⊢
 refine⟨_,rfl,_,rfl,by omega,by omega,?_⟩
 refine jO (λi σ Hx=>∃(c:List Int) (ys:List V) (v4 v5 v6:Option V),σ=[some (.ref l),some (iV n),some (iV z),some (.ref D),v4,v5,v6]/\(∀b u,H b=some u->b≠l->Hx b=some u)/\Hx l=some (.lst ys)/\iN ys/\Hx D=some (.lst (c.map V.int))/\cf n c/\c.length<=i)
  ⟨[],ys,none,none,none,rfl,λb u hb nb=>k1 _ _ (k2 _ _ hb nb) nb,qK,py,d1,nU,Xv _⟩ ?_ ?_
 . clear qK py
   rintro i σ Hx hi ⟨c,ys,v4,v5,v6,rfl,fr,qL,py,iI,ok,cl⟩
   refine⟨_,rfl,_,rfl,l,ys,_,rfl,qL,py,by omega,by omega,λv JS H3 v0 vl JT sR k3=>?_⟩
   refine⟨_,_,rfl,rfl,?_⟩
   refine⟨_,rfl,l,JS,2,rfl,sR,JT,by decide,by decide,λg tm H4 g0 gl wj wk k4=>?_⟩
   refine⟨_,_,rfl,rfl,.inl ⟨by decide,by decide⟩,_,_,rfl,rfl,?_⟩
   have jY:H4 D=some (.lst (c.map V.int)):=k4 _ _ (k3 _ _ iI lD.symm) lD.symm
   have nO:∀b u,H b=some u->b≠l->H4 b=some u:=λb u hb nb=>k4 _ _ (k3 _ _ (fr b u hb nb) nb) nb
   refine⟨_,rfl,_,rfl,D,_,rfl,.inl (ax.of jY),rfl,jX c,_,rfl,?_⟩
   by_cases e1:(1+v:Int)∈c
   . refine cc (by rw[XO rfl,i5,Xw e1];rfl) (eP ?_)
     exact⟨c,tm,_,_,_,rfl,nO,wk,wj,jY,ok,by omega⟩
   refine bX (by rw[XO rfl,i5,Xz e1];rfl) ?_
   refine⟨_,rfl,_,rfl,_,rfl,D,_,rfl,.inl (ax.of jY),rfl,jX c,_,rfl,?_⟩
   by_cases e2 : -(1+v:Int)∈c
   . refine cc (by rw[XO rfl,i5,Xw e2];rfl) ?_
     exact⟨c,tm,_,_,_,rfl,nO,wk,wj,jY,ok,by omega⟩
   refine bX (by rw[XO rfl,i5,Xz e2];rfl) ?_
   refine⟨_,rfl,.inl ⟨rfl,_,ax.of jY⟩,_,rfl,_,rfl,_,_,rfl,rfl,.inl ⟨by omega,by omega⟩,D,_,_,rfl,rfl,jY,(by rw[Xl];exact XT (show c.length<=2000 by omega) (by decide)),?_⟩
   refine⟨c++[(1-2*g)*(1+v)],tm,_,_,_,rfl,λb u hb nb=>?_,by rw[ag lD];exact wk,wj,by rw[aj,Xx];rfl,Bi ok (by omega) (by omega) (by omega) e1 e2,by rw[Xs,XE];omega⟩
   rw[ag (aq hb hD)]
   exact nO b u hb nb
 . rintro σ Hx ⟨c,ys,v4,v5,v6,rfl,fr,qL,py,iI,ok,cl⟩
   exact⟨_,rfl,k _ D c ys (λb u hb nb=>fr b u hb nb) hD qL py iI ok (by omega)⟩
end
abbrev wm:Stmt:=top 22
inductive CW(K:W.Frag) (vs:List V) (H:Hp) (Q:VK):Prop
 | mk (a v m:Nat) (ns:List Int) (h1:vs=[.ref a,iV v,iV m]) (ha:ax K H a (ns.map V.int)) (v1:1<=v) (v6:v<=1000) (m6:m<=900)
  (k:∀(H':Hp) (t n ca wa:Nat) (as:List Addr) (cls:List (List Int)) (wants:List Int),aC H H'->H' t=some (.tup [iV n,.ref ca,.ref wa])->1<=n->n<=v->H' wa=some (.lst (wants.map V.int))->cf n wants->wants.length<=3->H' ca=some (.lst (as.map V.ref))->Paired (λx (c:List Int)=>H' x=some (.lst (c.map V.int))) as cls->(∀c∈cls,cf n c/\c.length<=4)->cls.length<=m->Q (.ref t) H')
def yd(K:W.Frag):Sp:=λvs H Q _=>CW K vs H Q
abbrev JV:List Str:=["_law_script", "_law_variables", "_law_most", "_law_left", "_law_many", "_law_wants_here", "_law_count", "_law_clauses"]
theorem jF:aG JV ["_law_script", "_law_variables", "_law_most"] (aB wm):=fs
theorem CY{K:W.Frag}{H H':Hp}{a:Addr}{xs:List V}(e:aC H H')(h:ax K H a xs):ax K H' a xs:=by
 rcases h with (h|⟨o,h⟩)|h
 . exact .inl (.inl (e a _ h))
 . exact .inl (.inr ⟨o,e a _ h⟩)
 . exact .inr h
theorem JW{n l m D:Nat}{te:TE}{cap:St}{H:Hp}{Q:Hp->Prop}{xs:List V}(hD:H D=none) (hl:H l=some (.lst xs)) (hp:iN xs) (hm:m<=1000)
 (he:∀(x:V) (Hx:Hp) (ys:List V) (R:VK),Hx l=some (.lst ys)->iN ys->(∀(H':Hp) (E:Addr) (c:List Int) (zs:List V),cH Hx H' l->Hx E=none->H' l=some (.lst zs)->iN zs->H' E=some (.lst (c.map V.int))->cf n c->c.length<=4->R (.ref E) H')->te (some x::cap) Hx R)
 (fin:∀(H':Hp) (as:List Addr) (cls:List (List Int)),(∀b u,H b=some u->b≠l->H' b=some u)->H' D=some (.lst (as.map V.ref))->Paired (λx (c:List Int)=>H' x=some (.lst (c.map V.int))) as cls->(∀c∈cls,cf n c/\c.length<=4)->cls.length=m->Q H') :
 ∃W:Nat->Nat->St->Hp->Prop,(∃m,W 0 m (none::cap) (upd H D (.lst [])))/\nB D (ee 0) lS te (pW 0 m) W Q:=by
 have lD:l≠D:=aq hl hD
 refine lU m (λi acc σ H9=>∃(as:List Addr) (cls:List (List Int)) (u:Option V) (ys:List V),σ=u::cap/\acc=as.map V.ref/\cls.length=i/\(∀b u,H b=some u->b≠l->H9 b=some u)/\H9 l=some (.lst ys)/\iN ys/\Paired (λx (c:List Int)=>x≠D/\x≠l/\H9 x=some (.lst (c.map V.int))) as cls/\∀c∈cls,cf n c/\c.length<=4)
  ⟨[],[],none,xs,rfl,rfl,rfl,λb u hb _=>by rw[ag (aq hb hD)];exact hb,by rw[ag lD];exact hl,hp,.nil,λ_ h=>(by cases h)⟩ aj ?_ ?_
 . rintro acc σ H9 dq ⟨as,cls,u,ys,rfl,rfl,h1,h2,h3,h4,h6,h7⟩
   exact⟨Xv _,fin H9 as cls h2 dq (Paired.bQ h6 λ_ _ z=>z.2.2) h7 h1⟩
 . rintro i acc σ H9 hi dq ⟨as,cls,u,ys,rfl,rfl,h1,h2,h3,h4,h6,h7⟩
   refine⟨hi,?_⟩
   rintro x H' ⟨rfl,rfl⟩
   refine kJ (he _ _ ys _ h3 h4 λH2 E c zs k2 nE gX pz hE ok cl=>?_)
   have ED:E≠D:=(aq dq nE).symm
   have El:E≠l:=(aq h3 nE).symm
   have al:=h6.length
   refine⟨_,k2 _ _ dq lD.symm,?_,gv hi aj ⟨as++[E],cls++[c],_,zs,rfl,?_,?_,λb u hb nb=>?_,?_,pz,?_,?_⟩⟩
   . rw[Xl]
     exact XT (show as.length<=1000 by omega) (by decide)
   . rw[Xx];rfl
   . rw[Xs,h1];rfl
   . rw[ag (aq hb hD)]
     exact k2 _ _ (h2 b u hb nb) nb
   . rw[ag lD];exact gX
   . refine Ze (Paired.bQ h6 λa b e=>⟨e.1,e.2.1,?_⟩) ⟨ED,El,?_⟩
     . rw[ag e.1];exact k2 _ _ e.2.2 e.2.1
     . rw[ag ED];exact hE
   . intro d hd
     rcases Xp.mp hd with hd|hd
     . exact h7 d hd
     . rw[Xm.mp hd];exact⟨ok,cl⟩
section
variable {P:Program}{w:World}{K:W.Frag}{mg:Str->Option Value}{base:Heap}
theorem CZ{f fN fP fW fC:Addr}{fd dN dP dW dC:FuncData}(F:aM K "_law_drawn" "_law_drawn" wm f fd)(O:Own mg) (cN:iT P w K mg base 2 fN dN "_law_number" ["_law_script", "_law_k"] (Ei K)) (cP:iT P w K mg base 1 fP dP "_law_pick" ["_law_left", "_law_many"] qo) (cW:iT P w K mg base 2 fW dW "_law_wants" ["_law_left", "_law_many", "_law_most"] Ek) (cC:iT P w K mg base 2 fC dC "_law_clause" ["_law_left", "_law_many"] Ej):aD P w K mg base aT 3 f fd ["_law_script", "_law_variables", "_law_most"] (yd K):=by
 refine F.run jF λa6 A outer s H vs Q E hr h=>?_
 obtain⟨a,v,m,ns,rfl,ha,v1,v6,m6,k⟩:=h
 have iZ:bx 1 _:=hr.mono (by decide)
 refine⟨_,(ae (aQ 3 jF.nd (bj (aa (b6 cN hr (aa (pv 0) (aa au ak))) ak)))
  (ae (aQ 4 jF.nd (aV fq au (b6 cP iZ (aa (pv 3) (aa (pv 1) ak)))))
  (ae (aQ 5 jF.nd (b6 cW hr (aa (pv 3) (aa (pv 4) (aa au ak)))))
  (ae (aQ 6 jF.nd (b6 cP iZ (aa (pv 3) (aa (aV fq (pv 2) au) ak))))
  (ae (aQ 3 jF.nd (bj (aa (b6 cN hr (aa (pv 0) (aa au ak))) ak)))
  (ae (Dx (i:=7) jF.nd rfl rfl (N:=["_law_k", "_law_left", "_law_many"]) (js:=[none,some 3,some 4]) (by kernel_rfl) rfl (hV rfl O.range (aa (pv 6) ak)) (λ_ _ _ _ _ _=>(aL (i:=0) (show (["_law_k", "_law_left", "_law_many"]:List Str).Nodup from dk) rfl (Or.inl rfl) (.inr rfl))) (λ_ _ _ _ _ _=>dj) (λ_ _ _ _ _ _=>(b6 cC hr (aa (pv 1) (aa (pv 2) ak)))))
  (av (aY (gy (aa (pv 4) (aa (pv 7) (aa (pv 5) ak)))))))))))),?_⟩
 refine⟨_,rfl,a,ns,0,rfl,ha,by decide,by decide,λx H1 s1=>⟨(show 1<=sizeLine by decide),λl hl=>?_⟩⟩
 have lH:=same_none s1 hl
 have s2:aC H (upd H1 l (.lst [.int x])):=bw s1 lH
 have l2:upd H1 l (.lst [.int x]) l=some (.lst [.int x]):=aj
 generalize upd H1 l (.lst [.int x])=H2 at s2 l2 ⊢
 refine⟨_,rfl,_,rfl,l,[.int x],v,rfl,l2,.inl ⟨x,rfl⟩,by omega,by omega,λd ys H3 d0 dl py l3 k3=>?_⟩
 obtain⟨e,rfl⟩:∃e:Nat,d=e:=⟨d.toNat,by omega⟩
 refine⟨_,_,rfl,rfl,?_⟩
 have s3:aC H H3:=λb u hb=>k3 _ _ (s2 b u hb) (aq hb lH)
 refine⟨_,rfl,_,rfl,l,1+e,3,ys,rfl,l3,py,by omega,by omega,by decide,λH4 wa wants UY k4 nw l4 UZ hw j4 wl=>?_⟩
 have s4:aC H H4:=λb u hb=>k4 _ _ (s3 b u hb) (aq hb lH)
 have U0:wa≠l:=(aq l3 nw).symm
 refine⟨_,rfl,_,rfl,_,_,rfl,rfl,l,UY,(m:Int)+1,rfl,l4,UZ,by omega,by omega,λc Xf H5 c0 cl Xg l5 k5=>?_⟩
 obtain⟨ct,rfl⟩:∃e:Nat,c=e:=⟨c.toNat,by omega⟩
 have s5:aC H H5:=λb u hb=>k5 _ _ (s4 b u hb) (aq hb lH)
 have OU:=k5 _ _ hw U0
 refine⟨_,rfl,a,ns,1,rfl,CY s5 ha,by decide,by decide,λx' H6 s6=>⟨(show 1<=sizeLine by decide),λl' gk=>?_⟩⟩
 have OV:=same_none (bg s5 s6) gk
 have s7:aC H (upd H6 l' (.lst [.int x'])):=bw (bg s5 s6) OV
 have l7:upd H6 l' (.lst [.int x']) l'=some (.lst [.int x']):=aj
 have k9:wa≠l':=aq (s6 _ _ OU) gk
 have OW:upd H6 l' (.lst [.int x']) wa=some (.lst (wants.map V.int)):=by rw[ag k9];exact s6 _ _ OU
 generalize upd H6 l' (.lst [.int x'])=H7 at s7 l7 OW ⊢
 refine⟨_,rfl,_,rfl,by omega,by omega,λD hD=>?_⟩
 rw[Yj]
 refine JW (n:=1+e) (l:=l') (cap:=[some (.ref l'),some (iV (1+e))]) hD l7 (.inl ⟨x',rfl⟩) (by omega) (λy Hx ys R qL U1 kk=>?_) (λH8 as cls fr h8 p8 U2 Xh=>?_)
 . exact⟨_,rfl,_,rfl,l',1+e,ys,rfl,qL,U1,by omega,by omega,kk⟩
 refine⟨_,rfl,_,rfl,_,rfl,(show 3<=sizeLine by decide),λt ht=>?_⟩
 have s8:aC H H8:=λb u hb=>fr b u (s7 b u hb) (aq hb OV)
 refine k _ t (1+e) D wa as cls wants (bw s8 (same_none s8 ht)) aj (by omega) (by omega) ?_ j4 wl ?_ (Paired.bQ p8 λa c e=>un e ht) U2 (by omega)
 . exact un (fr _ _ OW k9) ht
 . exact un h8 ht
end
end Gen
namespace L2
open PySem PySem.Spec PyProof.Rows Sat
theorem sj{K:W.Frag}{D a:Addr}{xs:List V}{ys:List (List V)}{te:TE}{cap:St}{Q:Hp->Prop}{H:Hp}(hl:ys.length=xs.length)
 (he:∀(i:Nat) (x:V) (y:List V) (Hx:Hp) (R:VK),xs[i]?=some x->ys[i]?=some y->aC H Hx->(∀(H':Hp) (E:Addr),aC Hx H'->Hx E=none->H' E=some (.lst y)->R (.ref E) H')->te (some x::cap) Hx R) (hD:H D=none) (ha:H a=some (.lst xs)) (hs:xs.length<=10000)
 (fin:∀(H':Hp) (es:List Addr),aC H H'->H' D=some (.lst (es.map V.ref))->Paired (λe y=>H' e=some (.lst y)) es ys->Q H'):∃W:Nat->Nat->St->Hp->Prop,(∃m,W 0 m (none::cap) (upd H D (.lst [])))/\nB D (ee 0) lS te (pV K a) W Q:=by
 have nw:∀{H9:Hp}{o:HO},aC H H9->aC H (upd H9 D o):=λs9 c o hc=>by rw[ag (aq hc hD)];exact s9 c o hc
 refine lU xs.length (λi acc σ H9=>∃(es:List Addr) (u:Option V),σ=u::cap/\acc=es.map V.ref/\aC H H9/\Paired (λe y=>e≠D/\H9 e=some (.lst y)) es (ys.take i)) ⟨[],none,rfl,rfl,nw λ_ _ h=>h,.nil⟩ aj ?_ ?_
 . rintro acc σ H9 dq ⟨es,u,rfl,rfl,s9,p9⟩
   rw[← hl,XU]at p9
   exact⟨⟨_,ax.of (s9 _ _ ha),Xv _⟩,fin H9 es s9 dq (Paired.bQ p9 λ_ _ z=>z.2)⟩
 . rintro i acc σ H9 hi dq ⟨es,u,rfl,rfl,s9,p9⟩
   have e1:xs[i]?=some xs[i]:=Xo hi
   have e2:ys[i]?=some (ys[i]'(by omega)):=Xo (by omega)
   refine⟨⟨_,_,ax.of (s9 _ _ ha),e1⟩,?_⟩
   rintro x H' ⟨rfl,w1⟩
   have z1:=w1 _ (ax.of (s9 _ _ ha))
   rw[e1]at z1
   cases z1
   have pl:=p9.length
   rw[XY]at pl
   refine kJ (he i _ _ _ _ e1 e2 s9 λH2 E s2 nE hE=>?_)
   have ED:E≠D:=(aq dq nE).symm
   refine⟨_,s2 _ _ dq,?_,gv hi aj ⟨es++[E],_,rfl,?_,nw λb u hb=>s2 _ _ (s9 b u hb),?_⟩⟩
   . rw[Xl]
     exact XT (show es.length<=10000 by omega) (by decide)
   . rw[Xx];rfl
   . rw[Yg,e2,YW]
     refine Ze (Paired.bQ p9 λa b e=>⟨e.1,?_⟩) ⟨ED,?_⟩
     . rw[ag e.1];exact s2 _ _ e.2
     . rw[ag ED];exact hE
def jx:Nat->List (List Bool)
 | 0=>[[]]
 | k+1=>(jx k).map (· ++ [false])++(jx k).map (· ++ [true])
theorem yg:∀n,(jx n).length=2 ^ n
 | 0=>rfl
 | n+1=>by
  show ((jx n).map _++(jx n).map _).length=_
  rw[Xs,Xl,Xl,yg n,Nat.pow_succ]
  omega
theorem lJ:∀{n:Nat}{cs:List Bool},cs∈jx n ↔ cs.length=n
 | 0,cs=>by
  show cs∈[[]] ↔ _
  rw[Xm]
  exact⟨λh=>by rw[h];rfl,ZF⟩
 | n+1,cs=>by
  show cs∈(jx n).map _++(jx n).map _ ↔ _
  rw[Xp,XJ,XJ]
  constructor
  . rintro (⟨a,ha,rfl⟩|⟨a,ha,rfl⟩) <;> rw[Xs,lJ.mp ha] <;> rfl
  . intro h
    have ne:cs≠[]:=λz=>by rw[z]at h;cases h
    have e:=ZJ ne
    have dl:cs.dropLast∈jx n:=lJ.mpr (by rw[aaw,h];rfl)
    cases g:cs.getLast ne with
    | false=>rw[g]at e;exact .inl ⟨_,dl,e⟩
    | true=>rw[g]at e;exact .inr ⟨_,dl,e⟩
abbrev bI(b:Bool):V:=.int (if b=true then 1 else 0)
def ltB(cs:List Bool)(l:Int):Bool:=cs.getD (l.natAbs-1) false == decide (0<l)
def qM(cs:List Bool)(c:List Int):Bool:=c.any (ltB cs)
def Em(cs:List Bool)(v:Nat):Bool:=cs.getD (v-1) false
theorem oA{cs:List Bool}{c:List Int} : qM cs c=true ↔ ∃l∈c,tv (Em cs) l:=by
 unfold qM
 rw[Yw]
 refine exists_congr λl=>and_congr_right λ_=>?_
 unfold ltB tv Em
 rw[ZL]
def wo(cs:List Bool) (cls:List (List Int)) (wants:List Int):Bool:=(cls++wants.map λx=>[x]).all (qM cs)
theorem yh{cs:List Bool}{cls:List (List Int)}{wants:List Int} : wo cs cls wants=true ↔ iR (Em cs) cls wants:=by
 unfold wo iR
 rw[ZE]
 constructor
 . refine λh=>⟨λc hc=>oA.mp (h c (XF _ hc)),λl hl=>?_⟩
   obtain⟨x,hx,ht⟩:=oA.mp (h [l] (Xu _ (XJ.mpr ⟨l,hl,rfl⟩)))
   rw[← Xm.mp hx]
   exact ht
 . intro h c hc
   rcases Xp.mp hc with hc|hc
   . exact oA.mpr (h.1 c hc)
   . obtain⟨l,hl,rfl⟩:=XJ.mp hc
     exact oA.mpr ⟨l,Xm.mpr rfl,h.2 l hl⟩
theorem yV{b b':Nat->Bool}{n:Nat}{cls:List (List Int)}{wants:List Int}(h:∀v,1<=v->v<=n->b v=b' v) (ok:∀c∈cls,cf n c) (j4:cf n wants) (s:iR b cls wants):iR b' cls wants:=by
 have key:∀{c:List Int},cf n c->∀l∈c,tv b l->tv b' l:=λhc l hl ht=>by
  have:=hc.ok l hl
  unfold tv at ht ⊢
  rw[← h l.natAbs (by omega) this.2]
  exact ht
 refine⟨λc hc=>?_,λl hl=>key j4 l hl (s.2 l hl)⟩
 obtain⟨l,hl,ht⟩:=s.1 c hc
 exact⟨l,hl,key (ok c hc) l hl ht⟩
theorem FG{n:Nat}{cls:List (List Int)}{wants:List Int}(ok:∀c∈cls,cf n c) (j4:cf n wants):((jx n).any λcs=>wo cs cls wants)=true ↔ ∃b,iR b cls wants:=by
 rw[Yw]
 constructor
 . rintro⟨cs,_,h⟩
   exact⟨_,yh.mp h⟩
 . rintro⟨b,h⟩
   refine⟨(List.range n).map λi=>b (i+1),lJ.mpr (by rw[Xl,Z1]),yh.mpr (yV (λv h1 h2=>?_) ok j4 h)⟩
   unfold Em
   rw[Ys,Xt,aaE (by omega)]
   show b v=b (v-1+1)
   rw[Nat.sub_add_cancel h1]
end L2
namespace Gen
open PySem L2 Sat
abbrev wq:Stmt:=top 23
abbrev yW:Stmt:=top 24
abbrev yX:Stmt:=top 25
abbrev C0:Stmt:=top 26
abbrev jG(H:Hp)(x:Addr)(c:List Int):Prop:=H x=some (.lst (c.map V.int))
abbrev pN(H:Hp)(x:Addr)(c:List Bool):Prop:=H x=some (.lst (c.map bI))
inductive C1(vs:List V) (H:Hp) (Q:VK):Prop
 | mk (d x:Addr) (cs:List Bool) (c:List Int) (h1:vs=[.ref d,.ref x]) (hd:pN H d cs) (hx:jG H x c) (ok:cf cs.length c) (cl:c.length<=1000) (k:∀H':Hp,aC H H'->Q (.bl (qM cs c)) H')
def yi:Sp:=λvs H Q _=>C1 vs H Q
inductive FH(vs:List V) (H:Hp) (Q:VK):Prop
 | mk (d ca wa:Addr) (cs:List Bool) (as:List Addr) (cls:List (List Int)) (wants:List Int) (h1:vs=[.ref d,.ref ca,.ref wa]) (hd:pN H d cs) (oW:H ca=some (.lst (as.map V.ref))) (hp:Paired (jG H) as cls) (hw:jG H wa wants) (ok:∀c∈cls,cf cs.length c/\c.length<=4) (j4:cf cs.length wants) (cl:cls.length<=1000) (wl:wants.length<=1000) (k:∀H':Hp,aC H H'->Q (.bl (wo cs cls wants)) H')
def Bj:Sp:=λvs H Q _=>FH vs H Q
inductive FI(vs:List V) (H:Hp) (Q:VK):Prop
 | mk (n:Nat) (h1:vs=[iV n]) (hn:n<=10) (k:∀(H':Hp) (D:Addr) (ds:List Addr),aC H H'->H' D=some (.lst (ds.map V.ref))->Paired (pN H') ds (jx n)->Q (.ref D) H')
def Bl:Sp:=λvs H Q _=>FI vs H Q
inductive Bm(vs:List V) (H:Hp) (Q:VK):Prop
 | mk (n:Nat) (ca wa:Addr) (as:List Addr) (cls:List (List Int)) (wants:List Int) (h1:vs=[iV n,.ref ca,.ref wa]) (hn:n<=10) (oW:H ca=some (.lst (as.map V.ref))) (hp:Paired (jG H) as cls) (hw:jG H wa wants) (ok:∀c∈cls,cf n c/\c.length<=4) (j4:cf n wants) (cl:cls.length<=1000) (wl:wants.length<=1000)
  (k:∀(H':Hp) (s:Str),aC H H'->((s = "yes" /\ ∃b,iR b cls wants)\/(s = "no" /\ ∀b,¬ iR b cls wants))->Q (.str s) H')
def En:Sp:=λvs H Q _=>Bm vs H Q
theorem FJ:aG ["_law_choice", "_law_clause_here"] ["_law_choice", "_law_clause_here"] (aB wq):=fs
abbrev M5:List Str:=["_law_choice", "_law_clauses", "_law_wants_here", "_law_clause_here"]
theorem Bn:aG M5 ["_law_choice", "_law_clauses", "_law_wants_here"] (aB yW):=fs
abbrev M6:List Str:=["_law_many", "_law_found", "_law_k"]
theorem qN:aG M6 ["_law_many"] (aB yX):=fs
abbrev Q4:List Str:=["_law_many", "_law_clauses", "_law_wants_here", "_law_choice"]
theorem Eo:aG Q4 ["_law_many", "_law_clauses", "_law_wants_here"] (aB C0):=fs
theorem FK{cs:List Bool}{l:Int} : decide ((if cs.getD (l.natAbs-1) false=true then (1:Int) else 0)=if decide (0<l)=true then 1 else 0)=ltB cs l:=by
 unfold ltB
 by_cases h:0<l
 . rw[Xw h]
   cases cs.getD (l.natAbs-1) false <;> rfl
 . rw[Xz h]
   cases cs.getD (l.natAbs-1) false <;> rfl
theorem qO{α β:Type}{F:α->β->Prop}{l₁ l₂:List α}{m₁ m₂:List β}(h:Paired F l₁ m₁)(k:Paired F l₂ m₂):Paired F (l₁++l₂) (m₁++m₂):=by
 induction h with
 | nil=>exact k
 | cons a _ ih=>exact .cons a ih
theorem qP{H:Hp}{ts:List Addr}{cs:List (List Int)}(h:Paired (λe y=>H e=some (.lst y)) ts (cs.map λc=>c.map V.int)):Paired (jG H) ts cs:=by
 induction cs generalizing ts with
 | nil=>cases h;exact .nil
 | cons c cs ih=>cases h with|cons a t=>exact .cons a (ih t)
theorem wI{H:Hp}{ts:List Addr}{cs:List (List Bool)}(h:Paired (λe y=>H e=some (.lst y)) ts (cs.map λc=>c.map bI)):Paired (pN H) ts cs:=by
 induction cs generalizing ts with
 | nil=>cases h;exact .nil
 | cons c cs ih=>cases h with|cons a t=>exact .cons a (ih t)
section
variable {P:Program}{w:World}{K:W.Frag}{mg:Str->Option Value}{base:Heap}
theorem C2{f:Addr}{fd:FuncData}(F:aM K "_law_keeps" "_law_keeps" wq f fd)(hA:mg "abs" = none)(hI:mg "int" = none)(JX:mg "any" = none):aD P w K mg base aT 1 f fd ["_law_choice", "_law_clause_here"] yi:=by
 refine F.run FJ λa6 A outer s H vs Q E hr h=>?_
 obtain⟨d,x,cs,c,rfl,hd,hx,ok,cl,k⟩:=h
 refine⟨_,(av (aY (aJ (rR rfl) (by rfl) JX PyProof.Rows.boot_any (aa (gu (N:=["_law_number_here", "_law_choice"]) (js:=[none,some 0]) (by kernel_rfl) rfl (b7 (pv 1)) (λ_ _ _ _ _ _=>(aL (i:=0) (show (["_law_number_here", "_law_choice"]:List Str).Nodup from dk) rfl (Or.inl rfl) (.inr rfl))) (λ_ _ _ _ _ _=>dj) (λ_ _ _ _ _ _=>(pT (c7 (aF (r:=aZ K) ay (pv 1) (aV kT (aJ c6 (by rfl) hA X4 (aa (pv 0) ak)) au) (λ_ _=>rfl)) (eC su (by rfl) hI aat (aa (pT (j6 (pv 0) au)) ak)))))) ak)))),?_⟩
 refine⟨_,rfl,x,rfl,⟨_,ax.of hx⟩,λD hD=>?_⟩
 refine lA (xs:=c.map V.int) (ys:=(c.map (ltB cs)).map V.bl) (cap:=[some (.ref d)]) (by simp) (λi xv y Hx R' aU lK sx hR=>?_) hD hx (by rw[Xl];exact XS cl (by decide)) (λH3 sm ku=>?_)
 . obtain⟨l,hl,rfl,rfl⟩:∃l,c[i]?=some l/\xv=.int l/\y=.bl (ltB cs l):=by
    rw[Xt]at aU
    rw[Xt,Xt]at lK
    cases e:c[i]? with
    | none=>rw[e]at aU;cases aU
    | some l=>
     rw[e]at aU lK
     exact⟨l,rfl,(Xq aU).symm,(Xq lK).symm⟩
   have lo:=ok.ok l (Xn hl)
   refine⟨_,rfl,_,rfl,l,rfl,?_⟩
   rw[dv]
   have xE:kF (cs.map bI) ((l.natAbs:Int)-1)=some (bI (cs.getD (l.natAbs-1) false)):=by
    rw[show (l.natAbs:Int)-1=((l.natAbs-1:Nat):Int) by omega]
    refine bt ?_
    rw[Xt,Ys,Xo (by omega)]
    rfl
   refine⟨_,_,rfl,rfl,d,_,_,_,rfl,rfl,ax.of (sx _ _ hd),xE,_,rfl,_,_,rfl,rfl,.inr ⟨_,rfl,_,_,rfl,rfl,?_⟩⟩
   show R' (.bl (decide ((if cs.getD (l.natAbs-1) false=true then (1:Int) else 0)=if decide (0<l)=true then 1 else 0))) Hx
   rw[FK]
   exact hR
 . refine⟨D,c.map (ltB cs),rfl,ax.of ku,?_⟩
   rw[List.any_map]
   exact k _ sm
theorem FL{f fK:Addr}{fd dK:FuncData}(F:aM K "_law_keeps_all" "_law_keeps_all" yW f fd)(cK:iT P w K mg base 1 fK dK "_law_keeps" ["_law_choice", "_law_clause_here"] yi):aD P w K mg base aT 2 f fd ["_law_choice", "_law_clauses", "_law_wants_here"] Bj:=by
 refine F.run Bn λa6 A outer s H vs Q E hr h=>?_
 obtain⟨d,ca,wa,cs,as,cls,wants,rfl,hd,oW,hp,hw,ok,j4,cl,wl,k⟩:=h
 refine⟨_,(ae (cJ XX rfl (b7 (aV hX (pv 1) (gu (N:=["_law_want"]) (js:=[none]) (by kernel_rfl) rfl (b7 (pv 2)) (λ_ _ _ _ _ _=>(aL (i:=0) (show (["_law_want"]:List Str).Nodup from dk) rfl (Or.inl rfl) (.inr rfl))) (λ_ _ _ _ _ _=>dj) (λ_ _ _ _ _ _=>(bj (aa (pv 0) ak)))))) (aL (i:=3) Bn.nd rfl (Or.inl rfl))
  (av (bR (zb (i9 (b6 cK hr (aa (pv 0) (aa (pv 3) ak)))))
   (av (aY fo)) br)))
  (av (aY fo))),?_⟩
 refine⟨_,rfl,_,rfl,wa,rfl,⟨_,ax.of hw⟩,λD hD=>?_⟩
 refine sj (xs:=wants.map V.int) (ys:=(wants.map λx=>[x]).map λc=>c.map V.int) (cap:=[]) (by simp) (λi xv y Hx R' aU lK sx hR=>?_) hD hw (by rw[Xl];omega) (λH3 es sm ku p3=>?_)
 . obtain⟨l,hl,rfl,rfl⟩:∃l,wants[i]?=some l/\xv=.int l/\y=[.int l]:=by
    rw[Xt]at aU
    rw[Xt,Xt]at lK
    cases e:wants[i]? with
    | none=>rw[e]at aU;cases aU
    | some l=>
     rw[e]at aU lK
     exact⟨l,rfl,(Xq aU).symm,(Xq lK).symm⟩
   exact⟨_,rfl,(show 1<=sizeLine by decide),λp hp=>hR _ p (aC.ix hp) hp aj⟩
 have el:=p3.length
 rw[Xl,Xl]at el
 have al:=hp.length
 refine⟨ca,D,_,_,rfl,rfl,sm _ _ oW,ku,?_,λq hq=>?_⟩
 . rw[Xl,Xl]
   exact XS (show as.length+es.length<=2000 by omega) (by decide)
 rw[← Xx]
 have s4:aC H (upd H3 q (.lst ((as++es).map V.ref))):=bw sm (same_none sm hq)
 have q4:upd H3 q (.lst ((as++es).map V.ref)) q=some (.lst ((as++es).map V.ref)):=aj
 have pp:Paired (jG (upd H3 q (.lst ((as++es).map V.ref)))) (as++es) (cls++wants.map λx=>[x]):=by
  refine qO (Paired.bQ hp λa c e=>s4 _ _ e) ?_
  exact qP (Paired.bQ p3 λa c e=>by
   show upd _ _ _ a=_
   rw[ag (aq e hq)];exact e)
 generalize upd H3 q (.lst ((as++es).map V.ref))=H4 at s4 q4 pp ⊢
 have OX:∀c∈cls++wants.map (λx=>[x]),cf cs.length c/\c.length<=4:=λc hc=>by
  rcases Xp.mp hc with hc|hc
  . exact ok c hc
  . obtain⟨x,hx,rfl⟩:=XJ.mp hc
    exact⟨⟨λl hl=>by rw[Xm.mp hl];exact j4.ok x hx,X6.mpr ⟨Yf,Yb⟩⟩,(show 1<=4 by decide)⟩
 have ek:wo cs cls wants=(cls++wants.map λx=>[x]).all (qM cs):=rfl
 rw[ek]at k
 generalize cls++wants.map (λx=>[x])=cA at pp OX k
 generalize as++es=aA at q4 pp
 have pl:=pp.length
 refine⟨q,rfl,⟨_,ax.of q4⟩,?_⟩
 refine dh (xs:=aA.map V.ref) (λi σ Hx=>∃v3:Option V,σ=[some (.ref d),some (.ref ca),some (.ref wa),v3]/\aC H4 Hx/\(cA.take i).all (qM cs)=true) ⟨none,rfl,λ_ _ h=>h,rfl⟩ ?_ ?_ ?_
 . rintro i σ Hx hi ⟨v3,rfl,sx,_⟩
   exact ax.of (sx _ _ q4)
 . rintro i xv σ Hx aU ⟨v3,rfl,sx,ha⟩
   obtain⟨a,jW,rfl⟩:∃a,aA[i]?=some a/\xv=.ref a:=by
    rw[Xt]at aU
    cases e:aA[i]? with
    | none=>rw[e]at aU;cases aU
    | some j=>rw[e]at aU;exact⟨j,rfl,(Xq aU).symm⟩
   have il:=aO jW
   obtain⟨c,hc⟩:∃c,cA[i]?=some c:=⟨_,Xo (by omega)⟩
   obtain⟨a',e1,e2⟩:=gn pp hc
   rw[jW]at e1
   cases e1
   obtain⟨Ay,Oa⟩:=OX c (Xn hc)
   refine⟨_,rfl,_,rfl,d,a,cs,c,rfl,sx _ _ (s4 _ _ hd),sx _ _ e2,Ay,by omega,λH5 s5=>?_⟩
   refine⟨_,rfl,?_⟩
   cases hk:qM cs c with
   | false=>
    refine iE ?_
    have:cA.all (qM cs)=false:=by
     rw[List.all_eq_false]
     exact⟨c,Xn hc,by rw[hk];decide⟩
    rw[this]at k
    exact k _ (bg s4 (bg sx s5))
   | true=>
    refine eP ⟨_,rfl,bg sx s5,?_⟩
    rw[Yg,hc,YW,List.all_append,ha]
    show ([c].all (qM cs))=true
    rw[aaL,hk]
    rfl
 . rintro σ Hx ⟨v3,rfl,sx,ha⟩
   rw[Xl,pl,XU]at ha
   rw[ha]at k
   exact k _ (bg s4 sx)
theorem FN{f:Addr}{fd:FuncData}(F:aM K "_law_all_choices" "_law_all_choices" yX f fd)(O:Own mg):aD P w K mg base aT 1 f fd ["_law_many"] Bl:=by
 refine F.run qN λa6 A outer s H vs Q E hr h=>?_
 obtain⟨n,rfl,hn,k⟩:=h
 refine⟨_,(ae (aQ 1 qN.nd (bj (aa (bj ak) ak)))
  (ae (cJ XX rfl (hV rfl O.range (aa (pv 0) ak)) (aL (i:=2) qN.nd rfl (Or.inl rfl))
   (av (aQ 1 qN.nd (aV hX (gu (N:=["_law_one"]) (js:=[none]) (by kernel_rfl) rfl (b7 (pv 1)) (λ_ _ _ _ _ _=>(aL (i:=0) (show (["_law_one"]:List Str).Nodup from dk) rfl (Or.inl rfl) (.inr rfl))) (λ_ _ _ _ _ _=>dj) (λ_ _ _ _ _ _=>(aV hX (pv 0) (bj (aa au ak))))) (gu (N:=["_law_one"]) (js:=[none]) (by kernel_rfl) rfl (b7 (pv 1)) (λ_ _ _ _ _ _=>(aL (i:=0) (show (["_law_one"]:List Str).Nodup from dk) rfl (Or.inl rfl) (.inr rfl))) (λ_ _ _ _ _ _=>dj) (λ_ _ _ _ _ _=>(aV hX (pv 0) (bj (aa au ak)))))))))
  (av (aY (pv 1))))),?_⟩
 refine⟨by decide,λd0 h0=>⟨(show 1<=sizeLine by decide),λD hD=>?_⟩⟩
 have s2:aC H (upd (upd H d0 (.lst [])) D (.lst [.ref d0])):=by
  have s1:aC H (upd H d0 (.lst [])):=aC.ix h0
  exact bw s1 (same_none s1 hD)
 have p2:Paired (pN (upd (upd H d0 (.lst [])) D (.lst [.ref d0]))) [d0] (jx 0):=.cons (un aj hD) .nil
 have D2:upd (upd H d0 (.lst [])) D (.lst [.ref d0]) D=some (.lst ([d0].map V.ref)):=aj
 generalize upd (upd H d0 (.lst [])) D (.lst [.ref d0])=H2 at s2 p2 D2 ⊢
 refine⟨_,rfl,_,rfl,by omega,by omega,?_⟩
 rw[Yj]
 refine jO (λi σ Hx=>∃(D:Addr) (ds:List Addr) (v2:Option V),σ=[some (iV n),some (.ref D),v2]/\aC H Hx/\Hx D=some (.lst (ds.map V.ref))/\Paired (pN Hx) ds (jx i)) ⟨D,[d0],none,rfl,s2,D2,p2⟩ ?_ ?_
 . clear s2 p2 D2
   rintro i σ Hx hi ⟨D,ds,v2,rfl,sx,iI,px⟩
   have al:=yg i
   have dl:=px.length
   have cZ:2 ^ i<=2 ^ 10:=ZH (by decide) (by omega)
   refine⟨_,rfl,D,rfl,⟨_,ax.of iI⟩,λD1 JY=>?_⟩
   have step:∀(b:Bool) (v:Int) (Hy:Hp) (D1:Addr) (Q':Hp->Prop),bI b=.int v->aC Hx Hy->Hy D1=none->(∀(H':Hp) (es:List Addr),aC Hy H'->H' D1=some (.lst (es.map V.ref))->Paired (pN H') es ((jx i).map (· ++ [b]))->Q' H')->∃W:Nat->Nat->St->Hp->Prop,(∃m,W 0 m [none] (upd Hy D1 (.lst [])))/\nB D1 (ee 0) lS (oF Gx (eU 0) (Bz (n0 (tC (.int v)) lO))) (pV K D) W Q':=λb v Hy D1 Q' hv sy JY fin=>by
    refine sj (xs:=ds.map V.ref) (ys:=((jx i).map (· ++ [b])).map λc=>c.map bI) (cap:=[]) (by simp;omega) (λj xv y Hz R' aU lK sz hR=>?_) JY (sy _ _ iI) (by rw[Xl];omega) (λH3 es sm ku p3=>fin H3 es sm ku (wI p3))
    obtain⟨a,jW,rfl⟩:∃a,ds[j]?=some a/\xv=.ref a:=by
     rw[Xt]at aU
     cases e:ds[j]? with
     | none=>rw[e]at aU;cases aU
     | some j=>rw[e]at aU;exact⟨j,rfl,(Xq aU).symm⟩
    have jl:=aO jW
    obtain⟨c,hc⟩:∃c,(jx i)[j]?=some c:=⟨_,Xo (by omega)⟩
    obtain⟨a',e1,e2⟩:=gn px hc
    rw[jW]at e1
    cases e1
    rw[Xt,Xt,hc]at lK
    cases Xq lK
    have cl:c.length=i:=lJ.mp (Xn hc)
    have az:=sz _ _ (sy _ _ e2)
    refine⟨_,rfl,(show 1<=sizeLine by decide),λp hp=>?_⟩
    refine⟨a,p,_,_,rfl,rfl,un az hp,aj,?_,λq hq=>?_⟩
    . rw[Xl]
      exact XS (show c.length+1<=100 by omega) (by decide)
    have s1:aC Hz (upd Hz p (.lst [.int v])):=aC.ix hp
    refine hR _ q (bw s1 (same_none s1 hq)) (same_none s1 hq) ?_
    show _=some (HO.lst ((c++[b]).map bI))
    rw[aj,Xx,← hv]
    rfl
   refine step false 0 Hx D1 _ rfl (λ_ _ h=>h) JY λH3 es s3 ku p3=>?_
   refine⟨_,rfl,D,rfl,⟨_,ax.of (s3 _ _ iI)⟩,λD2 oT=>?_⟩
   refine step true 1 H3 D2 _ rfl s3 oT λH4 jZ s4 jY p4=>?_
   have e3:=p3.length
   have e4:=p4.length
   rw[Xl]at e3 e4
   refine⟨D1,D2,_,_,rfl,rfl,s4 _ _ ku,jY,?_,λq hq=>?_⟩
   . rw[Xl,Xl]
     exact XS (show es.length+jZ.length<=5000 by omega) (by decide)
   rw[← Xx]
   have s5:aC H H4:=bg (bg sx s3) s4
   refine⟨q,es++jZ,_,rfl,bw s5 (same_none s5 hq),aj,?_⟩
   refine qO (Paired.bQ p3 λa c e=>?_) (Paired.bQ p4 λa c e=>un e hq)
   exact un (s4 _ _ e) hq
 . rintro σ Hx ⟨D,ds,v2,rfl,sx,iI,px⟩
   exact⟨_,rfl,k _ D ds sx iI px⟩
theorem JZ{f fA fK:Addr}{fd dA dK:FuncData}(F:aM K "_law_any" "_law_any" C0 f fd)(cA:iT P w K mg base 1 fA dA "_law_all_choices" ["_law_many"] Bl)(cK:iT P w K mg base 2 fK dK "_law_keeps_all" ["_law_choice", "_law_clauses", "_law_wants_here"] Bj):aD P w K mg base aT 3 f fd ["_law_many", "_law_clauses", "_law_wants_here"] En:=by
 refine F.run Eo λa6 A outer s H vs Q E hr h=>?_
 obtain⟨n,ca,wa,as,cls,wants,rfl,hn,oW,hp,hw,ok,j4,cl,wl,k⟩:=h
 have iZ:bx 1 _:=hr.mono (by decide)
 refine⟨_,(ae (cJ XX rfl (b7 (b6 cA iZ (aa (pv 0) ak))) (aL (i:=3) Eo.nd rfl (Or.inl rfl))
  (av (bR (i9 (b6 cK hr (aa (pv 3) (aa (pv 1) (aa (pv 2) ak)))))
   (av (aY pQ)) br)))
  (av (aY pQ))),?_⟩
 refine⟨_,rfl,n,rfl,hn,λH1 D ds s1 hD pd=>?_⟩
 have ai:=FG (n:=n) (cls:=cls) (wants:=wants) (λc hc=>(ok c hc).1) j4
 have dl:=pd.length
 refine⟨D,rfl,⟨_,ax.of hD⟩,?_⟩
 refine dh (xs:=ds.map V.ref) (λi σ Hx=>∃v3:Option V,σ=[some (iV n),some (.ref ca),some (.ref wa),v3]/\aC H1 Hx/\((jx n).take i).any (λcs=>wo cs cls wants)=false) ⟨none,rfl,λ_ _ h=>h,rfl⟩ ?_ ?_ ?_
 . rintro i σ Hx hi ⟨v3,rfl,sx,_⟩
   exact ax.of (sx _ _ hD)
 . rintro i xv σ Hx aU ⟨v3,rfl,sx,ha⟩
   obtain⟨a,jW,rfl⟩:∃a,ds[i]?=some a/\xv=.ref a:=by
    rw[Xt]at aU
    cases e:ds[i]? with
    | none=>rw[e]at aU;cases aU
    | some j=>rw[e]at aU;exact⟨j,rfl,(Xq aU).symm⟩
   have il:=aO jW
   obtain⟨c,hc⟩:∃c,(jx n)[i]?=some c:=⟨_,Xo (by omega)⟩
   obtain⟨a',e1,e2⟩:=gn pd hc
   rw[jW]at e1
   cases e1
   have AN:c.length=n:=lJ.mp (Xn hc)
   have s2:aC H Hx:=bg s1 sx
   refine⟨_,rfl,_,rfl,_,rfl,a,ca,wa,c,as,cls,wants,rfl,sx _ _ e2,s2 _ _ oW,Paired.bQ hp λa c e=>s2 _ _ e,s2 _ _ hw,by rw[AN];exact ok,by rw[AN];exact j4,cl,wl,λH5 s5=>?_⟩
   refine⟨_,rfl,?_⟩
   cases hk:wo c cls wants with
   | true=>
    refine iE ?_
    refine k _ "yes" (bg s2 s5) (.inl ⟨rfl,ai.mp ?_⟩)
    exact Yw.mpr ⟨c,Xn hc,hk⟩
   | false=>
    refine eP ⟨_,rfl,bg sx s5,?_⟩
    rw[Yg,hc,YW,List.any_append,ha,Zg,hk]
    rfl
 . rintro σ Hx ⟨v3,rfl,sx,ha⟩
   rw[Xl,dl,XU]at ha
   refine k _ "no" (bg s1 sx) (.inr ⟨rfl,λb hb=>?_⟩)
   rw[ai.mpr ⟨b,hb⟩]at ha
   cases ha
end
abbrev C3:Stmt:=top 27
def tR(K:W.Frag):Sp:=λvs H Q _=>∃(a:Addr) (ns:List Int),vs=[.ref a]/\ax K H a (ns.map V.int)/\∀H',Q (.bl true) H'
abbrev Q5:List Str:=["_law_script", "_law_many", "_law_clauses", "_law_wants_here"]
theorem tS:aG Q5 ["_law_script"] (aB C3):=fs
theorem Bo{n:Nat}{c:List Int}(h:cf n c):uX n c:=⟨h.ok,h.nd⟩
abbrev wt(K:W.Frag):TE:=Dp (λxs H Q=>∃p ys,xs=[V.ref p]/\(ax K H p ys\/jr K H p ys)/\∀l:Addr,H l=none->Q (V.ref l) (upd H l (.lst ys))) (n0 (eU 0) lO)
section
variable {P:Program}{w:World}{K:W.Frag}{mg:Str->Option Value}{base:Heap}
theorem J0{f fD fS fA:Addr}{fd dD dS dA:FuncData}(F:aM K "law" "law" C3 f fd)(O:Own mg) (cD:iT P w K mg base 3 fD dD "_law_drawn" ["_law_script", "_law_variables", "_law_most"] (yd K)) (cS:iT P w K mg base 8 fS dS "solved" ["many", "clauses", "wants"] wb) (cA:iT P w K mg base 3 fA dA "_law_any" ["_law_many", "_law_clauses", "_law_wants_here"] En):aD P w K mg base aT 9 f fd ["_law_script"] (tR K):=by
 refine F.run tS (λa6 A outer s H vs Q E hr h=>?_) (λvs H Q E h=>by obtain⟨a,ns,rfl,_⟩:=h;rfl)
 obtain⟨a,ns,rfl,ha,k⟩:=h
 have vH:bx 3 _:=hr.mono (by decide)
 refine⟨_,(ae (cY (b6 cD vH (aa (pv 0) (aa au (aa au ak)))) (pU rfl (gq (aL (i:=1) tS.nd rfl (Or.inl rfl)) (gq (aL (i:=2) tS.nd rfl (Or.inl rfl)) (gq (aL (i:=3) tS.nd rfl (Or.inl rfl)) nY)))))
  (ae (bR (jz Mn (aF (r:=yt K) um (b6 cS hr (aa (pv 1) (aa (gu (N:=["_law_clause_here"]) (js:=[none]) (te:=wt K) (by kernel_rfl) rfl (b7 (pv 2)) (λ_ _ _ _ _ _=>(aL (i:=0) (show (["_law_clause_here"]:List Str).Nodup from dk) rfl (Or.inl rfl) (.inr rfl))) (λ_ _ _ _ _ _=>dj) (λ_ _ _ _ _ _=>(eC jd (by rfl) O.list YR (aa (pv 0) ak)))) (aa (eC jd (by rfl) O.list YR (aa (pv 3) ak)) ak)))) au (λ_ _=>rfl)) (b6 cA vH (aa (pv 1) (aa (pv 2) (aa (pv 3) ak)))) (pX _))
   (av (aY fo)) br)
  (av (aY (Es Mm (aF (r:=yt K) um (b6 cS hr (aa (pv 1) (aa (gu (N:=["_law_clause_here"]) (js:=[none]) (te:=wt K) (by kernel_rfl) rfl (b7 (pv 2)) (λ_ _ _ _ _ _=>(aL (i:=0) (show (["_law_clause_here"]:List Str).Nodup from dk) rfl (Or.inl rfl) (.inr rfl))) (λ_ _ _ _ _ _=>dj) (λ_ _ _ _ _ _=>(eC jd (by rfl) O.list YR (aa (pv 0) ak)))) (aa (bj ak) ak)))) au (λ_ _=>rfl)) (b6 cA vH (aa (pv 1) (aa (pv 2) (aa (bj ak) ak)))) (pX _)))))),?_⟩
 refine⟨_,rfl,a,6,30,ns,rfl,ha,by decide,by decide,by decide,λH1 t n ca wa as cls wants s1 ht n1 n6 hw j4 wl oW pc J1 cl=>?_⟩
 refine⟨t,_,rfl,jr.of ht,rfl,_,_,rfl,_,_,rfl,_,_,rfl,rfl,?_⟩
 have al:=pc.length
 have copy:∀(Hx:Hp) (D:Addr) (Q':Hp->Prop),aC H1 Hx->Hx D=none->(∀(H':Hp) (es:List Addr),aC Hx H'->H' D=some (.lst (es.map V.ref))->Paired (jG H') es cls->Q' H')->∃W:Nat->Nat->St->Hp->Prop,(∃m,W 0 m [none] (upd Hx D (.lst [])))/\nB D (ee 0) lS (wt K) (pV K ca) W Q':=λHx D Q' sx hD fin=>by
  refine sj (xs:=as.map V.ref) (ys:=cls.map λc=>c.map V.int) (cap:=[]) (by simp;omega) (λj xv y Hz R' aU lK sz hR=>?_) hD (sx _ _ oW) (by rw[Xl];omega) (λH3 es sm ku p3=>fin H3 es sm ku (qP p3))
  obtain⟨e,he,rfl⟩:∃a,as[j]?=some a/\xv=.ref a:=by
   rw[Xt]at aU
   cases e:as[j]? with
   | none=>rw[e]at aU;cases aU
   | some j=>rw[e]at aU;exact⟨j,rfl,(Xq aU).symm⟩
  have jl:=aO he
  obtain⟨c,hc⟩:∃c,cls[j]?=some c:=⟨_,Xo (by omega)⟩
  obtain⟨a',e1,e2⟩:=gn pc hc
  rw[he]at e1
  cases e1
  rw[Xt,hc]at lK
  cases Xq lK
  exact⟨_,rfl,e,_,rfl,.inl (ax.of (sz _ _ (sx _ _ e2))),λp hp=>hR _ p (aC.ix hp) hp aj⟩
 have qQ:∀{Hx:Hp}{w:Addr}{ws:List Int}{Q':VK},aC H1 Hx->jG Hx w ws->cf n ws->ws.length<=3->(∀(H':Hp) (s:Str),aC Hx H'->((s = "yes" /\ ∃b,iR b cls ws)\/(s = "no" /\ ∀b,¬ iR b cls ws))->Q' (.str s) H')->Bm [iV n,.ref ca,.ref w] Hx Q':=λ{Hx w ws Q'} sx U3 Q6 Xi kk=>⟨n,ca,w,as,cls,ws,rfl,by omega,sx _ _ oW,Paired.bQ pc λa c e=>sx _ _ e,U3,J1,Q6,by omega,by omega,kk⟩
 dsimp only[F3,Di,F2,ee]
 refine iX (a:=qR _ _ _) (λσ Hx=>σ=[some (.ref a),some (iV n),some (.ref ca),some (.ref wa)]/\aC H1 Hx) (λr hn=>?_) ?_
 . refine⟨_,rfl,_,rfl,ca,rfl,⟨_,ax.of oW⟩,λD hD=>?_⟩
   refine copy H1 D _ (λ_ _ h=>h) hD λH2 es s2 oT p2=>?_
   refine⟨_,rfl,wa,_,rfl,.inl (ax.of (s2 _ _ hw)),λq hq=>?_⟩
   have s3:aC H1 (upd H2 q (.lst (wants.map V.int))):=bw s2 (same_none s2 hq)
   have q3:jG (upd H2 q (.lst (wants.map V.int))) q wants:=aj
   have D3:=un (u:=.lst (wants.map V.int)) oT hq
   have p3:Paired (jG (upd H2 q (.lst (wants.map V.int)))) es cls:=Paired.bQ p2 λa c e=>un e hq
   generalize upd H2 q (.lst (wants.map V.int))=H3 at s3 q3 D3 p3 ⊢
   refine⟨n,D,q,es,cls,wants,rfl,n6,D3,p3,λc hc=>(J1 c hc).1,by omega,Bo j4,q3,λH4 t4 E b s4 wu hE sat=>?_,λH4 t4 v s4 wu J2=>?_⟩
   . refine⟨t4,_,0,.str "yes",rfl,rfl,jr.of wu,bt (j:=0) rfl,_,rfl,_,rfl,_,rfl,?_⟩
     refine qQ (bg s3 s4) (s4 _ _ (s3 _ _ hw)) j4 wl λH5 s s5 hs=>?_
     rcases hs with⟨rfl,_⟩|⟨rfl,no⟩
     . refine⟨rfl,_,rfl,eP ?_⟩
       exact hn _ _ ⟨rfl,bg s3 (bg s4 s5)⟩
     . exact absurd sat (no b)
   . refine⟨t4,_,0,.str "no",rfl,rfl,jr.of wu,bt (j:=0) rfl,_,rfl,_,rfl,_,rfl,?_⟩
     refine qQ (bg s3 s4) (s4 _ _ (s3 _ _ hw)) j4 wl λH5 s s5 hs=>?_
     rcases hs with⟨rfl,b,sat⟩|⟨rfl,_⟩
     . exact absurd sat (J2 b)
     . refine⟨rfl,_,rfl,eP ?_⟩
       exact hn _ _ ⟨rfl,bg s3 (bg s4 s5)⟩
 rintro σ Hx ⟨rfl,sx⟩
 refine⟨_,rfl,_,rfl,ca,rfl,⟨_,ax.of (sx _ _ oW)⟩,λD hD=>?_⟩
 refine copy Hx D _ sx hD λH2 es s2 oT p2=>?_
 refine⟨by decide,λq hq=>?_⟩
 have s3:aC H1 (upd H2 q (.lst [])):=bw (bg sx s2) (same_none (bg sx s2) hq)
 have q3:jG (upd H2 q (.lst [])) q []:=aj
 have D3:=un (u:=.lst []) oT hq
 have p3:Paired (jG (upd H2 q (.lst []))) es cls:=Paired.bQ p2 λa c e=>un e hq
 generalize upd H2 q (.lst [])=H3 at s3 q3 D3 p3 ⊢
 refine⟨n,D,q,es,cls,[],rfl,n6,D3,p3,λc hc=>(J1 c hc).1,by omega,Bo nU,q3,λH4 t4 E b s4 wu hE sat=>?_,λH4 t4 v s4 wu J2=>?_⟩
 . refine⟨t4,_,0,.str "yes",rfl,rfl,jr.of wu,bt (j:=0) rfl,_,rfl,_,rfl,by decide,λw hw=>?_⟩
   refine qQ (w:=w) (ws:=[]) (bw (bg s3 s4) (same_none (bg s3 s4) hw)) aj nU (Yi _) λH5 s s5 hs=>?_
   rcases hs with⟨rfl,_⟩|⟨rfl,no⟩
   . exact⟨rfl,k _⟩
   . exact absurd sat (no b)
 . refine⟨t4,_,0,.str "no",rfl,rfl,jr.of wu,bt (j:=0) rfl,_,rfl,_,rfl,by decide,λw hw=>?_⟩
   refine qQ (w:=w) (ws:=[]) (bw (bg s3 s4) (same_none (bg s3 s4) hw)) aj nU (Yi _) λH5 s s5 hs=>?_
   rcases hs with⟨rfl,b,sat⟩|⟨rfl,_⟩
   . exact absurd sat (J2 b)
   . exact⟨rfl,k _⟩
end
end Gen
namespace Gen
open PySem L2
section
theorem all_mk{l:W.OpenLaw}{w:World}{K:W.Frag}{h:Heap}{mg:Str->Option Value}{fa CO CP C J3 J4 J5 J6 J7 J8 C4 J9 Ka Kb Kc Kd Ke Kf Kg Kh Ki Kj Kk Kl Km Kn Ko Kq Kr Ks Kt Ku Kv Kw f9 Kx OY OZ O1 O2 O3 O4 O5 O6 O7 O8 O9 Pa Pb Pc Pd Pe:Addr}(X:K.In h)(G:h.Ns mainGlobals mg) (U4:mg "law" = some (.ref fa))
 {Ky Kz KA KC KD KG KH KI KJ KL KN KO KP KQ KR KS KU KW KY KZ K0 K1 K2 K3 K4 K5 K6 K7 K8 K9 d9 Pf Ph Pj Pk Pl Pm Pn Po Pp Pq Pr Pt Pu Pw Px Py Pz:FuncData}
 {tU tF:Tok}
 (U5:W.nsIn K mainGlobals "Order" = some (some (.ref CO))) (U6:W.nsIn K mainGlobals "Pauses" = some (some (.ref CP))) (U7:W.nsIn K mainGlobals "Search" = some (some (.ref C)))
 (U8:Mk K CO J3) (La:aM K "__init__" "Order.__init__" vM J3 Ky)
 (Q7:Meth K CO "lengthen" J4) (Lb:aM K "lengthen" "Order.lengthen" yS J4 Kz)
 (Lc:Meth K CO "link_last" J5) (Ld:aM K "link_last" "Order.link_last" uI J5 KA)
 (Q8:Meth K CO "freed" J6) (Le:aM K "freed" "Order.freed" rf J6 KC)
 (Q9:Meth K CO "latest_free" J7) (Lf:aM K "latest_free" "Order.latest_free" pE J7 KD)
 (Ra:Meth K CO "put_last" J8) (Lg:aM K "put_last" "Order.put_last" vp J8 KG)
 (Rb:Meth K CO "mark_of" C4) (Lh:aM K "mark_of" "Order.mark_of" uJ C4 KH)
 (U9:Mk K CP J9) (Li:aM K "__init__" "Pauses.__init__" vN J9 KI)
 (Rc:Meth K CP "due" Ka) (Lj:aM K "due" "Pauses.due" yM Ka KJ)
 (Va:Mk K C Kb) (Lm:aM K "__init__" "Search.__init__" vP Kb KL)
 (Rf:Meth K C "widen" Kc) (Ln:aM K "widen" "Search.widen" vO Kc KN)
 (Rg:Meth K C "take" Kd) (Lo:aM K "take" "Search.take" vQ Kd KO)
 (Lp:Meth K C "watch" Ke) (Lq:aM K "watch" "Search.watch" rP Ke KP)
 (Rh:Meth K C "level" Kf) (Lr:aM K "level" "Search.level" rQ Kf KQ)
 (Ri:Meth K C "choice" Kg) (Ls:aM K "choice" "Search.choice" pJ Kg KR)
 (Rj:Meth K C "clash_with" Kh) (Lu:aM K "clash_with" "Search.clash_with" rX Kh KS)
 (Rk:Meth K C "begun" Ki) (Lv:aM K "begun" "Search.begun" rK Ki KU)
 (wy:Meth K C "put" Kj) (Lw:aM K "put" "Search.put" yH Kj KW)
 (Rm:Meth K C "tried" Kk) (Lx:aM K "tried" "Search.tried" rJ Kk KY)
 (Rn:Meth K C "passed_on" Kl) (Ly:aM K "passed_on" "Search.passed_on" uV Kl KZ)
 (Ro:Meth K C "looked_at" Km) (Lz:aM K "looked_at" "Search.looked_at" uS Km K0)
 (Rp:Meth K C "learn" Kn) (LA:aM K "learn" "Search.learn" rW Kn K1)
 (Rq:Meth K C "singled_out" Ko) (LB:aM K "singled_out" "Search.singled_out" vx Ko K2)
 (LC:Meth K C "is_lower" Kq) (LD:aM K "is_lower" "Search.is_lower" rS Kq K3)
 (Rr:Meth K C "join_needless" Kr) (LF:aM K "join_needless" "Search.join_needless" vD Kr K4)
 (Rt:Meth K C "is_needless" Ks) (LG:aM K "is_needless" "Search.is_needless" vE Ks K5)
 (Ru:Meth K C "keep" Kt) (LH:aM K "keep" "Search.keep" vk Kt K6)
 (Rv:Meth K C "go_back" Ku) (LI:aM K "go_back" "Search.go_back" uQ Ku K7)
 (Rw:Meth K C "take_back_all" Kv) (LJ:aM K "take_back_all" "Search.take_back_all" yI Kv K8)
 (LK:Meth K C "unput" Kw) (LM:aM K "unput" "Search.unput" rq Kw K9)
 (a9:W.nsIn K mainGlobals "solved" = some (some (.ref f9))) (F9:aM K "solved" "solved" sh f9 d9)
 (Vb:W.nsIn K mainGlobals "answer_of" = some (some (.ref Kx))) (LN:aM K "answer_of" "answer_of" r9 Kx Pf)
 (Vc:W.nsIn K mainGlobals "paper_of" = some (some (.ref OY))) (LO:aM K "paper_of" "paper_of" vY OY Ph)
 (Vd:W.nsIn K mainGlobals "last_chain" = some (some (.ref OZ))) (LP:aM K "last_chain" "last_chain" yT OZ Pj)
 (Ve:W.nsIn K mainGlobals "needed" = some (some (.ref O1))) (LQ:aM K "needed" "needed" r8 O1 Pk)
 (Vf:W.nsIn K mainGlobals "write_chain" = some (some (.ref O2))) (LR:aM K "write_chain" "write_chain" vU O2 Pl)
 (Vg:W.nsIn K mainGlobals "_law_cell_at" = some (some (.ref O3))) (LS:aM K "_law_cell_at" "_law_cell_at" yE O3 Pm)
 (Vh:W.nsIn K mainGlobals "_law_mix" = some (some (.ref O4))) (LU:aM K "_law_mix" "_law_mix" BL O4 Pn)
 (Vi:W.nsIn K mainGlobals "_law_pick" = some (some (.ref O5))) (Bp:aM K "_law_pick" "_law_pick" yF O5 Po)
 (Vj:W.nsIn K mainGlobals "_law_number" = some (some (.ref O6))) (LV:aM K "_law_number" "_law_number" CT O6 Pp)
 (Vk:W.nsIn K mainGlobals "_law_clause" = some (some (.ref O7))) (LW:aM K "_law_clause" "_law_clause" CU O7 Pq)
 (Vl:W.nsIn K mainGlobals "_law_wants" = some (some (.ref O8))) (LX:aM K "_law_wants" "_law_wants" CV O8 Pr)
 (Vm:W.nsIn K mainGlobals "_law_drawn" = some (some (.ref O9))) (LY:aM K "_law_drawn" "_law_drawn" wm O9 Pt)
 (Vn:W.nsIn K mainGlobals "_law_keeps" = some (some (.ref Pa))) (LZ:aM K "_law_keeps" "_law_keeps" wq Pa Pu)
 (Vo:W.nsIn K mainGlobals "_law_keeps_all" = some (some (.ref Pb))) (L1:aM K "_law_keeps_all" "_law_keeps_all" yW Pb Pw)
 (Vp:W.nsIn K mainGlobals "_law_all_choices" = some (some (.ref Pc))) (L3:aM K "_law_all_choices" "_law_all_choices" yX Pc Px)
 (Vq:W.nsIn K mainGlobals "_law_any" = some (some (.ref Pd))) (L5:aM K "_law_any" "_law_any" C0 Pd Py)
 (PB:W.nsIn K mainGlobals "law" = some (some (.ref Pe))) (PD:aM K "law" "law" C3 Pe Pz)
 (cO:iB K CO) (n1:aH K CO "ahead") (n2:aH K CO "behind") (n3:aH K CO "marks") (n4:aH K CO "newest") (n5:aH K CO "seek")
 (cP:iB K CP) (p1:aH K CP "turn") (p2:aH K CP "length") (p3:aH K CP "left")
 (cS:iB K C) (s0:aH K C "size") (s1:aH K C "held") (s2:aH K C "ranks") (s3:aH K C "singles") (s4:aH K C "bits") (s5:aH K C "watches") (s6:aH K C "pairs") (s7:aH K C "levels") (s8:aH K C "reasons") (s9:aH K C "places") (GJ:aH K C "signs") (Nw:aH K C "trail") (Vr:aH K C "passed") (Jc:aH K C "cuts") (Vs:aH K C "order") (Vt:aH K C "pauses") (Vu:aH K C "chains") (Vv:aH K C "spans") (Vw:aH K C "forget_at")
 (z0:W.nsIn K mainGlobals "len" = some none) (z1:W.nsIn K mainGlobals "range" = some none) (z2:W.nsIn K mainGlobals "enumerate" = some none) (z3:W.nsIn K mainGlobals "list" = some none) (z4:W.nsIn K mainGlobals "abs" = some none) (z5:W.nsIn K mainGlobals "sorted" = some none) (z6:W.nsIn K mainGlobals "set" = some none) (z7:W.nsIn K mainGlobals "dict" = some none) (z8:W.nsIn K mainGlobals "reversed" = some none) (z9:W.nsIn K mainGlobals "int" = some none) (Vx:W.nsIn K mainGlobals "any" = some none)
 (cU:W.nsIn K mainGlobals "RESTART_UNIT" = some (some (.int 100 tU))) (cF:W.nsIn K mainGlobals "FORGET_FROM" = some (some (.int 600 tF)))
 (RA:xG K C4 "mark_of")
 :
 ∃fd:FuncData,(∀(s:Shared) (v:Value),BindsTo s fd ⟨[v],[]⟩ [("_law_script",v)])/\∀base:Heap,K.In base->base.Ns mainGlobals mg->aD l.prog w K mg base aT 9 fa fd ["_law_script"] (tR K):=by
 have e:=U4.symm.trans (YQ X G PB)
 cases e
 have TO:jD K mg CO:=⟨cO,n1,n2,n3,n4,n5,YQ X G U5⟩
 have TP:vo K mg CP:=⟨cP,p1,p2,p3,YQ X G U6⟩
 have TS:dZ K mg C:=⟨cS,s0,s1,s2,s3,s4,s5,s6,s7,s8,s9,GJ,Nw,Vr,Jc,Vs,Vt,Vu,Vv,Vw,YQ X G U7⟩
 have O:Own mg:=⟨YM X G z0,YM X G z1,YM X G z2,YM X G z3⟩
 have hA:mg "abs" = none:=YM X G z4
 have qB:mg "sorted" = none:=YM X G z5
 have Ci:mg "set" = none:=YM X G z6
 have vX:mg "dict" = none:=YM X G z7
 have x9:mg "reversed" = none:=YM X G z8
 have hI:mg "int" = none:=YM X G z9
 have JX:mg "any" = none:=YM X G Vx
 have RB:Binds K Ky ["self"] []:=La.b1
 have RC:Binds K Kz ["self", "many"] []:=Lb.b2
 have L6:Binds K KA ["self", "variable"] []:=Ld.b2
 have RD:Binds K KC ["self", "variable"] []:=Le.b2
 have RE:Binds K KD ["self", "bits"] []:=Lf.b2
 have RF:Binds K KG ["self", "variables"] []:=Lg.b2
 have RG:Binds K KH ["self", "variable"] []:=Lh.b2
 have RH:Binds K KI ["self"] []:=Li.b1
 have RI:Binds K KJ ["self"] []:=Lj.b1
 have RJ:Binds K KL ["self", "many"] []:=Lm.b2
 have RK:Binds K KN ["self", "many"] []:=Ln.b2
 have RL:Binds K KO ["self", "clauses"] []:=Lo.b2
 have L7:Binds K KP ["self", "number"] []:=Lq.b2
 have RM:Binds K KQ ["self"] []:=Lr.b1
 have RN:Binds K KR ["self"] []:=Ls.b1
 have RO:Binds K KS ["self", "wants"] []:=Lu.b2
 have RP:Binds K KU ["self", "wants"] []:=Lv.b2
 have wz:Binds K KW ["self", "literal", "reason"] []:=Lw.b3
 have RQ:Binds K KY ["self"] []:=Lx.b1
 have RR:Binds K KZ ["self"] []:=Ly.b1
 have RS:Binds K K0 ["self", "fallen"] []:=Lz.b2
 have RT:Binds K K1 ["self", "clash"] []:=LA.b2
 have RU:Binds K K2 ["self", "clash", "seen", "chain"] []:=LB.b4
 have L8:Binds K K3 ["self", "variable"] []:=LD.b2
 have RV:Binds K K4 ["self", "seen", "chain"] []:=LF.b3
 have RW:Binds K K5 ["self", "variable", "seen"] []:=LG.b3
 have RX:Binds K K6 ["self", "clause", "chain"] []:=LH.b3
 have RY:Binds K K7 ["self", "level"] []:=LI.b2
 have RZ:Binds K K8 ["self"] []:=LJ.b1
 have L9:Binds K K9 ["self", "cut"] []:=LM.b2
 have m9:=YQ X G a9
 have b9:Binds K d9 ["many", "clauses", "wants"] []:=F9.b3
 have Vy:=YQ X G Vb
 have Vz:Binds K Pf ["search", "wants"] []:=LN.b2
 have VA:=YQ X G Vc
 have VB:Binds K Ph ["search", "clash"] []:=LO.b2
 have VC:=YQ X G Vd
 have VD:Binds K Pj ["search", "clash"] []:=LP.b2
 have VE:=YQ X G Ve
 have VF:Binds K Pk ["search", "last"] []:=LQ.b2
 have VG:=YQ X G Vf
 have VH:Binds K Pl ["chain", "renamed", "steps", "given"] []:=LR.b4
 have VI:=YQ X G Vg
 have VJ:Binds K Pm ["_law_script", "_law_k"] []:=LS.b2
 have VL:=YQ X G Vh
 have VM:Binds K Pn ["_law_cell", "_law_k"] []:=LU.b2
 have Ma:=YQ X G Vi
 have Mb:Binds K Po ["_law_left", "_law_many"] []:=Bp.b2
 have VN:=YQ X G Vj
 have VO:Binds K Pp ["_law_script", "_law_k"] []:=LV.b2
 have VP:=YQ X G Vk
 have VQ:Binds K Pq ["_law_left", "_law_many"] []:=LW.b2
 have VR:=YQ X G Vl
 have VS:Binds K Pr ["_law_left", "_law_many", "_law_most"] []:=LX.b3
 have VT:=YQ X G Vm
 have VU:Binds K Pt ["_law_script", "_law_variables", "_law_most"] []:=LY.b3
 have VV:=YQ X G Vn
 have VW:Binds K Pu ["_law_choice", "_law_clause_here"] []:=LZ.b2
 have VX:=YQ X G Vo
 have VY:Binds K Pw ["_law_choice", "_law_clauses", "_law_wants_here"] []:=L1.b3
 have VZ:=YQ X G Vp
 have V0:Binds K Px ["_law_many"] []:=L3.b1
 have V1:=YQ X G Vq
 have V2:Binds K Py ["_law_many", "_law_clauses", "_law_wants_here"] []:=L5.b3
 have Xj:=YQ X G PB
 refine⟨Pz,λs v=>?_,λbase _ _=>?_⟩
 . obtain⟨_,_,_,_,_,_,_,_,_,rfl,_⟩:=PD.ex
   exact .of_eq rfl
 have hU:∃u,mg "RESTART_UNIT" = some u/\RelV (.int 100) u:=⟨_,YQ X G cU,⟨_,rfl⟩⟩
 have hF:∃u,mg "FORGET_FROM" = some u/\RelV (.int 600) u:=⟨_,YQ X G cF,⟨_,rfl⟩⟩
 have PF:=BQ (P:=l.prog) (w:=w) (base:=base) Ld TO
 have V3:=Ft Lb TO O PF Lc L6
 have V4:=CF (P:=l.prog) (w:=w) (base:=base) La TO
 have V5:=CD (P:=l.prog) (w:=w) (base:=base) Li TP hU
 have gW:=Fv (CP:=CP) Ln TS TO O V3 Q7 RC
 have V6:=CH Lm TS TO TP hF U8 V4 RB U9 V5 RH gW Rf RK
 have PH:=Cb (P:=l.prog) (w:=w) (base:=base) (C:=C) (CO:=CO) (CP:=CP) Lq TS O
 have V7:=Fy Lo TS O PH Lp L7
 have V8:=BX (P:=l.prog) (w:=w) (base:=base) (C:=C) (CO:=CO) (CP:=CP) Le TO
 have V9:=zY (P:=l.prog) (w:=w) (base:=base) (C:=C) (CO:=CO) (CP:=CP) Lf TO
 have Bq:=EU (P:=l.prog) (w:=w) (base:=base) (C:=C) (CO:=CO) (CP:=CP) Lw TS hA O
 have PJ:=BZ LM TS TO hA O V8 Q8 RD
 have Wa:=EY LI TS O PJ LK L9
 have Wb:=yJ LJ TS PJ LK L9
 have PL:=Cs (P:=l.prog) (w:=w) (base:=base) (C:=C) (CO:=CO) (CP:=CP) LD TS O
 have Wc:=Fb LH TS O hA Ci PH Lp L7
 have We:=Iw (P:=l.prog) (w:=w) (base:=base) (C:=C) (CO:=CO) (CP:=CP) Lj TP
 have Wf:=Ff (P:=l.prog) (w:=w) (base:=base) (C:=C) (CO:=CO) (CP:=CP) Lh TO
 have Wg:=Ck Lg TO qB Wf Rb RG RA PF Lc L6
 have Wh:=Co (P:=l.prog) (w:=w) (base:=base) (C:=C) (CO:=CO) (CP:=CP) Lr TS O
 have Wi:=AB (P:=l.prog) (w:=w) (base:=base) (C:=C) (CO:=CO) (CP:=CP) Ls TS
 have Wj:=CK (P:=l.prog) (w:=w) (base:=base) LR O
 have Wk:∀wants,aD l.prog w K mg base aT 7 Kx _ ["search", "wants"] (pM C CO CP wants):=λwants=>by
  have Wl:=EZ (wants:=wants) Lz TS O Bq wy wz
  have Wm:=E1 Ly TS O Bq wy wz Wl Ro RS
  have Wn:=B8 (wants:=wants) Lx TS TO O Bq wy wz V9 Q9 RE
  have Wo:=B9 (wants:=wants) Lv TS O Bq wy wz Wb Rw RZ
  have Wq:=Fh (wants:=wants) (P:=l.prog) (w:=w) (base:=base) (C:=C) (CO:=CO) (CP:=CP) LB TS O hA
  have Wr:=Fj (wants:=wants) (P:=l.prog) (w:=w) (base:=base) (C:=C) (CO:=CO) (CP:=CP) LG TS hA
  have Ws:=Fm LF TS O hA qB PL LC L8 Wr Rt RW
  have Wt:=Cv LA TS TO TP O hA qB Wq Rq RU Ws Rr RV PL LC L8 Wc Ru RX Wg Ra RF Wa Rv RY Bq wy wz We Rc RI
  have Wu:=CA Lu TS Wo Rk RP Wm Rn RR Wn Rm RQ Wh Rh RM Wt Rp RT
  have Wv:=FC (wants:=wants) (P:=l.prog) (w:=w) (base:=base) (C:=C) (CO:=CO) (CP:=CP) LP TS O hA x9
  have Ww:=A8 (wants:=wants) (P:=l.prog) (w:=w) (base:=base) (C:=C) (CO:=CO) (CP:=CP) LQ TS O vX x9
  have Wx:=CS LO TS O vX ⟨Wv,VC,LP.kp,VD⟩ ⟨Ww,VE,LQ.kp,VF⟩ ⟨Wj,VG,LR.kp,VH⟩
  exact Bf LN TS Wu Rj RO Wi Ri RN ⟨Wx,VA,LO.kp,VB⟩
 have Wy:=Bh F9 TS Va V6 RJ V7 Rg RL λwants=>⟨Wk wants,Vy,LN.kp,Vz⟩
 have Wz:=EL (P:=l.prog) (w:=w) (base:=base) LS O
 have WA:=Hb (mg:=mg) (P:=l.prog) (w:=w) (base:=base) LU
 have Mc:=EM (P:=l.prog) (w:=w) (base:=base) Bp O
 have WB:=JQ LV O hI ⟨Wz,VI,LS.kp,VJ⟩ ⟨WA,VL,LU.kp,VM⟩
 have WC:=JU LW O ⟨Mc,Ma,Bp.kp,Mb⟩
 have WD:=JR LX O ⟨Mc,Ma,Bp.kp,Mb⟩
 have WE:=CZ LY O ⟨WB,VN,LV.kp,VO⟩ ⟨Mc,Ma,Bp.kp,Mb⟩ ⟨WD,VR,LX.kp,VS⟩ ⟨WC,VP,LW.kp,VQ⟩
 have WG:=C2 (P:=l.prog) (w:=w) (base:=base) LZ hA hI JX
 have WH:=FL L1 ⟨WG,VV,LZ.kp,VW⟩
 have WI:=FN (P:=l.prog) (w:=w) (base:=base) L3 O
 have WJ:=JZ L5 ⟨WI,VZ,L3.kp,V0⟩ ⟨WH,VX,L1.kp,VY⟩
 exact J0 PD O ⟨WE,VT,LY.kp,VU⟩ ⟨Wy,m9,F9.kp,b9⟩ ⟨WJ,V1,L5.kp,V2⟩
theorem walk{l:W.OpenLaw}{q:Program}{loose:List Str}{XP:(Str->Option Value)->Heap->Prop}{YP:World->Heap->Prop}{d:DefRec}{K:Params->W.Frag}(hn:l.most=some 63) (zD:d.params.defaults=[])
 (hY:∀(w:World) (h:Heap),YP w h->(K w.params).In h)
 (F:∀(w:World) (mg:Str->Option Value) (fa:Addr) (h:Heap),(K w.params).In h->h.Ns mainGlobals mg->mg d.name=some (.ref fa)->
  ∃fd:FuncData,(∀(s:Shared) (u:Value),BindsTo s fd ⟨[u],[]⟩ [("_law_script",u)])/\∀base:Heap,(K w.params).In base->base.Ns mainGlobals mg->aD l.prog w (K w.params) mg base aT 9 fa fd ["_law_script"] (tR (K w.params))) :
 W.WalkO q loose XP YP l.row.toRowW d [] (λf vs=>PySem.call f vs):=
 L2.EH (n:=63) (k:=9) (x:="_law_script") (CX:=λ_=>aT) (sp:=λw=>tR (K w.params)) hn (by decide) zD ⟨rfl,by decide,by decide⟩ hY F (λ_ _ a ns hl _ hS=>⟨a,ns,rfl,hS,λ_=>rfl⟩) λ_ _ _ _ _ z=>z
end
end Gen
open PySem PySem.W PyProof.Rows
inductive PySem.W.Fast : Prop
|tw15125281944883859598
|tw15552104994477476198
|tw13577285384573036379
|tw2064516070065406777
|tw7316961024860105345
|tw12411995707392861882
|tw16961233543421970062
|tw5929400724753723898
|tw16910622303056517782
|tw11052409807470719955
|tw17954118221558795071
|tw2994208495198740222
|tw3685589009946092026
|tw11654082646447061724
|tw15014468752622779294
|tw2131060629903698677
|tw16702854790975951857
|tw17836411977507655064
|tw6866336978428573198
|tw563100641824498735
|tw15418266046841142736
|tw18043658376331636032
|tw15001663735677398394
|tw13940658770654033409
|tw3069105363101551979
|tw5953230166329666238
|tw10906761551446263237
|tw702926674522863675
|tw8638404258639988709
|tw9603580970187407886
|tw8862666325599021111
|tw16499342603403926081
|tw6839540345202371023
|tw7116629095112850078
|tw15855348919961482278
|tw11576998597762593509
|tw4878689500629221582
|tw15049466766573415322
|tw4526218036904204971
|tw8104127617040306021
|tw6864591451261211482
|tw1957096880694818188
|tw10210466506161765806
|tw8259388821559890172
|tw17093511644451313681
|tw13464344279858439820
|tw10235473994711314286
|tw2844226750194511854
|tw16392361315386680551
|tw12649556280455525529
|tw14124146369514881920
|tw13973649923856415314
|tw12350103307953616478
|tw17380393908813544428
|tw16947362909986250760
|tw18057937108836700328
|tw11056566754306564551
|tw290746825185667374
|tw4990062167010965626
|tw8952633290536557606
|tw8047818145696867753
|tw2101544440470614670
|tw1039926610813002275
|tw8564868376655300732
|tw3371568902323063660
|tw18265056273938585629
|tw1442023330424646389
|tw553259840757153505
|tw5372084410420232007
|tw14339529849619600403
|tw18094969067621822821
|tw18055897109525929855
|tw11009134684486725907
|tw2697476931455407851
|tw6779534853199606813
|tw3697012113802649469
|tw13160353232037813828
|tw6391556451241474431
|tw2007013041237715172
|tw2900697693561343394
|tw4817420001548841448
|tw9026807245194425742
|tw17267726717782342750
|tw16278579111762897484
|tw10551852557995316692
|tw4928559557866828355
|tw15550990169952774529
|tw15175438311926297768
|tw16615074267688334168
|tw15521108495629983826
|tw9054742302097002099
|tw2033898388856598483
|tw782325760418941028
|tw5887222742014959621
|tw2690760442264322121
|tw14094008132943776016
|tw4598698247254659654
|tw4119485069412849894
|tw16427138903393278725
|tw10027601498647608832
|tw15377937216696140515
|tw12904919371151364914
|tw10832456597940711563
|tw16301030414254770246
|tw5108638382284904739
|tw313413984395770823
|tw7232797632812022933
|tw2957991386822372137
|tw12121851423993530669
|tw14620513987667691591
|tw7642833088012468230
|tw2186579185542907567
|tw12993113277472530879
|tw4187143665143003620
|tw11641164576707393424
|tw7156220138317688920
|tw11079305677843560080
|tw11935155420487940714
|tw10754078957396775388
|tw6034771866043385229
|tw17987649680549207630
|tw6288673145993863656
|tw11089219423598365763
|tw1340381474639426348
|tw409961178392929334
|tw4370886054432960253
|tw750575409082860009
|tw12760561038485183216
|tw2136979044025473419
|tw6693148536099026300
|tw7347730957759360103
|tw11520927971169592470
|tw16669649071735944503
|tw10763015029073083993
|tw10007433505690613545
|tw1269469518004740714
|tw17037712134718640018
|tw9482094069278333552
|tw4761728537953447304
|tw8912122707865770078
|tw5993029966251464647
|tw14849159509989927196
|tw9355838584232687386
|tw1410905619166084112
|tw12910029398158402175
|tw12653430100600293221
|tw315763066448615602
|tw11026252456544547562
|tw2796679494884073575
|tw1438731735573350643
|tw496254741703763431
|tw11068013979184583259
|tw14743952492911635454
|tw10616488615680982906
|tw8864557999780203653
|tw11350845587537919455
|tw5652880692778267918
|tw18378678498876762573
|tw15219550421110628887
|tw17551920435937184005
|tw2345863379624167638
|tw4432965645963676447
|tw2822998575132580742
|tw11201177305457084760
|tw5229988863136065410
|tw17651725176946331002
|tw13853581703638918329
|tw16183953740805980652
|tw4386202896129046449
|tw9847107627175790979
|tw17941990195805526459
|tw10465462410454289939
|tw14368216980341688975
|tw17177060489796007418
|tw11809397374835527848
|tw279716143512537678
|tw14080890932847971225
|tw6212401576484843541
|tw1057075324214223227
|tw753476803065114112
|tw7672211216456835529
|tw13010204687246811290
|tw2962214325040614976
|tw15312100110645774707
|tw564122881819756890
|tw16164792626450312817
|tw13018375654800875643
|tw12791747589928476339
|tw16860054093077174024
|tw13120469106025423415
|tw16513588467387881927
|tw13048578660354574955
|tw13530509483021417441
|tw17743309453192297262
|tw17731408357477008681
|tw11554740357542777777
|tw4501449183443968594
|tw13578637395603228145
|tw6236837859585287061
|tw18346053821732208206
|tw16510010433760134313
|tw16365664173638584174
|tw16246610764308258620
|tw7464412109715427392
|tw4362093132152287066
|tw9696786127798013743
|tw17301903731370633326
|tw11811183753576504739
|te11811183753576504739
|tw2335218251092874863
|tw7230018911878904054
|tw16698802695491113483
|tw10799798394735542403
|tw10999545819879131502
|tw18038385372409673992
|tw17395647307302047158
|tw9623142816184460674
|tw10846852614078267627
|tw18344837318363248968
|tw16748857313389750048
|tw8824732102773395228
|tw17039196602103272796
|tw8457882611872706556
|tw7223231600262248300
|tw15000746056903508465
|tw7785719408405676349
|tw2794885855645565187
|tw18192881630918138423
|tw17466941268011720973
|tw10862782257586615252
|tw18398572943677943482
|tw6350452574638328698
|tw16347316408227367438
|tw11601051713021711694
|tw5891614793308570904
|tw10683917651075165468
|tw723845000154846851
|tw530612981364632687
|tw4925364435746260183
set_option maxRecDepth 100000 in
set_option maxHeartbeats 0 in
theorem PySem.Challenge.cw_everguard_k13_none_by_going_through_all_holds : PySem.Challenge.rw_everguard_k13_none_by_going_through_all.Holds := by
 w_on; o_law; k_head; (case hw=>w_witness2)
 k_fill
 refine Gen.walk (l:=PySem.Challenge.rw_everguard_k13_none_by_going_through_all) rfl rfl (λw h Y=>W.kIn_of Y) ?F
 case F=>
  intro w mg fa h KX G zE
  refine' Gen.all_mk KX G zE ?_ ?_ ?_ ?_ ?_ ?_ ?_ ?_ ?_ ?_ ?_ ?_ ?_ ?_ ?_ ?_ ?_ ?_ ?_ ?_ ?_ ?_ ?_ ?_ ?_ ?_ ?_ ?_ ?_ ?_ ?_ ?_ ?_ ?_ ?_ ?_ ?_ ?_ ?_ ?_ ?_ ?_ ?_ ?_ ?_ ?_ ?_ ?_ ?_ ?_ ?_ ?_ ?_ ?_ ?_ ?_ ?_ ?_ ?_ ?_ ?_ ?_ ?_ ?_ ?_ ?_ ?_ ?_ ?_ ?_ ?_ ?_ ?_ ?_ ?_ ?_ ?_ ?_ ?_ ?_ ?_ ?_ ?_ ?_ ?_ ?_ ?_ ?_ ?_ ?_ ?_ ?_ ?_ ?_ ?_ ?_ ?_ ?_ ?_ ?_ ?_ ?_ ?_ ?_ ?_ ?_ ?_ ?_ ?_ ?_ ?_ ?_ ?_ ?_ ?_ ?_ ?_ ?_ ?_ ?_ ?_ ?_ ?_ ?_ ?_ ?_ ?_ ?_ ?_ ?_ ?_ ?_ ?_ ?_ ?_ ?_ ?_ ?_ ?_ ?_ ?_ ?_ ?_
  all_goals first | (apply L2.xG.mk <;> first | k_is | rfl) | (apply L2.GG <;> k_is) | (apply L2.Meth.mk <;> k_is) | (apply L2.Mk.mk <;> k_is) | (apply L2.iB.mk <;> k_is) | k_is | (unfold L2.aH; k_is) | skip
#print axioms PySem.Challenge.cw_everguard_k13_none_by_going_through_all_holds
