import PyProof.Rows.All
import Wide.All
import OpenK.AllK
import PySem.Challenge.RW_everguard_k49_settled
set_option Elab.async false
set_option compiler.extract_closed false
set_option linter.all false
set_option maxRecDepth 100000
def aaa:=@List.length_map
def aac:=@PySem.wpAny_bind
def aad:=@PySem.Heap.get?_push_of_some
def aae:=@List.getElem?_eq_getElem
def aaf:=@List.map_append
def aag:=@List.mem_append
def aah:=@Nat.le_refl
def aai:=@List.mem_map
def aaj:=@List.length_append
def aak:=@PySem.wpAny_pure
def aal:=@List.getElem?_map
def aam:=@PySem.Heap.lt_size
def aan:=@List.mem_cons
def aao:=@List.mem_singleton
def aap:=@Nat.le_trans
def aaq:=@List.getElem?_eq_some_iff
def aar:=@PySem.Heap.get?_push_size
def aas:=@List.map_cons
def aat:=@Bool.false_ne_true
def aau:=@List.map_map
def aav:=@Ne.symm
def aaw:=@List.size_toArray
def aax:=@Nat.ne_of_lt
def aay:=@if_neg
def aaz:=@List.find?_cons_of_neg
def aaA:=@Option.some.inj
def aaB:=@List.nodup_append
def aaC:=@PyProof.Rows.boot_dict
def aaD:=@List.find?_cons_of_pos
def aaE:=@List.not_mem_nil
def aaF:=@List.mem_filter
def aaG:=@List.mem_append_right
def aaH:=@List.take_length
def aaI:=@if_pos
def aaJ:=@PySem.F.plainAttrs_list
def aaK:=@List.length_singleton
def aaL:=@List.mem_cons_of_mem
def aaM:=@PySem.PassesOwn.never
def aaN:=@List.mem_of_getElem?
def aaO:=@List.length_take
def aaP:=@Nat.lt_of_lt_of_le
def aaQ:=@PySem.F.slot_list_append
def aaR:=@PySem.F.type_list_append
def aaS:=@decide_eq_false
def aaT:=@decide_eq_true
def aaU:=@List.nodup_cons
def aaV:=@decide_eq_true_eq
def aaW:=@List.map_congr_left
def aaX:=@List.mem_cons_self
def aaY:=@PySem.wpAny_field
def aaZ:=@List.filter_cons_of_pos
def aa0:=@Nat.ne_of_gt
def aa1:=@List.filter_cons_of_neg
def aa2:=@List.take_of_length_le
def aa3:=@PySem.wpAny_seqItems
def aa4:=@PyProof.Rows.callWith_type1
def aa5:=@PySem.wpAny_callSpecial?_slot
def aa6:=@List.length_zip
def aa7:=@PySem.wpAny_setField_rec
def aa8:=@PyProof.Rows.boot_list
def aa9:=@Nat.le_add_right
def aba:=@List.length_filter_le
def abb:=@List.take_succ
def abc:=@of_decide_eq_true
def abd:=@List.filter_append
def abe:=@List.zip_cons_cons
def abf:=@PySem.wpAny_holding
def abg:=@Bool.and_eq_true
def abh:=@List.append_nil
def abi:=@List.length_eq_zero_iff
def abj:=@List.filter_eq_self
def abk:=@PySem.wpAny_call_entry
def abl:=@List.append_assoc
def abm:=@PySem.F.slot_zip_next
def abn:=@PySem.Heap.size_push
def abo:=@PySem.Calls.spliced_cons
def abp:=@PySem.W.mg_of
def abq:=@List.getElem?_append_right
def abr:=@beq_eq_false_iff_ne
def abt:=@List.length_cons
def abu:=@List.getElem_mem
def abv:=@or_false
def abw:=@PySem.wpAny_passesOwn
def abx:=@Bool.eq_iff_iff
def aby:=@Nat.lt_irrefl
def abz:=@List.mem_of_mem_take
def abA:=@PySem.wpAny_Call_Name_kw
def abB:=@Int.emod_lt_of_pos
def abC:=@PySem.Calls.callWith_builtin
def abD:=@PySem.F.plainAttrs_str
def abE:=@List.of_mem_zip
def abF:=@List.forIn_cons
def abG:=@PySem.wpAny_mono
def abH:=@PySem.W.mg_none_of
def abI:=@PySem.boot_len
def abJ:=@PySem.F.plainAttrs_dict
def abK:=@Nat.lt_of_le_of_lt
def abL:=@List.map_id
def abM:=@List.nil_append
def abN:=@Int.emod_nonneg
def abO:=@List.map_take
def abP:=@List.all_eq_true
def abQ:=@Nat.zero_le
def abR:=@PySem.Paired.snoc
def abS:=@Int.toNat_natCast
def abT:=@List.getElem?_append_left
def abU:=@Array.getElem?_eq_getElem
def abV:=@List.drop_eq_getElem_cons
def abW:=@List.mem_of_find?_eq_some
def abX:=@Nat.le_of_eq
def abY:=@List.map_nil
def abZ:=@List.getElem?_eq_none
def ab0:=@List.foldl_cons
def ab1:=@Option.toList_some
def ab2:=@PySem.wpAny_typeNameOfWhole_keyiter
def ab3:=@PySem.wpAny_updateSeq_pair
def ab4:=@PySem.F.slot_dict_keyiterator_next
def ab5:=@List.forIn_nil
def ab6:=@Nat.lt_succ_of_lt
def ab7:=@PySem.F.args_zip_next_1
def ab8:=@PySem.F.slot_str_startswith
def ab9:=@PySem.F.type_str_startswith
def aca:=@PySem.F.slot_tuple_iterator_next
def acb:=@PySem.F.entry_zip_next
def acd:=@Bool.false_eq_true
def ace:=@List.nodup_nil
def acf:=@List.mem_append_left
def acg:=@PySem.Calls.spliced_nil
def ach:=@PySem.wpAny_newObj_type
def aci:=@PySem.F.slot_list_getattribute
def acj:=@PySem.wpAny_typeNameOf_keyiter
def ack:=@List.foldl_append
def acm:=@Sum.inr.inj
def acn:=@PySem.mem_of_lookup
def aco:=@List.take_succ_cons
def acp:=@PySem.wpAny_onRaise
def acq:=@PySem.F.slot_zip_getattribute
def acr:=@List.getElem_of_mem
def acs:=@PySem.F.slot_dict_items
def acu:=@PyProof.Rows.boot_tuple
def acv:=@Nat.add_sub_cancel_left
def acw:=@List.filter_cons
def acx:=@List.lookup_cons
def acy:=@Nat.min_le_right
def acz:=@PyProof.Rows.boot_isinstance
def acA:=@PySem.wpAny_execs_nil
def acB:=@List.find?_cons
def acC:=@PySem.builtinLookup_eq_fast
def acD:=@PyProof.Rows.boot_int
def acE:=@PySem.wpAny_truthy_bool
def acF:=@List.any_cons
def acG:=@List.length_range
def acH:=@PySem.wpAny_attempt
def acI:=@PySem.Calls.evalArgs_plain
def acJ:=@PySem.Around.under_plainId
def acK:=@PySem.F.args_object_init_3
def acL:=@PySem.W.kia_one
def acM:=@PySem.wpAny_execs_cons
def acN:=@if_false
def acO:=@List.any_eq_true
def acP:=@List.zipIdx_cons
def acQ:=@List.range'_succ
def acR:=@List.map_fst_zip
def acS:=@List.map_snd_zip
def acT:=@Nat.le_succ
def acU:=@Nat.add_le_add_left
def acV:=@PySem.Heap.SameBut.update
def acW:=@PySem.typeIs_str
def acX:=@PySem.wpAny_rule
def acY:=@List.length_nil
def acZ:=@PySem.F.slot_dict_clear
def ac0:=@PySem.wpAny_Call_method0_late
def ac1:=@PySem.Obj.data_mapFields
def ac2:=@List.zipIdx_nil
def ac3:=@PySem.wpAny_pyIter_tuple
def ac4:=@PySem.wpAny_pyNext_list_item
def ac5:=@PySem.wpAny_Call_method_late
def ac6:=@List.getElem_cons_succ
def ac7:=@Array.getElem?_eq_none
def ac8:=@PySem.wpAny_pyIter_list
def ac9:=@if_true
def ada:=@PySem.call_meets
def adb:=@PySem.wpAny_letGo
def ade:=@List.filter_congr
def adf:=@List.find?_append
def adg:=@List.mem_range
def adh:=@Nat.le_of_lt
def adi:=@PySem.wpAny_isTrue_Compare1
def adj:=@PySem.wpAny_pyNext_list_end
def adk:=@PySem.call_meetsIn
def adl:=@PySem.F.slot_dict_get
def adm:=@PySem.Heap.get?_update_self
def adn:=@PySem.wpAny_typeOf
def ado:=@List.take_append_drop
def adp:=@PySem.F.args_dict_keyiterator_next_1
def adq:=@Nat.lt_succ_self
def ads:=@PySem.F.typeCall_zip_2
def adt:=@PySem.wpAny_pyIter_zip
def adu:=@PySem.F.entry_dict_keyiterator_next
def adv:=@PySem.F.slot_dict_itemiterator_iter
def adw:=@List.getElem_map
def adx:=@PySem.Heap.get?_none_of_le
def ady:=@PySem.SeqAt.eqv_refl
def adz:=@PySem.Paired.length
def adA:=@PySem.F.args_tuple_iterator_next_1
def adB:=@beq_iff_eq
def adC:=@List.filterMap_cons
def adD:=@Array.length_toList
def adE:=@PySem.evalArgs_none
def adF:=@ne_true_of_eq_false
def adG:=@PySem.typeLookup_type
def adH:=@PySem.codeAny_builtin
def adI:=@PySem.F.entry_tuple_iterator_next
def adJ:=@PySem.F.newCall_zip_2
def adK:=@PySem.F.entry_zip_new
def adL:=@List.range_succ
def adM:=@List.filter_nil
def adN:=@PySem.Calls.Name_function_global
def adO:=@PySem.wpAny_newFunctionEnv_cells
def adP:=@PySem.Calls.Constant_str
def adQ:=@PySem.wpAny_List_spliced
def adR:=@PySem.codeAny_mono
def adS:=@PySem.tupleKind_room_in1
def adT:=@PySem.F.args_str_split_2
def adU:=@not_or
def adV:=@List.find?_eq_none
def adW:=@PySem.F.slot_dict_getitem
def adX:=@Classical.byContradiction
def adY:=@PySem.wpAny_dictSetHashed_pairs
def adZ:=@PySem.wpAny_setField
def ad0:=@PySem.wpAny_newTuple
def ad1:=@PySem.F.args_dict_items_1
def ad2:=@PySem.wpAny_Assign_Name
def ad3:=@PySem.wpAny_comprehension_free
def ad4:=@PySem.F.entry_str_split
def ad5:=@Nat.lt_trichotomy
def ad6:=@PySem.Heap.IsTuple.push
def ad7:=@PySem.F.slot_dict_update
def ad8:=@PySem.F.entry_dict_items
def ad9:=@PySem.wpAny_standAt
def aea:=@PySem.F.args_dict_get_3
def aeb:=@PySem.wpAny_getItem_str_slice
def aec:=@PySem.plainId_quiet
def aed:=@PySem.F.type_dict_items
def aee:=@PySem.F.type_dict_clear
def aej:=@PySem.W.cellsFrom_some
def aew:=@List.length_drop
def aex:=@Option.getD_none
def aey:=@beq_self_eq_true
def aez:=@PySem.F.slot_str_split
def aeA:=@Array.toList_inj
def aeB:=@PySem.wpAny_isInstance
def aeC:=@List.getElem_zip
def aeD:=@List.getElem?_set_self
def aeE:=@PySem.F.entry_dict_get
def aeF:=@List.drop_of_length_le
def aeG:=@PySem.W.callWith_K
def aeH:=@Nat.lt_trans
def aeI:=@PySem.wpAny_specialOf
def aeJ:=@PySem.Heap.DictOf.new
def aeK:=@PySem.SeqAt.in_listAt
def aeL:=@Array.getElem?_toList
def aeM:=@Nat.min_eq_left
def aeN:=@PySem.F.called_zip
def aeO:=@PyProof.Rows.boot_str
def aeP:=@List.getElem?_set_ne
def aeQ:=@List.mem_of_mem_drop
def aeR:=@PySem.wpAny_listPart
def aeS:=@PySem.isSubtype_stop
def aeT:=@List.take_zero
def aeU:=@List.foldl_nil
def aeV:=@PySem.sizeLine_eq
def aeW:=@Array.toList_append
def aeX:=@List.filter_sublist
def aeY:=@Array.append_assoc
def aeZ:=@List.mem_filterMap
def ae0:=@List.all_cons
def ae1:=@List.map_drop
def ae2:=@Array.forIn_toList
def ae3:=@List.Sublist.nodup
def ae4:=@List.flatten_cons
def ae5:=@List.take_add_one
def ae6:=@List.map_inj_left
def ae7:=@Nat.lt_or_ge
def ae8:=@Nat.sub_self
def ae9:=@Int.zero_add
namespace L2
open PySem PySem.Spec PyProof.Rows
noncomputable abbrev Key:=Sum Int Str
noncomputable def ku:Key->Value->Bool
 | .inl k,v=>Value.isInt k v
 | .inr x,v=>Value.isStrOf x v
noncomputable def Xi(w:World):Key->Int
 | .inl k=>hashInt k
 | .inr x=>hashStr w x
theorem fu:∀{k:Key}{v:Value},ku k v=true->(∃i t,k=Sum.inl i/\v=Value.int i t)\/(∃x t,k=Sum.inr x/\v=Value.str x t)
 | .inl i,v,h=>by
  obtain⟨t,e⟩:=Value.isInt_shape (k:=i) (v:=v) h
  exact .inl ⟨i,t,rfl,e⟩
 | .inr x,v,h=>by
  obtain⟨t,e⟩:=Value.isStrOf_shape (x:=x) (v:=v) h
  exact .inr ⟨x,t,rfl,e⟩
theorem Ga(i:Int)(t:Tok):ku (.inl i) (.int i t)=true:=by simp[ku,Value.isInt]
theorem Gb(x:Str)(t:Tok):ku (.inr x) (.str x t)=true:=by simp[ku,Value.isStrOf]
theorem Ou(a b:Int):decide ((Sum.inl a:Key)=Sum.inl b)=(a == b):=by
 by_cases e:a=b
 . subst e;simp
 . have h:¬ (Sum.inl a:Key)=Sum.inl b:=λq=>e (Sum.inl.inj q)
   rw[aaS h]
   exact(abr.mpr e).symm
theorem Ov(a b:Str):decide ((Sum.inr a:Key)=Sum.inr b)=decide (a=b):=by
 by_cases e:a=b
 . subst e;simp
 . have h:¬ (Sum.inr a:Key)=Sum.inr b:=λq=>e (acm q)
   rw[aaS h,aaS e]
theorem Ow(a:Int)(b:Str):decide ((Sum.inl a:Key)=Sum.inr b)=false:=aaS (λq=>nomatch q)
theorem Ox(a:Str)(b:Int):decide ((Sum.inr a:Key)=Sum.inl b)=false:=aaS (λq=>nomatch q)
noncomputable def aQ(prog:Program)(w:World):PySem.KeyKind prog w Key where
 is:=ku
 hash:=Xi w
 inj:=λv a b ha hb=>by
  rcases fu ha with⟨i,t,rfl,rfl⟩|⟨x,t,rfl,rfl⟩
  . rcases fu hb with⟨j,u,rfl,e⟩|⟨y,u,rfl,e⟩
    . injection e with e1 _;rw[e1]
    . exact nomatch e
  . rcases fu hb with⟨j,u,rfl,e⟩|⟨y,u,rfl,e⟩
    . exact nomatch e
    . injection e with e1 _;rw[e1]
 byValue:=λk v h=>by
  rcases fu h with⟨i,t,rfl,rfl⟩|⟨x,t,rfl,rfl⟩ <;> rfl
 pyHash:=λhv h=>by
  rcases fu hv with⟨i,t,rfl,rfl⟩|⟨x,t,rfl,rfl⟩
  . exact wpAny_pyHash_int h
  . exact wpAny_pyHash_str h
 eqBool:=λhu hv h=>by
  rcases fu hu with⟨i,t,rfl,rfl⟩|⟨x,t,rfl,rfl⟩
  . rcases fu hv with⟨j,u,rfl,rfl⟩|⟨y,u,rfl,rfl⟩
    . rw[Ou]at h;exact wpAny_eqBool_int h
    . rw[Ow]at h;exact SeqAt.EqAt.int_str i t y u _ _ _ _ h
  . rcases fu hv with⟨j,u,rfl,rfl⟩|⟨y,u,rfl,rfl⟩
    . rw[Ox]at h;exact SeqAt.EqAt.str_int x t j u _ _ _ _ h
    . rw[Ov]at h;exact wpAny_eqBool_str h
 «strs»:=λk x t v h=>by
  rcases fu h with⟨i,u,rfl,e⟩|⟨y,u,rfl,e⟩
  . exact nomatch e
  . injection e with e1 _
    subst e1
    cases v <;> rfl
theorem Ew(prog:Program)(w:World)(k:Key)(v:Value):(aQ prog w).is k v=ku k v:=rfl
theorem CY(prog:Program)(w:World)(i:Int)(t:Tok):(aQ prog w).is (.inl i) (.int i t)=true:=Ga i t
theorem CZ(prog:Program)(w:World)(x:Str)(t:Tok):(aQ prog w).is (.inr x) (.str x t)=true:=Gb x t
inductive V where
 | aH|bl (b:Bool)|int (i:Int)|str (x:Str)|pU (b:Array UInt8)|ja (b:UInt64)|ref (a:Addr)|ty (n:String)
 deriving DecidableEq
noncomputable def RelV:V->Value->Prop
 | .aH,u=>u=Value.none
 | .bl b,u=>u=Value.bool b
 | .int i,u=>∃t,u=Value.int i t
 | .str x,u=>∃t,u=Value.str x t
 | .pU b,u=>∃t,u=Value.bytes b t
 | .ja b,u=>∃t,u=Value.float b t
 | .ref a,u=>u=Value.ref a
 | .ty n,u=>u=Value.type n
noncomputable abbrev Vals:List V->List Value->Prop:=Paired RelV
theorem Vals.length{xs:List V}{us:List Value}(r:Vals xs us):xs.length=us.length:=adz r
theorem Vals.get:∀{xs:List V}{us:List Value}{i:Nat}{x:V},Vals xs us->xs[i]?=some x->∃u,us[i]?=some u/\RelV x u
 | _,_,_,_,.nil,e=>by simp at e
 | _,_,0,_,.cons r _,e=>by simp at e;subst e;exact⟨_,rfl,r⟩
 | _,_,i+1,x,.cons _ t,e=>by
  obtain⟨u,h1,h2⟩:=Vals.get (i:=i) (x:=x) t (by simpa using e)
  exact⟨u,by simpa using h1,h2⟩
theorem Vals.set{x:V}{u:Value}(r:RelV x u):∀{xs:List V}{us:List Value}(i:Nat),Vals xs us->Vals (xs.set i x) (us.set i u)
 | _,_,_,.nil=>.nil
 | _,_,0,.cons _ t=>.cons r t
 | _,_,i+1,.cons q t=>.cons q (Vals.set r i t)
theorem Vals.append:∀{xs ys:List V}{us ws:List Value},Vals xs us->Vals ys ws->Vals (xs++ys) (us++ws)
 | _,_,_,_,.nil,s=>s
 | _,_,_,_,.cons r t,s=>.cons r (Vals.append t s)
theorem Vals.take:∀{xs:List V}{us:List Value}(n:Nat),Vals xs us->Vals (xs.take n) (us.take n)
 | _,_,0,_=>.nil
 | _,_,_+1,.nil=>.nil
 | _,_,n+1,.cons r t=>.cons r (Vals.take n t)
theorem Vals.drop:∀{xs:List V}{us:List Value}(n:Nat),Vals xs us->Vals (xs.drop n) (us.drop n)
 | _,_,0,r=>r
 | _,_,_+1,.nil=>.nil
 | _,_,n+1,.cons _ t=>Vals.drop n t
noncomputable def jW:Option V->Option Value->Prop
 | some v,some u=>RelV v u
 | none,none=>True
 | _,_=>False
noncomputable def KV{κ:Type} : List (κ×V)->List (κ×Value)->Prop:=Paired λ(p:κ×V) (q:κ×Value)=>p.1=q.1/\RelV p.2 q.2
noncomputable def kV:Key->V
 | .inl i=>.int i
 | .inr x=>.str x
inductive HO where
 /-- a list -/
 | lst (xs:List V)
 /-- a tuple (never changes) -/
 | tup (xs:List V)
 /-- a dict whose keys are ints and texts;one whose keys are tuples of ints and texts (the empty one is both) -/
 | dK (kvs:List (Key×V))|dT (kvs:List (List Key×V))
 /-- a set of ints: its members,its size -/
 | set (S:Int->Bool) (n:Nat)
 /-- an instance of the class at C,its dict at dx,its attributes -/
 | ins (C dx:Addr) (fs:List (Str×V))
 /-- the dict of the instance at x -/
 | own (x:Addr)
 /-- the dict of an exception -/
 | xd (fs:List (Str×V))
 /-- a bound method,f of x -/
 | met (f x:Addr)
 /-- a range object lo,lo+1,.. below hi -/
 | Oy (lo hi:Int)
 /-- a thing that is known to the object (the script;a dict while a loop walks it): read,never written while it is so -/
 | cj (o:Obj) (u:HO)
 /-- a code object's table -/
 | Ay (ps:Array Value)
 /-- any other thing,by what is true of its one object (a def of one's own: SetO a S n:=HO.ext λh=>..) -/
 | ext (φ:Heap->Prop)
noncomputable abbrev Hp:=Addr->Option HO
noncomputable def upd(H:Hp)(a:Addr)(o:HO):Hp:=λb=>if b=a then some o else H b
theorem af{H:Hp}{a:Addr}{o:HO} : upd H a o a=some o:=by unfold upd;rw[aaI rfl]
theorem ai{H:Hp}{a b:Addr}{o:HO}(h:b≠a):upd H a o b=H b:=by unfold upd;rw[aay h]
theorem j5{H:Hp}{a:Addr}{o u:HO} : upd (upd H a o) a u=upd H a u:=by
 funext b;unfold upd;split <;> rfl
theorem gq{H:Hp}{a b:Addr}{o u:HO}(h:H a=some o)(h':H b=some u)(d:o≠u):a≠b:=by
 intro e;subst e;rw[h]at h';exact d (aaA h')
theorem ae{H:Hp}{a b:Addr}{o:HO}(h:H a=some o)(h':H b=none):a≠b:=by
 intro e;subst e;rw[h]at h';cases h'
section
variable (P:Program) (w:World)
noncomputable def bO(H:Hp)(h:Heap)(a:Addr):HO->Prop
 | .lst xs=>xs.length<=sizeLine/\∃(its:List Value) (n:Nat),Vals xs its/\h.get? a=some {cls:=.type "list",data:=.seq its.toArray n}
 | .tup xs=>xs.length<=sizeLine/\∃its:List Value,Vals xs its/\IsTup h a its.toArray
 | .dK kvs=>kvs.length<=sizeLine/\(a == sysModules)=false/\∃vs,KV kvs vs/\h.DictOf (aQ P w) a vs
 | .dT kvs=>kvs.length<=sizeLine/\(a == sysModules)=false/\∃xs:List (List Key×Addr×Value),
  Paired (λ(p:List Key×V) (q:List Key×Addr×Value)=>p.1=q.1/\H q.2.1=some (.tup (p.1.map kV))/\RelV p.2 q.2.2) kvs xs/\
  ∃o es ep,h.get? a=some o/\o.ExactDict/\o.data=.dict es ep/\es.toList=xs.map (entryOfKey (tupleKind (aQ P w)))/\(xs.map (·.1)).Nodup
 | .set S n=>h.SetOf (intKind P w) a S n
 | .ins C dx fs=>H dx=some (.own a)/\fs.length<=1000/\dx≠a/\h.get? a=some (W.instObj C dx)/\
  ∃mA,h.Ns1 dx mA/\(∀f,jW (fs.lookup f) (mA f))/\PySem.Within mA (fs.map (·.1))
 | .own _=>∃o,h.get? a=some o
 | .xd fs=>∃mA,h.Ns1 a mA/\∀f,jW (fs.lookup f) (mA f)
 | .Oy lo hi=>∃t u v,h.get? a=some {cls:=.type "range",data:=.fields #[.int lo t,.int hi u,.int 1 v] }
 | .cj o u=>h.get? a=some o/\bO H h a u
 | .Ay ps=>h.get? a=some {cls:=.none,data:=.fields ps}
 | .met f x=>h.get? a=some (W.methodObj (.ref f) (.ref x))
 | .ext φ=>φ h/\(∃o,h.get? a=some o)/\∀h1 h2:Heap,φ h1->(∀o,h1.get? a=some o->h2.get? a=some o)->φ h2
noncomputable def gi(H:Hp)(h:Heap):Prop:=∀a o,H a=some o->bO P w H h a o
end
section
variable {P:Program}{w:World}{H H':Hp}{h h':Heap}{a:Addr}{o:HO}
theorem bO.lt(x:bO P w H h a o):a<h.objs.size:=by
 cases o with
 | lst xs=>obtain⟨_,_,_,_,e⟩:=x;exact aam e
 | tup xs=>obtain⟨_,_,_,p⟩:=x;exact p.lt
 | dK kvs=>obtain⟨_,_,_,_,o,_,_,e,_⟩:=x;exact aam e
 | dT kvs=>obtain⟨_,_,_,_,o,_,_,e,_⟩:=x;exact aam e
 | set S n=>obtain⟨o,_,_,_,e,_⟩:=x;exact aam e
 | ins C dx fs=>obtain⟨_,_,_,e,_⟩:=x;exact aam e
 | own y=>obtain⟨_,e⟩:=x;exact aam e
 | xd fs=>obtain⟨_,⟨_,_,_,e,_⟩,_⟩:=x;exact aam e
 | Oy lo hi=>obtain⟨_,_,_,e⟩:=x;exact aam e
 | cj ob u=>obtain⟨e,_⟩:=x;exact aam e
 | Ay ps=>exact aam (show h.get? a=some _ from x)
 | met f y=>exact aam (show h.get? a=some _ from x)
 | ext φ=>obtain⟨_,⟨_,e⟩,_⟩:=x;exact aam e
theorem Paired.bQ{α β:Type}{F G:α->β->Prop} : ∀{l₁:List α}{l₂:List β},Paired F l₁ l₂->(∀a b,F a b->G a b)->Paired G l₁ l₂
 | _,_,.nil,_=>.nil
 | _,_,.cons r t,f=>.cons (f _ _ r) (Paired.bQ t f)
theorem bO.eL(x:bO P w H h a o) (k:∀b u,(b=a\/H b=some (.own a))->h.get? b=some u->h'.get? b=some u)
 (ho:∀b,H b=some (.own a)->H' b=some (.own a)) (ht:∀b xs,H b=some (.tup xs)->H' b=some (.tup xs)):bO P w H' h' a o:=by
 induction o with
 | lst xs=>obtain⟨z,its,n,r,e⟩:=x;exact⟨z,its,n,r,k _ _ (.inl rfl) e⟩
 | tup xs=>obtain⟨z,its,r,ob,e,c⟩:=x;exact⟨z,its,r,ob,k _ _ (.inl rfl) e,c⟩
 | dK kvs=>obtain⟨z,y,vs,r,ob,es,ep,e,c⟩:=x;exact⟨z,y,vs,r,ob,es,ep,k _ _ (.inl rfl) e,c⟩
 | dT kvs=>
  obtain⟨z,y,xs,r,ob,es,ep,e,c⟩:=x
  exact⟨z,y,xs,Paired.bQ r λp q z=>⟨z.1,ht _ _ z.2.1,z.2.2⟩,ob,es,ep,k _ _ (.inl rfl) e,c⟩
 | set S n=>obtain⟨ob,es,ep,t,e,c⟩:=x;exact⟨ob,es,ep,t,k _ _ (.inl rfl) e,c⟩
 | ins C dx fs=>
  obtain⟨d,z,ne,e,mA,⟨od,es,ep,e2,c⟩,r⟩:=x
  exact⟨ho _ d,z,ne,k _ _ (.inl rfl) e,mA,⟨od,es,ep,k _ _ (.inr d) e2,c⟩,r⟩
 | own y=>obtain⟨ob,e⟩:=x;exact⟨ob,k _ _ (.inl rfl) e⟩
 | xd fs=>obtain⟨mA,⟨od,es,ep,e,c⟩,r⟩:=x;exact⟨mA,⟨od,es,ep,k _ _ (.inl rfl) e,c⟩,r⟩
 | Oy lo hi=>obtain⟨t,u,v,e⟩:=x;exact⟨t,u,v,k _ _ (.inl rfl) e⟩
 | cj ob u ih=>obtain⟨e,q⟩:=x;exact⟨k _ _ (.inl rfl) e,ih q⟩
 | Ay ps=>
  have e:h.get? a=some {cls:=.none,data:=.fields ps}:=x
  show h'.get? a=some {cls:=.none,data:=.fields ps}
  exact k a _ (.inl rfl) e
 | met f y=>
  have e:h.get? a=some (W.methodObj (.ref f) (.ref y)):=x
  show h'.get? a=some (W.methodObj (.ref f) (.ref y))
  exact k a _ (.inl rfl) e
 | ext φ=>obtain⟨p,⟨o,e⟩,st⟩:=x;exact⟨st _ _ p λo q=>k _ _ (.inl rfl) q,⟨o,k _ _ (.inl rfl) e⟩,st⟩
theorem gi.lt(x:gi P w H h)(e:H a=some o):a<h.objs.size:=(x a o e).lt
theorem gi.fresh(x:gi P w H h)(e:h.objs.size<=a):H a=none:=by
 cases q:H a with
 | none=>rfl
 | some u=>exact absurd (aaP (x.lt q) e) (aby _)
theorem gi.kept(x:gi P w H h)(k:∀b u,h.get? b=some u->h'.get? b=some u):gi P w H h':=λa o e=>
 (x a o e).eL (λb u _ q=>k b u q) (λ_ q=>q) λ_ _ q=>q
theorem gi.laid(x:gi P w H h)(k:∀b u,h.get? b=some u->h'.get? b=some u)(hp:h.objs.size<=a) (new:bO P w (upd H a o) h' a o):gi P w (upd H a o) h':=λb u e=>by
 have hn:=x.fresh hp
 by_cases hb:b=a
 . subst hb;rw[af]at e;cases e;exact new
 . rw[ai hb]at e
   exact(x b u e).eL (λc v _ q=>k c v q) (λc q=>by rw[ai (ae q hn)];exact q) λc xs q=>by rw[ai (ae q hn)];exact q
end
noncomputable def Rd(H:Hp)(a:Addr)(u:HO):Prop:=H a=some u\/∃o,H a=some (.cj o u)
theorem Rd.of{H:Hp}{a:Addr}{u:HO}(h:H a=some u):Rd H a u:=.inl h
theorem Rd.ok{P:Program}{w:World}{H:Hp}{h:Heap}{a:Addr}{u:HO}(r:Rd H a u)(x:gi P w H h):bO P w H h a u:=by
 rcases r with r|⟨o,r⟩
 . exact x a u r
 . obtain⟨_,q⟩:=x a _ r
   exact q
noncomputable def Gd:Option HO->Prop
 | some (.lst _)=>True
 | some (.dK _)=>True
 | some (.dT _)=>True
 | some (.set _ _)=>True
 | some (.ins _ _ _)=>True
 | some (.ext _)=>True
 | _=>False
section
variable {P:Program}{w:World}{H:Hp}{h h':Heap}{x e:Addr}{o':HO}
theorem gi.write(ok:gi P w H h) (mu:Gd (H x)) (he:e=x\/H e=some (.own x)) (k:∀b u,b≠e->h.get? b=some u->h'.get? b=some u) (C9:∃u,h'.get? e=some u)
 (new:bO P w (upd H x o') h' x o'):gi P w (upd H x o') h':=λb u q=>by
 have Oz:∀c y,H c=some (.own y)->c≠x:=λc y r z=>by subst z;rw[r]at mu;exact mu
 have Xj:∀c xs,H c=some (.tup xs)->c≠x:=λc xs r z=>by subst z;rw[r]at mu;exact mu
 by_cases hb:b=x
 . subst hb;rw[af]at q;cases q;exact new
 . rw[ai hb]at q
   by_cases Az:b=e
   . have q':H b=some (.own x):=by
      rcases he with z|z
      . exact absurd (Az.trans z) hb
      . rw[Az];exact z
     rw[q]at q';cases q'
     obtain⟨v,hv⟩:=C9
     exact⟨v,by rw[Az];exact hv⟩
   . refine(ok b u q).eL (λc v hc r=>k c v ?_ r) (λc r=>by rw[ai (Oz c b r)];exact r) λc xs r=>by rw[ai (Xj c xs r)];exact r
     rcases hc with rfl|hc
     . exact Az
     . rintro rfl
       rcases he with z|z
       . exact Oz c b hc z
       . rw[hc]at z;cases z;exact hb rfl
end
structure Un(fs ex:List Addr) (H H':Hp) (h h':Heap):Prop where
 keep:∀b o,h.get? b=some o->H b=none->b∉fs->b∉ex->h'.get? b=some o
 slot:∀b o,h.get? b=some o->H b=none->b∈fs->b∉ex->∃sl,h'.get? b=some {o with slots:=sl}
 free:∀b o,h.get? b=some o->H b=none->b∉ex->H' b=none
 there:∀b o,h.get? b=some o->b∉ex->∃o',h'.get? b=some o'
 tups:∀b xs,H b=some (.tup xs)->H' b=some (.tup xs)
 frzs:∀b o u,H b=some (.cj o u)->H' b=some (.cj o u)
 tbls:∀b ps,H b=some (.Ay ps)->∃more,H' b=some (.Ay (ps++more))
section
variable {fs fs' ex ex':List Addr}{H H1 H2:Hp}{h h1 h2 h':Heap}{a x e:Addr}{o:HO}
theorem Un.any(u:Un fs ex H H1 h h1){b:Addr}{ob:Obj}(q:h.get? b=some ob)(n:H b=none)(hx:b∉ex):∃sl,h1.get? b=some {ob with slots:=sl}:=by
 by_cases hb:b∈fs
 . exact u.slot b ob q n hb hx
 . exact⟨ob.slots,u.keep b ob q n hb hx⟩
theorem Un.trans(a:Un fs ex H H1 h h1)(b:Un fs ex H1 H2 h1 h2):Un fs ex H H2 h h2 where
 keep:=λc ob q n hc hx=>b.keep c ob (a.keep c ob q n hc hx) (a.free c ob q n hx) hc hx
 slot:=λc ob q n hc hx=>by
  obtain⟨sl,e1⟩:=a.slot c ob q n hc hx
  obtain⟨OA,e2⟩:=b.slot c _ e1 (a.free c ob q n hx) hc hx
  exact⟨OA,e2⟩
 free:=λc ob q n hx=>by
  obtain⟨o',e1⟩:=a.there c ob q hx
  exact b.free c o' e1 (a.free c ob q n hx) hx
 there:=λc ob q hx=>by
  obtain⟨o',e1⟩:=a.there c ob q hx
  exact b.there c o' e1 hx
 tups:=λc xs q=>b.tups c xs (a.tups c xs q)
 frzs:=λc ob xs q=>b.frzs c ob xs (a.frzs c ob xs q)
 tbls:=λc ps q=>by
  obtain⟨m1,e1⟩:=a.tbls c ps q
  obtain⟨m2,e2⟩:=b.tbls c _ e1
  exact⟨m1++m2,by rw[e2,aeY]⟩
theorem Un.kept(k:∀b u,h.get? b=some u->h'.get? b=some u):Un fs ex H H h h':=
 ⟨λb ob q _ _ _=>k b ob q,λb ob q _ _ _=>⟨ob.slots,k b ob q⟩,λ_ _ _ n _=>n,λb ob q _=>⟨ob,k b ob q⟩,λ_ _ q=>q,λ_ _ _ q=>q,λ_ ps q=>⟨#[],by rw[q];simp⟩⟩
theorem Un.refl:Un fs ex H H h h:=Un.kept λ_ _ q=>q
theorem Un.laid(k:∀b u,h.get? b=some u->h'.get? b=some u)(hp:h.objs.size<=a)(hn:H a=none):Un fs ex H (upd H a o) h h' where
 keep:=λb u q _ _ _=>k b u q
 slot:=λb u q _ _ _=>⟨u.slots,k b u q⟩
 free:=λb u q n _=>by rw[ai (aax (aaP (aam q) hp))];exact n
 there:=λb u q _=>⟨u,k b u q⟩
 tups:=λb xs q=>by rw[ai (ae q hn)];exact q
 frzs:=λb u xs q=>by rw[ai (ae q hn)];exact q
 tbls:=λb ps q=>⟨#[],by rw[ai (ae q hn),q];simp⟩
theorem Un.write(mu:Gd (H x)) (he:e=x\/H e=some (.own x)) (k:∀b u,b≠e->h.get? b=some u->h'.get? b=some u) (C9:∃u,h'.get? e=some u):Un fs ex H (upd H x o) h h':=by
 have hx:∀b,H b=none->b≠x:=λb n z=>by subst z;rw[n]at mu;exact mu
 have hb:∀b,H b=none->b≠e:=λb n z=>by
  subst z
  rcases he with r|r
  . exact hx b n r
  . rw[n]at r;cases r
 have hm:∀b u,H b=some u->¬ Gd (some u)->b≠x:=λb u q nm z=>by subst z;rw[q]at mu;exact nm mu
 refine⟨λb u q n _ _=>k b u (hb b n) q,λb u q n _ _=>⟨u.slots,k b u (hb b n) q⟩,λb u q n _=>by rw[ai (hx b n)];exact n,λb u q _=>?_,
  λb xs q=>by rw[ai (hm b _ q λz=>z)];exact q,λb u xs q=>by rw[ai (hm b _ q λz=>z)];exact q,λb ps q=>⟨#[],by rw[ai (hm b _ q λz=>z),q];simp⟩⟩
 by_cases Az:b=e
 . subst Az;exact C9
 . exact⟨u,k b u Az q⟩
end
noncomputable def Lo(h:Heap)(H:Hp):List Addr:=(List.range h.objs.size).filter λa=>(H a).isSome
noncomputable def qN(h:Heap)(H:Hp):Heap:=W.hideAll h (Lo h H)
theorem Ge(h:Heap)(H:Hp):(qN h H).objs.size=h.objs.size:=W.hideAll_size _ _
theorem Jv{h:Heap}{H:Hp}{b:Addr}{o:Obj}(e:h.get? b=some o)(n:H b=none):(qN h H).get? b=some o:=
 W.hideAll_get _ e λhm=>by
  have q:(H b).isSome=true:=(aaF.mp hm).2
  rw[n]at q;simp at q
theorem M8{h:Heap}{H:Hp}{b:Addr}{o:Obj}(e:(qN h H).get? b=some o):h.get? b=some o/\H b=none:=by
 have e':h.get? b=some o:=W.of_hideAll (Lo h H) e
 refine⟨e',?_⟩
 cases q:H b with
 | none=>rfl
 | some x=>
  have hm:b∈Lo h H:=aaF.mpr ⟨adg.mpr (aam e'),by simp[q]⟩
  have z:(qN h H).get? b=none:=W.hideAll_none (Lo h H) hm
  rw[z]at e;cases e
noncomputable def Na(g h:Heap)(L:Addr):List (Addr×Obj):=(List.range h.objs.size).filterMap λa=>if a=L\/(g.get? a).isSome=true then none else (h.get? a).map λo=>(a,o)
noncomputable def rest(g h:Heap)(L d:Addr):List (Addr×Obj):=(Na g h L).filter λp=>decide (p.1≠d)
structure Mod(K:W.Frag) (mg:Str->Option Value) (base:Heap):Prop where
 kin:K.In base
 glob:base.Ns mainGlobals mg
 blt:∃mb,base.Ns builtinsNs mb/\∀x:Str,x ≠ "__name__" -> mb x=bootBuiltins x
 nolimit:base.NoLimit
structure Cx where
 prog:Program
 w:World
 K:W.Frag
 mg:Str->Option Value
 base:Heap
 A:Around
 N:List Str
 mw:Shared
 Ag:Hp
 env:Env
 outer:List Env
 stack:List Env
 ex:List Addr
 fn:Str->Bool
 calm:Bool
 pn:List (Addr×Obj)
 xe:Value->Shared->Prop
noncomputable def rN(l:List Env):List Addr:=l.filterMap (·.frame)
noncomputable abbrev Cx.fs(X:Cx):List Addr:=rN X.outer
noncomputable def OC(sc:Scope)(x:Str):Prop:=sc.names.lookup x=some .local\/sc.names.lookup x=some .cell\/sc.names.lookup x=some .free
noncomputable def Loc(sc:Scope)(x:Str):Prop:=sc.names.lookup x=some .local\/sc.names.lookup x=some .cell
noncomputable def Look(env:Env)(h:Heap)(m:Str->Option Value)(x:Str)(u:Value):Prop:=
 (env.kindOf x=some .local/\m x=some u)\/((env.kindOf x=some .cell\/env.kindOf x=some .free)/\∃c,env.cells.lookup x=some c/\h.IsCell c (some u))
structure Cx.Ok(X:Cx):Prop where
 mod:Mod X.K X.mg X.base
 kind:X.env.scope.kind=.function
 glob:X.env.globals=mainGlobals
 blt:X.env.builtins=builtinsNs
 above:X.mw.heap.objs.size<=X.env.locals
 inj:∀x y c,X.env.cells.lookup x=some c->X.env.cells.lookup y=some c->x=y
 has:∀x,(X.env.kindOf x=some .cell\/X.env.kindOf x=some .free)->∃c,X.env.cells.lookup x=some c
 cab:∀x c,X.fn x=true->X.env.cells.lookup x=some c->X.mw.heap.objs.size<=c
 hd:X.calm=true->X.A.handled=none
 frames:X.A.frames=some X.stack
 stk:X.stack=X.outer\/(X.stack=X.env::X.outer/\X.env.frame=some X.env.locals)
 exf:∀b∈X.ex,b≠X.env.locals/\∀x c,X.env.cells.lookup x=some c->c≠b
 bs:∀b o,X.base.get? b=some o->X.mw.heap.get? b=some o/\X.Ag b=none
 bsz:X.base.objs.size<=X.mw.heap.objs.size
 noex:∀b o,X.base.get? b=some o->b∉X.ex
 exfs:∀b∈X.ex,b∉X.fs
 lO:X.mw.heap.FunFrames X.base X.outer
 frf:∀b∈X.fs,X.Ag b=none
structure Inv(X:Cx) (pins:List (Addr×Obj)) (σ:List (Option V)) (H:Hp) (s:Shared):Prop where
 ok:X.Ok
 os:s.os=X.mw.os
 bare:AllBare s.gens
 base:Un X.fs X.ex X.Ag H X.mw.heap s.heap
 loc:∃m,s.heap.Ns X.env.locals m/\∀(i:Nat) (x:Str) (v:V),X.N[i]?=some x->σ[i]?=some (some v)->OC X.env.scope x->∃u,RelV v u/\Look X.env s.heap m x u
 cell:∀x c,X.env.cells.lookup x=some c->∃v,s.heap.IsCell c v
 free:H X.env.locals=none
 freeC:∀x c,X.env.cells.lookup x=some c->H c=none
 pin:∀p∈X.pn++pins,s.heap.get? p.1=some p.2/\H p.1=none/\p.1≠X.env.locals/\p.1∉X.fs/\∀v,p.2.data≠.cell v
 hok:gi X.prog X.w H s.heap
 len:σ.length=X.N.length
section
variable {X:Cx}{pins:List (Addr×Obj)}{σ:List (Option V)}{H H':Hp}{s:Shared}{h':Heap}
theorem Cx.Ok.Xk(ok:X.Ok){b:Addr}{o:Obj}(e:X.base.get? b=some o):b∉X.fs:=λhb=>by
 have:=(ok.lO.mem hb).1
 rw[e]at this;cases this
theorem Inv.bs(I:Inv X pins σ H s):∀b o,X.base.get? b=some o->s.heap.get? b=some o/\H b=none:=λb o e=>
 ⟨I.base.keep b o (I.ok.bs b o e).1 (I.ok.bs b o e).2 (I.ok.Xk e) (I.ok.noex b o e),I.base.free b o (I.ok.bs b o e).1 (I.ok.bs b o e).2 (I.ok.noex b o e)⟩
theorem Inv.bk(I:Inv X pins σ H s):∀b o,X.base.get? b=some o->s.heap.get? b=some o:=λb o e=>(I.bs b o e).1
theorem Inv.mod(I:Inv X pins σ H s):Mod X.K X.mg X.base:=I.ok.mod
theorem Inv.i0(I:Inv X pins σ H s):X.K.In s.heap:=I.ok.mod.kin.keeps I.bk
theorem Inv.lt(I:Inv X pins σ H s):X.env.locals<s.heap.objs.size:=let ⟨_,hn,_⟩:=I.loc;hn.lt
theorem Inv.sz(I:Inv X pins σ H s):X.mw.heap.objs.size<=s.heap.objs.size:=aap I.ok.above (adh I.lt)
theorem Inv.Xl(I:Inv X pins σ H s){a:Addr}(h:s.heap.objs.size<=a):a∉X.fs:=λhb=>by
 obtain⟨_,o,ho,_⟩:=I.ok.lO.mem hb
 exact absurd (aaP (aam ho) (aap I.sz h)) (aby _)
theorem Inv.AA(I:Inv X pins σ H s):∀x c,X.env.cells.lookup x=some c->c≠X.env.locals:=λx c e z=>by
 obtain⟨v,o,ho,hd⟩:=I.cell x c e
 obtain⟨m,⟨o',es,ep,iM,hd',_⟩,_⟩:=I.loc
 rw[z,iM]at ho;cases ho;rw[hd']at hd;cases hd
theorem Inv.lO(I:Inv X pins σ H s):s.heap.FunFrames X.base X.outer:=by
 have all:∀(l:List Env),(∀b∈rN l,b∈X.fs)->X.mw.heap.FunFrames X.base l->s.heap.FunFrames X.base l:=by
  intro l
  induction l with
  | nil=>intro _ _;trivial
  | cons env r ih=>
   intro hs hl
   obtain⟨hk,⟨L,o,hf,hn,ho,hd⟩,hr⟩:=hl
   have hL:L∈X.fs:=hs L (by unfold rN;rw[adC,hf];exact aaX)
   obtain⟨sl,e⟩:=I.base.slot L o ho (I.ok.frf L hL) hL λz=>I.ok.exfs L z hL
   exact⟨hk,⟨L,_,hf,hn,e,hd⟩,ih (λb hb=>hs b (by unfold rN;rw[adC,hf];exact aaL _ hb)) hr⟩
 exact all X.outer (λ_ hb=>hb) I.ok.lO
theorem Inv.stack(I:Inv X pins σ H s):s.heap.FunFrames X.base X.stack:=by
 rcases I.ok.stk with e|⟨e,hf⟩
 . rw[e];exact I.lO
 . rw[e]
   obtain⟨m,hn,_⟩:=I.loc
   refine .cons (by rw[I.ok.kind];decide) hf hn ?_ I.lO
   exact adx (aap I.ok.bsz I.ok.above)
theorem Inv.sy(I:Inv X pins σ H s):∀b∈rN X.stack,b∈X.env.locals::X.fs:=λb hb=>by
 rcases I.ok.stk with e|⟨e,hf⟩
 . rw[e]at hb;exact aaL _ hb
 . rw[e]at hb
   unfold rN at hb
   rw[adC,hf]at hb
   exact hb
theorem Inv.Dc(I:Inv X pins σ H s):∀b∈rN X.stack,H b=none:=λb hb=>by
 rcases aan.mp (I.sy b hb) with e|hb
 . rw[e];exact I.free
 . obtain⟨_,o,ho,_⟩:=I.ok.lO.mem hb
   exact I.base.free b o ho (I.ok.frf b hb) λz=>I.ok.exfs b z hb
theorem Inv.step{g':Array GenState}{t':Nat}{d':Drawn}{ch:List Addr}(I:Inv X pins σ H s)
 (rO:∀b∈ch,(b∈X.ex\/X.mw.heap.objs.size<=b)/\b≠X.env.locals/\(∀x c,X.env.cells.lookup x=some c->c≠b)/\∀p∈X.pn++pins,p.1≠b)
 (keep:∀b o,b≠X.env.locals->b∉X.fs->b∉ch->s.heap.get? b=some o->H b=none->h'.get? b=some o)
 (slot:∀b o,b≠X.env.locals->b∈X.fs->b∉ch->s.heap.get? b=some o->H b=none->∃sl,h'.get? b=some {o with slots:=sl}) (free:∀b o,b∉ch->s.heap.get? b=some o->H b=none->H' b=none)
 (there:∀b o,b∉ch->s.heap.get? b=some o->∃o',h'.get? b=some o')
 (tups:∀b xs,H b=some (.tup xs)->H' b=some (.tup xs)) (frzs:∀b o u,H b=some (.cj o u)->H' b=some (.cj o u)) (tbls:∀b ps,H b=some (.Ay ps)->∃more,H' b=some (.Ay (ps++more)))
 (ns:∀m,s.heap.Ns X.env.locals m->h'.Ns X.env.locals m) (hok:gi X.prog X.w H' h') (hg:AllBare g') :
 Inv X pins σ H' {s with heap:=h',gens:=g',drawn:=d',toks:=t'}:=by
 have U5:∀b o,X.mw.heap.get? b=some o->b≠X.env.locals:=λb o e=>aax (aaP (aam e) I.ok.above)
 have Lp:∀b o,X.mw.heap.get? b=some o->b∉X.ex->b∉ch:=λb o e hx hb=>by
  rcases (rO b hb).1 with z|z
  . exact hx z
  . exact absurd (aaP (aam e) z) (aby _)
 have cellK:∀x c,X.env.cells.lookup x=some c->∀v,s.heap.IsCell c v->h'.IsCell c v:=λx c e v ⟨o,ho,hd⟩=>by
  have Gf:c∉ch:=λz=>(rO c z).2.2.1 x c e rfl
  by_cases hc:c∈X.fs
  . obtain⟨sl,q⟩:=slot c o (I.AA x c e) hc Gf ho (I.freeC x c e)
    exact⟨_,q,hd⟩
  . exact⟨o,keep c o (I.AA x c e) hc Gf ho (I.freeC x c e),hd⟩
 refine⟨I.ok,I.os,hg,⟨λb o e n hb hx=>?_,λb o e n hb hx=>?_,λb o e n hx=>?_,λb o e hx=>?_,λb xs e=>tups b xs (I.base.tups b xs e),λb o xs e=>frzs b o xs (I.base.frzs b o xs e),λb ps e=>?_⟩,?_,λx c e=>?_,?_,λx c e=>?_,λp hp=>?_,hok,I.len⟩
 . exact keep b o (U5 b o e) hb (Lp b o e hx) (I.base.keep b o e n hb hx) (I.base.free b o e n hx)
 . obtain⟨sl,e1⟩:=I.base.slot b o e n hb hx
   obtain⟨OA,e2⟩:=slot b _ (U5 b o e) hb (Lp b o e hx) e1 (I.base.free b o e n hx)
   exact⟨OA,e2⟩
 . obtain⟨o',e1⟩:=I.base.there b o e hx
   exact free b o' (Lp b o e hx) e1 (I.base.free b o e n hx)
 . obtain⟨o',e1⟩:=I.base.there b o e hx
   exact there b o' (Lp b o e hx) e1
 . obtain⟨m1,e1⟩:=I.base.tbls b ps e
   obtain⟨m2,e2⟩:=tbls b _ e1
   exact⟨m1++m2,by rw[e2,aeY]⟩
 . obtain⟨m,hn,hl⟩:=I.loc
   refine⟨m,ns m hn,λi x v e1 e2 e3=>?_⟩
   obtain⟨u,r,l⟩:=hl i x v e1 e2 e3
   refine⟨u,r,?_⟩
   rcases l with l|⟨k,c,e,z⟩
   . exact .inl l
   . exact .inr ⟨k,c,e,cellK x c e _ z⟩
 . obtain⟨v,z⟩:=I.cell x c e
   exact⟨v,cellK x c e v z⟩
 . obtain⟨m,⟨o,_,_,ho,_⟩,_⟩:=I.loc
   exact free _ o (λz=>(rO _ z).2.1 rfl) ho I.free
 . obtain⟨v,o,ho,hd⟩:=I.cell x c e
   exact free c o (λz=>(rO c z).2.2.1 x c e rfl) ho (I.freeC x c e)
 . obtain⟨e,n,ne,nf,d⟩:=I.pin p hp
   have Gf:p.1∉ch:=λz=>(rO p.1 z).2.2.2 p hp rfl
   exact⟨keep p.1 p.2 ne nf Gf e n,free p.1 p.2 Gf e n,ne,nf,d⟩
theorem Inv.un{t':Nat}(I:Inv X pins σ H s)(u:Un X.fs [] H H' s.heap h')(hok:gi X.prog X.w H' h'):Inv X pins σ H' {s with heap:=h',toks:=t'}:=by
 obtain⟨m,⟨o,es,ep,ho,r⟩,_⟩:=id I.loc
 obtain⟨sl,hL⟩:=u.any ho I.free (by simp)
 exact I.step (g':=s.gens) (d':=s.drawn) (ch:=[]) (λ_ z=>nomatch z) (λb o _ hb _ e n=>u.keep b o e n hb (by simp)) (λb o _ hb _ e n=>u.slot b o e n hb (by simp)) (λb o _ e n=>u.free b o e n (by simp)) (λb o _ e=>u.there b o e (by simp)) u.tups u.frzs u.tbls (λm' hm=>by
  obtain⟨o',yX,yY,iM,r'⟩:=hm
  rw[ho]at iM;cases iM
  exact⟨_,yX,yY,hL,r'⟩) hok I.bare
theorem Inv.call{g':Array GenState}{t':Nat}{d':Drawn}{ch:List Addr}(I:Inv X pins σ H s) (u:Un (rN X.stack) ch H H' s.heap h') (hok:gi X.prog X.w H' h') (hg:AllBare g')
 (rO:∀b∈ch,(b∈X.ex\/X.mw.heap.objs.size<=b)/\b≠X.env.locals/\(∀x c,X.env.cells.lookup x=some c->c≠b)/\∀p∈X.pn++pins,p.1≠b) :
 Inv X pins σ H' {s with heap:=h',gens:=g',drawn:=d',toks:=t'}:=by
 obtain⟨m,⟨o,es,ep,ho,r⟩,_⟩:=id I.loc
 obtain⟨sl,hL⟩:=u.any ho I.free λz=>(rO _ z).2.1 rfl
 exact I.step (ch:=ch) rO (λb o hL hb hc e n=>u.keep b o e n (λz=>(aan.mp (I.sy b z)).elim hL hb) hc) (λb o _ _ hc e n=>u.any e n hc) (λb o hc e n=>u.free b o e n hc) (λb o hc e=>u.there b o e hc) u.tups u.frzs u.tbls (λm' hm=>by
  obtain⟨o',yX,yY,iM,r'⟩:=hm
  rw[ho]at iM;cases iM
  exact⟨_,yX,yY,hL,r'⟩) hok hg
theorem Inv.turned{t':Nat}{it:Addr}(I:Inv X pins σ H s)(k:∀b o,b≠it->s.heap.get? b=some o->h'.get? b=some o)(hn:H it=none)(hL:it≠X.env.locals)
 (h1:it∈X.ex\/X.mw.heap.objs.size<=it) (h2:∀x c,X.env.cells.lookup x=some c->c≠it) (h3:∀p∈X.pn++pins,p.1≠it):Inv X pins σ H {s with heap:=h',toks:=t'}:=by
 have U6:∀b u,H b=some u->b≠it:=λb u e z=>by rw[z,hn]at e;cases e
 refine I.step (g':=s.gens) (d':=s.drawn) (ch:=[it]) (λb hb=>?_) (λb o _ _ hc e _=>k b o (λz=>hc (by simp[z])) e) (λb o _ _ hc e _=>⟨o.slots,k b o (λz=>hc (by simp[z])) e⟩) (λ_ _ _ _ n=>n)
  (λb o hc e=>⟨o,k b o (λz=>hc (by simp[z])) e⟩) (λ_ _ e=>e) (λ_ _ _ e=>e) (λb ps e=>⟨#[],by rw[e];simp⟩) (λm hm=>?_) (λb u e=>?_) I.bare
 . have e:b=it:=by simpa using hb
   subst e
   exact⟨h1,hL,h2,h3⟩
 . obtain⟨o,es,ep,ho,r⟩:=hm
   exact⟨o,es,ep,k _ o (aav hL) ho,r⟩
 . refine(I.hok b u e).eL (λc v hc q=>k c v ?_ q) (λ_ q=>q) λ_ _ q=>q
   rcases hc with z|z
   . rw[z];exact U6 b u e
   . exact U6 c _ z
theorem Inv.tok(I:Inv X pins σ H s)(t:Nat):Inv X pins σ H {s with toks:=t}:=I.un (h':=s.heap) (t':=t) Un.refl I.hok
theorem Inv.kept{t':Nat}(I:Inv X pins σ H s)(k:∀b u,s.heap.get? b=some u->h'.get? b=some u):Inv X pins σ H {s with heap:=h',toks:=t'}:=I.un (Un.kept k) (I.hok.kept k)
theorem Inv.laid{a:Addr}{o:HO}{t':Nat}(I:Inv X pins σ H s)(k:∀b u,s.heap.get? b=some u->h'.get? b=some u)(hp:s.heap.objs.size<=a) (new:bO X.prog X.w (upd H a o) h' a o) :
 Inv X pins σ (upd H a o) {s with heap:=h',toks:=t'}:=I.un (Un.laid k hp (I.hok.fresh hp)) (I.hok.laid k hp new)
theorem Inv.write{x e:Addr}{o:HO}{t':Nat}(I:Inv X pins σ H s) (mu:Gd (H x)) (he:e=x\/H e=some (.own x)) (k:∀b u,b≠e->s.heap.get? b=some u->h'.get? b=some u) (C9:∃u,h'.get? e=some u)
 (new:bO X.prog X.w (upd H x o) h' x o):Inv X pins σ (upd H x o) {s with heap:=h',toks:=t'}:=I.un (Un.write mu he k C9) (I.hok.write mu he k C9 new)
theorem Inv.De{Lq:List (Addr×Obj)}(I:Inv X pins σ H s) (h:∀p∈Lq,s.heap.get? p.1=some p.2/\H p.1=none/\p.1≠X.env.locals/\p.1∉X.fs/\∀v,p.2.data≠.cell v):Inv X Lq σ H s:=
 ⟨I.ok,I.os,I.bare,I.base,I.loc,I.cell,I.free,I.freeC,λp hp=>(aag.mp hp).elim (λz=>I.pin p (acf _ z)) (h p),I.hok,I.len⟩
theorem AB{N:List Str}(hN:N.Nodup){i j:Nat}{x:Str}(a:N[i]?=some x)(b:N[j]?=some x):i=j:=by
 obtain⟨h1,e1⟩:=aaq.mp a
 obtain⟨h2,e2⟩:=aaq.mp b
 exact(List.getElem_inj hN).mp (e1.trans e2.symm)
theorem yZ{M:Model}{A:Around}{E:Value->Shared->Prop}{i:Nat}{x:Str}{v:V}{u:Value}{Q:Unit->Shared->Prop}(I:Inv X pins σ H s)(hN:X.N.Nodup)(hi:X.N[i]?=some x)(hx:Loc X.env.scope x)(r:RelV v u)
 (h:∀s',Inv X pins (σ.set i (some v)) H s'->(∃a,Heap.SameBut a s.heap s'.heap/\(a=X.env.locals\/X.env.cells.lookup x=some a))->Q () s') (hf:X.fn x=true\/X.env.scope.names.lookup x=some .local:=by first|exact .inl rfl|exact .inr rfl|assumption):wpAny M A (storeName X.env x u) Q E s:=by
 obtain⟨m,hn,hl⟩:=id I.loc
 have Xm:(X.env.scope.kind == .class || (X.env.scope.kind == .module && X.env.locals != X.env.globals))=false:=by rw[I.ok.kind];rfl
 have hiσ:i < σ.length:=by rw[I.len];exact(aaq.mp hi).1
 have AA:=I.AA
 have tracked:∀{a:Addr}{h':Heap},(∃o,s.heap.get? a=some o/\H a=none)->Heap.SameBut a s.heap h'->gi X.prog X.w H h':=λ{a h'} ha hs b ob e=>by
  obtain⟨_,_,Lr⟩:=ha
  refine(I.hok b ob e).eL (λc w' hc q=>(hs.2 c ?_).trans q) (λ_ q=>q) λ_ _ q=>q
  rintro rfl
  rcases hc with rfl|hc
  . rw[Lr]at e;cases e
  . rw[Lr]at hc;cases hc
 rcases hx with hk|hk
 . refine wpAny_storeName_local hk hn (λh' rP hs=>?_) Xm
   obtain⟨oL,_,_,YG,_⟩:=id hn
   refine h _ ⟨I.ok,I.os,I.bare,⟨λb o e n hb hx=>?_,λb o e n hb hx=>?_,I.base.free,λb o e hx=>?_,I.base.tups,I.base.frzs,I.base.tbls⟩,⟨_,rP,λj y v' e1 e2 e3=>?_⟩,λy c e=>?_,I.free,I.freeC,λp hp=>?_,tracked ⟨oL,YG,I.free⟩ hs,by simpa using I.len⟩ ⟨_,hs,.inl rfl⟩
   . exact(hs.2 b (aax (aaP (aam e) I.ok.above))).trans (I.base.keep b o e n hb hx)
   . obtain⟨sl,e1⟩:=I.base.slot b o e n hb hx
     exact⟨sl,(hs.2 b (aax (aaP (aam e) I.ok.above))).trans e1⟩
   . obtain⟨o',e1⟩:=I.base.there b o e hx
     exact⟨o',(hs.2 b (aax (aaP (aam e) I.ok.above))).trans e1⟩
   . by_cases hj:j=i
     . subst hj
       rw[hi]at e1;cases e1
       rw[aeD hiσ]at e2
       cases e2
       exact⟨u,r,.inl ⟨hk,by simp⟩⟩
     . rw[aeP (aav hj)]at e2
       obtain⟨u',r',q⟩:=hl j y v' e1 e2 e3
       refine⟨u',r',?_⟩
       rcases q with⟨k,e⟩|⟨k,c,e,z⟩
       . refine .inl ⟨k,?_⟩
         have:y≠x:=λe=>hj (AB hN e1 (e ▸ hi))
         simp[this,e]
       . exact .inr ⟨k,c,e,z.sameBut hs (AA y c e)⟩
   . obtain⟨w',z⟩:=I.cell y c e
     exact⟨w',z.sameBut hs (AA y c e)⟩
   . obtain⟨e,n,ne,nf,d⟩:=I.pin p hp
     exact⟨(hs.2 p.1 ne).trans e,n,ne,nf,d⟩
 . have OD:X.fn x=true:=by
    rcases hf with z|z
    . exact z
    . rw[z]at hk;cases hk
   obtain⟨c,hc⟩:=I.ok.has x (.inl hk)
   obtain⟨w',z⟩:=I.cell x c hc
   refine wpAny_storeName_cell I.ok.kind hk hc z (λh' bZ hs=>?_)
   obtain⟨oc,U7,Xn⟩:=id z
   refine h {s with heap:=h'} ⟨I.ok,I.os,I.bare,⟨λb o e n hb hx=>?_,λb o e n hb hx=>?_,I.base.free,λb o e hx=>?_,I.base.tups,I.base.frzs,I.base.tbls⟩,⟨m,hn.sameBut hs (aav (AA x c hc)),λj y v' e1 e2 e3=>?_⟩,λy c' e=>?_,I.free,I.freeC,λp hp=>?_,tracked ⟨oc,U7,I.freeC x c hc⟩ hs,by simpa using I.len⟩ ⟨c,hs,.inr hc⟩
   . exact(hs.2 b (aax (aaP (aam e) (I.ok.cab x c OD hc)))).trans (I.base.keep b o e n hb hx)
   . obtain⟨sl,e1⟩:=I.base.slot b o e n hb hx
     exact⟨sl,(hs.2 b (aax (aaP (aam e) (I.ok.cab x c OD hc)))).trans e1⟩
   . obtain⟨o',e1⟩:=I.base.there b o e hx
     exact⟨o',(hs.2 b (aax (aaP (aam e) (I.ok.cab x c OD hc)))).trans e1⟩
   . by_cases hj:j=i
     . subst hj
       rw[hi]at e1;cases e1
       rw[aeD hiσ]at e2
       cases e2
       exact⟨u,r,.inr ⟨.inl hk,c,hc,bZ⟩⟩
     . rw[aeP (aav hj)]at e2
       obtain⟨u',r',q⟩:=hl j y v' e1 e2 e3
       refine⟨u',r',?_⟩
       rcases q with q|⟨k,c',e,z'⟩
       . exact .inl q
       . refine .inr ⟨k,c',e,z'.sameBut hs ?_⟩
         rintro rfl
         exact hj (AB hN e1 (I.ok.inj _ _ _ e hc ▸ hi))
   . by_cases U8:c'=c
     . subst U8;exact⟨_,bZ⟩
     . obtain⟨w2,z2⟩:=I.cell y c' e
       exact⟨w2,z2.sameBut hs U8⟩
   . obtain⟨e,n,ne,nf,d⟩:=I.pin p hp
     refine⟨(hs.2 p.1 ?_).trans e,n,ne,nf,d⟩
     intro q
     rw[q,U7]at e
     have q':oc=p.2:=aaA e
     exact d w' (by rw[← q'];exact Xn)
theorem qO{M:Model}{A:Around}{E:Value->Shared->Prop}{i:Nat}{x:Str}{v:V}{u:Value}{Q:Unit->Shared->Prop}(I:Inv X pins σ H s)(hN:X.N.Nodup)(hi:X.N[i]?=some x)(hx:Loc X.env.scope x)(r:RelV v u)
 (h:∀s',Inv X pins (σ.set i (some v)) H s'->Q () s') (hf:X.fn x=true\/X.env.scope.names.lookup x=some .local:=by first|exact .inl rfl|exact .inr rfl|assumption):wpAny M A (storeName X.env x u) Q E s:=
 yZ I hN hi hx r (λs' I' _=>h s' I') hf
theorem Inv.TX{s':Shared}{ch:List Addr}(I:Inv X pins σ H s)(ho:s'.os=s.os) (u:Un (rN X.stack) ch H H' s.heap s'.heap) (hok:gi X.prog X.w H' s'.heap) (hg:AllBare s'.gens)
 (rO:∀b∈ch,(b∈X.ex\/X.mw.heap.objs.size<=b)/\b≠X.env.locals/\(∀x c,X.env.cells.lookup x=some c->c≠b)/\∀p∈X.pn++pins,p.1≠b):Inv X pins σ H' s':=by
 obtain⟨h',g',d',t',o'⟩:=s'
 have e:o'=s.os:=ho
 subst e
 exact I.call (g':=g') (t':=t') (d':=d') u hok hg rO
end
noncomputable abbrev XK:=Value->Option Addr->Hp->Prop
noncomputable abbrev St:=List (Option V)
noncomputable abbrev VK:=V->Hp->Prop
noncomputable abbrev TE:=St->Hp->VK->Prop
noncomputable abbrev TT:=St->Hp->(Bool->Hp->Prop)->Prop
noncomputable abbrev TA:=St->Hp->(List V->Hp->Prop)->Prop
structure Ends where
 nx:St->Hp->Prop
 rt:VK
 bk:St->Hp->Prop:=λ_ _=>False
 ct:St->Hp->Prop:=λ_ _=>False
noncomputable abbrev TS:=Ends->St->Hp->Prop
noncomputable def EP(X:Cx) (pins:List (Addr×Obj)) (σ:St) (Q:VK) (u:Value) (s':Shared):Prop:=∃v H',Inv X pins σ H' s'/\RelV v u/\Q v H'
noncomputable def TP(X:Cx) (pins:List (Addr×Obj)) (σ:St) (Q:Bool->Hp->Prop) (b:Bool) (s':Shared):Prop:=∃H',Inv X pins σ H' s'/\Q b H'
noncomputable def AP(X:Cx) (pins:List (Addr×Obj)) (σ:St) (Q:List V->Hp->Prop) (us:List Value) (s':Shared):Prop:=∃vs H',Inv X pins σ H' s'/\Vals vs us/\Q vs H'
noncomputable def SP(X:Cx) (pins:List (Addr×Obj)) (D:Ends) (f:Flow) (s':Shared):Prop:=
 match f with
 | .next=>∃br H',Inv X pins br H' s'/\D.nx br H'
 | .brk=>∃br H',Inv X pins br H' s'/\D.bk br H'
 | .cont=>∃br H',Inv X pins br H' s'/\D.ct br H'
 | .ret u=>∃v br H',Inv X pins br H' s'/\RelV v u/\D.rt v H'
noncomputable def PE(X:Cx)(e:Expr)(t:TE):Prop:=
 ∀(pins:List (Addr×Obj)) (s:Shared) (σ:St) (H:Hp) (Q:VK),Inv X pins σ H s->t σ H Q->wpAny (model X.prog X.w) X.A (eval e X.env) (EP X pins σ Q) X.xe s
noncomputable def PT(X:Cx)(e:Expr)(t:TT):Prop:=
 ∀(pins:List (Addr×Obj)) (s:Shared) (σ:St) (H:Hp) (Q:Bool->Hp->Prop),Inv X pins σ H s->t σ H Q->wpAny (model X.prog X.w) X.A (isTrue e X.env (eval e X.env)) (TP X pins σ Q) X.xe s
noncomputable def PW(X:Cx)(e:Expr)(t:TT):Prop:=
 ∀(whole:Sem Value) (pins:List (Addr×Obj)) (s:Shared) (σ:St) (H:Hp) (Q:Bool->Hp->Prop),Inv X pins σ H s->t σ H Q->wpAny (model X.prog X.w) X.A (isTrue e X.env whole) (TP X pins σ Q) X.xe s
theorem PW.pt{X:Cx}{e:Expr}{t:TT}(h:PW X e t):PT X e t:=h _
noncomputable def PA(X:Cx)(es:List Expr)(t:TA):Prop:=
 ∀(pos:Pos) (pins:List (Addr×Obj)) (s:Shared) (σ:St) (H:Hp) (Q:List V->Hp->Prop),Inv X pins σ H s->t σ H Q->wpAny (model X.prog X.w) X.A (spliced (backTo pos (starEach es X.env))) (AP X pins σ Q) X.xe s
noncomputable def PS(X:Cx)(st:Stmt)(t:TS):Prop:=
 ∀(pins:List (Addr×Obj)) (s:Shared) (σ:St) (H:Hp) (D:Ends),Inv X pins σ H s->t D σ H->wpAny (model X.prog X.w) X.A (exec st X.env) (SP X pins D) X.xe s
noncomputable def gj(X:Cx)(st:List Stmt)(t:TS):Prop:=
 ∀(pins:List (Addr×Obj)) (s:Shared) (σ:St) (H:Hp) (D:Ends),Inv X pins σ H s->t D σ H->wpAny (model X.prog X.w) X.A (execs st X.env) (SP X pins D) X.xe s
theorem aD{α:Type}{t:Sem α}{Q Q':α->Shared->Prop}{M:Model}{A:Around}{E:Value->Shared->Prop}{s:Shared}(h:wpAny M A t Q E s)(hQ:∀a s,Q a s->Q' a s):wpAny M A t Q' E s:=abG h hQ λ_ _ x=>x
section
variable {X:Cx}
theorem bin{a b:Expr}{ta tb:TE}(ha:PE X a ta)(hb:PE X b tb){pins:List (Addr×Obj)}{s:Shared}{σ:St}{H:Hp}{R:V->V->Hp->Prop}(I:Inv X pins σ H s) (h:ta σ H λx H1=>tb σ H1 λy H2=>R x y H2)
 {α:Type}{Q:α->Shared->Prop}{f:Value->Value->Sem α}
 (hf:∀v u s2 x y H2,Inv X pins σ H2 s2->RelV x v->RelV y u->R x y H2->wpAny (model X.prog X.w) X.A (f v u) Q X.xe s2) :
 wpAny (model X.prog X.w) X.A (eval a X.env) (λv eC=>wpAny (model X.prog X.w) X.A (eval b X.env) (λu uT=>wpAny (model X.prog X.w) X.A (f v u) Q X.xe uT) X.xe eC) X.xe s:=by
 refine aD (ha pins s σ H _ I h) λv s1 zq=>?_
 obtain⟨x,H1,I1,r1,q1⟩:=zq
 refine aD (hb pins s1 σ H1 _ I1 q1) λu s2 zq=>?_
 obtain⟨y,H2,I2,r2,q2⟩:=zq
 exact hf v u s2 x y H2 I2 r1 r2 q2
noncomputable def cg(i:Nat):TE:=λσ H Q=>∃v,σ[i]?=some (some v)/\Q v H
noncomputable def tC(v:V):TE:=λ_ H Q=>Q v H
theorem OE{i:Nat}{x:Str}{pos:Pos}(hN:X.N[i]?=some x)(hv:OC X.env.scope x) (hd:(x == ("__debug__" : Str))=false:=by decide) (mx:(x == ("__classdict__" : Str))=false:=by decide):PE X (.Name x pos) (cg i):=by
 intro pins s σ H Q I h
 obtain⟨v,e,h⟩:=h
 obtain⟨m,hn,hl⟩:=I.loc
 obtain⟨u,r,l⟩:=hl i x v hN e hv
 have fin:EP X pins σ Q u s:=⟨v,H,I,r,h⟩
 rcases l with⟨hk,hm⟩|⟨hk,c,hc,Ls⟩
 . exact wpAny_Name (wpAny_loadName_local I.ok.kind hk hn hm fin) hd
 . rcases hk with hk|hk
   . exact wpAny_Name (wpAny_loadName_cell I.ok.kind hk hc Ls fin) hd
   . exact wpAny_Name (wpAny_loadName_free I.ok.kind hk hc Ls fin mx) hd
theorem ak{i j pos} : PE X (.Constant (.int i) j pos) (tC (.int i)):=λ_ _ _ H _ I h=>wpAny_Constant_int ⟨.int i,H,I.tok _,⟨_,rfl⟩,h⟩
theorem mh{b j pos} : PE X (.Constant (.bool b) j pos) (tC (.bl b)):=λ_ _ _ H _ I h=>Constant_bool ⟨.bl b,H,I,rfl,h⟩
theorem ky{j pos} : PE X (.Constant .none j pos) (tC .aH):=λ_ _ _ H _ I h=>Constant_none ⟨.aH,H,I,rfl,h⟩
theorem av{x j pos} : PE X (.Constant (.str x) j pos) (tC (.str x)):=λ_ _ _ H _ I h=>adP ⟨.str x,H,I.tok _,⟨_,rfl⟩,h⟩
noncomputable def Gl(X:Cx)(x:Str):Prop:=X.env.kindOf x=some .globalImplicit
theorem pV{E:Value->Shared->Prop}{pins:List (Addr×Obj)}{s:Shared}{σ:St}{H:Hp}{x:Str}{u:Value}{pos:Pos}{Q:Value->Shared->Prop}(I:Inv X pins σ H s) (hg:Gl X x) (hm:X.mg x=some u) (h:Q u s)
 (hd:(x == ("__debug__" : Str))=false:=by decide):wpAny (model X.prog X.w) X.A (eval (.Name x pos) X.env) Q E s:=
 adN I.ok.kind hg (Calls.loadGlobal_global (by rw[I.ok.glob];exact I.mod.glob.keeps I.bk) hm h) hd
theorem i3{E:Value->Shared->Prop}{pins:List (Addr×Obj)}{s:Shared}{σ:St}{H:Hp}{x:Str}{u:Value}{pos:Pos}{Q:Value->Shared->Prop}(I:Inv X pins σ H s) (hg:Gl X x) (hm:X.mg x=none) (hv:bootBuiltins x=some u) (h:Q u s)
 (hn:x ≠ "__name__":=by decide) (hd:(x == ("__debug__" : Str))=false:=by decide):wpAny (model X.prog X.w) X.A (eval (.Name x pos) X.env) Q E s:=by
 obtain⟨mb,h1,h2⟩:=I.mod.blt
 exact adN I.ok.kind hg (Calls.loadGlobal_builtin (by rw[I.ok.glob];exact I.mod.glob.keeps I.bk) hm (by rw[I.ok.blt];exact h1.keeps I.bk) ((h2 x hn).trans hv) h) hd
theorem Nb{x:Str}{v:V}{u:Value}{pos:Pos}(hg:Gl X x)(hm:X.mg x=some u)(r:RelV v u) (hd:(x == ("__debug__" : Str))=false:=by decide):PE X (.Name x pos) (tC v):=
 λ_ _ _ H _ I h=>pV I hg hm ⟨v,H,I,r,h⟩ hd
theorem Df{x:Str}{v:V}{u:Value}{pos:Pos}(hg:Gl X x)(hm:X.mg x=none)(hv:bootBuiltins x=some u)(r:RelV v u)(hn:x ≠ "__name__":=by decide) (hd:(x == ("__debug__" : Str))=false:=by decide):PE X (.Name x pos) (tC v):=
 λ_ _ _ H _ I h=>i3 I hg hm hv ⟨v,H,I,r,h⟩ hn hd
noncomputable def YH(ta tb:TE)(k:Int->Int->Hp->Prop):St->Hp->Prop:=λσ H=>ta σ H λx H1=>tb σ H1 λy H2=>∃i j,x=.int i/\y=.int j/\k i j H2
variable {a b:Expr}{ta tb:TE}{pos:Pos}
noncomputable def PC(X:Cx)(op:CmpOp)(a b:Expr)(t:TE):Prop:=
 ∀(pins:List (Addr×Obj)) (s:Shared) (σ:St) (H:Hp) (Q:VK),Inv X pins σ H s->t σ H Q->
  wpAny (model X.prog X.w) X.A (eval a X.env) (λv eC=>wpAny (model X.prog X.w) X.A (eval b X.env) (λu uT=>wpAny (model X.prog X.w) X.A (compareOp op v u) (EP X pins σ Q) X.xe uT) X.xe eC) X.xe s
theorem AD(b:Expr){op:CmpOp}(h:op≠.In)(h2:op≠.NotIn):behindInMarks op b=false:=by
 have e1:(op == CmpOp.In)=false:=by cases op <;> first|rfl|exact absurd rfl h
 have e2:(op == CmpOp.NotIn)=false:=by cases op <;> first|rfl|exact absurd rfl h2
 cases b <;> simp[behindInMarks,e1,e2]
noncomputable def OF(p:Int->Int->Bool)(ta tb:TE):TE:=λσ H Q=>YH ta tb (λi j H2=>Q (.bl (p i j)) H2) σ H
noncomputable abbrev Xo:TE->TE->TE:=OF λi j=>!decide (i=j)
theorem OG{op:CmpOp}{p:Int->Int->Bool}(ha:PE X a ta)(hb:PE X b tb)
 (rule:∀(i j:Int) (t u:Tok) (Q:Value->Shared->Prop) (s:Shared),Q (.bool (p i j)) s->wpAny (model X.prog X.w) X.A (compareOp op (.int i t) (.int j u)) Q X.xe s):PC X op a b (OF p ta tb):=by
 intro pins s σ H Q I h
 refine bin ha hb I h λv u s2 x y H2 I2 rx ry q=>?_
 obtain⟨i,j,rfl,rfl,q⟩:=q
 obtain⟨t,rfl⟩:=rx
 obtain⟨t',rfl⟩:=ry
 exact rule i j t t' _ s2 ⟨.bl _,H2,I2,rfl,q⟩
theorem AE(ha:PE X a ta)(hb:PE X b tb):PC X .NotEq a b (Xo ta tb):=OG ha hb λ_ _ _ _ _ _ h=>ne_int (by rw[bne,Bool.beq_eq_decide_eq];exact h)
noncomputable def Xp(ta:TE):TE:=λσ H Q=>ta σ H λx H1=>Q (.bl (decide (x=.aH))) H1
noncomputable def TY(ta:TE):TE:=λσ H Q=>ta σ H λx H1=>Q (.bl (!decide (x=.aH))) H1
theorem RelV.AF{x:V}{v:Value}(r:RelV x v):(v == Value.none)=decide (x=.aH):=by
 cases x with
 | aH=>cases r;rfl
 | bl _=>cases r;rfl
 | int _=>obtain⟨t,rfl⟩:=r;rfl
 | str _=>obtain⟨t,rfl⟩:=r;rfl
 | pU _=>obtain⟨t,rfl⟩:=r;rfl
 | ja _=>obtain⟨t,rfl⟩:=r;rfl
 | ref _=>cases r;rfl
 | ty _=>cases r;rfl
theorem my{j pos'} (ha:PE X a ta):PC X .Is a (.Constant .none j pos') (Xp ta):=by
 intro pins s σ H Q I h
 refine aD (ha pins s σ H _ I h) λv s1 zq=>?_
 obtain⟨x,H1,I1,r1,q1⟩:=zq
 exact Constant_none (is_none_gen ⟨.bl _,H1,I1,by rw[r1.AF];rfl,q1⟩)
theorem pW{j pos'} (ha:PE X a ta):PC X .IsNot a (.Constant .none j pos') (TY ta):=by
 intro pins s σ H Q I h
 refine aD (ha pins s σ H _ I h) λv s1 zq=>?_
 obtain⟨x,H1,I1,r1,q1⟩:=zq
 exact Constant_none (isnot_none_gen ⟨.bl _,H1,I1,by rw[r1.AF];rfl,q1⟩)
noncomputable def tB(t:TE):TT:=λσ H Q=>t σ H λx H1=>∃c,x=.bl c/\Q c H1
theorem Gg{op:CmpOp}{t:TE}(h:PC X op a b t) (h1:behindInMarks op b=false:=by first|exact AD _ (by decide) (by decide)|rfl):PE X (.Compare a [op] [b] pos) t:=λpins s σ H Q I hw=>wpAny_Compare1 (h pins s σ H Q I hw) h1
theorem hW{op:CmpOp}{t:TE}(h:PC X op a b t) (h1:behindInMarks op b=false:=by first|exact AD _ (by decide) (by decide)|rfl):PT X (.Compare a [op] [b] pos) (tB t):=by
 intro pins s σ H Q I hw
 refine adi (aD (h pins s σ H _ I hw) λv s1 h1=>aD h1 λu s2 h2=>aD h2 λc s3 ⟨x,H1,I1,r1,q1⟩=>?_) h1
 obtain⟨d,rfl,q⟩:=q1
 cases r1
 exact acE ⟨H1,I1,q⟩
theorem iN{e:Expr}{t:TE}(h:PE X e t) (he:∀whole,isTrue e X.env whole=(do let v ← whole;standAt e.pos;holding [v] (truthy v)):=by intro _;rfl):PT X e (tB t):=by
 intro pins s σ H Q I hw
 refine isTrue_plain (aD (h pins s σ H _ I hw) λv s1 ⟨x,H1,I1,r1,q1⟩=>?_) (he _)
 obtain⟨d,rfl,q⟩:=q1
 cases r1
 exact acE ⟨H1,I1,q⟩
variable {tA AG:TT}{rest:List Expr}
noncomputable def OH(t u:TT):TT:=λσ H Q=>t σ H λc H1=>if c=true then u σ H1 Q else Q false H1
noncomputable def YI(t u:TT):TT:=λσ H Q=>t σ H λc H1=>if c=true then Q true H1 else u σ H1 Q
noncomputable def Xq(t:TT):TT:=λσ H Q=>t σ H λc H1=>Q (!c) H1
theorem pX(ha:PT X a tA):PW X (.BoolOp .And [a] pos) tA:=by
 intro wh pins s σ H Q I h
 refine isTrue_and (aD (ha pins s σ H Q I h) λc s1 e=>?_)
 cases c with
 | true=>exact isTrue_and_nil e
 | false=>exact e
theorem pY(ha:PT X a tA):PW X (.BoolOp .Or [a] pos) tA:=by
 intro wh pins s σ H Q I h
 refine isTrue_or (aD (ha pins s σ H Q I h) λc s1 e=>?_)
 cases c with
 | false=>exact isTrue_or_nil e
 | true=>exact e
theorem sA(ha:PT X a tA) (hb:PW X (.BoolOp .And (b::rest) pos) AG):PW X (.BoolOp .And (a::b::rest) pos) (OH tA AG):=by
 intro wh pins s σ H Q I h
 refine isTrue_and (aD (ha pins s σ H _ I h) λc s1 zq=>?_)
 obtain⟨H1,I1,q1⟩:=zq
 cases c with
 | true=>exact hb wh pins s1 σ H1 Q I1 q1
 | false=>exact⟨H1,I1,q1⟩
theorem oO(ha:PT X a tA) (hb:PW X (.BoolOp .Or (b::rest) pos) AG):PW X (.BoolOp .Or (a::b::rest) pos) (YI tA AG):=by
 intro wh pins s σ H Q I h
 refine isTrue_or (aD (ha pins s σ H _ I h) λc s1 zq=>?_)
 obtain⟨H1,I1,q1⟩:=zq
 cases c with
 | true=>exact⟨H1,I1,q1⟩
 | false=>exact hb wh pins s1 σ H1 Q I1 q1
theorem nW(ha:PT X a tA):PT X (.UnaryOp .Not a pos) (Xq tA):=by
 intro pins s σ H Q I h
 exact isTrue_not (ha pins s σ H (λc H1=>Q (!c) H1) I h)
noncomputable def TZ(ta tb:TE):TE:=λσ H Q=>ta σ H λx H1=>∃c,x=.bl c/\if c=true then tb σ H1 Q else Q (.bl false) H1
theorem OI{op} {t:TE}(h:PE X a t):PE X (.BoolOp op [a] pos) t:=λpins s σ H Q I hw=>BoolOp_one (h pins s σ H Q I hw)
theorem OJ(ha:PE X a ta) (hb:PE X (.BoolOp .And (b::rest) pos) tb):PE X (.BoolOp .And (a::b::rest) pos) (TZ ta tb):=by
 intro pins s σ H Q I h
 refine BoolOp_and (aD (ha pins s σ H _ I h) λv s1 zq=>?_)
 obtain⟨x,H1,I1,r1,q1⟩:=zq
 obtain⟨c,rfl,q1⟩:=q1
 cases r1
 refine acE ?_
 cases c with
 | true=>exact hb pins s1 σ H1 Q I1 q1
 | false=>exact⟨.bl false,H1,I1,rfl,q1⟩
noncomputable def YJ(t:TT)(ta tb:TE):TE:=λσ H Q=>t σ H λc H1=>if c=true then ta σ H1 Q else tb σ H1 Q
theorem jX{c:Expr}(hc:PT X c tA)(ha:PE X a ta)(hb:PE X b tb):PE X (.IfExp c a b pos) (YJ tA ta tb):=by
 intro pins s σ H Q I h
 refine wpAny_IfExp (aD (hc pins s σ H _ I h) λd s1 zq=>?_)
 obtain⟨H1,I1,q1⟩:=zq
 cases d with
 | true=>exact ha pins s1 σ H1 Q I1 q1
 | false=>exact hb pins s1 σ H1 Q I1 q1
end
noncomputable def aq(K:W.Frag)(H:Hp)(a:Addr)(xs:List V):Prop:=
 Rd H a (.lst xs)\/
  ∃(o:Obj) (its:Array Value) (n:Nat),K.lookup a=some o/\o.cls=.type "list" /\ o.dict=none/\o.data=.seq its n/\its.size<=sizeLine/\Vals xs its.toList
noncomputable def aM(K:W.Frag)(H:Hp)(a:Addr)(xs:List V):Prop:=
 Rd H a (.tup xs)\/
  ∃(o:Obj) (its:Array Value) (n:Nat),K.lookup a=some o/\o.cls=.type "tuple" /\ o.data=.seq its n/\its.size<=sizeLine/\Vals xs its.toList
noncomputable def Xr:Value->Option V
 | .none=>some .aH
 | .bool b=>some (.bl b)
 | .int i _=>some (.int i)
 | .str x _=>some (.str x)
 | .bytes b _=>some (.pU b)
 | .float b _=>some (.ja b)
 | .ref a=>some (.ref a)
 | .type n=>some (.ty n)
 | _=>none
theorem RelV.abs{x:V}{u:Value}(r:RelV x u):Xr u=some x:=by
 cases x with
 | aH=>cases r;rfl
 | bl _=>cases r;rfl
 | int _=>obtain⟨t,rfl⟩:=r;rfl
 | str _=>obtain⟨t,rfl⟩:=r;rfl
 | pU _=>obtain⟨t,rfl⟩:=r;rfl
 | ja _=>obtain⟨t,rfl⟩:=r;rfl
 | ref _=>cases r;rfl
 | ty _=>cases r;rfl
theorem RelV.inj{x y:V}{u:Value}(r:RelV x u)(q:RelV y u):x=y:=aaA (r.abs.symm.trans q.abs)
theorem Vals.inj:∀{xs ys:List V}{us:List Value},Vals xs us->Vals ys us->xs=ys:=by
 intro xs ys us h h'
 induction h generalizing ys with
 | nil=>cases h';rfl
 | cons r t ih=>
  cases h' with
  | cons r' t'=>rw[r.inj r',ih t']
section
variable {X:Cx}{pins:List (Addr×Obj)}{σ:St}{H:Hp}{s:Shared}{a:Addr}{xs ys:List V}
theorem aq.of{K:W.Frag}(h:H a=some (.lst xs)):aq K H a xs:=.inl (.inl h)
theorem aM.of{K:W.Frag}(h:H a=some (.tup xs)):aM K H a xs:=.inl (.inl h)
theorem Inv.list(I:Inv X pins σ H s)(h:aq X.K H a xs):∃its:List Value,Vals xs its/\PlainL s.heap a its.toArray/\xs.length<=sizeLine:=by
 rcases h with h|⟨o,its,n,hk,hc,hd,hs,hz,r⟩
 . obtain⟨z,its,n,r,e⟩:=h.ok I.hok
   exact⟨its,r,⟨_,n,e,rfl,rfl,rfl⟩,z⟩
 . refine⟨its.toList,r,⟨o,n,I.i0 a o hk,hc,hd,by simpa using hs⟩,?_⟩
   have e:=r.length
   simp only[adD]at e
   omega
theorem Inv.tuple(I:Inv X pins σ H s)(h:aM X.K H a xs):∃its:List Value,Vals xs its/\IsTup s.heap a its.toArray/\xs.length<=sizeLine:=by
 rcases h with h|⟨o,its,n,hk,hc,hs,hz,r⟩
 . obtain⟨z,its,r,p⟩:=h.ok I.hok
   exact⟨its,r,p,z⟩
 . refine⟨its.toList,r,⟨o,I.i0 a o hk,hc,n,by simpa using hs⟩,?_⟩
   have e:=r.length
   simp only[adD]at e
   omega
theorem Inv.vF(I:Inv X pins σ H s)(h:aq X.K H a xs)(h':aq X.K H a ys):xs=ys:=by
 obtain⟨its,r,⟨o,n,e,_,_,d⟩,_⟩:=I.list h
 obtain⟨its',r',⟨o',n',e',_,_,d'⟩,_⟩:=I.list h'
 rw[e]at e';cases e'
 rw[d]at d'
 injection d' with d1 _
 have:its=its':=by simpa using congrArg Array.toList d1
 subst this
 exact r.inj r'
theorem Inv.sC(I:Inv X pins σ H s)(h:aM X.K H a xs)(h':aM X.K H a ys):xs=ys:=by
 obtain⟨its,r,⟨o,e,_,n,d⟩,_⟩:=I.tuple h
 obtain⟨its',r',⟨o',e',_,n',d'⟩,_⟩:=I.tuple h'
 rw[e]at e';cases e'
 rw[d]at d'
 injection d' with d1 _
 have:its=its':=by simpa using congrArg Array.toList d1
 subst this
 exact r.inj r'
end
noncomputable abbrev Cx.jf(X:Cx)(E:Value->Shared->Prop):Cx:={X with xe:=E}
noncomputable abbrev Cx.kz(X:Cx):Cx:=X.jf λ_ _=>False
theorem Cx.Ok.jf{X:Cx}(ok:X.Ok)(E:Value->Shared->Prop):(X.jf E).Ok:=
 ⟨ok.mod,ok.kind,ok.glob,ok.blt,ok.above,ok.inj,ok.has,ok.cab,ok.hd,ok.frames,ok.stk,ok.exf,ok.bs,ok.bsz,ok.noex,ok.exfs,ok.lO,ok.frf⟩
theorem Cx.Ok.jg{X:Cx}{E:Value->Shared->Prop}(ok:(X.jf E).Ok):X.Ok:=
 ⟨ok.mod,ok.kind,ok.glob,ok.blt,ok.above,ok.inj,ok.has,ok.cab,ok.hd,ok.frames,ok.stk,ok.exf,ok.bs,ok.bsz,ok.noex,ok.exfs,ok.lO,ok.frf⟩
section
variable {X:Cx}{pins:List (Addr×Obj)}{σ:St}{H:Hp}{s:Shared}{E:Value->Shared->Prop}
theorem Inv.jf(I:Inv X pins σ H s)(E:Value->Shared->Prop):Inv (X.jf E) pins σ H s:=⟨I.ok.jf E,I.os,I.bare,I.base,I.loc,I.cell,I.free,I.freeC,I.pin,I.hok,I.len⟩
theorem Inv.jg(I:Inv (X.jf E) pins σ H s):Inv X pins σ H s:=⟨I.ok.jg,I.os,I.bare,I.base,I.loc,I.cell,I.free,I.freeC,I.pin,I.hok,I.len⟩
theorem SP.jg{D:Ends}{f:Flow}{s':Shared}(h:SP (X.jf E) pins D f s'):SP X pins D f s':=by
 cases f with
 | next=>obtain⟨br,H',I,q⟩:=h;exact⟨br,H',I.jg,q⟩
 | brk=>obtain⟨br,H',I,q⟩:=h;exact⟨br,H',I.jg,q⟩
 | cont=>obtain⟨br,H',I,q⟩:=h;exact⟨br,H',I.jg,q⟩
 | ret u=>obtain⟨v,br,H',I,r,q⟩:=h;exact⟨v,br,H',I.jg,r,q⟩
theorem PE.kz{e:Expr}{t:TE}(h:PE X.kz e t):PE X e t:=λpins s σ H Q I hw=>
 abG (h pins s σ H Q (I.jf _) hw) (λ_ _ ⟨v,H',I',r,q⟩=>⟨v,H',I'.jg,r,q⟩) λ_ _ z=>False.elim z
theorem PT.kz{e:Expr}{t:TT}(h:PT X.kz e t):PT X e t:=λpins s σ H Q I hw=>
 abG (h pins s σ H Q (I.jf _) hw) (λ_ _ ⟨H',I',q⟩=>⟨H',I'.jg,q⟩) λ_ _ z=>False.elim z
theorem gj.kz{st:List Stmt}{t:TS}(h:gj X.kz st t):gj X st t:=λpins s σ H D I hw=>
 abG (h pins s σ H D (I.jf _) hw) (λ_ _ q=>q.jg) λ_ _ z=>False.elim z
end
section
variable {X:Cx}{st:Stmt}{rest:List Stmt}{t u:TS}{e:Expr}{te:TE}{pos:Pos}
noncomputable def T4:TS:=λD σ H=>D.nx σ H
noncomputable def Jw(t u:TS):TS:=λD σ H=>t {D with nx:=u D} σ H
theorem bh:gj X [] T4:=λ_ _ σ H _ I h=>acA ⟨σ,H,I,h⟩
theorem aj(h1:PS X st t)(h2:gj X rest u):gj X (st::rest) (Jw t u):=by
 intro pins s σ H D I h
 refine acM (aD (h1 pins s σ H {D with nx:=u D} I h) λf s1 q=>?_)
 cases f with
 | next=>
  obtain⟨br,H',I',q⟩:=q
  exact h2 pins s1 br H' D I' q
 | ret v=>exact q
 | brk=>exact q
 | cont=>exact q
theorem au(h1:PS X st t):gj X [st] t:=by
 intro pins s σ H D I h
 refine acM (aD (h1 pins s σ H D I h) λf s1 q=>?_)
 cases f with
 | next=>exact acA q
 | ret v=>exact q
 | brk=>exact q
 | cont=>exact q
noncomputable def OK:TS:=λD σ H=>D.bk σ H
theorem Jx:PS X (.Break pos) OK:=λ_ _ σ H _ I h=>wpAny_Break ⟨σ,H,I,h⟩
theorem Inv.quiet{pins:List (Addr×Obj)}{σ:St}{H:Hp}{s:Shared}(I:Inv X pins σ H s):interactive X.env=false:=by simp[interactive,I.ok.kind]
noncomputable def Lu(te:TE):TS:=λD σ H=>te σ H λ_ H1=>D.nx σ H1
theorem dr(he:PE X e te)(hs:swapsWith e none pos.line X.env=pure false:=by rfl):PS X (.Expr e pos) (Lu te):=by
 intro pins s σ H D I h
 exact wpAny_Expr_any (aD (he pins s σ H _ I h) λv s1 ⟨x,H1,I1,r1,q1⟩=>⟨σ,H1,I1,q1⟩) I.quiet hs
noncomputable def OL(te:TE):TS:=λD σ H=>te σ H D.rt
theorem aI(he:PE X e te):PS X (.Return (some e) pos) (OL te):=by
 intro pins s σ H D I h
 exact wpAny_Return_some (aD (he pins s σ H _ I h) λv s1 ⟨x,H1,I1,r1,q1⟩=>⟨x,σ,H1,I1,r1,q1⟩)
noncomputable def Jy(c:TT)(t u:TS):TS:=λD σ H=>c σ H λb H1=>if b=true then t D σ H1 else u D σ H1
theorem cP{c:Expr}{a b:List Stmt}{tc:TT}(hc:PT X c tc)(ha:gj X a t)(hb:gj X b u):PS X (.If c a b pos) (Jy tc t u):=by
 intro pins s σ H D I h
 refine wpAny_If (aD (hc pins s σ H _ I h) λd s1 zq=>?_)
 obtain⟨H1,I1,q1⟩:=zq
 cases d with
 | true=>exact ha pins s1 σ H1 D I1 q1
 | false=>exact hb pins s1 σ H1 D I1 q1
end
noncomputable abbrev TG:=V->St->Hp->(St->Hp->Prop)->Prop
noncomputable abbrev wq:=List V->St->Hp->(St->Hp->Prop)->Prop
noncomputable def PG(X:Cx)(target:Expr)(t:TG):Prop:=
 ∀(pins:List (Addr×Obj)) (s:Shared) (σ:St) (H:Hp) (v:V) (u:Value) (Q:St->Hp->Prop),Inv X pins σ H s->RelV v u->t v σ H Q->
  wpAny (model X.prog X.w) X.A (assign target X.env u) (λ_ s'=>∃br H',Inv X pins br H' s'/\Q br H') X.xe s
noncomputable def Gh(X:Cx)(ts:List Expr)(t:wq):Prop:=
 ∀(pins:List (Addr×Obj)) (s:Shared) (σ:St) (H:Hp) (vs:List V) (us:List Value) (Q:St->Hp->Prop),Inv X pins σ H s->Vals vs us->t vs σ H Q->
  wpAny (model X.prog X.w) X.A (assignInOrder ((assignEach ts X.env).map (·.2)) us) (λ_ s'=>∃br H',Inv X pins br H' s'/\Q br H') X.xe s
noncomputable abbrev Jz:=V->V->V->Hp->(Hp->Prop)->Prop
noncomputable def OM(X:Cx)(t:Jz):Prop:=
 ∀(pins:List (Addr×Obj)) (s:Shared) (σ:St) (H:Hp) (o i v:V) (ov iv u:Value) (Q:Hp->Prop),Inv X pins σ H s->RelV o ov->RelV i iv->RelV v u->t o i v H Q->
  wpAny (model X.prog X.w) X.A (setItem ov iv u) (λ_ s'=>∃H',Inv X pins σ H' s'/\Q H') X.xe s
section
variable {X:Cx}{pos:Pos}
noncomputable def cv(i:Nat):TG:=λv σ H Q=>Q (σ.set i (some v)) H
theorem ar{i:Nat}{x:Str}(hN:X.N.Nodup)(hi:X.N[i]?=some x)(hx:Loc X.env.scope x)(hf:X.fn x=true\/X.env.scope.names.lookup x=some .local:=by first|exact .inl rfl|exact .inr rfl|assumption):PG X (.Name x pos) (cv i):=by
 intro pins s σ H v u Q I r h
 exact wpAny_assign_Name (qO I hN hi hx r (λs' I'=>⟨_,H,I',h⟩) hf)
noncomputable def m7:wq:=λvs σ H Q=>vs=[]/\Q σ H
noncomputable def eO(t:TG)(u:wq):wq:=λvs σ H Q=>∃v r,vs=v::r/\t v σ H λbr H'=>u r br H' Q
theorem bF:Gh X [] m7:=by
 intro pins s σ H vs us Q I r h
 obtain⟨e,h⟩:=h
 subst e
 cases r
 exact assignInOrder_nil ⟨σ,H,I,h⟩
theorem ax{e:Expr}{es:List Expr}{t:TG}{u:wq}(h1:PG X e t)(h2:Gh X es u)
 (hs:(assignEach (e::es) X.env).map (·.2)=assign e X.env::(assignEach es X.env).map (·.2):=by rfl):Gh X (e::es) (eO t u):=by
 intro pins s σ H vs us Q I r h
 obtain⟨v,vr,e1,h⟩:=h
 subst e1
 cases r with
 | cons r rr=>
  rw[hs]
  refine assignInOrder_cons (aD (h1 pins s σ H _ _ _ I r h) λ_ s1 zq=>?_)
  obtain⟨C0,H1,I1,q1⟩:=zq
  exact h2 pins s1 C0 H1 _ _ Q I1 rr q1
noncomputable def ng(K:W.Frag)(n:Nat)(t:wq):TG:=λv σ H Q=>∃a xs,v=.ref a/\aM K H a xs/\xs.length=n/\t xs σ H Q
theorem cw{es:List Expr}{k:Nat}{t:wq}{n:Nat}(hc:X.calm=true)(h:Gh X es t)
 (hn:(assignEach es X.env).length=n:=by rfl) (nq:(assignEach es X.env).findIdx? (·.1)=none:=by rfl):PG X (.Tuple es k pos) (ng X.K n t):=by
 intro pins s σ H v u Q I r hw
 obtain⟨a,xs,e1,hq,hl,hw⟩:=hw
 subst e1
 cases r
 obtain⟨its,rv,ht,hz⟩:=I.tuple hq
 refine assign_Tuple_tuple (I.ok.hd hc) ht (by simp[hn,← hl,rv.length]) nq λh' hx=>?_
 have I1:Inv X pins σ H {s with heap:=h'}:=I.kept (t':=s.toks) λb o e=>hx b o (aax (aam e)) e
 exact h pins _ σ H xs _ Q I1 (by simpa using rv) hw
noncomputable def Xs(to ti:TE)(t:Jz):TG:=λv σ H Q=>to σ H λo H1=>ti σ H1 λi H2=>t o i v H2 λH3=>Q σ H3
theorem Gi{o i:Expr}{to ti:TE}{t:Jz}(ho:PE X o to)(hi:PE X i ti)(hs:OM X t)
 (ha:∀v,assign (.Subscript o i pos) X.env v=(do
  let ov ← holding [v] (eval o X.env)
  let iv ← holding [v,ov] (eval i X.env)
  standAt pos
  holding [v,ov,iv] (setItem ov iv v)
  release [v,ov,iv] []):=by intro _;rfl):PG X (.Subscript o i pos) (Xs to ti t):=by
 intro pins s σ H v u Q I r h
 rw[ha]
 refine aac (abf (aD (ho pins s σ H _ I h) λov s1 zq=>?_))
 obtain⟨x,H1,I1,r1,q1⟩:=zq
 refine aac (abf (aD (hi pins s1 σ H1 _ I1 q1) λiv s2 zq=>?_))
 obtain⟨y,H2,I2,r2,q2⟩:=zq
 refine aac (ad9 (aac (abf (aD (hs pins s2 σ H2 x y v ov iv u _ I2 r1 r2 r q2) λ_ s3 zq=>?_))))
 obtain⟨H3,I3,q3⟩:=zq
 exact wpAny_release ⟨σ,H3,I3,q3⟩
noncomputable def sD(te:TE)(g:TG):TS:=λD σ H=>te σ H λx H1=>g x σ H1 D.nx
theorem AH{tg e:Expr}{te:TE}{g:TG}(he:PE X e te)(hg:PG X tg g)(hs:swapsWithSole [tg] e pos.line X.env=pure false:=by rfl)(hw:swappedStores [tg] e X.env=pure none:=by rfl)
 (h1:(assignEach [tg] X.env).map (·.2)=[assign tg X.env]:=by rfl):PS X (.Assign [tg] e pos) (sD te g):=by
 intro pins s σ H D I h
 refine wpAny_Assign_stores (aD (he pins s σ H _ I h) λv s1 ⟨x,H1,I1,r1,q1⟩=>?_) hs hw
 rw[h1]
 exact aD (hg pins s1 σ H1 x v _ I1 r1 q1) λ_ s2 q=>q
theorem bz{i:Nat}{x:Str}{e:Expr}{te:TE}{pos':Pos}(hN:X.N.Nodup)(hi:X.N[i]?=some x)(hx:Loc X.env.scope x)(he:PE X e te) (hs:swapsWith e (some (.Name x pos')) pos.line X.env=pure false:=by rfl) (hf:X.fn x=true\/X.env.scope.names.lookup x=some .local:=by first|exact .inl rfl|exact .inr rfl|assumption) :
 PS X (.Assign [.Name x pos'] e pos) (sD te (cv i)):=by
 intro pins s σ H D I h
 refine ad2 (aD (he pins s σ H _ I h) λv s1 ⟨y,H1,I1,r1,q1⟩=>?_) hs
 exact qO I1 hN hi hx r1 (λs2 I2=>⟨_,H1,I2,q1⟩) hf
noncomputable def ON(c:TT)(tb:TS):TS:=λD σ H=>∃W:Nat->St->Hp->Prop,(∃m,W m σ H)/\∀m σ H,W m σ H->
 c σ H λb H1=>if b=true then ∃N:St->Hp->Prop,(∀br H',N br H'->∃m',m'<m/\W m' br H')/\tb {D with nx:=N,ct:=N,bk:=D.nx} σ H1 else D.nx σ H1
theorem JA{c:Expr}{body:List Stmt}{tc:TT}{tb:TS}(hp:PassesOwn (model X.prog X.w) X.A X.env X.xe) (hc:PT X c tc) (hb:gj X body tb):PS X (.While c body [] pos) (ON tc tb):=by
 intro pins s σ H D I h
 obtain⟨W,⟨m0,w0⟩,turn⟩:=h
 refine wpAny_While (codeAny_whileLoop (λn s'=>∃br H',Inv X pins br H' s'/\W n br H') ?_ m0 ⟨σ,H,I,w0⟩)
 rintro n s1 ⟨C0,H1,I1,w1⟩
 refine abw hp (aD (hc pins s1 C0 H1 _ I1 (turn n C0 H1 w1)) λb s2 zq=>?_)
 obtain⟨H2,I2,q2⟩:=zq
 cases b with
 | true=>
  obtain⟨N,hN,q2⟩:=q2
  rw[aaI rfl]
  refine abw hp (aD (hb pins s2 C0 H2 _ I2 q2) λf s3 q3=>?_)
  cases f with
  | next=>
   obtain⟨sE,H3,I3,n3⟩:=q3
   obtain⟨m',hm,w3⟩:=hN sE H3 n3
   exact⟨m',hm,sE,H3,I3,w3⟩
  | cont=>
   obtain⟨sE,H3,I3,n3⟩:=q3
   obtain⟨m',hm,w3⟩:=hN sE H3 n3
   exact⟨m',hm,sE,H3,I3,w3⟩
  | brk=>exact q3
  | ret v=>exact q3
 | false=>
  rw[aay aat]
  exact acA ⟨C0,H2,I2,q2⟩
end
structure It where
 go:Nat->Hp->Prop
 yld:Nat->Hp->V->Hp->Prop
 stop:Nat->Hp->Prop
noncomputable def iU(X:Cx) (pins:List (Addr×Obj)) (H:Hp) (b:Addr):Prop:=
 H b=none/\b≠X.env.locals/\b∉X.fs/\(b∈X.ex\/X.mw.heap.objs.size<=b)/\(∀x c,X.env.cells.lookup x=some c->c≠b)/\∀p∈X.pn++pins,p.1≠b
theorem Inv.pD{X:Cx}{pins:List (Addr×Obj)}{σ:St}{H H':Hp}{s:Shared}{b:Addr}(I:Inv X pins σ H s) (hb:s.heap.objs.size<=b) (hn:H' b=none):iU X pins H' b:=by
 refine⟨hn,aa0 (aaP I.lt hb),I.Xl hb,.inr (aap I.sz hb),λx c e z=>?_,λp hp z=>?_⟩
 . obtain⟨v,q⟩:=I.cell x c e
   exact absurd (aaP q.lt (by rw[z];exact hb)) (aby _)
 . exact absurd (aaP (aam (I.pin p hp).1) (by rw[z];exact hb)) (aby _)
structure Turn(P:Program) (w:World) (K:W.Frag) (tg:Expr) (J:It) (fp:List Addr) (it:Addr) (tn:Nat->Heap->Prop):Prop where
 mem:it∈fp
 obj:∀i h,tn i h->∀b∈fp,∃o,h.get? b=some o/\∀v,o.data≠.cell v
 keep:∀i h h',tn i h->(∀b∈fp,∀o,h.get? b=some o->h'.get? b=some o)->tn i h'
 item:∀(X:Cx),X.prog=P->X.w=w->X.K=K->X.calm=true->∀(i:Nat) (pins:List (Addr×Obj)) (s:Shared) (σ:St) (H:Hp) (E:Value->Shared->Prop),Inv X pins σ H s->(∀b∈fp,iU X pins H b)->tn i s.heap->J.go i H->
  wpAny (model P w) X.A (pyNext (.ref it)) (λr s1=>∃u,r=some u/\
   wpAny (model P w) X.A (letOwnedTupleGo tg (.ref it) u) (λ_ s2=>∃x H',Inv X pins σ H' s2/\RelV x u/\J.yld i H x H'/\tn (i+1) s2.heap/\∀b∈fp,H' b=none) E s1) E s
 done:∀(X:Cx),X.prog=P->X.w=w->X.K=K->X.calm=true->∀(i:Nat) (pins:List (Addr×Obj)) (s:Shared) (σ:St) (H:Hp) (E:Value->Shared->Prop),Inv X pins σ H s->(∀b∈fp,iU X pins H b)->tn i s.heap->J.stop i H->
  wpAny (model P w) X.A (pyNext (.ref it)) (λr s1=>r=none/\Inv X pins σ H s1) E s
 self:∀(A:Around) (i:Nat) (s:Shared) (Q:Value->Shared->Prop) (E:Value->Shared->Prop),tn i s.heap->Q (.ref it) s->wpAny (model P w) A (pyIter (.ref it)) Q E s
noncomputable abbrev TI:=St->Hp->(It->Hp->Prop)->Prop
noncomputable def U9(X:Cx) (pins:List (Addr×Obj)) (σ:St) (tg:Expr) (R:It->Hp->Prop) (Gj:Value) (s2:Shared):Prop:=
 ∃(it:Addr) (fp:List Addr) (tn:Nat->Heap->Prop) (J:It) (H':Hp),Gj=.ref it/\Inv X pins σ H' s2/\Turn X.prog X.w X.K tg J fp it tn/\tn 0 s2.heap/\(∀b∈fp,iU X pins H' b)/\R J H'
noncomputable def PI(X:Cx)(tg iter:Expr)(wi:TI):Prop:=
 ∀(pins:List (Addr×Obj)) (s:Shared) (σ:St) (H:Hp) (R:It->Hp->Prop),Inv X pins σ H s->wi σ H R->
  wpAny (model X.prog X.w) X.A (eval iter X.env) (λv s1=>wpAny (model X.prog X.w) X.A (pyIter v) (U9 X pins σ tg R) X.xe s1) X.xe s
theorem Aj{M:Model}{A:Around}{E:Value->Shared->Prop}{s:Shared}{tg:Expr}{it:Addr}{u:Value}{o:Obj}{n:String}{vs:Array Value}{Q:Unit->Shared->Prop}(ho:s.heap.get? it=some o)(hc:o.cls=.type n)(hd:o.data=.fields vs)
 (hn:["enumerate", "zip", "dict_itemiterator", "dict_reverseitemiterator", "odict_iterator", "itertools.zip_longest", "itertools.pairwise"].contains n=false) (hQ:Q () s):wpAny M A (letOwnedTupleGo tg (.ref it) u) Q E s:=by
 unfold letOwnedTupleGo
 cases tg <;> first
  | exact aak hQ
  | (cases u <;> first
      | exact aak hQ
      | (refine aac (wpAny_load ho ?_)
         rw[hc,hd]
         show wpAny M A (if (["enumerate", "zip", "dict_itemiterator", "dict_reverseitemiterator", "odict_iterator", "itertools.zip_longest", "itertools.pairwise"].contains n && vs[0]? == some (rawInt _))=true then _ else _) Q E s
         rw[aay (by intro h;rw[hn,Bool.false_and]at h;cases h)]
         exact aak hQ))
noncomputable def uV(K:W.Frag)(a:Addr):It:=
 ⟨λi H=>∃xs x,aq K H a xs/\xs[i]?=some x,λi H x H'=>H'=H/\∀xs,aq K H a xs->xs[i]?=some x,λi H=>∃xs,aq K H a xs/\xs.length<=i⟩
noncomputable def Dg(lo:Int)(n:Nat):It:=⟨λi _=>i<n,λi H x H'=>H'=H/\x=.int (lo+i),λi _=>n<=i⟩
theorem Gk{P:Program}{w:World}{K:W.Frag}{tg:Expr}(a it:Addr):Turn P w K tg (uV K a) [it] it (λi h=>h.IsListIter it a i) where
 mem:=by simp
 obj:=λi h st b hb=>by
  have e:b=it:=by simpa using hb
  subst e
  obtain⟨o,e,c,d⟩:=st
  exact⟨o,e,λv z=>by rw[d]at z;cases z⟩
 keep:=λi h h' st k=>st.at λo e=>k it (by simp) o e
 item:=by
  intro X hP hw hK hc i pins s σ H E I hf st hg
  subst hP hw hK
  obtain⟨xs,x,hq,hx⟩:=hg
  obtain⟨its,rv,p,hz⟩:=I.list hq
  obtain⟨u,hu,ru⟩:=rv.get hx
  obtain⟨f0,f1,f2,f3,f4,f5⟩:=hf it (by simp)
  refine ac4 st p.isList (x:=u) (by simpa using hu) λh' rQ sb=>?_
  have I1:Inv X pins σ H {s with heap:=h'}:=I.turned (t':=s.toks) (λb o hb e=>(sb.2 b hb).trans e) f0 f1 f3 f4 f5
  obtain⟨o,e,c,d⟩:=id rQ
  exact⟨u,rfl,Aj (s:={s with heap:=h'}) e c d (by decide) ⟨x,H,I1,ru,⟨rfl,λys hy=>by rw[I.vF hy hq];exact hx⟩,rQ,λb hb=>(hf b hb).1⟩⟩
 done:=by
  intro X hP hw hK hc i pins s σ H E I hf st hg
  subst hP hw hK
  obtain⟨xs,hq,hx⟩:=hg
  obtain⟨its,rv,p,hz⟩:=I.list hq
  obtain⟨f0,f1,f2,f3,f4,f5⟩:=hf it (by simp)
  have hl:=rv.length
  exact adj (I.ok.hd hc) st p.isList (by simp;omega) λh' eb=>⟨rfl,I.turned (t':=s.toks) (λb o hb e=>eb b o hb e) f0 f1 f3 f4 f5⟩
 self:=λ_ _ _ _ _ st h=>wpAny_pyIter_listiter st h
theorem Ex{P:Program}{w:World}{K:W.Frag}{tg:Expr}(it:Addr)(lo:Int)(n:Nat):Turn P w K tg (Dg lo n) [it] it (λi h=>IsRangeIter h it (lo+(i:Nat)*1) ((n:Int)-(i:Nat)) 1) where
 mem:=by simp
 obj:=λi h st b hb=>by
  have e:b=it:=by simpa using hb
  subst e
  exact⟨_,st,λv z=>by
   have z':Data.fields _=Data.cell v:=z
   cases z'⟩
 keep:=λi h h' st k=>k it (by simp) _ st
 item:=by
  intro X hP hw hK hc i pins s σ H E I hf st hg
  subst hP hw hK
  obtain⟨f0,f1,f2,f3,f4,f5⟩:=hf it (by simp)
  have W:=Walks.range (prog:=X.prog) (w:=X.w) (I.ok.hd hc) it lo 1 n
  refine W.item i s _ _ hg st λv h' tk hv rQ kk=>?_
  obtain⟨t,rfl⟩:=hv
  have I1:Inv X pins σ H {s with heap:=h',toks:=tk}:=I.turned (λb o hb e=>kk b o (by simpa using hb) e) f0 f1 f3 f4 f5
  refine⟨_,rfl,Aj (s:={s with heap:=h',toks:=tk}) (n:="range_iterator") rQ rfl rfl (by decide) ⟨.int (lo+i),H,I1,⟨t,?_⟩,⟨rfl,rfl⟩,rQ,λb hb=>(hf b hb).1⟩⟩
  rw[Int.mul_one]
 done:=by
  intro X hP hw hK hc i pins s σ H E I hf st hg
  subst hP hw hK
  obtain⟨f0,f1,f2,f3,f4,f5⟩:=hf it (by simp)
  exact wpAny_pyNext_range_end (I.ok.hd hc) st (by have:n<=i:=hg;omega) λh' eb=>⟨rfl,I.turned (t':=s.toks) (λb o hb e=>eb b o hb e) f0 f1 f3 f4 f5⟩
 self:=λ_ _ _ _ _ st h=>wpAny_pyIter_rangeiter st h
section
variable {X:Cx}{tg:Expr}
noncomputable def T6(K:W.Frag)(tl:TE):TI:=λσ H R=>tl σ H λx H1=>∃a,x=.ref a/\(∃xs,aq K H1 a xs)/\R (uV K a) H1
theorem bf{l:Expr}{tl:TE}(hl:PE X l tl):PI X tg l (T6 X.K tl):=by
 intro pins s σ H R I h
 refine aD (hl pins s σ H _ I h) λv s1 zq=>?_
 obtain⟨x,H1,I1,r1,q1⟩:=zq
 obtain⟨a,e,⟨xs,hq⟩,q⟩:=q1
 subst e
 cases r1
 obtain⟨its,rv,p,hz⟩:=I1.list hq
 refine ac8 p.isList ?_
 refine⟨s1.heap.objs.size,[s1.heap.objs.size],_,_,H1,rfl,I1.kept (t':=s1.toks) λb o e=>aad _ e,Gk a _,⟨_,aar _ rfl,rfl,rfl⟩,λb hb=>?_,q⟩
 have e:b=s1.heap.objs.size:=by simpa using hb
 subst e
 exact I1.pD (aah _) (I1.hok.fresh (aah _))
theorem JB{pins:List (Addr×Obj)}{σ:St}{H:Hp}{s:Shared}{R:It->Hp->Prop}{E:Value->Shared->Prop}{lo hi:Int}{t u v:Tok}{tk:Nat}(I:Inv X pins σ H s) (h1 : -(2 ^ 62)<=lo) (h2:lo<2 ^ 62) (h3 : -(2 ^ 62)<=hi) (h4:hi<2 ^ 62)
 (q:R (Dg lo (hi-lo).toNat) H):wpAny (model X.prog X.w) X.A (pyIter (.ref s.heap.objs.size)) (U9 X pins σ tg R) E {s with heap:=s.heap.push {cls:=.type "range",data:=.fields #[.int lo t,.int hi u,.int 1 v] },toks:=tk}:=by
 refine wpAny_pyIter_range (IsRange.new ..) (small_one h1 h2 h3 h4) ?_
 have I1:Inv X pins σ H {s with heap:=s.heap.push {cls:=.type "range",data:=.fields #[.int lo t,.int hi u,.int 1 v] },toks:=tk}:=I.kept λb o e=>aad _ e
 refine⟨(s.heap.push {cls:=.type "range",data:=.fields #[.int lo t,.int hi u,.int 1 v] }).objs.size,[(s.heap.push {cls:=.type "range",data:=.fields #[.int lo t,.int hi u,.int 1 v] }).objs.size],_,_,H,rfl,
  I1.kept (t':=tk) λb o e=>aad _ e,Ex _ lo (hi-lo).toNat,?_,λb hb=>?_,q⟩
 . have e1:lo+((0:Nat):Int)*1=lo:=by simp
   have e2:(((hi-lo).toNat:Nat):Int)-((0:Nat):Int)=Builtin.Range.rangeSize lo hi 1:=by rw[rangeSize_one];split <;> omega
   show IsRangeIter _ _ (lo+((0:Nat):Int)*1) ((((hi-lo).toNat:Nat):Int)-((0:Nat):Int)) 1
   rw[e1,e2]
   exact aar _ rfl
 . have e:b=(s.heap.push {cls:=.type "range",data:=.fields #[.int lo t,.int hi u,.int 1 v] }).objs.size:=by simpa using hb
   subst e
   exact I1.pD (aah _) (I1.hok.fresh (aah _))
noncomputable def T7(ta:TA):TI:=λσ H R=>ta σ H λvs H1=>∃j:Int,vs=[.int j] /\ -(2 ^ 62)<=j/\j<2 ^ 62/\R (Dg 0 j.toNat) H1
theorem dU{a:Expr}{ta:TA}{p pos:Pos}(hg:Gl X "range")(hm:X.mg "range" = none)(ha:PA X [a] ta) (hs:starEach [a] X.env=[(false,eval a X.env)]:=by rfl):PI X tg (.Call (.Name "range" p) [a] [] pos) (T7 ta):=by
 intro pins s σ H R I h
 refine Call_ (i3 I hg hm boot_range (aa4 (aD (ha pos pins s σ H _ I h) λus s1 ⟨vs,H1,I1,r1,q1⟩=>?_) hs rfl))
 obtain⟨j,e,q1,q2,q⟩:=q1
 subst e
 cases r1 with
 | cons r rr=>
  cases rr
  obtain⟨t,rfl⟩:=r
  exact call_range_1 (JB I1 (by omega) (by omega) q1 q2 (by simpa using q))
noncomputable def OO(wi:TI)(g:TG)(tb:TS):TS:=λD σ H=>wi σ H λJ H1=>∃W:Nat->Nat->St->Hp->Prop,(∃m,W 0 m σ H1)/\∀i m σ H,W i m σ H->
 (J.stop i H/\D.nx σ H)\/(J.go i H/\∃N:St->Hp->Prop,(∀br H',N br H'->∃m',m'<m/\W (i+1) m' br H')/\∀x H',J.yld i H x H'->g x σ H' λgk H2=>tb {D with nx:=N,ct:=N,bk:=D.nx} gk H2)
noncomputable def nX(fp:List Addr)(h:Heap):List (Addr×Obj):=fp.filterMap λb=>(h.get? b).map λo=>(b,o)
theorem hX{fp:List Addr}{h:Heap}{b:Addr}{o:Obj}(hb:b∈fp)(e:h.get? b=some o):(b,o)∈nX fp h:=aeZ.mpr ⟨b,hb,by rw[e];rfl⟩
theorem Gm{fp:List Addr}{h:Heap}{p:Addr×Obj}(hp:p∈nX fp h):p.1∈fp/\h.get? p.1=some p.2:=by
 obtain⟨b,hb,e⟩:=aeZ.mp hp
 cases q:h.get? b with
 | none=>rw[q]at e;cases e
 | some o=>
  rw[q]at e
  have e':(b,o)=p:=aaA e
  subst e'
  exact⟨hb,q⟩
theorem Inv.pinned{pins:List (Addr×Obj)}{σ:St}{H:Hp}{s:Shared}{fp:List Addr}(I:Inv X pins σ H s) (hf:∀b∈fp,iU X pins H b) (ho:∀b∈fp,∃o,s.heap.get? b=some o/\∀v,o.data≠.cell v):Inv X (pins++nX fp s.heap) σ H s:=
 I.De λp hp=>(aag.mp hp).elim (λz=>I.pin p (aaG _ z)) λz=>by
  obtain⟨hb,e⟩:=Gm z
  obtain⟨f0,f1,f2,_⟩:=hf p.1 hb
  obtain⟨o,e',d⟩:=ho p.1 hb
  rw[e]at e';cases e'
  exact⟨e,f0,f1,f2,d⟩
theorem Inv.jh{pins pl:List (Addr×Obj)}{σ:St}{H:Hp}{s:Shared}(I:Inv X (pins++pl) σ H s):Inv X pins σ H s:=I.De λp hp=>I.pin p (aaG _ (acf _ hp))
theorem df{iter:Expr}{body:List Stmt}{wi:TI}{g:TG}{tb:TS}{pos:Pos}(hp:PassesOwn (model X.prog X.w) X.A X.env X.xe) (hc:X.calm=true) (hi:PI X tg iter wi) (hg:PG X tg g) (hb:gj X body tb)
 (hs:∀x,foldedSetIterable iter X.env x=pure x:=by intro _;rfl):PS X (.For tg iter body [] pos) (OO wi g tb):=by
 intro pins s σ H D I h
 refine wpAny_For (aD (hi pins s σ H _ I h) λv s1 h1=>aD h1 λGj s2 h2=>?_) hs
 obtain⟨it,fp,tn,J,H2,e,I2,T,jI,f2,W,⟨m0,w0⟩,turn⟩:=h2
 subst e
 have vG:∀{H':Hp},(∀b∈fp,H' b=none)->∀b∈fp,iU X pins H' b:=λhn b hb=>⟨hn b hb,(f2 b hb).2⟩
 refine codeAny_forLoop_any (λn s'=>∃i br H',Inv X pins br H' s'/\tn i s'.heap/\(∀b∈fp,H' b=none)/\W i n br H') ?_ m0 ⟨0,σ,H2,I2,jI,λb hb=>(f2 b hb).1,w0⟩
 rintro n s3 ⟨i,sE,H3,I3,Gn,Gp,w3⟩
 rcases turn i n sE H3 w3 with⟨stop,qn⟩|⟨go,N,hN,step⟩
 . refine abw hp (aD (T.done X rfl rfl rfl hc i pins s3 sE H3 X.xe I3 (vG Gp) Gn stop) λr s4 ⟨hr,I4⟩=>?_)
   subst hr
   exact acA ⟨sE,H3,I4,qn⟩
 . refine abw hp (aD (T.item X rfl rfl rfl hc i pins s3 sE H3 X.xe I3 (vG Gp) Gn go) λr s4 zq=>?_)
   obtain⟨u,hr,h4⟩:=zq
   subst hr
   refine abw hp (aD h4 λ_ s5 zq=>?_)
   obtain⟨x,H5,I5,r5,y5,pZ,wt⟩:=zq
   have OP:=I5.pinned (vG wt) (T.obj _ _ pZ)
   refine abw hp (aD (hg _ s5 sE H5 x u _ OP r5 (step x H5 y5)) λ_ s6 zq=>?_)
   obtain⟨Xt,H6,I6,q6⟩:=zq
   refine abw hp (aD (hb _ s6 Xt H6 _ I6 q6) λf s7 q7=>?_)
   have again:∀{nY:St}{H7:Hp},Inv X (pins++nX fp s5.heap) nY H7 s7->N nY H7->∃m,m<n/\∃i br H',Inv X pins br H' s7/\tn i s7.heap/\(∀b∈fp,H' b=none)/\W i m br H':=λ{nY H7} I7 n7=>by
    obtain⟨m',hm,w7⟩:=hN nY H7 n7
    refine⟨m',hm,i+1,nY,H7,I7.jh,T.keep _ _ _ pZ λb hb o e=>(I7.pin (b,o) (aaG _ (aaG _ (hX hb e)))).1,λb hb=>?_,w7⟩
    obtain⟨o,e,d⟩:=T.obj _ _ pZ b hb
    exact(I7.pin (b,o) (aaG _ (aaG _ (hX hb e)))).2.1
   cases f with
   | next=>obtain⟨nY,H7,I7,n7⟩:=q7;exact again I7 n7
   | cont=>obtain⟨nY,H7,I7,n7⟩:=q7;exact again I7 n7
   | brk=>obtain⟨nY,H7,I7,q7⟩:=q7;exact⟨nY,H7,I7.jh,q7⟩
   | ret v=>obtain⟨x7,nY,H7,I7,r7,q7⟩:=q7;exact⟨x7,nY,H7,I7.jh,r7,q7⟩
end
theorem fo{K:W.Frag}{a:Addr}{xs:List V}{g:TG}{tb:TS}{D:Ends}{σ:St}{H:Hp}(Pv:Nat->St->Hp->Prop)(h0:Pv 0 σ H)(hl:∀i σ H,i<=xs.length->Pv i σ H->aq K H a xs)
 (hs:∀i x σ H,xs[i]?=some x->Pv i σ H->g x σ H λgk H2=>tb {D with nx:=Pv (i+1),ct:=Pv (i+1),bk:=D.nx} gk H2) (hd:∀σ H,Pv xs.length σ H->D.nx σ H) :
 ∃W:Nat->Nat->St->Hp->Prop,(∃m,W 0 m σ H)/\∀i m σ H,W i m σ H->
  ((uV K a).stop i H/\D.nx σ H)\/((uV K a).go i H/\∃N:St->Hp->Prop,(∀br H',N br H'->∃m',m'<m/\W (i+1) m' br H')/\∀x H',(uV K a).yld i H x H'->g x σ H' λgk H2=>tb {D with nx:=N,ct:=N,bk:=D.nx} gk H2):=by
 refine⟨λi m σ H=>m=xs.length-i/\i<=xs.length/\Pv i σ H,⟨xs.length,by simp,abQ _,h0⟩,?_⟩
 rintro i m σ H ⟨rfl,hi,p⟩
 have q:=hl i σ H hi p
 by_cases eN:i<xs.length
 . refine .inr ⟨⟨xs,xs[i],q,by simp[eN]⟩,Pv (i+1),λbr H' p'=>⟨xs.length-(i+1),by omega,rfl,eN,p'⟩,λx H' y=>?_⟩
   obtain⟨e,y⟩:=y
   subst e
   exact hs i x σ _ (y xs q) p
 . have e:i=xs.length:=by omega
   subst e
   exact .inl ⟨⟨xs,q,aah _⟩,hd σ H p⟩
theorem ia{lo:Int}{n:Nat}{g:TG}{tb:TS}{D:Ends}{σ:St}{H:Hp}(Pv:Nat->St->Hp->Prop)(h0:Pv 0 σ H)
 (hs:∀i σ H,i<n->Pv i σ H->g (.int (lo+i)) σ H λgk H2=>tb {D with nx:=Pv (i+1),ct:=Pv (i+1),bk:=D.nx} gk H2) (hd:∀σ H,Pv n σ H->D.nx σ H) :
 ∃W:Nat->Nat->St->Hp->Prop,(∃m,W 0 m σ H)/\∀i m σ H,W i m σ H->
  ((Dg lo n).stop i H/\D.nx σ H)\/((Dg lo n).go i H/\∃N:St->Hp->Prop,(∀br H',N br H'->∃m',m'<m/\W (i+1) m' br H')/\∀x H',(Dg lo n).yld i H x H'->g x σ H' λgk H2=>tb {D with nx:=N,ct:=N,bk:=D.nx} gk H2):=by
 refine⟨λi m σ H=>m=n-i/\i<=n/\Pv i σ H,⟨n,by simp,abQ _,h0⟩,?_⟩
 rintro i m σ H ⟨rfl,hi,p⟩
 by_cases eN:i<n
 . refine .inr ⟨eN,Pv (i+1),λbr H' p'=>⟨n-(i+1),by omega,rfl,eN,p'⟩,λx H' y=>?_⟩
   obtain⟨e,y⟩:=y
   subst e y
   exact hs i σ _ eN p
 . have e:i=n:=by omega
   subst e
   exact .inl ⟨aah _,hd σ H p⟩
noncomputable abbrev R2:=V->V->Hp->VK->Prop
noncomputable def iP(X:Cx)(f:Value->Value->Sem Value)(r:R2):Prop:=
 ∀(pins:List (Addr×Obj)) (s:Shared) (σ:St) (H:Hp) (x y:V) (v u:Value) (Q:VK),Inv X pins σ H s->RelV x v->RelV y u->r x y H Q->
  wpAny (model X.prog X.w) X.A (f v u) (EP X pins σ Q) X.xe s
noncomputable def OQ(X:Cx)(f:Value->Sem Value)(r:V->Hp->VK->Prop):Prop:=
 ∀(pins:List (Addr×Obj)) (s:Shared) (σ:St) (H:Hp) (x:V) (v:Value) (Q:VK),Inv X pins σ H s->RelV x v->r x H Q->
  wpAny (model X.prog X.w) X.A (f v) (EP X pins σ Q) X.xe s
noncomputable def jb(X:Cx)(f:Value)(r:List V->Hp->VK->Prop):Prop:=
 ∀(pins:List (Addr×Obj)) (s:Shared) (σ:St) (H:Hp) (xs:List V) (us:List Value) (Q:VK),Inv X pins σ H s->Vals xs us->r xs H Q->
  wpAny (model X.prog X.w) X.A (call f us) (EP X pins σ Q) X.xe s
noncomputable def oP(r:R2)(ta tb:TE):TE:=λσ H Q=>ta σ H λx H1=>tb σ H1 λy H2=>r x y H2 Q
noncomputable def YK(r:V->Hp->VK->Prop)(ta:TE):TE:=λσ H Q=>ta σ H λx H1=>r x H1 Q
noncomputable def rI(C:Int->Int->Prop)(g:Int->Int->V):R2:=λx y H Q=>∃i j,x=.int i/\y=.int j/\C i j/\Q (g i j) H
noncomputable def AI(g:Int->Int->V):R2:=λx y H Q=>∃i j,x=.int i/\y=.int j/\Q (g i j) H
noncomputable def rU(g:Int->V):V->Hp->VK->Prop:=λx H Q=>∃i,x=.int i/\Q (g i) H
section
variable {X:Cx}{a b c:Expr}{ta tb tc:TE}{pos:Pos}
theorem JC(ha:PE X a ta)(hb:PE X b tb){pins:List (Addr×Obj)}{s:Shared}{σ:St}{H:Hp}{R:V->V->Hp->Prop}(I:Inv X pins σ H s)
 (h:ta σ H λx H1=>tb σ H1 λy H2=>R x y H2){Q:Value->Shared->Prop}{f:Value->Value->Sem Value}
 (hf:∀v u s2 x y H2,Inv X pins σ H2 s2->RelV x v->RelV y u->R x y H2->wpAny (model X.prog X.w) X.A (f v u) Q X.xe s2) :
 wpAny (model X.prog X.w) X.A (eval a X.env) (λv eC=>wpAny (model X.prog X.w) X.A (eval b X.env) (λu uT=>wpAny (model X.prog X.w) X.A (f v u) Q X.xe uT) X.xe eC) X.xe s:=by
 refine aD (ha pins s σ H _ I h) λv s1 zq=>?_
 obtain⟨x,H1,I1,r1,q1⟩:=zq
 refine aD (hb pins s1 σ H1 _ I1 q1) λu s2 zq=>?_
 obtain⟨y,H2,I2,r2,q2⟩:=zq
 exact hf v u s2 x y H2 I2 r1 r2 q2
theorem aB{op:Operator}{r:R2}(ho:iP X (binaryOp op) r) (ha:PE X a ta) (hb:PE X b tb):PE X (.BinOp a op b pos) (oP r ta tb):=by
 intro pins s σ H Q I h
 exact wpAny_BinOp (JC ha hb I h λv u s2 x y H2 I2 rx ry q=>ho pins s2 σ H2 x y v u Q I2 rx ry q)
theorem uy{op:UnaryOp}{r:V->Hp->VK->Prop}(ho:OQ X (unaryOp op) r) (ha:PE X a ta):PE X (.UnaryOp op a pos) (YK r ta):=by
 intro pins s σ H Q I h
 exact UnaryOp_ (aD (ha pins s σ H _ I h) λv s1 ⟨x,H1,I1,r1,q1⟩=>ho pins s1 σ H1 x v Q I1 r1 q1)
theorem OR{f:Value->Value->Sem Value}{C:Int->Int->Prop}{g:Int->Int->Int}
 (rule:∀(i j:Int) (t u:Tok) (s:Shared) (Q:Value->Shared->Prop) (E:Value->Shared->Prop),C i j->Q (.int (g i j) s.toks) {s with toks:=s.toks+1} -> wpAny (model X.prog X.w) X.A (f (.int i t) (.int j u)) Q E s) :
 iP X f (rI C λi j=>.int (g i j)):=by
 intro pins s σ H x y v u Q I rx ry h
 obtain⟨i,j,rfl,rfl,hc,q⟩:=h
 obtain⟨t,rfl⟩:=rx
 obtain⟨t',rfl⟩:=ry
 exact rule i j t t' s _ _ hc ⟨.int (g i j),H,I.tok _,⟨_,rfl⟩,q⟩
theorem JD{f:Value->Value->Sem Value}{g:Int->Int->Int}
 (rule:∀(i j:Int) (t u:Tok) (s:Shared) (Q:Value->Shared->Prop) (E:Value->Shared->Prop),Q (.int (g i j) s.toks) {s with toks:=s.toks+1} -> wpAny (model X.prog X.w) X.A (f (.int i t) (.int j u)) Q E s) :
 iP X f (AI λi j=>.int (g i j)):=by
 intro pins s σ H x y v u Q I rx ry h
 obtain⟨i,j,rfl,rfl,q⟩:=h
 obtain⟨t,rfl⟩:=rx
 obtain⟨t',rfl⟩:=ry
 exact rule i j t t' s _ _ ⟨.int (g i j),H,I.tok _,⟨_,rfl⟩,q⟩
theorem OS{f:Value->Value->Sem Value}{g:Int->Int->Bool}
 (rule:∀(i j:Int) (t u:Tok) (s:Shared) (Q:Value->Shared->Prop) (E:Value->Shared->Prop),Q (.bool (g i j)) s->wpAny (model X.prog X.w) X.A (f (.int i t) (.int j u)) Q E s) :
 iP X f (AI λi j=>.bl (g i j)):=by
 intro pins s σ H x y v u Q I rx ry h
 obtain⟨i,j,rfl,rfl,q⟩:=h
 obtain⟨t,rfl⟩:=rx
 obtain⟨t',rfl⟩:=ry
 exact rule i j t t' s _ _ ⟨.bl (g i j),H,I,rfl,q⟩
noncomputable def Xu(i j:Int):Prop:=0<j/\j<1073741824
noncomputable def JE(i j:Int):Prop:=(-(2 ^ 64)<i/\i<2 ^ 64)\/(-(2 ^ 64)<j/\j<2 ^ 64)
theorem JE.ok{i j:Int}(h:JE i j):IntMulOk i j:=by
 rcases h with⟨h1,h2⟩|⟨h1,h2⟩
 . exact .of_left (intBits_le_64 h1 h2)
 . exact .of_right (intBits_le_64 h1 h2)
theorem eP:iP X (binaryOp .Add) (AI λi j=>.int (i+j)):=JD λ_ _ _ _ _ _ _ q=>add_int q
theorem nZ:iP X (binaryOp .Sub) (AI λi j=>.int (i-j)):=JD λ_ _ _ _ _ _ _ q=>sub_int q
theorem ji:iP X (binaryOp .Mult) (rI JE λi j=>.int (i*j)):=OR λ_ _ _ _ _ _ _ hc q=>mul_int q hc.ok
theorem iO:iP X (binaryOp .FloorDiv) (rI Xu λi j=>.int (i / j)):=OR λi j _ _ _ _ _ hc q=>by
 have h1:(0:Int)<j:=hc.1
 have h2:j<1073741824:=hc.2
 exact floordiv_int (by omega) (by rw[Int.fdiv_eq_ediv_of_nonneg i (by omega)];exact q) (.inl (PyProof.noPylong_small (by omega)))
theorem dE:iP X (binaryOp .Mod) (rI (λ_ j=>0<j) λi j=>.int (i % j)):=OR λi j _ _ _ _ _ hc q=>by
 have h1:(0:Int)<j:=hc
 exact mod_int' (by omega) (by rw[Int.fmod_eq_emod_of_nonneg i (by omega)];exact q)
theorem wu:iP X (binaryOp .BitOr) (AI λi j=>.int (Builtin.bitOr i j)):=JD λ_ _ _ _ _ _ _ q=>or_int q
theorem YL{f:Value->Sem Value}{g:Int->Int}
 (rule:∀(i:Int) (t:Tok) (s:Shared) (Q:Value->Shared->Prop) (E:Value->Shared->Prop),Q (.int (g i) s.toks) {s with toks:=s.toks+1} -> wpAny (model X.prog X.w) X.A (f (.int i t)) Q E s) :
 OQ X f (rU λi=>.int (g i)):=by
 intro pins s σ H x v Q I rx h
 obtain⟨i,rfl,q⟩:=h
 obtain⟨t,rfl⟩:=rx
 exact rule i t s _ _ ⟨.int (g i),H,I.tok _,⟨_,rfl⟩,q⟩
theorem p0:OQ X (unaryOp .USub) (rU λi=>.int (-i)):=YL λ_ _ _ _ _ q=>neg_int q
end
noncomputable def Ey:V->V->Bool
 | .aH,.aH=>true | .aH,.int _=>true | .int _,.aH=>true | .aH,.bl _=>true | .bl _,.aH=>true | .aH,.str _=>true | .str _,.aH=>true
 | .int _,.int _=>true | .bl _,.bl _=>true | .str _,.str _=>true | .pU _,.pU _=>true
 | .int _,.str _=>true | .str _,.int _=>true | .bl _,.str _=>true | .str _,.bl _=>true
 | _,_=>false
noncomputable def OT:R2:=λx y H Q=>Ey x y=true/\Q (.bl (decide (x=y))) H
noncomputable def YM:R2:=λx y H Q=>Ey x y=true/\Q (.bl (!decide (x=y))) H
theorem Dh{i j:Int} : decide (V.int i=V.int j)=(i == j):=by
 rw[abx]
 simp
theorem Gq{i j:Bool} : decide (V.bl i=V.bl j)=(i == j):=by
 rw[abx]
 simp
theorem Di{i j:Str} : decide (V.str i=V.str j)=(i == j):=by
 rw[abx]
 simp
theorem Dj{i j:Array UInt8} : decide (V.pU i=V.pU j)=(i.toList == j.toList):=by
 rw[abx]
 cases i
 cases j
 simp
section
variable {X:Cx}{a b c:Expr}{ta tb tc:TE}{pos:Pos}
theorem ck{pins:List (Addr×Obj)}{σ:St}{H:Hp}{s:Shared}{Q:VK}{k k':Bool}(I:Inv X pins σ H s) (q:Q (.bl k) H) (e:k=k'):EP X pins σ Q (.bool k') s:=by
 subst e
 exact⟨.bl k,H,I,rfl,q⟩
theorem iV:iP X (compareOp .Eq) OT:=by
 intro pins s σ H x y v u Q I rx ry h
 obtain⟨hs,q⟩:=h
 cases x with
 | aH=>
  cases rx
  cases y with
  | aH=>cases ry;exact PySem.EqNone.eq_none_none (ck I q (by simp))
  | bl j=>cases ry;exact PySem.EqNone.eq_none_bool (ck I q (by simp))
  | int j=>obtain⟨t',rfl⟩:=ry;exact PySem.EqNone.eq_none_int (ck I q (by simp))
  | str j=>obtain⟨t',rfl⟩:=ry;exact PySem.EqNone.eq_none_str (ck I q (by simp))
  | _=>exact absurd (show false=true from hs) aat
 | bl i=>
  cases rx
  cases y with
  | aH=>cases ry;exact PySem.EqNone.eq_bool_none (ck I q (by simp))
  | bl j=>cases ry;exact eq_bool (ck I q Gq)
  | str j=>obtain⟨t',rfl⟩:=ry;exact PySem.EqMixed.eq_bool_str (ck I q (by simp))
  | _=>exact absurd (show false=true from hs) aat
 | int i=>
  obtain⟨t,rfl⟩:=rx
  cases y with
  | aH=>cases ry;exact PySem.EqNone.eq_int_none (ck I q (by simp))
  | int j=>obtain⟨t',rfl⟩:=ry;exact eq_int (ck I q Dh)
  | str j=>obtain⟨t',rfl⟩:=ry;exact PySem.EqMixed.eq_int_str (ck I q (by simp))
  | _=>exact absurd (show false=true from hs) aat
 | str i=>
  obtain⟨t,rfl⟩:=rx
  cases y with
  | aH=>cases ry;exact PySem.EqNone.eq_str_none (ck I q (by simp))
  | bl j=>cases ry;exact PySem.EqMixed.eq_str_bool (ck I q (by simp))
  | int j=>obtain⟨t',rfl⟩:=ry;exact PySem.EqMixed.eq_str_int (ck I q (by simp))
  | str j=>obtain⟨t',rfl⟩:=ry;exact eq_str (ck I q Di)
  | _=>exact absurd (show false=true from hs) aat
 | pU i=>
  obtain⟨t,rfl⟩:=rx
  cases y with
  | pU j=>obtain⟨t',rfl⟩:=ry;exact W.eq_bytes (ck I q Dj)
  | _=>exact absurd (show false=true from hs) aat
 | _=>cases y <;> exact absurd (show false=true from hs) aat
theorem Ez:iP X (compareOp .NotEq) YM:=by
 intro pins s σ H x y v u Q I rx ry h
 obtain⟨hs,q⟩:=h
 cases x with
 | aH=>
  cases rx
  cases y with
  | aH=>cases ry;exact PySem.EqNone.ne_none_none (ck I q (by simp))
  | bl j=>cases ry;exact PySem.EqNone.ne_none_bool (ck I q (by simp))
  | int j=>obtain⟨t',rfl⟩:=ry;exact PySem.EqNone.ne_none_int (ck I q (by simp))
  | str j=>obtain⟨t',rfl⟩:=ry;exact PySem.EqNone.ne_none_str (ck I q (by simp))
  | _=>exact absurd (show false=true from hs) aat
 | bl i=>
  cases rx
  cases y with
  | aH=>cases ry;exact PySem.EqNone.ne_bool_none (ck I q (by simp))
  | bl j=>cases ry;exact ne_bool (ck I q (congrArg not Gq))
  | str j=>obtain⟨t',rfl⟩:=ry;exact PySem.EqMixed.ne_bool_str (ck I q (by simp))
  | _=>exact absurd (show false=true from hs) aat
 | int i=>
  obtain⟨t,rfl⟩:=rx
  cases y with
  | aH=>cases ry;exact PySem.EqNone.ne_int_none (ck I q (by simp))
  | int j=>obtain⟨t',rfl⟩:=ry;exact ne_int (ck I q (congrArg not Dh))
  | str j=>obtain⟨t',rfl⟩:=ry;exact PySem.EqMixed.ne_int_str (ck I q (by simp))
  | _=>exact absurd (show false=true from hs) aat
 | str i=>
  obtain⟨t,rfl⟩:=rx
  cases y with
  | aH=>cases ry;exact PySem.EqNone.ne_str_none (ck I q (by simp))
  | bl j=>cases ry;exact PySem.EqMixed.ne_str_bool (ck I q (by simp))
  | int j=>obtain⟨t',rfl⟩:=ry;exact PySem.EqMixed.ne_str_int (ck I q (by simp))
  | str j=>obtain⟨t',rfl⟩:=ry;exact ne_str (ck I q (congrArg not Di))
  | _=>exact absurd (show false=true from hs) aat
 | pU i=>
  obtain⟨t,rfl⟩:=rx
  cases y with
  | pU j=>obtain⟨t',rfl⟩:=ry;exact W.ne_bytes (ck I q (congrArg not Dj))
  | _=>exact absurd (show false=true from hs) aat
 | _=>cases y <;> exact absurd (show false=true from hs) aat
theorem Lv:iP X (compareOp .Lt) (AI λi j=>.bl (decide (i<j))):=OS λ_ _ _ _ _ _ _ q=>lt_int q
theorem Ak:iP X (compareOp .Gt) (AI λi j=>.bl (decide (j<i))):=OS λ_ _ _ _ _ _ _ q=>gt_int q
theorem cp(b:Expr){op:CmpOp}(h:op≠.In:=by decide)(h2:op≠.NotIn:=by decide):behindInMarks op b=false:=by
 have e1:(op == CmpOp.In)=false:=by cases op <;> first|rfl|exact absurd rfl h
 have e2:(op == CmpOp.NotIn)=false:=by cases op <;> first|rfl|exact absurd rfl h2
 cases b <;> simp[behindInMarks,e1,e2]
theorem xW{op:CmpOp}{r:R2}(ho:iP X (compareOp op) r) (ha:PE X a ta) (hb:PE X b tb) (hm:behindInMarks op b=false):PE X (.Compare a [op] [b] pos) (oP r ta tb):=by
 intro pins s σ H Q I h
 exact wpAny_Compare1 (JC ha hb I h λv u s2 x y H2 I2 rx ry q=>ho pins s2 σ H2 x y v u Q I2 rx ry q) hm
noncomputable def wx(t:TE):TT:=λσ H Q=>t σ H λx H'=>∃k,x=.bl k/\Q k H'
theorem bg{op:CmpOp}{r:R2}(ho:iP X (compareOp op) r) (ha:PE X a ta) (hb:PE X b tb) (hm:behindInMarks op b=false):PT X (.Compare a [op] [b] pos) (wx (oP r ta tb)):=by
 intro pins s σ H Q I h
 refine adi (aD (ha pins s σ H _ I h) λv s1 ⟨x,H1,I1,r1,q1⟩=>aD (hb pins s1 σ H1 _ I1 q1) λu s2 ⟨y,H2,I2,r2,q2⟩=>
  aD (ho pins s2 σ H2 x y v u _ I2 r1 r2 q2) λc s3 ⟨z,H3,I3,r3,k,e,q3⟩=>?_) hm
 subst e
 cases r3
 exact acE ⟨H3,I3,q3⟩
theorem p8:(sizeLine:Nat)<2 ^ 63:=by rw[aeV];decide
theorem cS:iP X (binaryOp .Add) (λx y H Q=>∃i j,x=.str i/\y=.str j/\i.length+j.length<=sizeLine/\Q (.str (i++j)) H):=by
 intro pins s σ H x y v u Q I rx ry h
 obtain⟨i,j,rfl,rfl,hz,q⟩:=h
 obtain⟨t,rfl⟩:=rx
 obtain⟨t',rfl⟩:=ry
 exact add_str (λt' tk=>⟨.str (i++j),H,I.tok _,⟨_,rfl⟩,q⟩) hz
theorem vals1{x:V}{us:List Value}(r:Vals [x] us):∃u,us=[u]/\RelV x u:=by
 cases r with
 | cons r1 r2=>cases r2;exact⟨_,rfl,r1⟩
theorem vals2{x y:V}{us:List Value}(r:Vals [x,y] us):∃u w',us=[u,w']/\RelV x u/\RelV y w':=by
 cases r with
 | cons r1 r2=>
  cases r2 with
  | cons r3 r4=>cases r4;exact⟨_,_,rfl,r1,r3⟩
theorem Gr:jb X (.type "int") (λxs H Q=>(∃i,xs=[.int i]/\Q (.int i) H)\/∃k,xs=[.bl k]/\Q (.int (if k then 1 else 0)) H):=by
 intro pins s σ H xs us Q I r h
 rcases h with⟨i,rfl,q⟩|⟨k,rfl,q⟩
 . obtain⟨u,rfl,t,rfl⟩:=vals1 r
   exact call_int_int ⟨.int i,H,I,⟨_,rfl⟩,q⟩
 . obtain⟨u,rfl,r1⟩:=vals1 r
   cases r1
   exact call_int_bool ⟨.int (if k then 1 else 0),H,I.tok _,⟨_,rfl⟩,q⟩
theorem sF:jb X (.type "str") (λxs H Q=>∃i,xs=[.int i]/\i.natAbs.log2<1920/\Q (.str (toString i)) H):=by
 intro pins s σ H xs us Q I r h
 obtain⟨i,rfl,hz,q⟩:=h
 obtain⟨u,rfl,t,rfl⟩:=vals1 r
 exact PySem.P.str_of_int hz ⟨.str _,H,I.tok _,⟨_,rfl⟩,q⟩
end
structure xX(h:Heap) (x dx C:Addr) (mA:Str->Option Value):Prop where
 obj:h.get? x=some (W.instObj C dx)
 ns:h.Ns1 dx mA
 ne:dx≠x
theorem Gs{h:Heap}{dx:Addr}{mA:Str->Option Value}(n:h.Ns1 dx mA):∃od,h.get? dx=some od/\∀name,W.lookIn name od=some (mA name):=by
 obtain⟨o,es,ep,ho,hd,hk,_,hm⟩:=n
 refine⟨o,ho,λname=>?_⟩
 have e:=hm name
 unfold nsFind findBy at e
 rw[← Array.find?_toList]at e
 unfold W.lookIn
 rw[hd]
 dsimp only
 split
 . rename_i y q
   rw[q]at e
   exact congrArg some e
 . rename_i q
   rw[q]at e
   have a:es.toList.any (·.refKey)=false:=by
    rw[List.any_eq_false]
    intro y hy
    obtain⟨z,t,n8⟩:=hk y (Array.mem_toList_iff.mp hy)
    simp[DictEntry.refKey,n8]
   have a':¬ es.toList.any (·.refKey)=true:=by rw[a];exact aat
   rw[aay a']
   exact congrArg some e
theorem xX.look{h:Heap}{x dx C:Addr}{mA:Str->Option Value}(I:xX h x dx C mA):∃od,W.InstAt h x (W.instObj C dx) C (some od)/\∀name,W.lookIn name od=some (mA name):=
 let ⟨od,ho,hl⟩:=Gs I.ns
 ⟨od,⟨I.obj,rfl,rfl,ho⟩,hl⟩
section
variable {prog:Program}{w:World}{A:Around}{E:Value->Shared->Prop}{s:Shared}{K:W.Frag}{x dx C f:Addr}{mA:Str->Option Value}{name:Str}{v:Value}
theorem get_map{expr:Bool}{Q:Value->Shared->Prop}(X:K.In s.heap)(I:xX s.heap x dx C mA)(hg:W.plainGet K C name=true)(hh:W.hasDictIn K C=true)
 (ha:W.findIn K (.ref C) name=some none) (hv:mA name=some v) (YN:W.handedIn v=true) (h:Q v {s with toks:=s.toks+1}) :
 wpAny (model prog w) A (getAttr (.ref x) name expr) Q E s:=by
 obtain⟨od,J,hl⟩:=I.look
 exact W.get_value X J (W.plainGet_of hg).1 (W.findObj_own hh ha rfl (by rw[hl,hv])) YN h
theorem Nc{ns:List Str}{Q:Unit->Shared->Prop}(X:K.In s.heap)(I:xX s.heap x dx C mA)
 (hs:W.findIn K (.ref C) "__setattr__" = some (some (.builtin "object.__setattr__"))) (hp:W.plainOver K C=true) (ht:W.takerIn K C name=some none) (hh:W.hasDictIn K C=true)
 (hw:PySem.Within mA ns) (hsz:ns.length<=sizeLine)
 (h:∀h',xX h' x dx C (λy=>if y=name then some v else mA y)->Heap.SameBut dx s.heap h'->Q () {s with heap:=h',toks:=s.toks+2}) :
 wpAny (model prog w) A (setAttr (.ref x) name v) Q E s:=by
 obtain⟨od,J,hl⟩:=I.look
 refine W.set_plain X J hs (W.osa_open (s:={s with toks:=s.toks+1}) (r:=none) X J hp ht λb=>?_)
 obtain⟨cd,hc,hd'⟩:=W.any_some hh
 have hx:s.heap.get? x=some ⟨.ref C,some dx,.plain,#[]⟩:=I.obj
 refine aac (aak (aac (aac (wpAny_loadPart hx (aac (W.Looks.here (s:={s with toks:=s.toks+1}) (W.looks_clsIn X hc) ?_))))))
 rw[hd']
 refine aak (a:=some dx) (aac (aak (aac ?_)))
 refine wpAny_nsSet1 (s:={s with toks:=s.toks+1}) I.ns λh' kA j6=>?_
 obtain⟨oD,esD,epD,YO,YQ,YR⟩:=kA.count (PySem.Within.cons name v hw)
 refine aac (wpAny_lookBehind YO (by rw[YQ];exact pastItsLine_dict (aap YR (by rw[abt];omega))) ?_)
 exact aak (h _ ⟨(j6.2 _ (aav I.ne)).trans I.obj,kA,I.ne⟩ j6)
theorem JF{R:Result->Shared->Prop}{vs:List Value}{kw:List (Str×Value)}(X:K.In s.heap) (hm:W.makesIn K C=true)
 (hi:W.findIn K (.ref C) "__init__" = some (some (.ref f))) (hf:W.typeIn K (.ref f)=some (.type "function"))
 (h:codeAny (model prog w) (A.under (.builtin "type.__call__" ⟨.ref C::vs,kw⟩)) (.call (.ref f) ⟨.ref (s.heap.objs.size+1)::vs,kw⟩) (W.InitBack (s.heap.objs.size+1) R)
  {s with heap:=(s.heap.push W.emptyDict).push (W.instObj C s.heap.objs.size)}) :
 codeAny (model prog w) A (.call (.ref C) ⟨vs,kw⟩) R s:=by
 obtain⟨hh,g,d,t,os⟩:=s
 exact W.make_core (W.makes_of X hm) (W.looks_findIn X hi) (λself=>W.bind_fn X self hf) (.inl rfl) h
end
noncomputable def bG(f:Str)(v:V):List (Str×V)->List (Str×V)
 | []=>[(f,v)]
 | (g,x)::r=>if g=f then (g,v)::r else (g,x)::bG f v r
theorem aZ(f g:Str)(v:V):∀fs:List (Str×V),(bG f v fs).lookup g=if g=f then some v else fs.lookup g
 | []=>by
  show List.lookup g [(f,v)]=_
  by_cases h:g=f
  . have hb:(g == f)=true:=adB.mpr h
    simp only[List.lookup,hb,aaI h]
  . have hb:(g == f)=false:=abr.mpr h
    simp only[List.lookup,hb,aay h]
 | (k,x)::r=>by
  have ih:=aZ f g v r
  rw[show bG f v ((k,x)::r)=(if k=f then (k,v)::r else (k,x)::bG f v r) from rfl]
  by_cases hk:k=f
  . rw[aaI hk]
    by_cases h:g=k
    . have hb:(g == k)=true:=adB.mpr h
      simp only[List.lookup,hb,aaI (h.trans hk)]
    . have hb:(g == k)=false:=abr.mpr h
      simp only[List.lookup,hb,aay (λe:g=f=>h (e.trans hk.symm))]
  . rw[aay hk]
    by_cases h:g=k
    . have hb:(g == k)=true:=adB.mpr h
      simp only[List.lookup,hb,aay (λe:g=f=>hk (h.symm.trans e))]
    . have hb:(g == k)=false:=abr.mpr h
      simp only[List.lookup,hb]
      exact ih
theorem sH(f:Str)(v:V):∀fs:List (Str×V),f∈(bG f v fs).map (·.1)/\∀g,g∈fs.map (·.1)->g∈(bG f v fs).map (·.1)
 | []=>⟨by simp[bG],λg h=>by simp at h⟩
 | (k,x)::r=>by
  obtain⟨i1,i2⟩:=sH f v r
  rw[show bG f v ((k,x)::r)=(if k=f then (k,v)::r else (k,x)::bG f v r) from rfl]
  by_cases hk:k=f
  . rw[aaI hk]
    subst hk
    exact⟨by simp,λg h=>by simpa using h⟩
  . rw[aay hk]
    refine⟨?_,λg h=>?_⟩
    . rw[aas]
      exact aaL _ i1
    . rw[aas]at h ⊢
      rcases aan.mp h with e|e
      . exact aan.mpr (.inl e)
      . exact aaL _ (i2 g e)
theorem pE(f:Str)(v:V):∀fs:List (Str×V),(bG f v fs).length<=fs.length+1
 | []=>by simp[bG]
 | (k,x)::r=>by
  have ih:=pE f v r
  rw[show bG f v ((k,x)::r)=(if k=f then (k,v)::r else (k,x)::bG f v r) from rfl]
  by_cases hk:k=f
  . rw[aaI hk,abt,abt];omega
  . rw[aay hk,abt,abt];omega
theorem jW.some_of{v:V}{o:Option Value}(r:jW (some v) o):∃u,o=some u/\RelV v u:=by
 cases o with
 | none=>exact(show False from r).elim
 | some u=>exact⟨u,rfl,r⟩
theorem Gu{v:V}{u:Value}(r:RelV v u):W.handedIn u=true:=by
 cases v with
 | aH=>cases(show u=Value.none from r);rfl
 | bl b=>cases(show u=Value.bool b from r);rfl
 | int i=>obtain⟨t,e⟩:=(show ∃t,u=Value.int i t from r);cases e;rfl
 | str x=>obtain⟨t,e⟩:=(show ∃t,u=Value.str x t from r);cases e;rfl
 | pU b=>obtain⟨t,e⟩:=(show ∃t,u=Value.bytes b t from r);cases e;rfl
 | ja b=>obtain⟨t,e⟩:=(show ∃t,u=Value.float b t from r);cases e;rfl
 | ref a=>cases(show u=Value.ref a from r);rfl
 | ty n=>cases(show u=Value.type n from r);rfl
section
variable {P:Program}{w:World}{H H':Hp}{h h':Heap}{a C dx:Addr}{fs fs':List (Str×V)}
theorem xY(hok:gi P w H h) (e:H a=some (.ins C dx fs)):∃mA,xX h a dx C mA/\(∀f,jW (fs.lookup f) (mA f))/\PySem.Within mA (fs.map (·.1))/\fs.length<=1000/\H dx=some (.own a):=by
 obtain⟨d,z,ne,ob,mA,n,r,q⟩:=(show bO P w H h a (.ins C dx fs) from hok a _ e)
 exact⟨mA,⟨ob,n,ne⟩,r,q,z,d⟩
end
structure uW(K:W.Frag) (C:Addr):Prop where
 pg:W.plainGet K C Str.empty=true
 hd:W.hasDictIn K C=true
 po:W.plainOver K C=true
 sa:W.findIn K (.ref C) "__setattr__" = some (some (.builtin "object.__setattr__"))
theorem uW.get{K:W.Frag}{C:Addr}(c:uW K C)(f:Str):W.plainGet K C f=true:=c.pg
noncomputable def eQ(K:W.Frag)(C:Addr)(f:Str):Prop:=W.findIn K (.ref C) f=some none
theorem eQ.T8{K:W.Frag}{C:Addr}{f:Str}(n:eQ K C f):W.takerIn K C f=some none:=by
 unfold W.takerIn
 rw[show W.findIn K (.ref C) f=some none from n]
 rfl
structure Meth(K:W.Frag) (C:Addr) (m:Str) (f:Addr):Prop where
 at_:W.findIn K (.ref C) m=some (some (.ref f))
 fn:W.isFn K (.ref f)=true
 kp:W.keepIn K (.ref f)=true
section
variable {X:Cx}{pins:List (Addr×Obj)}{σ:St}{H:Hp}{s:Shared}{a C dx:Addr}{fs:List (Str×V)}{f:Str}{v:V}{A:Around}{E:Value->Shared->Prop}
theorem EA{b:Bool}{Q:Value->Shared->Prop}(I:Inv X pins σ H s) (e:H a=some (.ins C dx fs)) (c:uW X.K C) (n:eQ X.K C f) (l:fs.lookup f=some v)
 (h:∀u s',Inv X pins σ H s'->RelV v u->Q u s'):wpAny (model X.prog X.w) A (getAttr (.ref a) f b) Q E s:=by
 obtain⟨mA,O,r,_,_,_⟩:=xY I.hok e
 obtain⟨u,hu,ru⟩:=jW.some_of (v:=v) (o:=mA f) (by rw[← l];exact r f)
 exact get_map I.i0 O (c.get f) c.hd n hu (Gu ru) (h u _ (I.tok _) ru)
theorem EB{y:V}{u:Value}{Q:Unit->Shared->Prop}(I:Inv X pins σ H s) (e:H a=some (.ins C dx fs)) (c:uW X.K C) (n:eQ X.K C f) (hl:fs.length<1000) (ry:RelV y u)
 (h:∀s',Inv X pins σ (upd H a (.ins C dx (bG f y fs))) s'->Q () s'):wpAny (model X.prog X.w) A (setAttr (.ref a) f u) Q E s:=by
 obtain⟨mA,O,r,wi,_,ho⟩:=xY I.hok e
 have hz:(fs.map (·.1)).length<=sizeLine:=by rw[aaa,aeV];omega
 refine Nc I.i0 O c.sa c.po n.T8 c.hd wi hz λh' O' sb=>h _ ?_
 have hd:∃o,h'.get? dx=some o:=let ⟨o,_,_,e',_⟩:=O'.ns; ⟨o,e'⟩
 refine I.write (x:=a) (e:=dx) (by rw[e];exact True.intro) (.inr ho) (λb q hb z=>(sb.2 b hb).trans z) hd ?_
 refine⟨by rw[ai O.ne];exact ho,?_,O.ne,O'.obj,_,O'.ns,λg=>?_,λg hg=>?_⟩
 . have:=pE f y fs;omega
 . show jW ((bG f y fs).lookup g) (if g=f then some u else mA g)
   rw[aZ]
   by_cases q:g=f
   . rw[aaI q,aaI q];exact ry
   . rw[aay q,aay q];exact r g
 . by_cases q:g=f
   . rw[q];exact(sH f y fs).1
   . refine(sH f y fs).2 g (wi g λz=>hg ?_)
     show (if g=f then some u else mA g)=none
     rw[aay q];exact z
theorem Inv.made(I:Inv X pins σ H s):Inv X pins σ (upd (upd H s.heap.objs.size (.own (s.heap.objs.size+1))) (s.heap.objs.size+1) (.ins C s.heap.objs.size []))
 {s with heap:=(s.heap.push W.emptyDict).push (W.instObj C s.heap.objs.size)}:=by
 have e1:(s.heap.push W.emptyDict).get? s.heap.objs.size=some W.emptyDict:=aar s.heap rfl
 have e2:((s.heap.push W.emptyDict).push (W.instObj C s.heap.objs.size)).get? (s.heap.objs.size+1)=some (W.instObj C s.heap.objs.size):=by
  have:=aar (s.heap.push W.emptyDict) (o:=W.instObj C s.heap.objs.size) rfl
  rwa[abn]at this
 have e3:(s.heap.push W.emptyDict).Ns s.heap.objs.size (λ_=>none):=⟨W.emptyDict,#[],_,e1,rfl,(λe he=>absurd he (by simp)),λ_=>rfl⟩
 have I1:=I.laid (a:=s.heap.objs.size) (o:=.own (s.heap.objs.size+1)) (h':=s.heap.push W.emptyDict) (t':=s.toks) (λb u q=>aad _ q) (aah _) ⟨_,e1⟩
 refine I1.laid (a:=s.heap.objs.size+1) (o:=.ins C s.heap.objs.size []) (t':=s.toks) (λb u q=>aad _ q) (abX (abn _ _)) ?_
 have ne:s.heap.objs.size≠s.heap.objs.size+1:=aax (adq _)
 refine⟨by rw[ai ne,af],abQ _,ne,e2,λ_=>none,(Heap.Ns1.of_empty e3).at λo q=>aad _ q,λ_=>True.intro,λy hy=>absurd rfl hy⟩
theorem Nd{prog:Program}{w:World}{env:Env}{e:Expr}{f:Str}{pos:Pos}{s:Shared}{Q:Value->Shared->Prop}(hb:attributeBase e f env (eval e env)=eval e env)
 (h:wpAny (model prog w) A (eval e env) (λo eC=>wpAny (model prog w) A (getAttr o f true) Q E eC) E s):wpAny (model prog w) A (eval (.Attribute e f pos) env) Q E s:=
 Attribute_any_ h (by rw[arm_eval_Attribute,hb])
end
noncomputable def JG(K:W.Frag)(ta:TE)(f:Str):TE:=λσ H Q=>ta σ H λx H1=>∃a C dx fs v,x=.ref a/\H1 a=some (.ins C dx fs)/\uW K C/\eQ K C f/\fs.lookup f=some v/\Q v H1
noncomputable def Xv(K:W.Frag)(ta tv:TE)(f:Str):TS:=λD σ H=>tv σ H λy H1=>ta σ H1 λx H2=>∃a C dx fs,x=.ref a/\H2 a=some (.ins C dx fs)/\uW K C/\eQ K C f/\fs.length<1000/\
 D.nx σ (upd H2 a (.ins C dx (bG f y fs)))
section
variable {X:Cx}{o e value:Expr}{f:Str}{pos pos' Xw:Pos}{ta tv:TE}
theorem dh(he:PE X e ta) (hb:attributeBase e f X.env (eval e X.env)=eval e X.env):PE X (.Attribute e f pos) (JG X.K ta f):=by
 intro pins s σ H Q I h
 refine Nd hb (aD (he pins s σ H _ I h) λu s1 zq=>?_)
 obtain⟨x,H1,I1,rx,a,C,dx,fs,v,ex,ea,c,n,l,q⟩:=zq
 subst ex
 obtain rfl:u=Value.ref a:=rx
 exact EA I1 ea c n l λu' s2 I2 ru=>⟨v,H1,I2,ru,q⟩
theorem qa(ha:PE X o ta)(hv:PE X value tv) (hs:swapsWith value (some (.Attribute o f pos')) pos.line X.env=pure false):PS X (.Assign [.Attribute o f pos'] value pos) (Xv X.K ta tv f):=by
 intro pins s σ H D I h
 refine plainObj_wpAny_Assign_Attribute (aD (hv pins s σ H _ I h) λu s1 ⟨y,H1,I1,ry,q⟩=>aD (ha pins s1 σ H1 _ I1 q) λov s2 ⟨x,H2,I2,rx,a,C,dx,fs,ex,ea,c,n,l,q2⟩=>?_) hs
 subst ex
 obtain rfl:ov=Value.ref a:=rx
 exact EB I2 ea c n l ry λs3 I3=>⟨σ,_,I3,q2⟩
end
section
variable {X:Cx}{pins:List (Addr×Obj)}{σ:St}{H:Hp}{s:Shared}{A:Around}{E:Value->Shared->Prop}{Q:Value->Shared->Prop}{c:Value}{b:Bool}
inductive kE(K:W.Frag) (H:Hp):V->Value->Prop where
 | aH:kE K H .aH (.type "NoneType")
 | bl (x:Bool):kE K H (.bl x) (.type "bool")
 | int (i:Int):kE K H (.int i) (.type "int")
 | str (x:Str):kE K H (.str x) (.type "str")
 | ja (x:UInt64):kE K H (.ja x) (.type "float")
 | lst {a:Addr}{xs:List V}(e:H a=some (.lst xs)):kE K H (.ref a) (.type "list")
 | cj {a:Addr}{o:Obj}{xs:List V}(e:H a=some (.cj o (.lst xs))):kE K H (.ref a) (.type "list")
 | tup {a:Addr}{xs:List V}(e:H a=some (.tup xs)):kE K H (.ref a) (.type "tuple")
 | dK {a:Addr}{kvs:List (Key×V)}(e:H a=some (.dK kvs)):kE K H (.ref a) (.type "dict")
 | dT {a:Addr}{kvs:List (List Key×V)}(e:H a=some (.dT kvs)):kE K H (.ref a) (.type "dict")
 | ins {a C dx:Addr}{fs:List (Str×V)}(e:H a=some (.ins C dx fs)) (cl:uW K C) (ha:W.findIn K (.ref C) "__class__" = some (some (.builtin "object.__class__")))
  (hn:W.specialIn K (.builtin "object.__class__") "__get__" = some (some (.builtin "getset_descriptor.__get__"))) (htk:W.takesIn K (.builtin "object.__class__")=some true)
  (hm:W.mroIn K C (.type "object")=some true):kE K H (.ref a) (.ref C)
theorem y0{x:V}{u t:Value}(I:Inv X pins σ H s)(rx:RelV x u)(ty:kE X.K H x t)(e:W.kitOne X.K t c=some b) (h:∀tk,Q (.bool b) {s with toks:=tk}) :
 wpAny (model X.prog X.w) A (call (.builtin "isinstance") [u,c]) Q E s:=by
 cases ty with
 | aH=>cases(show u=Value.none from rx);exact acL W.kitx_none I.i0 True.intro e (λz=>nomatch z) h
 | bl y=>cases(show u=Value.bool y from rx);exact acL W.kitx_bool I.i0 True.intro e (λz=>nomatch z) h
 | int i=>obtain⟨t,q⟩:=(show ∃t,u=Value.int i t from rx);cases q;exact acL W.kitx_int I.i0 True.intro e (λz=>nomatch z) h
 | str y=>obtain⟨t,q⟩:=(show ∃t,u=Value.str y t from rx);cases q;exact acL W.kitx_str I.i0 True.intro e (λz=>nomatch z) h
 | ja y=>obtain⟨t,q⟩:=(show ∃t,u=Value.float y t from rx);cases q;exact acL W.kitx_float I.i0 True.intro e (λz=>nomatch z) h
 | @lst a xs ea=>
  cases(show u=Value.ref a from rx)
  obtain⟨_,_,n,_,h1⟩:=(show bO X.prog X.w H s.heap a (.lst xs) from I.hok a _ ea)
  exact acL W.kitx_list I.i0 ⟨_,h1,rfl⟩ e (λz=>nomatch z) h
 | @cj a ob xs ea=>
  cases(show u=Value.ref a from rx)
  obtain⟨_,_,_,n,_,h1⟩:=(show bO X.prog X.w H s.heap a (.cj ob (.lst xs)) from I.hok a _ ea)
  exact acL W.kitx_list I.i0 ⟨_,h1,rfl⟩ e (λz=>nomatch z) h
 | @tup a xs ea=>
  cases(show u=Value.ref a from rx)
  obtain⟨_,_,_,p⟩:=(show bO X.prog X.w H s.heap a (.tup xs) from I.hok a _ ea)
  obtain⟨o,h1,h2,_⟩:=p
  exact acL W.kitx_tuple I.i0 ⟨o,h1,h2⟩ e (λz=>nomatch z) h
 | @dK a kvs ea=>
  cases(show u=Value.ref a from rx)
  obtain⟨_,_,vs,_,p⟩:=(show bO X.prog X.w H s.heap a (.dK kvs) from I.hok a _ ea)
  obtain⟨o,es,ep,h1,h2,_⟩:=p
  exact acL W.kitx_dict I.i0 ⟨o,h1,h2.1⟩ e (λz=>nomatch z) h
 | @dT a kvs ea=>
  cases(show u=Value.ref a from rx)
  obtain⟨_,_,xs,_,o,es,ep,h1,h2,_⟩:=(show bO X.prog X.w H s.heap a (.dT kvs) from I.hok a _ ea)
  exact acL W.kitx_dict I.i0 ⟨o,h1,h2.1⟩ e (λz=>nomatch z) h
 | @ins a C dx fs ea cl ha hn htk hm=>
  cases(show u=Value.ref a from rx)
  obtain⟨mA,O,_⟩:=xY I.hok ea
  obtain⟨od,J,_⟩:=O.look
  exact acL (W.kitx_own (cl.get _) cl.hd ha hn htk hm) I.i0 J e (λz=>nomatch z) h
end
structure aW(k:Nat) (A:Around):Prop where
 hd:A.handled=none
 dp:A.depth+3*k+5<recursionLimit
 un:A.units+16*k+200<cLine
theorem aW.mono{j k:Nat}{A:Around}(r:aW k A)(h:j<=k):aW j A:=⟨r.hd,by have:=r.dp;omega,by have:=r.un;omega⟩
theorem aW.deeper{k:Nat}{A:Around}(r:aW (k+1) A) (env:Env):aW k (A.deeper env):=
 ⟨r.hd,by have:=r.dp;show A.depth+1+3*k+5<_;omega,by have:=r.un;show A.units+3+16*k+200<_;omega⟩
theorem aW.in1{k:Nat}{A:Around}(r:aW (k+1) A):aW k A.in1:=
 ⟨r.hd,by have:=r.dp;show A.depth+3*k+5<_;omega,by have:=r.un;show A.units+1+16*k+200<_;omega⟩
theorem EC{A:Around}{C:Addr}{us:List Value}{kw:List (Str×Value)} : (A.under (.builtin "type.__call__" ⟨.ref C::us,kw⟩)).depth=A.depth+1:=by
 first|rfl|simp[Around.under,Code.weight,Code.isCreation,Code.isGuard,Code.isCaller,Code.frames,Code.isFrame,guardIds]
theorem ED{A:Around}{C:Addr}{us:List Value}{kw:List (Str×Value)} : (A.under (.builtin "type.__call__" ⟨.ref C::us,kw⟩)).units=A.units+1:=by
 first|rfl|simp[Around.under,Code.cUnits,Code.frames,Code.isFrame]
theorem aW.make{k:Nat}{A:Around}(r:aW (k+1) A) (C:Addr) (us:List Value) (kw:List (Str×Value)):aW k (A.under (.builtin "type.__call__" ⟨.ref C::us,kw⟩)):=
 ⟨r.hd,by have:=r.dp;rw[EC];omega,by have:=r.un;rw[ED];omega⟩
theorem aW.depth{k:Nat}{A:Around}(r:aW k A):A.depth<recursionLimit:=by have:=r.dp;omega
theorem aW.units{k:Nat}{A:Around}(r:aW k A):A.units+64<cLine:=by have:=r.un;omega
noncomputable def n9:TA:=λ_ H Q=>Q [] H
noncomputable def eJ(ta:TE)(tr:TA):TA:=λσ H Q=>ta σ H λx H1=>tr σ H1 λxs H2=>Q (x::xs) H2
section
variable {X:Cx}{e:Expr}{es:List Expr}{te:TE}{t:TA}{pos:Pos}
theorem ag:PA X [] n9:=λ_ _ _ _ H Q I h=>acg ⟨[],H,I,.nil,h⟩
theorem aa(ha:PE X e te)(hr:PA X es t) (hs:starEach (e::es) X.env=(false,eval e X.env)::starEach es X.env:=by rfl):PA X (e::es) (eJ te t):=by
 intro pos pins s σ H Q I h
 rw[hs]
 show wpAny _ _ (spliced ((false,eval e X.env)::backTo pos (starEach es X.env))) _ _ s
 refine abo (aD (ha pins s σ H _ I h) λu s1 zq=>?_)
 obtain⟨x,H1,I1,r1,q1⟩:=zq
 exact aD (hr pos pins s1 σ H1 _ I1 q1) λus s2 ⟨xs,H2,I2,r2,q2⟩=>⟨x::xs,H2,I2,.cons r1 r2,q2⟩
noncomputable def pF(t:TA):TE:=λσ H Q=>t σ H λxs H1=>xs.length<=sizeLine/\∀p,H1 p=none->Q (.ref p) (upd H1 p (.tup xs))
noncomputable def JH(t:TA):TE:=λσ H Q=>t σ H λxs H1=>xs.length<=sizeLine/\∀p,H1 p=none->Q (.ref p) (upd H1 p (.lst xs))
theorem cx{x1} (h:PA X es t):PE X (.Tuple es x1 pos) (pF t):=by
 intro pins s σ H Q I hq
 refine wpAny_Tuple_spliced (aD (h pos pins s σ H _ I hq) λus s1 ⟨xs,H1,I1,r,z,q⟩=>⟨by rw[← r.length];exact z,?_⟩)
 have hf:H1 s1.heap.objs.size=none:=I1.hok.fresh (aah _)
 refine⟨.ref s1.heap.objs.size,upd H1 s1.heap.objs.size (.tup xs),I1.laid (t':=s1.toks) (λb u e=>aad _ e) (aah _) ?_,rfl,q _ hf⟩
 exact⟨z,us,r,⟨_,aar _ rfl,rfl,_,rfl⟩⟩
theorem cq(h:PA X es t):PE X (.List es pos) (JH t):=by
 intro pins s σ H Q I hq
 refine adQ (aD (h pos pins s σ H _ I hq) λus s1 ⟨xs,H1,I1,r,z,q⟩=>⟨by rw[← r.length];exact z,?_⟩)
 have hf:H1 s1.heap.objs.size=none:=I1.hok.fresh (aah _)
 refine⟨.ref s1.heap.objs.size,upd H1 s1.heap.objs.size (.lst xs),I1.laid (t':=s1.toks) (λb u e=>aad _ e) (aah _) ?_,rfl,q _ hf⟩
 exact⟨z,us,0,r,aar _ rfl⟩
end
noncomputable abbrev Sp:=List V->Hp->VK->XK->Prop
noncomputable abbrev oa:=List Env->Hp->Shared->XK->Value->Shared->Prop
structure og(P:Program) (w:World) (K:W.Frag) (mg:Str->Option Value) (base:Heap) (A:Around) (outer:List Env) (s:Shared) (H:Hp):Prop where
 frames:A.frames=some outer
 mod:Mod K mg base
 bs:∀b o,base.get? b=some o->s.heap.get? b=some o/\H b=none
 bsz:base.objs.size<=s.heap.objs.size
 lO:s.heap.FunFrames base outer
 frf:∀b∈rN outer,H b=none
 hok:gi P w H s.heap
 bare:AllBare s.gens
noncomputable def CE(outer:List Env)(P:Program)(w:World)(H:Hp)(s:Shared)(Q:VK)(u:Value)(s':Shared):Prop:=
 ∃v H',s'.os=s.os/\AllBare s'.gens/\Un (rN outer) [] H H' s.heap s'.heap/\gi P w H' s'.heap/\RelV v u/\Q v H'
noncomputable def CR(CX:oa)(outer:List Env)(P:Program)(w:World)(H:Hp)(s:Shared)(Q:VK)(E:XK)(r:Result)(s':Shared):Prop:=
 match r with
 | .ok (.ret u)=>CE outer P w H s Q u s'
 | .ok _=>False
 | .error e=>CX outer H s E e s'
structure aR(P:Program) (w:World) (K:W.Frag) (mg:Str->Option Value) (base:Heap) (CX:oa) (k:Nat) (f:Addr) (fd:FuncData) (ps:List Str) (sp:Sp):Prop where
 len:∀vs H Q E,sp vs H Q E->vs.length=ps.length
 run:∀(A:Around) (outer:List Env) (s:Shared) (H:Hp) (args:Args) (us:List Value) (vs:List V) (Q:VK) (E:XK),aW k A->og P w K mg base A outer s H->BindsTo s fd args (ps.zip us)->Vals vs us->sp vs H Q E->
  codeAny (model P w) A (.call (.ref f) args) (CR CX outer P w H s Q E) s
theorem og.make{P:Program}{w:World}{K:W.Frag}{mg:Str->Option Value}{base:Heap}{A:Around}{outer:List Env}{s:Shared}{H:Hp}(e:og P w K mg base A outer s H)(C:Addr)(us:List Value) (kw:List (Str×Value)) :
 og P w K mg base (A.under (.builtin "type.__call__" ⟨.ref C::us,kw⟩)) outer s H:=⟨by first|exact e.frames|(simpa[Around.under,Code.envs,Code.isFrame,pushEnvs]using e.frames),e.mod,e.bs,e.bsz,e.lO,e.frf,e.hok,e.bare⟩
theorem og.in1{P:Program}{w:World}{K:W.Frag}{mg:Str->Option Value}{base:Heap}{A:Around}{outer:List Env}{s:Shared}{H:Hp}(e:og P w K mg base A outer s H) :
 og P w K mg base A.in1 outer s H:=⟨e.frames,e.mod,e.bs,e.bsz,e.lO,e.frf,e.hok,e.bare⟩
section
variable {X:Cx}{pins:List (Addr×Obj)}{σ:St}{H:Hp}{s s':Shared}
theorem Inv.JI(I:Inv X pins σ H s):og X.prog X.w X.K X.mg X.base X.A X.stack s H:=
 ⟨I.ok.frames,I.ok.mod,I.bs,aap I.ok.bsz I.sz,I.stack,I.Dc,I.hok,I.bare⟩
theorem Inv.after{Q:VK}{u:Value}(I:Inv X pins σ H s)(h:CE X.stack X.prog X.w H s Q u s'):EP X pins σ Q u s':=by
 obtain⟨v,H',os,bare,un,hok,r,q⟩:=h
 obtain⟨hh,g,d,t,nr⟩:=s'
 obtain rfl:nr=s.os:=os
 exact⟨v,H',I.call (h':=hh) (g':=g) (d':=d) (t':=t) (ch:=[]) un hok bare (λb z=>absurd z (by simp)),r,q⟩
end
noncomputable def qP(sp:Sp)(jJ:List V)(E:XK)(t:TA):TE:=λσ H Q=>t σ H λvs H1=>sp (vs++jJ) H1 Q E
noncomputable def T9(C:Addr)(sp:Sp)(jJ:List V)(E:XK)(t:TA):TE:=λσ H Q=>t σ H λvs H1=>∀x dx,H1 x=none->H1 dx=none->dx≠x->
 sp (.ref x::(vs++jJ)) (upd (upd H1 dx (.own x)) x (.ins C dx [])) (λv H2=>v=.aH/\Q (.ref x) H2) E
noncomputable def Binds(K:W.Frag)(fd:FuncData)(ps:List Str)(ds:List Value):Prop:=
 ∀(s:Shared) (us:List Value),K.In s.heap->(us++ds).length=ps.length->BindsTo s fd ⟨us,[]⟩ (ps.zip (us++ds))
theorem Binds.all{K:W.Frag}{fd:FuncData}{ps:List Str}(h:∀us:List Value,us.length=ps.length->bindArgs fd ⟨us,[]⟩=pure (ps.zip us)):Binds K fd ps []:=λs us _ hl=>by
 rw[abh]at hl ⊢
 exact .of_eq (h us hl)
noncomputable def Passes(CX:oa)(X:Cx)(E:XK):Prop:=∀(pins:List (Addr×Obj)) (σ:St) (H:Hp) (s:Shared) (e:Value) (s':Shared),Inv X pins σ H s->CX X.stack H s E e s'->X.xe e s'
section
variable {X:Cx}{CX:oa}{k:Nat}{f C:Addr}{fd:FuncData}{ps:List Str}{sp:Sp}{jJ:List V}{ds:List Value}{E:XK}{x m:Str}{p pos apos:Pos}{e o:Expr}{es:List Expr}{ta:TE}{t:TA}
theorem Gv{pins:List (Addr×Obj)}{σ:St}{H:Hp}{s:Shared}{Q:VK}{us:List Value}{vs:List V}(F:aR X.prog X.w X.K X.mg X.base CX k f fd ps sp) (hr:aW k X.A) (hb:Binds X.K fd ps ds) (hd:Vals jJ ds) (hx:Passes CX X E)
 (I:Inv X pins σ H s) (r:Vals vs us) (h:sp (vs++jJ) H Q E):wpAny (model X.prog X.w) X.A (call (.ref f) us) (EP X pins σ Q) X.xe s:=by
 have r2:Vals (vs++jJ) (us++ds):=r.append hd
 have hl:(us++ds).length=ps.length:=by rw[← r2.length];exact F.len _ _ _ _ h
 refine wpAny_call (adR (F.run X.A X.stack s H ⟨us,[]⟩ (us++ds) (vs++jJ) Q E hr I.JI (hb s us I.i0 hl) r2 h) λr s' hq=>?_)
 cases r with
 | error e=>exact hx pins σ H s e s' I hq
 | ok fl=>
  cases fl with
  | ret u=>exact I.after hq
  | next=>exact False.elim hq
  | brk=>exact False.elim hq
  | cont=>exact False.elim hq
theorem aX(F:aR X.prog X.w X.K X.mg X.base CX k f fd ps sp)(hr:aW k X.A)(hg:Gl X x) (hm:X.mg x=some (.ref f)) (hk:W.keepIn X.K (.ref f)=true) (hb:Binds X.K fd ps ds) (hd:Vals jJ ds) (hx:Passes CX X E)
 (ha:PA X (e::es) t) (oh:(x == ("__debug__" : Str))=false:=by decide) (he:starEach (e::es) X.env=(false,eval e X.env)::starEach es X.env:=by rfl) (gU:(backTo pos (starEach es X.env)).any (·.1)=false:=by rfl) :
 PE X (.Call (.Name x p) (e::es) [] pos) (qP sp jJ E t):=by
 intro pins s σ H Q I h
 refine abA (pV I hg hm ?_ oh)
 refine aeG (h₀:=X.base) I.ok.mod.kin hk (aD (ha pos pins s σ H _ I h) λus s1 ⟨vs,H1,I1,r,q⟩=>⟨I1.i0,?_⟩) he gU
 exact Gv F hr hb hd hx I1 r q
structure Mk(K:W.Frag) (C f:Addr):Prop where
 makes:W.makesIn K C=true
 init:W.findIn K (.ref C) "__init__" = some (some (.ref f))
 fn:W.isFn K (.ref f)=true
 kp:W.keepIn K (.ref C)=true
theorem JJ{pins:List (Addr×Obj)}{σ:St}{H:Hp}{s:Shared}{Q:VK}{us:List Value}{vs:List V}(M:Mk X.K C f) (F:aR X.prog X.w X.K X.mg X.base CX k f fd ps sp) (hr:aW (k+1) X.A) (hb:Binds X.K fd ps ds) (hd:Vals jJ ds)
 (hx:Passes CX X E) (I:Inv X pins σ H s) (r:Vals vs us)
 (h:∀x dx,H x=none->H dx=none->dx≠x->sp (.ref x::(vs++jJ)) (upd (upd H dx (.own x)) x (.ins C dx [])) (λv H2=>v=.aH/\Q (.ref x) H2) E) :
 wpAny (model X.prog X.w) X.A (call (.ref C) us) (EP X pins σ Q) X.xe s:=by
 have hq:=h (s.heap.objs.size+1) s.heap.objs.size (I.hok.fresh (acT _)) (I.hok.fresh (aah _)) (aax (adq _))
 have I2:=Inv.made (C:=C) I
 have r2:Vals (V.ref (s.heap.objs.size+1)::(vs++jJ)) (Value.ref (s.heap.objs.size+1)::(us++ds)):=.cons rfl (r.append hd)
 have hl:(Value.ref (s.heap.objs.size+1)::us++ds).length=ps.length:=by
  have e:=r2.length
  rw[F.len _ _ _ _ hq]at e
  exact e.symm
 refine wpAny_call (JF (f:=f) I.i0 M.makes M.init (adB.mp M.fn) (adR (F.run _ X.stack _ _ ⟨Value.ref (s.heap.objs.size+1)::us,[]⟩ (Value.ref (s.heap.objs.size+1)::(us++ds)) _ _ E (hr.make C us [])
  (I2.JI.make C us []) (hb _ (Value.ref (s.heap.objs.size+1)::us) I2.i0 hl) r2 hq) λr s' Gw=>?_))
 cases r with
 | error e=>exact hx pins σ _ _ e s' I2 Gw
 | ok fl=>
  cases fl with
  | ret u=>
   obtain⟨v,H',I3,rv,ev,q3⟩:=I2.after Gw
   subst ev
   exact⟨rv,⟨V.ref (s.heap.objs.size+1),H',I3,rfl,q3⟩⟩
  | next=>exact False.elim Gw
  | brk=>exact False.elim Gw
  | cont=>exact False.elim Gw
theorem Dk(M:Mk X.K C f)(F:aR X.prog X.w X.K X.mg X.base CX k f fd ps sp) (hr:aW (k+1) X.A) (hg:Gl X x) (hm:X.mg x=some (.ref C)) (hb:Binds X.K fd ps ds) (hd:Vals jJ ds) (hx:Passes CX X E)
 (ha:PA X (e::es) t) (oh:(x == ("__debug__" : Str))=false:=by decide) (he:starEach (e::es) X.env=(false,eval e X.env)::starEach es X.env:=by rfl) (gU:(backTo pos (starEach es X.env)).any (·.1)=false:=by rfl) :
 PE X (.Call (.Name x p) (e::es) [] pos) (T9 C sp jJ E t):=by
 intro pins s σ H Q I h
 refine abA (pV I hg hm ?_ oh)
 refine aeG (h₀:=X.base) I.ok.mod.kin M.kp (aD (ha pos pins s σ H _ I h) λus s1 ⟨vs,H1,I1,r,q⟩=>⟨I1.i0,?_⟩) he gU
 exact JJ M F hr hb hd hx I1 r q
end
section
variable {X:Cx}{CX:oa}{k:Nat}{f C:Addr}{fd:FuncData}{ps ks:List Str}{sp:Sp}{E:XK}{x m:Str}{p pos apos aeh:Pos}{e o:Expr}{es:List Expr}{kws:List Keyword}{te ta:TE}{t tk:TA}{nm:Option Str}
variable {g:List Value->List Value->List Value}{gV:List V->List V->List V}
end
structure aK(N P:List Str) (sc:Scope):Prop where
 kind:sc.kind=.function
 co:sc.isCoroutine=false
 gen:sc.isGenerator=false
 nd:N.Nodup
 pre:N.take P.length=P
 par:∀x∈P,sc.names.lookup x=some .local\/sc.names.lookup x=some .cell
 nofree:∀y∈sc.names,y.2≠.free
theorem y8{kindOf:Str->Option NameKind}{x:Str} : ∀{binds:List (Str×Value)}{m:Str->Option Value},(∀v,(x,v)∉binds)->bindL kindOf binds m x=m x
 | [],_,_=>rfl
 | (n,v)::r,m,h=>by
  unfold bindL
  rw[y8 λw hw=>h w (aaL _ hw)]
  split
  . have:x≠n:=by rintro rfl;exact h v aaX
    simp[this]
  . rfl
theorem y9{kindOf:Str->Option NameKind}{x:Str} : ∀{binds:List (Str×Value)}{m:Str->Option Value},(∀v,(x,v)∉binds)->bindC kindOf binds m x=m x
 | [],_,_=>rfl
 | (n,v)::r,m,h=>by
  unfold bindC
  rw[y9 λw hw=>h w (aaL _ hw)]
  split
  . rfl
  . have:x≠n:=by rintro rfl;exact h v aaX
    simp[this]
theorem ze{kindOf:Str->Option NameKind}{x:Str}{v:Value} : ∀{P:List Str}{vs:List Value}{i:Nat}{m:Str->Option Value},P.Nodup->P[i]?=some x->vs[i]?=some v->kindOf x=some .local->
 bindL kindOf (P.zip vs) m x=some v
 | [],_,_,_,_,h,_,_=>by simp at h
 | _::_,[],_,_,_,_,h,_=>by simp at h
 | p::P,w::vs,0,m,nd,h1,h2,hk=>by
  simp at h1 h2;subst h1;subst h2
  show bindL kindOf ((p,w)::P.zip vs) m p=_
  unfold bindL
  rw[y8 λv hv=>(aaU.mp nd).1 (abE hv).1,aaI hk]
  simp
 | p::P,w::vs,i+1,m,nd,h1,h2,hk=>by
  show bindL kindOf ((p,w)::P.zip vs) m x=_
  unfold bindL
  exact ze (i:=i) (aaU.mp nd).2 (by simpa using h1) (by simpa using h2) hk
theorem zf{kindOf:Str->Option NameKind}{x:Str}{v:Value} : ∀{P:List Str}{vs:List Value}{i:Nat}{m:Str->Option Value},P.Nodup->P[i]?=some x->vs[i]?=some v->kindOf x≠some .local->
 bindC kindOf (P.zip vs) m x=some v
 | [],_,_,_,_,h,_,_=>by simp at h
 | _::_,[],_,_,_,_,h,_=>by simp at h
 | p::P,w::vs,0,m,nd,h1,h2,hk=>by
  simp at h1 h2;subst h1;subst h2
  show bindC kindOf ((p,w)::P.zip vs) m p=_
  unfold bindC
  rw[y9 λv hv=>(aaU.mp nd).1 (abE hv).1,aay hk]
  simp
 | p::P,w::vs,i+1,m,nd,h1,h2,hk=>by
  show bindC kindOf ((p,w)::P.zip vs) m x=_
  unfold bindC
  exact zf (i:=i) (aaU.mp nd).2 (by simpa using h1) (by simpa using h2) hk
noncomputable def start(N:List Str)(vs:List V):St:=vs.map some++List.replicate (N.length-vs.length) none
noncomputable def jj(CX:oa)(P:Program)(w:World)(K:W.Frag)(mg:Str->Option Value)(base:Heap)(N:List Str)(qual:Str)(scope:Scope)(f:Addr)(cd:Value)(A:Around)(outer:List Env)(s:Shared)(H:Hp)(E:XK):Cx where
 prog:=P
 w:=w
 K:=K
 mg:=mg
 base:=base
 A:=A.deeper (envOfC qual scope s.heap.objs.size f cd)
 N:=N
 mw:=s
 Ag:=H
 env:=envOfC qual scope s.heap.objs.size f cd
 outer:=outer
 stack:=envOfC qual scope s.heap.objs.size f cd::outer
 ex:=[]
 calm:=true
 fn:=λ_=>true
 pn:=[]
 xe:=λe s'=>wpAny (model P w) (A.deeper (envOfC qual scope s.heap.objs.size f cd)) (leaving (envOfC qual scope s.heap.objs.size f cd) e) (λ_ Gx=>CX outer H s E e Gx) (λe' Gx=>CX outer H s E e' Gx) s'
theorem AJ{sc:Scope}{n:Nat}{x:Str}(h:sc.names.lookup x=some .cell):∃c,(cellsFrom n sc.names []).lookup x=some c:=by
 have q:=aej sc.names n [] (.inl h)
 exact Option.isSome_iff_exists.mp q
theorem zg{CX:oa}{P:Program}{w:World}{K:W.Frag}{mg:Str->Option Value}{base:Heap}{N ps:List Str}{qual:Str}{scope:Scope}{f:Addr}{cd:Value}{A:Around}{outer:List Env}{s s1:Shared}{H:Hp}{E:XK}{us:List Value}{vs:List V}
 (S:aK N ps scope) (hd:A.handled=none) (e0:og P w K mg base A outer s H) (hl:vs.length=ps.length) (r:Vals vs us)
 (x:InCallC s s.heap.objs.size (bindL (envOfC qual scope s.heap.objs.size f cd).kindOf (ps.zip us) λ_=>none) (cellsFrom (s.heap.objs.size+1) scope.names []) (bindC (envOfC qual scope s.heap.objs.size f cd).kindOf (ps.zip us) λ_=>none) s1) :
 Inv (jj CX P w K mg base N qual scope f cd A outer s H E) [] (start N vs) H s1:=by
 have gU:ps.length<=N.length:=by have:=congrArg List.length S.pre;rw[aaO]at this;omega
 obtain⟨h1,tk,rfl,hk⟩:=x.done
 have Gy:∀b:Addr,b∉(jj CX P w K mg base N qual scope f cd A outer s H E).ex:=λb z=>absurd (show b∈([]:List Addr) from z) (by simp)
 refine⟨⟨e0.mod,S.kind,rfl,rfl,aah _,λy z c h1 h2=>?_,λy hy=>?_,λy c _ h=>?_,λ_=>hd,Around.frames_deeper e0.frames,.inr ⟨rfl,rfl⟩,λb z=>absurd z (Gy b),e0.bs,e0.bsz,λb _ _=>Gy b,λb z=>absurd z (Gy b),e0.lO,e0.frf⟩,
  rfl,e0.bare,Un.kept hk,⟨_,x.toInCall.ns,λi y v h1 h2 h3=>?_⟩,λy c h=>⟨_,x.cell y c h⟩,e0.hok.fresh (aah _),λy c h=>?_,λp hp=>absurd (show p∈([]:List (Addr×Obj)) from hp) (by simp),e0.hok.kept hk,?_⟩
 . exact name_of_addr x.apart (acn h1) (acn h2)
 . have hy:scope.names.lookup y=some .cell\/scope.names.lookup y=some .free:=hy
   rcases hy with hy|hy
   . exact AJ hy
   . exact absurd rfl (S.nofree _ (acn hy))
 . exact adh (x.above y c (acn h))
 . have hi:i<vs.length:=by
    unfold start at h2
    by_cases hi:i<vs.length
    . exact hi
    . rw[abq (by simpa using hi)]at h2
      rw[List.getElem?_replicate]at h2
      split at h2 <;> cases h2
   have ha:vs[i]?=some v:=by
    unfold start at h2
    rw[abT (by simpa using hi),aal]at h2
    cases e:vs[i]? with
    | none=>rw[e]at h2;cases h2
    | some a=>rw[e]at h2;cases h2;rfl
   obtain⟨u,hu,rv⟩:=r.get ha
   have hp:ps[i]?=some y:=by
    rw[← S.pre,List.getElem?_take_of_lt (by omega)];exact h1
   have Va:ps.Nodup:=by rw[← S.pre];exact S.nd.sublist (List.take_sublist _ _)
   refine⟨u,rv,?_⟩
   rcases S.par y (aaN hp) with k|k
   . exact .inl ⟨k,ze Va hp hu k⟩
   . obtain⟨c,e⟩:=AJ (n:=s.heap.objs.size+1) k
     refine .inr ⟨.inl k,c,e,?_⟩
     have q:=x.cell y c e
     rw[zf Va hp hu (by show scope.names.lookup y≠_;rw[k];decide)]at q
     exact q
 . exact e0.hok.fresh (adh (x.above y c (acn h)))
 . unfold start
   show _=N.length
   rw[aaj,aaa,List.length_replicate]
   omega
theorem Ua{CX:oa}{P:Program}{w:World}{K:W.Frag}{mg:Str->Option Value}{base:Heap}{k:Nat}{f:Addr}{name qual:Str}{params:Arguments}{body:List Stmt}{scope:Scope}{dV kV doc pm cdv ct oc:Value}{an od:Option Addr}
 {sL:Array (Option Value)}{N ps:List Str}{sp:Sp}(lk:K.lookup f=some ⟨oc,od,.func (W.fnOf name qual params body scope dV kV doc pm an cdv ct),sL⟩) (mx:W.codeIn K cdv qual=true) (S:aK N ps scope)
 (len:∀vs H Q E,sp vs H Q E->vs.length=ps.length)
 (kF:∀(A:Around) (outer:List Env) (s:Shared) (H:Hp) (vs:List V) (Q:VK) (E:XK),aW k (A.deeper (envOfC qual scope s.heap.objs.size f cdv))->sp vs H Q E->
  ∃t,gj (jj CX P w K mg base N qual scope f cdv A outer s H E) body t/\t {nx:=λ_ H'=>Q .aH H',rt:=Q} (start N vs) H) :
 aR P w K mg base CX (k+1) f (W.fnOf name qual params body scope dV kV doc pm an cdv ct) ps sp:=by
 refine⟨len,λA outer s H args us vs Q E hr e0 hb r mz=>?_⟩
 have hl:=len _ _ _ _ mz
 have KX:K.In s.heap:=e0.mod.kin.keeps λb o e=>(e0.bs b o e).1
 have lim:s.heap.NoLimit:=e0.mod.nolimit.keeps λb o e=>(e0.bs b o e).1
 have EE:∀y∈ps.zip us,scope.names.lookup y.1=some .local\/(scope.names.lookup y.1=some .cell/\((cellsFrom (s.heap.objs.size+1) scope.names []).lookup y.1).isSome=true):=λ⟨n,v⟩ hy=>by
  rcases S.par n (abE hy).1 with q|q
  . exact .inl q
  . exact .inr ⟨q,aej _ _ _ (.inl q)⟩
 refine codeAny_call_function hr.depth (KX _ _ lk) rfl S.co S.gen rfl (W.codeRec_of KX mx) (hb _ _ _ _ ?_)
 refine adO S.kind EE λenv he s1 x=>?_
 subst he
 refine⟨lim.keeps x.toInCall.keep,codeAny_func ?_⟩
 obtain⟨t,ht,hq⟩:=kF A outer s H vs Q E (hr.deeper _) mz
 have I:Inv (jj CX P w K mg base N qual scope f cdv A outer s H E) [] (start N vs) H s1:=zg S hr.hd e0 hl r x
 refine abG (ht [] s1 (start N vs) H _ I hq) (λfl s' hs=>?_) λe s' hs=>hs
 have fin:∀{br:St}{H':Hp}{v:V}{u:Value},Inv (jj CX P w K mg base N qual scope f cdv A outer s H E) [] br H' s'->RelV v u->Q v H'->CE outer P w H s Q u s':=
  λ{br H' v u} J rv q=>⟨v,H',J.os,J.bare,J.base,J.hok,rv,q⟩
 cases fl with
 | ret u=>
  obtain⟨v,br,H',J,rv,q⟩:=hs
  exact fin J rv q
 | next=>
  obtain⟨br,H',J,q⟩:=hs
  exact fin (v:=V.aH) (u:=Value.none) J rfl q
 | brk=>
  obtain⟨_,_,_,q⟩:=hs
  exact False.elim q
 | cont=>
  obtain⟨_,_,_,q⟩:=hs
  exact False.elim q
section
variable {X:Cx}{x:Str}{p pos:Pos}{e:Expr}{es:List Expr}{t:TA}{id T:String}{r:List V->Hp->VK->Prop}
noncomputable def Vb(r:List V->Hp->VK->Prop)(t:TA):TE:=λσ H Q=>t σ H λvs H1=>r vs H1 Q
theorem eR(hc:jb X (.builtin id) r) (hg:Gl X x) (hm:X.mg x=none) (hv:bootBuiltins x=some (.builtin id)) (ha:PA X (e::es) t) (hn:x ≠ "__name__":=by decide) (oh:(x == ("__debug__" : Str))=false:=by decide)
 (he:starEach (e::es) X.env=(false,eval e X.env)::starEach es X.env:=by rfl) (gU:(backTo pos (starEach es X.env)).any (·.1)=false:=by rfl):PE X (.Call (.Name x p) (e::es) [] pos) (Vb r t):=by
 intro pins s σ H Q I h
 refine abA (i3 I hg hm hv ?_ hn oh)
 exact PyProof.Rows.callWith_builtin1 (aD (ha pos pins s σ H _ I h) λus s1 ⟨vs,H1,I1,r1,q1⟩=>hc pins s1 σ H1 vs us Q I1 r1 q1) he gU
theorem aJ(hc:jb X (.type T) r) (hg:Gl X x) (hm:X.mg x=none) (hv:bootBuiltins x=some (.type T)) (ha:PA X (e::es) t) (hn:x ≠ "__name__":=by decide) (oh:(x == ("__debug__" : Str))=false:=by decide)
 (he:starEach (e::es) X.env=(false,eval e X.env)::starEach es X.env:=by rfl) (gU:(backTo pos (starEach es X.env)).any (·.1)=false:=by rfl):PE X (.Call (.Name x p) (e::es) [] pos) (Vb r t):=by
 intro pins s σ H Q I h
 refine abA (i3 I hg hm hv ?_ hn oh)
 exact aa4 (aD (ha pos pins s σ H _ I h) λus s1 ⟨vs,H1,I1,r1,q1⟩=>hc pins s1 σ H1 vs us Q I1 r1 q1) he gU
end
section
variable {κ:Type}[DecidableEq κ]
noncomputable def cu(kvs:List (κ×V)) (k:κ):Option V:=(kvs.find? λkv=>decide (kv.1=k)).map (·.2)
noncomputable def putK(kvs:List (κ×V)) (k:κ) (v:V):List (κ×V):=
 if (kvs.any λkv=>decide (kv.1=k))=true then kvs.map (λkv=>if kv.1=k then (kv.1,v) else kv) else kvs++[(k,v)]
noncomputable def Lw(kvs:List (κ×V)) (k:κ):List (κ×V):=kvs.filter λkv=>decide (kv.1≠k)
theorem iA{p:κ×V}{r:List (κ×V)}{k:κ}(e:p.1=k):cu (p::r) k=some p.2:=by simp[cu,acB,e]
theorem iB{p:κ×V}{r:List (κ×V)}{k:κ}(e:¬ p.1=k):cu (p::r) k=cu r k:=by simp[cu,acB,e]
theorem vH(k:κ):∀kvs:List (κ×V),(kvs.any λkv=>decide (kv.1=k))=(cu kvs k).isSome
 | []=>rfl
 | p::r=>by
  rw[acF]
  by_cases e:p.1=k
  . simp only[iA e,aaT e,Bool.true_or,Option.isSome_some]
  . rw[iB e,aaS e,Bool.false_or];exact vH k r
theorem pH(kvs:List (κ×V)) (k:κ) (v:V):(putK kvs k v).length<=kvs.length+1:=by
 unfold putK
 split
 . rw[aaa];omega
 . rw[aaj,abt,acY];omega
theorem qQ{kvs:List (κ×V)}{k:κ}(v:V) (h:cu kvs k=none):putK kvs k v=kvs++[(k,v)]:=by
 unfold putK
 rw[vH,h]
 exact aay (by decide)
theorem jW.Gz{o:Option V}{u:Option Value}(r:jW o u):o.isSome=u.isSome:=by
 cases o with
 | none=>cases u with
  | none=>rfl
  | some _=>exact(show False from r).elim
 | some _=>cases u with
  | none=>exact(show False from r).elim
  | some _=>rfl
theorem jW.getD{o:Option V}{u:Option Value}{d:V}{d':Value}(r:jW o u)(rd:RelV d d'):RelV (o.getD d) (u.getD d'):=by
 cases o with
 | none=>cases u with
  | none=>exact rd
  | some _=>exact(show False from r).elim
 | some _=>cases u with
  | none=>exact(show False from r).elim
  | some _=>exact r
theorem KV.val{kvs:List (κ×V)}{vs:List (κ×Value)}(r:KV kvs vs) (k:κ):jW (cu kvs k) (valueAt vs k):=by
 unfold KV at r
 induction r with
 | nil=>exact True.intro
 | @cons p q ps qs h t ih=>
  obtain⟨h1,h2⟩:=h
  by_cases e:p.1=k
  . have e':q.1=k:=h1.symm.trans e
    have b:valueAt (q::qs) k=some q.2:=by simp[valueAt,acB,e']
    rw[iA e,b];exact h2
  . have e':¬ q.1=k:=λz=>e (h1.trans z)
    have b:valueAt (q::qs) k=valueAt qs k:=by simp[valueAt,acB,e']
    rw[iB e,b];exact ih
theorem KV.any{kvs:List (κ×V)}{vs:List (κ×Value)}(r:KV kvs vs) (k:κ):(kvs.any λkv=>decide (kv.1=k))=vs.any λkv=>decide (kv.1=k):=by
 unfold KV at r
 induction r with
 | nil=>rfl
 | cons h t ih=>rw[acF,acF,ih,h.1]
theorem KV.JK{kvs:List (κ×V)}{vs:List (κ×Value)}(r:KV kvs vs) (k:κ){y:V}{u:Value}(ry:RelV y u) :
 KV (kvs.map λkv=>if kv.1=k then (kv.1,y) else kv) (vs.map λkv=>if kv.1=k then (kv.1,u) else kv):=by
 unfold KV at r ⊢
 induction r with
 | nil=>exact .nil
 | @cons p q ps qs h t ih=>
  rw[aas,aas]
  refine .cons ?_ ih
  obtain⟨h1,h2⟩:=h
  by_cases e:p.1=k
  . rw[aaI e,aaI (h1.symm.trans e)];exact⟨h1,ry⟩
  . rw[aay e,aay (λz=>e (h1.trans z))];exact⟨h1,h2⟩
theorem KV.put{kvs:List (κ×V)}{vs:List (κ×Value)}(r:KV kvs vs) (k:κ){y:V}{u:Value}(ry:RelV y u):KV (putK kvs k y) (stored vs k u):=by
 unfold putK stored
 rw[r.any k]
 by_cases e:(vs.any λkv=>decide (kv.1=k))=true
 . rw[aaI e,aaI e];exact r.JK k ry
 . rw[aay e,aay e];exact abR r ⟨rfl,ry⟩
theorem KV.drop{kvs:List (κ×V)}{vs:List (κ×Value)}(r:KV kvs vs) (k:κ):KV (Lw kvs k) (without vs k):=by
 unfold KV at r ⊢
 unfold Lw without
 induction r with
 | nil=>exact .nil
 | @cons p q ps qs h t ih=>
  obtain⟨h1,h2⟩:=h
  rw[acw,acw]
  by_cases e:p.1=k
  . have a:¬ decide (p.1≠k)=true:=by simp[e]
    have b:¬ decide (q.1≠k)=true:=by simp[h1.symm.trans e]
    rw[aay a,aay b];exact ih
  . have e':¬ q.1=k:=λz=>e (h1.trans z)
    have a:decide (p.1≠k)=true:=by simp[e]
    have b:decide (q.1≠k)=true:=by simp[e']
    rw[aaI a,aaI b];exact .cons ⟨h1,h2⟩ ih
theorem KV.length{kvs:List (κ×V)}{vs:List (κ×Value)}(r:KV kvs vs):kvs.length=vs.length:=adz r
end
theorem oQ{P:Program}{w:World}{k:Key}{u:Value}(r:RelV (kV k) u):(aQ P w).is k u=true:=by
 cases k with
 | inl i=>obtain⟨t,e⟩:=(show ∃t,u=Value.int i t from r);subst e;exact CY P w i t
 | inr x=>obtain⟨t,e⟩:=(show ∃t,u=Value.str x t from r);subst e;exact CZ P w x t
theorem zh{P:Program}{w:World} : ∀{ks:List Key}{us:List Value},Vals (ks.map kV) us->ItemsAre (aQ P w) ks us
 | [],_,r=>by rw[abY]at r;cases r;exact .nil
 | k::ks,_,r=>by
  rw[aas]at r
  cases r with
  | cons h t=>exact .cons (oQ h) (zh t)
noncomputable abbrev KT(H:Hp):List (List Key×V)->List (List Key×Addr×Value)->Prop:=Paired λp q=>p.1=q.1/\H q.2.1=some (.tup (p.1.map kV))/\RelV p.2 q.2.2
theorem KT.val{H:Hp}{kvs:List (List Key×V)}{xs:List (List Key×Addr×Value)}(r:KT H kvs xs) (k:List Key):jW (cu kvs k) ((atKey xs k).map (·.2)):=by
 induction r with
 | nil=>exact True.intro
 | @cons p q ps qs h t ih=>
  obtain⟨h1,_,h2⟩:=h
  by_cases e:p.1=k
  . have e':q.1=k:=h1.symm.trans e
    have b:atKey (q::qs) k=some q.2:=by simp[atKey,acB,e']
    rw[iA e,b];exact h2
  . have e':¬ q.1=k:=λz=>e (h1.trans z)
    have b:atKey (q::qs) k=atKey qs k:=by simp[atKey,acB,e']
    rw[iB e,b];exact ih
theorem KT.JK{H:Hp}{kvs:List (List Key×V)}{xs:List (List Key×Addr×Value)}(r:KT H kvs xs) (k:List Key){y:V}{u:Value}(ry:RelV y u) :
 KT H (kvs.map λkv=>if kv.1=k then (kv.1,y) else kv) (xs.map (putAt k u)):=by
 induction r with
 | nil=>exact .nil
 | @cons p q ps qs h t ih=>
  rw[aas,aas]
  refine .cons ?_ ih
  obtain⟨h1,h2,h3⟩:=h
  unfold putAt
  by_cases e:p.1=k
  . rw[aaI e,aaI (h1.symm.trans e)];exact⟨h1,h2,ry⟩
  . rw[aay e,aay (λz=>e (h1.trans z))];exact⟨h1,h2,h3⟩
theorem KT.put{H:Hp}{kvs:List (List Key×V)}{xs:List (List Key×Addr×Value)}(r:KT H kvs xs) (k:List Key){b:Addr}{y:V}{u:Value}(hb:H b=some (.tup (k.map kV))) (ry:RelV y u) :
 KT H (putK kvs k y) (storedH xs k b u):=by
 have e:(kvs.any λkv=>decide (kv.1=k))=(atKey xs k).isSome:=by
  rw[vH,(r.val k).Gz,Option.isSome_map]
 unfold putK storedH
 rw[e]
 by_cases q:(atKey xs k).isSome=true
 . rw[aaI q,aaI q];exact r.JK k ry
 . rw[aay q,aay q];exact abR r ⟨rfl,hb,ry⟩
theorem KT.keeps{H H':Hp}{kvs:List (List Key×V)}{xs:List (List Key×Addr×Value)}(r:KT H kvs xs) (ht:∀b ys,H b=some (.tup ys)->H' b=some (.tup ys)):KT H' kvs xs:=
 Paired.bQ r λ_ _ z=>⟨z.1,ht _ _ z.2.1,z.2.2⟩
section
variable {P:Program}{w:World}{H:Hp}{h:Heap}{a:Addr}
theorem Lx{u:HO}(ok:gi P w H h)(e:Rd H a u):bO P w H h a u:=e.ok ok
theorem jD{kvs:List (Key×V)}(ok:gi P w H h) (e:Rd H a (.dK kvs)):kvs.length<=sizeLine/\(a == sysModules)=false/\∃vs,KV kvs vs/\h.DictOf (aQ P w) a vs:=
 show bO P w H h a (.dK kvs) from Lx ok e
theorem qR{kvs:List (Key×V)}(ok:gi P w H h) (e:H a=some (.dK kvs)):kvs.length<=sizeLine/\(a == sysModules)=false/\∃vs,KV kvs vs/\h.DictOf (aQ P w) a vs:=jD ok (.inl e)
theorem wy{ks:List Key}(ok:gi P w H h) (e:H a=some (.tup (ks.map kV))):(tupleKind (aQ P w)).is h ks a:=by
 obtain⟨_,its,r,o,h1,h2,n,h3⟩:=(show bO P w H h a (.tup (ks.map kV)) from ok a _ e)
 exact⟨o,its.toArray,n,h1,h2,h3,by simpa using zh r⟩
theorem wz{kvs:List (List Key×V)}(ok:gi P w H h) (e:Rd H a (.dT kvs)):kvs.length<=sizeLine/\(a == sysModules)=false/\
 ∃xs,KT H kvs xs/\h.DictOfH (tupleKind (aQ P w)) a xs:=by
 obtain⟨z,y,xs,r,o,es,ep,h1,h2,h3,h4,h5⟩:=(show bO P w H h a (.dT kvs) from Lx ok e)
 refine⟨z,y,xs,r,o,es,ep,h1,h2,h3,h4,λx hx=>?_,h5⟩
 have all:∀{l:List (List Key×V)}{m:List (List Key×Addr×Value)},KT H l m->∀x∈m,(tupleKind (aQ P w)).is h x.1 x.2.1:=by
  intro l m q
  induction q with
  | nil=>intro x hx;exact nomatch hx
  | @cons p q ps qs hq t ih=>
   intro x hx
   rcases aan.mp hx with e|hx
   . subst e
     exact wy ok (by rw[← hq.1];exact hq.2.1)
   . exact ih x hx
 exact all r x hx
theorem Ub{kvs:List (List Key×V)}(ok:gi P w H h) (e:H a=some (.dT kvs)):kvs.length<=sizeLine/\(a == sysModules)=false/\
 ∃xs,KT H kvs xs/\h.DictOfH (tupleKind (aQ P w)) a xs:=wz ok (.inl e)
end
noncomputable def a7(H:Hp)(a:Addr)(y:V)(r:Option V):Prop:=
 (∃kvs k,Rd H a (.dK kvs)/\y=kV k/\r=cu kvs k)\/∃kvs k b,Rd H a (.dT kvs)/\y=.ref b/\H b=some (.tup (k.map kV))/\r=cu kvs k
noncomputable def fE(H:Hp)(a:Addr)(y v:V)(H':Hp):Prop:=
 (∃kvs k,H a=some (.dK kvs)/\y=kV k/\kvs.length<sizeLine/\H'=upd H a (.dK (putK kvs k v)))\/
 ∃kvs k b,H a=some (.dT kvs)/\y=.ref b/\H b=some (.tup (k.map kV))/\kvs.length<sizeLine/\H'=upd H a (.dT (putK kvs k v))
theorem a7.k{H:Hp}{a:Addr}{kvs:List (Key×V)}{k:Key}(e:H a=some (.dK kvs)):a7 H a (kV k) (cu kvs k):=.inl ⟨kvs,k,.inl e,rfl,rfl⟩
theorem fE.k{H:Hp}{a:Addr}{kvs:List (Key×V)}{k:Key}{v:V}(e:H a=some (.dK kvs)) (hl:kvs.length<sizeLine):fE H a (kV k) v (upd H a (.dK (putK kvs k v))):=.inl ⟨kvs,k,e,rfl,hl,rfl⟩
section
variable {X:Cx}{pins:List (Addr×Obj)}{σ:St}{H:Hp}{s:Shared}{a:Addr}{y v:V}{u r:Value}{o:Option V}{A:Around}{E:Value->Shared->Prop}
theorem Inv.big(I:Inv X pins σ H s):sysModules<s.heap.objs.size:=by
 have h:mainGlobals<s.heap.objs.size:=(I.mod.glob.keeps I.bk).lt
 exact aeH (by decide) h
theorem zi{Q:Value->Shared->Prop}(hu:A.units+1<cLine)(I:Inv X pins σ H s) (g:a7 H a y (some v)) (ry:RelV y u) (h:∀w' s',Inv X pins σ H s'->RelV v w'->Q w' s') :
 wpAny (model X.prog X.w) A (getItem (.ref a) u) Q E s:=by
 rcases g with⟨kvs,k,e,ey,l⟩|⟨kvs,k,b,e,ey,eb,l⟩
 . subst ey
   obtain⟨z,hd,vs,rel,dd⟩:=jD I.hok e
   obtain⟨w',hw,qb⟩:=jW.some_of (v:=v) (o:=valueAt vs k) (by rw[l];exact rel.val k)
   exact wpAny_getItem_of (oQ ry) dd.mapOf hw (h w' _ (I.tok _) qb)
 . subst ey
   cases(show u=Value.ref b from ry)
   obtain⟨z,hd,xs,rel,dd⟩:=wz I.hok e
   obtain⟨w',hw,qb⟩:=jW.some_of (v:=v) (o:=(atKey xs k).map (·.2)) (by rw[l];exact rel.val k)
   obtain⟨p,hp,ib⟩:=Option.map_eq_some_iff.mp hw
   refine wpAny_getItem_heap (adS hu) (wy I.hok eb) dd hp ?_
   rw[ib]
   exact h w' _ (I.tok _) qb
theorem qc{h':Heap}{t':Nat}{ob:HO}(I:Inv X pins σ H s) (mu:Gd (H a)) (hs:Heap.SameBut a s.heap h') (he:∃q,h'.get? a=some q) (new:bO X.prog X.w (upd H a ob) h' a ob) :
 Inv X pins σ (upd H a ob) {s with heap:=h',toks:=t'} :=
 I.write (x:=a) (e:=a) mu (.inl rfl) (λb q hb z=>(hs.2 b hb).trans z) he new
theorem kI{P:Program}{w:World}{H':Hp}{h':Heap}{kvs:List (Key×V)}{vs:List (Key×Value)}(z:kvs.length<=sizeLine) (hd:(a == sysModules)=false) (rel:KV kvs vs) (dd:h'.DictOf (aQ P w) a vs) :
 bO P w H' h' a (.dK kvs):=⟨z,hd,vs,rel,dd⟩
theorem zj{H':Hp}{Q:Unit->Shared->Prop}(hu:A.units+1<cLine)(I:Inv X pins σ H s)(g:fE H a y v H')(ry:RelV y u)(rv:RelV v r) (h:∀s',Inv X pins σ H' s'->Q () s') :
 wpAny (model X.prog X.w) A (setItem (.ref a) u r) Q E s:=by
 rcases g with⟨kvs,k,e,ey,l,eH⟩|⟨kvs,k,b,e,ey,eb,l,eH⟩
 . subst ey eH
   obtain⟨z,hd,vs,rel,dd⟩:=qR I.hok e
   have hz:vs.length<=sizeLine:=by rw[← rel.length];exact z
   have hl:(putK kvs k v).length<=sizeLine:=by have:=pH kvs k v;omega
   refine wpAny_setItem_pairs (hsz:=hz) (oQ ry) dd λh' om hs=>h _ ?_
   have he:∃q,h'.get? a=some q:=let ⟨q,_,_,hq,_⟩:=om; ⟨q,hq⟩
   exact qc I (by rw[e];exact True.intro) hs he (kI hl hd (rel.put k rv) om)
 . subst ey eH
   cases(show u=Value.ref b from ry)
   obtain⟨z,hd,xs,rel,dd⟩:=Ub I.hok e
   have hz:xs.length<=sizeLine:=by rw[← adz rel];exact z
   have hl:(putK kvs k v).length<=sizeLine:=by have:=pH kvs k v;omega
   refine wpAny_setItem_heap (hsz:=hz) (adS hu) (wy I.hok eb) dd λh' om hs=>h _ ?_
   obtain⟨q,es,ep,hq,h2,h3,h4,_,h5⟩:=om
   refine qc I (by rw[e];exact True.intro) hs ⟨q,hq⟩ ⟨hl,hd,_,(rel.put k eb rv).keeps λc ys ec=>?_,q,es,ep,hq,h2,h3,h4,h5⟩
   rw[ai (gq ec e (λz=>nomatch z))]
   exact ec
end
section
variable {X:Cx}{pins:List (Addr×Obj)}{σ:St}{H:Hp}{s:Shared}{a:Addr}{kvs:List (Key×V)}{k:Key}{u:Value}{A:Around}{E:Value->Shared->Prop}
theorem Nf{Q:Value->Shared->Prop}(I:Inv X pins σ H s) (e:H a=some (.dK kvs)) (h:∀s',Inv X pins σ (upd H a (.dK [])) s'->Q .none s'):wpAny (model X.prog X.w) A (call (.builtin "dict.clear") [.ref a]) Q E s:=by
 obtain⟨z,hd,vs,rel,dd⟩:=qR I.hok e
 refine adk acZ dd.typeIs PySem.F.entry_dict_clear (PySem.F.args_dict_clear_1 _) (meets_dict_clear (aQ X.prog X.w) a) ⟨vs,dd,by rw[← rel.length];exact z,λh' om hs=>h _ ?_⟩
 have he:∃q,h'.get? a=some q:=let ⟨q,_,_,hq,_⟩:=om; ⟨q,hq⟩
 exact qc (t':=s.toks) I (by rw[e];exact True.intro) hs he (kI (abQ _) hd .nil om)
theorem Uc{Q:Value->Shared->Prop}(I:Inv X pins σ H s) (e:Rd H a (.dK kvs)) (h:∀t s',Inv X pins σ H s'->Q (.int kvs.length t) s'):wpAny (model X.prog X.w) A (call (.builtin "len") [.ref a]) Q E s:=by
 obtain⟨z,hd,vs,rel,dd⟩:=jD I.hok e
 refine call_len_dict hd dd (by rw[← rel.length];rw[aeV]at z;omega) ?_
 rw[← rel.length]
 exact h _ _ (I.tok _)
end
noncomputable def JL(i:Expr):Prop:=∀ov iv,subscripted i false ov iv=operate [ov,iv] (getItem ov iv)
theorem Dl{prog:Program}{w:World}{A:Around}{E:Value->Shared->Prop}{s:Shared}{env:Env}{value slice:Expr}{pos:Pos}{T id:String}{Q:Value->Shared->Prop}
 (hl:typeLookup (.type T) "__getitem__" = pure (some (.builtin id))) (hs:JL slice)
 (h:wpAny (model prog w) A (eval value env) (λo eC=>wpAny (model prog w) A (eval slice env) (λi uT=>uT.TypeIs o T/\wpAny (model prog w) A (getItem o i) Q E uT) E eC) E s) :
 wpAny (model prog w) A (eval (.Subscript value slice pos) env) Q E s:=by
 refine Subscript_ (abG h (λo eC h₁=>abG h₁ (λi uT kK=>?_) λ_ _ x=>x) λ_ _ x=>x)
 obtain⟨hT,kK⟩:=kK
 unfold subscriptTail
 refine aac ?_
 rw[getitemInPython_of_ne hT.not_modules]
 refine aac (aeI hT hl ?_)
 have fin:wpAny (model prog w) A (subscripted slice false o i) (λr AK=>wpAny (model prog w) A (letTemporaryGo value o r >>= λ_=>pure r) Q E AK) E uT:=by
  rw[hs o i]
  exact wpAny_operating (abG kK (λr AK kO=>aac (wpAny_letTemporaryGo (aak kO))) λ_ _ x=>x)
 first
  | exact aak (aac fin)
  | exact aac (aak (aac fin))
  | exact aac fin
theorem uX{X:Cx}{pins:List (Addr×Obj)}{σ:St}{H:Hp}{s:Shared}{a:Addr}{y:V}{o:Option V}(I:Inv X pins σ H s) (g:a7 H a y o):s.TypeIs (.ref a) "dict":=by
 rcases g with⟨kvs,k,e,_,_⟩|⟨kvs,k,b,e,_,_,_⟩
 . obtain⟨_,_,vs,_,dd⟩:=jD I.hok e
   exact dd.typeIs
 . obtain⟨_,_,xs,_,dd⟩:=wz I.hok e
   exact dd.typeIs
noncomputable def oR(td ty:TE):TE:=λσ H Q=>td σ H λx H1=>ty σ H1 λy H2=>∃a v,x=.ref a/\a7 H2 a y (some v)/\Q v H2
noncomputable def Ly(td ty tv:TE):TS:=λD σ H=>tv σ H λv H1=>td σ H1 λx H2=>ty σ H2 λy H3=>∃a H4,x=.ref a/\fE H3 a y v H4/\D.nx σ H4
section
variable {X:Cx}{o i e value:Expr}{pos pos' Xw:Pos}{td ty tv:TE}
theorem aC(hu:X.A.units+1<cLine)(ho:PE X o td)(hi:PE X i ty)(hs:JL i):PE X (.Subscript o i pos) (oR td ty):=by
 intro pins s σ H Q I h
 refine Dl adW.lookup hs (aD (ho pins s σ H _ I h) λu s1 ⟨x,H1,I1,rx,q1⟩=>aD (hi pins s1 σ H1 _ I1 q1) λiv s2 zq=>?_)
 obtain⟨y,H2,I2,ry,a,v,ex,g,q2⟩:=zq
 subst ex
 obtain rfl:u=Value.ref a:=rx
 exact⟨uX I2 g,zi hu I2 g ry λw' s3 I3 qb=>⟨v,H2,I3,qb,q2⟩⟩
theorem eI(hu:X.A.units+1<cLine)(ho:PE X o td)(hi:PE X i ty)(hv:PE X value tv) (hs:swapsWith value (some (.Subscript o i pos')) pos.line X.env=pure false) :
 PS X (.Assign [.Subscript o i pos'] value pos) (Ly td ty tv):=by
 intro pins s σ H D I h
 refine wpAny_Assign_Subscript (aD (hv pins s σ H _ I h) λr s1 ⟨v,H1,I1,rv,q1⟩=>aD (ho pins s1 σ H1 _ I1 q1) λu s2 ⟨x,H2,I2,rx,q2⟩=>aD (hi pins s2 σ H2 _ I2 q2) λiv s3 ⟨y,H3,I3,ry,a,H4,ex,g,q3⟩=>?_) hs
 subst ex
 obtain rfl:u=Value.ref a:=rx
 exact zj hu I3 g ry rv λs4 I4=>⟨σ,H4,I4,q3⟩
end
theorem AL{P:Program}{w:World}{H:Hp}(h:Heap)(hb:sysModules<h.objs.size):bO P w H (h.push {cls:=.type "dict",data:=.dict #[] }) h.objs.size (.dK []):=
 ⟨abQ _,abr.mpr (aav (aax hb)),[],.nil,aeJ h⟩
noncomputable def OU:TE:=λ_ H Q=>∀p,H p=none->Q (.ref p) (upd H p (.dK []))
section
variable {X:Cx}{pos:Pos}
theorem JM:PE X (.Dict [] [] pos) OU:=λpins s σ H Q I h=>
 wpAny_Dict_empty ⟨.ref s.heap.objs.size,_,I.laid (a:=s.heap.objs.size) (o:=.dK []) (t':=s.toks) (λ_ _ q=>aad _ q) (aah _) (AL s.heap I.big),rfl,h _ (I.hok.fresh (aah _))⟩
end
noncomputable def AM:List (TE×TE)->St->Hp->(List (V×V)->Hp->Prop)->Prop
 | [],_,H,Q=>Q [] H
 | (tk,tv)::r,σ,H,Q=>tk σ H λx H1=>tv σ H1 λy H2=>AM r σ H2 λps H3=>Q ((x,y)::ps) H3
noncomputable abbrev VV:List (V×V)->List (Value×Value)->Prop:=Paired λp q=>RelV p.1 q.1/\RelV p.2 q.2
noncomputable def Lz(X:Cx)(pos:Pos) (keys:List (Option Expr)) (values:List Expr) (wA:List (TE×TE)):Prop:=
 ∀(pins:List (Addr×Obj)) (s:Shared) (σ:St) (H:Hp) (Q:List (V×V)->Hp->Prop),Inv X pins σ H s->AM wA σ H Q->
  wpAny (model X.prog X.w) X.A (evalPairs (pairTrees keys values X.env pos)) (λvs s'=>∃ps H',Inv X pins σ H' s'/\VV ps vs/\Q ps H') X.xe s
theorem uz{X:Cx}{pos:Pos} : Lz X pos [] [] []:=λpins s σ H Q I h=>pairTrees_nil_walk ⟨[],H,I,.nil,h⟩
theorem eS{X:Cx}{pos:Pos}{k v:Expr}{ks:List (Option Expr)}{vs:List Expr}{tk tv:TE}{wA:List (TE×TE)}(hk:PE X k tk) (hv:PE X v tv) (hr:Lz X pos ks vs wA) :
 Lz X pos (some k::ks) (v::vs) ((tk,tv)::wA):=λpins s σ H Q I h=>
 pairTrees_cons_walk (aD (hk pins s σ H _ I h) λu s1 ⟨x,H1,I1,rx,q1⟩=>aD (hv pins s1 σ H1 _ I1 q1) λw2 s2 ⟨y,H2,I2,ry,q2⟩=>
  aD (hr pins s2 σ H2 _ I2 q2) λws s3 ⟨ps,H3,I3,rel,q3⟩=>⟨(x,y)::ps,H3,I3,.cons ⟨rx,ry⟩ rel,q3⟩)
noncomputable def bA(kvs more:List (Key×V)):List (Key×V):=more.foldl (λacc kv=>putK acc kv.1 kv.2) kvs
theorem KV.merge:∀{more:List (Key×V)}{rs:List (Key×Value)}{kvs:List (Key×V)}{vs:List (Key×Value)},KV more rs->KV kvs vs->KV (bA kvs more) (merged vs rs):=by
 intro more rs kvs vs r
 unfold KV at r
 induction r generalizing kvs vs with
 | nil=>intro q;exact q
 | @cons p q ps qs h t ih=>
  intro r0
  have e:KV (putK kvs p.1 p.2) (stored vs q.1 q.2):=by
   have:=r0.put p.1 h.2
   rw[← h.1];exact this
  exact ih e
theorem gZ:∀(more kvs:List (Key×V)),(bA kvs more).length<=kvs.length+more.length
 | [],kvs=>by show kvs.length<=kvs.length+0;omega
 | p::r,kvs=>by
  have h1:=gZ r (putK kvs p.1 p.2)
  have h2:=pH kvs p.1 p.2
  show (bA (putK kvs p.1 p.2) r).length<=_
  rw[abt];omega
theorem wB{P:Program}{w:World} : ∀{kvs:List (Key×V)}{ws:List (Value×Value)},VV (kvs.map λkv=>(kV kv.1,kv.2)) ws->∃rs,Carries (aQ P w) ws rs/\KV kvs rs
 | [],_,r=>by rw[abY]at r;cases r;exact⟨[],True.intro,.nil⟩
 | p::kvs,_,r=>by
  rw[aas]at r
  cases r with
  | @cons a b as bs h t=>
   obtain⟨rs,c,q⟩:=wB (P:=P) (w:=w) t
   obtain⟨b1,b2⟩:=b
   exact⟨(p.1,b2)::rs,⟨oQ h.1,rfl,c⟩,.cons ⟨rfl,h.2⟩ q⟩
noncomputable def Ud(wA:List (TE×TE)):TE:=λσ H Q=>∀p,H p=none->AM wA σ (upd H p (.dK [])) λps H2=>H2 p=some (.dK [])/\∃kvs:List (Key×V),ps=kvs.map (λkv=>(kV kv.1,kv.2))/\kvs.length<=15/\Q (.ref p) (upd H2 p (.dK (bA [] kvs)))
theorem uA{X:Cx}{pos:Pos}{keys:List (Option Expr)}{values:List Expr}{wA:List (TE×TE)}(h:Lz X pos keys values wA) (gJ:keys.all (·.isSome)=true) (hl:keys.length=values.length) (h0:keys≠[])
 (YS:keys.length<=15):PE X (.Dict keys values pos) (Ud wA):=by
 intro pins s σ H Q I q
 have hn:=I.hok.fresh (aah s.heap.objs.size)
 have I1:=I.laid (a:=s.heap.objs.size) (o:=.dK []) (h':=s.heap.push {cls:=.type "dict",data:=.dict #[] }) (t':=s.toks) (λ_ _ q=>aad _ q) (aah _) (AL s.heap I.big)
 refine wpAny_Dict_walk (knd:=aQ X.prog X.w) gJ hl h0 YS (aD (h pins _ σ _ _ I1 (q _ hn)) λws s2 zq=>?_)
 obtain⟨ps,H2,I2,rel,e,kvs,ep,lk,q2⟩:=zq
 subst ep
 obtain⟨rs,c,rk⟩:=wB (P:=X.prog) (w:=X.w) rel
 obtain⟨z,hd,vs0,r0,dd⟩:=qR I2.hok e
 cases r0
 refine⟨rs,c,dd,λh' om hs=>⟨.ref s.heap.objs.size,_,?_,rfl,q2⟩⟩
 have hz:(bA [] kvs).length<=sizeLine:=by
  have h1:=gZ kvs []
  rw[acY]at h1
  rw[aeV];omega
 have he:∃q,h'.get? s.heap.objs.size=some q:=let ⟨q,_,_,hq,_⟩:=om; ⟨q,hq⟩
 exact qc I2 (by rw[e];exact True.intro) hs he (kI hz hd (rk.merge .nil) om)
structure M2(X:Cx) (o:Expr) (m:Str) (apos:Pos) (e f:Expr) (cU:Pos):Prop where
 base:attributeBase o m X.env (eval o X.env)=eval o X.env
 AN:((backTo cU (starEach [e,f] X.env)).all (λx=>!x.1) && (backToKw cU (keywordEach [] X.env)).all (λx=>x.1.isSome)
  && decide (([e,f]:List Expr).length+([]:List Keyword).length+(if ([]:List Keyword).isEmpty then 0 else 1)<30))=true
 line:(apos.endLine == cU.line)=true
 trees:backTo cU (starEach [e,f] X.env)=[(false,eval e X.env),(false,eval f X.env)]
noncomputable def Vc(H:Hp)(a:Addr):Prop:=(∃kvs,Rd H a (.dK kvs))\/∃kvs,Rd H a (.dT kvs)
theorem GA{X:Cx}{pins:List (Addr×Obj)}{σ:St}{H:Hp}{s:Shared}{a:Addr}(I:Inv X pins σ H s) (d:Vc H a) :
 s.TypeIs (.ref a) "dict" /\ (∀b,Value.ref a=.ref b->∃ob,s.heap.get? b=some ob/\ob.dict=none)/\(a == sysModules)=false:=by
 rcases d with⟨kvs,e⟩|⟨kvs,e⟩
 . obtain⟨_,hd,vs,_,dd⟩:=jD I.hok e
   refine⟨dd.typeIs,λb q=>?_,hd⟩
   cases q
   obtain⟨ob,_,_,h1,h2,_⟩:=dd
   exact⟨ob,h1,h2.2.1⟩
 . obtain⟨_,hd,xs,_,dd⟩:=wz I.hok e
   refine⟨dd.typeIs,λb q=>?_,hd⟩
   cases q
   obtain⟨ob,_,_,h1,h2,_⟩:=dd
   exact⟨ob,h1,h2.2.1⟩
section
variable {X:Cx}{pins:List (Addr×Obj)}{σ:St}{H:Hp}{s:Shared}{a:Addr}{y d:V}{u r:Value}{o:Option V}{A:Around}{E:Value->Shared->Prop}
theorem OV{Q:Value->Shared->Prop}(hu:A.units+1<cLine)(I:Inv X pins σ H s)(g:a7 H a y o)(ry:RelV y u)(rd:RelV d r) (h:∀w' s',Inv X pins σ H s'->RelV (o.getD d) w'->Q w' s') :
 wpAny (model X.prog X.w) A (call (.builtin "dict.get") [.ref a,u,r]) Q E s:=by
 rcases g with⟨kvs,k,e,ey,l⟩|⟨kvs,k,b,e,ey,eb,l⟩
 . subst ey
   obtain⟨z,hd,vs,rel,dd⟩:=jD I.hok e
   refine adk adl dd.typeIs aeE (aea _ _ _) (meets_dict_get_default (aQ X.prog X.w) a (oQ ry) hd r) ⟨_,dd.mapOf,h _ _ (I.tok _) ?_⟩
   rw[l]
   exact(rel.val k).getD rd
 . subst ey
   cases(show u=Value.ref b from ry)
   obtain⟨z,hd,xs,rel,dd⟩:=wz I.hok e
   refine adk adl dd.typeIs aeE (aea _ _ _) (meetsH_dict_get_default (tupleKind (aQ X.prog X.w)) a b hd r) ⟨adS hu,k,xs,wy I.hok eb,dd,h _ _ (I.tok _) ?_⟩
   rw[l]
   exact(rel.val k).getD rd
end
noncomputable def GC(td ty tx:TE):TE:=λσ H Q=>td σ H λx H1=>∃a,x=.ref a/\Vc H1 a/\ty σ H1 λy H2=>tx σ H2 λz H3=>∃o,a7 H3 a y o/\Q (o.getD z) H3
section
variable {X:Cx}{o e f:Expr}{apos cU:Pos}{td ty tx:TE}
theorem vI(hu:X.A.units+1<cLine)(ho:PE X o td)(he:PE X e ty)(hf:PE X f tx)(m:M2 X o "get" apos e f cU):PE X (.Call (.Attribute o "get" apos) [e,f] [] cU) (GC td ty tx):=by
 intro pins s σ H Q I h
 refine wpAny_Call_method m.base m.AN m.line abJ adl PySem.F.type_dict_get (aD (ho pins s σ H _ I h) λu s1 zq=>?_)
 obtain⟨x,H1,I1,rx,a,ex,d,q1⟩:=zq
 subst ex
 obtain rfl:u=Value.ref a:=rx
 obtain⟨t1,t2,_⟩:=GA I1 d
 refine⟨t1,t2,?_⟩
 rw[m.trees]
 refine abC rfl (acI (abo (aD (he pins s1 σ H1 _ I1 q1) λiv s2 ⟨y,H2,I2,ry,q2⟩=>
  abo (aD (hf pins s2 σ H2 _ I2 q2) λfv s3 ⟨z,H3,I3,rz,ov,g,q3⟩=>acg ?_))))
 exact OV hu I3 g ry rz λw' s4 I4 qb=>⟨_,H3,I4,qb,q3⟩
end
section
variable {X:Cx}{pins:List (Addr×Obj)}{σ:St}{H:Hp}{s:Shared}{a:Addr}{kvs:List (Key×V)}{A:Around}{E:Value->Shared->Prop}
theorem JN{Q:Value->Shared->Prop}(I:Inv X pins σ H s) (e:Rd H a (.dK kvs)) (h:∀p s',H p=none->Inv X pins σ (upd H p (.dK kvs)) s'->Q (.ref p) s'):wpAny (model X.prog X.w) A (call (.type "dict") [.ref a]) Q E s:=by
 obtain⟨z,hd,vs,rel,dd⟩:=jD I.hok e
 refine kt_call_dict hd dd (by rw[← rel.length];exact z) λh' om hs=>?_
 refine h _ _ (I.hok.fresh (aah _)) (I.laid (a:=s.heap.objs.size) (o:=.dK kvs) (t':=s.toks) (λb q hq=>?_) (aah _) (kI z (abr.mpr (aav (aax I.big))) rel om))
 exact(hs.2 b (aax (aam hq))).trans (aad _ hq)
end
section
variable {X:Cx}{pins:List (Addr×Obj)}{σ:St}{H:Hp}{s:Shared}{a:Addr}{y:V}{u:Value}{A:Around}{E:Value->Shared->Prop}
end
end L2
namespace HT
open PySem PyProof.Rows
section
open PySem.SeqAt
open PySem.AutoSeq1 (wpAny_loadPart')
open PySem.MeetsSeq PySem.MeetsSeq2 PySem.MeetsSeq3
end
section
variable {prog:Program}{w:World}{A:Around}{E:Value->Shared->Prop}{s:Shared}
noncomputable def oo(n d:Nat):Option Int->Nat
 | none=>d
 | some v=>if v<0 then (v+(n:Int)).toNat else min v.toNat n
end
end HT
namespace L2
open PySem PySem.Spec PyProof.Rows
noncomputable abbrev TO:=St->Hp->(Option Int->Hp->Prop)->Prop
noncomputable def PO(X:Cx)(e:Option Expr)(t:TO):Prop:=
 ∀(pins:List (Addr×Obj)) (s:Shared) (σ:St) (H:Hp) (Q:Option Int->Hp->Prop),Inv X pins σ H s->t σ H Q->
  wpAny (model X.prog X.w) X.A (evalPart e X.env) (λu s'=>∃o H',Inv X pins σ H' s'/\IsPart u o/\Q o H') X.xe s
noncomputable def Ng:TO:=λ_ H Q=>Q none H
noncomputable def Ue(t:TE):TO:=λσ H Q=>t σ H λx H1=>∃i,x=.int i/\Q (some i) H1
section
variable {X:Cx}{e:Expr}{te:TE}{lo hi:Option Expr}{tl th:TO}{pos p2:Pos}
theorem lP:PO X none Ng:=by
 intro pins s σ H Q I h
 rw[evalPart_none]
 exact aak ⟨none,H,I,.none,h⟩
theorem lQ(h:PE X e te):PO X (some e) (Ue te):=by
 intro pins s σ H Q I hw
 rw[evalPart_some]
 refine aD (h pins s σ H _ I hw) λu s1 zq=>?_
 obtain⟨x,H1,I1,r1,q1⟩:=zq
 obtain⟨i,rfl,q⟩:=q1
 obtain⟨t,rfl⟩:=r1
 exact⟨some i,H1,I1,.int i t,q⟩
noncomputable def LA(X:Cx)(r:V->Option Int->Option Int->Hp->VK->Prop):Prop:=
 ∀(pins:List (Addr×Obj)) (s:Shared) (σ:St) (H:Hp) (x:V) (v vl vu:Value) (lo hi:Option Int) (sl:Addr) (Q:VK),Inv X pins σ H s->RelV x v->s.heap.IsSliceOf sl vl vu .none->IsPart vl lo->IsPart vu hi->r x lo hi H Q->
  ∃T id,typeLookup (.type T) "__getitem__" = pure (some (.builtin id))/\s.TypeIs v T/\wpAny (model X.prog X.w) X.A (getItem v (.ref sl)) (EP X pins σ Q) X.xe s
noncomputable def YT(r:V->Option Int->Option Int->Hp->VK->Prop)(te:TE)(tl th:TO):TE:=λσ H Q=>te σ H λx H1=>tl σ H1 λl H2=>th σ H2 λu H3=>r x l u H3 Q
theorem jY{r:V->Option Int->Option Int->Hp->VK->Prop}(hr:LA X r)(he:PE X e te)(hl:PO X lo tl)(hu:PO X hi th):PE X (.Subscript e (.Slice lo hi none p2) pos) (YT r te tl th):=by
 intro pins s σ H Q I h
 refine Subscript_ (aD (he pins s σ H _ I h) λv s1 zq=>?_)
 obtain⟨x,H1,I1,r1,q1⟩:=zq
 refine wpAny_Slice (aD (hl pins s1 σ H1 _ I1 q1) λvl s2 ⟨l,H2,I2,pl,q2⟩=>aD (hu pins s2 σ H2 _ I2 q2) λvu s3 zq=>?_)
 obtain⟨u,H3,I3,pu,q3⟩:=zq
 rw[evalPart_none]
 refine aak ?_
 have I4:Inv X pins σ H3 {s3 with heap:=s3.heap.push {cls:=.type "slice",data:=.fields #[vl,vu,.none] } }:=I3.kept (t':=s3.toks) λb ob q=>aad _ q
 obtain⟨T,id,hT,ht,hg⟩:=hr pins {s3 with heap:=s3.heap.push {cls:=.type "slice",data:=.fields #[vl,vu,.none] } } σ H3 x v vl vu l u s3.heap.objs.size Q I4 r1 (Heap.IsSliceOf.new ..) pl pu q3
 show wpAny (model X.prog X.w) X.A (subscriptTail e (.Slice lo hi none p2) v (.ref s3.heap.objs.size)) (EP X pins σ Q) X.xe {s3 with heap:=s3.heap.push {cls:=.type "slice",data:=.fields #[vl,vu,.none] } }
 exact tail_any (ops:=[.ref s3.heap.objs.size,v]) ht hT hg (by with_unfolding_all rfl)
noncomputable def EF(xs:List V)(lo hi:Option Int):List V:=(xs.drop (HT.oo xs.length 0 lo)).take (HT.oo xs.length xs.length hi-HT.oo xs.length 0 lo)
theorem C1(xs:List V)(lo hi:Option Int):(EF xs lo hi).length<=xs.length:=by
 unfold EF
 rw[aaO,aew]
 omega
end
noncomputable def sM(n:Nat)(i:Int):Option Nat:=if 0<=i then (if i<n then some i.toNat else none) else if -(n:Int)<=i then some (i+n).toNat else none
noncomputable def ie{α:Type}(xs:List α)(i:Int):Option α:=(sM xs.length i).bind λj=>xs[j]?
theorem Dm{n:Nat}{i:Int}{j:Nat}(h:sM n i=some j):seqIndex? i n=some j/\j<n /\ -(n:Int)<=i/\i<n:=by
 unfold sM at h
 by_cases h0:0<=i
 . rw[aaI h0]at h
   by_cases h1:i<n
   . rw[aaI h1]at h
     have e:i.toNat=j:=aaA h
     exact⟨by rw[seqIndex_of h0 h1,e],by omega,by omega,h1⟩
   . rw[aay h1]at h;cases h
 . rw[aay h0]at h
   by_cases h1 : -(n:Int)<=i
   . rw[aaI h1]at h
     have e:(i+n).toNat=j:=aaA h
     exact⟨by rw[seqIndex_neg (by omega) h1,e],by omega,h1,by omega⟩
   . rw[aay h1]at h;cases h
theorem xZ{α:Type}{xs:List α}{i:Int}{v:α}(h:ie xs i=some v):∃j,seqIndex? i xs.length=some j/\xs[j]?=some v/\j<xs.length /\ -(xs.length:Int)<=i/\i<xs.length:=by
 unfold ie at h
 cases e:sM xs.length i with
 | none=>rw[e]at h;cases h
 | some j=>
  rw[e]at h
  obtain⟨h1,h2,h3,h4⟩:=Dm e
  exact⟨j,h1,h,h2,h3,h4⟩
theorem gy{α:Type}{xs:List α}{j:Nat}{v:α}(h:xs[j]?=some v):ie xs (j:Int)=some v:=by
 have hj:j<xs.length:=(aaq.mp h).1
 have e:sM xs.length (j:Int)=some j:=by
  unfold sM
  rw[aaI (by omega),aaI (by omega)];simp
 unfold ie;rw[e];exact h
theorem AO{α:Type}(xs:List α)(v:α):ie (xs++[v]) (-1)=some v:=by
 have hl:(xs++[v]).length=xs.length+1:=by simp
 have e:sM (xs++[v]).length (-1)=some xs.length:=by
  unfold sM
  rw[hl,aay (by decide),aaI (by omega)]
  congr 1
  omega
 unfold ie
 rw[e]
 show (xs++[v])[xs.length]?=some v
 simp
noncomputable def Nh(b:Expr):Prop:=∀o i,subscripted b false o i=operate [o,i] (getItem o i)
noncomputable def wC(X:Cx)(r:R2):Prop:=
 ∀(value slice:Expr) (pins:List (Addr×Obj)) (s:Shared) (σ:St) (H:Hp) (x y:V) (v u:Value) (Q:VK),Inv X pins σ H s->RelV x v->RelV y u->r x y H Q->
  subscripted slice false v u=operate [v,u] (getItem v u)->wpAny (model X.prog X.w) X.A (subscriptTail value slice v u) (EP X pins σ Q) X.xe s
noncomputable def OW(X:Cx)(id:String)(r:V->List V->Hp->VK->Prop):Prop:=
 ∀(pins:List (Addr×Obj)) (s:Shared) (σ:St) (H:Hp) (x:V) (xs:List V) (v:Value) (us:List Value) (Q:VK),Inv X pins σ H s->RelV x v->Vals xs us->r x xs H Q->
  wpAny (model X.prog X.w) X.A (call (.builtin id) (v::us)) (EP X pins σ Q) X.xe s
section
variable {X:Cx}{a b:Expr}{ta tb:TE}{pos:Pos}
theorem wC.or{r r':R2}(h:wC X r)(h':wC X r'):wC X (λx y H Q=>r x y H Q\/r' x y H Q):=by
 intro value slice pins s σ H x y v u Q I rx ry q hs
 rcases q with q|q
 . exact h value slice pins s σ H x y v u Q I rx ry q hs
 . exact h' value slice pins s σ H x y v u Q I rx ry q hs
theorem aN{r:R2}(hr:wC X r)(ha:PE X a ta)(hb:PE X b tb)(hs:Nh b):PE X (.Subscript a b pos) (oP r ta tb):=by
 intro pins s σ H Q I h
 exact Subscript_ (JC ha hb I h λv u s2 x y H2 I2 rx ry q=>hr a b pins s2 σ H2 x y v u Q I2 rx ry q (hs _ _))
noncomputable def sO(K:W.Frag):R2:=λx y H Q=>∃p xs i v,x=.ref p/\y=.int i/\aq K H p xs/\ie xs i=some v/\Q v H
noncomputable def eu(K:W.Frag):R2:=λx y H Q=>∃p xs i v,x=.ref p/\y=.int i/\aM K H p xs/\ie xs i=some v/\Q v H
noncomputable def OX:R2:=λx y H Q=>∃z i c,x=.str z/\y=.int i/\z.length<=sizeLine/\ie z.cps.toList i=some c/\Q (.str ⟨#[c]⟩) H
theorem bT:wC X (sO X.K):=by
 intro value slice pins s σ H x y v u Q I rx ry h hs
 obtain⟨p,xs,i,z,rfl,rfl,hq,he,q⟩:=h
 cases rx
 obtain⟨t,rfl⟩:=ry
 obtain⟨its,r,pl,hz⟩:=I.list hq
 obtain⟨j,h1,h2,h3,h4,h5⟩:=xZ he
 obtain⟨w,ew,qb⟩:=r.get h2
 have hl:=r.length
 have hn:=p8
 have fin:EP X pins σ Q w s:=⟨z,H,I,qb,q⟩
 by_cases h0:0<=i
 . have hj:i.toNat=j:=by
    rw[seqIndex_of h0 h5]at h1
    exact aaA h1
   exact item_listR pl.isList h0 (by omega) (by rw[hj];simpa using ew) fin hs
 . have hj:(i+(its.toArray.size:Int)).toNat=j:=by
    rw[seqIndex_neg (by omega) h4]at h1
    rw[aaw,← hl]
    exact aaA h1
   exact subscriptTail_builtinR (x:=w) pl.isList.typeIs slot_list_getitem.lookup
    (wpAny_getItem_list_neg (Q:=λr s'=>r=w/\EP X pins σ Q r s') pl.isList (by omega) (by rw[aaw] <;> omega) (by omega) (by rw[hj];simpa using ew) ⟨rfl,fin⟩) hs
theorem cN:wC X (eu X.K):=by
 intro value slice pins s σ H x y v u Q I rx ry h hs
 obtain⟨p,xs,i,z,rfl,rfl,hq,he,q⟩:=h
 cases rx
 obtain⟨t,rfl⟩:=ry
 obtain⟨its,r,pl,hz⟩:=I.tuple hq
 obtain⟨j,h1,h2,h3,h4,h5⟩:=xZ he
 obtain⟨w,ew,qb⟩:=r.get h2
 have hl:=r.length
 have hn:=p8
 have fin:EP X pins σ Q w s:=⟨z,H,I,qb,q⟩
 exact subscriptTail_builtinR (x:=w) pl.typeIs slot_tuple_getitem.lookup
  (getItem_tuple (j:=j) (Q:=λr s'=>r=w/\EP X pins σ Q r s') pl (by omega) (by omega) (by rw[aaw,← hl];exact h1) (by simpa using ew) ⟨rfl,fin⟩) hs
theorem kQ:wC X OX:=by
 intro value slice pins s σ H x y v u Q I rx ry h hs
 obtain⟨z,i,c,rfl,rfl,hz,he,q⟩:=h
 obtain⟨t,rfl⟩:=rx
 obtain⟨t',rfl⟩:=ry
 obtain⟨j,h1,h2,h3,h4,h5⟩:=xZ he
 have hl:z.cps.toList.length=z.length:=by simp[Str.length]
 rw[hl]at h1 h4 h5
 have hn:=p8
 exact tail_any (acW s z t) slot_str_getitem.lookup (getItem_str (c:=c) (by
  have e1:decide (i < -(2 ^ 63:Int))=false:=aaS (by omega)
  have e2:decide (i≥2 ^ 63)=false:=aaS (by omega)
  rw[e1,e2,Bool.or_false]) (by rw[h1];simpa using h2) ⟨.str ⟨#[c]⟩,H,I.tok _,⟨_,rfl⟩,q⟩) hs
noncomputable def Vd(K:W.Frag):R2:=λx y H Q=>sO K x y H Q\/eu K x y H Q\/OX x y H Q
theorem sP:wC X (Vd X.K):=bT.or (cN.or kQ)
theorem EG(its:List Value)(n j:Nat)(u:Value):Obj.mapSeq (·.setIfInBounds j u) {cls:=.type "list",data:=.seq its.toArray n} = {cls:=.type "list",data:=.seq (its.set j u).toArray n}:=by
 simp[Obj.mapSeq]
theorem Inv.lst{pins:List (Addr×Obj)}{σ:St}{H:Hp}{s:Shared}{p:Addr}{xs:List V}(I:Inv X pins σ H s) (h:H p=some (.lst xs)) :
 ∃(its:List Value) (n:Nat),Vals xs its/\s.heap.get? p=some {cls:=.type "list",data:=.seq its.toArray n} /\ xs.length<=sizeLine:=by
 obtain⟨z,its,n,r,e⟩:=I.hok p _ h
 exact⟨its,n,r,e,z⟩
theorem Inv.OY{pins:List (Addr×Obj)}{σ:St}{H:Hp}{s:Shared}{p:Addr}{xs ys:List V}{its its':List Value}{n n':Nat}{f:Obj->Obj}(I:Inv X pins σ H s) (h:H p=some (.lst xs))
 (ho:s.heap.get? p=some {cls:=.type "list",data:=.seq its.toArray n}) (hf:f {cls:=.type "list",data:=.seq its.toArray n} = {cls:=.type "list",data:=.seq its'.toArray n'}) (r:Vals ys its') (hz:ys.length<=sizeLine) (t:Nat) :
 Inv X pins σ (upd H p (.lst ys)) {s with heap:=s.heap.update p f,toks:=t}:=by
 have e:(s.heap.update p f).get? p=some {cls:=.type "list",data:=.seq its'.toArray n'}:=by
  rw[adm f ho (by rw[hf] <;> rfl),hf]
 refine I.write (x:=p) (e:=p) (by rw[h];trivial) (.inl rfl) (λb u hb q=>(Heap.get?_update_other _ _ (aav hb)).trans q) ⟨_,e⟩ ?_
 exact⟨hz,its',n',r,e⟩
noncomputable def Ug:V->V->V->Hp->(Hp->Prop)->Prop:=λo i v H Q=>∃p xs k j,o=.ref p/\i=.int k/\H p=some (.lst xs)/\sM xs.length k=some j/\Q (upd H p (.lst (xs.set j v)))
theorem set_list:OM X Ug:=by
 intro pins s σ H o i v ov iv u Q I ro ri rv h
 obtain⟨p,xs,k,j,rfl,rfl,hp,hj,q⟩:=h
 cases ro
 obtain⟨t,rfl⟩:=ri
 obtain⟨its,n,r,ho,hz⟩:=I.lst hp
 obtain⟨h1,h2,h3,h4⟩:=Dm hj
 have hl:=r.length
 have hn:=p8
 have I':Inv X pins σ (upd H p (.lst (xs.set j v))) {s with heap:=s.heap.update p (Obj.mapSeq (·.setIfInBounds j u))} :=
  I.OY hp ho (EG its n j u) (r.set rv j) (by rw[List.length_set];exact hz) s.toks
 by_cases h0:0<=k
 . have hk:k.toNat=j:=by
    rw[seqIndex_of h0 h4]at h1
    exact aaA h1
   exact W.ki_setAt ho h0 (by omega) (by rw[aaw,← hl];exact h4) (by rw[hk];exact⟨_,I',q⟩)
 . have hk:(k+(its.toArray.size:Int)).toNat=j:=by
    rw[seqIndex_neg (by omega) h3]at h1
    rw[aaw,← hl]
    exact aaA h1
   exact W.ki_setBack ho (by omega) (by rw[aaw,← hl];exact h3) (by omega) (by rw[hk];exact⟨_,I',q⟩)
theorem AQ(lo hi:Option Int)(n:Nat):(sliceBounds lo hi none n).1=((HT.oo n 0 lo:Nat):Int)/\(sliceBounds lo hi none n).2.1=((HT.oo n n hi:Nat):Int)/\(sliceBounds lo hi none n).2.2=1:=by
 refine⟨?_,?_,rfl⟩
 . cases lo with
   | none=>simp[sliceBounds,HT.oo]
   | some i=>
    simp only[sliceBounds,HT.oo,aex,show (1:Int)>0 by decide,ac9]
    by_cases h:i<0
    . simp only[h,ac9] <;> omega
    . simp only[h,acN] <;> omega
 . cases hi with
   | none=>simp[sliceBounds,HT.oo]
   | some i=>
    simp only[sliceBounds,HT.oo,aex,show (1:Int)>0 by decide,ac9]
    by_cases h:i<0
    . simp only[h,ac9] <;> omega
    . simp only[h,acN] <;> omega
theorem Ah(its:List Value)(lo hi:Option Int):slicePick its.toArray lo hi none=((its.drop (HT.oo its.length 0 lo)).take (HT.oo its.length its.length hi-HT.oo its.length 0 lo)).toArray:=by
 obtain⟨h1,h2,h3⟩:=AQ lo hi its.toArray.size
 unfold slicePick
 rw[h1,h2,h3]
 simp only[sliceRange_one,pick_run,aaw] <;> rfl
noncomputable def Xx(K:W.Frag):V->Option Int->Option Int->Hp->VK->Prop:=λx lo hi H Q=>∃a xs,x=.ref a/\aq K H a xs/\∀p,H p=none->Q (.ref p) (upd H p (.lst (EF xs lo hi)))
theorem YE:LA X (Xx X.K):=by
 intro pins s σ H x v vl vu lo hi sl Q I rx hs pl pu h
 obtain⟨a,xs,rfl,hx,q⟩:=h
 cases rx
 obtain⟨its,r,ht,hz⟩:=I.list hx
 have hlen:=r.length
 refine⟨"list",_,slot_list_getitem.lookup,ht.isList.typeIs,?_⟩
 refine wpAny_getItem_list_slice ht.isList hs pl pu .none (by simp) ?_ (by rw[aaw] <;> omega)
 rw[Ah,← hlen]
 refine⟨.ref s.heap.objs.size,_,I.laid (t':=s.toks) (o:=.lst (EF xs lo hi)) (λb ob q=>aad _ q) (aah _) ?_,rfl,q _ (I.hok.fresh (aah _))⟩
 exact⟨aap (C1 xs lo hi) hz,_,0,(r.drop (HT.oo xs.length 0 lo)).take (HT.oo xs.length xs.length hi-HT.oo xs.length 0 lo),aar _ rfl⟩
noncomputable def kT:V->Bool
 | .aH=>true
 | .bl _=>true
 | .int _=>true
 | .str _=>true
 | _=>false
noncomputable def mE:V->V->Bool
 | .aH,.aH=>true
 | .bl a,.bl b=>a == b
 | .bl a,.int b=>(if a then 1 else 0) == b
 | .int a,.bl b=>a == (if b then 1 else 0)
 | .int a,.int b=>a == b
 | .str a,.str b=>a == b
 | _,_=>false
theorem wD{A:Around}{s:Shared}{y x:V}{u v:Value}(ry:RelV y u)(rx:RelV x v)(fy:kT y=true)(fx:kT x=true):SeqAt.EqAt A s u v (mE y x):=by
 cases y with
 | aH=>
  cases ry
  cases x with
  | aH=>cases rx;exact SeqAt.EqAt.same _
  | bl b=>cases rx;exact SeqAt.EqAt.none_bool b
  | int b=>obtain⟨t,rfl⟩:=rx;exact SeqAt.EqAt.none_int b t
  | str b=>obtain⟨t,rfl⟩:=rx;exact SeqAt.EqAt.none_str b t
  | _=>exact absurd (show false=true from fx) aat
 | bl a=>
  cases ry
  cases x with
  | aH=>cases rx;exact SeqAt.EqAt.bool_none a
  | bl b=>cases rx;exact SeqAt.EqAt.bool_bool a b
  | int b=>obtain⟨t,rfl⟩:=rx;exact SeqAt.EqAt.bool_int a b t
  | str b=>obtain⟨t,rfl⟩:=rx;exact SeqAt.EqAt.bool_str a b t
  | _=>exact absurd (show false=true from fx) aat
 | int a=>
  obtain⟨t',rfl⟩:=ry
  cases x with
  | aH=>cases rx;exact SeqAt.EqAt.int_none a t'
  | bl b=>cases rx;exact SeqAt.EqAt.int_bool a t' b
  | int b=>obtain⟨t,rfl⟩:=rx;exact SeqAt.EqAt.int_int a t' b t
  | str b=>obtain⟨t,rfl⟩:=rx;exact SeqAt.EqAt.int_str a t' b t
  | _=>exact absurd (show false=true from fx) aat
 | str a=>
  obtain⟨t',rfl⟩:=ry
  cases x with
  | aH=>cases rx;exact SeqAt.EqAt.str_none a t'
  | bl b=>cases rx;exact SeqAt.EqAt.str_bool a t' b
  | int b=>obtain⟨t,rfl⟩:=rx;exact SeqAt.EqAt.str_int a t' b t
  | str b=>obtain⟨t,rfl⟩:=rx;exact SeqAt.EqAt.str_str a t' b t
  | _=>exact absurd (show false=true from fx) aat
 | _=>exact absurd (show false=true from fy) aat
noncomputable def oq(x:V)(u:Value):Bool:=match u with
 | .none=>mE .aH x
 | .bool b=>mE (.bl b) x
 | .int i _=>mE (.int i) x
 | .str z _=>mE (.str z) x
 | _=>false
theorem GD{x y:V}{u:Value}(r:RelV y u)(f:kT y=true):oq x u=mE y x:=by
 cases y with
 | aH=>cases r;rfl
 | bl b=>cases r;rfl
 | int i=>obtain⟨t,rfl⟩:=r;rfl
 | str z=>obtain⟨t,rfl⟩:=r;rfl
 | _=>exact absurd (show false=true from f) aat
theorem qd{x:V} : ∀{xs:List V}{us:List Value},Vals xs us->xs.all kT=true->us.any (oq x)=xs.any λy=>mE y x
 | _,_,.nil,_=>rfl
 | y::xs,u::us,.cons r t,f=>by
  rw[ae0,abg]at f
  rw[acF,acF,GD r f.1,qd t f.2]
theorem ou{A:Around}{s:Shared}{x:V}{v:Value}(rx:RelV x v)(fx:kT x=true):∀{xs:List V}{us:List Value},Vals xs us->xs.all kT=true->∀u∈us,SeqAt.EqAt A s u v (oq x u)
 | _,_,.nil,_=>λu hu=>by cases hu
 | y::xs,u::us,.cons r t,f=>λu' hu=>by
  rw[ae0,abg]at f
  rcases aan.mp hu with rfl|hu
  . rw[GD r f.1];exact wD r rx f.1 fx
  . exact ou rx fx t f.2 u' hu
noncomputable def iQ(x:V)(xs:List V):Bool:=xs.any λy=>mE y x
noncomputable def LB(K:W.Frag)(neg:Bool):R2:=λx y H Q=>∃p xs,y=.ref p/\(aq K H p xs\/aM K H p xs)/\kT x=true/\xs.all kT=true/\Q (.bl (if neg then !iQ x xs else iQ x xs)) H
theorem iR:iP X (compareOp .In) (LB X.K false):=by
 intro pins s σ H x y v u Q I rx ry h
 obtain⟨p,xs,rfl,hq,fx,fs,q⟩:=h
 cases ry
 rcases hq with hq|hq
 . obtain⟨its,r,pl,hz⟩:=I.list hq
   refine aeK (oq x) pl.isList (λw hw=>ou rx fx r fs w (by simpa using hw)) ⟨.bl _,H,I,rfl,?_⟩
   rw[show its.toArray.any (oq x)=its.any (oq x) by simp,qd r fs]
   exact q
 . obtain⟨its,r,pl,hz⟩:=I.tuple hq
   refine SeqAt.in_tupleAt (oq x) pl (λw hw=>ou rx fx r fs w (by simpa using hw)) ⟨.bl _,H,I,rfl,?_⟩
   rw[show its.toArray.any (oq x)=its.any (oq x) by simp,qd r fs]
   exact q
theorem AR:iP X (compareOp .NotIn) (LB X.K true):=by
 intro pins s σ H x y v u Q I rx ry h
 obtain⟨p,xs,rfl,hq,fx,fs,q⟩:=h
 cases ry
 rcases hq with hq|hq
 . obtain⟨its,r,pl,hz⟩:=I.list hq
   refine SeqAt.notIn_listAt (oq x) pl.isList (λw hw=>ou rx fx r fs w (by simpa using hw)) ⟨.bl _,H,I,rfl,?_⟩
   rw[show its.toArray.any (oq x)=its.any (oq x) by simp,qd r fs]
   exact q
 . obtain⟨its,r,pl,hz⟩:=I.tuple hq
   refine SeqAt.notIn_tupleAt (oq x) pl (λw hw=>ou rx fx r fs w (by simpa using hw)) ⟨.bl _,H,I,rfl,?_⟩
   rw[show its.toArray.any (oq x)=its.any (oq x) by simp,qd r fs]
   exact q
theorem eA:jb X (.builtin "len") (λxs H Q=>∃p ys,xs=[.ref p]/\(aq X.K H p ys\/aM X.K H p ys)/\Q (.int ys.length) H):=by
 intro pins s σ H xs us Q I r h
 obtain⟨p,ys,rfl,hq,q⟩:=h
 obtain⟨u,rfl,rx⟩:=vals1 r
 cases rx
 have hn:=p8
 rcases hq with hq|hq
 . obtain⟨its,r',pl,hz⟩:=I.list hq
   have hlen:=r'.length
   exact Calls.call_len_list pl.isList (by simp only[aaw] <;> omega) ⟨.int ys.length,H,I.tok _,⟨s.toks+1,by rw[aaw,hlen]⟩,q⟩
 . obtain⟨its,r',pl,hz⟩:=I.tuple hq
   have hlen:=r'.length
   exact len_tuple pl (by simp only[aaw] <;> omega) ⟨.int ys.length,H,I.tok _,⟨s.toks+1,by rw[aaw,hlen]⟩,q⟩
theorem eT:jb X (.type "list") (λxs H Q=>∃p ys,xs=[.ref p]/\(aq X.K H p ys\/aM X.K H p ys)/\∀l,H l=none->Q (.ref l) (upd H l (.lst ys))):=by
 intro pins s σ H xs us Q I r h
 obtain⟨p,ys,rfl,hq,q⟩:=h
 obtain⟨u,rfl,rx⟩:=vals1 r
 cases rx
 have fin:∀(its:List Value),Vals ys its->ys.length<=sizeLine->∀(h':Heap) (c':Nat),(∀b o',s.heap.get? b=some o'->h'.get? b=some o')->
  h'.get? s.heap.objs.size=some {cls:=.type "list",dict:=none,data:=.seq its.toArray c',slots:=#[] } -> EP X pins σ Q (.ref s.heap.objs.size) {s with heap:=h'}:=λits r' hz h' c' kp e=>
  ⟨.ref s.heap.objs.size,_,I.laid (t':=s.toks) kp (aah _) (show bO X.prog X.w _ h' _ (.lst ys) from⟨hz,its,c',r',e⟩),rfl,q _ (I.hok.fresh (aah _))⟩
 rcases hq with hq|hq
 . obtain⟨its,r',pl,hz⟩:=I.list hq
   have hlen:=r'.length
   obtain⟨o,ho,hc,n,hd⟩:=pl.isList
   exact call_list_seq p (.inl rfl) ho hc hd (λh' c' kp e=>fin its r' hz h' c' kp e) (by simp only[aaw] <;> omega)
 . obtain⟨its,r',pl,hz⟩:=I.tuple hq
   have hlen:=r'.length
   obtain⟨o,ho,hc,n,hd⟩:=pl
   exact call_list_seq p (.inr rfl) ho hc hd (λh' c' kp e=>fin its r' hz h' c' kp e) (by simp only[aaw] <;> omega)
theorem nh:jb X (.type "tuple") (λxs H Q=>∃p ys,xs=[.ref p]/\((aq X.K H p ys/\∀l,H l=none->Q (.ref l) (upd H l (.tup ys)))\/(aM X.K H p ys/\Q (.ref p) H))):=by
 intro pins s σ H xs us Q I r h
 obtain⟨p,ys,rfl,h⟩:=h
 obtain⟨u,rfl,rx⟩:=vals1 r
 cases rx
 rcases h with⟨hq,q⟩|⟨hq,q⟩
 . obtain⟨its,r',pl,hz⟩:=I.list hq
   have hlen:=r'.length
   refine call_tuple_list pl.isList (λh' kp=>?_) (by simp only[aaw] <;> omega)
   have I1:Inv X pins σ H {s with heap:=h'}:=I.kept (t':=s.toks) kp
   have I2:Inv X pins σ (upd H h'.objs.size (.tup ys)) {s with heap:=h'.push {cls:=.type "tuple",data:=.seq its.toArray} } :=
    I1.laid (t':=s.toks) (λb o e=>aad _ e) (aah _) (show bO X.prog X.w _ _ _ (.tup ys) from⟨hz,its,r',IsTup.new _ _⟩)
   exact⟨.ref h'.objs.size,_,I2,rfl,q _ (I1.hok.fresh (aah _))⟩
 . obtain⟨its,r',pl,hz⟩:=I.tuple hq
   exact call_tuple_same pl ⟨.ref p,H,I,rfl,q⟩
noncomputable def OZ(K:W.Frag)(T:String)(x:V)(H:Hp):Prop:=match x with
 | .str _=>T = "str"
 | .int _=>T = "int"
 | .ref p=>(T = "list" /\ ∃xs,aq K H p xs)\/(T = "tuple" /\ ∃o,K.lookup p=some o/\o.cls=.type "tuple" /\ o.dict=none)\/
  (T = "dict" /\ ((∃kvs,H p=some (.dK kvs))\/∃kvs,H p=some (.dT kvs)))\/(T = "set" /\ ∃S n,H p=some (.set S n))
 | _=>False
theorem wF{pins:List (Addr×Obj)}{σ:St}{H:Hp}{s:Shared}{T:String}{x:V}{v:Value}(I:Inv X pins σ H s) (r:RelV x v) (ty:OZ X.K T x H) :
 s.TypeIs v T/\∀a,v=.ref a->∃ob,s.heap.get? a=some ob/\ob.dict=none:=by
 cases x with
 | str z=>
  obtain⟨t,rfl⟩:=r
  cases(show T = "str" from ty)
  exact⟨acW s z t,λ_ e=>nomatch e⟩
 | int i=>
  obtain⟨t,rfl⟩:=r
  cases(show T = "int" from ty)
  exact⟨typeIs_int s i t,λ_ e=>nomatch e⟩
 | ref p=>
  cases r
  rcases ty with⟨rfl,xs,hq⟩|⟨rfl,o,hk,hc,hd⟩|⟨rfl,hk⟩|⟨rfl,S,n,hk⟩
  . obtain⟨its,_,pl,_⟩:=I.list hq
    refine⟨pl.isList.typeIs,λa e=>?_⟩
    cases e
    obtain⟨o,n,e,c,hd,_⟩:=pl
    exact⟨o,e,hd⟩
  . refine⟨⟨o,I.i0 p o hk,hc⟩,λa e=>?_⟩
    cases e
    exact⟨o,I.i0 _ o hk,hd⟩
  . have z:∃o,s.heap.get? p=some o/\o.ExactDict:=by
     rcases hk with⟨kvs,hk⟩|⟨kvs,hk⟩
     . obtain⟨_,_,_,_,o,_,_,e,ex,_⟩:=I.hok p _ hk
       exact⟨o,e,ex⟩
     . obtain⟨_,_,_,_,o,_,_,e,ex,_⟩:=I.hok p _ hk
       exact⟨o,e,ex⟩
    obtain⟨o,e,ex⟩:=z
    refine⟨⟨o,e,ex.1⟩,λa e2=>?_⟩
    cases e2
    exact⟨o,e,ex.2.1⟩
  . obtain⟨o,_,_,_,e,ex,_⟩:=I.hok p _ hk
    refine⟨⟨o,e,ex.1⟩,λa e2=>?_⟩
    cases e2
    exact⟨o,e,ex.2.1⟩
 | _=>exact False.elim ty
noncomputable def Xy(K:W.Frag)(T:String)(r:V->List V->Hp->VK->Prop)(to:TE):TE:=λσ H Q=>to σ H λx H1=>OZ K T x H1/\r x [] H1 Q
noncomputable def Ve(K:W.Frag)(T:String)(r:V->List V->Hp->VK->Prop)(to:TE)(t:TA):TE:=λσ H Q=>to σ H λx H1=>OZ K T x H1/\t σ H1 λxs H2=>r x xs H2 Q
variable {o e:Expr}{es:List Expr}{to:TE}{t:TA}{name:Str}{apos cU:Pos}{T id:String}{r:V->List V->Hp->VK->Prop}
theorem wG(pa:PlainAttrs T)(slot:Slot T name id) (GF:typeOf (.builtin id)=pure (.type "method_descriptor")) (hm:OW X id r) (ho:PE X o to)
 (kU:attributeBase o name X.env (eval o X.env)=eval o X.env:=by rfl) (kY:(apos.endLine == cU.line)=true:=by rfl):PE X (.Call (.Attribute o name apos) [] [] cU) (Xy X.K T r to):=by
 intro pins s σ H Q I h
 refine ac0 kU kY (aD (ho pins s σ H _ I h) λv s1 zq=>?_)
 obtain⟨x,H1,I1,r1,ty,q1⟩:=zq
 obtain⟨h1,h2⟩:=wF I1 r1 ty
 exact⟨T,id,pa,slot,GF,h1,h2,abC rfl (adE (hm pins s1 σ H1 x [] v [] Q I1 r1 .nil q1))⟩
theorem eU(pa:PlainAttrs T)(slot:Slot T name id) (GF:typeOf (.builtin id)=pure (.type "method_descriptor")) (hm:OW X id r) (ho:PE X o to) (ha:PA X (e::es) t)
 (kU:attributeBase o name X.env (eval o X.env)=eval o X.env:=by rfl)
 (AS:((backTo cU (starEach (e::es) X.env)).all (λx=>!x.1) && (backToKw cU (keywordEach [] X.env)).all (λx=>x.1.isSome)
  && decide ((e::es).length+([]:List Keyword).length+(if ([]:List Keyword).isEmpty then 0 else 1)<30))=true:=by rfl)
 (kY:(apos.endLine == cU.line)=true:=by rfl) (hs:starEach (e::es) X.env=(false,eval e X.env)::starEach es X.env:=by rfl) (AU:(backTo cU (starEach es X.env)).any (·.1)=false:=by rfl) :
 PE X (.Call (.Attribute o name apos) (e::es) [] cU) (Ve X.K T r to t):=by
 intro pins s σ H Q I h
 refine ac5 kU AS kY rfl (aD (ho pins s σ H _ I h) λv s1 zq=>?_)
 obtain⟨x,H1,I1,r1,ty,q1⟩:=zq
 obtain⟨h1,h2⟩:=wF I1 r1 ty
 refine⟨T,id,pa,slot,GF,h1,h2,?_⟩
 have hA:=ha cU pins s1 σ H1 _ I1 q1
 rw[hs]at hA ⊢
 refine abC (by show (false || (backTo cU (starEach es X.env)).any (·.1))=false;rw[AU] <;> rfl) (acI ?_)
 exact aD hA λus s2 ⟨vs,H2,I2,r2,q2⟩=>hm pins s2 σ H2 x vs v us Q I2 r1 r2 q2
end
noncomputable def uY(X:Cx)(id:String)(r:V->List V->Hp->VK->Prop):Prop:=
 ∀(pins:List (Addr×Obj)) (s:Shared) (σ:St) (H:Hp) (x:V) (xs:List V) (v:Value) (us:List Value) (Q:VK),Inv X pins σ H s->RelV x v->Vals xs us->r x xs H Q->
  wpAny (model X.prog X.w) X.A (call (.builtin id) (v::us)) (EP X pins σ Q) X.xe s
theorem Vals.inv{x:V}{xs:List V}{us:List Value}(h:Vals (x::xs) us):∃u t,us=u::t/\RelV x u/\Vals xs t:=by
 cases h with
 | cons r t=>exact⟨_,_,rfl,r,t⟩
theorem Vals.one:∀{x:V}{us:List Value},Vals [x] us->∃u,us=[u]/\RelV x u:=by
 intro x us h
 obtain⟨u,t,rfl,r,h⟩:=h.inv
 cases h
 exact⟨u,rfl,r⟩
theorem Vals.two:∀{x y:V}{us:List Value},Vals [x,y] us->∃u v,us=[u,v]/\RelV x u/\RelV y v:=by
 intro x y us h
 obtain⟨u,t,rfl,r,h⟩:=h.inv
 obtain⟨v,s,rfl,q,h⟩:=h.inv
 cases h
 exact⟨u,v,rfl,r,q⟩
theorem Vals.zero:∀{us:List Value},Vals [] us->us=[]:=by
 intro us h
 cases h
 rfl
theorem Vals.dropLast{xs:List V}{us:List Value}(h:Vals xs us):Vals xs.dropLast us.dropLast:=by
 induction h with
 | nil=>exact .nil
 | cons r t ih=>
  cases t with
  | nil=>exact .nil
  | cons q t'=>exact .cons r ih
theorem EH{α:Type}(l:List α):l.eraseIdx (l.length-1)=l.dropLast:=by
 induction l with
 | nil=>rfl
 | cons a r ih=>
  cases r with
  | nil=>rfl
  | cons b r=>
   have e:(a::b::r).length-1=((b::r).length-1)+1:=by
    have h1:(a::b::r).length=r.length+2:=rfl
    have h2:(b::r).length=r.length+1:=rfl
    omega
   rw[e,List.eraseIdx_cons_succ,ih]
   all_goals rfl
section
variable {X:Cx}{pins:List (Addr×Obj)}{σ:St}{H:Hp}{s:Shared}{l b:Addr}{xs ys zs:List V}
theorem Inv.AV{its its':List Value}{n:Nat}{f:Array Value->Array Value}{t':Nat}(I:Inv X pins σ H s) (hH:H l=some (.lst xs))
 (e:s.heap.get? l=some {cls:=.type "list",data:=.seq its.toArray n}) (hf:f its.toArray=its'.toArray) (hv:Vals ys its') (hz:ys.length<=sizeLine) :
 Inv X pins σ (upd H l (.lst ys)) {s with heap:=s.heap.update l (Obj.mapSeq f),toks:=t'}:=by
 have q:=PySem.IsL.update e f
 rw[hf]at q
 refine I.write (x:=l) (e:=l) (by rw[hH];exact trivial) (.inl rfl) (λb' u hb hu=>(Heap.get?_update_other s.heap (Obj.mapSeq f) (aav hb)).trans hu) ⟨_,q⟩ ?_
 exact⟨hz,its',_,hv,q⟩
theorem Inv.EI{its:List Value}{t':Nat}(I:Inv X pins σ H s)(hv:Vals ys its)(hz:ys.length<=sizeLine) :
 Inv X pins σ (upd H s.heap.objs.size (.lst ys)) {s with heap:=s.heap.push {cls:=.type "list",data:=.seq its.toArray},toks:=t'} :=
 I.laid (λ_ _ q=>aad _ q) (aah _) ⟨hz,its,0,hv,aar _ rfl⟩
theorem Inv.fresh(I:Inv X pins σ H s):H s.heap.objs.size=none:=I.hok.fresh (aah _)
theorem Inv.sQ(I:Inv X pins σ H s) (hH:H l=some (.lst xs)):xs.length<=sizeLine/\∃(its:List Value) (n:Nat),Vals xs its/\xs.length=its.length/\s.heap.get? l=some {cls:=.type "list",data:=.seq its.toArray n}:=by
 obtain⟨z,its,n,r,e⟩:=I.hok l _ hH
 exact⟨z,its,n,r,r.length,e⟩
theorem vJ{n:Nat}(h:n<=sizeLine):Builtin.List.listTooLong n=false:=by
 unfold Builtin.List.listTooLong
 exact aaS (by omega)
end
section
variable {X:Cx}
noncomputable def Ni:V->List V->Hp->VK->Prop:=λx vs H Q=>∃l xs y,x=.ref l/\vs=[y]/\H l=some (.lst xs)/\xs.length<sizeLine/\Q .aH (upd H l (.lst (xs++[y])))
theorem cJ:uY X "list.append" Ni:=by
 intro pins s σ H x vs v us Q I rx rv h
 obtain⟨l,xs,y,rfl,rfl,hH,hz,q⟩:=h
 cases rx
 obtain⟨u,rfl,ru⟩:=rv.one
 obtain⟨z,its,n,r,hl,e⟩:=I.sQ hH
 refine ada aaQ ⟨_,e,rfl⟩ F.entry_list_append (F.args_list_append_2 _ _) (PySem.list_append l its.toArray n u (by rw[aaw];omega)) ⟨e,?_⟩
 refine⟨.aH,_,I.AV (its':=its++[u]) hH e (by simp) (r.append (.cons ru .nil)) ?_,rfl,q⟩
 rw[aaj,aaK]
 omega
noncomputable def Nj:V->List V->Hp->VK->Prop:=λx vs H Q=>∃l b xs zs,x=.ref l/\vs=[.ref b]/\H l=some (.lst xs)/\H b=some (.lst zs)/\xs.length+zs.length<=sizeLine/\Q .aH (upd H l (.lst (xs++zs)))
theorem Vf:uY X "list.extend" Nj:=by
 intro pins s σ H x vs v us Q I rx rv h
 obtain⟨l,b,xs,zs,rfl,rfl,hH,hB,hz,q⟩:=h
 cases rx
 obtain⟨u,rfl,ru⟩:=rv.one
 cases ru
 obtain⟨z,its,n,r,hl,e⟩:=I.sQ hH
 obtain⟨z2,vK,n2,r2,dw,e2⟩:=I.sQ hB
 have hsz:its.toArray.size+vK.toArray.size<=sizeLine:=by rw[aaw,aaw];omega
 have Uh:¬ (!its.toArray.isEmpty && Builtin.List.listTooLong (its.toArray.size+vK.toArray.size))=true:=by
  rw[vJ hsz,Bool.and_false]
  exact aat
 refine ada F.slot_list_extend ⟨_,e,rfl⟩ F.entry_list_extend (F.args_list_extend_2 _ _)
  (AutoSeq1.list_extend_list_list_0 l its.toArray n b vK.toArray n2 Uh (by rw[aaw];omega) (by omega)) ⟨e,e2,?_⟩
 refine⟨.aH,_,I.AV (its':=its++vK) hH e (by simp) (r.append r2) ?_,rfl,q⟩
 rw[aaj]
 omega
noncomputable def Xz:V->List V->Hp->VK->Prop:=λx vs H Q=>∃l xs y,x=.ref l/\vs=[]/\H l=some (.lst xs)/\xs[xs.length-1]?=some y/\Q y (upd H l (.lst xs.dropLast))
theorem O0:uY X "list.pop" Xz:=by
 intro pins s σ H x vs v us Q I rx rv h
 obtain⟨l,xs,y,rfl,rfl,hH,hy,q⟩:=h
 cases rx
 have fH:=rv.zero
 subst fH
 obtain⟨z,its,n,r,hl,e⟩:=I.sQ hH
 obtain⟨u,hu,ru⟩:=r.get hy
 have YU:its.toArray[its.toArray.size-1]?=some u:=by
  show its.toArray[its.length-1]?=some u
  rw[← aeL,← hl]
  exact hu
 refine ada F.slot_list_pop ⟨_,e,rfl⟩ F.entry_list_pop (F.args_list_pop_1 _) (MeetsSeq.list_pop_last l its.toArray n u YU (by rw[aaw];omega)) ⟨e,?_⟩
 refine⟨y,_,I.AV (its':=its.dropLast) hH e ?_ r.dropLast ?_,ru,q⟩
 . show its.toArray.eraseIdxIfInBounds (its.toArray.size-1)=its.dropLast.toArray
   rw[aaw,List.eraseIdxIfInBounds_toArray,EH]
 . rw[List.length_dropLast]
   omega
noncomputable def O1:V->List V->Hp->VK->Prop:=λx vs H Q=>∃l xs,x=.ref l/\vs=[]/\H l=some (.lst xs)/\Q .aH (upd H l (.lst []))
theorem JO:uY X "list.clear" O1:=by
 intro pins s σ H x vs v us Q I rx rv h
 obtain⟨l,xs,rfl,rfl,hH,q⟩:=h
 cases rx
 have fH:=rv.zero
 subst fH
 obtain⟨z,its,n,r,hl,e⟩:=I.sQ hH
 refine ada F.slot_list_clear ⟨_,e,rfl⟩ F.entry_list_clear (F.args_list_clear_1 _) (AutoSeq1.list_clear_list_0 l its.toArray n (by rw[aaw];omega)) ⟨e,?_⟩
 exact⟨.aH,_,I.AV (its':=[]) (ys:=[]) hH e rfl .nil (abQ _),rfl,q⟩
noncomputable def XA:R2:=λx y H Q=>∃l b xs zs,x=.ref l/\y=.ref b/\H l=some (.lst xs)/\H b=some (.lst zs)/\xs.length+zs.length<=sizeLine/\∀p,H p=none->Q (.ref p) (upd H p (.lst (xs++zs)))
theorem jP:iP X (binaryOp .Add) XA:=by
 intro pins s σ H x y v u Q I rx ry h
 obtain⟨l,b,xs,zs,rfl,rfl,hH,hB,hz,q⟩:=h
 cases rx
 cases ry
 obtain⟨z,its,n,r,hl,e⟩:=I.sQ hH
 obtain⟨z2,vK,n2,r2,dw,e2⟩:=I.sQ hB
 refine PySem.P.add_list e e2 ?_ (by rw[aaw,aaw];omega)
 have ea:its.toArray++vK.toArray=(its++vK).toArray:=by simp
 rw[ea]
 exact⟨.ref _,_,I.EI (t':=s.toks) (r.append r2) (by rw[aaj];omega),rfl,q _ I.fresh⟩
end
section
variable {prog:Program}{w:World}{A:Around}{E:Value->Shared->Prop}{s:Shared}
theorem EJ{a c n:Nat}(Vg:a<=c)(hc:c<=n):sliceBounds (some (a:Int)) (some (c:Int)) none n=((a:Int),(c:Int),1):=by
 simp only[sliceBounds,aex]
 have h1:¬ ((a:Int)<0):=by omega
 have h2:¬ ((c:Int)<0):=by omega
 simp only[h1,h2,acN,show (1:Int)>0 by decide,ac9]
 congr 1
 . omega
 . congr 1;omega
set_option maxRecDepth 100000 in
theorem Ot{l b sl:Addr}{items new:Array Value}{n n2:Nat}{vl vu:Value}{a c:Nat}{Q:Unit->Shared->Prop}
 (e:s.heap.get? l=some {cls:=.type "list",data:=.seq items n}) (e2:s.heap.get? b=some {cls:=.type "list",data:=.seq new n2}) (ig:l≠b)
 (hs:s.heap.IsSliceOf sl vl vu .none) (pl:IsPart vl (some (a:Int))) (pu:IsPart vu (some (c:Int))) (Vg:a<=c) (hc:c<=items.size)
 (hsz:items.size+new.size<=sizeLine) (h:Q () {s with heap:=s.heap.update l (Obj.mapSeq λxs=>xs.extract 0 a++new++xs.extract c xs.size)}) :
 wpAny (model prog w) A (setItem (.ref l) (.ref sl) (.ref b)) Q E s:=by
 have hl:s.heap.IsList l items:=PySem.IsL.isList e
 have hb:s.heap.IsList b new:=PySem.IsL.isList e2
 obtain⟨os,LC,sR,O3⟩:=id hs
 have Vh:s.TypeIs (.ref sl) "slice":=⟨os,LC,sR⟩
 have EK:¬ ((rawPart none == rawInt 0)=true):=aat
 have EL:Builtin.List.listSameRef (.ref l) (.ref b)=false:=by
  unfold Builtin.List.listSameRef
  exact abr.mpr ig
 have XB:(max (a:Int) (c:Int)).toNat=c:=by omega
 have zm:((λxs:Array Value=>xs.extract 0 a++new++xs.extract c xs.size) items).size<=sizeLine+1:=by
  simp only[Array.size_append,Array.size_extract]
  omega
 unfold setItem
 try with_reducible refine abf ?_
 first|refine aac (aak ?_)|skip
 refine aac (wpAny_sequenceKey hl.typeIs (by decide) ?_)
 refine aac (aa5 (name:=Str.ofString "__setitem__") hl.typeIs slot_list_setitem
  (abk slot_list_setitem hl.typeIs entry_list_setitem ?_ (args_list_setitem _ _ _)))
 show wpAny _ _ (Builtin.List.listSubscript? (.ref sl) >>= _) _ _ s
 refine aac ?_
 unfold Builtin.List.listSubscript?
 refine aac (aeI Vh slice_no_index ?_)
 simp only[Option.isNone_none,ac9]
 refine aak ?_
 show wpAny _ _ (typeOf (.ref sl) >>= _) _ _ s
 refine aac (adn Vh ?_)
 first
  | rw[aay (by decide)]
  | refine W.KFB.if_not (by decide) ?_
 rw[listSliceParts_eq]
 refine aac (aac (aaY LC O3 (x:=.none) rfl (aac (aeR .none ?_))))
 rw[aay EK]
 refine aac (aaY LC O3 (x:=vl) rfl (aac (aeR pl ?_)))
 refine aac (aaY LC O3 (x:=vu) rfl (aac (aeR pu (aak ?_))))
 first
  | simp only[EL,acd,acN]
  | refine W.KFB.if_not EL ?_
  | (dsimp only
     rw[aay (by rw[EL];exact aat)])
 refine aac (m:=Builtin.List.listAllItems (.ref b) "must assign iterable to extended slice") ?_
 unfold Builtin.List.listAllItems
 refine aac (adn hb.typeIs ?_)
 first
  | refine W.KFB.if_so (by decide) ?_
  | rw[aaI (by decide)]
  | simp only[aey,Bool.true_or,ac9]
 unfold Builtin.List.listItems
 refine aac (aa3 e2 rfl (aak ?_))
 refine aac (aac (aa3 e rfl (aak ?_)))
 refine aac (wpAny_of_eq ((sliceIndices_raw (some (a:Int)) (some (c:Int)) none items.size (by simp)).trans (congrArg (pure:Int×Int×Int->Sem (Int×Int×Int)) (EJ Vg hc))) ?_)
 show wpAny _ _ (if ((1:Int) == 1)=true then _ else _) _ _ s
 rw[aaI (by decide)]
 refine aac (acX ?_)
 first
  | simp only[vJ hsz,acd,acN]
  | refine W.KFB.if_not (vJ hsz) ?_
 first|refine aac (aak ?_)|skip
 show wpAny _ _ (updateSeq l (λxs=>xs.extract 0 ((a:Int)).toNat++new++xs.extract (max (a:Int) (c:Int)).toNat xs.size) >>= _) _ _ s
 rw[XB,abS]
 refine aac (wpAny_updateSeq (hz:=aap (aa9 _ _) hsz) (_hz':=zm) e rfl ?_)
 refine aac (adb ?_)
 first
  | exact aac (aak (aak ⟨.none,rfl,aak h⟩))
  | exact aak ⟨.none,rfl,aak h⟩
end
section
variable {X:Cx}
end
end L2
namespace Vi
open PySem PySem.W PySem.Calls PyProof.Rows
theorem wH{P:Params}{h:Heap} : ∀(ns:List Int) (vs:List Value),WellAll P h vs (ns.map WData.int)->IntsAre vs ns:=by
 intro ns
 induction ns with
 | nil=>
  intro vs w
  rw[abY]at w
  cases w
  exact .nil
 | cons n ns ih=>
  intro vs w
  rw[aas]at w
  cases w with
  | cons a b=>
   cases a
   exact .cons _ _ (ih _ b)
theorem GG{l:OpenLaw}{n:Nat}(hn:l.most=some n){P:Params}{h:Heap}{args:List WData}{vals:List Value}
 (EM:l.row.toRowW.claim.pre args=true) (Dn:WellAll P h vals args) :
 ∃a vs ns,vals=[Value.ref a]/\args=[WData.list (ns.map WData.int)]/\h.get? a=some {cls:=.type "list",data:=.seq vs.toArray} /\ IntsAre vs ns/\ns.length<=n:=by
 have YV:WShape.hasAll [] args [.list .int]=true:=(pre_splitW EM).1
 have hc:l.pre.holds [] {args:=args} = true:=(pre_splitW EM).2
 obtain⟨d,r,rfl,h1,h2⟩:=hasAllW_cons YV
 obtain rfl:=hasAllW_nil h2
 obtain⟨xs,rfl,h3⟩:=hasW_list h1
 obtain⟨ns,rfl⟩:=items_int h3
 have hlen:ns.length<=n:=by
  unfold OpenLaw.pre at hc
  have h4:(WTm.not (.lt (.lit (.int (n:Int))) (.len (.arg 0)))).holds [] {args:=[.list (ns.map .int)] } = true:=by
   have h4:=(holds_andW hc).1
   rw[hn]at h4
   exact h4
  have h5:=condW_of h4 (w_not (w_lt w_lit (w_len_list (w_arg rfl))))
  rw[aaa]at h5
  refine Nat.le_of_not_lt λq=>?_
  have q':(n:Int)<((ns.length:Nat):Int):=by omega
  first
   | (rw[aaT q']at h5;exact absurd h5 (by decide))
   | (simp at h5;omega)
 cases Dn with
 | cons w1 w2=>
  cases w2
  cases w1 with
  | list ho gJ=>exact⟨_,_,ns,rfl,rfl,ho,wH ns _ gJ,hlen⟩
theorem GH(l:OpenLaw)(args:List WData):l.row.toRowW.claim.post args (.bool true) args=true:=
 postW_of (r:=l.row.toRowW) (X:=(true == true))
  (show WShape.has [] (.bool true) .bool=true by first|rfl|decide|simp[WShape.has,WShape.arms,WShape.armsAll])
  (show (WTm.eq .res (.lit (.bool true))).value [] {args:=args,res:=some (.bool true),after:=args} = some (.bool (true == true)) from w_eq_bool (w_res rfl) w_lit) rfl
theorem C2{l:OpenLaw}{n:Nat}{q:Program}{loose:List Str}{XP:(Str->Option Value)->Heap->Prop}{YP:World->Heap->Prop}{d:DefRec}
 (hn:l.most=some n) (AW:d.params.defaults=[])
 (call:∀(w:World) (mw eC:Shared) (mg mb:Str->Option Value) (fa:Addr) (o:Obj) (pm cd doc:Value) (a:Addr) (vs:List Value) (ns:List Int),
  Ground q loose [] XP w mw mg mb eC.heap->YP w eC.heap->
  eC.heap.get? fa=some o->o.data=.func (docDef d.name d.params d.body d.scope pm cd doc)->eC.heap.CodeRec cd d.name->mg d.name=some (.ref fa)->
  eC.heap.get? a=some {cls:=.type "list",data:=.seq vs.toArray} -> IntsAre vs ns->ns.length<=n->eC.gens = #[]->
  codeAny (model l.prog w) callerA (.call (.ref fa) ⟨[.ref a],[]⟩) (λr s'=>r=.ok (.ret (.bool true))/\OldK eC.heap s'.heap/\s'.os=eC.os/\AllBare s'.gens) eC) :
 WalkO q loose XP YP l.row.toRowW d [] (λf vs=>PySem.call f vs):=by
 intro w mw eC mg mb G Y fa o pm cd doc dV kV ho hd mx hD GI hg args vals as EM aei hrd Dn Vj
 obtain rfl:dV=.none:=Dflts.none hD AW
 obtain rfl:kV=.none:=Dflts.noKw hD
 obtain⟨a,vs,ns,rfl,rfl,JP,hints,hlen⟩:=GG hn EM Dn
 refine enter_call (adR (call w mw eC mg mb fa o pm cd doc a vs ns G Y ho (fd_plain hd) mx GI JP hints hlen hg) λr s' hq=>?_)
 obtain⟨rfl,h2,h3,h4⟩:=hq
 exact⟨.inl ⟨.bool true,.bool true,[],rfl,λ_=>rfl,.bool true,GH l _,λ_=>⟨List.Pairwise.nil,λ_ hm=>(nomatch hm)⟩⟩,h2,h3,h4⟩
section
variable {prog:Program}{w:World}{A:Around}{E:Value->Shared->Prop}{s:Shared}{K:Frag}
end
end Vi
namespace L2
open PySem PySem.Spec PyProof.Rows
theorem zo:∀{vs:List Value}{ns:List Int},IntsAre vs ns->Vals (ns.map V.int) vs
 | _,_,.nil=>.nil
 | _,_,.cons n t h=>.cons ⟨t,rfl⟩ (zo h)
noncomputable def JQ(H:Hp):Prop:=∀b,H b=none\/∃o xs,H b=some (.cj o (.lst xs))
theorem JR{P:Program}{w:World}{K:W.Frag}{mg mb:Str->Option Value}{CX:oa}{k:Nat}{fa a:Addr}{fd:FuncData}{x:Str}{sp:Sp}{eC:Shared}{vs:List Value}{ns:List Int}
 (KX:K.In eC.heap) (Vk:eC.heap.Ns mainGlobals mg) (hb:eC.heap.Ns builtinsNs mb) (YW:∀x:Str,x ≠ "__name__" -> mb x=bootBuiltins x) (XC:eC.heap.NoLimit) (hg:eC.gens = #[])
 (ha:eC.heap.get? a=some {cls:=.type "list",data:=.seq vs.toArray}) (hi:IntsAre vs ns) (hl:ns.length<=sizeLine) (hr:aW k callerA)
 (F:∀base:Heap,K.In base->base.Ns mainGlobals mg->aR P w K mg base CX k fa fd [x] sp) (Ui:∀(s:Shared) (u:Value),BindsTo s fd ⟨[u],[]⟩ [(x,u)])
 (mz:∀H:Hp,JQ H->aq K H a (ns.map V.int)->sp [.ref a] H (λv _=>v=.bl true) λ_ _ _=>False)
 (O4:∀H e s',CX [] H eC (λ_ _ _=>False) e s'->False) :
 codeAny (model P w) callerA (.call (.ref fa) ⟨[.ref a],[]⟩) (λr s'=>r=.ok (.ret (.bool true))/\OldK eC.heap s'.heap/\s'.os=eC.os/\AllBare s'.gens) eC:=by
 have rv:=zo hi
 have XD:=hi.length
 have core:∀H:Hp,JQ H->aq K H a (ns.map V.int)->gi P w H eC.heap->(∀b,H b≠none->b=a)->(H a≠none->K.lookup a=none)->
  codeAny (model P w) callerA (.call (.ref fa) ⟨[.ref a],[]⟩) (λr s'=>r=.ok (.ret (.bool true))/\OldK eC.heap s'.heap/\s'.os=eC.os/\AllBare s'.gens) eC:=by
  intro H hO hS hok hA hK
  have Dq:∀{b:Addr}{o:Obj},eC.heap.get? b=some o->H b=none->(qN eC.heap H).get? b=some o:=λe n=>Jv e n
  have Gy:∀{b:Addr}{o:Obj}{es:Array DictEntry}{ep:Nat},eC.heap.get? b=some o->o.data=.dict es ep->H b=none:=λ{b o es ep} e d=>by
   cases q:H b with
   | none=>rfl
   | some u=>
    have e':b=a:=hA b (by rw[q];simp)
    subst e'
    rw[ha]at e;cases e
    have d':Data.seq vs.toArray _=Data.dict es ep:=d
    cases d'
  have LD:∀{b:Addr}{m:Str->Option Value},eC.heap.Ns b m->(qN eC.heap H).Ns b m:=λ{b m} ⟨o,es,ep,e,d,r⟩=>⟨o,es,ep,Dq e (Gy e d),d,r⟩
  have Vl:K.In (qN eC.heap H):=λb o e=>Dq (KX b o e) (by
   cases q:H b with
   | none=>rfl
   | some u=>
    have e':b=a:=hA b (by rw[q];simp)
    subst e'
    rw[hK (by rw[q];simp)]at e;cases e)
  have hM:Mod K mg (qN eC.heap H):=⟨Vl,LD Vk,⟨mb,LD hb,YW⟩,let ⟨mc,h1,h2⟩:=XC; ⟨mc,LD h1,h2⟩⟩
  have e0:og P w K mg (qN eC.heap H) callerA [] eC H:=⟨rfl,hM,λb o e=>M8 e,abX (Ge _ _),trivial,λb hb=>absurd (show b∈([]:List Addr) from hb) (by simp),hok,.of_eq hg⟩
  refine adR ((F _ Vl (LD Vk)).run callerA [] eC H ⟨[.ref a],[]⟩ [.ref a] [.ref a] _ _ hr e0 (Ui eC (.ref a)) (.cons rfl .nil) (mz H hO hS)) λr s' h=>?_
  cases r with
  | error e=>exact(O4 H e s' h).elim
  | ok fl=>
   cases fl with
   | next=>exact False.elim h
   | brk=>exact False.elim h
   | cont=>exact False.elim h
   | ret u=>
    obtain⟨v,H',os,bare,un,XE,r',q⟩:=h
    have q':v=.bl true:=q
    subst q'
    obtain rfl:u=Value.bool true:=r'
    refine⟨rfl,OldK.of_keep λb o e=>?_,os,bare⟩
    cases q:H b with
    | none=>exact un.keep b o e q (by intro z;exact absurd (show b∈([]:List Addr) from z) (by simp)) (by simp)
    | some u=>
     rcases hO b with z|⟨ob,xs,z⟩
     . rw[q]at z;cases z
     . have z2:=un.frzs b ob _ z
       obtain⟨e1,_⟩:=hok b _ z
       obtain⟨e2,_⟩:=XE b _ z2
       rw[e]at e1;cases e1
       exact e2
 cases hk:K.lookup a with
 | some o=>
  have e:=KX a o hk
  rw[ha]at e
  cases e
  refine core (λ_=>none) (λ_=>.inl rfl) (.inr ⟨_,vs.toArray,_,hk,rfl,rfl,rfl,by rw[aaw,XD];exact hl,by simpa using rv⟩) (λb u z=>by have z':(none:Option HO)=some u:=z;cases z') (λb z=>absurd rfl z) λz=>absurd rfl z
 | none=>
  refine core (λb=>if b=a then some (.cj {cls:=.type "list",data:=.seq vs.toArray} (.lst (ns.map V.int))) else none) (λb=>?_) (.inl (.inr ⟨{cls:=.type "list",data:=.seq vs.toArray},aaI rfl⟩)) (λb u z=>?_) (λb z=>?_) λ_=>hk
  . by_cases hb:b=a
    . exact .inr ⟨_,_,aaI hb⟩
    . exact .inl (aay hb)
  . by_cases hb:b=a
    . have z':=(aaI hb).symm.trans z
      cases z'
      subst hb
      exact⟨ha,by rw[aaa];exact hl,vs,_,rv,ha⟩
    . have z':=(aay hb).symm.trans z
      cases z'
  . by_cases hb:b=a
    . exact hb
    . exact absurd (aay hb) z
theorem Nk{l:W.OpenLaw}{n k:Nat}{q:Program}{loose:List Str}{XP:(Str->Option Value)->Heap->Prop}{YP:World->Heap->Prop}{d:DefRec}{K:Params->W.Frag}{CX:World->oa}{sp:World->Sp}{x:Str}
 (hn:l.most=some n) (kA:n<=sizeLine) (AW:d.params.defaults=[]) (hr:aW k callerA)
 (hY:∀(w:World) (h:Heap),YP w h->(K w.params).In h)
 (F:∀(w:World) (mg:Str->Option Value) (fa:Addr) (h:Heap),(K w.params).In h->h.Ns mainGlobals mg->mg d.name=some (.ref fa)->
  ∃fd:FuncData,(∀(s:Shared) (u:Value),BindsTo s fd ⟨[u],[]⟩ [(x,u)])/\
   ∀base:Heap,(K w.params).In base->base.Ns mainGlobals mg->aR l.prog w (K w.params) mg base (CX w) k fa fd [x] (sp w))
 (mz:∀(w:World) (H:Hp) (a:Addr) (ns:List Int),ns.length<=n->JQ H->aq (K w.params) H a (ns.map V.int)->sp w [.ref a] H (λv _=>v=.bl true) λ_ _ _=>False)
 (O4:∀(w:World) (H:Hp) (s:Shared) (e:Value) (s':Shared),CX w [] H s (λ_ _ _=>False) e s'->False) :
 W.WalkO q loose XP YP l.row.toRowW d [] (λf vs=>PySem.call f vs):=by
 refine Vi.C2 hn AW λw mw eC mg mb fa o pm cd doc a vs ns G Y ho hd mx GI JP hints hlen hg=>?_
 have KX:=hY w _ Y
 obtain⟨fd,hb,hF⟩:=F w mg fa _ KX G.T.g GI
 exact JR KX G.T.g G.T.b G.T.builtins G.T.nolimit hg JP hints (aap hlen kA) hr hF hb (λH hO hS=>mz w H a ns hlen hO hS) λH e s'=>O4 w H eC e s'
noncomputable def inClass(s:Stmt)(j:Nat):Stmt:=match s with
 | .ClassDef _ _ _ body _ _ _ _ _ _ _=>body.getD j (.Pass ⟨0,0,0,0⟩)
 | _=>.Pass ⟨0,0,0,0⟩
noncomputable def jE(s:Stmt):Arguments:=match s with
 | .FunctionDef _ a _ _ _ _ _ _ _ _=>a
 | _=>{posonlyargs:=[],args:=[],vararg:=none,kwonlyargs:=[],kw_defaults:=[],kwarg:=none,defaults:=[] }
noncomputable def c8(s:Stmt):List Stmt:=match s with
 | .FunctionDef _ _ b _ _ _ _ _ _ _=>b
 | _=>[]
noncomputable def aw(s:Stmt):Scope:=match s with
 | .FunctionDef _ _ _ _ _ _ sc _ _ _=>sc
 | _=>{kind:=.function,names:=[],isGenerator:=false,isCoroutine:=false}
noncomputable abbrev aY:oa:=λ_ _ _ _ _ _=>False
noncomputable abbrev E0:XK:=λ_ _ _=>False
theorem bJ{X:Cx} : Passes aY X E0:=λ_ _ _ _ _ _ _ h=>h.elim
structure aO(K:W.Frag) (x qual:Str) (st:Stmt) (f:Addr) (fd:FuncData):Prop where
 ex:∃(oc:Value) (od:Option Addr) (kV doc pm:Value) (an:Option Addr) (cdv ct:Value) (sL:Array (Option Value)),
  fd=W.fnOf x qual (jE st) (c8 st) (aw st) .none kV doc pm an cdv ct/\K.lookup f=some ⟨oc,od,.func fd,sL⟩/\W.codeIn K cdv qual=true
 kp:W.keepIn K (.ref f)=true
section
variable {P:Program}{w:World}{K:W.Frag}{mg:Str->Option Value}{base:Heap}
theorem aO.ok{x qual:Str}{st:Stmt}{f:Addr}{fd:FuncData}{N ps:List Str}{k:Nat}{sp:Sp}(F:aO K x qual st f fd) (S:aK N ps (aw st)) (len:∀vs H Q E,sp vs H Q E->vs.length=ps.length)
 (kF:∀(cdv:Value) (A:Around) (outer:List Env) (s:Shared) (H:Hp) (vs:List V) (Q:VK) (E:XK),aW k (A.deeper (envOfC qual (aw st) s.heap.objs.size f cdv))->sp vs H Q E->
  ∃t,gj (jj aY P w K mg base N qual (aw st) f cdv A outer s H E).kz (c8 st) t/\t {nx:=λ_ H'=>Q .aH H',rt:=Q} (start N vs) H):aR P w K mg base aY (k+1) f fd ps sp:=by
 obtain⟨oc,od,kV,doc,pm,an,cdv,ct,sL,rfl,lk,mx⟩:=F.ex
 refine Ua lk mx S len λA outer s H vs Q E hr mz=>?_
 obtain⟨t,h,q⟩:=kF cdv A outer s H vs Q E hr mz
 exact⟨t,h.kz,q⟩
theorem aO.binds{x qual:Str}{st:Stmt}{f:Addr}{fd:FuncData}{ps:List Str}(F:aO K x qual st f fd)
 (h:∀(kV doc pm:Value) (an:Option Addr) (cdv ct:Value) (us:List Value),us.length=ps.length->bindArgs (W.fnOf x qual (jE st) (c8 st) (aw st) .none kV doc pm an cdv ct) ⟨us,[]⟩=pure (ps.zip us)):Binds K fd ps []:=by
 obtain⟨oc,od,kV,doc,pm,an,cdv,ct,sL,rfl,lk,mx⟩:=F.ex
 exact .all (h kV doc pm an cdv ct)
theorem O5{x qual:Str}{st:Stmt}{f:Addr}{oc:Value}{od an:Option Addr}{sL:Array (Option Value)}{kV doc pm cdv ct:Value}(l:K.lookup f=some ⟨oc,od,.func (W.fnOf x qual (jE st) (c8 st) (aw st) .none kV doc pm an cdv ct),sL⟩)
 (c:W.codeIn K cdv qual=true) (k:W.keepIn K (.ref f)=true):aO K x qual st f (W.fnOf x qual (jE st) (c8 st) (aw st) .none kV doc pm an cdv ct):=⟨⟨oc,od,kV,doc,pm,an,cdv,ct,sL,rfl,l,c⟩,k⟩
end
theorem dY{A:Around}{k:Nat}(hr:aW k A):A.units+1<cLine:=abK (acU (by decide:1<=64) _) hr.units
theorem zp{n:Nat}(h:n<=1000):n<sizeLine:=abK h (by decide)
section
variable {X:Cx}
theorem pv(i:Nat){x:Str}{pos:Pos}(hN:X.N[i]?=some x:=by rfl) (hv:OC X.env.scope x:=by first|exact Or.inl rfl|exact Or.inr (Or.inl rfl)|exact Or.inr (Or.inr rfl)) (hd:(x == ("__debug__" : Str))=false:=by decide)
 (mx:(x == ("__classdict__" : Str))=false:=by decide):PE X (.Name x pos) (cg i):=OE hN hv hd mx
end
theorem bu{A B:Prop}(h:B):if false=true then A else B:=by
 rw[aay aat]
 exact h
theorem dm{A B:Prop}(h:A):if true=true then A else B:=by
 rw[aaI rfl]
 exact h
theorem jN{c A B:Prop}[Decidable c] (h1:c->A) (h2:¬ c->B):if c then A else B:=by
 by_cases h:c
 . rw[aaI h]
   exact h1 h
 . rw[aay h]
   exact h2 h
noncomputable def ah(H H':Hp):Prop:=∀b o,H b=some o->H' b=some o
theorem ah.trans{H H1 H2:Hp}(a:ah H H1)(b:ah H1 H2):ah H H2:=λc o h=>b c o (a c o h)
theorem ah.free{H H':Hp}(e:ah H H'){l:Addr}(h:H' l=Option.none):H l=Option.none:=by
 cases q:H l with
 | none=>rfl
 | some o=>
  rw[e l o q]at h
  cases h
theorem ah.seq{K:W.Frag}{H H':Hp}{a:Addr}{xs:List V}(e:ah H H')(h:aq K H a xs):aq K H' a xs:=by
 rcases h with (h|⟨o,h⟩)|h
 . exact .inl (.inl (e _ _ h))
 . exact .inl (.inr ⟨o,e _ _ h⟩)
 . exact .inr h
section
variable {X:Cx}
theorem GJ:jb X (.builtin "len") (λxs H Q=>∃a kvs,xs=[V.ref a]/\H a=some (.dK kvs)/\Q (.int kvs.length) H):=by
 intro pins s σ H xs us Q I r h
 obtain⟨a,kvs,rfl,ha,q⟩:=h
 obtain⟨u,rfl,ru⟩:=vals1 r
 cases ru
 exact Uc I (.inl ha) λt s' I'=>⟨.int kvs.length,H,I',⟨t,rfl⟩,q⟩
end
end L2
set_option maxHeartbeats 4000000
namespace L2
open PySem PySem.Spec PyProof.Rows
theorem qS(f:Str×NameKind->List (Str×Addr)->Sem (ForInStep (List (Str×Addr))))
 (hf:∀n k cs,f (n,k) cs=if (k == NameKind.free)=true then (cellOf env n >>= λa=>pure (ForInStep.yield ((n,a)::cs))) else pure (ForInStep.yield cs)) :
 ∀(names:List (Str×NameKind)) (acc:List (Str×Addr)),(∀x∈names,x.2=NameKind.free->∃c,env.cells.lookup x.1=some c)->(∀x c,acc.lookup x=some c->env.cells.lookup x=some c)->
  ∃cl,forIn names acc f=(pure cl:Sem (List (Str×Addr)))/\(∀x c,cl.lookup x=some c->env.cells.lookup x=some c)/\(∀x c,acc.lookup x=some c->∃c',cl.lookup x=some c')/\∀x∈names,x.2=NameKind.free->∃c,cl.lookup x.1=some c
 | [],acc,_,ha=>⟨acc,by simp,ha,λx c e=>⟨c,e⟩,λx hx=>by simp at hx⟩
 | (n,k)::r,acc,hn,ha=>by
  have rP:∀x∈r,x.2=NameKind.free->∃c,env.cells.lookup x.1=some c:=λx hx=>hn x (aaL _ hx)
  cases hk:k == NameKind.free with
  | false=>
   obtain⟨cl,e,h1,h2,h3⟩:=qS f hf r acc rP ha
   refine⟨cl,?_,h1,h2,λx hx hz=>?_⟩
   . rw[abF,hf,hk,aay aat,pure_bind]
     exact e
   . rcases aan.mp hx with z|hx
     . subst z
       have zm:k=NameKind.free:=hz
       rw[zm]at hk
       exact absurd hk (by decide)
     . exact h3 x hx hz
  | true=>
   have lE:k=NameKind.free:=by cases k <;> first|rfl|exact absurd hk (by decide)
   obtain⟨c,hc⟩:=hn (n,k) aaX lE
   have bZ:env.cells.lookup n=some c:=hc
   obtain⟨cl,e,h1,h2,h3⟩:=qS f hf r ((n,c)::acc) rP (λx d ed=>by
    rw[acx]at ed
    cases hx:x == n with
    | true=>
     rw[hx]at ed
     rw[eq_of_beq hx,bZ]
     exact ed
    | false=>
     rw[hx]at ed
     exact ha x d ed)
   have mF:∃c',cl.lookup n=some c':=h2 n c (by rw[acx,aey])
   refine⟨cl,?_,h1,λx d ed=>?_,λx hx hz=>?_⟩
   . rw[abF,hf,hk,aaI rfl]
     unfold cellOf
     rw[bZ]
     rw[pure_bind,pure_bind]
     exact e
   . cases hx:x == n with
     | true=>
      rw[eq_of_beq hx]
      exact mF
     | false=>
      refine h2 x d ?_
      rw[acx,hx]
      exact ed
   . rcases aan.mp hx with z|hx
     . subst z
       exact mF
     . exact h3 x hx hz
theorem qe(h:∀x∈scope.names,x.2=NameKind.free->∃c,env.cells.lookup x.1=some c) :
 ∃cl,closureFor scope env=pure cl/\(∀x c,cl.lookup x=some c->env.cells.lookup x=some c)/\∀x∈scope.names,x.2=NameKind.free->∃c,cl.lookup x.1=some c:=by
 obtain⟨cl,e,h1,_,h3⟩:=qS (env:=env) (λp cs=>if (p.2 == NameKind.free)=true then (cellOf env p.1 >>= λa=>pure (ForInStep.yield ((p.1,a)::cs))) else pure (ForInStep.yield cs)) (λn k cs=>rfl) scope.names [] h (λx c z=>by simp at z)
 refine⟨cl,?_,h1,h3⟩
 have key:closureFor scope env=(forIn scope.names ([]:List (Str×Addr)) (λ(p:Str×NameKind) cs=>if (p.2 == NameKind.free)=true then (cellOf env p.1 >>= λa=>pure (ForInStep.yield ((p.1,a)::cs))) else pure (ForInStep.yield cs)) >>= λcs=>pure cs):=rfl
 rw[key,e,pure_bind]
theorem lookup_mem{names:List (Str×NameKind)}{x:Str}{k:NameKind}(h:names.lookup x=some k):(x,k)∈names:=by
 induction names with
 | nil=>simp at h
 | cons p r ih=>
  obtain⟨n,j⟩:=p
  rw[acx]at h
  cases hx:x == n with
  | true=>
   rw[hx]at h
   have e:j=k:=aaA h
   rw[eq_of_beq hx,e]
   exact aaX
  | false=>
   rw[hx]at h
   exact aaL _ (ih h)
noncomputable def pK(env:Env)(p:Str×NameKind):Str×NameKind:=if (p.2 == NameKind.free && env.scope.kind == .function && env.kindOf p.1 == some .cell) then (p.1,.cell) else p
theorem rS(scope:Scope)(env:Env):(relabel scope env).names=scope.names.map (pK env):=rfl
theorem pL:∀(names:List (Str×NameKind)) (x:Str),(names.map (pK env)).lookup x=(names.lookup x).map λk=>(pK env (x,k)).2
 | [],x=>rfl
 | (n,k)::r,x=>by
  rw[aas]
  have e1:(pK env (n,k)).1=n:=by unfold pK;split <;> rfl
  have:pK env (n,k)=(n,(pK env (n,k)).2):=Prod.ext e1 rfl
  rw[this,acx,acx]
  cases hx:x == n with
  | true=>
   rw[eq_of_beq hx]
   rfl
  | false=>exact pL r x
theorem JS(h:scope.names.lookup x=some .free):(relabel scope env).names.lookup x=some .cell\/(relabel scope env).names.lookup x=some .free:=by
 rw[rS,pL,h]
 unfold pK
 simp only[Option.map_some]
 split
 . exact .inl rfl
 . exact .inr rfl
theorem EN(h:(relabel scope env).names.lookup x=some .cell\/(relabel scope env).names.lookup x=some .free):scope.names.lookup x=some .free\/scope.names.lookup x=some .cell:=by
 rw[rS,pL]at h
 cases e:scope.names.lookup x with
 | none=>rw[e]at h;rcases h with h|h <;> cases h
 | some k=>
  rw[e]at h
  simp only[Option.map_some,Option.some.injEq]at h
  by_cases hf:k=.free
  . rw[hf];exact .inl rfl
  . have hb:(k == NameKind.free)=false:=by cases k <;> first|rfl|exact absurd rfl hf
    have:(pK env (x,k)).2=k:=by
     unfold pK
     simp[hb]
    rw[this]at h
    rcases h with h|h
    . rw[h];exact .inr rfl
    . exact absurd h hf
noncomputable def cY(X:Cx)(N:List Str)(scope:Scope) (cl:List (Str×Addr)) (C:Addr) (s:Shared) (H:Hp) (fp:List Addr) (pn:List (Addr×Obj)):Cx where
 prog:=X.prog
 w:=X.w
 K:=X.K
 mg:=X.mg
 base:=X.base
 A:=X.A
 N:=N
 mw:=s
 Ag:=H
 env:=compEnvC scope cl C X.env
 outer:=X.stack
 stack:=X.stack
 ex:=fp
 fn:=λ_=>false
 calm:=true
 pn:=pn
 xe:=λ_ _=>False
noncomputable abbrev zr(X:Cx)(N:List Str)(scope:Scope)(f:Str->Bool) (cl:List (Str×Addr)) (C:Addr) (s:Shared) (H:Hp) (fp:List Addr) (pn:List (Addr×Obj)):Cx:={cY X N scope cl C s H fp pn with fn:=f}
structure jk(X:Cx) (N:List Str) (js:List (Option Nat)) (scope:Scope) (ys:List Str:=[]):Prop where
 kind:scope.kind=.function
 one:(scope.names.filter λp=>p.2 == .cell).map (·.1)=ys
 at_:∀y∈scope.names,y.2=.local\/y.2=.cell->scope.names.lookup y.1=some y.2
 frees:∀y∈scope.names,y.2=.free->X.env.kindOf y.1=some .cell\/X.env.kindOf y.1=some .free
 len:js.length=N.length
 pull:∀(i j:Nat) (x:Str),js[i]?=some (some j)->N[i]?=some x->X.N[j]?=some x/\scope.names.lookup x=some .free
noncomputable def ij(xn:List Str) (names:List (Str×NameKind)):List Str->List (Option Nat)->Bool
 | [],[]=>true
 | _::N,none::js=>ij xn names N js
 | x::N,some j::js=>(match xn[j]? with|some y=>decide (y=x)|none=>false) && (match names.lookup x with|some .free=>true|_=>false) && ij xn names N js
 | _,_=>false
theorem qT:∀{N:List Str}{js:List (Option Nat)},ij xn names N js=true->js.length=N.length
 | [],[],_=>rfl
 | x::N,none::js,h=>by
  have:=qT (N:=N) (js:=js) (by simpa[ij]using h)
  simp[this]
 | x::N,some j::js,h=>by
  have h':ij xn names N js=true:=by
   simp only[ij,abg]at h
   exact h.2
  simp[qT h']
 | [],_::_,h=>by simp[ij]at h
 | _::_,[],h=>by simp[ij]at h
theorem sS:∀{N:List Str}{js:List (Option Nat)},ij xn names N js=true->∀(i j:Nat) (x:Str),js[i]?=some (some j)->N[i]?=some x->xn[j]?=some x/\names.lookup x=some .free
 | [],[],_,i,j,x,e,_=>by simp at e
 | y::N,none::js,h,i,j,x,e1,e2=>by
  cases i with
  | zero=>simp at e1
  | succ i=>
   exact sS (N:=N) (js:=js) (by simpa[ij]using h) i j x (by simpa using e1) (by simpa using e2)
 | y::N,some j'::js,h,i,j,x,e1,e2=>by
  simp only[ij,abg]at h
  obtain⟨⟨h1,h2⟩,h3⟩:=h
  cases i with
  | zero=>
   have ej:j'=j:=by simpa using e1
   have ey:y=x:=by simpa using e2
   subst ej ey
   constructor
   . cases q:xn[j']? with
     | none=>rw[q]at h1;cases h1
     | some z=>
      rw[q]at h1
      rw[abc h1]
   . cases q:names.lookup y with
     | none=>rw[q]at h2;cases h2
     | some k=>
      rw[q]at h2
      cases k <;> first|rfl|cases h2
  | succ i=>exact sS h3 i j x (by simpa using e1) (by simpa using e2)
 | [],_::_,h,_,_,_,_,_=>by simp[ij]at h
 | _::_,[],h,_,_,_,_,_=>by simp[ij]at h
noncomputable def isFn:ScopeKind->Bool
 | .function=>true
 | _=>false
noncomputable def sT(xn:List Str) (xs:List (Str×NameKind)) (N:List Str) (js:List (Option Nat)) (scope:Scope) (ys:List Str:=[]):Bool:=
 isFn scope.kind && decide ((scope.names.filter λp=>p.2 == .cell).map (·.1)=ys) && (scope.names.all λy=>match y.2 with
  | .cell=>(match scope.names.lookup y.1 with|some .cell=>true|_=>false)
  | .local=>(match scope.names.lookup y.1 with|some .local=>true|_=>false)
  | .free=>(match xs.lookup y.1 with|some .cell=>true|some .free=>true|_=>false)
  | _=>true) && ij xn scope.names N js
theorem jk.of(h:sT X.N X.env.scope.names N js scope ys=true):jk X N js scope ys:=by
 unfold sT at h
 simp only[abg,abP,aaV]at h
 obtain⟨⟨⟨h1,h0⟩,h2⟩,h3⟩:=h
 refine⟨?_,h0,λy hy e=>?_,λy hy e=>?_,qT h3,sS h3⟩
 . cases q:scope.kind <;> rw[q]at h1 <;> first|rfl|cases h1
 . have:=h2 y hy
   rcases e with e|e <;> rw[e]at this ⊢
   all_goals
    cases q:scope.names.lookup y.1 with
    | none=>rw[q]at this;cases this
    | some k=>rw[q]at this;cases k <;> first|rfl|cases this
 . have:=h2 y hy
   rw[e]at this
   show X.env.scope.names.lookup y.1=some .cell\/X.env.scope.names.lookup y.1=some .free
   cases q:X.env.scope.names.lookup y.1 with
   | none=>rw[q]at this;cases this
   | some k=>rw[q]at this;cases k <;> first|exact .inl rfl|exact .inr rfl|cases this
theorem jk.names(S:jk X N js scope ys):∀y∈scope.names,y.2=.local->scope.names.lookup y.1=some .local:=λy hy e=>by
 rw[S.at_ y hy (.inl e),e]
theorem jk.mem(S:jk X N js scope ys)(hy:y∈scope.names)(e:y.2=.cell):y.1∈ys:=by
 rw[← S.one]
 exact List.mem_map_of_mem (aaF.mpr ⟨hy,by rw[e];rfl⟩)
theorem jk.wI(S:jk X N js scope):∀y∈scope.names,y.2≠.cell:=λy hy e=>by cases S.mem hy e
noncomputable def qU(js:List (Option Nat)) (σ:St):St:=js.map λoj=>match oj with|none=>none|some j=>(σ[j]?).getD none
section
variable {X:Cx}{pins:List (Addr×Obj)}{σ:St}{H:Hp}{s:Shared}
theorem Inv.enter{f:Str->Bool}(I:Inv X pins σ H s)(S:jk X N js scope ys)(hc:X.calm=true)(nf:∀x,scope.names.lookup x=some .free->f x=false)(one:∀x z,f x=true->f z=true->x=z)
 (i4:∀x c,cl.lookup x=some c->(f x=true/\c=C+1/\h'.IsCell c none)\/(f x=false/\X.env.cells.lookup x=some c)) (GK:∀x,scope.names.lookup x=some .free\/scope.names.lookup x=some .cell->∃c,cl.lookup x=some c) (hC:C=s.heap.objs.size)
 (hf:∀b∈fp,iU X pins H b) (hl:∀b∈fp,b<s.heap.objs.size) (hn:h'.Ns C m) (k:∀b o,s.heap.get? b=some o->h'.get? b=some o) :
 Inv (zr X N scope f cl C s H fp (X.pn++pins)) [] (qU js σ) H {s with heap:=h',toks:=tk}:=by
 have lt:∀b o,s.heap.get? b=some o->b≠C:=λb o e=>by
  rw[hC]
  exact aax (aam e)
 have Vm:∀x c,X.env.cells.lookup x=some c->c≠C+1:=λx c e=>by
  obtain⟨v,o,ho,_⟩:=I.cell x c e
  rw[hC]
  exact aax (ab6 (aam ho))
 have stk:∀b,b≠X.env.locals->b∉X.fs->b∉rN X.stack:=λb h1 h2 z=>(aan.mp (I.sy b z)).elim h1 h2
 have ok:(zr X N scope f cl C s H fp (X.pn++pins)).Ok:=by
  refine⟨I.ok.mod,S.kind,I.ok.glob,I.ok.blt,abX hC.symm,λx z c e1 e2=>?_,λx hx=>GK x (EN hx),λx c e e1=>?_,λ_=>I.ok.hd hc,
   I.ok.frames,.inl rfl,λb hb=>⟨?_,λx c e=>?_⟩,I.bs,aap I.ok.bsz I.sz,λb o e hb=>?_,λb hb=>stk b (hf b hb).2.1 (hf b hb).2.2.1,I.stack,I.Dc⟩
  . rcases i4 x c e1 with⟨r1,r2,_⟩|⟨r1,r2⟩ <;> rcases i4 z c e2 with⟨q1,q2,_⟩|⟨q1,q2⟩
    . exact one x z r1 q1
    . exact absurd r2 (Vm z c q2)
    . exact absurd q2 (Vm x c r2)
    . exact I.ok.inj x z c r2 q2
  . rcases i4 x c e1 with⟨_,r2,_⟩|⟨r1,_⟩
    . rw[r2,hC];exact acT _
    . rw[show f x=true from e]at r1;cases r1
  . show b≠C
    rw[hC]
    exact aax (hl b hb)
  . rcases i4 x c e with⟨_,r2,_⟩|⟨_,r2⟩
    . rw[r2,hC];exact aa0 (ab6 (hl b hb))
    . exact(hf b hb).2.2.2.2.1 x c r2
  . rcases (hf b hb).2.2.2.1 with z|z
    . exact I.ok.noex b o e z
    . exact absurd (aaP (aam e) (aap I.ok.bsz z)) (aby _)
 refine⟨ok,rfl,I.bare,Un.kept k,⟨m,hn,λi x v e1 e2 e3=>?_⟩,λx c e=>?_,?_,λx c e=>?_,λp hp=>?_,I.hok.kept k,?_⟩
 . -- a name that the block closes over
   have uZ:(qU js σ)[i]?=some (some v):=e2
   unfold qU at uZ
   rw[aal]at uZ
   cases q:js[i]? with
   | none=>rw[q]at uZ;cases uZ
   | some oj=>
    rw[q]at uZ
    cases oj with
    | none=>cases uZ
    | some j=>
     have ev:(σ[j]?).getD none=some v:=aaA uZ
     have YX:σ[j]?=some (some v):=by
      cases z:σ[j]? with
      | none=>rw[z]at ev;cases ev
      | some o=>rw[z]at ev;exact congrArg some ev
     obtain⟨n1,n2⟩:=S.pull i j x q e1
     obtain⟨c,bZ⟩:=GK x (.inl n2)
     have YY:X.env.cells.lookup x=some c:=by
      rcases i4 x c bZ with⟨z,_⟩|⟨_,z⟩
      . rw[nf x n2]at z;cases z
      . exact z
     obtain⟨m0,_,wK⟩:=I.loc
     have kx:=S.frees (x,.free) (lookup_mem n2) rfl
     have Vn:X.env.kindOf x=some .cell\/X.env.kindOf x=some .free:=kx
     obtain⟨u,ru,lk⟩:=wK j x v n1 YX (Vn.elim (λz=>.inr (.inl z)) λz=>.inr (.inr z))
     refine⟨u,ru,.inr ⟨JS n2,c,bZ,?_⟩⟩
     rcases lk with⟨kl,_⟩|⟨_,c2,e2,ic⟩
     . rcases Vn with z|z <;> (rw[kl]at z;cases z)
     . rw[YY]at e2
       cases e2
       obtain⟨o,ho,hd⟩:=ic
       exact⟨o,k c o ho,hd⟩
 . rcases i4 x c e with⟨_,_,r2⟩|⟨_,r2⟩
   . exact⟨none,r2⟩
   . obtain⟨v,o,ho,hd⟩:=I.cell x c r2
     exact⟨v,o,k c o ho,hd⟩
 . show H C=none
   rw[hC]
   exact I.hok.fresh (aah _)
 . rcases i4 x c e with⟨_,r2,_⟩|⟨_,r2⟩
   . rw[r2,hC];exact I.hok.fresh (acT _)
   . exact I.freeC x c r2
 . have GN:p∈X.pn++pins:=by simpa[cY]using hp
   obtain⟨e,n,ne,nf,d⟩:=I.pin p GN
   exact⟨k _ _ e,n,lt _ _ e,stk _ ne nf,d⟩
 . show (qU js σ).length=N.length
   unfold qU
   rw[aaa]
   exact S.len
theorem Inv.left{f:Str->Bool}(I:Inv X pins σ H s)(hf:∀b∈fp,iU X pins H b)
 (J:Inv (zr X N scope f cl C s H fp pn) [] σc H' s'):Inv X pins σ H' s':=
 I.TX (ch:=fp) J.os J.base J.hok J.bare λb hb=>⟨(hf b hb).2.2.2.1,(hf b hb).2.1,(hf b hb).2.2.2.2.1,(hf b hb).2.2.2.2.2⟩
end
noncomputable def sU(X:Cx)(ifs:List Expr)(t:TT):Prop:=
 ∀(pins:List (Addr×Obj)) (s:Shared) (σ:St) (H:Hp) (Q:Bool->Hp->Prop),Inv X pins σ H s->t σ H Q->
  wpAny (model X.prog X.w) X.A (forIn ifs true λc r=>if r=true then do let ok ← isTrue c X.env (eval c X.env);pure (ForInStep.yield ok) else pure (ForInStep.yield r)) (TP X pins σ Q) X.xe s
noncomputable def vL:TT:=λ_ H Q=>Q true H
theorem bb:sU X [] vL:=λpins s σ H Q I h=>by
 rw[ab5]
 exact aak ⟨H,I,h⟩
theorem jZ(hc:PT X c t):sU X [c] t:=λpins s σ H Q I h=>by
 rw[abF]
 refine aac ?_
 rw[aaI rfl]
 refine aac (aD (hc pins s σ H Q I h) λb s1 h1=>?_)
 refine aak ?_
 show wpAny _ _ (forIn [] b _) _ _ _
 rw[ab5]
 exact aak h1
theorem sV(I:Nat->Shared->Prop)
 (turn:∀n s,I n s->wpAny (model prog w) A (pyNext it) (λr eC=>match r with
  | none=>R (.ok .next) eC
  | some v=>wpAny (model prog w) A (letOwnedTupleGo target it v) (λ_ LF=>wpAny (model prog w) A (assign target env v) (λ_ uT=>
   wpAny (model prog w) A (forIn ifs true λc r=>if r=true then do let ok ← isTrue c env (eval c env);pure (ForInStep.yield ok) else pure (ForInStep.yield r)) (λok AK=>
    if ok=true then wpAny (model prog w) A (eval elt env) (λx O6=>
     wpAny (model prog w) A (call (.builtin "list.append") [acc,x]) (λ_ O7=>∃m,m<n/\I m O7) (λ_ _=>False) O6) (λ_ _=>False) AK
    else ∃m,m<n/\I m AK) (λ_ _=>False) uT) (λ_ _=>False) LF) (λ_ _=>False) eC) (λ_ _=>False) s)
 (n:Nat) (h:I n s) :
 codeAny (model prog w) A (.compLoop (.ListComp elt [⟨target,iter,ifs,0⟩] scope pos) 0 it acc env) R s:=by
 refine codeAny_loop rfl I (λn s hI=>?_) n h
 show wpAny _ A ((compTurn (.ListComp elt [⟨target,iter,ifs,0⟩] scope pos) 0 it acc env).onRaise (λx=>do noteFrame x env;theTreesLotGoes x)) _ _ s
 refine wpAny_noted ?_
 rw[compTurn_list]
 refine aac (ad9 (aac (abG (turn n s hI) (λr eC h₁=>?_) λ_ _ h'=>h'.elim)))
 cases r with
 | none=>exact aak h₁
 | some v=>
  refine aac (abG h₁ (λ_ LF YZ=>?_) λ_ _ h'=>h'.elim)
  refine aac (abG YZ (λ_ uT kK=>aac (abG kK (λok AK kO=>?_) λ_ _ h'=>h'.elim)) λ_ _ h'=>h'.elim)
  cases ok with
  | false=>exact aak ⟨rfl,kO⟩
  | true=>
   exact aac (aac (abG kO (λx O6 sv=>aac (abG sv (λ_ O7 gz=>aak (aak ⟨rfl,gz⟩)) λ_ _ h'=>h'.elim)) λ_ _ h'=>h'.elim))
noncomputable def rT(D:Addr)(g:TG)(ti:TT)(te:TE)(J:It)(W:Nat->Nat->St->Hp->Prop)(Q:Hp->Prop):Prop:=∀i m σ H,W i m σ H->
 (J.stop i H/\Q H)\/(J.go i H/\∀x H',J.yld i H x H'->g x σ H' λgk H2=>ti gk H2 λb H3=>
  if b=true then te gk H3 λy H4=>∃acc,H4 D=some (.lst acc)/\acc.length<sizeLine/\∃m',m'<m/\W (i+1) m' gk (upd H4 D (.lst (acc++[y])))
  else ∃m',m'<m/\W (i+1) m' gk H3)
noncomputable def GO(js:List (Option Nat)) (wi:TI) (g:TG) (ti:TT) (te:TE):TE:=λσ H Q=>wi σ H λJ H1=>∀D,H1 D=none->
 ∃W:Nat->Nat->St->Hp->Prop,(∃m,W 0 m (qU js σ) (upd H1 D (.lst [])))/\rT D g ti te J W (λH'=>Q (.ref D) H')
section
variable {X:Cx}{N:List Str}{js:List (Option Nat)}{scope:Scope}{elt tg iter:Expr}{ifs:List Expr}{pos:Pos}{wi:TI}{g:TG}{ti:TT}{te:TE}
noncomputable def Vo(X:Cx) (pins:List (Addr×Obj)) (σ:St) (Q:VK) (use:Option (Value->Sem Unit)) (R:Value->Shared->Prop):Prop:=
 ∀D C (H':Hp) (s':Shared),Inv X pins σ H' s'->(∃m,s'.heap.Ns C m)->H' C=none->C≠X.env.locals->(C∈X.ex\/X.mw.heap.objs.size<=C)->(∀x c,X.env.cells.lookup x=some c->c≠C)->(∀p∈X.pn++pins,p.1≠C)->Q (.ref D) H'->
  compPost (model X.prog X.w) X.A X.xe use R (.ref D) C (.ok .next) s'
noncomputable def GQ(X:Cx)(elt tg iter:Expr)(ifs:List Expr)(scope:Scope)(pos:Pos)(t:TE):Prop:=∀(pins:List (Addr×Obj)) (s:Shared) (σ:St) (H:Hp) (Q:VK) (use:Option (Value->Sem Unit)) (R:Value->Shared->Prop),Inv X pins σ H s->t σ H Q->Vo X pins σ Q use R->
 wpAny (model X.prog X.w) X.A (comprehension (.ListComp elt [⟨tg,iter,ifs,0⟩] scope pos) scope X.env (firstIterPos [⟨tg,iter,ifs,0⟩] pos) (newList []) false (eval iter X.env) use) R X.xe s
theorem Uj{f:Str->Bool}(hg:∀cl C s H fp pn,PG (zr X N scope f cl C s H fp pn) tg g) (ht:∀cl C s H fp pn,sU (zr X N scope f cl C s H fp pn) ifs ti) (he:∀cl C s H fp pn,PE (zr X N scope f cl C s H fp pn) elt te)
 (I3:Inv X pins σ H3 s3) (f3:∀b∈fp,iU X pins H3 b) (hC:C=s3.heap.objs.size) (Y0:∀b∈fp,b<s3.heap.objs.size) (i4:∀x c,cl.lookup x=some c->∀b∈fp,c≠b)
 (I4:Inv (zr X N scope f cl C s3 H3 fp (X.pn++pins)) [] σ4 H3 s4) (T:Turn X.prog X.w X.K tg J fp it tn) (AX:tn 0 s4.heap) (w0:W 0 m0 σ4 H3) (turn:rT D g ti te J W (λH'=>Q (.ref D) H')) (hR:Vo X pins σ Q use R) :
 codeAny (model X.prog X.w) X.A (.compLoop (.ListComp elt [⟨tg,iter,ifs,0⟩] scope pos) 0 (.ref it) (.ref D) (compEnvC scope cl C X.env)) (compPost (model X.prog X.w) X.A X.xe use R (.ref D) C) s4:=by
 generalize hY:zr X N scope f cl C s3 H3 fp (X.pn++pins)=Y at I4
 have fY:∀{H':Hp},(∀b∈fp,H' b=none)->∀b∈fp,iU Y [] H' b:=λhn b hb=>by
  obtain⟨f0,fa,fb,fc,fd,fe⟩:=f3 b hb
  subst hY
  refine⟨hn b hb,?_,λz=>(aan.mp (I3.sy b z)).elim fa fb,.inl hb,λx c e=>i4 x c e b hb,λp hp=>fe p (by simpa[cY]using hp)⟩
  show b≠C
  rw[hC]
  exact aax (Y0 b hb)
 obtain⟨e1,e2,e3,e4,e5,e6,e7⟩:Y.prog=X.prog/\Y.w=X.w/\Y.A=X.A/\Y.env=compEnvC scope cl C X.env/\(Y.xe=λ_ _=>False)/\Y.K=X.K/\Y.calm=true:=by subst hY;exact⟨rfl,rfl,rfl,rfl,rfl,rfl,rfl⟩
 refine sV (λn s'=>∃i br H',Inv Y [] br H' s'/\tn i s'.heap/\(∀b∈fp,H' b=none)/\W i n br H') ?_ m0 ⟨0,_,_,I4,AX,λb hb=>(f3 b hb).1,w0⟩
 rintro n s5 ⟨i,EO,H5,I5,pZ,wt,w5⟩
 rcases turn i n EO H5 w5 with⟨stop,qn⟩|⟨go,step⟩
 . have t:=T.done Y e1 e2 e6 e7 i [] s5 EO H5 (λ_ _=>False) I5 (fY wt) pZ stop
   subst hY
   refine aD t λr s6 z=>?_
   obtain⟨hr,I6⟩:=z
   subst hr
   have n:∀b o,s3.heap.get? b=some o->b≠C:=λb o e=>by
    rw[hC]
    exact aax (aam e)
   refine hR D C H5 s6 (I3.left f3 I6) (let ⟨m,hn,_⟩:=I6.loc; ⟨m,hn⟩) I6.free ?_ (.inr ?_) (λx c e=>?_) (λp hp=>?_) qn
   . rw[hC]
     exact aa0 I3.lt
   . rw[hC];exact I3.sz
   . obtain⟨v,o,ho,_⟩:=I3.cell x c e
     exact n _ _ ho
   . exact n _ _ (I3.pin p hp).1
 . have t:=T.item Y e1 e2 e6 e7 i [] s5 EO H5 (λ_ _=>False) I5 (fY wt) pZ go
   have hg:=hg cl C s3 H3 fp (X.pn++pins)
   have ht:=ht cl C s3 H3 fp (X.pn++pins)
   have he:=he cl C s3 H3 fp (X.pn++pins)
   rw[hY]at hg ht he
   rw[e3]at t
   refine aD t λr s6 z=>?_
   obtain⟨u,hr,h6⟩:=z
   subst hr
   refine aD h6 λ_ s7 z=>?_
   obtain⟨x,H7,I7,r7,y7,AY,O8⟩:=z
   have O9:=I7.pinned (fY O8) (T.obj _ _ AY)
   have again:∀{n':Nat}{sW:St}{H8:Hp}{s8:Shared},Inv Y ([]++nX fp s7.heap) sW H8 s8->n'<n->W (i+1) n' sW H8->
    ∃m,m<n/\∃i br H',Inv Y [] br H' s8/\tn i s8.heap/\(∀b∈fp,H' b=none)/\W i m br H':=λ{n' sW H8 s8} I8 hm w8=>by
    refine⟨n',hm,i+1,sW,H8,I8.jh,T.keep _ _ _ AY λb hb o e=>(I8.pin (b,o) (aaG _ (aaG _ (hX hb e)))).1,λb hb=>?_,w8⟩
    obtain⟨o,e,d⟩:=T.obj _ _ AY b hb
    exact(I8.pin (b,o) (aaG _ (aaG _ (hX hb e)))).2.1
   have g7:=hg _ s7 EO H7 x u _ O9 r7 (step x H7 y7)
   rw[e1,e2,e3,e4,e5]at g7
   refine aD g7 λ_ s8 z=>?_
   obtain⟨sW,H8,I8,q8⟩:=z
   have g8:=ht _ s8 sW H8 _ I8 q8
   rw[e1,e2,e3,e4,e5]at g8
   refine aD g8 λok s9 z=>?_
   obtain⟨H9,I9,q9⟩:=z
   cases ok with
   | false=>
    rw[aay aat]at q9 ⊢
    obtain⟨m',hm,w9⟩:=q9
    exact again I9 hm w9
   | true=>
    rw[aaI rfl]at q9 ⊢
    have g9:=he _ s9 sW H9 _ I9 q9
    rw[e1,e2,e3,e4,e5]at g9
    refine aD g9 λyv wL z=>?_
    obtain⟨y,GR,Pa,Pb,acc,hD,hl,m',hm,Dr⟩:=z
    have Vp:=cJ (X:=Y) _ wL sW GR (.ref D) [y] (.ref D) [yv] (λ_ H'=>H'=upd GR D (.lst (acc++[y]))) Pa rfl (.cons Pb .nil) ⟨D,acc,y,rfl,rfl,hD,hl,rfl⟩
    rw[e1,e2,e3,e5]at Vp
    refine aD Vp λ_ rV z=>?_
    obtain⟨_,Y1,Pc,_,Ds⟩:=z
    subst Ds
    exact again Pc hm Dr
theorem GU(S:jk X N js scope)(hc:X.calm=true)(hi:PI X tg iter wi)
 (hg:∀cl C s H fp pn,PG (cY X N scope cl C s H fp pn) tg g) (ht:∀cl C s H fp pn,sU (cY X N scope cl C s H fp pn) ifs ti) (he:∀cl C s H fp pn,PE (cY X N scope cl C s H fp pn) elt te)
 (hs:∀x,foldedSetIterable iter X.env x=pure x):GQ X elt tg iter ifs scope pos (GO js wi g ti te):=by
 intro pins s σ H Q use R I h hR
 obtain⟨cl,ER,i4,Pd⟩:=qe (scope:=scope) (env:=X.env) λx hx hk=>I.ok.has x.1 (S.frees x hx hk)
 refine ad3 (use:=use) rfl hs ER S.kind S.names (aD (hi pins s σ H _ I h) λxv s1 h1=>aD h1 λGj s2 h2=>?_)
 obtain⟨it,fp,tn,J,H2,e,I2,T,jI,f2,q2⟩:=h2
 subst e
 refine ach (wpAny_newFunctionEnv S.wI (by intro y hy;simp at hy) (λh₁ x3 x5=>?_) S.kind)
 dsimp only at x3 x5 ⊢
 have I3:Inv X pins σ (upd H2 s2.heap.objs.size (.lst [])) {s2 with heap:=s2.heap.push {cls:=.type "list",data:=.seq ([]:List Value).toArray},toks:=s2.toks}:=I2.EI .nil (by show 0<=sizeLine;decide)
 have lt2:∀b∈fp,b<s2.heap.objs.size:=λb hb=>let ⟨o,e,_⟩:=T.obj _ _ jI b hb;aam e
 have f3:∀b∈fp,iU X pins (upd H2 s2.heap.objs.size (.lst [])) b:=λb hb=>⟨by rw[ai (aax (lt2 b hb))];exact(f2 b hb).1,(f2 b hb).2⟩
 obtain⟨W,⟨m0,w0⟩,turn⟩:=q2 s2.heap.objs.size (I2.hok.fresh (aah _))
 have k1:∀b o,(s2.heap.push {cls:=.type "list",data:=.seq ([]:List Value).toArray}).get? b=some o->h₁.get? b=some o:=λb o e=>x5.extBut b o (aax (aam e)) (aad _ e)
 have l3:∀b∈fp,b<(s2.heap.push {cls:=.type "list",data:=.seq ([]:List Value).toArray}).objs.size:=λb hb=>by rw[abn];exact ab6 (lt2 b hb)
 have AX:tn 0 h₁:=T.keep _ _ _ jI λb hb o e=>k1 b o (aad _ e)
 have I4:=I3.enter (f:=λ_=>false) (h':=h₁) (tk:=s2.toks+([]:List (Str×Value)).length) S hc (λ_ _=>rfl) (λ_ _ e=>by cases e) (λx c e=>.inr ⟨rfl,i4 x c e⟩) (λx hx=>hx.elim (λe=>Pd _ (lookup_mem e) rfl) λe=>absurd rfl (S.wI _ (lookup_mem e))) rfl f3 l3 x3 k1
 have loop:=Uj (f:=λ_=>false) (iter:=iter) (pos:=pos) hg ht he I3 f3 rfl l3 (λx c e b hb=>(f3 b hb).2.2.2.2.1 x c (i4 x c e)) I4 T AX w0 turn hR
 exact codeAny_compStart_list loop (T.self _ 0 _ _ _ AX loop)
theorem GQ.pe(h:GQ X elt tg iter ifs scope pos t):PE X (.ListComp elt [⟨tg,iter,ifs,0⟩] scope pos) t:=by
 intro pins s σ H Q I q
 rw[eval_ListComp]
 refine h pins s σ H Q none _ I q ?_
 rintro D C H' s' I' ⟨m,hn⟩ c1 c2 c3 c4 c5 q
 exact⟨m,hn,λh' GW=>⟨.ref D,H',I'.turned (t':=s'.toks) (λb o hb e=>GW.extBut b o hb e) c1 c2 c3 c4 c5,rfl,q⟩⟩
theorem GQ.ps(h:GQ X elt tg iter ifs scope pos t)(hN:X.N.Nodup)(u0:X.N[i]?=some x)(hx:X.env.scope.names.lookup x=some .local)
 (AZ:swapsWith (.ListComp elt [⟨tg,iter,ifs,0⟩] scope pos) (some (.Name x pos')) JU.line X.env=pure true):PS X (.Assign [.Name x pos'] (.ListComp elt [⟨tg,iter,ifs,0⟩] scope pos) JU) (sD t (cv i)):=by
 intro pins s σ H D I q
 rw[exec_Assign_Name_used _ _ _ _ AZ]
 refine aac (ad9 (aac ?_))
 show wpAny _ X.A (do let _ ← comprehension (.ListComp elt [⟨tg,iter,ifs,0⟩] scope pos) scope X.env _ (newList []) false (eval iter X.env) (some (assign (.Name x pos') X.env))) _ _ s
 refine aac (aD (h pins s σ H _ (some (assign (.Name x pos') X.env)) (λ_ s'=>SP X pins D .next s') I q ?_) λ_ s' hq=>aak (aak hq))
 rintro Dd C H' s' I' ⟨m,hn⟩ c1 c2 c3 c4 c5 q
 show wpAny _ X.A (assign (.Name x pos') X.env (.ref Dd)) _ _ _
 refine wpAny_assign_Name (yZ I' hN u0 (.inl hx) (v:=.ref Dd) rfl (λGx Y2 ⟨a,sb,ha⟩=>?_) (.inr hx))
 have ea:a≠C:=by
  rcases ha with ha|ha
  . rw[ha]
    exact aav c2
  . exact c4 x a ha
 exact⟨m,hn.sameBut sb (aav ea),λh' GW=>⟨_,_,Y2.turned (t':=Gx.toks) (λb o hb e=>GW.extBut b o hb e) c1 c2 c3 c4 c5,q⟩⟩
theorem dZ(S:sT X.N X.env.scope.names N js scope=true)(hc:X.calm=true)(hi:PI X tg iter wi)
 (hg:∀cl C s H fp pn,PG (cY X N scope cl C s H fp pn) tg g) (ht:∀cl C s H fp pn,sU (cY X N scope cl C s H fp pn) ifs ti) (he:∀cl C s H fp pn,PE (cY X N scope cl C s H fp pn) elt te)
 (hs:∀x,foldedSetIterable iter X.env x=pure x:=by intro _;rfl):PE X (.ListComp elt [⟨tg,iter,ifs,0⟩] scope pos) (GO js wi g ti te):=(GU (.of S) hc hi hg ht he hs).pe
theorem nL(hN:X.N.Nodup)(u0:X.N[i]?=some x)(hx:X.env.scope.names.lookup x=some .local)(S:sT X.N X.env.scope.names N js scope=true)(hc:X.calm=true)(hi:PI X tg iter wi)
 (hg:∀cl C s H fp pn,PG (cY X N scope cl C s H fp pn) tg g) (ht:∀cl C s H fp pn,sU (cY X N scope cl C s H fp pn) ifs ti) (he:∀cl C s H fp pn,PE (cY X N scope cl C s H fp pn) elt te)
 (AZ:swapsWith (.ListComp elt [⟨tg,iter,ifs,0⟩] scope pos) (some (.Name x pos')) JU.line X.env=pure true:=by rfl)
 (hs:∀x,foldedSetIterable iter X.env x=pure x:=by intro _;rfl):PS X (.Assign [.Name x pos'] (.ListComp elt [⟨tg,iter,ifs,0⟩] scope pos) JU) (sD (GO js wi g ti te) (cv i)):=(GU (.of S) hc hi hg ht he hs).ps hN u0 hx AZ
end
noncomputable def GX(D:Addr)(n:Nat)(Pv:Nat->List V->St->Hp->Prop):Nat->Nat->St->Hp->Prop:=λi m σ H=>i<=n/\m=n-i/\∃acc,H D=some (.lst acc)/\Pv i acc σ H
theorem dJ(hi:i<n) (hD:H D=some (.lst acc)) (hp:Pv (i+1) acc σ H):∃m',m'<n-i/\GX D n Pv (i+1) m' σ H:=
 ⟨n-(i+1),by lia,hi,rfl,acc,hD,hp⟩
theorem iW(n:Nat)(Pv:Nat->List V->St->Hp->Prop)(h0:Pv 0 [] Uk H0) (Y3:H0 D=some (.lst []))
 (fin:∀acc σ H,H D=some (.lst acc)->Pv n acc σ H->J.stop n H/\Q H)
 (step:∀i acc σ H,i<n->H D=some (.lst acc)->Pv i acc σ H->J.go i H/\∀x H',J.yld i H x H'->g x σ H' λgk H2=>ti gk H2 λb H3=>
  if b=true then te gk H3 λy H4=>∃acc,H4 D=some (.lst acc)/\acc.length<sizeLine/\∃m',m'<n-i/\GX D n Pv (i+1) m' gk (upd H4 D (.lst (acc++[y]))) else ∃m',m'<n-i/\GX D n Pv (i+1) m' gk H3) :
 ∃W:Nat->Nat->St->Hp->Prop,(∃m,W 0 m Uk H0)/\rT D g ti te J W Q:=by
 refine⟨GX D n Pv,⟨n,abQ _,rfl,[],Y3,h0⟩,?_⟩
 rintro i m σ H ⟨hi,rfl,acc,hD,hp⟩
 rcases ae7 i n with h|h
 . exact .inr (step i acc σ H h hD hp)
 . have e:i=n:=Nat.le_antisymm hi h
   subst e
   exact .inl (fin acc σ H hD hp)
section
variable {X:Cx}{pins:List (Addr×Obj)}{σ:St}{H:Hp}{s:Shared}{h':Heap}
theorem Inv.x6{t':Nat}{fp:List Addr}(I:Inv X pins σ H s)(hf:∀b∈fp,iU X pins H b)(k:∀b o,b∉fp->s.heap.get? b=some o->h'.get? b=some o):Inv X pins σ H {s with heap:=h',toks:=t'}:=by
 have zt:∀b u,H b=some u->b∉fp:=λb u e z=>by rw[(hf b z).1]at e;cases e
 refine I.step (g':=s.gens) (d':=s.drawn) (ch:=fp) (λb hb=>⟨(hf b hb).2.2.2.1,(hf b hb).2.1,(hf b hb).2.2.2.2.1,(hf b hb).2.2.2.2.2⟩) (λb o _ _ hc e _=>k b o hc e) (λb o _ _ hc e _=>⟨o.slots,k b o hc e⟩) (λ_ _ _ _ n=>n)
  (λb o hc e=>⟨o,k b o hc e⟩) (λ_ _ e=>e) (λ_ _ _ e=>e) (λb ps e=>⟨#[],by rw[e];simp⟩) (λm hm=>?_) (λb u e=>?_) I.bare
 . obtain⟨o,es,ep,ho,r⟩:=hm
   exact⟨o,es,ep,k _ o (λz=>(hf _ z).2.1 rfl) ho,r⟩
 . refine(I.hok b u e).eL (λc v hc q=>k c v ?_ q) (λ_ q=>q) λ_ _ q=>q
   rcases hc with z|z
   . rw[z];exact zt b u e
   . exact zt c _ z
theorem Inv.x8{t':Nat}{fp:List Addr}{T:Addr}{xs:List V}{its:List Value}(I:Inv X pins σ H s)(hf:∀b∈fp,iU X pins H b)(k:∀b o,b∉fp->s.heap.get? b=some o->h'.get? b=some o)
 (hT:s.heap.objs.size<=T) (ht:IsTup h' T its.toArray) (rv:Vals xs its) (hz:xs.length<=sizeLine):Inv X pins σ (upd H T (.tup xs)) {s with heap:=h',toks:=t'}:=by
 have zt:∀b u,H b=some u->b∉fp:=λb u e z=>by rw[(hf b z).1]at e;cases e
 have rW:H T=none:=I.hok.fresh hT
 have neT:∀b u,H b=some u->b≠T:=λb u e z=>by rw[z,rW]at e;cases e
 have Pe:∀b o,s.heap.get? b=some o->b≠T:=λb o e=>aax (aaP (aam e) hT)
 refine I.step (g':=s.gens) (d':=s.drawn) (ch:=fp) (λb hb=>⟨(hf b hb).2.2.2.1,(hf b hb).2.1,(hf b hb).2.2.2.2.1,(hf b hb).2.2.2.2.2⟩) (λb o _ _ hc e _=>k b o hc e) (λb o _ _ hc e _=>⟨o.slots,k b o hc e⟩)
  (λb o _ e n=>by rw[ai (Pe b o e)];exact n) (λb o hc e=>⟨o,k b o hc e⟩) (λb ys e=>by rw[ai (neT b _ e)];exact e) (λb o u e=>by rw[ai (neT b _ e)];exact e)
  (λb ps e=>⟨#[],by rw[ai (neT b _ e),e];simp⟩) (λm hm=>?_) (λb u e=>?_) I.bare
 . obtain⟨o,es,ep,ho,r⟩:=hm
   exact⟨o,es,ep,k _ o (λz=>(hf _ z).2.1 rfl) ho,r⟩
 . by_cases hb:b=T
   . subst hb
     rw[af]at e
     cases e
     exact⟨hz,its,rv,ht⟩
   . rw[ai hb]at e
     refine(I.hok b u e).eL (λc v hc q=>k c v ?_ q) (λc q=>by rw[ai (neT c _ q)];exact q) λc ys q=>by rw[ai (neT c _ q)];exact q
     rcases hc with z|z
     . rw[z];exact zt b u e
     . exact zt c _ z
end
noncomputable def Pf(z:Str):It:=⟨λi _=>i<z.cps.size,λi H x H'=>H'=H/\∃c,z.cps[i]?=some c/\x=.str ⟨#[c]⟩,λi _=>i=z.cps.size⟩
theorem A0{P:Program}{w:World}{K:W.Frag}{tg:Expr}(it:Addr)(z:Str)(t:Tok)(ty:String) (W:∀A:Around,A.handled=none->Walks P w A it [it] [it] z.cps.size (SignAt z) (λi h=>h.IsStrIter it ty z t i))
 (hs:∀(A:Around) (i:Nat) (s:Shared) (Q:Value->Shared->Prop) (E:Value->Shared->Prop),s.heap.IsStrIter it ty z t i->Q (.ref it) s->wpAny (model P w) A (pyIter (.ref it)) Q E s)
 (hn:["enumerate", "zip", "dict_itemiterator", "dict_reverseitemiterator", "odict_iterator", "itertools.zip_longest", "itertools.pairwise"].contains ty=false) :
 Turn P w K tg (Pf z) [it] it (λi h=>h.IsStrIter it ty z t i) where
 mem:=by simp
 obj:=λi h st b hb=>by
  have e:b=it:=by simpa using hb
  subst e
  obtain⟨o,e,c,d⟩:=st
  exact⟨o,e,λv z=>by rw[d]at z;cases z⟩
 keep:=λi h h' st k=>let ⟨o,e,r⟩:=st; ⟨o,k it (by simp) o e,r⟩
 item:=by
  intro X hP hw hK hc i pins s σ H E I hf st hg
  subst hP hw hK
  obtain⟨f0,f1,f2,f3,f4,f5⟩:=hf it (by simp)
  refine(W X.A (I.ok.hd hc)).item i s _ _ hg st λv h' tk hv rQ kk=>?_
  obtain⟨c,u,ec,rfl⟩:=hv
  have I1:Inv X pins σ H {s with heap:=h',toks:=tk}:=I.turned (λb o hb e=>kk b o (by simpa using hb) e) f0 f1 f3 f4 f5
  obtain⟨o,e,oc,od⟩:=id rQ
  exact⟨_,rfl,Aj (s:={s with heap:=h',toks:=tk}) e oc od hn ⟨.str ⟨#[c]⟩,H,I1,⟨u,rfl⟩,⟨rfl,c,ec,rfl⟩,rQ,λb hb=>(hf b hb).1⟩⟩
 done:=by
  intro X hP hw hK hc i pins s σ H E I hf st hg
  subst hP hw hK
  obtain⟨f0,f1,f2,f3,f4,f5⟩:=hf it (by simp)
  have Pg:i=z.cps.size:=hg
  subst Pg
  exact(W X.A (I.ok.hd hc)).done s _ _ st λh' tk kk=>⟨rfl,I.turned (λb o hb e=>kk b o (by simpa using hb) e) f0 f1 f3 f4 f5⟩
 self:=λA i s Q E st h=>hs A i s Q E st h
section
variable {X:Cx}{tg:Expr}
noncomputable def XF(ts:TE):TI:=λσ H R=>ts σ H λx H1=>∃z,x=.str z/\R (Pf z) H1
theorem wM{l:Expr}{tl:TE}(hl:PE X l tl):PI X tg l (XF tl):=by
 intro pins s σ H R I h
 refine aD (hl pins s σ H _ I h) λv s1 ⟨x,H1,I1,r1,q1⟩=>?_
 obtain⟨z,e,q⟩:=q1
 subst e
 obtain⟨t,rfl⟩:=r1
 have fin:∀b∈[s1.heap.objs.size],iU X pins H1 b:=λb hb=>by
  have e:b=s1.heap.objs.size:=by simpa using hb
  subst e
  exact I1.pD (aah _) (I1.hok.fresh (aah _))
 cases ha:z.cps.all (· < 128) with
 | true=>
  refine wpAny_pyIter_ascii ha ?_
  exact⟨s1.heap.objs.size,[s1.heap.objs.size],_,_,H1,rfl,I1.kept (t':=s1.toks) λb o e=>aad _ e,
   A0 _ z t "str_ascii_iterator" (λA hA=>Walks.strAscii hA _ z t) (λ_ _ _ _ _ st h=>wpAny_pyIter_striter_ascii st h) (by decide),⟨_,aar _ rfl,rfl,rfl⟩,fin,q⟩
 | false=>
  refine wpAny_pyIter_wide ha ?_
  exact⟨s1.heap.objs.size,[s1.heap.objs.size],_,_,H1,rfl,I1.kept (t':=s1.toks) λb o e=>aad _ e,
   A0 _ z t "str_iterator" (λA hA=>Walks.strWide hA _ z t) (λ_ _ _ _ _ st h=>wpAny_pyIter_striter_wide st h) (by decide),⟨_,aar _ rfl,rfl,rfl⟩,fin,q⟩
end
noncomputable def GY(K:W.Frag)(a:Addr):It:=
 ⟨λi H=>∃xs x,aq K H a xs/\xs[i]?=some x,λi H v H'=>∃T x,v=.ref T/\H T=none/\H'=upd H T (.tup [.int (i:Int),x])/\∀xs,aq K H a xs->xs[i]?=some x,λi H=>∃xs,aq K H a xs/\xs.length<=i⟩
theorem GZ{P:Program}{w:World}{K:W.Frag}{es:List Expr}{kk:Nat}{tp:Pos}(a e it:Addr)(Vq:e≠it):Turn P w K (.Tuple es kk tp) (GY K a) [e,it] e (λi h=>(∃old,IsEnum h e it (i:Int) old)/\h.IsListIter it a i) where
 mem:=by simp
 obj:=λi h st b hb=>by
  obtain⟨⟨old,he⟩,o,e1,c,d⟩:=st
  rcases aan.mp hb with z|z
  . subst z
    exact⟨_,he,λv z=>by
     have z':Data.fields _=Data.cell v:=z
     cases z'⟩
  . have z':b=it:=by simpa using z
    subst z'
    exact⟨o,e1,λv z=>by rw[d]at z;cases z⟩
 keep:=λi h h' st k=>⟨let ⟨old,he⟩:=st.1; ⟨old,k e (by simp) _ he⟩,st.2.at λo e1=>k it (by simp) o e1⟩
 item:=by
  intro X hP hw hK hc i pins s σ H E I hf st hg
  subst hP hw hK
  obtain⟨xs,x,hq,hx⟩:=hg
  obtain⟨its,rv,p,hz⟩:=I.list hq
  obtain⟨u,hu,ru⟩:=rv.get hx
  obtain⟨⟨old,he⟩,hit⟩:=st
  refine wpAny_pyNext_enum_item he hit p.isList (x:=u) (by simpa using hu) Vq λh' ho ES hT hsz hk=>?_
  refine⟨.ref s.heap.objs.size,rfl,?_⟩
  refine wpAny_letOwnedTupleGo_enum ho λh2 Hb j6=>?_
  have Hc:s.heap.objs.size≠e:=aa0 (aam he)
  have u7:h2.get? s.heap.objs.size=some {cls:=.type "tuple",data:=.seq #[.int i s.toks,u] }:=(j6.2 _ Hc).trans hT
  have I1:Inv X pins σ (upd H s.heap.objs.size (.tup [.int (i:Int),x])) {s with heap:=h2,toks:=s.toks+1}:=I.x8 (its:=[.int i s.toks,u]) hf (λb o hb e1=>by
   have b1:b≠e:=λz=>hb (by simp[z])
   have b2:b≠it:=λz=>hb (by simp[z])
   exact(j6.2 b b1).trans (hk b o b1 b2 e1)) (aah _) ⟨_,u7,rfl,_,rfl⟩ (.cons ⟨_,rfl⟩ (.cons ru .nil)) (by show 2<=sizeLine;decide)
  have fr:H s.heap.objs.size=none:=I.hok.fresh (aah _)
  refine⟨.ref s.heap.objs.size,_,I1,rfl,⟨s.heap.objs.size,x,rfl,fr,rfl,λys hy=>by rw[I.vF hy hq];exact hx⟩,⟨⟨u,?_⟩,ES.at λo e1=>(j6.2 it Vq.symm).trans e1⟩,λb hb=>?_⟩
  . have e3:(((i+1:Nat):Nat):Int)=(i:Int)+1:=by omega
    rw[e3]
    exact Hb
  . have fq:=(hf b hb).1
    have nb:b≠s.heap.objs.size:=by
     rcases aan.mp hb with z|z
     . rw[z];exact aav Hc
     . have z':b=it:=by simpa using z
       rw[z']
       obtain⟨o,e1,_⟩:=hit
       exact aax (aam e1)
    rw[ai nb]
    exact fq
 done:=by
  intro X hP hw hK hc i pins s σ H E I hf st hg
  subst hP hw hK
  obtain⟨xs,hq,hx⟩:=hg
  obtain⟨its,rv,p,hz⟩:=I.list hq
  obtain⟨⟨old,he⟩,hit⟩:=st
  have hl:=rv.length
  exact wpAny_pyNext_enum_end (I.ok.hd hc) he hit p.isList (by simp;omega) λh' eb=>⟨rfl,I.x6 (t':=s.toks) hf λb o hb e1=>eb b o (λz=>hb (by simp[z])) e1⟩
 self:=λ_ _ _ _ _ st h=>let ⟨old,he⟩:=st.1;wpAny_pyIter_enum he h
section
variable {X:Cx}
noncomputable def Ul(K:W.Frag)(ta:TA):TI:=λσ H R=>ta σ H λvs H1=>∃a,vs=[.ref a]/\(∃xs,aq K H1 a xs)/\R (GY K a) H1
theorem lR{es:List Expr}{kk:Nat}{tp:Pos}{a:Expr}{ta:TA}{p pos:Pos}(hg:Gl X "enumerate")(hm:X.mg "enumerate" = none)(ha:PA X [a] ta) (hs:starEach [a] X.env=[(false,eval a X.env)]:=by rfl) :
 PI X (.Tuple es kk tp) (.Call (.Name "enumerate" p) [a] [] pos) (Ul X.K ta):=by
 intro pins s σ H R I h
 refine Call_ (i3 I hg hm boot_enumerate (aa4 (aD (ha pos pins s σ H _ I h) λus s1 ⟨vs,H1,I1,r1,q1⟩=>?_) hs rfl))
 obtain⟨l,e,⟨xs,hq⟩,q⟩:=q1
 subst e
 cases r1 with
 | cons r rr=>
  cases rr
  cases r
  obtain⟨its,rv,pl,hz⟩:=I1.list hq
  refine call_enumerate_list pl.isList λh' he hit hsz hk=>?_
  refine wpAny_pyIter_enum he ?_
  have I2:Inv X pins σ H1 {s1 with heap:=h'}:=I1.kept (t':=s1.toks) hk
  refine⟨s1.heap.objs.size+1,[s1.heap.objs.size+1,s1.heap.objs.size],_,_,H1,rfl,I2,GZ l _ _ (aa0 (adq _)),⟨⟨_,he⟩,hit⟩,λb hb=>?_,q⟩
  have fq:s1.heap.objs.size<=b:=by
   rcases aan.mp hb with z|z
   . rw[z];exact acT _
   . have z':b=s1.heap.objs.size:=by simpa using z
     rw[z'];exact aah _
  exact I1.pD fq (I1.hok.fresh fq)
noncomputable def XG:V->Option Int->Option Int->Hp->VK->Prop:=λx lo hi H Q=>∃z j,x=.str z/\lo=none/\hi=some j/\z.length<=sizeLine/\Q (.str (Txt.slice z none (some j))) H
theorem wN:LA X XG:=by
 intro pins s σ H x v vl vu lo hi sl Q I rx hs pl pu h
 obtain⟨z,j,rfl,rfl,rfl,hz,q⟩:=h
 obtain⟨t,rfl⟩:=rx
 cases pl
 cases pu with
 | int _ uj=>
  refine⟨"str",_,F.slot_str_getitem.lookup,acW _ _ _,aeb (l:=none) (u:=some (j,uj)) (st:=none) hs rfl
   (post_val_or_str ⟨aap (Txt.slice_le z _ _) hz,λt' k=>⟨.str (Txt.slice z none (some j)),H,I.tok k,⟨t',rfl⟩,q⟩⟩)⟩
noncomputable def rJoin(K:W.Frag):V->List V->Hp->VK->Prop:=λx vs H Q=>∃z a ys,x=.str z/\vs=[.ref a]/\aq K H a (ys.map V.str)/\(ys.map (·.length)).sum+ys.length*z.length<=16777216/\Q (.str (Txt.join z ys)) H
theorem wO:∀{ys:List Str}{us:List Value},Vals (ys.map V.str) us->StrsAre us ys
 | [],us,r=>by
  cases r
  exact .nil
 | y::ys,us,r=>by
  cases r with
  | cons h t=>
   obtain⟨tk,rfl⟩:=h
   exact .cons _ _ (wO t)
theorem Nl:uY X "str.join" (rJoin X.K):=by
 intro pins s σ H x vs v us Q I rx rv h
 obtain⟨z,a,ys,rfl,rfl,hq,hl,q⟩:=h
 obtain⟨t,rfl⟩:=rx
 obtain⟨u,rfl,ru⟩:=rv.one
 cases ru
 obtain⟨its,r,pl,_⟩:=I.list hq
 exact join_list pl.isList (by simpa using wO r) hl λt' k=>⟨.str (Txt.join z ys),H,I.tok k,⟨t',rfl⟩,q⟩
noncomputable def Ph:V->List V->Hp->VK->Prop:=λx vs H Q=>∃z y,x=.str z/\vs=[.str y]/\z.length<=sizeLine/\(y.length == 0)=false/\
 (Builtin.Str.partsBetween z (Builtin.Str.occurrences z y 0 z.length (z.length+1)) y.length).length<=sizeLine/\∀p,H p=none->Q (.ref p) (upd H p (.lst ((Txt.split z y).map V.str)))
theorem rX:∀(tk:Nat) (xs:List Str),Vals (xs.map V.str) (strValues (numbered tk xs))
 | _,[]=>.nil
 | tk,x::r=>.cons ⟨tk,rfl⟩ (rX (tk+1) r)
theorem split_le(z y:Str) (h:(Builtin.Str.partsBetween z (Builtin.Str.occurrences z y 0 z.length (z.length+1)) y.length).length<=sizeLine):(Txt.split z y).length<=sizeLine:=by
 unfold Txt.split
 split
 . show 1<=sizeLine;decide
 . split
   . show 1<=sizeLine;decide
   . exact h
theorem JV:uY X "str.split" Ph:=by
 intro pins s σ H x vs v us Q I rx rv h
 obtain⟨z,y,rfl,rfl,hz,hy,hl,q⟩:=h
 obtain⟨t,rfl⟩:=rx
 obtain⟨u,rfl,tu,rfl⟩:=rv.one
 have He:=split_le z y hl
 have fin:∀(l:List (Str×Tok)) (tk:Nat),Vals ((Txt.split z y).map V.str) (strValues l)->
  EP X pins σ Q (.ref s.heap.objs.size) {s with heap:=s.heap.push {cls:=.type "list",data:=.seq (strValues l).toArray},toks:=tk}:=λl tk r=>
  ⟨.ref s.heap.objs.size,_,I.EI r (by rw[aaa];exact He),rfl,q _ (I.hok.fresh (aah _))⟩
 cases h1:(decide (z.length<y.length) || decide (Builtin.Str.strKind z<Builtin.Str.strKind y)) with
 | true=>
  refine ada aez (acW _ _ _) ad4 (adT _ _) (meets_str_split_cannot_occur z y t tu h1) ?_
  exact fin [(z,t)] s.toks (by
   have e:Txt.split z y=[z]:=aaI h1
   rw[e]
   exact .cons ⟨t,rfl⟩ .nil)
 | false=>
  cases hf:(Builtin.Str.occurrences z y 0 z.length (z.length+1)).isEmpty with
  | true=>
   refine ada aez (acW _ _ _) ad4 (adT _ _) (meets_str_split_not_found z y t tu h1 hy hf) ?_
   exact fin [(z,t)] s.toks (by
    have e:Txt.split z y=[z]:=(aay (adF h1)).trans (aaI hf)
    rw[e]
    exact .cons ⟨t,rfl⟩ .nil)
  | false=>
   refine ada aez (acW _ _ _) ad4 (adT _ _) (meets_str_split_sep z y t tu h1 hy hf hz hl) ?_
   have e:Txt.split z y=Builtin.Str.partsBetween z (Builtin.Str.occurrences z y 0 z.length (z.length+1)) y.length:=(aay (adF h1)).trans (aay (adF hf))
   have:=fin (numbered s.toks (Builtin.Str.partsBetween z (Builtin.Str.occurrences z y 0 z.length (z.length+1)) y.length)) (s.toks+(Builtin.Str.partsBetween z (Builtin.Str.occurrences z y 0 z.length (z.length+1)) y.length).length) (by
    rw[e]
    exact rX _ _)
   show EP X pins σ Q _ {s with toks:=_,heap:=s.heap.push {cls:=.type "list",data:=.seq (strsFrom s.toks (Builtin.Str.partsBetween z (Builtin.Str.occurrences z y 0 z.length (z.length+1)) y.length)).toArray} }
   rw[strsFrom_eq]
   exact this
noncomputable def Nm:V->List V->Hp->VK->Prop:=λx vs H Q=>∃l xs i y,x=.ref l/\vs=[.int i,y]/\H l=some (.lst xs)/\0<=i/\i<=xs.length/\xs.length<sizeLine/\Q .aH (upd H l (.lst (xs.take i.toNat++[y]++xs.drop i.toNat)))
theorem Hf:uY X "list.insert" Nm:=by
 intro pins s σ H x vs v us Q I rx rv h
 obtain⟨l,xs,i,y,rfl,rfl,hH,h0,hi,hz,q⟩:=h
 cases rx
 obtain⟨u1,u2,rfl,r1,r2⟩:=rv.two
 obtain⟨t1,rfl⟩:=r1
 obtain⟨z,its,n,r,hl,e⟩:=I.sQ hH
 have hn:=p8
 have XH:¬ (!Builtin.List.listFitsIndex i)=true:=by
  have:Builtin.List.listFitsIndex i=true:=by
   unfold Builtin.List.listFitsIndex
   simp only[abg,aaV]
   constructor <;> omega
  rw[this]
  decide
 refine ada F.slot_list_insert ⟨_,e,rfl⟩ F.entry_list_insert (F.args_list_insert_3 _ _ _) (AutoListH.list_insert_list_int_val_1 l its.toArray n i t1 u2 XH (by rw[aaw];omega)) ⟨e,?_⟩
 refine⟨.aH,_,I.AV (its':=its.take i.toNat++[u2]++its.drop i.toNat) hH e ?_ (((r.take i.toNat).append (.cons r2 .nil)).append (r.drop i.toNat)) ?_,rfl,q⟩
 . have e1:(if i<0 then (i+((its.toArray.size:Nat):Int)).toNat else min i.toNat its.toArray.size)=i.toNat:=by
    rw[aay (by omega),aaw]
    omega
   show (its.toArray.extract 0 _).push u2++its.toArray.extract _=_
   rw[e1]
   apply aeA.mp
   simp[aa2]
 . simp only[aaj,aaO,aew,aaK]
   omega
end
section
variable {prog:Program}{w:World}{A:Around}{E:Value->Shared->Prop}
theorem zu{l it:Addr}{items:Array Value}(eN:l≠it):∀(n i:Nat) (s:Shared) (Q:List Value->Shared->Prop),s.heap.IsListIter it l i->s.heap.IsList l items->i+n<=items.size->
 (∀h',h'.IsListIter it l (i+n)->Heap.SameBut it s.heap h'->Q ((items.toList.drop i).take n) {s with heap:=h'})->wpAny (model prog w) A (draw (.ref it) n) Q E s
 | 0,i,s,Q,hit,hl,_,hQ=>by
  unfold draw
  exact aak (by simpa using hQ s.heap hit (.refl ..))
 | n+1,i,s,Q,hit,hl,hn,hQ=>by
  unfold draw
  have hx:items[i]?=some items[i]:=abU (by omega)
  refine aac (ac4 hit hl hx λh1 JW u9=>?_)
  refine aac (abf (zu eN n (i+1) {s with heap:=h1} _ JW (hl.extBut u9.extBut eN) (by omega) λh2 XI j6=>?_))
  refine aak ?_
  have hd:(items.toList.drop i).take (n+1)=items[i]::(items.toList.drop (i+1)).take n:=by
   rw[abV (by simpa using (show i<items.size by omega)),aco]
   simp
  have:=hQ h2 (by rw[show i+(n+1)=i+1+n by omega];exact XI) (u9.trans j6)
  rw[hd]at this
  exact this
theorem vM{s:Shared}{l:Addr}{items:Array Value}{Q:List Value->Shared->Prop}(hh:A.handled=none)(hl:s.heap.IsList l items)
 (hQ:∀h',Heap.ExtBut s.heap.objs.size s.heap h'->Q items.toList {s with heap:=h'}):wpAny (model prog w) A (unpackItems (.ref l) items.size none) Q E s:=by
 have eN:l≠s.heap.objs.size:=by obtain⟨o,ho,_⟩:=hl;exact aax (aam ho)
 unfold unpackItems
 refine aac ?_
 unfold notIterableAtAll
 refine aac (aeI hl.typeIs slot_list_iter.lookup ?_)
 refine aak ?_
 simp only[acd,acN]
 refine aac (abf (ac8 hl ?_))
 refine aac (abf (zu eN items.size 0 _ _ ⟨_,aar _ rfl,rfl,rfl⟩ (hl.push _) (by omega) λh₁ XJ iF=>?_))
 have gJ:List.take items.size (List.drop 0 items.toList)=items.toList:=by
  rw[List.drop_zero];exact aa2 (by simp)
 rw[gJ]
 rw[aay (by simp)]
 have Y4:h₁.IsList l items:=(hl.push _).extBut iF.extBut eN
 refine aac (abf (adj hh XJ Y4 (by simp) λkK Y5=>?_))
 simp only[Option.isSome_none,acd,acN]
 exact aak (hQ kK λb o hb e=>Y5 b o hb (iF.extBut b o hb (aad _ e)))
end
section
variable {X:Cx}{pos:Pos}
noncomputable def Um(K:W.Frag)(n:Nat)(t:wq):TG:=λv σ H Q=>∃a xs,v=.ref a/\aq K H a xs/\xs.length=n/\t xs σ H Q
theorem Nn{es:List Expr}{k:Nat}{t:wq}{n:Nat}(hc:X.calm=true)(h:Gh X es t)
 (hn:(assignEach es X.env).length=n:=by rfl) (nq:(assignEach es X.env).findIdx? (·.1)=none:=by rfl):PG X (.Tuple es k pos) (Um X.K n t):=by
 intro pins s σ H v u Q I r hw
 obtain⟨a,xs,e1,hq,hl,hw⟩:=hw
 subst e1
 cases r
 obtain⟨its,rv,pl,hz⟩:=I.list hq
 rw[assign_Tuple]
 refine aac (ad9 ?_)
 unfold unpack
 have e2:(assignEach es X.env).length=its.toArray.size:=by rw[aaw,hn,← hl,rv.length]
 rw[e2,nq]
 refine aac (abf (vM (I.ok.hd hc) pl.isList λh' hx=>?_))
 have I1:Inv X pins σ H {s with heap:=h'}:=I.kept (t':=s.toks) λb o e=>hx b o (aax (aam e)) e
 exact h pins _ σ H xs _ Q I1 (by simpa using rv) hw
end
end L2
namespace Gen
open PySem
theorem A8{α:Type}[DecidableEq α]:∀(l t:List α),l.Nodup->(∀x∈l,x∈t)->l.length<=t.length
 | [],t,_,_=>abQ _
 | a::l,t,hn,hs=>by
  have ha:a∈t:=hs a aaX
  obtain⟨h1,h2⟩:=aaU.mp hn
  have:=A8 l (t.erase a) h2 λx hx=>(List.mem_erase_of_ne (λ(e:x=a)=>h1 (by rw[← e];exact hx))).mpr (hs x (aaL _ hx))
  rw[List.length_erase_of_mem ha]at this
  have:0<t.length:=List.length_pos_of_mem ha
  simp only[abt]
  omega
theorem ET(k len:Nat):Builtin.Str.strSliceIndices none (some (k:Int)) 1 len=List.range (min k len):=by
 have h1:¬ ((k:Int)<0):=by omega
 have e:max (0:Int) (min (k:Int) (len:Int))=((min k len:Nat):Int):=by omega
 simp only[Builtin.Str.strSliceIndices,sliceRange,h1,acN,show ((1:Int)>0)=True from by simp,ac9,e]
 by_cases h:(0:Int)<((min k len:Nat):Int)
 . have e3:(((min k len:Nat):Int)-0+1-1) / 1=((min k len:Nat):Int):=by simp
   rw[aaI h,e3,abS]
   conv=>rhs;rw[← abL (List.range (min k len))]
   exact aaW λj _=>by simp
 . have:min k len=0:=by omega
   simp[this]
theorem va{α:Type}(l:List α)(n:Nat)(h:n<=l.length):(List.range n).filterMap (l[·]?)=l.take n:=by
 have:=StrLaws.picks l n 0 (by omega)
 simpa using this
theorem vN(x:Str)(k:Nat):(Txt.slice x none (some (k:Int))).cps.toList=x.cps.toList.take k:=by
 unfold Txt.slice
 rw[ET]
 have hl:x.cps.toList.length=x.length:=by simp[Str.length]
 split
 . rename_i h
   simp only[aey,Bool.true_and,acG,adB]at h
   rw[aa2]
   omega
 . have e:(λ(i:Nat)=>x.cps[i]?)=(λ(i:Nat)=>x.cps.toList[i]?):=by funext i;simp
   show (List.filterMap (λ(i:Nat)=>x.cps[i]?) (List.range (min k x.length))).toArray.toList=_
   rw[List.toList_toArray,e,va _ _ (by omega)]
   rcases Nat.le_total k x.length with h|h
   . rw[aeM h]
   . rw[Nat.min_eq_right h,aa2 (by omega),aa2 (by omega)]
noncomputable def aG:List Nat:=(List.range 26).map (· + 97)
theorem iC{c:Nat} : c∈aG ↔ 97<=c/\c<=122:=by
 unfold aG
 simp only[aai,adg]
 constructor
 . rintro⟨a,h,rfl⟩;omega
 . intro h;exact⟨c-97,by omega,by omega⟩
noncomputable def isName(n:List Nat):Prop:=1<=n.length/\n.length<=8/\∀c∈n,c∈aG
noncomputable def vP(n:List Nat):List (List Nat):=
 [n]++aG.map (λc=>n.take 7++[c])++aG.map (λc=>n.take 6++[c,113])++aG.map (λc=>n.take 6++[c,122])++aG.map (λc=>n.take 5++[c,113,122])
theorem Hh{n x:List Nat}(hn:isName n)(hx:x∈vP n):isName x:=by
 obtain⟨h1,h2,h3⟩:=hn
 have tk:∀k,∀c∈n.take k,c∈aG:=λk c hc=>h3 c (abz hc)
 have JX:113∈aG:=by decide
 have JY:122∈aG:=by decide
 unfold vP at hx
 simp only[aag,aao,aai]at hx
 rcases hx with (((rfl|⟨c,hc,rfl⟩)|⟨c,hc,rfl⟩)|⟨c,hc,rfl⟩)|⟨c,hc,rfl⟩
 . exact⟨h1,h2,h3⟩
 all_goals
  refine⟨by simp,by simp only[aaj,aaO,abt,acY];omega,λd hd=>?_⟩
  simp only[aag,aan,aaE,abv]at hd
  rcases hd with hd|hd
  . exact tk _ d hd
  . rcases hd with rfl|hd <;> first|exact hc|(rcases hd with rfl|hd <;> first|exact JX|exact JY|(rcases hd with rfl <;> first|exact JX|exact JY))|(subst hd;first|exact JX|exact JY)
noncomputable def sub(n:List Nat):List (List Nat):=
 (aG.filter λc=>decide (c≠113/\c≠122)).map (λc=>n.take 7++[c])++aG.map (λc=>n.take 6++[c,113])++aG.map (λc=>n.take 6++[c,122])
  ++ (aG.filter λc=>decide (some c≠n[5]?)).map (λc=>n.take 5++[c,113,122])
theorem JZ{n x:List Nat}(h:x∈sub n):x∈vP n:=by
 unfold sub at h
 unfold vP
 simp only[aag,aao,aai,aaF]at h ⊢
 rcases h with ((⟨c,⟨hc,_⟩,rfl⟩|⟨c,hc,rfl⟩)|⟨c,hc,rfl⟩)|⟨c,⟨hc,_⟩,rfl⟩
 . exact .inl (.inl (.inl (.inr ⟨c,hc,rfl⟩)))
 . exact .inl (.inl (.inr ⟨c,hc,rfl⟩))
 . exact .inl (.inr ⟨c,hc,rfl⟩)
 . exact .inr ⟨c,hc,rfl⟩
theorem jV:aG.Nodup:=by decide
theorem jF{l:List Nat}(hl:l.Nodup)(p q:List Nat):(l.map λc=>p++c::q).Nodup:=by
 induction l with
 | nil=>exact ace
 | cons a l ih=>
  obtain⟨h1,h2⟩:=aaU.mp hl
  rw[aas,aaU]
  refine⟨λh=>?_,ih h2⟩
  obtain⟨b,hb,e⟩:=aai.mp h
  have:=List.append_cancel_left e
  injection this with e1 _
  exact h1 (e1 ▸ hb)
theorem Np{p:List Nat}{a:Nat} : (p++[a]).getLast?=some a:=by simp
theorem Hl(n:List Nat):(sub n).Nodup:=by
 unfold sub
 have EU:∀x∈aG.map (λc=>n.take 6++[c,113]),x.getLast?=some 113:=λx hx=>by
  obtain⟨c,_,rfl⟩:=aai.mp hx
  simp
 have LG:∀x∈aG.map (λc=>n.take 6++[c,122]),x.getLast?=some 122:=λx hx=>by
  obtain⟨c,_,rfl⟩:=aai.mp hx
  simp
 have LH:∀x∈(aG.filter λc=>decide (some c≠n[5]?)).map (λc=>n.take 5++[c,113,122]),x.getLast?=some 122:=λx hx=>by
  obtain⟨c,_,rfl⟩:=aai.mp hx
  simp
 have EV:∀x∈(aG.filter λc=>decide (c≠113/\c≠122)).map (λc=>n.take 7++[c]),x.getLast?≠some 113/\x.getLast?≠some 122:=λx hx=>by
  obtain⟨c,hc,rfl⟩:=aai.mp hx
  obtain⟨_,hc⟩:=aaF.mp hc
  have bZ:=abc hc
  rw[Np]
  exact⟨λe=>bZ.1 (aaA e),λe=>bZ.2 (aaA e)⟩
 refine aaB.mpr ⟨aaB.mpr ⟨aaB.mpr ⟨jF (jV.filter _) _ _,jF jV _ _,?_⟩,jF jV _ _,?_⟩,jF (jV.filter _) _ _,?_⟩
 . intro a ha b hb e
   exact(EV a ha).1 (e ▸ EU b hb)
 . intro a ha b hb e
   rcases aag.mp ha with ha|ha
   . exact(EV a ha).2 (e ▸ LG b hb)
   . have:=EU a ha
     rw[e,LG b hb]at this
     cases this
 . intro a ha b hb e
   rcases aag.mp ha with ha|ha
   . rcases aag.mp ha with ha|ha
     . exact(EV a ha).2 (e ▸ LH b hb)
     . have:=EU a ha
       rw[e,LH b hb]at this
       cases this
   . obtain⟨c,_,rfl⟩:=aai.mp ha
     obtain⟨d,hd,rfl⟩:=aai.mp hb
     obtain⟨_,hd⟩:=aaF.mp hd
     have hd':some d≠n[5]?:=abc hd
     rcases ae7 5 n.length with hl|hl
     . -- both have eight letters
       have e5:(n.take 6++[c,122])[5]?=(n.take 5++[d,113,122])[5]?:=by rw[e]
       have t6:(n.take 6).length=6:=by rw[aaO];omega
       have t5:(n.take 5).length=5:=by rw[aaO];omega
       rw[abT (by omega),abq (by omega),t5,List.getElem?_take]at e5
       simp at e5
       exact hd' e5.symm
     . have el:=congrArg List.length e
       simp only[aaj,aaO,abt,acY]at el
       omega
theorem EW(n:List Nat):100<=(sub n).length:=by
 unfold sub
 simp only[aaj,aaa]
 have h1:aG.length=26:=by decide
 have h2:(aG.filter λc=>decide (c≠113/\c≠122)).length=24:=by decide
 have h3:25<=(aG.filter λc=>decide (some c≠n[5]?)).length:=by
  cases n[5]? with
  | none=>
   have:(aG.filter λc=>decide (some c≠none))=aG:=abj.mpr λc _=>by simp
   rw[this,h1]
   decide
  | some d=>
   have e:(aG.filter λc=>decide (some c≠some d))=aG.filter λc=>c != d:=by
    apply ade
    intro c _
    by_cases h:c=d
    . subst h;simp
    . simp[h]
   rw[e]
   by_cases hd:d∈aG
   . obtain⟨a,b⟩:=iC.mp hd
     have:∀k,k<26->25<=(aG.filter λc=>c != k+97).length:=by decide
     have:=this (d-97) (by omega)
     rw[show d-97+97=d by omega]at this
     exact this
   . have:(aG.filter λc=>c != d)=aG:=abj.mpr λc hc=>by
      have:c≠d:=λe=>hd (e ▸ hc)
      simpa using this
     rw[this,h1]
     decide
 rw[h1,h2]
 omega
theorem Hm(n:List Nat) (told:List (List Nat)) (h:told.length<100):∃x∈vP n,x∉told:=by
 apply adX
 intro hx
 have all:∀x∈sub n,x∈told:=λx hs=>adX λht=>hx ⟨x,JZ hs,ht⟩
 have:=A8 (sub n) told (Hl n) all
 have:=EW n
 omega
theorem sX:("" : Str).cps.toList=[]:=by decide+kernel
theorem Uo:("q" : Str).cps.toList=[113]:=by decide+kernel
theorem Up:("z" : Str).cps.toList=[122]:=by decide+kernel
theorem Pj:("qz" : Str).cps.toList=[113,122]:=by decide+kernel
theorem x9:("abcdefghijklmnopqrstuvwxyz" : Str).cps.toList=aG:=by decide+kernel
theorem qf(a b:Str):(a++b).cps.toList=a.cps.toList++b.cps.toList:=by rw[Str.cps_append,aeW]
theorem A9:∀ys:List Str,(Str.join "" ys).cps.toList=(ys.map (·.cps.toList)).flatten
 | []=>rfl
 | [x]=>by simp[Str.join]
 | x::y::r=>by
  have ih:=A9 (y::r)
  show (x ++ "" ++ Str.join "" (y::r)).cps.toList=_
  rw[qf,qf,ih,sX]
  simp
theorem Hn(ys:List Str):(Txt.join "" ys).cps.toList=(ys.map (·.cps.toList)).flatten:=by
 unfold Txt.join
 rw[StrLaws.glued_eq_join]
 exact A9 ys
noncomputable def c7(n:Str):List Str:=aG.map λc=>Txt.slice n none (some 7)++⟨#[c]⟩
noncomputable def LI(n:Str):List Str:=aG.map λc=>Txt.slice n none (some 6)++⟨#[c]⟩ ++ "q"
noncomputable def LJ(n:Str):List Str:=aG.map λc=>Txt.slice n none (some 6)++⟨#[c]⟩ ++ "z"
noncomputable def c5(n:Str):List Str:=aG.map λc=>Txt.slice n none (some 5)++⟨#[c]⟩ ++ "qz"
noncomputable def eK(n:Str):List Str:=[n]++c7 n++LI n++LJ n++c5 n
theorem zv(n:Str):(eK n).map (·.cps.toList)=vP n.cps.toList:=by
 have s7:=vN n 7
 have s6:=vN n 6
 have s5:=vN n 5
 have e7:((7:Nat):Int)=7:=rfl
 have e6:((6:Nat):Int)=6:=rfl
 have e5:((5:Nat):Int)=5:=rfl
 rw[e7]at s7
 rw[e6]at s6
 rw[e5]at s5
 unfold eK vP c7 LI LJ c5
 simp only[aaf,aau,aas,abY,Function.comp_def,qf,s7,s6,s5,Uo,Up,Pj,abl,List.cons_append,abM]
theorem Dt{a b:Str}(h:a.cps.toList=b.cps.toList):a=b:=Str.ext' (aeA.mp h)
noncomputable def aT(z:Str):Prop:=isName z.cps.toList
theorem EX{n z:Str}(hn:aT n)(hz:z∈eK n):aT z:=by
 refine Hh hn ?_
 rw[← zv]
 exact aai.mpr ⟨z,hz,rfl⟩
theorem EY(n:Str)(told:List Str)(h:told.length<100):∃x∈eK n,x∉told:=by
 obtain⟨x,hx,ht⟩:=Hm n.cps.toList (told.map (·.cps.toList)) (by simpa using h)
 rw[← zv]at hx
 obtain⟨z,hz,rfl⟩:=aai.mp hx
 exact⟨z,hz,λhm=>ht (aai.mpr ⟨z,hm,rfl⟩)⟩
noncomputable def gK:List Str:=["switch", "keep", "gate", "next", "never", "some", "wall", "row", "step", "piece", "lasso"]
theorem C3:Txt.split "switch keep gate next never some wall row step piece lasso" " " = gK:=by decide+kernel
theorem C4:∀x∈gK,aT x:=by
 have h:gK.all (λx=>decide (1<=x.cps.toList.length) && decide (x.cps.toList.length<=8) && x.cps.toList.all λc=>decide (c∈aG))=true:=by decide+kernel
 intro x hx
 have:=abP.mp h x hx
 simp only[abg,aaV,abP]at this
 exact⟨this.1.1,this.1.2,this.2⟩
theorem aT.len{z:Str}(h:aT z):z.length<=8:=by
 have:=h.2.1
 simpa[Str.length]using this
theorem C5{ys:List Str}(h1:1<=ys.length)(h2:ys.length<=8)(h:∀y∈ys,∃c∈aG,y=⟨#[c]⟩):aT (Txt.join "" ys):=by
 have e:∀zs:List Str,(∀y∈zs,∃c∈aG,y=⟨#[c]⟩)->(zs.map (·.cps.toList)).flatten.length=zs.length/\∀c∈(zs.map (·.cps.toList)).flatten,c∈aG:=by
  intro zs
  induction zs with
  | nil=>intro _;exact⟨rfl,λc hc=>by simp at hc⟩
  | cons z zs ih=>
   intro hz
   obtain⟨c,hc,rfl⟩:=hz z aaX
   obtain⟨i1,i2⟩:=ih λy hy=>hz y (aaL _ hy)
   refine⟨?_,λd hd=>?_⟩
   . rw[aas,ae4,aaj,i1]
     simp
     omega
   . rw[aas,ae4,aag]at hd
     rcases hd with hd|hd
     . have:d=c:=by simpa using hd
       rw[this];exact hc
     . exact i2 d hd
 obtain⟨e1,e2⟩:=e ys h
 unfold aT isName
 rw[Hn,e1]
 exact⟨h1,h2,e2⟩
end Gen
namespace Gen
open PySem L2
noncomputable def top(i:Nat):Stmt:=PySem.Challenge.pw_everguard_k49_settled.main.body.getD i (.Pass ⟨0,0,0,0⟩)
noncomputable abbrev EZ:Stmt:=top 18
noncomputable abbrev E3:Stmt:=top 19
noncomputable abbrev E5:Stmt:=top 20
noncomputable abbrev uB:Stmt:=top 21
noncomputable abbrev qg:Stmt:=top 22
noncomputable abbrev qV:Stmt:=top 23
noncomputable abbrev yd:Stmt:=top 24
noncomputable abbrev g0:Stmt:=top 25
noncomputable abbrev lS:Stmt:=top 26
structure Own(mg:Str->Option Value):Prop where
 len:mg "len" = none
 range:mg "range" = none
 enum:mg "enumerate" = none
 list:mg "list" = none
noncomputable def gf(xs:List V):Prop:=(∃a:Int,xs=[.int a])\/∃a b:Int,xs=[.int a,.int b]
noncomputable def aL(H H':Hp)(l:Addr):Prop:=∀b o,H b=some o->b≠l->H' b=some o
theorem aL.trans{H H1 H2:Hp}{l:Addr}(a:aL H H1 l)(b:aL H1 H2 l):aL H H2 l:=λc o h n=>b c o (a c o h n) n
theorem ah.keep{H H':Hp}(s:ah H H')(l:Addr):aL H H' l:=λb o h _=>s b o h
theorem aL.ao{H:Hp}{l p:Addr}{o:HO}(hp:H p=none):aL H (upd H p o) l:=λb u h _=>by rw[ai (ae h hp)];exact h
theorem ah.ao{H:Hp}{p:Addr}{o:HO}(hp:H p=none):ah H (upd H p o):=λb u h=>by rw[ai (ae h hp)];exact h
theorem aL.qh{H:Hp}{l:Addr}{o:HO} : aL H (upd H l o) l:=λb u h n=>by rw[ai n];exact h
theorem aL.seq{K:W.Frag}{H H':Hp}{a l:Addr}{xs:List V}{n:List V}(e:aL H H' l) (hl:H l=some (.lst n)) (h:aq K H a xs) (ig:a≠l):aq K H' a xs:=by
 rcases h with (h|⟨o,h⟩)|h
 . exact .inl (.inl (e a _ h ig))
 . exact .inl (.inr ⟨o,e a _ h ig⟩)
 . exact .inr h
inductive Du(K:W.Frag) (vs:List V) (H:Hp) (Q:VK):Prop
 | mk (a:Addr) (ns:List Int) (k:Int) (h1:vs=[.ref a,.int k]) (h2:aq K H a (ns.map V.int)) (h3:0<=k) (h4:∀v:Int,Q (.int v) H):Du K vs H Q
noncomputable def qi(K:W.Frag):Sp:=λvs H Q _=>Du K vs H Q
inductive Ho(vs:List V) (H:Hp) (Q:VK):Prop
 | mk (c k:Int) (h1:vs=[.int c,.int k]) (h2:0<=k) (h3:k<=1000000) (h4:∀v:Int,0<=v->v<1999999973->Q (.int v) H):Ho vs H Q
noncomputable def uC:Sp:=λvs H Q _=>Ho vs H Q
inductive Dv(vs:List V) (H:Hp) (Q:VK):Prop
 | mk (c k:Int) (h1:vs=[.int c,.int k]) (h2:0<=k) (h3:k<=1000) (h4:∀v:Int,Q (.int v) H):Dv vs H Q
noncomputable def wQ:Sp:=λvs H Q _=>Dv vs H Q
inductive Dw(vs:List V) (H:Hp) (Q:VK):Prop
 | mk (l:Addr) (xs:List V) (m:Int) (h1:vs=[.ref l,.int m]) (h2:H l=some (.lst xs)) (h3:gf xs) (h4:0<m) (h5:m<1073741824) (h6:∀(d:Int) (ys:List V) (H':Hp),0<=d->d<m->gf ys->H' l=some (.lst ys)->aL H H' l->Q (.int d) H'):Dw vs H Q
noncomputable def sY:Sp:=λvs H Q _=>Dw vs H Q
section
variable {P:Program}{w:World}{K:W.Frag}{mg:Str->Option Value}{base:Heap}
theorem Pk:aK ["_law_script", "_law_k"] ["_law_script", "_law_k"] (aw EZ):=⟨rfl,rfl,rfl,by decide+kernel,rfl,by decide+kernel,by decide+kernel⟩
theorem Nq{f:Addr}{fd:FuncData}(F:aO K "_law_cell_at" "_law_cell_at" EZ f fd)(T:Own mg):aR P w K mg base aY 1 f fd ["_law_script", "_law_k"] (qi K):=by
 refine F.ok Pk (λvs H Q E h=>?_) (λcdv A outer s H vs Q E hr h=>?_)
 . obtain⟨a,ns,k,rfl,_⟩:=h
   rfl
 . obtain⟨a,ns,k,rfl,hS,h0,kk⟩:=h
   refine⟨_,aj (cP (bg Lv (pv 1) (eR eA (by rfl) T.len abI (aa (pv 0) ag)) (cp _)) (au (aI (aN bT (pv 0) (pv 1) (λ_ _=>rfl)))) bh)
    (au (aI ak)),?_⟩
   refine⟨_,rfl,_,rfl,a,_,rfl,.inl hS,_,_,rfl,rfl,_,rfl,?_⟩
   refine jN (λhc=>?_) (λ_=>kk 0)
   have bZ:k<((ns.map V.int).length:Int):=abc hc
   rw[aaa]at bZ
   have hk:k.toNat<ns.length:=by lia
   have e:((k.toNat:Nat):Int)=k:=by lia
   have qj:ie (ns.map V.int) ((k.toNat:Nat):Int)=some (.int ns[k.toNat]):=gy (by rw[aal,aae hk];rfl)
   rw[e]at qj
   exact⟨_,rfl,_,rfl,a,_,_,.int ns[k.toNat],rfl,rfl,hS,qj,kk _⟩
theorem LK:aK ["_law_cell", "_law_k", "_law_m"] ["_law_cell", "_law_k"] (aw E3):=⟨rfl,rfl,rfl,by decide+kernel,rfl,by decide+kernel,by decide+kernel⟩
theorem Hq{f:Addr}{fd:FuncData}(F:aO K "_law_mix" "_law_mix" E3 f fd):aR P w K mg base aY 1 f fd ["_law_cell", "_law_k"] uC:=by
 refine F.ok LK (λvs H Q E h=>?_) (λcdv A outer s H vs Q E hr h=>?_)
 . obtain⟨c,k,rfl,_⟩:=h
   rfl
 . obtain⟨c,k,rfl,h0,h1,kk⟩:=h
   refine⟨_,aj (bz (i:=2) LK.nd rfl (Or.inl rfl) (aB dE (aB ji (aB eP (aB eP (aB dE (pv 0) ak) (aB ji (aB ji (pv 1) (pv 1)) ak)) ak) ak) ak))
    (au (aI (aB dE (aB ji (pv 2) (pv 2)) ak))),?_⟩
   refine⟨_,rfl,_,_,rfl,rfl,(by show (0:Int)<2147483629;decide),_,rfl,_,rfl,_,_,rfl,rfl,.inl ⟨by lia,by lia⟩,_,_,rfl,rfl,.inr ⟨by decide,by decide⟩,_,_,rfl,rfl,_,_,rfl,rfl,
    _,_,rfl,rfl,.inr ⟨by decide,by decide⟩,_,_,rfl,rfl,(by show (0:Int)<2147483647;decide),?_⟩
   generalize hm:((c % 2147483629+k*k*7919+11)*48271 % 2147483647:Int)=m
   have m0:0<=m:=by rw[← hm];exact abN _ (by decide)
   have m1:m<2147483647:=by rw[← hm];exact abB _ (by decide)
   refine⟨_,rfl,_,rfl,_,_,rfl,rfl,.inl ⟨by lia,by lia⟩,_,_,rfl,rfl,(by show (0:Int)<1999999973;decide),?_⟩
   exact kk _ (abN _ (by decide)) (abB _ (by decide))
theorem wR:aK ["_law_cell", "_law_k", "_law_number", "_law_j"] ["_law_cell", "_law_k"] (aw E5):=⟨rfl,rfl,rfl,by decide+kernel,rfl,by decide+kernel,by decide+kernel⟩
theorem Nr{f fM:Addr}{fd Pl:FuncData}(F:aO K "_law_rich" "_law_rich" E5 f fd)(T:Own mg)(FM:aO K "_law_mix" "_law_mix" E3 fM Pl)(bM:Binds K Pl ["_law_cell", "_law_k"] []) (mM:mg "_law_mix" = some (.ref fM)) :
 aR P w K mg base aY 2 f fd ["_law_cell", "_law_k"] wQ:=by
 have GM:aR P w K mg base aY 1 fM Pl ["_law_cell", "_law_k"] uC:=Hq FM
 refine F.ok wR (λvs H Q E h=>?_) (λcdv A outer s H vs Q E hr h=>?_)
 . obtain⟨c,k,rfl,_⟩:=h
   rfl
 . obtain⟨c,k,rfl,h0,h1,kk⟩:=h
   refine⟨_,aj (bz (i:=2) wR.nd rfl (Or.inl rfl) ak)
    (aj (df aaM rfl (dU rfl T.range (aa ak ag)) (ar (i:=3) wR.nd rfl (Or.inl rfl))
     (au (bz (i:=2) wR.nd rfl (Or.inl rfl) (aB eP (aB ji (pv 2) ak) (aX GM hr rfl mM FM.kp bM .nil bJ (aa (pv 0) (aa (aB eP (aB ji ak (pv 1)) (pv 3)) ag)))))))
    (au (aI (pv 2)))),?_⟩
   refine⟨12,rfl,by decide,by decide,ia (n:=12) (λi σ H2=>H2=H/\∃(n:Int) (v:Option V),σ=[some (.int c),some (.int k),some (.int n),v]) ⟨rfl,0,none,rfl⟩ ?_ ?_⟩
   . rintro i σ H2 hi ⟨rfl,n,v,rfl⟩
     refine⟨_,rfl,_,_,rfl,rfl,.inr ⟨by decide,by decide⟩,_,rfl,_,rfl,_,_,rfl,rfl,.inl ⟨by decide,by decide⟩,_,rfl,_,_,rfl,rfl,?_⟩
     refine⟨_,_,rfl,by lia,by lia,λv hv0 hv1=>⟨_,_,rfl,rfl,rfl,_,_,rfl⟩⟩
   . rintro σ H2 ⟨rfl,n,v,rfl⟩
     exact⟨_,rfl,kk n⟩
theorem Hr:aK ["_law_left", "_law_many", "_law_digit"] ["_law_left", "_law_many"] (aw uB):=⟨rfl,rfl,rfl,by decide+kernel,rfl,by decide+kernel,by decide+kernel⟩
theorem ye{f:Addr}{fd:FuncData}(F:aO K "_law_pick" "_law_pick" uB f fd)(T:Own mg):aR P w K mg base aY 1 f fd ["_law_left", "_law_many"] sY:=by
 refine F.ok Hr (λvs H Q E h=>?_) (λcdv A outer s H vs Q E hr h=>?_)
 . obtain⟨l,xs,m,rfl,_⟩:=h
   rfl
 . obtain⟨l,xs,m,rfl,hl,hp,m0,m1,kk⟩:=h
   refine⟨_,aj (cP (sA (bg iR (aN bT (pv 0) ak (λ_ _=>rfl)) (cx (aa ak (aa (uy p0 ak) ag))) (by with_unfolding_all rfl))
    (pX (bg Ak (eR eA (by rfl) T.len abI (aa (pv 0) ag)) ak (cp _)))).pt
    (au (AH (wG aaJ PySem.F.slot_list_pop PySem.F.type_list_pop O0 (pv 0)) (Gi (pv 0) ak set_list))) bh)
    (aj (bz (i:=2) Hr.nd rfl (Or.inl rfl) (aB dE (aN bT (pv 0) ak (λ_ _=>rfl)) (pv 1)))
    (aj (AH (aB iO (aN bT (pv 0) ak (λ_ _=>rfl)) (pv 1)) (Gi (pv 0) ak set_list))
    (au (aI (pv 2))))),?_⟩
   rcases hp with⟨a,rfl⟩|⟨a,b,rfl⟩
   . refine⟨_,rfl,l,_,_,.int a,rfl,rfl,aq.of hl,rfl,_,rfl,(by show 2<=sizeLine;decide),λt ht=>?_⟩
     have nl:l≠t:=ae hl ht
     have fJ:(upd H t (.tup [.int 0,.int (-1)])) l=some (.lst [.int a]):=by rw[ai nl];exact hl
     have kp:aL H (upd H t (.tup [.int 0,.int (-1)])) l:=aL.ao ht
     refine⟨t,_,rfl,.inr (aM.of af),rfl,rfl,_,rfl,?_⟩
     refine jN (λ_=>?_) (λ_=>bu ?_)
     . refine⟨_,rfl,l,_,rfl,.inl (aq.of fJ),_,_,rfl,rfl,_,rfl,?_⟩
       refine jN (λh=>absurd (abc h) (by show ¬ (1:Int)<((1:Nat):Int);decide)) (λ_=>?_)
       refine⟨_,rfl,l,_,_,.int a,rfl,rfl,aq.of fJ,rfl,_,rfl,_,_,rfl,rfl,m0,?_⟩
       refine⟨_,rfl,l,_,_,.int a,rfl,rfl,aq.of fJ,rfl,_,rfl,_,_,rfl,rfl,⟨m0,m1⟩,_,rfl,l,_,_,0,rfl,rfl,fJ,rfl,?_⟩
       exact⟨_,rfl,kk _ _ _ (abN _ (by lia)) (abB _ m0) (.inl ⟨_,rfl⟩) af (kp.trans aL.qh)⟩
     . refine⟨_,rfl,l,_,_,.int a,rfl,rfl,aq.of fJ,rfl,_,rfl,_,_,rfl,rfl,m0,?_⟩
       refine⟨_,rfl,l,_,_,.int a,rfl,rfl,aq.of fJ,rfl,_,rfl,_,_,rfl,rfl,⟨m0,m1⟩,_,rfl,l,_,_,0,rfl,rfl,fJ,rfl,?_⟩
       exact⟨_,rfl,kk _ _ _ (abN _ (by lia)) (abB _ m0) (.inl ⟨_,rfl⟩) af (kp.trans aL.qh)⟩
   . refine⟨_,rfl,l,_,_,.int a,rfl,rfl,aq.of hl,rfl,_,rfl,(by show 2<=sizeLine;decide),λt ht=>?_⟩
     have nl:l≠t:=ae hl ht
     have fJ:(upd H t (.tup [.int 0,.int (-1)])) l=some (.lst [.int a,.int b]):=by rw[ai nl];exact hl
     have kp:aL H (upd H t (.tup [.int 0,.int (-1)])) l:=aL.ao ht
     refine⟨t,_,rfl,.inr (aM.of af),rfl,rfl,_,rfl,?_⟩
     refine jN (λ_=>?_) (λ_=>bu ?_)
     . refine⟨_,rfl,l,_,rfl,.inl (aq.of fJ),_,_,rfl,rfl,_,rfl,?_⟩
       refine jN (λ_=>?_) (λh=>absurd (aaT (show (1:Int)<((2:Nat):Int) by decide)) h)
       refine⟨_,rfl,.inl ⟨rfl,_,aq.of fJ⟩,l,_,.int b,rfl,rfl,fJ,rfl,_,rfl,l,_,_,0,rfl,rfl,af,rfl,?_⟩
       refine⟨_,rfl,l,_,_,.int b,rfl,rfl,aq.of af,rfl,_,rfl,_,_,rfl,rfl,m0,?_⟩
       refine⟨_,rfl,l,_,_,.int b,rfl,rfl,aq.of af,rfl,_,rfl,_,_,rfl,rfl,⟨m0,m1⟩,_,rfl,l,_,_,0,rfl,rfl,af,rfl,?_⟩
       exact⟨_,rfl,kk _ _ _ (abN _ (by lia)) (abB _ m0) (.inl ⟨_,rfl⟩) af (((kp.trans aL.qh).trans aL.qh).trans aL.qh)⟩
     . refine⟨_,rfl,l,_,_,.int a,rfl,rfl,aq.of fJ,rfl,_,rfl,_,_,rfl,rfl,m0,?_⟩
       refine⟨_,rfl,l,_,_,.int a,rfl,rfl,aq.of fJ,rfl,_,rfl,_,_,rfl,rfl,⟨m0,m1⟩,_,rfl,l,_,_,0,rfl,rfl,fJ,rfl,?_⟩
       exact⟨_,rfl,kk _ _ _ (abN _ (by lia)) (abB _ m0) (.inr ⟨_,_,rfl⟩) af (kp.trans aL.qh)⟩
end
theorem small{n:Nat}(h:n<=1000):n<sizeLine:=zp h
theorem mG{n:Nat}(h:n<=1000):n<=sizeLine:=adh (zp h)
inductive Ba(K:W.Frag) (vs:List V) (H:Hp) (Q:VK):Prop
 | mk (l t:Addr) (xs:List V) (told:List Str) (h1:vs=[.ref l,.ref t]) (h2:H l=some (.lst xs)) (h3:gf xs) (h4:t≠l) (h5:aq K H t (told.map V.str)) (h6:told.length<100) (h7:∀(z:Str) (ys:List V) (H':Hp),aT z->z∉told->gf ys->H' l=some (.lst ys)->aL H H' l->Q (.str z) H'):Ba K vs H Q
noncomputable def uD(K:W.Frag):Sp:=λvs H Q _=>Ba K vs H Q
theorem qk(z:Str)(told:List Str):iQ (.str z) (told.map V.str)=decide (z∈told):=by
 unfold iQ
 rw[abx,acO,aaV]
 constructor
 . rintro⟨v,hv,e⟩
   obtain⟨y,hy,rfl⟩:=aai.mp hv
   have:y=z:=by simpa[mE]using e
   rw[← this];exact hy
 . intro h
   exact⟨.str z,aai.mpr ⟨z,h,rfl⟩,by simp[mE]⟩
theorem Hs(told:List Str):(told.map V.str).all kT=true:=by
 rw[abP]
 intro v hv
 obtain⟨y,_,rfl⟩:=aai.mp hv
 rfl
theorem Ht{i:Nat}{c:Nat}(h:("abcdefghijklmnopqrstuvwxyz" : Str).cps[i]?=some c):aG[i]?=some c:=by
 rw[← x9]
 simpa using h
theorem sZ{α β:Type}{l:List α}{i:Nat}{c:α}(f:α->β)(h:l[i]?=some c):(l.take (i+1)).map f=(l.take i).map f++[f c]:=by
 rw[ae5,h]
 simp
theorem il{i:Nat}{x:V}{σ:St}{H:Hp}{A B:St->Hp->Prop}(h:A (σ.set i (some x)) H):cv i x σ H (λgk H2=>vL gk H2 (λb H3=>if b=true then A gk H3 else B gk H3)):=by
 show (if true=true then A (σ.set i (some x)) H else B (σ.set i (some x)) H)
 rw[aaI rfl]
 exact h
theorem Uq:(["_law_k", "_law_left", "_law_letters"]:List Str).Nodup:=by decide+kernel
theorem E6:(["_law_one", "_law_name"]:List Str).Nodup:=by decide+kernel
theorem XM:(["_law_one", "_law_told"]:List Str).Nodup:=by decide+kernel
section
variable {P:Program}{w:World}{K:W.Frag}{mg:Str->Option Value}{base:Heap}
noncomputable abbrev Hu:List Str:=["_law_left", "_law_told", "_law_letters", "_law_words", "_law_size", "_law_name", "_law_some"]
theorem j7:aK Hu ["_law_left", "_law_told"] (aw qg):=⟨rfl,rfl,rfl,by decide+kernel,rfl,by decide+kernel,by decide+kernel⟩
theorem nM{D:Addr}{te:TE}{Q:Hp->Prop}{H1:Hp}{nm:Str}(f:Nat->Str)(hD:H1 D=none)
 (he:∀(c:Nat) (H:Hp) (R:VK),c∈aG->R (.str (f c)) H->te [some (.str ⟨#[c]⟩),some (.str nm)] H R)
 (fin:Q (upd H1 D (.lst ((aG.map f).map V.str)))) :
 ∃W:Nat->Nat->St->Hp->Prop,(∃m,W 0 m [none,some (.str nm)] (upd H1 D (.lst [])))/\rT D (cv 0) vL te (Pf "abcdefghijklmnopqrstuvwxyz") W Q:=by
 have hsz:("abcdefghijklmnopqrstuvwxyz" : Str).cps.size=26:=by decide+kernel
 have vc:aG.length=26:=by decide
 refine iW 26 (λi acc σ H=>acc=((aG.take i).map f).map V.str/\(∃v,σ=[v,some (.str nm)])/\H=upd H1 D (.lst acc)) ⟨rfl,⟨none,rfl⟩,rfl⟩ af ?_ ?_
 . rintro acc σ H _ ⟨rfl,_,rfl⟩
   refine⟨hsz.symm,?_⟩
   rw[aa2 (by rw[vc];decide)]
   exact fin
 . rintro i acc σ H hi bx ⟨rfl,⟨v,rfl⟩,rfl⟩
   refine⟨by show i<_;rw[hsz];exact hi,?_⟩
   rintro x H' ⟨rfl,c,hc,rfl⟩
   have bZ:=Ht hc
   refine il ?_
   refine he c _ _ (aaN bZ) ?_
   refine⟨_,af,?_,dJ hi af ⟨?_,⟨_,rfl⟩,?_⟩⟩
   . rw[aaa,aaa,aaO]
     exact small (by lia)
   . rw[sZ f bZ,aaf]
     rfl
   . rw[j5]
theorem Bb:∀zs:List Str,(∀y∈zs,∃c∈aG,y=⟨#[c]⟩)->(zs.map (·.length)).sum=zs.length
 | [],_=>rfl
 | z::zs,h=>by
  obtain⟨c,_,rfl⟩:=h z aaX
  have ih:=Bb zs λy hy=>h y (aaL _ hy)
  rw[aas,List.sum_cons,ih,abt]
  show 1+zs.length=zs.length+1
  lia
theorem vQ(n:Str)(h:aT n)(k:Int):(Txt.slice n none (some k)).length<=8:=aap (Txt.slice_le n _ _) h.len
theorem i5(c:Nat):(⟨#[c]⟩:Str).length=1:=rfl
theorem tf(a b:Str):(a++b).length=a.length+b.length:=Str.length_append a b
theorem iq{n:Nat}(h:n<=100):n<=sizeLine:=aap h (by decide)
noncomputable abbrev Nt(P:Program)(w:World)(K:W.Frag)(mg:Str->Option Value)(base:Heap)(f:Addr)(cdv:Value)(A:Around)(outer:List Env)(s:Shared)(H:Hp)(E:XK):Cx:=
 (jj aY P w K mg base Hu "_law_spelt" (aw qg) f cdv A outer s H E).kz
noncomputable abbrev j8:Str:="abcdefghijklmnopqrstuvwxyz"
theorem E7{f:Addr}{cdv:Value}{A:Around}{outer:List Env}{s:Shared}{H:Hp}{E:XK}{Q:VK}{l t:Addr}{told:List Str}(hS:aq K H t (told.map V.str)) (ig:t≠l) (eN:told.length<100) (wK:∃xs,H l=some (.lst xs))
 (kk:∀(z:Str) (ys:List V) (H':Hp),aT z->z∉told->gf ys->H' l=some (.lst ys)->aL H H' l->Q (.str z) H') :
 ∃tR:TS,gj (Nt P w K mg base f cdv A outer s H E) (List.drop 5 (c8 qg)) tR/\∀(nm:Str) (ys:List V) (H4:Hp) (w1:Addr) (sz:Int),aT nm->gf ys->H4 l=some (.lst ys)->aL H H4 l->
  tR {nx:=λ_ H'=>Q .aH H',rt:=Q} [some (.ref l),some (.ref t),some (.str j8),some (.ref w1),some (.int sz),some (.str nm),none] H4:=by
 refine⟨_,aj (bz (i:=6) j7.nd rfl (Or.inl rfl) (aB jP (aB jP (cq (aa (pv 5) ag))
  (dZ (N:=["_law_one", "_law_name"]) (js:=[none,some 5]) (by kernel_rfl) rfl (wM (pv 2)) (λ_ _ _ _ _ _=>ar (i:=0) E6 rfl (Or.inl rfl) (.inr rfl)) (λ_ _ _ _ _ _=>bb)
   (λ_ _ _ _ _ _=>aB cS (jY wN (pv 1) lP (lQ ak)) (pv 0))))
  (dZ (N:=["_law_one", "_law_name"]) (js:=[none,some 5]) (by kernel_rfl) rfl (wM (pv 2)) (λ_ _ _ _ _ _=>ar (i:=0) E6 rfl (Or.inl rfl) (.inr rfl)) (λ_ _ _ _ _ _=>bb)
   (λ_ _ _ _ _ _=>aB cS (aB cS (jY wN (pv 1) lP (lQ ak)) (pv 0)) av))))
  (aj (bz (i:=6) j7.nd rfl (Or.inl rfl) (aB jP (aB jP (pv 6)
   (dZ (N:=["_law_one", "_law_name"]) (js:=[none,some 5]) (by kernel_rfl) rfl (wM (pv 2)) (λ_ _ _ _ _ _=>ar (i:=0) E6 rfl (Or.inl rfl) (.inr rfl)) (λ_ _ _ _ _ _=>bb)
    (λ_ _ _ _ _ _=>aB cS (aB cS (jY wN (pv 1) lP (lQ ak)) (pv 0)) av)))
   (dZ (N:=["_law_one", "_law_name"]) (js:=[none,some 5]) (by kernel_rfl) rfl (wM (pv 2)) (λ_ _ _ _ _ _=>ar (i:=0) E6 rfl (Or.inl rfl) (.inr rfl)) (λ_ _ _ _ _ _=>bb)
    (λ_ _ _ _ _ _=>aB cS (aB cS (jY wN (pv 1) lP (lQ ak)) (pv 0)) av))))
  (au (aI (aN bT
   (dZ (N:=["_law_one", "_law_told"]) (js:=[none,some 1]) (by kernel_rfl) rfl (bf (pv 6)) (λ_ _ _ _ _ _=>ar (i:=0) XM rfl (Or.inl rfl) (.inr rfl))
    (λ_ _ _ _ _ _=>jZ (bg (r:=LB K true) AR (pv 0) (pv 1) (by with_unfolding_all rfl))) (λ_ _ _ _ _ _=>pv 0)) ak (λ_ _=>rfl))))),?_⟩
 intro nm ys H4 w1 sz hn hp wU j9
 have ve:∀g:Nat->Str,((aG.map g).map V.str).length=26:=λg=>by rw[aaa,aaa];decide
 have h8:∀k:Int,nm.length<=sizeLine:=λ_=>iq (aap hn.len (by decide))
 refine⟨_,rfl,(by show 1<=sizeLine;decide),λp1 Hv=>?_⟩
 refine⟨_,rfl,j8,rfl,λD1 ow=>nM (nm:=nm) (λc=>Txt.slice nm none (some 7)++⟨#[c]⟩) ow (λc H R hc hR=>?_) ?_⟩
 . refine⟨_,rfl,_,rfl,nm,7,rfl,rfl,rfl,h8 0,_,rfl,_,_,rfl,rfl,?_,hR⟩
   have:=vQ nm hn 7
   rw[i5]
   exact iq (by lia)
 have n1:p1≠D1:=ae (af (H:=H4)) ow
 refine⟨p1,D1,_,_,rfl,rfl,(by rw[ai n1,af]),af,?_,λp2 ib=>?_⟩
 . rw[ve]
   exact iq (by show 1+26<=100;decide)
 refine⟨_,rfl,j8,rfl,λD2 mH=>nM (nm:=nm) (λc=>Txt.slice nm none (some 6)++⟨#[c]⟩ ++ "q") mH (λc H R hc hR=>?_) ?_⟩
 . refine⟨_,rfl,_,rfl,nm,6,rfl,rfl,rfl,h8 0,_,rfl,_,_,rfl,rfl,?_,_,_,rfl,rfl,?_,hR⟩
   . have:=vQ nm hn 6
     rw[i5]
     exact iq (by lia)
   . have:=vQ nm hn 6
     have e1:("q" : Str).length=1:=by decide+kernel
     rw[tf,i5,e1]
     exact iq (by lia)
 have n2:p2≠D2:=ae (af (H:=_)) mH
 refine⟨p2,D2,_,_,rfl,rfl,(by rw[ai n2,af]),af,?_,λp3 oS=>?_⟩
 . rw[aaj,ve,ve]
   exact iq (by show 1+26+26<=100;decide)
 refine⟨_,rfl,_,rfl,j8,rfl,λD3 lF=>nM (nm:=nm) (λc=>Txt.slice nm none (some 6)++⟨#[c]⟩ ++ "z") lF (λc H R hc hR=>?_) ?_⟩
 . refine⟨_,rfl,_,rfl,nm,6,rfl,rfl,rfl,h8 0,_,rfl,_,_,rfl,rfl,?_,_,_,rfl,rfl,?_,hR⟩
   . have:=vQ nm hn 6
     rw[i5]
     exact iq (by lia)
   . have:=vQ nm hn 6
     have e1:("z" : Str).length=1:=by decide+kernel
     rw[tf,i5,e1]
     exact iq (by lia)
 have n3:p3≠D3:=ae (af (H:=_)) lF
 refine⟨p3,D3,_,_,rfl,rfl,(by rw[ai n3,af]),af,?_,λp4 lG=>?_⟩
 . rw[aaj,aaj,ve,ve,ve]
   exact iq (by show 1+26+26+26<=100;decide)
 refine⟨_,rfl,j8,rfl,λD4 Dx=>nM (nm:=nm) (λc=>Txt.slice nm none (some 5)++⟨#[c]⟩ ++ "qz") Dx (λc H R hc hR=>?_) ?_⟩
 . refine⟨_,rfl,_,rfl,nm,5,rfl,rfl,rfl,h8 0,_,rfl,_,_,rfl,rfl,?_,_,_,rfl,rfl,?_,hR⟩
   . have:=vQ nm hn 5
     rw[i5]
     exact iq (by lia)
   . have:=vQ nm hn 5
     have e1:("qz" : Str).length=2:=by decide+kernel
     rw[tf,i5,e1]
     exact iq (by lia)
 have n4:p4≠D4:=ae (af (H:=_)) Dx
 refine⟨p4,D4,_,_,rfl,rfl,(by rw[ai n4,af]),af,?_,λp5 oT=>?_⟩
 . rw[aaj,aaj,aaj,ve,ve,ve,ve]
   exact mG (by show 1+26+26+26+26<=1000;decide)
 have XN:[V.str nm]++((aG.map λc=>Txt.slice nm none (some 7)++⟨#[c]⟩).map V.str)++((aG.map λc=>Txt.slice nm none (some 6)++⟨#[c]⟩ ++ "q").map V.str)++((aG.map λc=>Txt.slice nm none (some 6)++⟨#[c]⟩ ++ "z").map V.str)
  ++ ((aG.map λc=>Txt.slice nm none (some 5)++⟨#[c]⟩ ++ "qz").map V.str)=(eK nm).map V.str:=by
  unfold eK c7 LI LJ c5
  simp only[aaf,aas,abY]
 rw[XN]
 have sm:∀o5,ah H4 (upd (upd (upd (upd (upd (upd (upd (upd (upd H4 p1 _) D1 _) p2 _) D2 _) p3 _) D3 _) p4 _) D4 _) p5 o5):=λo5=>
  (((((((((ah.ao Hv).trans (ah.ao ow)).trans (ah.ao ib)).trans (ah.ao mH)).trans (ah.ao oS)).trans (ah.ao lF)).trans (ah.ao lG)).trans (ah.ao Dx)).trans (ah.ao oT))
 have Pm:=sm (.lst ((eK nm).map V.str))
 generalize hG:upd _ p5 (HO.lst ((eK nm).map V.str))=G at *
 have Pn:G p5=some (.lst ((eK nm).map V.str)):=by rw[← hG,af]
 refine⟨_,rfl,p5,rfl,⟨_,aq.of Pn⟩,λD hD=>?_⟩
 obtain⟨xs0,wK⟩:=wK
 have np:p5≠D:=ae Pn hD
 have h5:∀o,(upd G D o) p5=some (.lst ((eK nm).map V.str)):=λo=>by rw[ai np];exact Pn
 have Y6:∀o,aq K (upd G D o) t (told.map V.str):=λo=>ah.seq (ah.ao hD) (ah.seq Pm (j9.seq wK hS ig))
 refine iW (eK nm).length (λi acc σ H=>acc=(((eK nm).take i).filter λz=>!decide (z∈told)).map V.str/\(∃v,σ=[v,some (.ref t)])/\H=upd G D (.lst acc)) ⟨rfl,⟨none,rfl⟩,rfl⟩ af ?_ ?_
 . rintro acc σ H5 _ ⟨rfl,_,rfl⟩
   refine⟨⟨_,aq.of (h5 _),by simp⟩,?_⟩
   rw[aaH]
   obtain⟨z,hz,LL⟩:=EY nm told eN
   have Vr:z∈(eK nm).filter λz=>!decide (z∈told):=aaF.mpr ⟨hz,by simp[LL]⟩
   cases Vs:(eK nm).filter λz=>!decide (z∈told) with
   | nil=>rw[Vs]at Vr;cases Vr
   | cons z0 r=>
    have h0:z0∈(eK nm).filter λz=>!decide (z∈told):=by rw[Vs];exact aaX
    obtain⟨m1,m2⟩:=aaF.mp h0
    have m3:z0∉told:=by simpa using m2
    have sl:G l=some (.lst ys):=Pm l _ wU
    have nl:l≠D:=ae sl hD
    exact⟨D,_,0,.str z0,rfl,rfl,aq.of af,(gy (j:=0) (by rfl):ie _ ((0:Nat):Int)=_),kk z0 ys _ (EX hn m1) m3 hp (by rw[ai nl];exact sl) ((j9.trans (ah.keep Pm l)).trans (aL.ao hD))⟩
 . rintro i acc σ H5 hi bx ⟨rfl,⟨v,rfl⟩,rfl⟩
   have Bc:(eK nm)[i]?=some (eK nm)[i]:=aae hi
   have hx:((eK nm).map V.str)[i]?=some (.str (eK nm)[i]):=by rw[aal,Bc];rfl
   refine⟨⟨_,_,aq.of (h5 _),hx⟩,?_⟩
   rintro x H' ⟨rfl,gJ⟩
   have ex:=gJ _ (aq.of (h5 _))
   rw[hx]at ex
   cases ex
   refine⟨_,rfl,_,rfl,t,_,rfl,.inl (Y6 _),rfl,Hs told,_,rfl,?_⟩
   have XO:∀j,((((eK nm).take j).filter λz=>!decide (z∈told)).map V.str).length<sizeLine:=λj=>by
    rw[aaa]
    refine abK (aba _ _) ?_
    rw[aaO]
    have:(eK nm).length=105:=by
     unfold eK c7 LI LJ c5
     simp only[aaj,aaa,aaK]
     decide
    exact small (by lia)
   refine jN (λh=>?_) (λh=>?_)
   . have wV:(eK nm)[i]∉told:=by simpa[qk]using h
     refine⟨_,rfl,_,af,XO i,dJ hi af ⟨?_,⟨_,rfl⟩,by rw[j5]⟩⟩
     rw[take_succ_filter _ _ _ _ Bc,aaI (by simp[wV]),aaf]
     rfl
   . have wV:(eK nm)[i]∈told:=by simpa[qk]using h
     refine dJ hi af ⟨?_,⟨_,rfl⟩,rfl⟩
     rw[take_succ_filter _ _ _ _ Bc,aay (by simp[wV]),abh]
theorem Bd{f fP:Addr}{fd vf:FuncData}(F:aO K "_law_spelt" "_law_spelt" qg f fd)(T:Own mg)(FP:aO K "_law_pick" "_law_pick" uB fP vf)(bP:Binds K vf ["_law_left", "_law_many"] []) (mP:mg "_law_pick" = some (.ref fP)) :
 aR P w K mg base aY 2 f fd ["_law_left", "_law_told"] (uD K):=by
 have GP:aR P w K mg base aY 1 fP vf ["_law_left", "_law_many"] sY:=ye FP T
 refine F.ok j7 (λvs H Q E h=>?_) (λcdv A outer s H vs Q E hr h=>?_)
 . obtain⟨l,t,xs,told,rfl,_⟩:=h
   rfl
 . obtain⟨l,t,xs,told,rfl,hl,hp,ig,hS,eN,kk⟩:=h
   obtain⟨tR,hR,rR⟩:=E7 (P:=P) (w:=w) (mg:=mg) (base:=base) (f:=f) (cdv:=cdv) (A:=A) (outer:=outer) (s:=s) (E:=E) hS ig eN ⟨xs,hl⟩ kk
   refine⟨_,aj (bz (i:=2) j7.nd rfl (Or.inr rfl) av)
    (aj (bz (i:=3) j7.nd rfl (Or.inl rfl) (eU abD aez PySem.F.type_str_split JV av (aa av ag)))
    (aj (bz (i:=4) j7.nd rfl (Or.inl rfl) (aB eP ak (aX GP hr rfl mP FP.kp bP .nil bJ (aa (pv 0) (aa ak ag)))))
    (aj (bz (i:=5) j7.nd rfl (Or.inr rfl) (aN bT (pv 3) (aX GP hr rfl mP FP.kp bP .nil bJ (aa (pv 0) (aa ak ag))) (λ_ _=>rfl)))
    (aj (cP (bg Lv (pv 4) ak (cp _))
     (au (bz (i:=5) j7.nd rfl (Or.inr rfl) (eU abD PySem.F.slot_str_join PySem.F.type_str_join Nl av (aa
      (dZ (N:=["_law_k", "_law_left", "_law_letters"]) (js:=[none,some 0,some 2]) (by kernel_rfl) rfl (dU rfl T.range (aa (pv 4) ag)) (λ_ _ _ _ _ _=>ar (i:=0) Uq rfl (Or.inl rfl) (.inr rfl)) (λ_ _ _ _ _ _=>bb)
       (λ_ _ _ _ _ _=>aN kQ (pv 2) (aX GP hr rfl mP FP.kp bP .nil bJ (aa (pv 1) (aa ak ag))) (λ_ _=>rfl))) ag)))) bh) hR)))),?_⟩
   refine⟨rfl,_,_,rfl,rfl,(by decide+kernel),(by decide+kernel),(by decide+kernel),λw1 Vt=>?_⟩
   rw[C3]
   have nw:l≠w1:=ae hl Vt
   refine⟨_,rfl,l,xs,9,rfl,(by rw[ai nw];exact hl),hp,by decide,by decide,λd ys H2 d0 d1 ib dw kp2=>⟨_,_,rfl,rfl,?_⟩⟩
   have Y7:H2 w1=some (.lst (gK.map V.str)):=kp2 w1 _ af (aav nw)
   refine⟨_,rfl,_,rfl,l,ys,11,rfl,dw,ib,by decide,by decide,λd2 mJ H3 e0 e1 oS tj jK=>?_⟩
   have Y8:H3 w1=some (.lst (gK.map V.str)):=jK w1 _ Y7 (aav nw)
   have Po:aL H H3 l:=((aL.ao Vt).trans kp2).trans jK
   have hlen:gK.length=11:=by decide+kernel
   have hd2:d2.toNat<gK.length:=by rw[hlen];lia
   have Y9:((d2.toNat:Nat):Int)=d2:=by lia
   have qj:ie (gK.map V.str) ((d2.toNat:Nat):Int)=some (.str gK[d2.toNat]):=gy (by rw[aal,aae hd2];rfl)
   rw[Y9]at qj
   have Be:aT gK[d2.toNat]:=C4 _ (abu hd2)
   refine⟨w1,_,_,.str gK[d2.toNat],rfl,rfl,aq.of Y8,qj,?_⟩
   refine⟨_,rfl,_,_,rfl,rfl,_,rfl,?_⟩
   refine jN (λhc=>?_) (λ_=>?_)
   . have bZ:(1:Int)+d<9:=abc hc
     refine⟨rfl,_,rfl,_,rfl,by lia,by lia,λD hD=>?_⟩
     have nD:l≠D:=ae tj hD
     refine iW (1+d).toNat (λi acc σ H'=>∃(zs:List Str) (v:Option V) (Bf:List V),acc=zs.map V.str/\zs.length=i/\(∀y∈zs,∃c∈aG,y=⟨#[c]⟩)/\σ=[v,some (.ref l),some (.str j8)]/\gf Bf/\H' l=some (.lst Bf)/\aL H3 H' l)
      ⟨[],none,mJ,rfl,rfl,λy hy=>(by cases hy),rfl,oS,(by rw[ai nD];exact tj),aL.ao hD⟩ af ?_ ?_
     . rintro acc σ H4 bx ⟨zs,v,Bf,rfl,LM,hz,rfl,lG,wU,j9⟩
       refine⟨aah _,?_⟩
       refine⟨"",D,zs,rfl,rfl,aq.of bx,?_,?_⟩
       . rw[Bb zs hz]
         have e0:("" : Str).length=0:=by decide+kernel
         rw[e0]
         lia
       . exact rR _ Bf H4 w1 _ (C5 (by lia) (by lia) hz) lG wU (Po.trans j9)
     . rintro i acc σ H4 hi bx ⟨zs,v,Bf,rfl,LM,hz,rfl,lG,wU,j9⟩
       refine⟨hi,?_⟩
       rintro x H' ⟨rfl,rfl⟩
       refine il ?_
       refine⟨_,rfl,_,rfl,l,Bf,26,rfl,wU,lG,by decide,by decide,λd' tm H5 c0 c1 oT wX gn=>?_⟩
       have vc:aG.length=26:=by decide
       have hd':d'.toNat<aG.length:=by lia
       have Za:((d'.toNat:Nat):Int)=d':=by lia
       have Pp:ie j8.cps.toList ((d'.toNat:Nat):Int)=some aG[d'.toNat]:=gy (by rw[x9];exact aae hd')
       rw[Za]at Pp
       have Pq:H5 D=some (.lst (zs.map V.str)):=gn D _ bx (aav nD)
       refine⟨j8,d',aG[d'.toNat],rfl,rfl,(by decide+kernel),Pp,_,Pq,?_,dJ hi af ⟨zs++[⟨#[aG[d'.toNat]]⟩],_,tm,?_,?_,λy hy=>?_,rfl,oT,?_,?_⟩⟩
       . rw[aaa]
         exact small (by lia)
       . rw[aaf]
         rfl
       . rw[aaj,aaK,LM]
       . rcases aag.mp hy with hy|hy
         . exact hz y hy
         . have:y=⟨#[aG[d'.toNat]]⟩:=by simpa using hy
           exact⟨_,abu hd',this⟩
       . rw[ai nD]
         exact wX
       . intro b o hb ka
         have nb:b≠D:=λz=>by rw[z,hD]at hb;cases hb
         rw[ai nb]
         exact gn b o (j9 b o hb ka) ka
   . exact rR _ mJ H3 w1 _ Be oS tj Po
end
noncomputable def Lit(names:List Str)(z:Str):Prop:=z = "0" \/ z = "1" \/ ∃x∈names,z=x\/z = "~" ++ x
inductive wY(K:W.Frag) (vs:List V) (H:Hp) (Q:VK):Prop
 | mk (l n:Addr) (xs:List V) (names:List Str) (h1:vs=[.ref l,.ref n]) (h2:H l=some (.lst xs)) (h3:gf xs) (h4:n≠l) (h5:aq K H n (names.map V.str)) (h6:names.length<=200) (h7:(∀z∈names,aT z)) (h8:∀(z:Str) (ys:List V) (H':Hp),Lit names z->gf ys->H' l=some (.lst ys)->aL H H' l->Q (.str z) H'):wY K vs H Q
noncomputable def oU(K:W.Frag):Sp:=λvs H Q _=>wY K vs H Q
theorem Bg{names:List Str}{i:Int}(h0:0<=i)(h1:i.toNat<names.length):ie (names.map V.str) i=some (.str names[i.toNat]):=by
 have e:((i.toNat:Nat):Int)=i:=by lia
 have:=gy (xs:=names.map V.str) (j:=i.toNat) (v:=.str names[i.toNat]) (by rw[aal,aae h1];rfl)
 rw[e]at this
 exact this
section
variable {P:Program}{w:World}{K:W.Frag}{mg:Str->Option Value}{base:Heap}
theorem zw:aK ["_law_left", "_law_names", "_law_spot"] ["_law_left", "_law_names"] (aw qV):=⟨rfl,rfl,rfl,by decide+kernel,rfl,by decide+kernel,by decide+kernel⟩
theorem wZ{f fP:Addr}{fd vf:FuncData}(F:aO K "_law_literal" "_law_literal" qV f fd)(T:Own mg)(FP:aO K "_law_pick" "_law_pick" uB fP vf)(bP:Binds K vf ["_law_left", "_law_many"] []) (mP:mg "_law_pick" = some (.ref fP)) :
 aR P w K mg base aY 2 f fd ["_law_left", "_law_names"] (oU K):=by
 have GP:aR P w K mg base aY 1 fP vf ["_law_left", "_law_many"] sY:=ye FP T
 refine F.ok zw (λvs H Q E h=>?_) (λcdv A outer s H vs Q E hr h=>?_)
 . obtain⟨l,n,xs,names,rfl,_⟩:=h
   rfl
 . obtain⟨l,n,xs,names,rfl,hl,hp,ig,hS,eN,lH,kk⟩:=h
   refine⟨_,aj (bz (i:=2) zw.nd rfl (Or.inl rfl) (aX GP hr rfl mP FP.kp bP .nil bJ (aa (pv 0) (aa (aB eP (aB ji ak (eR eA (by rfl) T.len abI (aa (pv 1) ag))) ak) ag))))
    (aj (cP (bg Ak (pv 2) (aB nZ (aB ji ak (eR eA (by rfl) T.len abI (aa (pv 1) ag))) ak) (cp _))
     (au (aI (aN kQ av (aB dE (pv 2) ak) (λ_ _=>rfl)))) bh)
    (au (aI (aB cS (aN bT (cq (aa av (aa av ag))) (aB dE (pv 2) ak) (λ_ _=>rfl)) (aN bT (pv 1) (aB iO (pv 2) ak) (λ_ _=>rfl)))))),?_⟩
   have el:((names.map V.str).length:Int)=(names.length:Int):=by rw[aaa]
   refine⟨_,rfl,_,rfl,n,_,rfl,.inl hS,_,_,rfl,rfl,.inl ⟨by decide,by decide⟩,_,_,rfl,rfl,l,xs,_,rfl,hl,hp,(by rw[el];lia),(by rw[el];lia),λd ys H2 d0 d1 ib dw kp2=>?_⟩
   rw[el]at d1
   have zx:aq K H2 n (names.map V.str):=kp2.seq hl hS ig
   refine⟨_,rfl,_,rfl,n,_,rfl,.inl zx,_,_,rfl,rfl,.inl ⟨by decide,by decide⟩,_,_,rfl,rfl,_,_,rfl,rfl,_,rfl,?_⟩
   have m0:0<=d % 2:=abN _ (by decide)
   have m2:d % 2<2:=abB _ (by decide)
   refine jN (λhc=>?_) (λhc=>?_)
   . have c2:("01" : Str).cps.toList=[48,49]:=by decide+kernel
     refine⟨_,rfl,_,_,rfl,rfl,(by show (0:Int)<2;decide), "01",_,if d % 2=0 then 48 else 49,rfl,rfl,(by decide+kernel),?_,kk _ ys H2 ?_ ib dw kp2⟩
     . rw[c2]
       rcases (show d % 2=0\/d % 2=1 by lia) with e|e
       . rw[e];rfl
       . rw[e];rfl
     . rcases (show d % 2=0\/d % 2=1 by lia) with e|e
       . rw[e];exact .inl (by decide+kernel)
       . rw[e];exact .inr (.inl (by decide+kernel))
   . have bZ:¬ (2*((names.map V.str).length:Int)-1<d):=λh=>hc (aaT h)
     rw[el]at bZ
     refine⟨(by show 2<=sizeLine;decide),λp iG=>?_⟩
     have hd2:(d / 2).toNat<names.length:=by lia
     have LN:aq K (upd H2 p (.lst [.str "",.str "~"])) n (names.map V.str):=ah.seq (ah.ao iG) zx
     have nl:l≠p:=ae dw iG
     refine⟨_,rfl,_,_,rfl,rfl,(by show (0:Int)<2;decide),p,_,_,.str (if d % 2=0 then "" else "~"),rfl,rfl,aq.of af,?_,_,rfl,_,rfl,_,_,rfl,rfl,⟨by decide,by decide⟩,n,_,_,_,rfl,rfl,LN,Bg (by lia) hd2,_,_,rfl,rfl,?_,?_⟩
     . rcases (show d % 2=0\/d % 2=1 by lia) with e|e
       . rw[e];rfl
       . rw[e];rfl
     . have h8:=(lH _ (abu hd2)).len
       have h1:(if d % 2=0 then ("" : Str) else "~").length<=1:=by
        split
        . decide+kernel
        . decide+kernel
       exact iq (by lia)
     . refine kk _ ys _ ?_ ib (by rw[ai nl];exact dw) (kp2.trans (aL.ao iG))
       refine .inr (.inr ⟨_,abu hd2,?_⟩)
       rcases (show d % 2=0\/d % 2=1 by lia) with e|e
       . left
         rw[aaI e]
         exact Dt (by rw[qf,sX,abM])
       . right
         rw[aay (by lia)]
end
noncomputable def aE(H:Hp)(p:Addr) (rs:List (List V)):Prop:=∃ts:List Addr,H p=some (.lst (ts.map V.ref))/\Paired (λt r=>H t=some (.tup r)) ts rs
noncomputable def bq(r:Str×Str):List V:=[.str r.1,.str r.2]
structure i6(names told:List Str) (rows:List (Str×Str)):Prop where
 nm:∀r∈rows,aT r.1
 lit:∀r∈rows,Lit names r.2
 ut:∀r∈rows,r.1∉told
 nd:(rows.map (·.1)).Nodup
theorem aE.keep{H H':Hp}{p l:Addr}{rs:List (List V)}{xs:List V}(h:aE H p rs) (k:aL H H' l) (hl:H l=some (.lst xs)) (hp:p≠l):aE H' p rs:=by
 obtain⟨ts,h1,h2⟩:=h
 exact⟨ts,k p _ h1 hp,Paired.bQ h2 λt r e=>k t _ e (gq e hl (by intro z;cases z))⟩
theorem aE.same{H H':Hp}{p:Addr}{rs:List (List V)}(h:aE H p rs) (k:ah H H'):aE H' p rs:=by
 obtain⟨ts,h1,h2⟩:=h
 exact⟨ts,k p _ h1,Paired.bQ h2 λt r e=>k t _ e⟩
theorem ir{α β:Type}{F:α->β->Prop} : ∀{l₁:List α}{l₂:List β}{i:Nat}{b:β},Paired F l₁ l₂->l₂[i]?=some b->∃a,l₁[i]?=some a/\F a b
 | _,_,i,b,.nil,h=>by simp at h
 | _,_,0,b,.cons h t,e=>⟨_,rfl,by simpa using (show _=_ from aaA e) ▸ h⟩
 | _,_,i+1,b,.cons h t,e=>let ⟨a,h1,h2⟩:=ir t (i:=i) (b:=b) (by simpa using e); ⟨a,by simpa using h1,h2⟩
theorem aE.snoc{H:Hp}{p t:Addr}{rs:List (List V)}{r:List V}{ts:List Addr}(h2:Paired (λt r=>H t=some (.tup r)) ts rs) (ht:H t=some (.tup r)) (hp:∀a xs,H a=some (.tup xs)->a≠p) :
 aE (upd H p (.lst (ts.map V.ref++[V.ref t]))) p (rs++[r]):=by
 refine⟨ts++[t],?_,abR (Paired.bQ h2 λa b e=>?_) ?_⟩
 . rw[af,aaf]
   rfl
 . rw[ai (hp a b e)]
   exact e
 . rw[ai (hp t r ht)]
   exact ht
inductive zy(K:W.Frag) (vs:List V) (H:Hp) (Q:VK):Prop
 | mk (l n t:Addr) (xs:List V) (names told:List Str) (m:Int) (h1:vs=[.ref l,.ref n,.ref t,.int m]) (h2:H l=some (.lst xs)) (h3:gf xs) (h4:n≠l) (h5:t≠l) (h6:aq K H n (names.map V.str)) (h7:names.length<=200) (h8:(∀z∈names,aT z)) (h9:H t=some (.lst (told.map V.str))) (h10:told.length<=20) (Vu:0<=m) (Vv:m<=20) (h13:∀(p:Addr) (rows:List (Str×Str)) (ys:List V) (H':Hp),H p=none->i6 names told rows->rows.length=m.toNat->aE H' p (rows.map bq)->gf ys->H' l=some (.lst ys)->aL H H' l->Q (.ref p) H'):zy K vs H Q
noncomputable def vR(K:W.Frag):Sp:=λvs H Q _=>zy K vs H Q
section
variable {P:Program}{w:World}{K:W.Frag}{mg:Str->Option Value}{base:Heap}
noncomputable abbrev Nu:List Str:=["_law_left", "_law_names", "_law_told", "_law_many", "_law_found", "_law_k", "_law_wish"]
noncomputable abbrev nR:List Str:=["_law_left", "_law_names", "_law_told", "_law_many"]
theorem qW:aK Nu nR (aw yd):=⟨rfl,rfl,rfl,by decide+kernel,rfl,by decide+kernel,by decide+kernel⟩
theorem Pr:(["_law_one"]:List Str).Nodup:=by decide+kernel
theorem zz{D p:Addr}{Q:Hp->Prop}{H1:Hp}{rows:List (Str×Str)}{ts:List Addr}(hD:H1 D=none) (hp:H1 p=some (.lst (ts.map V.ref))) (h2:Paired (λt r=>H1 t=some (.tup r)) ts (rows.map bq)) (hlen:rows.length<=100)
 (fin:Q (upd H1 D (.lst ((rows.map (·.1)).map V.str)))) :
 ∃W:Nat->Nat->St->Hp->Prop,(∃m,W 0 m [none] (upd H1 D (.lst [])))/\rT D (cv 0) vL (oP (eu K) (cg 0) (tC (.int 0))) (uV K p) W Q:=by
 have np:p≠D:=ae hp hD
 have GN:∀o,(upd H1 D o) p=some (.lst (ts.map V.ref)):=λo=>by rw[ai np];exact hp
 have dw:=h2.length
 rw[aaa]at dw
 refine iW rows.length (λi acc σ H=>acc=((rows.take i).map (·.1)).map V.str/\(∃v,σ=[v])/\H=upd H1 D (.lst acc)) ⟨rfl,⟨none,rfl⟩,rfl⟩ af ?_ ?_
 . rintro acc σ H _ ⟨rfl,_,rfl⟩
   refine⟨⟨_,aq.of (GN _),by rw[aaa,dw];exact aah _⟩,?_⟩
   rw[aaH]
   exact fin
 . rintro i acc σ H hi bx ⟨rfl,⟨v,rfl⟩,rfl⟩
   have eF:rows[i]?=some rows[i]:=aae hi
   obtain⟨t,ht,hT⟩:=ir h2 (i:=i) (b:=bq rows[i]) (by rw[aal,eF];rfl)
   have hx:(ts.map V.ref)[i]?=some (.ref t):=by rw[aal,ht];rfl
   refine⟨⟨_,_,aq.of (GN _),hx⟩,?_⟩
   rintro x H' ⟨rfl,gJ⟩
   have ex:=gJ _ (aq.of (GN _))
   rw[hx]at ex
   cases ex
   refine il ?_
   have nt:t≠D:=ae hT hD
   refine⟨_,rfl,t,_,_,.str rows[i].1,rfl,rfl,aM.of (by rw[ai nt];exact hT),rfl,_,af,?_,dJ hi af ⟨?_,⟨_,rfl⟩,by rw[j5]⟩⟩
   . rw[aaa,aaa,aaO]
     exact small (by lia)
   . rw[sZ (·.1) eF,aaf]
     rfl
theorem Hw{f fS fL fP:Addr}{fd Pt Pu vf:FuncData}(F:aO K "_law_wishes" "_law_wishes" yd f fd)(T:Own mg)(FP:aO K "_law_pick" "_law_pick" uB fP vf)(bP:Binds K vf ["_law_left", "_law_many"] []) (mP:mg "_law_pick" = some (.ref fP))
 (FS:aO K "_law_spelt" "_law_spelt" qg fS Pt) (bS:Binds K Pt ["_law_left", "_law_told"] []) (mS:mg "_law_spelt" = some (.ref fS)) (FL:aO K "_law_literal" "_law_literal" qV fL Pu) (bL:Binds K Pu ["_law_left", "_law_names"] []) (mL:mg "_law_literal" = some (.ref fL)) :
 aR P w K mg base aY 3 f fd nR (vR K):=by
 have GS:aR P w K mg base aY 2 fS Pt ["_law_left", "_law_told"] (uD K):=Bd FS T FP bP mP
 have GL:aR P w K mg base aY 2 fL Pu ["_law_left", "_law_names"] (oU K):=wZ FL T FP bP mP
 refine F.ok qW (λvs H Q E h=>?_) (λcdv A outer s H vs Q E hr h=>?_)
 . obtain⟨l,n,t,xs,names,told,m,rfl,_⟩:=h
   rfl
 . obtain⟨l,n,t,xs,names,told,m,rfl,hl,hp,mF,nu,hS,Bh,lH,hT,htn,m0,m1,kk⟩:=h
   refine⟨_,aj (bz (i:=4) qW.nd rfl (Or.inl rfl) (cq ag))
    (aj (df aaM rfl (dU rfl T.range (aa (pv 3) ag)) (ar (i:=5) qW.nd rfl (Or.inl rfl))
     (aj (bz (i:=6) qW.nd rfl (Or.inl rfl) (aX GS hr rfl mS FS.kp bS .nil bJ (aa (pv 0) (aa (aB jP (pv 2)
      (dZ (N:=["_law_one"]) (js:=[none]) (by kernel_rfl) rfl (bf (pv 4)) (λ_ _ _ _ _ _=>ar (i:=0) Pr rfl (Or.inl rfl) (.inr rfl)) (λ_ _ _ _ _ _=>bb)
       (λ_ _ _ _ _ _=>aN (r:=eu K) cN (pv 0) ak (λ_ _=>rfl)))) ag))))
     (au (dr (eU aaJ aaQ aaR cJ (pv 4) (aa (cx (aa (pv 6) (aa (aX GL hr rfl mL FL.kp bL .nil bJ (aa (pv 0) (aa (pv 1) ag))) ag))) ag))))))
    (au (aI (pv 4)))),?_⟩
   refine⟨(by show 0<=sizeLine;decide),λp iG=>?_⟩
   have LO:l≠p:=ae hl iG
   refine⟨_,rfl,_,rfl,by lia,by lia,ia (n:=m.toNat) (λi σ H2=>∃(rows:List (Str×Str)) (v5 v6:Option V) (ys:List V),σ=[some (.ref l),some (.ref n),some (.ref t),some (.int m),some (.ref p),v5,v6]/\rows.length=i/\i6 names told rows/\
    aE H2 p (rows.map bq)/\gf ys/\H2 l=some (.lst ys)/\aL H H2 l) ?_ ?_ ?_⟩
   . exact⟨[],none,none,xs,rfl,rfl,⟨(λ_ h=>nomatch h),(λ_ h=>nomatch h),(λ_ h=>nomatch h),ace⟩,⟨[],af,.nil⟩,hp,(by rw[ai LO];exact hl),aL.ao iG⟩
   . rintro i σ H2 hi ⟨rows,v5,v6,ys,rfl,Bi,hw,⟨ts,ib,kZ⟩,gO,dw,kp2⟩
     have u7:H2 t=some (.lst (told.map V.str)):=kp2 t _ hT nu
     have zx:aq K H2 n (names.map V.str):=kp2.seq hl hS mF
     have XQ:=kZ.length
     rw[aaa]at XQ
     refine⟨_,rfl,_,rfl,_,rfl,p,rfl,⟨_,aq.of ib⟩,λD hD=>zz hD ib kZ (by lia) ?_⟩
     have Zb:t≠D:=ae u7 hD
     have Zc:l≠D:=ae dw hD
     refine⟨t,D,_,_,rfl,rfl,(by rw[ai Zb];exact u7),af,?_,λq hq=>?_⟩
     . rw[aaa,aaa,aaa]
       exact mG (by lia)
     have Zd:l≠q:=ae (by rw[ai Zc];exact dw) hq
     have Ze:∀o3 o4,(upd H2 D o3) q=none->ah H2 (upd (upd H2 D o3) q o4):=λo3 o4 hz=>(ah.ao hD).trans (ah.ao hz)
     have vg:=Ze _ (.lst (told.map V.str++(rows.map (·.1)).map V.str)) hq
     generalize hG:upd _ q (HO.lst (told.map V.str++(rows.map (·.1)).map V.str))=H3 at *
     have LP:H3 q=some (.lst ((told++rows.map (·.1)).map V.str)):=by rw[← hG,af,aaf]
     have tj:H3 l=some (.lst ys):=vg l _ dw
     refine⟨l,q,ys,told++rows.map (·.1),rfl,tj,gO,aav Zd,aq.of LP,(by rw[aaj,aaa];lia),λz mJ H4 hz LL lG wU j9=>?_⟩
     have J0:aL H2 H4 l:=(ah.keep vg l).trans j9
     have XR:H4 p=some (.lst (ts.map V.ref)):=J0 p _ ib (aav LO)
     have Zf:aq K H4 n (names.map V.str):=J0.seq dw zx mF
     refine⟨_,rfl,.inl ⟨rfl,_,aq.of XR⟩,_,rfl,_,rfl,_,rfl,l,n,mJ,names,rfl,wU,lG,mF,Zf,Bh,lH,λz2 tm H5 vS oT wX gn=>?_⟩
     refine⟨(by show 2<=sizeLine;decide),λTp jQ=>?_⟩
     have J9:aL H2 H5 l:=J0.trans gn
     have j0:H5 p=some (.lst (ts.map V.ref)):=J9 p _ ib (aav LO)
     have rY:p≠Tp:=ae j0 jQ
     have Zg:l≠Tp:=ae wX jQ
     refine⟨p,_,_,rfl,rfl,(by rw[ai rY];exact j0),(by rw[aaa];exact small (by lia)),?_⟩
     have Zh:i6 names told (rows++[(z,z2)]):=by
      have Pw:z∉told/\z∉rows.map (·.1):=by
       constructor
       . exact λh=>LL (acf _ h)
       . exact λh=>LL (aaG _ h)
      refine⟨λr hr=>?_,λr hr=>?_,λr hr=>?_,?_⟩
      . rcases aag.mp hr with hr|hr
        . exact hw.nm r hr
        . rw[aao.mp hr];exact hz
      . rcases aag.mp hr with hr|hr
        . exact hw.lit r hr
        . rw[aao.mp hr];exact vS
      . rcases aag.mp hr with hr|hr
        . exact hw.ut r hr
        . rw[aao.mp hr];exact Pw.1
      . rw[aaf,aaB]
        refine⟨hw.nd,by simp,λa ha b hb e=>?_⟩
        have:b=z:=by simpa using hb
        rw[this]at e
        exact Pw.2 (e ▸ ha)
     refine⟨rows++[(z,z2)],_,_,tm,rfl,(by rw[aaj,aaK,Bi]),Zh,?_,oT,(by rw[ai LO,ai Zg];exact wX),λb o hb ka=>?_⟩
     . rw[aaf]
       refine aE.snoc (Paired.bQ kZ λa r e=>?_) af λa xf e z'=>?_
       . have ea:=J9 a _ e (gq e dw (by intro z;cases z))
         rw[ai (ae ea jQ)]
         exact ea
       . rw[z',ai rY,j0]at e
         cases e
     . have e5:=J9 b o (kp2 b o hb ka) ka
       rw[ai (ae hb iG),ai (ae e5 jQ)]
       exact e5
   . rintro σ H2 ⟨rows,v5,v6,ys,rfl,Bi,hw,tw,gO,dw,kp2⟩
     exact⟨_,rfl,kk p rows ys H2 iG hw Bi tw gO dw kp2⟩
end
structure ay where
 switches:List Str
 keepers:List (Str×V)
 gates:List (Str×Str×Str)
 nexts:List (Str×Str)
 nevers:List (Str×Str)
 somes:List (Str×Str)
noncomputable def fg(r:Str×V):List V:=[.str r.1,r.2]
noncomputable def cy(r:Str×Str×Str):List V:=[.str r.1,.str r.2.1,.str r.2.2]
noncomputable def bU(a1 a2 a3 a4 a5 a6:Addr):List (Key×V):=
 [(.inr "switches",.ref a1),(.inr "keepers",.ref a2),(.inr "gates",.ref a3),(.inr "nexts",.ref a4),(.inr "nevers",.ref a5),(.inr "somes",.ref a6)]
structure cb(H:Hp) (m:Addr) (M:ay) (a1 a2 a3 a4 a5 a6:Addr):Prop where
 top:H m=some (.dK (bU a1 a2 a3 a4 a5 a6))
 sw:H a1=some (.lst (M.switches.map V.str))
 kp:aE H a2 (M.keepers.map fg)
 gt:aE H a3 (M.gates.map cy)
 nx:aE H a4 (M.nexts.map bq)
 nv:aE H a5 (M.nevers.map bq)
 sm:aE H a6 (M.somes.map bq)
structure az(M:ay) (names:List Str):Prop where
 all:names=M.switches++M.keepers.map (·.1)++M.gates.map (·.1)
 nm:∀z∈names,aT z
 nd:names.Nodup
 first:∀r∈M.keepers,r.2=.int 0\/r.2=.int 1\/r.2=.aH
 nxk:∀r∈M.nexts,r.1∈M.keepers.map (·.1)
 nxl:∀r∈M.nexts,Lit names r.2
 nxd:(M.nexts.map (·.1)).Nodup
 nvw:i6 names [] M.nevers
 smw:i6 names (M.nevers.map (·.1)) M.somes
 gl:∀(i:Nat) (r:Str×Str×Str),M.gates[i]?=some r->Lit (M.switches++M.keepers.map (·.1)++(M.gates.take i).map (·.1)) r.2.1/\Lit (M.switches++M.keepers.map (·.1)++(M.gates.take i).map (·.1)) r.2.2
noncomputable def i9(K:W.Frag)(H:Hp)(z:Addr)(s0 s1 s2 s3:Int):Prop:=(aq K H z [.int s0,.int s1,.int s2,.int s3]\/aM K H z [.int s0,.int s1,.int s2,.int s3])/\(0<=s0/\s0<=12)/\(0<=s1/\s1<=16)/\(0<=s2/\s2<=60)/\1<=s3/\s3<=8
theorem ah.lT{K:W.Frag}{H H':Hp}{a:Addr}{xs:List V}(e:ah H H')(h:aM K H a xs):aM K H' a xs:=by
 rcases h with (h|⟨o,h⟩)|h
 . exact .inl (.inl (e a _ h))
 . exact .inl (.inr ⟨o,e a _ h⟩)
 . exact .inr h
theorem i9.same{K:W.Frag}{H H':Hp}{z:Addr}{s0 s1 s2 s3:Int}(h:i9 K H z s0 s1 s2 s3)(k:ah H H'):i9 K H' z s0 s1 s2 s3:=⟨h.1.imp (ah.seq k) (ah.lT k),h.2⟩
theorem i9.ix{K:W.Frag}{H:Hp}{z:Addr}{s0 s1 s2 s3:Int}(h:i9 K H z s0 s1 s2 s3){i:Int}{v:V}{Q:VK}(hi:ie [V.int s0,.int s1,.int s2,.int s3] i=some v)(q:Q v H):Vd K (.ref z) (.int i) H Q:=by
 rcases h.1 with h|h
 . exact .inl ⟨z,_,i,v,rfl,rfl,h,hi,q⟩
 . exact .inr (.inl ⟨z,_,i,v,rfl,rfl,h,hi,q⟩)
noncomputable abbrev Px:List Str:=["_law_cells", "_law_sizes", "_law_k", "_law_a", "_law_b", "_law_c", "_law_names", "_law_switches", "_law_keepers", "_law_gates", "_law_name", "_law_nexts", "_law_keeper", "_law_first", "_law_nevers", "_law_somes", "_law_made_here"]
noncomputable abbrev tE:List Str:=["_law_cells", "_law_sizes"]
theorem gQ:aK Px tE (aw g0):=⟨rfl,rfl,rfl,by decide+kernel,rfl,by decide+kernel,by decide+kernel⟩
noncomputable abbrev Al(P:Program)(w:World)(K:W.Frag)(mg:Str->Option Value)(base:Heap)(f:Addr)(cdv:Value)(A:Around)(outer:List Env)(s:Shared)(H:Hp)(E:XK):Cx:=
 (jj aY P w K mg base Px "_law_machine_digits" (aw g0) f cdv A outer s H E).kz
section
variable {P:Program}{w:World}{K:W.Frag}{mg:Str->Option Value}{base:Heap}
structure Defs(P:Program) (w:World) (K:W.Frag) (mg:Str->Option Value) (base:Heap) (fP fS fL fW fR:Addr) (dP dS dL dW dR:FuncData):Prop where
 T:Own mg
 gP:aR P w K mg base aY 1 fP dP ["_law_left", "_law_many"] sY
 mP:mg "_law_pick" = some (.ref fP)
 kP:W.keepIn K (.ref fP)=true
 bP:Binds K dP ["_law_left", "_law_many"] []
 gS:aR P w K mg base aY 2 fS dS ["_law_left", "_law_told"] (uD K)
 mS:mg "_law_spelt" = some (.ref fS)
 kS:W.keepIn K (.ref fS)=true
 bS:Binds K dS ["_law_left", "_law_told"] []
 gL:aR P w K mg base aY 2 fL dL ["_law_left", "_law_names"] (oU K)
 mL:mg "_law_literal" = some (.ref fL)
 kL:W.keepIn K (.ref fL)=true
 bL:Binds K dL ["_law_left", "_law_names"] []
 gW:aR P w K mg base aY 3 fW dW nR (vR K)
 mW:mg "_law_wishes" = some (.ref fW)
 kW:W.keepIn K (.ref fW)=true
 bW:Binds K dW nR []
 gR:aR P w K mg base aY 2 fR dR ["_law_cell", "_law_k"] wQ
 mR:mg "_law_rich" = some (.ref fR)
 kR:W.keepIn K (.ref fR)=true
 bR:Binds K dR ["_law_cell", "_law_k"] []
variable {fP fS fL fW fR:Addr}{dP dS dL dW dR:FuncData}
structure Bj(K:W.Frag) (H:Hp) (z c n a1 a2 a3 a4:Addr) (s0 s1 s2 s3:Int) (names sw:List Str) (kp:List (Str×V)) (gt:List (Str×Str×Str)) (nx:List (Str×Str)):Prop where
 pc:∃xs,H c=some (.lst xs)/\gf xs
 hz:i9 K H z s0 s1 s2 s3
 zc:z≠c
 hn:H n=some (.lst (names.map V.str))
 nc:n≠c
 nl:names.length<=100
 nm:∀x∈names,aT x
 h1:H a1=some (.lst (sw.map V.str))
 c1:a1≠c
 h2:aE H a2 (kp.map fg)
 c2:a2≠c
 h3:aE H a3 (gt.map cy)
 c3:a3≠c
 h4:aE H a4 (nx.map bq)
 c4:a4≠c
theorem aL.lT{H H':Hp}{a l:Addr}{xs n:List V}(e:aL H H' l) (hl:H l=some (.lst n)) (h:aM K H a xs) (ig:a≠l):aM K H' a xs:=by
 rcases h with (h|⟨o,h⟩)|h
 . exact .inl (.inl (e a _ h ig))
 . exact .inl (.inr ⟨o,e a _ h ig⟩)
 . exact .inr h
theorem Bj.keep{H H':Hp}{z c n a1 a2 a3 a4:Addr}{s0 s1 s2 s3:Int}{names sw:List Str}{kp:List (Str×V)}{gt:List (Str×Str×Str)}{nx:List (Str×Str)}{ys:List V}(h:Bj K H z c n a1 a2 a3 a4 s0 s1 s2 s3 names sw kp gt nx) (k:aL H H' c) (hy:H' c=some (.lst ys)) (hp:gf ys) :
 Bj K H' z c n a1 a2 a3 a4 s0 s1 s2 s3 names sw kp gt nx:=by
 obtain⟨xs,hc,_⟩:=h.pc
 exact⟨⟨ys,hy,hp⟩,⟨h.hz.1.imp (λq=>k.seq hc q h.zc) (λq=>aL.lT k hc q h.zc),h.hz.2⟩,h.zc,k n _ h.hn h.nc,h.nc,h.nl,h.nm,k a1 _ h.h1 h.c1,h.c1,h.h2.keep k hc h.c2,h.c2,h.h3.keep k hc h.c3,h.c3,h.h4.keep k hc h.c4,h.c4⟩
theorem Bj.same{H H':Hp}{z c n a1 a2 a3 a4:Addr}{s0 s1 s2 s3:Int}{names sw:List Str}{kp:List (Str×V)}{gt:List (Str×Str×Str)}{nx:List (Str×Str)}(h:Bj K H z c n a1 a2 a3 a4 s0 s1 s2 s3 names sw kp gt nx) (k:ah H H') :
 Bj K H' z c n a1 a2 a3 a4 s0 s1 s2 s3 names sw kp gt nx:=by
 obtain⟨xs,hc,hp⟩:=h.pc
 exact⟨⟨xs,k c _ hc,hp⟩,h.hz.same k,h.zc,k n _ h.hn,h.nc,h.nl,h.nm,k a1 _ h.h1,h.c1,h.h2.same k,h.c2,h.h3.same k,h.c3,h.h4.same k,h.c4⟩
theorem Ur(G:Defs P w K mg base fP fS fL fW fR dP dS dL dW dR){f:Addr}{cdv:Value}{A:Around}{outer:List Env}{s:Shared}{H:Hp}{E:XK}{Q:VK}(hr:aW 3 (A.deeper (PyProof.Rows.envOfC "_law_machine_digits" (aw g0) s.heap.objs.size f cdv))) :
 ∃tR:TS,gj (Al P w K mg base f cdv A outer s H E) (List.drop 10 (c8 g0)) tR/\∀(σ:St) (H1:Hp) (v0 v2 v3 v4 v10 rZ r8:Option V) (z c n a1 a2 a3 a4:Addr) (s0 s1 s2 s3:Int) (names sw:List Str) (kp:List (Str×V)) (gt:List (Str×Str×Str)) (nx:List (Str×Str)),
  σ=[v0,some (.ref z),v2,v3,v4,some (.ref c),some (.ref n),some (.ref a1),some (.ref a2),some (.ref a3),v10,some (.ref a4),rZ,r8,none,none,none]->
  Bj K H1 z c n a1 a2 a3 a4 s0 s1 s2 s3 names sw kp gt nx->
  (∀(m:Addr) (nv sm:List (Str×Str)) (a5 a6:Addr) (H':Hp),i6 names [] nv->i6 names (nv.map (·.1)) sm->1<=nv.length->(nv.length:Int)<=s3->(sm.length:Int)<=s3->cb H' m ⟨sw,kp,gt,nx,nv,sm⟩ a1 a2 a3 a4 a5 a6->aL H1 H' c->Q (.ref m) H')->
  tR {nx:=λ_ H'=>Q .aH H',rt:=Q} σ H1:=by
 have ef:aW 1 _:=hr.mono (by decide)
 have hu:=dY hr
 refine⟨_,aj (bz (i:=14) gQ.nd rfl (Or.inl rfl) (aX G.gW hr rfl G.mW G.kW G.bW .nil bJ (aa (pv 5) (aa (pv 6) (aa (cq ag) (aa (aB eP ak (aX G.gP ef rfl G.mP G.kP G.bP .nil bJ (aa (pv 5) (aa (aN sP (pv 1) ak (λ_ _=>rfl)) ag)))) ag))))))
  (aj (bz (i:=15) gQ.nd rfl (Or.inl rfl) (aX G.gW hr rfl G.mW G.kW G.bW .nil bJ (aa (pv 5) (aa (pv 6) (aa
   (dZ (N:=["_law_one"]) (js:=[none]) (by kernel_rfl) rfl (bf (pv 14)) (λ_ _ _ _ _ _=>ar (i:=0) Pr rfl (Or.inl rfl) (.inr rfl)) (λ_ _ _ _ _ _=>bb) (λ_ _ _ _ _ _=>aN (r:=eu K) cN (pv 0) ak (λ_ _=>rfl)))
   (aa (aX G.gP ef rfl G.mP G.kP G.bP .nil bJ (aa (pv 5) (aa (aB eP (aN sP (pv 1) ak (λ_ _=>rfl)) ak) ag))) ag))))))
  (aj (bz (i:=16) gQ.nd rfl (Or.inl rfl) (uA (eS av (pv 7) (eS av (pv 8) (eS av (pv 9) (eS av (pv 11) uz)))) rfl rfl (by simp) (by decide)))
  (aj (eI hu (pv 16) av (pv 14) rfl)
  (aj (eI hu (pv 16) av (pv 15) rfl)
  (au (aI (pv 16))))))),?_⟩
 rintro σ H1 v0 v2 v3 v4 v10 rZ r8 z c n a1 a2 a3 a4 s0 s1 s2 s3 names sw kp gt nx rfl hA kk
 obtain⟨xs,hc,hp⟩:=hA.pc
 obtain⟨_,_,_,_,z1,z2⟩:=hA.hz
 have mF:=hA.nl
 refine⟨_,rfl,_,rfl,(by show 0<=sizeLine;decide),λt0 Py=>?_⟩
 have A1:=hA.same (ah.ao (o:=.lst []) Py)
 have Pz:c≠t0:=ae hc Py
 have PB:(upd H1 t0 (.lst [])) c=some (.lst xs):=by rw[ai Pz];exact hc
 refine⟨_,rfl,_,rfl,A1.hz.ix (i:=3) (v:=.int s3) rfl ?_⟩
 refine⟨c,xs,s3,rfl,PB,hp,by lia,by lia,λd ys H2 d0 d1 ib dw kp2=>⟨_,_,rfl,rfl,?_⟩⟩
 have A2:=A1.keep kp2 dw ib
 have XS:H2 t0=some (.lst (([]:List Str).map V.str)):=kp2 t0 _ af (aav Pz)
 refine⟨c,n,t0,ys,names,[],1+d,rfl,dw,ib,A2.nc,aav Pz,aq.of A2.hn,by lia,A2.nm,XS,by decide,by lia,by lia,λa5 nv mJ H3 vh Zi aef Vw oS tj jK=>?_⟩
 have A3:=A2.keep jK tj oS
 have Vx:a5≠c:=aav (ae dw vh)
 obtain⟨ts,h5,kZ⟩:=id Vw
 refine⟨_,rfl,_,rfl,_,rfl,a5,rfl,⟨_,aq.of h5⟩,λD hD=>zz hD h5 kZ (by lia) ?_⟩
 have Dy:ah H3 (upd H3 D (.lst ((nv.map (·.1)).map V.str))):=ah.ao hD
 have A4:=A3.same Dy
 have PD:c≠D:=ae tj hD
 have Hx:(upd H3 D (.lst ((nv.map (·.1)).map V.str))) c=some (.lst mJ):=by rw[ai PD];exact tj
 refine⟨_,rfl,_,rfl,A4.hz.ix (i:=3) (v:=.int s3) rfl ⟨_,_,rfl,rfl,c,mJ,_,rfl,Hx,oS,by lia,by lia,λd' tm H5 e0 e1 oT wX gn=>?_⟩⟩
 have A5:=A4.keep gn wX oT
 have Pq:H5 D=some (.lst ((nv.map (·.1)).map V.str)):=gn D _ af (aav PD)
 refine⟨c,n,D,tm,names,nv.map (·.1),d',rfl,wX,oT,A5.nc,aav PD,aq.of A5.hn,by lia,A5.nm,Pq,(by rw[aaa];lia),by lia,by lia,λa6 sm LQ H6 Dz Zj aeg Zk PF Zl tF=>?_⟩
 have A6:=A5.keep tF Zl PF
 have T5:aE H6 a5 (nv.map bq):=((Vw.same Dy).keep gn Hx Vx).keep tF wX Vx
 have nc6:a6≠c:=aav (ae wX Dz)
 intro m hm
 refine⟨_,rfl,_,rfl,_,rfl,_,rfl,af,[(.inr "switches",.ref a1),(.inr "keepers",.ref a2),(.inr "gates",.ref a3),(.inr "nexts",.ref a4)],rfl,(by show 4<=15;decide),?_⟩
 rw[j5]
 have em:bA [] [((.inr "switches" : Key),V.ref a1),(.inr "keepers",.ref a2),(.inr "gates",.ref a3),(.inr "nexts",.ref a4)]=[((.inr "switches" : Key),V.ref a1),(.inr "keepers",.ref a2),(.inr "gates",.ref a3),(.inr "nexts",.ref a4)]:=by rfl
 rw[em]
 refine⟨_,rfl,_,rfl,m,_,rfl,fE.k (k:=.inr "nevers") af (by show 4<sizeLine;decide),?_⟩
 rw[j5]
 have en:putK [((.inr "switches" : Key),V.ref a1),(.inr "keepers",.ref a2),(.inr "gates",.ref a3),(.inr "nexts",.ref a4)] (.inr "nevers") (.ref a5)=[((.inr "switches" : Key),V.ref a1),(.inr "keepers",.ref a2),(.inr "gates",.ref a3),(.inr "nexts",.ref a4),(.inr "nevers",.ref a5)]:=by rfl
 rw[en]
 refine⟨_,rfl,_,rfl,m,_,rfl,fE.k (k:=.inr "somes") af (by show 5<sizeLine;decide),?_⟩
 rw[j5]
 have es:putK [((.inr "switches" : Key),V.ref a1),(.inr "keepers",.ref a2),(.inr "gates",.ref a3),(.inr "nexts",.ref a4),(.inr "nevers",.ref a5)] (.inr "somes") (.ref a6)=bU a1 a2 a3 a4 a5 a6:=by rfl
 rw[es]
 have zA:ah H6 (upd H6 m (.dK (bU a1 a2 a3 a4 a5 a6))):=ah.ao hm
 have A7:=A6.same zA
 refine⟨_,rfl,kk m nv sm a5 a6 _ Zi Zj (by lia) (by lia) (by lia) ⟨af,A7.h1,A7.h2,A7.h3,A7.h4,T5.same zA,Zk.same zA⟩ ?_⟩
 exact(((((aL.ao Py).trans kp2).trans jK).trans (ah.keep Dy c)).trans (gn.trans tF)).trans (ah.keep zA c)
end
theorem pM{α β:Type}{F:α->β->Prop} : ∀{l₁:List α}{l₂:List β}(k:Nat),Paired F l₁ l₂->Paired F (l₁.take k) (l₂.take k)
 | _,_,k,.nil=>by simp only[List.take_nil];exact .nil
 | _,_,0,.cons _ _=>.nil
 | _,_,k+1,.cons h t=>.cons h (pM k t)
theorem vi{α β:Type}{F:α->β->Prop} : ∀{l₁:List α}{l₂:List β}(k:Nat),Paired F l₁ l₂->Paired F (l₁.drop k) (l₂.drop k)
 | _,_,k,.nil=>by simp only[List.drop_nil];exact .nil
 | _,_,0,.cons h t=>.cons h t
 | _,_,k+1,.cons h t=>vi k t
theorem ni{α β:Type}{F:α->β->Prop} : ∀{l₁ m₁:List α}{l₂ m₂:List β},Paired F l₁ l₂->Paired F m₁ m₂->Paired F (l₁++m₁) (l₂++m₂)
 | _,_,_,_,.nil,h=>h
 | _,_,_,_,.cons a t,h=>.cons a (ni t h)
section
variable {P:Program}{w:World}{K:W.Frag}{mg:Str->Option Value}{base:Heap}{fP fS fL fW fR:Addr}{dP dS dL dW dR:FuncData}
structure LR(K:W.Frag) (H:Hp) (z c n a1 a2 a3:Addr) (s0 s1 s2 s3:Int) (names sw:List Str) (kp:List (Str×V)) (gt:List (Str×Str×Str)):Prop where
 pc:∃xs,H c=some (.lst xs)/\gf xs
 hz:i9 K H z s0 s1 s2 s3
 zc:z≠c
 hn:H n=some (.lst (names.map V.str))
 nc:n≠c
 nl:names.length<=100
 nm:∀x∈names,aT x
 h1:H a1=some (.lst (sw.map V.str))
 c1:a1≠c
 h2:aE H a2 (kp.map fg)
 c2:a2≠c
 h3:aE H a3 (gt.map cy)
 c3:a3≠c
 kd:(kp.map (·.1)).Nodup
 kl:kp.length<=16
theorem LR.keep{H H':Hp}{z c n a1 a2 a3:Addr}{s0 s1 s2 s3:Int}{names sw:List Str}{kp:List (Str×V)}{gt:List (Str×Str×Str)}{ys:List V}(h:LR K H z c n a1 a2 a3 s0 s1 s2 s3 names sw kp gt) (k:aL H H' c) (hy:H' c=some (.lst ys)) (hp:gf ys) :
 LR K H' z c n a1 a2 a3 s0 s1 s2 s3 names sw kp gt:=by
 obtain⟨xs,hc,_⟩:=h.pc
 exact⟨⟨ys,hy,hp⟩,⟨h.hz.1.imp (λq=>k.seq hc q h.zc) (λq=>aL.lT k hc q h.zc),h.hz.2⟩,h.zc,k n _ h.hn h.nc,h.nc,h.nl,h.nm,k a1 _ h.h1 h.c1,h.c1,h.h2.keep k hc h.c2,h.c2,h.h3.keep k hc h.c3,h.c3,h.kd,h.kl⟩
noncomputable def E8(names:List Str) (kp:List (Str×V)) (nx:List (Str×Str)):Prop:=(∀r∈nx,r.1∈kp.map (·.1)/\Lit names r.2)/\(nx.map (·.1)).Nodup
theorem Hy{α:Type}{l:List α}{a:α}(h:l.Nodup)(ha:a∉l)(d:Nat):(l.take d++[a]++l.drop d).Nodup:=by
 have p:(l.take d++[a]++l.drop d).Perm (a::l):=by
  rw[abl]
  have:=List.perm_middle (a:=a) (l₁:=l.take d) (l₂:=l.drop d)
  rw[ado]at this
  exact this
 exact p.nodup_iff.mpr (aaU.mpr ⟨ha,h⟩)
theorem DA{β:Type} : ∀{kp:List (Str×β)}{i:Nat}(hi:i<kp.length),(kp.map (·.1)).Nodup->kp[i].1∉(kp.take i).map (·.1)
 | x::r,0,_,_=>by simp
 | x::r,i+1,hi,h=>by
  rw[aas,aaU]at h
  have ih:=DA (kp:=r) (i:=i) (by simpa using hi) h.2
  simp only[ac6,aco,aas,aan,adU]
  refine⟨λe=>h.1 ?_,ih⟩
  rw[← e]
  exact aai.mpr ⟨_,abu _,rfl⟩
theorem vT{β:Type}{kp:List (Str×β)}{i j:Nat}{x:Str}(Zm:i<=j) (h:x∈(kp.take i).map (·.1)):x∈(kp.take j).map (·.1):=by
 obtain⟨r,hr,e⟩:=aai.mp h
 refine aai.mpr ⟨r,?_,e⟩
 have:kp.take i=(kp.take j).take i:=by rw[List.take_take,aeM Zm]
 rw[this]at hr
 exact abz hr
noncomputable abbrev Us(Q:VK)(s3:Int)(H1:Hp)(c a1 a2 a3:Addr)(names sw:List Str) (kp:List (Str×V)) (gt:List (Str×Str×Str)):Prop:=
 ∀(m:Addr) (nx nv sm:List (Str×Str)) (a4 a5 a6:Addr) (H':Hp),E8 names kp nx->nx.length<=kp.length->i6 names [] nv->i6 names (nv.map (·.1)) sm->1<=nv.length->(nv.length:Int)<=s3->(sm.length:Int)<=s3->cb H' m ⟨sw,kp,gt,nx,nv,sm⟩ a1 a2 a3 a4 a5 a6->aL H1 H' c->Q (.ref m) H'
theorem Ut(G:Defs P w K mg base fP fS fL fW fR dP dS dL dW dR){f:Addr}{cdv:Value}{A:Around}{outer:List Env}{s:Shared}{H:Hp}{E:XK}{Q:VK}(hr:aW 3 (A.deeper (PyProof.Rows.envOfC "_law_machine_digits" (aw g0) s.heap.objs.size f cdv))) :
 ∃tR:TS,gj (Al P w K mg base f cdv A outer s H E) (List.drop 8 (c8 g0)) tR/\∀(σ:St) (H1:Hp) (v0 v2 v3 v4 v10:Option V) (z c n a1 a2 a3:Addr) (s0 s1 s2 s3:Int) (names sw:List Str) (kp:List (Str×V)) (gt:List (Str×Str×Str)),
  σ=[v0,some (.ref z),v2,v3,v4,some (.ref c),some (.ref n),some (.ref a1),some (.ref a2),some (.ref a3),v10,none,none,none,none,none,none]->
  LR K H1 z c n a1 a2 a3 s0 s1 s2 s3 names sw kp gt->Us Q s3 H1 c a1 a2 a3 names sw kp gt->
  tR {nx:=λ_ H'=>Q .aH H',rt:=Q} σ H1:=by
 have ef:aW 1 _:=hr.mono (by decide)
 have gp:aW 2 _:=hr.mono (by decide)
 obtain⟨tD,hD,rD⟩:=Ur G (outer:=outer) (H:=H) (E:=E) (Q:=Q) hr
 refine⟨_,aj (bz (i:=11) gQ.nd rfl (Or.inl rfl) (cq ag))
  (aj (df aaM rfl (bf (pv 8)) (cw rfl (ax (ar (i:=12) gQ.nd rfl (Or.inl rfl)) (ax (ar (i:=13) gQ.nd rfl (Or.inl rfl)) bF)))
   (au (cP (bg Ak (aX G.gP ef rfl G.mP G.kP G.bP .nil bJ (aa (pv 5) (aa ak ag))) ak (cp _))
    (au (dr (eU aaJ PySem.F.slot_list_insert PySem.F.type_list_insert Hf (pv 11) (aa
     (aX G.gP ef rfl G.mP G.kP G.bP .nil bJ (aa (pv 5) (aa (aB eP (eR eA (by rfl) G.T.len abI (aa (pv 11) ag)) ak) ag)))
     (aa (cx (aa (pv 12) (aa (aX G.gL gp rfl G.mL G.kL G.bL .nil bJ (aa (pv 5) (aa (pv 6) ag))) ag))) ag))))) bh))) hD),?_⟩
 rintro σ H1 v0 v2 v3 v4 v10 z c n a1 a2 a3 s0 s1 s2 s3 names sw kp gt rfl hA kk
 obtain⟨xs,hc,hp⟩:=hA.pc
 obtain⟨ts,h2,kZ⟩:=id hA.h2
 have zB:=hA.kl
 have mF:=hA.nl
 have nu:=kZ.length
 rw[aaa]at nu
 refine⟨(by show 0<=sizeLine;decide),λp iG=>?_⟩
 have tG:c≠p:=ae hc iG
 have Zn:a2≠p:=ae h2 iG
 refine⟨_,rfl,a2,rfl,⟨_,aq.of (by rw[ai Zn];exact h2)⟩,fo (K:=K) (a:=a2) (xs:=ts.map V.ref) (λi σ H2=>∃(nx:List (Str×Str)) (rZ r8:Option V) (ys:List V),
  σ=[v0,some (.ref z),v2,v3,v4,some (.ref c),some (.ref n),some (.ref a1),some (.ref a2),some (.ref a3),v10,some (.ref p),rZ,r8,none,none,none]/\nx.length<=i/\E8 names (kp.take i) nx/\aE H2 p (nx.map bq)/\gf ys/\H2 c=some (.lst ys)/\aL H1 H2 c) ?_ ?_ ?_ ?_⟩
 . exact⟨[],none,none,xs,rfl,aah _,⟨(λ_ h=>nomatch h),ace⟩,⟨[],af,.nil⟩,hp,(by rw[ai tG];exact hc),aL.ao iG⟩
 . rintro i σ H2 _ ⟨nx,rZ,r8,ys,_,_,_,_,_,_,kp2⟩
   exact aq.of (kp2 a2 _ h2 hA.c2)
 . rintro i x σ H2 hx ⟨nx,rZ,r8,ys,rfl,xg,ql,⟨us,ib,fH⟩,gO,nz,kp2⟩
   have vj:i<(ts.map V.ref).length:=(aaq.mp hx).1
   rw[aaa,nu]at vj
   have Vy:kp[i]?=some kp[i]:=aae vj
   obtain⟨t,ht,hT⟩:=ir kZ (i:=i) (b:=fg kp[i]) (by rw[aal,Vy];rfl)
   have ex:x=.ref t:=by
    rw[aal,ht]at hx
    exact(aaA hx).symm
   subst ex
   have u7:H2 t=some (.tup (fg kp[i])):=kp2 t _ hT (gq hT hc (by intro z;cases z))
   refine⟨t,_,rfl,aM.of u7,rfl,_,_,rfl,_,_,rfl,rfl,?_⟩
   refine⟨_,rfl,c,ys,5,rfl,nz,gO,by decide,by decide,λd mJ H3 d0 d1 oS Vz jK=>⟨_,_,rfl,rfl,_,rfl,?_⟩⟩
   have Ka:aL H1 H3 c:=kp2.trans jK
   have XT:aE H3 p (nx.map bq):=aE.keep ⟨us,ib,fH⟩ jK nz (aav tG)
   refine jN (λ_=>?_) (λ_=>?_)
   . have tH:H3 p=some (.lst (us.map V.ref)):=jK p _ ib (aav tG)
     have ox:=fH.length
     rw[aaa]at ox
     refine⟨_,rfl,.inl ⟨rfl,_,aq.of tH⟩,_,rfl,_,rfl,p,_,rfl,.inl (aq.of tH),_,_,rfl,rfl,c,mJ,_,rfl,Vz,oS,(by rw[aaa];lia),(by rw[aaa];lia),λd2 tm H4 e0 e1 lG Hx j9=>?_⟩
     rw[aaa]at e1
     have A4:=hA.keep (Ka.trans j9) Hx lG
     refine⟨_,rfl,_,rfl,_,rfl,c,n,tm,names,rfl,Hx,lG,A4.nc,aq.of A4.hn,by lia,A4.nm,λlt LQ H5 vS oT LS gn=>?_⟩
     refine⟨(by show 2<=sizeLine;decide),λTp jQ=>?_⟩
     have j0:H5 p=some (.lst (us.map V.ref)):=gn p _ (j9 p _ tH (aav tG)) (aav tG)
     have rY:p≠Tp:=ae j0 jQ
     have Zo:c≠Tp:=ae LS jQ
     refine⟨p,_,d2,_,rfl,rfl,(by rw[ai rY];exact j0),e0,(by rw[aaa];lia),(by rw[aaa];exact small (by lia)),?_⟩
     have XU:∀a xf,(upd H5 Tp (HO.tup [V.str kp[i].1,V.str lt])) a=some (.tup xf)->a≠p:=λa xf e z'=>by
      rw[z',ai rY,j0]at e
      cases e
     have PH:Paired (λt r=>(upd (upd H5 Tp (HO.tup [V.str kp[i].1,V.str lt])) p (.lst ((us.map V.ref).take d2.toNat++[V.ref Tp]++(us.map V.ref).drop d2.toNat))) t=some (.tup r)) us (nx.map bq):=Paired.bQ fH λa r e=>by
      have ea:H5 a=some (.tup r):=gn a _ (j9 a _ (jK a _ e (gq e nz (by intro z;cases z))) (gq e nz (by intro z;cases z))) (gq e nz (by intro z;cases z))
      have eb:(upd H5 Tp (HO.tup [V.str kp[i].1,V.str lt])) a=some (.tup r):=by rw[ai (ae ea jQ)];exact ea
      rw[ai (XU a r eb)]
      exact eb
     refine⟨nx.take d2.toNat++[(kp[i].1,lt)]++nx.drop d2.toNat,_,_,LQ,rfl,?_,⟨λr hr=>?_,?_⟩,⟨us.take d2.toNat++[Tp]++us.drop d2.toNat,?_,?_⟩,oT,?_,λb o hb PJ=>?_⟩
     . simp only[aaj,aaO,aew,aaK]
       lia
     . rcases aag.mp hr with hr|hr
       . rcases aag.mp hr with hr|hr
         . exact⟨vT (acT _) (ql.1 r (abz hr)).1,(ql.1 r (abz hr)).2⟩
         . rw[aao.mp hr]
           refine⟨?_,vS⟩
           rw[sZ (·.1) Vy]
           exact aaG _ (aao.mpr rfl)
       . exact⟨vT (acT _) (ql.1 r (aeQ hr)).1,(ql.1 r (aeQ hr)).2⟩
     . have hn:kp[i].1∉nx.map (·.1):=λhm=>by
        obtain⟨r,hr,e⟩:=aai.mp hm
        exact DA vj hA.kd (e ▸ (ql.1 r hr).1)
       have hq:=Hy ql.2 hn d2.toNat
       rw[aaf,aaf,abO,ae1]
       exact hq
     . rw[af]
       simp only[aaf,abO,ae1,aas,abY]
     . rw[aaf,aaf,abO,ae1]
       refine ni (ni (pM _ PH) (.cons ?_ .nil)) (vi _ PH)
       rw[ai (aav rY),af]
       rfl
     . rw[ai tG,ai Zo]
       exact LS
     . have e5:=gn b o (j9 b o (Ka b o hb PJ) PJ) PJ
       rw[ai (ae hb iG),ai (ae e5 jQ)]
       exact e5
   . exact⟨nx,_,_,mJ,rfl,by lia,⟨λr hr=>⟨vT (acT _) (ql.1 r hr).1,(ql.1 r hr).2⟩,ql.2⟩,XT,oS,Vz,Ka⟩
 . rintro σ H2 ⟨nx,rZ,r8,ys,rfl,xg,ql,tw,gO,nz,kp2⟩
   rw[aaa,nu]at xg ql
   rw[aaH]at ql
   have A2:=hA.keep kp2 nz gO
   refine rD _ H2 v0 v2 v3 v4 v10 rZ r8 z c n a1 a2 a3 p s0 s1 s2 s3 names sw kp gt nx rfl ⟨⟨ys,nz,gO⟩,A2.hz,A2.zc,A2.hn,A2.nc,A2.nl,A2.nm,A2.h1,A2.c1,A2.h2,A2.c2,A2.h3,A2.c3,tw,aav tG⟩ ?_
   intro m nv sm a5 a6 H' w1 w2 l1 l2 l3 hM xh
   exact kk m nx nv sm p a5 a6 H' ql xg w1 w2 l1 l2 l3 hM (kp2.trans xh)
end
noncomputable def gr(H H':Hp)(l n:Addr):Prop:=∀b o,H b=some o->b≠l->b≠n->H' b=some o
noncomputable def Uu(H H':Hp)(l c n:Addr):Prop:=∀b o,H b=some o->b≠l->b≠c->b≠n->H' b=some o
theorem gr.seq{K:W.Frag}{H H':Hp}{a l n:Addr}{xs:List V}(e:gr H H' l n)(h:aq K H a xs)(h1:a≠l)(h2:a≠n):aq K H' a xs:=by
 rcases h with (h|⟨o,h⟩)|h
 . exact .inl (.inl (e a _ h h1 h2))
 . exact .inl (.inr ⟨o,e a _ h h1 h2⟩)
 . exact .inr h
theorem gr.lT{K:W.Frag}{H H':Hp}{a l n:Addr}{xs:List V}(e:gr H H' l n)(h:aM K H a xs)(h1:a≠l)(h2:a≠n):aM K H' a xs:=by
 rcases h with (h|⟨o,h⟩)|h
 . exact .inl (.inl (e a _ h h1 h2))
 . exact .inl (.inr ⟨o,e a _ h h1 h2⟩)
 . exact .inr h
theorem aE.Am{H H':Hp}{p l n:Addr}{rs:List (List V)}{xs ns:List V}(h:aE H p rs) (k:gr H H' l n) (hl:H l=some (.lst xs)) (hn:H n=some (.lst ns)) (h1:p≠l) (h2:p≠n):aE H' p rs:=by
 obtain⟨ts,e1,e2⟩:=h
 exact⟨ts,k p _ e1 h1 h2,Paired.bQ e2 λt r e=>k t _ e (gq e hl (by intro z;cases z)) (gq e hn (by intro z;cases z))⟩
theorem aL.to2{H H':Hp}{l:Addr}(k:aL H H' l)(n:Addr):gr H H' l n:=λb o h h1 _=>k b o h h1
theorem gr.trans{H H1 H2:Hp}{l n:Addr}(a:gr H H1 l n)(b:gr H1 H2 l n):gr H H2 l n:=λc o h h1 h2=>b c o (a c o h h1 h2) h1 h2
theorem gr.Uv{H:Hp}{l n:Addr}{o:HO} : gr H (upd H n o) l n:=λb u h _ h2=>by rw[ai h2];exact h
theorem i9.Am{K:W.Frag}{H H':Hp}{z l n:Addr}{s0 s1 s2 s3:Int}(h:i9 K H z s0 s1 s2 s3)(k:gr H H' l n)(h1:z≠l)(h2:z≠n):i9 K H' z s0 s1 s2 s3:=⟨h.1.imp (λq=>k.seq q h1 h2) (λq=>k.lT q h1 h2),h.2⟩
noncomputable def qm(names:List Str) (gt:List (Str×Str×Str)):Prop:=∀(i:Nat) (r:Str×Str×Str),gt[i]?=some r->Lit (names++(gt.take i).map (·.1)) r.2.1/\Lit (names++(gt.take i).map (·.1)) r.2.2
theorem qm.snoc{names:List Str}{gt:List (Str×Str×Str)}{r:Str×Str×Str}(h:qm names gt) (h1:Lit (names++gt.map (·.1)) r.2.1) (h2:Lit (names++gt.map (·.1)) r.2.2):qm names (gt++[r]):=by
 intro i q e
 rcases ad5 i gt.length with hi|hi|hi
 . rw[abT hi]at e
   rw[List.take_append_of_le_length (adh hi)]
   exact h i q e
 . subst hi
   rw[abq (aah _),ae8]at e
   have e':r=q:=by simpa using e
   subst e'
   rw[List.take_left']
   . exact⟨h1,h2⟩
   . rfl
 . rw[abZ (by rw[aaj,aaK];lia)]at e
   cases e
theorem nN{α:Type}{l:List α}{a:α}(h:l.Nodup)(ha:a∉l):(l++[a]).Nodup:=by
 rw[aaB]
 refine⟨h,by simp,λx hx y hy e=>?_⟩
 have:y=a:=by simpa using hy
 rw[this]at e
 exact ha (e ▸ hx)
section
variable {P:Program}{w:World}{K:W.Frag}{mg:Str->Option Value}{base:Heap}{fP fS fL fW fR:Addr}{dP dS dL dW dR:FuncData}
structure Zp(K:W.Frag) (H:Hp) (z b c n a1 a2:Addr) (s0 s1 s2 s3:Int) (names sw:List Str) (kp:List (Str×V)):Prop where
 pb:∃xs,H b=some (.lst xs)/\gf xs
 pc:∃xs,H c=some (.lst xs)/\gf xs
 hz:i9 K H z s0 s1 s2 s3
 zb:z≠b
 zc:z≠c
 zn:z≠n
 bc:b≠c
 hn:H n=some (.lst (names.map V.str))
 nb:n≠b
 nc:n≠c
 nl:names.length<=28
 nm:∀x∈names,aT x
 nd:names.Nodup
 h1:H a1=some (.lst (sw.map V.str))
 b1:a1≠b
 c1:a1≠c
 n1:a1≠n
 h2:aE H a2 (kp.map fg)
 b2:a2≠b
 c2:a2≠c
 n2:a2≠n
 kd:(kp.map (·.1)).Nodup
 kl:kp.length<=16
noncomputable abbrev Uw(Q:VK)(s3:Int)(H1:Hp)(b c n a1 a2:Addr)(names sw:List Str) (kp:List (Str×V)):Prop:=
 ∀(m:Addr) (gt:List (Str×Str×Str)) (nx nv sm:List (Str×Str)) (a3 a4 a5 a6:Addr) (H':Hp),qm names gt->(names++gt.map (·.1)).Nodup->(∀x∈names++gt.map (·.1),aT x)->gt.length<=60->E8 (names++gt.map (·.1)) kp nx->nx.length<=kp.length->
  i6 (names++gt.map (·.1)) [] nv->i6 (names++gt.map (·.1)) (nv.map (·.1)) sm->1<=nv.length->(nv.length:Int)<=s3->(sm.length:Int)<=s3->cb H' m ⟨sw,kp,gt,nx,nv,sm⟩ a1 a2 a3 a4 a5 a6->Uu H1 H' b c n->Q (.ref m) H'
theorem Ux(G:Defs P w K mg base fP fS fL fW fR dP dS dL dW dR){f:Addr}{cdv:Value}{A:Around}{outer:List Env}{s:Shared}{H:Hp}{E:XK}{Q:VK}(hr:aW 3 (A.deeper (PyProof.Rows.envOfC "_law_machine_digits" (aw g0) s.heap.objs.size f cdv))) :
 ∃tR:TS,gj (Al P w K mg base f cdv A outer s H E) (List.drop 6 (c8 g0)) tR/\∀(σ:St) (H1:Hp) (v0 v2 v3:Option V) (z b c n a1 a2:Addr) (s0 s1 s2 s3:Int) (names sw:List Str) (kp:List (Str×V)),
  σ=[v0,some (.ref z),v2,v3,some (.ref b),some (.ref c),some (.ref n),some (.ref a1),some (.ref a2),none,none,none,none,none,none,none,none]->
  Zp K H1 z b c n a1 a2 s0 s1 s2 s3 names sw kp->Uw Q s3 H1 b c n a1 a2 names sw kp->
  tR {nx:=λ_ H'=>Q .aH H',rt:=Q} σ H1:=by
 have ef:aW 1 _:=hr.mono (by decide)
 have gp:aW 2 _:=hr.mono (by decide)
 obtain⟨tC,hC,rC⟩:=Ut G (outer:=outer) (H:=H) (E:=E) (Q:=Q) hr
 refine⟨_,aj (bz (i:=9) gQ.nd rfl (Or.inl rfl) (cq ag))
  (aj (df aaM rfl (dU rfl G.T.range (aa (aX G.gP ef rfl G.mP G.kP G.bP .nil bJ (aa (pv 4) (aa (aB eP (aN sP (pv 1) ak (λ_ _=>rfl)) ak) ag))) ag)) (ar (i:=2) gQ.nd rfl (Or.inl rfl))
   (aj (bz (i:=10) gQ.nd rfl (Or.inl rfl) (aX G.gS gp rfl G.mS G.kS G.bS .nil bJ (aa (pv 4) (aa (pv 6) ag))))
   (aj (dr (eU aaJ aaQ aaR cJ (pv 9) (aa (cx (aa (pv 10) (aa (aX G.gL gp rfl G.mL G.kL G.bL .nil bJ (aa (pv 4) (aa (pv 6) ag))) (aa (aX G.gL gp rfl G.mL G.kL G.bL .nil bJ (aa (pv 4) (aa (pv 6) ag))) ag)))) ag)))
   (au (dr (eU aaJ aaQ aaR cJ (pv 6) (aa (pv 10) ag))))))) hC),?_⟩
 rintro σ H1 v0 v2 v3 z b c n a1 a2 s0 s1 s2 s3 names sw kp rfl hA kk
 obtain⟨xs,hb,hp⟩:=hA.pb
 obtain⟨xc,hc,PK⟩:=hA.pc
 obtain⟨_,_,_,⟨z2a,z2b⟩,_,_⟩:=hA.hz
 have mF:=hA.nl
 refine⟨(by show 0<=sizeLine;decide),λp iG=>?_⟩
 have zC:b≠p:=ae hb iG
 have zD:n≠p:=ae hA.hn iG
 have zE:i9 K (upd H1 p (.lst [])) z s0 s1 s2 s3:=hA.hz.same (ah.ao iG)
 refine⟨_,rfl,_,rfl,zE.ix (i:=2) (v:=.int s2) rfl ⟨_,_,rfl,rfl,b,xs,_,rfl,(by rw[ai zC];exact hb),hp,by lia,by lia,λd Hz Bk d0 d1 HA wK tI=>?_⟩⟩
 have k0:gr H1 Bk b n:=λx o h h1 _=>tI x o (by rw[ai (ae h iG)];exact h) h1
 have hn0:Bk n=some (.lst (names.map V.str)):=tI n _ (by rw[ai zD];exact hA.hn) hA.nb
 have Kb:Bk p=some (.lst []):=tI p _ af (aav zC)
 refine⟨_,rfl,by lia,by lia,ia (n:=d.toNat) (λi σ H2=>∃(gt:List (Str×Str×Str)) (xi v10:Option V) (ys:List V),
  σ=[v0,some (.ref z),xi,v3,some (.ref b),some (.ref c),some (.ref n),some (.ref a1),some (.ref a2),some (.ref p),v10,none,none,none,none,none,none]/\gt.length=i/\qm names gt/\(names++gt.map (·.1)).Nodup/\(∀x∈names++gt.map (·.1),aT x)/\
  aE H2 p (gt.map cy)/\H2 n=some (.lst ((names++gt.map (·.1)).map V.str))/\gf ys/\H2 b=some (.lst ys)/\gr H1 H2 b n) ?_ ?_ ?_⟩
 . refine⟨[],v2,none,Hz,rfl,rfl,λi r e=>?_,?_,?_,⟨[],Kb,.nil⟩,?_,HA,wK,k0⟩
   . simp at e
   . simpa using hA.nd
   . simpa using hA.nm
   . simpa using hn0
 . rintro i σ H2 hi ⟨gt,xi,v10,ys,rfl,vm,PL,lI,lH,⟨us,ib,fH⟩,kA,gO,oW,kp2⟩
   have ox:=fH.length
   rw[aaa]at ox
   have XW:(names++gt.map (·.1)).length=names.length+i:=by rw[aaj,aaa,vm]
   refine⟨_,rfl,_,rfl,b,n,ys,names++gt.map (·.1),rfl,oW,gO,hA.nb,aq.of kA,by lia,λnw mJ H3 Be wV oS mK jK=>?_⟩
   have LU:H3 n=_:=jK n _ kA hA.nb
   have tH:H3 p=some (.lst (us.map V.ref)):=jK p _ ib (aav zC)
   refine⟨_,rfl,.inl ⟨rfl,_,aq.of tH⟩,_,rfl,_,rfl,_,rfl,b,n,mJ,names++gt.map (·.1),rfl,mK,oS,hA.nb,aq.of LU,by lia,lH,λl1 tm H4 fJ lG xj j9=>?_⟩
   have Bl:H4 n=_:=j9 n _ LU hA.nb
   refine⟨_,rfl,_,rfl,b,n,tm,names++gt.map (·.1),rfl,xj,lG,hA.nb,aq.of Bl,by lia,lH,λl2 LQ H5 dw oT xk gn=>?_⟩
   have r9:H5 n=_:=gn n _ Bl hA.nb
   have j0:H5 p=some (.lst (us.map V.ref)):=gn p _ (j9 p _ tH (aav zC)) (aav zC)
   refine⟨(by show 3<=sizeLine;decide),λTp jQ=>?_⟩
   have rY:p≠Tp:=ae j0 jQ
   have Zq:b≠Tp:=ae xk jQ
   have PM:n≠Tp:=ae r9 jQ
   refine⟨p,_,_,rfl,rfl,(by rw[ai rY];exact j0),(by rw[aaa];exact small (by lia)),?_⟩
   have HB:(upd (upd H5 Tp (HO.tup [V.str nw,V.str l1,V.str l2])) p (.lst (us.map V.ref++[V.ref Tp]))) n=some (.lst ((names++gt.map (·.1)).map V.str)):=by rw[ai zD,ai PM];exact r9
   refine⟨_,rfl,.inl ⟨rfl,_,aq.of HB⟩,_,rfl,n,_,_,rfl,rfl,HB,(by rw[aaa];exact small (by lia)),?_⟩
   have XX:nw∉names++gt.map (·.1):=wV
   have en:names++(gt++[(nw,l1,l2)]).map (·.1)=(names++gt.map (·.1))++[nw]:=by rw[aaf,← abl];rfl
   have tn:∀a xf,H5 a=some (HO.tup xf)->a≠n:=λa xf e=>gq e r9 (by intro z;cases z)
   refine⟨gt++[(nw,l1,l2)],_,_,LQ,rfl,(by rw[aaj,aaK,vm]),PL.snoc fJ dw,(by rw[en];exact nN lI XX),λx hx=>?_,?_,?_,oT,?_,λx o hx h1 h2=>?_⟩
   . rw[en]at hx
     rcases aag.mp hx with hx|hx
     . exact lH x hx
     . rw[aao.mp hx];exact Be
   . have tp:=aE.snoc (H:=upd H5 Tp (HO.tup [V.str nw,V.str l1,V.str l2])) (p:=p) (t:=Tp) (rs:=gt.map cy) (r:=[V.str nw,V.str l1,V.str l2]) (ts:=us) (Paired.bQ fH λa r e=>by
      have PN:=gq e oW (by intro z;cases z)
      have ea:H5 a=some (.tup r):=gn a _ (j9 a _ (jK a _ e PN) PN) PN
      rw[ai (ae ea jQ)]
      exact ea) af (λa xf e z'=>by rw[z',ai rY,j0]at e;cases e)
     obtain⟨PQ,e1,e2⟩:=tp
     refine⟨PQ,by rw[ai (aav zD)];exact e1,?_⟩
     have er:(gt++[(nw,l1,l2)]).map cy=gt.map cy++[[V.str nw,V.str l1,V.str l2]]:=by rw[aaf];rfl
     rw[er]
     refine Paired.bQ e2 λa r e=>?_
     rw[ai (gq e HB (by intro z;cases z))]
     exact e
   . rw[af,en]
     simp only[aaf,aas,abY]
   . rw[ai (aav hA.nb),ai zC,ai Zq]
     exact xk
   . have e5:H5 x=some o:=gn x o (j9 x o (jK x o (kp2 x o hx h1 h2) h1) h1) h1
     rw[ai h2,ai (ae hx iG),ai (ae e5 jQ)]
     exact e5
 . rintro σ H2 ⟨gt,xi,v10,ys,rfl,vm,PL,lI,lH,tw,kA,gO,oW,kp2⟩
   have nz:H2 c=some (.lst xc):=kp2 c _ hc (aav hA.bc) (aav hA.nc)
   have tG:c≠p:=ae hc iG
   refine rC _ H2 v0 xi v3 (some (.ref b)) v10 z c n a1 a2 p s0 s1 s2 s3 (names++gt.map (·.1)) sw kp gt rfl ⟨⟨xc,nz,PK⟩,hA.hz.Am kp2 hA.zb hA.zn,hA.zc,kA,hA.nc,(by rw[aaj,aaa];lia),lH,
    kp2 a1 _ hA.h1 hA.b1 hA.n1,hA.c1,hA.h2.Am kp2 hb hA.hn hA.b2 hA.n2,hA.c2,tw,aav tG,hA.kd,hA.kl⟩ ?_
   intro m nx nv sm a4 a5 a6 H' q1 q2 w1 w2 l1 l2 l3 hM xh
   exact kk m gt nx nv sm p a4 a5 a6 H' PL lI lH (by lia) q1 q2 w1 w2 l1 l2 l3 hM λx o hx h1 h2 h3=>xh x o (kp2 x o hx h1 h3) h2
end
noncomputable def PR(kp:List (Str×V)):Prop:=∀r∈kp,r.2=.int 0\/r.2=.int 1\/r.2=.aH
theorem Kc{d:Int}(h0:0<=d)(h1:d<3):∃v:V,ie [V.int 0,.int 1,.aH] d=some v/\(v=.int 0\/v=.int 1\/v=.aH):=by
 rcases (show d=0\/d=1\/d=2 by lia) with rfl|rfl|rfl
 . exact⟨_,rfl,.inl rfl⟩
 . exact⟨_,rfl,.inr (.inl rfl)⟩
 . exact⟨_,rfl,.inr (.inr rfl)⟩
section
variable {P:Program}{w:World}{K:W.Frag}{mg:Str->Option Value}{base:Heap}{fP fS fL fW fR:Addr}{dP dS dL dW dR:FuncData}
structure Zr(K:W.Frag) (H:Hp) (z a b c n:Addr) (s0 s1 s2 s3:Int) (sw:List Str):Prop where
 pa:∃xs,H a=some (.lst xs)/\gf xs
 pb:∃xs,H b=some (.lst xs)/\gf xs
 pc:∃xs,H c=some (.lst xs)/\gf xs
 hz:i9 K H z s0 s1 s2 s3
 za:z≠a
 zb:z≠b
 zc:z≠c
 zn:z≠n
 ab:a≠b
 ac:a≠c
 bc:b≠c
 hn:H n=some (.lst (sw.map V.str))
 na:n≠a
 nb:n≠b
 nc:n≠c
 nl:sw.length<=12
 nm:∀x∈sw,aT x
 nd:sw.Nodup
noncomputable def Uy(H H':Hp)(a b c n:Addr):Prop:=∀x o,H x=some o->x≠a->x≠b->x≠c->x≠n->H' x=some o
noncomputable abbrev Uz(Q:VK)(s1 s3:Int)(H1:Hp)(a b c n:Addr)(sw:List Str):Prop:=
 ∀(m:Addr) (M:ay) (names:List Str) (a1 a2 a3 a4 a5 a6:Addr) (H':Hp),M.switches=sw->az M names->names.length<=88->((M.keepers.length:Int)<=s1/\M.keepers.length<=16)->M.gates.length<=60->M.nexts.length<=16->1<=M.nevers.length->(M.nevers.length:Int)<=s3->(M.somes.length:Int)<=s3->
  cb H' m M a1 a2 a3 a4 a5 a6->Uy H1 H' a b c n->Q (.ref m) H'
theorem UA(G:Defs P w K mg base fP fS fL fW fR dP dS dL dW dR){f:Addr}{cdv:Value}{A:Around}{outer:List Env}{s:Shared}{H:Hp}{E:XK}{Q:VK}(hr:aW 3 (A.deeper (PyProof.Rows.envOfC "_law_machine_digits" (aw g0) s.heap.objs.size f cdv))) :
 ∃tR:TS,gj (Al P w K mg base f cdv A outer s H E) (List.drop 3 (c8 g0)) tR/\∀(σ:St) (H1:Hp) (v0 v2:Option V) (z a b c n:Addr) (s0 s1 s2 s3:Int) (sw:List Str),
  σ=[v0,some (.ref z),v2,some (.ref a),some (.ref b),some (.ref c),some (.ref n),none,none,none,none,none,none,none,none,none,none]->
  Zr K H1 z a b c n s0 s1 s2 s3 sw->Uz Q s1 s3 H1 a b c n sw->
  tR {nx:=λ_ H'=>Q .aH H',rt:=Q} σ H1:=by
 have ef:aW 1 _:=hr.mono (by decide)
 have gp:aW 2 _:=hr.mono (by decide)
 obtain⟨tB,hB,rB⟩:=Ux G (outer:=outer) (H:=H) (E:=E) (Q:=Q) hr
 refine⟨_,aj (bz (i:=7) gQ.nd rfl (Or.inl rfl) (aJ eT (by rfl) G.T.list aa8 (aa (pv 6) ag)))
  (aj (bz (i:=8) gQ.nd rfl (Or.inl rfl) (cq ag))
  (aj (df aaM rfl (dU rfl G.T.range (aa (aX G.gP ef rfl G.mP G.kP G.bP .nil bJ (aa (pv 3) (aa (aB eP (aN sP (pv 1) ak (λ_ _=>rfl)) ak) ag))) ag)) (ar (i:=2) gQ.nd rfl (Or.inl rfl))
   (aj (dr (eU aaJ aaQ aaR cJ (pv 6) (aa (aX G.gS gp rfl G.mS G.kS G.bS .nil bJ (aa (pv 3) (aa (pv 6) ag))) ag)))
   (au (dr (eU aaJ aaQ aaR cJ (pv 8) (aa (cx (aa (aN bT (pv 6) (uy p0 ak) (λ_ _=>rfl))
    (aa (aN bT (cq (aa ak (aa ak (aa ky ag)))) (aX G.gP ef rfl G.mP G.kP G.bP .nil bJ (aa (pv 3) (aa ak ag))) (λ_ _=>rfl)) ag))) ag)))))) hB)),?_⟩
 rintro σ H0 v0 v2 z a b c n s0 s1 s2 s3 sw rfl hA kk
 obtain⟨xs,ha,hp⟩:=hA.pa
 obtain⟨xb,hb,Zs⟩:=hA.pb
 obtain⟨xc,hc,PK⟩:=hA.pc
 obtain⟨_,_,⟨z1a,z1b⟩,_,_,_⟩:=hA.hz
 have mF:=hA.nl
 refine⟨_,rfl,n,_,rfl,.inl (aq.of hA.hn),λa1 se=>?_⟩
 have sh:ah H0 (upd H0 a1 (.lst (sw.map V.str))):=ah.ao se
 have VA:n≠a1:=ae hA.hn se
 have Zt:a≠a1:=ae ha se
 have Zu:b≠a1:=ae hb se
 have Zv:c≠a1:=ae hc se
 have h1:(upd H0 a1 (.lst (sw.map V.str))) a1=some (.lst (sw.map V.str)):=af
 generalize hH1:upd H0 a1 (.lst (sw.map V.str))=H1 at *
 have VB:=sh a _ ha
 have fq:=sh b _ hb
 have bZ:=sh c _ hc
 have rP:=sh n _ hA.hn
 refine⟨(by show 0<=sizeLine;decide),λp iG=>?_⟩
 have HC:a≠p:=ae VB iG
 have zC:b≠p:=ae fq iG
 have tG:c≠p:=ae bZ iG
 have zD:n≠p:=ae rP iG
 have zE:i9 K (upd H1 p (.lst [])) z s0 s1 s2 s3:=(hA.hz.same sh).same (ah.ao iG)
 refine⟨_,rfl,_,rfl,zE.ix (i:=1) (v:=.int s1) rfl ⟨_,_,rfl,rfl,a,xs,_,rfl,(by rw[ai HC];exact VB),hp,by lia,by lia,λd Hz Bk d0 d1 HA wK tI=>?_⟩⟩
 have k0:gr H1 Bk a n:=λx o h h1 _=>tI x o (by rw[ai (ae h iG)];exact h) h1
 have hn0:Bk n=some (.lst (sw.map V.str)):=tI n _ (by rw[ai zD];exact rP) hA.na
 have Kb:Bk p=some (.lst []):=tI p _ af (aav HC)
 refine⟨_,rfl,by lia,by lia,ia (n:=d.toNat) (λi σ H2=>∃(kp:List (Str×V)) (xi:Option V) (ys:List V),
  σ=[v0,some (.ref z),xi,some (.ref a),some (.ref b),some (.ref c),some (.ref n),some (.ref a1),some (.ref p),none,none,none,none,none,none,none,none]/\kp.length=i/\PR kp/\(sw++kp.map (·.1)).Nodup/\(∀x∈sw++kp.map (·.1),aT x)/\
  aE H2 p (kp.map fg)/\H2 n=some (.lst ((sw++kp.map (·.1)).map V.str))/\gf ys/\H2 a=some (.lst ys)/\gr H1 H2 a n) ?_ ?_ ?_⟩
 . refine⟨[],v2,Hz,rfl,rfl,(λ_ h=>nomatch h),?_,?_,⟨[],Kb,.nil⟩,?_,HA,wK,k0⟩
   . simpa using hA.nd
   . simpa using hA.nm
   . simpa using hn0
 . rintro i σ H2 hi ⟨kp,xi,ys,rfl,zB,qp,lI,lH,⟨us,ib,fH⟩,kA,gO,PU,kp2⟩
   have ox:=fH.length
   rw[aaa]at ox
   have XW:(sw++kp.map (·.1)).length=sw.length+i:=by rw[aaj,aaa,zB]
   refine⟨_,rfl,.inl ⟨rfl,_,aq.of kA⟩,_,rfl,_,rfl,a,n,ys,sw++kp.map (·.1),rfl,PU,gO,hA.na,aq.of kA,by lia,λnw mJ H3 Be wV oS PV jK=>?_⟩
   have LU:H3 n=some (.lst ((sw++kp.map (·.1)).map V.str)):=jK n _ kA hA.na
   have tH:H3 p=some (.lst (us.map V.ref)):=jK p _ ib (aav HC)
   refine⟨n,_,_,rfl,rfl,LU,(by rw[aaa];exact small (by lia)),?_⟩
   have lG:(upd H3 n (.lst ((sw++kp.map (·.1)).map V.str++[V.str nw]))) p=some (.lst (us.map V.ref)):=by rw[ai (aav zD)];exact tH
   have LV:(upd H3 n (.lst ((sw++kp.map (·.1)).map V.str++[V.str nw]))) a=some (.lst mJ):=by rw[ai (aav hA.na)];exact PV
   refine⟨_,rfl,.inl ⟨rfl,_,aq.of lG⟩,_,rfl,_,rfl,n,_,_,.str nw,rfl,rfl,aq.of af,AO _ _,(by show 3<=sizeLine;decide),λq hq=>?_⟩
   have VC:a≠q:=ae LV hq
   have Zw:p≠q:=ae lG hq
   have Zx:n≠q:=ae (af (H:=H3) (a:=n)) hq
   refine⟨_,rfl,a,mJ,3,rfl,(by rw[ai VC];exact LV),oS,by decide,by decide,λd2 tm H5 e0 e1 oT vh gn=>?_⟩
   obtain⟨fv,Zy,Zz⟩:=Kc e0 e1
   have ZA:H5 q=some (.lst [V.int 0,.int 1,.aH]):=gn q _ af (aav VC)
   have j0:H5 p=some (.lst (us.map V.ref)):=gn p _ (by rw[ai Zw];exact lG) (aav HC)
   have r9:H5 n=some (.lst ((sw++kp.map (·.1)).map V.str++[V.str nw])):=gn n _ (by rw[ai Zx,af]) hA.na
   refine⟨q,_,d2,fv,rfl,rfl,aq.of ZA,Zy,(by show 2<=sizeLine;decide),λTp jQ=>?_⟩
   have rY:p≠Tp:=ae j0 jQ
   have ZC:a≠Tp:=ae vh jQ
   have PM:n≠Tp:=ae r9 jQ
   refine⟨p,_,_,rfl,rfl,(by rw[ai rY];exact j0),(by rw[aaa];exact small (by lia)),?_⟩
   have en:sw++(kp++[(nw,fv)]).map (·.1)=(sw++kp.map (·.1))++[nw]:=by rw[aaf,← abl];rfl
   have Bm:∀x o,H3 x=some o->x≠a->x≠n->H5 x=some o:=λx o hx h1 h2=>gn x o (by
    have e4:(upd H3 n (.lst ((sw++kp.map (·.1)).map V.str++[V.str nw]))) x=some o:=by rw[ai h2];exact hx
    rw[ai (ae e4 hq)]
    exact e4) h1
   refine⟨kp++[(nw,fv)],_,tm,rfl,(by rw[aaj,aaK,zB]),λr hr=>?_,(by rw[en];exact nN lI wV),λx hx=>?_,?_,?_,oT,?_,λx o hx h1 h2=>?_⟩
   . rcases aag.mp hr with hr|hr
     . exact qp r hr
     . rw[aao.mp hr];exact Zz
   . rw[en]at hx
     rcases aag.mp hx with hx|hx
     . exact lH x hx
     . rw[aao.mp hx];exact Be
   . have er:(kp++[(nw,fv)]).map fg=kp.map fg++[[V.str nw,fv]]:=by rw[aaf];rfl
     rw[er]
     refine aE.snoc (Paired.bQ fH λx r e=>?_) af (λx xf e z'=>by rw[z',ai rY,j0]at e;cases e)
     have VD:=gq e PU (by intro z;cases z)
     have ZD:=gq e kA (by intro z;cases z)
     have e5:H5 x=some (.tup r):=Bm x _ (jK x _ e VD) VD ZD
     rw[ai (ae e5 jQ)]
     exact e5
   . rw[ai zD,ai PM,r9,en]
     simp only[aaf,aas,abY]
   . rw[ai HC,ai ZC]
     exact vh
   . have e5:H5 x=some o:=Bm x o (jK x o (kp2 x o hx h1 h2) h1) h1 h2
     rw[ai (ae hx iG),ai (ae e5 jQ)]
     exact e5
 . rintro σ H2 ⟨kp,xi,ys,rfl,zB,qp,lI,lH,tw,kA,gO,PU,kp2⟩
   have oW:H2 b=some (.lst xb):=kp2 b _ fq (aav hA.ab) (aav hA.nb)
   have nz:H2 c=some (.lst xc):=kp2 c _ bZ (aav hA.ac) (aav hA.nc)
   refine rB _ H2 v0 xi (some (.ref a)) z b c n a1 p s0 s1 s2 s3 (sw++kp.map (·.1)) sw kp rfl ⟨⟨xb,oW,Zs⟩,⟨xc,nz,PK⟩,(hA.hz.same sh).Am kp2 hA.za hA.zn,hA.zb,hA.zc,hA.zn,hA.bc,kA,hA.nb,hA.nc,(by rw[aaj,aaa];lia),lH,lI,
    kp2 a1 _ h1 (aav Zt) (aav VA),aav Zu,aav Zv,aav VA,tw,aav zC,aav tG,aav zD,(aaB.mp lI).2.1,by lia⟩ ?_
   intro m gt nx nv sm a3 a4 a5 a6 H' q1 q2 q3 q4 q5 q6 w1 w2 l1 l2 l3 hM xh
   refine kk m ⟨sw,kp,gt,nx,nv,sm⟩ (sw++kp.map (·.1)++gt.map (·.1)) a1 p a3 a4 a5 a6 H' rfl ⟨rfl,q3,q2,qp,λr hr=>(q5.1 r hr).1,λr hr=>(q5.1 r hr).2,q5.2,w1,w2,q1⟩ ?_ ⟨by show (kp.length:Int)<=s1;lia,by show kp.length<=16;lia⟩ q4 (by show nx.length<=16;lia) l1 l2 l3 hM ?_
   . simp only[aaj,aaa]
     lia
   . intro x o hx h1 h2 h3 h4
     exact xh x o (kp2 x o (sh x o hx) h1 h4) h2 h3 h4
end
theorem xl{σ:St}{H:Hp}{A B:Hp->Prop}(h:A H):vL σ H (λb H3=>if b=true then A H3 else B H3):=by
 show (if true=true then A H else B H)
 rw[aaI rfl]
 exact h
theorem E9:(["_law_k", "_law_cell"]:List Str).Nodup:=by decide+kernel
noncomputable abbrev lU(Q:VK)(s0 s1 s3:Int)(H:Hp):Prop:=
 ∀(m:Addr) (M:ay) (names:List Str) (a1 a2 a3 a4 a5 a6:Addr) (H':Hp),az M names->names.length<=88->((M.switches.length:Int)<=s0/\M.switches.length<=12)->((M.keepers.length:Int)<=s1/\M.keepers.length<=16)->M.gates.length<=60->M.nexts.length<=16->1<=M.nevers.length->(M.nevers.length:Int)<=s3->(M.somes.length:Int)<=s3->
  cb H' m M a1 a2 a3 a4 a5 a6->ah H H'->Q (.ref m) H'
inductive zF(K:W.Frag) (vs:List V) (H:Hp) (Q:VK):Prop
 | mk (ce z:Addr) (c0 c1 c2 s0 s1 s2 s3:Int) (h1:vs=[.ref ce,.ref z]) (h2:aq K H ce [.int c0,.int c1,.int c2]) (h3:i9 K H z s0 s1 s2 s3) (h4:(∃o,H z=some o)) (h5:lU Q s0 s1 s3 H):zF K vs H Q
noncomputable def qX(K:W.Frag):Sp:=λvs H Q _=>zF K vs H Q
section
variable {P:Program}{w:World}{K:W.Frag}{mg:Str->Option Value}{base:Heap}{fP fS fL fW fR:Addr}{dP dS dL dW dR:FuncData}
theorem HD{f:Addr}{fd:FuncData}(F:aO K "_law_machine_digits" "_law_machine_digits" g0 f fd)(G:Defs P w K mg base fP fS fL fW fR dP dS dL dW dR):aR P w K mg base aY 4 f fd tE (qX K):=by
 refine F.ok gQ (λvs H Q E h=>?_) (λcdv A outer s H vs Q E hr h=>?_)
 . obtain⟨ce,z,c0,c1,c2,s0,s1,s2,s3,rfl,_⟩:=h
   rfl
 . obtain⟨ce,z,c0,c1,c2,s0,s1,s2,s3,rfl,so,hz,⟨oz,Bn⟩,kk⟩:=h
   have ef:aW 1 _:=hr.mono (by decide)
   have gp:aW 2 _:=hr.mono (by decide)
   obtain⟨tA,hA,rA⟩:=UA G (outer:=outer) (H:=H) (E:=E) (Q:=Q) hr
   refine⟨_,aj (AH (dZ (N:=["_law_k", "_law_cell"]) (js:=[none,none]) (g:=ng K 2 (eO (cv 0) (eO (cv 1) m7))) (by kernel_rfl) rfl (lR rfl G.T.enum (aa (pv 0) ag))
    (λ_ _ _ _ _ _=>cw rfl (ax (ar (i:=0) E9 rfl (Or.inl rfl) (.inr rfl)) (ax (ar (i:=1) E9 rfl (Or.inl rfl) (.inr rfl)) bF))) (λ_ _ _ _ _ _=>bb)
    (λ_ _ _ _ _ _=>cq (aa (pv 1) (aa (aX G.gR gp rfl G.mR G.kR G.bR .nil bJ (aa (pv 1) (aa (aB eP ak (pv 0)) ag))) ag))))
    (Nn rfl (ax (ar (i:=3) gQ.nd rfl (Or.inl rfl)) (ax (ar (i:=4) gQ.nd rfl (Or.inl rfl)) (ax (ar (i:=5) gQ.nd rfl (Or.inl rfl)) bF)))))
    (aj (bz (i:=6) gQ.nd rfl (Or.inl rfl) (cq ag))
    (aj (df aaM rfl (dU rfl G.T.range (aa (aX G.gP ef rfl G.mP G.kP G.bP .nil bJ (aa (pv 3) (aa (aB eP (aN sP (pv 1) ak (λ_ _=>rfl)) ak) ag))) ag)) (ar (i:=2) gQ.nd rfl (Or.inl rfl))
     (au (dr (eU aaJ aaQ aaR cJ (pv 6) (aa (aX G.gS gp rfl G.mS G.kS G.bS .nil bJ (aa (pv 3) (aa (pv 6) ag))) ag))))) hA)),?_⟩
   obtain⟨_,⟨z0a,z0b⟩,_,_,_,_⟩:=id hz
   refine⟨_,rfl,ce,rfl,⟨_,so⟩,λD hD=>?_⟩
   refine iW 3 (λi acc σ H2=>∃(ls:List Addr) (u v:Option V),acc=ls.map V.ref/\ls.length=i/\ls.Nodup/\σ=[u,v]/\(∀l∈ls,H l=none/\l≠D/\∃x y:Int,H2 l=some (.lst [.int x,.int y]))/\ah H H2)
    ⟨[],none,none,rfl,rfl,ace,rfl,(λ_ h=>nomatch h),ah.ao hD⟩ af ?_ ?_
   . -- a,b,c
     rintro acc σ H2 bx ⟨ls,u,v,rfl,vc,lI,rfl,DB,gc⟩
     refine⟨⟨_,ah.seq gc so,aah _⟩,?_⟩
     obtain⟨a,b,c,rfl⟩:∃a b c,ls=[a,b,c]:=by
      match ls,vc with
      | [a,b,c],_=>exact⟨a,b,c,rfl⟩
     obtain⟨fa,_,xa,ya,ha⟩:=DB a (by simp)
     obtain⟨fb,_,xb,yb,hb⟩:=DB b (by simp)
     obtain⟨fc,_,xc,yc,hc⟩:=DB c (by simp)
     have dist:a≠b/\a≠c/\b≠c:=by
      simp only[aaU,aan,aaE,abv,adU]at lI
      exact⟨lI.1.1,lI.1.2,lI.2.1⟩
     obtain⟨ab,ac,bc⟩:=dist
     refine⟨D,_,rfl,aq.of bx,rfl,_,_,rfl,_,_,rfl,_,_,rfl,rfl,?_⟩
     refine⟨(by show 0<=sizeLine;decide),λn hn=>?_⟩
     have an:a≠n:=ae ha hn
     have bn:b≠n:=ae hb hn
     have cn:c≠n:=ae hc hn
     have vg:ah H2 (upd H2 n (.lst [])):=ah.ao hn
     have HE:i9 K (upd H2 n (.lst [])) z s0 s1 s2 s3:=(hz.same gc).same vg
     refine⟨_,rfl,_,rfl,HE.ix (i:=0) (v:=.int s0) rfl ⟨_,_,rfl,rfl,a,_,_,rfl,(by rw[ai an];exact ha),.inr ⟨_,_,rfl⟩,by lia,by lia,λd Hz H4 d0 d1 HA LV tI=>?_⟩⟩
     have Bl:H4 n=some (.lst []):=tI n _ af (aav an)
     have k04:aL H H4 a:=((ah.keep gc a).trans (ah.keep vg a)).trans tI
     have ZE:aL H2 H4 a:=(ah.keep vg a).trans tI
     refine⟨_,rfl,by lia,by lia,ia (n:=d.toNat) (λi σ H5=>∃(sw:List Str) (v2:Option V) (ys:List V),
      σ=[some (.ref ce),some (.ref z),v2,some (.ref a),some (.ref b),some (.ref c),some (.ref n),none,none,none,none,none,none,none,none,none,none]/\sw.length=i/\sw.Nodup/\(∀x∈sw,aT x)/\H5 n=some (.lst (sw.map V.str))/\gf ys/\H5 a=some (.lst ys)/\gr H2 H5 a n) ?_ ?_ ?_⟩
     . exact⟨[],none,Hz,rfl,rfl,ace,(λ_ h=>nomatch h),Bl,HA,LV,ZE.to2 n⟩
     . rintro i σ H5 hi ⟨sw,v2,ys,rfl,VE,Kd,lH,r9,gO,vh,gn⟩
       refine⟨_,rfl,.inl ⟨rfl,_,aq.of r9⟩,_,rfl,_,rfl,a,n,ys,sw,rfl,vh,gO,aav an,aq.of r9,by lia,λnw mJ H6 Be wV PF Dz tF=>?_⟩
       have HB:H6 n=some (.lst (sw.map V.str)):=tF n _ r9 (aav an)
       refine⟨n,_,_,rfl,rfl,HB,(by rw[aaa];exact small (by lia)),?_⟩
       refine⟨sw++[nw],_,mJ,rfl,(by rw[aaj,aaK,VE]),nN Kd wV,λx hx=>?_,?_,PF,(by rw[ai an];exact Dz),(gn.trans (tF.to2 n)).trans gr.Uv⟩
       . rcases aag.mp hx with hx|hx
         . exact lH x hx
         . rw[aao.mp hx];exact Be
       . rw[af,aaf]
         rfl
     . rintro σ H5 ⟨sw,v2,ys,rfl,VE,Kd,lH,r9,gO,vh,gn⟩
       have xk:=gn b _ hb (aav ab) bn
       have LS:=gn c _ hc (aav ac) cn
       have old:∀x o,H x=some o->x≠a/\x≠b/\x≠c/\x≠n:=λx o hx=>⟨ae hx fa,ae hx fb,ae hx fc,ae (gc x o hx) hn⟩
       have sr:ah H H5:=λx o hx=>gn x o (gc x o hx) (old x o hx).1 (old x o hx).2.2.2
       obtain⟨za,zb,zc,zn⟩:=old z oz Bn
       refine rA _ H5 (some (.ref ce)) v2 z a b c n s0 s1 s2 s3 sw rfl ⟨⟨ys,vh,gO⟩,⟨_,xk,.inr ⟨_,_,rfl⟩⟩,⟨_,LS,.inr ⟨_,_,rfl⟩⟩,hz.same sr,za,zb,zc,zn,ab,ac,bc,r9,aav an,aav bn,aav cn,by lia,lH,Kd⟩ ?_
       intro m M names a1 a2 a3 a4 a5 a6 H' eM ok l1 l2 l3 l4 l5 l6 l7 hM xh
       refine kk m M names a1 a2 a3 a4 a5 a6 H' ok l1 ⟨by rw[eM];lia,by rw[eM];lia⟩ l2 l3 l4 l5 l6 l7 hM λx o hx=>?_
       obtain⟨q1,q2,q3,q4⟩:=old x o hx
       exact xh x o (sr x o hx) q1 q2 q3 q4
   . rintro i acc σ H2 hi bx ⟨ls,u,v,rfl,vc,lI,rfl,DB,gc⟩
     obtain⟨ci,hx⟩:∃ci:Int,[V.int c0,V.int c1,V.int c2][i]?=some (.int ci):=by
      rcases (show i=0\/i=1\/i=2 by lia) with rfl|rfl|rfl
      . exact⟨_,rfl⟩
      . exact⟨_,rfl⟩
      . exact⟨_,rfl⟩
     refine⟨⟨_,_,ah.seq gc so,hx⟩,?_⟩
     rintro x H' ⟨T,xv,rfl,rW,rfl,gJ⟩
     have ex:=gJ _ (ah.seq gc so)
     rw[hx]at ex
     cases ex
     refine⟨T,_,rfl,aM.of af,rfl,_,_,rfl,_,_,rfl,rfl,xl ?_⟩
     refine⟨_,rfl,_,rfl,_,rfl,_,_,rfl,rfl,_,_,rfl,by lia,by lia,λv'=>⟨(by show 2<=sizeLine;decide),λl hl=>?_⟩⟩
     have PX:D≠T:=ae bx rW
     have LW:ah H2 (upd H2 T (.tup [.int (i:Int),.int ci])):=ah.ao rW
     have PY:D≠l:=ae (LW D _ bx) hl
     have VF:ah H2 (upd (upd H2 T (.tup [.int (i:Int),.int ci])) l (.lst [.int ci,.int v'])):=LW.trans (ah.ao hl)
     refine⟨_,(by rw[ai PY,ai PX];exact bx),(by rw[aaa];exact small (by lia)),dJ hi af ⟨ls++[l],_,_,?_,(by rw[aaj,aaK,vc]),nN lI λhm=>?_,rfl,λy hy=>?_,λy o hy=>?_⟩⟩
     . rw[aaf]
       rfl
     . obtain⟨_,_,_,_,e⟩:=DB l hm
       rw[LW l _ e]at hl
       cases hl
     . rcases aag.mp hy with hy|hy
       . obtain⟨e1,e2,x1,y1,e3⟩:=DB y hy
         exact⟨e1,e2,x1,y1,by rw[ai e2];exact VF y _ e3⟩
       . rw[aao.mp hy]
         exact⟨gc.free (LW.free hl),aav PY,ci,v',by rw[ai (aav PY),af]⟩
     . have ZF:y≠D:=ae hy hD
       rw[ai ZF]
       exact VF y _ (gc y _ hy)
end
inductive xm(K:W.Frag) (vs:List V) (H:Hp) (Q:VK):Prop
 | mk (a z:Addr) (ns:List Int) (s0 s1 s2 s3:Int) (h1:vs=[.ref a,.ref z]) (h2:aq K H a (ns.map V.int)) (h3:i9 K H z s0 s1 s2 s3) (h4:(∃o,H z=some o)) (h5:lU Q s0 s1 s3 H):xm K vs H Q
noncomputable def tJ(K:W.Frag):Sp:=λvs H Q _=>xm K vs H Q
noncomputable abbrev PZ:List Str:=["_law_script", "_law_sizes", "_law_cells"]
noncomputable abbrev Bo:List Str:=["_law_script", "_law_sizes"]
theorem Fb:aK PZ Bo (aw lS):=⟨rfl,rfl,rfl,by decide+kernel,rfl,by decide+kernel,by decide+kernel⟩
theorem XY:(["_law_k", "_law_script"]:List Str).Nodup:=by decide+kernel
noncomputable abbrev UB(P:Program)(w:World)(K:W.Frag)(mg:Str->Option Value)(base:Heap)(f:Addr)(cdv:Value)(A:Around)(outer:List Env)(s:Shared)(H:Hp)(E:XK):Cx:=
 (jj aY P w K mg base PZ "_law_machine" (aw lS) f cdv A outer s H E).kz
theorem lU.same{Q:VK}{s0 s1 s3:Int}{H H1:Hp}(k:lU Q s0 s1 s3 H)(s:ah H H1):lU Q s0 s1 s3 H1:=λm M names a1 a2 a3 a4 a5 a6 H' ok l1 l0 l2 l3 l4 l5 l6 l7 hM s1=>k m M names a1 a2 a3 a4 a5 a6 H' ok l1 l0 l2 l3 l4 l5 l6 l7 hM (s.trans s1)
section
variable {P:Program}{w:World}{K:W.Frag}{mg:Str->Option Value}{base:Heap}{fD fC fR:Addr}{dD dC dR:FuncData}
theorem HF(gD:aR P w K mg base aY 4 fD dD tE (qX K)) (mD:mg "_law_machine_digits" = some (.ref fD)) (kD:W.keepIn K (.ref fD)=true) (bD:Binds K dD tE [])
 {f:Addr}{cdv:Value}{A:Around}{outer:List Env}{s:Shared}{H:Hp}{E:XK}{Q:VK}(hr:aW 4 (A.deeper (PyProof.Rows.envOfC "_law_machine" (aw lS) s.heap.objs.size f cdv))) :
 ∃tR:TS,gj (UB P w K mg base f cdv A outer s H E) (List.drop 2 (c8 lS)) tR/\∀(H1:Hp) (v0:Option V) (z D:Addr) (c0 c1 c2 s0 s1 s2 s3:Int),H1 D=some (.lst [.int c0,.int c1,.int c2])->i9 K H1 z s0 s1 s2 s3->(∃o,H1 z=some o)->lU Q s0 s1 s3 H1->
  tR {nx:=λ_ H'=>Q .aH H',rt:=Q} [v0,some (.ref z),some (.ref D)] H1:=by
 refine⟨_,au (aI (aX gD hr rfl mD kD bD .nil bJ (aa (cq (aa (aN bT (pv 2) ak (λ_ _=>rfl)) (aa (aN bT (pv 2) ak (λ_ _=>rfl)) (aa (aB iO (aN bT (pv 2) ak (λ_ _=>rfl)) ak) ag)))) (aa (pv 1) ag)))),?_⟩
 intro H1 v0 z D c0 c1 c2 s0 s1 s2 s3 hD hz Bn kk
 refine⟨_,rfl,D,_,_,.int c0,rfl,rfl,aq.of hD,rfl,_,rfl,D,_,_,.int c1,rfl,rfl,aq.of hD,rfl,_,rfl,D,_,_,.int c2,rfl,rfl,aq.of hD,rfl,_,_,rfl,rfl,⟨by decide,by decide⟩,(by show 3<=sizeLine;decide),λp hp=>?_⟩
 have P0:ah H1 (upd H1 p (.lst [.int c0,.int c1,.int (c2 / 2)])):=ah.ao hp
 obtain⟨o,ho⟩:=Bn
 exact⟨_,rfl,p,z,c0,c1,c2 / 2,s0,s1,s2,s3,rfl,aq.of af,hz.same P0,⟨o,P0 z o ho⟩,kk.same P0⟩
theorem Fc{f:Addr}{fd:FuncData}(F:aO K "_law_machine" "_law_machine" lS f fd)(T:Own mg) (gD:aR P w K mg base aY 4 fD dD tE (qX K)) (mD:mg "_law_machine_digits" = some (.ref fD)) (kD:W.keepIn K (.ref fD)=true) (bD:Binds K dD tE [])
 (gC:aR P w K mg base aY 1 fC dC ["_law_script", "_law_k"] (qi K)) (mC:mg "_law_cell_at" = some (.ref fC)) (kC:W.keepIn K (.ref fC)=true) (bC:Binds K dC ["_law_script", "_law_k"] [])
 (gR:aR P w K mg base aY 2 fR dR ["_law_cell", "_law_k"] wQ) (mR:mg "_law_rich" = some (.ref fR)) (kR:W.keepIn K (.ref fR)=true) (bR:Binds K dR ["_law_cell", "_law_k"] []) :
 aR P w K mg base aY 5 f fd Bo (tJ K):=by
 refine F.ok Fb (λvs H Q E h=>?_) (λcdv A outer s H vs Q E hr h=>?_)
 . obtain⟨a,z,ns,s0,s1,s2,s3,rfl,_⟩:=h
   rfl
 . obtain⟨a,z,ns,s0,s1,s2,s3,rfl,hS,hz,⟨oz,Bn⟩,kk⟩:=h
   have ef:aW 1 _:=hr.mono (by decide)
   have gp:aW 2 _:=hr.mono (by decide)
   obtain⟨tR,hR,rR⟩:=HF gD mD kD bD (outer:=outer) (H:=H) (E:=E) (Q:=Q) hr
   refine⟨_,aj (nL (i:=2) (N:=["_law_k", "_law_script"]) (js:=[none,some 0]) Fb.nd rfl rfl (by kernel_rfl) rfl (dU rfl T.range (aa ak ag)) (λ_ _ _ _ _ _=>ar (i:=0) XY rfl (Or.inl rfl) (.inr rfl)) (λ_ _ _ _ _ _=>bb)
    (λ_ _ _ _ _ _=>aX gC ef rfl mC kC bC .nil bJ (aa (pv 1) (aa (pv 0) ag))))
    (aj (cP (bg iV (aB dE (aN bT (pv 2) ak (λ_ _=>rfl)) ak) ak (cp _))
     (au (nL (i:=2) (N:=["_law_k", "_law_cell"]) (js:=[none,none]) (g:=ng K 2 (eO (cv 0) (eO (cv 1) m7))) Fb.nd rfl rfl (by kernel_rfl) rfl (lR rfl T.enum (aa (pv 2) ag))
      (λ_ _ _ _ _ _=>cw rfl (ax (ar (i:=0) E9 rfl (Or.inl rfl) (.inr rfl)) (ax (ar (i:=1) E9 rfl (Or.inl rfl) (.inr rfl)) bF))) (λ_ _ _ _ _ _=>bb)
      (λ_ _ _ _ _ _=>aX gR gp rfl mR kR bR .nil bJ (aa (pv 1) (aa (pv 0) ag))))) bh) hR),?_⟩
   refine⟨3,rfl,by decide,by decide,λD hD=>?_⟩
   have nzD:z≠D:=ae Bn hD
   refine iW 3 (λi acc σ H2=>(∃cs:List Int,acc=cs.map V.int/\cs.length=i)/\(∃v,σ=[v,some (.ref a)])/\H2=upd H D (.lst acc)) ⟨⟨[],rfl,rfl⟩,⟨none,rfl⟩,rfl⟩ af ?_ ?_
   . rintro acc σ H2 bx ⟨⟨cs,rfl,i4⟩,_,rfl⟩
     obtain⟨c0,c1,c2,rfl⟩:∃c0 c1 c2,cs=[c0,c1,c2]:=by
      match cs,i4 with
      | [c0,c1,c2],_=>exact⟨c0,c1,c2,rfl⟩
     refine⟨aah _,?_⟩
     have sh:ah H (upd H D (.lst [.int c0,.int c1,.int c2])):=ah.ao hD
     refine⟨_,rfl,D,_,_,.int c2,rfl,rfl,aq.of af,rfl,_,_,rfl,rfl,(by show (0:Int)<2;decide),rfl,_,rfl,?_⟩
     refine jN (λ_=>?_) (λ_=>?_)
     . refine⟨_,rfl,D,rfl,⟨_,aq.of af⟩,λD2 mH=>?_⟩
       have nDD:D≠D2:=ae af mH
       refine iW 3 (λi acc σ H3=>(∃cs:List Int,acc=cs.map V.int/\cs.length=i)/\(∃u v,σ=[u,v])/\ah (upd H D (.lst [.int c0,.int c1,.int c2])) H3) ⟨⟨[],rfl,rfl⟩,⟨none,none,rfl⟩,ah.ao mH⟩ af ?_ ?_
       . rintro acc σ H3 qY ⟨⟨cs,rfl,Ke⟩,_,jm⟩
         obtain⟨e0,e1,e2,rfl⟩:∃c0 c1 c2,cs=[c0,c1,c2]:=by
          match cs,Ke with
          | [c0,c1,c2],_=>exact⟨c0,c1,c2,rfl⟩
         refine⟨⟨_,aq.of (jm D _ af),aah _⟩,?_⟩
         have iH:=sh.trans jm
         exact rR H3 _ z D2 e0 e1 e2 s0 s1 s2 s3 qY (hz.same iH) ⟨oz,iH z oz Bn⟩ (kk.same iH)
       . rintro i acc σ H3 hi qY ⟨⟨cs,rfl,Ke⟩,⟨u,v,rfl⟩,jm⟩
         obtain⟨ci,hx⟩:∃ci:Int,[V.int c0,V.int c1,V.int c2][i]?=some (.int ci):=by
          rcases (show i=0\/i=1\/i=2 by lia) with rfl|rfl|rfl
          . exact⟨_,rfl⟩
          . exact⟨_,rfl⟩
          . exact⟨_,rfl⟩
         have lF:H3 D=some (.lst [V.int c0,V.int c1,V.int c2]):=jm D _ af
         refine⟨⟨_,_,aq.of lF,hx⟩,?_⟩
         rintro x H' ⟨Tp,xv,rfl,rW,rfl,gJ⟩
         have ex:=gJ _ (aq.of lF)
         rw[hx]at ex
         cases ex
         refine⟨Tp,_,rfl,aM.of af,rfl,_,_,rfl,_,_,rfl,rfl,xl ?_⟩
         have PX:D2≠Tp:=ae qY rW
         refine⟨_,rfl,_,rfl,_,_,rfl,by lia,by lia,λv'=>⟨_,(by rw[ai PX];exact qY),(by rw[aaa];exact small (by lia)),dJ hi af ⟨⟨cs++[v'],?_,?_⟩,⟨_,_,rfl⟩,λy o hy=>?_⟩⟩⟩
         . rw[aaf];rfl
         . rw[aaj,aaK,Ke]
         . have e3:=jm y o hy
           rw[ai (ae hy mH),ai (ae e3 rW)]
           exact e3
     . exact rR _ _ z D c0 c1 c2 s0 s1 s2 s3 af (hz.same sh) ⟨oz,sh z oz Bn⟩ (kk.same sh)
   . rintro i acc σ H2 hi bx ⟨⟨cs,rfl,i4⟩,⟨v,rfl⟩,rfl⟩
     refine⟨hi,?_⟩
     rintro x H' ⟨rfl,rfl⟩
     refine il ?_
     refine⟨_,rfl,_,rfl,a,ns,_,rfl,ah.seq (ah.ao hD) hS,by lia,λv'=>⟨_,af,(by rw[aaa];exact small (by lia)),dJ hi af ⟨⟨cs++[v'],?_,?_⟩,⟨_,rfl⟩,by rw[j5]⟩⟩⟩
     . rw[aaf];rfl
     . rw[aaj,aaK,i4]
end
end Gen
namespace PySem
open Sem (wp)
theorem qZ:typeLookup (.type "list") "__getattr__" = pure none:=by rw[adG,acC];kernel_rfl
theorem uU:typeLookup (.type "list") "keys" = pure none:=by rw[adG,acC];kernel_rfl
theorem rf{A:Around}{prog:Program}{w:World}{Q:Fin->Shared->Prop}{E:Value->Shared->Prop}{h:Heap}{g d t os} {a:Addr}{items:Array Value}{n:Nat}(u:Tok) (hx:h.get? a=some {cls:=.type "list",data:=.seq items n}) (hh:A.handled=none)
 (hE:∀h' tk e,Heap.NewAttrErr h h' e (.ref a) "keys" -> E (.ref e) ⟨h',g,d,tk,os⟩) :
 wpAny (model prog w) A (Builtin.«object.__getattribute__» ⟨[.ref a,.str "keys" u],[]⟩) Q E ⟨h,g,d,t,os⟩:=by
 have hT:∀t',(⟨h,g,d,t',os⟩:Shared).TypeIs (.ref a) "list":=λt'=>⟨_,hx,rfl⟩
 have LX:=hT t
 have UC:=uU
 have hc:[Str.ofString "__module__",Str.ofString "__name__",Str.ofString "__qualname__",Str.ofString "__doc__",Str.ofString "__annotations__"].contains (Str.ofString "keys")=false:=by decide+kernel
 unfold Builtin.«object.__getattribute__»
 repeat (any_goals (first|assumption|wp_step|refine wpAny_ite_false hc ?_))
 all_goals first
  | exact wpAny_raiseAttrError hh hE (attrMsg_fits (by decide+kernel) (by decide))
  | skip
theorem Bp{A:Around}{prog:Program}{w:World}{R:Result->Shared->Prop}{h:Heap}{g d t os} {a:Addr}{items:Array Value}{n:Nat}{u:Tok}(hx:h.get? a=some {cls:=.type "list",data:=.seq items n}) (hh:A.handled=none)
 (hE:∀h' tk e,Heap.NewAttrErr h h' e (.ref a) "keys" -> R (.error (.ref e)) ⟨h',g,d,tk,os⟩) :
 codeAny (model prog w) A (.call (.builtin "list.__getattribute__") ⟨[.ref a,.str "keys" u],[]⟩) R ⟨h,g,d,t,os⟩:=
 codeAny_call_builtin aci.plain F.entry_list_ga (aci.check _ _ _ _ _ _ _ _ (show (⟨h,g,d,t,os⟩:Shared).TypeIs (.ref a) "list" from⟨_,hx,rfl⟩) (F.args_list_getattribute_2 _ _) (rf u hx hh hE))
theorem Bq{A:Around}{prog:Program}{w:World}{E:Value->Shared->Prop}{h:Heap}{g d t os} {a:Addr}{items:Array Value}{n:Nat}{Q:Option Value->Shared->Prop}(hx:h.get? a=some {cls:=.type "list",data:=.seq items n}) (hh:A.handled=none)
 (hQ:∀h' tk,(∀b o,h.get? b=some o->h'.get? b=some o)->Q none ⟨h',g,d,tk,os⟩):wpAny (model prog w) A (getAttr? (.ref a) "keys") Q E ⟨h,g,d,t,os⟩:=by
 have hT:(⟨h,g,d,t,os⟩:Shared).TypeIs (.ref a) "list":=⟨_,hx,rfl⟩
 have f1:=sub_AttributeError
 have f2:=aci.lookup
 have f3:=aci.bind (.ref a)
 have f5:=qZ
 unfold getAttr? getAttrBy? getAttrBy
 repeat (any_goals (first|assumption|((with_reducible show codeAny _ _ (Code.call (Value.builtin "list.__getattribute__") _) _ _);refine Bp hx hh ?_;intro h' tK e HG;obtain⟨t1,u1,he⟩:=HG.there)|wp_step))
 exact hQ h' tK HG.keeps
namespace F
theorem gu:entryFor table "dict.update.loop" = some Builtin.«dict.update.loop»:=entryFor_of_tree (by kernel_rfl)
theorem cz:plainId "dict.update.loop" = true:=by decide+kernel
end F
section
variable {prog:Program}{w:World}{K:Type}[DecidableEq K] {knd:KeyKind prog w K}{A:Around}{R:Result->Shared->Prop}
noncomputable def Br(knd:KeyKind prog w K)(h:Heap)(u:Value)(kv:K×Value):Prop:=∃t key,u=.ref t/\h.IsTuple t #[key,kv.2]/\knd.is kv.1 key=true
theorem yf{d it l:Addr}{items:Array Value}{kvs:List (K×Value)}(kb:d≠it) (vo:d≠l) (vj:l≠it) (hz:kvs.length<=sizeLine) (hh:A.handled=none) :
 ∀(k i:Nat) (s:Shared) (tk:Tok) (acc:List (K×Value)),items.size-i=k->i<=items.size->kvs.length=items.size->s.heap.IsListIter it l i->s.heap.IsList l items->s.heap.DictOf knd d acc->acc.length<=i->
 (∀(j:Nat) (u:Value) (kv:K×Value),items[j]?=some u->kvs[j]?=some kv->Br knd s.heap u kv/\(∀t,u=.ref t->t≠d/\t≠it))->
 (∀h' tk,h'.DictOf knd d ((kvs.drop i).foldl (λa kv=>stored a kv.1 kv.2) acc)->(∀b o,b≠d->b≠it->s.heap.get? b=some o->h'.get? b=some o)->R (.ok (.ret .none)) {s with heap:=h',toks:=tk})->
 codeAny (model prog w) A (.builtin "dict.update.loop" ⟨[.ref d,.ref it,.int (i:Int) tk,.none],[]⟩) R s:=by
 intro k
 induction k with
 | zero=>
  intro i s tk acc hk hi hlen hit hl hd Kf hp hR
  have VG:i=items.size:=by omega
  refine adH F.gu ?_
  rw[acJ F.cz _]
  show wpAny _ A.in1 (pyNext (.ref it) >>= _) _ _ s
  refine aac (adj (A:=A.in1) hh hit hl (ac7 (by omega)) λh' he=>?_)
  refine aac (aak (aak ?_))
  have hd':h'.DictOf knd d acc:=let ⟨o,es,ep,ho,r⟩:=hd; ⟨o,es,ep,he d o kb ho,r⟩
  refine hR h' s.toks ?_ λb o _ hb e=>he b o hb e
  rw[aeF (by omega)]
  exact hd'
 | succ k ih=>
  intro i s tk acc hk hi hlen hit hl hd Kf hp hR
  have eN:i<items.size:=by omega
  have hx:items[i]?=some items[i]:=abU eN
  have jn:kvs[i]?=some kvs[i]:=aae (by omega)
  obtain⟨⟨t,key,ht,XZ,n8⟩,ig⟩:=hp i _ _ hx jn
  obtain⟨ntd,ZG⟩:=ig t ht
  refine adH F.gu ?_
  rw[acJ F.cz _]
  show wpAny _ A.in1 (pyNext (.ref it) >>= _) _ _ s
  refine aac (ac4 hit hl hx λh1 JW u9=>?_)
  rw[ht]
  have UD:h1.IsTuple t #[key,(kvs[i]).2]:=let ⟨o,e,r⟩:=XZ; ⟨o,(u9.2 t ZG).trans e,r⟩
  refine aac (abf (aac ?_))
  refine wpAny_tryCatch ?_
  unfold Builtin.Dict.pairItems
  obtain⟨ot,e1,PB,n1,HH⟩:=id UD
  refine aac (adn (show ({s with heap:=h1} : Shared).TypeIs (.ref t) "tuple" from⟨ot,e1,PB⟩) ?_)
  rw[aaI (by decide)]
  refine aac (aa3 e1 HH (aak ?_))
  show wpAny _ A.in1 (holding [key,(kvs[i]).2] (dictSet d key (kvs[i]).2)) _ _ _
  refine abf ?_
  unfold dictSet
  try with_reducible refine abf ?_
  have iS:h1.DictOf knd d acc:=let ⟨o,es,ep,ho,r⟩:=hd; ⟨o,es,ep,(u9.2 d kb).trans ho,r⟩
  refine aac (knd.pyHash n8 ?_)
  refine adY n8 iS (λh2 hd2 j6=>?_) (by omega)
  refine aak ⟨aec F.cz _,?_⟩
  have er:rawInt ((i:Int)+1)=Value.int (((i+1:Nat):Nat):Int) 0:=by simp[rawInt]
  rw[er]
  have keep:∀b o,b≠d->b≠it->s.heap.get? b=some o->h2.get? b=some o:=λb o b1 b2 e=>(j6.2 b b1).trans ((u9.2 b b2).trans e)
  refine ih (i+1) _ 0 (stored acc (kvs[i]).1 (kvs[i]).2) (by omega) (by omega) hlen ?_ ?_ hd2 ?_ ?_ ?_
  . obtain⟨o,e,r⟩:=JW
    exact⟨o,(j6.2 it (aav kb)).trans e,r⟩
  . obtain⟨o,e,r⟩:=hl
    exact⟨o,keep l o (aav vo) vj e,r⟩
  . have:=stored_length_le acc (kvs[i]).1 (kvs[i]).2
    omega
  . intro j u kv hu X0
    obtain⟨⟨t',X1,e',fk,lE⟩,P4⟩:=hp j u kv hu X0
    obtain⟨a1,a2⟩:=P4 t' e'
    obtain⟨o,e,r⟩:=fk
    exact⟨⟨t',X1,e',⟨o,keep t' o a1 a2 e,r⟩,lE⟩,P4⟩
  . intro h' tK hd' lE
    refine hR h' tK ?_ λb o b1 b2 e=>lE b o b1 b2 (keep b o b1 b2 e)
    rw[abV (by omega),ab0]
    exact hd'
end
section
variable {prog:Program}{w:World}{K:Type}[DecidableEq K] {knd:KeyKind prog w K}{A:Around}{E:Value->Shared->Prop}{s:Shared}
theorem Bs{l:Addr}{items:Array Value}{n:Nat}{kvs:List (K×Value)}{Q:Value->Shared->Prop}(hh:A.handled=none) (hl:s.heap.get? l=some {cls:=.type "list",data:=.seq items n}) (hlen:kvs.length=items.size) (hz:kvs.length<=sizeLine)
 (hp:∀(j:Nat) (u:Value) (kv:K×Value),items[j]?=some u->kvs[j]?=some kv->Br knd s.heap u kv)
 (h:∀h' tk,h'.DictOf knd s.heap.objs.size (merged [] kvs)->(∀b o,s.heap.get? b=some o->h'.get? b=some o)->Q (.ref s.heap.objs.size) {s with heap:=h',toks:=tk}) :
 wpAny (model prog w) A (call (.type "dict") [.ref l]) Q E s:=by
 refine callType_codes (Q₁:=λobj eC=>obj=.ref s.heap.objs.size/\eC = {s with heap:=s.heap.push {cls:=.type "dict",data:=.dict #[] } }) F.kt_called_dict (F.kt_typeCall_dict_1 _) F.entry_dict_init (kt_code_dict_new _ ⟨rfl,rfl⟩) ?_
 rintro obj eC ⟨rfl,rfl⟩
 have pN:(s.heap.push {cls:=.type "dict",data:=.dict #[] }).DictOf knd s.heap.objs.size []:=aeJ s.heap
 have He:(s.heap.push {cls:=.type "dict",data:=.dict #[] }).get? l=some {cls:=.type "list",data:=.seq items n}:=aad _ hl
 refine⟨pN.typeIs,F.args_dict_init_2 _ _,?_⟩
 unfold Builtin.«dict.__init__»
 refine aac ?_
 unfold Builtin.Dict.selfAndRest
 refine aac (wpAny_notOrdered_dict pN.typeIs ?_)
 show wpAny _ _ (pure (s.heap.objs.size,[Value.ref l])) _ _ _
 refine aak ?_
 show wpAny _ _ (Builtin.Dict.updateFrom "dict.__init__" s.heap.objs.size (.ref l) [] .none) _ _ _
 unfold Builtin.Dict.updateFrom
 refine aac (adn (show ({s with heap:=s.heap.push {cls:=.type "dict",data:=.dict #[] } } : Shared).TypeIs (.ref l) "list" from⟨_,He,rfl⟩) ?_)
 rw[aaI (by decide)]
 generalize u9:({s with heap:=s.heap.push {cls:=.type "dict",data:=.dict #[] } } : Shared)=s1 at *
 obtain⟨g1,g2,g3,g4,g5⟩:=s1
 cases u9
 refine aac (Bq He (by first|exact hh|rfl) λh2 P5 k2=>?_)
 rw[aaI (show (none:Option Value).isNone=true from rfl)]
 have dw:h2.get? l=some {cls:=.type "list",data:=.seq items n}:=k2 _ _ He
 have lt2:∀b o,(s.heap.push {cls:=.type "dict",data:=.dict #[] }).get? b=some o->b<h2.objs.size:=λb o e=>aam (k2 b o e)
 refine aac (acX (aac (ac8 (s:={heap:=h2,gens:=s.gens,drawn:=s.drawn,toks:=P5,os:=s.os}) (items:=items) ⟨_,dw,rfl,n,rfl⟩ ?_)))
 refine aak ⟨aec F.cz _,?_⟩
 have hd2:h2.DictOf knd s.heap.objs.size []:=let ⟨o,es,ep,ho,r⟩:=pN; ⟨o,es,ep,k2 _ _ ho,r⟩
 have vo:s.heap.objs.size<h2.objs.size:=let ⟨o,es,ep,ho,r⟩:=pN;lt2 _ _ ho
 have vc:l<s.heap.objs.size:=aam hl
 refine yf (knd:=knd) (d:=s.heap.objs.size) (it:=h2.objs.size) (l:=l) (items:=items) (kvs:=kvs) (aax vo) (aa0 vc) (aax (aeH vc vo)) hz (by first|exact hh|rfl) items.size 0 _ 0 [] rfl (abQ _) hlen
  ⟨_,aar _ rfl,rfl,rfl⟩ ⟨_,aad _ dw,rfl,n,rfl⟩ ?_ (aah _) ?_ ?_
 . obtain⟨o,es,ep,ho,r⟩:=hd2
   exact⟨o,es,ep,aad _ ho,r⟩
 . intro j u kv hu jn
   obtain⟨t,key,e,⟨o,eo,r⟩,hk⟩:=hp j u kv hu jn
   have ht:t<s.heap.objs.size:=aam eo
   refine⟨⟨t,key,e,⟨o,aad _ (k2 _ _ (aad _ eo)),r⟩,hk⟩,λt' e'=>?_⟩
   rw[e]at e'
   cases e'
   exact⟨aax ht,aax (aeH ht vo)⟩
 . intro h' tK hd' lE
   refine⟨rfl,h h' tK ?_ λb o e=>?_⟩
   . simpa[merged]using hd'
   . have hb:b<s.heap.objs.size:=aam e
     exact lE b o (aax hb) (aax (aeH hb vo)) (aad _ (k2 _ _ (aad _ e)))
end
end PySem
namespace L2
open PySem PySem.Spec PyProof.Rows
section
variable {X:Cx}
theorem An(h:(aQ P w).is k u=true):RelV (kV k) u:=by
 rw[Ew]at h
 cases k with
 | inl i=>cases u <;> first|(simp[ku,Value.isInt]at h;done)|(simp[ku,Value.isInt]at h;subst h;exact⟨_,rfl⟩)
 | inr x=>cases u <;> first|(simp[ku,Value.isStrOf]at h;done)|(simp[ku,Value.isStrOf]at h;subst h;exact⟨_,rfl⟩)
theorem pairs_at(ok:gi P w H h){ts:List Addr}{kvs:List (Key×V)}{us:List Value}(p:Paired (λt kv=>H t=some (.tup [kV kv.1,kv.2])) ts kvs) (r:Vals (ts.map V.ref) us) :
 ∃vs:List (Key×Value),KV kvs vs/\Paired (λu kv=>Br (aQ P w) h u kv) us vs:=by
 induction p generalizing us with
 | nil=>
  cases r
  exact⟨[],.nil,.nil⟩
 | @cons t kv ts kvs e p ih=>
  obtain⟨u,PQ,rfl,ru,r'⟩:=r.inv
  obtain⟨vs,k1,k2⟩:=ih r'
  cases(show u=Value.ref t from ru)
  obtain⟨_,its,rv,ip⟩:=(show bO P w H h t (.tup [kV kv.1,kv.2]) from ok t _ e)
  obtain⟨key,val,rfl,rk,rl⟩:=vals2 rv
  exact⟨(kv.1,val)::vs,.cons ⟨rfl,rl⟩ k1,.cons ⟨t,key,rfl,ip,oQ rk⟩ k2⟩
theorem jR{α β:Type}{F:α->β->Prop} : ∀{l₁:List α}{l₂:List β}{i:Nat}{a:α}{b:β},Paired F l₁ l₂->l₁[i]?=some a->l₂[i]?=some b->F a b
 | _,_,i,a,b,.nil,h,_=>by simp at h
 | _,_,0,a,b,.cons h t,e1,e2=>by
  simp at e1 e2
  subst e1 e2
  exact h
 | _,_,i+1,a,b,.cons h t,e1,e2=>jR (i:=i) t (by simpa using e1) (by simpa using e2)
theorem bK(hc:X.calm=true):jb X (.type "dict") (λxs H Q=>∃p ts kvs,xs=[.ref p]/\H p=some (.lst (ts.map V.ref))/\Paired (λt kv=>H t=some (.tup [kV kv.1,kv.2])) ts kvs/\∀d,H d=none->Q (.ref d) (upd H d (.dK (bA [] kvs)))):=by
 intro pins s σ H xs us Q I r h
 obtain⟨p,ts,kvs,rfl,hp,hT,q⟩:=h
 obtain⟨u,rfl,rx⟩:=vals1 r
 cases(show u=Value.ref p from rx)
 obtain⟨hz,its,n,rv,e⟩:=(show bO X.prog X.w H s.heap p (.lst (ts.map V.ref)) from I.hok p _ hp)
 obtain⟨vs,kv,pv⟩:=pairs_at I.hok hT rv
 have l1:vs.length=its.toArray.size:=by rw[aaw];exact pv.length.symm
 have l2:kvs.length=vs.length:=kv.length
 have l3:vs.length<=sizeLine:=by
  have:=hT.length
  rw[aaa]at hz
  lia
 refine Bs (knd:=aQ X.prog X.w) (kvs:=vs) (I.ok.hd hc) e l1 l3 (λj u kv hu jn=>jR pv (by simpa using hu) jn) λh' tk dd kk=>?_
 refine⟨.ref s.heap.objs.size,_,I.laid (a:=s.heap.objs.size) (o:=.dK (bA [] kvs)) kk (aah _) (kI ?_ (abr.mpr (aav (aax I.big))) (KV.merge kv .nil) dd),rfl,q _ (I.hok.fresh (aah _))⟩
 have:=gZ kvs []
 simp at this
 lia
theorem gA:jb X (.type "dict") (λxs H Q=>∃p kvs,xs=[.ref p]/\Rd H p (.dK kvs)/\∀d,H d=none->Q (.ref d) (upd H d (.dK kvs))):=by
 intro pins s σ H xs us Q I r h
 obtain⟨p,kvs,rfl,hp,q⟩:=h
 obtain⟨u,rfl,rx⟩:=vals1 r
 cases(show u=Value.ref p from rx)
 exact JN I hp λd s' hd I'=>⟨.ref d,_,I',rfl,q d hd⟩
theorem vp:jb X (.builtin "isinstance") (λxs H Q=>∃x t c b,xs=[x,.ty c]/\kE X.K H x t/\W.kitOne X.K t (.type c)=some b/\Q (.bl b) H):=by
 intro pins s σ H xs us Q I r h
 obtain⟨x,t,c,b,rfl,ty,e,q⟩:=h
 obtain⟨u,v,rfl,rx,ry⟩:=vals2 r
 cases(show v=Value.type c from ry)
 exact y0 I rx ty e λtk=>⟨.bl b,H,I.tok _,rfl,q⟩
theorem yg(hc:X.calm=true):jb X (.type "list") (λxs H Q=>∃p kvs,xs=[.ref p]/\Rd H p (.dK kvs)/\∀l,H l=none->Q (.ref l) (upd H l (.lst (kvs.map λkv=>kV kv.1)))):=by
 intro pins s σ H xs us Q I r h
 obtain⟨p,kvs,rfl,hp,q⟩:=h
 obtain⟨u,rfl,rx⟩:=vals1 r
 cases(show u=Value.ref p from rx)
 obtain⟨z,hd,vs,rel,dd⟩:=jD I.hok hp
 obtain⟨ep,da⟩:=dd.dictAt
 have hlen:kvs.length=vs.length:=rel.length
 refine W.kdl_call (W.kdl_dict (knd:=aQ X.prog X.w) (ep:=ep) hd) (I.ok.hd hc) da (by lia) λh' tk Kg c' kk e it=>?_
 have rv:Vals (kvs.map λkv=>kV kv.1) Kg.toList:=by
  obtain⟨i1,i2⟩:=it
  have gen:∀(kvs:List (Key×V)) (vs:List (Key×Value)) (us:List Value),KV kvs vs->us.length=vs.length->(∀(j:Nat) v,us[j]?=some v->∃k x,vs[j]?=some (k,x)/\(aQ X.prog X.w).is k v=true)->Vals (kvs.map λkv=>kV kv.1) us:=by
   intro kvs vs us kv
   induction kv generalizing us with
   | nil=>
    intro hl _
    have:us=[]:=abi.mp hl
    subst this
    exact .nil
   | @cons a b as bs DC t ih=>
    intro hl hu
    match us,hl with
    | u::us,hl=>
     obtain⟨k,x,e1,e2⟩:=hu 0 u rfl
     simp at e1
     have ek:k=a.1:=by rw[DC.1,e1]
     subst ek
     refine .cons (An e2) (ih us (by simpa using hl) λj v hj=>?_)
     obtain⟨k',x',e3,e4⟩:=hu (j+1) v (by simpa using hj)
     exact⟨k',x',by simpa using e3,e4⟩
  exact gen kvs vs Kg.toList rel (by rw[adD,i1]) λj v hj=>i2 j v (by rw[← aeL];exact hj)
 refine⟨.ref s.heap.objs.size,_,I.laid (t':=tk) kk (aah _) (show bO X.prog X.w _ h' _ (.lst (kvs.map λkv=>kV kv.1)) from⟨by rw[aaa];exact z,Kg.toList,c',rv,by simpa using e⟩),rfl,q _ (I.hok.fresh (aah _))⟩
end
section
variable {X:Cx}{pins:List (Addr×Obj)}{σ:St}{H:Hp}{s:Shared}{d:Addr}{kvs:List (Key×V)}
theorem Inv.freeze(I:Inv X pins σ H s) (e:H d=some (.dK kvs)):∃o,s.heap.get? d=some o/\Inv X pins σ (upd H d (.cj o (.dK kvs))) s:=by
 obtain⟨z,hd,vs,rel,dd⟩:=qR I.hok e
 obtain⟨o,es,ep,ho,r⟩:=id dd
 refine⟨o,ho,I.write (x:=d) (e:=d) (t':=s.toks) (h':=s.heap) (by rw[e];trivial) (.inl rfl) (λb u _ q=>q) ⟨o,ho⟩ (show bO X.prog X.w _ s.heap d (.cj o (.dK kvs)) from⟨ho,kI z hd rel dd⟩)⟩
theorem Inv.P6(I:Inv X pins σ H s) (e:H d=some (.cj o (.dK kvs))) (hn:∀o' u,X.Ag d≠some (.cj o' u)):Inv X pins σ (upd H d (.dK kvs)) s:=by
 have ne:∀b,H b=none->b≠d:=λb h z=>by rw[z,e]at h;cases h
 have up:∀b,H b=none->upd H d (.dK kvs) b=none:=λb h=>by rw[ai (ne b h)];exact h
 refine⟨I.ok,I.os,I.bare,⟨I.base.keep,I.base.slot,λb ob q n hx=>up b (I.base.free b ob q n hx),I.base.there,λb xs q=>?_,λb ob u q=>?_,λb ps q=>?_⟩,I.loc,I.cell,up _ I.free,λx c q=>up _ (I.freeC x c q),λp hp=>?_,λb u q=>?_,I.len⟩
 . have q1:=I.base.tups b xs q
   rw[ai (λz=>by rw[z,e]at q1;cases q1)]
   exact q1
 . have q1:=I.base.frzs b ob u q
   rw[ai (λz=>hn ob u (by rw[← z];exact q))]
   exact q1
 . obtain⟨more,q1⟩:=I.base.tbls b ps q
   exact⟨more,by rw[ai (λz=>by rw[z,e]at q1;cases q1)];exact q1⟩
 . obtain⟨a1,a2,a3⟩:=I.pin p hp
   exact⟨a1,up _ a2,a3⟩
 . by_cases hb:b=d
   . subst hb
     rw[af]at q
     cases q
     obtain⟨_,k⟩:=(show bO X.prog X.w H s.heap b (.cj o (.dK kvs)) from I.hok b _ e)
     exact k
   . rw[ai hb]at q
     exact(I.hok b u q).eL (λ_ _ _ z=>z) (λc z=>by rw[ai (λy=>by rw[y,e]at z;cases z)];exact z) λc xs z=>by rw[ai (λy=>by rw[y,e]at z;cases z)];exact z
end
section
variable {X:Cx}
noncomputable def UE(Ag:Hp)(t:TE):TE:=λσ H Q=>t σ H λv H1=>∃d o kvs,H1 d=some (.cj o (.dK kvs))/\(∀o' u,Ag d≠some (.cj o' u))/\Q v (upd H1 d (.dK kvs))
theorem yh(h:PE X e t):PE X e (UE X.Ag t):=by
 intro pins s σ H Q I q
 refine aD (h pins s σ H _ I q) λv s1 ⟨x,H1,I1,r1,q1⟩=>?_
 obtain⟨d,o,kvs,e1,hn,q2⟩:=q1
 exact⟨x,_,I1.P6 e1 hn,r1,q2⟩
noncomputable def DD(d:Addr)(o:Obj) (kvs:List (Key×V)):It:=⟨λi H=>H d=some (.cj o (.dK kvs))/\i<kvs.length,λi H x H'=>H'=H/\∃kv,kvs[i]?=some kv/\x=kV kv.1,λi H=>H d=some (.cj o (.dK kvs))/\i=kvs.length⟩
theorem HI{P:Program}{w:World}{K:W.Frag}{tg:Expr}{d it:Addr}{o:Obj}{es:Array DictEntry}{ep:Nat}{kvs:List (Key×V)}(hd:o.data=.dict es ep) (ig:d≠it):Turn P w K tg (DD d o kvs) [it] it (λi h=>h.IsKeyIter it d i kvs.length ep) where
 mem:=by simp
 obj:=λi h st b hb=>by
  have e:b=it:=by simpa using hb
  subst e
  obtain⟨o,e,c,d⟩:=st
  exact⟨o,e,λv z=>by rw[d]at z;cases z⟩
 keep:=λi h h' st k=>let ⟨o,e,r⟩:=st; ⟨o,k it (by simp) o e,r⟩
 item:=by
  intro X hP hw hK hc i pins s σ H E I hf st hg
  subst hP hw hK
  obtain⟨f0,f1,f2,f3,f4,f5⟩:=hf it (by simp)
  obtain⟨g1,g2⟩:=hg
  obtain⟨ho,z,hs,vs,rel,o',yX,yY,iM,r'⟩:=(show bO X.prog X.w H s.heap d (.cj o (.dK kvs)) from I.hok d _ g1)
  rw[ho]at iM
  cases iM
  have iS:=r'.2.1
  rw[hd]at iS
  cases iS
  have hl:kvs.length=vs.length:=rel.length
  refine(Walks.dictKeys (knd:=aQ X.prog X.w) (I.ok.hd hc) it d ig vs ep).item i s _ _ (by lia) ⟨by rw[← hl];exact st,o,es,ho,r'⟩ λv h' tk hv rQ kk=>?_
  obtain⟨k,x,ek,ik⟩:=hv
  have I1:Inv X pins σ H {s with heap:=h',toks:=tk}:=I.turned (λb o hb e=>kk b o (by simpa using hb) e) f0 f1 f3 f4 f5
  have jI:h'.IsKeyIter it d (i+1) kvs.length ep:=by rw[hl];exact rQ.1
  obtain⟨oi,e,oc,od⟩:=id jI
  have HJ:kvs[i]?=some kvs[i]:=aae g2
  have DF:(kvs[i]).1=k:=(jR rel HJ ek).1
  exact⟨_,rfl,Aj (s:={s with heap:=h',toks:=tk}) e oc od (by decide) ⟨kV k,H,I1,An ik,⟨rfl,_,HJ,by rw[DF]⟩,jI,λb hb=>(hf b hb).1⟩⟩
 done:=by
  intro X hP hw hK hc i pins s σ H E I hf st hg
  subst hP hw hK
  obtain⟨f0,f1,f2,f3,f4,f5⟩:=hf it (by simp)
  obtain⟨g1,g2⟩:=hg
  subst g2
  obtain⟨ho,z,hs,vs,rel,o',yX,yY,iM,r'⟩:=(show bO X.prog X.w H s.heap d (.cj o (.dK kvs)) from I.hok d _ g1)
  rw[ho]at iM
  cases iM
  have iS:=r'.2.1
  rw[hd]at iS
  cases iS
  have hl:kvs.length=vs.length:=rel.length
  exact(Walks.dictKeys (knd:=aQ X.prog X.w) (I.ok.hd hc) it d ig vs ep).done s _ _ ⟨by rw[← hl];exact st,o,es,ho,r'⟩ λh' tk kk=>⟨rfl,I.turned (λb o hb e=>kk b o (by simpa using hb) e) f0 f1 f3 f4 f5⟩
 self:=λA i s Q E st h=>wpAny_pyIter_keyiter st h
noncomputable def UG(td:TE):TI:=λσ H R=>td σ H λx H1=>∃d kvs,x=.ref d/\H1 d=some (.dK kvs)/\∀o,R (DD d o kvs) (upd H1 d (.cj o (.dK kvs)))
theorem uE(hl:PE X l tl):PI X tg l (UG tl):=by
 intro pins s σ H R I h
 refine aD (hl pins s σ H _ I h) λv s1 ⟨x,H1,I1,r1,q1⟩=>?_
 obtain⟨d,kvs,e,hd,q⟩:=q1
 subst e
 cases(show v=Value.ref d from r1)
 obtain⟨z,hm,vs,rel,dd⟩:=qR I1.hok hd
 obtain⟨o,es,ep,ho,r⟩:=id dd
 have hlen:kvs.length=vs.length:=rel.length
 obtain⟨o',iM,I2⟩:=I1.freeze hd
 rw[ho]at iM
 cases iM
 refine wpAny_pyIter_dict (knd:=aQ X.prog X.w) (ep:=ep) hm ⟨o,es,ho,r⟩ ?_
 have eN:d<s1.heap.objs.size:=aam ho
 refine⟨s1.heap.objs.size,[s1.heap.objs.size],_,_,_,rfl,I2.kept (t':=s1.toks) λb o e=>aad _ e,HI (es:=es) (ep:=ep) (o:=o) (kvs:=kvs) r.2.1 (aax eN),?_,?_,q o⟩
 . exact⟨_,aar _ rfl,rfl,by rw[hlen];rfl⟩
 . intro b hb
   have e:b=s1.heap.objs.size:=by simpa using hb
   subst e
   exact I2.pD (aah _) (I2.hok.fresh (aah _))
end
end L2
namespace PySem
open Sem (wp)
section
variable {prog:Program}{w:World}{A:Around}{E:Value->Shared->Prop}{s:Shared}
theorem rg{it t:Addr}{i:Nat}{items} {x:Value}{Q:Value->Shared->Prop}(hit:s.heap.IsTupleIter it t i)(ht:s.heap.IsTuple t items)(hx:items[i]?=some x)
 (hQ:∀h',h'.IsTupleIter it t (i+1)->Heap.SameBut it s.heap h'->Q x {s with heap:=h'}):wpAny (model prog w) A (Builtin.SmallTypes.nextOf (.ref it)) Q E s:=by
 obtain⟨o,ho,hc,hd⟩:=id hit
 obtain⟨ol,vq,_,nl,vo⟩:=ht
 unfold Builtin.SmallTypes.nextOf
 refine aac (aa5 (name:=Str.ofString "__next__") hit.typeIs aca (abk aca hit.typeIs adI ?_ (adA _)))
 show wpAny _ _ (field (.ref it) 0 >>= _) _ _ s
 refine aac (aaY ho hd (x:=.ref t) rfl ?_)
 show wpAny _ _ (if (Value.ref t == Value.none)=true then _ else _) _ _ s
 rw[aay (show ¬ ((Value.ref t == Value.none)=true) from aat)]
 show wpAny _ _ (field (.ref it) 1 >>= _) _ _ s
 refine aac (aaY ho hd (x:=.int i 0) rfl ?_)
 show wpAny _ _ (seqItems? (.ref t) >>= _) _ _ s
 refine aac (aa3 vq vo ?_)
 simp only[abS,hx]
 refine aac (adZ ho hd (by simp) (aak ⟨x,rfl,aak (hQ _ ?_ (acV ..))⟩))
 exact⟨_,adm _ ho (Obj.isFreed_of_fields (ac1 hd _)),(Obj.cls_mapFields ..).trans hc,by rw[ac1 hd];simp[rawInt]⟩
theorem sx{it t:Addr}{i:Nat}{items} {Q:Value->Shared->Prop}(hh:A.handled=none)(hit:s.heap.IsTupleIter it t i)(ht:s.heap.IsTuple t items)(hx:items[i]?=none)
 (hE:∀h' e,Heap.ExtBut it s.heap h'->(∃o,h'.get? e=some o/\o.cls=.type "StopIteration")->E (.ref e) {s with heap:=h'}):wpAny (model prog w) A (Builtin.SmallTypes.nextOf (.ref it)) Q E s:=by
 obtain⟨o,ho,hc,hd⟩:=id hit
 obtain⟨ol,vq,_,nl,vo⟩:=ht
 unfold Builtin.SmallTypes.nextOf
 refine aac (aa5 (name:=Str.ofString "__next__") hit.typeIs aca (abk aca hit.typeIs adI ?_ (adA _)))
 show wpAny _ _ (field (.ref it) 0 >>= _) _ _ s
 refine aac (aaY ho hd (x:=.ref t) rfl ?_)
 show wpAny _ _ (if (Value.ref t == Value.none)=true then _ else _) _ _ s
 rw[aay (show ¬ ((Value.ref t == Value.none)=true) from aat)]
 show wpAny _ _ (field (.ref it) 1 >>= _) _ _ s
 refine aac (aaY ho hd (x:=.int i 0) rfl ?_)
 show wpAny _ _ (seqItems? (.ref t) >>= _) _ _ s
 refine aac (aa3 vq vo ?_)
 simp only[abS,hx]
 refine aac (acX (aac (adZ ho hd (by simp) ?_)))
 show wpAny _ _ (newExc (.type "StopIteration") [] >>= _) _ _ _
 refine aac ?_
 simp only[newExc,newTuple]
 refine aac (ach ?_ (by size_fits))
 refine aac (m:=firstArgMember _ _) (wpAny_of_eq (a:=Value.none) (by first|rfl|(simp only[firstArgMember];rfl)) ?_)
 refine ach ?_ (by size_fits)
 simp only[raiseNew]
 refine aac (wpAny_handled ?_)
 first|rw[show A.in1.handled=none from hh] | rw[hh]
 refine aac (aak (wpAny_throw ?_))
 exact hE _ _ (((acV ..).extBut.push _).push _) ⟨_,aar _ rfl,rfl⟩
end
noncomputable def jL(tp:Bool)(h:Heap)(l:Addr)(xs:Array Value):Prop:=match tp with|true=>h.IsTuple l xs|false=>h.IsList l xs
noncomputable def gY(tp:Bool)(h:Heap)(i l:Addr)(k:Nat):Prop:=match tp with|true=>h.IsTupleIter i l k|false=>h.IsListIter i l k
theorem jL.at{tp:Bool}{h h':Heap}{l:Addr}{xs:Array Value}(x:jL tp h l xs)(k:∀o,h.get? l=some o->h'.get? l=some o):jL tp h' l xs:=by
 cases tp <;> (obtain⟨o,e,r⟩:=x;exact⟨o,k o e,r⟩)
theorem gY.at{tp:Bool}{h h':Heap}{i l:Addr}{n:Nat}(x:gY tp h i l n)(k:∀o,h.get? i=some o->h'.get? i=some o):gY tp h' i l n:=by
 cases tp <;> (obtain⟨o,e,r⟩:=x;exact⟨o,k o e,r⟩)
theorem gY.there{tp:Bool}{h:Heap}{i l:Addr}{n:Nat}(x:gY tp h i l n):∃o,h.get? i=some o/\∃vs,o.data=.fields vs:=by
 cases tp <;> (obtain⟨o,e,c,d⟩:=x;exact⟨o,e,_,d⟩)
theorem jL.there{tp:Bool}{h:Heap}{l:Addr}{xs:Array Value}(x:jL tp h l xs):∃o,h.get? l=some o:=by
 cases tp <;> (obtain⟨o,e,r⟩:=x;exact⟨o,e⟩)
section
variable {prog:Program}{w:World}{A:Around}{E:Value->Shared->Prop}{s:Shared}{tp:Bool}
theorem qq{it l:Addr}{i:Nat}{items} {x:Value}{Q:Value->Shared->Prop}(hit:gY tp s.heap it l i)(hl:jL tp s.heap l items)(hx:items[i]?=some x)
 (hQ:∀h',gY tp h' it l (i+1)->Heap.SameBut it s.heap h'->Q x {s with heap:=h'}):wpAny (model prog w) A (Builtin.SmallTypes.nextOf (.ref it)) Q E s:=by
 cases tp
 . exact wpAny_nextOf_list_item hit hl hx hQ
 . exact rg hit hl hx hQ
theorem HK{it l:Addr}{i:Nat}{items} {Q:Value->Shared->Prop}(hh:A.handled=none)(hit:gY tp s.heap it l i)(hl:jL tp s.heap l items)(hx:items[i]?=none)
 (hE:∀h' e,Heap.ExtBut it s.heap h'->(∃o,h'.get? e=some o/\o.cls=.type "StopIteration")->E (.ref e) {s with heap:=h'}):wpAny (model prog w) A (Builtin.SmallTypes.nextOf (.ref it)) Q E s:=by
 cases tp
 . exact wpAny_nextOf_list_end hh hit hl hx hE
 . exact sx hh hit hl hx hE
theorem YF{z TI TO i1 i2 l1 l2:Addr}{k:Nat}{xs ys:Array Value}{x y a b:Value}{Q:Option Value->Shared->Prop}(nd:[z,TI,TO,i1,i2].Nodup)(n1:l1∉[z,TI,TO,i1,i2])(n2:l2∉[z,TI,TO,i1,i2])
 (hz:IsZip s.heap z TI TO .none) (iI:IsPair s.heap TI (.ref i1) (.ref i2)) (jc:IsPair s.heap TO a b) (h1:gY tp s.heap i1 l1 k) (h2:gY tp s.heap i2 l2 k) (fJ:jL tp s.heap l1 xs) (dw:jL tp s.heap l2 ys) (hx:xs[k]?=some x) (hy:ys[k]?=some y)
 (hQ:∀h',IsZip h' z TI TO (rawInt s.heap.objs.size)->IsPair h' TO x y->gY tp h' i1 l1 (k+1)->gY tp h' i2 l2 (k+1)->IsPair h' s.heap.objs.size x y->
  (∀c o,c≠z->c≠TO->c≠i1->c≠i2->s.heap.get? c=some o->h'.get? c=some o)->Q (some (.ref s.heap.objs.size)) {s with heap:=h'}):wpAny (model prog w) A (pyNext (.ref z)) Q E s:=by
 simp only[aaU,aan,aaE,abv,adU]at nd n1 n2
 obtain⟨⟨vt,lh,jS,mN⟩,⟨TITO,TIi1,TIi2⟩,⟨TOi1,TOi2⟩,i12,_⟩:=nd
 obtain⟨l1z,P7,l1TO,l1i1,l1i2⟩:=n1
 obtain⟨l2z,X2,l2TO,l2i1,l2i2⟩:=n2
 have hT:s.TypeIs (.ref z) "zip":=⟨_,hz,rfl⟩
 unfold pyNext
 refine aac (acH (aa5 (name:=Str.ofString "__next__") hT abm (abk abm hT acb ?_ (ab7 _))))
 show wpAny _ _ (field (.ref z) 2 >>= _) _ _ _
 refine aac (aaY hz rfl (x:=.bool false) rfl ?_)
 show wpAny _ _ (field (.ref z) 3 >>= _) _ _ _
 refine aac (aaY hz rfl (x:=.ref TI) rfl ?_)
 refine aac (aa3 iI rfl ?_)
 show wpAny _ _ (Builtin.SmallTypes.ownedTupleIsFree (.ref z) >>= _) _ _ _
 refine aac ?_
 unfold Builtin.SmallTypes.ownedTupleIsFree
 refine aac (aaY hz rfl (x:=.none) rfl (aak ?_))
 simp only[ac9]
 refine aac (acX ?_)
 refine aac (aaY hz rfl (x:=.ref TO) rfl ?_)
 refine aac (aa7 hz (by simp) λh₁ iT iF=>?_)
 replace iT:IsZip h₁ z TI TO .ellipsis:=iT
 refine aac ?_
 simp only[acP,ac2,abF,ab5]
 have k1:∀c o,c≠z->s.heap.get? c=some o->h₁.get? c=some o:=λc o n e=>iF.extBut _ _ n e
 refine aac (aac (acp ?_))
 show wpAny _ _ (Builtin.SmallTypes.nextOf (.ref i1) >>= _) _ _ _
 refine aac (qq (h1.at λo e=>k1 _ o (aav jS) e) (fJ.at λo e=>k1 _ o l1z e) hx λkK Bt lj=>aak ?_)
 have k2:∀c o,c≠i1->h₁.get? c=some o->kK.get? c=some o:=λc o n e=>lj.extBut _ _ n e
 have tL:IsPair kK TO a b:=k2 _ _ TOi1 (k1 _ _ (aav lh) jc)
 refine aac (aa3 tL rfl ?_)
 refine aac (ab3 tL λkO oy mO=>?_)
 replace oy:IsPair kO TO x b:=oy
 have k3:∀c o,c≠TO->kK.get? c=some o->kO.get? c=some o:=λc o n e=>mO.extBut _ _ n e
 refine aac (adb (aak ?_))
 refine aac (aac (acp ?_))
 show wpAny _ _ (Builtin.SmallTypes.nextOf (.ref i2) >>= _) _ _ _
 refine aac (qq (h2.at λo e=>k3 _ o (aav TOi2) (k2 _ o (aav i12) (k1 _ o (aav mN) e))) (dw.at λo e=>k3 _ o l2TO (k2 _ o l2i1 (k1 _ o l2z e))) hy λsv HL zG=>aak ?_)
 have k4:∀c o,c≠i2->kO.get? c=some o->sv.get? c=some o:=λc o n e=>zG.extBut _ _ n e
 have tM:IsPair sv TO x b:=k4 _ _ TOi2 oy
 refine aac (aa3 tM rfl ?_)
 refine aac (ab3 tM λgz lp zH=>?_)
 replace lp:IsPair gz TO x y:=lp
 have k5:∀c o,c≠TO->sv.get? c=some o->gz.get? c=some o:=λc o n e=>zH.extBut _ _ n e
 refine aac (adb (aak (aak ?_)))
 refine aac (aa3 lp rfl ?_)
 refine aac (ad0 ?_)
 have hsz:gz.objs.size=s.heap.objs.size:=by rw[zH.1,zG.1,mO.1,lj.1,iF.1]
 have zI:IsZip gz z TI TO .ellipsis:=k5 _ _ lh (k4 _ _ mN (k3 _ _ lh (k2 _ _ jS iT)))
 have P8:∀c o,c≠z->c≠TO->c≠i1->c≠i2->s.heap.get? c=some o->gz.get? c=some o:=λc o c1 c2 c3 c4 e=>k5 _ _ c2 (k4 _ _ c4 (k3 _ _ c2 (k2 _ _ c3 (k1 _ _ c1 e))))
 have P9:gY tp gz i1 l1 (k+1):=Bt.at λo e=>k5 _ _ (aav TOi1) (k4 _ _ i12 (k3 _ _ (aav TOi1) e))
 have Qa:gY tp gz i2 l2 (k+1):=HL.at λo e=>k5 _ _ (aav TOi2) e
 have tN:z<gz.objs.size:=aam zI
 show wpAny _ _ (Builtin.SmallTypes.ownedTupleHandOut (.ref z) (.ref gz.objs.size) >>= _) _ _ _
 refine aac ?_
 unfold Builtin.SmallTypes.ownedTupleHandOut
 have HM:IsZip (gz.push {cls:=.type "tuple",data:=.seq #[x,y] }) z TI TO .ellipsis:=aad _ zI
 refine aac (aa7 HM (by simp) λQb tO zJ=>?_)
 replace tO:IsZip Qb z TI TO (rawInt gz.objs.size):=tO
 refine aa7 tO (by simp) λvU oX zK=>?_
 replace oX:IsZip vU z TI TO (rawInt gz.objs.size):=oX
 have up:∀c o,c≠z->gz.get? c=some o->vU.get? c=some o:=λc o c1 e=>zK.extBut _ _ c1 (zJ.extBut _ _ c1 (aad _ e))
 have xo:IsPair vU gz.objs.size x y:=zK.extBut _ _ (aa0 tN) (zJ.extBut _ _ (aa0 tN) (aar _ rfl))
 rw[hsz]at oX xo
 refine aak ⟨.ref gz.objs.size,rfl,aak ?_⟩
 rw[hsz]
 exact hQ vU oX (up _ _ (aav lh) lp) (P9.at λo e=>up _ o (aav jS) e) (Qa.at λo e=>up _ o (aav mN) e) xo λc o c1 c2 c3 c4 e=>up c o c1 (P8 c o c1 c2 c3 c4 e)
theorem Nv{z TI TO i1 i2 l1:Addr}{k:Nat}{xs:Array Value}{a b:Value}{Q:Option Value->Shared->Prop}(hh:A.handled=none)(nd:[z,TI,TO,i1,i2].Nodup)(n1:l1∉[z,TI,TO,i1,i2])
 (hz:IsZip s.heap z TI TO .none) (iI:IsPair s.heap TI (.ref i1) (.ref i2)) (h1:gY tp s.heap i1 l1 k) (fJ:jL tp s.heap l1 xs) (hx:xs[k]?=none)
 (hQ:∀h',(∀c o,c≠z->c≠TO->c≠i1->c≠i2->s.heap.get? c=some o->h'.get? c=some o)->Q none {s with heap:=h'}):wpAny (model prog w) A (pyNext (.ref z)) Q E s:=by
 simp only[aaU,aan,aaE,abv,adU]at nd n1
 obtain⟨⟨vt,lh,jS,mN⟩,⟨TITO,TIi1,TIi2⟩,⟨TOi1,TOi2⟩,i12,_⟩:=nd
 obtain⟨l1z,P7,l1TO,l1i1,l1i2⟩:=n1
 have hT:s.TypeIs (.ref z) "zip":=⟨_,hz,rfl⟩
 unfold pyNext
 refine aac (acH (aa5 (name:=Str.ofString "__next__") hT abm (abk abm hT acb ?_ (ab7 _))))
 show wpAny _ _ (field (.ref z) 2 >>= _) _ _ _
 refine aac (aaY hz rfl (x:=.bool false) rfl ?_)
 show wpAny _ _ (field (.ref z) 3 >>= _) _ _ _
 refine aac (aaY hz rfl (x:=.ref TI) rfl ?_)
 refine aac (aa3 iI rfl ?_)
 show wpAny _ _ (Builtin.SmallTypes.ownedTupleIsFree (.ref z) >>= _) _ _ _
 refine aac ?_
 unfold Builtin.SmallTypes.ownedTupleIsFree
 refine aac (aaY hz rfl (x:=.none) rfl (aak ?_))
 simp only[ac9]
 refine aac (acX ?_)
 refine aac (aaY hz rfl (x:=.ref TO) rfl ?_)
 refine aac (aa7 hz (by simp) λh₁ iT iF=>?_)
 replace iT:IsZip h₁ z TI TO .ellipsis:=iT
 refine aac ?_
 simp only[acP,ac2,abF,ab5]
 refine aac (aac (acp ?_))
 show wpAny _ _ (Builtin.SmallTypes.nextOf (.ref i1) >>= _) _ _ _
 refine aac (HK (by first|exact hh|rfl) (h1.at λo e=>iF.extBut _ o (aav jS) e) (fJ.at λo e=>iF.extBut _ o l1z e) hx λkK e lj he=>?_)
 obtain⟨oe,xp,so⟩:=he
 have HN:IsZip kK z TI TO .ellipsis:=lj _ _ jS iT
 have Qc:e≠z:=λx=>by subst x;rw[HN]at xp;cases xp;simp at so
 refine aa7 HN (by simp) λkO _ mO=>?_
 refine aac (aeB (T:="StopIteration") (b:=true) ⟨oe,mO.extBut _ _ Qc xp,so⟩ aeS ?_)
 exact aak (hQ _ λc o c1 _ c3 _ x=>mO.extBut _ _ c1 (lj _ _ c3 (iF.extBut _ _ c1 x)))
end
end PySem
namespace PySem
noncomputable abbrev Fd(h:Heap)(l1:Addr):Heap:=h.push {cls:=.type "tuple_iterator",data:=.fields #[.ref l1,.int 0 0] }
noncomputable abbrev Fe(h:Heap)(l1 l2:Addr):Heap:=(Fd h l1).push {cls:=.type "tuple_iterator",data:=.fields #[.ref l2,.int 0 0] }
noncomputable abbrev Ff(h:Heap)(l1 l2:Addr):Heap:=(Fe h l1 l2).push {cls:=.type "tuple",data:=.seq #[.ref h.objs.size,.ref (Fd h l1).objs.size] }
noncomputable abbrev Fg(h:Heap)(l1 l2:Addr):Heap:=(Ff h l1 l2).push {cls:=.type "tuple",data:=.seq #[.none,.none] }
noncomputable abbrev yi(h:Heap)(l1 l2:Addr):Heap:=(Fg h l1 l2).push {cls:=.type "zip",data:=.fields #[.none,.bool false,.bool false,.ref (Fe h l1 l2).objs.size,.ref (Ff h l1 l2).objs.size] }
theorem Bu(l1 l2:Addr)(xs ys:Array Value) :
 Meets (Builtin.«zip.__new__» ⟨[.type "zip",.ref l1,.ref l2],[]⟩) (λ_ R s=>s.heap.IsTuple l1 xs/\s.heap.IsTuple l2 ys/\R (.ok (.ret (.ref (Fg s.heap l1 l2).objs.size))) {s with heap:=yi s.heap l1 l2}):=
 .of_wp λprog w A R s h=>by
  obtain⟨hp,g,d,tk,os⟩:=s;obtain⟨fJ,dw,h⟩:=h
  have Qd:=sub_zip
  have HP:Heap.IsTuple (Shared.heap ⟨hp,g,d,tk,os⟩) l1 xs:=fJ
  have Bv:Heap.IsTuple (Shared.heap ⟨hp.push {cls:=.type "tuple_iterator",data:=.fields #[.ref l1,.int 0 0] },g,d,tk,os⟩) l2 ys:=ad6 dw _
  wp_walk using ac3 HP,ac3 Bv
  exact⟨_,rfl,h⟩
section
variable {prog:Program}{w:World}{A:Around}{E:Value->Shared->Prop}{s:Shared}{tp:Bool}
theorem DG{l1 l2:Addr}{xs ys:Array Value}{Q:Value->Shared->Prop}(fJ:jL tp s.heap l1 xs)(dw:jL tp s.heap l2 ys)
 (h:∀h',IsZip h' (s.heap.objs.size+4) (s.heap.objs.size+2) (s.heap.objs.size+3) .none->IsPair h' (s.heap.objs.size+2) (.ref s.heap.objs.size) (.ref (s.heap.objs.size+1))->
  IsPair h' (s.heap.objs.size+3) .none .none->gY tp h' s.heap.objs.size l1 0->gY tp h' (s.heap.objs.size+1) l2 0->(∀c o,s.heap.get? c=some o->h'.get? c=some o)->Q (.ref (s.heap.objs.size+4)) {s with heap:=h'}) :
 wpAny (model prog w) A (call (.type "zip") [.ref l1,.ref l2]) Q E s:=by
 cases tp
 . exact call_zip_2 fJ dw λh' a b c d e _ f=>h h' a b c d e f
 . refine callType_new aeN (by decide) (ads _ _) (adJ _ _) (λobj=>acK obj _ _) adK (Bu l1 l2 xs ys) ⟨fJ,dw,?_⟩
   have z1:(Fd s.heap l1).objs.size=s.heap.objs.size+1:=abn ..
   have z2:(Fe s.heap l1 l2).objs.size=s.heap.objs.size+2:=by rw[abn,z1]
   have z3:(Ff s.heap l1 l2).objs.size=s.heap.objs.size+3:=by rw[abn,z2]
   have z4:(Fg s.heap l1 l2).objs.size=s.heap.objs.size+4:=by rw[abn,z3]
   have g5:(yi s.heap l1 l2).get? (Fg s.heap l1 l2).objs.size=some _:=aar _ rfl
   have g4:(yi s.heap l1 l2).get? (Ff s.heap l1 l2).objs.size=some _:=aad _ (aar _ rfl)
   have g3:(yi s.heap l1 l2).get? (Fe s.heap l1 l2).objs.size=some _:=aad _ (aad _ (aar _ rfl))
   have g2:(yi s.heap l1 l2).get? (Fd s.heap l1).objs.size=some _:=aad _ (aad _ (aad _ (aar _ rfl)))
   have g1:(yi s.heap l1 l2).get? s.heap.objs.size=some _:=aad _ (aad _ (aad _ (aad _ (aar _ rfl))))
   show _/\_
   rw[z2,z3,z4]at g5
   rw[z1,z2]at g3
   rw[z3]at g4
   rw[z1]at g2
   rw[z4]
   exact⟨⟨_,g5,rfl⟩,h _ g5 g3 g4 ⟨_,g1,rfl,rfl⟩ ⟨_,g2,rfl,rfl⟩ λc o x=>
    aad _ (aad _ (aad _ (aad _ (aad _ x))))⟩
end
end PySem
namespace L2
open PySem PySem.Spec PyProof.Rows
noncomputable def ZH(tp:Bool)(H:Hp)(a:Addr)(xs:List V):Prop:=match tp with|true=>H a=some (.tup xs)|false=>H a=some (.lst xs)
theorem ZH.inj{tp:Bool}{H:Hp}{a:Addr}{xs ys:List V}(h:ZH tp H a xs)(h':ZH tp H a ys):xs=ys:=by
 cases tp <;> (have e:=(show H a=_ from h).symm.trans (show H a=_ from h');cases e;rfl)
theorem ZH.same{tp:Bool}{H H':Hp}{a:Addr}{xs:List V}(h:ZH tp H a xs)(k:∀o,H a=some o->H' a=some o):ZH tp H' a xs:=by cases tp <;> exact k _ h
section
variable {X:Cx}
end
end L2
namespace PySem
open PySem PySem.Spec PyProof.Rows
section
variable {prog:Program}{w:World}{A:Around}{E:Value->Shared->Prop}{s:Shared}{tp tq:Bool}
theorem Nw{z TI TO i1 i2 l1 l2:Addr}{k:Nat}{xs ys:Array Value}{x y a b:Value}{Q:Option Value->Shared->Prop}(nd:[z,TI,TO,i1,i2].Nodup)(n1:l1∉[z,TI,TO,i1,i2])(n2:l2∉[z,TI,TO,i1,i2])
 (hz:IsZip s.heap z TI TO .none) (iI:IsPair s.heap TI (.ref i1) (.ref i2)) (jc:IsPair s.heap TO a b) (h1:gY tp s.heap i1 l1 k) (h2:gY tq s.heap i2 l2 k) (fJ:jL tp s.heap l1 xs) (dw:jL tq s.heap l2 ys) (hx:xs[k]?=some x) (hy:ys[k]?=some y)
 (hQ:∀h',IsZip h' z TI TO (rawInt s.heap.objs.size)->IsPair h' TO x y->gY tp h' i1 l1 (k+1)->gY tq h' i2 l2 (k+1)->IsPair h' s.heap.objs.size x y->
  (∀c o,c≠z->c≠TO->c≠i1->c≠i2->s.heap.get? c=some o->h'.get? c=some o)->Q (some (.ref s.heap.objs.size)) {s with heap:=h'}):wpAny (model prog w) A (pyNext (.ref z)) Q E s:=by
 simp only[aaU,aan,aaE,abv,adU]at nd n1 n2
 obtain⟨⟨vt,lh,jS,mN⟩,⟨TITO,TIi1,TIi2⟩,⟨TOi1,TOi2⟩,i12,_⟩:=nd
 obtain⟨l1z,P7,l1TO,l1i1,l1i2⟩:=n1
 obtain⟨l2z,X2,l2TO,l2i1,l2i2⟩:=n2
 have hT:s.TypeIs (.ref z) "zip":=⟨_,hz,rfl⟩
 unfold pyNext
 refine aac (acH (aa5 (name:=Str.ofString "__next__") hT abm (abk abm hT acb ?_ (ab7 _))))
 show wpAny _ _ (field (.ref z) 2 >>= _) _ _ _
 refine aac (aaY hz rfl (x:=.bool false) rfl ?_)
 show wpAny _ _ (field (.ref z) 3 >>= _) _ _ _
 refine aac (aaY hz rfl (x:=.ref TI) rfl ?_)
 refine aac (aa3 iI rfl ?_)
 show wpAny _ _ (Builtin.SmallTypes.ownedTupleIsFree (.ref z) >>= _) _ _ _
 refine aac ?_
 unfold Builtin.SmallTypes.ownedTupleIsFree
 refine aac (aaY hz rfl (x:=.none) rfl (aak ?_))
 simp only[ac9]
 refine aac (acX ?_)
 refine aac (aaY hz rfl (x:=.ref TO) rfl ?_)
 refine aac (aa7 hz (by simp) λh₁ iT iF=>?_)
 replace iT:IsZip h₁ z TI TO .ellipsis:=iT
 refine aac ?_
 simp only[acP,ac2,abF,ab5]
 have k1:∀c o,c≠z->s.heap.get? c=some o->h₁.get? c=some o:=λc o n e=>iF.extBut _ _ n e
 refine aac (aac (acp ?_))
 show wpAny _ _ (Builtin.SmallTypes.nextOf (.ref i1) >>= _) _ _ _
 refine aac (qq (h1.at λo e=>k1 _ o (aav jS) e) (fJ.at λo e=>k1 _ o l1z e) hx λkK Bt lj=>aak ?_)
 have k2:∀c o,c≠i1->h₁.get? c=some o->kK.get? c=some o:=λc o n e=>lj.extBut _ _ n e
 have tL:IsPair kK TO a b:=k2 _ _ TOi1 (k1 _ _ (aav lh) jc)
 refine aac (aa3 tL rfl ?_)
 refine aac (ab3 tL λkO oy mO=>?_)
 replace oy:IsPair kO TO x b:=oy
 have k3:∀c o,c≠TO->kK.get? c=some o->kO.get? c=some o:=λc o n e=>mO.extBut _ _ n e
 refine aac (adb (aak ?_))
 refine aac (aac (acp ?_))
 show wpAny _ _ (Builtin.SmallTypes.nextOf (.ref i2) >>= _) _ _ _
 refine aac (qq (h2.at λo e=>k3 _ o (aav TOi2) (k2 _ o (aav i12) (k1 _ o (aav mN) e))) (dw.at λo e=>k3 _ o l2TO (k2 _ o l2i1 (k1 _ o l2z e))) hy λsv HL zG=>aak ?_)
 have k4:∀c o,c≠i2->kO.get? c=some o->sv.get? c=some o:=λc o n e=>zG.extBut _ _ n e
 have tM:IsPair sv TO x b:=k4 _ _ TOi2 oy
 refine aac (aa3 tM rfl ?_)
 refine aac (ab3 tM λgz lp zH=>?_)
 replace lp:IsPair gz TO x y:=lp
 have k5:∀c o,c≠TO->sv.get? c=some o->gz.get? c=some o:=λc o n e=>zH.extBut _ _ n e
 refine aac (adb (aak (aak ?_)))
 refine aac (aa3 lp rfl ?_)
 refine aac (ad0 ?_)
 have hsz:gz.objs.size=s.heap.objs.size:=by rw[zH.1,zG.1,mO.1,lj.1,iF.1]
 have zI:IsZip gz z TI TO .ellipsis:=k5 _ _ lh (k4 _ _ mN (k3 _ _ lh (k2 _ _ jS iT)))
 have P8:∀c o,c≠z->c≠TO->c≠i1->c≠i2->s.heap.get? c=some o->gz.get? c=some o:=λc o c1 c2 c3 c4 e=>k5 _ _ c2 (k4 _ _ c4 (k3 _ _ c2 (k2 _ _ c3 (k1 _ _ c1 e))))
 have P9:gY tp gz i1 l1 (k+1):=Bt.at λo e=>k5 _ _ (aav TOi1) (k4 _ _ i12 (k3 _ _ (aav TOi1) e))
 have Qa:gY tq gz i2 l2 (k+1):=HL.at λo e=>k5 _ _ (aav TOi2) e
 have tN:z<gz.objs.size:=aam zI
 show wpAny _ _ (Builtin.SmallTypes.ownedTupleHandOut (.ref z) (.ref gz.objs.size) >>= _) _ _ _
 refine aac ?_
 unfold Builtin.SmallTypes.ownedTupleHandOut
 have HM:IsZip (gz.push {cls:=.type "tuple",data:=.seq #[x,y] }) z TI TO .ellipsis:=aad _ zI
 refine aac (aa7 HM (by simp) λQb tO zJ=>?_)
 replace tO:IsZip Qb z TI TO (rawInt gz.objs.size):=tO
 refine aa7 tO (by simp) λvU oX zK=>?_
 replace oX:IsZip vU z TI TO (rawInt gz.objs.size):=oX
 have up:∀c o,c≠z->gz.get? c=some o->vU.get? c=some o:=λc o c1 e=>zK.extBut _ _ c1 (zJ.extBut _ _ c1 (aad _ e))
 have xo:IsPair vU gz.objs.size x y:=zK.extBut _ _ (aa0 tN) (zJ.extBut _ _ (aa0 tN) (aar _ rfl))
 rw[hsz]at oX xo
 refine aak ⟨.ref gz.objs.size,rfl,aak ?_⟩
 rw[hsz]
 exact hQ vU oX (up _ _ (aav lh) lp) (P9.at λo e=>up _ o (aav jS) e) (Qa.at λo e=>up _ o (aav mN) e) xo λc o c1 c2 c3 c4 e=>up c o c1 (P8 c o c1 c2 c3 c4 e)
end
end PySem
namespace L2
open PySem PySem.Spec PyProof.Rows
noncomputable def ZK(K:W.Frag)(tp:Bool)(H:Hp)(a:Addr)(xs:List V):Prop:=match tp with|true=>aM K H a xs|false=>aq K H a xs
section
variable {X:Cx}{pins:List (Addr×Obj)}{σ:St}{H:Hp}{s:Shared}{tp:Bool}{a:Addr}{xs ys:List V}
theorem Inv.zk(I:Inv X pins σ H s)(h:ZK X.K tp H a xs):∃its:List Value,Vals xs its/\jL tp s.heap a its.toArray/\xs.length<=sizeLine:=by
 cases tp
 . obtain⟨its,r,pl,z⟩:=I.list h
   exact⟨its,r,pl.isList,z⟩
 . obtain⟨its,r,⟨o,e,c,n,d⟩,z⟩:=I.tuple h
   exact⟨its,r,⟨o,e,c,n,d⟩,z⟩
theorem Inv.HQ(I:Inv X pins σ H s)(h:ZK X.K tp H a xs)(h':ZK X.K tp H a ys):xs=ys:=by
 cases tp
 . exact I.vF h h'
 . exact I.sC h h'
theorem Inv.Bw{fp:List Addr}(I:Inv X pins σ H s)(h:ZK X.K tp H a xs)(hf:∀b∈fp,iU X pins H b):a∉fp:=λm=>by
 have own:∀o,X.K.lookup a=some o->False:=λo e=>by
  have eb:=I.ok.mod.kin a o e
  obtain⟨_,_,_,h4,_⟩:=hf a m
  rcases h4 with h4|h4
  . exact I.ok.noex a o eb h4
  . exact absurd (aaP (aam eb) (aap I.ok.bsz h4)) (aby _)
 have aH:=(hf a m).1
 cases tp
 . rcases h with (h|⟨o,h⟩)|⟨o,_,_,e,_⟩
   . rw[aH]at h;cases h
   . rw[aH]at h;cases h
   . exact own o e
 . rcases h with (h|⟨o,h⟩)|⟨o,_,_,e,_⟩
   . rw[aH]at h;cases h
   . rw[aH]at h;cases h
   . exact own o e
end
noncomputable def Itm(K:W.Frag)(tp tq:Bool)(a b:Addr):It:=
 ⟨λi H=>∃xs ys x y,ZK K tp H a xs/\ZK K tq H b ys/\xs[i]?=some x/\ys[i]?=some y,λi H v H'=>∃T x y,v=.ref T/\H T=none/\H'=upd H T (.tup [x,y])/\(∀xs,ZK K tp H a xs->xs[i]?=some x)/\∀ys,ZK K tq H b ys->ys[i]?=some y,
  λi H=>∃xs,ZK K tp H a xs/\xs.length<=i⟩
theorem DI{P:Program}{w:World}{K:W.Frag}{es:List Expr}{kk:Nat}{pp:Pos}{tp tq:Bool}{a b z TI TO i1 i2:Addr}(nd:[z,TI,TO,i1,i2].Nodup) :
 Turn P w K (.Tuple es kk pp) (Itm K tp tq a b) [z,TI,TO,i1,i2] z (λi h=>IsZip h z TI TO .none/\IsPair h TI (.ref i1) (.ref i2)/\(∃a b,IsPair h TO a b)/\gY tp h i1 a i/\gY tq h i2 b i) where
 mem:=by simp
 obj:=λi h st c hc=>by
  obtain⟨hz,iI,⟨u,v,jc⟩,h1,h2⟩:=st
  simp only[aan,aaE,abv]at hc
  rcases hc with rfl|rfl|rfl|rfl|rfl
  . exact⟨_,hz,λv z=>by cases(show Data.fields _=Data.cell v from z)⟩
  . exact⟨_,iI,λv z=>by cases(show Data.seq _=Data.cell v from z)⟩
  . exact⟨_,jc,λv z=>by cases(show Data.seq _=Data.cell v from z)⟩
  . obtain⟨o,e,vs,d⟩:=h1.there
    exact⟨o,e,λv z=>by rw[d]at z;cases z⟩
  . obtain⟨o,e,vs,d⟩:=h2.there
    exact⟨o,e,λv z=>by rw[d]at z;cases z⟩
 keep:=λi h h' st k=>by
  obtain⟨hz,iI,⟨u,v,jc⟩,h1,h2⟩:=st
  exact⟨k z (by simp) _ hz,k TI (by simp) _ iI,⟨u,v,k TO (by simp) _ jc⟩,h1.at λo e=>k i1 (by simp) o e,h2.at λo e=>k i2 (by simp) o e⟩
 item:=by
  intro X hP hw hK hc i pins s σ H E I hf st hg
  subst hP hw hK
  obtain⟨xs,ys,x,y,DJ,Qe,hx,hy⟩:=hg
  obtain⟨its,rv,p,zE⟩:=I.zk DJ
  obtain⟨its',LY,p',aek⟩:=I.zk Qe
  obtain⟨u,hu,ru⟩:=rv.get hx
  obtain⟨v,hv,ZI⟩:=LY.get hy
  obtain⟨hz,iI,⟨c,d,jc⟩,h1,h2⟩:=st
  have na:a∉[z,TI,TO,i1,i2]:=I.Bw DJ hf
  have nb:b∉[z,TI,TO,i1,i2]:=I.Bw Qe hf
  refine Nw nd na nb hz iI jc h1 h2 p p' (x:=u) (y:=v) (by simpa using hu) (by simpa using hv) λh' a1 a2 a3 a4 a5 kk=>?_
  refine⟨.ref s.heap.objs.size,rfl,?_⟩
  refine wpAny_letOwnedTupleGo_zip a1 λh3 HE LZ=>?_
  have zL:=nd
  simp only[aaU,aan,aaE,abv,adU]at zL
  obtain⟨⟨vt,lh,jS,mN⟩,⟨TITO,TIi1,TIi2⟩,⟨TOi1,TOi2⟩,i12,_⟩:=zL
  have lt:∀c∈[z,TI,TO,i1,i2],c≠s.heap.objs.size:=λc hc=>by
   simp only[aan,aaE,abv]at hc
   rcases hc with rfl|rfl|rfl|rfl|rfl
   . exact aax (aam hz)
   . exact aax (aam iI)
   . exact aax (aam jc)
   . obtain⟨o,e,_⟩:=h1.there
     exact aax (aam e)
   . obtain⟨o,e,_⟩:=h2.there
     exact aax (aam e)
  have k3:∀c o,c≠z->h'.get? c=some o->h3.get? c=some o:=λc o n e=>LZ.extBut _ _ n e
  have I1:Inv X pins σ (upd H s.heap.objs.size (.tup [x,y])) {s with heap:=h3,toks:=s.toks}:=I.x8 (its:=[u,v]) hf (λb o hb e1=>by
   simp only[aan,aaE,abv,adU]at hb
   exact k3 b o hb.1 (kk b o hb.1 hb.2.2.1 hb.2.2.2.1 hb.2.2.2.2 e1)) (aah _) ⟨_,k3 _ _ (aav (lt z (by simp))) a5,rfl,_,rfl⟩ (.cons ru (.cons ZI .nil)) (by show 2<=sizeLine;decide)
  have fr:H s.heap.objs.size=none:=I.hok.fresh (aah _)
  refine⟨.ref s.heap.objs.size,_,I1,rfl,⟨s.heap.objs.size,x,y,rfl,fr,rfl,λxf h=>by rw[I.HQ h DJ];exact hx,λBf h=>by rw[I.HQ h Qe];exact hy⟩,⟨HE,k3 _ _ (aav vt) (kk _ _ (aav vt) TITO TIi1 TIi2 iI),⟨_,_,k3 _ _ (aav lh) a2⟩,a3.at λo e=>k3 _ o (aav jS) e,a4.at λo e=>k3 _ o (aav mN) e⟩,λb hb=>?_⟩
  rw[ai (lt b hb)]
  exact(hf b hb).1
 done:=by
  intro X hP hw hK hc i pins s σ H E I hf st hg
  subst hP hw hK
  obtain⟨xs,DJ,hx⟩:=hg
  obtain⟨its,rv,p,zE⟩:=I.zk DJ
  obtain⟨hz,iI,⟨c,d,jc⟩,h1,h2⟩:=st
  have hl:=rv.length
  have na:a∉[z,TI,TO,i1,i2]:=I.Bw DJ hf
  exact Nv (I.ok.hd hc) nd na hz iI h1 p (a:=.none) (b:=.none) (by simp;omega) λh' kk=>⟨rfl,I.x6 (t':=s.toks) hf λb o hb e1=>by
   simp only[aan,aaE,abv,adU]at hb
   exact kk b o hb.1 hb.2.2.1 hb.2.2.2.1 hb.2.2.2.2 e1⟩
 self:=λ_ _ _ _ _ st h=>adt st.1 h
section
variable {X:Cx}
end
end L2
namespace PySem
open PySem.Spec PyProof.Rows
theorem nA{M:Model}{A:Around}{E:Value->Shared->Prop}{s:Shared}{a:Addr}{Q:Option Obj->Shared->Prop}(h:Q (s.heap.get? a) s):wpAny M A (loadIfAlive a) Q E s:=λΓ p hp=>by
 unfold loadIfAlive
 simp only[Sem.wp_loadIfAlive]
 exact aak (M:=M) (A:=A) (E:=E) (s:=s) h Γ p hp
structure iK(prog:Program) (w:World) (it:Addr) (more:List Addr) (n:Nat) (P:Nat->Value->Prop) (st:Nat->Heap->Prop):Prop where
 «at» : ∀{i:Nat}{h h':Heap},st i h->(∀b∈it::more,∀o,h.get? b=some o->h'.get? b=some o)->st i h'
 there:∀{i:Nat}{h:Heap},st i h->∃o,h.get? it=some o
 item:∀{A:Around}{E:Value->Shared->Prop}{s:Shared}{i:Nat}{Q:Value->Shared->Prop},i<n->st i s.heap->(∀x h',P i x->st (i+1) h'->Heap.SameBut it s.heap h'->Q x {s with heap:=h'})->wpAny (model prog w) A (Builtin.SmallTypes.nextOf (.ref it)) Q E s
 fin:∀{A:Around}{E:Value->Shared->Prop}{s:Shared}{Q:Value->Shared->Prop},A.handled=none->st n s.heap->(∀h' e,Heap.ExtBut it s.heap h'->(∃o,h'.get? e=some o/\o.cls=.type "StopIteration")->E (.ref e) {s with heap:=h'})->wpAny (model prog w) A (Builtin.SmallTypes.nextOf (.ref it)) Q E s
theorem oY{prog:Program}{w:World}{tp:Bool}{it l:Addr}{items:Array Value}(ig:l≠it):iK prog w it [l] items.size (λi x=>items[i]?=some x) (λi h=>gY tp h it l i/\jL tp h l items) where
 «at»:=λst k=>⟨st.1.at λo e=>k it (by simp) o e,st.2.at λo e=>k l (by simp) o e⟩
 there:=λst=>let ⟨o,e,_⟩:=st.1.there; ⟨o,e⟩
 item:=λ{A E s i Q} hi st h=>qq st.1 st.2 (abU hi) λh' i' sb=>h _ h' (abU hi) ⟨i',st.2.at λo e=>(sb.2 l ig).trans e⟩ sb
 fin:=λ{A E s Q} hh st h=>HK hh st.1 st.2 (ac7 (aah _)) h
noncomputable def ZS(h:Heap)(z TI TO i1 i2:Addr):Prop:=
 IsPair h TI (.ref i1) (.ref i2)/\(∃a b,IsPair h TO a b)/\(IsZip h z TI TO .none\/∃(a:Addr) (o:Obj) (b1:Bool),a∉[z,TI,TO,i1,i2]/\h.get? a=some o/\h.get? z=some {cls:=.type "zip",dict:=none,data:=.fields #[rawInt a,.bool b1,.bool false,.ref TI,.ref TO],slots:=#[] })
section
variable {prog:Program}{w:World}{A:Around}{E:Value->Shared->Prop}{s:Shared}{z TI TO i1 i2:Addr}{m1 m2:List Addr}{n1 n2:Nat}{P1 P2:Nat->Value->Prop}{mQ jI:Nat->Heap->Prop}
theorem Nx{k:Nat}{Q:Option Value->Shared->Prop}(nd:[z,TI,TO,i1,i2].Nodup)(a1:∀b∈m1,b∉[z,TI,TO,i1,i2])(a2:∀b∈m2,b∉[z,TI,TO,i1,i2])
 (D1:iK prog w i1 m1 n1 P1 mQ) (D2:iK prog w i2 m2 n2 P2 jI) (hz:ZS s.heap z TI TO i1 i2) (h1:mQ k s.heap) (h2:jI k s.heap) (VH:k<n1) (DF:k<n2)
 (hQ:∀x y h' T,P1 k x->P2 k y->ZS h' z TI TO i1 i2->mQ (k+1) h'->jI (k+1) h'->T∉[z,TI,TO,i1,i2]->s.heap.get? T=none->IsPair h' T x y->
  (∀c o,c∉[z,TI,TO,i1,i2]->s.heap.get? c=some o->h'.get? c=some o)->Q (some (.ref T)) {s with heap:=h'}):wpAny (model prog w) A (pyNext (.ref z)) Q E s:=by
 have zL:=nd
 simp only[aaU,aan,aaE,abv,adU]at zL
 obtain⟨⟨vt,lh,jS,mN⟩,⟨TITO,TIi1,TIi2⟩,⟨TOi1,TOi2⟩,i12,_⟩:=zL
 obtain⟨iI,⟨a,b,jc⟩,hz⟩:=hz
 have lt:∀c∈[z,TI,TO,i1,i2],∀o,s.heap.get? c=some o->c≠s.heap.objs.size:=λc _ o e=>aax (aam e)
 rcases hz with hz|⟨al,ol,b1,jM,vq,hz⟩
 . have hT:s.TypeIs (.ref z) "zip":=⟨_,hz,rfl⟩
   unfold pyNext
   refine aac (acH (aa5 (name:=Str.ofString "__next__") hT abm (abk abm hT acb ?_ (ab7 _))))
   show wpAny _ _ (field (.ref z) 2 >>= _) _ _ _
   refine aac (aaY hz rfl (x:=.bool false) rfl ?_)
   show wpAny _ _ (field (.ref z) 3 >>= _) _ _ _
   refine aac (aaY hz rfl (x:=.ref TI) rfl ?_)
   refine aac (aa3 iI rfl ?_)
   show wpAny _ _ (Builtin.SmallTypes.ownedTupleIsFree (.ref z) >>= _) _ _ _
   refine aac ?_
   unfold Builtin.SmallTypes.ownedTupleIsFree
   refine aac (aaY hz rfl (x:=.none) rfl (aak ?_))
   simp only[ac9]
   refine aac (acX ?_)
   refine aac (aaY hz rfl (x:=.ref TO) rfl ?_)
   refine aac (aa7 hz (by simp) λh₁ iT iF=>?_)
   replace iT:IsZip h₁ z TI TO .ellipsis:=iT
   refine aac ?_
   simp only[acP,ac2,abF,ab5]
   have k1:∀c o,c≠z->s.heap.get? c=some o->h₁.get? c=some o:=λc o n e=>iF.extBut _ _ n e
   refine aac (aac (acp ?_))
   show wpAny _ _ (Builtin.SmallTypes.nextOf (.ref i1) >>= _) _ _ _
   refine aac (D1.item VH (D1.at h1 λb hb o e=>k1 b o (by
    rcases aan.mp hb with rfl|hb
    . exact aav jS
    . exact λq=>a1 b hb (by rw[q];simp)) e) λx kK px Bt lj=>aak ?_)
   have k2:∀c o,c≠i1->h₁.get? c=some o->kK.get? c=some o:=λc o n e=>lj.extBut _ _ n e
   have tL:IsPair kK TO a b:=k2 _ _ TOi1 (k1 _ _ (aav lh) jc)
   refine aac (aa3 tL rfl ?_)
   refine aac (ab3 tL λkO oy mO=>?_)
   replace oy:IsPair kO TO x b:=oy
   have k3:∀c o,c≠TO->kK.get? c=some o->kO.get? c=some o:=λc o n e=>mO.extBut _ _ n e
   refine aac (adb (aak ?_))
   refine aac (aac (acp ?_))
   show wpAny _ _ (Builtin.SmallTypes.nextOf (.ref i2) >>= _) _ _ _
   refine aac (D2.item DF (D2.at h2 λc hc o e=>k3 c o (by
    rcases aan.mp hc with rfl|hc
    . exact aav TOi2
    . exact λq=>a2 c hc (by rw[q];simp)) (k2 c o (by
    rcases aan.mp hc with rfl|hc
    . exact aav i12
    . exact λq=>a2 c hc (by rw[q];simp)) (k1 c o (by
    rcases aan.mp hc with rfl|hc
    . exact aav mN
    . exact λq=>a2 c hc (by rw[q];simp)) e))) λy sv py HL zG=>aak ?_)
   have k4:∀c o,c≠i2->kO.get? c=some o->sv.get? c=some o:=λc o n e=>zG.extBut _ _ n e
   have tM:IsPair sv TO x b:=k4 _ _ TOi2 oy
   refine aac (aa3 tM rfl ?_)
   refine aac (ab3 tM λgz lp zH=>?_)
   replace lp:IsPair gz TO x y:=lp
   have k5:∀c o,c≠TO->sv.get? c=some o->gz.get? c=some o:=λc o n e=>zH.extBut _ _ n e
   refine aac (adb (aak (aak ?_)))
   refine aac (aa3 lp rfl ?_)
   refine aac (ad0 ?_)
   have hsz:gz.objs.size=s.heap.objs.size:=by rw[zH.1,zG.1,mO.1,lj.1,iF.1]
   have zI:IsZip gz z TI TO .ellipsis:=k5 _ _ lh (k4 _ _ mN (k3 _ _ lh (k2 _ _ jS iT)))
   have tN:z<gz.objs.size:=aam zI
   show wpAny _ _ (Builtin.SmallTypes.ownedTupleHandOut (.ref z) (.ref gz.objs.size) >>= _) _ _ _
   refine aac ?_
   unfold Builtin.SmallTypes.ownedTupleHandOut
   have HM:IsZip (gz.push {cls:=.type "tuple",data:=.seq #[x,y] }) z TI TO .ellipsis:=aad _ zI
   refine aac (aa7 HM (by simp) λQb tO zJ=>?_)
   replace tO:IsZip Qb z TI TO (rawInt gz.objs.size):=tO
   refine aa7 tO (by simp) λvU oX zK=>?_
   replace oX:IsZip vU z TI TO (rawInt gz.objs.size):=oX
   have up:∀c o,c≠z->gz.get? c=some o->vU.get? c=some o:=λc o c1 e=>zK.extBut _ _ c1 (zJ.extBut _ _ c1 (aad _ e))
   have xo:IsPair vU gz.objs.size x y:=zK.extBut _ _ (aa0 tN) (zJ.extBut _ _ (aa0 tN) (aar _ rfl))
   rw[hsz]at oX xo
   refine aak ⟨.ref gz.objs.size,rfl,aak ?_⟩
   rw[hsz]
   have Bm:∀c o,c∉[z,TI,TO,i1,i2]->s.heap.get? c=some o->vU.get? c=some o:=λc o hc e=>by
    simp only[aan,aaE,abv,adU]at hc
    obtain⟨c1,c2,c3,c4,c5⟩:=hc
    exact up c o c1 (k5 _ _ c3 (k4 _ _ c5 (k3 _ _ c3 (k2 _ _ c4 (k1 _ _ c1 e)))))
   have Ao:s.heap.objs.size∉[z,TI,TO,i1,i2]:=λhm=>by
    obtain⟨o1,e1⟩:=D1.there h1
    obtain⟨o2,e2⟩:=D2.there h2
    have g1:=aam e1
    have g2:=aam e2
    have g3:=aam hz
    have g4:=aam iI
    have g5:=aam jc
    simp only[aan,aaE,abv]at hm
    rcases hm with e|e|e|e|e
    . exact aa0 g3 e
    . exact aa0 g4 e
    . exact aa0 g5 e
    . exact aa0 g1 e
    . exact aa0 g2 e
   refine hQ x y vU s.heap.objs.size px py ⟨up _ _ (aav vt) (k5 _ _ TITO (k4 _ _ TIi2 (k3 _ _ TITO (k2 _ _ TIi1 (k1 _ _ (aav vt) iI))))),⟨_,_,up _ _ (aav lh) lp⟩,.inr ⟨_,_,false,Ao,xo,oX⟩⟩ ?_ ?_ Ao (adx (aah _)) xo Bm
   . refine D1.at Bt λc hc o e=>?_
     have q:c≠z/\c≠TO/\c≠i2:=by
      rcases aan.mp hc with rfl|hc
      . exact⟨aav jS,aav TOi1,i12⟩
      . exact⟨λq=>a1 c hc (by rw[q];simp),λq=>a1 c hc (by rw[q];simp),λq=>a1 c hc (by rw[q];simp)⟩
     exact up c o q.1 (k5 _ _ q.2.1 (k4 _ _ q.2.2 (k3 _ _ q.2.1 e)))
   . refine D2.at HL λc hc o e=>?_
     have q:c≠z/\c≠TO:=by
      rcases aan.mp hc with rfl|hc
      . exact⟨aav mN,aav TOi2⟩
      . exact⟨λq=>a2 c hc (by rw[q];simp),λq=>a2 c hc (by rw[q];simp)⟩
     exact up c o q.1 (k5 _ _ q.2 e)
 . have hT:s.TypeIs (.ref z) "zip":=⟨_,hz,rfl⟩
   unfold pyNext
   refine aac (acH (aa5 (name:=Str.ofString "__next__") hT abm (abk abm hT acb ?_ (ab7 _))))
   show wpAny _ _ (field (.ref z) 2 >>= _) _ _ _
   refine aac (aaY hz rfl (x:=.bool false) rfl ?_)
   show wpAny _ _ (field (.ref z) 3 >>= _) _ _ _
   refine aac (aaY hz rfl (x:=.ref TI) rfl ?_)
   refine aac (aa3 iI rfl ?_)
   show wpAny _ _ (Builtin.SmallTypes.ownedTupleIsFree (.ref z) >>= _) _ _ _
   refine aac ?_
   unfold Builtin.SmallTypes.ownedTupleIsFree
   refine aac (aaY hz rfl (x:=rawInt al) rfl ?_)
   show wpAny _ _ (loadIfAlive ((al:Int)).toNat >>= _) _ _ _
   refine aac (nA ?_)
   rw[abS,vq]
   show wpAny _ _ (field (.ref z) 1 >>= _) _ _ _
   refine aac (aaY hz rfl (x:=.bool b1) rfl ?_)
   refine abG (Q:=λ(r:Bool) (s':Shared)=>r=false/\∃h',s' = {s with heap:=h'} /\ Heap.SameBut z s.heap h'/\h'.get? z=some {cls:=.type "zip",dict:=none,data:=.fields #[rawInt al,.bool true,.bool false,.ref TI,.ref TO],slots:=#[] }) ?_ ?_ (λ_ _ x=>x)
   . cases b1
     . show wpAny _ _ (setField (.ref z) 1 (.bool true) >>= _) _ _ _
       refine aac (aa7 hz (by simp) λh₁ iT iF=>aak ⟨rfl,h₁,rfl,iF,iT⟩)
     . exact aak ⟨rfl,s.heap,rfl,⟨rfl,λ_ _=>rfl⟩,hz⟩
   rintro r s' ⟨rfl,h₁,rfl,iF,iT⟩
   have k1:∀c o,c≠z->s.heap.get? c=some o->h₁.get? c=some o:=λc o n e=>iF.extBut _ _ n e
   show wpAny _ _ (forIn #[Value.ref i1,Value.ref i2] _ _ >>= _) _ _ _
   rw[← ae2]
   simp only[abF,ab5]
   refine aac (aac (aac (abf ?_)))
   show wpAny _ _ (Builtin.SmallTypes.nextOf (.ref i1) >>= _) _ _ _
   have ne1:∀c∈i1::m1,c≠z/\c≠TO/\c≠i2:=λc hc=>by
    rcases aan.mp hc with rfl|hc
    . exact⟨aav jS,aav TOi1,i12⟩
    . exact⟨λq=>a1 c hc (by rw[q];simp),λq=>a1 c hc (by rw[q];simp),λq=>a1 c hc (by rw[q];simp)⟩
   have ne2:∀c∈i2::m2,c≠z/\c≠i1:=λc hc=>by
    rcases aan.mp hc with rfl|hc
    . exact⟨aav mN,aav i12⟩
    . exact⟨λq=>a2 c hc (by rw[q];simp),λq=>a2 c hc (by rw[q];simp)⟩
   refine aac (D1.item VH (D1.at h1 λc hc o e=>k1 c o (ne1 c hc).1 e) λx kK px Bt lj=>aak (aak ?_))
   have k2:∀c o,c≠i1->h₁.get? c=some o->kK.get? c=some o:=λc o n e=>lj.extBut _ _ n e
   refine aac (aac (abf ?_))
   show wpAny _ _ (Builtin.SmallTypes.nextOf (.ref i2) >>= _) _ _ _
   refine aac (D2.item DF (D2.at h2 λc hc o e=>k2 c o (ne2 c hc).2 (k1 c o (ne2 c hc).1 e)) λy kO py ZJ mO=>aak (aak (aak ?_)))
   have k3:∀c o,c≠i2->kK.get? c=some o->kO.get? c=some o:=λc o n e=>mO.extBut _ _ n e
   show wpAny _ _ (newTuple [x,y] >>= _) _ _ _
   refine aac (ad0 ?_)
   have hsz:kO.objs.size=s.heap.objs.size:=by rw[mO.1,lj.1,iF.1]
   have ZL:=k3 _ _ mN (k2 _ _ jS iT)
   have up:∀c o,kO.get? c=some o->(kO.push {cls:=.type "tuple",data:=.seq #[x,y] }).get? c=some o:=λc o e=>aad _ e
   have Ao:s.heap.objs.size∉[z,TI,TO,i1,i2]:=λhm=>by
    obtain⟨o1,e1⟩:=D1.there h1
    obtain⟨o2,e2⟩:=D2.there h2
    have g1:=aam e1
    have g2:=aam e2
    have g3:=aam hz
    have g4:=aam iI
    have g5:=aam jc
    simp only[aan,aaE,abv]at hm
    rcases hm with e|e|e|e|e
    . exact aa0 g3 e
    . exact aa0 g4 e
    . exact aa0 g5 e
    . exact aa0 g1 e
    . exact aa0 g2 e
   have VI:IsPair (kO.push {cls:=.type "tuple",data:=.seq #[x,y] }) kO.objs.size x y:=aar _ rfl
   have Bm:∀c o,c∉[z,TI,TO,i1,i2]->s.heap.get? c=some o->(kO.push {cls:=.type "tuple",data:=.seq #[x,y] }).get? c=some o:=λc o hc e=>by
    simp only[aan,aaE,abv,adU]at hc
    obtain⟨c1,c2,c3,c4,c5⟩:=hc
    exact up c o (k3 _ _ c5 (k2 _ _ c4 (k1 _ _ c1 e)))
   refine aak ⟨.ref kO.objs.size,rfl,aak ?_⟩
   rw[hsz]at VI ⊢
   refine hQ x y _ s.heap.objs.size px py ⟨up _ _ (k3 _ _ TIi2 (k2 _ _ TIi1 (k1 _ _ (aav vt) iI))),⟨_,_,up _ _ (k3 _ _ TOi2 (k2 _ _ TOi1 (k1 _ _ (aav lh) jc)))⟩,.inr ⟨al,ol,true,jM,Bm _ _ jM vq,up _ _ ZL⟩⟩ ?_ ?_ Ao (adx (aah _)) VI Bm
   . exact D1.at Bt λc hc o e=>up c o (k3 _ _ (ne1 c hc).2.2 e)
   . exact D2.at ZJ λc hc o e=>up c o e
theorem Ny{Q:Option Value->Shared->Prop}(hh:A.handled=none)(nd:[z,TI,TO,i1,i2].Nodup)(a1:∀b∈m1,b∉[z,TI,TO,i1,i2])
 (D1:iK prog w i1 m1 n1 P1 mQ) (hz:ZS s.heap z TI TO i1 i2) (h1:mQ n1 s.heap)
 (hQ:∀h',(∀c o,c∉[z,TI,TO,i1,i2]->s.heap.get? c=some o->h'.get? c=some o)->Q none {s with heap:=h'}):wpAny (model prog w) A (pyNext (.ref z)) Q E s:=by
 have zL:=nd
 simp only[aaU,aan,aaE,abv,adU]at zL
 obtain⟨⟨vt,lh,jS,mN⟩,⟨TITO,TIi1,TIi2⟩,⟨TOi1,TOi2⟩,i12,_⟩:=zL
 obtain⟨iI,⟨a,b,jc⟩,hz⟩:=hz
 have ne1:∀c∈i1::m1,c≠z:=λc hc=>by
  rcases aan.mp hc with rfl|hc
  . exact aav jS
  . exact λq=>a1 c hc (by rw[q];simp)
 rcases hz with hz|⟨al,ol,b1,jM,vq,hz⟩
 . have hT:s.TypeIs (.ref z) "zip":=⟨_,hz,rfl⟩
   unfold pyNext
   refine aac (acH (aa5 (name:=Str.ofString "__next__") hT abm (abk abm hT acb ?_ (ab7 _))))
   show wpAny _ _ (field (.ref z) 2 >>= _) _ _ _
   refine aac (aaY hz rfl (x:=.bool false) rfl ?_)
   show wpAny _ _ (field (.ref z) 3 >>= _) _ _ _
   refine aac (aaY hz rfl (x:=.ref TI) rfl ?_)
   refine aac (aa3 iI rfl ?_)
   show wpAny _ _ (Builtin.SmallTypes.ownedTupleIsFree (.ref z) >>= _) _ _ _
   refine aac ?_
   unfold Builtin.SmallTypes.ownedTupleIsFree
   refine aac (aaY hz rfl (x:=.none) rfl (aak ?_))
   simp only[ac9]
   refine aac (acX ?_)
   refine aac (aaY hz rfl (x:=.ref TO) rfl ?_)
   refine aac (aa7 hz (by simp) λh₁ iT iF=>?_)
   replace iT:IsZip h₁ z TI TO .ellipsis:=iT
   refine aac ?_
   simp only[acP,ac2,abF,ab5]
   refine aac (aac (acp ?_))
   show wpAny _ _ (Builtin.SmallTypes.nextOf (.ref i1) >>= _) _ _ _
   refine aac (D1.fin (by first|exact hh|rfl) (D1.at h1 λc hc o e=>iF.extBut _ o (ne1 c hc) e) λkK e lj he=>?_)
   obtain⟨oe,xp,so⟩:=he
   have HN:IsZip kK z TI TO .ellipsis:=lj _ _ jS iT
   have Qc:e≠z:=λx=>by subst x;rw[HN]at xp;cases xp;simp at so
   refine aa7 HN (by simp) λkO _ mO=>?_
   refine aac (aeB (T:="StopIteration") (b:=true) ⟨oe,mO.extBut _ _ Qc xp,so⟩ aeS ?_)
   refine aak (hQ _ λc o hc x=>?_)
   simp only[aan,aaE,abv,adU]at hc
   exact mO.extBut _ _ hc.1 (lj _ _ hc.2.2.2.1 (iF.extBut _ _ hc.1 x))
 . have hT:s.TypeIs (.ref z) "zip":=⟨_,hz,rfl⟩
   unfold pyNext
   refine aac (acH (aa5 (name:=Str.ofString "__next__") hT abm (abk abm hT acb ?_ (ab7 _))))
   show wpAny _ _ (field (.ref z) 2 >>= _) _ _ _
   refine aac (aaY hz rfl (x:=.bool false) rfl ?_)
   show wpAny _ _ (field (.ref z) 3 >>= _) _ _ _
   refine aac (aaY hz rfl (x:=.ref TI) rfl ?_)
   refine aac (aa3 iI rfl ?_)
   show wpAny _ _ (Builtin.SmallTypes.ownedTupleIsFree (.ref z) >>= _) _ _ _
   refine aac ?_
   unfold Builtin.SmallTypes.ownedTupleIsFree
   refine aac (aaY hz rfl (x:=rawInt al) rfl ?_)
   show wpAny _ _ (loadIfAlive ((al:Int)).toNat >>= _) _ _ _
   refine aac (nA ?_)
   rw[abS,vq]
   show wpAny _ _ (field (.ref z) 1 >>= _) _ _ _
   refine aac (aaY hz rfl (x:=.bool b1) rfl ?_)
   refine abG (Q:=λ(r:Bool) (s':Shared)=>r=false/\∃h',s' = {s with heap:=h'} /\ Heap.SameBut z s.heap h'/\h'.get? z=some {cls:=.type "zip",dict:=none,data:=.fields #[rawInt al,.bool true,.bool false,.ref TI,.ref TO],slots:=#[] }) ?_ ?_ (λ_ _ x=>x)
   . cases b1
     . show wpAny _ _ (setField (.ref z) 1 (.bool true) >>= _) _ _ _
       refine aac (aa7 hz (by simp) λh₁ iT iF=>aak ⟨rfl,h₁,rfl,iF,iT⟩)
     . exact aak ⟨rfl,s.heap,rfl,⟨rfl,λ_ _=>rfl⟩,hz⟩
   rintro r s' ⟨rfl,h₁,rfl,iF,iT⟩
   show wpAny _ _ (forIn #[Value.ref i1,Value.ref i2] _ _ >>= _) _ _ _
   rw[← ae2]
   simp only[abF,ab5]
   refine aac (aac (aac (abf ?_)))
   show wpAny _ _ (Builtin.SmallTypes.nextOf (.ref i1) >>= _) _ _ _
   refine aac (D1.fin (by first|exact hh|rfl) (D1.at h1 λc hc o e=>iF.extBut _ o (ne1 c hc) e) λkK e lj he=>?_)
   obtain⟨oe,xp,so⟩:=he
   refine aac (aeB (T:="StopIteration") (b:=true) ⟨oe,xp,so⟩ aeS ?_)
   refine aak (hQ _ λc o hc x=>?_)
   simp only[aan,aaE,abv,adU]at hc
   exact lj _ _ hc.2.2.2.1 (iF.extBut _ _ hc.1 x)
end
section
variable {prog:Program}{w:World}{K:Type}[DecidableEq K] {knd:KeyKind prog w K}{A:Around}{E:Value->Shared->Prop}{s:Shared}
theorem C6{it d:Addr}{i ep:Nat}{kvs:List (K×Value)}{k:K}{v:Value}{Q:Value->Shared->Prop}(hit:s.heap.IsKeyIter it d i kvs.length ep)
 (hm:s.heap.DictAt knd d kvs ep) (hx:kvs[i]?=some (k,v))
 (hQ:∀key h',knd.is k key=true->h'.IsKeyIter it d (i+1) kvs.length ep->Heap.SameBut it s.heap h'->Q key {s with heap:=h'}) :
 wpAny (model prog w) A (Builtin.SmallTypes.nextOf (.ref it)) Q E s:=by
 obtain⟨o,ho,hc,hd⟩:=id hit
 obtain⟨od,es,zM,mx,iS,hk,hp,hn⟩:=id hm
 unfold Builtin.SmallTypes.nextOf
 refine aac (aa5 (name:=Str.ofString "__next__") hit.typeIs ab4
  (abk ab4 hit.typeIs adu ?_ (adp _)))
 refine aac (aak ?_)
 refine aac ?_
 refine aac ?_
 first|refine aac (ab2 hit.typeIs (aak ?_))|refine aac (acj hit.typeIs (aak ?_))
 refine aac (wpAny_fieldsOf ho hd ?_)
 have Kh:Builtin.Dict_items.ownsTuple "dict_keyiterator" = false:=by decide
 simp only[Kh,acd,acN]
 show wpAny _ _ (if (Value.ref d == Value.none)=true then _ else _) _ _ s
 rw[aay (show ¬ ((Value.ref d == Value.none)=true) from aat)]
 refine aac (aak ?_)
 refine aac (wpAny_dictEntries zM iS ?_)
 have hsz:es.size=kvs.length:=by rw[← hp.length];simp
 rw[aay (by rw[hsz];simp)]
 refine aac (aak ?_)
 refine aac (wpAny_dictEpoch zM iS ?_)
 rw[aay (by simp)]
 refine aak ?_
 have eN:i<kvs.length:=by
  rcases ae7 i kvs.length with h|h
  . exact h
  . simp[abZ h]at hx
 have Qf:i<es.size:=by rw[hsz];exact eN
 have n8:knd.is k es[i].key=true:=(hp.get? (e:=es[i]) (by simp[Qf]) hx).1
 simp only[show ¬ ((i:Int)<0) from by omega,acN,abS,abU Qf]
 refine aac ?_
 first|refine aac (ab2 hit.typeIs (aak ?_))|refine aac (acj hit.typeIs (aak ?_))
 refine aac (wpAny_isOneOf_keyiter hit.typeIs ?_)
 show wpAny _ _ (setField (.ref it) 1 (rawInt ((i:Int)+1)) >>= _) _ _ s
 refine aac (adZ ho hd (by simp) ?_)
 have ES:(s.heap.update it (Obj.mapFields (·.setIfInBounds 1 (rawInt ((i:Int)+1))))).IsKeyIter it d (i+1) kvs.length ep:=
  ⟨_,adm _ ho (Obj.isFreed_of_fields (ac1 hd _)),(Obj.cls_mapFields ..).trans hc,by rw[ac1 hd];simp[rawInt]⟩
 refine aac (abf ?_)
 refine aac (wpAny_isOneOf_keyiter (s:={s with heap:=s.heap.update it (Obj.mapFields (·.setIfInBounds 1 (rawInt ((i:Int)+1))))}) ES.typeIs ?_)
 show wpAny _ _ (pure es[i].key) _ _ _
 exact aak (aak ⟨_,rfl,aak (hQ _ _ n8 ES (acV ..))⟩)
theorem Fh{it d:Addr}{i ep:Nat}{kvs:List (K×Value)}{Q:Value->Shared->Prop}(hh:A.handled=none) (hit:s.heap.IsKeyIter it d i kvs.length ep)
 (hm:s.heap.DictAt knd d kvs ep) (hx:kvs[i]?=none)
 (hE:∀h' e,Heap.ExtBut it s.heap h'->(∃o,h'.get? e=some o/\o.cls=.type "StopIteration")->E (.ref e) {s with heap:=h'}):wpAny (model prog w) A (Builtin.SmallTypes.nextOf (.ref it)) Q E s:=by
 obtain⟨o,ho,hc,hd⟩:=id hit
 obtain⟨od,es,zM,mx,iS,hk,hp,hn⟩:=id hm
 unfold Builtin.SmallTypes.nextOf
 refine aac (aa5 (name:=Str.ofString "__next__") hit.typeIs ab4
  (abk ab4 hit.typeIs adu ?_ (adp _)))
 refine aac (aak ?_)
 refine aac ?_
 refine aac ?_
 first|refine aac (ab2 hit.typeIs (aak ?_))|refine aac (acj hit.typeIs (aak ?_))
 refine aac (wpAny_fieldsOf ho hd ?_)
 have Kh:Builtin.Dict_items.ownsTuple "dict_keyiterator" = false:=by decide
 simp only[Kh,acd,acN]
 show wpAny _ _ (if (Value.ref d == Value.none)=true then _ else _) _ _ s
 rw[aay (show ¬ ((Value.ref d == Value.none)=true) from aat)]
 refine aac (aak ?_)
 refine aac (wpAny_dictEntries zM iS ?_)
 have hsz:es.size=kvs.length:=by rw[← hp.length];simp
 rw[aay (by rw[hsz];simp)]
 refine aac (aak ?_)
 refine aac (wpAny_dictEpoch zM iS ?_)
 rw[aay (by simp)]
 refine aak ?_
 have ZM:es.size<=i:=by rw[hsz];simpa using hx
 simp only[show ¬ ((i:Int)<0) from by omega,acN,abS,ac7 ZM]
 refine aac ?_
 first|refine aac (ab2 hit.typeIs (aak ?_))|refine aac (acj hit.typeIs (aak ?_))
 show wpAny _ _ (setField (.ref it) 0 .none >>= _) _ _ s
 refine aac (adZ ho hd (by simp) ?_)
 show wpAny _ _ (newExc (.type "StopIteration") [] >>= _) _ _ _
 refine aac ?_
 simp only[newExc,newTuple]
 refine aac (ach ?_ (by size_fits))
 refine aac (m:=firstArgMember _ _) (wpAny_of_eq (a:=Value.none) (by first|rfl|(simp only[firstArgMember];rfl)) ?_)
 refine ach ?_ (by size_fits)
 simp only[raiseNew]
 refine aac (wpAny_handled ?_)
 first|rw[show A.in1.handled=none from hh] | rw[hh]
 refine aac (aak (wpAny_throw ?_))
 exact hE _ _ (((acV ..).extBut.push _).push _) ⟨_,aar _ rfl,rfl⟩
theorem Fi{it d:Addr}{kvs:List (K×Value)}{ep:Nat}(ig:d≠it):iK prog w it [d] kvs.length (λi x=>∃kv,kvs[i]?=some kv/\knd.is kv.1 x=true) (λi h=>h.IsKeyIter it d i kvs.length ep/\h.DictAt knd d kvs ep) where
 «at»:=λst k=>⟨st.1.at λo e=>k it (by simp) o e,st.2.at' λo e=>k d (by simp) o e⟩
 there:=λst=>let ⟨o,e,_⟩:=st.1; ⟨o,e⟩
 item:=λ{A E s i Q} hi st h=>C6 st.1 st.2 (k:=kvs[i].1) (v:=kvs[i].2) (aae hi) λkey h' hk i' sb=>h key h' ⟨_,aae hi,hk⟩ ⟨i',st.2.extBut sb.extBut ig⟩ sb
 fin:=λ{A E s Q} hh st h=>Fh hh st.1 st.2 (abZ (aah _)) h
end
theorem xq:typeLookup (.type "zip") "__getattr__" = pure none:=by rw[adG,acC];kernel_rfl
theorem Bx:typeLookup (.type "zip") "keys" = pure none:=by rw[adG,acC];kernel_rfl
namespace F
theorem C7:entryFor table "zip.__getattribute__" = some Builtin.«object.__getattribute__»:=entryFor_alias (id':="object.__getattribute__") (by kernel_rfl) (by first|rfl|decide+kernel) (by decide+kernel) (by kernel_rfl)
end F
theorem rh{A:Around}{prog:Program}{w:World}{Q:Fin->Shared->Prop}{E:Value->Shared->Prop}{h:Heap}{g d t os} {a:Addr}{fs:Array Value}(u:Tok) (hx:h.get? a=some {cls:=.type "zip",dict:=none,data:=.fields fs,slots:=#[] }) (hh:A.handled=none)
 (hE:∀h' tk e,Heap.NewAttrErr h h' e (.ref a) "keys" -> E (.ref e) ⟨h',g,d,tk,os⟩) :
 wpAny (model prog w) A (Builtin.«object.__getattribute__» ⟨[.ref a,.str "keys" u],[]⟩) Q E ⟨h,g,d,t,os⟩:=by
 have hT:∀t',(⟨h,g,d,t',os⟩:Shared).TypeIs (.ref a) "zip":=λt'=>⟨_,hx,rfl⟩
 have LX:=hT t
 have UC:=Bx
 have hc:[Str.ofString "__module__",Str.ofString "__name__",Str.ofString "__qualname__",Str.ofString "__doc__",Str.ofString "__annotations__"].contains (Str.ofString "keys")=false:=by decide+kernel
 unfold Builtin.«object.__getattribute__»
 repeat (any_goals (first|assumption|wp_step|refine wpAny_ite_false hc ?_))
 all_goals first
  | exact wpAny_raiseAttrError hh hE (attrMsg_fits (by decide+kernel) (by decide))
  | skip
theorem By{A:Around}{prog:Program}{w:World}{R:Result->Shared->Prop}{h:Heap}{g d t os} {a:Addr}{fs:Array Value}{u:Tok}(hx:h.get? a=some {cls:=.type "zip",dict:=none,data:=.fields fs,slots:=#[] }) (hh:A.handled=none)
 (hE:∀h' tk e,Heap.NewAttrErr h h' e (.ref a) "keys" -> R (.error (.ref e)) ⟨h',g,d,tk,os⟩) :
 codeAny (model prog w) A (.call (.builtin "zip.__getattribute__") ⟨[.ref a,.str "keys" u],[]⟩) R ⟨h,g,d,t,os⟩:=
 codeAny_call_builtin acq.plain F.C7 (acq.check _ _ _ _ _ _ _ _ (show (⟨h,g,d,t,os⟩:Shared).TypeIs (.ref a) "zip" from⟨_,hx,rfl⟩) (F.args_zip_getattribute_2 _ _) (rh u hx hh hE))
theorem Bz{A:Around}{prog:Program}{w:World}{E:Value->Shared->Prop}{h:Heap}{g d t os} {a:Addr}{fs:Array Value}{Q:Option Value->Shared->Prop}(hx:h.get? a=some {cls:=.type "zip",dict:=none,data:=.fields fs,slots:=#[] }) (hh:A.handled=none)
 (hQ:∀h' tk,(∀b o,h.get? b=some o->h'.get? b=some o)->Q none ⟨h',g,d,tk,os⟩):wpAny (model prog w) A (getAttr? (.ref a) "keys") Q E ⟨h,g,d,t,os⟩:=by
 have hT:(⟨h,g,d,t,os⟩:Shared).TypeIs (.ref a) "zip":=⟨_,hx,rfl⟩
 have f1:=sub_AttributeError
 have f2:=acq.lookup
 have f3:=acq.bind (.ref a)
 have f5:=xq
 unfold getAttr? getAttrBy? getAttrBy
 repeat (any_goals (first|assumption|((with_reducible show codeAny _ _ (Code.call (Value.builtin "zip.__getattribute__") _) _ _);refine By hx hh ?_;intro h' tK e HG;obtain⟨t1,u1,he⟩:=HG.there)|wp_step))
 exact hQ h' tK HG.keeps
section
variable {prog:Program}{w:World}{K:Type}[DecidableEq K] {knd:KeyKind prog w K}{A:Around}{R:Result->Shared->Prop}{z TI TO i1 i2:Addr}{m1 m2:List Addr}{n1 n2:Nat}{P1 P2:Nat->Value->Prop}{mQ jI:Nat->Heap->Prop}
theorem yj{d:Addr}{kvs:List (K×Value)}(nd:[z,TI,TO,i1,i2].Nodup) (a1:∀b∈m1,b∉[z,TI,TO,i1,i2]) (a2:∀b∈m2,b∉[z,TI,TO,i1,i2]) (Qg:d∉[z,TI,TO,i1,i2]) (HH:d∉m1) (hd2:d∉m2)
 (D1:iK prog w i1 m1 n1 P1 mQ) (D2:iK prog w i2 m2 n2 P2 jI) (HR:kvs.length=n1) (kA:n1<=n2) (hP:∀(i:Nat) (x y:Value) (kv:K×Value),kvs[i]?=some kv->P1 i x->P2 i y->knd.is kv.1 x=true/\y=kv.2) (hz:kvs.length<=sizeLine) (hh:A.handled=none) :
 ∀(k i:Nat) (s:Shared) (tk:Tok) (acc:List (K×Value)),kvs.length-i=k->i<=kvs.length->ZS s.heap z TI TO i1 i2->mQ i s.heap->jI i s.heap->s.heap.DictOf knd d acc->acc.length<=i->
 (∀h' tk,h'.DictOf knd d ((kvs.drop i).foldl (λa kv=>stored a kv.1 kv.2) acc)->(∀b o,b≠d->b∉[z,TI,TO,i1,i2]->s.heap.get? b=some o->h'.get? b=some o)->R (.ok (.ret .none)) {s with heap:=h',toks:=tk})->
 codeAny (model prog w) A (.builtin "dict.update.loop" ⟨[.ref d,.ref z,.int (i:Int) tk,.none],[]⟩) R s:=by
 intro k
 induction k with
 | zero=>
  intro i s tk acc hk hi Qh h1 h2 hd Kf hR
  have VG:i=n1:=by omega
  subst VG
  refine adH F.gu ?_
  rw[acJ F.cz _]
  show wpAny _ A.in1 (pyNext (.ref z) >>= _) _ _ s
  refine aac (Ny (A:=A.in1) hh nd a1 D1 Qh h1 λh' he=>?_)
  refine aac (aak (aak ?_))
  have hd':h'.DictOf knd d acc:=let ⟨o,es,ep,ho,r⟩:=hd; ⟨o,es,ep,he d o Qg ho,r⟩
  refine hR h' s.toks ?_ λb o _ hb e=>he b o hb e
  rw[aeF (by omega)]
  exact hd'
 | succ k ih=>
  intro i s tk acc hk hi Qh h1 h2 hd Kf hR
  have eN:i<kvs.length:=by omega
  have jn:kvs[i]?=some kvs[i]:=aae eN
  refine adH F.gu ?_
  rw[acJ F.cz _]
  show wpAny _ A.in1 (pyNext (.ref z) >>= _) _ _ s
  refine aac (Nx nd a1 a2 D1 D2 Qh h1 h2 (by omega) (by omega) λx y Qi T px py X3 Vu ZN rW VJ L0 L3=>?_)
  obtain⟨n8,rfl⟩:=hP i x y _ jn px py
  obtain⟨od,ZO,ZP,zM,rd⟩:=id hd
  have hTd:T≠d:=λe=>by rw[e,zM]at VJ;cases VJ
  refine aac (abf (aac ?_))
  refine wpAny_tryCatch ?_
  unfold Builtin.Dict.pairItems
  refine aac (adn (show ({s with heap:=Qi} : Shared).TypeIs (.ref T) "tuple" from⟨_,L0,rfl⟩) ?_)
  rw[aaI (by decide)]
  refine aac (aa3 L0 rfl (aak ?_))
  show wpAny _ A.in1 (holding [x,(kvs[i]).2] (dictSet d x (kvs[i]).2)) _ _ _
  refine abf ?_
  unfold dictSet
  try with_reducible refine abf ?_
  have iS:Qi.DictOf knd d acc:=⟨od,ZO,ZP,L3 d od Qg zM,rd⟩
  refine aac (knd.pyHash n8 ?_)
  refine adY n8 iS (λHU Fj j6=>?_) (by omega)
  refine aak ⟨aec F.cz _,?_⟩
  have er:rawInt ((i:Int)+1)=Value.int (((i+1:Nat):Nat):Int) 0:=by simp[rawInt]
  rw[er]
  have k2:∀b o,b≠d->Qi.get? b=some o->HU.get? b=some o:=λb o b1 e=>(j6.2 b b1).trans e
  have n5:∀b∈[z,TI,TO,i1,i2],b≠d:=λb hb e=>Qg (e ▸ hb)
  refine ih (i+1) _ 0 (stored acc (kvs[i]).1 (kvs[i]).2) (by omega) (by omega) ?_ ?_ ?_ Fj ?_ ?_
  . obtain⟨q1,⟨q2a,q2b,q2⟩,q3⟩:=X3
    refine⟨k2 _ _ (n5 TI (by simp)) q1,⟨_,_,k2 _ _ (n5 TO (by simp)) q2⟩,?_⟩
    rcases q3 with q3|⟨al,ol,b1,jM,vq,q3⟩
    . exact .inl (k2 _ _ (n5 z (by simp)) q3)
    . by_cases e:al=d
      . subst e
        obtain⟨o',yX,yY,iM,_⟩:=Fj
        exact .inr ⟨al,o',b1,jM,iM,k2 _ _ (n5 z (by simp)) q3⟩
      . exact .inr ⟨al,ol,b1,jM,k2 _ _ e vq,k2 _ _ (n5 z (by simp)) q3⟩
  . exact D1.at Vu λb hb o e=>k2 b o (by
     rcases aan.mp hb with rfl|hb
     . exact n5 _ (by simp)
     . exact λq=>HH (q ▸ hb)) e
  . exact D2.at ZN λb hb o e=>k2 b o (by
     rcases aan.mp hb with rfl|hb
     . exact n5 _ (by simp)
     . exact λq=>hd2 (q ▸ hb)) e
  . have:=stored_length_le acc (kvs[i]).1 (kvs[i]).2
    omega
  . intro h' tK hd' lE
    refine hR h' tK ?_ λb o b1 b2 e=>lE b o b1 b2 (k2 b o b1 (L3 b o b2 e))
    rw[abV (by omega),ab0]
    exact hd'
end
section
variable {prog:Program}{w:World}{K:Type}[DecidableEq K] {knd:KeyKind prog w K}{A:Around}{E:Value->Shared->Prop}{s:Shared}{z TI TO i1 i2:Addr}{m1 m2:List Addr}{n1 n2:Nat}{P1 P2:Nat->Value->Prop}{mQ jI:Nat->Heap->Prop}
theorem tP{kvs:List (K×Value)}{Q:Value->Shared->Prop}(hh:A.handled=none) (nd:[z,TI,TO,i1,i2].Nodup) (a1:∀b∈m1,b∉[z,TI,TO,i1,i2]) (a2:∀b∈m2,b∉[z,TI,TO,i1,i2]) (l1:∀b∈m1,b<s.heap.objs.size) (l2:∀b∈m2,b<s.heap.objs.size)
 (D1:iK prog w i1 m1 n1 P1 mQ) (D2:iK prog w i2 m2 n2 P2 jI) (HR:kvs.length=n1) (kA:n1<=n2) (hP:∀(i:Nat) (x y:Value) (kv:K×Value),kvs[i]?=some kv->P1 i x->P2 i y->knd.is kv.1 x=true/\y=kv.2) (LM:kvs.length<=sizeLine)
 (hz:IsZip s.heap z TI TO .none) (iI:IsPair s.heap TI (.ref i1) (.ref i2)) (jc:∃a b,IsPair s.heap TO a b) (h1:mQ 0 s.heap) (h2:jI 0 s.heap)
 (h:∀h' tk,h'.DictOf knd s.heap.objs.size (merged [] kvs)->(∀b o,b∉[z,TI,TO,i1,i2]->s.heap.get? b=some o->h'.get? b=some o)->Q (.ref s.heap.objs.size) {s with heap:=h',toks:=tk}) :
 wpAny (model prog w) A (call (.type "dict") [.ref z]) Q E s:=by
 refine callType_codes (Q₁:=λobj eC=>obj=.ref s.heap.objs.size/\eC = {s with heap:=s.heap.push {cls:=.type "dict",data:=.dict #[] } }) F.kt_called_dict (F.kt_typeCall_dict_1 _) F.entry_dict_init (kt_code_dict_new _ ⟨rfl,rfl⟩) ?_
 rintro obj eC ⟨rfl,rfl⟩
 have pN:(s.heap.push {cls:=.type "dict",data:=.dict #[] }).DictOf knd s.heap.objs.size []:=aeJ s.heap
 have zm:IsZip (s.heap.push {cls:=.type "dict",data:=.dict #[] }) z TI TO .none:=aad _ hz
 refine⟨pN.typeIs,F.args_dict_init_2 _ _,?_⟩
 unfold Builtin.«dict.__init__»
 refine aac ?_
 unfold Builtin.Dict.selfAndRest
 refine aac (wpAny_notOrdered_dict pN.typeIs ?_)
 show wpAny _ _ (pure (s.heap.objs.size,[Value.ref z])) _ _ _
 refine aak ?_
 show wpAny _ _ (Builtin.Dict.updateFrom "dict.__init__" s.heap.objs.size (.ref z) [] .none) _ _ _
 unfold Builtin.Dict.updateFrom
 refine aac (adn (show ({s with heap:=s.heap.push {cls:=.type "dict",data:=.dict #[] } } : Shared).TypeIs (.ref z) "zip" from⟨_,zm,rfl⟩) ?_)
 rw[aaI (by decide)]
 have ZQ:s.heap.objs.size∉[z,TI,TO,i1,i2]:=λhm=>by
  obtain⟨o1,e1⟩:=D1.there h1
  obtain⟨o2,e2⟩:=D2.there h2
  obtain⟨ta,tb,jc⟩:=jc
  simp only[aan,aaE,abv]at hm
  rcases hm with e|e|e|e|e
  . exact aa0 (aam hz) e
  . exact aa0 (aam iI) e
  . exact aa0 (aam jc) e
  . exact aa0 (aam e1) e
  . exact aa0 (aam e2) e
 generalize u9:({s with heap:=s.heap.push {cls:=.type "dict",data:=.dict #[] } } : Shared)=s1 at *
 obtain⟨g1,g2,g3,g4,g5⟩:=s1
 cases u9
 refine aac (Bz zm (by first|exact hh|rfl) λHU P5 k2=>?_)
 rw[aaI (show (none:Option Value).isNone=true from rfl)]
 have up:∀b o,s.heap.get? b=some o->HU.get? b=some o:=λb o e=>k2 _ _ (aad _ e)
 refine aac (acX (aac (adt (s:={heap:=HU,gens:=s.gens,drawn:=s.drawn,toks:=P5,os:=s.os}) (up _ _ hz) ?_)))
 refine aak ⟨aec F.cz _,?_⟩
 have hd2:HU.DictOf knd s.heap.objs.size []:=let ⟨o,es,ep,ho,r⟩:=pN; ⟨o,es,ep,k2 _ _ ho,r⟩
 refine yj (knd:=knd) (d:=s.heap.objs.size) (kvs:=kvs) nd a1 a2 ZQ (λq=>aby _ (l1 _ q)) (λq=>aby _ (l2 _ q)) D1 D2 HR kA hP LM (by first|exact hh|rfl) kvs.length 0 _ 0 [] rfl (abQ _) ?_ ?_ ?_ hd2 (aah _) ?_
 . obtain⟨ta,tb,jc⟩:=jc
   exact⟨up _ _ iI,⟨_,_,up _ _ jc⟩,.inl (up _ _ hz)⟩
 . exact D1.at h1 λb _ o e=>up b o e
 . exact D2.at h2 λb _ o e=>up b o e
 . intro h' tK hd' lE
   refine⟨rfl,h h' tK ?_ λb o hb e=>?_⟩
   . simpa[merged]using hd'
   . exact lE b o (aax (aam e)) hb (up b o e)
end
noncomputable abbrev rm(h:Heap)(o:Obj):Heap:=h.push o
noncomputable abbrev Fl(h:Heap)(o:Obj)(l2:Addr):Heap:=(rm h o).push {cls:=.type "tuple_iterator",data:=.fields #[.ref l2,.int 0 0] }
noncomputable abbrev Fn(h:Heap)(o:Obj)(l2:Addr):Heap:=(Fl h o l2).push {cls:=.type "tuple",data:=.seq #[.ref h.objs.size,.ref (rm h o).objs.size] }
noncomputable abbrev yk(h:Heap)(o:Obj)(l2:Addr):Heap:=(Fn h o l2).push {cls:=.type "tuple",data:=.seq #[.none,.none] }
noncomputable abbrev iX(h:Heap)(o:Obj)(l2:Addr):Heap:=(yk h o l2).push {cls:=.type "zip",data:=.fields #[.none,.bool false,.bool false,.ref (Fl h o l2).objs.size,.ref (Fn h o l2).objs.size] }
noncomputable abbrev mj(l:Addr):Obj:={cls:=.type "list_iterator",data:=.fields #[.ref l,.int 0 0] }
noncomputable abbrev uF(d n ep:Nat):Obj:={cls:=.type "dict_keyiterator",data:=.fields #[.ref d,.int 0 0,.int n 0,.int ep 0] }
theorem xr(l1 l2:Addr)(xs ys:Array Value) :
 Meets (Builtin.«zip.__new__» ⟨[.type "zip",.ref l1,.ref l2],[]⟩) (λ_ R s=>s.heap.IsList l1 xs/\s.heap.IsTuple l2 ys/\R (.ok (.ret (.ref (yk s.heap (mj l1) l2).objs.size))) {s with heap:=iX s.heap (mj l1) l2}):=
 .of_wp λprog w A R s h=>by
  obtain⟨hp,g,d,tk,os⟩:=s;obtain⟨fJ,dw,h⟩:=h
  have Qd:=sub_zip
  have HP:Heap.IsList (Shared.heap ⟨hp,g,d,tk,os⟩) l1 xs:=fJ
  have Bv:Heap.IsTuple (Shared.heap ⟨hp.push {cls:=.type "list_iterator",data:=.fields #[.ref l1,.int 0 0] },g,d,tk,os⟩) l2 ys:=ad6 dw _
  wp_walk using ac8 HP,ac3 Bv
  exact⟨_,rfl,h⟩
theorem Fo{prog:Program}{w:World}{K:Type}[DecidableEq K] (knd:KeyKind prog w K) (l1 l2:Addr) (kvs:List (K×Value)) (ep:Nat) (ys:Array Value) (hs:(l1 == sysModules)=false) :
 MeetsIn prog w (Builtin.«zip.__new__» ⟨[.type "zip",.ref l1,.ref l2],[]⟩) (λ_ R s=>s.heap.DictAt knd l1 kvs ep/\s.heap.IsTuple l2 ys/\R (.ok (.ret (.ref (yk s.heap (uF l1 kvs.length ep) l2).objs.size))) {s with heap:=iX s.heap (uF l1 kvs.length ep) l2}):=
 .of_wp λA R s h=>by
  obtain⟨hp,g,d,tk,os⟩:=s;obtain⟨hm,dw,h⟩:=h
  have Qd:=sub_zip
  have hM:Heap.DictAt knd (Shared.heap ⟨hp,g,d,tk,os⟩) l1 kvs ep:=hm
  have Bv:Heap.IsTuple (Shared.heap ⟨hp.push {cls:=.type "dict_keyiterator",data:=.fields #[.ref l1,.int 0 0,.int kvs.length 0,.int ep 0] },g,d,tk,os⟩) l2 ys:=ad6 dw _
  wp_walk using wpAny_pyIter_dict hs hM,ac3 Bv
  exact⟨_,rfl,h⟩
section
variable {prog:Program}{w:World}{A:Around}{E:Value->Shared->Prop}{s:Shared}
theorem uG(h:Heap)(o:Obj)(l2:Addr) (hg:(rm h o).get? h.objs.size=some o):IsZip (iX h o l2) (h.objs.size+4) (h.objs.size+2) (h.objs.size+3) .none/\IsPair (iX h o l2) (h.objs.size+2) (.ref h.objs.size) (.ref (h.objs.size+1))/\IsPair (iX h o l2) (h.objs.size+3) .none .none/\
 (iX h o l2).get? h.objs.size=some o/\(iX h o l2).IsTupleIter (h.objs.size+1) l2 0/\(∀c q,h.get? c=some q->(iX h o l2).get? c=some q)/\(yk h o l2).objs.size=h.objs.size+4:=by
 have z1:(rm h o).objs.size=h.objs.size+1:=abn ..
 have z2:(Fl h o l2).objs.size=h.objs.size+2:=by rw[abn,z1]
 have z3:(Fn h o l2).objs.size=h.objs.size+3:=by rw[abn,z2]
 have z4:(yk h o l2).objs.size=h.objs.size+4:=by rw[abn,z3]
 have g5:(iX h o l2).get? (yk h o l2).objs.size=some _:=aar _ rfl
 have g4:(iX h o l2).get? (Fn h o l2).objs.size=some _:=aad _ (aar _ rfl)
 have g3:(iX h o l2).get? (Fl h o l2).objs.size=some _:=aad _ (aad _ (aar _ rfl))
 have g2:(iX h o l2).get? (rm h o).objs.size=some _:=aad _ (aad _ (aad _ (aar _ rfl)))
 have g1:(iX h o l2).get? h.objs.size=some _:=aad _ (aad _ (aad _ (aad _ hg)))
 rw[z2,z3,z4]at g5
 rw[z1,z2]at g3
 rw[z3]at g4
 rw[z1]at g2
 exact⟨g5,g3,g4,g1,⟨_,g2,rfl,rfl⟩,λc q x=>aad _ (aad _ (aad _ (aad _ (aad _ x)))),z4⟩
end
end PySem
namespace L2
open PySem PySem.Spec PyProof.Rows
section
variable {X:Cx}{pins:List (Addr×Obj)}{σ:St}{H:Hp}{s:Shared}{h':Heap}
theorem Inv.DK{t':Nat}{fp:List Addr}{T:Addr}{ob:HO}(I:Inv X pins σ H s)(hf:∀b∈fp,iU X pins H b)(k:∀b o,b∉fp->s.heap.get? b=some o->h'.get? b=some o)
 (hT:s.heap.objs.size<=T) (new:bO X.prog X.w (upd H T ob) h' T ob):Inv X pins σ (upd H T ob) {s with heap:=h',toks:=t'}:=by
 have zt:∀b u,H b=some u->b∉fp:=λb u e z=>by rw[(hf b z).1]at e;cases e
 have rW:H T=none:=I.hok.fresh hT
 have neT:∀b u,H b=some u->b≠T:=λb u e z=>by rw[z,rW]at e;cases e
 have Pe:∀b o,s.heap.get? b=some o->b≠T:=λb o e=>aax (aaP (aam e) hT)
 refine I.step (g':=s.gens) (d':=s.drawn) (ch:=fp) (λb hb=>⟨(hf b hb).2.2.2.1,(hf b hb).2.1,(hf b hb).2.2.2.2.1,(hf b hb).2.2.2.2.2⟩) (λb o _ _ hc e _=>k b o hc e) (λb o _ _ hc e _=>⟨o.slots,k b o hc e⟩)
  (λb o _ e n=>by rw[ai (Pe b o e)];exact n) (λb o hc e=>⟨o,k b o hc e⟩) (λb ys e=>by rw[ai (neT b _ e)];exact e) (λb o u e=>by rw[ai (neT b _ e)];exact e)
  (λb ps e=>⟨#[],by rw[ai (neT b _ e),e];simp⟩) (λm hm=>?_) (λb u e=>?_) I.bare
 . obtain⟨o,es,ep,ho,r⟩:=hm
   exact⟨o,es,ep,k _ o (λz=>(hf _ z).2.1 rfl) ho,r⟩
 . by_cases hb:b=T
   . subst hb
     rw[af]at e
     cases e
     exact new
   . rw[ai hb]at e
     refine(I.hok b u e).eL (λc v hc q=>k c v ?_ q) (λc q=>by rw[ai (neT c _ q)];exact q) λc ys q=>by rw[ai (neT c _ q)];exact q
     rcases hc with z|z
     . rw[z];exact zt b u e
     . exact zt c _ z
end
theorem BA:∀{ks:List Key}{ys:List V}{its:List Value},Vals ys its->KV (ks.zip ys) (ks.zip its)
 | [],_,_,_=>.nil
 | _::_,_,_,.nil=>.nil
 | k::ks,_,_,.cons h t=>.cons ⟨rfl,h⟩ (BA t)
section
variable {X:Cx}
noncomputable def UH(K:W.Frag)(ta:TA):TE:=λσ H Q=>ta σ H λvs H1=>∃(a b:Addr) (ks:List Key) (ys:List V),vs=[.ref a,.ref b]/\(aq K H1 a (ks.map kV)\/∃kvs,Rd H1 a (.dK kvs)/\ks=kvs.map (·.1))/\aM K H1 b ys/\ks.length<=ys.length/\
 ∀d,H1 d=none->Q (.ref d) (upd H1 d (.dK (bA [] (ks.zip ys))))
theorem Nz{pins:List (Addr×Obj)}{σ:St}{H1:Hp}{s1:Shared}{a b:Addr}{ks:List Key}{ys:List V}{Q:VK}(hc:X.calm=true) (I1:Inv X pins σ H1 s1) (hk:aq X.K H1 a (ks.map kV)\/∃kvs,Rd H1 a (.dK kvs)/\ks=kvs.map (·.1)) (hb:aM X.K H1 b ys) (hl:ks.length<=ys.length)
 (q:∀d,H1 d=none->Q (.ref d) (upd H1 d (.dK (bA [] (ks.zip ys))))) :
 wpAny (model X.prog X.w) X.A (call (.type "zip") [.ref a,.ref b]) (λv s2=>wpAny (model X.prog X.w) X.A (call (.type "dict") [v]) (EP X pins σ Q) X.xe s2) X.xe s1:=by
 obtain⟨its,rv,⟨ot,et,ct,nt,dt⟩,ZR⟩:=I1.tuple hb
 have DL:s1.heap.IsTuple b its.toArray:=⟨ot,et,ct,nt,dt⟩
 have hlen:ys.length=its.length:=rv.length
 have rest:∀(o:Obj) (m1:List Addr) (P1:Nat->Value->Prop) (mQ:Nat->Heap->Prop),(rm s1.heap o).get? s1.heap.objs.size=some o->(∀c∈m1,c<s1.heap.objs.size)->iK X.prog X.w s1.heap.objs.size m1 ks.length P1 mQ->mQ 0 (iX s1.heap o b)->
  (∀(i:Nat) (x:Value) (k:Key),ks[i]?=some k->P1 i x->(aQ X.prog X.w).is k x=true)->
  wpAny (model X.prog X.w) X.A (call (.type "dict") [.ref (s1.heap.objs.size+4)]) (EP X pins σ Q) X.xe {s1 with heap:=iX s1.heap o b}:=by
  intro o m1 P1 mQ hg VL D1 h1 hP
  obtain⟨g1,g2,g3,g4,g5,kk,g6⟩:=uG s1.heap o b hg
  have ka:b<s1.heap.objs.size:=aam et
  have I2:Inv X pins σ H1 {s1 with heap:=iX s1.heap o b}:=I1.kept (t':=s1.toks) kk
  have BB:∀c∈[s1.heap.objs.size+4,s1.heap.objs.size+2,s1.heap.objs.size+3,s1.heap.objs.size,s1.heap.objs.size+1],s1.heap.objs.size<=c:=λc bZ=>by
   simp only[aan,aaE,abv]at bZ
   rcases bZ with rfl|rfl|rfl|rfl|rfl
   . exact aa9 _ _
   . exact aa9 _ _
   . exact aa9 _ _
   . exact aah _
   . exact aa9 _ _
  have out:∀c,c<s1.heap.objs.size->c∉[s1.heap.objs.size+4,s1.heap.objs.size+2,s1.heap.objs.size+3,s1.heap.objs.size,s1.heap.objs.size+1]:=λc eN hm=>aby _ (aaP eN (BB c hm))
  have hsz:s1.heap.objs.size<=(iX s1.heap o b).objs.size:=by rw[abn,g6];exact aap (aa9 _ 4) (aa9 _ 1)
  have D2:iK X.prog X.w (s1.heap.objs.size+1) [b] its.toArray.size (λi x=>its.toArray[i]?=some x) (λi h=>gY true h (s1.heap.objs.size+1) b i/\jL true h b its.toArray):=oY (λe=>by rw[e]at ka;exact absurd ka (Nat.not_lt.mpr (aa9 _ _)))
  have l1:(ks.zip its).length=ks.length:=by rw[aa6];omega
  have l3:(ks.zip its).length<=sizeLine:=by rw[l1];omega
  refine tP (knd:=aQ X.prog X.w) (kvs:=ks.zip its) (A:=X.A) (I1.ok.hd hc) (by simp) (λc bZ=>out c (VL c bZ)) (λc bZ=>out c (by rw[aao.mp bZ];exact ka)) (λc bZ=>aaP (VL c bZ) hsz) (λc bZ=>aaP (by rw[aao.mp bZ];exact ka) hsz) D1 D2 l1 (by rw[aaw];omega)
   (λi x y kv e p1 p2=>?_) l3 g1 g2 ⟨_,_,g3⟩ h1 ⟨g5,⟨ot,kk _ _ et,ct,nt,dt⟩⟩ λh' tk dd Qj=>?_
  . have hi:i<(ks.zip its).length:=(aaq.mp e).1
    have e2:kv=(ks[i]'(by omega),its[i]'(by omega)):=by
     rw[aae hi,aeC]at e
     exact(aaA e).symm
    subst e2
    refine⟨hP i x _ (aae _) p1,?_⟩
    have p3:its[i]?=some y:=by simpa using p2
    rw[aae (by omega)]at p3
    exact(aaA p3).symm
  . refine⟨.ref (iX s1.heap o b).objs.size,_,I2.DK (fp:=[s1.heap.objs.size+4,s1.heap.objs.size+2,s1.heap.objs.size+3,s1.heap.objs.size,s1.heap.objs.size+1]) (ob:=.dK (bA [] (ks.zip ys))) (λc bZ=>I1.pD (BB c bZ) (I1.hok.fresh (BB c bZ))) (λc q' bZ e=>Qj c q' bZ e) (aah _) (kI ?_ (abr.mpr (aav (aax I2.big))) (KV.merge (BA rv) .nil) dd),rfl,q _ (I2.hok.fresh (aah _))⟩
    have:=gZ (ks.zip ys) []
    rw[aa6]at this
    simp at this
    omega
 rcases hk with hk|⟨kvs,hk,rfl⟩
 . obtain⟨nB,rj,pl,_⟩:=I1.list hk
   have fJ:=pl.isList
   have jM:a<s1.heap.objs.size:=by obtain⟨_,e,_⟩:=fJ;exact aam e
   have DM:ks.length=nB.length:=by have:=rj.length;rw[aaa]at this;exact this
   refine callType_new aeN (by decide) (ads _ _) (adJ _ _) (λobj=>acK obj _ _) adK (xr a b nB.toArray its.toArray) ⟨fJ,DL,?_⟩
   have hg:(rm s1.heap (mj a)).get? s1.heap.objs.size=some (mj a):=aar _ rfl
   obtain⟨g1,g2,g3,g4,g5,kk,g6⟩:=uG s1.heap (mj a) b hg
   show _/\_
   rw[g6]
   have D1:iK X.prog X.w s1.heap.objs.size [a] nB.toArray.size (λi x=>nB.toArray[i]?=some x) (λi h=>gY false h s1.heap.objs.size a i/\jL false h a nB.toArray):=oY (aax jM)
   have ez:nB.toArray.size=ks.length:=by rw[DM];exact aaw ..
   rw[ez]at D1
   obtain⟨ol,el,rl⟩:=fJ
   refine⟨⟨_,g1,rfl⟩,rest (mj a) [a] _ _ hg (λc bZ=>by rw[aao.mp bZ];exact jM) D1 ⟨⟨_,g4,rfl,rfl⟩,⟨ol,kk _ _ el,rl⟩⟩ λi x k e p=>?_⟩
   obtain⟨u,hu,ru⟩:=rj.get (x:=kV k) (by rw[aal,e];rfl)
   have p3:nB[i]?=some x:=by simpa using p
   rw[hu]at p3
   cases p3
   exact oQ ru
 . obtain⟨hz,hs,vs,rel,dd⟩:=jD I1.hok hk
   obtain⟨ep,da⟩:=dd.dictAt
   have jM:=da.lt_size
   have DM:kvs.length=vs.length:=rel.length
   refine callType_newIn aeN (by decide) (ads _ _) (adJ _ _) (λobj=>acK obj _ _) adK (Fo (aQ X.prog X.w) a b vs ep its.toArray hs) ⟨da,DL,?_⟩
   have hg:(rm s1.heap (uF a vs.length ep)).get? s1.heap.objs.size=some (uF a vs.length ep):=aar _ rfl
   obtain⟨g1,g2,g3,g4,g5,kk,g6⟩:=uG s1.heap (uF a vs.length ep) b hg
   show _/\_
   rw[g6]
   have D1:iK X.prog X.w s1.heap.objs.size [a] vs.length (λi x=>∃kv,vs[i]?=some kv/\(aQ X.prog X.w).is kv.1 x=true) (λi h=>h.IsKeyIter s1.heap.objs.size a i vs.length ep/\h.DictAt (aQ X.prog X.w) a vs ep):=Fi (aax jM)
   have ZT:iK X.prog X.w s1.heap.objs.size [a] (kvs.map (·.1)).length (λi x=>∃kv,vs[i]?=some kv/\(aQ X.prog X.w).is kv.1 x=true) (λi h=>h.IsKeyIter s1.heap.objs.size a i vs.length ep/\h.DictAt (aQ X.prog X.w) a vs ep):=by rw[aaa,DM];exact D1
   refine⟨⟨_,g1,rfl⟩,rest (uF a vs.length ep) [a] _ _ hg (λc bZ=>by rw[aao.mp bZ];exact jM) ZT ⟨⟨_,g4,rfl,rfl⟩,da.keep kk⟩ λi x k e p=>?_⟩
   obtain⟨kv,e1,e2⟩:=p
   rw[aal]at e
   cases e3:kvs[i]? with
   | none=>rw[e3]at e;cases e
   | some p'=>
    rw[e3]at e
    have hq:=(jR rel e3 e1).1
    have lE:k=p'.1:=(aaA e).symm
    rw[lE,hq]
    exact e2
theorem NA{a b:Expr}{ta:TA}{p1 p2 pos oA:Pos}(Qk:Gl X "dict")(Ql:X.mg "dict" = none)(Qm:Gl X "zip")(Qn:X.mg "zip" = none)(hc:X.calm=true)(ha:PA X [a,b] ta)
 (hs:starEach [Expr.Call (.Name "zip" p2) [a,b] [] oA] X.env=(false,eval (Expr.Call (.Name "zip" p2) [a,b] [] oA) X.env)::starEach [] X.env:=by rfl) (gU:(backTo pos (starEach [] X.env)).any (·.1)=false:=by rfl)
 (j6:starEach [a,b] X.env=(false,eval a X.env)::starEach [b] X.env:=by rfl) (ib:(backTo oA (starEach [b] X.env)).any (·.1)=false:=by rfl) :
 PE X (.Call (.Name "dict" p1) [.Call (.Name "zip" p2) [a,b] [] oA] [] pos) (UH X.K ta):=by
 intro pins s σ H Q I h
 refine abA (i3 I Qk Ql aaC ?_ (by decide) (by decide))
 refine aa4 ?_ hs gU
 rw[hs]
 show wpAny _ _ (spliced ((false,eval _ X.env)::backTo pos (starEach [] X.env))) _ _ s
 refine abo ?_
 refine Call_ (i3 I Qm Qn boot_zip (aa4 (aD (ha oA pins s σ H _ I h) λus s1 ⟨vs,H1,I1,r1,q1⟩=>?_) j6 ib))
 obtain⟨l,m,ks,ys,e,hk,hb,hl,q⟩:=q1
 subst e
 obtain⟨u,v,rfl,ru,rv⟩:=vals2 r1
 cases(show u=Value.ref l from ru)
 cases(show v=Value.ref m from rv)
 exact aD (Nz hc I1 hk hb hl q) λv s2 hv=>acg hv
end
end L2
namespace PySem
open Builtin Builtin.Str
noncomputable def jo(c:Nat):List Nat->List (List Nat)
 | []=>[[]]
 | x::r=>if x=c then []::jo c r else match jo c r with
  | []=>[[x]]
  | h::t=>(x::h)::t
theorem yl(c:Nat):∀l,∃h t,jo c l=h::t
 | []=>⟨[],[],rfl⟩
 | x::r=>by
  obtain⟨h,t,e⟩:=yl c r
  by_cases hx:x=c
  . exact⟨[],jo c r,by simp[jo,hx]⟩
  . exact⟨x::h,t,by simp[jo,hx,e]⟩
theorem tQ{c:Nat} : ∀{l:List Nat},c∉l->jo c l=[l]
 | [],_=>rfl
 | x::r,h=>by
  have h1:¬ x=c:=λz=>h (by simp[z])
  have h2:=tQ (l:=r) λz=>h (aaL _ z)
  simp[jo,h1,h2]
theorem DN{c:Nat}{r:List Nat} : ∀{l:List Nat},c∉l->jo c (l++c::r)=l::jo c r
 | [],_=>by simp[jo]
 | x::l,h=>by
  have h1:¬ x=c:=λz=>h (by simp[z])
  have h2:=DN (r:=r) (l:=l) λz=>h (aaL _ z)
  simp[jo,h1,h2]
noncomputable def fi(c:Nat)(L:List Nat)(a k:Nat):List Nat:=(List.range' a k).filter λi=>decide (L[i]?=some c)
theorem tS{z:Str}{c:Nat}{limit:Nat} : ∀(k a:Nat) (acc:Array Nat) (free:Nat),free<=a->acc.size+k<=limit->
 (forIn (List.range' a k) (acc,free) (StrLaws.occBody z ⟨#[c]⟩ z.length limit)).run.fst.toList=acc.toList++fi c z.cps.toList a k
 | 0,a,acc,free,_,_=>by simp[fi]
 | k+1,a,acc,free,h1,h2=>by
  rw[acQ,abF]
  unfold StrLaws.occBody
  have key:=StrLaws.subAt_one z c a
  by_cases hc:z.cps.toList[a]?=some c
  . have k1:=key.mpr hc
    rw[aaI ⟨⟨⟨(by show acc.size<limit;omega),h1⟩,k1.1⟩,k1.2⟩]
    have ih:=tS (z:=z) (c:=c) (limit:=limit) k (a+1) (acc.push a) (a+(⟨#[c]⟩:Str).length) (by show a+1<=a+1;exact aah _) (by rw[Array.size_push];omega)
    refine ih.trans ?_
    have hs:fi c z.cps.toList a (k+1)=a::fi c z.cps.toList (a+1) k:=by
     unfold fi
     rw[acQ,acw,aaI (aaT hc)]
    rw[hs]
    simp
  . rw[aay (λh=>hc (key.mp ⟨h.1.2,h.2⟩))]
    have ih:=tS (z:=z) (c:=c) (limit:=limit) k (a+1) acc free (by omega) (by omega)
    refine ih.trans ?_
    have hs:fi c z.cps.toList a (k+1)=fi c z.cps.toList (a+1) k:=by
     unfold fi
     rw[acQ,acw,aay (by simpa using hc)]
    rw[hs]
theorem HV{c:Nat}{L:List Nat}{n:Nat}(h:L.length=n)(a k:Nat):fi c L a (k+1)=fi c L a k\/a+k<n:=by
 by_cases hk:a+k<n
 . exact .inr hk
 . refine .inl ?_
   unfold fi
   have e:List.range' a (k+1)=List.range' a k++[a+k]:=by simpa using List.range'_concat (s:=a) (n:=k) (step:=1)
   rw[e,abd]
   have e2:L[a+k]?=none:=abZ (by omega)
   simp[e2]
theorem Qo(z:Str)(c:Nat):occurrences z ⟨#[c]⟩ 0 z.length (z.length+1)=fi c z.cps.toList 0 z.length:=by
 rw[StrLaws.occ_eq]
 have h:=tS (z:=z) (c:=c) (limit:=z.length+1) (z.length+1-0) 0 #[] 0 (aah _) (by simp)
 refine h.trans ?_
 have hn:z.cps.toList.length=z.length:=by simp[Str.length]
 rcases HV (c:=c) hn 0 z.length with e|e
 . simpa using e
 . omega
noncomputable def cutAt(L:List Nat)(s:Nat)(BC:List Nat)(n:Nat):List (List Nat):=((s::BC.map (· + 1)).zip (BC++[n])).map λp=>(L.drop p.1).take (p.2-p.1)
theorem vV{c:Nat}{L:List Nat} : ∀(k a s:Nat),a+k=L.length->s<=a->∀h t,jo c (L.drop a)=h::t->cutAt L s (fi c L a k) L.length=((L.drop s).take (a-s)++h)::t
 | 0,a,s,hk,hs,h,t,e=>by
  have:L.drop a=[]:=List.drop_eq_nil_of_le (by omega)
  rw[this]at e
  simp[jo]at e
  obtain⟨rfl,rfl⟩:=e
  have ha:a=L.length:=by omega
  subst ha
  simp[cutAt,fi]
 | k+1,a,s,hk,hs,h,t,e=>by
  have ha:a<L.length:=by omega
  rw[abV ha]at e
  obtain⟨h',t',e'⟩:=yl c (L.drop (a+1))
  by_cases hc:L[a]=c
  . have mz:fi c L a (k+1)=a::fi c L (a+1) k:=by
     unfold fi
     rw[acQ,acw,aaI (by simp[aae ha,hc])]
    have ih:=vV (c:=c) (L:=L) k (a+1) (a+1) (by omega) (aah _) h' t' e'
    rw[jo,aaI hc,e']at e
    cases e
    have e3:cutAt L s (a::fi c L (a+1) k) L.length=(L.drop s).take (a-s)::cutAt L (a+1) (fi c L (a+1) k) L.length:=rfl
    rw[mz,e3,ih]
    simp
  . have mz:fi c L a (k+1)=fi c L (a+1) k:=by
     unfold fi
     rw[acQ,acw,aay (by simp[aae ha,hc])]
    have ih:=vV (c:=c) (L:=L) k (a+1) s (by omega) (by omega) h' t' e'
    rw[jo,aay hc,e']at e
    cases e
    rw[mz,ih]
    have e4:(L.drop s).take (a+1-s)=(L.drop s).take (a-s)++[L[a]]:=by
     have e5:a+1-s=(a-s)+1:=by omega
     rw[e5,ae5]
     have e6:(L.drop s)[a-s]?=some L[a]:=by
      rw[List.getElem?_drop,show s+(a-s)=a by omega,aae ha]
     rw[e6]
     rfl
    rw[e4]
    simp
noncomputable def DO(l:List Nat):Str:=⟨l.toArray⟩
theorem HW(z:Str)(BC:List Nat):partsBetween z BC 1=(cutAt z.cps.toList 0 BC z.length).map DO:=by
 unfold partsBetween cutAt
 rw[aau]
 refine aaW λp _=>?_
 show strSub z p.1 p.2=DO _
 unfold strSub DO
 congr 1
 apply aeA.mp
 simp[Array.toList_extract,List.extract_eq_take_drop]
end PySem
namespace L2
open PySem PySem.Spec PyProof.Rows
section
variable {X:Cx}
noncomputable def NB:V->List V->Hp->VK->Prop:=λx vs H Q=>∃z y,x=.str z/\vs=[.str y]/\Q (.bl (decide (0+y.length<=z.length) && Builtin.Str.subAt z y 0)) H
theorem oZ:uY X "str.startswith" NB:=by
 intro pins s σ H x vs v us Q I rx rv h
 obtain⟨z,y,rfl,rfl,q⟩:=h
 obtain⟨t,rfl⟩:=rx
 obtain⟨u,rfl,tu,rfl⟩:=rv.one
 exact call_gives ab8 (acW _ _ _) F.entry_str_startswith (F.args_str_startswith_2 _ _) (gives_str_startswith z y t tu) ⟨.bl _,H,I,rfl,q⟩
noncomputable def X4:V->Option Int->Option Int->Hp->VK->Prop:=λx lo hi H Q=>∃z j,x=.str z/\lo=some j/\hi=none/\z.length<=sizeLine/\Q (.str (Txt.slice z (some j) none)) H
theorem ym:LA X X4:=by
 intro pins s σ H x v vl vu lo hi sl Q I rx hs pl pu h
 obtain⟨z,j,rfl,rfl,rfl,hz,q⟩:=h
 obtain⟨t,rfl⟩:=rx
 cases pu
 cases pl with
 | int _ uj=>
  refine⟨"str",_,F.slot_str_getitem.lookup,acW _ _ _,aeb (l:=some (j,uj)) (u:=none) (st:=none) hs rfl
   (post_val_or_str ⟨aap (Txt.slice_le z _ _) hz,λt' k=>⟨.str (Txt.slice z (some j) none),H,I.tok k,⟨t',rfl⟩,q⟩⟩)⟩
end
end L2
namespace PySem
open Builtin Builtin.Str
theorem nO(z:Str)(c:Nat):(decide (0+(⟨#[c]⟩:Str).length<=z.length) && subAt z ⟨#[c]⟩ 0)=decide (z.cps.toList[0]?=some c):=by
 rw[abx,abg,aaV,aaV]
 exact StrLaws.subAt_one z c 0
theorem Ki(n:Nat):strSliceIndices (some 1) none 1 n=(List.range (n-1)).map (· + 1):=by
 cases n with
 | zero=>rfl
 | succ n=>
  have h1:¬ ((1:Int)<0):=by decide
  have e1:max (0:Int) (min 1 ((n+1:Nat):Int))=1:=by omega
  simp only[strSliceIndices,sliceRange,h1,acN,show ((1:Int)>0)=True from by simp,ac9,e1]
  have e2:(if (1:Int)<((n+1:Nat):Int) then (((n+1:Nat):Int)-1+1-1) / 1 else 0).toNat=n:=by
   split
   . rw[Int.ediv_one];omega
   . omega
  rw[e2]
  show _=(List.range n).map (· + 1)
  refine aaW λk _=>?_
  omega
theorem HX:∀(l:List Nat) (L:List Nat),((List.range (L.length-1)).map (· + 1)).filterMap (λi=>L[i]?)=L.tail:=by
 intro _ L
 cases L with
 | nil=>rfl
 | cons x r=>
  show ((List.range r.length).map (· + 1)).filterMap (λi=>(x::r)[i]?)=r
  rw[List.filterMap_map]
  show (List.range r.length).filterMap (λi=>(x::r)[i+1]?)=r
  simp only[List.getElem?_cons_succ]
  have k:=Gen.va r r.length (aah _)
  rw[aaH]at k
  exact k
theorem rn(z:Str):(Txt.slice z (some 1) none).cps.toList=z.cps.toList.tail:=by
 unfold Txt.slice
 rw[Ki]
 split
 . rename_i h
   have h2:((List.range (z.length-1)).map (· + 1)).length=z.length:=by simpa using h
   rw[aaa,acG]at h2
   have h3:z.length=0:=by omega
   have h4:z.cps.toList=[]:=abi.mp (by simpa[Str.length]using h3)
   rw[h4]
   rfl
 . have e:z.length=z.cps.toList.length:=by simp[Str.length]
   rw[e]
   have k:=HX [] z.cps.toList
   simpa using k
end PySem
namespace L2
open PySem PySem.Spec PyProof.Rows
section
variable {X:Cx}{pins:List (Addr×Obj)}{σ:St}{H:Hp}{s:Shared}{a:Addr}{kvs:List (Key×V)}{k:Key}{v:V}{u:Value}{E:Value->Shared->Prop}
end
section
variable {X:Cx}{o i:Expr}{pos:Pos}{td ty:TE}
end
section
variable {X:Cx}
noncomputable def UI(K:W.Frag)(ta:TA):TI:=λσ H R=>ta σ H λvs H1=>∃a b,vs=[.ref a,.ref b]/\(∃xs,aq K H1 a xs)/\(∃ys,aM K H1 b ys)/\R (Itm K false true a b) H1
theorem NC{es:List Expr}{kk:Nat}{pp:Pos}{a b:Expr}{ta:TA}{p pos:Pos}(hg:Gl X "zip")(hm:X.mg "zip" = none)(ha:PA X [a,b] ta) (hs:starEach [a,b] X.env=(false,eval a X.env)::starEach [b] X.env:=by rfl) (hp:(backTo pos (starEach [b] X.env)).any (·.1)=false:=by rfl) :
 PI X (.Tuple es kk pp) (.Call (.Name "zip" p) [a,b] [] pos) (UI X.K ta):=by
 intro pins s σ H R I h
 refine Call_ (i3 I hg hm boot_zip (aa4 (aD (ha pos pins s σ H _ I h) λus s1 ⟨vs,H1,I1,r1,q1⟩=>?_) hs hp))
 obtain⟨l,m,e,⟨xs,hx⟩,⟨ys,hy⟩,q⟩:=q1
 subst e
 obtain⟨u,v,rfl,ru,rv⟩:=vals2 r1
 cases(show u=Value.ref l from ru)
 cases(show v=Value.ref m from rv)
 obtain⟨its,_,p1,_⟩:=I1.zk (tp:=false) hx
 obtain⟨its',_,p2,_⟩:=I1.zk (tp:=true) hy
 refine callType_new aeN (by decide) (ads _ _) (adJ _ _) (λobj=>acK obj _ _) adK (xr l m its.toArray its'.toArray) ⟨p1,p2,?_⟩
 have Pg:(rm s1.heap (mj l)).get? s1.heap.objs.size=some (mj l):=aar _ rfl
 obtain⟨a1,a2,a3,a4,a5,ZU,g6⟩:=uG s1.heap (mj l) m Pg
 show _/\_
 rw[g6]
 refine⟨⟨_,a1,rfl⟩,?_⟩
 refine adt a1 ?_
 have I2:Inv X pins σ H1 {s1 with heap:=iX s1.heap (mj l) m}:=I1.kept (t':=s1.toks) ZU
 refine⟨_,_,_,_,H1,rfl,I2,DI (tp:=false) (tq:=true) (a:=l) (b:=m) (z:=s1.heap.objs.size+4) (TI:=s1.heap.objs.size+2) (TO:=s1.heap.objs.size+3) (i1:=s1.heap.objs.size) (i2:=s1.heap.objs.size+1) ?_,⟨a1,a2,⟨_,_,a3⟩,⟨_,a4,rfl,rfl⟩,a5⟩,λb hb=>?_,q⟩
 . simp
 . have fq:s1.heap.objs.size<=b:=by
    simp only[aan,aaE,abv]at hb
    rcases hb with rfl|rfl|rfl|rfl|rfl
    . exact aa9 _ _
    . exact aa9 _ _
    . exact aa9 _ _
    . exact aah _
    . exact aa9 _ _
   exact I1.pD fq (I1.hok.fresh fq)
theorem DP{K:W.Frag}{tp tq:Bool}{a b:Addr}{xs ys:List V}{g:TG}{tb:TS}{D:Ends}{σ:St}{H:Hp}(hxy:xs.length<=ys.length)(Pv:Nat->St->Hp->Prop)(h0:Pv 0 σ H)(hl:∀i σ H,i<=xs.length->Pv i σ H->ZK K tp H a xs/\ZK K tq H b ys)
 (hs:∀i x y T σ H,xs[i]?=some x->ys[i]?=some y->H T=none->Pv i σ H->g (.ref T) σ (upd H T (.tup [x,y])) λgk H2=>tb {D with nx:=Pv (i+1),ct:=Pv (i+1),bk:=D.nx} gk H2) (hd:∀σ H,Pv xs.length σ H->D.nx σ H) :
 ∃W:Nat->Nat->St->Hp->Prop,(∃m,W 0 m σ H)/\∀i m σ H,W i m σ H->
  ((Itm K tp tq a b).stop i H/\D.nx σ H)\/((Itm K tp tq a b).go i H/\∃N:St->Hp->Prop,(∀br H',N br H'->∃m',m'<m/\W (i+1) m' br H')/\∀x H',(Itm K tp tq a b).yld i H x H'->g x σ H' λgk H2=>tb {D with nx:=N,ct:=N,bk:=D.nx} gk H2):=by
 refine⟨λi m σ H=>m=xs.length-i/\i<=xs.length/\Pv i σ H,⟨xs.length,by simp,abQ _,h0⟩,?_⟩
 rintro i m σ H ⟨rfl,hi,p⟩
 obtain⟨q1,q2⟩:=hl i σ H hi p
 by_cases eN:i<xs.length
 . refine .inr ⟨⟨xs,ys,xs[i],ys[i]'(by omega),q1,q2,aae eN,aae (by omega)⟩,Pv (i+1),λbr H' p'=>⟨xs.length-(i+1),by omega,rfl,eN,p'⟩,λx H' y=>?_⟩
   obtain⟨T,v,u,rfl,hT,rfl,hv,hu⟩:=y
   exact hs i v u T σ H (hv xs q1) (hu ys q2) hT p
 . refine .inl ⟨⟨xs,q1,by omega⟩,?_⟩
   obtain rfl:i=xs.length:=by omega
   exact hd σ H p
noncomputable def ND:V->List V->Hp->VK->Prop:=λx vs H Q=>∃d e kvs more,x=.ref d/\vs=[.ref e]/\H d=some (.dK kvs)/\Rd H e (.dK more)/\d≠e/\kvs.length+more.length<=sizeLine/\Q .aH (upd H d (.dK (bA kvs more)))
theorem HY:uY X "dict.update" ND:=by
 intro pins s σ H x vs v us Q I rx rv h
 obtain⟨d,e,kvs,more,rfl,rfl,hd,he,ig,hsz,q⟩:=h
 cases(show v=Value.ref d from rx)
 obtain⟨u,rfl,ru⟩:=rv.one
 cases(show u=Value.ref e from ru)
 obtain⟨z1,n1,ZV,Qp,L4⟩:=qR I.hok hd
 obtain⟨z2,n2,ZW,Qq,Qr⟩:=jD I.hok he
 have e1:=Qp.length
 have e2:=Qq.length
 refine adk ad7 L4.typeIs PySem.F.entry_dict_update (PySem.F.args_dict_update_2 _ _) (meets_dict_update (aQ X.prog X.w) d e ig n2) ⟨ZV,ZW,L4,Qr,by omega,λh' om _ hs=>?_⟩
 have ZX:∃q,h'.get? d=some q:=let ⟨q,_,_,hq,_⟩:=om; ⟨q,hq⟩
 refine⟨.aH,_,qc I (by rw[hd];trivial) hs ZX (kI ?_ n1 (KV.merge Qq Qp) om),rfl,q⟩
 have:=gZ more kvs
 omega
noncomputable def NF:V->List V->Hp->VK->Prop:=λx vs H Q=>∃d kvs,x=.ref d/\vs=[]/\H d=some (.dK kvs)/\Q .aH (upd H d (.dK []))
theorem zN:uY X "dict.clear" NF:=by
 intro pins s σ H x vs v us Q I rx rv h
 obtain⟨d,kvs,rfl,rfl,hd,q⟩:=h
 cases(show v=Value.ref d from rx)
 cases rv.zero
 exact Nf I hd λs' I'=>⟨.aH,_,I',rfl,q⟩
theorem Kj{d:Addr}{o:Obj}{kvs:List (Key×V)}{g:TG}{tb:TS}{D:Ends}{σ:St}{H:Hp}(Pv:Nat->St->Hp->Prop) (h0:Pv 0 σ H) (hl:∀i σ H,i<=kvs.length->Pv i σ H->H d=some (.cj o (.dK kvs)))
 (hs:∀i kv σ H,kvs[i]?=some kv->Pv i σ H->g (kV kv.1) σ H λgk H2=>tb {D with nx:=Pv (i+1),ct:=Pv (i+1),bk:=D.nx} gk H2) (hd:∀σ H,Pv kvs.length σ H->D.nx σ H) :
 ∃W:Nat->Nat->St->Hp->Prop,(∃m,W 0 m σ H)/\∀i m σ H,W i m σ H->
  ((DD d o kvs).stop i H/\D.nx σ H)\/((DD d o kvs).go i H/\∃N:St->Hp->Prop,(∀br H',N br H'->∃m',m'<m/\W (i+1) m' br H')/\∀x H',(DD d o kvs).yld i H x H'->g x σ H' λgk H2=>tb {D with nx:=N,ct:=N,bk:=D.nx} gk H2):=by
 refine⟨λi m σ H=>m=kvs.length-i/\i<=kvs.length/\Pv i σ H,⟨kvs.length,by simp,abQ _,h0⟩,?_⟩
 rintro i m σ H ⟨rfl,hi,p⟩
 have q:=hl i σ H hi p
 by_cases eN:i<kvs.length
 . refine .inr ⟨⟨q,eN⟩,Pv (i+1),λbr H' p'=>⟨kvs.length-(i+1),by omega,rfl,eN,p'⟩,λx H' y=>?_⟩
   obtain⟨rfl,kv,jn,rfl⟩:=y
   exact hs i kv σ _ jn p
 . obtain rfl:i=kvs.length:=by omega
   exact .inl ⟨⟨q,rfl⟩,hd σ H p⟩
theorem oB:jb X (.type "int") (λxs H Q=>∃z n,xs=[.str z]/\PySem.intText? z=some n/\z.length<=640/\Q (.int n) H):=by
 intro pins s σ H xs us Q I r h
 obtain⟨z,n,rfl,hn,hl,q⟩:=h
 obtain⟨u,rfl,t,rfl⟩:=vals1 r
 exact W.KIN.call_text hn hl ⟨.int n,H,I.tok _,⟨_,rfl⟩,q⟩
noncomputable def UJ(K:W.Frag)(ta:TA):TI:=λσ H R=>ta σ H λvs H1=>∃a b,vs=[.ref a,.ref b]/\(∃xs,aq K H1 a xs)/\(∃ys,aq K H1 b ys)/\R (Itm K false false a b) H1
theorem NG{es:List Expr}{kk:Nat}{pp:Pos}{a b:Expr}{ta:TA}{p pos:Pos}(hg:Gl X "zip")(hm:X.mg "zip" = none)(ha:PA X [a,b] ta) (hs:starEach [a,b] X.env=(false,eval a X.env)::starEach [b] X.env:=by rfl) (hp:(backTo pos (starEach [b] X.env)).any (·.1)=false:=by rfl) :
 PI X (.Tuple es kk pp) (.Call (.Name "zip" p) [a,b] [] pos) (UJ X.K ta):=by
 intro pins s σ H R I h
 refine Call_ (i3 I hg hm boot_zip (aa4 (aD (ha pos pins s σ H _ I h) λus s1 zq=>?_) hs hp))
 obtain⟨vs,H1,I1,r1,l,m,e,⟨xs,hx⟩,⟨ys,hy⟩,q⟩:=zq
 subst e
 obtain⟨u,v,rfl,ru,rv⟩:=vals2 r1
 cases(show u=Value.ref l from ru)
 cases(show v=Value.ref m from rv)
 obtain⟨its,_,p1,_⟩:=I1.zk (tp:=false) hx
 obtain⟨its',_,p2,_⟩:=I1.zk (tp:=false) hy
 refine DG p1 p2 λh' a1 a2 a3 a4 a5 kk=>?_
 refine adt a1 ?_
 have I2:Inv X pins σ H1 {s1 with heap:=h'}:=I1.kept (t':=s1.toks) kk
 refine⟨_,_,_,_,H1,rfl,I2,DI (tp:=false) (tq:=false) (a:=l) (b:=m) (z:=s1.heap.objs.size+4) (TI:=s1.heap.objs.size+2) (TO:=s1.heap.objs.size+3) (i1:=s1.heap.objs.size) (i2:=s1.heap.objs.size+1) ?_,⟨a1,a2,⟨_,_,a3⟩,a4,a5⟩,λb hb=>?_,q⟩
 . simp
 . have fq:s1.heap.objs.size<=b:=by
    simp only[aan,aaE,abv]at hb
    rcases hb with rfl|rfl|rfl|rfl|rfl
    . exact aa9 _ _
    . exact aa9 _ _
    . exact aa9 _ _
    . exact aah _
    . exact aa9 _ _
   exact I1.pD fq (I1.hok.fresh fq)
end
theorem tT{α β:Type}{F:α->β->Prop} : ∀{l₁:List α}{l₂:List β}{i:Nat}{b:β},Paired F l₁ l₂->l₂[i]?=some b->∃a,l₁[i]?=some a/\F a b
 | _,_,_,_,.nil,h=>by simp at h
 | _,_,0,_,.cons h t,e=>⟨_,rfl,by simp at e;subst e;exact h⟩
 | _,_,i+1,_,.cons h t,e=>by
  obtain⟨a,h1,h2⟩:=tT (i:=i) t (by simpa using e)
  exact⟨a,by simpa using h1,h2⟩
section
variable {X:Cx}
noncomputable def X5(K:W.Frag):R2:=λx y H Q=>∃(t l:Addr) (a b:Str) (ts:List Addr) (ps:List (Str×Str)),x=.ref t/\y=.ref l/\H t=some (.tup [.str a,.str b])/\aq K H l (ts.map V.ref)/\Paired (λu p=>H u=some (.tup [.str p.1,.str p.2])) ts ps/\t∉ts/\Q (.bl (decide ((a,b)∈ps))) H
open Classical in
theorem TV(hu:X.A.units+1<cLine):iP X (compareOp .In) (X5 X.K):=by
 intro pins s σ H x y v u Q I rx ry h
 obtain⟨t,l,a,b,ts,ps,rfl,rfl,ht,hl,hp,hn,q⟩:=h
 cases(show v=Value.ref t from rx)
 cases(show u=Value.ref l from ry)
 obtain⟨its,rv,pl,hz⟩:=I.list hl
 obtain⟨nB,rt,pt,_⟩:=I.tuple (aM.of ht)
 obtain⟨x1,x2,ej,r1,r2⟩:=vals2 rt
 subst ej
 have at_:∀w,w∈its->∃(d:Addr) (p:Str×Str),w=Value.ref d/\d∈ts/\p∈ps/\H d=some (.tup [.str p.1,.str p.2]):=by
  intro w hw
  obtain⟨i,hi,e⟩:=acr hw
  have hlen:=rv.length
  rw[aaa]at hlen
  have Qs:i<ts.length:=by omega
  have dw:=hp.length
  have VM:i<ps.length:=by omega
  obtain⟨w',e1,e2⟩:=rv.get (x:=.ref ts[i]) (by rw[aal,aae Qs];rfl)
  rw[aae hi,e]at e1
  cases e1
  obtain⟨d,hd,hD⟩:=tT hp (i:=i) (aae VM)
  rw[aae Qs]at hd
  cases hd
  exact⟨ts[i],ps[i],e2,abu Qs,abu VM,hD⟩
 refine aeK (λw=>decide (∃d:Addr,w=Value.ref d/\H d=some (.tup [.str a,.str b]))) pl.isList (λw hw=>?_) ⟨.bl _,H,I,rfl,?_⟩
 . obtain⟨d,p,rfl,hd,_,hD⟩:=at_ w (by simpa using hw)
   obtain⟨dts,rd,pd,_⟩:=I.tuple (aM.of hD)
   obtain⟨y1,y2,ed,s1,s2⟩:=vals2 rd
   subst ed
   have ig:d≠t:=λe=>hn (e ▸ hd)
   have key:=SeqAt.EqAt.of_refs ig (SeqAt.RcAt.tuples (A:=X.A.in1) (s:=s) (e:=λj=>if j=0 then mE (.str p.1) (.str a) else mE (.str p.2) (.str b)) pd pt (by show X.A.units+1<cLine;exact hu) (λj g1 g2=>?_))
   . have ee:((List.range (min [y1,y2].toArray.size [x1,x2].toArray.size)).all (λj=>if j=0 then mE (.str p.1) (.str a) else mE (.str p.2) (.str b)) && [y1,y2].toArray.size == [x1,x2].toArray.size)=decide (∃d':Addr,Value.ref d=Value.ref d'/\H d'=some (.tup [.str a,.str b])):=by
      show ((List.range 2).all _ && true)=_
      rw[Bool.and_true,abx,aaV]
      simp only[adL,List.range_zero,abM,List.all_append,ae0,List.all_nil,Bool.and_true,abg,aaI,mE,adB]
      constructor
      . rintro⟨e1,e2⟩
        refine⟨d,rfl,?_⟩
        rw[hD,e1,show p.2=b by simpa using e2]
      . rintro⟨d',e,h'⟩
        cases e
        rw[hD]at h'
        simp at h'
        exact⟨h'.1,by simpa using h'.2⟩
     rw[ee]at key
     exact key
   . match j,g1 with
     | 0,_=>exact wD s1 r1 rfl rfl
     | 1,_=>exact wD s2 r2 rfl rfl
 . have e:its.toArray.any (λw=>decide (∃d:Addr,w=Value.ref d/\H d=some (.tup [.str a,.str b])))=decide ((a,b)∈ps):=by
    rw[abx,aaV]
    rw[show its.toArray.any (λw=>decide (∃d:Addr,w=Value.ref d/\H d=some (.tup [.str a,.str b])))=its.any (λw=>decide (∃d:Addr,w=Value.ref d/\H d=some (.tup [.str a,.str b]))) by simp,acO]
    constructor
    . rintro⟨w,hw,hd⟩
      obtain⟨d,p,rfl,_,ZY,hD⟩:=at_ w hw
      obtain⟨d',e,h'⟩:=abc hd
      cases e
      rw[hD]at h'
      simp at h'
      have:p=(a,b):=Prod.ext h'.1 h'.2
      exact this ▸ ZY
    . intro hm
      obtain⟨i,hi,e⟩:=acr hm
      obtain⟨d,hd,hD⟩:=tT hp (i:=i) (aae hi)
      obtain⟨w',e1,e2⟩:=rv.get (x:=.ref d) (by rw[aal,hd];rfl)
      refine⟨w',aaN e1,aaT ⟨d,e2,?_⟩⟩
      rw[hD,e]
   rw[e]
   exact q
end
theorem tU(h:Runs M Γ p t fs s e s'):s.toks<=s'.toks:=by
 induction h
 all_goals first
  | exact aah _
  | assumption
  | (rename_i a;exact a)
  | (rename_i a b;exact aap a b)
  | (rename_i a;exact aap (acT _) a)
theorem Fp(h:Wakes M Γ p g r s res s'):s.toks<=s'.toks:=by
 unfold Wakes at h
 split at h
 . exact h.elim
 . split at h
   . obtain⟨e,s1,h1,_,_,rfl⟩:=h
     have:=tU h1
     exact this
   . obtain⟨_,rfl⟩:=h
     exact aah _
   . obtain⟨_,rfl⟩:=h
     exact aah _
 . obtain⟨e,s1,h1,_,_,rfl⟩:=h
   have:=tU h1
   exact this
 . obtain⟨_,rfl⟩:=h
   exact aah _
 . obtain⟨_,rfl⟩:=h
   exact aah _
theorem wp_toks{α:Type}{M:Model}{Γ : PySem.Ctx} (t:Sem α){Q:α->Pos->Shared->Prop}{E:Value->Pos->Shared->Prop}(n:Nat):∀{p:Pos}{s:Shared},n<=s.toks->Sem.wp M Γ t Q E p s->Sem.wp M Γ t (λa p' s'=>Q a p' s'/\n<=s'.toks) E p s:=by
 induction t with
 | pure a=>exact λhn h=>⟨h,hn⟩
 | raise e=>exact λhn h=>h
 | unsupported|finish|register|yield|fork|await=>exact λ_ h=>h
 | rule tag k ih=>exact λhn h=>ih _ hn h
 | «at» p' k ih=>exact λhn h=>ih _ hn h
 | load a part k ih=>exact λhn ⟨o,e,h⟩=>⟨o,e,ih _ hn h⟩
 | update a part f k ih=>exact λhn ⟨e,h⟩=>⟨e,ih _ hn h⟩
 | loadIfAlive a k ih=>exact λhn h=>ih _ hn h
 | point l k ih=>exact λhn h=>ih _ hn h
 | alloc o k ih=>exact λhn h=>ih _ hn h
 | fresh k ih=>exact λhn h=>ih _ (Nat.le_succ_of_le hn) h
 | ask k ih=>exact λhn h=>ih _ hn h
 | choose src m k ih=>exact λhn ⟨e,h⟩=>⟨e,ih _ hn h⟩
 | os q l k ih=>exact λhn h=>ih _ hn h
 | call c hd g l k ih=>exact λhn ⟨r,s1,h1,h⟩=>⟨r,s1,h1,ih _ (aap hn (tU h1)) h⟩
 | handled own k ih=>exact λhn h=>ih _ hn h
 | genState g k ih=>exact λhn ⟨st,e,h⟩=>⟨st,e,ih _ hn h⟩
 | newGen c k ih=>exact λhn h=>ih _ hn h
 | resume g r l k ih=>exact λhn ⟨res,s1,h1,h⟩=>⟨res,s1,h1,ih _ (aap hn (Fp h1)) h⟩
 | stack k ih=>exact λhn h=>ih _ hn h
 | thread k ih=>exact λhn h=>ih _ hn h
theorem wpAny_toks{α:Type}{M:Model}{A:Around}{t:Sem α}{Q:α->Shared->Prop}{E:Value->Shared->Prop}{s:Shared}(n:Nat)(hn:n<=s.toks)(h:wpAny M A t Q E s):wpAny M A t (λa s'=>Q a s'/\n<=s'.toks) E s:=
 λΓ p hΓ=>wp_toks t n hn (h Γ p hΓ)
noncomputable def lq(X:Cx)(e:Expr)(t:TE):Prop:=
 ∀(pins:List (Addr×Obj)) (s:Shared) (σ:St) (H:Hp) (Q:VK),Inv X pins σ H s->1<=s.toks->t σ H Q->wpAny (model X.prog X.w) X.A (eval e X.env) (EP X pins σ Q) X.xe s
theorem PE.t{X:Cx}{e:Expr}{t:TE}(h:PE X e t):lq X e t:=λpins s σ H Q I _ q=>h pins s σ H Q I q
theorem Ai{prog:Program}{w:World}{A:Around}{R:Result->Shared->Prop}{s:Shared}{elt target iter:Expr}{ifs:List Expr}{scope:Scope}{pos:Pos}{it acc:Value}{env:Env}(I:Nat->Shared->Prop)
 (turn:∀n s,I n s->wpAny (model prog w) A (pyNext it) (λr eC=>match r with
  | none=>R (.ok .next) eC
  | some v=>wpAny (model prog w) A (letOwnedTupleGo target it v) (λ_ LF=>wpAny (model prog w) A (assign target env v) (λ_ uT=>
   wpAny (model prog w) A (forIn ifs true λc r=>if r=true then do let ok ← isTrue c env (eval c env);pure (ForInStep.yield ok) else pure (ForInStep.yield r)) (λok AK=>
    if ok=true then (1<=AK.toks->wpAny (model prog w) A (eval elt env) (λx O6=>
     wpAny (model prog w) A (call (.builtin "list.append") [acc,x]) (λ_ O7=>∃m,m<n/\I m O7) (λ_ _=>False) O6) (λ_ _=>False) AK)
    else ∃m,m<n/\I m AK) (λ_ _=>False) uT) (λ_ _=>False) LF) (λ_ _=>False) eC) (λ_ _=>False) s)
 (n:Nat) (h:I n s) (ht:1<=s.toks) :
 codeAny (model prog w) A (.compLoop (.ListComp elt [⟨target,iter,ifs,0⟩] scope pos) 0 it acc env) R s:=by
 refine sV (λn s=>I n s/\1<=s.toks) (λn s hh=>?_) n ⟨h,ht⟩
 refine aD (wpAny_toks 1 hh.2 (turn n s hh.1)) λr eC ⟨h₁,ael⟩=>?_
 cases r with
 | none=>exact h₁
 | some v=>
  refine aD (wpAny_toks 1 ael h₁) λ_ uT ⟨kK,aem⟩=>aD (wpAny_toks 1 aem kK) λ_ AK ⟨kO,aen⟩=>aD (wpAny_toks 1 aen kO) λok O6 ⟨sv,X6⟩=>?_
  cases ok with
  | false=>
   rw[aay aat]at sv ⊢
   obtain⟨m,hm,hI⟩:=sv
   exact⟨m,hm,hI,X6⟩
  | true=>
   rw[aaI rfl]at sv ⊢
   refine aD (wpAny_toks 1 X6 (sv X6)) λx O7 ⟨gz,aeo⟩=>aD (wpAny_toks 1 aeo gz) λ_ afD ⟨⟨m,hm,hI⟩,aep⟩=>⟨m,hm,hI,aep⟩
section
variable {X:Cx}{N:List Str}{js:List (Option Nat)}{scope:Scope}{elt tg iter:Expr}{ifs:List Expr}{pos:Pos}{wi:TI}{g:TG}{ti:TT}{te:TE}
noncomputable def UK(a b:Str)(to:TE):TE:=λσ H Q=>to σ H λx H1=>∃z,x=.str z/\z.length<=1048576/\b.length<=14/\Q (.str (Txt.replace z a b)) H1
theorem Fq{o:Expr}{to:TE}{a b:Str}{j1 j2:Nat}{p1 p2 apos cU:Pos}(DC:(a == b)=false) (ho:PE X o to)
 (kU:attributeBase o "replace" X.env (eval o X.env)=eval o X.env:=by rfl)
 (AS:((backTo cU (starEach [.Constant (.str a) j1 p1,.Constant (.str b) j2 p2] X.env)).all (λx=>!x.1) && (backToKw cU (keywordEach [] X.env)).all (λx=>x.1.isSome)
  && decide (([.Constant (.str a) j1 p1,.Constant (.str b) j2 p2]:List Expr).length+([]:List Keyword).length+(if ([]:List Keyword).isEmpty then 0 else 1)<30))=true:=by rfl)
 (kY:(apos.endLine == cU.line)=true:=by rfl) :
 lq X (.Call (.Attribute o "replace" apos) [.Constant (.str a) j1 p1,.Constant (.str b) j2 p2] [] cU) (UK a b to):=by
 intro pins s σ H Q I ht h
 refine ac5 kU AS kY rfl (aD (wpAny_toks 1 ht (ho pins s σ H _ I h)) λv s1 ⟨⟨x,H1,I1,r1,z,e,hz,hb,q1⟩,t1⟩=>?_)
 subst e
 obtain⟨t,rfl⟩:=r1
 refine⟨"str", "str.replace",abD,PySem.F.slot_str_replace,PySem.F.type_str_replace,acW s1 z t,(λ_ e=>nomatch e),?_⟩
 refine abC rfl (acI ?_)
 refine abo (adP (k:=j1) (pos:=p1) (abo (adP (k:=j2) (pos:=p2) (acg ?_))))
 refine SC.replaceW (aa0 t1) (Nat.succ_ne_zero _) (aax (adq _)) DC hz hb λt' k=>⟨.str _,H1,?_,⟨_,rfl⟩,q1⟩
 exact I1.tok k
end
noncomputable def Qt(d:Addr)(o:Obj) (kvs:List (Key×V)):It:=
 ⟨λi H=>H d=some (.cj o (.dK kvs))/\i<kvs.length,λi H x H'=>∃T kv,x=.ref T/\H T=none/\kvs[i]?=some kv/\H'=upd H T (.tup [kV kv.1,kv.2]),λi H=>H d=some (.cj o (.dK kvs))/\i=kvs.length⟩
theorem yo:entryFor table "dict_itemiterator.__iter__" = some Builtin.«dict_keyiterator.__iter__»:=entryFor_alias (id':="dict_keyiterator.__iter__") (by kernel_rfl) rfl (by decide+kernel) (by kernel_rfl)
theorem Fs{P:Program}{w:World}{K:W.Frag}{Qu:List Expr}{kk:Nat}{tp:Pos}{d it:Addr}{o:Obj}{es:Array DictEntry}{ep:Nat}{kvs:List (Key×V)}(hd:o.data=.dict es ep) (ig:d≠it):Turn P w K (.Tuple Qu kk tp) (Qt d o kvs) [it] it (λi h=>∃ok ov,IsItemIter h it d i kvs.length ep ok ov) where
 mem:=by simp
 obj:=λi h st b hb=>by
  have e:b=it:=by simpa using hb
  subst e
  obtain⟨ok,ov,e⟩:=st
  exact⟨_,e,λv z=>by
   have z':Data.fields _=Data.cell v:=z
   cases z'⟩
 keep:=λi h h' st k=>let ⟨ok,ov,e⟩:=st; ⟨ok,ov,k it (by simp) _ e⟩
 item:=by
  intro X hP hw hK hc i pins s σ H E I hf st hg
  subst hP hw hK
  obtain⟨g1,g2⟩:=hg
  obtain⟨ho,z,hs,vs,rel,o',yX,yY,iM,r'⟩:=(show bO X.prog X.w H s.heap d (.cj o (.dK kvs)) from I.hok d _ g1)
  rw[ho]at iM
  cases iM
  have iS:=r'.2.1
  rw[hd]at iS
  cases iS
  have hl:kvs.length=vs.length:=rel.length
  obtain⟨ok,ov,hit⟩:=st
  have gv:i<vs.length:=by omega
  have HJ:kvs[i]?=some kvs[i]:=aae g2
  have ev:vs[i]?=some (vs[i].1,vs[i].2):=aae gv
  obtain⟨DF,gp⟩:=jR rel HJ ev
  rw[hl]at hit
  refine wpAny_pyNext_items_item (knd:=aQ X.prog X.w) hit ⟨o,es,ho,r'⟩ ev λkey h' n8 hO hT hsz hk=>?_
  refine⟨.ref s.heap.objs.size,rfl,?_⟩
  refine wpAny_letOwnedTupleGo_items hO λh2 Hb j6=>?_
  have Hc:s.heap.objs.size≠it:=aa0 (aam hit)
  have u7:h2.get? s.heap.objs.size=some {cls:=.type "tuple",data:=.seq #[key,vs[i].2] }:=(j6.2 _ Hc).trans hT
  have I1:Inv X pins σ (upd H s.heap.objs.size (.tup [kV kvs[i].1,kvs[i].2])) {s with heap:=h2,toks:=s.toks}:=I.x8 (its:=[key,vs[i].2]) hf (λb o hb e1=>by
   have b1:b≠it:=λz=>hb (by simp[z])
   exact(j6.2 b b1).trans (hk b o b1 e1)) (aah _) ⟨_,u7,rfl,_,rfl⟩ (.cons (by rw[DF];exact An n8) (.cons gp .nil)) (by show 2<=sizeLine;decide)
  have fr:H s.heap.objs.size=none:=I.hok.fresh (aah _)
  refine⟨.ref s.heap.objs.size,_,I1,rfl,⟨s.heap.objs.size,kvs[i],rfl,fr,HJ,rfl⟩,⟨_,_,by rw[hl];exact Hb⟩,λb hb=>?_⟩
  have fq:=(hf b hb).1
  have e:b=it:=by simpa using hb
  rw[ai (by rw[e];exact aav Hc)]
  exact fq
 done:=by
  intro X hP hw hK hc i pins s σ H E I hf st hg
  subst hP hw hK
  obtain⟨g1,g2⟩:=hg
  subst g2
  obtain⟨ho,z,hs,vs,rel,o',yX,yY,iM,r'⟩:=(show bO X.prog X.w H s.heap d (.cj o (.dK kvs)) from I.hok d _ g1)
  rw[ho]at iM
  cases iM
  have iS:=r'.2.1
  rw[hd]at iS
  cases iS
  have hl:kvs.length=vs.length:=rel.length
  obtain⟨ok,ov,hit⟩:=st
  rw[hl]at hit
  exact wpAny_pyNext_items_end (knd:=aQ X.prog X.w) (I.ok.hd hc) hit ⟨o,es,ho,r'⟩ (by simp) λh' eb=>⟨rfl,I.x6 (t':=s.toks) hf λb o hb e1=>eb b o (λz=>hb (by simp[z])) e1⟩
 self:=λA i s Q E st h=>by
  obtain⟨ok,ov,hit⟩:=st
  have hT:s.TypeIs (.ref it) "dict_itemiterator":=⟨_,hit,rfl⟩
  refine wpAny_pyIter_slot hT adv (abk adv hT yo ?_ (F.args_dict_itemiterator_iter_1 _))
  show wpAny _ _ (ret (.ref it)) _ _ s
  exact aak ⟨_,rfl, "dict_itemiterator",_,hT,F.slot_dict_itemiterator_next.lookup,h⟩
section
variable {X:Cx}
noncomputable def Qv(td:TE):TI:=λσ H R=>td σ H λx H1=>∃d kvs,x=.ref d/\H1 d=some (.dK kvs)/\∀o,R (Qt d o kvs) (upd H1 d (.cj o (.dK kvs)))
theorem Kk{Qu:List Expr}{kk:Nat}{tp:Pos}{o:Expr}{to:TE}{apos cU:Pos}(ho:PE X o to)
 (kU:attributeBase o "items" X.env (eval o X.env)=eval o X.env:=by rfl) (kY:(apos.endLine == cU.line)=true:=by rfl):PI X (.Tuple Qu kk tp) (.Call (.Attribute o "items" apos) [] [] cU) (Qv to):=by
 intro pins s σ H R I h
 refine ac0 kU kY (aD (ho pins s σ H _ I h) λv s1 ⟨x,H1,I1,r1,d,kvs,e,hd,q⟩=>?_)
 subst e
 cases(show v=Value.ref d from r1)
 obtain⟨h1,h2⟩:=wF (T:="dict") (x:=.ref d) I1 rfl (.inr (.inr (.inl ⟨rfl,.inl ⟨_,hd⟩⟩)))
 refine⟨"dict", "dict.items",abJ,acs,aed,h1,h2,abC rfl (adE ?_)⟩
 obtain⟨z,hm,vs,rel,dd⟩:=qR I1.hok hd
 obtain⟨ob,es,ep,HZ,r⟩:=id dd
 have hlen:kvs.length=vs.length:=rel.length
 obtain⟨o',iM,I2⟩:=I1.freeze hd
 rw[HZ]at iM
 cases iM
 refine adk acs h1 ad8 (ad1 _) (meets_dict_items (aQ X.prog X.w) d hm) ⟨⟨vs,dd⟩,?_⟩
 have eN:d<s1.heap.objs.size:=aam HZ
 refine wpAny_pyIter_items (knd:=aQ X.prog X.w) (kvs:=vs) (ep:=ep) (d:=d) ⟨_,aar _ rfl,rfl,rfl⟩ ⟨ob,es,aad _ HZ,r⟩ ?_
 have I3:Inv X pins σ (upd H1 d (.cj ob (.dK kvs))) {s1 with heap:=s1.heap.push {cls:=.type "dict_items",data:=.fields #[.ref d] } }:=I2.kept (t':=s1.toks) λb o e=>aad _ e
 have I4:=I3.kept (h':=(s1.heap.push {cls:=.type "dict_items",data:=.fields #[.ref d] }).push {cls:=.type "dict_itemiterator",data:=.fields #[.none,.bool false,.ref d,.int 0 0,.int vs.length 0,.int ep 0,.none,.none] }) (t':=s1.toks) λb o e=>aad _ e
 refine⟨(s1.heap.push {cls:=.type "dict_items",data:=.fields #[.ref d] }).objs.size,[(s1.heap.push {cls:=.type "dict_items",data:=.fields #[.ref d] }).objs.size],_,_,_,rfl,I4,Fs (es:=es) (ep:=ep) (o:=ob) (kvs:=kvs) r.2.1 (aax (by rw[abn];exact ab6 eN)),?_,?_,q ob⟩
 . refine⟨.none,.none,?_⟩
   show Heap.get? _ _=_
   rw[hlen]
   exact aar _ rfl
 . intro b hb
   have e:b=(s1.heap.push {cls:=.type "dict_items",data:=.fields #[.ref d] }).objs.size:=by simpa using hb
   subst e
   exact I3.pD (aah _) (I3.hok.fresh (aah _))
noncomputable def Qw(Ag:Hp)(t:TS):TS:=λD σ H=>t {D with nx:=λC0 H1=>∃d o kvs,H1 d=some (.cj o (.dK kvs))/\(∀o' u,Ag d≠some (.cj o' u))/\D.nx C0 (upd H1 d (.dK kvs))} σ H
theorem DQ{st:Stmt}{t:TS}(h:PS X st t):PS X st (Qw X.Ag t):=by
 intro pins s σ H D I q
 refine aD (h pins s σ H _ I q) λf s1 hf=>?_
 cases f with
 | next=>
  obtain⟨C0,H1,I1,d,o,kvs,e,hn,q1⟩:=hf
  exact⟨C0,_,I1.P6 e hn,q1⟩
 | _=>exact hf
end
end L2
namespace Gen
open PySem L2
noncomputable abbrev Ft:Stmt:=inClass (top 1) 0
structure gw(mg:Str->Option Value):Prop where
 len:mg "len" = none
 list:mg "list" = none
 dict:mg "dict" = none
 tuple:mg "tuple" = none
 str:mg "str" = none
 int:mg "int" = none
 bool:mg "bool" = none
 zip:mg "zip" = none
 all:mg "all" = none
 isi:mg "isinstance" = none
structure Fu where
 sw:List Str
 kp:List (Key×V)
 gt:List Addr
 nx:List (Key×V)
 nv:List (Key×V)
 sm:List (Key×V)
structure zO(H:Hp) (F:Fu) (f1 f2 f3 f4 f5 f6:Addr):Prop where
 h1:H f1=some (.lst (F.sw.map V.str))
 h2:H f2=some (.dK F.kp)
 h3:H f3=some (.lst (F.gt.map V.ref))
 h4:H f4=some (.dK F.nx)
 h5:H f5=some (.dK F.nv)
 h6:H f6=some (.dK F.sm)
theorem zO.keep{H H':Hp}{F:Fu}{f1 f2 f3 f4 f5 f6:Addr}(h:zO H F f1 f2 f3 f4 f5 f6)(k:∀b∈[f1,f2,f3,f4,f5,f6],∀o,H b=some o->H' b=some o):zO H' F f1 f2 f3 f4 f5 f6:=
 ⟨k f1 (by simp) _ h.h1,k f2 (by simp) _ h.h2,k f3 (by simp) _ h.h3,k f4 (by simp) _ h.h4,k f5 (by simp) _ h.h5,k f6 (by simp) _ h.h6⟩
theorem zO.same{H H':Hp}{F:Fu}{f1 f2 f3 f4 f5 f6:Addr}(h:zO H F f1 f2 f3 f4 f5 f6)(k:ah H H'):zO H' F f1 f2 f3 f4 f5 f6:=h.keep λb _ o e=>k b o e
structure pO(K:W.Frag) (mg:Str->Option Value) (C:Addr):Prop where
 cl:uW K C
 n1:eQ K C "switches"
 n2:eQ K C "keepers"
 n3:eQ K C "gates"
 n4:eQ K C "nexts"
 n5:eQ K C "nevers"
 n6:eQ K C "somes"
 mgC:mg "Machine" = some (.ref C)
noncomputable def jO(f1 f2 f3 f4 f5 f6:Addr):List (Str×V):=bG "somes" (.ref f6) (bG "nevers" (.ref f5) (bG "nexts" (.ref f4) (bG "gates" (.ref f3) (bG "keepers" (.ref f2) (bG "switches" (.ref f1) [])))))
section
variable (f1 f2 f3 f4 f5 f6:Addr)
theorem tV:(jO f1 f2 f3 f4 f5 f6).lookup ("switches" : Str)=some (.ref f1):=by
 unfold jO
 rw[aZ,aay (by decide+kernel),aZ,aay (by decide+kernel),aZ,aay (by decide+kernel),aZ,aay (by decide+kernel),aZ,aay (by decide+kernel),aZ,aaI rfl]
theorem qr:(jO f1 f2 f3 f4 f5 f6).lookup ("keepers" : Str)=some (.ref f2):=by
 unfold jO
 rw[aZ,aay (by decide+kernel),aZ,aay (by decide+kernel),aZ,aay (by decide+kernel),aZ,aay (by decide+kernel),aZ,aaI rfl]
theorem tW:(jO f1 f2 f3 f4 f5 f6).lookup ("gates" : Str)=some (.ref f3):=by
 unfold jO
 rw[aZ,aay (by decide+kernel),aZ,aay (by decide+kernel),aZ,aay (by decide+kernel),aZ,aaI rfl]
theorem xt:(jO f1 f2 f3 f4 f5 f6).lookup ("nexts" : Str)=some (.ref f4):=by
 unfold jO
 rw[aZ,aay (by decide+kernel),aZ,aay (by decide+kernel),aZ,aaI rfl]
theorem Ia:(jO f1 f2 f3 f4 f5 f6).lookup ("nevers" : Str)=some (.ref f5):=by
 unfold jO
 rw[aZ,aay (by decide+kernel),aZ,aaI rfl]
theorem Ib:(jO f1 f2 f3 f4 f5 f6).lookup ("somes" : Str)=some (.ref f6):=by
 unfold jO
 rw[aZ,aaI rfl]
end
theorem eG{f:Str}{v:V}{fs:List (Str×V)}{n:Nat}(h:fs.length<=n):(bG f v fs).length<=n+1:=aap (pE f v fs) (Nat.succ_le_succ h)
theorem AN{n m:Nat}(h:n<=m)(hm:m<1000):n<1000:=abK h hm
theorem kc{H:Hp}{p g C dx:Addr}{o:HO}{fs fs':List (Str×V)}(hp:H p=some (.ins C dx fs)) (hg:H g=none) :
 (upd (upd H g o) p (.ins C dx fs')) p=some (.ins C dx fs')/\(upd (upd H g o) p (.ins C dx fs')) g=some o/\(upd H g o) p=some (.ins C dx fs)/\∀b u,H b=some u->b≠p->(upd (upd H g o) p (.ins C dx fs')) b=some u:=by
 have n:=ae hp hg
 refine⟨af,by rw[ai (aav n),af],by rw[ai n];exact hp,λb u hb nb=>by rw[ai nb,ai (ae hb hg)];exact hb⟩
noncomputable abbrev o7:List Str:=["self", "switches", "keepers", "gates", "nexts", "nevers", "somes"]
inductive DR(C:Addr) (vs:List V) (H:Hp) (Q:VK):Prop
 | mk (p dx s1 s2 s3 s4 s5 s6:Addr) (F:Fu) (h1:vs=[.ref p,.ref s1,.ref s2,.ref s3,.ref s4,.ref s5,.ref s6]) (h2:H p=some (.ins C dx [])) (h3:zO H F s1 s2 s3 s4 s5 s6) (h4:∀(g1 g2 g3 g4 g5 g6:Addr) (H':Hp),(∀g∈[g1,g2,g3,g4,g5,g6],H g=none)->[g1,g2,g3,g4,g5,g6].Nodup->H' p=some (.ins C dx (jO g1 g2 g3 g4 g5 g6))->zO H' F g1 g2 g3 g4 g5 g6->aL H H' p->Q .aH H'):DR C vs H Q
noncomputable def BD(C:Addr):Sp:=λvs H Q _=>DR C vs H Q
theorem mT{H H':Hp}{p g:Addr}(k:∀b u,H b=some u->b≠p->H' b=some u)(hg:H' g=none)(np:g≠p):H g=none:=by
 cases e:H g with
 | none=>rfl
 | some o=>rw[k g o e np]at hg;cases hg
section
variable {P:Program}{w:World}{K:W.Frag}{mg:Str->Option Value}{base:Heap}
theorem Qx:aK o7 o7 (aw Ft):=⟨rfl,rfl,rfl,by decide+kernel,rfl,by decide+kernel,by decide+kernel⟩
theorem DS{f C:Addr}{fd:FuncData}(F:aO K "__init__" "Machine.__init__" Ft f fd)(T:pO K mg C)(O:gw mg):aR P w K mg base aY 1 f fd o7 (BD C):=by
 refine F.ok Qx (λvs H Q E h=>?_) (λcdv A outer s H vs Q E hr h=>?_)
 . obtain⟨p,dx,s1,s2,s3,s4,s5,s6,F,rfl,_⟩:=h
   rfl
 . obtain⟨p,dx,s1,s2,s3,s4,s5,s6,F,rfl,hp,hF,kk⟩:=h
   refine⟨_,aj (qa (pv 0) (aJ eT (by rfl) O.list aa8 (aa (pv 1) ag)) rfl)
    (aj (qa (pv 0) (aJ gA (by rfl) O.dict aaC (aa (pv 2) ag)) rfl)
    (aj (qa (pv 0) (aJ eT (by rfl) O.list aa8 (aa (pv 3) ag)) rfl)
    (aj (qa (pv 0) (aJ gA (by rfl) O.dict aaC (aa (pv 4) ag)) rfl)
    (aj (qa (pv 0) (aJ gA (by rfl) O.dict aaC (aa (pv 5) ag)) rfl)
    (au (qa (pv 0) (aJ gA (by rfl) O.dict aaC (aa (pv 6) ag)) rfl)))))),?_⟩
   have np:∀{b:Addr}{u:HO},H b=some u->(∀C dx fs,u≠.ins C dx fs)->b≠p:=λhb hu z=>by
    rw[z,hp]at hb
    exact hu _ _ _ (aaA hb).symm
   have m1:s1≠p:=np hF.h1 (λ_ _ _ z=>by cases z)
   have m2:s2≠p:=np hF.h2 (λ_ _ _ z=>by cases z)
   have m3:s3≠p:=np hF.h3 (λ_ _ _ z=>by cases z)
   have m4:s4≠p:=np hF.h4 (λ_ _ _ z=>by cases z)
   have m5:s5≠p:=np hF.h5 (λ_ _ _ z=>by cases z)
   have m6:s6≠p:=np hF.h6 (λ_ _ _ z=>by cases z)
   refine⟨_,rfl,s1,_,rfl,.inl (aq.of hF.h1),λg1 e1=>?_⟩
   obtain⟨p1,q1,r1,k1⟩:=kc (o:=.lst (F.sw.map V.str)) (fs':=bG "switches" (.ref g1) []) hp e1
   have b1:g1≠p:=(ae hp e1).symm
   refine⟨_,rfl,p,C,dx,[],rfl,r1,T.cl,T.n1,(by show 0<1000;decide),?_⟩
   generalize upd (upd H g1 (.lst (F.sw.map V.str))) p (.ins C dx (bG "switches" (.ref g1) []))=H1 at p1 q1 k1 ⊢
   refine⟨_,rfl,s2,_,rfl,.inl (k1 _ _ hF.h2 m2),λg2 e2=>?_⟩
   obtain⟨p2,q2,r2,k2⟩:=kc (o:=.dK F.kp) (fs':=bG "keepers" (.ref g2) (bG "switches" (.ref g1) [])) p1 e2
   have b2:g2≠p:=(ae p1 e2).symm
   refine⟨_,rfl,p,C,dx,_,rfl,r2,T.cl,T.n2,AN (eG (aah _)) (by show 1<1000;decide),?_⟩
   generalize upd (upd H1 g2 (.dK F.kp)) p (.ins C dx (bG "keepers" (.ref g2) (bG "switches" (.ref g1) [])))=H2 at p2 q2 k2 ⊢
   refine⟨_,rfl,s3,_,rfl,.inl (aq.of (k2 _ _ (k1 _ _ hF.h3 m3) m3)),λg3 e3=>?_⟩
   obtain⟨p3,q3,r3,k3⟩:=kc (o:=.lst (F.gt.map V.ref)) (fs':=bG "gates" (.ref g3) (bG "keepers" (.ref g2) (bG "switches" (.ref g1) []))) p2 e3
   have b3:g3≠p:=(ae p2 e3).symm
   refine⟨_,rfl,p,C,dx,_,rfl,r3,T.cl,T.n3,AN (eG (eG (aah _))) (by show 2<1000;decide),?_⟩
   generalize upd (upd H2 g3 (.lst (F.gt.map V.ref))) p (.ins C dx (bG "gates" (.ref g3) (bG "keepers" (.ref g2) (bG "switches" (.ref g1) []))))=H3 at p3 q3 k3 ⊢
   refine⟨_,rfl,s4,_,rfl,.inl (k3 _ _ (k2 _ _ (k1 _ _ hF.h4 m4) m4) m4),λg4 e4=>?_⟩
   obtain⟨p4,q4,r4,k4⟩:=kc (o:=.dK F.nx) (fs':=bG "nexts" (.ref g4) (bG "gates" (.ref g3) (bG "keepers" (.ref g2) (bG "switches" (.ref g1) [])))) p3 e4
   have b4:g4≠p:=(ae p3 e4).symm
   refine⟨_,rfl,p,C,dx,_,rfl,r4,T.cl,T.n4,AN (eG (eG (eG (aah _)))) (by show 3<1000;decide),?_⟩
   generalize upd (upd H3 g4 (.dK F.nx)) p (.ins C dx (bG "nexts" (.ref g4) (bG "gates" (.ref g3) (bG "keepers" (.ref g2) (bG "switches" (.ref g1) [])))))=H4 at p4 q4 k4 ⊢
   refine⟨_,rfl,s5,_,rfl,.inl (k4 _ _ (k3 _ _ (k2 _ _ (k1 _ _ hF.h5 m5) m5) m5) m5),λg5 e5=>?_⟩
   obtain⟨p5,q5,r5,k5⟩:=kc (o:=.dK F.nv) (fs':=bG "nevers" (.ref g5) (bG "nexts" (.ref g4) (bG "gates" (.ref g3) (bG "keepers" (.ref g2) (bG "switches" (.ref g1) []))))) p4 e5
   have b5:g5≠p:=(ae p4 e5).symm
   refine⟨_,rfl,p,C,dx,_,rfl,r5,T.cl,T.n5,AN (eG (eG (eG (eG (aah _))))) (by show 4<1000;decide),?_⟩
   generalize upd (upd H4 g5 (.dK F.nv)) p (.ins C dx (bG "nevers" (.ref g5) (bG "nexts" (.ref g4) (bG "gates" (.ref g3) (bG "keepers" (.ref g2) (bG "switches" (.ref g1) []))))))=H5 at p5 q5 k5 ⊢
   refine⟨_,rfl,s6,_,rfl,.inl (k5 _ _ (k4 _ _ (k3 _ _ (k2 _ _ (k1 _ _ hF.h6 m6) m6) m6) m6) m6),λg6 e6=>?_⟩
   obtain⟨p6,q6,r6,k6⟩:=kc (o:=.dK F.sm) (fs':=jO g1 g2 g3 g4 g5 g6) p5 e6
   have b6:g6≠p:=(ae p5 e6).symm
   refine⟨_,rfl,p,C,dx,_,rfl,r6,T.cl,T.n6,AN (eG (eG (eG (eG (eG (aah _)))))) (by show 5<1000;decide),?_⟩
   refine kk g1 g2 g3 g4 g5 g6 _ ?_ ?nd p6 ⟨k6 _ _ (k5 _ _ (k4 _ _ (k3 _ _ (k2 _ _ q1 b1) b1) b1) b1) b1,k6 _ _ (k5 _ _ (k4 _ _ (k3 _ _ q2 b2) b2) b2) b2,k6 _ _ (k5 _ _ (k4 _ _ q3 b3) b3) b3,k6 _ _ (k5 _ _ q4 b4) b4,k6 _ _ q5 b5,q6⟩
    (λb o hb nb=>k6 _ _ (k5 _ _ (k4 _ _ (k3 _ _ (k2 _ _ (k1 _ _ hb nb) nb) nb) nb) nb) nb)
   have z1:∀{g},g≠p->H1 g=none->H g=none:=λn e=>mT k1 e n
   have z2:∀{g},g≠p->H2 g=none->H g=none:=λn e=>z1 n (mT k2 e n)
   have z3:∀{g},g≠p->H3 g=none->H g=none:=λn e=>z2 n (mT k3 e n)
   have z4:∀{g},g≠p->H4 g=none->H g=none:=λn e=>z3 n (mT k4 e n)
   have z5:∀{g},g≠p->H5 g=none->H g=none:=λn e=>z4 n (mT k5 e n)
   case nd=>
    have L5:=ae q1 e2
    have L6:=ae (k2 _ _ q1 b1) e3
    have L7:=ae (k3 _ _ (k2 _ _ q1 b1) b1) e4
    have L8:=ae (k4 _ _ (k3 _ _ (k2 _ _ q1 b1) b1) b1) e5
    have L9:=ae (k5 _ _ (k4 _ _ (k3 _ _ (k2 _ _ q1 b1) b1) b1) b1) e6
    have Ma:=ae q2 e3
    have Mb:=ae (k3 _ _ q2 b2) e4
    have Mc:=ae (k4 _ _ (k3 _ _ q2 b2) b2) e5
    have Md:=ae (k5 _ _ (k4 _ _ (k3 _ _ q2 b2) b2) b2) e6
    have Me:=ae q3 e4
    have Mf:=ae (k4 _ _ q3 b3) e5
    have Mg:=ae (k5 _ _ (k4 _ _ q3 b3) b3) e6
    have ZZ:=ae q4 e5
    have Z0:=ae (k5 _ _ q4 b4) e6
    have Z1:=ae q5 e6
    simp only[aaU,aan,aaE,abv,adU,ace,and_true,not_false_eq_true]
    exact⟨⟨L5,L6,L7,L8,L9⟩,⟨Ma,Mb,Mc,Md⟩,⟨Me,Mf,Mg⟩,⟨ZZ,Z0⟩,Z1⟩
   intro g hg
   simp only[aan,aaE,abv]at hg
   rcases hg with rfl|rfl|rfl|rfl|rfl|rfl
   . exact e1
   . exact z1 b2 e2
   . exact z2 b3 e3
   . exact z3 b4 e4
   . exact z4 b5 e5
   . exact z5 b6 e6
end
theorem nS(z:Str):z=⟨z.cps.toList.toArray⟩:=by cases z;simp
theorem fK(x:Str):(("~" : Str)++x).cps.toList=126::x.cps.toList:=by
 have e:("~" : Str)=⟨#[126]⟩:=by decide+kernel
 rw[e]
 show (#[126]++x.cps).toList=_
 simp
noncomputable def eV(l:List (Str×V)):List (Key×V):=l.map λr=>((.inr r.1:Key),r.2)
noncomputable def bo(l:List (Str×Str)):List (Key×V):=l.map λr=>((.inr r.1:Key),V.str r.2)
theorem rp(n:Str):∀l:List (Str×V),(cu (eV l) (.inr n)).isSome=decide (n∈l.map (·.1))
 | []=>by simp[eV,cu]
 | r::l=>by
  have ih:=rp n l
  by_cases e:r.1=n
  . have h1:cu (eV (r::l)) (.inr n)=some r.2:=iA (p:=((.inr r.1:Key),r.2)) (by rw[e])
    rw[h1]
    simp[e]
  . have h1:cu (eV (r::l)) (.inr n)=cu (eV l) (.inr n):=iB (p:=((.inr r.1:Key),r.2)) (λq=>e (acm q))
    rw[h1,ih]
    have:¬ n=r.1:=λq=>e q.symm
    simp[this]
theorem Mh(l:List (Str×Str)):bo l=eV (l.map λr=>(r.1,V.str r.2)):=by unfold bo eV;rw[aau];rfl
theorem Kl{n:Str}{l:List (Str×Str)}(h:n∉l.map (·.1)):cu (bo l) (.inr n)=none:=by
 have:=rp n (l.map λr=>(r.1,V.str r.2))
 rw[← Mh,aau,aaS (by simpa using h)]at this
 cases e:cu (bo l) (.inr n) with
 | none=>rfl
 | some v=>rw[e]at this;cases this
theorem xu{z:Str}(h:aT z):¬ z.cps.toList[0]?=some 126:=λe=>by
 have:=iC.mp (h.2.2 126 (aaN e))
 lia
noncomputable def BE(z:Str):Prop:=z = "0" \/ z = "1" \/ aT z\/∃x,aT x/\z = "~" ++ x
theorem BE.len{z:Str}(h:BE z):1<=z.length/\z.length<=9:=by
 rcases h with rfl|rfl|h|⟨x,hx,rfl⟩
 . decide+kernel
 . decide+kernel
 . refine⟨?_,aap h.len (by decide)⟩
   have:=h.1
   simpa[Str.length]using this
 . have e:=tf "~" x
   have t1:("~" : Str).length=1:=by decide+kernel
   have:=hx.len
   lia
theorem Qy{a b:Str}{A B:Prop}(h:a≠b)(q:B):if decide (V.str a=V.str b)=true then A else B:=by
 rw[aaS (λe=>h (V.str.inj e))]
 exact bu q
theorem Qz{a:Str}{A B:Prop}(q:A):if decide (V.str a=V.str a)=true then A else B:=by
 rw[aaT rfl]
 exact dm q
theorem vW{α:Type}{l pre post:List α}{i:Nat}(h:(pre++l++post).Nodup) (hi:i<l.length):l[i]∉pre++l.take i:=by
 have e:l=l.take i++l[i]::l.drop (i+1):=by rw[← abV hi,ado]
 have h1:(pre++l).Nodup:=(aaB.mp h).1
 have h2:((pre++l.take i)++l[i]::l.drop (i+1)).Nodup:=by rw[abl,← e];exact h1
 intro hm
 exact(aaB.mp h2).2.2 _ hm _ aaX rfl
theorem cb.same{H H':Hp}{m:Addr}{M:ay}{a1 a2 a3 a4 a5 a6:Addr}(h:cb H m M a1 a2 a3 a4 a5 a6)(s:ah H H'):cb H' m M a1 a2 a3 a4 a5 a6:=
 ⟨s _ _ h.top,s _ _ h.sw,h.kp.same s,h.gt.same s,h.nx.same s,h.nv.same s,h.sm.same s⟩
theorem Z2{x:V}{r:List V} : ie (x::r) 0=some x:=gy (j:=0) rfl
noncomputable def eh(vv:List (Str×Int)):List (Key×V):=vv.map λr=>((.inr r.1:Key),V.int r.2)
noncomputable def bw(vv:List (Str×Int)) (n:Str):Int:=((vv.find? λr=>decide (r.1=n)).map (·.2)).getD 0
theorem UL(vv:List (Str×Int)):eh vv=eV (vv.map λr=>(r.1,V.int r.2)):=by unfold eh eV;rw[aau];rfl
theorem Km{n:Str}{l:List (Str×Int)}(h:n∉l.map (·.1)):cu (eh l) (.inr n)=none:=by
 have:=rp n (l.map λr=>(r.1,V.int r.2))
 rw[← UL,aau,aaS (by simpa using h)]at this
 cases e:cu (eh l) (.inr n) with
 | none=>rfl
 | some v=>rw[e]at this;cases this
theorem BF{n:Str} : ∀{l:List (Str×Int)},n∈l.map (·.1)->cu (eh l) (.inr n)=some (.int (bw l n))
 | [],h=>by cases h
 | r::l,h=>by
  by_cases e:r.1=n
  . have h1:cu (eh (r::l)) (.inr n)=some (.int r.2):=iA (p:=((.inr r.1:Key),V.int r.2)) (by rw[e])
    rw[h1]
    unfold bw
    rw[aaD (by simpa using e)]
    rfl
  . have h1:cu (eh (r::l)) (.inr n)=cu (eh l) (.inr n):=iB (p:=((.inr r.1:Key),V.int r.2)) (λq=>e (acm q))
    rw[h1,BF (l:=l) (by
     rw[aas,aan]at h
     rcases h with h|h
     . exact absurd h.symm e
     . exact h)]
    unfold bw
    rw[aaz (by simpa using e)]
noncomputable def eW(vv:List (Str×Int)) (l:Str):Int:=if l = "0" then 0 else if l = "1" then 1 else if l.cps.toList[0]?=some 126 then 1-bw vv ⟨l.cps.toList.tail.toArray⟩ else bw vv l
noncomputable def o8(vv:List (Str×Int)) (l:Str):Prop:=l = "0" \/ l = "1" \/ (aT l/\l∈vv.map (·.1))\/∃x,aT x/\x∈vv.map (·.1)/\l = "~" ++ x
theorem Ic(vv:List (Str×Int)):eW vv "0" = 0:=by rw[eW,aaI rfl]
theorem Ie(vv:List (Str×Int)):eW vv "1" = 1:=by rw[eW,aay (by decide+kernel),aaI rfl]
theorem gB{z:Str}(h:aT z):z ≠ "0" /\ z ≠ "1" /\ ¬ z.cps.toList[0]?=some 126:=by
 have hl:∀c,z.cps.toList[0]?=some c->97<=c:=λc e=>(iC.mp (h.2.2 c (aaN e))).1
 refine⟨λe=>?_,λe=>?_,xu h⟩
 . have:=hl 48 (by rw[e];decide+kernel)
   lia
 . have:=hl 49 (by rw[e];decide+kernel)
   lia
theorem oC(x:Str):("~" : Str)++x ≠ "0" /\ ("~" : Str)++x ≠ "1":=by
 have hl:=fK x
 refine⟨λe=>?_,λe=>?_⟩
 . rw[e]at hl
   have:(("0" : Str).cps.toList)[0]?=some 48:=by decide+kernel
   rw[hl]at this
   exact absurd this (by simp)
 . rw[e]at hl
   have:(("1" : Str).cps.toList)[0]?=some 49:=by decide+kernel
   rw[hl]at this
   exact absurd this (by simp)
theorem tX{vv:List (Str×Int)}{z:Str}(h:aT z):eW vv z=bw vv z:=by
 obtain⟨a,b,c⟩:=gB h
 rw[eW,aay a,aay b,aay c]
theorem xw{vv:List (Str×Int)}{x:Str} : eW vv ("~" ++ x)=1-bw vv x:=by
 obtain⟨a,b⟩:=oC x
 rw[eW,aay a,aay b,fK,aaI (show (126::x.cps.toList)[0]?=some 126 from rfl)]
 rw[show (⟨(126::x.cps.toList).tail.toArray⟩:Str)=x from(nS x).symm]
noncomputable def vX(vv:List (Str×Int)):Prop:=∀r∈vv,r.2=0\/r.2=1
theorem ke{vv:List (Str×Int)}(h:vX vv) (n:Str):bw vv n=0\/bw vv n=1:=by
 unfold bw
 cases e:vv.find? λr=>decide (r.1=n) with
 | none=>exact .inl rfl
 | some r=>exact h r (abW e)
theorem lV{vv:List (Str×Int)}(h:vX vv) (l:Str):eW vv l=0\/eW vv l=1:=by
 unfold eW
 split
 . exact .inl rfl
 . split
   . exact .inr rfl
   . split
     . rcases ke h ⟨l.cps.toList.tail.toArray⟩ with e|e <;> rw[e]
       . exact .inr rfl
       . exact .inl rfl
     . exact ke h l
noncomputable def lW(acc:List (Str×Int)) (g:Str×Str×Str):List (Str×Int):=acc++[(g.1,eW acc g.2.1*eW acc g.2.2)]
noncomputable def iL(M:ay)(bs cs:List Int):List (Str×Int):=M.switches.zip bs++(M.keepers.map (·.1)).zip cs
noncomputable def cQ(M:ay)(bs cs:List Int)(i:Nat):List (Str×Int):=(M.gates.take i).foldl lW (iL M bs cs)
theorem zP:∀(gs:List (Str×Str×Str)) (acc:List (Str×Int)),(gs.foldl lW acc).map (·.1)=acc.map (·.1)++gs.map (·.1)
 | [],acc=>by simp
 | g::gs,acc=>by
  rw[ab0,zP gs,lW,aaf,aas,abl]
  rfl
theorem cH{α β:Type} : ∀{l:List α}{r:List β},l.length=r.length->(l.zip r).map (·.1)=l
 | [],[],_=>rfl
 | x::l,y::r,h=>by
  rw[abe,aas,cH (by simpa using h)]
theorem fQ{M:ay}{bs cs:List Int}(h1:M.switches.length=bs.length)(h2:M.keepers.length=cs.length)(i:Nat):(cQ M bs cs i).map (·.1)=M.switches++M.keepers.map (·.1)++(M.gates.take i).map (·.1):=by
 unfold cQ iL
 rw[zP,aaf,cH h1,cH (by rw[aaa];exact h2)]
theorem zQ{M:ay}{bs cs:List Int}{i:Nat}(hi:i<M.gates.length):cQ M bs cs (i+1)=lW (cQ M bs cs i) M.gates[i]:=by
 unfold cQ
 rw[abb,aae hi,ack]
 rfl
theorem lX{l:List Str}{bs:List Int}(h:∀b∈bs,b=0\/b=1):vX (l.zip bs):=λr hr=>h r.2 (abE hr).2
theorem tY{M:ay}{bs cs:List Int}(h1:∀b∈bs,b=0\/b=1)(h2:∀b∈cs,b=0\/b=1)(i:Nat):vX (cQ M bs cs i):=by
 have base:vX (iL M bs cs):=λr hr=>by
  rcases aag.mp hr with hr|hr
  . exact lX h1 r hr
  . exact lX h2 r hr
 have all:∀(gs:List (Str×Str×Str)) (acc:List (Str×Int)),vX acc->vX (gs.foldl lW acc):=by
  intro gs
  induction gs with
  | nil=>intro acc h;exact h
  | cons g gs ih=>
   intro acc h
   refine ih _ λr hr=>?_
   rcases aag.mp hr with hr|hr
   . exact h r hr
   . rw[aao.mp hr]
     show eW acc g.2.1*eW acc g.2.2=0\/eW acc g.2.1*eW acc g.2.2=1
     rcases lV h g.2.1 with e|e <;> rcases lV h g.2.2 with e'|e' <;> rw[e,e'] <;> simp
 exact all _ _ base
theorem uH{acc:List (Str×Int)}{n:Str}{v:Int}(h:n∉acc.map (·.1)):putK (eh acc) (.inr n) (.int v)=eh (acc++[(n,v)]):=by
 rw[qQ _ (Km h)]
 unfold eh
 rw[aaf]
 rfl
theorem tZ:∀(l acc:List (Str×Int)),((acc++l).map (·.1)).Nodup->bA (eh acc) (eh l)=eh (acc++l)
 | [],acc,_=>by rw[abh];rfl
 | r::l,acc,h=>by
  have e:acc++r::l=(acc++[r])++l:=by simp
  have hn:r.1∉acc.map (·.1):=λhm=>by
   rw[aaf]at h
   exact(aaB.mp h).2.2 _ hm _ (by simp) rfl
  show bA (putK (eh acc) (.inr r.1) (.int r.2)) (eh l)=_
  rw[uH hn,e]
  exact tZ l (acc++[r]) (by rw[← e];exact h)
theorem yp:∀(l:List Str) (bs:List Int),(l.map (Sum.inr:Str->Key)).zip (bs.map V.int)=eh (l.zip bs)
 | [],_=>rfl
 | _::_,[]=>rfl
 | x::l,y::r=>by
  rw[aas,aas,abe,abe,yp l r]
  rfl
theorem Lit.QA{names:List Str}{z:Str}{vv:List (Str×Int)}(h:Lit names z) (hn:∀x∈names,aT x) (hs:∀x∈names,x∈vv.map (·.1)):o8 vv z:=by
 rcases h with h|h|⟨x,hx,h|h⟩
 . exact .inl h
 . exact .inr (.inl h)
 . exact .inr (.inr (.inl ⟨h ▸ hn x hx,h ▸ hs x hx⟩))
 . exact .inr (.inr (.inr ⟨x,hn x hx,hs x hx,h⟩))
theorem o8.len{vv:List (Str×Int)}{z:Str}(h:o8 vv z):1<=z.length/\z.length<=9:=by
 have hf:BE z:=by
  rcases h with h|h|⟨h,_⟩|⟨x,h,_,e⟩
  . exact .inl h
  . exact .inr (.inl h)
  . exact .inr (.inr (.inl h))
  . exact .inr (.inr (.inr ⟨x,h,e⟩))
 exact hf.len
noncomputable abbrev Kn:Stmt:=top 30
inductive DT(vs:List V) (H:Hp) (Q:VK):Prop
 | mk (d:Addr) (vv:List (Str×Int)) (l:Str) (h1:vs=[.ref d,.str l]) (h2:Rd H d (.dK (eh vv))) (h3:o8 vv l) (h4:∀H',ah H H'->Q (.int (eW vv l)) H'):DT vs H Q
noncomputable def qu:Sp:=λvs H Q _=>DT vs H Q
theorem lY{H:Hp}{d:Addr}{vv:List (Str×Int)}{n:Str}(h:Rd H d (.dK (eh vv))) (hn:n∈vv.map (·.1)):a7 H d (.str n) (some (.int (bw vv n))):=.inl ⟨eh vv,.inr n,h,rfl,(BF hn).symm⟩
section
variable {P:Program}{w:World}{K:W.Frag}{mg:Str->Option Value}{base:Heap}
theorem UM:aK ["_law_values_here", "_law_literal_here"] ["_law_values_here", "_law_literal_here"] (aw Kn):=⟨rfl,rfl,rfl,by decide+kernel,rfl,by decide+kernel,by decide+kernel⟩
theorem QB{f:Addr}{fd:FuncData}(F:aO K "_law_bit" "_law_bit" Kn f fd)(O:gw mg):aR P w K mg base aY 1 f fd ["_law_values_here", "_law_literal_here"] qu:=by
 refine F.ok UM (λvs H Q E h=>?_) (λcdv A outer s H vs Q E hr h=>?_)
 . obtain⟨d,vv,l,rfl,_⟩:=h
   rfl
 . obtain⟨d,vv,l,rfl,hd,hl,kk⟩:=h
   have hu:=dY hr
   have xx:l.length<=sizeLine:=aap hl.len.2 (by decide)
   refine⟨_,aj (cP (bg iR (pv 1) (cx (aa av (aa av ag))) (by with_unfolding_all rfl)) (au (aI (aJ oB (by rfl) O.int acD (aa (pv 1) ag)))) bh)
    (aj (cP (bg iV (aN kQ (pv 1) ak (λ_ _=>rfl)) av (cp _)) (au (aI (aB nZ ak (aC hu (pv 0) (jY ym (pv 1) (lQ ak) lP) (λ_ _=>rfl))))) bh)
    (au (aI (aC hu (pv 0) (pv 1) (λ_ _=>rfl))))),?_⟩
   refine⟨_,rfl,(by show 2<=sizeLine;decide),λt ht=>?_⟩
   have st:ah H (upd H t (.tup [.str "0",.str "1"])):=ah.ao ht
   have hd':Rd (upd H t (.tup [.str "0",.str "1"])) d (.dK (eh vv)):=by
    rcases hd with hd|⟨o,hd⟩
    . exact .inl (st _ _ hd)
    . exact .inr ⟨o,st _ _ hd⟩
   have k0:=kk _ st
   refine⟨t,_,rfl,.inr (aM.of af),rfl,rfl,_,rfl,?_⟩
   show if iQ (.str l) [.str "0",.str "1"]=true then _ else _
   have QC:l ≠ "0" -> l ≠ "1" -> iQ (.str l) [.str "0",.str "1"]=false:=λa b=>by
    have:=qk l ["0", "1"]
    rw[show iQ (V.str l) [.str "0",.str "1"]=decide (l∈(["0", "1"]:List Str)) from this]
    exact aaS (by simp[a,b])
   have tl:("~" : Str)=⟨#[126]⟩:=by decide+kernel
   rcases hl with rfl|rfl|⟨hn,hm⟩|⟨x,hn,hm,rfl⟩
   . rw[Ic]at k0
     rw[show iQ (V.str "0") [.str "0",.str "1"]=true from by decide+kernel]
     exact dm ⟨_,rfl, "0",0,rfl,by decide+kernel,by decide+kernel,k0⟩
   . rw[Ie]at k0
     rw[show iQ (V.str "1") [.str "0",.str "1"]=true from by decide+kernel]
     exact dm ⟨_,rfl, "1",1,rfl,by decide+kernel,by decide+kernel,k0⟩
   . obtain⟨n0,n1,n2⟩:=gB hn
     rw[tX hn]at k0
     rw[QC n0 n1]
     refine bu ?_
     obtain⟨c,hc⟩:∃c,l.cps.toList[0]?=some c:=⟨_,aae (by have:=hn.1;lia)⟩
     have UN:c≠126:=λe=>n2 (by rw[hc,e])
     refine⟨_,rfl,l,0,c,rfl,rfl,xx,gy (j:=0) hc,rfl,_,rfl,Qy (λq=>UN (by
      rw[tl]at q
      have e2:=congrArg (λs:Str=>s.cps.toList) q
      simpa using e2)) ?_⟩
     exact⟨_,rfl,_,rfl,d,_,rfl,lY hd' hm,k0⟩
   . obtain⟨n0,n1⟩:=oC x
     rw[xw]at k0
     rw[QC n0 n1]
     refine bu ?_
     have e0:(("~" : Str)++x).cps.toList[0]?=some 126:=by rw[fK];rfl
     refine⟨_,rfl,_,0,126,rfl,rfl,xx,gy (j:=0) e0,rfl,_,rfl,?_⟩
     rw[show (⟨#[126]⟩:Str) = "~" from tl.symm]
     refine Qz ?_
     refine⟨_,rfl,_,rfl,_,rfl,_,1,rfl,rfl,rfl,xx,?_⟩
     have ts:Txt.slice (("~" : Str)++x) (some 1) none=x:=by
      rw[nS (Txt.slice (("~" : Str)++x) (some 1) none),rn,fK]
      exact(nS x).symm
     rw[ts]
     exact⟨d,_,rfl,lY hd' hm,_,_,rfl,rfl,k0⟩
end
structure mU(M:ay) (names:List Str) (bs cs:List Int):Prop where
 ok:az M names
 l1:M.switches.length=bs.length
 l2:M.keepers.length=cs.length
 b1:∀b∈bs,b=0\/b=1
 b2:∀b∈cs,b=0\/b=1
 n1:M.switches.length<=12
 n2:M.keepers.length<=16
 n3:M.gates.length<=60
section
variable {M:ay}{names:List Str}{bs cs:List Int}
theorem mU.nd(h:mU M names bs cs):(M.switches++M.keepers.map (·.1)++M.gates.map (·.1)).Nodup:=by have:=h.ok.nd;rw[h.ok.all]at this;exact this
theorem mU.nm(h:mU M names bs cs):∀z∈M.switches++M.keepers.map (·.1)++M.gates.map (·.1),aT z:=λz hz=>h.ok.nm z (by rw[h.ok.all];exact hz)
theorem mU.len(h:mU M names bs cs)(i:Nat):(cQ M bs cs i).length<=88:=by
 have:=congrArg List.length (fQ h.l1 h.l2 i)
 simp only[aaa,aaj,aaO]at this
 have:=h.n1
 have:=h.n2
 have:=h.n3
 lia
theorem mU.gate(h:mU M names bs cs){i:Nat}(hi:i<M.gates.length):M.gates[i].1∉(cQ M bs cs i).map (·.1)/\o8 (cQ M bs cs i) M.gates[i].2.1/\o8 (cQ M bs cs i) M.gates[i].2.2:=by
 rw[fQ h.l1 h.l2]
 have HR:∀x∈M.switches++M.keepers.map (·.1)++(M.gates.take i).map (·.1),aT x:=λx hx=>h.nm x (by
  rcases aag.mp hx with hx|hx
  . exact acf _ hx
  . obtain⟨r,hr,e⟩:=aai.mp hx
    exact aaG _ (aai.mpr ⟨r,abz hr,e⟩))
 obtain⟨g1,g2⟩:=h.ok.gl i _ (aae hi)
 refine⟨?_,g1.QA HR λx hx=>by rw[fQ h.l1 h.l2];exact hx,g2.QA HR λx hx=>by rw[fQ h.l1 h.l2];exact hx⟩
 have:=vW (l:=M.gates.map (·.1)) (pre:=M.switches++M.keepers.map (·.1)) (post:=[]) (by simpa using h.nd) (i:=i) (by rw[aaa];exact hi)
 rw[adw,← abO]at this
 exact this
end
noncomputable def BG(K:W.Frag)(H:Hp)(t:Addr)(bs:List Int):Prop:=aM K H t (bs.map V.int)
theorem BG.same{K:W.Frag}{H H':Hp}{t:Addr}{bs:List Int}(h:BG K H t bs)(s:ah H H'):BG K H' t bs:=ah.lT s h
theorem aM.keep{K:W.Frag}{H H':Hp}{u:Addr}{xs:List V}(h:aM K H u xs) (k:∀o,(∀kvs,o≠.dK kvs)->(∀l,o≠.lst l)->H u=some o->H' u=some o):aM K H' u xs:=by
 rcases h with (h|⟨o,h⟩)|h
 . exact .inl (.inl (k _ (by intro _ z;cases z) (by intro _ z;cases z) h))
 . exact .inl (.inr ⟨o,k _ (by intro _ z;cases z) (by intro _ z;cases z) h⟩)
 . exact .inr h
noncomputable abbrev yq:Stmt:=top 29
inductive zR(K:W.Frag) (vs:List V) (H:Hp) (Q:VK):Prop
 | mk (m a1 a2 a3 a4 a5 a6 st tl:Addr) (M:ay) (names:List Str) (bs cs:List Int) (h1:vs=[.ref m,.ref st,.ref tl]) (h2:cb H m M a1 a2 a3 a4 a5 a6) (h3:mU M names bs cs) (h4:BG K H st cs) (h5:aq K H tl (bs.map V.int)) (h6:∀d H',H d=none->ah H H'->H' d=some (.dK (eh (cQ M bs cs M.gates.length)))->Q (.ref d) H'):zR K vs H Q
noncomputable def oE(K:W.Frag):Sp:=λvs H Q _=>zR K vs H Q
noncomputable abbrev Z3:List Str:=["_law_m", "_law_stand", "_law_told", "_law_values_here", "_law_name", "_law_bit_here", "_law_keeper", "_law_one", "_law_other"]
noncomputable abbrev qv:List Str:=["_law_m", "_law_stand", "_law_told"]
theorem BH{α β:Type}{l:List α}{r:List β}{i:Nat}(h1:i<l.length)(h2:i<r.length):(l.zip r).take (i+1)=(l.zip r).take i++[(l[i],r[i])]:=by
 rw[abb,aae (by rw[aa6];lia),aeC]
 rfl
section
variable {P:Program}{w:World}{K:W.Frag}{mg:Str->Option Value}{base:Heap}
theorem rq:aK Z3 qv (aw yq):=⟨rfl,rfl,rfl,by decide+kernel,rfl,by decide+kernel,by decide+kernel⟩
theorem Ig{f fB:Addr}{fd dB:FuncData}(F:aO K "_law_values" "_law_values" yq f fd)(O:gw mg)(GB:aR P w K mg base aY 1 fB dB ["_law_values_here", "_law_literal_here"] qu) (mB:mg "_law_bit" = some (.ref fB)) (kB:W.keepIn K (.ref fB)=true) (bB:Binds K dB ["_law_values_here", "_law_literal_here"] []):aR P w K mg base aY 2 f fd qv (oE K):=by
 refine F.ok rq (λvs H Q E h=>?_) (λcdv A outer s H vs Q E hr h=>?_)
 . obtain⟨m,a1,a2,a3,a4,a5,a6,st,tl,M,names,bs,cs,rfl,_⟩:=h
   rfl
 . obtain⟨m,a1,a2,a3,a4,a5,a6,st,tl,M,names,bs,cs,rfl,hM,hf,nq,nu,kk⟩:=h
   have hu:=dY hr
   have ef:aW 1 _:=hr
   have l1:=hf.l1
   have l2:=hf.l2
   have n1:=hf.n1
   have n2:=hf.n2
   have n3:=hf.n3
   refine⟨_,aj (bz (i:=3) rq.nd rfl (Or.inl rfl) JM)
    (aj (df aaM rfl (NG (by rfl) O.zip (aa (aC hu (pv 0) av (λ_ _=>rfl)) (aa (pv 2) ag))) (cw rfl (ax (ar (i:=4) rq.nd rfl (Or.inl rfl)) (ax (ar (i:=5) rq.nd rfl (Or.inl rfl)) bF)))
     (au (eI hu (pv 3) (pv 4) (pv 5) rfl)))
    (aj (df aaM rfl (NC (by rfl) O.zip (aa (aC hu (pv 0) av (λ_ _=>rfl)) (aa (pv 1) ag))) (cw rfl (ax (ar (i:=6) rq.nd rfl (Or.inl rfl)) (ax (ar (i:=5) rq.nd rfl (Or.inl rfl)) bF)))
     (au (eI hu (pv 3) (aN cN (pv 6) ak (λ_ _=>rfl)) (pv 5) rfl)))
    (aj (df aaM rfl (bf (aC hu (pv 0) av (λ_ _=>rfl))) (cw rfl (ax (ar (i:=4) rq.nd rfl (Or.inl rfl)) (ax (ar (i:=7) rq.nd rfl (Or.inl rfl)) (ax (ar (i:=8) rq.nd rfl (Or.inl rfl)) bF))))
     (au (eI hu (pv 3) (pv 4) (aB ji (aX GB ef rfl mB kB bB .nil bJ (aa (pv 3) (aa (pv 7) ag))) (aX GB ef rfl mB kB bB .nil bJ (aa (pv 3) (aa (pv 8) ag)))) rfl)))
    (au (aI (pv 3)))))),?_⟩
   intro d hd
   have kp:∀b o,H b=some o->b≠d:=λb o hb=>ae hb hd
   have s1:ah H (upd H d (.dK [])):=ah.ao hd
   have q1:(upd H d (.dK [])) d=some (.dK (eh ((M.switches.zip bs).take 0))):=af
   generalize upd H d (.dK [])=H1 at s1 q1 ⊢
   have fU:=hM.same s1
   have ndS:M.switches.Nodup:=(aaB.mp (aaB.mp hf.nd).1).1
   refine⟨_,rfl,m,.ref a1,rfl,a7.k (k:=.inr "switches") fU.top,_,rfl,a1,tl,rfl,⟨_,aq.of fU.sw⟩,⟨_,ah.seq s1 nu⟩,DP (K:=K) (tp:=false) (tq:=false) (a:=a1) (b:=tl) (xs:=M.switches.map V.str) (ys:=bs.map V.int) (by simp only[aaa];lia)
    (λi σ H2=>∃v4 v5,σ=[some (.ref m),some (.ref st),some (.ref tl),some (.ref d),v4,v5,none,none,none]/\H2 d=some (.dK (eh ((M.switches.zip bs).take i)))/\ah H H2) ?_ ?_ ?_ ?_⟩
   . exact⟨none,none,rfl,q1,s1⟩
   . rintro i σ H2 _ ⟨_,_,_,_,s2⟩
     exact⟨aq.of (s2 _ _ hM.sw),ah.seq s2 nu⟩
   . rintro i xv yv Tp σ H2 hx hy hT ⟨v4,v5,rfl,hd2,s2⟩
     have hi:i<M.switches.length:=by
      have:=(aaq.mp hx).1
      rwa[aaa]at this
     have Ih:i<bs.length:=by lia
     have ex:xv=.str M.switches[i]:=by
      rw[aal,aae hi]at hx
      exact(aaA hx).symm
     have ey:yv=.int bs[i]:=by
      rw[aal,aae Ih]at hy
      exact(aaA hy).symm
     subst ex ey
     have QD:d≠Tp:=ae hd2 hT
     have Fj:(upd H2 Tp (.tup [.str M.switches[i],.int bs[i]])) d=some (.dK (eh ((M.switches.zip bs).take i))):=by rw[ai QD];exact hd2
     refine⟨Tp,_,rfl,aM.of af,rfl,_,_,rfl,_,_,rfl,rfl,?_⟩
     refine⟨_,rfl,_,rfl,_,rfl,d,_,rfl,fE.k (k:=.inr M.switches[i]) Fj ?_,?_⟩
     . unfold eh
       rw[aaa,aaO,aa6]
       exact small (by lia)
     . refine⟨_,_,rfl,?_,λb o hb=>?_⟩
       . rw[af,uH,BH hi Ih]
         rw[abO,cH l1]
         have:=vW (pre:=[]) (post:=[]) (by simpa using ndS) hi
         simpa using this
       . rw[ai (kp b o hb),ai (ae (s2 _ _ hb) hT)]
         exact s2 _ _ hb
   rintro σ H2 ⟨v4,v5,rfl,hd2,s2⟩
   rw[aaa,aa2 (by rw[aa6];lia)]at hd2
   have jd:=hM.same s2
   obtain⟨us,QE,fH⟩:=id jd.kp
   have ox:=fH.length
   rw[aaa]at ox
   have ndK:=(aaB.mp hf.nd).1
   refine⟨_,rfl,m,.ref a2,rfl,a7.k (k:=.inr "keepers") jd.top,_,rfl,a2,st,rfl,⟨_,aq.of QE⟩,⟨_,ah.lT s2 nq⟩,DP (K:=K) (tp:=false) (tq:=true) (a:=a2) (b:=st) (xs:=us.map V.ref) (ys:=cs.map V.int) (by simp only[aaa];lia)
    (λi σ H3=>∃v5 v6,σ=[some (.ref m),some (.ref st),some (.ref tl),some (.ref d),v4,v5,v6,none,none]/\H3 d=some (.dK (eh (M.switches.zip bs++((M.keepers.map (·.1)).zip cs).take i)))/\(∀b o,H2 b=some o->b≠d->H3 b=some o)) ?_ ?_ ?_ ?_⟩
   . exact⟨v5,none,rfl,by rw[aeT,abh];exact hd2,λ_ _ h _=>h⟩
   . rintro i σ H3 _ ⟨_,_,_,_,s3⟩
     refine⟨aq.of (s3 _ _ QE ?_),aM.keep (ah.lT s2 nq) λo Z4 _ ho=>s3 _ _ ho (gq ho hd2 (Z4 _))⟩
     exact gq QE hd2 (by intro z;cases z)
   . rintro i xv yv Tp σ H3 hx hy hT ⟨Ii,v6,rfl,lJ,s3⟩
     have hi:i<M.keepers.length:=by
      have:=(aaq.mp hx).1
      rw[aaa]at this
      lia
     have Ih:i<cs.length:=by lia
     obtain⟨t,ht,LX⟩:=ir fH (i:=i) (b:=fg M.keepers[i]) (by rw[aal,aae hi];rfl)
     have ex:xv=.ref t:=by
      rw[aal,ht]at hx
      exact(aaA hx).symm
     have ey:yv=.int cs[i]:=by
      rw[aal,aae Ih]at hy
      exact(aaA hy).symm
     subst ex ey
     have QD:d≠Tp:=ae lJ hT
     have Ko:(upd H3 Tp (.tup [.ref t,.int cs[i]])) d=some (.dK (eh (M.switches.zip bs++((M.keepers.map (·.1)).zip cs).take i))):=by rw[ai QD];exact lJ
     have Z5:t≠d:=gq LX hd2 (by intro z;cases z)
     have VN:=s3 _ _ LX Z5
     have Z6:t≠Tp:=ae VN hT
     refine⟨Tp,_,rfl,aM.of af,rfl,_,_,rfl,_,_,rfl,rfl,?_⟩
     refine⟨_,rfl,_,rfl,_,rfl,t,_,0,.str M.keepers[i].1,rfl,rfl,aM.of (by rw[ai Z6];exact VN),Z2,d,_,rfl,fE.k (k:=.inr M.keepers[i].1) Ko ?_,?_⟩
     . unfold eh
       simp only[aaa,aaj,aaO,aa6]
       exact small (by lia)
     . refine⟨_,_,rfl,?_,λb o hb DU=>?_⟩
       . rw[af,uH]
         . rw[BH (by rw[aaa];exact hi) Ih,adw,abl]
         . rw[aaf,cH l1,abO,cH (by rw[aaa];exact l2)]
           have:=vW (l:=M.keepers.map (·.1)) (pre:=M.switches) (post:=[]) (by simpa using ndK) (i:=i) (by rw[aaa];exact hi)
           rw[adw]at this
           exact this
       . rw[ai DU,ai (ae (s3 _ _ hb DU) hT)]
         exact s3 _ _ hb DU
   rintro σ H3 ⟨Ii,v6,rfl,lJ,s3⟩
   rw[aaa,ox,aa2 (by rw[aa6,aaa];lia)]at lJ
   have iH:ah H H3:=λb o hb=>s3 _ _ (s2 _ _ hb) (kp b o hb)
   have nC:=hM.same iH
   obtain⟨ts,QF,xy⟩:=id nC.gt
   have vm:=xy.length
   rw[aaa]at vm
   refine⟨_,rfl,m,.ref a3,rfl,a7.k (k:=.inr "gates") nC.top,a3,rfl,⟨_,aq.of QF⟩,fo (K:=K) (a:=a3) (xs:=ts.map V.ref) (λi σ H4=>∃v4 v7 v8,σ=[some (.ref m),some (.ref st),some (.ref tl),some (.ref d),v4,Ii,v6,v7,v8]/\H4 d=some (.dK (eh (cQ M bs cs i)))/\(∀b o,H3 b=some o->b≠d->H4 b=some o)) ?_ ?_ ?_ ?_⟩
   . exact⟨v4,none,none,rfl,lJ,λ_ _ h _=>h⟩
   . rintro i σ H4 _ ⟨_,_,_,_,_,s4⟩
     exact aq.of (s4 _ _ QF (gq QF lJ (by intro z;cases z)))
   . rintro i xv σ H4 hx ⟨Mi,v7,v8,rfl,DV,s4⟩
     have vj:i<(ts.map V.ref).length:=(aaq.mp hx).1
     rw[aaa,vm]at vj
     obtain⟨t,ht,hT⟩:=ir xy (i:=i) (b:=cy M.gates[i]) (by rw[aal,aae vj];rfl)
     have ex:xv=.ref t:=by
      rw[aal,ht]at hx
      exact(aaA hx).symm
     subst ex
     obtain⟨pN,fJ,dw⟩:=hf.gate vj
     have DL:=tY (M:=M) hf.b1 hf.b2 i
     refine⟨t,_,rfl,aM.of (s4 _ _ hT (gq hT lJ (by intro z;cases z))),rfl,_,_,rfl,_,_,rfl,_,_,rfl,rfl,?_⟩
     refine⟨_,rfl,_,rfl,d,_,_,rfl,.inl DV,fJ,λH5 s5=>?_⟩
     refine⟨_,rfl,_,rfl,d,_,_,rfl,.inl (s5 _ _ DV),dw,λH6 s6=>?_⟩
     have Z7:=s6 _ _ (s5 _ _ DV)
     have hlen:=hf.len i
     refine⟨_,_,rfl,rfl,.inl ?_,?_⟩
     . rcases lV DL M.gates[i].2.1 with e|e <;> rw[e] <;> decide
     refine⟨_,rfl,_,rfl,d,_,rfl,fE.k (k:=.inr M.gates[i].1) Z7 (by unfold eh;rw[aaa];exact small (by lia)),?_⟩
     refine⟨_,_,_,rfl,?_,λb o hb DU=>?_⟩
     . rw[af,uH pN,zQ vj]
       rfl
     . rw[ai DU]
       exact s6 _ _ (s5 _ _ (s4 _ _ hb DU))
   . rintro σ H4 ⟨Mi,v7,v8,rfl,DV,s4⟩
     rw[aaa,vm]at DV
     exact⟨_,rfl,kk d H4 hd (λb o hb=>s4 _ _ (iH _ _ hb) (kp b o hb)) DV⟩
end
noncomputable def cE(l:List (Str×Str)) (n:Str):Str:=((l.find? λr=>decide (r.1=n)).map (·.2)).getD n
theorem BI(n:Str):∀l:List (Str×Str),(cu (bo l) (.inr n)).getD (.str n)=.str (cE l n)
 | []=>rfl
 | r::l=>by
  by_cases e:r.1=n
  . have h1:cu (bo (r::l)) (.inr n)=some (.str r.2):=iA (p:=((.inr r.1:Key),V.str r.2)) (by rw[e])
    rw[h1,cE,aaD (by simpa using e)]
    rfl
  . have h1:cu (bo (r::l)) (.inr n)=cu (bo l) (.inr n):=iB (p:=((.inr r.1:Key),V.str r.2)) (λq=>e (acm q))
    rw[h1,BI n l,cE,cE,aaz (by simpa using e)]
noncomputable def iu(M:ay)(bs cs:List Int):List Int:=M.keepers.map λr=>eW (cQ M bs cs M.gates.length) (cE M.nexts r.1)
section
variable {M:ay}{names:List Str}{bs cs:List Int}
theorem mU.keys(h:mU M names bs cs):(cQ M bs cs M.gates.length).map (·.1)=names:=by rw[fQ h.l1 h.l2,aaH,h.ok.all]
theorem mU.next(h:mU M names bs cs){r:Str×V}(hr:r∈M.keepers):o8 (cQ M bs cs M.gates.length) (cE M.nexts r.1):=by
 have hk:=h.keys
 unfold cE
 cases e:M.nexts.find? λq=>decide (q.1=r.1) with
 | none=>
  have hm:r.1∈names:=by rw[h.ok.all];exact acf _ (aaG _ (aai.mpr ⟨r,hr,rfl⟩))
  exact .inr (.inr (.inl ⟨h.ok.nm _ hm,by rw[hk];exact hm⟩))
 | some q=>exact(h.ok.nxl q (abW e)).QA h.ok.nm λx hx=>by rw[hk];exact hx
theorem zS:(iu M bs cs).length=M.keepers.length:=by unfold iu;rw[aaa]
theorem mU.Ij(h:mU M names bs cs):∀b∈iu M bs cs,b=0\/b=1:=λb hb=>by
 obtain⟨r,_,rfl⟩:=aai.mp hb
 exact lV (tY h.b1 h.b2 _) _
end
structure Fm(M:ay) (names:List Str):Prop where
 ok:az M names
 n1:M.switches.length<=12
 n2:M.keepers.length<=16
 n3:M.gates.length<=60
noncomputable def dj(n:Nat)(bs:List Int):Prop:=n=bs.length/\∀b∈bs,b=0\/b=1
theorem Fm.fit{M:ay}{names:List Str}{bs cs:List Int}(h:Fm M names)(hb:dj M.switches.length bs)(hc:dj M.keepers.length cs):mU M names bs cs:=⟨h.ok,hb.1,hc.1,hb.2,hc.2,h.n1,h.n2,h.n3⟩
theorem Fm.step{M:ay}{names:List Str}{bs cs:List Int}(h:Fm M names)(hb:dj M.switches.length bs)(hc:dj M.keepers.length cs):dj M.keepers.length (iu M bs cs):=⟨zS.symm,(h.fit hb hc).Ij⟩
theorem xA{a b:List (Str×Int)}{n:Str}(h:n∈a.map (·.1)):bw (a++b) n=bw a n:=by
 unfold bw
 rw[adf]
 cases e:a.find? λr=>decide (r.1=n) with
 | some r=>rfl
 | none=>
  obtain⟨r,hr,he⟩:=aai.mp h
  have:=adV.mp e r hr
  exact absurd (aaT he) (by simpa using this)
theorem pP{a b:List (Str×Int)}{n:Str}(h:n∉a.map (·.1)):bw (a++b) n=bw b n:=by
 unfold bw
 rw[adf]
 have e:(a.find? λr=>decide (r.1=n))=none:=adV.mpr λr hr=>by
  simp only[aaV]
  intro q
  exact h (aai.mpr ⟨r,hr,q⟩)
 rw[e]
 rfl
theorem zT:∀{ks:List Str}{cs:List Int}{i:Nat}(h:i<ks.length) (h2:i<cs.length),ks.Nodup->bw (ks.zip cs) ks[i]=cs[i]
 | k::ks,c::cs,0,_,_,_=>by
  unfold bw
  rw[abe,aaD (by simp)]
  rfl
 | k::ks,c::cs,i+1,h,h2,nd=>by
  have hn:¬ k=ks[i]'(by simpa using h):=λe=>(aaU.mp nd).1 (e ▸ abu _)
  have ih:=zT (ks:=ks) (cs:=cs) (i:=i) (by simpa using h) (by simpa using h2) (aaU.mp nd).2
  unfold bw at ih ⊢
  rw[abe,ac6,aaz (by simpa using hn),ih,ac6]
noncomputable abbrev Fv:Stmt:=top 31
noncomputable def BJ(H:Hp)(t:Addr)(bs:List Int):Prop:=H t=some (.tup (bs.map V.int))
inductive DW(K:W.Frag) (vs:List V) (H:Hp) (Q:VK):Prop
 | mk (m a1 a2 a3 a4 a5 a6 st tl:Addr) (M:ay) (names:List Str) (bs cs:List Int) (h1:vs=[.ref m,.ref st,.ref tl]) (h2:cb H m M a1 a2 a3 a4 a5 a6) (h3:mU M names bs cs) (h4:BG K H st cs) (h5:aq K H tl (bs.map V.int)) (h6:∀t H',H t=none->ah H H'->BJ H' t (iu M bs cs)->Q (.ref t) H'):DW K vs H Q
noncomputable def BK(K:W.Frag):Sp:=λvs H Q _=>DW K vs H Q
noncomputable abbrev Z8:List Str:=["_law_m", "_law_stand", "_law_told", "_law_values_here", "_law_nexts"]
theorem QG:(["_law_name", "_law_first", "_law_values_here", "_law_nexts"]:List Str).Nodup:=by decide+kernel
theorem lr{α β γ:Type} {F:α->β->Prop}{g:γ->β} : ∀{us:List α}{l:List γ},Paired F us (l.map g)->Paired (λt r=>F t (g r)) us l
 | [],[],_=>.nil
 | _::_,_::_,.cons h t=>.cons h (lr t)
 | _::_,[],h=>nomatch h
 | [],_::_,h=>nomatch h
theorem bE{α β γ:Type} {F:α->β->Prop}{g:γ->β} : ∀{us:List α}{l:List γ},Paired (λt r=>F t (g r)) us l->Paired F us (l.map g)
 | _,_,.nil=>.nil
 | _,_,.cons h t=>.cons h (bE t)
theorem zU:∀(l:List (Str×Str)) (acc:List (Str×Str)),((acc++l).map (·.1)).Nodup->bA (bo acc) (bo l)=bo (acc++l)
 | [],acc,_=>by rw[abh];rfl
 | r::l,acc,h=>by
  have e:acc++r::l=(acc++[r])++l:=by simp
  have hn:r.1∉acc.map (·.1):=λhm=>by
   rw[aaf]at h
   exact(aaB.mp h).2.2 _ hm _ (by simp) rfl
  have h1:putK (bo acc) (.inr r.1) (.str r.2)=bo (acc++[r]):=by
   rw[qQ _ (Kl hn)]
   unfold bo
   rw[aaf]
   rfl
  show bA (putK (bo acc) (.inr r.1) (.str r.2)) (bo l)=_
  rw[h1,e]
  exact zU l (acc++[r]) (by rw[← e];exact h)
section
variable {P:Program}{w:World}{K:W.Frag}{mg:Str->Option Value}{base:Heap}
theorem Kp:aK Z8 qv (aw Fv):=⟨rfl,rfl,rfl,by decide+kernel,rfl,by decide+kernel,by decide+kernel⟩
theorem Kq{f fV fB:Addr}{fd dV dB:FuncData}(F:aO K "_law_next" "_law_next" Fv f fd)(O2:gw mg)
 (GV:aR P w K mg base aY 2 fV dV qv (oE K)) (mV:mg "_law_values" = some (.ref fV)) (Z9:W.keepIn K (.ref fV)=true) (bV:Binds K dV qv [])
 (GB:aR P w K mg base aY 1 fB dB ["_law_values_here", "_law_literal_here"] qu) (mB:mg "_law_bit" = some (.ref fB)) (kB:W.keepIn K (.ref fB)=true) (bB:Binds K dB ["_law_values_here", "_law_literal_here"] []):aR P w K mg base aY 3 f fd qv (BK K):=by
 refine F.ok Kp (λvs H Q E h=>?_) (λcdv A outer s H vs Q E hr h=>?_)
 . obtain⟨m,a1,a2,a3,a4,a5,a6,st,tl,M,names,bs,cs,rfl,_⟩:=h
   rfl
 . obtain⟨m,a1,a2,a3,a4,a5,a6,st,tl,M,names,bs,cs,rfl,hM,hf,nq,nu,kk⟩:=h
   have hu:=dY hr
   have ef:aW 1 _:=hr.mono (by decide)
   refine⟨_,aj (bz (i:=3) Kp.nd rfl (Or.inr rfl) (aX GV hr rfl mV Z9 bV .nil bJ (aa (pv 0) (aa (pv 1) (aa (pv 2) ag)))))
    (aj (bz (i:=4) Kp.nd rfl (Or.inr rfl) (aJ (bK rfl) (by rfl) O2.dict aaC (aa (aC hu (pv 0) av (λ_ _=>rfl)) ag)))
    (au (aI (aJ nh (by rfl) O2.tuple acu (aa (dZ (N:=["_law_name", "_law_first", "_law_values_here", "_law_nexts"]) (js:=[none,none,some 3,some 4]) (g:=ng K 2 (eO (cv 0) (eO (cv 1) m7))) (by kernel_rfl) rfl (bf (aC hu (pv 0) av (λ_ _=>rfl)))
     (λ_ _ _ _ _ _=>cw rfl (ax (ar (i:=0) QG rfl (Or.inl rfl) (.inr rfl)) (ax (ar (i:=1) QG rfl (Or.inl rfl) (.inr rfl)) bF))) (λ_ _ _ _ _ _=>bb)
     (λ_ _ _ _ _ _=>aX GB ef rfl mB kB bB .nil bJ (aa (pv 2) (aa (vI hu (pv 3) (pv 0) (pv 0) ⟨rfl,rfl,rfl,rfl⟩) ag)))) ag))))),?_⟩
   refine⟨_,rfl,_,rfl,_,rfl,m,a1,a2,a3,a4,a5,a6,st,tl,M,names,bs,cs,rfl,hM,hf,nq,nu,λd H1 hd s1 HH=>?_⟩
   have fU:=hM.same s1
   obtain⟨us,ha,fH⟩:=id fU.nx
   have X7:Paired (λt kv=>H1 t=some (.tup [kV kv.1,kv.2])) us (bo M.nexts):=bE (g:=λr:Str×Str=>((.inr r.1:Key),V.str r.2)) (lr (g:=bq) fH)
   refine⟨_,rfl,m,.ref a4,rfl,a7.k (k:=.inr "nexts") fU.top,a4,us,bo M.nexts,rfl,ha,X7,λe he=>?_⟩
   rw[show bA [] (bo M.nexts)=bo M.nexts from zU M.nexts [] hf.ok.nxd]
   have s2:ah H1 (upd H1 e (.dK (bo M.nexts))):=ah.ao he
   have q2:(upd H1 e (.dK (bo M.nexts))) e=some (.dK (bo M.nexts)):=af
   generalize upd H1 e (.dK (bo M.nexts))=H2 at s2 q2 ⊢
   have jd:=fU.same s2
   have hd2:=s2 _ _ HH
   obtain⟨ws,hb,VO⟩:=id jd.kp
   have Dn:=VO.length
   rw[aaa]at Dn
   have n2:=hf.n2
   have gc:=s1.trans s2
   refine⟨_,rfl,m,.ref a2,rfl,a7.k (k:=.inr "keepers") jd.top,a2,rfl,⟨_,aq.of hb⟩,λD hD=>?_⟩
   refine iW M.keepers.length (λi acc σ H3=>acc=((iu M bs cs).take i).map V.int/\(∃u v,σ=[u,v,some (.ref d),some (.ref e)])/\ah H2 H3) ⟨rfl,⟨none,none,rfl⟩,ah.ao hD⟩ af ?_ ?_
   . rintro acc σ H3 bx ⟨rfl,_,s3⟩
     rw[aa2 (by rw[zS];exact aah _)]at bx
     refine⟨⟨_,aq.of (s3 _ _ hb),by rw[aaa,Dn];exact aah _⟩,D,_,rfl,.inl ⟨aq.of bx,λt ht=>?_⟩⟩
     exact kk t _ (gc.free (s3.free ht)) ((gc.trans s3).trans (ah.ao ht)) af
   . rintro i acc σ H3 hi bx ⟨rfl,⟨u,v,rfl⟩,s3⟩
     obtain⟨t,ht,hT⟩:=ir VO (i:=i) (b:=fg M.keepers[i]) (by rw[aal,aae hi];rfl)
     have ei:(ws.map V.ref)[i]?=some (.ref t):=by rw[aal,ht];rfl
     refine⟨⟨_,_,aq.of (s3 _ _ hb),ei⟩,?_⟩
     rintro x' H' ⟨rfl,gJ⟩
     have ex:=gJ _ (aq.of (s3 _ _ hb))
     rw[ei]at ex
     cases ex
     refine⟨t,_,rfl,aM.of (s3 _ _ hT),rfl,_,_,rfl,_,_,rfl,rfl,xl ?_⟩
     have q3:=s3 _ _ q2
     refine⟨_,rfl,_,rfl,e,rfl,.inl ⟨_,.inl q3⟩,_,rfl,_,rfl,_,a7.k (k:=.inr M.keepers[i].1) q3,?_⟩
     rw[BI]
     refine⟨d,_,_,rfl,.inl (s3 _ _ hd2),hf.next (abu hi),λH4 s4=>?_⟩
     refine⟨_,s4 _ _ bx,?_,dJ hi af ⟨?_,⟨_,_,rfl⟩,?_⟩⟩
     . rw[aaa,aaO]
       exact small (by lia)
     . have e:(iu M bs cs)[i]?=some (eW (cQ M bs cs M.gates.length) (cE M.nexts M.keepers[i].1)):=by
        unfold iu
        rw[aal,aae hi]
        rfl
       rw[abb,e,aaf]
       rfl
     . intro y o hy
       rw[ai (ae hy hD)]
       exact s4 y o (s3 y o hy)
end
end Gen
namespace L2
open PySem PySem.Spec PyProof.Rows
theorem dk [Decidable p] (h:decide p=true:=by decide+kernel):p:=abc h
theorem fs(h:aK N p sc:=by exact⟨rfl,rfl,rfl,by decide+kernel,rfl,by decide+kernel,by decide+kernel⟩):aK N p sc:=h
section
variable {K:W.Frag}{x q:Str}{st:Stmt}{f:Addr}{fd:FuncData}
theorem iw{us:List α}(h:us.length=n+1):∃a t,us=a::t/\t.length=n:=by
 cases us with
 | nil=>cases h
 | cons a t=>exact⟨a,t,rfl,Nat.succ.inj h⟩
theorem aO.b1{p:Str}(F:aO K x q st f fd) (h:∀(kV doc pm:Value) (an:Option Addr) (cdv ct a:Value),bindArgs (W.fnOf x q (jE st) (c8 st) (aw st) .none kV doc pm an cdv ct) ⟨[a],[]⟩=pure [(p,a)]:=by intros;rfl):Binds K fd [p] []:=F.binds λkV doc pm an cdv ct us hl=>by obtain⟨a,t0,rfl,h0⟩:=iw hl;cases abi.mp h0;exact h kV doc pm an cdv ct a
theorem aO.b2{p p2:Str}(F:aO K x q st f fd) (h:∀(kV doc pm:Value) (an:Option Addr) (cdv ct a b:Value),bindArgs (W.fnOf x q (jE st) (c8 st) (aw st) .none kV doc pm an cdv ct) ⟨[a,b],[]⟩=pure [(p,a),(p2,b)]:=by intros;rfl):Binds K fd [p,p2] []:=F.binds λkV doc pm an cdv ct us hl=>by obtain⟨a,t0,rfl,h0⟩:=iw hl;obtain⟨b,t1,rfl,h1⟩:=iw h0;cases abi.mp h1;exact h kV doc pm an cdv ct a b
theorem aO.b3(F:aO K x q st f fd) (h:∀(kV doc pm:Value) (an:Option Addr) (cdv ct a b c:Value),bindArgs (W.fnOf x q (jE st) (c8 st) (aw st) .none kV doc pm an cdv ct) ⟨[a,b,c],[]⟩=pure [(p,a),(p2,b),(p3,c)]:=by intros;rfl):Binds K fd [p,p2,p3] []:=F.binds λkV doc pm an cdv ct us hl=>by obtain⟨a,t0,rfl,h0⟩:=iw hl;obtain⟨b,t1,rfl,h1⟩:=iw h0;obtain⟨c,t2,rfl,h2⟩:=iw h1;cases abi.mp h2;exact h kV doc pm an cdv ct a b c
theorem aO.b4(F:aO K x q st f fd) (h:∀(kV doc pm:Value) (an:Option Addr) (cdv ct a b c d:Value),bindArgs (W.fnOf x q (jE st) (c8 st) (aw st) .none kV doc pm an cdv ct) ⟨[a,b,c,d],[]⟩=pure [(p,a),(p2,b),(p3,c),(p4,d)]:=by intros;rfl):Binds K fd [p,p2,p3,p4] []:=F.binds λkV doc pm an cdv ct us hl=>by obtain⟨a,t0,rfl,h0⟩:=iw hl;obtain⟨b,t1,rfl,h1⟩:=iw h0;obtain⟨c,t2,rfl,h2⟩:=iw h1;obtain⟨d,t3,rfl,h3⟩:=iw h2;cases abi.mp h3;exact h kV doc pm an cdv ct a b c d
theorem aO.b7(F:aO K x q st f fd) (h:∀(kV doc pm:Value) (an:Option Addr) (cdv ct a b c d e g i:Value),bindArgs (W.fnOf x q (jE st) (c8 st) (aw st) .none kV doc pm an cdv ct) ⟨[a,b,c,d,e,g,i],[]⟩=pure [(p,a),(p2,b),(p3,c),(p4,d),(p5,e),(p6,g),(p7,i)]:=by intros;rfl):Binds K fd [p,p2,p3,p4,p5,p6,p7] []:=F.binds λkV doc pm an cdv ct us hl=>by obtain⟨a,t0,rfl,h0⟩:=iw hl;obtain⟨b,t1,rfl,h1⟩:=iw h0;obtain⟨c,t2,rfl,h2⟩:=iw h1;obtain⟨d,t3,rfl,h3⟩:=iw h2;obtain⟨e,t4,rfl,h4⟩:=iw h3;obtain⟨g,t5,rfl,h5⟩:=iw h4;obtain⟨i,t6,rfl,h6⟩:=iw h5;cases abi.mp h6;exact h kV doc pm an cdv ct a b c d e g i
structure cc(P:Program) (w:World) (K:W.Frag) (mg:Str->Option Value) (base:Heap) (k:Nat) (f:Addr) (d:FuncData) (x:Str) (ps:List Str) (sp:Sp):Prop where
 g:aR P w K mg base aY k f d ps sp
 m:mg x=some (.ref f)
 k:W.keepIn K (.ref f)=true
 b:Binds K d ps []
end
section
variable {X:Cx}{k:Nat}{f C:Addr}{fd:FuncData}{ps:List Str}{sp:Sp}{x m:Str}{p pos apos:Pos}{e o:Expr}{es:List Expr}{ta:TE}{t:TA}
theorem aV(F:cc X.prog X.w X.K X.mg X.base k f fd x ps sp)(hr:aW k X.A) (ha:PA X (e::es) t) (hg:Gl X x:=by rfl) (hx:Passes aY X E0:=by exact bJ) (oh:(x == ("__debug__" : Str))=false:=by decide) (he:starEach (e::es) X.env=(false,eval e X.env)::starEach es X.env:=by rfl) (gU:(backTo pos (starEach es X.env)).any (·.1)=false:=by rfl) :
 PE X (.Call (.Name x p) (e::es) [] pos) (qP sp [] E0 t):=aX F.g hr hg F.m F.k F.b .nil hx ha oh he gU
end
section
variable {X:Cx}{k:Nat}{f C:Addr}{fd:FuncData}{ps:List Str}{sp:Sp}{x m:Str}{p pos pos' apos:Pos}{e o:Expr}{es:List Expr}{ta te:TE}{t:TA}
theorem dQ(i:Nat)(hN:X.N.Nodup)(he:PE X e te)(hi:X.N[i]?=some x:=by rfl)(hx:Loc X.env.scope x:=by first|exact Or.inl rfl|exact Or.inr rfl) (hs:swapsWith e (some (.Name x pos')) pos.line X.env=pure false:=by rfl) (hf:X.fn x=true\/X.env.scope.names.lookup x=some .local:=by first|exact .inl rfl|exact .inr rfl|assumption) :
 PS X (.Assign [.Name x pos'] e pos) (sD te (cv i)):=bz hN hi hx he hs hf
end
theorem i7{CX:oa}{P:Program}{w:World}{K:W.Frag}{mg:Str->Option Value}{base:Heap}{N:List Str}{q:Str}{sc:Scope}{f:Addr}{cd:Value}{A:Around}{outer:List Env}{s:Shared}{H:Hp}{E:XK} : (jj CX P w K mg base N q sc f cd A outer s H E).kz.K=K:=rfl
theorem jq{α:Type}{t:Sem α}{Q Q':α->Shared->Prop}{M:Model}{A:Around}{E:Value->Shared->Prop}{s:Shared}(h:wpAny M A t Q E s)(h0:1<=s.toks)(hQ:∀a s,1<=s.toks->Q a s->Q' a s):wpAny M A t Q' E s:=aD (wpAny_toks 1 h0 h) λa s z=>hQ a s z.2 z.1
section
variable {X:Cx}
noncomputable def t8(X:Cx)(st:Stmt)(t:TS):Prop:=∀(pins:List (Addr×Obj)) (s:Shared) (σ:St) (H:Hp) (D:Ends),1<=s.toks->Inv X pins σ H s->t D σ H->wpAny (model X.prog X.w) X.A (exec st X.env) (SP X pins D) X.xe s
noncomputable def lu(X:Cx)(st:List Stmt)(t:TS):Prop:=∀(pins:List (Addr×Obj)) (s:Shared) (σ:St) (H:Hp) (D:Ends),1<=s.toks->Inv X pins σ H s->t D σ H->wpAny (model X.prog X.w) X.A (execs st X.env) (SP X pins D) X.xe s
theorem PS.t{st:Stmt}{t:TS}(h:PS X st t):t8 X st t:=λpins s σ H D _ I q=>h pins s σ H D I q
theorem gj.t{st:List Stmt}{t:TS}(h:gj X st t):lu X st t:=λpins s σ H D _ I q=>h pins s σ H D I q
theorem cf{st:Stmt}{rest:List Stmt}{t u:TS}(h1:t8 X st t)(h2:lu X rest u):lu X (st::rest) (Jw t u):=by
 intro pins s σ H D h0 I h
 refine acM (jq (h1 pins s σ H {D with nx:=u D} h0 I h) h0 λf s1 t1 q=>?_)
 cases f with
 | next=>
  obtain⟨br,H',I',q⟩:=q
  exact h2 pins s1 br H' D t1 I' q
 | ret v=>exact q
 | brk=>exact q
 | cont=>exact q
theorem j3{st:Stmt}{t:TS}(h1:t8 X st t):lu X [st] t:=by
 intro pins s σ H D h0 I h
 refine acM (aD (h1 pins s σ H D h0 I h) λf s1 q=>?_)
 cases f with
 | next=>exact acA q
 | ret v=>exact q
 | brk=>exact q
 | cont=>exact q
theorem NH{tg e:Expr}{te:TE}{g:TG}{pos:Pos}(he:lq X e te)(hg:PG X tg g)(hs:swapsWithSole [tg] e pos.line X.env=pure false:=by rfl)(hw:swappedStores [tg] e X.env=pure none:=by rfl)
 (h1:(assignEach [tg] X.env).map (·.2)=[assign tg X.env]:=by rfl):t8 X (.Assign [tg] e pos) (sD te g):=by
 intro pins s σ H D h0 I h
 refine wpAny_Assign_stores (aD (he pins s σ H _ I h0 h) λv s1 ⟨x,H1,I1,r1,q1⟩=>?_) hs hw
 rw[h1]
 exact aD (hg pins s1 σ H1 x v _ I1 r1 q1) λ_ s2 q=>q
theorem qw{i:Nat}{x:Str}{e:Expr}{te:TE}{pos' pos:Pos}(hN:X.N.Nodup)(hi:X.N[i]?=some x)(hx:Loc X.env.scope x)(he:lq X e te) (hs:swapsWith e (some (.Name x pos')) pos.line X.env=pure false:=by rfl) (hf:X.fn x=true\/X.env.scope.names.lookup x=some .local:=by first|exact .inl rfl|exact .inr rfl|assumption) :
 t8 X (.Assign [.Name x pos'] e pos) (sD te (cv i)):=by
 intro pins s σ H D h0 I h
 refine ad2 (aD (he pins s σ H _ I h0 h) λv s1 ⟨y,H1,I1,r1,q1⟩=>?_) hs
 exact qO I1 hN hi hx r1 (λs2 I2=>⟨_,H1,I2,q1⟩) hf
theorem BL{o i value:Expr}{td ty tv:TE}{pos pos':Pos}(hu:X.A.units+1<cLine)(ho:PE X o td)(hi:PE X i ty)(hv:lq X value tv) (hs:swapsWith value (some (.Subscript o i pos')) pos.line X.env=pure false) :
 t8 X (.Assign [.Subscript o i pos'] value pos) (Ly td ty tv):=by
 intro pins s σ H D h0 I h
 refine wpAny_Assign_Subscript (aD (hv pins s σ H _ I h0 h) λr s1 ⟨v,H1,I1,rv,q1⟩=>aD (ho pins s1 σ H1 _ I1 q1) λu s2 ⟨x,H2,I2,rx,q2⟩=>aD (hi pins s2 σ H2 _ I2 q2) λiv s3 ⟨y,H3,I3,ry,a,H4,ex,g,q3⟩=>?_) hs
 subst ex
 obtain rfl:u=Value.ref a:=rx
 exact zj hu I3 g ry rv λs4 I4=>⟨σ,H4,I4,q3⟩
theorem DX{e:Expr}{te:TE}{pos:Pos}(he:lq X e te):t8 X (.Return (some e) pos) (OL te):=by
 intro pins s σ H D h0 I h
 exact wpAny_Return_some (aD (he pins s σ H _ I h0 h) λv s1 ⟨x,H1,I1,r1,q1⟩=>⟨x,σ,H1,I1,r1,q1⟩)
theorem qx{tg iter:Expr}{body:List Stmt}{wi:TI}{g:TG}{tb:TS}{pos:Pos}(hp:PassesOwn (model X.prog X.w) X.A X.env X.xe) (hc:X.calm=true) (hi:PI X tg iter wi) (hg:PG X tg g) (hb:lu X body tb)
 (hs:∀x,foldedSetIterable iter X.env x=pure x:=by intro _;rfl):t8 X (.For tg iter body [] pos) (OO wi g tb):=by
 intro pins s σ H D h0 I h
 refine wpAny_For (jq (hi pins s σ H _ I h) h0 λv s1 t1 h1=>jq h1 t1 λGj s2 t2 h2=>?_) hs
 obtain⟨it,fp,tn,J,H2,e,I2,T,jI,f2,W,⟨m0,w0⟩,turn⟩:=h2
 subst e
 have vG:∀{H':Hp},(∀b∈fp,H' b=none)->∀b∈fp,iU X pins H' b:=λhn b hb=>⟨hn b hb,(f2 b hb).2⟩
 refine codeAny_forLoop_any (λn s'=>∃i br H',1<=s'.toks/\Inv X pins br H' s'/\tn i s'.heap/\(∀b∈fp,H' b=none)/\W i n br H') ?_ m0 ⟨0,σ,H2,t2,I2,jI,λb hb=>(f2 b hb).1,w0⟩
 rintro n s3 ⟨i,sE,H3,t3,I3,Gn,Gp,w3⟩
 rcases turn i n sE H3 w3 with⟨stop,qn⟩|⟨go,N,hN,step⟩
 . refine abw hp (aD (T.done X rfl rfl rfl hc i pins s3 sE H3 X.xe I3 (vG Gp) Gn stop) λr s4 ⟨hr,I4⟩=>?_)
   subst hr
   exact acA ⟨sE,H3,I4,qn⟩
 . refine abw hp (jq (T.item X rfl rfl rfl hc i pins s3 sE H3 X.xe I3 (vG Gp) Gn go) t3 λr s4 t4 zq=>?_)
   obtain⟨u,hr,h4⟩:=zq
   subst hr
   refine abw hp (jq h4 t4 λ_ s5 t5 zq=>?_)
   obtain⟨x,H5,I5,r5,y5,pZ,wt⟩:=zq
   have OP:=I5.pinned (vG wt) (T.obj _ _ pZ)
   refine abw hp (jq (hg _ s5 sE H5 x u _ OP r5 (step x H5 y5)) t5 λ_ s6 t6 zq=>?_)
   obtain⟨Xt,H6,I6,q6⟩:=zq
   refine abw hp (jq (hb _ s6 Xt H6 _ t6 I6 q6) t6 λf s7 t7 q7=>?_)
   have again:∀{nY:St}{H7:Hp},Inv X (pins++nX fp s5.heap) nY H7 s7->N nY H7->∃m,m<n/\∃i br H',1<=s7.toks/\Inv X pins br H' s7/\tn i s7.heap/\(∀b∈fp,H' b=none)/\W i m br H':=λ{nY H7} I7 n7=>by
    obtain⟨m',hm,w7⟩:=hN nY H7 n7
    refine⟨m',hm,i+1,nY,H7,t7,I7.jh,T.keep _ _ _ pZ λb hb o e=>(I7.pin (b,o) (aaG _ (aaG _ (hX hb e)))).1,λb hb=>?_,w7⟩
    obtain⟨o,e,d⟩:=T.obj _ _ pZ b hb
    exact(I7.pin (b,o) (aaG _ (aaG _ (hX hb e)))).2.1
   cases f with
   | next=>obtain⟨nY,H7,I7,n7⟩:=q7;exact again I7 n7
   | cont=>obtain⟨nY,H7,I7,n7⟩:=q7;exact again I7 n7
   | brk=>obtain⟨nY,H7,I7,q7⟩:=q7;exact⟨nY,H7,I7.jh,q7⟩
   | ret v=>obtain⟨x7,nY,H7,I7,r7,q7⟩:=q7;exact⟨x7,nY,H7,I7.jh,r7,q7⟩
end
structure ly(P:Program) (w:World) (K:W.Frag) (mg:Str->Option Value) (base:Heap) (CX:oa) (k:Nat) (f:Addr) (fd:FuncData) (ps:List Str) (sp:Sp):Prop where
 len:∀vs H Q E,sp vs H Q E->vs.length=ps.length
 run:∀(A:Around) (outer:List Env) (s:Shared) (H:Hp) (args:Args) (us:List Value) (vs:List V) (Q:VK) (E:XK),1<=s.toks->aW k A->og P w K mg base A outer s H->BindsTo s fd args (ps.zip us)->Vals vs us->sp vs H Q E->
  codeAny (model P w) A (.call (.ref f) args) (CR CX outer P w H s Q E) s
section
variable {X:Cx}{CX:oa}{k:Nat}{f:Addr}{fd:FuncData}{ps:List Str}{sp:Sp}{jJ:List V}{ds:List Value}{E:XK}{x:Str}{p pos apos:Pos}{e o:Expr}{es:List Expr}{ta:TE}{t:TA}
theorem NI{pins:List (Addr×Obj)}{σ:St}{H:Hp}{s:Shared}{Q:VK}{us:List Value}{vs:List V}(h0:1<=s.toks) (F:ly X.prog X.w X.K X.mg X.base CX k f fd ps sp) (hr:aW k X.A) (hb:Binds X.K fd ps ds) (hd:Vals jJ ds) (hx:Passes CX X E)
 (I:Inv X pins σ H s) (r:Vals vs us) (h:sp (vs++jJ) H Q E):wpAny (model X.prog X.w) X.A (call (.ref f) us) (EP X pins σ Q) X.xe s:=by
 have r2:Vals (vs++jJ) (us++ds):=r.append hd
 have hl:(us++ds).length=ps.length:=by rw[← r2.length];exact F.len _ _ _ _ h
 refine wpAny_call (adR (F.run X.A X.stack s H ⟨us,[]⟩ (us++ds) (vs++jJ) Q E h0 hr I.JI (hb s us I.i0 hl) r2 h) λr s' hq=>?_)
 cases r with
 | error e=>exact hx pins σ H s e s' I hq
 | ok fl=>
  cases fl with
  | ret u=>exact I.after hq
  | next=>exact False.elim hq
  | brk=>exact False.elim hq
  | cont=>exact False.elim hq
theorem Kr(F:ly X.prog X.w X.K X.mg X.base CX k f fd ps sp)(hr:aW k X.A)(hg:Gl X x) (hm:X.mg x=some (.ref f)) (hk:W.keepIn X.K (.ref f)=true) (hb:Binds X.K fd ps ds) (hd:Vals jJ ds) (hx:Passes CX X E)
 (ha:PA X (e::es) t) (oh:(x == ("__debug__" : Str))=false:=by decide) (he:starEach (e::es) X.env=(false,eval e X.env)::starEach es X.env:=by rfl) (gU:(backTo pos (starEach es X.env)).any (·.1)=false:=by rfl) :
 lq X (.Call (.Name x p) (e::es) [] pos) (qP sp jJ E t):=by
 intro pins s σ H Q I h0 h
 refine abA (pV I hg hm ?_ oh)
 refine aeG (h₀:=X.base) I.ok.mod.kin hk (jq (ha pos pins s σ H _ I h) h0 λus s1 t1 ⟨vs,H1,I1,r,q⟩=>⟨I1.i0,?_⟩) he gU
 exact NI t1 F hr hb hd hx I1 r q
end
theorem QH{CX:oa}{P:Program}{w:World}{K:W.Frag}{mg:Str->Option Value}{base:Heap}{k:Nat}{f:Addr}{name qual:Str}{params:Arguments}{body:List Stmt}{scope:Scope}{dV kV doc pm cdv ct oc:Value}{an od:Option Addr}
 {sL:Array (Option Value)}{N ps:List Str}{sp:Sp}(lk:K.lookup f=some ⟨oc,od,.func (W.fnOf name qual params body scope dV kV doc pm an cdv ct),sL⟩) (mx:W.codeIn K cdv qual=true) (S:aK N ps scope)
 (len:∀vs H Q E,sp vs H Q E->vs.length=ps.length)
 (kF:∀(A:Around) (outer:List Env) (s:Shared) (H:Hp) (vs:List V) (Q:VK) (E:XK),aW k (A.deeper (envOfC qual scope s.heap.objs.size f cdv))->sp vs H Q E->
  ∃t,lu (jj CX P w K mg base N qual scope f cdv A outer s H E) body t/\t {nx:=λ_ H'=>Q .aH H',rt:=Q} (start N vs) H) :
 ly P w K mg base CX (k+1) f (W.fnOf name qual params body scope dV kV doc pm an cdv ct) ps sp:=by
 refine⟨len,λA outer s H args us vs Q E h0 hr e0 hb r mz=>?_⟩
 have hl:=len _ _ _ _ mz
 have KX:K.In s.heap:=e0.mod.kin.keeps λb o e=>(e0.bs b o e).1
 have lim:s.heap.NoLimit:=e0.mod.nolimit.keeps λb o e=>(e0.bs b o e).1
 have EE:∀y∈ps.zip us,scope.names.lookup y.1=some .local\/(scope.names.lookup y.1=some .cell/\((cellsFrom (s.heap.objs.size+1) scope.names []).lookup y.1).isSome=true):=λ⟨n,v⟩ hy=>by
  rcases S.par n (abE hy).1 with q|q
  . exact .inl q
  . exact .inr ⟨q,aej _ _ _ (.inl q)⟩
 refine codeAny_call_function hr.depth (KX _ _ lk) rfl S.co S.gen rfl (W.codeRec_of KX mx) (hb _ _ _ _ ?_)
 refine jq (adO S.kind EE λenv he s1 x=>And.intro he x) h0 λenv s1 t1 hx=>?_
 obtain⟨he,x⟩:=hx
 subst he
 refine⟨lim.keeps x.toInCall.keep,codeAny_func ?_⟩
 obtain⟨t,ht,hq⟩:=kF A outer s H vs Q E (hr.deeper _) mz
 have I:Inv (jj CX P w K mg base N qual scope f cdv A outer s H E) [] (start N vs) H s1:=zg S hr.hd e0 hl r x
 refine abG (ht [] s1 (start N vs) H _ t1 I hq) (λfl s' hs=>?_) λe s' hs=>hs
 have fin:∀{br:St}{H':Hp}{v:V}{u:Value},Inv (jj CX P w K mg base N qual scope f cdv A outer s H E) [] br H' s'->RelV v u->Q v H'->CE outer P w H s Q u s':=
  λ{br H' v u} J rv q=>⟨v,H',J.os,J.bare,J.base,J.hok,rv,q⟩
 cases fl with
 | ret u=>
  obtain⟨v,br,H',J,rv,q⟩:=hs
  exact fin J rv q
 | next=>
  obtain⟨br,H',J,q⟩:=hs
  exact fin (v:=V.aH) (u:=Value.none) J rfl q
 | brk=>
  obtain⟨_,_,_,q⟩:=hs
  exact False.elim q
 | cont=>
  obtain⟨_,_,_,q⟩:=hs
  exact False.elim q
section
variable {X:Cx}
theorem Mj:∀{kvs:List (Key×V)}{vs:List (Key×Value)}{k:Key}{v:V},KV kvs vs->(kvs.map (·.1)).Nodup->(k,v)∈kvs->∃u,valueAt vs k=some u/\RelV v u
 | _,_,_,_,.nil,_,h=>nomatch h
 | kv::_,q::_,k,v,.cons ⟨e1,e2⟩ r,hn,h=>by
  rw[aas,aaU]at hn
  unfold valueAt
  rcases aan.mp h with e|e
  . have ek:q.1=k:=by rw[← e1,← e]
    rw[aaD (by simpa using ek)]
    exact⟨q.2,rfl,by rw[← e]at e2;exact e2⟩
  . have ek:¬ q.1=k:=λz=>hn.1 (aai.mpr ⟨(k,v),e,by rw[e1];exact z.symm⟩)
    rw[aaz (by simpa using ek)]
    exact Mj r hn.2 e
end
noncomputable def rev:Nat->Nat->Nat
 | 0,_=>0
 | k+1,i=>(i % 2)*2 ^ k+rev k (i / 2)
noncomputable def cB(k i j:Nat):Bool:=Nat.blt (rev k i) (rev k j)
section
variable {prog:Program}{w:World}{A:Around}{E:Value->Shared->Prop}{s:Shared}{κ:SortKind}{it:Nat->Keyed}{N:Nat}{c:Nat->Nat->Bool}{p:Array Nat}{pd:Array (Nat×Nat×Nat)}
end
section
variable {prog:Program}{w:World}{A:Around}{E:Value->Shared->Prop}{s:Shared}{κ:SortKind}{it:Nat->Keyed}{N:Nat}{c:Nat->Nat->Bool}{X Y:Array Nat}{n:Nat}
end
section
variable {prog:Program}{w:World}{A:Around}{E:Value->Shared->Prop}{s:Shared}{κ:SortKind}{it:Nat->Keyed}{N:Nat}{c:Nat->Nat->Bool}{p:Array Nat}{n:Nat}
end
end L2
namespace L2
open PySem PySem.Spec PyProof.Rows PySem.W
noncomputable def BJ(h:Heap)(v:Value)(ns:List Int):Prop:=∃a o xs n,v=.ref a/\h.get? a=some o/\o.cls=.type "tuple" /\ o.data=.seq xs n/\IntsAre xs.toList ns
theorem BJ.keep{h h':Heap}{v:Value}{ns:List Int}(x:BJ h v ns)(k:∀a o xs n,h.get? a=some o->o.cls=.type "tuple" -> o.data=.seq xs n->h'.get? a=some o):BJ h' v ns:=by
 obtain⟨a,o,xs,n,e,h1,h2,h3,h4⟩:=x
 exact⟨a,o,xs,n,e,k a o xs n h1 h2 h3,h2,h3,h4⟩
section
variable {prog:Program}{w:World}{A:Around}{E:Value->Shared->Prop}{s:Shared}{Q:Bool->Shared->Prop}
end
section
variable {prog:Program}{w:World}{A:Around}{E:Value->Shared->Prop}{s:Shared}
end
section
variable {prog:Program}{w:World}
end
section
variable {X:Cx}
end
section
variable {prog:Program}{w:World}{A:Around}{E:Value->Shared->Prop}{s:Shared}
end
theorem vY:∀{b c:List Int},b.map V.int=c.map V.int->b=c
 | [],[],_=>rfl
 | [],_::_,h=>nomatch h
 | _::_,[],h=>nomatch h
 | x::b,y::c,h=>by
  rw[aas,aas]at h
  have h1:=List.cons.inj h
  rw[V.int.inj h1.1,vY h1.2]
section
variable {X:Cx}
open Classical in
noncomputable def X8(K:W.Frag):R2:=λx y H Q=>∃(t p:Addr) (b:List Int) (ts:List Addr) (bs:List (List Int)),x=.ref t/\y=.ref p/\aM K H t (b.map V.int)/\aq K H p (ts.map V.ref)/\Paired (λt b=>aM K H t (b.map V.int)) ts bs/\Q (.bl (decide (b∈bs))) H
theorem NJ{A:Around}{pins:List (Addr×Obj)}{σ:St}{H:Hp}{s:Shared}(I:Inv X pins σ H s) (hu:A.units+1<cLine){t u:Addr}{b c:List Int}(ht:aM X.K H t (b.map V.int)) (VP:aM X.K H u (c.map V.int)):SeqAt.EqAt A s (.ref t) (.ref u) (decide (b=c)):=by
 by_cases e:t=u
 . subst e
   have e2:b=c:=vY (I.sC ht VP)
   rw[aaT e2]
   exact SeqAt.EqAt.same _
 . refine SeqAt.EqAt.of_refs e ?_
   obtain⟨its,rv,pl,_⟩:=I.tuple ht
   obtain⟨its',LY,pl',_⟩:=I.tuple VP
   have l1:=rv.length
   have l2:=LY.length
   rw[aaa]at l1 l2
   have key:=SeqAt.RcAt.tuples (A:=A) (s:=s) (e:=λj=>decide (b.getD j 0=c.getD j 0)) pl pl' (by omega) (λj g1 g2=>?_)
   . have e3:((List.range (min its.toArray.size its'.toArray.size)).all (λj=>decide (b.getD j 0=c.getD j 0)) && its.toArray.size == its'.toArray.size)=decide (b=c):=by
      rw[abx,abg,aaV,abP]
      simp only[aaw,adB,adg,aaV]
      constructor
      . rintro⟨h1,h2⟩
        apply List.ext_getElem (by omega)
        intro i g1 g2
        have:=h1 i (by omega)
        simpa[g1,g2]using this
      . rintro rfl
        exact⟨λ_ _=>rfl,by omega⟩
     rw[← e3]
     exact key
   . simp only[aaw]at g1 g2
     have hj:j<b.length:=by omega
     have VQ:j<c.length:=by omega
     obtain⟨w1,e1,r1⟩:=rv.get (x:=.int b[j]) (by rw[aal,aae hj];rfl)
     obtain⟨w2,e2,r2⟩:=LY.get (x:=.int c[j]) (by rw[aal,aae VQ];rfl)
     have z:=wD (A:=A.in1) (s:=s) r1 r2 rfl rfl
     have a1:its.toArray[j]=w1:=by
      have:=(aaq.mp e1).2
      simpa using this
     have a2:its'.toArray[j]=w2:=by
      have:=(aaq.mp e2).2
      simpa using this
     rw[a1,a2]
     have e4:mE (.int b[j]) (.int c[j])=decide (b.getD j 0=c.getD j 0):=by
      simp[mE,hj,VQ]
      rfl
     rw[← e4]
     exact z
theorem BM{A:Around}{pins:List (Addr×Obj)}{σ:St}{H:Hp}{s:Shared}(I:Inv X pins σ H s) (hu:A.units+1<cLine){t:Addr}{b:List Int}(ht:aM X.K H t (b.map V.int)) (f:Value->Bool) (hf:∀u c,aM X.K H u (c.map V.int)->f (.ref u)=decide (c=b)):∀{ts:List Addr}{vs:List Value}{bs:List (List Int)},Vals (ts.map V.ref) vs->Paired (λt b=>aM X.K H t (b.map V.int)) ts bs->(∀v∈vs,SeqAt.EqAt A s v (.ref t) (f v))/\vs.any f=bs.any λc=>decide (c=b)
 | [],vs,_,r,.nil=>by
  rw[abY]at r
  cases r
  exact⟨(λ_ h=>nomatch h),rfl⟩
 | u::ts,vs,c::bs,r,.cons h p=>by
  rw[aas]at r
  cases r with
  | cons r1 r2=>
   cases r1
   obtain⟨h1,h2⟩:=BM I hu ht f hf r2 p
   refine⟨λv hv=>?_,?_⟩
   . rcases aan.mp hv with rfl|hv
     . rw[hf u c h]
       exact NJ I hu h ht
     . exact h1 v hv
   . rw[acF,acF,h2,hf u c h]
open Classical in
theorem aab(hu:X.A.units+2<cLine):iP X (compareOp .In) (X8 X.K):=by
 intro pins s σ H x y v u Q I rx ry h
 obtain⟨t,p,b,ts,bs,rfl,rfl,ht,hp,hb,q⟩:=h
 cases(show v=Value.ref t from rx)
 cases(show u=Value.ref p from ry)
 obtain⟨its,rv,pl,hz⟩:=I.list hp
 have hf:∀u c,aM X.K H u (c.map V.int)->(λv:Value=>decide (∃u,v=.ref u/\aM X.K H u (b.map V.int))) (.ref u)=decide (c=b):=λu c hc=>by
  show decide _=decide _
  congr 1
  refine propext ⟨?_,?_⟩
  . rintro⟨u',e,h'⟩
    cases e
    exact vY (I.sC hc h')
  . rintro rfl
    exact⟨u,rfl,hc⟩
 obtain⟨m1,m2⟩:=BM (A:=X.A.in1) I (by show X.A.in1.units+1<cLine;exact hu) ht (λv:Value=>decide (∃u,v=.ref u/\aM X.K H u (b.map V.int))) hf rv hb
 refine aeK _ pl.isList (λw hw=>m1 w (by simpa using hw)) ⟨.bl _,H,I,rfl,?_⟩
 have e:its.toArray.any (λv:Value=>decide (∃u,v=.ref u/\aM X.K H u (b.map V.int)))=decide (b∈bs):=by
  rw[show its.toArray.any (λv:Value=>decide (∃u,v=.ref u/\aM X.K H u (b.map V.int)))=its.any (λv:Value=>decide (∃u,v=.ref u/\aM X.K H u (b.map V.int))) by simp,m2,abx,acO,aaV]
  constructor
  . rintro⟨c,hc,e⟩
    exact abc e ▸ hc
  . intro h
    exact⟨b,h,by simp⟩
 rw[e]
 exact q
end
end L2
namespace L2
open PySem PySem.Spec PyProof.Rows
mutual
inductive Dp(K:W.Frag) (H:Hp):V->PyData->Prop
 | aH:Dp K H .aH .none
 | bl (b):Dp K H (.bl b) (.bool b)
 | int (i):Dp K H (.int i) (.int i)
 | str (x):Dp K H (.str x) (.str x)
 | lst {a xs ds} : aq K H a xs->jT K H xs ds->Dp K H (.ref a) (.list ds)
 | tup {a xs ds} : aM K H a xs->jT K H xs ds->Dp K H (.ref a) (.tuple ds)
inductive jT(K:W.Frag) (H:Hp):List V->List PyData->Prop
 | nil:jT K H [] []
 | cons {x d xs ds} : Dp K H x d->jT K H xs ds->jT K H (x::xs) (d::ds)
end
section
variable {X:Cx}{pins:List (Addr×Obj)}{σ:St}{H:Hp}{s:Shared}
mutual
theorem Dp.reads(I:Inv X pins σ H s):∀{x:V}{d:PyData},Dp X.K H x d->∀{v:Value},RelV x v->∃as,Reads s.heap v d as
 | _,_,.aH,v,r=>by cases(show v=Value.none from r);exact⟨_,.none⟩
 | _,_,.bl b,v,r=>by cases(show v=Value.bool b from r);exact⟨_,.bool b⟩
 | _,_,.int i,v,r=>by obtain⟨t,rfl⟩:=r;exact⟨_,.int i t⟩
 | _,_,.str x,v,r=>by obtain⟨t,rfl⟩:=r;exact⟨_,.str x t⟩
 | _,_,.lst (a:=a) h1 h2,v,r=>by
  cases(show v=Value.ref a from r)
  obtain⟨its,rv,⟨o,n,e,c,dn,dt⟩,_⟩:=I.list h1
  obtain⟨as,ra⟩:=jT.reads I h2 rv
  exact⟨_,.list e c dt ra⟩
 | _,_,.tup (a:=a) h1 h2,v,r=>by
  cases(show v=Value.ref a from r)
  obtain⟨its,rv,⟨o,e,c,n,dt⟩,_⟩:=I.tuple h1
  obtain⟨as,ra⟩:=jT.reads I h2 rv
  exact⟨_,.tuple e c dt ra⟩
theorem jT.reads(I:Inv X pins σ H s):∀{xs:List V}{ds:List PyData},jT X.K H xs ds->∀{vs:List Value},Vals xs vs->∃as,ReadsAll s.heap vs ds as
 | _,_,.nil,_,.nil=>⟨_,.nil⟩
 | _,_,.cons h1 h2,_,.cons r1 r2=>by
  obtain⟨as,ra⟩:=Dp.reads I h1 r1
  obtain⟨bs,rb⟩:=jT.reads I h2 r2
  exact⟨_,.cons ra rb⟩
end
theorem jT.get{K:W.Frag}{H:Hp} : ∀{xs:List V}{ds:List PyData}{i:Nat}{d:PyData},jT K H xs ds->ds[i]?=some d->∃x,xs[i]?=some x/\Dp K H x d
 | _,_,_,_,.nil,e=>by simp at e
 | _,_,0,_,.cons h _,e=>by simp at e;subst e;exact⟨_,rfl,h⟩
 | _,_,i+1,_,.cons _ t,e=>by
  obtain⟨x,h1,h2⟩:=jT.get (i:=i) t (by simpa using e)
  exact⟨x,by simpa using h1,h2⟩
theorem BN{K:W.Frag}{H:Hp}{α:Type}{f:α->PyData} : ∀{us:List Addr}{l:List α},Paired (λu a=>Dp K H (.ref u) (f a)) us l->jT K H (us.map V.ref) (l.map f)
 | _,_,.nil=>.nil
 | _,_,.cons h t=>.cons h (BN t)
theorem rE{K:W.Frag}{H:Hp} : ∀(ns:List Str),jT K H (ns.map V.str) (ns.map PyData.str)
 | []=>.nil
 | n::ns=>.cons (.str n) (rE ns)
noncomputable abbrev dT(b:List Int):PyData:=.tuple (b.map PyData.int)
theorem yr(h:∀d∈l,d.canLay0=true):PyData.canLayAll0 l=true:=by
 induction l with
 | nil=>rfl
 | cons d l ih=>rw[PyData.canLayAll0,h d aaX,ih λe he=>h e (aaL _ he)];rfl
theorem yt(h:∀d∈l,d.depth<=n):PyData.depthAll l<=n:=by
 induction l with
 | nil=>exact abQ _
 | cons d l ih=>rw[PyData.depthAll];exact Nat.max_le.mpr ⟨h d aaX,ih λe he=>h e (aaL _ he)⟩
noncomputable def Ml(K:W.Frag)(n:Nat)(f:PyData->PyData->Bool):R2:=λx y H Q=>∃da db,Dp K H x da/\Dp K H y db/\da.canLay0=true/\db.canLay0=true/\min da.depth db.depth<=n/\Q (.bl (f da db)) H
theorem NK(hu:X.A.units+n<cLine):iP X (compareOp .Eq) (Ml X.K n PyData.eqv):=by
 intro pins s σ H x y v u Q I rx ry h
 obtain⟨da,db,ha,hb,la,lb,hd,q⟩:=h
 obtain⟨as,ra⟩:=ha.reads I rx
 obtain⟨bs,rb⟩:=hb.reads I ry
 exact SeqAt.rcAt_reads ra rb la lb (by lia) X.prog X.w X.xe _ ⟨.bl _,H,I,rfl,q⟩
theorem uI(hu:X.A.units+n<cLine):iP X (compareOp .NotEq) (Ml X.K n λa b=>!PyData.eqv a b):=by
 intro pins s σ H x y v u Q I rx ry h
 obtain⟨da,db,ha,hb,la,lb,hd,q⟩:=h
 obtain⟨as,ra⟩:=ha.reads I rx
 obtain⟨bs,rb⟩:=hb.reads I ry
 exact SeqAt.rcNeAt_reads ra rb la lb (by lia) X.prog X.w X.xe _ ⟨.bl _,H,I,rfl,q⟩
end
section
variable {X:Cx}
end
theorem Ik{P:Program}{w:World}{fs:List Addr}{H:Hp}{h h':Heap}(ok:gi P w H h)(k:∀b u,h.get? b=some u->h'.get? b=some u):∀{ts:List Addr}{os:List HO},Paired (λa o=>h.objs.size<=a/\∀J:Hp,bO P w J h' a o) ts os->ts.Nodup->
 ∃H':Hp,Un fs [] H H' h h'/\gi P w H' h'/\ah H H'/\(∀b,H' b≠none->H b≠none\/b∈ts)/\Paired (λa o=>H a=none/\H' a=some o) ts os:=by
 intro ts os p
 induction p with
 | nil=>intro _;exact⟨H,Un.kept k,ok.kept k,λ_ _ e=>e,λb e=>.inl e,.nil⟩
 | @cons a o ts os h1 _ ih=>
  intro nd
  rw[aaU]at nd
  obtain⟨H1,u1,k1,s1,f1,p1⟩:=ih nd.2
  have Ha:H a=none:=ok.fresh h1.1
  have H1a:H1 a=none:=by
   cases e:H1 a with
   | none=>rfl
   | some z=>
    rcases f1 a (by rw[e];simp) with q|q
    . exact absurd Ha q
    . exact absurd q nd.1
  have ne:∀{b:Addr}{z:HO},H b=some z->b≠a:=λe z=>by rw[z,Ha]at e;cases e
  have ne1:∀{b:Addr}{z:HO},H1 b=some z->b≠a:=λe z=>by rw[z,H1a]at e;cases e
  refine⟨upd H1 a o,⟨u1.keep,u1.slot,λb ob q n hx=>?_,u1.there,λb xs q=>?_,λb ob u q=>?_,λb ps q=>?_⟩,λb u e=>?_,λb z e=>?_,λb e=>?_,.cons ⟨Ha,af⟩ ?_⟩
  . have:b≠a:=aax (aaP (aam q) h1.1)
    rw[ai this]
    exact u1.free b ob q n hx
  . rw[ai (ne q)];exact u1.tups b xs q
  . rw[ai (ne q)];exact u1.frzs b ob u q
  . obtain⟨more,z⟩:=u1.tbls b ps q
    exact⟨more,by rw[ai (ne q)];exact z⟩
  . by_cases hb:b=a
    . subst hb
      rw[af]at e
      cases e
      exact h1.2 _
    . rw[ai hb]at e
      exact(k1 b u e).eL (λ_ _ _ z=>z) (λc z=>by rw[ai (ne1 z)];exact z) λc xs z=>by rw[ai (ne1 z)];exact z
  . rw[ai (ne e)];exact s1 b z e
  . by_cases hb:b=a
    . exact .inr (by rw[hb];exact aaX)
    . rw[ai hb]at e
      exact(f1 b e).imp id λz=>aaL _ z
  . exact Paired.bQ p1 λc z e=>⟨e.1,by rw[ai (ne1 e.2)];exact e.2⟩
section
variable {X:Cx}
noncomputable def tLI(td:TE):TE:=λσ H Q=>td σ H λx H1=>∃d kvs,x=.ref d/\Rd H1 d (.dK kvs)/\∀(l:Addr) (ts:List Addr) (H2:Hp),ah H1 H2->H1 l=none->H2 l=some (.lst (ts.map V.ref))->Paired (λt (kv:Key×V)=>H1 t=none/\H2 t=some (.tup [kV kv.1,kv.2])) ts kvs->Q (.ref l) H2
theorem jr{o:Expr}{to:TE}{apos cU p pos:Pos}(hc:X.calm=true)(ho:PE X o to)(hg:Gl X "list")(hm:X.mg "list" = none)
 (kU:attributeBase o "items" X.env (eval o X.env)=eval o X.env:=by rfl) (kY:(apos.endLine == cU.line)=true:=by rfl)
 (he:starEach [.Call (.Attribute o "items" apos) [] [] cU] X.env=(false,eval (.Call (.Attribute o "items" apos) [] [] cU) X.env)::starEach [] X.env:=by rfl) (gU:(backTo pos (starEach [] X.env)).any (·.1)=false:=by rfl) :
 PE X (.Call (.Name "list" p) [.Call (.Attribute o "items" apos) [] [] cU] [] pos) (tLI to):=by
 intro pins s σ H Q I h
 refine abA (i3 I hg hm aa8 ?_)
 refine aa4 ?_ he gU
 rw[he]
 show wpAny _ _ (spliced ((false,eval (.Call (.Attribute o "items" apos) [] [] cU) X.env)::backTo pos (starEach [] X.env))) _ _ s
 refine abo ?_
 refine ac0 kU kY (aD (ho pins s σ H _ I h) λv s1 ⟨x,H1,I1,r1,d,kvs,e,hd,q⟩=>?_)
 subst e
 cases(show v=Value.ref d from r1)
 obtain⟨h1,h2,_⟩:=GA I1 (.inl ⟨kvs,hd⟩)
 refine⟨"dict", "dict.items",abJ,acs,aed,h1,h2,abC rfl (adE ?_)⟩
 obtain⟨z,hm,vs,rel,dd⟩:=jD I1.hok hd
 obtain⟨ob,es,ep,HZ,r⟩:=id dd
 have hlen:kvs.length=vs.length:=rel.length
 refine adk acs h1 ad8 (ad1 _) (meets_dict_items (aQ X.prog X.w) d hm) ⟨⟨vs,dd⟩,?_⟩
 have I2:Inv X pins σ H1 {s1 with heap:=s1.heap.push {cls:=.type "dict_items",data:=.fields #[.ref d] } }:=I1.kept (t':=s1.toks) λb o e=>aad _ e
 refine acg ?_
 refine W.kdx_call (knd:=aQ X.prog X.w) (kvs:=vs) (ep:=ep) (I.ok.hd hc) (r:=s1.heap.objs.size) (d:=d) ⟨_,aar _ rfl,rfl,rfl⟩ ⟨ob,es,aad _ HZ,r⟩ (by lia) λh' tk acc c as kk e hl G ea=>?_
 have pt:∀(as:List Addr) (kvs:List (Key×V)) (vs:List (Key×Value)),KV kvs vs->as.length=vs.length->(∀a∈as,s1.heap.objs.size+1<a)->(∀(j:Nat) (a:Addr),as[j]?=some a->∃key k x,vs[j]?=some (k,x)/\(aQ X.prog X.w).is k key=true/\h'.get? a=some {cls:=.type "tuple",data:=.seq #[key,x] })->
  Paired (λa o=>s1.heap.objs.size+1<=a/\∀J:Hp,bO X.prog X.w J h' a o) as (kvs.map λkv=>HO.tup [kV kv.1,kv.2]):=by
  intro as kvs vs kv
  induction kv generalizing as with
  | nil=>intro hl _ _;rw[abi.mp hl];exact .nil
  | @cons a b as' bs DC t ih=>
   intro hl ab pr
   match as,hl with
   | u::us,hl=>
    obtain⟨key,k,x,e1,e2,e3⟩:=pr 0 u rfl
    simp at e1
    refine .cons ⟨adh (ab u aaX),λJ=>?_⟩ (ih us (by simpa using hl) (λc hc=>ab c (aaL _ hc)) λj c hj=>?_)
    . have ek:k=a.1:=by rw[DC.1,e1]
      have ex:x=b.2:=by rw[e1]
      subst ek ex
      exact⟨by show 2<=sizeLine;decide,[key,b.2],.cons (An e2) (.cons DC.2 .nil),⟨_,e3,rfl,_,rfl⟩⟩
    . exact pr (j+1) c (by simpa using hj)
 have sz:(s1.heap.push {cls:=.type "dict_items",data:=.fields #[.ref d] }).objs.size=s1.heap.objs.size+1:=abn ..
 have pp:=pt as kvs vs rel hl (λa ha=>by have:=G.above a ha;rw[sz]at this;exact this) λj a hj=>G.pairs j a hj
 rw[sz]at e
 have el:acc.toList=as.map Value.ref:=ea
 have rv0:∀l:List Addr,Vals (l.map V.ref) (l.map Value.ref):=λl=>by
  induction l with
  | nil=>exact .nil
  | cons a l ih=>exact .cons rfl ih
 have rv:Vals (as.map V.ref) acc.toList:=by rw[el];exact rv0 as
 have X9:as.length<=sizeLine:=by lia
 have hL:∀J:Hp,bO X.prog X.w J h' (s1.heap.objs.size+1) (.lst (as.map V.ref)):=λJ=>⟨by rw[aaa];exact X9,acc.toList,c,rv,by simpa using e⟩
 obtain⟨H2,u2,k2,ss2,f2,p2⟩:=Ik (fs:=X.fs) I2.hok kk (ts:=(s1.heap.objs.size+1)::as) (os:=.lst (as.map V.ref)::kvs.map λkv=>HO.tup [kV kv.1,kv.2])
  (.cons ⟨by rw[sz];exact aah _,hL⟩ (Paired.bQ pp λa o z=>⟨by rw[sz];exact z.1,z.2⟩)) (by
   rw[aaU]
   refine⟨λhm=>?_,G.rise.imp λh=>aax h⟩
   have:=G.above _ hm
   rw[sz]at this
   exact aby _ this)
 rw[sz]
 cases p2 with
 | cons pa pb=>
  refine⟨.ref (s1.heap.objs.size+1),H2,I2.un u2 k2,rfl,q _ as H2 ss2 pa.1 pa.2 ?_⟩
  have gen:∀{ts:List Addr}{l:List (Key×V)},Paired (λa o=>H1 a=none/\H2 a=some o) ts (l.map λkv=>HO.tup [kV kv.1,kv.2])->Paired (λt (kv:Key×V)=>H1 t=none/\H2 t=some (.tup [kV kv.1,kv.2])) ts l:=by
   intro ts l
   induction l generalizing ts with
   | nil=>intro h;cases h;exact .nil
   | cons a l ih=>intro h;cases h with|cons h1 h2=>exact .cons h1 (ih h2)
  exact gen pb
noncomputable def UO(K:W.Frag)(n:Nat):R2:=λx y H Q=>∃(p p':Addr) (ks ls:List (Key×V)) (ds:List PyData),x=.ref p/\y=.ref p'/\Rd H p (.dK ks)/\Rd H p' (.dK ls)/\ks.map (·.1)=ls.map (·.1)/\(ks.map (·.1)).Nodup/\jT K H (ks.map (·.2)) ds/\jT K H (ls.map (·.2)) ds/\
 (∀d∈ds,d.canLay0=true/\d.depth<=n/\PyData.eqv d d=true)/\Q (.bl true) H
theorem NL{n:Nat}(hu:X.A.units+n+1<cLine):iP X (compareOp .Eq) (UO X.K n):=by
 intro pins s σ H x y v u Q I rx ry h
 obtain⟨p,p',ks,ls,ds,rfl,rfl,h1,h2,hk,hn,d1,d2,hd,q⟩:=h
 cases(show v=Value.ref p from rx)
 cases(show u=Value.ref p' from ry)
 obtain⟨_,z1,vs,r1,e1⟩:=jD I.hok h1
 obtain⟨_,z2,ws,r2,e2⟩:=jD I.hok h2
 have l1:ks.length=vs.length:=adz r1
 have l2:ls.length=ws.length:=adz r2
 have l3:ks.length=ls.length:=by have:=congrArg List.length hk;simpa using this
 refine W.keq_eq (r:=true) z1 z2 e1 e2 (by lia) (λ_=>?_) ?_
 . have gen:∀{Il:List (Key×V)}{us:List (Key×Value)},KV Il us->∀{DY:List (Key×V)}{Im:List PyData},Il.map (·.1)=DY.map (·.1)->(∀kv∈DY,kv∈ls)->jT X.K H (Il.map (·.2)) Im->jT X.K H (DY.map (·.2)) Im->(∀d∈Im,d.canLay0=true/\d.depth<=n/\PyData.eqv d d=true)->W.KeqHits X.A.in1 s ws us true:=by
    intro Il us h
    induction h with
    | nil=>intro _ _ _ _ _ _ _;exact .nil
    | @cons kv w Il us h0 _ ih=>
     intro DY Im lE hm L4 Qr hd'
     match DY,lE with
     | lv::DY,lE=>
      rw[aas,aas]at lE
      injection lE with ek ek'
      cases L4 with
      | @cons _ d _ Im da db=>
       cases Qr with
       | cons dc de=>
        obtain⟨g1,g2,g3⟩:=hd' d aaX
        obtain⟨y,hy,ry⟩:=Mj r2 (by rw[← hk];exact hn) (show (lv.1,lv.2)∈ls from hm lv aaX)
        obtain⟨as,ra⟩:=da.reads I h0.2
        obtain⟨bs,rb⟩:=dc.reads I ry
        have z:=SeqAt.eqAt_reads d d X.A.in1 s _ _ as bs ra rb g1 g1 (by show X.A.units+1+_<cLine;lia)
        rw[g3]at z
        have:=W.KeqHits.hit (k:=w.1) (v:=w.2) (by rw[← h0.1,ek];exact hy) z (ih ek' (λk h=>hm k (aaL _ h)) db de λd hd=>hd' d (aaL _ hd))
        simpa using this
   exact gen r1 hk (λ_ h=>h) d1 d2 hd
 . rw[← l1,← l2,l3]
   exact⟨.bl true,H,I,by simp[RelV],q⟩
end
section
variable {X:Cx}{N:List Str}{js:List (Option Nat)}{scope:Scope}{y:Str}{elt tg iter:Expr}{ifs:List Expr}{pos:Pos}{wi:TI}{g:TG}{ti:TT}{te:TE}
end
noncomputable def oF(H H':Hp)(v:V):V ⊕ HO->Prop
 | .inl x=>v=x
 | .inr o=>∃e,v=.ref e/\H e=none/\H' e=some o
noncomputable def Ks(D:Addr)(H H':Hp)(v:V):V ⊕ HO->Prop
 | .inl x=>v=x
 | .inr o=>∃e,v=.ref e/\e≠D/\H e=none/\H' e=some o
theorem same_none{H H':Hp}{a:Addr}(s:ah H H')(h:H' a=none):H a=none:=by
 cases e:H a with
 | none=>rfl
 | some o=>rw[s _ _ e]at h;cases h
theorem gd{α β:Type}{F:α->β->Prop}{l1:List α}{l2:List β}(h:Paired F l1 l2):∀{i:Nat}{b:β},l2[i]?=some b->∃a,l1[i]?=some a/\F a b:=by
 induction h with
 | nil=>intro i b e;simp at e
 | @cons a c _ _ h _ ih=>
  intro i b e
  cases i with
  | zero=>simp at e;subst e;exact⟨a,rfl,h⟩
  | succ i=>obtain⟨x,h1,h2⟩:=ih (i:=i) (by simpa using e);exact⟨x,by simpa using h1,h2⟩
theorem uJ{α:Type}{J:It}{g:TG}{ti:TT}{te:TE}{D:Addr}{Q:Hp->Prop}{H:Hp}{Uk:St}(S:St->Prop)(xs:List α)(kp:α->Bool)(y:α->V ⊕ HO)(hD:H D=none)(h0:S Uk)(hl:xs.length<=10000)
 (stop:∀H9,ah H H9->J.stop xs.length H9)
 (step:∀(i:Nat) (x:α) (σ:St) (H9:Hp) (Z:St->Hp->Prop) (Y:St->VK),xs[i]?=some x->ah H H9->S σ->(kp x=false->∀gk H3,S gk->ah H9 H3->Z gk H3)->(kp x=true->∀gk v H4,S gk->ah H9 H4->oF H9 H4 v (y x)->Y gk v H4)->
  J.go i H9/\∀x' H',J.yld i H9 x' H'->g x' σ H' λgk H2=>ti gk H2 λb H3=>if b=true then te gk H3 (Y gk) else Z gk H3)
 (fin:∀(H':Hp) (vs:List V),ah H H'->H' D=some (.lst vs)->Paired (oF H H') vs ((xs.filter kp).map y)->Q H') :
 ∃W:Nat->Nat->St->Hp->Prop,(∃m,W 0 m Uk (upd H D (.lst [])))/\rT D g ti te J W Q:=by
 have nw:∀{H9:Hp}{o:HO},ah H H9->ah H (upd H9 D o):=λs9 c o hc=>by rw[ai (ae hc hD)];exact s9 c o hc
 refine iW xs.length (λi acc σ H9=>S σ/\ah H H9/\Paired (Ks D H H9) acc (((xs.take i).filter kp).map y)) ⟨h0,nw λ_ _ h=>h,.nil⟩ af ?_ ?_
 . rintro acc σ H9 bx ⟨_,s9,p9⟩
   rw[aaH]at p9
   refine⟨stop H9 s9,fin H9 acc s9 bx (Paired.bQ p9 λv z e=>?_)⟩
   cases z with
   | inl x=>exact e
   | inr o=>obtain⟨a,e1,_,e3,e4⟩:=e;exact⟨a,e1,e3,e4⟩
 . rintro i acc σ H9 hi bx ⟨hS,s9,p9⟩
   have e1:xs[i]?=some xs[i]:=aae hi
   have et:xs.take (i+1)=xs.take i++[xs[i]]:=by rw[abb,e1,ab1]
   have up:∀{H4:Hp},ah H9 H4->Paired (Ks D H H4) acc (((xs.take i).filter kp).map y):=λs4=>Paired.bQ p9 λv z e=>by
    cases z with
    | inl x=>exact e
    | inr o=>obtain⟨a,e1,e2,e3,e4⟩:=e;exact⟨a,e1,e2,e3,s4 _ _ e4⟩
   refine step i xs[i] σ H9 _ (λgk v H4=>∃acc,H4 D=some (.lst acc)/\acc.length<sizeLine/\∃m',m'<xs.length-i/\GX D xs.length (λi acc σ H9=>S σ/\ah H H9/\Paired (Ks D H H9) acc (((xs.take i).filter kp).map y)) (i+1) m' gk (upd H4 D (.lst (acc++[v])))) e1 s9 hS (λhk gk H3 zx s3=>?_) (λhk gk v H4 zx s4 hv=>?_)
   . refine dJ hi (s3 _ _ bx) ⟨zx,λb o hb=>s3 _ _ (s9 b o hb),?_⟩
     rw[et,abd,aa1 (by rw[hk];exact aat),adM,abh]
     exact up s3
   . have pl:=p9.length
     refine⟨acc,s4 _ _ bx,?_,dJ hi af ⟨zx,nw λb o hb=>s4 _ _ (s9 b o hb),?_⟩⟩
     . have h1:acc.length<=i:=by
        rw[pl,aaa]
        refine aap (aba _ _) ?_
        rw[aaO]
        exact Nat.min_le_left _ _
       exact abK (show acc.length<=10000 by lia) (by decide)
     . rw[et,abd,aaZ hk,adM,aaf]
       refine abR (Paired.bQ (up s4) λv z e=>?_) ?_
       . cases z with
         | inl x=>exact e
         | inr o=>obtain⟨a,e1,e2,e3,e4⟩:=e;exact⟨a,e1,e2,e3,by rw[ai e2];exact e4⟩
       . generalize y xs[i]=z at hv
         cases z with
         | inl x=>exact hv
         | inr o=>
          obtain⟨a,e1,e2,e3⟩:=hv
          have ne:a≠D:=(ae bx e2).symm
          exact⟨a,e1,ne,same_none s9 e2,by rw[ai ne];exact e3⟩
noncomputable abbrev Rw(ti:TT)(te:TE)(H9:Hp)(σ:St)(k:Bool)(y:V ⊕ HO):Prop:=∀(Z:Hp->Prop) (Y:VK),(k=false->∀H3,ah H9 H3->Z H3)->(k=true->∀v H4,ah H9 H4->oF H9 H4 v y->Y v H4)->ti σ H9 λb H3=>if b=true then te σ H3 Y else Z H3
theorem rw_yes{te:TE}{H9:Hp}{σ:St}{y:V ⊕ HO}(h:∀Y:VK,(∀v H4,ah H9 H4->oF H9 H4 v y->Y v H4)->te σ H9 Y):Rw vL te H9 σ true y:=λZ Y _ h2=>by
 show (if true=true then te σ H9 Y else Z H9)
 rw[aaI rfl]
 exact h Y (h2 rfl)
theorem lZ{H:Hp}{p:Addr}{o:HO}(h:H p=none):oF H (upd H p o) (.ref p) (.inr o):=⟨p,rfl,h,af⟩
section
variable {α:Type}{K:W.Frag}{D a:Addr}{xs:List α}{ti:TT}{te:TE}{oG:St}{Q:Hp->Prop}{H:Hp}{kp:α->Bool}{y:α->V ⊕ HO}
theorem jG(f:α->V)(hl:xs.length<=10000) (ha:H a=some (.lst (xs.map f))) (hD:H D=none) (he:∀x∈xs,∀H9,ah H H9->Rw ti te H9 (some (f x)::oG) (kp x) (y x))
 (fin:∀(H':Hp) (vs:List V),ah H H'->H' D=some (.lst vs)->Paired (oF H H') vs ((xs.filter kp).map y)->Q H'):∃W:Nat->Nat->St->Hp->Prop,(∃m,W 0 m (none::oG) (upd H D (.lst [])))/\rT D (cv 0) ti te (uV K a) W Q:=by
 refine uJ (λσ=>∃u,σ=u::oG) xs kp y hD ⟨_,rfl⟩ hl (λH9 s9=>⟨_,aq.of (s9 _ _ ha),by rw[aaa];exact aah _⟩) ?_ fin
 rintro i x σ H9 Z Y hx s9 ⟨u,rfl⟩ h1 h2
 have ex:(xs.map f)[i]?=some (f x):=by rw[aal,hx];rfl
 refine⟨⟨_,_,aq.of (s9 _ _ ha),ex⟩,?_⟩
 rintro v H' ⟨rfl,w1⟩
 have z1:=w1 _ (aq.of (s9 _ _ ha))
 rw[ex]at z1
 cases z1
 exact he x (aaN hx) _ s9 _ _ (λhk H3 s3=>h1 hk _ _ ⟨_,rfl⟩ s3) λhk v H4 s4 hv=>h2 hk _ v H4 ⟨_,rfl⟩ s4 hv
theorem Fw{ts:List Addr}(f1 f2:α->V)(hl:xs.length<=10000) (ha:H a=some (.lst (ts.map V.ref))) (ht:Paired (λt x=>H t=some (.tup [f1 x,f2 x])) ts xs) (hD:H D=none) (he:∀x∈xs,∀H9,ah H H9->Rw ti te H9 (some (f1 x)::some (f2 x)::oG) (kp x) (y x))
 (fin:∀(H':Hp) (vs:List V),ah H H'->H' D=some (.lst vs)->Paired (oF H H') vs ((xs.filter kp).map y)->Q H'):∃W:Nat->Nat->St->Hp->Prop,(∃m,W 0 m (none::none::oG) (upd H D (.lst [])))/\rT D (ng K 2 (eO (cv 0) (eO (cv 1) m7))) ti te (uV K a) W Q:=by
 have gU:=ht.length
 refine uJ (λσ=>∃u v,σ=u::v::oG) xs kp y hD ⟨_,_,rfl⟩ hl (λH9 s9=>⟨_,aq.of (s9 _ _ ha),by rw[aaa,gU];exact aah _⟩) ?_ fin
 rintro i x σ H9 Z Y hx s9 ⟨u,v,rfl⟩ h1 h2
 obtain⟨t,e1,e2⟩:=gd ht hx
 have ex:(ts.map V.ref)[i]?=some (.ref t):=by rw[aal,e1];rfl
 refine⟨⟨_,_,aq.of (s9 _ _ ha),ex⟩,?_⟩
 rintro v H' ⟨rfl,w1⟩
 have z1:=w1 _ (aq.of (s9 _ _ ha))
 rw[ex]at z1
 cases z1
 exact⟨t,_,rfl,aM.of (s9 _ _ e2),rfl,_,_,rfl,_,_,rfl,rfl,he x (aaN hx) _ s9 _ _ (λhk H3 s3=>h1 hk _ _ ⟨_,_,rfl⟩ s3) λhk v H4 s4 hv=>h2 hk _ v H4 ⟨_,_,rfl⟩ s4 hv⟩
theorem UP{d:Addr}{ob:Obj}(f1:α->Key)(f2:α->V)(hl:xs.length<=10000) (ha:H d=some (.cj ob (.dK (xs.map λx=>(f1 x,f2 x))))) (hD:H D=none) (he:∀x∈xs,∀H9,ah H H9->Rw ti te H9 (some (kV (f1 x))::some (f2 x)::oG) (kp x) (y x))
 (fin:∀(H':Hp) (vs:List V),ah H H'->H' D=some (.lst vs)->Paired (oF H H') vs ((xs.filter kp).map y)->Q H'):∃W:Nat->Nat->St->Hp->Prop,(∃m,W 0 m (none::none::oG) (upd H D (.lst [])))/\rT D (ng K 2 (eO (cv 0) (eO (cv 1) m7))) ti te (Qt d ob (xs.map λx=>(f1 x,f2 x))) W Q:=by
 refine uJ (λσ=>∃u v,σ=u::v::oG) xs kp y hD ⟨_,_,rfl⟩ hl (λH9 s9=>⟨s9 _ _ ha,by rw[aaa]⟩) ?_ fin
 rintro i x σ H9 Z Y hx s9 ⟨u,v,rfl⟩ h1 h2
 refine⟨⟨s9 _ _ ha,by rw[aaa];exact(aaq.mp hx).1⟩,?_⟩
 rintro v H' ⟨T,kv,rfl,hT,jn,rfl⟩
 rw[aal,hx]at jn
 cases jn
 have s8:ah H9 (upd H9 T (.tup [kV (f1 x),f2 x])):=λb o e=>by rw[ai (ae e hT)];exact e
 have up:∀{H4:Hp}{v:V},ah H9 (upd H9 T (.tup [kV (f1 x),f2 x]))->oF (upd H9 T (.tup [kV (f1 x),f2 x])) H4 v (y x)->oF H9 H4 v (y x):=λs hv=>by
  generalize y x=z at hv
  cases z with
  | inl q=>exact hv
  | inr o=>obtain⟨a,e1,e2,e3⟩:=hv;exact⟨a,e1,same_none s e2,e3⟩
 exact⟨T,_,rfl,aM.of af,rfl,_,_,rfl,_,_,rfl,rfl,he x (aaN hx) _ (λb o e=>s8 _ _ (s9 b o e)) _ _ (λhk H3 s3=>h1 hk _ _ ⟨_,_,rfl⟩ λb o e=>s3 _ _ (s8 b o e)) λhk v H4 s4 hv=>h2 hk _ v H4 ⟨_,_,rfl⟩ (λb o e=>s4 _ _ (s8 b o e)) (up s8 hv)⟩
theorem Fx{d:Addr}{ob:Obj}(f1:α->Key)(f2:α->V)(hl:xs.length<=10000) (ha:H d=some (.cj ob (.dK (xs.map λx=>(f1 x,f2 x))))) (hD:H D=none) (he:∀x∈xs,∀H9,ah H H9->Rw ti te H9 (some (kV (f1 x))::oG) (kp x) (y x))
 (fin:∀(H':Hp) (vs:List V),ah H H'->H' D=some (.lst vs)->Paired (oF H H') vs ((xs.filter kp).map y)->Q H'):∃W:Nat->Nat->St->Hp->Prop,(∃m,W 0 m (none::oG) (upd H D (.lst [])))/\rT D (cv 0) ti te (DD d ob (xs.map λx=>(f1 x,f2 x))) W Q:=by
 refine uJ (λσ=>∃u,σ=u::oG) xs kp y hD ⟨_,rfl⟩ hl (λH9 s9=>⟨s9 _ _ ha,by rw[aaa]⟩) ?_ fin
 rintro i x σ H9 Z Y hx s9 ⟨u,rfl⟩ h1 h2
 refine⟨⟨s9 _ _ ha,by rw[aaa];exact(aaq.mp hx).1⟩,?_⟩
 rintro v H' ⟨rfl,kv,jn,rfl⟩
 rw[aal,hx]at jn
 cases jn
 exact he x (aaN hx) _ s9 _ _ (λhk H3 s3=>h1 hk _ _ ⟨_,rfl⟩ s3) λhk v H4 s4 hv=>h2 hk _ v H4 ⟨_,rfl⟩ s4 hv
theorem iD{H H':Hp}{α:Type}{f:α->V} : ∀{vs:List V}{l:List α},Paired (oF H H') vs (l.map λx=>.inl (f x))->vs=l.map f
 | [],[],_=>rfl
 | _::_,_::_,.cons h t=>by rw[aas,← iD t];exact congrArg (· :: _) h
 | _::_,[],h=>nomatch h
 | [],_::_,h=>nomatch h
theorem gg{H H':Hp}{α:Type}{f:α->HO} : ∀{vs:List V}{l:List α},Paired (oF H H') vs (l.map λx=>.inr (f x))->∃ts:List Addr,vs=ts.map V.ref/\Paired (λt x=>H t=none/\H' t=some (f x)) ts l
 | [],[],_=>⟨[],rfl,.nil⟩
 | _::_,_::_,.cons h t=>by
  obtain⟨a,e1,e2,e3⟩:=h
  obtain⟨ts,e4,p⟩:=gg t
  exact⟨a::ts,by rw[e1,e4];rfl,.cons ⟨e2,e3⟩ p⟩
 | _::_,[],h=>nomatch h
 | [],_::_,h=>nomatch h
end
section
variable {X:Cx}{k:Nat}{f:Addr}{fd:FuncData}{ps:List Str}{sp:Sp}{x:Str}{p pos pos' apos:Pos}{e o:Expr}{es:List Expr}{ta te:TE}{t:TA}
noncomputable def Io(X:Cx)(e:Expr)(t:TE):Prop:=∀(pins:List (Addr×Obj)) (s:Shared) (σ:St) (H:Hp) (Q:VK),Inv X pins σ H s->t σ H Q->wpAny (model X.prog X.w) X.A (eval e X.env) (λv s'=>EP X pins σ Q v s'/\1<=s'.toks) X.xe s
noncomputable def Ip(X:Cx)(es:List Expr)(t:TA):Prop:=∀(pos:Pos) (pins:List (Addr×Obj)) (s:Shared) (σ:St) (H:Hp) (Q:List V->Hp->Prop),Inv X pins σ H s->t σ H Q->wpAny (model X.prog X.w) X.A (spliced (backTo pos (starEach es X.env))) (λv s'=>AP X pins σ Q v s'/\1<=s'.toks) X.xe s
noncomputable def VR(X:Cx)(st:Stmt)(t:TS):Prop:=∀(pins:List (Addr×Obj)) (s:Shared) (σ:St) (H:Hp) (D:Ends),Inv X pins σ H s->t D σ H->wpAny (model X.prog X.w) X.A (exec st X.env) (λf s'=>SP X pins D f s'/\1<=s'.toks) X.xe s
theorem NM{i j pos} : Io X (.Constant (.int i) j pos) (tC (.int i)):=λ_ _ _ H _ I h=>wpAny_Constant_int ⟨⟨.int i,H,I.tok _,⟨_,rfl⟩,h⟩,Nat.le_add_left _ _⟩
theorem rF(ha:Io X e te)(hr:PA X es t) (hs:starEach (e::es) X.env=(false,eval e X.env)::starEach es X.env:=by rfl):Ip X (e::es) (eJ te t):=by
 intro pos pins s σ H Q I h
 rw[hs]
 show wpAny _ _ (spliced ((false,eval e X.env)::backTo pos (starEach es X.env))) _ _ s
 refine abo (aD (ha pins s σ H _ I h) λu s1 zq=>?_)
 obtain⟨⟨x,H1,I1,r1,q1⟩,t1⟩:=zq
 exact jq (hr pos pins s1 σ H1 _ I1 q1) t1 λus s2 t2 ⟨xs,H2,I2,r2,q2⟩=>⟨⟨x::xs,H2,I2,.cons r1 r2,q2⟩,t2⟩
theorem vZ(ha:PE X e te)(hr:Ip X es t) (hs:starEach (e::es) X.env=(false,eval e X.env)::starEach es X.env:=by rfl):Ip X (e::es) (eJ te t):=by
 intro pos pins s σ H Q I h
 rw[hs]
 show wpAny _ _ (spliced ((false,eval e X.env)::backTo pos (starEach es X.env))) _ _ s
 refine abo (aD (ha pins s σ H _ I h) λu s1 zq=>?_)
 obtain⟨x,H1,I1,r1,q1⟩:=zq
 exact aD (hr pos pins s1 σ H1 _ I1 q1) λus s2 ⟨⟨xs,H2,I2,r2,q2⟩,t2⟩=>⟨⟨x::xs,H2,I2,.cons r1 r2,q2⟩,t2⟩
theorem NN(h:Ip X es t):Io X (.List es pos) (JH t):=by
 intro pins s σ H Q I hq
 refine adQ (aD (h pos pins s σ H _ I hq) λus s1 ⟨⟨xs,H1,I1,r,z,q⟩,t1⟩=>⟨by rw[← r.length];exact z,?_⟩)
 have hf:H1 s1.heap.objs.size=none:=I1.hok.fresh (aah _)
 refine⟨⟨.ref s1.heap.objs.size,upd H1 s1.heap.objs.size (.lst xs),I1.laid (t':=s1.toks) (λb u e=>aad _ e) (aah _) ?_,rfl,q _ hf⟩,t1⟩
 exact⟨z,us,0,r,aar _ rfl⟩
theorem yu(F:cc X.prog X.w X.K X.mg X.base k f fd x ps sp)(hr:aW k X.A) (ha:Ip X (e::es) t) (hg:Gl X x:=by rfl) (hx:Passes aY X E0:=by exact bJ) (oh:(x == ("__debug__" : Str))=false:=by decide) (he:starEach (e::es) X.env=(false,eval e X.env)::starEach es X.env:=by rfl) (gU:(backTo pos (starEach es X.env)).any (·.1)=false:=by rfl) :
 Io X (.Call (.Name x p) (e::es) [] pos) (qP sp [] E0 t):=by
 intro pins s σ H Q I h
 refine abA (pV I hg F.m ?_ oh)
 refine aeG (h₀:=X.base) I.ok.mod.kin F.k (aD (ha pos pins s σ H _ I h) λus s1 ⟨⟨vs,H1,I1,r,q⟩,t1⟩=>⟨I1.i0,?_⟩) he gU
 exact jq (Gv F.g hr F.b .nil hx I1 r q) t1 λ_ _ t2 z=>⟨z,t2⟩
theorem NO(i:Nat)(hN:X.N.Nodup)(he:Io X e te)(hi:X.N[i]?=some x:=by rfl)(hx:Loc X.env.scope x:=by first|exact Or.inl rfl|exact Or.inr rfl) (hs:swapsWith e (some (.Name x pos')) pos.line X.env=pure false:=by rfl) (hf:X.fn x=true\/X.env.scope.names.lookup x=some .local:=by first|exact .inl rfl|exact .inr rfl|assumption) :
 VR X (.Assign [.Name x pos'] e pos) (sD te (cv i)):=by
 intro pins s σ H D I h
 refine ad2 (aD (he pins s σ H _ I h) λv s1 ⟨⟨y,H1,I1,r1,q1⟩,t1⟩=>?_) hs
 exact jq (qO I1 hN hi hx r1 (λs2 I2=>⟨_,H1,I2,q1⟩) hf) t1 λ_ _ t2 z=>⟨z,t2⟩
theorem Iq{st:Stmt}{rest:List Stmt}{t u:TS}(h1:VR X st t)(h2:lu X rest u):gj X (st::rest) (Jw t u):=by
 intro pins s σ H D I h
 refine acM (aD (h1 pins s σ H {D with nx:=u D} I h) λf s1 q=>?_)
 obtain⟨q,t1⟩:=q
 cases f with
 | next=>
  obtain⟨br,H',I',q⟩:=q
  exact h2 pins s1 br H' D t1 I' q
 | ret v=>exact q
 | brk=>exact q
 | cont=>exact q
theorem lu.kz{st:List Stmt}{t:TS}(h:lu X.kz st t):lu X st t:=λpins s σ H D t0 I hw=>
 abG (h pins s σ H D t0 (I.jf _) hw) (λ_ _ q=>q.jg) λ_ _ z=>False.elim z
theorem aO.Ya{K:W.Frag}{x q:Str}{st:Stmt}{f:Addr}{fd:FuncData}{N ps:List Str}{P:Program}{w:World}{mg:Str->Option Value}{base:Heap}{sp:Sp}{k:Nat}(F:aO K x q st f fd) (S:aK N ps (aw st))
 (kF:∀(cdv:Value) (A:Around) (outer:List Env) (s:Shared) (H:Hp) (vs:List V) (Q:VK) (E:XK),aW k (A.deeper (envOfC q (aw st) s.heap.objs.size f cdv))->sp vs H Q E->
  ∃t,lu (jj aY P w K mg base N q (aw st) f cdv A outer s H E).kz (c8 st) t/\t {nx:=λ_ H'=>Q .aH H',rt:=Q} (start N vs) H)
 (len:∀vs H Q E,sp vs H Q E->vs.length=ps.length:=by intro _ _ _ _ h;cases h;subst_vars;rfl):ly P w K mg base aY (k+1) f fd ps sp:=by
 obtain⟨oc,od,kV,doc,pm,an,cdv,ct,sL,rfl,lk,mx⟩:=F.ex
 refine QH lk mx S len λA outer s H vs Q E hr mz=>?_
 obtain⟨t,h,q⟩:=kF cdv A outer s H vs Q E hr mz
 exact⟨t,h.kz,q⟩
theorem aO.go{K:W.Frag}{x q:Str}{st:Stmt}{f:Addr}{fd:FuncData}{N ps:List Str}{P:Program}{w:World}{mg:Str->Option Value}{base:Heap}{sp:Sp}{k:Nat}(F:aO K x q st f fd) (S:aK N ps (aw st))
 (kF:∀(cdv:Value) (A:Around) (outer:List Env) (s:Shared) (H:Hp) (vs:List V) (Q:VK) (E:XK),aW k (A.deeper (envOfC q (aw st) s.heap.objs.size f cdv))->sp vs H Q E->
  ∃t,gj (jj aY P w K mg base N q (aw st) f cdv A outer s H E).kz (c8 st) t/\t {nx:=λ_ H'=>Q .aH H',rt:=Q} (start N vs) H)
 (len:∀vs H Q E,sp vs H Q E->vs.length=ps.length:=by intro _ _ _ _ h;repeat (first|(obtain⟨rfl,_⟩:=h;rfl)|(obtain⟨_,h⟩:=h))):aR P w K mg base aY (k+1) f fd ps sp:=F.ok S len kF
theorem aO.Ir{K:W.Frag}{x q:Str}{st:Stmt}{f:Addr}{fd:FuncData}{N ps:List Str}{P:Program}{w:World}{mg:Str->Option Value}{base:Heap}{sp:Sp}{k:Nat}(F:aO K x q st f fd) (S:aK N ps (aw st))
 (kF:∀(cdv:Value) (A:Around) (outer:List Env) (s:Shared) (H:Hp) (vs:List V) (Q:VK) (E:XK),aW k (A.deeper (envOfC q (aw st) s.heap.objs.size f cdv))->sp vs H Q E->
  ∃t,lu (jj aY P w K mg base N q (aw st) f cdv A outer s H E).kz (c8 st) t/\t {nx:=λ_ H'=>Q .aH H',rt:=Q} (start N vs) H)
 (len:∀vs H Q E,sp vs H Q E->vs.length=ps.length:=by intro _ _ _ _ h;repeat (first|(obtain⟨rfl,_⟩:=h;rfl)|(obtain⟨_,h⟩:=h))):ly P w K mg base aY (k+1) f fd ps sp:=F.Ya S kF len
structure l8(P:Program) (w:World) (K:W.Frag) (mg:Str->Option Value) (base:Heap) (k:Nat) (f:Addr) (d:FuncData) (x:Str) (ps:List Str) (sp:Sp):Prop where
 g:ly P w K mg base aY k f d ps sp
 m:mg x=some (.ref f)
 k:W.keepIn K (.ref f)=true
 b:Binds K d ps []
theorem gE(F:l8 X.prog X.w X.K X.mg X.base k f fd x ps sp)(hr:aW k X.A) (ha:PA X (e::es) t) (hg:Gl X x:=by rfl) (hx:Passes aY X E0:=by exact bJ) (oh:(x == ("__debug__" : Str))=false:=by decide) (he:starEach (e::es) X.env=(false,eval e X.env)::starEach es X.env:=by rfl) (gU:(backTo pos (starEach es X.env)).any (·.1)=false:=by rfl) :
 lq X (.Call (.Name x p) (e::es) [] pos) (qP sp [] E0 t):=Kr F.g hr hg F.m F.k F.b .nil hx ha oh he gU
end
theorem xB(z:Str)(c:Nat):Builtin.Str.partsBetween z (Builtin.Str.occurrences z ⟨#[c]⟩ 0 z.length (z.length+1)) 1=(jo c z.cps.toList).map DO:=by
 obtain⟨h,t,e⟩:=yl c z.cps.toList
 have hn:z.cps.toList.length=z.length:=by simp[Str.length]
 have k:=vV (c:=c) (L:=z.cps.toList) z.length 0 0 (by omega) (aah _) h t (by simpa using e)
 rw[Qo,HW,← hn,hn,e]
 rw[hn]at k
 rw[k]
 simp
theorem ua{z:Str}(h:126∉z.cps.toList):Txt.replace z "~" "" = z:=by
 have tl:("~" : Str)=⟨#[126]⟩:=by decide+kernel
 unfold Txt.replace
 rw[tl]
 split
 . rfl
 . have h3:=xB z 126
   rw[tQ h]at h3
   rw[show (Str.length ⟨#[126]⟩)=1 from rfl,h3]
   cases z
   simp[Builtin.Str.glued,DO]
theorem Fy{z:Str}(h:126∉z.cps.toList):Txt.replace ("~" ++ z) "~" "" = z:=by
 have tl:("~" : Str)=⟨#[126]⟩:=by decide+kernel
 have tc:(("~" : Str)++z).cps.toList=126::z.cps.toList:=by
  show ((("~" : Str)).cps++z.cps).toList=_
  rw[aeW,show (("~" : Str)).cps.toList=[126] by decide+kernel]
  rfl
 have h3:=xB ("~" ++ z) 126
 rw[tc,show (126::z.cps.toList)=[]++126::z.cps.toList from rfl,DN (by simp),tQ h,← tl]at h3
 have e0:("" : Str).cps = #[]:=by decide+kernel
 unfold Txt.replace
 split
 . rename_i hq
   exfalso
   have h4:=congrArg List.length h3
   simp only[Builtin.Str.partsBetween,aaa,aa6,abt,aaj,acY]at h4
   rw[Bool.or_eq_true]at hq
   rcases hq with hq|hq
   . rw[List.isEmpty_iff.mp hq]at h4
     simp at h4
   . revert hq
     decide+kernel
 . rw[show (Str.length ("~" : Str))=1 by decide+kernel,h3]
   cases z
   simp[Builtin.Str.glued,DO,e0]
end L2
namespace Gen
open PySem L2
noncomputable abbrev BP:Stmt:=top 4
structure MF(C:Addr) (H:Hp) (x dx g1 g2 g3 g4 g5 g6:Addr) (ts:List Addr) (M:ay):Prop where
 hx:H x=some (.ins C dx (jO g1 g2 g3 g4 g5 g6))
 h1:H g1=some (.lst (M.switches.map V.str))
 h2:H g2=some (.dK (M.keepers.map λr=>((.inr r.1:Key),r.2)))
 h3:H g3=some (.lst (ts.map V.ref))
 hp:Paired (λt r=>H t=some (.tup (cy r))) ts M.gates
theorem MF.same{C:Addr}{H H':Hp}{x dx g1 g2 g3 g4 g5 g6:Addr}{ts:List Addr}{M:ay}(h:MF C H x dx g1 g2 g3 g4 g5 g6 ts M)(s:ah H H'):MF C H' x dx g1 g2 g3 g4 g5 g6 ts M:=
 ⟨s _ _ h.hx,s _ _ h.h1,s _ _ h.h2,s _ _ h.h3,Paired.bQ h.hp λt r e=>s _ _ e⟩
noncomputable def bp(M:ay):List Str:=M.switches++M.keepers.map (·.1)++M.gates.map (·.1)
noncomputable def yw(C:Addr):Sp:=λvs H Q _=>∃(x dx g1 g2 g3 g4 g5 g6:Addr) (ts:List Addr) (M:ay),vs=[.ref x]/\MF C H x dx g1 g2 g3 g4 g5 g6 ts M/\M.switches.length<=100/\M.keepers.length<=100/\M.gates.length<=100/\∀p H',H p=none->ah H H'->H' p=some (.lst ((bp M).map V.str))->Q (.ref p) H'
theorem Yb:(["gate"]:List Str).Nodup:=by decide+kernel
theorem jt{x:V}{xs:List V} : ie (x::xs) 0=some x:=gy (j:=0) rfl
section
variable {P:Program}{w:World}{K:W.Frag}{mg:Str->Option Value}{base:Heap}{C:Addr}
theorem NP:aK ["machine"] ["machine"] (aw BP):=⟨rfl,rfl,rfl,by decide+kernel,rfl,by decide+kernel,by decide+kernel⟩
theorem Kt{f:Addr}{fd:FuncData}(F:aO K "names_of" "names_of" BP f fd)(T:pO K mg C)(O:gw mg):aR P w K mg base aY 1 f fd ["machine"] (yw C):=by
 refine F.ok NP (λvs H Q E h=>?_) (λcdv A outer s H vs Q E hr h=>?_)
 . obtain⟨x,dx,g1,g2,g3,g4,g5,g6,ts,M,rfl,_⟩:=h
   rfl
 . obtain⟨x,dx,g1,g2,g3,g4,g5,g6,ts,M,rfl,hM,l1,l2,l3,kk⟩:=h
   refine⟨_,au (aI (aB jP (aB jP (dh (pv 0) rfl) (aJ (yg rfl) (by rfl) O.list aa8 (aa (dh (pv 0) rfl) ag)))
    (dZ (N:=["gate"]) (js:=[none]) (te:=oP (eu K) (cg 0) (tC (.int 0))) (by kernel_rfl) rfl (bf (dh (pv 0) rfl)) (λ_ _ _ _ _ _=>ar (i:=0) Yb rfl (Or.inl rfl) (.inr rfl)) (λ_ _ _ _ _ _=>bb) (λ_ _ _ _ _ _=>aN (r:=eu K) cN (pv 0) ak (λ_ _=>rfl))))),?_⟩
   refine⟨_,rfl,x,C,dx,_,_,rfl,hM.hx,T.cl,T.n1,tV ..,_,rfl,x,C,dx,_,_,rfl,hM.hx,T.cl,T.n2,qr ..,g2,_,rfl,.inl hM.h2,λq1 hq1=>?_⟩
   have ek:(M.keepers.map λr=>((.inr r.1:Key),r.2)).map (λkv=>kV kv.1)=(M.keepers.map (·.1)).map V.str:=by rw[aau,aau];rfl
   rw[ek]
   have s1:ah H (upd H q1 (.lst ((M.keepers.map (·.1)).map V.str))):=ah.ao hq1
   have e1:(upd H q1 (.lst ((M.keepers.map (·.1)).map V.str))) q1=some (.lst ((M.keepers.map (·.1)).map V.str)):=af
   generalize upd H q1 (.lst ((M.keepers.map (·.1)).map V.str))=H1 at s1 e1 ⊢
   have fU:=hM.same s1
   refine⟨g1,q1,_,_,rfl,rfl,fU.h1,e1,(by simp only[aaa];exact mG (by omega)),λq2 hq2=>?_⟩
   have s2:ah H1 (upd H1 q2 (.lst (M.switches.map V.str++(M.keepers.map (·.1)).map V.str))):=ah.ao hq2
   have e2:(upd H1 q2 (.lst (M.switches.map V.str++(M.keepers.map (·.1)).map V.str))) q2=some (.lst ((M.switches++M.keepers.map (·.1)).map V.str)):=by rw[af,aaf]
   generalize upd H1 q2 (.lst (M.switches.map V.str++(M.keepers.map (·.1)).map V.str))=H2 at s2 e2 ⊢
   have jd:=fU.same s2
   have gU:=jd.hp.length
   refine⟨_,rfl,x,C,dx,_,_,rfl,jd.hx,T.cl,T.n3,tW ..,g3,rfl,⟨_,aq.of jd.h3⟩,λD hD=>?_⟩
   refine iW M.gates.length (λj acc br H4=>acc=((M.gates.take j).map (·.1)).map V.str/\(∃u,br=[u])/\ah H2 H4) ⟨rfl,⟨none,rfl⟩,ah.ao hD⟩ af ?_ ?_
   . rintro acc br H4 bx ⟨rfl,_,s4⟩
     rw[aaH]at bx
     refine⟨⟨_,aq.of (s4 _ _ jd.h3),by rw[aaa,gU];exact aah _⟩,q2,D,_,_,rfl,rfl,s4 _ _ e2,bx,(by simp only[aaa,aaj];exact mG (by omega)),λq3 LP=>?_⟩
     have lz:=(s1.trans s2).trans s4
     refine kk q3 _ (lz.free LP) (lz.trans (ah.ao LP)) ?_
     rw[af,← aaf]
     rfl
   . rintro j acc br H4 hj bx ⟨rfl,⟨u,rfl⟩,s4⟩
     have ju:M.gates[j]?=some M.gates[j]:=aae hj
     obtain⟨t,ht,hT⟩:=ir jd.hp (i:=j) ju
     have ej:(ts.map V.ref)[j]?=some (.ref t):=by rw[aal,ht];rfl
     refine⟨⟨_,_,aq.of (s4 _ _ jd.h3),ej⟩,?_⟩
     rintro x' H' ⟨rfl,gJ⟩
     have ex:=gJ _ (aq.of (s4 _ _ jd.h3))
     rw[ej]at ex
     cases ex
     refine il ?_
     refine⟨_,rfl,t,_,0,_,rfl,rfl,aM.of (s4 _ _ hT),jt,_,bx,(by rw[aaa,aaa,aaO];exact small (by omega)),dJ hj af ⟨?_,⟨_,rfl⟩,?_⟩⟩
     . rw[abb,ju,aaf,aaf]
       rfl
     . intro y o hy
       rw[ai (ae hy hD)]
       exact s4 y o hy
end
theorem BQ{n:Str}{l:List (Str×V)}(h:n∉l.map (·.1)):cu (eV l) (.inr n)=none:=by
 have:=rp n l
 rw[aaS h]at this
 cases e:cu (eV l) (.inr n) with
 | none=>rfl
 | some v=>rw[e]at this;cases this
theorem jv:∀(l:List (Str×V)) (acc:List (Str×V)),((acc++l).map (·.1)).Nodup->bA (eV acc) (eV l)=eV (acc++l)
 | [],acc,_=>by rw[abh];rfl
 | r::l,acc,h=>by
  have e:acc++r::l=(acc++[r])++l:=by simp
  have hn:r.1∉acc.map (·.1):=λhm=>by
   rw[aaf]at h
   exact(aaB.mp h).2.2 _ hm _ (by simp) rfl
  have h1:putK (eV acc) (.inr r.1) r.2=eV (acc++[r]):=by
   rw[qQ _ (BQ hn)]
   unfold eV
   rw[aaf]
   rfl
  show bA (putK (eV acc) (.inr r.1) r.2) (eV l)=_
  rw[h1,e]
  exact jv l (acc++[r]) (by rw[← e];exact h)
theorem kf{l:List (Str×Str)}(h:(l.map (·.1)).Nodup):bA [] (bo l)=bo l:=by
 rw[Mh]
 exact jv _ [] (by rw[abM,aau];exact h)
theorem rG{α β γ δ:Type} {F:α->γ->Prop}{F':α->δ->Prop}{g:β->γ}{h:β->δ} : ∀{ts:List α}{l:List β},Paired F ts (l.map g)->(∀t x,F t (g x)->F' t (h x))->Paired F' ts (l.map h)
 | [],[],_,_=>.nil
 | t::ts,x::l,.cons r p,k=>.cons (k t x r) (rG p k)
theorem nT{H:Hp}{a:Addr}{α:Type}{l:List α}{g:α->List V}{h:α->Key×V}(e:∀x,g x=[kV (h x).1,(h x).2]) (t:aE H a (l.map g)):∃ts:List Addr,H a=some (.lst (ts.map V.ref))/\Paired (λt kv=>H t=some (.tup [kV kv.1,kv.2])) ts (l.map h):=by
 obtain⟨ts,h1,h2⟩:=t
 exact⟨ts,h1,rG h2 λt x hx=>by rw[← e x];exact hx⟩
structure MO(C:Addr) (H:Hp) (x dx g1 g2 g3 g4 g5 g6:Addr) (ts:List Addr) (M:ay):Prop extends MF C H x dx g1 g2 g3 g4 g5 g6 ts M where
 h4:H g4=some (.dK (bo M.nexts))
 h5:H g5=some (.dK (bo M.nevers))
 h6:H g6=some (.dK (bo M.somes))
theorem MO.same{C:Addr}{H H':Hp}{x dx g1 g2 g3 g4 g5 g6:Addr}{ts:List Addr}{M:ay}(h:MO C H x dx g1 g2 g3 g4 g5 g6 ts M)(s:ah H H'):MO C H' x dx g1 g2 g3 g4 g5 g6 ts M:=
 ⟨h.toMF.same s,s _ _ h.h4,s _ _ h.h5,s _ _ h.h6⟩
noncomputable abbrev Fz:Stmt:=top 27
noncomputable abbrev UQ:List Str:=["_law_m", "_law_switches", "_law_gates"]
noncomputable def BR(C:Addr):Sp:=λvs H Q _=>∃(m:Addr) (M:ay) (a1 a2 a3 a4 a5 a6:Addr),vs=[.ref m]/\cb H m M a1 a2 a3 a4 a5 a6/\(M.keepers.map (·.1)).Nodup/\(M.nexts.map (·.1)).Nodup/\(M.nevers.map (·.1)).Nodup/\(M.somes.map (·.1)).Nodup/\
 ∀(x dx g1 g2 g3 g4 g5 g6:Addr) (ts:List Addr) (H':Hp),ah H H'->MO C H' x dx g1 g2 g3 g4 g5 g6 ts M->Q (.ref x) H'
section
variable {P:Program}{w:World}{K:W.Frag}{mg:Str->Option Value}{base:Heap}{C:Addr}
theorem BS:aK UQ ["_law_m"] (aw Fz):=⟨rfl,rfl,rfl,by decide+kernel,rfl,by decide+kernel,by decide+kernel⟩
theorem NQ{f fI:Addr}{fd dI:FuncData}(F:aO K "_law_made" "_law_made" Fz f fd)(T:pO K mg C)(O:gw mg)
 (mI:Mk K C fI) (gI:aR P w K mg base aY 1 fI dI o7 (BD C)) (bI:Binds K dI o7 []):aR P w K mg base aY 3 f fd ["_law_m"] (BR C):=by
 refine F.ok BS (λvs H Q E h=>?_) (λcdv A outer s H vs Q E hr h=>?_)
 . obtain⟨m,M,a1,a2,a3,a4,a5,a6,rfl,_⟩:=h
   rfl
 . obtain⟨m,M,a1,a2,a3,a4,a5,a6,rfl,hM,QI,nd4,nd5,nd6,kk⟩:=h
   have hu:=dY hr
   refine⟨_,aj (bz (i:=1) BS.nd rfl (Or.inl rfl) (aJ eT (by rfl) O.list aa8 (aa (aC hu (pv 0) av (λ_ _=>rfl)) ag)))
    (aj (bz (i:=2) BS.nd rfl (Or.inl rfl) (aJ eT (by rfl) O.list aa8 (aa (aC hu (pv 0) av (λ_ _=>rfl)) ag)))
    (au (aI (Dk mI gI hr rfl T.mgC bI .nil bJ (aa (pv 1)
     (aa (aJ (bK rfl) (by rfl) O.dict aaC (aa (aC hu (pv 0) av (λ_ _=>rfl)) ag))
     (aa (pv 2)
     (aa (aJ (bK rfl) (by rfl) O.dict aaC (aa (aC hu (pv 0) av (λ_ _=>rfl)) ag))
     (aa (aJ (bK rfl) (by rfl) O.dict aaC (aa (aC hu (pv 0) av (λ_ _=>rfl)) ag))
     (aa (aJ (bK rfl) (by rfl) O.dict aaC (aa (aC hu (pv 0) av (λ_ _=>rfl)) ag)) ag)))))))))),?_⟩
   refine⟨_,rfl,m,.ref a1,rfl,a7.k (k:=.inr "switches") hM.top,a1,_,rfl,.inl (aq.of hM.sw),λf1 e1=>?_⟩
   have s1:ah H (upd H f1 (.lst (M.switches.map V.str))):=ah.ao e1
   have q1:(upd H f1 (.lst (M.switches.map V.str))) f1=_:=af
   generalize upd H f1 (.lst (M.switches.map V.str))=H1 at s1 q1 ⊢
   obtain⟨us,h3,fH⟩:=id hM.gt
   refine⟨_,rfl,m,.ref a3,rfl,a7.k (k:=.inr "gates") (hM.same s1).top,a3,_,rfl,.inl (aq.of (s1 _ _ h3)),λf3 e3=>?_⟩
   have s2:ah H1 (upd H1 f3 (.lst (us.map V.ref))):=ah.ao e3
   have q3:(upd H1 f3 (.lst (us.map V.ref))) f3=_:=af
   generalize upd H1 f3 (.lst (us.map V.ref))=H2 at s2 q3 ⊢
   have gc:=s1.trans s2
   obtain⟨t2,u2,v2⟩:=nT (h:=λr:Str×V=>((.inr r.1:Key),r.2)) (λ_=>rfl) (hM.same gc).kp
   refine⟨_,rfl,_,rfl,m,.ref a2,rfl,a7.k (k:=.inr "keepers") (hM.same gc).top,a2,t2,eV M.keepers,rfl,u2,v2,λf2 e2=>?_⟩
   rw[show bA [] (eV M.keepers)=eV M.keepers from jv M.keepers [] QI]
   have s3:ah H2 (upd H2 f2 (.dK (eV M.keepers))):=ah.ao e2
   have q2:(upd H2 f2 (.dK (eV M.keepers))) f2=_:=af
   generalize upd H2 f2 (.dK (eV M.keepers))=H3 at s3 q2 ⊢
   have iH:=gc.trans s3
   obtain⟨t4,u4,v4⟩:=nT (h:=λr:Str×Str=>((.inr r.1:Key),V.str r.2)) (λ_=>rfl) (hM.same iH).nx
   refine⟨_,rfl,_,rfl,m,.ref a4,rfl,a7.k (k:=.inr "nexts") (hM.same iH).top,a4,t4,bo M.nexts,rfl,u4,v4,λf4 e4=>?_⟩
   rw[kf nd4]
   have s4:ah H3 (upd H3 f4 (.dK (bo M.nexts))):=ah.ao e4
   have q4:(upd H3 f4 (.dK (bo M.nexts))) f4=_:=af
   generalize upd H3 f4 (.dK (bo M.nexts))=H4 at s4 q4 ⊢
   have lz:=iH.trans s4
   obtain⟨t5,u5,v5⟩:=nT (h:=λr:Str×Str=>((.inr r.1:Key),V.str r.2)) (λ_=>rfl) (hM.same lz).nv
   refine⟨_,rfl,m,.ref a5,rfl,a7.k (k:=.inr "nevers") (hM.same lz).top,a5,t5,bo M.nevers,rfl,u5,v5,λf5 e5=>?_⟩
   rw[kf nd5]
   have s5:ah H4 (upd H4 f5 (.dK (bo M.nevers))):=ah.ao e5
   have q5:(upd H4 f5 (.dK (bo M.nevers))) f5=_:=af
   generalize upd H4 f5 (.dK (bo M.nevers))=H5 at s5 q5 ⊢
   have sr:=lz.trans s5
   obtain⟨t6,u6,v6⟩:=nT (h:=λr:Str×Str=>((.inr r.1:Key),V.str r.2)) (λ_=>rfl) (hM.same sr).sm
   refine⟨_,rfl,m,.ref a6,rfl,a7.k (k:=.inr "somes") (hM.same sr).top,a6,t6,bo M.somes,rfl,u6,v6,λf6 e6=>?_⟩
   rw[kf nd6]
   have s6:ah H5 (upd H5 f6 (.dK (bo M.somes))):=ah.ao e6
   have q6:(upd H5 f6 (.dK (bo M.somes))) f6=_:=af
   generalize upd H5 f6 (.dK (bo M.somes))=H6 at s6 q6 ⊢
   intro y dy hy QJ ig
   have t7:ah H6 (upd (upd H6 dy (.own y)) y (.ins C dy [])):=λb o hb=>by
    rw[ai (ae hb hy),ai (ae hb QJ)]
    exact hb
   have q7:(upd (upd H6 dy (.own y)) y (.ins C dy [])) y=some (.ins C dy []):=af
   generalize upd (upd H6 dy (.own y)) y (.ins C dy [])=H7 at t7 q7 ⊢
   have VS:=s6.trans t7
   have VT:=s5.trans VS
   have VU:=s4.trans VT
   have VW:=s3.trans VU
   have nE:=sr.trans s6
   refine⟨y,dy,f1,f2,f3,f4,f5,f6,⟨M.switches,eV M.keepers,us,bo M.nexts,bo M.nevers,bo M.somes⟩,rfl,q7,⟨VW _ _ (s2 _ _ q1),VU _ _ q2,VW _ _ q3,VT _ _ q4,VS _ _ q5,t7 _ _ q6⟩,λk1 k2 k3 k4 k5 k6 H8 hg lI QK qy zV=>⟨rfl,?_⟩⟩
   have Mm:ah H H8:=λb o hb=>zV b o (t7 _ _ (nE _ _ hb)) (ae (nE _ _ hb) hy)
   exact kk y dy k1 k2 k3 k4 k5 k6 us H8 Mm ⟨⟨QK,qy.h1,qy.h2,qy.h3,Paired.bQ (lr fH) λt r e=>Mm _ _ e⟩,qy.h4,qy.h5,qy.h6⟩
noncomputable abbrev FA:Stmt:=top 6
noncomputable def bY(z:Str):Str:=if z.cps.toList[0]?=some 126 then ⟨z.cps.toList.tail.toArray⟩ else z
noncomputable def xC:Sp:=λvs H Q _=>∃z:Str,vs=[.str z]/\z.length<=1000/\Q (.str (bY z)) H
theorem QL:aK ["literal"] ["literal"] (aw FA):=⟨rfl,rfl,rfl,by decide+kernel,rfl,by decide+kernel,by decide+kernel⟩
theorem NR{f:Addr}{fd:FuncData}(F:aO K "bare_name" "bare_name" FA f fd):aR P w K mg base aY 1 f fd ["literal"] xC:=by
 refine F.ok QL (λvs H Q E h=>?_) (λcdv A outer s H vs Q E hr h=>?_)
 . obtain⟨z,rfl,_⟩:=h
   rfl
 . obtain⟨z,rfl,hz,kk⟩:=h
   have xx:z.length<=sizeLine:=aap hz (by decide)
   refine⟨_,aj (cP (iN (eU abD ab8 ab9 oZ (pv 0) (aa av ag))) (au (aI (jY ym (pv 0) (lQ ak) lP))) bh)
    (au (aI (pv 0))),?_⟩
   have tl:("~" : Str)=⟨#[126]⟩:=by decide+kernel
   refine⟨_,rfl,rfl,z, "~",rfl,rfl,_,rfl,?_⟩
   rw[tl,nO]
   refine jN (λh=>?_) (λh2=>?_)
   . have e:z.cps.toList[0]?=some 126:=abc h
     refine⟨_,rfl,_,rfl,z,1,rfl,rfl,rfl,xx,?_⟩
     have ts:bY z=Txt.slice z (some 1) none:=by
      rw[bY,aaI e,nS (Txt.slice z (some 1) none),rn]
     rw[← ts]
     exact kk
   . have e:¬ z.cps.toList[0]?=some 126:=λe=>h2 (aaT e)
     rw[bY,aay e]at kk
     exact⟨_,rfl,kk⟩
end
theorem fZ{x:Str}(h:aT x):bY x=x:=aay (xu h)
theorem iy(x:Str):bY ("~" ++ x)=x:=by
 unfold bY
 rw[aaI (by rw[fK];rfl),fK]
 exact(nS x).symm
theorem Iu:bY "0" = "0":=by decide+kernel
theorem Iv:bY "1" = "1":=by decide+kernel
noncomputable def ml(l:List (Str×Str)) (n:Str):Option Str:=(l.find? λr=>decide (r.1=n)).map (·.2)
theorem yx(n:Str):∀l:List (Str×Str),cu (bo l) (.inr n)=(ml l n).map V.str
 | []=>rfl
 | r::l=>by
  have ih:=yx n l
  by_cases e:r.1=n
  . rw[show bo (r::l)=(.inr r.1,.str r.2)::bo l from rfl,iA (by rw[e])]
    simp[ml,e]
  . rw[show bo (r::l)=(.inr r.1,.str r.2)::bo l from rfl,iB (λq=>e (acm q)),ih]
    simp[ml,e]
theorem DZ(l:List (Str×Str)) (n:Str):cE l n=(ml l n).getD n:=rfl
theorem Iw{l:List (Str×Str)}{n z:Str}(h:ml l n=some z):(n,z)∈l:=by
 unfold ml at h
 cases e:l.find? λr=>decide (r.1=n) with
 | none=>rw[e]at h;cases h
 | some r=>
  rw[e]at h
  cases h
  have h1:=List.find?_some e
  have h2:=abW e
  rw[← abc h1]
  exact h2
theorem Ku{l:List (Str×Str)}(nd:(l.map (·.1)).Nodup){n z:Str}(h:(n,z)∈l):ml l n=some z:=by
 unfold ml
 induction l with
 | nil=>cases h
 | cons r l ih=>
  rw[aas,aaU]at nd
  rcases aan.mp h with e|e
  . rw[← e,aaD (by simp)]
    rfl
  . have:¬ r.1=n:=λq=>nd.1 (aai.mpr ⟨(n,z),e,q.symm⟩)
    rw[aaz (by simpa using this)]
    exact ih nd.2 e
noncomputable abbrev yy:Stmt:=top 2
noncomputable abbrev yz:Stmt:=top 3
noncomputable def o9(z:Str):Str:=if z = "0" then "1" else if z = "1" then "0" else if z.cps.toList[0]?=some 126 then ⟨z.cps.toList.tail.toArray⟩ else "~" ++ z
noncomputable def BU:Sp:=λvs H Q _=>∃z:Str,vs=[.str z]/\z.length<=1000/\Q (.str (o9 z)) H
noncomputable def yA(C:Addr):Sp:=λvs H Q _=>∃(x dx g1 g2 g3 g4 g5 g6:Addr) (ts:List Addr) (M:ay) (n:Str),vs=[.ref x,.str n]/\MO C H x dx g1 g2 g3 g4 g5 g6 ts M/\Q (.str (cE M.nexts n)) H
section
variable {P:Program}{w:World}{K:W.Frag}{mg:Str->Option Value}{base:Heap}{C:Addr}
theorem Kv:aK ["literal"] ["literal"] (aw yy):=fs
theorem Iy{f:Addr}{fd:FuncData}(F:aO K "turned" "turned" yy f fd):aR P w K mg base aY 1 f fd ["literal"] BU:=by
 refine F.go Kv (λcdv A outer s H vs Q E hr h=>?_)
 obtain⟨z,rfl,hz,kk⟩:=h
 have xx:z.length<=sizeLine:=aap hz (by decide)
 refine⟨_,(aj (cP (bg iV (pv 0) av (cp _))
  (au (aI av)) bh)
  (aj (cP (bg iV (pv 0) av (cp _))
   (au (aI av)) bh)
  (aj (cP (iN (eU abD ab8 ab9 oZ (pv 0) (aa av ag)))
   (au (aI (jY ym (pv 0) (lQ ak) lP))) bh)
  (au (aI (aB cS av (pv 0))))))),?_⟩
 try dsimp only[i7]
 have tl:("~" : Str)=⟨#[126]⟩:=by decide+kernel
 unfold o9 at kk
 by_cases e0:z = "0"
 . rw[aaI e0]at kk
   subst e0
   exact⟨_,rfl,rfl,_,rfl,Qz kk⟩
 rw[aay e0]at kk
 refine⟨_,rfl,rfl,_,rfl,Qy e0 ?_⟩
 by_cases e1:z = "1"
 . rw[aaI e1]at kk
   subst e1
   exact⟨_,rfl,rfl,_,rfl,Qz kk⟩
 rw[aay e1]at kk
 refine⟨_,rfl,rfl,_,rfl,Qy e1 ?_⟩
 refine⟨_,rfl,rfl,z, "~",rfl,rfl,_,rfl,?_⟩
 rw[tl,nO]
 refine jN (λh=>?_) (λh2=>?_)
 . have e:z.cps.toList[0]?=some 126:=abc h
   rw[aaI e]at kk
   refine⟨_,rfl,_,rfl,z,1,rfl,rfl,rfl,xx,?_⟩
   have ts:(⟨z.cps.toList.tail.toArray⟩:Str)=Txt.slice z (some 1) none:=by rw[nS (Txt.slice z (some 1) none),rn]
   rw[← ts]
   exact kk
 . have e:¬ z.cps.toList[0]?=some 126:=λe=>h2 (aaT e)
   rw[aay e]at kk
   refine⟨_,rfl, "~",z,rfl,rfl,?_,kk⟩
   have:("~" : Str).length=1:=by decide+kernel
   rw[this]
   exact aap (show 1+z.length<=1001 by lia) (by decide)
theorem NS:aK ["machine", "keeper"] ["machine", "keeper"] (aw yz):=fs
theorem Kw{f:Addr}{fd:FuncData}(F:aO K "next_of" "next_of" yz f fd)(T:pO K mg C):aR P w K mg base aY 1 f fd ["machine", "keeper"] (yA C):=by
 refine F.go NS (λcdv A outer s H vs Q E hr h=>?_)
 obtain⟨x,dx,g1,g2,g3,g4,g5,g6,ts,M,n,rfl,hM,kk⟩:=h
 have hu:=dY hr
 refine⟨_,(au (aI (vI hu (dh (pv 0) rfl) (pv 1) (pv 1) ⟨rfl,rfl,rfl,rfl⟩))),?_⟩
 try dsimp only[i7]
 refine⟨_,rfl,x,C,dx,_,_,rfl,hM.hx,T.cl,T.n4,xt ..,g4,rfl,.inl ⟨_,.inl hM.h4⟩,_,rfl,_,rfl,_,a7.k (k:=.inr n) hM.h4,?_⟩
 rw[yx]
 rw[DZ]at kk
 cases e:ml M.nexts n with
 | none=>rw[e]at kk;exact kk
 | some z=>rw[e]at kk;exact kk
end
noncomputable abbrev wa:Stmt:=top 8
noncomputable abbrev FC:Stmt:=top 10
noncomputable def cZ(go:Str->Str)(z:Str):Str:=if z = "0" \/ z = "1" then z else if z.cps.toList[0]?=some 126 then o9 (go (bY z)) else go (bY z)
structure pf(kvs:List (Key×V)) (go:Str->Str) (z:Str):Prop where
 l:z.length<=1000
 v:z ≠ "0" -> z ≠ "1" -> cu kvs (.inr (bY z))=some (.str (go (bY z)))/\(go (bY z)).length<=1000
noncomputable def ph:Sp:=λvs H Q _=>∃(d:Addr) (kvs:List (Key×V)) (z:Str) (go:Str->Str),vs=[.ref d,.str z]/\Rd H d (.dK kvs)/\pf kvs go z/\∀H',ah H H'->Q (.str (cZ go z)) H'
noncomputable def fh(go:Str->Str)(r:Str×Str):Str×Str:=(r.1,cZ go r.2)
noncomputable def BV:Sp:=λvs H Q _=>∃(d e:Addr) (kvs:List (Key×V)) (l:List (Str×Str)) (go:Str->Str),vs=[.ref d,.ref e]/\H d=some (.dK kvs)/\d≠e/\H e=some (.dK (bo l))/\(l.map (·.1)).Nodup/\l.length<=1000/\(∀r∈l,pf kvs go r.2)/\
 ∀p H',ah H H'->H p=none->H' p=some (.dK (bo (l.map (fh go))))->Q (.ref p) H'
theorem yB{H H':Hp}{a:Addr}{u:HO}(s:ah H H')(h:Rd H a u):Rd H' a u:=h.imp (s _ _) λ⟨o,e⟩=>⟨o,s _ _ e⟩
theorem mY{H H2:Hp}{e:Addr}{o:Obj}{kv:List (Key×V)}(he:H e=some (.dK kv)) (s:ah (upd H e (.cj o (.dK kv))) H2):ah H (upd H2 e (.dK kv)):=λb u hb=>by
 by_cases h:b=e
 . subst h
   rw[he]at hb
   cases hb
   exact af
 . rw[ai h]
   exact s _ _ (by rw[ai h];exact hb)
theorem eX{α:Type}(l:List α):(l.filter λ_=>true)=l:=abj.mpr λ_ _=>rfl
theorem NT{l:List (Str×V)}(nd:(l.map (·.1)).Nodup){r:Str×V}(h:r∈l):cu (l.map λr=>((.inr r.1:Key),r.2)) (.inr r.1)=some r.2:=by
 induction l with
 | nil=>cases h
 | cons q l ih=>
  rw[aas,aaU]at nd
  rw[aas]
  rcases aan.mp h with e|e
  . rw[iA (by rw[e])]
    rw[e]
  . rw[iB λz=>nd.1 (aai.mpr ⟨r,e,(acm z).symm⟩)]
    exact ih nd.2 e
theorem Kx{z:Str}(h0:z ≠ "0")(h1:z ≠ "1"):iQ (.str z) [.str "0",.str "1"]=false:=by
 have:=qk z ["0", "1"]
 rw[show iQ (V.str z) [.str "0",.str "1"]=decide (z∈(["0", "1"]:List Str)) from this]
 exact aaS (by simp[h0,h1])
section
variable {P:Program}{w:World}{K:W.Frag}{mg:Str->Option Value}{base:Heap}{C:Addr}
theorem zW:aK ["names", "literal", "goal"] ["names", "literal"] (aw wa):=fs
theorem FD{f fB fT:Addr}{fd dB dT:FuncData}(F:aO K "carried" "carried" wa f fd)(CB:cc P w K mg base 1 fB dB "bare_name" ["literal"] xC)(CT:cc P w K mg base 1 fT dT "turned" ["literal"] BU):aR P w K mg base aY 2 f fd ["names", "literal"] ph:=by
 refine F.go zW (λcdv A outer s H vs Q E hr h=>?_)
 obtain⟨d,kvs,z,go,rfl,hd,hz,kk⟩:=h
 have hu:=dY hr
 refine⟨_,(aj (cP (bg iR (pv 1) (cx (aa av (aa av ag))) (by with_unfolding_all rfl))
  (au (aI (pv 1))) bh)
  (aj (dQ 2 zW.nd (aC hu (pv 0) (aV CB hr (aa (pv 1) ag)) (λ_ _=>rfl)))
  (au (aI (jX (iN (eU abD ab8 ab9 oZ (pv 1) (aa av ag))) (aV CT hr (aa (pv 2) ag)) (pv 2)))))),?_⟩
 try dsimp only[i7]
 have tl:("~" : Str)=⟨#[126]⟩:=by decide+kernel
 refine⟨_,rfl,(by show 2<=sizeLine;decide),λt ht=>?_⟩
 have st:ah H (upd H t (.tup [.str "0",.str "1"])):=ah.ao ht
 have qt:(upd H t (.tup [.str "0",.str "1"])) t=some (.tup [.str "0",.str "1"]):=af
 generalize upd H t (.tup [.str "0",.str "1"])=H1 at st qt ⊢
 have k0:=kk _ st
 refine⟨t,_,rfl,.inr (aM.of qt),rfl,rfl,_,rfl,?_⟩
 show if iQ (.str z) [.str "0",.str "1"]=true then _ else _
 unfold cZ at k0
 by_cases e0:z = "0"
 . subst e0
   rw[aaI (.inl rfl)]at k0
   rw[show iQ (V.str "0") [.str "0",.str "1"]=true from by decide+kernel]
   exact dm ⟨_,rfl,k0⟩
 by_cases e1:z = "1"
 . subst e1
   rw[aaI (.inr rfl)]at k0
   rw[show iQ (V.str "1") [.str "0",.str "1"]=true from by decide+kernel]
   exact dm ⟨_,rfl,k0⟩
 rw[aay (by simp[e0,e1])]at k0
 rw[Kx e0 e1]
 refine bu ?_
 obtain⟨v1,v2⟩:=hz.v e0 e1
 refine⟨_,rfl,_,rfl,z,rfl,hz.l,d,_,rfl,.inl ⟨kvs,.inr (bY z),yB st hd,rfl,v1.symm⟩,?_⟩
 refine⟨_,rfl,rfl,z, "~",rfl,rfl,_,rfl,?_⟩
 rw[tl,nO]
 refine jN (λh=>?_) (λh2=>?_)
 . rw[aaI (abc h)]at k0
   exact⟨_,rfl,_,rfl,v2,k0⟩
 . rw[aay λe=>h2 (aaT e)]at k0
   exact⟨_,rfl,k0⟩
theorem QM:aK ["names", "literals"] ["names", "literals"] (aw FC):=fs
theorem Iz(go:Str->Str) (l:List (Str×Str)):(l.map (fh go)).map (·.1)=l.map (·.1):=by rw[aau];rfl
theorem NU{f fC:Addr}{fd dC:FuncData}(F:aO K "literals_carried" "literals_carried" FC f fd)(O:gw mg)(CC:cc P w K mg base 2 fC dC "carried" ["names", "literal"] ph):aR P w K mg base aY 3 f fd ["names", "literals"] BV:=by
 refine F.go QM (λcdv A outer s H vs Q E hr h=>?_)
 obtain⟨d,e,kvs,l,go,rfl,hd,de,he,nd,hl,hc,kk⟩:=h
 have hu:=dY hr
 refine⟨_,(au (aI (aJ (bK rfl) (by rfl) O.dict aaC (aa (yh (dZ (N:=["name", "literal", "names"]) (js:=[none,none,some 0]) (g:=ng K 2 (eO (cv 0) (eO (cv 1) m7))) (by kernel_rfl) rfl (Kk (pv 1)) (λ_ _ _ _ _ _=>(cw rfl (ax (ar (i:=0) (show (["name", "literal", "names"]:List Str).Nodup from dk) rfl (Or.inl rfl) (.inr rfl)) (ax (ar (i:=1) (show (["name", "literal", "names"]:List Str).Nodup from dk) rfl (Or.inl rfl) (.inr rfl)) bF)))) (λ_ _ _ _ _ _=>bb) (λ_ _ _ _ _ _=>(cx (aa (pv 0) (aa (aV CC hr (aa (pv 2) (aa (pv 1) ag))) ag)))))) ag)))),?_⟩
 try dsimp only[i7]
 refine⟨_,rfl,e,_,rfl,he,λo D hD=>?_⟩
 have Mn:(upd H e (.cj o (.dK (bo l)))) e=some (.cj o (.dK (bo l))):=af
 have AW:(upd H e (.cj o (.dK (bo l)))) d=some (.dK kvs):=by rw[ai de];exact hd
 refine UP (xs:=l) (kp:=λ_=>true) (y:=λr=>.inr (.tup [.str r.1,.str (cZ go r.2)])) (λr=>.inr r.1) (λr=>.str r.2) (aap hl (by decide)) Mn hD (λr jU H9 s9=>rw_yes λY hY=>?_) λH2 vs s2 bx p2=>?_
 . refine⟨_,rfl,_,rfl,_,rfl,d,kvs,r.2,go,rfl,.inl (s9 _ _ AW),hc r jU,λH4 s4=>⟨by show 2<=sizeLine;decide,λT hT=>?_⟩⟩
   exact hY _ _ (λb u hb=>by rw[ai (ae (s4 _ _ hb) hT)];exact s4 _ _ hb) ⟨T,rfl,same_none s4 hT,af⟩
 . rw[eX]at p2
   obtain⟨ts,rfl,pt⟩:=gg p2
   have s3:=mY he s2
   refine⟨e,o,bo l,s2 _ _ Mn,λo' u z=>?_,?_⟩
   . have z':H e=some (.cj o' u):=z
     rw[he]at z'
     cases z'
   have DE:D≠e:=(ae Mn hD).symm
   refine⟨D,ts,(l.map (fh go)).map λr=>((.inr r.1:Key),V.str r.2),rfl,by rw[ai DE];exact bx,?_,λp hp=>?_⟩
   . rw[aau]
     refine bE (Paired.bQ pt λt r z=>?_)
     have te:t≠e:=λq=>by rw[q,Mn]at z;cases z.1
     rw[ai te]
     exact z.2
   . have em:bA [] ((l.map (fh go)).map λr=>((.inr r.1:Key),V.str r.2))=bo (l.map (fh go)):=kf (by rw[Iz];exact nd)
     rw[em]
     exact kk p _ (s3.trans (ah.ao hp)) (s3.free hp) af
end
noncomputable abbrev BW:Stmt:=top 9
noncomputable def eL(kvs:List (Key×V)) (n:Str):Bool:=decide (cu kvs (.inr n)=some (V.str n))
noncomputable def eY(go:Str->Str)(r:Str×Str×Str):Str×Str×Str:=(r.1,cZ go r.2.1,cZ go r.2.2)
noncomputable def fj(M:ay) (kvs:List (Key×V)):List (Str×V):=M.keepers.filter λr=>eL kvs r.1
noncomputable def mn(M:ay) (kvs:List (Key×V)):List (Str×Str):=M.nexts.filter λr=>decide (r.1∈(fj M kvs).map (·.1))
noncomputable def BX(M:ay) (kvs:List (Key×V)) (go:Str->Str) (nv sm:List (Str×Str)):ay:=
 ⟨M.switches.filter (eL kvs),fj M kvs,(M.gates.filter λr=>eL kvs r.1).map (eY go),(mn M kvs).map (fh go),nv.map (fh go),sm.map (fh go)⟩
structure QN(M:ay) (kvs:List (Key×V)) (go:Str->Str) (nv sm:List (Str×Str)):Prop where
 n1:M.switches.length<=100
 n2:M.keepers.length<=100
 n3:M.gates.length<=100
 n4:M.nexts.length<=100
 kd:(M.keepers.map (·.1)).Nodup
 nxd:(M.nexts.map (·.1)).Nodup
 vl:∀n∈bp M,∃v,cu kvs (.inr n)=some v/\(v=.aH\/∃z,v=.str z)
 gt:∀r∈M.gates,eL kvs r.1=true->pf kvs go r.2.1/\pf kvs go r.2.2
 nx:∀r∈M.nexts,r.1∈(fj M kvs).map (·.1)->pf kvs go r.2
 nvd:(nv.map (·.1)).Nodup
 nvl:nv.length<=1000
 nvc:∀r∈nv,pf kvs go r.2
 smd:(sm.map (·.1)).Nodup
 sml:sm.length<=1000
 smc:∀r∈sm,pf kvs go r.2
structure QO(C:Addr) (H H':Hp) (tp d y dy k1 k2 k3 k4 k5 k6:Addr) (us:List Addr) (M:ay):Prop where
 s:ah H H'
 t:H' tp=some (.tup [.ref y,.ref d])
 m:MO C H' y dy k1 k2 k3 k4 k5 k6 us M
 ny:H y=none
 nk:∀k∈[k1,k2,k3,k4,k5,k6],H k=none
 nd:[k1,k2,k3,k4,k5,k6].Nodup
noncomputable def yC(C:Addr):Sp:=λvs H Q _=>∃(x dx g1 g2 g3 g4 g5 g6 d e1 e2:Addr) (ts:List Addr) (M:ay) (kvs:List (Key×V)) (go:Str->Str) (nv sm:List (Str×Str)),vs=[.ref x,.ref d,.ref e1,.ref e2]/\MO C H x dx g1 g2 g3 g4 g5 g6 ts M/\H d=some (.dK kvs)/\H e1=some (.dK (bo nv))/\H e2=some (.dK (bo sm))/\d≠e1/\d≠e2/\d≠g2/\d≠g4/\QN M kvs go nv sm/\
 ∀(tp y dy k1 k2 k3 k4 k5 k6:Addr) (us:List Addr) (H':Hp),QO C H H' tp d y dy k1 k2 k3 k4 k5 k6 us (BX M kvs go nv sm)->Q (.ref tp) H'
theorem yD{kvs:List (Key×V)}{n:Str}{v:V}(h:cu kvs (.inr n)=some v):decide (v=V.str n)=eL kvs n:=by
 unfold eL
 rw[h]
 by_cases e:v=V.str n
 . rw[aaT e,aaT (by rw[e])]
 . rw[aaS e,aaS λq=>e (aaA q)]
theorem yE{v:V}{n:Str}(h:v=.aH\/∃z,v=.str z):Ey v (.str n)=true:=by
 rcases h with rfl|⟨z,rfl⟩ <;> rfl
theorem pq{α β:Type}{p:α->Bool}{g:α->β}{l:List α}{i:Nat}{x:α}(h:l[i]?=some x):((l.take (i+1)).filter p).map g=((l.take i).filter p).map g++if p x=true then [g x] else []:=by
 rw[abb,h,ab1,abd,aaf]
 congr 1
 by_cases e:p x=true
 . rw[aaI e,aaZ e];rfl
 . rw[aay e,aa1 e];rfl
theorem oH{α:Type}{p:Str×α->Bool}{l:List (Str×α)}(h:(l.map (·.1)).Nodup):((l.filter p).map (·.1)).Nodup:=ae3 (List.Sublist.map _ aeX) h
theorem Ky(z:Str)(l:List Str):iQ (.str z) (l.map V.str)=decide (z∈l):=qk z l
section
variable {P:Program}{w:World}{K:W.Frag}{mg:Str->Option Value}{base:Heap}{C:Addr}
noncomputable abbrev QP:List Str:=["machine", "names", "nevers", "somes", "gates", "name", "one", "other", "left", "small"]
noncomputable abbrev ub:List Str:=["machine", "names", "nevers", "somes"]
theorem l9:aK QP ub (aw BW):=fs
theorem Kz{f fC fL fI:Addr}{fd dC dL dI:FuncData}(F:aO K "round_of" "round_of" BW f fd)(T:pO K mg C)(O:gw mg)(CC:cc P w K mg base 2 fC dC "carried" ["names", "literal"] ph)(CL:cc P w K mg base 3 fL dL "literals_carried" ["names", "literals"] BV)
 (mI:Mk K C fI) (gI:aR P w K mg base aY 1 fI dI o7 (BD C)) (bI:Binds K dI o7 []):aR P w K mg base aY 4 f fd ub (yC C):=by
 refine F.go l9 (λcdv A outer s H vs Q E hr h=>?_)
 obtain⟨x,dx,g1,g2,g3,g4,g5,g6,d,e1,e2,ts,M,kvs,go,nv,sm,rfl,hM,hd,he1,Hb,de1,de2,dg2,dg4,ok,kk⟩:=h
 have hu:=dY hr
 have gp:aW 2 (A.deeper _):=hr.mono (by decide)
 refine⟨_,(aj (dQ 4 l9.nd (cq ag))
  (aj (df aaM rfl (bf (dh (pv 0) rfl)) (cw rfl (ax (ar (i:=5) l9.nd rfl (Or.inl rfl)) (ax (ar (i:=6) l9.nd rfl (Or.inl rfl)) (ax (ar (i:=7) l9.nd rfl (Or.inl rfl)) bF))))
   (au (cP (bg iV (aC hu (pv 1) (pv 5) (λ_ _=>rfl)) (pv 5) (cp _))
    (au (dr (eU aaJ aaQ aaR cJ (pv 4) (aa (cx (aa (pv 5) (aa (aV CC gp (aa (pv 1) (aa (pv 6) ag))) (aa (aV CC gp (aa (pv 1) (aa (pv 7) ag))) ag)))) ag)))) bh)))
  (aj (dQ 8 l9.nd (yh (dZ (N:=["keeper", "names"]) (js:=[none,some 1]) (te:=(cg 0)) (ti:=(wx (oP OT (oR (cg 1) (cg 0)) (cg 0)))) (by kernel_rfl) rfl (uE (dh (pv 0) rfl)) (λ_ _ _ _ _ _=>(ar (i:=0) (show (["keeper", "names"]:List Str).Nodup from dk) rfl (Or.inl rfl) (.inr rfl))) (λ_ _ _ _ _ _=>(jZ (bg iV (aC hu (pv 1) (pv 0) (λ_ _=>rfl)) (pv 0) (cp _)))) (λ_ _ _ _ _ _=>(pv 0)))))
  (aj (dQ 9 l9.nd (Dk mI gI gp rfl T.mgC bI .nil bJ (aa (dZ (N:=["name", "names"]) (js:=[none,some 1]) (te:=(cg 0)) (ti:=(wx (oP OT (oR (cg 1) (cg 0)) (cg 0)))) (by kernel_rfl) rfl (bf (dh (pv 0) rfl)) (λ_ _ _ _ _ _=>(ar (i:=0) (show (["name", "names"]:List Str).Nodup from dk) rfl (Or.inl rfl) (.inr rfl))) (λ_ _ _ _ _ _=>(jZ (bg iV (aC hu (pv 1) (pv 0) (λ_ _=>rfl)) (pv 0) (cp _)))) (λ_ _ _ _ _ _=>(pv 0))) (aa (aJ (bK rfl) (by rfl) O.dict aaC (aa (dZ (N:=["keeper", "machine"]) (js:=[none,some 0]) (te:=(pF (eJ (cg 0) (eJ (oR (JG K (cg 1) "keepers") (cg 0)) n9)))) (by kernel_rfl) rfl (bf (pv 8)) (λ_ _ _ _ _ _=>(ar (i:=0) (show (["keeper", "machine"]:List Str).Nodup from dk) rfl (Or.inl rfl) (.inr rfl))) (λ_ _ _ _ _ _=>bb) (λ_ _ _ _ _ _=>(cx (aa (pv 0) (aa (aC hu (dh (pv 1) rfl) (pv 0) (λ_ _=>rfl)) ag))))) ag)) (aa (pv 4) (aa (aV CL hr (aa (pv 1) (aa (aJ (bK rfl) (by rfl) O.dict aaC (aa (yh (dZ (N:=["keeper", "machine", "left"]) (js:=[none,some 0,some 8]) (te:=(pF (eJ (cg 0) (eJ (oR (JG K (cg 1) "nexts") (cg 0)) n9)))) (ti:=(wx (oP (LB K false) (cg 0) (cg 2)))) (by kernel_rfl) rfl (uE (dh (pv 0) rfl)) (λ_ _ _ _ _ _=>(ar (i:=0) (show (["keeper", "machine", "left"]:List Str).Nodup from dk) rfl (Or.inl rfl) (.inr rfl))) (λ_ _ _ _ _ _=>(jZ (bg iR (pv 0) (pv 2) (by with_unfolding_all rfl)))) (λ_ _ _ _ _ _=>(cx (aa (pv 0) (aa (aC hu (dh (pv 1) rfl) (pv 0) (λ_ _=>rfl)) ag)))))) ag)) ag))) (aa (aV CL hr (aa (pv 1) (aa (pv 2) ag))) (aa (aV CL hr (aa (pv 1) (aa (pv 3) ag))) ag))))))))
  (au (aI (cx (aa (pv 9) (aa (pv 1) ag))))))))),?_⟩
 try dsimp only[i7]
 refine⟨(by show 0<=sizeLine;decide),λG hG=>?_⟩
 have s0:ah H (upd H G (.lst [])):=ah.ao hG
 have q0:(upd H G (.lst [])) G=some (.lst []):=af
 generalize upd H G (.lst [])=H0 at s0 q0 ⊢
 have Mo:=hM.same s0
 have gU:=hM.hp.length
 have gl:∀(i:Nat) (us:List Addr) (Hi:Hp),Paired (λt r=>Hi t=some (.tup (cy r))) us (((M.gates.take i).filter λr=>eL kvs r.1).map (eY go))->us.length<=100:=λi us Hi p=>by
  rw[p.length,aaa]
  refine aap (aba _ _) ?_
  rw[aaO]
  exact aap (acy _ _) ok.n3
 refine⟨_,rfl,x,C,dx,_,_,rfl,Mo.hx,T.cl,T.n3,tW ..,g3,rfl,⟨_,aq.of Mo.h3⟩,fo (xs:=ts.map V.ref) (λi σ Hi=>∃(v5 v6 v7:Option V) (us:List Addr),σ=[some (.ref x),some (.ref d),some (.ref e1),some (.ref e2),some (.ref G),v5,v6,v7,none,none]/\ah H Hi/\Hi G=some (.lst (us.map V.ref))/\
  Paired (λt r=>Hi t=some (.tup (cy r))) us (((M.gates.take i).filter λr=>eL kvs r.1).map (eY go))) ⟨none,none,none,[],rfl,s0,q0,.nil⟩ (λi σ Hi _ ⟨_,_,_,_,_,s,_⟩=>aq.of (s _ _ hM.h3)) ?_ ?_⟩
 . rintro i v σ Hi hv ⟨v5,v6,v7,us,rfl,si,BY,pi⟩
   rw[aal]at hv
   cases ht:ts[i]? with
   | none=>rw[ht]at hv;cases hv
   | some t=>
    rw[ht]at hv
    cases hv
    obtain⟨r,eF⟩:∃r,M.gates[i]?=some r:=⟨_,aae (by have:=(aaq.mp ht).1;lia)⟩
    obtain⟨t',fk,dq⟩:=gd hM.hp eF
    rw[ht]at fk
    cases fk
    have lK:r∈M.gates:=aaN eF
    obtain⟨vv,ev,es⟩:=ok.vl r.1 (aag.mpr (.inr (aai.mpr ⟨r,lK,rfl⟩)))
    refine⟨t,_,rfl,aM.of (si _ _ dq),rfl,_,_,rfl,_,_,rfl,_,_,rfl,rfl,?_⟩
    refine⟨_,rfl,_,rfl,d,vv,rfl,.inl ⟨kvs,.inr r.1,.inl (si _ _ hd),rfl,ev.symm⟩,_,rfl,yE es,_,rfl,?_⟩
    rw[yD ev]
    have ft:=pq (p:=λr=>eL kvs r.1) (g:=eY go) eF
    cases hs:eL kvs r.1 with
    | false=>
     refine bu ⟨_,_,_,us,rfl,si,BY,?_⟩
     rw[ft,aay (by rw[hs];exact aat),abh]
     exact pi
    | true=>
     obtain⟨c1,c2⟩:=ok.gt r lK hs
     refine dm ⟨_,rfl,.inl ⟨rfl,_,aq.of BY⟩,_,rfl,_,rfl,_,rfl,d,kvs,r.2.1,go,rfl,.inl (si _ _ hd),c1,λH4 s4=>⟨_,rfl,_,rfl,d,kvs,r.2.2,go,rfl,.inl (s4 _ _ (si _ _ hd)),c2,λH5 s5=>⟨by show 3<=sizeLine;decide,λT hT=>?_⟩⟩⟩
     have nF:=s4.trans s5
     have t6:ah H5 (upd H5 T (.tup (cy (eY go r)))):=ah.ao hT
     have q6:(upd H5 T (.tup (cy (eY go r)))) T=some (.tup (cy (eY go r))):=af
     have er:([V.str r.1,.str (cZ go r.2.1),.str (cZ go r.2.2)]:List V)=cy (eY go r):=rfl
     rw[er]
     generalize upd H5 T (.tup (cy (eY go r)))=H6 at t6 q6 ⊢
     have s6:=nF.trans t6
     have IA:=s6 _ _ BY
     have ul:=gl i us Hi pi
     refine⟨G,_,_,rfl,rfl,IA,(by rw[aaa];exact small (by lia)),_,_,_,us++[T],rfl,λb u hb=>?_,?_,?_⟩
     . rw[ai (ae hb hG)]
       exact s6 _ _ (si _ _ hb)
     . rw[af,aaf];rfl
     . rw[ft,aaI hs]
       have nt:∀{b:Addr}{o:List V},H6 b=some (.tup o)->b≠G:=λhb e=>by rw[e,IA]at hb;cases hb
       refine abR (Paired.bQ pi λb r' e=>?_) ?_
       . have e':=s6 _ _ e
         rw[ai (nt e')]
         exact e'
       . rw[ai (nt q6)]
         exact q6
 rintro σ H1 ⟨v5,v6,v7,gs,rfl,s1,hG1,pg⟩
 rw[aaa,gU,aaH]at pg
 have fU:=hM.same s1
 refine⟨_,rfl,x,C,dx,_,_,rfl,fU.hx,T.cl,T.n2,qr ..,g2,_,rfl,fU.h2,λo2 D hD=>?_⟩
 have f2:(upd H1 g2 (.cj o2 (.dK (M.keepers.map λr=>((.inr r.1:Key),r.2))))) g2=some (.cj o2 (.dK (M.keepers.map λr=>((.inr r.1:Key),r.2)))):=af
 have QQ:(upd H1 g2 (.cj o2 (.dK (M.keepers.map λr=>((.inr r.1:Key),r.2))))) d=some (.dK kvs):=by rw[ai dg2];exact s1 _ _ hd
 refine Fx (xs:=M.keepers) (kp:=λr=>eL kvs r.1) (y:=λr=>.inl (.str r.1)) (λr=>.inr r.1) (λr=>r.2) (aap ok.n2 (by decide)) f2 hD (λr lK H9 s9=>?_) λH2 vs s2 bx p2=>?_
 . intro Z Y hZ hY
   obtain⟨vv,ev,es⟩:=ok.vl r.1 (aag.mpr (.inl (aag.mpr (.inr (aai.mpr ⟨r,lK,rfl⟩)))))
   refine⟨_,rfl,_,rfl,d,vv,rfl,.inl ⟨kvs,.inr r.1,.inl (s9 _ _ QQ),rfl,ev.symm⟩,_,rfl,yE es,_,rfl,?_⟩
   show (if decide (vv=V.str r.1)=true then _ else _)
   rw[yD ev]
   cases hs:eL kvs r.1 with
   | false=>exact bu (hZ hs _ λ_ _ h=>h)
   | true=>exact dm ⟨_,rfl,hY hs _ _ (λ_ _ h=>h) rfl⟩
 have ev:=iD p2
 subst ev
 have Mp:=mY fU.h2 s2
 refine⟨g2,o2,_,s2 _ _ f2,λo' u z=>?_,?_⟩
 . have z':H g2=some (.cj o' u):=z
   rw[hM.h2]at z'
   cases z'
 have D2:D≠g2:=(ae f2 hD).symm
 have DH1:H1 D=none:=by rw[ai D2]at hD;exact hD
 have vx:(upd H2 g2 (.dK (M.keepers.map λr=>((.inr r.1:Key),r.2)))) D=some (.lst ((fj M kvs).map λr=>V.str r.1)):=by rw[ai D2];exact bx
 generalize upd H2 g2 (.dK (M.keepers.map λr=>((.inr r.1:Key),r.2)))=H3 at Mp vx ⊢
 have s3:=s1.trans Mp
 have nC:=hM.same s3
 refine⟨_,rfl,x,C,dx,_,_,rfl,nC.hx,T.cl,T.n1,tV ..,g1,rfl,⟨_,aq.of nC.h1⟩,λE1 hE1=>?_⟩
 refine jG (xs:=M.switches) (kp:=eL kvs) (y:=λn=>.inl (.str n)) V.str (aap ok.n1 (by decide)) nC.h1 hE1 (λn hn H9 s9=>?_) λH4 vs s4 hE4 p4=>?_
 . intro Z Y hZ hY
   obtain⟨vv,ev,es⟩:=ok.vl n (aag.mpr (.inl (aag.mpr (.inl hn))))
   refine⟨_,rfl,_,rfl,d,vv,rfl,.inl ⟨kvs,.inr n,.inl (s9 _ _ (s3 _ _ hd)),rfl,ev.symm⟩,_,rfl,yE es,_,rfl,?_⟩
   show (if decide (vv=V.str n)=true then _ else _)
   rw[yD ev]
   cases hs:eL kvs n with
   | false=>exact bu (hZ hs _ λ_ _ h=>h)
   | true=>exact dm ⟨_,rfl,hY hs _ _ (λ_ _ h=>h) rfl⟩
 have ev:=iD p4
 subst ev
 have lz:=s3.trans s4
 have zX:=hM.same lz
 have kd:((fj M kvs).map (·.1)).Nodup:=oH ok.kd
 have kl:(fj M kvs).length<=100:=aap (aba _ _) ok.n2
 refine⟨_,rfl,D,rfl,⟨_,aq.of (s4 _ _ vx)⟩,λE2 hE2=>?_⟩
 refine jG (xs:=fj M kvs) (kp:=λ_=>true) (y:=λr=>.inr (.tup (fg r))) (λr=>V.str r.1) (aap kl (by decide)) (s4 _ _ vx) hE2 (λr lK H9 s9=>rw_yes λY hY=>?_) λH5 vs s5 hE5 p5=>?_
 . have hrM:r∈M.keepers:=(aaF.mp lK).1
   have vk:cu (M.keepers.map λr=>((.inr r.1:Key),r.2)) (.inr r.1)=some r.2:=NT ok.kd hrM
   refine⟨_,rfl,_,rfl,x,C,dx,_,_,rfl,s9 _ _ zX.hx,T.cl,T.n2,qr ..,_,rfl,g2,_,rfl,.inl ⟨_,.inr r.1,.inl (s9 _ _ zX.h2),rfl,vk.symm⟩,by show 2<=sizeLine;decide,λT hT=>?_⟩
   exact hY _ _ (ah.ao hT) (lZ hT)
 rw[eX]at p5
 obtain⟨k5,rfl,pk5⟩:=gg p5
 refine⟨E2,k5,eV (fj M kvs),rfl,hE5,?_,λf2 QR=>?_⟩
 . exact bE (Paired.bQ pk5 λt r z=>z.2)
 rw[show bA [] (eV (fj M kvs))=eV (fj M kvs) from jv _ [] kd]
 have t6:ah H5 (upd H5 f2 (.dK (eV (fj M kvs)))):=ah.ao QR
 have q6:(upd H5 f2 (.dK (eV (fj M kvs)))) f2=_:=af
 generalize upd H5 f2 (.dK (eV (fj M kvs)))=H6 at t6 q6 ⊢
 have zY:=s5.trans t6
 have nE:=lz.trans zY
 have vy:=hM.same nE
 have Mq:=s4.trans zY
 refine⟨_,rfl,_,rfl,_,rfl,x,C,dx,_,_,rfl,vy.hx,T.cl,T.n4,xt ..,g4,_,rfl,vy.h4,λo4 E4 QS=>?_⟩
 have f4:(upd H6 g4 (.cj o4 (.dK (bo M.nexts)))) g4=some (.cj o4 (.dK (bo M.nexts))):=af
 have D4:D≠g4:=λe=>by have:=Mq _ _ vx;rw[e,vy.h4]at this;cases this
 have x4:x≠g4:=λe=>by have:=vy.hx;rw[e,vy.h4]at this;cases this
 have fD4:(upd H6 g4 (.cj o4 (.dK (bo M.nexts)))) D=some (.lst ((fj M kvs).map λr=>V.str r.1)):=by rw[ai D4];exact Mq _ _ vx
 have fx4:(upd H6 g4 (.cj o4 (.dK (bo M.nexts)))) x=some (.ins C dx (jO g1 g2 g3 g4 g5 g6)):=by rw[ai x4];exact vy.hx
 have eD:((fj M kvs).map λr=>V.str r.1)=((fj M kvs).map (·.1)).map V.str:=by rw[aau];rfl
 refine Fx (xs:=M.nexts) (kp:=λr=>decide (r.1∈(fj M kvs).map (·.1))) (y:=λr=>.inr (.tup (bq r))) (λr=>.inr r.1) (λr=>.str r.2) (aap ok.n4 (by decide)) f4 QS (λr lK H9 s9=>?_) λH7 vs s7 hE7 p7=>?_
 . intro Z Y hZ hY
   have VX:=s9 _ _ fD4
   rw[eD]at VX
   have fl:(((fj M kvs).map (·.1)).map V.str).all kT=true:=by rw[abP];intro v hv;obtain⟨z,_,rfl⟩:=aai.mp hv;rfl
   refine⟨_,rfl,_,rfl,D,_,rfl,.inl (aq.of VX),rfl,fl,_,rfl,?_⟩
   show if iQ (.str r.1) (((fj M kvs).map (·.1)).map V.str)=true then _ else _
   rw[Ky]
   by_cases hs:r.1∈(fj M kvs).map (·.1)
   . rw[aaT hs]
     have vk:cu (bo M.nexts) (.inr r.1)=some (.str r.2):=by rw[yx,Ku ok.nxd lK];rfl
     refine dm ⟨_,rfl,_,rfl,x,C,dx,_,_,rfl,s9 _ _ fx4,T.cl,T.n4,xt ..,_,rfl,g4,_,rfl,.inl ⟨_,.inr r.1,.inr ⟨_,s9 _ _ f4⟩,rfl,vk.symm⟩,by show 2<=sizeLine;decide,λT hT=>?_⟩
     exact hY (aaT hs) _ _ (ah.ao hT) (lZ hT)
   . rw[aaS hs]
     exact bu (hZ (aaS hs) _ λ_ _ h=>h)
 have zA:=mY vy.h4 s7
 refine⟨g4,o4,_,s7 _ _ f4,λo' u z=>?_,?_⟩
 . have z':H g4=some (.cj o' u):=z
   rw[hM.h4]at z'
   cases z'
 obtain⟨k7,rfl,pk7⟩:=gg p7
 have E44:E4≠g4:=(ae f4 QS).symm
 have QT:(upd H7 g4 (.dK (bo M.nexts))) E4=some (.lst (k7.map V.ref)):=by rw[ai E44];exact hE7
 have VY:Paired (λt r=>(upd H7 g4 (.dK (bo M.nexts))) t=some (.tup (bq r))) k7 (mn M kvs):=Paired.bQ pk7 λt r z=>by
  rw[ai λe=>by rw[e,f4]at z;cases z.1]
  exact z.2
 generalize upd H7 g4 (.dK (bo M.nexts))=H8 at zA QT VY ⊢
 have xd:((mn M kvs).map (·.1)).Nodup:=oH ok.nxd
 refine⟨E4,k7,bo (mn M kvs),rfl,QT,bE (Paired.bQ VY λt r z=>z),λIB VZ=>?_⟩
 rw[kf xd]
 have t9:ah H8 (upd H8 IB (.dK (bo (mn M kvs)))):=ah.ao VZ
 have q9:(upd H8 IB (.dK (bo (mn M kvs)))) IB=_:=af
 generalize upd H8 IB (.dK (bo (mn M kvs)))=H9 at t9 q9 ⊢
 have QU:=zA.trans t9
 have zZ:=nE.trans QU
 have dn:∀{p:Addr},H8 p=none->d≠p:=λhp e=>by have:=(nE.trans zA) _ _ hd;rw[e,hp]at this;cases this
 refine⟨d,IB,kvs,mn M kvs,go,rfl,zZ _ _ hd,dn VZ,q9,xd,aap (aba _ _) (aap ok.n4 (by decide)),λr lK=>?_,λp4 J1 u1 np4 qp4=>?_⟩
 . obtain⟨z1,z2⟩:=aaF.mp lK
   exact ok.nx r z1 (abc z2)
 have v1:=zZ.trans u1
 refine⟨_,rfl,_,rfl,d,e1,kvs,nv,go,rfl,v1 _ _ hd,de1,v1 _ _ he1,ok.nvd,ok.nvl,ok.nvc,λp5 J2 u2 np5 qp5=>?_⟩
 have v2:=v1.trans u2
 refine⟨_,rfl,_,rfl,d,e2,kvs,sm,go,rfl,v2 _ _ hd,de2,v2 _ _ Hb,ok.smd,ok.sml,ok.smc,λp6 J3 u3 np6 qp6=>?_⟩
 have v3:=v2.trans u3
 intro y dy hy QJ ig
 have t7:ah J3 (upd (upd J3 dy (.own y)) y (.ins C dy [])):=λb o hb=>by
  rw[ai (ae hb hy),ai (ae hb QJ)]
  exact hb
 have q7:(upd (upd J3 dy (.own y)) y (.ins C dy [])) y=some (.ins C dy []):=af
 generalize upd (upd J3 dy (.own y)) y (.ins C dy [])=J4 at t7 q7 ⊢
 have v4:=v3.trans t7
 have w9:ah H9 J4:=((u1.trans u2).trans u3).trans t7
 have w6:ah H6 J4:=QU.trans w9
 refine⟨y,dy,E1,f2,G,p4,p5,p6,⟨M.switches.filter (eL kvs),eV (fj M kvs),gs,bo ((mn M kvs).map (fh go)),bo (nv.map (fh go)),bo (sm.map (fh go))⟩,rfl,q7,⟨w6 _ _ (zY _ _ hE4),w6 _ _ q6,w6 _ _ (Mq _ _ (Mp _ _ hG1)),((u2.trans u3).trans t7) _ _ qp4,(u3.trans t7) _ _ qp5,t7 _ _ qp6⟩,λk1 k2 k3 k4 k5 k6 J5 hg lI QK qy zV=>⟨rfl,?_⟩⟩
 have yn:H y=none:=same_none v3 hy
 have w5:ah H J5:=λb o hb=>zV b o (v4 _ _ hb) (ae hb yn)
 refine⟨_,rfl,_,rfl,(by show 2<=sizeLine;decide),λtp tw=>?_⟩
 have V0:ah J5 (upd J5 tp (.tup [.ref y,.ref d])):=ah.ao tw
 refine kk tp y dy k1 k2 k3 k4 k5 k6 gs _ ⟨w5.trans V0,af,MO.same ⟨⟨QK,qy.h1,qy.h2,qy.h3,Paired.bQ pg λt r e=>?_⟩,qy.h4,qy.h5,qy.h6⟩ V0,yn,λk hk=>same_none v4 (hg k hk),lI⟩
 have uZ:J3 t=some (.tup (cy r)):=((Mp.trans Mq).trans (QU.trans ((u1.trans u2).trans u3))) _ _ e
 exact zV t _ (t7 _ _ uZ) (ae uZ hy)
end
noncomputable def kg(z:Str):List Str:=if bY z = "0" \/ bY z = "1" then [] else [bY z]
noncomputable def Ap(M:ay)(a:Str):List Str:=((M.gates.find? λg=>decide (g.1=a)).map λg=>[g.2.1,g.2.2]).getD []
noncomputable def Aq(M:ay)(a:Str):List Str:=if a∈M.keepers.map (·.1) then [cE M.nexts a] else []
inductive Hg(M:ay) (l:Str):Str->Prop
 | base {n:Str} : n∈kg l->Hg M l n
 | step {a z n:Str} : Hg M l a->z∈Ap M a++Aq M a->n∈kg z->Hg M l n
theorem Lit.len{names:List Str}{z:Str}(h:Lit names z)(hn:∀x∈names,aT x):z.length<=9:=by
 refine(BE.len (z:=z) ?_).2
 rcases h with rfl|rfl|⟨x,hx,rfl|rfl⟩
 . exact .inl rfl
 . exact .inr (.inl rfl)
 . exact .inr (.inr (.inl (hn _ hx)))
 . exact .inr (.inr (.inr ⟨x,hn _ hx,rfl⟩))
theorem KA{names:List Str}{z:Str}(h:Lit names z)(hn:∀x∈names,aT x):bY z = "0" \/ bY z = "1" \/ bY z∈names:=by
 rcases h with rfl|rfl|⟨x,hx,rfl|rfl⟩
 . exact .inl Iu
 . exact .inr (.inl Iv)
 . rw[fZ (hn _ hx)]
   exact .inr (.inr hx)
 . rw[iy]
   exact .inr (.inr hx)
theorem uK{names:List Str}{z n:Str}(h:Lit names z)(hn:∀x∈names,aT x)(hm:n∈kg z):n∈names:=by
 unfold kg at hm
 split at hm
 . cases hm
 . rename_i e
   rw[aao.mp hm]
   rcases KA h hn with q|q|q
   . exact absurd (.inl q) e
   . exact absurd (.inr q) e
   . exact q
theorem Lit.up{a b:List Str}{z:Str}(h:Lit a z)(k:∀x∈a,x∈b):Lit b z:=by
 rcases h with h|h|⟨x,hx,h⟩
 . exact .inl h
 . exact .inr (.inl h)
 . exact .inr (.inr ⟨x,k x hx,h⟩)
theorem az.FE{M:ay}{names:List Str}(ok:az M names){r:Str×Str×Str}(h:r∈M.gates):Lit names r.2.1/\Lit names r.2.2:=by
 obtain⟨i,hi,e⟩:=acr h
 have g:=ok.gl i r (by rw[aae hi,e])
 have sub:∀x∈M.switches++M.keepers.map (·.1)++(M.gates.take i).map (·.1),x∈names:=λx hx=>by
  rw[ok.all]
  rcases aag.mp hx with h|h
  . exact aag.mpr (.inl h)
  . obtain⟨q,hq,rfl⟩:=aai.mp h
    exact aag.mpr (.inr (aai.mpr ⟨q,abz hq,rfl⟩))
 exact⟨g.1.up sub,g.2.up sub⟩
theorem az.j4{M:ay}{names:List Str}(ok:az M names){a:Str}(h:a∈M.keepers.map (·.1)):a∈names:=by
 rw[ok.all]
 exact aag.mpr (.inl (aag.mpr (.inr h)))
theorem az.yF{M:ay}{names:List Str}(ok:az M names){a:Str}(h:a∈names):Lit names (cE M.nexts a):=by
 rw[DZ]
 cases e:ml M.nexts a with
 | none=>exact .inr (.inr ⟨a,h,.inl rfl⟩)
 | some z=>exact ok.nxl (a,z) (Iw e)
noncomputable def JT(H:Hp) (jl:List (Str×V)) (gs:List (Str×Str×Str)):Prop:=Paired (λ(p:Str×V) (g:Str×Str×Str)=>p.1=g.1/\∃u,p.2=.ref u/\H u=some (.tup [.str g.2.1,.str g.2.2])) jl gs
theorem JT.same{H H':Hp}{jl:List (Str×V)}{gs:List (Str×Str×Str)}(h:JT H jl gs) (s:ah H H'):JT H' jl gs:=Paired.bQ h λp g ⟨e1,u,e2,e3⟩=>⟨e1,u,e2,s _ _ e3⟩
structure D0(M:ay) (l:Str) (fs ws:List Str):Prop where
 nd:fs.Nodup
 f:∀n∈fs,Hg M l n
 w:∀z∈ws,∀n∈kg z,Hg M l n
 c:∀a∈fs,∀z∈Ap M a++Aq M a,∀n∈kg z,n∈fs\/∃z'∈ws,n∈kg z'
 b:∀n∈kg l,n∈fs\/∃z'∈ws,n∈kg z'
theorem D0.drop{M:ay}{l:Str}{fs ws:List Str}{z:Str}(h:D0 M l fs (ws++[z])) (hz:∀n∈kg z,n∈fs):D0 M l fs ws:=by
 have red:∀n,(n∈fs\/∃z'∈ws++[z],n∈kg z')->n∈fs\/∃z'∈ws,n∈kg z':=λn q=>by
  rcases q with q|⟨z',q1,q2⟩
  . exact .inl q
  . rcases aag.mp q1 with q|q
    . exact .inr ⟨z',q,q2⟩
    . rw[aao.mp q]at q2
      exact .inl (hz n q2)
 exact⟨h.nd,h.f,λz' q=>h.w z' (aag.mpr (.inl q)),λa ha z' q n hn=>red n (h.c a ha z' q n hn),λn hn=>red n (h.b n hn)⟩
theorem D0.take{M:ay}{l:Str}{fs ws:List Str}{z n:Str}(h:D0 M l fs (ws++[z])) (hz:kg z=[n]) (hn:n∉fs):D0 M l (fs++[n]) (ws++(Ap M n++Aq M n)):=by
 have hg:Hg M l n:=h.w z (aag.mpr (.inr (aao.mpr rfl))) n (by rw[hz];exact aao.mpr rfl)
 have red:∀m,(m∈fs\/∃z'∈ws++[z],m∈kg z')->m∈fs++[n]\/∃z'∈ws++(Ap M n++Aq M n),m∈kg z':=λm q=>by
  rcases q with q|⟨z',q1,q2⟩
  . exact .inl (aag.mpr (.inl q))
  . rcases aag.mp q1 with q|q
    . exact .inr ⟨z',aag.mpr (.inl q),q2⟩
    . rw[aao.mp q,hz]at q2
      exact .inl (aag.mpr (.inr q2))
 refine⟨?_,λm hm=>?_,λz' q m hm=>?_,λa ha z' q m hm=>?_,λm hm=>red m (h.b m hm)⟩
 . refine aaB.mpr ⟨h.nd,aaU.mpr ⟨aaE,ace⟩,λa ha b hb e=>hn ?_⟩
   rw[← aao.mp hb,← e]
   exact ha
 . rcases aag.mp hm with q|q
   . exact h.f m q
   . rw[aao.mp q];exact hg
 . rcases aag.mp q with q|q
   . exact h.w z' (aag.mpr (.inl q)) m hm
   . exact .step hg q hm
 . rcases aag.mp ha with ha|ha
   . exact red m (h.c a ha z' q m hm)
   . rw[aao.mp ha]at q
     exact .inr ⟨z',aag.mpr (.inr q),hm⟩
theorem qz{z:Str}(h0:bY z ≠ "0")(h1:bY z ≠ "1"):kg z=[bY z]:=aay (by simp[h0,h1])
theorem yG{f:Str->V}{n:Str} : ∀{l:List Str},n∈l->cu (l.map λn=>((.inr n:Key),f n)) (.inr n)=some (f n)
 | a::l,h=>by
  rw[aas]
  by_cases e:a=n
  . rw[iA (by rw[e]),e]
  . rw[iB λq=>e (acm q)]
    exact yG ((aan.mp h).resolve_left (aav e))
theorem NV{names:List Str}{z:Str}(h:Lit names z)(hn:∀x∈names,aT x):cZ id z=z:=by
 unfold cZ
 rcases h with rfl|rfl|⟨x,hx,rfl|rfl⟩
 . rw[aaI (.inl rfl)]
 . rw[aaI (.inr rfl)]
 . obtain⟨a,b,c⟩:=gB (hn _ hx)
   rw[aay (by simp[a,b]),aay c]
   exact fZ (hn _ hx)
 . obtain⟨a,b⟩:=oC x
   obtain⟨a',b',c'⟩:=gB (hn _ hx)
   rw[aay (by simp[a,b]),aaI (by rw[fK];rfl)]
   show o9 (bY ("~" ++ x))=_
   rw[iy]
   unfold o9
   rw[aay a',aay b',aay c']
theorem xD{names:List Str}{z:Str}(h:Lit names z)(hn:∀x∈names,aT x)(h0:z ≠ "0")(h1:z ≠ "1"):bY z∈kg z:=by
 have hb:bY z ≠ "0" /\ bY z ≠ "1":=by
  rcases h with rfl|rfl|⟨x,hx,rfl|rfl⟩
  . exact absurd rfl h0
  . exact absurd rfl h1
  . rw[fZ (hn _ hx)]
    exact⟨h0,h1⟩
  . rw[iy]
    obtain⟨a,b,_⟩:=gB (hn _ hx)
    exact⟨a,b⟩
 rw[qz hb.1 hb.2]
 exact aao.mpr rfl
theorem KC{z:Str}(h:aT z):z.length<=9:=(BE.len (.inr (.inr (.inl h)))).2
structure jw(M:ay):Prop where
 n1:M.switches.length<=12
 n2:M.keepers.length<=16
 n3:M.gates.length<=60
 n4:M.nexts.length<=16
 n5:M.nevers.length<=8
 n6:M.somes.length<=8
section
variable {P:Program}{w:World}{K:W.Frag}{mg:Str->Option Value}{base:Heap}{C:Addr}
end
noncomputable def nG(M S:ay)(bs:List Int):List Int:=S.switches.map (bw (M.switches.zip bs))
noncomputable def je(M S:ay)(cs:List Int):List Int:=S.keepers.map λr=>bw ((M.keepers.map (·.1)).zip cs) r.1
structure IC(M:ay) (cs:List Int):Prop where
 n:dj M.keepers.length cs
 f:∀r∈M.keepers,r.2=.aH\/r.2=.int (bw ((M.keepers.map (·.1)).zip cs) r.1)
structure Mr(M S:ay) (l:List Str) (f:Str->V) (I:List Int->Prop):Prop where
 kp:∀r∈S.keepers,r∈M.keepers
 sw:∀n∈S.switches,n∈M.switches
 ln:∀n∈l,n∈bp M
 fv:∀n∈l,f n=.aH\/∃z,f n=.str z
 st:∀cs,IC M cs->I cs
 vs:∀bs cs,dj M.switches.length bs->dj M.keepers.length cs->I cs->∀n∈l,∀z,f n=.str z->o8 (cQ S (nG M S bs) (je M S cs) S.gates.length) z/\eW (cQ S (nG M S bs) (je M S cs) S.gates.length) z=bw (cQ M bs cs M.gates.length) n
 nx:∀bs cs,dj M.switches.length bs->dj M.keepers.length cs->I cs->I (iu M bs cs)/\iu S (nG M S bs) (je M S cs)=je M S (iu M bs cs)
theorem uc{α:Type}{p:α->Bool} : ∀{L:List α}{i:Nat}{r:α},(L.filter p)[i]?=some r->∃j,L[j]?=some r/\(L.filter p).take i=(L.take j).filter p
 | [],i,r,h=>by simp at h
 | a::L,i,r,h=>by
  by_cases e:p a=true
  . rw[aaZ e]at h ⊢
    cases i with
    | zero=>exact⟨0,by simpa using h,by simp⟩
    | succ i=>
     obtain⟨j,h1,h2⟩:=uc (L:=L) (i:=i) (r:=r) (by simpa using h)
     exact⟨j+1,by simpa using h1,by rw[aco,aco,aaZ e,h2]⟩
  . rw[aa1 e]at h ⊢
    obtain⟨j,h1,h2⟩:=uc (L:=L) (i:=i) (r:=r) h
    exact⟨j+1,by simpa using h1,by rw[aco,aa1 e,h2]⟩
theorem c9{α:Type}(need:Str->Bool):∀l:List (Str×α),(l.filter λr=>need r.1).map (·.1)=(l.map (·.1)).filter need
 | []=>rfl
 | r::l=>by
  have ih:=c9 need l
  by_cases e:need r.1=true
  . rw[aaZ (by exact e),aas,aas,aaZ e,ih]
  . rw[aa1 (by exact e),aas,aa1 e,ih]
theorem KD{names ns:List Str}{need:Str->Bool}(hn:∀x∈names,aT x){z:Str}(h:Lit ns z)(hs:∀x∈ns,x∈names)(hz:∀n∈kg z,need n=true):Lit (ns.filter need) z:=by
 rcases h with rfl|rfl|⟨x,hx,h⟩
 . exact .inl rfl
 . exact .inr (.inl rfl)
 . have hN:=hn x (hs x hx)
   have hb:bY z=x:=by
    rcases h with rfl|rfl
    . exact fZ hN
    . exact iy x
   obtain⟨a,b,_⟩:=gB hN
   refine .inr (.inr ⟨x,aaF.mpr ⟨hx,hz x ?_⟩,h⟩)
   rw[qz (by rw[hb];exact a) (by rw[hb];exact b),hb]
   exact aao.mpr rfl
section
variable {M:ay}{names:List Str}{jf:Str}{need:Str->Bool}
theorem ud{l:List Str}{f:Str->Int}{n:Str}(h:n∈l):bw (l.zip (l.map f)) n=f n:=by
 induction l with
 | nil=>cases h
 | cons a l ih=>
  rw[aas,abe]
  unfold bw
  by_cases e:a=n
  . rw[aaD (by simpa using e),e]
    rfl
  . rw[aaz (by simpa using e)]
    exact ih ((aan.mp h).resolve_left (aav e))
theorem nU{S:ay}{bs:List Int} : (nG M S bs).length=S.switches.length:=aaa _
theorem uL{S:ay}{cs:List Int} : (je M S cs).length=S.keepers.length:=aaa _
theorem C8{l:List (Str×Str)}{n:Str}(h:need n=true):cE (l.filter λr=>need r.1) n=cE l n:=by
 unfold cE
 congr 2
 induction l with
 | nil=>rfl
 | cons r l ih=>
  by_cases e:r.1=n
  . rw[aaZ (by show need r.1=true;rw[e];exact h),aaD (by simpa using e),aaD (by simpa using e)]
  . rw[aaz (by simpa using e)]
    by_cases q:need r.1=true
    . rw[aaZ (by exact q),aaz (by simpa using e),ih]
    . rw[aa1 (by exact q),ih]
theorem xE{bs cs:List Int}(ok:az M names){r:Str×V}(h:r∈M.keepers):bw ((M.keepers.map (·.1)).zip (iu M bs cs)) r.1=eW (cQ M bs cs M.gates.length) (cE M.nexts r.1):=by
 have e:iu M bs cs=(M.keepers.map (·.1)).map λn=>eW (cQ M bs cs M.gates.length) (cE M.nexts n):=by unfold iu;rw[aau];rfl
 rw[e]
 exact ud (f:=λn=>eW (cQ M bs cs M.gates.length) (cE M.nexts n)) (aai.mpr ⟨r,h,rfl⟩)
end
noncomputable abbrev FF:Stmt:=top 32
noncomputable abbrev BZ:Stmt:=top 33
noncomputable abbrev KG:Stmt:=top 34
noncomputable abbrev xF:Stmt:=top 35
noncomputable def su(z:Str):Prop:=(PyData.str z).canLay0=true
theorem qA{z:Str}(h:∀c∈z.cps.toList,c<1114112):su z:=by
 unfold su
 rw[PyData.canLay0]
 show z.cps.all (· < 1114112)=true
 rw[← Array.all_toList,abP]
 exact λc hc=>aaT (h c hc)
theorem iE{z:Str}(h:aT z):su z:=qA λc hc=>by have:=iC.mp (h.2.2 c hc);lia
theorem qB{names:List Str}{z:Str}(h:Lit names z)(hn:∀x∈names,aT x):su z:=by
 rcases h with rfl|rfl|⟨x,hx,rfl|rfl⟩
 . exact qA (by decide+kernel)
 . exact qA (by decide+kernel)
 . exact iE (hn _ hx)
 . refine qA λc hc=>?_
   rw[fK]at hc
   rcases aan.mp hc with rfl|hc
   . decide
   . have:=iC.mp ((hn _ hx).2.2 c hc);lia
noncomputable def ja(v:V):Prop:=(∃i,v=.int i)\/(∃z,v=.str z/\su z)\/v=.aH
noncomputable def dv:V->PyData
 | .int i=>.int i
 | .str z=>.str z
 | _=>.none
noncomputable def wb(l:List V):PyData:=.tuple (l.map dv)
noncomputable def pQ(rs:List (List V)):PyData:=.list (rs.map wb)
theorem QV{K:W.Frag}{H:Hp}{v:V}(h:ja v):Dp K H v (dv v):=by
 rcases h with⟨i,rfl⟩|⟨z,rfl,_⟩|rfl
 . exact .int i
 . exact .str z
 . exact .aH
theorem D5{K:W.Frag}{H:Hp} : ∀{l:List V},(∀v∈l,ja v)->jT K H l (l.map dv)
 | [],_=>.nil
 | v::l,h=>.cons (QV (h v aaX)) (D5 λu hu=>h u (aaL _ hu))
theorem QW{v:V}(h:ja v):(dv v).canLay0=true:=by
 rcases h with⟨i,rfl⟩|⟨z,rfl,h⟩|rfl
 . rfl
 . exact h
 . rfl
theorem QX(v:V):(dv v).depth=0:=by cases v <;> rfl
theorem NW{l:List V}(hf:∀v∈l,ja v):(wb l).canLay0=true:=by
 rw[wb,PyData.canLay0]
 exact yr λd hd=>by obtain⟨v,hv,rfl⟩:=aai.mp hd;exact QW (hf v hv)
theorem NX(l:List V):(wb l).depth<=1:=by
 rw[wb,PyData.depth]
 have:=yt (l:=l.map dv) (n:=0) λd hd=>by obtain⟨v,_,rfl⟩:=aai.mp hd;rw[QX];exact aah _
 lia
theorem gF{rs:List (List V)}(hf:∀r∈rs,∀v∈r,ja v):(pQ rs).canLay0=true:=by
 rw[pQ,PyData.canLay0]
 exact yr λd hd=>by obtain⟨v,hv,rfl⟩:=aai.mp hd;exact NW (hf v hv)
theorem gG(rs:List (List V)):(pQ rs).depth<=2:=by
 rw[pQ,PyData.depth]
 have:=yt (l:=rs.map wb) (n:=1) λd hd=>by obtain⟨v,_,rfl⟩:=aai.mp hd;exact NX v
 lia
theorem eB{K:W.Frag}{H:Hp}{a:Addr}{rs:List (List V)}(h:aE H a rs) (hf:∀r∈rs,∀v∈r,ja v):Dp K H (.ref a) (pQ rs):=by
 obtain⟨ts,h1,h2⟩:=h
 refine .lst (aq.of h1) (BN ?_)
 have:∀{ts:List Addr}{rs:List (List V)},Paired (λt r=>H t=some (.tup r)) ts rs->(∀r∈rs,∀v∈r,ja v)->Paired (λu r=>Dp K H (.ref u) (wb r)) ts rs:=by
  intro ts rs p
  induction p with
  | nil=>intro _;exact .nil
  | cons h0 _ ih=>intro hf;exact .cons (.tup (aM.of h0) (D5 (hf _ aaX))) (ih λr hr=>hf r (aaL _ hr))
 exact this h2 hf
noncomputable def xG(l:List Str):PyData:=.list (l.map PyData.str)
theorem B0{l:List Str}(h:∀z∈l,su z):(xG l).canLay0=true:=by
 rw[xG,PyData.canLay0]
 exact yr λd hd=>by obtain⟨v,hv,rfl⟩:=aai.mp hd;exact h v hv
theorem B1(l:List Str):(xG l).depth<=1:=by
 rw[xG,PyData.depth]
 have:=yt (l:=l.map PyData.str) (n:=0) λd hd=>by obtain⟨v,_,rfl⟩:=aai.mp hd;exact aah _
 lia
theorem kh{K:W.Frag}{H:Hp}{x y:V}{d:PyData}{Q:VK}(hx:Dp K H x d)(hy:Dp K H y d)(hl:d.canLay0=true)(hd:d.depth<=2) (q:Q (.bl false) H):Ml K 2 (λa b=>!PyData.eqv a b) x y H Q:=
 ⟨d,d,hx,hy,hl,hl,by rw[Nat.min_self];exact hd,by show Q (.bl (!PyData.eqv d d)) H;rw[ady d hl];exact q⟩
theorem NY{K:W.Frag}{H:Hp}{x y:V}{d:PyData}{Q:VK}(hx:Dp K H x d)(hy:Dp K H y d)(hl:d.canLay0=true)(hd:d.depth<=2) (q:Q (.bl true) H):Ml K 2 PyData.eqv x y H Q:=
 ⟨d,d,hx,hy,hl,hl,by rw[Nat.min_self];exact hd,by rw[ady d hl];exact q⟩
theorem xH{M:ay}{names:List Str}(ok:az M names):∀r∈M.keepers.map fg,∀v∈r,ja v:=λr hr v hv=>by
 obtain⟨k,hk,rfl⟩:=aai.mp hr
 rcases aan.mp hv with rfl|hv
 . exact .inr (.inl ⟨_,rfl,iE (ok.nm _ (ok.j4 (aai.mpr ⟨k,hk,rfl⟩)))⟩)
 . rw[aao.mp hv]
   rcases ok.first k hk with e|e|e
   . exact .inl ⟨_,e⟩
   . exact .inl ⟨_,e⟩
   . exact .inr (.inr e)
theorem xI{M:ay}{names:List Str}(ok:az M names):∀r∈M.gates.map cy,∀v∈r,ja v:=λr hr v hv=>by
 obtain⟨k,hk,rfl⟩:=aai.mp hr
 obtain⟨g1,g2⟩:=ok.FE hk
 simp only[cy,aan,aaE,abv]at hv
 rcases hv with rfl|rfl|rfl
 . refine .inr (.inl ⟨_,rfl,iE (ok.nm _ ?_)⟩)
   rw[ok.all]
   exact aag.mpr (.inr (aai.mpr ⟨k,hk,rfl⟩))
 . exact .inr (.inl ⟨_,rfl,qB g1 ok.nm⟩)
 . exact .inr (.inl ⟨_,rfl,qB g2 ok.nm⟩)
theorem FG{l:List (Str×Str)}(h:∀r∈l,su r.1/\su r.2):∀r∈l.map bq,∀v∈r,ja v:=λr hr v hv=>by
 obtain⟨k,hk,rfl⟩:=aai.mp hr
 simp only[bq,aan,aaE,abv]at hv
 rcases hv with rfl|rfl
 . exact .inr (.inl ⟨_,rfl,(h k hk).1⟩)
 . exact .inr (.inl ⟨_,rfl,(h k hk).2⟩)
theorem mq{names told:List Str}{l:List (Str×Str)}(hn:∀x∈names,aT x) (h:i6 names told l):∀r∈l.map bq,∀v∈r,ja v:=FG λr hr=>⟨iE (h.nm r hr),qB (h.lit r hr) hn⟩
noncomputable def B2(C:Addr):Sp:=λvs H Q _=>∃(x dx g1 g2 g3 g4 g5 g6:Addr) (ts:List Addr) (M:ay),vs=[.ref x]/\MO C H x dx g1 g2 g3 g4 g5 g6 ts M/\jw M/\
 ∀(v a1 a2 a3 a4 a5 a6:Addr) (H':Hp),ah H H'->cb H' v M a1 a2 a3 a4 a5 a6->Q (.ref v) H'
theorem aE.eE{H H':Hp}{a m:Addr}{rs:List (List V)}{kvs:List (Key×V)}(h:aE H a rs) (k:aL H H' m) (hm:H m=some (.dK kvs)):aE H' a rs:=by
 obtain⟨ts,h1,h2⟩:=h
 exact⟨ts,k _ _ h1 (λe=>by rw[e,hm]at h1;cases h1),Paired.bQ h2 λt r e=>k _ _ e λq=>by rw[q,hm]at e;cases e⟩
theorem qC{H H1:Hp}{a:Addr}{ts:List Addr}{α:Type}{l:List α}{f:α->Key×V}{g:α->List V}(e:∀x,[kV (f x).1,(f x).2]=g x) (h1:H a=some (.lst (ts.map V.ref))) (p:Paired (λt (kv:Key×V)=>H1 t=none/\H t=some (.tup [kV kv.1,kv.2])) ts (l.map f)):aE H a (l.map g):=
 ⟨ts,h1,rG p λt x z=>by rw[← e x];exact z.2⟩
section
variable {P:Program}{w:World}{K:W.Frag}{mg:Str->Option Value}{base:Heap}{C:Addr}
noncomputable abbrev UR:List Str:=["_law_machine_here", "_law_made_here", "_law_name", "_law_told"]
theorem xJ:aK UR ["_law_machine_here"] (aw FF):=fs
theorem NZ{f:Addr}{fd:FuncData}(F:aO K "_law_view" "_law_view" FF f fd)(T:pO K mg C)(O:gw mg):aR P w K mg base aY 1 f fd ["_law_machine_here"] (B2 C):=by
 refine F.go xJ (λcdv A outer s H vs Q E hr h=>?_)
 obtain⟨x,dx,g1,g2,g3,g4,g5,g6,ts,M,rfl,hM,fw,kk⟩:=h
 have hu:=dY hr
 refine⟨_,(aj (dQ 1 xJ.nd (uA (eS av (aJ eT (by rfl) O.list aa8 (aa (dh (pv 0) rfl) ag)) (eS av (jr rfl (dh (pv 0) rfl) (by rfl) O.list) (eS av (aJ eT (by rfl) O.list aa8 (aa (dh (pv 0) rfl) ag)) uz))) rfl rfl (by simp) (by decide)))
  (aj (df aaM rfl (bf (cq (aa (cx (aa av (aa (dh (pv 0) rfl) ag))) (aa (cx (aa av (aa (dh (pv 0) rfl) ag))) (aa (cx (aa av (aa (dh (pv 0) rfl) ag))) ag))))) (cw rfl (ax (ar (i:=2) xJ.nd rfl (Or.inl rfl)) (ax (ar (i:=3) xJ.nd rfl (Or.inl rfl)) bF)))
   (au (eI hu (pv 1) (pv 2) (jr rfl (pv 3) (by rfl) O.list) rfl)))
  (au (aI (pv 1))))),?_⟩
 try dsimp only[i7]
 intro m hm
 have s1:ah H (upd H m (.dK [])):=ah.ao hm
 have q1:(upd H m (.dK [])) m=some (.dK []):=af
 generalize upd H m (.dK [])=H1 at s1 q1 ⊢
 have fU:=hM.same s1
 refine⟨_,rfl,x,C,dx,_,_,rfl,fU.hx,T.cl,T.n1,tV ..,g1,_,rfl,.inl (aq.of fU.h1),λa1 se=>?_⟩
 have s2:ah H1 (upd H1 a1 (.lst (M.switches.map V.str))):=ah.ao se
 have q2:(upd H1 a1 (.lst (M.switches.map V.str))) a1=some (.lst (M.switches.map V.str)):=af
 generalize upd H1 a1 (.lst (M.switches.map V.str))=H2 at s2 q2 ⊢
 have jd:=fU.same s2
 refine⟨_,rfl,x,C,dx,_,_,rfl,jd.hx,T.cl,T.n2,qr ..,g2,_,rfl,.inl jd.h2,λa2 t2 H3 s3 n3 q3 p3=>?_⟩
 have nC:=jd.same s3
 have jK:aE H3 a2 (M.keepers.map fg):=qC (λ_=>rfl) q3 p3
 refine⟨_,rfl,x,C,dx,_,_,rfl,nC.hx,T.cl,T.n3,tW ..,g3,_,rfl,.inl (aq.of nC.h3),λa3 PV=>?_⟩
 have s4:ah H3 (upd H3 a3 (.lst (ts.map V.ref))):=ah.ao PV
 have q4:(upd H3 a3 (.lst (ts.map V.ref))) a3=some (.lst (ts.map V.ref)):=af
 generalize upd H3 a3 (.lst (ts.map V.ref))=H4 at s4 q4 ⊢
 have vz:=(s2.trans s3).trans s4
 have gt4:aE H4 a3 (M.gates.map cy):=⟨ts,q4,bE ((nC.same s4).hp)⟩
 have j9:=jK.same s4
 have B3:=(s3.trans s4) _ _ q2
 have m4:=vz _ _ q1
 refine⟨m4,[(.inr "switches",.ref a1),(.inr "keepers",.ref a2),(.inr "gates",.ref a3)],rfl,(by show 3<=15;decide),?_⟩
 rw[show bA [] [((.inr "switches" : Key),V.ref a1),(.inr "keepers",.ref a2),(.inr "gates",.ref a3)]=[((.inr "switches" : Key),V.ref a1),(.inr "keepers",.ref a2),(.inr "gates",.ref a3)] from rfl]
 have k5:aL H4 (upd H4 m (.dK [((.inr "switches" : Key),V.ref a1),(.inr "keepers",.ref a2),(.inr "gates",.ref a3)])) m:=λb o hb hn=>by rw[ai hn];exact hb
 have q5:(upd H4 m (.dK [((.inr "switches" : Key),V.ref a1),(.inr "keepers",.ref a2),(.inr "gates",.ref a3)])) m=some (.dK [((.inr "switches" : Key),V.ref a1),(.inr "keepers",.ref a2),(.inr "gates",.ref a3)]):=af
 generalize upd H4 m (.dK [((.inr "switches" : Key),V.ref a1),(.inr "keepers",.ref a2),(.inr "gates",.ref a3)])=H5 at k5 q5 ⊢
 have sr:ah H H5:=λb o hb=>k5 _ _ (vz _ _ (s1 _ _ hb)) (ae hb hm)
 have gn:=j9.eE k5 m4
 have gt5:=gt4.eE k5 m4
 have sw5:=k5 _ _ B3 λe=>by rw[e,m4]at B3;cases B3
 have V1:=hM.same sr
 refine⟨_,rfl,x,C,dx,_,_,rfl,V1.hx,T.cl,T.n4,xt ..,by show 2<=sizeLine;decide,λT1 hT1=>?_⟩
 have s6:ah H5 (upd H5 T1 (.tup [.str "nexts",.ref g4])):=ah.ao hT1
 have q6:(upd H5 T1 (.tup [.str "nexts",.ref g4])) T1=_:=af
 generalize upd H5 T1 (.tup [.str "nexts",.ref g4])=H6 at s6 q6 ⊢
 have vy:=V1.same s6
 refine⟨_,rfl,x,C,dx,_,_,rfl,vy.hx,T.cl,T.n5,Ia ..,by show 2<=sizeLine;decide,λT2 u7=>?_⟩
 have s7:ah H6 (upd H6 T2 (.tup [.str "nevers",.ref g5])):=ah.ao u7
 have q7:(upd H6 T2 (.tup [.str "nevers",.ref g5])) T2=_:=af
 generalize upd H6 T2 (.tup [.str "nevers",.ref g5])=H7 at s7 q7 ⊢
 have B4:=vy.same s7
 refine⟨_,rfl,x,C,dx,_,_,rfl,B4.hx,T.cl,T.n6,Ib ..,by show 2<=sizeLine;decide,λT3 hT3=>?_⟩
 have s8:ah H7 (upd H7 T3 (.tup [.str "somes",.ref g6])):=ah.ao hT3
 have q8:(upd H7 T3 (.tup [.str "somes",.ref g6])) T3=_:=af
 generalize upd H7 T3 (.tup [.str "somes",.ref g6])=H8 at s8 q8 ⊢
 refine⟨by show 3<=sizeLine;decide,λL hL=>?_⟩
 have s9:ah H8 (upd H8 L (.lst [.ref T1,.ref T2,.ref T3])):=ah.ao hL
 have q9:(upd H8 L (.lst [.ref T1,.ref T2,.ref T3])) L=some (.lst [.ref T1,.ref T2,.ref T3]):=af
 generalize upd H8 L (.lst [.ref T1,.ref T2,.ref T3])=H9 at s9 q9 ⊢
 have ID:=((s6.trans s7).trans s8).trans s9
 have r1:=((s7.trans s8).trans s9) _ _ q6
 have r2:=(s8.trans s9) _ _ q7
 have r3:=s9 _ _ q8
 have m9:=ID _ _ q5
 have zZ:=sr.trans ID
 refine⟨L,rfl,⟨_,aq.of q9⟩,fo (xs:=[.ref T1,.ref T2,.ref T3]) (λi σ Hi=>∃u v,σ=[some (.ref x),some (.ref m),u,v]/\aL H9 Hi m/\
  ((i=0/\Hi m=some (.dK [((.inr "switches" : Key),V.ref a1),(.inr "keepers",.ref a2),(.inr "gates",.ref a3)]))\/
   (i=1/\∃a4,Hi m=some (.dK [((.inr "switches" : Key),V.ref a1),(.inr "keepers",.ref a2),(.inr "gates",.ref a3),(.inr "nexts",.ref a4)])/\aE Hi a4 (M.nexts.map bq))\/
   (i=2/\∃a4 a5,Hi m=some (.dK [((.inr "switches" : Key),V.ref a1),(.inr "keepers",.ref a2),(.inr "gates",.ref a3),(.inr "nexts",.ref a4),(.inr "nevers",.ref a5)])/\aE Hi a4 (M.nexts.map bq)/\aE Hi a5 (M.nevers.map bq))\/
   (i=3/\∃a4 a5 a6,Hi m=some (.dK (bU a1 a2 a3 a4 a5 a6))/\aE Hi a4 (M.nexts.map bq)/\aE Hi a5 (M.nevers.map bq)/\aE Hi a6 (M.somes.map bq)))) ⟨none,none,rfl,λ_ _ h _=>h,.inl ⟨rfl,m9⟩⟩ (λi σ Hi _ ⟨_,_,_,k,_⟩=>aq.of (k _ _ q9 λe=>by rw[e,m9]at q9;cases q9)) ?_ ?_⟩
 . have ne:∀{b:Addr}{o:HO},H9 b=some o->(∀kv,o≠.dK kv)->b≠m:=λhb ho e=>by rw[e,m9]at hb;cases hb;exact ho _ rfl
   have gm:∀{b:Addr}{o:HO},H b=some o->b≠m:=λhb=>ae hb hm
   rintro i v σ Hi hv ⟨u,v',rfl,ki,hi⟩
   have kH:∀b o,H b=some o->Hi b=some o:=λb o hb=>ki _ _ (zZ _ _ hb) (gm hb)
   rcases hi with⟨rfl,mi⟩|⟨rfl,a4,mi,p4⟩|⟨rfl,a4,a5,mi,p4,p5⟩|⟨rfl,_⟩
   . cases hv
     refine⟨T1,_,rfl,aM.of (ki _ _ r1 (ne r1 λ_ h=>by cases h)),rfl,_,_,rfl,_,_,rfl,rfl,?_⟩
     refine⟨_,rfl,g4,_,rfl,.inl (kH _ _ hM.h4),λa4 t4 J sJ nJ qJ pJ=>⟨_,rfl,_,rfl,m,_,rfl,fE.k (k:=.inr "nexts") (sJ _ _ mi) (by show 3<sizeLine;decide),?_⟩⟩
     have kJ:aL J (upd J m (.dK (putK [((.inr "switches" : Key),V.ref a1),(.inr "keepers",.ref a2),(.inr "gates",.ref a3)] (.inr "nexts") (.ref a4)))) m:=λb o hb hn=>by rw[ai hn];exact hb
     exact⟨_,_,rfl,λb o hb hn=>kJ _ _ (sJ _ _ (ki _ _ hb hn)) hn,.inr (.inl ⟨rfl,a4,af,(qC (λ_=>rfl) qJ pJ).eE kJ (sJ _ _ mi)⟩)⟩
   . cases hv
     refine⟨T2,_,rfl,aM.of (ki _ _ r2 (ne r2 λ_ h=>by cases h)),rfl,_,_,rfl,_,_,rfl,rfl,?_⟩
     refine⟨_,rfl,g5,_,rfl,.inl (kH _ _ hM.h5),λa5 t5 J sJ nJ qJ pJ=>⟨_,rfl,_,rfl,m,_,rfl,fE.k (k:=.inr "nevers") (sJ _ _ mi) (by show 4<sizeLine;decide),?_⟩⟩
     have kJ:aL J (upd J m (.dK (putK [((.inr "switches" : Key),V.ref a1),(.inr "keepers",.ref a2),(.inr "gates",.ref a3),(.inr "nexts",.ref a4)] (.inr "nevers") (.ref a5)))) m:=λb o hb hn=>by rw[ai hn];exact hb
     exact⟨_,_,rfl,λb o hb hn=>kJ _ _ (sJ _ _ (ki _ _ hb hn)) hn,.inr (.inr (.inl ⟨rfl,a4,a5,af,(p4.same sJ).eE kJ (sJ _ _ mi),(qC (λ_=>rfl) qJ pJ).eE kJ (sJ _ _ mi)⟩))⟩
   . cases hv
     refine⟨T3,_,rfl,aM.of (ki _ _ r3 (ne r3 λ_ h=>by cases h)),rfl,_,_,rfl,_,_,rfl,rfl,?_⟩
     refine⟨_,rfl,g6,_,rfl,.inl (kH _ _ hM.h6),λa6 t6 J sJ nJ qJ pJ=>⟨_,rfl,_,rfl,m,_,rfl,fE.k (k:=.inr "somes") (sJ _ _ mi) (by show 5<sizeLine;decide),?_⟩⟩
     have kJ:aL J (upd J m (.dK (putK [((.inr "switches" : Key),V.ref a1),(.inr "keepers",.ref a2),(.inr "gates",.ref a3),(.inr "nexts",.ref a4),(.inr "nevers",.ref a5)] (.inr "somes") (.ref a6)))) m:=λb o hb hn=>by rw[ai hn];exact hb
     exact⟨_,_,rfl,λb o hb hn=>kJ _ _ (sJ _ _ (ki _ _ hb hn)) hn,.inr (.inr (.inr ⟨rfl,a4,a5,a6,af,(p4.same sJ).eE kJ (sJ _ _ mi),(p5.same sJ).eE kJ (sJ _ _ mi),(qC (λ_=>rfl) qJ pJ).eE kJ (sJ _ _ mi)⟩))⟩
   . cases hv
 . rintro σ Hi ⟨u,v',rfl,ki,hi⟩
   rcases hi with⟨e,_⟩|⟨e,_⟩|⟨e,_⟩|⟨_,a4,a5,a6,mi,p4,p5,p6⟩
   . cases e
   . cases e
   . cases e
   . refine⟨_,rfl,kk m a1 a2 a3 a4 a5 a6 Hi (λb o hb=>ki _ _ (zZ _ _ hb) (ae hb hm)) ⟨mi,?_,?_,?_,p4,p5,p6⟩⟩
     . have:=ID _ _ sw5
       exact ki _ _ this λe=>by rw[e,m9]at this;cases this
     . exact(gn.same ID).eE ki m9
     . exact(gt5.same ID).eE ki m9
end
noncomputable def uM:Sp:=λvs H Q _=>∃(m a1 a2 a3 a4 a5 a6:Addr) (M:ay),vs=[.ref m]/\cb H m M a1 a2 a3 a4 a5 a6/\jw M/\∀p H',ah H H'->H' p=some (.lst ((bp M).map V.str))->Q (.ref p) H'
noncomputable def IE(M:ay)(r:Str×V):Str×Str:=(r.1,cE M.nexts r.1)
noncomputable def Ar:Sp:=λvs H Q _=>∃(m a1 a2 a3 a4 a5 a6:Addr) (M:ay),vs=[.ref m]/\cb H m M a1 a2 a3 a4 a5 a6/\jw M/\(M.nexts.map (·.1)).Nodup/\∀p H',ah H H'->aE H' p ((M.keepers.map (IE M)).map bq)->Q (.ref p) H'
noncomputable def yH:Sp:=λvs H Q _=>∃(v d a1 a2 a3 a4 a5 a6 b1 b2 b3 b4 b5 b6:Addr) (M:ay) (names:List Str),vs=[.ref v,.ref d]/\cb H v M a1 a2 a3 a4 a5 a6/\cb H d M b1 b2 b3 b4 b5 b6/\jw M/\az M names/\∀H',ah H H'->Q (.bl true) H'
theorem f7{α:Type}{H:Hp}{g:α->List V} : ∀{ts:List Addr}{l:List α},Paired (λt r=>H t=some (.tup r)) ts (l.map g)->Paired (λt x=>H t=some (.tup (g x))) ts l:=λh=>lr (F:=λt r=>H t=some (.tup r)) h
theorem jH{α β:Type}{F:α->β->Prop} : ∀{l₁:List α}{l₂:List β},Paired F l₁ l₂->∀z∈l₁.zip l₂,F z.1 z.2
 | _,_,.nil,z,h=>nomatch h
 | _,_,.cons h0 t,z,h=>by
  rw[abe]at h
  rcases aan.mp h with rfl|h
  . exact h0
  . exact jH t z h
section
variable {P:Program}{w:World}{K:W.Frag}{mg:Str->Option Value}{base:Heap}{C:Addr}
theorem N0:aK ["_law_m"] ["_law_m"] (aw BZ):=fs
theorem KH{f:Addr}{fd:FuncData}(F:aO K "_law_order" "_law_order" BZ f fd)(O:gw mg):aR P w K mg base aY 1 f fd ["_law_m"] uM:=by
 refine F.go N0 (λcdv A outer s H vs Q E hr h=>?_)
 obtain⟨m,a1,a2,a3,a4,a5,a6,M,rfl,hM,fw,kk⟩:=h
 have hu:=dY hr
 refine⟨_,(au (aI (aB jP (aB jP (aJ eT (by rfl) O.list aa8 (aa (aC hu (pv 0) av (λ_ _=>rfl)) ag)) (dZ (N:=["_law_one"]) (js:=[none]) (te:=(oP (eu K) (cg 0) (tC (.int 0)))) (by kernel_rfl) rfl (bf (aC hu (pv 0) av (λ_ _=>rfl))) (λ_ _ _ _ _ _=>(ar (i:=0) (show (["_law_one"]:List Str).Nodup from dk) rfl (Or.inl rfl) (.inr rfl))) (λ_ _ _ _ _ _=>bb) (λ_ _ _ _ _ _=>(aN (r:=eu K) cN (pv 0) ak (λ_ _=>rfl))))) (dZ (N:=["_law_one"]) (js:=[none]) (te:=(oP (eu K) (cg 0) (tC (.int 0)))) (by kernel_rfl) rfl (bf (aC hu (pv 0) av (λ_ _=>rfl))) (λ_ _ _ _ _ _=>(ar (i:=0) (show (["_law_one"]:List Str).Nodup from dk) rfl (Or.inl rfl) (.inr rfl))) (λ_ _ _ _ _ _=>bb) (λ_ _ _ _ _ _=>(aN (r:=eu K) cN (pv 0) ak (λ_ _=>rfl))))))),?_⟩
 try dsimp only[i7]
 refine⟨_,rfl,m,.ref a1,rfl,a7.k (k:=.inr "switches") hM.top,a1,_,rfl,.inl (aq.of hM.sw),λp1 Hv=>?_⟩
 have s1:ah H (upd H p1 (.lst (M.switches.map V.str))):=ah.ao Hv
 have q1:(upd H p1 (.lst (M.switches.map V.str))) p1=_:=af
 generalize upd H p1 (.lst (M.switches.map V.str))=H1 at s1 q1 ⊢
 have fU:=hM.same s1
 obtain⟨t2,h2,p2⟩:=id fU.kp
 refine⟨_,rfl,m,.ref a2,rfl,a7.k (k:=.inr "keepers") fU.top,a2,rfl,⟨_,aq.of h2⟩,λD2 mH=>?_⟩
 have nH:=f7 p2
 have e2:(t2.map V.ref)=((t2.zip M.keepers).map (·.1)).map V.ref:=by rw[acR (abX nH.length)]
 have xx:∀z∈t2.zip M.keepers,H1 z.1=some (.tup (fg z.2)):=jH nH
 have dw:(t2.zip M.keepers).map (·.2)=M.keepers:=acS (abX nH.length.symm)
 refine jG (xs:=t2.zip M.keepers) (kp:=λ_=>true) (y:=λz=>.inl (.str z.2.1)) (λz=>V.ref z.1) (by rw[aa6];have:=fw.n2;exact aap (acy _ _) (by lia)) (by rw[h2,e2,aau];rfl) mH (λz hz H9 s9=>rw_yes λY hY=>?_) λH2 vs s2 bx p3=>?_
 . exact⟨_,rfl,z.1,_,0,_,rfl,rfl,aM.of (s9 _ _ (xx z hz)),jt,hY _ _ (λ_ _ h=>h) rfl⟩
 rw[eX]at p3
 have ev:=iD p3
 rw[show ((t2.zip M.keepers).map λz=>V.str z.2.1)=((t2.zip M.keepers).map (·.2)).map (λr=>V.str r.1) from by rw[aau];rfl,dw,show (M.keepers.map λr=>V.str r.1)=(M.keepers.map (·.1)).map V.str from by rw[aau];rfl]at ev
 subst ev
 refine⟨p1,D2,_,_,rfl,rfl,s2 _ _ q1,bx,(by simp only[aaa];have:=fw.n1;have:=fw.n2;exact mG (by lia)),λp4 lG=>?_⟩
 rw[← aaf]
 have s3:ah H2 (upd H2 p4 (.lst ((M.switches++M.keepers.map (·.1)).map V.str))):=ah.ao lG
 have q3:(upd H2 p4 (.lst ((M.switches++M.keepers.map (·.1)).map V.str))) p4=_:=af
 generalize upd H2 p4 (.lst ((M.switches++M.keepers.map (·.1)).map V.str))=H3 at s3 q3 ⊢
 have jm:=s2.trans s3
 have nC:=fU.same jm
 obtain⟨t3,h3,p5⟩:=id nC.gt
 refine⟨_,rfl,m,.ref a3,rfl,a7.k (k:=.inr "gates") nC.top,a3,rfl,⟨_,aq.of h3⟩,λD3 lF=>?_⟩
 have QY:=f7 p5
 have e3:(t3.map V.ref)=((t3.zip M.gates).map (·.1)).map V.ref:=by rw[acR (abX QY.length)]
 have HE:∀z∈t3.zip M.gates,H3 z.1=some (.tup (cy z.2)):=jH QY
 have tj:(t3.zip M.gates).map (·.2)=M.gates:=acS (abX QY.length.symm)
 refine jG (xs:=t3.zip M.gates) (kp:=λ_=>true) (y:=λz=>.inl (.str z.2.1)) (λz=>V.ref z.1) (by rw[aa6];have:=fw.n3;exact aap (acy _ _) (by lia)) (by rw[h3,e3,aau];rfl) lF (λz hz H9 s9=>rw_yes λY hY=>?_) λH4 vs s4 qY p6=>?_
 . exact⟨_,rfl,z.1,_,0,_,rfl,rfl,aM.of (s9 _ _ (HE z hz)),jt,hY _ _ (λ_ _ h=>h) rfl⟩
 rw[eX]at p6
 have ev:=iD p6
 rw[show ((t3.zip M.gates).map λz=>V.str z.2.1)=((t3.zip M.gates).map (·.2)).map (λr=>V.str r.1) from by rw[aau];rfl,tj,show (M.gates.map λr=>V.str r.1)=(M.gates.map (·.1)).map V.str from by rw[aau];rfl]at ev
 subst ev
 refine⟨p4,D3,_,_,rfl,rfl,s4 _ _ q3,qY,(by simp only[aaa,aaj];have:=fw.n1;have:=fw.n2;have:=fw.n3;exact mG (by lia)),λp7 hp7=>?_⟩
 rw[← aaf]
 exact kk p7 _ (((s1.trans jm).trans s4).trans (ah.ao hp7)) af
theorem Ms:aK ["_law_m", "_law_nexts"] ["_law_m"] (aw KG):=fs
theorem QZ{f:Addr}{fd:FuncData}(F:aO K "_law_next_literals" "_law_next_literals" KG f fd)(O:gw mg):aR P w K mg base aY 1 f fd ["_law_m"] Ar:=by
 refine F.go Ms (λcdv A outer s H vs Q E hr h=>?_)
 obtain⟨m,a1,a2,a3,a4,a5,a6,M,rfl,hM,fw,nd,kk⟩:=h
 have hu:=dY hr
 refine⟨_,(aj (dQ 1 Ms.nd (aJ (bK rfl) (by rfl) O.dict aaC (aa (aC hu (pv 0) av (λ_ _=>rfl)) ag)))
  (au (aI (dZ (N:=["_law_name", "_law_bit_here", "_law_nexts"]) (js:=[none,none,some 1]) (g:=ng K 2 (eO (cv 0) (eO (cv 1) m7))) (te:=(pF (eJ (cg 0) (eJ (GC (cg 2) (cg 0) (cg 0)) n9)))) (by kernel_rfl) rfl (bf (aC hu (pv 0) av (λ_ _=>rfl))) (λ_ _ _ _ _ _=>(cw rfl (ax (ar (i:=0) (show (["_law_name", "_law_bit_here", "_law_nexts"]:List Str).Nodup from dk) rfl (Or.inl rfl) (.inr rfl)) (ax (ar (i:=1) (show (["_law_name", "_law_bit_here", "_law_nexts"]:List Str).Nodup from dk) rfl (Or.inl rfl) (.inr rfl)) bF)))) (λ_ _ _ _ _ _=>bb) (λ_ _ _ _ _ _=>(cx (aa (pv 0) (aa (vI hu (pv 2) (pv 0) (pv 0) ⟨rfl,rfl,rfl,rfl⟩) ag)))))))),?_⟩
 try dsimp only[i7]
 obtain⟨t4,u4,v4⟩:=nT (h:=λr:Str×Str=>((.inr r.1:Key),V.str r.2)) (λ_=>rfl) hM.nx
 refine⟨_,rfl,m,.ref a4,rfl,a7.k (k:=.inr "nexts") hM.top,a4,t4,bo M.nexts,rfl,u4,v4,λn hn=>?_⟩
 rw[kf nd]
 have s1:ah H (upd H n (.dK (bo M.nexts))):=ah.ao hn
 have q1:(upd H n (.dK (bo M.nexts))) n=_:=af
 generalize upd H n (.dK (bo M.nexts))=H1 at s1 q1 ⊢
 have fU:=hM.same s1
 obtain⟨t2,h2,p2⟩:=id fU.kp
 refine⟨_,rfl,m,.ref a2,rfl,a7.k (k:=.inr "keepers") fU.top,a2,rfl,⟨_,aq.of h2⟩,λD hD=>?_⟩
 refine Fw (xs:=M.keepers) (kp:=λ_=>true) (y:=λr=>.inr (.tup (bq (IE M r)))) (λr=>V.str r.1) (λr=>r.2) (by have:=fw.n2;lia) h2 (f7 p2) hD (λr jU H9 s9=>rw_yes λY hY=>?_) λH2 vs s2 bx p3=>?_
 . refine⟨_,rfl,_,rfl,n,rfl,.inl ⟨_,.inl (s9 _ _ q1)⟩,_,rfl,_,rfl,_,a7.k (k:=.inr r.1) (s9 _ _ q1),?_⟩
   have e:(cu (bo M.nexts) (.inr r.1)).getD (.str r.1)=.str (cE M.nexts r.1):=BI r.1 M.nexts
   show ([V.str r.1,(cu (bo M.nexts) (.inr r.1)).getD (.str r.1)]:List V).length<=sizeLine/\_
   rw[e]
   exact⟨by show 2<=sizeLine;decide,λT hT=>hY _ _ (ah.ao hT) (lZ hT)⟩
 rw[eX]at p3
 obtain⟨ns,rfl,pn⟩:=gg p3
 exact kk D H2 (s1.trans s2) ⟨ns,bx,by rw[aau];exact bE (Paired.bQ pn λt r z=>z.2)⟩
theorem D6:aK ["_law_view_here", "_law_due_here", "_law_field"] ["_law_view_here", "_law_due_here"] (aw xF):=fs
theorem KI{f fN:Addr}{fd dN:FuncData}(F:aO K "_law_alike" "_law_alike" xF f fd)(CN:cc P w K mg base 1 fN dN "_law_next_literals" ["_law_m"] Ar):aR P w K mg base aY 2 f fd ["_law_view_here", "_law_due_here"] yH:=by
 refine F.go D6 (λcdv A outer s H vs Q E hr h=>?_)
 obtain⟨v,d,a1,a2,a3,a4,a5,a6,b1,b2,b3,b4,b5,b6,M,names,rfl,hV,hD,fw,ok,kk⟩:=h
 have hu:=dY hr
 have D7:(A.deeper (PyProof.Rows.envOfC "_law_alike" (aw xF) s.heap.objs.size f cdv)).units+2<cLine:=abK (acU (by decide:2<=64) _) hr.units
 refine⟨_,(aj (df aaM rfl (bf (cq (aa av (aa av (aa av (aa av (aa av ag))))))) (ar (i:=2) D6.nd rfl (Or.inl rfl))
  (au (cP (bg (uI (n:=2) D7) (aC hu (pv 0) (pv 2) (λ_ _=>rfl)) (aC hu (pv 1) (pv 2) (λ_ _=>rfl)) (cp _))
   (au (aI mh)) bh)))
  (au (aI (xW (NK (n:=2) D7) (aV CN hr (aa (pv 0) ag)) (aV CN hr (aa (pv 1) ag)) (cp _))))),?_⟩
 try dsimp only[i7]
 refine⟨by show 5<=sizeLine;decide,λL hL=>?_⟩
 have s1:ah H (upd H L (.lst [.str "switches",.str "keepers",.str "gates",.str "nevers",.str "somes"])):=ah.ao hL
 have q1:(upd H L (.lst [.str "switches",.str "keepers",.str "gates",.str "nevers",.str "somes"])) L=some (.lst [.str "switches",.str "keepers",.str "gates",.str "nevers",.str "somes"]):=af
 generalize upd H L (.lst [.str "switches",.str "keepers",.str "gates",.str "nevers",.str "somes"])=H1 at s1 q1 ⊢
 have ue:=hV.same s1
 have ow:=hD.same s1
 have Q0:∀z∈M.switches,su z:=λz hz=>iE (ok.nm z (by rw[ok.all];exact aag.mpr (.inl (aag.mpr (.inl hz)))))
 refine⟨L,rfl,⟨_,aq.of q1⟩,fo (xs:=[.str "switches",.str "keepers",.str "gates",.str "nevers",.str "somes"]) (λi σ Hi=>(∃u,σ=[some (.ref v),some (.ref d),u])/\Hi=H1) ⟨⟨none,rfl⟩,rfl⟩ (λi σ Hi _ ⟨_,e⟩=>by rw[e];exact aq.of q1) ?_ ?_⟩
 . rintro i x σ Hi hx ⟨⟨u,rfl⟩,rfl⟩
   match i,hx with
   | 0,hx=>
    cases hx
    exact⟨_,rfl,_,rfl,v,.ref a1,rfl,a7.k (k:=.inr "switches") ue.top,_,rfl,_,rfl,d,.ref b1,rfl,a7.k (k:=.inr "switches") ow.top,kh (.lst (aq.of ue.sw) (rE _)) (.lst (aq.of ow.sw) (rE _)) (B0 Q0) (aap (B1 _) (by decide)) ⟨_,rfl,bu ⟨⟨_,rfl⟩,rfl⟩⟩⟩
   | 1,hx=>
    cases hx
    exact⟨_,rfl,_,rfl,v,.ref a2,rfl,a7.k (k:=.inr "keepers") ue.top,_,rfl,_,rfl,d,.ref b2,rfl,a7.k (k:=.inr "keepers") ow.top,kh (eB ue.kp (xH ok)) (eB ow.kp (xH ok)) (gF (xH ok)) (gG _) ⟨_,rfl,bu ⟨⟨_,rfl⟩,rfl⟩⟩⟩
   | 2,hx=>
    cases hx
    exact⟨_,rfl,_,rfl,v,.ref a3,rfl,a7.k (k:=.inr "gates") ue.top,_,rfl,_,rfl,d,.ref b3,rfl,a7.k (k:=.inr "gates") ow.top,kh (eB ue.gt (xI ok)) (eB ow.gt (xI ok)) (gF (xI ok)) (gG _) ⟨_,rfl,bu ⟨⟨_,rfl⟩,rfl⟩⟩⟩
   | 3,hx=>
    cases hx
    exact⟨_,rfl,_,rfl,v,.ref a5,rfl,a7.k (k:=.inr "nevers") ue.top,_,rfl,_,rfl,d,.ref b5,rfl,a7.k (k:=.inr "nevers") ow.top,kh (eB ue.nv (mq ok.nm ok.nvw)) (eB ow.nv (mq ok.nm ok.nvw)) (gF (mq ok.nm ok.nvw)) (gG _) ⟨_,rfl,bu ⟨⟨_,rfl⟩,rfl⟩⟩⟩
   | 4,hx=>
    cases hx
    exact⟨_,rfl,_,rfl,v,.ref a6,rfl,a7.k (k:=.inr "somes") ue.top,_,rfl,_,rfl,d,.ref b6,rfl,a7.k (k:=.inr "somes") ow.top,kh (eB ue.sm (mq ok.nm ok.smw)) (eB ow.sm (mq ok.nm ok.smw)) (gF (mq ok.nm ok.smw)) (gG _) ⟨_,rfl,bu ⟨⟨_,rfl⟩,rfl⟩⟩⟩
   | i+5,hx=>simp at hx
 . rintro σ Hi ⟨⟨u,rfl⟩,rfl⟩
   have fx:∀r∈(M.keepers.map (IE M)).map bq,∀v∈r,ja v:=FG λr hr=>by
    obtain⟨k,hk,rfl⟩:=aai.mp hr
    have hn:=ok.j4 (aai.mpr ⟨k,hk,rfl⟩)
    exact⟨iE (ok.nm _ hn),qB (ok.yF hn) ok.nm⟩
   refine⟨_,rfl,v,a1,a2,a3,a4,a5,a6,M,rfl,ue,fw,ok.nxd,λp1 H2 s2 h2=>⟨_,rfl,d,b1,b2,b3,b4,b5,b6,M,rfl,ow.same s2,fw,ok.nxd,λp2 H3 s3 h3=>?_⟩⟩
   exact NY (eB (h2.same s3) fx) (eB h3 fx) (gF fx) (gG _) (kk H3 ((s1.trans s2).trans s3))
end
end Gen
namespace L2
open PySem PySem.Spec PyProof.Rows
section
variable {X:Cx}
noncomputable def Q1(K:W.Frag)(ta:TA):TE:=λσ H Q=>ta σ H λvs H1=>∃(a b:Addr) (ks:List Key) (ys:List V),vs=[.ref a,.ref b]/\aq K H1 a (ks.map kV)/\aq K H1 b ys/\ks.length<=ys.length/\
 ∀d,H1 d=none->Q (.ref d) (upd H1 d (.dK (bA [] (ks.zip ys))))
theorem KJ{pins:List (Addr×Obj)}{σ:St}{H1:Hp}{s1:Shared}{a b:Addr}{ks:List Key}{ys:List V}{Q:VK}(hc:X.calm=true) (I1:Inv X pins σ H1 s1) (hk:aq X.K H1 a (ks.map kV)) (hb:aq X.K H1 b ys) (hl:ks.length<=ys.length)
 (q:∀d,H1 d=none->Q (.ref d) (upd H1 d (.dK (bA [] (ks.zip ys))))) :
 wpAny (model X.prog X.w) X.A (call (.type "zip") [.ref a,.ref b]) (λv s2=>wpAny (model X.prog X.w) X.A (call (.type "dict") [v]) (EP X pins σ Q) X.xe s2) X.xe s1:=by
 obtain⟨nB,rj,pj,_⟩:=I1.zk (tp:=false) hk
 obtain⟨its,rv,Q2,ZR⟩:=I1.zk (tp:=false) hb
 have hlen:ys.length=its.length:=rv.length
 have DM:ks.length=nB.length:=by have:=rj.length;rw[aaa]at this;exact this
 have jM:a<s1.heap.objs.size:=by obtain⟨_,e,_⟩:=pj;exact aam e
 have ka:b<s1.heap.objs.size:=by obtain⟨_,e,_⟩:=Q2;exact aam e
 refine DG pj Q2 λh' g1 g2 g3 g4 g5 kk=>?_
 have I2:Inv X pins σ H1 {s1 with heap:=h'}:=I1.kept (t':=s1.toks) kk
 have hsz:s1.heap.objs.size+4<h'.objs.size:=aam g1
 have BB:∀c∈[s1.heap.objs.size+4,s1.heap.objs.size+2,s1.heap.objs.size+3,s1.heap.objs.size,s1.heap.objs.size+1],s1.heap.objs.size<=c:=λc bZ=>by
  simp only[aan,aaE,abv]at bZ
  rcases bZ with rfl|rfl|rfl|rfl|rfl <;> lia
 have out:∀c,c<s1.heap.objs.size->c∉[s1.heap.objs.size+4,s1.heap.objs.size+2,s1.heap.objs.size+3,s1.heap.objs.size,s1.heap.objs.size+1]:=λc eN hm=>aby _ (aaP eN (BB c hm))
 have D1:iK X.prog X.w s1.heap.objs.size [a] nB.toArray.size (λi x=>nB.toArray[i]?=some x) (λi h=>gY false h s1.heap.objs.size a i/\jL false h a nB.toArray):=oY (aax jM)
 have D2:iK X.prog X.w (s1.heap.objs.size+1) [b] its.toArray.size (λi x=>its.toArray[i]?=some x) (λi h=>gY false h (s1.heap.objs.size+1) b i/\jL false h b its.toArray):=oY (aax (ab6 ka))
 have l1:(ks.zip its).length=nB.toArray.size:=by rw[aa6,aaw];lia
 have l2:nB.toArray.size<=its.toArray.size:=by rw[aaw,aaw];lia
 have l3:(ks.zip its).length<=sizeLine:=by rw[aa6];lia
 have sq:∀{c:Addr}{xs:Array Value},jL false s1.heap c xs->jL false h' c xs:=λ⟨o,e,r⟩=>⟨o,kk _ _ e,r⟩
 refine tP (knd:=aQ X.prog X.w) (kvs:=ks.zip its) (A:=X.A) (I1.ok.hd hc) (by simp) (λc bZ=>out c (by rw[aao.mp bZ];exact jM)) (λc bZ=>out c (by rw[aao.mp bZ];exact ka)) (λc bZ=>by rw[aao.mp bZ];show a<h'.objs.size;lia) (λc bZ=>by rw[aao.mp bZ];show b<h'.objs.size;lia) D1 D2 l1 l2
  (λi x y kv e p1 p2=>?_) l3 g1 g2 ⟨_,_,g3⟩ ⟨g4,sq pj⟩ ⟨g5,sq Q2⟩ λh'' tk dd Qj=>?_
 . have hi:i<(ks.zip its).length:=(aaq.mp e).1
   have u0:=hi
   rw[aa6]at u0
   have e2:kv=(ks[i]'(by lia),its[i]'(by lia)):=by
    rw[aae hi,aeC]at e
    exact(aaA e).symm
   subst e2
   refine⟨?_,?_⟩
   . obtain⟨u,hu,ru⟩:=rj.get (i:=i) (x:=kV (ks[i]'(by lia))) (by rw[aal,aae (by lia)];rfl)
     have p3:nB[i]?=some x:=by simpa using p1
     rw[hu]at p3
     cases p3
     exact oQ ru
   . have p3:its[i]?=some y:=by simpa using p2
     rw[aae (by lia)]at p3
     exact(aaA p3).symm
 . refine⟨.ref h'.objs.size,_,I2.DK (fp:=[s1.heap.objs.size+4,s1.heap.objs.size+2,s1.heap.objs.size+3,s1.heap.objs.size,s1.heap.objs.size+1]) (ob:=.dK (bA [] (ks.zip ys))) (λc bZ=>I1.pD (BB c bZ) (I1.hok.fresh (BB c bZ))) (λc q' bZ e=>Qj c q' bZ e) (aah _) (kI ?_ (abr.mpr (aav (aax I2.big))) (KV.merge (BA rv) .nil) dd),rfl,q _ (I2.hok.fresh (aah _))⟩
   have:=gZ (ks.zip ys) []
   rw[aa6]at this
   simp at this
   lia
theorem KL{a b:Expr}{ta:TA}{p1 p2 pos oA:Pos}(Qk:Gl X "dict")(Ql:X.mg "dict" = none)(Qm:Gl X "zip")(Qn:X.mg "zip" = none)(hc:X.calm=true)(ha:PA X [a,b] ta)
 (hs:starEach [Expr.Call (.Name "zip" p2) [a,b] [] oA] X.env=(false,eval (Expr.Call (.Name "zip" p2) [a,b] [] oA) X.env)::starEach [] X.env:=by rfl) (gU:(backTo pos (starEach [] X.env)).any (·.1)=false:=by rfl)
 (j6:starEach [a,b] X.env=(false,eval a X.env)::starEach [b] X.env:=by rfl) (ib:(backTo oA (starEach [b] X.env)).any (·.1)=false:=by rfl) :
 PE X (.Call (.Name "dict" p1) [.Call (.Name "zip" p2) [a,b] [] oA] [] pos) (Q1 X.K ta):=by
 intro pins s σ H Q I h
 refine abA (i3 I Qk Ql aaC ?_ (by decide) (by decide))
 refine aa4 ?_ hs gU
 rw[hs]
 show wpAny _ _ (spliced ((false,eval _ X.env)::backTo pos (starEach [] X.env))) _ _ s
 refine abo ?_
 refine Call_ (i3 I Qm Qn boot_zip (aa4 (aD (ha oA pins s σ H _ I h) λus s1 ⟨vs,H1,I1,r1,q1⟩=>?_) j6 ib))
 obtain⟨l,m,ks,ys,e,hk,hb,hl,q⟩:=q1
 subst e
 obtain⟨u,v,rfl,ru,rv⟩:=vals2 r1
 cases(show u=Value.ref l from ru)
 cases(show v=Value.ref m from rv)
 exact aD (KJ hc I1 hk hb hl q) λv s2 hv=>acg hv
end
theorem rH{K:W.Frag}{a:Addr}{xs:List V}{g:TG}{tb:TS}{D:Ends}{σ:St}{H:Hp}(Pv:Nat->St->Hp->Prop)(h0:Pv 0 σ H)(hl:∀i σ H,i<=xs.length->Pv i σ H->aq K H a xs)
 (hs:∀i x T σ H,xs[i]?=some x->H T=none->Pv i σ H->g (.ref T) σ (upd H T (.tup [.int (i:Int),x])) λgk H2=>tb {D with nx:=Pv (i+1),ct:=Pv (i+1),bk:=D.nx} gk H2) (hd:∀σ H,Pv xs.length σ H->D.nx σ H) :
 ∃W:Nat->Nat->St->Hp->Prop,(∃m,W 0 m σ H)/\∀i m σ H,W i m σ H->
  ((GY K a).stop i H/\D.nx σ H)\/((GY K a).go i H/\∃N:St->Hp->Prop,(∀br H',N br H'->∃m',m'<m/\W (i+1) m' br H')/\∀x H',(GY K a).yld i H x H'->g x σ H' λgk H2=>tb {D with nx:=N,ct:=N,bk:=D.nx} gk H2):=by
 refine⟨λi m σ H=>m=xs.length-i/\i<=xs.length/\Pv i σ H,⟨xs.length,by simp,abQ _,h0⟩,?_⟩
 rintro i m σ H ⟨rfl,hi,p⟩
 have q:=hl i σ H hi p
 by_cases eN:i<xs.length
 . refine .inr ⟨⟨xs,xs[i],q,by simp[eN]⟩,Pv (i+1),λbr H' p'=>⟨xs.length-(i+1),by lia,rfl,eN,p'⟩,λx H' y=>?_⟩
   obtain⟨T,x',rfl,hT,rfl,gJ⟩:=y
   exact hs i x' T σ _ (gJ xs q) hT p
 . have e:i=xs.length:=by lia
   subst e
   exact .inl ⟨⟨xs,q,aah _⟩,hd σ H p⟩
end L2
namespace Gen
open PySem L2
noncomputable abbrev FH:Stmt:=top 37
noncomputable def B5:Sp:=λvs H Q _=>∃(m a1 a2 a3 a4 a5 a6:Addr) (M:ay) (names:List Str),vs=[.ref m]/\cb H m M a1 a2 a3 a4 a5 a6/\az M names/\jw M/\
 ∀(p:Addr) (ts:List Addr) (qD:List (List Int)) (H':Hp),ah H H'->H' p=some (.lst (ts.map V.ref))->ts.length=4->Paired (λt cs=>H' t=some (.tup (cs.map V.int))) ts qD->(∀cs∈qD,IC M cs)->Q (.ref p) H'
theorem US{way k:Int}(h0:0<=way)(h4:way<4):∃b,ie [V.int 0,.int 1,.int (k % 2),.int (1-k % 2)] way=some (.int b)/\(b=0\/b=1):=by
 have hk:k % 2=0\/k % 2=1:=by lia
 rcases (show way=0\/way=1\/way=2\/way=3 by lia) with rfl|rfl|rfl|rfl
 . exact⟨0,rfl,.inl rfl⟩
 . exact⟨1,rfl,.inr rfl⟩
 . exact⟨k % 2,rfl,hk⟩
 . exact⟨1-k % 2,rfl,by rcases hk with e|e <;> simp[e]⟩
theorem Q3{M:ay}{names:List Str}(ok:az M names){cs:List Int}(hl:cs.length=M.keepers.length)(hb:∀b∈cs,b=0\/b=1) (hf:∀(j:Nat) (r:Str×V) (b:Int),M.keepers[j]?=some r->cs[j]?=some b->r.2=.aH\/r.2=.int b):IC M cs:=by
 have nd:(M.keepers.map (·.1)).Nodup:=by have:=ok.nd;rw[ok.all]at this;exact(aaB.mp (aaB.mp this).1).2.1
 refine⟨⟨hl.symm,hb⟩,λr hr=>?_⟩
 obtain⟨j,hj,e⟩:=acr hr
 have hj2:j<(M.keepers.map (·.1)).length:=by rw[aaa];exact hj
 have:=zT (ks:=M.keepers.map (·.1)) (cs:=cs) (i:=j) hj2 (by lia) nd
 rw[adw,e]at this
 rw[this]
 exact hf j r _ (by rw[aae hj,e]) (aae (by lia))
section
variable {P:Program}{w:World}{K:W.Frag}{mg:Str->Option Value}{base:Heap}{C:Addr}
noncomputable abbrev UT:List Str:=["_law_m", "_law_found", "_law_way", "_law_stand", "_law_k", "_law_name", "_law_first"]
theorem oI:aK UT ["_law_m"] (aw FH):=fs
theorem N1{f:Addr}{fd:FuncData}(F:aO K "_law_all_first" "_law_all_first" FH f fd)(O:Own mg)(O2:gw mg):aR P w K mg base aY 1 f fd ["_law_m"] B5:=by
 refine F.go oI (λcdv A outer s H vs Q E hr h=>?_)
 obtain⟨m,a1,a2,a3,a4,a5,a6,M,names,rfl,hM,ok,fw,kk⟩:=h
 have hu:=dY hr
 have hI:=O2.int
 refine⟨_,(aj (dQ 1 oI.nd (cq ag))
  (aj (df aaM rfl (dU rfl O.range (aa ak ag)) (ar (i:=2) oI.nd rfl (Or.inl rfl))
   (aj (dQ 3 oI.nd (cq ag))
   (aj (df aaM rfl (lR (by rfl) O.enum (aa (aC hu (pv 0) av (λ_ _=>rfl)) ag)) (cw rfl (ax (ar (i:=4) oI.nd rfl (Or.inl rfl)) (ax (cw rfl (ax (ar (i:=5) oI.nd rfl (Or.inl rfl)) (ax (ar (i:=6) oI.nd rfl (Or.inl rfl)) bF))) bF)))
    (au (dr (eU aaJ aaQ aaR cJ (pv 3) (aa (aN (r:=sO K) bT (cq (aa (pv 6) (aa (aN (r:=sO K) bT (cq (aa ak (aa ak (aa (aB dE (pv 4) ak) (aa (aB nZ ak (aB dE (pv 4) ak)) ag))))) (pv 2) (λ_ _=>rfl)) ag))) (aJ Gr (by rfl) hI acD (aa (Gg (my (pv 6))) ag)) (λ_ _=>rfl)) ag)))))
   (au (dr (eU aaJ aaQ aaR cJ (pv 1) (aa (aJ nh (by rfl) O2.tuple acu (aa (pv 3) ag)) ag)))))))
  (au (aI (pv 1))))),?_⟩
 try dsimp only[i7]
 refine⟨by show 0<=sizeLine;decide,λp hp=>?_⟩
 have s1:ah H (upd H p (.lst [])):=ah.ao hp
 have q1:(upd H p (.lst [])) p=some (.lst (([]:List Addr).map V.ref)):=af
 generalize upd H p (.lst [])=H1 at s1 q1 ⊢
 refine⟨4,rfl,by decide,by decide,ia (n:=4) (λi σ Hi=>∃(v2 v3 v4 v5 v6:Option V) (ts:List Addr) (qD:List (List Int)),σ=[some (.ref m),some (.ref p),v2,v3,v4,v5,v6]/\ah H Hi/\Hi p=some (.lst (ts.map V.ref))/\ts.length=i/\Paired (λt cs=>Hi t=some (.tup (cs.map V.int))) ts qD/\∀cs∈qD,IC M cs) ?_ ?_ ?_⟩
 . exact⟨_,_,_,_,_,[],[],rfl,s1,q1,rfl,.nil,λ_ h=>nomatch h⟩
 . rintro i σ Hi hi ⟨v2,v3,v4,v5,v6,ts,qD,rfl,si,Mt,nu,pt,qp⟩
   refine⟨by show 0<=sizeLine;decide,λS hS=>?_⟩
   have s2:ah Hi (upd Hi S (.lst [])):=ah.ao hS
   have q2:(upd Hi S (.lst [])) S=some (.lst (([]:List Int).map V.int)):=af
   have pS:p≠S:=ae Mt hS
   have HS:H S=none:=same_none si hS
   generalize upd Hi S (.lst [])=H2 at s2 q2 ⊢
   have gc:=si.trans s2
   obtain⟨us,h2,p2⟩:=id (hM.same gc).kp
   have nH:=f7 p2
   have ul:=nH.length
   have aS:a2≠S:=λe=>by obtain⟨PQ,h',_⟩:=id hM.kp;rw[e,HS]at h';cases h'
   refine⟨_,rfl,m,.ref a2,rfl,a7.k (k:=.inr "keepers") (hM.same gc).top,a2,rfl,⟨_,aq.of h2⟩,rH (xs:=us.map V.ref) (λj σ Hj=>∃(v4 v5 v6:Option V) (cs:List Int),σ=[some (.ref m),some (.ref p),some (.int (0+(i:Int))),some (.ref S),v4,v5,v6]/\aL H2 Hj S/\Hj S=some (.lst (cs.map V.int))/\cs.length=j/\(∀b∈cs,b=0\/b=1)/\∀(k:Nat) (r:Str×V) (b:Int),M.keepers[k]?=some r->cs[k]?=some b->r.2=.aH\/r.2=.int b) ?_ ?_ ?_ ?_⟩
   . exact⟨_,_,_,[],rfl,λ_ _ h _=>h,q2,rfl,λ_ h=>(nomatch h),λk r b _ h=>by simp at h⟩
   . rintro j σ Hj _ ⟨_,_,_,_,_,kj,_⟩
     exact aq.of (kj _ _ h2 aS)
   . rintro j x T σ Hj hx hT ⟨v4,v5,v6,cs,rfl,kj,nI,i4,Q4,Q5⟩
     rw[aal]at hx
     cases ht:us[j]? with
     | none=>rw[ht]at hx;cases hx
     | some t=>
      rw[ht]at hx
      cases hx
      have xK:j<M.keepers.length:=by have:=(aaq.mp ht).1;lia
      have ju:M.keepers[j]?=some M.keepers[j]:=aae xK
      obtain⟨t',fk,dq⟩:=gd nH ju
      rw[ht]at fk
      cases fk
      generalize Aa:M.keepers[j]=r at ju dq
      have rJ:=kj _ _ dq λe=>by rw[e,q2]at dq;cases dq
      have s3:ah Hj (upd Hj T (.tup [.int (j:Int),.ref t])):=ah.ao hT
      have q3:(upd Hj T (.tup [.int (j:Int),.ref t])) T=some (.tup [.int (j:Int),.ref t]):=af
      generalize upd Hj T (.tup [.int (j:Int),.ref t])=H3 at s3 q3 ⊢
      refine⟨T,_,rfl,aM.of q3,rfl,_,_,rfl,_,_,rfl,⟨t,_,rfl,aM.of (s3 _ _ rJ),rfl,_,_,rfl,_,_,rfl,rfl,rfl,?_⟩⟩
      refine⟨_,rfl,.inl ⟨rfl,_,aq.of (s3 _ _ nI)⟩,_,rfl,_,rfl,_,_,rfl,rfl,(by show (0:Int)<2;decide),_,rfl,_,_,rfl,rfl,(by show (0:Int)<2;decide),_,_,rfl,rfl,(by show 4<=sizeLine;decide),λL1 HP=>?_⟩
      obtain⟨b,hb,wc⟩:=US (way:=0+(i:Int)) (k:=(j:Int)) (by lia) (by lia)
      have s4:ah H3 (upd H3 L1 (.lst [.int 0,.int 1,.int ((j:Int) % 2),.int (1-(j:Int) % 2)])):=ah.ao HP
      have q4:(upd H3 L1 (.lst [.int 0,.int 1,.int ((j:Int) % 2),.int (1-(j:Int) % 2)])) L1=some (.lst [.int 0,.int 1,.int ((j:Int) % 2),.int (1-(j:Int) % 2)]):=af
      generalize upd H3 L1 (.lst [.int 0,.int 1,.int ((j:Int) % 2),.int (1-(j:Int) % 2)])=H4 at s4 q4 ⊢
      refine⟨_,rfl,L1,_,_,_,rfl,rfl,aq.of q4,hb,(by show 2<=sizeLine;decide),λL2 Bv=>?_⟩
      have s5:ah H4 (upd H4 L2 (.lst [r.2,.int b])):=ah.ao Bv
      have q5:(upd H4 L2 (.lst [r.2,.int b])) L2=some (.lst [r.2,.int b]):=af
      generalize upd H4 L2 (.lst [r.2,.int b])=H5 at s5 q5 ⊢
      have vA:=(s3.trans s4).trans s5
      have rO:∃c:Int,ie [r.2,V.int b] (if decide (r.2=V.aH)=true then 1 else 0)=some (.int c)/\(c=0\/c=1)/\(r.2=.aH\/r.2=.int c):=by
       rcases ok.first r (aaN ju) with e|e|e
       . rw[e];exact⟨0,rfl,.inl rfl,.inr rfl⟩
       . rw[e];exact⟨1,rfl,.inr rfl,.inr rfl⟩
       . rw[e];exact⟨b,rfl,wc,.inl rfl⟩
      obtain⟨c,hc,Yc,hcr⟩:=rO
      refine⟨_,rfl,.inr ⟨_,rfl,L2,_,_,_,rfl,rfl,aq.of q5,hc,?_⟩⟩
      have:=fw.n2
      refine⟨S,_,_,rfl,rfl,vA _ _ nI,(by rw[aaa];exact small (by lia)),_,_,_,cs++[c],rfl,λb' o fq hn=>?_,?_,by rw[aaj,aaK,i4],λb' fq=>?_,λk r' b' h1 h2=>?_⟩
      . rw[ai hn]
        exact vA _ _ (kj _ _ fq hn)
      . rw[af,aaf];rfl
      . rcases aag.mp fq with q|q
        . exact Q4 b' q
        . rw[aao.mp q];exact Yc
      . rcases ad5 k cs.length with q|q|q
        . rw[abT q]at h2
          exact Q5 k r' b' h1 h2
        . rw[q,abq (aah _),ae8]at h2
          cases h2
          rw[q,i4,ju]at h1
          cases h1
          exact hcr
        . rw[abZ (by rw[aaj,aaK];lia)]at h2
          cases h2
   . rintro σ Hj ⟨Mi,Ii,v6',cs,rfl,kj,nI,i4,Q4,Q5⟩
     rw[aaa,ul]at i4
     have kp:Hj p=some (.lst (ts.map V.ref)):=kj _ _ (s2 _ _ Mt) pS
     refine⟨_,rfl,.inl ⟨rfl,_,aq.of kp⟩,_,rfl,S,_,rfl,.inl ⟨aq.of nI,λT hT=>?_⟩⟩
     have s6:ah Hj (upd Hj T (.tup (cs.map V.int))):=ah.ao hT
     have q6:(upd Hj T (.tup (cs.map V.int))) T=some (.tup (cs.map V.int)):=af
     generalize upd Hj T (.tup (cs.map V.int))=H6 at s6 q6 ⊢
     have nt:∀{b:Addr}{o:List V},H6 b=some (.tup o)->b≠p:=λhb e=>by rw[e,s6 _ _ kp]at hb;cases hb
     refine⟨p,_,_,rfl,rfl,s6 _ _ kp,(by rw[aaa];exact small (by lia)),_,_,_,_,_,ts++[T],qD++[cs],rfl,λb o hb=>?_,?_,by rw[aaj,aaK,nu],?_,λc hc=>?_⟩
     . rw[ai (ae hb hp)]
       exact s6 _ _ (kj _ _ (gc _ _ hb) (ae hb HS))
     . rw[af,aaf];rfl
     . refine abR (Paired.bQ pt λt c e=>?_) ?_
       . have e':H6 t=some (.tup (c.map V.int)):=s6 _ _ (kj _ _ (s2 _ _ e) λq=>by rw[q,hS]at e;cases e)
         rw[ai (nt e')]
         exact e'
       . rw[ai (nt q6)]
         exact q6
     . rcases aag.mp hc with q|q
       . exact qp c q
       . rw[aao.mp q]
         exact Q3 ok i4 Q4 Q5
 . rintro σ Hi ⟨v2,v3,v4,v5,v6,ts,qD,rfl,si,Mt,nu,pt,qp⟩
   exact⟨_,rfl,kk p ts qD Hi si Mt nu pt qp⟩
end
noncomputable abbrev B6:Stmt:=top 36
noncomputable def yI(K:W.Frag):Sp:=λvs H Q _=>∃(a m sm d a1 a2 a3 a4 a5 a6 b1 b2 b3 b4 b5 b6:Addr) (ns:List Int) (M S:ay) (names xM l:List Str) (f:Str->V) (I:List Int->Prop),vs=[.ref a,.ref m,.ref sm,.ref d]/\aq K H a (ns.map V.int)/\cb H m M a1 a2 a3 a4 a5 a6/\cb H sm S b1 b2 b3 b4 b5 b6/\az M names/\az S xM/\jw M/\jw S/\
 H d=some (.dK (l.map λn=>((.inr n:Key),f n)))/\Mr M S l f I/\∀H',ah H H'->Q (.bl true) H'
theorem jw.fm{M:ay}{names:List Str}(fw:jw M)(ok:az M names):Fm M names:=⟨ok,fw.n1,fw.n2,fw.n3⟩
theorem B7{M S:ay}{bs:List Int}(h:∀b∈bs,b=0\/b=1):dj S.switches.length (nG M S bs):=⟨nU.symm,λb hb=>by obtain⟨n,_,rfl⟩:=aai.mp hb;exact ke (lX h) n⟩
theorem B8{M S:ay}{cs:List Int}(h:∀b∈cs,b=0\/b=1):dj S.keepers.length (je M S cs):=⟨uL.symm,λb hb=>by obtain⟨n,_,rfl⟩:=aai.mp hb;exact ke (lX h) n.1⟩
section
variable {P:Program}{w:World}{K:W.Frag}{mg:Str->Option Value}{base:Heap}{C:Addr}
noncomputable abbrev Q6:List Str:=["_law_script", "_law_m", "_law_small", "_law_names", "_law_firsts", "_law_stand", "_law_bits", "_law_other", "_law_name", "_law_first", "_law_k", "_law_told", "_law_inputs", "_law_values_here", "_law_less", "_law_fewer"]
noncomputable abbrev uf:List Str:=["_law_script", "_law_m", "_law_small", "_law_names"]
theorem e9:aK Q6 uf (aw B6):=fs
theorem KN{f fF fM fC fV fB fX:Addr}{fd dF dM dC dV dB dX:FuncData}(F:aO K "_law_along" "_law_along" B6 f fd)(O:Own mg)(O2:gw mg)(CF:cc P w K mg base 1 fF dF "_law_all_first" ["_law_m"] B5)(CM:cc P w K mg base 1 fM dM "_law_mix" ["_law_cell", "_law_k"] uC) (CC:cc P w K mg base 1 fC dC "_law_cell_at" ["_law_script", "_law_k"] (qi K))
 (CV:cc P w K mg base 2 fV dV "_law_values" qv (oE K)) (CB:cc P w K mg base 1 fB dB "_law_bit" ["_law_values_here", "_law_literal_here"] qu) (CX:cc P w K mg base 3 fX dX "_law_next" qv (BK K)):aR P w K mg base aY 4 f fd uf (yI K):=by
 refine F.go e9 (λcdv A outer s H vs Q E hr h=>?_)
 obtain⟨a,m,sm,d,a1,a2,a3,a4,a5,a6,b1,b2,b3,b4,b5,b6,ns,M,S,names,xM,l,fv,I,rfl,ha,hM,hS,ok,gM,fw,lL,hd,al,kk⟩:=h
 have hu:=dY hr
 have ef:aW 1 (A.deeper _):=hr.mono (by decide)
 have gp:aW 2 (A.deeper _):=hr.mono (by decide)
 refine⟨_,(aj (dQ 4 e9.nd (aV CF ef (aa (pv 1) ag)))
  (aj (dQ 5 e9.nd (aN (r:=sO K) bT (pv 4) (aB dE (aV CM ef (aa (aV CC ef (aa (pv 0) (aa ak ag))) (aa ak ag))) (eR eA (by rfl) O.len abI (aa (pv 4) ag))) (λ_ _=>rfl)))
  (aj (dQ 6 e9.nd (NA (by rfl) O2.dict (by rfl) O2.zip rfl (aa (dZ (N:=["_law_one"]) (js:=[none]) (te:=(oP (eu K) (cg 0) (tC (.int 0)))) (by kernel_rfl) rfl (bf (aC hu (pv 1) av (λ_ _=>rfl))) (λ_ _ _ _ _ _=>(ar (i:=0) (show (["_law_one"]:List Str).Nodup from dk) rfl (Or.inl rfl) (.inr rfl))) (λ_ _ _ _ _ _=>bb) (λ_ _ _ _ _ _=>(aN (r:=eu K) cN (pv 0) ak (λ_ _=>rfl)))) (aa (pv 5) ag))))
  (aj (dQ 7 e9.nd (aJ nh (by rfl) O2.tuple acu (aa (dZ (N:=["_law_one", "_law_bits"]) (js:=[none,some 6]) (te:=(oR (cg 1) (oP (eu K) (cg 0) (tC (.int 0))))) (by kernel_rfl) rfl (bf (aC hu (pv 2) av (λ_ _=>rfl))) (λ_ _ _ _ _ _=>(ar (i:=0) (show (["_law_one", "_law_bits"]:List Str).Nodup from dk) rfl (Or.inl rfl) (.inr rfl))) (λ_ _ _ _ _ _=>bb) (λ_ _ _ _ _ _=>(aC hu (pv 1) (aN (r:=eu K) cN (pv 0) ak (λ_ _=>rfl)) (λ_ _=>rfl)))) ag)))
  (aj (df aaM rfl (bf (aC hu (pv 2) av (λ_ _=>rfl))) (cw rfl (ax (ar (i:=8) e9.nd rfl (Or.inl rfl)) (ax (ar (i:=9) e9.nd rfl (Or.inl rfl)) bF)))
   (au (cP (PW.pt (sA (hW (pW (pv 9))) (pX (hW (AE (aC hu (pv 6) (pv 8) (λ_ _=>rfl)) (pv 9))))))
    (au (aI mh)) bh)))
  (aj (df aaM rfl (dU rfl O.range (aa ak ag)) (ar (i:=10) e9.nd rfl (Or.inr rfl))
   (aj (nL (i:=11) e9.nd rfl rfl (N:=["_law_j", "_law_script", "_law_k"]) (js:=[none,some 0,some 10]) (by kernel_rfl) rfl (dU rfl O.range (aa (eR eA (by rfl) O.len abI (aa (aC hu (pv 1) av (λ_ _=>rfl)) ag)) ag)) (λ_ _ _ _ _ _=>(ar (i:=0) (show (["_law_j", "_law_script", "_law_k"]:List Str).Nodup from dk) rfl (Or.inl rfl) (.inr rfl))) (λ_ _ _ _ _ _=>bb) (λ_ _ _ _ _ _=>(aB dE (aB iO (aV CM ef (aa (aV CC ef (aa (pv 1) (aa (aB eP ak (pv 2)) ag))) (aa (pv 0) ag))) ak) ak)))
   (aj (dQ 12 e9.nd (KL (by rfl) O2.dict (by rfl) O2.zip rfl (aa (aC hu (pv 1) av (λ_ _=>rfl)) (aa (pv 11) ag))))
   (aj (dQ 13 e9.nd (aV CV gp (aa (pv 1) (aa (pv 5) (aa (pv 11) ag)))))
   (aj (nL (i:=14) e9.nd rfl rfl (N:=["_law_name", "_law_inputs"]) (js:=[none,some 12]) (te:=(oR (cg 1) (cg 0))) (by kernel_rfl) rfl (bf (aC hu (pv 2) av (λ_ _=>rfl))) (λ_ _ _ _ _ _=>(ar (i:=0) (show (["_law_name", "_law_inputs"]:List Str).Nodup from dk) rfl (Or.inl rfl) (.inr rfl))) (λ_ _ _ _ _ _=>bb) (λ_ _ _ _ _ _=>(aC hu (pv 1) (pv 0) (λ_ _=>rfl))))
   (aj (dQ 15 e9.nd (aV CV gp (aa (pv 2) (aa (pv 7) (aa (pv 14) ag)))))
   (aj (DQ (df aaM rfl (uE (pv 3)) (ar (i:=8) e9.nd rfl (Or.inl rfl))
    (au (cP (PW.pt (sA (hW (pW (aC hu (pv 3) (pv 8) (λ_ _=>rfl)))) (pX (hW (AE (aV CB ef (aa (pv 15) (aa (aC hu (pv 3) (pv 8) (λ_ _=>rfl)) ag))) (aC hu (pv 13) (pv 8) (λ_ _=>rfl)))))))
     (au (aI mh)) bh))))
   (aj (dQ 5 e9.nd (aV CX hr (aa (pv 1) (aa (pv 5) (aa (pv 11) ag)))))
   (au (dQ 7 e9.nd (aV CX hr (aa (pv 2) (aa (pv 7) (aa (pv 14) ag))))))))))))))
  (au (aI mh)))))))),?_⟩
 try dsimp only[i7]
 have nd:=ok.nd
 rw[ok.all]at nd
 have kd:(M.keepers.map (·.1)).Nodup:=(aaB.mp (aaB.mp nd).1).2.1
 have sd:M.switches.Nodup:=(aaB.mp (aaB.mp nd).1).1
 refine⟨_,rfl,m,a1,a2,a3,a4,a5,a6,M,names,rfl,hM,ok,fw,λp ts qD H1 s1 q1 tl pt qp=>?_⟩
 refine⟨_,rfl,_,rfl,a,ns,_,rfl,ah.seq s1 ha,by decide,λc=>⟨c,3,rfl,by decide,by decide,λv v0 v1=>?_⟩⟩
 refine⟨_,rfl,p,_,rfl,.inl (aq.of q1),_,_,rfl,rfl,(by rw[aaa,tl];show (0:Int)<4;decide),?_⟩
 rw[aaa,tl]
 have hi:(v % 4).toNat<ts.length:=by lia
 have Q7:ts[(v % 4).toNat]?=some ts[(v % 4).toNat]:=aae hi
 have pl:=pt.length
 have Bc:qD[(v % 4).toNat]?=some (qD[(v % 4).toNat]'(by lia)):=aae (by lia)
 obtain⟨mQ,fk,nq⟩:=gd pt Bc
 have IF:=qp _ (aaN Bc)
 generalize sR:qD[(v % 4).toNat]'(by lia)=jx at Bc nq IF
 generalize aeq:ts[(v % 4).toNat]=D8 at Q7
 have est:mQ=D8:=by rw[Q7]at fk;exact(aaA fk).symm
 rw[est]at nq
 have qj:ie (ts.map V.ref) (v % ((4:Nat):Int))=some (.ref D8):=by
  rw[show v % ((4:Nat):Int)=((v % 4).toNat:Int) by lia]
  exact gy (by rw[aal,Q7];rfl)
 refine⟨p,_,_,_,rfl,rfl,aq.of q1,qj,?_⟩
 have fU:=hM.same s1
 obtain⟨t2,h2,p2⟩:=id fU.kp
 have nH:=f7 p2
 have e2:(t2.map V.ref)=((t2.zip M.keepers).map λz=>V.ref z.1):=by
  rw[show ((t2.zip M.keepers).map λz=>V.ref z.1)=((t2.zip M.keepers).map (·.1)).map V.ref from by rw[aau];rfl,acR (abX nH.length)]
 have dw:(t2.zip M.keepers).map (·.2)=M.keepers:=acS (abX nH.length.symm)
 refine⟨_,rfl,m,.ref a2,rfl,a7.k (k:=.inr "keepers") fU.top,a2,rfl,⟨_,aq.of h2⟩,λD hD=>?_⟩
 refine jG (xs:=t2.zip M.keepers) (kp:=λ_=>true) (y:=λz=>.inl (.str z.2.1)) (λz=>V.ref z.1) (by rw[aa6];have:=fw.n2;exact aap (acy _ _) (by lia)) (by rw[h2,e2]) hD (λz hz H9 s9=>rw_yes λY hY=>?_) λH2 vs s2 bx p3=>?_
 . exact⟨_,rfl,z.1,_,0,_,rfl,rfl,aM.of (s9 _ _ (jH nH z hz)),jt,hY _ _ (λ_ _ h=>h) rfl⟩
 rw[eX]at p3
 have ev:=iD p3
 rw[show ((t2.zip M.keepers).map λz=>V.str z.2.1)=((t2.zip M.keepers).map (·.2)).map (λr=>V.str r.1) from by rw[aau];rfl,dw,show (M.keepers.map λr=>V.str r.1)=((M.keepers.map (·.1)).map (Sum.inr:Str->Key)).map kV from by rw[aau,aau];rfl]at ev
 subst ev
 have l2:=IF.n.1
 refine⟨_,rfl,D,D8,(M.keepers.map (·.1)).map (Sum.inr:Str->Key),jx.map V.int,rfl,.inl (aq.of bx),aM.of (s2 _ _ nq),by simp only[aaa];lia,λbt DL=>?_⟩
 rw[yp,show bA [] (eh ((M.keepers.map (·.1)).zip jx))=eh ((M.keepers.map (·.1)).zip jx) from tZ _ [] (by rw[abM,cH (by rw[aaa];exact l2)];exact kd)]
 have s3:ah H2 (upd H2 bt (.dK (eh ((M.keepers.map (·.1)).zip jx)))):=ah.ao DL
 have q3:(upd H2 bt (.dK (eh ((M.keepers.map (·.1)).zip jx)))) bt=some (.dK (eh ((M.keepers.map (·.1)).zip jx))):=af
 generalize upd H2 bt (.dK (eh ((M.keepers.map (·.1)).zip jx)))=H3 at s3 q3 ⊢
 have iH:=(s1.trans s2).trans s3
 have LN:=hS.same iH
 have Yd:((M.keepers.map (·.1)).zip jx).map (·.1)=M.keepers.map (·.1):=cH (by rw[aaa];exact l2)
 have V2:∀r∈S.keepers,r.1∈((M.keepers.map (·.1)).zip jx).map (·.1):=λr hr=>by rw[Yd];exact aai.mpr ⟨r,al.kp r hr,rfl⟩
 obtain⟨t4,h4,p4⟩:=id LN.kp
 have xN:=f7 p4
 have e4:(t4.map V.ref)=((t4.zip S.keepers).map λz=>V.ref z.1):=by
  rw[show ((t4.zip S.keepers).map λz=>V.ref z.1)=((t4.zip S.keepers).map (·.1)).map V.ref from by rw[aau];rfl,acR (abX xN.length)]
 have wU:(t4.zip S.keepers).map (·.2)=S.keepers:=acS (abX xN.length.symm)
 refine⟨_,rfl,sm,.ref b2,rfl,a7.k (k:=.inr "keepers") LN.top,b2,rfl,⟨_,aq.of h4⟩,λD2 mH=>?_⟩
 refine jG (xs:=t4.zip S.keepers) (kp:=λ_=>true) (y:=λz=>.inl (.int (bw ((M.keepers.map (·.1)).zip jx) z.2.1))) (λz=>V.ref z.1) (by rw[aa6];have:=lL.n2;exact aap (acy _ _) (by lia)) (by rw[h4,e4]) mH (λz hz H9 s9=>rw_yes λY hY=>?_) λH4 vs s4 Ye p5=>?_
 . exact⟨_,rfl,_,rfl,z.1,_,0,_,rfl,rfl,aM.of (s9 _ _ (jH xN z hz)),jt,bt,_,rfl,lY (.inl (s9 _ _ q3)) (V2 z.2 (abE hz).2),hY _ _ (λ_ _ h=>h) rfl⟩
 rw[eX]at p5
 have ev:=iD p5
 rw[show ((t4.zip S.keepers).map λz=>V.int (bw ((M.keepers.map (·.1)).zip jx) z.2.1))=((t4.zip S.keepers).map (·.2)).map (λr=>V.int (bw ((M.keepers.map (·.1)).zip jx) r.1)) from by rw[aau];rfl,wU,show (S.keepers.map λr=>V.int (bw ((M.keepers.map (·.1)).zip jx) r.1))=(je M S jx).map V.int from by unfold je;rw[aau];rfl]at ev
 subst ev
 refine⟨D2,_,rfl,.inl ⟨aq.of Ye,λD9 Yf=>?_⟩⟩
 have s5:ah H4 (upd H4 D9 (.tup ((je M S jx).map V.int))):=ah.ao Yf
 have q5:(upd H4 D9 (.tup ((je M S jx).map V.int))) D9=some (.tup ((je M S jx).map V.int)):=af
 generalize upd H4 D9 (.tup ((je M S jx).map V.int))=H5 at s5 q5 ⊢
 have vA:=s4.trans s5
 have sr:=iH.trans vA
 have q35:=vA _ _ q3
 have Yg:H5 D8=some (.tup (jx.map V.int)):=((s2.trans s3).trans vA) _ _ nq
 have V3:=hS.same sr
 obtain⟨t6,h6,p6⟩:=id V3.kp
 have V4:=f7 p6
 have l6:=V4.length
 refine⟨_,rfl,sm,.ref b2,rfl,a7.k (k:=.inr "keepers") V3.top,b2,rfl,⟨_,aq.of h6⟩,fo (xs:=t6.map V.ref) (λi σ Hi=>∃v8 v9,σ=[some (.ref a),some (.ref m),some (.ref sm),some (.ref d),some (.ref p),some (.ref D8),some (.ref bt),some (.ref D9),v8,v9,none,none,none,none,none,none]/\Hi=H5) ⟨_,_,rfl,rfl⟩ (λi σ Hi _ ⟨_,_,_,e⟩=>by rw[e];exact aq.of h6) ?_ ?_⟩
 . rintro i x σ Hi hx ⟨v8,v9,rfl,rfl⟩
   rw[aal]at hx
   cases ht:t6[i]? with
   | none=>rw[ht]at hx;cases hx
   | some t=>
    rw[ht]at hx
    cases hx
    have ug:i<S.keepers.length:=by have:=(aaq.mp ht).1;lia
    have eF:S.keepers[i]?=some S.keepers[i]:=aae ug
    obtain⟨t',fk,dq⟩:=gd V4 eF
    rw[ht]at fk
    cases fk
    generalize Aa:S.keepers[i]=r at eF dq
    have lK:=aaN eF
    refine⟨t,_,rfl,aM.of dq,rfl,_,_,rfl,_,_,rfl,rfl,?_⟩
    refine⟨_,rfl,_,rfl,?_⟩
    rcases IF.f r (al.kp r lK) with e|e
    . rw[e]
      exact bu (bu ⟨_,_,rfl,rfl⟩)
    . rw[e]
      refine dm ⟨_,rfl,_,rfl,bt,_,rfl,lY (.inl q35) (V2 r lK),_,rfl,_,_,rfl,rfl,_,rfl,?_⟩
      show (if (!decide (bw ((M.keepers.map (·.1)).zip jx) r.1=bw ((M.keepers.map (·.1)).zip jx) r.1))=true then _ else _)
      rw[aaT rfl]
      exact bu ⟨_,_,rfl,rfl⟩
 rintro σ Hi ⟨v8,v9,rfl,rfl⟩
 refine⟨5,rfl,by decide,by decide,ia (n:=5) (λi σ Hi=>∃(v8 v9 v10 v11 rZ r8 Q8 Q9:Option V) (st ot:Addr) (cs:List Int),σ=[some (.ref a),some (.ref m),some (.ref sm),some (.ref d),some (.ref p),some (.ref st),some (.ref bt),some (.ref ot),v8,v9,v10,v11,rZ,r8,Q8,Q9]/\ah H Hi/\aM K Hi st (cs.map V.int)/\aM K Hi ot ((je M S cs).map V.int)/\dj M.keepers.length cs/\I cs) ?_ ?_ ?_⟩
 . exact⟨_,_,_,_,_,_,_,_,D8,D9,jx,rfl,sr,aM.of Yg,aM.of q5,IF.n,al.st jx IF⟩
 . rintro i σ Hi hi ⟨v8,v9,v10,v11,rZ,r8,Q8,Q9,st,ot,cs,rfl,si,nq,V5,sR,hI⟩
   have vB:=hM.same si
   have hSi:=hS.same si
   refine⟨_,rfl,m,.ref a1,rfl,a7.k (k:=.inr "switches") vB.top,a1,_,rfl,.inl (aq.of vB.sw),M.switches.length,by rw[aaa],by lia,by have:=fw.n1;lia,λD hD=>?_⟩
   refine iW M.switches.length (λj acc br H9=>(∃u,br=u::qU [some 0,some 10] _)/\ah Hi H9/\∃bs:List Int,acc=bs.map V.int/\bs.length=j/\∀b∈bs,b=0\/b=1) ⟨⟨none,rfl⟩,λb o hb=>by rw[ai (ae hb hD)];exact hb,[],rfl,rfl,λ_ h=>(nomatch h)⟩ af ?_ ?_
   rotate_left
   . rintro j acc br H9 hj bx ⟨⟨u,rfl⟩,s9,bs,rfl,ka,wc⟩
     refine⟨hj,?_⟩
     rintro x H' ⟨rfl,rfl⟩
     refine il ?_
     have ha9:=ah.seq (si.trans s9) ha
     refine⟨_,rfl,_,rfl,_,_,rfl,rfl,a,ns,_,rfl,ha9,(by lia),λc=>⟨_,rfl,c,_,rfl,by lia,by have:=fw.n1;lia,λv v0 v1=>?_⟩⟩
     refine⟨_,_,rfl,rfl,⟨by decide,by decide⟩,_,_,rfl,rfl,(by show (0:Int)<2;decide),_,bx,(by rw[aaa];have:=fw.n1;exact small (by lia)),dJ hj af ⟨⟨_,rfl⟩,λb o hb=>by rw[ai (ae hb hD)];exact s9 _ _ hb,bs++[v / 7 % 2],by rw[aaf];rfl,by rw[aaj,aaK,ka],λb hb=>?_⟩⟩
     rcases aag.mp hb with q|q
     . exact wc b q
     . rw[aao.mp q];lia
   rintro acc br J1 bx ⟨_,w1,bs,rfl,ka,wc⟩
   refine⟨aah _,?_⟩
   have IG:dj M.switches.length bs:=⟨ka.symm,wc⟩
   have Ra:=vB.same w1
   refine⟨_,rfl,m,.ref a1,rfl,a7.k (k:=.inr "switches") Ra.top,_,rfl,a1,D,M.switches.map (Sum.inr:Str->Key),bs.map V.int,rfl,aq.of (by rw[Ra.sw,aau];rfl),aq.of bx,by simp only[aaa];lia,λip hip=>?_⟩
   rw[yp,show bA [] (eh (M.switches.zip bs))=eh (M.switches.zip bs) from tZ _ [] (by rw[abM,cH ka.symm];exact sd)]
   have w2:ah J1 (upd J1 ip (.dK (eh (M.switches.zip bs)))):=ah.ao hip
   have r2:(upd J1 ip (.dK (eh (M.switches.zip bs)))) ip=some (.dK (eh (M.switches.zip bs))):=af
   generalize upd J1 ip (.dK (eh (M.switches.zip bs)))=J2 at w2 r2 ⊢
   have Ea:=w1.trans w2
   have Rb:=si.trans Ea
   refine⟨_,rfl,_,rfl,_,rfl,m,a1,a2,a3,a4,a5,a6,st,D,M,names,bs,cs,rfl,hM.same Rb,(fw.fm ok).fit IG sR,ah.lT Ea nq,aq.of (w2 _ _ bx),λvd J3 nvd w3 qvd=>?_⟩
   have IH:=Rb.trans w3
   have KO:=hS.same IH
   refine⟨_,rfl,sm,.ref b1,rfl,a7.k (k:=.inr "switches") KO.top,b1,rfl,⟨_,aq.of KO.sw⟩,λD3 lF=>?_⟩
   refine jG (xs:=S.switches) (kp:=λ_=>true) (y:=λn=>.inl (.int (bw (M.switches.zip bs) n))) V.str (by have:=lL.n1;lia) KO.sw lF (λn hn H9 s9=>rw_yes λY hY=>?_) λJ4 vs w4 qY p7=>?_
   . exact⟨_,rfl,_,rfl,ip,_,rfl,lY (.inl (s9 _ _ (w3 _ _ r2))) (by rw[cH ka.symm];exact al.sw n hn),hY _ _ (λ_ _ h=>h) rfl⟩
   rw[eX]at p7
   have ev:=iD p7
   rw[show (S.switches.map λn=>V.int (bw (M.switches.zip bs) n))=(nG M S bs).map V.int from by unfold nG;rw[aau];rfl]at ev
   subst ev
   have II:=IH.trans w4
   have Eb:=w3.trans w4
   refine⟨_,rfl,_,rfl,_,rfl,sm,b1,b2,b3,b4,b5,b6,ot,D3,S,xM,nG M S bs,je M S cs,rfl,hS.same II,(lL.fm gM).fit (B7 wc) (B8 sR.2),ah.lT (Ea.trans Eb) V5,aq.of qY,λRc J5 nfd w5 qfd=>?_⟩
   have B9:=II.trans w5
   have d5:=B9 _ _ hd
   refine⟨_,rfl,d,_,rfl,d5,λo=>?_⟩
   have ff:(upd J5 d (.cj o (.dK (l.map λn=>((.inr n:Key),fv n))))) d=some (.cj o (.dK (l.map λn=>((.inr n:Key),fv n)))):=af
   have nn:∀{b:Addr}{ob:HO},J5 b=some ob->b≠d->(upd J5 d (.cj o (.dK (l.map λn=>((.inr n:Key),fv n))))) b=some ob:=λhb hn=>by rw[ai hn];exact hb
   have vd5:J5 vd=some (.dK (eh (cQ M bs cs M.gates.length))):=(w4.trans w5) _ _ qvd
   have vdd:vd≠d:=(ae (Rb _ _ hd) nvd).symm
   have Yh:Rc≠d:=(ae (II _ _ hd) nfd).symm
   have V6:=nn vd5 vdd
   have V7:=nn qfd Yh
   generalize hJf:upd J5 d (.cj o (.dK (l.map λn=>((.inr n:Key),fv n))))=Jf at ff V6 V7 ⊢
   refine Kj (λj br Hj=>∃Rf,br=[some (.ref a),some (.ref m),some (.ref sm),some (.ref d),some (.ref p),some (.ref st),some (.ref bt),some (.ref ot),Rf,v9,some (.int (0+(i:Int))),some (.ref D),some (.ref ip),some (.ref vd),some (.ref D3),some (.ref Rc)]/\ah Jf Hj) ⟨_,rfl,λ_ _ h=>h⟩ (λj br Hj _ ⟨_,_,sj⟩=>sj _ _ ff) ?_ ?_
   . rintro j kv br Hj jn ⟨Rf,rfl,sj⟩
     rw[aal]at jn
     cases Rg:l[j]? with
     | none=>rw[Rg]at jn;cases jn
     | some n=>
      rw[Rg]at jn
      cases jn
      have mF:=aaN Rg
      have vn:=yG (f:=fv) mF
      have V8:Rd Hj d (.dK (l.map λn=>((.inr n:Key),fv n))):=.inr ⟨_,sj _ _ ff⟩
      refine⟨_,rfl,_,rfl,d,fv n,rfl,.inl ⟨_,.inr n,V8,rfl,vn.symm⟩,_,rfl,?_⟩
      rcases al.fv n mF with e|⟨z,e⟩
      . rw[e]
        exact bu (bu ⟨_,rfl,sj⟩)
      . obtain⟨z1,z2⟩:=al.vs bs cs IG sR hI n mF z e
        have Rh:n∈(cQ M bs cs M.gates.length).map (·.1):=by rw[fQ ka.symm sR.1,aaH];exact al.ln n mF
        rw[e]at vn ⊢
        refine dm ⟨_,rfl,_,rfl,_,rfl,d,.str z,rfl,.inl ⟨_,.inr n,V8,rfl,vn.symm⟩,Rc,_,z,rfl,.inl (sj _ _ V7),z1,λHk sk=>⟨_,rfl,_,rfl,vd,_,rfl,lY (.inl (sk _ _ (sj _ _ V6))) Rh,_,_,rfl,rfl,_,rfl,?_⟩⟩
        show (if (!decide (eW _ z=bw _ n))=true then _ else _)
        rw[aaT z2]
        exact bu ⟨_,rfl,sj.trans sk⟩
   rintro br Hj ⟨Rf,rfl,sj⟩
   refine⟨d,o,_,sj _ _ ff,λo' u z=>?_,?_⟩
   . have z':H d=some (.cj o' u):=z
     rw[hd]at z'
     cases z'
   have IJ:ah J5 (upd Hj d (.dK (l.map λn=>((.inr n:Key),fv n)))):=mY d5 (by rw[hJf];exact sj)
   generalize upd Hj d (.dK (l.map λn=>((.inr n:Key),fv n)))=J6 at IJ ⊢
   have nE:=B9.trans IJ
   have V9:ah Hi J6:=((Ea.trans Eb).trans w5).trans IJ
   refine⟨_,rfl,_,rfl,_,rfl,m,a1,a2,a3,a4,a5,a6,st,D,M,names,bs,cs,rfl,hM.same nE,(fw.fm ok).fit IG sR,ah.lT V9 nq,aq.of (((w2.trans Eb).trans (w5.trans IJ)) _ _ bx),λrQ J7 nst w7 qst=>?_⟩
   refine⟨_,rfl,_,rfl,_,rfl,sm,b1,b2,b3,b4,b5,b6,ot,D3,S,xM,nG M S bs,je M S cs,rfl,hS.same (nE.trans w7),(lL.fm gM).fit (B7 wc) (B8 sR.2),ah.lT (V9.trans w7) V5,aq.of (((w5.trans IJ).trans w7) _ _ qY),λot' J8 not' w8 qot=>?_⟩
   obtain⟨hI',EK⟩:=al.nx bs cs IG sR hI
   refine⟨_,_,_,_,_,_,_,_,rQ,ot',iu M bs cs,rfl,(nE.trans w7).trans w8,aM.of (w8 _ _ qst),aM.of ?_,(fw.fm ok).step IG sR,hI'⟩
   rw[← EK]
   exact qot
 . rintro σ Hi ⟨v8,v9,v10,v11,rZ,r8,Q8,Q9,st,ot,cs,rfl,si,_⟩
   exact kk Hi si
end
noncomputable def Mu(k:Nat):Str:=⟨#[97+k]⟩
noncomputable def sN(k:Nat):Str:="s" ++ Mu k
noncomputable def kN(k:Nat):Str:="k" ++ Mu k
noncomputable def gN(k:Nat):Str:="g" ++ Mu (k / 26)++Mu (k % 26)
noncomputable def oJ:List Str:=(List.range 12).map sN
noncomputable def Ca:List Str:=(List.range 16).map kN
noncomputable def vC(i:Nat):List Str:=(List.range i).map gN
noncomputable def cI(i:Nat):List Str:=oJ++Ca++vC i
noncomputable def FI(z:Str):Bool:=decide (1<=z.cps.toList.length) && (decide (z.cps.toList.length<=8) && z.cps.toList.all λc=>decide (97<=c) && decide (c<=122))
theorem Cb{z:Str}(h:FI z=true):aT z:=by
 unfold FI at h
 rw[abg,abg,aaV,aaV,abP]at h
 refine⟨h.1,h.2.1,λc hc=>iC.mpr ?_⟩
 have:=h.2.2 c hc
 rw[abg,aaV,aaV]at this
 exact this
theorem FJ:((cI 60).all FI)=true:=by decide+kernel
theorem uh:∀z∈cI 60,aT z:=λz hz=>Cb (abP.mp FJ z hz)
theorem N2:(cI 60).Nodup:=by decide+kernel
theorem Cc(i:Nat):vC (i+1)=vC i++[gN i]:=by
 unfold vC
 rw[adL,aaf]
 rfl
theorem IK(i:Nat):cI (i+1)=cI i++[gN i]:=by
 unfold cI
 rw[Cc,abl]
 simp only[abl]
theorem wd(i:Nat):(cI i).length=28+i:=by
 unfold cI oJ Ca vC
 simp only[aaj,aaa,acG]
theorem Cd{z:Str}{i:Nat}(h:z∈cI i)(hi:i<=60):z∈cI 60:=by
 unfold cI at h ⊢
 rcases aag.mp h with h|h
 . exact aag.mpr (.inl h)
 . refine aag.mpr (.inr ?_)
   unfold vC at h ⊢
   obtain⟨k,hk,rfl⟩:=aai.mp h
   exact aai.mpr ⟨k,adg.mpr (by have:=adg.mp hk;omega),rfl⟩
theorem xO{k:Nat}(h:k<26):ie j8.cps.toList (k:Int)=some (97+k):=by
 refine gy ?_
 rw[x9]
 unfold aG
 rw[aal,List.getElem?_range h,Nat.add_comm]
 rfl
theorem N3{α:Type}{xs:List α}{q:Nat}{v:α}(hq:q<xs.length)(h:xs[xs.length-1-q]?=some v):ie xs (-1-(q:Int))=some v:=by
 have e:sM xs.length (-1-(q:Int))=some (xs.length-1-q):=by
  unfold sM
  rw[aay (by omega),aaI (by omega)]
  congr 1
  omega
 unfold ie
 rw[e]
 exact h
theorem we{names:List Str}{q:Nat}(hq:q<names.length):∃z∈names,ie (names.map V.str) (-1-(q:Int))=some (.str z):=by
 refine⟨names[names.length-1-q],abu _,N3 (by rw[aaa];exact hq) ?_⟩
 rw[aaa,aal,aae (by omega)]
 rfl
noncomputable def sg(d:Int):Str:=if d % 2=0 then "" else "~"
theorem Mv(d:Int):ie [V.str "",.str "~"] (d % 2)=some (.str (sg d)):=by
 unfold sg
 rcases (show d % 2=0\/d % 2=1 by omega) with e|e
 . rw[e];rfl
 . rw[e];rfl
theorem IL{names:List Str}{z:Str}(d:Int)(h:z∈names):Lit names (sg d++z):=by
 refine .inr (.inr ⟨z,h,?_⟩)
 unfold sg
 rcases (show d % 2=0\/d % 2=1 by omega) with e|e
 . left
   rw[aaI e]
   exact Dt (by rw[qf,sX,abM])
 . right
   rw[aay (by omega)]
theorem IM{z:Str}(d:Int)(h:aT z):(sg d).length+z.length<=sizeLine:=by
 have h8:=h.len
 have h1:(sg d).length<=1:=by
  unfold sg
  split
  . decide+kernel
  . decide+kernel
 exact iq (by omega)
noncomputable abbrev Ce:Stmt:=top 28
noncomputable abbrev Wa:List Str:=["_law_script", "_law_m", "_law_letters", "_law_k", "_law_switches", "_law_keepers", "_law_names", "_law_gates", "_law_n", "_law_first", "_law_second", "_law_nexts", "_law_wish"]
theorem nj:aK Wa ["_law_script", "_law_m"] (aw Ce):=⟨rfl,rfl,rfl,by decide+kernel,rfl,by decide+kernel,by decide+kernel⟩
theorem Mw:(["_law_k", "_law_one", "_law_names"]:List Str).Nodup:=by decide+kernel
theorem lA{α β γ:Type} {F:α->β->Prop}{g:γ->β} : ∀{us:List α}{l:List γ},Paired (λt r=>F t (g r)) us l->Paired F us (l.map g)
 | _,_,.nil=>.nil
 | _,_,.cons h t=>.cons h (lA t)
section
variable {P:Program}{w:World}{K:W.Frag}{mg:Str->Option Value}{base:Heap}
noncomputable abbrev Ri(P:Program)(w:World)(K:W.Frag)(mg:Str->Option Value)(base:Heap)(f:Addr)(cdv:Value)(A:Around)(outer:List Env)(s:Shared)(H:Hp)(E:XK):Cx:=
 (jj aY P w K mg base Wa "_law_great" (aw Ce) f cdv A outer s H E).kz
theorem IP{f:Addr}(O:Own mg){cdv:Value}{A:Around}{outer:List Env}{s:Shared}{H:Hp}{E:XK}{Q:VK} :
 ∃tR:TS,gj (Ri P w K mg base f cdv A outer s H E) (List.drop 7 (c8 Ce)) tR/\∀(H1:Hp) (v0 v1 v3 v8 v9 v10:Option V) (sw kp n g:Addr) (ts:List Addr) (iJ:List (Str×V)) (gs:List (Str×Str×Str)),
  H1 sw=some (.lst (oJ.map V.str))->H1 kp=some (.lst (ts.map V.ref))->Paired (λt r=>H1 t=some (.tup (fg r))) ts iJ->iJ.map (·.1)=Ca->H1 n=some (.lst ((cI 60).map V.str))->aE H1 g (gs.map cy)->
  (∀(m' a4 a5 a6:Addr) (nx:List (Str×Str)) (z:Str) (H':Hp),cb H' m' ⟨oJ,iJ,gs,nx,[("far",z)],[]⟩ sw kp g a4 a5 a6->nx.map (·.1)=Ca->(∀r∈nx,r.2∈cI 60)->z∈cI 60->ah H1 H'->Q (.ref m') H')->
  tR {nx:=λ_ H'=>Q .aH H',rt:=Q} [v0,v1,some (.str j8),v3,some (.ref sw),some (.ref kp),some (.ref n),some (.ref g),v8,v9,v10,none,none] H1:=by
 refine⟨_,aj (nL (i:=11) (N:=["_law_k", "_law_one", "_law_names"]) (js:=[none,none,some 6]) (g:=ng K 2 (eO (cv 0) (eO (cv 1) m7))) nj.nd rfl rfl (by kernel_rfl) rfl (lR rfl O.enum (aa (pv 5) ag))
  (λ_ _ _ _ _ _=>cw rfl (ax (ar (i:=0) Mw rfl (Or.inl rfl) (.inr rfl)) (ax (ar (i:=1) Mw rfl (Or.inl rfl) (.inr rfl)) bF))) (λ_ _ _ _ _ _=>bb)
  (λ_ _ _ _ _ _=>cx (aa (aN (r:=eu K) cN (pv 1) ak (λ_ _=>rfl)) (aa (aN (r:=sO K) bT (pv 2) (aB nZ (uy p0 ak) (pv 0)) (λ_ _=>rfl)) ag))))
  (aj (bz (i:=12) nj.nd rfl (Or.inl rfl) (cq (aa (cx (aa av (aa (aN bT (pv 6) (uy p0 ak) (λ_ _=>rfl)) ag))) ag)))
  (au (aI (uA (eS av (pv 4) (eS av (pv 5) (eS av (pv 7) (eS av (pv 11) (eS av (pv 12) (eS av (cq ag) uz)))))) rfl rfl (by simp) (by decide))))),?_⟩
 try dsimp only[i7]
 intro H1 v0 v1 v3 v8 v9 v10 sw kp n g ts iJ gs AZ Cf kZ hk hn hg kk
 have zB:iJ.length=16:=by
  have:=congrArg List.length hk
  rw[aaa]at this
  rw[this]
  rfl
 have nu:=kZ.length
 refine⟨_,rfl,kp,rfl,⟨_,aq.of Cf⟩,λD hD=>?_⟩
 refine iW 16 (λj acc σ H3=>(∃(us:List Addr) (rs:List (Str×Str)),acc=us.map V.ref/\Paired (λt r=>H3 t=some (.tup (bq r))) us rs/\rs.map (·.1)=(iJ.take j).map (·.1)/\us.length=j/\∀r∈rs,r.2∈cI 60)/\(∃u v,σ=[u,v,some (.ref n)])/\ah H1 H3) ⟨⟨[],[],rfl,.nil,rfl,rfl,λ_ h=>(nomatch h)⟩,⟨none,none,rfl⟩,ah.ao hD⟩ af ?_ ?_
 . rintro acc σ H3 bx ⟨⟨us,rs,rfl,fH,Mx,_,Bi⟩,_,jm⟩
   rw[aa2 (by omega),hk]at Mx
   refine⟨⟨_,aq.of (jm _ _ Cf),by rw[aaa,nu,zB];exact aah _⟩,?_⟩
   obtain⟨z,hz,qj⟩:=we (names:=cI 60) (q:=0) (by rw[wd];decide)
   refine⟨_,rfl,_,rfl,n,_,_,_,rfl,rfl,aq.of (jm _ _ hn),qj,(by show 2<=sizeLine;decide),λT hT=>?_⟩
   have t1:ah H3 (upd H3 T (.tup (bq ("far",z)))):=ah.ao hT
   have q1:(upd H3 T (.tup (bq ("far",z)))) T=some (.tup (bq ("far",z))):=af
   have e1:([V.str "far",.str z]:List V)=bq ("far",z):=rfl
   rw[e1]
   generalize upd H3 T (.tup (bq ("far",z)))=J1 at t1 q1 ⊢
   refine⟨(by show 1<=sizeLine;decide),λa5 vh=>?_⟩
   have t2:ah J1 (upd J1 a5 (.lst [.ref T])):=ah.ao vh
   have q2:(upd J1 a5 (.lst [.ref T])) a5=some (.lst [.ref T]):=af
   generalize upd J1 a5 (.lst [.ref T])=J2 at t2 q2 ⊢
   intro m hm
   have t3:ah J2 (upd J2 m (.dK [])):=ah.ao hm
   have q3:(upd J2 m (.dK [])) m=some (.dK []):=af
   have nm:∀{b:Addr}{o:HO},J2 b=some o->b≠m:=λhb=>ae hb hm
   generalize upd J2 m (.dK [])=J3 at t3 q3 ⊢
   refine⟨_,rfl,_,rfl,_,rfl,_,rfl,_,rfl,(by show 0<=sizeLine;decide),λa6 Dz=>?_⟩
   have t4:ah J3 (upd J3 a6 (.lst [])):=ah.ao Dz
   have q4:(upd J3 a6 (.lst [])) a6=some (.lst []):=af
   generalize upd J3 a6 (.lst [])=J4 at t4 q4 ⊢
   have n6:a6≠m:=(ae q3 Dz).symm
   refine⟨t4 _ _ q3,[(.inr "switches",.ref sw),(.inr "keepers",.ref kp),(.inr "gates",.ref g),(.inr "nexts",.ref D),(.inr "nevers",.ref a5),(.inr "somes",.ref a6)],rfl,(by show 6<=15;decide),?_⟩
   have em:bA [] [((.inr "switches" : Key),V.ref sw),(.inr "keepers",.ref kp),(.inr "gates",.ref g),(.inr "nexts",.ref D),(.inr "nevers",.ref a5),(.inr "somes",.ref a6)]=bU sw kp g D a5 a6:=by rfl
   rw[em]
   have Rj:=t3.trans t4
   have ui:=t1.trans t2
   have up:∀b o,J2 b=some o->(upd J4 m (.dK (bU sw kp g D a5 a6))) b=some o:=λb o hb=>by
    rw[ai (nm hb)]
    exact Rj _ _ hb
   have Rk:ah J2 (upd J4 m (.dK (bU sw kp g D a5 a6))):=up
   have vA:=ui.trans Rk
   have IQ:=jm.trans vA
   refine kk m D a5 a6 rs z _ ⟨af,IQ _ _ AZ,⟨ts,IQ _ _ Cf,?_⟩,hg.same IQ,⟨us,vA _ _ bx,?_⟩,⟨[T],Rk _ _ q2,.cons (Rk _ _ (t2 _ _ q1)) .nil⟩,⟨[],by rw[ai n6];exact q4,.nil⟩⟩ Mx Bi hz IQ
   . exact lA (Paired.bQ kZ λt r e=>IQ _ _ e)
   . exact lA (Paired.bQ fH λt r e=>vA _ _ e)
 . rintro j acc σ H3 hj bx ⟨⟨us,rs,rfl,fH,Mx,ox,Bi⟩,⟨u,v,rfl⟩,jm⟩
   have xK:j<iJ.length:=by omega
   have Wb:iJ[j]?=some iJ[j]:=aae xK
   obtain⟨t,ht,hT⟩:=ir kZ (i:=j) Wb
   have hx:(ts.map V.ref)[j]?=some (.ref t):=by rw[aal,ht];rfl
   refine⟨⟨_,_,aq.of (jm _ _ Cf),hx⟩,?_⟩
   rintro x H' ⟨Tp,xv,rfl,rW,rfl,gJ⟩
   have ex:=gJ _ (aq.of (jm _ _ Cf))
   rw[hx]at ex
   cases ex
   refine⟨Tp,_,rfl,aM.of af,rfl,_,_,rfl,_,_,rfl,rfl,xl ?_⟩
   have t1:ah H3 (upd H3 Tp (.tup [.int (j:Int),.ref t])):=ah.ao rW
   generalize upd H3 Tp (.tup [.int (j:Int),.ref t])=J1 at t1 ⊢
   have rV:=jm.trans t1
   obtain⟨z,hz,qj⟩:=we (names:=cI 60) (q:=j) (by rw[wd];omega)
   refine⟨_,rfl,t,_,0,_,rfl,rfl,aM.of (rV _ _ hT),jt,_,rfl,_,rfl,_,rfl,_,_,rfl,rfl,n,_,_,_,rfl,rfl,aq.of (rV _ _ hn),qj,(by show 2<=sizeLine;decide),λT hT'=>?_⟩
   have t2:ah J1 (upd J1 T (.tup (bq (iJ[j].1,z)))):=ah.ao hT'
   have q2:(upd J1 T (.tup (bq (iJ[j].1,z)))) T=some (.tup (bq (iJ[j].1,z))):=af
   have e2:([V.str iJ[j].1,.str z]:List V)=bq (iJ[j].1,z):=rfl
   rw[e2]
   generalize upd J1 T (.tup (bq (iJ[j].1,z)))=J2 at t2 q2 ⊢
   have ui:=t1.trans t2
   have mH:=ui _ _ bx
   have nt:∀{b:Addr}{o:List V},J2 b=some (.tup o)->b≠D:=λhb e=>by rw[e,mH]at hb;cases hb
   refine⟨_,mH,(by rw[aaa];exact small (by omega)),dJ hj af ⟨⟨us++[T],rs++[(iJ[j].1,z)],by rw[aaf];rfl,abR (Paired.bQ fH λb r e=>?_) ?_,?_,?_,?_⟩,⟨_,_,rfl⟩,λy o hy=>?_⟩⟩
   . rw[ai (nt (ui _ _ e))]
     exact ui _ _ e
   . rw[ai (nt q2)]
     exact q2
   . rw[aaf,Mx,abb,Wb,aaf]
     rfl
   . rw[aaj,aaK,ox]
   . intro r hr
     rcases aag.mp hr with h|h
     . exact Bi r h
     . rw[aao.mp h];exact hz
   . rw[ai (ae hy hD)]
     exact ui _ _ (jm _ _ hy)
end
theorem UU(i:Nat)(h:i<60):("g" : Str)++⟨#[97+i / 26]⟩++⟨#[97+i % 26]⟩=gN i:=rfl
section
variable {P:Program}{w:World}{K:W.Frag}{mg:Str->Option Value}{base:Heap}
structure My(P:Program) (w:World) (K:W.Frag) (mg:Str->Option Value) (base:Heap) (fC fX:Addr) (dC dX:FuncData):Prop where
 O:Own mg
 gC:aR P w K mg base aY 1 fC dC ["_law_script", "_law_k"] (qi K)
 mC:mg "_law_cell_at" = some (.ref fC)
 kC:W.keepIn K (.ref fC)=true
 bC:Binds K dC ["_law_script", "_law_k"] []
 gX:aR P w K mg base aY 1 fX dX ["_law_cell", "_law_k"] uC
 mX:mg "_law_mix" = some (.ref fX)
 kX:W.keepIn K (.ref fX)=true
 bX:Binds K dX ["_law_cell", "_law_k"] []
variable {fC fX:Addr}{dC dX:FuncData}
theorem IS{f:Addr}(G:My P w K mg base fC fX dC dX){cdv:Value}{A:Around}{outer:List Env}{s:Shared}{H:Hp}{E:XK}{Q:VK}(hr:aW 1 (A.deeper (PyProof.Rows.envOfC "_law_great" (aw Ce) s.heap.objs.size f cdv))) :
 ∃tR:TS,gj (Ri P w K mg base f cdv A outer s H E) (List.drop 5 (c8 Ce)) tR/\∀(H1:Hp) (v1 v3:Option V) (a sw kp n:Addr) (ns:List Int) (ts:List Addr) (iJ:List (Str×V)),
  (∀J,aL H1 J n->aq K J a (ns.map V.int))->H1 sw=some (.lst (oJ.map V.str))->sw≠n->H1 kp=some (.lst (ts.map V.ref))->kp≠n->Paired (λt r=>H1 t=some (.tup (fg r))) ts iJ->iJ.map (·.1)=Ca->(∀r∈iJ,r.2=.int 0\/r.2=.int 1\/r.2=.aH)->H1 n=some (.lst ((cI 0).map V.str))->
  (∀(m' a1 a2 a3 a4 a5 a6:Addr) (M:ay) (H':Hp),cb H' m' M a1 a2 a3 a4 a5 a6->az M (cI 60)->jw M->aL H1 H' n->Q (.ref m') H')->
  tR {nx:=λ_ H'=>Q .aH H',rt:=Q} [some (.ref a),v1,some (.str j8),v3,some (.ref sw),some (.ref kp),some (.ref n),none,none,none,none,none,none] H1:=by
 obtain⟨tB,hB,rB⟩:=IP (P:=P) (w:=w) (K:=K) (base:=base) (f:=f) G.O (cdv:=cdv) (A:=A) (outer:=outer) (s:=s) (H:=H) (E:=E) (Q:=Q)
 refine⟨_,aj (bz (i:=7) nj.nd rfl (Or.inl rfl) (cq ag))
  (aj (df aaM rfl (dU rfl G.O.range (aa ak ag)) (ar (i:=3) nj.nd rfl (Or.inl rfl))
   (aj (bz (i:=8) nj.nd rfl (Or.inl rfl) (aX G.gX hr rfl G.mX G.kX G.bX .nil bJ (aa (aX G.gC hr rfl G.mC G.kC G.bC .nil bJ (aa (pv 0) (aa (aB eP ak (aB dE (pv 3) ak)) ag))) (aa (pv 3) ag))))
   (aj (bz (i:=9) nj.nd rfl (Or.inl rfl) (aB cS (aN bT (cq (aa av (aa av ag))) (aB dE (pv 8) ak) (λ_ _=>rfl)) (aN bT (pv 6) (aB nZ (uy p0 ak) (aB dE (aB iO (pv 8) ak) ak)) (λ_ _=>rfl))))
   (aj (bz (i:=10) nj.nd rfl (Or.inl rfl) (aB cS (aN bT (cq (aa av (aa av ag))) (aB dE (aB iO (pv 8) ak) ak) (λ_ _=>rfl)) (aN bT (pv 6) (aB dE (aB iO (pv 8) ak) (eR eA (by rfl) G.O.len abI (aa (pv 6) ag))) (λ_ _=>rfl))))
   (aj (dr (eU aaJ aaQ aaR cJ (pv 7) (aa (cx (aa (aB cS (aB cS av (aN kQ (pv 2) (aB iO (pv 3) ak) (λ_ _=>rfl))) (aN kQ (pv 2) (aB dE (pv 3) ak) (λ_ _=>rfl))) (aa (pv 9) (aa (pv 10) ag)))) ag)))
   (au (dr (eU aaJ aaQ aaR cJ (pv 6) (aa (aN cN (aN bT (pv 7) (uy p0 ak) (λ_ _=>rfl)) ak (λ_ _=>rfl)) ag))))))))) hB),?_⟩
 try dsimp only[i7]
 intro H1 v1 v3 a sw kp n ns ts iJ hS AZ nsw Cf nkp kZ hk Yi hn kk
 have zB:iJ.length=16:=by
  have:=congrArg List.length hk
  rw[aaa]at this
  rw[this]
  rfl
 refine⟨(by show 0<=sizeLine;decide),λg hg=>?_⟩
 have t0:ah H1 (upd H1 g (.lst [])):=ah.ao hg
 have q0:(upd H1 g (.lst [])) g=some (.lst (([]:List Addr).map V.ref)):=af
 have Wc:n≠g:=ae hn hg
 generalize upd H1 g (.lst [])=H0 at t0 q0 ⊢
 have hn0:=t0 _ _ hn
 refine⟨60,rfl,by decide,by decide,ia (n:=60) (λi σ Hi=>∃(v3 v8 v9 v10:Option V) (us:List Addr) (gs:List (Str×Str×Str)),σ=[some (.ref a),v1,some (.str j8),v3,some (.ref sw),some (.ref kp),some (.ref n),some (.ref g),v8,v9,v10,none,none]/\
  Hi n=some (.lst ((cI i).map V.str))/\Hi g=some (.lst (us.map V.ref))/\Paired (λt r=>Hi t=some (.tup (cy r))) us gs/\gs.map (·.1)=vC i/\(∀(j:Nat) (r:Str×Str×Str),gs[j]?=some r->Lit (cI j) r.2.1/\Lit (cI j) r.2.2)/\aL H1 Hi n) ?_ ?_ ?_⟩
 . exact⟨_,none,none,none,[],[],rfl,hn0,q0,.nil,rfl,(λ_ _ h=>by simp at h),ah.keep t0 n⟩
 . rintro i σ Hi hi ⟨Wd,v8,v9,v10,us,gs,rfl,uk,IT,fH,xy,vS,Cg⟩
   have vm:gs.length=i:=by
    have:=congrArg List.length xy
    rw[aaa]at this
    rw[this]
    unfold vC
    rw[aaa,acG]
   have ox:=fH.length
   have jM:=wd i
   have S:∀{J:Hp},ah Hi J->aq K J a (ns.map V.int):=λs'=>ah.seq s' (hS _ Cg)
   have e0:(0+(i:Int))=(i:Int):=ae9 _
   rw[e0]
   have m50:(0:Int)<=(i:Int) % 50:=abN _ (by decide)
   refine⟨_,rfl,_,rfl,_,_,rfl,rfl,(by show (0:Int)<50;decide),_,_,rfl,rfl,a,ns,_,rfl,S (λ_ _ h=>h),(by omega),λc=>⟨_,rfl,c,_,rfl,by omega,by omega,λd d0 d1=>?_⟩⟩
   refine⟨(by show 2<=sizeLine;decide),λp1 Hv=>?_⟩
   have t1:ah Hi (upd Hi p1 (.lst [.str "",.str "~"])):=ah.ao Hv
   have q1:(upd Hi p1 (.lst [.str "",.str "~"])) p1=some (.lst [.str "",.str "~"]):=af
   generalize upd Hi p1 (.lst [.str "",.str "~"])=J1 at t1 q1 ⊢
   have b0:0<=d / 2 % 2:=abN _ (by decide)
   have b1:d / 2 % 2<2:=abB _ (by decide)
   obtain⟨z1,zE,Rl⟩:=we (names:=cI i) (q:=(d / 2 % 2).toNat) (by omega)
   rw[show (((d / 2 % 2).toNat:Nat):Int)=d / 2 % 2 by omega]at Rl
   have nz1:=uh z1 (Cd zE (by omega))
   refine⟨_,rfl,_,_,rfl,rfl,(by show (0:Int)<2;decide),p1,_,_,_,rfl,rfl,aq.of q1,Mv d,_,rfl,_,rfl,_,rfl,_,_,rfl,rfl,⟨by decide,by decide⟩,_,_,rfl,rfl,(by show (0:Int)<2;decide),_,_,rfl,rfl,n,_,_,_,rfl,rfl,aq.of (t1 _ _ uk),Rl,_,_,rfl,rfl,IM d nz1,?_⟩
   refine⟨(by show 2<=sizeLine;decide),λp2 ib=>?_⟩
   have t2:ah J1 (upd J1 p2 (.lst [.str "",.str "~"])):=ah.ao ib
   have q2:(upd J1 p2 (.lst [.str "",.str "~"])) p2=some (.lst [.str "",.str "~"]):=af
   generalize upd J1 p2 (.lst [.str "",.str "~"])=J2 at t2 q2 ⊢
   have Mz:=t1.trans t2
   have c0:0<=d / 8 % ((cI i).length:Int):=abN _ (by omega)
   have c1:d / 8 % ((cI i).length:Int)<((cI i).length:Int):=abB _ (by omega)
   have We:(((cI i).map V.str).length:Int)=((cI i).length:Int):=by rw[aaa]
   have nz:(d / 8 % ((cI i).length:Int)).toNat<(cI i).length:=by omega
   have nz2:=uh _ (Cd (abu nz) (by omega))
   refine⟨_,rfl,_,_,rfl,rfl,⟨by decide,by decide⟩,_,_,rfl,rfl,(by show (0:Int)<2;decide),p2,_,_,_,rfl,rfl,aq.of q2,Mv (d / 4),_,rfl,_,rfl,_,_,rfl,rfl,⟨by decide,by decide⟩,_,rfl,n,_,rfl,.inl (aq.of (Mz _ _ uk)),_,_,rfl,rfl,(by rw[We];omega),n,_,_,_,rfl,rfl,aq.of (Mz _ _ uk),(by rw[We];exact Bg c0 nz),_,_,rfl,rfl,IM (d / 4) nz2,?_⟩
   generalize hf1:sg d++z1=l1
   generalize QR:sg (d / 4)++(cI i)[(d / 8 % ((cI i).length:Int)).toNat]=l2
   have L1:Lit (cI i) l1:=by rw[← hf1];exact IL d zE
   have L2':Lit (cI i) l2:=by rw[← QR];exact IL (d / 4) (abu nz)
   have d0':(i:Int) / 26=((i / 26:Nat):Int):=by omega
   have d1':(i:Int) % 26=((i % 26:Nat):Int):=by omega
   have la:j8.length<=sizeLine:=by decide+kernel
   refine⟨_,rfl,.inl ⟨rfl,_,aq.of (Mz _ _ IT)⟩,_,rfl,_,rfl,_,_,rfl,rfl,⟨by decide,by decide⟩,j8,_,97+i / 26,rfl,rfl,la,(by rw[d0'];exact xO (by omega)),_,_,rfl,rfl,(by rw[i5];exact iq (by decide+kernel)),?_⟩
   refine⟨_,rfl,_,rfl,_,_,rfl,rfl,(by show (0:Int)<26;decide),j8,_,97+i % 26,rfl,rfl,la,(by rw[d1'];exact xO (by omega)),_,_,rfl,rfl,(by rw[tf,i5,i5];exact iq (by decide+kernel)),_,rfl,_,rfl,(by show 3<=sizeLine;decide),λT hT=>?_⟩
   rw[UU i hi]
   have t3:ah J2 (upd J2 T (.tup (cy (gN i,l1,l2)))):=ah.ao hT
   have q3:(upd J2 T (.tup (cy (gN i,l1,l2)))) T=some (.tup (cy (gN i,l1,l2))):=af
   have e3:([V.str (gN i),.str l1,.str l2]:List V)=cy (gN i,l1,l2):=rfl
   rw[e3]
   generalize upd J2 T (.tup (cy (gN i,l1,l2)))=J3 at t3 q3 ⊢
   have Ec:=Mz.trans t3
   refine⟨g,_,_,rfl,rfl,Ec _ _ IT,(by rw[aaa];exact small (by omega)),?_⟩
   have nt:∀{b:Addr}{o:List V},J3 b=some (.tup o)->b≠g:=λhb e=>by rw[e,Ec _ _ IT]at hb;cases hb
   have MA:∀{b:Addr}{o:List V},J3 b=some (.tup o)->b≠n:=λhb e=>by rw[e,Ec _ _ uk]at hb;cases hb
   have e4:(us.map V.ref++[V.ref T])=(us++[T]).map V.ref:=by rw[aaf];rfl
   rw[e4]
   have q4:(upd J3 g (.lst ((us++[T]).map V.ref))) g=some (.lst ((us++[T]).map V.ref)):=af
   have k4:∀b o,J3 b=some o->b≠g->(upd J3 g (.lst ((us++[T]).map V.ref))) b=some o:=λb o hb rP=>by rw[ai rP];exact hb
   generalize upd J3 g (.lst ((us++[T]).map V.ref))=J4 at q4 k4 ⊢
   have Bl:=k4 _ _ (Ec _ _ uk) Wc
   refine⟨_,rfl,.inl ⟨rfl,_,aq.of Bl⟩,_,rfl,_,rfl,g,_,_,_,rfl,rfl,aq.of q4,(by rw[← e4];exact AO _ _),T,_,0,_,rfl,rfl,aM.of (k4 _ _ q3 (nt q3)),jt,?_⟩
   refine⟨n,_,_,rfl,rfl,Bl,(by rw[aaa];exact small (by omega)),_,_,_,_,us++[T],gs++[(gN i,l1,l2)],rfl,?_,?_,?_,?_,?_,?_⟩
   . rw[af,IK,aaf]
     rfl
   . rw[ai Wc.symm]
     exact q4
   . refine abR (Paired.bQ fH λb r e=>?_) ?_
     . have e5:=Ec _ _ e
       rw[ai (MA e5)]
       exact k4 _ _ e5 (nt e5)
     . rw[ai (MA q3)]
       exact k4 _ _ q3 (nt q3)
   . rw[aaf,xy,Cc]
     rfl
   . intro j r jU
     rcases ad5 j gs.length with h|h|h
     . rw[abT h]at jU
       exact vS j r jU
     . rw[h,abq (aah _),ae8]at jU
       cases jU
       rw[h,vm]
       exact⟨L1,L2'⟩
     . rw[abZ (by rw[aaj,aaK];omega)]at jU
       cases jU
   . intro b o hb IU
     rw[ai IU]
     exact k4 _ _ (Ec _ _ (Cg _ _ hb IU)) (ae hb hg)
 . rintro σ Hi ⟨Wd,v8,v9,v10,us,gs,rfl,uk,IT,fH,xy,vS,Cg⟩
   have MA:∀{b:Addr}{o:List V},H1 b=some (.tup o)->b≠n:=λhb e=>by rw[e,hn]at hb;cases hb
   refine rB Hi _ _ _ _ _ _ sw kp n g ts iJ gs (Cg _ _ AZ nsw) (Cg _ _ Cf nkp) (Paired.bQ kZ λt r e=>Cg _ _ e (MA e)) hk uk ⟨us,IT,lA fH⟩ λm' a4 a5 a6 nx z H' hM xg mF hz s'=>?_
   have vm:gs.length=60:=by
    have:=congrArg List.length xy
    rw[aaa]at this
    rw[this]
    rfl
   have hxl:nx.length=16:=by
    have:=congrArg List.length xg
    rw[aaa]at this
    rw[this]
    rfl
   have lit:∀{z:Str},z∈cI 60->Lit (cI 60) z:=λh=>.inr (.inr ⟨_,h,.inl rfl⟩)
   refine kk m' _ _ _ _ _ _ _ H' hM ⟨?_,uh,N2,Yi,λr hr=>?_,λr hr=>lit (mF r hr),by show (nx.map (·.1)).Nodup;rw[xg];decide+kernel,⟨λr hr=>?_,λr hr=>?_,λr hr=>(aaE:r.1∉[]),by show [("far" : Str)].Nodup;simp⟩,⟨λr hr=>(nomatch hr),λr hr=>(nomatch hr),λr hr=>(nomatch hr),ace⟩,λj r hr=>?_⟩
    ⟨by show oJ.length<=12;decide+kernel,by show iJ.length<=16;omega,by show gs.length<=60;omega,by show nx.length<=16;omega,by show 1<=8;decide,by show 0<=8;decide⟩ (aL.trans Cg (ah.keep s' n))
   . show cI 60=oJ++iJ.map (·.1)++gs.map (·.1)
     unfold cI
     rw[hk,xy]
   . show r.1∈iJ.map (·.1)
     rw[hk,← xg]
     exact aai.mpr ⟨r,hr,rfl⟩
   . rw[aao.mp hr]
     show aT "far"
     exact Cb (by decide+kernel)
   . rw[aao.mp hr]
     exact lit hz
   . have hj:j<60:=by have h0:j<gs.length:=(aaq.mp hr).1;omega
     have e:oJ++iJ.map (·.1)++(gs.take j).map (·.1)=cI j:=by
      unfold cI
      rw[hk,abO,xy]
      congr 1
      unfold vC
      rw[← abO,List.take_range,aeM (by omega)]
     show Lit (oJ++iJ.map (·.1)++(gs.take j).map (·.1)) r.2.1/\_
     rw[e]
     exact vS j r hr
end
theorem Yj:(["_law_k", "_law_letters"]:List Str).Nodup:=by decide+kernel
theorem UW:(["_law_k", "_law_letters", "_law_script"]:List Str).Nodup:=by decide+kernel
theorem N4{K:W.Frag}{H H':Hp}{a n:Addr}{o:HO}{xs:List V}(h:aq K H a xs)(hn:H n=none):∀J,aL (upd H n o) J n->aq K J a xs:=λJ k=>by
 rcases h with (h|⟨o,h⟩)|h
 . exact .inl (.inl (k a _ (by rw[ai (ae h hn)];exact h) (ae h hn)))
 . exact .inl (.inr ⟨o,k a _ (by rw[ai (ae h hn)];exact h) (ae h hn)⟩)
 . exact .inr h
theorem KP(v:Int):∃x,ie [V.int 0,.int 1,.aH] (v % 3)=some x/\(x=.int 0\/x=.int 1\/x=.aH):=by
 rcases (show v % 3=0\/v % 3=1\/v % 3=2 by omega) with e|e|e
 . rw[e];exact⟨_,rfl,.inl rfl⟩
 . rw[e];exact⟨_,rfl,.inr (.inl rfl)⟩
 . rw[e];exact⟨_,rfl,.inr (.inr rfl)⟩
theorem N5(j:Nat):((List.range (j+1)).map sN)=(List.range j).map sN++[sN j]:=by rw[adL,aaf];rfl
theorem N6(j:Nat):((List.range (j+1)).map kN)=(List.range j).map kN++[kN j]:=by rw[adL,aaf];rfl
noncomputable def yJ(K:W.Frag):Sp:=λvs H Q _=>∃(a m a1 a2 a3 a4 a5 a6:Addr) (ns:List Int) (M:ay),vs=[.ref a,.ref m]/\aq K H a (ns.map V.int)/\cb H m M a1 a2 a3 a4 a5 a6/\(∃names,az M names)/\jw M/\
 ∀(m' a1 a2 a3 a4 a5 a6:Addr) (M:ay) (names:List Str) (H':Hp),cb H' m' M a1 a2 a3 a4 a5 a6->az M names->jw M->ah H H'->Q (.ref m') H'
section
variable {P:Program}{w:World}{K:W.Frag}{mg:Str->Option Value}{base:Heap}{fC fX:Addr}{dC dX:FuncData}
theorem KQ{f:Addr}{fd:FuncData}(F:aO K "_law_great" "_law_great" Ce f fd)(G:My P w K mg base fC fX dC dX):aR P w K mg base aY 2 f fd ["_law_script", "_law_m"] (yJ K):=by
 refine F.ok nj (λvs H Q E h=>?_) (λcdv A outer s H vs Q E hr h=>?_)
 . obtain⟨a,m,a1,a2,a3,a4,a5,a6,ns,M,rfl,_⟩:=h
   rfl
 . obtain⟨a,m,a1,a2,a3,a4,a5,a6,ns,M,rfl,hS,hM,⟨names,hG⟩,hfw,kk⟩:=h
   obtain⟨tB,hB,rB⟩:=IS G (outer:=outer) (H:=H) (E:=E) (Q:=Q) hr
   refine⟨_,aj (cP (bg Ak (aB dE (aX G.gX hr rfl G.mX G.kX G.bX .nil bJ (aa (aX G.gC hr rfl G.mC G.kC G.bC .nil bJ (aa (pv 0) (aa ak ag))) (aa ak ag))) ak) ak (cp _)) (au (aI (pv 1))) bh)
    (aj (bz (i:=2) nj.nd rfl (Or.inr rfl) av)
    (aj (nL (i:=4) (N:=["_law_k", "_law_letters"]) (js:=[none,some 2]) nj.nd rfl rfl (by kernel_rfl) rfl (dU rfl G.O.range (aa ak ag)) (λ_ _ _ _ _ _=>ar (i:=0) Yj rfl (Or.inl rfl) (.inr rfl)) (λ_ _ _ _ _ _=>bb)
     (λ_ _ _ _ _ _=>aB cS av (aN kQ (pv 1) (pv 0) (λ_ _=>rfl))))
    (aj (nL (i:=5) (N:=["_law_k", "_law_letters", "_law_script"]) (js:=[none,some 2,some 0]) nj.nd rfl rfl (by kernel_rfl) rfl (dU rfl G.O.range (aa ak ag)) (λ_ _ _ _ _ _=>ar (i:=0) UW rfl (Or.inl rfl) (.inr rfl)) (λ_ _ _ _ _ _=>bb)
     (λ_ _ _ _ _ _=>cx (aa (aB cS av (aN kQ (pv 1) (pv 0) (λ_ _=>rfl))) (aa (aN (r:=sO K) bT (cq (aa ak (aa ak (aa ky ag)))) (aB dE (aX G.gX hr rfl G.mX G.kX G.bX .nil bJ (aa (aX G.gC hr rfl G.mC G.kC G.bC .nil bJ (aa (pv 2) (aa ak ag))) (aa (pv 0) ag))) ak) (λ_ _=>rfl)) ag))))
    (aj (bz (i:=6) nj.nd rfl (Or.inr rfl) (aB jP (pv 4) (dZ (N:=["_law_one"]) (js:=[none]) (by kernel_rfl) rfl (bf (pv 5)) (λ_ _ _ _ _ _=>ar (i:=0) Pr rfl (Or.inl rfl) (.inr rfl)) (λ_ _ _ _ _ _=>bb) (λ_ _ _ _ _ _=>aN (r:=eu K) cN (pv 0) ak (λ_ _=>rfl))))) hB)))),?_⟩
   refine⟨_,rfl,a,ns,_,rfl,hS,by decide,λc=>⟨c,7,rfl,by decide,by decide,λd d0 d1=>⟨_,_,rfl,rfl,(by show (0:Int)<8;decide),_,_,rfl,rfl,_,rfl,jN (λ_=>?_) (λ_=>?_)⟩⟩⟩
   . exact⟨_,rfl,kk m a1 a2 a3 a4 a5 a6 M names H hM hG hfw (λ_ _ h=>h)⟩
   have la:j8.length<=sizeLine:=by decide+kernel
   refine⟨12,rfl,by decide,by decide,λD hD=>?_⟩
   refine iW 12 (λi acc σ H2=>acc=((List.range i).map sN).map V.str/\(∃v,σ=[v,some (.str j8)])/\H2=upd H D (.lst acc)) ⟨rfl,⟨none,rfl⟩,rfl⟩ af ?_ ?_
   rotate_left
   . rintro i acc σ H2 hi bx ⟨rfl,⟨v,rfl⟩,rfl⟩
     refine⟨hi,?_⟩
     rintro x H' ⟨rfl,rfl⟩
     refine il ?_
     rw[ae9]
     refine⟨_,rfl,_,rfl,j8,_,97+i,rfl,rfl,la,xO (by omega),_,_,rfl,rfl,(by rw[i5];exact iq (by decide+kernel)),_,af,(by rw[aaa,aaa,acG];exact small (by omega)),dJ hi af ⟨?_,⟨_,rfl⟩,by rw[j5]⟩⟩
     rw[N5,aaf]
     rfl
   rintro acc σ H2 bx ⟨rfl,_,rfl⟩
   refine⟨aah _,?_⟩
   have s1:ah H (upd H D (.lst (oJ.map V.str))):=ah.ao hD
   have q1:(upd H D (.lst (oJ.map V.str))) D=some (.lst (oJ.map V.str)):=af
   have e1:((List.range 12).map sN).map V.str=oJ.map V.str:=rfl
   rw[e1]
   generalize upd H D (.lst (oJ.map V.str))=H1 at s1 q1 ⊢
   clear bx e1
   refine⟨16,rfl,by decide,by decide,λD2 mH=>?_⟩
   refine iW 16 (λj acc σ H3=>(∃(us:List Addr) (ks:List (Str×V)),acc=us.map V.ref/\Paired (λt r=>H3 t=some (.tup (fg r))) us ks/\ks.map (·.1)=(List.range j).map kN/\us.length=j/\∀r∈ks,r.2=.int 0\/r.2=.int 1\/r.2=.aH)/\(∃v,σ=[v,some (.str j8),some (.ref a)])/\ah H1 H3) ⟨⟨[],[],rfl,.nil,rfl,rfl,λ_ h=>(nomatch h)⟩,⟨none,rfl⟩,ah.ao mH⟩ af ?_ ?_
   rotate_left
   . rintro j acc σ H3 hj bx ⟨⟨us,ks,rfl,fH,Rm,ox,qp⟩,⟨v,rfl⟩,jm⟩
     refine⟨hj,?_⟩
     rintro x H' ⟨rfl,rfl⟩
     refine il ?_
     rw[ae9]
     refine⟨_,rfl,_,rfl,j8,_,97+j,rfl,rfl,la,xO (by omega),_,_,rfl,rfl,(by rw[i5];exact iq (by decide+kernel)),(by show 3<=sizeLine;decide),λp hp=>?_⟩
     have t1:ah H' (upd H' p (.lst [.int 0,.int 1,.aH])):=ah.ao hp
     have r1:(upd H' p (.lst [.int 0,.int 1,.aH])) p=some (.lst [.int 0,.int 1,.aH]):=af
     generalize upd H' p (.lst [.int 0,.int 1,.aH])=J1 at t1 r1 ⊢
     refine⟨_,rfl,a,ns,_,rfl,ah.seq ((s1.trans jm).trans t1) hS,by decide,λc=>⟨_,rfl,c,_,rfl,by omega,by omega,λd d0 d1=>?_⟩⟩
     obtain⟨xv,qj,hxv⟩:=KP d
     refine⟨_,_,rfl,rfl,(by show (0:Int)<3;decide),p,_,_,xv,rfl,rfl,aq.of r1,qj,(by show 2<=sizeLine;decide),λT hT=>?_⟩
     have t2:ah J1 (upd J1 T (.tup (fg (kN j,xv)))):=ah.ao hT
     have q2:(upd J1 T (.tup (fg (kN j,xv)))) T=some (.tup (fg (kN j,xv))):=af
     have e2:([V.str ("k" ++ ⟨#[97+j]⟩),xv]:List V)=fg (kN j,xv):=rfl
     rw[e2]
     generalize upd J1 T (.tup (fg (kN j,xv)))=J2 at t2 q2 ⊢
     have ui:=t1.trans t2
     have lF:=ui _ _ bx
     have nt:∀{b:Addr}{o:List V},J2 b=some (.tup o)->b≠D2:=λhb e=>by rw[e,lF]at hb;cases hb
     refine⟨_,lF,(by rw[aaa];exact small (by omega)),dJ hj af ⟨⟨us++[T],ks++[(kN j,xv)],by rw[aaf];rfl,abR (Paired.bQ fH λb r e=>?_) ?_,?_,?_,?_⟩,⟨_,rfl⟩,λy o hy=>?_⟩⟩
     . rw[ai (nt (ui _ _ e))]
       exact ui _ _ e
     . rw[ai (nt q2)]
       exact q2
     . rw[aaf,Rm,N6]
       rfl
     . rw[aaj,aaK,ox]
     . intro r hr
       rcases aag.mp hr with h|h
       . exact qp r h
       . rw[aao.mp h];exact hxv
     . rw[ai (ae hy mH)]
       exact ui _ _ (jm _ _ hy)
   rintro acc σ H3 bx ⟨⟨us,ks,rfl,fH,Rm,ox,qp⟩,_,jm⟩
   refine⟨aah _,?_⟩
   have hk:ks.map (·.1)=Ca:=Rm
   have iH:=s1.trans jm
   have zB:=fH.length
   refine⟨_,rfl,_,rfl,D2,rfl,⟨_,aq.of bx⟩,λD4 Dx=>?_⟩
   refine iW 16 (λj acc br H4=>acc=((ks.take j).map (·.1)).map V.str/\(∃u,br=[u])/\ah H3 H4) ⟨rfl,⟨none,rfl⟩,ah.ao Dx⟩ af ?_ ?_
   rotate_left
   . rintro j acc br H4 hj FK ⟨rfl,⟨u,rfl⟩,s4⟩
     have ju:ks[j]?=some ks[j]:=aae (by omega)
     obtain⟨t,ht,hT⟩:=ir fH (i:=j) ju
     have ej:(us.map V.ref)[j]?=some (.ref t):=by rw[aal,ht];rfl
     refine⟨⟨_,_,aq.of (s4 _ _ bx),ej⟩,?_⟩
     rintro x' H' ⟨rfl,gJ⟩
     have ex:=gJ _ (aq.of (s4 _ _ bx))
     rw[ej]at ex
     cases ex
     refine il ?_
     refine⟨_,rfl,t,_,0,_,rfl,rfl,aM.of (s4 _ _ hT),jt,_,FK,(by rw[aaa,aaa,aaO];exact small (by omega)),dJ hj af ⟨?_,⟨_,rfl⟩,?_⟩⟩
     . rw[abb,ju,aaf,aaf]
       rfl
     . intro y o hy
       rw[ai (ae hy Dx)]
       exact s4 y o hy
   rintro acc br H4 FK ⟨rfl,_,s4⟩
   rw[aa2 (by omega),hk]at FK
   have vz:=jm.trans s4
   refine⟨⟨_,aq.of (s4 _ _ bx),by rw[aaa,ox];exact aah _⟩,D,D4,_,_,rfl,rfl,vz _ _ q1,FK,(by rw[aaa,aaa];exact mG (by decide+kernel)),λn hn=>?_⟩
   have e5:(oJ.map V.str++Ca.map V.str)=(cI 0).map V.str:=by
    rw[← aaf]
    unfold cI vC
    rw[List.range_zero,abY,abh]
   rw[e5]
   have lz:=iH.trans s4
   have nF:ah H4 (upd H4 n (.lst ((cI 0).map V.str))):=ah.ao hn
   have nn:∀{b:Addr}{o:HO},H4 b=some o->b≠n:=λhb=>ae hb hn
   refine rB _ _ _ a D D2 n ns us ks (N4 (H':=H4) (ah.seq lz hS) hn) (nF _ _ (vz _ _ q1)) (nn (vz _ _ q1)) (nF _ _ (s4 _ _ bx)) (nn (s4 _ _ bx)) (Paired.bQ fH λt r e=>nF _ _ (s4 _ _ e)) hk qp af λm' b1 b2 b3 b4 b5 b6 M' H' hM' hG' hF' xh=>?_
   refine kk m' b1 b2 b3 b4 b5 b6 M' _ H' hM' hG' hF' λb o hb=>?_
   have:=lz _ _ hb
   exact xh _ _ (nF _ _ this) (nn this)
end
end Gen
namespace L2
open PySem PySem.Spec PyProof.Rows
section
variable {X:Cx}{N:List Str}{js:List (Option Nat)}{scope:Scope}{elt tg iter:Expr}{ifs:List Expr}{pos:Pos}{wi:TI}{g:TG}{ti:TT}{te:TE}
theorem N7{use:Option (Value->Sem Unit)}{R:Value->Shared->Prop}(S:jk X N js scope) (hc:X.calm=true) (hi:PI X tg iter wi)
 (hg:∀cl C s H fp pn,PG (cY X N scope cl C s H fp pn) tg g) (ht:∀cl C s H fp pn,sU (cY X N scope cl C s H fp pn) ifs ti) (he:∀cl C s H fp pn,lq (cY X N scope cl C s H fp pn) elt te)
 (hs:∀x,foldedSetIterable iter X.env x=pure x){pins:List (Addr×Obj)}{s:Shared}{σ:St}{H:Hp}{Q:V->Hp->Prop}(hk:1<=s.toks) (I:Inv X pins σ H s) (h:GO js wi g ti te σ H Q)
 (hR:∀D C (H':Hp) (s':Shared),Inv X pins σ H' s'->(∃m,s'.heap.Ns C m)->H' C=none->C≠X.env.locals->(C∈X.ex\/X.mw.heap.objs.size<=C)->(∀x c,X.env.cells.lookup x=some c->c≠C)->(∀p∈X.pn++pins,p.1≠C)->Q (.ref D) H'->
  compPost (model X.prog X.w) X.A X.xe use R (.ref D) C (.ok .next) s') :
 wpAny (model X.prog X.w) X.A (comprehension (.ListComp elt [⟨tg,iter,ifs,0⟩] scope pos) scope X.env (firstIterPos [⟨tg,iter,ifs,0⟩] pos) (newList []) false (eval iter X.env) use) R X.xe s:=by
 obtain⟨cl,ER,i4,Pd⟩:=qe (scope:=scope) (env:=X.env) λx hx hk=>I.ok.has x.1 (S.frees x hx hk)
 refine ad3 (use:=use) rfl hs ER S.kind S.names (aD (wpAny_toks 1 hk (hi pins s σ H _ I h)) λxv s1 ⟨h1,t1⟩=>aD (wpAny_toks 1 t1 h1) λGj s2 ⟨h2,t2⟩=>?_)
 obtain⟨it,fp,tn,J,H2,e,I2,T,jI,f2,q2⟩:=h2
 subst e
 refine ach (wpAny_newFunctionEnv S.wI (by intro y hy;simp at hy) (λh₁ x3 x5=>?_) S.kind)
 dsimp only at x3 x5 ⊢
 have I3:Inv X pins σ (upd H2 s2.heap.objs.size (.lst [])) {s2 with heap:=s2.heap.push {cls:=.type "list",data:=.seq ([]:List Value).toArray},toks:=s2.toks}:=I2.EI .nil (by show 0<=sizeLine;decide)
 have lt2:∀b∈fp,b<s2.heap.objs.size:=λb hb=>let ⟨o,e,_⟩:=T.obj _ _ jI b hb;aam e
 have f3:∀b∈fp,iU X pins (upd H2 s2.heap.objs.size (.lst [])) b:=λb hb=>⟨by rw[ai (aax (lt2 b hb))];exact(f2 b hb).1,(f2 b hb).2⟩
 obtain⟨W,⟨m0,w0⟩,turn⟩:=q2 s2.heap.objs.size (I2.hok.fresh (aah _))
 generalize LZ:({s2 with heap:=s2.heap.push {cls:=.type "list",data:=.seq ([]:List Value).toArray},toks:=s2.toks} : Shared)=s3 at I3
 have e3:s3.heap=s2.heap.push {cls:=.type "list",data:=.seq ([]:List Value).toArray}:=by rw[← LZ]
 have z3:s3.heap.objs.size=s2.heap.objs.size+1:=by rw[e3,abn]
 have k1:∀b o,s3.heap.get? b=some o->h₁.get? b=some o:=λb o e=>by
  have hb:b<s3.heap.objs.size:=aam e
  refine x5.extBut b o ?_ (aad _ (by rw[← e3];exact e))
  rw[← e3]
  exact aax hb
 have hC:(s2.heap.push {cls:=.type "list",data:=.seq ([]:List Value).toArray}).objs.size=s3.heap.objs.size:=by rw[e3]
 have I4:=I3.enter (f:=λ_=>false) (N:=N) (js:=js) (scope:=scope) (cl:=cl) (fp:=fp) (C:=(s2.heap.push {cls:=.type "list",data:=.seq ([]:List Value).toArray}).objs.size) (h':=h₁) (tk:=s2.toks+([]:List (Str×Value)).length) S hc (λ_ _=>rfl) (λ_ _ e=>by cases e) (λx c e=>.inr ⟨rfl,i4 x c e⟩) (λx hx=>hx.elim (λe=>Pd _ (lookup_mem e) rfl) λe=>absurd rfl (S.wI _ (lookup_mem e))) hC f3
  (λb hb=>by rw[z3];exact ab6 (lt2 b hb)) x3 k1
 have AX:tn 0 h₁:=T.keep _ _ _ jI λb hb o e=>k1 b o (by rw[e3];exact aad _ e)
 generalize hCC:(s2.heap.push {cls:=.type "list",data:=.seq ([]:List Value).toArray}).objs.size=C at x3 x5 hC I4 ⊢
 have hs4:({s3 with heap:=h₁,toks:=s2.toks+([]:List (Str×Value)).length} : Shared) = {s2 with heap:=h₁,toks:=s2.toks+([]:List (Str×Value)).length}:=by rw[← LZ]
 rw[hs4]at I4
 have fY:∀{H':Hp},(∀b∈fp,H' b=none)->∀b∈fp,iU (cY X N scope cl C s3 (upd H2 s2.heap.objs.size (.lst [])) fp (X.pn++pins)) [] H' b:=λhn b hb=>by
  obtain⟨f0,fa,fb,fc,fd,fe⟩:=f3 b hb
  refine⟨hn b hb,?_,λz=>(aan.mp (I3.sy b z)).elim fa fb,.inl hb,λx c e=>fd x c (i4 x c e),λp hp=>fe p (by simpa[cY]using hp)⟩
  show b≠C
  rw[hC,z3]
  exact aax (ab6 (lt2 b hb))
 have loop:codeAny (model X.prog X.w) X.A (.compLoop (.ListComp elt [⟨tg,iter,ifs,0⟩] scope pos) 0 (.ref it) (.ref s2.heap.objs.size) (compEnvC scope cl C X.env))
  (compPost (model X.prog X.w) X.A X.xe use R (.ref s2.heap.objs.size) C) {s2 with heap:=h₁,toks:=s2.toks+([]:List (Str×Value)).length}:=by
  refine Ai (λn s'=>∃i br H',Inv (cY X N scope cl C s3 (upd H2 s2.heap.objs.size (.lst [])) fp (X.pn++pins)) [] br H' s'/\tn i s'.heap/\(∀b∈fp,H' b=none)/\W i n br H') ?_ m0
   ⟨0,_,_,I4,AX,λb hb=>(f3 b hb).1,w0⟩ (Nat.le_add_right_of_le t2)
  rintro n s5 ⟨i,EO,H5,I5,pZ,wt,w5⟩
  rcases turn i n EO H5 w5 with⟨stop,qn⟩|⟨go,step⟩
  . refine aD (T.done (cY X N scope cl C s3 (upd H2 s2.heap.objs.size (.lst [])) fp (X.pn++pins)) rfl rfl rfl rfl i [] s5 EO H5 (λ_ _=>False) I5 (fY wt) pZ stop) λr s6 ⟨hr,I6⟩=>?_
    subst hr
    have I7:Inv X pins σ H5 s6:=I3.left f3 I6
    have hCs:X.mw.heap.objs.size<=C:=by rw[hC];exact I3.sz
    refine hR s2.heap.objs.size C H5 s6 I7 (let ⟨m,hn,_⟩:=I6.loc; ⟨m,hn⟩) I6.free ?_ (.inr hCs) (λx c e z=>?_) (λp hp z=>?_) qn
    . rw[hC]
      exact aa0 I3.lt
    . obtain⟨v,o,ho,_⟩:=I3.cell x c e
      have:=aam ho
      rw[z,hC]at this
      exact aby _ this
    . obtain⟨e,_⟩:=I3.pin p hp
      have:=aam e
      rw[z,hC]at this
      exact aby _ this
  . refine aD (T.item (cY X N scope cl C s3 (upd H2 s2.heap.objs.size (.lst [])) fp (X.pn++pins)) rfl rfl rfl rfl i [] s5 EO H5 (λ_ _=>False) I5 (fY wt) pZ go) λr s6 ⟨u,hr,h6⟩=>?_
    subst hr
    refine aD h6 λ_ s7 ⟨x,H7,I7,r7,y7,AY,O8⟩=>?_
    have O9:=I7.pinned (fY O8) (T.obj _ _ AY)
    have again:∀{n':Nat}{sW:St}{H8:Hp}{s8:Shared},Inv (cY X N scope cl C s3 (upd H2 s2.heap.objs.size (.lst [])) fp (X.pn++pins)) ([]++nX fp s7.heap) sW H8 s8->n'<n->W (i+1) n' sW H8->
     ∃m,m<n/\∃i br H',Inv (cY X N scope cl C s3 (upd H2 s2.heap.objs.size (.lst [])) fp (X.pn++pins)) [] br H' s8/\tn i s8.heap/\(∀b∈fp,H' b=none)/\W i m br H':=λ{n' sW H8 s8} I8 hm w8=>by
     refine⟨n',hm,i+1,sW,H8,I8.jh,T.keep _ _ _ AY λb hb o e=>(I8.pin (b,o) (aaG _ (aaG _ (hX hb e)))).1,λb hb=>?_,w8⟩
     obtain⟨o,e,d⟩:=T.obj _ _ AY b hb
     exact(I8.pin (b,o) (aaG _ (aaG _ (hX hb e)))).2.1
    refine aD (hg _ _ _ _ _ _ _ s7 EO H7 x u _ O9 r7 (step x H7 y7)) λ_ s8 ⟨sW,H8,I8,q8⟩=>?_
    refine aD (ht _ _ _ _ _ _ _ s8 sW H8 _ I8 q8) λok s9 ⟨H9,I9,q9⟩=>?_
    cases ok with
    | false=>
     rw[aay aat]at q9 ⊢
     obtain⟨m',hm,w9⟩:=q9
     exact again I9 hm w9
    | true=>
     rw[aaI rfl]at q9 ⊢
     refine λt9=>aD (he _ _ _ _ _ _ _ s9 sW H9 _ I9 t9 q9) λyv wL ⟨y,GR,Pa,Pb,acc,hD,hl,m',hm,Dr⟩=>?_
     refine aD (cJ _ wL sW GR (.ref s2.heap.objs.size) [y] (.ref s2.heap.objs.size) [yv] (λ_ H'=>H'=upd GR s2.heap.objs.size (.lst (acc++[y]))) Pa rfl (.cons Pb .nil) ⟨s2.heap.objs.size,acc,y,rfl,rfl,hD,hl,rfl⟩) λ_ rV ⟨_,Y1,Pc,_,Ds⟩=>?_
     subst Ds
     exact again Pc hm Dr
 exact codeAny_compStart_list loop (T.self _ 0 _ _ _ AX loop)
theorem Ci(S:sT X.N X.env.scope.names N js scope=true)(hc:X.calm=true)(hi:PI X tg iter wi)
 (hg:∀cl C s H fp pn,PG (cY X N scope cl C s H fp pn) tg g) (ht:∀cl C s H fp pn,sU (cY X N scope cl C s H fp pn) ifs ti) (he:∀cl C s H fp pn,lq (cY X N scope cl C s H fp pn) elt te)
 (hs:∀x,foldedSetIterable iter X.env x=pure x:=by intro _;rfl):lq X (.ListComp elt [⟨tg,iter,ifs,0⟩] scope pos) (GO js wi g ti te):=by
 intro pins s σ H Q I h0 q
 rw[eval_ListComp]
 refine N7 (use:=none) (.of S) hc hi hg ht he hs h0 I q ?_
 rintro D C H' s' I' ⟨m,hn⟩ c1 c2 c3 c4 c5 q
 exact⟨m,hn,λh' GW=>⟨.ref D,H',I'.turned (t':=s'.toks) (λb o hb e=>GW.extBut b o hb e) c1 c2 c3 c4 c5,rfl,q⟩⟩
end
section
variable {X:Cx}{e o a b c:Expr}{es:List Expr}{ta tb te to:TE}{t:TA}{pos apos cU:Pos}
noncomputable def Ed(X:Cx)(es:List Expr)(t:TA):Prop:=∀(pos:Pos) (pins:List (Addr×Obj)) (s:Shared) (σ:St) (H:Hp) (Q:List V->Hp->Prop),1<=s.toks->Inv X pins σ H s->t σ H Q->wpAny (model X.prog X.w) X.A (spliced (backTo pos (starEach es X.env))) (AP X pins σ Q) X.xe s
theorem PA.tt(h:PA X es t):Ed X es t:=λpos pins s σ H Q _ I q=>h pos pins s σ H Q I q
theorem eZ(ha:lq X e te)(hr:Ed X es t) (hs:starEach (e::es) X.env=(false,eval e X.env)::starEach es X.env:=by rfl):Ed X (e::es) (eJ te t):=by
 intro pos pins s σ H Q h0 I h
 rw[hs]
 show wpAny _ _ (spliced ((false,eval e X.env)::backTo pos (starEach es X.env))) _ _ s
 refine abo (jq (ha pins s σ H _ I h0 h) h0 λu s1 t1 zq=>?_)
 obtain⟨x,H1,I1,r1,q1⟩:=zq
 exact aD (hr pos pins s1 σ H1 _ t1 I1 q1) λus s2 ⟨xs,H2,I2,r2,q2⟩=>⟨x::xs,H2,I2,.cons r1 r2,q2⟩
theorem qE{x1} (h:Ed X es t):lq X (.Tuple es x1 pos) (pF t):=by
 intro pins s σ H Q I h0 hq
 refine wpAny_Tuple_spliced (aD (h pos pins s σ H _ h0 I hq) λus s1 ⟨xs,H1,I1,r,z,q⟩=>⟨by rw[← r.length];exact z,?_⟩)
 have hf:H1 s1.heap.objs.size=none:=I1.hok.fresh (aah _)
 refine⟨.ref s1.heap.objs.size,upd H1 s1.heap.objs.size (.tup xs),I1.laid (t':=s1.toks) (λb u e=>aad _ e) (aah _) ?_,rfl,q _ hf⟩
 exact⟨z,us,r,⟨_,aar _ rfl,rfl,_,rfl⟩⟩
theorem N8(h:Ed X es t):lq X (.List es pos) (JH t):=by
 intro pins s σ H Q I h0 hq
 refine adQ (aD (h pos pins s σ H _ h0 I hq) λus s1 ⟨xs,H1,I1,r,z,q⟩=>⟨by rw[← r.length];exact z,?_⟩)
 have hf:H1 s1.heap.objs.size=none:=I1.hok.fresh (aah _)
 refine⟨.ref s1.heap.objs.size,upd H1 s1.heap.objs.size (.lst xs),I1.laid (t':=s1.toks) (λb u e=>aad _ e) (aah _) ?_,rfl,q _ hf⟩
 exact⟨z,us,0,r,aar _ rfl⟩
theorem IV{i:Expr}{td ty:TE}(hu:X.A.units+1<cLine)(ho:PE X o td)(hi:lq X i ty)(hs:JL i):lq X (.Subscript o i pos) (oR td ty):=by
 intro pins s σ H Q I h0 h
 refine Dl adW.lookup hs (jq (ho pins s σ H _ I h) h0 λu s1 t1 ⟨x,H1,I1,rx,q1⟩=>aD (hi pins s1 σ H1 _ I1 t1 q1) λiv s2 zq=>?_)
 obtain⟨y,H2,I2,ry,a,v,ex,g,q2⟩:=zq
 subst ex
 obtain rfl:u=Value.ref a:=rx
 exact⟨uX I2 g,zi hu I2 g ry λw' s3 I3 qb=>⟨v,H2,I3,qb,q2⟩⟩
noncomputable def MB(X:Cx)(e:Expr)(t:TT):Prop:=∀(pins:List (Addr×Obj)) (s:Shared) (σ:St) (H:Hp) (Q:Bool->Hp->Prop),1<=s.toks->Inv X pins σ H s->t σ H Q->wpAny (model X.prog X.w) X.A (isTrue e X.env (eval e X.env)) (TP X pins σ Q) X.xe s
noncomputable def Ee(X:Cx)(e:Expr)(t:TT):Prop:=∀(whole:Sem Value) (pins:List (Addr×Obj)) (s:Shared) (σ:St) (H:Hp) (Q:Bool->Hp->Prop),1<=s.toks->Inv X pins σ H s->t σ H Q->wpAny (model X.prog X.w) X.A (isTrue e X.env whole) (TP X pins σ Q) X.xe s
theorem Ee.pt{t:TT}(h:Ee X e t):MB X e t:=h _
theorem KR{op:CmpOp}{r:R2}(ho:iP X (compareOp op) r) (ha:lq X a ta) (hb:PE X b tb) (hm:behindInMarks op b=false):MB X (.Compare a [op] [b] pos) (wx (oP r ta tb)):=by
 intro pins s σ H Q h0 I h
 refine adi (aD (ha pins s σ H _ I h0 h) λv s1 ⟨x,H1,I1,r1,q1⟩=>aD (hb pins s1 σ H1 _ I1 q1) λu s2 ⟨y,H2,I2,r2,q2⟩=>
  aD (ho pins s2 σ H2 x y v u _ I2 r1 r2 q2) λc s3 ⟨z,H3,I3,r3,k,e,q3⟩=>?_) hm
 subst e
 cases r3
 exact acE ⟨H3,I3,q3⟩
theorem KS{tA:TT}(ha:MB X a tA):Ee X (.BoolOp .And [a] pos) tA:=by
 intro wh pins s σ H Q h0 I h
 refine isTrue_and (aD (ha pins s σ H Q h0 I h) λc s1 e=>?_)
 cases c with
 | true=>exact isTrue_and_nil e
 | false=>exact e
theorem N9{tA AG:TT}{rest:List Expr}(ha:PT X a tA) (hb:Ee X (.BoolOp .And (b::rest) pos) AG):Ee X (.BoolOp .And (a::b::rest) pos) (OH tA AG):=by
 intro wh pins s σ H Q h0 I h
 refine isTrue_and (jq (ha pins s σ H _ I h) h0 λc s1 t1 zq=>?_)
 obtain⟨H1,I1,q1⟩:=zq
 cases c with
 | true=>exact hb wh pins s1 σ H1 Q t1 I1 q1
 | false=>exact⟨H1,I1,q1⟩
theorem Rn{c:Expr}{a b:List Stmt}{tc:TT}{t u:TS}(hc:MB X c tc)(ha:gj X a t)(hb:gj X b u):t8 X (.If c a b pos) (Jy tc t u):=by
 intro pins s σ H D h0 I h
 refine wpAny_If (aD (hc pins s σ H _ h0 I h) λd s1 zq=>?_)
 obtain⟨H1,I1,q1⟩:=zq
 cases d with
 | true=>exact ha pins s1 σ H1 D I1 q1
 | false=>exact hb pins s1 σ H1 D I1 q1
theorem Ro{T:String}{id:String}{r:V->List V->Hp->VK->Prop}{nm:Str}(pa:PlainAttrs T)(slot:Slot T nm id) (GF:typeOf (.builtin id)=pure (.type "method_descriptor")) (hm:OW X id r) (ho:PE X o to) (ha:Ed X (e::es) t)
 (kU:attributeBase o nm X.env (eval o X.env)=eval o X.env:=by rfl)
 (AS:((backTo cU (starEach (e::es) X.env)).all (λx=>!x.1) && (backToKw cU (keywordEach [] X.env)).all (λx=>x.1.isSome)
  && decide ((e::es).length+([]:List Keyword).length+(if ([]:List Keyword).isEmpty then 0 else 1)<30))=true:=by rfl)
 (kY:(apos.endLine == cU.line)=true:=by rfl) (hs:starEach (e::es) X.env=(false,eval e X.env)::starEach es X.env:=by rfl) (AU:(backTo cU (starEach es X.env)).any (·.1)=false:=by rfl) :
 lq X (.Call (.Attribute o nm apos) (e::es) [] cU) (Ve X.K T r to t):=by
 intro pins s σ H Q I h0 h
 refine ac5 kU AS kY rfl (jq (ho pins s σ H _ I h) h0 λv s1 t1 zq=>?_)
 obtain⟨x,H1,I1,r1,ty,q1⟩:=zq
 obtain⟨h1,h2⟩:=wF I1 r1 ty
 refine⟨T,id,pa,slot,GF,h1,h2,?_⟩
 have hA:=ha cU pins s1 σ H1 _ t1 I1 q1
 rw[hs]at hA ⊢
 refine abC (by show (false || (backTo cU (starEach es X.env)).any (·.1))=false;rw[AU] <;> rfl) (acI ?_)
 exact aD hA λus s2 ⟨vs,H2,I2,r2,q2⟩=>hm pins s2 σ H2 x vs v us Q I2 r1 r2 q2
theorem Oa{c:Expr}{a b:List Stmt}{tc:TT}{t u:TS}(hc:PT X c tc)(ha:lu X a t)(hb:lu X b u):t8 X (.If c a b pos) (Jy tc t u):=by
 intro pins s σ H D h0 I h
 refine wpAny_If (jq (hc pins s σ H _ I h) h0 λd s1 t1 zq=>?_)
 obtain⟨H1,I1,q1⟩:=zq
 cases d with
 | true=>exact ha pins s1 σ H1 D t1 I1 q1
 | false=>exact hb pins s1 σ H1 D t1 I1 q1
theorem KU(he:lq X e te)(hs:swapsWith e none pos.line X.env=pure false:=by rfl):t8 X (.Expr e pos) (Lu te):=by
 intro pins s σ H D h0 I h
 exact wpAny_Expr_any (aD (he pins s σ H _ I h0 h) λv s1 ⟨x,H1,I1,r1,q1⟩=>⟨σ,H1,I1,q1⟩) I.quiet hs
end
end L2
namespace Gen
open PySem L2
theorem Cj{z:Str}(h:aT z):126∉z.cps.toList:=λhm=>by have:=iC.mp (h.2.2 _ hm);lia
theorem KW{names:List Str}{z:Str}(h:Lit names z)(hn:∀x∈names,aT x):Txt.replace z "~" "" = bY z:=by
 rcases h with rfl|rfl|⟨x,hx,rfl|rfl⟩
 . rw[ua (by decide+kernel),Iu]
 . rw[ua (by decide+kernel),Iv]
 . rw[ua (Cj (hn _ hx)),fZ (hn _ hx)]
 . rw[Fy (Cj (hn _ hx)),iy]
theorem nP{α:Type}{l:List α}(h:l.Nodup){i:Nat}{x:α}(hx:l[i]?=some x):x∉l.take i:=λq=>by
 obtain⟨j,hj,e⟩:=acr q
 rw[aaO]at hj
 rw[List.getElem_take]at e
 obtain⟨hi,e2⟩:=aaq.mp hx
 have DM:j<l.length:=by lia
 have:=(List.getElem_inj (h₀:=DM) (h₁:=hi) h).mp (by rw[e,e2])
 lia
theorem vD{α:Type}{H:Hp}{g:α->List V}{p:α->Bool} : ∀{ts:List Addr}{l:List α},Paired (λt x=>H t=some (.tup (g x))) ts l->Paired (λt x=>H t=some (.tup (g x))) (((ts.zip l).filter λz=>p z.2).map (·.1)) (l.filter p)
 | _,_,.nil=>.nil
 | t::ts,x::l,.cons h0 r=>by
  have ih:=vD (p:=p) r
  rw[abe]
  by_cases e:p x=true
  . rw[aaZ (by exact e),aaZ e]
    exact .cons h0 ih
  . rw[aa1 (by exact e),aa1 e]
    exact ih
theorem aE.list{K:W.Frag}{H:Hp}{a:Addr}{rs:List (List V)}(h:aE H a rs):∃xs,aq K H a xs:=let ⟨_,h1,_⟩:=h; ⟨_,aq.of h1⟩
theorem yK{A:Prop}{C D:Addr->Prop}(h:∀a,C a->A/\D a)(a0:A):A/\∀a,C a->D a:=⟨a0,λa c=>(h a c).2⟩
theorem Rp{α:Type}{K:W.Frag}{D a:Addr}{rows:List α}{g:α->List V}{p:α->Bool}{ti:TT}{oG:St}{Q:Hp->Prop}{H:Hp}(ht:aE H a (rows.map g)) (hl:rows.length<=1000) (hD:H D=none)
 (he:∀t,∀r∈rows,∀H9,ah H H9->H9 t=some (.tup (g r))->∀R:Bool->Hp->Prop,R (p r) H9->ti (some (.ref t)::oG) H9 R)
 (fin:∀H',ah H H'->aE H' D ((rows.filter p).map g)->Q H'):(∃xs,aq K H a xs)/\∃W:Nat->Nat->St->Hp->Prop,(∃m,W 0 m (none::oG) (upd H D (.lst [])))/\rT D (cv 0) ti (cg 0) (uV K a) W Q:=by
 obtain⟨ts,h1,h2⟩:=ht
 have h3:=f7 h2
 have e1:(ts.map V.ref)=((ts.zip rows).map λz=>V.ref z.1):=by
  rw[show ((ts.zip rows).map λz=>V.ref z.1)=((ts.zip rows).map (·.1)).map V.ref from by rw[aau];rfl,acR (abX h3.length)]
 refine⟨⟨_,aq.of h1⟩,jG (xs:=ts.zip rows) (kp:=λz=>p z.2) (y:=λz=>.inl (.ref z.1)) (λz=>V.ref z.1) (by rw[aa6];exact aap (acy _ _) (by lia)) (by rw[h1,e1]) hD (λz hz H9 s9=>?_) λH' vs s' bx p'=>?_⟩
 . intro Z Y hZ hY
   refine he z.1 z.2 (abE hz).2 H9 s9 (s9 _ _ (jH h3 z hz)) _ ?_
   show (if p z.2=true then _ else _)
   cases e:p z.2 with
   | false=>exact bu (hZ e _ λ_ _ h=>h)
   | true=>exact dm ⟨_,rfl,hY e _ _ (λ_ _ h=>h) rfl⟩
 . have ev:=iD p'
   rw[ev]at bx
   refine fin H' s' ⟨((ts.zip rows).filter λz=>p z.2).map (·.1),by rw[bx,aau];rfl,bE (F:=λt r=>H' t=some (.tup r)) (Paired.bQ (vD h3) λt r e=>s' _ _ e)⟩
noncomputable abbrev Ck:Stmt:=top 15
noncomputable abbrev yL:Stmt:=top 16
noncomputable abbrev FN:Stmt:=top 13
noncomputable abbrev Rq:Stmt:=top 14
noncomputable abbrev OB:=Option Int
noncomputable def oV:OB->V
 | none=>.aH
 | some b=>.int b
theorem lB{b:OB} : decide (oV b=V.aH)=b.isNone:=by cases b <;> simp[oV]
theorem FO{a b:OB} : decide (oV a=oV b)=decide (a=b):=by cases a <;> cases b <;> simp[oV]
theorem qF{a b:OB} : Ey (oV a) (oV b)=true:=by cases a <;> cases b <;> rfl
noncomputable def aU(vv:List (Str×OB)):List (Key×V):=vv.map λr=>((.inr r.1:Key),oV r.2)
noncomputable def aF(vv:List (Str×OB)) (n:Str):OB:=((vv.find? λr=>decide (r.1=n)).map (·.2)).getD none
theorem As(vv:List (Str×OB)):aU vv=eV (vv.map λr=>(r.1,oV r.2)):=by unfold aU eV;rw[aau];rfl
theorem Ef{n:Str} : ∀{vv:List (Str×OB)},n∈vv.map (·.1)->cu (aU vv) (.inr n)=some (oV (aF vv n))
 | r::vv,h=>by
  rw[show aU (r::vv)=(.inr r.1,oV r.2)::aU vv from rfl]
  unfold aF
  by_cases e:r.1=n
  . rw[iA (by rw[e]),aaD (by simpa using e)]
    rfl
  . rw[iB λq=>e (acm q),aaz (by simpa using e)]
    exact Ef ((aan.mp h).resolve_left λq=>e q.symm)
theorem KY{n:Str}{vv:List (Str×OB)}(h:n∉vv.map (·.1)):cu (aU vv) (.inr n)=none:=by
 rw[As]
 exact BQ (by rw[aau];exact h)
theorem jy{H:Hp}{d:Addr}{vv:List (Str×OB)}{n:Str}(h:Rd H d (.dK (aU vv))) (hn:n∈vv.map (·.1)):a7 H d (.str n) (some (oV (aF vv n))):=.inl ⟨aU vv,.inr n,h,rfl,(Ef hn).symm⟩
theorem yM{acc:List (Str×OB)}{n:Str}{v:OB}(h:n∉acc.map (·.1)):putK (aU acc) (.inr n) (oV v)=aU (acc++[(n,v)]):=by
 rw[qQ _ (KY h)]
 unfold aU
 rw[aaf]
 rfl
theorem um(l acc:List (Str×OB)) (h:((acc++l).map (·.1)).Nodup):bA (aU acc) (aU l)=aU (acc++l):=by
 rw[As,As,As,aaf]
 exact jv _ _ (by rw[← aaf,aau];exact h)
noncomputable def pw(z:Str):Bool:=decide (z.cps.toList[0]?=some 126)
noncomputable def bH(vv:List (Str×OB)) (z:Str):OB:=if z = "0" then some 0 else if z = "1" then some 1 else if pw z=true then (aF vv (bY z)).map (1 - ·) else aF vv (bY z)
noncomputable def ma(a b:OB):OB:=if a=some 0\/b=some 0 then some 0 else if a=some 1/\b=some 1 then some 1 else none
noncomputable def Rr(vv:List (Str×OB)) (z:Str):Prop:=z.length<=1000/\(z ≠ "0" -> z ≠ "1" -> bY z∈vv.map (·.1))
noncomputable def uN:Sp:=λvs H Q _=>∃(d:Addr) (vv:List (Str×OB)) (z:Str),vs=[.ref d,.str z]/\Rd H d (.dK (aU vv))/\Rr vv z/\∀H',ah H H'->Q (oV (bH vv z)) H'
noncomputable def wg:Sp:=λvs H Q _=>∃(a b:OB),vs=[oV a,oV b]/\Q (oV (ma a b)) H
section
variable {P:Program}{w:World}{K:W.Frag}{mg:Str->Option Value}{base:Heap}{C:Addr}
theorem Eg:aK ["values", "literal", "bit"] ["values", "literal"] (aw Ck):=fs
theorem KZ{f fB:Addr}{fd dB:FuncData}(F:aO K "bit_of" "bit_of" Ck f fd)(O:gw mg)(CB:cc P w K mg base 1 fB dB "bare_name" ["literal"] xC):aR P w K mg base aY 2 f fd ["values", "literal"] uN:=by
 refine F.go Eg (λcdv A outer s H vs Q E hr h=>?_)
 obtain⟨d,vv,z,rfl,hd,hz,kk⟩:=h
 have hu:=dY hr
 have tl:("~" : Str)=⟨#[126]⟩:=by decide+kernel
 refine⟨_,(aj (cP (bg iR (pv 1) (cx (aa av (aa av ag))) (by with_unfolding_all rfl))
  (au (aI (aJ oB (by rfl) O.int acD (aa (pv 1) ag)))) bh)
  (aj (dQ 2 Eg.nd (aC hu (pv 0) (aV CB hr (aa (pv 1) ag)) (λ_ _=>rfl)))
  (aj (cP (PW.pt (sA (hW (pW (pv 2))) (pX (iN (eU abD ab8 ab9 oZ (pv 1) (aa av ag))))))
   (au (aI (aB nZ ak (pv 2)))) bh)
  (au (aI (pv 2)))))),?_⟩
 try dsimp only[i7]
 refine⟨_,rfl,(by show 2<=sizeLine;decide),λt ht=>?_⟩
 have st:ah H (upd H t (.tup [.str "0",.str "1"])):=ah.ao ht
 have qt:(upd H t (.tup [.str "0",.str "1"])) t=some (.tup [.str "0",.str "1"]):=af
 generalize upd H t (.tup [.str "0",.str "1"])=H1 at st qt ⊢
 have k0:=kk _ st
 refine⟨t,_,rfl,.inr (aM.of qt),rfl,rfl,_,rfl,?_⟩
 show if iQ (.str z) [.str "0",.str "1"]=true then _ else _
 unfold bH at k0
 by_cases e0:z = "0"
 . subst e0
   rw[aaI rfl]at k0
   rw[show iQ (V.str "0") [.str "0",.str "1"]=true from by decide+kernel]
   exact dm ⟨_,rfl, "0",0,rfl,by decide+kernel,by decide+kernel,k0⟩
 by_cases e1:z = "1"
 . subst e1
   rw[aay e0,aaI rfl]at k0
   rw[show iQ (V.str "1") [.str "0",.str "1"]=true from by decide+kernel]
   exact dm ⟨_,rfl, "1",1,rfl,by decide+kernel,by decide+kernel,k0⟩
 rw[aay e0,aay e1]at k0
 rw[Kx e0 e1]
 refine bu ?_
 refine⟨_,rfl,_,rfl,z,rfl,hz.1,d,_,rfl,jy (yB st hd) (hz.2 e0 e1),?_⟩
 refine⟨_,rfl,_,rfl,?_⟩
 rw[lB]
 cases e:aF vv (bY z) with
 | none=>
  rw[e]at k0
  refine bu (bu ⟨_,rfl,?_⟩)
  rw[Option.map_none,ite_self]at k0
  exact k0
 | some b=>
  rw[e]at k0
  refine dm ⟨_,rfl,rfl,z, "~",rfl,rfl,_,rfl,?_⟩
  rw[tl,nO]
  refine jN (λh=>?_) (λh2=>?_)
  . rw[aaI (show pw z=true from h)]at k0
    exact⟨_,rfl,_,_,rfl,rfl,k0⟩
  . rw[aay (show ¬ pw z=true from h2)]at k0
    exact⟨_,rfl,k0⟩
theorem K0:aK ["one", "other"] ["one", "other"] (aw yL):=fs
theorem Au(a:OB)(i:Int):decide (oV a=V.int i)=decide (a=some i):=FO (b:=some i)
theorem IW{f:Addr}{fd:FuncData}(F:aO K "lesser_bit" "lesser_bit" yL f fd):aR P w K mg base aY 1 f fd ["one", "other"] wg:=by
 refine F.go K0 (λcdv A outer s H vs Q E hr h=>?_)
 obtain⟨a,b,rfl,kk⟩:=h
 refine⟨_,(aj (cP (PW.pt (oO (bg iV (pv 0) ak (cp _)) (pY (bg iV (pv 1) ak (cp _)))))
  (au (aI ak)) bh)
  (aj (cP (PW.pt (sA (bg iV (pv 0) ak (cp _)) (pX (bg iV (pv 1) ak (cp _)))))
   (au (aI ak)) bh)
  (au (aI ky)))),?_⟩
 try dsimp only[i7]
 unfold ma at kk
 refine⟨_,rfl,qF (b:=some 0),_,rfl,?_⟩
 rw[Au]
 by_cases ha:a=some 0
 . rw[aaI (.inl ha)]at kk
   rw[aaT ha]
   exact dm (dm kk)
 rw[aaS ha]
 refine bu ⟨_,rfl,qF (b:=some 0),_,rfl,?_⟩
 rw[Au]
 by_cases hb:b=some 0
 . rw[aaI (.inr hb)]at kk
   rw[aaT hb]
   exact dm kk
 rw[aaS hb]
 rw[aay (by simp[ha,hb])]at kk
 refine bu ⟨_,rfl,qF (b:=some 1),_,rfl,?_⟩
 rw[Au]
 by_cases se:a=some 1
 . rw[aaT se]
   refine dm ⟨_,rfl,qF (b:=some 1),_,rfl,?_⟩
   rw[Au]
   by_cases Eh:b=some 1
   . rw[aaI ⟨se,Eh⟩]at kk
     rw[aaT Eh]
     exact dm kk
   . rw[aay (by simp[Eh])]at kk
     rw[aaS Eh]
     exact bu kk
 . rw[aay (by simp[se])]at kk
   rw[aaS se]
   exact bu (bu kk)
end
noncomputable def cW(acc:List (Str×OB)) (g:Str×Str×Str):List (Str×OB):=acc++[(g.1,ma (bH acc g.2.1) (bH acc g.2.2))]
noncomputable def gT(M:ay)(vs:List OB):List (Str×OB):=(M.switches.map λn=>(n,(none:OB)))++(M.keepers.map (·.1)).zip vs
noncomputable def gx(M:ay)(vs:List OB)(i:Nat):List (Str×OB):=(M.gates.take i).foldl cW (gT M vs)
noncomputable abbrev bN(M:ay)(vs:List OB):List (Str×OB):=gx M vs M.gates.length
theorem lC:∀(gs:List (Str×Str×Str)) (acc:List (Str×OB)),(gs.foldl cW acc).map (·.1)=acc.map (·.1)++gs.map (·.1)
 | [],acc=>by rw[aeU,abY,abh]
 | g::gs,acc=>by rw[ab0,lC gs,cW,aaf,abl];rfl
theorem fz{M:ay}{vs:List OB}(h:M.keepers.length=vs.length):(gT M vs).map (·.1)=M.switches++M.keepers.map (·.1):=by
 unfold gT
 rw[aaf,aau,cH (by rw[aaa];exact h)]
 congr 1
 exact abL _
theorem rK{M:ay}{vs:List OB}(h:M.keepers.length=vs.length)(i:Nat):(gx M vs i).map (·.1)=M.switches++M.keepers.map (·.1)++(M.gates.take i).map (·.1):=by
 unfold gx
 rw[lC,fz h]
theorem xP{M:ay}{vs:List OB}{i:Nat}(hi:i<M.gates.length):gx M vs (i+1)=cW (gx M vs i) M.gates[i]:=by
 unfold gx
 rw[abb,aae hi,ab1,ack]
 rfl
theorem km{M:ay}{names:List Str}(ok:az M names){vs:List OB}(h:M.keepers.length=vs.length):(bN M vs).map (·.1)=names:=by rw[rK h,aaH,ok.all]
noncomputable def K1(C:Addr):Sp:=λvs H Q _=>∃(x dx g1 g2 g3 g4 g5 g6 b:Addr) (ts:List Addr) (M:ay) (names:List Str) (os:List OB),vs=[.ref x,.ref b]/\MO C H x dx g1 g2 g3 g4 g5 g6 ts M/\az M names/\jw M/\H b=some (.dK (aU ((M.keepers.map (·.1)).zip os)))/\M.keepers.length=os.length/\
 ∀d H',ah H H'->H d=none->H' d=some (.dK (aU (bN M os)))->Q (.ref d) H'
theorem yN{vv:List (Str×OB)}{ns:List Str}{z:Str}(hk:vv.map (·.1)=ns) (hn:∀x∈ns,aT x) (h:Lit ns z):Rr vv z:=⟨aap (h.len hn) (by decide),λh0 h1=>by
 rw[hk]
 exact uK h hn (xD h hn h0 h1)⟩
section
variable {P:Program}{w:World}{K:W.Frag}{mg:Str->Option Value}{base:Heap}{C:Addr}
noncomputable abbrev nVW:List Str:=["machine", "bits", "values", "name", "one", "other"]
theorem Cm:aK nVW ["machine", "bits"] (aw Rq):=fs
theorem UX{f fB fL:Addr}{fd dB dL:FuncData}(F:aO K "values_with" "values_with" Rq f fd)(T:pO K mg C)(O:gw mg)(CB:cc P w K mg base 2 fB dB "bit_of" ["values", "literal"] uN)(CL:cc P w K mg base 1 fL dL "lesser_bit" ["one", "other"] wg):aR P w K mg base aY 3 f fd ["machine", "bits"] (K1 C):=by
 refine F.go Cm (λcdv A outer s H vs Q E hr h=>?_)
 obtain⟨x,dx,g1,g2,g3,g4,g5,g6,b,ts,M,names,os,rfl,hM,ok,fw,hb,hl,kk⟩:=h
 have hu:=dY hr
 have ef:aW 1 (A.deeper _):=hr.mono (by decide)
 refine⟨_,(aj (dQ 2 Cm.nd (aJ (bK rfl) (by rfl) O.dict aaC (aa (dZ (N:=["name"]) (js:=[none]) (te:=(pF (eJ (cg 0) (eJ (tC .aH) n9)))) (by kernel_rfl) rfl (bf (dh (pv 0) rfl)) (λ_ _ _ _ _ _=>(ar (i:=0) (show (["name"]:List Str).Nodup from dk) rfl (Or.inl rfl) (.inr rfl))) (λ_ _ _ _ _ _=>bb) (λ_ _ _ _ _ _=>(cx (aa (pv 0) (aa ky ag))))) ag)))
  (aj (dr (eU abJ ad7 PySem.F.type_dict_update HY (pv 2) (aa (pv 1) ag)))
  (aj (df aaM rfl (bf (dh (pv 0) rfl)) (cw rfl (ax (ar (i:=3) Cm.nd rfl (Or.inl rfl)) (ax (ar (i:=4) Cm.nd rfl (Or.inl rfl)) (ax (ar (i:=5) Cm.nd rfl (Or.inl rfl)) bF))))
   (au (eI hu (pv 2) (pv 3) (aV CL ef (aa (aV CB hr (aa (pv 2) (aa (pv 4) ag))) (aa (aV CB hr (aa (pv 2) (aa (pv 5) ag))) ag))) rfl)))
  (au (aI (pv 2)))))),?_⟩
 try dsimp only[i7]
 have nd:=ok.nd
 rw[ok.all]at nd
 have sd:M.switches.Nodup:=(aaB.mp (aaB.mp nd).1).1
 refine⟨_,rfl,x,C,dx,_,_,rfl,hM.hx,T.cl,T.n1,tV ..,g1,rfl,⟨_,aq.of hM.h1⟩,λD hD=>?_⟩
 refine jG (xs:=M.switches) (kp:=λ_=>true) (y:=λn=>.inr (.tup [.str n,.aH])) V.str (by have:=fw.n1;lia) hM.h1 hD (λn hn H9 s9=>rw_yes λY hY=>?_) λH1 vs s1 bx p1=>?_
 . exact⟨_,rfl,by show 2<=sizeLine;decide,λT hT=>hY _ _ (ah.ao hT) (lZ hT)⟩
 rw[eX]at p1
 obtain⟨ns,rfl,pn⟩:=gg p1
 refine⟨D,ns,aU (M.switches.map λn=>(n,(none:OB))),rfl,bx,?_,λd hd=>?_⟩
 . unfold aU
   rw[aau]
   exact bE (Paired.bQ pn λt n z=>z.2)
 rw[show bA [] (aU (M.switches.map λn=>(n,(none:OB))))=aU (M.switches.map λn=>(n,(none:OB))) from um _ [] (by rw[abM,aau];exact(show (M.switches.map λn=>n).Nodup from by rw[List.map_id'];exact sd))]
 have s2:ah H1 (upd H1 d (.dK (aU (M.switches.map λn=>(n,(none:OB)))))):=ah.ao hd
 have q2:(upd H1 d (.dK (aU (M.switches.map λn=>(n,(none:OB)))))) d=some (.dK (aU (M.switches.map λn=>(n,(none:OB))))):=af
 have Hd:H d=none:=same_none s1 hd
 generalize upd H1 d (.dK (aU (M.switches.map λn=>(n,(none:OB)))))=H2 at s2 q2 ⊢
 have gc:=s1.trans s2
 refine⟨_,rfl,.inr (.inr (.inl ⟨rfl,.inl ⟨_,q2⟩⟩)),_,rfl,d,b,_,_,rfl,rfl,q2,.inl (gc _ _ hb),(ae hb Hd).symm,?_,?_⟩
 . unfold aU
   simp only[aaa,aa6]
   have:=fw.n1
   have:=fw.n2
   exact mG (by lia)
 rw[um _ _ (by
  have:=fz (M:=M) hl
  unfold gT at this
  rw[this]
  exact(aaB.mp nd).1)]
 have q3:(upd H2 d (.dK (aU ((M.switches.map λn=>(n,(none:OB)))++(M.keepers.map (·.1)).zip os)))) d=some (.dK (aU (gx M os 0))):=af
 have k3:aL H2 (upd H2 d (.dK (aU ((M.switches.map λn=>(n,(none:OB)))++(M.keepers.map (·.1)).zip os)))) d:=λb o hb hn=>by rw[ai hn];exact hb
 generalize upd H2 d (.dK (aU ((M.switches.map λn=>(n,(none:OB)))++(M.keepers.map (·.1)).zip os)))=H3 at q3 k3 ⊢
 have iH:ah H H3:=λb o hb=>k3 _ _ (gc _ _ hb) (ae hb Hd)
 have nC:=hM.same iH
 have gU:=hM.hp.length
 refine⟨_,rfl,x,C,dx,_,_,rfl,nC.hx,T.cl,T.n3,tW ..,g3,rfl,⟨_,aq.of nC.h3⟩,fo (xs:=ts.map V.ref) (λi σ Hi=>∃v3 v4 v5,σ=[some (.ref x),some (.ref b),some (.ref d),v3,v4,v5]/\ah H Hi/\Hi d=some (.dK (aU (gx M os i)))) ⟨_,_,_,rfl,iH,q3⟩ (λi σ Hi _ ⟨_,_,_,_,s,_⟩=>aq.of (s _ _ hM.h3)) ?_ ?_⟩
 . rintro i v σ Hi hv ⟨v3,v4,v5,rfl,si,kb⟩
   rw[aal]at hv
   cases ht:ts[i]? with
   | none=>rw[ht]at hv;cases hv
   | some t=>
    rw[ht]at hv
    cases hv
    have ug:i<M.gates.length:=by have:=(aaq.mp ht).1;lia
    have eF:M.gates[i]?=some M.gates[i]:=aae ug
    obtain⟨t',fk,dq⟩:=gd hM.hp eF
    rw[ht]at fk
    cases fk
    have Ab:=xP (M:=M) (vs:=os) ug
    generalize Aa:M.gates[i]=r at eF dq Ab
    obtain⟨Rt,Ru⟩:=ok.gl i r eF
    have hk:=rK (M:=M) hl i
    have sub:∀y∈M.switches++M.keepers.map (·.1)++(M.gates.take i).map (·.1),aT y:=λy hy=>ok.nm y (by
     rw[ok.all]
     rcases aag.mp hy with h|h
     . exact aag.mpr (.inl h)
     . obtain⟨q,hq,rfl⟩:=aai.mp h
       exact aag.mpr (.inr (aai.mpr ⟨q,abz hq,rfl⟩)))
    have uk:(M.gates.map (·.1))[i]?=some r.1:=by rw[aal,eF];rfl
    have fresh:r.1∉(gx M os i).map (·.1):=by
     rw[hk]
     have:=nP (i:=(M.switches++M.keepers.map (·.1)).length+i) nd (x:=r.1) (by rw[abq (by lia),acv];exact uk)
     rw[List.take_append,aa2 (by lia),acv]at this
     rw[abO]
     exact this
    refine⟨t,_,rfl,aM.of (si _ _ dq),rfl,_,_,rfl,_,_,rfl,_,_,rfl,rfl,?_⟩
    refine⟨_,rfl,_,rfl,d,_,r.2.1,rfl,.inl kb,yN hk sub Rt,λJ1 w1=>⟨_,rfl,_,rfl,d,_,r.2.2,rfl,.inl (w1 _ _ kb),yN hk sub Ru,λJ2 w2=>?_⟩⟩
    have hd2:=w2 _ _ (w1 _ _ kb)
    have dw:(aU (gx M os i)).length<=200:=by
     unfold aU
     rw[aaa,← aaa (f:=λr:Str×OB=>r.1),hk]
     simp only[aaj,aaa,aaO]
     have:=fw.n1
     have:=fw.n2
     have:=fw.n3
     lia
    refine⟨_,_,rfl,_,rfl,_,rfl,d,_,rfl,fE.k (k:=.inr r.1) hd2 (small (by lia)),_,_,_,rfl,λb' o fq=>?_,?_⟩
    . rw[ai (ae fq Hd)]
      exact w2 _ _ (w1 _ _ (si _ _ fq))
    . rw[af,yM fresh,Ab]
      rfl
 . rintro σ Hi ⟨v3,v4,v5,rfl,si,kb⟩
   rw[aaa,gU]at kb
   exact⟨_,rfl,kk d Hi si Hd kb⟩
end
noncomputable abbrev kn(M:ay):List Str:=M.keepers.map (·.1)
noncomputable def vO:V->OB
 | .int b=>some b
 | _=>none
noncomputable def i8(M:ay):List OB:=M.keepers.map λr=>vO r.2
noncomputable def lM(M:ay)(os:List OB)(r:Str×OB):OB:=if bH (bN M os) (cE M.nexts r.1)=r.2 then r.2 else none
noncomputable def jz(M:ay)(os:List OB):List OB:=((kn M).zip os).map (lM M os)
noncomputable def aP(M:ay):Nat->List OB
 | 0=>i8 M
 | k+1=>jz M (aP M k)
noncomputable def cK(M:ay):List OB:=aP M (M.keepers.length+1)
noncomputable def lD(M:ay)(n:Str):OB:=aF (bN M (cK M)) n
noncomputable def cnt(os:List OB):Nat:=(os.filter (·.isSome)).length
theorem Rv(os:List OB):cnt os<=os.length:=aba _ _
theorem cnt_none(os:List OB):cnt (none::os)=cnt os:=by unfold cnt;rw[aa1 (by simp)]
theorem wj(b:Int)(os:List OB):cnt (some b::os)=cnt os+1:=by unfold cnt;rw[aaZ (by simp)];rfl
theorem wu(M:ay)(os:List OB)(r:Str×OB):lM M os r=r.2\/lM M os r=none:=by unfold lM;split <;> simp
theorem Rx(M:ay)(os:List OB):∀l:List (Str×OB),cnt (l.map (lM M os))<=cnt (l.map (·.2))/\(l.map (lM M os)=l.map (·.2)\/cnt (l.map (lM M os))<cnt (l.map (·.2)))
 | []=>⟨aah _,.inl rfl⟩
 | r::l=>by
  obtain⟨a,b⟩:=Rx M os l
  rw[aas,aas]
  cases e:r.2 with
  | none=>
   have:lM M os r=none:=by rcases wu M os r with h|h;rw[h,e];exact h
   rw[this,cnt_none,cnt_none]
   exact⟨a,b.imp (λh=>by rw[h]) id⟩
  | some c=>
   rcases wu M os r with h|h
   . rw[h,e,wj,wj]
     exact⟨by lia,b.imp (λh=>by rw[h]) λh=>by lia⟩
   . rw[h,cnt_none,wj]
     exact⟨by lia,.inr (by lia)⟩
theorem qG{M:ay}{os:List OB}(h:M.keepers.length=os.length):((kn M).zip os).map (·.2)=os:=acS (by rw[aaa];lia)
theorem Ei{M:ay}{os:List OB}(h:M.keepers.length=os.length):M.keepers.length=(jz M os).length:=by
 unfold jz
 rw[aaa,aa6,aaa]
 lia
theorem IX{M:ay}{os:List OB}(h:M.keepers.length=os.length):jz M os=os\/cnt (jz M os)<cnt os:=by
 have:=(Rx M os ((kn M).zip os)).2
 rw[qG h]at this
 exact this
theorem iz(M:ay):∀k,M.keepers.length=(aP M k).length
 | 0=>by unfold aP i8;rw[aaa]
 | k+1=>Ei (iz M k)
theorem IY{M:ay}{k:Nat}(h:jz M (aP M k)=aP M k):∀j,aP M (k+j)=aP M k
 | 0=>rfl
 | j+1=>by
  show jz M (aP M (k+j))=_
  rw[IY h j,h]
theorem MC(M:ay):∀k,(∃j,j<=k/\jz M (aP M j)=aP M j)\/cnt (aP M k)+k<=M.keepers.length
 | 0=>.inr (by have:=Rv (aP M 0);have:=iz M 0;lia)
 | k+1=>by
  rcases MC M k with⟨j,hj,e⟩|h
  . exact .inl ⟨j,by lia,e⟩
  . rcases IX (iz M k) with e|e
    . exact .inl ⟨k,by lia,e⟩
    . exact .inr (by show cnt (jz M (aP M k))+_<=_;lia)
theorem Av{M:ay}{k j:Nat}(h:jz M (aP M k)=aP M k) (hk:k<=j):aP M j=aP M k:=by
 have:=IY h (j-k)
 rw[show k+(j-k)=j by lia]at this
 exact this
theorem wk(M:ay):jz M (cK M)=cK M:=by
 rcases MC M (M.keepers.length+1) with⟨j,hj,e⟩|h
 . have:=Av e hj
   unfold cK
   rw[this,e]
 . exfalso;lia
theorem Ob{M:ay}{k:Nat}(h:jz M (aP M k)=aP M k):aP M k=cK M:=by
 by_cases hk:k<=M.keepers.length+1
 . exact(Av h hk).symm
 . exact Av (wk M) (by lia)
theorem IZ{M:ay}{k:Nat}(h:M.keepers.length+1<=k):aP M k=cK M:=Av (wk M) h
theorem gh(M:ay):M.keepers.length=(cK M).length:=iz M _
theorem jA{a b:List (Str×OB)}{n:Str}(h:n∈a.map (·.1)):aF (a++b) n=aF a n:=by
 unfold aF
 rw[adf]
 obtain⟨r,hr,e⟩:=aai.mp h
 cases q:a.find? (λr=>decide (r.1=n)) with
 | some y=>rfl
 | none=>exact absurd (adV.mp q r hr) (by simp[e])
theorem iY{a b:List (Str×OB)}{n:Str}(h:n∉a.map (·.1)):aF (a++b) n=aF b n:=by
 unfold aF
 rw[adf]
 cases q:a.find? (λr=>decide (r.1=n)) with
 | some y=>exact absurd (aai.mpr ⟨y,abW q,by have:=List.find?_some q;simpa using this⟩) h
 | none=>rfl
theorem oK{l:List (Str×OB)}(nd:(l.map (·.1)).Nodup){r:Str×OB}(h:r∈l):aF l r.1=r.2:=by
 induction l with
 | nil=>cases h
 | cons q l ih=>
  rw[aas,aaU]at nd
  unfold aF
  rcases aan.mp h with e|e
  . rw[e,aaD (by simp)];rfl
  . rw[aaz (by simpa using λz:q.1=r.1=>nd.1 (aai.mpr ⟨r,e,z.symm⟩))]
    exact ih nd.2 e
theorem K2{l:List (Str×OB)}{n:Str}(h:n∉l.map (·.1)):aF l n=none:=by
 have:=iY (b:=[]) h
 rw[abh]at this
 rw[this]
 rfl
theorem pz:∀(gs:List (Str×Str×Str)) (acc:List (Str×OB)){n:Str},n∈acc.map (·.1)->aF (gs.foldl cW acc) n=aF acc n
 | [],acc,n,_=>rfl
 | g::gs,acc,n,h=>by
  rw[ab0,pz gs _ (by unfold cW;rw[aaf];exact aag.mpr (.inl h))]
  exact jA h
theorem ko{n:Str} : ∀l:List Str,aF (l.map λn=>(n,(none:OB))) n=none
 | []=>rfl
 | a::l=>by
  rw[aas]
  unfold aF
  by_cases e:a=n
  . rw[aaD (by simpa using e)];rfl
  . rw[aaz (by simpa using e)];exact ko l
theorem gH{M:ay}{os:List OB}(h:M.keepers.length=os.length):((kn M).zip os).map (·.1)=kn M:=cH (by rw[aaa];exact h)
section
variable {M:ay}{names:List Str}
theorem az.kd(ok:az M names):(kn M).Nodup:=by have:=ok.nd;rw[ok.all]at this;exact(aaB.mp (aaB.mp this).1).2.1
theorem az.ks(ok:az M names){n:Str}(h:n∈kn M):n∉M.switches:=λq=>by
 have:=ok.nd;rw[ok.all]at this
 exact(aaB.mp (aaB.mp this).1).2.2 _ q _ h rfl
theorem yO(ok:az M names){os:List OB}(h:M.keepers.length=os.length){n:Str}(hn:n∈kn M):aF (bN M os) n=aF ((kn M).zip os) n:=by
 show aF ((M.gates.take _).foldl cW (gT M os)) n=_
 rw[pz _ _ (by rw[fz h];exact aag.mpr (.inr hn))]
 unfold gT
 rw[iY (by rw[aau,show ((λr:Str×OB=>r.1)∘λn=>(n,(none:OB)))=id from rfl,abL];exact ok.ks hn)]
theorem Oc(ok:az M names){os:List OB}(h:M.keepers.length=os.length){n:Str}(hn:n∈M.switches):aF (bN M os) n=none:=by
 show aF ((M.gates.take _).foldl cW (gT M os)) n=_
 rw[pz _ _ (by rw[fz h];exact aag.mpr (.inl hn))]
 unfold gT
 rw[jA (by rw[aau,show ((λr:Str×OB=>r.1)∘λn=>(n,(none:OB)))=id from rfl,abL];exact hn),ko]
noncomputable def gb(M:ay)(os:List OB)(n:Str):Bool:=(aF (bN M os) n).isSome && decide (bH (bN M os) (cE M.nexts n)≠aF (bN M os) n)
noncomputable def nK(M:ay)(os:List OB):List Str:=(kn M).filter (gb M os)
theorem yP(ok:az M names){os:List OB}(h:M.keepers.length=os.length):((kn M).zip os).map (λr=>if r.1∈nK M os then (r.1,none) else r)=(kn M).zip (jz M os):=by
 have e:(kn M).zip (jz M os)=((kn M).zip os).map λr=>(r.1,lM M os r):=by
  unfold jz
  have:=gH (M:=M) h
  generalize (kn M).zip os=l at this ⊢
  rw[← this]
  clear this h ok
  induction l with
  | nil=>rfl
  | cons r l ih=>rw[aas,aas,aas,abe,ih]
 rw[e]
 refine aaW λr hr=>?_
 have hk:r.1∈kn M:=by rw[← gH h];exact aai.mpr ⟨r,hr,rfl⟩
 have hl:aF (bN M os) r.1=r.2:=by rw[yO ok h hk];exact oK (by rw[gH h];exact ok.kd) hr
 unfold lM
 by_cases hb:bH (bN M os) (cE M.nexts r.1)=r.2
 . rw[aaI hb,aay λq=>?_]
   have:=(aaF.mp q).2
   unfold gb at this
   rw[hl,hb]at this
   simp at this
 . rw[aay hb]
   cases e2:r.2 with
   | none=>
    split
    . rfl
    . rw[← e2]
   | some b=>
    refine aaI (show r.1∈nK M os from aaF.mpr ⟨hk,?_⟩)
    unfold gb
    rw[hl,aaT hb,e2]
    rfl
theorem Od(ok:az M names){os:List OB}(h:M.keepers.length=os.length)(e:nK M os=[]):jz M os=os:=by
 have:=yP ok h
 rw[e]at this
 have z:((kn M).zip os).map (λr=>if r.1∈([]:List Str) then (r.1,(none:OB)) else r)=(kn M).zip os:=by
  conv=>rhs;rw[← abL ((kn M).zip os)]
  exact aaW λr _=>aay (by simp)
 rw[z]at this
 have:=congrArg (List.map (·.2)) this
 rw[qG h,qG (Ei h)]at this
 exact this.symm
theorem K3(ok:az M names){os:List OB}(h:M.keepers.length=os.length)(e:nK M os≠[]):cnt (jz M os)<cnt os:=by
 rcases IX h with q|q
 . exfalso
   obtain⟨n,hn⟩:=List.exists_mem_of_ne_nil _ e
   obtain⟨h1,h2⟩:=aaF.mp hn
   rw[← gH h]at h1
   obtain⟨r,hr,rfl⟩:=aai.mp h1
   have hk:r.1∈kn M:=(aaF.mp hn).1
   have hl:aF (bN M os) r.1=r.2:=by rw[yO ok h hk];exact oK (by rw[gH h];exact ok.kd) hr
   have:=ae6.mp (show ((kn M).zip os).map (lM M os)=((kn M).zip os).map (·.2) by rw[qG h];exact q) r hr
   unfold gb at h2
   rw[hl,abg,aaV]at h2
   unfold lM at this
   rw[aay h2.2]at this
   rw[← this]at h2
   exact absurd h2.1 (by simp)
 . exact q
end
noncomputable abbrev K4:Stmt:=top 12
noncomputable def Cn(C:Addr):Sp:=λvs H Q _=>∃(x dx g1 g2 g3 g4 g5 g6 d:Addr) (ts:List Addr) (M:ay) (names:List Str) (os:List OB) (n:Str),vs=[.ref x,.ref d,.str n]/\MO C H x dx g1 g2 g3 g4 g5 g6 ts M/\az M names/\H d=some (.dK (aU (bN M os)))/\M.keepers.length=os.length/\n∈kn M/\
 ∀H',ah H H'->Q (.bl (gb M os n)) H'
section
variable {P:Program}{w:World}{K:W.Frag}{mg:Str->Option Value}{base:Heap}{C:Addr}
theorem Ry:aK ["machine", "values", "keeper"] ["machine", "values", "keeper"] (aw FN):=fs
theorem Oe{f fB fN:Addr}{fd dB dN:FuncData}(F:aO K "is_opened" "is_opened" FN f fd)(CB:cc P w K mg base 2 fB dB "bit_of" ["values", "literal"] uN) (CN:cc P w K mg base 1 fN dN "next_of" ["machine", "keeper"] (yA C)):aR P w K mg base aY 3 f fd ["machine", "values", "keeper"] (Cn C):=by
 refine F.go Ry (λcdv A outer s H vs Q E hr h=>?_)
 obtain⟨x,dx,g1,g2,g3,g4,g5,g6,d,ts,M,names,os,n,rfl,hM,ok,hd,hl,hn,kk⟩:=h
 have hu:=dY hr
 have ef:aW 1 (A.deeper _):=hr.mono (by decide)
 refine⟨_,(au (aI (OJ (Gg (pW (aC hu (pv 1) (pv 2) (λ_ _=>rfl)))) (OI (xW Ez (aV CB hr (aa (pv 1) (aa (aV CN ef (aa (pv 0) (aa (pv 2) ag))) ag))) (aC hu (pv 1) (pv 2) (λ_ _=>rfl)) (cp _)))))),?_⟩
 try dsimp only[i7]
 have hk:=km ok hl
 have Bh:n∈names:=ok.j4 hn
 have dg:a7 H d (.str n) (some (oV (aF (bN M os) n))):=jy (.inl hd) (by rw[hk];exact Bh)
 refine⟨_,rfl,_,rfl,d,_,rfl,dg,_,rfl,?_⟩
 rw[lB]
 unfold gb at kk
 cases e:aF (bN M os) n with
 | none=>
  rw[e]at kk
  exact bu (kk _ λ_ _ h=>h)
 | some b=>
  rw[e]at kk dg
  refine dm ⟨_,rfl,_,rfl,_,rfl,x,dx,g1,g2,g3,g4,g5,g6,ts,M,n,rfl,hM,d,_,_,rfl,.inl hd,yN hk ok.nm (ok.yF (ok.j4 hn)),λH1 s1=>⟨_,rfl,_,rfl,d,_,rfl,jy (.inl (s1 _ _ hd)) (by rw[hk];exact Bh),?_⟩⟩
  rw[e]
  refine⟨qF,?_⟩
  rw[FO,← decide_not]
  exact kk _ s1
end
noncomputable def K5(b:Int):Str:=(toString b:String)
noncomputable def ba(M:ay)(n:Str):Str:=match lD M n with
 | none=>n
 | some b=>K5 b
noncomputable def kq(M:ay):List (Key×V):=(bp M).map λn=>((.inr n:Key),.str (ba M n))
noncomputable def setM(M:ay):ay:=BX M (kq M) (ba M) M.nevers M.somes
theorem Co{M:ay}{names:List Str}(ok:az M names):(M.keepers.map λr=>((.inr r.1:Key),r.2))=aU ((kn M).zip (i8 M)):=by
 have e:(kn M).zip (i8 M)=M.keepers.map λr=>(r.1,vO r.2):=by
  unfold i8 kn
  generalize M.keepers=l
  induction l with
  | nil=>rfl
  | cons a l ih=>simp only[aas,abe,ih]
 rw[e]
 unfold aU
 rw[aau]
 refine aaW λr hr=>?_
 show ((.inr r.1:Key),r.2)=(.inr r.1,oV (vO r.2))
 rcases ok.first r hr with h|h|h <;> rw[h] <;> rfl
theorem Cp{n:Str}{l:List (Str×OB)}(h:n∈l.map (·.1)):putK (aU l) (.inr n) .aH=aU (l.map λr=>if r.1=n then (r.1,none) else r):=by
 unfold putK aU
 obtain⟨r,hr,e⟩:=aai.mp h
 rw[aaI (acO.mpr ⟨(.inr r.1,oV r.2),aai.mpr ⟨r,hr,rfl⟩,aaT (by rw[e])⟩)]
 rw[aau,aau]
 refine aaW λq _=>?_
 show (if (Sum.inr q.1:Key)=.inr n then ((.inr q.1:Key),V.aH) else (.inr q.1,oV q.2))=(λr:Str×OB=>((.inr r.1:Key),oV r.2)) (if q.1=n then (q.1,none) else q)
 by_cases e:q.1=n
 . rw[aaI (by rw[e]),aaI e]
   rfl
 . rw[aay λz=>e (acm z),aay e]
theorem map_two{l:List (Str×OB)}{a:List Str}{n:Str} : ((l.map λr=>if r.1∈a then (r.1,(none:OB)) else r).map λr=>if r.1=n then (r.1,none) else r)=l.map λr=>if r.1∈a++[n] then (r.1,none) else r:=by
 rw[aau]
 refine aaW λr _=>?_
 show (λr:Str×OB=>if r.1=n then (r.1,(none:OB)) else r) (if r.1∈a then (r.1,none) else r)=_
 by_cases h:r.1∈a
 . rw[aaI h,aaI (aag.mpr (.inl h))]
   exact ite_self _
 . rw[aay h]
   show (if r.1=n then (r.1,(none:OB)) else r)=_
   by_cases e:r.1=n
   . rw[aaI e,aaI (aag.mpr (.inr (by rw[e];exact aao.mpr rfl)))]
   . rw[aay e,aay λq=>(aag.mp q).elim h λq=>e (aao.mp q)]
theorem keys_map{l:List (Str×OB)}{a:List Str} : (l.map λr=>if r.1∈a then (r.1,(none:OB)) else r).map (·.1)=l.map (·.1):=by
 rw[aau]
 refine aaW λr _=>?_
 show (if r.1∈a then (r.1,(none:OB)) else r).1=r.1
 split <;> rfl
noncomputable def BO(o:OB):Prop:=∀b,o=some b->b=0\/b=1
theorem BO.aH:BO none:=λ_ h=>nomatch h
theorem BO.b0:BO (some 0):=λ_ h=>.inl (aaA h).symm
theorem BO.b1:BO (some 1):=λ_ h=>.inr (aaA h).symm
theorem Rz(a b:OB):BO (ma a b):=by
 unfold ma
 split
 . exact BO.b0
 . split
   . exact BO.b1
   . exact BO.aH
theorem Ej{l:List (Str×OB)}(h:∀r∈l,BO r.2) (n:Str):BO (aF l n):=by
 unfold aF
 cases q:l.find? (λr=>decide (r.1=n)) with
 | none=>exact BO.aH
 | some r=>exact h r (abW q)
theorem Ja{l:List (Str×OB)}(h:∀r∈l,BO r.2) (z:Str):BO (bH l z):=by
 have:=Ej h (bY z)
 unfold bH
 split
 . exact BO.b0
 split
 . exact BO.b1
 split
 . intro b e
   cases q:aF l (bY z) with
   | none=>rw[q]at e;cases e
   | some c=>
    rw[q]at e this
    have:=this c rfl
    have e':1-c=b:=aaA e
    lia
 . exact this
theorem yQ:∀(gs:List (Str×Str×Str)){acc:List (Str×OB)},(∀r∈acc,BO r.2)->∀r∈gs.foldl cW acc,BO r.2
 | [],acc,h=>h
 | g::gs,acc,h=>yQ gs (acc:=cW acc g) λr hr=>by
  rcases aag.mp hr with q|q
  . exact h r q
  . rw[aao.mp q];exact Rz _ _
theorem Of{M:ay}{os:List OB}(h:∀o∈os,BO o):∀r∈bN M os,BO r.2:=by
 refine yQ _ λr hr=>?_
 rcases aag.mp hr with q|q
 . obtain⟨n,_,rfl⟩:=aai.mp q
   exact BO.aH
 . exact h _ (abE q).2
theorem RA{M:ay}{os:List OB}(h:∀o∈os,BO o):∀o∈jz M os,BO o:=λo ho=>by
 obtain⟨r,hr,rfl⟩:=aai.mp ho
 rcases wu M os r with e|e
 . rw[e];exact h _ (abE hr).2
 . rw[e];exact BO.aH
theorem Aw{M:ay}{names:List Str}(ok:az M names):∀k,∀o∈aP M k,BO o
 | 0=>λo ho=>by
  obtain⟨r,hr,rfl⟩:=aai.mp ho
  show BO (vO r.2)
  rcases ok.first r hr with h|h|h <;> rw[h]
  . exact BO.b0
  . exact BO.b1
  . exact BO.aH
 | k+1=>RA (Aw ok k)
theorem RB{M:ay}{names:List Str}(ok:az M names)(n:Str):BO (lD M n):=Ej (Of (Aw ok _)) n
theorem Cq:K5 0 = "0":=by decide+kernel
theorem Cr:K5 1 = "1":=by decide+kernel
theorem jB{M:ay}{names:List Str}(ok:az M names)(n:Str):(lD M n=none/\ba M n=n)\/(lD M n=some 0/\ba M n = "0")\/(lD M n=some 1/\ba M n = "1"):=by
 unfold ba
 have:=RB ok n
 cases e:lD M n with
 | none=>exact .inl ⟨rfl,rfl⟩
 | some b=>
  rcases this b e with h|h
  . subst h;exact .inr (.inl ⟨rfl,Cq⟩)
  . subst h;exact .inr (.inr ⟨rfl,Cr⟩)
theorem RC{M:ay}{names:List Str}(ok:az M names){n:Str}(h:n∈names):(ba M n).length<=9:=by
 rcases jB ok n with⟨_,e⟩|⟨_,e⟩|⟨_,e⟩ <;> rw[e]
 . exact KC (ok.nm n h)
 . decide+kernel
 . decide+kernel
theorem FQ{M:ay}{n:Str}(h:n∈bp M):cu (kq M) (.inr n)=some (.str (ba M n)):=yG (f:=λn=>V.str (ba M n)) h
theorem uo{M:ay}{names:List Str}(ok:az M names){z:Str}(hz:Lit names z):pf (kq M) (ba M) z:=
 ⟨aap (hz.len ok.nm) (by decide),λh0 h1=>by
  have hm:=uK hz ok.nm (xD hz ok.nm h0 h1)
  exact⟨FQ (by rw[show bp M=names from ok.all.symm];exact hm),aap (RC ok hm) (by decide)⟩⟩
theorem RD{M:ay}{names:List Str}(ok:az M names)(fw:jw M):QN M (kq M) (ba M) M.nevers M.somes:=by
 refine⟨aap fw.n1 (by decide),aap fw.n2 (by decide),aap fw.n3 (by decide),aap fw.n4 (by decide),ok.kd,ok.nxd,λn hn=>⟨_,FQ hn,.inr ⟨_,rfl⟩⟩,λr hr _=>?_,λr hr _=>uo ok (ok.nxl r hr),ok.nvw.nd,aap fw.n5 (by decide),λr hr=>uo ok (ok.nvw.lit r hr),ok.smw.nd,aap fw.n6 (by decide),λr hr=>uo ok (ok.smw.lit r hr)⟩
 obtain⟨a,b⟩:=ok.FE hr
 exact⟨uo ok a,uo ok b⟩
noncomputable def FR(C:Addr):Sp:=λvs H Q _=>∃(x dx g1 g2 g3 g4 g5 g6:Addr) (ts:List Addr) (M:ay) (names:List Str),vs=[.ref x]/\MO C H x dx g1 g2 g3 g4 g5 g6 ts M/\az M names/\jw M/\
 ∀(tp d y dy k1 k2 k3 k4 k5 k6:Addr) (us:List Addr) (H':Hp),H d=none->H' d=some (.dK (kq M))->QO C H H' tp d y dy k1 k2 k3 k4 k5 k6 us (setM M)->(∀k∈[k1,k2,k3,k4,k5,k6],k≠d)->Q (.ref tp) H'
section
variable {P:Program}{w:World}{K:W.Frag}{mg:Str->Option Value}{base:Heap}{C:Addr}
noncomputable abbrev Yk:List Str:=["machine", "bits", "values", "opened", "keeper", "names"]
theorem uO:aK Yk ["machine"] (aw K4):=fs
theorem RE{f fV fI fN fR:Addr}{fd dV dI dN dR:FuncData}(F:aO K "by_settled" "by_settled" K4 f fd)(T:pO K mg C)(O:gw mg) (CV:cc P w K mg base 3 fV dV "values_with" ["machine", "bits"] (K1 C)) (CI:cc P w K mg base 3 fI dI "is_opened" ["machine", "values", "keeper"] (Cn C))
 (CN:cc P w K mg base 1 fN dN "names_of" ["machine"] (yw C)) (CR:cc P w K mg base 4 fR dR "round_of" ub (yC C)):aR P w K mg base aY 5 f fd ["machine"] (FR C):=by
 refine F.go uO (λcdv A outer s H vs Q E hr h=>?_)
 obtain⟨x,dx,g1,g2,g3,g4,g5,g6,ts,M,names,rfl,hM,ok,fw,kk⟩:=h
 have hu:=dY hr
 have MD:aW 3 (A.deeper _):=hr.mono (by decide)
 have ef:aW 1 (A.deeper _):=hr.mono (by decide)
 refine⟨_,(aj (dQ 1 uO.nd (aJ gA (by rfl) O.dict aaC (aa (dh (pv 0) rfl) ag)))
  (aj (JA aaM (iN mh)
   (aj (dQ 2 uO.nd (aV CV MD (aa (pv 0) (aa (pv 1) ag))))
   (aj (DQ (nL (i:=3) uO.nd rfl rfl (N:=["keeper", "machine", "values"]) (js:=[none,some 0,some 2]) (te:=(cg 0)) (by kernel_rfl) rfl (uE (pv 1)) (λ_ _ _ _ _ _=>(ar (i:=0) (show (["keeper", "machine", "values"]:List Str).Nodup from dk) rfl (Or.inl rfl) (.inr rfl))) (λ_ _ _ _ _ _=>(jZ (iN (aV CI MD (aa (pv 1) (aa (pv 2) (aa (pv 0) ag))))))) (λ_ _ _ _ _ _=>(pv 0))))
   (aj (cP (bg iV (eR eA (by rfl) O.len abI (aa (pv 3) ag)) ak (cp _))
    (au (Jx)) bh)
   (au (df aaM rfl (bf (pv 3)) (ar (i:=4) uO.nd rfl (Or.inl rfl))
    (au (eI hu (pv 1) (pv 4) ky rfl))))))))
  (aj (dQ 5 uO.nd (aJ (bK rfl) (by rfl) O.dict aaC (aa (dZ (N:=["name", "values"]) (js:=[none,some 2]) (by kernel_rfl) rfl (bf (aV CN ef (aa (pv 0) ag))) (λ_ _ _ _ _ _=>(ar (i:=0) (show (["name", "values"]:List Str).Nodup from dk) rfl (Or.inl rfl) (.inr rfl))) (λ_ _ _ _ _ _=>bb) (λ_ _ _ _ _ _=>(cx (aa (pv 0) (aa (jX (hW (my (aC hu (pv 1) (pv 0) (λ_ _=>rfl)))) (pv 0) (aJ sF (by rfl) O.str aeO (aa (aC hu (pv 1) (pv 0) (λ_ _=>rfl)) ag))) ag))))) ag)))
  (au (aI (aV CR hr (aa (pv 0) (aa (pv 5) (aa (dh (pv 0) rfl) (aa (dh (pv 0) rfl) ag)))))))))),?_⟩
 try dsimp only[i7]
 refine⟨_,rfl,x,C,dx,_,_,rfl,hM.hx,T.cl,T.n2,qr ..,g2,_,rfl,.inl hM.h2,λb hb=>?_⟩
 rw[Co ok]
 have s1:ah H (upd H b (.dK (aU ((kn M).zip (i8 M))))):=ah.ao hb
 have q1:(upd H b (.dK (aU ((kn M).zip (i8 M))))) b=some (.dK (aU ((kn M).zip (aP M 0)))):=af
 generalize upd H b (.dK (aU ((kn M).zip (i8 M))))=H1 at s1 q1 ⊢
 refine⟨λm σ Hi=>∃(k:Nat) (v2 v3 v4:Option V),σ=[some (.ref x),some (.ref b),v2,v3,v4,none]/\m=cnt (aP M k)/\ah H Hi/\Hi b=some (.dK (aU ((kn M).zip (aP M k)))),⟨_,0,none,none,none,rfl,rfl,s1,q1⟩,?_⟩
 rintro m σ Hi ⟨k,v2,v3,v4,rfl,rfl,si,xQ⟩
 have hl:=iz M k
 have Ac:=gH (M:=M) hl
 refine⟨_,rfl,dm ⟨λbr H'=>∃(v2 v3 v4:Option V),br=[some (.ref x),some (.ref b),v2,v3,v4,none]/\cnt (aP M (k+1))<cnt (aP M k)/\ah H H'/\H' b=some (.dK (aU ((kn M).zip (aP M (k+1))))),λbr H' h=>?_,?_⟩⟩
 . obtain⟨v2,v3,v4,e1,e2,e3⟩:=h
   exact⟨_,e2,k+1,v2,v3,v4,e1,rfl,e3⟩
 refine⟨_,rfl,_,rfl,x,dx,g1,g2,g3,g4,g5,g6,b,ts,M,names,aP M k,rfl,hM.same si,ok,fw,xQ,hl,λd H2 s2 hd q2=>?_⟩
 have gc:=si.trans s2
 have oW:=s2 _ _ xQ
 refine⟨_,rfl,b,_,rfl,oW,λo D hD=>?_⟩
 have f2:(upd H2 b (.cj o (.dK (aU ((kn M).zip (aP M k)))))) b=some (.cj o (.dK (aU ((kn M).zip (aP M k))))):=af
 have sf:ah H (upd H2 b (.cj o (.dK (aU ((kn M).zip (aP M k)))))):=λa u ha=>by rw[ai (ae ha hb)];exact gc _ _ ha
 have bd:d≠b:=(ae xQ hd).symm
 have QQ:(upd H2 b (.cj o (.dK (aU ((kn M).zip (aP M k)))))) d=some (.dK (aU (bN M (aP M k)))):=by rw[ai bd];exact q2
 refine Fx (xs:=(kn M).zip (aP M k)) (kp:=λr=>gb M (aP M k) r.1) (y:=λr=>.inl (.str r.1)) (λr=>.inr r.1) (λr=>oV r.2) (by have:=fw.n2;rw[← aaa (f:=λr:Str×OB=>r.1),Ac,aaa];lia) f2 hD (λr lK H9 s9=>?_) λH3 vs s3 bx p3=>?_
 . intro Z Y hZ hY
   have xR:r.1∈kn M:=by rw[← Ac];exact aai.mpr ⟨r,lK,rfl⟩
   refine⟨_,rfl,_,rfl,_,rfl,x,dx,g1,g2,g3,g4,g5,g6,d,ts,M,names,aP M k,r.1,rfl,hM.same (sf.trans s9),ok,s9 _ _ QQ,hl,xR,λJ sJ=>⟨_,rfl,?_⟩⟩
   cases hs:gb M (aP M k) r.1 with
   | false=>exact bu (hZ hs _ sJ)
   | true=>exact dm ⟨_,rfl,hY hs _ _ sJ rfl⟩
 have ev:=iD p3
 have eo:(((kn M).zip (aP M k)).filter λr=>gb M (aP M k) r.1).map (λr=>V.str r.1)=(nK M (aP M k)).map V.str:=by
  unfold nK
  rw[← Ac,← c9,aau]
  rw[Ac]
  rfl
 rw[eo]at ev
 subst ev
 have vg:=mY oW s3
 refine⟨b,o,_,s3 _ _ f2,λo' u z=>?_,?_⟩
 . have z':H b=some (.cj o' u):=z
   rw[hb]at z'
   cases z'
 have Db:D≠b:=(ae f2 hD).symm
 have DH:H D=none:=same_none sf hD
 have vx:(upd H3 b (.dK (aU ((kn M).zip (aP M k))))) D=some (.lst ((nK M (aP M k)).map V.str)):=by rw[ai Db];exact bx
 have IU:(upd H3 b (.dK (aU ((kn M).zip (aP M k))))) b=some (.dK (aU ((kn M).zip (aP M k)))):=af
 generalize upd H3 b (.dK (aU ((kn M).zip (aP M k))))=H4 at vg vx IU ⊢
 have lz:=gc.trans vg
 refine⟨_,rfl,D,_,rfl,.inl (aq.of vx),rfl,_,rfl,?_⟩
 rw[aaa]
 by_cases en:nK M (aP M k)=[]
 . rw[en]
   refine dm ?_
   have fx:=Od ok hl en
   have el:=Ob fx
   rw[el]at q2
   have Rj:=vg
   have d4:=Rj _ _ q2
   have zX:=hM.same lz
   have jM:(bp M).length<=88:=by unfold bp;simp only[aaj,aaa];have:=fw.n1;have:=fw.n2;have:=fw.n3;lia
   have e:bp M=names:=ok.all.symm
   have dk':=km ok (gh M)
   refine⟨_,rfl,x,dx,g1,g2,g3,g4,g5,g6,ts,M,rfl,zX.toMF,aap fw.n1 (by decide),aap fw.n2 (by decide),aap fw.n3 (by decide),λp H5 np s5 q5=>?_⟩
   refine⟨p,rfl,⟨_,aq.of q5⟩,λG hG=>?_⟩
   refine jG (xs:=bp M) (kp:=λ_=>true) (y:=λn=>.inr (.tup [.str n,.str (ba M n)])) V.str (aap jM (by decide)) q5 hG (λn hn H9 s9=>rw_yes λY hY=>?_) λH6 vs s6 hGG p6=>?_
   . have dg:a7 H9 d (.str n) (some (oV (lD M n))):=jy (.inl (s9 _ _ (s5 _ _ d4))) (by rw[dk',← e];exact hn)
     have fin:∀v,v=V.str (ba M n)->([V.str n,v]:List V).length<=sizeLine/\∀p,H9 p=none->Y (.ref p) (upd H9 p (.tup [.str n,v])):=λv ev=>⟨by show 2<=sizeLine;decide,λT hT=>by rw[ev];exact hY _ _ (ah.ao hT) (lZ hT)⟩
     refine⟨_,rfl,_,rfl,_,rfl,d,_,rfl,dg,_,rfl,?_⟩
     rw[lB]
     rcases jB ok n with⟨e1,e2⟩|⟨e1,e2⟩|⟨e1,e2⟩
     . rw[e1]
       exact dm ⟨_,rfl,fin _ (by rw[e2])⟩
     . rw[e1]at dg ⊢
       exact bu ⟨_,rfl,_,rfl,d,_,rfl,dg,0,rfl,by decide,fin _ (by rw[e2,← Cq];rfl)⟩
     . rw[e1]at dg ⊢
       exact bu ⟨_,rfl,_,rfl,d,_,rfl,dg,1,rfl,by decide,fin _ (by rw[e2,← Cr];rfl)⟩
   rw[eX]at p6
   obtain⟨ns,rfl,pn⟩:=gg p6
   refine⟨G,ns,kq M,rfl,hGG,bE (Paired.bQ pn λt n z=>z.2),λd' hd'=>?_⟩
   have ekv:kq M=eV ((bp M).map λn=>(n,V.str (ba M n))):=by unfold kq eV;rw[aau];rfl
   have em:bA [] (kq M)=kq M:=by
    rw[ekv]
    exact jv _ [] (by rw[abM,aau,show ((λr:Str×V=>r.1)∘λn=>(n,V.str (ba M n)))=id from rfl,abL,e];exact ok.nd)
   rw[em]
   have s7:ah H6 (upd H6 d' (.dK (kq M))):=ah.ao hd'
   have q7:(upd H6 d' (.dK (kq M))) d'=_:=af
   generalize upd H6 d' (.dK (kq M))=H7 at s7 q7 ⊢
   have nE:=(lz.trans s5).trans s6
   have vE:=nE.trans s7
   have B4:=hM.same vE
   have dH:H d'=none:=same_none nE hd'
   refine⟨_,rfl,_,rfl,_,rfl,x,C,dx,_,_,rfl,B4.hx,T.cl,T.n5,Ia ..,_,rfl,x,C,dx,_,_,rfl,B4.hx,T.cl,T.n6,Ib ..,x,dx,g1,g2,g3,g4,g5,g6,d',g5,g6,ts,M,kq M,ba M,_,_,rfl,B4,q7,B4.h5,B4.h6,(ae hM.h5 dH).symm,(ae hM.h6 dH).symm,(ae hM.h2 dH).symm,(ae hM.h4 dH).symm,RD ok fw,λtp y dy a1 a2 a3 a4 a5 a6 us J' hR=>?_⟩
   exact kk tp d' y dy a1 a2 a3 a4 a5 a6 us J' dH (hR.s _ _ q7) ⟨vE.trans hR.s,hR.t,hR.m,same_none vE hR.ny,λk hk=>same_none vE (hR.nk k hk),hR.nd⟩ λk hk q=>by
    have:=hR.nk k hk
    rw[q,q7]at this
    cases this
 . have ne:¬ (nK M (aP M k)).length=0:=λq=>en (abi.mp q)
   rw[show decide (V.int ((nK M (aP M k)).length:Int)=V.int 0)=false from aaS λq=>ne (by injection q with q;lia)]
   refine bu ?_
   have lt:=K3 ok hl en
   refine⟨_,rfl,D,rfl,⟨_,aq.of vx⟩,fo (xs:=(nK M (aP M k)).map V.str) (λi σ Hj=>∃(v4:Option V),σ=[some (.ref x),some (.ref b),some (.ref d),some (.ref D),v4,none]/\ah H Hj/\Hj D=some (.lst ((nK M (aP M k)).map V.str))/\Hj b=some (.dK (aU (((kn M).zip (aP M k)).map λr=>if r.1∈(nK M (aP M k)).take i then (r.1,none) else r)))) ⟨_,rfl,lz,vx,?_⟩ (λi σ Hj _ ⟨_,_,_,q,_⟩=>aq.of q) ?_ ?_⟩
   . rw[IU]
     congr 3
     conv=>lhs;rw[← abL ((kn M).zip (aP M k))]
     exact aaW λr _=>(aay (by simp)).symm
   . rintro i v σ Hj hv ⟨v4,rfl,sj,Wf,pA⟩
     rw[aal]at hv
     cases ho:(nK M (aP M k))[i]? with
     | none=>rw[ho]at hv;cases hv
     | some n=>
      rw[ho]at hv
      cases hv
      have Rh:n∈kn M:=(aaF.mp (aaN ho)).1
      have lk:(aU (((kn M).zip (aP M k)).map λr=>if r.1∈(nK M (aP M k)).take i then (r.1,(none:OB)) else r)).length<=200:=by
       unfold aU
       rw[aaa,← aaa (f:=λr:Str×OB=>r.1),keys_map,Ac,aaa]
       have:=fw.n2
       lia
      refine⟨_,rfl,_,rfl,b,_,rfl,fE.k (k:=.inr n) pA (small (by lia)),_,rfl,λa u ha=>?_,?_,?_⟩
      . rw[ai (ae ha hb)]
        exact sj _ _ ha
      . rw[ai Db]
        exact Wf
      . rw[af,Cp (by rw[keys_map,Ac];exact Rh),map_two,abb,ho]
        rfl
   . rintro σ Hj ⟨v4,rfl,sj,Wf,pA⟩
     rw[aaa,aaH,yP ok hl]at pA
     exact⟨_,_,_,rfl,lt,sj,pA⟩
end
theorem qH{l:List (Str×OB)} : bH l "0" = some 0:=aaI rfl
theorem qI{l:List (Str×OB)} : bH l "1" = some 1:=by unfold bH;rw[aay (by decide+kernel),aaI rfl]
theorem pB{l:List (Str×OB)}{x:Str}(h:aT x):bH l x=aF l x:=by
 obtain⟨a,b,c⟩:=gB h
 unfold bH pw
 rw[aay a,aay b,aay (by rw[aaV];exact c),fZ h]
theorem nQ{l:List (Str×OB)}{x:Str} : bH l ("~" ++ x)=(aF l x).map (1 - ·):=by
 obtain⟨a,b⟩:=oC x
 unfold bH pw
 rw[aay a,aay b,aaI (by rw[aaV,fK];rfl),iy]
theorem Ek{a b:List (Str×OB)}{ns:List Str}(hn:∀x∈ns,aT x){z:Str}(h:Lit ns z) (e:∀n∈kg z,aF a n=aF b n):bH a z=bH b z:=by
 rcases h with rfl|rfl|⟨x,hx,h⟩
 . rw[qH,qH]
 . rw[qI,qI]
 . have hN:=hn x hx
   obtain⟨p,q,_⟩:=gB hN
   rcases h with rfl|rfl
   . rw[pB hN,pB hN]
     have hb:=fZ hN
     exact e _ (by rw[qz (by rw[hb];exact p) (by rw[hb];exact q),hb];exact aao.mpr rfl)
   . rw[nQ,nQ]
     have hb:=iy x
     rw[e x (by rw[qz (by rw[hb];exact p) (by rw[hb];exact q),hb];exact aao.mpr rfl)]
theorem uq{acc:List (Str×OB)}{g:Str×Str×Str}{n:Str} : aF (cW acc g) n=if n∈acc.map (·.1) then aF acc n else if g.1=n then ma (bH acc g.2.1) (bH acc g.2.2) else none:=by
 unfold cW
 by_cases h:n∈acc.map (·.1)
 . rw[aaI h,jA h]
 . rw[aay h,iY h]
   unfold aF
   by_cases e:g.1=n
   . rw[aaI e,aaD (by simpa using e)]
     rfl
   . rw[aay e,aaz (by simpa using e)]
     rfl
noncomputable def LE(a b:List (Str×OB)):Prop:=∀n c,aF a n=some c->aF b n=some c
theorem LE.rfl{a:List (Str×OB)} : LE a a:=λ_ _ h=>h
theorem LE.trans{a b c:List (Str×OB)}(h:LE a b) (k:LE b c):LE a c:=λn x q=>k n x (h n x q)
theorem LE.bit{a b:List (Str×OB)}(h:LE a b){z:Str}{c:Int}(e:bH a z=some c):bH b z=some c:=by
 unfold bH at e ⊢
 split
 . rename_i q;rw[aaI q]at e;exact e
 . rename_i q0
   rw[aay q0]at e
   split
   . rename_i q;rw[aaI q]at e;exact e
   . rename_i q1
     rw[aay q1]at e
     split
     . rename_i q
       rw[aaI q]at e
       cases r:aF a (bY z) with
       | none=>rw[r]at e;cases e
       | some x=>rw[r]at e;rw[h _ _ r];exact e
     . rename_i q
       rw[aay q]at e
       exact h _ _ e
theorem K6{a b a' b':OB}(ha:∀c,a=some c->a'=some c)(hb:∀c,b=some c->b'=some c){c:Int}(e:ma a b=some c):ma a' b'=some c:=by
 unfold ma at e ⊢
 split at e
 . rename_i q
   rw[aaI (q.imp (ha 0) (hb 0))]
   exact e
 . split at e
   . rename_i q
     rw[aay (by rw[ha 1 q.1,hb 1 q.2];decide),aaI ⟨ha 1 q.1,hb 1 q.2⟩]
     exact e
   . cases e
theorem yR:∀(gs:List (Str×Str×Str)){a b:List (Str×OB)},a.map (·.1)=b.map (·.1)->LE a b->LE (gs.foldl cW a) (gs.foldl cW b)
 | [],a,b,_,h=>h
 | g::gs,a,b,k,h=>by
  rw[ab0,ab0]
  refine yR gs (by unfold cW;rw[aaf,aaf,k];rfl) λn c e=>?_
  rw[uq]at e ⊢
  rw[← k]
  split
  . rename_i q;rw[aaI q]at e;exact h _ _ e
  . rename_i q
    rw[aay q]at e
    split
    . rename_i q2
      rw[aaI q2]at e
      exact K6 (λ_=>h.bit) (λ_=>h.bit) e
    . rename_i q2
      rw[aay q2]at e
      cases e
section
variable {M:ay}{names:List Str}
noncomputable def bj(M:ay)(n:Str):Bool:=(lD M n).isNone
noncomputable def aA(M:ay):ay:=⟨M.switches,M.keepers.filter λr=>bj M r.1,(M.gates.filter λr=>bj M r.1).map (eY (ba M)),(M.nexts.filter λr=>bj M r.1).map (fh (ba M)),M.nevers.map (fh (ba M)),M.somes.map (fh (ba M))⟩
theorem kr{n:Str} : bj M n=true ↔ lD M n=none:=by unfold bj;rw[Option.isNone_iff_eq_none]
theorem Cs(ok:az M names){n:Str}(h:n∈names):eL (kq M) n=bj M n:=by
 obtain⟨a,b,_⟩:=gB (ok.nm n h)
 unfold eL bj
 rw[FQ (by rw[show bp M=names from ok.all.symm];exact h)]
 rcases jB ok n with⟨e1,e2⟩|⟨e1,e2⟩|⟨e1,e2⟩
 . rw[e1,e2]
   exact aaT rfl
 . rw[e1,e2]
   exact aaS λq=>a (by injection q with q;injection q with q;exact q.symm)
 . rw[e1,e2]
   exact aaS λq=>b (by injection q with q;injection q with q;exact q.symm)
theorem az.RF(ok:az M names){n:Str}(h:n∈M.switches):n∈names:=by rw[ok.all];exact aag.mpr (.inl (aag.mpr (.inl h)))
theorem az.K7(ok:az M names){r:Str×Str×Str}(h:r∈M.gates):r.1∈names:=by rw[ok.all];exact aag.mpr (.inr (aai.mpr ⟨r,h,rfl⟩))
theorem ur(ok:az M names){n:Str}(h:n∈M.switches):bj M n=true:=kr.mpr (Oc ok (gh M) h)
theorem El(ok:az M names):setM M=aA M:=by
 unfold setM aA BX mn
 have e1:M.switches.filter (eL (kq M))=M.switches:=abj.mpr λn hn=>by rw[Cs ok (ok.RF hn),ur ok hn]
 have e2:fj M (kq M)=M.keepers.filter λr=>bj M r.1:=ade λr hr=>Cs ok (ok.j4 (aai.mpr ⟨r,hr,rfl⟩))
 have e3:(M.gates.filter λr=>eL (kq M) r.1)=M.gates.filter λr=>bj M r.1:=ade λr hr=>Cs ok (ok.K7 hr)
 have e4:(M.nexts.filter λr=>decide (r.1∈(M.keepers.filter λr=>bj M r.1).map (·.1)))=M.nexts.filter λr=>bj M r.1:=ade λr hr=>by
  rw[c9 (bj M)]
  rw[abx,aaV,aaF]
  exact⟨λq=>q.2,λq=>⟨ok.nxk r hr,q⟩⟩
 rw[e1,e2,e3,e4]
theorem uu(ok:az M names){z:Str}(hz:Lit names z):(bH (bN M (cK M)) z=none/\cZ (ba M) z=z/\∀n∈kg z,bj M n=true)\/(bH (bN M (cK M)) z=some 0/\cZ (ba M) z = "0")\/(bH (bN M (cK M)) z=some 1/\cZ (ba M) z = "1"):=by
 rcases hz with rfl|rfl|⟨x,hx,h⟩
 . exact .inr (.inl ⟨qH,aaI (.inl rfl)⟩)
 . exact .inr (.inr ⟨qI,aaI (.inr rfl)⟩)
 . have hN:=ok.nm x hx
   obtain⟨p,q,c⟩:=gB hN
   rcases h with rfl|rfl
   . have hb:=fZ hN
     have ec:cZ (ba M) z=ba M z:=by unfold cZ;rw[aay (by simp[p,q]),aay c,hb]
     rw[pB hN,ec]
     rcases jB ok z with⟨e1,e2⟩|h|h
     . refine .inl ⟨e1,e2,λn hn=>?_⟩
       rw[qz (by rw[hb];exact p) (by rw[hb];exact q),hb]at hn
       rw[aao.mp hn]
       exact kr.mpr e1
     . exact .inr (.inl h)
     . exact .inr (.inr h)
   . have hb:=iy x
     obtain⟨a,b⟩:=oC x
     have ec:cZ (ba M) ("~" ++ x)=o9 (ba M x):=by unfold cZ;rw[aay (by simp[a,b]),aaI (by rw[fK];rfl),hb]
     rw[nQ,ec]
     rcases jB ok x with⟨e1,e2⟩|⟨e1,e2⟩|⟨e1,e2⟩
     . refine .inl ⟨by rw[show aF (bN M (cK M)) x=none from e1];rfl,?_,λn hn=>?_⟩
       . rw[e2]
         unfold o9
         rw[aay p,aay q,aay c]
       . rw[qz (by rw[hb];exact p) (by rw[hb];exact q),hb]at hn
         rw[aao.mp hn]
         exact kr.mpr e1
     . exact .inr (.inr ⟨by rw[show aF (bN M (cK M)) x=some 0 from e1];rfl,by rw[e2];rfl⟩)
     . exact .inr (.inl ⟨by rw[show aF (bN M (cK M)) x=some 1 from e1];rfl,by rw[e2];exact(show o9 "1" = "0" by decide+kernel)⟩)
theorem nV(ok:az M names){ns:List Str}{z:Str}(h:Lit ns z)(hs:∀x∈ns,x∈names):Lit (ns.filter (bj M)) (cZ (ba M) z):=by
 have hz:Lit names z:=h.imp id (Or.imp id λ⟨x,hx,e⟩=>⟨x,hs x hx,e⟩)
 rcases uu ok hz with⟨_,e,hn⟩|⟨_,e⟩|⟨_,e⟩ <;> rw[e]
 . exact KD ok.nm h hs hn
 . exact .inl rfl
 . exact .inr (.inl rfl)
theorem Ad(ok:az M names):names.filter (bj M)=(aA M).switches++(aA M).keepers.map (·.1)++(aA M).gates.map (·.1):=by
 show _=M.switches++(M.keepers.filter λr=>bj M r.1).map (·.1)++((M.gates.filter λr=>bj M r.1).map (eY (ba M))).map (·.1)
 rw[aau,show ((λr:Str×Str×Str=>r.1)∘eY (ba M))=(·.1) from rfl,c9 (bj M),c9 (bj M)]
 conv=>rhs;rw[← abj.mpr (λn hn=>ur ok (n:=n) hn)]
 rw[← abd,← abd,← ok.all]
theorem mZ(ok:az M names){i:Nat} : ∀x∈M.switches++kn M++(M.gates.take i).map (·.1),x∈names:=λx hx=>by
 rw[ok.all]
 rcases aag.mp hx with h|h
 . exact aag.mpr (.inl h)
 . obtain⟨q,hq,rfl⟩:=aai.mp h
   exact aag.mpr (.inr (aai.mpr ⟨q,abz hq,rfl⟩))
theorem md(ok:az M names):az (aA M) (names.filter (bj M)):=by
 have sub:∀{a:Str},a∈names.filter (bj M)->a∈names:=λh=>(aaF.mp h).1
 have cm:∀(l:List (Str×Str)),(l.map (fh (ba M))).map (·.1)=l.map (·.1):=λl=>by rw[aau];rfl
 refine⟨Ad ok,λz hz=>ok.nm z (sub hz),ae3 aeX ok.nd,λr hr=>ok.first r (aaF.mp hr).1,λr hr=>?_,λr hr=>?_,?_,⟨λr hr=>?_,λr hr=>?_,λr _ h=>(nomatch h),?_⟩,⟨λr hr=>?_,λr hr=>?_,λr hr h=>?_,?_⟩,λi r hr=>?_⟩
 . obtain⟨q,hq,rfl⟩:=aai.mp hr
   obtain⟨h1,h2⟩:=aaF.mp hq
   show q.1∈(M.keepers.filter λr=>bj M r.1).map (·.1)
   rw[c9 (bj M)]
   exact aaF.mpr ⟨ok.nxk q h1,h2⟩
 . obtain⟨q,hq,rfl⟩:=aai.mp hr
   exact nV ok (ok.nxl q (aaF.mp hq).1) λ_ h=>h
 . show (((M.nexts.filter λr=>bj M r.1).map (fh (ba M))).map (·.1)).Nodup
   rw[cm]
   exact oH ok.nxd
 . obtain⟨q,hq,rfl⟩:=aai.mp hr
   exact ok.nvw.nm q hq
 . obtain⟨q,hq,rfl⟩:=aai.mp hr
   exact nV ok (ok.nvw.lit q hq) λ_ h=>h
 . show ((M.nevers.map (fh (ba M))).map (·.1)).Nodup
   rw[cm]
   exact ok.nvw.nd
 . obtain⟨q,hq,rfl⟩:=aai.mp hr
   exact ok.smw.nm q hq
 . obtain⟨q,hq,rfl⟩:=aai.mp hr
   exact nV ok (ok.smw.lit q hq) λ_ h=>h
 . obtain⟨q,hq,rfl⟩:=aai.mp hr
   have h':q.1∈(M.nevers.map (fh (ba M))).map (·.1):=h
   rw[cm]at h'
   exact ok.smw.ut q hq h'
 . show ((M.somes.map (fh (ba M))).map (·.1)).Nodup
   rw[cm]
   exact ok.smw.nd
 . have jU:(M.gates.filter λr=>bj M r.1)[i]?.map (eY (ba M))=some r:=by rw[← aal];exact hr
   cases hq:(M.gates.filter λr=>bj M r.1)[i]? with
   | none=>rw[hq]at jU;cases jU
   | some q=>
    rw[hq]at jU
    cases jU
    obtain⟨j,h1,h2⟩:=uc hq
    obtain⟨t1,t2⟩:=ok.gl j q h1
    have e:(aA M).switches++(aA M).keepers.map (·.1)++((aA M).gates.take i).map (·.1)=(M.switches++M.keepers.map (·.1)++(M.gates.take j).map (·.1)).filter (bj M):=by
     show M.switches++(M.keepers.filter λr=>bj M r.1).map (·.1)++(((M.gates.filter λr=>bj M r.1).map (eY (ba M))).take i).map (·.1)=_
     rw[← abO,h2,aau,show ((λr:Str×Str×Str=>r.1)∘eY (ba M))=(·.1) from rfl,c9 (bj M),c9 (bj M),abd,abd,abj.mpr (λn hn=>ur ok (n:=n) hn)]
    rw[e]
    exact⟨nV ok t1 (mZ ok),nV ok t2 (mZ ok)⟩
theorem Og(fw:jw M):jw (aA M):=
 ⟨fw.n1,aap (aba _ _) fw.n2,by show (List.map _ _).length<=60;rw[aaa];exact aap (aba _ _) fw.n3,by show (List.map _ _).length<=16;rw[aaa];exact aap (aba _ _) fw.n4,by show (List.map _ _).length<=8;rw[aaa];exact fw.n5,by show (List.map _ _).length<=8;rw[aaa];exact fw.n6⟩
theorem Jb(ok:az M names){i:Nat}{n:Str}(hn:n∈M.switches++kn M++(M.gates.take i).map (·.1)):aF (gx M (cK M) i) n=lD M n:=by
 unfold lD bN gx
 have e:M.gates.take M.gates.length=M.gates.take i++M.gates.drop i:=by rw[aaH,ado]
 rw[e,ack]
 exact(pz _ _ (by rw[lC,fz (gh M)];exact hn)).symm
theorem Oh{b:List (Str×OB)}(kM:b.map (·.1)=M.switches++kn M) (i:Nat):((M.gates.take i).foldl cW b).map (·.1)=M.switches++kn M++(M.gates.take i).map (·.1):=by rw[lC,kM]
theorem uP(ok:az M names){bM A:List (Str×OB)}(kM:bM.map (·.1)=M.switches++kn M) (le:LE (gT M (cK M)) bM){i:Nat}(ih:∀n∈M.switches++kn M++(M.gates.take i).map (·.1),bj M n=true->aF A n=aF ((M.gates.take i).foldl cW bM) n){z:Str}(hz:Lit (M.switches++kn M++(M.gates.take i).map (·.1)) z):bH A (cZ (ba M) z)=bH ((M.gates.take i).foldl cW bM) z:=by
 have sub:=mZ ok (i:=i)
 have hn:∀x∈M.switches++kn M++(M.gates.take i).map (·.1),aT x:=λx hx=>ok.nm x (sub x hx)
 have zm:Lit names z:=hz.imp id (Or.imp id λ⟨x,hx,e⟩=>⟨x,sub x hx,e⟩)
 have L:LE (gx M (cK M) i) ((M.gates.take i).foldl cW bM):=yR _ (by rw[fz (gh M),kM]) le
 have eb:bH (gx M (cK M) i) z=bH (bN M (cK M)) z:=Ek hn hz λn hm=>by
  rw[Jb ok (uK hz hn hm)]
  rfl
 rcases uu ok zm with⟨e1,e2,hm⟩|⟨e1,e2⟩|⟨e1,e2⟩
 . rw[e2]
   exact Ek hn hz λn h=>ih n (uK hz hn h) (hm n h)
 . rw[e2,qH,L.bit (by rw[eb];exact e1)]
 . rw[e2,qI,L.bit (by rw[eb];exact e1)]
theorem wm(ok:az M names){bM bS:List (Str×OB)}(kM:bM.map (·.1)=M.switches++kn M) (kS:bS.map (·.1)=(M.switches++kn M).filter (bj M)) (le:LE (gT M (cK M)) bM) (h0:∀n∈M.switches++kn M,bj M n=true->aF bS n=aF bM n):∀(i:Nat),i<=M.gates.length->
 ∀n∈M.switches++kn M++(M.gates.take i).map (·.1),bj M n=true->aF ((((M.gates.take i).filter λr=>bj M r.1).map (eY (ba M))).foldl cW bS) n=aF ((M.gates.take i).foldl cW bM) n
 | 0,_,n,hn,h=>by
  rw[aeT,abY,abh]at hn
  exact h0 n hn h
 | i+1,hi,n,hn,h=>by
  have u0:i<M.gates.length:=by lia
  have ih:=wm ok kM kS le h0 i (by lia)
  have eF:M.gates[i]?=some M.gates[i]:=aae u0
  have hk:=Oh (M:=M) kM i
  rw[abb,eF,ab1]at hn
  rw[abb,eF,ab1,abd,aaf,ack,ack]
  generalize hg:M.gates[i]=g at eF hn ⊢
  have hgm:=aaN eF
  obtain⟨t1,t2⟩:=ok.gl i g eF
  generalize hA:(((M.gates.take i).filter λr=>bj M r.1).map (eY (ba M))).foldl cW bS=A at ih ⊢
  have Yl:A.map (·.1)=(M.switches++kn M++(M.gates.take i).map (·.1)).filter (bj M):=by
   rw[← hA,lC,kS,aau,show ((λr:Str×Str×Str=>r.1)∘eY (ba M))=(·.1) from rfl,c9 (bj M),← abd]
  have c1:=uP ok kM le (A:=A) ih t1
  have c2:=uP ok kM le (A:=A) ih t2
  generalize (M.gates.take i).foldl cW bM=B at ih hk c1 c2 ⊢
  have RG:∀m,bj M m=true->(m∈A.map (·.1) ↔ m∈B.map (·.1)):=λm hm=>by
   rw[Yl,hk,aaF]
   exact⟨λq=>q.1,λq=>⟨q,hm⟩⟩
  rw[ab0,aeU,uq]
  by_cases RH:bj M g.1=true
  . rw[aaZ (by exact RH),adM]
    show aF (cW A (eY (ba M) g)) n=_
    rw[uq]
    by_cases hm:n∈B.map (·.1)
    . rw[aaI ((RG n h).mpr hm),aaI hm]
      exact ih n (by rw[← hk];exact hm) h
    . rw[aay λq=>hm ((RG n h).mp q),aay hm]
      show (if g.1=n then ma (bH A (cZ (ba M) g.2.1)) (bH A (cZ (ba M) g.2.2)) else none)=_
      rw[c1,c2]
  . rw[aa1 (by exact RH),adM]
    show aF A n=_
    by_cases hm:n∈B.map (·.1)
    . rw[aaI hm]
      exact ih n (by rw[← hk];exact hm) h
    . have hgn:¬ g.1=n:=λe=>RH (by rw[e];exact h)
      exfalso
      rw[aaf,← abl]at hn
      rcases aag.mp hn with q|q
      . exact hm (by rw[hk];exact q)
      . exact hgn (aao.mp q).symm
theorem K8{os:List OB} : bN (aA M) os=(((M.gates.take M.gates.length).filter λr=>bj M r.1).map (eY (ba M))).foldl cW (gT (aA M) os):=by
 show ((aA M).gates.take (aA M).gates.length).foldl cW _=_
 rw[aaH,aaH]
 rfl
theorem yS{os:List OB}(h:M.keepers.length=os.length):(kn M).zip (jz M os)=((kn M).zip os).map λr=>(r.1,lM M os r):=by
 unfold jz
 have:=gH (M:=M) h
 generalize (kn M).zip os=l at this ⊢
 rw[← this]
 clear this h
 induction l with
 | nil=>rfl
 | cons r l ih=>rw[aas,aas,aas,abe,ih]
theorem Ct{f:Str×OB->OB}{n:Str}(hf:∀r,f r=r.2\/f r=none):∀{l:List (Str×OB)}{c:Int},aF (l.map λr=>(r.1,f r)) n=some c->aF l n=some c
 | r::l,c,h=>by
  rw[aas]at h
  unfold aF at h ⊢
  by_cases e:r.1=n
  . rw[aaD (by simpa using e)]at h
    rw[aaD (by simpa using e)]
    have h':f r=some c:=h
    show r.2=some c
    rcases hf r with q|q
    . rw[← q];exact h'
    . rw[q]at h';cases h'
  . rw[aaz (by simpa using e)]at h
    rw[aaz (by simpa using e)]
    exact Ct hf h
theorem Em{os nr:List OB}(h:LE ((kn M).zip os) ((kn M).zip nr)):LE (gT M os) (gT M nr):=λn c e=>by
 unfold gT at e ⊢
 by_cases hn:n∈(M.switches.map λn=>(n,(none:OB))).map (·.1)
 . rw[jA hn,ko]at e
   cases e
 . rw[iY hn]at e ⊢
   exact h n c e
theorem RI{os:List OB}(h:M.keepers.length=os.length):LE ((kn M).zip (jz M os)) ((kn M).zip os):=λn c e=>by
 rw[yS h]at e
 exact Ct (wu M os) e
theorem ME(j:Nat):∀d,LE ((kn M).zip (aP M (j+d))) ((kn M).zip (aP M j))
 | 0=>LE.rfl
 | d+1=>(RI (iz M (j+d))).trans (ME j d)
theorem le_last(j:Nat):LE ((kn M).zip (cK M)) ((kn M).zip (aP M j)):=by
 by_cases h:j<=M.keepers.length+1
 . have:=ME (M:=M) j (M.keepers.length+1-j)
   rw[show j+(M.keepers.length+1-j)=M.keepers.length+1 by lia]at this
   exact this
 . rw[IZ (M:=M) (k:=j) (by lia)]
   exact LE.rfl
theorem pR{n:Str}{need:Str->Bool}(h:need n=true):∀l:List (Str×OB),aF (l.filter λr=>need r.1) n=aF l n
 | []=>rfl
 | r::l=>by
  by_cases q:need r.1=true
  . rw[aaZ (by exact q)]
    unfold aF
    by_cases e:r.1=n
    . rw[aaD (by simpa using e),aaD (by simpa using e)]
    . rw[aaz (by simpa using e),aaz (by simpa using e)]
      exact pR h l
  . rw[aa1 (by exact q),pR h l]
    unfold aF
    rw[aaz (by simpa using λe:r.1=n=>q (by rw[e];exact h))]
theorem Cu:kn (aA M)=(kn M).filter (bj M):=c9 (bj M) M.keepers
theorem Cv{n:Str}(ok:az M names)(hn:n∈names)(h:bj M n=true):cE (aA M).nexts n=cZ (ba M) (cE M.nexts n):=by
 have e1:cE M.nexts n=cE (M.nexts.filter λr=>bj M r.1) n:=(C8 h).symm
 rw[e1]
 show cE ((M.nexts.filter λr=>bj M r.1).map (fh (ba M))) n=_
 have own:cZ (ba M) n=n:=by
  obtain⟨a,b,c⟩:=gB (ok.nm n hn)
  unfold cZ
  rw[aay (by simp[a,b]),aay c,fZ (ok.nm n hn)]
  rcases jB ok n with⟨_,e⟩|⟨e,_⟩|⟨e,_⟩
  . exact e
  . rw[kr.mp h]at e;cases e
  . rw[kr.mp h]at e;cases e
 generalize (M.nexts.filter λr=>bj M r.1)=l
 unfold cE
 induction l with
 | nil=>exact own.symm
 | cons r l ih=>
  rw[aas]
  by_cases e:r.1=n
  . rw[aaD (a:=fh (ba M) r) (p:=λq:Str×Str=>decide (q.1=n)) (show decide (r.1=n)=true from aaT e),aaD (by simpa using e)]
    rfl
  . rw[aaz (a:=fh (ba M) r) (p:=λq:Str×Str=>decide (q.1=n)) (show ¬ decide (r.1=n)=true by simpa using e),aaz (by simpa using e)]
    exact ih
noncomputable def RJ(M:ay)(os nr:List OB):Prop:=(kn (aA M)).zip nr=((kn M).zip os).filter λr=>bj M r.1
theorem xS(ok:az M names){j:Nat}{nr:List OB}(hl:(aA M).keepers.length=nr.length) (h:RJ M (aP M j) nr):∀n∈names,bj M n=true->aF (bN (aA M) nr) n=aF (bN M (aP M j)) n:=λn hn ho=>by
 rw[K8]
 have kM:=fz (M:=M) (iz M j)
 have kS:(gT (aA M) nr).map (·.1)=(M.switches++kn M).filter (bj M):=by
  rw[fz hl,abd,abj.mpr (λn hn=>ur ok (n:=n) hn),← Cu]
  rfl
 refine wm ok kM kS (Em (le_last j)) (λm hm hO=>?_) M.gates.length (aah _) n (by rw[aaH,← ok.all];exact hn) ho
 unfold gT
 by_cases hs:m∈M.switches
 . have h1:m∈(M.switches.map λn=>(n,(none:OB))).map (·.1):=by rw[aau,show ((λr:Str×OB=>r.1)∘λn=>(n,(none:OB)))=id from rfl,abL];exact hs
   rw[jA h1,jA (show m∈((aA M).switches.map λn=>(n,(none:OB))).map (·.1) from h1),ko,ko]
 . have h1:m∉(M.switches.map λn=>(n,(none:OB))).map (·.1):=by rw[aau,show ((λr:Str×OB=>r.1)∘λn=>(n,(none:OB)))=id from rfl,abL];exact hs
   rw[iY h1,iY (show m∉((aA M).switches.map λn=>(n,(none:OB))).map (·.1) from h1)]
   show aF ((kn (aA M)).zip nr) m=_
   rw[h]
   exact pR hO _
theorem Jc(ok:az M names){j:Nat}{nr:List OB}(hl:(aA M).keepers.length=nr.length) (h:RJ M (aP M j) nr){z:Str}(hz:Lit names z):bH (bN (aA M) nr) (cZ (ba M) z)=bH (bN M (aP M j)) z:=by
 have e:M.switches++kn M++(M.gates.take M.gates.length).map (·.1)=names:=by rw[aaH,ok.all]
 exact uP ok (fz (M:=M) (iz M j)) (Em (le_last j)) (i:=M.gates.length) (λn hn ho=>xS ok hl h n (by rw[← e];exact hn) ho) (by rw[e];exact hz)
theorem Jd(ok:az M names):∀j,RJ M (aP M j) (aP (aA M) j)
 | 0=>by
  have e:∀l:List (Str×V),(l.map (·.1)).zip (l.map λr=>vO r.2)=l.map λr=>(r.1,vO r.2):=λl=>by
   induction l with
   | nil=>rfl
   | cons a l ih=>simp only[aas,abe,ih]
  show ((aA M).keepers.map (·.1)).zip ((aA M).keepers.map λr=>vO r.2)=((M.keepers.map (·.1)).zip (M.keepers.map λr=>vO r.2)).filter λr=>bj M r.1
  rw[e,e]
  show (M.keepers.filter λr=>bj M r.1).map (λr=>(r.1,vO r.2))=_
  rw[List.filter_map]
  rfl
 | j+1=>by
  have ih:=Jd ok j
  show (kn (aA M)).zip (jz (aA M) (aP (aA M) j))=((kn M).zip (jz M (aP M j))).filter λr=>bj M r.1
  rw[yS (iz _ j),yS (iz _ j),ih,List.filter_map]
  show (((kn M).zip (aP M j)).filter λr=>bj M r.1).map _=_
  refine aaW λr hr=>?_
  obtain⟨h1,h2⟩:=aaF.mp hr
  have hk:r.1∈kn M:=(abE h1).1
  have hn:=ok.j4 hk
  show (r.1,lM (aA M) _ r)=(r.1,lM M _ r)
  unfold lM
  rw[Cv ok hn h2,Jc ok (iz _ j) ih (ok.yF hn)]
theorem En(ok:az M names){n:Str}(hn:n∈names)(h:bj M n=true):lD (aA M) n=none:=by
 have hl:(aA M).keepers.length<=M.keepers.length:=aba _ _
 have e1:cK (aA M)=aP (aA M) (M.keepers.length+1):=(IZ (by lia)).symm
 unfold lD
 rw[e1,xS ok (iz _ _) (Jd ok (M.keepers.length+1)) n hn h]
 exact kr.mp h
theorem Je(ok:az M names){n:Str}(hn:n∈names.filter (bj M)):ba (aA M) n=n:=by
 obtain⟨h1,h2⟩:=aaF.mp hn
 unfold ba
 rw[En ok h1 h2]
theorem yT(ok:az M names){z:Str}(hz:Lit (names.filter (bj M)) z):cZ (ba (aA M)) z=z:=by
 have gM:=md ok
 conv=>rhs;rw[← NV hz gM.nm]
 unfold cZ
 by_cases h0:z = "0"
 . rw[aaI (.inl h0),aaI (.inl h0)]
 by_cases h1:z = "1"
 . rw[aaI (.inr h1),aaI (.inr h1)]
 rw[Je ok (uK hz gM.nm (xD hz gM.nm h0 h1))]
 rfl
theorem Oi(ok:az M names):aA (aA M)=aA M:=by
 have gM:=md ok
 have fl:∀{n:Str},n∈names.filter (bj M)->bj (aA M) n=true:=λh=>kr.mpr (En ok (aaF.mp h).1 (aaF.mp h).2)
 have cr:∀{l:List (Str×Str)},(∀r∈l,Lit (names.filter (bj M)) r.2)->l.map (fh (ba (aA M)))=l:=λ{l} h=>by
  conv=>rhs;rw[← abL l]
  refine aaW λr hr=>?_
  show (r.1,cZ _ r.2)=r
  rw[yT ok (h r hr)]
 have e2:((aA M).keepers.filter λr=>bj (aA M) r.1)=(aA M).keepers:=abj.mpr λr hr=>fl (gM.j4 (aai.mpr ⟨r,hr,rfl⟩))
 have e3:((aA M).gates.filter λr=>bj (aA M) r.1)=(aA M).gates:=abj.mpr λr hr=>fl (gM.K7 hr)
 have e4:((aA M).nexts.filter λr=>bj (aA M) r.1)=(aA M).nexts:=abj.mpr λr hr=>fl (gM.j4 (gM.nxk r hr))
 have e5:(aA M).gates.map (eY (ba (aA M)))=(aA M).gates:=by
  conv=>rhs;rw[← abL (aA M).gates]
  refine aaW λr hr=>?_
  obtain⟨a,b⟩:=gM.FE hr
  show (r.1,cZ _ r.2.1,cZ _ r.2.2)=r
  rw[yT ok a,yT ok b]
 have e6:=cr (l:=(aA M).nexts) gM.nxl
 have e7:=cr (l:=(aA M).nevers) gM.nvw.lit
 have e8:=cr (l:=(aA M).somes) gM.smw.lit
 generalize aA M=S at *
 unfold aA
 rw[e2,e3,e4,e5,e6,e7,e8]
end
noncomputable def lN(l:List (Str×Int)):List (Str×OB):=l.map λr=>(r.1,some r.2)
theorem oM(l:List (Str×Int)):(lN l).map (·.1)=l.map (·.1):=by unfold lN;rw[aau];rfl
theorem me{n:Str} : ∀{l:List (Str×Int)},n∈l.map (·.1)->aF (lN l) n=some (bw l n)
 | r::l,h=>by
  unfold bw
  show aF ((r.1,some r.2)::lN l) n=_
  unfold aF
  by_cases e:r.1=n
  . rw[aaD (by simpa using e),aaD (by simpa using e)]
    rfl
  . rw[aaz (by simpa using e),aaz (by simpa using e)]
    exact me ((aan.mp h).resolve_left λq=>e q.symm)
theorem qK{l:List (Str×Int)}{ns:List Str}(hk:l.map (·.1)=ns) (hn:∀x∈ns,aT x){z:Str}(h:Lit ns z):bH (lN l) z=some (eW l z):=by
 rcases h with rfl|rfl|⟨x,hx,rfl|rfl⟩
 . rw[qH,Ic]
 . rw[qI,Ie]
 . rw[pB (hn _ hx),tX (hn _ hx),me (by rw[hk];exact hx)]
 . rw[nQ,xw,me (by rw[hk];exact hx)]
   rfl
theorem Oj{a b:Int}(ha:a=0\/a=1)(hb:b=0\/b=1):ma (some a) (some b)=some (a*b):=by
 rcases ha with rfl|rfl <;> rcases hb with rfl|rfl <;> rfl
section
variable {M:ay}{names:List Str}
theorem Cw(ok:az M names){bs cs:List Int}(hb:dj M.switches.length bs)(hc:dj M.keepers.length cs):∀i,i<=M.gates.length->(M.gates.take i).foldl cW (lN (iL M bs cs))=lN (cQ M bs cs i)
 | 0,_=>rfl
 | i+1,hi=>by
  have u0:i<M.gates.length:=by lia
  have ih:=Cw ok hb hc i (by lia)
  have eF:M.gates[i]?=some M.gates[i]:=aae u0
  rw[zQ u0,abb,eF,ab1,ack,ih,ab0,aeU]
  generalize M.gates[i]=g at eF ⊢
  obtain⟨t1,t2⟩:=ok.gl i g eF
  have hk:=fQ (M:=M) hb.1 hc.1 i
  have hn:∀x∈M.switches++kn M++(M.gates.take i).map (·.1),aT x:=λx hx=>ok.nm x (mZ ok x hx)
  have B:=tY (M:=M) hb.2 hc.2 i
  unfold cW lW
  rw[qK hk hn t1,qK hk hn t2,Oj (lV B _) (lV B _)]
  unfold lN
  rw[aaf]
  rfl
theorem oN(ok:az M names){bs cs:List Int}(hb:dj M.switches.length bs)(hc:dj M.keepers.length cs):(M.gates.take M.gates.length).foldl cW (lN (iL M bs cs))=lN (cQ M bs cs M.gates.length):=Cw ok hb hc _ (aah _)
noncomputable def Kept(M:ay)(cs:List Int):Prop:=∀n b,aF ((kn M).zip (cK M)) n=some b->bw ((kn M).zip cs) n=b
theorem uQ{l:List (Str×OB)}{n:Str}{b:Int}(h:aF l n=some b):n∈l.map (·.1):=Decidable.byContradiction λq=>by rw[K2 q]at h;cases h
theorem FT(ok:az M names){cs:List Int}(h:IC M cs):Kept M cs:=λn b e=>by
 have e0:=le_last (M:=M) 0 n b e
 have hz:(kn M).zip (aP M 0)=M.keepers.map λr=>(r.1,vO r.2):=by
  show (M.keepers.map (·.1)).zip (M.keepers.map λr=>vO r.2)=_
  generalize M.keepers=l
  induction l with
  | nil=>rfl
  | cons a l ih=>simp only[aas,abe,ih]
 rw[hz]at e0
 have hm:=uQ e0
 obtain⟨q,hq,rfl⟩:=aai.mp hm
 obtain⟨r,hr,rfl⟩:=aai.mp hq
 have nd:((M.keepers.map λr=>(r.1,vO r.2)).map (·.1)).Nodup:=by rw[aau];exact ok.kd
 rw[oK nd hq]at e0
 have e1:vO r.2=some b:=e0
 show bw _ r.1=b
 rcases h.f r hr with q|q
 . rw[q]at e1;cases e1
 . rw[q]at e1
   exact aaA e1
theorem yU(ok:az M names){bs cs:List Int}(hb:dj M.switches.length bs)(hc:dj M.keepers.length cs)(h:Kept M cs):LE (gT M (cK M)) (lN (iL M bs cs)):=λn c e=>by
 unfold gT at e
 by_cases hn:n∈(M.switches.map λn=>(n,(none:OB))).map (·.1)
 . rw[jA hn,ko]at e
   cases e
 . rw[iY hn]at e
   have hk:n∈kn M:=by have:=uQ e;rw[gH (gh M)]at this;exact this
   rw[aau,show ((λr:Str×OB=>r.1)∘λn=>(n,(none:OB)))=id from rfl,abL]at hn
   unfold iL
   rw[me (by rw[aaf,cH hb.1,cH (by rw[aaa];exact hc.1)];exact aag.mpr (.inr hk)),pP (by rw[cH hb.1];exact hn),h n c e]
theorem jC{bs cs:List Int}(hb:dj M.switches.length bs)(hc:dj M.keepers.length cs):(iL M bs cs).map (·.1)=M.switches++kn M:=by
 unfold iL
 rw[aaf,cH hb.1,cH (by rw[aaa];exact hc.1)]
theorem K9(ok:az M names){bs cs:List Int}(hb:dj M.switches.length bs){n:Str}(hn:n∈M.switches++kn M)(h:bj M n=true):bw (iL (aA M) (nG M (aA M) bs) (je M (aA M) cs)) n=bw (iL M bs cs) n:=by
 unfold iL
 by_cases hs:n∈M.switches
 . have h1:n∈(aA M).switches:=hs
   rw[xA (by rw[cH nU.symm];exact h1),xA (by rw[cH hb.1];exact hs)]
   exact ud h1
 . have hk:n∈kn M:=(aag.mp hn).resolve_left hs
   have h1:n∉(aA M).switches:=hs
   rw[pP (by rw[cH nU.symm];exact h1),pP (by rw[cH hb.1];exact hs)]
   have er:je M (aA M) cs=((aA M).keepers.map (·.1)).map (bw ((M.keepers.map (·.1)).zip cs)):=by unfold je;rw[aau];rfl
   rw[er]
   exact ud (by rw[show (aA M).keepers.map (·.1)=(kn M).filter (bj M) from Cu];exact aaF.mpr ⟨hk,h⟩)
theorem La(ok:az M names){bs cs:List Int}(hb:dj M.switches.length bs)(hc:dj M.keepers.length cs)(h:Kept M cs):∀n∈names,bj M n=true->aF (lN (cQ (aA M) (nG M (aA M) bs) (je M (aA M) cs) (aA M).gates.length)) n=aF (lN (cQ M bs cs M.gates.length)) n:=λn hn ho=>by
 have gM:=md ok
 have fq:dj (aA M).switches.length (nG M (aA M) bs):=⟨nU.symm,λb hq=>by obtain⟨n,_,rfl⟩:=aai.mp hq;exact ke (lX hb.2) n⟩
 have bZ:dj (aA M).keepers.length (je M (aA M) cs):=⟨uL.symm,λb hq=>by obtain⟨n,_,rfl⟩:=aai.mp hq;exact ke (lX hc.2) n.1⟩
 rw[← oN ok hb hc,← oN gM fq bZ]
 have kM:(lN (iL M bs cs)).map (·.1)=M.switches++kn M:=by rw[oM,jC hb hc]
 have kS:(lN (iL (aA M) (nG M (aA M) bs) (je M (aA M) cs))).map (·.1)=(M.switches++kn M).filter (bj M):=by
  rw[oM,jC fq bZ,abd,abj.mpr (λn hn=>ur ok (n:=n) hn),← Cu]
  rfl
 have:=wm ok kM kS (yU ok hb hc h) (λm hm hO=>by
  rw[me (by rw[jC fq bZ];rw[oM,jC fq bZ]at kS;rw[kS];exact aaF.mpr ⟨hm,hO⟩),me (by rw[jC hb hc];exact hm),K9 ok hb hm hO]) M.gates.length (aah _) n (by rw[aaH,← ok.all];exact hn) ho
 rw[← this]
 congr 2
 rw[aaH,aaH]
 rfl
theorem Eo(ok:az M names){bs cs:List Int}(hb:dj M.switches.length bs)(hc:dj M.keepers.length cs)(h:Kept M cs){z:Str}(hz:Lit names z):eW (cQ (aA M) (nG M (aA M) bs) (je M (aA M) cs) (aA M).gates.length) (cZ (ba M) z)=eW (cQ M bs cs M.gates.length) z:=by
 have gM:=md ok
 have e:M.switches++kn M++(M.gates.take M.gates.length).map (·.1)=names:=by rw[aaH,ok.all]
 have kM:(lN (iL M bs cs)).map (·.1)=M.switches++kn M:=by rw[oM,jC hb hc]
 have:=uP ok kM (yU ok hb hc h) (i:=M.gates.length) (A:=lN (cQ (aA M) (nG M (aA M) bs) (je M (aA M) cs) (aA M).gates.length)) (λn hn ho=>by rw[oN ok hb hc];exact La ok hb hc h n (by rw[← e];exact hn) ho) (by rw[e];exact hz)
 rw[oN ok hb hc,qK (ns:=names) (by rw[fQ hb.1 hc.1,aaH,← ok.all]) ok.nm hz,qK (ns:=names.filter (bj M)) (by rw[fQ nU.symm uL.symm,aaH,← gM.all]) gM.nm (nV ok hz λ_ h=>h)]at this
 exact aaA this
theorem Jg(ok:az M names):Mr M (aA M) (bp M) (λn=>.str (ba M n)) (Kept M):=by
 have gM:=md ok
 have e:bp M=names:=ok.all.symm
 refine⟨λr hr=>(aaF.mp hr).1,λn hn=>hn,λn hn=>hn,λn hn=>.inr ⟨_,rfl⟩,λcs h=>FT ok h,λbs cs hb hc h n hn z hz=>?_,λbs cs hb hc h=>⟨λn b hl=>?_,?_⟩⟩
 . cases hz
   rw[e]at hn
   have hN:=ok.nm n hn
   obtain⟨a,b,c⟩:=gB hN
   have hL:Lit names n:=.inr (.inr ⟨n,hn,.inl rfl⟩)
   have ec:cZ (ba M) n=ba M n:=by unfold cZ;rw[aay (by simp[a,b]),aay c,fZ hN]
   have q:=Eo ok hb hc h hL
   rw[ec,tX hN]at q
   refine⟨?_,q⟩
   rcases jB ok n with⟨e1,e2⟩|⟨_,e2⟩|⟨_,e2⟩ <;> rw[e2]
   . refine .inr (.inr (.inl ⟨hN,?_⟩))
     rw[fQ nU.symm uL.symm,aaH,← gM.all]
     exact aaF.mpr ⟨hn,kr.mpr e1⟩
   . exact .inl rfl
   . exact .inr (.inl rfl)
 . have hk:n∈kn M:=by have:=uQ hl;rw[gH (gh M)]at this;exact this
   obtain⟨r,hr,rfl⟩:=aai.mp hk
   show bw ((M.keepers.map (·.1)).zip (iu M bs cs)) r.1=b
   rw[xE ok hr]
   have hLt:=ok.yF (ok.j4 hk)
   have fx:bH (bN M (cK M)) (cE M.nexts r.1)=some b:=by
    have hm:=uQ hl
    obtain⟨q,hq,eq⟩:=aai.mp hm
    have nd:(((kn M).zip (cK M)).map (·.1)).Nodup:=by rw[gH (gh M)];exact ok.kd
    rw[← eq,oK nd hq]at hl
    have:=ae6.mp (show ((kn M).zip (cK M)).map (lM M (cK M))=((kn M).zip (cK M)).map (·.2) by rw[qG (gh M)];exact wk M) q hq
    unfold lM at this
    by_cases hb:bH (bN M (cK M)) (cE M.nexts q.1)=q.2
    . rw[eq]at hb
      rw[hb]
      exact hl
    . rw[aay hb,hl]at this
      cases this
   have L:LE (bN M (cK M)) ((M.gates.take M.gates.length).foldl cW (lN (iL M bs cs))):=yR _ (by rw[fz (gh M),oM,jC hb hc]) (yU ok hb hc h)
   have:=L.bit fx
   rw[oN ok hb hc,qK (ns:=names) (by rw[fQ hb.1 hc.1,aaH,← ok.all]) ok.nm hLt]at this
   exact aaA this
 . show ((aA M).keepers.map λr=>eW (cQ (aA M) (nG M (aA M) bs) (je M (aA M) cs) (aA M).gates.length) (cE (aA M).nexts r.1))=(aA M).keepers.map λr=>bw ((M.keepers.map (·.1)).zip (iu M bs cs)) r.1
   refine aaW λr hr=>?_
   obtain⟨h1,h2⟩:=aaF.mp hr
   have hk:r.1∈kn M:=aai.mpr ⟨r,h1,rfl⟩
   rw[xE ok h1,Cv ok (ok.j4 hk) h2]
   exact Eo ok hb hc h (ok.yF (ok.j4 hk))
end
noncomputable abbrev FU:Stmt:=top 39
noncomputable abbrev Lb:Stmt:=top 42
noncomputable abbrev Lc:Stmt:=top 40
noncomputable def uv:Sp:=λvs H Q _=>∃(d:Addr) (vv:List (Str×OB)) (z:Str),vs=[.ref d,.str z]/\Rd H d (.dK (aU vv))/\Lit (vv.map (·.1)) z/\(∀x∈vv.map (·.1),aT x)/\∀H',ah H H'->Q (oV (bH vv z)) H'
noncomputable def xT:Sp:=λvs H Q _=>∃(d:Addr) (M:ay) (names:List Str) (z:Str),vs=[.ref d,.str z]/\Rd H d (.dK (aU (bN M (cK M))))/\az M names/\Lit names z/\∀H',ah H H'->Q (.str (cZ (ba M) z)) H'
section
variable {P:Program}{w:World}{K:W.Frag}{mg:Str->Option Value}{base:Heap}{C:Addr}
theorem Jh:aK ["_law_values_here", "_law_literal_here", "_law_bit_here"] ["_law_values_here", "_law_literal_here"] (aw FU):=fs
theorem Ol{f:Addr}{fd:FuncData}(F:aO K "_law_open" "_law_open" FU f fd)(O:gw mg):ly P w K mg base aY 1 f fd ["_law_values_here", "_law_literal_here"] uv:=by
 refine F.Ir Jh (λcdv A outer s H vs Q E hr h=>?_)
 obtain⟨d,vv,z,rfl,hd,hz,hn,kk⟩:=h
 have hu:=dY hr
 have tl:("~" : Str)=⟨#[126]⟩:=by decide+kernel
 refine⟨_,(cf (PS.t (cP (bg iR (pv 1) (cx (aa av (aa av ag))) (by with_unfolding_all rfl))
  (au (aI (aJ oB (by rfl) O.int acD (aa (pv 1) ag)))) bh))
  (cf (qw (i:=2) Jh.nd rfl (by first|exact Or.inl rfl|exact Or.inr rfl) (IV hu (pv 0) (Fq (by decide+kernel) (pv 1)) (λ_ _=>rfl)))
  (gj.t (aj (cP (PW.pt (oO (hW (my (pv 2))) (pY (bg Ez (aN kQ (pv 1) ak (λ_ _=>rfl)) av (cp _)))))
   (au (aI (pv 2))) bh)
  (au (aI (aB nZ ak (pv 2)))))))),?_⟩
 try dsimp only[i7]
 refine⟨_,rfl,(by show 2<=sizeLine;decide),λt ht=>?_⟩
 have st:ah H (upd H t (.tup [.str "0",.str "1"])):=ah.ao ht
 have qt:(upd H t (.tup [.str "0",.str "1"])) t=some (.tup [.str "0",.str "1"]):=af
 generalize upd H t (.tup [.str "0",.str "1"])=H1 at st qt ⊢
 have k0:=kk _ st
 refine⟨t,_,rfl,.inr (aM.of qt),rfl,rfl,_,rfl,?_⟩
 show if iQ (.str z) [.str "0",.str "1"]=true then _ else _
 by_cases e0:z = "0"
 . subst e0
   rw[qH]at k0
   rw[show iQ (V.str "0") [.str "0",.str "1"]=true from by decide+kernel]
   exact dm ⟨_,rfl, "0",0,rfl,by decide+kernel,by decide+kernel,k0⟩
 by_cases e1:z = "1"
 . subst e1
   rw[qI]at k0
   rw[show iQ (V.str "1") [.str "0",.str "1"]=true from by decide+kernel]
   exact dm ⟨_,rfl, "1",1,rfl,by decide+kernel,by decide+kernel,k0⟩
 rw[Kx e0 e1]
 refine bu ?_
 have hm:=uK hz hn (xD hz hn e0 e1)
 have zl:=hz.len hn
 refine⟨_,rfl,_,rfl,z,rfl,by lia,by decide,d,_,rfl,by rw[KW hz hn];exact jy (yB st hd) hm,?_⟩
 refine⟨_,rfl,_,rfl,?_⟩
 rw[lB]
 unfold bH at k0
 rw[aay e0,aay e1]at k0
 cases e:aF vv (bY z) with
 | none=>
  rw[e,Option.map_none,ite_self]at k0
  exact dm (dm ⟨_,rfl,k0⟩)
 | some b=>
  rw[e]at k0
  have hlen:0<z.cps.toList.length:=by
   rcases hz with rfl|rfl|⟨x,hx,rfl|rfl⟩
   . exact absurd rfl e0
   . exact absurd rfl e1
   . exact(hn _ hx).1
   . rw[fK];simp
  obtain⟨c,hc⟩:∃c,z.cps.toList[0]?=some c:=⟨_,aae hlen⟩
  refine bu ⟨_,rfl,z,0,c,rfl,rfl,by show z.length<=sizeLine;exact aap zl (by decide),gy (j:=0) hc,rfl,_,rfl,?_⟩
  have ec:decide (V.str ⟨#[c]⟩=V.str "~")=pw z:=by
   unfold pw
   rw[hc,tl,abx,aaV,aaV]
   constructor
   . intro q
     injection q with q
     have e2:=congrArg (λs:Str=>s.cps.toList) q
     simpa using e2
   . intro q
     rw[aaA q]
  show if (!decide (V.str ⟨#[c]⟩=V.str "~"))=true then _ else _
  rw[ec]
  cases ht:pw z with
  | false=>
   rw[ht,aay aat]at k0
   exact dm ⟨_,rfl,k0⟩
  | true=>
   rw[ht,aaI rfl]at k0
   exact bu ⟨_,rfl,_,_,rfl,rfl,k0⟩
theorem MG:aK ["_law_values_here", "_law_literal_here", "_law_bit_here"] ["_law_values_here", "_law_literal_here"] (aw Lb):=fs
theorem RK{f fO:Addr}{fd dO:FuncData}(F:aO K "_law_led" "_law_led" Lb f fd)(O:gw mg)(CO:l8 P w K mg base 1 fO dO "_law_open" ["_law_values_here", "_law_literal_here"] uv):ly P w K mg base aY 2 f fd ["_law_values_here", "_law_literal_here"] xT:=by
 refine F.Ir MG (λcdv A outer s H vs Q E hr h=>?_)
 obtain⟨d,M,names,z,rfl,hd,ok,hz,kk⟩:=h
 have hu:=dY hr
 refine⟨_,(cf (qw (i:=2) MG.nd rfl (by first|exact Or.inl rfl|exact Or.inr rfl) (gE CO hr (aa (pv 0) (aa (pv 1) ag))))
  (gj.t (au (aI (jX (hW (my (pv 2))) (pv 1) (aJ sF (by rfl) O.str aeO (aa (pv 2) ag))))))),?_⟩
 try dsimp only[i7]
 have hk:=km ok (gh M)
 refine⟨_,rfl,_,rfl,d,_,z,rfl,hd,by rw[hk];exact hz,by rw[hk];exact ok.nm,λH1 s1=>?_⟩
 have k0:=kk _ s1
 refine⟨_,rfl,_,rfl,?_⟩
 rw[lB]
 rcases uu ok hz with⟨e1,e2,_⟩|⟨e1,e2⟩|⟨e1,e2⟩ <;> rw[e2]at k0 <;> rw[e1]
 . exact dm ⟨_,rfl,k0⟩
 . rw[← Cq]at k0
   exact bu ⟨_,rfl,0,rfl,by decide,k0⟩
 . rw[← Cr]at k0
   exact bu ⟨_,rfl,1,rfl,by decide,k0⟩
end
noncomputable def FV:Sp:=λvs H Q _=>∃(m a1 a2 a3 a4 a5 a6 b:Addr) (M:ay) (names:List Str) (os:List OB),vs=[.ref m,.ref b]/\cb H m M a1 a2 a3 a4 a5 a6/\az M names/\jw M/\H b=some (.dK (aU ((kn M).zip os)))/\M.keepers.length=os.length/\(∀o∈os,BO o)/\
 ∀d H',ah H H'->H d=none->H' d=some (.dK (aU (bN M os)))->Q (.ref d) H'
theorem RL{n:Str}{v:OB}{l:List (Str×OB)}(h:n∈l.map (·.1)):putK (aU l) (.inr n) (oV v)=aU (l.map λr=>if r.1=n then (r.1,v) else r):=by
 unfold putK aU
 obtain⟨r,hr,e⟩:=aai.mp h
 rw[aaI (acO.mpr ⟨(.inr r.1,oV r.2),aai.mpr ⟨r,hr,rfl⟩,aaT (by rw[e])⟩)]
 rw[aau,aau]
 refine aaW λq _=>?_
 show (if (Sum.inr q.1:Key)=.inr n then ((.inr q.1:Key),oV v) else (.inr q.1,oV q.2))=(λr:Str×OB=>((.inr r.1:Key),oV r.2)) (if q.1=n then (q.1,v) else q)
 by_cases e:q.1=n
 . rw[aaI (by rw[e]),aaI e]
 . rw[aay λz=>e (acm z),aay e]
theorem Le{n:Str}{u v:OB}{l:List (Str×OB)}(h:n∉l.map (·.1)):putK (aU (l++[(n,u)])) (.inr n) (oV v)=aU (l++[(n,v)]):=by
 rw[RL (by rw[aaf];simp),aaf]
 congr 2
 . conv=>rhs;rw[← abL l]
   exact aaW λr hr=>aay λe=>h (aai.mpr ⟨r,hr,e⟩)
 . rw[List.map_singleton,aaI rfl]
theorem mf{o:OB}(h:BO o):o=none\/o=some 0\/o=some 1:=by
 cases o with
 | none=>exact .inl rfl
 | some b=>rcases h b rfl with e|e <;> subst e <;> simp
theorem RM{a b:OB}(ha:BO a)(hb:BO b):iQ .aH [oV a,oV b]=(a.isNone || b.isNone):=by
 rcases mf ha with rfl|rfl|rfl <;> rcases mf hb with rfl|rfl|rfl <;> decide+kernel
theorem Om{a b:OB}(ha:BO a)(hb:BO b):iQ (.int 0) [oV a,oV b]=(decide (a=some 0) || decide (b=some 0)):=by
 rcases mf ha with rfl|rfl|rfl <;> rcases mf hb with rfl|rfl|rfl <;> decide+kernel
theorem Ji(a b:OB):([oV a,oV b]:List V).all kT=true:=by cases a <;> cases b <;> rfl
theorem RN{a b:OB}(ha:BO a)(hb:BO b):ma a b=if (decide (a=some 0) || decide (b=some 0))=true then some 0 else if (a.isNone || b.isNone)=true then none else some 1:=by
 rcases mf ha with rfl|rfl|rfl <;> rcases mf hb with rfl|rfl|rfl <;> decide+kernel
theorem RO{c:Bool}{σ:St}{J:Hp}{Q:VK}(h:Q (oV (if c=true then none else some 1)) J):if c=true then tC .aH σ J Q else tC (.int 1) σ J Q:=by cases c <;> exact h
section
variable {P:Program}{w:World}{K:W.Frag}{mg:Str->Option Value}{base:Heap}{C:Addr}
noncomputable abbrev Ym:List Str:=["_law_m", "_law_stand", "_law_values_here", "_law_name", "_law_first", "_law_one", "_law_other", "_law_bits"]
theorem pC:aK Ym ["_law_m", "_law_stand"] (aw Lc):=fs
theorem RP{f fO:Addr}{fd dO:FuncData}(F:aO K "_law_open_values" "_law_open_values" Lc f fd)(O:gw mg)(CO:l8 P w K mg base 1 fO dO "_law_open" ["_law_values_here", "_law_literal_here"] uv):ly P w K mg base aY 2 f fd ["_law_m", "_law_stand"] FV:=by
 refine F.Ir pC (λcdv A outer s H vs Q E hr h=>?_)
 obtain⟨m,a1,a2,a3,a4,a5,a6,b,M,names,os,rfl,hM,ok,fw,hb,hl,hbo,kk⟩:=h
 have hu:=dY hr
 refine⟨_,(cf (PS.t (dQ 2 pC.nd (aJ (bK rfl) (by rfl) O.dict aaC (aa (dZ (N:=["_law_name"]) (js:=[none]) (te:=(pF (eJ (cg 0) (eJ (tC .aH) n9)))) (by kernel_rfl) rfl (bf (aC hu (pv 0) av (λ_ _=>rfl))) (λ_ _ _ _ _ _=>(ar (i:=0) (show (["_law_name"]:List Str).Nodup from dk) rfl (Or.inl rfl) (.inr rfl))) (λ_ _ _ _ _ _=>bb) (λ_ _ _ _ _ _=>(cx (aa (pv 0) (aa ky ag))))) ag))))
  (cf (PS.t (df aaM rfl (bf (aC hu (pv 0) av (λ_ _=>rfl))) (cw rfl (ax (ar (i:=3) pC.nd rfl (Or.inl rfl)) (ax (ar (i:=4) pC.nd rfl (Or.inl rfl)) bF)))
   (au (eI hu (pv 2) (pv 3) (aC hu (pv 1) (pv 3) (λ_ _=>rfl)) rfl))))
  (cf (qx aaM rfl (bf (aC hu (pv 0) av (λ_ _=>rfl))) (cw rfl (ax (ar (i:=3) pC.nd rfl (Or.inl rfl)) (ax (ar (i:=5) pC.nd rfl (Or.inl rfl)) (ax (ar (i:=6) pC.nd rfl (Or.inl rfl)) bF))))
   (cf (qw (i:=7) pC.nd rfl (by first|exact Or.inl rfl|exact Or.inr rfl) (N8 (eZ (gE CO hr (aa (pv 2) (aa (pv 5) ag))) (eZ (gE CO hr (aa (pv 2) (aa (pv 6) ag))) (PA.tt ag)))))
   (gj.t (aj (eI hu (pv 2) (pv 3) (jX (bg iR ky (pv 7) (by with_unfolding_all rfl)) ky ak) rfl)
   (au (cP (bg iR ak (pv 7) (by with_unfolding_all rfl))
    (au (eI hu (pv 2) (pv 3) ak rfl)) bh))))))
  (gj.t (au (aI (pv 2))))))),?_⟩
 try dsimp only[i7]
 have nd:=ok.nd
 rw[ok.all]at nd
 have sd:M.switches.Nodup:=(aaB.mp (aaB.mp nd).1).1
 refine⟨_,rfl,m,.ref a1,rfl,a7.k (k:=.inr "switches") hM.top,a1,rfl,⟨_,aq.of hM.sw⟩,λD hD=>?_⟩
 refine jG (xs:=M.switches) (kp:=λ_=>true) (y:=λn=>.inr (.tup [.str n,.aH])) V.str (by have:=fw.n1;lia) hM.sw hD (λn hn H9 s9=>rw_yes λY hY=>?_) λH1 vs s1 bx p1=>?_
 . exact⟨_,rfl,by show 2<=sizeLine;decide,λT hT=>hY _ _ (ah.ao hT) (lZ hT)⟩
 rw[eX]at p1
 obtain⟨ns,rfl,pn⟩:=gg p1
 refine⟨D,ns,aU (M.switches.map λn=>(n,(none:OB))),rfl,bx,?_,λd hd=>?_⟩
 . unfold aU
   rw[aau]
   exact bE (Paired.bQ pn λt n z=>z.2)
 rw[show bA [] (aU (M.switches.map λn=>(n,(none:OB))))=aU (M.switches.map λn=>(n,(none:OB))) from um _ [] (by rw[abM,aau];exact(show (M.switches.map λn=>n).Nodup from by rw[List.map_id'];exact sd))]
 have s2:ah H1 (upd H1 d (.dK (aU (M.switches.map λn=>(n,(none:OB)))))):=ah.ao hd
 have q2:(upd H1 d (.dK (aU (M.switches.map λn=>(n,(none:OB)))))) d=some (.dK (aU (M.switches.map λn=>(n,(none:OB))))):=af
 have Hd:H d=none:=same_none s1 hd
 generalize upd H1 d (.dK (aU (M.switches.map λn=>(n,(none:OB)))))=H2 at s2 q2 ⊢
 have gc:=s1.trans s2
 obtain⟨t2,h2,p2⟩:=id hM.kp
 have nH:=f7 p2
 have l2:=nH.length
 have swk:(M.switches.map λn=>(n,(none:OB))).map (·.1)=M.switches:=by rw[aau,show ((λr:Str×OB=>r.1)∘λn=>(n,(none:OB)))=id from rfl,abL]
 have zk:=gH (M:=M) hl
 have zl:((kn M).zip os).length=M.keepers.length:=by rw[← aaa (f:=λr:Str×OB=>r.1),zk,aaa]
 refine⟨_,rfl,m,.ref a2,rfl,a7.k (k:=.inr "keepers") (hM.same gc).top,a2,rfl,⟨_,aq.of (gc _ _ h2)⟩,fo (xs:=t2.map V.ref) (λi σ Hi=>∃v3 v4,σ=[some (.ref m),some (.ref b),some (.ref d),v3,v4,none,none,none]/\ah H Hi/\Hi d=some (.dK (aU ((M.switches.map λn=>(n,(none:OB)))++((kn M).zip os).take i)))) ⟨none,none,rfl,gc,by rw[q2,aeT,abh]⟩ (λi σ Hi _ ⟨_,_,_,s,_⟩=>aq.of (s _ _ h2)) ?_ ?_⟩
 . rintro i v σ Hi hv ⟨v3,v4,rfl,si,kb⟩
   rw[aal]at hv
   cases ht:t2[i]? with
   | none=>rw[ht]at hv;cases hv
   | some t=>
    rw[ht]at hv
    cases hv
    have ug:i<M.keepers.length:=by have:=(aaq.mp ht).1;lia
    have eF:M.keepers[i]?=some M.keepers[i]:=aae ug
    obtain⟨t',fk,dq⟩:=gd nH eF
    rw[ht]at fk
    cases fk
    generalize Aa:M.keepers[i]=r at eF dq
    have Cy:(kn M)[i]?=some r.1:=by rw[aal,eF];rfl
    have hz:((kn M).zip os)[i]?=some (r.1,os[i]'(by lia)):=by
     rw[List.getElem?_zip_eq_some]
     exact⟨Cy,aae _⟩
    generalize os[i]'(by lia)=o at hz
    have xR:r.1∈kn M:=aaN Cy
    have Vj:aF ((kn M).zip os) r.1=o:=oK (l:=(kn M).zip os) (by rw[zk];exact ok.kd) (r:=(r.1,o)) (aaN hz)
    refine⟨t,_,rfl,aM.of (si _ _ dq),rfl,_,_,rfl,_,_,rfl,rfl,?_⟩
    have dg:=jy (.inl (si _ _ hb)) (by rw[zk];exact xR)
    rw[Vj]at dg
    have ll:(aU ((M.switches.map λn=>(n,(none:OB)))++((kn M).zip os).take i)).length<=200:=by
     unfold aU
     simp only[aaa,aaj,aaO]
     have:=fw.n1
     have:=fw.n2
     lia
    refine⟨_,rfl,_,rfl,b,_,rfl,dg,_,rfl,_,rfl,d,_,rfl,fE.k (k:=.inr r.1) kb (small (by lia)),_,_,rfl,λb' o fq=>?_,?_⟩
    . rw[ai (ae fq Hd)]
      exact si _ _ fq
    . have fr:r.1∉((M.switches.map λn=>(n,(none:OB)))++((kn M).zip os).take i).map (·.1):=by
       rw[aaf,swk,abO,zk]
       intro q
       rcases aag.mp q with q|q
       . exact ok.ks xR q
       . exact nP ok.kd Cy q
      rw[af,yM fr,abb,hz,abl]
      rfl
 rintro σ H3 ⟨v3,v4,rfl,s3,lJ⟩
 rw[aaa,l2,← zl,aaH]at lJ
 have Ko:H3 d=some (.dK (aU (gx M os 0))):=lJ
 obtain⟨t3,h3,p3⟩:=id hM.gt
 have Ae:=f7 p3
 have l3:=Ae.length
 refine⟨_,rfl,m,.ref a3,rfl,a7.k (k:=.inr "gates") (hM.same s3).top,a3,rfl,⟨_,aq.of (s3 _ _ h3)⟩,fo (xs:=t3.map V.ref) (λi σ Hi=>∃v3 v4 v5 v6 v7,σ=[some (.ref m),some (.ref b),some (.ref d),v3,v4,v5,v6,v7]/\ah H Hi/\Hi d=some (.dK (aU (gx M os i)))) ⟨_,_,_,_,_,rfl,s3,Ko⟩ (λi σ Hi _ ⟨_,_,_,_,_,_,s,_⟩=>aq.of (s _ _ h3)) ?_ ?_⟩
 . rintro i v σ Hi hv ⟨v3,v4,v5,v6,v7,rfl,si,kb⟩
   rw[aal]at hv
   cases ht:t3[i]? with
   | none=>rw[ht]at hv;cases hv
   | some t=>
    rw[ht]at hv
    cases hv
    have ug:i<M.gates.length:=by have:=(aaq.mp ht).1;lia
    have eF:M.gates[i]?=some M.gates[i]:=aae ug
    obtain⟨t',fk,dq⟩:=gd Ae eF
    rw[ht]at fk
    cases fk
    have Ab:=xP (M:=M) (vs:=os) ug
    generalize Aa:M.gates[i]=r at eF dq Ab
    obtain⟨Rt,Ru⟩:=ok.gl i r eF
    have hk:=rK (M:=M) hl i
    have sub:∀y∈M.switches++M.keepers.map (·.1)++(M.gates.take i).map (·.1),aT y:=λy hy=>ok.nm y (mZ ok y hy)
    have uk:(M.gates.map (·.1))[i]?=some r.1:=by rw[aal,eF];rfl
    have fresh:r.1∉(gx M os i).map (·.1):=by
     rw[hk]
     have:=nP (i:=(M.switches++M.keepers.map (·.1)).length+i) nd (x:=r.1) (by rw[abq (by lia),acv];exact uk)
     rw[List.take_append,aa2 (by lia),acv]at this
     rw[abO]
     exact this
    have vb:∀q∈gx M os i,BO q.2:=by
     refine yQ _ λq hq=>?_
     rcases aag.mp hq with z|z
     . obtain⟨n,_,rfl⟩:=aai.mp z
       exact BO.aH
     . exact hbo _ (abE z).2
    generalize gx M os i=V at hk fresh Ab kb vb
    have b1:=Ja vb r.2.1
    have b2:=Ja vb r.2.2
    refine⟨t,_,rfl,aM.of (si _ _ dq),rfl,_,_,rfl,_,_,rfl,_,_,rfl,rfl,?_⟩
    refine⟨_,rfl,_,rfl,d,V,r.2.1,rfl,.inl kb,by rw[hk];exact Rt,by rw[hk];exact sub,λJ1 w1=>⟨_,rfl,_,rfl,d,V,r.2.2,rfl,.inl (w1 _ _ kb),by rw[hk];exact Ru,by rw[hk];exact sub,λJ2 w2=>⟨by show 2<=sizeLine;decide,λL hL=>?_⟩⟩⟩
    have w3:ah J2 (upd J2 L (.lst [oV (bH V r.2.1),oV (bH V r.2.2)])):=ah.ao hL
    have qL:(upd J2 L (.lst [oV (bH V r.2.1),oV (bH V r.2.2)])) L=some (.lst [oV (bH V r.2.1),oV (bH V r.2.2)]):=af
    generalize upd J2 L (.lst [oV (bH V r.2.1),oV (bH V r.2.2)])=J3 at w3 qL ⊢
    have Wg:=(w1.trans w2).trans w3
    have lJ:=Wg _ _ kb
    have Ld:L≠d:=λe=>by rw[e,lJ]at qL;cases qL
    have Cz:=RN b1 b2
    rw[show cW V r=V++[(r.1,ma (bH V r.2.1) (bH V r.2.2))] from rfl]at Ab
    have hV:V.length<=200:=by
     rw[← aaa (f:=λr:Str×OB=>r.1),hk]
     simp only[aaj,aaa,aaO]
     have:=fw.n1
     have:=fw.n2
     have:=fw.n3
     lia
    have kl:∀W:List (Str×OB),(aU W).length=W.length:=λW=>aaa _
    generalize bH V r.2.1=a at *
    generalize bH V r.2.2=b' at *
    refine⟨_,rfl,L,_,rfl,.inl (aq.of qL),rfl,Ji _ _,_,rfl,?_⟩
    show if iQ .aH [oV a,oV b']=true then _ else _
    rw[RM b1 b2]
    generalize (a.isNone || b'.isNone)=c at Cz ⊢
    refine RO ?_
    generalize (if c=true then none else some 1:OB)=v1 at Cz ⊢
    refine⟨_,rfl,_,rfl,d,_,rfl,fE.k (k:=.inr r.1) lJ (small (by rw[kl];lia)),?_⟩
    rw[yM fresh]
    have k4:aL J3 (upd J3 d (.dK (aU (V++[(r.1,v1)])))) d:=λb o hb hn=>by rw[ai hn];exact hb
    have q4:(upd J3 d (.dK (aU (V++[(r.1,v1)])))) d=some (.dK (aU (V++[(r.1,v1)]))):=af
    generalize upd J3 d (.dK (aU (V++[(r.1,v1)])))=J4 at k4 q4 ⊢
    have lz:ah H J4:=λb o hb=>k4 _ _ (Wg _ _ (si _ _ hb)) (ae hb Hd)
    refine⟨_,rfl,L,_,rfl,.inl (aq.of (k4 _ _ qL Ld)),rfl,Ji _ _,_,rfl,?_⟩
    show if iQ (.int 0) [oV a,oV b']=true then _ else _
    rw[Om b1 b2]
    generalize (decide (a=some 0) || decide (b'=some 0))=z at Cz ⊢
    cases z with
    | false=>
     rw[aay aat]at Cz
     refine bu ⟨_,_,_,_,_,rfl,lz,?_⟩
     rw[q4,Ab,Cz]
    | true=>
     rw[aaI rfl]at Cz
     refine dm ⟨_,rfl,_,rfl,d,_,rfl,fE.k (k:=.inr r.1) q4 (small (by rw[kl,aaj,aaK];lia)),_,_,_,_,_,rfl,λb o hb=>?_,?_⟩
     . rw[ai (ae hb Hd)]
       exact lz _ _ hb
     . rw[af,Ab,Cz,show (.int 0:L2.V)=oV (some 0) from rfl,Le fresh]
 . rintro σ Hi ⟨v3,v4,v5,v6,v7,rfl,si,kb⟩
   rw[aaa,l3]at kb
   exact⟨_,rfl,kk d Hi si Hd kb⟩
end
noncomputable abbrev Lf:Stmt:=top 41
noncomputable def FW:Sp:=λvs H Q _=>∃(m a1 a2 a3 a4 a5 a6:Addr) (M:ay) (names:List Str),vs=[.ref m]/\cb H m M a1 a2 a3 a4 a5 a6/\az M names/\jw M/\
 ∀d H',ah H H'->H' d=some (.dK (aU (bN M (cK M))))->Q (.ref d) H'
theorem Af{a:List Str}{n:Str}(h:n∉a):∀{l:List (Str×OB)},aF (l.map λr=>if r.1∈a then (r.1,(none:OB)) else r) n=aF l n
 | []=>rfl
 | r::l=>by
  rw[aas]
  unfold aF
  by_cases e:r.1=n
  . rw[aay (by rw[e];exact h),aaD (by simpa using e),aaD (by simpa using e)]
  . rw[aaz (a:=if r.1∈a then (r.1,(none:OB)) else r) (p:=λq:Str×OB=>decide (q.1=n)) (by split <;> simpa using e),aaz (by simpa using e)]
    exact Af h
section
variable {P:Program}{w:World}{K:W.Frag}{mg:Str->Option Value}{base:Heap}{C:Addr}
noncomputable abbrev Yn:List Str:=["_law_m", "_law_stand", "_law_k", "_law_values_here", "_law_name", "_law_literal_here"]
theorem uR:aK Yn ["_law_m"] (aw Lf):=fs
theorem RQ{f fO fV fN:Addr}{fd dO dV dN:FuncData}(F:aO K "_law_settled" "_law_settled" Lf f fd)(O:Own mg)(O2:gw mg)(CO:l8 P w K mg base 1 fO dO "_law_open" ["_law_values_here", "_law_literal_here"] uv)(CV:l8 P w K mg base 2 fV dV "_law_open_values" ["_law_m", "_law_stand"] FV)
 (CN:cc P w K mg base 1 fN dN "_law_next_literals" ["_law_m"] Ar):ly P w K mg base aY 3 f fd ["_law_m"] FW:=by
 refine F.Ir uR (λcdv A outer s H vs Q E hr h=>?_)
 obtain⟨m,a1,a2,a3,a4,a5,a6,M,names,rfl,hM,ok,fw,kk⟩:=h
 have hu:=dY hr
 have ef:aW 1 (A.deeper _):=hr.mono (by decide)
 refine⟨_,(cf (PS.t (dQ 1 uR.nd (aJ (bK rfl) (by rfl) O2.dict aaC (aa (aC hu (pv 0) av (λ_ _=>rfl)) ag))))
  (cf (qx aaM rfl (dU rfl O.range (aa (aB eP (eR GJ (by rfl) O.len abI (aa (pv 1) ag)) ak) ag)) (ar (i:=2) uR.nd rfl (Or.inl rfl))
   (cf (qw (i:=3) uR.nd rfl (by first|exact Or.inl rfl|exact Or.inr rfl) (gE CV hr (aa (pv 0) (aa (pv 1) ag))))
   (j3 (qx aaM rfl (bf (aV CN ef (aa (pv 0) ag))) (cw rfl (ax (ar (i:=4) uR.nd rfl (Or.inl rfl)) (ax (ar (i:=5) uR.nd rfl (Or.inl rfl)) bF)))
    (j3 (Rn (Ee.pt (N9 (hW (pW (aC hu (pv 1) (pv 4) (λ_ _=>rfl)))) (KS (KR Ez (gE CO ef (aa (pv 3) (aa (pv 5) ag))) (aC hu (pv 1) (pv 4) (λ_ _=>rfl)) (cp _)))))
     (au (eI hu (pv 1) (pv 4) ky rfl)) bh))))))
  (j3 (DX (gE CV hr (aa (pv 0) (aa (pv 1) ag))))))),?_⟩
 try dsimp only[i7]
 obtain⟨t2,u2,v2⟩:=nT (h:=λr:Str×V=>((.inr r.1:Key),r.2)) (λ_=>rfl) hM.kp
 refine⟨_,rfl,m,.ref a2,rfl,a7.k (k:=.inr "keepers") hM.top,a2,t2,eV M.keepers,rfl,u2,v2,λb hb=>?_⟩
 rw[show bA [] (eV M.keepers)=aU ((kn M).zip (i8 M)) from(jv M.keepers [] ok.kd).trans (Co ok)]
 have s1:ah H (upd H b (.dK (aU ((kn M).zip (i8 M))))):=ah.ao hb
 have q1:(upd H b (.dK (aU ((kn M).zip (i8 M))))) b=some (.dK (aU ((kn M).zip (aP M 0)))):=af
 generalize upd H b (.dK (aU ((kn M).zip (i8 M))))=H1 at s1 q1 ⊢
 have Wh:∀j,(aU ((kn M).zip (aP M j))).length=M.keepers.length:=λj=>by
  unfold aU
  rw[aaa,← aaa (f:=λr:Str×OB=>r.1),gH (iz M j),aaa]
 have n2:=fw.n2
 refine⟨_,rfl,b,_,rfl,q1,_,_,rfl,rfl,?_⟩
 rw[Wh 0]
 refine⟨((M.keepers.length:Int)+1),rfl,by lia,by lia,?_⟩
 rw[show ((M.keepers.length:Int)+1).toNat=M.keepers.length+1 by lia]
 refine ia (n:=M.keepers.length+1) (λj σ Hi=>∃(v2 v3 v4 v5:Option V),σ=[some (.ref m),some (.ref b),v2,v3,v4,v5]/\ah H Hi/\Hi b=some (.dK (aU ((kn M).zip (aP M j))))) ⟨_,_,_,_,rfl,s1,q1⟩ ?_ ?_
 rotate_left
 . rintro σ Hi ⟨v2,v3,v4,v5,rfl,si,xQ⟩
   exact⟨_,rfl,_,rfl,m,a1,a2,a3,a4,a5,a6,b,M,names,cK M,rfl,hM.same si,ok,fw,xQ,gh M,Aw ok _,λd H2 s2 _ q2=>kk d H2 (si.trans s2) q2⟩
 rintro j σ Hi hj ⟨v2,v3,v4,v5,rfl,si,xQ⟩
 have hl:=iz M j
 have Ac:=gH (M:=M) hl
 refine⟨_,rfl,_,rfl,m,a1,a2,a3,a4,a5,a6,b,M,names,aP M j,rfl,hM.same si,ok,fw,xQ,hl,Aw ok j,λd H2 s2 hd q2=>?_⟩
 have gc:=si.trans s2
 refine⟨_,rfl,m,a1,a2,a3,a4,a5,a6,M,rfl,hM.same gc,fw,ok.nxd,λp H3 s3 hp=>?_⟩
 obtain⟨ts,kZ,pts⟩:=id hp
 have RR:=f7 pts
 have Wi:=RR.length
 rw[aaa]at Wi
 have iH:=gc.trans s3
 have mK:=s3 _ _ (s2 _ _ xQ)
 have lJ:=s3 _ _ q2
 have db:d≠b:=(ae xQ hd).symm
 have pb:p≠b:=λe=>by rw[e,mK]at kZ;cases kZ
 refine⟨p,rfl,⟨_,aq.of kZ⟩,fo (xs:=ts.map V.ref) (λi σ Hj=>∃(v4 v5:Option V),σ=[some (.ref m),some (.ref b),some (.int (0+(j:Int))),some (.ref d),v4,v5]/\aL H3 Hj b/\Hj b=some (.dK (aU (((kn M).zip (aP M j)).map λr=>if r.1∈((kn M).take i).filter (gb M (aP M j)) then (r.1,none) else r)))) ⟨_,_,rfl,λ_ _ h _=>h,?_⟩ (λi σ Hj _ ⟨_,_,_,q,_⟩=>aq.of (q _ _ kZ pb)) ?_ ?_⟩
 . rw[mK]
   congr 3
   conv=>lhs;rw[← abL ((kn M).zip (aP M j))]
   exact aaW λr _=>(aay (by simp)).symm
 . rintro i v σ Hj hv ⟨v4,v5,rfl,kj,pA⟩
   rw[aal]at hv
   cases ht:ts[i]? with
   | none=>rw[ht]at hv;cases hv
   | some t=>
    rw[ht]at hv
    cases hv
    have ug:i<M.keepers.length:=by have:=(aaq.mp ht).1;lia
    have eF:M.keepers[i]?=some M.keepers[i]:=aae ug
    generalize Aa:M.keepers[i]=r at eF
    obtain⟨t',fk,dq⟩:=gd RR (show (M.keepers.map (IE M))[i]?=some (IE M r) by rw[aal,eF];rfl)
    rw[ht]at fk
    cases fk
    have Cy:(kn M)[i]?=some r.1:=by rw[aal,eF];rfl
    have xR:r.1∈kn M:=aaN Cy
    have fr:r.1∉((kn M).take i).filter (gb M (aP M j)):=λq=>nP ok.kd Cy (aaF.mp q).1
    have tb:t≠b:=λe=>by rw[e,mK]at dq;cases dq
    have hdj:=kj _ _ lJ db
    have lk:aF (((kn M).zip (aP M j)).map λr=>if r.1∈((kn M).take i).filter (gb M (aP M j)) then (r.1,(none:OB)) else r) r.1=aF (bN M (aP M j)) r.1:=by rw[Af fr,yO ok hl xR]
    have tk:((kn M).take (i+1)).filter (gb M (aP M j))=((kn M).take i).filter (gb M (aP M j))++if gb M (aP M j) r.1=true then [r.1] else []:=by
     rw[abb,Cy,ab1,abd]
     congr 1
     by_cases e:gb M (aP M j) r.1=true
     . rw[aaI e,aaZ e];rfl
     . rw[aay e,aa1 e];rfl
    have RS:(((kn M).zip (aP M j)).map λr=>if r.1∈((kn M).take i).filter (gb M (aP M j)) then (r.1,(none:OB)) else r).map (·.1)=kn M:=by rw[keys_map,Ac]
    have Wj:∀{J:Hp}{v5:Option V},gb M (aP M j) r.1=false->aL Hj J b->J b=some (.dK (aU (((kn M).zip (aP M j)).map λr=>if r.1∈((kn M).take i).filter (gb M (aP M j)) then (r.1,none) else r)))->∃(w4 w5:Option V),[some (V.ref m),some (.ref b),some (.int (0+(j:Int))),some (.ref d),some (.str r.1),some (.str (cE M.nexts r.1))]=[some (.ref m),some (.ref b),some (.int (0+(j:Int))),some (.ref d),w4,w5]/\aL H3 J b/\J b=some (.dK (aU (((kn M).zip (aP M j)).map λr=>if r.1∈((kn M).take (i+1)).filter (gb M (aP M j)) then (r.1,none) else r))):=λ{J v5} e kJ hJ=>⟨_,_,rfl,λa o ha hn=>kJ _ _ (kj _ _ ha hn) hn,by rw[tk,e,aay aat,abh];exact hJ⟩
    have dg:∀{J:Hp},J b=some (.dK (aU (((kn M).zip (aP M j)).map λr=>if r.1∈((kn M).take i).filter (gb M (aP M j)) then (r.1,none) else r)))->a7 J b (.str r.1) (some (oV (aF (bN M (aP M j)) r.1))):=λhJ=>by
     have:=jy (.inl hJ) (by rw[RS];exact xR)
     rw[lk]at this
     exact this
    refine⟨t,_,rfl,aM.of (kj _ _ dq tb),rfl,_,_,rfl,_,_,rfl,rfl,?_⟩
    refine⟨_,rfl,_,rfl,b,_,rfl,dg pA,_,rfl,?_⟩
    rw[lB]
    cases e:aF (bN M (aP M j)) r.1 with
    | none=>exact bu (bu (Wj (v5:=none) (by unfold gb;rw[e];rfl) (λ_ _ h _=>h) pA))
    | some c=>
     refine dm ⟨_,rfl,_,rfl,d,_,_,rfl,.inl hdj,by rw[km ok hl];exact ok.yF (ok.j4 xR),by rw[km ok hl];exact ok.nm,λJ w=>⟨_,rfl,_,rfl,b,_,rfl,dg (w _ _ pA),?_⟩⟩
     rw[e]
     refine⟨qF,_,rfl,?_⟩
     rw[FO,← decide_not]
     have io:gb M (aP M j) r.1=decide (¬ bH (bN M (aP M j)) (cE M.nexts r.1)=some c):=by unfold gb;rw[e];rfl
     show if decide (¬ bH (bN M (aP M j)) (cE M.nexts r.1)=some c)=true then _ else _
     rw[← io]
     cases e2:gb M (aP M j) r.1 with
     | false=>exact bu (Wj (v5:=none) e2 (λ_ _ h _=>w _ _ h) (w _ _ pA))
     | true=>
      have ll:(aU (((kn M).zip (aP M j)).map λr=>if r.1∈((kn M).take i).filter (gb M (aP M j)) then (r.1,(none:OB)) else r)).length<=200:=by
       unfold aU
       rw[aaa,aaa]
       have:=Wh j
       unfold aU at this
       rw[aaa]at this
       lia
      refine dm ⟨_,rfl,_,rfl,b,_,rfl,fE.k (k:=.inr r.1) (w _ _ pA) (small (by lia)),_,_,rfl,λa o ha hn=>?_,?_⟩
      . rw[ai hn]
        exact w _ _ (kj _ _ ha hn)
      . rw[af,Cp (by rw[RS];exact xR),map_two,tk,e2,aaI rfl]
 . rintro σ Hj ⟨v4,v5,rfl,kj,pA⟩
   have e1:(kn M).take M.keepers.length=kn M:=by rw[← aaa (f:=λr:Str×V=>r.1),aaH]
   rw[aaa,Wi,e1]at pA
   have:=yP ok hl
   unfold nK at this
   rw[this]at pA
   exact⟨_,_,_,_,rfl,λa o ha=>kj _ _ (iH _ _ ha) (ae ha hb),pA⟩
end
noncomputable abbrev Lg:Stmt:=top 43
noncomputable def FX:Sp:=λvs H Q _=>∃(m a1 a2 a3 a4 a5 a6:Addr) (M:ay) (names:List Str),vs=[.ref m]/\cb H m M a1 a2 a3 a4 a5 a6/\az M names/\jw M/\
 ∀(tp dd nn b1 b2 b3 b4 b5 b6:Addr) (H':Hp),ah H H'->H' tp=some (.tup [.ref dd,.ref nn])->cb H' dd (aA M) b1 b2 b3 b4 b5 b6->aE H' nn ((bp M).map λn=>[.str n,.str (ba M n)])->Q (.ref tp) H'
theorem Lh{M:ay}{names:List Str}(ok:az M names){n:Str}(hn:n∈names):cZ (ba M) n=ba M n:=by
 have hN:=ok.nm n hn
 obtain⟨a,b,c⟩:=gB hN
 unfold cZ
 rw[aay (by simp[a,b]),aay c,fZ hN]
section
variable {P:Program}{w:World}{K:W.Frag}{mg:Str->Option Value}{base:Heap}{C:Addr}
noncomputable abbrev Yo:List Str:=["_law_m", "_law_values_here", "_law_due_here", "_law_name", "_law_one", "_law_other", "_law_field"]
theorem rL:aK Yo ["_law_m"] (aw Lg):=fs
theorem Oo{f fS fL fO:Addr}{fd dS dL dO:FuncData}(F:aO K "_law_due" "_law_due" Lg f fd)(O2:gw mg)(CS:l8 P w K mg base 3 fS dS "_law_settled" ["_law_m"] FW)(CL:l8 P w K mg base 2 fL dL "_law_led" ["_law_values_here", "_law_literal_here"] xT)
 (CO:cc P w K mg base 1 fO dO "_law_order" ["_law_m"] uM):ly P w K mg base aY 4 f fd ["_law_m"] FX:=by
 refine F.Ir rL (λcdv A outer s H vs Q E hr h=>?_)
 obtain⟨m,a1,a2,a3,a4,a5,a6,M,names,rfl,hM,ok,fw,kk⟩:=h
 have hu:=dY hr
 have gp:aW 2 (A.deeper _):=hr.mono (by decide)
 have ef:aW 1 (A.deeper _):=hr.mono (by decide)
 refine⟨_,(cf (qw (i:=1) rL.nd rfl (by first|exact Or.inl rfl|exact Or.inr rfl) (gE CS hr (aa (pv 0) ag)))
  (cf (PS.t (dQ 2 rL.nd (uA (eS av (aJ eT (by rfl) O2.list aa8 (aa (aC hu (pv 0) av (λ_ _=>rfl)) ag)) uz) rfl rfl (by simp) (by decide))))
  (cf (PS.t (eI hu (pv 2) av (dZ (N:=["_law_one", "_law_values_here"]) (js:=[none,some 1]) (te:=(cg 0)) (by kernel_rfl) rfl (bf (aC hu (pv 0) av (λ_ _=>rfl))) (λ_ _ _ _ _ _=>(ar (i:=0) (show (["_law_one", "_law_values_here"]:List Str).Nodup from dk) rfl (Or.inl rfl) (.inr rfl))) (λ_ _ _ _ _ _=>(jZ (hW (my (aC hu (pv 1) (aN (r:=eu K) cN (pv 0) ak (λ_ _=>rfl)) (λ_ _=>rfl)))))) (λ_ _ _ _ _ _=>(pv 0))) rfl))
  (cf (PS.t (eI hu (pv 2) av (cq ag) rfl))
  (cf (qx aaM rfl (bf (aC hu (pv 0) av (λ_ _=>rfl))) (cw rfl (ax (ar (i:=3) rL.nd rfl (Or.inl rfl)) (ax (ar (i:=4) rL.nd rfl (Or.inl rfl)) (ax (ar (i:=5) rL.nd rfl (Or.inl rfl)) bF))))
   (j3 (Oa (hW (my (aC hu (pv 1) (pv 3) (λ_ _=>rfl))))
    (j3 (KU (Ro aaJ aaQ aaR cJ (aC hu (pv 2) av (λ_ _=>rfl)) (eZ (qE (eZ (PE.t (pv 3)) (eZ (gE CL gp (aa (pv 1) (aa (pv 4) ag))) (eZ (gE CL gp (aa (pv 1) (aa (pv 5) ag))) (PA.tt ag))))) (PA.tt ag))))) (gj.t bh))))
  (cf (BL hu (pv 2) av (Ci (N:=["_law_name", "_law_one", "_law_values_here"]) (js:=[none,none,some 1]) (g:=ng K 2 (eO (cv 0) (eO (cv 1) m7))) (by kernel_rfl) rfl (bf (aC hu (pv 0) av (λ_ _=>rfl))) (λ_ _ _ _ _ _=>(cw rfl (ax (ar (i:=0) (show (["_law_name", "_law_one", "_law_values_here"]:List Str).Nodup from dk) rfl (Or.inl rfl) (.inr rfl)) (ax (ar (i:=1) (show (["_law_name", "_law_one", "_law_values_here"]:List Str).Nodup from dk) rfl (Or.inl rfl) (.inr rfl)) bF)))) (λ_ _ _ _ _ _=>(jZ (hW (my (aC hu (pv 2) (pv 0) (λ_ _=>rfl)))))) (λ_ _ _ _ _ _=>(qE (eZ (PE.t (pv 0)) (eZ (gE CL gp (aa (pv 2) (aa (pv 1) ag))) (PA.tt ag)))))) rfl)
  (cf (qx aaM rfl (bf (cq (aa av (aa av ag)))) (ar (i:=6) rL.nd rfl (Or.inl rfl))
   (j3 (BL hu (pv 2) (pv 6) (Ci (N:=["_law_wish", "_law_one", "_law_values_here"]) (js:=[none,none,some 1]) (g:=ng K 2 (eO (cv 0) (eO (cv 1) m7))) (by kernel_rfl) rfl (bf (aC hu (pv 0) (pv 6) (λ_ _=>rfl))) (λ_ _ _ _ _ _=>(cw rfl (ax (ar (i:=0) (show (["_law_wish", "_law_one", "_law_values_here"]:List Str).Nodup from dk) rfl (Or.inl rfl) (.inr rfl)) (ax (ar (i:=1) (show (["_law_wish", "_law_one", "_law_values_here"]:List Str).Nodup from dk) rfl (Or.inl rfl) (.inr rfl)) bF)))) (λ_ _ _ _ _ _=>bb) (λ_ _ _ _ _ _=>(qE (eZ (PE.t (pv 0)) (eZ (gE CL gp (aa (pv 2) (aa (pv 1) ag))) (PA.tt ag)))))) rfl)))
  (j3 (DX (qE (eZ (PE.t (pv 2)) (eZ (Ci (N:=["_law_name", "_law_values_here"]) (js:=[none,some 1]) (by kernel_rfl) rfl (bf (aV CO ef (aa (pv 0) ag))) (λ_ _ _ _ _ _=>(ar (i:=0) (show (["_law_name", "_law_values_here"]:List Str).Nodup from dk) rfl (Or.inl rfl) (.inr rfl))) (λ_ _ _ _ _ _=>bb) (λ_ _ _ _ _ _=>(qE (eZ (PE.t (pv 0)) (eZ (gE CL gp (aa (pv 1) (aa (pv 0) ag))) (PA.tt ag)))))) (PA.tt ag))))))))))))),?_⟩
 try dsimp only[i7]
 refine⟨_,rfl,m,a1,a2,a3,a4,a5,a6,M,names,rfl,hM,ok,fw,λv H1 s1 q1=>?_⟩
 have fU:=hM.same s1
 have hk:=km ok (gh M)
 have dg:∀{J:Hp}{n:Str},ah H1 J->n∈names->a7 J v (.str n) (some (oV (lD M n))):=λsJ hn=>jy (.inl (sJ _ _ q1)) (by rw[hk];exact hn)
 intro d hd
 have s2:ah H1 (upd H1 d (.dK [])):=ah.ao hd
 have q2:(upd H1 d (.dK [])) d=some (.dK []):=af
 generalize upd H1 d (.dK [])=H2 at s2 q2 ⊢
 have jd:=fU.same s2
 refine⟨_,rfl,m,.ref a1,rfl,a7.k (k:=.inr "switches") jd.top,a1,_,rfl,.inl (aq.of jd.sw),λb1 Eh=>?_⟩
 have s3:ah H2 (upd H2 b1 (.lst (M.switches.map V.str))):=ah.ao Eh
 have lF:(upd H2 b1 (.lst (M.switches.map V.str))) b1=some (.lst (M.switches.map V.str)):=af
 generalize upd H2 b1 (.lst (M.switches.map V.str))=H3 at s3 lF ⊢
 have d3:=s3 _ _ q2
 refine⟨d3,[(.inr "switches",.ref b1)],rfl,(by show 1<=15;decide),?_⟩
 rw[show bA [] [((.inr "switches" : Key),V.ref b1)]=[((.inr "switches" : Key),V.ref b1)] from rfl]
 have k4:aL H3 (upd H3 d (.dK [((.inr "switches" : Key),V.ref b1)])) d:=λb o hb hn=>by rw[ai hn];exact hb
 have q4:(upd H3 d (.dK [((.inr "switches" : Key),V.ref b1)])) d=some (.dK [((.inr "switches" : Key),V.ref b1)]):=af
 generalize upd H3 d (.dK [((.inr "switches" : Key),V.ref b1)])=H4 at k4 q4 ⊢
 have vz:ah H1 H4:=λb o hb=>k4 _ _ (s3 _ _ (s2 _ _ hb)) (ae hb hd)
 have B3:H4 b1=some (.lst (M.switches.map V.str)):=k4 _ _ lF λe=>by rw[e,d3]at lF;cases lF
 have zX:=fU.same vz
 refine⟨_,rfl,m,.ref a2,rfl,a7.k (k:=.inr "keepers") zX.top,a2,rfl,?_⟩
 refine yK (λb2 oW=>Rp (p:=λr=>bj M r.1) zX.kp (by have:=fw.n2;lia) oW (λt r jU H9 s9 ht R hR=>?_) λH5 s5 gn=>?_) (id zX.kp).list
 . refine⟨_,rfl,_,rfl,t,_,0,_,rfl,rfl,aM.of ht,jt,v,_,rfl,dg (vz.trans s9) (ok.j4 (aai.mpr ⟨r,jU,rfl⟩)),?_⟩
   refine⟨_,rfl,?_⟩
   rw[lB]
   exact hR
 refine⟨_,rfl,d,_,rfl,fE.k (k:=.inr "keepers") (s5 _ _ q4) (by show 1<sizeLine;decide),?_⟩
 have k6:aL H5 (upd H5 d (.dK (putK [((.inr "switches" : Key),V.ref b1)] (.inr "keepers") (.ref b2)))) d:=λb o hb hn=>by rw[ai hn];exact hb
 have q6:(upd H5 d (.dK (putK [((.inr "switches" : Key),V.ref b1)] (.inr "keepers") (.ref b2)))) d=some (.dK [((.inr "switches" : Key),V.ref b1),(.inr "keepers",.ref b2)]):=af
 generalize upd H5 d (.dK (putK [((.inr "switches" : Key),V.ref b1)] (.inr "keepers") (.ref b2)))=H6 at k6 q6 ⊢
 have d5:=s5 _ _ q4
 have Wk:ah H1 H6:=λb o hb=>k6 _ _ (s5 _ _ (vz _ _ hb)) (ae hb hd)
 have tF:=gn.eE k6 d5
 have MH:H6 b1=some (.lst (M.switches.map V.str)):=k6 _ _ (s5 _ _ B3) λe=>by rw[e,q4]at B3;cases B3
 refine⟨by show 0<=sizeLine;decide,λb3 mK=>?_⟩
 have s7:ah H6 (upd H6 b3 (.lst [])):=ah.ao mK
 have g7:(upd H6 b3 (.lst [])) b3=some (.lst []):=af
 generalize upd H6 b3 (.lst [])=H7 at s7 g7 ⊢
 have d7:=s7 _ _ q6
 have RT:d≠b3:=ae q6 mK
 refine⟨_,rfl,d,_,rfl,fE.k (k:=.inr "gates") d7 (by show 2<sizeLine;decide),?_⟩
 have k8:aL H7 (upd H7 d (.dK (putK [((.inr "switches" : Key),V.ref b1),(.inr "keepers",.ref b2)] (.inr "gates") (.ref b3)))) d:=λb o hb hn=>by rw[ai hn];exact hb
 have q8:(upd H7 d (.dK (putK [((.inr "switches" : Key),V.ref b1),(.inr "keepers",.ref b2)] (.inr "gates") (.ref b3)))) d=some (.dK [((.inr "switches" : Key),V.ref b1),(.inr "keepers",.ref b2),(.inr "gates",.ref b3)]):=af
 generalize upd H7 d (.dK (putK [((.inr "switches" : Key),V.ref b1),(.inr "keepers",.ref b2)] (.inr "gates") (.ref b3)))=H8 at k8 q8 ⊢
 have Jj:ah H1 H8:=λb o hb=>k8 _ _ (s7 _ _ (Wk _ _ hb)) (ae hb hd)
 have zV:=(tF.same s7).eE k8 d7
 have g8:=k8 _ _ g7 (aav RT)
 have sw8:H8 b1=some (.lst (M.switches.map V.str)):=k8 _ _ (s7 _ _ MH) λe=>by rw[e,q6]at MH;cases MH
 have RU:H1 b3=none:=same_none Wk mK
 obtain⟨t3,h3,p3⟩:=id fU.gt
 have Ae:=f7 p3
 have l3:=Ae.length
 have gl:∀(i:Nat) (us:List Addr) (Hi:Hp),Paired (λt r=>Hi t=some (.tup (cy r))) us (((M.gates.take i).filter λr=>bj M r.1).map (eY (ba M)))->us.length<=100:=λi us Hi p=>by
  rw[p.length,aaa]
  refine aap (aba _ _) ?_
  rw[aaO]
  have:=fw.n3
  lia
 refine⟨_,rfl,m,.ref a3,rfl,a7.k (k:=.inr "gates") (fU.same Jj).top,a3,rfl,⟨_,aq.of (Jj _ _ h3)⟩,fo (xs:=t3.map V.ref) (λi σ Hi=>∃(v3 v4 v5:Option V) (us:List Addr),σ=[some (.ref m),some (.ref v),some (.ref d),v3,v4,v5,none]/\aL H8 Hi b3/\Hi b3=some (.lst (us.map V.ref))/\
  Paired (λt r=>Hi t=some (.tup (cy r))) us (((M.gates.take i).filter λr=>bj M r.1).map (eY (ba M)))) ⟨_,_,_,[],rfl,λ_ _ h _=>h,g8,.nil⟩ (λi σ Hi _ ⟨_,_,_,_,_,k,_⟩=>aq.of (k _ _ (Jj _ _ h3) (ae h3 RU))) ?_ ?_⟩
 . rintro i x σ Hi hv ⟨v3,v4,v5,us,rfl,ki,BY,pi⟩
   rw[aal]at hv
   cases ht:t3[i]? with
   | none=>rw[ht]at hv;cases hv
   | some t=>
    rw[ht]at hv
    cases hv
    obtain⟨r,eF⟩:∃r,M.gates[i]?=some r:=⟨_,aae (by have:=(aaq.mp ht).1;lia)⟩
    obtain⟨t',fk,dq⟩:=gd Ae eF
    rw[ht]at fk
    cases fk
    have lK:r∈M.gates:=aaN eF
    have MI:ah H1 Hi:=λb o hb=>ki _ _ (Jj _ _ hb) (ae hb RU)
    obtain⟨t1,t2⟩:=ok.FE lK
    refine⟨t,_,rfl,aM.of (MI _ _ dq),rfl,_,_,rfl,_,_,rfl,_,_,rfl,rfl,?_⟩
    refine⟨_,rfl,_,rfl,v,_,rfl,dg MI (ok.K7 lK),_,rfl,?_⟩
    rw[lB]
    have ft:=pq (p:=λr=>bj M r.1) (g:=eY (ba M)) eF
    show if bj M r.1=true then _ else _
    cases hs:bj M r.1 with
    | false=>
     refine bu ⟨_,_,_,us,rfl,ki,BY,?_⟩
     rw[ft,aay (by rw[hs];exact aat),abh]
     exact pi
    | true=>
     refine dm ⟨_,rfl,d,.ref b3,rfl,a7.k (k:=.inr "gates") (ki _ _ q8 RT),.inl ⟨rfl,_,aq.of BY⟩,_,rfl,_,rfl,_,rfl,v,M,names,r.2.1,rfl,.inl (MI _ _ q1),ok,t1,λJ4 w4=>⟨_,rfl,_,rfl,v,M,names,r.2.2,rfl,.inl (w4 _ _ (MI _ _ q1)),ok,t2,λJ5 w5=>⟨by show 3<=sizeLine;decide,λT hT=>?_⟩⟩⟩
     have w45:=w4.trans w5
     have er:([V.str r.1,.str (cZ (ba M) r.2.1),.str (cZ (ba M) r.2.2)]:List V)=cy (eY (ba M) r):=rfl
     rw[er]
     have t6:ah J5 (upd J5 T (.tup (cy (eY (ba M) r)))):=ah.ao hT
     have RV:(upd J5 T (.tup (cy (eY (ba M) r)))) T=some (.tup (cy (eY (ba M) r))):=af
     generalize upd J5 T (.tup (cy (eY (ba M) r)))=J6 at t6 RV ⊢
     have w6:=w45.trans t6
     have IA:=w6 _ _ BY
     have ul:=gl i us Hi pi
     refine⟨b3,_,_,rfl,rfl,IA,(by rw[aaa];exact small (by lia)),_,_,_,us++[T],rfl,λb u hb hn=>?_,?_,?_⟩
     . rw[ai hn]
       exact w6 _ _ (ki _ _ hb hn)
     . rw[af,aaf];rfl
     . rw[ft,aaI hs]
       have nt:∀{b:Addr}{o:List V},J6 b=some (.tup o)->b≠b3:=λhb e=>by rw[e,IA]at hb;cases hb
       refine abR (Paired.bQ pi λb r' e=>?_) ?_
       . have e':=w6 _ _ e
         rw[ai (nt e')]
         exact e'
       . rw[ai (nt RV)]
         exact RV
 rintro σ H9 ⟨v3,v4,v5,us,rfl,k9,hG9,pg⟩
 rw[aaa,l3,aaH]at pg
 have MJ:ah H1 H9:=λb o hb=>k9 _ _ (Jj _ _ hb) (ae hb RU)
 have q9:=k9 _ _ q8 RT
 have MK:aE H9 b3 ((aA M).gates.map cy):=⟨us,hG9,bE pg⟩
 have ll8:∀{b:Addr}{rs:List (List V)},aE H8 b rs->b≠b3->aE H9 b rs:=λh hn=>by
  obtain⟨ts,h1,h2⟩:=h
  exact⟨ts,k9 _ _ h1 hn,Paired.bQ h2 λt r e=>k9 _ _ e λq=>by rw[q,g8]at e;cases e⟩
 have RW:b1≠b3:=ae MH mK
 have ML:b2≠b3:=by obtain⟨_,z,_⟩:=id tF;exact ae z mK
 have RX:=k9 _ _ sw8 RW
 have MM:=ll8 zV ML
 have n3:∀{J:Hp}{T:Addr}{o:HO}{H9:Hp},ah H9 J->J T=none->oF H9 (upd J T o) (.ref T) (.inr o):=λw h=>⟨_,rfl,same_none w h,af⟩
 have row:∀{r:Str×Str}{H9:Hp}{Y:VK},ah H1 H9->Lit names r.2->(∀u H4,ah H9 H4->oF H9 H4 u (.inr (.tup (bq (fh (ba M) r))))->Y u H4)->pF (eJ (cg 0) (eJ (qP xT [] E0 (eJ (cg 2) (eJ (cg 1) n9))) n9)) (some (.str r.1)::some (.str r.2)::[some (.ref v)]) H9 Y:=λ{r H9 Y} s9 hz hY=>
  ⟨_,rfl,_,rfl,_,rfl,v,M,names,r.2,rfl,.inl (s9 _ _ q1),ok,hz,λJ wJ=>⟨by show 2<=sizeLine;decide,λT hT=>hY _ _ (wJ.trans (ah.ao hT)) (n3 wJ hT)⟩⟩
 have MN:=fU.same MJ
 obtain⟨t4,h4,p4⟩:=id MN.nx
 refine⟨_,rfl,m,.ref a4,rfl,a7.k (k:=.inr "nexts") MN.top,a4,rfl,⟨_,aq.of h4⟩,λb4 xj=>?_⟩
 refine Fw (xs:=M.nexts) (kp:=λr=>bj M r.1) (y:=λr=>.inr (.tup (bq (fh (ba M) r)))) (λr=>V.str r.1) (λr=>V.str r.2) (by have:=fw.n4;lia) h4 (f7 p4) xj (λr jU G sG=>?_) λI1 vs sI hDI pI=>?_
 . intro Z Y hZ hY
   refine⟨_,rfl,_,rfl,v,_,rfl,dg (MJ.trans sG) (ok.j4 (ok.nxk r jU)),_,rfl,?_⟩
   rw[lB]
   show if bj M r.1=true then _ else _
   cases hs:bj M r.1 with
   | false=>exact bu (hZ hs _ λ_ _ h=>h)
   | true=>exact dm (row (MJ.trans sG) (ok.nxl r jU) (hY hs))
 obtain⟨Wl,rfl,pn4⟩:=gg pI
 have nxI:aE I1 b4 ((aA M).nexts.map bq):=⟨Wl,hDI,by
  show Paired _ Wl (((M.nexts.filter λr=>bj M r.1).map (fh (ba M))).map bq)
  rw[aau]
  exact bE (F:=λt r=>I1 t=some (.tup r)) (Paired.bQ pn4 λt r z=>z.2)⟩
 have dI:=sI _ _ q9
 refine⟨_,rfl,d,_,rfl,fE.k (k:=.inr "nexts") dI (by show 3<sizeLine;decide),?_⟩
 have Ep:aL I1 (upd I1 d (.dK (putK [((.inr "switches" : Key),V.ref b1),(.inr "keepers",.ref b2),(.inr "gates",.ref b3)] (.inr "nexts") (.ref b4)))) d:=λb o hb hn=>by rw[ai hn];exact hb
 have Jk:(upd I1 d (.dK (putK [((.inr "switches" : Key),V.ref b1),(.inr "keepers",.ref b2),(.inr "gates",.ref b3)] (.inr "nexts") (.ref b4)))) d=some (.dK [((.inr "switches" : Key),V.ref b1),(.inr "keepers",.ref b2),(.inr "gates",.ref b3),(.inr "nexts",.ref b4)]):=af
 generalize upd I1 d (.dK (putK [((.inr "switches" : Key),V.ref b1),(.inr "keepers",.ref b2),(.inr "gates",.ref b3)] (.inr "nexts") (.ref b4)))=J at Ep Jk ⊢
 have s1J:ah H1 J:=λb o hb=>Ep _ _ (sI _ _ (MJ _ _ hb)) (ae hb hd)
 have kpJ:=(MM.same sI).eE Ep dI
 have gtJ:=(MK.same sI).eE Ep dI
 have nxJ:=nxI.eE Ep dI
 have swJ:J b1=some (.lst (M.switches.map V.str)):=Ep _ _ (sI _ _ RX) λe=>by rw[e,q9]at RX;cases RX
 refine⟨by show 2<=sizeLine;decide,λL hL=>?_⟩
 have rV:ah J (upd J L (.lst [.str "nevers",.str "somes"])):=ah.ao hL
 have xU:(upd J L (.lst [.str "nevers",.str "somes"])) L=some (.lst [.str "nevers",.str "somes"]):=af
 generalize upd J L (.lst [.str "nevers",.str "somes"])=J1 at rV xU ⊢
 have Er:=rV _ _ Jk
 have RY:=s1J.trans rV
 refine⟨L,rfl,⟨_,aq.of xU⟩,fo (xs:=[.str "nevers",.str "somes"]) (λi σ Hi=>∃(v3 v4 v5 u:Option V),σ=[some (.ref m),some (.ref v),some (.ref d),v3,v4,v5,u]/\aL J1 Hi d/\
  ((i=0/\Hi d=some (.dK [((.inr "switches" : Key),V.ref b1),(.inr "keepers",.ref b2),(.inr "gates",.ref b3),(.inr "nexts",.ref b4)]))\/
   (i=1/\∃b5,Hi d=some (.dK [((.inr "switches" : Key),V.ref b1),(.inr "keepers",.ref b2),(.inr "gates",.ref b3),(.inr "nexts",.ref b4),(.inr "nevers",.ref b5)])/\aE Hi b5 ((aA M).nevers.map bq))\/
   (i=2/\∃b5 b6,Hi d=some (.dK (bU b1 b2 b3 b4 b5 b6))/\aE Hi b5 ((aA M).nevers.map bq)/\aE Hi b6 ((aA M).somes.map bq)))) ⟨_,_,_,_,rfl,λ_ _ h _=>h,.inl ⟨rfl,Er⟩⟩ (λi σ Hi _ ⟨_,_,_,_,_,k,_⟩=>aq.of (k _ _ xU λe=>by rw[e,Er]at xU;cases xU)) ?_ ?_⟩
 . rintro i x σ Hi hv ⟨v3,v4,v5,u,rfl,ki,hi⟩
   have kH:ah H1 Hi:=λb o hb=>ki _ _ (RY _ _ hb) (ae hb hd)
   have vB:=fU.same kH
   have jf:∀{l:List (Str×Str)}{a5:Addr},aE Hi a5 (l.map bq)->(∀r∈l,Lit names r.2)->l.length<=8->∀(b5:Addr) (xk:Hi b5=none) (R:Hp->Prop),(∀G,ah Hi G->aE G b5 ((l.map (fh (ba M))).map bq)->R G)->(∃xs,aq K Hi a5 xs)/\∃W:Nat->Nat->St->Hp->Prop,(∃m,W 0 m (none::none::[some (.ref v)]) (upd Hi b5 (.lst [])))/\rT b5 (ng K 2 (eO (cv 0) (eO (cv 1) m7))) vL (pF (eJ (cg 0) (eJ (qP xT [] E0 (eJ (cg 2) (eJ (cg 1) n9))) n9))) (uV K a5) W R:=λ{l a5} hT hL' vc b5 xk R fin=>by
    obtain⟨tt,hh,pp⟩:=hT
    refine⟨⟨_,aq.of hh⟩,Fw (xs:=l) (kp:=λ_=>true) (y:=λr=>.inr (.tup (bq (fh (ba M) r)))) (λr=>V.str r.1) (λr=>V.str r.2) (by lia) hh (f7 pp) xk (λr jU G sG=>rw_yes λY hY=>row (kH.trans sG) (hL' r jU) hY) λG vs sG hDG pG=>?_⟩
    rw[eX]at pG
    obtain⟨nsG,rfl,pnG⟩:=gg pG
    refine fin G sG ⟨nsG,hDG,?_⟩
    rw[aau]
    exact bE (F:=λt r=>G t=some (.tup r)) (Paired.bQ pnG λt r z=>z.2)
   rcases hi with⟨rfl,di⟩|⟨rfl,b5,di,p5⟩|⟨rfl,_⟩
   . cases hv
     refine⟨_,rfl,_,rfl,m,.ref a5,rfl,a7.k (k:=.inr "nevers") vB.top,a5,rfl,?_⟩
     refine yK (λb5 xk=>jf vB.nv ok.nvw.lit fw.n5 b5 xk _ λG sG nvG=>?_) (id vB.nv).list
     refine⟨_,rfl,_,rfl,d,_,rfl,fE.k (k:=.inr "nevers") (sG _ _ di) (by show 4<sizeLine;decide),?_⟩
     have kG:aL G (upd G d (.dK (putK [((.inr "switches" : Key),V.ref b1),(.inr "keepers",.ref b2),(.inr "gates",.ref b3),(.inr "nexts",.ref b4)] (.inr "nevers") (.ref b5)))) d:=λb o hb hn=>by rw[ai hn];exact hb
     exact⟨_,_,_,_,rfl,λb o hb hn=>kG _ _ (sG _ _ (ki _ _ hb hn)) hn,.inr (.inl ⟨rfl,b5,af,nvG.eE kG (sG _ _ di)⟩)⟩
   . cases hv
     refine⟨_,rfl,_,rfl,m,.ref a6,rfl,a7.k (k:=.inr "somes") vB.top,a6,rfl,?_⟩
     refine yK (λb6 hb6=>jf vB.sm ok.smw.lit fw.n6 b6 hb6 _ λG sG smG=>?_) (id vB.sm).list
     refine⟨_,rfl,_,rfl,d,_,rfl,fE.k (k:=.inr "somes") (sG _ _ di) (by show 5<sizeLine;decide),?_⟩
     have kG:aL G (upd G d (.dK (putK [((.inr "switches" : Key),V.ref b1),(.inr "keepers",.ref b2),(.inr "gates",.ref b3),(.inr "nexts",.ref b4),(.inr "nevers",.ref b5)] (.inr "somes") (.ref b6)))) d:=λb o hb hn=>by rw[ai hn];exact hb
     exact⟨_,_,_,_,rfl,λb o hb hn=>kG _ _ (sG _ _ (ki _ _ hb hn)) hn,.inr (.inr ⟨rfl,b5,b6,af,(p5.same sG).eE kG (sG _ _ di),smG.eE kG (sG _ _ di)⟩)⟩
   . cases hv
 rintro σ J2 ⟨Wd,Mi,Ii,u,rfl,k2,hi⟩
 rcases hi with⟨e,_⟩|⟨e,_⟩|⟨_,b5,b6,d2,p5,p6⟩
 . cases e
 . cases e
 have Li:ah H1 J2:=λb o hb=>k2 _ _ (RY _ _ hb) (ae hb hd)
 have Yp:=fU.same Li
 have Yq:cb J2 d (aA M) b1 b2 b3 b4 b5 b6:=by
  refine⟨d2,?_,(kpJ.same rV).eE k2 Er,(gtJ.same rV).eE k2 Er,(nxJ.same rV).eE k2 Er,p5,p6⟩
  have:=rV _ _ swJ
  exact k2 _ _ this λe=>by rw[e,Er]at this;cases this
 refine⟨_,rfl,_,rfl,m,a1,a2,a3,a4,a5,a6,M,rfl,Yp,fw,λo J3 IH Wm=>?_⟩
 refine⟨o,rfl,⟨_,aq.of Wm⟩,λD hD=>?_⟩
 have jM:(bp M).length<=88:=by unfold bp;simp only[aaj,aaa];have:=fw.n1;have:=fw.n2;have:=fw.n3;lia
 refine jG (xs:=bp M) (kp:=λ_=>true) (y:=λn=>.inr (.tup [.str n,.str (ba M n)])) V.str (aap jM (by decide)) Wm hD (λn hn G sG=>rw_yes λY hY=>?_) λJ4 vs II bx xN=>?_
 . have rP:n∈names:=by rw[ok.all];exact hn
   refine⟨_,rfl,_,rfl,_,rfl,v,M,names,n,rfl,.inl (sG _ _ (IH _ _ (Li _ _ q1))),ok,.inr (.inr ⟨n,rP,.inl rfl⟩),λW wW=>?_⟩
   rw[Lh ok rP]
   exact⟨by show 2<=sizeLine;decide,λT hT=>hY _ _ (wW.trans (ah.ao hT)) (n3 wW hT)⟩
 rw[eX]at xN
 obtain⟨ns,rfl,pn⟩:=gg xN
 refine⟨by show 2<=sizeLine;decide,λtp tw=>?_⟩
 have Dy:=IH.trans II
 have B9:ah J4 (upd J4 tp (.tup [.ref d,.ref D])):=ah.ao tw
 exact kk tp d D b1 b2 b3 b4 b5 b6 _ (((s1.trans Li).trans Dy).trans B9) af (Yq.same (Dy.trans B9)) ⟨ns,B9 _ _ bx,bE (F:=λt r=>(upd J4 tp (.tup [.ref d,.ref D])) t=some (.tup r)) (Paired.bQ pn λt r z=>B9 _ _ z.2)⟩
end
noncomputable abbrev Lj:Stmt:=top 38
noncomputable def RZ(r r':Str×V):Prop:=r'.1=r.1/\(r'.2=.int 0\/r'.2=.int 1\/r'.2=.aH)
noncomputable def R0(g g':Str×Str×Str):Prop:=g'.1=g.1/\(g'.2.1=g.2.1\/g'.2.1 = "0")/\(g'.2.2=g.2.2\/g'.2.2 = "1")
noncomputable def Wn(x x':Str×Str):Prop:=x'.1=x.1/\(x'.2=x.2\/x'.2 = "0" \/ x'.2 = "1")
theorem uS{α:Type}{R:Str×α->Str×α->Prop}(hR:∀a b,R a b->b.1=a.1){l l':List (Str×α)}(h:Paired R l l'):l'.map (·.1)=l.map (·.1):=by
 induction h with
 | nil=>rfl
 | cons a _ ih=>rw[aas,aas,hR _ _ a,ih]
theorem rM{α β:Type}{R:α->β->Prop}{l:List α}{l':List β}(h:Paired R l l'){b:β}(hb:b∈l'):∃a∈l,R a b:=by
 induction h with
 | nil=>cases hb
 | cons a _ ih=>
  rcases aan.mp hb with e|e
  . exact⟨_,aaX,e ▸ a⟩
  . obtain⟨x,hx,r⟩:=ih e
    exact⟨x,aaL _ hx,r⟩
theorem uw{α:Type}{g:α->List V}{J:Hp}{S T:Addr}{us:List Addr}{ks:List α}{k:α}{xs:List V}{o:List V}{Hj:Hp}(w:ah Hj J) (hS:J S=some (.lst o)) (pu:Paired (λt r=>Hj t=some (.tup (g r))) us ks) (hT:J T=some (.tup (g k))):Paired (λt r=>(upd J S (.lst xs)) t=some (.tup (g r))) (us++[T]) (ks++[k]):=by
 have nt:∀{b:Addr}{o:List V},J b=some (.tup o)->b≠S:=λhb e=>by rw[e,hS]at hb;cases hb
 refine abR (Paired.bQ pu λb r e=>?_) ?_
 . have e':=w _ _ e
   rw[ai (nt e')]
   exact e'
 . rw[ai (nt hT)]
   exact hT
theorem Jl{M:ay}{names:List Str}(ok:az M names){ks:List (Str×V)}{gs:List (Str×Str×Str)}{xs:List (Str×Str)}(pk:Paired RZ M.keepers ks) (pg:Paired R0 M.gates gs) (px:Paired Wn M.nexts xs):az ⟨M.switches,ks,gs,xs,M.nevers,M.somes⟩ names:=by
 have ek:ks.map (·.1)=M.keepers.map (·.1):=uS (λ_ _ h=>h.1) pk
 have eg:∀i,(gs.take i).map (·.1)=(M.gates.take i).map (·.1):=λi=>uS (λ_ _ h=>h.1) (pM i pg)
 have eg':gs.map (·.1)=M.gates.map (·.1):=uS (λ_ _ h=>h.1) pg
 have ex:xs.map (·.1)=M.nexts.map (·.1):=uS (λ_ _ h=>h.1) px
 refine⟨?_,ok.nm,ok.nd,λr hr=>?_,λr hr=>?_,λr hr=>?_,?_,ok.nvw,ok.smw,λi r hr=>?_⟩
 . show names=M.switches++ks.map (·.1)++gs.map (·.1)
   rw[ek,eg',ok.all]
 . obtain⟨_,_,h⟩:=rM pk hr
   exact h.2
 . obtain⟨q,hq,h⟩:=rM px hr
   show r.1∈ks.map (·.1)
   rw[ek,h.1]
   exact ok.nxk q hq
 . obtain⟨q,hq,h⟩:=rM px hr
   rcases h.2 with e|e|e <;> rw[e]
   . exact ok.nxl q hq
   . exact .inl rfl
   . exact .inr (.inl rfl)
 . show (xs.map (·.1)).Nodup
   rw[ex]
   exact ok.nxd
 . show Lit (M.switches++ks.map (·.1)++(gs.take i).map (·.1)) r.2.1/\Lit (M.switches++ks.map (·.1)++(gs.take i).map (·.1)) r.2.2
   rw[ek,eg i]
   obtain⟨q,hq,h⟩:=gd pg (show gs[i]?=some r from hr)
   obtain⟨g1,g2⟩:=ok.gl i q hq
   refine⟨?_,?_⟩
   . rcases h.2.1 with e|e <;> rw[e]
     . exact g1
     . exact .inl rfl
   . rcases h.2.2 with e|e <;> rw[e]
     . exact g2
     . exact .inr (.inl rfl)
theorem UY{c:Bool}{t:TE}{σ:St}{J:Hp}{Q:VK}{u v:V}{i:Nat}(ht:∀Q:VK,Q u J->t σ J Q) (hσ:σ[i]?=some (some v)) (h:Q (if c=true then u else v) J):if c=true then t σ J Q else cg i σ J Q:=by
 cases c with
 | true=>exact ht _ h
 | false=>exact⟨_,hσ,h⟩
theorem MP{c:Bool}{σ:St}{J:Hp}{Q:VK}{u v:V}{i:Nat}(hσ:σ[i]?=some (some v)) (h:∀x,x=u\/x=v->Q x J):if c=true then tC u σ J Q else cg i σ J Q:=by
 cases c with
 | true=>exact h _ (.inl rfl)
 | false=>exact⟨_,hσ,h _ (.inr rfl)⟩
noncomputable def FY(K:W.Frag):Sp:=λvs H Q _=>∃(a m a1 a2 a3 a4 a5 a6:Addr) (ns:List Int) (M:ay) (names:List Str),vs=[.ref a,.ref m]/\aq K H a (ns.map V.int)/\cb H m M a1 a2 a3 a4 a5 a6/\az M names/\jw M/\
 ∀(m' b1 b2 b3 b4 b5 b6:Addr) (M':ay) (H':Hp),cb H' m' M' b1 b2 b3 b4 b5 b6->az M' names->jw M'->ah H H'->Q (.ref m') H'
section
variable {P:Program}{w:World}{K:W.Frag}{mg:Str->Option Value}{base:Heap}{C:Addr}
noncomputable abbrev Yr:List Str:=["_law_script", "_law_m", "_law_n", "_law_made_here", "_law_k", "_law_name", "_law_first", "_law_gates", "_law_one", "_law_other", "_law_some"]
theorem iZ:aK Yr ["_law_script", "_law_m"] (aw Lj):=fs
theorem R1{f fC fX:Addr}{fd dC dX:FuncData}(F:aO K "_law_closer" "_law_closer" Lj f fd)(O:Own mg)(O2:gw mg) (CC:cc P w K mg base 1 fC dC "_law_cell_at" ["_law_script", "_law_k"] (qi K)) (CX:cc P w K mg base 1 fX dX "_law_mix" ["_law_cell", "_law_k"] uC):aR P w K mg base aY 2 f fd ["_law_script", "_law_m"] (FY K):=by
 refine F.go iZ (λcdv A outer s H vs Q E hr h=>?_)
 obtain⟨a,m,a1,a2,a3,a4,a5,a6,ns,M,names,rfl,ha,hM,ok,fw,kk⟩:=h
 have hu:=dY hr
 refine⟨_,(aj (dQ 2 iZ.nd (aV CX hr (aa (aV CC hr (aa (pv 0) (aa ak ag))) (aa ak ag))))
  (aj (cP (bg iV (aB dE (pv 2) ak) ak (cp _))
   (au (aI (pv 1))) bh)
  (aj (dQ 3 iZ.nd (aJ gA (by rfl) O2.dict aaC (aa (pv 1) ag)))
  (aj (eI hu (pv 3) av (cq ag) rfl)
  (aj (df aaM rfl (lR (by rfl) O.enum (aa (aC hu (pv 1) av (λ_ _=>rfl)) ag)) (cw rfl (ax (ar (i:=4) iZ.nd rfl (Or.inl rfl)) (ax (cw rfl (ax (ar (i:=5) iZ.nd rfl (Or.inl rfl)) (ax (ar (i:=6) iZ.nd rfl (Or.inl rfl)) bF))) bF)))
   (au (dr (eU aaJ aaQ aaR cJ (aC hu (pv 3) av (λ_ _=>rfl)) (aa (cx (aa (pv 5) (aa (jX (hW (my (pv 6))) (aB dE (aB iO (pv 2) (aB eP (pv 4) ak)) ak) (pv 6)) ag))) ag)))))
  (aj (dQ 7 iZ.nd (cq ag))
  (aj (df aaM rfl (lR (by rfl) O.enum (aa (aC hu (pv 1) av (λ_ _=>rfl)) ag)) (cw rfl (ax (ar (i:=4) iZ.nd rfl (Or.inl rfl)) (ax (cw rfl (ax (ar (i:=5) iZ.nd rfl (Or.inl rfl)) (ax (ar (i:=8) iZ.nd rfl (Or.inl rfl)) (ax (ar (i:=9) iZ.nd rfl (Or.inl rfl)) bF)))) bF)))
   (aj (dQ 10 iZ.nd (aB dE (aB iO (pv 2) (aB eP (aB ji ak (pv 4)) ak)) ak))
   (au (dr (eU aaJ aaQ aaR cJ (pv 7) (aa (cx (aa (pv 5) (aa (jX (bg iV (pv 10) ak (cp _)) av (pv 8)) (aa (jX (bg iV (pv 10) ak (cp _)) av (pv 9)) ag)))) ag))))))
  (aj (eI hu (pv 3) av (pv 7) rfl)
  (aj (eI hu (pv 3) av (cq ag) rfl)
  (aj (df aaM rfl (lR (by rfl) O.enum (aa (aC hu (pv 1) av (λ_ _=>rfl)) ag)) (cw rfl (ax (ar (i:=4) iZ.nd rfl (Or.inl rfl)) (ax (cw rfl (ax (ar (i:=5) iZ.nd rfl (Or.inl rfl)) (ax (ar (i:=8) iZ.nd rfl (Or.inl rfl)) bF))) bF)))
   (au (dr (eU aaJ aaQ aaR cJ (aC hu (pv 3) av (λ_ _=>rfl)) (aa (cx (aa (pv 5) (aa (aN (r:=sO K) bT (cq (aa (pv 8) (aa (pv 8) (aa av (aa av ag))))) (aB dE (aB iO (pv 2) (aB eP (aB ji ak (pv 4)) ak)) ak) (λ_ _=>rfl)) ag))) ag)))))
  (au (aI (pv 3))))))))))))),?_⟩
 try dsimp only[i7]
 refine⟨_,rfl,a,ns,_,rfl,ha,by decide,λc=>⟨c,5,rfl,by decide,by decide,λn n0 n1=>?_⟩⟩
 refine⟨_,rfl,_,_,rfl,rfl,(by show (0:Int)<2;decide),rfl,_,rfl,?_⟩
 refine jN (λ_=>⟨_,rfl,kk m a1 a2 a3 a4 a5 a6 M H hM ok fw λ_ _ h=>h⟩) (λ_=>?_)
 refine⟨_,rfl,m,_,rfl,.inl hM.top,λmm MQ=>?_⟩
 have s1:ah H (upd H mm (.dK (bU a1 a2 a3 a4 a5 a6))):=ah.ao MQ
 have q1:(upd H mm (.dK (bU a1 a2 a3 a4 a5 a6))) mm=some (.dK (bU a1 a2 a3 a4 a5 a6)):=af
 generalize upd H mm (.dK (bU a1 a2 a3 a4 a5 a6))=H1 at s1 q1 ⊢
 refine⟨by show 0<=sizeLine;decide,λb2 oW=>?_⟩
 have s2:ah H1 (upd H1 b2 (.lst [])):=ah.ao oW
 have q2:(upd H1 b2 (.lst [])) b2=some (.lst (([]:List Addr).map V.ref)):=af
 generalize upd H1 b2 (.lst [])=H2 at s2 q2 ⊢
 have m2:=s2 _ _ q1
 have R3:mm≠b2:=ae q1 oW
 have R4:H b2=none:=same_none s1 oW
 refine⟨_,rfl,mm,_,rfl,fE.k (k:=.inr "keepers") m2 (by show 6<sizeLine;decide),?_⟩
 have k3:aL H2 (upd H2 mm (.dK (putK (bU a1 a2 a3 a4 a5 a6) (.inr "keepers") (.ref b2)))) mm:=λb o hb hn=>by rw[ai hn];exact hb
 have q3:(upd H2 mm (.dK (putK (bU a1 a2 a3 a4 a5 a6) (.inr "keepers") (.ref b2)))) mm=some (.dK (bU a1 b2 a3 a4 a5 a6)):=af
 generalize upd H2 mm (.dK (putK (bU a1 a2 a3 a4 a5 a6) (.inr "keepers") (.ref b2)))=H3 at k3 q3 ⊢
 have iH:ah H H3:=λb o hb=>k3 _ _ (s2 _ _ (s1 _ _ hb)) (ae hb MQ)
 have e3:=k3 _ _ q2 (aav R3)
 obtain⟨t2,h2,p2⟩:=id hM.kp
 have nH:=f7 p2
 have l2:=nH.length
 refine⟨_,rfl,m,.ref a2,rfl,a7.k (k:=.inr "keepers") (hM.same iH).top,a2,rfl,⟨_,aq.of (iH _ _ h2)⟩,rH (xs:=t2.map V.ref) (λj σ Hj=>∃(v4 v5 v6:Option V) (us:List Addr) (ks:List (Str×V)),σ=[some (.ref a),some (.ref m),some (.int n),some (.ref mm),v4,v5,v6,none,none,none,none]/\aL H3 Hj b2/\Hj b2=some (.lst (us.map V.ref))/\Paired (λt r=>Hj t=some (.tup (fg r))) us ks/\Paired RZ (M.keepers.take j) ks) ?_ ?_ ?_ ?_⟩
 . exact⟨_,_,_,[],[],rfl,λ_ _ h _=>h,e3,.nil,.nil⟩
 . rintro j σ Hj _ ⟨_,_,_,_,_,_,kj,_⟩
   exact aq.of (kj _ _ (iH _ _ h2) (ae h2 R4))
 . rintro j x T σ Hj hx hT ⟨v4,v5,v6,us,ks,rfl,kj,nI,pu,pk⟩
   rw[aal]at hx
   cases ht:t2[j]? with
   | none=>rw[ht]at hx;cases hx
   | some t=>
    rw[ht]at hx
    cases hx
    have xK:j<M.keepers.length:=by have:=(aaq.mp ht).1;lia
    have ju:M.keepers[j]?=some M.keepers[j]:=aae xK
    obtain⟨t',fk,dq⟩:=gd nH ju
    rw[ht]at fk
    cases fk
    generalize Aa:M.keepers[j]=r at ju dq
    have rJ:=kj _ _ (iH _ _ dq) (ae dq R4)
    have s4:ah Hj (upd Hj T (.tup [.int (j:Int),.ref t])):=ah.ao hT
    have q4:(upd Hj T (.tup [.int (j:Int),.ref t])) T=some (.tup [.int (j:Int),.ref t]):=af
    generalize upd Hj T (.tup [.int (j:Int),.ref t])=H4 at s4 q4 ⊢
    refine⟨T,_,rfl,aM.of q4,rfl,_,_,rfl,_,_,rfl,⟨t,_,rfl,aM.of (s4 _ _ rJ),rfl,_,_,rfl,_,_,rfl,rfl,rfl,?_⟩⟩
    refine⟨_,rfl,mm,.ref b2,rfl,a7.k (k:=.inr "keepers") (s4 _ _ (kj _ _ q3 R3)),.inl ⟨rfl,_,aq.of (s4 _ _ nI)⟩,_,rfl,_,rfl,_,rfl,?_⟩
    refine UY (u:=.int (n / ((j:Int)+2) % 2)) (v:=r.2) (i:=6) (λQ q=>?_) rfl ?_
    . exact⟨_,rfl,_,rfl,_,_,rfl,rfl,_,_,rfl,rfl,⟨by have:=fw.n2;omega,by have:=fw.n2;omega⟩,_,_,rfl,rfl,(by show (0:Int)<2;decide),q⟩
    have hx:RZ r (r.1,if decide (r.2=V.aH)=true then V.int (n / ((j:Int)+2) % 2) else r.2):=by
     refine⟨rfl,?_⟩
     by_cases e:r.2=V.aH
     . rw[aaT e,aaI rfl]
       rcases (show n / ((j:Int)+2) % 2=0\/n / ((j:Int)+2) % 2=1 by lia) with q|q <;> rw[q] <;> simp
     . rw[aaS e,aay aat]
       exact ok.first r (aaN ju)
    generalize (if decide (r.2=V.aH)=true then V.int (n / ((j:Int)+2) % 2) else r.2)=x at hx ⊢
    refine⟨by show 2<=sizeLine;decide,λU hU=>?_⟩
    have s5:ah H4 (upd H4 U (.tup [.str r.1,x])):=ah.ao hU
    have q5:(upd H4 U (.tup [.str r.1,x])) U=some (.tup (fg (r.1,x))):=af
    generalize upd H4 U (.tup [.str r.1,x])=H5 at s5 q5 ⊢
    have nF:=s4.trans s5
    have ul:=pu.length
    have kl:=pk.length
    rw[aaO]at kl
    have:=fw.n2
    refine⟨b2,_,_,rfl,rfl,nF _ _ nI,(by rw[aaa];exact small (by lia)),_,_,_,us++[U],ks++[(r.1,x)],rfl,λb' o fq hn=>?_,?_,uw nF (nF _ _ nI) pu q5,?_⟩
    . rw[ai hn]
      exact nF _ _ (kj _ _ fq hn)
    . rw[af,aaf];rfl
    . rw[abb,ju]
      exact abR pk hx
 rintro σ H6 ⟨v4,v5,v6,us2,ks,rfl,k6,hS6,pu2,pk⟩
 rw[aaa,l2,aaH]at pk
 have nE:ah H H6:=λb o hb=>k6 _ _ (iH _ _ hb) (ae hb R4)
 have q6:=k6 _ _ q3 R3
 have tF:aE H6 b2 (ks.map fg):=⟨us2,hS6,bE (F:=λt r=>H6 t=some (.tup r)) pu2⟩
 refine⟨by show 0<=sizeLine;decide,λb3 mK=>?_⟩
 have s7:ah H6 (upd H6 b3 (.lst [])):=ah.ao mK
 have q7:(upd H6 b3 (.lst [])) b3=some (.lst (([]:List Addr).map V.ref)):=af
 generalize upd H6 b3 (.lst [])=H7 at s7 q7 ⊢
 have vE:=nE.trans s7
 have R5:H b3=none:=same_none nE mK
 obtain⟨t3,h3,p3⟩:=id hM.gt
 have Ae:=f7 p3
 have l3:=Ae.length
 refine⟨_,rfl,m,.ref a3,rfl,a7.k (k:=.inr "gates") (hM.same vE).top,a3,rfl,⟨_,aq.of (vE _ _ h3)⟩,rH (xs:=t3.map V.ref) (λj σ Hj=>∃(v4 v5 v6 v8 v9 v10:Option V) (us:List Addr) (gs:List (Str×Str×Str)),σ=[some (.ref a),some (.ref m),some (.int n),some (.ref mm),v4,v5,v6,some (.ref b3),v8,v9,v10]/\aL H7 Hj b3/\Hj b3=some (.lst (us.map V.ref))/\Paired (λt r=>Hj t=some (.tup (cy r))) us gs/\Paired R0 (M.gates.take j) gs) ?_ ?_ ?_ ?_⟩
 . exact⟨_,_,_,_,_,_,[],[],rfl,λ_ _ h _=>h,q7,.nil,.nil⟩
 . rintro j σ Hj _ ⟨_,_,_,_,_,_,_,_,_,kj,_⟩
   exact aq.of (kj _ _ (vE _ _ h3) (ae h3 R5))
 . rintro j x T σ Hj hx hT ⟨v4,v5,v6,v8,v9,v10,us,gs,rfl,kj,nI,pu,Jm⟩
   rw[aal]at hx
   cases ht:t3[j]? with
   | none=>rw[ht]at hx;cases hx
   | some t=>
    rw[ht]at hx
    cases hx
    have xK:j<M.gates.length:=by have:=(aaq.mp ht).1;lia
    have ju:M.gates[j]?=some M.gates[j]:=aae xK
    obtain⟨t',fk,dq⟩:=gd Ae ju
    rw[ht]at fk
    cases fk
    generalize Aa:M.gates[j]=r at ju dq
    have rJ:=kj _ _ (vE _ _ dq) (ae dq R5)
    have s4:ah Hj (upd Hj T (.tup [.int (j:Int),.ref t])):=ah.ao hT
    have q4:(upd Hj T (.tup [.int (j:Int),.ref t])) T=some (.tup [.int (j:Int),.ref t]):=af
    generalize upd Hj T (.tup [.int (j:Int),.ref t])=H4 at s4 q4 ⊢
    refine⟨T,_,rfl,aM.of q4,rfl,_,_,rfl,_,_,rfl,⟨t,_,rfl,aM.of (s4 _ _ rJ),rfl,_,_,rfl,_,_,rfl,_,_,rfl,rfl,rfl,?_⟩⟩
    refine⟨_,rfl,_,rfl,_,_,rfl,rfl,.inl ⟨by decide,by decide⟩,_,_,rfl,rfl,_,_,rfl,rfl,⟨by have:=fw.n3;omega,by have:=fw.n3;omega⟩,_,_,rfl,rfl,(by show (0:Int)<6;decide),?_⟩
    refine⟨_,rfl,.inl ⟨rfl,_,aq.of (s4 _ _ nI)⟩,_,rfl,_,rfl,rfl,_,rfl,?_⟩
    refine MP (v:=.str r.2.1) rfl λx1 h1=>⟨_,rfl,rfl,_,rfl,MP (v:=.str r.2.2) rfl λx2 h2=>?_⟩
    obtain⟨z1,rfl,o1⟩:∃z1,x1=.str z1/\(z1=r.2.1\/z1 = "0"):=by
     rcases h1 with e|e
     . exact⟨_,e,.inr rfl⟩
     . exact⟨_,e,.inl rfl⟩
    obtain⟨z2,rfl,o2⟩:∃z2,x2=.str z2/\(z2=r.2.2\/z2 = "1"):=by
     rcases h2 with e|e
     . exact⟨_,e,.inr rfl⟩
     . exact⟨_,e,.inl rfl⟩
    have hx:R0 r (r.1,z1,z2):=⟨rfl,o1,o2⟩
    refine⟨by show 3<=sizeLine;decide,λU hU=>?_⟩
    rw[show ([V.str r.1,.str z1,.str z2]:List V)=cy (r.1,z1,z2) from rfl]
    have s5:ah H4 (upd H4 U (.tup (cy (r.1,z1,z2)))):=ah.ao hU
    have q5:(upd H4 U (.tup (cy (r.1,z1,z2)))) U=some (.tup (cy (r.1,z1,z2))):=af
    generalize upd H4 U (.tup (cy (r.1,z1,z2)))=H5 at s5 q5 ⊢
    have nF:=s4.trans s5
    have ul:=pu.length
    have kl:=Jm.length
    rw[aaO]at kl
    have:=fw.n3
    refine⟨b3,_,_,rfl,rfl,nF _ _ nI,(by rw[aaa];exact small (by lia)),_,_,_,_,_,_,us++[U],gs++[(r.1,z1,z2)],rfl,λb' o fq hn=>?_,?_,uw nF (nF _ _ nI) pu q5,?_⟩
    . rw[ai hn]
      exact nF _ _ (kj _ _ fq hn)
    . rw[af,aaf];rfl
    . rw[abb,ju]
      exact abR Jm hx
 rintro σ H8 ⟨Mi,Ii,v6',v8,v9,v10,us3,gs,rfl,k8,hS8,pu3,pg⟩
 rw[aaa,l3,aaH]at pg
 have Mm:ah H H8:=λb o hb=>k8 _ _ (vE _ _ hb) (ae hb R5)
 have mb3:mm≠b3:=ae q6 mK
 have q8:=k8 _ _ (s7 _ _ q6) mb3
 have gt8:aE H8 b3 (gs.map cy):=⟨us3,hS8,bE (F:=λt r=>H8 t=some (.tup r)) pu3⟩
 have zV:aE H8 b2 (ks.map fg):=by
  obtain⟨ts,x1,x2⟩:=tF
  exact⟨ts,k8 _ _ (s7 _ _ x1) (ae x1 mK),Paired.bQ x2 λt r e=>k8 _ _ (s7 _ _ e) (ae e mK)⟩
 refine⟨_,rfl,_,rfl,mm,_,rfl,fE.k (k:=.inr "gates") q8 (by show 6<sizeLine;decide),?_⟩
 have k9:aL H8 (upd H8 mm (.dK (putK (bU a1 b2 a3 a4 a5 a6) (.inr "gates") (.ref b3)))) mm:=λb o hb hn=>by rw[ai hn];exact hb
 have q9:(upd H8 mm (.dK (putK (bU a1 b2 a3 a4 a5 a6) (.inr "gates") (.ref b3)))) mm=some (.dK (bU a1 b2 b3 a4 a5 a6)):=af
 generalize upd H8 mm (.dK (putK (bU a1 b2 a3 a4 a5 a6) (.inr "gates") (.ref b3)))=H9 at k9 q9 ⊢
 have zZ:ah H H9:=λb o hb=>k9 _ _ (Mm _ _ hb) (ae hb MQ)
 have MM:=zV.eE k9 q8
 have MK:=gt8.eE k9 q8
 refine⟨by show 0<=sizeLine;decide,λb4 xj=>?_⟩
 have wL:ah H9 (upd H9 b4 (.lst [])):=ah.ao xj
 have Jk:(upd H9 b4 (.lst [])) b4=some (.lst (([]:List Addr).map V.ref)):=af
 generalize upd H9 b4 (.lst [])=I0 at wL Jk ⊢
 have Jn:=wL _ _ q9
 have R6:mm≠b4:=ae q9 xj
 have R7:H b4=none:=same_none zZ xj
 refine⟨_,rfl,mm,_,rfl,fE.k (k:=.inr "nexts") Jn (by show 6<sizeLine;decide),?_⟩
 have Jo:aL I0 (upd I0 mm (.dK (putK (bU a1 b2 b3 a4 a5 a6) (.inr "nexts") (.ref b4)))) mm:=λb o hb hn=>by rw[ai hn];exact hb
 have xU:(upd I0 mm (.dK (putK (bU a1 b2 b3 a4 a5 a6) (.inr "nexts") (.ref b4)))) mm=some (.dK (bU a1 b2 b3 b4 a5 a6)):=af
 generalize upd I0 mm (.dK (putK (bU a1 b2 b3 a4 a5 a6) (.inr "nexts") (.ref b4)))=I1 at Jo xU ⊢
 have CH:ah H I1:=λb o hb=>Jo _ _ (wL _ _ (zZ _ _ hb)) (ae hb MQ)
 have Ys:=(MM.same wL).eE Jo Jn
 have Yt:=(MK.same wL).eE Jo Jn
 have Ds:=Jo _ _ Jk (aav R6)
 obtain⟨t4,h4,p4⟩:=id hM.nx
 have xN:=f7 p4
 have l4:=xN.length
 refine⟨_,rfl,m,.ref a4,rfl,a7.k (k:=.inr "nexts") (hM.same CH).top,a4,rfl,⟨_,aq.of (CH _ _ h4)⟩,rH (xs:=t4.map V.ref) (λj σ Hj=>∃(v4 v5 v6 v7 v8 v9 v10:Option V) (us:List Addr) (xs:List (Str×Str)),σ=[some (.ref a),some (.ref m),some (.int n),some (.ref mm),v4,v5,v6,v7,v8,v9,v10]/\aL I1 Hj b4/\Hj b4=some (.lst (us.map V.ref))/\Paired (λt r=>Hj t=some (.tup (bq r))) us xs/\Paired Wn (M.nexts.take j) xs) ?_ ?_ ?_ ?_⟩
 . exact⟨_,_,_,_,_,_,_,[],[],rfl,λ_ _ h _=>h,Ds,.nil,.nil⟩
 . rintro j σ Hj _ ⟨_,_,_,_,_,_,_,_,_,_,kj,_⟩
   exact aq.of (kj _ _ (CH _ _ h4) (ae h4 R7))
 . rintro j x T σ Hj hx hT ⟨v4,v5,v6,v7,v8,v9,v10,us,xs,rfl,kj,nI,pu,Jm⟩
   rw[aal]at hx
   cases ht:t4[j]? with
   | none=>rw[ht]at hx;cases hx
   | some t=>
    rw[ht]at hx
    cases hx
    have xK:j<M.nexts.length:=by have:=(aaq.mp ht).1;lia
    have ju:M.nexts[j]?=some M.nexts[j]:=aae xK
    obtain⟨t',fk,dq⟩:=gd xN ju
    rw[ht]at fk
    cases fk
    generalize Aa:M.nexts[j]=r at ju dq
    have rJ:=kj _ _ (CH _ _ dq) (ae dq R7)
    have s4:ah Hj (upd Hj T (.tup [.int (j:Int),.ref t])):=ah.ao hT
    have q4:(upd Hj T (.tup [.int (j:Int),.ref t])) T=some (.tup [.int (j:Int),.ref t]):=af
    generalize upd Hj T (.tup [.int (j:Int),.ref t])=H4 at s4 q4 ⊢
    refine⟨T,_,rfl,aM.of q4,rfl,_,_,rfl,_,_,rfl,⟨t,_,rfl,aM.of (s4 _ _ rJ),rfl,_,_,rfl,_,_,rfl,rfl,rfl,?_⟩⟩
    refine⟨_,rfl,mm,.ref b4,rfl,a7.k (k:=.inr "nexts") (s4 _ _ (kj _ _ xU R6)),.inl ⟨rfl,_,aq.of (s4 _ _ nI)⟩,_,rfl,_,rfl,_,rfl,by show 4<=sizeLine;decide,λL hL=>?_⟩
    have s5:ah H4 (upd H4 L (.lst [.str r.2,.str r.2,.str "0",.str "1"])):=ah.ao hL
    have q5:(upd H4 L (.lst [.str r.2,.str r.2,.str "0",.str "1"])) L=some (.lst [.str r.2,.str r.2,.str "0",.str "1"]):=af
    generalize upd H4 L (.lst [.str r.2,.str r.2,.str "0",.str "1"])=H5 at s5 q5 ⊢
    obtain⟨z,hz,oz⟩:∃z,ie [V.str r.2,.str r.2,.str "0",.str "1"] (n / (5*(j:Int)+7) % 4)=some (.str z)/\(z=r.2\/z = "0" \/ z = "1"):=by
     rcases (show n / (5*(j:Int)+7) % 4=0\/n / (5*(j:Int)+7) % 4=1\/n / (5*(j:Int)+7) % 4=2\/n / (5*(j:Int)+7) % 4=3 by lia) with e|e|e|e <;> rw[e]
     . exact⟨_,rfl,.inl rfl⟩
     . exact⟨_,rfl,.inl rfl⟩
     . exact⟨_,rfl,.inr (.inl rfl)⟩
     . exact⟨_,rfl,.inr (.inr rfl)⟩
    refine⟨_,rfl,_,rfl,_,_,rfl,rfl,.inl ⟨by decide,by decide⟩,_,_,rfl,rfl,_,_,rfl,rfl,⟨by have:=fw.n4;omega,by have:=fw.n4;omega⟩,_,_,rfl,rfl,(by show (0:Int)<4;decide),L,_,_,_,rfl,rfl,aq.of q5,hz,?_⟩
    refine⟨by show 2<=sizeLine;decide,λU hU=>?_⟩
    rw[show ([V.str r.1,.str z]:List V)=bq (r.1,z) from rfl]
    have s6:ah H5 (upd H5 U (.tup (bq (r.1,z)))):=ah.ao hU
    have q6:(upd H5 U (.tup (bq (r.1,z)))) U=some (.tup (bq (r.1,z))):=af
    generalize upd H5 U (.tup (bq (r.1,z)))=H6 at s6 q6 ⊢
    have zY:=(s4.trans s5).trans s6
    have ul:=pu.length
    have kl:=Jm.length
    rw[aaO]at kl
    have:=fw.n4
    refine⟨b4,_,_,rfl,rfl,zY _ _ nI,(by rw[aaa];exact small (by lia)),_,_,_,_,_,_,_,us++[U],xs++[(r.1,z)],rfl,λb' o fq hn=>?_,?_,uw zY (zY _ _ nI) pu q6,?_⟩
    . rw[ai hn]
      exact zY _ _ (kj _ _ fq hn)
    . rw[af,aaf];rfl
    . rw[abb,ju]
      exact abR Jm ⟨rfl,oz⟩
 rintro σ I2 ⟨v4x,v5x,v6x,v7x,v8x,v9x,aer,us4,xs,rfl,MR,Yu,pu4,px⟩
 rw[aaa,l4,aaH]at px
 have R8:ah H I2:=λb o hb=>MR _ _ (CH _ _ hb) (ae hb R7)
 have mv:∀{b:Addr}{rs:List (List V)},aE I1 b rs->b≠b4->aE I2 b rs:=λh hn=>by
  obtain⟨ts,x1,x2⟩:=h
  exact⟨ts,MR _ _ x1 hn,Paired.bQ x2 λt r e=>MR _ _ e λq=>by rw[q,Ds]at e;cases e⟩
 have n24:b2≠b4:=by obtain⟨_,z,_⟩:=id MM;exact ae z xj
 have n34:b3≠b4:=by obtain⟨_,z,_⟩:=id MK;exact ae z xj
 have jd:=hM.same R8
 have lk:=pk.length
 have lg:=pg.length
 have lx:=px.length
 exact⟨_,rfl,kk mm a1 b2 b3 b4 a5 a6 ⟨M.switches,ks,gs,xs,M.nevers,M.somes⟩ I2 ⟨MR _ _ xU R6,jd.sw,mv Ys n24,mv Yt n34,⟨us4,Yu,bE (F:=λt r=>I2 t=some (.tup r)) pu4⟩,jd.nv,jd.sm⟩ (Jl ok pk pg px) ⟨fw.n1,by show ks.length<=16;have:=fw.n2;lia,by show gs.length<=60;have:=fw.n3;lia,by show xs.length<=16;have:=fw.n4;lia,fw.n5,fw.n6⟩ R8⟩
end
end Gen
namespace L2
open PySem PySem.Spec PyProof.Rows
theorem CJ{X:Cx} : jb X (.builtin "isinstance") (λxs H Q=>∃x t C b,xs=[x,.ref C]/\kE X.K H x t/\W.kitOne X.K t (.ref C)=some b/\Q (.bl b) H):=by
 intro pins s σ H xs us Q I r h
 obtain⟨x,t,C,b,rfl,ty,e,q⟩:=h
 obtain⟨u,v,rfl,rx,ry⟩:=vals2 r
 cases(show v=Value.ref C from ry)
 exact y0 I rx ty e λtk=>⟨.bl b,H,I.tok _,rfl,q⟩
end L2
namespace Gen
open PySem L2
noncomputable abbrev CK:Stmt:=top 44
structure R9(K:W.Frag) (C:Addr):Prop where
 ha:W.findIn K (.ref C) "__class__" = some (some (.builtin "object.__class__"))
 hn:W.specialIn K (.builtin "object.__class__") "__get__" = some (some (.builtin "getset_descriptor.__get__"))
 htk:W.takesIn K (.builtin "object.__class__")=some true
 hm:W.mroIn K C (.type "object")=some true
theorem wo{K:W.Frag}{t:Value} : W.kitOne K t t=some true:=by
 unfold W.kitOne
 rw[aaI (by simp)]
noncomputable def Ax(K:W.Frag):Sp:=λvs H Q _=>∃(a:Addr) (ns:List Int),vs=[.ref a]/\aq K H a (ns.map V.int)/\∀H',Q (.bl true) H'
theorem MO.keep{C:Addr}{H H':Hp}{x dx g1 g2 g3 g4 g5 g6:Addr}{ts:List Addr}{M:ay}(h:MO C H x dx g1 g2 g3 g4 g5 g6 ts M) (k:∀b o,H b=some o->(b∈[x,g1,g2,g3,g4,g5,g6]\/∃r,o=.tup r)->H' b=some o):MO C H' x dx g1 g2 g3 g4 g5 g6 ts M:=
 ⟨⟨k _ _ h.hx (.inl (by simp)),k _ _ h.h1 (.inl (by simp)),k _ _ h.h2 (.inl (by simp)),k _ _ h.h3 (.inl (by simp)),Paired.bQ h.hp λt r e=>k _ _ e (.inr ⟨_,rfl⟩)⟩,k _ _ h.h4 (.inl (by simp)),k _ _ h.h5 (.inl (by simp)),k _ _ h.h6 (.inl (by simp))⟩
theorem ux{H H1:Hp}{l:Addr}{ts:List Addr}{M:ay}{f:Str->V}(h1:H l=some (.lst (ts.map V.ref))) (p:Paired (λt (kv:Key×V)=>H1 t=none/\H t=some (.tup [kV kv.1,kv.2])) ts ((bp M).map λn=>((.inr n:Key),f n))):aE H l ((bp M).map λn=>[V.str n,f n]):=
 qC (λ_=>rfl) h1 p
theorem qM{M:ay}{names:List Str}(ok:az M names):∀r∈(bp M).map λn=>[V.str n,V.str (ba M n)],∀v∈r,ja v:=λr hr v hv=>by
 obtain⟨n,hn,rfl⟩:=aai.mp hr
 have hs:su n:=iE (ok.nm n (by rw[ok.all];exact hn))
 simp only[aan,aaE,abv]at hv
 rcases hv with rfl|rfl
 . exact .inr (.inl ⟨_,rfl,hs⟩)
 . refine .inr (.inl ⟨_,rfl,?_⟩)
   rcases jB ok n with⟨_,e⟩|⟨_,e⟩|⟨_,e⟩ <;> rw[e]
   . exact hs
   . exact qA (by decide+kernel)
   . exact qA (by decide+kernel)
theorem Oq{M:ay}{names:List Str}(ok:az M names):kq (aA M)=(bp (aA M)).map λn=>((.inr n:Key),V.str n):=by
 unfold kq
 refine aaW λn hn=>?_
 rw[Je ok (by rw[Ad ok];exact hn)]
section
variable {P:Program}{w:World}{K:W.Frag}{mg:Str->Option Value}{base:Heap}{C:Addr}
noncomputable abbrev Yv:List Str:=["_law_script", "_law_m", "_law_machine_here", "_law_kept", "_law_due_here", "_law_names", "_law_told", "_law_view_here", "_law_again", "_law_same"]
theorem mr:aK Yv ["_law_script"] (aw CK):=fs
theorem Sa{f fM fCl fG fMd fV fD fC fA fL fO:Addr}{fd dM dCl dG dMd dV dD dC dA dL dO:FuncData}(F:aO K "law" "law" CK f fd)(T:pO K mg C)(TC:R9 K C)(O2:gw mg) (CM:cc P w K mg base 5 fM dM "_law_machine" Bo (tJ K)) (CCl:cc P w K mg base 2 fCl dCl "_law_closer" ["_law_script", "_law_m"] (FY K)) (CG:cc P w K mg base 2 fG dG "_law_great" ["_law_script", "_law_m"] (yJ K))
 (CMd:cc P w K mg base 3 fMd dMd "_law_made" ["_law_m"] (BR C)) (CV:cc P w K mg base 1 fV dV "_law_view" ["_law_machine_here"] (B2 C)) (CD:l8 P w K mg base 4 fD dD "_law_due" ["_law_m"] FX) (CC:cc P w K mg base 5 fC dC "by_settled" ["machine"] (FR C))
 (CA:cc P w K mg base 2 fA dA "_law_alike" ["_law_view_here", "_law_due_here"] yH) (CL:cc P w K mg base 4 fL dL "_law_along" uf (yI K)) (CO:cc P w K mg base 1 fO dO "_law_order" ["_law_m"] uM):aR P w K mg base aY 6 f fd ["_law_script"] (Ax K):=by
 refine F.go mr (λcdv A outer s H vs Q E hr h=>?_)
 obtain⟨a,ns,rfl,ha,kk⟩:=h
 have hu:=dY hr
 have D7:(A.deeper (PyProof.Rows.envOfC "law" (aw CK) s.heap.objs.size f cdv)).units+2<cLine:=abK (acU (by decide:2<=64) _) hr.units
 have hu3:(A.deeper (PyProof.Rows.envOfC "law" (aw CK) s.heap.objs.size f cdv)).units+2+1<cLine:=abK (by rw[Nat.add_assoc];exact acU (by decide:3<=64) _) hr.units
 have ef:aW 1 (A.deeper _):=hr.mono (by decide)
 have gp:aW 2 (A.deeper _):=hr.mono (by decide)
 have MD:aW 3 (A.deeper _):=hr.mono (by decide)
 have Wo:aW 4 (A.deeper _):=hr.mono (by decide)
 refine⟨_,(Iq (NO 1 mr.nd (yu CG gp (vZ (pv 0) (rF (yu CCl gp (vZ (pv 0) (rF (yu CM hr (vZ (pv 0) (rF (NN (rF NM (aa ak (aa ak (aa ak ag))))) ag))) ag))) ag)))) (cf (PS.t (dQ 2 mr.nd (aV CMd MD (aa (pv 1) ag))))
  (cf (PS.t (dQ 3 mr.nd (aV CV ef (aa (pv 2) ag))))
  (cf (NH (gE CD Wo (aa (pv 1) ag)) (cw rfl (ax (ar (i:=4) mr.nd rfl (Or.inl rfl)) (ax (ar (i:=5) mr.nd rfl (Or.inl rfl)) bF))))
  (gj.t (aj (dQ 6 mr.nd (aV CC hr (aa (pv 2) ag)))
  (aj (cP (PW.pt (oO (nW (iN (eR vp (by rfl) O2.isi acz (aa (pv 6) (aa (Df (v:=.ty "tuple") (by rfl) O2.tuple acu rfl) ag))))) (oO (hW (AE (eR eA (by rfl) O2.len abI (aa (pv 6) ag)) ak)) (pY (nW (iN (eR CJ (by rfl) O2.isi acz (aa (aN (r:=eu K) cN (pv 6) ak (λ_ _=>rfl)) (aa (Nb (v:=.ref C) (by rfl) T.mgC rfl) ag)))))))))
   (au (aI mh)) bh)
  (aj (dQ 7 mr.nd (aV CV ef (aa (aN (r:=eu K) cN (pv 6) ak (λ_ _=>rfl)) ag)))
  (aj (cP (PW.pt (oO (nW (iN (eR vp (by rfl) O2.isi acz (aa (aN (r:=eu K) cN (pv 6) ak (λ_ _=>rfl)) (aa (Df (v:=.ty "dict") (by rfl) O2.dict aaC rfl) ag))))) (oO (bg (uI (n:=2) D7) (jr rfl (aN (r:=eu K) cN (pv 6) ak (λ_ _=>rfl)) (by rfl) O2.list) (pv 5) (cp _)) (pY (nW (iN (aV CA gp (aa (pv 7) (aa (pv 4) ag)))))))))
   (au (aI mh)) bh)
  (aj (cP (nW (iN (aV CL Wo (aa (pv 0) (aa (pv 1) (aa (pv 7) (aa (aN (r:=eu K) cN (pv 6) ak (λ_ _=>rfl)) ag)))))))
   (au (aI mh)) bh)
  (aj (dQ 8 mr.nd (aV CC hr (aa (aN (r:=eu K) cN (pv 6) ak (λ_ _=>rfl)) ag)))
  (aj (nL (i:=9) mr.nd rfl rfl (N:=["_law_name"]) (js:=[none]) (te:=(pF (eJ (cg 0) (eJ (cg 0) n9)))) (by kernel_rfl) rfl (bf (aV CO ef (aa (pv 4) ag))) (λ_ _ _ _ _ _=>(ar (i:=0) (show (["_law_name"]:List Str).Nodup from dk) rfl (Or.inl rfl) (.inr rfl))) (λ_ _ _ _ _ _=>bb) (λ_ _ _ _ _ _=>(cx (aa (pv 0) (aa (pv 0) ag)))))
  (aj (cP (PW.pt (oO (bg (uI (n:=2) D7) (jr rfl (aN (r:=eu K) cN (pv 8) ak (λ_ _=>rfl)) (by rfl) O2.list) (pv 9) (cp _)) (pY (nW (iN (aV CA gp (aa (aV CV ef (aa (aN (r:=eu K) cN (pv 8) ak (λ_ _=>rfl)) ag)) (aa (pv 4) ag))))))))
   (au (aI mh)) bh)
  (aj (dr (wG abJ acZ aee zN (aN (r:=eu K) cN (pv 6) ak (λ_ _=>rfl))))
  (aj (dr (wG aaJ PySem.F.slot_list_clear PySem.F.type_list_clear JO (dh (aN (r:=eu K) cN (pv 8) ak (λ_ _=>rfl)) rfl)))
  (aj (dr (wG abJ acZ aee zN (dh (aN (r:=eu K) cN (pv 8) ak (λ_ _=>rfl)) rfl)))
  (aj (dr (eU aaJ aaQ aaR cJ (dh (aN (r:=eu K) cN (pv 8) ak (λ_ _=>rfl)) rfl) (aa av ag)))
  (aj (cP (PW.pt (oO (nW (iN (aV CA gp (aa (aV CV ef (aa (aN (r:=eu K) cN (pv 6) ak (λ_ _=>rfl)) ag)) (aa (pv 4) ag))))) (pY (bg (uI (n:=2) D7) (jr rfl (aN (r:=eu K) cN (aV CC hr (aa (pv 2) ag)) ak (λ_ _=>rfl)) (by rfl) O2.list) (pv 5) (cp _)))))
   (au (aI mh)) bh)
  (au (aI (xW (NL (n:=2) hu3) (aV CV ef (aa (pv 2) ag)) (pv 3) (cp _)))))))))))))))))))))),?_⟩
 try dsimp only[i7]
 refine⟨_,rfl,_,rfl,_,rfl,by show 4<=sizeLine;decide,λz hz=>?_⟩
 have s1:ah H (upd H z (.lst [.int 3,.int 4,.int 10,.int 3])):=ah.ao hz
 have q1:(upd H z (.lst [.int 3,.int 4,.int 10,.int 3])) z=some (.lst [.int 3,.int 4,.int 10,.int 3]):=af
 generalize upd H z (.lst [.int 3,.int 4,.int 10,.int 3])=H1 at s1 q1 ⊢
 refine⟨a,z,ns,3,4,10,3,rfl,ah.seq s1 ha,⟨.inl (aq.of q1),by decide,by decide,by decide,by decide⟩,⟨_,q1⟩,?_⟩
 intro m0 M0 names0 c1 c2 c3 c4 c5 c6 H2 ok0 _ Vv h16 h60 xg aes hnv hsm Mo s2
 refine⟨a,m0,c1,c2,c3,c4,c5,c6,ns,M0,names0,rfl,ah.seq (s1.trans s2) ha,Mo,ok0,⟨Vv.2,h16.2,h60,xg,by lia,by lia⟩,?_⟩
 intro m9 o1 o2 o3 o4 o5 o6 M9 H29 MN ok9 fw9 Wq
 refine⟨a,m9,o1,o2,o3,o4,o5,o6,ns,M9,rfl,ah.seq ((s1.trans s2).trans Wq) ha,MN,⟨names0,ok9⟩,fw9,?_⟩
 intro m a1 a2 a3 a4 a5 a6 M names H3 hM ok fw s3
 have iH:=((s1.trans s2).trans Wq).trans s3
 refine⟨_,rfl,m,M,a1,a2,a3,a4,a5,a6,rfl,hM,ok.kd,ok.nxd,ok.nvw.nd,ok.smw.nd,λx dx g1 g2 g3 g4 g5 g6 ts H4 s4 hx=>?_⟩
 refine⟨_,rfl,x,dx,g1,g2,g3,g4,g5,g6,ts,M,rfl,hx,fw,λkv k1 k2 k3 k4 k5 k6 G0 s5 jn=>?_⟩
 have Sb:=hx.same s5
 have Sd:=hM.same (s4.trans s5)
 have ha0:=ah.seq ((iH.trans s4).trans s5) ha
 refine⟨_,rfl,m,a1,a2,a3,a4,a5,a6,M,names,rfl,Sd,ok,fw,λtp0 dd nn b1 b2 b3 b4 b5 b6 G1 w1 Yw iS Bh=>?_⟩
 refine⟨tp0,_,rfl,aM.of Yw,rfl,_,_,rfl,_,_,rfl,rfl,?_⟩
 refine⟨_,rfl,x,dx,g1,g2,g3,g4,g5,g6,ts,M,names,rfl,Sb.same w1,ok,fw,λtp d y dy y1 y2 y3 y4 y5 y6 us G2 QI hd2 MS Yx=>?_⟩
 rw[El ok]at MS
 have gM:=md ok
 have lL:jw (aA M):=Og fw
 have w2:=MS.s
 have pT:=MS.t
 have Jp:=MS.m
 refine⟨_,rfl,_,_, "tuple",true,rfl,.tup pT,wo,_,rfl,bu ?_⟩
 refine⟨_,rfl,tp,_,rfl,.inr (aM.of pT),_,_,rfl,rfl,_,rfl,bu ?_⟩
 refine⟨_,rfl,tp,_,0,_,rfl,rfl,aM.of pT,jt,_,_,C,true,rfl,.ins Jp.hx T.cl TC.ha TC.hn TC.htk TC.hm,wo,_,rfl,bu ?_⟩
 refine⟨_,rfl,tp,_,0,_,rfl,rfl,aM.of pT,jt,y,dy,y1,y2,y3,y4,y5,y6,us,aA M,rfl,Jp,lL,λvw e1 e2 e3 e4 e5 e6 G3 w3 Wr=>?_⟩
 have Se:=w3 _ _ pT
 have lJ:=w3 _ _ hd2
 have Es:∀{p q:V},ie [p,q] 1=some q:=gy (j:=1) rfl
 refine⟨_,rfl,tp,_,1,_,rfl,rfl,aM.of Se,Es,_,_, "dict",true,rfl,.dK lJ,wo,_,rfl,bu ?_⟩
 refine⟨_,rfl,tp,_,1,_,rfl,rfl,aM.of Se,Es,d,_,rfl,.inl lJ,λli tl G4 w4 nli qli pli=>⟨_,rfl,?_⟩⟩
 have Eb:=w3.trans w4
 have Ws:=w2.trans Eb
 refine kh (eB (ux (f:=λn=>V.str (ba M n)) qli pli) (qM ok)) (eB (Bh.same Ws) (qM ok)) (gF (qM ok)) (gG _) ⟨_,rfl,bu ?_⟩
 refine⟨_,rfl,_,rfl,vw,dd,e1,e2,e3,e4,e5,e6,b1,b2,b3,b4,b5,b6,aA M,_,rfl,Wr.same w4,iS.same Ws,lL,gM,λG5 w5=>⟨_,rfl,bu ?_⟩⟩
 have MT:=Eb.trans w5
 have w15:=w2.trans MT
 have Wt:=w1.trans w15
 refine⟨_,rfl,_,rfl,_,rfl,_,rfl,tp,_,1,_,rfl,rfl,aM.of (MT _ _ pT),Es,a,m,vw,d,a1,a2,a3,a4,a5,a6,e1,e2,e3,e4,e5,e6,ns,M,aA M,names,_,bp M,(λn=>V.str (ba M n)),_,rfl,ah.seq Wt ha0,Sd.same Wt,Wr.same (w4.trans w5),ok,gM,fw,lL,MT _ _ hd2,Jg ok,λG6 w6=>⟨_,rfl,bu ?_⟩⟩
 have xV:=MT.trans w6
 have Sf:=w2.trans xV
 have w06:=w1.trans Sf
 refine⟨_,rfl,tp,_,0,_,rfl,rfl,aM.of (xV _ _ pT),jt,y,dy,y1,y2,y3,y4,y5,y6,us,aA M,_,rfl,Jp.same xV,gM,lL,λJq d7 z dz z1 z2 z3 z4 z5 z6 zs G7 nd7 Wu CP aet=>?_⟩
 rw[Oq ok]at Wu
 rw[El gM,Oi ok]at CP
 have w7:=CP.s
 have Sg:=Sf.trans w7
 have w27:=xV.trans w7
 refine⟨_,rfl,dd,b1,b2,b3,b4,b5,b6,aA M,rfl,iS.same Sg,lL,λo G8 w8 qo=>?_⟩
 have jM:(bp (aA M)).length<=88:=by unfold bp;simp only[aaj,aaa];have:=lL.n1;have:=lL.n2;have:=lL.n3;lia
 refine⟨o,rfl,⟨_,aq.of qo⟩,λD hD=>?_⟩
 refine jG (xs:=bp (aA M)) (kp:=λ_=>true) (y:=λn=>.inr (.tup [.str n,.str n])) V.str (aap jM (by decide)) qo hD (λn hn H9 s9=>rw_yes λY hY=>?_) λG9 vs w9 bx p9=>?_
 . exact⟨_,rfl,_,rfl,by show 2<=sizeLine;decide,λT hT=>hY _ _ (ah.ao hT) (lZ hT)⟩
 rw[eX]at p9
 obtain⟨sn,rfl,ps⟩:=gg p9
 have sam:aE G9 D ((bp (aA M)).map λn=>[V.str n,V.str n]):=⟨sn,bx,bE (F:=λt r=>G9 t=some (.tup r)) (Paired.bQ ps λt n z=>z.2)⟩
 have Sh:=w8.trans w9
 have Si:∀r∈(bp (aA M)).map λn=>[V.str n,V.str n],∀v∈r,ja v:=λr hr v hv=>by
  obtain⟨n,hn,rfl⟩:=aai.mp hr
  have hs:su n:=iE (gM.nm n (by rw[gM.all];exact hn))
  simp only[aan,aaE,abv]at hv
  rcases hv with rfl|rfl <;> exact .inr (.inl ⟨_,rfl,hs⟩)
 have FZ:=CP.t
 refine⟨_,rfl,Jq,_,1,_,rfl,rfl,aM.of (Sh _ _ FZ),Es,d7,_,rfl,.inl (Sh _ _ Wu),λl2 tl2 G10 Dr nl2 ql2 pl2=>⟨_,rfl,?_⟩⟩
 refine kh (eB (ux (f:=V.str) ql2 pl2) Si) (eB (sam.same Dr) Si) (gF Si) (gG _) ⟨_,rfl,bu ?_⟩
 have Lk:=Sh.trans Dr
 refine⟨_,rfl,Jq,_,0,_,rfl,rfl,aM.of (Lk _ _ FZ),jt,z,dz,z1,z2,z3,z4,z5,z6,zs,aA M,rfl,CP.m.same Lk,lL,λvw2 f1 f2 f3 f4 f5 f6 G11 w11 Yy=>?_⟩
 have Sj:=Lk.trans w11
 have Yz:=Sg.trans Sj
 refine⟨_,rfl,vw2,dd,f1,f2,f3,f4,f5,f6,b1,b2,b3,b4,b5,b6,aA M,_,rfl,Yy,iS.same Yz,lL,gM,λMU Ea=>⟨_,rfl,bu ?_⟩⟩
 have yV:=Sj.trans Ea
 have aeu:=Sg.trans yV
 have Sk:=w27.trans yV
 have YA:=w7.trans yV
 have UZ:=Sk _ _ pT
 have Ll:=Sk _ _ hd2
 have yW:=CP.m.same yV
 have Sl:=CP.nk
 have Wv:G6 z1=none:=Sl z1 (by simp)
 have Ww:G6 z2=none:=Sl z2 (by simp)
 have Wx:G6 z3=none:=Sl z3 (by simp)
 have d6:=xV _ _ hd2
 have dz1:d≠z1:=ae d6 Wv
 have dz2:d≠z2:=ae d6 Ww
 have dz3:d≠z3:=ae d6 Wx
 have zn:=CP.nd
 have z23:z2≠z3:=λe=>by rw[e]at zn;simp at zn
 have z12:z1≠z2:=λe=>by rw[e]at zn;simp at zn
 have z13:z1≠z3:=λe=>by rw[e]at zn;simp at zn
 have zd:∀{b:Addr}{ob:HO},MU b=some ob->(∀kvs,ob≠.dK kvs)->b≠d:=λhb ho e=>by rw[e,Ll]at hb;cases hb;exact ho _ rfl
 refine⟨_,rfl,tp,_,1,_,rfl,rfl,aM.of UZ,Es,.inr (.inr (.inl ⟨rfl,.inl ⟨_,Ll⟩⟩)),d,_,rfl,rfl,Ll,?_⟩
 have CQ:∀b ob,MU b=some ob->b≠d->(upd MU d (.dK [])) b=some ob:=λb ob hb hn=>by rw[ai hn];exact hb
 generalize upd MU d (.dK [])=MV at CQ ⊢
 have CU:=CQ _ _ (yV _ _ FZ) (zd (yV _ _ FZ) λ_ h=>by cases h)
 have F0:=CQ _ _ yW.hx (zd yW.hx λ_ h=>by cases h)
 have F1:=CQ _ _ yW.h3 (zd yW.h3 λ_ h=>by cases h)
 have U0:=CQ _ _ yW.h2 (aav dz2)
 have U1:=CQ _ _ yW.h1 (aav dz1)
 refine⟨_,rfl,Jq,_,0,_,rfl,rfl,aM.of CU,jt,z,C,dz,_,_,rfl,F0,T.cl,T.n3,tW ..,.inl ⟨rfl,_,aq.of F1⟩,z3,_,rfl,rfl,F1,?_⟩
 have Et:∀b ob,MV b=some ob->b≠z3->(upd MV z3 (.lst [])) b=some ob:=λb ob hb hn=>by rw[ai hn];exact hb
 generalize upd MV z3 (.lst [])=MW at Et ⊢
 have Wy:∀{b:Addr}{ob:HO},MV b=some ob->(∀xs,ob≠.lst xs)->b≠z3:=λhb ho e=>by rw[e,F1]at hb;cases hb;exact ho _ rfl
 have CW:=Et _ _ CU (Wy CU λ_ h=>by cases h)
 have F5:=Et _ _ F0 (Wy F0 λ_ h=>by cases h)
 have F7:=Et _ _ U0 z23
 have U2:=Et _ _ U1 z13
 refine⟨_,rfl,Jq,_,0,_,rfl,rfl,aM.of CW,jt,z,C,dz,_,_,rfl,F5,T.cl,T.n2,qr ..,.inr (.inr (.inl ⟨rfl,.inl ⟨_,F7⟩⟩)),z2,_,rfl,rfl,F7,?_⟩
 have Jr:∀b ob,MW b=some ob->b≠z2->(upd MW z2 (.dK [])) b=some ob:=λb ob hb hn=>by rw[ai hn];exact hb
 generalize upd MW z2 (.dK [])=Sm at Jr ⊢
 have Wz:∀{b:Addr}{ob:HO},MW b=some ob->(∀xs,ob≠.dK xs)->b≠z2:=λhb ho e=>by rw[e,F7]at hb;cases hb;exact ho _ rfl
 have Sn:=Jr _ _ CW (Wz CW λ_ h=>by cases h)
 have U3:=Jr _ _ F5 (Wz F5 λ_ h=>by cases h)
 have MX:=Jr _ _ U2 z12
 refine⟨_,rfl,Jq,_,0,_,rfl,rfl,aM.of Sn,jt,z,C,dz,_,_,rfl,U3,T.cl,T.n1,tV ..,.inl ⟨rfl,_,aq.of MX⟩,z1,_,_,rfl,rfl,MX,(by rw[aaa];have:=lL.n1;exact small (by lia)),?_⟩
 have WA:∀b ob,Sm b=some ob->b≠z1->(upd Sm z1 (.lst ((aA M).switches.map V.str++[.str "zz"]))) b=some ob:=λb ob hb hn=>by rw[ai hn];exact hb
 generalize upd Sm z1 (.lst ((aA M).switches.map V.str++[.str "zz"]))=So at WA ⊢
 have keep:∀b ob,G6 b=some ob->b≠d->So b=some ob:=λb ob hb hn=>WA _ _ (Jr _ _ (Et _ _ (CQ _ _ (YA _ _ hb) hn) (ae hb Wx)) (ae hb Ww)) (ae hb Wv)
 have nd1:G1 d=none:=QI
 have Sq:ah G1 So:=λb ob hb=>keep b ob (Sf _ _ hb) (ae hb nd1)
 have YB:MO C So y dy y1 y2 y3 y4 y5 y6 us (aA M):=(Jp.same xV).keep λb ob hb hc=>keep b ob hb (by
  rcases hc with hc|⟨r,rfl⟩
  . rcases aan.mp hc with rfl|hc
    . have WB:G6 b=some _:=(Jp.same xV).hx
      exact λe=>by rw[e,d6]at WB;cases WB
    . exact Yx b hc
  . exact λe=>by rw[e,d6]at hb;cases hb)
 have U4:=keep _ _ (xV _ _ pT) λe=>by have:=xV _ _ pT;rw[e,d6]at this;cases this
 refine⟨_,rfl,tp,_,0,_,rfl,rfl,aM.of U4,jt,y,dy,y1,y2,y3,y4,y5,y6,us,aA M,rfl,YB,lL,λvw3 h1 h2 h3 h4 h5 h6 G17 Sr YC=>?_⟩
 refine⟨_,rfl,vw3,dd,h1,h2,h3,h4,h5,h6,b1,b2,b3,b4,b5,b6,aA M,_,rfl,YC,(iS.same Sq).same Sr,lL,gM,λG18 YD=>⟨_,rfl,bu ?_⟩⟩
 have Ss:=Sq.trans (Sr.trans YD)
 have Su:=w1.trans Ss
 refine⟨_,rfl,x,dx,g1,g2,g3,g4,g5,g6,ts,M,names,rfl,Sb.same Su,ok,fw,λtp8 d8 u du u1 u2 u3 u4 u5 u6 us8 G19 nd8 hd8 Sv aev=>?_⟩
 refine⟨tp8,_,1,_,rfl,rfl,aM.of Sv.t,Es,d8,_,rfl,.inl hd8,λl3 tl3 G20 WC nl3 ql3 pl3=>⟨_,rfl,?_⟩⟩
 refine kh (eB (ux (f:=λn=>V.str (ba M n)) ql3 pl3) (qM ok)) (eB (Bh.same ((Ss.trans Sv.s).trans WC)) (qM ok)) (gF (qM ok)) (gG _) ⟨_,rfl,bu ?_⟩
 have Sw:=(Su.trans Sv.s).trans WC
 refine⟨_,rfl,x,dx,g1,g2,g3,g4,g5,g6,ts,M,rfl,Sb.same Sw,fw,λvw' p1 p2 p3 p4 p5 p6 J sJ hv=>?_⟩
 have WD:=jn.same (Sw.trans sJ)
 have Q0:∀z∈M.switches,su z:=λz hz=>iE (ok.nm z (ok.RF hz))
 have fx:∀r∈M.nexts.map bq,∀v∈r,ja v:=FG λr hr=>⟨iE (ok.nm _ (ok.j4 (ok.nxk r hr))),qB (ok.nxl r hr) ok.nm⟩
 have WE:∀{v b1 b2 b3 b4 b5 b6:Addr},cb J v M b1 b2 b3 b4 b5 b6->jT K J ((bU b1 b2 b3 b4 b5 b6).map (·.2)) [xG M.switches,pQ (M.keepers.map fg),pQ (M.gates.map cy),pQ (M.nexts.map bq),pQ (M.nevers.map bq),pQ (M.somes.map bq)]:=λh=>
  .cons (.lst (aq.of h.sw) (rE _)) (.cons (eB h.kp (xH ok)) (.cons (eB h.gt (xI ok)) (.cons (eB h.nx fx) (.cons (eB h.nv (mq ok.nm ok.nvw)) (.cons (eB h.sm (mq ok.nm ok.smw)) .nil)))))
 refine⟨_,rfl,vw',kv,bU p1 p2 p3 p4 p5 p6,bU k1 k2 k3 k4 k5 k6,_,rfl,rfl,.inl hv.top,.inl WD.top,rfl,by show ([.inr "switches",.inr "keepers",.inr "gates",.inr "nexts",.inr "nevers",.inr "somes"]:List Key).Nodup;decide+kernel,WE hv,WE WD,λd hd=>?_,kk J⟩
 have each:d.canLay0=true/\d.depth<=2:=by
  simp only[aan,aaE,abv]at hd
  rcases hd with rfl|rfl|rfl|rfl|rfl|rfl
  . exact⟨B0 Q0,aap (B1 _) (by decide)⟩
  . exact⟨gF (xH ok),gG _⟩
  . exact⟨gF (xI ok),gG _⟩
  . exact⟨gF fx,gG _⟩
  . exact⟨gF (mq ok.nm ok.nvw),gG _⟩
  . exact⟨gF (mq ok.nm ok.smw),gG _⟩
 exact⟨each.1,each.2,ady d each.1⟩
end
section
theorem all_mk{l:W.OpenLaw}{w:World}{K:W.Frag}{h:Heap}{mg:Str->Option Value}{fa CM Sx f2 f3 f4 f6 f8 f9 Sy Sz SA SD SE SF SG SH SI SJ SK SM SN SO SQ SR SS MY MZ SU SV SW SX SY S0 S1 S2 S3 S4 S5 S6 S7 WG:Addr}(X:K.In h)(G:h.Ns mainGlobals mg) (hfa:mg "law" = some (.ref fa))
 {S8 d2 d3 d4 d6 d8 d9 WH L5 L6 L7 L8 L9 WI WJ WK WL WM Ma Mb Mc Md WN WO WQ WR WS WT WU Me Mf Mg WV WW WX WY WZ W0 W2 W3:FuncData}
 (aCM:W.nsIn K mainGlobals "Machine" = some (some (.ref CM)))
 (W4:Mk K CM Sx) (Lm:aO K "__init__" "Machine.__init__" Ft Sx S8)
 (a2:W.nsIn K mainGlobals "turned" = some (some (.ref f2))) (F2:aO K "turned" "turned" yy f2 d2)
 (a3:W.nsIn K mainGlobals "next_of" = some (some (.ref f3))) (F3:aO K "next_of" "next_of" yz f3 d3)
 (a4:W.nsIn K mainGlobals "names_of" = some (some (.ref f4))) (F4:aO K "names_of" "names_of" BP f4 d4)
 (a6:W.nsIn K mainGlobals "bare_name" = some (some (.ref f6))) (F6:aO K "bare_name" "bare_name" FA f6 d6)
 (a8:W.nsIn K mainGlobals "carried" = some (some (.ref f8))) (F8:aO K "carried" "carried" wa f8 d8)
 (a9:W.nsIn K mainGlobals "round_of" = some (some (.ref f9))) (F9:aO K "round_of" "round_of" BW f9 d9)
 (a10:W.nsIn K mainGlobals "literals_carried" = some (some (.ref Sy))) (S9:aO K "literals_carried" "literals_carried" FC Sy WH)
 (a12:W.nsIn K mainGlobals "by_settled" = some (some (.ref Sz))) (Ta:aO K "by_settled" "by_settled" K4 Sz L5)
 (a13:W.nsIn K mainGlobals "is_opened" = some (some (.ref SA))) (Tb:aO K "is_opened" "is_opened" FN SA L6)
 (a14:W.nsIn K mainGlobals "values_with" = some (some (.ref SD))) (Tc:aO K "values_with" "values_with" Rq SD L7)
 (a15:W.nsIn K mainGlobals "bit_of" = some (some (.ref SE))) (Td:aO K "bit_of" "bit_of" Ck SE L8)
 (a16:W.nsIn K mainGlobals "lesser_bit" = some (some (.ref SF))) (Te:aO K "lesser_bit" "lesser_bit" yL SF L9)
 (a18:W.nsIn K mainGlobals "_law_cell_at" = some (some (.ref SG))) (Js:aO K "_law_cell_at" "_law_cell_at" EZ SG WI)
 (a19:W.nsIn K mainGlobals "_law_mix" = some (some (.ref SH))) (Jt:aO K "_law_mix" "_law_mix" E3 SH WJ)
 (a20:W.nsIn K mainGlobals "_law_rich" = some (some (.ref SI))) (M1:aO K "_law_rich" "_law_rich" E5 SI WK)
 (a21:W.nsIn K mainGlobals "_law_pick" = some (some (.ref SJ))) (Eu:aO K "_law_pick" "_law_pick" uB SJ WL)
 (a22:W.nsIn K mainGlobals "_law_spelt" = some (some (.ref SK))) (M3:aO K "_law_spelt" "_law_spelt" qg SK WM)
 (a23:W.nsIn K mainGlobals "_law_literal" = some (some (.ref SM))) (M4:aO K "_law_literal" "_law_literal" qV SM Ma)
 (a24:W.nsIn K mainGlobals "_law_wishes" = some (some (.ref SN))) (Tf:aO K "_law_wishes" "_law_wishes" yd SN Mb)
 (a25:W.nsIn K mainGlobals "_law_machine_digits" = some (some (.ref SO))) (Tg:aO K "_law_machine_digits" "_law_machine_digits" g0 SO Mc)
 (a26:W.nsIn K mainGlobals "_law_machine" = some (some (.ref SQ))) (Th:aO K "_law_machine" "_law_machine" lS SQ Md)
 (a27:W.nsIn K mainGlobals "_law_made" = some (some (.ref SR))) (Ti:aO K "_law_made" "_law_made" Fz SR WN)
 (a28:W.nsIn K mainGlobals "_law_great" = some (some (.ref SS))) (Tj:aO K "_law_great" "_law_great" Ce SS WO)
 (a29:W.nsIn K mainGlobals "_law_values" = some (some (.ref MY))) (M5:aO K "_law_values" "_law_values" yq MY WQ)
 (a30:W.nsIn K mainGlobals "_law_bit" = some (some (.ref MZ))) (Ju:aO K "_law_bit" "_law_bit" Kn MZ WR)
 (a31:W.nsIn K mainGlobals "_law_next" = some (some (.ref SU))) (Tn:aO K "_law_next" "_law_next" Fv SU WS)
 (a32:W.nsIn K mainGlobals "_law_view" = some (some (.ref SV))) (To:aO K "_law_view" "_law_view" FF SV WT)
 (a33:W.nsIn K mainGlobals "_law_order" = some (some (.ref SW))) (Tq:aO K "_law_order" "_law_order" BZ SW WU)
 (a34:W.nsIn K mainGlobals "_law_next_literals" = some (some (.ref SX))) (Tr:aO K "_law_next_literals" "_law_next_literals" KG SX Me)
 (a35:W.nsIn K mainGlobals "_law_alike" = some (some (.ref SY))) (Ts:aO K "_law_alike" "_law_alike" xF SY Mf)
 (a36:W.nsIn K mainGlobals "_law_along" = some (some (.ref S0))) (Tt:aO K "_law_along" "_law_along" B6 S0 Mg)
 (a37:W.nsIn K mainGlobals "_law_all_first" = some (some (.ref S1))) (Tu:aO K "_law_all_first" "_law_all_first" FH S1 WV)
 (a38:W.nsIn K mainGlobals "_law_closer" = some (some (.ref S2))) (Tv:aO K "_law_closer" "_law_closer" Lj S2 WW)
 (a39:W.nsIn K mainGlobals "_law_open" = some (some (.ref S3))) (Tw:aO K "_law_open" "_law_open" FU S3 WX)
 (a40:W.nsIn K mainGlobals "_law_open_values" = some (some (.ref S4))) (Tx:aO K "_law_open_values" "_law_open_values" Lc S4 WY)
 (a41:W.nsIn K mainGlobals "_law_settled" = some (some (.ref S5))) (Tz:aO K "_law_settled" "_law_settled" Lf S5 WZ)
 (a42:W.nsIn K mainGlobals "_law_led" = some (some (.ref S6))) (TB:aO K "_law_led" "_law_led" Lb S6 W0)
 (a43:W.nsIn K mainGlobals "_law_due" = some (some (.ref S7))) (TF:aO K "_law_due" "_law_due" Lg S7 W2)
 (W5:W.nsIn K mainGlobals "law" = some (some (.ref WG))) (W6:aO K "law" "law" CK WG W3)
 (cM:uW K CM) (n1:eQ K CM "switches") (n2:eQ K CM "keepers") (n3:eQ K CM "gates") (n4:eQ K CM "nexts") (n5:eQ K CM "nevers") (n6:eQ K CM "somes")
 (z0:W.nsIn K mainGlobals "len" = some none) (z1:W.nsIn K mainGlobals "range" = some none) (z2:W.nsIn K mainGlobals "enumerate" = some none) (z3:W.nsIn K mainGlobals "list" = some none) (z4:W.nsIn K mainGlobals "dict" = some none) (z5:W.nsIn K mainGlobals "tuple" = some none) (z6:W.nsIn K mainGlobals "str" = some none) (z7:W.nsIn K mainGlobals "int" = some none) (z8:W.nsIn K mainGlobals "bool" = some none) (z9:W.nsIn K mainGlobals "zip" = some none) (z10:W.nsIn K mainGlobals "all" = some none) (z11:W.nsIn K mainGlobals "isinstance" = some none)
 (tc:R9 K CM)
 :
 ∃fd:FuncData,(∀(s:Shared) (v:Value),BindsTo s fd ⟨[v],[]⟩ [("_law_script",v)])/\∀base:Heap,K.In base->base.Ns mainGlobals mg->aR l.prog w K mg base aY 6 fa fd ["_law_script"] (Ax K):=by
 have e:=hfa.symm.trans (abp X G W5)
 cases e
 have TM:pO K mg CM:=⟨cM,n1,n2,n3,n4,n5,n6,abp X G aCM⟩
 have O:Own mg:=⟨abH X G z0,abH X G z1,abH X G z2,abH X G z3⟩
 have O2:gw mg:=⟨abH X G z0,abH X G z3,abH X G z4,abH X G z5,abH X G z6,abH X G z7,abH X G z8,abH X G z9,abH X G z10,abH X G z11⟩
 have TH:Binds K S8 o7 []:=Lm.b7
 have m2:=abp X G a2
 have b2:Binds K d2 ["literal"] []:=F2.b1
 have m3:=abp X G a3
 have b3:Binds K d3 ["machine", "keeper"] []:=F3.b2
 have m4:=abp X G a4
 have b4:Binds K d4 ["machine"] []:=F4.b1
 have m6:=abp X G a6
 have b6:Binds K d6 ["literal"] []:=F6.b1
 have m8:=abp X G a8
 have b8:Binds K d8 ["names", "literal"] []:=F8.b2
 have m9:=abp X G a9
 have b9:Binds K d9 ub []:=F9.b4
 have Jn:=abp X G a10
 have b10:Binds K WH ["names", "literals"] []:=S9.b2
 have m12:=abp X G a12
 have b12:Binds K L5 ["machine"] []:=Ta.b1
 have m13:=abp X G a13
 have RW:Binds K L6 ["machine", "values", "keeper"] []:=Tb.b3
 have m14:=abp X G a14
 have b14:Binds K L7 ["machine", "bits"] []:=Tc.b2
 have m15:=abp X G a15
 have b15:Binds K L8 ["values", "literal"] []:=Td.b2
 have m16:=abp X G a16
 have b16:Binds K L9 ["one", "other"] []:=Te.b2
 have TJ:=abp X G a18
 have TK:Binds K WI ["_law_script", "_law_k"] []:=Js.b2
 have TL:=abp X G a19
 have TN:Binds K WJ ["_law_cell", "_law_k"] []:=Jt.b2
 have W7:=abp X G a20
 have W8:Binds K WK ["_law_cell", "_law_k"] []:=M1.b2
 have M6:=abp X G a21
 have M7:Binds K WL ["_law_left", "_law_many"] []:=Eu.b2
 have W9:=abp X G a22
 have Xa:Binds K WM ["_law_left", "_law_told"] []:=M3.b2
 have Xb:=abp X G a23
 have ML:Binds K Ma ["_law_left", "_law_names"] []:=M4.b2
 have m24:=abp X G a24
 have b24:Binds K Mb nR []:=Tf.b4
 have m25:=abp X G a25
 have b25:Binds K Mc tE []:=Tg.b2
 have m26:=abp X G a26
 have b26:Binds K Md Bo []:=Th.b2
 have m27:=abp X G a27
 have b27:Binds K WN ["_law_m"] []:=Ti.b1
 have m28:=abp X G a28
 have b28:Binds K WO ["_law_script", "_law_m"] []:=Tj.b2
 have Xc:=abp X G a29
 have Xd:Binds K WQ qv []:=M5.b3
 have TQ:=abp X G a30
 have TR:Binds K WR ["_law_values_here", "_law_literal_here"] []:=Ju.b2
 have m31:=abp X G a31
 have b31:Binds K WS qv []:=Tn.b3
 have m32:=abp X G a32
 have b32:Binds K WT ["_law_machine_here"] []:=To.b1
 have m33:=abp X G a33
 have b33:Binds K WU ["_law_m"] []:=Tq.b1
 have m34:=abp X G a34
 have b34:Binds K Me ["_law_m"] []:=Tr.b1
 have m35:=abp X G a35
 have b35:Binds K Mf ["_law_view_here", "_law_due_here"] []:=Ts.b2
 have m36:=abp X G a36
 have b36:Binds K Mg uf []:=Tt.b4
 have m37:=abp X G a37
 have b37:Binds K WV ["_law_m"] []:=Tu.b1
 have m38:=abp X G a38
 have b38:Binds K WW ["_law_script", "_law_m"] []:=Tv.b2
 have m39:=abp X G a39
 have b39:Binds K WX ["_law_values_here", "_law_literal_here"] []:=Tw.b2
 have m40:=abp X G a40
 have b40:Binds K WY ["_law_m", "_law_stand"] []:=Tx.b2
 have m41:=abp X G a41
 have b41:Binds K WZ ["_law_m"] []:=Tz.b1
 have m42:=abp X G a42
 have b42:Binds K W0 ["_law_values_here", "_law_literal_here"] []:=TB.b2
 have m43:=abp X G a43
 have b43:Binds K W2 ["_law_m"] []:=TF.b1
 have m44:=abp X G W5
 refine⟨W3,λs v=>?_,λbase _ _=>?_⟩
 . obtain⟨_,_,_,_,_,_,_,_,_,rfl,_⟩:=W6.ex
   exact .of_eq rfl
 have gP:aR l.prog w K mg base aY 1 SJ _ ["_law_left", "_law_many"] sY:=ye Eu O
 have gS:aR l.prog w K mg base aY 2 SK _ ["_law_left", "_law_told"] (uD K):=Bd M3 O Eu M7 M6
 have gL:aR l.prog w K mg base aY 2 SM _ ["_law_left", "_law_names"] (oU K):=wZ M4 O Eu M7 M6
 have gW:aR l.prog w K mg base aY 3 SN _ nR (vR K):=Hw Tf O Eu M7 M6 M3 Xa W9 M4 ML Xb
 have gR:aR l.prog w K mg base aY 2 SI _ ["_law_cell", "_law_k"] wQ:=Nr M1 O Jt TN TL
 have gD:aR l.prog w K mg base aY 4 SO _ tE (qX K):=HD Tg ⟨O,gP,M6,Eu.kp,M7,gS,W9,M3.kp,Xa,gL,Xb,M4.kp,ML,gW,m24,Tf.kp,b24,gR,W7,M1.kp,W8⟩
 have Ln:aR l.prog w K mg base aY 1 MZ _ ["_law_values_here", "_law_literal_here"] qu:=QB Ju O2
 have Xe:aR l.prog w K mg base aY 2 MY _ qv (oE K):=Ig M5 O2 Ln TQ Ju.kp TR
 have cC:cc l.prog w K mg base 1 SG _ "_law_cell_at" ["_law_script", "_law_k"] (qi K):=⟨Nq Js O,TJ,Js.kp,TK⟩
 have cX:cc l.prog w K mg base 1 SH _ "_law_mix" ["_law_cell", "_law_k"] uC:=⟨Hq Jt,TL,Jt.kp,TN⟩
 have cM:cc l.prog w K mg base 5 SQ _ "_law_machine" Bo (tJ K):=⟨Fc Th O gD m25 Tg.kp b25 cC.g TJ Js.kp TK gR W7 M1.kp W8,m26,Th.kp,b26⟩
 have cMd:cc l.prog w K mg base 3 SR _ "_law_made" ["_law_m"] (BR CM):=⟨NQ Ti TM O2 W4 (DS Lm TM O2) TH,m27,Ti.kp,b27⟩
 have cG:cc l.prog w K mg base 2 SS _ "_law_great" ["_law_script", "_law_m"] (yJ K):=⟨KQ Tj ⟨O,cC.g,TJ,Js.kp,TK,cX.g,TL,Jt.kp,TN⟩,m28,Tj.kp,b28⟩
 have cB:cc l.prog w K mg base 1 f6 _ "bare_name" ["literal"] xC:=⟨NR F6,m6,F6.kp,b6⟩
 have cT:cc l.prog w K mg base 1 f2 _ "turned" ["literal"] BU:=⟨Iy F2,m2,F2.kp,b2⟩
 have cNo:cc l.prog w K mg base 1 f3 _ "next_of" ["machine", "keeper"] (yA CM):=⟨Kw F3 TM,m3,F3.kp,b3⟩
 have cNm:cc l.prog w K mg base 1 f4 _ "names_of" ["machine"] (yw CM):=⟨Kt F4 TM O2,m4,F4.kp,b4⟩
 have Xf:cc l.prog w K mg base 2 f8 _ "carried" ["names", "literal"] ph:=⟨FD F8 cB cT,m8,F8.kp,b8⟩
 have cLc:cc l.prog w K mg base 3 Sy _ "literals_carried" ["names", "literals"] BV:=⟨NU S9 O2 Xf,Jn,S9.kp,b10⟩
 have cR:cc l.prog w K mg base 4 f9 _ "round_of" ub (yC CM):=⟨Kz F9 TM O2 Xf cLc W4 (DS Lm TM O2) TH,m9,F9.kp,b9⟩
 have Xg:cc l.prog w K mg base 2 SE _ "bit_of" ["values", "literal"] uN:=⟨KZ Td O2 cB,m15,Td.kp,b15⟩
 have cLs:cc l.prog w K mg base 1 SF _ "lesser_bit" ["one", "other"] wg:=⟨IW Te,m16,Te.kp,b16⟩
 have cVw:cc l.prog w K mg base 3 SD _ "values_with" ["machine", "bits"] (K1 CM):=⟨UX Tc TM O2 Xg cLs,m14,Tc.kp,b14⟩
 have cIo:cc l.prog w K mg base 3 SA _ "is_opened" ["machine", "values", "keeper"] (Cn CM):=⟨Oe Tb Xg cNo,m13,Tb.kp,RW⟩
 have cCo:cc l.prog w K mg base 5 Sz _ "by_settled" ["machine"] (FR CM):=⟨RE Ta TM O2 cVw cIo cNm cR,m12,Ta.kp,b12⟩
 have cV:cc l.prog w K mg base 1 SV _ "_law_view" ["_law_machine_here"] (B2 CM):=⟨NZ To TM O2,m32,To.kp,b32⟩
 have cO:cc l.prog w K mg base 1 SW _ "_law_order" ["_law_m"] uM:=⟨KH Tq O2,m33,Tq.kp,b33⟩
 have Xh:cc l.prog w K mg base 1 SX _ "_law_next_literals" ["_law_m"] Ar:=⟨QZ Tr O2,m34,Tr.kp,b34⟩
 have cA:cc l.prog w K mg base 2 SY _ "_law_alike" ["_law_view_here", "_law_due_here"] yH:=⟨KI Ts Xh,m35,Ts.kp,b35⟩
 have TU:l8 l.prog w K mg base 1 S3 _ "_law_open" ["_law_values_here", "_law_literal_here"] uv:=⟨Ol Tw O2,m39,Tw.kp,b39⟩
 have cOv:l8 l.prog w K mg base 2 S4 _ "_law_open_values" ["_law_m", "_law_stand"] FV:=⟨RP Tx O2 TU,m40,Tx.kp,b40⟩
 have cSt:l8 l.prog w K mg base 3 S5 _ "_law_settled" ["_law_m"] FW:=⟨RQ Tz O O2 TU cOv Xh,m41,Tz.kp,b41⟩
 have cLd:l8 l.prog w K mg base 2 S6 _ "_law_led" ["_law_values_here", "_law_literal_here"] xT:=⟨RK TB O2 TU,m42,TB.kp,b42⟩
 have cD:l8 l.prog w K mg base 4 S7 _ "_law_due" ["_law_m"] FX:=⟨Oo TF O2 cSt cLd cO,m43,TF.kp,b43⟩
 have cCl:cc l.prog w K mg base 2 S2 _ "_law_closer" ["_law_script", "_law_m"] (FY K):=⟨R1 Tv O O2 cC cX,m38,Tv.kp,b38⟩
 have cF:cc l.prog w K mg base 1 S1 _ "_law_all_first" ["_law_m"] B5:=⟨N1 Tu O O2,m37,Tu.kp,b37⟩
 have cVs:cc l.prog w K mg base 2 MY _ "_law_values" qv (oE K):=⟨Xe,Xc,M5.kp,Xd⟩
 have cBt:cc l.prog w K mg base 1 MZ _ "_law_bit" ["_law_values_here", "_law_literal_here"] qu:=⟨Ln,TQ,Ju.kp,TR⟩
 have cNx:cc l.prog w K mg base 3 SU _ "_law_next" qv (BK K):=⟨Kq Tn O2 Xe Xc M5.kp Xd Ln TQ Ju.kp TR,m31,Tn.kp,b31⟩
 have cL:cc l.prog w K mg base 4 S0 _ "_law_along" uf (yI K):=⟨KN Tt O O2 cF cX cC cVs cBt cNx,m36,Tt.kp,b36⟩
 exact Sa W6 TM tc O2 cM cCl cG cMd cV cD cCo cA cL cO
theorem walk{l:W.OpenLaw}{q:Program}{loose:List Str}{XP:(Str->Option Value)->Heap->Prop}{YP:World->Heap->Prop}{d:DefRec}{K:Params->W.Frag}(hn:l.most=some 63) (AW:d.params.defaults=[])
 (hY:∀(w:World) (h:Heap),YP w h->(K w.params).In h)
 (F:∀(w:World) (mg:Str->Option Value) (fa:Addr) (h:Heap),(K w.params).In h->h.Ns mainGlobals mg->mg d.name=some (.ref fa)->
  ∃fd:FuncData,(∀(s:Shared) (u:Value),BindsTo s fd ⟨[u],[]⟩ [("_law_script",u)])/\∀base:Heap,(K w.params).In base->base.Ns mainGlobals mg->aR l.prog w (K w.params) mg base aY 6 fa fd ["_law_script"] (Ax (K w.params))) :
 W.WalkO q loose XP YP l.row.toRowW d [] (λf vs=>PySem.call f vs):=
 L2.Nk (n:=63) (k:=6) (x:="_law_script") (CX:=λ_=>aY) (sp:=λw=>Ax (K w.params)) hn (by decide) AW ⟨rfl,by decide,by decide⟩ hY F (λ_ _ a ns hl _ hS=>⟨a,ns,rfl,hS,λ_=>rfl⟩) λ_ _ _ _ _ z=>z
end
end Gen
open PySem PySem.W PyProof.Rows
inductive PySem.W.Fast : Prop
|tw6320557715177578254
|tw9583018001576969917
|tw4171321526450736202
|tw9653545557556817132
|tw12145704887004899415
|tw6794497271707834091
|tw209056944636930086
|tw18058095285767183970
|tw3859566542292355342
|tw5157890691397570526
|tw911135406057351756
|tw6561585056659784309
|tw3518348945892491903
|tw2290606250332103737
|tw17572485388361853609
|tw10035196483594487163
|tw1970219876493235020
|tw17601823853493356267
|tw3209729099853033985
|tw9551653806862434638
|tw4705004073168535725
|tw17323668461881881442
|tw14476612188530707299
|tw11950974603339365444
|tw7473128265594617879
|tw6201361094376628573
|tw14437732994284765560
|tw16082044263411582249
|tw7914722277003035396
|tw14218410627419938351
|tw3941766891031293487
|tw7705446002117100641
|tw16686492729303520347
|tw15248336947354419020
|tw14458242743445176473
|tw4670878487663208259
|tw7049773655979934249
|tw12791614408595746921
|tw13086296260685351090
|tw3394071452957808446
|tw17727831178403419697
|tw977334309728560048
|tw11649450495356296823
|tw12509741726417623098
|tw12648061031933994109
|tw2177849056915987150
|tw14446190004451353890
|tw231038524026708179
|tw2079117983306278294
|tw2873241655770445068
|tw7258558454609280975
|tw1367288464181061483
|tw8002163210798115165
|tw9748604626548221747
|tw2828720419119802287
|tw4226469254503017009
|tw15649360943405401955
|tw14021268472747053160
|tw7359068340393386953
|tw4675899392907499910
|tw1718147572636683683
|tw1221902897636335206
|tw15346525991788110951
|tw2850056770364138023
|tw5268133144920075984
|tw15784802214759291860
|tw7009556878201555985
|tw17373019366931795796
|tw138060496319528689
|tw18256233961746102940
|tw2417126907836670497
|tw11182575153313619959
|tw10455228302167857489
|tw6126354621644718612
|tw15122454502788975488
|tw8814968383313526534
|tw9335329241333581706
|tw16899670524733910862
|tw1515681002080978741
|tw712178010818011222
|tw347658251396168059
|tw13527499785972323408
|tw14037659587912744302
|tw13509680617498711704
|tw3201743190338999060
|tw3336566632087604128
|tw14137037320535283360
|tw6134506303196179205
|tw8477177771514343504
|tw15193657473601916871
|tw6556179090376920908
|tw7642309053206400151
|tw3690912871005781425
|tw8444977461449707844
|tw15811408772325856377
|tw17534509044304961725
|tw15856622071781887444
|tw13773358475072173436
|tw5869019468068765059
|tw13196471208366286711
|tw15877847859645206652
|tw5299225151761286890
|tw2219819962483324990
|tw16229610988775009674
|tw15378285156777786922
|tw15682570302038721398
|tw11821966026362510085
|tw12202263047715524765
|tw16975589060499865652
|tw1553339019883469446
|tw5916264368000397676
|tw17072570510547171359
|tw1313311770118781828
|tw6654665600926341846
|tw10962030121403470167
|tw15498770448388135601
|tw7834160650666293498
|tw14331589488982910641
|tw17305716061339971013
|tw4836168447292707904
|tw386108064030399304
|tw14801754558871774478
|tw2226121353413684632
|tw15937359222993249843
|tw10005146329422249155
|tw1294326879903658138
|tw4370054199787510496
|tw4131871887763625743
|tw6098016047538731070
|tw15615869039642521056
|tw11952328679360828869
|tw16249273171247676606
|tw15900184235316964088
|tw2310574281202068272
|tw9569471741065915821
|tw16947545278924635346
|tw3585387198769580864
|tw1077889059260849879
|tw1659337708300475979
|tw4964924626094223135
|tw12720214434820006763
|tw2215155984821623507
|tw1351363693538276098
|tw9085597995889291184
|tw15290704564417525833
|tw12396155130926920868
|tw6084976048672194332
|te6084976048672194332
|tw12409934420400828332
|tw10928054809829921799
|tw5014164603925236220
set_option maxRecDepth 100000 in
set_option maxHeartbeats 0 in
theorem PySem.Challenge.cw_everguard_k49_settled_holds : PySem.Challenge.rw_everguard_k49_settled.Holds := by
 w_on; o_law; k_head; (case hw=>w_witness2)
 k_fill
 refine Gen.walk (l:=PySem.Challenge.rw_everguard_k49_settled) rfl rfl (λw h Y=>W.kIn_of Y) ?F
 case F=>
  intro w mg fa h KX G GI
  refine' Gen.all_mk KX G GI ?_ ?_ ?_ ?_ ?_ ?_ ?_ ?_ ?_ ?_ ?_ ?_ ?_ ?_ ?_ ?_ ?_ ?_ ?_ ?_ ?_ ?_ ?_ ?_ ?_ ?_ ?_ ?_ ?_ ?_ ?_ ?_ ?_ ?_ ?_ ?_ ?_ ?_ ?_ ?_ ?_ ?_ ?_ ?_ ?_ ?_ ?_ ?_ ?_ ?_ ?_ ?_ ?_ ?_ ?_ ?_ ?_ ?_ ?_ ?_ ?_ ?_ ?_ ?_ ?_ ?_ ?_ ?_ ?_ ?_ ?_ ?_ ?_ ?_ ?_ ?_ ?_ ?_ ?_ ?_ ?_ ?_ ?_ ?_ ?_ ?_ ?_ ?_ ?_ ?_ ?_ ?_ ?_ ?_ ?_ ?_ ?_ ?_ ?_ ?_ ?_
  all_goals first | (apply Gen.R9.mk <;> k_is) | (apply L2.O5 <;> k_is) | (apply L2.Meth.mk <;> k_is) | (apply L2.Mk.mk <;> k_is) | (apply L2.uW.mk <;> k_is) | k_is | (unfold L2.eQ; k_is) | skip
#print axioms PySem.Challenge.cw_everguard_k49_settled_holds
