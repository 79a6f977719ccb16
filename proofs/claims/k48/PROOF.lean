import PyProof.Rows.All
import Wide.All
import OpenK.AllK
import PySem.Challenge.RW_everguard_k48_cones
set_option Elab.async false
set_option compiler.extract_closed false
set_option linter.all false
set_option maxRecDepth 100000
def aaa:=@List.length_map
def aab:=@PySem.wpAny_bind
def aac:=@PySem.Heap.get?_push_of_some
def aad:=@List.getElem?_eq_getElem
def aae:=@List.mem_append
def aaf:=@List.length_append
def aag:=@List.map_append
def aah:=@Nat.le_refl
def aai:=@List.mem_singleton
def aaj:=@PySem.wpAny_pure
def aak:=@List.mem_map
def aal:=@List.mem_cons
def aam:=@PySem.Heap.lt_size
def aan:=@List.getElem?_map
def aao:=@Nat.le_trans
def aap:=@List.mem_filter
def aaq:=@PySem.Heap.get?_push_size
def aar:=@List.size_toArray
def aas:=@List.getElem?_eq_some_iff
def aat:=@List.length_singleton
def aau:=@Ne.symm
def aav:=@List.nodup_append
def aaw:=@Nat.ne_of_lt
def aax:=@Bool.false_ne_true
def aay:=@List.map_cons
def aaz:=@List.mem_cons_of_mem
def aaH:=@List.not_mem_nil
def aaQ:=@PyProof.Rows.boot_dict
def aaR:=@List.mem_cons_self
def aaS:=@Option.some.inj
def aaT:=@List.mem_of_getElem?
def aaU:=@decide_eq_true
def aaV:=@Nat.lt_of_lt_of_le
def aaW:=@decide_eq_false
def aaX:=@PySem.F.plainAttrs_list
def aaY:=@if_neg
def aaZ:=@List.mem_append_right
def aa0:=@List.nodup_cons
def aa1:=@List.map_map
def aa2:=@List.filter_cons_of_pos
def aa3:=@List.length_take
def aa4:=@if_pos
def aa5:=@List.filter_cons_of_neg
def aa6:=@PySem.PassesOwn.never
def aa7:=@List.length_filter_le
def aa8:=@List.take_of_length_le
def aa9:=@PySem.wpAny_field
def aba:=@of_decide_eq_true
def abb:=@decide_eq_true_eq
def abc:=@Nat.ne_of_gt
def abd:=@PySem.F.slot_list_append
def abe:=@PySem.F.type_list_append
def abf:=@List.find?_cons_of_pos
def abg:=@List.find?_cons_of_neg
def abh:=@PySem.wpAny_seqItems
def abi:=@PyProof.Rows.callWith_type1
def abj:=@PySem.wpAny_callSpecial?_slot
def abk:=@PySem.wpAny_setField_rec
def abl:=@List.length_cons
def abm:=@Nat.le_add_right
def abn:=@List.length_zip
def abo:=@List.append_assoc
def abp:=@List.take_length
def abq:=@PySem.wpAny_holding
def abr:=@PyProof.Rows.boot_list
def abt:=@List.getElem?_append_left
def abu:=@Bool.and_eq_true
def abv:=@PySem.wpAny_call_entry
def abw:=@List.append_nil
def abx:=@PySem.F.slot_zip_next
def aby:=@PySem.Calls.spliced_cons
def abz:=@List.filter_append
def abA:=@List.getElem?_append_right
def abB:=@beq_eq_false_iff_ne
def abC:=@List.length_eq_zero_iff
def abD:=@List.getElem_mem
def abE:=@PySem.Heap.size_push
def abF:=@or_false
def abG:=@PySem.wpAny_passesOwn
def abH:=@Bool.eq_iff_iff
def abI:=@List.filter_eq_self
def abJ:=@PySem.W.mg_of
def abK:=@List.all_eq_true
def abL:=@List.take_succ
def abM:=@Nat.zero_le
def abN:=@List.mem_of_mem_take
def abO:=@PySem.wpAny_Call_Name_kw
def abP:=@Int.emod_lt_of_pos
def abQ:=@List.forIn_cons
def abR:=@PySem.W.mg_none_of
def abS:=@PySem.boot_len
def abT:=@Nat.lt_irrefl
def abU:=@Nat.lt_of_le_of_lt
def abV:=@List.nil_append
def abW:=@Int.emod_nonneg
def abX:=@List.zip_cons_cons
def abY:=@PySem.Calls.callWith_builtin
def abZ:=@PySem.F.plainAttrs_str
def ab0:=@PySem.wpAny_mono
def ab1:=@Int.toNat_natCast
def ab2:=@List.map_congr_left
def ab3:=@Array.getElem?_eq_getElem
def ab4:=@List.drop_eq_getElem_cons
def ab5:=@Nat.le_of_eq
def ab6:=@List.getElem?_eq_none
def ab7:=@Option.toList_some
def ab8:=@PySem.Paired.snoc
def ab9:=@PySem.wpAny_typeNameOfWhole_keyiter
def aca:=@PySem.wpAny_updateSeq_pair
def acb:=@PySem.F.plainAttrs_dict
def acd:=@PySem.F.slot_dict_keyiterator_next
def ace:=@List.map_nil
def acf:=@List.forIn_nil
def acg:=@List.nodup_nil
def ach:=@PySem.Calls.spliced_nil
def aci:=@PySem.F.args_zip_next_1
def acj:=@List.getElem_of_mem
def ack:=@PySem.F.slot_tuple_iterator_next
def acm:=@PySem.F.entry_zip_next
def acn:=@Bool.false_eq_true
def aco:=@List.mem_of_find?_eq_some
def acp:=@List.mem_append_left
def acq:=@List.of_mem_zip
def acr:=@List.filter_congr
def acs:=@PySem.F.slot_list_getattribute
def acu:=@PySem.wpAny_typeNameOf_keyiter
def acv:=@PySem.mem_of_lookup
def acw:=@List.take_succ_cons
def acx:=@List.map_take
def acy:=@PySem.wpAny_onRaise
def acz:=@PySem.F.slot_zip_getattribute
def acA:=@PySem.F.slot_dict_items
def acB:=@PyProof.Rows.boot_tuple
def acC:=@Nat.add_sub_cancel_left
def acD:=@List.lookup_cons
def acE:=@Nat.min_le_right
def acF:=@PySem.tupleKind_room_in1
def acG:=@PyProof.Rows.boot_isinstance
def acH:=@Sum.inr.inj
def acI:=@PySem.wpAny_execs_nil
def acJ:=@List.find?_cons
def acK:=@PySem.builtinLookup_eq_fast
def acL:=@PySem.F.slot_str_startswith
def acM:=@PySem.F.type_str_startswith
def acN:=@PySem.Paired.length
def acO:=@List.any_cons
def acP:=@Nat.lt_succ_of_lt
def acQ:=@PySem.wpAny_newObj_type
def acR:=@List.length_range
def acS:=@PySem.wpAny_attempt
def acT:=@PySem.Around.under_plainId
def acU:=@PySem.F.args_object_init_3
def acV:=@PySem.W.kia_one
def acW:=@PySem.wpAny_execs_cons
def acX:=@if_false
def acY:=@List.zipIdx_cons
def acZ:=@List.range'_succ
def ac0:=@List.map_fst_zip
def ac1:=@Nat.le_succ
def ac2:=@Nat.add_le_add_left
def ac3:=@PySem.Heap.SameBut.update
def ac4:=@PySem.typeIs_str
def ac5:=@PySem.call_meets
def ac6:=@PySem.wpAny_rule
def ac7:=@List.length_nil
def ac8:=@PySem.F.slot_dict_clear
def ac9:=@PySem.wpAny_Call_method0_late
def ada:=@PySem.Obj.data_mapFields
def adb:=@List.zipIdx_nil
def ade:=@PySem.wpAny_pyIter_tuple
def adf:=@List.find?_eq_none
def adg:=@PySem.wpAny_pyNext_list_item
def adh:=@List.getElem_cons_succ
def adi:=@Array.getElem?_eq_none
def adj:=@PySem.wpAny_pyIter_list
def adk:=@if_true
def adl:=@PySem.wpAny_letGo
def adm:=@List.mem_range
def adn:=@List.take_zero
def ado:=@Nat.le_of_lt
def adp:=@PySem.wpAny_pyNext_list_end
def adq:=@PySem.F.slot_dict_get
def ads:=@PySem.Heap.get?_update_self
def adt:=@PySem.wpAny_typeOf
def adu:=@PySem.F.args_dict_keyiterator_next_1
def adv:=@PyProof.Rows.boot_int
def adw:=@Nat.lt_succ_self
def adx:=@List.take_append_of_le_length
def ady:=@PySem.F.typeCall_zip_2
def adz:=@PySem.wpAny_pyIter_zip
def adA:=@PySem.F.entry_dict_keyiterator_next
def adB:=@List.filter_cons
def adC:=@PySem.F.slot_dict_itemiterator_iter
def adD:=@List.getElem_map
def adE:=@List.map_snd_zip
def adF:=@PySem.Heap.get?_none_of_le
def adG:=@PySem.Calls.evalArgs_plain
def adH:=@PySem.SeqAt.eqv_refl
def adI:=@PySem.F.args_tuple_iterator_next_1
def adJ:=@beq_iff_eq
def adK:=@List.filterMap_cons
def adL:=@Array.length_toList
def adM:=@PySem.evalArgs_none
def adN:=@ne_true_of_eq_false
def adO:=@PySem.typeLookup_type
def adP:=@PySem.codeAny_builtin
def adQ:=@PySem.F.entry_tuple_iterator_next
def adR:=@PySem.F.newCall_zip_2
def adS:=@PySem.F.entry_zip_new
def adT:=@List.range_succ
def adU:=@List.filter_nil
def adV:=@List.filter_sublist
def adW:=@PySem.Calls.Name_function_global
def adX:=@PySem.wpAny_newFunctionEnv_cells
def adY:=@PySem.Calls.Constant_str
def adZ:=@PySem.wpAny_List_spliced
def ad0:=@PySem.codeAny_mono
def ad1:=@PySem.call_meetsIn
def ad2:=@PySem.F.args_str_split_2
def ad3:=@not_or
def ad4:=@Classical.byContradiction
def ad5:=@PySem.wpAny_dictSetHashed_pairs
def ad6:=@PySem.wpAny_setField
def ad7:=@PySem.wpAny_newTuple
def ad8:=@PySem.F.args_dict_items_1
def ad9:=@PySem.wpAny_truthy_bool
def aea:=@PySem.wpAny_Assign_Name
def aeb:=@Option.isSome_map
def aec:=@PySem.F.entry_str_split
def aed:=@List.length_erase_of_mem
def aee:=@Nat.lt_trichotomy
def aef:=@PySem.Heap.IsTuple.push
def aeg:=@PySem.F.entry_dict_items
def aeh:=@PySem.wpAny_standAt
def aei:=@PySem.F.args_dict_get_3
def aej:=@PySem.wpAny_getItem_str_slice
def aek:=@PySem.plainId_quiet
def ael:=@PySem.F.type_dict_items
def aem:=@PySem.F.type_dict_clear
def aen:=@PySem.W.cellsFrom_some
def aeo:=@List.length_drop
def aep:=@Option.getD_none
def aeq:=@beq_self_eq_true
def aer:=@PySem.F.slot_str_split
def aes:=@Array.toList_inj
def aet:=@List.any_eq_true
def aeu:=@PySem.wpAny_isInstance
def aev:=@List.getElem_zip
def aew:=@Nat.succ_le_succ
def aex:=@List.getElem?_set_self
def aey:=@PySem.F.entry_dict_get
def aez:=@List.length_pos_of_mem
def aeA:=@List.drop_of_length_le
def aeB:=@PySem.W.callWith_K
def aeC:=@Nat.lt_trans
def aeD:=@PySem.wpAny_specialOf
def aeE:=@PySem.Heap.DictOf.new
def aeF:=@PySem.SeqAt.in_listAt
def aeG:=@Array.getElem?_toList
def aeH:=@Nat.lt_or_ge
def aeI:=@Nat.min_eq_left
def aeJ:=@PySem.F.slot_list_pop
def aeK:=@PySem.F.type_list_pop
def aeL:=@List.take_append_drop
def aeM:=@List.foldl_cons
def aeN:=@PySem.F.called_zip
def aeO:=@List.getElem?_set_ne
def aeP:=@List.mem_erase_of_ne
def aeQ:=@List.mem_of_mem_drop
def aeR:=@PySem.wpAny_listPart
def aeS:=@PySem.isSubtype_stop
def aeT:=@List.map_id
def aeU:=@Array.toList_append
def aeV:=@Array.append_assoc
def aeW:=@List.mem_filterMap
def aeX:=@PySem.evalPart_none
def aeY:=@List.all_cons
def aeZ:=@List.map_drop
def ae0:=@Array.forIn_toList
def ae1:=@List.Sublist.nodup
def ae2:=@Array.size_append
def ae3:=@List.flatten_cons
def ae4:=@List.take_add_one
def ae5:=@Nat.le_succ_of_le
def ae6:=@List.foldl_append
def ae7:=@List.find?_append
def ae8:=@Nat.sub_self
def ae9:=@Int.zero_add
namespace L2
open PySem PySem.Spec PyProof.Rows
noncomputable abbrev Key:=Sum Int Str
noncomputable def jS:Key->Value->Bool
 | .inl k,v=>Value.isInt k v
 | .inr x,v=>Value.isStrOf x v
noncomputable def TL(w:World):Key->Int
 | .inl k=>hashInt k
 | .inr x=>hashStr w x
theorem eL:∀{k:Key}{v:Value},jS k v=true->(∃i t,k=Sum.inl i/\v=Value.int i t)\/(∃x t,k=Sum.inr x/\v=Value.str x t)
 | .inl i,v,h=>by
  obtain⟨t,e⟩:=Value.isInt_shape (k:=i) (v:=v) h
  exact .inl ⟨i,t,rfl,e⟩
 | .inr x,v,h=>by
  obtain⟨t,e⟩:=Value.isStrOf_shape (x:=x) (v:=v) h
  exact .inr ⟨x,t,rfl,e⟩
theorem DP(i:Int)(t:Tok):jS (.inl i) (.int i t)=true:=by simp[jS,Value.isInt]
theorem DQ(x:Str)(t:Tok):jS (.inr x) (.str x t)=true:=by simp[jS,Value.isStrOf]
theorem Lo(a b:Int):decide ((Sum.inl a:Key)=Sum.inl b)=(a == b):=by
 by_cases e:a=b
 . subst e;simp
 . have h:¬ (Sum.inl a:Key)=Sum.inl b:=λq=>e (Sum.inl.inj q)
   rw[aaW h]
   exact(abB.mpr e).symm
theorem Lp(a b:Str):decide ((Sum.inr a:Key)=Sum.inr b)=decide (a=b):=by
 by_cases e:a=b
 . subst e;simp
 . have h:¬ (Sum.inr a:Key)=Sum.inr b:=λq=>e (acH q)
   rw[aaW h,aaW e]
theorem Lq(a:Int)(b:Str):decide ((Sum.inl a:Key)=Sum.inr b)=false:=aaW (λq=>nomatch q)
theorem Lr(a:Str)(b:Int):decide ((Sum.inr a:Key)=Sum.inl b)=false:=aaW (λq=>nomatch q)
noncomputable def aO(prog:Program)(w:World):PySem.KeyKind prog w Key where
 is:=jS
 hash:=TL w
 inj:=λv a b ha hb=>by
  rcases eL ha with⟨i,t,rfl,rfl⟩|⟨x,t,rfl,rfl⟩
  . rcases eL hb with⟨j,u,rfl,e⟩|⟨y,u,rfl,e⟩
    . injection e with e1 _;rw[e1]
    . exact nomatch e
  . rcases eL hb with⟨j,u,rfl,e⟩|⟨y,u,rfl,e⟩
    . exact nomatch e
    . injection e with e1 _;rw[e1]
 byValue:=λk v h=>by
  rcases eL h with⟨i,t,rfl,rfl⟩|⟨x,t,rfl,rfl⟩ <;> rfl
 pyHash:=λhv h=>by
  rcases eL hv with⟨i,t,rfl,rfl⟩|⟨x,t,rfl,rfl⟩
  . exact wpAny_pyHash_int h
  . exact wpAny_pyHash_str h
 eqBool:=λhu hv h=>by
  rcases eL hu with⟨i,t,rfl,rfl⟩|⟨x,t,rfl,rfl⟩
  . rcases eL hv with⟨j,u,rfl,rfl⟩|⟨y,u,rfl,rfl⟩
    . rw[Lo]at h;exact wpAny_eqBool_int h
    . rw[Lq]at h;exact SeqAt.EqAt.int_str i t y u _ _ _ _ h
  . rcases eL hv with⟨j,u,rfl,rfl⟩|⟨y,u,rfl,rfl⟩
    . rw[Lr]at h;exact SeqAt.EqAt.str_int x t j u _ _ _ _ h
    . rw[Lp]at h;exact wpAny_eqBool_str h
 «strs»:=λk x t v h=>by
  rcases eL h with⟨i,u,rfl,e⟩|⟨y,u,rfl,e⟩
  . exact nomatch e
  . injection e with e1 _
    subst e1
    cases v <;> rfl
theorem Cd(prog:Program)(w:World)(k:Key)(v:Value):(aO prog w).is k v=jS k v:=rfl
theorem AV(prog:Program)(w:World)(i:Int)(t:Tok):(aO prog w).is (.inl i) (.int i t)=true:=DP i t
theorem AW(prog:Program)(w:World)(x:Str)(t:Tok):(aO prog w).is (.inr x) (.str x t)=true:=DQ x t
inductive V where
 | aM|bl (b:Bool)|int (i:Int)|str (x:Str)|qi (b:Array UInt8)|iF (b:UInt64)|ref (a:Addr)|ty (n:String)
 deriving DecidableEq
noncomputable def RelV:V->Value->Prop
 | .aM,u=>u=Value.none
 | .bl b,u=>u=Value.bool b
 | .int i,u=>∃t,u=Value.int i t
 | .str x,u=>∃t,u=Value.str x t
 | .qi b,u=>∃t,u=Value.bytes b t
 | .iF b,u=>∃t,u=Value.float b t
 | .ref a,u=>u=Value.ref a
 | .ty n,u=>u=Value.type n
noncomputable abbrev Vals:List V->List Value->Prop:=Paired RelV
theorem Vals.length{xs:List V}{us:List Value}(r:Vals xs us):xs.length=us.length:=acN r
theorem Vals.get:∀{xs:List V}{us:List Value}{i:Nat}{x:V},Vals xs us->xs[i]?=some x->∃u,us[i]?=some u/\RelV x u
 | _,_,_,_,.nil,e=>by simp at e
 | _,_,0,_,.cons r _,e=>by simp at e;subst e;exact⟨_,rfl,r⟩
 | _,_,i+1,x,.cons _ t,e=>by
  obtain⟨u,h1,h2⟩:=Vals.get (i:=i) (x:=x) t (by simpa using e)
  exact⟨u,by simpa using h1,h2⟩
theorem Vals.set{x:V}{u:Value}(r:RelV x u):∀{xs:List V}{us:List Value}(i:Nat),Vals xs us->Vals (xs.set i x) (us.set i u)
 | _,_,_,.nil=>.nil
 | _,_,0,.cons _ t=>.cons r t
 | _,_,i+1,.cons q t=>.cons q (Vals.set r i t)
theorem Vals.append:∀{xs ys:List V}{us ws:List Value},Vals xs us->Vals ys ws->Vals (xs++ys) (us++ws)
 | _,_,_,_,.nil,s=>s
 | _,_,_,_,.cons r t,s=>.cons r (Vals.append t s)
theorem Vals.take:∀{xs:List V}{us:List Value}(n:Nat),Vals xs us->Vals (xs.take n) (us.take n)
 | _,_,0,_=>.nil
 | _,_,_+1,.nil=>.nil
 | _,_,n+1,.cons r t=>.cons r (Vals.take n t)
theorem Vals.drop:∀{xs:List V}{us:List Value}(n:Nat),Vals xs us->Vals (xs.drop n) (us.drop n)
 | _,_,0,r=>r
 | _,_,_+1,.nil=>.nil
 | _,_,n+1,.cons _ t=>Vals.drop n t
noncomputable def jB:Option V->Option Value->Prop
 | some v,some u=>RelV v u
 | none,none=>True
 | _,_=>False
noncomputable def KV{κ:Type} : List (κ×V)->List (κ×Value)->Prop:=Paired λ(p:κ×V) (q:κ×Value)=>p.1=q.1/\RelV p.2 q.2
noncomputable def kV:Key->V
 | .inl i=>.int i
 | .inr x=>.str x
inductive HO where
 /-- a list -/
 | lst (xs:List V)
 /-- a tuple (never changes) -/
 | tup (xs:List V)
 /-- a dict whose keys are ints and texts;one whose keys are tuples of ints and texts (the empty one is both) -/
 | dK (kvs:List (Key×V))|dT (kvs:List (List Key×V))
 /-- a set of ints: its members,its size -/
 | set (S:Int->Bool) (n:Nat)
 /-- an instance of the class at C,its dict at dx,its attributes -/
 | ins (C dx:Addr) (fs:List (Str×V))
 /-- the dict of the instance at x -/
 | own (x:Addr)
 /-- the dict of an exception -/
 | xd (fs:List (Str×V))
 /-- a bound method,f of x -/
 | met (f x:Addr)
 /-- a range object lo,lo+1,.. below hi -/
 | Ls (lo hi:Int)
 /-- a thing that is known to the object (the script;a dict while a loop walks it): read,never written while it is so -/
 | bK (o:Obj) (u:HO)
 /-- a code object's table -/
 | yr (ps:Array Value)
 /-- any other thing,by what is true of its one object (a def of one's own: SetO a S n:=HO.ext λh=>..) -/
 | ext (φ:Heap->Prop)
noncomputable abbrev Hp:=Addr->Option HO
noncomputable def upd(H:Hp)(a:Addr)(o:HO):Hp:=λb=>if b=a then some o else H b
theorem ae{H:Hp}{a:Addr}{o:HO} : upd H a o a=some o:=by unfold upd;rw[aa4 rfl]
theorem ah{H:Hp}{a b:Addr}{o:HO}(h:b≠a):upd H a o b=H b:=by unfold upd;rw[aaY h]
theorem jF{H:Hp}{a:Addr}{o u:HO} : upd (upd H a o) a u=upd H a u:=by
 funext b;unfold upd;split <;> rfl
theorem eX{H:Hp}{a b:Addr}{o u:HO}(h:H a=some o)(h':H b=some u)(d:o≠u):a≠b:=by
 intro e;subst e;rw[h]at h';exact d (aaS h')
theorem af{H:Hp}{a b:Addr}{o:HO}(h:H a=some o)(h':H b=none):a≠b:=by
 intro e;subst e;rw[h]at h';cases h'
section
variable (P:Program) (w:World)
noncomputable def bz(H:Hp)(h:Heap)(a:Addr):HO->Prop
 | .lst xs=>xs.length<=sizeLine/\∃(its:List Value) (n:Nat),Vals xs its/\h.get? a=some {cls:=.type "list",data:=.seq its.toArray n}
 | .tup xs=>xs.length<=sizeLine/\∃its:List Value,Vals xs its/\IsTup h a its.toArray
 | .dK kvs=>kvs.length<=sizeLine/\(a == sysModules)=false/\∃vs,KV kvs vs/\h.DictOf (aO P w) a vs
 | .dT kvs=>kvs.length<=sizeLine/\(a == sysModules)=false/\∃xs:List (List Key×Addr×Value),
  Paired (λ(p:List Key×V) (q:List Key×Addr×Value)=>p.1=q.1/\H q.2.1=some (.tup (p.1.map kV))/\RelV p.2 q.2.2) kvs xs/\
  ∃o es ep,h.get? a=some o/\o.ExactDict/\o.data=.dict es ep/\es.toList=xs.map (entryOfKey (tupleKind (aO P w)))/\(xs.map (·.1)).Nodup
 | .set S n=>h.SetOf (intKind P w) a S n
 | .ins C dx fs=>H dx=some (.own a)/\fs.length<=1000/\dx≠a/\h.get? a=some (W.instObj C dx)/\
  ∃mA,h.Ns1 dx mA/\(∀f,jB (fs.lookup f) (mA f))/\PySem.Within mA (fs.map (·.1))
 | .own _=>∃o,h.get? a=some o
 | .xd fs=>∃mA,h.Ns1 a mA/\∀f,jB (fs.lookup f) (mA f)
 | .Ls lo hi=>∃t u v,h.get? a=some {cls:=.type "range",data:=.fields #[.int lo t,.int hi u,.int 1 v] }
 | .bK o u=>h.get? a=some o/\bz H h a u
 | .yr ps=>h.get? a=some {cls:=.none,data:=.fields ps}
 | .met f x=>h.get? a=some (W.methodObj (.ref f) (.ref x))
 | .ext φ=>φ h/\(∃o,h.get? a=some o)/\∀h1 h2:Heap,φ h1->(∀o,h1.get? a=some o->h2.get? a=some o)->φ h2
noncomputable def eT(H:Hp)(h:Heap):Prop:=∀a o,H a=some o->bz P w H h a o
end
section
variable {P:Program}{w:World}{H H':Hp}{h h':Heap}{a:Addr}{o:HO}
theorem bz.lt(x:bz P w H h a o):a<h.objs.size:=by
 cases o with
 | lst xs=>obtain⟨_,_,_,_,e⟩:=x;exact aam e
 | tup xs=>obtain⟨_,_,_,p⟩:=x;exact p.lt
 | dK kvs=>obtain⟨_,_,_,_,o,_,_,e,_⟩:=x;exact aam e
 | dT kvs=>obtain⟨_,_,_,_,o,_,_,e,_⟩:=x;exact aam e
 | set S n=>obtain⟨o,_,_,_,e,_⟩:=x;exact aam e
 | ins C dx fs=>obtain⟨_,_,_,e,_⟩:=x;exact aam e
 | own y=>obtain⟨_,e⟩:=x;exact aam e
 | xd fs=>obtain⟨_,⟨_,_,_,e,_⟩,_⟩:=x;exact aam e
 | Ls lo hi=>obtain⟨_,_,_,e⟩:=x;exact aam e
 | bK ob u=>obtain⟨e,_⟩:=x;exact aam e
 | yr ps=>exact aam (show h.get? a=some _ from x)
 | met f y=>exact aam (show h.get? a=some _ from x)
 | ext φ=>obtain⟨_,⟨_,e⟩,_⟩:=x;exact aam e
theorem Paired.bj{α β:Type}{F G:α->β->Prop} : ∀{l₁:List α}{l₂:List β},Paired F l₁ l₂->(∀a b,F a b->G a b)->Paired G l₁ l₂
 | _,_,.nil,_=>.nil
 | _,_,.cons r t,f=>.cons (f _ _ r) (Paired.bj t f)
theorem bz.dw(x:bz P w H h a o) (k:∀b u,(b=a\/H b=some (.own a))->h.get? b=some u->h'.get? b=some u)
 (ho:∀b,H b=some (.own a)->H' b=some (.own a)) (ht:∀b xs,H b=some (.tup xs)->H' b=some (.tup xs)):bz P w H' h' a o:=by
 induction o with
 | lst xs=>obtain⟨z,its,n,r,e⟩:=x;exact⟨z,its,n,r,k _ _ (.inl rfl) e⟩
 | tup xs=>obtain⟨z,its,r,ob,e,c⟩:=x;exact⟨z,its,r,ob,k _ _ (.inl rfl) e,c⟩
 | dK kvs=>obtain⟨z,y,vs,r,ob,es,ep,e,c⟩:=x;exact⟨z,y,vs,r,ob,es,ep,k _ _ (.inl rfl) e,c⟩
 | dT kvs=>
  obtain⟨z,y,xs,r,ob,es,ep,e,c⟩:=x
  exact⟨z,y,xs,Paired.bj r λp q z=>⟨z.1,ht _ _ z.2.1,z.2.2⟩,ob,es,ep,k _ _ (.inl rfl) e,c⟩
 | set S n=>obtain⟨ob,es,ep,t,e,c⟩:=x;exact⟨ob,es,ep,t,k _ _ (.inl rfl) e,c⟩
 | ins C dx fs=>
  obtain⟨d,z,ne,e,mA,⟨od,es,ep,e2,c⟩,r⟩:=x
  exact⟨ho _ d,z,ne,k _ _ (.inl rfl) e,mA,⟨od,es,ep,k _ _ (.inr d) e2,c⟩,r⟩
 | own y=>obtain⟨ob,e⟩:=x;exact⟨ob,k _ _ (.inl rfl) e⟩
 | xd fs=>obtain⟨mA,⟨od,es,ep,e,c⟩,r⟩:=x;exact⟨mA,⟨od,es,ep,k _ _ (.inl rfl) e,c⟩,r⟩
 | Ls lo hi=>obtain⟨t,u,v,e⟩:=x;exact⟨t,u,v,k _ _ (.inl rfl) e⟩
 | bK ob u ih=>obtain⟨e,q⟩:=x;exact⟨k _ _ (.inl rfl) e,ih q⟩
 | yr ps=>
  have e:h.get? a=some {cls:=.none,data:=.fields ps}:=x
  show h'.get? a=some {cls:=.none,data:=.fields ps}
  exact k a _ (.inl rfl) e
 | met f y=>
  have e:h.get? a=some (W.methodObj (.ref f) (.ref y)):=x
  show h'.get? a=some (W.methodObj (.ref f) (.ref y))
  exact k a _ (.inl rfl) e
 | ext φ=>obtain⟨p,⟨o,e⟩,st⟩:=x;exact⟨st _ _ p λo q=>k _ _ (.inl rfl) q,⟨o,k _ _ (.inl rfl) e⟩,st⟩
theorem eT.lt(x:eT P w H h)(e:H a=some o):a<h.objs.size:=(x a o e).lt
theorem eT.fresh(x:eT P w H h)(e:h.objs.size<=a):H a=none:=by
 cases q:H a with
 | none=>rfl
 | some u=>exact absurd (aaV (x.lt q) e) (abT _)
theorem eT.kept(x:eT P w H h)(k:∀b u,h.get? b=some u->h'.get? b=some u):eT P w H h':=λa o e=>
 (x a o e).dw (λb u _ q=>k b u q) (λ_ q=>q) λ_ _ q=>q
theorem eT.laid(x:eT P w H h)(k:∀b u,h.get? b=some u->h'.get? b=some u)(hp:h.objs.size<=a) (new:bz P w (upd H a o) h' a o):eT P w (upd H a o) h':=λb u e=>by
 have hn:=x.fresh hp
 by_cases hb:b=a
 . subst hb;rw[ae]at e;cases e;exact new
 . rw[ah hb]at e
   exact(x b u e).dw (λc v _ q=>k c v q) (λc q=>by rw[ah (af q hn)];exact q) λc xs q=>by rw[ah (af q hn)];exact q
end
noncomputable def Rd(H:Hp)(a:Addr)(u:HO):Prop:=H a=some u\/∃o,H a=some (.bK o u)
theorem Rd.of{H:Hp}{a:Addr}{u:HO}(h:H a=some u):Rd H a u:=.inl h
theorem Rd.ok{P:Program}{w:World}{H:Hp}{h:Heap}{a:Addr}{u:HO}(r:Rd H a u)(x:eT P w H h):bz P w H h a u:=by
 rcases r with r|⟨o,r⟩
 . exact x a u r
 . obtain⟨_,q⟩:=x a _ r
   exact q
noncomputable def DR:Option HO->Prop
 | some (.lst _)=>True
 | some (.dK _)=>True
 | some (.dT _)=>True
 | some (.set _ _)=>True
 | some (.ins _ _ _)=>True
 | some (.ext _)=>True
 | _=>False
section
variable {P:Program}{w:World}{H:Hp}{h h':Heap}{x e:Addr}{o':HO}
theorem eT.write(ok:eT P w H h) (mu:DR (H x)) (he:e=x\/H e=some (.own x)) (k:∀b u,b≠e->h.get? b=some u->h'.get? b=some u) (Be:∃u,h'.get? e=some u)
 (new:bz P w (upd H x o') h' x o'):eT P w (upd H x o') h':=λb u q=>by
 have Lu:∀c y,H c=some (.own y)->c≠x:=λc y r z=>by subst z;rw[r]at mu;exact mu
 have TN:∀c xs,H c=some (.tup xs)->c≠x:=λc xs r z=>by subst z;rw[r]at mu;exact mu
 by_cases hb:b=x
 . subst hb;rw[ae]at q;cases q;exact new
 . rw[ah hb]at q
   by_cases yt:b=e
   . have q':H b=some (.own x):=by
      rcases he with z|z
      . exact absurd (yt.trans z) hb
      . rw[yt];exact z
     rw[q]at q';cases q'
     obtain⟨v,hv⟩:=Be
     exact⟨v,by rw[yt];exact hv⟩
   . refine(ok b u q).dw (λc v hc r=>k c v ?_ r) (λc r=>by rw[ah (Lu c b r)];exact r) λc xs r=>by rw[ah (TN c xs r)];exact r
     rcases hc with rfl|hc
     . exact yt
     . rintro rfl
       rcases he with z|z
       . exact Lu c b hc z
       . rw[hc]at z;cases z;exact hb rfl
end
structure Un(fs ex:List Addr) (H H':Hp) (h h':Heap):Prop where
 keep:∀b o,h.get? b=some o->H b=none->b∉fs->b∉ex->h'.get? b=some o
 slot:∀b o,h.get? b=some o->H b=none->b∈fs->b∉ex->∃sl,h'.get? b=some {o with slots:=sl}
 free:∀b o,h.get? b=some o->H b=none->b∉ex->H' b=none
 there:∀b o,h.get? b=some o->b∉ex->∃o',h'.get? b=some o'
 tups:∀b xs,H b=some (.tup xs)->H' b=some (.tup xs)
 frzs:∀b o u,H b=some (.bK o u)->H' b=some (.bK o u)
 tbls:∀b ps,H b=some (.yr ps)->∃more,H' b=some (.yr (ps++more))
section
variable {fs fs' ex ex':List Addr}{H H1 H2:Hp}{h h1 h2 h':Heap}{a x e:Addr}{o:HO}
theorem Un.any(u:Un fs ex H H1 h h1){b:Addr}{ob:Obj}(q:h.get? b=some ob)(n:H b=none)(hx:b∉ex):∃sl,h1.get? b=some {ob with slots:=sl}:=by
 by_cases hb:b∈fs
 . exact u.slot b ob q n hb hx
 . exact⟨ob.slots,u.keep b ob q n hb hx⟩
theorem Un.trans(a:Un fs ex H H1 h h1)(b:Un fs ex H1 H2 h1 h2):Un fs ex H H2 h h2 where
 keep:=λc ob q n hc hx=>b.keep c ob (a.keep c ob q n hc hx) (a.free c ob q n hx) hc hx
 slot:=λc ob q n hc hx=>by
  obtain⟨sl,e1⟩:=a.slot c ob q n hc hx
  obtain⟨Lv,e2⟩:=b.slot c _ e1 (a.free c ob q n hx) hc hx
  exact⟨Lv,e2⟩
 free:=λc ob q n hx=>by
  obtain⟨o',e1⟩:=a.there c ob q hx
  exact b.free c o' e1 (a.free c ob q n hx) hx
 there:=λc ob q hx=>by
  obtain⟨o',e1⟩:=a.there c ob q hx
  exact b.there c o' e1 hx
 tups:=λc xs q=>b.tups c xs (a.tups c xs q)
 frzs:=λc ob xs q=>b.frzs c ob xs (a.frzs c ob xs q)
 tbls:=λc ps q=>by
  obtain⟨m1,e1⟩:=a.tbls c ps q
  obtain⟨m2,e2⟩:=b.tbls c _ e1
  exact⟨m1++m2,by rw[e2,aeV]⟩
theorem Un.kept(k:∀b u,h.get? b=some u->h'.get? b=some u):Un fs ex H H h h':=
 ⟨λb ob q _ _ _=>k b ob q,λb ob q _ _ _=>⟨ob.slots,k b ob q⟩,λ_ _ _ n _=>n,λb ob q _=>⟨ob,k b ob q⟩,λ_ _ q=>q,λ_ _ _ q=>q,λ_ ps q=>⟨#[],by rw[q];simp⟩⟩
theorem Un.refl:Un fs ex H H h h:=Un.kept λ_ _ q=>q
theorem Un.laid(k:∀b u,h.get? b=some u->h'.get? b=some u)(hp:h.objs.size<=a)(hn:H a=none):Un fs ex H (upd H a o) h h' where
 keep:=λb u q _ _ _=>k b u q
 slot:=λb u q _ _ _=>⟨u.slots,k b u q⟩
 free:=λb u q n _=>by rw[ah (aaw (aaV (aam q) hp))];exact n
 there:=λb u q _=>⟨u,k b u q⟩
 tups:=λb xs q=>by rw[ah (af q hn)];exact q
 frzs:=λb u xs q=>by rw[ah (af q hn)];exact q
 tbls:=λb ps q=>⟨#[],by rw[ah (af q hn),q];simp⟩
theorem Un.write(mu:DR (H x)) (he:e=x\/H e=some (.own x)) (k:∀b u,b≠e->h.get? b=some u->h'.get? b=some u) (Be:∃u,h'.get? e=some u):Un fs ex H (upd H x o) h h':=by
 have hx:∀b,H b=none->b≠x:=λb n z=>by subst z;rw[n]at mu;exact mu
 have hb:∀b,H b=none->b≠e:=λb n z=>by
  subst z
  rcases he with r|r
  . exact hx b n r
  . rw[n]at r;cases r
 have hm:∀b u,H b=some u->¬ DR (some u)->b≠x:=λb u q nm z=>by subst z;rw[q]at mu;exact nm mu
 refine⟨λb u q n _ _=>k b u (hb b n) q,λb u q n _ _=>⟨u.slots,k b u (hb b n) q⟩,λb u q n _=>by rw[ah (hx b n)];exact n,λb u q _=>?_,
  λb xs q=>by rw[ah (hm b _ q λz=>z)];exact q,λb u xs q=>by rw[ah (hm b _ q λz=>z)];exact q,λb ps q=>⟨#[],by rw[ah (hm b _ q λz=>z),q];simp⟩⟩
 by_cases yt:b=e
 . subst yt;exact Be
 . exact⟨u,k b u yt q⟩
end
noncomputable def Ie(h:Heap)(H:Hp):List Addr:=(List.range h.objs.size).filter λa=>(H a).isSome
noncomputable def oS(h:Heap)(H:Hp):Heap:=W.hideAll h (Ie h H)
theorem DS(h:Heap)(H:Hp):(oS h H).objs.size=h.objs.size:=W.hideAll_size _ _
theorem Gk{h:Heap}{H:Hp}{b:Addr}{o:Obj}(e:h.get? b=some o)(n:H b=none):(oS h H).get? b=some o:=
 W.hideAll_get _ e λhm=>by
  have q:(H b).isSome=true:=(aap.mp hm).2
  rw[n]at q;simp at q
theorem JV{h:Heap}{H:Hp}{b:Addr}{o:Obj}(e:(oS h H).get? b=some o):h.get? b=some o/\H b=none:=by
 have e':h.get? b=some o:=W.of_hideAll (Ie h H) e
 refine⟨e',?_⟩
 cases q:H b with
 | none=>rfl
 | some x=>
  have hm:b∈Ie h H:=aap.mpr ⟨adm.mpr (aam e'),by simp[q]⟩
  have z:(oS h H).get? b=none:=W.hideAll_none (Ie h H) hm
  rw[z]at e;cases e
noncomputable def JW(g h:Heap)(L:Addr):List (Addr×Obj):=(List.range h.objs.size).filterMap λa=>if a=L\/(g.get? a).isSome=true then none else (h.get? a).map λo=>(a,o)
noncomputable def rest(g h:Heap)(L d:Addr):List (Addr×Obj):=(JW g h L).filter λp=>decide (p.1≠d)
structure Mod(K:W.Frag) (mg:Str->Option Value) (base:Heap):Prop where
 kin:K.In base
 glob:base.Ns mainGlobals mg
 blt:∃mb,base.Ns builtinsNs mb/\∀x:Str,x ≠ "__name__" -> mb x=bootBuiltins x
 nolimit:base.NoLimit
structure Cx where
 prog:Program
 w:World
 K:W.Frag
 mg:Str->Option Value
 base:Heap
 A:Around
 N:List Str
 lZ:Shared
 yf:Hp
 env:Env
 outer:List Env
 stack:List Env
 ex:List Addr
 fn:Str->Bool
 calm:Bool
 pn:List (Addr×Obj)
 xe:Value->Shared->Prop
noncomputable def pP(l:List Env):List Addr:=l.filterMap (·.frame)
noncomputable abbrev Cx.fs(X:Cx):List Addr:=pP X.outer
noncomputable def Lw(sc:Scope)(x:Str):Prop:=sc.names.lookup x=some .local\/sc.names.lookup x=some .cell\/sc.names.lookup x=some .free
noncomputable def Loc(sc:Scope)(x:Str):Prop:=sc.names.lookup x=some .local\/sc.names.lookup x=some .cell
noncomputable def Look(env:Env)(h:Heap)(m:Str->Option Value)(x:Str)(u:Value):Prop:=
 (env.kindOf x=some .local/\m x=some u)\/((env.kindOf x=some .cell\/env.kindOf x=some .free)/\∃c,env.cells.lookup x=some c/\h.IsCell c (some u))
structure Cx.Ok(X:Cx):Prop where
 mod:Mod X.K X.mg X.base
 kind:X.env.scope.kind=.function
 glob:X.env.globals=mainGlobals
 blt:X.env.builtins=builtinsNs
 above:X.lZ.heap.objs.size<=X.env.locals
 inj:∀x y c,X.env.cells.lookup x=some c->X.env.cells.lookup y=some c->x=y
 has:∀x,(X.env.kindOf x=some .cell\/X.env.kindOf x=some .free)->∃c,X.env.cells.lookup x=some c
 cab:∀x c,X.fn x=true->X.env.cells.lookup x=some c->X.lZ.heap.objs.size<=c
 hd:X.calm=true->X.A.handled=none
 frames:X.A.frames=some X.stack
 stk:X.stack=X.outer\/(X.stack=X.env::X.outer/\X.env.frame=some X.env.locals)
 exf:∀b∈X.ex,b≠X.env.locals/\∀x c,X.env.cells.lookup x=some c->c≠b
 bs:∀b o,X.base.get? b=some o->X.lZ.heap.get? b=some o/\X.yf b=none
 bsz:X.base.objs.size<=X.lZ.heap.objs.size
 noex:∀b o,X.base.get? b=some o->b∉X.ex
 exfs:∀b∈X.ex,b∉X.fs
 km:X.lZ.heap.FunFrames X.base X.outer
 frf:∀b∈X.fs,X.yf b=none
structure Inv(X:Cx) (pins:List (Addr×Obj)) (σ:List (Option V)) (H:Hp) (s:Shared):Prop where
 ok:X.Ok
 os:s.os=X.lZ.os
 bare:AllBare s.gens
 base:Un X.fs X.ex X.yf H X.lZ.heap s.heap
 loc:∃m,s.heap.Ns X.env.locals m/\∀(i:Nat) (x:Str) (v:V),X.N[i]?=some x->σ[i]?=some (some v)->Lw X.env.scope x->∃u,RelV v u/\Look X.env s.heap m x u
 cell:∀x c,X.env.cells.lookup x=some c->∃v,s.heap.IsCell c v
 free:H X.env.locals=none
 freeC:∀x c,X.env.cells.lookup x=some c->H c=none
 pin:∀p∈X.pn++pins,s.heap.get? p.1=some p.2/\H p.1=none/\p.1≠X.env.locals/\p.1∉X.fs/\∀v,p.2.data≠.cell v
 hok:eT X.prog X.w H s.heap
 len:σ.length=X.N.length
section
variable {X:Cx}{pins:List (Addr×Obj)}{σ:List (Option V)}{H H':Hp}{s:Shared}{h':Heap}
theorem Cx.Ok.TQ(ok:X.Ok){b:Addr}{o:Obj}(e:X.base.get? b=some o):b∉X.fs:=λhb=>by
 have:=(ok.km.mem hb).1
 rw[e]at this;cases this
theorem Inv.bs(I:Inv X pins σ H s):∀b o,X.base.get? b=some o->s.heap.get? b=some o/\H b=none:=λb o e=>
 ⟨I.base.keep b o (I.ok.bs b o e).1 (I.ok.bs b o e).2 (I.ok.TQ e) (I.ok.noex b o e),I.base.free b o (I.ok.bs b o e).1 (I.ok.bs b o e).2 (I.ok.noex b o e)⟩
theorem Inv.bk(I:Inv X pins σ H s):∀b o,X.base.get? b=some o->s.heap.get? b=some o:=λb o e=>(I.bs b o e).1
theorem Inv.mod(I:Inv X pins σ H s):Mod X.K X.mg X.base:=I.ok.mod
theorem Inv.iw(I:Inv X pins σ H s):X.K.In s.heap:=I.ok.mod.kin.keeps I.bk
theorem Inv.lt(I:Inv X pins σ H s):X.env.locals<s.heap.objs.size:=let ⟨_,hn,_⟩:=I.loc;hn.lt
theorem Inv.sz(I:Inv X pins σ H s):X.lZ.heap.objs.size<=s.heap.objs.size:=aao I.ok.above (ado I.lt)
theorem Inv.TR(I:Inv X pins σ H s){a:Addr}(h:s.heap.objs.size<=a):a∉X.fs:=λhb=>by
 obtain⟨_,o,ho,_⟩:=I.ok.km.mem hb
 exact absurd (aaV (aam ho) (aao I.sz h)) (abT _)
theorem Inv.yu(I:Inv X pins σ H s):∀x c,X.env.cells.lookup x=some c->c≠X.env.locals:=λx c e z=>by
 obtain⟨v,o,ho,hd⟩:=I.cell x c e
 obtain⟨m,⟨o',es,ep,gU,hd',_⟩,_⟩:=I.loc
 rw[z,gU]at ho;cases ho;rw[hd']at hd;cases hd
theorem Inv.km(I:Inv X pins σ H s):s.heap.FunFrames X.base X.outer:=by
 have all:∀(l:List Env),(∀b∈pP l,b∈X.fs)->X.lZ.heap.FunFrames X.base l->s.heap.FunFrames X.base l:=by
  intro l
  induction l with
  | nil=>intro _ _;trivial
  | cons env r ih=>
   intro hs hl
   obtain⟨hk,⟨L,o,hf,hn,ho,hd⟩,hr⟩:=hl
   have hL:L∈X.fs:=hs L (by unfold pP;rw[adK,hf];exact aaR)
   obtain⟨sl,e⟩:=I.base.slot L o ho (I.ok.frf L hL) hL λz=>I.ok.exfs L z hL
   exact⟨hk,⟨L,_,hf,hn,e,hd⟩,ih (λb hb=>hs b (by unfold pP;rw[adK,hf];exact aaz _ hb)) hr⟩
 exact all X.outer (λ_ hb=>hb) I.ok.km
theorem Inv.stack(I:Inv X pins σ H s):s.heap.FunFrames X.base X.stack:=by
 rcases I.ok.stk with e|⟨e,hf⟩
 . rw[e];exact I.km
 . rw[e]
   obtain⟨m,hn,_⟩:=I.loc
   refine .cons (by rw[I.ok.kind];decide) hf hn ?_ I.km
   exact adF (aao I.ok.bsz I.ok.above)
theorem Inv.uy(I:Inv X pins σ H s):∀b∈pP X.stack,b∈X.env.locals::X.fs:=λb hb=>by
 rcases I.ok.stk with e|⟨e,hf⟩
 . rw[e]at hb;exact aaz _ hb
 . rw[e]at hb
   unfold pP at hb
   rw[adK,hf]at hb
   exact hb
theorem Inv.Bf(I:Inv X pins σ H s):∀b∈pP X.stack,H b=none:=λb hb=>by
 rcases aal.mp (I.uy b hb) with e|hb
 . rw[e];exact I.free
 . obtain⟨_,o,ho,_⟩:=I.ok.km.mem hb
   exact I.base.free b o ho (I.ok.frf b hb) λz=>I.ok.exfs b z hb
theorem Inv.step{g':Array GenState}{t':Nat}{d':Drawn}{ch:List Addr}(I:Inv X pins σ H s)
 (pQ:∀b∈ch,(b∈X.ex\/X.lZ.heap.objs.size<=b)/\b≠X.env.locals/\(∀x c,X.env.cells.lookup x=some c->c≠b)/\∀p∈X.pn++pins,p.1≠b)
 (keep:∀b o,b≠X.env.locals->b∉X.fs->b∉ch->s.heap.get? b=some o->H b=none->h'.get? b=some o)
 (slot:∀b o,b≠X.env.locals->b∈X.fs->b∉ch->s.heap.get? b=some o->H b=none->∃sl,h'.get? b=some {o with slots:=sl}) (free:∀b o,b∉ch->s.heap.get? b=some o->H b=none->H' b=none)
 (there:∀b o,b∉ch->s.heap.get? b=some o->∃o',h'.get? b=some o')
 (tups:∀b xs,H b=some (.tup xs)->H' b=some (.tup xs)) (frzs:∀b o u,H b=some (.bK o u)->H' b=some (.bK o u)) (tbls:∀b ps,H b=some (.yr ps)->∃more,H' b=some (.yr (ps++more)))
 (ns:∀m,s.heap.Ns X.env.locals m->h'.Ns X.env.locals m) (hok:eT X.prog X.w H' h') (hg:AllBare g') :
 Inv X pins σ H' {s with heap:=h',gens:=g',drawn:=d',toks:=t'}:=by
 have Ra:∀b o,X.lZ.heap.get? b=some o->b≠X.env.locals:=λb o e=>aaw (aaV (aam e) I.ok.above)
 have Ig:∀b o,X.lZ.heap.get? b=some o->b∉X.ex->b∉ch:=λb o e hx hb=>by
  rcases (pQ b hb).1 with z|z
  . exact hx z
  . exact absurd (aaV (aam e) z) (abT _)
 have cellK:∀x c,X.env.cells.lookup x=some c->∀v,s.heap.IsCell c v->h'.IsCell c v:=λx c e v ⟨o,ho,hd⟩=>by
  have DT:c∉ch:=λz=>(pQ c z).2.2.1 x c e rfl
  by_cases hc:c∈X.fs
  . obtain⟨sl,q⟩:=slot c o (I.yu x c e) hc DT ho (I.freeC x c e)
    exact⟨_,q,hd⟩
  . exact⟨o,keep c o (I.yu x c e) hc DT ho (I.freeC x c e),hd⟩
 refine⟨I.ok,I.os,hg,⟨λb o e n hb hx=>?_,λb o e n hb hx=>?_,λb o e n hx=>?_,λb o e hx=>?_,λb xs e=>tups b xs (I.base.tups b xs e),λb o xs e=>frzs b o xs (I.base.frzs b o xs e),λb ps e=>?_⟩,?_,λx c e=>?_,?_,λx c e=>?_,λp hp=>?_,hok,I.len⟩
 . exact keep b o (Ra b o e) hb (Ig b o e hx) (I.base.keep b o e n hb hx) (I.base.free b o e n hx)
 . obtain⟨sl,e1⟩:=I.base.slot b o e n hb hx
   obtain⟨Lv,e2⟩:=slot b _ (Ra b o e) hb (Ig b o e hx) e1 (I.base.free b o e n hx)
   exact⟨Lv,e2⟩
 . obtain⟨o',e1⟩:=I.base.there b o e hx
   exact free b o' (Ig b o e hx) e1 (I.base.free b o e n hx)
 . obtain⟨o',e1⟩:=I.base.there b o e hx
   exact there b o' (Ig b o e hx) e1
 . obtain⟨m1,e1⟩:=I.base.tbls b ps e
   obtain⟨m2,e2⟩:=tbls b _ e1
   exact⟨m1++m2,by rw[e2,aeV]⟩
 . obtain⟨m,hn,hl⟩:=I.loc
   refine⟨m,ns m hn,λi x v e1 e2 e3=>?_⟩
   obtain⟨u,r,l⟩:=hl i x v e1 e2 e3
   refine⟨u,r,?_⟩
   rcases l with l|⟨k,c,e,z⟩
   . exact .inl l
   . exact .inr ⟨k,c,e,cellK x c e _ z⟩
 . obtain⟨v,z⟩:=I.cell x c e
   exact⟨v,cellK x c e v z⟩
 . obtain⟨m,⟨o,_,_,ho,_⟩,_⟩:=I.loc
   exact free _ o (λz=>(pQ _ z).2.1 rfl) ho I.free
 . obtain⟨v,o,ho,hd⟩:=I.cell x c e
   exact free c o (λz=>(pQ c z).2.2.1 x c e rfl) ho (I.freeC x c e)
 . obtain⟨e,n,ne,nf,d⟩:=I.pin p hp
   have DT:p.1∉ch:=λz=>(pQ p.1 z).2.2.2 p hp rfl
   exact⟨keep p.1 p.2 ne nf DT e n,free p.1 p.2 DT e n,ne,nf,d⟩
theorem Inv.un{t':Nat}(I:Inv X pins σ H s)(u:Un X.fs [] H H' s.heap h')(hok:eT X.prog X.w H' h'):Inv X pins σ H' {s with heap:=h',toks:=t'}:=by
 obtain⟨m,⟨o,es,ep,ho,r⟩,_⟩:=id I.loc
 obtain⟨sl,hL⟩:=u.any ho I.free (by simp)
 exact I.step (g':=s.gens) (d':=s.drawn) (ch:=[]) (λ_ z=>nomatch z) (λb o _ hb _ e n=>u.keep b o e n hb (by simp)) (λb o _ hb _ e n=>u.slot b o e n hb (by simp)) (λb o _ e n=>u.free b o e n (by simp)) (λb o _ e=>u.there b o e (by simp)) u.tups u.frzs u.tbls (λm' hm=>by
  obtain⟨o',wQ,wR,gU,r'⟩:=hm
  rw[ho]at gU;cases gU
  exact⟨_,wQ,wR,hL,r'⟩) hok I.bare
theorem Inv.call{g':Array GenState}{t':Nat}{d':Drawn}{ch:List Addr}(I:Inv X pins σ H s) (u:Un (pP X.stack) ch H H' s.heap h') (hok:eT X.prog X.w H' h') (hg:AllBare g')
 (pQ:∀b∈ch,(b∈X.ex\/X.lZ.heap.objs.size<=b)/\b≠X.env.locals/\(∀x c,X.env.cells.lookup x=some c->c≠b)/\∀p∈X.pn++pins,p.1≠b) :
 Inv X pins σ H' {s with heap:=h',gens:=g',drawn:=d',toks:=t'}:=by
 obtain⟨m,⟨o,es,ep,ho,r⟩,_⟩:=id I.loc
 obtain⟨sl,hL⟩:=u.any ho I.free λz=>(pQ _ z).2.1 rfl
 exact I.step (ch:=ch) pQ (λb o hL hb hc e n=>u.keep b o e n (λz=>(aal.mp (I.uy b z)).elim hL hb) hc) (λb o _ _ hc e n=>u.any e n hc) (λb o hc e n=>u.free b o e n hc) (λb o hc e=>u.there b o e hc) u.tups u.frzs u.tbls (λm' hm=>by
  obtain⟨o',wQ,wR,gU,r'⟩:=hm
  rw[ho]at gU;cases gU
  exact⟨_,wQ,wR,hL,r'⟩) hok hg
theorem Inv.turned{t':Nat}{it:Addr}(I:Inv X pins σ H s)(k:∀b o,b≠it->s.heap.get? b=some o->h'.get? b=some o)(hn:H it=none)(hL:it≠X.env.locals)
 (h1:it∈X.ex\/X.lZ.heap.objs.size<=it) (h2:∀x c,X.env.cells.lookup x=some c->c≠it) (h3:∀p∈X.pn++pins,p.1≠it):Inv X pins σ H {s with heap:=h',toks:=t'}:=by
 have Rb:∀b u,H b=some u->b≠it:=λb u e z=>by rw[z,hn]at e;cases e
 refine I.step (g':=s.gens) (d':=s.drawn) (ch:=[it]) (λb hb=>?_) (λb o _ _ hc e _=>k b o (λz=>hc (by simp[z])) e) (λb o _ _ hc e _=>⟨o.slots,k b o (λz=>hc (by simp[z])) e⟩) (λ_ _ _ _ n=>n)
  (λb o hc e=>⟨o,k b o (λz=>hc (by simp[z])) e⟩) (λ_ _ e=>e) (λ_ _ _ e=>e) (λb ps e=>⟨#[],by rw[e];simp⟩) (λm hm=>?_) (λb u e=>?_) I.bare
 . have e:b=it:=by simpa using hb
   subst e
   exact⟨h1,hL,h2,h3⟩
 . obtain⟨o,es,ep,ho,r⟩:=hm
   exact⟨o,es,ep,k _ o (aau hL) ho,r⟩
 . refine(I.hok b u e).dw (λc v hc q=>k c v ?_ q) (λ_ q=>q) λ_ _ q=>q
   rcases hc with z|z
   . rw[z];exact Rb b u e
   . exact Rb c _ z
theorem Inv.tok(I:Inv X pins σ H s)(t:Nat):Inv X pins σ H {s with toks:=t}:=I.un (h':=s.heap) (t':=t) Un.refl I.hok
theorem Inv.kept{t':Nat}(I:Inv X pins σ H s)(k:∀b u,s.heap.get? b=some u->h'.get? b=some u):Inv X pins σ H {s with heap:=h',toks:=t'}:=I.un (Un.kept k) (I.hok.kept k)
theorem Inv.laid{a:Addr}{o:HO}{t':Nat}(I:Inv X pins σ H s)(k:∀b u,s.heap.get? b=some u->h'.get? b=some u)(hp:s.heap.objs.size<=a) (new:bz X.prog X.w (upd H a o) h' a o) :
 Inv X pins σ (upd H a o) {s with heap:=h',toks:=t'}:=I.un (Un.laid k hp (I.hok.fresh hp)) (I.hok.laid k hp new)
theorem Inv.write{x e:Addr}{o:HO}{t':Nat}(I:Inv X pins σ H s) (mu:DR (H x)) (he:e=x\/H e=some (.own x)) (k:∀b u,b≠e->s.heap.get? b=some u->h'.get? b=some u) (Be:∃u,h'.get? e=some u)
 (new:bz X.prog X.w (upd H x o) h' x o):Inv X pins σ (upd H x o) {s with heap:=h',toks:=t'}:=I.un (Un.write mu he k Be) (I.hok.write mu he k Be new)
theorem Inv.Bg{Ih:List (Addr×Obj)}(I:Inv X pins σ H s) (h:∀p∈Ih,s.heap.get? p.1=some p.2/\H p.1=none/\p.1≠X.env.locals/\p.1∉X.fs/\∀v,p.2.data≠.cell v):Inv X Ih σ H s:=
 ⟨I.ok,I.os,I.bare,I.base,I.loc,I.cell,I.free,I.freeC,λp hp=>(aae.mp hp).elim (λz=>I.pin p (acp _ z)) (h p),I.hok,I.len⟩
theorem yw{N:List Str}(hN:N.Nodup){i j:Nat}{x:Str}(a:N[i]?=some x)(b:N[j]?=some x):i=j:=by
 obtain⟨h1,e1⟩:=aas.mp a
 obtain⟨h2,e2⟩:=aas.mp b
 exact(List.getElem_inj hN).mp (e1.trans e2.symm)
theorem wU{M:Model}{A:Around}{E:Value->Shared->Prop}{i:Nat}{x:Str}{v:V}{u:Value}{Q:Unit->Shared->Prop}(I:Inv X pins σ H s)(hN:X.N.Nodup)(hi:X.N[i]?=some x)(hx:Loc X.env.scope x)(r:RelV v u)
 (h:∀s',Inv X pins (σ.set i (some v)) H s'->(∃a,Heap.SameBut a s.heap s'.heap/\(a=X.env.locals\/X.env.cells.lookup x=some a))->Q () s') (hf:X.fn x=true\/X.env.scope.names.lookup x=some .local:=by first|exact .inl rfl|exact .inr rfl|assumption):wpAny M A (storeName X.env x u) Q E s:=by
 obtain⟨m,hn,hl⟩:=id I.loc
 have TU:(X.env.scope.kind == .class || (X.env.scope.kind == .module && X.env.locals != X.env.globals))=false:=by rw[I.ok.kind];rfl
 have hiσ:i < σ.length:=by rw[I.len];exact(aas.mp hi).1
 have yu:=I.yu
 have tracked:∀{a:Addr}{h':Heap},(∃o,s.heap.get? a=some o/\H a=none)->Heap.SameBut a s.heap h'->eT X.prog X.w H h':=λ{a h'} ha hs b ob e=>by
  obtain⟨_,_,Ii⟩:=ha
  refine(I.hok b ob e).dw (λc w' hc q=>(hs.2 c ?_).trans q) (λ_ q=>q) λ_ _ q=>q
  rintro rfl
  rcases hc with rfl|hc
  . rw[Ii]at e;cases e
  . rw[Ii]at hc;cases hc
 rcases hx with hk|hk
 . refine wpAny_storeName_local hk hn (λh' uz hs=>?_) TU
   obtain⟨oL,_,_,Vr,_⟩:=id hn
   refine h _ ⟨I.ok,I.os,I.bare,⟨λb o e n hb hx=>?_,λb o e n hb hx=>?_,I.base.free,λb o e hx=>?_,I.base.tups,I.base.frzs,I.base.tbls⟩,⟨_,uz,λj y v' e1 e2 e3=>?_⟩,λy c e=>?_,I.free,I.freeC,λp hp=>?_,tracked ⟨oL,Vr,I.free⟩ hs,by simpa using I.len⟩ ⟨_,hs,.inl rfl⟩
   . exact(hs.2 b (aaw (aaV (aam e) I.ok.above))).trans (I.base.keep b o e n hb hx)
   . obtain⟨sl,e1⟩:=I.base.slot b o e n hb hx
     exact⟨sl,(hs.2 b (aaw (aaV (aam e) I.ok.above))).trans e1⟩
   . obtain⟨o',e1⟩:=I.base.there b o e hx
     exact⟨o',(hs.2 b (aaw (aaV (aam e) I.ok.above))).trans e1⟩
   . by_cases hj:j=i
     . subst hj
       rw[hi]at e1;cases e1
       rw[aex hiσ]at e2
       cases e2
       exact⟨u,r,.inl ⟨hk,by simp⟩⟩
     . rw[aeO (aau hj)]at e2
       obtain⟨u',r',q⟩:=hl j y v' e1 e2 e3
       refine⟨u',r',?_⟩
       rcases q with⟨k,e⟩|⟨k,c,e,z⟩
       . refine .inl ⟨k,?_⟩
         have:y≠x:=λe=>hj (yw hN e1 (e ▸ hi))
         simp[this,e]
       . exact .inr ⟨k,c,e,z.sameBut hs (yu y c e)⟩
   . obtain⟨w',z⟩:=I.cell y c e
     exact⟨w',z.sameBut hs (yu y c e)⟩
   . obtain⟨e,n,ne,nf,d⟩:=I.pin p hp
     exact⟨(hs.2 p.1 ne).trans e,n,ne,nf,d⟩
 . have uA:X.fn x=true:=by
    rcases hf with z|z
    . exact z
    . rw[z]at hk;cases hk
   obtain⟨c,hc⟩:=I.ok.has x (.inl hk)
   obtain⟨w',z⟩:=I.cell x c hc
   refine wpAny_storeName_cell I.ok.kind hk hc z (λh' bY hs=>?_)
   obtain⟨oc,Rc,TV⟩:=id z
   refine h {s with heap:=h'} ⟨I.ok,I.os,I.bare,⟨λb o e n hb hx=>?_,λb o e n hb hx=>?_,I.base.free,λb o e hx=>?_,I.base.tups,I.base.frzs,I.base.tbls⟩,⟨m,hn.sameBut hs (aau (yu x c hc)),λj y v' e1 e2 e3=>?_⟩,λy c' e=>?_,I.free,I.freeC,λp hp=>?_,tracked ⟨oc,Rc,I.freeC x c hc⟩ hs,by simpa using I.len⟩ ⟨c,hs,.inr hc⟩
   . exact(hs.2 b (aaw (aaV (aam e) (I.ok.cab x c uA hc)))).trans (I.base.keep b o e n hb hx)
   . obtain⟨sl,e1⟩:=I.base.slot b o e n hb hx
     exact⟨sl,(hs.2 b (aaw (aaV (aam e) (I.ok.cab x c uA hc)))).trans e1⟩
   . obtain⟨o',e1⟩:=I.base.there b o e hx
     exact⟨o',(hs.2 b (aaw (aaV (aam e) (I.ok.cab x c uA hc)))).trans e1⟩
   . by_cases hj:j=i
     . subst hj
       rw[hi]at e1;cases e1
       rw[aex hiσ]at e2
       cases e2
       exact⟨u,r,.inr ⟨.inl hk,c,hc,bY⟩⟩
     . rw[aeO (aau hj)]at e2
       obtain⟨u',r',q⟩:=hl j y v' e1 e2 e3
       refine⟨u',r',?_⟩
       rcases q with q|⟨k,c',e,z'⟩
       . exact .inl q
       . refine .inr ⟨k,c',e,z'.sameBut hs ?_⟩
         rintro rfl
         exact hj (yw hN e1 (I.ok.inj _ _ _ e hc ▸ hi))
   . by_cases Rf:c'=c
     . subst Rf;exact⟨_,bY⟩
     . obtain⟨w2,z2⟩:=I.cell y c' e
       exact⟨w2,z2.sameBut hs Rf⟩
   . obtain⟨e,n,ne,nf,d⟩:=I.pin p hp
     refine⟨(hs.2 p.1 ?_).trans e,n,ne,nf,d⟩
     intro q
     rw[q,Rc]at e
     have q':oc=p.2:=aaS e
     exact d w' (by rw[← q'];exact TV)
theorem oT{M:Model}{A:Around}{E:Value->Shared->Prop}{i:Nat}{x:Str}{v:V}{u:Value}{Q:Unit->Shared->Prop}(I:Inv X pins σ H s)(hN:X.N.Nodup)(hi:X.N[i]?=some x)(hx:Loc X.env.scope x)(r:RelV v u)
 (h:∀s',Inv X pins (σ.set i (some v)) H s'->Q () s') (hf:X.fn x=true\/X.env.scope.names.lookup x=some .local:=by first|exact .inl rfl|exact .inr rfl|assumption):wpAny M A (storeName X.env x u) Q E s:=
 wU I hN hi hx r (λs' I' _=>h s' I') hf
theorem Inv.P7{s':Shared}{ch:List Addr}(I:Inv X pins σ H s)(ho:s'.os=s.os) (u:Un (pP X.stack) ch H H' s.heap s'.heap) (hok:eT X.prog X.w H' s'.heap) (hg:AllBare s'.gens)
 (pQ:∀b∈ch,(b∈X.ex\/X.lZ.heap.objs.size<=b)/\b≠X.env.locals/\(∀x c,X.env.cells.lookup x=some c->c≠b)/\∀p∈X.pn++pins,p.1≠b):Inv X pins σ H' s':=by
 obtain⟨h',g',d',t',o'⟩:=s'
 have e:o'=s.os:=ho
 subst e
 exact I.call (g':=g') (t':=t') (d':=d') u hok hg pQ
end
noncomputable abbrev XK:=Value->Option Addr->Hp->Prop
noncomputable abbrev St:=List (Option V)
noncomputable abbrev VK:=V->Hp->Prop
noncomputable abbrev TE:=St->Hp->VK->Prop
noncomputable abbrev TT:=St->Hp->(Bool->Hp->Prop)->Prop
noncomputable abbrev TA:=St->Hp->(List V->Hp->Prop)->Prop
structure Ends where
 nx:St->Hp->Prop
 rt:VK
 bk:St->Hp->Prop:=λ_ _=>False
 ct:St->Hp->Prop:=λ_ _=>False
noncomputable abbrev TS:=Ends->St->Hp->Prop
noncomputable def EP(X:Cx) (pins:List (Addr×Obj)) (σ:St) (Q:VK) (u:Value) (s':Shared):Prop:=∃v H',Inv X pins σ H' s'/\RelV v u/\Q v H'
noncomputable def TP(X:Cx) (pins:List (Addr×Obj)) (σ:St) (Q:Bool->Hp->Prop) (b:Bool) (s':Shared):Prop:=∃H',Inv X pins σ H' s'/\Q b H'
noncomputable def AP(X:Cx) (pins:List (Addr×Obj)) (σ:St) (Q:List V->Hp->Prop) (us:List Value) (s':Shared):Prop:=∃vs H',Inv X pins σ H' s'/\Vals vs us/\Q vs H'
noncomputable def SP(X:Cx) (pins:List (Addr×Obj)) (D:Ends) (f:Flow) (s':Shared):Prop:=
 match f with
 | .next=>∃bo H',Inv X pins bo H' s'/\D.nx bo H'
 | .brk=>∃bo H',Inv X pins bo H' s'/\D.bk bo H'
 | .cont=>∃bo H',Inv X pins bo H' s'/\D.ct bo H'
 | .ret u=>∃v bo H',Inv X pins bo H' s'/\RelV v u/\D.rt v H'
noncomputable def PE(X:Cx)(e:Expr)(t:TE):Prop:=
 ∀(pins:List (Addr×Obj)) (s:Shared) (σ:St) (H:Hp) (Q:VK),Inv X pins σ H s->t σ H Q->wpAny (model X.prog X.w) X.A (eval e X.env) (EP X pins σ Q) X.xe s
noncomputable def PT(X:Cx)(e:Expr)(t:TT):Prop:=
 ∀(pins:List (Addr×Obj)) (s:Shared) (σ:St) (H:Hp) (Q:Bool->Hp->Prop),Inv X pins σ H s->t σ H Q->wpAny (model X.prog X.w) X.A (isTrue e X.env (eval e X.env)) (TP X pins σ Q) X.xe s
noncomputable def PW(X:Cx)(e:Expr)(t:TT):Prop:=
 ∀(whole:Sem Value) (pins:List (Addr×Obj)) (s:Shared) (σ:St) (H:Hp) (Q:Bool->Hp->Prop),Inv X pins σ H s->t σ H Q->wpAny (model X.prog X.w) X.A (isTrue e X.env whole) (TP X pins σ Q) X.xe s
theorem PW.pt{X:Cx}{e:Expr}{t:TT}(h:PW X e t):PT X e t:=h _
noncomputable def PA(X:Cx)(es:List Expr)(t:TA):Prop:=
 ∀(pos:Pos) (pins:List (Addr×Obj)) (s:Shared) (σ:St) (H:Hp) (Q:List V->Hp->Prop),Inv X pins σ H s->t σ H Q->wpAny (model X.prog X.w) X.A (spliced (backTo pos (starEach es X.env))) (AP X pins σ Q) X.xe s
noncomputable def PS(X:Cx)(st:Stmt)(t:TS):Prop:=
 ∀(pins:List (Addr×Obj)) (s:Shared) (σ:St) (H:Hp) (D:Ends),Inv X pins σ H s->t D σ H->wpAny (model X.prog X.w) X.A (exec st X.env) (SP X pins D) X.xe s
noncomputable def gj(X:Cx)(st:List Stmt)(t:TS):Prop:=
 ∀(pins:List (Addr×Obj)) (s:Shared) (σ:St) (H:Hp) (D:Ends),Inv X pins σ H s->t D σ H->wpAny (model X.prog X.w) X.A (execs st X.env) (SP X pins D) X.xe s
theorem aC{α:Type}{t:Sem α}{Q Q':α->Shared->Prop}{M:Model}{A:Around}{E:Value->Shared->Prop}{s:Shared}(h:wpAny M A t Q E s)(hQ:∀a s,Q a s->Q' a s):wpAny M A t Q' E s:=ab0 h hQ λ_ _ x=>x
section
variable {X:Cx}
theorem bin{a b:Expr}{ta tb:TE}(ha:PE X a ta)(hb:PE X b tb){pins:List (Addr×Obj)}{s:Shared}{σ:St}{H:Hp}{R:V->V->Hp->Prop}(I:Inv X pins σ H s) (h:ta σ H λx H1=>tb σ H1 λy H2=>R x y H2)
 {α:Type}{Q:α->Shared->Prop}{f:Value->Value->Sem α}
 (hf:∀v u s2 x y H2,Inv X pins σ H2 s2->RelV x v->RelV y u->R x y H2->wpAny (model X.prog X.w) X.A (f v u) Q X.xe s2) :
 wpAny (model X.prog X.w) X.A (eval a X.env) (λv dQ=>wpAny (model X.prog X.w) X.A (eval b X.env) (λu vI=>wpAny (model X.prog X.w) X.A (f v u) Q X.xe vI) X.xe dQ) X.xe s:=by
 refine aC (ha pins s σ H _ I h) λv s1 zq=>?_
 obtain⟨x,H1,I1,r1,q1⟩:=zq
 refine aC (hb pins s1 σ H1 _ I1 q1) λu s2 zq=>?_
 obtain⟨y,H2,I2,r2,q2⟩:=zq
 exact hf v u s2 x y H2 I2 r1 r2 q2
noncomputable def aL(i:Nat):TE:=λσ H Q=>∃v,σ[i]?=some (some v)/\Q v H
noncomputable def tC(v:V):TE:=λ_ H Q=>Q v H
theorem Lx{i:Nat}{x:Str}{pos:Pos}(hN:X.N[i]?=some x)(hv:Lw X.env.scope x) (hd:(x == ("__debug__" : Str))=false:=by decide) (lh:(x == ("__classdict__" : Str))=false:=by decide):PE X (.Name x pos) (aL i):=by
 intro pins s σ H Q I h
 obtain⟨v,e,h⟩:=h
 obtain⟨m,hn,hl⟩:=I.loc
 obtain⟨u,r,l⟩:=hl i x v hN e hv
 have fin:EP X pins σ Q u s:=⟨v,H,I,r,h⟩
 rcases l with⟨hk,hm⟩|⟨hk,c,hc,Ij⟩
 . exact wpAny_Name (wpAny_loadName_local I.ok.kind hk hn hm fin) hd
 . rcases hk with hk|hk
   . exact wpAny_Name (wpAny_loadName_cell I.ok.kind hk hc Ij fin) hd
   . exact wpAny_Name (wpAny_loadName_free I.ok.kind hk hc Ij fin lh) hd
theorem ao{i j pos} : PE X (.Constant (.int i) j pos) (tC (.int i)):=λ_ _ _ H _ I h=>wpAny_Constant_int ⟨.int i,H,I.tok _,⟨_,rfl⟩,h⟩
theorem kO{b j pos} : PE X (.Constant (.bool b) j pos) (tC (.bl b)):=λ_ _ _ H _ I h=>Constant_bool ⟨.bl b,H,I,rfl,h⟩
theorem uB{j pos} : PE X (.Constant .none j pos) (tC .aM):=λ_ _ _ H _ I h=>Constant_none ⟨.aM,H,I,rfl,h⟩
theorem au{x j pos} : PE X (.Constant (.str x) j pos) (tC (.str x)):=λ_ _ _ H _ I h=>adY ⟨.str x,H,I.tok _,⟨_,rfl⟩,h⟩
noncomputable def Gl(X:Cx)(x:Str):Prop:=X.env.kindOf x=some .globalImplicit
theorem nU{E:Value->Shared->Prop}{pins:List (Addr×Obj)}{s:Shared}{σ:St}{H:Hp}{x:Str}{u:Value}{pos:Pos}{Q:Value->Shared->Prop}(I:Inv X pins σ H s) (hg:Gl X x) (hm:X.mg x=some u) (h:Q u s)
 (hd:(x == ("__debug__" : Str))=false:=by decide):wpAny (model X.prog X.w) X.A (eval (.Name x pos) X.env) Q E s:=
 adW I.ok.kind hg (Calls.loadGlobal_global (by rw[I.ok.glob];exact I.mod.glob.keeps I.bk) hm h) hd
theorem iy{E:Value->Shared->Prop}{pins:List (Addr×Obj)}{s:Shared}{σ:St}{H:Hp}{x:Str}{u:Value}{pos:Pos}{Q:Value->Shared->Prop}(I:Inv X pins σ H s) (hg:Gl X x) (hm:X.mg x=none) (hv:bootBuiltins x=some u) (h:Q u s)
 (hn:x ≠ "__name__":=by decide) (hd:(x == ("__debug__" : Str))=false:=by decide):wpAny (model X.prog X.w) X.A (eval (.Name x pos) X.env) Q E s:=by
 obtain⟨mb,h1,h2⟩:=I.mod.blt
 exact adW I.ok.kind hg (Calls.loadGlobal_builtin (by rw[I.ok.glob];exact I.mod.glob.keeps I.bk) hm (by rw[I.ok.blt];exact h1.keeps I.bk) ((h2 x hn).trans hv) h) hd
theorem JX{x:Str}{v:V}{u:Value}{pos:Pos}(hg:Gl X x)(hm:X.mg x=some u)(r:RelV v u) (hd:(x == ("__debug__" : Str))=false:=by decide):PE X (.Name x pos) (tC v):=
 λ_ _ _ H _ I h=>nU I hg hm ⟨v,H,I,r,h⟩ hd
theorem Bh{x:Str}{v:V}{u:Value}{pos:Pos}(hg:Gl X x)(hm:X.mg x=none)(hv:bootBuiltins x=some u)(r:RelV v u)(hn:x ≠ "__name__":=by decide) (hd:(x == ("__debug__" : Str))=false:=by decide):PE X (.Name x pos) (tC v):=
 λ_ _ _ H _ I h=>iy I hg hm hv ⟨v,H,I,r,h⟩ hn hd
noncomputable def Vs(ta tb:TE)(k:Int->Int->Hp->Prop):St->Hp->Prop:=λσ H=>ta σ H λx H1=>tb σ H1 λy H2=>∃i j,x=.int i/\y=.int j/\k i j H2
variable {a b:Expr}{ta tb:TE}{pos:Pos}
noncomputable def PC(X:Cx)(op:CmpOp)(a b:Expr)(t:TE):Prop:=
 ∀(pins:List (Addr×Obj)) (s:Shared) (σ:St) (H:Hp) (Q:VK),Inv X pins σ H s->t σ H Q->
  wpAny (model X.prog X.w) X.A (eval a X.env) (λv dQ=>wpAny (model X.prog X.w) X.A (eval b X.env) (λu vI=>wpAny (model X.prog X.w) X.A (compareOp op v u) (EP X pins σ Q) X.xe vI) X.xe dQ) X.xe s
theorem yx(b:Expr){op:CmpOp}(h:op≠.In)(h2:op≠.NotIn):behindInMarks op b=false:=by
 have e1:(op == CmpOp.In)=false:=by cases op <;> first|rfl|exact absurd rfl h
 have e2:(op == CmpOp.NotIn)=false:=by cases op <;> first|rfl|exact absurd rfl h2
 cases b <;> simp[behindInMarks,e1,e2]
noncomputable def Ce(p:Int->Int->Bool)(ta tb:TE):TE:=λσ H Q=>Vs ta tb (λi j H2=>Q (.bl (p i j)) H2) σ H
noncomputable abbrev Vt:TE->TE->TE:=Ce λi j=>decide (i<j)
noncomputable abbrev Vu:TE->TE->TE:=Ce λi j=>decide (j<i)
noncomputable abbrev TX:TE->TE->TE:=Ce λi j=>!decide (i=j)
theorem yy{op:CmpOp}{p:Int->Int->Bool}(ha:PE X a ta)(hb:PE X b tb)
 (rule:∀(i j:Int) (t u:Tok) (Q:Value->Shared->Prop) (s:Shared),Q (.bool (p i j)) s->wpAny (model X.prog X.w) X.A (compareOp op (.int i t) (.int j u)) Q X.xe s):PC X op a b (Ce p ta tb):=by
 intro pins s σ H Q I h
 refine bin ha hb I h λv u s2 x y H2 I2 rx ry q=>?_
 obtain⟨i,j,rfl,rfl,q⟩:=q
 obtain⟨t,rfl⟩:=rx
 obtain⟨t',rfl⟩:=ry
 exact rule i j t t' _ s2 ⟨.bl _,H2,I2,rfl,q⟩
theorem P8(ha:PE X a ta)(hb:PE X b tb):PC X .Lt a b (Vt ta tb):=yy ha hb λ_ _ _ _ _ _ h=>lt_int h
theorem P9(ha:PE X a ta)(hb:PE X b tb):PC X .Gt a b (Vu ta tb):=yy ha hb λ_ _ _ _ _ _ h=>gt_int h
theorem yz(ha:PE X a ta)(hb:PE X b tb):PC X .NotEq a b (TX ta tb):=yy ha hb λ_ _ _ _ _ _ h=>ne_int (by rw[bne,Bool.beq_eq_decide_eq];exact h)
noncomputable def TY(ta:TE):TE:=λσ H Q=>ta σ H λx H1=>Q (.bl (decide (x=.aM))) H1
noncomputable def Qa(ta:TE):TE:=λσ H Q=>ta σ H λx H1=>Q (.bl (!decide (x=.aM))) H1
theorem RelV.yA{x:V}{v:Value}(r:RelV x v):(v == Value.none)=decide (x=.aM):=by
 cases x with
 | aM=>cases r;rfl
 | bl _=>cases r;rfl
 | int _=>obtain⟨t,rfl⟩:=r;rfl
 | str _=>obtain⟨t,rfl⟩:=r;rfl
 | qi _=>obtain⟨t,rfl⟩:=r;rfl
 | iF _=>obtain⟨t,rfl⟩:=r;rfl
 | ref _=>cases r;rfl
 | ty _=>cases r;rfl
theorem Ly{j pos'} (ha:PE X a ta):PC X .Is a (.Constant .none j pos') (TY ta):=by
 intro pins s σ H Q I h
 refine aC (ha pins s σ H _ I h) λv s1 zq=>?_
 obtain⟨x,H1,I1,r1,q1⟩:=zq
 exact Constant_none (is_none_gen ⟨.bl _,H1,I1,by rw[r1.yA];rfl,q1⟩)
theorem Bi{j pos'} (ha:PE X a ta):PC X .IsNot a (.Constant .none j pos') (Qa ta):=by
 intro pins s σ H Q I h
 refine aC (ha pins s σ H _ I h) λv s1 zq=>?_
 obtain⟨x,H1,I1,r1,q1⟩:=zq
 exact Constant_none (isnot_none_gen ⟨.bl _,H1,I1,by rw[r1.yA];rfl,q1⟩)
noncomputable def tB(t:TE):TT:=λσ H Q=>t σ H λx H1=>∃c,x=.bl c/\Q c H1
theorem Lz{op:CmpOp}{t:TE}(h:PC X op a b t) (h1:behindInMarks op b=false:=by first|exact yx _ (by decide) (by decide)|rfl):PE X (.Compare a [op] [b] pos) t:=λpins s σ H Q I hw=>wpAny_Compare1 (h pins s σ H Q I hw) h1
theorem iJ{op:CmpOp}{t:TE}(h:PC X op a b t) (h1:behindInMarks op b=false:=by first|exact yx _ (by decide) (by decide)|rfl):PT X (.Compare a [op] [b] pos) (tB t):=by
 intro pins s σ H Q I hw
 refine wpAny_isTrue_Compare1 (aC (h pins s σ H _ I hw) λv s1 h1=>aC h1 λu s2 h2=>aC h2 λc s3 ⟨x,H1,I1,r1,q1⟩=>?_) h1
 obtain⟨d,rfl,q⟩:=q1
 cases r1
 exact ad9 ⟨H1,I1,q⟩
theorem jm{e:Expr}{t:TE}(h:PE X e t) (he:∀whole,isTrue e X.env whole=(do let v ← whole;standAt e.pos;holding [v] (truthy v)):=by intro _;rfl):PT X e (tB t):=by
 intro pins s σ H Q I hw
 refine isTrue_plain (aC (h pins s σ H _ I hw) λv s1 ⟨x,H1,I1,r1,q1⟩=>?_) (he _)
 obtain⟨d,rfl,q⟩:=q1
 cases r1
 exact ad9 ⟨H1,I1,q⟩
variable {tA Ik:TT}{rest:List Expr}
noncomputable def TZ(t u:TT):TT:=λσ H Q=>t σ H λc H1=>if c=true then u σ H1 Q else Q false H1
noncomputable def Vv(t u:TT):TT:=λσ H Q=>t σ H λc H1=>if c=true then Q true H1 else u σ H1 Q
noncomputable def T4(t:TT):TT:=λσ H Q=>t σ H λc H1=>Q (!c) H1
theorem rY(ha:PT X a tA):PW X (.BoolOp .And [a] pos) tA:=by
 intro wh pins s σ H Q I h
 refine isTrue_and (aC (ha pins s σ H Q I h) λc s1 e=>?_)
 cases c with
 | true=>exact isTrue_and_nil e
 | false=>exact e
theorem uC(ha:PT X a tA):PW X (.BoolOp .Or [a] pos) tA:=by
 intro wh pins s σ H Q I h
 refine isTrue_or (aC (ha pins s σ H Q I h) λc s1 e=>?_)
 cases c with
 | false=>exact isTrue_or_nil e
 | true=>exact e
theorem uD(ha:PT X a tA) (hb:PW X (.BoolOp .And (b::rest) pos) Ik):PW X (.BoolOp .And (a::b::rest) pos) (TZ tA Ik):=by
 intro wh pins s σ H Q I h
 refine isTrue_and (aC (ha pins s σ H _ I h) λc s1 zq=>?_)
 obtain⟨H1,I1,q1⟩:=zq
 cases c with
 | true=>exact hb wh pins s1 σ H1 Q I1 q1
 | false=>exact⟨H1,I1,q1⟩
theorem rZ(ha:PT X a tA) (hb:PW X (.BoolOp .Or (b::rest) pos) Ik):PW X (.BoolOp .Or (a::b::rest) pos) (Vv tA Ik):=by
 intro wh pins s σ H Q I h
 refine isTrue_or (aC (ha pins s σ H _ I h) λc s1 zq=>?_)
 obtain⟨H1,I1,q1⟩:=zq
 cases c with
 | true=>exact⟨H1,I1,q1⟩
 | false=>exact hb wh pins s1 σ H1 Q I1 q1
theorem mr(ha:PT X a tA):PT X (.UnaryOp .Not a pos) (T4 tA):=by
 intro pins s σ H Q I h
 exact isTrue_not (ha pins s σ H (λc H1=>Q (!c) H1) I h)
noncomputable def LA(t:TT)(ta tb:TE):TE:=λσ H Q=>t σ H λc H1=>if c=true then ta σ H1 Q else tb σ H1 Q
theorem tO{c:Expr}(hc:PT X c tA)(ha:PE X a ta)(hb:PE X b tb):PE X (.IfExp c a b pos) (LA tA ta tb):=by
 intro pins s σ H Q I h
 refine wpAny_IfExp (aC (hc pins s σ H _ I h) λd s1 zq=>?_)
 obtain⟨H1,I1,q1⟩:=zq
 cases d with
 | true=>exact ha pins s1 σ H1 Q I1 q1
 | false=>exact hb pins s1 σ H1 Q I1 q1
end
noncomputable def aq(K:W.Frag)(H:Hp)(a:Addr)(xs:List V):Prop:=
 Rd H a (.lst xs)\/
  ∃(o:Obj) (its:Array Value) (n:Nat),K.lookup a=some o/\o.cls=.type "list" /\ o.dict=none/\o.data=.seq its n/\its.size<=sizeLine/\Vals xs its.toList
noncomputable def aH(K:W.Frag)(H:Hp)(a:Addr)(xs:List V):Prop:=
 Rd H a (.tup xs)\/
  ∃(o:Obj) (its:Array Value) (n:Nat),K.lookup a=some o/\o.cls=.type "tuple" /\ o.data=.seq its n/\its.size<=sizeLine/\Vals xs its.toList
noncomputable def T6:Value->Option V
 | .none=>some .aM
 | .bool b=>some (.bl b)
 | .int i _=>some (.int i)
 | .str x _=>some (.str x)
 | .bytes b _=>some (.qi b)
 | .float b _=>some (.iF b)
 | .ref a=>some (.ref a)
 | .type n=>some (.ty n)
 | _=>none
theorem RelV.abs{x:V}{u:Value}(r:RelV x u):T6 u=some x:=by
 cases x with
 | aM=>cases r;rfl
 | bl _=>cases r;rfl
 | int _=>obtain⟨t,rfl⟩:=r;rfl
 | str _=>obtain⟨t,rfl⟩:=r;rfl
 | qi _=>obtain⟨t,rfl⟩:=r;rfl
 | iF _=>obtain⟨t,rfl⟩:=r;rfl
 | ref _=>cases r;rfl
 | ty _=>cases r;rfl
theorem RelV.inj{x y:V}{u:Value}(r:RelV x u)(q:RelV y u):x=y:=aaS (r.abs.symm.trans q.abs)
theorem Vals.inj:∀{xs ys:List V}{us:List Value},Vals xs us->Vals ys us->xs=ys:=by
 intro xs ys us h h'
 induction h generalizing ys with
 | nil=>cases h';rfl
 | cons r t ih=>
  cases h' with
  | cons r' t'=>rw[r.inj r',ih t']
section
variable {X:Cx}{pins:List (Addr×Obj)}{σ:St}{H:Hp}{s:Shared}{a:Addr}{xs ys:List V}
theorem aq.of{K:W.Frag}(h:H a=some (.lst xs)):aq K H a xs:=.inl (.inl h)
theorem aH.of{K:W.Frag}(h:H a=some (.tup xs)):aH K H a xs:=.inl (.inl h)
theorem Inv.list(I:Inv X pins σ H s)(h:aq X.K H a xs):∃its:List Value,Vals xs its/\PlainL s.heap a its.toArray/\xs.length<=sizeLine:=by
 rcases h with h|⟨o,its,n,hk,hc,hd,hs,hz,r⟩
 . obtain⟨z,its,n,r,e⟩:=h.ok I.hok
   exact⟨its,r,⟨_,n,e,rfl,rfl,rfl⟩,z⟩
 . refine⟨its.toList,r,⟨o,n,I.iw a o hk,hc,hd,by simpa using hs⟩,?_⟩
   have e:=r.length
   simp only[adL]at e
   omega
theorem Inv.tuple(I:Inv X pins σ H s)(h:aH X.K H a xs):∃its:List Value,Vals xs its/\IsTup s.heap a its.toArray/\xs.length<=sizeLine:=by
 rcases h with h|⟨o,its,n,hk,hc,hs,hz,r⟩
 . obtain⟨z,its,r,p⟩:=h.ok I.hok
   exact⟨its,r,p,z⟩
 . refine⟨its.toList,r,⟨o,I.iw a o hk,hc,n,by simpa using hs⟩,?_⟩
   have e:=r.length
   simp only[adL]at e
   omega
theorem Inv.tP(I:Inv X pins σ H s)(h:aq X.K H a xs)(h':aq X.K H a ys):xs=ys:=by
 obtain⟨its,r,⟨o,n,e,_,_,d⟩,_⟩:=I.list h
 obtain⟨its',r',⟨o',n',e',_,_,d'⟩,_⟩:=I.list h'
 rw[e]at e';cases e'
 rw[d]at d'
 injection d' with d1 _
 have:its=its':=by simpa using congrArg Array.toList d1
 subst this
 exact r.inj r'
theorem Inv.qj(I:Inv X pins σ H s)(h:aH X.K H a xs)(h':aH X.K H a ys):xs=ys:=by
 obtain⟨its,r,⟨o,e,_,n,d⟩,_⟩:=I.tuple h
 obtain⟨its',r',⟨o',e',_,n',d'⟩,_⟩:=I.tuple h'
 rw[e]at e';cases e'
 rw[d]at d'
 injection d' with d1 _
 have:its=its':=by simpa using congrArg Array.toList d1
 subst this
 exact r.inj r'
end
noncomputable abbrev Cx.wish(X:Cx)(E:Value->Shared->Prop):Cx:={X with xe:=E}
noncomputable abbrev Cx.m8(X:Cx):Cx:=X.wish λ_ _=>False
theorem Cx.Ok.wish{X:Cx}(ok:X.Ok)(E:Value->Shared->Prop):(X.wish E).Ok:=
 ⟨ok.mod,ok.kind,ok.glob,ok.blt,ok.above,ok.inj,ok.has,ok.cab,ok.hd,ok.frames,ok.stk,ok.exf,ok.bs,ok.bsz,ok.noex,ok.exfs,ok.km,ok.frf⟩
theorem Cx.Ok.jT{X:Cx}{E:Value->Shared->Prop}(ok:(X.wish E).Ok):X.Ok:=
 ⟨ok.mod,ok.kind,ok.glob,ok.blt,ok.above,ok.inj,ok.has,ok.cab,ok.hd,ok.frames,ok.stk,ok.exf,ok.bs,ok.bsz,ok.noex,ok.exfs,ok.km,ok.frf⟩
section
variable {X:Cx}{pins:List (Addr×Obj)}{σ:St}{H:Hp}{s:Shared}{E:Value->Shared->Prop}
theorem Inv.wish(I:Inv X pins σ H s)(E:Value->Shared->Prop):Inv (X.wish E) pins σ H s:=⟨I.ok.wish E,I.os,I.bare,I.base,I.loc,I.cell,I.free,I.freeC,I.pin,I.hok,I.len⟩
theorem Inv.jT(I:Inv (X.wish E) pins σ H s):Inv X pins σ H s:=⟨I.ok.jT,I.os,I.bare,I.base,I.loc,I.cell,I.free,I.freeC,I.pin,I.hok,I.len⟩
theorem SP.jT{D:Ends}{f:Flow}{s':Shared}(h:SP (X.wish E) pins D f s'):SP X pins D f s':=by
 cases f with
 | next=>obtain⟨bo,H',I,q⟩:=h;exact⟨bo,H',I.jT,q⟩
 | brk=>obtain⟨bo,H',I,q⟩:=h;exact⟨bo,H',I.jT,q⟩
 | cont=>obtain⟨bo,H',I,q⟩:=h;exact⟨bo,H',I.jT,q⟩
 | ret u=>obtain⟨v,bo,H',I,r,q⟩:=h;exact⟨v,bo,H',I.jT,r,q⟩
theorem gj.m8{st:List Stmt}{t:TS}(h:gj X.m8 st t):gj X st t:=λpins s σ H D I hw=>
 ab0 (h pins s σ H D (I.wish _) hw) (λ_ _ q=>q.jT) λ_ _ z=>False.elim z
end
section
variable {X:Cx}{st:Stmt}{rest:List Stmt}{t u:TS}{e:Expr}{te:TE}{pos:Pos}
noncomputable def Qb:TS:=λD σ H=>D.nx σ H
noncomputable def Gm(t u:TS):TS:=λD σ H=>t {D with nx:=u D} σ H
theorem bN:gj X [] Qb:=λ_ _ σ H _ I h=>acI ⟨σ,H,I,h⟩
theorem aj(h1:PS X st t)(h2:gj X rest u):gj X (st::rest) (Gm t u):=by
 intro pins s σ H D I h
 refine acW (aC (h1 pins s σ H {D with nx:=u D} I h) λf s1 q=>?_)
 cases f with
 | next=>
  obtain⟨bo,H',I',q⟩:=q
  exact h2 pins s1 bo H' D I' q
 | ret v=>exact q
 | brk=>exact q
 | cont=>exact q
theorem av(h1:PS X st t):gj X [st] t:=by
 intro pins s σ H D I h
 refine acW (aC (h1 pins s σ H D I h) λf s1 q=>?_)
 cases f with
 | next=>exact acI q
 | ret v=>exact q
 | brk=>exact q
 | cont=>exact q
theorem Inv.quiet{pins:List (Addr×Obj)}{σ:St}{H:Hp}{s:Shared}(I:Inv X pins σ H s):interactive X.env=false:=by simp[interactive,I.ok.kind]
noncomputable def Qc(te:TE):TS:=λD σ H=>te σ H λ_ H1=>D.nx σ H1
theorem dg(he:PE X e te)(hs:swapsWith e none pos.line X.env=pure false:=by rfl):PS X (.Expr e pos) (Qc te):=by
 intro pins s σ H D I h
 exact wpAny_Expr_any (aC (he pins s σ H _ I h) λv s1 ⟨x,H1,I1,r1,q1⟩=>⟨σ,H1,I1,q1⟩) I.quiet hs
noncomputable def LB(te:TE):TS:=λD σ H=>te σ H D.rt
theorem aJ(he:PE X e te):PS X (.Return (some e) pos) (LB te):=by
 intro pins s σ H D I h
 exact wpAny_Return_some (aC (he pins s σ H _ I h) λv s1 ⟨x,H1,I1,r1,q1⟩=>⟨x,σ,H1,I1,r1,q1⟩)
noncomputable def T7(c:TT)(t u:TS):TS:=λD σ H=>c σ H λb H1=>if b=true then t D σ H1 else u D σ H1
theorem cU{c:Expr}{a b:List Stmt}{tc:TT}(hc:PT X c tc)(ha:gj X a t)(hb:gj X b u):PS X (.If c a b pos) (T7 tc t u):=by
 intro pins s σ H D I h
 refine wpAny_If (aC (hc pins s σ H _ I h) λd s1 zq=>?_)
 obtain⟨H1,I1,q1⟩:=zq
 cases d with
 | true=>exact ha pins s1 σ H1 D I1 q1
 | false=>exact hb pins s1 σ H1 D I1 q1
end
noncomputable abbrev TG:=V->St->Hp->(St->Hp->Prop)->Prop
noncomputable abbrev uE:=List V->St->Hp->(St->Hp->Prop)->Prop
noncomputable def PG(X:Cx)(target:Expr)(t:TG):Prop:=
 ∀(pins:List (Addr×Obj)) (s:Shared) (σ:St) (H:Hp) (v:V) (u:Value) (Q:St->Hp->Prop),Inv X pins σ H s->RelV v u->t v σ H Q->
  wpAny (model X.prog X.w) X.A (assign target X.env u) (λ_ s'=>∃bo H',Inv X pins bo H' s'/\Q bo H') X.xe s
noncomputable def DU(X:Cx)(ts:List Expr)(t:uE):Prop:=
 ∀(pins:List (Addr×Obj)) (s:Shared) (σ:St) (H:Hp) (vs:List V) (us:List Value) (Q:St->Hp->Prop),Inv X pins σ H s->Vals vs us->t vs σ H Q->
  wpAny (model X.prog X.w) X.A (assignInOrder ((assignEach ts X.env).map (·.2)) us) (λ_ s'=>∃bo H',Inv X pins bo H' s'/\Q bo H') X.xe s
noncomputable abbrev Gn:=V->V->V->Hp->(Hp->Prop)->Prop
noncomputable def LC(X:Cx)(t:Gn):Prop:=
 ∀(pins:List (Addr×Obj)) (s:Shared) (σ:St) (H:Hp) (o i v:V) (ov iv u:Value) (Q:Hp->Prop),Inv X pins σ H s->RelV o ov->RelV i iv->RelV v u->t o i v H Q->
  wpAny (model X.prog X.w) X.A (setItem ov iv u) (λ_ s'=>∃H',Inv X pins σ H' s'/\Q H') X.xe s
section
variable {X:Cx}{pos:Pos}
noncomputable def bO(i:Nat):TG:=λv σ H Q=>Q (σ.set i (some v)) H
theorem ar{i:Nat}{x:Str}(hN:X.N.Nodup)(hi:X.N[i]?=some x)(hx:Loc X.env.scope x)(hf:X.fn x=true\/X.env.scope.names.lookup x=some .local:=by first|exact .inl rfl|exact .inr rfl|assumption):PG X (.Name x pos) (bO i):=by
 intro pins s σ H v u Q I r h
 exact wpAny_assign_Name (oT I hN hi hx r (λs' I'=>⟨_,H,I',h⟩) hf)
noncomputable def lJ:uE:=λvs σ H Q=>vs=[]/\Q σ H
noncomputable def dm(t:TG)(u:uE):uE:=λvs σ H Q=>∃v r,vs=v::r/\t v σ H λbo H'=>u r bo H' Q
theorem cc:DU X [] lJ:=by
 intro pins s σ H vs us Q I r h
 obtain⟨e,h⟩:=h
 subst e
 cases r
 exact assignInOrder_nil ⟨σ,H,I,h⟩
theorem aA{e:Expr}{es:List Expr}{t:TG}{u:uE}(h1:PG X e t)(h2:DU X es u)
 (hs:(assignEach (e::es) X.env).map (·.2)=assign e X.env::(assignEach es X.env).map (·.2):=by rfl):DU X (e::es) (dm t u):=by
 intro pins s σ H vs us Q I r h
 obtain⟨v,vr,e1,h⟩:=h
 subst e1
 cases r with
 | cons r rr=>
  rw[hs]
  refine assignInOrder_cons (aC (h1 pins s σ H _ _ _ I r h) λ_ s1 zq=>?_)
  obtain⟨AX,H1,I1,q1⟩:=zq
  exact h2 pins s1 AX H1 _ _ Q I1 rr q1
noncomputable def lK(K:W.Frag)(n:Nat)(t:uE):TG:=λv σ H Q=>∃a xs,v=.ref a/\aH K H a xs/\xs.length=n/\t xs σ H Q
theorem cN{es:List Expr}{k:Nat}{t:uE}{n:Nat}(hc:X.calm=true)(h:DU X es t)
 (hn:(assignEach es X.env).length=n:=by rfl) (lS:(assignEach es X.env).findIdx? (·.1)=none:=by rfl):PG X (.Tuple es k pos) (lK X.K n t):=by
 intro pins s σ H v u Q I r hw
 obtain⟨a,xs,e1,hq,hl,hw⟩:=hw
 subst e1
 cases r
 obtain⟨its,rv,ht,hz⟩:=I.tuple hq
 refine assign_Tuple_tuple (I.ok.hd hc) ht (by simp[hn,← hl,rv.length]) lS λh' hx=>?_
 have I1:Inv X pins σ H {s with heap:=h'}:=I.kept (t':=s.toks) λb o e=>hx b o (aaw (aam e)) e
 exact h pins _ σ H xs _ Q I1 (by simpa using rv) hw
noncomputable def T8(to ti:TE)(t:Gn):TG:=λv σ H Q=>to σ H λo H1=>ti σ H1 λi H2=>t o i v H2 λH3=>Q σ H3
theorem DV{o i:Expr}{to ti:TE}{t:Gn}(ho:PE X o to)(hi:PE X i ti)(hs:LC X t)
 (ha:∀v,assign (.Subscript o i pos) X.env v=(do
  let ov ← holding [v] (eval o X.env)
  let iv ← holding [v,ov] (eval i X.env)
  standAt pos
  holding [v,ov,iv] (setItem ov iv v)
  release [v,ov,iv] []):=by intro _;rfl):PG X (.Subscript o i pos) (T8 to ti t):=by
 intro pins s σ H v u Q I r h
 rw[ha]
 refine aab (abq (aC (ho pins s σ H _ I h) λov s1 zq=>?_))
 obtain⟨x,H1,I1,r1,q1⟩:=zq
 refine aab (abq (aC (hi pins s1 σ H1 _ I1 q1) λiv s2 zq=>?_))
 obtain⟨y,H2,I2,r2,q2⟩:=zq
 refine aab (aeh (aab (abq (aC (hs pins s2 σ H2 x y v ov iv u _ I2 r1 r2 r q2) λ_ s3 zq=>?_))))
 obtain⟨H3,I3,q3⟩:=zq
 exact wpAny_release ⟨σ,H3,I3,q3⟩
noncomputable def qk(te:TE)(g:TG):TS:=λD σ H=>te σ H λx H1=>g x σ H1 D.nx
theorem yB{tg e:Expr}{te:TE}{g:TG}(he:PE X e te)(hg:PG X tg g)(hs:swapsWithSole [tg] e pos.line X.env=pure false:=by rfl)(hw:swappedStores [tg] e X.env=pure none:=by rfl)
 (h1:(assignEach [tg] X.env).map (·.2)=[assign tg X.env]:=by rfl):PS X (.Assign [tg] e pos) (qk te g):=by
 intro pins s σ H D I h
 refine wpAny_Assign_stores (aC (he pins s σ H _ I h) λv s1 ⟨x,H1,I1,r1,q1⟩=>?_) hs hw
 rw[h1]
 exact aC (hg pins s1 σ H1 x v _ I1 r1 q1) λ_ s2 q=>q
theorem bq{i:Nat}{x:Str}{e:Expr}{te:TE}{pos':Pos}(hN:X.N.Nodup)(hi:X.N[i]?=some x)(hx:Loc X.env.scope x)(he:PE X e te) (hs:swapsWith e (some (.Name x pos')) pos.line X.env=pure false:=by rfl) (hf:X.fn x=true\/X.env.scope.names.lookup x=some .local:=by first|exact .inl rfl|exact .inr rfl|assumption) :
 PS X (.Assign [.Name x pos'] e pos) (qk te (bO i)):=by
 intro pins s σ H D I h
 refine aea (aC (he pins s σ H _ I h) λv s1 ⟨y,H1,I1,r1,q1⟩=>?_) hs
 exact oT I1 hN hi hx r1 (λs2 I2=>⟨_,H1,I2,q1⟩) hf
noncomputable def LD(c:TT)(tb:TS):TS:=λD σ H=>∃W:Nat->St->Hp->Prop,(∃m,W m σ H)/\∀m σ H,W m σ H->
 c σ H λb H1=>if b=true then ∃N:St->Hp->Prop,(∀bo H',N bo H'->∃m',m'<m/\W m' bo H')/\tb {D with nx:=N,ct:=N,bk:=D.nx} σ H1 else D.nx σ H1
theorem yC{c:Expr}{body:List Stmt}{tc:TT}{tb:TS}(hp:PassesOwn (model X.prog X.w) X.A X.env X.xe) (hc:PT X c tc) (hb:gj X body tb):PS X (.While c body [] pos) (LD tc tb):=by
 intro pins s σ H D I h
 obtain⟨W,⟨m0,w0⟩,turn⟩:=h
 refine wpAny_While (codeAny_whileLoop (λn s'=>∃bo H',Inv X pins bo H' s'/\W n bo H') ?_ m0 ⟨σ,H,I,w0⟩)
 rintro n s1 ⟨AX,H1,I1,w1⟩
 refine abG hp (aC (hc pins s1 AX H1 _ I1 (turn n AX H1 w1)) λb s2 zq=>?_)
 obtain⟨H2,I2,q2⟩:=zq
 cases b with
 | true=>
  obtain⟨N,hN,q2⟩:=q2
  rw[aa4 rfl]
  refine abG hp (aC (hb pins s2 AX H2 _ I2 q2) λf s3 q3=>?_)
  cases f with
  | next=>
   obtain⟨ql,H3,I3,n3⟩:=q3
   obtain⟨m',hm,w3⟩:=hN ql H3 n3
   exact⟨m',hm,ql,H3,I3,w3⟩
  | cont=>
   obtain⟨ql,H3,I3,n3⟩:=q3
   obtain⟨m',hm,w3⟩:=hN ql H3 n3
   exact⟨m',hm,ql,H3,I3,w3⟩
  | brk=>exact q3
  | ret v=>exact q3
 | false=>
  rw[aaY aax]
  exact acI ⟨AX,H2,I2,q2⟩
end
structure It where
 go:Nat->Hp->Prop
 yld:Nat->Hp->V->Hp->Prop
 stop:Nat->Hp->Prop
noncomputable def iK(X:Cx) (pins:List (Addr×Obj)) (H:Hp) (b:Addr):Prop:=
 H b=none/\b≠X.env.locals/\b∉X.fs/\(b∈X.ex\/X.lZ.heap.objs.size<=b)/\(∀x c,X.env.cells.lookup x=some c->c≠b)/\∀p∈X.pn++pins,p.1≠b
theorem Inv.nL{X:Cx}{pins:List (Addr×Obj)}{σ:St}{H H':Hp}{s:Shared}{b:Addr}(I:Inv X pins σ H s) (hb:s.heap.objs.size<=b) (hn:H' b=none):iK X pins H' b:=by
 refine⟨hn,abc (aaV I.lt hb),I.TR hb,.inr (aao I.sz hb),λx c e z=>?_,λp hp z=>?_⟩
 . obtain⟨v,q⟩:=I.cell x c e
   exact absurd (aaV q.lt (by rw[z];exact hb)) (abT _)
 . exact absurd (aaV (aam (I.pin p hp).1) (by rw[z];exact hb)) (abT _)
structure Turn(P:Program) (w:World) (K:W.Frag) (tg:Expr) (J:It) (fp:List Addr) (it:Addr) (tn:Nat->Heap->Prop):Prop where
 mem:it∈fp
 obj:∀i h,tn i h->∀b∈fp,∃o,h.get? b=some o/\∀v,o.data≠.cell v
 keep:∀i h h',tn i h->(∀b∈fp,∀o,h.get? b=some o->h'.get? b=some o)->tn i h'
 item:∀(X:Cx),X.prog=P->X.w=w->X.K=K->X.calm=true->∀(i:Nat) (pins:List (Addr×Obj)) (s:Shared) (σ:St) (H:Hp) (E:Value->Shared->Prop),Inv X pins σ H s->(∀b∈fp,iK X pins H b)->tn i s.heap->J.go i H->
  wpAny (model P w) X.A (pyNext (.ref it)) (λr s1=>∃u,r=some u/\
   wpAny (model P w) X.A (letOwnedTupleGo tg (.ref it) u) (λ_ s2=>∃x H',Inv X pins σ H' s2/\RelV x u/\J.yld i H x H'/\tn (i+1) s2.heap/\∀b∈fp,H' b=none) E s1) E s
 done:∀(X:Cx),X.prog=P->X.w=w->X.K=K->X.calm=true->∀(i:Nat) (pins:List (Addr×Obj)) (s:Shared) (σ:St) (H:Hp) (E:Value->Shared->Prop),Inv X pins σ H s->(∀b∈fp,iK X pins H b)->tn i s.heap->J.stop i H->
  wpAny (model P w) X.A (pyNext (.ref it)) (λr s1=>r=none/\Inv X pins σ H s1) E s
 self:∀(A:Around) (i:Nat) (s:Shared) (Q:Value->Shared->Prop) (E:Value->Shared->Prop),tn i s.heap->Q (.ref it) s->wpAny (model P w) A (pyIter (.ref it)) Q E s
noncomputable abbrev TI:=St->Hp->(It->Hp->Prop)->Prop
noncomputable def Rg(X:Cx) (pins:List (Addr×Obj)) (σ:St) (tg:Expr) (R:It->Hp->Prop) (Il:Value) (s2:Shared):Prop:=
 ∃(it:Addr) (fp:List Addr) (tn:Nat->Heap->Prop) (J:It) (H':Hp),Il=.ref it/\Inv X pins σ H' s2/\Turn X.prog X.w X.K tg J fp it tn/\tn 0 s2.heap/\(∀b∈fp,iK X pins H' b)/\R J H'
noncomputable def PI(X:Cx)(tg iter:Expr)(wi:TI):Prop:=
 ∀(pins:List (Addr×Obj)) (s:Shared) (σ:St) (H:Hp) (R:It->Hp->Prop),Inv X pins σ H s->wi σ H R->
  wpAny (model X.prog X.w) X.A (eval iter X.env) (λv s1=>wpAny (model X.prog X.w) X.A (pyIter v) (Rg X pins σ tg R) X.xe s1) X.xe s
theorem yh{M:Model}{A:Around}{E:Value->Shared->Prop}{s:Shared}{tg:Expr}{it:Addr}{u:Value}{o:Obj}{n:String}{vs:Array Value}{Q:Unit->Shared->Prop}(ho:s.heap.get? it=some o)(hc:o.cls=.type n)(hd:o.data=.fields vs)
 (hn:["enumerate", "zip", "dict_itemiterator", "dict_reverseitemiterator", "odict_iterator", "itertools.zip_longest", "itertools.pairwise"].contains n=false) (hQ:Q () s):wpAny M A (letOwnedTupleGo tg (.ref it) u) Q E s:=by
 unfold letOwnedTupleGo
 cases tg <;> first
  | exact aaj hQ
  | (cases u <;> first
      | exact aaj hQ
      | (refine aab (wpAny_load ho ?_)
         rw[hc,hd]
         show wpAny M A (if (["enumerate", "zip", "dict_itemiterator", "dict_reverseitemiterator", "odict_iterator", "itertools.zip_longest", "itertools.pairwise"].contains n && vs[0]? == some (rawInt _))=true then _ else _) Q E s
         rw[aaY (by intro h;rw[hn,Bool.false_and]at h;cases h)]
         exact aaj hQ))
noncomputable def uF(K:W.Frag)(a:Addr):It:=
 ⟨λi H=>∃xs x,aq K H a xs/\xs[i]?=some x,λi H x H'=>H'=H/\∀xs,aq K H a xs->xs[i]?=some x,λi H=>∃xs,aq K H a xs/\xs.length<=i⟩
noncomputable def Bj(lo:Int)(n:Nat):It:=⟨λi _=>i<n,λi H x H'=>H'=H/\x=.int (lo+i),λi _=>n<=i⟩
theorem DW{P:Program}{w:World}{K:W.Frag}{tg:Expr}(a it:Addr):Turn P w K tg (uF K a) [it] it (λi h=>h.IsListIter it a i) where
 mem:=by simp
 obj:=λi h st b hb=>by
  have e:b=it:=by simpa using hb
  subst e
  obtain⟨o,e,c,d⟩:=st
  exact⟨o,e,λv z=>by rw[d]at z;cases z⟩
 keep:=λi h h' st k=>st.at λo e=>k it (by simp) o e
 item:=by
  intro X hP hw hK hc i pins s σ H E I hf st hg
  subst hP hw hK
  obtain⟨xs,x,hq,hx⟩:=hg
  obtain⟨its,rv,p,hz⟩:=I.list hq
  obtain⟨u,hu,ru⟩:=rv.get hx
  obtain⟨f0,f1,f2,f3,f4,f5⟩:=hf it (by simp)
  refine adg st p.isList (x:=u) (by simpa using hu) λh' pR sb=>?_
  have I1:Inv X pins σ H {s with heap:=h'}:=I.turned (t':=s.toks) (λb o hb e=>(sb.2 b hb).trans e) f0 f1 f3 f4 f5
  obtain⟨o,e,c,d⟩:=id pR
  exact⟨u,rfl,yh (s:={s with heap:=h'}) e c d (by decide) ⟨x,H,I1,ru,⟨rfl,λys hy=>by rw[I.tP hy hq];exact hx⟩,pR,λb hb=>(hf b hb).1⟩⟩
 done:=by
  intro X hP hw hK hc i pins s σ H E I hf st hg
  subst hP hw hK
  obtain⟨xs,hq,hx⟩:=hg
  obtain⟨its,rv,p,hz⟩:=I.list hq
  obtain⟨f0,f1,f2,f3,f4,f5⟩:=hf it (by simp)
  have hl:=rv.length
  exact adp (I.ok.hd hc) st p.isList (by simp;omega) λh' eb=>⟨rfl,I.turned (t':=s.toks) (λb o hb e=>eb b o hb e) f0 f1 f3 f4 f5⟩
 self:=λ_ _ _ _ _ st h=>wpAny_pyIter_listiter st h
theorem Cf{P:Program}{w:World}{K:W.Frag}{tg:Expr}(it:Addr)(lo:Int)(n:Nat):Turn P w K tg (Bj lo n) [it] it (λi h=>IsRangeIter h it (lo+(i:Nat)*1) ((n:Int)-(i:Nat)) 1) where
 mem:=by simp
 obj:=λi h st b hb=>by
  have e:b=it:=by simpa using hb
  subst e
  exact⟨_,st,λv z=>by
   have z':Data.fields _=Data.cell v:=z
   cases z'⟩
 keep:=λi h h' st k=>k it (by simp) _ st
 item:=by
  intro X hP hw hK hc i pins s σ H E I hf st hg
  subst hP hw hK
  obtain⟨f0,f1,f2,f3,f4,f5⟩:=hf it (by simp)
  have W:=Walks.range (prog:=X.prog) (w:=X.w) (I.ok.hd hc) it lo 1 n
  refine W.item i s _ _ hg st λv h' tk hv pR kk=>?_
  obtain⟨t,rfl⟩:=hv
  have I1:Inv X pins σ H {s with heap:=h',toks:=tk}:=I.turned (λb o hb e=>kk b o (by simpa using hb) e) f0 f1 f3 f4 f5
  refine⟨_,rfl,yh (s:={s with heap:=h',toks:=tk}) (n:="range_iterator") pR rfl rfl (by decide) ⟨.int (lo+i),H,I1,⟨t,?_⟩,⟨rfl,rfl⟩,pR,λb hb=>(hf b hb).1⟩⟩
  rw[Int.mul_one]
 done:=by
  intro X hP hw hK hc i pins s σ H E I hf st hg
  subst hP hw hK
  obtain⟨f0,f1,f2,f3,f4,f5⟩:=hf it (by simp)
  exact wpAny_pyNext_range_end (I.ok.hd hc) st (by have:n<=i:=hg;omega) λh' eb=>⟨rfl,I.turned (t':=s.toks) (λb o hb e=>eb b o hb e) f0 f1 f3 f4 f5⟩
 self:=λ_ _ _ _ _ st h=>wpAny_pyIter_rangeiter st h
section
variable {X:Cx}{tg:Expr}
noncomputable def Qd(K:W.Frag)(tl:TE):TI:=λσ H R=>tl σ H λx H1=>∃a,x=.ref a/\(∃xs,aq K H1 a xs)/\R (uF K a) H1
theorem ba{l:Expr}{tl:TE}(hl:PE X l tl):PI X tg l (Qd X.K tl):=by
 intro pins s σ H R I h
 refine aC (hl pins s σ H _ I h) λv s1 zq=>?_
 obtain⟨x,H1,I1,r1,q1⟩:=zq
 obtain⟨a,e,⟨xs,hq⟩,q⟩:=q1
 subst e
 cases r1
 obtain⟨its,rv,p,hz⟩:=I1.list hq
 refine adj p.isList ?_
 refine⟨s1.heap.objs.size,[s1.heap.objs.size],_,_,H1,rfl,I1.kept (t':=s1.toks) λb o e=>aac _ e,DW a _,⟨_,aaq _ rfl,rfl,rfl⟩,λb hb=>?_,q⟩
 have e:b=s1.heap.objs.size:=by simpa using hb
 subst e
 exact I1.nL (aah _) (I1.hok.fresh (aah _))
theorem Gp{pins:List (Addr×Obj)}{σ:St}{H:Hp}{s:Shared}{R:It->Hp->Prop}{E:Value->Shared->Prop}{lo hi:Int}{t u v:Tok}{tk:Nat}(I:Inv X pins σ H s) (h1 : -(2 ^ 62)<=lo) (h2:lo<2 ^ 62) (h3 : -(2 ^ 62)<=hi) (h4:hi<2 ^ 62)
 (q:R (Bj lo (hi-lo).toNat) H):wpAny (model X.prog X.w) X.A (pyIter (.ref s.heap.objs.size)) (Rg X pins σ tg R) E {s with heap:=s.heap.push {cls:=.type "range",data:=.fields #[.int lo t,.int hi u,.int 1 v] },toks:=tk}:=by
 refine wpAny_pyIter_range (IsRange.new ..) (small_one h1 h2 h3 h4) ?_
 have I1:Inv X pins σ H {s with heap:=s.heap.push {cls:=.type "range",data:=.fields #[.int lo t,.int hi u,.int 1 v] },toks:=tk}:=I.kept λb o e=>aac _ e
 refine⟨(s.heap.push {cls:=.type "range",data:=.fields #[.int lo t,.int hi u,.int 1 v] }).objs.size,[(s.heap.push {cls:=.type "range",data:=.fields #[.int lo t,.int hi u,.int 1 v] }).objs.size],_,_,H,rfl,
  I1.kept (t':=tk) λb o e=>aac _ e,Cf _ lo (hi-lo).toNat,?_,λb hb=>?_,q⟩
 . have e1:lo+((0:Nat):Int)*1=lo:=by simp
   have e2:(((hi-lo).toNat:Nat):Int)-((0:Nat):Int)=Builtin.Range.rangeSize lo hi 1:=by rw[rangeSize_one];split <;> omega
   show IsRangeIter _ _ (lo+((0:Nat):Int)*1) ((((hi-lo).toNat:Nat):Int)-((0:Nat):Int)) 1
   rw[e1,e2]
   exact aaq _ rfl
 . have e:b=(s.heap.push {cls:=.type "range",data:=.fields #[.int lo t,.int hi u,.int 1 v] }).objs.size:=by simpa using hb
   subst e
   exact I1.nL (aah _) (I1.hok.fresh (aah _))
noncomputable def Qe(ta:TA):TI:=λσ H R=>ta σ H λvs H1=>∃j:Int,vs=[.int j] /\ -(2 ^ 62)<=j/\j<2 ^ 62/\R (Bj 0 j.toNat) H1
theorem dh{a:Expr}{ta:TA}{p pos:Pos}(hg:Gl X "range")(hm:X.mg "range" = none)(ha:PA X [a] ta) (hs:starEach [a] X.env=[(false,eval a X.env)]:=by rfl):PI X tg (.Call (.Name "range" p) [a] [] pos) (Qe ta):=by
 intro pins s σ H R I h
 refine Call_ (iy I hg hm boot_range (abi (aC (ha pos pins s σ H _ I h) λus s1 ⟨vs,H1,I1,r1,q1⟩=>?_) hs rfl))
 obtain⟨j,e,q1,q2,q⟩:=q1
 subst e
 cases r1 with
 | cons r rr=>
  cases rr
  obtain⟨t,rfl⟩:=r
  exact call_range_1 (Gp I1 (by omega) (by omega) q1 q2 (by simpa using q))
noncomputable def LF(wi:TI)(g:TG)(tb:TS):TS:=λD σ H=>wi σ H λJ H1=>∃W:Nat->Nat->St->Hp->Prop,(∃m,W 0 m σ H1)/\∀i m σ H,W i m σ H->
 (J.stop i H/\D.nx σ H)\/(J.go i H/\∃N:St->Hp->Prop,(∀bo H',N bo H'->∃m',m'<m/\W (i+1) m' bo H')/\∀x H',J.yld i H x H'->g x σ H' λeU H2=>tb {D with nx:=N,ct:=N,bk:=D.nx} eU H2)
noncomputable def nV(fp:List Addr)(h:Heap):List (Addr×Obj):=fp.filterMap λb=>(h.get? b).map λo=>(b,o)
theorem iW{fp:List Addr}{h:Heap}{b:Addr}{o:Obj}(hb:b∈fp)(e:h.get? b=some o):(b,o)∈nV fp h:=aeW.mpr ⟨b,hb,by rw[e];rfl⟩
theorem DX{fp:List Addr}{h:Heap}{p:Addr×Obj}(hp:p∈nV fp h):p.1∈fp/\h.get? p.1=some p.2:=by
 obtain⟨b,hb,e⟩:=aeW.mp hp
 cases q:h.get? b with
 | none=>rw[q]at e;cases e
 | some o=>
  rw[q]at e
  have e':(b,o)=p:=aaS e
  subst e'
  exact⟨hb,q⟩
theorem Inv.pinned{pins:List (Addr×Obj)}{σ:St}{H:Hp}{s:Shared}{fp:List Addr}(I:Inv X pins σ H s) (hf:∀b∈fp,iK X pins H b) (ho:∀b∈fp,∃o,s.heap.get? b=some o/\∀v,o.data≠.cell v):Inv X (pins++nV fp s.heap) σ H s:=
 I.Bg λp hp=>(aae.mp hp).elim (λz=>I.pin p (aaZ _ z)) λz=>by
  obtain⟨hb,e⟩:=DX z
  obtain⟨f0,f1,f2,_⟩:=hf p.1 hb
  obtain⟨o,e',d⟩:=ho p.1 hb
  rw[e]at e';cases e'
  exact⟨e,f0,f1,f2,d⟩
theorem Inv.jC{pins pl:List (Addr×Obj)}{σ:St}{H:Hp}{s:Shared}(I:Inv X (pins++pl) σ H s):Inv X pins σ H s:=I.Bg λp hp=>I.pin p (aaZ _ (acp _ hp))
theorem dU{iter:Expr}{body:List Stmt}{wi:TI}{g:TG}{tb:TS}{pos:Pos}(hp:PassesOwn (model X.prog X.w) X.A X.env X.xe) (hc:X.calm=true) (hi:PI X tg iter wi) (hg:PG X tg g) (hb:gj X body tb)
 (hs:∀x,foldedSetIterable iter X.env x=pure x:=by intro _;rfl):PS X (.For tg iter body [] pos) (LF wi g tb):=by
 intro pins s σ H D I h
 refine wpAny_For (aC (hi pins s σ H _ I h) λv s1 h1=>aC h1 λIl s2 h2=>?_) hs
 obtain⟨it,fp,tn,J,H2,e,I2,T,jU,f2,W,⟨m0,w0⟩,turn⟩:=h2
 subst e
 have tQ:∀{H':Hp},(∀b∈fp,H' b=none)->∀b∈fp,iK X pins H' b:=λhn b hb=>⟨hn b hb,(f2 b hb).2⟩
 refine codeAny_forLoop_any (λn s'=>∃i bo H',Inv X pins bo H' s'/\tn i s'.heap/\(∀b∈fp,H' b=none)/\W i n bo H') ?_ m0 ⟨0,σ,H2,I2,jU,λb hb=>(f2 b hb).1,w0⟩
 rintro n s3 ⟨i,ql,H3,I3,DY,DZ,w3⟩
 rcases turn i n ql H3 w3 with⟨stop,qn⟩|⟨go,N,hN,step⟩
 . refine abG hp (aC (T.done X rfl rfl rfl hc i pins s3 ql H3 X.xe I3 (tQ DZ) DY stop) λr s4 ⟨hr,I4⟩=>?_)
   subst hr
   exact acI ⟨ql,H3,I4,qn⟩
 . refine abG hp (aC (T.item X rfl rfl rfl hc i pins s3 ql H3 X.xe I3 (tQ DZ) DY go) λr s4 zq=>?_)
   obtain⟨u,hr,h4⟩:=zq
   subst hr
   refine abG hp (aC h4 λ_ s5 zq=>?_)
   obtain⟨x,H5,I5,r5,y5,sI,Bk⟩:=zq
   have LG:=I5.pinned (tQ Bk) (T.obj _ _ sI)
   refine abG hp (aC (hg _ s5 ql H5 x u _ LG r5 (step x H5 y5)) λ_ s6 zq=>?_)
   obtain⟨T9,H6,I6,q6⟩:=zq
   refine abG hp (aC (hb _ s6 T9 H6 _ I6 q6) λf s7 q7=>?_)
   have again:∀{mv:St}{H7:Hp},Inv X (pins++nV fp s5.heap) mv H7 s7->N mv H7->∃m,m<n/\∃i bo H',Inv X pins bo H' s7/\tn i s7.heap/\(∀b∈fp,H' b=none)/\W i m bo H':=λ{mv H7} I7 n7=>by
    obtain⟨m',hm,w7⟩:=hN mv H7 n7
    refine⟨m',hm,i+1,mv,H7,I7.jC,T.keep _ _ _ sI λb hb o e=>(I7.pin (b,o) (aaZ _ (aaZ _ (iW hb e)))).1,λb hb=>?_,w7⟩
    obtain⟨o,e,d⟩:=T.obj _ _ sI b hb
    exact(I7.pin (b,o) (aaZ _ (aaZ _ (iW hb e)))).2.1
   cases f with
   | next=>obtain⟨mv,H7,I7,n7⟩:=q7;exact again I7 n7
   | cont=>obtain⟨mv,H7,I7,n7⟩:=q7;exact again I7 n7
   | brk=>obtain⟨mv,H7,I7,q7⟩:=q7;exact⟨mv,H7,I7.jC,q7⟩
   | ret v=>obtain⟨x7,mv,H7,I7,r7,q7⟩:=q7;exact⟨x7,mv,H7,I7.jC,r7,q7⟩
end
theorem gz{K:W.Frag}{a:Addr}{xs:List V}{g:TG}{tb:TS}{D:Ends}{σ:St}{H:Hp}(Pv:Nat->St->Hp->Prop)(h0:Pv 0 σ H)(hl:∀i σ H,i<=xs.length->Pv i σ H->aq K H a xs)
 (hs:∀i x σ H,xs[i]?=some x->Pv i σ H->g x σ H λeU H2=>tb {D with nx:=Pv (i+1),ct:=Pv (i+1),bk:=D.nx} eU H2) (hd:∀σ H,Pv xs.length σ H->D.nx σ H) :
 ∃W:Nat->Nat->St->Hp->Prop,(∃m,W 0 m σ H)/\∀i m σ H,W i m σ H->
  ((uF K a).stop i H/\D.nx σ H)\/((uF K a).go i H/\∃N:St->Hp->Prop,(∀bo H',N bo H'->∃m',m'<m/\W (i+1) m' bo H')/\∀x H',(uF K a).yld i H x H'->g x σ H' λeU H2=>tb {D with nx:=N,ct:=N,bk:=D.nx} eU H2):=by
 refine⟨λi m σ H=>m=xs.length-i/\i<=xs.length/\Pv i σ H,⟨xs.length,by simp,abM _,h0⟩,?_⟩
 rintro i m σ H ⟨rfl,hi,p⟩
 have q:=hl i σ H hi p
 by_cases c8:i<xs.length
 . refine .inr ⟨⟨xs,xs[i],q,by simp[c8]⟩,Pv (i+1),λbo H' p'=>⟨xs.length-(i+1),by omega,rfl,c8,p'⟩,λx H' y=>?_⟩
   obtain⟨e,y⟩:=y
   subst e
   exact hs i x σ _ (y xs q) p
 . have e:i=xs.length:=by omega
   subst e
   exact .inl ⟨⟨xs,q,aah _⟩,hd σ H p⟩
theorem ib{lo:Int}{n:Nat}{g:TG}{tb:TS}{D:Ends}{σ:St}{H:Hp}(Pv:Nat->St->Hp->Prop)(h0:Pv 0 σ H)
 (hs:∀i σ H,i<n->Pv i σ H->g (.int (lo+i)) σ H λeU H2=>tb {D with nx:=Pv (i+1),ct:=Pv (i+1),bk:=D.nx} eU H2) (hd:∀σ H,Pv n σ H->D.nx σ H) :
 ∃W:Nat->Nat->St->Hp->Prop,(∃m,W 0 m σ H)/\∀i m σ H,W i m σ H->
  ((Bj lo n).stop i H/\D.nx σ H)\/((Bj lo n).go i H/\∃N:St->Hp->Prop,(∀bo H',N bo H'->∃m',m'<m/\W (i+1) m' bo H')/\∀x H',(Bj lo n).yld i H x H'->g x σ H' λeU H2=>tb {D with nx:=N,ct:=N,bk:=D.nx} eU H2):=by
 refine⟨λi m σ H=>m=n-i/\i<=n/\Pv i σ H,⟨n,by simp,abM _,h0⟩,?_⟩
 rintro i m σ H ⟨rfl,hi,p⟩
 by_cases c8:i<n
 . refine .inr ⟨c8,Pv (i+1),λbo H' p'=>⟨n-(i+1),by omega,rfl,c8,p'⟩,λx H' y=>?_⟩
   obtain⟨e,y⟩:=y
   subst e y
   exact hs i σ _ c8 p
 . have e:i=n:=by omega
   subst e
   exact .inl ⟨aah _,hd σ H p⟩
noncomputable abbrev R2:=V->V->Hp->VK->Prop
noncomputable def iG(X:Cx)(f:Value->Value->Sem Value)(r:R2):Prop:=
 ∀(pins:List (Addr×Obj)) (s:Shared) (σ:St) (H:Hp) (x y:V) (v u:Value) (Q:VK),Inv X pins σ H s->RelV x v->RelV y u->r x y H Q->
  wpAny (model X.prog X.w) X.A (f v u) (EP X pins σ Q) X.xe s
noncomputable def LH(X:Cx)(f:Value->Sem Value)(r:V->Hp->VK->Prop):Prop:=
 ∀(pins:List (Addr×Obj)) (s:Shared) (σ:St) (H:Hp) (x:V) (v:Value) (Q:VK),Inv X pins σ H s->RelV x v->r x H Q->
  wpAny (model X.prog X.w) X.A (f v) (EP X pins σ Q) X.xe s
noncomputable def jw(X:Cx)(f:Value)(r:List V->Hp->VK->Prop):Prop:=
 ∀(pins:List (Addr×Obj)) (s:Shared) (σ:St) (H:Hp) (xs:List V) (us:List Value) (Q:VK),Inv X pins σ H s->Vals xs us->r xs H Q->
  wpAny (model X.prog X.w) X.A (call f us) (EP X pins σ Q) X.xe s
noncomputable def fo(r:R2)(ta tb:TE):TE:=λσ H Q=>ta σ H λx H1=>tb σ H1 λy H2=>r x y H2 Q
noncomputable def Vw(r:V->Hp->VK->Prop)(ta:TE):TE:=λσ H Q=>ta σ H λx H1=>r x H1 Q
noncomputable def rI(C:Int->Int->Prop)(g:Int->Int->V):R2:=λx y H Q=>∃i j,x=.int i/\y=.int j/\C i j/\Q (g i j) H
noncomputable def Bl(g:Int->Int->V):R2:=λx y H Q=>∃i j,x=.int i/\y=.int j/\Q (g i j) H
noncomputable def rU(g:Int->V):V->Hp->VK->Prop:=λx H Q=>∃i,x=.int i/\Q (g i) H
section
variable {X:Cx}{a b c:Expr}{ta tb tc:TE}{pos:Pos}
theorem Gq(ha:PE X a ta)(hb:PE X b tb){pins:List (Addr×Obj)}{s:Shared}{σ:St}{H:Hp}{R:V->V->Hp->Prop}(I:Inv X pins σ H s)
 (h:ta σ H λx H1=>tb σ H1 λy H2=>R x y H2){Q:Value->Shared->Prop}{f:Value->Value->Sem Value}
 (hf:∀v u s2 x y H2,Inv X pins σ H2 s2->RelV x v->RelV y u->R x y H2->wpAny (model X.prog X.w) X.A (f v u) Q X.xe s2) :
 wpAny (model X.prog X.w) X.A (eval a X.env) (λv dQ=>wpAny (model X.prog X.w) X.A (eval b X.env) (λu vI=>wpAny (model X.prog X.w) X.A (f v u) Q X.xe vI) X.xe dQ) X.xe s:=by
 refine aC (ha pins s σ H _ I h) λv s1 zq=>?_
 obtain⟨x,H1,I1,r1,q1⟩:=zq
 refine aC (hb pins s1 σ H1 _ I1 q1) λu s2 zq=>?_
 obtain⟨y,H2,I2,r2,q2⟩:=zq
 exact hf v u s2 x y H2 I2 r1 r2 q2
theorem az{op:Operator}{r:R2}(ho:iG X (binaryOp op) r) (ha:PE X a ta) (hb:PE X b tb):PE X (.BinOp a op b pos) (fo r ta tb):=by
 intro pins s σ H Q I h
 exact wpAny_BinOp (Gq ha hb I h λv u s2 x y H2 I2 rx ry q=>ho pins s2 σ H2 x y v u Q I2 rx ry q)
theorem r8{op:UnaryOp}{r:V->Hp->VK->Prop}(ho:LH X (unaryOp op) r) (ha:PE X a ta):PE X (.UnaryOp op a pos) (Vw r ta):=by
 intro pins s σ H Q I h
 exact UnaryOp_ (aC (ha pins s σ H _ I h) λv s1 ⟨x,H1,I1,r1,q1⟩=>ho pins s1 σ H1 x v Q I1 r1 q1)
theorem LI{f:Value->Value->Sem Value}{C:Int->Int->Prop}{g:Int->Int->Int}
 (rule:∀(i j:Int) (t u:Tok) (s:Shared) (Q:Value->Shared->Prop) (E:Value->Shared->Prop),C i j->Q (.int (g i j) s.toks) {s with toks:=s.toks+1} -> wpAny (model X.prog X.w) X.A (f (.int i t) (.int j u)) Q E s) :
 iG X f (rI C λi j=>.int (g i j)):=by
 intro pins s σ H x y v u Q I rx ry h
 obtain⟨i,j,rfl,rfl,hc,q⟩:=h
 obtain⟨t,rfl⟩:=rx
 obtain⟨t',rfl⟩:=ry
 exact rule i j t t' s _ _ hc ⟨.int (g i j),H,I.tok _,⟨_,rfl⟩,q⟩
theorem LJ{f:Value->Value->Sem Value}{g:Int->Int->Int}
 (rule:∀(i j:Int) (t u:Tok) (s:Shared) (Q:Value->Shared->Prop) (E:Value->Shared->Prop),Q (.int (g i j) s.toks) {s with toks:=s.toks+1} -> wpAny (model X.prog X.w) X.A (f (.int i t) (.int j u)) Q E s) :
 iG X f (Bl λi j=>.int (g i j)):=by
 intro pins s σ H x y v u Q I rx ry h
 obtain⟨i,j,rfl,rfl,q⟩:=h
 obtain⟨t,rfl⟩:=rx
 obtain⟨t',rfl⟩:=ry
 exact rule i j t t' s _ _ ⟨.int (g i j),H,I.tok _,⟨_,rfl⟩,q⟩
theorem LK{f:Value->Value->Sem Value}{g:Int->Int->Bool}
 (rule:∀(i j:Int) (t u:Tok) (s:Shared) (Q:Value->Shared->Prop) (E:Value->Shared->Prop),Q (.bool (g i j)) s->wpAny (model X.prog X.w) X.A (f (.int i t) (.int j u)) Q E s) :
 iG X f (Bl λi j=>.bl (g i j)):=by
 intro pins s σ H x y v u Q I rx ry h
 obtain⟨i,j,rfl,rfl,q⟩:=h
 obtain⟨t,rfl⟩:=rx
 obtain⟨t',rfl⟩:=ry
 exact rule i j t t' s _ _ ⟨.bl (g i j),H,I,rfl,q⟩
noncomputable def Ua(i j:Int):Prop:=0<j/\j<1073741824
noncomputable def Gr(i j:Int):Prop:=(-(2 ^ 64)<i/\i<2 ^ 64)\/(-(2 ^ 64)<j/\j<2 ^ 64)
theorem Gr.ok{i j:Int}(h:Gr i j):IntMulOk i j:=by
 rcases h with⟨h1,h2⟩|⟨h1,h2⟩
 . exact .of_left (intBits_le_64 h1 h2)
 . exact .of_right (intBits_le_64 h1 h2)
theorem eV:iG X (binaryOp .Add) (Bl λi j=>.int (i+j)):=LJ λ_ _ _ _ _ _ _ q=>add_int q
theorem qm:iG X (binaryOp .Sub) (Bl λi j=>.int (i-j)):=LJ λ_ _ _ _ _ _ _ q=>sub_int q
theorem jV:iG X (binaryOp .Mult) (rI Gr λi j=>.int (i*j)):=LI λ_ _ _ _ _ _ _ hc q=>mul_int q hc.ok
theorem jG:iG X (binaryOp .FloorDiv) (rI Ua λi j=>.int (i / j)):=LI λi j _ _ _ _ _ hc q=>by
 have h1:(0:Int)<j:=hc.1
 have h2:j<1073741824:=hc.2
 exact floordiv_int (by omega) (by rw[Int.fdiv_eq_ediv_of_nonneg i (by omega)];exact q) (.inl (PyProof.noPylong_small (by omega)))
theorem dY:iG X (binaryOp .Mod) (rI (λ_ j=>0<j) λi j=>.int (i % j)):=LI λi j _ _ _ _ _ hc q=>by
 have h1:(0:Int)<j:=hc
 exact mod_int' (by omega) (by rw[Int.fmod_eq_emod_of_nonneg i (by omega)];exact q)
theorem Vx{f:Value->Sem Value}{g:Int->Int}
 (rule:∀(i:Int) (t:Tok) (s:Shared) (Q:Value->Shared->Prop) (E:Value->Shared->Prop),Q (.int (g i) s.toks) {s with toks:=s.toks+1} -> wpAny (model X.prog X.w) X.A (f (.int i t)) Q E s) :
 LH X f (rU λi=>.int (g i)):=by
 intro pins s σ H x v Q I rx h
 obtain⟨i,rfl,q⟩:=h
 obtain⟨t,rfl⟩:=rx
 exact rule i t s _ _ ⟨.int (g i),H,I.tok _,⟨_,rfl⟩,q⟩
theorem nW:LH X (unaryOp .USub) (rU λi=>.int (-i)):=Vx λ_ _ _ _ _ q=>neg_int q
end
noncomputable def LL:V->V->Bool
 | .aM,.aM=>true | .aM,.int _=>true | .int _,.aM=>true | .aM,.bl _=>true | .bl _,.aM=>true | .aM,.str _=>true | .str _,.aM=>true
 | .int _,.int _=>true | .bl _,.bl _=>true | .str _,.str _=>true | .qi _,.qi _=>true
 | .int _,.str _=>true | .str _,.int _=>true | .bl _,.str _=>true | .str _,.bl _=>true
 | _,_=>false
noncomputable def yD:R2:=λx y H Q=>LL x y=true/\Q (.bl (decide (x=y))) H
theorem JY{i j:Int} : decide (V.int i=V.int j)=(i == j):=by
 rw[abH]
 simp
theorem LM{i j:Bool} : decide (V.bl i=V.bl j)=(i == j):=by
 rw[abH]
 simp
theorem JZ{i j:Str} : decide (V.str i=V.str j)=(i == j):=by
 rw[abH]
 simp
theorem J0{i j:Array UInt8} : decide (V.qi i=V.qi j)=(i.toList == j.toList):=by
 rw[abH]
 cases i
 cases j
 simp
section
variable {X:Cx}{a b c:Expr}{ta tb tc:TE}{pos:Pos}
theorem fq{pins:List (Addr×Obj)}{σ:St}{H:Hp}{s:Shared}{Q:VK}{k k':Bool}(I:Inv X pins σ H s) (q:Q (.bl k) H) (e:k=k'):EP X pins σ Q (.bool k') s:=by
 subst e
 exact⟨.bl k,H,I,rfl,q⟩
theorem kQ:iG X (compareOp .Eq) yD:=by
 intro pins s σ H x y v u Q I rx ry h
 obtain⟨hs,q⟩:=h
 cases x with
 | aM=>
  cases rx
  cases y with
  | aM=>cases ry;exact PySem.EqNone.eq_none_none (fq I q (by simp))
  | bl j=>cases ry;exact PySem.EqNone.eq_none_bool (fq I q (by simp))
  | int j=>obtain⟨t',rfl⟩:=ry;exact PySem.EqNone.eq_none_int (fq I q (by simp))
  | str j=>obtain⟨t',rfl⟩:=ry;exact PySem.EqNone.eq_none_str (fq I q (by simp))
  | _=>exact absurd (show false=true from hs) aax
 | bl i=>
  cases rx
  cases y with
  | aM=>cases ry;exact PySem.EqNone.eq_bool_none (fq I q (by simp))
  | bl j=>cases ry;exact eq_bool (fq I q LM)
  | str j=>obtain⟨t',rfl⟩:=ry;exact PySem.EqMixed.eq_bool_str (fq I q (by simp))
  | _=>exact absurd (show false=true from hs) aax
 | int i=>
  obtain⟨t,rfl⟩:=rx
  cases y with
  | aM=>cases ry;exact PySem.EqNone.eq_int_none (fq I q (by simp))
  | int j=>obtain⟨t',rfl⟩:=ry;exact eq_int (fq I q JY)
  | str j=>obtain⟨t',rfl⟩:=ry;exact PySem.EqMixed.eq_int_str (fq I q (by simp))
  | _=>exact absurd (show false=true from hs) aax
 | str i=>
  obtain⟨t,rfl⟩:=rx
  cases y with
  | aM=>cases ry;exact PySem.EqNone.eq_str_none (fq I q (by simp))
  | bl j=>cases ry;exact PySem.EqMixed.eq_str_bool (fq I q (by simp))
  | int j=>obtain⟨t',rfl⟩:=ry;exact PySem.EqMixed.eq_str_int (fq I q (by simp))
  | str j=>obtain⟨t',rfl⟩:=ry;exact eq_str (fq I q JZ)
  | _=>exact absurd (show false=true from hs) aax
 | qi i=>
  obtain⟨t,rfl⟩:=rx
  cases y with
  | qi j=>obtain⟨t',rfl⟩:=ry;exact W.eq_bytes (fq I q J0)
  | _=>exact absurd (show false=true from hs) aax
 | _=>cases y <;> exact absurd (show false=true from hs) aax
theorem Im:iG X (compareOp .Lt) (Bl λi j=>.bl (decide (i<j))):=LK λ_ _ _ _ _ _ _ q=>lt_int q
theorem yi:iG X (compareOp .Gt) (Bl λi j=>.bl (decide (j<i))):=LK λ_ _ _ _ _ _ _ q=>gt_int q
theorem cQ(b:Expr){op:CmpOp}(h:op≠.In:=by decide)(h2:op≠.NotIn:=by decide):behindInMarks op b=false:=by
 have e1:(op == CmpOp.In)=false:=by cases op <;> first|rfl|exact absurd rfl h
 have e2:(op == CmpOp.NotIn)=false:=by cases op <;> first|rfl|exact absurd rfl h2
 cases b <;> simp[behindInMarks,e1,e2]
theorem vJ{op:CmpOp}{r:R2}(ho:iG X (compareOp op) r) (ha:PE X a ta) (hb:PE X b tb) (hm:behindInMarks op b=false):PE X (.Compare a [op] [b] pos) (fo r ta tb):=by
 intro pins s σ H Q I h
 exact wpAny_Compare1 (Gq ha hb I h λv u s2 x y H2 I2 rx ry q=>ho pins s2 σ H2 x y v u Q I2 rx ry q) hm
noncomputable def iq(t:TE):TT:=λσ H Q=>t σ H λx H'=>∃k,x=.bl k/\Q k H'
theorem bh{op:CmpOp}{r:R2}(ho:iG X (compareOp op) r) (ha:PE X a ta) (hb:PE X b tb) (hm:behindInMarks op b=false):PT X (.Compare a [op] [b] pos) (iq (fo r ta tb)):=by
 intro pins s σ H Q I h
 refine wpAny_isTrue_Compare1 (aC (ha pins s σ H _ I h) λv s1 ⟨x,H1,I1,r1,q1⟩=>aC (hb pins s1 σ H1 _ I1 q1) λu s2 ⟨y,H2,I2,r2,q2⟩=>
  aC (ho pins s2 σ H2 x y v u _ I2 r1 r2 q2) λc s3 ⟨z,H3,I3,r3,k,e,q3⟩=>?_) hm
 subst e
 cases r3
 exact ad9 ⟨H3,I3,q3⟩
theorem nX:(sizeLine:Nat)<2 ^ 63:=by rw[sizeLine_eq];decide
theorem cm:iG X (binaryOp .Add) (λx y H Q=>∃i j,x=.str i/\y=.str j/\i.length+j.length<=sizeLine/\Q (.str (i++j)) H):=by
 intro pins s σ H x y v u Q I rx ry h
 obtain⟨i,j,rfl,rfl,hz,q⟩:=h
 obtain⟨t,rfl⟩:=rx
 obtain⟨t',rfl⟩:=ry
 exact add_str (λt' tk=>⟨.str (i++j),H,I.tok _,⟨_,rfl⟩,q⟩) hz
theorem vals1{x:V}{us:List Value}(r:Vals [x] us):∃u,us=[u]/\RelV x u:=by
 cases r with
 | cons r1 r2=>cases r2;exact⟨_,rfl,r1⟩
theorem vals2{x y:V}{us:List Value}(r:Vals [x,y] us):∃u w',us=[u,w']/\RelV x u/\RelV y w':=by
 cases r with
 | cons r1 r2=>
  cases r2 with
  | cons r3 r4=>cases r4;exact⟨_,_,rfl,r1,r3⟩
theorem wV:jw X (.type "int") (λxs H Q=>(∃i,xs=[.int i]/\Q (.int i) H)\/∃k,xs=[.bl k]/\Q (.int (if k then 1 else 0)) H):=by
 intro pins s σ H xs us Q I r h
 rcases h with⟨i,rfl,q⟩|⟨k,rfl,q⟩
 . obtain⟨u,rfl,t,rfl⟩:=vals1 r
   exact call_int_int ⟨.int i,H,I,⟨_,rfl⟩,q⟩
 . obtain⟨u,rfl,r1⟩:=vals1 r
   cases r1
   exact call_int_bool ⟨.int (if k then 1 else 0),H,I.tok _,⟨_,rfl⟩,q⟩
end
structure vK(h:Heap) (x dx C:Addr) (mA:Str->Option Value):Prop where
 obj:h.get? x=some (W.instObj C dx)
 ns:h.Ns1 dx mA
 ne:dx≠x
theorem D0{h:Heap}{dx:Addr}{mA:Str->Option Value}(n:h.Ns1 dx mA):∃od,h.get? dx=some od/\∀name,W.lookIn name od=some (mA name):=by
 obtain⟨o,es,ep,ho,hd,hk,_,hm⟩:=n
 refine⟨o,ho,λname=>?_⟩
 have e:=hm name
 unfold nsFind findBy at e
 rw[← Array.find?_toList]at e
 unfold W.lookIn
 rw[hd]
 dsimp only
 split
 . rename_i y q
   rw[q]at e
   exact congrArg some e
 . rename_i q
   rw[q]at e
   have a:es.toList.any (·.refKey)=false:=by
    rw[List.any_eq_false]
    intro y hy
    obtain⟨z,t,mw⟩:=hk y (Array.mem_toList_iff.mp hy)
    simp[DictEntry.refKey,mw]
   have a':¬ es.toList.any (·.refKey)=true:=by rw[a];exact aax
   rw[aaY a']
   exact congrArg some e
theorem vK.look{h:Heap}{x dx C:Addr}{mA:Str->Option Value}(I:vK h x dx C mA):∃od,W.InstAt h x (W.instObj C dx) C (some od)/\∀name,W.lookIn name od=some (mA name):=
 let ⟨od,ho,hl⟩:=D0 I.ns
 ⟨od,⟨I.obj,rfl,rfl,ho⟩,hl⟩
section
variable {prog:Program}{w:World}{A:Around}{E:Value->Shared->Prop}{s:Shared}{K:W.Frag}{x dx C f:Addr}{mA:Str->Option Value}{name:Str}{v:Value}
theorem get_map{expr:Bool}{Q:Value->Shared->Prop}(X:K.In s.heap)(I:vK s.heap x dx C mA)(hg:W.plainGet K C name=true)(hh:W.hasDictIn K C=true)
 (ha:W.findIn K (.ref C) name=some none) (hv:mA name=some v) (Vy:W.handedIn v=true) (h:Q v {s with toks:=s.toks+1}) :
 wpAny (model prog w) A (getAttr (.ref x) name expr) Q E s:=by
 obtain⟨od,J,hl⟩:=I.look
 exact W.get_value X J (W.plainGet_of hg).1 (W.findObj_own hh ha rfl (by rw[hl,hv])) Vy h
theorem J9{ns:List Str}{Q:Unit->Shared->Prop}(X:K.In s.heap)(I:vK s.heap x dx C mA)
 (hs:W.findIn K (.ref C) "__setattr__" = some (some (.builtin "object.__setattr__"))) (hp:W.plainOver K C=true) (ht:W.takerIn K C name=some none) (hh:W.hasDictIn K C=true)
 (hw:PySem.Within mA ns) (hsz:ns.length<=sizeLine)
 (h:∀h',vK h' x dx C (λy=>if y=name then some v else mA y)->Heap.SameBut dx s.heap h'->Q () {s with heap:=h',toks:=s.toks+2}) :
 wpAny (model prog w) A (setAttr (.ref x) name v) Q E s:=by
 obtain⟨od,J,hl⟩:=I.look
 refine W.set_plain X J hs (W.osa_open (s:={s with toks:=s.toks+1}) (r:=none) X J hp ht λb=>?_)
 obtain⟨cd,hc,hd'⟩:=W.any_some hh
 have hx:s.heap.get? x=some ⟨.ref C,some dx,.plain,#[]⟩:=I.obj
 refine aab (aaj (aab (aab (wpAny_loadPart hx (aab (W.Looks.here (s:={s with toks:=s.toks+1}) (W.looks_clsIn X hc) ?_))))))
 rw[hd']
 refine aaj (a:=some dx) (aab (aaj (aab ?_)))
 refine wpAny_nsSet1 (s:={s with toks:=s.toks+1}) I.ns λh' jW i8=>?_
 obtain⟨oD,esD,epD,Vz,VA,VB⟩:=jW.count (PySem.Within.cons name v hw)
 refine aab (wpAny_lookBehind Vz (by rw[VA];exact pastItsLine_dict (aao VB (by rw[abl];omega))) ?_)
 exact aaj (h _ ⟨(i8.2 _ (aau I.ne)).trans I.obj,jW,I.ne⟩ i8)
theorem Gs{R:Result->Shared->Prop}{vs:List Value}{kw:List (Str×Value)}(X:K.In s.heap) (hm:W.makesIn K C=true)
 (hi:W.findIn K (.ref C) "__init__" = some (some (.ref f))) (hf:W.typeIn K (.ref f)=some (.type "function"))
 (h:codeAny (model prog w) (A.under (.builtin "type.__call__" ⟨.ref C::vs,kw⟩)) (.call (.ref f) ⟨.ref (s.heap.objs.size+1)::vs,kw⟩) (W.InitBack (s.heap.objs.size+1) R)
  {s with heap:=(s.heap.push W.emptyDict).push (W.instObj C s.heap.objs.size)}) :
 codeAny (model prog w) A (.call (.ref C) ⟨vs,kw⟩) R s:=by
 obtain⟨hh,g,d,t,os⟩:=s
 exact W.make_core (W.makes_of X hm) (W.looks_findIn X hi) (λself=>W.bind_fn X self hf) (.inl rfl) h
end
noncomputable def bu(f:Str)(v:V):List (Str×V)->List (Str×V)
 | []=>[(f,v)]
 | (g,x)::r=>if g=f then (g,v)::r else (g,x)::bu f v r
theorem aV(f g:Str)(v:V):∀fs:List (Str×V),(bu f v fs).lookup g=if g=f then some v else fs.lookup g
 | []=>by
  show List.lookup g [(f,v)]=_
  by_cases h:g=f
  . have hb:(g == f)=true:=adJ.mpr h
    simp only[List.lookup,hb,aa4 h]
  . have hb:(g == f)=false:=abB.mpr h
    simp only[List.lookup,hb,aaY h]
 | (k,x)::r=>by
  have ih:=aV f g v r
  rw[show bu f v ((k,x)::r)=(if k=f then (k,v)::r else (k,x)::bu f v r) from rfl]
  by_cases hk:k=f
  . rw[aa4 hk]
    by_cases h:g=k
    . have hb:(g == k)=true:=adJ.mpr h
      simp only[List.lookup,hb,aa4 (h.trans hk)]
    . have hb:(g == k)=false:=abB.mpr h
      simp only[List.lookup,hb,aaY (λe:g=f=>h (e.trans hk.symm))]
  . rw[aaY hk]
    by_cases h:g=k
    . have hb:(g == k)=true:=adJ.mpr h
      simp only[List.lookup,hb,aaY (λe:g=f=>hk (h.symm.trans e))]
    . have hb:(g == k)=false:=abB.mpr h
      simp only[List.lookup,hb]
      exact ih
theorem qq(f:Str)(v:V):∀fs:List (Str×V),f∈(bu f v fs).map (·.1)/\∀g,g∈fs.map (·.1)->g∈(bu f v fs).map (·.1)
 | []=>⟨by simp[bu],λg h=>by simp at h⟩
 | (k,x)::r=>by
  obtain⟨i1,i2⟩:=qq f v r
  rw[show bu f v ((k,x)::r)=(if k=f then (k,v)::r else (k,x)::bu f v r) from rfl]
  by_cases hk:k=f
  . rw[aa4 hk]
    subst hk
    exact⟨by simp,λg h=>by simpa using h⟩
  . rw[aaY hk]
    refine⟨?_,λg h=>?_⟩
    . rw[aay]
      exact aaz _ i1
    . rw[aay]at h ⊢
      rcases aal.mp h with e|e
      . exact aal.mpr (.inl e)
      . exact aaz _ (i2 g e)
theorem nM(f:Str)(v:V):∀fs:List (Str×V),(bu f v fs).length<=fs.length+1
 | []=>by simp[bu]
 | (k,x)::r=>by
  have ih:=nM f v r
  rw[show bu f v ((k,x)::r)=(if k=f then (k,v)::r else (k,x)::bu f v r) from rfl]
  by_cases hk:k=f
  . rw[aa4 hk,abl,abl];omega
  . rw[aaY hk,abl,abl];omega
theorem jB.some_of{v:V}{o:Option Value}(r:jB (some v) o):∃u,o=some u/\RelV v u:=by
 cases o with
 | none=>exact(show False from r).elim
 | some u=>exact⟨u,rfl,r⟩
theorem D7{v:V}{u:Value}(r:RelV v u):W.handedIn u=true:=by
 cases v with
 | aM=>cases(show u=Value.none from r);rfl
 | bl b=>cases(show u=Value.bool b from r);rfl
 | int i=>obtain⟨t,e⟩:=(show ∃t,u=Value.int i t from r);cases e;rfl
 | str x=>obtain⟨t,e⟩:=(show ∃t,u=Value.str x t from r);cases e;rfl
 | qi b=>obtain⟨t,e⟩:=(show ∃t,u=Value.bytes b t from r);cases e;rfl
 | iF b=>obtain⟨t,e⟩:=(show ∃t,u=Value.float b t from r);cases e;rfl
 | ref a=>cases(show u=Value.ref a from r);rfl
 | ty n=>cases(show u=Value.type n from r);rfl
section
variable {P:Program}{w:World}{H H':Hp}{h h':Heap}{a C dx:Addr}{fs fs':List (Str×V)}
theorem vL(hok:eT P w H h) (e:H a=some (.ins C dx fs)):∃mA,vK h a dx C mA/\(∀f,jB (fs.lookup f) (mA f))/\PySem.Within mA (fs.map (·.1))/\fs.length<=1000/\H dx=some (.own a):=by
 obtain⟨d,z,ne,ob,mA,n,r,q⟩:=(show bz P w H h a (.ins C dx fs) from hok a _ e)
 exact⟨mA,⟨ob,n,ne⟩,r,q,z,d⟩
end
structure sL(K:W.Frag) (C:Addr):Prop where
 pg:W.plainGet K C Str.empty=true
 hd:W.hasDictIn K C=true
 po:W.plainOver K C=true
 sa:W.findIn K (.ref C) "__setattr__" = some (some (.builtin "object.__setattr__"))
theorem sL.get{K:W.Frag}{C:Addr}(c:sL K C)(f:Str):W.plainGet K C f=true:=c.pg
noncomputable def dZ(K:W.Frag)(C:Addr)(f:Str):Prop:=W.findIn K (.ref C) f=some none
theorem dZ.Qf{K:W.Frag}{C:Addr}{f:Str}(n:dZ K C f):W.takerIn K C f=some none:=by
 unfold W.takerIn
 rw[show W.findIn K (.ref C) f=some none from n]
 rfl
structure Meth(K:W.Frag) (C:Addr) (m:Str) (f:Addr):Prop where
 at_:W.findIn K (.ref C) m=some (some (.ref f))
 fn:W.isFn K (.ref f)=true
 kp:W.keepIn K (.ref f)=true
section
variable {X:Cx}{pins:List (Addr×Obj)}{σ:St}{H:Hp}{s:Shared}{a C dx:Addr}{fs:List (Str×V)}{f:Str}{v:V}{A:Around}{E:Value->Shared->Prop}
theorem Cg{b:Bool}{Q:Value->Shared->Prop}(I:Inv X pins σ H s) (e:H a=some (.ins C dx fs)) (c:sL X.K C) (n:dZ X.K C f) (l:fs.lookup f=some v)
 (h:∀u s',Inv X pins σ H s'->RelV v u->Q u s'):wpAny (model X.prog X.w) A (getAttr (.ref a) f b) Q E s:=by
 obtain⟨mA,O,r,_,_,_⟩:=vL I.hok e
 obtain⟨u,hu,ru⟩:=jB.some_of (v:=v) (o:=mA f) (by rw[← l];exact r f)
 exact get_map I.iw O (c.get f) c.hd n hu (D7 ru) (h u _ (I.tok _) ru)
theorem Ci{y:V}{u:Value}{Q:Unit->Shared->Prop}(I:Inv X pins σ H s) (e:H a=some (.ins C dx fs)) (c:sL X.K C) (n:dZ X.K C f) (hl:fs.length<1000) (ry:RelV y u)
 (h:∀s',Inv X pins σ (upd H a (.ins C dx (bu f y fs))) s'->Q () s'):wpAny (model X.prog X.w) A (setAttr (.ref a) f u) Q E s:=by
 obtain⟨mA,O,r,wi,_,ho⟩:=vL I.hok e
 have hz:(fs.map (·.1)).length<=sizeLine:=by rw[aaa,sizeLine_eq];omega
 refine J9 I.iw O c.sa c.po n.Qf c.hd wi hz λh' O' sb=>h _ ?_
 have hd:∃o,h'.get? dx=some o:=let ⟨o,_,_,e',_⟩:=O'.ns; ⟨o,e'⟩
 refine I.write (x:=a) (e:=dx) (by rw[e];exact True.intro) (.inr ho) (λb q hb z=>(sb.2 b hb).trans z) hd ?_
 refine⟨by rw[ah O.ne];exact ho,?_,O.ne,O'.obj,_,O'.ns,λg=>?_,λg hg=>?_⟩
 . have:=nM f y fs;omega
 . show jB ((bu f y fs).lookup g) (if g=f then some u else mA g)
   rw[aV]
   by_cases q:g=f
   . rw[aa4 q,aa4 q];exact ry
   . rw[aaY q,aaY q];exact r g
 . by_cases q:g=f
   . rw[q];exact(qq f y fs).1
   . refine(qq f y fs).2 g (wi g λz=>hg ?_)
     show (if g=f then some u else mA g)=none
     rw[aaY q];exact z
theorem Inv.made(I:Inv X pins σ H s):Inv X pins σ (upd (upd H s.heap.objs.size (.own (s.heap.objs.size+1))) (s.heap.objs.size+1) (.ins C s.heap.objs.size []))
 {s with heap:=(s.heap.push W.emptyDict).push (W.instObj C s.heap.objs.size)}:=by
 have e1:(s.heap.push W.emptyDict).get? s.heap.objs.size=some W.emptyDict:=aaq s.heap rfl
 have e2:((s.heap.push W.emptyDict).push (W.instObj C s.heap.objs.size)).get? (s.heap.objs.size+1)=some (W.instObj C s.heap.objs.size):=by
  have:=aaq (s.heap.push W.emptyDict) (o:=W.instObj C s.heap.objs.size) rfl
  rwa[abE]at this
 have e3:(s.heap.push W.emptyDict).Ns s.heap.objs.size (λ_=>none):=⟨W.emptyDict,#[],_,e1,rfl,(λe he=>absurd he (by simp)),λ_=>rfl⟩
 have I1:=I.laid (a:=s.heap.objs.size) (o:=.own (s.heap.objs.size+1)) (h':=s.heap.push W.emptyDict) (t':=s.toks) (λb u q=>aac _ q) (aah _) ⟨_,e1⟩
 refine I1.laid (a:=s.heap.objs.size+1) (o:=.ins C s.heap.objs.size []) (t':=s.toks) (λb u q=>aac _ q) (ab5 (abE _ _)) ?_
 have ne:s.heap.objs.size≠s.heap.objs.size+1:=aaw (adw _)
 refine⟨by rw[ah ne,ae],abM _,ne,e2,λ_=>none,(Heap.Ns1.of_empty e3).at λo q=>aac _ q,λ_=>True.intro,λy hy=>absurd rfl hy⟩
theorem Ka{prog:Program}{w:World}{env:Env}{e:Expr}{f:Str}{pos:Pos}{s:Shared}{Q:Value->Shared->Prop}(hb:attributeBase e f env (eval e env)=eval e env)
 (h:wpAny (model prog w) A (eval e env) (λo dQ=>wpAny (model prog w) A (getAttr o f true) Q E dQ) E s):wpAny (model prog w) A (eval (.Attribute e f pos) env) Q E s:=
 Attribute_any_ h (by rw[arm_eval_Attribute,hb])
end
noncomputable def Gu(K:W.Frag)(ta:TE)(f:Str):TE:=λσ H Q=>ta σ H λx H1=>∃a C dx fs v,x=.ref a/\H1 a=some (.ins C dx fs)/\sL K C/\dZ K C f/\fs.lookup f=some v/\Q v H1
noncomputable def Ub(K:W.Frag)(ta tv:TE)(f:Str):TS:=λD σ H=>tv σ H λy H1=>ta σ H1 λx H2=>∃a C dx fs,x=.ref a/\H2 a=some (.ins C dx fs)/\sL K C/\dZ K C f/\fs.length<1000/\
 D.nx σ (upd H2 a (.ins C dx (bu f y fs)))
section
variable {X:Cx}{o e value:Expr}{f:Str}{pos pos' Uc:Pos}{ta tv:TE}
theorem cq(he:PE X e ta) (hb:attributeBase e f X.env (eval e X.env)=eval e X.env):PE X (.Attribute e f pos) (Gu X.K ta f):=by
 intro pins s σ H Q I h
 refine Ka hb (aC (he pins s σ H _ I h) λu s1 zq=>?_)
 obtain⟨x,H1,I1,rx,a,C,dx,fs,v,ex,ea,c,n,l,q⟩:=zq
 subst ex
 obtain rfl:u=Value.ref a:=rx
 exact Cg I1 ea c n l λu' s2 I2 ru=>⟨v,H1,I2,ru,q⟩
theorem nY(ha:PE X o ta)(hv:PE X value tv) (hs:swapsWith value (some (.Attribute o f pos')) pos.line X.env=pure false):PS X (.Assign [.Attribute o f pos'] value pos) (Ub X.K ta tv f):=by
 intro pins s σ H D I h
 refine plainObj_wpAny_Assign_Attribute (aC (hv pins s σ H _ I h) λu s1 ⟨y,H1,I1,ry,q⟩=>aC (ha pins s1 σ H1 _ I1 q) λov s2 ⟨x,H2,I2,rx,a,C,dx,fs,ex,ea,c,n,l,q2⟩=>?_) hs
 subst ex
 obtain rfl:ov=Value.ref a:=rx
 exact Ci I2 ea c n l ry λs3 I3=>⟨σ,_,I3,q2⟩
end
section
variable {X:Cx}{pins:List (Addr×Obj)}{σ:St}{H:Hp}{s:Shared}{A:Around}{E:Value->Shared->Prop}{Q:Value->Shared->Prop}{c:Value}{b:Bool}
inductive jX(K:W.Frag) (H:Hp):V->Value->Prop where
 | aM:jX K H .aM (.type "NoneType")
 | bl (x:Bool):jX K H (.bl x) (.type "bool")
 | int (i:Int):jX K H (.int i) (.type "int")
 | str (x:Str):jX K H (.str x) (.type "str")
 | iF (x:UInt64):jX K H (.iF x) (.type "float")
 | lst {a:Addr}{xs:List V}(e:H a=some (.lst xs)):jX K H (.ref a) (.type "list")
 | bK {a:Addr}{o:Obj}{xs:List V}(e:H a=some (.bK o (.lst xs))):jX K H (.ref a) (.type "list")
 | tup {a:Addr}{xs:List V}(e:H a=some (.tup xs)):jX K H (.ref a) (.type "tuple")
 | dK {a:Addr}{kvs:List (Key×V)}(e:H a=some (.dK kvs)):jX K H (.ref a) (.type "dict")
 | dT {a:Addr}{kvs:List (List Key×V)}(e:H a=some (.dT kvs)):jX K H (.ref a) (.type "dict")
 | ins {a C dx:Addr}{fs:List (Str×V)}(e:H a=some (.ins C dx fs)) (cl:sL K C) (ha:W.findIn K (.ref C) "__class__" = some (some (.builtin "object.__class__")))
  (hn:W.specialIn K (.builtin "object.__class__") "__get__" = some (some (.builtin "getset_descriptor.__get__"))) (htk:W.takesIn K (.builtin "object.__class__")=some true)
  (hm:W.mroIn K C (.type "object")=some true):jX K H (.ref a) (.ref C)
theorem wW{x:V}{u t:Value}(I:Inv X pins σ H s)(rx:RelV x u)(ty:jX X.K H x t)(e:W.kitOne X.K t c=some b) (h:∀tk,Q (.bool b) {s with toks:=tk}) :
 wpAny (model X.prog X.w) A (call (.builtin "isinstance") [u,c]) Q E s:=by
 cases ty with
 | aM=>cases(show u=Value.none from rx);exact acV W.kitx_none I.iw True.intro e (λz=>nomatch z) h
 | bl y=>cases(show u=Value.bool y from rx);exact acV W.kitx_bool I.iw True.intro e (λz=>nomatch z) h
 | int i=>obtain⟨t,q⟩:=(show ∃t,u=Value.int i t from rx);cases q;exact acV W.kitx_int I.iw True.intro e (λz=>nomatch z) h
 | str y=>obtain⟨t,q⟩:=(show ∃t,u=Value.str y t from rx);cases q;exact acV W.kitx_str I.iw True.intro e (λz=>nomatch z) h
 | iF y=>obtain⟨t,q⟩:=(show ∃t,u=Value.float y t from rx);cases q;exact acV W.kitx_float I.iw True.intro e (λz=>nomatch z) h
 | @lst a xs ea=>
  cases(show u=Value.ref a from rx)
  obtain⟨_,_,n,_,h1⟩:=(show bz X.prog X.w H s.heap a (.lst xs) from I.hok a _ ea)
  exact acV W.kitx_list I.iw ⟨_,h1,rfl⟩ e (λz=>nomatch z) h
 | @bK a ob xs ea=>
  cases(show u=Value.ref a from rx)
  obtain⟨_,_,_,n,_,h1⟩:=(show bz X.prog X.w H s.heap a (.bK ob (.lst xs)) from I.hok a _ ea)
  exact acV W.kitx_list I.iw ⟨_,h1,rfl⟩ e (λz=>nomatch z) h
 | @tup a xs ea=>
  cases(show u=Value.ref a from rx)
  obtain⟨_,_,_,p⟩:=(show bz X.prog X.w H s.heap a (.tup xs) from I.hok a _ ea)
  obtain⟨o,h1,h2,_⟩:=p
  exact acV W.kitx_tuple I.iw ⟨o,h1,h2⟩ e (λz=>nomatch z) h
 | @dK a kvs ea=>
  cases(show u=Value.ref a from rx)
  obtain⟨_,_,vs,_,p⟩:=(show bz X.prog X.w H s.heap a (.dK kvs) from I.hok a _ ea)
  obtain⟨o,es,ep,h1,h2,_⟩:=p
  exact acV W.kitx_dict I.iw ⟨o,h1,h2.1⟩ e (λz=>nomatch z) h
 | @dT a kvs ea=>
  cases(show u=Value.ref a from rx)
  obtain⟨_,_,xs,_,o,es,ep,h1,h2,_⟩:=(show bz X.prog X.w H s.heap a (.dT kvs) from I.hok a _ ea)
  exact acV W.kitx_dict I.iw ⟨o,h1,h2.1⟩ e (λz=>nomatch z) h
 | @ins a C dx fs ea cl ha hn htk hm=>
  cases(show u=Value.ref a from rx)
  obtain⟨mA,O,_⟩:=vL I.hok ea
  obtain⟨od,J,_⟩:=O.look
  exact acV (W.kitx_own (cl.get _) cl.hd ha hn htk hm) I.iw J e (λz=>nomatch z) h
end
structure aW(k:Nat) (A:Around):Prop where
 hd:A.handled=none
 dp:A.depth+3*k+5<recursionLimit
 un:A.units+16*k+200<cLine
theorem aW.mono{j k:Nat}{A:Around}(r:aW k A)(h:j<=k):aW j A:=⟨r.hd,by have:=r.dp;omega,by have:=r.un;omega⟩
theorem aW.deeper{k:Nat}{A:Around}(r:aW (k+1) A) (env:Env):aW k (A.deeper env):=
 ⟨r.hd,by have:=r.dp;show A.depth+1+3*k+5<_;omega,by have:=r.un;show A.units+3+16*k+200<_;omega⟩
theorem aW.in1{k:Nat}{A:Around}(r:aW (k+1) A):aW k A.in1:=
 ⟨r.hd,by have:=r.dp;show A.depth+3*k+5<_;omega,by have:=r.un;show A.units+1+16*k+200<_;omega⟩
theorem Cj{A:Around}{C:Addr}{us:List Value}{kw:List (Str×Value)} : (A.under (.builtin "type.__call__" ⟨.ref C::us,kw⟩)).depth=A.depth+1:=by
 first|rfl|simp[Around.under,Code.weight,Code.isCreation,Code.isGuard,Code.isCaller,Code.frames,Code.isFrame,guardIds]
theorem Ck{A:Around}{C:Addr}{us:List Value}{kw:List (Str×Value)} : (A.under (.builtin "type.__call__" ⟨.ref C::us,kw⟩)).units=A.units+1:=by
 first|rfl|simp[Around.under,Code.cUnits,Code.frames,Code.isFrame]
theorem aW.make{k:Nat}{A:Around}(r:aW (k+1) A) (C:Addr) (us:List Value) (kw:List (Str×Value)):aW k (A.under (.builtin "type.__call__" ⟨.ref C::us,kw⟩)):=
 ⟨r.hd,by have:=r.dp;rw[Cj];omega,by have:=r.un;rw[Ck];omega⟩
theorem aW.depth{k:Nat}{A:Around}(r:aW k A):A.depth<recursionLimit:=by have:=r.dp;omega
theorem aW.units{k:Nat}{A:Around}(r:aW k A):A.units+64<cLine:=by have:=r.un;omega
noncomputable def jY:TA:=λ_ H Q=>Q [] H
noncomputable def cW(ta:TE)(tr:TA):TA:=λσ H Q=>ta σ H λx H1=>tr σ H1 λxs H2=>Q (x::xs) H2
section
variable {X:Cx}{e:Expr}{es:List Expr}{te:TE}{t:TA}{pos:Pos}
theorem ai:PA X [] jY:=λ_ _ _ _ H Q I h=>ach ⟨[],H,I,.nil,h⟩
theorem aa(ha:PE X e te)(hr:PA X es t) (hs:starEach (e::es) X.env=(false,eval e X.env)::starEach es X.env:=by rfl):PA X (e::es) (cW te t):=by
 intro pos pins s σ H Q I h
 rw[hs]
 show wpAny _ _ (spliced ((false,eval e X.env)::backTo pos (starEach es X.env))) _ _ s
 refine aby (aC (ha pins s σ H _ I h) λu s1 zq=>?_)
 obtain⟨x,H1,I1,r1,q1⟩:=zq
 exact aC (hr pos pins s1 σ H1 _ I1 q1) λus s2 ⟨xs,H2,I2,r2,q2⟩=>⟨x::xs,H2,I2,.cons r1 r2,q2⟩
noncomputable def lL(t:TA):TE:=λσ H Q=>t σ H λxs H1=>xs.length<=sizeLine/\∀p,H1 p=none->Q (.ref p) (upd H1 p (.tup xs))
noncomputable def Cm(t:TA):TE:=λσ H Q=>t σ H λxs H1=>xs.length<=sizeLine/\∀p,H1 p=none->Q (.ref p) (upd H1 p (.lst xs))
theorem bF{x1} (h:PA X es t):PE X (.Tuple es x1 pos) (lL t):=by
 intro pins s σ H Q I hq
 refine wpAny_Tuple_spliced (aC (h pos pins s σ H _ I hq) λus s1 ⟨xs,H1,I1,r,z,q⟩=>⟨by rw[← r.length];exact z,?_⟩)
 have hf:H1 s1.heap.objs.size=none:=I1.hok.fresh (aah _)
 refine⟨.ref s1.heap.objs.size,upd H1 s1.heap.objs.size (.tup xs),I1.laid (t':=s1.toks) (λb u e=>aac _ e) (aah _) ?_,rfl,q _ hf⟩
 exact⟨z,us,r,⟨_,aaq _ rfl,rfl,_,rfl⟩⟩
theorem cf(h:PA X es t):PE X (.List es pos) (Cm t):=by
 intro pins s σ H Q I hq
 refine adZ (aC (h pos pins s σ H _ I hq) λus s1 ⟨xs,H1,I1,r,z,q⟩=>⟨by rw[← r.length];exact z,?_⟩)
 have hf:H1 s1.heap.objs.size=none:=I1.hok.fresh (aah _)
 refine⟨.ref s1.heap.objs.size,upd H1 s1.heap.objs.size (.lst xs),I1.laid (t':=s1.toks) (λb u e=>aac _ e) (aah _) ?_,rfl,q _ hf⟩
 exact⟨z,us,0,r,aaq _ rfl⟩
end
noncomputable abbrev Sp:=List V->Hp->VK->XK->Prop
noncomputable abbrev ng:=List Env->Hp->Shared->XK->Value->Shared->Prop
structure mx(P:Program) (w:World) (K:W.Frag) (mg:Str->Option Value) (base:Heap) (A:Around) (outer:List Env) (s:Shared) (H:Hp):Prop where
 frames:A.frames=some outer
 mod:Mod K mg base
 bs:∀b o,base.get? b=some o->s.heap.get? b=some o/\H b=none
 bsz:base.objs.size<=s.heap.objs.size
 km:s.heap.FunFrames base outer
 frf:∀b∈pP outer,H b=none
 hok:eT P w H s.heap
 bare:AllBare s.gens
noncomputable def CE(outer:List Env)(P:Program)(w:World)(H:Hp)(s:Shared)(Q:VK)(u:Value)(s':Shared):Prop:=
 ∃v H',s'.os=s.os/\AllBare s'.gens/\Un (pP outer) [] H H' s.heap s'.heap/\eT P w H' s'.heap/\RelV v u/\Q v H'
noncomputable def CR(CX:ng)(outer:List Env)(P:Program)(w:World)(H:Hp)(s:Shared)(Q:VK)(E:XK)(r:Result)(s':Shared):Prop:=
 match r with
 | .ok (.ret u)=>CE outer P w H s Q u s'
 | .ok _=>False
 | .error e=>CX outer H s E e s'
structure aP(P:Program) (w:World) (K:W.Frag) (mg:Str->Option Value) (base:Heap) (CX:ng) (k:Nat) (f:Addr) (fd:FuncData) (ps:List Str) (sp:Sp):Prop where
 len:∀vs H Q E,sp vs H Q E->vs.length=ps.length
 run:∀(A:Around) (outer:List Env) (s:Shared) (H:Hp) (args:Args) (us:List Value) (vs:List V) (Q:VK) (E:XK),aW k A->mx P w K mg base A outer s H->BindsTo s fd args (ps.zip us)->Vals vs us->sp vs H Q E->
  codeAny (model P w) A (.call (.ref f) args) (CR CX outer P w H s Q E) s
theorem mx.make{P:Program}{w:World}{K:W.Frag}{mg:Str->Option Value}{base:Heap}{A:Around}{outer:List Env}{s:Shared}{H:Hp}(e:mx P w K mg base A outer s H)(C:Addr)(us:List Value) (kw:List (Str×Value)) :
 mx P w K mg base (A.under (.builtin "type.__call__" ⟨.ref C::us,kw⟩)) outer s H:=⟨by first|exact e.frames|(simpa[Around.under,Code.envs,Code.isFrame,pushEnvs]using e.frames),e.mod,e.bs,e.bsz,e.km,e.frf,e.hok,e.bare⟩
theorem mx.in1{P:Program}{w:World}{K:W.Frag}{mg:Str->Option Value}{base:Heap}{A:Around}{outer:List Env}{s:Shared}{H:Hp}(e:mx P w K mg base A outer s H) :
 mx P w K mg base A.in1 outer s H:=⟨e.frames,e.mod,e.bs,e.bsz,e.km,e.frf,e.hok,e.bare⟩
section
variable {X:Cx}{pins:List (Addr×Obj)}{σ:St}{H:Hp}{s s':Shared}
theorem Inv.Gv(I:Inv X pins σ H s):mx X.prog X.w X.K X.mg X.base X.A X.stack s H:=
 ⟨I.ok.frames,I.ok.mod,I.bs,aao I.ok.bsz I.sz,I.stack,I.Bf,I.hok,I.bare⟩
theorem Inv.after{Q:VK}{u:Value}(I:Inv X pins σ H s)(h:CE X.stack X.prog X.w H s Q u s'):EP X pins σ Q u s':=by
 obtain⟨v,H',os,bare,un,hok,r,q⟩:=h
 obtain⟨hh,g,d,t,VC⟩:=s'
 obtain rfl:VC=s.os:=os
 exact⟨v,H',I.call (h':=hh) (g':=g) (d':=d) (t':=t) (ch:=[]) un hok bare (λb z=>absurd z (by simp)),r,q⟩
end
noncomputable def uG(sp:Sp)(i9:List V)(E:XK)(t:TA):TE:=λσ H Q=>t σ H λvs H1=>sp (vs++i9) H1 Q E
noncomputable def Qg(C:Addr)(sp:Sp)(i9:List V)(E:XK)(t:TA):TE:=λσ H Q=>t σ H λvs H1=>∀x dx,H1 x=none->H1 dx=none->dx≠x->
 sp (.ref x::(vs++i9)) (upd (upd H1 dx (.own x)) x (.ins C dx [])) (λv H2=>v=.aM/\Q (.ref x) H2) E
noncomputable def Binds(K:W.Frag)(fd:FuncData)(ps:List Str)(ds:List Value):Prop:=
 ∀(s:Shared) (us:List Value),K.In s.heap->(us++ds).length=ps.length->BindsTo s fd ⟨us,[]⟩ (ps.zip (us++ds))
theorem Binds.all{K:W.Frag}{fd:FuncData}{ps:List Str}(h:∀us:List Value,us.length=ps.length->bindArgs fd ⟨us,[]⟩=pure (ps.zip us)):Binds K fd ps []:=λs us _ hl=>by
 rw[abw]at hl ⊢
 exact .of_eq (h us hl)
noncomputable def Passes(CX:ng)(X:Cx)(E:XK):Prop:=∀(pins:List (Addr×Obj)) (σ:St) (H:Hp) (s:Shared) (e:Value) (s':Shared),Inv X pins σ H s->CX X.stack H s E e s'->X.xe e s'
section
variable {X:Cx}{CX:ng}{k:Nat}{f C:Addr}{fd:FuncData}{ps:List Str}{sp:Sp}{i9:List V}{ds:List Value}{E:XK}{x m:Str}{p pos apos:Pos}{e o:Expr}{es:List Expr}{ta:TE}{t:TA}
theorem D8{pins:List (Addr×Obj)}{σ:St}{H:Hp}{s:Shared}{Q:VK}{us:List Value}{vs:List V}(F:aP X.prog X.w X.K X.mg X.base CX k f fd ps sp) (hr:aW k X.A) (hb:Binds X.K fd ps ds) (hd:Vals i9 ds) (hx:Passes CX X E)
 (I:Inv X pins σ H s) (r:Vals vs us) (h:sp (vs++i9) H Q E):wpAny (model X.prog X.w) X.A (call (.ref f) us) (EP X pins σ Q) X.xe s:=by
 have r2:Vals (vs++i9) (us++ds):=r.append hd
 have hl:(us++ds).length=ps.length:=by rw[← r2.length];exact F.len _ _ _ _ h
 refine wpAny_call (ad0 (F.run X.A X.stack s H ⟨us,[]⟩ (us++ds) (vs++i9) Q E hr I.Gv (hb s us I.iw hl) r2 h) λr s' hq=>?_)
 cases r with
 | error e=>exact hx pins σ H s e s' I hq
 | ok fl=>
  cases fl with
  | ret u=>exact I.after hq
  | next=>exact False.elim hq
  | brk=>exact False.elim hq
  | cont=>exact False.elim hq
theorem aU(F:aP X.prog X.w X.K X.mg X.base CX k f fd ps sp)(hr:aW k X.A)(hg:Gl X x) (hm:X.mg x=some (.ref f)) (hk:W.keepIn X.K (.ref f)=true) (hb:Binds X.K fd ps ds) (hd:Vals i9 ds) (hx:Passes CX X E)
 (ha:PA X (e::es) t) (my:(x == ("__debug__" : Str))=false:=by decide) (he:starEach (e::es) X.env=(false,eval e X.env)::starEach es X.env:=by rfl) (gg:(backTo pos (starEach es X.env)).any (·.1)=false:=by rfl) :
 PE X (.Call (.Name x p) (e::es) [] pos) (uG sp i9 E t):=by
 intro pins s σ H Q I h
 refine abO (nU I hg hm ?_ my)
 refine aeB (h₀:=X.base) I.ok.mod.kin hk (aC (ha pos pins s σ H _ I h) λus s1 ⟨vs,H1,I1,r,q⟩=>⟨I1.iw,?_⟩) he gg
 exact D8 F hr hb hd hx I1 r q
structure Mk(K:W.Frag) (C f:Addr):Prop where
 makes:W.makesIn K C=true
 init:W.findIn K (.ref C) "__init__" = some (some (.ref f))
 fn:W.isFn K (.ref f)=true
 kp:W.keepIn K (.ref C)=true
theorem Gw{pins:List (Addr×Obj)}{σ:St}{H:Hp}{s:Shared}{Q:VK}{us:List Value}{vs:List V}(M:Mk X.K C f) (F:aP X.prog X.w X.K X.mg X.base CX k f fd ps sp) (hr:aW (k+1) X.A) (hb:Binds X.K fd ps ds) (hd:Vals i9 ds)
 (hx:Passes CX X E) (I:Inv X pins σ H s) (r:Vals vs us)
 (h:∀x dx,H x=none->H dx=none->dx≠x->sp (.ref x::(vs++i9)) (upd (upd H dx (.own x)) x (.ins C dx [])) (λv H2=>v=.aM/\Q (.ref x) H2) E) :
 wpAny (model X.prog X.w) X.A (call (.ref C) us) (EP X pins σ Q) X.xe s:=by
 have hq:=h (s.heap.objs.size+1) s.heap.objs.size (I.hok.fresh (ac1 _)) (I.hok.fresh (aah _)) (aaw (adw _))
 have I2:=Inv.made (C:=C) I
 have r2:Vals (V.ref (s.heap.objs.size+1)::(vs++i9)) (Value.ref (s.heap.objs.size+1)::(us++ds)):=.cons rfl (r.append hd)
 have hl:(Value.ref (s.heap.objs.size+1)::us++ds).length=ps.length:=by
  have e:=r2.length
  rw[F.len _ _ _ _ hq]at e
  exact e.symm
 refine wpAny_call (Gs (f:=f) I.iw M.makes M.init (adJ.mp M.fn) (ad0 (F.run _ X.stack _ _ ⟨Value.ref (s.heap.objs.size+1)::us,[]⟩ (Value.ref (s.heap.objs.size+1)::(us++ds)) _ _ E (hr.make C us [])
  (I2.Gv.make C us []) (hb _ (Value.ref (s.heap.objs.size+1)::us) I2.iw hl) r2 hq) λr s' D9=>?_))
 cases r with
 | error e=>exact hx pins σ _ _ e s' I2 D9
 | ok fl=>
  cases fl with
  | ret u=>
   obtain⟨v,H',I3,rv,ev,q3⟩:=I2.after D9
   subst ev
   exact⟨rv,⟨V.ref (s.heap.objs.size+1),H',I3,rfl,q3⟩⟩
  | next=>exact False.elim D9
  | brk=>exact False.elim D9
  | cont=>exact False.elim D9
theorem Bm(M:Mk X.K C f)(F:aP X.prog X.w X.K X.mg X.base CX k f fd ps sp) (hr:aW (k+1) X.A) (hg:Gl X x) (hm:X.mg x=some (.ref C)) (hb:Binds X.K fd ps ds) (hd:Vals i9 ds) (hx:Passes CX X E)
 (ha:PA X (e::es) t) (my:(x == ("__debug__" : Str))=false:=by decide) (he:starEach (e::es) X.env=(false,eval e X.env)::starEach es X.env:=by rfl) (gg:(backTo pos (starEach es X.env)).any (·.1)=false:=by rfl) :
 PE X (.Call (.Name x p) (e::es) [] pos) (Qg C sp i9 E t):=by
 intro pins s σ H Q I h
 refine abO (nU I hg hm ?_ my)
 refine aeB (h₀:=X.base) I.ok.mod.kin M.kp (aC (ha pos pins s σ H _ I h) λus s1 ⟨vs,H1,I1,r,q⟩=>⟨I1.iw,?_⟩) he gg
 exact Gw M F hr hb hd hx I1 r q
end
section
variable {X:Cx}{CX:ng}{k:Nat}{f C:Addr}{fd:FuncData}{ps ks:List Str}{sp:Sp}{E:XK}{x m:Str}{p pos apos aaF:Pos}{e o:Expr}{es:List Expr}{kws:List Keyword}{te ta:TE}{t tk:TA}{nm:Option Str}
variable {g:List Value->List Value->List Value}{gV:List V->List V->List V}
end
structure aK(N P:List Str) (sc:Scope):Prop where
 kind:sc.kind=.function
 co:sc.isCoroutine=false
 gen:sc.isGenerator=false
 nd:N.Nodup
 pre:N.take P.length=P
 par:∀x∈P,sc.names.lookup x=some .local\/sc.names.lookup x=some .cell
 nofree:∀y∈sc.names,y.2≠.free
theorem wX{kindOf:Str->Option NameKind}{x:Str} : ∀{binds:List (Str×Value)}{m:Str->Option Value},(∀v,(x,v)∉binds)->bindL kindOf binds m x=m x
 | [],_,_=>rfl
 | (n,v)::r,m,h=>by
  unfold bindL
  rw[wX λw hw=>h w (aaz _ hw)]
  split
  . have:x≠n:=by rintro rfl;exact h v aaR
    simp[this]
  . rfl
theorem wY{kindOf:Str->Option NameKind}{x:Str} : ∀{binds:List (Str×Value)}{m:Str->Option Value},(∀v,(x,v)∉binds)->bindC kindOf binds m x=m x
 | [],_,_=>rfl
 | (n,v)::r,m,h=>by
  unfold bindC
  rw[wY λw hw=>h w (aaz _ hw)]
  split
  . rfl
  . have:x≠n:=by rintro rfl;exact h v aaR
    simp[this]
theorem wZ{kindOf:Str->Option NameKind}{x:Str}{v:Value} : ∀{P:List Str}{vs:List Value}{i:Nat}{m:Str->Option Value},P.Nodup->P[i]?=some x->vs[i]?=some v->kindOf x=some .local->
 bindL kindOf (P.zip vs) m x=some v
 | [],_,_,_,_,h,_,_=>by simp at h
 | _::_,[],_,_,_,_,h,_=>by simp at h
 | p::P,w::vs,0,m,nd,h1,h2,hk=>by
  simp at h1 h2;subst h1;subst h2
  show bindL kindOf ((p,w)::P.zip vs) m p=_
  unfold bindL
  rw[wX λv hv=>(aa0.mp nd).1 (acq hv).1,aa4 hk]
  simp
 | p::P,w::vs,i+1,m,nd,h1,h2,hk=>by
  show bindL kindOf ((p,w)::P.zip vs) m x=_
  unfold bindL
  exact wZ (i:=i) (aa0.mp nd).2 (by simpa using h1) (by simpa using h2) hk
theorem xf{kindOf:Str->Option NameKind}{x:Str}{v:Value} : ∀{P:List Str}{vs:List Value}{i:Nat}{m:Str->Option Value},P.Nodup->P[i]?=some x->vs[i]?=some v->kindOf x≠some .local->
 bindC kindOf (P.zip vs) m x=some v
 | [],_,_,_,_,h,_,_=>by simp at h
 | _::_,[],_,_,_,_,h,_=>by simp at h
 | p::P,w::vs,0,m,nd,h1,h2,hk=>by
  simp at h1 h2;subst h1;subst h2
  show bindC kindOf ((p,w)::P.zip vs) m p=_
  unfold bindC
  rw[wY λv hv=>(aa0.mp nd).1 (acq hv).1,aaY hk]
  simp
 | p::P,w::vs,i+1,m,nd,h1,h2,hk=>by
  show bindC kindOf ((p,w)::P.zip vs) m x=_
  unfold bindC
  exact xf (i:=i) (aa0.mp nd).2 (by simpa using h1) (by simpa using h2) hk
noncomputable def start(N:List Str)(vs:List V):St:=vs.map some++List.replicate (N.length-vs.length) none
noncomputable def jj(CX:ng)(P:Program)(w:World)(K:W.Frag)(mg:Str->Option Value)(base:Heap)(N:List Str)(qual:Str)(scope:Scope)(f:Addr)(cd:Value)(A:Around)(outer:List Env)(s:Shared)(H:Hp)(E:XK):Cx where
 prog:=P
 w:=w
 K:=K
 mg:=mg
 base:=base
 A:=A.deeper (envOfC qual scope s.heap.objs.size f cd)
 N:=N
 lZ:=s
 yf:=H
 env:=envOfC qual scope s.heap.objs.size f cd
 outer:=outer
 stack:=envOfC qual scope s.heap.objs.size f cd::outer
 ex:=[]
 calm:=true
 fn:=λ_=>true
 pn:=[]
 xe:=λe s'=>wpAny (model P w) (A.deeper (envOfC qual scope s.heap.objs.size f cd)) (leaving (envOfC qual scope s.heap.objs.size f cd) e) (λ_ Ea=>CX outer H s E e Ea) (λe' Ea=>CX outer H s E e' Ea) s'
theorem yE{sc:Scope}{n:Nat}{x:Str}(h:sc.names.lookup x=some .cell):∃c,(cellsFrom n sc.names []).lookup x=some c:=by
 have q:=aen sc.names n [] (.inl h)
 exact Option.isSome_iff_exists.mp q
theorem xg{CX:ng}{P:Program}{w:World}{K:W.Frag}{mg:Str->Option Value}{base:Heap}{N ps:List Str}{qual:Str}{scope:Scope}{f:Addr}{cd:Value}{A:Around}{outer:List Env}{s s1:Shared}{H:Hp}{E:XK}{us:List Value}{vs:List V}
 (S:aK N ps scope) (hd:A.handled=none) (e0:mx P w K mg base A outer s H) (hl:vs.length=ps.length) (r:Vals vs us)
 (x:InCallC s s.heap.objs.size (bindL (envOfC qual scope s.heap.objs.size f cd).kindOf (ps.zip us) λ_=>none) (cellsFrom (s.heap.objs.size+1) scope.names []) (bindC (envOfC qual scope s.heap.objs.size f cd).kindOf (ps.zip us) λ_=>none) s1) :
 Inv (jj CX P w K mg base N qual scope f cd A outer s H E) [] (start N vs) H s1:=by
 have gg:ps.length<=N.length:=by have:=congrArg List.length S.pre;rw[aa3]at this;omega
 obtain⟨h1,tk,rfl,hk⟩:=x.done
 have Eb:∀b:Addr,b∉(jj CX P w K mg base N qual scope f cd A outer s H E).ex:=λb z=>absurd (show b∈([]:List Addr) from z) (by simp)
 refine⟨⟨e0.mod,S.kind,rfl,rfl,aah _,λy z c h1 h2=>?_,λy hy=>?_,λy c _ h=>?_,λ_=>hd,Around.frames_deeper e0.frames,.inr ⟨rfl,rfl⟩,λb z=>absurd z (Eb b),e0.bs,e0.bsz,λb _ _=>Eb b,λb z=>absurd z (Eb b),e0.km,e0.frf⟩,
  rfl,e0.bare,Un.kept hk,⟨_,x.toInCall.ns,λi y v h1 h2 h3=>?_⟩,λy c h=>⟨_,x.cell y c h⟩,e0.hok.fresh (aah _),λy c h=>?_,λp hp=>absurd (show p∈([]:List (Addr×Obj)) from hp) (by simp),e0.hok.kept hk,?_⟩
 . exact name_of_addr x.apart (acv h1) (acv h2)
 . have hy:scope.names.lookup y=some .cell\/scope.names.lookup y=some .free:=hy
   rcases hy with hy|hy
   . exact yE hy
   . exact absurd rfl (S.nofree _ (acv hy))
 . exact ado (x.above y c (acv h))
 . have hi:i<vs.length:=by
    unfold start at h2
    by_cases hi:i<vs.length
    . exact hi
    . rw[abA (by simpa using hi)]at h2
      rw[List.getElem?_replicate]at h2
      split at h2 <;> cases h2
   have ha:vs[i]?=some v:=by
    unfold start at h2
    rw[abt (by simpa using hi),aan]at h2
    cases e:vs[i]? with
    | none=>rw[e]at h2;cases h2
    | some a=>rw[e]at h2;cases h2;rfl
   obtain⟨u,hu,rv⟩:=r.get ha
   have hp:ps[i]?=some y:=by
    rw[← S.pre,List.getElem?_take_of_lt (by omega)];exact h1
   have Rh:ps.Nodup:=by rw[← S.pre];exact S.nd.sublist (List.take_sublist _ _)
   refine⟨u,rv,?_⟩
   rcases S.par y (aaT hp) with k|k
   . exact .inl ⟨k,wZ Rh hp hu k⟩
   . obtain⟨c,e⟩:=yE (n:=s.heap.objs.size+1) k
     refine .inr ⟨.inl k,c,e,?_⟩
     have q:=x.cell y c e
     rw[xf Rh hp hu (by show scope.names.lookup y≠_;rw[k];decide)]at q
     exact q
 . exact e0.hok.fresh (ado (x.above y c (acv h)))
 . unfold start
   show _=N.length
   rw[aaf,aaa,List.length_replicate]
   omega
theorem Qh{CX:ng}{P:Program}{w:World}{K:W.Frag}{mg:Str->Option Value}{base:Heap}{k:Nat}{f:Addr}{name qual:Str}{params:Arguments}{body:List Stmt}{scope:Scope}{dV kV doc pm cdv ct oc:Value}{an od:Option Addr}
 {qr:Array (Option Value)}{N ps:List Str}{sp:Sp}(lk:K.lookup f=some ⟨oc,od,.func (W.fnOf name qual params body scope dV kV doc pm an cdv ct),qr⟩) (lh:W.codeIn K cdv qual=true) (S:aK N ps scope)
 (len:∀vs H Q E,sp vs H Q E->vs.length=ps.length)
 (jZ:∀(A:Around) (outer:List Env) (s:Shared) (H:Hp) (vs:List V) (Q:VK) (E:XK),aW k (A.deeper (envOfC qual scope s.heap.objs.size f cdv))->sp vs H Q E->
  ∃t,gj (jj CX P w K mg base N qual scope f cdv A outer s H E) body t/\t {nx:=λ_ H'=>Q .aM H',rt:=Q} (start N vs) H) :
 aP P w K mg base CX (k+1) f (W.fnOf name qual params body scope dV kV doc pm an cdv ct) ps sp:=by
 refine⟨len,λA outer s H args us vs Q E hr e0 hb r lj=>?_⟩
 have hl:=len _ _ _ _ lj
 have KX:K.In s.heap:=e0.mod.kin.keeps λb o e=>(e0.bs b o e).1
 have lim:s.heap.NoLimit:=e0.mod.nolimit.keeps λb o e=>(e0.bs b o e).1
 have Cn:∀y∈ps.zip us,scope.names.lookup y.1=some .local\/(scope.names.lookup y.1=some .cell/\((cellsFrom (s.heap.objs.size+1) scope.names []).lookup y.1).isSome=true):=λ⟨n,v⟩ hy=>by
  rcases S.par n (acq hy).1 with q|q
  . exact .inl q
  . exact .inr ⟨q,aen _ _ _ (.inl q)⟩
 refine codeAny_call_function hr.depth (KX _ _ lk) rfl S.co S.gen rfl (W.codeRec_of KX lh) (hb _ _ _ _ ?_)
 refine adX S.kind Cn λenv he s1 x=>?_
 subst he
 refine⟨lim.keeps x.toInCall.keep,codeAny_func ?_⟩
 obtain⟨t,ht,hq⟩:=jZ A outer s H vs Q E (hr.deeper _) lj
 have I:Inv (jj CX P w K mg base N qual scope f cdv A outer s H E) [] (start N vs) H s1:=xg S hr.hd e0 hl r x
 refine ab0 (ht [] s1 (start N vs) H _ I hq) (λfl s' hs=>?_) λe s' hs=>hs
 have fin:∀{bo:St}{H':Hp}{v:V}{u:Value},Inv (jj CX P w K mg base N qual scope f cdv A outer s H E) [] bo H' s'->RelV v u->Q v H'->CE outer P w H s Q u s':=
  λ{bo H' v u} J rv q=>⟨v,H',J.os,J.bare,J.base,J.hok,rv,q⟩
 cases fl with
 | ret u=>
  obtain⟨v,bo,H',J,rv,q⟩:=hs
  exact fin J rv q
 | next=>
  obtain⟨bo,H',J,q⟩:=hs
  exact fin (v:=V.aM) (u:=Value.none) J rfl q
 | brk=>
  obtain⟨_,_,_,q⟩:=hs
  exact False.elim q
 | cont=>
  obtain⟨_,_,_,q⟩:=hs
  exact False.elim q
section
variable {X:Cx}{x:Str}{p pos:Pos}{e:Expr}{es:List Expr}{t:TA}{id T:String}{r:List V->Hp->VK->Prop}
noncomputable def Ri(r:List V->Hp->VK->Prop)(t:TA):TE:=λσ H Q=>t σ H λvs H1=>r vs H1 Q
theorem ef(hc:jw X (.builtin id) r) (hg:Gl X x) (hm:X.mg x=none) (hv:bootBuiltins x=some (.builtin id)) (ha:PA X (e::es) t) (hn:x ≠ "__name__":=by decide) (my:(x == ("__debug__" : Str))=false:=by decide)
 (he:starEach (e::es) X.env=(false,eval e X.env)::starEach es X.env:=by rfl) (gg:(backTo pos (starEach es X.env)).any (·.1)=false:=by rfl):PE X (.Call (.Name x p) (e::es) [] pos) (Ri r t):=by
 intro pins s σ H Q I h
 refine abO (iy I hg hm hv ?_ hn my)
 exact PyProof.Rows.callWith_builtin1 (aC (ha pos pins s σ H _ I h) λus s1 ⟨vs,H1,I1,r1,q1⟩=>hc pins s1 σ H1 vs us Q I1 r1 q1) he gg
theorem aN(hc:jw X (.type T) r) (hg:Gl X x) (hm:X.mg x=none) (hv:bootBuiltins x=some (.type T)) (ha:PA X (e::es) t) (hn:x ≠ "__name__":=by decide) (my:(x == ("__debug__" : Str))=false:=by decide)
 (he:starEach (e::es) X.env=(false,eval e X.env)::starEach es X.env:=by rfl) (gg:(backTo pos (starEach es X.env)).any (·.1)=false:=by rfl):PE X (.Call (.Name x p) (e::es) [] pos) (Ri r t):=by
 intro pins s σ H Q I h
 refine abO (iy I hg hm hv ?_ hn my)
 exact abi (aC (ha pos pins s σ H _ I h) λus s1 ⟨vs,H1,I1,r1,q1⟩=>hc pins s1 σ H1 vs us Q I1 r1 q1) he gg
end
section
variable {κ:Type}[DecidableEq κ]
noncomputable def bA(kvs:List (κ×V)) (k:κ):Option V:=(kvs.find? λkv=>decide (kv.1=k)).map (·.2)
noncomputable def putK(kvs:List (κ×V)) (k:κ) (v:V):List (κ×V):=
 if (kvs.any λkv=>decide (kv.1=k))=true then kvs.map (λkv=>if kv.1=k then (kv.1,v) else kv) else kvs++[(k,v)]
theorem fu{p:κ×V}{r:List (κ×V)}{k:κ}(e:p.1=k):bA (p::r) k=some p.2:=by simp[bA,acJ,e]
theorem fz{p:κ×V}{r:List (κ×V)}{k:κ}(e:¬ p.1=k):bA (p::r) k=bA r k:=by simp[bA,acJ,e]
theorem tS(k:κ):∀kvs:List (κ×V),(kvs.any λkv=>decide (kv.1=k))=(bA kvs k).isSome
 | []=>rfl
 | p::r=>by
  rw[acO]
  by_cases e:p.1=k
  . simp only[fu e,aaU e,Bool.true_or,Option.isSome_some]
  . rw[fz e,aaW e,Bool.false_or];exact tS k r
theorem nN(kvs:List (κ×V)) (k:κ) (v:V):(putK kvs k v).length<=kvs.length+1:=by
 unfold putK
 split
 . rw[aaa];omega
 . rw[aaf,abl,ac7];omega
theorem mz{kvs:List (κ×V)}{k:κ}(v:V) (h:bA kvs k=none):putK kvs k v=kvs++[(k,v)]:=by
 unfold putK
 rw[tS,h]
 exact aaY (by decide)
theorem jB.ll{o:Option V}{u:Option Value}(r:jB o u):o.isSome=u.isSome:=by
 cases o with
 | none=>cases u with
  | none=>rfl
  | some _=>exact(show False from r).elim
 | some _=>cases u with
  | none=>exact(show False from r).elim
  | some _=>rfl
theorem jB.getD{o:Option V}{u:Option Value}{d:V}{d':Value}(r:jB o u)(rd:RelV d d'):RelV (o.getD d) (u.getD d'):=by
 cases o with
 | none=>cases u with
  | none=>exact rd
  | some _=>exact(show False from r).elim
 | some _=>cases u with
  | none=>exact(show False from r).elim
  | some _=>exact r
theorem KV.val{kvs:List (κ×V)}{vs:List (κ×Value)}(r:KV kvs vs) (k:κ):jB (bA kvs k) (valueAt vs k):=by
 unfold KV at r
 induction r with
 | nil=>exact True.intro
 | @cons p q ps qs h t ih=>
  obtain⟨h1,h2⟩:=h
  by_cases e:p.1=k
  . have e':q.1=k:=h1.symm.trans e
    have b:valueAt (q::qs) k=some q.2:=by simp[valueAt,acJ,e']
    rw[fu e,b];exact h2
  . have e':¬ q.1=k:=λz=>e (h1.trans z)
    have b:valueAt (q::qs) k=valueAt qs k:=by simp[valueAt,acJ,e']
    rw[fz e,b];exact ih
theorem KV.any{kvs:List (κ×V)}{vs:List (κ×Value)}(r:KV kvs vs) (k:κ):(kvs.any λkv=>decide (kv.1=k))=vs.any λkv=>decide (kv.1=k):=by
 unfold KV at r
 induction r with
 | nil=>rfl
 | cons h t ih=>rw[acO,acO,ih,h.1]
theorem KV.Gx{kvs:List (κ×V)}{vs:List (κ×Value)}(r:KV kvs vs) (k:κ){y:V}{u:Value}(ry:RelV y u) :
 KV (kvs.map λkv=>if kv.1=k then (kv.1,y) else kv) (vs.map λkv=>if kv.1=k then (kv.1,u) else kv):=by
 unfold KV at r ⊢
 induction r with
 | nil=>exact .nil
 | @cons p q ps qs h t ih=>
  rw[aay,aay]
  refine .cons ?_ ih
  obtain⟨h1,h2⟩:=h
  by_cases e:p.1=k
  . rw[aa4 e,aa4 (h1.symm.trans e)];exact⟨h1,ry⟩
  . rw[aaY e,aaY (λz=>e (h1.trans z))];exact⟨h1,h2⟩
theorem KV.put{kvs:List (κ×V)}{vs:List (κ×Value)}(r:KV kvs vs) (k:κ){y:V}{u:Value}(ry:RelV y u):KV (putK kvs k y) (stored vs k u):=by
 unfold putK stored
 rw[r.any k]
 by_cases e:(vs.any λkv=>decide (kv.1=k))=true
 . rw[aa4 e,aa4 e];exact r.Gx k ry
 . rw[aaY e,aaY e];exact ab8 r ⟨rfl,ry⟩
theorem KV.length{kvs:List (κ×V)}{vs:List (κ×Value)}(r:KV kvs vs):kvs.length=vs.length:=acN r
end
theorem kU{P:Program}{w:World}{k:Key}{u:Value}(r:RelV (kV k) u):(aO P w).is k u=true:=by
 cases k with
 | inl i=>obtain⟨t,e⟩:=(show ∃t,u=Value.int i t from r);subst e;exact AV P w i t
 | inr x=>obtain⟨t,e⟩:=(show ∃t,u=Value.str x t from r);subst e;exact AW P w x t
theorem xh{P:Program}{w:World} : ∀{ks:List Key}{us:List Value},Vals (ks.map kV) us->ItemsAre (aO P w) ks us
 | [],_,r=>by rw[ace]at r;cases r;exact .nil
 | k::ks,_,r=>by
  rw[aay]at r
  cases r with
  | cons h t=>exact .cons (kU h) (xh t)
noncomputable abbrev KT(H:Hp):List (List Key×V)->List (List Key×Addr×Value)->Prop:=Paired λp q=>p.1=q.1/\H q.2.1=some (.tup (p.1.map kV))/\RelV p.2 q.2.2
theorem KT.val{H:Hp}{kvs:List (List Key×V)}{xs:List (List Key×Addr×Value)}(r:KT H kvs xs) (k:List Key):jB (bA kvs k) ((atKey xs k).map (·.2)):=by
 induction r with
 | nil=>exact True.intro
 | @cons p q ps qs h t ih=>
  obtain⟨h1,_,h2⟩:=h
  by_cases e:p.1=k
  . have e':q.1=k:=h1.symm.trans e
    have b:atKey (q::qs) k=some q.2:=by simp[atKey,acJ,e']
    rw[fu e,b];exact h2
  . have e':¬ q.1=k:=λz=>e (h1.trans z)
    have b:atKey (q::qs) k=atKey qs k:=by simp[atKey,acJ,e']
    rw[fz e,b];exact ih
theorem KT.Gx{H:Hp}{kvs:List (List Key×V)}{xs:List (List Key×Addr×Value)}(r:KT H kvs xs) (k:List Key){y:V}{u:Value}(ry:RelV y u) :
 KT H (kvs.map λkv=>if kv.1=k then (kv.1,y) else kv) (xs.map (putAt k u)):=by
 induction r with
 | nil=>exact .nil
 | @cons p q ps qs h t ih=>
  rw[aay,aay]
  refine .cons ?_ ih
  obtain⟨h1,h2,h3⟩:=h
  unfold putAt
  by_cases e:p.1=k
  . rw[aa4 e,aa4 (h1.symm.trans e)];exact⟨h1,h2,ry⟩
  . rw[aaY e,aaY (λz=>e (h1.trans z))];exact⟨h1,h2,h3⟩
theorem KT.put{H:Hp}{kvs:List (List Key×V)}{xs:List (List Key×Addr×Value)}(r:KT H kvs xs) (k:List Key){b:Addr}{y:V}{u:Value}(hb:H b=some (.tup (k.map kV))) (ry:RelV y u) :
 KT H (putK kvs k y) (storedH xs k b u):=by
 have e:(kvs.any λkv=>decide (kv.1=k))=(atKey xs k).isSome:=by
  rw[tS,(r.val k).ll,aeb]
 unfold putK storedH
 rw[e]
 by_cases q:(atKey xs k).isSome=true
 . rw[aa4 q,aa4 q];exact r.Gx k ry
 . rw[aaY q,aaY q];exact ab8 r ⟨rfl,hb,ry⟩
theorem KT.keeps{H H':Hp}{kvs:List (List Key×V)}{xs:List (List Key×Addr×Value)}(r:KT H kvs xs) (ht:∀b ys,H b=some (.tup ys)->H' b=some (.tup ys)):KT H' kvs xs:=
 Paired.bj r λ_ _ z=>⟨z.1,ht _ _ z.2.1,z.2.2⟩
section
variable {P:Program}{w:World}{H:Hp}{h:Heap}{a:Addr}
theorem Io{u:HO}(ok:eT P w H h)(e:Rd H a u):bz P w H h a u:=e.ok ok
theorem iX{kvs:List (Key×V)}(ok:eT P w H h) (e:Rd H a (.dK kvs)):kvs.length<=sizeLine/\(a == sysModules)=false/\∃vs,KV kvs vs/\h.DictOf (aO P w) a vs:=
 show bz P w H h a (.dK kvs) from Io ok e
theorem r9{kvs:List (Key×V)}(ok:eT P w H h) (e:H a=some (.dK kvs)):kvs.length<=sizeLine/\(a == sysModules)=false/\∃vs,KV kvs vs/\h.DictOf (aO P w) a vs:=iX ok (.inl e)
theorem nZ{ks:List Key}(ok:eT P w H h) (e:H a=some (.tup (ks.map kV))):(tupleKind (aO P w)).is h ks a:=by
 obtain⟨_,its,r,o,h1,h2,n,h3⟩:=(show bz P w H h a (.tup (ks.map kV)) from ok a _ e)
 exact⟨o,its.toArray,n,h1,h2,h3,by simpa using xh r⟩
theorem oU{kvs:List (List Key×V)}(ok:eT P w H h) (e:Rd H a (.dT kvs)):kvs.length<=sizeLine/\(a == sysModules)=false/\
 ∃xs,KT H kvs xs/\h.DictOfH (tupleKind (aO P w)) a xs:=by
 obtain⟨z,y,xs,r,o,es,ep,h1,h2,h3,h4,h5⟩:=(show bz P w H h a (.dT kvs) from Io ok e)
 refine⟨z,y,xs,r,o,es,ep,h1,h2,h3,h4,λx hx=>?_,h5⟩
 have all:∀{l:List (List Key×V)}{m:List (List Key×Addr×Value)},KT H l m->∀x∈m,(tupleKind (aO P w)).is h x.1 x.2.1:=by
  intro l m q
  induction q with
  | nil=>intro x hx;exact nomatch hx
  | @cons p q ps qs hq t ih=>
   intro x hx
   rcases aal.mp hx with e|hx
   . subst e
     exact nZ ok (by rw[← hq.1];exact hq.2.1)
   . exact ih x hx
 exact all r x hx
theorem Qi{kvs:List (List Key×V)}(ok:eT P w H h) (e:H a=some (.dT kvs)):kvs.length<=sizeLine/\(a == sysModules)=false/\
 ∃xs,KT H kvs xs/\h.DictOfH (tupleKind (aO P w)) a xs:=oU ok (.inl e)
end
noncomputable def aX(H:Hp)(a:Addr)(y:V)(r:Option V):Prop:=
 (∃kvs k,Rd H a (.dK kvs)/\y=kV k/\r=bA kvs k)\/∃kvs k b,Rd H a (.dT kvs)/\y=.ref b/\H b=some (.tup (k.map kV))/\r=bA kvs k
noncomputable def gY(H:Hp)(a:Addr)(y v:V)(H':Hp):Prop:=
 (∃kvs k,H a=some (.dK kvs)/\y=kV k/\kvs.length<sizeLine/\H'=upd H a (.dK (putK kvs k v)))\/
 ∃kvs k b,H a=some (.dT kvs)/\y=.ref b/\H b=some (.tup (k.map kV))/\kvs.length<sizeLine/\H'=upd H a (.dT (putK kvs k v))
theorem aX.k{H:Hp}{a:Addr}{kvs:List (Key×V)}{k:Key}(e:H a=some (.dK kvs)):aX H a (kV k) (bA kvs k):=.inl ⟨kvs,k,.inl e,rfl,rfl⟩
theorem gY.k{H:Hp}{a:Addr}{kvs:List (Key×V)}{k:Key}{v:V}(e:H a=some (.dK kvs)) (hl:kvs.length<sizeLine):gY H a (kV k) v (upd H a (.dK (putK kvs k v))):=.inl ⟨kvs,k,e,rfl,hl,rfl⟩
section
variable {X:Cx}{pins:List (Addr×Obj)}{σ:St}{H:Hp}{s:Shared}{a:Addr}{y v:V}{u r:Value}{o:Option V}{A:Around}{E:Value->Shared->Prop}
theorem Inv.big(I:Inv X pins σ H s):sysModules<s.heap.objs.size:=by
 have h:mainGlobals<s.heap.objs.size:=(I.mod.glob.keeps I.bk).lt
 exact aeC (by decide) h
theorem Ec{Q:Value->Shared->Prop}(hu:A.units+1<cLine)(I:Inv X pins σ H s) (g:aX H a y (some v)) (ry:RelV y u) (h:∀w' s',Inv X pins σ H s'->RelV v w'->Q w' s') :
 wpAny (model X.prog X.w) A (getItem (.ref a) u) Q E s:=by
 rcases g with⟨kvs,k,e,ey,l⟩|⟨kvs,k,b,e,ey,eb,l⟩
 . subst ey
   obtain⟨z,hd,vs,rel,dd⟩:=iX I.hok e
   obtain⟨w',hw,qu⟩:=jB.some_of (v:=v) (o:=valueAt vs k) (by rw[l];exact rel.val k)
   exact wpAny_getItem_of (kU ry) dd.mapOf hw (h w' _ (I.tok _) qu)
 . subst ey
   cases(show u=Value.ref b from ry)
   obtain⟨z,hd,xs,rel,dd⟩:=oU I.hok e
   obtain⟨w',hw,qu⟩:=jB.some_of (v:=v) (o:=(atKey xs k).map (·.2)) (by rw[l];exact rel.val k)
   obtain⟨p,hp,gk⟩:=Option.map_eq_some_iff.mp hw
   refine wpAny_getItem_heap (acF hu) (nZ I.hok eb) dd hp ?_
   rw[gk]
   exact h w' _ (I.tok _) qu
theorem Ud{Q:Value->Shared->Prop}(hu:A.units+1<cLine)(I:Inv X pins σ H s)(g:aX H a y o)(ry:RelV y u) (h:∀s',Inv X pins σ H s'->Q (.bool o.isSome) s') :
 wpAny (model X.prog X.w) A (compareOp .In u (.ref a)) Q E s:=by
 rcases g with⟨kvs,k,e,ey,l⟩|⟨kvs,k,b,e,ey,eb,l⟩
 . subst ey
   obtain⟨z,hd,vs,rel,dd⟩:=iX I.hok e
   refine wpAny_in_of (kU ry) hd dd.mapOf ?_
   rw[← (rel.val k).ll,← l]
   exact h _ (I.tok _)
 . subst ey
   cases(show u=Value.ref b from ry)
   obtain⟨z,hd,xs,rel,dd⟩:=oU I.hok e
   refine wpAny_in_heap (acF hu) (nZ I.hok eb) hd dd ?_
   have q:=(rel.val k).ll
   rw[aeb]at q
   rw[← q,← l]
   exact h _ (I.tok _)
theorem Kb{Q:Value->Shared->Prop}(hu:A.units+1<cLine)(I:Inv X pins σ H s)(g:aX H a y o)(ry:RelV y u) (h:∀s',Inv X pins σ H s'->Q (.bool (!o.isSome)) s') :
 wpAny (model X.prog X.w) A (compareOp .NotIn u (.ref a)) Q E s:=by
 rcases g with⟨kvs,k,e,ey,l⟩|⟨kvs,k,b,e,ey,eb,l⟩
 . subst ey
   obtain⟨z,hd,vs,rel,dd⟩:=iX I.hok e
   refine wpAny_notIn_of (kU ry) hd dd.mapOf ?_
   rw[← (rel.val k).ll,← l]
   exact h _ (I.tok _)
 . subst ey
   cases(show u=Value.ref b from ry)
   obtain⟨z,hd,xs,rel,dd⟩:=oU I.hok e
   refine wpAny_notIn_heap (acF hu) (nZ I.hok eb) hd dd ?_
   have q:=(rel.val k).ll
   rw[aeb]at q
   rw[← q,← l]
   exact h _ (I.tok _)
theorem se{h':Heap}{t':Nat}{ob:HO}(I:Inv X pins σ H s) (mu:DR (H a)) (hs:Heap.SameBut a s.heap h') (he:∃q,h'.get? a=some q) (new:bz X.prog X.w (upd H a ob) h' a ob) :
 Inv X pins σ (upd H a ob) {s with heap:=h',toks:=t'} :=
 I.write (x:=a) (e:=a) mu (.inl rfl) (λb q hb z=>(hs.2 b hb).trans z) he new
theorem lp{P:Program}{w:World}{H':Hp}{h':Heap}{kvs:List (Key×V)}{vs:List (Key×Value)}(z:kvs.length<=sizeLine) (hd:(a == sysModules)=false) (rel:KV kvs vs) (dd:h'.DictOf (aO P w) a vs) :
 bz P w H' h' a (.dK kvs):=⟨z,hd,vs,rel,dd⟩
theorem xi{H':Hp}{Q:Unit->Shared->Prop}(hu:A.units+1<cLine)(I:Inv X pins σ H s)(g:gY H a y v H')(ry:RelV y u)(rv:RelV v r) (h:∀s',Inv X pins σ H' s'->Q () s') :
 wpAny (model X.prog X.w) A (setItem (.ref a) u r) Q E s:=by
 rcases g with⟨kvs,k,e,ey,l,eH⟩|⟨kvs,k,b,e,ey,eb,l,eH⟩
 . subst ey eH
   obtain⟨z,hd,vs,rel,dd⟩:=r9 I.hok e
   have hz:vs.length<=sizeLine:=by rw[← rel.length];exact z
   have hl:(putK kvs k v).length<=sizeLine:=by have:=nN kvs k v;omega
   refine wpAny_setItem_pairs (hsz:=hz) (kU ry) dd λh' pT hs=>h _ ?_
   have he:∃q,h'.get? a=some q:=let ⟨q,_,_,hq,_⟩:=pT; ⟨q,hq⟩
   exact se I (by rw[e];exact True.intro) hs he (lp hl hd (rel.put k rv) pT)
 . subst ey eH
   cases(show u=Value.ref b from ry)
   obtain⟨z,hd,xs,rel,dd⟩:=Qi I.hok e
   have hz:xs.length<=sizeLine:=by rw[← acN rel];exact z
   have hl:(putK kvs k v).length<=sizeLine:=by have:=nN kvs k v;omega
   refine wpAny_setItem_heap (hsz:=hz) (acF hu) (nZ I.hok eb) dd λh' pT hs=>h _ ?_
   obtain⟨q,es,ep,hq,h2,h3,h4,_,h5⟩:=pT
   refine se I (by rw[e];exact True.intro) hs ⟨q,hq⟩ ⟨hl,hd,_,(rel.put k eb rv).keeps λc ys ec=>?_,q,es,ep,hq,h2,h3,h4,h5⟩
   rw[ah (eX ec e (λz=>nomatch z))]
   exact ec
end
section
variable {X:Cx}{pins:List (Addr×Obj)}{σ:St}{H:Hp}{s:Shared}{a:Addr}{kvs:List (Key×V)}{k:Key}{u:Value}{A:Around}{E:Value->Shared->Prop}
theorem Kc{Q:Value->Shared->Prop}(I:Inv X pins σ H s) (e:H a=some (.dK kvs)) (h:∀s',Inv X pins σ (upd H a (.dK [])) s'->Q .none s'):wpAny (model X.prog X.w) A (call (.builtin "dict.clear") [.ref a]) Q E s:=by
 obtain⟨z,hd,vs,rel,dd⟩:=r9 I.hok e
 refine ad1 ac8 dd.typeIs PySem.F.entry_dict_clear (PySem.F.args_dict_clear_1 _) (meets_dict_clear (aO X.prog X.w) a) ⟨vs,dd,by rw[← rel.length];exact z,λh' pT hs=>h _ ?_⟩
 have he:∃q,h'.get? a=some q:=let ⟨q,_,_,hq,_⟩:=pT; ⟨q,hq⟩
 exact se (t':=s.toks) I (by rw[e];exact True.intro) hs he (lp (abM _) hd .nil pT)
end
noncomputable def LN(i:Expr):Prop:=∀ov iv,subscripted i false ov iv=operate [ov,iv] (getItem ov iv)
theorem Kd{prog:Program}{w:World}{A:Around}{E:Value->Shared->Prop}{s:Shared}{env:Env}{value slice:Expr}{pos:Pos}{T id:String}{Q:Value->Shared->Prop}
 (hl:typeLookup (.type T) "__getitem__" = pure (some (.builtin id))) (hs:LN slice)
 (h:wpAny (model prog w) A (eval value env) (λo dQ=>wpAny (model prog w) A (eval slice env) (λi vI=>vI.TypeIs o T/\wpAny (model prog w) A (getItem o i) Q E vI) E dQ) E s) :
 wpAny (model prog w) A (eval (.Subscript value slice pos) env) Q E s:=by
 refine Subscript_ (ab0 h (λo dQ h₁=>ab0 h₁ (λi vI ko=>?_) λ_ _ x=>x) λ_ _ x=>x)
 obtain⟨hT,ko⟩:=ko
 unfold subscriptTail
 refine aab ?_
 rw[getitemInPython_of_ne hT.not_modules]
 refine aab (aeD hT hl ?_)
 have fin:wpAny (model prog w) A (subscripted slice false o i) (λr Ke=>wpAny (model prog w) A (letTemporaryGo value o r >>= λ_=>pure r) Q E Ke) E vI:=by
  rw[hs o i]
  exact wpAny_operating (ab0 ko (λr Ke kq=>aab (wpAny_letTemporaryGo (aaj kq))) λ_ _ x=>x)
 first
  | exact aaj (aab fin)
  | exact aab (aaj (aab fin))
  | exact aab fin
theorem AY{X:Cx}{pins:List (Addr×Obj)}{σ:St}{H:Hp}{s:Shared}{a:Addr}{y:V}{o:Option V}(I:Inv X pins σ H s) (g:aX H a y o):s.TypeIs (.ref a) "dict":=by
 rcases g with⟨kvs,k,e,_,_⟩|⟨kvs,k,b,e,_,_,_⟩
 . obtain⟨_,_,vs,_,dd⟩:=iX I.hok e
   exact dd.typeIs
 . obtain⟨_,_,xs,_,dd⟩:=oU I.hok e
   exact dd.typeIs
noncomputable def oV(td ty:TE):TE:=λσ H Q=>td σ H λx H1=>ty σ H1 λy H2=>∃a v,x=.ref a/\aX H2 a y (some v)/\Q v H2
noncomputable def LO(ty td:TE):TE:=λσ H Q=>ty σ H λy H1=>td σ H1 λx H2=>∃a o,x=.ref a/\aX H2 a y o/\Q (.bl o.isSome) H2
noncomputable def Kf(ty td:TE):TE:=λσ H Q=>ty σ H λy H1=>td σ H1 λx H2=>∃a o,x=.ref a/\aX H2 a y o/\Q (.bl (!o.isSome)) H2
noncomputable def Ip(td ty tv:TE):TS:=λD σ H=>tv σ H λv H1=>td σ H1 λx H2=>ty σ H2 λy H3=>∃a H4,x=.ref a/\gY H3 a y v H4/\D.nx σ H4
section
variable {X:Cx}{o i e value:Expr}{pos pos' Uc:Pos}{td ty tv:TE}
theorem aD(hu:X.A.units+1<cLine)(ho:PE X o td)(hi:PE X i ty)(hs:LN i):PE X (.Subscript o i pos) (oV td ty):=by
 intro pins s σ H Q I h
 refine Kd PySem.F.slot_dict_getitem.lookup hs (aC (ho pins s σ H _ I h) λu s1 ⟨x,H1,I1,rx,q1⟩=>aC (hi pins s1 σ H1 _ I1 q1) λiv s2 zq=>?_)
 obtain⟨y,H2,I2,ry,a,v,ex,g,q2⟩:=zq
 subst ex
 obtain rfl:u=Value.ref a:=rx
 exact⟨AY I2 g,Ec hu I2 g ry λw' s3 I3 qu=>⟨v,H2,I3,qu,q2⟩⟩
theorem yF(hu:X.A.units+1<cLine)(hi:PE X i ty)(ho:PE X o td):PC X .In i o (LO ty td):=by
 intro pins s σ H Q I h
 refine aC (hi pins s σ H _ I h) λiv s1 ⟨y,H1,I1,ry,q1⟩=>aC (ho pins s1 σ H1 _ I1 q1) λu s2 zq=>?_
 obtain⟨x,H2,I2,rx,a,ov,ex,g,q2⟩:=zq
 subst ex
 obtain rfl:u=Value.ref a:=rx
 exact Ud hu I2 g ry λs3 I3=>⟨.bl ov.isSome,H2,I3,rfl,q2⟩
theorem Ed(hu:X.A.units+1<cLine)(hi:PE X i ty)(ho:PE X o td):PC X .NotIn i o (Kf ty td):=by
 intro pins s σ H Q I h
 refine aC (hi pins s σ H _ I h) λiv s1 ⟨y,H1,I1,ry,q1⟩=>aC (ho pins s1 σ H1 _ I1 q1) λu s2 zq=>?_
 obtain⟨x,H2,I2,rx,a,ov,ex,g,q2⟩:=zq
 subst ex
 obtain rfl:u=Value.ref a:=rx
 exact Kb hu I2 g ry λs3 I3=>⟨.bl (!ov.isSome),H2,I3,rfl,q2⟩
theorem gZ(hu:X.A.units+1<cLine)(ho:PE X o td)(hi:PE X i ty)(hv:PE X value tv) (hs:swapsWith value (some (.Subscript o i pos')) pos.line X.env=pure false) :
 PS X (.Assign [.Subscript o i pos'] value pos) (Ip td ty tv):=by
 intro pins s σ H D I h
 refine wpAny_Assign_Subscript (aC (hv pins s σ H _ I h) λr s1 ⟨v,H1,I1,rv,q1⟩=>aC (ho pins s1 σ H1 _ I1 q1) λu s2 ⟨x,H2,I2,rx,q2⟩=>aC (hi pins s2 σ H2 _ I2 q2) λiv s3 ⟨y,H3,I3,ry,a,H4,ex,g,q3⟩=>?_) hs
 subst ex
 obtain rfl:u=Value.ref a:=rx
 exact xi hu I3 g ry rv λs4 I4=>⟨σ,H4,I4,q3⟩
end
theorem yG{P:Program}{w:World}{H:Hp}(h:Heap)(hb:sysModules<h.objs.size):bz P w H (h.push {cls:=.type "dict",data:=.dict #[] }) h.objs.size (.dK []):=
 ⟨abM _,abB.mpr (aau (aaw hb)),[],.nil,aeE h⟩
noncomputable def LP:TE:=λ_ H Q=>∀p,H p=none->Q (.ref p) (upd H p (.dK []))
section
variable {X:Cx}{pos:Pos}
theorem yH:PE X (.Dict [] [] pos) LP:=λpins s σ H Q I h=>
 wpAny_Dict_empty ⟨.ref s.heap.objs.size,_,I.laid (a:=s.heap.objs.size) (o:=.dK []) (t':=s.toks) (λ_ _ q=>aac _ q) (aah _) (yG s.heap I.big),rfl,h _ (I.hok.fresh (aah _))⟩
end
noncomputable def yI:List (TE×TE)->St->Hp->(List (V×V)->Hp->Prop)->Prop
 | [],_,H,Q=>Q [] H
 | (tk,tv)::r,σ,H,Q=>tk σ H λx H1=>tv σ H1 λy H2=>yI r σ H2 λps H3=>Q ((x,y)::ps) H3
noncomputable abbrev VV:List (V×V)->List (Value×Value)->Prop:=Paired λp q=>RelV p.1 q.1/\RelV p.2 q.2
noncomputable def Iq(X:Cx)(pos:Pos) (keys:List (Option Expr)) (values:List Expr) (uH:List (TE×TE)):Prop:=
 ∀(pins:List (Addr×Obj)) (s:Shared) (σ:St) (H:Hp) (Q:List (V×V)->Hp->Prop),Inv X pins σ H s->yI uH σ H Q->
  wpAny (model X.prog X.w) X.A (evalPairs (pairTrees keys values X.env pos)) (λvs s'=>∃ps H',Inv X pins σ H' s'/\VV ps vs/\Q ps H') X.xe s
theorem sf{X:Cx}{pos:Pos} : Iq X pos [] [] []:=λpins s σ H Q I h=>pairTrees_nil_walk ⟨[],H,I,.nil,h⟩
theorem eh{X:Cx}{pos:Pos}{k v:Expr}{ks:List (Option Expr)}{vs:List Expr}{tk tv:TE}{uH:List (TE×TE)}(hk:PE X k tk) (hv:PE X v tv) (hr:Iq X pos ks vs uH) :
 Iq X pos (some k::ks) (v::vs) ((tk,tv)::uH):=λpins s σ H Q I h=>
 pairTrees_cons_walk (aC (hk pins s σ H _ I h) λu s1 ⟨x,H1,I1,rx,q1⟩=>aC (hv pins s1 σ H1 _ I1 q1) λw2 s2 ⟨y,H2,I2,ry,q2⟩=>
  aC (hr pins s2 σ H2 _ I2 q2) λws s3 ⟨ps,H3,I3,rel,q3⟩=>⟨(x,y)::ps,H3,I3,.cons ⟨rx,ry⟩ rel,q3⟩)
noncomputable def bE(kvs more:List (Key×V)):List (Key×V):=more.foldl (λacc kv=>putK acc kv.1 kv.2) kvs
theorem KV.merge:∀{more:List (Key×V)}{rs:List (Key×Value)}{kvs:List (Key×V)}{vs:List (Key×Value)},KV more rs->KV kvs vs->KV (bE kvs more) (merged vs rs):=by
 intro more rs kvs vs r
 unfold KV at r
 induction r generalizing kvs vs with
 | nil=>intro q;exact q
 | @cons p q ps qs h t ih=>
  intro r0
  have e:KV (putK kvs p.1 p.2) (stored vs q.1 q.2):=by
   have:=r0.put p.1 h.2
   rw[← h.1];exact this
  exact ih e
theorem iz:∀(more kvs:List (Key×V)),(bE kvs more).length<=kvs.length+more.length
 | [],kvs=>by show kvs.length<=kvs.length+0;omega
 | p::r,kvs=>by
  have h1:=iz r (putK kvs p.1 p.2)
  have h2:=nN kvs p.1 p.2
  show (bE (putK kvs p.1 p.2) r).length<=_
  rw[abl];omega
theorem uI{P:Program}{w:World} : ∀{kvs:List (Key×V)}{ws:List (Value×Value)},VV (kvs.map λkv=>(kV kv.1,kv.2)) ws->∃rs,Carries (aO P w) ws rs/\KV kvs rs
 | [],_,r=>by rw[ace]at r;cases r;exact⟨[],True.intro,.nil⟩
 | p::kvs,_,r=>by
  rw[aay]at r
  cases r with
  | @cons a b as bs h t=>
   obtain⟨rs,c,q⟩:=uI (P:=P) (w:=w) t
   obtain⟨b1,b2⟩:=b
   exact⟨(p.1,b2)::rs,⟨kU h.1,rfl,c⟩,.cons ⟨rfl,h.2⟩ q⟩
noncomputable def Qj(uH:List (TE×TE)):TE:=λσ H Q=>∀p,H p=none->yI uH σ (upd H p (.dK [])) λps H2=>H2 p=some (.dK [])/\∃kvs:List (Key×V),ps=kvs.map (λkv=>(kV kv.1,kv.2))/\kvs.length<=15/\Q (.ref p) (upd H2 p (.dK (bE [] kvs)))
theorem sh{X:Cx}{pos:Pos}{keys:List (Option Expr)}{values:List Expr}{uH:List (TE×TE)}(h:Iq X pos keys values uH) (fE:keys.all (·.isSome)=true) (hl:keys.length=values.length) (h0:keys≠[])
 (VD:keys.length<=15):PE X (.Dict keys values pos) (Qj uH):=by
 intro pins s σ H Q I q
 have hn:=I.hok.fresh (aah s.heap.objs.size)
 have I1:=I.laid (a:=s.heap.objs.size) (o:=.dK []) (h':=s.heap.push {cls:=.type "dict",data:=.dict #[] }) (t':=s.toks) (λ_ _ q=>aac _ q) (aah _) (yG s.heap I.big)
 refine wpAny_Dict_walk (knd:=aO X.prog X.w) fE hl h0 VD (aC (h pins _ σ _ _ I1 (q _ hn)) λws s2 zq=>?_)
 obtain⟨ps,H2,I2,rel,e,kvs,ep,lk,q2⟩:=zq
 subst ep
 obtain⟨rs,c,rk⟩:=uI (P:=X.prog) (w:=X.w) rel
 obtain⟨z,hd,vs0,r0,dd⟩:=r9 I2.hok e
 cases r0
 refine⟨rs,c,dd,λh' pT hs=>⟨.ref s.heap.objs.size,_,?_,rfl,q2⟩⟩
 have hz:(bE [] kvs).length<=sizeLine:=by
  have h1:=iz kvs []
  rw[ac7]at h1
  rw[sizeLine_eq];omega
 have he:∃q,h'.get? s.heap.objs.size=some q:=let ⟨q,_,_,hq,_⟩:=pT; ⟨q,hq⟩
 exact se I2 (by rw[e];exact True.intro) hs he (lp hz hd (rk.merge .nil) pT)
structure M2(X:Cx) (o:Expr) (m:Str) (apos:Pos) (e f:Expr) (c9:Pos):Prop where
 base:attributeBase o m X.env (eval o X.env)=eval o X.env
 yJ:((backTo c9 (starEach [e,f] X.env)).all (λx=>!x.1) && (backToKw c9 (keywordEach [] X.env)).all (λx=>x.1.isSome)
  && decide (([e,f]:List Expr).length+([]:List Keyword).length+(if ([]:List Keyword).isEmpty then 0 else 1)<30))=true
 line:(apos.endLine == c9.line)=true
 trees:backTo c9 (starEach [e,f] X.env)=[(false,eval e X.env),(false,eval f X.env)]
noncomputable def Rj(H:Hp)(a:Addr):Prop:=(∃kvs,Rd H a (.dK kvs))\/∃kvs,Rd H a (.dT kvs)
theorem Ee{X:Cx}{pins:List (Addr×Obj)}{σ:St}{H:Hp}{s:Shared}{a:Addr}(I:Inv X pins σ H s) (d:Rj H a) :
 s.TypeIs (.ref a) "dict" /\ (∀b,Value.ref a=.ref b->∃ob,s.heap.get? b=some ob/\ob.dict=none)/\(a == sysModules)=false:=by
 rcases d with⟨kvs,e⟩|⟨kvs,e⟩
 . obtain⟨_,hd,vs,_,dd⟩:=iX I.hok e
   refine⟨dd.typeIs,λb q=>?_,hd⟩
   cases q
   obtain⟨ob,_,_,h1,h2,_⟩:=dd
   exact⟨ob,h1,h2.2.1⟩
 . obtain⟨_,hd,xs,_,dd⟩:=oU I.hok e
   refine⟨dd.typeIs,λb q=>?_,hd⟩
   cases q
   obtain⟨ob,_,_,h1,h2,_⟩:=dd
   exact⟨ob,h1,h2.2.1⟩
section
variable {X:Cx}{pins:List (Addr×Obj)}{σ:St}{H:Hp}{s:Shared}{a:Addr}{y d:V}{u r:Value}{o:Option V}{A:Around}{E:Value->Shared->Prop}
theorem LQ{Q:Value->Shared->Prop}(hu:A.units+1<cLine)(I:Inv X pins σ H s)(g:aX H a y o)(ry:RelV y u)(rd:RelV d r) (h:∀w' s',Inv X pins σ H s'->RelV (o.getD d) w'->Q w' s') :
 wpAny (model X.prog X.w) A (call (.builtin "dict.get") [.ref a,u,r]) Q E s:=by
 rcases g with⟨kvs,k,e,ey,l⟩|⟨kvs,k,b,e,ey,eb,l⟩
 . subst ey
   obtain⟨z,hd,vs,rel,dd⟩:=iX I.hok e
   refine ad1 adq dd.typeIs aey (aei _ _ _) (meets_dict_get_default (aO X.prog X.w) a (kU ry) hd r) ⟨_,dd.mapOf,h _ _ (I.tok _) ?_⟩
   rw[l]
   exact(rel.val k).getD rd
 . subst ey
   cases(show u=Value.ref b from ry)
   obtain⟨z,hd,xs,rel,dd⟩:=oU I.hok e
   refine ad1 adq dd.typeIs aey (aei _ _ _) (meetsH_dict_get_default (tupleKind (aO X.prog X.w)) a b hd r) ⟨acF hu,k,xs,nZ I.hok eb,dd,h _ _ (I.tok _) ?_⟩
   rw[l]
   exact(rel.val k).getD rd
end
noncomputable def Ef(td ty tx:TE):TE:=λσ H Q=>td σ H λx H1=>∃a,x=.ref a/\Rj H1 a/\ty σ H1 λy H2=>tx σ H2 λz H3=>∃o,aX H3 a y o/\Q (o.getD z) H3
section
variable {X:Cx}{o e f:Expr}{apos c9:Pos}{td ty tx:TE}
theorem oW(hu:X.A.units+1<cLine)(ho:PE X o td)(he:PE X e ty)(hf:PE X f tx)(m:M2 X o "get" apos e f c9):PE X (.Call (.Attribute o "get" apos) [e,f] [] c9) (Ef td ty tx):=by
 intro pins s σ H Q I h
 refine wpAny_Call_method m.base m.yJ m.line acb adq PySem.F.type_dict_get (aC (ho pins s σ H _ I h) λu s1 zq=>?_)
 obtain⟨x,H1,I1,rx,a,ex,d,q1⟩:=zq
 subst ex
 obtain rfl:u=Value.ref a:=rx
 obtain⟨t1,t2,_⟩:=Ee I1 d
 refine⟨t1,t2,?_⟩
 rw[m.trees]
 refine abY rfl (adG (aby (aC (he pins s1 σ H1 _ I1 q1) λiv s2 ⟨y,H2,I2,ry,q2⟩=>
  aby (aC (hf pins s2 σ H2 _ I2 q2) λfv s3 ⟨z,H3,I3,rz,ov,g,q3⟩=>ach ?_))))
 exact LQ hu I3 g ry rz λw' s4 I4 qu=>⟨_,H3,I4,qu,q3⟩
end
section
variable {X:Cx}{pins:List (Addr×Obj)}{σ:St}{H:Hp}{s:Shared}{a:Addr}{kvs:List (Key×V)}{A:Around}{E:Value->Shared->Prop}
theorem Gy{Q:Value->Shared->Prop}(I:Inv X pins σ H s) (e:Rd H a (.dK kvs)) (h:∀p s',H p=none->Inv X pins σ (upd H p (.dK kvs)) s'->Q (.ref p) s'):wpAny (model X.prog X.w) A (call (.type "dict") [.ref a]) Q E s:=by
 obtain⟨z,hd,vs,rel,dd⟩:=iX I.hok e
 refine kt_call_dict hd dd (by rw[← rel.length];exact z) λh' pT hs=>?_
 refine h _ _ (I.hok.fresh (aah _)) (I.laid (a:=s.heap.objs.size) (o:=.dK kvs) (t':=s.toks) (λb q hq=>?_) (aah _) (lp z (abB.mpr (aau (aaw I.big))) rel pT))
 exact(hs.2 b (aaw (aam hq))).trans (aac _ hq)
end
section
variable {X:Cx}{pins:List (Addr×Obj)}{σ:St}{H:Hp}{s:Shared}{a:Addr}{y:V}{u:Value}{A:Around}{E:Value->Shared->Prop}
end
end L2
namespace HT
open PySem PyProof.Rows
section
open PySem.SeqAt
open PySem.AutoSeq1 (wpAny_loadPart')
open PySem.MeetsSeq PySem.MeetsSeq2 PySem.MeetsSeq3
end
section
variable {prog:Program}{w:World}{A:Around}{E:Value->Shared->Prop}{s:Shared}
noncomputable def mE(n d:Nat):Option Int->Nat
 | none=>d
 | some v=>if v<0 then (v+(n:Int)).toNat else min v.toNat n
end
end HT
namespace L2
open PySem PySem.Spec PyProof.Rows
noncomputable abbrev TO:=St->Hp->(Option Int->Hp->Prop)->Prop
noncomputable def PO(X:Cx)(e:Option Expr)(t:TO):Prop:=
 ∀(pins:List (Addr×Obj)) (s:Shared) (σ:St) (H:Hp) (Q:Option Int->Hp->Prop),Inv X pins σ H s->t σ H Q->
  wpAny (model X.prog X.w) X.A (evalPart e X.env) (λu s'=>∃o H',Inv X pins σ H' s'/\IsPart u o/\Q o H') X.xe s
noncomputable def Kg:TO:=λ_ H Q=>Q none H
noncomputable def Qk(t:TE):TO:=λσ H Q=>t σ H λx H1=>∃i,x=.int i/\Q (some i) H1
section
variable {X:Cx}{e:Expr}{te:TE}{lo hi:Option Expr}{tl th:TO}{pos p2:Pos}
theorem jH:PO X none Kg:=by
 intro pins s σ H Q I h
 rw[aeX]
 exact aaj ⟨none,H,I,.none,h⟩
theorem jI(h:PE X e te):PO X (some e) (Qk te):=by
 intro pins s σ H Q I hw
 rw[evalPart_some]
 refine aC (h pins s σ H _ I hw) λu s1 zq=>?_
 obtain⟨x,H1,I1,r1,q1⟩:=zq
 obtain⟨i,rfl,q⟩:=q1
 obtain⟨t,rfl⟩:=r1
 exact⟨some i,H1,I1,.int i t,q⟩
noncomputable def Eg(X:Cx)(r:V->Option Int->Option Int->Hp->VK->Prop):Prop:=
 ∀(pins:List (Addr×Obj)) (s:Shared) (σ:St) (H:Hp) (x:V) (v vl vu:Value) (lo hi:Option Int) (sl:Addr) (Q:VK),Inv X pins σ H s->RelV x v->s.heap.IsSliceOf sl vl vu .none->IsPart vl lo->IsPart vu hi->r x lo hi H Q->
  ∃T id,typeLookup (.type T) "__getitem__" = pure (some (.builtin id))/\s.TypeIs v T/\wpAny (model X.prog X.w) X.A (getItem v (.ref sl)) (EP X pins σ Q) X.xe s
noncomputable def Rk(r:V->Option Int->Option Int->Hp->VK->Prop)(te:TE)(tl th:TO):TE:=λσ H Q=>te σ H λx H1=>tl σ H1 λl H2=>th σ H2 λu H3=>r x l u H3 Q
theorem jD{r:V->Option Int->Option Int->Hp->VK->Prop}(hr:Eg X r)(he:PE X e te)(hl:PO X lo tl)(hu:PO X hi th):PE X (.Subscript e (.Slice lo hi none p2) pos) (Rk r te tl th):=by
 intro pins s σ H Q I h
 refine Subscript_ (aC (he pins s σ H _ I h) λv s1 zq=>?_)
 obtain⟨x,H1,I1,r1,q1⟩:=zq
 refine wpAny_Slice (aC (hl pins s1 σ H1 _ I1 q1) λvl s2 ⟨l,H2,I2,pl,q2⟩=>aC (hu pins s2 σ H2 _ I2 q2) λvu s3 zq=>?_)
 obtain⟨u,H3,I3,pu,q3⟩:=zq
 rw[aeX]
 refine aaj ?_
 have I4:Inv X pins σ H3 {s3 with heap:=s3.heap.push {cls:=.type "slice",data:=.fields #[vl,vu,.none] } }:=I3.kept (t':=s3.toks) λb ob q=>aac _ q
 obtain⟨T,id,hT,ht,hg⟩:=hr pins {s3 with heap:=s3.heap.push {cls:=.type "slice",data:=.fields #[vl,vu,.none] } } σ H3 x v vl vu l u s3.heap.objs.size Q I4 r1 (Heap.IsSliceOf.new ..) pl pu q3
 show wpAny (model X.prog X.w) X.A (subscriptTail e (.Slice lo hi none p2) v (.ref s3.heap.objs.size)) (EP X pins σ Q) X.xe {s3 with heap:=s3.heap.push {cls:=.type "slice",data:=.fields #[vl,vu,.none] } }
 exact tail_any (ops:=[.ref s3.heap.objs.size,v]) ht hT hg (by with_unfolding_all rfl)
noncomputable def vM(xs:List V)(lo hi:Option Int):List V:=(xs.drop (HT.mE xs.length 0 lo)).take (HT.mE xs.length xs.length hi-HT.mE xs.length 0 lo)
theorem AZ(xs:List V)(lo hi:Option Int):(vM xs lo hi).length<=xs.length:=by
 unfold vM
 rw[aa3,aeo]
 omega
end
noncomputable def qv(n:Nat)(i:Int):Option Nat:=if 0<=i then (if i<n then some i.toNat else none) else if -(n:Int)<=i then some (i+n).toNat else none
noncomputable def gn{α:Type}(xs:List α)(i:Int):Option α:=(qv xs.length i).bind λj=>xs[j]?
theorem Bn{n:Nat}{i:Int}{j:Nat}(h:qv n i=some j):seqIndex? i n=some j/\j<n /\ -(n:Int)<=i/\i<n:=by
 unfold qv at h
 by_cases h0:0<=i
 . rw[aa4 h0]at h
   by_cases h1:i<n
   . rw[aa4 h1]at h
     have e:i.toNat=j:=aaS h
     exact⟨by rw[seqIndex_of h0 h1,e],by omega,by omega,h1⟩
   . rw[aaY h1]at h;cases h
 . rw[aaY h0]at h
   by_cases h1 : -(n:Int)<=i
   . rw[aa4 h1]at h
     have e:(i+n).toNat=j:=aaS h
     exact⟨by rw[seqIndex_neg (by omega) h1,e],by omega,h1,by omega⟩
   . rw[aaY h1]at h;cases h
theorem vN{α:Type}{xs:List α}{i:Int}{v:α}(h:gn xs i=some v):∃j,seqIndex? i xs.length=some j/\xs[j]?=some v/\j<xs.length /\ -(xs.length:Int)<=i/\i<xs.length:=by
 unfold gn at h
 cases e:qv xs.length i with
 | none=>rw[e]at h;cases h
 | some j=>
  rw[e]at h
  obtain⟨h1,h2,h3,h4⟩:=Bn e
  exact⟨j,h1,h,h2,h3,h4⟩
theorem fi{α:Type}{xs:List α}{j:Nat}{v:α}(h:xs[j]?=some v):gn xs (j:Int)=some v:=by
 have hj:j<xs.length:=(aas.mp h).1
 have e:qv xs.length (j:Int)=some j:=by
  unfold qv
  rw[aa4 (by omega),aa4 (by omega)];simp
 unfold gn;rw[e];exact h
theorem yK{α:Type}(xs:List α)(v:α):gn (xs++[v]) (-1)=some v:=by
 have hl:(xs++[v]).length=xs.length+1:=by simp
 have e:qv (xs++[v]).length (-1)=some xs.length:=by
  unfold qv
  rw[hl,aaY (by decide),aa4 (by omega)]
  congr 1
  omega
 unfold gn
 rw[e]
 show (xs++[v])[xs.length]?=some v
 simp
noncomputable def Kh(b:Expr):Prop:=∀o i,subscripted b false o i=operate [o,i] (getItem o i)
noncomputable def uJ(X:Cx)(r:R2):Prop:=
 ∀(value slice:Expr) (pins:List (Addr×Obj)) (s:Shared) (σ:St) (H:Hp) (x y:V) (v u:Value) (Q:VK),Inv X pins σ H s->RelV x v->RelV y u->r x y H Q->
  subscripted slice false v u=operate [v,u] (getItem v u)->wpAny (model X.prog X.w) X.A (subscriptTail value slice v u) (EP X pins σ Q) X.xe s
noncomputable def Rl(X:Cx)(id:String)(r:V->List V->Hp->VK->Prop):Prop:=
 ∀(pins:List (Addr×Obj)) (s:Shared) (σ:St) (H:Hp) (x:V) (xs:List V) (v:Value) (us:List Value) (Q:VK),Inv X pins σ H s->RelV x v->Vals xs us->r x xs H Q->
  wpAny (model X.prog X.w) X.A (call (.builtin id) (v::us)) (EP X pins σ Q) X.xe s
section
variable {X:Cx}{a b:Expr}{ta tb:TE}{pos:Pos}
theorem uJ.or{r r':R2}(h:uJ X r)(h':uJ X r'):uJ X (λx y H Q=>r x y H Q\/r' x y H Q):=by
 intro value slice pins s σ H x y v u Q I rx ry q hs
 rcases q with q|q
 . exact h value slice pins s σ H x y v u Q I rx ry q hs
 . exact h' value slice pins s σ H x y v u Q I rx ry q hs
theorem aF{r:R2}(hr:uJ X r)(ha:PE X a ta)(hb:PE X b tb)(hs:Kh b):PE X (.Subscript a b pos) (fo r ta tb):=by
 intro pins s σ H Q I h
 exact Subscript_ (Gq ha hb I h λv u s2 x y H2 I2 rx ry q=>hr a b pins s2 σ H2 x y v u Q I2 rx ry q (hs _ _))
noncomputable def qw(K:W.Frag):R2:=λx y H Q=>∃p xs i v,x=.ref p/\y=.int i/\aq K H p xs/\gn xs i=some v/\Q v H
noncomputable def ck(K:W.Frag):R2:=λx y H Q=>∃p xs i v,x=.ref p/\y=.int i/\aH K H p xs/\gn xs i=some v/\Q v H
noncomputable def LR:R2:=λx y H Q=>∃z i c,x=.str z/\y=.int i/\z.length<=sizeLine/\gn z.cps.toList i=some c/\Q (.str ⟨#[c]⟩) H
theorem bG:uJ X (qw X.K):=by
 intro value slice pins s σ H x y v u Q I rx ry h hs
 obtain⟨p,xs,i,z,rfl,rfl,hq,he,q⟩:=h
 cases rx
 obtain⟨t,rfl⟩:=ry
 obtain⟨its,r,pl,hz⟩:=I.list hq
 obtain⟨j,h1,h2,h3,h4,h5⟩:=vN he
 obtain⟨w,ew,qu⟩:=r.get h2
 have hl:=r.length
 have hn:=nX
 have fin:EP X pins σ Q w s:=⟨z,H,I,qu,q⟩
 by_cases h0:0<=i
 . have hj:i.toNat=j:=by
    rw[seqIndex_of h0 h5]at h1
    exact aaS h1
   exact item_listR pl.isList h0 (by omega) (by rw[hj];simpa using ew) fin hs
 . have hj:(i+(its.toArray.size:Int)).toNat=j:=by
    rw[seqIndex_neg (by omega) h4]at h1
    rw[aar,← hl]
    exact aaS h1
   exact subscriptTail_builtinR (x:=w) pl.isList.typeIs slot_list_getitem.lookup
    (wpAny_getItem_list_neg (Q:=λr s'=>r=w/\EP X pins σ Q r s') pl.isList (by omega) (by rw[aar] <;> omega) (by omega) (by rw[hj];simpa using ew) ⟨rfl,fin⟩) hs
theorem bT:uJ X (ck X.K):=by
 intro value slice pins s σ H x y v u Q I rx ry h hs
 obtain⟨p,xs,i,z,rfl,rfl,hq,he,q⟩:=h
 cases rx
 obtain⟨t,rfl⟩:=ry
 obtain⟨its,r,pl,hz⟩:=I.tuple hq
 obtain⟨j,h1,h2,h3,h4,h5⟩:=vN he
 obtain⟨w,ew,qu⟩:=r.get h2
 have hl:=r.length
 have hn:=nX
 have fin:EP X pins σ Q w s:=⟨z,H,I,qu,q⟩
 exact subscriptTail_builtinR (x:=w) pl.typeIs slot_tuple_getitem.lookup
  (getItem_tuple (j:=j) (Q:=λr s'=>r=w/\EP X pins σ Q r s') pl (by omega) (by omega) (by rw[aar,← hl];exact h1) (by simpa using ew) ⟨rfl,fin⟩) hs
theorem lq:uJ X LR:=by
 intro value slice pins s σ H x y v u Q I rx ry h hs
 obtain⟨z,i,c,rfl,rfl,hz,he,q⟩:=h
 obtain⟨t,rfl⟩:=rx
 obtain⟨t',rfl⟩:=ry
 obtain⟨j,h1,h2,h3,h4,h5⟩:=vN he
 have hl:z.cps.toList.length=z.length:=by simp[Str.length]
 rw[hl]at h1 h4 h5
 have hn:=nX
 exact tail_any (ac4 s z t) slot_str_getitem.lookup (getItem_str (c:=c) (by
  have e1:decide (i < -(2 ^ 63:Int))=false:=aaW (by omega)
  have e2:decide (i≥2 ^ 63)=false:=aaW (by omega)
  rw[e1,e2,Bool.or_false]) (by rw[h1];simpa using h2) ⟨.str ⟨#[c]⟩,H,I.tok _,⟨_,rfl⟩,q⟩) hs
noncomputable def Rm(K:W.Frag):R2:=λx y H Q=>qw K x y H Q\/ck K x y H Q\/LR x y H Q
theorem qx:uJ X (Rm X.K):=bG.or (bT.or lq)
theorem Co(its:List Value)(n j:Nat)(u:Value):Obj.mapSeq (·.setIfInBounds j u) {cls:=.type "list",data:=.seq its.toArray n} = {cls:=.type "list",data:=.seq (its.set j u).toArray n}:=by
 simp[Obj.mapSeq]
theorem Inv.lst{pins:List (Addr×Obj)}{σ:St}{H:Hp}{s:Shared}{p:Addr}{xs:List V}(I:Inv X pins σ H s) (h:H p=some (.lst xs)) :
 ∃(its:List Value) (n:Nat),Vals xs its/\s.heap.get? p=some {cls:=.type "list",data:=.seq its.toArray n} /\ xs.length<=sizeLine:=by
 obtain⟨z,its,n,r,e⟩:=I.hok p _ h
 exact⟨its,n,r,e,z⟩
theorem Inv.LS{pins:List (Addr×Obj)}{σ:St}{H:Hp}{s:Shared}{p:Addr}{xs ys:List V}{its its':List Value}{n n':Nat}{f:Obj->Obj}(I:Inv X pins σ H s) (h:H p=some (.lst xs))
 (ho:s.heap.get? p=some {cls:=.type "list",data:=.seq its.toArray n}) (hf:f {cls:=.type "list",data:=.seq its.toArray n} = {cls:=.type "list",data:=.seq its'.toArray n'}) (r:Vals ys its') (hz:ys.length<=sizeLine) (t:Nat) :
 Inv X pins σ (upd H p (.lst ys)) {s with heap:=s.heap.update p f,toks:=t}:=by
 have e:(s.heap.update p f).get? p=some {cls:=.type "list",data:=.seq its'.toArray n'}:=by
  rw[ads f ho (by rw[hf] <;> rfl),hf]
 refine I.write (x:=p) (e:=p) (by rw[h];trivial) (.inl rfl) (λb u hb q=>(Heap.get?_update_other _ _ (aau hb)).trans q) ⟨_,e⟩ ?_
 exact⟨hz,its',n',r,e⟩
noncomputable def Ql:V->V->V->Hp->(Hp->Prop)->Prop:=λo i v H Q=>∃p xs k j,o=.ref p/\i=.int k/\H p=some (.lst xs)/\qv xs.length k=some j/\Q (upd H p (.lst (xs.set j v)))
theorem set_list:LC X Ql:=by
 intro pins s σ H o i v ov iv u Q I ro ri rv h
 obtain⟨p,xs,k,j,rfl,rfl,hp,hj,q⟩:=h
 cases ro
 obtain⟨t,rfl⟩:=ri
 obtain⟨its,n,r,ho,hz⟩:=I.lst hp
 obtain⟨h1,h2,h3,h4⟩:=Bn hj
 have hl:=r.length
 have hn:=nX
 have I':Inv X pins σ (upd H p (.lst (xs.set j v))) {s with heap:=s.heap.update p (Obj.mapSeq (·.setIfInBounds j u))} :=
  I.LS hp ho (Co its n j u) (r.set rv j) (by rw[List.length_set];exact hz) s.toks
 by_cases h0:0<=k
 . have hk:k.toNat=j:=by
    rw[seqIndex_of h0 h4]at h1
    exact aaS h1
   exact W.ki_setAt ho h0 (by omega) (by rw[aar,← hl];exact h4) (by rw[hk];exact⟨_,I',q⟩)
 . have hk:(k+(its.toArray.size:Int)).toNat=j:=by
    rw[seqIndex_neg (by omega) h3]at h1
    rw[aar,← hl]
    exact aaS h1
   exact W.ki_setBack ho (by omega) (by rw[aar,← hl];exact h3) (by omega) (by rw[hk];exact⟨_,I',q⟩)
theorem yL(lo hi:Option Int)(n:Nat):(sliceBounds lo hi none n).1=((HT.mE n 0 lo:Nat):Int)/\(sliceBounds lo hi none n).2.1=((HT.mE n n hi:Nat):Int)/\(sliceBounds lo hi none n).2.2=1:=by
 refine⟨?_,?_,rfl⟩
 . cases lo with
   | none=>simp[sliceBounds,HT.mE]
   | some i=>
    simp only[sliceBounds,HT.mE,aep,show (1:Int)>0 by decide,adk]
    by_cases h:i<0
    . simp only[h,adk] <;> omega
    . simp only[h,acX] <;> omega
 . cases hi with
   | none=>simp[sliceBounds,HT.mE]
   | some i=>
    simp only[sliceBounds,HT.mE,aep,show (1:Int)>0 by decide,adk]
    by_cases h:i<0
    . simp only[h,adk] <;> omega
    . simp only[h,acX] <;> omega
theorem yg(its:List Value)(lo hi:Option Int):slicePick its.toArray lo hi none=((its.drop (HT.mE its.length 0 lo)).take (HT.mE its.length its.length hi-HT.mE its.length 0 lo)).toArray:=by
 obtain⟨h1,h2,h3⟩:=yL lo hi its.toArray.size
 unfold slicePick
 rw[h1,h2,h3]
 simp only[sliceRange_one,pick_run,aar] <;> rfl
noncomputable def Ue(K:W.Frag):V->Option Int->Option Int->Hp->VK->Prop:=λx lo hi H Q=>∃a xs,x=.ref a/\aq K H a xs/\∀p,H p=none->Q (.ref p) (upd H p (.lst (vM xs lo hi)))
theorem Ki:Eg X (Ue X.K):=by
 intro pins s σ H x v vl vu lo hi sl Q I rx hs pl pu h
 obtain⟨a,xs,rfl,hx,q⟩:=h
 cases rx
 obtain⟨its,r,ht,hz⟩:=I.list hx
 have hlen:=r.length
 refine⟨"list",_,slot_list_getitem.lookup,ht.isList.typeIs,?_⟩
 refine wpAny_getItem_list_slice ht.isList hs pl pu .none (by simp) ?_ (by rw[aar] <;> omega)
 rw[yg,← hlen]
 refine⟨.ref s.heap.objs.size,_,I.laid (t':=s.toks) (o:=.lst (vM xs lo hi)) (λb ob q=>aac _ q) (aah _) ?_,rfl,q _ (I.hok.fresh (aah _))⟩
 exact⟨aao (AZ xs lo hi) hz,_,0,(r.drop (HT.mE xs.length 0 lo)).take (HT.mE xs.length xs.length hi-HT.mE xs.length 0 lo),aaq _ rfl⟩
noncomputable def jx:V->Bool
 | .aM=>true
 | .bl _=>true
 | .int _=>true
 | .str _=>true
 | _=>false
noncomputable def lr:V->V->Bool
 | .aM,.aM=>true
 | .bl a,.bl b=>a == b
 | .bl a,.int b=>(if a then 1 else 0) == b
 | .int a,.bl b=>a == (if b then 1 else 0)
 | .int a,.int b=>a == b
 | .str a,.str b=>a == b
 | _,_=>false
theorem uK{A:Around}{s:Shared}{y x:V}{u v:Value}(ry:RelV y u)(rx:RelV x v)(fy:jx y=true)(fx:jx x=true):SeqAt.EqAt A s u v (lr y x):=by
 cases y with
 | aM=>
  cases ry
  cases x with
  | aM=>cases rx;exact SeqAt.EqAt.same _
  | bl b=>cases rx;exact SeqAt.EqAt.none_bool b
  | int b=>obtain⟨t,rfl⟩:=rx;exact SeqAt.EqAt.none_int b t
  | str b=>obtain⟨t,rfl⟩:=rx;exact SeqAt.EqAt.none_str b t
  | _=>exact absurd (show false=true from fx) aax
 | bl a=>
  cases ry
  cases x with
  | aM=>cases rx;exact SeqAt.EqAt.bool_none a
  | bl b=>cases rx;exact SeqAt.EqAt.bool_bool a b
  | int b=>obtain⟨t,rfl⟩:=rx;exact SeqAt.EqAt.bool_int a b t
  | str b=>obtain⟨t,rfl⟩:=rx;exact SeqAt.EqAt.bool_str a b t
  | _=>exact absurd (show false=true from fx) aax
 | int a=>
  obtain⟨t',rfl⟩:=ry
  cases x with
  | aM=>cases rx;exact SeqAt.EqAt.int_none a t'
  | bl b=>cases rx;exact SeqAt.EqAt.int_bool a t' b
  | int b=>obtain⟨t,rfl⟩:=rx;exact SeqAt.EqAt.int_int a t' b t
  | str b=>obtain⟨t,rfl⟩:=rx;exact SeqAt.EqAt.int_str a t' b t
  | _=>exact absurd (show false=true from fx) aax
 | str a=>
  obtain⟨t',rfl⟩:=ry
  cases x with
  | aM=>cases rx;exact SeqAt.EqAt.str_none a t'
  | bl b=>cases rx;exact SeqAt.EqAt.str_bool a t' b
  | int b=>obtain⟨t,rfl⟩:=rx;exact SeqAt.EqAt.str_int a t' b t
  | str b=>obtain⟨t,rfl⟩:=rx;exact SeqAt.EqAt.str_str a t' b t
  | _=>exact absurd (show false=true from fx) aax
 | _=>exact absurd (show false=true from fy) aax
noncomputable def mF(x:V)(u:Value):Bool:=match u with
 | .none=>lr .aM x
 | .bool b=>lr (.bl b) x
 | .int i _=>lr (.int i) x
 | .str z _=>lr (.str z) x
 | _=>false
theorem Eh{x y:V}{u:Value}(r:RelV y u)(f:jx y=true):mF x u=lr y x:=by
 cases y with
 | aM=>cases r;rfl
 | bl b=>cases r;rfl
 | int i=>obtain⟨t,rfl⟩:=r;rfl
 | str z=>obtain⟨t,rfl⟩:=r;rfl
 | _=>exact absurd (show false=true from f) aax
theorem n8{x:V} : ∀{xs:List V}{us:List Value},Vals xs us->xs.all jx=true->us.any (mF x)=xs.any λy=>lr y x
 | _,_,.nil,_=>rfl
 | y::xs,u::us,.cons r t,f=>by
  rw[aeY,abu]at f
  rw[acO,acO,Eh r f.1,n8 t f.2]
theorem mG{A:Around}{s:Shared}{x:V}{v:Value}(rx:RelV x v)(fx:jx x=true):∀{xs:List V}{us:List Value},Vals xs us->xs.all jx=true->∀u∈us,SeqAt.EqAt A s u v (mF x u)
 | _,_,.nil,_=>λu hu=>by cases hu
 | y::xs,u::us,.cons r t,f=>λu' hu=>by
  rw[aeY,abu]at f
  rcases aal.mp hu with rfl|hu
  . rw[Eh r f.1];exact uK r rx f.1 fx
  . exact mG rx fx t f.2 u' hu
noncomputable def g0(x:V)(xs:List V):Bool:=xs.any λy=>lr y x
noncomputable def qy(K:W.Frag)(neg:Bool):R2:=λx y H Q=>∃p xs,y=.ref p/\(aq K H p xs\/aH K H p xs)/\jx x=true/\xs.all jx=true/\Q (.bl (if neg then !g0 x xs else g0 x xs)) H
theorem gp:iG X (compareOp .In) (qy X.K false):=by
 intro pins s σ H x y v u Q I rx ry h
 obtain⟨p,xs,rfl,hq,fx,fs,q⟩:=h
 cases ry
 rcases hq with hq|hq
 . obtain⟨its,r,pl,hz⟩:=I.list hq
   refine aeF (mF x) pl.isList (λw hw=>mG rx fx r fs w (by simpa using hw)) ⟨.bl _,H,I,rfl,?_⟩
   rw[show its.toArray.any (mF x)=its.any (mF x) by simp,n8 r fs]
   exact q
 . obtain⟨its,r,pl,hz⟩:=I.tuple hq
   refine SeqAt.in_tupleAt (mF x) pl (λw hw=>mG rx fx r fs w (by simpa using hw)) ⟨.bl _,H,I,rfl,?_⟩
   rw[show its.toArray.any (mF x)=its.any (mF x) by simp,n8 r fs]
   exact q
theorem j0:iG X (compareOp .NotIn) (qy X.K true):=by
 intro pins s σ H x y v u Q I rx ry h
 obtain⟨p,xs,rfl,hq,fx,fs,q⟩:=h
 cases ry
 rcases hq with hq|hq
 . obtain⟨its,r,pl,hz⟩:=I.list hq
   refine SeqAt.notIn_listAt (mF x) pl.isList (λw hw=>mG rx fx r fs w (by simpa using hw)) ⟨.bl _,H,I,rfl,?_⟩
   rw[show its.toArray.any (mF x)=its.any (mF x) by simp,n8 r fs]
   exact q
 . obtain⟨its,r,pl,hz⟩:=I.tuple hq
   refine SeqAt.notIn_tupleAt (mF x) pl (λw hw=>mG rx fx r fs w (by simpa using hw)) ⟨.bl _,H,I,rfl,?_⟩
   rw[show its.toArray.any (mF x)=its.any (mF x) by simp,n8 r fs]
   exact q
theorem cy:jw X (.builtin "len") (λxs H Q=>∃p ys,xs=[.ref p]/\(aq X.K H p ys\/aH X.K H p ys)/\Q (.int ys.length) H):=by
 intro pins s σ H xs us Q I r h
 obtain⟨p,ys,rfl,hq,q⟩:=h
 obtain⟨u,rfl,rx⟩:=vals1 r
 cases rx
 have hn:=nX
 rcases hq with hq|hq
 . obtain⟨its,r',pl,hz⟩:=I.list hq
   have hlen:=r'.length
   exact Calls.call_len_list pl.isList (by simp only[aar] <;> omega) ⟨.int ys.length,H,I.tok _,⟨s.toks+1,by rw[aar,hlen]⟩,q⟩
 . obtain⟨its,r',pl,hz⟩:=I.tuple hq
   have hlen:=r'.length
   exact len_tuple pl (by simp only[aar] <;> omega) ⟨.int ys.length,H,I.tok _,⟨s.toks+1,by rw[aar,hlen]⟩,q⟩
theorem eN:jw X (.type "list") (λxs H Q=>∃p ys,xs=[.ref p]/\(aq X.K H p ys\/aH X.K H p ys)/\∀l,H l=none->Q (.ref l) (upd H l (.lst ys))):=by
 intro pins s σ H xs us Q I r h
 obtain⟨p,ys,rfl,hq,q⟩:=h
 obtain⟨u,rfl,rx⟩:=vals1 r
 cases rx
 have fin:∀(its:List Value),Vals ys its->ys.length<=sizeLine->∀(h':Heap) (c':Nat),(∀b o',s.heap.get? b=some o'->h'.get? b=some o')->
  h'.get? s.heap.objs.size=some {cls:=.type "list",dict:=none,data:=.seq its.toArray c',slots:=#[] } -> EP X pins σ Q (.ref s.heap.objs.size) {s with heap:=h'}:=λits r' hz h' c' kp e=>
  ⟨.ref s.heap.objs.size,_,I.laid (t':=s.toks) kp (aah _) (show bz X.prog X.w _ h' _ (.lst ys) from⟨hz,its,c',r',e⟩),rfl,q _ (I.hok.fresh (aah _))⟩
 rcases hq with hq|hq
 . obtain⟨its,r',pl,hz⟩:=I.list hq
   have hlen:=r'.length
   obtain⟨o,ho,hc,n,hd⟩:=pl.isList
   exact call_list_seq p (.inl rfl) ho hc hd (λh' c' kp e=>fin its r' hz h' c' kp e) (by simp only[aar] <;> omega)
 . obtain⟨its,r',pl,hz⟩:=I.tuple hq
   have hlen:=r'.length
   obtain⟨o,ho,hc,n,hd⟩:=pl
   exact call_list_seq p (.inr rfl) ho hc hd (λh' c' kp e=>fin its r' hz h' c' kp e) (by simp only[aar] <;> omega)
theorem lM:jw X (.type "tuple") (λxs H Q=>∃p ys,xs=[.ref p]/\((aq X.K H p ys/\∀l,H l=none->Q (.ref l) (upd H l (.tup ys)))\/(aH X.K H p ys/\Q (.ref p) H))):=by
 intro pins s σ H xs us Q I r h
 obtain⟨p,ys,rfl,h⟩:=h
 obtain⟨u,rfl,rx⟩:=vals1 r
 cases rx
 rcases h with⟨hq,q⟩|⟨hq,q⟩
 . obtain⟨its,r',pl,hz⟩:=I.list hq
   have hlen:=r'.length
   refine call_tuple_list pl.isList (λh' kp=>?_) (by simp only[aar] <;> omega)
   have I1:Inv X pins σ H {s with heap:=h'}:=I.kept (t':=s.toks) kp
   have I2:Inv X pins σ (upd H h'.objs.size (.tup ys)) {s with heap:=h'.push {cls:=.type "tuple",data:=.seq its.toArray} } :=
    I1.laid (t':=s.toks) (λb o e=>aac _ e) (aah _) (show bz X.prog X.w _ _ _ (.tup ys) from⟨hz,its,r',IsTup.new _ _⟩)
   exact⟨.ref h'.objs.size,_,I2,rfl,q _ (I1.hok.fresh (aah _))⟩
 . obtain⟨its,r',pl,hz⟩:=I.tuple hq
   exact call_tuple_same pl ⟨.ref p,H,I,rfl,q⟩
noncomputable def LU(K:W.Frag)(T:String)(x:V)(H:Hp):Prop:=match x with
 | .str _=>T = "str"
 | .int _=>T = "int"
 | .ref p=>(T = "list" /\ ∃xs,aq K H p xs)\/(T = "tuple" /\ ∃o,K.lookup p=some o/\o.cls=.type "tuple" /\ o.dict=none)\/
  (T = "dict" /\ ((∃kvs,H p=some (.dK kvs))\/∃kvs,H p=some (.dT kvs)))\/(T = "set" /\ ∃S n,H p=some (.set S n))
 | _=>False
theorem yM{pins:List (Addr×Obj)}{σ:St}{H:Hp}{s:Shared}{T:String}{x:V}{v:Value}(I:Inv X pins σ H s) (r:RelV x v) (ty:LU X.K T x H) :
 s.TypeIs v T/\∀a,v=.ref a->∃ob,s.heap.get? a=some ob/\ob.dict=none:=by
 cases x with
 | str z=>
  obtain⟨t,rfl⟩:=r
  cases(show T = "str" from ty)
  exact⟨ac4 s z t,λ_ e=>nomatch e⟩
 | int i=>
  obtain⟨t,rfl⟩:=r
  cases(show T = "int" from ty)
  exact⟨typeIs_int s i t,λ_ e=>nomatch e⟩
 | ref p=>
  cases r
  rcases ty with⟨rfl,xs,hq⟩|⟨rfl,o,hk,hc,hd⟩|⟨rfl,hk⟩|⟨rfl,S,n,hk⟩
  . obtain⟨its,_,pl,_⟩:=I.list hq
    refine⟨pl.isList.typeIs,λa e=>?_⟩
    cases e
    obtain⟨o,n,e,c,hd,_⟩:=pl
    exact⟨o,e,hd⟩
  . refine⟨⟨o,I.iw p o hk,hc⟩,λa e=>?_⟩
    cases e
    exact⟨o,I.iw _ o hk,hd⟩
  . have z:∃o,s.heap.get? p=some o/\o.ExactDict:=by
     rcases hk with⟨kvs,hk⟩|⟨kvs,hk⟩
     . obtain⟨_,_,_,_,o,_,_,e,ex,_⟩:=I.hok p _ hk
       exact⟨o,e,ex⟩
     . obtain⟨_,_,_,_,o,_,_,e,ex,_⟩:=I.hok p _ hk
       exact⟨o,e,ex⟩
    obtain⟨o,e,ex⟩:=z
    refine⟨⟨o,e,ex.1⟩,λa e2=>?_⟩
    cases e2
    exact⟨o,e,ex.2.1⟩
  . obtain⟨o,_,_,_,e,ex,_⟩:=I.hok p _ hk
    refine⟨⟨o,e,ex.1⟩,λa e2=>?_⟩
    cases e2
    exact⟨o,e,ex.2.1⟩
 | _=>exact False.elim ty
noncomputable def Ug(K:W.Frag)(T:String)(r:V->List V->Hp->VK->Prop)(to:TE):TE:=λσ H Q=>to σ H λx H1=>LU K T x H1/\r x [] H1 Q
noncomputable def VE(K:W.Frag)(T:String)(r:V->List V->Hp->VK->Prop)(to:TE)(t:TA):TE:=λσ H Q=>to σ H λx H1=>LU K T x H1/\t σ H1 λxs H2=>r x xs H2 Q
variable {o e:Expr}{es:List Expr}{to:TE}{t:TA}{name:Str}{apos c9:Pos}{T id:String}{r:V->List V->Hp->VK->Prop}
theorem qz(pa:PlainAttrs T)(slot:Slot T name id) (LV:typeOf (.builtin id)=pure (.type "method_descriptor")) (hm:Rl X id r) (ho:PE X o to)
 (l8:attributeBase o name X.env (eval o X.env)=eval o X.env:=by rfl) (l9:(apos.endLine == c9.line)=true:=by rfl):PE X (.Call (.Attribute o name apos) [] [] c9) (Ug X.K T r to):=by
 intro pins s σ H Q I h
 refine ac9 l8 l9 (aC (ho pins s σ H _ I h) λv s1 zq=>?_)
 obtain⟨x,H1,I1,r1,ty,q1⟩:=zq
 obtain⟨h1,h2⟩:=yM I1 r1 ty
 exact⟨T,id,pa,slot,LV,h1,h2,abY rfl (adM (hm pins s1 σ H1 x [] v [] Q I1 r1 .nil q1))⟩
theorem eY(pa:PlainAttrs T)(slot:Slot T name id) (LV:typeOf (.builtin id)=pure (.type "method_descriptor")) (hm:Rl X id r) (ho:PE X o to) (ha:PA X (e::es) t)
 (l8:attributeBase o name X.env (eval o X.env)=eval o X.env:=by rfl)
 (Gz:((backTo c9 (starEach (e::es) X.env)).all (λx=>!x.1) && (backToKw c9 (keywordEach [] X.env)).all (λx=>x.1.isSome)
  && decide ((e::es).length+([]:List Keyword).length+(if ([]:List Keyword).isEmpty then 0 else 1)<30))=true:=by rfl)
 (l9:(apos.endLine == c9.line)=true:=by rfl) (hs:starEach (e::es) X.env=(false,eval e X.env)::starEach es X.env:=by rfl) (LW:(backTo c9 (starEach es X.env)).any (·.1)=false:=by rfl) :
 PE X (.Call (.Attribute o name apos) (e::es) [] c9) (VE X.K T r to t):=by
 intro pins s σ H Q I h
 refine wpAny_Call_method_late l8 Gz l9 rfl (aC (ho pins s σ H _ I h) λv s1 zq=>?_)
 obtain⟨x,H1,I1,r1,ty,q1⟩:=zq
 obtain⟨h1,h2⟩:=yM I1 r1 ty
 refine⟨T,id,pa,slot,LV,h1,h2,?_⟩
 have hA:=ha c9 pins s1 σ H1 _ I1 q1
 rw[hs]at hA ⊢
 refine abY (by show (false || (backTo c9 (starEach es X.env)).any (·.1))=false;rw[LW] <;> rfl) (adG ?_)
 exact aC hA λus s2 ⟨vs,H2,I2,r2,q2⟩=>hm pins s2 σ H2 x vs v us Q I2 r1 r2 q2
end
noncomputable def sM(X:Cx)(id:String)(r:V->List V->Hp->VK->Prop):Prop:=
 ∀(pins:List (Addr×Obj)) (s:Shared) (σ:St) (H:Hp) (x:V) (xs:List V) (v:Value) (us:List Value) (Q:VK),Inv X pins σ H s->RelV x v->Vals xs us->r x xs H Q->
  wpAny (model X.prog X.w) X.A (call (.builtin id) (v::us)) (EP X pins σ Q) X.xe s
theorem Vals.inv{x:V}{xs:List V}{us:List Value}(h:Vals (x::xs) us):∃u t,us=u::t/\RelV x u/\Vals xs t:=by
 cases h with
 | cons r t=>exact⟨_,_,rfl,r,t⟩
theorem Vals.one:∀{x:V}{us:List Value},Vals [x] us->∃u,us=[u]/\RelV x u:=by
 intro x us h
 obtain⟨u,t,rfl,r,h⟩:=h.inv
 cases h
 exact⟨u,rfl,r⟩
theorem Vals.two:∀{x y:V}{us:List Value},Vals [x,y] us->∃u v,us=[u,v]/\RelV x u/\RelV y v:=by
 intro x y us h
 obtain⟨u,t,rfl,r,h⟩:=h.inv
 obtain⟨v,s,rfl,q,h⟩:=h.inv
 cases h
 exact⟨u,v,rfl,r,q⟩
theorem Vals.zero:∀{us:List Value},Vals [] us->us=[]:=by
 intro us h
 cases h
 rfl
theorem Vals.dropLast{xs:List V}{us:List Value}(h:Vals xs us):Vals xs.dropLast us.dropLast:=by
 induction h with
 | nil=>exact .nil
 | cons r t ih=>
  cases t with
  | nil=>exact .nil
  | cons q t'=>exact .cons r ih
theorem Cp{α:Type}(l:List α):l.eraseIdx (l.length-1)=l.dropLast:=by
 induction l with
 | nil=>rfl
 | cons a r ih=>
  cases r with
  | nil=>rfl
  | cons b r=>
   have e:(a::b::r).length-1=((b::r).length-1)+1:=by
    have h1:(a::b::r).length=r.length+2:=rfl
    have h2:(b::r).length=r.length+1:=rfl
    omega
   rw[e,List.eraseIdx_cons_succ,ih]
   all_goals rfl
section
variable {X:Cx}{pins:List (Addr×Obj)}{σ:St}{H:Hp}{s:Shared}{l b:Addr}{xs ys zs:List V}
theorem Inv.vO{its its':List Value}{n:Nat}{f:Array Value->Array Value}{t':Nat}(I:Inv X pins σ H s) (hH:H l=some (.lst xs))
 (e:s.heap.get? l=some {cls:=.type "list",data:=.seq its.toArray n}) (hf:f its.toArray=its'.toArray) (hv:Vals ys its') (hz:ys.length<=sizeLine) :
 Inv X pins σ (upd H l (.lst ys)) {s with heap:=s.heap.update l (Obj.mapSeq f),toks:=t'}:=by
 have q:=PySem.IsL.update e f
 rw[hf]at q
 refine I.write (x:=l) (e:=l) (by rw[hH];exact trivial) (.inl rfl) (λb' u hb hu=>(Heap.get?_update_other s.heap (Obj.mapSeq f) (aau hb)).trans hu) ⟨_,q⟩ ?_
 exact⟨hz,its',_,hv,q⟩
theorem Inv.GA{its:List Value}{t':Nat}(I:Inv X pins σ H s)(hv:Vals ys its)(hz:ys.length<=sizeLine) :
 Inv X pins σ (upd H s.heap.objs.size (.lst ys)) {s with heap:=s.heap.push {cls:=.type "list",data:=.seq its.toArray},toks:=t'} :=
 I.laid (λ_ _ q=>aac _ q) (aah _) ⟨hz,its,0,hv,aaq _ rfl⟩
theorem Inv.fresh(I:Inv X pins σ H s):H s.heap.objs.size=none:=I.hok.fresh (aah _)
theorem Inv.oX(I:Inv X pins σ H s) (hH:H l=some (.lst xs)):xs.length<=sizeLine/\∃(its:List Value) (n:Nat),Vals xs its/\xs.length=its.length/\s.heap.get? l=some {cls:=.type "list",data:=.seq its.toArray n}:=by
 obtain⟨z,its,n,r,e⟩:=I.hok l _ hH
 exact⟨z,its,n,r,r.length,e⟩
theorem oY{n:Nat}(h:n<=sizeLine):Builtin.List.listTooLong n=false:=by
 unfold Builtin.List.listTooLong
 exact aaW (by omega)
end
section
variable {X:Cx}
noncomputable def Kj:V->List V->Hp->VK->Prop:=λx vs H Q=>∃l xs y,x=.ref l/\vs=[y]/\H l=some (.lst xs)/\xs.length<sizeLine/\Q .aM (upd H l (.lst (xs++[y])))
theorem dj:sM X "list.append" Kj:=by
 intro pins s σ H x vs v us Q I rx rv h
 obtain⟨l,xs,y,rfl,rfl,hH,hz,q⟩:=h
 cases rx
 obtain⟨u,rfl,ru⟩:=rv.one
 obtain⟨z,its,n,r,hl,e⟩:=I.oX hH
 refine ac5 abd ⟨_,e,rfl⟩ F.entry_list_append (F.args_list_append_2 _ _) (PySem.list_append l its.toArray n u (by rw[aar];omega)) ⟨e,?_⟩
 refine⟨.aM,_,I.vO (its':=its++[u]) hH e (by simp) (r.append (.cons ru .nil)) ?_,rfl,q⟩
 rw[aaf,aat]
 omega
noncomputable def Kk:V->List V->Hp->VK->Prop:=λx vs H Q=>∃l b xs zs,x=.ref l/\vs=[.ref b]/\H l=some (.lst xs)/\H b=some (.lst zs)/\xs.length+zs.length<=sizeLine/\Q .aM (upd H l (.lst (xs++zs)))
theorem Rn:sM X "list.extend" Kk:=by
 intro pins s σ H x vs v us Q I rx rv h
 obtain⟨l,b,xs,zs,rfl,rfl,hH,hB,hz,q⟩:=h
 cases rx
 obtain⟨u,rfl,ru⟩:=rv.one
 cases ru
 obtain⟨z,its,n,r,hl,e⟩:=I.oX hH
 obtain⟨z2,lN,n2,r2,cx,e2⟩:=I.oX hB
 have hsz:its.toArray.size+lN.toArray.size<=sizeLine:=by rw[aar,aar];omega
 have Cq:¬ (!its.toArray.isEmpty && Builtin.List.listTooLong (its.toArray.size+lN.toArray.size))=true:=by
  rw[oY hsz,Bool.and_false]
  exact aax
 refine ac5 F.slot_list_extend ⟨_,e,rfl⟩ F.entry_list_extend (F.args_list_extend_2 _ _)
  (AutoSeq1.list_extend_list_list_0 l its.toArray n b lN.toArray n2 Cq (by rw[aar];omega) (by omega)) ⟨e,e2,?_⟩
 refine⟨.aM,_,I.vO (its':=its++lN) hH e (by simp) (r.append r2) ?_,rfl,q⟩
 rw[aaf]
 omega
noncomputable def Uh:V->List V->Hp->VK->Prop:=λx vs H Q=>∃l xs y,x=.ref l/\vs=[]/\H l=some (.lst xs)/\xs[xs.length-1]?=some y/\Q y (upd H l (.lst xs.dropLast))
theorem Ei:sM X "list.pop" Uh:=by
 intro pins s σ H x vs v us Q I rx rv h
 obtain⟨l,xs,y,rfl,rfl,hH,hy,q⟩:=h
 cases rx
 have eO:=rv.zero
 subst eO
 obtain⟨z,its,n,r,hl,e⟩:=I.oX hH
 obtain⟨u,hu,ru⟩:=r.get hy
 have VF:its.toArray[its.toArray.size-1]?=some u:=by
  show its.toArray[its.length-1]?=some u
  rw[← aeG,← hl]
  exact hu
 refine ac5 aeJ ⟨_,e,rfl⟩ F.entry_list_pop (F.args_list_pop_1 _) (MeetsSeq.list_pop_last l its.toArray n u VF (by rw[aar];omega)) ⟨e,?_⟩
 refine⟨y,_,I.vO (its':=its.dropLast) hH e ?_ r.dropLast ?_,ru,q⟩
 . show its.toArray.eraseIdxIfInBounds (its.toArray.size-1)=its.dropLast.toArray
   rw[aar,List.eraseIdxIfInBounds_toArray,Cp]
 . rw[List.length_dropLast]
   omega
noncomputable def LX:V->List V->Hp->VK->Prop:=λx vs H Q=>∃l xs,x=.ref l/\vs=[]/\H l=some (.lst xs)/\Q .aM (upd H l (.lst []))
theorem GC:sM X "list.clear" LX:=by
 intro pins s σ H x vs v us Q I rx rv h
 obtain⟨l,xs,rfl,rfl,hH,q⟩:=h
 cases rx
 have eO:=rv.zero
 subst eO
 obtain⟨z,its,n,r,hl,e⟩:=I.oX hH
 refine ac5 F.slot_list_clear ⟨_,e,rfl⟩ F.entry_list_clear (F.args_list_clear_1 _) (AutoSeq1.list_clear_list_0 l its.toArray n (by rw[aar];omega)) ⟨e,?_⟩
 exact⟨.aM,_,I.vO (its':=[]) (ys:=[]) hH e rfl .nil (abM _),rfl,q⟩
noncomputable def Ui:R2:=λx y H Q=>∃l b xs zs,x=.ref l/\y=.ref b/\H l=some (.lst xs)/\H b=some (.lst zs)/\xs.length+zs.length<=sizeLine/\∀p,H p=none->Q (.ref p) (upd H p (.lst (xs++zs)))
theorem hX:iG X (binaryOp .Add) Ui:=by
 intro pins s σ H x y v u Q I rx ry h
 obtain⟨l,b,xs,zs,rfl,rfl,hH,hB,hz,q⟩:=h
 cases rx
 cases ry
 obtain⟨z,its,n,r,hl,e⟩:=I.oX hH
 obtain⟨z2,lN,n2,r2,cx,e2⟩:=I.oX hB
 refine PySem.P.add_list e e2 ?_ (by rw[aar,aar];omega)
 have ea:its.toArray++lN.toArray=(its++lN).toArray:=by simp
 rw[ea]
 exact⟨.ref _,_,I.GA (t':=s.toks) (r.append r2) (by rw[aaf];omega),rfl,q _ I.fresh⟩
end
section
variable {prog:Program}{w:World}{A:Around}{E:Value->Shared->Prop}{s:Shared}
theorem Cr{a c n:Nat}(Ro:a<=c)(hc:c<=n):sliceBounds (some (a:Int)) (some (c:Int)) none n=((a:Int),(c:Int),1):=by
 simp only[sliceBounds,aep]
 have h1:¬ ((a:Int)<0):=by omega
 have h2:¬ ((c:Int)<0):=by omega
 simp only[h1,h2,acX,show (1:Int)>0 by decide,adk]
 congr 1
 . omega
 . congr 1;omega
set_option maxRecDepth 100000 in
theorem Ln{l b sl:Addr}{items new:Array Value}{n n2:Nat}{vl vu:Value}{a c:Nat}{Q:Unit->Shared->Prop}
 (e:s.heap.get? l=some {cls:=.type "list",data:=.seq items n}) (e2:s.heap.get? b=some {cls:=.type "list",data:=.seq new n2}) (h7:l≠b)
 (hs:s.heap.IsSliceOf sl vl vu .none) (pl:IsPart vl (some (a:Int))) (pu:IsPart vu (some (c:Int))) (Ro:a<=c) (hc:c<=items.size)
 (hsz:items.size+new.size<=sizeLine) (h:Q () {s with heap:=s.heap.update l (Obj.mapSeq λxs=>xs.extract 0 a++new++xs.extract c xs.size)}) :
 wpAny (model prog w) A (setItem (.ref l) (.ref sl) (.ref b)) Q E s:=by
 have hl:s.heap.IsList l items:=PySem.IsL.isList e
 have hb:s.heap.IsList b new:=PySem.IsL.isList e2
 obtain⟨os,Ir,qA,LY⟩:=id hs
 have Rp:s.TypeIs (.ref sl) "slice":=⟨os,Ir,qA⟩
 have Cs:¬ ((rawPart none == rawInt 0)=true):=aax
 have Ct:Builtin.List.listSameRef (.ref l) (.ref b)=false:=by
  unfold Builtin.List.listSameRef
  exact abB.mpr h7
 have Uj:(max (a:Int) (c:Int)).toNat=c:=by omega
 have xj:((λxs:Array Value=>xs.extract 0 a++new++xs.extract c xs.size) items).size<=sizeLine+1:=by
  simp only[ae2,Array.size_extract]
  omega
 unfold setItem
 try with_reducible refine abq ?_
 first|refine aab (aaj ?_)|skip
 refine aab (wpAny_sequenceKey hl.typeIs (by decide) ?_)
 refine aab (abj (name:=Str.ofString "__setitem__") hl.typeIs slot_list_setitem
  (abv slot_list_setitem hl.typeIs entry_list_setitem ?_ (args_list_setitem _ _ _)))
 show wpAny _ _ (Builtin.List.listSubscript? (.ref sl) >>= _) _ _ s
 refine aab ?_
 unfold Builtin.List.listSubscript?
 refine aab (aeD Rp slice_no_index ?_)
 simp only[Option.isNone_none,adk]
 refine aaj ?_
 show wpAny _ _ (typeOf (.ref sl) >>= _) _ _ s
 refine aab (adt Rp ?_)
 first
  | rw[aaY (by decide)]
  | refine W.KFB.if_not (by decide) ?_
 rw[listSliceParts_eq]
 refine aab (aab (aa9 Ir LY (x:=.none) rfl (aab (aeR .none ?_))))
 rw[aaY Cs]
 refine aab (aa9 Ir LY (x:=vl) rfl (aab (aeR pl ?_)))
 refine aab (aa9 Ir LY (x:=vu) rfl (aab (aeR pu (aaj ?_))))
 first
  | simp only[Ct,acn,acX]
  | refine W.KFB.if_not Ct ?_
  | (dsimp only
     rw[aaY (by rw[Ct];exact aax)])
 refine aab (m:=Builtin.List.listAllItems (.ref b) "must assign iterable to extended slice") ?_
 unfold Builtin.List.listAllItems
 refine aab (adt hb.typeIs ?_)
 first
  | refine W.KFB.if_so (by decide) ?_
  | rw[aa4 (by decide)]
  | simp only[aeq,Bool.true_or,adk]
 unfold Builtin.List.listItems
 refine aab (abh e2 rfl (aaj ?_))
 refine aab (aab (abh e rfl (aaj ?_)))
 refine aab (wpAny_of_eq ((sliceIndices_raw (some (a:Int)) (some (c:Int)) none items.size (by simp)).trans (congrArg (pure:Int×Int×Int->Sem (Int×Int×Int)) (Cr Ro hc))) ?_)
 show wpAny _ _ (if ((1:Int) == 1)=true then _ else _) _ _ s
 rw[aa4 (by decide)]
 refine aab (ac6 ?_)
 first
  | simp only[oY hsz,acn,acX]
  | refine W.KFB.if_not (oY hsz) ?_
 first|refine aab (aaj ?_)|skip
 show wpAny _ _ (updateSeq l (λxs=>xs.extract 0 ((a:Int)).toNat++new++xs.extract (max (a:Int) (c:Int)).toNat xs.size) >>= _) _ _ s
 rw[Uj,ab1]
 refine aab (wpAny_updateSeq (hz:=aao (abm _ _) hsz) (_hz':=xj) e rfl ?_)
 refine aab (adl ?_)
 first
  | exact aab (aaj (aaj ⟨.none,rfl,aaj h⟩))
  | exact aaj ⟨.none,rfl,aaj h⟩
end
section
variable {X:Cx}
end
end L2
namespace Rq
open PySem PySem.W PySem.Calls PyProof.Rows
theorem uL{P:Params}{h:Heap} : ∀(ns:List Int) (vs:List Value),WellAll P h vs (ns.map WData.int)->IntsAre vs ns:=by
 intro ns
 induction ns with
 | nil=>
  intro vs w
  rw[ace]at w
  cases w
  exact .nil
 | cons n ns ih=>
  intro vs w
  rw[aay]at w
  cases w with
  | cons a b=>
   cases a
   exact .cons _ _ (ih _ b)
theorem Ej{l:OpenLaw}{n:Nat}(hn:l.most=some n){P:Params}{h:Heap}{args:List WData}{vals:List Value}
 (Cu:l.row.toRowW.claim.pre args=true) (xk:WellAll P h vals args) :
 ∃a vs ns,vals=[Value.ref a]/\args=[WData.list (ns.map WData.int)]/\h.get? a=some {cls:=.type "list",data:=.seq vs.toArray} /\ IntsAre vs ns/\ns.length<=n:=by
 have VG:WShape.hasAll [] args [.list .int]=true:=(pre_splitW Cu).1
 have hc:l.pre.holds [] {args:=args} = true:=(pre_splitW Cu).2
 obtain⟨d,r,rfl,h1,h2⟩:=hasAllW_cons VG
 obtain rfl:=hasAllW_nil h2
 obtain⟨xs,rfl,h3⟩:=hasW_list h1
 obtain⟨ns,rfl⟩:=items_int h3
 have hlen:ns.length<=n:=by
  unfold OpenLaw.pre at hc
  have h4:(WTm.not (.lt (.lit (.int (n:Int))) (.len (.arg 0)))).holds [] {args:=[.list (ns.map .int)] } = true:=by
   have h4:=(holds_andW hc).1
   rw[hn]at h4
   exact h4
  have h5:=condW_of h4 (w_not (w_lt w_lit (w_len_list (w_arg rfl))))
  rw[aaa]at h5
  refine Nat.le_of_not_lt λq=>?_
  have q':(n:Int)<((ns.length:Nat):Int):=by omega
  first
   | (rw[aaU q']at h5;exact absurd h5 (by decide))
   | (simp at h5;omega)
 cases xk with
 | cons w1 w2=>
  cases w2
  cases w1 with
  | list ho fE=>exact⟨_,_,ns,rfl,rfl,ho,uL ns _ fE,hlen⟩
theorem Ek(l:OpenLaw)(args:List WData):l.row.toRowW.claim.post args (.bool true) args=true:=
 postW_of (r:=l.row.toRowW) (X:=(true == true))
  (show WShape.has [] (.bool true) .bool=true by first|rfl|decide|simp[WShape.has,WShape.arms,WShape.armsAll])
  (show (WTm.eq .res (.lit (.bool true))).value [] {args:=args,res:=some (.bool true),after:=args} = some (.bool (true == true)) from w_eq_bool (w_res rfl) w_lit) rfl
theorem A0{l:OpenLaw}{n:Nat}{q:Program}{loose:List Str}{XP:(Str->Option Value)->Heap->Prop}{YP:World->Heap->Prop}{d:DefRec}
 (hn:l.most=some n) (yN:d.params.defaults=[])
 (call:∀(w:World) (lZ dQ:Shared) (mg mb:Str->Option Value) (fa:Addr) (o:Obj) (pm cd doc:Value) (a:Addr) (vs:List Value) (ns:List Int),
  Ground q loose [] XP w lZ mg mb dQ.heap->YP w dQ.heap->
  dQ.heap.get? fa=some o->o.data=.func (docDef d.name d.params d.body d.scope pm cd doc)->dQ.heap.CodeRec cd d.name->mg d.name=some (.ref fa)->
  dQ.heap.get? a=some {cls:=.type "list",data:=.seq vs.toArray} -> IntsAre vs ns->ns.length<=n->dQ.gens = #[]->
  codeAny (model l.prog w) callerA (.call (.ref fa) ⟨[.ref a],[]⟩) (λr s'=>r=.ok (.ret (.bool true))/\OldK dQ.heap s'.heap/\s'.os=dQ.os/\AllBare s'.gens) dQ) :
 WalkO q loose XP YP l.row.toRowW d [] (λf vs=>PySem.call f vs):=by
 intro w lZ dQ mg mb G Y fa o pm cd doc dV kV ho hd lh hD El hg args vals as Cu aaG hrd xk hlo
 obtain rfl:dV=.none:=Dflts.none hD yN
 obtain rfl:kV=.none:=Dflts.noKw hD
 obtain⟨a,vs,ns,rfl,rfl,GD,hints,hlen⟩:=Ej hn Cu xk
 refine enter_call (ad0 (call w lZ dQ mg mb fa o pm cd doc a vs ns G Y ho (fd_plain hd) lh El GD hints hlen hg) λr s' hq=>?_)
 obtain⟨rfl,h2,h3,h4⟩:=hq
 exact⟨.inl ⟨.bool true,.bool true,[],rfl,λ_=>rfl,.bool true,Ek l _,λ_=>⟨List.Pairwise.nil,λ_ hm=>(nomatch hm)⟩⟩,h2,h3,h4⟩
section
variable {prog:Program}{w:World}{A:Around}{E:Value->Shared->Prop}{s:Shared}{K:Frag}
end
end Rq
namespace L2
open PySem PySem.Spec PyProof.Rows
theorem xl:∀{vs:List Value}{ns:List Int},IntsAre vs ns->Vals (ns.map V.int) vs
 | _,_,.nil=>.nil
 | _,_,.cons n t h=>.cons ⟨t,rfl⟩ (xl h)
noncomputable def GF(H:Hp):Prop:=∀b,H b=none\/∃o xs,H b=some (.bK o (.lst xs))
theorem GG{P:Program}{w:World}{K:W.Frag}{mg mb:Str->Option Value}{CX:ng}{k:Nat}{fa a:Addr}{fd:FuncData}{x:Str}{sp:Sp}{dQ:Shared}{vs:List Value}{ns:List Int}
 (KX:K.In dQ.heap) (Rr:dQ.heap.Ns mainGlobals mg) (hb:dQ.heap.Ns builtinsNs mb) (VH:∀x:Str,x ≠ "__name__" -> mb x=bootBuiltins x) (Uk:dQ.heap.NoLimit) (hg:dQ.gens = #[])
 (ha:dQ.heap.get? a=some {cls:=.type "list",data:=.seq vs.toArray}) (hi:IntsAre vs ns) (hl:ns.length<=sizeLine) (hr:aW k callerA)
 (F:∀base:Heap,K.In base->base.Ns mainGlobals mg->aP P w K mg base CX k fa fd [x] sp) (Qm:∀(s:Shared) (u:Value),BindsTo s fd ⟨[u],[]⟩ [(x,u)])
 (lj:∀H:Hp,GF H->aq K H a (ns.map V.int)->sp [.ref a] H (λv _=>v=.bl true) λ_ _ _=>False)
 (LZ:∀H e s',CX [] H dQ (λ_ _ _=>False) e s'->False) :
 codeAny (model P w) callerA (.call (.ref fa) ⟨[.ref a],[]⟩) (λr s'=>r=.ok (.ret (.bool true))/\OldK dQ.heap s'.heap/\s'.os=dQ.os/\AllBare s'.gens) dQ:=by
 have rv:=xl hi
 have Ul:=hi.length
 have core:∀H:Hp,GF H->aq K H a (ns.map V.int)->eT P w H dQ.heap->(∀b,H b≠none->b=a)->(H a≠none->K.lookup a=none)->
  codeAny (model P w) callerA (.call (.ref fa) ⟨[.ref a],[]⟩) (λr s'=>r=.ok (.ret (.bool true))/\OldK dQ.heap s'.heap/\s'.os=dQ.os/\AllBare s'.gens) dQ:=by
  intro H hO hS hok hA hK
  have Bo:∀{b:Addr}{o:Obj},dQ.heap.get? b=some o->H b=none->(oS dQ.heap H).get? b=some o:=λe n=>Gk e n
  have Eb:∀{b:Addr}{o:Obj}{es:Array DictEntry}{ep:Nat},dQ.heap.get? b=some o->o.data=.dict es ep->H b=none:=λ{b o es ep} e d=>by
   cases q:H b with
   | none=>rfl
   | some u=>
    have e':b=a:=hA b (by rw[q];simp)
    subst e'
    rw[ha]at e;cases e
    have d':Data.seq vs.toArray _=Data.dict es ep:=d
    cases d'
  have Iu:∀{b:Addr}{m:Str->Option Value},dQ.heap.Ns b m->(oS dQ.heap H).Ns b m:=λ{b m} ⟨o,es,ep,e,d,r⟩=>⟨o,es,ep,Bo e (Eb e d),d,r⟩
  have Rt:K.In (oS dQ.heap H):=λb o e=>Bo (KX b o e) (by
   cases q:H b with
   | none=>rfl
   | some u=>
    have e':b=a:=hA b (by rw[q];simp)
    subst e'
    rw[hK (by rw[q];simp)]at e;cases e)
  have hM:Mod K mg (oS dQ.heap H):=⟨Rt,Iu Rr,⟨mb,Iu hb,VH⟩,let ⟨mc,h1,h2⟩:=Uk; ⟨mc,Iu h1,h2⟩⟩
  have e0:mx P w K mg (oS dQ.heap H) callerA [] dQ H:=⟨rfl,hM,λb o e=>JV e,ab5 (DS _ _),trivial,λb hb=>absurd (show b∈([]:List Addr) from hb) (by simp),hok,.of_eq hg⟩
  refine ad0 ((F _ Rt (Iu Rr)).run callerA [] dQ H ⟨[.ref a],[]⟩ [.ref a] [.ref a] _ _ hr e0 (Qm dQ (.ref a)) (.cons rfl .nil) (lj H hO hS)) λr s' h=>?_
  cases r with
  | error e=>exact(LZ H e s' h).elim
  | ok fl=>
   cases fl with
   | next=>exact False.elim h
   | brk=>exact False.elim h
   | cont=>exact False.elim h
   | ret u=>
    obtain⟨v,H',os,bare,un,Um,r',q⟩:=h
    have q':v=.bl true:=q
    subst q'
    obtain rfl:u=Value.bool true:=r'
    refine⟨rfl,OldK.of_keep λb o e=>?_,os,bare⟩
    cases q:H b with
    | none=>exact un.keep b o e q (by intro z;exact absurd (show b∈([]:List Addr) from z) (by simp)) (by simp)
    | some u=>
     rcases hO b with z|⟨ob,xs,z⟩
     . rw[q]at z;cases z
     . have z2:=un.frzs b ob _ z
       obtain⟨e1,_⟩:=hok b _ z
       obtain⟨e2,_⟩:=Um b _ z2
       rw[e]at e1;cases e1
       exact e2
 cases hk:K.lookup a with
 | some o=>
  have e:=KX a o hk
  rw[ha]at e
  cases e
  refine core (λ_=>none) (λ_=>.inl rfl) (.inr ⟨_,vs.toArray,_,hk,rfl,rfl,rfl,by rw[aar,Ul];exact hl,by simpa using rv⟩) (λb u z=>by have z':(none:Option HO)=some u:=z;cases z') (λb z=>absurd rfl z) λz=>absurd rfl z
 | none=>
  refine core (λb=>if b=a then some (.bK {cls:=.type "list",data:=.seq vs.toArray} (.lst (ns.map V.int))) else none) (λb=>?_) (.inl (.inr ⟨{cls:=.type "list",data:=.seq vs.toArray},aa4 rfl⟩)) (λb u z=>?_) (λb z=>?_) λ_=>hk
  . by_cases hb:b=a
    . exact .inr ⟨_,_,aa4 hb⟩
    . exact .inl (aaY hb)
  . by_cases hb:b=a
    . have z':=(aa4 hb).symm.trans z
      cases z'
      subst hb
      exact⟨ha,by rw[aaa];exact hl,vs,_,rv,ha⟩
    . have z':=(aaY hb).symm.trans z
      cases z'
  . by_cases hb:b=a
    . exact hb
    . exact absurd (aaY hb) z
theorem Kl{l:W.OpenLaw}{n k:Nat}{q:Program}{loose:List Str}{XP:(Str->Option Value)->Heap->Prop}{YP:World->Heap->Prop}{d:DefRec}{K:Params->W.Frag}{CX:World->ng}{sp:World->Sp}{x:Str}
 (hn:l.most=some n) (jW:n<=sizeLine) (yN:d.params.defaults=[]) (hr:aW k callerA)
 (hY:∀(w:World) (h:Heap),YP w h->(K w.params).In h)
 (F:∀(w:World) (mg:Str->Option Value) (fa:Addr) (h:Heap),(K w.params).In h->h.Ns mainGlobals mg->mg d.name=some (.ref fa)->
  ∃fd:FuncData,(∀(s:Shared) (u:Value),BindsTo s fd ⟨[u],[]⟩ [(x,u)])/\
   ∀base:Heap,(K w.params).In base->base.Ns mainGlobals mg->aP l.prog w (K w.params) mg base (CX w) k fa fd [x] (sp w))
 (lj:∀(w:World) (H:Hp) (a:Addr) (ns:List Int),ns.length<=n->GF H->aq (K w.params) H a (ns.map V.int)->sp w [.ref a] H (λv _=>v=.bl true) λ_ _ _=>False)
 (LZ:∀(w:World) (H:Hp) (s:Shared) (e:Value) (s':Shared),CX w [] H s (λ_ _ _=>False) e s'->False) :
 W.WalkO q loose XP YP l.row.toRowW d [] (λf vs=>PySem.call f vs):=by
 refine Rq.A0 hn yN λw lZ dQ mg mb fa o pm cd doc a vs ns G Y ho hd lh El GD hints hlen hg=>?_
 have KX:=hY w _ Y
 obtain⟨fd,hb,hF⟩:=F w mg fa _ KX G.T.g El
 exact GG KX G.T.g G.T.b G.T.builtins G.T.nolimit hg GD hints (aao hlen jW) hr hF hb (λH hO hS=>lj w H a ns hlen hO hS) λH e s'=>LZ w H dQ e s'
noncomputable def inClass(s:Stmt)(j:Nat):Stmt:=match s with
 | .ClassDef _ _ _ body _ _ _ _ _ _ _=>body.getD j (.Pass ⟨0,0,0,0⟩)
 | _=>.Pass ⟨0,0,0,0⟩
noncomputable def iY(s:Stmt):Arguments:=match s with
 | .FunctionDef _ a _ _ _ _ _ _ _ _=>a
 | _=>{posonlyargs:=[],args:=[],vararg:=none,kwonlyargs:=[],kw_defaults:=[],kwarg:=none,defaults:=[] }
noncomputable def cu(s:Stmt):List Stmt:=match s with
 | .FunctionDef _ _ b _ _ _ _ _ _ _=>b
 | _=>[]
noncomputable def aw(s:Stmt):Scope:=match s with
 | .FunctionDef _ _ _ _ _ _ sc _ _ _=>sc
 | _=>{kind:=.function,names:=[],isGenerator:=false,isCoroutine:=false}
noncomputable abbrev aZ:ng:=λ_ _ _ _ _ _=>False
noncomputable abbrev E0:XK:=λ_ _ _=>False
theorem bw{X:Cx} : Passes aZ X E0:=λ_ _ _ _ _ _ _ h=>h.elim
structure aQ(K:W.Frag) (x qual:Str) (st:Stmt) (f:Addr) (fd:FuncData):Prop where
 ex:∃(oc:Value) (od:Option Addr) (kV doc pm:Value) (an:Option Addr) (cdv ct:Value) (qr:Array (Option Value)),
  fd=W.fnOf x qual (iY st) (cu st) (aw st) .none kV doc pm an cdv ct/\K.lookup f=some ⟨oc,od,.func fd,qr⟩/\W.codeIn K cdv qual=true
 kp:W.keepIn K (.ref f)=true
section
variable {P:Program}{w:World}{K:W.Frag}{mg:Str->Option Value}{base:Heap}
theorem aQ.ok{x qual:Str}{st:Stmt}{f:Addr}{fd:FuncData}{N ps:List Str}{k:Nat}{sp:Sp}(F:aQ K x qual st f fd) (S:aK N ps (aw st)) (len:∀vs H Q E,sp vs H Q E->vs.length=ps.length)
 (jZ:∀(cdv:Value) (A:Around) (outer:List Env) (s:Shared) (H:Hp) (vs:List V) (Q:VK) (E:XK),aW k (A.deeper (envOfC qual (aw st) s.heap.objs.size f cdv))->sp vs H Q E->
  ∃t,gj (jj aZ P w K mg base N qual (aw st) f cdv A outer s H E).m8 (cu st) t/\t {nx:=λ_ H'=>Q .aM H',rt:=Q} (start N vs) H):aP P w K mg base aZ (k+1) f fd ps sp:=by
 obtain⟨oc,od,kV,doc,pm,an,cdv,ct,qr,rfl,lk,lh⟩:=F.ex
 refine Qh lk lh S len λA outer s H vs Q E hr lj=>?_
 obtain⟨t,h,q⟩:=jZ cdv A outer s H vs Q E hr lj
 exact⟨t,h.m8,q⟩
theorem aQ.binds{x qual:Str}{st:Stmt}{f:Addr}{fd:FuncData}{ps:List Str}(F:aQ K x qual st f fd)
 (h:∀(kV doc pm:Value) (an:Option Addr) (cdv ct:Value) (us:List Value),us.length=ps.length->bindArgs (W.fnOf x qual (iY st) (cu st) (aw st) .none kV doc pm an cdv ct) ⟨us,[]⟩=pure (ps.zip us)):Binds K fd ps []:=by
 obtain⟨oc,od,kV,doc,pm,an,cdv,ct,qr,rfl,lk,lh⟩:=F.ex
 exact .all (h kV doc pm an cdv ct)
theorem L0{x qual:Str}{st:Stmt}{f:Addr}{oc:Value}{od an:Option Addr}{qr:Array (Option Value)}{kV doc pm cdv ct:Value}(l:K.lookup f=some ⟨oc,od,.func (W.fnOf x qual (iY st) (cu st) (aw st) .none kV doc pm an cdv ct),qr⟩)
 (c:W.codeIn K cdv qual=true) (k:W.keepIn K (.ref f)=true):aQ K x qual st f (W.fnOf x qual (iY st) (cu st) (aw st) .none kV doc pm an cdv ct):=⟨⟨oc,od,kV,doc,pm,an,cdv,ct,qr,rfl,l,c⟩,k⟩
end
theorem eE{A:Around}{k:Nat}(hr:aW k A):A.units+1<cLine:=abU (ac2 (by decide:1<=64) _) hr.units
theorem xm{n:Nat}(h:n<=1000):n<sizeLine:=abU h (by decide)
section
variable {X:Cx}
theorem pv(i:Nat){x:Str}{pos:Pos}(hN:X.N[i]?=some x:=by rfl) (hv:Lw X.env.scope x:=by first|exact Or.inl rfl|exact Or.inr (Or.inl rfl)|exact Or.inr (Or.inr rfl)) (hd:(x == ("__debug__" : Str))=false:=by decide)
 (lh:(x == ("__classdict__" : Str))=false:=by decide):PE X (.Name x pos) (aL i):=Lx hN hv hd lh
end
theorem bQ{A B:Prop}(h:B):if false=true then A else B:=by
 rw[aaY aax]
 exact h
theorem fJ{A B:Prop}(h:A):if true=true then A else B:=by
 rw[aa4 rfl]
 exact h
theorem j3{c A B:Prop}[Decidable c] (h1:c->A) (h2:¬ c->B):if c then A else B:=by
 by_cases h:c
 . rw[aa4 h]
   exact h1 h
 . rw[aaY h]
   exact h2 h
noncomputable def ag(H H':Hp):Prop:=∀b o,H b=some o->H' b=some o
theorem ag.trans{H H1 H2:Hp}(a:ag H H1)(b:ag H1 H2):ag H H2:=λc o h=>b c o (a c o h)
theorem ag.free{H H':Hp}(e:ag H H'){l:Addr}(h:H' l=Option.none):H l=Option.none:=by
 cases q:H l with
 | none=>rfl
 | some o=>
  rw[e l o q]at h
  cases h
theorem ag.seq{K:W.Frag}{H H':Hp}{a:Addr}{xs:List V}(e:ag H H')(h:aq K H a xs):aq K H' a xs:=by
 rcases h with (h|⟨o,h⟩)|h
 . exact .inl (.inl (e _ _ h))
 . exact .inl (.inr ⟨o,e _ _ h⟩)
 . exact .inr h
section
variable {X:Cx}
end
end L2
set_option maxHeartbeats 4000000
namespace L2
open PySem PySem.Spec PyProof.Rows
theorem oZ(f:Str×NameKind->List (Str×Addr)->Sem (ForInStep (List (Str×Addr))))
 (hf:∀n k cs,f (n,k) cs=if (k == NameKind.free)=true then (cellOf env n >>= λa=>pure (ForInStep.yield ((n,a)::cs))) else pure (ForInStep.yield cs)) :
 ∀(names:List (Str×NameKind)) (acc:List (Str×Addr)),(∀x∈names,x.2=NameKind.free->∃c,env.cells.lookup x.1=some c)->(∀x c,acc.lookup x=some c->env.cells.lookup x=some c)->
  ∃cl,forIn names acc f=(pure cl:Sem (List (Str×Addr)))/\(∀x c,cl.lookup x=some c->env.cells.lookup x=some c)/\(∀x c,acc.lookup x=some c->∃c',cl.lookup x=some c')/\∀x∈names,x.2=NameKind.free->∃c,cl.lookup x.1=some c
 | [],acc,_,ha=>⟨acc,by simp,ha,λx c e=>⟨c,e⟩,λx hx=>by simp at hx⟩
 | (n,k)::r,acc,hn,ha=>by
  have uz:∀x∈r,x.2=NameKind.free->∃c,env.cells.lookup x.1=some c:=λx hx=>hn x (aaz _ hx)
  cases hk:k == NameKind.free with
  | false=>
   obtain⟨cl,e,h1,h2,h3⟩:=oZ f hf r acc uz ha
   refine⟨cl,?_,h1,h2,λx hx hz=>?_⟩
   . rw[abQ,hf,hk,aaY aax,pure_bind]
     exact e
   . rcases aal.mp hx with z|hx
     . subst z
       have xj:k=NameKind.free:=hz
       rw[xj]at hk
       exact absurd hk (by decide)
     . exact h3 x hx hz
  | true=>
   have kc:k=NameKind.free:=by cases k <;> first|rfl|exact absurd hk (by decide)
   obtain⟨c,hc⟩:=hn (n,k) aaR kc
   have bY:env.cells.lookup n=some c:=hc
   obtain⟨cl,e,h1,h2,h3⟩:=oZ f hf r ((n,c)::acc) uz (λx d ed=>by
    rw[acD]at ed
    cases hx:x == n with
    | true=>
     rw[hx]at ed
     rw[eq_of_beq hx,bY]
     exact ed
    | false=>
     rw[hx]at ed
     exact ha x d ed)
   have lx:∃c',cl.lookup n=some c':=h2 n c (by rw[acD,aeq])
   refine⟨cl,?_,h1,λx d ed=>?_,λx hx hz=>?_⟩
   . rw[abQ,hf,hk,aa4 rfl]
     unfold cellOf
     rw[bY]
     rw[pure_bind,pure_bind]
     exact e
   . cases hx:x == n with
     | true=>
      rw[eq_of_beq hx]
      exact lx
     | false=>
      refine h2 x d ?_
      rw[acD,hx]
      exact ed
   . rcases aal.mp hx with z|hx
     . subst z
       exact lx
     . exact h3 x hx hz
theorem vP(h:∀x∈scope.names,x.2=NameKind.free->∃c,env.cells.lookup x.1=some c) :
 ∃cl,closureFor scope env=pure cl/\(∀x c,cl.lookup x=some c->env.cells.lookup x=some c)/\∀x∈scope.names,x.2=NameKind.free->∃c,cl.lookup x.1=some c:=by
 obtain⟨cl,e,h1,_,h3⟩:=oZ (env:=env) (λp cs=>if (p.2 == NameKind.free)=true then (cellOf env p.1 >>= λa=>pure (ForInStep.yield ((p.1,a)::cs))) else pure (ForInStep.yield cs)) (λn k cs=>rfl) scope.names [] h (λx c z=>by simp at z)
 refine⟨cl,?_,h1,h3⟩
 have key:closureFor scope env=(forIn scope.names ([]:List (Str×Addr)) (λ(p:Str×NameKind) cs=>if (p.2 == NameKind.free)=true then (cellOf env p.1 >>= λa=>pure (ForInStep.yield ((p.1,a)::cs))) else pure (ForInStep.yield cs)) >>= λcs=>pure cs):=rfl
 rw[key,e,pure_bind]
theorem lookup_mem{names:List (Str×NameKind)}{x:Str}{k:NameKind}(h:names.lookup x=some k):(x,k)∈names:=by
 induction names with
 | nil=>simp at h
 | cons p r ih=>
  obtain⟨n,j⟩:=p
  rw[acD]at h
  cases hx:x == n with
  | true=>
   rw[hx]at h
   have e:j=k:=aaS h
   rw[eq_of_beq hx,e]
   exact aaR
  | false=>
   rw[hx]at h
   exact aaz _ (ih h)
noncomputable def nO(env:Env)(p:Str×NameKind):Str×NameKind:=if (p.2 == NameKind.free && env.scope.kind == .function && env.kindOf p.1 == some .cell) then (p.1,.cell) else p
theorem pV(scope:Scope)(env:Env):(relabel scope env).names=scope.names.map (nO env):=rfl
theorem nP:∀(names:List (Str×NameKind)) (x:Str),(names.map (nO env)).lookup x=(names.lookup x).map λk=>(nO env (x,k)).2
 | [],x=>rfl
 | (n,k)::r,x=>by
  rw[aay]
  have e1:(nO env (n,k)).1=n:=by unfold nO;split <;> rfl
  have:nO env (n,k)=(n,(nO env (n,k)).2):=Prod.ext e1 rfl
  rw[this,acD,acD]
  cases hx:x == n with
  | true=>
   rw[eq_of_beq hx]
   rfl
  | false=>exact nP r x
theorem GH(h:scope.names.lookup x=some .free):(relabel scope env).names.lookup x=some .cell\/(relabel scope env).names.lookup x=some .free:=by
 rw[pV,nP,h]
 unfold nO
 simp only[Option.map_some]
 split
 . exact .inl rfl
 . exact .inr rfl
theorem Cv(h:(relabel scope env).names.lookup x=some .cell\/(relabel scope env).names.lookup x=some .free):scope.names.lookup x=some .free\/scope.names.lookup x=some .cell:=by
 rw[pV,nP]at h
 cases e:scope.names.lookup x with
 | none=>rw[e]at h;rcases h with h|h <;> cases h
 | some k=>
  rw[e]at h
  simp only[Option.map_some,Option.some.injEq]at h
  by_cases hf:k=.free
  . rw[hf];exact .inl rfl
  . have hb:(k == NameKind.free)=false:=by cases k <;> first|rfl|exact absurd rfl hf
    have:(nO env (x,k)).2=k:=by
     unfold nO
     simp[hb]
    rw[this]at h
    rcases h with h|h
    . rw[h];exact .inr rfl
    . exact absurd h hf
noncomputable def iA(X:Cx)(N:List Str)(scope:Scope) (cl:List (Str×Addr)) (C:Addr) (s:Shared) (H:Hp) (fp:List Addr) (pn:List (Addr×Obj)):Cx where
 prog:=X.prog
 w:=X.w
 K:=X.K
 mg:=X.mg
 base:=X.base
 A:=X.A
 N:=N
 lZ:=s
 yf:=H
 env:=compEnvC scope cl C X.env
 outer:=X.stack
 stack:=X.stack
 ex:=fp
 fn:=λ_=>false
 calm:=true
 pn:=pn
 xe:=λ_ _=>False
noncomputable abbrev xo(X:Cx)(N:List Str)(scope:Scope)(f:Str->Bool) (cl:List (Str×Addr)) (C:Addr) (s:Shared) (H:Hp) (fp:List Addr) (pn:List (Addr×Obj)):Cx:={iA X N scope cl C s H fp pn with fn:=f}
structure jn(X:Cx) (N:List Str) (js:List (Option Nat)) (scope:Scope) (ys:List Str:=[]):Prop where
 kind:scope.kind=.function
 one:(scope.names.filter λp=>p.2 == .cell).map (·.1)=ys
 at_:∀y∈scope.names,y.2=.local\/y.2=.cell->scope.names.lookup y.1=some y.2
 frees:∀y∈scope.names,y.2=.free->X.env.kindOf y.1=some .cell\/X.env.kindOf y.1=some .free
 len:js.length=N.length
 pull:∀(i j:Nat) (x:Str),js[i]?=some (some j)->N[i]?=some x->X.N[j]?=some x/\scope.names.lookup x=some .free
noncomputable def gq(xn:List Str) (names:List (Str×NameKind)):List Str->List (Option Nat)->Bool
 | [],[]=>true
 | _::N,none::js=>gq xn names N js
 | x::N,some j::js=>(match xn[j]? with|some y=>decide (y=x)|none=>false) && (match names.lookup x with|some .free=>true|_=>false) && gq xn names N js
 | _,_=>false
theorem o7:∀{N:List Str}{js:List (Option Nat)},gq xn names N js=true->js.length=N.length
 | [],[],_=>rfl
 | x::N,none::js,h=>by
  have:=o7 (N:=N) (js:=js) (by simpa[gq]using h)
  simp[this]
 | x::N,some j::js,h=>by
  have h':gq xn names N js=true:=by
   simp only[gq,abu]at h
   exact h.2
  simp[o7 h']
 | [],_::_,h=>by simp[gq]at h
 | _::_,[],h=>by simp[gq]at h
theorem qB:∀{N:List Str}{js:List (Option Nat)},gq xn names N js=true->∀(i j:Nat) (x:Str),js[i]?=some (some j)->N[i]?=some x->xn[j]?=some x/\names.lookup x=some .free
 | [],[],_,i,j,x,e,_=>by simp at e
 | y::N,none::js,h,i,j,x,e1,e2=>by
  cases i with
  | zero=>simp at e1
  | succ i=>
   exact qB (N:=N) (js:=js) (by simpa[gq]using h) i j x (by simpa using e1) (by simpa using e2)
 | y::N,some j'::js,h,i,j,x,e1,e2=>by
  simp only[gq,abu]at h
  obtain⟨⟨h1,h2⟩,h3⟩:=h
  cases i with
  | zero=>
   have ej:j'=j:=by simpa using e1
   have ey:y=x:=by simpa using e2
   subst ej ey
   constructor
   . cases q:xn[j']? with
     | none=>rw[q]at h1;cases h1
     | some z=>
      rw[q]at h1
      rw[aba h1]
   . cases q:names.lookup y with
     | none=>rw[q]at h2;cases h2
     | some k=>
      rw[q]at h2
      cases k <;> first|rfl|cases h2
  | succ i=>exact qB h3 i j x (by simpa using e1) (by simpa using e2)
 | [],_::_,h,_,_,_,_,_=>by simp[gq]at h
 | _::_,[],h,_,_,_,_,_=>by simp[gq]at h
noncomputable def isFn:ScopeKind->Bool
 | .function=>true
 | _=>false
noncomputable def uM(xn:List Str) (xs:List (Str×NameKind)) (N:List Str) (js:List (Option Nat)) (scope:Scope) (ys:List Str:=[]):Bool:=
 isFn scope.kind && decide ((scope.names.filter λp=>p.2 == .cell).map (·.1)=ys) && (scope.names.all λy=>match y.2 with
  | .cell=>(match scope.names.lookup y.1 with|some .cell=>true|_=>false)
  | .local=>(match scope.names.lookup y.1 with|some .local=>true|_=>false)
  | .free=>(match xs.lookup y.1 with|some .cell=>true|some .free=>true|_=>false)
  | _=>true) && gq xn scope.names N js
theorem jn.of(h:uM X.N X.env.scope.names N js scope ys=true):jn X N js scope ys:=by
 unfold uM at h
 simp only[abu,abK,abb]at h
 obtain⟨⟨⟨h1,h0⟩,h2⟩,h3⟩:=h
 refine⟨?_,h0,λy hy e=>?_,λy hy e=>?_,o7 h3,qB h3⟩
 . cases q:scope.kind <;> rw[q]at h1 <;> first|rfl|cases h1
 . have:=h2 y hy
   rcases e with e|e <;> rw[e]at this ⊢
   all_goals
    cases q:scope.names.lookup y.1 with
    | none=>rw[q]at this;cases this
    | some k=>rw[q]at this;cases k <;> first|rfl|cases this
 . have:=h2 y hy
   rw[e]at this
   show X.env.scope.names.lookup y.1=some .cell\/X.env.scope.names.lookup y.1=some .free
   cases q:X.env.scope.names.lookup y.1 with
   | none=>rw[q]at this;cases this
   | some k=>rw[q]at this;cases k <;> first|exact .inl rfl|exact .inr rfl|cases this
theorem jn.names(S:jn X N js scope ys):∀y∈scope.names,y.2=.local->scope.names.lookup y.1=some .local:=λy hy e=>by
 rw[S.at_ y hy (.inl e),e]
theorem jn.mem(S:jn X N js scope ys)(hy:y∈scope.names)(e:y.2=.cell):y.1∈ys:=by
 rw[← S.one]
 exact List.mem_map_of_mem (aap.mpr ⟨hy,by rw[e];rfl⟩)
theorem jn.Em(S:jn X N js scope):∀y∈scope.names,y.2≠.cell:=λy hy e=>by cases S.mem hy e
noncomputable def o8(js:List (Option Nat)) (σ:St):St:=js.map λoj=>match oj with|none=>none|some j=>(σ[j]?).getD none
section
variable {X:Cx}{pins:List (Addr×Obj)}{σ:St}{H:Hp}{s:Shared}
theorem Inv.enter{f:Str->Bool}(I:Inv X pins σ H s)(S:jn X N js scope ys)(hc:X.calm=true)(nf:∀x,scope.names.lookup x=some .free->f x=false)(one:∀x z,f x=true->f z=true->x=z)
 (ja:∀x c,cl.lookup x=some c->(f x=true/\c=C+1/\h'.IsCell c none)\/(f x=false/\X.env.cells.lookup x=some c)) (En:∀x,scope.names.lookup x=some .free\/scope.names.lookup x=some .cell->∃c,cl.lookup x=some c) (hC:C=s.heap.objs.size)
 (hf:∀b∈fp,iK X pins H b) (hl:∀b∈fp,b<s.heap.objs.size) (hn:h'.Ns C m) (k:∀b o,s.heap.get? b=some o->h'.get? b=some o) :
 Inv (xo X N scope f cl C s H fp (X.pn++pins)) [] (o8 js σ) H {s with heap:=h',toks:=tk}:=by
 have lt:∀b o,s.heap.get? b=some o->b≠C:=λb o e=>by
  rw[hC]
  exact aaw (aam e)
 have Ru:∀x c,X.env.cells.lookup x=some c->c≠C+1:=λx c e=>by
  obtain⟨v,o,ho,_⟩:=I.cell x c e
  rw[hC]
  exact aaw (acP (aam ho))
 have stk:∀b,b≠X.env.locals->b∉X.fs->b∉pP X.stack:=λb h1 h2 z=>(aal.mp (I.uy b z)).elim h1 h2
 have ok:(xo X N scope f cl C s H fp (X.pn++pins)).Ok:=by
  refine⟨I.ok.mod,S.kind,I.ok.glob,I.ok.blt,ab5 hC.symm,λx z c e1 e2=>?_,λx hx=>En x (Cv hx),λx c e e1=>?_,λ_=>I.ok.hd hc,
   I.ok.frames,.inl rfl,λb hb=>⟨?_,λx c e=>?_⟩,I.bs,aao I.ok.bsz I.sz,λb o e hb=>?_,λb hb=>stk b (hf b hb).2.1 (hf b hb).2.2.1,I.stack,I.Bf⟩
  . rcases ja x c e1 with⟨r1,r2,_⟩|⟨r1,r2⟩ <;> rcases ja z c e2 with⟨q1,q2,_⟩|⟨q1,q2⟩
    . exact one x z r1 q1
    . exact absurd r2 (Ru z c q2)
    . exact absurd q2 (Ru x c r2)
    . exact I.ok.inj x z c r2 q2
  . rcases ja x c e1 with⟨_,r2,_⟩|⟨r1,_⟩
    . rw[r2,hC];exact ac1 _
    . rw[show f x=true from e]at r1;cases r1
  . show b≠C
    rw[hC]
    exact aaw (hl b hb)
  . rcases ja x c e with⟨_,r2,_⟩|⟨_,r2⟩
    . rw[r2,hC];exact abc (acP (hl b hb))
    . exact(hf b hb).2.2.2.2.1 x c r2
  . rcases (hf b hb).2.2.2.1 with z|z
    . exact I.ok.noex b o e z
    . exact absurd (aaV (aam e) (aao I.ok.bsz z)) (abT _)
 refine⟨ok,rfl,I.bare,Un.kept k,⟨m,hn,λi x v e1 e2 e3=>?_⟩,λx c e=>?_,?_,λx c e=>?_,λp hp=>?_,I.hok.kept k,?_⟩
 . -- a name that the block closes over
   have sO:(o8 js σ)[i]?=some (some v):=e2
   unfold o8 at sO
   rw[aan]at sO
   cases q:js[i]? with
   | none=>rw[q]at sO;cases sO
   | some oj=>
    rw[q]at sO
    cases oj with
    | none=>cases sO
    | some j=>
     have ev:(σ[j]?).getD none=some v:=aaS sO
     have VI:σ[j]?=some (some v):=by
      cases z:σ[j]? with
      | none=>rw[z]at ev;cases ev
      | some o=>rw[z]at ev;exact congrArg some ev
     obtain⟨n1,n2⟩:=S.pull i j x q e1
     obtain⟨c,bY⟩:=En x (.inl n2)
     have VJ:X.env.cells.lookup x=some c:=by
      rcases ja x c bY with⟨z,_⟩|⟨_,z⟩
      . rw[nf x n2]at z;cases z
      . exact z
     obtain⟨m0,_,uN⟩:=I.loc
     have kx:=S.frees (x,.free) (lookup_mem n2) rfl
     have Rv:X.env.kindOf x=some .cell\/X.env.kindOf x=some .free:=kx
     obtain⟨u,ru,lk⟩:=uN j x v n1 VI (Rv.elim (λz=>.inr (.inl z)) λz=>.inr (.inr z))
     refine⟨u,ru,.inr ⟨GH n2,c,bY,?_⟩⟩
     rcases lk with⟨kl,_⟩|⟨_,c2,e2,ic⟩
     . rcases Rv with z|z <;> (rw[kl]at z;cases z)
     . rw[VJ]at e2
       cases e2
       obtain⟨o,ho,hd⟩:=ic
       exact⟨o,k c o ho,hd⟩
 . rcases ja x c e with⟨_,_,r2⟩|⟨_,r2⟩
   . exact⟨none,r2⟩
   . obtain⟨v,o,ho,hd⟩:=I.cell x c r2
     exact⟨v,o,k c o ho,hd⟩
 . show H C=none
   rw[hC]
   exact I.hok.fresh (aah _)
 . rcases ja x c e with⟨_,r2,_⟩|⟨_,r2⟩
   . rw[r2,hC];exact I.hok.fresh (ac1 _)
   . exact I.freeC x c r2
 . have yO:p∈X.pn++pins:=by simpa[iA]using hp
   obtain⟨e,n,ne,nf,d⟩:=I.pin p yO
   exact⟨k _ _ e,n,lt _ _ e,stk _ ne nf,d⟩
 . show (o8 js σ).length=N.length
   unfold o8
   rw[aaa]
   exact S.len
theorem Inv.left{f:Str->Bool}(I:Inv X pins σ H s)(hf:∀b∈fp,iK X pins H b)
 (J:Inv (xo X N scope f cl C s H fp pn) [] σc H' s'):Inv X pins σ H' s':=
 I.P7 (ch:=fp) J.os J.base J.hok J.bare λb hb=>⟨(hf b hb).2.2.2.1,(hf b hb).2.1,(hf b hb).2.2.2.2.1,(hf b hb).2.2.2.2.2⟩
end
noncomputable def vQ(X:Cx)(ifs:List Expr)(t:TT):Prop:=
 ∀(pins:List (Addr×Obj)) (s:Shared) (σ:St) (H:Hp) (Q:Bool->Hp->Prop),Inv X pins σ H s->t σ H Q->
  wpAny (model X.prog X.w) X.A (forIn ifs true λc r=>if r=true then do let ok ← isTrue c X.env (eval c X.env);pure (ForInStep.yield ok) else pure (ForInStep.yield r)) (TP X pins σ Q) X.xe s
noncomputable def vR:TT:=λ_ H Q=>Q true H
theorem bb:vQ X [] vR:=λpins s σ H Q I h=>by
 rw[acf]
 exact aaj ⟨H,I,h⟩
theorem eQ(hc:PT X c t):vQ X [c] t:=λpins s σ H Q I h=>by
 rw[abQ]
 refine aab ?_
 rw[aa4 rfl]
 refine aab (aC (hc pins s σ H Q I h) λb s1 h1=>?_)
 refine aaj ?_
 show wpAny _ _ (forIn [] b _) _ _ _
 rw[acf]
 exact aaj h1
theorem yP(I:Nat->Shared->Prop)
 (turn:∀n s,I n s->wpAny (model prog w) A (pyNext it) (λr dQ=>match r with
  | none=>R (.ok .next) dQ
  | some v=>wpAny (model prog w) A (letOwnedTupleGo target it v) (λ_ Rx=>wpAny (model prog w) A (assign target env v) (λ_ vI=>
   wpAny (model prog w) A (forIn ifs true λc r=>if r=true then do let ok ← isTrue c env (eval c env);pure (ForInStep.yield ok) else pure (ForInStep.yield r)) (λok Ke=>
    if ok=true then wpAny (model prog w) A (eval elt env) (λx VL=>
     wpAny (model prog w) A (call (.builtin "list.append") [acc,x]) (λ_ VM=>∃m,m<n/\I m VM) (λ_ _=>False) VL) (λ_ _=>False) Ke
    else ∃m,m<n/\I m Ke) (λ_ _=>False) vI) (λ_ _=>False) Rx) (λ_ _=>False) dQ) (λ_ _=>False) s)
 (n:Nat) (h:I n s) :
 codeAny (model prog w) A (.compLoop (.ListComp elt [⟨target,iter,ifs,0⟩] scope pos) 0 it acc env) R s:=by
 refine codeAny_loop rfl I (λn s hI=>?_) n h
 show wpAny _ A ((compTurn (.ListComp elt [⟨target,iter,ifs,0⟩] scope pos) 0 it acc env).onRaise (λx=>do noteFrame x env;theTreesLotGoes x)) _ _ s
 refine wpAny_noted ?_
 rw[compTurn_list]
 refine aab (aeh (aab (ab0 (turn n s hI) (λr dQ h₁=>?_) λ_ _ h'=>h'.elim)))
 cases r with
 | none=>exact aaj h₁
 | some v=>
  refine aab (ab0 h₁ (λ_ Rx VN=>?_) λ_ _ h'=>h'.elim)
  refine aab (ab0 VN (λ_ vI ko=>aab (ab0 ko (λok Ke kq=>?_) λ_ _ h'=>h'.elim)) λ_ _ h'=>h'.elim)
  cases ok with
  | false=>exact aaj ⟨rfl,kq⟩
  | true=>
   exact aab (aab (ab0 kq (λx VL vS=>aab (ab0 vS (λ_ VM gf=>aaj (aaj ⟨rfl,gf⟩)) λ_ _ h'=>h'.elim)) λ_ _ h'=>h'.elim))
noncomputable def qC(D:Addr)(g:TG)(ti:TT)(te:TE)(J:It)(W:Nat->Nat->St->Hp->Prop)(Q:Hp->Prop):Prop:=∀i m σ H,W i m σ H->
 (J.stop i H/\Q H)\/(J.go i H/\∀x H',J.yld i H x H'->g x σ H' λeU H2=>ti eU H2 λb H3=>
  if b=true then te eU H3 λy H4=>∃acc,H4 D=some (.lst acc)/\acc.length<sizeLine/\∃m',m'<m/\W (i+1) m' eU (upd H4 D (.lst (acc++[y])))
  else ∃m',m'<m/\W (i+1) m' eU H3)
noncomputable def L3(js:List (Option Nat)) (wi:TI) (g:TG) (ti:TT) (te:TE):TE:=λσ H Q=>wi σ H λJ H1=>∀D,H1 D=none->
 ∃W:Nat->Nat->St->Hp->Prop,(∃m,W 0 m (o8 js σ) (upd H1 D (.lst [])))/\qC D g ti te J W (λH'=>Q (.ref D) H')
section
variable {X:Cx}{N:List Str}{js:List (Option Nat)}{scope:Scope}{elt tg iter:Expr}{ifs:List Expr}{pos:Pos}{wi:TI}{g:TG}{ti:TT}{te:TE}
noncomputable def Ry(X:Cx) (pins:List (Addr×Obj)) (σ:St) (Q:VK) (use:Option (Value->Sem Unit)) (R:Value->Shared->Prop):Prop:=
 ∀D C (H':Hp) (s':Shared),Inv X pins σ H' s'->(∃m,s'.heap.Ns C m)->H' C=none->C≠X.env.locals->(C∈X.ex\/X.lZ.heap.objs.size<=C)->(∀x c,X.env.cells.lookup x=some c->c≠C)->(∀p∈X.pn++pins,p.1≠C)->Q (.ref D) H'->
  compPost (model X.prog X.w) X.A X.xe use R (.ref D) C (.ok .next) s'
noncomputable def Eo(X:Cx)(elt tg iter:Expr)(ifs:List Expr)(scope:Scope)(pos:Pos)(t:TE):Prop:=∀(pins:List (Addr×Obj)) (s:Shared) (σ:St) (H:Hp) (Q:VK) (use:Option (Value->Sem Unit)) (R:Value->Shared->Prop),Inv X pins σ H s->t σ H Q->Ry X pins σ Q use R->
 wpAny (model X.prog X.w) X.A (comprehension (.ListComp elt [⟨tg,iter,ifs,0⟩] scope pos) scope X.env (firstIterPos [⟨tg,iter,ifs,0⟩] pos) (newList []) false (eval iter X.env) use) R X.xe s
theorem Qn{f:Str->Bool}(hg:∀cl C s H fp pn,PG (xo X N scope f cl C s H fp pn) tg g) (ht:∀cl C s H fp pn,vQ (xo X N scope f cl C s H fp pn) ifs ti) (he:∀cl C s H fp pn,PE (xo X N scope f cl C s H fp pn) elt te)
 (I3:Inv X pins σ H3 s3) (f3:∀b∈fp,iK X pins H3 b) (hC:C=s3.heap.objs.size) (VO:∀b∈fp,b<s3.heap.objs.size) (ja:∀x c,cl.lookup x=some c->∀b∈fp,c≠b)
 (I4:Inv (xo X N scope f cl C s3 H3 fp (X.pn++pins)) [] σ4 H3 s4) (T:Turn X.prog X.w X.K tg J fp it tn) (Iv:tn 0 s4.heap) (w0:W 0 m0 σ4 H3) (turn:qC D g ti te J W (λH'=>Q (.ref D) H')) (hR:Ry X pins σ Q use R) :
 codeAny (model X.prog X.w) X.A (.compLoop (.ListComp elt [⟨tg,iter,ifs,0⟩] scope pos) 0 (.ref it) (.ref D) (compEnvC scope cl C X.env)) (compPost (model X.prog X.w) X.A X.xe use R (.ref D) C) s4:=by
 generalize hY:xo X N scope f cl C s3 H3 fp (X.pn++pins)=Y at I4
 have fY:∀{H':Hp},(∀b∈fp,H' b=none)->∀b∈fp,iK Y [] H' b:=λhn b hb=>by
  obtain⟨f0,fa,fb,fc,fd,fe⟩:=f3 b hb
  subst hY
  refine⟨hn b hb,?_,λz=>(aal.mp (I3.uy b z)).elim fa fb,.inl hb,λx c e=>ja x c e b hb,λp hp=>fe p (by simpa[iA]using hp)⟩
  show b≠C
  rw[hC]
  exact aaw (VO b hb)
 obtain⟨e1,e2,e3,e4,e5,e6,e7⟩:Y.prog=X.prog/\Y.w=X.w/\Y.A=X.A/\Y.env=compEnvC scope cl C X.env/\(Y.xe=λ_ _=>False)/\Y.K=X.K/\Y.calm=true:=by subst hY;exact⟨rfl,rfl,rfl,rfl,rfl,rfl,rfl⟩
 refine yP (λn s'=>∃i bo H',Inv Y [] bo H' s'/\tn i s'.heap/\(∀b∈fp,H' b=none)/\W i n bo H') ?_ m0 ⟨0,_,_,I4,Iv,λb hb=>(f3 b hb).1,w0⟩
 rintro n s5 ⟨i,Qo,H5,I5,sI,Bk,w5⟩
 rcases turn i n Qo H5 w5 with⟨stop,qn⟩|⟨go,step⟩
 . have t:=T.done Y e1 e2 e6 e7 i [] s5 Qo H5 (λ_ _=>False) I5 (fY Bk) sI stop
   subst hY
   refine aC t λr s6 z=>?_
   obtain⟨hr,I6⟩:=z
   subst hr
   have n:∀b o,s3.heap.get? b=some o->b≠C:=λb o e=>by
    rw[hC]
    exact aaw (aam e)
   refine hR D C H5 s6 (I3.left f3 I6) (let ⟨m,hn,_⟩:=I6.loc; ⟨m,hn⟩) I6.free ?_ (.inr ?_) (λx c e=>?_) (λp hp=>?_) qn
   . rw[hC]
     exact abc I3.lt
   . rw[hC];exact I3.sz
   . obtain⟨v,o,ho,_⟩:=I3.cell x c e
     exact n _ _ ho
   . exact n _ _ (I3.pin p hp).1
 . have t:=T.item Y e1 e2 e6 e7 i [] s5 Qo H5 (λ_ _=>False) I5 (fY Bk) sI go
   have hg:=hg cl C s3 H3 fp (X.pn++pins)
   have ht:=ht cl C s3 H3 fp (X.pn++pins)
   have he:=he cl C s3 H3 fp (X.pn++pins)
   rw[hY]at hg ht he
   rw[e3]at t
   refine aC t λr s6 z=>?_
   obtain⟨u,hr,h6⟩:=z
   subst hr
   refine aC h6 λ_ s7 z=>?_
   obtain⟨x,H7,I7,r7,y7,L4,VP⟩:=z
   have VQ:=I7.pinned (fY VP) (T.obj _ _ L4)
   have again:∀{n':Nat}{Ep:St}{H8:Hp}{s8:Shared},Inv Y ([]++nV fp s7.heap) Ep H8 s8->n'<n->W (i+1) n' Ep H8->
    ∃m,m<n/\∃i bo H',Inv Y [] bo H' s8/\tn i s8.heap/\(∀b∈fp,H' b=none)/\W i m bo H':=λ{n' Ep H8 s8} I8 hm w8=>by
    refine⟨n',hm,i+1,Ep,H8,I8.jC,T.keep _ _ _ L4 λb hb o e=>(I8.pin (b,o) (aaZ _ (aaZ _ (iW hb e)))).1,λb hb=>?_,w8⟩
    obtain⟨o,e,d⟩:=T.obj _ _ L4 b hb
    exact(I8.pin (b,o) (aaZ _ (aaZ _ (iW hb e)))).2.1
   have g7:=hg _ s7 Qo H7 x u _ VQ r7 (step x H7 y7)
   rw[e1,e2,e3,e4,e5]at g7
   refine aC g7 λ_ s8 z=>?_
   obtain⟨Ep,H8,I8,q8⟩:=z
   have g8:=ht _ s8 Ep H8 _ I8 q8
   rw[e1,e2,e3,e4,e5]at g8
   refine aC g8 λok s9 z=>?_
   obtain⟨H9,I9,q9⟩:=z
   cases ok with
   | false=>
    rw[aaY aax]at q9 ⊢
    obtain⟨m',hm,w9⟩:=q9
    exact again I9 hm w9
   | true=>
    rw[aa4 rfl]at q9 ⊢
    have g9:=he _ s9 Ep H9 _ I9 q9
    rw[e1,e2,e3,e4,e5]at g9
    refine aC g9 λyv Bp z=>?_
    obtain⟨y,Rz,VR,VS,acc,hD,hl,m',hm,Iw⟩:=z
    have RA:=dj (X:=Y) _ Bp Ep Rz (.ref D) [y] (.ref D) [yv] (λ_ H'=>H'=upd Rz D (.lst (acc++[y]))) VR rfl (.cons VS .nil) ⟨D,acc,y,rfl,rfl,hD,hl,rfl⟩
    rw[e1,e2,e3,e5]at RA
    refine aC RA λ_ qD z=>?_
    obtain⟨_,H11,VT,_,VU⟩:=z
    subst VU
    exact again VT hm Iw
theorem Er(S:jn X N js scope)(hc:X.calm=true)(hi:PI X tg iter wi)
 (hg:∀cl C s H fp pn,PG (iA X N scope cl C s H fp pn) tg g) (ht:∀cl C s H fp pn,vQ (iA X N scope cl C s H fp pn) ifs ti) (he:∀cl C s H fp pn,PE (iA X N scope cl C s H fp pn) elt te)
 (hs:∀x,foldedSetIterable iter X.env x=pure x):Eo X elt tg iter ifs scope pos (L3 js wi g ti te):=by
 intro pins s σ H Q use R I h hR
 obtain⟨cl,Qp,ja,VW⟩:=vP (scope:=scope) (env:=X.env) λx hx hk=>I.ok.has x.1 (S.frees x hx hk)
 refine wpAny_comprehension_free (use:=use) rfl hs Qp S.kind S.names (aC (hi pins s σ H _ I h) λxv s1 h1=>aC h1 λIl s2 h2=>?_)
 obtain⟨it,fp,tn,J,H2,e,I2,T,jU,f2,q2⟩:=h2
 subst e
 refine acQ (wpAny_newFunctionEnv S.Em (by intro y hy;simp at hy) (λh₁ L5 L6=>?_) S.kind)
 dsimp only at L5 L6 ⊢
 have I3:Inv X pins σ (upd H2 s2.heap.objs.size (.lst [])) {s2 with heap:=s2.heap.push {cls:=.type "list",data:=.seq ([]:List Value).toArray},toks:=s2.toks}:=I2.GA .nil (by show 0<=sizeLine;decide)
 have lt2:∀b∈fp,b<s2.heap.objs.size:=λb hb=>let ⟨o,e,_⟩:=T.obj _ _ jU b hb;aam e
 have f3:∀b∈fp,iK X pins (upd H2 s2.heap.objs.size (.lst [])) b:=λb hb=>⟨by rw[ah (aaw (lt2 b hb))];exact(f2 b hb).1,(f2 b hb).2⟩
 obtain⟨W,⟨m0,w0⟩,turn⟩:=q2 s2.heap.objs.size (I2.hok.fresh (aah _))
 have k1:∀b o,(s2.heap.push {cls:=.type "list",data:=.seq ([]:List Value).toArray}).get? b=some o->h₁.get? b=some o:=λb o e=>L6.extBut b o (aaw (aam e)) (aac _ e)
 have l3:∀b∈fp,b<(s2.heap.push {cls:=.type "list",data:=.seq ([]:List Value).toArray}).objs.size:=λb hb=>by rw[abE];exact acP (lt2 b hb)
 have Iv:tn 0 h₁:=T.keep _ _ _ jU λb hb o e=>k1 b o (aac _ e)
 have I4:=I3.enter (f:=λ_=>false) (h':=h₁) (tk:=s2.toks+([]:List (Str×Value)).length) S hc (λ_ _=>rfl) (λ_ _ e=>by cases e) (λx c e=>.inr ⟨rfl,ja x c e⟩) (λx hx=>hx.elim (λe=>VW _ (lookup_mem e) rfl) λe=>absurd rfl (S.Em _ (lookup_mem e))) rfl f3 l3 L5 k1
 have loop:=Qn (f:=λ_=>false) (iter:=iter) (pos:=pos) hg ht he I3 f3 rfl l3 (λx c e b hb=>(f3 b hb).2.2.2.2.1 x c (ja x c e)) I4 T Iv w0 turn hR
 exact codeAny_compStart_list loop (T.self _ 0 _ _ _ Iv loop)
theorem Eo.pe(h:Eo X elt tg iter ifs scope pos t):PE X (.ListComp elt [⟨tg,iter,ifs,0⟩] scope pos) t:=by
 intro pins s σ H Q I q
 rw[eval_ListComp]
 refine h pins s σ H Q none _ I q ?_
 rintro D C H' s' I' ⟨m,hn⟩ c1 c2 c3 c4 c5 q
 exact⟨m,hn,λh' Bq=>⟨.ref D,H',I'.turned (t':=s'.toks) (λb o hb e=>Bq.extBut b o hb e) c1 c2 c3 c4 c5,rfl,q⟩⟩
theorem Eo.ps(h:Eo X elt tg iter ifs scope pos t)(hN:X.N.Nodup)(xp:X.N[i]?=some x)(hx:X.env.scope.names.lookup x=some .local)
 (yQ:swapsWith (.ListComp elt [⟨tg,iter,ifs,0⟩] scope pos) (some (.Name x pos')) GI.line X.env=pure true):PS X (.Assign [.Name x pos'] (.ListComp elt [⟨tg,iter,ifs,0⟩] scope pos) GI) (qk t (bO i)):=by
 intro pins s σ H D I q
 rw[exec_Assign_Name_used _ _ _ _ yQ]
 refine aab (aeh (aab ?_))
 show wpAny _ X.A (do let _ ← comprehension (.ListComp elt [⟨tg,iter,ifs,0⟩] scope pos) scope X.env _ (newList []) false (eval iter X.env) (some (assign (.Name x pos') X.env))) _ _ s
 refine aab (aC (h pins s σ H _ (some (assign (.Name x pos') X.env)) (λ_ s'=>SP X pins D .next s') I q ?_) λ_ s' hq=>aaj (aaj hq))
 rintro Dd C H' s' I' ⟨m,hn⟩ c1 c2 c3 c4 c5 q
 show wpAny _ X.A (assign (.Name x pos') X.env (.ref Dd)) _ _ _
 refine wpAny_assign_Name (wU I' hN xp (.inl hx) (v:=.ref Dd) rfl (λEa VX ⟨a,sb,ha⟩=>?_) (.inr hx))
 have ea:a≠C:=by
  rcases ha with ha|ha
  . rw[ha]
    exact aau c2
  . exact c4 x a ha
 exact⟨m,hn.sameBut sb (aau ea),λh' Bq=>⟨_,_,VX.turned (t':=Ea.toks) (λb o hb e=>Bq.extBut b o hb e) c1 c2 c3 c4 c5,q⟩⟩
theorem b8(S:uM X.N X.env.scope.names N js scope=true)(hc:X.calm=true)(hi:PI X tg iter wi)
 (hg:∀cl C s H fp pn,PG (iA X N scope cl C s H fp pn) tg g) (ht:∀cl C s H fp pn,vQ (iA X N scope cl C s H fp pn) ifs ti) (he:∀cl C s H fp pn,PE (iA X N scope cl C s H fp pn) elt te)
 (hs:∀x,foldedSetIterable iter X.env x=pure x:=by intro _;rfl):PE X (.ListComp elt [⟨tg,iter,ifs,0⟩] scope pos) (L3 js wi g ti te):=(Er (.of S) hc hi hg ht he hs).pe
theorem nh(hN:X.N.Nodup)(xp:X.N[i]?=some x)(hx:X.env.scope.names.lookup x=some .local)(S:uM X.N X.env.scope.names N js scope=true)(hc:X.calm=true)(hi:PI X tg iter wi)
 (hg:∀cl C s H fp pn,PG (iA X N scope cl C s H fp pn) tg g) (ht:∀cl C s H fp pn,vQ (iA X N scope cl C s H fp pn) ifs ti) (he:∀cl C s H fp pn,PE (iA X N scope cl C s H fp pn) elt te)
 (yQ:swapsWith (.ListComp elt [⟨tg,iter,ifs,0⟩] scope pos) (some (.Name x pos')) GI.line X.env=pure true:=by rfl)
 (hs:∀x,foldedSetIterable iter X.env x=pure x:=by intro _;rfl):PS X (.Assign [.Name x pos'] (.ListComp elt [⟨tg,iter,ifs,0⟩] scope pos) GI) (qk (L3 js wi g ti te) (bO i)):=(Er (.of S) hc hi hg ht he hs).ps hN xp hx yQ
end
noncomputable def Es(D:Addr)(n:Nat)(Pv:Nat->List V->St->Hp->Prop):Nat->Nat->St->Hp->Prop:=λi m σ H=>i<=n/\m=n-i/\∃acc,H D=some (.lst acc)/\Pv i acc σ H
theorem cp(hi:i<n) (hD:H D=some (.lst acc)) (hp:Pv (i+1) acc σ H):∃m',m'<n-i/\Es D n Pv (i+1) m' σ H:=
 ⟨n-(i+1),by lia,hi,rfl,acc,hD,hp⟩
theorem gr(n:Nat)(Pv:Nat->List V->St->Hp->Prop)(h0:Pv 0 [] Qq H0) (VY:H0 D=some (.lst []))
 (fin:∀acc σ H,H D=some (.lst acc)->Pv n acc σ H->J.stop n H/\Q H)
 (step:∀i acc σ H,i<n->H D=some (.lst acc)->Pv i acc σ H->J.go i H/\∀x H',J.yld i H x H'->g x σ H' λeU H2=>ti eU H2 λb H3=>
  if b=true then te eU H3 λy H4=>∃acc,H4 D=some (.lst acc)/\acc.length<sizeLine/\∃m',m'<n-i/\Es D n Pv (i+1) m' eU (upd H4 D (.lst (acc++[y]))) else ∃m',m'<n-i/\Es D n Pv (i+1) m' eU H3) :
 ∃W:Nat->Nat->St->Hp->Prop,(∃m,W 0 m Qq H0)/\qC D g ti te J W Q:=by
 refine⟨Es D n Pv,⟨n,abM _,rfl,[],VY,h0⟩,?_⟩
 rintro i m σ H ⟨hi,rfl,acc,hD,hp⟩
 rcases aeH i n with h|h
 . exact .inr (step i acc σ H h hD hp)
 . have e:i=n:=Nat.le_antisymm hi h
   subst e
   exact .inl (fin acc σ H hD hp)
section
variable {X:Cx}{pins:List (Addr×Obj)}{σ:St}{H:Hp}{s:Shared}{h':Heap}
theorem Inv.vT{t':Nat}{fp:List Addr}(I:Inv X pins σ H s)(hf:∀b∈fp,iK X pins H b)(k:∀b o,b∉fp->s.heap.get? b=some o->h'.get? b=some o):Inv X pins σ H {s with heap:=h',toks:=t'}:=by
 have xq:∀b u,H b=some u->b∉fp:=λb u e z=>by rw[(hf b z).1]at e;cases e
 refine I.step (g':=s.gens) (d':=s.drawn) (ch:=fp) (λb hb=>⟨(hf b hb).2.2.2.1,(hf b hb).2.1,(hf b hb).2.2.2.2.1,(hf b hb).2.2.2.2.2⟩) (λb o _ _ hc e _=>k b o hc e) (λb o _ _ hc e _=>⟨o.slots,k b o hc e⟩) (λ_ _ _ _ n=>n)
  (λb o hc e=>⟨o,k b o hc e⟩) (λ_ _ e=>e) (λ_ _ _ e=>e) (λb ps e=>⟨#[],by rw[e];simp⟩) (λm hm=>?_) (λb u e=>?_) I.bare
 . obtain⟨o,es,ep,ho,r⟩:=hm
   exact⟨o,es,ep,k _ o (λz=>(hf _ z).2.1 rfl) ho,r⟩
 . refine(I.hok b u e).dw (λc v hc q=>k c v ?_ q) (λ_ q=>q) λ_ _ q=>q
   rcases hc with z|z
   . rw[z];exact xq b u e
   . exact xq c _ z
theorem Inv.vU{t':Nat}{fp:List Addr}{T:Addr}{xs:List V}{its:List Value}(I:Inv X pins σ H s)(hf:∀b∈fp,iK X pins H b)(k:∀b o,b∉fp->s.heap.get? b=some o->h'.get? b=some o)
 (hT:s.heap.objs.size<=T) (ht:IsTup h' T its.toArray) (rv:Vals xs its) (hz:xs.length<=sizeLine):Inv X pins σ (upd H T (.tup xs)) {s with heap:=h',toks:=t'}:=by
 have xq:∀b u,H b=some u->b∉fp:=λb u e z=>by rw[(hf b z).1]at e;cases e
 have pW:H T=none:=I.hok.fresh hT
 have neT:∀b u,H b=some u->b≠T:=λb u e z=>by rw[z,pW]at e;cases e
 have L7:∀b o,s.heap.get? b=some o->b≠T:=λb o e=>aaw (aaV (aam e) hT)
 refine I.step (g':=s.gens) (d':=s.drawn) (ch:=fp) (λb hb=>⟨(hf b hb).2.2.2.1,(hf b hb).2.1,(hf b hb).2.2.2.2.1,(hf b hb).2.2.2.2.2⟩) (λb o _ _ hc e _=>k b o hc e) (λb o _ _ hc e _=>⟨o.slots,k b o hc e⟩)
  (λb o _ e n=>by rw[ah (L7 b o e)];exact n) (λb o hc e=>⟨o,k b o hc e⟩) (λb ys e=>by rw[ah (neT b _ e)];exact e) (λb o u e=>by rw[ah (neT b _ e)];exact e)
  (λb ps e=>⟨#[],by rw[ah (neT b _ e),e];simp⟩) (λm hm=>?_) (λb u e=>?_) I.bare
 . obtain⟨o,es,ep,ho,r⟩:=hm
   exact⟨o,es,ep,k _ o (λz=>(hf _ z).2.1 rfl) ho,r⟩
 . by_cases hb:b=T
   . subst hb
     rw[ae]at e
     cases e
     exact⟨hz,its,rv,ht⟩
   . rw[ah hb]at e
     refine(I.hok b u e).dw (λc v hc q=>k c v ?_ q) (λc q=>by rw[ah (neT c _ q)];exact q) λc ys q=>by rw[ah (neT c _ q)];exact q
     rcases hc with z|z
     . rw[z];exact xq b u e
     . exact xq c _ z
end
noncomputable def L8(z:Str):It:=⟨λi _=>i<z.cps.size,λi H x H'=>H'=H/\∃c,z.cps[i]?=some c/\x=.str ⟨#[c]⟩,λi _=>i=z.cps.size⟩
theorem yR{P:Program}{w:World}{K:W.Frag}{tg:Expr}(it:Addr)(z:Str)(t:Tok)(ty:String) (W:∀A:Around,A.handled=none->Walks P w A it [it] [it] z.cps.size (SignAt z) (λi h=>h.IsStrIter it ty z t i))
 (hs:∀(A:Around) (i:Nat) (s:Shared) (Q:Value->Shared->Prop) (E:Value->Shared->Prop),s.heap.IsStrIter it ty z t i->Q (.ref it) s->wpAny (model P w) A (pyIter (.ref it)) Q E s)
 (hn:["enumerate", "zip", "dict_itemiterator", "dict_reverseitemiterator", "odict_iterator", "itertools.zip_longest", "itertools.pairwise"].contains ty=false) :
 Turn P w K tg (L8 z) [it] it (λi h=>h.IsStrIter it ty z t i) where
 mem:=by simp
 obj:=λi h st b hb=>by
  have e:b=it:=by simpa using hb
  subst e
  obtain⟨o,e,c,d⟩:=st
  exact⟨o,e,λv z=>by rw[d]at z;cases z⟩
 keep:=λi h h' st k=>let ⟨o,e,r⟩:=st; ⟨o,k it (by simp) o e,r⟩
 item:=by
  intro X hP hw hK hc i pins s σ H E I hf st hg
  subst hP hw hK
  obtain⟨f0,f1,f2,f3,f4,f5⟩:=hf it (by simp)
  refine(W X.A (I.ok.hd hc)).item i s _ _ hg st λv h' tk hv pR kk=>?_
  obtain⟨c,u,ec,rfl⟩:=hv
  have I1:Inv X pins σ H {s with heap:=h',toks:=tk}:=I.turned (λb o hb e=>kk b o (by simpa using hb) e) f0 f1 f3 f4 f5
  obtain⟨o,e,oc,od⟩:=id pR
  exact⟨_,rfl,yh (s:={s with heap:=h',toks:=tk}) e oc od hn ⟨.str ⟨#[c]⟩,H,I1,⟨u,rfl⟩,⟨rfl,c,ec,rfl⟩,pR,λb hb=>(hf b hb).1⟩⟩
 done:=by
  intro X hP hw hK hc i pins s σ H E I hf st hg
  subst hP hw hK
  obtain⟨f0,f1,f2,f3,f4,f5⟩:=hf it (by simp)
  have L9:i=z.cps.size:=hg
  subst L9
  exact(W X.A (I.ok.hd hc)).done s _ _ st λh' tk kk=>⟨rfl,I.turned (λb o hb e=>kk b o (by simpa using hb) e) f0 f1 f3 f4 f5⟩
 self:=λA i s Q E st h=>hs A i s Q E st h
section
variable {X:Cx}{tg:Expr}
noncomputable def Uo(ts:TE):TI:=λσ H R=>ts σ H λx H1=>∃z,x=.str z/\R (L8 z) H1
theorem uO{l:Expr}{tl:TE}(hl:PE X l tl):PI X tg l (Uo tl):=by
 intro pins s σ H R I h
 refine aC (hl pins s σ H _ I h) λv s1 ⟨x,H1,I1,r1,q1⟩=>?_
 obtain⟨z,e,q⟩:=q1
 subst e
 obtain⟨t,rfl⟩:=r1
 have fin:∀b∈[s1.heap.objs.size],iK X pins H1 b:=λb hb=>by
  have e:b=s1.heap.objs.size:=by simpa using hb
  subst e
  exact I1.nL (aah _) (I1.hok.fresh (aah _))
 cases ha:z.cps.all (· < 128) with
 | true=>
  refine wpAny_pyIter_ascii ha ?_
  exact⟨s1.heap.objs.size,[s1.heap.objs.size],_,_,H1,rfl,I1.kept (t':=s1.toks) λb o e=>aac _ e,
   yR _ z t "str_ascii_iterator" (λA hA=>Walks.strAscii hA _ z t) (λ_ _ _ _ _ st h=>wpAny_pyIter_striter_ascii st h) (by decide),⟨_,aaq _ rfl,rfl,rfl⟩,fin,q⟩
 | false=>
  refine wpAny_pyIter_wide ha ?_
  exact⟨s1.heap.objs.size,[s1.heap.objs.size],_,_,H1,rfl,I1.kept (t':=s1.toks) λb o e=>aac _ e,
   yR _ z t "str_iterator" (λA hA=>Walks.strWide hA _ z t) (λ_ _ _ _ _ st h=>wpAny_pyIter_striter_wide st h) (by decide),⟨_,aaq _ rfl,rfl,rfl⟩,fin,q⟩
end
noncomputable def Et(K:W.Frag)(a:Addr):It:=
 ⟨λi H=>∃xs x,aq K H a xs/\xs[i]?=some x,λi H v H'=>∃T x,v=.ref T/\H T=none/\H'=upd H T (.tup [.int (i:Int),x])/\∀xs,aq K H a xs->xs[i]?=some x,λi H=>∃xs,aq K H a xs/\xs.length<=i⟩
theorem Eu{P:Program}{w:World}{K:W.Frag}{es:List Expr}{kk:Nat}{tp:Pos}(a e it:Addr)(RB:e≠it):Turn P w K (.Tuple es kk tp) (Et K a) [e,it] e (λi h=>(∃old,IsEnum h e it (i:Int) old)/\h.IsListIter it a i) where
 mem:=by simp
 obj:=λi h st b hb=>by
  obtain⟨⟨old,he⟩,o,e1,c,d⟩:=st
  rcases aal.mp hb with z|z
  . subst z
    exact⟨_,he,λv z=>by
     have z':Data.fields _=Data.cell v:=z
     cases z'⟩
  . have z':b=it:=by simpa using z
    subst z'
    exact⟨o,e1,λv z=>by rw[d]at z;cases z⟩
 keep:=λi h h' st k=>⟨let ⟨old,he⟩:=st.1; ⟨old,k e (by simp) _ he⟩,st.2.at λo e1=>k it (by simp) o e1⟩
 item:=by
  intro X hP hw hK hc i pins s σ H E I hf st hg
  subst hP hw hK
  obtain⟨xs,x,hq,hx⟩:=hg
  obtain⟨its,rv,p,hz⟩:=I.list hq
  obtain⟨u,hu,ru⟩:=rv.get hx
  obtain⟨⟨old,he⟩,hit⟩:=st
  refine wpAny_pyNext_enum_item he hit p.isList (x:=u) (by simpa using hu) RB λh' ho Cw hT hsz hk=>?_
  refine⟨.ref s.heap.objs.size,rfl,?_⟩
  refine wpAny_letOwnedTupleGo_enum ho λh2 xr i8=>?_
  have Ew:s.heap.objs.size≠e:=abc (aam he)
  have sP:h2.get? s.heap.objs.size=some {cls:=.type "tuple",data:=.seq #[.int i s.toks,u] }:=(i8.2 _ Ew).trans hT
  have I1:Inv X pins σ (upd H s.heap.objs.size (.tup [.int (i:Int),x])) {s with heap:=h2,toks:=s.toks+1}:=I.vU (its:=[.int i s.toks,u]) hf (λb o hb e1=>by
   have b1:b≠e:=λz=>hb (by simp[z])
   have b2:b≠it:=λz=>hb (by simp[z])
   exact(i8.2 b b1).trans (hk b o b1 b2 e1)) (aah _) ⟨_,sP,rfl,_,rfl⟩ (.cons ⟨_,rfl⟩ (.cons ru .nil)) (by show 2<=sizeLine;decide)
  have fr:H s.heap.objs.size=none:=I.hok.fresh (aah _)
  refine⟨.ref s.heap.objs.size,_,I1,rfl,⟨s.heap.objs.size,x,rfl,fr,rfl,λys hy=>by rw[I.tP hy hq];exact hx⟩,⟨⟨u,?_⟩,Cw.at λo e1=>(i8.2 it RB.symm).trans e1⟩,λb hb=>?_⟩
  . have e3:(((i+1:Nat):Nat):Int)=(i:Int)+1:=by omega
    rw[e3]
    exact xr
  . have j4:=(hf b hb).1
    have nb:b≠s.heap.objs.size:=by
     rcases aal.mp hb with z|z
     . rw[z];exact aau Ew
     . have z':b=it:=by simpa using z
       rw[z']
       obtain⟨o,e1,_⟩:=hit
       exact aaw (aam e1)
    rw[ah nb]
    exact j4
 done:=by
  intro X hP hw hK hc i pins s σ H E I hf st hg
  subst hP hw hK
  obtain⟨xs,hq,hx⟩:=hg
  obtain⟨its,rv,p,hz⟩:=I.list hq
  obtain⟨⟨old,he⟩,hit⟩:=st
  have hl:=rv.length
  exact wpAny_pyNext_enum_end (I.ok.hd hc) he hit p.isList (by simp;omega) λh' eb=>⟨rfl,I.vT (t':=s.toks) hf λb o hb e1=>eb b o (λz=>hb (by simp[z])) e1⟩
 self:=λ_ _ _ _ _ st h=>let ⟨old,he⟩:=st.1;wpAny_pyIter_enum he h
section
variable {X:Cx}
noncomputable def Qr(K:W.Frag)(ta:TA):TI:=λσ H R=>ta σ H λvs H1=>∃a,vs=[.ref a]/\(∃xs,aq K H1 a xs)/\R (Et K a) H1
theorem so{es:List Expr}{kk:Nat}{tp:Pos}{a:Expr}{ta:TA}{p pos:Pos}(hg:Gl X "enumerate")(hm:X.mg "enumerate" = none)(ha:PA X [a] ta) (hs:starEach [a] X.env=[(false,eval a X.env)]:=by rfl) :
 PI X (.Tuple es kk tp) (.Call (.Name "enumerate" p) [a] [] pos) (Qr X.K ta):=by
 intro pins s σ H R I h
 refine Call_ (iy I hg hm boot_enumerate (abi (aC (ha pos pins s σ H _ I h) λus s1 ⟨vs,H1,I1,r1,q1⟩=>?_) hs rfl))
 obtain⟨l,e,⟨xs,hq⟩,q⟩:=q1
 subst e
 cases r1 with
 | cons r rr=>
  cases rr
  cases r
  obtain⟨its,rv,pl,hz⟩:=I1.list hq
  refine call_enumerate_list pl.isList λh' he hit hsz hk=>?_
  refine wpAny_pyIter_enum he ?_
  have I2:Inv X pins σ H1 {s1 with heap:=h'}:=I1.kept (t':=s1.toks) hk
  refine⟨s1.heap.objs.size+1,[s1.heap.objs.size+1,s1.heap.objs.size],_,_,H1,rfl,I2,Eu l _ _ (abc (adw _)),⟨⟨_,he⟩,hit⟩,λb hb=>?_,q⟩
  have j4:s1.heap.objs.size<=b:=by
   rcases aal.mp hb with z|z
   . rw[z];exact ac1 _
   . have z':b=s1.heap.objs.size:=by simpa using z
     rw[z'];exact aah _
  exact I1.nL j4 (I1.hok.fresh j4)
noncomputable def Up:V->Option Int->Option Int->Hp->VK->Prop:=λx lo hi H Q=>∃z j,x=.str z/\lo=none/\hi=some j/\z.length<=sizeLine/\Q (.str (Txt.slice z none (some j))) H
theorem uP:Eg X Up:=by
 intro pins s σ H x v vl vu lo hi sl Q I rx hs pl pu h
 obtain⟨z,j,rfl,rfl,rfl,hz,q⟩:=h
 obtain⟨t,rfl⟩:=rx
 cases pl
 cases pu with
 | int _ uj=>
  refine⟨"str",_,F.slot_str_getitem.lookup,ac4 _ _ _,aej (l:=none) (u:=some (j,uj)) (st:=none) hs rfl
   (post_val_or_str ⟨aao (Txt.slice_le z _ _) hz,λt' k=>⟨.str (Txt.slice z none (some j)),H,I.tok k,⟨t',rfl⟩,q⟩⟩)⟩
noncomputable def rJoin(K:W.Frag):V->List V->Hp->VK->Prop:=λx vs H Q=>∃z a ys,x=.str z/\vs=[.ref a]/\aq K H a (ys.map V.str)/\(ys.map (·.length)).sum+ys.length*z.length<=16777216/\Q (.str (Txt.join z ys)) H
theorem uQ:∀{ys:List Str}{us:List Value},Vals (ys.map V.str) us->StrsAre us ys
 | [],us,r=>by
  cases r
  exact .nil
 | y::ys,us,r=>by
  cases r with
  | cons h t=>
   obtain⟨tk,rfl⟩:=h
   exact .cons _ _ (uQ t)
theorem Km:sM X "str.join" (rJoin X.K):=by
 intro pins s σ H x vs v us Q I rx rv h
 obtain⟨z,a,ys,rfl,rfl,hq,hl,q⟩:=h
 obtain⟨t,rfl⟩:=rx
 obtain⟨u,rfl,ru⟩:=rv.one
 cases ru
 obtain⟨its,r,pl,_⟩:=I.list hq
 exact join_list pl.isList (by simpa using uQ r) hl λt' k=>⟨.str (Txt.join z ys),H,I.tok k,⟨t',rfl⟩,q⟩
noncomputable def Ma:V->List V->Hp->VK->Prop:=λx vs H Q=>∃z y,x=.str z/\vs=[.str y]/\z.length<=sizeLine/\(y.length == 0)=false/\
 (Builtin.Str.partsBetween z (Builtin.Str.occurrences z y 0 z.length (z.length+1)) y.length).length<=sizeLine/\∀p,H p=none->Q (.ref p) (upd H p (.lst ((Txt.split z y).map V.str)))
theorem pX:∀(tk:Nat) (xs:List Str),Vals (xs.map V.str) (strValues (numbered tk xs))
 | _,[]=>.nil
 | tk,x::r=>.cons ⟨tk,rfl⟩ (pX (tk+1) r)
theorem split_le(z y:Str) (h:(Builtin.Str.partsBetween z (Builtin.Str.occurrences z y 0 z.length (z.length+1)) y.length).length<=sizeLine):(Txt.split z y).length<=sizeLine:=by
 unfold Txt.split
 split
 . show 1<=sizeLine;decide
 . split
   . show 1<=sizeLine;decide
   . exact h
theorem GJ:sM X "str.split" Ma:=by
 intro pins s σ H x vs v us Q I rx rv h
 obtain⟨z,y,rfl,rfl,hz,hy,hl,q⟩:=h
 obtain⟨t,rfl⟩:=rx
 obtain⟨u,rfl,tu,rfl⟩:=rv.one
 have Ex:=split_le z y hl
 have fin:∀(l:List (Str×Tok)) (tk:Nat),Vals ((Txt.split z y).map V.str) (strValues l)->
  EP X pins σ Q (.ref s.heap.objs.size) {s with heap:=s.heap.push {cls:=.type "list",data:=.seq (strValues l).toArray},toks:=tk}:=λl tk r=>
  ⟨.ref s.heap.objs.size,_,I.GA r (by rw[aaa];exact Ex),rfl,q _ (I.hok.fresh (aah _))⟩
 cases h1:(decide (z.length<y.length) || decide (Builtin.Str.strKind z<Builtin.Str.strKind y)) with
 | true=>
  refine ac5 aer (ac4 _ _ _) aec (ad2 _ _) (meets_str_split_cannot_occur z y t tu h1) ?_
  exact fin [(z,t)] s.toks (by
   have e:Txt.split z y=[z]:=aa4 h1
   rw[e]
   exact .cons ⟨t,rfl⟩ .nil)
 | false=>
  cases hf:(Builtin.Str.occurrences z y 0 z.length (z.length+1)).isEmpty with
  | true=>
   refine ac5 aer (ac4 _ _ _) aec (ad2 _ _) (meets_str_split_not_found z y t tu h1 hy hf) ?_
   exact fin [(z,t)] s.toks (by
    have e:Txt.split z y=[z]:=(aaY (adN h1)).trans (aa4 hf)
    rw[e]
    exact .cons ⟨t,rfl⟩ .nil)
  | false=>
   refine ac5 aer (ac4 _ _ _) aec (ad2 _ _) (meets_str_split_sep z y t tu h1 hy hf hz hl) ?_
   have e:Txt.split z y=Builtin.Str.partsBetween z (Builtin.Str.occurrences z y 0 z.length (z.length+1)) y.length:=(aaY (adN h1)).trans (aaY (adN hf))
   have:=fin (numbered s.toks (Builtin.Str.partsBetween z (Builtin.Str.occurrences z y 0 z.length (z.length+1)) y.length)) (s.toks+(Builtin.Str.partsBetween z (Builtin.Str.occurrences z y 0 z.length (z.length+1)) y.length).length) (by
    rw[e]
    exact pX _ _)
   show EP X pins σ Q _ {s with toks:=_,heap:=s.heap.push {cls:=.type "list",data:=.seq (strsFrom s.toks (Builtin.Str.partsBetween z (Builtin.Str.occurrences z y 0 z.length (z.length+1)) y.length)).toArray} }
   rw[strsFrom_eq]
   exact this
noncomputable def Kn:V->List V->Hp->VK->Prop:=λx vs H Q=>∃l xs i y,x=.ref l/\vs=[.int i,y]/\H l=some (.lst xs)/\0<=i/\i<=xs.length/\xs.length<sizeLine/\Q .aM (upd H l (.lst (xs.take i.toNat++[y]++xs.drop i.toNat)))
theorem Ey:sM X "list.insert" Kn:=by
 intro pins s σ H x vs v us Q I rx rv h
 obtain⟨l,xs,i,y,rfl,rfl,hH,h0,hi,hz,q⟩:=h
 cases rx
 obtain⟨u1,u2,rfl,r1,r2⟩:=rv.two
 obtain⟨t1,rfl⟩:=r1
 obtain⟨z,its,n,r,hl,e⟩:=I.oX hH
 have hn:=nX
 have Uq:¬ (!Builtin.List.listFitsIndex i)=true:=by
  have:Builtin.List.listFitsIndex i=true:=by
   unfold Builtin.List.listFitsIndex
   simp only[abu,abb]
   constructor <;> omega
  rw[this]
  decide
 refine ac5 F.slot_list_insert ⟨_,e,rfl⟩ F.entry_list_insert (F.args_list_insert_3 _ _ _) (AutoListH.list_insert_list_int_val_1 l its.toArray n i t1 u2 Uq (by rw[aar];omega)) ⟨e,?_⟩
 refine⟨.aM,_,I.vO (its':=its.take i.toNat++[u2]++its.drop i.toNat) hH e ?_ (((r.take i.toNat).append (.cons r2 .nil)).append (r.drop i.toNat)) ?_,rfl,q⟩
 . have e1:(if i<0 then (i+((its.toArray.size:Nat):Int)).toNat else min i.toNat its.toArray.size)=i.toNat:=by
    rw[aaY (by omega),aar]
    omega
   show (its.toArray.extract 0 _).push u2++its.toArray.extract _=_
   rw[e1]
   apply aes.mp
   simp[aa8]
 . simp only[aaf,aa3,aeo,aat]
   omega
end
section
variable {prog:Program}{w:World}{A:Around}{E:Value->Shared->Prop}
theorem xt{l it:Addr}{items:Array Value}(c8:l≠it):∀(n i:Nat) (s:Shared) (Q:List Value->Shared->Prop),s.heap.IsListIter it l i->s.heap.IsList l items->i+n<=items.size->
 (∀h',h'.IsListIter it l (i+n)->Heap.SameBut it s.heap h'->Q ((items.toList.drop i).take n) {s with heap:=h'})->wpAny (model prog w) A (draw (.ref it) n) Q E s
 | 0,i,s,Q,hit,hl,_,hQ=>by
  unfold draw
  exact aaj (by simpa using hQ s.heap hit (.refl ..))
 | n+1,i,s,Q,hit,hl,hn,hQ=>by
  unfold draw
  have hx:items[i]?=some items[i]:=ab3 (by omega)
  refine aab (adg hit hl hx λh1 GK pY=>?_)
  refine aab (abq (xt c8 n (i+1) {s with heap:=h1} _ GK (hl.extBut pY.extBut c8) (by omega) λh2 Ur i8=>?_))
  refine aaj ?_
  have hd:(items.toList.drop i).take (n+1)=items[i]::(items.toList.drop (i+1)).take n:=by
   rw[ab4 (by simpa using (show i<items.size by omega)),acw]
   simp
  have:=hQ h2 (by rw[show i+(n+1)=i+1+n by omega];exact Ur) (pY.trans i8)
  rw[hd]at this
  exact this
theorem tT{s:Shared}{l:Addr}{items:Array Value}{Q:List Value->Shared->Prop}(hh:A.handled=none)(hl:s.heap.IsList l items)
 (hQ:∀h',Heap.ExtBut s.heap.objs.size s.heap h'->Q items.toList {s with heap:=h'}):wpAny (model prog w) A (unpackItems (.ref l) items.size none) Q E s:=by
 have c8:l≠s.heap.objs.size:=by obtain⟨o,ho,_⟩:=hl;exact aaw (aam ho)
 unfold unpackItems
 refine aab ?_
 unfold notIterableAtAll
 refine aab (aeD hl.typeIs slot_list_iter.lookup ?_)
 refine aaj ?_
 simp only[acn,acX]
 refine aab (abq (adj hl ?_))
 refine aab (abq (xt c8 items.size 0 _ _ ⟨_,aaq _ rfl,rfl,rfl⟩ (hl.push _) (by omega) λh₁ Us gF=>?_))
 have fE:List.take items.size (List.drop 0 items.toList)=items.toList:=by
  rw[List.drop_zero];exact aa8 (by simp)
 rw[fE]
 rw[aaY (by simp)]
 have VZ:h₁.IsList l items:=(hl.push _).extBut gF.extBut c8
 refine aab (abq (adp hh Us VZ (by simp) λko V0=>?_))
 simp only[Option.isSome_none,acn,acX]
 exact aaj (hQ ko λb o hb e=>V0 b o hb (gF.extBut b o hb (aac _ e)))
end
section
variable {X:Cx}{pos:Pos}
noncomputable def Qs(K:W.Frag)(n:Nat)(t:uE):TG:=λv σ H Q=>∃a xs,v=.ref a/\aq K H a xs/\xs.length=n/\t xs σ H Q
theorem Ko{es:List Expr}{k:Nat}{t:uE}{n:Nat}(hc:X.calm=true)(h:DU X es t)
 (hn:(assignEach es X.env).length=n:=by rfl) (lS:(assignEach es X.env).findIdx? (·.1)=none:=by rfl):PG X (.Tuple es k pos) (Qs X.K n t):=by
 intro pins s σ H v u Q I r hw
 obtain⟨a,xs,e1,hq,hl,hw⟩:=hw
 subst e1
 cases r
 obtain⟨its,rv,pl,hz⟩:=I.list hq
 rw[assign_Tuple]
 refine aab (aeh ?_)
 unfold unpack
 have e2:(assignEach es X.env).length=its.toArray.size:=by rw[aar,hn,← hl,rv.length]
 rw[e2,lS]
 refine aab (abq (tT (I.ok.hd hc) pl.isList λh' hx=>?_))
 have I1:Inv X pins σ H {s with heap:=h'}:=I.kept (t':=s.toks) λb o e=>hx b o (aaw (aam e)) e
 exact h pins _ σ H xs _ Q I1 (by simpa using rv) hw
end
end L2
namespace Gen
open PySem
theorem yS{α:Type}[DecidableEq α]:∀(l t:List α),l.Nodup->(∀x∈l,x∈t)->l.length<=t.length
 | [],t,_,_=>abM _
 | a::l,t,hn,hs=>by
  have ha:a∈t:=hs a aaR
  obtain⟨h1,h2⟩:=aa0.mp hn
  have:=yS l (t.erase a) h2 λx hx=>(aeP (λ(e:x=a)=>h1 (by rw[← e];exact hx))).mpr (hs x (aaz _ hx))
  rw[aed ha]at this
  have:0<t.length:=aez ha
  simp only[abl]
  omega
theorem Cy(k len:Nat):Builtin.Str.strSliceIndices none (some (k:Int)) 1 len=List.range (min k len):=by
 have h1:¬ ((k:Int)<0):=by omega
 have e:max (0:Int) (min (k:Int) (len:Int))=((min k len:Nat):Int):=by omega
 simp only[Builtin.Str.strSliceIndices,sliceRange,h1,acX,show ((1:Int)>0)=True from by simp,adk,e]
 by_cases h:(0:Int)<((min k len:Nat):Int)
 . have e3:(((min k len:Nat):Int)-0+1-1) / 1=((min k len:Nat):Int):=by simp
   rw[aa4 h,e3,ab1]
   conv=>rhs;rw[← aeT (List.range (min k len))]
   exact ab2 λj _=>by simp
 . have:min k len=0:=by omega
   simp[this]
theorem sQ{α:Type}(l:List α)(n:Nat)(h:n<=l.length):(List.range n).filterMap (l[·]?)=l.take n:=by
 have:=StrLaws.picks l n 0 (by omega)
 simpa using this
theorem tU(x:Str)(k:Nat):(Txt.slice x none (some (k:Int))).cps.toList=x.cps.toList.take k:=by
 unfold Txt.slice
 rw[Cy]
 have hl:x.cps.toList.length=x.length:=by simp[Str.length]
 split
 . rename_i h
   simp only[aeq,Bool.true_and,acR,adJ]at h
   rw[aa8]
   omega
 . have e:(λ(i:Nat)=>x.cps[i]?)=(λ(i:Nat)=>x.cps.toList[i]?):=by funext i;simp
   show (List.filterMap (λ(i:Nat)=>x.cps[i]?) (List.range (min k x.length))).toArray.toList=_
   rw[List.toList_toArray,e,sQ _ _ (by omega)]
   rcases Nat.le_total k x.length with h|h
   . rw[aeI h]
   . rw[Nat.min_eq_right h,aa8 (by omega),aa8 (by omega)]
noncomputable def aB:List Nat:=(List.range 26).map (· + 97)
theorem gA{c:Nat} : c∈aB ↔ 97<=c/\c<=122:=by
 unfold aB
 simp only[aak,adm]
 constructor
 . rintro⟨a,h,rfl⟩;omega
 . intro h;exact⟨c-97,by omega,by omega⟩
noncomputable def isName(n:List Nat):Prop:=1<=n.length/\n.length<=8/\∀c∈n,c∈aB
noncomputable def tV(n:List Nat):List (List Nat):=
 [n]++aB.map (λc=>n.take 7++[c])++aB.map (λc=>n.take 6++[c,113])++aB.map (λc=>n.take 6++[c,122])++aB.map (λc=>n.take 5++[c,113,122])
theorem Ez{n x:List Nat}(hn:isName n)(hx:x∈tV n):isName x:=by
 obtain⟨h1,h2,h3⟩:=hn
 have tk:∀k,∀c∈n.take k,c∈aB:=λk c hc=>h3 c (abN hc)
 have GN:113∈aB:=by decide
 have GO:122∈aB:=by decide
 unfold tV at hx
 simp only[aae,aai,aak]at hx
 rcases hx with (((rfl|⟨c,hc,rfl⟩)|⟨c,hc,rfl⟩)|⟨c,hc,rfl⟩)|⟨c,hc,rfl⟩
 . exact⟨h1,h2,h3⟩
 all_goals
  refine⟨by simp,by simp only[aaf,aa3,abl,ac7];omega,λd hd=>?_⟩
  simp only[aae,aal,aaH,abF]at hd
  rcases hd with hd|hd
  . exact tk _ d hd
  . rcases hd with rfl|hd <;> first|exact hc|(rcases hd with rfl|hd <;> first|exact GN|exact GO|(rcases hd with rfl <;> first|exact GN|exact GO))|(subst hd;first|exact GN|exact GO)
noncomputable def sub(n:List Nat):List (List Nat):=
 (aB.filter λc=>decide (c≠113/\c≠122)).map (λc=>n.take 7++[c])++aB.map (λc=>n.take 6++[c,113])++aB.map (λc=>n.take 6++[c,122])
  ++ (aB.filter λc=>decide (some c≠n[5]?)).map (λc=>n.take 5++[c,113,122])
theorem GQ{n x:List Nat}(h:x∈sub n):x∈tV n:=by
 unfold sub at h
 unfold tV
 simp only[aae,aai,aak,aap]at h ⊢
 rcases h with ((⟨c,⟨hc,_⟩,rfl⟩|⟨c,hc,rfl⟩)|⟨c,hc,rfl⟩)|⟨c,⟨hc,_⟩,rfl⟩
 . exact .inl (.inl (.inl (.inr ⟨c,hc,rfl⟩)))
 . exact .inl (.inl (.inr ⟨c,hc,rfl⟩))
 . exact .inl (.inr ⟨c,hc,rfl⟩)
 . exact .inr ⟨c,hc,rfl⟩
theorem jy:aB.Nodup:=by decide
theorem iZ{l:List Nat}(hl:l.Nodup)(p q:List Nat):(l.map λc=>p++c::q).Nodup:=by
 induction l with
 | nil=>exact acg
 | cons a l ih=>
  obtain⟨h1,h2⟩:=aa0.mp hl
  rw[aay,aa0]
  refine⟨λh=>?_,ih h2⟩
  obtain⟨b,hb,e⟩:=aak.mp h
  have:=List.append_cancel_left e
  injection this with e1 _
  exact h1 (e1 ▸ hb)
theorem Kp{p:List Nat}{a:Nat} : (p++[a]).getLast?=some a:=by simp
theorem EA(n:List Nat):(sub n).Nodup:=by
 unfold sub
 have Cz:∀x∈aB.map (λc=>n.take 6++[c,113]),x.getLast?=some 113:=λx hx=>by
  obtain⟨c,_,rfl⟩:=aak.mp hx
  simp
 have Iy:∀x∈aB.map (λc=>n.take 6++[c,122]),x.getLast?=some 122:=λx hx=>by
  obtain⟨c,_,rfl⟩:=aak.mp hx
  simp
 have Iz:∀x∈(aB.filter λc=>decide (some c≠n[5]?)).map (λc=>n.take 5++[c,113,122]),x.getLast?=some 122:=λx hx=>by
  obtain⟨c,_,rfl⟩:=aak.mp hx
  simp
 have CI:∀x∈(aB.filter λc=>decide (c≠113/\c≠122)).map (λc=>n.take 7++[c]),x.getLast?≠some 113/\x.getLast?≠some 122:=λx hx=>by
  obtain⟨c,hc,rfl⟩:=aak.mp hx
  obtain⟨_,hc⟩:=aap.mp hc
  have bY:=aba hc
  rw[Kp]
  exact⟨λe=>bY.1 (aaS e),λe=>bY.2 (aaS e)⟩
 refine aav.mpr ⟨aav.mpr ⟨aav.mpr ⟨iZ (jy.filter _) _ _,iZ jy _ _,?_⟩,iZ jy _ _,?_⟩,iZ (jy.filter _) _ _,?_⟩
 . intro a ha b hb e
   exact(CI a ha).1 (e ▸ Cz b hb)
 . intro a ha b hb e
   rcases aae.mp ha with ha|ha
   . exact(CI a ha).2 (e ▸ Iy b hb)
   . have:=Cz a ha
     rw[e,Iy b hb]at this
     cases this
 . intro a ha b hb e
   rcases aae.mp ha with ha|ha
   . rcases aae.mp ha with ha|ha
     . exact(CI a ha).2 (e ▸ Iz b hb)
     . have:=Cz a ha
       rw[e,Iz b hb]at this
       cases this
   . obtain⟨c,_,rfl⟩:=aak.mp ha
     obtain⟨d,hd,rfl⟩:=aak.mp hb
     obtain⟨_,hd⟩:=aap.mp hd
     have hd':some d≠n[5]?:=aba hd
     rcases aeH 5 n.length with hl|hl
     . -- both have eight letters
       have e5:(n.take 6++[c,122])[5]?=(n.take 5++[d,113,122])[5]?:=by rw[e]
       have t6:(n.take 6).length=6:=by rw[aa3];omega
       have t5:(n.take 5).length=5:=by rw[aa3];omega
       rw[abt (by omega),abA (by omega),t5,List.getElem?_take]at e5
       simp at e5
       exact hd' e5.symm
     . have el:=congrArg List.length e
       simp only[aaf,aa3,abl,ac7]at el
       omega
theorem CJ(n:List Nat):100<=(sub n).length:=by
 unfold sub
 simp only[aaf,aaa]
 have h1:aB.length=26:=by decide
 have h2:(aB.filter λc=>decide (c≠113/\c≠122)).length=24:=by decide
 have h3:25<=(aB.filter λc=>decide (some c≠n[5]?)).length:=by
  cases n[5]? with
  | none=>
   have:(aB.filter λc=>decide (some c≠none))=aB:=abI.mpr λc _=>by simp
   rw[this,h1]
   decide
  | some d=>
   have e:(aB.filter λc=>decide (some c≠some d))=aB.filter λc=>c != d:=by
    apply acr
    intro c _
    by_cases h:c=d
    . subst h;simp
    . simp[h]
   rw[e]
   by_cases hd:d∈aB
   . obtain⟨a,b⟩:=gA.mp hd
     have:∀k,k<26->25<=(aB.filter λc=>c != k+97).length:=by decide
     have:=this (d-97) (by omega)
     rw[show d-97+97=d by omega]at this
     exact this
   . have:(aB.filter λc=>c != d)=aB:=abI.mpr λc hc=>by
      have:c≠d:=λe=>hd (e ▸ hc)
      simpa using this
     rw[this,h1]
     decide
 rw[h1,h2]
 omega
theorem EB(n:List Nat) (told:List (List Nat)) (h:told.length<100):∃x∈tV n,x∉told:=by
 apply ad4
 intro hx
 have all:∀x∈sub n,x∈told:=λx hs=>ad4 λht=>hx ⟨x,GQ hs,ht⟩
 have:=yS (sub n) told (EA n) all
 have:=CJ n
 omega
theorem qE:("" : Str).cps.toList=[]:=by decide+kernel
theorem Qt:("q" : Str).cps.toList=[113]:=by decide+kernel
theorem Qu:("z" : Str).cps.toList=[122]:=by decide+kernel
theorem Mb:("qz" : Str).cps.toList=[113,122]:=by decide+kernel
theorem vV:("abcdefghijklmnopqrstuvwxyz" : Str).cps.toList=aB:=by decide+kernel
theorem n9(a b:Str):(a++b).cps.toList=a.cps.toList++b.cps.toList:=by rw[Str.cps_append,aeU]
theorem yT:∀ys:List Str,(Str.join "" ys).cps.toList=(ys.map (·.cps.toList)).flatten
 | []=>rfl
 | [x]=>by simp[Str.join]
 | x::y::r=>by
  have ih:=yT (y::r)
  show (x ++ "" ++ Str.join "" (y::r)).cps.toList=_
  rw[n9,n9,ih,qE]
  simp
theorem EC(ys:List Str):(Txt.join "" ys).cps.toList=(ys.map (·.cps.toList)).flatten:=by
 unfold Txt.join
 rw[StrLaws.glued_eq_join]
 exact yT ys
noncomputable def c7(n:Str):List Str:=aB.map λc=>Txt.slice n none (some 7)++⟨#[c]⟩
noncomputable def IA(n:Str):List Str:=aB.map λc=>Txt.slice n none (some 6)++⟨#[c]⟩ ++ "q"
noncomputable def IB(n:Str):List Str:=aB.map λc=>Txt.slice n none (some 6)++⟨#[c]⟩ ++ "z"
noncomputable def c5(n:Str):List Str:=aB.map λc=>Txt.slice n none (some 5)++⟨#[c]⟩ ++ "qz"
noncomputable def dq(n:Str):List Str:=[n]++c7 n++IA n++IB n++c5 n
theorem xu(n:Str):(dq n).map (·.cps.toList)=tV n.cps.toList:=by
 have s7:=tU n 7
 have s6:=tU n 6
 have s5:=tU n 5
 have e7:((7:Nat):Int)=7:=rfl
 have e6:((6:Nat):Int)=6:=rfl
 have e5:((5:Nat):Int)=5:=rfl
 rw[e7]at s7
 rw[e6]at s6
 rw[e5]at s5
 unfold dq tV c7 IA IB c5
 simp only[aag,aa1,aay,ace,Function.comp_def,n9,s7,s6,s5,Qt,Qu,Mb,abo,List.cons_append,abV]
theorem Br{a b:Str}(h:a.cps.toList=b.cps.toList):a=b:=Str.ext' (aes.mp h)
noncomputable def aT(z:Str):Prop:=isName z.cps.toList
theorem CK{n z:Str}(hn:aT n)(hz:z∈dq n):aT z:=by
 refine Ez hn ?_
 rw[← xu]
 exact aak.mpr ⟨z,hz,rfl⟩
theorem CQ(n:Str)(told:List Str)(h:told.length<100):∃x∈dq n,x∉told:=by
 obtain⟨x,hx,ht⟩:=EB n.cps.toList (told.map (·.cps.toList)) (by simpa using h)
 rw[← xu]at hx
 obtain⟨z,hz,rfl⟩:=aak.mp hx
 exact⟨z,hz,λhm=>ht (aak.mpr ⟨z,hm,rfl⟩)⟩
noncomputable def fK:List Str:=["switch", "keep", "gate", "next", "never", "some", "wall", "row", "step", "piece", "lasso"]
theorem A8:Txt.split "switch keep gate next never some wall row step piece lasso" " " = fK:=by decide+kernel
theorem A9:∀x∈fK,aT x:=by
 have h:fK.all (λx=>decide (1<=x.cps.toList.length) && decide (x.cps.toList.length<=8) && x.cps.toList.all λc=>decide (c∈aB))=true:=by decide+kernel
 intro x hx
 have:=abK.mp h x hx
 simp only[abu,abb,abK]at this
 exact⟨this.1.1,this.1.2,this.2⟩
theorem aT.len{z:Str}(h:aT z):z.length<=8:=by
 have:=h.2.1
 simpa[Str.length]using this
theorem Ba{ys:List Str}(h1:1<=ys.length)(h2:ys.length<=8)(h:∀y∈ys,∃c∈aB,y=⟨#[c]⟩):aT (Txt.join "" ys):=by
 have e:∀zs:List Str,(∀y∈zs,∃c∈aB,y=⟨#[c]⟩)->(zs.map (·.cps.toList)).flatten.length=zs.length/\∀c∈(zs.map (·.cps.toList)).flatten,c∈aB:=by
  intro zs
  induction zs with
  | nil=>intro _;exact⟨rfl,λc hc=>by simp at hc⟩
  | cons z zs ih=>
   intro hz
   obtain⟨c,hc,rfl⟩:=hz z aaR
   obtain⟨i1,i2⟩:=ih λy hy=>hz y (aaz _ hy)
   refine⟨?_,λd hd=>?_⟩
   . rw[aay,ae3,aaf,i1]
     simp
     omega
   . rw[aay,ae3,aae]at hd
     rcases hd with hd|hd
     . have:d=c:=by simpa using hd
       rw[this];exact hc
     . exact i2 d hd
 obtain⟨e1,e2⟩:=e ys h
 unfold aT isName
 rw[EC,e1]
 exact⟨h1,h2,e2⟩
end Gen
namespace Gen
open PySem L2
noncomputable def top(i:Nat):Stmt:=PySem.Challenge.pw_everguard_k48_cones.main.body.getD i (.Pass ⟨0,0,0,0⟩)
noncomputable abbrev CS:Stmt:=top 16
noncomputable abbrev CU:Stmt:=top 17
noncomputable abbrev CW:Stmt:=top 18
noncomputable abbrev sr:Stmt:=top 19
noncomputable abbrev oa:Stmt:=top 20
noncomputable abbrev o9:Stmt:=top 21
noncomputable abbrev vW:Stmt:=top 22
noncomputable abbrev gi:Stmt:=top 23
noncomputable abbrev kr:Stmt:=top 24
structure Own(mg:Str->Option Value):Prop where
 len:mg "len" = none
 range:mg "range" = none
 enum:mg "enumerate" = none
 list:mg "list" = none
noncomputable def eR(xs:List V):Prop:=(∃a:Int,xs=[.int a])\/∃a b:Int,xs=[.int a,.int b]
noncomputable def aI(H H':Hp)(l:Addr):Prop:=∀b o,H b=some o->b≠l->H' b=some o
theorem aI.trans{H H1 H2:Hp}{l:Addr}(a:aI H H1 l)(b:aI H1 H2 l):aI H H2 l:=λc o h n=>b c o (a c o h n) n
theorem ag.keep{H H':Hp}(s:ag H H')(l:Addr):aI H H' l:=λb o h _=>s b o h
theorem aI.ak{H:Hp}{l p:Addr}{o:HO}(hp:H p=none):aI H (upd H p o) l:=λb u h _=>by rw[ah (af h hp)];exact h
theorem ag.ak{H:Hp}{p:Addr}{o:HO}(hp:H p=none):ag H (upd H p o):=λb u h=>by rw[ah (af h hp)];exact h
theorem aI.og{H:Hp}{l:Addr}{o:HO} : aI H (upd H l o) l:=λb u h n=>by rw[ah n];exact h
theorem aI.seq{K:W.Frag}{H H':Hp}{a l:Addr}{xs:List V}{n:List V}(e:aI H H' l) (hl:H l=some (.lst n)) (h:aq K H a xs) (h7:a≠l):aq K H' a xs:=by
 rcases h with (h|⟨o,h⟩)|h
 . exact .inl (.inl (e a _ h h7))
 . exact .inl (.inr ⟨o,e a _ h h7⟩)
 . exact .inr h
noncomputable def qF(K:W.Frag):Sp:=λvs H Q _=>∃(a:Addr) (ns:List Int) (k:Int),vs=[.ref a,.int k]/\aq K H a (ns.map V.int)/\0<=k/\∀v:Int,Q (.int v) H
noncomputable def uR:Sp:=λvs H Q _=>∃(c k:Int),vs=[.int c,.int k]/\0<=k/\k<=1000000/\∀v:Int,0<=v->v<1999999973->Q (.int v) H
noncomputable def uS:Sp:=λvs H Q _=>∃(c k:Int),vs=[.int c,.int k]/\0<=k/\k<=1000/\∀v:Int,Q (.int v) H
noncomputable def qG:Sp:=λvs H Q _=>∃(l:Addr) (xs:List V) (m:Int),vs=[.ref l,.int m]/\H l=some (.lst xs)/\eR xs/\0<m/\m<1073741824/\
 ∀(d:Int) (ys:List V) (H':Hp),0<=d->d<m->eR ys->H' l=some (.lst ys)->aI H H' l->Q (.int d) H'
section
variable {P:Program}{w:World}{K:W.Frag}{mg:Str->Option Value}{base:Heap}
theorem Mc:aK ["_law_script", "_law_k"] ["_law_script", "_law_k"] (aw CS):=⟨rfl,rfl,rfl,by decide+kernel,rfl,by decide+kernel,by decide+kernel⟩
theorem Kq{f:Addr}{fd:FuncData}(F:aQ K "_law_cell_at" "_law_cell_at" CS f fd)(T:Own mg):aP P w K mg base aZ 1 f fd ["_law_script", "_law_k"] (qF K):=by
 refine F.ok Mc (λvs H Q E h=>?_) (λcdv A outer s H vs Q E hr h=>?_)
 . obtain⟨a,ns,k,rfl,_⟩:=h
   rfl
 . obtain⟨a,ns,k,rfl,hS,h0,kk⟩:=h
   refine⟨_,aj (cU (bh Im (pv 1) (ef cy (by rfl) T.len abS (aa (pv 0) ai)) (cQ _)) (av (aJ (aF bG (pv 0) (pv 1) (λ_ _=>rfl)))) bN)
    (av (aJ ao)),?_⟩
   refine⟨_,rfl,_,rfl,a,_,rfl,.inl hS,_,_,rfl,rfl,_,rfl,?_⟩
   refine j3 (λhc=>?_) (λ_=>kk 0)
   have bY:k<((ns.map V.int).length:Int):=aba hc
   rw[aaa]at bY
   have hk:k.toNat<ns.length:=by omega
   have e:((k.toNat:Nat):Int)=k:=by omega
   have mH:gn (ns.map V.int) ((k.toNat:Nat):Int)=some (.int ns[k.toNat]):=fi (by rw[aan,aad hk];rfl)
   rw[e]at mH
   exact⟨_,rfl,_,rfl,a,_,_,.int ns[k.toNat],rfl,rfl,hS,mH,kk _⟩
theorem IC:aK ["_law_cell", "_law_k", "_law_m"] ["_law_cell", "_law_k"] (aw CU):=⟨rfl,rfl,rfl,by decide+kernel,rfl,by decide+kernel,by decide+kernel⟩
theorem ED{f:Addr}{fd:FuncData}(F:aQ K "_law_mix" "_law_mix" CU f fd):aP P w K mg base aZ 1 f fd ["_law_cell", "_law_k"] uR:=by
 refine F.ok IC (λvs H Q E h=>?_) (λcdv A outer s H vs Q E hr h=>?_)
 . obtain⟨c,k,rfl,_⟩:=h
   rfl
 . obtain⟨c,k,rfl,h0,h1,kk⟩:=h
   refine⟨_,aj (bq (i:=2) IC.nd rfl (Or.inl rfl) (az dY (az jV (az eV (az eV (az dY (pv 0) ao) (az jV (az jV (pv 1) (pv 1)) ao)) ao) ao) ao))
    (av (aJ (az dY (az jV (pv 2) (pv 2)) ao))),?_⟩
   refine⟨_,rfl,_,_,rfl,rfl,(by show (0:Int)<2147483629;decide),_,rfl,_,rfl,_,_,rfl,rfl,.inl ⟨by omega,by omega⟩,_,_,rfl,rfl,.inr ⟨by decide,by decide⟩,_,_,rfl,rfl,_,_,rfl,rfl,
    _,_,rfl,rfl,.inr ⟨by decide,by decide⟩,_,_,rfl,rfl,(by show (0:Int)<2147483647;decide),?_⟩
   generalize hm:((c % 2147483629+k*k*7919+11)*48271 % 2147483647:Int)=m
   have m0:0<=m:=by rw[← hm];exact abW _ (by decide)
   have m1:m<2147483647:=by rw[← hm];exact abP _ (by decide)
   refine⟨_,rfl,_,rfl,_,_,rfl,rfl,.inl ⟨by omega,by omega⟩,_,_,rfl,rfl,(by show (0:Int)<1999999973;decide),?_⟩
   exact kk _ (abW _ (by decide)) (abP _ (by decide))
theorem uT:aK ["_law_cell", "_law_k", "_law_number", "_law_j"] ["_law_cell", "_law_k"] (aw CW):=⟨rfl,rfl,rfl,by decide+kernel,rfl,by decide+kernel,by decide+kernel⟩
theorem Kr{f fM:Addr}{fd Md:FuncData}(F:aQ K "_law_rich" "_law_rich" CW f fd)(T:Own mg)(FM:aQ K "_law_mix" "_law_mix" CU fM Md)(bM:Binds K Md ["_law_cell", "_law_k"] []) (mM:mg "_law_mix" = some (.ref fM)) :
 aP P w K mg base aZ 2 f fd ["_law_cell", "_law_k"] uS:=by
 have GM:aP P w K mg base aZ 1 fM Md ["_law_cell", "_law_k"] uR:=ED FM
 refine F.ok uT (λvs H Q E h=>?_) (λcdv A outer s H vs Q E hr h=>?_)
 . obtain⟨c,k,rfl,_⟩:=h
   rfl
 . obtain⟨c,k,rfl,h0,h1,kk⟩:=h
   refine⟨_,aj (bq (i:=2) uT.nd rfl (Or.inl rfl) ao)
    (aj (dU aa6 rfl (dh rfl T.range (aa ao ai)) (ar (i:=3) uT.nd rfl (Or.inl rfl))
     (av (bq (i:=2) uT.nd rfl (Or.inl rfl) (az eV (az jV (pv 2) ao) (aU GM hr rfl mM FM.kp bM .nil bw (aa (pv 0) (aa (az eV (az jV ao (pv 1)) (pv 3)) ai)))))))
    (av (aJ (pv 2)))),?_⟩
   refine⟨12,rfl,by decide,by decide,ib (n:=12) (λi σ H2=>H2=H/\∃(n:Int) (v:Option V),σ=[some (.int c),some (.int k),some (.int n),v]) ⟨rfl,0,none,rfl⟩ ?_ ?_⟩
   . rintro i σ H2 hi ⟨rfl,n,v,rfl⟩
     refine⟨_,rfl,_,_,rfl,rfl,.inr ⟨by decide,by decide⟩,_,rfl,_,rfl,_,_,rfl,rfl,.inl ⟨by decide,by decide⟩,_,rfl,_,_,rfl,rfl,?_⟩
     refine⟨_,_,rfl,by omega,by omega,λv hv0 hv1=>⟨_,_,rfl,rfl,rfl,_,_,rfl⟩⟩
   . rintro σ H2 ⟨rfl,n,v,rfl⟩
     exact⟨_,rfl,kk n⟩
theorem EE:aK ["_law_left", "_law_many", "_law_digit"] ["_law_left", "_law_many"] (aw sr):=⟨rfl,rfl,rfl,by decide+kernel,rfl,by decide+kernel,by decide+kernel⟩
theorem vX{f:Addr}{fd:FuncData}(F:aQ K "_law_pick" "_law_pick" sr f fd)(T:Own mg):aP P w K mg base aZ 1 f fd ["_law_left", "_law_many"] qG:=by
 refine F.ok EE (λvs H Q E h=>?_) (λcdv A outer s H vs Q E hr h=>?_)
 . obtain⟨l,xs,m,rfl,_⟩:=h
   rfl
 . obtain⟨l,xs,m,rfl,hl,hp,m0,m1,kk⟩:=h
   refine⟨_,aj (cU (uD (bh gp (aF bG (pv 0) ao (λ_ _=>rfl)) (bF (aa ao (aa (r8 nW ao) ai))) (by with_unfolding_all rfl))
    (rY (bh yi (ef cy (by rfl) T.len abS (aa (pv 0) ai)) ao (cQ _)))).pt
    (av (yB (qz aaX aeJ aeK Ei (pv 0)) (DV (pv 0) ao set_list))) bN)
    (aj (bq (i:=2) EE.nd rfl (Or.inl rfl) (az dY (aF bG (pv 0) ao (λ_ _=>rfl)) (pv 1)))
    (aj (yB (az jG (aF bG (pv 0) ao (λ_ _=>rfl)) (pv 1)) (DV (pv 0) ao set_list))
    (av (aJ (pv 2))))),?_⟩
   rcases hp with⟨a,rfl⟩|⟨a,b,rfl⟩
   . refine⟨_,rfl,l,_,_,.int a,rfl,rfl,aq.of hl,rfl,_,rfl,(by show 2<=sizeLine;decide),λt ht=>?_⟩
     have nl:l≠t:=af hl ht
     have eP:(upd H t (.tup [.int 0,.int (-1)])) l=some (.lst [.int a]):=by rw[ah nl];exact hl
     have kp:aI H (upd H t (.tup [.int 0,.int (-1)])) l:=aI.ak ht
     refine⟨t,_,rfl,.inr (aH.of ae),rfl,rfl,_,rfl,?_⟩
     refine j3 (λ_=>?_) (λ_=>bQ ?_)
     . refine⟨_,rfl,l,_,rfl,.inl (aq.of eP),_,_,rfl,rfl,_,rfl,?_⟩
       refine j3 (λh=>absurd (aba h) (by show ¬ (1:Int)<((1:Nat):Int);decide)) (λ_=>?_)
       refine⟨_,rfl,l,_,_,.int a,rfl,rfl,aq.of eP,rfl,_,rfl,_,_,rfl,rfl,m0,?_⟩
       refine⟨_,rfl,l,_,_,.int a,rfl,rfl,aq.of eP,rfl,_,rfl,_,_,rfl,rfl,⟨m0,m1⟩,_,rfl,l,_,_,0,rfl,rfl,eP,rfl,?_⟩
       exact⟨_,rfl,kk _ _ _ (abW _ (by omega)) (abP _ m0) (.inl ⟨_,rfl⟩) ae (kp.trans aI.og)⟩
     . refine⟨_,rfl,l,_,_,.int a,rfl,rfl,aq.of eP,rfl,_,rfl,_,_,rfl,rfl,m0,?_⟩
       refine⟨_,rfl,l,_,_,.int a,rfl,rfl,aq.of eP,rfl,_,rfl,_,_,rfl,rfl,⟨m0,m1⟩,_,rfl,l,_,_,0,rfl,rfl,eP,rfl,?_⟩
       exact⟨_,rfl,kk _ _ _ (abW _ (by omega)) (abP _ m0) (.inl ⟨_,rfl⟩) ae (kp.trans aI.og)⟩
   . refine⟨_,rfl,l,_,_,.int a,rfl,rfl,aq.of hl,rfl,_,rfl,(by show 2<=sizeLine;decide),λt ht=>?_⟩
     have nl:l≠t:=af hl ht
     have eP:(upd H t (.tup [.int 0,.int (-1)])) l=some (.lst [.int a,.int b]):=by rw[ah nl];exact hl
     have kp:aI H (upd H t (.tup [.int 0,.int (-1)])) l:=aI.ak ht
     refine⟨t,_,rfl,.inr (aH.of ae),rfl,rfl,_,rfl,?_⟩
     refine j3 (λ_=>?_) (λ_=>bQ ?_)
     . refine⟨_,rfl,l,_,rfl,.inl (aq.of eP),_,_,rfl,rfl,_,rfl,?_⟩
       refine j3 (λ_=>?_) (λh=>absurd (aaU (show (1:Int)<((2:Nat):Int) by decide)) h)
       refine⟨_,rfl,.inl ⟨rfl,_,aq.of eP⟩,l,_,.int b,rfl,rfl,eP,rfl,_,rfl,l,_,_,0,rfl,rfl,ae,rfl,?_⟩
       refine⟨_,rfl,l,_,_,.int b,rfl,rfl,aq.of ae,rfl,_,rfl,_,_,rfl,rfl,m0,?_⟩
       refine⟨_,rfl,l,_,_,.int b,rfl,rfl,aq.of ae,rfl,_,rfl,_,_,rfl,rfl,⟨m0,m1⟩,_,rfl,l,_,_,0,rfl,rfl,ae,rfl,?_⟩
       exact⟨_,rfl,kk _ _ _ (abW _ (by omega)) (abP _ m0) (.inl ⟨_,rfl⟩) ae (((kp.trans aI.og).trans aI.og).trans aI.og)⟩
     . refine⟨_,rfl,l,_,_,.int a,rfl,rfl,aq.of eP,rfl,_,rfl,_,_,rfl,rfl,m0,?_⟩
       refine⟨_,rfl,l,_,_,.int a,rfl,rfl,aq.of eP,rfl,_,rfl,_,_,rfl,rfl,⟨m0,m1⟩,_,rfl,l,_,_,0,rfl,rfl,eP,rfl,?_⟩
       exact⟨_,rfl,kk _ _ _ (abW _ (by omega)) (abP _ m0) (.inr ⟨_,_,rfl⟩) ae (kp.trans aI.og)⟩
end
theorem small{n:Nat}(h:n<=1000):n<sizeLine:=xm h
theorem iL{n:Nat}(h:n<=1000):n<=sizeLine:=ado (xm h)
noncomputable def su(K:W.Frag):Sp:=λvs H Q _=>∃(l t:Addr) (xs:List V) (told:List Str),vs=[.ref l,.ref t]/\H l=some (.lst xs)/\eR xs/\t≠l/\aq K H t (told.map V.str)/\told.length<100/\
 ∀(z:Str) (ys:List V) (H':Hp),aT z->z∉told->eR ys->H' l=some (.lst ys)->aI H H' l->Q (.str z) H'
theorem oh(z:Str)(told:List Str):g0 (.str z) (told.map V.str)=decide (z∈told):=by
 unfold g0
 rw[abH,aet,abb]
 constructor
 . rintro⟨v,hv,e⟩
   obtain⟨y,hy,rfl⟩:=aak.mp hv
   have:y=z:=by simpa[lr]using e
   rw[← this];exact hy
 . intro h
   exact⟨.str z,aak.mpr ⟨z,h,rfl⟩,by simp[lr]⟩
theorem EF(told:List Str):(told.map V.str).all jx=true:=by
 rw[abK]
 intro v hv
 obtain⟨y,_,rfl⟩:=aak.mp hv
 rfl
theorem EG{i:Nat}{c:Nat}(h:("abcdefghijklmnopqrstuvwxyz" : Str).cps[i]?=some c):aB[i]?=some c:=by
 rw[← vV]
 simpa using h
theorem qH{α β:Type}{l:List α}{i:Nat}{c:α}(f:α->β)(h:l[i]?=some c):(l.take (i+1)).map f=(l.take i).map f++[f c]:=by
 rw[ae4,h]
 simp
theorem fg{i:Nat}{x:V}{σ:St}{H:Hp}{A B:St->Hp->Prop}(h:A (σ.set i (some x)) H):bO i x σ H (λeU H2=>vR eU H2 (λb H3=>if b=true then A eU H3 else B eU H3)):=by
 show (if true=true then A (σ.set i (some x)) H else B (σ.set i (some x)) H)
 rw[aa4 rfl]
 exact h
theorem Qv:(["_law_k", "_law_left", "_law_letters"]:List Str).Nodup:=by decide+kernel
theorem CY:(["_law_one", "_law_name"]:List Str).Nodup:=by decide+kernel
theorem Ut:(["_law_one", "_law_told"]:List Str).Nodup:=by decide+kernel
section
variable {P:Program}{w:World}{K:W.Frag}{mg:Str->Option Value}{base:Heap}
noncomputable abbrev EH:List Str:=["_law_left", "_law_told", "_law_letters", "_law_words", "_law_size", "_law_name", "_law_some"]
theorem jJ:aK EH ["_law_left", "_law_told"] (aw oa):=⟨rfl,rfl,rfl,by decide+kernel,rfl,by decide+kernel,by decide+kernel⟩
theorem ma{D:Addr}{te:TE}{Q:Hp->Prop}{H1:Hp}{nm:Str}(f:Nat->Str)(hD:H1 D=none)
 (he:∀(c:Nat) (H:Hp) (R:VK),c∈aB->R (.str (f c)) H->te [some (.str ⟨#[c]⟩),some (.str nm)] H R)
 (fin:Q (upd H1 D (.lst ((aB.map f).map V.str)))) :
 ∃W:Nat->Nat->St->Hp->Prop,(∃m,W 0 m [none,some (.str nm)] (upd H1 D (.lst [])))/\qC D (bO 0) vR te (L8 "abcdefghijklmnopqrstuvwxyz") W Q:=by
 have hsz:("abcdefghijklmnopqrstuvwxyz" : Str).cps.size=26:=by decide+kernel
 have uU:aB.length=26:=by decide
 refine gr 26 (λi acc σ H=>acc=((aB.take i).map f).map V.str/\(∃v,σ=[v,some (.str nm)])/\H=upd H1 D (.lst acc)) ⟨rfl,⟨none,rfl⟩,rfl⟩ ae ?_ ?_
 . rintro acc σ H _ ⟨rfl,_,rfl⟩
   refine⟨hsz.symm,?_⟩
   rw[aa8 (by rw[uU];decide)]
   exact fin
 . rintro i acc σ H hi bf ⟨rfl,⟨v,rfl⟩,rfl⟩
   refine⟨by show i<_;rw[hsz];exact hi,?_⟩
   rintro x H' ⟨rfl,c,hc,rfl⟩
   have bY:=EG hc
   refine fg ?_
   refine he c _ _ (aaT bY) ?_
   refine⟨_,ae,?_,cp hi ae ⟨?_,⟨_,rfl⟩,?_⟩⟩
   . rw[aaa,aaa,aa3]
     exact small (by omega)
   . rw[qH f bY,aag]
     rfl
   . rw[jF]
theorem yU:∀zs:List Str,(∀y∈zs,∃c∈aB,y=⟨#[c]⟩)->(zs.map (·.length)).sum=zs.length
 | [],_=>rfl
 | z::zs,h=>by
  obtain⟨c,_,rfl⟩:=h z aaR
  have ih:=yU zs λy hy=>h y (aaz _ hy)
  rw[aay,List.sum_cons,ih,abl]
  show 1+zs.length=zs.length+1
  omega
theorem tW(n:Str)(h:aT n)(k:Int):(Txt.slice n none (some k)).length<=8:=aao (Txt.slice_le n _ _) h.len
theorem iB(c:Nat):(⟨#[c]⟩:Str).length=1:=rfl
theorem qI(a b:Str):(a++b).length=a.length+b.length:=Str.length_append a b
theorem gu{n:Nat}(h:n<=100):n<=sizeLine:=aao h (by decide)
noncomputable abbrev Ks(P:Program)(w:World)(K:W.Frag)(mg:Str->Option Value)(base:Heap)(f:Addr)(cdv:Value)(A:Around)(outer:List Env)(s:Shared)(H:Hp)(E:XK):Cx:=
 (jj aZ P w K mg base EH "_law_spelt" (aw oa) f cdv A outer s H E).m8
noncomputable abbrev jK:Str:="abcdefghijklmnopqrstuvwxyz"
theorem CZ{f:Addr}{cdv:Value}{A:Around}{outer:List Env}{s:Shared}{H:Hp}{E:XK}{Q:VK}{l t:Addr}{told:List Str}(hS:aq K H t (told.map V.str)) (h7:t≠l) (c8:told.length<100) (uN:∃xs,H l=some (.lst xs))
 (kk:∀(z:Str) (ys:List V) (H':Hp),aT z->z∉told->eR ys->H' l=some (.lst ys)->aI H H' l->Q (.str z) H') :
 ∃tR:TS,gj (Ks P w K mg base f cdv A outer s H E) (List.drop 5 (cu oa)) tR/\∀(nm:Str) (ys:List V) (H4:Hp) (w1:Addr) (sz:Int),aT nm->eR ys->H4 l=some (.lst ys)->aI H H4 l->
  tR {nx:=λ_ H'=>Q .aM H',rt:=Q} [some (.ref l),some (.ref t),some (.str jK),some (.ref w1),some (.int sz),some (.str nm),none] H4:=by
 refine⟨_,aj (bq (i:=6) jJ.nd rfl (Or.inl rfl) (az hX (az hX (cf (aa (pv 5) ai))
  (b8 (N:=["_law_one", "_law_name"]) (js:=[none,some 5]) (by kernel_rfl) rfl (uO (pv 2)) (λ_ _ _ _ _ _=>ar (i:=0) CY rfl (Or.inl rfl) (.inr rfl)) (λ_ _ _ _ _ _=>bb)
   (λ_ _ _ _ _ _=>az cm (jD uP (pv 1) jH (jI ao)) (pv 0))))
  (b8 (N:=["_law_one", "_law_name"]) (js:=[none,some 5]) (by kernel_rfl) rfl (uO (pv 2)) (λ_ _ _ _ _ _=>ar (i:=0) CY rfl (Or.inl rfl) (.inr rfl)) (λ_ _ _ _ _ _=>bb)
   (λ_ _ _ _ _ _=>az cm (az cm (jD uP (pv 1) jH (jI ao)) (pv 0)) au))))
  (aj (bq (i:=6) jJ.nd rfl (Or.inl rfl) (az hX (az hX (pv 6)
   (b8 (N:=["_law_one", "_law_name"]) (js:=[none,some 5]) (by kernel_rfl) rfl (uO (pv 2)) (λ_ _ _ _ _ _=>ar (i:=0) CY rfl (Or.inl rfl) (.inr rfl)) (λ_ _ _ _ _ _=>bb)
    (λ_ _ _ _ _ _=>az cm (az cm (jD uP (pv 1) jH (jI ao)) (pv 0)) au)))
   (b8 (N:=["_law_one", "_law_name"]) (js:=[none,some 5]) (by kernel_rfl) rfl (uO (pv 2)) (λ_ _ _ _ _ _=>ar (i:=0) CY rfl (Or.inl rfl) (.inr rfl)) (λ_ _ _ _ _ _=>bb)
    (λ_ _ _ _ _ _=>az cm (az cm (jD uP (pv 1) jH (jI ao)) (pv 0)) au))))
  (av (aJ (aF bG
   (b8 (N:=["_law_one", "_law_told"]) (js:=[none,some 1]) (by kernel_rfl) rfl (ba (pv 6)) (λ_ _ _ _ _ _=>ar (i:=0) Ut rfl (Or.inl rfl) (.inr rfl))
    (λ_ _ _ _ _ _=>eQ (bh (r:=qy K true) j0 (pv 0) (pv 1) (by with_unfolding_all rfl))) (λ_ _ _ _ _ _=>pv 0)) ao (λ_ _=>rfl))))),?_⟩
 intro nm ys H4 w1 sz hn hp uV jL
 have sR:∀g:Nat->Str,((aB.map g).map V.str).length=26:=λg=>by rw[aaa,aaa];decide
 have h8:∀k:Int,nm.length<=sizeLine:=λ_=>gu (aao hn.len (by decide))
 refine⟨_,rfl,(by show 1<=sizeLine;decide),λp1 EI=>?_⟩
 refine⟨_,rfl,jK,rfl,λD1 mJ=>ma (nm:=nm) (λc=>Txt.slice nm none (some 7)++⟨#[c]⟩) mJ (λc H R hc hR=>?_) ?_⟩
 . refine⟨_,rfl,_,rfl,nm,7,rfl,rfl,rfl,h8 0,_,rfl,_,_,rfl,rfl,?_,hR⟩
   have:=tW nm hn 7
   rw[iB]
   exact gu (by omega)
 have n1:p1≠D1:=af (ae (H:=H4)) mJ
 refine⟨p1,D1,_,_,rfl,rfl,(by rw[ah n1,ae]),ae,?_,λp2 gk=>?_⟩
 . rw[sR]
   exact gu (by show 1+26<=100;decide)
 refine⟨_,rfl,jK,rfl,λD2 iM=>ma (nm:=nm) (λc=>Txt.slice nm none (some 6)++⟨#[c]⟩ ++ "q") iM (λc H R hc hR=>?_) ?_⟩
 . refine⟨_,rfl,_,rfl,nm,6,rfl,rfl,rfl,h8 0,_,rfl,_,_,rfl,rfl,?_,_,_,rfl,rfl,?_,hR⟩
   . have:=tW nm hn 6
     rw[iB]
     exact gu (by omega)
   . have:=tW nm hn 6
     have e1:("q" : Str).length=1:=by decide+kernel
     rw[qI,iB,e1]
     exact gu (by omega)
 have n2:p2≠D2:=af (ae (H:=_)) iM
 refine⟨p2,D2,_,_,rfl,rfl,(by rw[ah n2,ae]),ae,?_,λp3 ni=>?_⟩
 . rw[aaf,sR,sR]
   exact gu (by show 1+26+26<=100;decide)
 refine⟨_,rfl,_,rfl,jK,rfl,λD3 ly=>ma (nm:=nm) (λc=>Txt.slice nm none (some 6)++⟨#[c]⟩ ++ "z") ly (λc H R hc hR=>?_) ?_⟩
 . refine⟨_,rfl,_,rfl,nm,6,rfl,rfl,rfl,h8 0,_,rfl,_,_,rfl,rfl,?_,_,_,rfl,rfl,?_,hR⟩
   . have:=tW nm hn 6
     rw[iB]
     exact gu (by omega)
   . have:=tW nm hn 6
     have e1:("z" : Str).length=1:=by decide+kernel
     rw[qI,iB,e1]
     exact gu (by omega)
 have n3:p3≠D3:=af (ae (H:=_)) ly
 refine⟨p3,D3,_,_,rfl,rfl,(by rw[ah n3,ae]),ae,?_,λp4 ke=>?_⟩
 . rw[aaf,aaf,sR,sR,sR]
   exact gu (by show 1+26+26+26<=100;decide)
 refine⟨_,rfl,jK,rfl,λD4 Bs=>ma (nm:=nm) (λc=>Txt.slice nm none (some 5)++⟨#[c]⟩ ++ "qz") Bs (λc H R hc hR=>?_) ?_⟩
 . refine⟨_,rfl,_,rfl,nm,5,rfl,rfl,rfl,h8 0,_,rfl,_,_,rfl,rfl,?_,_,_,rfl,rfl,?_,hR⟩
   . have:=tW nm hn 5
     rw[iB]
     exact gu (by omega)
   . have:=tW nm hn 5
     have e1:("qz" : Str).length=2:=by decide+kernel
     rw[qI,iB,e1]
     exact gu (by omega)
 have n4:p4≠D4:=af (ae (H:=_)) Bs
 refine⟨p4,D4,_,_,rfl,rfl,(by rw[ah n4,ae]),ae,?_,λp5 nj=>?_⟩
 . rw[aaf,aaf,aaf,sR,sR,sR,sR]
   exact iL (by show 1+26+26+26+26<=1000;decide)
 have Uu:[V.str nm]++((aB.map λc=>Txt.slice nm none (some 7)++⟨#[c]⟩).map V.str)++((aB.map λc=>Txt.slice nm none (some 6)++⟨#[c]⟩ ++ "q").map V.str)++((aB.map λc=>Txt.slice nm none (some 6)++⟨#[c]⟩ ++ "z").map V.str)
  ++ ((aB.map λc=>Txt.slice nm none (some 5)++⟨#[c]⟩ ++ "qz").map V.str)=(dq nm).map V.str:=by
  unfold dq c7 IA IB c5
  simp only[aag,aay,ace]
 rw[Uu]
 have sm:∀o5,ag H4 (upd (upd (upd (upd (upd (upd (upd (upd (upd H4 p1 _) D1 _) p2 _) D2 _) p3 _) D3 _) p4 _) D4 _) p5 o5):=λo5=>
  (((((((((ag.ak EI).trans (ag.ak mJ)).trans (ag.ak gk)).trans (ag.ak iM)).trans (ag.ak ni)).trans (ag.ak ly)).trans (ag.ak ke)).trans (ag.ak Bs)).trans (ag.ak nj))
 have Me:=sm (.lst ((dq nm).map V.str))
 generalize hG:upd _ p5 (HO.lst ((dq nm).map V.str))=G at *
 have Mf:G p5=some (.lst ((dq nm).map V.str)):=by rw[← hG,ae]
 refine⟨_,rfl,p5,rfl,⟨_,aq.of Mf⟩,λD hD=>?_⟩
 obtain⟨xs0,uN⟩:=uN
 have np:p5≠D:=af Mf hD
 have h5:∀o,(upd G D o) p5=some (.lst ((dq nm).map V.str)):=λo=>by rw[ah np];exact Mf
 have V1:∀o,aq K (upd G D o) t (told.map V.str):=λo=>ag.seq (ag.ak hD) (ag.seq Me (jL.seq uN hS h7))
 refine gr (dq nm).length (λi acc σ H=>acc=(((dq nm).take i).filter λz=>!decide (z∈told)).map V.str/\(∃v,σ=[v,some (.ref t)])/\H=upd G D (.lst acc)) ⟨rfl,⟨none,rfl⟩,rfl⟩ ae ?_ ?_
 . rintro acc σ H5 _ ⟨rfl,_,rfl⟩
   refine⟨⟨_,aq.of (h5 _),by simp⟩,?_⟩
   rw[abp]
   obtain⟨z,hz,ID⟩:=CQ nm told c8
   have RC:z∈(dq nm).filter λz=>!decide (z∈told):=aap.mpr ⟨hz,by simp[ID]⟩
   cases Mg:(dq nm).filter λz=>!decide (z∈told) with
   | nil=>rw[Mg]at RC;cases RC
   | cons z0 r=>
    have h0:z0∈(dq nm).filter λz=>!decide (z∈told):=by rw[Mg];exact aaR
    obtain⟨m1,m2⟩:=aap.mp h0
    have m3:z0∉told:=by simpa using m2
    have sl:G l=some (.lst ys):=Me l _ uV
    have nl:l≠D:=af sl hD
    exact⟨D,_,0,.str z0,rfl,rfl,aq.of ae,(fi (j:=0) (by rfl):gn _ ((0:Nat):Int)=_),kk z0 ys _ (CK hn m1) m3 hp (by rw[ah nl];exact sl) ((jL.trans (ag.keep Me l)).trans (aI.ak hD))⟩
 . rintro i acc σ H5 hi bf ⟨rfl,⟨v,rfl⟩,rfl⟩
   have yV:(dq nm)[i]?=some (dq nm)[i]:=aad hi
   have hx:((dq nm).map V.str)[i]?=some (.str (dq nm)[i]):=by rw[aan,yV];rfl
   refine⟨⟨_,_,aq.of (h5 _),hx⟩,?_⟩
   rintro x H' ⟨rfl,fE⟩
   have ex:=fE _ (aq.of (h5 _))
   rw[hx]at ex
   cases ex
   refine⟨_,rfl,_,rfl,t,_,rfl,.inl (V1 _),rfl,EF told,_,rfl,?_⟩
   have Uv:∀j,((((dq nm).take j).filter λz=>!decide (z∈told)).map V.str).length<sizeLine:=λj=>by
    rw[aaa]
    refine abU (aa7 _ _) ?_
    rw[aa3]
    have:(dq nm).length=105:=by
     unfold dq c7 IA IB c5
     simp only[aaf,aaa,aat]
     decide
    exact small (by omega)
   refine j3 (λh=>?_) (λh=>?_)
   . have uW:(dq nm)[i]∉told:=by simpa[oh]using h
     refine⟨_,rfl,_,ae,Uv i,cp hi ae ⟨?_,⟨_,rfl⟩,by rw[jF]⟩⟩
     rw[take_succ_filter _ _ _ _ yV,aa4 (by simp[uW]),aag]
     rfl
   . have uW:(dq nm)[i]∈told:=by simpa[oh]using h
     refine cp hi ae ⟨?_,⟨_,rfl⟩,rfl⟩
     rw[take_succ_filter _ _ _ _ yV,aaY (by simp[uW]),abw]
theorem yW{f fP:Addr}{fd sS:FuncData}(F:aQ K "_law_spelt" "_law_spelt" oa f fd)(T:Own mg)(FP:aQ K "_law_pick" "_law_pick" sr fP sS)(bP:Binds K sS ["_law_left", "_law_many"] []) (mP:mg "_law_pick" = some (.ref fP)) :
 aP P w K mg base aZ 2 f fd ["_law_left", "_law_told"] (su K):=by
 have GP:aP P w K mg base aZ 1 fP sS ["_law_left", "_law_many"] qG:=vX FP T
 refine F.ok jJ (λvs H Q E h=>?_) (λcdv A outer s H vs Q E hr h=>?_)
 . obtain⟨l,t,xs,told,rfl,_⟩:=h
   rfl
 . obtain⟨l,t,xs,told,rfl,hl,hp,h7,hS,c8,kk⟩:=h
   obtain⟨tR,hR,rR⟩:=CZ (P:=P) (w:=w) (mg:=mg) (base:=base) (f:=f) (cdv:=cdv) (A:=A) (outer:=outer) (s:=s) (E:=E) hS h7 c8 ⟨xs,hl⟩ kk
   refine⟨_,aj (bq (i:=2) jJ.nd rfl (Or.inr rfl) au)
    (aj (bq (i:=3) jJ.nd rfl (Or.inl rfl) (eY abZ aer PySem.F.type_str_split GJ au (aa au ai)))
    (aj (bq (i:=4) jJ.nd rfl (Or.inl rfl) (az eV ao (aU GP hr rfl mP FP.kp bP .nil bw (aa (pv 0) (aa ao ai)))))
    (aj (bq (i:=5) jJ.nd rfl (Or.inr rfl) (aF bG (pv 3) (aU GP hr rfl mP FP.kp bP .nil bw (aa (pv 0) (aa ao ai))) (λ_ _=>rfl)))
    (aj (cU (bh Im (pv 4) ao (cQ _))
     (av (bq (i:=5) jJ.nd rfl (Or.inr rfl) (eY abZ PySem.F.slot_str_join PySem.F.type_str_join Km au (aa
      (b8 (N:=["_law_k", "_law_left", "_law_letters"]) (js:=[none,some 0,some 2]) (by kernel_rfl) rfl (dh rfl T.range (aa (pv 4) ai)) (λ_ _ _ _ _ _=>ar (i:=0) Qv rfl (Or.inl rfl) (.inr rfl)) (λ_ _ _ _ _ _=>bb)
       (λ_ _ _ _ _ _=>aF lq (pv 2) (aU GP hr rfl mP FP.kp bP .nil bw (aa (pv 1) (aa ao ai))) (λ_ _=>rfl))) ai)))) bN) hR)))),?_⟩
   refine⟨rfl,_,_,rfl,rfl,(by decide+kernel),(by decide+kernel),(by decide+kernel),λw1 RD=>?_⟩
   rw[A8]
   have nw:l≠w1:=af hl RD
   refine⟨_,rfl,l,xs,9,rfl,(by rw[ah nw];exact hl),hp,by decide,by decide,λd ys H2 d0 d1 gk cx kp2=>⟨_,_,rfl,rfl,?_⟩⟩
   have V2:H2 w1=some (.lst (fK.map V.str)):=kp2 w1 _ ae (aau nw)
   refine⟨_,rfl,_,rfl,l,ys,11,rfl,cx,gk,by decide,by decide,λd2 lz H3 e0 e1 ni qK jb=>?_⟩
   have V3:H3 w1=some (.lst (fK.map V.str)):=jb w1 _ V2 (aau nw)
   have Mh:aI H H3 l:=((aI.ak RD).trans kp2).trans jb
   have hlen:fK.length=11:=by decide+kernel
   have hd2:d2.toNat<fK.length:=by rw[hlen];omega
   have V4:((d2.toNat:Nat):Int)=d2:=by omega
   have mH:gn (fK.map V.str) ((d2.toNat:Nat):Int)=some (.str fK[d2.toNat]):=fi (by rw[aan,aad hd2];rfl)
   rw[V4]at mH
   have yX:aT fK[d2.toNat]:=A9 _ (abD hd2)
   refine⟨w1,_,_,.str fK[d2.toNat],rfl,rfl,aq.of V3,mH,?_⟩
   refine⟨_,rfl,_,_,rfl,rfl,_,rfl,?_⟩
   refine j3 (λhc=>?_) (λ_=>?_)
   . have bY:(1:Int)+d<9:=aba hc
     refine⟨rfl,_,rfl,_,rfl,by omega,by omega,λD hD=>?_⟩
     have nD:l≠D:=af qK hD
     refine gr (1+d).toNat (λi acc σ H'=>∃(zs:List Str) (v:Option V) (yY:List V),acc=zs.map V.str/\zs.length=i/\(∀y∈zs,∃c∈aB,y=⟨#[c]⟩)/\σ=[v,some (.ref l),some (.str jK)]/\eR yY/\H' l=some (.lst yY)/\aI H3 H' l)
      ⟨[],none,lz,rfl,rfl,λy hy=>(by cases hy),rfl,ni,(by rw[ah nD];exact qK),aI.ak hD⟩ ae ?_ ?_
     . rintro acc σ H4 bf ⟨zs,v,yY,rfl,yZ,hz,rfl,ke,uV,jL⟩
       refine⟨aah _,?_⟩
       refine⟨"",D,zs,rfl,rfl,aq.of bf,?_,?_⟩
       . rw[yU zs hz]
         have e0:("" : Str).length=0:=by decide+kernel
         rw[e0]
         omega
       . exact rR _ yY H4 w1 _ (Ba (by omega) (by omega) hz) ke uV (Mh.trans jL)
     . rintro i acc σ H4 hi bf ⟨zs,v,yY,rfl,yZ,hz,rfl,ke,uV,jL⟩
       refine⟨hi,?_⟩
       rintro x H' ⟨rfl,rfl⟩
       refine fg ?_
       refine⟨_,rfl,_,rfl,l,yY,26,rfl,uV,ke,by decide,by decide,λd' qL H5 c0 c1 nj uX eW=>?_⟩
       have uU:aB.length=26:=by decide
       have hd':d'.toNat<aB.length:=by omega
       have V5:((d'.toNat:Nat):Int)=d':=by omega
       have Mi:gn jK.cps.toList ((d'.toNat:Nat):Int)=some aB[d'.toNat]:=fi (by rw[vV];exact aad hd')
       rw[V5]at Mi
       have Bt:H5 D=some (.lst (zs.map V.str)):=eW D _ bf (aau nD)
       refine⟨jK,d',aB[d'.toNat],rfl,rfl,(by decide+kernel),Mi,_,Bt,?_,cp hi ae ⟨zs++[⟨#[aB[d'.toNat]]⟩],_,qL,?_,?_,λy hy=>?_,rfl,nj,?_,?_⟩⟩
       . rw[aaa]
         exact small (by omega)
       . rw[aag]
         rfl
       . rw[aaf,aat,yZ]
       . rcases aae.mp hy with hy|hy
         . exact hz y hy
         . have:y=⟨#[aB[d'.toNat]]⟩:=by simpa using hy
           exact⟨_,abD hd',this⟩
       . rw[ah nD]
         exact uX
       . intro b o hb jM
         have nb:b≠D:=λz=>by rw[z,hD]at hb;cases hb
         rw[ah nb]
         exact eW b o (jL b o hb jM) jM
   . exact rR _ lz H3 w1 _ yX ni qK Mh
end
noncomputable def Lit(names:List Str)(z:Str):Prop:=z = "0" \/ z = "1" \/ ∃x∈names,z=x\/z = "~" ++ x
noncomputable def nq(K:W.Frag):Sp:=λvs H Q _=>∃(l n:Addr) (xs:List V) (names:List Str),vs=[.ref l,.ref n]/\H l=some (.lst xs)/\eR xs/\n≠l/\aq K H n (names.map V.str)/\names.length<=200/\(∀z∈names,aT z)/\
 ∀(z:Str) (ys:List V) (H':Hp),Lit names z->eR ys->H' l=some (.lst ys)->aI H H' l->Q (.str z) H'
theorem y0{names:List Str}{i:Int}(h0:0<=i)(h1:i.toNat<names.length):gn (names.map V.str) i=some (.str names[i.toNat]):=by
 have e:((i.toNat:Nat):Int)=i:=by omega
 have:=fi (xs:=names.map V.str) (j:=i.toNat) (v:=.str names[i.toNat]) (by rw[aan,aad h1];rfl)
 rw[e]at this
 exact this
section
variable {P:Program}{w:World}{K:W.Frag}{mg:Str->Option Value}{base:Heap}
theorem xw:aK ["_law_left", "_law_names", "_law_spot"] ["_law_left", "_law_names"] (aw o9):=⟨rfl,rfl,rfl,by decide+kernel,rfl,by decide+kernel,by decide+kernel⟩
theorem uY{f fP:Addr}{fd sS:FuncData}(F:aQ K "_law_literal" "_law_literal" o9 f fd)(T:Own mg)(FP:aQ K "_law_pick" "_law_pick" sr fP sS)(bP:Binds K sS ["_law_left", "_law_many"] []) (mP:mg "_law_pick" = some (.ref fP)) :
 aP P w K mg base aZ 2 f fd ["_law_left", "_law_names"] (nq K):=by
 have GP:aP P w K mg base aZ 1 fP sS ["_law_left", "_law_many"] qG:=vX FP T
 refine F.ok xw (λvs H Q E h=>?_) (λcdv A outer s H vs Q E hr h=>?_)
 . obtain⟨l,n,xs,names,rfl,_⟩:=h
   rfl
 . obtain⟨l,n,xs,names,rfl,hl,hp,h7,hS,c8,kf,kk⟩:=h
   refine⟨_,aj (bq (i:=2) xw.nd rfl (Or.inl rfl) (aU GP hr rfl mP FP.kp bP .nil bw (aa (pv 0) (aa (az eV (az jV ao (ef cy (by rfl) T.len abS (aa (pv 1) ai))) ao) ai))))
    (aj (cU (bh yi (pv 2) (az qm (az jV ao (ef cy (by rfl) T.len abS (aa (pv 1) ai))) ao) (cQ _))
     (av (aJ (aF lq au (az dY (pv 2) ao) (λ_ _=>rfl)))) bN)
    (av (aJ (az cm (aF bG (cf (aa au (aa au ai))) (az dY (pv 2) ao) (λ_ _=>rfl)) (aF bG (pv 1) (az jG (pv 2) ao) (λ_ _=>rfl)))))),?_⟩
   have el:((names.map V.str).length:Int)=(names.length:Int):=by rw[aaa]
   refine⟨_,rfl,_,rfl,n,_,rfl,.inl hS,_,_,rfl,rfl,.inl ⟨by decide,by decide⟩,_,_,rfl,rfl,l,xs,_,rfl,hl,hp,(by rw[el];omega),(by rw[el];omega),λd ys H2 d0 d1 gk cx kp2=>?_⟩
   rw[el]at d1
   have xx:aq K H2 n (names.map V.str):=kp2.seq hl hS h7
   refine⟨_,rfl,_,rfl,n,_,rfl,.inl xx,_,_,rfl,rfl,.inl ⟨by decide,by decide⟩,_,_,rfl,rfl,_,_,rfl,rfl,_,rfl,?_⟩
   have m0:0<=d % 2:=abW _ (by decide)
   have m2:d % 2<2:=abP _ (by decide)
   refine j3 (λhc=>?_) (λhc=>?_)
   . have c2:("01" : Str).cps.toList=[48,49]:=by decide+kernel
     refine⟨_,rfl,_,_,rfl,rfl,(by show (0:Int)<2;decide), "01",_,if d % 2=0 then 48 else 49,rfl,rfl,(by decide+kernel),?_,kk _ ys H2 ?_ gk cx kp2⟩
     . rw[c2]
       rcases (show d % 2=0\/d % 2=1 by omega) with e|e
       . rw[e];rfl
       . rw[e];rfl
     . rcases (show d % 2=0\/d % 2=1 by omega) with e|e
       . rw[e];exact .inl (by decide+kernel)
       . rw[e];exact .inr (.inl (by decide+kernel))
   . have bY:¬ (2*((names.map V.str).length:Int)-1<d):=λh=>hc (aaU h)
     rw[el]at bY
     refine⟨(by show 2<=sizeLine;decide),λp gG=>?_⟩
     have hd2:(d / 2).toNat<names.length:=by omega
     have IE:aq K (upd H2 p (.lst [.str "",.str "~"])) n (names.map V.str):=ag.seq (ag.ak gG) xx
     have nl:l≠p:=af cx gG
     refine⟨_,rfl,_,_,rfl,rfl,(by show (0:Int)<2;decide),p,_,_,.str (if d % 2=0 then "" else "~"),rfl,rfl,aq.of ae,?_,_,rfl,_,rfl,_,_,rfl,rfl,⟨by decide,by decide⟩,n,_,_,_,rfl,rfl,IE,y0 (by omega) hd2,_,_,rfl,rfl,?_,?_⟩
     . rcases (show d % 2=0\/d % 2=1 by omega) with e|e
       . rw[e];rfl
       . rw[e];rfl
     . have h8:=(kf _ (abD hd2)).len
       have h1:(if d % 2=0 then ("" : Str) else "~").length<=1:=by
        split
        . decide+kernel
        . decide+kernel
       exact gu (by omega)
     . refine kk _ ys _ ?_ gk (by rw[ah nl];exact cx) (kp2.trans (aI.ak gG))
       refine .inr (.inr ⟨_,abD hd2,?_⟩)
       rcases (show d % 2=0\/d % 2=1 by omega) with e|e
       . left
         rw[aa4 e]
         exact Br (by rw[n9,qE,abV])
       . right
         rw[aaY (by omega)]
end
noncomputable def aE(H:Hp)(p:Addr) (rs:List (List V)):Prop:=∃ts:List Addr,H p=some (.lst (ts.map V.ref))/\Paired (λt r=>H t=some (.tup r)) ts rs
noncomputable def bx(r:Str×Str):List V:=[.str r.1,.str r.2]
structure iC(names told:List Str) (rows:List (Str×Str)):Prop where
 nm:∀r∈rows,aT r.1
 lit:∀r∈rows,Lit names r.2
 ut:∀r∈rows,r.1∉told
 nd:(rows.map (·.1)).Nodup
theorem aE.keep{H H':Hp}{p l:Addr}{rs:List (List V)}{xs:List V}(h:aE H p rs) (k:aI H H' l) (hl:H l=some (.lst xs)) (hp:p≠l):aE H' p rs:=by
 obtain⟨ts,h1,h2⟩:=h
 exact⟨ts,k p _ h1 hp,Paired.bj h2 λt r e=>k t _ e (eX e hl (by intro z;cases z))⟩
theorem aE.same{H H':Hp}{p:Addr}{rs:List (List V)}(h:aE H p rs) (k:ag H H'):aE H' p rs:=by
 obtain⟨ts,h1,h2⟩:=h
 exact⟨ts,k p _ h1,Paired.bj h2 λt r e=>k t _ e⟩
theorem gw{α β:Type}{F:α->β->Prop} : ∀{l₁:List α}{l₂:List β}{i:Nat}{b:β},Paired F l₁ l₂->l₂[i]?=some b->∃a,l₁[i]?=some a/\F a b
 | _,_,i,b,.nil,h=>by simp at h
 | _,_,0,b,.cons h t,e=>⟨_,rfl,by simpa using (show _=_ from aaS e) ▸ h⟩
 | _,_,i+1,b,.cons h t,e=>let ⟨a,h1,h2⟩:=gw t (i:=i) (b:=b) (by simpa using e); ⟨a,by simpa using h1,h2⟩
theorem aE.snoc{H:Hp}{p t:Addr}{rs:List (List V)}{r:List V}{ts:List Addr}(h2:Paired (λt r=>H t=some (.tup r)) ts rs) (ht:H t=some (.tup r)) (hp:∀a xs,H a=some (.tup xs)->a≠p) :
 aE (upd H p (.lst (ts.map V.ref++[V.ref t]))) p (rs++[r]):=by
 refine⟨ts++[t],?_,ab8 (Paired.bj h2 λa b e=>?_) ?_⟩
 . rw[ae,aag]
   rfl
 . rw[ah (hp a b e)]
   exact e
 . rw[ah (hp t r ht)]
   exact ht
noncomputable def tX(K:W.Frag):Sp:=λvs H Q _=>∃(l n t:Addr) (xs:List V) (names told:List Str) (m:Int),vs=[.ref l,.ref n,.ref t,.int m]/\H l=some (.lst xs)/\eR xs/\n≠l/\t≠l/\aq K H n (names.map V.str)/\names.length<=200/\(∀z∈names,aT z)/\
 H t=some (.lst (told.map V.str))/\told.length<=20/\0<=m/\m<=20/\
 ∀(p:Addr) (rows:List (Str×Str)) (ys:List V) (H':Hp),H p=none->iC names told rows->rows.length=m.toNat->aE H' p (rows.map bx)->eR ys->H' l=some (.lst ys)->aI H H' l->Q (.ref p) H'
section
variable {P:Program}{w:World}{K:W.Frag}{mg:Str->Option Value}{base:Heap}
noncomputable abbrev Kt:List Str:=["_law_left", "_law_names", "_law_told", "_law_many", "_law_found", "_law_k", "_law_wish"]
noncomputable abbrev mj:List Str:=["_law_left", "_law_names", "_law_told", "_law_many"]
theorem pf:aK Kt mj (aw vW):=⟨rfl,rfl,rfl,by decide+kernel,rfl,by decide+kernel,by decide+kernel⟩
theorem Mj:(["_law_one"]:List Str).Nodup:=by decide+kernel
theorem xy{D p:Addr}{Q:Hp->Prop}{H1:Hp}{rows:List (Str×Str)}{ts:List Addr}(hD:H1 D=none) (hp:H1 p=some (.lst (ts.map V.ref))) (h2:Paired (λt r=>H1 t=some (.tup r)) ts (rows.map bx)) (hlen:rows.length<=100)
 (fin:Q (upd H1 D (.lst ((rows.map (·.1)).map V.str)))) :
 ∃W:Nat->Nat->St->Hp->Prop,(∃m,W 0 m [none] (upd H1 D (.lst [])))/\qC D (bO 0) vR (fo (ck K) (aL 0) (tC (.int 0))) (uF K p) W Q:=by
 have np:p≠D:=af hp hD
 have yO:∀o,(upd H1 D o) p=some (.lst (ts.map V.ref)):=λo=>by rw[ah np];exact hp
 have cx:=h2.length
 rw[aaa]at cx
 refine gr rows.length (λi acc σ H=>acc=((rows.take i).map (·.1)).map V.str/\(∃v,σ=[v])/\H=upd H1 D (.lst acc)) ⟨rfl,⟨none,rfl⟩,rfl⟩ ae ?_ ?_
 . rintro acc σ H _ ⟨rfl,_,rfl⟩
   refine⟨⟨_,aq.of (yO _),by rw[aaa,cx];exact aah _⟩,?_⟩
   rw[abp]
   exact fin
 . rintro i acc σ H hi bf ⟨rfl,⟨v,rfl⟩,rfl⟩
   have eJ:rows[i]?=some rows[i]:=aad hi
   obtain⟨t,ht,hT⟩:=gw h2 (i:=i) (b:=bx rows[i]) (by rw[aan,eJ];rfl)
   have hx:(ts.map V.ref)[i]?=some (.ref t):=by rw[aan,ht];rfl
   refine⟨⟨_,_,aq.of (yO _),hx⟩,?_⟩
   rintro x H' ⟨rfl,fE⟩
   have ex:=fE _ (aq.of (yO _))
   rw[hx]at ex
   cases ex
   refine fg ?_
   have nt:t≠D:=af hT hD
   refine⟨_,rfl,t,_,_,.str rows[i].1,rfl,rfl,aH.of (by rw[ah nt];exact hT),rfl,_,ae,?_,cp hi ae ⟨?_,⟨_,rfl⟩,by rw[jF]⟩⟩
   . rw[aaa,aaa,aa3]
     exact small (by omega)
   . rw[qH (·.1) eJ,aag]
     rfl
theorem EJ{f fS fL fP:Addr}{fd Ml Mm sS:FuncData}(F:aQ K "_law_wishes" "_law_wishes" vW f fd)(T:Own mg)(FP:aQ K "_law_pick" "_law_pick" sr fP sS)(bP:Binds K sS ["_law_left", "_law_many"] []) (mP:mg "_law_pick" = some (.ref fP))
 (FS:aQ K "_law_spelt" "_law_spelt" oa fS Ml) (bS:Binds K Ml ["_law_left", "_law_told"] []) (mS:mg "_law_spelt" = some (.ref fS)) (FL:aQ K "_law_literal" "_law_literal" o9 fL Mm) (bL:Binds K Mm ["_law_left", "_law_names"] []) (mL:mg "_law_literal" = some (.ref fL)) :
 aP P w K mg base aZ 3 f fd mj (tX K):=by
 have GS:aP P w K mg base aZ 2 fS Ml ["_law_left", "_law_told"] (su K):=yW FS T FP bP mP
 have GL:aP P w K mg base aZ 2 fL Mm ["_law_left", "_law_names"] (nq K):=uY FL T FP bP mP
 refine F.ok pf (λvs H Q E h=>?_) (λcdv A outer s H vs Q E hr h=>?_)
 . obtain⟨l,n,t,xs,names,told,m,rfl,_⟩:=h
   rfl
 . obtain⟨l,n,t,xs,names,told,m,rfl,hl,hp,lx,lT,hS,y8,kf,hT,htn,m0,m1,kk⟩:=h
   refine⟨_,aj (bq (i:=4) pf.nd rfl (Or.inl rfl) (cf ai))
    (aj (dU aa6 rfl (dh rfl T.range (aa (pv 3) ai)) (ar (i:=5) pf.nd rfl (Or.inl rfl))
     (aj (bq (i:=6) pf.nd rfl (Or.inl rfl) (aU GS hr rfl mS FS.kp bS .nil bw (aa (pv 0) (aa (az hX (pv 2)
      (b8 (N:=["_law_one"]) (js:=[none]) (by kernel_rfl) rfl (ba (pv 4)) (λ_ _ _ _ _ _=>ar (i:=0) Mj rfl (Or.inl rfl) (.inr rfl)) (λ_ _ _ _ _ _=>bb)
       (λ_ _ _ _ _ _=>aF (r:=ck K) bT (pv 0) ao (λ_ _=>rfl)))) ai))))
     (av (dg (eY aaX abd abe dj (pv 4) (aa (bF (aa (pv 6) (aa (aU GL hr rfl mL FL.kp bL .nil bw (aa (pv 0) (aa (pv 1) ai))) ai))) ai))))))
    (av (aJ (pv 4)))),?_⟩
   refine⟨(by show 0<=sizeLine;decide),λp gG=>?_⟩
   have IF:l≠p:=af hl gG
   refine⟨_,rfl,_,rfl,by omega,by omega,ib (n:=m.toNat) (λi σ H2=>∃(rows:List (Str×Str)) (v5 v6:Option V) (ys:List V),σ=[some (.ref l),some (.ref n),some (.ref t),some (.int m),some (.ref p),v5,v6]/\rows.length=i/\iC names told rows/\
    aE H2 p (rows.map bx)/\eR ys/\H2 l=some (.lst ys)/\aI H H2 l) ?_ ?_ ?_⟩
   . exact⟨[],none,none,xs,rfl,rfl,⟨(λ_ h=>nomatch h),(λ_ h=>nomatch h),(λ_ h=>nomatch h),acg⟩,⟨[],ae,.nil⟩,hp,(by rw[ah IF];exact hl),aI.ak gG⟩
   . rintro i σ H2 hi ⟨rows,v5,v6,ys,rfl,y9,hw,⟨ts,gk,nr⟩,gc,cx,kp2⟩
     have sP:H2 t=some (.lst (told.map V.str)):=kp2 t _ hT lT
     have xx:aq K H2 n (names.map V.str):=kp2.seq hl hS lx
     have Uw:=nr.length
     rw[aaa]at Uw
     refine⟨_,rfl,_,rfl,_,rfl,p,rfl,⟨_,aq.of gk⟩,λD hD=>xy hD gk nr (by omega) ?_⟩
     have V6:t≠D:=af sP hD
     have V7:l≠D:=af cx hD
     refine⟨t,D,_,_,rfl,rfl,(by rw[ah V6];exact sP),ae,?_,λq hq=>?_⟩
     . rw[aaa,aaa,aaa]
       exact iL (by omega)
     have V8:l≠q:=af (by rw[ah V7];exact cx) hq
     have V9:∀o3 o4,(upd H2 D o3) q=none->ag H2 (upd (upd H2 D o3) q o4):=λo3 o4 hz=>(ag.ak hD).trans (ag.ak hz)
     have Bu:=V9 _ (.lst (told.map V.str++(rows.map (·.1)).map V.str)) hq
     generalize hG:upd _ q (HO.lst (told.map V.str++(rows.map (·.1)).map V.str))=H3 at *
     have IG:H3 q=some (.lst ((told++rows.map (·.1)).map V.str)):=by rw[← hG,ae,aag]
     have qK:H3 l=some (.lst ys):=Bu l _ cx
     refine⟨l,q,ys,told++rows.map (·.1),rfl,qK,gc,aau V8,aq.of IG,(by rw[aaf,aaa];omega),λz lz H4 hz ID ke uV jL=>?_⟩
     have GR:aI H2 H4 l:=(ag.keep Bu l).trans jL
     have Ux:H4 p=some (.lst (ts.map V.ref)):=GR p _ gk (aau IF)
     have Wa:aq K H4 n (names.map V.str):=GR.seq cx xx lx
     refine⟨_,rfl,.inl ⟨rfl,_,aq.of Ux⟩,_,rfl,_,rfl,_,rfl,l,n,lz,names,rfl,uV,ke,lx,Wa,y8,kf,λz2 qL H5 lO nj uX eW=>?_⟩
     refine⟨(by show 2<=sizeLine;decide),λTp jo=>?_⟩
     have GU:aI H2 H5 l:=GR.trans eW
     have jE:H5 p=some (.lst (ts.map V.ref)):=GU p _ gk (aau IF)
     have pZ:p≠Tp:=af jE jo
     have Wb:l≠Tp:=af uX jo
     refine⟨p,_,_,rfl,rfl,(by rw[ah pZ];exact jE),(by rw[aaa];exact small (by omega)),?_⟩
     have Wc:iC names told (rows++[(z,z2)]):=by
      have Mn:z∉told/\z∉rows.map (·.1):=by
       constructor
       . exact λh=>ID (acp _ h)
       . exact λh=>ID (aaZ _ h)
      refine⟨λr hr=>?_,λr hr=>?_,λr hr=>?_,?_⟩
      . rcases aae.mp hr with hr|hr
        . exact hw.nm r hr
        . rw[aai.mp hr];exact hz
      . rcases aae.mp hr with hr|hr
        . exact hw.lit r hr
        . rw[aai.mp hr];exact lO
      . rcases aae.mp hr with hr|hr
        . exact hw.ut r hr
        . rw[aai.mp hr];exact Mn.1
      . rw[aag,aav]
        refine⟨hw.nd,by simp,λa ha b hb e=>?_⟩
        have:b=z:=by simpa using hb
        rw[this]at e
        exact Mn.2 (e ▸ ha)
     refine⟨rows++[(z,z2)],_,_,qL,rfl,(by rw[aaf,aat,y9]),Wc,?_,nj,(by rw[ah IF,ah Wb];exact uX),λb o hb jM=>?_⟩
     . rw[aag]
       refine aE.snoc (Paired.bj nr λa r e=>?_) ae λa uZ e z'=>?_
       . have ea:=GU a _ e (eX e cx (by intro z;cases z))
         rw[ah (af ea jo)]
         exact ea
       . rw[z',ah pZ,jE]at e
         cases e
     . have e5:=GU b o (kp2 b o hb jM) jM
       rw[ah (af hb gG),ah (af e5 jo)]
       exact e5
   . rintro σ H2 ⟨rows,v5,v6,ys,rfl,y9,hw,qM,gc,cx,kp2⟩
     exact⟨_,rfl,kk p rows ys H2 gG hw y9 qM gc cx kp2⟩
end
structure ax where
 switches:List Str
 keepers:List (Str×V)
 gates:List (Str×Str×Str)
 nexts:List (Str×Str)
 nevers:List (Str×Str)
 somes:List (Str×Str)
noncomputable def eZ(r:Str×V):List V:=[.str r.1,r.2]
noncomputable def dE(r:Str×Str×Str):List V:=[.str r.1,.str r.2.1,.str r.2.2]
noncomputable def h9(a1 a2 a3 a4 a5 a6:Addr):List (Key×V):=
 [(.inr "switches",.ref a1),(.inr "keepers",.ref a2),(.inr "gates",.ref a3),(.inr "nexts",.ref a4),(.inr "nevers",.ref a5),(.inr "somes",.ref a6)]
structure cb(H:Hp) (m:Addr) (M:ax) (a1 a2 a3 a4 a5 a6:Addr):Prop where
 top:H m=some (.dK (h9 a1 a2 a3 a4 a5 a6))
 sw:H a1=some (.lst (M.switches.map V.str))
 kp:aE H a2 (M.keepers.map eZ)
 gt:aE H a3 (M.gates.map dE)
 nx:aE H a4 (M.nexts.map bx)
 nv:aE H a5 (M.nevers.map bx)
 sm:aE H a6 (M.somes.map bx)
structure aG(M:ax) (names:List Str):Prop where
 all:names=M.switches++M.keepers.map (·.1)++M.gates.map (·.1)
 nm:∀z∈names,aT z
 nd:names.Nodup
 first:∀r∈M.keepers,r.2=.int 0\/r.2=.int 1\/r.2=.aM
 nxk:∀r∈M.nexts,r.1∈M.keepers.map (·.1)
 nxl:∀r∈M.nexts,Lit names r.2
 nxd:(M.nexts.map (·.1)).Nodup
 nvw:iC names [] M.nevers
 smw:iC names (M.nevers.map (·.1)) M.somes
 gl:∀(i:Nat) (r:Str×Str×Str),M.gates[i]?=some r->Lit (M.switches++M.keepers.map (·.1)++(M.gates.take i).map (·.1)) r.2.1/\Lit (M.switches++M.keepers.map (·.1)++(M.gates.take i).map (·.1)) r.2.2
noncomputable def iE(K:W.Frag)(H:Hp)(z:Addr)(s0 s1 s2 s3:Int):Prop:=(aq K H z [.int s0,.int s1,.int s2,.int s3]\/aH K H z [.int s0,.int s1,.int s2,.int s3])/\(0<=s0/\s0<=12)/\(0<=s1/\s1<=16)/\(0<=s2/\s2<=60)/\1<=s3/\s3<=8
theorem ag.ku{K:W.Frag}{H H':Hp}{a:Addr}{xs:List V}(e:ag H H')(h:aH K H a xs):aH K H' a xs:=by
 rcases h with (h|⟨o,h⟩)|h
 . exact .inl (.inl (e a _ h))
 . exact .inl (.inr ⟨o,e a _ h⟩)
 . exact .inr h
theorem iE.same{K:W.Frag}{H H':Hp}{z:Addr}{s0 s1 s2 s3:Int}(h:iE K H z s0 s1 s2 s3)(k:ag H H'):iE K H' z s0 s1 s2 s3:=⟨h.1.imp (ag.seq k) (ag.ku k),h.2⟩
theorem iE.ix{K:W.Frag}{H:Hp}{z:Addr}{s0 s1 s2 s3:Int}(h:iE K H z s0 s1 s2 s3){i:Int}{v:V}{Q:VK}(hi:gn [V.int s0,.int s1,.int s2,.int s3] i=some v)(q:Q v H):Rm K (.ref z) (.int i) H Q:=by
 rcases h.1 with h|h
 . exact .inl ⟨z,_,i,v,rfl,rfl,h,hi,q⟩
 . exact .inr (.inl ⟨z,_,i,v,rfl,rfl,h,hi,q⟩)
noncomputable abbrev Mo:List Str:=["_law_cells", "_law_sizes", "_law_k", "_law_a", "_law_b", "_law_c", "_law_names", "_law_switches", "_law_keepers", "_law_gates", "_law_name", "_law_nexts", "_law_keeper", "_law_first", "_law_nevers", "_law_somes", "_law_made_here"]
noncomputable abbrev qN:List Str:=["_law_cells", "_law_sizes"]
theorem gd:aK Mo qN (aw gi):=⟨rfl,rfl,rfl,by decide+kernel,rfl,by decide+kernel,by decide+kernel⟩
noncomputable abbrev yj(P:Program)(w:World)(K:W.Frag)(mg:Str->Option Value)(base:Heap)(f:Addr)(cdv:Value)(A:Around)(outer:List Env)(s:Shared)(H:Hp)(E:XK):Cx:=
 (jj aZ P w K mg base Mo "_law_machine_digits" (aw gi) f cdv A outer s H E).m8
section
variable {P:Program}{w:World}{K:W.Frag}{mg:Str->Option Value}{base:Heap}
structure Defs(P:Program) (w:World) (K:W.Frag) (mg:Str->Option Value) (base:Heap) (fP fS fL fW fR:Addr) (dP dS dL dW dR:FuncData):Prop where
 T:Own mg
 gP:aP P w K mg base aZ 1 fP dP ["_law_left", "_law_many"] qG
 mP:mg "_law_pick" = some (.ref fP)
 kP:W.keepIn K (.ref fP)=true
 bP:Binds K dP ["_law_left", "_law_many"] []
 gS:aP P w K mg base aZ 2 fS dS ["_law_left", "_law_told"] (su K)
 mS:mg "_law_spelt" = some (.ref fS)
 kS:W.keepIn K (.ref fS)=true
 bS:Binds K dS ["_law_left", "_law_told"] []
 gL:aP P w K mg base aZ 2 fL dL ["_law_left", "_law_names"] (nq K)
 mL:mg "_law_literal" = some (.ref fL)
 kL:W.keepIn K (.ref fL)=true
 bL:Binds K dL ["_law_left", "_law_names"] []
 gW:aP P w K mg base aZ 3 fW dW mj (tX K)
 mW:mg "_law_wishes" = some (.ref fW)
 kW:W.keepIn K (.ref fW)=true
 bW:Binds K dW mj []
 gR:aP P w K mg base aZ 2 fR dR ["_law_cell", "_law_k"] uS
 mR:mg "_law_rich" = some (.ref fR)
 kR:W.keepIn K (.ref fR)=true
 bR:Binds K dR ["_law_cell", "_law_k"] []
variable {fP fS fL fW fR:Addr}{dP dS dL dW dR:FuncData}
structure ze(K:W.Frag) (H:Hp) (z c n a1 a2 a3 a4:Addr) (s0 s1 s2 s3:Int) (names sw:List Str) (kp:List (Str×V)) (gt:List (Str×Str×Str)) (nx:List (Str×Str)):Prop where
 pc:∃xs,H c=some (.lst xs)/\eR xs
 hz:iE K H z s0 s1 s2 s3
 zc:z≠c
 hn:H n=some (.lst (names.map V.str))
 nc:n≠c
 nl:names.length<=100
 nm:∀x∈names,aT x
 h1:H a1=some (.lst (sw.map V.str))
 c1:a1≠c
 h2:aE H a2 (kp.map eZ)
 c2:a2≠c
 h3:aE H a3 (gt.map dE)
 c3:a3≠c
 h4:aE H a4 (nx.map bx)
 c4:a4≠c
theorem aI.ku{H H':Hp}{a l:Addr}{xs n:List V}(e:aI H H' l) (hl:H l=some (.lst n)) (h:aH K H a xs) (h7:a≠l):aH K H' a xs:=by
 rcases h with (h|⟨o,h⟩)|h
 . exact .inl (.inl (e a _ h h7))
 . exact .inl (.inr ⟨o,e a _ h h7⟩)
 . exact .inr h
theorem ze.keep{H H':Hp}{z c n a1 a2 a3 a4:Addr}{s0 s1 s2 s3:Int}{names sw:List Str}{kp:List (Str×V)}{gt:List (Str×Str×Str)}{nx:List (Str×Str)}{ys:List V}(h:ze K H z c n a1 a2 a3 a4 s0 s1 s2 s3 names sw kp gt nx) (k:aI H H' c) (hy:H' c=some (.lst ys)) (hp:eR ys) :
 ze K H' z c n a1 a2 a3 a4 s0 s1 s2 s3 names sw kp gt nx:=by
 obtain⟨xs,hc,_⟩:=h.pc
 exact⟨⟨ys,hy,hp⟩,⟨h.hz.1.imp (λq=>k.seq hc q h.zc) (λq=>aI.ku k hc q h.zc),h.hz.2⟩,h.zc,k n _ h.hn h.nc,h.nc,h.nl,h.nm,k a1 _ h.h1 h.c1,h.c1,h.h2.keep k hc h.c2,h.c2,h.h3.keep k hc h.c3,h.c3,h.h4.keep k hc h.c4,h.c4⟩
theorem ze.same{H H':Hp}{z c n a1 a2 a3 a4:Addr}{s0 s1 s2 s3:Int}{names sw:List Str}{kp:List (Str×V)}{gt:List (Str×Str×Str)}{nx:List (Str×Str)}(h:ze K H z c n a1 a2 a3 a4 s0 s1 s2 s3 names sw kp gt nx) (k:ag H H') :
 ze K H' z c n a1 a2 a3 a4 s0 s1 s2 s3 names sw kp gt nx:=by
 obtain⟨xs,hc,hp⟩:=h.pc
 exact⟨⟨xs,k c _ hc,hp⟩,h.hz.same k,h.zc,k n _ h.hn,h.nc,h.nl,h.nm,k a1 _ h.h1,h.c1,h.h2.same k,h.c2,h.h3.same k,h.c3,h.h4.same k,h.c4⟩
theorem Qw(G:Defs P w K mg base fP fS fL fW fR dP dS dL dW dR){f:Addr}{cdv:Value}{A:Around}{outer:List Env}{s:Shared}{H:Hp}{E:XK}{Q:VK}(hr:aW 3 (A.deeper (PyProof.Rows.envOfC "_law_machine_digits" (aw gi) s.heap.objs.size f cdv))) :
 ∃tR:TS,gj (yj P w K mg base f cdv A outer s H E) (List.drop 10 (cu gi)) tR/\∀(σ:St) (H1:Hp) (v0 v2 v3 v4 v10 p0 p8:Option V) (z c n a1 a2 a3 a4:Addr) (s0 s1 s2 s3:Int) (names sw:List Str) (kp:List (Str×V)) (gt:List (Str×Str×Str)) (nx:List (Str×Str)),
  σ=[v0,some (.ref z),v2,v3,v4,some (.ref c),some (.ref n),some (.ref a1),some (.ref a2),some (.ref a3),v10,some (.ref a4),p0,p8,none,none,none]->
  ze K H1 z c n a1 a2 a3 a4 s0 s1 s2 s3 names sw kp gt nx->
  (∀(m:Addr) (nv sm:List (Str×Str)) (a5 a6:Addr) (H':Hp),iC names [] nv->iC names (nv.map (·.1)) sm->1<=nv.length->(nv.length:Int)<=s3->(sm.length:Int)<=s3->cb H' m ⟨sw,kp,gt,nx,nv,sm⟩ a1 a2 a3 a4 a5 a6->aI H1 H' c->Q (.ref m) H')->
  tR {nx:=λ_ H'=>Q .aM H',rt:=Q} σ H1:=by
 have eC:aW 1 _:=hr.mono (by decide)
 have hu:=eE hr
 refine⟨_,aj (bq (i:=14) gd.nd rfl (Or.inl rfl) (aU G.gW hr rfl G.mW G.kW G.bW .nil bw (aa (pv 5) (aa (pv 6) (aa (cf ai) (aa (az eV ao (aU G.gP eC rfl G.mP G.kP G.bP .nil bw (aa (pv 5) (aa (aF qx (pv 1) ao (λ_ _=>rfl)) ai)))) ai))))))
  (aj (bq (i:=15) gd.nd rfl (Or.inl rfl) (aU G.gW hr rfl G.mW G.kW G.bW .nil bw (aa (pv 5) (aa (pv 6) (aa
   (b8 (N:=["_law_one"]) (js:=[none]) (by kernel_rfl) rfl (ba (pv 14)) (λ_ _ _ _ _ _=>ar (i:=0) Mj rfl (Or.inl rfl) (.inr rfl)) (λ_ _ _ _ _ _=>bb) (λ_ _ _ _ _ _=>aF (r:=ck K) bT (pv 0) ao (λ_ _=>rfl)))
   (aa (aU G.gP eC rfl G.mP G.kP G.bP .nil bw (aa (pv 5) (aa (az eV (aF qx (pv 1) ao (λ_ _=>rfl)) ao) ai))) ai))))))
  (aj (bq (i:=16) gd.nd rfl (Or.inl rfl) (sh (eh au (pv 7) (eh au (pv 8) (eh au (pv 9) (eh au (pv 11) sf)))) rfl rfl (by simp) (by decide)))
  (aj (gZ hu (pv 16) au (pv 14) rfl)
  (aj (gZ hu (pv 16) au (pv 15) rfl)
  (av (aJ (pv 16))))))),?_⟩
 rintro σ H1 v0 v2 v3 v4 v10 p0 p8 z c n a1 a2 a3 a4 s0 s1 s2 s3 names sw kp gt nx rfl hA kk
 obtain⟨xs,hc,hp⟩:=hA.pc
 obtain⟨_,_,_,_,z1,z2⟩:=hA.hz
 have lx:=hA.nl
 refine⟨_,rfl,_,rfl,(by show 0<=sizeLine;decide),λt0 Mp=>?_⟩
 have A1:=hA.same (ag.ak (o:=.lst []) Mp)
 have Mq:c≠t0:=af hc Mp
 have Mr:(upd H1 t0 (.lst [])) c=some (.lst xs):=by rw[ah Mq];exact hc
 refine⟨_,rfl,_,rfl,A1.hz.ix (i:=3) (v:=.int s3) rfl ?_⟩
 refine⟨c,xs,s3,rfl,Mr,hp,by omega,by omega,λd ys H2 d0 d1 gk cx kp2=>⟨_,_,rfl,rfl,?_⟩⟩
 have A2:=A1.keep kp2 cx gk
 have Uy:H2 t0=some (.lst (([]:List Str).map V.str)):=kp2 t0 _ ae (aau Mq)
 refine⟨c,n,t0,ys,names,[],1+d,rfl,cx,gk,A2.nc,aau Mq,aq.of A2.hn,by omega,A2.nm,Uy,by decide,by omega,by omega,λa5 nv lz H3 qa Wd aaA RE ni qK jb=>?_⟩
 have A3:=A2.keep jb qK ni
 have RF:a5≠c:=aau (af cx qa)
 obtain⟨ts,h5,nr⟩:=id RE
 refine⟨_,rfl,_,rfl,_,rfl,a5,rfl,⟨_,aq.of h5⟩,λD hD=>xy hD h5 nr (by omega) ?_⟩
 have Bv:ag H3 (upd H3 D (.lst ((nv.map (·.1)).map V.str))):=ag.ak hD
 have A4:=A3.same Bv
 have Ms:c≠D:=af qK hD
 have EK:(upd H3 D (.lst ((nv.map (·.1)).map V.str))) c=some (.lst lz):=by rw[ah Ms];exact qK
 refine⟨_,rfl,_,rfl,A4.hz.ix (i:=3) (v:=.int s3) rfl ⟨_,_,rfl,rfl,c,lz,_,rfl,EK,ni,by omega,by omega,λd' qL H5 e0 e1 nj uX eW=>?_⟩⟩
 have A5:=A4.keep eW uX nj
 have Bt:H5 D=some (.lst ((nv.map (·.1)).map V.str)):=eW D _ ae (aau Ms)
 refine⟨c,n,D,qL,names,nv.map (·.1),d',rfl,uX,nj,A5.nc,aau Ms,aq.of A5.hn,by omega,A5.nm,Bt,(by rw[aaa];omega),by omega,by omega,λa6 sm IH H6 xA We aaB Wf Mt Wg xB=>?_⟩
 have A6:=A5.keep xB Wg Mt
 have T5:aE H6 a5 (nv.map bx):=((RE.same Bv).keep eW EK RF).keep xB uX RF
 have nc6:a6≠c:=aau (af uX xA)
 intro m hm
 refine⟨_,rfl,_,rfl,_,rfl,_,rfl,ae,[(.inr "switches",.ref a1),(.inr "keepers",.ref a2),(.inr "gates",.ref a3),(.inr "nexts",.ref a4)],rfl,(by show 4<=15;decide),?_⟩
 rw[jF]
 have em:bE [] [((.inr "switches" : Key),V.ref a1),(.inr "keepers",.ref a2),(.inr "gates",.ref a3),(.inr "nexts",.ref a4)]=[((.inr "switches" : Key),V.ref a1),(.inr "keepers",.ref a2),(.inr "gates",.ref a3),(.inr "nexts",.ref a4)]:=by rfl
 rw[em]
 refine⟨_,rfl,_,rfl,m,_,rfl,gY.k (k:=.inr "nevers") ae (by show 4<sizeLine;decide),?_⟩
 rw[jF]
 have en:putK [((.inr "switches" : Key),V.ref a1),(.inr "keepers",.ref a2),(.inr "gates",.ref a3),(.inr "nexts",.ref a4)] (.inr "nevers") (.ref a5)=[((.inr "switches" : Key),V.ref a1),(.inr "keepers",.ref a2),(.inr "gates",.ref a3),(.inr "nexts",.ref a4),(.inr "nevers",.ref a5)]:=by rfl
 rw[en]
 refine⟨_,rfl,_,rfl,m,_,rfl,gY.k (k:=.inr "somes") ae (by show 5<sizeLine;decide),?_⟩
 rw[jF]
 have es:putK [((.inr "switches" : Key),V.ref a1),(.inr "keepers",.ref a2),(.inr "gates",.ref a3),(.inr "nexts",.ref a4),(.inr "nevers",.ref a5)] (.inr "somes") (.ref a6)=h9 a1 a2 a3 a4 a5 a6:=by rfl
 rw[es]
 have xC:ag H6 (upd H6 m (.dK (h9 a1 a2 a3 a4 a5 a6))):=ag.ak hm
 have A7:=A6.same xC
 refine⟨_,rfl,kk m nv sm a5 a6 _ Wd We (by omega) (by omega) (by omega) ⟨ae,A7.h1,A7.h2,A7.h3,A7.h4,T5.same xC,Wf.same xC⟩ ?_⟩
 exact(((((aI.ak Mp).trans kp2).trans jb).trans (ag.keep Bv c)).trans (eW.trans xB)).trans (ag.keep xC c)
end
theorem sT{α β:Type}{F:α->β->Prop} : ∀{l₁:List α}{l₂:List β}(k:Nat),Paired F l₁ l₂->Paired F (l₁.take k) (l₂.take k)
 | _,_,k,.nil=>by simp only[List.take_nil];exact .nil
 | _,_,0,.cons _ _=>.nil
 | _,_,k+1,.cons h t=>.cons h (sT k t)
theorem sU{α β:Type}{F:α->β->Prop} : ∀{l₁:List α}{l₂:List β}(k:Nat),Paired F l₁ l₂->Paired F (l₁.drop k) (l₂.drop k)
 | _,_,k,.nil=>by simp only[List.drop_nil];exact .nil
 | _,_,0,.cons h t=>.cons h t
 | _,_,k+1,.cons h t=>sU k t
theorem jz{α β:Type}{F:α->β->Prop} : ∀{l₁ m₁:List α}{l₂ m₂:List β},Paired F l₁ l₂->Paired F m₁ m₂->Paired F (l₁++m₁) (l₂++m₂)
 | _,_,_,_,.nil,h=>h
 | _,_,_,_,.cons a t,h=>.cons a (jz t h)
section
variable {P:Program}{w:World}{K:W.Frag}{mg:Str->Option Value}{base:Heap}{fP fS fL fW fR:Addr}{dP dS dL dW dR:FuncData}
structure II(K:W.Frag) (H:Hp) (z c n a1 a2 a3:Addr) (s0 s1 s2 s3:Int) (names sw:List Str) (kp:List (Str×V)) (gt:List (Str×Str×Str)):Prop where
 pc:∃xs,H c=some (.lst xs)/\eR xs
 hz:iE K H z s0 s1 s2 s3
 zc:z≠c
 hn:H n=some (.lst (names.map V.str))
 nc:n≠c
 nl:names.length<=100
 nm:∀x∈names,aT x
 h1:H a1=some (.lst (sw.map V.str))
 c1:a1≠c
 h2:aE H a2 (kp.map eZ)
 c2:a2≠c
 h3:aE H a3 (gt.map dE)
 c3:a3≠c
 kd:(kp.map (·.1)).Nodup
 kl:kp.length<=16
theorem II.keep{H H':Hp}{z c n a1 a2 a3:Addr}{s0 s1 s2 s3:Int}{names sw:List Str}{kp:List (Str×V)}{gt:List (Str×Str×Str)}{ys:List V}(h:II K H z c n a1 a2 a3 s0 s1 s2 s3 names sw kp gt) (k:aI H H' c) (hy:H' c=some (.lst ys)) (hp:eR ys) :
 II K H' z c n a1 a2 a3 s0 s1 s2 s3 names sw kp gt:=by
 obtain⟨xs,hc,_⟩:=h.pc
 exact⟨⟨ys,hy,hp⟩,⟨h.hz.1.imp (λq=>k.seq hc q h.zc) (λq=>aI.ku k hc q h.zc),h.hz.2⟩,h.zc,k n _ h.hn h.nc,h.nc,h.nl,h.nm,k a1 _ h.h1 h.c1,h.c1,h.h2.keep k hc h.c2,h.c2,h.h3.keep k hc h.c3,h.c3,h.kd,h.kl⟩
noncomputable def C0(names:List Str) (kp:List (Str×V)) (nx:List (Str×Str)):Prop:=(∀r∈nx,r.1∈kp.map (·.1)/\Lit names r.2)/\(nx.map (·.1)).Nodup
theorem EL{α:Type}{l:List α}{a:α}(h:l.Nodup)(ha:a∉l)(d:Nat):(l.take d++[a]++l.drop d).Nodup:=by
 have p:(l.take d++[a]++l.drop d).Perm (a::l):=by
  rw[abo]
  have:=List.perm_middle (a:=a) (l₁:=l.take d) (l₂:=l.drop d)
  rw[aeL]at this
  exact this
 exact p.nodup_iff.mpr (aa0.mpr ⟨ha,h⟩)
theorem Bw{β:Type} : ∀{kp:List (Str×β)}{i:Nat}(hi:i<kp.length),(kp.map (·.1)).Nodup->kp[i].1∉(kp.take i).map (·.1)
 | x::r,0,_,_=>by simp
 | x::r,i+1,hi,h=>by
  rw[aay,aa0]at h
  have ih:=Bw (kp:=r) (i:=i) (by simpa using hi) h.2
  simp only[adh,acw,aay,aal,ad3]
  refine⟨λe=>h.1 ?_,ih⟩
  rw[← e]
  exact aak.mpr ⟨_,abD _,rfl⟩
theorem tY{β:Type}{kp:List (Str×β)}{i j:Nat}{x:Str}(Wh:i<=j) (h:x∈(kp.take i).map (·.1)):x∈(kp.take j).map (·.1):=by
 obtain⟨r,hr,e⟩:=aak.mp h
 refine aak.mpr ⟨r,?_,e⟩
 have:kp.take i=(kp.take j).take i:=by rw[List.take_take,aeI Wh]
 rw[this]at hr
 exact abN hr
noncomputable abbrev Qx(Q:VK)(s3:Int)(H1:Hp)(c a1 a2 a3:Addr)(names sw:List Str) (kp:List (Str×V)) (gt:List (Str×Str×Str)):Prop:=
 ∀(m:Addr) (nx nv sm:List (Str×Str)) (a4 a5 a6:Addr) (H':Hp),C0 names kp nx->nx.length<=kp.length->iC names [] nv->iC names (nv.map (·.1)) sm->1<=nv.length->(nv.length:Int)<=s3->(sm.length:Int)<=s3->cb H' m ⟨sw,kp,gt,nx,nv,sm⟩ a1 a2 a3 a4 a5 a6->aI H1 H' c->Q (.ref m) H'
theorem Qy(G:Defs P w K mg base fP fS fL fW fR dP dS dL dW dR){f:Addr}{cdv:Value}{A:Around}{outer:List Env}{s:Shared}{H:Hp}{E:XK}{Q:VK}(hr:aW 3 (A.deeper (PyProof.Rows.envOfC "_law_machine_digits" (aw gi) s.heap.objs.size f cdv))) :
 ∃tR:TS,gj (yj P w K mg base f cdv A outer s H E) (List.drop 8 (cu gi)) tR/\∀(σ:St) (H1:Hp) (v0 v2 v3 v4 v10:Option V) (z c n a1 a2 a3:Addr) (s0 s1 s2 s3:Int) (names sw:List Str) (kp:List (Str×V)) (gt:List (Str×Str×Str)),
  σ=[v0,some (.ref z),v2,v3,v4,some (.ref c),some (.ref n),some (.ref a1),some (.ref a2),some (.ref a3),v10,none,none,none,none,none,none]->
  II K H1 z c n a1 a2 a3 s0 s1 s2 s3 names sw kp gt->Qx Q s3 H1 c a1 a2 a3 names sw kp gt->
  tR {nx:=λ_ H'=>Q .aM H',rt:=Q} σ H1:=by
 have eC:aW 1 _:=hr.mono (by decide)
 have gH:aW 2 _:=hr.mono (by decide)
 obtain⟨tD,hD,rD⟩:=Qw G (outer:=outer) (H:=H) (E:=E) (Q:=Q) hr
 refine⟨_,aj (bq (i:=11) gd.nd rfl (Or.inl rfl) (cf ai))
  (aj (dU aa6 rfl (ba (pv 8)) (cN rfl (aA (ar (i:=12) gd.nd rfl (Or.inl rfl)) (aA (ar (i:=13) gd.nd rfl (Or.inl rfl)) cc)))
   (av (cU (bh yi (aU G.gP eC rfl G.mP G.kP G.bP .nil bw (aa (pv 5) (aa ao ai))) ao (cQ _))
    (av (dg (eY aaX PySem.F.slot_list_insert PySem.F.type_list_insert Ey (pv 11) (aa
     (aU G.gP eC rfl G.mP G.kP G.bP .nil bw (aa (pv 5) (aa (az eV (ef cy (by rfl) G.T.len abS (aa (pv 11) ai)) ao) ai)))
     (aa (bF (aa (pv 12) (aa (aU G.gL gH rfl G.mL G.kL G.bL .nil bw (aa (pv 5) (aa (pv 6) ai))) ai))) ai))))) bN))) hD),?_⟩
 rintro σ H1 v0 v2 v3 v4 v10 z c n a1 a2 a3 s0 s1 s2 s3 names sw kp gt rfl hA kk
 obtain⟨xs,hc,hp⟩:=hA.pc
 obtain⟨ts,h2,nr⟩:=id hA.h2
 have xD:=hA.kl
 have lx:=hA.nl
 have lT:=nr.length
 rw[aaa]at lT
 refine⟨(by show 0<=sizeLine;decide),λp gG=>?_⟩
 have qO:c≠p:=af hc gG
 have Wi:a2≠p:=af h2 gG
 refine⟨_,rfl,a2,rfl,⟨_,aq.of (by rw[ah Wi];exact h2)⟩,gz (K:=K) (a:=a2) (xs:=ts.map V.ref) (λi σ H2=>∃(nx:List (Str×Str)) (p0 p8:Option V) (ys:List V),
  σ=[v0,some (.ref z),v2,v3,v4,some (.ref c),some (.ref n),some (.ref a1),some (.ref a2),some (.ref a3),v10,some (.ref p),p0,p8,none,none,none]/\nx.length<=i/\C0 names (kp.take i) nx/\aE H2 p (nx.map bx)/\eR ys/\H2 c=some (.lst ys)/\aI H1 H2 c) ?_ ?_ ?_ ?_⟩
 . exact⟨[],none,none,xs,rfl,aah _,⟨(λ_ h=>nomatch h),acg⟩,⟨[],ae,.nil⟩,hp,(by rw[ah qO];exact hc),aI.ak gG⟩
 . rintro i σ H2 _ ⟨nx,p0,p8,ys,_,_,_,_,_,_,kp2⟩
   exact aq.of (kp2 a2 _ h2 hA.c2)
 . rintro i x σ H2 hx ⟨nx,p0,p8,ys,rfl,u0,om,⟨us,gk,eO⟩,gc,lU,kp2⟩
   have sV:i<(ts.map V.ref).length:=(aas.mp hx).1
   rw[aaa,lT]at sV
   have RG:kp[i]?=some kp[i]:=aad sV
   obtain⟨t,ht,hT⟩:=gw nr (i:=i) (b:=eZ kp[i]) (by rw[aan,RG];rfl)
   have ex:x=.ref t:=by
    rw[aan,ht]at hx
    exact(aaS hx).symm
   subst ex
   have sP:H2 t=some (.tup (eZ kp[i])):=kp2 t _ hT (eX hT hc (by intro z;cases z))
   refine⟨t,_,rfl,aH.of sP,rfl,_,_,rfl,_,_,rfl,rfl,?_⟩
   refine⟨_,rfl,c,ys,5,rfl,lU,gc,by decide,by decide,λd lz H3 d0 d1 ni RH jb=>⟨_,_,rfl,rfl,_,rfl,?_⟩⟩
   have GW:aI H1 H3 c:=kp2.trans jb
   have Uz:aE H3 p (nx.map bx):=aE.keep ⟨us,gk,eO⟩ jb lU (aau qO)
   refine j3 (λ_=>?_) (λ_=>?_)
   . have qP:H3 p=some (.lst (us.map V.ref)):=jb p _ gk (aau qO)
     have kg:=eO.length
     rw[aaa]at kg
     refine⟨_,rfl,.inl ⟨rfl,_,aq.of qP⟩,_,rfl,_,rfl,p,_,rfl,.inl (aq.of qP),_,_,rfl,rfl,c,lz,_,rfl,RH,ni,(by rw[aaa];omega),(by rw[aaa];omega),λd2 qL H4 e0 e1 ke EK jL=>?_⟩
     rw[aaa]at e1
     have A4:=hA.keep (GW.trans jL) EK ke
     refine⟨_,rfl,_,rfl,_,rfl,c,n,qL,names,rfl,EK,ke,A4.nc,aq.of A4.hn,by omega,A4.nm,λlt IH H5 lO nj IJ eW=>?_⟩
     refine⟨(by show 2<=sizeLine;decide),λTp jo=>?_⟩
     have jE:H5 p=some (.lst (us.map V.ref)):=eW p _ (jL p _ qP (aau qO)) (aau qO)
     have pZ:p≠Tp:=af jE jo
     have Wj:c≠Tp:=af IJ jo
     refine⟨p,_,d2,_,rfl,rfl,(by rw[ah pZ];exact jE),e0,(by rw[aaa];omega),(by rw[aaa];exact small (by omega)),?_⟩
     have UA:∀a uZ,(upd H5 Tp (HO.tup [V.str kp[i].1,V.str lt])) a=some (.tup uZ)->a≠p:=λa uZ e z'=>by
      rw[z',ah pZ,jE]at e
      cases e
     have Mu:Paired (λt r=>(upd (upd H5 Tp (HO.tup [V.str kp[i].1,V.str lt])) p (.lst ((us.map V.ref).take d2.toNat++[V.ref Tp]++(us.map V.ref).drop d2.toNat))) t=some (.tup r)) us (nx.map bx):=Paired.bj eO λa r e=>by
      have ea:H5 a=some (.tup r):=eW a _ (jL a _ (jb a _ e (eX e lU (by intro z;cases z))) (eX e lU (by intro z;cases z))) (eX e lU (by intro z;cases z))
      have eb:(upd H5 Tp (HO.tup [V.str kp[i].1,V.str lt])) a=some (.tup r):=by rw[ah (af ea jo)];exact ea
      rw[ah (UA a r eb)]
      exact eb
     refine⟨nx.take d2.toNat++[(kp[i].1,lt)]++nx.drop d2.toNat,_,_,IH,rfl,?_,⟨λr hr=>?_,?_⟩,⟨us.take d2.toNat++[Tp]++us.drop d2.toNat,?_,?_⟩,nj,?_,λb o hb Mv=>?_⟩
     . simp only[aaf,aa3,aeo,aat]
       omega
     . rcases aae.mp hr with hr|hr
       . rcases aae.mp hr with hr|hr
         . exact⟨tY (ac1 _) (om.1 r (abN hr)).1,(om.1 r (abN hr)).2⟩
         . rw[aai.mp hr]
           refine⟨?_,lO⟩
           rw[qH (·.1) RG]
           exact aaZ _ (aai.mpr rfl)
       . exact⟨tY (ac1 _) (om.1 r (aeQ hr)).1,(om.1 r (aeQ hr)).2⟩
     . have hn:kp[i].1∉nx.map (·.1):=λhm=>by
        obtain⟨r,hr,e⟩:=aak.mp hm
        exact Bw sV hA.kd (e ▸ (om.1 r hr).1)
       have hq:=EL om.2 hn d2.toNat
       rw[aag,aag,acx,aeZ]
       exact hq
     . rw[ae]
       simp only[aag,acx,aeZ,aay,ace]
     . rw[aag,aag,acx,aeZ]
       refine jz (jz (sT _ Mu) (.cons ?_ .nil)) (sU _ Mu)
       rw[ah (aau pZ),ae]
       rfl
     . rw[ah qO,ah Wj]
       exact IJ
     . have e5:=eW b o (jL b o (GW b o hb Mv) Mv) Mv
       rw[ah (af hb gG),ah (af e5 jo)]
       exact e5
   . exact⟨nx,_,_,lz,rfl,by omega,⟨λr hr=>⟨tY (ac1 _) (om.1 r hr).1,(om.1 r hr).2⟩,om.2⟩,Uz,ni,RH,GW⟩
 . rintro σ H2 ⟨nx,p0,p8,ys,rfl,u0,om,qM,gc,lU,kp2⟩
   rw[aaa,lT]at u0 om
   rw[abp]at om
   have A2:=hA.keep kp2 lU gc
   refine rD _ H2 v0 v2 v3 v4 v10 p0 p8 z c n a1 a2 a3 p s0 s1 s2 s3 names sw kp gt nx rfl ⟨⟨ys,lU,gc⟩,A2.hz,A2.zc,A2.hn,A2.nc,A2.nl,A2.nm,A2.h1,A2.c1,A2.h2,A2.c2,A2.h3,A2.c3,qM,aau qO⟩ ?_
   intro m nv sm a5 a6 H' w1 w2 l1 l2 l3 hM u7
   exact kk m nx nv sm p a5 a6 H' om u0 w1 w2 l1 l2 l3 hM (kp2.trans u7)
end
noncomputable def e8(H H':Hp)(l n:Addr):Prop:=∀b o,H b=some o->b≠l->b≠n->H' b=some o
noncomputable def Qz(H H':Hp)(l c n:Addr):Prop:=∀b o,H b=some o->b≠l->b≠c->b≠n->H' b=some o
theorem e8.seq{K:W.Frag}{H H':Hp}{a l n:Addr}{xs:List V}(e:e8 H H' l n)(h:aq K H a xs)(h1:a≠l)(h2:a≠n):aq K H' a xs:=by
 rcases h with (h|⟨o,h⟩)|h
 . exact .inl (.inl (e a _ h h1 h2))
 . exact .inl (.inr ⟨o,e a _ h h1 h2⟩)
 . exact .inr h
theorem e8.ku{K:W.Frag}{H H':Hp}{a l n:Addr}{xs:List V}(e:e8 H H' l n)(h:aH K H a xs)(h1:a≠l)(h2:a≠n):aH K H' a xs:=by
 rcases h with (h|⟨o,h⟩)|h
 . exact .inl (.inl (e a _ h h1 h2))
 . exact .inl (.inr ⟨o,e a _ h h1 h2⟩)
 . exact .inr h
theorem aE.yk{H H':Hp}{p l n:Addr}{rs:List (List V)}{xs ns:List V}(h:aE H p rs) (k:e8 H H' l n) (hl:H l=some (.lst xs)) (hn:H n=some (.lst ns)) (h1:p≠l) (h2:p≠n):aE H' p rs:=by
 obtain⟨ts,e1,e2⟩:=h
 exact⟨ts,k p _ e1 h1 h2,Paired.bj e2 λt r e=>k t _ e (eX e hl (by intro z;cases z)) (eX e hn (by intro z;cases z))⟩
theorem aI.to2{H H':Hp}{l:Addr}(k:aI H H' l)(n:Addr):e8 H H' l n:=λb o h h1 _=>k b o h h1
theorem e8.trans{H H1 H2:Hp}{l n:Addr}(a:e8 H H1 l n)(b:e8 H1 H2 l n):e8 H H2 l n:=λc o h h1 h2=>b c o (a c o h h1 h2) h1 h2
theorem e8.QA{H:Hp}{l n:Addr}{o:HO} : e8 H (upd H n o) l n:=λb u h _ h2=>by rw[ah h2];exact h
theorem iE.yk{K:W.Frag}{H H':Hp}{z l n:Addr}{s0 s1 s2 s3:Int}(h:iE K H z s0 s1 s2 s3)(k:e8 H H' l n)(h1:z≠l)(h2:z≠n):iE K H' z s0 s1 s2 s3:=⟨h.1.imp (λq=>k.seq q h1 h2) (λq=>k.ku q h1 h2),h.2⟩
noncomputable def oo(names:List Str) (gt:List (Str×Str×Str)):Prop:=∀(i:Nat) (r:Str×Str×Str),gt[i]?=some r->Lit (names++(gt.take i).map (·.1)) r.2.1/\Lit (names++(gt.take i).map (·.1)) r.2.2
theorem oo.snoc{names:List Str}{gt:List (Str×Str×Str)}{r:Str×Str×Str}(h:oo names gt) (h1:Lit (names++gt.map (·.1)) r.2.1) (h2:Lit (names++gt.map (·.1)) r.2.2):oo names (gt++[r]):=by
 intro i q e
 rcases aee i gt.length with hi|hi|hi
 . rw[abt hi]at e
   rw[adx (ado hi)]
   exact h i q e
 . subst hi
   rw[abA (aah _),ae8]at e
   have e':r=q:=by simpa using e
   subst e'
   rw[List.take_left']
   . exact⟨h1,h2⟩
   . rfl
 . rw[ab6 (by rw[aaf,aat];omega)]at e
   cases e
theorem md{α:Type}{l:List α}{a:α}(h:l.Nodup)(ha:a∉l):(l++[a]).Nodup:=by
 rw[aav]
 refine⟨h,by simp,λx hx y hy e=>?_⟩
 have:y=a:=by simpa using hy
 rw[this]at e
 exact ha (e ▸ hx)
section
variable {P:Program}{w:World}{K:W.Frag}{mg:Str->Option Value}{base:Heap}{fP fS fL fW fR:Addr}{dP dS dL dW dR:FuncData}
structure Wk(K:W.Frag) (H:Hp) (z b c n a1 a2:Addr) (s0 s1 s2 s3:Int) (names sw:List Str) (kp:List (Str×V)):Prop where
 pb:∃xs,H b=some (.lst xs)/\eR xs
 pc:∃xs,H c=some (.lst xs)/\eR xs
 hz:iE K H z s0 s1 s2 s3
 zb:z≠b
 zc:z≠c
 zn:z≠n
 bc:b≠c
 hn:H n=some (.lst (names.map V.str))
 nb:n≠b
 nc:n≠c
 nl:names.length<=28
 nm:∀x∈names,aT x
 nd:names.Nodup
 h1:H a1=some (.lst (sw.map V.str))
 b1:a1≠b
 c1:a1≠c
 n1:a1≠n
 h2:aE H a2 (kp.map eZ)
 b2:a2≠b
 c2:a2≠c
 n2:a2≠n
 kd:(kp.map (·.1)).Nodup
 kl:kp.length<=16
noncomputable abbrev QB(Q:VK)(s3:Int)(H1:Hp)(b c n a1 a2:Addr)(names sw:List Str) (kp:List (Str×V)):Prop:=
 ∀(m:Addr) (gt:List (Str×Str×Str)) (nx nv sm:List (Str×Str)) (a3 a4 a5 a6:Addr) (H':Hp),oo names gt->(names++gt.map (·.1)).Nodup->(∀x∈names++gt.map (·.1),aT x)->gt.length<=60->C0 (names++gt.map (·.1)) kp nx->nx.length<=kp.length->
  iC (names++gt.map (·.1)) [] nv->iC (names++gt.map (·.1)) (nv.map (·.1)) sm->1<=nv.length->(nv.length:Int)<=s3->(sm.length:Int)<=s3->cb H' m ⟨sw,kp,gt,nx,nv,sm⟩ a1 a2 a3 a4 a5 a6->Qz H1 H' b c n->Q (.ref m) H'
theorem QC(G:Defs P w K mg base fP fS fL fW fR dP dS dL dW dR){f:Addr}{cdv:Value}{A:Around}{outer:List Env}{s:Shared}{H:Hp}{E:XK}{Q:VK}(hr:aW 3 (A.deeper (PyProof.Rows.envOfC "_law_machine_digits" (aw gi) s.heap.objs.size f cdv))) :
 ∃tR:TS,gj (yj P w K mg base f cdv A outer s H E) (List.drop 6 (cu gi)) tR/\∀(σ:St) (H1:Hp) (v0 v2 v3:Option V) (z b c n a1 a2:Addr) (s0 s1 s2 s3:Int) (names sw:List Str) (kp:List (Str×V)),
  σ=[v0,some (.ref z),v2,v3,some (.ref b),some (.ref c),some (.ref n),some (.ref a1),some (.ref a2),none,none,none,none,none,none,none,none]->
  Wk K H1 z b c n a1 a2 s0 s1 s2 s3 names sw kp->QB Q s3 H1 b c n a1 a2 names sw kp->
  tR {nx:=λ_ H'=>Q .aM H',rt:=Q} σ H1:=by
 have eC:aW 1 _:=hr.mono (by decide)
 have gH:aW 2 _:=hr.mono (by decide)
 obtain⟨tC,hC,rC⟩:=Qy G (outer:=outer) (H:=H) (E:=E) (Q:=Q) hr
 refine⟨_,aj (bq (i:=9) gd.nd rfl (Or.inl rfl) (cf ai))
  (aj (dU aa6 rfl (dh rfl G.T.range (aa (aU G.gP eC rfl G.mP G.kP G.bP .nil bw (aa (pv 4) (aa (az eV (aF qx (pv 1) ao (λ_ _=>rfl)) ao) ai))) ai)) (ar (i:=2) gd.nd rfl (Or.inl rfl))
   (aj (bq (i:=10) gd.nd rfl (Or.inl rfl) (aU G.gS gH rfl G.mS G.kS G.bS .nil bw (aa (pv 4) (aa (pv 6) ai))))
   (aj (dg (eY aaX abd abe dj (pv 9) (aa (bF (aa (pv 10) (aa (aU G.gL gH rfl G.mL G.kL G.bL .nil bw (aa (pv 4) (aa (pv 6) ai))) (aa (aU G.gL gH rfl G.mL G.kL G.bL .nil bw (aa (pv 4) (aa (pv 6) ai))) ai)))) ai)))
   (av (dg (eY aaX abd abe dj (pv 6) (aa (pv 10) ai))))))) hC),?_⟩
 rintro σ H1 v0 v2 v3 z b c n a1 a2 s0 s1 s2 s3 names sw kp rfl hA kk
 obtain⟨xs,hb,hp⟩:=hA.pb
 obtain⟨xc,hc,Mw⟩:=hA.pc
 obtain⟨_,_,_,⟨z2a,z2b⟩,_,_⟩:=hA.hz
 have lx:=hA.nl
 refine⟨(by show 0<=sizeLine;decide),λp gG=>?_⟩
 have xE:b≠p:=af hb gG
 have xF:n≠p:=af hA.hn gG
 have xG:iE K (upd H1 p (.lst [])) z s0 s1 s2 s3:=hA.hz.same (ag.ak gG)
 refine⟨_,rfl,_,rfl,xG.ix (i:=2) (v:=.int s2) rfl ⟨_,_,rfl,rfl,b,xs,_,rfl,(by rw[ah xE];exact hb),hp,by omega,by omega,λd EM zf d0 d1 EN uN qQ=>?_⟩⟩
 have k0:e8 H1 zf b n:=λx o h h1 _=>qQ x o (by rw[ah (af h gG)];exact h) h1
 have hn0:zf n=some (.lst (names.map V.str)):=qQ n _ (by rw[ah xF];exact hA.hn) hA.nb
 have GX:zf p=some (.lst []):=qQ p _ ae (aau xE)
 refine⟨_,rfl,by omega,by omega,ib (n:=d.toNat) (λi σ H2=>∃(gt:List (Str×Str×Str)) (u9 v10:Option V) (ys:List V),
  σ=[v0,some (.ref z),u9,v3,some (.ref b),some (.ref c),some (.ref n),some (.ref a1),some (.ref a2),some (.ref p),v10,none,none,none,none,none,none]/\gt.length=i/\oo names gt/\(names++gt.map (·.1)).Nodup/\(∀x∈names++gt.map (·.1),aT x)/\
  aE H2 p (gt.map dE)/\H2 n=some (.lst ((names++gt.map (·.1)).map V.str))/\eR ys/\H2 b=some (.lst ys)/\e8 H1 H2 b n) ?_ ?_ ?_⟩
 . refine⟨[],v2,none,EM,rfl,rfl,λi r e=>?_,?_,?_,⟨[],GX,.nil⟩,?_,EN,uN,k0⟩
   . simp at e
   . simpa using hA.nd
   . simpa using hA.nm
   . simpa using hn0
 . rintro i σ H2 hi ⟨gt,u9,v10,ys,rfl,sW,Mx,jc,kf,⟨us,gk,eO⟩,jW,gc,zg,kp2⟩
   have kg:=eO.length
   rw[aaa]at kg
   have UB:(names++gt.map (·.1)).length=names.length+i:=by rw[aaf,aaa,sW]
   refine⟨_,rfl,_,rfl,b,n,ys,names++gt.map (·.1),rfl,zg,gc,hA.nb,aq.of jW,by omega,λnw lz H3 yX uW ni My jb=>?_⟩
   have IK:H3 n=_:=jb n _ jW hA.nb
   have qP:H3 p=some (.lst (us.map V.ref)):=jb p _ gk (aau xE)
   refine⟨_,rfl,.inl ⟨rfl,_,aq.of qP⟩,_,rfl,_,rfl,_,rfl,b,n,lz,names++gt.map (·.1),rfl,My,ni,hA.nb,aq.of IK,by omega,kf,λl1 qL H4 eP ke Mz jL=>?_⟩
   have zh:H4 n=_:=jL n _ IK hA.nb
   refine⟨_,rfl,_,rfl,b,n,qL,names++gt.map (·.1),rfl,Mz,ke,hA.nb,aq.of zh,by omega,kf,λl2 IH H5 cx nj Bx eW=>?_⟩
   have qb:H5 n=_:=eW n _ zh hA.nb
   have jE:H5 p=some (.lst (us.map V.ref)):=eW p _ (jL p _ qP (aau xE)) (aau xE)
   refine⟨(by show 3<=sizeLine;decide),λTp jo=>?_⟩
   have pZ:p≠Tp:=af jE jo
   have Wl:b≠Tp:=af Bx jo
   have MA:n≠Tp:=af qb jo
   refine⟨p,_,_,rfl,rfl,(by rw[ah pZ];exact jE),(by rw[aaa];exact small (by omega)),?_⟩
   have EO:(upd (upd H5 Tp (HO.tup [V.str nw,V.str l1,V.str l2])) p (.lst (us.map V.ref++[V.ref Tp]))) n=some (.lst ((names++gt.map (·.1)).map V.str)):=by rw[ah xF,ah MA];exact qb
   refine⟨_,rfl,.inl ⟨rfl,_,aq.of EO⟩,_,rfl,n,_,_,rfl,rfl,EO,(by rw[aaa];exact small (by omega)),?_⟩
   have UC:nw∉names++gt.map (·.1):=uW
   have en:names++(gt++[(nw,l1,l2)]).map (·.1)=(names++gt.map (·.1))++[nw]:=by rw[aag,← abo];rfl
   have tn:∀a uZ,H5 a=some (HO.tup uZ)->a≠n:=λa uZ e=>eX e qb (by intro z;cases z)
   refine⟨gt++[(nw,l1,l2)],_,_,IH,rfl,(by rw[aaf,aat,sW]),Mx.snoc eP cx,(by rw[en];exact md jc UC),λx hx=>?_,?_,?_,nj,?_,λx o hx h1 h2=>?_⟩
   . rw[en]at hx
     rcases aae.mp hx with hx|hx
     . exact kf x hx
     . rw[aai.mp hx];exact yX
   . have tp:=aE.snoc (H:=upd H5 Tp (HO.tup [V.str nw,V.str l1,V.str l2])) (p:=p) (t:=Tp) (rs:=gt.map dE) (r:=[V.str nw,V.str l1,V.str l2]) (ts:=us) (Paired.bj eO λa r e=>by
      have MB:=eX e zg (by intro z;cases z)
      have ea:H5 a=some (.tup r):=eW a _ (jL a _ (jb a _ e MB) MB) MB
      rw[ah (af ea jo)]
      exact ea) ae (λa uZ e z'=>by rw[z',ah pZ,jE]at e;cases e)
     obtain⟨MC,e1,e2⟩:=tp
     refine⟨MC,by rw[ah (aau xF)];exact e1,?_⟩
     have er:(gt++[(nw,l1,l2)]).map dE=gt.map dE++[[V.str nw,V.str l1,V.str l2]]:=by rw[aag];rfl
     rw[er]
     refine Paired.bj e2 λa r e=>?_
     rw[ah (eX e EO (by intro z;cases z))]
     exact e
   . rw[ae,en]
     simp only[aag,aay,ace]
   . rw[ah (aau hA.nb),ah xE,ah Wl]
     exact Bx
   . have e5:H5 x=some o:=eW x o (jL x o (jb x o (kp2 x o hx h1 h2) h1) h1) h1
     rw[ah h2,ah (af hx gG),ah (af e5 jo)]
     exact e5
 . rintro σ H2 ⟨gt,u9,v10,ys,rfl,sW,Mx,jc,kf,qM,jW,gc,zg,kp2⟩
   have lU:H2 c=some (.lst xc):=kp2 c _ hc (aau hA.bc) (aau hA.nc)
   have qO:c≠p:=af hc gG
   refine rC _ H2 v0 u9 v3 (some (.ref b)) v10 z c n a1 a2 p s0 s1 s2 s3 (names++gt.map (·.1)) sw kp gt rfl ⟨⟨xc,lU,Mw⟩,hA.hz.yk kp2 hA.zb hA.zn,hA.zc,jW,hA.nc,(by rw[aaf,aaa];omega),kf,
    kp2 a1 _ hA.h1 hA.b1 hA.n1,hA.c1,hA.h2.yk kp2 hb hA.hn hA.b2 hA.n2,hA.c2,qM,aau qO,hA.kd,hA.kl⟩ ?_
   intro m nx nv sm a4 a5 a6 H' q1 q2 w1 w2 l1 l2 l3 hM u7
   exact kk m gt nx nv sm p a4 a5 a6 H' Mx jc kf (by omega) q1 q2 w1 w2 l1 l2 l3 hM λx o hx h1 h2 h3=>u7 x o (kp2 x o hx h1 h3) h2
end
noncomputable def MD(kp:List (Str×V)):Prop:=∀r∈kp,r.2=.int 0\/r.2=.int 1\/r.2=.aM
theorem GY{d:Int}(h0:0<=d)(h1:d<3):∃v:V,gn [V.int 0,.int 1,.aM] d=some v/\(v=.int 0\/v=.int 1\/v=.aM):=by
 rcases (show d=0\/d=1\/d=2 by omega) with rfl|rfl|rfl
 . exact⟨_,rfl,.inl rfl⟩
 . exact⟨_,rfl,.inr (.inl rfl)⟩
 . exact⟨_,rfl,.inr (.inr rfl)⟩
section
variable {P:Program}{w:World}{K:W.Frag}{mg:Str->Option Value}{base:Heap}{fP fS fL fW fR:Addr}{dP dS dL dW dR:FuncData}
structure Wm(K:W.Frag) (H:Hp) (z a b c n:Addr) (s0 s1 s2 s3:Int) (sw:List Str):Prop where
 pa:∃xs,H a=some (.lst xs)/\eR xs
 pb:∃xs,H b=some (.lst xs)/\eR xs
 pc:∃xs,H c=some (.lst xs)/\eR xs
 hz:iE K H z s0 s1 s2 s3
 za:z≠a
 zb:z≠b
 zc:z≠c
 zn:z≠n
 ab:a≠b
 ac:a≠c
 bc:b≠c
 hn:H n=some (.lst (sw.map V.str))
 na:n≠a
 nb:n≠b
 nc:n≠c
 nl:sw.length<=12
 nm:∀x∈sw,aT x
 nd:sw.Nodup
noncomputable def QD(H H':Hp)(a b c n:Addr):Prop:=∀x o,H x=some o->x≠a->x≠b->x≠c->x≠n->H' x=some o
noncomputable abbrev QE(Q:VK)(s1 s3:Int)(H1:Hp)(a b c n:Addr)(sw:List Str):Prop:=
 ∀(m:Addr) (M:ax) (names:List Str) (a1 a2 a3 a4 a5 a6:Addr) (H':Hp),M.switches=sw->aG M names->names.length<=88->((M.keepers.length:Int)<=s1/\M.keepers.length<=16)->M.gates.length<=60->M.nexts.length<=16->1<=M.nevers.length->(M.nevers.length:Int)<=s3->(M.somes.length:Int)<=s3->
  cb H' m M a1 a2 a3 a4 a5 a6->QD H1 H' a b c n->Q (.ref m) H'
theorem QF(G:Defs P w K mg base fP fS fL fW fR dP dS dL dW dR){f:Addr}{cdv:Value}{A:Around}{outer:List Env}{s:Shared}{H:Hp}{E:XK}{Q:VK}(hr:aW 3 (A.deeper (PyProof.Rows.envOfC "_law_machine_digits" (aw gi) s.heap.objs.size f cdv))) :
 ∃tR:TS,gj (yj P w K mg base f cdv A outer s H E) (List.drop 3 (cu gi)) tR/\∀(σ:St) (H1:Hp) (v0 v2:Option V) (z a b c n:Addr) (s0 s1 s2 s3:Int) (sw:List Str),
  σ=[v0,some (.ref z),v2,some (.ref a),some (.ref b),some (.ref c),some (.ref n),none,none,none,none,none,none,none,none,none,none]->
  Wm K H1 z a b c n s0 s1 s2 s3 sw->QE Q s1 s3 H1 a b c n sw->
  tR {nx:=λ_ H'=>Q .aM H',rt:=Q} σ H1:=by
 have eC:aW 1 _:=hr.mono (by decide)
 have gH:aW 2 _:=hr.mono (by decide)
 obtain⟨tB,hB,rB⟩:=QC G (outer:=outer) (H:=H) (E:=E) (Q:=Q) hr
 refine⟨_,aj (bq (i:=7) gd.nd rfl (Or.inl rfl) (aN eN (by rfl) G.T.list abr (aa (pv 6) ai)))
  (aj (bq (i:=8) gd.nd rfl (Or.inl rfl) (cf ai))
  (aj (dU aa6 rfl (dh rfl G.T.range (aa (aU G.gP eC rfl G.mP G.kP G.bP .nil bw (aa (pv 3) (aa (az eV (aF qx (pv 1) ao (λ_ _=>rfl)) ao) ai))) ai)) (ar (i:=2) gd.nd rfl (Or.inl rfl))
   (aj (dg (eY aaX abd abe dj (pv 6) (aa (aU G.gS gH rfl G.mS G.kS G.bS .nil bw (aa (pv 3) (aa (pv 6) ai))) ai)))
   (av (dg (eY aaX abd abe dj (pv 8) (aa (bF (aa (aF bG (pv 6) (r8 nW ao) (λ_ _=>rfl))
    (aa (aF bG (cf (aa ao (aa ao (aa uB ai)))) (aU G.gP eC rfl G.mP G.kP G.bP .nil bw (aa (pv 3) (aa ao ai))) (λ_ _=>rfl)) ai))) ai)))))) hB)),?_⟩
 rintro σ H0 v0 v2 z a b c n s0 s1 s2 s3 sw rfl hA kk
 obtain⟨xs,ha,hp⟩:=hA.pa
 obtain⟨xb,hb,Wn⟩:=hA.pb
 obtain⟨xc,hc,Mw⟩:=hA.pc
 obtain⟨_,_,⟨z1a,z1b⟩,_,_,_⟩:=hA.hz
 have lx:=hA.nl
 refine⟨_,rfl,n,_,rfl,.inl (aq.of hA.hn),λa1 zi=>?_⟩
 have qc:ag H0 (upd H0 a1 (.lst (sw.map V.str))):=ag.ak zi
 have RI:n≠a1:=af hA.hn zi
 have Wo:a≠a1:=af ha zi
 have Wq:b≠a1:=af hb zi
 have Wr:c≠a1:=af hc zi
 have h1:(upd H0 a1 (.lst (sw.map V.str))) a1=some (.lst (sw.map V.str)):=ae
 generalize hH1:upd H0 a1 (.lst (sw.map V.str))=H1 at *
 have RJ:=qc a _ ha
 have j4:=qc b _ hb
 have bY:=qc c _ hc
 have uz:=qc n _ hA.hn
 refine⟨(by show 0<=sizeLine;decide),λp gG=>?_⟩
 have ER:a≠p:=af RJ gG
 have xE:b≠p:=af j4 gG
 have qO:c≠p:=af bY gG
 have xF:n≠p:=af uz gG
 have xG:iE K (upd H1 p (.lst [])) z s0 s1 s2 s3:=(hA.hz.same qc).same (ag.ak gG)
 refine⟨_,rfl,_,rfl,xG.ix (i:=1) (v:=.int s1) rfl ⟨_,_,rfl,rfl,a,xs,_,rfl,(by rw[ah ER];exact RJ),hp,by omega,by omega,λd EM zf d0 d1 EN uN qQ=>?_⟩⟩
 have k0:e8 H1 zf a n:=λx o h h1 _=>qQ x o (by rw[ah (af h gG)];exact h) h1
 have hn0:zf n=some (.lst (sw.map V.str)):=qQ n _ (by rw[ah xF];exact uz) hA.na
 have GX:zf p=some (.lst []):=qQ p _ ae (aau ER)
 refine⟨_,rfl,by omega,by omega,ib (n:=d.toNat) (λi σ H2=>∃(kp:List (Str×V)) (u9:Option V) (ys:List V),
  σ=[v0,some (.ref z),u9,some (.ref a),some (.ref b),some (.ref c),some (.ref n),some (.ref a1),some (.ref p),none,none,none,none,none,none,none,none]/\kp.length=i/\MD kp/\(sw++kp.map (·.1)).Nodup/\(∀x∈sw++kp.map (·.1),aT x)/\
  aE H2 p (kp.map eZ)/\H2 n=some (.lst ((sw++kp.map (·.1)).map V.str))/\eR ys/\H2 a=some (.lst ys)/\e8 H1 H2 a n) ?_ ?_ ?_⟩
 . refine⟨[],v2,EM,rfl,rfl,(λ_ h=>nomatch h),?_,?_,⟨[],GX,.nil⟩,?_,EN,uN,k0⟩
   . simpa using hA.nd
   . simpa using hA.nm
   . simpa using hn0
 . rintro i σ H2 hi ⟨kp,u9,ys,rfl,xD,lA,jc,kf,⟨us,gk,eO⟩,jW,gc,ME,kp2⟩
   have kg:=eO.length
   rw[aaa]at kg
   have UB:(sw++kp.map (·.1)).length=sw.length+i:=by rw[aaf,aaa,xD]
   refine⟨_,rfl,.inl ⟨rfl,_,aq.of jW⟩,_,rfl,_,rfl,a,n,ys,sw++kp.map (·.1),rfl,ME,gc,hA.na,aq.of jW,by omega,λnw lz H3 yX uW ni MG jb=>?_⟩
   have IK:H3 n=some (.lst ((sw++kp.map (·.1)).map V.str)):=jb n _ jW hA.na
   have qP:H3 p=some (.lst (us.map V.ref)):=jb p _ gk (aau ER)
   refine⟨n,_,_,rfl,rfl,IK,(by rw[aaa];exact small (by omega)),?_⟩
   have ke:(upd H3 n (.lst ((sw++kp.map (·.1)).map V.str++[V.str nw]))) p=some (.lst (us.map V.ref)):=by rw[ah (aau xF)];exact qP
   have IL:(upd H3 n (.lst ((sw++kp.map (·.1)).map V.str++[V.str nw]))) a=some (.lst lz):=by rw[ah (aau hA.na)];exact MG
   refine⟨_,rfl,.inl ⟨rfl,_,aq.of ke⟩,_,rfl,_,rfl,n,_,_,.str nw,rfl,rfl,aq.of ae,yK _ _,(by show 3<=sizeLine;decide),λq hq=>?_⟩
   have RK:a≠q:=af IL hq
   have Ws:p≠q:=af ke hq
   have Wt:n≠q:=af (ae (H:=H3) (a:=n)) hq
   refine⟨_,rfl,a,lz,3,rfl,(by rw[ah RK];exact IL),ni,by decide,by decide,λd2 qL H5 e0 e1 nj qa eW=>?_⟩
   obtain⟨fv,Wu,Wv⟩:=GY e0 e1
   have Ww:H5 q=some (.lst [V.int 0,.int 1,.aM]):=eW q _ ae (aau RK)
   have jE:H5 p=some (.lst (us.map V.ref)):=eW p _ (by rw[ah Ws];exact ke) (aau ER)
   have qb:H5 n=some (.lst ((sw++kp.map (·.1)).map V.str++[V.str nw])):=eW n _ (by rw[ah Wt,ae]) hA.na
   refine⟨q,_,d2,fv,rfl,rfl,aq.of Ww,Wu,(by show 2<=sizeLine;decide),λTp jo=>?_⟩
   have pZ:p≠Tp:=af jE jo
   have Wx:a≠Tp:=af qa jo
   have MA:n≠Tp:=af qb jo
   refine⟨p,_,_,rfl,rfl,(by rw[ah pZ];exact jE),(by rw[aaa];exact small (by omega)),?_⟩
   have en:sw++(kp++[(nw,fv)]).map (·.1)=(sw++kp.map (·.1))++[nw]:=by rw[aag,← abo];rfl
   have zj:∀x o,H3 x=some o->x≠a->x≠n->H5 x=some o:=λx o hx h1 h2=>eW x o (by
    have e4:(upd H3 n (.lst ((sw++kp.map (·.1)).map V.str++[V.str nw]))) x=some o:=by rw[ah h2];exact hx
    rw[ah (af e4 hq)]
    exact e4) h1
   refine⟨kp++[(nw,fv)],_,qL,rfl,(by rw[aaf,aat,xD]),λr hr=>?_,(by rw[en];exact md jc uW),λx hx=>?_,?_,?_,nj,?_,λx o hx h1 h2=>?_⟩
   . rcases aae.mp hr with hr|hr
     . exact lA r hr
     . rw[aai.mp hr];exact Wv
   . rw[en]at hx
     rcases aae.mp hx with hx|hx
     . exact kf x hx
     . rw[aai.mp hx];exact yX
   . have er:(kp++[(nw,fv)]).map eZ=kp.map eZ++[[V.str nw,fv]]:=by rw[aag];rfl
     rw[er]
     refine aE.snoc (Paired.bj eO λx r e=>?_) ae (λx uZ e z'=>by rw[z',ah pZ,jE]at e;cases e)
     have RL:=eX e ME (by intro z;cases z)
     have Wy:=eX e jW (by intro z;cases z)
     have e5:H5 x=some (.tup r):=zj x _ (jb x _ e RL) RL Wy
     rw[ah (af e5 jo)]
     exact e5
   . rw[ah xF,ah MA,qb,en]
     simp only[aag,aay,ace]
   . rw[ah ER,ah Wx]
     exact qa
   . have e5:H5 x=some o:=zj x o (jb x o (kp2 x o hx h1 h2) h1) h1 h2
     rw[ah (af hx gG),ah (af e5 jo)]
     exact e5
 . rintro σ H2 ⟨kp,u9,ys,rfl,xD,lA,jc,kf,qM,jW,gc,ME,kp2⟩
   have zg:H2 b=some (.lst xb):=kp2 b _ j4 (aau hA.ab) (aau hA.nb)
   have lU:H2 c=some (.lst xc):=kp2 c _ bY (aau hA.ac) (aau hA.nc)
   refine rB _ H2 v0 u9 (some (.ref a)) z b c n a1 p s0 s1 s2 s3 (sw++kp.map (·.1)) sw kp rfl ⟨⟨xb,zg,Wn⟩,⟨xc,lU,Mw⟩,(hA.hz.same qc).yk kp2 hA.za hA.zn,hA.zb,hA.zc,hA.zn,hA.bc,jW,hA.nb,hA.nc,(by rw[aaf,aaa];omega),kf,jc,
    kp2 a1 _ h1 (aau Wo) (aau RI),aau Wq,aau Wr,aau RI,qM,aau xE,aau qO,aau xF,(aav.mp jc).2.1,by omega⟩ ?_
   intro m gt nx nv sm a3 a4 a5 a6 H' q1 q2 q3 q4 q5 q6 w1 w2 l1 l2 l3 hM u7
   refine kk m ⟨sw,kp,gt,nx,nv,sm⟩ (sw++kp.map (·.1)++gt.map (·.1)) a1 p a3 a4 a5 a6 H' rfl ⟨rfl,q3,q2,lA,λr hr=>(q5.1 r hr).1,λr hr=>(q5.1 r hr).2,q5.2,w1,w2,q1⟩ ?_ ⟨by show (kp.length:Int)<=s1;omega,by show kp.length<=16;omega⟩ q4 (by show nx.length<=16;omega) l1 l2 l3 hM ?_
   . simp only[aaf,aaa]
     omega
   . intro x o hx h1 h2 h3 h4
     exact u7 x o (kp2 x o (qc x o hx) h1 h4) h2 h3 h4
end
theorem qR{σ:St}{H:Hp}{A B:Hp->Prop}(h:A H):vR σ H (λb H3=>if b=true then A H3 else B H3):=by
 show (if true=true then A H else B H)
 rw[aa4 rfl]
 exact h
theorem C1:(["_law_k", "_law_cell"]:List Str).Nodup:=by decide+kernel
noncomputable abbrev ky(Q:VK)(s0 s1 s3:Int)(H:Hp):Prop:=
 ∀(m:Addr) (M:ax) (names:List Str) (a1 a2 a3 a4 a5 a6:Addr) (H':Hp),aG M names->names.length<=88->((M.switches.length:Int)<=s0/\M.switches.length<=12)->((M.keepers.length:Int)<=s1/\M.keepers.length<=16)->M.gates.length<=60->M.nexts.length<=16->1<=M.nevers.length->(M.nevers.length:Int)<=s3->(M.somes.length:Int)<=s3->
  cb H' m M a1 a2 a3 a4 a5 a6->ag H H'->Q (.ref m) H'
noncomputable def ph(K:W.Frag):Sp:=λvs H Q _=>∃(ce z:Addr) (c0 c1 c2 s0 s1 s2 s3:Int),vs=[.ref ce,.ref z]/\aq K H ce [.int c0,.int c1,.int c2]/\iE K H z s0 s1 s2 s3/\(∃o,H z=some o)/\ky Q s0 s1 s3 H
section
variable {P:Program}{w:World}{K:W.Frag}{mg:Str->Option Value}{base:Heap}{fP fS fL fW fR:Addr}{dP dS dL dW dR:FuncData}
theorem ES{f:Addr}{fd:FuncData}(F:aQ K "_law_machine_digits" "_law_machine_digits" gi f fd)(G:Defs P w K mg base fP fS fL fW fR dP dS dL dW dR):aP P w K mg base aZ 4 f fd qN (ph K):=by
 refine F.ok gd (λvs H Q E h=>?_) (λcdv A outer s H vs Q E hr h=>?_)
 . obtain⟨ce,z,c0,c1,c2,s0,s1,s2,s3,rfl,_⟩:=h
   rfl
 . obtain⟨ce,z,c0,c1,c2,s0,s1,s2,s3,rfl,qd,hz,⟨oz,zm⟩,kk⟩:=h
   have eC:aW 1 _:=hr.mono (by decide)
   have gH:aW 2 _:=hr.mono (by decide)
   obtain⟨tA,hA,rA⟩:=QF G (outer:=outer) (H:=H) (E:=E) (Q:=Q) hr
   refine⟨_,aj (yB (b8 (N:=["_law_k", "_law_cell"]) (js:=[none,none]) (g:=lK K 2 (dm (bO 0) (dm (bO 1) lJ))) (by kernel_rfl) rfl (so rfl G.T.enum (aa (pv 0) ai))
    (λ_ _ _ _ _ _=>cN rfl (aA (ar (i:=0) C1 rfl (Or.inl rfl) (.inr rfl)) (aA (ar (i:=1) C1 rfl (Or.inl rfl) (.inr rfl)) cc))) (λ_ _ _ _ _ _=>bb)
    (λ_ _ _ _ _ _=>cf (aa (pv 1) (aa (aU G.gR gH rfl G.mR G.kR G.bR .nil bw (aa (pv 1) (aa (az eV ao (pv 0)) ai))) ai))))
    (Ko rfl (aA (ar (i:=3) gd.nd rfl (Or.inl rfl)) (aA (ar (i:=4) gd.nd rfl (Or.inl rfl)) (aA (ar (i:=5) gd.nd rfl (Or.inl rfl)) cc)))))
    (aj (bq (i:=6) gd.nd rfl (Or.inl rfl) (cf ai))
    (aj (dU aa6 rfl (dh rfl G.T.range (aa (aU G.gP eC rfl G.mP G.kP G.bP .nil bw (aa (pv 3) (aa (az eV (aF qx (pv 1) ao (λ_ _=>rfl)) ao) ai))) ai)) (ar (i:=2) gd.nd rfl (Or.inl rfl))
     (av (dg (eY aaX abd abe dj (pv 6) (aa (aU G.gS gH rfl G.mS G.kS G.bS .nil bw (aa (pv 3) (aa (pv 6) ai))) ai))))) hA)),?_⟩
   obtain⟨_,⟨z0a,z0b⟩,_,_,_,_⟩:=id hz
   refine⟨_,rfl,ce,rfl,⟨_,qd⟩,λD hD=>?_⟩
   refine gr 3 (λi acc σ H2=>∃(ls:List Addr) (u v:Option V),acc=ls.map V.ref/\ls.length=i/\ls.Nodup/\σ=[u,v]/\(∀l∈ls,H l=none/\l≠D/\∃x y:Int,H2 l=some (.lst [.int x,.int y]))/\ag H H2)
    ⟨[],none,none,rfl,rfl,acg,rfl,(λ_ h=>nomatch h),ag.ak hD⟩ ae ?_ ?_
   . -- a,b,c
     rintro acc σ H2 bf ⟨ls,u,v,rfl,uU,jc,rfl,By,gJ⟩
     refine⟨⟨_,ag.seq gJ qd,aah _⟩,?_⟩
     obtain⟨a,b,c,rfl⟩:∃a b c,ls=[a,b,c]:=by
      match ls,uU with
      | [a,b,c],_=>exact⟨a,b,c,rfl⟩
     obtain⟨fa,_,xa,ya,ha⟩:=By a (by simp)
     obtain⟨fb,_,xb,yb,hb⟩:=By b (by simp)
     obtain⟨fc,_,xc,yc,hc⟩:=By c (by simp)
     have dist:a≠b/\a≠c/\b≠c:=by
      simp only[aa0,aal,aaH,abF,ad3]at jc
      exact⟨jc.1.1,jc.1.2,jc.2.1⟩
     obtain⟨ab,ac,bc⟩:=dist
     refine⟨D,_,rfl,aq.of bf,rfl,_,_,rfl,_,_,rfl,_,_,rfl,rfl,?_⟩
     refine⟨(by show 0<=sizeLine;decide),λn hn=>?_⟩
     have an:a≠n:=af ha hn
     have bn:b≠n:=af hb hn
     have cn:c≠n:=af hc hn
     have Bu:ag H2 (upd H2 n (.lst [])):=ag.ak hn
     have ET:iE K (upd H2 n (.lst [])) z s0 s1 s2 s3:=(hz.same gJ).same Bu
     refine⟨_,rfl,_,rfl,ET.ix (i:=0) (v:=.int s0) rfl ⟨_,_,rfl,rfl,a,_,_,rfl,(by rw[ah an];exact ha),.inr ⟨_,_,rfl⟩,by omega,by omega,λd EM H4 d0 d1 EN IL qQ=>?_⟩⟩
     have zh:H4 n=some (.lst []):=qQ n _ ae (aau an)
     have k04:aI H H4 a:=((ag.keep gJ a).trans (ag.keep Bu a)).trans qQ
     have Wz:aI H2 H4 a:=(ag.keep Bu a).trans qQ
     refine⟨_,rfl,by omega,by omega,ib (n:=d.toNat) (λi σ H5=>∃(sw:List Str) (v2:Option V) (ys:List V),
      σ=[some (.ref ce),some (.ref z),v2,some (.ref a),some (.ref b),some (.ref c),some (.ref n),none,none,none,none,none,none,none,none,none,none]/\sw.length=i/\sw.Nodup/\(∀x∈sw,aT x)/\H5 n=some (.lst (sw.map V.str))/\eR ys/\H5 a=some (.lst ys)/\e8 H2 H5 a n) ?_ ?_ ?_⟩
     . exact⟨[],none,EM,rfl,rfl,acg,(λ_ h=>nomatch h),zh,EN,IL,Wz.to2 n⟩
     . rintro i σ H5 hi ⟨sw,v2,ys,rfl,RM,GZ,kf,qb,gc,qa,eW⟩
       refine⟨_,rfl,.inl ⟨rfl,_,aq.of qb⟩,_,rfl,_,rfl,a,n,ys,sw,rfl,qa,gc,aau an,aq.of qb,by omega,λnw lz H6 yX uW Mt xA xB=>?_⟩
       have EO:H6 n=some (.lst (sw.map V.str)):=xB n _ qb (aau an)
       refine⟨n,_,_,rfl,rfl,EO,(by rw[aaa];exact small (by omega)),?_⟩
       refine⟨sw++[nw],_,lz,rfl,(by rw[aaf,aat,RM]),md GZ uW,λx hx=>?_,?_,Mt,(by rw[ah an];exact xA),(eW.trans (xB.to2 n)).trans e8.QA⟩
       . rcases aae.mp hx with hx|hx
         . exact kf x hx
         . rw[aai.mp hx];exact yX
       . rw[ae,aag]
         rfl
     . rintro σ H5 ⟨sw,v2,ys,rfl,RM,GZ,kf,qb,gc,qa,eW⟩
       have Bx:=eW b _ hb (aau ab) bn
       have IJ:=eW c _ hc (aau ac) cn
       have old:∀x o,H x=some o->x≠a/\x≠b/\x≠c/\x≠n:=λx o hx=>⟨af hx fa,af hx fb,af hx fc,af (gJ x o hx) hn⟩
       have nu:ag H H5:=λx o hx=>eW x o (gJ x o hx) (old x o hx).1 (old x o hx).2.2.2
       obtain⟨za,zb,zc,zn⟩:=old z oz zm
       refine rA _ H5 (some (.ref ce)) v2 z a b c n s0 s1 s2 s3 sw rfl ⟨⟨ys,qa,gc⟩,⟨_,Bx,.inr ⟨_,_,rfl⟩⟩,⟨_,IJ,.inr ⟨_,_,rfl⟩⟩,hz.same nu,za,zb,zc,zn,ab,ac,bc,qb,aau an,aau bn,aau cn,by omega,kf,GZ⟩ ?_
       intro m M names a1 a2 a3 a4 a5 a6 H' eM ok l1 l2 l3 l4 l5 l6 l7 hM u7
       refine kk m M names a1 a2 a3 a4 a5 a6 H' ok l1 ⟨by rw[eM];omega,by rw[eM];omega⟩ l2 l3 l4 l5 l6 l7 hM λx o hx=>?_
       obtain⟨q1,q2,q3,q4⟩:=old x o hx
       exact u7 x o (nu x o hx) q1 q2 q3 q4
   . rintro i acc σ H2 hi bf ⟨ls,u,v,rfl,uU,jc,rfl,By,gJ⟩
     obtain⟨ci,hx⟩:∃ci:Int,[V.int c0,V.int c1,V.int c2][i]?=some (.int ci):=by
      rcases (show i=0\/i=1\/i=2 by omega) with rfl|rfl|rfl
      . exact⟨_,rfl⟩
      . exact⟨_,rfl⟩
      . exact⟨_,rfl⟩
     refine⟨⟨_,_,ag.seq gJ qd,hx⟩,?_⟩
     rintro x H' ⟨T,xv,rfl,pW,rfl,fE⟩
     have ex:=fE _ (ag.seq gJ qd)
     rw[hx]at ex
     cases ex
     refine⟨T,_,rfl,aH.of ae,rfl,_,_,rfl,_,_,rfl,rfl,qR ?_⟩
     refine⟨_,rfl,_,rfl,_,rfl,_,_,rfl,rfl,_,_,rfl,by omega,by omega,λv'=>⟨(by show 2<=sizeLine;decide),λl hl=>?_⟩⟩
     have MH:D≠T:=af bf pW
     have IM:ag H2 (upd H2 T (.tup [.int (i:Int),.int ci])):=ag.ak pW
     have MI:D≠l:=af (IM D _ bf) hl
     have RN:ag H2 (upd (upd H2 T (.tup [.int (i:Int),.int ci])) l (.lst [.int ci,.int v'])):=IM.trans (ag.ak hl)
     refine⟨_,(by rw[ah MI,ah MH];exact bf),(by rw[aaa];exact small (by omega)),cp hi ae ⟨ls++[l],_,_,?_,(by rw[aaf,aat,uU]),md jc λhm=>?_,rfl,λy hy=>?_,λy o hy=>?_⟩⟩
     . rw[aag]
       rfl
     . obtain⟨_,_,_,_,e⟩:=By l hm
       rw[IM l _ e]at hl
       cases hl
     . rcases aae.mp hy with hy|hy
       . obtain⟨e1,e2,x1,y1,e3⟩:=By y hy
         exact⟨e1,e2,x1,y1,by rw[ah e2];exact RN y _ e3⟩
       . rw[aai.mp hy]
         exact⟨gJ.free (IM.free hl),aau MI,ci,v',by rw[ah (aau MI),ae]⟩
     . have WA:y≠D:=af hy hD
       rw[ah WA]
       exact RN y _ (gJ y _ hy)
end
noncomputable def qS(K:W.Frag):Sp:=λvs H Q _=>∃(a z:Addr) (ns:List Int) (s0 s1 s2 s3:Int),vs=[.ref a,.ref z]/\aq K H a (ns.map V.int)/\iE K H z s0 s1 s2 s3/\(∃o,H z=some o)/\ky Q s0 s1 s3 H
noncomputable abbrev MJ:List Str:=["_law_script", "_law_sizes", "_law_cells"]
noncomputable abbrev zo:List Str:=["_law_script", "_law_sizes"]
theorem C2:aK MJ zo (aw kr):=⟨rfl,rfl,rfl,by decide+kernel,rfl,by decide+kernel,by decide+kernel⟩
theorem UE:(["_law_k", "_law_script"]:List Str).Nodup:=by decide+kernel
noncomputable abbrev QG(P:Program)(w:World)(K:W.Frag)(mg:Str->Option Value)(base:Heap)(f:Addr)(cdv:Value)(A:Around)(outer:List Env)(s:Shared)(H:Hp)(E:XK):Cx:=
 (jj aZ P w K mg base MJ "_law_machine" (aw kr) f cdv A outer s H E).m8
theorem ky.same{Q:VK}{s0 s1 s3:Int}{H H1:Hp}(k:ky Q s0 s1 s3 H)(s:ag H H1):ky Q s0 s1 s3 H1:=λm M names a1 a2 a3 a4 a5 a6 H' ok l1 l0 l2 l3 l4 l5 l6 l7 hM s1=>k m M names a1 a2 a3 a4 a5 a6 H' ok l1 l0 l2 l3 l4 l5 l6 l7 hM (s.trans s1)
section
variable {P:Program}{w:World}{K:W.Frag}{mg:Str->Option Value}{base:Heap}{fD fC fR:Addr}{dD dC dR:FuncData}
theorem EU(gD:aP P w K mg base aZ 4 fD dD qN (ph K)) (mD:mg "_law_machine_digits" = some (.ref fD)) (kD:W.keepIn K (.ref fD)=true) (bD:Binds K dD qN [])
 {f:Addr}{cdv:Value}{A:Around}{outer:List Env}{s:Shared}{H:Hp}{E:XK}{Q:VK}(hr:aW 4 (A.deeper (PyProof.Rows.envOfC "_law_machine" (aw kr) s.heap.objs.size f cdv))) :
 ∃tR:TS,gj (QG P w K mg base f cdv A outer s H E) (List.drop 2 (cu kr)) tR/\∀(H1:Hp) (v0:Option V) (z D:Addr) (c0 c1 c2 s0 s1 s2 s3:Int),H1 D=some (.lst [.int c0,.int c1,.int c2])->iE K H1 z s0 s1 s2 s3->(∃o,H1 z=some o)->ky Q s0 s1 s3 H1->
  tR {nx:=λ_ H'=>Q .aM H',rt:=Q} [v0,some (.ref z),some (.ref D)] H1:=by
 refine⟨_,av (aJ (aU gD hr rfl mD kD bD .nil bw (aa (cf (aa (aF bG (pv 2) ao (λ_ _=>rfl)) (aa (aF bG (pv 2) ao (λ_ _=>rfl)) (aa (az jG (aF bG (pv 2) ao (λ_ _=>rfl)) ao) ai)))) (aa (pv 1) ai)))),?_⟩
 intro H1 v0 z D c0 c1 c2 s0 s1 s2 s3 hD hz zm kk
 refine⟨_,rfl,D,_,_,.int c0,rfl,rfl,aq.of hD,rfl,_,rfl,D,_,_,.int c1,rfl,rfl,aq.of hD,rfl,_,rfl,D,_,_,.int c2,rfl,rfl,aq.of hD,rfl,_,_,rfl,rfl,⟨by decide,by decide⟩,(by show 3<=sizeLine;decide),λp hp=>?_⟩
 have MK:ag H1 (upd H1 p (.lst [.int c0,.int c1,.int (c2 / 2)])):=ag.ak hp
 obtain⟨o,ho⟩:=zm
 exact⟨_,rfl,p,z,c0,c1,c2 / 2,s0,s1,s2,s3,rfl,aq.of ae,hz.same MK,⟨o,MK z o ho⟩,kk.same MK⟩
theorem C3{f:Addr}{fd:FuncData}(F:aQ K "_law_machine" "_law_machine" kr f fd)(T:Own mg) (gD:aP P w K mg base aZ 4 fD dD qN (ph K)) (mD:mg "_law_machine_digits" = some (.ref fD)) (kD:W.keepIn K (.ref fD)=true) (bD:Binds K dD qN [])
 (gC:aP P w K mg base aZ 1 fC dC ["_law_script", "_law_k"] (qF K)) (mC:mg "_law_cell_at" = some (.ref fC)) (kC:W.keepIn K (.ref fC)=true) (bC:Binds K dC ["_law_script", "_law_k"] [])
 (gR:aP P w K mg base aZ 2 fR dR ["_law_cell", "_law_k"] uS) (mR:mg "_law_rich" = some (.ref fR)) (kR:W.keepIn K (.ref fR)=true) (bR:Binds K dR ["_law_cell", "_law_k"] []) :
 aP P w K mg base aZ 5 f fd zo (qS K):=by
 refine F.ok C2 (λvs H Q E h=>?_) (λcdv A outer s H vs Q E hr h=>?_)
 . obtain⟨a,z,ns,s0,s1,s2,s3,rfl,_⟩:=h
   rfl
 . obtain⟨a,z,ns,s0,s1,s2,s3,rfl,hS,hz,⟨oz,zm⟩,kk⟩:=h
   have eC:aW 1 _:=hr.mono (by decide)
   have gH:aW 2 _:=hr.mono (by decide)
   obtain⟨tR,hR,rR⟩:=EU gD mD kD bD (outer:=outer) (H:=H) (E:=E) (Q:=Q) hr
   refine⟨_,aj (nh (i:=2) (N:=["_law_k", "_law_script"]) (js:=[none,some 0]) C2.nd rfl rfl (by kernel_rfl) rfl (dh rfl T.range (aa ao ai)) (λ_ _ _ _ _ _=>ar (i:=0) UE rfl (Or.inl rfl) (.inr rfl)) (λ_ _ _ _ _ _=>bb)
    (λ_ _ _ _ _ _=>aU gC eC rfl mC kC bC .nil bw (aa (pv 1) (aa (pv 0) ai))))
    (aj (cU (bh kQ (az dY (aF bG (pv 2) ao (λ_ _=>rfl)) ao) ao (cQ _))
     (av (nh (i:=2) (N:=["_law_k", "_law_cell"]) (js:=[none,none]) (g:=lK K 2 (dm (bO 0) (dm (bO 1) lJ))) C2.nd rfl rfl (by kernel_rfl) rfl (so rfl T.enum (aa (pv 2) ai))
      (λ_ _ _ _ _ _=>cN rfl (aA (ar (i:=0) C1 rfl (Or.inl rfl) (.inr rfl)) (aA (ar (i:=1) C1 rfl (Or.inl rfl) (.inr rfl)) cc))) (λ_ _ _ _ _ _=>bb)
      (λ_ _ _ _ _ _=>aU gR gH rfl mR kR bR .nil bw (aa (pv 1) (aa (pv 0) ai))))) bN) hR),?_⟩
   refine⟨3,rfl,by decide,by decide,λD hD=>?_⟩
   have nzD:z≠D:=af zm hD
   refine gr 3 (λi acc σ H2=>(∃cs:List Int,acc=cs.map V.int/\cs.length=i)/\(∃v,σ=[v,some (.ref a)])/\H2=upd H D (.lst acc)) ⟨⟨[],rfl,rfl⟩,⟨none,rfl⟩,rfl⟩ ae ?_ ?_
   . rintro acc σ H2 bf ⟨⟨cs,rfl,ja⟩,_,rfl⟩
     obtain⟨c0,c1,c2,rfl⟩:∃c0 c1 c2,cs=[c0,c1,c2]:=by
      match cs,ja with
      | [c0,c1,c2],_=>exact⟨c0,c1,c2,rfl⟩
     refine⟨aah _,?_⟩
     have qc:ag H (upd H D (.lst [.int c0,.int c1,.int c2])):=ag.ak hD
     refine⟨_,rfl,D,_,_,.int c2,rfl,rfl,aq.of ae,rfl,_,_,rfl,rfl,(by show (0:Int)<2;decide),rfl,_,rfl,?_⟩
     refine j3 (λ_=>?_) (λ_=>?_)
     . refine⟨_,rfl,D,rfl,⟨_,aq.of ae⟩,λD2 iM=>?_⟩
       have nDD:D≠D2:=af ae iM
       refine gr 3 (λi acc σ H3=>(∃cs:List Int,acc=cs.map V.int/\cs.length=i)/\(∃u v,σ=[u,v])/\ag (upd H D (.lst [.int c0,.int c1,.int c2])) H3) ⟨⟨[],rfl,rfl⟩,⟨none,none,rfl⟩,ag.ak iM⟩ ae ?_ ?_
       . rintro acc σ H3 pk ⟨⟨cs,rfl,Hb⟩,_,iN⟩
         obtain⟨e0,e1,e2,rfl⟩:∃c0 c1 c2,cs=[c0,c1,c2]:=by
          match cs,Hb with
          | [c0,c1,c2],_=>exact⟨c0,c1,c2,rfl⟩
         refine⟨⟨_,aq.of (iN D _ ae),aah _⟩,?_⟩
         have jd:=qc.trans iN
         exact rR H3 _ z D2 e0 e1 e2 s0 s1 s2 s3 pk (hz.same jd) ⟨oz,jd z oz zm⟩ (kk.same jd)
       . rintro i acc σ H3 hi pk ⟨⟨cs,rfl,Hb⟩,⟨u,v,rfl⟩,iN⟩
         obtain⟨ci,hx⟩:∃ci:Int,[V.int c0,V.int c1,V.int c2][i]?=some (.int ci):=by
          rcases (show i=0\/i=1\/i=2 by omega) with rfl|rfl|rfl
          . exact⟨_,rfl⟩
          . exact⟨_,rfl⟩
          . exact⟨_,rfl⟩
         have ly:H3 D=some (.lst [V.int c0,V.int c1,V.int c2]):=iN D _ ae
         refine⟨⟨_,_,aq.of ly,hx⟩,?_⟩
         rintro x H' ⟨Tp,xv,rfl,pW,rfl,fE⟩
         have ex:=fE _ (aq.of ly)
         rw[hx]at ex
         cases ex
         refine⟨Tp,_,rfl,aH.of ae,rfl,_,_,rfl,_,_,rfl,rfl,qR ?_⟩
         have MH:D2≠Tp:=af pk pW
         refine⟨_,rfl,_,rfl,_,_,rfl,by omega,by omega,λv'=>⟨_,(by rw[ah MH];exact pk),(by rw[aaa];exact small (by omega)),cp hi ae ⟨⟨cs++[v'],?_,?_⟩,⟨_,_,rfl⟩,λy o hy=>?_⟩⟩⟩
         . rw[aag];rfl
         . rw[aaf,aat,Hb]
         . have e3:=iN y o hy
           rw[ah (af hy iM),ah (af e3 pW)]
           exact e3
     . exact rR _ _ z D c0 c1 c2 s0 s1 s2 s3 ae (hz.same qc) ⟨oz,qc z oz zm⟩ (kk.same qc)
   . rintro i acc σ H2 hi bf ⟨⟨cs,rfl,ja⟩,⟨v,rfl⟩,rfl⟩
     refine⟨hi,?_⟩
     rintro x H' ⟨rfl,rfl⟩
     refine fg ?_
     refine⟨_,rfl,_,rfl,a,ns,_,rfl,ag.seq (ag.ak hD) hS,by omega,λv'=>⟨_,ae,(by rw[aaa];exact small (by omega)),cp hi ae ⟨⟨cs++[v'],?_,?_⟩,⟨_,rfl⟩,by rw[jF]⟩⟩⟩
     . rw[aag];rfl
     . rw[aaf,aat,ja]
end
end Gen
namespace PySem
open Sem (wp)
theorem pq:typeLookup (.type "list") "__getattr__" = pure none:=by rw[adO,acK];kernel_rfl
theorem sH:typeLookup (.type "list") "keys" = pure none:=by rw[adO,acK];kernel_rfl
theorem pz{A:Around}{prog:Program}{w:World}{Q:Fin->Shared->Prop}{E:Value->Shared->Prop}{h:Heap}{g d t os} {a:Addr}{items:Array Value}{n:Nat}(u:Tok) (hx:h.get? a=some {cls:=.type "list",data:=.seq items n}) (hh:A.handled=none)
 (hE:∀h' tk e,Heap.NewAttrErr h h' e (.ref a) "keys" -> E (.ref e) ⟨h',g,d,tk,os⟩) :
 wpAny (model prog w) A (Builtin.«object.__getattribute__» ⟨[.ref a,.str "keys" u],[]⟩) Q E ⟨h,g,d,t,os⟩:=by
 have hT:∀t',(⟨h,g,d,t',os⟩:Shared).TypeIs (.ref a) "list":=λt'=>⟨_,hx,rfl⟩
 have IP:=hT t
 have QH:=sH
 have hc:[Str.ofString "__module__",Str.ofString "__name__",Str.ofString "__qualname__",Str.ofString "__doc__",Str.ofString "__annotations__"].contains (Str.ofString "keys")=false:=by decide+kernel
 unfold Builtin.«object.__getattribute__»
 repeat (any_goals (first|assumption|wp_step|refine wpAny_ite_false hc ?_))
 all_goals first
  | exact wpAny_raiseAttrError hh hE (attrMsg_fits (by decide+kernel) (by decide))
  | skip
theorem zp{A:Around}{prog:Program}{w:World}{R:Result->Shared->Prop}{h:Heap}{g d t os} {a:Addr}{items:Array Value}{n:Nat}{u:Tok}(hx:h.get? a=some {cls:=.type "list",data:=.seq items n}) (hh:A.handled=none)
 (hE:∀h' tk e,Heap.NewAttrErr h h' e (.ref a) "keys" -> R (.error (.ref e)) ⟨h',g,d,tk,os⟩) :
 codeAny (model prog w) A (.call (.builtin "list.__getattribute__") ⟨[.ref a,.str "keys" u],[]⟩) R ⟨h,g,d,t,os⟩:=
 codeAny_call_builtin acs.plain F.entry_list_ga (acs.check _ _ _ _ _ _ _ _ (show (⟨h,g,d,t,os⟩:Shared).TypeIs (.ref a) "list" from⟨_,hx,rfl⟩) (F.args_list_getattribute_2 _ _) (pz u hx hh hE))
theorem zr{A:Around}{prog:Program}{w:World}{E:Value->Shared->Prop}{h:Heap}{g d t os} {a:Addr}{items:Array Value}{n:Nat}{Q:Option Value->Shared->Prop}(hx:h.get? a=some {cls:=.type "list",data:=.seq items n}) (hh:A.handled=none)
 (hQ:∀h' tk,(∀b o,h.get? b=some o->h'.get? b=some o)->Q none ⟨h',g,d,tk,os⟩):wpAny (model prog w) A (getAttr? (.ref a) "keys") Q E ⟨h,g,d,t,os⟩:=by
 have hT:(⟨h,g,d,t,os⟩:Shared).TypeIs (.ref a) "list":=⟨_,hx,rfl⟩
 have f1:=sub_AttributeError
 have f2:=acs.lookup
 have f3:=acs.bind (.ref a)
 have f5:=pq
 unfold getAttr? getAttrBy? getAttrBy
 repeat (any_goals (first|assumption|((with_reducible show codeAny _ _ (Code.call (Value.builtin "list.__getattribute__") _) _ _);refine zp hx hh ?_;intro h' qT e EV;obtain⟨t1,u1,he⟩:=EV.there)|wp_step))
 exact hQ h' qT EV.keeps
namespace F
theorem e9:entryFor table "dict.update.loop" = some Builtin.«dict.update.loop»:=entryFor_of_tree (by kernel_rfl)
theorem bU:plainId "dict.update.loop" = true:=by decide+kernel
end F
section
variable {prog:Program}{w:World}{K:Type}[DecidableEq K] {knd:KeyKind prog w K}{A:Around}{R:Result->Shared->Prop}
noncomputable def zt(knd:KeyKind prog w K)(h:Heap)(u:Value)(kv:K×Value):Prop:=∃t key,u=.ref t/\h.IsTuple t #[key,kv.2]/\knd.is kv.1 key=true
theorem vY{d it l:Addr}{items:Array Value}{kvs:List (K×Value)}(ML:d≠it) (sX:d≠l) (sV:l≠it) (hz:kvs.length<=sizeLine) (hh:A.handled=none) :
 ∀(k i:Nat) (s:Shared) (tk:Tok) (acc:List (K×Value)),items.size-i=k->i<=items.size->kvs.length=items.size->s.heap.IsListIter it l i->s.heap.IsList l items->s.heap.DictOf knd d acc->acc.length<=i->
 (∀(j:Nat) (u:Value) (kv:K×Value),items[j]?=some u->kvs[j]?=some kv->zt knd s.heap u kv/\(∀t,u=.ref t->t≠d/\t≠it))->
 (∀h' tk,h'.DictOf knd d ((kvs.drop i).foldl (λa kv=>stored a kv.1 kv.2) acc)->(∀b o,b≠d->b≠it->s.heap.get? b=some o->h'.get? b=some o)->R (.ok (.ret .none)) {s with heap:=h',toks:=tk})->
 codeAny (model prog w) A (.builtin "dict.update.loop" ⟨[.ref d,.ref it,.int (i:Int) tk,.none],[]⟩) R s:=by
 intro k
 induction k with
 | zero=>
  intro i s tk acc hk hi hlen hit hl hd Hc hp hR
  have xH:i=items.size:=by omega
  refine adP F.e9 ?_
  rw[acT F.bU _]
  show wpAny _ A.in1 (pyNext (.ref it) >>= _) _ _ s
  refine aab (adp (A:=A.in1) hh hit hl (adi (by omega)) λh' he=>?_)
  refine aab (aaj (aaj ?_))
  have hd':h'.DictOf knd d acc:=let ⟨o,es,ep,ho,r⟩:=hd; ⟨o,es,ep,he d o ML ho,r⟩
  refine hR h' s.toks ?_ λb o _ hb e=>he b o hb e
  rw[aeA (by omega)]
  exact hd'
 | succ k ih=>
  intro i s tk acc hk hi hlen hit hl hd Hc hp hR
  have c8:i<items.size:=by omega
  have hx:items[i]?=some items[i]:=ab3 c8
  have iO:kvs[i]?=some kvs[i]:=aad (by omega)
  obtain⟨⟨t,key,ht,UG,mw⟩,h7⟩:=hp i _ _ hx iO
  obtain⟨ntd,WB⟩:=h7 t ht
  refine adP F.e9 ?_
  rw[acT F.bU _]
  show wpAny _ A.in1 (pyNext (.ref it) >>= _) _ _ s
  refine aab (adg hit hl hx λh1 GK pY=>?_)
  rw[ht]
  have QI:h1.IsTuple t #[key,(kvs[i]).2]:=let ⟨o,e,r⟩:=UG; ⟨o,(pY.2 t WB).trans e,r⟩
  refine aab (abq (aab ?_))
  refine wpAny_tryCatch ?_
  unfold Builtin.Dict.pairItems
  obtain⟨ot,e1,Mr,n1,EW⟩:=id QI
  refine aab (adt (show ({s with heap:=h1} : Shared).TypeIs (.ref t) "tuple" from⟨ot,e1,Mr⟩) ?_)
  rw[aa4 (by decide)]
  refine aab (abh e1 EW (aaj ?_))
  show wpAny _ A.in1 (holding [key,(kvs[i]).2] (dictSet d key (kvs[i]).2)) _ _ _
  refine abq ?_
  unfold dictSet
  try with_reducible refine abq ?_
  have ie:h1.DictOf knd d acc:=let ⟨o,es,ep,ho,r⟩:=hd; ⟨o,es,ep,(pY.2 d ML).trans ho,r⟩
  refine aab (knd.pyHash mw ?_)
  refine ad5 mw ie (λh2 hd2 i8=>?_) (by omega)
  refine aaj ⟨aek F.bU _,?_⟩
  have er:rawInt ((i:Int)+1)=Value.int (((i+1:Nat):Nat):Int) 0:=by simp[rawInt]
  rw[er]
  have keep:∀b o,b≠d->b≠it->s.heap.get? b=some o->h2.get? b=some o:=λb o b1 b2 e=>(i8.2 b b1).trans ((pY.2 b b2).trans e)
  refine ih (i+1) _ 0 (stored acc (kvs[i]).1 (kvs[i]).2) (by omega) (by omega) hlen ?_ ?_ hd2 ?_ ?_ ?_
  . obtain⟨o,e,r⟩:=GK
    exact⟨o,(i8.2 it (aau ML)).trans e,r⟩
  . obtain⟨o,e,r⟩:=hl
    exact⟨o,keep l o (aau sX) sV e,r⟩
  . have:=stored_length_le acc (kvs[i]).1 (kvs[i]).2
    omega
  . intro j u kv hu UI
    obtain⟨⟨t',UJ,e',je,kc⟩,MM⟩:=hp j u kv hu UI
    obtain⟨a1,a2⟩:=MM t' e'
    obtain⟨o,e,r⟩:=je
    exact⟨⟨t',UJ,e',⟨o,keep t' o a1 a2 e,r⟩,kc⟩,MM⟩
  . intro h' qT hd' kc
    refine hR h' qT ?_ λb o b1 b2 e=>kc b o b1 b2 (keep b o b1 b2 e)
    rw[ab4 (by omega),aeM]
    exact hd'
end
section
variable {prog:Program}{w:World}{K:Type}[DecidableEq K] {knd:KeyKind prog w K}{A:Around}{E:Value->Shared->Prop}{s:Shared}
theorem zu{l:Addr}{items:Array Value}{n:Nat}{kvs:List (K×Value)}{Q:Value->Shared->Prop}(hh:A.handled=none) (hl:s.heap.get? l=some {cls:=.type "list",data:=.seq items n}) (hlen:kvs.length=items.size) (hz:kvs.length<=sizeLine)
 (hp:∀(j:Nat) (u:Value) (kv:K×Value),items[j]?=some u->kvs[j]?=some kv->zt knd s.heap u kv)
 (h:∀h' tk,h'.DictOf knd s.heap.objs.size (merged [] kvs)->(∀b o,s.heap.get? b=some o->h'.get? b=some o)->Q (.ref s.heap.objs.size) {s with heap:=h',toks:=tk}) :
 wpAny (model prog w) A (call (.type "dict") [.ref l]) Q E s:=by
 refine callType_codes (Q₁:=λobj dQ=>obj=.ref s.heap.objs.size/\dQ = {s with heap:=s.heap.push {cls:=.type "dict",data:=.dict #[] } }) F.kt_called_dict (F.kt_typeCall_dict_1 _) F.entry_dict_init (kt_code_dict_new _ ⟨rfl,rfl⟩) ?_
 rintro obj dQ ⟨rfl,rfl⟩
 have nQ:(s.heap.push {cls:=.type "dict",data:=.dict #[] }).DictOf knd s.heap.objs.size []:=aeE s.heap
 have Ex:(s.heap.push {cls:=.type "dict",data:=.dict #[] }).get? l=some {cls:=.type "list",data:=.seq items n}:=aac _ hl
 refine⟨nQ.typeIs,F.args_dict_init_2 _ _,?_⟩
 unfold Builtin.«dict.__init__»
 refine aab ?_
 unfold Builtin.Dict.selfAndRest
 refine aab (wpAny_notOrdered_dict nQ.typeIs ?_)
 show wpAny _ _ (pure (s.heap.objs.size,[Value.ref l])) _ _ _
 refine aaj ?_
 show wpAny _ _ (Builtin.Dict.updateFrom "dict.__init__" s.heap.objs.size (.ref l) [] .none) _ _ _
 unfold Builtin.Dict.updateFrom
 refine aab (adt (show ({s with heap:=s.heap.push {cls:=.type "dict",data:=.dict #[] } } : Shared).TypeIs (.ref l) "list" from⟨_,Ex,rfl⟩) ?_)
 rw[aa4 (by decide)]
 generalize pY:({s with heap:=s.heap.push {cls:=.type "dict",data:=.dict #[] } } : Shared)=s1 at *
 obtain⟨g1,g2,g3,g4,g5⟩:=s1
 cases pY
 refine aab (zr Ex (by first|exact hh|rfl) λh2 MN k2=>?_)
 rw[aa4 (show (none:Option Value).isNone=true from rfl)]
 have cx:h2.get? l=some {cls:=.type "list",data:=.seq items n}:=k2 _ _ Ex
 have lt2:∀b o,(s.heap.push {cls:=.type "dict",data:=.dict #[] }).get? b=some o->b<h2.objs.size:=λb o e=>aam (k2 b o e)
 refine aab (ac6 (aab (adj (s:={heap:=h2,gens:=s.gens,drawn:=s.drawn,toks:=MN,os:=s.os}) (items:=items) ⟨_,cx,rfl,n,rfl⟩ ?_)))
 refine aaj ⟨aek F.bU _,?_⟩
 have hd2:h2.DictOf knd s.heap.objs.size []:=let ⟨o,es,ep,ho,r⟩:=nQ; ⟨o,es,ep,k2 _ _ ho,r⟩
 have sX:s.heap.objs.size<h2.objs.size:=let ⟨o,es,ep,ho,r⟩:=nQ;lt2 _ _ ho
 have uU:l<s.heap.objs.size:=aam hl
 refine vY (knd:=knd) (d:=s.heap.objs.size) (it:=h2.objs.size) (l:=l) (items:=items) (kvs:=kvs) (aaw sX) (abc uU) (aaw (aeC uU sX)) hz (by first|exact hh|rfl) items.size 0 _ 0 [] rfl (abM _) hlen
  ⟨_,aaq _ rfl,rfl,rfl⟩ ⟨_,aac _ cx,rfl,n,rfl⟩ ?_ (aah _) ?_ ?_
 . obtain⟨o,es,ep,ho,r⟩:=hd2
   exact⟨o,es,ep,aac _ ho,r⟩
 . intro j u kv hu iO
   obtain⟨t,key,e,⟨o,eo,r⟩,hk⟩:=hp j u kv hu iO
   have ht:t<s.heap.objs.size:=aam eo
   refine⟨⟨t,key,e,⟨o,aac _ (k2 _ _ (aac _ eo)),r⟩,hk⟩,λt' e'=>?_⟩
   rw[e]at e'
   cases e'
   exact⟨aaw ht,aaw (aeC ht sX)⟩
 . intro h' qT hd' kc
   refine⟨rfl,h h' qT ?_ λb o e=>?_⟩
   . simpa[merged]using hd'
   . have hb:b<s.heap.objs.size:=aam e
     exact kc b o (aaw hb) (aaw (aeC hb sX)) (aac _ (k2 _ _ (aac _ e)))
end
end PySem
namespace L2
open PySem PySem.Spec PyProof.Rows
section
variable {X:Cx}
theorem yl(h:(aO P w).is k u=true):RelV (kV k) u:=by
 rw[Cd]at h
 cases k with
 | inl i=>cases u <;> first|(simp[jS,Value.isInt]at h;done)|(simp[jS,Value.isInt]at h;subst h;exact⟨_,rfl⟩)
 | inr x=>cases u <;> first|(simp[jS,Value.isStrOf]at h;done)|(simp[jS,Value.isStrOf]at h;subst h;exact⟨_,rfl⟩)
theorem pairs_at(ok:eT P w H h){ts:List Addr}{kvs:List (Key×V)}{us:List Value}(p:Paired (λt kv=>H t=some (.tup [kV kv.1,kv.2])) ts kvs) (r:Vals (ts.map V.ref) us) :
 ∃vs:List (Key×Value),KV kvs vs/\Paired (λu kv=>zt (aO P w) h u kv) us vs:=by
 induction p generalizing us with
 | nil=>
  cases r
  exact⟨[],.nil,.nil⟩
 | @cons t kv ts kvs e p ih=>
  obtain⟨u,MC,rfl,ru,r'⟩:=r.inv
  obtain⟨vs,k1,k2⟩:=ih r'
  cases(show u=Value.ref t from ru)
  obtain⟨_,its,rv,ip⟩:=(show bz P w H h t (.tup [kV kv.1,kv.2]) from ok t _ e)
  obtain⟨key,val,rfl,rk,rl⟩:=vals2 rv
  exact⟨(kv.1,val)::vs,.cons ⟨rfl,rl⟩ k1,.cons ⟨t,key,rfl,ip,kU rk⟩ k2⟩
theorem jq{α β:Type}{F:α->β->Prop} : ∀{l₁:List α}{l₂:List β}{i:Nat}{a:α}{b:β},Paired F l₁ l₂->l₁[i]?=some a->l₂[i]?=some b->F a b
 | _,_,i,a,b,.nil,h,_=>by simp at h
 | _,_,0,a,b,.cons h t,e1,e2=>by
  simp at e1 e2
  subst e1 e2
  exact h
 | _,_,i+1,a,b,.cons h t,e1,e2=>jq (i:=i) t (by simpa using e1) (by simpa using e2)
theorem bp(hc:X.calm=true):jw X (.type "dict") (λxs H Q=>∃p ts kvs,xs=[.ref p]/\H p=some (.lst (ts.map V.ref))/\Paired (λt kv=>H t=some (.tup [kV kv.1,kv.2])) ts kvs/\∀d,H d=none->Q (.ref d) (upd H d (.dK (bE [] kvs)))):=by
 intro pins s σ H xs us Q I r h
 obtain⟨p,ts,kvs,rfl,hp,hT,q⟩:=h
 obtain⟨u,rfl,rx⟩:=vals1 r
 cases(show u=Value.ref p from rx)
 obtain⟨hz,its,n,rv,e⟩:=(show bz X.prog X.w H s.heap p (.lst (ts.map V.ref)) from I.hok p _ hp)
 obtain⟨vs,kv,pv⟩:=pairs_at I.hok hT rv
 have l1:vs.length=its.toArray.size:=by rw[aar];exact pv.length.symm
 have l2:kvs.length=vs.length:=kv.length
 have l3:vs.length<=sizeLine:=by
  have:=hT.length
  rw[aaa]at hz
  lia
 refine zu (knd:=aO X.prog X.w) (kvs:=vs) (I.ok.hd hc) e l1 l3 (λj u kv hu iO=>jq pv (by simpa using hu) iO) λh' tk dd kk=>?_
 refine⟨.ref s.heap.objs.size,_,I.laid (a:=s.heap.objs.size) (o:=.dK (bE [] kvs)) kk (aah _) (lp ?_ (abB.mpr (aau (aaw I.big))) (KV.merge kv .nil) dd),rfl,q _ (I.hok.fresh (aah _))⟩
 have:=iz kvs []
 simp at this
 lia
theorem i0:jw X (.type "dict") (λxs H Q=>∃p kvs,xs=[.ref p]/\Rd H p (.dK kvs)/\∀d,H d=none->Q (.ref d) (upd H d (.dK kvs))):=by
 intro pins s σ H xs us Q I r h
 obtain⟨p,kvs,rfl,hp,q⟩:=h
 obtain⟨u,rfl,rx⟩:=vals1 r
 cases(show u=Value.ref p from rx)
 exact Gy I hp λd s' hd I'=>⟨.ref d,_,I',rfl,q d hd⟩
theorem sY:jw X (.builtin "isinstance") (λxs H Q=>∃x t c b,xs=[x,.ty c]/\jX X.K H x t/\W.kitOne X.K t (.type c)=some b/\Q (.bl b) H):=by
 intro pins s σ H xs us Q I r h
 obtain⟨x,t,c,b,rfl,ty,e,q⟩:=h
 obtain⟨u,v,rfl,rx,ry⟩:=vals2 r
 cases(show v=Value.type c from ry)
 exact wW I rx ty e λtk=>⟨.bl b,H,I.tok _,rfl,q⟩
theorem vZ(hc:X.calm=true):jw X (.type "list") (λxs H Q=>∃p kvs,xs=[.ref p]/\Rd H p (.dK kvs)/\∀l,H l=none->Q (.ref l) (upd H l (.lst (kvs.map λkv=>kV kv.1)))):=by
 intro pins s σ H xs us Q I r h
 obtain⟨p,kvs,rfl,hp,q⟩:=h
 obtain⟨u,rfl,rx⟩:=vals1 r
 cases(show u=Value.ref p from rx)
 obtain⟨z,hd,vs,rel,dd⟩:=iX I.hok hp
 obtain⟨ep,da⟩:=dd.dictAt
 have hlen:kvs.length=vs.length:=rel.length
 refine W.kdl_call (W.kdl_dict (knd:=aO X.prog X.w) (ep:=ep) hd) (I.ok.hd hc) da (by lia) λh' tk Hd c' kk e it=>?_
 have rv:Vals (kvs.map λkv=>kV kv.1) Hd.toList:=by
  obtain⟨i1,i2⟩:=it
  have gen:∀(kvs:List (Key×V)) (vs:List (Key×Value)) (us:List Value),KV kvs vs->us.length=vs.length->(∀(j:Nat) v,us[j]?=some v->∃k x,vs[j]?=some (k,x)/\(aO X.prog X.w).is k v=true)->Vals (kvs.map λkv=>kV kv.1) us:=by
   intro kvs vs us kv
   induction kv generalizing us with
   | nil=>
    intro hl _
    have:us=[]:=abC.mp hl
    subst this
    exact .nil
   | @cons a b as bs Bz t ih=>
    intro hl hu
    match us,hl with
    | u::us,hl=>
     obtain⟨k,x,e1,e2⟩:=hu 0 u rfl
     simp at e1
     have ek:k=a.1:=by rw[Bz.1,e1]
     subst ek
     refine .cons (yl e2) (ih us (by simpa using hl) λj v hj=>?_)
     obtain⟨k',x',e3,e4⟩:=hu (j+1) v (by simpa using hj)
     exact⟨k',x',by simpa using e3,e4⟩
  exact gen kvs vs Hd.toList rel (by rw[adL,i1]) λj v hj=>i2 j v (by rw[← aeG];exact hj)
 refine⟨.ref s.heap.objs.size,_,I.laid (t':=tk) kk (aah _) (show bz X.prog X.w _ h' _ (.lst (kvs.map λkv=>kV kv.1)) from⟨by rw[aaa];exact z,Hd.toList,c',rv,by simpa using e⟩),rfl,q _ (I.hok.fresh (aah _))⟩
end
section
variable {X:Cx}{pins:List (Addr×Obj)}{σ:St}{H:Hp}{s:Shared}{d:Addr}{kvs:List (Key×V)}
theorem Inv.freeze(I:Inv X pins σ H s) (e:H d=some (.dK kvs)):∃o,s.heap.get? d=some o/\Inv X pins σ (upd H d (.bK o (.dK kvs))) s:=by
 obtain⟨z,hd,vs,rel,dd⟩:=r9 I.hok e
 obtain⟨o,es,ep,ho,r⟩:=id dd
 refine⟨o,ho,I.write (x:=d) (e:=d) (t':=s.toks) (h':=s.heap) (by rw[e];trivial) (.inl rfl) (λb u _ q=>q) ⟨o,ho⟩ (show bz X.prog X.w _ s.heap d (.bK o (.dK kvs)) from⟨ho,lp z hd rel dd⟩)⟩
theorem Inv.MP(I:Inv X pins σ H s) (e:H d=some (.bK o (.dK kvs))) (hn:∀o' u,X.yf d≠some (.bK o' u)):Inv X pins σ (upd H d (.dK kvs)) s:=by
 have ne:∀b,H b=none->b≠d:=λb h z=>by rw[z,e]at h;cases h
 have up:∀b,H b=none->upd H d (.dK kvs) b=none:=λb h=>by rw[ah (ne b h)];exact h
 refine⟨I.ok,I.os,I.bare,⟨I.base.keep,I.base.slot,λb ob q n hx=>up b (I.base.free b ob q n hx),I.base.there,λb xs q=>?_,λb ob u q=>?_,λb ps q=>?_⟩,I.loc,I.cell,up _ I.free,λx c q=>up _ (I.freeC x c q),λp hp=>?_,λb u q=>?_,I.len⟩
 . have q1:=I.base.tups b xs q
   rw[ah (λz=>by rw[z,e]at q1;cases q1)]
   exact q1
 . have q1:=I.base.frzs b ob u q
   rw[ah (λz=>hn ob u (by rw[← z];exact q))]
   exact q1
 . obtain⟨more,q1⟩:=I.base.tbls b ps q
   exact⟨more,by rw[ah (λz=>by rw[z,e]at q1;cases q1)];exact q1⟩
 . obtain⟨a1,a2,a3⟩:=I.pin p hp
   exact⟨a1,up _ a2,a3⟩
 . by_cases hb:b=d
   . subst hb
     rw[ae]at q
     cases q
     obtain⟨_,k⟩:=(show bz X.prog X.w H s.heap b (.bK o (.dK kvs)) from I.hok b _ e)
     exact k
   . rw[ah hb]at q
     exact(I.hok b u q).dw (λ_ _ _ z=>z) (λc z=>by rw[ah (λy=>by rw[y,e]at z;cases z)];exact z) λc xs z=>by rw[ah (λy=>by rw[y,e]at z;cases z)];exact z
end
section
variable {X:Cx}
noncomputable def QJ(yf:Hp)(t:TE):TE:=λσ H Q=>t σ H λv H1=>∃d o kvs,H1 d=some (.bK o (.dK kvs))/\(∀o' u,yf d≠some (.bK o' u))/\Q v (upd H1 d (.dK kvs))
theorem oq(h:PE X e t):PE X e (QJ X.yf t):=by
 intro pins s σ H Q I q
 refine aC (h pins s σ H _ I q) λv s1 ⟨x,H1,I1,r1,q1⟩=>?_
 obtain⟨d,o,kvs,e1,hn,q2⟩:=q1
 exact⟨x,_,I1.MP e1 hn,r1,q2⟩
noncomputable def BA(d:Addr)(o:Obj) (kvs:List (Key×V)):It:=⟨λi H=>H d=some (.bK o (.dK kvs))/\i<kvs.length,λi H x H'=>H'=H/\∃kv,kvs[i]?=some kv/\x=kV kv.1,λi H=>H d=some (.bK o (.dK kvs))/\i=kvs.length⟩
theorem EX{P:Program}{w:World}{K:W.Frag}{tg:Expr}{d it:Addr}{o:Obj}{es:Array DictEntry}{ep:Nat}{kvs:List (Key×V)}(hd:o.data=.dict es ep) (h7:d≠it):Turn P w K tg (BA d o kvs) [it] it (λi h=>h.IsKeyIter it d i kvs.length ep) where
 mem:=by simp
 obj:=λi h st b hb=>by
  have e:b=it:=by simpa using hb
  subst e
  obtain⟨o,e,c,d⟩:=st
  exact⟨o,e,λv z=>by rw[d]at z;cases z⟩
 keep:=λi h h' st k=>let ⟨o,e,r⟩:=st; ⟨o,k it (by simp) o e,r⟩
 item:=by
  intro X hP hw hK hc i pins s σ H E I hf st hg
  subst hP hw hK
  obtain⟨f0,f1,f2,f3,f4,f5⟩:=hf it (by simp)
  obtain⟨g1,g2⟩:=hg
  obtain⟨ho,z,hs,vs,rel,o',wQ,wR,gU,r'⟩:=(show bz X.prog X.w H s.heap d (.bK o (.dK kvs)) from I.hok d _ g1)
  rw[ho]at gU
  cases gU
  have ie:=r'.2.1
  rw[hd]at ie
  cases ie
  have hl:kvs.length=vs.length:=rel.length
  refine(Walks.dictKeys (knd:=aO X.prog X.w) (I.ok.hd hc) it d h7 vs ep).item i s _ _ (by lia) ⟨by rw[← hl];exact st,o,es,ho,r'⟩ λv h' tk hv pR kk=>?_
  obtain⟨k,x,ek,ik⟩:=hv
  have I1:Inv X pins σ H {s with heap:=h',toks:=tk}:=I.turned (λb o hb e=>kk b o (by simpa using hb) e) f0 f1 f3 f4 f5
  have jU:h'.IsKeyIter it d (i+1) kvs.length ep:=by rw[hl];exact pR.1
  obtain⟨oi,e,oc,od⟩:=id jU
  have EY:kvs[i]?=some kvs[i]:=aad g2
  have BB:(kvs[i]).1=k:=(jq rel EY ek).1
  exact⟨_,rfl,yh (s:={s with heap:=h',toks:=tk}) e oc od (by decide) ⟨kV k,H,I1,yl ik,⟨rfl,_,EY,by rw[BB]⟩,jU,λb hb=>(hf b hb).1⟩⟩
 done:=by
  intro X hP hw hK hc i pins s σ H E I hf st hg
  subst hP hw hK
  obtain⟨f0,f1,f2,f3,f4,f5⟩:=hf it (by simp)
  obtain⟨g1,g2⟩:=hg
  subst g2
  obtain⟨ho,z,hs,vs,rel,o',wQ,wR,gU,r'⟩:=(show bz X.prog X.w H s.heap d (.bK o (.dK kvs)) from I.hok d _ g1)
  rw[ho]at gU
  cases gU
  have ie:=r'.2.1
  rw[hd]at ie
  cases ie
  have hl:kvs.length=vs.length:=rel.length
  exact(Walks.dictKeys (knd:=aO X.prog X.w) (I.ok.hd hc) it d h7 vs ep).done s _ _ ⟨by rw[← hl];exact st,o,es,ho,r'⟩ λh' tk kk=>⟨rfl,I.turned (λb o hb e=>kk b o (by simpa using hb) e) f0 f1 f3 f4 f5⟩
 self:=λA i s Q E st h=>wpAny_pyIter_keyiter st h
noncomputable def QK(td:TE):TI:=λσ H R=>td σ H λx H1=>∃d kvs,x=.ref d/\H1 d=some (.dK kvs)/\∀o,R (BA d o kvs) (upd H1 d (.bK o (.dK kvs)))
theorem wa(hl:PE X l tl):PI X tg l (QK tl):=by
 intro pins s σ H R I h
 refine aC (hl pins s σ H _ I h) λv s1 ⟨x,H1,I1,r1,q1⟩=>?_
 obtain⟨d,kvs,e,hd,q⟩:=q1
 subst e
 cases(show v=Value.ref d from r1)
 obtain⟨z,hm,vs,rel,dd⟩:=r9 I1.hok hd
 obtain⟨o,es,ep,ho,r⟩:=id dd
 have hlen:kvs.length=vs.length:=rel.length
 obtain⟨o',gU,I2⟩:=I1.freeze hd
 rw[ho]at gU
 cases gU
 refine wpAny_pyIter_dict (knd:=aO X.prog X.w) (ep:=ep) hm ⟨o,es,ho,r⟩ ?_
 have c8:d<s1.heap.objs.size:=aam ho
 refine⟨s1.heap.objs.size,[s1.heap.objs.size],_,_,_,rfl,I2.kept (t':=s1.toks) λb o e=>aac _ e,EX (es:=es) (ep:=ep) (o:=o) (kvs:=kvs) r.2.1 (aaw c8),?_,?_,q o⟩
 . exact⟨_,aaq _ rfl,rfl,by rw[hlen];rfl⟩
 . intro b hb
   have e:b=s1.heap.objs.size:=by simpa using hb
   subst e
   exact I2.nL (aah _) (I2.hok.fresh (aah _))
end
end L2
namespace PySem
open Sem (wp)
section
variable {prog:Program}{w:World}{A:Around}{E:Value->Shared->Prop}{s:Shared}
theorem pA{it t:Addr}{i:Nat}{items} {x:Value}{Q:Value->Shared->Prop}(hit:s.heap.IsTupleIter it t i)(ht:s.heap.IsTuple t items)(hx:items[i]?=some x)
 (hQ:∀h',h'.IsTupleIter it t (i+1)->Heap.SameBut it s.heap h'->Q x {s with heap:=h'}):wpAny (model prog w) A (Builtin.SmallTypes.nextOf (.ref it)) Q E s:=by
 obtain⟨o,ho,hc,hd⟩:=id hit
 obtain⟨ol,sZ,_,nl,sX⟩:=ht
 unfold Builtin.SmallTypes.nextOf
 refine aab (abj (name:=Str.ofString "__next__") hit.typeIs ack (abv ack hit.typeIs adQ ?_ (adI _)))
 show wpAny _ _ (field (.ref it) 0 >>= _) _ _ s
 refine aab (aa9 ho hd (x:=.ref t) rfl ?_)
 show wpAny _ _ (if (Value.ref t == Value.none)=true then _ else _) _ _ s
 rw[aaY (show ¬ ((Value.ref t == Value.none)=true) from aax)]
 show wpAny _ _ (field (.ref it) 1 >>= _) _ _ s
 refine aab (aa9 ho hd (x:=.int i 0) rfl ?_)
 show wpAny _ _ (seqItems? (.ref t) >>= _) _ _ s
 refine aab (abh sZ sX ?_)
 simp only[ab1,hx]
 refine aab (ad6 ho hd (by simp) (aaj ⟨x,rfl,aaj (hQ _ ?_ (ac3 ..))⟩))
 exact⟨_,ads _ ho (Obj.isFreed_of_fields (ada hd _)),(Obj.cls_mapFields ..).trans hc,by rw[ada hd];simp[rawInt]⟩
theorem qh{it t:Addr}{i:Nat}{items} {Q:Value->Shared->Prop}(hh:A.handled=none)(hit:s.heap.IsTupleIter it t i)(ht:s.heap.IsTuple t items)(hx:items[i]?=none)
 (hE:∀h' e,Heap.ExtBut it s.heap h'->(∃o,h'.get? e=some o/\o.cls=.type "StopIteration")->E (.ref e) {s with heap:=h'}):wpAny (model prog w) A (Builtin.SmallTypes.nextOf (.ref it)) Q E s:=by
 obtain⟨o,ho,hc,hd⟩:=id hit
 obtain⟨ol,sZ,_,nl,sX⟩:=ht
 unfold Builtin.SmallTypes.nextOf
 refine aab (abj (name:=Str.ofString "__next__") hit.typeIs ack (abv ack hit.typeIs adQ ?_ (adI _)))
 show wpAny _ _ (field (.ref it) 0 >>= _) _ _ s
 refine aab (aa9 ho hd (x:=.ref t) rfl ?_)
 show wpAny _ _ (if (Value.ref t == Value.none)=true then _ else _) _ _ s
 rw[aaY (show ¬ ((Value.ref t == Value.none)=true) from aax)]
 show wpAny _ _ (field (.ref it) 1 >>= _) _ _ s
 refine aab (aa9 ho hd (x:=.int i 0) rfl ?_)
 show wpAny _ _ (seqItems? (.ref t) >>= _) _ _ s
 refine aab (abh sZ sX ?_)
 simp only[ab1,hx]
 refine aab (ac6 (aab (ad6 ho hd (by simp) ?_)))
 show wpAny _ _ (newExc (.type "StopIteration") [] >>= _) _ _ _
 refine aab ?_
 simp only[newExc,newTuple]
 refine aab (acQ ?_ (by size_fits))
 refine aab (m:=firstArgMember _ _) (wpAny_of_eq (a:=Value.none) (by first|rfl|(simp only[firstArgMember];rfl)) ?_)
 refine acQ ?_ (by size_fits)
 simp only[raiseNew]
 refine aab (wpAny_handled ?_)
 first|rw[show A.in1.handled=none from hh] | rw[hh]
 refine aab (aaj (wpAny_throw ?_))
 exact hE _ _ (((ac3 ..).extBut.push _).push _) ⟨_,aaq _ rfl,rfl⟩
end
noncomputable def jf(tp:Bool)(h:Heap)(l:Addr)(xs:Array Value):Prop:=match tp with|true=>h.IsTuple l xs|false=>h.IsList l xs
noncomputable def gh(tp:Bool)(h:Heap)(i l:Addr)(k:Nat):Prop:=match tp with|true=>h.IsTupleIter i l k|false=>h.IsListIter i l k
theorem jf.at{tp:Bool}{h h':Heap}{l:Addr}{xs:Array Value}(x:jf tp h l xs)(k:∀o,h.get? l=some o->h'.get? l=some o):jf tp h' l xs:=by
 cases tp <;> (obtain⟨o,e,r⟩:=x;exact⟨o,k o e,r⟩)
theorem gh.at{tp:Bool}{h h':Heap}{i l:Addr}{n:Nat}(x:gh tp h i l n)(k:∀o,h.get? i=some o->h'.get? i=some o):gh tp h' i l n:=by
 cases tp <;> (obtain⟨o,e,r⟩:=x;exact⟨o,k o e,r⟩)
theorem gh.there{tp:Bool}{h:Heap}{i l:Addr}{n:Nat}(x:gh tp h i l n):∃o,h.get? i=some o/\∃vs,o.data=.fields vs:=by
 cases tp <;> (obtain⟨o,e,c,d⟩:=x;exact⟨o,e,_,d⟩)
theorem jf.there{tp:Bool}{h:Heap}{l:Addr}{xs:Array Value}(x:jf tp h l xs):∃o,h.get? l=some o:=by
 cases tp <;> (obtain⟨o,e,r⟩:=x;exact⟨o,e⟩)
section
variable {prog:Program}{w:World}{A:Around}{E:Value->Shared->Prop}{s:Shared}{tp:Bool}
theorem ou{it l:Addr}{i:Nat}{items} {x:Value}{Q:Value->Shared->Prop}(hit:gh tp s.heap it l i)(hl:jf tp s.heap l items)(hx:items[i]?=some x)
 (hQ:∀h',gh tp h' it l (i+1)->Heap.SameBut it s.heap h'->Q x {s with heap:=h'}):wpAny (model prog w) A (Builtin.SmallTypes.nextOf (.ref it)) Q E s:=by
 cases tp
 . exact wpAny_nextOf_list_item hit hl hx hQ
 . exact pA hit hl hx hQ
theorem EZ{it l:Addr}{i:Nat}{items} {Q:Value->Shared->Prop}(hh:A.handled=none)(hit:gh tp s.heap it l i)(hl:jf tp s.heap l items)(hx:items[i]?=none)
 (hE:∀h' e,Heap.ExtBut it s.heap h'->(∃o,h'.get? e=some o/\o.cls=.type "StopIteration")->E (.ref e) {s with heap:=h'}):wpAny (model prog w) A (Builtin.SmallTypes.nextOf (.ref it)) Q E s:=by
 cases tp
 . exact wpAny_nextOf_list_end hh hit hl hx hE
 . exact qh hh hit hl hx hE
theorem Vq{z TI TO i1 i2 l1 l2:Addr}{k:Nat}{xs ys:Array Value}{x y a b:Value}{Q:Option Value->Shared->Prop}(nd:[z,TI,TO,i1,i2].Nodup)(n1:l1∉[z,TI,TO,i1,i2])(n2:l2∉[z,TI,TO,i1,i2])
 (hz:IsZip s.heap z TI TO .none) (gK:IsPair s.heap TI (.ref i1) (.ref i2)) (iH:IsPair s.heap TO a b) (h1:gh tp s.heap i1 l1 k) (h2:gh tp s.heap i2 l2 k) (eP:jf tp s.heap l1 xs) (cx:jf tp s.heap l2 ys) (hx:xs[k]?=some x) (hy:ys[k]?=some y)
 (hQ:∀h',IsZip h' z TI TO (rawInt s.heap.objs.size)->IsPair h' TO x y->gh tp h' i1 l1 (k+1)->gh tp h' i2 l2 (k+1)->IsPair h' s.heap.objs.size x y->
  (∀c o,c≠z->c≠TO->c≠i1->c≠i2->s.heap.get? c=some o->h'.get? c=some o)->Q (some (.ref s.heap.objs.size)) {s with heap:=h'}):wpAny (model prog w) A (pyNext (.ref z)) Q E s:=by
 simp only[aa0,aal,aaH,abF,ad3]at nd n1 n2
 obtain⟨⟨tf,j5,jr,lB⟩,⟨TITO,TIi1,TIi2⟩,⟨TOi1,TOi2⟩,i12,_⟩:=nd
 obtain⟨l1z,MQ,l1TO,l1i1,l1i2⟩:=n1
 obtain⟨l2z,UK,l2TO,l2i1,l2i2⟩:=n2
 have hT:s.TypeIs (.ref z) "zip":=⟨_,hz,rfl⟩
 unfold pyNext
 refine aab (acS (abj (name:=Str.ofString "__next__") hT abx (abv abx hT acm ?_ (aci _))))
 show wpAny _ _ (field (.ref z) 2 >>= _) _ _ _
 refine aab (aa9 hz rfl (x:=.bool false) rfl ?_)
 show wpAny _ _ (field (.ref z) 3 >>= _) _ _ _
 refine aab (aa9 hz rfl (x:=.ref TI) rfl ?_)
 refine aab (abh gK rfl ?_)
 show wpAny _ _ (Builtin.SmallTypes.ownedTupleIsFree (.ref z) >>= _) _ _ _
 refine aab ?_
 unfold Builtin.SmallTypes.ownedTupleIsFree
 refine aab (aa9 hz rfl (x:=.none) rfl (aaj ?_))
 simp only[adk]
 refine aab (ac6 ?_)
 refine aab (aa9 hz rfl (x:=.ref TO) rfl ?_)
 refine aab (abk hz (by simp) λh₁ ig gF=>?_)
 replace ig:IsZip h₁ z TI TO .ellipsis:=ig
 refine aab ?_
 simp only[acY,adb,abQ,acf]
 have k1:∀c o,c≠z->s.heap.get? c=some o->h₁.get? c=some o:=λc o n e=>gF.extBut _ _ n e
 refine aab (aab (acy ?_))
 show wpAny _ _ (Builtin.SmallTypes.nextOf (.ref i1) >>= _) _ _ _
 refine aab (ou (h1.at λo e=>k1 _ o (aau jr) e) (eP.at λo e=>k1 _ o l1z e) hx λko zv j6=>aaj ?_)
 have k2:∀c o,c≠i1->h₁.get? c=some o->ko.get? c=some o:=λc o n e=>j6.extBut _ _ n e
 have qU:IsPair ko TO a b:=k2 _ _ TOi1 (k1 _ _ (aau j5) iH)
 refine aab (abh qU rfl ?_)
 refine aab (aca qU λkq mK lC=>?_)
 replace mK:IsPair kq TO x b:=mK
 have k3:∀c o,c≠TO->ko.get? c=some o->kq.get? c=some o:=λc o n e=>lC.extBut _ _ n e
 refine aab (adl (aaj ?_))
 refine aab (aab (acy ?_))
 show wpAny _ _ (Builtin.SmallTypes.nextOf (.ref i2) >>= _) _ _ _
 refine aab (ou (h2.at λo e=>k3 _ o (aau TOi2) (k2 _ o (aau i12) (k1 _ o (aau lB) e))) (cx.at λo e=>k3 _ o l2TO (k2 _ o l2i1 (k1 _ o l2z e))) hy λvS E3 xI=>aaj ?_)
 have k4:∀c o,c≠i2->kq.get? c=some o->vS.get? c=some o:=λc o n e=>xI.extBut _ _ n e
 have qV:IsPair vS TO x b:=k4 _ _ TOi2 mK
 refine aab (abh qV rfl ?_)
 refine aab (aca qV λgf j7 xJ=>?_)
 replace j7:IsPair gf TO x y:=j7
 have k5:∀c o,c≠TO->vS.get? c=some o->gf.get? c=some o:=λc o n e=>xJ.extBut _ _ n e
 refine aab (adl (aaj (aaj ?_)))
 refine aab (abh j7 rfl ?_)
 refine aab (ad7 ?_)
 have hsz:gf.objs.size=s.heap.objs.size:=by rw[xJ.1,xI.1,lC.1,j6.1,gF.1]
 have xK:IsZip gf z TI TO .ellipsis:=k5 _ _ j5 (k4 _ _ lB (k3 _ _ j5 (k2 _ _ jr ig)))
 have MR:∀c o,c≠z->c≠TO->c≠i1->c≠i2->s.heap.get? c=some o->gf.get? c=some o:=λc o c1 c2 c3 c4 e=>k5 _ _ c2 (k4 _ _ c4 (k3 _ _ c2 (k2 _ _ c3 (k1 _ _ c1 e))))
 have MS:gh tp gf i1 l1 (k+1):=zv.at λo e=>k5 _ _ (aau TOi1) (k4 _ _ i12 (k3 _ _ (aau TOi1) e))
 have MT:gh tp gf i2 l2 (k+1):=E3.at λo e=>k5 _ _ (aau TOi2) e
 have qW:z<gf.objs.size:=aam xK
 show wpAny _ _ (Builtin.SmallTypes.ownedTupleHandOut (.ref z) (.ref gf.objs.size) >>= _) _ _ _
 refine aab ?_
 unfold Builtin.SmallTypes.ownedTupleHandOut
 have E5:IsZip (gf.push {cls:=.type "tuple",data:=.seq #[x,y] }) z TI TO .ellipsis:=aac _ xK
 refine aab (abk E5 (by simp) λMU qX xM=>?_)
 replace qX:IsZip MU z TI TO (rawInt gf.objs.size):=qX
 refine abk qX (by simp) λtZ nz xN=>?_
 replace nz:IsZip tZ z TI TO (rawInt gf.objs.size):=nz
 have up:∀c o,c≠z->gf.get? c=some o->tZ.get? c=some o:=λc o c1 e=>xN.extBut _ _ c1 (xM.extBut _ _ c1 (aac _ e))
 have va:IsPair tZ gf.objs.size x y:=xN.extBut _ _ (abc qW) (xM.extBut _ _ (abc qW) (aaq _ rfl))
 rw[hsz]at nz va
 refine aaj ⟨.ref gf.objs.size,rfl,aaj ?_⟩
 rw[hsz]
 exact hQ tZ nz (up _ _ (aau j5) j7) (MS.at λo e=>up _ o (aau jr) e) (MT.at λo e=>up _ o (aau lB) e) va λc o c1 c2 c3 c4 e=>up c o c1 (MR c o c1 c2 c3 c4 e)
theorem Ku{z TI TO i1 i2 l1:Addr}{k:Nat}{xs:Array Value}{a b:Value}{Q:Option Value->Shared->Prop}(hh:A.handled=none)(nd:[z,TI,TO,i1,i2].Nodup)(n1:l1∉[z,TI,TO,i1,i2])
 (hz:IsZip s.heap z TI TO .none) (gK:IsPair s.heap TI (.ref i1) (.ref i2)) (h1:gh tp s.heap i1 l1 k) (eP:jf tp s.heap l1 xs) (hx:xs[k]?=none)
 (hQ:∀h',(∀c o,c≠z->c≠TO->c≠i1->c≠i2->s.heap.get? c=some o->h'.get? c=some o)->Q none {s with heap:=h'}):wpAny (model prog w) A (pyNext (.ref z)) Q E s:=by
 simp only[aa0,aal,aaH,abF,ad3]at nd n1
 obtain⟨⟨tf,j5,jr,lB⟩,⟨TITO,TIi1,TIi2⟩,⟨TOi1,TOi2⟩,i12,_⟩:=nd
 obtain⟨l1z,MQ,l1TO,l1i1,l1i2⟩:=n1
 have hT:s.TypeIs (.ref z) "zip":=⟨_,hz,rfl⟩
 unfold pyNext
 refine aab (acS (abj (name:=Str.ofString "__next__") hT abx (abv abx hT acm ?_ (aci _))))
 show wpAny _ _ (field (.ref z) 2 >>= _) _ _ _
 refine aab (aa9 hz rfl (x:=.bool false) rfl ?_)
 show wpAny _ _ (field (.ref z) 3 >>= _) _ _ _
 refine aab (aa9 hz rfl (x:=.ref TI) rfl ?_)
 refine aab (abh gK rfl ?_)
 show wpAny _ _ (Builtin.SmallTypes.ownedTupleIsFree (.ref z) >>= _) _ _ _
 refine aab ?_
 unfold Builtin.SmallTypes.ownedTupleIsFree
 refine aab (aa9 hz rfl (x:=.none) rfl (aaj ?_))
 simp only[adk]
 refine aab (ac6 ?_)
 refine aab (aa9 hz rfl (x:=.ref TO) rfl ?_)
 refine aab (abk hz (by simp) λh₁ ig gF=>?_)
 replace ig:IsZip h₁ z TI TO .ellipsis:=ig
 refine aab ?_
 simp only[acY,adb,abQ,acf]
 refine aab (aab (acy ?_))
 show wpAny _ _ (Builtin.SmallTypes.nextOf (.ref i1) >>= _) _ _ _
 refine aab (EZ (by first|exact hh|rfl) (h1.at λo e=>gF.extBut _ o (aau jr) e) (eP.at λo e=>gF.extBut _ o l1z e) hx λko e j6 he=>?_)
 obtain⟨oe,vb,qd⟩:=he
 have E6:IsZip ko z TI TO .ellipsis:=j6 _ _ jr ig
 have MV:e≠z:=λx=>by subst x;rw[E6]at vb;cases vb;simp at qd
 refine abk E6 (by simp) λkq _ lC=>?_
 refine aab (aeu (T:="StopIteration") (b:=true) ⟨oe,lC.extBut _ _ MV vb,qd⟩ aeS ?_)
 exact aaj (hQ _ λc o c1 _ c3 _ x=>lC.extBut _ _ c1 (j6 _ _ c3 (gF.extBut _ _ c1 x)))
end
end PySem
namespace PySem
noncomputable abbrev C4(h:Heap)(l1:Addr):Heap:=h.push {cls:=.type "tuple_iterator",data:=.fields #[.ref l1,.int 0 0] }
noncomputable abbrev C5(h:Heap)(l1 l2:Addr):Heap:=(C4 h l1).push {cls:=.type "tuple_iterator",data:=.fields #[.ref l2,.int 0 0] }
noncomputable abbrev C6(h:Heap)(l1 l2:Addr):Heap:=(C5 h l1 l2).push {cls:=.type "tuple",data:=.seq #[.ref h.objs.size,.ref (C4 h l1).objs.size] }
noncomputable abbrev C7(h:Heap)(l1 l2:Addr):Heap:=(C6 h l1 l2).push {cls:=.type "tuple",data:=.seq #[.none,.none] }
noncomputable abbrev wb(h:Heap)(l1 l2:Addr):Heap:=(C7 h l1 l2).push {cls:=.type "zip",data:=.fields #[.none,.bool false,.bool false,.ref (C5 h l1 l2).objs.size,.ref (C6 h l1 l2).objs.size] }
theorem zw(l1 l2:Addr)(xs ys:Array Value) :
 Meets (Builtin.«zip.__new__» ⟨[.type "zip",.ref l1,.ref l2],[]⟩) (λ_ R s=>s.heap.IsTuple l1 xs/\s.heap.IsTuple l2 ys/\R (.ok (.ret (.ref (C7 s.heap l1 l2).objs.size))) {s with heap:=wb s.heap l1 l2}):=
 .of_wp λprog w A R s h=>by
  obtain⟨hp,g,d,tk,os⟩:=s;obtain⟨eP,cx,h⟩:=h
  have MW:=sub_zip
  have E7:Heap.IsTuple (Shared.heap ⟨hp,g,d,tk,os⟩) l1 xs:=eP
  have zx:Heap.IsTuple (Shared.heap ⟨hp.push {cls:=.type "tuple_iterator",data:=.fields #[.ref l1,.int 0 0] },g,d,tk,os⟩) l2 ys:=aef cx _
  wp_walk using ade E7,ade zx
  exact⟨_,rfl,h⟩
section
variable {prog:Program}{w:World}{A:Around}{E:Value->Shared->Prop}{s:Shared}{tp:Bool}
theorem BC{l1 l2:Addr}{xs ys:Array Value}{Q:Value->Shared->Prop}(eP:jf tp s.heap l1 xs)(cx:jf tp s.heap l2 ys)
 (h:∀h',IsZip h' (s.heap.objs.size+4) (s.heap.objs.size+2) (s.heap.objs.size+3) .none->IsPair h' (s.heap.objs.size+2) (.ref s.heap.objs.size) (.ref (s.heap.objs.size+1))->
  IsPair h' (s.heap.objs.size+3) .none .none->gh tp h' s.heap.objs.size l1 0->gh tp h' (s.heap.objs.size+1) l2 0->(∀c o,s.heap.get? c=some o->h'.get? c=some o)->Q (.ref (s.heap.objs.size+4)) {s with heap:=h'}) :
 wpAny (model prog w) A (call (.type "zip") [.ref l1,.ref l2]) Q E s:=by
 cases tp
 . exact call_zip_2 eP cx λh' a b c d e _ f=>h h' a b c d e f
 . refine callType_new aeN (by decide) (ady _ _) (adR _ _) (λobj=>acU obj _ _) adS (zw l1 l2 xs ys) ⟨eP,cx,?_⟩
   have z1:(C4 s.heap l1).objs.size=s.heap.objs.size+1:=abE ..
   have z2:(C5 s.heap l1 l2).objs.size=s.heap.objs.size+2:=by rw[abE,z1]
   have z3:(C6 s.heap l1 l2).objs.size=s.heap.objs.size+3:=by rw[abE,z2]
   have z4:(C7 s.heap l1 l2).objs.size=s.heap.objs.size+4:=by rw[abE,z3]
   have g5:(wb s.heap l1 l2).get? (C7 s.heap l1 l2).objs.size=some _:=aaq _ rfl
   have g4:(wb s.heap l1 l2).get? (C6 s.heap l1 l2).objs.size=some _:=aac _ (aaq _ rfl)
   have g3:(wb s.heap l1 l2).get? (C5 s.heap l1 l2).objs.size=some _:=aac _ (aac _ (aaq _ rfl))
   have g2:(wb s.heap l1 l2).get? (C4 s.heap l1).objs.size=some _:=aac _ (aac _ (aac _ (aaq _ rfl)))
   have g1:(wb s.heap l1 l2).get? s.heap.objs.size=some _:=aac _ (aac _ (aac _ (aac _ (aaq _ rfl))))
   show _/\_
   rw[z2,z3,z4]at g5
   rw[z1,z2]at g3
   rw[z3]at g4
   rw[z1]at g2
   rw[z4]
   exact⟨⟨_,g5,rfl⟩,h _ g5 g3 g4 ⟨_,g1,rfl,rfl⟩ ⟨_,g2,rfl,rfl⟩ λc o x=>
    aac _ (aac _ (aac _ (aac _ (aac _ x))))⟩
end
end PySem
namespace L2
open PySem PySem.Spec PyProof.Rows
noncomputable def ZH(tp:Bool)(H:Hp)(a:Addr)(xs:List V):Prop:=match tp with|true=>H a=some (.tup xs)|false=>H a=some (.lst xs)
theorem ZH.inj{tp:Bool}{H:Hp}{a:Addr}{xs ys:List V}(h:ZH tp H a xs)(h':ZH tp H a ys):xs=ys:=by
 cases tp <;> (have e:=(show H a=_ from h).symm.trans (show H a=_ from h');cases e;rfl)
theorem ZH.same{tp:Bool}{H H':Hp}{a:Addr}{xs:List V}(h:ZH tp H a xs)(k:∀o,H a=some o->H' a=some o):ZH tp H' a xs:=by cases tp <;> exact k _ h
section
variable {X:Cx}
end
end L2
namespace PySem
open PySem PySem.Spec PyProof.Rows
section
variable {prog:Program}{w:World}{A:Around}{E:Value->Shared->Prop}{s:Shared}{tp tq:Bool}
theorem Kv{z TI TO i1 i2 l1 l2:Addr}{k:Nat}{xs ys:Array Value}{x y a b:Value}{Q:Option Value->Shared->Prop}(nd:[z,TI,TO,i1,i2].Nodup)(n1:l1∉[z,TI,TO,i1,i2])(n2:l2∉[z,TI,TO,i1,i2])
 (hz:IsZip s.heap z TI TO .none) (gK:IsPair s.heap TI (.ref i1) (.ref i2)) (iH:IsPair s.heap TO a b) (h1:gh tp s.heap i1 l1 k) (h2:gh tq s.heap i2 l2 k) (eP:jf tp s.heap l1 xs) (cx:jf tq s.heap l2 ys) (hx:xs[k]?=some x) (hy:ys[k]?=some y)
 (hQ:∀h',IsZip h' z TI TO (rawInt s.heap.objs.size)->IsPair h' TO x y->gh tp h' i1 l1 (k+1)->gh tq h' i2 l2 (k+1)->IsPair h' s.heap.objs.size x y->
  (∀c o,c≠z->c≠TO->c≠i1->c≠i2->s.heap.get? c=some o->h'.get? c=some o)->Q (some (.ref s.heap.objs.size)) {s with heap:=h'}):wpAny (model prog w) A (pyNext (.ref z)) Q E s:=by
 simp only[aa0,aal,aaH,abF,ad3]at nd n1 n2
 obtain⟨⟨tf,j5,jr,lB⟩,⟨TITO,TIi1,TIi2⟩,⟨TOi1,TOi2⟩,i12,_⟩:=nd
 obtain⟨l1z,MQ,l1TO,l1i1,l1i2⟩:=n1
 obtain⟨l2z,UK,l2TO,l2i1,l2i2⟩:=n2
 have hT:s.TypeIs (.ref z) "zip":=⟨_,hz,rfl⟩
 unfold pyNext
 refine aab (acS (abj (name:=Str.ofString "__next__") hT abx (abv abx hT acm ?_ (aci _))))
 show wpAny _ _ (field (.ref z) 2 >>= _) _ _ _
 refine aab (aa9 hz rfl (x:=.bool false) rfl ?_)
 show wpAny _ _ (field (.ref z) 3 >>= _) _ _ _
 refine aab (aa9 hz rfl (x:=.ref TI) rfl ?_)
 refine aab (abh gK rfl ?_)
 show wpAny _ _ (Builtin.SmallTypes.ownedTupleIsFree (.ref z) >>= _) _ _ _
 refine aab ?_
 unfold Builtin.SmallTypes.ownedTupleIsFree
 refine aab (aa9 hz rfl (x:=.none) rfl (aaj ?_))
 simp only[adk]
 refine aab (ac6 ?_)
 refine aab (aa9 hz rfl (x:=.ref TO) rfl ?_)
 refine aab (abk hz (by simp) λh₁ ig gF=>?_)
 replace ig:IsZip h₁ z TI TO .ellipsis:=ig
 refine aab ?_
 simp only[acY,adb,abQ,acf]
 have k1:∀c o,c≠z->s.heap.get? c=some o->h₁.get? c=some o:=λc o n e=>gF.extBut _ _ n e
 refine aab (aab (acy ?_))
 show wpAny _ _ (Builtin.SmallTypes.nextOf (.ref i1) >>= _) _ _ _
 refine aab (ou (h1.at λo e=>k1 _ o (aau jr) e) (eP.at λo e=>k1 _ o l1z e) hx λko zv j6=>aaj ?_)
 have k2:∀c o,c≠i1->h₁.get? c=some o->ko.get? c=some o:=λc o n e=>j6.extBut _ _ n e
 have qU:IsPair ko TO a b:=k2 _ _ TOi1 (k1 _ _ (aau j5) iH)
 refine aab (abh qU rfl ?_)
 refine aab (aca qU λkq mK lC=>?_)
 replace mK:IsPair kq TO x b:=mK
 have k3:∀c o,c≠TO->ko.get? c=some o->kq.get? c=some o:=λc o n e=>lC.extBut _ _ n e
 refine aab (adl (aaj ?_))
 refine aab (aab (acy ?_))
 show wpAny _ _ (Builtin.SmallTypes.nextOf (.ref i2) >>= _) _ _ _
 refine aab (ou (h2.at λo e=>k3 _ o (aau TOi2) (k2 _ o (aau i12) (k1 _ o (aau lB) e))) (cx.at λo e=>k3 _ o l2TO (k2 _ o l2i1 (k1 _ o l2z e))) hy λvS E3 xI=>aaj ?_)
 have k4:∀c o,c≠i2->kq.get? c=some o->vS.get? c=some o:=λc o n e=>xI.extBut _ _ n e
 have qV:IsPair vS TO x b:=k4 _ _ TOi2 mK
 refine aab (abh qV rfl ?_)
 refine aab (aca qV λgf j7 xJ=>?_)
 replace j7:IsPair gf TO x y:=j7
 have k5:∀c o,c≠TO->vS.get? c=some o->gf.get? c=some o:=λc o n e=>xJ.extBut _ _ n e
 refine aab (adl (aaj (aaj ?_)))
 refine aab (abh j7 rfl ?_)
 refine aab (ad7 ?_)
 have hsz:gf.objs.size=s.heap.objs.size:=by rw[xJ.1,xI.1,lC.1,j6.1,gF.1]
 have xK:IsZip gf z TI TO .ellipsis:=k5 _ _ j5 (k4 _ _ lB (k3 _ _ j5 (k2 _ _ jr ig)))
 have MR:∀c o,c≠z->c≠TO->c≠i1->c≠i2->s.heap.get? c=some o->gf.get? c=some o:=λc o c1 c2 c3 c4 e=>k5 _ _ c2 (k4 _ _ c4 (k3 _ _ c2 (k2 _ _ c3 (k1 _ _ c1 e))))
 have MS:gh tp gf i1 l1 (k+1):=zv.at λo e=>k5 _ _ (aau TOi1) (k4 _ _ i12 (k3 _ _ (aau TOi1) e))
 have MT:gh tq gf i2 l2 (k+1):=E3.at λo e=>k5 _ _ (aau TOi2) e
 have qW:z<gf.objs.size:=aam xK
 show wpAny _ _ (Builtin.SmallTypes.ownedTupleHandOut (.ref z) (.ref gf.objs.size) >>= _) _ _ _
 refine aab ?_
 unfold Builtin.SmallTypes.ownedTupleHandOut
 have E5:IsZip (gf.push {cls:=.type "tuple",data:=.seq #[x,y] }) z TI TO .ellipsis:=aac _ xK
 refine aab (abk E5 (by simp) λMU qX xM=>?_)
 replace qX:IsZip MU z TI TO (rawInt gf.objs.size):=qX
 refine abk qX (by simp) λtZ nz xN=>?_
 replace nz:IsZip tZ z TI TO (rawInt gf.objs.size):=nz
 have up:∀c o,c≠z->gf.get? c=some o->tZ.get? c=some o:=λc o c1 e=>xN.extBut _ _ c1 (xM.extBut _ _ c1 (aac _ e))
 have va:IsPair tZ gf.objs.size x y:=xN.extBut _ _ (abc qW) (xM.extBut _ _ (abc qW) (aaq _ rfl))
 rw[hsz]at nz va
 refine aaj ⟨.ref gf.objs.size,rfl,aaj ?_⟩
 rw[hsz]
 exact hQ tZ nz (up _ _ (aau j5) j7) (MS.at λo e=>up _ o (aau jr) e) (MT.at λo e=>up _ o (aau lB) e) va λc o c1 c2 c3 c4 e=>up c o c1 (MR c o c1 c2 c3 c4 e)
end
end PySem
namespace L2
open PySem PySem.Spec PyProof.Rows
noncomputable def ZK(K:W.Frag)(tp:Bool)(H:Hp)(a:Addr)(xs:List V):Prop:=match tp with|true=>aH K H a xs|false=>aq K H a xs
section
variable {X:Cx}{pins:List (Addr×Obj)}{σ:St}{H:Hp}{s:Shared}{tp:Bool}{a:Addr}{xs ys:List V}
theorem Inv.zk(I:Inv X pins σ H s)(h:ZK X.K tp H a xs):∃its:List Value,Vals xs its/\jf tp s.heap a its.toArray/\xs.length<=sizeLine:=by
 cases tp
 . obtain⟨its,r,pl,z⟩:=I.list h
   exact⟨its,r,pl.isList,z⟩
 . obtain⟨its,r,⟨o,e,c,n,d⟩,z⟩:=I.tuple h
   exact⟨its,r,⟨o,e,c,n,d⟩,z⟩
theorem Inv.E8(I:Inv X pins σ H s)(h:ZK X.K tp H a xs)(h':ZK X.K tp H a ys):xs=ys:=by
 cases tp
 . exact I.tP h h'
 . exact I.qj h h'
theorem Inv.zy{fp:List Addr}(I:Inv X pins σ H s)(h:ZK X.K tp H a xs)(hf:∀b∈fp,iK X pins H b):a∉fp:=λm=>by
 have own:∀o,X.K.lookup a=some o->False:=λo e=>by
  have eb:=I.ok.mod.kin a o e
  obtain⟨_,_,_,h4,_⟩:=hf a m
  rcases h4 with h4|h4
  . exact I.ok.noex a o eb h4
  . exact absurd (aaV (aam eb) (aao I.ok.bsz h4)) (abT _)
 have aM:=(hf a m).1
 cases tp
 . rcases h with (h|⟨o,h⟩)|⟨o,_,_,e,_⟩
   . rw[aM]at h;cases h
   . rw[aM]at h;cases h
   . exact own o e
 . rcases h with (h|⟨o,h⟩)|⟨o,_,_,e,_⟩
   . rw[aM]at h;cases h
   . rw[aM]at h;cases h
   . exact own o e
end
noncomputable def Itm(K:W.Frag)(tp tq:Bool)(a b:Addr):It:=
 ⟨λi H=>∃xs ys x y,ZK K tp H a xs/\ZK K tq H b ys/\xs[i]?=some x/\ys[i]?=some y,λi H v H'=>∃T x y,v=.ref T/\H T=none/\H'=upd H T (.tup [x,y])/\(∀xs,ZK K tp H a xs->xs[i]?=some x)/\∀ys,ZK K tq H b ys->ys[i]?=some y,
  λi H=>∃xs,ZK K tp H a xs/\xs.length<=i⟩
theorem BD{P:Program}{w:World}{K:W.Frag}{es:List Expr}{kk:Nat}{pp:Pos}{tp tq:Bool}{a b z TI TO i1 i2:Addr}(nd:[z,TI,TO,i1,i2].Nodup) :
 Turn P w K (.Tuple es kk pp) (Itm K tp tq a b) [z,TI,TO,i1,i2] z (λi h=>IsZip h z TI TO .none/\IsPair h TI (.ref i1) (.ref i2)/\(∃a b,IsPair h TO a b)/\gh tp h i1 a i/\gh tq h i2 b i) where
 mem:=by simp
 obj:=λi h st c hc=>by
  obtain⟨hz,gK,⟨u,v,iH⟩,h1,h2⟩:=st
  simp only[aal,aaH,abF]at hc
  rcases hc with rfl|rfl|rfl|rfl|rfl
  . exact⟨_,hz,λv z=>by cases(show Data.fields _=Data.cell v from z)⟩
  . exact⟨_,gK,λv z=>by cases(show Data.seq _=Data.cell v from z)⟩
  . exact⟨_,iH,λv z=>by cases(show Data.seq _=Data.cell v from z)⟩
  . obtain⟨o,e,vs,d⟩:=h1.there
    exact⟨o,e,λv z=>by rw[d]at z;cases z⟩
  . obtain⟨o,e,vs,d⟩:=h2.there
    exact⟨o,e,λv z=>by rw[d]at z;cases z⟩
 keep:=λi h h' st k=>by
  obtain⟨hz,gK,⟨u,v,iH⟩,h1,h2⟩:=st
  exact⟨k z (by simp) _ hz,k TI (by simp) _ gK,⟨u,v,k TO (by simp) _ iH⟩,h1.at λo e=>k i1 (by simp) o e,h2.at λo e=>k i2 (by simp) o e⟩
 item:=by
  intro X hP hw hK hc i pins s σ H E I hf st hg
  subst hP hw hK
  obtain⟨xs,ys,x,y,BE,MX,hx,hy⟩:=hg
  obtain⟨its,rv,p,xG⟩:=I.zk BE
  obtain⟨its',IQ,p',aaI⟩:=I.zk MX
  obtain⟨u,hu,ru⟩:=rv.get hx
  obtain⟨v,hv,WC⟩:=IQ.get hy
  obtain⟨hz,gK,⟨c,d,iH⟩,h1,h2⟩:=st
  have na:a∉[z,TI,TO,i1,i2]:=I.zy BE hf
  have nb:b∉[z,TI,TO,i1,i2]:=I.zy MX hf
  refine Kv nd na nb hz gK iH h1 h2 p p' (x:=u) (y:=v) (by simpa using hu) (by simpa using hv) λh' a1 a2 a3 a4 a5 kk=>?_
  refine⟨.ref s.heap.objs.size,rfl,?_⟩
  refine wpAny_letOwnedTupleGo_zip a1 λh3 ET WD=>?_
  have xO:=nd
  simp only[aa0,aal,aaH,abF,ad3]at xO
  obtain⟨⟨tf,j5,jr,lB⟩,⟨TITO,TIi1,TIi2⟩,⟨TOi1,TOi2⟩,i12,_⟩:=xO
  have lt:∀c∈[z,TI,TO,i1,i2],c≠s.heap.objs.size:=λc hc=>by
   simp only[aal,aaH,abF]at hc
   rcases hc with rfl|rfl|rfl|rfl|rfl
   . exact aaw (aam hz)
   . exact aaw (aam gK)
   . exact aaw (aam iH)
   . obtain⟨o,e,_⟩:=h1.there
     exact aaw (aam e)
   . obtain⟨o,e,_⟩:=h2.there
     exact aaw (aam e)
  have k3:∀c o,c≠z->h'.get? c=some o->h3.get? c=some o:=λc o n e=>WD.extBut _ _ n e
  have I1:Inv X pins σ (upd H s.heap.objs.size (.tup [x,y])) {s with heap:=h3,toks:=s.toks}:=I.vU (its:=[u,v]) hf (λb o hb e1=>by
   simp only[aal,aaH,abF,ad3]at hb
   exact k3 b o hb.1 (kk b o hb.1 hb.2.2.1 hb.2.2.2.1 hb.2.2.2.2 e1)) (aah _) ⟨_,k3 _ _ (aau (lt z (by simp))) a5,rfl,_,rfl⟩ (.cons ru (.cons WC .nil)) (by show 2<=sizeLine;decide)
  have fr:H s.heap.objs.size=none:=I.hok.fresh (aah _)
  refine⟨.ref s.heap.objs.size,_,I1,rfl,⟨s.heap.objs.size,x,y,rfl,fr,rfl,λuZ h=>by rw[I.E8 h BE];exact hx,λyY h=>by rw[I.E8 h MX];exact hy⟩,⟨ET,k3 _ _ (aau tf) (kk _ _ (aau tf) TITO TIi1 TIi2 gK),⟨_,_,k3 _ _ (aau j5) a2⟩,a3.at λo e=>k3 _ o (aau jr) e,a4.at λo e=>k3 _ o (aau lB) e⟩,λb hb=>?_⟩
  rw[ah (lt b hb)]
  exact(hf b hb).1
 done:=by
  intro X hP hw hK hc i pins s σ H E I hf st hg
  subst hP hw hK
  obtain⟨xs,BE,hx⟩:=hg
  obtain⟨its,rv,p,xG⟩:=I.zk BE
  obtain⟨hz,gK,⟨c,d,iH⟩,h1,h2⟩:=st
  have hl:=rv.length
  have na:a∉[z,TI,TO,i1,i2]:=I.zy BE hf
  exact Ku (I.ok.hd hc) nd na hz gK h1 p (a:=.none) (b:=.none) (by simp;omega) λh' kk=>⟨rfl,I.vT (t':=s.toks) hf λb o hb e1=>by
   simp only[aal,aaH,abF,ad3]at hb
   exact kk b o hb.1 hb.2.2.1 hb.2.2.2.1 hb.2.2.2.2 e1⟩
 self:=λ_ _ _ _ _ st h=>adz st.1 h
section
variable {X:Cx}
end
end L2
namespace PySem
open PySem.Spec PyProof.Rows
theorem lV{M:Model}{A:Around}{E:Value->Shared->Prop}{s:Shared}{a:Addr}{Q:Option Obj->Shared->Prop}(h:Q (s.heap.get? a) s):wpAny M A (loadIfAlive a) Q E s:=λΓ p hp=>by
 unfold loadIfAlive
 simp only[Sem.wp_loadIfAlive]
 exact aaj (M:=M) (A:=A) (E:=E) (s:=s) h Γ p hp
structure gO(prog:Program) (w:World) (it:Addr) (more:List Addr) (n:Nat) (P:Nat->Value->Prop) (st:Nat->Heap->Prop):Prop where
 «at» : ∀{i:Nat}{h h':Heap},st i h->(∀b∈it::more,∀o,h.get? b=some o->h'.get? b=some o)->st i h'
 there:∀{i:Nat}{h:Heap},st i h->∃o,h.get? it=some o
 item:∀{A:Around}{E:Value->Shared->Prop}{s:Shared}{i:Nat}{Q:Value->Shared->Prop},i<n->st i s.heap->(∀x h',P i x->st (i+1) h'->Heap.SameBut it s.heap h'->Q x {s with heap:=h'})->wpAny (model prog w) A (Builtin.SmallTypes.nextOf (.ref it)) Q E s
 fin:∀{A:Around}{E:Value->Shared->Prop}{s:Shared}{Q:Value->Shared->Prop},A.handled=none->st n s.heap->(∀h' e,Heap.ExtBut it s.heap h'->(∃o,h'.get? e=some o/\o.cls=.type "StopIteration")->E (.ref e) {s with heap:=h'})->wpAny (model prog w) A (Builtin.SmallTypes.nextOf (.ref it)) Q E s
theorem nA{prog:Program}{w:World}{tp:Bool}{it l:Addr}{items:Array Value}(h7:l≠it):gO prog w it [l] items.size (λi x=>items[i]?=some x) (λi h=>gh tp h it l i/\jf tp h l items) where
 «at»:=λst k=>⟨st.1.at λo e=>k it (by simp) o e,st.2.at λo e=>k l (by simp) o e⟩
 there:=λst=>let ⟨o,e,_⟩:=st.1.there; ⟨o,e⟩
 item:=λ{A E s i Q} hi st h=>ou st.1 st.2 (ab3 hi) λh' i' sb=>h _ h' (ab3 hi) ⟨i',st.2.at λo e=>(sb.2 l h7).trans e⟩ sb
 fin:=λ{A E s Q} hh st h=>EZ hh st.1 st.2 (adi (aah _)) h
noncomputable def ZS(h:Heap)(z TI TO i1 i2:Addr):Prop:=
 IsPair h TI (.ref i1) (.ref i2)/\(∃a b,IsPair h TO a b)/\(IsZip h z TI TO .none\/∃(a:Addr) (o:Obj) (b1:Bool),a∉[z,TI,TO,i1,i2]/\h.get? a=some o/\h.get? z=some {cls:=.type "zip",dict:=none,data:=.fields #[rawInt a,.bool b1,.bool false,.ref TI,.ref TO],slots:=#[] })
section
variable {prog:Program}{w:World}{A:Around}{E:Value->Shared->Prop}{s:Shared}{z TI TO i1 i2:Addr}{m1 m2:List Addr}{n1 n2:Nat}{P1 P2:Nat->Value->Prop}{lD jU:Nat->Heap->Prop}
theorem Kw{k:Nat}{Q:Option Value->Shared->Prop}(nd:[z,TI,TO,i1,i2].Nodup)(a1:∀b∈m1,b∉[z,TI,TO,i1,i2])(a2:∀b∈m2,b∉[z,TI,TO,i1,i2])
 (D1:gO prog w i1 m1 n1 P1 lD) (D2:gO prog w i2 m2 n2 P2 jU) (hz:ZS s.heap z TI TO i1 i2) (h1:lD k s.heap) (h2:jU k s.heap) (RO:k<n1) (BB:k<n2)
 (hQ:∀x y h' T,P1 k x->P2 k y->ZS h' z TI TO i1 i2->lD (k+1) h'->jU (k+1) h'->T∉[z,TI,TO,i1,i2]->s.heap.get? T=none->IsPair h' T x y->
  (∀c o,c∉[z,TI,TO,i1,i2]->s.heap.get? c=some o->h'.get? c=some o)->Q (some (.ref T)) {s with heap:=h'}):wpAny (model prog w) A (pyNext (.ref z)) Q E s:=by
 have xO:=nd
 simp only[aa0,aal,aaH,abF,ad3]at xO
 obtain⟨⟨tf,j5,jr,lB⟩,⟨TITO,TIi1,TIi2⟩,⟨TOi1,TOi2⟩,i12,_⟩:=xO
 obtain⟨gK,⟨a,b,iH⟩,hz⟩:=hz
 have lt:∀c∈[z,TI,TO,i1,i2],∀o,s.heap.get? c=some o->c≠s.heap.objs.size:=λc _ o e=>aaw (aam e)
 rcases hz with hz|⟨al,ol,b1,jg,sZ,hz⟩
 . have hT:s.TypeIs (.ref z) "zip":=⟨_,hz,rfl⟩
   unfold pyNext
   refine aab (acS (abj (name:=Str.ofString "__next__") hT abx (abv abx hT acm ?_ (aci _))))
   show wpAny _ _ (field (.ref z) 2 >>= _) _ _ _
   refine aab (aa9 hz rfl (x:=.bool false) rfl ?_)
   show wpAny _ _ (field (.ref z) 3 >>= _) _ _ _
   refine aab (aa9 hz rfl (x:=.ref TI) rfl ?_)
   refine aab (abh gK rfl ?_)
   show wpAny _ _ (Builtin.SmallTypes.ownedTupleIsFree (.ref z) >>= _) _ _ _
   refine aab ?_
   unfold Builtin.SmallTypes.ownedTupleIsFree
   refine aab (aa9 hz rfl (x:=.none) rfl (aaj ?_))
   simp only[adk]
   refine aab (ac6 ?_)
   refine aab (aa9 hz rfl (x:=.ref TO) rfl ?_)
   refine aab (abk hz (by simp) λh₁ ig gF=>?_)
   replace ig:IsZip h₁ z TI TO .ellipsis:=ig
   refine aab ?_
   simp only[acY,adb,abQ,acf]
   have k1:∀c o,c≠z->s.heap.get? c=some o->h₁.get? c=some o:=λc o n e=>gF.extBut _ _ n e
   refine aab (aab (acy ?_))
   show wpAny _ _ (Builtin.SmallTypes.nextOf (.ref i1) >>= _) _ _ _
   refine aab (D1.item RO (D1.at h1 λb hb o e=>k1 b o (by
    rcases aal.mp hb with rfl|hb
    . exact aau jr
    . exact λq=>a1 b hb (by rw[q];simp)) e) λx ko px zv j6=>aaj ?_)
   have k2:∀c o,c≠i1->h₁.get? c=some o->ko.get? c=some o:=λc o n e=>j6.extBut _ _ n e
   have qU:IsPair ko TO a b:=k2 _ _ TOi1 (k1 _ _ (aau j5) iH)
   refine aab (abh qU rfl ?_)
   refine aab (aca qU λkq mK lC=>?_)
   replace mK:IsPair kq TO x b:=mK
   have k3:∀c o,c≠TO->ko.get? c=some o->kq.get? c=some o:=λc o n e=>lC.extBut _ _ n e
   refine aab (adl (aaj ?_))
   refine aab (aab (acy ?_))
   show wpAny _ _ (Builtin.SmallTypes.nextOf (.ref i2) >>= _) _ _ _
   refine aab (D2.item BB (D2.at h2 λc hc o e=>k3 c o (by
    rcases aal.mp hc with rfl|hc
    . exact aau TOi2
    . exact λq=>a2 c hc (by rw[q];simp)) (k2 c o (by
    rcases aal.mp hc with rfl|hc
    . exact aau i12
    . exact λq=>a2 c hc (by rw[q];simp)) (k1 c o (by
    rcases aal.mp hc with rfl|hc
    . exact aau lB
    . exact λq=>a2 c hc (by rw[q];simp)) e))) λy vS py E3 xI=>aaj ?_)
   have k4:∀c o,c≠i2->kq.get? c=some o->vS.get? c=some o:=λc o n e=>xI.extBut _ _ n e
   have qV:IsPair vS TO x b:=k4 _ _ TOi2 mK
   refine aab (abh qV rfl ?_)
   refine aab (aca qV λgf j7 xJ=>?_)
   replace j7:IsPair gf TO x y:=j7
   have k5:∀c o,c≠TO->vS.get? c=some o->gf.get? c=some o:=λc o n e=>xJ.extBut _ _ n e
   refine aab (adl (aaj (aaj ?_)))
   refine aab (abh j7 rfl ?_)
   refine aab (ad7 ?_)
   have hsz:gf.objs.size=s.heap.objs.size:=by rw[xJ.1,xI.1,lC.1,j6.1,gF.1]
   have xK:IsZip gf z TI TO .ellipsis:=k5 _ _ j5 (k4 _ _ lB (k3 _ _ j5 (k2 _ _ jr ig)))
   have qW:z<gf.objs.size:=aam xK
   show wpAny _ _ (Builtin.SmallTypes.ownedTupleHandOut (.ref z) (.ref gf.objs.size) >>= _) _ _ _
   refine aab ?_
   unfold Builtin.SmallTypes.ownedTupleHandOut
   have E5:IsZip (gf.push {cls:=.type "tuple",data:=.seq #[x,y] }) z TI TO .ellipsis:=aac _ xK
   refine aab (abk E5 (by simp) λMU qX xM=>?_)
   replace qX:IsZip MU z TI TO (rawInt gf.objs.size):=qX
   refine abk qX (by simp) λtZ nz xN=>?_
   replace nz:IsZip tZ z TI TO (rawInt gf.objs.size):=nz
   have up:∀c o,c≠z->gf.get? c=some o->tZ.get? c=some o:=λc o c1 e=>xN.extBut _ _ c1 (xM.extBut _ _ c1 (aac _ e))
   have va:IsPair tZ gf.objs.size x y:=xN.extBut _ _ (abc qW) (xM.extBut _ _ (abc qW) (aaq _ rfl))
   rw[hsz]at nz va
   refine aaj ⟨.ref gf.objs.size,rfl,aaj ?_⟩
   rw[hsz]
   have zj:∀c o,c∉[z,TI,TO,i1,i2]->s.heap.get? c=some o->tZ.get? c=some o:=λc o hc e=>by
    simp only[aal,aaH,abF,ad3]at hc
    obtain⟨c1,c2,c3,c4,c5⟩:=hc
    exact up c o c1 (k5 _ _ c3 (k4 _ _ c5 (k3 _ _ c3 (k2 _ _ c4 (k1 _ _ c1 e)))))
   have ym:s.heap.objs.size∉[z,TI,TO,i1,i2]:=λhm=>by
    obtain⟨o1,e1⟩:=D1.there h1
    obtain⟨o2,e2⟩:=D2.there h2
    have g1:=aam e1
    have g2:=aam e2
    have g3:=aam hz
    have g4:=aam gK
    have g5:=aam iH
    simp only[aal,aaH,abF]at hm
    rcases hm with e|e|e|e|e
    . exact abc g3 e
    . exact abc g4 e
    . exact abc g5 e
    . exact abc g1 e
    . exact abc g2 e
   refine hQ x y tZ s.heap.objs.size px py ⟨up _ _ (aau tf) (k5 _ _ TITO (k4 _ _ TIi2 (k3 _ _ TITO (k2 _ _ TIi1 (k1 _ _ (aau tf) gK))))),⟨_,_,up _ _ (aau j5) j7⟩,.inr ⟨_,_,false,ym,va,nz⟩⟩ ?_ ?_ ym (adF (aah _)) va zj
   . refine D1.at zv λc hc o e=>?_
     have q:c≠z/\c≠TO/\c≠i2:=by
      rcases aal.mp hc with rfl|hc
      . exact⟨aau jr,aau TOi1,i12⟩
      . exact⟨λq=>a1 c hc (by rw[q];simp),λq=>a1 c hc (by rw[q];simp),λq=>a1 c hc (by rw[q];simp)⟩
     exact up c o q.1 (k5 _ _ q.2.1 (k4 _ _ q.2.2 (k3 _ _ q.2.1 e)))
   . refine D2.at E3 λc hc o e=>?_
     have q:c≠z/\c≠TO:=by
      rcases aal.mp hc with rfl|hc
      . exact⟨aau lB,aau TOi2⟩
      . exact⟨λq=>a2 c hc (by rw[q];simp),λq=>a2 c hc (by rw[q];simp)⟩
     exact up c o q.1 (k5 _ _ q.2 e)
 . have hT:s.TypeIs (.ref z) "zip":=⟨_,hz,rfl⟩
   unfold pyNext
   refine aab (acS (abj (name:=Str.ofString "__next__") hT abx (abv abx hT acm ?_ (aci _))))
   show wpAny _ _ (field (.ref z) 2 >>= _) _ _ _
   refine aab (aa9 hz rfl (x:=.bool false) rfl ?_)
   show wpAny _ _ (field (.ref z) 3 >>= _) _ _ _
   refine aab (aa9 hz rfl (x:=.ref TI) rfl ?_)
   refine aab (abh gK rfl ?_)
   show wpAny _ _ (Builtin.SmallTypes.ownedTupleIsFree (.ref z) >>= _) _ _ _
   refine aab ?_
   unfold Builtin.SmallTypes.ownedTupleIsFree
   refine aab (aa9 hz rfl (x:=rawInt al) rfl ?_)
   show wpAny _ _ (loadIfAlive ((al:Int)).toNat >>= _) _ _ _
   refine aab (lV ?_)
   rw[ab1,sZ]
   show wpAny _ _ (field (.ref z) 1 >>= _) _ _ _
   refine aab (aa9 hz rfl (x:=.bool b1) rfl ?_)
   refine ab0 (Q:=λ(r:Bool) (s':Shared)=>r=false/\∃h',s' = {s with heap:=h'} /\ Heap.SameBut z s.heap h'/\h'.get? z=some {cls:=.type "zip",dict:=none,data:=.fields #[rawInt al,.bool true,.bool false,.ref TI,.ref TO],slots:=#[] }) ?_ ?_ (λ_ _ x=>x)
   . cases b1
     . show wpAny _ _ (setField (.ref z) 1 (.bool true) >>= _) _ _ _
       refine aab (abk hz (by simp) λh₁ ig gF=>aaj ⟨rfl,h₁,rfl,gF,ig⟩)
     . exact aaj ⟨rfl,s.heap,rfl,⟨rfl,λ_ _=>rfl⟩,hz⟩
   rintro r s' ⟨rfl,h₁,rfl,gF,ig⟩
   have k1:∀c o,c≠z->s.heap.get? c=some o->h₁.get? c=some o:=λc o n e=>gF.extBut _ _ n e
   show wpAny _ _ (forIn #[Value.ref i1,Value.ref i2] _ _ >>= _) _ _ _
   rw[← ae0]
   simp only[abQ,acf]
   refine aab (aab (aab (abq ?_)))
   show wpAny _ _ (Builtin.SmallTypes.nextOf (.ref i1) >>= _) _ _ _
   have ne1:∀c∈i1::m1,c≠z/\c≠TO/\c≠i2:=λc hc=>by
    rcases aal.mp hc with rfl|hc
    . exact⟨aau jr,aau TOi1,i12⟩
    . exact⟨λq=>a1 c hc (by rw[q];simp),λq=>a1 c hc (by rw[q];simp),λq=>a1 c hc (by rw[q];simp)⟩
   have ne2:∀c∈i2::m2,c≠z/\c≠i1:=λc hc=>by
    rcases aal.mp hc with rfl|hc
    . exact⟨aau lB,aau i12⟩
    . exact⟨λq=>a2 c hc (by rw[q];simp),λq=>a2 c hc (by rw[q];simp)⟩
   refine aab (D1.item RO (D1.at h1 λc hc o e=>k1 c o (ne1 c hc).1 e) λx ko px zv j6=>aaj (aaj ?_))
   have k2:∀c o,c≠i1->h₁.get? c=some o->ko.get? c=some o:=λc o n e=>j6.extBut _ _ n e
   refine aab (aab (abq ?_))
   show wpAny _ _ (Builtin.SmallTypes.nextOf (.ref i2) >>= _) _ _ _
   refine aab (D2.item BB (D2.at h2 λc hc o e=>k2 c o (ne2 c hc).2 (k1 c o (ne2 c hc).1 e)) λy kq py WE lC=>aaj (aaj (aaj ?_)))
   have k3:∀c o,c≠i2->ko.get? c=some o->kq.get? c=some o:=λc o n e=>lC.extBut _ _ n e
   show wpAny _ _ (newTuple [x,y] >>= _) _ _ _
   refine aab (ad7 ?_)
   have hsz:kq.objs.size=s.heap.objs.size:=by rw[lC.1,j6.1,gF.1]
   have WG:=k3 _ _ lB (k2 _ _ jr ig)
   have up:∀c o,kq.get? c=some o->(kq.push {cls:=.type "tuple",data:=.seq #[x,y] }).get? c=some o:=λc o e=>aac _ e
   have ym:s.heap.objs.size∉[z,TI,TO,i1,i2]:=λhm=>by
    obtain⟨o1,e1⟩:=D1.there h1
    obtain⟨o2,e2⟩:=D2.there h2
    have g1:=aam e1
    have g2:=aam e2
    have g3:=aam hz
    have g4:=aam gK
    have g5:=aam iH
    simp only[aal,aaH,abF]at hm
    rcases hm with e|e|e|e|e
    . exact abc g3 e
    . exact abc g4 e
    . exact abc g5 e
    . exact abc g1 e
    . exact abc g2 e
   have RP:IsPair (kq.push {cls:=.type "tuple",data:=.seq #[x,y] }) kq.objs.size x y:=aaq _ rfl
   have zj:∀c o,c∉[z,TI,TO,i1,i2]->s.heap.get? c=some o->(kq.push {cls:=.type "tuple",data:=.seq #[x,y] }).get? c=some o:=λc o hc e=>by
    simp only[aal,aaH,abF,ad3]at hc
    obtain⟨c1,c2,c3,c4,c5⟩:=hc
    exact up c o (k3 _ _ c5 (k2 _ _ c4 (k1 _ _ c1 e)))
   refine aaj ⟨.ref kq.objs.size,rfl,aaj ?_⟩
   rw[hsz]at RP ⊢
   refine hQ x y _ s.heap.objs.size px py ⟨up _ _ (k3 _ _ TIi2 (k2 _ _ TIi1 (k1 _ _ (aau tf) gK))),⟨_,_,up _ _ (k3 _ _ TOi2 (k2 _ _ TOi1 (k1 _ _ (aau j5) iH)))⟩,.inr ⟨al,ol,true,jg,zj _ _ jg sZ,up _ _ WG⟩⟩ ?_ ?_ ym (adF (aah _)) RP zj
   . exact D1.at zv λc hc o e=>up c o (k3 _ _ (ne1 c hc).2.2 e)
   . exact D2.at WE λc hc o e=>up c o e
theorem Kx{Q:Option Value->Shared->Prop}(hh:A.handled=none)(nd:[z,TI,TO,i1,i2].Nodup)(a1:∀b∈m1,b∉[z,TI,TO,i1,i2])
 (D1:gO prog w i1 m1 n1 P1 lD) (hz:ZS s.heap z TI TO i1 i2) (h1:lD n1 s.heap)
 (hQ:∀h',(∀c o,c∉[z,TI,TO,i1,i2]->s.heap.get? c=some o->h'.get? c=some o)->Q none {s with heap:=h'}):wpAny (model prog w) A (pyNext (.ref z)) Q E s:=by
 have xO:=nd
 simp only[aa0,aal,aaH,abF,ad3]at xO
 obtain⟨⟨tf,j5,jr,lB⟩,⟨TITO,TIi1,TIi2⟩,⟨TOi1,TOi2⟩,i12,_⟩:=xO
 obtain⟨gK,⟨a,b,iH⟩,hz⟩:=hz
 have ne1:∀c∈i1::m1,c≠z:=λc hc=>by
  rcases aal.mp hc with rfl|hc
  . exact aau jr
  . exact λq=>a1 c hc (by rw[q];simp)
 rcases hz with hz|⟨al,ol,b1,jg,sZ,hz⟩
 . have hT:s.TypeIs (.ref z) "zip":=⟨_,hz,rfl⟩
   unfold pyNext
   refine aab (acS (abj (name:=Str.ofString "__next__") hT abx (abv abx hT acm ?_ (aci _))))
   show wpAny _ _ (field (.ref z) 2 >>= _) _ _ _
   refine aab (aa9 hz rfl (x:=.bool false) rfl ?_)
   show wpAny _ _ (field (.ref z) 3 >>= _) _ _ _
   refine aab (aa9 hz rfl (x:=.ref TI) rfl ?_)
   refine aab (abh gK rfl ?_)
   show wpAny _ _ (Builtin.SmallTypes.ownedTupleIsFree (.ref z) >>= _) _ _ _
   refine aab ?_
   unfold Builtin.SmallTypes.ownedTupleIsFree
   refine aab (aa9 hz rfl (x:=.none) rfl (aaj ?_))
   simp only[adk]
   refine aab (ac6 ?_)
   refine aab (aa9 hz rfl (x:=.ref TO) rfl ?_)
   refine aab (abk hz (by simp) λh₁ ig gF=>?_)
   replace ig:IsZip h₁ z TI TO .ellipsis:=ig
   refine aab ?_
   simp only[acY,adb,abQ,acf]
   refine aab (aab (acy ?_))
   show wpAny _ _ (Builtin.SmallTypes.nextOf (.ref i1) >>= _) _ _ _
   refine aab (D1.fin (by first|exact hh|rfl) (D1.at h1 λc hc o e=>gF.extBut _ o (ne1 c hc) e) λko e j6 he=>?_)
   obtain⟨oe,vb,qd⟩:=he
   have E6:IsZip ko z TI TO .ellipsis:=j6 _ _ jr ig
   have MV:e≠z:=λx=>by subst x;rw[E6]at vb;cases vb;simp at qd
   refine abk E6 (by simp) λkq _ lC=>?_
   refine aab (aeu (T:="StopIteration") (b:=true) ⟨oe,lC.extBut _ _ MV vb,qd⟩ aeS ?_)
   refine aaj (hQ _ λc o hc x=>?_)
   simp only[aal,aaH,abF,ad3]at hc
   exact lC.extBut _ _ hc.1 (j6 _ _ hc.2.2.2.1 (gF.extBut _ _ hc.1 x))
 . have hT:s.TypeIs (.ref z) "zip":=⟨_,hz,rfl⟩
   unfold pyNext
   refine aab (acS (abj (name:=Str.ofString "__next__") hT abx (abv abx hT acm ?_ (aci _))))
   show wpAny _ _ (field (.ref z) 2 >>= _) _ _ _
   refine aab (aa9 hz rfl (x:=.bool false) rfl ?_)
   show wpAny _ _ (field (.ref z) 3 >>= _) _ _ _
   refine aab (aa9 hz rfl (x:=.ref TI) rfl ?_)
   refine aab (abh gK rfl ?_)
   show wpAny _ _ (Builtin.SmallTypes.ownedTupleIsFree (.ref z) >>= _) _ _ _
   refine aab ?_
   unfold Builtin.SmallTypes.ownedTupleIsFree
   refine aab (aa9 hz rfl (x:=rawInt al) rfl ?_)
   show wpAny _ _ (loadIfAlive ((al:Int)).toNat >>= _) _ _ _
   refine aab (lV ?_)
   rw[ab1,sZ]
   show wpAny _ _ (field (.ref z) 1 >>= _) _ _ _
   refine aab (aa9 hz rfl (x:=.bool b1) rfl ?_)
   refine ab0 (Q:=λ(r:Bool) (s':Shared)=>r=false/\∃h',s' = {s with heap:=h'} /\ Heap.SameBut z s.heap h'/\h'.get? z=some {cls:=.type "zip",dict:=none,data:=.fields #[rawInt al,.bool true,.bool false,.ref TI,.ref TO],slots:=#[] }) ?_ ?_ (λ_ _ x=>x)
   . cases b1
     . show wpAny _ _ (setField (.ref z) 1 (.bool true) >>= _) _ _ _
       refine aab (abk hz (by simp) λh₁ ig gF=>aaj ⟨rfl,h₁,rfl,gF,ig⟩)
     . exact aaj ⟨rfl,s.heap,rfl,⟨rfl,λ_ _=>rfl⟩,hz⟩
   rintro r s' ⟨rfl,h₁,rfl,gF,ig⟩
   show wpAny _ _ (forIn #[Value.ref i1,Value.ref i2] _ _ >>= _) _ _ _
   rw[← ae0]
   simp only[abQ,acf]
   refine aab (aab (aab (abq ?_)))
   show wpAny _ _ (Builtin.SmallTypes.nextOf (.ref i1) >>= _) _ _ _
   refine aab (D1.fin (by first|exact hh|rfl) (D1.at h1 λc hc o e=>gF.extBut _ o (ne1 c hc) e) λko e j6 he=>?_)
   obtain⟨oe,vb,qd⟩:=he
   refine aab (aeu (T:="StopIteration") (b:=true) ⟨oe,vb,qd⟩ aeS ?_)
   refine aaj (hQ _ λc o hc x=>?_)
   simp only[aal,aaH,abF,ad3]at hc
   exact j6 _ _ hc.2.2.2.1 (gF.extBut _ _ hc.1 x)
end
section
variable {prog:Program}{w:World}{K:Type}[DecidableEq K] {knd:KeyKind prog w K}{A:Around}{E:Value->Shared->Prop}{s:Shared}
theorem Bb{it d:Addr}{i ep:Nat}{kvs:List (K×Value)}{k:K}{v:Value}{Q:Value->Shared->Prop}(hit:s.heap.IsKeyIter it d i kvs.length ep)
 (hm:s.heap.DictAt knd d kvs ep) (hx:kvs[i]?=some (k,v))
 (hQ:∀key h',knd.is k key=true->h'.IsKeyIter it d (i+1) kvs.length ep->Heap.SameBut it s.heap h'->Q key {s with heap:=h'}) :
 wpAny (model prog w) A (Builtin.SmallTypes.nextOf (.ref it)) Q E s:=by
 obtain⟨o,ho,hc,hd⟩:=id hit
 obtain⟨od,es,xP,lh,ie,hk,hp,hn⟩:=id hm
 unfold Builtin.SmallTypes.nextOf
 refine aab (abj (name:=Str.ofString "__next__") hit.typeIs acd
  (abv acd hit.typeIs adA ?_ (adu _)))
 refine aab (aaj ?_)
 refine aab ?_
 refine aab ?_
 first|refine aab (ab9 hit.typeIs (aaj ?_))|refine aab (acu hit.typeIs (aaj ?_))
 refine aab (wpAny_fieldsOf ho hd ?_)
 have He:Builtin.Dict_items.ownsTuple "dict_keyiterator" = false:=by decide
 simp only[He,acn,acX]
 show wpAny _ _ (if (Value.ref d == Value.none)=true then _ else _) _ _ s
 rw[aaY (show ¬ ((Value.ref d == Value.none)=true) from aax)]
 refine aab (aaj ?_)
 refine aab (wpAny_dictEntries xP ie ?_)
 have hsz:es.size=kvs.length:=by rw[← hp.length];simp
 rw[aaY (by rw[hsz];simp)]
 refine aab (aaj ?_)
 refine aab (wpAny_dictEpoch xP ie ?_)
 rw[aaY (by simp)]
 refine aaj ?_
 have c8:i<kvs.length:=by
  rcases aeH i kvs.length with h|h
  . exact h
  . simp[ab6 h]at hx
 have MY:i<es.size:=by rw[hsz];exact c8
 have mw:knd.is k es[i].key=true:=(hp.get? (e:=es[i]) (by simp[MY]) hx).1
 simp only[show ¬ ((i:Int)<0) from by omega,acX,ab1,ab3 MY]
 refine aab ?_
 first|refine aab (ab9 hit.typeIs (aaj ?_))|refine aab (acu hit.typeIs (aaj ?_))
 refine aab (wpAny_isOneOf_keyiter hit.typeIs ?_)
 show wpAny _ _ (setField (.ref it) 1 (rawInt ((i:Int)+1)) >>= _) _ _ s
 refine aab (ad6 ho hd (by simp) ?_)
 have Cw:(s.heap.update it (Obj.mapFields (·.setIfInBounds 1 (rawInt ((i:Int)+1))))).IsKeyIter it d (i+1) kvs.length ep:=
  ⟨_,ads _ ho (Obj.isFreed_of_fields (ada hd _)),(Obj.cls_mapFields ..).trans hc,by rw[ada hd];simp[rawInt]⟩
 refine aab (abq ?_)
 refine aab (wpAny_isOneOf_keyiter (s:={s with heap:=s.heap.update it (Obj.mapFields (·.setIfInBounds 1 (rawInt ((i:Int)+1))))}) Cw.typeIs ?_)
 show wpAny _ _ (pure es[i].key) _ _ _
 exact aaj (aaj ⟨_,rfl,aaj (hQ _ _ mw Cw (ac3 ..))⟩)
theorem C8{it d:Addr}{i ep:Nat}{kvs:List (K×Value)}{Q:Value->Shared->Prop}(hh:A.handled=none) (hit:s.heap.IsKeyIter it d i kvs.length ep)
 (hm:s.heap.DictAt knd d kvs ep) (hx:kvs[i]?=none)
 (hE:∀h' e,Heap.ExtBut it s.heap h'->(∃o,h'.get? e=some o/\o.cls=.type "StopIteration")->E (.ref e) {s with heap:=h'}):wpAny (model prog w) A (Builtin.SmallTypes.nextOf (.ref it)) Q E s:=by
 obtain⟨o,ho,hc,hd⟩:=id hit
 obtain⟨od,es,xP,lh,ie,hk,hp,hn⟩:=id hm
 unfold Builtin.SmallTypes.nextOf
 refine aab (abj (name:=Str.ofString "__next__") hit.typeIs acd
  (abv acd hit.typeIs adA ?_ (adu _)))
 refine aab (aaj ?_)
 refine aab ?_
 refine aab ?_
 first|refine aab (ab9 hit.typeIs (aaj ?_))|refine aab (acu hit.typeIs (aaj ?_))
 refine aab (wpAny_fieldsOf ho hd ?_)
 have He:Builtin.Dict_items.ownsTuple "dict_keyiterator" = false:=by decide
 simp only[He,acn,acX]
 show wpAny _ _ (if (Value.ref d == Value.none)=true then _ else _) _ _ s
 rw[aaY (show ¬ ((Value.ref d == Value.none)=true) from aax)]
 refine aab (aaj ?_)
 refine aab (wpAny_dictEntries xP ie ?_)
 have hsz:es.size=kvs.length:=by rw[← hp.length];simp
 rw[aaY (by rw[hsz];simp)]
 refine aab (aaj ?_)
 refine aab (wpAny_dictEpoch xP ie ?_)
 rw[aaY (by simp)]
 refine aaj ?_
 have RQ:es.size<=i:=by rw[hsz];simpa using hx
 simp only[show ¬ ((i:Int)<0) from by omega,acX,ab1,adi RQ]
 refine aab ?_
 first|refine aab (ab9 hit.typeIs (aaj ?_))|refine aab (acu hit.typeIs (aaj ?_))
 show wpAny _ _ (setField (.ref it) 0 .none >>= _) _ _ s
 refine aab (ad6 ho hd (by simp) ?_)
 show wpAny _ _ (newExc (.type "StopIteration") [] >>= _) _ _ _
 refine aab ?_
 simp only[newExc,newTuple]
 refine aab (acQ ?_ (by size_fits))
 refine aab (m:=firstArgMember _ _) (wpAny_of_eq (a:=Value.none) (by first|rfl|(simp only[firstArgMember];rfl)) ?_)
 refine acQ ?_ (by size_fits)
 simp only[raiseNew]
 refine aab (wpAny_handled ?_)
 first|rw[show A.in1.handled=none from hh] | rw[hh]
 refine aab (aaj (wpAny_throw ?_))
 exact hE _ _ (((ac3 ..).extBut.push _).push _) ⟨_,aaq _ rfl,rfl⟩
theorem C9{it d:Addr}{kvs:List (K×Value)}{ep:Nat}(h7:d≠it):gO prog w it [d] kvs.length (λi x=>∃kv,kvs[i]?=some kv/\knd.is kv.1 x=true) (λi h=>h.IsKeyIter it d i kvs.length ep/\h.DictAt knd d kvs ep) where
 «at»:=λst k=>⟨st.1.at λo e=>k it (by simp) o e,st.2.at' λo e=>k d (by simp) o e⟩
 there:=λst=>let ⟨o,e,_⟩:=st.1; ⟨o,e⟩
 item:=λ{A E s i Q} hi st h=>Bb st.1 st.2 (k:=kvs[i].1) (v:=kvs[i].2) (aad hi) λkey h' hk i' sb=>h key h' ⟨_,aad hi,hk⟩ ⟨i',st.2.extBut sb.extBut h7⟩ sb
 fin:=λ{A E s Q} hh st h=>C8 hh st.1 st.2 (ab6 (aah _)) h
end
theorem vc:typeLookup (.type "zip") "__getattr__" = pure none:=by rw[adO,acK];kernel_rfl
theorem zz:typeLookup (.type "zip") "keys" = pure none:=by rw[adO,acK];kernel_rfl
namespace F
theorem Bc:entryFor table "zip.__getattribute__" = some Builtin.«object.__getattribute__»:=entryFor_alias (id':="object.__getattribute__") (by kernel_rfl) (by first|rfl|decide+kernel) (by decide+kernel) (by kernel_rfl)
end F
theorem pB{A:Around}{prog:Program}{w:World}{Q:Fin->Shared->Prop}{E:Value->Shared->Prop}{h:Heap}{g d t os} {a:Addr}{fs:Array Value}(u:Tok) (hx:h.get? a=some {cls:=.type "zip",dict:=none,data:=.fields fs,slots:=#[] }) (hh:A.handled=none)
 (hE:∀h' tk e,Heap.NewAttrErr h h' e (.ref a) "keys" -> E (.ref e) ⟨h',g,d,tk,os⟩) :
 wpAny (model prog w) A (Builtin.«object.__getattribute__» ⟨[.ref a,.str "keys" u],[]⟩) Q E ⟨h,g,d,t,os⟩:=by
 have hT:∀t',(⟨h,g,d,t',os⟩:Shared).TypeIs (.ref a) "zip":=λt'=>⟨_,hx,rfl⟩
 have IP:=hT t
 have QH:=zz
 have hc:[Str.ofString "__module__",Str.ofString "__name__",Str.ofString "__qualname__",Str.ofString "__doc__",Str.ofString "__annotations__"].contains (Str.ofString "keys")=false:=by decide+kernel
 unfold Builtin.«object.__getattribute__»
 repeat (any_goals (first|assumption|wp_step|refine wpAny_ite_false hc ?_))
 all_goals first
  | exact wpAny_raiseAttrError hh hE (attrMsg_fits (by decide+kernel) (by decide))
  | skip
theorem zA{A:Around}{prog:Program}{w:World}{R:Result->Shared->Prop}{h:Heap}{g d t os} {a:Addr}{fs:Array Value}{u:Tok}(hx:h.get? a=some {cls:=.type "zip",dict:=none,data:=.fields fs,slots:=#[] }) (hh:A.handled=none)
 (hE:∀h' tk e,Heap.NewAttrErr h h' e (.ref a) "keys" -> R (.error (.ref e)) ⟨h',g,d,tk,os⟩) :
 codeAny (model prog w) A (.call (.builtin "zip.__getattribute__") ⟨[.ref a,.str "keys" u],[]⟩) R ⟨h,g,d,t,os⟩:=
 codeAny_call_builtin acz.plain F.Bc (acz.check _ _ _ _ _ _ _ _ (show (⟨h,g,d,t,os⟩:Shared).TypeIs (.ref a) "zip" from⟨_,hx,rfl⟩) (F.args_zip_getattribute_2 _ _) (pB u hx hh hE))
theorem zB{A:Around}{prog:Program}{w:World}{E:Value->Shared->Prop}{h:Heap}{g d t os} {a:Addr}{fs:Array Value}{Q:Option Value->Shared->Prop}(hx:h.get? a=some {cls:=.type "zip",dict:=none,data:=.fields fs,slots:=#[] }) (hh:A.handled=none)
 (hQ:∀h' tk,(∀b o,h.get? b=some o->h'.get? b=some o)->Q none ⟨h',g,d,tk,os⟩):wpAny (model prog w) A (getAttr? (.ref a) "keys") Q E ⟨h,g,d,t,os⟩:=by
 have hT:(⟨h,g,d,t,os⟩:Shared).TypeIs (.ref a) "zip":=⟨_,hx,rfl⟩
 have f1:=sub_AttributeError
 have f2:=acz.lookup
 have f3:=acz.bind (.ref a)
 have f5:=vc
 unfold getAttr? getAttrBy? getAttrBy
 repeat (any_goals (first|assumption|((with_reducible show codeAny _ _ (Code.call (Value.builtin "zip.__getattribute__") _) _ _);refine zA hx hh ?_;intro h' qT e EV;obtain⟨t1,u1,he⟩:=EV.there)|wp_step))
 exact hQ h' qT EV.keeps
section
variable {prog:Program}{w:World}{K:Type}[DecidableEq K] {knd:KeyKind prog w K}{A:Around}{R:Result->Shared->Prop}{z TI TO i1 i2:Addr}{m1 m2:List Addr}{n1 n2:Nat}{P1 P2:Nat->Value->Prop}{lD jU:Nat->Heap->Prop}
theorem wc{d:Addr}{kvs:List (K×Value)}(nd:[z,TI,TO,i1,i2].Nodup) (a1:∀b∈m1,b∉[z,TI,TO,i1,i2]) (a2:∀b∈m2,b∉[z,TI,TO,i1,i2]) (MZ:d∉[z,TI,TO,i1,i2]) (EW:d∉m1) (hd2:d∉m2)
 (D1:gO prog w i1 m1 n1 P1 lD) (D2:gO prog w i2 m2 n2 P2 jU) (E9:kvs.length=n1) (jW:n1<=n2) (hP:∀(i:Nat) (x y:Value) (kv:K×Value),kvs[i]?=some kv->P1 i x->P2 i y->knd.is kv.1 x=true/\y=kv.2) (hz:kvs.length<=sizeLine) (hh:A.handled=none) :
 ∀(k i:Nat) (s:Shared) (tk:Tok) (acc:List (K×Value)),kvs.length-i=k->i<=kvs.length->ZS s.heap z TI TO i1 i2->lD i s.heap->jU i s.heap->s.heap.DictOf knd d acc->acc.length<=i->
 (∀h' tk,h'.DictOf knd d ((kvs.drop i).foldl (λa kv=>stored a kv.1 kv.2) acc)->(∀b o,b≠d->b∉[z,TI,TO,i1,i2]->s.heap.get? b=some o->h'.get? b=some o)->R (.ok (.ret .none)) {s with heap:=h',toks:=tk})->
 codeAny (model prog w) A (.builtin "dict.update.loop" ⟨[.ref d,.ref z,.int (i:Int) tk,.none],[]⟩) R s:=by
 intro k
 induction k with
 | zero=>
  intro i s tk acc hk hi M1 h1 h2 hd Hc hR
  have xH:i=n1:=by omega
  subst xH
  refine adP F.e9 ?_
  rw[acT F.bU _]
  show wpAny _ A.in1 (pyNext (.ref z) >>= _) _ _ s
  refine aab (Kx (A:=A.in1) hh nd a1 D1 M1 h1 λh' he=>?_)
  refine aab (aaj (aaj ?_))
  have hd':h'.DictOf knd d acc:=let ⟨o,es,ep,ho,r⟩:=hd; ⟨o,es,ep,he d o MZ ho,r⟩
  refine hR h' s.toks ?_ λb o _ hb e=>he b o hb e
  rw[aeA (by omega)]
  exact hd'
 | succ k ih=>
  intro i s tk acc hk hi M1 h1 h2 hd Hc hR
  have c8:i<kvs.length:=by omega
  have iO:kvs[i]?=some kvs[i]:=aad c8
  refine adP F.e9 ?_
  rw[acT F.bU _]
  show wpAny _ A.in1 (pyNext (.ref z) >>= _) _ _ s
  refine aab (Kw nd a1 a2 D1 D2 M1 h1 h2 (by omega) (by omega) λx y M3 T px py UL WH WI pW RR IS IT=>?_)
  obtain⟨mw,rfl⟩:=hP i x y _ iO px py
  obtain⟨od,WJ,WK,xP,rd⟩:=id hd
  have hTd:T≠d:=λe=>by rw[e,xP]at RR;cases RR
  refine aab (abq (aab ?_))
  refine wpAny_tryCatch ?_
  unfold Builtin.Dict.pairItems
  refine aab (adt (show ({s with heap:=M3} : Shared).TypeIs (.ref T) "tuple" from⟨_,IS,rfl⟩) ?_)
  rw[aa4 (by decide)]
  refine aab (abh IS rfl (aaj ?_))
  show wpAny _ A.in1 (holding [x,(kvs[i]).2] (dictSet d x (kvs[i]).2)) _ _ _
  refine abq ?_
  unfold dictSet
  try with_reducible refine abq ?_
  have ie:M3.DictOf knd d acc:=⟨od,WJ,WK,IT d od MZ xP,rd⟩
  refine aab (knd.pyHash mw ?_)
  refine ad5 mw ie (λFb Dc i8=>?_) (by omega)
  refine aaj ⟨aek F.bU _,?_⟩
  have er:rawInt ((i:Int)+1)=Value.int (((i+1:Nat):Nat):Int) 0:=by simp[rawInt]
  rw[er]
  have k2:∀b o,b≠d->M3.get? b=some o->Fb.get? b=some o:=λb o b1 e=>(i8.2 b b1).trans e
  have n5:∀b∈[z,TI,TO,i1,i2],b≠d:=λb hb e=>MZ (e ▸ hb)
  refine ih (i+1) _ 0 (stored acc (kvs[i]).1 (kvs[i]).2) (by omega) (by omega) ?_ ?_ ?_ Dc ?_ ?_
  . obtain⟨q1,⟨q2a,q2b,q2⟩,q3⟩:=UL
    refine⟨k2 _ _ (n5 TI (by simp)) q1,⟨_,_,k2 _ _ (n5 TO (by simp)) q2⟩,?_⟩
    rcases q3 with q3|⟨al,ol,b1,jg,sZ,q3⟩
    . exact .inl (k2 _ _ (n5 z (by simp)) q3)
    . by_cases e:al=d
      . subst e
        obtain⟨o',wQ,wR,gU,_⟩:=Dc
        exact .inr ⟨al,o',b1,jg,gU,k2 _ _ (n5 z (by simp)) q3⟩
      . exact .inr ⟨al,ol,b1,jg,k2 _ _ e sZ,k2 _ _ (n5 z (by simp)) q3⟩
  . exact D1.at WH λb hb o e=>k2 b o (by
     rcases aal.mp hb with rfl|hb
     . exact n5 _ (by simp)
     . exact λq=>EW (q ▸ hb)) e
  . exact D2.at WI λb hb o e=>k2 b o (by
     rcases aal.mp hb with rfl|hb
     . exact n5 _ (by simp)
     . exact λq=>hd2 (q ▸ hb)) e
  . have:=stored_length_le acc (kvs[i]).1 (kvs[i]).2
    omega
  . intro h' qT hd' kc
    refine hR h' qT ?_ λb o b1 b2 e=>kc b o b1 b2 (k2 b o b1 (IT b o b2 e))
    rw[ab4 (by omega),aeM]
    exact hd'
end
section
variable {prog:Program}{w:World}{K:Type}[DecidableEq K] {knd:KeyKind prog w K}{A:Around}{E:Value->Shared->Prop}{s:Shared}{z TI TO i1 i2:Addr}{m1 m2:List Addr}{n1 n2:Nat}{P1 P2:Nat->Value->Prop}{lD jU:Nat->Heap->Prop}
theorem qY{kvs:List (K×Value)}{Q:Value->Shared->Prop}(hh:A.handled=none) (nd:[z,TI,TO,i1,i2].Nodup) (a1:∀b∈m1,b∉[z,TI,TO,i1,i2]) (a2:∀b∈m2,b∉[z,TI,TO,i1,i2]) (l1:∀b∈m1,b<s.heap.objs.size) (l2:∀b∈m2,b<s.heap.objs.size)
 (D1:gO prog w i1 m1 n1 P1 lD) (D2:gO prog w i2 m2 n2 P2 jU) (E9:kvs.length=n1) (jW:n1<=n2) (hP:∀(i:Nat) (x y:Value) (kv:K×Value),kvs[i]?=some kv->P1 i x->P2 i y->knd.is kv.1 x=true/\y=kv.2) (yZ:kvs.length<=sizeLine)
 (hz:IsZip s.heap z TI TO .none) (gK:IsPair s.heap TI (.ref i1) (.ref i2)) (iH:∃a b,IsPair s.heap TO a b) (h1:lD 0 s.heap) (h2:jU 0 s.heap)
 (h:∀h' tk,h'.DictOf knd s.heap.objs.size (merged [] kvs)->(∀b o,b∉[z,TI,TO,i1,i2]->s.heap.get? b=some o->h'.get? b=some o)->Q (.ref s.heap.objs.size) {s with heap:=h',toks:=tk}) :
 wpAny (model prog w) A (call (.type "dict") [.ref z]) Q E s:=by
 refine callType_codes (Q₁:=λobj dQ=>obj=.ref s.heap.objs.size/\dQ = {s with heap:=s.heap.push {cls:=.type "dict",data:=.dict #[] } }) F.kt_called_dict (F.kt_typeCall_dict_1 _) F.entry_dict_init (kt_code_dict_new _ ⟨rfl,rfl⟩) ?_
 rintro obj dQ ⟨rfl,rfl⟩
 have nQ:(s.heap.push {cls:=.type "dict",data:=.dict #[] }).DictOf knd s.heap.objs.size []:=aeE s.heap
 have xj:IsZip (s.heap.push {cls:=.type "dict",data:=.dict #[] }) z TI TO .none:=aac _ hz
 refine⟨nQ.typeIs,F.args_dict_init_2 _ _,?_⟩
 unfold Builtin.«dict.__init__»
 refine aab ?_
 unfold Builtin.Dict.selfAndRest
 refine aab (wpAny_notOrdered_dict nQ.typeIs ?_)
 show wpAny _ _ (pure (s.heap.objs.size,[Value.ref z])) _ _ _
 refine aaj ?_
 show wpAny _ _ (Builtin.Dict.updateFrom "dict.__init__" s.heap.objs.size (.ref z) [] .none) _ _ _
 unfold Builtin.Dict.updateFrom
 refine aab (adt (show ({s with heap:=s.heap.push {cls:=.type "dict",data:=.dict #[] } } : Shared).TypeIs (.ref z) "zip" from⟨_,xj,rfl⟩) ?_)
 rw[aa4 (by decide)]
 have WL:s.heap.objs.size∉[z,TI,TO,i1,i2]:=λhm=>by
  obtain⟨o1,e1⟩:=D1.there h1
  obtain⟨o2,e2⟩:=D2.there h2
  obtain⟨ta,tb,iH⟩:=iH
  simp only[aal,aaH,abF]at hm
  rcases hm with e|e|e|e|e
  . exact abc (aam hz) e
  . exact abc (aam gK) e
  . exact abc (aam iH) e
  . exact abc (aam e1) e
  . exact abc (aam e2) e
 generalize pY:({s with heap:=s.heap.push {cls:=.type "dict",data:=.dict #[] } } : Shared)=s1 at *
 obtain⟨g1,g2,g3,g4,g5⟩:=s1
 cases pY
 refine aab (zB xj (by first|exact hh|rfl) λFb MN k2=>?_)
 rw[aa4 (show (none:Option Value).isNone=true from rfl)]
 have up:∀b o,s.heap.get? b=some o->Fb.get? b=some o:=λb o e=>k2 _ _ (aac _ e)
 refine aab (ac6 (aab (adz (s:={heap:=Fb,gens:=s.gens,drawn:=s.drawn,toks:=MN,os:=s.os}) (up _ _ hz) ?_)))
 refine aaj ⟨aek F.bU _,?_⟩
 have hd2:Fb.DictOf knd s.heap.objs.size []:=let ⟨o,es,ep,ho,r⟩:=nQ; ⟨o,es,ep,k2 _ _ ho,r⟩
 refine wc (knd:=knd) (d:=s.heap.objs.size) (kvs:=kvs) nd a1 a2 WL (λq=>abT _ (l1 _ q)) (λq=>abT _ (l2 _ q)) D1 D2 E9 jW hP yZ (by first|exact hh|rfl) kvs.length 0 _ 0 [] rfl (abM _) ?_ ?_ ?_ hd2 (aah _) ?_
 . obtain⟨ta,tb,iH⟩:=iH
   exact⟨up _ _ gK,⟨_,_,up _ _ iH⟩,.inl (up _ _ hz)⟩
 . exact D1.at h1 λb _ o e=>up b o e
 . exact D2.at h2 λb _ o e=>up b o e
 . intro h' qT hd' kc
   refine⟨rfl,h h' qT ?_ λb o hb e=>?_⟩
   . simpa[merged]using hd'
   . exact kc b o (aaw (aam e)) hb (up b o e)
end
noncomputable abbrev pC(h:Heap)(o:Obj):Heap:=h.push o
noncomputable abbrev De(h:Heap)(o:Obj)(l2:Addr):Heap:=(pC h o).push {cls:=.type "tuple_iterator",data:=.fields #[.ref l2,.int 0 0] }
noncomputable abbrev Df(h:Heap)(o:Obj)(l2:Addr):Heap:=(De h o l2).push {cls:=.type "tuple",data:=.seq #[.ref h.objs.size,.ref (pC h o).objs.size] }
noncomputable abbrev wd(h:Heap)(o:Obj)(l2:Addr):Heap:=(Df h o l2).push {cls:=.type "tuple",data:=.seq #[.none,.none] }
noncomputable abbrev ir(h:Heap)(o:Obj)(l2:Addr):Heap:=(wd h o l2).push {cls:=.type "zip",data:=.fields #[.none,.bool false,.bool false,.ref (De h o l2).objs.size,.ref (Df h o l2).objs.size] }
noncomputable abbrev kY(l:Addr):Obj:={cls:=.type "list_iterator",data:=.fields #[.ref l,.int 0 0] }
noncomputable abbrev sv(d n ep:Nat):Obj:={cls:=.type "dict_keyiterator",data:=.fields #[.ref d,.int 0 0,.int n 0,.int ep 0] }
theorem ve(l1 l2:Addr)(xs ys:Array Value) :
 Meets (Builtin.«zip.__new__» ⟨[.type "zip",.ref l1,.ref l2],[]⟩) (λ_ R s=>s.heap.IsList l1 xs/\s.heap.IsTuple l2 ys/\R (.ok (.ret (.ref (wd s.heap (kY l1) l2).objs.size))) {s with heap:=ir s.heap (kY l1) l2}):=
 .of_wp λprog w A R s h=>by
  obtain⟨hp,g,d,tk,os⟩:=s;obtain⟨eP,cx,h⟩:=h
  have MW:=sub_zip
  have E7:Heap.IsList (Shared.heap ⟨hp,g,d,tk,os⟩) l1 xs:=eP
  have zx:Heap.IsTuple (Shared.heap ⟨hp.push {cls:=.type "list_iterator",data:=.fields #[.ref l1,.int 0 0] },g,d,tk,os⟩) l2 ys:=aef cx _
  wp_walk using adj E7,ade zx
  exact⟨_,rfl,h⟩
theorem Dg{prog:Program}{w:World}{K:Type}[DecidableEq K] (knd:KeyKind prog w K) (l1 l2:Addr) (kvs:List (K×Value)) (ep:Nat) (ys:Array Value) (hs:(l1 == sysModules)=false) :
 MeetsIn prog w (Builtin.«zip.__new__» ⟨[.type "zip",.ref l1,.ref l2],[]⟩) (λ_ R s=>s.heap.DictAt knd l1 kvs ep/\s.heap.IsTuple l2 ys/\R (.ok (.ret (.ref (wd s.heap (sv l1 kvs.length ep) l2).objs.size))) {s with heap:=ir s.heap (sv l1 kvs.length ep) l2}):=
 .of_wp λA R s h=>by
  obtain⟨hp,g,d,tk,os⟩:=s;obtain⟨hm,cx,h⟩:=h
  have MW:=sub_zip
  have hM:Heap.DictAt knd (Shared.heap ⟨hp,g,d,tk,os⟩) l1 kvs ep:=hm
  have zx:Heap.IsTuple (Shared.heap ⟨hp.push {cls:=.type "dict_keyiterator",data:=.fields #[.ref l1,.int 0 0,.int kvs.length 0,.int ep 0] },g,d,tk,os⟩) l2 ys:=aef cx _
  wp_walk using wpAny_pyIter_dict hs hM,ade zx
  exact⟨_,rfl,h⟩
section
variable {prog:Program}{w:World}{A:Around}{E:Value->Shared->Prop}{s:Shared}
theorem sx(h:Heap)(o:Obj)(l2:Addr) (hg:(pC h o).get? h.objs.size=some o):IsZip (ir h o l2) (h.objs.size+4) (h.objs.size+2) (h.objs.size+3) .none/\IsPair (ir h o l2) (h.objs.size+2) (.ref h.objs.size) (.ref (h.objs.size+1))/\IsPair (ir h o l2) (h.objs.size+3) .none .none/\
 (ir h o l2).get? h.objs.size=some o/\(ir h o l2).IsTupleIter (h.objs.size+1) l2 0/\(∀c q,h.get? c=some q->(ir h o l2).get? c=some q)/\(wd h o l2).objs.size=h.objs.size+4:=by
 have z1:(pC h o).objs.size=h.objs.size+1:=abE ..
 have z2:(De h o l2).objs.size=h.objs.size+2:=by rw[abE,z1]
 have z3:(Df h o l2).objs.size=h.objs.size+3:=by rw[abE,z2]
 have z4:(wd h o l2).objs.size=h.objs.size+4:=by rw[abE,z3]
 have g5:(ir h o l2).get? (wd h o l2).objs.size=some _:=aaq _ rfl
 have g4:(ir h o l2).get? (Df h o l2).objs.size=some _:=aac _ (aaq _ rfl)
 have g3:(ir h o l2).get? (De h o l2).objs.size=some _:=aac _ (aac _ (aaq _ rfl))
 have g2:(ir h o l2).get? (pC h o).objs.size=some _:=aac _ (aac _ (aac _ (aaq _ rfl)))
 have g1:(ir h o l2).get? h.objs.size=some _:=aac _ (aac _ (aac _ (aac _ hg)))
 rw[z2,z3,z4]at g5
 rw[z1,z2]at g3
 rw[z3]at g4
 rw[z1]at g2
 exact⟨g5,g3,g4,g1,⟨_,g2,rfl,rfl⟩,λc q x=>aac _ (aac _ (aac _ (aac _ (aac _ x)))),z4⟩
end
end PySem
namespace L2
open PySem PySem.Spec PyProof.Rows
section
variable {X:Cx}{pins:List (Addr×Obj)}{σ:St}{H:Hp}{s:Shared}{h':Heap}
theorem Inv.BF{t':Nat}{fp:List Addr}{T:Addr}{ob:HO}(I:Inv X pins σ H s)(hf:∀b∈fp,iK X pins H b)(k:∀b o,b∉fp->s.heap.get? b=some o->h'.get? b=some o)
 (hT:s.heap.objs.size<=T) (new:bz X.prog X.w (upd H T ob) h' T ob):Inv X pins σ (upd H T ob) {s with heap:=h',toks:=t'}:=by
 have xq:∀b u,H b=some u->b∉fp:=λb u e z=>by rw[(hf b z).1]at e;cases e
 have pW:H T=none:=I.hok.fresh hT
 have neT:∀b u,H b=some u->b≠T:=λb u e z=>by rw[z,pW]at e;cases e
 have L7:∀b o,s.heap.get? b=some o->b≠T:=λb o e=>aaw (aaV (aam e) hT)
 refine I.step (g':=s.gens) (d':=s.drawn) (ch:=fp) (λb hb=>⟨(hf b hb).2.2.2.1,(hf b hb).2.1,(hf b hb).2.2.2.2.1,(hf b hb).2.2.2.2.2⟩) (λb o _ _ hc e _=>k b o hc e) (λb o _ _ hc e _=>⟨o.slots,k b o hc e⟩)
  (λb o _ e n=>by rw[ah (L7 b o e)];exact n) (λb o hc e=>⟨o,k b o hc e⟩) (λb ys e=>by rw[ah (neT b _ e)];exact e) (λb o u e=>by rw[ah (neT b _ e)];exact e)
  (λb ps e=>⟨#[],by rw[ah (neT b _ e),e];simp⟩) (λm hm=>?_) (λb u e=>?_) I.bare
 . obtain⟨o,es,ep,ho,r⟩:=hm
   exact⟨o,es,ep,k _ o (λz=>(hf _ z).2.1 rfl) ho,r⟩
 . by_cases hb:b=T
   . subst hb
     rw[ae]at e
     cases e
     exact new
   . rw[ah hb]at e
     refine(I.hok b u e).dw (λc v hc q=>k c v ?_ q) (λc q=>by rw[ah (neT c _ q)];exact q) λc ys q=>by rw[ah (neT c _ q)];exact q
     rcases hc with z|z
     . rw[z];exact xq b u e
     . exact xq c _ z
end
theorem zC:∀{ks:List Key}{ys:List V}{its:List Value},Vals ys its->KV (ks.zip ys) (ks.zip its)
 | [],_,_,_=>.nil
 | _::_,_,_,.nil=>.nil
 | k::ks,_,_,.cons h t=>.cons ⟨rfl,h⟩ (zC t)
section
variable {X:Cx}
noncomputable def QL(K:W.Frag)(ta:TA):TE:=λσ H Q=>ta σ H λvs H1=>∃(a b:Addr) (ks:List Key) (ys:List V),vs=[.ref a,.ref b]/\(aq K H1 a (ks.map kV)\/∃kvs,Rd H1 a (.dK kvs)/\ks=kvs.map (·.1))/\aH K H1 b ys/\ks.length<=ys.length/\
 ∀d,H1 d=none->Q (.ref d) (upd H1 d (.dK (bE [] (ks.zip ys))))
theorem Ky{pins:List (Addr×Obj)}{σ:St}{H1:Hp}{s1:Shared}{a b:Addr}{ks:List Key}{ys:List V}{Q:VK}(hc:X.calm=true) (I1:Inv X pins σ H1 s1) (hk:aq X.K H1 a (ks.map kV)\/∃kvs,Rd H1 a (.dK kvs)/\ks=kvs.map (·.1)) (hb:aH X.K H1 b ys) (hl:ks.length<=ys.length)
 (q:∀d,H1 d=none->Q (.ref d) (upd H1 d (.dK (bE [] (ks.zip ys))))) :
 wpAny (model X.prog X.w) X.A (call (.type "zip") [.ref a,.ref b]) (λv s2=>wpAny (model X.prog X.w) X.A (call (.type "dict") [v]) (EP X pins σ Q) X.xe s2) X.xe s1:=by
 obtain⟨its,rv,⟨ot,et,ct,nt,dt⟩,WM⟩:=I1.tuple hb
 have BG:s1.heap.IsTuple b its.toArray:=⟨ot,et,ct,nt,dt⟩
 have hlen:ys.length=its.length:=rv.length
 have rest:∀(o:Obj) (m1:List Addr) (P1:Nat->Value->Prop) (lD:Nat->Heap->Prop),(pC s1.heap o).get? s1.heap.objs.size=some o->(∀c∈m1,c<s1.heap.objs.size)->gO X.prog X.w s1.heap.objs.size m1 ks.length P1 lD->lD 0 (ir s1.heap o b)->
  (∀(i:Nat) (x:Value) (k:Key),ks[i]?=some k->P1 i x->(aO X.prog X.w).is k x=true)->
  wpAny (model X.prog X.w) X.A (call (.type "dict") [.ref (s1.heap.objs.size+4)]) (EP X pins σ Q) X.xe {s1 with heap:=ir s1.heap o b}:=by
  intro o m1 P1 lD hg RS D1 h1 hP
  obtain⟨g1,g2,g3,g4,g5,kk,g6⟩:=sx s1.heap o b hg
  have jM:b<s1.heap.objs.size:=aam et
  have I2:Inv X pins σ H1 {s1 with heap:=ir s1.heap o b}:=I1.kept (t':=s1.toks) kk
  have zD:∀c∈[s1.heap.objs.size+4,s1.heap.objs.size+2,s1.heap.objs.size+3,s1.heap.objs.size,s1.heap.objs.size+1],s1.heap.objs.size<=c:=λc bY=>by
   simp only[aal,aaH,abF]at bY
   rcases bY with rfl|rfl|rfl|rfl|rfl
   . exact abm _ _
   . exact abm _ _
   . exact abm _ _
   . exact aah _
   . exact abm _ _
  have out:∀c,c<s1.heap.objs.size->c∉[s1.heap.objs.size+4,s1.heap.objs.size+2,s1.heap.objs.size+3,s1.heap.objs.size,s1.heap.objs.size+1]:=λc c8 hm=>abT _ (aaV c8 (zD c hm))
  have hsz:s1.heap.objs.size<=(ir s1.heap o b).objs.size:=by rw[abE,g6];exact aao (abm _ 4) (abm _ 1)
  have D2:gO X.prog X.w (s1.heap.objs.size+1) [b] its.toArray.size (λi x=>its.toArray[i]?=some x) (λi h=>gh true h (s1.heap.objs.size+1) b i/\jf true h b its.toArray):=nA (λe=>by rw[e]at jM;exact absurd jM (Nat.not_lt.mpr (abm _ _)))
  have l1:(ks.zip its).length=ks.length:=by rw[abn];omega
  have l3:(ks.zip its).length<=sizeLine:=by rw[l1];omega
  refine qY (knd:=aO X.prog X.w) (kvs:=ks.zip its) (A:=X.A) (I1.ok.hd hc) (by simp) (λc bY=>out c (RS c bY)) (λc bY=>out c (by rw[aai.mp bY];exact jM)) (λc bY=>aaV (RS c bY) hsz) (λc bY=>aaV (by rw[aai.mp bY];exact jM) hsz) D1 D2 l1 (by rw[aar];omega)
   (λi x y kv e p1 p2=>?_) l3 g1 g2 ⟨_,_,g3⟩ h1 ⟨g5,⟨ot,kk _ _ et,ct,nt,dt⟩⟩ λh' tk dd M4=>?_
  . have hi:i<(ks.zip its).length:=(aas.mp e).1
    have e2:kv=(ks[i]'(by omega),its[i]'(by omega)):=by
     rw[aad hi,aev]at e
     exact(aaS e).symm
    subst e2
    refine⟨hP i x _ (aad _) p1,?_⟩
    have p3:its[i]?=some y:=by simpa using p2
    rw[aad (by omega)]at p3
    exact(aaS p3).symm
  . refine⟨.ref (ir s1.heap o b).objs.size,_,I2.BF (fp:=[s1.heap.objs.size+4,s1.heap.objs.size+2,s1.heap.objs.size+3,s1.heap.objs.size,s1.heap.objs.size+1]) (ob:=.dK (bE [] (ks.zip ys))) (λc bY=>I1.nL (zD c bY) (I1.hok.fresh (zD c bY))) (λc q' bY e=>M4 c q' bY e) (aah _) (lp ?_ (abB.mpr (aau (aaw I2.big))) (KV.merge (zC rv) .nil) dd),rfl,q _ (I2.hok.fresh (aah _))⟩
    have:=iz (ks.zip ys) []
    rw[abn]at this
    simp at this
    omega
 rcases hk with hk|⟨kvs,hk,rfl⟩
 . obtain⟨lW,rj,pl,_⟩:=I1.list hk
   have eP:=pl.isList
   have jg:a<s1.heap.objs.size:=by obtain⟨_,e,_⟩:=eP;exact aam e
   have BH:ks.length=lW.length:=by have:=rj.length;rw[aaa]at this;exact this
   refine callType_new aeN (by decide) (ady _ _) (adR _ _) (λobj=>acU obj _ _) adS (ve a b lW.toArray its.toArray) ⟨eP,BG,?_⟩
   have hg:(pC s1.heap (kY a)).get? s1.heap.objs.size=some (kY a):=aaq _ rfl
   obtain⟨g1,g2,g3,g4,g5,kk,g6⟩:=sx s1.heap (kY a) b hg
   show _/\_
   rw[g6]
   have D1:gO X.prog X.w s1.heap.objs.size [a] lW.toArray.size (λi x=>lW.toArray[i]?=some x) (λi h=>gh false h s1.heap.objs.size a i/\jf false h a lW.toArray):=nA (aaw jg)
   have ez:lW.toArray.size=ks.length:=by rw[BH];exact aar ..
   rw[ez]at D1
   obtain⟨ol,el,rl⟩:=eP
   refine⟨⟨_,g1,rfl⟩,rest (kY a) [a] _ _ hg (λc bY=>by rw[aai.mp bY];exact jg) D1 ⟨⟨_,g4,rfl,rfl⟩,⟨ol,kk _ _ el,rl⟩⟩ λi x k e p=>?_⟩
   obtain⟨u,hu,ru⟩:=rj.get (x:=kV k) (by rw[aan,e];rfl)
   have p3:lW[i]?=some x:=by simpa using p
   rw[hu]at p3
   cases p3
   exact kU ru
 . obtain⟨hz,hs,vs,rel,dd⟩:=iX I1.hok hk
   obtain⟨ep,da⟩:=dd.dictAt
   have jg:=da.lt_size
   have BH:kvs.length=vs.length:=rel.length
   refine callType_newIn aeN (by decide) (ady _ _) (adR _ _) (λobj=>acU obj _ _) adS (Dg (aO X.prog X.w) a b vs ep its.toArray hs) ⟨da,BG,?_⟩
   have hg:(pC s1.heap (sv a vs.length ep)).get? s1.heap.objs.size=some (sv a vs.length ep):=aaq _ rfl
   obtain⟨g1,g2,g3,g4,g5,kk,g6⟩:=sx s1.heap (sv a vs.length ep) b hg
   show _/\_
   rw[g6]
   have D1:gO X.prog X.w s1.heap.objs.size [a] vs.length (λi x=>∃kv,vs[i]?=some kv/\(aO X.prog X.w).is kv.1 x=true) (λi h=>h.IsKeyIter s1.heap.objs.size a i vs.length ep/\h.DictAt (aO X.prog X.w) a vs ep):=C9 (aaw jg)
   have WN:gO X.prog X.w s1.heap.objs.size [a] (kvs.map (·.1)).length (λi x=>∃kv,vs[i]?=some kv/\(aO X.prog X.w).is kv.1 x=true) (λi h=>h.IsKeyIter s1.heap.objs.size a i vs.length ep/\h.DictAt (aO X.prog X.w) a vs ep):=by rw[aaa,BH];exact D1
   refine⟨⟨_,g1,rfl⟩,rest (sv a vs.length ep) [a] _ _ hg (λc bY=>by rw[aai.mp bY];exact jg) WN ⟨⟨_,g4,rfl,rfl⟩,da.keep kk⟩ λi x k e p=>?_⟩
   obtain⟨kv,e1,e2⟩:=p
   rw[aan]at e
   cases e3:kvs[i]? with
   | none=>rw[e3]at e;cases e
   | some p'=>
    rw[e3]at e
    have hq:=(jq rel e3 e1).1
    have kc:k=p'.1:=(aaS e).symm
    rw[kc,hq]
    exact e2
theorem Kz{a b:Expr}{ta:TA}{p1 p2 pos mN:Pos}(M5:Gl X "dict")(M6:X.mg "dict" = none)(M7:Gl X "zip")(M8:X.mg "zip" = none)(hc:X.calm=true)(ha:PA X [a,b] ta)
 (hs:starEach [Expr.Call (.Name "zip" p2) [a,b] [] mN] X.env=(false,eval (Expr.Call (.Name "zip" p2) [a,b] [] mN) X.env)::starEach [] X.env:=by rfl) (gg:(backTo pos (starEach [] X.env)).any (·.1)=false:=by rfl)
 (i8:starEach [a,b] X.env=(false,eval a X.env)::starEach [b] X.env:=by rfl) (gk:(backTo mN (starEach [b] X.env)).any (·.1)=false:=by rfl) :
 PE X (.Call (.Name "dict" p1) [.Call (.Name "zip" p2) [a,b] [] mN] [] pos) (QL X.K ta):=by
 intro pins s σ H Q I h
 refine abO (iy I M5 M6 aaQ ?_ (by decide) (by decide))
 refine abi ?_ hs gg
 rw[hs]
 show wpAny _ _ (spliced ((false,eval _ X.env)::backTo pos (starEach [] X.env))) _ _ s
 refine aby ?_
 refine Call_ (iy I M7 M8 boot_zip (abi (aC (ha mN pins s σ H _ I h) λus s1 ⟨vs,H1,I1,r1,q1⟩=>?_) i8 gk))
 obtain⟨l,m,ks,ys,e,hk,hb,hl,q⟩:=q1
 subst e
 obtain⟨u,v,rfl,ru,rv⟩:=vals2 r1
 cases(show u=Value.ref l from ru)
 cases(show v=Value.ref m from rv)
 exact aC (Ky hc I1 hk hb hl q) λv s2 hv=>ach hv
end
end L2
namespace PySem
open Builtin Builtin.Str
noncomputable def iP(c:Nat):List Nat->List (List Nat)
 | []=>[[]]
 | x::r=>if x=c then []::iP c r else match iP c r with
  | []=>[[x]]
  | h::t=>(x::h)::t
theorem we(c:Nat):∀l,∃h t,iP c l=h::t
 | []=>⟨[],[],rfl⟩
 | x::r=>by
  obtain⟨h,t,e⟩:=we c r
  by_cases hx:x=c
  . exact⟨[],iP c r,by simp[iP,hx]⟩
  . exact⟨x::h,t,by simp[iP,hx,e]⟩
theorem qZ{c:Nat} : ∀{l:List Nat},c∉l->iP c l=[l]
 | [],_=>rfl
 | x::r,h=>by
  have h1:¬ x=c:=λz=>h (by simp[z])
  have h2:=qZ (l:=r) λz=>h (aaz _ z)
  simp[iP,h1,h2]
theorem BI{c:Nat}{r:List Nat} : ∀{l:List Nat},c∉l->iP c (l++c::r)=l::iP c r
 | [],_=>by simp[iP]
 | x::l,h=>by
  have h1:¬ x=c:=λz=>h (by simp[z])
  have h2:=BI (r:=r) (l:=l) λz=>h (aaz _ z)
  simp[iP,h1,h2]
noncomputable def eF(c:Nat)(L:List Nat)(a k:Nat):List Nat:=(List.range' a k).filter λi=>decide (L[i]?=some c)
theorem rf{z:Str}{c:Nat}{limit:Nat} : ∀(k a:Nat) (acc:Array Nat) (free:Nat),free<=a->acc.size+k<=limit->
 (forIn (List.range' a k) (acc,free) (StrLaws.occBody z ⟨#[c]⟩ z.length limit)).run.fst.toList=acc.toList++eF c z.cps.toList a k
 | 0,a,acc,free,_,_=>by simp[eF]
 | k+1,a,acc,free,h1,h2=>by
  rw[acZ,abQ]
  unfold StrLaws.occBody
  have key:=StrLaws.subAt_one z c a
  by_cases hc:z.cps.toList[a]?=some c
  . have k1:=key.mpr hc
    rw[aa4 ⟨⟨⟨(by show acc.size<limit;omega),h1⟩,k1.1⟩,k1.2⟩]
    have ih:=rf (z:=z) (c:=c) (limit:=limit) k (a+1) (acc.push a) (a+(⟨#[c]⟩:Str).length) (by show a+1<=a+1;exact aah _) (by rw[Array.size_push];omega)
    refine ih.trans ?_
    have hs:eF c z.cps.toList a (k+1)=a::eF c z.cps.toList (a+1) k:=by
     unfold eF
     rw[acZ,adB,aa4 (aaU hc)]
    rw[hs]
    simp
  . rw[aaY (λh=>hc (key.mp ⟨h.1.2,h.2⟩))]
    have ih:=rf (z:=z) (c:=c) (limit:=limit) k (a+1) acc free (by omega) (by omega)
    refine ih.trans ?_
    have hs:eF c z.cps.toList a (k+1)=eF c z.cps.toList (a+1) k:=by
     unfold eF
     rw[acZ,adB,aaY (by simpa using hc)]
    rw[hs]
theorem Fc{c:Nat}{L:List Nat}{n:Nat}(h:L.length=n)(a k:Nat):eF c L a (k+1)=eF c L a k\/a+k<n:=by
 by_cases hk:a+k<n
 . exact .inr hk
 . refine .inl ?_
   unfold eF
   have e:List.range' a (k+1)=List.range' a k++[a+k]:=by simpa using List.range'_concat (s:=a) (n:=k) (step:=1)
   rw[e,abz]
   have e2:L[a+k]?=none:=ab6 (by omega)
   simp[e2]
theorem M9(z:Str)(c:Nat):occurrences z ⟨#[c]⟩ 0 z.length (z.length+1)=eF c z.cps.toList 0 z.length:=by
 rw[StrLaws.occ_eq]
 have h:=rf (z:=z) (c:=c) (limit:=z.length+1) (z.length+1-0) 0 #[] 0 (aah _) (by simp)
 refine h.trans ?_
 have hn:z.cps.toList.length=z.length:=by simp[Str.length]
 rcases Fc (c:=c) hn 0 z.length with e|e
 . simpa using e
 . omega
noncomputable def cutAt(L:List Nat)(s:Nat)(zE:List Nat)(n:Nat):List (List Nat):=((s::zE.map (· + 1)).zip (zE++[n])).map λp=>(L.drop p.1).take (p.2-p.1)
theorem t8{c:Nat}{L:List Nat} : ∀(k a s:Nat),a+k=L.length->s<=a->∀h t,iP c (L.drop a)=h::t->cutAt L s (eF c L a k) L.length=((L.drop s).take (a-s)++h)::t
 | 0,a,s,hk,hs,h,t,e=>by
  have:L.drop a=[]:=List.drop_eq_nil_of_le (by omega)
  rw[this]at e
  simp[iP]at e
  obtain⟨rfl,rfl⟩:=e
  have ha:a=L.length:=by omega
  subst ha
  simp[cutAt,eF]
 | k+1,a,s,hk,hs,h,t,e=>by
  have ha:a<L.length:=by omega
  rw[ab4 ha]at e
  obtain⟨h',t',e'⟩:=we c (L.drop (a+1))
  by_cases hc:L[a]=c
  . have lj:eF c L a (k+1)=a::eF c L (a+1) k:=by
     unfold eF
     rw[acZ,adB,aa4 (by simp[aad ha,hc])]
    have ih:=t8 (c:=c) (L:=L) k (a+1) (a+1) (by omega) (aah _) h' t' e'
    rw[iP,aa4 hc,e']at e
    cases e
    have e3:cutAt L s (a::eF c L (a+1) k) L.length=(L.drop s).take (a-s)::cutAt L (a+1) (eF c L (a+1) k) L.length:=rfl
    rw[lj,e3,ih]
    simp
  . have lj:eF c L a (k+1)=eF c L (a+1) k:=by
     unfold eF
     rw[acZ,adB,aaY (by simp[aad ha,hc])]
    have ih:=t8 (c:=c) (L:=L) k (a+1) s (by omega) (by omega) h' t' e'
    rw[iP,aaY hc,e']at e
    cases e
    rw[lj,ih]
    have e4:(L.drop s).take (a+1-s)=(L.drop s).take (a-s)++[L[a]]:=by
     have e5:a+1-s=(a-s)+1:=by omega
     rw[e5,ae4]
     have e6:(L.drop s)[a-s]?=some L[a]:=by
      rw[List.getElem?_drop,show s+(a-s)=a by omega,aad ha]
     rw[e6]
     rfl
    rw[e4]
    simp
noncomputable def BJ(l:List Nat):Str:=⟨l.toArray⟩
theorem Fe(z:Str)(zE:List Nat):partsBetween z zE 1=(cutAt z.cps.toList 0 zE z.length).map BJ:=by
 unfold partsBetween cutAt
 rw[aa1]
 refine ab2 λp _=>?_
 show strSub z p.1 p.2=BJ _
 unfold strSub BJ
 congr 1
 apply aes.mp
 simp[Array.toList_extract,List.extract_eq_take_drop]
end PySem
namespace L2
open PySem PySem.Spec PyProof.Rows
section
variable {X:Cx}
noncomputable def KA:V->List V->Hp->VK->Prop:=λx vs H Q=>∃z y,x=.str z/\vs=[.str y]/\Q (.bl (decide (0+y.length<=z.length) && Builtin.Str.subAt z y 0)) H
theorem rg:sM X "str.startswith" KA:=by
 intro pins s σ H x vs v us Q I rx rv h
 obtain⟨z,y,rfl,rfl,q⟩:=h
 obtain⟨t,rfl⟩:=rx
 obtain⟨u,rfl,tu,rfl⟩:=rv.one
 exact call_gives acL (ac4 _ _ _) F.entry_str_startswith (F.args_str_startswith_2 _ _) (gives_str_startswith z y t tu) ⟨.bl _,H,I,rfl,q⟩
noncomputable def UM:V->Option Int->Option Int->Hp->VK->Prop:=λx lo hi H Q=>∃z j,x=.str z/\lo=some j/\hi=none/\z.length<=sizeLine/\Q (.str (Txt.slice z (some j) none)) H
theorem wg:Eg X UM:=by
 intro pins s σ H x v vl vu lo hi sl Q I rx hs pl pu h
 obtain⟨z,j,rfl,rfl,rfl,hz,q⟩:=h
 obtain⟨t,rfl⟩:=rx
 cases pu
 cases pl with
 | int _ uj=>
  refine⟨"str",_,F.slot_str_getitem.lookup,ac4 _ _ _,aej (l:=some (j,uj)) (u:=none) (st:=none) hs rfl
   (post_val_or_str ⟨aao (Txt.slice_le z _ _) hz,λt' k=>⟨.str (Txt.slice z (some j) none),H,I.tok k,⟨t',rfl⟩,q⟩⟩)⟩
end
end L2
namespace PySem
open Builtin Builtin.Str
theorem pD(z:Str)(c:Nat):(decide (0+(⟨#[c]⟩:Str).length<=z.length) && subAt z ⟨#[c]⟩ 0)=decide (z.cps.toList[0]?=some c):=by
 rw[abH,abu,abb,abb]
 exact StrLaws.subAt_one z c 0
theorem Hf(n:Nat):strSliceIndices (some 1) none 1 n=(List.range (n-1)).map (· + 1):=by
 cases n with
 | zero=>rfl
 | succ n=>
  have h1:¬ ((1:Int)<0):=by decide
  have e1:max (0:Int) (min 1 ((n+1:Nat):Int))=1:=by omega
  simp only[strSliceIndices,sliceRange,h1,acX,show ((1:Int)>0)=True from by simp,adk,e1]
  have e2:(if (1:Int)<((n+1:Nat):Int) then (((n+1:Nat):Int)-1+1-1) / 1 else 0).toNat=n:=by
   split
   . rw[Int.ediv_one];omega
   . omega
  rw[e2]
  show _=(List.range n).map (· + 1)
  refine ab2 λk _=>?_
  omega
theorem Ff:∀(l:List Nat) (L:List Nat),((List.range (L.length-1)).map (· + 1)).filterMap (λi=>L[i]?)=L.tail:=by
 intro _ L
 cases L with
 | nil=>rfl
 | cons x r=>
  show ((List.range r.length).map (· + 1)).filterMap (λi=>(x::r)[i]?)=r
  rw[List.filterMap_map]
  show (List.range r.length).filterMap (λi=>(x::r)[i+1]?)=r
  simp only[List.getElem?_cons_succ]
  have k:=Gen.sQ r r.length (aah _)
  rw[abp]at k
  exact k
theorem pE(z:Str):(Txt.slice z (some 1) none).cps.toList=z.cps.toList.tail:=by
 unfold Txt.slice
 rw[Hf]
 split
 . rename_i h
   have h2:((List.range (z.length-1)).map (· + 1)).length=z.length:=by simpa using h
   rw[aaa,acR]at h2
   have h3:z.length=0:=by omega
   have h4:z.cps.toList=[]:=abC.mp (by simpa[Str.length]using h3)
   rw[h4]
   rfl
 . have e:z.length=z.cps.toList.length:=by simp[Str.length]
   rw[e]
   have k:=Ff [] z.cps.toList
   simpa using k
end PySem
namespace L2
open PySem PySem.Spec PyProof.Rows
section
variable {X:Cx}{pins:List (Addr×Obj)}{σ:St}{H:Hp}{s:Shared}{a:Addr}{kvs:List (Key×V)}{k:Key}{v:V}{u:Value}{E:Value->Shared->Prop}
end
section
variable {X:Cx}{o i:Expr}{pos:Pos}{td ty:TE}
end
section
variable {X:Cx}
noncomputable def QM(K:W.Frag)(ta:TA):TI:=λσ H R=>ta σ H λvs H1=>∃a b,vs=[.ref a,.ref b]/\(∃xs,aq K H1 a xs)/\(∃ys,aH K H1 b ys)/\R (Itm K false true a b) H1
theorem KC{es:List Expr}{kk:Nat}{pp:Pos}{a b:Expr}{ta:TA}{p pos:Pos}(hg:Gl X "zip")(hm:X.mg "zip" = none)(ha:PA X [a,b] ta) (hs:starEach [a,b] X.env=(false,eval a X.env)::starEach [b] X.env:=by rfl) (hp:(backTo pos (starEach [b] X.env)).any (·.1)=false:=by rfl) :
 PI X (.Tuple es kk pp) (.Call (.Name "zip" p) [a,b] [] pos) (QM X.K ta):=by
 intro pins s σ H R I h
 refine Call_ (iy I hg hm boot_zip (abi (aC (ha pos pins s σ H _ I h) λus s1 ⟨vs,H1,I1,r1,q1⟩=>?_) hs hp))
 obtain⟨l,m,e,⟨xs,hx⟩,⟨ys,hy⟩,q⟩:=q1
 subst e
 obtain⟨u,v,rfl,ru,rv⟩:=vals2 r1
 cases(show u=Value.ref l from ru)
 cases(show v=Value.ref m from rv)
 obtain⟨its,_,p1,_⟩:=I1.zk (tp:=false) hx
 obtain⟨its',_,p2,_⟩:=I1.zk (tp:=true) hy
 refine callType_new aeN (by decide) (ady _ _) (adR _ _) (λobj=>acU obj _ _) adS (ve l m its.toArray its'.toArray) ⟨p1,p2,?_⟩
 have L9:(pC s1.heap (kY l)).get? s1.heap.objs.size=some (kY l):=aaq _ rfl
 obtain⟨a1,a2,a3,a4,a5,WO,g6⟩:=sx s1.heap (kY l) m L9
 show _/\_
 rw[g6]
 refine⟨⟨_,a1,rfl⟩,?_⟩
 refine adz a1 ?_
 have I2:Inv X pins σ H1 {s1 with heap:=ir s1.heap (kY l) m}:=I1.kept (t':=s1.toks) WO
 refine⟨_,_,_,_,H1,rfl,I2,BD (tp:=false) (tq:=true) (a:=l) (b:=m) (z:=s1.heap.objs.size+4) (TI:=s1.heap.objs.size+2) (TO:=s1.heap.objs.size+3) (i1:=s1.heap.objs.size) (i2:=s1.heap.objs.size+1) ?_,⟨a1,a2,⟨_,_,a3⟩,⟨_,a4,rfl,rfl⟩,a5⟩,λb hb=>?_,q⟩
 . simp
 . have j4:s1.heap.objs.size<=b:=by
    simp only[aal,aaH,abF]at hb
    rcases hb with rfl|rfl|rfl|rfl|rfl
    . exact abm _ _
    . exact abm _ _
    . exact abm _ _
    . exact aah _
    . exact abm _ _
   exact I1.nL j4 (I1.hok.fresh j4)
theorem BK{K:W.Frag}{tp tq:Bool}{a b:Addr}{xs ys:List V}{g:TG}{tb:TS}{D:Ends}{σ:St}{H:Hp}(hxy:xs.length<=ys.length)(Pv:Nat->St->Hp->Prop)(h0:Pv 0 σ H)(hl:∀i σ H,i<=xs.length->Pv i σ H->ZK K tp H a xs/\ZK K tq H b ys)
 (hs:∀i x y T σ H,xs[i]?=some x->ys[i]?=some y->H T=none->Pv i σ H->g (.ref T) σ (upd H T (.tup [x,y])) λeU H2=>tb {D with nx:=Pv (i+1),ct:=Pv (i+1),bk:=D.nx} eU H2) (hd:∀σ H,Pv xs.length σ H->D.nx σ H) :
 ∃W:Nat->Nat->St->Hp->Prop,(∃m,W 0 m σ H)/\∀i m σ H,W i m σ H->
  ((Itm K tp tq a b).stop i H/\D.nx σ H)\/((Itm K tp tq a b).go i H/\∃N:St->Hp->Prop,(∀bo H',N bo H'->∃m',m'<m/\W (i+1) m' bo H')/\∀x H',(Itm K tp tq a b).yld i H x H'->g x σ H' λeU H2=>tb {D with nx:=N,ct:=N,bk:=D.nx} eU H2):=by
 refine⟨λi m σ H=>m=xs.length-i/\i<=xs.length/\Pv i σ H,⟨xs.length,by simp,abM _,h0⟩,?_⟩
 rintro i m σ H ⟨rfl,hi,p⟩
 obtain⟨q1,q2⟩:=hl i σ H hi p
 by_cases c8:i<xs.length
 . refine .inr ⟨⟨xs,ys,xs[i],ys[i]'(by omega),q1,q2,aad c8,aad (by omega)⟩,Pv (i+1),λbo H' p'=>⟨xs.length-(i+1),by omega,rfl,c8,p'⟩,λx H' y=>?_⟩
   obtain⟨T,v,u,rfl,hT,rfl,hv,hu⟩:=y
   exact hs i v u T σ H (hv xs q1) (hu ys q2) hT p
 . refine .inl ⟨⟨xs,q1,by omega⟩,?_⟩
   obtain rfl:i=xs.length:=by omega
   exact hd σ H p
noncomputable def KD:V->List V->Hp->VK->Prop:=λx vs H Q=>∃d kvs,x=.ref d/\vs=[]/\H d=some (.dK kvs)/\Q .aM (upd H d (.dK []))
theorem xQ:sM X "dict.clear" KD:=by
 intro pins s σ H x vs v us Q I rx rv h
 obtain⟨d,kvs,rfl,rfl,hd,q⟩:=h
 cases(show v=Value.ref d from rx)
 cases rv.zero
 exact Kc I hd λs' I'=>⟨.aM,_,I',rfl,q⟩
theorem Hh{d:Addr}{o:Obj}{kvs:List (Key×V)}{g:TG}{tb:TS}{D:Ends}{σ:St}{H:Hp}(Pv:Nat->St->Hp->Prop) (h0:Pv 0 σ H) (hl:∀i σ H,i<=kvs.length->Pv i σ H->H d=some (.bK o (.dK kvs)))
 (hs:∀i kv σ H,kvs[i]?=some kv->Pv i σ H->g (kV kv.1) σ H λeU H2=>tb {D with nx:=Pv (i+1),ct:=Pv (i+1),bk:=D.nx} eU H2) (hd:∀σ H,Pv kvs.length σ H->D.nx σ H) :
 ∃W:Nat->Nat->St->Hp->Prop,(∃m,W 0 m σ H)/\∀i m σ H,W i m σ H->
  ((BA d o kvs).stop i H/\D.nx σ H)\/((BA d o kvs).go i H/\∃N:St->Hp->Prop,(∀bo H',N bo H'->∃m',m'<m/\W (i+1) m' bo H')/\∀x H',(BA d o kvs).yld i H x H'->g x σ H' λeU H2=>tb {D with nx:=N,ct:=N,bk:=D.nx} eU H2):=by
 refine⟨λi m σ H=>m=kvs.length-i/\i<=kvs.length/\Pv i σ H,⟨kvs.length,by simp,abM _,h0⟩,?_⟩
 rintro i m σ H ⟨rfl,hi,p⟩
 have q:=hl i σ H hi p
 by_cases c8:i<kvs.length
 . refine .inr ⟨⟨q,c8⟩,Pv (i+1),λbo H' p'=>⟨kvs.length-(i+1),by omega,rfl,c8,p'⟩,λx H' y=>?_⟩
   obtain⟨rfl,kv,iO,rfl⟩:=y
   exact hs i kv σ _ iO p
 . obtain rfl:i=kvs.length:=by omega
   exact .inl ⟨⟨q,rfl⟩,hd σ H p⟩
theorem zF:jw X (.type "int") (λxs H Q=>∃z n,xs=[.str z]/\PySem.intText? z=some n/\z.length<=640/\Q (.int n) H):=by
 intro pins s σ H xs us Q I r h
 obtain⟨z,n,rfl,hn,hl,q⟩:=h
 obtain⟨u,rfl,t,rfl⟩:=vals1 r
 exact W.KIN.call_text hn hl ⟨.int n,H,I.tok _,⟨_,rfl⟩,q⟩
noncomputable def QN(K:W.Frag)(ta:TA):TI:=λσ H R=>ta σ H λvs H1=>∃a b,vs=[.ref a,.ref b]/\(∃xs,aq K H1 a xs)/\(∃ys,aq K H1 b ys)/\R (Itm K false false a b) H1
theorem KG{es:List Expr}{kk:Nat}{pp:Pos}{a b:Expr}{ta:TA}{p pos:Pos}(hg:Gl X "zip")(hm:X.mg "zip" = none)(ha:PA X [a,b] ta) (hs:starEach [a,b] X.env=(false,eval a X.env)::starEach [b] X.env:=by rfl) (hp:(backTo pos (starEach [b] X.env)).any (·.1)=false:=by rfl) :
 PI X (.Tuple es kk pp) (.Call (.Name "zip" p) [a,b] [] pos) (QN X.K ta):=by
 intro pins s σ H R I h
 refine Call_ (iy I hg hm boot_zip (abi (aC (ha pos pins s σ H _ I h) λus s1 zq=>?_) hs hp))
 obtain⟨vs,H1,I1,r1,l,m,e,⟨xs,hx⟩,⟨ys,hy⟩,q⟩:=zq
 subst e
 obtain⟨u,v,rfl,ru,rv⟩:=vals2 r1
 cases(show u=Value.ref l from ru)
 cases(show v=Value.ref m from rv)
 obtain⟨its,_,p1,_⟩:=I1.zk (tp:=false) hx
 obtain⟨its',_,p2,_⟩:=I1.zk (tp:=false) hy
 refine BC p1 p2 λh' a1 a2 a3 a4 a5 kk=>?_
 refine adz a1 ?_
 have I2:Inv X pins σ H1 {s1 with heap:=h'}:=I1.kept (t':=s1.toks) kk
 refine⟨_,_,_,_,H1,rfl,I2,BD (tp:=false) (tq:=false) (a:=l) (b:=m) (z:=s1.heap.objs.size+4) (TI:=s1.heap.objs.size+2) (TO:=s1.heap.objs.size+3) (i1:=s1.heap.objs.size) (i2:=s1.heap.objs.size+1) ?_,⟨a1,a2,⟨_,_,a3⟩,a4,a5⟩,λb hb=>?_,q⟩
 . simp
 . have j4:s1.heap.objs.size<=b:=by
    simp only[aal,aaH,abF]at hb
    rcases hb with rfl|rfl|rfl|rfl|rfl
    . exact abm _ _
    . exact abm _ _
    . exact abm _ _
    . exact aah _
    . exact abm _ _
   exact I1.nL j4 (I1.hok.fresh j4)
end
theorem rh{α β:Type}{F:α->β->Prop} : ∀{l₁:List α}{l₂:List β}{i:Nat}{b:β},Paired F l₁ l₂->l₂[i]?=some b->∃a,l₁[i]?=some a/\F a b
 | _,_,_,_,.nil,h=>by simp at h
 | _,_,0,_,.cons h t,e=>⟨_,rfl,by simp at e;subst e;exact h⟩
 | _,_,i+1,_,.cons h t,e=>by
  obtain⟨a,h1,h2⟩:=rh (i:=i) t (by simpa using e)
  exact⟨a,by simpa using h1,h2⟩
section
variable {X:Cx}
noncomputable def UN(K:W.Frag):R2:=λx y H Q=>∃(t l:Addr) (a b:Str) (ts:List Addr) (ps:List (Str×Str)),x=.ref t/\y=.ref l/\H t=some (.tup [.str a,.str b])/\aq K H l (ts.map V.ref)/\Paired (λu p=>H u=some (.tup [.str p.1,.str p.2])) ts ps/\t∉ts/\Q (.bl (decide ((a,b)∈ps))) H
open Classical in
theorem P6(hu:X.A.units+1<cLine):iG X (compareOp .In) (UN X.K):=by
 intro pins s σ H x y v u Q I rx ry h
 obtain⟨t,l,a,b,ts,ps,rfl,rfl,ht,hl,hp,hn,q⟩:=h
 cases(show v=Value.ref t from rx)
 cases(show u=Value.ref l from ry)
 obtain⟨its,rv,pl,hz⟩:=I.list hl
 obtain⟨lW,rt,pt,_⟩:=I.tuple (aH.of ht)
 obtain⟨x1,x2,ej,r1,r2⟩:=vals2 rt
 subst ej
 have at_:∀w,w∈its->∃(d:Addr) (p:Str×Str),w=Value.ref d/\d∈ts/\p∈ps/\H d=some (.tup [.str p.1,.str p.2]):=by
  intro w hw
  obtain⟨i,hi,e⟩:=acj hw
  have hlen:=rv.length
  rw[aaa]at hlen
  have Na:i<ts.length:=by omega
  have cx:=hp.length
  have RT:i<ps.length:=by omega
  obtain⟨w',e1,e2⟩:=rv.get (x:=.ref ts[i]) (by rw[aan,aad Na];rfl)
  rw[aad hi,e]at e1
  cases e1
  obtain⟨d,hd,hD⟩:=rh hp (i:=i) (aad RT)
  rw[aad Na]at hd
  cases hd
  exact⟨ts[i],ps[i],e2,abD Na,abD RT,hD⟩
 refine aeF (λw=>decide (∃d:Addr,w=Value.ref d/\H d=some (.tup [.str a,.str b]))) pl.isList (λw hw=>?_) ⟨.bl _,H,I,rfl,?_⟩
 . obtain⟨d,p,rfl,hd,_,hD⟩:=at_ w (by simpa using hw)
   obtain⟨dts,rd,pd,_⟩:=I.tuple (aH.of hD)
   obtain⟨y1,y2,ed,s1,s2⟩:=vals2 rd
   subst ed
   have h7:d≠t:=λe=>hn (e ▸ hd)
   have key:=SeqAt.EqAt.of_refs h7 (SeqAt.RcAt.tuples (A:=X.A.in1) (s:=s) (e:=λj=>if j=0 then lr (.str p.1) (.str a) else lr (.str p.2) (.str b)) pd pt (by show X.A.units+1<cLine;exact hu) (λj g1 g2=>?_))
   . have ee:((List.range (min [y1,y2].toArray.size [x1,x2].toArray.size)).all (λj=>if j=0 then lr (.str p.1) (.str a) else lr (.str p.2) (.str b)) && [y1,y2].toArray.size == [x1,x2].toArray.size)=decide (∃d':Addr,Value.ref d=Value.ref d'/\H d'=some (.tup [.str a,.str b])):=by
      show ((List.range 2).all _ && true)=_
      rw[Bool.and_true,abH,abb]
      simp only[adT,List.range_zero,abV,List.all_append,aeY,List.all_nil,Bool.and_true,abu,aa4,lr,adJ]
      constructor
      . rintro⟨e1,e2⟩
        refine⟨d,rfl,?_⟩
        rw[hD,e1,show p.2=b by simpa using e2]
      . rintro⟨d',e,h'⟩
        cases e
        rw[hD]at h'
        simp at h'
        exact⟨h'.1,by simpa using h'.2⟩
     rw[ee]at key
     exact key
   . match j,g1 with
     | 0,_=>exact uK s1 r1 rfl rfl
     | 1,_=>exact uK s2 r2 rfl rfl
 . have e:its.toArray.any (λw=>decide (∃d:Addr,w=Value.ref d/\H d=some (.tup [.str a,.str b])))=decide ((a,b)∈ps):=by
    rw[abH,abb]
    rw[show its.toArray.any (λw=>decide (∃d:Addr,w=Value.ref d/\H d=some (.tup [.str a,.str b])))=its.any (λw=>decide (∃d:Addr,w=Value.ref d/\H d=some (.tup [.str a,.str b]))) by simp,aet]
    constructor
    . rintro⟨w,hw,hd⟩
      obtain⟨d,p,rfl,_,WQ,hD⟩:=at_ w hw
      obtain⟨d',e,h'⟩:=aba hd
      cases e
      rw[hD]at h'
      simp at h'
      have:p=(a,b):=Prod.ext h'.1 h'.2
      exact this ▸ WQ
    . intro hm
      obtain⟨i,hi,e⟩:=acj hm
      obtain⟨d,hd,hD⟩:=rh hp (i:=i) (aad hi)
      obtain⟨w',e1,e2⟩:=rv.get (x:=.ref d) (by rw[aan,hd];rfl)
      refine⟨w',aaT e1,aaU ⟨d,e2,?_⟩⟩
      rw[hD,e]
   rw[e]
   exact q
end
theorem rm(h:Runs M Γ p t fs s e s'):s.toks<=s'.toks:=by
 induction h
 all_goals first
  | exact aah _
  | assumption
  | (rename_i a;exact a)
  | (rename_i a b;exact aao a b)
  | (rename_i a;exact aao (ac1 _) a)
theorem Dh(h:Wakes M Γ p g r s res s'):s.toks<=s'.toks:=by
 unfold Wakes at h
 split at h
 . exact h.elim
 . split at h
   . obtain⟨e,s1,h1,_,_,rfl⟩:=h
     have:=rm h1
     exact this
   . obtain⟨_,rfl⟩:=h
     exact aah _
   . obtain⟨_,rfl⟩:=h
     exact aah _
 . obtain⟨e,s1,h1,_,_,rfl⟩:=h
   have:=rm h1
   exact this
 . obtain⟨_,rfl⟩:=h
   exact aah _
 . obtain⟨_,rfl⟩:=h
   exact aah _
theorem wp_toks{α:Type}{M:Model}{Γ : PySem.Ctx} (t:Sem α){Q:α->Pos->Shared->Prop}{E:Value->Pos->Shared->Prop}(n:Nat):∀{p:Pos}{s:Shared},n<=s.toks->Sem.wp M Γ t Q E p s->Sem.wp M Γ t (λa p' s'=>Q a p' s'/\n<=s'.toks) E p s:=by
 induction t with
 | pure a=>exact λhn h=>⟨h,hn⟩
 | raise e=>exact λhn h=>h
 | unsupported|finish|register|yield|fork|await=>exact λ_ h=>h
 | rule tag k ih=>exact λhn h=>ih _ hn h
 | «at» p' k ih=>exact λhn h=>ih _ hn h
 | load a part k ih=>exact λhn ⟨o,e,h⟩=>⟨o,e,ih _ hn h⟩
 | update a part f k ih=>exact λhn ⟨e,h⟩=>⟨e,ih _ hn h⟩
 | loadIfAlive a k ih=>exact λhn h=>ih _ hn h
 | point l k ih=>exact λhn h=>ih _ hn h
 | alloc o k ih=>exact λhn h=>ih _ hn h
 | fresh k ih=>exact λhn h=>ih _ (ae5 hn) h
 | ask k ih=>exact λhn h=>ih _ hn h
 | choose src m k ih=>exact λhn ⟨e,h⟩=>⟨e,ih _ hn h⟩
 | os q l k ih=>exact λhn h=>ih _ hn h
 | call c hd g l k ih=>exact λhn ⟨r,s1,h1,h⟩=>⟨r,s1,h1,ih _ (aao hn (rm h1)) h⟩
 | handled own k ih=>exact λhn h=>ih _ hn h
 | genState g k ih=>exact λhn ⟨st,e,h⟩=>⟨st,e,ih _ hn h⟩
 | newGen c k ih=>exact λhn h=>ih _ hn h
 | resume g r l k ih=>exact λhn ⟨res,s1,h1,h⟩=>⟨res,s1,h1,ih _ (aao hn (Dh h1)) h⟩
 | stack k ih=>exact λhn h=>ih _ hn h
 | thread k ih=>exact λhn h=>ih _ hn h
theorem wpAny_toks{α:Type}{M:Model}{A:Around}{t:Sem α}{Q:α->Shared->Prop}{E:Value->Shared->Prop}{s:Shared}(n:Nat)(hn:n<=s.toks)(h:wpAny M A t Q E s):wpAny M A t (λa s'=>Q a s'/\n<=s'.toks) E s:=
 λΓ p hΓ=>wp_toks t n hn (h Γ p hΓ)
noncomputable def nB(X:Cx)(e:Expr)(t:TE):Prop:=
 ∀(pins:List (Addr×Obj)) (s:Shared) (σ:St) (H:Hp) (Q:VK),Inv X pins σ H s->1<=s.toks->t σ H Q->wpAny (model X.prog X.w) X.A (eval e X.env) (EP X pins σ Q) X.xe s
section
variable {X:Cx}{N:List Str}{js:List (Option Nat)}{scope:Scope}{elt tg iter:Expr}{ifs:List Expr}{pos:Pos}{wi:TI}{g:TG}{ti:TT}{te:TE}
noncomputable def QO(a b:Str)(to:TE):TE:=λσ H Q=>to σ H λx H1=>∃z,x=.str z/\z.length<=1048576/\b.length<=14/\Q (.str (Txt.replace z a b)) H1
theorem Di{o:Expr}{to:TE}{a b:Str}{j1 j2:Nat}{p1 p2 apos c9:Pos}(Bz:(a == b)=false) (ho:PE X o to)
 (l8:attributeBase o "replace" X.env (eval o X.env)=eval o X.env:=by rfl)
 (Gz:((backTo c9 (starEach [.Constant (.str a) j1 p1,.Constant (.str b) j2 p2] X.env)).all (λx=>!x.1) && (backToKw c9 (keywordEach [] X.env)).all (λx=>x.1.isSome)
  && decide (([.Constant (.str a) j1 p1,.Constant (.str b) j2 p2]:List Expr).length+([]:List Keyword).length+(if ([]:List Keyword).isEmpty then 0 else 1)<30))=true:=by rfl)
 (l9:(apos.endLine == c9.line)=true:=by rfl) :
 nB X (.Call (.Attribute o "replace" apos) [.Constant (.str a) j1 p1,.Constant (.str b) j2 p2] [] c9) (QO a b to):=by
 intro pins s σ H Q I ht h
 refine wpAny_Call_method_late l8 Gz l9 rfl (aC (wpAny_toks 1 ht (ho pins s σ H _ I h)) λv s1 ⟨⟨x,H1,I1,r1,z,e,hz,hb,q1⟩,t1⟩=>?_)
 subst e
 obtain⟨t,rfl⟩:=r1
 refine⟨"str", "str.replace",abZ,PySem.F.slot_str_replace,PySem.F.type_str_replace,ac4 s1 z t,(λ_ e=>nomatch e),?_⟩
 refine abY rfl (adG ?_)
 refine aby (adY (k:=j1) (pos:=p1) (aby (adY (k:=j2) (pos:=p2) (ach ?_))))
 refine SC.replaceW (abc t1) (Nat.succ_ne_zero _) (aaw (adw _)) Bz hz hb λt' k=>⟨.str _,H1,?_,⟨_,rfl⟩,q1⟩
 exact I1.tok k
end
noncomputable def Nb(d:Addr)(o:Obj) (kvs:List (Key×V)):It:=
 ⟨λi H=>H d=some (.bK o (.dK kvs))/\i<kvs.length,λi H x H'=>∃T kv,x=.ref T/\H T=none/\kvs[i]?=some kv/\H'=upd H T (.tup [kV kv.1,kv.2]),λi H=>H d=some (.bK o (.dK kvs))/\i=kvs.length⟩
theorem wj:entryFor table "dict_itemiterator.__iter__" = some Builtin.«dict_keyiterator.__iter__»:=entryFor_alias (id':="dict_keyiterator.__iter__") (by kernel_rfl) rfl (by decide+kernel) (by kernel_rfl)
theorem Dj{P:Program}{w:World}{K:W.Frag}{Nc:List Expr}{kk:Nat}{tp:Pos}{d it:Addr}{o:Obj}{es:Array DictEntry}{ep:Nat}{kvs:List (Key×V)}(hd:o.data=.dict es ep) (h7:d≠it):Turn P w K (.Tuple Nc kk tp) (Nb d o kvs) [it] it (λi h=>∃ok ov,IsItemIter h it d i kvs.length ep ok ov) where
 mem:=by simp
 obj:=λi h st b hb=>by
  have e:b=it:=by simpa using hb
  subst e
  obtain⟨ok,ov,e⟩:=st
  exact⟨_,e,λv z=>by
   have z':Data.fields _=Data.cell v:=z
   cases z'⟩
 keep:=λi h h' st k=>let ⟨ok,ov,e⟩:=st; ⟨ok,ov,k it (by simp) _ e⟩
 item:=by
  intro X hP hw hK hc i pins s σ H E I hf st hg
  subst hP hw hK
  obtain⟨g1,g2⟩:=hg
  obtain⟨ho,z,hs,vs,rel,o',wQ,wR,gU,r'⟩:=(show bz X.prog X.w H s.heap d (.bK o (.dK kvs)) from I.hok d _ g1)
  rw[ho]at gU
  cases gU
  have ie:=r'.2.1
  rw[hd]at ie
  cases ie
  have hl:kvs.length=vs.length:=rel.length
  obtain⟨ok,ov,hit⟩:=st
  have gv:i<vs.length:=by omega
  have EY:kvs[i]?=some kvs[i]:=aad g2
  have ev:vs[i]?=some (vs[i].1,vs[i].2):=aad gv
  obtain⟨BB,gH⟩:=jq rel EY ev
  rw[hl]at hit
  refine wpAny_pyNext_items_item (knd:=aO X.prog X.w) hit ⟨o,es,ho,r'⟩ ev λkey h' mw hO hT hsz hk=>?_
  refine⟨.ref s.heap.objs.size,rfl,?_⟩
  refine wpAny_letOwnedTupleGo_items hO λh2 xr i8=>?_
  have Ew:s.heap.objs.size≠it:=abc (aam hit)
  have sP:h2.get? s.heap.objs.size=some {cls:=.type "tuple",data:=.seq #[key,vs[i].2] }:=(i8.2 _ Ew).trans hT
  have I1:Inv X pins σ (upd H s.heap.objs.size (.tup [kV kvs[i].1,kvs[i].2])) {s with heap:=h2,toks:=s.toks}:=I.vU (its:=[key,vs[i].2]) hf (λb o hb e1=>by
   have b1:b≠it:=λz=>hb (by simp[z])
   exact(i8.2 b b1).trans (hk b o b1 e1)) (aah _) ⟨_,sP,rfl,_,rfl⟩ (.cons (by rw[BB];exact yl mw) (.cons gH .nil)) (by show 2<=sizeLine;decide)
  have fr:H s.heap.objs.size=none:=I.hok.fresh (aah _)
  refine⟨.ref s.heap.objs.size,_,I1,rfl,⟨s.heap.objs.size,kvs[i],rfl,fr,EY,rfl⟩,⟨_,_,by rw[hl];exact xr⟩,λb hb=>?_⟩
  have j4:=(hf b hb).1
  have e:b=it:=by simpa using hb
  rw[ah (by rw[e];exact aau Ew)]
  exact j4
 done:=by
  intro X hP hw hK hc i pins s σ H E I hf st hg
  subst hP hw hK
  obtain⟨g1,g2⟩:=hg
  subst g2
  obtain⟨ho,z,hs,vs,rel,o',wQ,wR,gU,r'⟩:=(show bz X.prog X.w H s.heap d (.bK o (.dK kvs)) from I.hok d _ g1)
  rw[ho]at gU
  cases gU
  have ie:=r'.2.1
  rw[hd]at ie
  cases ie
  have hl:kvs.length=vs.length:=rel.length
  obtain⟨ok,ov,hit⟩:=st
  rw[hl]at hit
  exact wpAny_pyNext_items_end (knd:=aO X.prog X.w) (I.ok.hd hc) hit ⟨o,es,ho,r'⟩ (by simp) λh' eb=>⟨rfl,I.vT (t':=s.toks) hf λb o hb e1=>eb b o (λz=>hb (by simp[z])) e1⟩
 self:=λA i s Q E st h=>by
  obtain⟨ok,ov,hit⟩:=st
  have hT:s.TypeIs (.ref it) "dict_itemiterator":=⟨_,hit,rfl⟩
  refine wpAny_pyIter_slot hT adC (abv adC hT wj ?_ (F.args_dict_itemiterator_iter_1 _))
  show wpAny _ _ (ret (.ref it)) _ _ s
  exact aaj ⟨_,rfl, "dict_itemiterator",_,hT,F.slot_dict_itemiterator_next.lookup,h⟩
section
variable {X:Cx}
noncomputable def Nd(td:TE):TI:=λσ H R=>td σ H λx H1=>∃d kvs,x=.ref d/\H1 d=some (.dK kvs)/\∀o,R (Nb d o kvs) (upd H1 d (.bK o (.dK kvs)))
theorem ua{Nc:List Expr}{kk:Nat}{tp:Pos}{o:Expr}{to:TE}{apos c9:Pos}(ho:PE X o to)
 (l8:attributeBase o "items" X.env (eval o X.env)=eval o X.env:=by rfl) (l9:(apos.endLine == c9.line)=true:=by rfl):PI X (.Tuple Nc kk tp) (.Call (.Attribute o "items" apos) [] [] c9) (Nd to):=by
 intro pins s σ H R I h
 refine ac9 l8 l9 (aC (ho pins s σ H _ I h) λv s1 ⟨x,H1,I1,r1,d,kvs,e,hd,q⟩=>?_)
 subst e
 cases(show v=Value.ref d from r1)
 obtain⟨h1,h2⟩:=yM (T:="dict") (x:=.ref d) I1 rfl (.inr (.inr (.inl ⟨rfl,.inl ⟨_,hd⟩⟩)))
 refine⟨"dict", "dict.items",acb,acA,ael,h1,h2,abY rfl (adM ?_)⟩
 obtain⟨z,hm,vs,rel,dd⟩:=r9 I1.hok hd
 obtain⟨ob,es,ep,Fg,r⟩:=id dd
 have hlen:kvs.length=vs.length:=rel.length
 obtain⟨o',gU,I2⟩:=I1.freeze hd
 rw[Fg]at gU
 cases gU
 refine ad1 acA h1 aeg (ad8 _) (meets_dict_items (aO X.prog X.w) d hm) ⟨⟨vs,dd⟩,?_⟩
 have c8:d<s1.heap.objs.size:=aam Fg
 refine wpAny_pyIter_items (knd:=aO X.prog X.w) (kvs:=vs) (ep:=ep) (d:=d) ⟨_,aaq _ rfl,rfl,rfl⟩ ⟨ob,es,aac _ Fg,r⟩ ?_
 have I3:Inv X pins σ (upd H1 d (.bK ob (.dK kvs))) {s1 with heap:=s1.heap.push {cls:=.type "dict_items",data:=.fields #[.ref d] } }:=I2.kept (t':=s1.toks) λb o e=>aac _ e
 have I4:=I3.kept (h':=(s1.heap.push {cls:=.type "dict_items",data:=.fields #[.ref d] }).push {cls:=.type "dict_itemiterator",data:=.fields #[.none,.bool false,.ref d,.int 0 0,.int vs.length 0,.int ep 0,.none,.none] }) (t':=s1.toks) λb o e=>aac _ e
 refine⟨(s1.heap.push {cls:=.type "dict_items",data:=.fields #[.ref d] }).objs.size,[(s1.heap.push {cls:=.type "dict_items",data:=.fields #[.ref d] }).objs.size],_,_,_,rfl,I4,Dj (es:=es) (ep:=ep) (o:=ob) (kvs:=kvs) r.2.1 (aaw (by rw[abE];exact acP c8)),?_,?_,q ob⟩
 . refine⟨.none,.none,?_⟩
   show Heap.get? _ _=_
   rw[hlen]
   exact aaq _ rfl
 . intro b hb
   have e:b=(s1.heap.push {cls:=.type "dict_items",data:=.fields #[.ref d] }).objs.size:=by simpa using hb
   subst e
   exact I3.nL (aah _) (I3.hok.fresh (aah _))
noncomputable def Nf(yf:Hp)(t:TS):TS:=λD σ H=>t {D with nx:=λAX H1=>∃d o kvs,H1 d=some (.bK o (.dK kvs))/\(∀o' u,yf d≠some (.bK o' u))/\D.nx AX (upd H1 d (.dK kvs))} σ H
theorem KH{st:Stmt}{t:TS}(h:PS X st t):PS X st (Nf X.yf t):=by
 intro pins s σ H D I q
 refine aC (h pins s σ H _ I q) λf s1 hf=>?_
 cases f with
 | next=>
  obtain⟨AX,H1,I1,d,o,kvs,e,hn,q1⟩:=hf
  exact⟨AX,_,I1.MP e hn,q1⟩
 | _=>exact hf
end
end L2
namespace Gen
open PySem L2
noncomputable abbrev Dk:Stmt:=inClass (top 1) 0
structure iu(mg:Str->Option Value):Prop where
 len:mg "len" = none
 list:mg "list" = none
 dict:mg "dict" = none
 tuple:mg "tuple" = none
 str:mg "str" = none
 int:mg "int" = none
 bool:mg "bool" = none
 zip:mg "zip" = none
 all:mg "all" = none
 isi:mg "isinstance" = none
structure Dl where
 sw:List Str
 kp:List (Key×V)
 gt:List Addr
 nx:List (Key×V)
 nv:List (Key×V)
 sm:List (Key×V)
structure xR(H:Hp) (F:Dl) (f1 f2 f3 f4 f5 f6:Addr):Prop where
 h1:H f1=some (.lst (F.sw.map V.str))
 h2:H f2=some (.dK F.kp)
 h3:H f3=some (.lst (F.gt.map V.ref))
 h4:H f4=some (.dK F.nx)
 h5:H f5=some (.dK F.nv)
 h6:H f6=some (.dK F.sm)
theorem xR.keep{H H':Hp}{F:Dl}{f1 f2 f3 f4 f5 f6:Addr}(h:xR H F f1 f2 f3 f4 f5 f6)(k:∀b∈[f1,f2,f3,f4,f5,f6],∀o,H b=some o->H' b=some o):xR H' F f1 f2 f3 f4 f5 f6:=
 ⟨k f1 (by simp) _ h.h1,k f2 (by simp) _ h.h2,k f3 (by simp) _ h.h3,k f4 (by simp) _ h.h4,k f5 (by simp) _ h.h5,k f6 (by simp) _ h.h6⟩
theorem xR.same{H H':Hp}{F:Dl}{f1 f2 f3 f4 f5 f6:Addr}(h:xR H F f1 f2 f3 f4 f5 f6)(k:ag H H'):xR H' F f1 f2 f3 f4 f5 f6:=h.keep λb _ o e=>k b o e
structure mO(K:W.Frag) (mg:Str->Option Value) (C:Addr):Prop where
 cl:sL K C
 n1:dZ K C "switches"
 n2:dZ K C "keepers"
 n3:dZ K C "gates"
 n4:dZ K C "nexts"
 n5:dZ K C "nevers"
 n6:dZ K C "somes"
 mgC:mg "Machine" = some (.ref C)
noncomputable def jk(f1 f2 f3 f4 f5 f6:Addr):List (Str×V):=bu "somes" (.ref f6) (bu "nevers" (.ref f5) (bu "nexts" (.ref f4) (bu "gates" (.ref f3) (bu "keepers" (.ref f2) (bu "switches" (.ref f1) [])))))
section
variable (f1 f2 f3 f4 f5 f6:Addr)
theorem zG:(jk f1 f2 f3 f4 f5 f6).lookup ("switches" : Str)=some (.ref f1):=by
 unfold jk
 rw[aV,aaY (by decide+kernel),aV,aaY (by decide+kernel),aV,aaY (by decide+kernel),aV,aaY (by decide+kernel),aV,aaY (by decide+kernel),aV,aa4 rfl]
theorem ow:(jk f1 f2 f3 f4 f5 f6).lookup ("keepers" : Str)=some (.ref f2):=by
 unfold jk
 rw[aV,aaY (by decide+kernel),aV,aaY (by decide+kernel),aV,aaY (by decide+kernel),aV,aaY (by decide+kernel),aV,aa4 rfl]
theorem rn:(jk f1 f2 f3 f4 f5 f6).lookup ("gates" : Str)=some (.ref f3):=by
 unfold jk
 rw[aV,aaY (by decide+kernel),aV,aaY (by decide+kernel),aV,aaY (by decide+kernel),aV,aa4 rfl]
theorem vf:(jk f1 f2 f3 f4 f5 f6).lookup ("nexts" : Str)=some (.ref f4):=by
 unfold jk
 rw[aV,aaY (by decide+kernel),aV,aaY (by decide+kernel),aV,aa4 rfl]
theorem vg:(jk f1 f2 f3 f4 f5 f6).lookup ("nevers" : Str)=some (.ref f5):=by
 unfold jk
 rw[aV,aaY (by decide+kernel),aV,aa4 rfl]
theorem zH:(jk f1 f2 f3 f4 f5 f6).lookup ("somes" : Str)=some (.ref f6):=by
 unfold jk
 rw[aV,aa4 rfl]
end
theorem df{f:Str}{v:V}{fs:List (Str×V)}{n:Nat}(h:fs.length<=n):(bu f v fs).length<=n+1:=aao (nM f v fs) (aew h)
theorem yJ{n m:Nat}(h:n<=m)(hm:m<1000):n<1000:=abU h hm
theorem jN{H:Hp}{p g C dx:Addr}{o:HO}{fs fs':List (Str×V)}(hp:H p=some (.ins C dx fs)) (hg:H g=none) :
 (upd (upd H g o) p (.ins C dx fs')) p=some (.ins C dx fs')/\(upd (upd H g o) p (.ins C dx fs')) g=some o/\(upd H g o) p=some (.ins C dx fs)/\∀b u,H b=some u->b≠p->(upd (upd H g o) p (.ins C dx fs')) b=some u:=by
 have n:=af hp hg
 refine⟨ae,by rw[ah (aau n),ae],by rw[ah n];exact hp,λb u hb nb=>by rw[ah nb,ah (af hb hg)];exact hb⟩
noncomputable abbrev nC:List Str:=["self", "switches", "keepers", "gates", "nexts", "nevers", "somes"]
noncomputable def zI(C:Addr):Sp:=λvs H Q _=>∃(p dx s1 s2 s3 s4 s5 s6:Addr) (F:Dl),vs=[.ref p,.ref s1,.ref s2,.ref s3,.ref s4,.ref s5,.ref s6]/\H p=some (.ins C dx [])/\xR H F s1 s2 s3 s4 s5 s6/\
 ∀(g1 g2 g3 g4 g5 g6:Addr) (H':Hp),(∀g∈[g1,g2,g3,g4,g5,g6],H g=none)->[g1,g2,g3,g4,g5,g6].Nodup->H' p=some (.ins C dx (jk g1 g2 g3 g4 g5 g6))->xR H' F g1 g2 g3 g4 g5 g6->aI H H' p->Q .aM H'
theorem lE{H H':Hp}{p g:Addr}(k:∀b u,H b=some u->b≠p->H' b=some u)(hg:H' g=none)(np:g≠p):H g=none:=by
 cases e:H g with
 | none=>rfl
 | some o=>rw[k g o e np]at hg;cases hg
section
variable {P:Program}{w:World}{K:W.Frag}{mg:Str->Option Value}{base:Heap}
theorem Ng:aK nC nC (aw Dk):=⟨rfl,rfl,rfl,by decide+kernel,rfl,by decide+kernel,by decide+kernel⟩
theorem BL{f C:Addr}{fd:FuncData}(F:aQ K "__init__" "Machine.__init__" Dk f fd)(T:mO K mg C)(O:iu mg):aP P w K mg base aZ 1 f fd nC (zI C):=by
 refine F.ok Ng (λvs H Q E h=>?_) (λcdv A outer s H vs Q E hr h=>?_)
 . obtain⟨p,dx,s1,s2,s3,s4,s5,s6,F,rfl,_⟩:=h
   rfl
 . obtain⟨p,dx,s1,s2,s3,s4,s5,s6,F,rfl,hp,hF,kk⟩:=h
   refine⟨_,aj (nY (pv 0) (aN eN (by rfl) O.list abr (aa (pv 1) ai)) rfl)
    (aj (nY (pv 0) (aN i0 (by rfl) O.dict aaQ (aa (pv 2) ai)) rfl)
    (aj (nY (pv 0) (aN eN (by rfl) O.list abr (aa (pv 3) ai)) rfl)
    (aj (nY (pv 0) (aN i0 (by rfl) O.dict aaQ (aa (pv 4) ai)) rfl)
    (aj (nY (pv 0) (aN i0 (by rfl) O.dict aaQ (aa (pv 5) ai)) rfl)
    (av (nY (pv 0) (aN i0 (by rfl) O.dict aaQ (aa (pv 6) ai)) rfl)))))),?_⟩
   have np:∀{b:Addr}{u:HO},H b=some u->(∀C dx fs,u≠.ins C dx fs)->b≠p:=λhb hu z=>by
    rw[z,hp]at hb
    exact hu _ _ _ (aaS hb).symm
   have m1:s1≠p:=np hF.h1 (λ_ _ _ z=>by cases z)
   have m2:s2≠p:=np hF.h2 (λ_ _ _ z=>by cases z)
   have m3:s3≠p:=np hF.h3 (λ_ _ _ z=>by cases z)
   have m4:s4≠p:=np hF.h4 (λ_ _ _ z=>by cases z)
   have m5:s5≠p:=np hF.h5 (λ_ _ _ z=>by cases z)
   have m6:s6≠p:=np hF.h6 (λ_ _ _ z=>by cases z)
   refine⟨_,rfl,s1,_,rfl,.inl (aq.of hF.h1),λg1 e1=>?_⟩
   obtain⟨p1,q1,r1,k1⟩:=jN (o:=.lst (F.sw.map V.str)) (fs':=bu "switches" (.ref g1) []) hp e1
   have b1:g1≠p:=(af hp e1).symm
   refine⟨_,rfl,p,C,dx,[],rfl,r1,T.cl,T.n1,(by show 0<1000;decide),?_⟩
   generalize upd (upd H g1 (.lst (F.sw.map V.str))) p (.ins C dx (bu "switches" (.ref g1) []))=H1 at p1 q1 k1 ⊢
   refine⟨_,rfl,s2,_,rfl,.inl (k1 _ _ hF.h2 m2),λg2 e2=>?_⟩
   obtain⟨p2,q2,r2,k2⟩:=jN (o:=.dK F.kp) (fs':=bu "keepers" (.ref g2) (bu "switches" (.ref g1) [])) p1 e2
   have b2:g2≠p:=(af p1 e2).symm
   refine⟨_,rfl,p,C,dx,_,rfl,r2,T.cl,T.n2,yJ (df (aah _)) (by show 1<1000;decide),?_⟩
   generalize upd (upd H1 g2 (.dK F.kp)) p (.ins C dx (bu "keepers" (.ref g2) (bu "switches" (.ref g1) [])))=H2 at p2 q2 k2 ⊢
   refine⟨_,rfl,s3,_,rfl,.inl (aq.of (k2 _ _ (k1 _ _ hF.h3 m3) m3)),λg3 e3=>?_⟩
   obtain⟨p3,q3,r3,k3⟩:=jN (o:=.lst (F.gt.map V.ref)) (fs':=bu "gates" (.ref g3) (bu "keepers" (.ref g2) (bu "switches" (.ref g1) []))) p2 e3
   have b3:g3≠p:=(af p2 e3).symm
   refine⟨_,rfl,p,C,dx,_,rfl,r3,T.cl,T.n3,yJ (df (df (aah _))) (by show 2<1000;decide),?_⟩
   generalize upd (upd H2 g3 (.lst (F.gt.map V.ref))) p (.ins C dx (bu "gates" (.ref g3) (bu "keepers" (.ref g2) (bu "switches" (.ref g1) []))))=H3 at p3 q3 k3 ⊢
   refine⟨_,rfl,s4,_,rfl,.inl (k3 _ _ (k2 _ _ (k1 _ _ hF.h4 m4) m4) m4),λg4 e4=>?_⟩
   obtain⟨p4,q4,r4,k4⟩:=jN (o:=.dK F.nx) (fs':=bu "nexts" (.ref g4) (bu "gates" (.ref g3) (bu "keepers" (.ref g2) (bu "switches" (.ref g1) [])))) p3 e4
   have b4:g4≠p:=(af p3 e4).symm
   refine⟨_,rfl,p,C,dx,_,rfl,r4,T.cl,T.n4,yJ (df (df (df (aah _)))) (by show 3<1000;decide),?_⟩
   generalize upd (upd H3 g4 (.dK F.nx)) p (.ins C dx (bu "nexts" (.ref g4) (bu "gates" (.ref g3) (bu "keepers" (.ref g2) (bu "switches" (.ref g1) [])))))=H4 at p4 q4 k4 ⊢
   refine⟨_,rfl,s5,_,rfl,.inl (k4 _ _ (k3 _ _ (k2 _ _ (k1 _ _ hF.h5 m5) m5) m5) m5),λg5 e5=>?_⟩
   obtain⟨p5,q5,r5,k5⟩:=jN (o:=.dK F.nv) (fs':=bu "nevers" (.ref g5) (bu "nexts" (.ref g4) (bu "gates" (.ref g3) (bu "keepers" (.ref g2) (bu "switches" (.ref g1) []))))) p4 e5
   have b5:g5≠p:=(af p4 e5).symm
   refine⟨_,rfl,p,C,dx,_,rfl,r5,T.cl,T.n5,yJ (df (df (df (df (aah _))))) (by show 4<1000;decide),?_⟩
   generalize upd (upd H4 g5 (.dK F.nv)) p (.ins C dx (bu "nevers" (.ref g5) (bu "nexts" (.ref g4) (bu "gates" (.ref g3) (bu "keepers" (.ref g2) (bu "switches" (.ref g1) []))))))=H5 at p5 q5 k5 ⊢
   refine⟨_,rfl,s6,_,rfl,.inl (k5 _ _ (k4 _ _ (k3 _ _ (k2 _ _ (k1 _ _ hF.h6 m6) m6) m6) m6) m6),λg6 e6=>?_⟩
   obtain⟨p6,q6,r6,k6⟩:=jN (o:=.dK F.sm) (fs':=jk g1 g2 g3 g4 g5 g6) p5 e6
   have b6:g6≠p:=(af p5 e6).symm
   refine⟨_,rfl,p,C,dx,_,rfl,r6,T.cl,T.n6,yJ (df (df (df (df (df (aah _)))))) (by show 5<1000;decide),?_⟩
   refine kk g1 g2 g3 g4 g5 g6 _ ?_ ?nd p6 ⟨k6 _ _ (k5 _ _ (k4 _ _ (k3 _ _ (k2 _ _ q1 b1) b1) b1) b1) b1,k6 _ _ (k5 _ _ (k4 _ _ (k3 _ _ q2 b2) b2) b2) b2,k6 _ _ (k5 _ _ (k4 _ _ q3 b3) b3) b3,k6 _ _ (k5 _ _ q4 b4) b4,k6 _ _ q5 b5,q6⟩
    (λb o hb nb=>k6 _ _ (k5 _ _ (k4 _ _ (k3 _ _ (k2 _ _ (k1 _ _ hb nb) nb) nb) nb) nb) nb)
   have z1:∀{g},g≠p->H1 g=none->H g=none:=λn e=>lE k1 e n
   have z2:∀{g},g≠p->H2 g=none->H g=none:=λn e=>z1 n (lE k2 e n)
   have z3:∀{g},g≠p->H3 g=none->H g=none:=λn e=>z2 n (lE k3 e n)
   have z4:∀{g},g≠p->H4 g=none->H g=none:=λn e=>z3 n (lE k4 e n)
   have z5:∀{g},g≠p->H5 g=none->H g=none:=λn e=>z4 n (lE k5 e n)
   case nd=>
    have WR:=af q1 e2
    have IU:=af (k2 _ _ q1 b1) e3
    have IV:=af (k3 _ _ (k2 _ _ q1 b1) b1) e4
    have WS:=af (k4 _ _ (k3 _ _ (k2 _ _ q1 b1) b1) b1) e5
    have IW:=af (k5 _ _ (k4 _ _ (k3 _ _ (k2 _ _ q1 b1) b1) b1) b1) e6
    have IX:=af q2 e3
    have IY:=af (k3 _ _ q2 b2) e4
    have IZ:=af (k4 _ _ (k3 _ _ q2 b2) b2) e5
    have I0:=af (k5 _ _ (k4 _ _ (k3 _ _ q2 b2) b2) b2) e6
    have Ja:=af q3 e4
    have Jb:=af (k4 _ _ q3 b3) e5
    have Jc:=af (k5 _ _ (k4 _ _ q3 b3) b3) e6
    have WT:=af q4 e5
    have WU:=af (k5 _ _ q4 b4) e6
    have WV:=af q5 e6
    simp only[aa0,aal,aaH,abF,ad3,acg,and_true,not_false_eq_true]
    exact⟨⟨WR,IU,IV,WS,IW⟩,⟨IX,IY,IZ,I0⟩,⟨Ja,Jb,Jc⟩,⟨WT,WU⟩,WV⟩
   intro g hg
   simp only[aal,aaH,abF]at hg
   rcases hg with rfl|rfl|rfl|rfl|rfl|rfl
   . exact e1
   . exact z1 b2 e2
   . exact z2 b3 e3
   . exact z3 b4 e4
   . exact z4 b5 e5
   . exact z5 b6 e6
end
theorem ml(z:Str):z=⟨z.cps.toList.toArray⟩:=by cases z;simp
theorem ij(x:Str):(("~" : Str)++x).cps.toList=126::x.cps.toList:=by
 have e:("~" : Str)=⟨#[126]⟩:=by decide+kernel
 rw[e]
 show (#[126]++x.cps).toList=_
 simp
noncomputable def br(l:List (Str×V)):List (Key×V):=l.map λr=>((.inr r.1:Key),r.2)
noncomputable def aR(l:List (Str×Str)):List (Key×V):=l.map λr=>((.inr r.1:Key),V.str r.2)
theorem kz(n:Str):∀l:List (Str×V),(bA (br l) (.inr n)).isSome=decide (n∈l.map (·.1))
 | []=>by simp[br,bA]
 | r::l=>by
  have ih:=kz n l
  by_cases e:r.1=n
  . have h1:bA (br (r::l)) (.inr n)=some r.2:=fu (p:=((.inr r.1:Key),r.2)) (by rw[e])
    rw[h1]
    simp[e]
  . have h1:bA (br (r::l)) (.inr n)=bA (br l) (.inr n):=fz (p:=((.inr r.1:Key),r.2)) (λq=>e (acH q))
    rw[h1,ih]
    have:¬ n=r.1:=λq=>e q.symm
    simp[this]
theorem Jd(l:List (Str×Str)):aR l=br (l.map λr=>(r.1,V.str r.2)):=by unfold aR br;rw[aa1];rfl
theorem Hl{n:Str}{l:List (Str×Str)}(h:n∉l.map (·.1)):bA (aR l) (.inr n)=none:=by
 have:=kz n (l.map λr=>(r.1,V.str r.2))
 rw[← Jd,aa1,aaW (by simpa using h)]at this
 cases e:bA (aR l) (.inr n) with
 | none=>rfl
 | some v=>rw[e]at this;cases this
theorem vh{z:Str}(h:aT z):¬ z.cps.toList[0]?=some 126:=λe=>by
 have:=gA.mp (h.2.2 126 (aaT e))
 omega
noncomputable def zJ(z:Str):Prop:=z = "0" \/ z = "1" \/ aT z\/∃x,aT x/\z = "~" ++ x
theorem zJ.len{z:Str}(h:zJ z):1<=z.length/\z.length<=9:=by
 rcases h with rfl|rfl|h|⟨x,hx,rfl⟩
 . decide+kernel
 . decide+kernel
 . refine⟨?_,aao h.len (by decide)⟩
   have:=h.1
   simpa[Str.length]using this
 . have e:=qI "~" x
   have t1:("~" : Str).length=1:=by decide+kernel
   have:=hx.len
   omega
theorem Nh{a b:Str}{A B:Prop}(h:a≠b)(q:B):if decide (V.str a=V.str b)=true then A else B:=by
 rw[aaW (λe=>h (V.str.inj e))]
 exact bQ q
theorem Ni{a:Str}{A B:Prop}(q:A):if decide (V.str a=V.str a)=true then A else B:=by
 rw[aaU rfl]
 exact fJ q
theorem ub{α:Type}{l pre post:List α}{i:Nat}(h:(pre++l++post).Nodup) (hi:i<l.length):l[i]∉pre++l.take i:=by
 have e:l=l.take i++l[i]::l.drop (i+1):=by rw[← ab4 hi,aeL]
 have h1:(pre++l).Nodup:=(aav.mp h).1
 have h2:((pre++l.take i)++l[i]::l.drop (i+1)).Nodup:=by rw[abo,← e];exact h1
 intro hm
 exact(aav.mp h2).2.2 _ hm _ aaR rfl
theorem cb.same{H H':Hp}{m:Addr}{M:ax}{a1 a2 a3 a4 a5 a6:Addr}(h:cb H m M a1 a2 a3 a4 a5 a6)(s:ag H H'):cb H' m M a1 a2 a3 a4 a5 a6:=
 ⟨s _ _ h.top,s _ _ h.sw,h.kp.same s,h.gt.same s,h.nx.same s,h.nv.same s,h.sm.same s⟩
theorem WW{x:V}{r:List V} : gn (x::r) 0=some x:=fi (j:=0) rfl
noncomputable def cY(vv:List (Str×Int)):List (Key×V):=vv.map λr=>((.inr r.1:Key),V.int r.2)
noncomputable def aY(vv:List (Str×Int)) (n:Str):Int:=((vv.find? λr=>decide (r.1=n)).map (·.2)).getD 0
theorem QP(vv:List (Str×Int)):cY vv=br (vv.map λr=>(r.1,V.int r.2)):=by unfold cY br;rw[aa1];rfl
theorem Hm{n:Str}{l:List (Str×Int)}(h:n∉l.map (·.1)):bA (cY l) (.inr n)=none:=by
 have:=kz n (l.map λr=>(r.1,V.int r.2))
 rw[← QP,aa1,aaW (by simpa using h)]at this
 cases e:bA (cY l) (.inr n) with
 | none=>rfl
 | some v=>rw[e]at this;cases this
theorem zK{n:Str} : ∀{l:List (Str×Int)},n∈l.map (·.1)->bA (cY l) (.inr n)=some (.int (aY l n))
 | [],h=>by cases h
 | r::l,h=>by
  by_cases e:r.1=n
  . have h1:bA (cY (r::l)) (.inr n)=some (.int r.2):=fu (p:=((.inr r.1:Key),V.int r.2)) (by rw[e])
    rw[h1]
    unfold aY
    rw[abf (by simpa using e)]
    rfl
  . have h1:bA (cY (r::l)) (.inr n)=bA (cY l) (.inr n):=fz (p:=((.inr r.1:Key),V.int r.2)) (λq=>e (acH q))
    rw[h1,zK (l:=l) (by
     rw[aay,aal]at h
     rcases h with h|h
     . exact absurd h.symm e
     . exact h)]
    unfold aY
    rw[abg (by simpa using e)]
noncomputable def cz(vv:List (Str×Int)) (l:Str):Int:=if l = "0" then 0 else if l = "1" then 1 else if l.cps.toList[0]?=some 126 then 1-aY vv ⟨l.cps.toList.tail.toArray⟩ else aY vv l
noncomputable def nE(vv:List (Str×Int)) (l:Str):Prop:=l = "0" \/ l = "1" \/ (aT l/\l∈vv.map (·.1))\/∃x,aT x/\x∈vv.map (·.1)/\l = "~" ++ x
theorem zL(vv:List (Str×Int)):cz vv "0" = 0:=by rw[cz,aa4 rfl]
theorem zM(vv:List (Str×Int)):cz vv "1" = 1:=by rw[cz,aaY (by decide+kernel),aa4 rfl]
theorem kA{z:Str}(h:aT z):z ≠ "0" /\ z ≠ "1" /\ ¬ z.cps.toList[0]?=some 126:=by
 have hl:∀c,z.cps.toList[0]?=some c->97<=c:=λc e=>(gA.mp (h.2.2 c (aaT e))).1
 refine⟨λe=>?_,λe=>?_,vh h⟩
 . have:=hl 48 (by rw[e];decide+kernel)
   omega
 . have:=hl 49 (by rw[e];decide+kernel)
   omega
theorem uc(x:Str):("~" : Str)++x ≠ "0" /\ ("~" : Str)++x ≠ "1":=by
 have hl:=ij x
 refine⟨λe=>?_,λe=>?_⟩
 . rw[e]at hl
   have:(("0" : Str).cps.toList)[0]?=some 48:=by decide+kernel
   rw[hl]at this
   exact absurd this (by simp)
 . rw[e]at hl
   have:(("1" : Str).cps.toList)[0]?=some 49:=by decide+kernel
   rw[hl]at this
   exact absurd this (by simp)
theorem nF{vv:List (Str×Int)}{z:Str}(h:aT z):cz vv z=aY vv z:=by
 obtain⟨a,b,c⟩:=kA h
 rw[cz,aaY a,aaY b,aaY c]
theorem pF{vv:List (Str×Int)}{x:Str} : cz vv ("~" ++ x)=1-aY vv x:=by
 obtain⟨a,b⟩:=uc x
 rw[cz,aaY a,aaY b,ij,aa4 (show (126::x.cps.toList)[0]?=some 126 from rfl)]
 rw[show (⟨(126::x.cps.toList).tail.toArray⟩:Str)=x from(ml x).symm]
noncomputable def ud(vv:List (Str×Int)):Prop:=∀r∈vv,r.2=0\/r.2=1
theorem nG{vv:List (Str×Int)}(h:ud vv) (n:Str):aY vv n=0\/aY vv n=1:=by
 unfold aY
 cases e:vv.find? λr=>decide (r.1=n) with
 | none=>exact .inl rfl
 | some r=>exact h r (aco e)
theorem pG{vv:List (Str×Int)}(h:ud vv) (l:Str):cz vv l=0\/cz vv l=1:=by
 unfold cz
 split
 . exact .inl rfl
 . split
   . exact .inr rfl
   . split
     . rcases nG h ⟨l.cps.toList.tail.toArray⟩ with e|e <;> rw[e]
       . exact .inr rfl
       . exact .inl rfl
     . exact nG h l
noncomputable def fQ(acc:List (Str×Int)) (g:Str×Str×Str):List (Str×Int):=acc++[(g.1,cz acc g.2.1*cz acc g.2.2)]
noncomputable def me(M:ax)(bs cs:List Int):List (Str×Int):=M.switches.zip bs++(M.keepers.map (·.1)).zip cs
noncomputable def bJ(M:ax)(bs cs:List Int)(i:Nat):List (Str×Int):=(M.gates.take i).foldl fQ (me M bs cs)
theorem rp:∀(gs:List (Str×Str×Str)) (acc:List (Str×Int)),(gs.foldl fQ acc).map (·.1)=acc.map (·.1)++gs.map (·.1)
 | [],acc=>by simp
 | g::gs,acc=>by
  rw[aeM,rp gs,fQ,aag,aay,abo]
  rfl
theorem cS{α β:Type} : ∀{l:List α}{r:List β},l.length=r.length->(l.zip r).map (·.1)=l
 | [],[],_=>rfl
 | x::l,y::r,h=>by
  rw[abX,aay,cS (by simpa using h)]
theorem fh{M:ax}{bs cs:List Int}(h1:M.switches.length=bs.length)(h2:M.keepers.length=cs.length)(i:Nat):(bJ M bs cs i).map (·.1)=M.switches++M.keepers.map (·.1)++(M.gates.take i).map (·.1):=by
 unfold bJ me
 rw[rp,aag,cS h1,cS (by rw[aaa];exact h2)]
theorem xS{M:ax}{bs cs:List Int}{i:Nat}(hi:i<M.gates.length):bJ M bs cs (i+1)=fQ (bJ M bs cs i) M.gates[i]:=by
 unfold bJ
 rw[abL,aad hi,ae6]
 rfl
theorem pH{l:List Str}{bs:List Int}(h:∀b∈bs,b=0\/b=1):ud (l.zip bs):=λr hr=>h r.2 (acq hr).2
theorem xT{M:ax}{bs cs:List Int}(h1:∀b∈bs,b=0\/b=1)(h2:∀b∈cs,b=0\/b=1)(i:Nat):ud (bJ M bs cs i):=by
 have base:ud (me M bs cs):=λr hr=>by
  rcases aae.mp hr with hr|hr
  . exact pH h1 r hr
  . exact pH h2 r hr
 have all:∀(gs:List (Str×Str×Str)) (acc:List (Str×Int)),ud acc->ud (gs.foldl fQ acc):=by
  intro gs
  induction gs with
  | nil=>intro acc h;exact h
  | cons g gs ih=>
   intro acc h
   refine ih _ λr hr=>?_
   rcases aae.mp hr with hr|hr
   . exact h r hr
   . rw[aai.mp hr]
     show cz acc g.2.1*cz acc g.2.2=0\/cz acc g.2.1*cz acc g.2.2=1
     rcases pG h g.2.1 with e|e <;> rcases pG h g.2.2 with e'|e' <;> rw[e,e'] <;> simp
 exact all _ _ base
theorem sy{acc:List (Str×Int)}{n:Str}{v:Int}(h:n∉acc.map (·.1)):putK (cY acc) (.inr n) (.int v)=cY (acc++[(n,v)]):=by
 rw[mz _ (Hm h)]
 unfold cY
 rw[aag]
 rfl
theorem rq:∀(l acc:List (Str×Int)),((acc++l).map (·.1)).Nodup->bE (cY acc) (cY l)=cY (acc++l)
 | [],acc,_=>by rw[abw];rfl
 | r::l,acc,h=>by
  have e:acc++r::l=(acc++[r])++l:=by simp
  have hn:r.1∉acc.map (·.1):=λhm=>by
   rw[aag]at h
   exact(aav.mp h).2.2 _ hm _ (by simp) rfl
  show bE (putK (cY acc) (.inr r.1) (.int r.2)) (cY l)=_
  rw[sy hn,e]
  exact rq l (acc++[r]) (by rw[← e];exact h)
theorem wk:∀(l:List Str) (bs:List Int),(l.map (Sum.inr:Str->Key)).zip (bs.map V.int)=cY (l.zip bs)
 | [],_=>rfl
 | _::_,[]=>rfl
 | x::l,y::r=>by
  rw[aay,aay,abX,abX,wk l r]
  rfl
theorem Lit.BM{names:List Str}{z:Str}{vv:List (Str×Int)}(h:Lit names z) (hn:∀x∈names,aT x) (hs:∀x∈names,x∈vv.map (·.1)):nE vv z:=by
 rcases h with h|h|⟨x,hx,h|h⟩
 . exact .inl h
 . exact .inr (.inl h)
 . exact .inr (.inr (.inl ⟨h ▸ hn x hx,h ▸ hs x hx⟩))
 . exact .inr (.inr (.inr ⟨x,hn x hx,hs x hx,h⟩))
theorem nE.len{vv:List (Str×Int)}{z:Str}(h:nE vv z):1<=z.length/\z.length<=9:=by
 have hf:zJ z:=by
  rcases h with h|h|⟨h,_⟩|⟨x,h,_,e⟩
  . exact .inl h
  . exact .inr (.inl h)
  . exact .inr (.inr (.inl h))
  . exact .inr (.inr (.inr ⟨x,h,e⟩))
 exact hf.len
noncomputable abbrev Hn:Stmt:=top 28
noncomputable def ox:Sp:=λvs H Q _=>∃(d:Addr) (vv:List (Str×Int)) (l:Str),vs=[.ref d,.str l]/\Rd H d (.dK (cY vv))/\nE vv l/\∀H',ag H H'->Q (.int (cz vv l)) H'
theorem kE{H:Hp}{d:Addr}{vv:List (Str×Int)}{n:Str}(h:Rd H d (.dK (cY vv))) (hn:n∈vv.map (·.1)):aX H d (.str n) (some (.int (aY vv n))):=.inl ⟨cY vv,.inr n,h,rfl,(zK hn).symm⟩
section
variable {P:Program}{w:World}{K:W.Frag}{mg:Str->Option Value}{base:Heap}
theorem QQ:aK ["_law_values_here", "_law_literal_here"] ["_law_values_here", "_law_literal_here"] (aw Hn):=⟨rfl,rfl,rfl,by decide+kernel,rfl,by decide+kernel,by decide+kernel⟩
theorem Nj{f:Addr}{fd:FuncData}(F:aQ K "_law_bit" "_law_bit" Hn f fd)(O:iu mg):aP P w K mg base aZ 1 f fd ["_law_values_here", "_law_literal_here"] ox:=by
 refine F.ok QQ (λvs H Q E h=>?_) (λcdv A outer s H vs Q E hr h=>?_)
 . obtain⟨d,vv,l,rfl,_⟩:=h
   rfl
 . obtain⟨d,vv,l,rfl,hd,hl,kk⟩:=h
   have hu:=eE hr
   have vi:l.length<=sizeLine:=aao hl.len.2 (by decide)
   refine⟨_,aj (cU (bh gp (pv 1) (bF (aa au (aa au ai))) (by with_unfolding_all rfl)) (av (aJ (aN zF (by rfl) O.int adv (aa (pv 1) ai)))) bN)
    (aj (cU (bh kQ (aF lq (pv 1) ao (λ_ _=>rfl)) au (cQ _)) (av (aJ (az qm ao (aD hu (pv 0) (jD wg (pv 1) (jI ao) jH) (λ_ _=>rfl))))) bN)
    (av (aJ (aD hu (pv 0) (pv 1) (λ_ _=>rfl))))),?_⟩
   refine⟨_,rfl,(by show 2<=sizeLine;decide),λt ht=>?_⟩
   have st:ag H (upd H t (.tup [.str "0",.str "1"])):=ag.ak ht
   have hd':Rd (upd H t (.tup [.str "0",.str "1"])) d (.dK (cY vv)):=by
    rcases hd with hd|⟨o,hd⟩
    . exact .inl (st _ _ hd)
    . exact .inr ⟨o,st _ _ hd⟩
   have k0:=kk _ st
   refine⟨t,_,rfl,.inr (aH.of ae),rfl,rfl,_,rfl,?_⟩
   show if g0 (.str l) [.str "0",.str "1"]=true then _ else _
   have Nk:l ≠ "0" -> l ≠ "1" -> g0 (.str l) [.str "0",.str "1"]=false:=λa b=>by
    have:=oh l ["0", "1"]
    rw[show g0 (V.str l) [.str "0",.str "1"]=decide (l∈(["0", "1"]:List Str)) from this]
    exact aaW (by simp[a,b])
   have tl:("~" : Str)=⟨#[126]⟩:=by decide+kernel
   rcases hl with rfl|rfl|⟨hn,hm⟩|⟨x,hn,hm,rfl⟩
   . rw[zL]at k0
     rw[show g0 (V.str "0") [.str "0",.str "1"]=true from by decide+kernel]
     exact fJ ⟨_,rfl, "0",0,rfl,by decide+kernel,by decide+kernel,k0⟩
   . rw[zM]at k0
     rw[show g0 (V.str "1") [.str "0",.str "1"]=true from by decide+kernel]
     exact fJ ⟨_,rfl, "1",1,rfl,by decide+kernel,by decide+kernel,k0⟩
   . obtain⟨n0,n1,n2⟩:=kA hn
     rw[nF hn]at k0
     rw[Nk n0 n1]
     refine bQ ?_
     obtain⟨c,hc⟩:∃c,l.cps.toList[0]?=some c:=⟨_,aad (by have:=hn.1;omega)⟩
     have QR:c≠126:=λe=>n2 (by rw[hc,e])
     refine⟨_,rfl,l,0,c,rfl,rfl,vi,fi (j:=0) hc,rfl,_,rfl,Nh (λq=>QR (by
      rw[tl]at q
      have e2:=congrArg (λs:Str=>s.cps.toList) q
      simpa using e2)) ?_⟩
     exact⟨_,rfl,_,rfl,d,_,rfl,kE hd' hm,k0⟩
   . obtain⟨n0,n1⟩:=uc x
     rw[pF]at k0
     rw[Nk n0 n1]
     refine bQ ?_
     have e0:(("~" : Str)++x).cps.toList[0]?=some 126:=by rw[ij];rfl
     refine⟨_,rfl,_,0,126,rfl,rfl,vi,fi (j:=0) e0,rfl,_,rfl,?_⟩
     rw[show (⟨#[126]⟩:Str) = "~" from tl.symm]
     refine Ni ?_
     refine⟨_,rfl,_,rfl,_,rfl,_,1,rfl,rfl,rfl,vi,?_⟩
     have ts:Txt.slice (("~" : Str)++x) (some 1) none=x:=by
      rw[ml (Txt.slice (("~" : Str)++x) (some 1) none),pE,ij]
      exact(ml x).symm
     rw[ts]
     exact⟨d,_,rfl,kE hd' hm,_,_,rfl,rfl,k0⟩
end
structure lF(M:ax) (names:List Str) (bs cs:List Int):Prop where
 ok:aG M names
 l1:M.switches.length=bs.length
 l2:M.keepers.length=cs.length
 b1:∀b∈bs,b=0\/b=1
 b2:∀b∈cs,b=0\/b=1
 n1:M.switches.length<=12
 n2:M.keepers.length<=16
 n3:M.gates.length<=60
section
variable {M:ax}{names:List Str}{bs cs:List Int}
theorem lF.nd(h:lF M names bs cs):(M.switches++M.keepers.map (·.1)++M.gates.map (·.1)).Nodup:=by have:=h.ok.nd;rw[h.ok.all]at this;exact this
theorem lF.nm(h:lF M names bs cs):∀z∈M.switches++M.keepers.map (·.1)++M.gates.map (·.1),aT z:=λz hz=>h.ok.nm z (by rw[h.ok.all];exact hz)
theorem lF.len(h:lF M names bs cs)(i:Nat):(bJ M bs cs i).length<=88:=by
 have:=congrArg List.length (fh h.l1 h.l2 i)
 simp only[aaa,aaf,aa3]at this
 have:=h.n1
 have:=h.n2
 have:=h.n3
 omega
theorem lF.gate(h:lF M names bs cs){i:Nat}(hi:i<M.gates.length):M.gates[i].1∉(bJ M bs cs i).map (·.1)/\nE (bJ M bs cs i) M.gates[i].2.1/\nE (bJ M bs cs i) M.gates[i].2.2:=by
 rw[fh h.l1 h.l2]
 have E9:∀x∈M.switches++M.keepers.map (·.1)++(M.gates.take i).map (·.1),aT x:=λx hx=>h.nm x (by
  rcases aae.mp hx with hx|hx
  . exact acp _ hx
  . obtain⟨r,hr,e⟩:=aak.mp hx
    exact aaZ _ (aak.mpr ⟨r,abN hr,e⟩))
 obtain⟨g1,g2⟩:=h.ok.gl i _ (aad hi)
 refine⟨?_,g1.BM E9 λx hx=>by rw[fh h.l1 h.l2];exact hx,g2.BM E9 λx hx=>by rw[fh h.l1 h.l2];exact hx⟩
 have:=ub (l:=M.gates.map (·.1)) (pre:=M.switches++M.keepers.map (·.1)) (post:=[]) (by simpa using h.nd) (i:=i) (by rw[aaa];exact hi)
 rw[adD,← acx]at this
 exact this
end
noncomputable def zN(K:W.Frag)(H:Hp)(t:Addr)(bs:List Int):Prop:=aH K H t (bs.map V.int)
theorem zN.same{K:W.Frag}{H H':Hp}{t:Addr}{bs:List Int}(h:zN K H t bs)(s:ag H H'):zN K H' t bs:=ag.ku s h
theorem aH.keep{K:W.Frag}{H H':Hp}{u:Addr}{xs:List V}(h:aH K H u xs) (k:∀o,(∀kvs,o≠.dK kvs)->(∀l,o≠.lst l)->H u=some o->H' u=some o):aH K H' u xs:=by
 rcases h with (h|⟨o,h⟩)|h
 . exact .inl (.inl (k _ (by intro _ z;cases z) (by intro _ z;cases z) h))
 . exact .inl (.inr ⟨o,k _ (by intro _ z;cases z) (by intro _ z;cases z) h⟩)
 . exact .inr h
noncomputable abbrev wm:Stmt:=top 27
noncomputable def mQ(K:W.Frag):Sp:=λvs H Q _=>∃(m a1 a2 a3 a4 a5 a6 st tl:Addr) (M:ax) (names:List Str) (bs cs:List Int),vs=[.ref m,.ref st,.ref tl]/\cb H m M a1 a2 a3 a4 a5 a6/\lF M names bs cs/\zN K H st cs/\aq K H tl (bs.map V.int)/\
 ∀d H',H d=none->ag H H'->H' d=some (.dK (cY (bJ M bs cs M.gates.length)))->Q (.ref d) H'
noncomputable abbrev WX:List Str:=["_law_m", "_law_stand", "_law_told", "_law_values_here", "_law_name", "_law_bit_here", "_law_keeper", "_law_one", "_law_other"]
noncomputable abbrev oy:List Str:=["_law_m", "_law_stand", "_law_told"]
theorem zO{α β:Type}{l:List α}{r:List β}{i:Nat}(h1:i<l.length)(h2:i<r.length):(l.zip r).take (i+1)=(l.zip r).take i++[(l[i],r[i])]:=by
 rw[abL,aad (by rw[abn];omega),aev]
 rfl
section
variable {P:Program}{w:World}{K:W.Frag}{mg:Str->Option Value}{base:Heap}
theorem pI:aK WX oy (aw wm):=⟨rfl,rfl,rfl,by decide+kernel,rfl,by decide+kernel,by decide+kernel⟩
theorem Fh{f fB:Addr}{fd dB:FuncData}(F:aQ K "_law_values" "_law_values" wm f fd)(O:iu mg)(GB:aP P w K mg base aZ 1 fB dB ["_law_values_here", "_law_literal_here"] ox) (mB:mg "_law_bit" = some (.ref fB)) (kB:W.keepIn K (.ref fB)=true) (bB:Binds K dB ["_law_values_here", "_law_literal_here"] []):aP P w K mg base aZ 2 f fd oy (mQ K):=by
 refine F.ok pI (λvs H Q E h=>?_) (λcdv A outer s H vs Q E hr h=>?_)
 . obtain⟨m,a1,a2,a3,a4,a5,a6,st,tl,M,names,bs,cs,rfl,_⟩:=h
   rfl
 . obtain⟨m,a1,a2,a3,a4,a5,a6,st,tl,M,names,bs,cs,rfl,hM,hf,lS,lT,kk⟩:=h
   have hu:=eE hr
   have eC:aW 1 _:=hr
   have l1:=hf.l1
   have l2:=hf.l2
   have n1:=hf.n1
   have n2:=hf.n2
   have n3:=hf.n3
   refine⟨_,aj (bq (i:=3) pI.nd rfl (Or.inl rfl) yH)
    (aj (dU aa6 rfl (KG (by rfl) O.zip (aa (aD hu (pv 0) au (λ_ _=>rfl)) (aa (pv 2) ai))) (cN rfl (aA (ar (i:=4) pI.nd rfl (Or.inl rfl)) (aA (ar (i:=5) pI.nd rfl (Or.inl rfl)) cc)))
     (av (gZ hu (pv 3) (pv 4) (pv 5) rfl)))
    (aj (dU aa6 rfl (KC (by rfl) O.zip (aa (aD hu (pv 0) au (λ_ _=>rfl)) (aa (pv 1) ai))) (cN rfl (aA (ar (i:=6) pI.nd rfl (Or.inl rfl)) (aA (ar (i:=5) pI.nd rfl (Or.inl rfl)) cc)))
     (av (gZ hu (pv 3) (aF bT (pv 6) ao (λ_ _=>rfl)) (pv 5) rfl)))
    (aj (dU aa6 rfl (ba (aD hu (pv 0) au (λ_ _=>rfl))) (cN rfl (aA (ar (i:=4) pI.nd rfl (Or.inl rfl)) (aA (ar (i:=7) pI.nd rfl (Or.inl rfl)) (aA (ar (i:=8) pI.nd rfl (Or.inl rfl)) cc))))
     (av (gZ hu (pv 3) (pv 4) (az jV (aU GB eC rfl mB kB bB .nil bw (aa (pv 3) (aa (pv 7) ai))) (aU GB eC rfl mB kB bB .nil bw (aa (pv 3) (aa (pv 8) ai)))) rfl)))
    (av (aJ (pv 3)))))),?_⟩
   intro d hd
   have kp:∀b o,H b=some o->b≠d:=λb o hb=>af hb hd
   have s1:ag H (upd H d (.dK [])):=ag.ak hd
   have q1:(upd H d (.dK [])) d=some (.dK (cY ((M.switches.zip bs).take 0))):=ae
   generalize upd H d (.dK [])=H1 at s1 q1 ⊢
   have eK:=hM.same s1
   have ndS:M.switches.Nodup:=(aav.mp (aav.mp hf.nd).1).1
   refine⟨_,rfl,m,.ref a1,rfl,aX.k (k:=.inr "switches") eK.top,_,rfl,a1,tl,rfl,⟨_,aq.of eK.sw⟩,⟨_,ag.seq s1 lT⟩,BK (K:=K) (tp:=false) (tq:=false) (a:=a1) (b:=tl) (xs:=M.switches.map V.str) (ys:=bs.map V.int) (by simp only[aaa];omega)
    (λi σ H2=>∃v4 v5,σ=[some (.ref m),some (.ref st),some (.ref tl),some (.ref d),v4,v5,none,none,none]/\H2 d=some (.dK (cY ((M.switches.zip bs).take i)))/\ag H H2) ?_ ?_ ?_ ?_⟩
   . exact⟨none,none,rfl,q1,s1⟩
   . rintro i σ H2 _ ⟨_,_,_,_,s2⟩
     exact⟨aq.of (s2 _ _ hM.sw),ag.seq s2 lT⟩
   . rintro i xv yv Tp σ H2 hx hy hT ⟨v4,v5,rfl,hd2,s2⟩
     have hi:i<M.switches.length:=by
      have:=(aas.mp hx).1
      rwa[aaa]at this
     have Fi:i<bs.length:=by omega
     have ex:xv=.str M.switches[i]:=by
      rw[aan,aad hi]at hx
      exact(aaS hx).symm
     have ey:yv=.int bs[i]:=by
      rw[aan,aad Fi]at hy
      exact(aaS hy).symm
     subst ex ey
     have Nl:d≠Tp:=af hd2 hT
     have Dc:(upd H2 Tp (.tup [.str M.switches[i],.int bs[i]])) d=some (.dK (cY ((M.switches.zip bs).take i))):=by rw[ah Nl];exact hd2
     refine⟨Tp,_,rfl,aH.of ae,rfl,_,_,rfl,_,_,rfl,rfl,?_⟩
     refine⟨_,rfl,_,rfl,_,rfl,d,_,rfl,gY.k (k:=.inr M.switches[i]) Dc ?_,?_⟩
     . unfold cY
       rw[aaa,aa3,abn]
       exact small (by omega)
     . refine⟨_,_,rfl,?_,λb o hb=>?_⟩
       . rw[ae,sy,zO hi Fi]
         rw[acx,cS l1]
         have:=ub (pre:=[]) (post:=[]) (by simpa using ndS) hi
         simpa using this
       . rw[ah (kp b o hb),ah (af (s2 _ _ hb) hT)]
         exact s2 _ _ hb
   rintro σ H2 ⟨v4,v5,rfl,hd2,s2⟩
   rw[aaa,aa8 (by rw[abn];omega)]at hd2
   have iD:=hM.same s2
   obtain⟨us,Nm,eO⟩:=id iD.kp
   have kg:=eO.length
   rw[aaa]at kg
   have ndK:=(aav.mp hf.nd).1
   refine⟨_,rfl,m,.ref a2,rfl,aX.k (k:=.inr "keepers") iD.top,_,rfl,a2,st,rfl,⟨_,aq.of Nm⟩,⟨_,ag.ku s2 lS⟩,BK (K:=K) (tp:=false) (tq:=true) (a:=a2) (b:=st) (xs:=us.map V.ref) (ys:=cs.map V.int) (by simp only[aaa];omega)
    (λi σ H3=>∃v5 v6,σ=[some (.ref m),some (.ref st),some (.ref tl),some (.ref d),v4,v5,v6,none,none]/\H3 d=some (.dK (cY (M.switches.zip bs++((M.keepers.map (·.1)).zip cs).take i)))/\(∀b o,H2 b=some o->b≠d->H3 b=some o)) ?_ ?_ ?_ ?_⟩
   . exact⟨v5,none,rfl,by rw[adn,abw];exact hd2,λ_ _ h _=>h⟩
   . rintro i σ H3 _ ⟨_,_,_,_,s3⟩
     refine⟨aq.of (s3 _ _ Nm ?_),aH.keep (ag.ku s2 lS) λo WY _ ho=>s3 _ _ ho (eX ho hd2 (WY _))⟩
     exact eX Nm hd2 (by intro z;cases z)
   . rintro i xv yv Tp σ H3 hx hy hT ⟨Je,v6,rfl,tj,s3⟩
     have hi:i<M.keepers.length:=by
      have:=(aas.mp hx).1
      rw[aaa]at this
      omega
     have Fi:i<cs.length:=by omega
     obtain⟨t,ht,IP⟩:=gw eO (i:=i) (b:=eZ M.keepers[i]) (by rw[aan,aad hi];rfl)
     have ex:xv=.ref t:=by
      rw[aan,ht]at hx
      exact(aaS hx).symm
     have ey:yv=.int cs[i]:=by
      rw[aan,aad Fi]at hy
      exact(aaS hy).symm
     subst ex ey
     have Nl:d≠Tp:=af tj hT
     have UO:(upd H3 Tp (.tup [.ref t,.int cs[i]])) d=some (.dK (cY (M.switches.zip bs++((M.keepers.map (·.1)).zip cs).take i))):=by rw[ah Nl];exact tj
     have WZ:t≠d:=eX IP hd2 (by intro z;cases z)
     have RU:=s3 _ _ IP WZ
     have W0:t≠Tp:=af RU hT
     refine⟨Tp,_,rfl,aH.of ae,rfl,_,_,rfl,_,_,rfl,rfl,?_⟩
     refine⟨_,rfl,_,rfl,_,rfl,t,_,0,.str M.keepers[i].1,rfl,rfl,aH.of (by rw[ah W0];exact RU),WW,d,_,rfl,gY.k (k:=.inr M.keepers[i].1) UO ?_,?_⟩
     . unfold cY
       simp only[aaa,aaf,aa3,abn]
       exact small (by omega)
     . refine⟨_,_,rfl,?_,λb o hb BN=>?_⟩
       . rw[ae,sy]
         . rw[zO (by rw[aaa];exact hi) Fi,adD,abo]
         . rw[aag,cS l1,acx,cS (by rw[aaa];exact l2)]
           have:=ub (l:=M.keepers.map (·.1)) (pre:=M.switches) (post:=[]) (by simpa using ndK) (i:=i) (by rw[aaa];exact hi)
           rw[adD]at this
           exact this
       . rw[ah BN,ah (af (s3 _ _ hb BN) hT)]
         exact s3 _ _ hb BN
   rintro σ H3 ⟨Je,v6,rfl,tj,s3⟩
   rw[aaa,kg,aa8 (by rw[abn,aaa];omega)]at tj
   have jd:ag H H3:=λb o hb=>s3 _ _ (s2 _ _ hb) (kp b o hb)
   have oA:=hM.same jd
   obtain⟨ts,Nn,vj⟩:=id oA.gt
   have sW:=vj.length
   rw[aaa]at sW
   refine⟨_,rfl,m,.ref a3,rfl,aX.k (k:=.inr "gates") oA.top,a3,rfl,⟨_,aq.of Nn⟩,gz (K:=K) (a:=a3) (xs:=ts.map V.ref) (λi σ H4=>∃v4 v7 v8,σ=[some (.ref m),some (.ref st),some (.ref tl),some (.ref d),v4,Je,v6,v7,v8]/\H4 d=some (.dK (cY (bJ M bs cs i)))/\(∀b o,H3 b=some o->b≠d->H4 b=some o)) ?_ ?_ ?_ ?_⟩
   . exact⟨v4,none,none,rfl,tj,λ_ _ h _=>h⟩
   . rintro i σ H4 _ ⟨_,_,_,_,_,s4⟩
     exact aq.of (s4 _ _ Nn (eX Nn tj (by intro z;cases z)))
   . rintro i xv σ H4 hx ⟨Np,v7,v8,rfl,BO,s4⟩
     have sV:i<(ts.map V.ref).length:=(aas.mp hx).1
     rw[aaa,sW]at sV
     obtain⟨t,ht,hT⟩:=gw vj (i:=i) (b:=dE M.gates[i]) (by rw[aan,aad sV];rfl)
     have ex:xv=.ref t:=by
      rw[aan,ht]at hx
      exact(aaS hx).symm
     subst ex
     obtain⟨nQ,eP,cx⟩:=hf.gate sV
     have BG:=xT (M:=M) hf.b1 hf.b2 i
     refine⟨t,_,rfl,aH.of (s4 _ _ hT (eX hT tj (by intro z;cases z))),rfl,_,_,rfl,_,_,rfl,_,_,rfl,rfl,?_⟩
     refine⟨_,rfl,_,rfl,d,_,_,rfl,.inl BO,eP,λH5 s5=>?_⟩
     refine⟨_,rfl,_,rfl,d,_,_,rfl,.inl (s5 _ _ BO),cx,λH6 s6=>?_⟩
     have W3:=s6 _ _ (s5 _ _ BO)
     have hlen:=hf.len i
     refine⟨_,_,rfl,rfl,.inl ?_,?_⟩
     . rcases pG BG M.gates[i].2.1 with e|e <;> rw[e] <;> decide
     refine⟨_,rfl,_,rfl,d,_,rfl,gY.k (k:=.inr M.gates[i].1) W3 (by unfold cY;rw[aaa];exact small (by omega)),?_⟩
     refine⟨_,_,_,rfl,?_,λb o hb BN=>?_⟩
     . rw[ae,sy nQ,xS sV]
       rfl
     . rw[ah BN]
       exact s6 _ _ (s5 _ _ (s4 _ _ hb BN))
   . rintro σ H4 ⟨Np,v7,v8,rfl,BO,s4⟩
     rw[aaa,sW]at BO
     exact⟨_,rfl,kk d H4 hd (λb o hb=>s4 _ _ (jd _ _ hb) (kp b o hb)) BO⟩
end
noncomputable def cI(l:List (Str×Str)) (n:Str):Str:=((l.find? λr=>decide (r.1=n)).map (·.2)).getD n
theorem zP(n:Str):∀l:List (Str×Str),(bA (aR l) (.inr n)).getD (.str n)=.str (cI l n)
 | []=>rfl
 | r::l=>by
  by_cases e:r.1=n
  . have h1:bA (aR (r::l)) (.inr n)=some (.str r.2):=fu (p:=((.inr r.1:Key),V.str r.2)) (by rw[e])
    rw[h1,cI,abf (by simpa using e)]
    rfl
  . have h1:bA (aR (r::l)) (.inr n)=bA (aR l) (.inr n):=fz (p:=((.inr r.1:Key),V.str r.2)) (λq=>e (acH q))
    rw[h1,zP n l,cI,cI,abg (by simpa using e)]
noncomputable def gQ(M:ax)(bs cs:List Int):List Int:=M.keepers.map λr=>cz (bJ M bs cs M.gates.length) (cI M.nexts r.1)
section
variable {M:ax}{names:List Str}{bs cs:List Int}
theorem lF.keys(h:lF M names bs cs):(bJ M bs cs M.gates.length).map (·.1)=names:=by rw[fh h.l1 h.l2,abp,h.ok.all]
theorem lF.next(h:lF M names bs cs){r:Str×V}(hr:r∈M.keepers):nE (bJ M bs cs M.gates.length) (cI M.nexts r.1):=by
 have hk:=h.keys
 unfold cI
 cases e:M.nexts.find? λq=>decide (q.1=r.1) with
 | none=>
  have hm:r.1∈names:=by rw[h.ok.all];exact acp _ (aaZ _ (aak.mpr ⟨r,hr,rfl⟩))
  exact .inr (.inr (.inl ⟨h.ok.nm _ hm,by rw[hk];exact hm⟩))
 | some q=>exact(h.ok.nxl q (aco e)).BM h.ok.nm λx hx=>by rw[hk];exact hx
theorem xU:(gQ M bs cs).length=M.keepers.length:=by unfold gQ;rw[aaa]
theorem lF.Fj(h:lF M names bs cs):∀b∈gQ M bs cs,b=0\/b=1:=λb hb=>by
 obtain⟨r,_,rfl⟩:=aak.mp hb
 exact pG (xT h.b1 h.b2 _) _
end
structure Fm(M:ax) (names:List Str):Prop where
 ok:aG M names
 n1:M.switches.length<=12
 n2:M.keepers.length<=16
 n3:M.gates.length<=60
noncomputable def iI(n:Nat)(bs:List Int):Prop:=n=bs.length/\∀b∈bs,b=0\/b=1
theorem Fm.fit{M:ax}{names:List Str}{bs cs:List Int}(h:Fm M names)(hb:iI M.switches.length bs)(hc:iI M.keepers.length cs):lF M names bs cs:=⟨h.ok,hb.1,hc.1,hb.2,hc.2,h.n1,h.n2,h.n3⟩
theorem Fm.step{M:ax}{names:List Str}{bs cs:List Int}(h:Fm M names)(hb:iI M.switches.length bs)(hc:iI M.keepers.length cs):iI M.keepers.length (gQ M bs cs):=⟨xU.symm,(h.fit hb hc).Fj⟩
theorem pK{a b:List (Str×Int)}{n:Str}(h:n∈a.map (·.1)):aY (a++b) n=aY a n:=by
 unfold aY
 rw[ae7]
 cases e:a.find? λr=>decide (r.1=n) with
 | some r=>rfl
 | none=>
  obtain⟨r,hr,he⟩:=aak.mp h
  have:=adf.mp e r hr
  exact absurd (aaU he) (by simpa using this)
theorem nR{a b:List (Str×Int)}{n:Str}(h:n∉a.map (·.1)):aY (a++b) n=aY b n:=by
 unfold aY
 rw[ae7]
 have e:(a.find? λr=>decide (r.1=n))=none:=adf.mpr λr hr=>by
  simp only[abb]
  intro q
  exact h (aak.mpr ⟨r,hr,q⟩)
 rw[e]
 rfl
theorem xV:∀{ks:List Str}{cs:List Int}{i:Nat}(h:i<ks.length) (h2:i<cs.length),ks.Nodup->aY (ks.zip cs) ks[i]=cs[i]
 | k::ks,c::cs,0,_,_,_=>by
  unfold aY
  rw[abX,abf (by simp)]
  rfl
 | k::ks,c::cs,i+1,h,h2,nd=>by
  have hn:¬ k=ks[i]'(by simpa using h):=λe=>(aa0.mp nd).1 (e ▸ abD _)
  have ih:=xV (ks:=ks) (cs:=cs) (i:=i) (by simpa using h) (by simpa using h2) (aa0.mp nd).2
  unfold aY at ih ⊢
  rw[abX,adh,abg (by simpa using hn),ih,adh]
noncomputable abbrev Dm:Stmt:=top 29
noncomputable def zQ(H:Hp)(t:Addr)(bs:List Int):Prop:=H t=some (.tup (bs.map V.int))
noncomputable def zR(K:W.Frag):Sp:=λvs H Q _=>∃(m a1 a2 a3 a4 a5 a6 st tl:Addr) (M:ax) (names:List Str) (bs cs:List Int),vs=[.ref m,.ref st,.ref tl]/\cb H m M a1 a2 a3 a4 a5 a6/\lF M names bs cs/\zN K H st cs/\aq K H tl (bs.map V.int)/\
 ∀t H',H t=none->ag H H'->zQ H' t (gQ M bs cs)->Q (.ref t) H'
noncomputable abbrev W4:List Str:=["_law_m", "_law_stand", "_law_told", "_law_values_here", "_law_nexts"]
theorem Nq:(["_law_name", "_law_first", "_law_values_here", "_law_nexts"]:List Str).Nodup:=by decide+kernel
theorem ia{α β γ:Type} {F:α->β->Prop}{g:γ->β} : ∀{us:List α}{l:List γ},Paired F us (l.map g)->Paired (λt r=>F t (g r)) us l
 | [],[],_=>.nil
 | _::_,_::_,.cons h t=>.cons h (ia t)
 | _::_,[],h=>nomatch h
 | [],_::_,h=>nomatch h
theorem cv{α β γ:Type} {F:α->β->Prop}{g:γ->β} : ∀{us:List α}{l:List γ},Paired (λt r=>F t (g r)) us l->Paired F us (l.map g)
 | _,_,.nil=>.nil
 | _,_,.cons h t=>.cons h (cv t)
theorem xW:∀(l:List (Str×Str)) (acc:List (Str×Str)),((acc++l).map (·.1)).Nodup->bE (aR acc) (aR l)=aR (acc++l)
 | [],acc,_=>by rw[abw];rfl
 | r::l,acc,h=>by
  have e:acc++r::l=(acc++[r])++l:=by simp
  have hn:r.1∉acc.map (·.1):=λhm=>by
   rw[aag]at h
   exact(aav.mp h).2.2 _ hm _ (by simp) rfl
  have h1:putK (aR acc) (.inr r.1) (.str r.2)=aR (acc++[r]):=by
   rw[mz _ (Hl hn)]
   unfold aR
   rw[aag]
   rfl
  show bE (putK (aR acc) (.inr r.1) (.str r.2)) (aR l)=_
  rw[h1,e]
  exact xW l (acc++[r]) (by rw[← e];exact h)
section
variable {P:Program}{w:World}{K:W.Frag}{mg:Str->Option Value}{base:Heap}
theorem Ho:aK W4 oy (aw Dm):=⟨rfl,rfl,rfl,by decide+kernel,rfl,by decide+kernel,by decide+kernel⟩
theorem Hq{f fV fB:Addr}{fd dV dB:FuncData}(F:aQ K "_law_next" "_law_next" Dm f fd)(O2:iu mg)
 (GV:aP P w K mg base aZ 2 fV dV oy (mQ K)) (mV:mg "_law_values" = some (.ref fV)) (W5:W.keepIn K (.ref fV)=true) (bV:Binds K dV oy [])
 (GB:aP P w K mg base aZ 1 fB dB ["_law_values_here", "_law_literal_here"] ox) (mB:mg "_law_bit" = some (.ref fB)) (kB:W.keepIn K (.ref fB)=true) (bB:Binds K dB ["_law_values_here", "_law_literal_here"] []):aP P w K mg base aZ 3 f fd oy (zR K):=by
 refine F.ok Ho (λvs H Q E h=>?_) (λcdv A outer s H vs Q E hr h=>?_)
 . obtain⟨m,a1,a2,a3,a4,a5,a6,st,tl,M,names,bs,cs,rfl,_⟩:=h
   rfl
 . obtain⟨m,a1,a2,a3,a4,a5,a6,st,tl,M,names,bs,cs,rfl,hM,hf,lS,lT,kk⟩:=h
   have hu:=eE hr
   have eC:aW 1 _:=hr.mono (by decide)
   refine⟨_,aj (bq (i:=3) Ho.nd rfl (Or.inr rfl) (aU GV hr rfl mV W5 bV .nil bw (aa (pv 0) (aa (pv 1) (aa (pv 2) ai)))))
    (aj (bq (i:=4) Ho.nd rfl (Or.inr rfl) (aN (bp rfl) (by rfl) O2.dict aaQ (aa (aD hu (pv 0) au (λ_ _=>rfl)) ai)))
    (av (aJ (aN lM (by rfl) O2.tuple acB (aa (b8 (N:=["_law_name", "_law_first", "_law_values_here", "_law_nexts"]) (js:=[none,none,some 3,some 4]) (g:=lK K 2 (dm (bO 0) (dm (bO 1) lJ))) (by kernel_rfl) rfl (ba (aD hu (pv 0) au (λ_ _=>rfl)))
     (λ_ _ _ _ _ _=>cN rfl (aA (ar (i:=0) Nq rfl (Or.inl rfl) (.inr rfl)) (aA (ar (i:=1) Nq rfl (Or.inl rfl) (.inr rfl)) cc))) (λ_ _ _ _ _ _=>bb)
     (λ_ _ _ _ _ _=>aU GB eC rfl mB kB bB .nil bw (aa (pv 2) (aa (oW hu (pv 3) (pv 0) (pv 0) ⟨rfl,rfl,rfl,rfl⟩) ai)))) ai))))),?_⟩
   refine⟨_,rfl,_,rfl,_,rfl,m,a1,a2,a3,a4,a5,a6,st,tl,M,names,bs,cs,rfl,hM,hf,lS,lT,λd H1 hd s1 EW=>?_⟩
   have eK:=hM.same s1
   obtain⟨us,ha,eO⟩:=id eK.nx
   have UP:Paired (λt kv=>H1 t=some (.tup [kV kv.1,kv.2])) us (aR M.nexts):=cv (g:=λr:Str×Str=>((.inr r.1:Key),V.str r.2)) (ia (g:=bx) eO)
   refine⟨_,rfl,m,.ref a4,rfl,aX.k (k:=.inr "nexts") eK.top,a4,us,aR M.nexts,rfl,ha,UP,λe he=>?_⟩
   rw[show bE [] (aR M.nexts)=aR M.nexts from xW M.nexts [] hf.ok.nxd]
   have s2:ag H1 (upd H1 e (.dK (aR M.nexts))):=ag.ak he
   have q2:(upd H1 e (.dK (aR M.nexts))) e=some (.dK (aR M.nexts)):=ae
   generalize upd H1 e (.dK (aR M.nexts))=H2 at s2 q2 ⊢
   have iD:=eK.same s2
   have hd2:=s2 _ _ EW
   obtain⟨ws,hb,Fl⟩:=id iD.kp
   have xk:=Fl.length
   rw[aaa]at xk
   have n2:=hf.n2
   have gJ:=s1.trans s2
   refine⟨_,rfl,m,.ref a2,rfl,aX.k (k:=.inr "keepers") iD.top,a2,rfl,⟨_,aq.of hb⟩,λD hD=>?_⟩
   refine gr M.keepers.length (λi acc σ H3=>acc=((gQ M bs cs).take i).map V.int/\(∃u v,σ=[u,v,some (.ref d),some (.ref e)])/\ag H2 H3) ⟨rfl,⟨none,none,rfl⟩,ag.ak hD⟩ ae ?_ ?_
   . rintro acc σ H3 bf ⟨rfl,_,s3⟩
     rw[aa8 (by rw[xU];exact aah _)]at bf
     refine⟨⟨_,aq.of (s3 _ _ hb),by rw[aaa,xk];exact aah _⟩,D,_,rfl,.inl ⟨aq.of bf,λt ht=>?_⟩⟩
     exact kk t _ (gJ.free (s3.free ht)) ((gJ.trans s3).trans (ag.ak ht)) ae
   . rintro i acc σ H3 hi bf ⟨rfl,⟨u,v,rfl⟩,s3⟩
     obtain⟨t,ht,hT⟩:=gw Fl (i:=i) (b:=eZ M.keepers[i]) (by rw[aan,aad hi];rfl)
     have ei:(ws.map V.ref)[i]?=some (.ref t):=by rw[aan,ht];rfl
     refine⟨⟨_,_,aq.of (s3 _ _ hb),ei⟩,?_⟩
     rintro x' H' ⟨rfl,fE⟩
     have ex:=fE _ (aq.of (s3 _ _ hb))
     rw[ei]at ex
     cases ex
     refine⟨t,_,rfl,aH.of (s3 _ _ hT),rfl,_,_,rfl,_,_,rfl,rfl,qR ?_⟩
     have q3:=s3 _ _ q2
     refine⟨_,rfl,_,rfl,e,rfl,.inl ⟨_,.inl q3⟩,_,rfl,_,rfl,_,aX.k (k:=.inr M.keepers[i].1) q3,?_⟩
     rw[zP]
     refine⟨d,_,_,rfl,.inl (s3 _ _ hd2),hf.next (abD hi),λH4 s4=>?_⟩
     refine⟨_,s4 _ _ bf,?_,cp hi ae ⟨?_,⟨_,_,rfl⟩,?_⟩⟩
     . rw[aaa,aa3]
       exact small (by omega)
     . have e:(gQ M bs cs)[i]?=some (cz (bJ M bs cs M.gates.length) (cI M.nexts M.keepers[i].1)):=by
        unfold gQ
        rw[aan,aad hi]
        rfl
       rw[abL,e,aag]
       rfl
     . intro y o hy
       rw[ah (af hy hD)]
       exact s4 y o (s3 y o hy)
end
end Gen
namespace L2
open PySem PySem.Spec PyProof.Rows
theorem dk [Decidable p] (h:decide p=true:=by decide+kernel):p:=aba h
theorem fs(h:aK N p sc:=by exact⟨rfl,rfl,rfl,by decide+kernel,rfl,by decide+kernel,by decide+kernel⟩):aK N p sc:=h
section
variable {K:W.Frag}{x q:Str}{st:Stmt}{f:Addr}{fd:FuncData}
theorem gx{us:List α}(h:us.length=n+1):∃a t,us=a::t/\t.length=n:=by
 cases us with
 | nil=>cases h
 | cons a t=>exact⟨a,t,rfl,Nat.succ.inj h⟩
theorem aQ.b1{p:Str}(F:aQ K x q st f fd) (h:∀(kV doc pm:Value) (an:Option Addr) (cdv ct a:Value),bindArgs (W.fnOf x q (iY st) (cu st) (aw st) .none kV doc pm an cdv ct) ⟨[a],[]⟩=pure [(p,a)]:=by intros;rfl):Binds K fd [p] []:=F.binds λkV doc pm an cdv ct us hl=>by obtain⟨a,t0,rfl,h0⟩:=gx hl;cases abC.mp h0;exact h kV doc pm an cdv ct a
theorem aQ.b2{p p2:Str}(F:aQ K x q st f fd) (h:∀(kV doc pm:Value) (an:Option Addr) (cdv ct a b:Value),bindArgs (W.fnOf x q (iY st) (cu st) (aw st) .none kV doc pm an cdv ct) ⟨[a,b],[]⟩=pure [(p,a),(p2,b)]:=by intros;rfl):Binds K fd [p,p2] []:=F.binds λkV doc pm an cdv ct us hl=>by obtain⟨a,t0,rfl,h0⟩:=gx hl;obtain⟨b,t1,rfl,h1⟩:=gx h0;cases abC.mp h1;exact h kV doc pm an cdv ct a b
theorem aQ.b3(F:aQ K x q st f fd) (h:∀(kV doc pm:Value) (an:Option Addr) (cdv ct a b c:Value),bindArgs (W.fnOf x q (iY st) (cu st) (aw st) .none kV doc pm an cdv ct) ⟨[a,b,c],[]⟩=pure [(p,a),(p2,b),(p3,c)]:=by intros;rfl):Binds K fd [p,p2,p3] []:=F.binds λkV doc pm an cdv ct us hl=>by obtain⟨a,t0,rfl,h0⟩:=gx hl;obtain⟨b,t1,rfl,h1⟩:=gx h0;obtain⟨c,t2,rfl,h2⟩:=gx h1;cases abC.mp h2;exact h kV doc pm an cdv ct a b c
theorem aQ.b4(F:aQ K x q st f fd) (h:∀(kV doc pm:Value) (an:Option Addr) (cdv ct a b c d:Value),bindArgs (W.fnOf x q (iY st) (cu st) (aw st) .none kV doc pm an cdv ct) ⟨[a,b,c,d],[]⟩=pure [(p,a),(p2,b),(p3,c),(p4,d)]:=by intros;rfl):Binds K fd [p,p2,p3,p4] []:=F.binds λkV doc pm an cdv ct us hl=>by obtain⟨a,t0,rfl,h0⟩:=gx hl;obtain⟨b,t1,rfl,h1⟩:=gx h0;obtain⟨c,t2,rfl,h2⟩:=gx h1;obtain⟨d,t3,rfl,h3⟩:=gx h2;cases abC.mp h3;exact h kV doc pm an cdv ct a b c d
theorem aQ.b7(F:aQ K x q st f fd) (h:∀(kV doc pm:Value) (an:Option Addr) (cdv ct a b c d e g i:Value),bindArgs (W.fnOf x q (iY st) (cu st) (aw st) .none kV doc pm an cdv ct) ⟨[a,b,c,d,e,g,i],[]⟩=pure [(p,a),(p2,b),(p3,c),(p4,d),(p5,e),(p6,g),(p7,i)]:=by intros;rfl):Binds K fd [p,p2,p3,p4,p5,p6,p7] []:=F.binds λkV doc pm an cdv ct us hl=>by obtain⟨a,t0,rfl,h0⟩:=gx hl;obtain⟨b,t1,rfl,h1⟩:=gx h0;obtain⟨c,t2,rfl,h2⟩:=gx h1;obtain⟨d,t3,rfl,h3⟩:=gx h2;obtain⟨e,t4,rfl,h4⟩:=gx h3;obtain⟨g,t5,rfl,h5⟩:=gx h4;obtain⟨i,t6,rfl,h6⟩:=gx h5;cases abC.mp h6;exact h kV doc pm an cdv ct a b c d e g i
structure cj(P:Program) (w:World) (K:W.Frag) (mg:Str->Option Value) (base:Heap) (k:Nat) (f:Addr) (d:FuncData) (x:Str) (ps:List Str) (sp:Sp):Prop where
 g:aP P w K mg base aZ k f d ps sp
 m:mg x=some (.ref f)
 k:W.keepIn K (.ref f)=true
 b:Binds K d ps []
end
section
variable {X:Cx}{k:Nat}{f C:Addr}{fd:FuncData}{ps:List Str}{sp:Sp}{x m:Str}{p pos apos:Pos}{e o:Expr}{es:List Expr}{ta:TE}{t:TA}
theorem a8(F:cj X.prog X.w X.K X.mg X.base k f fd x ps sp)(hr:aW k X.A) (ha:PA X (e::es) t) (hg:Gl X x:=by rfl) (hx:Passes aZ X E0:=by exact bw) (my:(x == ("__debug__" : Str))=false:=by decide) (he:starEach (e::es) X.env=(false,eval e X.env)::starEach es X.env:=by rfl) (gg:(backTo pos (starEach es X.env)).any (·.1)=false:=by rfl) :
 PE X (.Call (.Name x p) (e::es) [] pos) (uG sp [] E0 t):=aU F.g hr hg F.m F.k F.b .nil hx ha my he gg
end
section
variable {X:Cx}{k:Nat}{f C:Addr}{fd:FuncData}{ps:List Str}{sp:Sp}{x m:Str}{p pos pos' apos:Pos}{e o:Expr}{es:List Expr}{ta te:TE}{t:TA}
theorem cE(i:Nat)(hN:X.N.Nodup)(he:PE X e te)(hi:X.N[i]?=some x:=by rfl)(hx:Loc X.env.scope x:=by first|exact Or.inl rfl|exact Or.inr rfl) (hs:swapsWith e (some (.Name x pos')) pos.line X.env=pure false:=by rfl) (hf:X.fn x=true\/X.env.scope.names.lookup x=some .local:=by first|exact .inl rfl|exact .inr rfl|assumption) :
 PS X (.Assign [.Name x pos'] e pos) (qk te (bO i)):=bq hN hi hx he hs hf
end
theorem kF{α:Type}{t:Sem α}{Q Q':α->Shared->Prop}{M:Model}{A:Around}{E:Value->Shared->Prop}{s:Shared}(h:wpAny M A t Q E s)(h0:1<=s.toks)(hQ:∀a s,1<=s.toks->Q a s->Q' a s):wpAny M A t Q' E s:=aC (wpAny_toks 1 h0 h) λa s z=>hQ a s z.2 z.1
section
variable {X:Cx}
noncomputable def xX(X:Cx)(st:Stmt)(t:TS):Prop:=∀(pins:List (Addr×Obj)) (s:Shared) (σ:St) (H:Hp) (D:Ends),1<=s.toks->Inv X pins σ H s->t D σ H->wpAny (model X.prog X.w) X.A (exec st X.env) (SP X pins D) X.xe s
noncomputable def lP(X:Cx)(st:List Stmt)(t:TS):Prop:=∀(pins:List (Addr×Obj)) (s:Shared) (σ:St) (H:Hp) (D:Ends),1<=s.toks->Inv X pins σ H s->t D σ H->wpAny (model X.prog X.w) X.A (execs st X.env) (SP X pins D) X.xe s
theorem PS.t{st:Stmt}{t:TS}(h:PS X st t):xX X st t:=λpins s σ H D _ I q=>h pins s σ H D I q
theorem gj.t{st:List Stmt}{t:TS}(h:gj X st t):lP X st t:=λpins s σ H D _ I q=>h pins s σ H D I q
theorem gy{st:Stmt}{rest:List Stmt}{t u:TS}(h1:xX X st t)(h2:lP X rest u):lP X (st::rest) (Gm t u):=by
 intro pins s σ H D h0 I h
 refine acW (kF (h1 pins s σ H {D with nx:=u D} h0 I h) h0 λf s1 t1 q=>?_)
 cases f with
 | next=>
  obtain⟨bo,H',I',q⟩:=q
  exact h2 pins s1 bo H' D t1 I' q
 | ret v=>exact q
 | brk=>exact q
 | cont=>exact q
theorem ue{st:Stmt}{t:TS}(h1:xX X st t):lP X [st] t:=by
 intro pins s σ H D h0 I h
 refine acW (aC (h1 pins s σ H D h0 I h) λf s1 q=>?_)
 cases f with
 | next=>exact acI q
 | ret v=>exact q
 | brk=>exact q
 | cont=>exact q
theorem KI{tg e:Expr}{te:TE}{g:TG}{pos:Pos}(he:nB X e te)(hg:PG X tg g)(hs:swapsWithSole [tg] e pos.line X.env=pure false:=by rfl)(hw:swappedStores [tg] e X.env=pure none:=by rfl)
 (h1:(assignEach [tg] X.env).map (·.2)=[assign tg X.env]:=by rfl):xX X (.Assign [tg] e pos) (qk te g):=by
 intro pins s σ H D h0 I h
 refine wpAny_Assign_stores (aC (he pins s σ H _ I h0 h) λv s1 ⟨x,H1,I1,r1,q1⟩=>?_) hs hw
 rw[h1]
 exact aC (hg pins s1 σ H1 x v _ I1 r1 q1) λ_ s2 q=>q
theorem BP{i:Nat}{x:Str}{e:Expr}{te:TE}{pos' pos:Pos}(hN:X.N.Nodup)(hi:X.N[i]?=some x)(hx:Loc X.env.scope x)(he:nB X e te) (hs:swapsWith e (some (.Name x pos')) pos.line X.env=pure false:=by rfl) (hf:X.fn x=true\/X.env.scope.names.lookup x=some .local:=by first|exact .inl rfl|exact .inr rfl|assumption) :
 xX X (.Assign [.Name x pos'] e pos) (qk te (bO i)):=by
 intro pins s σ H D h0 I h
 refine aea (aC (he pins s σ H _ I h0 h) λv s1 ⟨y,H1,I1,r1,q1⟩=>?_) hs
 exact oT I1 hN hi hx r1 (λs2 I2=>⟨_,H1,I2,q1⟩) hf
theorem zS{o i value:Expr}{td ty tv:TE}{pos pos':Pos}(hu:X.A.units+1<cLine)(ho:PE X o td)(hi:PE X i ty)(hv:nB X value tv) (hs:swapsWith value (some (.Subscript o i pos')) pos.line X.env=pure false) :
 xX X (.Assign [.Subscript o i pos'] value pos) (Ip td ty tv):=by
 intro pins s σ H D h0 I h
 refine wpAny_Assign_Subscript (aC (hv pins s σ H _ I h0 h) λr s1 ⟨v,H1,I1,rv,q1⟩=>aC (ho pins s1 σ H1 _ I1 q1) λu s2 ⟨x,H2,I2,rx,q2⟩=>aC (hi pins s2 σ H2 _ I2 q2) λiv s3 ⟨y,H3,I3,ry,a,H4,ex,g,q3⟩=>?_) hs
 subst ex
 obtain rfl:u=Value.ref a:=rx
 exact xi hu I3 g ry rv λs4 I4=>⟨σ,H4,I4,q3⟩
theorem KJ{e:Expr}{te:TE}{pos:Pos}(he:nB X e te):xX X (.Return (some e) pos) (LB te):=by
 intro pins s σ H D h0 I h
 exact wpAny_Return_some (aC (he pins s σ H _ I h0 h) λv s1 ⟨x,H1,I1,r1,q1⟩=>⟨x,σ,H1,I1,r1,q1⟩)
theorem Nr{a b:Expr}{ta tb:TE}{op:Operator}{r:R2}{pos:Pos}(ho:iG X (binaryOp op) r) (ha:nB X a ta) (hb:nB X b tb):nB X (.BinOp a op b pos) (fo r ta tb):=by
 intro pins s σ H Q I h0 h
 refine wpAny_BinOp (kF (ha pins s σ H _ I h0 h) h0 λv s1 t1 zq=>?_)
 obtain⟨x,H1,I1,r1,q1⟩:=zq
 refine aC (hb pins s1 σ H1 _ I1 t1 q1) λu s2 zq=>?_
 obtain⟨y,H2,I2,r2,q2⟩:=zq
 exact ho pins s2 σ H2 x y v u Q I2 r1 r2 q2
theorem wo{tg iter:Expr}{body:List Stmt}{wi:TI}{g:TG}{tb:TS}{pos:Pos}(hp:PassesOwn (model X.prog X.w) X.A X.env X.xe) (hc:X.calm=true) (hi:PI X tg iter wi) (hg:PG X tg g) (hb:lP X body tb)
 (hs:∀x,foldedSetIterable iter X.env x=pure x:=by intro _;rfl):xX X (.For tg iter body [] pos) (LF wi g tb):=by
 intro pins s σ H D h0 I h
 refine wpAny_For (kF (hi pins s σ H _ I h) h0 λv s1 t1 h1=>kF h1 t1 λIl s2 t2 h2=>?_) hs
 obtain⟨it,fp,tn,J,H2,e,I2,T,jU,f2,W,⟨m0,w0⟩,turn⟩:=h2
 subst e
 have tQ:∀{H':Hp},(∀b∈fp,H' b=none)->∀b∈fp,iK X pins H' b:=λhn b hb=>⟨hn b hb,(f2 b hb).2⟩
 refine codeAny_forLoop_any (λn s'=>∃i bo H',1<=s'.toks/\Inv X pins bo H' s'/\tn i s'.heap/\(∀b∈fp,H' b=none)/\W i n bo H') ?_ m0 ⟨0,σ,H2,t2,I2,jU,λb hb=>(f2 b hb).1,w0⟩
 rintro n s3 ⟨i,ql,H3,t3,I3,DY,DZ,w3⟩
 rcases turn i n ql H3 w3 with⟨stop,qn⟩|⟨go,N,hN,step⟩
 . refine abG hp (aC (T.done X rfl rfl rfl hc i pins s3 ql H3 X.xe I3 (tQ DZ) DY stop) λr s4 ⟨hr,I4⟩=>?_)
   subst hr
   exact acI ⟨ql,H3,I4,qn⟩
 . refine abG hp (kF (T.item X rfl rfl rfl hc i pins s3 ql H3 X.xe I3 (tQ DZ) DY go) t3 λr s4 t4 zq=>?_)
   obtain⟨u,hr,h4⟩:=zq
   subst hr
   refine abG hp (kF h4 t4 λ_ s5 t5 zq=>?_)
   obtain⟨x,H5,I5,r5,y5,sI,Bk⟩:=zq
   have LG:=I5.pinned (tQ Bk) (T.obj _ _ sI)
   refine abG hp (kF (hg _ s5 ql H5 x u _ LG r5 (step x H5 y5)) t5 λ_ s6 t6 zq=>?_)
   obtain⟨T9,H6,I6,q6⟩:=zq
   refine abG hp (kF (hb _ s6 T9 H6 _ t6 I6 q6) t6 λf s7 t7 q7=>?_)
   have again:∀{mv:St}{H7:Hp},Inv X (pins++nV fp s5.heap) mv H7 s7->N mv H7->∃m,m<n/\∃i bo H',1<=s7.toks/\Inv X pins bo H' s7/\tn i s7.heap/\(∀b∈fp,H' b=none)/\W i m bo H':=λ{mv H7} I7 n7=>by
    obtain⟨m',hm,w7⟩:=hN mv H7 n7
    refine⟨m',hm,i+1,mv,H7,t7,I7.jC,T.keep _ _ _ sI λb hb o e=>(I7.pin (b,o) (aaZ _ (aaZ _ (iW hb e)))).1,λb hb=>?_,w7⟩
    obtain⟨o,e,d⟩:=T.obj _ _ sI b hb
    exact(I7.pin (b,o) (aaZ _ (aaZ _ (iW hb e)))).2.1
   cases f with
   | next=>obtain⟨mv,H7,I7,n7⟩:=q7;exact again I7 n7
   | cont=>obtain⟨mv,H7,I7,n7⟩:=q7;exact again I7 n7
   | brk=>obtain⟨mv,H7,I7,q7⟩:=q7;exact⟨mv,H7,I7.jC,q7⟩
   | ret v=>obtain⟨x7,mv,H7,I7,r7,q7⟩:=q7;exact⟨x7,mv,H7,I7.jC,r7,q7⟩
end
structure mf(P:Program) (w:World) (K:W.Frag) (mg:Str->Option Value) (base:Heap) (CX:ng) (k:Nat) (f:Addr) (fd:FuncData) (ps:List Str) (sp:Sp):Prop where
 len:∀vs H Q E,sp vs H Q E->vs.length=ps.length
 run:∀(A:Around) (outer:List Env) (s:Shared) (H:Hp) (args:Args) (us:List Value) (vs:List V) (Q:VK) (E:XK),1<=s.toks->aW k A->mx P w K mg base A outer s H->BindsTo s fd args (ps.zip us)->Vals vs us->sp vs H Q E->
  codeAny (model P w) A (.call (.ref f) args) (CR CX outer P w H s Q E) s
section
variable {X:Cx}{CX:ng}{k:Nat}{f:Addr}{fd:FuncData}{ps:List Str}{sp:Sp}{i9:List V}{ds:List Value}{E:XK}{x:Str}{p pos apos:Pos}{e o:Expr}{es:List Expr}{ta:TE}{t:TA}
theorem KL{pins:List (Addr×Obj)}{σ:St}{H:Hp}{s:Shared}{Q:VK}{us:List Value}{vs:List V}(h0:1<=s.toks) (F:mf X.prog X.w X.K X.mg X.base CX k f fd ps sp) (hr:aW k X.A) (hb:Binds X.K fd ps ds) (hd:Vals i9 ds) (hx:Passes CX X E)
 (I:Inv X pins σ H s) (r:Vals vs us) (h:sp (vs++i9) H Q E):wpAny (model X.prog X.w) X.A (call (.ref f) us) (EP X pins σ Q) X.xe s:=by
 have r2:Vals (vs++i9) (us++ds):=r.append hd
 have hl:(us++ds).length=ps.length:=by rw[← r2.length];exact F.len _ _ _ _ h
 refine wpAny_call (ad0 (F.run X.A X.stack s H ⟨us,[]⟩ (us++ds) (vs++i9) Q E h0 hr I.Gv (hb s us I.iw hl) r2 h) λr s' hq=>?_)
 cases r with
 | error e=>exact hx pins σ H s e s' I hq
 | ok fl=>
  cases fl with
  | ret u=>exact I.after hq
  | next=>exact False.elim hq
  | brk=>exact False.elim hq
  | cont=>exact False.elim hq
theorem Hr(F:mf X.prog X.w X.K X.mg X.base CX k f fd ps sp)(hr:aW k X.A)(hg:Gl X x) (hm:X.mg x=some (.ref f)) (hk:W.keepIn X.K (.ref f)=true) (hb:Binds X.K fd ps ds) (hd:Vals i9 ds) (hx:Passes CX X E)
 (ha:PA X (e::es) t) (my:(x == ("__debug__" : Str))=false:=by decide) (he:starEach (e::es) X.env=(false,eval e X.env)::starEach es X.env:=by rfl) (gg:(backTo pos (starEach es X.env)).any (·.1)=false:=by rfl) :
 nB X (.Call (.Name x p) (e::es) [] pos) (uG sp i9 E t):=by
 intro pins s σ H Q I h0 h
 refine abO (nU I hg hm ?_ my)
 refine aeB (h₀:=X.base) I.ok.mod.kin hk (kF (ha pos pins s σ H _ I h) h0 λus s1 t1 ⟨vs,H1,I1,r,q⟩=>⟨I1.iw,?_⟩) he gg
 exact KL t1 F hr hb hd hx I1 r q
end
theorem Nt{CX:ng}{P:Program}{w:World}{K:W.Frag}{mg:Str->Option Value}{base:Heap}{k:Nat}{f:Addr}{name qual:Str}{params:Arguments}{body:List Stmt}{scope:Scope}{dV kV doc pm cdv ct oc:Value}{an od:Option Addr}
 {qr:Array (Option Value)}{N ps:List Str}{sp:Sp}(lk:K.lookup f=some ⟨oc,od,.func (W.fnOf name qual params body scope dV kV doc pm an cdv ct),qr⟩) (lh:W.codeIn K cdv qual=true) (S:aK N ps scope)
 (len:∀vs H Q E,sp vs H Q E->vs.length=ps.length)
 (jZ:∀(A:Around) (outer:List Env) (s:Shared) (H:Hp) (vs:List V) (Q:VK) (E:XK),aW k (A.deeper (envOfC qual scope s.heap.objs.size f cdv))->sp vs H Q E->
  ∃t,lP (jj CX P w K mg base N qual scope f cdv A outer s H E) body t/\t {nx:=λ_ H'=>Q .aM H',rt:=Q} (start N vs) H) :
 mf P w K mg base CX (k+1) f (W.fnOf name qual params body scope dV kV doc pm an cdv ct) ps sp:=by
 refine⟨len,λA outer s H args us vs Q E h0 hr e0 hb r lj=>?_⟩
 have hl:=len _ _ _ _ lj
 have KX:K.In s.heap:=e0.mod.kin.keeps λb o e=>(e0.bs b o e).1
 have lim:s.heap.NoLimit:=e0.mod.nolimit.keeps λb o e=>(e0.bs b o e).1
 have Cn:∀y∈ps.zip us,scope.names.lookup y.1=some .local\/(scope.names.lookup y.1=some .cell/\((cellsFrom (s.heap.objs.size+1) scope.names []).lookup y.1).isSome=true):=λ⟨n,v⟩ hy=>by
  rcases S.par n (acq hy).1 with q|q
  . exact .inl q
  . exact .inr ⟨q,aen _ _ _ (.inl q)⟩
 refine codeAny_call_function hr.depth (KX _ _ lk) rfl S.co S.gen rfl (W.codeRec_of KX lh) (hb _ _ _ _ ?_)
 refine kF (adX S.kind Cn λenv he s1 x=>And.intro he x) h0 λenv s1 t1 hx=>?_
 obtain⟨he,x⟩:=hx
 subst he
 refine⟨lim.keeps x.toInCall.keep,codeAny_func ?_⟩
 obtain⟨t,ht,hq⟩:=jZ A outer s H vs Q E (hr.deeper _) lj
 have I:Inv (jj CX P w K mg base N qual scope f cdv A outer s H E) [] (start N vs) H s1:=xg S hr.hd e0 hl r x
 refine ab0 (ht [] s1 (start N vs) H _ t1 I hq) (λfl s' hs=>?_) λe s' hs=>hs
 have fin:∀{bo:St}{H':Hp}{v:V}{u:Value},Inv (jj CX P w K mg base N qual scope f cdv A outer s H E) [] bo H' s'->RelV v u->Q v H'->CE outer P w H s Q u s':=
  λ{bo H' v u} J rv q=>⟨v,H',J.os,J.bare,J.base,J.hok,rv,q⟩
 cases fl with
 | ret u=>
  obtain⟨v,bo,H',J,rv,q⟩:=hs
  exact fin J rv q
 | next=>
  obtain⟨bo,H',J,q⟩:=hs
  exact fin (v:=V.aM) (u:=Value.none) J rfl q
 | brk=>
  obtain⟨_,_,_,q⟩:=hs
  exact False.elim q
 | cont=>
  obtain⟨_,_,_,q⟩:=hs
  exact False.elim q
section
variable {X:Cx}
theorem Jg:∀{kvs:List (Key×V)}{vs:List (Key×Value)}{k:Key}{v:V},KV kvs vs->(kvs.map (·.1)).Nodup->(k,v)∈kvs->∃u,valueAt vs k=some u/\RelV v u
 | _,_,_,_,.nil,_,h=>nomatch h
 | kv::_,q::_,k,v,.cons ⟨e1,e2⟩ r,hn,h=>by
  rw[aay,aa0]at hn
  unfold valueAt
  rcases aal.mp h with e|e
  . have ek:q.1=k:=by rw[← e1,← e]
    rw[abf (by simpa using ek)]
    exact⟨q.2,rfl,by rw[← e]at e2;exact e2⟩
  . have ek:¬ q.1=k:=λz=>hn.1 (aak.mpr ⟨(k,v),e,by rw[e1];exact z.symm⟩)
    rw[abg (by simpa using ek)]
    exact Jg r hn.2 e
end
noncomputable def rev:Nat->Nat->Nat
 | 0,_=>0
 | k+1,i=>(i % 2)*2 ^ k+rev k (i / 2)
noncomputable def cB(k i j:Nat):Bool:=Nat.blt (rev k i) (rev k j)
section
variable {prog:Program}{w:World}{A:Around}{E:Value->Shared->Prop}{s:Shared}{κ:SortKind}{it:Nat->Keyed}{N:Nat}{c:Nat->Nat->Bool}{p:Array Nat}{pd:Array (Nat×Nat×Nat)}
end
section
variable {prog:Program}{w:World}{A:Around}{E:Value->Shared->Prop}{s:Shared}{κ:SortKind}{it:Nat->Keyed}{N:Nat}{c:Nat->Nat->Bool}{X Y:Array Nat}{n:Nat}
end
section
variable {prog:Program}{w:World}{A:Around}{E:Value->Shared->Prop}{s:Shared}{κ:SortKind}{it:Nat->Keyed}{N:Nat}{c:Nat->Nat->Bool}{p:Array Nat}{n:Nat}
end
end L2
namespace L2
open PySem PySem.Spec PyProof.Rows PySem.W
noncomputable def zQ(h:Heap)(v:Value)(ns:List Int):Prop:=∃a o xs n,v=.ref a/\h.get? a=some o/\o.cls=.type "tuple" /\ o.data=.seq xs n/\IntsAre xs.toList ns
theorem zQ.keep{h h':Heap}{v:Value}{ns:List Int}(x:zQ h v ns)(k:∀a o xs n,h.get? a=some o->o.cls=.type "tuple" -> o.data=.seq xs n->h'.get? a=some o):zQ h' v ns:=by
 obtain⟨a,o,xs,n,e,h1,h2,h3,h4⟩:=x
 exact⟨a,o,xs,n,e,k a o xs n h1 h2 h3,h2,h3,h4⟩
section
variable {prog:Program}{w:World}{A:Around}{E:Value->Shared->Prop}{s:Shared}{Q:Bool->Shared->Prop}
end
section
variable {prog:Program}{w:World}{A:Around}{E:Value->Shared->Prop}{s:Shared}
end
section
variable {prog:Program}{w:World}
end
section
variable {X:Cx}
end
section
variable {prog:Program}{w:World}{A:Around}{E:Value->Shared->Prop}{s:Shared}
end
theorem uf:∀{b c:List Int},b.map V.int=c.map V.int->b=c
 | [],[],_=>rfl
 | [],_::_,h=>nomatch h
 | _::_,[],h=>nomatch h
 | x::b,y::c,h=>by
  rw[aay,aay]at h
  have h1:=List.cons.inj h
  rw[V.int.inj h1.1,uf h1.2]
section
variable {X:Cx}
open Classical in
noncomputable def UQ(K:W.Frag):R2:=λx y H Q=>∃(t p:Addr) (b:List Int) (ts:List Addr) (bs:List (List Int)),x=.ref t/\y=.ref p/\aH K H t (b.map V.int)/\aq K H p (ts.map V.ref)/\Paired (λt b=>aH K H t (b.map V.int)) ts bs/\Q (.bl (decide (b∈bs))) H
theorem KN{A:Around}{pins:List (Addr×Obj)}{σ:St}{H:Hp}{s:Shared}(I:Inv X pins σ H s) (hu:A.units+1<cLine){t u:Addr}{b c:List Int}(ht:aH X.K H t (b.map V.int)) (Fn:aH X.K H u (c.map V.int)):SeqAt.EqAt A s (.ref t) (.ref u) (decide (b=c)):=by
 by_cases e:t=u
 . subst e
   have e2:b=c:=uf (I.qj ht Fn)
   rw[aaU e2]
   exact SeqAt.EqAt.same _
 . refine SeqAt.EqAt.of_refs e ?_
   obtain⟨its,rv,pl,_⟩:=I.tuple ht
   obtain⟨its',IQ,W6,_⟩:=I.tuple Fn
   have l1:=rv.length
   have l2:=IQ.length
   rw[aaa]at l1 l2
   have key:=SeqAt.RcAt.tuples (A:=A) (s:=s) (e:=λj=>decide (b.getD j 0=c.getD j 0)) pl W6 (by omega) (λj g1 g2=>?_)
   . have e3:((List.range (min its.toArray.size its'.toArray.size)).all (λj=>decide (b.getD j 0=c.getD j 0)) && its.toArray.size == its'.toArray.size)=decide (b=c):=by
      rw[abH,abu,abb,abK]
      simp only[aar,adJ,adm,abb]
      constructor
      . rintro⟨h1,h2⟩
        apply List.ext_getElem (by omega)
        intro i g1 g2
        have:=h1 i (by omega)
        simpa[g1,g2]using this
      . rintro rfl
        exact⟨λ_ _=>rfl,by omega⟩
     rw[← e3]
     exact key
   . simp only[aar]at g1 g2
     have hj:j<b.length:=by omega
     have RV:j<c.length:=by omega
     obtain⟨w1,e1,r1⟩:=rv.get (x:=.int b[j]) (by rw[aan,aad hj];rfl)
     obtain⟨w2,e2,r2⟩:=IQ.get (x:=.int c[j]) (by rw[aan,aad RV];rfl)
     have z:=uK (A:=A.in1) (s:=s) r1 r2 rfl rfl
     have a1:its.toArray[j]=w1:=by
      have:=(aas.mp e1).2
      simpa using this
     have a2:its'.toArray[j]=w2:=by
      have:=(aas.mp e2).2
      simpa using this
     rw[a1,a2]
     have e4:lr (.int b[j]) (.int c[j])=decide (b.getD j 0=c.getD j 0):=by
      simp[lr,hj,RV]
      rfl
     rw[← e4]
     exact z
theorem zT{A:Around}{pins:List (Addr×Obj)}{σ:St}{H:Hp}{s:Shared}(I:Inv X pins σ H s) (hu:A.units+1<cLine){t:Addr}{b:List Int}(ht:aH X.K H t (b.map V.int)) (f:Value->Bool) (hf:∀u c,aH X.K H u (c.map V.int)->f (.ref u)=decide (c=b)):∀{ts:List Addr}{vs:List Value}{bs:List (List Int)},Vals (ts.map V.ref) vs->Paired (λt b=>aH X.K H t (b.map V.int)) ts bs->(∀v∈vs,SeqAt.EqAt A s v (.ref t) (f v))/\vs.any f=bs.any λc=>decide (c=b)
 | [],vs,_,r,.nil=>by
  rw[ace]at r
  cases r
  exact⟨(λ_ h=>nomatch h),rfl⟩
 | u::ts,vs,c::bs,r,.cons h p=>by
  rw[aay]at r
  cases r with
  | cons r1 r2=>
   cases r1
   obtain⟨h1,h2⟩:=zT I hu ht f hf r2 p
   refine⟨λv hv=>?_,?_⟩
   . rcases aal.mp hv with rfl|hv
     . rw[hf u c h]
       exact KN I hu h ht
     . exact h1 v hv
   . rw[acO,acO,h2,hf u c h]
open Classical in
theorem W7(hu:X.A.units+2<cLine):iG X (compareOp .In) (UQ X.K):=by
 intro pins s σ H x y v u Q I rx ry h
 obtain⟨t,p,b,ts,bs,rfl,rfl,ht,hp,hb,q⟩:=h
 cases(show v=Value.ref t from rx)
 cases(show u=Value.ref p from ry)
 obtain⟨its,rv,pl,hz⟩:=I.list hp
 have hf:∀u c,aH X.K H u (c.map V.int)->(λv:Value=>decide (∃u,v=.ref u/\aH X.K H u (b.map V.int))) (.ref u)=decide (c=b):=λu c hc=>by
  show decide _=decide _
  congr 1
  refine propext ⟨?_,?_⟩
  . rintro⟨u',e,h'⟩
    cases e
    exact uf (I.qj hc h')
  . rintro rfl
    exact⟨u,rfl,hc⟩
 obtain⟨m1,m2⟩:=zT (A:=X.A.in1) I (by show X.A.in1.units+1<cLine;exact hu) ht (λv:Value=>decide (∃u,v=.ref u/\aH X.K H u (b.map V.int))) hf rv hb
 refine aeF _ pl.isList (λw hw=>m1 w (by simpa using hw)) ⟨.bl _,H,I,rfl,?_⟩
 have e:its.toArray.any (λv:Value=>decide (∃u,v=.ref u/\aH X.K H u (b.map V.int)))=decide (b∈bs):=by
  rw[show its.toArray.any (λv:Value=>decide (∃u,v=.ref u/\aH X.K H u (b.map V.int)))=its.any (λv:Value=>decide (∃u,v=.ref u/\aH X.K H u (b.map V.int))) by simp,m2,abH,aet,abb]
  constructor
  . rintro⟨c,hc,e⟩
    exact aba e ▸ hc
  . intro h
    exact⟨b,h,by simp⟩
 rw[e]
 exact q
end
end L2
namespace L2
open PySem PySem.Spec PyProof.Rows
mutual
inductive Dp(K:W.Frag) (H:Hp):V->PyData->Prop
 | aM:Dp K H .aM .none
 | bl (b):Dp K H (.bl b) (.bool b)
 | int (i):Dp K H (.int i) (.int i)
 | str (x):Dp K H (.str x) (.str x)
 | lst {a xs ds} : aq K H a xs->jt K H xs ds->Dp K H (.ref a) (.list ds)
 | tup {a xs ds} : aH K H a xs->jt K H xs ds->Dp K H (.ref a) (.tuple ds)
inductive jt(K:W.Frag) (H:Hp):List V->List PyData->Prop
 | nil:jt K H [] []
 | cons {x d xs ds} : Dp K H x d->jt K H xs ds->jt K H (x::xs) (d::ds)
end
section
variable {X:Cx}{pins:List (Addr×Obj)}{σ:St}{H:Hp}{s:Shared}
mutual
theorem Dp.reads(I:Inv X pins σ H s):∀{x:V}{d:PyData},Dp X.K H x d->∀{v:Value},RelV x v->∃as,Reads s.heap v d as
 | _,_,.aM,v,r=>by cases(show v=Value.none from r);exact⟨_,.none⟩
 | _,_,.bl b,v,r=>by cases(show v=Value.bool b from r);exact⟨_,.bool b⟩
 | _,_,.int i,v,r=>by obtain⟨t,rfl⟩:=r;exact⟨_,.int i t⟩
 | _,_,.str x,v,r=>by obtain⟨t,rfl⟩:=r;exact⟨_,.str x t⟩
 | _,_,.lst (a:=a) h1 h2,v,r=>by
  cases(show v=Value.ref a from r)
  obtain⟨its,rv,⟨o,n,e,c,dn,dt⟩,_⟩:=I.list h1
  obtain⟨as,ra⟩:=jt.reads I h2 rv
  exact⟨_,.list e c dt ra⟩
 | _,_,.tup (a:=a) h1 h2,v,r=>by
  cases(show v=Value.ref a from r)
  obtain⟨its,rv,⟨o,e,c,n,dt⟩,_⟩:=I.tuple h1
  obtain⟨as,ra⟩:=jt.reads I h2 rv
  exact⟨_,.tuple e c dt ra⟩
theorem jt.reads(I:Inv X pins σ H s):∀{xs:List V}{ds:List PyData},jt X.K H xs ds->∀{vs:List Value},Vals xs vs->∃as,ReadsAll s.heap vs ds as
 | _,_,.nil,_,.nil=>⟨_,.nil⟩
 | _,_,.cons h1 h2,_,.cons r1 r2=>by
  obtain⟨as,ra⟩:=Dp.reads I h1 r1
  obtain⟨bs,rb⟩:=jt.reads I h2 r2
  exact⟨_,.cons ra rb⟩
end
theorem jt.get{K:W.Frag}{H:Hp} : ∀{xs:List V}{ds:List PyData}{i:Nat}{d:PyData},jt K H xs ds->ds[i]?=some d->∃x,xs[i]?=some x/\Dp K H x d
 | _,_,_,_,.nil,e=>by simp at e
 | _,_,0,_,.cons h _,e=>by simp at e;subst e;exact⟨_,rfl,h⟩
 | _,_,i+1,_,.cons _ t,e=>by
  obtain⟨x,h1,h2⟩:=jt.get (i:=i) t (by simpa using e)
  exact⟨x,by simpa using h1,h2⟩
theorem zU{K:W.Frag}{H:Hp}{α:Type}{f:α->PyData} : ∀{us:List Addr}{l:List α},Paired (λu a=>Dp K H (.ref u) (f a)) us l->jt K H (us.map V.ref) (l.map f)
 | _,_,.nil=>.nil
 | _,_,.cons h t=>.cons h (zU t)
theorem pL{K:W.Frag}{H:Hp} : ∀(ns:List Str),jt K H (ns.map V.str) (ns.map PyData.str)
 | []=>.nil
 | n::ns=>.cons (.str n) (pL ns)
noncomputable abbrev dT(b:List Int):PyData:=.tuple (b.map PyData.int)
theorem wq(h:∀d∈l,d.canLay0=true):PyData.canLayAll0 l=true:=by
 induction l with
 | nil=>rfl
 | cons d l ih=>rw[PyData.canLayAll0,h d aaR,ih λe he=>h e (aaz _ he)];rfl
theorem wt(h:∀d∈l,d.depth<=n):PyData.depthAll l<=n:=by
 induction l with
 | nil=>exact abM _
 | cons d l ih=>rw[PyData.depthAll];exact Nat.max_le.mpr ⟨h d aaR,ih λe he=>h e (aaz _ he)⟩
noncomputable def Jh(K:W.Frag)(n:Nat)(f:PyData->PyData->Bool):R2:=λx y H Q=>∃da db,Dp K H x da/\Dp K H y db/\da.canLay0=true/\db.canLay0=true/\min da.depth db.depth<=n/\Q (.bl (f da db)) H
theorem KO(hu:X.A.units+n<cLine):iG X (compareOp .Eq) (Jh X.K n PyData.eqv):=by
 intro pins s σ H x y v u Q I rx ry h
 obtain⟨da,db,ha,hb,la,lb,hd,q⟩:=h
 obtain⟨as,ra⟩:=ha.reads I rx
 obtain⟨bs,rb⟩:=hb.reads I ry
 exact SeqAt.rcAt_reads ra rb la lb (by lia) X.prog X.w X.xe _ ⟨.bl _,H,I,rfl,q⟩
theorem sA(hu:X.A.units+n<cLine):iG X (compareOp .NotEq) (Jh X.K n λa b=>!PyData.eqv a b):=by
 intro pins s σ H x y v u Q I rx ry h
 obtain⟨da,db,ha,hb,la,lb,hd,q⟩:=h
 obtain⟨as,ra⟩:=ha.reads I rx
 obtain⟨bs,rb⟩:=hb.reads I ry
 exact SeqAt.rcNeAt_reads ra rb la lb (by lia) X.prog X.w X.xe _ ⟨.bl _,H,I,rfl,q⟩
end
section
variable {X:Cx}
end
theorem Fo{P:Program}{w:World}{fs:List Addr}{H:Hp}{h h':Heap}(ok:eT P w H h)(k:∀b u,h.get? b=some u->h'.get? b=some u):∀{ts:List Addr}{os:List HO},Paired (λa o=>h.objs.size<=a/\∀J:Hp,bz P w J h' a o) ts os->ts.Nodup->
 ∃H':Hp,Un fs [] H H' h h'/\eT P w H' h'/\ag H H'/\(∀b,H' b≠none->H b≠none\/b∈ts)/\Paired (λa o=>H a=none/\H' a=some o) ts os:=by
 intro ts os p
 induction p with
 | nil=>intro _;exact⟨H,Un.kept k,ok.kept k,λ_ _ e=>e,λb e=>.inl e,.nil⟩
 | @cons a o ts os h1 _ ih=>
  intro nd
  rw[aa0]at nd
  obtain⟨H1,u1,k1,s1,f1,p1⟩:=ih nd.2
  have Ha:H a=none:=ok.fresh h1.1
  have W8:H1 a=none:=by
   cases e:H1 a with
   | none=>rfl
   | some z=>
    rcases f1 a (by rw[e];simp) with q|q
    . exact absurd Ha q
    . exact absurd q nd.1
  have ne:∀{b:Addr}{z:HO},H b=some z->b≠a:=λe z=>by rw[z,Ha]at e;cases e
  have ne1:∀{b:Addr}{z:HO},H1 b=some z->b≠a:=λe z=>by rw[z,W8]at e;cases e
  refine⟨upd H1 a o,⟨u1.keep,u1.slot,λb ob q n hx=>?_,u1.there,λb xs q=>?_,λb ob u q=>?_,λb ps q=>?_⟩,λb u e=>?_,λb z e=>?_,λb e=>?_,.cons ⟨Ha,ae⟩ ?_⟩
  . have:b≠a:=aaw (aaV (aam q) h1.1)
    rw[ah this]
    exact u1.free b ob q n hx
  . rw[ah (ne q)];exact u1.tups b xs q
  . rw[ah (ne q)];exact u1.frzs b ob u q
  . obtain⟨more,z⟩:=u1.tbls b ps q
    exact⟨more,by rw[ah (ne q)];exact z⟩
  . by_cases hb:b=a
    . subst hb
      rw[ae]at e
      cases e
      exact h1.2 _
    . rw[ah hb]at e
      exact(k1 b u e).dw (λ_ _ _ z=>z) (λc z=>by rw[ah (ne1 z)];exact z) λc xs z=>by rw[ah (ne1 z)];exact z
  . rw[ah (ne e)];exact s1 b z e
  . by_cases hb:b=a
    . exact .inr (by rw[hb];exact aaR)
    . rw[ah hb]at e
      exact(f1 b e).imp id λz=>aaz _ z
  . exact Paired.bj p1 λc z e=>⟨e.1,by rw[ah (ne1 e.2)];exact e.2⟩
section
variable {X:Cx}
noncomputable def W9(td:TE):TE:=λσ H Q=>td σ H λx H1=>∃d kvs,x=.ref d/\Rd H1 d (.dK kvs)/\∀(l:Addr) (ts:List Addr) (H2:Hp),ag H1 H2->H1 l=none->H2 l=some (.lst (ts.map V.ref))->Paired (λt (kv:Key×V)=>H1 t=none/\H2 t=some (.tup [kV kv.1,kv.2])) ts kvs->Q (.ref l) H2
theorem iQ{o:Expr}{to:TE}{apos c9 p pos:Pos}(hc:X.calm=true)(ho:PE X o to)(hg:Gl X "list")(hm:X.mg "list" = none)
 (l8:attributeBase o "items" X.env (eval o X.env)=eval o X.env:=by rfl) (l9:(apos.endLine == c9.line)=true:=by rfl)
 (he:starEach [.Call (.Attribute o "items" apos) [] [] c9] X.env=(false,eval (.Call (.Attribute o "items" apos) [] [] c9) X.env)::starEach [] X.env:=by rfl) (gg:(backTo pos (starEach [] X.env)).any (·.1)=false:=by rfl) :
 PE X (.Call (.Name "list" p) [.Call (.Attribute o "items" apos) [] [] c9] [] pos) (W9 to):=by
 intro pins s σ H Q I h
 refine abO (iy I hg hm abr ?_)
 refine abi ?_ he gg
 rw[he]
 show wpAny _ _ (spliced ((false,eval (.Call (.Attribute o "items" apos) [] [] c9) X.env)::backTo pos (starEach [] X.env))) _ _ s
 refine aby ?_
 refine ac9 l8 l9 (aC (ho pins s σ H _ I h) λv s1 ⟨x,H1,I1,r1,d,kvs,e,hd,q⟩=>?_)
 subst e
 cases(show v=Value.ref d from r1)
 obtain⟨h1,h2,_⟩:=Ee I1 (.inl ⟨kvs,hd⟩)
 refine⟨"dict", "dict.items",acb,acA,ael,h1,h2,abY rfl (adM ?_)⟩
 obtain⟨z,hm,vs,rel,dd⟩:=iX I1.hok hd
 obtain⟨ob,es,ep,Fg,r⟩:=id dd
 have hlen:kvs.length=vs.length:=rel.length
 refine ad1 acA h1 aeg (ad8 _) (meets_dict_items (aO X.prog X.w) d hm) ⟨⟨vs,dd⟩,?_⟩
 have I2:Inv X pins σ H1 {s1 with heap:=s1.heap.push {cls:=.type "dict_items",data:=.fields #[.ref d] } }:=I1.kept (t':=s1.toks) λb o e=>aac _ e
 refine ach ?_
 refine W.kdx_call (knd:=aO X.prog X.w) (kvs:=vs) (ep:=ep) (I.ok.hd hc) (r:=s1.heap.objs.size) (d:=d) ⟨_,aaq _ rfl,rfl,rfl⟩ ⟨ob,es,aac _ Fg,r⟩ (by lia) λh' tk acc c as kk e hl G ea=>?_
 have pt:∀(as:List Addr) (kvs:List (Key×V)) (vs:List (Key×Value)),KV kvs vs->as.length=vs.length->(∀a∈as,s1.heap.objs.size+1<a)->(∀(j:Nat) (a:Addr),as[j]?=some a->∃key k x,vs[j]?=some (k,x)/\(aO X.prog X.w).is k key=true/\h'.get? a=some {cls:=.type "tuple",data:=.seq #[key,x] })->
  Paired (λa o=>s1.heap.objs.size+1<=a/\∀J:Hp,bz X.prog X.w J h' a o) as (kvs.map λkv=>HO.tup [kV kv.1,kv.2]):=by
  intro as kvs vs kv
  induction kv generalizing as with
  | nil=>intro hl _ _;rw[abC.mp hl];exact .nil
  | @cons a b as' bs Bz t ih=>
   intro hl ab pr
   match as,hl with
   | u::us,hl=>
    obtain⟨key,k,x,e1,e2,e3⟩:=pr 0 u rfl
    simp at e1
    refine .cons ⟨ado (ab u aaR),λJ=>?_⟩ (ih us (by simpa using hl) (λc hc=>ab c (aaz _ hc)) λj c hj=>?_)
    . have ek:k=a.1:=by rw[Bz.1,e1]
      have ex:x=b.2:=by rw[e1]
      subst ek ex
      exact⟨by show 2<=sizeLine;decide,[key,b.2],.cons (yl e2) (.cons Bz.2 .nil),⟨_,e3,rfl,_,rfl⟩⟩
    . exact pr (j+1) c (by simpa using hj)
 have sz:(s1.heap.push {cls:=.type "dict_items",data:=.fields #[.ref d] }).objs.size=s1.heap.objs.size+1:=abE ..
 have pp:=pt as kvs vs rel hl (λa ha=>by have:=G.above a ha;rw[sz]at this;exact this) λj a hj=>G.pairs j a hj
 rw[sz]at e
 have el:acc.toList=as.map Value.ref:=ea
 have Xa:∀l:List Addr,Vals (l.map V.ref) (l.map Value.ref):=λl=>by
  induction l with
  | nil=>exact .nil
  | cons a l ih=>exact .cons rfl ih
 have rv:Vals (as.map V.ref) acc.toList:=by rw[el];exact Xa as
 have UR:as.length<=sizeLine:=by lia
 have hL:∀J:Hp,bz X.prog X.w J h' (s1.heap.objs.size+1) (.lst (as.map V.ref)):=λJ=>⟨by rw[aaa];exact UR,acc.toList,c,rv,by simpa using e⟩
 obtain⟨H2,u2,k2,Xb,f2,p2⟩:=Fo (fs:=X.fs) I2.hok kk (ts:=(s1.heap.objs.size+1)::as) (os:=.lst (as.map V.ref)::kvs.map λkv=>HO.tup [kV kv.1,kv.2])
  (.cons ⟨by rw[sz];exact aah _,hL⟩ (Paired.bj pp λa o z=>⟨by rw[sz];exact z.1,z.2⟩)) (by
   rw[aa0]
   refine⟨λhm=>?_,G.rise.imp λh=>aaw h⟩
   have:=G.above _ hm
   rw[sz]at this
   exact abT _ this)
 rw[sz]
 cases p2 with
 | cons pa pb=>
  refine⟨.ref (s1.heap.objs.size+1),H2,I2.un u2 k2,rfl,q _ as H2 Xb pa.1 pa.2 ?_⟩
  have gen:∀{ts:List Addr}{l:List (Key×V)},Paired (λa o=>H1 a=none/\H2 a=some o) ts (l.map λkv=>HO.tup [kV kv.1,kv.2])->Paired (λt (kv:Key×V)=>H1 t=none/\H2 t=some (.tup [kV kv.1,kv.2])) ts l:=by
   intro ts l
   induction l generalizing ts with
   | nil=>intro h;cases h;exact .nil
   | cons a l ih=>intro h;cases h with|cons h1 h2=>exact .cons h1 (ih h2)
  exact gen pb
noncomputable def QS(K:W.Frag)(n:Nat):R2:=λx y H Q=>∃(p p':Addr) (ks ls:List (Key×V)) (ds:List PyData),x=.ref p/\y=.ref p'/\Rd H p (.dK ks)/\Rd H p' (.dK ls)/\ks.map (·.1)=ls.map (·.1)/\(ks.map (·.1)).Nodup/\jt K H (ks.map (·.2)) ds/\jt K H (ls.map (·.2)) ds/\
 (∀d∈ds,d.canLay0=true/\d.depth<=n/\PyData.eqv d d=true)/\Q (.bl true) H
theorem KP{n:Nat}(hu:X.A.units+n+1<cLine):iG X (compareOp .Eq) (QS X.K n):=by
 intro pins s σ H x y v u Q I rx ry h
 obtain⟨p,p',ks,ls,ds,rfl,rfl,h1,h2,hk,hn,d1,d2,hd,q⟩:=h
 cases(show v=Value.ref p from rx)
 cases(show u=Value.ref p' from ry)
 obtain⟨_,z1,vs,r1,e1⟩:=iX I.hok h1
 obtain⟨_,z2,ws,r2,e2⟩:=iX I.hok h2
 have l1:ks.length=vs.length:=acN r1
 have l2:ls.length=ws.length:=acN r2
 have l3:ks.length=ls.length:=by have:=congrArg List.length hk;simpa using this
 refine W.keq_eq (r:=true) z1 z2 e1 e2 (by lia) (λ_=>?_) ?_
 . have gen:∀{Fp:List (Key×V)}{us:List (Key×Value)},KV Fp us->∀{BQ:List (Key×V)}{Fq:List PyData},Fp.map (·.1)=BQ.map (·.1)->(∀kv∈BQ,kv∈ls)->jt X.K H (Fp.map (·.2)) Fq->jt X.K H (BQ.map (·.2)) Fq->(∀d∈Fq,d.canLay0=true/\d.depth<=n/\PyData.eqv d d=true)->W.KeqHits X.A.in1 s ws us true:=by
    intro Fp us h
    induction h with
    | nil=>intro _ _ _ _ _ _ _;exact .nil
    | @cons kv w Fp us h0 _ ih=>
     intro BQ Fq kc hm Xc Xd hd'
     match BQ,kc with
     | lv::BQ,kc=>
      rw[aay,aay]at kc
      injection kc with ek Xe
      cases Xc with
      | @cons _ d _ Fq da db=>
       cases Xd with
       | cons dc de=>
        obtain⟨g1,g2,g3⟩:=hd' d aaR
        obtain⟨y,hy,ry⟩:=Jg r2 (by rw[← hk];exact hn) (show (lv.1,lv.2)∈ls from hm lv aaR)
        obtain⟨as,ra⟩:=da.reads I h0.2
        obtain⟨bs,rb⟩:=dc.reads I ry
        have z:=SeqAt.eqAt_reads d d X.A.in1 s _ _ as bs ra rb g1 g1 (by show X.A.units+1+_<cLine;lia)
        rw[g3]at z
        have:=W.KeqHits.hit (k:=w.1) (v:=w.2) (by rw[← h0.1,ek];exact hy) z (ih Xe (λk h=>hm k (aaz _ h)) db de λd hd=>hd' d (aaz _ hd))
        simpa using this
   exact gen r1 hk (λ_ h=>h) d1 d2 hd
 . rw[← l1,← l2,l3]
   exact⟨.bl true,H,I,by simp[RelV],q⟩
end
section
variable {X:Cx}{N:List Str}{js:List (Option Nat)}{scope:Scope}{y:Str}{elt tg iter:Expr}{ifs:List Expr}{pos:Pos}{wi:TI}{g:TG}{ti:TT}{te:TE}
end
noncomputable def oB(H H':Hp)(v:V):V ⊕ HO->Prop
 | .inl x=>v=x
 | .inr o=>∃e,v=.ref e/\H e=none/\H' e=some o
noncomputable def Hs(D:Addr)(H H':Hp)(v:V):V ⊕ HO->Prop
 | .inl x=>v=x
 | .inr o=>∃e,v=.ref e/\e≠D/\H e=none/\H' e=some o
theorem same_none{H H':Hp}{a:Addr}(s:ag H H')(h:H' a=none):H a=none:=by
 cases e:H a with
 | none=>rfl
 | some o=>rw[s _ _ e]at h;cases h
theorem i3{α β:Type}{F:α->β->Prop}{l1:List α}{l2:List β}(h:Paired F l1 l2):∀{i:Nat}{b:β},l2[i]?=some b->∃a,l1[i]?=some a/\F a b:=by
 induction h with
 | nil=>intro i b e;simp at e
 | @cons a c _ _ h _ ih=>
  intro i b e
  cases i with
  | zero=>simp at e;subst e;exact⟨a,rfl,h⟩
  | succ i=>obtain⟨x,h1,h2⟩:=ih (i:=i) (by simpa using e);exact⟨x,by simpa using h1,h2⟩
theorem sC{α:Type}{J:It}{g:TG}{ti:TT}{te:TE}{D:Addr}{Q:Hp->Prop}{H:Hp}{Qq:St}(S:St->Prop)(xs:List α)(kp:α->Bool)(y:α->V ⊕ HO)(hD:H D=none)(h0:S Qq)(hl:xs.length<=10000)
 (stop:∀H9,ag H H9->J.stop xs.length H9)
 (step:∀(i:Nat) (x:α) (σ:St) (H9:Hp) (Z:St->Hp->Prop) (Y:St->VK),xs[i]?=some x->ag H H9->S σ->(kp x=false->∀eU H3,S eU->ag H9 H3->Z eU H3)->(kp x=true->∀eU v H4,S eU->ag H9 H4->oB H9 H4 v (y x)->Y eU v H4)->
  J.go i H9/\∀x' H',J.yld i H9 x' H'->g x' σ H' λeU H2=>ti eU H2 λb H3=>if b=true then te eU H3 (Y eU) else Z eU H3)
 (fin:∀(H':Hp) (vs:List V),ag H H'->H' D=some (.lst vs)->Paired (oB H H') vs ((xs.filter kp).map y)->Q H') :
 ∃W:Nat->Nat->St->Hp->Prop,(∃m,W 0 m Qq (upd H D (.lst [])))/\qC D g ti te J W Q:=by
 have nw:∀{H9:Hp}{o:HO},ag H H9->ag H (upd H9 D o):=λs9 c o hc=>by rw[ah (af hc hD)];exact s9 c o hc
 refine gr xs.length (λi acc σ H9=>S σ/\ag H H9/\Paired (Hs D H H9) acc (((xs.take i).filter kp).map y)) ⟨h0,nw λ_ _ h=>h,.nil⟩ ae ?_ ?_
 . rintro acc σ H9 bf ⟨_,s9,p9⟩
   rw[abp]at p9
   refine⟨stop H9 s9,fin H9 acc s9 bf (Paired.bj p9 λv z e=>?_)⟩
   cases z with
   | inl x=>exact e
   | inr o=>obtain⟨a,e1,_,e3,e4⟩:=e;exact⟨a,e1,e3,e4⟩
 . rintro i acc σ H9 hi bf ⟨hS,s9,p9⟩
   have e1:xs[i]?=some xs[i]:=aad hi
   have et:xs.take (i+1)=xs.take i++[xs[i]]:=by rw[abL,e1,ab7]
   have up:∀{H4:Hp},ag H9 H4->Paired (Hs D H H4) acc (((xs.take i).filter kp).map y):=λs4=>Paired.bj p9 λv z e=>by
    cases z with
    | inl x=>exact e
    | inr o=>obtain⟨a,e1,e2,e3,e4⟩:=e;exact⟨a,e1,e2,e3,s4 _ _ e4⟩
   refine step i xs[i] σ H9 _ (λeU v H4=>∃acc,H4 D=some (.lst acc)/\acc.length<sizeLine/\∃m',m'<xs.length-i/\Es D xs.length (λi acc σ H9=>S σ/\ag H H9/\Paired (Hs D H H9) acc (((xs.take i).filter kp).map y)) (i+1) m' eU (upd H4 D (.lst (acc++[v])))) e1 s9 hS (λhk eU H3 xx s3=>?_) (λhk eU v H4 xx s4 hv=>?_)
   . refine cp hi (s3 _ _ bf) ⟨xx,λb o hb=>s3 _ _ (s9 b o hb),?_⟩
     rw[et,abz,aa5 (by rw[hk];exact aax),adU,abw]
     exact up s3
   . have pl:=p9.length
     refine⟨acc,s4 _ _ bf,?_,cp hi ae ⟨xx,nw λb o hb=>s4 _ _ (s9 b o hb),?_⟩⟩
     . have h1:acc.length<=i:=by
        rw[pl,aaa]
        refine aao (aa7 _ _) ?_
        rw[aa3]
        exact Nat.min_le_left _ _
       exact abU (show acc.length<=10000 by lia) (by decide)
     . rw[et,abz,aa2 hk,adU,aag]
       refine ab8 (Paired.bj (up s4) λv z e=>?_) ?_
       . cases z with
         | inl x=>exact e
         | inr o=>obtain⟨a,e1,e2,e3,e4⟩:=e;exact⟨a,e1,e2,e3,by rw[ah e2];exact e4⟩
       . generalize y xs[i]=z at hv
         cases z with
         | inl x=>exact hv
         | inr o=>
          obtain⟨a,e1,e2,e3⟩:=hv
          have ne:a≠D:=(af bf e2).symm
          exact⟨a,e1,ne,same_none s9 e2,by rw[ah ne];exact e3⟩
noncomputable abbrev Rw(ti:TT)(te:TE)(H9:Hp)(σ:St)(k:Bool)(y:V ⊕ HO):Prop:=∀(Z:Hp->Prop) (Y:VK),(k=false->∀H3,ag H9 H3->Z H3)->(k=true->∀v H4,ag H9 H4->oB H9 H4 v y->Y v H4)->ti σ H9 λb H3=>if b=true then te σ H3 Y else Z H3
theorem rw_yes{te:TE}{H9:Hp}{σ:St}{y:V ⊕ HO}(h:∀Y:VK,(∀v H4,ag H9 H4->oB H9 H4 v y->Y v H4)->te σ H9 Y):Rw vR te H9 σ true y:=λZ Y _ h2=>by
 show (if true=true then te σ H9 Y else Z H9)
 rw[aa4 rfl]
 exact h Y (h2 rfl)
theorem jO{H:Hp}{p:Addr}{o:HO}(h:H p=none):oB H (upd H p o) (.ref p) (.inr o):=⟨p,rfl,h,ae⟩
section
variable {α:Type}{K:W.Frag}{D a:Addr}{xs:List α}{ti:TT}{te:TE}{ju:St}{Q:Hp->Prop}{H:Hp}{kp:α->Bool}{y:α->V ⊕ HO}
theorem i4(f:α->V)(hl:xs.length<=10000) (ha:H a=some (.lst (xs.map f))) (hD:H D=none) (he:∀x∈xs,∀H9,ag H H9->Rw ti te H9 (some (f x)::ju) (kp x) (y x))
 (fin:∀(H':Hp) (vs:List V),ag H H'->H' D=some (.lst vs)->Paired (oB H H') vs ((xs.filter kp).map y)->Q H'):∃W:Nat->Nat->St->Hp->Prop,(∃m,W 0 m (none::ju) (upd H D (.lst [])))/\qC D (bO 0) ti te (uF K a) W Q:=by
 refine sC (λσ=>∃u,σ=u::ju) xs kp y hD ⟨_,rfl⟩ hl (λH9 s9=>⟨_,aq.of (s9 _ _ ha),by rw[aaa];exact aah _⟩) ?_ fin
 rintro i x σ H9 Z Y hx s9 ⟨u,rfl⟩ h1 h2
 have ex:(xs.map f)[i]?=some (f x):=by rw[aan,hx];rfl
 refine⟨⟨_,_,aq.of (s9 _ _ ha),ex⟩,?_⟩
 rintro v H' ⟨rfl,w1⟩
 have z1:=w1 _ (aq.of (s9 _ _ ha))
 rw[ex]at z1
 cases z1
 exact he x (aaT hx) _ s9 _ _ (λhk H3 s3=>h1 hk _ _ ⟨_,rfl⟩ s3) λhk v H4 s4 hv=>h2 hk _ v H4 ⟨_,rfl⟩ s4 hv
theorem QT{ts:List Addr}(f1 f2:α->V)(hl:xs.length<=10000) (ha:H a=some (.lst (ts.map V.ref))) (ht:Paired (λt x=>H t=some (.tup [f1 x,f2 x])) ts xs) (hD:H D=none) (he:∀x∈xs,∀H9,ag H H9->Rw ti te H9 (some (f1 x)::some (f2 x)::ju) (kp x) (y x))
 (fin:∀(H':Hp) (vs:List V),ag H H'->H' D=some (.lst vs)->Paired (oB H H') vs ((xs.filter kp).map y)->Q H'):∃W:Nat->Nat->St->Hp->Prop,(∃m,W 0 m (none::none::ju) (upd H D (.lst [])))/\qC D (lK K 2 (dm (bO 0) (dm (bO 1) lJ))) ti te (uF K a) W Q:=by
 have gg:=ht.length
 refine sC (λσ=>∃u v,σ=u::v::ju) xs kp y hD ⟨_,_,rfl⟩ hl (λH9 s9=>⟨_,aq.of (s9 _ _ ha),by rw[aaa,gg];exact aah _⟩) ?_ fin
 rintro i x σ H9 Z Y hx s9 ⟨u,v,rfl⟩ h1 h2
 obtain⟨t,e1,e2⟩:=i3 ht hx
 have ex:(ts.map V.ref)[i]?=some (.ref t):=by rw[aan,e1];rfl
 refine⟨⟨_,_,aq.of (s9 _ _ ha),ex⟩,?_⟩
 rintro v H' ⟨rfl,w1⟩
 have z1:=w1 _ (aq.of (s9 _ _ ha))
 rw[ex]at z1
 cases z1
 exact⟨t,_,rfl,aH.of (s9 _ _ e2),rfl,_,_,rfl,_,_,rfl,rfl,he x (aaT hx) _ s9 _ _ (λhk H3 s3=>h1 hk _ _ ⟨_,_,rfl⟩ s3) λhk v H4 s4 hv=>h2 hk _ v H4 ⟨_,_,rfl⟩ s4 hv⟩
theorem Dn{d:Addr}{ob:Obj}(f1:α->Key)(f2:α->V)(hl:xs.length<=10000) (ha:H d=some (.bK ob (.dK (xs.map λx=>(f1 x,f2 x))))) (hD:H D=none) (he:∀x∈xs,∀H9,ag H H9->Rw ti te H9 (some (kV (f1 x))::some (f2 x)::ju) (kp x) (y x))
 (fin:∀(H':Hp) (vs:List V),ag H H'->H' D=some (.lst vs)->Paired (oB H H') vs ((xs.filter kp).map y)->Q H'):∃W:Nat->Nat->St->Hp->Prop,(∃m,W 0 m (none::none::ju) (upd H D (.lst [])))/\qC D (lK K 2 (dm (bO 0) (dm (bO 1) lJ))) ti te (Nb d ob (xs.map λx=>(f1 x,f2 x))) W Q:=by
 refine sC (λσ=>∃u v,σ=u::v::ju) xs kp y hD ⟨_,_,rfl⟩ hl (λH9 s9=>⟨s9 _ _ ha,by rw[aaa]⟩) ?_ fin
 rintro i x σ H9 Z Y hx s9 ⟨u,v,rfl⟩ h1 h2
 refine⟨⟨s9 _ _ ha,by rw[aaa];exact(aas.mp hx).1⟩,?_⟩
 rintro v H' ⟨T,kv,rfl,hT,iO,rfl⟩
 rw[aan,hx]at iO
 cases iO
 have s8:ag H9 (upd H9 T (.tup [kV (f1 x),f2 x])):=λb o e=>by rw[ah (af e hT)];exact e
 have up:∀{H4:Hp}{v:V},ag H9 (upd H9 T (.tup [kV (f1 x),f2 x]))->oB (upd H9 T (.tup [kV (f1 x),f2 x])) H4 v (y x)->oB H9 H4 v (y x):=λs hv=>by
  generalize y x=z at hv
  cases z with
  | inl q=>exact hv
  | inr o=>obtain⟨a,e1,e2,e3⟩:=hv;exact⟨a,e1,same_none s e2,e3⟩
 exact⟨T,_,rfl,aH.of ae,rfl,_,_,rfl,_,_,rfl,rfl,he x (aaT hx) _ (λb o e=>s8 _ _ (s9 b o e)) _ _ (λhk H3 s3=>h1 hk _ _ ⟨_,_,rfl⟩ λb o e=>s3 _ _ (s8 b o e)) λhk v H4 s4 hv=>h2 hk _ v H4 ⟨_,_,rfl⟩ (λb o e=>s4 _ _ (s8 b o e)) (up s8 hv)⟩
theorem Ji{d:Addr}{ob:Obj}(f1:α->Key)(f2:α->V)(hl:xs.length<=10000) (ha:H d=some (.bK ob (.dK (xs.map λx=>(f1 x,f2 x))))) (hD:H D=none) (he:∀x∈xs,∀H9,ag H H9->Rw ti te H9 (some (kV (f1 x))::ju) (kp x) (y x))
 (fin:∀(H':Hp) (vs:List V),ag H H'->H' D=some (.lst vs)->Paired (oB H H') vs ((xs.filter kp).map y)->Q H'):∃W:Nat->Nat->St->Hp->Prop,(∃m,W 0 m (none::ju) (upd H D (.lst [])))/\qC D (bO 0) ti te (BA d ob (xs.map λx=>(f1 x,f2 x))) W Q:=by
 refine sC (λσ=>∃u,σ=u::ju) xs kp y hD ⟨_,rfl⟩ hl (λH9 s9=>⟨s9 _ _ ha,by rw[aaa]⟩) ?_ fin
 rintro i x σ H9 Z Y hx s9 ⟨u,rfl⟩ h1 h2
 refine⟨⟨s9 _ _ ha,by rw[aaa];exact(aas.mp hx).1⟩,?_⟩
 rintro v H' ⟨rfl,kv,iO,rfl⟩
 rw[aan,hx]at iO
 cases iO
 exact he x (aaT hx) _ s9 _ _ (λhk H3 s3=>h1 hk _ _ ⟨_,rfl⟩ s3) λhk v H4 s4 hv=>h2 hk _ v H4 ⟨_,rfl⟩ s4 hv
theorem fU{H H':Hp}{α:Type}{f:α->V} : ∀{vs:List V}{l:List α},Paired (oB H H') vs (l.map λx=>.inl (f x))->vs=l.map f
 | [],[],_=>rfl
 | _::_,_::_,.cons h t=>by rw[aay,← fU t];exact congrArg (· :: _) h
 | _::_,[],h=>nomatch h
 | [],_::_,h=>nomatch h
theorem gB{H H':Hp}{α:Type}{f:α->HO} : ∀{vs:List V}{l:List α},Paired (oB H H') vs (l.map λx=>.inr (f x))->∃ts:List Addr,vs=ts.map V.ref/\Paired (λt x=>H t=none/\H' t=some (f x)) ts l
 | [],[],_=>⟨[],rfl,.nil⟩
 | _::_,_::_,.cons h t=>by
  obtain⟨a,e1,e2,e3⟩:=h
  obtain⟨ts,e4,p⟩:=gB t
  exact⟨a::ts,by rw[e1,e4];rfl,.cons ⟨e2,e3⟩ p⟩
 | _::_,[],h=>nomatch h
 | [],_::_,h=>nomatch h
end
section
variable {X:Cx}{k:Nat}{f:Addr}{fd:FuncData}{ps:List Str}{sp:Sp}{x:Str}{p pos pos' apos:Pos}{e o:Expr}{es:List Expr}{ta te:TE}{t:TA}
noncomputable def Fs(X:Cx)(e:Expr)(t:TE):Prop:=∀(pins:List (Addr×Obj)) (s:Shared) (σ:St) (H:Hp) (Q:VK),Inv X pins σ H s->t σ H Q->wpAny (model X.prog X.w) X.A (eval e X.env) (λv s'=>EP X pins σ Q v s'/\1<=s'.toks) X.xe s
noncomputable def Ft(X:Cx)(es:List Expr)(t:TA):Prop:=∀(pos:Pos) (pins:List (Addr×Obj)) (s:Shared) (σ:St) (H:Hp) (Q:List V->Hp->Prop),Inv X pins σ H s->t σ H Q->wpAny (model X.prog X.w) X.A (spliced (backTo pos (starEach es X.env))) (λv s'=>AP X pins σ Q v s'/\1<=s'.toks) X.xe s
noncomputable def RW(X:Cx)(st:Stmt)(t:TS):Prop:=∀(pins:List (Addr×Obj)) (s:Shared) (σ:St) (H:Hp) (D:Ends),Inv X pins σ H s->t D σ H->wpAny (model X.prog X.w) X.A (exec st X.env) (λf s'=>SP X pins D f s'/\1<=s'.toks) X.xe s
theorem KQ{i j pos} : Fs X (.Constant (.int i) j pos) (tC (.int i)):=λ_ _ _ H _ I h=>wpAny_Constant_int ⟨⟨.int i,H,I.tok _,⟨_,rfl⟩,h⟩,Nat.le_add_left _ _⟩
theorem ug(ha:Fs X e te)(hr:PA X es t) (hs:starEach (e::es) X.env=(false,eval e X.env)::starEach es X.env:=by rfl):Ft X (e::es) (cW te t):=by
 intro pos pins s σ H Q I h
 rw[hs]
 show wpAny _ _ (spliced ((false,eval e X.env)::backTo pos (starEach es X.env))) _ _ s
 refine aby (aC (ha pins s σ H _ I h) λu s1 zq=>?_)
 obtain⟨⟨x,H1,I1,r1,q1⟩,t1⟩:=zq
 exact kF (hr pos pins s1 σ H1 _ I1 q1) t1 λus s2 t2 ⟨xs,H2,I2,r2,q2⟩=>⟨⟨x::xs,H2,I2,.cons r1 r2,q2⟩,t2⟩
theorem zV(ha:PE X e te)(hr:Ft X es t) (hs:starEach (e::es) X.env=(false,eval e X.env)::starEach es X.env:=by rfl):Ft X (e::es) (cW te t):=by
 intro pos pins s σ H Q I h
 rw[hs]
 show wpAny _ _ (spliced ((false,eval e X.env)::backTo pos (starEach es X.env))) _ _ s
 refine aby (aC (ha pins s σ H _ I h) λu s1 zq=>?_)
 obtain⟨x,H1,I1,r1,q1⟩:=zq
 exact aC (hr pos pins s1 σ H1 _ I1 q1) λus s2 ⟨⟨xs,H2,I2,r2,q2⟩,t2⟩=>⟨⟨x::xs,H2,I2,.cons r1 r2,q2⟩,t2⟩
theorem KR(h:Ft X es t):Fs X (.List es pos) (Cm t):=by
 intro pins s σ H Q I hq
 refine adZ (aC (h pos pins s σ H _ I hq) λus s1 ⟨⟨xs,H1,I1,r,z,q⟩,t1⟩=>⟨by rw[← r.length];exact z,?_⟩)
 have hf:H1 s1.heap.objs.size=none:=I1.hok.fresh (aah _)
 refine⟨⟨.ref s1.heap.objs.size,upd H1 s1.heap.objs.size (.lst xs),I1.laid (t':=s1.toks) (λb u e=>aac _ e) (aah _) ?_,rfl,q _ hf⟩,t1⟩
 exact⟨z,us,0,r,aaq _ rfl⟩
theorem BR(F:cj X.prog X.w X.K X.mg X.base k f fd x ps sp)(hr:aW k X.A) (ha:Ft X (e::es) t) (hg:Gl X x:=by rfl) (hx:Passes aZ X E0:=by exact bw) (my:(x == ("__debug__" : Str))=false:=by decide) (he:starEach (e::es) X.env=(false,eval e X.env)::starEach es X.env:=by rfl) (gg:(backTo pos (starEach es X.env)).any (·.1)=false:=by rfl) :
 Fs X (.Call (.Name x p) (e::es) [] pos) (uG sp [] E0 t):=by
 intro pins s σ H Q I h
 refine abO (nU I hg F.m ?_ my)
 refine aeB (h₀:=X.base) I.ok.mod.kin F.k (aC (ha pos pins s σ H _ I h) λus s1 ⟨⟨vs,H1,I1,r,q⟩,t1⟩=>⟨I1.iw,?_⟩) he gg
 exact kF (D8 F.g hr F.b .nil hx I1 r q) t1 λ_ _ t2 z=>⟨z,t2⟩
theorem KS(i:Nat)(hN:X.N.Nodup)(he:Fs X e te)(hi:X.N[i]?=some x:=by rfl)(hx:Loc X.env.scope x:=by first|exact Or.inl rfl|exact Or.inr rfl) (hs:swapsWith e (some (.Name x pos')) pos.line X.env=pure false:=by rfl) (hf:X.fn x=true\/X.env.scope.names.lookup x=some .local:=by first|exact .inl rfl|exact .inr rfl|assumption) :
 RW X (.Assign [.Name x pos'] e pos) (qk te (bO i)):=by
 intro pins s σ H D I h
 refine aea (aC (he pins s σ H _ I h) λv s1 ⟨⟨y,H1,I1,r1,q1⟩,t1⟩=>?_) hs
 exact kF (oT I1 hN hi hx r1 (λs2 I2=>⟨_,H1,I2,q1⟩) hf) t1 λ_ _ t2 z=>⟨z,t2⟩
theorem Fu{st:Stmt}{rest:List Stmt}{t u:TS}(h1:RW X st t)(h2:lP X rest u):gj X (st::rest) (Gm t u):=by
 intro pins s σ H D I h
 refine acW (aC (h1 pins s σ H {D with nx:=u D} I h) λf s1 q=>?_)
 obtain⟨q,t1⟩:=q
 cases f with
 | next=>
  obtain⟨bo,H',I',q⟩:=q
  exact h2 pins s1 bo H' D t1 I' q
 | ret v=>exact q
 | brk=>exact q
 | cont=>exact q
theorem lP.m8{st:List Stmt}{t:TS}(h:lP X.m8 st t):lP X st t:=λpins s σ H D t0 I hw=>
 ab0 (h pins s σ H D t0 (I.wish _) hw) (λ_ _ q=>q.jT) λ_ _ z=>False.elim z
theorem aQ.US{K:W.Frag}{x q:Str}{st:Stmt}{f:Addr}{fd:FuncData}{N ps:List Str}{P:Program}{w:World}{mg:Str->Option Value}{base:Heap}{sp:Sp}{k:Nat}(F:aQ K x q st f fd) (S:aK N ps (aw st))
 (jZ:∀(cdv:Value) (A:Around) (outer:List Env) (s:Shared) (H:Hp) (vs:List V) (Q:VK) (E:XK),aW k (A.deeper (envOfC q (aw st) s.heap.objs.size f cdv))->sp vs H Q E->
  ∃t,lP (jj aZ P w K mg base N q (aw st) f cdv A outer s H E).m8 (cu st) t/\t {nx:=λ_ H'=>Q .aM H',rt:=Q} (start N vs) H)
 (len:∀vs H Q E,sp vs H Q E->vs.length=ps.length:=by intro _ _ _ _ h;cases h;subst_vars;rfl):mf P w K mg base aZ (k+1) f fd ps sp:=by
 obtain⟨oc,od,kV,doc,pm,an,cdv,ct,qr,rfl,lk,lh⟩:=F.ex
 refine Nt lk lh S len λA outer s H vs Q E hr lj=>?_
 obtain⟨t,h,q⟩:=jZ cdv A outer s H vs Q E hr lj
 exact⟨t,h.m8,q⟩
theorem aQ.go{K:W.Frag}{x q:Str}{st:Stmt}{f:Addr}{fd:FuncData}{N ps:List Str}{P:Program}{w:World}{mg:Str->Option Value}{base:Heap}{sp:Sp}{k:Nat}(F:aQ K x q st f fd) (S:aK N ps (aw st))
 (jZ:∀(cdv:Value) (A:Around) (outer:List Env) (s:Shared) (H:Hp) (vs:List V) (Q:VK) (E:XK),aW k (A.deeper (envOfC q (aw st) s.heap.objs.size f cdv))->sp vs H Q E->
  ∃t,gj (jj aZ P w K mg base N q (aw st) f cdv A outer s H E).m8 (cu st) t/\t {nx:=λ_ H'=>Q .aM H',rt:=Q} (start N vs) H)
 (len:∀vs H Q E,sp vs H Q E->vs.length=ps.length:=by intro _ _ _ _ h;repeat (first|(obtain⟨rfl,_⟩:=h;rfl)|(obtain⟨_,h⟩:=h))):aP P w K mg base aZ (k+1) f fd ps sp:=F.ok S len jZ
theorem aQ.Nu{K:W.Frag}{x q:Str}{st:Stmt}{f:Addr}{fd:FuncData}{N ps:List Str}{P:Program}{w:World}{mg:Str->Option Value}{base:Heap}{sp:Sp}{k:Nat}(F:aQ K x q st f fd) (S:aK N ps (aw st))
 (jZ:∀(cdv:Value) (A:Around) (outer:List Env) (s:Shared) (H:Hp) (vs:List V) (Q:VK) (E:XK),aW k (A.deeper (envOfC q (aw st) s.heap.objs.size f cdv))->sp vs H Q E->
  ∃t,lP (jj aZ P w K mg base N q (aw st) f cdv A outer s H E).m8 (cu st) t/\t {nx:=λ_ H'=>Q .aM H',rt:=Q} (start N vs) H)
 (len:∀vs H Q E,sp vs H Q E->vs.length=ps.length:=by intro _ _ _ _ h;repeat (first|(obtain⟨rfl,_⟩:=h;rfl)|(obtain⟨_,h⟩:=h))):mf P w K mg base aZ (k+1) f fd ps sp:=F.US S jZ len
structure uh(P:Program) (w:World) (K:W.Frag) (mg:Str->Option Value) (base:Heap) (k:Nat) (f:Addr) (d:FuncData) (x:Str) (ps:List Str) (sp:Sp):Prop where
 g:mf P w K mg base aZ k f d ps sp
 m:mg x=some (.ref f)
 k:W.keepIn K (.ref f)=true
 b:Binds K d ps []
theorem mn(F:uh X.prog X.w X.K X.mg X.base k f fd x ps sp)(hr:aW k X.A) (ha:PA X (e::es) t) (hg:Gl X x:=by rfl) (hx:Passes aZ X E0:=by exact bw) (my:(x == ("__debug__" : Str))=false:=by decide) (he:starEach (e::es) X.env=(false,eval e X.env)::starEach es X.env:=by rfl) (gg:(backTo pos (starEach es X.env)).any (·.1)=false:=by rfl) :
 nB X (.Call (.Name x p) (e::es) [] pos) (uG sp [] E0 t):=Hr F.g hr hg F.m F.k F.b .nil hx ha my he gg
theorem Ht(he:nB X e te) (hs:starEach [e] X.env=(false,eval e X.env)::starEach [] X.env:=by rfl):nB X (.List [e] pos) (Cm (cW te jY)):=by
 intro pins s σ H Q I h0 hq
 refine adZ ?_
 rw[hs]
 show wpAny _ _ (spliced ((false,eval e X.env)::backTo pos (starEach [] X.env))) _ _ s
 refine aby (aC (he pins s σ H _ I h0 hq) λu s1 zq=>?_)
 obtain⟨x,H1,I1,r1,z,q⟩:=zq
 refine ach ⟨by show 1<=sizeLine;decide,?_⟩
 have hf:H1 s1.heap.objs.size=none:=I1.hok.fresh (aah _)
 refine⟨.ref s1.heap.objs.size,upd H1 s1.heap.objs.size (.lst [x]),I1.laid (t':=s1.toks) (λb u e=>aac _ e) (aah _) ?_,rfl,q _ hf⟩
 exact⟨z,[u],0,.cons r1 .nil,aaq _ rfl⟩
theorem Fv{r:V->Option Int->Option Int->Hp->VK->Prop}{lo hi:Option Expr}{tl th:TO}{p2:Pos}(hr:Eg X r)(he:nB X e te)(hl:PO X lo tl)(hu:PO X hi th):nB X (.Subscript e (.Slice lo hi none p2) pos) (Rk r te tl th):=by
 intro pins s σ H Q I h0 h
 refine Subscript_ (aC (he pins s σ H _ I h0 h) λv s1 zq=>?_)
 obtain⟨x,H1,I1,r1,q1⟩:=zq
 refine wpAny_Slice (aC (hl pins s1 σ H1 _ I1 q1) λvl s2 ⟨l,H2,I2,pl,q2⟩=>aC (hu pins s2 σ H2 _ I2 q2) λvu s3 zq=>?_)
 obtain⟨u,H3,I3,pu,q3⟩:=zq
 rw[aeX]
 refine aaj ?_
 have I4:Inv X pins σ H3 {s3 with heap:=s3.heap.push {cls:=.type "slice",data:=.fields #[vl,vu,.none] } }:=I3.kept (t':=s3.toks) λb ob q=>aac _ q
 obtain⟨T,id,hT,ht,hg⟩:=hr pins {s3 with heap:=s3.heap.push {cls:=.type "slice",data:=.fields #[vl,vu,.none] } } σ H3 x v vl vu l u s3.heap.objs.size Q I4 r1 (Heap.IsSliceOf.new ..) pl pu q3
 show wpAny (model X.prog X.w) X.A (subscriptTail e (.Slice lo hi none p2) v (.ref s3.heap.objs.size)) (EP X pins σ Q) X.xe {s3 with heap:=s3.heap.push {cls:=.type "slice",data:=.fields #[vl,vu,.none] } }
 exact tail_any (ops:=[.ref s3.heap.objs.size,v]) ht hT hg (by with_unfolding_all rfl)
noncomputable def QU(K:W.Frag):V->List V->Hp->VK->Prop:=λx vs H Q=>∃l b xs zs,x=.ref l/\vs=[.ref b]/\H l=some (.lst xs)/\aH K H b zs/\xs.length+zs.length<=sizeLine/\Q .aM (upd H l (.lst (xs++zs)))
theorem KU(l:Addr)(items:Array Value)(n:Nat)(b:Addr)(rE:Array Value) (hs0:¬(!items.isEmpty && Builtin.List.listTooLong (items.size+rE.size))=true) (pY:items.size<=sizeLine) (i8:items.size+rE.size<=sizeLine+1) :
 Meets (Builtin.«list.extend» ⟨[.ref l,.ref b],[]⟩) (λ_ R s=>s.heap.get? l=some {cls:=.type "list",dict:=none,data:=.seq items n,slots:=#[] } /\ IsTup s.heap b rE/\R (.ok (.ret Value.none)) {s with heap:=s.heap.update l (Obj.mapSeq λx=>x++rE),toks:=s.toks}):=
 .of_wp λprog w A R s h=>by
  obtain⟨hp,g,d,tk,os⟩:=s;obtain⟨hl,hb,h⟩:=h
  obtain⟨⟨cl,di,da,sl⟩,hb,hc,n2,hd⟩:=hb
  dsimp only at hc hd
  subst hc hd
  have xj:(items++rE).size<=sizeLine+1:=by rw[ae2];exact i8
  wp_walk using (wpAny_updateSeq hl rfl (hz:=pY) (_hz':=xj)),wpAny_loadPart' hl,wpAny_loadPart' hb;exact⟨_,rfl,h⟩
theorem KW:sM X "list.extend" (QU X.K):=by
 intro pins s σ H x vs v us Q I rx rv h
 obtain⟨l,b,xs,zs,rfl,rfl,hH,hB,hz,q⟩:=h
 cases rx
 obtain⟨u,rfl,ru⟩:=rv.one
 cases ru
 obtain⟨z,its,n,r,hl,e⟩:=I.oX hH
 obtain⟨lN,r2,e2,_⟩:=I.tuple hB
 have cx:=r2.length
 have hsz:its.toArray.size+lN.toArray.size<=sizeLine:=by rw[aar,aar];lia
 have Cq:¬ (!its.toArray.isEmpty && Builtin.List.listTooLong (its.toArray.size+lN.toArray.size))=true:=by
  rw[oY hsz,Bool.and_false]
  exact aax
 refine ac5 F.slot_list_extend ⟨_,e,rfl⟩ F.entry_list_extend (F.args_list_extend_2 _ _)
  (KU l its.toArray n b lN.toArray Cq (by rw[aar];lia) (by lia)) ⟨e,e2,?_⟩
 refine⟨.aM,_,I.vO (its':=its++lN) hH e (by simp) (r.append r2) ?_,rfl,q⟩
 rw[aaf]
 lia
end
theorem vm(z:Str)(c:Nat):Builtin.Str.partsBetween z (Builtin.Str.occurrences z ⟨#[c]⟩ 0 z.length (z.length+1)) 1=(iP c z.cps.toList).map BJ:=by
 obtain⟨h,t,e⟩:=we c z.cps.toList
 have hn:z.cps.toList.length=z.length:=by simp[Str.length]
 have k:=t8 (c:=c) (L:=z.cps.toList) z.length 0 0 (by omega) (aah _) h t (by simpa using e)
 rw[M9,Fe,← hn,hn,e]
 rw[hn]at k
 rw[k]
 simp
theorem rF{z:Str}(h:126∉z.cps.toList):Txt.replace z "~" "" = z:=by
 have tl:("~" : Str)=⟨#[126]⟩:=by decide+kernel
 unfold Txt.replace
 rw[tl]
 split
 . rfl
 . have h3:=vm z 126
   rw[qZ h]at h3
   rw[show (Str.length ⟨#[126]⟩)=1 from rfl,h3]
   cases z
   simp[Builtin.Str.glued,BJ]
theorem Dq{z:Str}(h:126∉z.cps.toList):Txt.replace ("~" ++ z) "~" "" = z:=by
 have tl:("~" : Str)=⟨#[126]⟩:=by decide+kernel
 have tc:(("~" : Str)++z).cps.toList=126::z.cps.toList:=by
  show ((("~" : Str)).cps++z.cps).toList=_
  rw[aeU,show (("~" : Str)).cps.toList=[126] by decide+kernel]
  rfl
 have h3:=vm ("~" ++ z) 126
 rw[tc,show (126::z.cps.toList)=[]++126::z.cps.toList from rfl,BI (by simp),qZ h,← tl]at h3
 have e0:("" : Str).cps = #[]:=by decide+kernel
 unfold Txt.replace
 split
 . rename_i hq
   exfalso
   have h4:=congrArg List.length h3
   simp only[Builtin.Str.partsBetween,aaa,abn,abl,aaf,ac7]at h4
   rw[Bool.or_eq_true]at hq
   rcases hq with hq|hq
   . rw[List.isEmpty_iff.mp hq]at h4
     simp at h4
   . revert hq
     decide+kernel
 . rw[show (Str.length ("~" : Str))=1 by decide+kernel,h3]
   cases z
   simp[Builtin.Str.glued,BJ,e0]
end L2
namespace Gen
open PySem L2
noncomputable abbrev zW:Stmt:=top 5
structure MF(C:Addr) (H:Hp) (x dx g1 g2 g3 g4 g5 g6:Addr) (ts:List Addr) (M:ax):Prop where
 hx:H x=some (.ins C dx (jk g1 g2 g3 g4 g5 g6))
 h1:H g1=some (.lst (M.switches.map V.str))
 h2:H g2=some (.dK (M.keepers.map λr=>((.inr r.1:Key),r.2)))
 h3:H g3=some (.lst (ts.map V.ref))
 hp:Paired (λt r=>H t=some (.tup (dE r))) ts M.gates
theorem MF.same{C:Addr}{H H':Hp}{x dx g1 g2 g3 g4 g5 g6:Addr}{ts:List Addr}{M:ax}(h:MF C H x dx g1 g2 g3 g4 g5 g6 ts M)(s:ag H H'):MF C H' x dx g1 g2 g3 g4 g5 g6 ts M:=
 ⟨s _ _ h.hx,s _ _ h.h1,s _ _ h.h2,s _ _ h.h3,Paired.bj h.hp λt r e=>s _ _ e⟩
noncomputable def bg(M:ax):List Str:=M.switches++M.keepers.map (·.1)++M.gates.map (·.1)
noncomputable def wu(C:Addr):Sp:=λvs H Q _=>∃(x dx g1 g2 g3 g4 g5 g6:Addr) (ts:List Addr) (M:ax),vs=[.ref x]/\MF C H x dx g1 g2 g3 g4 g5 g6 ts M/\M.switches.length<=100/\M.keepers.length<=100/\M.gates.length<=100/\∀p H',H p=none->ag H H'->H' p=some (.lst ((bg M).map V.str))->Q (.ref p) H'
theorem UU:(["gate"]:List Str).Nodup:=by decide+kernel
theorem iR{x:V}{xs:List V} : gn (x::xs) 0=some x:=fi (j:=0) rfl
section
variable {P:Program}{w:World}{K:W.Frag}{mg:Str->Option Value}{base:Heap}{C:Addr}
theorem KY:aK ["machine"] ["machine"] (aw zW):=⟨rfl,rfl,rfl,by decide+kernel,rfl,by decide+kernel,by decide+kernel⟩
theorem Hu{f:Addr}{fd:FuncData}(F:aQ K "names_of" "names_of" zW f fd)(T:mO K mg C)(O:iu mg):aP P w K mg base aZ 1 f fd ["machine"] (wu C):=by
 refine F.ok KY (λvs H Q E h=>?_) (λcdv A outer s H vs Q E hr h=>?_)
 . obtain⟨x,dx,g1,g2,g3,g4,g5,g6,ts,M,rfl,_⟩:=h
   rfl
 . obtain⟨x,dx,g1,g2,g3,g4,g5,g6,ts,M,rfl,hM,l1,l2,l3,kk⟩:=h
   refine⟨_,av (aJ (az hX (az hX (cq (pv 0) rfl) (aN (vZ rfl) (by rfl) O.list abr (aa (cq (pv 0) rfl) ai)))
    (b8 (N:=["gate"]) (js:=[none]) (te:=fo (ck K) (aL 0) (tC (.int 0))) (by kernel_rfl) rfl (ba (cq (pv 0) rfl)) (λ_ _ _ _ _ _=>ar (i:=0) UU rfl (Or.inl rfl) (.inr rfl)) (λ_ _ _ _ _ _=>bb) (λ_ _ _ _ _ _=>aF (r:=ck K) bT (pv 0) ao (λ_ _=>rfl))))),?_⟩
   refine⟨_,rfl,x,C,dx,_,_,rfl,hM.hx,T.cl,T.n1,zG ..,_,rfl,x,C,dx,_,_,rfl,hM.hx,T.cl,T.n2,ow ..,g2,_,rfl,.inl hM.h2,λq1 Xf=>?_⟩
   have ek:(M.keepers.map λr=>((.inr r.1:Key),r.2)).map (λkv=>kV kv.1)=(M.keepers.map (·.1)).map V.str:=by rw[aa1,aa1];rfl
   rw[ek]
   have s1:ag H (upd H q1 (.lst ((M.keepers.map (·.1)).map V.str))):=ag.ak Xf
   have e1:(upd H q1 (.lst ((M.keepers.map (·.1)).map V.str))) q1=some (.lst ((M.keepers.map (·.1)).map V.str)):=ae
   generalize upd H q1 (.lst ((M.keepers.map (·.1)).map V.str))=H1 at s1 e1 ⊢
   have eK:=hM.same s1
   refine⟨g1,q1,_,_,rfl,rfl,eK.h1,e1,(by simp only[aaa];exact iL (by omega)),λq2 Xg=>?_⟩
   have s2:ag H1 (upd H1 q2 (.lst (M.switches.map V.str++(M.keepers.map (·.1)).map V.str))):=ag.ak Xg
   have e2:(upd H1 q2 (.lst (M.switches.map V.str++(M.keepers.map (·.1)).map V.str))) q2=some (.lst ((M.switches++M.keepers.map (·.1)).map V.str)):=by rw[ae,aag]
   generalize upd H1 q2 (.lst (M.switches.map V.str++(M.keepers.map (·.1)).map V.str))=H2 at s2 e2 ⊢
   have iD:=eK.same s2
   have gg:=iD.hp.length
   refine⟨_,rfl,x,C,dx,_,_,rfl,iD.hx,T.cl,T.n3,rn ..,g3,rfl,⟨_,aq.of iD.h3⟩,λD hD=>?_⟩
   refine gr M.gates.length (λj acc bo H4=>acc=((M.gates.take j).map (·.1)).map V.str/\(∃u,bo=[u])/\ag H2 H4) ⟨rfl,⟨none,rfl⟩,ag.ak hD⟩ ae ?_ ?_
   . rintro acc bo H4 bf ⟨rfl,_,s4⟩
     rw[abp]at bf
     refine⟨⟨_,aq.of (s4 _ _ iD.h3),by rw[aaa,gg];exact aah _⟩,q2,D,_,_,rfl,rfl,s4 _ _ e2,bf,(by simp only[aaa,aaf];exact iL (by omega)),λq3 IG=>?_⟩
     have kh:=(s1.trans s2).trans s4
     refine kk q3 _ (kh.free IG) (kh.trans (ag.ak IG)) ?_
     rw[ae,← aag]
     rfl
   . rintro j acc bo H4 hj bf ⟨rfl,⟨u,rfl⟩,s4⟩
     have tm:M.gates[j]?=some M.gates[j]:=aad hj
     obtain⟨t,ht,hT⟩:=gw iD.hp (i:=j) tm
     have ej:(ts.map V.ref)[j]?=some (.ref t):=by rw[aan,ht];rfl
     refine⟨⟨_,_,aq.of (s4 _ _ iD.h3),ej⟩,?_⟩
     rintro x' H' ⟨rfl,fE⟩
     have ex:=fE _ (aq.of (s4 _ _ iD.h3))
     rw[ej]at ex
     cases ex
     refine fg ?_
     refine⟨_,rfl,t,_,0,_,rfl,rfl,aH.of (s4 _ _ hT),iR,_,bf,(by rw[aaa,aaa,aa3];exact small (by omega)),cp hj ae ⟨?_,⟨_,rfl⟩,?_⟩⟩
     . rw[abL,tm,aag,aag]
       rfl
     . intro y o hy
       rw[ah (af hy hD)]
       exact s4 y o hy
end
theorem zX{n:Str}{l:List (Str×V)}(h:n∉l.map (·.1)):bA (br l) (.inr n)=none:=by
 have:=kz n l
 rw[aaW h]at this
 cases e:bA (br l) (.inr n) with
 | none=>rfl
 | some v=>rw[e]at this;cases this
theorem iS:∀(l:List (Str×V)) (acc:List (Str×V)),((acc++l).map (·.1)).Nodup->bE (br acc) (br l)=br (acc++l)
 | [],acc,_=>by rw[abw];rfl
 | r::l,acc,h=>by
  have e:acc++r::l=(acc++[r])++l:=by simp
  have hn:r.1∉acc.map (·.1):=λhm=>by
   rw[aag]at h
   exact(aav.mp h).2.2 _ hm _ (by simp) rfl
  have h1:putK (br acc) (.inr r.1) r.2=br (acc++[r]):=by
   rw[mz _ (zX hn)]
   unfold br
   rw[aag]
   rfl
  show bE (putK (br acc) (.inr r.1) r.2) (br l)=_
  rw[h1,e]
  exact iS l (acc++[r]) (by rw[← e];exact h)
theorem il{l:List (Str×Str)}(h:(l.map (·.1)).Nodup):bE [] (aR l)=aR l:=by
 rw[Jd]
 exact iS _ [] (by rw[abV,aa1];exact h)
theorem pM{α β γ δ:Type} {F:α->γ->Prop}{F':α->δ->Prop}{g:β->γ}{h:β->δ} : ∀{ts:List α}{l:List β},Paired F ts (l.map g)->(∀t x,F t (g x)->F' t (h x))->Paired F' ts (l.map h)
 | [],[],_,_=>.nil
 | t::ts,x::l,.cons r p,k=>.cons (k t x r) (pM p k)
theorem oC{H:Hp}{a:Addr}{α:Type}{l:List α}{g:α->List V}{h:α->Key×V}(e:∀x,g x=[kV (h x).1,(h x).2]) (t:aE H a (l.map g)):∃ts:List Addr,H a=some (.lst (ts.map V.ref))/\Paired (λt kv=>H t=some (.tup [kV kv.1,kv.2])) ts (l.map h):=by
 obtain⟨ts,h1,h2⟩:=t
 exact⟨ts,h1,pM h2 λt x hx=>by rw[← e x];exact hx⟩
structure MO(C:Addr) (H:Hp) (x dx g1 g2 g3 g4 g5 g6:Addr) (ts:List Addr) (M:ax):Prop extends MF C H x dx g1 g2 g3 g4 g5 g6 ts M where
 h4:H g4=some (.dK (aR M.nexts))
 h5:H g5=some (.dK (aR M.nevers))
 h6:H g6=some (.dK (aR M.somes))
theorem MO.same{C:Addr}{H H':Hp}{x dx g1 g2 g3 g4 g5 g6:Addr}{ts:List Addr}{M:ax}(h:MO C H x dx g1 g2 g3 g4 g5 g6 ts M)(s:ag H H'):MO C H' x dx g1 g2 g3 g4 g5 g6 ts M:=
 ⟨h.toMF.same s,s _ _ h.h4,s _ _ h.h5,s _ _ h.h6⟩
noncomputable abbrev Dr:Stmt:=top 25
noncomputable abbrev QV:List Str:=["_law_m", "_law_switches", "_law_gates"]
noncomputable def zY(C:Addr):Sp:=λvs H Q _=>∃(m:Addr) (M:ax) (a1 a2 a3 a4 a5 a6:Addr),vs=[.ref m]/\cb H m M a1 a2 a3 a4 a5 a6/\(M.keepers.map (·.1)).Nodup/\(M.nexts.map (·.1)).Nodup/\(M.nevers.map (·.1)).Nodup/\(M.somes.map (·.1)).Nodup/\
 ∀(x dx g1 g2 g3 g4 g5 g6:Addr) (ts:List Addr) (H':Hp),ag H H'->MO C H' x dx g1 g2 g3 g4 g5 g6 ts M->Q (.ref x) H'
section
variable {P:Program}{w:World}{K:W.Frag}{mg:Str->Option Value}{base:Heap}{C:Addr}
theorem zZ:aK QV ["_law_m"] (aw Dr):=⟨rfl,rfl,rfl,by decide+kernel,rfl,by decide+kernel,by decide+kernel⟩
theorem KZ{f fI:Addr}{fd dI:FuncData}(F:aQ K "_law_made" "_law_made" Dr f fd)(T:mO K mg C)(O:iu mg)
 (mI:Mk K C fI) (gI:aP P w K mg base aZ 1 fI dI nC (zI C)) (bI:Binds K dI nC []):aP P w K mg base aZ 3 f fd ["_law_m"] (zY C):=by
 refine F.ok zZ (λvs H Q E h=>?_) (λcdv A outer s H vs Q E hr h=>?_)
 . obtain⟨m,M,a1,a2,a3,a4,a5,a6,rfl,_⟩:=h
   rfl
 . obtain⟨m,M,a1,a2,a3,a4,a5,a6,rfl,hM,Nv,Xh,Xi,Xj,kk⟩:=h
   have hu:=eE hr
   refine⟨_,aj (bq (i:=1) zZ.nd rfl (Or.inl rfl) (aN eN (by rfl) O.list abr (aa (aD hu (pv 0) au (λ_ _=>rfl)) ai)))
    (aj (bq (i:=2) zZ.nd rfl (Or.inl rfl) (aN eN (by rfl) O.list abr (aa (aD hu (pv 0) au (λ_ _=>rfl)) ai)))
    (av (aJ (Bm mI gI hr rfl T.mgC bI .nil bw (aa (pv 1)
     (aa (aN (bp rfl) (by rfl) O.dict aaQ (aa (aD hu (pv 0) au (λ_ _=>rfl)) ai))
     (aa (pv 2)
     (aa (aN (bp rfl) (by rfl) O.dict aaQ (aa (aD hu (pv 0) au (λ_ _=>rfl)) ai))
     (aa (aN (bp rfl) (by rfl) O.dict aaQ (aa (aD hu (pv 0) au (λ_ _=>rfl)) ai))
     (aa (aN (bp rfl) (by rfl) O.dict aaQ (aa (aD hu (pv 0) au (λ_ _=>rfl)) ai)) ai)))))))))),?_⟩
   refine⟨_,rfl,m,.ref a1,rfl,aX.k (k:=.inr "switches") hM.top,a1,_,rfl,.inl (aq.of hM.sw),λf1 e1=>?_⟩
   have s1:ag H (upd H f1 (.lst (M.switches.map V.str))):=ag.ak e1
   have q1:(upd H f1 (.lst (M.switches.map V.str))) f1=_:=ae
   generalize upd H f1 (.lst (M.switches.map V.str))=H1 at s1 q1 ⊢
   obtain⟨us,h3,eO⟩:=id hM.gt
   refine⟨_,rfl,m,.ref a3,rfl,aX.k (k:=.inr "gates") (hM.same s1).top,a3,_,rfl,.inl (aq.of (s1 _ _ h3)),λf3 e3=>?_⟩
   have s2:ag H1 (upd H1 f3 (.lst (us.map V.ref))):=ag.ak e3
   have q3:(upd H1 f3 (.lst (us.map V.ref))) f3=_:=ae
   generalize upd H1 f3 (.lst (us.map V.ref))=H2 at s2 q3 ⊢
   have gJ:=s1.trans s2
   obtain⟨t2,u2,v2⟩:=oC (h:=λr:Str×V=>((.inr r.1:Key),r.2)) (λ_=>rfl) (hM.same gJ).kp
   refine⟨_,rfl,_,rfl,m,.ref a2,rfl,aX.k (k:=.inr "keepers") (hM.same gJ).top,a2,t2,br M.keepers,rfl,u2,v2,λf2 e2=>?_⟩
   rw[show bE [] (br M.keepers)=br M.keepers from iS M.keepers [] Nv]
   have s3:ag H2 (upd H2 f2 (.dK (br M.keepers))):=ag.ak e2
   have q2:(upd H2 f2 (.dK (br M.keepers))) f2=_:=ae
   generalize upd H2 f2 (.dK (br M.keepers))=H3 at s3 q2 ⊢
   have jd:=gJ.trans s3
   obtain⟨t4,u4,v4⟩:=oC (h:=λr:Str×Str=>((.inr r.1:Key),V.str r.2)) (λ_=>rfl) (hM.same jd).nx
   refine⟨_,rfl,_,rfl,m,.ref a4,rfl,aX.k (k:=.inr "nexts") (hM.same jd).top,a4,t4,aR M.nexts,rfl,u4,v4,λf4 e4=>?_⟩
   rw[il Xh]
   have s4:ag H3 (upd H3 f4 (.dK (aR M.nexts))):=ag.ak e4
   have q4:(upd H3 f4 (.dK (aR M.nexts))) f4=_:=ae
   generalize upd H3 f4 (.dK (aR M.nexts))=H4 at s4 q4 ⊢
   have kh:=jd.trans s4
   obtain⟨t5,u5,v5⟩:=oC (h:=λr:Str×Str=>((.inr r.1:Key),V.str r.2)) (λ_=>rfl) (hM.same kh).nv
   refine⟨_,rfl,m,.ref a5,rfl,aX.k (k:=.inr "nevers") (hM.same kh).top,a5,t5,aR M.nevers,rfl,u5,v5,λf5 e5=>?_⟩
   rw[il Xi]
   have s5:ag H4 (upd H4 f5 (.dK (aR M.nevers))):=ag.ak e5
   have q5:(upd H4 f5 (.dK (aR M.nevers))) f5=_:=ae
   generalize upd H4 f5 (.dK (aR M.nevers))=H5 at s5 q5 ⊢
   have nu:=kh.trans s5
   obtain⟨t6,u6,v6⟩:=oC (h:=λr:Str×Str=>((.inr r.1:Key),V.str r.2)) (λ_=>rfl) (hM.same nu).sm
   refine⟨_,rfl,m,.ref a6,rfl,aX.k (k:=.inr "somes") (hM.same nu).top,a6,t6,aR M.somes,rfl,u6,v6,λf6 e6=>?_⟩
   rw[il Xj]
   have s6:ag H5 (upd H5 f6 (.dK (aR M.somes))):=ag.ak e6
   have q6:(upd H5 f6 (.dK (aR M.somes))) f6=_:=ae
   generalize upd H5 f6 (.dK (aR M.somes))=H6 at s6 q6 ⊢
   intro y dy hy Nw h7
   have t7:ag H6 (upd (upd H6 dy (.own y)) y (.ins C dy [])):=λb o hb=>by
    rw[ah (af hb hy),ah (af hb Nw)]
    exact hb
   have q7:(upd (upd H6 dy (.own y)) y (.ins C dy [])) y=some (.ins C dy []):=ae
   generalize upd (upd H6 dy (.own y)) y (.ins C dy [])=H7 at t7 q7 ⊢
   have RX:=s6.trans t7
   have Fw:=s5.trans RX
   have RY:=s4.trans Fw
   have RZ:=s3.trans RY
   have qe:=nu.trans s6
   refine⟨y,dy,f1,f2,f3,f4,f5,f6,⟨M.switches,br M.keepers,us,aR M.nexts,aR M.nevers,aR M.somes⟩,rfl,q7,⟨RZ _ _ (s2 _ _ q1),RY _ _ q2,RZ _ _ q3,Fw _ _ q4,RX _ _ q5,t7 _ _ q6⟩,λk1 k2 k3 k4 k5 k6 H8 hg jc Nx oE BS=>⟨rfl,?_⟩⟩
   have R0:ag H H8:=λb o hb=>BS b o (t7 _ _ (qe _ _ hb)) (af (qe _ _ hb) hy)
   exact kk y dy k1 k2 k3 k4 k5 k6 us H8 R0 ⟨⟨Nx,oE.h1,oE.h2,oE.h3,Paired.bj (ia eO) λt r e=>R0 _ _ e⟩,oE.h4,oE.h5,oE.h6⟩
noncomputable abbrev Ds:Stmt:=top 7
noncomputable def bH(z:Str):Str:=if z.cps.toList[0]?=some 126 then ⟨z.cps.toList.tail.toArray⟩ else z
noncomputable def vo:Sp:=λvs H Q _=>∃z:Str,vs=[.str z]/\z.length<=1000/\Q (.str (bH z)) H
theorem Ny:aK ["literal"] ["literal"] (aw Ds):=⟨rfl,rfl,rfl,by decide+kernel,rfl,by decide+kernel,by decide+kernel⟩
theorem K0{f:Addr}{fd:FuncData}(F:aQ K "bare_name" "bare_name" Ds f fd):aP P w K mg base aZ 1 f fd ["literal"] vo:=by
 refine F.ok Ny (λvs H Q E h=>?_) (λcdv A outer s H vs Q E hr h=>?_)
 . obtain⟨z,rfl,_⟩:=h
   rfl
 . obtain⟨z,rfl,hz,kk⟩:=h
   have vi:z.length<=sizeLine:=aao hz (by decide)
   refine⟨_,aj (cU (jm (eY abZ acL acM rg (pv 0) (aa au ai))) (av (aJ (jD wg (pv 0) (jI ao) jH))) bN)
    (av (aJ (pv 0))),?_⟩
   have tl:("~" : Str)=⟨#[126]⟩:=by decide+kernel
   refine⟨_,rfl,rfl,z, "~",rfl,rfl,_,rfl,?_⟩
   rw[tl,pD]
   refine j3 (λh=>?_) (λh2=>?_)
   . have e:z.cps.toList[0]?=some 126:=aba h
     refine⟨_,rfl,_,rfl,z,1,rfl,rfl,rfl,vi,?_⟩
     have ts:bH z=Txt.slice z (some 1) none:=by
      rw[bH,aa4 e,ml (Txt.slice z (some 1) none),pE]
     rw[← ts]
     exact kk
   . have e:¬ z.cps.toList[0]?=some 126:=λe=>h2 (aaU e)
     rw[bH,aaY e]at kk
     exact⟨_,rfl,kk⟩
end
theorem jP{x:Str}(h:aT x):bH x=x:=aaY (vh h)
theorem i5(x:Str):bH ("~" ++ x)=x:=by
 unfold bH
 rw[aa4 (by rw[ij];rfl),ij]
 exact(ml x).symm
theorem Aa:bH "0" = "0":=by decide+kernel
theorem Ab:bH "1" = "1":=by decide+kernel
noncomputable def cJ(l:List (Str×Str)) (n:Str):Option Str:=(l.find? λr=>decide (r.1=n)).map (·.2)
theorem mq(n:Str):∀l:List (Str×Str),bA (aR l) (.inr n)=(cJ l n).map V.str
 | []=>rfl
 | r::l=>by
  have ih:=mq n l
  by_cases e:r.1=n
  . rw[show aR (r::l)=(.inr r.1,.str r.2)::aR l from rfl,fu (by rw[e])]
    simp[cJ,e]
  . rw[show aR (r::l)=(.inr r.1,.str r.2)::aR l from rfl,fz (λq=>e (acH q)),ih]
    simp[cJ,e]
theorem sD(l:List (Str×Str)) (n:Str):cI l n=(cJ l n).getD n:=rfl
theorem rG{l:List (Str×Str)}{n z:Str}(h:cJ l n=some z):(n,z)∈l:=by
 unfold cJ at h
 cases e:l.find? λr=>decide (r.1=n) with
 | none=>rw[e]at h;cases h
 | some r=>
  rw[e]at h
  cases h
  have h1:=List.find?_some e
  have h2:=aco e
  rw[← aba h1]
  exact h2
theorem kI{l:List (Str×Str)}(nd:(l.map (·.1)).Nodup){n z:Str}(h:(n,z)∈l):cJ l n=some z:=by
 unfold cJ
 induction l with
 | nil=>cases h
 | cons r l ih=>
  rw[aay,aa0]at nd
  rcases aal.mp h with e|e
  . rw[← e,abf (by simp)]
    rfl
  . have:¬ r.1=n:=λq=>nd.1 (aak.mpr ⟨(n,z),e,q.symm⟩)
    rw[abg (by simpa using this)]
    exact ih nd.2 e
noncomputable abbrev wx:Stmt:=top 2
noncomputable abbrev wy:Stmt:=top 3
noncomputable abbrev Hv:Stmt:=top 4
noncomputable def vp(z:Str):Str:=if z = "0" then "1" else if z = "1" then "0" else if z.cps.toList[0]?=some 126 then ⟨z.cps.toList.tail.toArray⟩ else "~" ++ z
noncomputable def Ac:Sp:=λvs H Q _=>∃z:Str,vs=[.str z]/\z.length<=1000/\Q (.str (vp z)) H
noncomputable def gT(M:ax)(n:Str):Str:=((cJ M.nevers n).orElse λ_=>cJ M.somes n).getD ""
noncomputable def Dt(C:Addr):Sp:=λvs H Q _=>∃(x dx g1 g2 g3 g4 g5 g6:Addr) (ts:List Addr) (M:ax) (n:Str),vs=[.ref x,.str n]/\MO C H x dx g1 g2 g3 g4 g5 g6 ts M/\n∈(M.nevers++M.somes).map (·.1)/\Q (.str (gT M n)) H
noncomputable def wz(C:Addr):Sp:=λvs H Q _=>∃(x dx g1 g2 g3 g4 g5 g6:Addr) (ts:List Addr) (M:ax) (n:Str),vs=[.ref x,.str n]/\MO C H x dx g1 g2 g3 g4 g5 g6 ts M/\Q (.str (cI M.nexts n)) H
theorem mh{l:List (Str×Str)}{n:Str}(h:n∈l.map (·.1)):∃z,cJ l n=some z:=by
 obtain⟨r,hr,e⟩:=aak.mp h
 unfold cJ
 cases q:l.find? λr=>decide (r.1=n) with
 | none=>exact absurd (aaU e) (adf.mp q r hr)
 | some r'=>exact⟨_,rfl⟩
section
variable {P:Program}{w:World}{K:W.Frag}{mg:Str->Option Value}{base:Heap}{C:Addr}
theorem Hw:aK ["literal"] ["literal"] (aw wx):=fs
theorem Fx{f:Addr}{fd:FuncData}(F:aQ K "turned" "turned" wx f fd):aP P w K mg base aZ 1 f fd ["literal"] Ac:=by
 refine F.go Hw (λcdv A outer s H vs Q E hr h=>?_)
 obtain⟨z,rfl,hz,kk⟩:=h
 have vi:z.length<=sizeLine:=aao hz (by decide)
 refine⟨_,(aj (cU (bh kQ (pv 0) au (cQ _))
  (av (aJ au)) bN)
  (aj (cU (bh kQ (pv 0) au (cQ _))
   (av (aJ au)) bN)
  (aj (cU (jm (eY abZ acL acM rg (pv 0) (aa au ai)))
   (av (aJ (jD wg (pv 0) (jI ao) jH))) bN)
  (av (aJ (az cm au (pv 0))))))),?_⟩
 have tl:("~" : Str)=⟨#[126]⟩:=by decide+kernel
 unfold vp at kk
 by_cases e0:z = "0"
 . rw[aa4 e0]at kk
   subst e0
   exact⟨_,rfl,rfl,_,rfl,Ni kk⟩
 rw[aaY e0]at kk
 refine⟨_,rfl,rfl,_,rfl,Nh e0 ?_⟩
 by_cases e1:z = "1"
 . rw[aa4 e1]at kk
   subst e1
   exact⟨_,rfl,rfl,_,rfl,Ni kk⟩
 rw[aaY e1]at kk
 refine⟨_,rfl,rfl,_,rfl,Nh e1 ?_⟩
 refine⟨_,rfl,rfl,z, "~",rfl,rfl,_,rfl,?_⟩
 rw[tl,pD]
 refine j3 (λh=>?_) (λh2=>?_)
 . have e:z.cps.toList[0]?=some 126:=aba h
   rw[aa4 e]at kk
   refine⟨_,rfl,_,rfl,z,1,rfl,rfl,rfl,vi,?_⟩
   have ts:(⟨z.cps.toList.tail.toArray⟩:Str)=Txt.slice z (some 1) none:=by rw[ml (Txt.slice z (some 1) none),pE]
   rw[← ts]
   exact kk
 . have e:¬ z.cps.toList[0]?=some 126:=λe=>h2 (aaU e)
   rw[aaY e]at kk
   refine⟨_,rfl, "~",z,rfl,rfl,?_,kk⟩
   have:("~" : Str).length=1:=by decide+kernel
   rw[this]
   exact aao (show 1+z.length<=1001 by lia) (by decide)
theorem K1:aK ["machine", "keeper"] ["machine", "keeper"] (aw wy):=fs
theorem Hx{f:Addr}{fd:FuncData}(F:aQ K "next_of" "next_of" wy f fd)(T:mO K mg C):aP P w K mg base aZ 1 f fd ["machine", "keeper"] (wz C):=by
 refine F.go K1 (λcdv A outer s H vs Q E hr h=>?_)
 obtain⟨x,dx,g1,g2,g3,g4,g5,g6,ts,M,n,rfl,hM,kk⟩:=h
 have hu:=eE hr
 refine⟨_,(av (aJ (oW hu (cq (pv 0) rfl) (pv 1) (pv 1) ⟨rfl,rfl,rfl,rfl⟩))),?_⟩
 refine⟨_,rfl,x,C,dx,_,_,rfl,hM.hx,T.cl,T.n4,vf ..,g4,rfl,.inl ⟨_,.inl hM.h4⟩,_,rfl,_,rfl,_,aX.k (k:=.inr n) hM.h4,?_⟩
 rw[mq]
 rw[sD]at kk
 cases e:cJ M.nexts n with
 | none=>rw[e]at kk;exact kk
 | some z=>rw[e]at kk;exact kk
theorem QW:aK ["machine", "wish"] ["machine", "wish"] (aw Hv):=fs
theorem Nz{f:Addr}{fd:FuncData}(F:aQ K "literal_of_wish" "literal_of_wish" Hv f fd)(T:mO K mg C):aP P w K mg base aZ 1 f fd ["machine", "wish"] (Dt C):=by
 refine F.go QW (λcdv A outer s H vs Q E hr h=>?_)
 obtain⟨x,dx,g1,g2,g3,g4,g5,g6,ts,M,n,rfl,hM,hn,kk⟩:=h
 have hu:=eE hr
 refine⟨_,(aj (cU (iJ (yF hu (pv 1) (cq (pv 0) rfl)))
  (av (aJ (aD hu (cq (pv 0) rfl) (pv 1) (λ_ _=>rfl)))) bN)
  (av (aJ (aD hu (cq (pv 0) rfl) (pv 1) (λ_ _=>rfl))))),?_⟩
 refine⟨_,rfl,_,rfl,x,C,dx,_,_,rfl,hM.hx,T.cl,T.n5,vg ..,g5,_,rfl,aX.k (k:=.inr n) hM.h5,?_⟩
 unfold gT at kk
 rw[mq]
 cases e:cJ M.nevers n with
 | some z=>
  rw[e]at kk
  refine⟨_,rfl,_,rfl,x,C,dx,_,_,rfl,hM.hx,T.cl,T.n5,vg ..,_,rfl,g5,_,rfl,?_,kk⟩
  have:=aX.k (k:=.inr n) hM.h5
  rw[mq,e]at this
  exact this
 | none=>
  rw[e]at kk
  have:∃z,cJ M.somes n=some z:=by
   rw[aag]at hn
   rcases aae.mp hn with q|q
   . obtain⟨z,q⟩:=mh q
     rw[q]at e
     cases e
   . exact mh q
  obtain⟨z,ez⟩:=this
  refine⟨_,rfl,?_⟩
  rw[show (none:Option Str).orElse (λ_=>cJ M.somes n)=cJ M.somes n from rfl,ez]at kk
  refine⟨_,rfl,x,C,dx,_,_,rfl,hM.hx,T.cl,T.n6,zH ..,_,rfl,g6,_,rfl,?_,kk⟩
  have:=aX.k (k:=.inr n) hM.h6
  rw[mq,ez]at this
  exact this
end
noncomputable abbrev ui:Stmt:=top 9
noncomputable abbrev Du:Stmt:=top 11
noncomputable def kK(go:Str->Str)(z:Str):Str:=if z = "0" \/ z = "1" then z else if z.cps.toList[0]?=some 126 then vp (go (bH z)) else go (bH z)
structure nH(kvs:List (Key×V)) (go:Str->Str) (z:Str):Prop where
 l:z.length<=1000
 v:z ≠ "0" -> z ≠ "1" -> bA kvs (.inr (bH z))=some (.str (go (bH z)))/\(go (bH z)).length<=1000
noncomputable def nI:Sp:=λvs H Q _=>∃(d:Addr) (kvs:List (Key×V)) (z:Str) (go:Str->Str),vs=[.ref d,.str z]/\Rd H d (.dK kvs)/\nH kvs go z/\∀H',ag H H'->Q (.str (kK go z)) H'
noncomputable def lQ(go:Str->Str)(r:Str×Str):Str×Str:=(r.1,kK go r.2)
noncomputable def Ad:Sp:=λvs H Q _=>∃(d e:Addr) (kvs:List (Key×V)) (l:List (Str×Str)) (go:Str->Str),vs=[.ref d,.ref e]/\H d=some (.dK kvs)/\d≠e/\H e=some (.dK (aR l))/\(l.map (·.1)).Nodup/\l.length<=1000/\(∀r∈l,nH kvs go r.2)/\
 ∀p H',ag H H'->H p=none->H' p=some (.dK (aR (l.map (lQ go))))->Q (.ref p) H'
theorem K2{H H':Hp}{a:Addr}{u:HO}(s:ag H H')(h:Rd H a u):Rd H' a u:=h.imp (s _ _) λ⟨o,e⟩=>⟨o,s _ _ e⟩
theorem jQ{H H2:Hp}{e:Addr}{o:Obj}{kv:List (Key×V)}(he:H e=some (.dK kv)) (s:ag (upd H e (.bK o (.dK kv))) H2):ag H (upd H2 e (.dK kv)):=λb u hb=>by
 by_cases h:b=e
 . subst h
   rw[he]at hb
   cases hb
   exact ae
 . rw[ah h]
   exact s _ _ (by rw[ah h];exact hb)
theorem fZ{α:Type}(l:List α):(l.filter λ_=>true)=l:=abI.mpr λ_ _=>rfl
theorem K3{l:List (Str×V)}(nd:(l.map (·.1)).Nodup){r:Str×V}(h:r∈l):bA (l.map λr=>((.inr r.1:Key),r.2)) (.inr r.1)=some r.2:=by
 induction l with
 | nil=>cases h
 | cons q l ih=>
  rw[aay,aa0]at nd
  rw[aay]
  rcases aal.mp h with e|e
  . rw[fu (by rw[e])]
    rw[e]
  . rw[fz λz=>nd.1 (aak.mpr ⟨r,e,(acH z).symm⟩)]
    exact ih nd.2 e
theorem Hy{z:Str}(h0:z ≠ "0")(h1:z ≠ "1"):g0 (.str z) [.str "0",.str "1"]=false:=by
 have:=oh z ["0", "1"]
 rw[show g0 (V.str z) [.str "0",.str "1"]=decide (z∈(["0", "1"]:List Str)) from this]
 exact aaW (by simp[h0,h1])
section
variable {P:Program}{w:World}{K:W.Frag}{mg:Str->Option Value}{base:Heap}{C:Addr}
theorem xY:aK ["names", "literal", "goal"] ["names", "literal"] (aw ui):=fs
theorem Dv{f fB fT:Addr}{fd dB dT:FuncData}(F:aQ K "carried" "carried" ui f fd)(CB:cj P w K mg base 1 fB dB "bare_name" ["literal"] vo)(CT:cj P w K mg base 1 fT dT "turned" ["literal"] Ac):aP P w K mg base aZ 2 f fd ["names", "literal"] nI:=by
 refine F.go xY (λcdv A outer s H vs Q E hr h=>?_)
 obtain⟨d,kvs,z,go,rfl,hd,hz,kk⟩:=h
 have hu:=eE hr
 refine⟨_,(aj (cU (bh gp (pv 1) (bF (aa au (aa au ai))) (by with_unfolding_all rfl))
  (av (aJ (pv 1))) bN)
  (aj (cE 2 xY.nd (aD hu (pv 0) (a8 CB hr (aa (pv 1) ai)) (λ_ _=>rfl)))
  (av (aJ (tO (jm (eY abZ acL acM rg (pv 1) (aa au ai))) (a8 CT hr (aa (pv 2) ai)) (pv 2)))))),?_⟩
 have tl:("~" : Str)=⟨#[126]⟩:=by decide+kernel
 refine⟨_,rfl,(by show 2<=sizeLine;decide),λt ht=>?_⟩
 have st:ag H (upd H t (.tup [.str "0",.str "1"])):=ag.ak ht
 have qt:(upd H t (.tup [.str "0",.str "1"])) t=some (.tup [.str "0",.str "1"]):=ae
 generalize upd H t (.tup [.str "0",.str "1"])=H1 at st qt ⊢
 have k0:=kk _ st
 refine⟨t,_,rfl,.inr (aH.of qt),rfl,rfl,_,rfl,?_⟩
 show if g0 (.str z) [.str "0",.str "1"]=true then _ else _
 unfold kK at k0
 by_cases e0:z = "0"
 . subst e0
   rw[aa4 (.inl rfl)]at k0
   rw[show g0 (V.str "0") [.str "0",.str "1"]=true from by decide+kernel]
   exact fJ ⟨_,rfl,k0⟩
 by_cases e1:z = "1"
 . subst e1
   rw[aa4 (.inr rfl)]at k0
   rw[show g0 (V.str "1") [.str "0",.str "1"]=true from by decide+kernel]
   exact fJ ⟨_,rfl,k0⟩
 rw[aaY (by simp[e0,e1])]at k0
 rw[Hy e0 e1]
 refine bQ ?_
 obtain⟨v1,v2⟩:=hz.v e0 e1
 refine⟨_,rfl,_,rfl,z,rfl,hz.l,d,_,rfl,.inl ⟨kvs,.inr (bH z),K2 st hd,rfl,v1.symm⟩,?_⟩
 refine⟨_,rfl,rfl,z, "~",rfl,rfl,_,rfl,?_⟩
 rw[tl,pD]
 refine j3 (λh=>?_) (λh2=>?_)
 . rw[aa4 (aba h)]at k0
   exact⟨_,rfl,_,rfl,v2,k0⟩
 . rw[aaY λe=>h2 (aaU e)]at k0
   exact⟨_,rfl,k0⟩
theorem NA:aK ["names", "literals"] ["names", "literals"] (aw Du):=fs
theorem Fy(go:Str->Str) (l:List (Str×Str)):(l.map (lQ go)).map (·.1)=l.map (·.1):=by rw[aa1];rfl
theorem K4{f fC:Addr}{fd dC:FuncData}(F:aQ K "literals_carried" "literals_carried" Du f fd)(O:iu mg)(CC:cj P w K mg base 2 fC dC "carried" ["names", "literal"] nI):aP P w K mg base aZ 3 f fd ["names", "literals"] Ad:=by
 refine F.go NA (λcdv A outer s H vs Q E hr h=>?_)
 obtain⟨d,e,kvs,l,go,rfl,hd,de,he,nd,hl,hc,kk⟩:=h
 have hu:=eE hr
 refine⟨_,(av (aJ (aN (bp rfl) (by rfl) O.dict aaQ (aa (oq (b8 (N:=["name", "literal", "names"]) (js:=[none,none,some 0]) (g:=lK K 2 (dm (bO 0) (dm (bO 1) lJ))) (by kernel_rfl) rfl (ua (pv 1)) (λ_ _ _ _ _ _=>(cN rfl (aA (ar (i:=0) (show (["name", "literal", "names"]:List Str).Nodup from dk) rfl (Or.inl rfl) (.inr rfl)) (aA (ar (i:=1) (show (["name", "literal", "names"]:List Str).Nodup from dk) rfl (Or.inl rfl) (.inr rfl)) cc)))) (λ_ _ _ _ _ _=>bb) (λ_ _ _ _ _ _=>(bF (aa (pv 0) (aa (a8 CC hr (aa (pv 2) (aa (pv 1) ai))) ai)))))) ai)))),?_⟩
 refine⟨_,rfl,e,_,rfl,he,λo D hD=>?_⟩
 have Jj:(upd H e (.bK o (.dK (aR l)))) e=some (.bK o (.dK (aR l))):=ae
 have yN:(upd H e (.bK o (.dK (aR l)))) d=some (.dK kvs):=by rw[ah de];exact hd
 refine Dn (xs:=l) (kp:=λ_=>true) (y:=λr=>.inr (.tup [.str r.1,.str (kK go r.2)])) (λr=>.inr r.1) (λr=>.str r.2) (aao hl (by decide)) Jj hD (λr lX H9 s9=>rw_yes λY hY=>?_) λH2 vs s2 bf p2=>?_
 . refine⟨_,rfl,_,rfl,_,rfl,d,kvs,r.2,go,rfl,.inl (s9 _ _ yN),hc r lX,λH4 s4=>⟨by show 2<=sizeLine;decide,λT hT=>?_⟩⟩
   exact hY _ _ (λb u hb=>by rw[ah (af (s4 _ _ hb) hT)];exact s4 _ _ hb) ⟨T,rfl,same_none s4 hT,ae⟩
 . rw[fZ]at p2
   obtain⟨ts,rfl,pt⟩:=gB p2
   have s3:=jQ he s2
   refine⟨e,o,aR l,s2 _ _ Jj,λo' u z=>?_,?_⟩
   . have z':H e=some (.bK o' u):=z
     rw[he]at z'
     cases z'
   have DE:D≠e:=(af Jj hD).symm
   refine⟨D,ts,(l.map (lQ go)).map λr=>((.inr r.1:Key),V.str r.2),rfl,by rw[ah DE];exact bf,?_,λp hp=>?_⟩
   . rw[aa1]
     refine cv (Paired.bj pt λt r z=>?_)
     have te:t≠e:=λq=>by rw[q,Jj]at z;cases z.1
     rw[ah te]
     exact z.2
   . have em:bE [] ((l.map (lQ go)).map λr=>((.inr r.1:Key),V.str r.2))=aR (l.map (lQ go)):=il (by rw[Fy];exact nd)
     rw[em]
     exact kk p _ (s3.trans (ag.ak hp)) (s3.free hp) ae
end
noncomputable abbrev Ae:Stmt:=top 10
noncomputable def dw(kvs:List (Key×V)) (n:Str):Bool:=decide (bA kvs (.inr n)=some (V.str n))
noncomputable def pN(go:Str->Str)(r:Str×Str×Str):Str×Str×Str:=(r.1,kK go r.2.1,kK go r.2.2)
noncomputable def dr(M:ax) (kvs:List (Key×V)):List (Str×V):=M.keepers.filter λr=>dw kvs r.1
noncomputable def kZ(M:ax) (kvs:List (Key×V)):List (Str×Str):=M.nexts.filter λr=>decide (r.1∈(dr M kvs).map (·.1))
noncomputable def Af(M:ax) (kvs:List (Key×V)) (go:Str->Str) (nv sm:List (Str×Str)):ax:=
 ⟨M.switches.filter (dw kvs),dr M kvs,(M.gates.filter λr=>dw kvs r.1).map (pN go),(kZ M kvs).map (lQ go),nv.map (lQ go),sm.map (lQ go)⟩
structure NB(M:ax) (kvs:List (Key×V)) (go:Str->Str) (nv sm:List (Str×Str)):Prop where
 n1:M.switches.length<=100
 n2:M.keepers.length<=100
 n3:M.gates.length<=100
 n4:M.nexts.length<=100
 kd:(M.keepers.map (·.1)).Nodup
 nxd:(M.nexts.map (·.1)).Nodup
 vl:∀n∈bg M,∃v,bA kvs (.inr n)=some v/\(v=.aM\/∃z,v=.str z)
 gt:∀r∈M.gates,dw kvs r.1=true->nH kvs go r.2.1/\nH kvs go r.2.2
 nx:∀r∈M.nexts,r.1∈(dr M kvs).map (·.1)->nH kvs go r.2
 nvd:(nv.map (·.1)).Nodup
 nvl:nv.length<=1000
 nvc:∀r∈nv,nH kvs go r.2
 smd:(sm.map (·.1)).Nodup
 sml:sm.length<=1000
 smc:∀r∈sm,nH kvs go r.2
structure NC(C:Addr) (H H':Hp) (tp d y dy k1 k2 k3 k4 k5 k6:Addr) (us:List Addr) (M:ax):Prop where
 s:ag H H'
 t:H' tp=some (.tup [.ref y,.ref d])
 m:MO C H' y dy k1 k2 k3 k4 k5 k6 us M
 ny:H y=none
 nk:∀k∈[k1,k2,k3,k4,k5,k6],H k=none
 nd:[k1,k2,k3,k4,k5,k6].Nodup
noncomputable def wA(C:Addr):Sp:=λvs H Q _=>∃(x dx g1 g2 g3 g4 g5 g6 d e1 e2:Addr) (ts:List Addr) (M:ax) (kvs:List (Key×V)) (go:Str->Str) (nv sm:List (Str×Str)),vs=[.ref x,.ref d,.ref e1,.ref e2]/\MO C H x dx g1 g2 g3 g4 g5 g6 ts M/\H d=some (.dK kvs)/\H e1=some (.dK (aR nv))/\H e2=some (.dK (aR sm))/\d≠e1/\d≠e2/\d≠g2/\d≠g4/\NB M kvs go nv sm/\
 ∀(tp y dy k1 k2 k3 k4 k5 k6:Addr) (us:List Addr) (H':Hp),NC C H H' tp d y dy k1 k2 k3 k4 k5 k6 us (Af M kvs go nv sm)->Q (.ref tp) H'
theorem wB{kvs:List (Key×V)}{n:Str}{v:V}(h:bA kvs (.inr n)=some v):decide (v=V.str n)=dw kvs n:=by
 unfold dw
 rw[h]
 by_cases e:v=V.str n
 . rw[aaU e,aaU (by rw[e])]
 . rw[aaW e,aaW λq=>e (aaS q)]
theorem wC{v:V}{n:Str}(h:v=.aM\/∃z,v=.str z):LL v (.str n)=true:=by
 rcases h with rfl|⟨z,rfl⟩ <;> rfl
theorem vq{α β:Type}{p:α->Bool}{g:α->β}{l:List α}{i:Nat}{x:α}(h:l[i]?=some x):((l.take (i+1)).filter p).map g=((l.take i).filter p).map g++if p x=true then [g x] else []:=by
 rw[abL,h,ab7,abz,aag]
 congr 1
 by_cases e:p x=true
 . rw[aa4 e,aa2 e];rfl
 . rw[aaY e,aa5 e];rfl
theorem eA{α:Type}{p:Str×α->Bool}{l:List (Str×α)}(h:(l.map (·.1)).Nodup):((l.filter p).map (·.1)).Nodup:=ae1 (List.Sublist.map _ adV) h
theorem mT(z:Str)(l:List Str):g0 (.str z) (l.map V.str)=decide (z∈l):=oh z l
section
variable {P:Program}{w:World}{K:W.Frag}{mg:Str->Option Value}{base:Heap}{C:Addr}
noncomputable abbrev ND:List Str:=["machine", "names", "nevers", "somes", "gates", "name", "one", "other", "left", "small"]
noncomputable abbrev rH:List Str:=["machine", "names", "nevers", "somes"]
theorem kM:aK ND rH (aw Ae):=fs
theorem Hz{f fC fL fI:Addr}{fd dC dL dI:FuncData}(F:aQ K "round_of" "round_of" Ae f fd)(T:mO K mg C)(O:iu mg)(CC:cj P w K mg base 2 fC dC "carried" ["names", "literal"] nI)(CL:cj P w K mg base 3 fL dL "literals_carried" ["names", "literals"] Ad)
 (mI:Mk K C fI) (gI:aP P w K mg base aZ 1 fI dI nC (zI C)) (bI:Binds K dI nC []):aP P w K mg base aZ 4 f fd rH (wA C):=by
 refine F.go kM (λcdv A outer s H vs Q E hr h=>?_)
 obtain⟨x,dx,g1,g2,g3,g4,g5,g6,d,e1,e2,ts,M,kvs,go,nv,sm,rfl,hM,hd,Jk,xr,NF,NG,Xk,dg4,ok,kk⟩:=h
 have hu:=eE hr
 have gH:aW 2 (A.deeper _):=hr.mono (by decide)
 refine⟨_,(aj (cE 4 kM.nd (cf ai))
  (aj (dU aa6 rfl (ba (cq (pv 0) rfl)) (cN rfl (aA (ar (i:=5) kM.nd rfl (Or.inl rfl)) (aA (ar (i:=6) kM.nd rfl (Or.inl rfl)) (aA (ar (i:=7) kM.nd rfl (Or.inl rfl)) cc))))
   (av (cU (bh kQ (aD hu (pv 1) (pv 5) (λ_ _=>rfl)) (pv 5) (cQ _))
    (av (dg (eY aaX abd abe dj (pv 4) (aa (bF (aa (pv 5) (aa (a8 CC gH (aa (pv 1) (aa (pv 6) ai))) (aa (a8 CC gH (aa (pv 1) (aa (pv 7) ai))) ai)))) ai)))) bN)))
  (aj (cE 8 kM.nd (oq (b8 (N:=["keeper", "names"]) (js:=[none,some 1]) (te:=(aL 0)) (ti:=(iq (fo yD (oV (aL 1) (aL 0)) (aL 0)))) (by kernel_rfl) rfl (wa (cq (pv 0) rfl)) (λ_ _ _ _ _ _=>(ar (i:=0) (show (["keeper", "names"]:List Str).Nodup from dk) rfl (Or.inl rfl) (.inr rfl))) (λ_ _ _ _ _ _=>(eQ (bh kQ (aD hu (pv 1) (pv 0) (λ_ _=>rfl)) (pv 0) (cQ _)))) (λ_ _ _ _ _ _=>(pv 0)))))
  (aj (cE 9 kM.nd (Bm mI gI gH rfl T.mgC bI .nil bw (aa (b8 (N:=["name", "names"]) (js:=[none,some 1]) (te:=(aL 0)) (ti:=(iq (fo yD (oV (aL 1) (aL 0)) (aL 0)))) (by kernel_rfl) rfl (ba (cq (pv 0) rfl)) (λ_ _ _ _ _ _=>(ar (i:=0) (show (["name", "names"]:List Str).Nodup from dk) rfl (Or.inl rfl) (.inr rfl))) (λ_ _ _ _ _ _=>(eQ (bh kQ (aD hu (pv 1) (pv 0) (λ_ _=>rfl)) (pv 0) (cQ _)))) (λ_ _ _ _ _ _=>(pv 0))) (aa (aN (bp rfl) (by rfl) O.dict aaQ (aa (b8 (N:=["keeper", "machine"]) (js:=[none,some 0]) (te:=(lL (cW (aL 0) (cW (oV (Gu K (aL 1) "keepers") (aL 0)) jY)))) (by kernel_rfl) rfl (ba (pv 8)) (λ_ _ _ _ _ _=>(ar (i:=0) (show (["keeper", "machine"]:List Str).Nodup from dk) rfl (Or.inl rfl) (.inr rfl))) (λ_ _ _ _ _ _=>bb) (λ_ _ _ _ _ _=>(bF (aa (pv 0) (aa (aD hu (cq (pv 1) rfl) (pv 0) (λ_ _=>rfl)) ai))))) ai)) (aa (pv 4) (aa (a8 CL hr (aa (pv 1) (aa (aN (bp rfl) (by rfl) O.dict aaQ (aa (oq (b8 (N:=["keeper", "machine", "left"]) (js:=[none,some 0,some 8]) (te:=(lL (cW (aL 0) (cW (oV (Gu K (aL 1) "nexts") (aL 0)) jY)))) (ti:=(iq (fo (qy K false) (aL 0) (aL 2)))) (by kernel_rfl) rfl (wa (cq (pv 0) rfl)) (λ_ _ _ _ _ _=>(ar (i:=0) (show (["keeper", "machine", "left"]:List Str).Nodup from dk) rfl (Or.inl rfl) (.inr rfl))) (λ_ _ _ _ _ _=>(eQ (bh gp (pv 0) (pv 2) (by with_unfolding_all rfl)))) (λ_ _ _ _ _ _=>(bF (aa (pv 0) (aa (aD hu (cq (pv 1) rfl) (pv 0) (λ_ _=>rfl)) ai)))))) ai)) ai))) (aa (a8 CL hr (aa (pv 1) (aa (pv 2) ai))) (aa (a8 CL hr (aa (pv 1) (aa (pv 3) ai))) ai))))))))
  (av (aJ (bF (aa (pv 9) (aa (pv 1) ai))))))))),?_⟩
 refine⟨(by show 0<=sizeLine;decide),λG hG=>?_⟩
 have s0:ag H (upd H G (.lst [])):=ag.ak hG
 have q0:(upd H G (.lst [])) G=some (.lst []):=ae
 generalize upd H G (.lst [])=H0 at s0 q0 ⊢
 have Jl:=hM.same s0
 have gg:=hM.hp.length
 have gl:∀(i:Nat) (us:List Addr) (Hi:Hp),Paired (λt r=>Hi t=some (.tup (dE r))) us (((M.gates.take i).filter λr=>dw kvs r.1).map (pN go))->us.length<=100:=λi us Hi p=>by
  rw[p.length,aaa]
  refine aao (aa7 _ _) ?_
  rw[aa3]
  exact aao (acE _ _) ok.n3
 refine⟨_,rfl,x,C,dx,_,_,rfl,Jl.hx,T.cl,T.n3,rn ..,g3,rfl,⟨_,aq.of Jl.h3⟩,gz (xs:=ts.map V.ref) (λi σ Hi=>∃(v5 v6 v7:Option V) (us:List Addr),σ=[some (.ref x),some (.ref d),some (.ref e1),some (.ref e2),some (.ref G),v5,v6,v7,none,none]/\ag H Hi/\Hi G=some (.lst (us.map V.ref))/\
  Paired (λt r=>Hi t=some (.tup (dE r))) us (((M.gates.take i).filter λr=>dw kvs r.1).map (pN go))) ⟨none,none,none,[],rfl,s0,q0,.nil⟩ (λi σ Hi _ ⟨_,_,_,_,_,s,_⟩=>aq.of (s _ _ hM.h3)) ?_ ?_⟩
 . rintro i v σ Hi hv ⟨v5,v6,v7,us,rfl,si,NH,pi⟩
   rw[aan]at hv
   cases ht:ts[i]? with
   | none=>rw[ht]at hv;cases hv
   | some t=>
    rw[ht]at hv
    cases hv
    obtain⟨r,eJ⟩:∃r,M.gates[i]?=some r:=⟨_,aad (by have:=(aas.mp ht).1;lia)⟩
    obtain⟨t',je,eS⟩:=i3 hM.hp eJ
    rw[ht]at je
    cases je
    have jv:r∈M.gates:=aaT eJ
    obtain⟨vv,ev,es⟩:=ok.vl r.1 (aae.mpr (.inr (aak.mpr ⟨r,jv,rfl⟩)))
    refine⟨t,_,rfl,aH.of (si _ _ eS),rfl,_,_,rfl,_,_,rfl,_,_,rfl,rfl,?_⟩
    refine⟨_,rfl,_,rfl,d,vv,rfl,.inl ⟨kvs,.inr r.1,.inl (si _ _ hd),rfl,ev.symm⟩,_,rfl,wC es,_,rfl,?_⟩
    rw[wB ev]
    have ft:=vq (p:=λr=>dw kvs r.1) (g:=pN go) eJ
    cases hs:dw kvs r.1 with
    | false=>
     refine bQ ⟨_,_,_,us,rfl,si,NH,?_⟩
     rw[ft,aaY (by rw[hs];exact aax),abw]
     exact pi
    | true=>
     obtain⟨c1,c2⟩:=ok.gt r jv hs
     refine fJ ⟨_,rfl,.inl ⟨rfl,_,aq.of NH⟩,_,rfl,_,rfl,_,rfl,d,kvs,r.2.1,go,rfl,.inl (si _ _ hd),c1,λH4 s4=>⟨_,rfl,_,rfl,d,kvs,r.2.2,go,rfl,.inl (s4 _ _ (si _ _ hd)),c2,λH5 s5=>⟨by show 3<=sizeLine;decide,λT hT=>?_⟩⟩⟩
     have tE:=s4.trans s5
     have t6:ag H5 (upd H5 T (.tup (dE (pN go r)))):=ag.ak hT
     have q6:(upd H5 T (.tup (dE (pN go r)))) T=some (.tup (dE (pN go r))):=ae
     have er:([V.str r.1,.str (kK go r.2.1),.str (kK go r.2.2)]:List V)=dE (pN go r):=rfl
     rw[er]
     generalize upd H5 T (.tup (dE (pN go r)))=H6 at t6 q6 ⊢
     have s6:=tE.trans t6
     have R1:=s6 _ _ NH
     have ul:=gl i us Hi pi
     refine⟨G,_,_,rfl,rfl,R1,(by rw[aaa];exact small (by lia)),_,_,_,us++[T],rfl,λb u hb=>?_,?_,?_⟩
     . rw[ah (af hb hG)]
       exact s6 _ _ (si _ _ hb)
     . rw[ae,aag];rfl
     . rw[ft,aa4 hs]
       have nt:∀{b:Addr}{o:List V},H6 b=some (.tup o)->b≠G:=λhb e=>by rw[e,R1]at hb;cases hb
       refine ab8 (Paired.bj pi λb r' e=>?_) ?_
       . have e':=s6 _ _ e
         rw[ah (nt e')]
         exact e'
       . rw[ah (nt q6)]
         exact q6
 rintro σ H1 ⟨v5,v6,v7,gs,rfl,s1,Xl,pg⟩
 rw[aaa,gg,abp]at pg
 have eK:=hM.same s1
 refine⟨_,rfl,x,C,dx,_,_,rfl,eK.hx,T.cl,T.n2,ow ..,g2,_,rfl,eK.h2,λo2 D hD=>?_⟩
 have f2:(upd H1 g2 (.bK o2 (.dK (M.keepers.map λr=>((.inr r.1:Key),r.2))))) g2=some (.bK o2 (.dK (M.keepers.map λr=>((.inr r.1:Key),r.2)))):=ae
 have Xm:(upd H1 g2 (.bK o2 (.dK (M.keepers.map λr=>((.inr r.1:Key),r.2))))) d=some (.dK kvs):=by rw[ah Xk];exact s1 _ _ hd
 refine Ji (xs:=M.keepers) (kp:=λr=>dw kvs r.1) (y:=λr=>.inl (.str r.1)) (λr=>.inr r.1) (λr=>r.2) (aao ok.n2 (by decide)) f2 hD (λr jv H9 s9=>?_) λH2 vs s2 bf p2=>?_
 . intro Z Y hZ hY
   obtain⟨vv,ev,es⟩:=ok.vl r.1 (aae.mpr (.inl (aae.mpr (.inr (aak.mpr ⟨r,jv,rfl⟩)))))
   refine⟨_,rfl,_,rfl,d,vv,rfl,.inl ⟨kvs,.inr r.1,.inl (s9 _ _ Xm),rfl,ev.symm⟩,_,rfl,wC es,_,rfl,?_⟩
   show (if decide (vv=V.str r.1)=true then _ else _)
   rw[wB ev]
   cases hs:dw kvs r.1 with
   | false=>exact bQ (hZ hs _ λ_ _ h=>h)
   | true=>exact fJ ⟨_,rfl,hY hs _ _ (λ_ _ h=>h) rfl⟩
 have ev:=fU p2
 subst ev
 have lG:=jQ eK.h2 s2
 refine⟨g2,o2,_,s2 _ _ f2,λo' u z=>?_,?_⟩
 . have z':H g2=some (.bK o' u):=z
   rw[hM.h2]at z'
   cases z'
 have D2:D≠g2:=(af f2 hD).symm
 have DH1:H1 D=none:=by rw[ah D2]at hD;exact hD
 have Fz:(upd H2 g2 (.dK (M.keepers.map λr=>((.inr r.1:Key),r.2)))) D=some (.lst ((dr M kvs).map λr=>V.str r.1)):=by rw[ah D2];exact bf
 generalize upd H2 g2 (.dK (M.keepers.map λr=>((.inr r.1:Key),r.2)))=H3 at lG Fz ⊢
 have s3:=s1.trans lG
 have oA:=hM.same s3
 refine⟨_,rfl,x,C,dx,_,_,rfl,oA.hx,T.cl,T.n1,zG ..,g1,rfl,⟨_,aq.of oA.h1⟩,λE1 Xn=>?_⟩
 refine i4 (xs:=M.switches) (kp:=dw kvs) (y:=λn=>.inl (.str n)) V.str (aao ok.n1 (by decide)) oA.h1 Xn (λn hn H9 s9=>?_) λH4 vs s4 Xo p4=>?_
 . intro Z Y hZ hY
   obtain⟨vv,ev,es⟩:=ok.vl n (aae.mpr (.inl (aae.mpr (.inl hn))))
   refine⟨_,rfl,_,rfl,d,vv,rfl,.inl ⟨kvs,.inr n,.inl (s9 _ _ (s3 _ _ hd)),rfl,ev.symm⟩,_,rfl,wC es,_,rfl,?_⟩
   show (if decide (vv=V.str n)=true then _ else _)
   rw[wB ev]
   cases hs:dw kvs n with
   | false=>exact bQ (hZ hs _ λ_ _ h=>h)
   | true=>exact fJ ⟨_,rfl,hY hs _ _ (λ_ _ h=>h) rfl⟩
 have ev:=fU p4
 subst ev
 have kh:=s3.trans s4
 have oF:=hM.same kh
 have kd:((dr M kvs).map (·.1)).Nodup:=eA ok.kd
 have kl:(dr M kvs).length<=100:=aao (aa7 _ _) ok.n2
 refine⟨_,rfl,D,rfl,⟨_,aq.of (s4 _ _ Fz)⟩,λE2 Xp=>?_⟩
 refine i4 (xs:=dr M kvs) (kp:=λ_=>true) (y:=λr=>.inr (.tup (eZ r))) (λr=>V.str r.1) (aao kl (by decide)) (s4 _ _ Fz) Xp (λr jv H9 s9=>rw_yes λY hY=>?_) λH5 vs s5 Xq p5=>?_
 . have Xr:r∈M.keepers:=(aap.mp jv).1
   have vk:bA (M.keepers.map λr=>((.inr r.1:Key),r.2)) (.inr r.1)=some r.2:=K3 ok.kd Xr
   refine⟨_,rfl,_,rfl,x,C,dx,_,_,rfl,s9 _ _ oF.hx,T.cl,T.n2,ow ..,_,rfl,g2,_,rfl,.inl ⟨_,.inr r.1,.inl (s9 _ _ oF.h2),rfl,vk.symm⟩,by show 2<=sizeLine;decide,λT hT=>?_⟩
   exact hY _ _ (ag.ak hT) (jO hT)
 rw[fZ]at p5
 obtain⟨k5,rfl,NI⟩:=gB p5
 refine⟨E2,k5,br (dr M kvs),rfl,Xq,?_,λf2 NJ=>?_⟩
 . exact cv (Paired.bj NI λt r z=>z.2)
 rw[show bE [] (br (dr M kvs))=br (dr M kvs) from iS _ [] kd]
 have t6:ag H5 (upd H5 f2 (.dK (br (dr M kvs)))):=ag.ak NJ
 have q6:(upd H5 f2 (.dK (br (dr M kvs)))) f2=_:=ae
 generalize upd H5 f2 (.dK (br (dr M kvs)))=H6 at t6 q6 ⊢
 have NK:=s5.trans t6
 have qe:=kh.trans NK
 have lY:=hM.same qe
 have Jm:=s4.trans NK
 refine⟨_,rfl,_,rfl,_,rfl,x,C,dx,_,_,rfl,lY.hx,T.cl,T.n4,vf ..,g4,_,rfl,lY.h4,λo4 E4 NL=>?_⟩
 have f4:(upd H6 g4 (.bK o4 (.dK (aR M.nexts)))) g4=some (.bK o4 (.dK (aR M.nexts))):=ae
 have D4:D≠g4:=λe=>by have:=Jm _ _ Fz;rw[e,lY.h4]at this;cases this
 have x4:x≠g4:=λe=>by have:=lY.hx;rw[e,lY.h4]at this;cases this
 have Xs:(upd H6 g4 (.bK o4 (.dK (aR M.nexts)))) D=some (.lst ((dr M kvs).map λr=>V.str r.1)):=by rw[ah D4];exact Jm _ _ Fz
 have Xt:(upd H6 g4 (.bK o4 (.dK (aR M.nexts)))) x=some (.ins C dx (jk g1 g2 g3 g4 g5 g6)):=by rw[ah x4];exact lY.hx
 have eD:((dr M kvs).map λr=>V.str r.1)=((dr M kvs).map (·.1)).map V.str:=by rw[aa1];rfl
 refine Ji (xs:=M.nexts) (kp:=λr=>decide (r.1∈(dr M kvs).map (·.1))) (y:=λr=>.inr (.tup (bx r))) (λr=>.inr r.1) (λr=>.str r.2) (aao ok.n4 (by decide)) f4 NL (λr jv H9 s9=>?_) λH7 vs s7 NM p7=>?_
 . intro Z Y hZ hY
   have R3:=s9 _ _ Xs
   rw[eD]at R3
   have fl:(((dr M kvs).map (·.1)).map V.str).all jx=true:=by rw[abK];intro v hv;obtain⟨z,_,rfl⟩:=aak.mp hv;rfl
   refine⟨_,rfl,_,rfl,D,_,rfl,.inl (aq.of R3),rfl,fl,_,rfl,?_⟩
   show if g0 (.str r.1) (((dr M kvs).map (·.1)).map V.str)=true then _ else _
   rw[mT]
   by_cases hs:r.1∈(dr M kvs).map (·.1)
   . rw[aaU hs]
     have vk:bA (aR M.nexts) (.inr r.1)=some (.str r.2):=by rw[mq,kI ok.nxd jv];rfl
     refine fJ ⟨_,rfl,_,rfl,x,C,dx,_,_,rfl,s9 _ _ Xt,T.cl,T.n4,vf ..,_,rfl,g4,_,rfl,.inl ⟨_,.inr r.1,.inr ⟨_,s9 _ _ f4⟩,rfl,vk.symm⟩,by show 2<=sizeLine;decide,λT hT=>?_⟩
     exact hY (aaU hs) _ _ (ag.ak hT) (jO hT)
   . rw[aaW hs]
     exact bQ (hZ (aaW hs) _ λ_ _ h=>h)
 have xC:=jQ lY.h4 s7
 refine⟨g4,o4,_,s7 _ _ f4,λo' u z=>?_,?_⟩
 . have z':H g4=some (.bK o' u):=z
   rw[hM.h4]at z'
   cases z'
 obtain⟨k7,rfl,Xu⟩:=gB p7
 have Xv:E4≠g4:=(af f4 NL).symm
 have NN:(upd H7 g4 (.dK (aR M.nexts))) E4=some (.lst (k7.map V.ref)):=by rw[ah Xv];exact NM
 have R4:Paired (λt r=>(upd H7 g4 (.dK (aR M.nexts))) t=some (.tup (bx r))) k7 (kZ M kvs):=Paired.bj Xu λt r z=>by
  rw[ah λe=>by rw[e,f4]at z;cases z.1]
  exact z.2
 generalize upd H7 g4 (.dK (aR M.nexts))=H8 at xC NN R4 ⊢
 have xd:((kZ M kvs).map (·.1)).Nodup:=eA ok.nxd
 refine⟨E4,k7,aR (kZ M kvs),rfl,NN,cv (Paired.bj R4 λt r z=>z),λFA R5=>?_⟩
 rw[il xd]
 have t9:ag H8 (upd H8 FA (.dK (aR (kZ M kvs)))):=ag.ak R5
 have q9:(upd H8 FA (.dK (aR (kZ M kvs)))) FA=_:=ae
 generalize upd H8 FA (.dK (aR (kZ M kvs)))=H9 at t9 q9 ⊢
 have NO:=xC.trans t9
 have FC:=qe.trans NO
 have dn:∀{p:Addr},H8 p=none->d≠p:=λhp e=>by have:=(qe.trans xC) _ _ hd;rw[e,hp]at this;cases this
 refine⟨d,FA,kvs,kZ M kvs,go,rfl,FC _ _ hd,dn R5,q9,xd,aao (aa7 _ _) (aao ok.n4 (by decide)),λr jv=>?_,λp4 J1 u1 np4 Xw=>?_⟩
 . obtain⟨z1,z2⟩:=aap.mp jv
   exact ok.nx r z1 (aba z2)
 have v1:=FC.trans u1
 refine⟨_,rfl,_,rfl,d,e1,kvs,nv,go,rfl,v1 _ _ hd,NF,v1 _ _ Jk,ok.nvd,ok.nvl,ok.nvc,λp5 J2 u2 np5 Xx=>?_⟩
 have v2:=v1.trans u2
 refine⟨_,rfl,_,rfl,d,e2,kvs,sm,go,rfl,v2 _ _ hd,NG,v2 _ _ xr,ok.smd,ok.sml,ok.smc,λp6 J3 u3 Xy Xz=>?_⟩
 have v3:=v2.trans u3
 intro y dy hy Nw h7
 have t7:ag J3 (upd (upd J3 dy (.own y)) y (.ins C dy [])):=λb o hb=>by
  rw[ah (af hb hy),ah (af hb Nw)]
  exact hb
 have q7:(upd (upd J3 dy (.own y)) y (.ins C dy [])) y=some (.ins C dy []):=ae
 generalize upd (upd J3 dy (.own y)) y (.ins C dy [])=J4 at t7 q7 ⊢
 have v4:=v3.trans t7
 have w9:ag H9 J4:=((u1.trans u2).trans u3).trans t7
 have w6:ag H6 J4:=NO.trans w9
 refine⟨y,dy,E1,f2,G,p4,p5,p6,⟨M.switches.filter (dw kvs),br (dr M kvs),gs,aR ((kZ M kvs).map (lQ go)),aR (nv.map (lQ go)),aR (sm.map (lQ go))⟩,rfl,q7,⟨w6 _ _ (NK _ _ Xo),w6 _ _ q6,w6 _ _ (Jm _ _ (lG _ _ Xl)),((u2.trans u3).trans t7) _ _ Xw,(u3.trans t7) _ _ Xx,t7 _ _ Xz⟩,λk1 k2 k3 k4 k5 k6 J5 hg jc Nx oE BS=>⟨rfl,?_⟩⟩
 have yn:H y=none:=same_none v3 hy
 have w5:ag H J5:=λb o hb=>BS b o (v4 _ _ hb) (af hb yn)
 refine⟨_,rfl,_,rfl,(by show 2<=sizeLine;decide),λtp qM=>?_⟩
 have R6:ag J5 (upd J5 tp (.tup [.ref y,.ref d])):=ag.ak qM
 refine kk tp y dy k1 k2 k3 k4 k5 k6 gs _ ⟨w5.trans R6,ae,MO.same ⟨⟨Nx,oE.h1,oE.h2,oE.h3,Paired.bj pg λt r e=>?_⟩,oE.h4,oE.h5,oE.h6⟩ R6,yn,λk hk=>same_none v4 (hg k hk),jc⟩
 have sO:J3 t=some (.tup (dE r)):=((lG.trans Jm).trans (NO.trans ((u1.trans u2).trans u3))) _ _ e
 exact BS t _ (t7 _ _ sO) (af sO hy)
end
noncomputable abbrev Dw:Stmt:=top 14
noncomputable def cg(z:Str):List Str:=if bH z = "0" \/ bH z = "1" then [] else [bH z]
noncomputable def cw(M:ax)(a:Str):List Str:=((M.gates.find? λg=>decide (g.1=a)).map λg=>[g.2.1,g.2.2]).getD []
noncomputable def eG(M:ax)(a:Str):List Str:=if a∈M.keepers.map (·.1) then [cI M.nexts a] else []
inductive Hg(M:ax) (l:Str):Str->Prop
 | base {n:Str} : n∈cg l->Hg M l n
 | step {a z n:Str} : Hg M l a->z∈cw M a++eG M a->n∈cg z->Hg M l n
theorem Hg.sub{M:ax}{l:Str}{P:Str->Prop}(h1:∀n∈cg l,P n)(h2:∀a,P a->∀z∈cw M a++eG M a,∀n∈cg z,P n){n:Str}(h:Hg M l n):P n:=by
 induction h with
 | base h=>exact h1 _ h
 | step _ hz hn ih=>exact h2 _ ih _ hz _ hn
theorem Lit.len{names:List Str}{z:Str}(h:Lit names z)(hn:∀x∈names,aT x):z.length<=9:=by
 refine(zJ.len (z:=z) ?_).2
 rcases h with rfl|rfl|⟨x,hx,rfl|rfl⟩
 . exact .inl rfl
 . exact .inr (.inl rfl)
 . exact .inr (.inr (.inl (hn _ hx)))
 . exact .inr (.inr (.inr ⟨x,hn _ hx,rfl⟩))
theorem HA{names:List Str}{z:Str}(h:Lit names z)(hn:∀x∈names,aT x):bH z = "0" \/ bH z = "1" \/ bH z∈names:=by
 rcases h with rfl|rfl|⟨x,hx,rfl|rfl⟩
 . exact .inl Aa
 . exact .inr (.inl Ab)
 . rw[jP (hn _ hx)]
   exact .inr (.inr hx)
 . rw[i5]
   exact .inr (.inr hx)
theorem pO{names:List Str}{z n:Str}(h:Lit names z)(hn:∀x∈names,aT x)(hm:n∈cg z):n∈names:=by
 unfold cg at hm
 split at hm
 . cases hm
 . rename_i e
   rw[aai.mp hm]
   rcases HA h hn with q|q|q
   . exact absurd (.inl q) e
   . exact absurd (.inr q) e
   . exact q
theorem Lit.up{a b:List Str}{z:Str}(h:Lit a z)(k:∀x∈a,x∈b):Lit b z:=by
 rcases h with h|h|⟨x,hx,h⟩
 . exact .inl h
 . exact .inr (.inl h)
 . exact .inr (.inr ⟨x,k x hx,h⟩)
theorem aG.Ag{M:ax}{names:List Str}(ok:aG M names){r:Str×Str×Str}(h:r∈M.gates):Lit names r.2.1/\Lit names r.2.2:=by
 obtain⟨i,hi,e⟩:=acj h
 have g:=ok.gl i r (by rw[aad hi,e])
 have sub:∀x∈M.switches++M.keepers.map (·.1)++(M.gates.take i).map (·.1),x∈names:=λx hx=>by
  rw[ok.all]
  rcases aae.mp hx with h|h
  . exact aae.mpr (.inl h)
  . obtain⟨q,hq,rfl⟩:=aak.mp h
    exact aae.mpr (.inr (aak.mpr ⟨q,abN hq,rfl⟩))
 exact⟨g.1.up sub,g.2.up sub⟩
theorem aG.QX{M:ax}{names:List Str}(ok:aG M names){a z:Str}(h:z∈cw M a):Lit names z:=by
 unfold cw at h
 cases e:M.gates.find? λg=>decide (g.1=a) with
 | none=>rw[e]at h;cases h
 | some g=>
  rw[e]at h
  obtain⟨g1,g2⟩:=ok.Ag (aco e)
  have:z∈[g.2.1,g.2.2]:=h
  rcases aal.mp this with rfl|q
  . exact g1
  . rw[aai.mp q];exact g2
theorem aG.uk{M:ax}{names:List Str}(ok:aG M names){a:Str}(h:a∈M.keepers.map (·.1)):a∈names:=by
 rw[ok.all]
 exact aae.mpr (.inl (aae.mpr (.inr h)))
theorem aG.Ah{M:ax}{names:List Str}(ok:aG M names){a:Str}(h:a∈names):Lit names (cI M.nexts a):=by
 rw[sD]
 cases e:cJ M.nexts a with
 | none=>exact .inr (.inr ⟨a,h,.inl rfl⟩)
 | some z=>exact ok.nxl (a,z) (rG e)
theorem aG.lits{M:ax}{names:List Str}(ok:aG M names){a z:Str}(h:z∈cw M a++eG M a):Lit names z:=by
 rcases aae.mp h with h|h
 . exact ok.QX h
 . unfold eG at h
   split at h
   . rename_i e
     rw[aai.mp h]
     exact ok.Ah (ok.uk e)
   . cases h
theorem Hg.BM{M:ax}{names:List Str}(ok:aG M names){l n:Str}(hl:Lit names l)(h:Hg M l n):n∈names:=
 h.sub (P:=(· ∈ names)) (λn hn=>pO hl ok.nm hn) λa ha z hz n hn=>pO (ok.lits hz) ok.nm hn
noncomputable def kT(n:Str):Key×V:=(.inr n,.bl true)
theorem wD(n:Str)(fs:List Str):(bA (fs.map kT) (.inr n)).isSome=decide (n∈fs):=by
 have h:=kz n (fs.map λm=>(m,V.bl true))
 rw[show br (fs.map λm=>(m,V.bl true))=fs.map kT from by unfold br;rw[aa1];rfl,aa1]at h
 rw[h]
 simp
theorem NP{n:Str}{fs:List Str}(h:n∉fs):putK (fs.map kT) (.inr n) (.bl true)=(fs++[n]).map kT:=by
 have:bA (fs.map kT) (.inr n)=none:=by
  have:=wD n fs
  rw[aaW h]at this
  cases e:bA (fs.map kT) (.inr n) with
  | none=>rfl
  | some v=>rw[e]at this;cases this
 rw[mz _ this,aag]
 rfl
noncomputable def JT(H:Hp) (jl:List (Str×V)) (gs:List (Str×Str×Str)):Prop:=Paired (λ(p:Str×V) (g:Str×Str×Str)=>p.1=g.1/\∃u,p.2=.ref u/\H u=some (.tup [.str g.2.1,.str g.2.2])) jl gs
theorem JT.look{H:Hp}{jl:List (Str×V)}{gs:List (Str×Str×Str)}(h:JT H jl gs) (n:Str):(∃u g,gs.find? (λg=>decide (g.1=n))=some g/\bA (br jl) (.inr n)=some (.ref u)/\H u=some (.tup [.str g.2.1,.str g.2.2]))\/(gs.find? (λg=>decide (g.1=n))=none/\bA (br jl) (.inr n)=none):=by
 induction h with
 | nil=>exact .inr ⟨rfl,rfl⟩
 | @cons p g jl gs h0 _ ih=>
  obtain⟨e1,u,e2,e3⟩:=h0
  by_cases e:g.1=n
  . refine .inl ⟨u,g,by rw[abf (by simpa using e)],?_,e3⟩
    rw[show br (p::jl)=(.inr p.1,p.2)::br jl from rfl,fu (by rw[e1,e]),e2]
  . have e':¬ (Sum.inr p.1:Key)=.inr n:=λq=>e (by rw[← e1];exact acH q)
    rw[abg (by simpa using e),show br (p::jl)=(.inr p.1,p.2)::br jl from rfl,fz e']
    exact ih
theorem JT.same{H H':Hp}{jl:List (Str×V)}{gs:List (Str×Str×Str)}(h:JT H jl gs) (s:ag H H'):JT H' jl gs:=Paired.bj h λp g ⟨e1,u,e2,e3⟩=>⟨e1,u,e2,s _ _ e3⟩
theorem JT.keys{H:Hp}{jl:List (Str×V)}{gs:List (Str×Str×Str)}(h:JT H jl gs):jl.map (·.1)=gs.map (·.1):=by
 induction h with
 | nil=>rfl
 | cons h0 _ ih=>rw[aay,aay,ih,h0.1]
noncomputable def Ai(C:Addr):Sp:=λvs H Q _=>∃(x dx g1 g2 g3 g4 g5 g6:Addr) (ts:List Addr) (M:ax) (names:List Str) (l:Str),vs=[.ref x,.str l]/\MO C H x dx g1 g2 g3 g4 g5 g6 ts M/\aG M names/\names.length<=200/\Lit names l/\
 ∀(d:Addr) (fs:List Str) (H':Hp),ag H H'->H d=none->H' d=some (.dK (fs.map kT))->fs.Nodup->(∀n,n∈fs ↔ Hg M l n)->Q (.ref d) H'
structure tF(M:ax) (l:Str) (fs ws:List Str):Prop where
 nd:fs.Nodup
 f:∀n∈fs,Hg M l n
 w:∀z∈ws,∀n∈cg z,Hg M l n
 c:∀a∈fs,∀z∈cw M a++eG M a,∀n∈cg z,n∈fs\/∃z'∈ws,n∈cg z'
 b:∀n∈cg l,n∈fs\/∃z'∈ws,n∈cg z'
theorem tF.drop{M:ax}{l:Str}{fs ws:List Str}{z:Str}(h:tF M l fs (ws++[z])) (hz:∀n∈cg z,n∈fs):tF M l fs ws:=by
 have red:∀n,(n∈fs\/∃z'∈ws++[z],n∈cg z')->n∈fs\/∃z'∈ws,n∈cg z':=λn q=>by
  rcases q with q|⟨z',q1,q2⟩
  . exact .inl q
  . rcases aae.mp q1 with q|q
    . exact .inr ⟨z',q,q2⟩
    . rw[aai.mp q]at q2
      exact .inl (hz n q2)
 exact⟨h.nd,h.f,λz' q=>h.w z' (aae.mpr (.inl q)),λa ha z' q n hn=>red n (h.c a ha z' q n hn),λn hn=>red n (h.b n hn)⟩
theorem tF.take{M:ax}{l:Str}{fs ws:List Str}{z n:Str}(h:tF M l fs (ws++[z])) (hz:cg z=[n]) (hn:n∉fs):tF M l (fs++[n]) (ws++(cw M n++eG M n)):=by
 have hg:Hg M l n:=h.w z (aae.mpr (.inr (aai.mpr rfl))) n (by rw[hz];exact aai.mpr rfl)
 have red:∀m,(m∈fs\/∃z'∈ws++[z],m∈cg z')->m∈fs++[n]\/∃z'∈ws++(cw M n++eG M n),m∈cg z':=λm q=>by
  rcases q with q|⟨z',q1,q2⟩
  . exact .inl (aae.mpr (.inl q))
  . rcases aae.mp q1 with q|q
    . exact .inr ⟨z',aae.mpr (.inl q),q2⟩
    . rw[aai.mp q,hz]at q2
      exact .inl (aae.mpr (.inr q2))
 refine⟨?_,λm hm=>?_,λz' q m hm=>?_,λa ha z' q m hm=>?_,λm hm=>red m (h.b m hm)⟩
 . refine aav.mpr ⟨h.nd,aa0.mpr ⟨aaH,acg⟩,λa ha b hb e=>hn ?_⟩
   rw[← aai.mp hb,← e]
   exact ha
 . rcases aae.mp hm with q|q
   . exact h.f m q
   . rw[aai.mp q];exact hg
 . rcases aae.mp q with q|q
   . exact h.w z' (aae.mpr (.inl q)) m hm
   . exact .step hg q hm
 . rcases aae.mp ha with ha|ha
   . exact red m (h.c a ha z' q m hm)
   . rw[aai.mp ha]at q
     exact .inr ⟨z',aae.mpr (.inr q),hm⟩
theorem tF.done{M:ax}{l:Str}{fs:List Str}(h:tF M l fs [])(n:Str):n∈fs ↔ Hg M l n:=by
 refine⟨h.f n,λq=>q.sub (P:=(· ∈ fs)) (λn hn=>(h.b n hn).elim id λ⟨_,z,_⟩=>nomatch z) λa ha z hz n hn=>(h.c a ha z hz n hn).elim id λ⟨_,z,_⟩=>nomatch z⟩
theorem len_sub:∀{fs names:List Str},fs.Nodup->(∀n∈fs,n∈names)->fs.length<=names.length
 | [],_,_,_=>abM _
 | a::fs,names,nd,h=>by
  rw[aa0]at nd
  have ha:=h a aaR
  have:=len_sub (names:=names.erase a) nd.2 λn hn=>(aeP λe=>nd.1 (by rw[← e];exact hn)).mpr (h n (aaz _ hn))
  rw[aed ha]at this
  have hp:0<names.length:=aez ha
  rw[abl]
  lia
theorem Bd{H:Hp}{D:Addr} : ∀{ps:List (Addr×Addr)}{gs:List (Str×Str×Str)},Paired (λ(p:Addr×Addr) (g:Str×Str×Str)=>H p.1=some (.tup [.str g.1,.ref p.2])/\H p.2=some (.tup [.str g.2.1,.str g.2.2])) ps gs->
 ∃jl:List (Str×V),JT H jl gs/\Paired (λt (kv:Key×V)=>H t=some (.tup [kV kv.1,kv.2])) (ps.map (·.1)) (br jl):=by
 intro ps gs h
 induction h with
 | nil=>exact⟨[],.nil,.nil⟩
 | @cons p g _ _ h0 _ ih=>
  obtain⟨jl,a,b⟩:=ih
  exact⟨(g.1,.ref p.2)::jl,.cons ⟨rfl,p.2,rfl,h0.2⟩ a,.cons h0.1 b⟩
theorem rJ{z:Str}(h0:bH z ≠ "0")(h1:bH z ≠ "1"):cg z=[bH z]:=aaY (by simp[h0,h1])
section
variable {P:Program}{w:World}{K:W.Frag}{mg:Str->Option Value}{base:Heap}{C:Addr}
noncomputable abbrev QY:List Str:=["machine", "literal", "joined", "found", "waiting", "name"]
theorem rK:aK QY ["machine", "literal"] (aw Dw):=fs
theorem K5{f fB fN:Addr}{fd dB dN:FuncData}(F:aQ K "hung_on" "hung_on" Dw f fd)(T:mO K mg C)(O:iu mg)(CB:cj P w K mg base 1 fB dB "bare_name" ["literal"] vo) (CN:cj P w K mg base 1 fN dN "next_of" ["machine", "keeper"] (wz C)):aP P w K mg base aZ 2 f fd ["machine", "literal"] (Ai C):=by
 refine F.go rK (λcdv A outer s H vs Q E hr h=>?_)
 obtain⟨x,dx,g1,g2,g3,g4,g5,g6,ts,M,names,l,rfl,hM,ok,nl,hl,kk⟩:=h
 have hu:=eE hr
 refine⟨_,(aj (cE 2 rK.nd (aN (bp rfl) (by rfl) O.dict aaQ (aa (b8 (N:=["name", "one", "other"]) (js:=[none,none,none]) (g:=lK K 3 (dm (bO 0) (dm (bO 1) (dm (bO 2) lJ)))) (te:=(lL (cW (aL 0) (cW (lL (cW (aL 1) (cW (aL 2) jY))) jY)))) (by kernel_rfl) rfl (ba (cq (pv 0) rfl)) (λ_ _ _ _ _ _=>(cN rfl (aA (ar (i:=0) (show (["name", "one", "other"]:List Str).Nodup from dk) rfl (Or.inl rfl) (.inr rfl)) (aA (ar (i:=1) (show (["name", "one", "other"]:List Str).Nodup from dk) rfl (Or.inl rfl) (.inr rfl)) (aA (ar (i:=2) (show (["name", "one", "other"]:List Str).Nodup from dk) rfl (Or.inl rfl) (.inr rfl)) cc))))) (λ_ _ _ _ _ _=>bb) (λ_ _ _ _ _ _=>(bF (aa (pv 0) (aa (bF (aa (pv 1) (aa (pv 2) ai))) ai))))) ai)))
  (aj (cE 3 rK.nd yH)
  (aj (cE 4 rK.nd (cf (aa (pv 1) ai)))
  (aj (yC aa6 (iJ (P9 (ef cy (by rfl) O.len abS (aa (pv 4) ai)) ao))
   (aj (cE 5 rK.nd (a8 CB hr (aa (qz aaX aeJ aeK Ei (pv 4)) ai)))
   (av (cU (PW.pt (uD (iJ (Ed hu (pv 5) (pv 3))) (rY (bh j0 (pv 5) (bF (aa au (aa au ai))) (by with_unfolding_all rfl)))))
    (aj (gZ hu (pv 3) (pv 5) kO rfl)
    (aj (dg (eY aaX PySem.F.slot_list_extend PySem.F.type_list_extend KW (pv 4) (aa (oW hu (pv 2) (pv 5) (bF ai) ⟨rfl,rfl,rfl,rfl⟩) ai)))
    (av (cU (iJ (yF hu (pv 5) (cq (pv 0) rfl)))
     (av (dg (eY aaX abd abe dj (pv 4) (aa (a8 CN hr (aa (pv 0) (aa (pv 5) ai))) ai)))) bN)))) bN))))
  (av (aJ (pv 3))))))),?_⟩
 have gg:=hM.hp.length
 have XA:(M.gates.map (·.1)).Nodup:=by have:=ok.nd;rw[ok.all]at this;exact(aav.mp this).2.1
 have gl:M.gates.length<=200:=by rw[ok.all]at nl;simp only[aaf,aaa]at nl;lia
 refine⟨_,rfl,x,C,dx,_,_,rfl,hM.hx,T.cl,T.n3,rn ..,g3,rfl,⟨_,aq.of hM.h3⟩,λD hD=>?_⟩
 have nw:∀{H9:Hp}{o:HO},ag H H9->ag H (upd H9 D o):=λs9 c o hc=>by rw[ah (af hc hD)];exact s9 c o hc
 refine gr M.gates.length (λi acc σ H9=>(∃u v w,σ=[u,v,w])/\ag H H9/\∃ps:List (Addr×Addr),acc=(ps.map (·.1)).map V.ref/\Paired (λ(p:Addr×Addr) (g:Str×Str×Str)=>H9 p.1=some (.tup [.str g.1,.ref p.2])/\H9 p.2=some (.tup [.str g.2.1,.str g.2.2])) ps (M.gates.take i)) ⟨⟨none,none,none,rfl⟩,nw λ_ _ h=>h,[],rfl,.nil⟩ ae ?_ ?_
 rotate_left
 . rintro i acc σ H9 hi bf ⟨⟨u,v,w',rfl⟩,s9,ps,rfl,p9⟩
   have eJ:M.gates[i]?=some M.gates[i]:=aad hi
   obtain⟨t,ht,eS⟩:=i3 hM.hp eJ
   have ex:(ts.map V.ref)[i]?=some (.ref t):=by rw[aan,ht];rfl
   refine⟨⟨_,_,aq.of (s9 _ _ hM.h3),ex⟩,?_⟩
   rintro v H' ⟨rfl,w1⟩
   have z1:=w1 _ (aq.of (s9 _ _ hM.h3))
   rw[ex]at z1
   cases z1
   generalize hg:M.gates[i]=g at eJ eS
   refine⟨t,_,rfl,aH.of (s9 _ _ eS),rfl,_,_,rfl,_,_,rfl,_,_,rfl,rfl,?_⟩
   refine qR ?_
   refine⟨_,rfl,_,rfl,_,rfl,by show 2<=sizeLine;decide,λU hU=>?_⟩
   have s1:ag H' (upd H' U (.tup [.str g.2.1,.str g.2.2])):=ag.ak hU
   have q1:(upd H' U (.tup [.str g.2.1,.str g.2.2])) U=some (.tup [.str g.2.1,.str g.2.2]):=ae
   generalize upd H' U (.tup [.str g.2.1,.str g.2.2])=J1 at s1 q1 ⊢
   refine⟨by show 2<=sizeLine;decide,λT hT=>?_⟩
   have s2:ag J1 (upd J1 T (.tup [.str g.1,.ref U])):=ag.ak hT
   have q2:(upd J1 T (.tup [.str g.1,.ref U])) T=some (.tup [.str g.1,.ref U]):=ae
   generalize upd J1 T (.tup [.str g.1,.ref U])=J2 at s2 q2 ⊢
   have lG:=s1.trans s2
   have iM:=lG _ _ bf
   have nt:∀{b:Addr}{o:List V},J2 b=some (.tup o)->b≠D:=λhb e=>by rw[e,iM]at hb;cases hb
   have pl:=p9.length
   rw[aa3]at pl
   refine⟨_,iM,(by rw[aaa,aaa];exact small (by lia)),cp hi ae ⟨⟨_,_,_,rfl⟩,nw λb o hb=>lG _ _ (s9 b o hb),ps++[(T,U)],by rw[aag,aag];rfl,?_⟩⟩
   rw[abL,eJ,ab7]
   refine ab8 (Paired.bj p9 λp g' e=>?_) ?_
   . have e1:=lG _ _ e.1
     have e2:=lG _ _ e.2
     exact⟨by rw[ah (nt e1)];exact e1,by rw[ah (nt e2)];exact e2⟩
   . have e2:=s2 _ _ q1
     exact⟨by rw[ah (nt q2)];exact q2,by rw[ah (nt e2)];exact e2⟩
 rintro acc σ H1 bf ⟨_,s1,ps,rfl,p1⟩
 rw[abp]at p1
 refine⟨⟨_,aq.of (s1 _ _ hM.h3),by rw[aaa,gg];exact aah _⟩,?_⟩
 obtain⟨jl,hj,pj⟩:=Bd (D:=D) p1
 refine⟨D,ps.map (·.1),br jl,rfl,bf,pj,λJ hJ=>?_⟩
 rw[show bE [] (br jl)=br jl from iS jl [] (by rw[abV,hj.keys];exact XA)]
 have s2:ag H1 (upd H1 J (.dK (br jl))):=ag.ak hJ
 have q2:(upd H1 J (.dK (br jl))) J=_:=ae
 generalize upd H1 J (.dK (br jl))=H2 at s2 q2 ⊢
 have NQ:=hj.same s2
 have gJ:=s1.trans s2
 have iD:=hM.same gJ
 intro Fd hF
 have s3:ag H2 (upd H2 Fd (.dK [])):=ag.ak hF
 have q3:(upd H2 Fd (.dK [])) Fd=some (.dK (([]:List Str).map kT)):=ae
 generalize upd H2 Fd (.dK [])=H3 at s3 q3 ⊢
 refine⟨_,rfl,by show 1<=sizeLine;decide,λW hW=>?_⟩
 have s4:ag H3 (upd H3 W (.lst [.str l])):=ag.ak hW
 have q4:(upd H3 W (.lst [.str l])) W=some (.lst (([l]:List Str).map V.str)):=ae
 have FW:Fd≠W:=af q3 hW
 have W2:H2 W=none:=same_none s3 hW
 generalize upd H3 W (.lst [.str l])=H4 at s4 q4 ⊢
 have F4:=s4 _ _ q3
 refine⟨λm σ Hi=>∃(v5:Option V) (fs ws:List Str),σ=[some (.ref x),some (.str l),some (.ref J),some (.ref Fd),some (.ref W),v5]/\m=4*(names.length-fs.length)+ws.length/\ag H2 Hi/\Hi Fd=some (.dK (fs.map kT))/\Hi W=some (.lst (ws.map V.str))/\tF M l fs ws/\(∀z∈ws,Lit names z)/\(∀n∈fs,n∈names)/\ws.length<=1+2*fs.length,
  ⟨_,none,[],[l],rfl,rfl,s3.trans s4,F4,q4,⟨acg,λ_ h=>(nomatch h),λz hz n hn=>.base (by rw[← aai.mp hz];exact hn),λ_ h=>(nomatch h),λn hn=>.inr ⟨l,aai.mpr rfl,hn⟩⟩,λz hz=>by rw[aai.mp hz];exact hl,λ_ h=>(nomatch h),by simp⟩,?_⟩
 rintro m σ Hi ⟨v5,fs,ws,rfl,rfl,si,R7,NR,hI,Jn,uA,xk⟩
 have fl:=len_sub hI.nd uA
 refine⟨_,rfl,W,_,rfl,.inl (aq.of NR),_,_,rfl,rfl,_,rfl,?_⟩
 rw[aaa]
 rcases List.eq_nil_or_concat ws with rfl|⟨lH,z,Fl⟩
 . refine bQ ⟨_,rfl,?_⟩
   exact kk Fd fs Hi (gJ.trans si) (same_none gJ hF) R7 hI.nd hI.done
 rw[List.concat_eq_append]at Fl
 subst Fl
 show (if decide ((0:Int)<((lH++[z]).length:Int))=true then _ else _)
 rw[aaU (by rw[aaf,aat];lia)]
 refine fJ ?_
 have yZ:=Jn z (aae.mpr (.inr (aai.mpr rfl)))
 refine⟨λbo H'=>∃(v5:Option V) (fs' um:List Str),bo=[some (.ref x),some (.str l),some (.ref J),some (.ref Fd),some (.ref W),v5]/\4*(names.length-fs'.length)+um.length<4*(names.length-fs.length)+(lH++[z]).length/\ag H2 H'/\H' Fd=some (.dK (fs'.map kT))/\H' W=some (.lst (um.map V.str))/\tF M l fs' um/\(∀z∈um,Lit names z)/\(∀n∈fs',n∈names)/\um.length<=1+2*fs'.length,λbo H' h=>?_,?_⟩
 . obtain⟨v5,fs',um,e1,e2,e3⟩:=h
   exact⟨_,e2,v5,fs',um,e1,rfl,e3⟩
 rw[aaf,aat]at xk
 refine⟨_,rfl,.inl ⟨rfl,_,aq.of NR⟩,W,_,.str z,rfl,rfl,NR,(by simp),?_⟩
 have ed:((lH++[z]).map V.str).dropLast=lH.map V.str:=by rw[aag];simp
 rw[ed]
 have k5:∀b o,Hi b=some o->b≠W->(upd Hi W (.lst (lH.map V.str))) b=some o:=λb o hb hn=>by rw[ah hn];exact hb
 have q5:(upd Hi W (.lst (lH.map V.str))) W=some (.lst (lH.map V.str)):=ae
 generalize upd Hi W (.lst (lH.map V.str))=H5 at k5 q5 ⊢
 have s5:ag H2 H5:=λb o hb=>k5 b o (si _ _ hb) (af hb W2)
 have NS:=k5 _ _ R7 FW
 refine⟨z,rfl,aao (yZ.len ok.nm) (by decide),?_⟩
 generalize hb:bH z=n
 refine⟨_,rfl,_,rfl,Fd,_,rfl,aX.k (k:=.inr n) NS,_,rfl,?_⟩
 rw[wD]
 by_cases xH:n∈fs
 . rw[aaU xH]
   refine bQ (bQ ⟨_,fs,lH,rfl,?_,s5,NS,q5,hI.drop λm hm=>?_,λz' h=>Jn z' (aae.mpr (.inl h)),uA,by lia⟩)
   . rw[aaf,aat];lia
   . unfold cg at hm
     split at hm
     . cases hm
     . rw[aai.mp hm,hb];exact xH
 rw[aaW xH]
 refine fJ ⟨_,rfl,by show 2<=sizeLine;decide,λt ht=>?_⟩
 have s6:ag H5 (upd H5 t (.tup [.str "0",.str "1"])):=ag.ak ht
 have q6:(upd H5 t (.tup [.str "0",.str "1"])) t=some (.tup [.str "0",.str "1"]):=ae
 generalize upd H5 t (.tup [.str "0",.str "1"])=H6 at s6 q6 ⊢
 refine⟨t,_,rfl,.inr (aH.of q6),rfl,rfl,_,rfl,?_⟩
 show if (!g0 (.str n) [.str "0",.str "1"])=true then _ else _
 have R8:=s5.trans s6
 have R9:=s6 _ _ NS
 have Sa:=s6 _ _ q5
 by_cases Jo:n = "0" \/ n = "1"
 . rw[show g0 (.str n) [.str "0",.str "1"]=true from by rcases Jo with e|e <;> (rw[e];decide+kernel)]
   refine bQ ⟨_,fs,lH,rfl,?_,R8,R9,Sa,hI.drop λm hm=>?_,λz' h=>Jn z' (aae.mpr (.inl h)),uA,by lia⟩
   . rw[aaf,aat];lia
   . unfold cg at hm
     rw[hb,aa4 Jo]at hm
     cases hm
 have n0:n ≠ "0":=λe=>Jo (.inl e)
 have n1:n ≠ "1":=λe=>Jo (.inr e)
 rw[Hy n0 n1]
 have ez:cg z=[n]:=by rw[← hb];exact rJ (by rw[hb];exact n0) (by rw[hb];exact n1)
 have y8:n∈names:=pO yZ ok.nm (by rw[ez];exact aai.mpr rfl)
 have Aj:=hI.take ez xH
 have XB:=len_sub Aj.nd λm hm=>(aae.mp hm).elim (uA m) λq=>by rw[aai.mp q];exact y8
 rw[aaf,aat]at XB
 refine fJ ⟨_,rfl,_,rfl,Fd,_,rfl,gY.k (k:=.inr n) R9 (by rw[aaa];exact small (by lia)),?_⟩
 rw[NP xH]
 have k7:∀b o,H6 b=some o->b≠Fd->(upd H6 Fd (.dK ((fs++[n]).map kT))) b=some o:=λb o hb hn=>by rw[ah hn];exact hb
 have q7:(upd H6 Fd (.dK ((fs++[n]).map kT))) Fd=some (.dK ((fs++[n]).map kT)):=ae
 generalize upd H6 Fd (.dK ((fs++[n]).map kT))=H7 at k7 q7 ⊢
 have s7:ag H2 H7:=λb o hb=>k7 b o (R8 _ _ hb) (af hb hF)
 have Sb:=k7 _ _ Sa FW.symm
 refine⟨_,rfl,.inl ⟨rfl,_,aq.of Sb⟩,_,rfl,J,rfl,.inl ⟨_,.inl (s7 _ _ q2)⟩,_,rfl,by show 0<=sizeLine;decide,λU hU=>?_⟩
 have s8:ag H7 (upd H7 U (.tup [])):=ag.ak hU
 have q8:(upd H7 U (.tup [])) U=some (.tup []):=ae
 generalize upd H7 U (.tup [])=H8 at s8 q8 ⊢
 have NT:=s7.trans s8
 refine⟨_,aX.k (k:=.inr n) (NT _ _ q2),?_⟩
 have gt:∃u,(bA (br jl) (.inr n)).getD (.ref U)=.ref u/\H8 u=some (.tup ((cw M n).map V.str))/\(cw M n).length<=2:=by
  unfold cw
  rcases (NQ.same NT).look n with⟨u,g,e1,e2,e3⟩|⟨e1,e2⟩
  . exact⟨u,by rw[e2];rfl,by rw[e1];exact e3,by rw[e1];exact aah _⟩
  . exact⟨U,by rw[e2];rfl,by rw[e1];exact q8,by rw[e1];decide⟩
 obtain⟨u,eu,XC,lu⟩:=gt
 rw[eu]
 refine⟨W,u,_,_,rfl,rfl,s8 _ _ Sb,aH.of XC,(by rw[aaa,aaa];exact iL (by lia)),?_⟩
 rw[← aag]
 have k9:∀b o,H8 b=some o->b≠W->(upd H8 W (.lst ((lH++cw M n).map V.str))) b=some o:=λb o hb hn=>by rw[ah hn];exact hb
 have q9:(upd H8 W (.lst ((lH++cw M n).map V.str))) W=some (.lst ((lH++cw M n).map V.str)):=ae
 generalize upd H8 W (.lst ((lH++cw M n).map V.str))=H9 at k9 q9 ⊢
 have s9:ag H2 H9:=λb o hb=>k9 b o (NT _ _ hb) (af hb W2)
 have Sd:=k9 _ _ (s8 _ _ q7) FW
 have NU:=iD.same s9
 have lO:∀z∈lH++(cw M n++eG M n),Lit names z:=λz' h=>by
  rcases aae.mp h with h|h
  . exact Jn z' (aae.mpr (.inl h))
  . exact ok.lits h
 have NV:∀m∈fs++[n],m∈names:=λm hm=>(aae.mp hm).elim (uA m) λq=>by rw[aai.mp q];exact y8
 refine⟨_,rfl,_,rfl,x,C,dx,_,_,rfl,NU.hx,T.cl,T.n2,ow ..,g2,_,rfl,aX.k (k:=.inr n) NU.h2,_,rfl,?_⟩
 rw[show (bA (M.keepers.map λr=>((.inr r.1:Key),r.2)) (.inr n)).isSome=decide (n∈M.keepers.map (·.1)) from kz n M.keepers]
 by_cases hk:n∈M.keepers.map (·.1)
 . rw[aaU hk]
   have ek:eG M n=[cI M.nexts n]:=aa4 hk
   rw[ek]at Aj lO
   refine fJ ⟨_,rfl,.inl ⟨rfl,_,aq.of q9⟩,_,rfl,_,rfl,x,dx,g1,g2,g3,g4,g5,g6,ts,M,n,rfl,NU,W,_,_,rfl,rfl,q9,(by rw[aaa,aaf];exact small (by lia)),?_⟩
   refine⟨_,fs++[n],lH++(cw M n++[cI M.nexts n]),rfl,?_,λb o hb=>?_,?_,?_,Aj,lO,NV,?_⟩
   . simp only[aaf,aat];lia
   . rw[ah (af hb W2)]
     exact s9 _ _ hb
   . rw[ah FW];exact Sd
   . rw[ae,← abo,aag (l₂:=[cI M.nexts n])]
     rfl
   . simp only[aaf,aat];lia
 . rw[aaW hk]
   have ek:eG M n=[]:=aaY hk
   rw[ek,abw]at Aj lO
   refine bQ ⟨_,fs++[n],lH++cw M n,rfl,?_,s9,Sd,q9,Aj,lO,NV,?_⟩
   . simp only[aaf,aat];lia
   . simp only[aaf,aat];lia
end
noncomputable abbrev Dx:Stmt:=top 13
noncomputable def ay(M:ax)(need:Str->Bool)(wish:Str):ax:=⟨M.switches.filter need,M.keepers.filter λr=>need r.1,M.gates.filter λr=>need r.1,M.nexts.filter λr=>need r.1,M.nevers.filter λr=>decide (r.1=wish),M.somes.filter λr=>decide (r.1=wish)⟩
noncomputable def vC(need:Str->Bool)(n:Str):V:=if need n=true then .str n else .aM
noncomputable def iT(M:ax)(need:Str->Bool):List (Key×V):=(bg M).map λn=>((.inr n:Key),vC need n)
noncomputable def jh(M:ax)(wish:Str)(need:Str->Bool):Prop:=∀n,need n=true ↔ Hg M (gT M wish) n
theorem jh.one{M:ax}{wish:Str}{n1 n2:Str->Bool}(h1:jh M wish n1)(h2:jh M wish n2):n1=n2:=funext λn=>by
 rw[abH,h1 n,h2 n]
theorem oG{f:Str->V}{n:Str} : ∀{l:List Str},n∈l->bA (l.map λn=>((.inr n:Key),f n)) (.inr n)=some (f n)
 | a::l,h=>by
  rw[aay]
  by_cases e:a=n
  . rw[fu (by rw[e]),e]
  . rw[fz λq=>e (acH q)]
    exact oG ((aal.mp h).resolve_left (aau e))
theorem sE{M:ax}{need:Str->Bool}{n:Str}(h:n∈bg M):dw (iT M need) n=need n:=by
 unfold dw iT
 rw[oG (f:=vC need) h]
 unfold vC
 cases e:need n with
 | true=>rw[aa4 rfl];exact aaU rfl
 | false=>rw[aaY aax];exact aaW λq=>by cases aaS q
theorem wF{names:List Str}{z:Str}(h:Lit names z)(hn:∀x∈names,aT x):kK id z=z:=by
 unfold kK
 rcases h with rfl|rfl|⟨x,hx,rfl|rfl⟩
 . rw[aa4 (.inl rfl)]
 . rw[aa4 (.inr rfl)]
 . obtain⟨a,b,c⟩:=kA (hn _ hx)
   rw[aaY (by simp[a,b]),aaY c]
   exact jP (hn _ hx)
 . obtain⟨a,b⟩:=uc x
   obtain⟨a',b',c'⟩:=kA (hn _ hx)
   rw[aaY (by simp[a,b]),aa4 (by rw[ij];rfl)]
   show vp (bH ("~" ++ x))=_
   rw[i5]
   unfold vp
   rw[aaY a',aaY b',aaY c']
theorem FD{names:List Str}{z:Str}(h:Lit names z)(hn:∀x∈names,aT x)(h0:z ≠ "0")(h1:z ≠ "1"):bH z∈cg z:=by
 have hb:bH z ≠ "0" /\ bH z ≠ "1":=by
  rcases h with rfl|rfl|⟨x,hx,rfl|rfl⟩
  . exact absurd rfl h0
  . exact absurd rfl h1
  . rw[jP (hn _ hx)]
    exact⟨h0,h1⟩
  . rw[i5]
    obtain⟨a,b,_⟩:=kA (hn _ hx)
    exact⟨a,b⟩
 rw[rJ hb.1 hb.2]
 exact aai.mpr rfl
theorem HB{z:Str}(h:aT z):z.length<=9:=(zJ.len (.inr (.inr (.inl h)))).2
theorem oH{M:ax}{names:List Str}(ok:aG M names){wish:Str}{need:Str->Bool}(hl:Lit names (gT M wish)) (hN:jh M wish need){z:Str}(hz:Lit names z) (h:∀n∈cg z,Hg M (gT M wish) n):nH (iT M need) id z:=
 ⟨aao (hz.len ok.nm) (by decide),λh0 h1=>by
  have hb:=h _ (FD hz ok.nm h0 h1)
  have hm:=hb.BM ok hl
  have e:bg M=names:=ok.all.symm
  refine⟨?_,aao (HB (ok.nm _ hm)) (by decide)⟩
  unfold iT
  rw[e,oG (f:=vC need) hm]
  unfold vC
  rw[aa4 ((hN _).mpr hb)]
  rfl⟩
theorem rL{M:ax}{names:List Str}(ok:aG M names){r:Str×Str×Str}(h:r∈M.gates):cw M r.1=[r.2.1,r.2.2]:=by
 have nd:(M.gates.map (·.1)).Nodup:=by have:=ok.nd;rw[ok.all]at this;exact(aav.mp this).2.1
 unfold cw
 have:M.gates.find? (λg=>decide (g.1=r.1))=some r:=by
  clear ok
  generalize M.gates=gs at h nd
  induction gs with
  | nil=>cases h
  | cons g gs ih=>
   rw[aay,aa0]at nd
   rcases aal.mp h with e|e
   . rw[e,abf (by simp)]
   . rw[abg (by simpa using λq:g.1=r.1=>nd.1 (aak.mpr ⟨r,e,q.symm⟩))]
     exact ih e nd.2
 rw[this]
 rfl
theorem oI{M:ax}{names:List Str}(ok:aG M names){wish:Str}(h:wish∈(M.nevers++M.somes).map (·.1)):Lit names (gT M wish)/\(∀r∈M.nevers,r.1=wish->r.2=gT M wish)/\∀r∈M.somes,r.1=wish->r.2=gT M wish:=by
 unfold gT
 cases e:cJ M.nevers wish with
 | some z=>
  have hm:=rG e
  refine⟨ok.nvw.lit _ hm,λr hr q=>?_,λr hr q=>?_⟩
  . have:=kI ok.nvw.nd (n:=wish) (z:=r.2) (by rw[← q];exact hr)
    rw[e]at this
    exact(aaS this).symm
  . exact absurd (aak.mpr ⟨_,hm,q.symm⟩) (ok.smw.ut r hr)
 | none=>
  have hs:∃z,cJ M.somes wish=some z:=by
   rw[aag]at h
   rcases aae.mp h with q|q
   . obtain⟨z,q⟩:=mh q
     rw[q]at e
     cases e
   . exact mh q
  obtain⟨z,ez⟩:=hs
  rw[show (none:Option Str).orElse (λ_=>cJ M.somes wish)=cJ M.somes wish from rfl,ez]
  refine⟨ok.smw.lit _ (rG ez),λr hr q=>?_,λr hr q=>?_⟩
  . have:=kI ok.nvw.nd (n:=wish) (z:=r.2) (by rw[← q];exact hr)
    rw[e]at this
    cases this
  . have:=kI ok.smw.nd (n:=wish) (z:=r.2) (by rw[← q];exact hr)
    rw[ez]at this
    exact(aaS this).symm
theorem wG{names:List Str}{l:List (Str×Str)}(hn:∀x∈names,aT x) (h:∀r∈l,Lit names r.2):l.map (lQ id)=l:=by
 conv=>rhs;rw[← aeT l]
 refine ab2 λr hr=>?_
 show (r.1,kK id r.2)=r
 rw[wF (h r hr) hn]
theorem uo{M:ax}{need:Str->Bool} : dr M (iT M need)=M.keepers.filter λr=>need r.1:=by
 unfold dr
 refine acr λr hr=>?_
 exact sE (aae.mpr (.inl (aae.mpr (.inr (aak.mpr ⟨r,hr,rfl⟩)))))
theorem BU{M:ax}{names:List Str}(ok:aG M names){need:Str->Bool}{r:Str×Str}(h:r∈M.nexts):decide (r.1∈(dr M (iT M need)).map (·.1))=need r.1:=by
 rw[uo,abH,abb]
 constructor
 . intro q
   obtain⟨k,hk,e⟩:=aak.mp q
   rw[← e]
   exact(aap.mp hk).2
 . intro q
   obtain⟨k,hk,e⟩:=aak.mp (ok.nxk r h)
   exact aak.mpr ⟨k,aap.mpr ⟨hk,by rw[e];exact q⟩,e⟩
theorem Dy{M:ax}{names:List Str}(ok:aG M names)(need:Str->Bool)(wish:Str):Af M (iT M need) id (M.nevers.filter λr=>decide (r.1=wish)) (M.somes.filter λr=>decide (r.1=wish))=ay M need wish:=by
 unfold Af ay kZ
 rw[uo,wG ok.nm λr hr=>ok.nvw.lit r (aap.mp hr).1,wG ok.nm λr hr=>ok.smw.lit r (aap.mp hr).1]
 have e1:M.switches.filter (dw (iT M need))=M.switches.filter need:=acr λn hn=>sE (aae.mpr (.inl (aae.mpr (.inl hn))))
 have e2:(M.gates.filter λr=>dw (iT M need) r.1)=M.gates.filter λr=>need r.1:=acr λr hr=>sE (aae.mpr (.inr (aak.mpr ⟨r,hr,rfl⟩)))
 have e3:(M.nexts.filter λr=>decide (r.1∈(M.keepers.filter λr=>need r.1).map (·.1)))=M.nexts.filter λr=>need r.1:=acr λr hr=>by have:=BU ok (need:=need) hr;rw[uo]at this;exact this
 rw[e1,e2,e3,wG ok.nm λr hr=>ok.nxl r (aap.mp hr).1]
 congr 1
 conv=>rhs;rw[← aeT (M.gates.filter λr=>need r.1)]
 refine ab2 λr hr=>?_
 obtain⟨g1,g2⟩:=ok.Ag (aap.mp hr).1
 show (r.1,kK id r.2.1,kK id r.2.2)=r
 rw[wF g1 ok.nm,wF g2 ok.nm]
structure j8(M:ax):Prop where
 n1:M.switches.length<=12
 n2:M.keepers.length<=16
 n3:M.gates.length<=60
 n4:M.nexts.length<=16
 n5:M.nevers.length<=8
 n6:M.somes.length<=8
theorem K6{M:ax}{names:List Str}(ok:aG M names)(fw:j8 M){wish:Str}{need:Str->Bool}(hw:wish∈(M.nevers++M.somes).map (·.1)) (hN:jh M wish need):NB M (iT M need) id (M.nevers.filter λr=>decide (r.1=wish)) (M.somes.filter λr=>decide (r.1=wish)):=by
 obtain⟨hl,w1,w2⟩:=oI ok hw
 have knd:(M.keepers.map (·.1)).Nodup:=by have:=ok.nd;rw[ok.all]at this;exact(aav.mp (aav.mp this).1).2.1
 refine⟨aao fw.n1 (by decide),aao fw.n2 (by decide),aao fw.n3 (by decide),aao fw.n4 (by decide),knd,ok.nxd,λn hn=>⟨_,oG (f:=vC need) hn,?_⟩,λr hr hs=>?_,λr hr hs=>?_,eA ok.nvw.nd,aao (aa7 _ _) (aao fw.n5 (by decide)),λr hr=>?_,eA ok.smw.nd,aao (aa7 _ _) (aao fw.n6 (by decide)),λr hr=>?_⟩
 . unfold vC
   split
   . exact .inr ⟨_,rfl⟩
   . exact .inl rfl
 . rw[sE (aae.mpr (.inr (aak.mpr ⟨r,hr,rfl⟩)))]at hs
   have hg:=(hN _).mp hs
   obtain⟨g1,g2⟩:=ok.Ag hr
   have eg:=rL ok hr
   exact⟨oH ok hl hN g1 λn hn=>.step hg (aae.mpr (.inl (by rw[eg];exact aaR))) hn,oH ok hl hN g2 λn hn=>.step hg (aae.mpr (.inl (by rw[eg];exact aaz _ aaR))) hn⟩
 . have Bq:=BU ok (need:=need) hr
   rw[aaU hs]at Bq
   have hg:=(hN _).mp Bq.symm
   refine oH ok hl hN (ok.nxl r hr) λn hn=>.step hg (aae.mpr (.inr ?_)) hn
   unfold eG
   rw[aa4 (ok.nxk r hr),sD,kI ok.nxd (n:=r.1) (z:=r.2) hr]
   exact aai.mpr rfl
 . obtain⟨q1,q2⟩:=aap.mp hr
   have:=w1 r q1 (aba q2)
   exact oH ok hl hN (ok.nvw.lit r q1) λn hn=>.base (by rw[← this];exact hn)
 . obtain⟨q1,q2⟩:=aap.mp hr
   have:=w2 r q1 (aba q2)
   exact oH ok hl hN (ok.smw.lit r q1) λn hn=>.base (by rw[← this];exact hn)
noncomputable def Ak(C:Addr):Sp:=λvs H Q _=>∃(x dx g1 g2 g3 g4 g5 g6:Addr) (ts:List Addr) (M:ax) (names:List Str) (wish:Str),vs=[.ref x,.str wish]/\MO C H x dx g1 g2 g3 g4 g5 g6 ts M/\aG M names/\j8 M/\wish∈(M.nevers++M.somes).map (·.1)/\
 ∀(tp d y dy k1 k2 k3 k4 k5 k6:Addr) (us:List Addr) (need:Str->Bool) (H':Hp),jh M wish need->H d=none->H' d=some (.dK (iT M need))->NC C H H' tp d y dy k1 k2 k3 k4 k5 k6 us (ay M need wish)->(∀k∈[k1,k2,k3,k4,k5,k6],k≠d)->Q (.ref tp) H'
section
variable {P:Program}{w:World}{K:W.Frag}{mg:Str->Option Value}{base:Heap}{C:Addr}
noncomputable abbrev QZ:List Str:=["machine", "wish", "needed", "names", "nevers", "somes"]
theorem rM:aK QZ ["machine", "wish"] (aw Dx):=fs
theorem K7{f fH fL fN fR:Addr}{fd dH dL dN dR:FuncData}(F:aQ K "by_cone" "by_cone" Dx f fd)(T:mO K mg C)(O:iu mg) (CH:cj P w K mg base 2 fH dH "hung_on" ["machine", "literal"] (Ai C)) (CL:cj P w K mg base 1 fL dL "literal_of_wish" ["machine", "wish"] (Dt C))
 (CN:cj P w K mg base 1 fN dN "names_of" ["machine"] (wu C)) (CR:cj P w K mg base 4 fR dR "round_of" rH (wA C)):aP P w K mg base aZ 5 f fd ["machine", "wish"] (Ak C):=by
 refine F.go rM (λcdv A outer s H vs Q E hr h=>?_)
 obtain⟨x,dx,g1,g2,g3,g4,g5,g6,ts,M,names,wish,rfl,hM,ok,fw,hw,kk⟩:=h
 have hu:=eE hr
 have gH:aW 2 (A.deeper _):=hr.mono (by decide)
 have eC:aW 1 (A.deeper _):=hr.mono (by decide)
 refine⟨_,(aj (cE 2 rM.nd (a8 CH gH (aa (pv 0) (aa (a8 CL eC (aa (pv 0) (aa (pv 1) ai))) ai))))
  (aj (cE 3 rM.nd (aN (bp rfl) (by rfl) O.dict aaQ (aa (b8 (N:=["name", "needed"]) (js:=[none,some 2]) (te:=(lL (cW (aL 0) (cW (LA (tB (LO (aL 0) (aL 1))) (aL 0) (tC .aM)) jY)))) (by kernel_rfl) rfl (ba (a8 CN eC (aa (pv 0) ai))) (λ_ _ _ _ _ _=>(ar (i:=0) (show (["name", "needed"]:List Str).Nodup from dk) rfl (Or.inl rfl) (.inr rfl))) (λ_ _ _ _ _ _=>bb) (λ_ _ _ _ _ _=>(bF (aa (pv 0) (aa (tO (iJ (yF hu (pv 0) (pv 1))) (pv 0) uB) ai))))) ai)))
  (aj (cE 4 rM.nd (aN (bp rfl) (by rfl) O.dict aaQ (aa (oq (b8 (N:=["name", "literal", "wish"]) (js:=[none,none,some 1]) (g:=lK K 2 (dm (bO 0) (dm (bO 1) lJ))) (te:=(lL (cW (aL 0) (cW (aL 1) jY)))) (ti:=(iq (fo yD (aL 0) (aL 2)))) (by kernel_rfl) rfl (ua (cq (pv 0) rfl)) (λ_ _ _ _ _ _=>(cN rfl (aA (ar (i:=0) (show (["name", "literal", "wish"]:List Str).Nodup from dk) rfl (Or.inl rfl) (.inr rfl)) (aA (ar (i:=1) (show (["name", "literal", "wish"]:List Str).Nodup from dk) rfl (Or.inl rfl) (.inr rfl)) cc)))) (λ_ _ _ _ _ _=>(eQ (bh kQ (pv 0) (pv 2) (cQ _)))) (λ_ _ _ _ _ _=>(bF (aa (pv 0) (aa (pv 1) ai)))))) ai)))
  (aj (cE 5 rM.nd (aN (bp rfl) (by rfl) O.dict aaQ (aa (oq (b8 (N:=["name", "literal", "wish"]) (js:=[none,none,some 1]) (g:=lK K 2 (dm (bO 0) (dm (bO 1) lJ))) (te:=(lL (cW (aL 0) (cW (aL 1) jY)))) (ti:=(iq (fo yD (aL 0) (aL 2)))) (by kernel_rfl) rfl (ua (cq (pv 0) rfl)) (λ_ _ _ _ _ _=>(cN rfl (aA (ar (i:=0) (show (["name", "literal", "wish"]:List Str).Nodup from dk) rfl (Or.inl rfl) (.inr rfl)) (aA (ar (i:=1) (show (["name", "literal", "wish"]:List Str).Nodup from dk) rfl (Or.inl rfl) (.inr rfl)) cc)))) (λ_ _ _ _ _ _=>(eQ (bh kQ (pv 0) (pv 2) (cQ _)))) (λ_ _ _ _ _ _=>(bF (aa (pv 0) (aa (pv 1) ai)))))) ai)))
  (av (aJ (a8 CR hr (aa (pv 0) (aa (pv 3) (aa (pv 4) (aa (pv 5) ai))))))))))),?_⟩
 obtain⟨hl,_,_⟩:=oI ok hw
 have jg:(bg M).length<=88:=by unfold bg;simp only[aaf,aaa];have:=fw.n1;have:=fw.n2;have:=fw.n3;lia
 have e:bg M=names:=ok.all.symm
 refine⟨_,rfl,_,rfl,_,rfl,x,dx,g1,g2,g3,g4,g5,g6,ts,M,wish,rfl,hM,hw,x,dx,g1,g2,g3,g4,g5,g6,ts,M,names,_,rfl,hM,ok,by rw[← e];lia,hl,λd0 fs H1 s1 n0 q1 nd lA=>?_⟩
 have eK:=hM.same s1
 have hN:jh M wish λn=>decide (n∈fs):=λn=>by rw[abb];exact lA n
 generalize jc:(λn=>decide (n∈fs))=need at hN
 have Al:∀n,decide (n∈fs)=need n:=λn=>congrFun jc n
 refine⟨_,rfl,x,dx,g1,g2,g3,g4,g5,g6,ts,M,rfl,eK.toMF,aao fw.n1 (by decide),aao fw.n2 (by decide),aao fw.n3 (by decide),λp H2 np s2 q2=>?_⟩
 refine⟨p,rfl,⟨_,aq.of q2⟩,λD hD=>?_⟩
 refine i4 (xs:=bg M) (kp:=λ_=>true) (y:=λn=>.inr (.tup [.str n,vC need n])) V.str (aao jg (by decide)) q2 hD (λn hn H9 s9=>rw_yes λY hY=>?_) λH3 vs s3 bf p3=>?_
 . refine⟨_,rfl,_,rfl,_,rfl,d0,_,rfl,aX.k (k:=.inr n) (s9 _ _ (s2 _ _ q1)),_,rfl,?_⟩
   rw[wD,Al]
   have fin:∀v,v=vC need n->([V.str n,v]:List V).length<=sizeLine/\∀p,H9 p=none->Y (.ref p) (upd H9 p (.tup [.str n,v])):=λv ev=>⟨by show 2<=sizeLine;decide,λT hT=>by rw[ev];exact hY _ _ (ag.ak hT) (jO hT)⟩
   cases en:need n with
   | true=>exact fJ ⟨_,rfl,fin _ (by unfold vC;rw[en,aa4 rfl])⟩
   | false=>exact bQ (fin _ (by unfold vC;rw[en,aaY aax]))
 rw[fZ]at p3
 obtain⟨ns,rfl,pn⟩:=gB p3
 refine⟨D,ns,iT M need,rfl,bf,cv (Paired.bj pn λt n z=>z.2),λd hd=>?_⟩
 have XD:iT M need=br ((bg M).map λn=>(n,vC need n)):=by unfold iT br;rw[aa1];rfl
 have em:bE [] (iT M need)=iT M need:=by
  rw[XD]
  exact iS _ [] (by rw[abV,aa1,show ((λr:Str×V=>r.1)∘λn=>(n,vC need n))=id from rfl,aeT,e];exact ok.nd)
 rw[em]
 have s4:ag H3 (upd H3 d (.dK (iT M need))):=ag.ak hd
 have q4:(upd H3 d (.dK (iT M need))) d=_:=ae
 generalize upd H3 d (.dK (iT M need))=H4 at s4 q4 ⊢
 have jd:=(s1.trans s2).trans s3
 have kh:=jd.trans s4
 have oF:=hM.same kh
 have dH:H d=none:=same_none jd hd
 refine⟨_,rfl,x,C,dx,_,_,rfl,oF.hx,T.cl,T.n5,vg ..,g5,_,rfl,oF.h5,λo5 D5 Bt=>?_⟩
 have f5:(upd H4 g5 (.bK o5 (.dK (aR M.nevers)))) g5=some (.bK o5 (.dK (aR M.nevers))):=ae
 refine Dn (xs:=M.nevers) (kp:=λr=>decide (r.1=wish)) (y:=λr=>.inr (.tup (bx r))) (λr=>.inr r.1) (λr=>.str r.2) (aao fw.n5 (by decide)) f5 Bt (λr jv H9 s9=>?_) λH5 vs s5 UW p5=>?_
 . intro Z Y hZ hY
   refine⟨_,rfl,_,rfl,rfl,_,rfl,?_⟩
   show (if decide (V.str r.1=V.str wish)=true then _ else _)
   by_cases hs:r.1=wish
   . rw[aaU (by rw[hs])]
     exact fJ ⟨_,rfl,_,rfl,by show 2<=sizeLine;decide,λT hT=>hY (aaU hs) _ _ (ag.ak hT) (jO hT)⟩
   . rw[aaW λq=>hs (by injection q)]
     exact bQ (hZ (aaW hs) _ λ_ _ h=>h)
 have tE:=jQ oF.h5 s5
 refine⟨g5,o5,_,s5 _ _ f5,λo' u z=>?_,?_⟩
 . have z':H g5=some (.bK o' u):=z
   rw[hM.h5]at z'
   cases z'
 obtain⟨k5,rfl,NI⟩:=gB p5
 have XE:D5≠g5:=(af f5 Bt).symm
 have NW:(upd H5 g5 (.dK (aR M.nevers))) D5=some (.lst (k5.map V.ref)):=by rw[ah XE];exact UW
 have NX:Paired (λt r=>(upd H5 g5 (.dK (aR M.nevers))) t=some (.tup (bx r))) k5 (M.nevers.filter λr=>decide (r.1=wish)):=Paired.bj NI λt r z=>by
  rw[ah λe=>by rw[e,f5]at z;cases z.1]
  exact z.2
 generalize upd H5 g5 (.dK (aR M.nevers))=H6 at tE NW NX ⊢
 refine⟨D5,k5,aR (M.nevers.filter λr=>decide (r.1=wish)),rfl,NW,cv (Paired.bj NX λt r z=>z),λe1 Jk=>?_⟩
 rw[il (eA ok.nvw.nd)]
 have s7:ag H6 (upd H6 e1 (.dK (aR (M.nevers.filter λr=>decide (r.1=wish))))):=ag.ak Jk
 have q7:(upd H6 e1 (.dK (aR (M.nevers.filter λr=>decide (r.1=wish))))) e1=_:=ae
 have NF:d≠e1:=af (tE _ _ q4) Jk
 generalize upd H6 e1 (.dK (aR (M.nevers.filter λr=>decide (r.1=wish))))=H7 at s7 q7 ⊢
 have Fw:=tE.trans s7
 have Se:=kh.trans Fw
 have FE:=hM.same Se
 refine⟨_,rfl,x,C,dx,_,_,rfl,FE.hx,T.cl,T.n6,zH ..,g6,_,rfl,FE.h6,λo6 D6 Sf=>?_⟩
 have f6:(upd H7 g6 (.bK o6 (.dK (aR M.somes)))) g6=some (.bK o6 (.dK (aR M.somes))):=ae
 refine Dn (xs:=M.somes) (kp:=λr=>decide (r.1=wish)) (y:=λr=>.inr (.tup (bx r))) (λr=>.inr r.1) (λr=>.str r.2) (aao fw.n6 (by decide)) f6 Sf (λr jv H9 s9=>?_) λH8 vs s8 UX p6=>?_
 . intro Z Y hZ hY
   refine⟨_,rfl,_,rfl,rfl,_,rfl,?_⟩
   show (if decide (V.str r.1=V.str wish)=true then _ else _)
   by_cases hs:r.1=wish
   . rw[aaU (by rw[hs])]
     exact fJ ⟨_,rfl,_,rfl,by show 2<=sizeLine;decide,λT hT=>hY (aaU hs) _ _ (ag.ak hT) (jO hT)⟩
   . rw[aaW λq=>hs (by injection q)]
     exact bQ (hZ (aaW hs) _ λ_ _ h=>h)
 have NY:=jQ FE.h6 s8
 refine⟨g6,o6,_,s8 _ _ f6,λo' u z=>?_,?_⟩
 . have z':H g6=some (.bK o' u):=z
   rw[hM.h6]at z'
   cases z'
 obtain⟨k6,rfl,XF⟩:=gB p6
 have XG:D6≠g6:=(af f6 Sf).symm
 have NZ:(upd H8 g6 (.dK (aR M.somes))) D6=some (.lst (k6.map V.ref)):=by rw[ah XG];exact UX
 have N0:Paired (λt r=>(upd H8 g6 (.dK (aR M.somes))) t=some (.tup (bx r))) k6 (M.somes.filter λr=>decide (r.1=wish)):=Paired.bj XF λt r z=>by
  rw[ah λe=>by rw[e,f6]at z;cases z.1]
  exact z.2
 generalize upd H8 g6 (.dK (aR M.somes))=H9 at NY NZ N0 ⊢
 refine⟨D6,k6,aR (M.somes.filter λr=>decide (r.1=wish)),rfl,NZ,cv (Paired.bj N0 λt r z=>z),λe2 xr=>?_⟩
 rw[il (eA ok.smw.nd)]
 have Bp:ag H9 (upd H9 e2 (.dK (aR (M.somes.filter λr=>decide (r.1=wish))))):=ag.ak xr
 have FF:(upd H9 e2 (.dK (aR (M.somes.filter λr=>decide (r.1=wish))))) e2=_:=ae
 have d9:H9 d=some (.dK (iT M need)):=(Fw.trans NY) _ _ q4
 have NG:d≠e2:=af d9 xr
 generalize upd H9 e2 (.dK (aR (M.somes.filter λr=>decide (r.1=wish))))=J at Bp FF ⊢
 have Sg:=NY.trans Bp
 have Jp:=Se.trans Sg
 refine⟨_,rfl,_,rfl,_,rfl,_,rfl,x,dx,g1,g2,g3,g4,g5,g6,d,e1,e2,ts,M,iT M need,id,_,_,rfl,hM.same Jp,Bp _ _ d9,Sg _ _ q7,FF,NF,NG,(af hM.h2 dH).symm,(af hM.h4 dH).symm,K6 ok fw hw hN,λtp y dy a1 a2 a3 a4 a5 a6 us J' hR=>?_⟩
 rw[Dy ok]at hR
 have dJ:=Bp _ _ d9
 exact kk tp d y dy a1 a2 a3 a4 a5 a6 us need J' hN dH (hR.s _ _ dJ) ⟨Jp.trans hR.s,hR.t,hR.m,same_none Jp hR.ny,λk hk=>same_none Jp (hR.nk k hk),hR.nd⟩ λk hk q=>by
  have:=hR.nk k hk
  rw[q,dJ]at this
  cases this
end
noncomputable def nK(M S:ax)(bs:List Int):List Int:=S.switches.map (aY (M.switches.zip bs))
noncomputable def ji(M S:ax)(cs:List Int):List Int:=S.keepers.map λr=>aY ((M.keepers.map (·.1)).zip cs) r.1
structure Jq(M:ax) (cs:List Int):Prop where
 n:iI M.keepers.length cs
 f:∀r∈M.keepers,r.2=.aM\/r.2=.int (aY ((M.keepers.map (·.1)).zip cs) r.1)
structure Jr(M S:ax) (l:List Str) (f:Str->V) (I:List Int->Prop):Prop where
 kp:∀r∈S.keepers,r∈M.keepers
 sw:∀n∈S.switches,n∈M.switches
 ln:∀n∈l,n∈bg M
 fv:∀n∈l,f n=.aM\/∃z,f n=.str z
 st:∀cs,Jq M cs->I cs
 vs:∀bs cs,iI M.switches.length bs->iI M.keepers.length cs->I cs->∀n∈l,∀z,f n=.str z->nE (bJ S (nK M S bs) (ji M S cs) S.gates.length) z/\cz (bJ S (nK M S bs) (ji M S cs) S.gates.length) z=aY (bJ M bs cs M.gates.length) n
 nx:∀bs cs,iI M.switches.length bs->iI M.keepers.length cs->I cs->I (gQ M bs cs)/\gQ S (nK M S bs) (ji M S cs)=ji M S (gQ M bs cs)
theorem rN{α:Type}{p:α->Bool} : ∀{L:List α}{i:Nat}{r:α},(L.filter p)[i]?=some r->∃j,L[j]?=some r/\(L.filter p).take i=(L.take j).filter p
 | [],i,r,h=>by simp at h
 | a::L,i,r,h=>by
  by_cases e:p a=true
  . rw[aa2 e]at h ⊢
    cases i with
    | zero=>exact⟨0,by simpa using h,by simp⟩
    | succ i=>
     obtain⟨j,h1,h2⟩:=rN (L:=L) (i:=i) (r:=r) (by simpa using h)
     exact⟨j+1,by simpa using h1,by rw[acw,acw,aa2 e,h2]⟩
  . rw[aa5 e]at h ⊢
    obtain⟨j,h1,h2⟩:=rN (L:=L) (i:=i) (r:=r) h
    exact⟨j+1,by simpa using h1,by rw[acw,aa5 e,h2]⟩
theorem cK{α:Type}(need:Str->Bool):∀l:List (Str×α),(l.filter λr=>need r.1).map (·.1)=(l.map (·.1)).filter need
 | []=>rfl
 | r::l=>by
  have ih:=cK need l
  by_cases e:need r.1=true
  . rw[aa2 (by exact e),aay,aay,aa2 e,ih]
  . rw[aa5 (by exact e),aay,aa5 e,ih]
theorem mU{names ns:List Str}{need:Str->Bool}(hn:∀x∈names,aT x){z:Str}(h:Lit ns z)(hs:∀x∈ns,x∈names)(hz:∀n∈cg z,need n=true):Lit (ns.filter need) z:=by
 rcases h with rfl|rfl|⟨x,hx,h⟩
 . exact .inl rfl
 . exact .inr (.inl rfl)
 . have hN:=hn x (hs x hx)
   have hb:bH z=x:=by
    rcases h with rfl|rfl
    . exact jP hN
    . exact i5 x
   obtain⟨a,b,_⟩:=kA hN
   refine .inr (.inr ⟨x,aap.mpr ⟨hx,hz x ?_⟩,h⟩)
   rw[rJ (by rw[hb];exact a) (by rw[hb];exact b),hb]
   exact aai.mpr rfl
section
variable {M:ax}{names:List Str}{wish:Str}{need:Str->Bool}
theorem Am(ok:aG M names)(hN:jh M wish need){r:Str×Str×Str}(h:r∈M.gates)(hr:need r.1=true):(∀n∈cg r.2.1,need n=true)/\∀n∈cg r.2.2,need n=true:=by
 have hg:=(hN _).mp hr
 have eg:=rL ok h
 exact⟨λn hn=>(hN n).mpr (.step hg (aae.mpr (.inl (by rw[eg];exact aaR))) hn),λn hn=>(hN n).mpr (.step hg (aae.mpr (.inl (by rw[eg];exact aaz _ aaR))) hn)⟩
theorem An(hN:jh M wish need){a:Str}(ha:a∈M.keepers.map (·.1)) (h:need a=true):∀n∈cg (cI M.nexts a),need n=true:=λn hn=>
 (hN n).mpr (.step ((hN _).mp h) (aae.mpr (.inr (by unfold eG;rw[aa4 ha];exact aai.mpr rfl))) hn)
theorem vt(ok:aG M names):names.filter need=(ay M need wish).switches++(ay M need wish).keepers.map (·.1)++(ay M need wish).gates.map (·.1):=by
 show names.filter need=M.switches.filter need++(M.keepers.filter λr=>need r.1).map (·.1)++(M.gates.filter λr=>need r.1).map (·.1)
 rw[cK,cK,← abz,← abz,← ok.all]
theorem xZ(ok:aG M names) (hw:wish∈(M.nevers++M.somes).map (·.1)) (hN:jh M wish need):aG (ay M need wish) (names.filter need):=by
 obtain⟨hl,w1,w2⟩:=oI ok hw
 have sub:∀{a:Str},a∈names.filter need->a∈names:=λh=>(aap.mp h).1
 refine⟨vt ok,λz hz=>ok.nm z (sub hz),ae1 adV ok.nd,λr hr=>ok.first r (aap.mp hr).1,λr hr=>?_,λr hr=>?_,eA ok.nxd,⟨λr hr=>ok.nvw.nm r (aap.mp hr).1,λr hr=>?_,λr _ h=>(nomatch h),eA ok.nvw.nd⟩,⟨λr hr=>ok.smw.nm r (aap.mp hr).1,λr hr=>?_,λr hr h=>?_,eA ok.smw.nd⟩,λi r hr=>?_⟩
 . obtain⟨h1,h2⟩:=aap.mp hr
   obtain⟨k,hk,e⟩:=aak.mp (ok.nxk r h1)
   exact aak.mpr ⟨k,aap.mpr ⟨hk,by rw[e];exact h2⟩,e⟩
 . obtain⟨h1,h2⟩:=aap.mp hr
   have hn:=An hN (ok.nxk r h1) h2
   rw[sD,kI ok.nxd (n:=r.1) (z:=r.2) h1]at hn
   exact mU ok.nm (ok.nxl r h1) (λ_ h=>h) hn
 . obtain⟨h1,h2⟩:=aap.mp hr
   have e:=w1 r h1 (aba h2)
   exact mU ok.nm (ok.nvw.lit r h1) (λ_ h=>h) λn hn=>(hN n).mpr (.base (by rw[← e];exact hn))
 . obtain⟨h1,h2⟩:=aap.mp hr
   have e:=w2 r h1 (aba h2)
   exact mU ok.nm (ok.smw.lit r h1) (λ_ h=>h) λn hn=>(hN n).mpr (.base (by rw[← e];exact hn))
 . obtain⟨q,hq,e⟩:=aak.mp h
   exact ok.smw.ut r (aap.mp hr).1 (aak.mpr ⟨q,(aap.mp hq).1,e⟩)
 . obtain⟨j,h1,h2⟩:=rN hr
   have hm:=aaT h1
   have lX:need r.1=true:=(aap.mp (aaT hr)).2
   obtain⟨g1,g2⟩:=ok.gl j r h1
   obtain⟨n1,n2⟩:=Am ok hN hm lX
   have e:(ay M need wish).switches++(ay M need wish).keepers.map (·.1)++((ay M need wish).gates.take i).map (·.1)=(M.switches++M.keepers.map (·.1)++(M.gates.take j).map (·.1)).filter need:=by
    show M.switches.filter need++(M.keepers.filter λr=>need r.1).map (·.1)++((M.gates.filter λr=>need r.1).take i).map (·.1)=_
    rw[h2,cK,cK,← abz,← abz]
   have hs:∀x∈M.switches++M.keepers.map (·.1)++(M.gates.take j).map (·.1),x∈names:=λx hx=>by
    rw[ok.all]
    rcases aae.mp hx with h|h
    . exact aae.mpr (.inl h)
    . obtain⟨q,hq,rfl⟩:=aak.mp h
      exact aae.mpr (.inr (aak.mpr ⟨q,abN hq,rfl⟩))
   rw[e]
   exact⟨mU ok.nm g1 hs n1,mU ok.nm g2 hs n2⟩
theorem HC(fw:j8 M):j8 (ay M need wish):=
 ⟨aao (aa7 _ _) fw.n1,aao (aa7 _ _) fw.n2,aao (aa7 _ _) fw.n3,aao (aa7 _ _) fw.n4,aao (aa7 _ _) fw.n5,aao (aa7 _ _) fw.n6⟩
theorem rO{l:List Str}{f:Str->Int}{n:Str}(h:n∈l):aY (l.zip (l.map f)) n=f n:=by
 induction l with
 | nil=>cases h
 | cons a l ih=>
  rw[aay,abX]
  unfold aY
  by_cases e:a=n
  . rw[abf (by simpa using e),e]
    rfl
  . rw[abg (by simpa using e)]
    exact ih ((aal.mp h).resolve_left (aau e))
theorem wH{a b:List (Str×Int)}{ns:List Str}(hn:∀x∈ns,aT x){z:Str}(h:Lit ns z) (e:∀n∈cg z,aY a n=aY b n):cz a z=cz b z:=by
 rcases h with rfl|rfl|⟨x,hx,h⟩
 . rw[zL,zL]
 . rw[zM,zM]
 . have hN:=hn x hx
   obtain⟨p,q,_⟩:=kA hN
   rcases h with rfl|rfl
   . rw[nF hN,nF hN]
     have hb:=jP hN
     exact e _ (by rw[rJ (by rw[hb];exact p) (by rw[hb];exact q),hb];exact aai.mpr rfl)
   . rw[pF,pF]
     have hb:=i5 x
     rw[e x (by rw[rJ (by rw[hb];exact p) (by rw[hb];exact q),hb];exact aai.mpr rfl)]
theorem x3{acc:List (Str×Int)}{g:Str×Str×Str}{n:Str} : aY (fQ acc g) n=if n∈acc.map (·.1) then aY acc n else if g.1=n then cz acc g.2.1*cz acc g.2.2 else 0:=by
 unfold fQ
 by_cases h:n∈acc.map (·.1)
 . rw[aa4 h,pK h]
 . rw[aaY h,nR h]
   unfold aY
   by_cases e:g.1=n
   . rw[aa4 e,abf (by simpa using e)]
     rfl
   . rw[aaY e,abg (by simpa using e)]
     rfl
theorem oJ{S:ax}{bs:List Int} : (nK M S bs).length=S.switches.length:=aaa _
theorem wI{S:ax}{cs:List Int} : (ji M S cs).length=S.keepers.length:=aaa _
theorem FG(ok:aG M names){bs cs:List Int}(l1:M.switches.length=bs.length)(l2:M.keepers.length=cs.length){n:Str}(hn:n∈M.switches++M.keepers.map (·.1)) (h:need n=true):aY (me (ay M need wish) (nK M (ay M need wish) bs) (ji M (ay M need wish) cs)) n=aY (me M bs cs) n:=by
 unfold me
 have nd:=ok.nd
 rw[ok.all]at nd
 by_cases hs:n∈M.switches
 . have h1:n∈(ay M need wish).switches:=aap.mpr ⟨hs,h⟩
   rw[pK (by rw[cS oJ.symm];exact h1),pK (by rw[cS l1];exact hs)]
   exact rO h1
 . have hk:n∈M.keepers.map (·.1):=(aae.mp hn).resolve_left hs
   have h1:n∉(ay M need wish).switches:=λq=>hs (aap.mp q).1
   rw[nR (by rw[cS oJ.symm];exact h1),nR (by rw[cS l1];exact hs)]
   have e:(ay M need wish).keepers.map (·.1)=(M.keepers.map (·.1)).filter need:=cK need M.keepers
   have er:ji M (ay M need wish) cs=((ay M need wish).keepers.map (·.1)).map (aY ((M.keepers.map (·.1)).zip cs)):=by unfold ji;rw[aa1];rfl
   rw[er]
   exact rO (by rw[e];exact aap.mpr ⟨hk,h⟩)
theorem x5(ok:aG M names)(hN:jh M wish need){bs cs:List Int}(l1:M.switches.length=bs.length)(l2:M.keepers.length=cs.length):∀(i:Nat),i<=M.gates.length->
 (∀n∈(bJ M bs cs i).map (·.1),need n=true->aY (((M.gates.take i).filter λr=>need r.1).foldl fQ (me (ay M need wish) (nK M (ay M need wish) bs) (ji M (ay M need wish) cs))) n=aY (bJ M bs cs i) n)
 | 0,_,n,hn,h=>by
  rw[fh l1 l2,adn,ace,abw]at hn
  have:=FG (wish:=wish) ok l1 l2 hn h
  unfold bJ
  rw[adn]
  exact this
 | i+1,hi,n,hn,h=>by
  have xp:i<M.gates.length:=by lia
  have ih:=x5 ok hN l1 l2 i (by lia)
  have eJ:M.gates[i]?=some M.gates[i]:=aad xp
  rw[xS xp]at hn ⊢
  rw[abL,eJ,ab7,abz,ae6]
  generalize hg:M.gates[i]=g at eJ hn ⊢
  have XH:=aaT eJ
  obtain⟨t1,t2⟩:=ok.gl i g eJ
  have hk:=fh (M:=M) l1 l2 i
  generalize hA:((M.gates.take i).filter λr=>need r.1).foldl fQ (me (ay M need wish) (nK M (ay M need wish) bs) (ji M (ay M need wish) cs))=A at ih ⊢
  have UY:A.map (·.1)=(M.switches++M.keepers.map (·.1)++(M.gates.take i).map (·.1)).filter need:=by
   rw[← hA,rp]
   unfold me
   rw[aag,cS oJ.symm,cS (by rw[wI,aaa]),cK]
   show M.switches.filter need++(M.keepers.filter λr=>need r.1).map (·.1)++_=_
   rw[cK,← abz,← abz]
  have N1:∀m,need m=true->(m∈A.map (·.1) ↔ m∈(bJ M bs cs i).map (·.1)):=λm hm=>by
   rw[UY,hk,aap]
   exact⟨λq=>q.1,λq=>⟨q,hm⟩⟩
  rw[x3]
  by_cases Js:need g.1=true
  . rw[aa2 (by exact Js),adU]
    show aY (fQ A g) n=_
    rw[x3]
    obtain⟨n1,n2⟩:=Am ok hN XH Js
    have sub:∀x∈M.switches++M.keepers.map (·.1)++(M.gates.take i).map (·.1),aT x:=λx hx=>ok.nm x (by
     rw[ok.all]
     rcases aae.mp hx with h|h
     . exact aae.mpr (.inl h)
     . obtain⟨q,hq,rfl⟩:=aak.mp h
       exact aae.mpr (.inr (aak.mpr ⟨q,abN hq,rfl⟩)))
    have e1:cz A g.2.1=cz (bJ M bs cs i) g.2.1:=wH sub t1 λm hm=>ih m (by rw[hk];exact pO t1 sub hm) (n1 m hm)
    have e2:cz A g.2.2=cz (bJ M bs cs i) g.2.2:=wH sub t2 λm hm=>ih m (by rw[hk];exact pO t2 sub hm) (n2 m hm)
    by_cases hm:n∈(bJ M bs cs i).map (·.1)
    . rw[aa4 ((N1 n h).mpr hm),aa4 hm]
      exact ih n hm h
    . rw[aaY λq=>hm ((N1 n h).mp q),aaY hm,e1,e2]
  . rw[aa5 (by exact Js),adU]
    show aY A n=_
    by_cases hm:n∈(bJ M bs cs i).map (·.1)
    . rw[aa4 hm]
      exact ih n hm h
    . have Sh:¬ g.1=n:=λe=>Js (by rw[e];exact h)
      rw[aaY hm,aaY Sh]
      have:n∈(bJ M bs cs i).map (·.1)++[g.1]:=by
       have:=hn
       unfold fQ at this
       rw[aag]at this
       exact this
      rcases aae.mp this with q|q
      . exact absurd q hm
      . exact absurd (aai.mp q).symm Sh
theorem x6(ok:aG M names)(hN:jh M wish need){bs cs:List Int}(l1:M.switches.length=bs.length)(l2:M.keepers.length=cs.length){n:Str}(hn:n∈names)(h:need n=true):aY (bJ (ay M need wish) (nK M (ay M need wish) bs) (ji M (ay M need wish) cs) (ay M need wish).gates.length) n=aY (bJ M bs cs M.gates.length) n:=by
 have:=x5 ok hN l1 l2 M.gates.length (aah _) n (by rw[fh l1 l2,abp,← ok.all];exact hn) h
 rw[abp]at this
 rw[← this]
 unfold bJ
 rw[abp]
 rfl
theorem tG{l:List (Str×Str)}{n:Str}(h:need n=true):cI (l.filter λr=>need r.1) n=cI l n:=by
 unfold cI
 congr 2
 induction l with
 | nil=>rfl
 | cons r l ih=>
  by_cases e:r.1=n
  . rw[aa2 (by show need r.1=true;rw[e];exact h),abf (by simpa using e),abf (by simpa using e)]
  . rw[abg (by simpa using e)]
    by_cases q:need r.1=true
    . rw[aa2 (by exact q),abg (by simpa using e),ih]
    . rw[aa5 (by exact q),ih]
theorem Dz{bs cs:List Int}(ok:aG M names){r:Str×V}(h:r∈M.keepers):aY ((M.keepers.map (·.1)).zip (gQ M bs cs)) r.1=cz (bJ M bs cs M.gates.length) (cI M.nexts r.1):=by
 have e:gQ M bs cs=(M.keepers.map (·.1)).map λn=>cz (bJ M bs cs M.gates.length) (cI M.nexts n):=by unfold gQ;rw[aa1];rfl
 rw[e]
 exact rO (f:=λn=>cz (bJ M bs cs M.gates.length) (cI M.nexts n)) (aak.mpr ⟨r,h,rfl⟩)
theorem DA(ok:aG M names)(hN:jh M wish need) (hw:wish∈(M.nevers++M.somes).map (·.1)):Jr M (ay M need wish) (bg M) (vC need) λ_=>True:=by
 have qf:=xZ ok hw hN
 have e:bg M=names:=ok.all.symm
 refine⟨λr hr=>(aap.mp hr).1,λn hn=>(aap.mp hn).1,λn hn=>hn,λn hn=>?_,λ_ _=>trivial,λbs cs hb hc _ n hn z hz=>?_,λbs cs hb hc _=>⟨trivial,?_⟩⟩
 . unfold vC
   split
   . exact .inr ⟨_,rfl⟩
   . exact .inl rfl
 . unfold vC at hz
   split at hz
   . rename_i h
     cases hz
     rw[e]at hn
     have Si:=ok.nm n hn
     rw[nF Si]
     refine⟨.inr (.inr (.inl ⟨Si,?_⟩)),x6 ok hN hb.1 hc.1 hn h⟩
     rw[fh oJ.symm wI.symm,abp,← qf.all]
     exact aap.mpr ⟨hn,h⟩
   . cases hz
 . show ((ay M need wish).keepers.map λr=>cz (bJ (ay M need wish) (nK M (ay M need wish) bs) (ji M (ay M need wish) cs) (ay M need wish).gates.length) (cI (ay M need wish).nexts r.1))=(ay M need wish).keepers.map λr=>aY ((M.keepers.map (·.1)).zip (gQ M bs cs)) r.1
   refine ab2 λr hr=>?_
   obtain⟨h1,h2⟩:=aap.mp hr
   have hk:r.1∈M.keepers.map (·.1):=aak.mpr ⟨r,h1,rfl⟩
   rw[Dz ok h1]
   show cz _ (cI (M.nexts.filter λr=>need r.1) r.1)=_
   rw[tG h2]
   exact wH ok.nm (ok.Ah (ok.uk hk)) λn hn=>x6 ok hN hb.1 hc.1 (pO (ok.Ah (ok.uk hk)) ok.nm hn) (An hN hk h2 n hn)
end
noncomputable abbrev DB:Stmt:=top 30
noncomputable abbrev Ao:Stmt:=top 31
noncomputable abbrev HD:Stmt:=top 32
noncomputable abbrev vx:Stmt:=top 33
noncomputable def qg(z:Str):Prop:=(PyData.str z).canLay0=true
theorem vy{z:Str}(h:∀c∈z.cps.toList,c<1114112):qg z:=by
 unfold qg
 rw[PyData.canLay0]
 show z.cps.all (· < 1114112)=true
 rw[← Array.all_toList,abK]
 exact λc hc=>aaU (h c hc)
theorem gE{z:Str}(h:aT z):qg z:=vy λc hc=>by have:=gA.mp (h.2.2 c hc);lia
theorem oK{names:List Str}{z:Str}(h:Lit names z)(hn:∀x∈names,aT x):qg z:=by
 rcases h with rfl|rfl|⟨x,hx,rfl|rfl⟩
 . exact vy (by decide+kernel)
 . exact vy (by decide+kernel)
 . exact gE (hn _ hx)
 . refine vy λc hc=>?_
   rw[ij]at hc
   rcases aal.mp hc with rfl|hc
   . decide
   . have:=gA.mp ((hn _ hx).2.2 c hc);lia
noncomputable def iF(v:V):Prop:=(∃i,v=.int i)\/(∃z,v=.str z/\qg z)\/v=.aM
noncomputable def dv:V->PyData
 | .int i=>.int i
 | .str z=>.str z
 | _=>.none
noncomputable def uq(l:List V):PyData:=.tuple (l.map dv)
noncomputable def nS(rs:List (List V)):PyData:=.list (rs.map uq)
theorem N2{K:W.Frag}{H:Hp}{v:V}(h:iF v):Dp K H v (dv v):=by
 rcases h with⟨i,rfl⟩|⟨z,rfl,_⟩|rfl
 . exact .int i
 . exact .str z
 . exact .aM
theorem BV{K:W.Frag}{H:Hp} : ∀{l:List V},(∀v∈l,iF v)->jt K H l (l.map dv)
 | [],_=>.nil
 | v::l,h=>.cons (N2 (h v aaR)) (BV λu hu=>h u (aaz _ hu))
theorem N3{v:V}(h:iF v):(dv v).canLay0=true:=by
 rcases h with⟨i,rfl⟩|⟨z,rfl,h⟩|rfl
 . rfl
 . exact h
 . rfl
theorem N4(v:V):(dv v).depth=0:=by cases v <;> rfl
theorem K8{l:List V}(hf:∀v∈l,iF v):(uq l).canLay0=true:=by
 rw[uq,PyData.canLay0]
 exact wq λd hd=>by obtain⟨v,hv,rfl⟩:=aak.mp hd;exact N3 (hf v hv)
theorem K9(l:List V):(uq l).depth<=1:=by
 rw[uq,PyData.depth]
 have:=wt (l:=l.map dv) (n:=0) λd hd=>by obtain⟨v,_,rfl⟩:=aak.mp hd;rw[N4];exact aah _
 lia
theorem fj{rs:List (List V)}(hf:∀r∈rs,∀v∈r,iF v):(nS rs).canLay0=true:=by
 rw[nS,PyData.canLay0]
 exact wq λd hd=>by obtain⟨v,hv,rfl⟩:=aak.mp hd;exact K8 (hf v hv)
theorem fk(rs:List (List V)):(nS rs).depth<=2:=by
 rw[nS,PyData.depth]
 have:=wt (l:=rs.map uq) (n:=1) λd hd=>by obtain⟨v,_,rfl⟩:=aak.mp hd;exact K9 v
 lia
theorem cZ{K:W.Frag}{H:Hp}{a:Addr}{rs:List (List V)}(h:aE H a rs) (hf:∀r∈rs,∀v∈r,iF v):Dp K H (.ref a) (nS rs):=by
 obtain⟨ts,h1,h2⟩:=h
 refine .lst (aq.of h1) (zU ?_)
 have:∀{ts:List Addr}{rs:List (List V)},Paired (λt r=>H t=some (.tup r)) ts rs->(∀r∈rs,∀v∈r,iF v)->Paired (λu r=>Dp K H (.ref u) (uq r)) ts rs:=by
  intro ts rs p
  induction p with
  | nil=>intro _;exact .nil
  | cons h0 _ ih=>intro hf;exact .cons (.tup (aH.of h0) (BV (hf _ aaR))) (ih λr hr=>hf r (aaz _ hr))
 exact this h2 hf
noncomputable def vz(l:List Str):PyData:=.list (l.map PyData.str)
theorem Ap{l:List Str}(h:∀z∈l,qg z):(vz l).canLay0=true:=by
 rw[vz,PyData.canLay0]
 exact wq λd hd=>by obtain⟨v,hv,rfl⟩:=aak.mp hd;exact h v hv
theorem Aq(l:List Str):(vz l).depth<=1:=by
 rw[vz,PyData.depth]
 have:=wt (l:=l.map PyData.str) (n:=0) λd hd=>by obtain⟨v,_,rfl⟩:=aak.mp hd;exact aah _
 lia
theorem jR{K:W.Frag}{H:Hp}{x y:V}{d:PyData}{Q:VK}(hx:Dp K H x d)(hy:Dp K H y d)(hl:d.canLay0=true)(hd:d.depth<=2) (q:Q (.bl false) H):Jh K 2 (λa b=>!PyData.eqv a b) x y H Q:=
 ⟨d,d,hx,hy,hl,hl,by rw[Nat.min_self];exact hd,by show Q (.bl (!PyData.eqv d d)) H;rw[adH d hl];exact q⟩
theorem La{K:W.Frag}{H:Hp}{x y:V}{d:PyData}{Q:VK}(hx:Dp K H x d)(hy:Dp K H y d)(hl:d.canLay0=true)(hd:d.depth<=2) (q:Q (.bl true) H):Jh K 2 PyData.eqv x y H Q:=
 ⟨d,d,hx,hy,hl,hl,by rw[Nat.min_self];exact hd,by rw[adH d hl];exact q⟩
theorem vA{M:ax}{names:List Str}(ok:aG M names):∀r∈M.keepers.map eZ,∀v∈r,iF v:=λr hr v hv=>by
 obtain⟨k,hk,rfl⟩:=aak.mp hr
 rcases aal.mp hv with rfl|hv
 . exact .inr (.inl ⟨_,rfl,gE (ok.nm _ (ok.uk (aak.mpr ⟨k,hk,rfl⟩)))⟩)
 . rw[aai.mp hv]
   rcases ok.first k hk with e|e|e
   . exact .inl ⟨_,e⟩
   . exact .inl ⟨_,e⟩
   . exact .inr (.inr e)
theorem vB{M:ax}{names:List Str}(ok:aG M names):∀r∈M.gates.map dE,∀v∈r,iF v:=λr hr v hv=>by
 obtain⟨k,hk,rfl⟩:=aak.mp hr
 obtain⟨g1,g2⟩:=ok.Ag hk
 simp only[dE,aal,aaH,abF]at hv
 rcases hv with rfl|rfl|rfl
 . refine .inr (.inl ⟨_,rfl,gE (ok.nm _ ?_)⟩)
   rw[ok.all]
   exact aae.mpr (.inr (aak.mpr ⟨k,hk,rfl⟩))
 . exact .inr (.inl ⟨_,rfl,oK g1 ok.nm⟩)
 . exact .inr (.inl ⟨_,rfl,oK g2 ok.nm⟩)
theorem DC{l:List (Str×Str)}(h:∀r∈l,qg r.1/\qg r.2):∀r∈l.map bx,∀v∈r,iF v:=λr hr v hv=>by
 obtain⟨k,hk,rfl⟩:=aak.mp hr
 simp only[bx,aal,aaH,abF]at hv
 rcases hv with rfl|rfl
 . exact .inr (.inl ⟨_,rfl,(h k hk).1⟩)
 . exact .inr (.inl ⟨_,rfl,(h k hk).2⟩)
theorem lg{names told:List Str}{l:List (Str×Str)}(hn:∀x∈names,aT x) (h:iC names told l):∀r∈l.map bx,∀v∈r,iF v:=DC λr hr=>⟨gE (h.nm r hr),oK (h.lit r hr) hn⟩
noncomputable def Ar(C:Addr):Sp:=λvs H Q _=>∃(x dx g1 g2 g3 g4 g5 g6:Addr) (ts:List Addr) (M:ax),vs=[.ref x]/\MO C H x dx g1 g2 g3 g4 g5 g6 ts M/\j8 M/\
 ∀(v a1 a2 a3 a4 a5 a6:Addr) (H':Hp),ag H H'->cb H' v M a1 a2 a3 a4 a5 a6->Q (.ref v) H'
theorem aE.eI{H H':Hp}{a m:Addr}{rs:List (List V)}{kvs:List (Key×V)}(h:aE H a rs) (k:aI H H' m) (hm:H m=some (.dK kvs)):aE H' a rs:=by
 obtain⟨ts,h1,h2⟩:=h
 exact⟨ts,k _ _ h1 (λe=>by rw[e,hm]at h1;cases h1),Paired.bj h2 λt r e=>k _ _ e λq=>by rw[q,hm]at e;cases e⟩
theorem oM{H H1:Hp}{a:Addr}{ts:List Addr}{α:Type}{l:List α}{f:α->Key×V}{g:α->List V}(e:∀x,[kV (f x).1,(f x).2]=g x) (h1:H a=some (.lst (ts.map V.ref))) (p:Paired (λt (kv:Key×V)=>H1 t=none/\H t=some (.tup [kV kv.1,kv.2])) ts (l.map f)):aE H a (l.map g):=
 ⟨ts,h1,pM p λt x z=>by rw[← e x];exact z.2⟩
section
variable {P:Program}{w:World}{K:W.Frag}{mg:Str->Option Value}{base:Heap}{C:Addr}
noncomputable abbrev Q0:List Str:=["_law_machine_here", "_law_made_here", "_law_name", "_law_told"]
theorem vD:aK Q0 ["_law_machine_here"] (aw DB):=fs
theorem Lb{f:Addr}{fd:FuncData}(F:aQ K "_law_view" "_law_view" DB f fd)(T:mO K mg C)(O:iu mg):aP P w K mg base aZ 1 f fd ["_law_machine_here"] (Ar C):=by
 refine F.go vD (λcdv A outer s H vs Q E hr h=>?_)
 obtain⟨x,dx,g1,g2,g3,g4,g5,g6,ts,M,rfl,hM,fw,kk⟩:=h
 have hu:=eE hr
 refine⟨_,(aj (cE 1 vD.nd (sh (eh au (aN eN (by rfl) O.list abr (aa (cq (pv 0) rfl) ai)) (eh au (iQ rfl (cq (pv 0) rfl) (by rfl) O.list) (eh au (aN eN (by rfl) O.list abr (aa (cq (pv 0) rfl) ai)) sf))) rfl rfl (by simp) (by decide)))
  (aj (dU aa6 rfl (ba (cf (aa (bF (aa au (aa (cq (pv 0) rfl) ai))) (aa (bF (aa au (aa (cq (pv 0) rfl) ai))) (aa (bF (aa au (aa (cq (pv 0) rfl) ai))) ai))))) (cN rfl (aA (ar (i:=2) vD.nd rfl (Or.inl rfl)) (aA (ar (i:=3) vD.nd rfl (Or.inl rfl)) cc)))
   (av (gZ hu (pv 1) (pv 2) (iQ rfl (pv 3) (by rfl) O.list) rfl)))
  (av (aJ (pv 1))))),?_⟩
 intro m hm
 have s1:ag H (upd H m (.dK [])):=ag.ak hm
 have q1:(upd H m (.dK [])) m=some (.dK []):=ae
 generalize upd H m (.dK [])=H1 at s1 q1 ⊢
 have eK:=hM.same s1
 refine⟨_,rfl,x,C,dx,_,_,rfl,eK.hx,T.cl,T.n1,zG ..,g1,_,rfl,.inl (aq.of eK.h1),λa1 zi=>?_⟩
 have s2:ag H1 (upd H1 a1 (.lst (M.switches.map V.str))):=ag.ak zi
 have q2:(upd H1 a1 (.lst (M.switches.map V.str))) a1=some (.lst (M.switches.map V.str)):=ae
 generalize upd H1 a1 (.lst (M.switches.map V.str))=H2 at s2 q2 ⊢
 have iD:=eK.same s2
 refine⟨_,rfl,x,C,dx,_,_,rfl,iD.hx,T.cl,T.n2,ow ..,g2,_,rfl,.inl iD.h2,λa2 t2 H3 s3 n3 q3 p3=>?_⟩
 have oA:=iD.same s3
 have jb:aE H3 a2 (M.keepers.map eZ):=oM (λ_=>rfl) q3 p3
 refine⟨_,rfl,x,C,dx,_,_,rfl,oA.hx,T.cl,T.n3,rn ..,g3,_,rfl,.inl (aq.of oA.h3),λa3 MG=>?_⟩
 have s4:ag H3 (upd H3 a3 (.lst (ts.map V.ref))):=ag.ak MG
 have q4:(upd H3 a3 (.lst (ts.map V.ref))) a3=some (.lst (ts.map V.ref)):=ae
 generalize upd H3 a3 (.lst (ts.map V.ref))=H4 at s4 q4 ⊢
 have tH:=(s2.trans s3).trans s4
 have XI:aE H4 a3 (M.gates.map dE):=⟨ts,q4,cv ((oA.same s4).hp)⟩
 have jL:=jb.same s4
 have As:=(s3.trans s4) _ _ q2
 have m4:=tH _ _ q1
 refine⟨m4,[(.inr "switches",.ref a1),(.inr "keepers",.ref a2),(.inr "gates",.ref a3)],rfl,(by show 3<=15;decide),?_⟩
 rw[show bE [] [((.inr "switches" : Key),V.ref a1),(.inr "keepers",.ref a2),(.inr "gates",.ref a3)]=[((.inr "switches" : Key),V.ref a1),(.inr "keepers",.ref a2),(.inr "gates",.ref a3)] from rfl]
 have k5:aI H4 (upd H4 m (.dK [((.inr "switches" : Key),V.ref a1),(.inr "keepers",.ref a2),(.inr "gates",.ref a3)])) m:=λb o hb hn=>by rw[ah hn];exact hb
 have q5:(upd H4 m (.dK [((.inr "switches" : Key),V.ref a1),(.inr "keepers",.ref a2),(.inr "gates",.ref a3)])) m=some (.dK [((.inr "switches" : Key),V.ref a1),(.inr "keepers",.ref a2),(.inr "gates",.ref a3)]):=ae
 generalize upd H4 m (.dK [((.inr "switches" : Key),V.ref a1),(.inr "keepers",.ref a2),(.inr "gates",.ref a3)])=H5 at k5 q5 ⊢
 have nu:ag H H5:=λb o hb=>k5 _ _ (tH _ _ (s1 _ _ hb)) (af hb hm)
 have eW:=jL.eI k5 m4
 have XJ:=XI.eI k5 m4
 have XM:=k5 _ _ As λe=>by rw[e,m4]at As;cases As
 have x8:=hM.same nu
 refine⟨_,rfl,x,C,dx,_,_,rfl,x8.hx,T.cl,T.n4,vf ..,by show 2<=sizeLine;decide,λT1 XN=>?_⟩
 have s6:ag H5 (upd H5 T1 (.tup [.str "nexts",.ref g4])):=ag.ak XN
 have q6:(upd H5 T1 (.tup [.str "nexts",.ref g4])) T1=_:=ae
 generalize upd H5 T1 (.tup [.str "nexts",.ref g4])=H6 at s6 q6 ⊢
 have lY:=x8.same s6
 refine⟨_,rfl,x,C,dx,_,_,rfl,lY.hx,T.cl,T.n5,vg ..,by show 2<=sizeLine;decide,λT2 sP=>?_⟩
 have s7:ag H6 (upd H6 T2 (.tup [.str "nevers",.ref g5])):=ag.ak sP
 have q7:(upd H6 T2 (.tup [.str "nevers",.ref g5])) T2=_:=ae
 generalize upd H6 T2 (.tup [.str "nevers",.ref g5])=H7 at s7 q7 ⊢
 have FE:=lY.same s7
 refine⟨_,rfl,x,C,dx,_,_,rfl,FE.hx,T.cl,T.n6,zH ..,by show 2<=sizeLine;decide,λT3 XO=>?_⟩
 have s8:ag H7 (upd H7 T3 (.tup [.str "somes",.ref g6])):=ag.ak XO
 have q8:(upd H7 T3 (.tup [.str "somes",.ref g6])) T3=_:=ae
 generalize upd H7 T3 (.tup [.str "somes",.ref g6])=H8 at s8 q8 ⊢
 refine⟨by show 3<=sizeLine;decide,λL hL=>?_⟩
 have s9:ag H8 (upd H8 L (.lst [.ref T1,.ref T2,.ref T3])):=ag.ak hL
 have q9:(upd H8 L (.lst [.ref T1,.ref T2,.ref T3])) L=some (.lst [.ref T1,.ref T2,.ref T3]):=ae
 generalize upd H8 L (.lst [.ref T1,.ref T2,.ref T3])=H9 at s9 q9 ⊢
 have FH:=((s6.trans s7).trans s8).trans s9
 have r1:=((s7.trans s8).trans s9) _ _ q6
 have r2:=(s8.trans s9) _ _ q7
 have r3:=s9 _ _ q8
 have m9:=FH _ _ q5
 have FC:=nu.trans FH
 refine⟨L,rfl,⟨_,aq.of q9⟩,gz (xs:=[.ref T1,.ref T2,.ref T3]) (λi σ Hi=>∃u v,σ=[some (.ref x),some (.ref m),u,v]/\aI H9 Hi m/\
  ((i=0/\Hi m=some (.dK [((.inr "switches" : Key),V.ref a1),(.inr "keepers",.ref a2),(.inr "gates",.ref a3)]))\/
   (i=1/\∃a4,Hi m=some (.dK [((.inr "switches" : Key),V.ref a1),(.inr "keepers",.ref a2),(.inr "gates",.ref a3),(.inr "nexts",.ref a4)])/\aE Hi a4 (M.nexts.map bx))\/
   (i=2/\∃a4 a5,Hi m=some (.dK [((.inr "switches" : Key),V.ref a1),(.inr "keepers",.ref a2),(.inr "gates",.ref a3),(.inr "nexts",.ref a4),(.inr "nevers",.ref a5)])/\aE Hi a4 (M.nexts.map bx)/\aE Hi a5 (M.nevers.map bx))\/
   (i=3/\∃a4 a5 a6,Hi m=some (.dK (h9 a1 a2 a3 a4 a5 a6))/\aE Hi a4 (M.nexts.map bx)/\aE Hi a5 (M.nevers.map bx)/\aE Hi a6 (M.somes.map bx)))) ⟨none,none,rfl,λ_ _ h _=>h,.inl ⟨rfl,m9⟩⟩ (λi σ Hi _ ⟨_,_,_,k,_⟩=>aq.of (k _ _ q9 λe=>by rw[e,m9]at q9;cases q9)) ?_ ?_⟩
 . have ne:∀{b:Addr}{o:HO},H9 b=some o->(∀kv,o≠.dK kv)->b≠m:=λhb ho e=>by rw[e,m9]at hb;cases hb;exact ho _ rfl
   have gm:∀{b:Addr}{o:HO},H b=some o->b≠m:=λhb=>af hb hm
   rintro i v σ Hi hv ⟨u,v',rfl,ki,hi⟩
   have kH:∀b o,H b=some o->Hi b=some o:=λb o hb=>ki _ _ (FC _ _ hb) (gm hb)
   rcases hi with⟨rfl,mi⟩|⟨rfl,a4,mi,p4⟩|⟨rfl,a4,a5,mi,p4,p5⟩|⟨rfl,_⟩
   . cases hv
     refine⟨T1,_,rfl,aH.of (ki _ _ r1 (ne r1 λ_ h=>by cases h)),rfl,_,_,rfl,_,_,rfl,rfl,?_⟩
     refine⟨_,rfl,g4,_,rfl,.inl (kH _ _ hM.h4),λa4 t4 J sJ nJ qJ pJ=>⟨_,rfl,_,rfl,m,_,rfl,gY.k (k:=.inr "nexts") (sJ _ _ mi) (by show 3<sizeLine;decide),?_⟩⟩
     have kJ:aI J (upd J m (.dK (putK [((.inr "switches" : Key),V.ref a1),(.inr "keepers",.ref a2),(.inr "gates",.ref a3)] (.inr "nexts") (.ref a4)))) m:=λb o hb hn=>by rw[ah hn];exact hb
     exact⟨_,_,rfl,λb o hb hn=>kJ _ _ (sJ _ _ (ki _ _ hb hn)) hn,.inr (.inl ⟨rfl,a4,ae,(oM (λ_=>rfl) qJ pJ).eI kJ (sJ _ _ mi)⟩)⟩
   . cases hv
     refine⟨T2,_,rfl,aH.of (ki _ _ r2 (ne r2 λ_ h=>by cases h)),rfl,_,_,rfl,_,_,rfl,rfl,?_⟩
     refine⟨_,rfl,g5,_,rfl,.inl (kH _ _ hM.h5),λa5 t5 J sJ nJ qJ pJ=>⟨_,rfl,_,rfl,m,_,rfl,gY.k (k:=.inr "nevers") (sJ _ _ mi) (by show 4<sizeLine;decide),?_⟩⟩
     have kJ:aI J (upd J m (.dK (putK [((.inr "switches" : Key),V.ref a1),(.inr "keepers",.ref a2),(.inr "gates",.ref a3),(.inr "nexts",.ref a4)] (.inr "nevers") (.ref a5)))) m:=λb o hb hn=>by rw[ah hn];exact hb
     exact⟨_,_,rfl,λb o hb hn=>kJ _ _ (sJ _ _ (ki _ _ hb hn)) hn,.inr (.inr (.inl ⟨rfl,a4,a5,ae,(p4.same sJ).eI kJ (sJ _ _ mi),(oM (λ_=>rfl) qJ pJ).eI kJ (sJ _ _ mi)⟩))⟩
   . cases hv
     refine⟨T3,_,rfl,aH.of (ki _ _ r3 (ne r3 λ_ h=>by cases h)),rfl,_,_,rfl,_,_,rfl,rfl,?_⟩
     refine⟨_,rfl,g6,_,rfl,.inl (kH _ _ hM.h6),λa6 t6 J sJ nJ qJ pJ=>⟨_,rfl,_,rfl,m,_,rfl,gY.k (k:=.inr "somes") (sJ _ _ mi) (by show 5<sizeLine;decide),?_⟩⟩
     have kJ:aI J (upd J m (.dK (putK [((.inr "switches" : Key),V.ref a1),(.inr "keepers",.ref a2),(.inr "gates",.ref a3),(.inr "nexts",.ref a4),(.inr "nevers",.ref a5)] (.inr "somes") (.ref a6)))) m:=λb o hb hn=>by rw[ah hn];exact hb
     exact⟨_,_,rfl,λb o hb hn=>kJ _ _ (sJ _ _ (ki _ _ hb hn)) hn,.inr (.inr (.inr ⟨rfl,a4,a5,a6,ae,(p4.same sJ).eI kJ (sJ _ _ mi),(p5.same sJ).eI kJ (sJ _ _ mi),(oM (λ_=>rfl) qJ pJ).eI kJ (sJ _ _ mi)⟩))⟩
   . cases hv
 . rintro σ Hi ⟨u,v',rfl,ki,hi⟩
   rcases hi with⟨e,_⟩|⟨e,_⟩|⟨e,_⟩|⟨_,a4,a5,a6,mi,p4,p5,p6⟩
   . cases e
   . cases e
   . cases e
   . refine⟨_,rfl,kk m a1 a2 a3 a4 a5 a6 Hi (λb o hb=>ki _ _ (FC _ _ hb) (af hb hm)) ⟨mi,?_,?_,?_,p4,p5,p6⟩⟩
     . have:=FH _ _ XM
       exact ki _ _ this λe=>by rw[e,m9]at this;cases this
     . exact(eW.same FH).eI ki m9
     . exact(XJ.same FH).eI ki m9
end
noncomputable def sF:Sp:=λvs H Q _=>∃(m a1 a2 a3 a4 a5 a6:Addr) (M:ax),vs=[.ref m]/\cb H m M a1 a2 a3 a4 a5 a6/\j8 M/\∀p H',ag H H'->H' p=some (.lst ((bg M).map V.str))->Q (.ref p) H'
noncomputable def FI(M:ax)(r:Str×V):Str×Str:=(r.1,cI M.nexts r.1)
noncomputable def yo:Sp:=λvs H Q _=>∃(m a1 a2 a3 a4 a5 a6:Addr) (M:ax),vs=[.ref m]/\cb H m M a1 a2 a3 a4 a5 a6/\j8 M/\(M.nexts.map (·.1)).Nodup/\∀p H',ag H H'->aE H' p ((M.keepers.map (FI M)).map bx)->Q (.ref p) H'
noncomputable def wJ:Sp:=λvs H Q _=>∃(v d a1 a2 a3 a4 a5 a6 b1 b2 b3 b4 b5 b6:Addr) (M:ax) (names:List Str),vs=[.ref v,.ref d]/\cb H v M a1 a2 a3 a4 a5 a6/\cb H d M b1 b2 b3 b4 b5 b6/\j8 M/\aG M names/\∀H',ag H H'->Q (.bl true) H'
theorem iU{α:Type}{H:Hp}{g:α->List V} : ∀{ts:List Addr}{l:List α},Paired (λt r=>H t=some (.tup r)) ts (l.map g)->Paired (λt x=>H t=some (.tup (g x))) ts l:=λh=>ia (F:=λt r=>H t=some (.tup r)) h
theorem i6{α β:Type}{F:α->β->Prop} : ∀{l₁:List α}{l₂:List β},Paired F l₁ l₂->∀z∈l₁.zip l₂,F z.1 z.2
 | _,_,.nil,z,h=>nomatch h
 | _,_,.cons h0 t,z,h=>by
  rw[abX]at h
  rcases aal.mp h with rfl|h
  . exact h0
  . exact i6 t z h
section
variable {P:Program}{w:World}{K:W.Frag}{mg:Str->Option Value}{base:Heap}{C:Addr}
theorem Lc:aK ["_law_m"] ["_law_m"] (aw Ao):=fs
theorem HE{f:Addr}{fd:FuncData}(F:aQ K "_law_order" "_law_order" Ao f fd)(O:iu mg):aP P w K mg base aZ 1 f fd ["_law_m"] sF:=by
 refine F.go Lc (λcdv A outer s H vs Q E hr h=>?_)
 obtain⟨m,a1,a2,a3,a4,a5,a6,M,rfl,hM,fw,kk⟩:=h
 have hu:=eE hr
 refine⟨_,(av (aJ (az hX (az hX (aN eN (by rfl) O.list abr (aa (aD hu (pv 0) au (λ_ _=>rfl)) ai)) (b8 (N:=["_law_one"]) (js:=[none]) (te:=(fo (ck K) (aL 0) (tC (.int 0)))) (by kernel_rfl) rfl (ba (aD hu (pv 0) au (λ_ _=>rfl))) (λ_ _ _ _ _ _=>(ar (i:=0) (show (["_law_one"]:List Str).Nodup from dk) rfl (Or.inl rfl) (.inr rfl))) (λ_ _ _ _ _ _=>bb) (λ_ _ _ _ _ _=>(aF (r:=ck K) bT (pv 0) ao (λ_ _=>rfl))))) (b8 (N:=["_law_one"]) (js:=[none]) (te:=(fo (ck K) (aL 0) (tC (.int 0)))) (by kernel_rfl) rfl (ba (aD hu (pv 0) au (λ_ _=>rfl))) (λ_ _ _ _ _ _=>(ar (i:=0) (show (["_law_one"]:List Str).Nodup from dk) rfl (Or.inl rfl) (.inr rfl))) (λ_ _ _ _ _ _=>bb) (λ_ _ _ _ _ _=>(aF (r:=ck K) bT (pv 0) ao (λ_ _=>rfl))))))),?_⟩
 refine⟨_,rfl,m,.ref a1,rfl,aX.k (k:=.inr "switches") hM.top,a1,_,rfl,.inl (aq.of hM.sw),λp1 EI=>?_⟩
 have s1:ag H (upd H p1 (.lst (M.switches.map V.str))):=ag.ak EI
 have q1:(upd H p1 (.lst (M.switches.map V.str))) p1=_:=ae
 generalize upd H p1 (.lst (M.switches.map V.str))=H1 at s1 q1 ⊢
 have eK:=hM.same s1
 obtain⟨t2,h2,p2⟩:=id eK.kp
 refine⟨_,rfl,m,.ref a2,rfl,aX.k (k:=.inr "keepers") eK.top,a2,rfl,⟨_,aq.of h2⟩,λD2 iM=>?_⟩
 have tI:=iU p2
 have e2:(t2.map V.ref)=((t2.zip M.keepers).map (·.1)).map V.ref:=by rw[ac0 (ab5 tI.length)]
 have vi:∀z∈t2.zip M.keepers,H1 z.1=some (.tup (eZ z.2)):=i6 tI
 have cx:(t2.zip M.keepers).map (·.2)=M.keepers:=adE (ab5 tI.length.symm)
 refine i4 (xs:=t2.zip M.keepers) (kp:=λ_=>true) (y:=λz=>.inl (.str z.2.1)) (λz=>V.ref z.1) (by rw[abn];have:=fw.n2;exact aao (acE _ _) (by lia)) (by rw[h2,e2,aa1];rfl) iM (λz hz H9 s9=>rw_yes λY hY=>?_) λH2 vs s2 bf p3=>?_
 . exact⟨_,rfl,z.1,_,0,_,rfl,rfl,aH.of (s9 _ _ (vi z hz)),iR,hY _ _ (λ_ _ h=>h) rfl⟩
 rw[fZ]at p3
 have ev:=fU p3
 rw[show ((t2.zip M.keepers).map λz=>V.str z.2.1)=((t2.zip M.keepers).map (·.2)).map (λr=>V.str r.1) from by rw[aa1];rfl,cx,show (M.keepers.map λr=>V.str r.1)=(M.keepers.map (·.1)).map V.str from by rw[aa1];rfl]at ev
 subst ev
 refine⟨p1,D2,_,_,rfl,rfl,s2 _ _ q1,bf,(by simp only[aaa];have:=fw.n1;have:=fw.n2;exact iL (by lia)),λp4 ke=>?_⟩
 rw[← aag]
 have s3:ag H2 (upd H2 p4 (.lst ((M.switches++M.keepers.map (·.1)).map V.str))):=ag.ak ke
 have q3:(upd H2 p4 (.lst ((M.switches++M.keepers.map (·.1)).map V.str))) p4=_:=ae
 generalize upd H2 p4 (.lst ((M.switches++M.keepers.map (·.1)).map V.str))=H3 at s3 q3 ⊢
 have iN:=s2.trans s3
 have oA:=eK.same iN
 obtain⟨t3,h3,p5⟩:=id oA.gt
 refine⟨_,rfl,m,.ref a3,rfl,aX.k (k:=.inr "gates") oA.top,a3,rfl,⟨_,aq.of h3⟩,λD3 ly=>?_⟩
 have BW:=iU p5
 have e3:(t3.map V.ref)=((t3.zip M.gates).map (·.1)).map V.ref:=by rw[ac0 (ab5 BW.length)]
 have ET:∀z∈t3.zip M.gates,H3 z.1=some (.tup (dE z.2)):=i6 BW
 have qK:(t3.zip M.gates).map (·.2)=M.gates:=adE (ab5 BW.length.symm)
 refine i4 (xs:=t3.zip M.gates) (kp:=λ_=>true) (y:=λz=>.inl (.str z.2.1)) (λz=>V.ref z.1) (by rw[abn];have:=fw.n3;exact aao (acE _ _) (by lia)) (by rw[h3,e3,aa1];rfl) ly (λz hz H9 s9=>rw_yes λY hY=>?_) λH4 vs s4 pk p6=>?_
 . exact⟨_,rfl,z.1,_,0,_,rfl,rfl,aH.of (s9 _ _ (ET z hz)),iR,hY _ _ (λ_ _ h=>h) rfl⟩
 rw[fZ]at p6
 have ev:=fU p6
 rw[show ((t3.zip M.gates).map λz=>V.str z.2.1)=((t3.zip M.gates).map (·.2)).map (λr=>V.str r.1) from by rw[aa1];rfl,qK,show (M.gates.map λr=>V.str r.1)=(M.gates.map (·.1)).map V.str from by rw[aa1];rfl]at ev
 subst ev
 refine⟨p4,D3,_,_,rfl,rfl,s4 _ _ q3,pk,(by simp only[aaa,aaf];have:=fw.n1;have:=fw.n2;have:=fw.n3;exact iL (by lia)),λp7 XQ=>?_⟩
 rw[← aag]
 exact kk p7 _ (((s1.trans iN).trans s4).trans (ag.ak XQ)) ae
theorem Jt:aK ["_law_m", "_law_nexts"] ["_law_m"] (aw HD):=fs
theorem N5{f:Addr}{fd:FuncData}(F:aQ K "_law_next_literals" "_law_next_literals" HD f fd)(O:iu mg):aP P w K mg base aZ 1 f fd ["_law_m"] yo:=by
 refine F.go Jt (λcdv A outer s H vs Q E hr h=>?_)
 obtain⟨m,a1,a2,a3,a4,a5,a6,M,rfl,hM,fw,nd,kk⟩:=h
 have hu:=eE hr
 refine⟨_,(aj (cE 1 Jt.nd (aN (bp rfl) (by rfl) O.dict aaQ (aa (aD hu (pv 0) au (λ_ _=>rfl)) ai)))
  (av (aJ (b8 (N:=["_law_name", "_law_bit_here", "_law_nexts"]) (js:=[none,none,some 1]) (g:=lK K 2 (dm (bO 0) (dm (bO 1) lJ))) (te:=(lL (cW (aL 0) (cW (Ef (aL 2) (aL 0) (aL 0)) jY)))) (by kernel_rfl) rfl (ba (aD hu (pv 0) au (λ_ _=>rfl))) (λ_ _ _ _ _ _=>(cN rfl (aA (ar (i:=0) (show (["_law_name", "_law_bit_here", "_law_nexts"]:List Str).Nodup from dk) rfl (Or.inl rfl) (.inr rfl)) (aA (ar (i:=1) (show (["_law_name", "_law_bit_here", "_law_nexts"]:List Str).Nodup from dk) rfl (Or.inl rfl) (.inr rfl)) cc)))) (λ_ _ _ _ _ _=>bb) (λ_ _ _ _ _ _=>(bF (aa (pv 0) (aa (oW hu (pv 2) (pv 0) (pv 0) ⟨rfl,rfl,rfl,rfl⟩) ai)))))))),?_⟩
 obtain⟨t4,u4,v4⟩:=oC (h:=λr:Str×Str=>((.inr r.1:Key),V.str r.2)) (λ_=>rfl) hM.nx
 refine⟨_,rfl,m,.ref a4,rfl,aX.k (k:=.inr "nexts") hM.top,a4,t4,aR M.nexts,rfl,u4,v4,λn hn=>?_⟩
 rw[il nd]
 have s1:ag H (upd H n (.dK (aR M.nexts))):=ag.ak hn
 have q1:(upd H n (.dK (aR M.nexts))) n=_:=ae
 generalize upd H n (.dK (aR M.nexts))=H1 at s1 q1 ⊢
 have eK:=hM.same s1
 obtain⟨t2,h2,p2⟩:=id eK.kp
 refine⟨_,rfl,m,.ref a2,rfl,aX.k (k:=.inr "keepers") eK.top,a2,rfl,⟨_,aq.of h2⟩,λD hD=>?_⟩
 refine QT (xs:=M.keepers) (kp:=λ_=>true) (y:=λr=>.inr (.tup (bx (FI M r)))) (λr=>V.str r.1) (λr=>r.2) (by have:=fw.n2;lia) h2 (iU p2) hD (λr lX H9 s9=>rw_yes λY hY=>?_) λH2 vs s2 bf p3=>?_
 . refine⟨_,rfl,_,rfl,n,rfl,.inl ⟨_,.inl (s9 _ _ q1)⟩,_,rfl,_,rfl,_,aX.k (k:=.inr r.1) (s9 _ _ q1),?_⟩
   have e:(bA (aR M.nexts) (.inr r.1)).getD (.str r.1)=.str (cI M.nexts r.1):=zP r.1 M.nexts
   show ([V.str r.1,(bA (aR M.nexts) (.inr r.1)).getD (.str r.1)]:List V).length<=sizeLine/\_
   rw[e]
   exact⟨by show 2<=sizeLine;decide,λT hT=>hY _ _ (ag.ak hT) (jO hT)⟩
 rw[fZ]at p3
 obtain⟨ns,rfl,pn⟩:=gB p3
 exact kk D H2 (s1.trans s2) ⟨ns,bf,by rw[aa1];exact cv (Paired.bj pn λt r z=>z.2)⟩
theorem BX:aK ["_law_view_here", "_law_due_here", "_law_field"] ["_law_view_here", "_law_due_here"] (aw vx):=fs
theorem HF{f fN:Addr}{fd dN:FuncData}(F:aQ K "_law_alike" "_law_alike" vx f fd)(CN:cj P w K mg base 1 fN dN "_law_next_literals" ["_law_m"] yo):aP P w K mg base aZ 2 f fd ["_law_view_here", "_law_due_here"] wJ:=by
 refine F.go BX (λcdv A outer s H vs Q E hr h=>?_)
 obtain⟨v,d,a1,a2,a3,a4,a5,a6,b1,b2,b3,b4,b5,b6,M,names,rfl,hV,hD,fw,ok,kk⟩:=h
 have hu:=eE hr
 have BY:(A.deeper (PyProof.Rows.envOfC "_law_alike" (aw vx) s.heap.objs.size f cdv)).units+2<cLine:=abU (ac2 (by decide:2<=64) _) hr.units
 refine⟨_,(aj (dU aa6 rfl (ba (cf (aa au (aa au (aa au (aa au (aa au ai))))))) (ar (i:=2) BX.nd rfl (Or.inl rfl))
  (av (cU (bh (sA (n:=2) BY) (aD hu (pv 0) (pv 2) (λ_ _=>rfl)) (aD hu (pv 1) (pv 2) (λ_ _=>rfl)) (cQ _))
   (av (aJ kO)) bN)))
  (av (aJ (vJ (KO (n:=2) BY) (a8 CN hr (aa (pv 0) ai)) (a8 CN hr (aa (pv 1) ai)) (cQ _))))),?_⟩
 refine⟨by show 5<=sizeLine;decide,λL hL=>?_⟩
 have s1:ag H (upd H L (.lst [.str "switches",.str "keepers",.str "gates",.str "nevers",.str "somes"])):=ag.ak hL
 have q1:(upd H L (.lst [.str "switches",.str "keepers",.str "gates",.str "nevers",.str "somes"])) L=some (.lst [.str "switches",.str "keepers",.str "gates",.str "nevers",.str "somes"]):=ae
 generalize upd H L (.lst [.str "switches",.str "keepers",.str "gates",.str "nevers",.str "somes"])=H1 at s1 q1 ⊢
 have rP:=hV.same s1
 have mJ:=hD.same s1
 have N6:∀z∈M.switches,qg z:=λz hz=>gE (ok.nm z (by rw[ok.all];exact aae.mpr (.inl (aae.mpr (.inl hz)))))
 refine⟨L,rfl,⟨_,aq.of q1⟩,gz (xs:=[.str "switches",.str "keepers",.str "gates",.str "nevers",.str "somes"]) (λi σ Hi=>(∃u,σ=[some (.ref v),some (.ref d),u])/\Hi=H1) ⟨⟨none,rfl⟩,rfl⟩ (λi σ Hi _ ⟨_,e⟩=>by rw[e];exact aq.of q1) ?_ ?_⟩
 . rintro i x σ Hi hx ⟨⟨u,rfl⟩,rfl⟩
   match i,hx with
   | 0,hx=>
    cases hx
    exact⟨_,rfl,_,rfl,v,.ref a1,rfl,aX.k (k:=.inr "switches") rP.top,_,rfl,_,rfl,d,.ref b1,rfl,aX.k (k:=.inr "switches") mJ.top,jR (.lst (aq.of rP.sw) (pL _)) (.lst (aq.of mJ.sw) (pL _)) (Ap N6) (aao (Aq _) (by decide)) ⟨_,rfl,bQ ⟨⟨_,rfl⟩,rfl⟩⟩⟩
   | 1,hx=>
    cases hx
    exact⟨_,rfl,_,rfl,v,.ref a2,rfl,aX.k (k:=.inr "keepers") rP.top,_,rfl,_,rfl,d,.ref b2,rfl,aX.k (k:=.inr "keepers") mJ.top,jR (cZ rP.kp (vA ok)) (cZ mJ.kp (vA ok)) (fj (vA ok)) (fk _) ⟨_,rfl,bQ ⟨⟨_,rfl⟩,rfl⟩⟩⟩
   | 2,hx=>
    cases hx
    exact⟨_,rfl,_,rfl,v,.ref a3,rfl,aX.k (k:=.inr "gates") rP.top,_,rfl,_,rfl,d,.ref b3,rfl,aX.k (k:=.inr "gates") mJ.top,jR (cZ rP.gt (vB ok)) (cZ mJ.gt (vB ok)) (fj (vB ok)) (fk _) ⟨_,rfl,bQ ⟨⟨_,rfl⟩,rfl⟩⟩⟩
   | 3,hx=>
    cases hx
    exact⟨_,rfl,_,rfl,v,.ref a5,rfl,aX.k (k:=.inr "nevers") rP.top,_,rfl,_,rfl,d,.ref b5,rfl,aX.k (k:=.inr "nevers") mJ.top,jR (cZ rP.nv (lg ok.nm ok.nvw)) (cZ mJ.nv (lg ok.nm ok.nvw)) (fj (lg ok.nm ok.nvw)) (fk _) ⟨_,rfl,bQ ⟨⟨_,rfl⟩,rfl⟩⟩⟩
   | 4,hx=>
    cases hx
    exact⟨_,rfl,_,rfl,v,.ref a6,rfl,aX.k (k:=.inr "somes") rP.top,_,rfl,_,rfl,d,.ref b6,rfl,aX.k (k:=.inr "somes") mJ.top,jR (cZ rP.sm (lg ok.nm ok.smw)) (cZ mJ.sm (lg ok.nm ok.smw)) (fj (lg ok.nm ok.smw)) (fk _) ⟨_,rfl,bQ ⟨⟨_,rfl⟩,rfl⟩⟩⟩
   | i+5,hx=>simp at hx
 . rintro σ Hi ⟨⟨u,rfl⟩,rfl⟩
   have fx:∀r∈(M.keepers.map (FI M)).map bx,∀v∈r,iF v:=DC λr hr=>by
    obtain⟨k,hk,rfl⟩:=aak.mp hr
    have hn:=ok.uk (aak.mpr ⟨k,hk,rfl⟩)
    exact⟨gE (ok.nm _ hn),oK (ok.Ah hn) ok.nm⟩
   refine⟨_,rfl,v,a1,a2,a3,a4,a5,a6,M,rfl,rP,fw,ok.nxd,λp1 H2 s2 h2=>⟨_,rfl,d,b1,b2,b3,b4,b5,b6,M,rfl,mJ.same s2,fw,ok.nxd,λp2 H3 s3 h3=>?_⟩⟩
   exact La (cZ (h2.same s3) fx) (cZ h3 fx) (fj fx) (fk _) (kk H3 ((s1.trans s2).trans s3))
end
noncomputable abbrev Au:Stmt:=top 36
noncomputable abbrev wK:Stmt:=top 37
noncomputable def wL:Sp:=λvs H Q _=>∃(z:Str) (names:List Str),vs=[.str z]/\Lit names z/\(∀x∈names,aT x)/\∀p H',ag H H'->H p=none->H' p=some (.lst ((cg z).map V.str))->Q (.ref p) H'
theorem Av{z:Str}(h:aT z):126∉z.cps.toList:=λhm=>by have:=gA.mp (h.2.2 _ hm);lia
theorem HG{names:List Str}{z:Str}(h:Lit names z)(hn:∀x∈names,aT x):Txt.replace z "~" "" = bH z:=by
 rcases h with rfl|rfl|⟨x,hx,rfl|rfl⟩
 . rw[rF (by decide+kernel),Aa]
 . rw[rF (by decide+kernel),Ab]
 . rw[rF (Av (hn _ hx)),jP (hn _ hx)]
 . rw[Dq (Av (hn _ hx)),i5]
theorem N7{names:List Str}{z:Str}(h:Lit names z)(hn:∀x∈names,aT x):cg z=if z = "0" \/ z = "1" then [] else [bH z]:=by
 by_cases e:z = "0" \/ z = "1"
 . rw[aa4 e]
   unfold cg
   rcases e with rfl|rfl
   . rw[aa4 (.inl Aa)]
   . rw[aa4 (.inr Ab)]
 . rw[aaY e]
   have hm:=FD h hn (λq=>e (.inl q)) (λq=>e (.inr q))
   unfold cg at hm ⊢
   split
   . rename_i q
     rw[aa4 q]at hm
     cases hm
   . rfl
section
variable {P:Program}{w:World}{K:W.Frag}{mg:Str->Option Value}{base:Heap}{C:Addr}
theorem Ld:aK ["_law_literal_here"] ["_law_literal_here"] (aw Au):=fs
theorem HH{f:Addr}{fd:FuncData}(F:aQ K "_law_plain" "_law_plain" Au f fd)(O:iu mg):mf P w K mg base aZ 1 f fd ["_law_literal_here"] wL:=by
 refine F.Nu Ld (λcdv A outer s H vs Q E hr h=>?_)
 obtain⟨z,names,rfl,hz,hn,kk⟩:=h
 have hu:=eE hr
 refine⟨_,ue (KJ (Fv Ki (Ht (Di (by decide+kernel) (pv 0))) jH (jI (aN wV (by rfl) O.int adv (aa (vJ j0 (pv 0) (bF (aa au (aa au ai))) (by with_unfolding_all rfl)) ai))))),?_⟩
 have zl:=hz.len hn
 refine⟨_,rfl,z,rfl,by lia,by decide,by show 1<=sizeLine;decide,λL hL=>?_⟩
 rw[HG hz hn]
 have s1:ag H (upd H L (.lst [.str (bH z)])):=ag.ak hL
 have q1:(upd H L (.lst [.str (bH z)])) L=some (.lst [.str (bH z)]):=ae
 generalize upd H L (.lst [.str (bH z)])=H1 at s1 q1 ⊢
 refine⟨_,rfl,by show 2<=sizeLine;decide,λt ht=>?_⟩
 have s2:ag H1 (upd H1 t (.tup [.str "0",.str "1"])):=ag.ak ht
 have q2:(upd H1 t (.tup [.str "0",.str "1"])) t=some (.tup [.str "0",.str "1"]):=ae
 generalize upd H1 t (.tup [.str "0",.str "1"])=H2 at s2 q2 ⊢
 have lG:=s1.trans s2
 refine⟨t,_,rfl,.inr (aH.of q2),rfl,rfl,.inr ⟨_,rfl,_,rfl,L,_,rfl,aq.of (s2 _ _ q1),λp hp=>?_⟩⟩
 have e:vM [V.str (bH z)] none (some (if (if true=true then !g0 (.str z) [.str "0",.str "1"] else g0 (.str z) [.str "0",.str "1"])=true then 1 else 0))=(cg z).map V.str:=by
  rw[N7 hz hn,aa4 rfl]
  by_cases h:z = "0" \/ z = "1"
  . rw[aa4 h,show g0 (.str z) [.str "0",.str "1"]=true from by rcases h with e|e <;> (rw[e];decide+kernel)]
    rfl
  . rw[aaY h,Hy (λq=>h (.inl q)) λq=>h (.inr q)]
    rfl
 show Q (.ref p) (upd H2 p (.lst (vM [V.str (bH z)] none (some (if (if true=true then !g0 (.str z) [.str "0",.str "1"] else g0 (.str z) [.str "0",.str "1"])=true then 1 else 0)))))
 rw[e]
 exact kk p _ (lG.trans (ag.ak hp)) (same_none lG hp) ae
end
theorem vE{α:Type}{l:List α}(h:l.Nodup){i:Nat}{x:α}(hx:l[i]?=some x):x∉l.take i:=λq=>by
 obtain⟨j,hj,e⟩:=acj q
 rw[aa3]at hj
 rw[List.getElem_take]at e
 obtain⟨hi,e2⟩:=aas.mp hx
 have BH:j<l.length:=by lia
 have:=(List.getElem_inj (h₀:=BH) (h₁:=hi) h).mp (by rw[e,e2])
 lia
noncomputable def j9(M:ax)(n:Str):List Str:=(cw M n++eG M n).flatMap cg
noncomputable def UT(M:ax)(H:Hp) (ul:List (Str×V)) (ns:List Str):Prop:=Paired (λ(p:Str×V) (n:Str)=>p.1=n/\∃u,p.2=.ref u/\H u=some (.lst ((j9 M n).map V.str))) ul ns
theorem UT.look{M:ax}{H:Hp}{ul:List (Str×V)}{ns:List Str}(h:UT M H ul ns){n:Str}(hn:n∈ns):∃u,bA (br ul) (.inr n)=some (.ref u)/\H u=some (.lst ((j9 M n).map V.str)):=by
 induction h with
 | nil=>cases hn
 | @cons p m ul ns h0 _ ih=>
  obtain⟨e1,u,e2,e3⟩:=h0
  by_cases e:m=n
  . subst e
    exact⟨u,by rw[show br (p::ul)=(.inr p.1,p.2)::br ul from rfl,fu (by rw[e1]),e2],e3⟩
  . rw[show br (p::ul)=(.inr p.1,p.2)::br ul from rfl,fz λq=>e (by rw[← e1];exact acH q)]
    exact ih ((aal.mp hn).resolve_left (aau e))
theorem UT.keep{M:ax}{H H':Hp}{U:Addr}{kvs:List (Key×V)}{ul:List (Str×V)}{ns:List Str}(h:UT M H ul ns) (k:aI H H' U) (hU:H U=some (.dK kvs)):UT M H' ul ns:=Paired.bj h λp n ⟨e1,u,e2,e3⟩=>⟨e1,u,e2,k _ _ e3 λq=>by rw[q,hU]at e3;cases e3⟩
theorem UT.keys{M:ax}{H:Hp}{ul:List (Str×V)}{ns:List Str}(h:UT M H ul ns):ul.map (·.1)=ns:=by
 induction h with
 | nil=>rfl
 | cons h0 _ ih=>rw[aay,ih,h0.1]
theorem UT.put{M:ax}{H:Hp}{ul:List (Str×V)}{ns:List Str}(h:UT M H ul ns){n:Str}(hn:n∉ns) (u:Addr):putK (br ul) (.inr n) (.ref u)=br (ul++[(n,.ref u)]):=by
 rw[mz _ (zX (by rw[h.keys];exact hn))]
 unfold br
 rw[aag]
 rfl
theorem BZ{M:ax}{a:Str}(h:a∉M.gates.map (·.1)):cw M a=[]:=by
 unfold cw
 rw[adf.mpr λg hg e=>h (aak.mpr ⟨g,hg,aba e⟩)]
 rfl
theorem x9{M:ax}{names:List Str}(ok:aG M names){n:Str}(h:n∈M.switches):j9 M n=[]:=by
 have nd:=ok.nd
 rw[ok.all]at nd
 obtain⟨n1,n2,n3⟩:=aav.mp nd
 have h1:n∉M.gates.map (·.1):=λq=>n3 n (aae.mpr (.inl h)) n q rfl
 have h2:n∉M.keepers.map (·.1):=λq=>(aav.mp n1).2.2 n h n q rfl
 unfold j9 eG
 rw[BZ h1,aaY h2]
 rfl
theorem B0{M:ax}{names:List Str}(ok:aG M names){n:Str}(h:n∈M.keepers.map (·.1)):j9 M n=cg (cI M.nexts n):=by
 have nd:=ok.nd
 rw[ok.all]at nd
 have h1:n∉M.gates.map (·.1):=λq=>(aav.mp nd).2.2 n (aae.mpr (.inr h)) n q rfl
 unfold j9 eG
 rw[BZ h1,aa4 h]
 simp
theorem B1{M:ax}{names:List Str}(ok:aG M names){r:Str×Str×Str}(h:r∈M.gates):j9 M r.1=cg r.2.1++cg r.2.2:=by
 have nd:=ok.nd
 rw[ok.all]at nd
 have h2:r.1∉M.keepers.map (·.1):=λq=>(aav.mp nd).2.2 r.1 (aae.mpr (.inr q)) r.1 (aak.mpr ⟨r,h,rfl⟩) rfl
 unfold j9 eG
 rw[rL ok h,aaY h2]
 simp
theorem N8{M:ax}{names:List Str}(ok:aG M names){n:Str}(h:n∈names):(j9 M n).length<=2:=by
 have l1:∀z,(cg z).length<=1:=λz=>by unfold cg;split <;> simp
 rw[ok.all]at h
 rcases aae.mp h with h|h
 . rcases aae.mp h with h|h
   . rw[x9 ok h];exact abM _
   . rw[B0 ok h];exact aao (l1 _) (by decide)
 . obtain⟨r,hr,rfl⟩:=aak.mp h
   rw[B1 ok hr,aaf]
   have:=l1 r.2.1
   have:=l1 r.2.2
   lia
theorem Aw{M:ax}{a n:Str} : n∈j9 M a ↔ ∃z∈cw M a++eG M a,n∈cg z:=by
 unfold j9
 rw[List.mem_flatMap]
noncomputable def ur:Sp:=λvs H Q _=>∃(m a1 a2 a3 a4 a5 a6:Addr) (M:ax) (names:List Str) (l:Str),vs=[.ref m,.str l]/\cb H m M a1 a2 a3 a4 a5 a6/\aG M names/\j8 M/\Lit names l/\
 ∀(p:Addr) (fs:List Str) (H':Hp),ag H H'->H' p=some (.lst (fs.map V.str))->(∀n,n∈fs ↔ Hg M l n)->Q (.ref p) H'
structure Ax(M:ax) (l:Str) (fs:List Str) (at_:Nat):Prop where
 f:∀n∈fs,Hg M l n
 b:∀n∈cg l,n∈fs
 c:∀i a,i<at_->fs[i]?=some a->∀n∈j9 M a,n∈fs
theorem Ax.done{M:ax}{l:Str}{fs:List Str}{k:Nat}(h:Ax M l fs k)(hk:fs.length<=k)(n:Str):n∈fs ↔ Hg M l n:=
 ⟨h.f n,λq=>q.sub (P:=(· ∈ fs)) h.b λa ha z hz n hn=>by
  obtain⟨i,hi,e⟩:=acj ha
  exact h.c i a (aaV hi hk) (by rw[aad hi,e]) n (Aw.mpr ⟨z,hz,hn⟩)⟩
theorem Ax.next{M:ax}{l:Str}{fs:List Str}{k:Nat}{a:Str}(h:Ax M l fs k)(ha:fs[k]?=some a):Ax M l (fs++(j9 M a).filter λn=>!decide (n∈fs)) (k+1):=by
 have hg:=h.f a (aaT ha)
 have XR:∀n∈j9 M a,n∈fs++(j9 M a).filter λn=>!decide (n∈fs):=λn hn=>by
  by_cases q:n∈fs
  . exact aae.mpr (.inl q)
  . exact aae.mpr (.inr (aap.mpr ⟨hn,by rw[aaW q];rfl⟩))
 refine⟨λn hn=>?_,λn hn=>aae.mpr (.inl (h.b n hn)),λi b hi hb n hn=>?_⟩
 . rcases aae.mp hn with q|q
   . exact h.f n q
   . obtain⟨z,hz,q⟩:=Aw.mp (aap.mp q).1
     exact .step hg hz q
 . rcases aeH i k with q|q
   . rw[abt (by have:=(aas.mp ha).1;lia)]at hb
     exact aae.mpr (.inl (h.c i b q hb n hn))
   . have e:i=k:=by lia
     rw[e,abt (aas.mp ha).1,ha]at hb
     cases hb
     exact XR n hn
noncomputable def ka(names fs:List Str):Nat:=(names.filter λn=>!decide (n∈fs)).length
theorem HI{names fs gs:List Str} : ka names (fs++gs)<=ka names fs:=by
 unfold ka
 refine List.Sublist.length_le ?_
 rw[show (names.filter λn=>!decide (n∈fs++gs))=(names.filter λn=>!decide (n∈fs)).filter λn=>!decide (n∈gs) from by
  rw[List.filter_filter]
  refine acr λn _=>?_
  by_cases h1:n∈fs <;> by_cases h2:n∈gs <;> simp[h1,h2]]
 exact adV
theorem Le{names fs gs:List Str}{n:Str}(hn:n∈names)(hg:n∈gs)(hf:n∉fs):ka names (fs++gs)+1<=ka names fs:=by
 unfold ka
 induction names with
 | nil=>cases hn
 | cons a names ih=>
  by_cases e:a=n
  . subst e
    rw[aa5 (by simp[hg]),aa2 (by simp[hf]),abl]
    exact aew (HI (names:=names) (fs:=fs) (gs:=gs))
  . have N9:=ih ((aal.mp hn).resolve_left (aau e))
    by_cases h1:a∈fs
    . rw[aa5 (by simp[h1]),aa5 (by simp[h1])]
      exact N9
    . rw[aa2 (p:=λn=>!decide (n∈fs)) (by simp[h1]),abl]
      by_cases h2:a∈gs
      . rw[aa5 (by simp[h2])]
        exact ae5 N9
      . rw[aa2 (by simp[h1,h2]),abl]
        exact aew N9
theorem HJ{names fs:List Str} : ∀{us:List Str},us.length<=2->(∀n∈us,n∈names)->2*ka names (fs++us.filter λn=>!decide (n∈fs))+(us.filter λn=>!decide (n∈fs)).length<=2*ka names fs:=by
 intro us hl hn
 cases e:us.filter λn=>!decide (n∈fs) with
 | nil=>rw[abw];exact aah _
 | cons a r=>
  have hm:a∈us.filter λn=>!decide (n∈fs):=by rw[e];exact aaR
  obtain⟨h1,h2⟩:=aap.mp hm
  have h3:a∉fs:=λq=>by rw[aaU q]at h2;cases h2
  have:=Le (gs:=a::r) (hn a h1) aaR h3
  have l2:(a::r).length<=2:=by rw[← e];exact aao (aa7 _ _) hl
  lia
theorem FJ{M:ax}{names:List Str}(ok:aG M names){H:Hp}{D:Addr} : ∀{ps:List (Addr×Addr)}{ns:List Str},(∀n∈ns,n∈M.switches)->Paired (λ(p:Addr×Addr) (n:Str)=>p.2≠D/\H p.1=some (.tup [.str n,.ref p.2])/\H p.2=some (.lst [])) ps ns->
 ∃ul:List (Str×V),UT M H ul ns/\Paired (λt (kv:Key×V)=>H t=some (.tup [kV kv.1,kv.2])) (ps.map (·.1)) (br ul):=by
 intro ps ns hn h
 induction h with
 | nil=>exact⟨[],.nil,.nil⟩
 | @cons p n _ _ h0 _ ih=>
  obtain⟨ul,a,b⟩:=ih λm hm=>hn m (aaz _ hm)
  exact⟨(n,.ref p.2)::ul,.cons ⟨rfl,p.2,rfl,by rw[x9 ok (hn n aaR)];exact h0.2.2⟩ a,.cons h0.2.1 b⟩
section
variable {P:Program}{w:World}{K:W.Frag}{mg:Str->Option Value}{base:Heap}{C:Addr}
noncomputable abbrev Lf:List Str:=["_law_m", "_law_literal_here", "_law_under", "_law_name", "_law_more", "_law_one", "_law_other", "_law_found", "_law_at"]
noncomputable abbrev oN:List Str:=["_law_m", "_law_literal_here"]
theorem gb:aK Lf oN (aw wK):=fs
theorem FK{f fN fP:Addr}{fd dN dP:FuncData}(F:aQ K "_law_needed" "_law_needed" wK f fd)(O:iu mg)(CN:cj P w K mg base 1 fN dN "_law_next_literals" ["_law_m"] yo)(CP:uh P w K mg base 1 fP dP "_law_plain" ["_law_literal_here"] wL):mf P w K mg base aZ 2 f fd oN ur:=by
 refine F.Nu gb (λcdv A outer s H vs Q E hr h=>?_)
 obtain⟨m,a1,a2,a3,a4,a5,a6,M,names,l,rfl,hM,ok,fw,hl,kk⟩:=h
 have hu:=eE hr
 refine⟨_,(gy (PS.t (cE 2 gb.nd (aN (bp rfl) (by rfl) O.dict aaQ (aa (b8 (N:=["_law_name"]) (js:=[none]) (te:=(lL (cW (aL 0) (cW (Cm jY) jY)))) (by kernel_rfl) rfl (ba (aD hu (pv 0) au (λ_ _=>rfl))) (λ_ _ _ _ _ _=>(ar (i:=0) (show (["_law_name"]:List Str).Nodup from dk) rfl (Or.inl rfl) (.inr rfl))) (λ_ _ _ _ _ _=>bb) (λ_ _ _ _ _ _=>(bF (aa (pv 0) (aa (cf ai) ai))))) ai))))
  (gy (wo aa6 rfl (ba (a8 CN hr (aa (pv 0) ai))) (cN rfl (aA (ar (i:=3) gb.nd rfl (Or.inl rfl)) (aA (ar (i:=4) gb.nd rfl (Or.inl rfl)) cc)))
   (ue (zS hu (pv 2) (pv 3) (mn CP hr (aa (pv 4) ai)) rfl)))
  (gy (wo aa6 rfl (ba (aD hu (pv 0) au (λ_ _=>rfl))) (cN rfl (aA (ar (i:=3) gb.nd rfl (Or.inl rfl)) (aA (ar (i:=5) gb.nd rfl (Or.inl rfl)) (aA (ar (i:=6) gb.nd rfl (Or.inl rfl)) cc))))
   (ue (zS hu (pv 2) (pv 3) (Nr hX (mn CP hr (aa (pv 5) ai)) (mn CP hr (aa (pv 6) ai))) rfl)))
  (gy (BP (i:=7) gb.nd rfl (by first|exact Or.inl rfl|exact Or.inr rfl) (mn CP hr (aa (pv 1) ai)))
  (gj.t (aj (cE 8 gb.nd ao)
  (aj (yC aa6 (iJ (P8 (pv 8) (ef cy (by rfl) O.len abS (aa (pv 7) ai))))
   (aj (cE 7 gb.nd (az hX (pv 7) (b8 (N:=["_law_name", "_law_found"]) (js:=[none,some 7]) (te:=(aL 0)) (ti:=(iq (fo (qy K true) (aL 0) (aL 1)))) (by kernel_rfl) rfl (ba (aD hu (pv 2) (aF (r:=qw K) bG (pv 7) (pv 8) (λ_ _=>rfl)) (λ_ _=>rfl))) (λ_ _ _ _ _ _=>(ar (i:=0) (show (["_law_name", "_law_found"]:List Str).Nodup from dk) rfl (Or.inl rfl) (.inr rfl))) (λ_ _ _ _ _ _=>(eQ (bh j0 (pv 0) (pv 1) (by with_unfolding_all rfl)))) (λ_ _ _ _ _ _=>(pv 0)))))
   (av (cE 8 gb.nd (az eV (pv 8) ao)))))
  (av (aJ (pv 7)))))))))),?_⟩
 have nd:=ok.nd
 rw[ok.all]at nd
 have aaJ:∀n∈M.switches,n∈names:=λn hn=>by rw[ok.all];exact aae.mpr (.inl (aae.mpr (.inl hn)))
 refine⟨_,rfl,m,.ref a1,rfl,aX.k (k:=.inr "switches") hM.top,a1,rfl,⟨_,aq.of hM.sw⟩,λD hD=>?_⟩
 have nw:∀{H9:Hp}{o:HO},ag H H9->ag H (upd H9 D o):=λs9 c o hc=>by rw[ah (af hc hD)];exact s9 c o hc
 refine gr M.switches.length (λi acc σ H9=>(∃u,σ=[u])/\ag H H9/\∃ps:List (Addr×Addr),acc=(ps.map (·.1)).map V.ref/\Paired (λ(p:Addr×Addr) (n:Str)=>p.2≠D/\H9 p.1=some (.tup [.str n,.ref p.2])/\H9 p.2=some (.lst [])) ps (M.switches.take i)) ⟨⟨none,rfl⟩,nw λ_ _ h=>h,[],rfl,.nil⟩ ae ?_ ?_
 rotate_left
 . rintro i acc σ H9 hi bf ⟨⟨u,rfl⟩,s9,ps,rfl,p9⟩
   have eJ:M.switches[i]?=some M.switches[i]:=aad hi
   have ex:(M.switches.map V.str)[i]?=some (.str M.switches[i]):=by rw[aan,eJ];rfl
   refine⟨⟨_,_,aq.of (s9 _ _ hM.sw),ex⟩,?_⟩
   rintro v H' ⟨rfl,w1⟩
   have z1:=w1 _ (aq.of (s9 _ _ hM.sw))
   rw[ex]at z1
   cases z1
   refine fg ?_
   refine⟨_,rfl,by show 0<=sizeLine;decide,λU hU=>?_⟩
   have s1:ag H' (upd H' U (.lst [])):=ag.ak hU
   have q1:(upd H' U (.lst [])) U=some (.lst []):=ae
   have UD:U≠D:=(af bf hU).symm
   generalize upd H' U (.lst [])=J1 at s1 q1 ⊢
   refine⟨by show 2<=sizeLine;decide,λT hT=>?_⟩
   have s2:ag J1 (upd J1 T (.tup [.str M.switches[i],.ref U])):=ag.ak hT
   have q2:(upd J1 T (.tup [.str M.switches[i],.ref U])) T=some (.tup [.str M.switches[i],.ref U]):=ae
   generalize upd J1 T (.tup [.str M.switches[i],.ref U])=J2 at s2 q2 ⊢
   have lG:=s1.trans s2
   have iM:=lG _ _ bf
   have nt:∀{b:Addr}{o:List V},J2 b=some (.tup o)->b≠D:=λhb e=>by rw[e,iM]at hb;cases hb
   have pl:=p9.length
   rw[aa3]at pl
   have:=fw.n1
   refine⟨_,iM,(by rw[aaa,aaa];exact small (by lia)),cp hi ae ⟨⟨_,rfl⟩,nw λb o hb=>lG _ _ (s9 b o hb),ps++[(T,U)],by rw[aag,aag];rfl,?_⟩⟩
   rw[abL,eJ,ab7]
   refine ab8 (Paired.bj p9 λp g' e=>?_) ?_
   . have e1:=lG _ _ e.2.1
     exact⟨e.1,by rw[ah (nt e1)];exact e1,by rw[ah e.1];exact lG _ _ e.2.2⟩
   . exact⟨UD,by rw[ah (nt q2)];exact q2,by rw[ah UD];exact s2 _ _ q1⟩
 rintro acc σ H1 bf ⟨_,s1,ps,rfl,p1⟩
 rw[abp]at p1
 refine⟨⟨_,aq.of (s1 _ _ hM.sw),by rw[aaa];exact aah _⟩,?_⟩
 obtain⟨ul,kg,pj⟩:=FJ ok (λn hn=>hn) p1
 refine⟨D,ps.map (·.1),br ul,rfl,bf,pj,λU hU=>?_⟩
 rw[show bE [] (br ul)=br ul from iS ul [] (by rw[abV,kg.keys];exact(aav.mp (aav.mp nd).1).1)]
 have s2:ag H1 (upd H1 U (.dK (br ul))):=ag.ak hU
 have q2:(upd H1 U (.dK (br ul))) U=some (.dK (br ul)):=ae
 have UH:H U=none:=same_none s1 hU
 generalize upd H1 U (.dK (br ul))=H2 at s2 q2 ⊢
 have UZ:UT M H2 ul M.switches:=Paired.bj kg λp n ⟨e1,u,e2,e3⟩=>⟨e1,u,e2,s2 _ _ e3⟩
 have gJ:=s1.trans s2
 have iD:=hM.same gJ
 refine⟨_,rfl,m,a1,a2,a3,a4,a5,a6,M,rfl,iD,fw,ok.nxd,λp3 H3 s3 h3=>?_⟩
 obtain⟨t3,Ju,XS⟩:=h3
 have Sj:Paired (λt r=>H3 t=some (.tup (bx (FI M r)))) t3 M.keepers:=ia (F:=λt r=>H3 t=some (.tup (bx r))) (g:=FI M) (ia (F:=λt r=>H3 t=some (.tup r)) XS)
 have U3:=s3 _ _ q2
 have jd:=gJ.trans s3
 have pU:p3≠U:=λe=>by rw[e,U3]at Ju;cases Ju
 have kl:=Sj.length
 refine⟨p3,rfl,⟨_,aq.of Ju⟩,gz (xs:=t3.map V.ref) (λi σ Hi=>∃(v3 v4:Option V) (rQ:List (Str×V)),σ=[some (.ref m),some (.str l),some (.ref U),v3,v4,none,none,none,none]/\aI H3 Hi U/\Hi U=some (.dK (br rQ))/\UT M Hi rQ (M.switches++(M.keepers.map (·.1)).take i)) ⟨none,none,ul,rfl,λ_ _ h _=>h,U3,by rw[adn,abw];exact Paired.bj UZ λp n ⟨e1,u,e2,e3⟩=>⟨e1,u,e2,s3 _ _ e3⟩⟩ (λi σ Hi _ ⟨_,_,_,_,k,_⟩=>aq.of (k _ _ Ju pU)) ?_ ?_⟩
 . rintro i v σ Hi hv ⟨v3,v4,rQ,rfl,ki,Ay,Az⟩
   rw[aan]at hv
   cases ht:t3[i]? with
   | none=>rw[ht]at hv;cases hv
   | some t=>
    rw[ht]at hv
    cases hv
    have yd:i<M.keepers.length:=by have:=(aas.mp ht).1;lia
    have eJ:M.keepers[i]?=some M.keepers[i]:=aad yd
    obtain⟨t',je,eS⟩:=i3 Sj eJ
    rw[ht]at je
    cases je
    generalize Jv:M.keepers[i]=r at eJ eS
    have Sk:r.1∈M.keepers.map (·.1):=aak.mpr ⟨r,aaT eJ,rfl⟩
    have DD:=ki _ _ eS λe=>by rw[e,U3]at eS;cases eS
    have oO:(M.keepers.map (·.1))[i]?=some r.1:=by rw[aan,eJ];rfl
    refine⟨t,_,rfl,aH.of DD,rfl,_,_,rfl,_,_,rfl,rfl,?_⟩
    refine⟨_,rfl,_,names,rfl,ok.Ah (ok.uk Sk),ok.nm,λp J sJ np qp=>?_⟩
    have fresh:r.1∉M.switches++(M.keepers.map (·.1)).take i:=by
     have:=vE (i:=M.switches.length+i) nd (x:=r.1) (by rw[abo,abA (by lia),acC,abt (by rw[aaa];exact yd)];exact oO)
     rw[abo,List.take_append,aa8 (by lia),acC,adx (by rw[aaa];lia)]at this
     exact this
    have HK:=acN Az
    have:=fw.n1
    have:=fw.n2
    refine⟨_,rfl,_,rfl,U,_,rfl,gY.k (k:=.inr r.1) (sJ _ _ Ay) (by unfold br;rw[aaa,HK,aaf,aa3,aaa];exact small (by lia)),?_⟩
    rw[UT.put Az fresh p]
    have kJ:aI J (upd J U (.dK (br (rQ++[(r.1,.ref p)])))) U:=λb o hb hn=>by rw[ah hn];exact hb
    refine⟨_,_,rQ++[(r.1,.ref p)],rfl,λb o hb hn=>kJ _ _ (sJ _ _ (ki _ _ hb hn)) hn,ae,?_⟩
    rw[abL,oO,ab7,← abo]
    refine ab8 (UT.keep (Paired.bj Az λp n ⟨e1,u,e2,e3⟩=>⟨e1,u,e2,sJ _ _ e3⟩) kJ (sJ _ _ Ay)) ⟨rfl,p,rfl,?_⟩
    rw[B0 ok Sk]
    exact kJ _ _ qp λe=>by rw[e,sJ _ _ Ay]at qp;cases qp
 rintro σ H4 ⟨v3,v4,XT,rfl,k4,U4,Sl⟩
 rw[aaa,kl,aa8 (by rw[aaa];exact aah _)]at Sl
 have kh:ag H H4:=λb o hb=>k4 _ _ (jd _ _ hb) (af hb UH)
 have oF:=hM.same kh
 obtain⟨t5,Jw,XU⟩:=id oF.gt
 have Sm:Paired (λt r=>H4 t=some (.tup (dE r))) t5 M.gates:=iU XU
 have gl:=Sm.length
 have XW:a3≠U:=λe=>by rw[e,U4]at Jw;cases Jw
 refine⟨_,rfl,m,.ref a3,rfl,aX.k (k:=.inr "gates") oF.top,a3,rfl,⟨_,aq.of Jw⟩,gz (xs:=t5.map V.ref) (λi σ Hi=>∃(v3 v4 v5 v6:Option V) (rQ:List (Str×V)),σ=[some (.ref m),some (.str l),some (.ref U),v3,v4,v5,v6,none,none]/\aI H4 Hi U/\Hi U=some (.dK (br rQ))/\UT M Hi rQ (M.switches++M.keepers.map (·.1)++(M.gates.map (·.1)).take i)) ⟨_,_,none,none,XT,rfl,λ_ _ h _=>h,U4,by rw[adn,abw];exact Sl⟩ (λi σ Hi _ ⟨_,_,_,_,_,_,k,_⟩=>aq.of (k _ _ Jw XW)) ?_ ?_⟩
 . rintro i v σ Hi hv ⟨v3,v4,v5,v6,rQ,rfl,ki,Ay,Az⟩
   rw[aan]at hv
   cases ht:t5[i]? with
   | none=>rw[ht]at hv;cases hv
   | some t=>
    rw[ht]at hv
    cases hv
    have yd:i<M.gates.length:=by have:=(aas.mp ht).1;lia
    have eJ:M.gates[i]?=some M.gates[i]:=aad yd
    obtain⟨t',je,eS⟩:=i3 Sm eJ
    rw[ht]at je
    cases je
    generalize Jv:M.gates[i]=r at eJ eS
    have jv:r∈M.gates:=aaT eJ
    obtain⟨g1,g2⟩:=ok.Ag jv
    have DD:=ki _ _ eS λe=>by rw[e,U4]at eS;cases eS
    have oO:(M.gates.map (·.1))[i]?=some r.1:=by rw[aan,eJ];rfl
    refine⟨t,_,rfl,aH.of DD,rfl,_,_,rfl,_,_,rfl,_,_,rfl,rfl,?_⟩
    refine⟨_,rfl,_,names,rfl,g1,ok.nm,λp1 J1 w1 np1 XX=>⟨_,rfl,_,names,rfl,g2,ok.nm,λp2 J2 w2 np2 XY=>?_⟩⟩
    have l1:∀z,(cg z).length<=1:=λz=>by unfold cg;split <;> simp
    refine⟨p1,p2,_,_,rfl,rfl,w2 _ _ XX,XY,(by simp only[aaa];have:=l1 r.2.1;have:=l1 r.2.2;exact iL (by lia)),λp hp=>?_⟩
    rw[← aag]
    have sJ:ag Hi (upd J2 p (.lst ((cg r.2.1++cg r.2.2).map V.str))):=(w1.trans w2).trans (ag.ak hp)
    have qp:(upd J2 p (.lst ((cg r.2.1++cg r.2.2).map V.str))) p=some (.lst ((cg r.2.1++cg r.2.2).map V.str)):=ae
    generalize upd J2 p (.lst ((cg r.2.1++cg r.2.2).map V.str))=J at sJ qp ⊢
    have fresh:r.1∉M.switches++M.keepers.map (·.1)++(M.gates.map (·.1)).take i:=by
     have:=vE (i:=(M.switches++M.keepers.map (·.1)).length+i) nd (x:=r.1) (by rw[abA (by lia),acC];exact oO)
     rw[List.take_append,aa8 (by lia),acC]at this
     exact this
    have HK:=acN Az
    have:=fw.n1
    have:=fw.n2
    have:=fw.n3
    refine⟨_,rfl,_,rfl,U,_,rfl,gY.k (k:=.inr r.1) (sJ _ _ Ay) (by unfold br;rw[aaa,HK];simp only[aaf,aa3,aaa];exact small (by lia)),?_⟩
    rw[UT.put Az fresh p]
    have kJ:aI J (upd J U (.dK (br (rQ++[(r.1,.ref p)])))) U:=λb o hb hn=>by rw[ah hn];exact hb
    refine⟨_,_,_,_,rQ++[(r.1,.ref p)],rfl,λb o hb hn=>kJ _ _ (sJ _ _ (ki _ _ hb hn)) hn,ae,?_⟩
    rw[abL,oO,ab7,← abo]
    refine ab8 (UT.keep (Paired.bj Az λp n ⟨e1,u,e2,e3⟩=>⟨e1,u,e2,sJ _ _ e3⟩) kJ (sJ _ _ Ay)) ⟨rfl,p,rfl,?_⟩
    rw[B1 ok jv]
    exact kJ _ _ qp λe=>by rw[e,sJ _ _ Ay]at qp;cases qp
 rintro σ H5 ⟨Sn,Np,Je,XZ,X0,rfl,k5,U5,So⟩
 rw[aaa,gl,aa8 (by rw[aaa];exact aah _),← ok.all]at So
 have nu:ag H H5:=λb o hb=>k5 _ _ (kh _ _ hb) (af hb UH)
 refine⟨_,rfl,l,names,rfl,hl,ok.nm,λp6 H6 s6 Xy q6=>?_⟩
 have U6:=s6 _ _ U5
 have X1:UT M H6 X0 names:=Paired.bj So λp n ⟨e1,u,e2,e3⟩=>⟨e1,u,e2,s6 _ _ e3⟩
 have qe:=nu.trans s6
 have nl:names.length<=88:=by rw[ok.all];simp only[aaf,aaa];have:=fw.n1;have:=fw.n2;have:=fw.n3;lia
 have X2:∀fs,ka names fs<=names.length:=λfs=>aa7 _ _
 have nm1:(cg l).length<=1:=by unfold cg;split <;> simp
 refine⟨λmm σ Hi=>∃(v3 v4 v5 v6:Option V) (p:Addr) (fs:List Str) (k:Nat),σ=[some (.ref m),some (.str l),some (.ref U),v3,v4,v5,v6,some (.ref p),some (.int (k:Int))]/\mm=2*ka names fs+(fs.length-k)/\ag H6 Hi/\Hi p=some (.lst (fs.map V.str))/\Ax M l fs k/\k<=fs.length/\2*ka names fs+fs.length<=2*names.length+1,
  ⟨_,_,_,_,_,p6,cg l,0,rfl,rfl,λ_ _ h=>h,q6,⟨λn hn=>.base hn,λn hn=>hn,λi a hi=>absurd hi (Nat.not_lt_zero _)⟩,abM _,by have:=X2 (cg l);lia⟩,?_⟩
 rintro mm σ Hi ⟨v3,v4,v5,v6,p,fs,k,rfl,rfl,si,hp,hI,hk,hb⟩
 refine⟨_,rfl,_,rfl,p,_,rfl,.inl (aq.of hp),_,_,rfl,rfl,_,rfl,?_⟩
 rw[aaa]
 show (if decide ((k:Int)<(fs.length:Int))=true then _ else _)
 by_cases RQ:fs.length<=k
 . rw[aaW (by lia)]
   exact bQ ⟨_,rfl,kk p fs Hi (qe.trans si) hp (hI.done (by lia))⟩
 have c8:k<fs.length:=by lia
 rw[aaU (by lia)]
 refine fJ ⟨λbo H'=>∃(v3 v4 v5 v6:Option V) (p:Addr) (fs':List Str) (k':Nat),bo=[some (.ref m),some (.str l),some (.ref U),v3,v4,v5,v6,some (.ref p),some (.int (k':Int))]/\2*ka names fs'+(fs'.length-k')<2*ka names fs+(fs.length-k)/\ag H6 H'/\H' p=some (.lst (fs'.map V.str))/\Ax M l fs' k'/\k'<=fs'.length/\2*ka names fs'+fs'.length<=2*names.length+1,λbo H' h=>?_,?_⟩
 . obtain⟨v3,v4,v5,v6,p,fs',k',e1,e2,e3⟩:=h
   exact⟨_,e2,v3,v4,v5,v6,p,fs',k',e1,rfl,e3⟩
 have Jx:fs[k]?=some fs[k]:=aad c8
 generalize ha:fs[k]=a at Jx
 have Sq:a∈names:=(hI.f a (aaT Jx)).BM ok hl
 obtain⟨u,eu,Fn⟩:=UT.look (M:=M) (H:=Hi) (Paired.bj X1 λp n ⟨e1,u,e2,e3⟩=>⟨e1,u,e2,si _ _ e3⟩) Sq
 have mH:gn (fs.map V.str) (k:Int)=some (.str a):=fi (by rw[aan,Jx];rfl)
 refine⟨_,rfl,_,rfl,_,rfl,_,rfl,p,_,_,_,rfl,rfl,aq.of hp,mH,U,.ref u,rfl,.inl ⟨_,.inr a,.inl (si _ _ U6),rfl,eu.symm⟩,u,rfl,⟨_,aq.of Fn⟩,λE hE=>?_⟩
 have Sr:=N8 ok Sq
 refine i4 (xs:=j9 M a) (kp:=λn=>!decide (n∈fs)) (y:=λn=>.inl (.str n)) V.str (by lia) Fn hE (λn hn H9 s9=>?_) λH7 vs s7 NM p7=>?_
 . intro Z Y hZ hY
   have fl:(fs.map V.str).all jx=true:=by rw[abK];intro v hv;obtain⟨z,_,rfl⟩:=aak.mp hv;rfl
   refine⟨_,rfl,_,rfl,p,_,rfl,.inl (aq.of (s9 _ _ hp)),rfl,fl,_,rfl,?_⟩
   show if (!g0 (.str n) (fs.map V.str))=true then _ else _
   rw[mT]
   cases hs:(!decide (n∈fs)) with
   | false=>exact bQ (hZ hs _ λ_ _ h=>h)
   | true=>exact fJ ⟨_,rfl,hY hs _ _ (λ_ _ h=>h) rfl⟩
 have ev:=fU p7
 subst ev
 have Mg:((j9 M a).filter λn=>!decide (n∈fs)).length<=2:=aao (aa7 _ _) Sr
 refine⟨p,E,_,_,rfl,rfl,s7 _ _ hp,NM,(by simp only[aaa];exact iL (by lia)),λp' yO=>?_⟩
 rw[← aag]
 have nlk:=HJ (names:=names) (fs:=fs) (us:=j9 M a) Sr λn hn=>by
  obtain⟨z,hz,q⟩:=Aw.mp hn
  exact pO (ok.lits hz) ok.nm q
 refine⟨_,rfl,_,_,rfl,rfl,_,_,_,_,p',fs++(j9 M a).filter λn=>!decide (n∈fs),k+1,by rw[Int.natCast_add];rfl,?_,(si.trans s7).trans (ag.ak yO),ae,hI.next Jx,?_,?_⟩
 . rw[aaf];lia
 . rw[aaf];lia
 . rw[aaf];lia
end
noncomputable abbrev HL:Stmt:=top 38
theorem tJ{α:Type}{H:Hp}{g:α->List V}{p:α->Bool} : ∀{ts:List Addr}{l:List α},Paired (λt x=>H t=some (.tup (g x))) ts l->Paired (λt x=>H t=some (.tup (g x))) (((ts.zip l).filter λz=>p z.2).map (·.1)) (l.filter p)
 | _,_,.nil=>.nil
 | t::ts,x::l,.cons h0 r=>by
  have ih:=tJ (p:=p) r
  rw[abX]
  by_cases e:p x=true
  . rw[aa2 (by exact e),aa2 e]
    exact .cons h0 ih
  . rw[aa5 (by exact e),aa5 e]
    exact ih
theorem aE.list{K:W.Frag}{H:Hp}{a:Addr}{rs:List (List V)}(h:aE H a rs):∃xs,aq K H a xs:=let ⟨_,h1,_⟩:=h; ⟨_,aq.of h1⟩
theorem oP{A:Prop}{C D:Addr->Prop}(h:∀a,C a->A/\D a)(a0:A):A/\∀a,C a->D a:=⟨a0,λa c=>(h a c).2⟩
theorem rS{α:Type}{K:W.Frag}{D a:Addr}{rows:List α}{g:α->List V}{p:α->Bool}{ti:TT}{ju:St}{Q:Hp->Prop}{H:Hp}(ht:aE H a (rows.map g)) (hl:rows.length<=1000) (hD:H D=none)
 (he:∀t,∀r∈rows,∀H9,ag H H9->H9 t=some (.tup (g r))->∀R:Bool->Hp->Prop,R (p r) H9->ti (some (.ref t)::ju) H9 R)
 (fin:∀H',ag H H'->aE H' D ((rows.filter p).map g)->Q H'):(∃xs,aq K H a xs)/\∃W:Nat->Nat->St->Hp->Prop,(∃m,W 0 m (none::ju) (upd H D (.lst [])))/\qC D (bO 0) ti (aL 0) (uF K a) W Q:=by
 obtain⟨ts,h1,h2⟩:=ht
 have h3:=iU h2
 have e1:(ts.map V.ref)=((ts.zip rows).map λz=>V.ref z.1):=by
  rw[show ((ts.zip rows).map λz=>V.ref z.1)=((ts.zip rows).map (·.1)).map V.ref from by rw[aa1];rfl,ac0 (ab5 h3.length)]
 refine⟨⟨_,aq.of h1⟩,i4 (xs:=ts.zip rows) (kp:=λz=>p z.2) (y:=λz=>.inl (.ref z.1)) (λz=>V.ref z.1) (by rw[abn];exact aao (acE _ _) (by lia)) (by rw[h1,e1]) hD (λz hz H9 s9=>?_) λH' vs s' bf p'=>?_⟩
 . intro Z Y hZ hY
   refine he z.1 z.2 (acq hz).2 H9 s9 (s9 _ _ (i6 h3 z hz)) _ ?_
   show (if p z.2=true then _ else _)
   cases e:p z.2 with
   | false=>exact bQ (hZ e _ λ_ _ h=>h)
   | true=>exact fJ ⟨_,rfl,hY e _ _ (λ_ _ h=>h) rfl⟩
 . have ev:=fU p'
   rw[ev]at bf
   refine fin H' s' ⟨((ts.zip rows).filter λz=>p z.2).map (·.1),by rw[bf,aa1];rfl,cv (F:=λt r=>H' t=some (.tup r)) (Paired.bj (tJ h3) λt r e=>s' _ _ e)⟩
noncomputable def DF:Sp:=λvs H Q _=>∃(m a1 a2 a3 a4 a5 a6:Addr) (M:ax) (names:List Str) (wish:Str),vs=[.ref m,.str wish,.str (gT M wish)]/\cb H m M a1 a2 a3 a4 a5 a6/\aG M names/\j8 M/\wish∈(M.nevers++M.somes).map (·.1)/\
 ∀(need:Str->Bool) (tp dd nn b1 b2 b3 b4 b5 b6:Addr) (H':Hp),jh M wish need->ag H H'->H' tp=some (.tup [.ref dd,.ref nn])->cb H' dd (ay M need wish) b1 b2 b3 b4 b5 b6->aE H' nn ((bg M).map λn=>[.str n,vC need n])->Q (.ref tp) H'
section
variable {P:Program}{w:World}{K:W.Frag}{mg:Str->Option Value}{base:Heap}{C:Addr}
noncomputable abbrev U0:List Str:=["_law_m", "_law_wish", "_law_literal_here", "_law_needed_here", "_law_due_here", "_law_field"]
noncomputable abbrev AA:List Str:=["_law_m", "_law_wish", "_law_literal_here"]
theorem yp:aK U0 AA (aw HL):=fs
theorem Oa{f fN fO:Addr}{fd dN dO:FuncData}(F:aQ K "_law_due" "_law_due" HL f fd)(CN:uh P w K mg base 2 fN dN "_law_needed" oN ur)(CO:cj P w K mg base 1 fO dO "_law_order" ["_law_m"] sF):mf P w K mg base aZ 3 f fd AA DF:=by
 refine F.Nu yp (λcdv A outer s H vs Q E hr h=>?_)
 obtain⟨m,a1,a2,a3,a4,a5,a6,M,names,wish,rfl,hM,ok,fw,hw,kk⟩:=h
 have hu:=eE hr
 have eC:aW 1 (A.deeper _):=hr.mono (by decide)
 refine⟨_,(gy (BP (i:=3) yp.nd rfl (by first|exact Or.inl rfl|exact Or.inr rfl) (mn CN hr (aa (pv 0) (aa (pv 2) ai))))
  (gj.t (aj (cE 4 yp.nd (sh (eh au (b8 (N:=["_law_name", "_law_needed_here"]) (js:=[none,some 3]) (te:=(aL 0)) (ti:=(iq (fo (qy K false) (aL 0) (aL 1)))) (by kernel_rfl) rfl (ba (aD hu (pv 0) au (λ_ _=>rfl))) (λ_ _ _ _ _ _=>(ar (i:=0) (show (["_law_name", "_law_needed_here"]:List Str).Nodup from dk) rfl (Or.inl rfl) (.inr rfl))) (λ_ _ _ _ _ _=>(eQ (bh gp (pv 0) (pv 1) (by with_unfolding_all rfl)))) (λ_ _ _ _ _ _=>(pv 0))) sf) rfl rfl (by simp) (by decide)))
  (aj (gZ hu (pv 4) au (b8 (N:=["_law_one", "_law_needed_here"]) (js:=[none,some 3]) (te:=(aL 0)) (ti:=(iq (fo (qy K false) (fo (ck K) (aL 0) (tC (.int 0))) (aL 1)))) (by kernel_rfl) rfl (ba (aD hu (pv 0) au (λ_ _=>rfl))) (λ_ _ _ _ _ _=>(ar (i:=0) (show (["_law_one", "_law_needed_here"]:List Str).Nodup from dk) rfl (Or.inl rfl) (.inr rfl))) (λ_ _ _ _ _ _=>(eQ (bh gp (aF (r:=ck K) bT (pv 0) ao (λ_ _=>rfl)) (pv 1) (by with_unfolding_all rfl)))) (λ_ _ _ _ _ _=>(pv 0))) rfl)
  (aj (gZ hu (pv 4) au (b8 (N:=["_law_one", "_law_needed_here"]) (js:=[none,some 3]) (te:=(aL 0)) (ti:=(iq (fo (qy K false) (fo (ck K) (aL 0) (tC (.int 0))) (aL 1)))) (by kernel_rfl) rfl (ba (aD hu (pv 0) au (λ_ _=>rfl))) (λ_ _ _ _ _ _=>(ar (i:=0) (show (["_law_one", "_law_needed_here"]:List Str).Nodup from dk) rfl (Or.inl rfl) (.inr rfl))) (λ_ _ _ _ _ _=>(eQ (bh gp (aF (r:=ck K) bT (pv 0) ao (λ_ _=>rfl)) (pv 1) (by with_unfolding_all rfl)))) (λ_ _ _ _ _ _=>(pv 0))) rfl)
  (aj (gZ hu (pv 4) au (b8 (N:=["_law_one", "_law_needed_here"]) (js:=[none,some 3]) (te:=(aL 0)) (ti:=(iq (fo (qy K false) (fo (ck K) (aL 0) (tC (.int 0))) (aL 1)))) (by kernel_rfl) rfl (ba (aD hu (pv 0) au (λ_ _=>rfl))) (λ_ _ _ _ _ _=>(ar (i:=0) (show (["_law_one", "_law_needed_here"]:List Str).Nodup from dk) rfl (Or.inl rfl) (.inr rfl))) (λ_ _ _ _ _ _=>(eQ (bh gp (aF (r:=ck K) bT (pv 0) ao (λ_ _=>rfl)) (pv 1) (by with_unfolding_all rfl)))) (λ_ _ _ _ _ _=>(pv 0))) rfl)
  (aj (dU aa6 rfl (ba (cf (aa au (aa au ai)))) (ar (i:=5) yp.nd rfl (Or.inl rfl))
   (av (gZ hu (pv 4) (pv 5) (b8 (N:=["_law_one", "_law_wish"]) (js:=[none,some 1]) (te:=(aL 0)) (ti:=(iq (fo yD (fo (ck K) (aL 0) (tC (.int 0))) (aL 1)))) (by kernel_rfl) rfl (ba (aD hu (pv 0) (pv 5) (λ_ _=>rfl))) (λ_ _ _ _ _ _=>(ar (i:=0) (show (["_law_one", "_law_wish"]:List Str).Nodup from dk) rfl (Or.inl rfl) (.inr rfl))) (λ_ _ _ _ _ _=>(eQ (bh kQ (aF (r:=ck K) bT (pv 0) ao (λ_ _=>rfl)) (pv 1) (cQ _)))) (λ_ _ _ _ _ _=>(pv 0))) rfl)))
  (av (aJ (bF (aa (pv 4) (aa (b8 (N:=["_law_name", "_law_needed_here"]) (js:=[none,some 3]) (te:=(lL (cW (aL 0) (cW (LA (iq (fo (qy K false) (aL 0) (aL 1))) (aL 0) (tC .aM)) jY)))) (by kernel_rfl) rfl (ba (a8 CO eC (aa (pv 0) ai))) (λ_ _ _ _ _ _=>(ar (i:=0) (show (["_law_name", "_law_needed_here"]:List Str).Nodup from dk) rfl (Or.inl rfl) (.inr rfl))) (λ_ _ _ _ _ _=>bb) (λ_ _ _ _ _ _=>(bF (aa (pv 0) (aa (tO (bh gp (pv 0) (pv 1) (by with_unfolding_all rfl)) (pv 0) uB) ai))))) ai)))))))))))),?_⟩
 obtain⟨hl,_,_⟩:=oI ok hw
 refine⟨_,rfl,_,rfl,m,a1,a2,a3,a4,a5,a6,M,names,_,rfl,hM,ok,fw,hl,λp fs H1 s1 q1 lA=>?_⟩
 have hN:jh M wish λn=>decide (n∈fs):=λn=>by rw[abb];exact lA n
 generalize jc:(λn=>decide (n∈fs))=need at hN
 have Al:∀n,decide (n∈fs)=need n:=λn=>congrFun jc n
 have fl:(fs.map V.str).all jx=true:=by rw[abK];intro v hv;obtain⟨z,_,rfl⟩:=aak.mp hv;rfl
 have eK:=hM.same s1
 intro d hd
 have s2:ag H1 (upd H1 d (.dK [])):=ag.ak hd
 have q2:(upd H1 d (.dK [])) d=some (.dK []):=ae
 generalize upd H1 d (.dK [])=H2 at s2 q2 ⊢
 have iD:=eK.same s2
 refine⟨_,rfl,m,.ref a1,rfl,aX.k (k:=.inr "switches") iD.top,a1,rfl,⟨_,aq.of iD.sw⟩,λb1 X3=>?_⟩
 refine i4 (xs:=M.switches) (kp:=need) (y:=λn=>.inl (.str n)) V.str (by have:=fw.n1;lia) iD.sw X3 (λn hn H9 s9=>?_) λH3 vs s3 ly p3=>?_
 . intro Z Y hZ hY
   refine⟨_,rfl,_,rfl,p,_,rfl,.inl (aq.of (s9 _ _ (s2 _ _ q1))),rfl,fl,_,rfl,?_⟩
   show if g0 (.str n) (fs.map V.str)=true then _ else _
   rw[mT,Al]
   cases hs:need n with
   | false=>exact bQ (hZ hs _ λ_ _ h=>h)
   | true=>exact fJ ⟨_,rfl,hY hs _ _ (λ_ _ h=>h) rfl⟩
 have ev:=fU p3
 subst ev
 have d3:=s3 _ _ q2
 refine⟨d3,[(.inr "switches",.ref b1)],rfl,(by show 1<=15;decide),?_⟩
 rw[show bE [] [((.inr "switches" : Key),V.ref b1)]=[((.inr "switches" : Key),V.ref b1)] from rfl]
 have k4:aI H3 (upd H3 d (.dK [((.inr "switches" : Key),V.ref b1)])) d:=λb o hb hn=>by rw[ah hn];exact hb
 have q4:(upd H3 d (.dK [((.inr "switches" : Key),V.ref b1)])) d=some (.dK [((.inr "switches" : Key),V.ref b1)]):=ae
 generalize upd H3 d (.dK [((.inr "switches" : Key),V.ref b1)])=H4 at k4 q4 ⊢
 have tH:ag H1 H4:=λb o hb=>k4 _ _ (s3 _ _ (s2 _ _ hb)) (af hb hd)
 have As:H4 b1=some (.lst ((M.switches.filter need).map V.str)):=k4 _ _ ly λe=>by rw[e,d3]at ly;cases ly
 have oF:=eK.same tH
 have Ob:∀{t:Addr}{n:Str}{r:List V}{H9:Hp}{ju:St}{R:Bool->Hp->Prop},ag H1 H9->H9 t=some (.tup (.str n::r))->R (need n) H9->iq (fo (qy K false) (fo (ck K) (aL 0) (tC (.int 0))) (aL 1)) (some (.ref t)::some (.ref p)::ju) H9 R:=λ{t n r H9 ju R} s9 ht hR=>by
  refine⟨_,rfl,t,_,0,_,rfl,rfl,aH.of ht,iR,_,rfl,p,_,rfl,.inl (aq.of (s9 _ _ q1)),rfl,fl,_,rfl,?_⟩
  show R (g0 (.str n) (fs.map V.str)) H9
  rw[mT,Al]
  exact hR
 refine⟨_,rfl,m,.ref a2,rfl,aX.k (k:=.inr "keepers") oF.top,a2,rfl,?_⟩
 refine oP (λb2 zg=>rS (p:=λr=>need r.1) oF.kp (by have:=fw.n2;lia) zg (λt r lX H9 s9 ht R hR=>Ob (λb o hb=>s9 _ _ (tH _ _ hb)) ht hR) λH5 s5 eW=>?_) (id oF.kp).list
 refine⟨_,rfl,d,_,rfl,gY.k (k:=.inr "keepers") (s5 _ _ q4) (by show 1<sizeLine;decide),?_⟩
 have k6:aI H5 (upd H5 d (.dK (putK [((.inr "switches" : Key),V.ref b1)] (.inr "keepers") (.ref b2)))) d:=λb o hb hn=>by rw[ah hn];exact hb
 have q6:(upd H5 d (.dK (putK [((.inr "switches" : Key),V.ref b1)] (.inr "keepers") (.ref b2)))) d=some (.dK [((.inr "switches" : Key),V.ref b1),(.inr "keepers",.ref b2)]):=ae
 generalize upd H5 d (.dK (putK [((.inr "switches" : Key),V.ref b1)] (.inr "keepers") (.ref b2)))=H6 at k6 q6 ⊢
 have d5:=s5 _ _ q4
 have Oc:ag H1 H6:=λb o hb=>k6 _ _ (s5 _ _ (tH _ _ hb)) (af hb hd)
 have xB:=eW.eI k6 d5
 have Od:H6 b1=some (.lst ((M.switches.filter need).map V.str)):=k6 _ _ (s5 _ _ As) λe=>by rw[e,q4]at As;cases As
 have lY:=eK.same Oc
 refine⟨_,rfl,m,.ref a3,rfl,aX.k (k:=.inr "gates") lY.top,a3,rfl,?_⟩
 refine oP (λb3 My=>rS (p:=λr=>need r.1) lY.gt (by have:=fw.n3;lia) My (λt r lX H9 s9 ht R hR=>Ob (λb o hb=>s9 _ _ (Oc _ _ hb)) ht hR) λH7 s7 X4=>?_) (id lY.gt).list
 refine⟨_,rfl,d,_,rfl,gY.k (k:=.inr "gates") (s7 _ _ q6) (by show 2<sizeLine;decide),?_⟩
 have k8:aI H7 (upd H7 d (.dK (putK [((.inr "switches" : Key),V.ref b1),(.inr "keepers",.ref b2)] (.inr "gates") (.ref b3)))) d:=λb o hb hn=>by rw[ah hn];exact hb
 have q8:(upd H7 d (.dK (putK [((.inr "switches" : Key),V.ref b1),(.inr "keepers",.ref b2)] (.inr "gates") (.ref b3)))) d=some (.dK [((.inr "switches" : Key),V.ref b1),(.inr "keepers",.ref b2),(.inr "gates",.ref b3)]):=ae
 generalize upd H7 d (.dK (putK [((.inr "switches" : Key),V.ref b1),(.inr "keepers",.ref b2)] (.inr "gates") (.ref b3)))=H8 at k8 q8 ⊢
 have d7:=s7 _ _ q6
 have Oe:ag H1 H8:=λb o hb=>k8 _ _ (s7 _ _ (Oc _ _ hb)) (af hb hd)
 have BS:=(xB.same s7).eI k8 d7
 have X5:=X4.eI k8 d7
 have Of:H8 b1=some (.lst ((M.switches.filter need).map V.str)):=k8 _ _ (s7 _ _ Od) λe=>by rw[e,q6]at Od;cases Od
 have Og:=eK.same Oe
 refine⟨_,rfl,m,.ref a4,rfl,aX.k (k:=.inr "nexts") Og.top,a4,rfl,?_⟩
 refine oP (λb4 Mz=>rS (p:=λr=>need r.1) Og.nx (by have:=fw.n4;lia) Mz (λt r lX H9 s9 ht R hR=>Ob (λb o hb=>s9 _ _ (Oe _ _ hb)) ht hR) λH9 s9 X6=>?_) (id Og.nx).list
 refine⟨_,rfl,d,_,rfl,gY.k (k:=.inr "nexts") (s9 _ _ q8) (by show 3<sizeLine;decide),?_⟩
 have B2:aI H9 (upd H9 d (.dK (putK [((.inr "switches" : Key),V.ref b1),(.inr "keepers",.ref b2),(.inr "gates",.ref b3)] (.inr "nexts") (.ref b4)))) d:=λb o hb hn=>by rw[ah hn];exact hb
 have FF:(upd H9 d (.dK (putK [((.inr "switches" : Key),V.ref b1),(.inr "keepers",.ref b2),(.inr "gates",.ref b3)] (.inr "nexts") (.ref b4)))) d=some (.dK [((.inr "switches" : Key),V.ref b1),(.inr "keepers",.ref b2),(.inr "gates",.ref b3),(.inr "nexts",.ref b4)]):=ae
 generalize upd H9 d (.dK (putK [((.inr "switches" : Key),V.ref b1),(.inr "keepers",.ref b2),(.inr "gates",.ref b3)] (.inr "nexts") (.ref b4)))=J at B2 FF ⊢
 have d9:=s9 _ _ q8
 have X7:ag H1 J:=λb o hb=>B2 _ _ (s9 _ _ (Oe _ _ hb)) (af hb hd)
 have X8:=(BS.same s9).eI B2 d9
 have X9:=(X5.same s9).eI B2 d9
 have Ya:=X6.eI B2 d9
 have Yb:J b1=some (.lst ((M.switches.filter need).map V.str)):=B2 _ _ (s9 _ _ Of) λe=>by rw[e,q8]at Of;cases Of
 refine⟨by show 2<=sizeLine;decide,λL hL=>?_⟩
 have qD:ag J (upd J L (.lst [.str "nevers",.str "somes"])):=ag.ak hL
 have FN:(upd J L (.lst [.str "nevers",.str "somes"])) L=some (.lst [.str "nevers",.str "somes"]):=ae
 generalize upd J L (.lst [.str "nevers",.str "somes"])=J1 at qD FN ⊢
 have B3:=qD _ _ FF
 have Oh:=X7.trans qD
 have tw:∀{t:Addr}{n:Str}{r:List V}{H9:Hp}{ju:St}{R:Bool->Hp->Prop},H9 t=some (.tup (.str n::r))->R (decide (n=wish)) H9->iq (fo yD (fo (ck K) (aL 0) (tC (.int 0))) (aL 1)) (some (.ref t)::some (.str wish)::ju) H9 R:=λ{t n r H9 ju R} ht hR=>by
  refine⟨_,rfl,t,_,0,_,rfl,rfl,aH.of ht,iR,_,rfl,rfl,_,rfl,?_⟩
  show R (decide (V.str n=V.str wish)) H9
  rw[show decide (V.str n=V.str wish)=decide (n=wish) from by by_cases e:n=wish <;> simp[e]]
  exact hR
 refine⟨L,rfl,⟨_,aq.of FN⟩,gz (xs:=[.str "nevers",.str "somes"]) (λi σ Hi=>∃u,σ=[some (.ref m),some (.str wish),some (.str (gT M wish)),some (.ref p),some (.ref d),u]/\aI J1 Hi d/\
  ((i=0/\Hi d=some (.dK [((.inr "switches" : Key),V.ref b1),(.inr "keepers",.ref b2),(.inr "gates",.ref b3),(.inr "nexts",.ref b4)]))\/
   (i=1/\∃b5,Hi d=some (.dK [((.inr "switches" : Key),V.ref b1),(.inr "keepers",.ref b2),(.inr "gates",.ref b3),(.inr "nexts",.ref b4),(.inr "nevers",.ref b5)])/\aE Hi b5 ((M.nevers.filter λr=>decide (r.1=wish)).map bx))\/
   (i=2/\∃b5 b6,Hi d=some (.dK (h9 b1 b2 b3 b4 b5 b6))/\aE Hi b5 ((M.nevers.filter λr=>decide (r.1=wish)).map bx)/\aE Hi b6 ((M.somes.filter λr=>decide (r.1=wish)).map bx)))) ⟨none,rfl,λ_ _ h _=>h,.inl ⟨rfl,B3⟩⟩ (λi σ Hi _ ⟨_,_,k,_⟩=>aq.of (k _ _ FN λe=>by rw[e,B3]at FN;cases FN)) ?_ ?_⟩
 . rintro i v σ Hi hv ⟨u,rfl,ki,hi⟩
   have kH:ag H1 Hi:=λb o hb=>ki _ _ (Oh _ _ hb) (af hb hd)
   have tK:=eK.same kH
   rcases hi with⟨rfl,di⟩|⟨rfl,b5,di,p5⟩|⟨rfl,_⟩
   . cases hv
     refine⟨_,rfl,_,rfl,m,.ref a5,rfl,aX.k (k:=.inr "nevers") tK.top,a5,rfl,?_⟩
     refine oP (λb5 Bx=>rS (p:=λr=>decide (r.1=wish)) tK.nv (by have:=fw.n5;lia) Bx (λt r lX H9 s9 ht R hR=>tw ht hR) λG sG Yc=>?_) (id tK.nv).list
     refine⟨_,rfl,_,rfl,d,_,rfl,gY.k (k:=.inr "nevers") (sG _ _ di) (by show 4<sizeLine;decide),?_⟩
     have kG:aI G (upd G d (.dK (putK [((.inr "switches" : Key),V.ref b1),(.inr "keepers",.ref b2),(.inr "gates",.ref b3),(.inr "nexts",.ref b4)] (.inr "nevers") (.ref b5)))) d:=λb o hb hn=>by rw[ah hn];exact hb
     exact⟨_,rfl,λb o hb hn=>kG _ _ (sG _ _ (ki _ _ hb hn)) hn,.inr (.inl ⟨rfl,b5,ae,Yc.eI kG (sG _ _ di)⟩)⟩
   . cases hv
     refine⟨_,rfl,_,rfl,m,.ref a6,rfl,aX.k (k:=.inr "somes") tK.top,a6,rfl,?_⟩
     refine oP (λb6 Yd=>rS (p:=λr=>decide (r.1=wish)) tK.sm (by have:=fw.n6;lia) Yd (λt r lX H9 s9 ht R hR=>tw ht hR) λG sG Ye=>?_) (id tK.sm).list
     refine⟨_,rfl,_,rfl,d,_,rfl,gY.k (k:=.inr "somes") (sG _ _ di) (by show 5<sizeLine;decide),?_⟩
     have kG:aI G (upd G d (.dK (putK [((.inr "switches" : Key),V.ref b1),(.inr "keepers",.ref b2),(.inr "gates",.ref b3),(.inr "nexts",.ref b4),(.inr "nevers",.ref b5)] (.inr "somes") (.ref b6)))) d:=λb o hb hn=>by rw[ah hn];exact hb
     exact⟨_,rfl,λb o hb hn=>kG _ _ (sG _ _ (ki _ _ hb hn)) hn,.inr (.inr ⟨rfl,b5,b6,ae,(p5.same sG).eI kG (sG _ _ di),Ye.eI kG (sG _ _ di)⟩)⟩
   . cases hv
 rintro σ J2 ⟨u,rfl,k2,hi⟩
 rcases hi with⟨e,_⟩|⟨e,_⟩|⟨_,b5,b6,d2,p5,p6⟩
 . cases e
 . cases e
 have HM:ag H1 J2:=λb o hb=>k2 _ _ (Oh _ _ hb) (af hb hd)
 have U1:=eK.same HM
 have U2:cb J2 d (ay M need wish) b1 b2 b3 b4 b5 b6:=by
  refine⟨d2,?_,(X8.same qD).eI k2 B3,(X9.same qD).eI k2 B3,(Ya.same qD).eI k2 B3,p5,p6⟩
  have:=qD _ _ Yb
  exact k2 _ _ this λe=>by rw[e,B3]at this;cases this
 refine⟨_,rfl,_,rfl,m,a1,a2,a3,a4,a5,a6,M,rfl,U1,fw,λo J3 FO Ss=>?_⟩
 refine⟨o,rfl,⟨_,aq.of Ss⟩,λD hD=>?_⟩
 have jg:(bg M).length<=88:=by unfold bg;simp only[aaf,aaa];have:=fw.n1;have:=fw.n2;have:=fw.n3;lia
 refine i4 (xs:=bg M) (kp:=λ_=>true) (y:=λn=>.inr (.tup [.str n,vC need n])) V.str (aao jg (by decide)) Ss hD (λn hn H9 s9=>rw_yes λY hY=>?_) λJ4 vs FQ bf B4=>?_
 . refine⟨_,rfl,_,rfl,_,rfl,p,_,rfl,.inl (aq.of (s9 _ _ (FO _ _ (HM _ _ q1)))),rfl,fl,_,rfl,?_⟩
   show if g0 (.str n) (fs.map V.str)=true then _ else _
   rw[mT,Al]
   have fin:∀v,v=vC need n->([V.str n,v]:List V).length<=sizeLine/\∀p,H9 p=none->Y (.ref p) (upd H9 p (.tup [.str n,v])):=λv ev=>⟨by show 2<=sizeLine;decide,λT hT=>by rw[ev];exact hY _ _ (ag.ak hT) (jO hT)⟩
   cases en:need n with
   | true=>exact fJ ⟨_,rfl,fin _ (by unfold vC;rw[en,aa4 rfl])⟩
   | false=>exact bQ (fin _ (by unfold vC;rw[en,aaY aax]))
 rw[fZ]at B4
 obtain⟨ns,rfl,pn⟩:=gB B4
 refine⟨by show 2<=sizeLine;decide,λtp qM=>?_⟩
 have Bv:=FO.trans FQ
 have AB:ag J4 (upd J4 tp (.tup [.ref d,.ref D])):=ag.ak qM
 exact kk need tp d D b1 b2 b3 b4 b5 b6 _ hN (((s1.trans HM).trans Bv).trans AB) ae (U2.same (Bv.trans AB)) ⟨ns,AB _ _ bf,cv (F:=λt r=>(upd J4 tp (.tup [.ref d,.ref D])) t=some (.tup r)) (Paired.bj pn λt r z=>AB _ _ z.2)⟩
end
section
variable {M:ax}{names:List Str}{wish:Str}{need:Str->Bool}
theorem tL{α:Type}{l:List (Str×α)}{n:Str}(h:need n=true):(l.filter λr=>need r.1).find? (λr=>decide (r.1=n))=l.find? λr=>decide (r.1=n):=by
 induction l with
 | nil=>rfl
 | cons r l ih=>
  by_cases e:r.1=n
  . rw[aa2 (by show need r.1=true;rw[e];exact h),abf (by simpa using e),abf (by simpa using e)]
  . rw[abg (by simpa using e)]
    by_cases q:need r.1=true
    . rw[aa2 (by exact q),abg (by simpa using e),ih]
    . rw[aa5 (by exact q),ih]
theorem FR:gT (ay M need wish) wish=gT M wish:=by
 have look:∀l:List (Str×Str),cJ (l.filter λr=>decide (r.1=wish)) wish=cJ l wish:=λl=>by
  unfold cJ
  rw[tL (need:=λn=>decide (n=wish)) (n:=wish) (aaU rfl)]
 show ((cJ (M.nevers.filter λr=>decide (r.1=wish)) wish).orElse λ_=>cJ (M.somes.filter λr=>decide (r.1=wish)) wish).getD "" = _
 rw[look,look]
 rfl
theorem FT{a:Str}(h:need a=true):cw (ay M need wish) a++eG (ay M need wish) a=cw M a++eG M a:=by
 have g:cw (ay M need wish) a=cw M a:=by
  unfold cw
  show (((M.gates.filter λr=>need r.1).find? λg=>decide (g.1=a)).map _).getD []=_
  rw[tL h]
 have k:eG (ay M need wish) a=eG M a:=by
  unfold eG
  have e:a∈(ay M need wish).keepers.map (·.1) ↔ a∈M.keepers.map (·.1):=by
   rw[show (ay M need wish).keepers.map (·.1)=(M.keepers.map (·.1)).filter need from cK need M.keepers,aap]
   exact⟨λq=>q.1,λq=>⟨q,h⟩⟩
  by_cases q:a∈M.keepers.map (·.1)
  . rw[aa4 (e.mpr q),aa4 q]
    congr 1
    exact tG h
  . rw[aaY λz=>q (e.mp z),aaY q]
 rw[g,k]
theorem Lg(hN:jh M wish need){n:Str}(h:Hg M (gT M wish) n):Hg (ay M need wish) (gT (ay M need wish) wish) n:=by
 rw[FR]
 induction h with
 | base h=>exact .base h
 | step ha hz hn ih=>exact .step ih (by rw[FT ((hN _).mpr ha)];exact hz) hn
theorem ye(ok:aG M names)(hN:jh M wish need){i7:Str->Bool}(FU:jh (ay M need wish) wish i7){n:Str}(h:n∈bg (ay M need wish)):i7 n=true:=by
 refine(FU n).mpr (Lg hN ((hN n).mp ?_))
 have:n∈names.filter need:=by rw[vt (wish:=wish) ok];exact h
 exact(aap.mp this).2
theorem DG(ok:aG M names)(hN:jh M wish need){i7:Str->Bool}(FU:jh (ay M need wish) wish i7):ay (ay M need wish) i7 wish=ay M need wish:=by
 have al:=λ{n}=>ye (n:=n) ok hN FU
 have kn:∀r∈(ay M need wish).keepers,i7 r.1=true:=λr hr=>al (aae.mpr (.inl (aae.mpr (.inr (aak.mpr ⟨r,hr,rfl⟩)))))
 have e1:(ay M need wish).switches.filter i7=(ay M need wish).switches:=abI.mpr λn hn=>al (aae.mpr (.inl (aae.mpr (.inl hn))))
 have e2:((ay M need wish).keepers.filter λr=>i7 r.1)=(ay M need wish).keepers:=abI.mpr kn
 have e3:((ay M need wish).gates.filter λr=>i7 r.1)=(ay M need wish).gates:=abI.mpr λr hr=>al (aae.mpr (.inr (aak.mpr ⟨r,hr,rfl⟩)))
 have e4:((ay M need wish).nexts.filter λr=>i7 r.1)=(ay M need wish).nexts:=abI.mpr λr hr=>by
  obtain⟨h1,h2⟩:=aap.mp hr
  obtain⟨k,hk,e⟩:=aak.mp (ok.nxk r h1)
  rw[← e]
  exact kn k (aap.mpr ⟨hk,by show need k.1=true;rw[e];exact h2⟩)
 have e5:((ay M need wish).nevers.filter λr=>decide (r.1=wish))=(ay M need wish).nevers:=abI.mpr λr hr=>(aap.mp hr).2
 have e6:((ay M need wish).somes.filter λr=>decide (r.1=wish))=(ay M need wish).somes:=abI.mpr λr hr=>(aap.mp hr).2
 show ax.mk _ _ _ _ _ _=_
 rw[e1,e2,e3,e4,e5,e6]
theorem HN(ok:aG M names)(hN:jh M wish need){i7:Str->Bool}(FU:jh (ay M need wish) wish i7):iT (ay M need wish) i7=(bg (ay M need wish)).map λn=>((.inr n:Key),V.str n):=by
 unfold iT
 refine ab2 λn hn=>?_
 unfold vC
 rw[aa4 (ye ok hN FU hn)]
theorem DH(h:wish∈(M.nevers++M.somes).map (·.1)):wish∈((ay M need wish).nevers++(ay M need wish).somes).map (·.1):=by
 obtain⟨r,hr,e⟩:=aak.mp h
 refine aak.mpr ⟨r,?_,e⟩
 rcases aae.mp hr with q|q
 . exact aae.mpr (.inl (aap.mpr ⟨q,aaU e⟩))
 . exact aae.mpr (.inr (aap.mpr ⟨q,aaU e⟩))
end
theorem oQ{M:ax}{names:List Str}(ok:aG M names)(need:Str->Bool):∀r∈(bg M).map λn=>[V.str n,vC need n],∀v∈r,iF v:=λr hr v hv=>by
 obtain⟨n,hn,rfl⟩:=aak.mp hr
 have hs:qg n:=gE (ok.nm n (by rw[ok.all];exact hn))
 rcases aal.mp hv with rfl|hv
 . exact .inr (.inl ⟨_,rfl,hs⟩)
 . rw[aai.mp hv]
   unfold vC
   split
   . exact .inr (.inl ⟨_,rfl,hs⟩)
   . exact .inr (.inr rfl)
theorem rT{H H1:Hp}{l:Addr}{ts:List Addr}{M:ax}{f:Str->V}(h1:H l=some (.lst (ts.map V.ref))) (p:Paired (λt (kv:Key×V)=>H1 t=none/\H t=some (.tup [kV kv.1,kv.2])) ts ((bg M).map λn=>((.inr n:Key),f n))):aE H l ((bg M).map λn=>[V.str n,f n]):=
 oM (λ_=>rfl) h1 p
end Gen
namespace L2
open PySem PySem.Spec PyProof.Rows
section
variable {X:Cx}
noncomputable def Oi(K:W.Frag)(ta:TA):TE:=λσ H Q=>ta σ H λvs H1=>∃(a b:Addr) (ks:List Key) (ys:List V),vs=[.ref a,.ref b]/\aq K H1 a (ks.map kV)/\aq K H1 b ys/\ks.length<=ys.length/\
 ∀d,H1 d=none->Q (.ref d) (upd H1 d (.dK (bE [] (ks.zip ys))))
theorem HP{pins:List (Addr×Obj)}{σ:St}{H1:Hp}{s1:Shared}{a b:Addr}{ks:List Key}{ys:List V}{Q:VK}(hc:X.calm=true) (I1:Inv X pins σ H1 s1) (hk:aq X.K H1 a (ks.map kV)) (hb:aq X.K H1 b ys) (hl:ks.length<=ys.length)
 (q:∀d,H1 d=none->Q (.ref d) (upd H1 d (.dK (bE [] (ks.zip ys))))) :
 wpAny (model X.prog X.w) X.A (call (.type "zip") [.ref a,.ref b]) (λv s2=>wpAny (model X.prog X.w) X.A (call (.type "dict") [v]) (EP X pins σ Q) X.xe s2) X.xe s1:=by
 obtain⟨lW,rj,pj,_⟩:=I1.zk (tp:=false) hk
 obtain⟨its,rv,Oj,WM⟩:=I1.zk (tp:=false) hb
 have hlen:ys.length=its.length:=rv.length
 have BH:ks.length=lW.length:=by have:=rj.length;rw[aaa]at this;exact this
 have jg:a<s1.heap.objs.size:=by obtain⟨_,e,_⟩:=pj;exact aam e
 have jM:b<s1.heap.objs.size:=by obtain⟨_,e,_⟩:=Oj;exact aam e
 refine BC pj Oj λh' g1 g2 g3 g4 g5 kk=>?_
 have I2:Inv X pins σ H1 {s1 with heap:=h'}:=I1.kept (t':=s1.toks) kk
 have hsz:s1.heap.objs.size+4<h'.objs.size:=aam g1
 have zD:∀c∈[s1.heap.objs.size+4,s1.heap.objs.size+2,s1.heap.objs.size+3,s1.heap.objs.size,s1.heap.objs.size+1],s1.heap.objs.size<=c:=λc bY=>by
  simp only[aal,aaH,abF]at bY
  rcases bY with rfl|rfl|rfl|rfl|rfl <;> lia
 have out:∀c,c<s1.heap.objs.size->c∉[s1.heap.objs.size+4,s1.heap.objs.size+2,s1.heap.objs.size+3,s1.heap.objs.size,s1.heap.objs.size+1]:=λc c8 hm=>abT _ (aaV c8 (zD c hm))
 have D1:gO X.prog X.w s1.heap.objs.size [a] lW.toArray.size (λi x=>lW.toArray[i]?=some x) (λi h=>gh false h s1.heap.objs.size a i/\jf false h a lW.toArray):=nA (aaw jg)
 have D2:gO X.prog X.w (s1.heap.objs.size+1) [b] its.toArray.size (λi x=>its.toArray[i]?=some x) (λi h=>gh false h (s1.heap.objs.size+1) b i/\jf false h b its.toArray):=nA (aaw (acP jM))
 have l1:(ks.zip its).length=lW.toArray.size:=by rw[abn,aar];lia
 have l2:lW.toArray.size<=its.toArray.size:=by rw[aar,aar];lia
 have l3:(ks.zip its).length<=sizeLine:=by rw[abn];lia
 have sq:∀{c:Addr}{xs:Array Value},jf false s1.heap c xs->jf false h' c xs:=λ⟨o,e,r⟩=>⟨o,kk _ _ e,r⟩
 refine qY (knd:=aO X.prog X.w) (kvs:=ks.zip its) (A:=X.A) (I1.ok.hd hc) (by simp) (λc bY=>out c (by rw[aai.mp bY];exact jg)) (λc bY=>out c (by rw[aai.mp bY];exact jM)) (λc bY=>by rw[aai.mp bY];show a<h'.objs.size;lia) (λc bY=>by rw[aai.mp bY];show b<h'.objs.size;lia) D1 D2 l1 l2
  (λi x y kv e p1 p2=>?_) l3 g1 g2 ⟨_,_,g3⟩ ⟨g4,sq pj⟩ ⟨g5,sq Oj⟩ λh'' tk dd M4=>?_
 . have hi:i<(ks.zip its).length:=(aas.mp e).1
   have xp:=hi
   rw[abn]at xp
   have e2:kv=(ks[i]'(by lia),its[i]'(by lia)):=by
    rw[aad hi,aev]at e
    exact(aaS e).symm
   subst e2
   refine⟨?_,?_⟩
   . obtain⟨u,hu,ru⟩:=rj.get (i:=i) (x:=kV (ks[i]'(by lia))) (by rw[aan,aad (by lia)];rfl)
     have p3:lW[i]?=some x:=by simpa using p1
     rw[hu]at p3
     cases p3
     exact kU ru
   . have p3:its[i]?=some y:=by simpa using p2
     rw[aad (by lia)]at p3
     exact(aaS p3).symm
 . refine⟨.ref h'.objs.size,_,I2.BF (fp:=[s1.heap.objs.size+4,s1.heap.objs.size+2,s1.heap.objs.size+3,s1.heap.objs.size,s1.heap.objs.size+1]) (ob:=.dK (bE [] (ks.zip ys))) (λc bY=>I1.nL (zD c bY) (I1.hok.fresh (zD c bY))) (λc q' bY e=>M4 c q' bY e) (aah _) (lp ?_ (abB.mpr (aau (aaw I2.big))) (KV.merge (zC rv) .nil) dd),rfl,q _ (I2.hok.fresh (aah _))⟩
   have:=iz (ks.zip ys) []
   rw[abn]at this
   simp at this
   lia
theorem HQ{a b:Expr}{ta:TA}{p1 p2 pos mN:Pos}(M5:Gl X "dict")(M6:X.mg "dict" = none)(M7:Gl X "zip")(M8:X.mg "zip" = none)(hc:X.calm=true)(ha:PA X [a,b] ta)
 (hs:starEach [Expr.Call (.Name "zip" p2) [a,b] [] mN] X.env=(false,eval (Expr.Call (.Name "zip" p2) [a,b] [] mN) X.env)::starEach [] X.env:=by rfl) (gg:(backTo pos (starEach [] X.env)).any (·.1)=false:=by rfl)
 (i8:starEach [a,b] X.env=(false,eval a X.env)::starEach [b] X.env:=by rfl) (gk:(backTo mN (starEach [b] X.env)).any (·.1)=false:=by rfl) :
 PE X (.Call (.Name "dict" p1) [.Call (.Name "zip" p2) [a,b] [] mN] [] pos) (Oi X.K ta):=by
 intro pins s σ H Q I h
 refine abO (iy I M5 M6 aaQ ?_ (by decide) (by decide))
 refine abi ?_ hs gg
 rw[hs]
 show wpAny _ _ (spliced ((false,eval _ X.env)::backTo pos (starEach [] X.env))) _ _ s
 refine aby ?_
 refine Call_ (iy I M7 M8 boot_zip (abi (aC (ha mN pins s σ H _ I h) λus s1 ⟨vs,H1,I1,r1,q1⟩=>?_) i8 gk))
 obtain⟨l,m,ks,ys,e,hk,hb,hl,q⟩:=q1
 subst e
 obtain⟨u,v,rfl,ru,rv⟩:=vals2 r1
 cases(show u=Value.ref l from ru)
 cases(show v=Value.ref m from rv)
 exact aC (HP hc I1 hk hb hl q) λv s2 hv=>ach hv
end
theorem HR{K:W.Frag}{a:Addr}{xs:List V}{g:TG}{tb:TS}{D:Ends}{σ:St}{H:Hp}(Pv:Nat->St->Hp->Prop)(h0:Pv 0 σ H)(hl:∀i σ H,i<=xs.length->Pv i σ H->aq K H a xs)
 (hs:∀i x T σ H,xs[i]?=some x->H T=none->Pv i σ H->g (.ref T) σ (upd H T (.tup [.int (i:Int),x])) λeU H2=>tb {D with nx:=Pv (i+1),ct:=Pv (i+1),bk:=D.nx} eU H2) (hd:∀σ H,Pv xs.length σ H->D.nx σ H) :
 ∃W:Nat->Nat->St->Hp->Prop,(∃m,W 0 m σ H)/\∀i m σ H,W i m σ H->
  ((Et K a).stop i H/\D.nx σ H)\/((Et K a).go i H/\∃N:St->Hp->Prop,(∀bo H',N bo H'->∃m',m'<m/\W (i+1) m' bo H')/\∀x H',(Et K a).yld i H x H'->g x σ H' λeU H2=>tb {D with nx:=N,ct:=N,bk:=D.nx} eU H2):=by
 refine⟨λi m σ H=>m=xs.length-i/\i<=xs.length/\Pv i σ H,⟨xs.length,by simp,abM _,h0⟩,?_⟩
 rintro i m σ H ⟨rfl,hi,p⟩
 have q:=hl i σ H hi p
 by_cases c8:i<xs.length
 . refine .inr ⟨⟨xs,xs[i],q,by simp[c8]⟩,Pv (i+1),λbo H' p'=>⟨xs.length-(i+1),by lia,rfl,c8,p'⟩,λx H' y=>?_⟩
   obtain⟨T,x',rfl,hT,rfl,fE⟩:=y
   exact hs i x' T σ _ (fE xs q) hT p
 . have e:i=xs.length:=by lia
   subst e
   exact .inl ⟨⟨xs,q,aah _⟩,hd σ H p⟩
end L2
namespace Gen
open PySem L2
noncomputable abbrev DI:Stmt:=top 35
noncomputable def AD:Sp:=λvs H Q _=>∃(m a1 a2 a3 a4 a5 a6:Addr) (M:ax) (names:List Str),vs=[.ref m]/\cb H m M a1 a2 a3 a4 a5 a6/\aG M names/\j8 M/\
 ∀(p:Addr) (ts:List Addr) (oR:List (List Int)) (H':Hp),ag H H'->H' p=some (.lst (ts.map V.ref))->ts.length=4->Paired (λt cs=>H' t=some (.tup (cs.map V.int))) ts oR->(∀cs∈oR,Jq M cs)->Q (.ref p) H'
theorem Q1{way k:Int}(h0:0<=way)(h4:way<4):∃b,gn [V.int 0,.int 1,.int (k % 2),.int (1-k % 2)] way=some (.int b)/\(b=0\/b=1):=by
 have hk:k % 2=0\/k % 2=1:=by lia
 rcases (show way=0\/way=1\/way=2\/way=3 by lia) with rfl|rfl|rfl|rfl
 . exact⟨0,rfl,.inl rfl⟩
 . exact⟨1,rfl,.inr rfl⟩
 . exact⟨k % 2,rfl,hk⟩
 . exact⟨1-k % 2,rfl,by rcases hk with e|e <;> simp[e]⟩
theorem Ol{M:ax}{names:List Str}(ok:aG M names){cs:List Int}(hl:cs.length=M.keepers.length)(hb:∀b∈cs,b=0\/b=1) (hf:∀(j:Nat) (r:Str×V) (b:Int),M.keepers[j]?=some r->cs[j]?=some b->r.2=.aM\/r.2=.int b):Jq M cs:=by
 have nd:(M.keepers.map (·.1)).Nodup:=by have:=ok.nd;rw[ok.all]at this;exact(aav.mp (aav.mp this).1).2.1
 refine⟨⟨hl.symm,hb⟩,λr hr=>?_⟩
 obtain⟨j,hj,e⟩:=acj hr
 have NQ:j<(M.keepers.map (·.1)).length:=by rw[aaa];exact hj
 have:=xV (ks:=M.keepers.map (·.1)) (cs:=cs) (i:=j) NQ (by lia) nd
 rw[adD,e]at this
 rw[this]
 exact hf j r _ (by rw[aad hj,e]) (aad (by lia))
section
variable {P:Program}{w:World}{K:W.Frag}{mg:Str->Option Value}{base:Heap}{C:Addr}
noncomputable abbrev Q2:List Str:=["_law_m", "_law_found", "_law_way", "_law_stand", "_law_k", "_law_name", "_law_first"]
theorem mY:aK Q2 ["_law_m"] (aw DI):=fs
theorem Lh{f:Addr}{fd:FuncData}(F:aQ K "_law_all_first" "_law_all_first" DI f fd)(O:Own mg)(O2:iu mg):aP P w K mg base aZ 1 f fd ["_law_m"] AD:=by
 refine F.go mY (λcdv A outer s H vs Q E hr h=>?_)
 obtain⟨m,a1,a2,a3,a4,a5,a6,M,names,rfl,hM,ok,fw,kk⟩:=h
 have hu:=eE hr
 have hI:=O2.int
 refine⟨_,(aj (cE 1 mY.nd (cf ai))
  (aj (dU aa6 rfl (dh rfl O.range (aa ao ai)) (ar (i:=2) mY.nd rfl (Or.inl rfl))
   (aj (cE 3 mY.nd (cf ai))
   (aj (dU aa6 rfl (so (by rfl) O.enum (aa (aD hu (pv 0) au (λ_ _=>rfl)) ai)) (cN rfl (aA (ar (i:=4) mY.nd rfl (Or.inl rfl)) (aA (cN rfl (aA (ar (i:=5) mY.nd rfl (Or.inl rfl)) (aA (ar (i:=6) mY.nd rfl (Or.inl rfl)) cc))) cc)))
    (av (dg (eY aaX abd abe dj (pv 3) (aa (aF (r:=qw K) bG (cf (aa (pv 6) (aa (aF (r:=qw K) bG (cf (aa ao (aa ao (aa (az dY (pv 4) ao) (aa (az qm ao (az dY (pv 4) ao)) ai))))) (pv 2) (λ_ _=>rfl)) ai))) (aN wV (by rfl) hI adv (aa (Lz (Ly (pv 6))) ai)) (λ_ _=>rfl)) ai)))))
   (av (dg (eY aaX abd abe dj (pv 1) (aa (aN lM (by rfl) O2.tuple acB (aa (pv 3) ai)) ai)))))))
  (av (aJ (pv 1))))),?_⟩
 refine⟨by show 0<=sizeLine;decide,λp hp=>?_⟩
 have s1:ag H (upd H p (.lst [])):=ag.ak hp
 have q1:(upd H p (.lst [])) p=some (.lst (([]:List Addr).map V.ref)):=ae
 generalize upd H p (.lst [])=H1 at s1 q1 ⊢
 refine⟨4,rfl,by decide,by decide,ib (n:=4) (λi σ Hi=>∃(v2 v3 v4 v5 v6:Option V) (ts:List Addr) (oR:List (List Int)),σ=[some (.ref m),some (.ref p),v2,v3,v4,v5,v6]/\ag H Hi/\Hi p=some (.lst (ts.map V.ref))/\ts.length=i/\Paired (λt cs=>Hi t=some (.tup (cs.map V.int))) ts oR/\∀cs∈oR,Jq M cs) ?_ ?_ ?_⟩
 . exact⟨_,_,_,_,_,[],[],rfl,s1,q1,rfl,.nil,λ_ h=>nomatch h⟩
 . rintro i σ Hi hi ⟨v2,v3,v4,v5,v6,ts,oR,rfl,si,Jy,lT,pt,lA⟩
   refine⟨by show 0<=sizeLine;decide,λS hS=>?_⟩
   have s2:ag Hi (upd Hi S (.lst [])):=ag.ak hS
   have q2:(upd Hi S (.lst [])) S=some (.lst (([]:List Int).map V.int)):=ae
   have pS:p≠S:=af Jy hS
   have HS:H S=none:=same_none si hS
   generalize upd Hi S (.lst [])=H2 at s2 q2 ⊢
   have gJ:=si.trans s2
   obtain⟨us,h2,p2⟩:=id (hM.same gJ).kp
   have tI:=iU p2
   have ul:=tI.length
   have aS:a2≠S:=λe=>by obtain⟨MC,h',_⟩:=id hM.kp;rw[e,HS]at h';cases h'
   refine⟨_,rfl,m,.ref a2,rfl,aX.k (k:=.inr "keepers") (hM.same gJ).top,a2,rfl,⟨_,aq.of h2⟩,HR (xs:=us.map V.ref) (λj σ Hj=>∃(v4 v5 v6:Option V) (cs:List Int),σ=[some (.ref m),some (.ref p),some (.int (0+(i:Int))),some (.ref S),v4,v5,v6]/\aI H2 Hj S/\Hj S=some (.lst (cs.map V.int))/\cs.length=j/\(∀b∈cs,b=0\/b=1)/\∀(k:Nat) (r:Str×V) (b:Int),M.keepers[k]?=some r->cs[k]?=some b->r.2=.aM\/r.2=.int b) ?_ ?_ ?_ ?_⟩
   . exact⟨_,_,_,[],rfl,λ_ _ h _=>h,q2,rfl,λ_ h=>(nomatch h),λk r b _ h=>by simp at h⟩
   . rintro j σ Hj _ ⟨_,_,_,_,_,kj,_⟩
     exact aq.of (kj _ _ h2 aS)
   . rintro j x T σ Hj hx hT ⟨v4,v5,v6,cs,rfl,kj,Jz,ja,Om,Oo⟩
     rw[aan]at hx
     cases ht:us[j]? with
     | none=>rw[ht]at hx;cases hx
     | some t=>
      rw[ht]at hx
      cases hx
      have Oq:j<M.keepers.length:=by have:=(aas.mp ht).1;lia
      have tm:M.keepers[j]?=some M.keepers[j]:=aad Oq
      obtain⟨t',je,eS⟩:=i3 tI tm
      rw[ht]at je
      cases je
      generalize Jv:M.keepers[j]=r at tm eS
      have Q3:=kj _ _ eS λe=>by rw[e,q2]at eS;cases eS
      have s3:ag Hj (upd Hj T (.tup [.int (j:Int),.ref t])):=ag.ak hT
      have q3:(upd Hj T (.tup [.int (j:Int),.ref t])) T=some (.tup [.int (j:Int),.ref t]):=ae
      generalize upd Hj T (.tup [.int (j:Int),.ref t])=H3 at s3 q3 ⊢
      refine⟨T,_,rfl,aH.of q3,rfl,_,_,rfl,_,_,rfl,⟨t,_,rfl,aH.of (s3 _ _ Q3),rfl,_,_,rfl,_,_,rfl,rfl,rfl,?_⟩⟩
      refine⟨_,rfl,.inl ⟨rfl,_,aq.of (s3 _ _ Jz)⟩,_,rfl,_,rfl,_,_,rfl,rfl,(by show (0:Int)<2;decide),_,rfl,_,_,rfl,rfl,(by show (0:Int)<2;decide),_,_,rfl,rfl,(by show 4<=sizeLine;decide),λL1 E7=>?_⟩
      obtain⟨b,hb,uu⟩:=Q1 (way:=0+(i:Int)) (k:=(j:Int)) (by lia) (by lia)
      have s4:ag H3 (upd H3 L1 (.lst [.int 0,.int 1,.int ((j:Int) % 2),.int (1-(j:Int) % 2)])):=ag.ak E7
      have q4:(upd H3 L1 (.lst [.int 0,.int 1,.int ((j:Int) % 2),.int (1-(j:Int) % 2)])) L1=some (.lst [.int 0,.int 1,.int ((j:Int) % 2),.int (1-(j:Int) % 2)]):=ae
      generalize upd H3 L1 (.lst [.int 0,.int 1,.int ((j:Int) % 2),.int (1-(j:Int) % 2)])=H4 at s4 q4 ⊢
      refine⟨_,rfl,L1,_,_,_,rfl,rfl,aq.of q4,hb,(by show 2<=sizeLine;decide),λL2 zx=>?_⟩
      have s5:ag H4 (upd H4 L2 (.lst [r.2,.int b])):=ag.ak zx
      have q5:(upd H4 L2 (.lst [r.2,.int b])) L2=some (.lst [r.2,.int b]):=ae
      generalize upd H4 L2 (.lst [r.2,.int b])=H5 at s5 q5 ⊢
      have tM:=(s3.trans s4).trans s5
      have pQ:∃c:Int,gn [r.2,V.int b] (if decide (r.2=V.aM)=true then 1 else 0)=some (.int c)/\(c=0\/c=1)/\(r.2=.aM\/r.2=.int c):=by
       rcases ok.first r (aaT tm) with e|e|e
       . rw[e];exact⟨0,rfl,.inl rfl,.inr rfl⟩
       . rw[e];exact⟨1,rfl,.inr rfl,.inr rfl⟩
       . rw[e];exact⟨b,rfl,uu,.inl rfl⟩
      obtain⟨c,hc,U7,Yf⟩:=pQ
      refine⟨_,rfl,.inr ⟨_,rfl,L2,_,_,_,rfl,rfl,aq.of q5,hc,?_⟩⟩
      have:=fw.n2
      refine⟨S,_,_,rfl,rfl,tM _ _ Jz,(by rw[aaa];exact small (by lia)),_,_,_,cs++[c],rfl,λb' o j4 hn=>?_,?_,by rw[aaf,aat,ja],λb' j4=>?_,λk r' b' h1 h2=>?_⟩
      . rw[ah hn]
        exact tM _ _ (kj _ _ j4 hn)
      . rw[ae,aag];rfl
      . rcases aae.mp j4 with q|q
        . exact Om b' q
        . rw[aai.mp q];exact U7
      . rcases aee k cs.length with q|q|q
        . rw[abt q]at h2
          exact Oo k r' b' h1 h2
        . rw[q,abA (aah _),ae8]at h2
          cases h2
          rw[q,ja,tm]at h1
          cases h1
          exact Yf
        . rw[ab6 (by rw[aaf,aat];lia)]at h2
          cases h2
   . rintro σ Hj ⟨Np,Je,XZ,cs,rfl,kj,Jz,ja,Om,Oo⟩
     rw[aaa,ul]at ja
     have kp:Hj p=some (.lst (ts.map V.ref)):=kj _ _ (s2 _ _ Jy) pS
     refine⟨_,rfl,.inl ⟨rfl,_,aq.of kp⟩,_,rfl,S,_,rfl,.inl ⟨aq.of Jz,λT hT=>?_⟩⟩
     have s6:ag Hj (upd Hj T (.tup (cs.map V.int))):=ag.ak hT
     have q6:(upd Hj T (.tup (cs.map V.int))) T=some (.tup (cs.map V.int)):=ae
     generalize upd Hj T (.tup (cs.map V.int))=H6 at s6 q6 ⊢
     have nt:∀{b:Addr}{o:List V},H6 b=some (.tup o)->b≠p:=λhb e=>by rw[e,s6 _ _ kp]at hb;cases hb
     refine⟨p,_,_,rfl,rfl,s6 _ _ kp,(by rw[aaa];exact small (by lia)),_,_,_,_,_,ts++[T],oR++[cs],rfl,λb o hb=>?_,?_,by rw[aaf,aat,lT],?_,λc hc=>?_⟩
     . rw[ah (af hb hp)]
       exact s6 _ _ (kj _ _ (gJ _ _ hb) (af hb HS))
     . rw[ae,aag];rfl
     . refine ab8 (Paired.bj pt λt c e=>?_) ?_
       . have e':H6 t=some (.tup (c.map V.int)):=s6 _ _ (kj _ _ (s2 _ _ e) λq=>by rw[q,hS]at e;cases e)
         rw[ah (nt e')]
         exact e'
       . rw[ah (nt q6)]
         exact q6
     . rcases aae.mp hc with q|q
       . exact lA c q
       . rw[aai.mp q]
         exact Ol ok ja Om Oo
 . rintro σ Hi ⟨v2,v3,v4,v5,v6,ts,oR,rfl,si,Jy,lT,pt,lA⟩
   exact⟨_,rfl,kk p ts oR Hi si Jy lT pt lA⟩
end
noncomputable abbrev AE:Stmt:=top 34
noncomputable def wM(K:W.Frag):Sp:=λvs H Q _=>∃(a m sm d a1 a2 a3 a4 a5 a6 b1 b2 b3 b4 b5 b6:Addr) (ns:List Int) (M S:ax) (names vF l:List Str) (f:Str->V) (I:List Int->Prop),vs=[.ref a,.ref m,.ref sm,.ref d]/\aq K H a (ns.map V.int)/\cb H m M a1 a2 a3 a4 a5 a6/\cb H sm S b1 b2 b3 b4 b5 b6/\aG M names/\aG S vF/\j8 M/\j8 S/\
 H d=some (.dK (l.map λn=>((.inr n:Key),f n)))/\Jr M S l f I/\∀H',ag H H'->Q (.bl true) H'
theorem j8.fm{M:ax}{names:List Str}(fw:j8 M)(ok:aG M names):Fm M names:=⟨ok,fw.n1,fw.n2,fw.n3⟩
theorem AF{M S:ax}{bs:List Int}(h:∀b∈bs,b=0\/b=1):iI S.switches.length (nK M S bs):=⟨oJ.symm,λb hb=>by obtain⟨n,_,rfl⟩:=aak.mp hb;exact nG (pH h) n⟩
theorem AG{M S:ax}{cs:List Int}(h:∀b∈cs,b=0\/b=1):iI S.keepers.length (ji M S cs):=⟨wI.symm,λb hb=>by obtain⟨n,_,rfl⟩:=aak.mp hb;exact nG (pH h) n.1⟩
section
variable {P:Program}{w:World}{K:W.Frag}{mg:Str->Option Value}{base:Heap}{C:Addr}
noncomputable abbrev Ot:List Str:=["_law_script", "_law_m", "_law_small", "_law_names", "_law_firsts", "_law_stand", "_law_bits", "_law_other", "_law_name", "_law_first", "_law_k", "_law_told", "_law_inputs", "_law_values_here", "_law_less", "_law_fewer"]
noncomputable abbrev rV:List Str:=["_law_script", "_law_m", "_law_small", "_law_names"]
theorem eB:aK Ot rV (aw AE):=fs
theorem HU{f fF fM fC fV fB fX:Addr}{fd dF dM dC dV dB dX:FuncData}(F:aQ K "_law_along" "_law_along" AE f fd)(O:Own mg)(O2:iu mg)(CF:cj P w K mg base 1 fF dF "_law_all_first" ["_law_m"] AD)(CM:cj P w K mg base 1 fM dM "_law_mix" ["_law_cell", "_law_k"] uR) (CC:cj P w K mg base 1 fC dC "_law_cell_at" ["_law_script", "_law_k"] (qF K))
 (CV:cj P w K mg base 2 fV dV "_law_values" oy (mQ K)) (CB:cj P w K mg base 1 fB dB "_law_bit" ["_law_values_here", "_law_literal_here"] ox) (CX:cj P w K mg base 3 fX dX "_law_next" oy (zR K)):aP P w K mg base aZ 4 f fd rV (wM K):=by
 refine F.go eB (λcdv A outer s H vs Q E hr h=>?_)
 obtain⟨a,m,sm,d,a1,a2,a3,a4,a5,a6,b1,b2,b3,b4,b5,b6,ns,M,S,names,vF,l,fv,I,rfl,ha,hM,hS,ok,qf,fw,lI,hd,al,kk⟩:=h
 have hu:=eE hr
 have eC:aW 1 (A.deeper _):=hr.mono (by decide)
 have gH:aW 2 (A.deeper _):=hr.mono (by decide)
 refine⟨_,(aj (cE 4 eB.nd (a8 CF eC (aa (pv 1) ai)))
  (aj (cE 5 eB.nd (aF (r:=qw K) bG (pv 4) (az dY (a8 CM eC (aa (a8 CC eC (aa (pv 0) (aa ao ai))) (aa ao ai))) (ef cy (by rfl) O.len abS (aa (pv 4) ai))) (λ_ _=>rfl)))
  (aj (cE 6 eB.nd (Kz (by rfl) O2.dict (by rfl) O2.zip rfl (aa (b8 (N:=["_law_one"]) (js:=[none]) (te:=(fo (ck K) (aL 0) (tC (.int 0)))) (by kernel_rfl) rfl (ba (aD hu (pv 1) au (λ_ _=>rfl))) (λ_ _ _ _ _ _=>(ar (i:=0) (show (["_law_one"]:List Str).Nodup from dk) rfl (Or.inl rfl) (.inr rfl))) (λ_ _ _ _ _ _=>bb) (λ_ _ _ _ _ _=>(aF (r:=ck K) bT (pv 0) ao (λ_ _=>rfl)))) (aa (pv 5) ai))))
  (aj (cE 7 eB.nd (aN lM (by rfl) O2.tuple acB (aa (b8 (N:=["_law_one", "_law_bits"]) (js:=[none,some 6]) (te:=(oV (aL 1) (fo (ck K) (aL 0) (tC (.int 0))))) (by kernel_rfl) rfl (ba (aD hu (pv 2) au (λ_ _=>rfl))) (λ_ _ _ _ _ _=>(ar (i:=0) (show (["_law_one", "_law_bits"]:List Str).Nodup from dk) rfl (Or.inl rfl) (.inr rfl))) (λ_ _ _ _ _ _=>bb) (λ_ _ _ _ _ _=>(aD hu (pv 1) (aF (r:=ck K) bT (pv 0) ao (λ_ _=>rfl)) (λ_ _=>rfl)))) ai)))
  (aj (dU aa6 rfl (ba (aD hu (pv 2) au (λ_ _=>rfl))) (cN rfl (aA (ar (i:=8) eB.nd rfl (Or.inl rfl)) (aA (ar (i:=9) eB.nd rfl (Or.inl rfl)) cc)))
   (av (cU (PW.pt (uD (iJ (Bi (pv 9))) (rY (iJ (yz (aD hu (pv 6) (pv 8) (λ_ _=>rfl)) (pv 9))))))
    (av (aJ kO)) bN)))
  (aj (dU aa6 rfl (dh rfl O.range (aa ao ai)) (ar (i:=10) eB.nd rfl (Or.inr rfl))
   (aj (nh (i:=11) eB.nd rfl rfl (N:=["_law_j", "_law_script", "_law_k"]) (js:=[none,some 0,some 10]) (by kernel_rfl) rfl (dh rfl O.range (aa (ef cy (by rfl) O.len abS (aa (aD hu (pv 1) au (λ_ _=>rfl)) ai)) ai)) (λ_ _ _ _ _ _=>(ar (i:=0) (show (["_law_j", "_law_script", "_law_k"]:List Str).Nodup from dk) rfl (Or.inl rfl) (.inr rfl))) (λ_ _ _ _ _ _=>bb) (λ_ _ _ _ _ _=>(az dY (az jG (a8 CM eC (aa (a8 CC eC (aa (pv 1) (aa (az eV ao (pv 2)) ai))) (aa (pv 0) ai))) ao) ao)))
   (aj (cE 12 eB.nd (HQ (by rfl) O2.dict (by rfl) O2.zip rfl (aa (aD hu (pv 1) au (λ_ _=>rfl)) (aa (pv 11) ai))))
   (aj (cE 13 eB.nd (a8 CV gH (aa (pv 1) (aa (pv 5) (aa (pv 11) ai)))))
   (aj (nh (i:=14) eB.nd rfl rfl (N:=["_law_name", "_law_inputs"]) (js:=[none,some 12]) (te:=(oV (aL 1) (aL 0))) (by kernel_rfl) rfl (ba (aD hu (pv 2) au (λ_ _=>rfl))) (λ_ _ _ _ _ _=>(ar (i:=0) (show (["_law_name", "_law_inputs"]:List Str).Nodup from dk) rfl (Or.inl rfl) (.inr rfl))) (λ_ _ _ _ _ _=>bb) (λ_ _ _ _ _ _=>(aD hu (pv 1) (pv 0) (λ_ _=>rfl))))
   (aj (cE 15 eB.nd (a8 CV gH (aa (pv 2) (aa (pv 7) (aa (pv 14) ai)))))
   (aj (KH (dU aa6 rfl (wa (pv 3)) (ar (i:=8) eB.nd rfl (Or.inl rfl))
    (av (cU (PW.pt (uD (iJ (Bi (aD hu (pv 3) (pv 8) (λ_ _=>rfl)))) (rY (iJ (yz (a8 CB eC (aa (pv 15) (aa (aD hu (pv 3) (pv 8) (λ_ _=>rfl)) ai))) (aD hu (pv 13) (pv 8) (λ_ _=>rfl)))))))
     (av (aJ kO)) bN))))
   (aj (cE 5 eB.nd (a8 CX hr (aa (pv 1) (aa (pv 5) (aa (pv 11) ai)))))
   (av (cE 7 eB.nd (a8 CX hr (aa (pv 2) (aa (pv 7) (aa (pv 14) ai))))))))))))))
  (av (aJ kO)))))))),?_⟩
 have nd:=ok.nd
 rw[ok.all]at nd
 have kd:(M.keepers.map (·.1)).Nodup:=(aav.mp (aav.mp nd).1).2.1
 have sd:M.switches.Nodup:=(aav.mp (aav.mp nd).1).1
 refine⟨_,rfl,m,a1,a2,a3,a4,a5,a6,M,names,rfl,hM,ok,fw,λp ts oR H1 s1 q1 tl pt lA=>?_⟩
 refine⟨_,rfl,_,rfl,a,ns,_,rfl,ag.seq s1 ha,by decide,λc=>⟨c,3,rfl,by decide,by decide,λv v0 v1=>?_⟩⟩
 refine⟨_,rfl,p,_,rfl,.inl (aq.of q1),_,_,rfl,rfl,(by rw[aaa,tl];show (0:Int)<4;decide),?_⟩
 rw[aaa,tl]
 have hi:(v % 4).toNat<ts.length:=by lia
 have Ou:ts[(v % 4).toNat]?=some ts[(v % 4).toNat]:=aad hi
 have pl:=pt.length
 have yV:oR[(v % 4).toNat]?=some (oR[(v % 4).toNat]'(by lia)):=aad (by lia)
 obtain⟨lD,je,lS⟩:=i3 pt yV
 have FV:=lA _ (aaT yV)
 generalize qA:oR[(v % 4).toNat]'(by lia)=iV at yV lS FV
 generalize aaK:ts[(v % 4).toNat]=B5 at Ou
 have Yg:lD=B5:=by rw[Ou]at je;exact(aaS je).symm
 rw[Yg]at lS
 have mH:gn (ts.map V.ref) (v % ((4:Nat):Int))=some (.ref B5):=by
  rw[show v % ((4:Nat):Int)=((v % 4).toNat:Int) by lia]
  exact fi (by rw[aan,Ou];rfl)
 refine⟨p,_,_,_,rfl,rfl,aq.of q1,mH,?_⟩
 have eK:=hM.same s1
 obtain⟨t2,h2,p2⟩:=id eK.kp
 have tI:=iU p2
 have e2:(t2.map V.ref)=((t2.zip M.keepers).map λz=>V.ref z.1):=by
  rw[show ((t2.zip M.keepers).map λz=>V.ref z.1)=((t2.zip M.keepers).map (·.1)).map V.ref from by rw[aa1];rfl,ac0 (ab5 tI.length)]
 have cx:(t2.zip M.keepers).map (·.2)=M.keepers:=adE (ab5 tI.length.symm)
 refine⟨_,rfl,m,.ref a2,rfl,aX.k (k:=.inr "keepers") eK.top,a2,rfl,⟨_,aq.of h2⟩,λD hD=>?_⟩
 refine i4 (xs:=t2.zip M.keepers) (kp:=λ_=>true) (y:=λz=>.inl (.str z.2.1)) (λz=>V.ref z.1) (by rw[abn];have:=fw.n2;exact aao (acE _ _) (by lia)) (by rw[h2,e2]) hD (λz hz H9 s9=>rw_yes λY hY=>?_) λH2 vs s2 bf p3=>?_
 . exact⟨_,rfl,z.1,_,0,_,rfl,rfl,aH.of (s9 _ _ (i6 tI z hz)),iR,hY _ _ (λ_ _ h=>h) rfl⟩
 rw[fZ]at p3
 have ev:=fU p3
 rw[show ((t2.zip M.keepers).map λz=>V.str z.2.1)=((t2.zip M.keepers).map (·.2)).map (λr=>V.str r.1) from by rw[aa1];rfl,cx,show (M.keepers.map λr=>V.str r.1)=((M.keepers.map (·.1)).map (Sum.inr:Str->Key)).map kV from by rw[aa1,aa1];rfl]at ev
 subst ev
 have l2:=FV.n.1
 refine⟨_,rfl,D,B5,(M.keepers.map (·.1)).map (Sum.inr:Str->Key),iV.map V.int,rfl,.inl (aq.of bf),aH.of (s2 _ _ lS),by simp only[aaa];lia,λbt BG=>?_⟩
 rw[wk,show bE [] (cY ((M.keepers.map (·.1)).zip iV))=cY ((M.keepers.map (·.1)).zip iV) from rq _ [] (by rw[abV,cS (by rw[aaa];exact l2)];exact kd)]
 have s3:ag H2 (upd H2 bt (.dK (cY ((M.keepers.map (·.1)).zip iV)))):=ag.ak BG
 have q3:(upd H2 bt (.dK (cY ((M.keepers.map (·.1)).zip iV)))) bt=some (.dK (cY ((M.keepers.map (·.1)).zip iV))):=ae
 generalize upd H2 bt (.dK (cY ((M.keepers.map (·.1)).zip iV)))=H3 at s3 q3 ⊢
 have jd:=(s1.trans s2).trans s3
 have IE:=hS.same jd
 have U8:((M.keepers.map (·.1)).zip iV).map (·.1)=M.keepers.map (·.1):=cS (by rw[aaa];exact l2)
 have Su:∀r∈S.keepers,r.1∈((M.keepers.map (·.1)).zip iV).map (·.1):=λr hr=>by rw[U8];exact aak.mpr ⟨r,al.kp r hr,rfl⟩
 obtain⟨t4,h4,p4⟩:=id IE.kp
 have B4:=iU p4
 have e4:(t4.map V.ref)=((t4.zip S.keepers).map λz=>V.ref z.1):=by
  rw[show ((t4.zip S.keepers).map λz=>V.ref z.1)=((t4.zip S.keepers).map (·.1)).map V.ref from by rw[aa1];rfl,ac0 (ab5 B4.length)]
 have uV:(t4.zip S.keepers).map (·.2)=S.keepers:=adE (ab5 B4.length.symm)
 refine⟨_,rfl,sm,.ref b2,rfl,aX.k (k:=.inr "keepers") IE.top,b2,rfl,⟨_,aq.of h4⟩,λD2 iM=>?_⟩
 refine i4 (xs:=t4.zip S.keepers) (kp:=λ_=>true) (y:=λz=>.inl (.int (aY ((M.keepers.map (·.1)).zip iV) z.2.1))) (λz=>V.ref z.1) (by rw[abn];have:=lI.n2;exact aao (acE _ _) (by lia)) (by rw[h4,e4]) iM (λz hz H9 s9=>rw_yes λY hY=>?_) λH4 vs s4 U9 p5=>?_
 . exact⟨_,rfl,_,rfl,z.1,_,0,_,rfl,rfl,aH.of (s9 _ _ (i6 B4 z hz)),iR,bt,_,rfl,kE (.inl (s9 _ _ q3)) (Su z.2 (acq hz).2),hY _ _ (λ_ _ h=>h) rfl⟩
 rw[fZ]at p5
 have ev:=fU p5
 rw[show ((t4.zip S.keepers).map λz=>V.int (aY ((M.keepers.map (·.1)).zip iV) z.2.1))=((t4.zip S.keepers).map (·.2)).map (λr=>V.int (aY ((M.keepers.map (·.1)).zip iV) r.1)) from by rw[aa1];rfl,uV,show (S.keepers.map λr=>V.int (aY ((M.keepers.map (·.1)).zip iV) r.1))=(ji M S iV).map V.int from by unfold ji;rw[aa1];rfl]at ev
 subst ev
 refine⟨D2,_,rfl,.inl ⟨aq.of U9,λB6 Va=>?_⟩⟩
 have s5:ag H4 (upd H4 B6 (.tup ((ji M S iV).map V.int))):=ag.ak Va
 have q5:(upd H4 B6 (.tup ((ji M S iV).map V.int))) B6=some (.tup ((ji M S iV).map V.int)):=ae
 generalize upd H4 B6 (.tup ((ji M S iV).map V.int))=H5 at s5 q5 ⊢
 have tM:=s4.trans s5
 have nu:=jd.trans tM
 have Yh:=tM _ _ q3
 have Vb:H5 B5=some (.tup (iV.map V.int)):=((s2.trans s3).trans tM) _ _ lS
 have Sv:=hS.same nu
 obtain⟨t6,h6,p6⟩:=id Sv.kp
 have FX:=iU p6
 have l6:=FX.length
 refine⟨_,rfl,sm,.ref b2,rfl,aX.k (k:=.inr "keepers") Sv.top,b2,rfl,⟨_,aq.of h6⟩,gz (xs:=t6.map V.ref) (λi σ Hi=>∃v8 v9,σ=[some (.ref a),some (.ref m),some (.ref sm),some (.ref d),some (.ref p),some (.ref B5),some (.ref bt),some (.ref B6),v8,v9,none,none,none,none,none,none]/\Hi=H5) ⟨_,_,rfl,rfl⟩ (λi σ Hi _ ⟨_,_,_,e⟩=>by rw[e];exact aq.of h6) ?_ ?_⟩
 . rintro i x σ Hi hx ⟨v8,v9,rfl,rfl⟩
   rw[aan]at hx
   cases ht:t6[i]? with
   | none=>rw[ht]at hx;cases hx
   | some t=>
    rw[ht]at hx
    cases hx
    have yd:i<S.keepers.length:=by have:=(aas.mp ht).1;lia
    have eJ:S.keepers[i]?=some S.keepers[i]:=aad yd
    obtain⟨t',je,eS⟩:=i3 FX eJ
    rw[ht]at je
    cases je
    generalize Jv:S.keepers[i]=r at eJ eS
    have jv:=aaT eJ
    refine⟨t,_,rfl,aH.of eS,rfl,_,_,rfl,_,_,rfl,rfl,?_⟩
    refine⟨_,rfl,_,rfl,?_⟩
    rcases FV.f r (al.kp r jv) with e|e
    . rw[e]
      exact bQ (bQ ⟨_,_,rfl,rfl⟩)
    . rw[e]
      refine fJ ⟨_,rfl,_,rfl,bt,_,rfl,kE (.inl Yh) (Su r jv),_,rfl,_,_,rfl,rfl,_,rfl,?_⟩
      show (if (!decide (aY ((M.keepers.map (·.1)).zip iV) r.1=aY ((M.keepers.map (·.1)).zip iV) r.1))=true then _ else _)
      rw[aaU rfl]
      exact bQ ⟨_,_,rfl,rfl⟩
 rintro σ Hi ⟨v8,v9,rfl,rfl⟩
 refine⟨5,rfl,by decide,by decide,ib (n:=5) (λi σ Hi=>∃(v8 v9 v10 v11 p0 p8 Ov Ow:Option V) (st ot:Addr) (cs:List Int),σ=[some (.ref a),some (.ref m),some (.ref sm),some (.ref d),some (.ref p),some (.ref st),some (.ref bt),some (.ref ot),v8,v9,v10,v11,p0,p8,Ov,Ow]/\ag H Hi/\aH K Hi st (cs.map V.int)/\aH K Hi ot ((ji M S cs).map V.int)/\iI M.keepers.length cs/\I cs) ?_ ?_ ?_⟩
 . exact⟨_,_,_,_,_,_,_,_,B5,B6,iV,rfl,nu,aH.of Vb,aH.of q5,FV.n,al.st iV FV⟩
 . rintro i σ Hi hi ⟨v8,v9,v10,v11,p0,p8,Ov,Ow,st,ot,cs,rfl,si,lS,Sw,qA,hI⟩
   have tK:=hM.same si
   have hSi:=hS.same si
   refine⟨_,rfl,m,.ref a1,rfl,aX.k (k:=.inr "switches") tK.top,a1,_,rfl,.inl (aq.of tK.sw),M.switches.length,by rw[aaa],by lia,by have:=fw.n1;lia,λD hD=>?_⟩
   refine gr M.switches.length (λj acc bo H9=>(∃u,bo=u::o8 [some 0,some 10] _)/\ag Hi H9/\∃bs:List Int,acc=bs.map V.int/\bs.length=j/\∀b∈bs,b=0\/b=1) ⟨⟨none,rfl⟩,λb o hb=>by rw[ah (af hb hD)];exact hb,[],rfl,rfl,λ_ h=>(nomatch h)⟩ ae ?_ ?_
   rotate_left
   . rintro j acc bo H9 hj bf ⟨⟨u,rfl⟩,s9,bs,rfl,jM,uu⟩
     refine⟨hj,?_⟩
     rintro x H' ⟨rfl,rfl⟩
     refine fg ?_
     have Yi:=ag.seq (si.trans s9) ha
     refine⟨_,rfl,_,rfl,_,_,rfl,rfl,a,ns,_,rfl,Yi,(by lia),λc=>⟨_,rfl,c,_,rfl,by lia,by have:=fw.n1;lia,λv v0 v1=>?_⟩⟩
     refine⟨_,_,rfl,rfl,⟨by decide,by decide⟩,_,_,rfl,rfl,(by show (0:Int)<2;decide),_,bf,(by rw[aaa];have:=fw.n1;exact small (by lia)),cp hj ae ⟨⟨_,rfl⟩,λb o hb=>by rw[ah (af hb hD)];exact s9 _ _ hb,bs++[v / 7 % 2],by rw[aag];rfl,by rw[aaf,aat,jM],λb hb=>?_⟩⟩
     rcases aae.mp hb with q|q
     . exact uu b q
     . rw[aai.mp q];lia
   rintro acc bo J1 bf ⟨_,w1,bs,rfl,jM,uu⟩
   refine⟨aah _,?_⟩
   have FY:iI M.switches.length bs:=⟨jM.symm,uu⟩
   have Ox:=tK.same w1
   refine⟨_,rfl,m,.ref a1,rfl,aX.k (k:=.inr "switches") Ox.top,_,rfl,a1,D,M.switches.map (Sum.inr:Str->Key),bs.map V.int,rfl,aq.of (by rw[Ox.sw,aa1];rfl),aq.of bf,by simp only[aaa];lia,λip Yj=>?_⟩
   rw[wk,show bE [] (cY (M.switches.zip bs))=cY (M.switches.zip bs) from rq _ [] (by rw[abV,cS jM.symm];exact sd)]
   have w2:ag J1 (upd J1 ip (.dK (cY (M.switches.zip bs)))):=ag.ak Yj
   have r2:(upd J1 ip (.dK (cY (M.switches.zip bs)))) ip=some (.dK (cY (M.switches.zip bs))):=ae
   generalize upd J1 ip (.dK (cY (M.switches.zip bs)))=J2 at w2 r2 ⊢
   have B7:=w1.trans w2
   have Oy:=si.trans B7
   refine⟨_,rfl,_,rfl,_,rfl,m,a1,a2,a3,a4,a5,a6,st,D,M,names,bs,cs,rfl,hM.same Oy,(fw.fm ok).fit FY qA,ag.ku B7 lS,aq.of (w2 _ _ bf),λvd J3 nvd w3 Yk=>?_⟩
   have FO:=Oy.trans w3
   have HV:=hS.same FO
   refine⟨_,rfl,sm,.ref b1,rfl,aX.k (k:=.inr "switches") HV.top,b1,rfl,⟨_,aq.of HV.sw⟩,λD3 ly=>?_⟩
   refine i4 (xs:=S.switches) (kp:=λ_=>true) (y:=λn=>.inl (.int (aY (M.switches.zip bs) n))) V.str (by have:=lI.n1;lia) HV.sw ly (λn hn H9 s9=>rw_yes λY hY=>?_) λJ4 vs w4 pk p7=>?_
   . exact⟨_,rfl,_,rfl,ip,_,rfl,kE (.inl (s9 _ _ (w3 _ _ r2))) (by rw[cS jM.symm];exact al.sw n hn),hY _ _ (λ_ _ h=>h) rfl⟩
   rw[fZ]at p7
   have ev:=fU p7
   rw[show (S.switches.map λn=>V.int (aY (M.switches.zip bs) n))=(nK M S bs).map V.int from by unfold nK;rw[aa1];rfl]at ev
   subst ev
   have FQ:=FO.trans w4
   have B8:=w3.trans w4
   refine⟨_,rfl,_,rfl,_,rfl,sm,b1,b2,b3,b4,b5,b6,ot,D3,S,vF,nK M S bs,ji M S cs,rfl,hS.same FQ,(lI.fm qf).fit (AF uu) (AG qA.2),ag.ku (B7.trans B8) Sw,aq.of pk,λOz J5 Yl w5 Ym=>?_⟩
   have AB:=FQ.trans w5
   have d5:=AB _ _ hd
   refine⟨_,rfl,d,_,rfl,d5,λo=>?_⟩
   have ff:(upd J5 d (.bK o (.dK (l.map λn=>((.inr n:Key),fv n))))) d=some (.bK o (.dK (l.map λn=>((.inr n:Key),fv n)))):=ae
   have nn:∀{b:Addr}{ob:HO},J5 b=some ob->b≠d->(upd J5 d (.bK o (.dK (l.map λn=>((.inr n:Key),fv n))))) b=some ob:=λhb hn=>by rw[ah hn];exact hb
   have Yn:J5 vd=some (.dK (cY (bJ M bs cs M.gates.length))):=(w4.trans w5) _ _ Yk
   have Yo:vd≠d:=(af (Oy _ _ hd) nvd).symm
   have Vc:Oz≠d:=(af (FQ _ _ hd) Yl).symm
   have Sx:=nn Yn Yo
   have Sy:=nn Ym Vc
   generalize Yp:upd J5 d (.bK o (.dK (l.map λn=>((.inr n:Key),fv n))))=Jf at ff Sx Sy ⊢
   refine Hh (λj bo Hj=>∃OA,bo=[some (.ref a),some (.ref m),some (.ref sm),some (.ref d),some (.ref p),some (.ref st),some (.ref bt),some (.ref ot),OA,v9,some (.int (0+(i:Int))),some (.ref D),some (.ref ip),some (.ref vd),some (.ref D3),some (.ref Oz)]/\ag Jf Hj) ⟨_,rfl,λ_ _ h=>h⟩ (λj bo Hj _ ⟨_,_,sj⟩=>sj _ _ ff) ?_ ?_
   . rintro j kv bo Hj iO ⟨OA,rfl,sj⟩
     rw[aan]at iO
     cases OB:l[j]? with
     | none=>rw[OB]at iO;cases iO
     | some n=>
      rw[OB]at iO
      cases iO
      have lx:=aaT OB
      have vn:=oG (f:=fv) lx
      have Sz:Rd Hj d (.dK (l.map λn=>((.inr n:Key),fv n))):=.inr ⟨_,sj _ _ ff⟩
      refine⟨_,rfl,_,rfl,d,fv n,rfl,.inl ⟨_,.inr n,Sz,rfl,vn.symm⟩,_,rfl,?_⟩
      rcases al.fv n lx with e|⟨z,e⟩
      . rw[e]
        exact bQ (bQ ⟨_,rfl,sj⟩)
      . obtain⟨z1,z2⟩:=al.vs bs cs FY qA hI n lx z e
        have Yq:n∈(bJ M bs cs M.gates.length).map (·.1):=by rw[fh jM.symm qA.1,abp];exact al.ln n lx
        rw[e]at vn ⊢
        refine fJ ⟨_,rfl,_,rfl,_,rfl,d,.str z,rfl,.inl ⟨_,.inr n,Sz,rfl,vn.symm⟩,Oz,_,z,rfl,.inl (sj _ _ Sy),z1,λHk sk=>⟨_,rfl,_,rfl,vd,_,rfl,kE (.inl (sk _ _ (sj _ _ Sx))) Yq,_,_,rfl,rfl,_,rfl,?_⟩⟩
        show (if (!decide (cz _ z=aY _ n))=true then _ else _)
        rw[aaU z2]
        exact bQ ⟨_,rfl,sj.trans sk⟩
   rintro bo Hj ⟨OA,rfl,sj⟩
   refine⟨d,o,_,sj _ _ ff,λo' u z=>?_,?_⟩
   . have z':H d=some (.bK o' u):=z
     rw[hd]at z'
     cases z'
   have FZ:ag J5 (upd Hj d (.dK (l.map λn=>((.inr n:Key),fv n)))):=jQ d5 (by rw[Yp];exact sj)
   generalize upd Hj d (.dK (l.map λn=>((.inr n:Key),fv n)))=J6 at FZ ⊢
   have qe:=AB.trans FZ
   have SA:ag Hi J6:=((B7.trans B8).trans w5).trans FZ
   refine⟨_,rfl,_,rfl,_,rfl,m,a1,a2,a3,a4,a5,a6,st,D,M,names,bs,cs,rfl,hM.same qe,(fw.fm ok).fit FY qA,ag.ku SA lS,aq.of (((w2.trans B8).trans (w5.trans FZ)) _ _ bf),λpR J7 nst w7 Yr=>?_⟩
   refine⟨_,rfl,_,rfl,_,rfl,sm,b1,b2,b3,b4,b5,b6,ot,D3,S,vF,nK M S bs,ji M S cs,rfl,hS.same (qe.trans w7),(lI.fm qf).fit (AF uu) (AG qA.2),ag.ku (SA.trans w7) Sw,aq.of (((w5.trans FZ).trans w7) _ _ pk),λYs J8 not' w8 Yt=>?_⟩
   obtain⟨Aj,Cs⟩:=al.nx bs cs FY qA hI
   refine⟨_,_,_,_,_,_,_,_,pR,Ys,gQ M bs cs,rfl,(qe.trans w7).trans w8,aH.of (w8 _ _ Yr),aH.of ?_,(fw.fm ok).step FY qA,Aj⟩
   rw[← Cs]
   exact Yt
 . rintro σ Hi ⟨v8,v9,v10,v11,p0,p8,Ov,Ow,st,ot,cs,rfl,si,_⟩
   exact kk Hi si
end
noncomputable def JA(k:Nat):Str:=⟨#[97+k]⟩
noncomputable def sN(k:Nat):Str:="s" ++ JA k
noncomputable def kN(k:Nat):Str:="k" ++ JA k
noncomputable def gN(k:Nat):Str:="g" ++ JA (k / 26)++JA (k % 26)
noncomputable def mZ:List Str:=(List.range 12).map sN
noncomputable def AH:List Str:=(List.range 16).map kN
noncomputable def tN(i:Nat):List Str:=(List.range i).map gN
noncomputable def bZ(i:Nat):List Str:=mZ++AH++tN i
noncomputable def DJ(z:Str):Bool:=decide (1<=z.cps.toList.length) && (decide (z.cps.toList.length<=8) && z.cps.toList.all λc=>decide (97<=c) && decide (c<=122))
theorem AI{z:Str}(h:DJ z=true):aT z:=by
 unfold DJ at h
 rw[abu,abu,abb,abb,abK]at h
 refine⟨h.1,h.2.1,λc hc=>gA.mpr ?_⟩
 have:=h.2.2 c hc
 rw[abu,abb,abb]at this
 exact this
theorem DK:((bZ 60).all DJ)=true:=by decide+kernel
theorem rW:∀z∈bZ 60,aT z:=λz hz=>AI (abK.mp DK z hz)
theorem Li:(bZ 60).Nodup:=by decide+kernel
theorem AJ(i:Nat):tN (i+1)=tN i++[gN i]:=by
 unfold tN
 rw[adT,aag]
 rfl
theorem F0(i:Nat):bZ (i+1)=bZ i++[gN i]:=by
 unfold bZ
 rw[AJ,abo]
 simp only[abo]
theorem uv(i:Nat):(bZ i).length=28+i:=by
 unfold bZ mZ AH tN
 simp only[aaf,aaa,acR]
theorem AK{z:Str}{i:Nat}(h:z∈bZ i)(hi:i<=60):z∈bZ 60:=by
 unfold bZ at h ⊢
 rcases aae.mp h with h|h
 . exact aae.mpr (.inl h)
 . refine aae.mpr (.inr ?_)
   unfold tN at h ⊢
   obtain⟨k,hk,rfl⟩:=aak.mp h
   exact aak.mpr ⟨k,adm.mpr (by have:=adm.mp hk;omega),rfl⟩
theorem vG{k:Nat}(h:k<26):gn jK.cps.toList (k:Int)=some (97+k):=by
 refine fi ?_
 rw[vV]
 unfold aB
 rw[aan,List.getElem?_range h,Nat.add_comm]
 rfl
theorem Lj{α:Type}{xs:List α}{q:Nat}{v:α}(hq:q<xs.length)(h:xs[xs.length-1-q]?=some v):gn xs (-1-(q:Int))=some v:=by
 have e:qv xs.length (-1-(q:Int))=some (xs.length-1-q):=by
  unfold qv
  rw[aaY (by omega),aa4 (by omega)]
  congr 1
  omega
 unfold gn
 rw[e]
 exact h
theorem uw{names:List Str}{q:Nat}(hq:q<names.length):∃z∈names,gn (names.map V.str) (-1-(q:Int))=some (.str z):=by
 refine⟨names[names.length-1-q],abD _,Lj (by rw[aaa];exact hq) ?_⟩
 rw[aaa,aan,aad (by omega)]
 rfl
noncomputable def sg(d:Int):Str:=if d % 2=0 then "" else "~"
theorem JB(d:Int):gn [V.str "",.str "~"] (d % 2)=some (.str (sg d)):=by
 unfold sg
 rcases (show d % 2=0\/d % 2=1 by omega) with e|e
 . rw[e];rfl
 . rw[e];rfl
theorem F1{names:List Str}{z:Str}(d:Int)(h:z∈names):Lit names (sg d++z):=by
 refine .inr (.inr ⟨z,h,?_⟩)
 unfold sg
 rcases (show d % 2=0\/d % 2=1 by omega) with e|e
 . left
   rw[aa4 e]
   exact Br (by rw[n9,qE,abV])
 . right
   rw[aaY (by omega)]
theorem F6{z:Str}(d:Int)(h:aT z):(sg d).length+z.length<=sizeLine:=by
 have h8:=h.len
 have h1:(sg d).length<=1:=by
  unfold sg
  split
  . decide+kernel
  . decide+kernel
 exact gu (by omega)
noncomputable abbrev AL:Stmt:=top 26
noncomputable abbrev SD:List Str:=["_law_script", "_law_m", "_law_letters", "_law_k", "_law_switches", "_law_keepers", "_law_names", "_law_gates", "_law_n", "_law_first", "_law_second", "_law_nexts", "_law_wish"]
theorem lR:aK SD ["_law_script", "_law_m"] (aw AL):=⟨rfl,rfl,rfl,by decide+kernel,rfl,by decide+kernel,by decide+kernel⟩
theorem JC:(["_law_k", "_law_one", "_law_names"]:List Str).Nodup:=by decide+kernel
theorem kb{α β γ:Type} {F:α->β->Prop}{g:γ->β} : ∀{us:List α}{l:List γ},Paired (λt r=>F t (g r)) us l->Paired F us (l.map g)
 | _,_,.nil=>.nil
 | _,_,.cons h t=>.cons h (kb t)
section
variable {P:Program}{w:World}{K:W.Frag}{mg:Str->Option Value}{base:Heap}
noncomputable abbrev OC(P:Program)(w:World)(K:W.Frag)(mg:Str->Option Value)(base:Heap)(f:Addr)(cdv:Value)(A:Around)(outer:List Env)(s:Shared)(H:Hp)(E:XK):Cx:=
 (jj aZ P w K mg base SD "_law_great" (aw AL) f cdv A outer s H E).m8
theorem F8{f:Addr}(O:Own mg){cdv:Value}{A:Around}{outer:List Env}{s:Shared}{H:Hp}{E:XK}{Q:VK} :
 ∃tR:TS,gj (OC P w K mg base f cdv A outer s H E) (List.drop 7 (cu AL)) tR/\∀(H1:Hp) (v0 v1 v3 v8 v9 v10:Option V) (sw kp n g:Addr) (ts:List Addr) (gM:List (Str×V)) (gs:List (Str×Str×Str)),
  H1 sw=some (.lst (mZ.map V.str))->H1 kp=some (.lst (ts.map V.ref))->Paired (λt r=>H1 t=some (.tup (eZ r))) ts gM->gM.map (·.1)=AH->H1 n=some (.lst ((bZ 60).map V.str))->aE H1 g (gs.map dE)->
  (∀(m' a4 a5 a6:Addr) (nx:List (Str×Str)) (z:Str) (H':Hp),cb H' m' ⟨mZ,gM,gs,nx,[("far",z)],[]⟩ sw kp g a4 a5 a6->nx.map (·.1)=AH->(∀r∈nx,r.2∈bZ 60)->z∈bZ 60->ag H1 H'->Q (.ref m') H')->
  tR {nx:=λ_ H'=>Q .aM H',rt:=Q} [v0,v1,some (.str jK),v3,some (.ref sw),some (.ref kp),some (.ref n),some (.ref g),v8,v9,v10,none,none] H1:=by
 refine⟨_,aj (nh (i:=11) (N:=["_law_k", "_law_one", "_law_names"]) (js:=[none,none,some 6]) (g:=lK K 2 (dm (bO 0) (dm (bO 1) lJ))) lR.nd rfl rfl (by kernel_rfl) rfl (so rfl O.enum (aa (pv 5) ai))
  (λ_ _ _ _ _ _=>cN rfl (aA (ar (i:=0) JC rfl (Or.inl rfl) (.inr rfl)) (aA (ar (i:=1) JC rfl (Or.inl rfl) (.inr rfl)) cc))) (λ_ _ _ _ _ _=>bb)
  (λ_ _ _ _ _ _=>bF (aa (aF (r:=ck K) bT (pv 1) ao (λ_ _=>rfl)) (aa (aF (r:=qw K) bG (pv 2) (az qm (r8 nW ao) (pv 0)) (λ_ _=>rfl)) ai))))
  (aj (bq (i:=12) lR.nd rfl (Or.inl rfl) (cf (aa (bF (aa au (aa (aF bG (pv 6) (r8 nW ao) (λ_ _=>rfl)) ai))) ai)))
  (av (aJ (sh (eh au (pv 4) (eh au (pv 5) (eh au (pv 7) (eh au (pv 11) (eh au (pv 12) (eh au (cf ai) sf)))))) rfl rfl (by simp) (by decide))))),?_⟩
 intro H1 v0 v1 v3 v8 v9 v10 sw kp n g ts gM gs yQ AM nr hk hn hg kk
 have xD:gM.length=16:=by
  have:=congrArg List.length hk
  rw[aaa]at this
  rw[this]
  rfl
 have lT:=nr.length
 refine⟨_,rfl,kp,rfl,⟨_,aq.of AM⟩,λD hD=>?_⟩
 refine gr 16 (λj acc σ H3=>(∃(us:List Addr) (rs:List (Str×Str)),acc=us.map V.ref/\Paired (λt r=>H3 t=some (.tup (bx r))) us rs/\rs.map (·.1)=(gM.take j).map (·.1)/\us.length=j/\∀r∈rs,r.2∈bZ 60)/\(∃u v,σ=[u,v,some (.ref n)])/\ag H1 H3) ⟨⟨[],[],rfl,.nil,rfl,rfl,λ_ h=>(nomatch h)⟩,⟨none,none,rfl⟩,ag.ak hD⟩ ae ?_ ?_
 . rintro acc σ H3 bf ⟨⟨us,rs,rfl,eO,JD,_,y9⟩,_,iN⟩
   rw[aa8 (by omega),hk]at JD
   refine⟨⟨_,aq.of (iN _ _ AM),by rw[aaa,lT,xD];exact aah _⟩,?_⟩
   obtain⟨z,hz,mH⟩:=uw (names:=bZ 60) (q:=0) (by rw[uv];decide)
   refine⟨_,rfl,_,rfl,n,_,_,_,rfl,rfl,aq.of (iN _ _ hn),mH,(by show 2<=sizeLine;decide),λT hT=>?_⟩
   have t1:ag H3 (upd H3 T (.tup (bx ("far",z)))):=ag.ak hT
   have q1:(upd H3 T (.tup (bx ("far",z)))) T=some (.tup (bx ("far",z))):=ae
   have e1:([V.str "far",.str z]:List V)=bx ("far",z):=rfl
   rw[e1]
   generalize upd H3 T (.tup (bx ("far",z)))=J1 at t1 q1 ⊢
   refine⟨(by show 1<=sizeLine;decide),λa5 qa=>?_⟩
   have t2:ag J1 (upd J1 a5 (.lst [.ref T])):=ag.ak qa
   have q2:(upd J1 a5 (.lst [.ref T])) a5=some (.lst [.ref T]):=ae
   generalize upd J1 a5 (.lst [.ref T])=J2 at t2 q2 ⊢
   intro m hm
   have t3:ag J2 (upd J2 m (.dK [])):=ag.ak hm
   have q3:(upd J2 m (.dK [])) m=some (.dK []):=ae
   have nm:∀{b:Addr}{o:HO},J2 b=some o->b≠m:=λhb=>af hb hm
   generalize upd J2 m (.dK [])=J3 at t3 q3 ⊢
   refine⟨_,rfl,_,rfl,_,rfl,_,rfl,_,rfl,(by show 0<=sizeLine;decide),λa6 xA=>?_⟩
   have t4:ag J3 (upd J3 a6 (.lst [])):=ag.ak xA
   have q4:(upd J3 a6 (.lst [])) a6=some (.lst []):=ae
   generalize upd J3 a6 (.lst [])=J4 at t4 q4 ⊢
   have n6:a6≠m:=(af q3 xA).symm
   refine⟨t4 _ _ q3,[(.inr "switches",.ref sw),(.inr "keepers",.ref kp),(.inr "gates",.ref g),(.inr "nexts",.ref D),(.inr "nevers",.ref a5),(.inr "somes",.ref a6)],rfl,(by show 6<=15;decide),?_⟩
   have em:bE [] [((.inr "switches" : Key),V.ref sw),(.inr "keepers",.ref kp),(.inr "gates",.ref g),(.inr "nexts",.ref D),(.inr "nevers",.ref a5),(.inr "somes",.ref a6)]=h9 sw kp g D a5 a6:=by rfl
   rw[em]
   have Yu:=t3.trans t4
   have rX:=t1.trans t2
   have up:∀b o,J2 b=some o->(upd J4 m (.dK (h9 sw kp g D a5 a6))) b=some o:=λb o hb=>by
    rw[ah (nm hb)]
    exact Yu _ _ hb
   have OD:ag J2 (upd J4 m (.dK (h9 sw kp g D a5 a6))):=up
   have tM:=rX.trans OD
   have Ga:=iN.trans tM
   refine kk m D a5 a6 rs z _ ⟨ae,Ga _ _ yQ,⟨ts,Ga _ _ AM,?_⟩,hg.same Ga,⟨us,tM _ _ bf,?_⟩,⟨[T],OD _ _ q2,.cons (OD _ _ (t2 _ _ q1)) .nil⟩,⟨[],by rw[ah n6];exact q4,.nil⟩⟩ JD y9 hz Ga
   . exact kb (Paired.bj nr λt r e=>Ga _ _ e)
   . exact kb (Paired.bj eO λt r e=>tM _ _ e)
 . rintro j acc σ H3 hj bf ⟨⟨us,rs,rfl,eO,JD,kg,y9⟩,⟨u,v,rfl⟩,iN⟩
   have Oq:j<gM.length:=by omega
   have SE:gM[j]?=some gM[j]:=aad Oq
   obtain⟨t,ht,hT⟩:=gw nr (i:=j) SE
   have hx:(ts.map V.ref)[j]?=some (.ref t):=by rw[aan,ht];rfl
   refine⟨⟨_,_,aq.of (iN _ _ AM),hx⟩,?_⟩
   rintro x H' ⟨Tp,xv,rfl,pW,rfl,fE⟩
   have ex:=fE _ (aq.of (iN _ _ AM))
   rw[hx]at ex
   cases ex
   refine⟨Tp,_,rfl,aH.of ae,rfl,_,_,rfl,_,_,rfl,rfl,qR ?_⟩
   have t1:ag H3 (upd H3 Tp (.tup [.int (j:Int),.ref t])):=ag.ak pW
   generalize upd H3 Tp (.tup [.int (j:Int),.ref t])=J1 at t1 ⊢
   have qD:=iN.trans t1
   obtain⟨z,hz,mH⟩:=uw (names:=bZ 60) (q:=j) (by rw[uv];omega)
   refine⟨_,rfl,t,_,0,_,rfl,rfl,aH.of (qD _ _ hT),iR,_,rfl,_,rfl,_,rfl,_,_,rfl,rfl,n,_,_,_,rfl,rfl,aq.of (qD _ _ hn),mH,(by show 2<=sizeLine;decide),λT Yv=>?_⟩
   have t2:ag J1 (upd J1 T (.tup (bx (gM[j].1,z)))):=ag.ak Yv
   have q2:(upd J1 T (.tup (bx (gM[j].1,z)))) T=some (.tup (bx (gM[j].1,z))):=ae
   have e2:([V.str gM[j].1,.str z]:List V)=bx (gM[j].1,z):=rfl
   rw[e2]
   generalize upd J1 T (.tup (bx (gM[j].1,z)))=J2 at t2 q2 ⊢
   have rX:=t1.trans t2
   have iM:=rX _ _ bf
   have nt:∀{b:Addr}{o:List V},J2 b=some (.tup o)->b≠D:=λhb e=>by rw[e,iM]at hb;cases hb
   refine⟨_,iM,(by rw[aaa];exact small (by omega)),cp hj ae ⟨⟨us++[T],rs++[(gM[j].1,z)],by rw[aag];rfl,ab8 (Paired.bj eO λb r e=>?_) ?_,?_,?_,?_⟩,⟨_,_,rfl⟩,λy o hy=>?_⟩⟩
   . rw[ah (nt (rX _ _ e))]
     exact rX _ _ e
   . rw[ah (nt q2)]
     exact q2
   . rw[aag,JD,abL,SE,aag]
     rfl
   . rw[aaf,aat,kg]
   . intro r hr
     rcases aae.mp hr with h|h
     . exact y9 r h
     . rw[aai.mp h];exact hz
   . rw[ah (af hy hD)]
     exact rX _ _ (iN _ _ hy)
end
theorem Q4(i:Nat)(h:i<60):("g" : Str)++⟨#[97+i / 26]⟩++⟨#[97+i % 26]⟩=gN i:=rfl
section
variable {P:Program}{w:World}{K:W.Frag}{mg:Str->Option Value}{base:Heap}
structure JE(P:Program) (w:World) (K:W.Frag) (mg:Str->Option Value) (base:Heap) (fC fX:Addr) (dC dX:FuncData):Prop where
 O:Own mg
 gC:aP P w K mg base aZ 1 fC dC ["_law_script", "_law_k"] (qF K)
 mC:mg "_law_cell_at" = some (.ref fC)
 kC:W.keepIn K (.ref fC)=true
 bC:Binds K dC ["_law_script", "_law_k"] []
 gX:aP P w K mg base aZ 1 fX dX ["_law_cell", "_law_k"] uR
 mX:mg "_law_mix" = some (.ref fX)
 kX:W.keepIn K (.ref fX)=true
 bX:Binds K dX ["_law_cell", "_law_k"] []
variable {fC fX:Addr}{dC dX:FuncData}
theorem Gb{f:Addr}(G:JE P w K mg base fC fX dC dX){cdv:Value}{A:Around}{outer:List Env}{s:Shared}{H:Hp}{E:XK}{Q:VK}(hr:aW 1 (A.deeper (PyProof.Rows.envOfC "_law_great" (aw AL) s.heap.objs.size f cdv))) :
 ∃tR:TS,gj (OC P w K mg base f cdv A outer s H E) (List.drop 5 (cu AL)) tR/\∀(H1:Hp) (v1 v3:Option V) (a sw kp n:Addr) (ns:List Int) (ts:List Addr) (gM:List (Str×V)),
  (∀J,aI H1 J n->aq K J a (ns.map V.int))->H1 sw=some (.lst (mZ.map V.str))->sw≠n->H1 kp=some (.lst (ts.map V.ref))->kp≠n->Paired (λt r=>H1 t=some (.tup (eZ r))) ts gM->gM.map (·.1)=AH->(∀r∈gM,r.2=.int 0\/r.2=.int 1\/r.2=.aM)->H1 n=some (.lst ((bZ 0).map V.str))->
  (∀(m' a1 a2 a3 a4 a5 a6:Addr) (M:ax) (H':Hp),cb H' m' M a1 a2 a3 a4 a5 a6->aG M (bZ 60)->j8 M->aI H1 H' n->Q (.ref m') H')->
  tR {nx:=λ_ H'=>Q .aM H',rt:=Q} [some (.ref a),v1,some (.str jK),v3,some (.ref sw),some (.ref kp),some (.ref n),none,none,none,none,none,none] H1:=by
 obtain⟨tB,hB,rB⟩:=F8 (P:=P) (w:=w) (K:=K) (base:=base) (f:=f) G.O (cdv:=cdv) (A:=A) (outer:=outer) (s:=s) (H:=H) (E:=E) (Q:=Q)
 refine⟨_,aj (bq (i:=7) lR.nd rfl (Or.inl rfl) (cf ai))
  (aj (dU aa6 rfl (dh rfl G.O.range (aa ao ai)) (ar (i:=3) lR.nd rfl (Or.inl rfl))
   (aj (bq (i:=8) lR.nd rfl (Or.inl rfl) (aU G.gX hr rfl G.mX G.kX G.bX .nil bw (aa (aU G.gC hr rfl G.mC G.kC G.bC .nil bw (aa (pv 0) (aa (az eV ao (az dY (pv 3) ao)) ai))) (aa (pv 3) ai))))
   (aj (bq (i:=9) lR.nd rfl (Or.inl rfl) (az cm (aF bG (cf (aa au (aa au ai))) (az dY (pv 8) ao) (λ_ _=>rfl)) (aF bG (pv 6) (az qm (r8 nW ao) (az dY (az jG (pv 8) ao) ao)) (λ_ _=>rfl))))
   (aj (bq (i:=10) lR.nd rfl (Or.inl rfl) (az cm (aF bG (cf (aa au (aa au ai))) (az dY (az jG (pv 8) ao) ao) (λ_ _=>rfl)) (aF bG (pv 6) (az dY (az jG (pv 8) ao) (ef cy (by rfl) G.O.len abS (aa (pv 6) ai))) (λ_ _=>rfl))))
   (aj (dg (eY aaX abd abe dj (pv 7) (aa (bF (aa (az cm (az cm au (aF lq (pv 2) (az jG (pv 3) ao) (λ_ _=>rfl))) (aF lq (pv 2) (az dY (pv 3) ao) (λ_ _=>rfl))) (aa (pv 9) (aa (pv 10) ai)))) ai)))
   (av (dg (eY aaX abd abe dj (pv 6) (aa (aF bT (aF bG (pv 7) (r8 nW ao) (λ_ _=>rfl)) ao (λ_ _=>rfl)) ai))))))))) hB),?_⟩
 intro H1 v1 v3 a sw kp n ns ts gM hS yQ Yw AM Yx nr hk Vd hn kk
 have xD:gM.length=16:=by
  have:=congrArg List.length hk
  rw[aaa]at this
  rw[this]
  rfl
 refine⟨(by show 0<=sizeLine;decide),λg hg=>?_⟩
 have t0:ag H1 (upd H1 g (.lst [])):=ag.ak hg
 have q0:(upd H1 g (.lst [])) g=some (.lst (([]:List Addr).map V.ref)):=ae
 have SF:n≠g:=af hn hg
 generalize upd H1 g (.lst [])=H0 at t0 q0 ⊢
 have hn0:=t0 _ _ hn
 refine⟨60,rfl,by decide,by decide,ib (n:=60) (λi σ Hi=>∃(v3 v8 v9 v10:Option V) (us:List Addr) (gs:List (Str×Str×Str)),σ=[some (.ref a),v1,some (.str jK),v3,some (.ref sw),some (.ref kp),some (.ref n),some (.ref g),v8,v9,v10,none,none]/\
  Hi n=some (.lst ((bZ i).map V.str))/\Hi g=some (.lst (us.map V.ref))/\Paired (λt r=>Hi t=some (.tup (dE r))) us gs/\gs.map (·.1)=tN i/\(∀(j:Nat) (r:Str×Str×Str),gs[j]?=some r->Lit (bZ j) r.2.1/\Lit (bZ j) r.2.2)/\aI H1 Hi n) ?_ ?_ ?_⟩
 . exact⟨_,none,none,none,[],[],rfl,hn0,q0,.nil,rfl,(λ_ _ h=>by simp at h),ag.keep t0 n⟩
 . rintro i σ Hi hi ⟨Sn,v8,v9,v10,us,gs,rfl,oO,Gd,eO,vj,lO,AN⟩
   have sW:gs.length=i:=by
    have:=congrArg List.length vj
    rw[aaa]at this
    rw[this]
    unfold tN
    rw[aaa,acR]
   have kg:=eO.length
   have jg:=uv i
   have S:∀{J:Hp},ag Hi J->aq K J a (ns.map V.int):=λs'=>ag.seq s' (hS _ AN)
   have e0:(0+(i:Int))=(i:Int):=ae9 _
   rw[e0]
   have m50:(0:Int)<=(i:Int) % 50:=abW _ (by decide)
   refine⟨_,rfl,_,rfl,_,_,rfl,rfl,(by show (0:Int)<50;decide),_,_,rfl,rfl,a,ns,_,rfl,S (λ_ _ h=>h),(by omega),λc=>⟨_,rfl,c,_,rfl,by omega,by omega,λd d0 d1=>?_⟩⟩
   refine⟨(by show 2<=sizeLine;decide),λp1 EI=>?_⟩
   have t1:ag Hi (upd Hi p1 (.lst [.str "",.str "~"])):=ag.ak EI
   have q1:(upd Hi p1 (.lst [.str "",.str "~"])) p1=some (.lst [.str "",.str "~"]):=ae
   generalize upd Hi p1 (.lst [.str "",.str "~"])=J1 at t1 q1 ⊢
   have b0:0<=d / 2 % 2:=abW _ (by decide)
   have b1:d / 2 % 2<2:=abP _ (by decide)
   obtain⟨z1,xG,OE⟩:=uw (names:=bZ i) (q:=(d / 2 % 2).toNat) (by omega)
   rw[show (((d / 2 % 2).toNat:Nat):Int)=d / 2 % 2 by omega]at OE
   have Yy:=rW z1 (AK xG (by omega))
   refine⟨_,rfl,_,_,rfl,rfl,(by show (0:Int)<2;decide),p1,_,_,_,rfl,rfl,aq.of q1,JB d,_,rfl,_,rfl,_,rfl,_,_,rfl,rfl,⟨by decide,by decide⟩,_,_,rfl,rfl,(by show (0:Int)<2;decide),_,_,rfl,rfl,n,_,_,_,rfl,rfl,aq.of (t1 _ _ oO),OE,_,_,rfl,rfl,F6 d Yy,?_⟩
   refine⟨(by show 2<=sizeLine;decide),λp2 gk=>?_⟩
   have t2:ag J1 (upd J1 p2 (.lst [.str "",.str "~"])):=ag.ak gk
   have q2:(upd J1 p2 (.lst [.str "",.str "~"])) p2=some (.lst [.str "",.str "~"]):=ae
   generalize upd J1 p2 (.lst [.str "",.str "~"])=J2 at t2 q2 ⊢
   have JF:=t1.trans t2
   have c0:0<=d / 8 % ((bZ i).length:Int):=abW _ (by omega)
   have c1:d / 8 % ((bZ i).length:Int)<((bZ i).length:Int):=abP _ (by omega)
   have SG:(((bZ i).map V.str).length:Int)=((bZ i).length:Int):=by rw[aaa]
   have lU:(d / 8 % ((bZ i).length:Int)).toNat<(bZ i).length:=by omega
   have Yz:=rW _ (AK (abD lU) (by omega))
   refine⟨_,rfl,_,_,rfl,rfl,⟨by decide,by decide⟩,_,_,rfl,rfl,(by show (0:Int)<2;decide),p2,_,_,_,rfl,rfl,aq.of q2,JB (d / 4),_,rfl,_,rfl,_,_,rfl,rfl,⟨by decide,by decide⟩,_,rfl,n,_,rfl,.inl (aq.of (JF _ _ oO)),_,_,rfl,rfl,(by rw[SG];omega),n,_,_,_,rfl,rfl,aq.of (JF _ _ oO),(by rw[SG];exact y0 c0 lU),_,_,rfl,rfl,F6 (d / 4) Yz,?_⟩
   generalize YA:sg d++z1=l1
   generalize NJ:sg (d / 4)++(bZ i)[(d / 8 % ((bZ i).length:Int)).toNat]=l2
   have L1:Lit (bZ i) l1:=by rw[← YA];exact F1 d xG
   have YB:Lit (bZ i) l2:=by rw[← NJ];exact F1 (d / 4) (abD lU)
   have YC:(i:Int) / 26=((i / 26:Nat):Int):=by omega
   have YD:(i:Int) % 26=((i % 26:Nat):Int):=by omega
   have la:jK.length<=sizeLine:=by decide+kernel
   refine⟨_,rfl,.inl ⟨rfl,_,aq.of (JF _ _ Gd)⟩,_,rfl,_,rfl,_,_,rfl,rfl,⟨by decide,by decide⟩,jK,_,97+i / 26,rfl,rfl,la,(by rw[YC];exact vG (by omega)),_,_,rfl,rfl,(by rw[iB];exact gu (by decide+kernel)),?_⟩
   refine⟨_,rfl,_,rfl,_,_,rfl,rfl,(by show (0:Int)<26;decide),jK,_,97+i % 26,rfl,rfl,la,(by rw[YD];exact vG (by omega)),_,_,rfl,rfl,(by rw[qI,iB,iB];exact gu (by decide+kernel)),_,rfl,_,rfl,(by show 3<=sizeLine;decide),λT hT=>?_⟩
   rw[Q4 i hi]
   have t3:ag J2 (upd J2 T (.tup (dE (gN i,l1,l2)))):=ag.ak hT
   have q3:(upd J2 T (.tup (dE (gN i,l1,l2)))) T=some (.tup (dE (gN i,l1,l2))):=ae
   have e3:([V.str (gN i),.str l1,.str l2]:List V)=dE (gN i,l1,l2):=rfl
   rw[e3]
   generalize upd J2 T (.tup (dE (gN i,l1,l2)))=J3 at t3 q3 ⊢
   have B9:=JF.trans t3
   refine⟨g,_,_,rfl,rfl,B9 _ _ Gd,(by rw[aaa];exact small (by omega)),?_⟩
   have nt:∀{b:Addr}{o:List V},J3 b=some (.tup o)->b≠g:=λhb e=>by rw[e,B9 _ _ Gd]at hb;cases hb
   have JG:∀{b:Addr}{o:List V},J3 b=some (.tup o)->b≠n:=λhb e=>by rw[e,B9 _ _ oO]at hb;cases hb
   have e4:(us.map V.ref++[V.ref T])=(us++[T]).map V.ref:=by rw[aag];rfl
   rw[e4]
   have q4:(upd J3 g (.lst ((us++[T]).map V.ref))) g=some (.lst ((us++[T]).map V.ref)):=ae
   have k4:∀b o,J3 b=some o->b≠g->(upd J3 g (.lst ((us++[T]).map V.ref))) b=some o:=λb o hb uz=>by rw[ah uz];exact hb
   generalize upd J3 g (.lst ((us++[T]).map V.ref))=J4 at q4 k4 ⊢
   have zh:=k4 _ _ (B9 _ _ oO) SF
   refine⟨_,rfl,.inl ⟨rfl,_,aq.of zh⟩,_,rfl,_,rfl,g,_,_,_,rfl,rfl,aq.of q4,(by rw[← e4];exact yK _ _),T,_,0,_,rfl,rfl,aH.of (k4 _ _ q3 (nt q3)),iR,?_⟩
   refine⟨n,_,_,rfl,rfl,zh,(by rw[aaa];exact small (by omega)),_,_,_,_,us++[T],gs++[(gN i,l1,l2)],rfl,?_,?_,?_,?_,?_,?_⟩
   . rw[ae,F0,aag]
     rfl
   . rw[ah SF.symm]
     exact q4
   . refine ab8 (Paired.bj eO λb r e=>?_) ?_
     . have e5:=B9 _ _ e
       rw[ah (JG e5)]
       exact k4 _ _ e5 (nt e5)
     . rw[ah (JG q3)]
       exact k4 _ _ q3 (nt q3)
   . rw[aag,vj,AJ]
     rfl
   . intro j r lX
     rcases aee j gs.length with h|h|h
     . rw[abt h]at lX
       exact lO j r lX
     . rw[h,abA (aah _),ae8]at lX
       cases lX
       rw[h,sW]
       exact⟨L1,YB⟩
     . rw[ab6 (by rw[aaf,aat];omega)]at lX
       cases lX
   . intro b o hb SH
     rw[ah SH]
     exact k4 _ _ (B9 _ _ (AN _ _ hb SH)) (af hb hg)
 . rintro σ Hi ⟨Sn,v8,v9,v10,us,gs,rfl,oO,Gd,eO,vj,lO,AN⟩
   have JG:∀{b:Addr}{o:List V},H1 b=some (.tup o)->b≠n:=λhb e=>by rw[e,hn]at hb;cases hb
   refine rB Hi _ _ _ _ _ _ sw kp n g ts gM gs (AN _ _ yQ Yw) (AN _ _ AM Yx) (Paired.bj nr λt r e=>AN _ _ e (JG e)) hk oO ⟨us,Gd,kb eO⟩ λm' a4 a5 a6 nx z H' hM u0 lx hz s'=>?_
   have sW:gs.length=60:=by
    have:=congrArg List.length vj
    rw[aaa]at this
    rw[this]
    rfl
   have hxl:nx.length=16:=by
    have:=congrArg List.length u0
    rw[aaa]at this
    rw[this]
    rfl
   have lit:∀{z:Str},z∈bZ 60->Lit (bZ 60) z:=λh=>.inr (.inr ⟨_,h,.inl rfl⟩)
   refine kk m' _ _ _ _ _ _ _ H' hM ⟨?_,rW,Li,Vd,λr hr=>?_,λr hr=>lit (lx r hr),by show (nx.map (·.1)).Nodup;rw[u0];decide+kernel,⟨λr hr=>?_,λr hr=>?_,λr hr=>(aaH:r.1∉[]),by show [("far" : Str)].Nodup;simp⟩,⟨λr hr=>(nomatch hr),λr hr=>(nomatch hr),λr hr=>(nomatch hr),acg⟩,λj r hr=>?_⟩
    ⟨by show mZ.length<=12;decide+kernel,by show gM.length<=16;omega,by show gs.length<=60;omega,by show nx.length<=16;omega,by show 1<=8;decide,by show 0<=8;decide⟩ (aI.trans AN (ag.keep s' n))
   . show bZ 60=mZ++gM.map (·.1)++gs.map (·.1)
     unfold bZ
     rw[hk,vj]
   . show r.1∈gM.map (·.1)
     rw[hk,← u0]
     exact aak.mpr ⟨r,hr,rfl⟩
   . rw[aai.mp hr]
     show aT "far"
     exact AI (by decide+kernel)
   . rw[aai.mp hr]
     exact lit hz
   . have hj:j<60:=by have h0:j<gs.length:=(aas.mp hr).1;omega
     have e:mZ++gM.map (·.1)++(gs.take j).map (·.1)=bZ j:=by
      unfold bZ
      rw[hk,acx,vj]
      congr 1
      unfold tN
      rw[← acx,List.take_range,aeI (by omega)]
     show Lit (mZ++gM.map (·.1)++(gs.take j).map (·.1)) r.2.1/\_
     rw[e]
     exact lO j r hr
end
theorem Ve:(["_law_k", "_law_letters"]:List Str).Nodup:=by decide+kernel
theorem Q5:(["_law_k", "_law_letters", "_law_script"]:List Str).Nodup:=by decide+kernel
theorem Lk{K:W.Frag}{H H':Hp}{a n:Addr}{o:HO}{xs:List V}(h:aq K H a xs)(hn:H n=none):∀J,aI (upd H n o) J n->aq K J a xs:=λJ k=>by
 rcases h with (h|⟨o,h⟩)|h
 . exact .inl (.inl (k a _ (by rw[ah (af h hn)];exact h) (af h hn)))
 . exact .inl (.inr ⟨o,k a _ (by rw[ah (af h hn)];exact h) (af h hn)⟩)
 . exact .inr h
theorem HW(v:Int):∃x,gn [V.int 0,.int 1,.aM] (v % 3)=some x/\(x=.int 0\/x=.int 1\/x=.aM):=by
 rcases (show v % 3=0\/v % 3=1\/v % 3=2 by omega) with e|e|e
 . rw[e];exact⟨_,rfl,.inl rfl⟩
 . rw[e];exact⟨_,rfl,.inr (.inl rfl)⟩
 . rw[e];exact⟨_,rfl,.inr (.inr rfl)⟩
theorem Ll(j:Nat):((List.range (j+1)).map sN)=(List.range j).map sN++[sN j]:=by rw[adT,aag];rfl
theorem Lm(j:Nat):((List.range (j+1)).map kN)=(List.range j).map kN++[kN j]:=by rw[adT,aag];rfl
noncomputable def wN(K:W.Frag):Sp:=λvs H Q _=>∃(a m a1 a2 a3 a4 a5 a6:Addr) (ns:List Int) (M:ax),vs=[.ref a,.ref m]/\aq K H a (ns.map V.int)/\cb H m M a1 a2 a3 a4 a5 a6/\(∃names,aG M names)/\j8 M/\
 ∀(m' a1 a2 a3 a4 a5 a6:Addr) (M:ax) (names:List Str) (H':Hp),cb H' m' M a1 a2 a3 a4 a5 a6->aG M names->j8 M->ag H H'->Q (.ref m') H'
section
variable {P:Program}{w:World}{K:W.Frag}{mg:Str->Option Value}{base:Heap}{fC fX:Addr}{dC dX:FuncData}
theorem HX{f:Addr}{fd:FuncData}(F:aQ K "_law_great" "_law_great" AL f fd)(G:JE P w K mg base fC fX dC dX):aP P w K mg base aZ 2 f fd ["_law_script", "_law_m"] (wN K):=by
 refine F.ok lR (λvs H Q E h=>?_) (λcdv A outer s H vs Q E hr h=>?_)
 . obtain⟨a,m,a1,a2,a3,a4,a5,a6,ns,M,rfl,_⟩:=h
   rfl
 . obtain⟨a,m,a1,a2,a3,a4,a5,a6,ns,M,rfl,hS,hM,⟨names,hG⟩,YE,kk⟩:=h
   obtain⟨tB,hB,rB⟩:=Gb G (outer:=outer) (H:=H) (E:=E) (Q:=Q) hr
   refine⟨_,aj (cU (bh yi (az dY (aU G.gX hr rfl G.mX G.kX G.bX .nil bw (aa (aU G.gC hr rfl G.mC G.kC G.bC .nil bw (aa (pv 0) (aa ao ai))) (aa ao ai))) ao) ao (cQ _)) (av (aJ (pv 1))) bN)
    (aj (bq (i:=2) lR.nd rfl (Or.inr rfl) au)
    (aj (nh (i:=4) (N:=["_law_k", "_law_letters"]) (js:=[none,some 2]) lR.nd rfl rfl (by kernel_rfl) rfl (dh rfl G.O.range (aa ao ai)) (λ_ _ _ _ _ _=>ar (i:=0) Ve rfl (Or.inl rfl) (.inr rfl)) (λ_ _ _ _ _ _=>bb)
     (λ_ _ _ _ _ _=>az cm au (aF lq (pv 1) (pv 0) (λ_ _=>rfl))))
    (aj (nh (i:=5) (N:=["_law_k", "_law_letters", "_law_script"]) (js:=[none,some 2,some 0]) lR.nd rfl rfl (by kernel_rfl) rfl (dh rfl G.O.range (aa ao ai)) (λ_ _ _ _ _ _=>ar (i:=0) Q5 rfl (Or.inl rfl) (.inr rfl)) (λ_ _ _ _ _ _=>bb)
     (λ_ _ _ _ _ _=>bF (aa (az cm au (aF lq (pv 1) (pv 0) (λ_ _=>rfl))) (aa (aF (r:=qw K) bG (cf (aa ao (aa ao (aa uB ai)))) (az dY (aU G.gX hr rfl G.mX G.kX G.bX .nil bw (aa (aU G.gC hr rfl G.mC G.kC G.bC .nil bw (aa (pv 2) (aa ao ai))) (aa (pv 0) ai))) ao) (λ_ _=>rfl)) ai))))
    (aj (bq (i:=6) lR.nd rfl (Or.inr rfl) (az hX (pv 4) (b8 (N:=["_law_one"]) (js:=[none]) (by kernel_rfl) rfl (ba (pv 5)) (λ_ _ _ _ _ _=>ar (i:=0) Mj rfl (Or.inl rfl) (.inr rfl)) (λ_ _ _ _ _ _=>bb) (λ_ _ _ _ _ _=>aF (r:=ck K) bT (pv 0) ao (λ_ _=>rfl))))) hB)))),?_⟩
   refine⟨_,rfl,a,ns,_,rfl,hS,by decide,λc=>⟨c,7,rfl,by decide,by decide,λd d0 d1=>⟨_,_,rfl,rfl,(by show (0:Int)<8;decide),_,_,rfl,rfl,_,rfl,j3 (λ_=>?_) (λ_=>?_)⟩⟩⟩
   . exact⟨_,rfl,kk m a1 a2 a3 a4 a5 a6 M names H hM hG YE (λ_ _ h=>h)⟩
   have la:jK.length<=sizeLine:=by decide+kernel
   refine⟨12,rfl,by decide,by decide,λD hD=>?_⟩
   refine gr 12 (λi acc σ H2=>acc=((List.range i).map sN).map V.str/\(∃v,σ=[v,some (.str jK)])/\H2=upd H D (.lst acc)) ⟨rfl,⟨none,rfl⟩,rfl⟩ ae ?_ ?_
   rotate_left
   . rintro i acc σ H2 hi bf ⟨rfl,⟨v,rfl⟩,rfl⟩
     refine⟨hi,?_⟩
     rintro x H' ⟨rfl,rfl⟩
     refine fg ?_
     rw[ae9]
     refine⟨_,rfl,_,rfl,jK,_,97+i,rfl,rfl,la,vG (by omega),_,_,rfl,rfl,(by rw[iB];exact gu (by decide+kernel)),_,ae,(by rw[aaa,aaa,acR];exact small (by omega)),cp hi ae ⟨?_,⟨_,rfl⟩,by rw[jF]⟩⟩
     rw[Ll,aag]
     rfl
   rintro acc σ H2 bf ⟨rfl,_,rfl⟩
   refine⟨aah _,?_⟩
   have s1:ag H (upd H D (.lst (mZ.map V.str))):=ag.ak hD
   have q1:(upd H D (.lst (mZ.map V.str))) D=some (.lst (mZ.map V.str)):=ae
   have e1:((List.range 12).map sN).map V.str=mZ.map V.str:=rfl
   rw[e1]
   generalize upd H D (.lst (mZ.map V.str))=H1 at s1 q1 ⊢
   clear bf e1
   refine⟨16,rfl,by decide,by decide,λD2 iM=>?_⟩
   refine gr 16 (λj acc σ H3=>(∃(us:List Addr) (ks:List (Str×V)),acc=us.map V.ref/\Paired (λt r=>H3 t=some (.tup (eZ r))) us ks/\ks.map (·.1)=(List.range j).map kN/\us.length=j/\∀r∈ks,r.2=.int 0\/r.2=.int 1\/r.2=.aM)/\(∃v,σ=[v,some (.str jK),some (.ref a)])/\ag H1 H3) ⟨⟨[],[],rfl,.nil,rfl,rfl,λ_ h=>(nomatch h)⟩,⟨none,rfl⟩,ag.ak iM⟩ ae ?_ ?_
   rotate_left
   . rintro j acc σ H3 hj bf ⟨⟨us,ks,rfl,eO,OF,kg,lA⟩,⟨v,rfl⟩,iN⟩
     refine⟨hj,?_⟩
     rintro x H' ⟨rfl,rfl⟩
     refine fg ?_
     rw[ae9]
     refine⟨_,rfl,_,rfl,jK,_,97+j,rfl,rfl,la,vG (by omega),_,_,rfl,rfl,(by rw[iB];exact gu (by decide+kernel)),(by show 3<=sizeLine;decide),λp hp=>?_⟩
     have t1:ag H' (upd H' p (.lst [.int 0,.int 1,.aM])):=ag.ak hp
     have r1:(upd H' p (.lst [.int 0,.int 1,.aM])) p=some (.lst [.int 0,.int 1,.aM]):=ae
     generalize upd H' p (.lst [.int 0,.int 1,.aM])=J1 at t1 r1 ⊢
     refine⟨_,rfl,a,ns,_,rfl,ag.seq ((s1.trans iN).trans t1) hS,by decide,λc=>⟨_,rfl,c,_,rfl,by omega,by omega,λd d0 d1=>?_⟩⟩
     obtain⟨xv,mH,YF⟩:=HW d
     refine⟨_,_,rfl,rfl,(by show (0:Int)<3;decide),p,_,_,xv,rfl,rfl,aq.of r1,mH,(by show 2<=sizeLine;decide),λT hT=>?_⟩
     have t2:ag J1 (upd J1 T (.tup (eZ (kN j,xv)))):=ag.ak hT
     have q2:(upd J1 T (.tup (eZ (kN j,xv)))) T=some (.tup (eZ (kN j,xv))):=ae
     have e2:([V.str ("k" ++ ⟨#[97+j]⟩),xv]:List V)=eZ (kN j,xv):=rfl
     rw[e2]
     generalize upd J1 T (.tup (eZ (kN j,xv)))=J2 at t2 q2 ⊢
     have rX:=t1.trans t2
     have ly:=rX _ _ bf
     have nt:∀{b:Addr}{o:List V},J2 b=some (.tup o)->b≠D2:=λhb e=>by rw[e,ly]at hb;cases hb
     refine⟨_,ly,(by rw[aaa];exact small (by omega)),cp hj ae ⟨⟨us++[T],ks++[(kN j,xv)],by rw[aag];rfl,ab8 (Paired.bj eO λb r e=>?_) ?_,?_,?_,?_⟩,⟨_,rfl⟩,λy o hy=>?_⟩⟩
     . rw[ah (nt (rX _ _ e))]
       exact rX _ _ e
     . rw[ah (nt q2)]
       exact q2
     . rw[aag,OF,Lm]
       rfl
     . rw[aaf,aat,kg]
     . intro r hr
       rcases aae.mp hr with h|h
       . exact lA r h
       . rw[aai.mp h];exact YF
     . rw[ah (af hy iM)]
       exact rX _ _ (iN _ _ hy)
   rintro acc σ H3 bf ⟨⟨us,ks,rfl,eO,OF,kg,lA⟩,_,iN⟩
   refine⟨aah _,?_⟩
   have hk:ks.map (·.1)=AH:=OF
   have jd:=s1.trans iN
   have xD:=eO.length
   refine⟨_,rfl,_,rfl,D2,rfl,⟨_,aq.of bf⟩,λD4 Bs=>?_⟩
   refine gr 16 (λj acc bo H4=>acc=((ks.take j).map (·.1)).map V.str/\(∃u,bo=[u])/\ag H3 H4) ⟨rfl,⟨none,rfl⟩,ag.ak Bs⟩ ae ?_ ?_
   rotate_left
   . rintro j acc bo H4 hj DL ⟨rfl,⟨u,rfl⟩,s4⟩
     have tm:ks[j]?=some ks[j]:=aad (by omega)
     obtain⟨t,ht,hT⟩:=gw eO (i:=j) tm
     have ej:(us.map V.ref)[j]?=some (.ref t):=by rw[aan,ht];rfl
     refine⟨⟨_,_,aq.of (s4 _ _ bf),ej⟩,?_⟩
     rintro x' H' ⟨rfl,fE⟩
     have ex:=fE _ (aq.of (s4 _ _ bf))
     rw[ej]at ex
     cases ex
     refine fg ?_
     refine⟨_,rfl,t,_,0,_,rfl,rfl,aH.of (s4 _ _ hT),iR,_,DL,(by rw[aaa,aaa,aa3];exact small (by omega)),cp hj ae ⟨?_,⟨_,rfl⟩,?_⟩⟩
     . rw[abL,tm,aag,aag]
       rfl
     . intro y o hy
       rw[ah (af hy Bs)]
       exact s4 y o hy
   rintro acc bo H4 DL ⟨rfl,_,s4⟩
   rw[aa8 (by omega),hk]at DL
   have tH:=iN.trans s4
   refine⟨⟨_,aq.of (s4 _ _ bf),by rw[aaa,kg];exact aah _⟩,D,D4,_,_,rfl,rfl,tH _ _ q1,DL,(by rw[aaa,aaa];exact iL (by decide+kernel)),λn hn=>?_⟩
   have e5:(mZ.map V.str++AH.map V.str)=(bZ 0).map V.str:=by
    rw[← aag]
    unfold bZ tN
    rw[List.range_zero,ace,abw]
   rw[e5]
   have kh:=jd.trans s4
   have tE:ag H4 (upd H4 n (.lst ((bZ 0).map V.str))):=ag.ak hn
   have nn:∀{b:Addr}{o:HO},H4 b=some o->b≠n:=λhb=>af hb hn
   refine rB _ _ _ a D D2 n ns us ks (Lk (H':=H4) (ag.seq kh hS) hn) (tE _ _ (tH _ _ q1)) (nn (tH _ _ q1)) (tE _ _ (s4 _ _ bf)) (nn (s4 _ _ bf)) (Paired.bj eO λt r e=>tE _ _ (s4 _ _ e)) hk lA ae λm' b1 b2 b3 b4 b5 b6 M' H' YG YH YI u7=>?_
   refine kk m' b1 b2 b3 b4 b5 b6 M' _ H' YG YH YI λb o hb=>?_
   have:=kh _ _ hb
   exact u7 _ _ (tE _ _ this) (nn this)
end
end Gen
namespace L2
open PySem PySem.Spec PyProof.Rows
theorem AO{X:Cx} : jw X (.builtin "isinstance") (λxs H Q=>∃x t C b,xs=[x,.ref C]/\jX X.K H x t/\W.kitOne X.K t (.ref C)=some b/\Q (.bl b) H):=by
 intro pins s σ H xs us Q I r h
 obtain⟨x,t,C,b,rfl,ty,e,q⟩:=h
 obtain⟨u,v,rfl,rx,ry⟩:=vals2 r
 cases(show v=Value.ref C from ry)
 exact wW I rx ty e λtk=>⟨.bl b,H,I.tok _,rfl,q⟩
end L2
namespace Gen
open PySem L2
noncomputable abbrev AQ:Stmt:=top 39
structure OG(K:W.Frag) (C:Addr):Prop where
 ha:W.findIn K (.ref C) "__class__" = some (some (.builtin "object.__class__"))
 hn:W.specialIn K (.builtin "object.__class__") "__get__" = some (some (.builtin "getset_descriptor.__get__"))
 htk:W.takesIn K (.builtin "object.__class__")=some true
 hm:W.mroIn K C (.type "object")=some true
theorem ux{K:W.Frag}{t:Value} : W.kitOne K t t=some true:=by
 unfold W.kitOne
 rw[aa4 (by simp)]
noncomputable def yq(K:W.Frag):Sp:=λvs H Q _=>∃(a:Addr) (ns:List Int),vs=[.ref a]/\aq K H a (ns.map V.int)/\∀H',Q (.bl true) H'
theorem MO.keep{C:Addr}{H H':Hp}{x dx g1 g2 g3 g4 g5 g6:Addr}{ts:List Addr}{M:ax}(h:MO C H x dx g1 g2 g3 g4 g5 g6 ts M) (k:∀b o,H b=some o->(b∈[x,g1,g2,g3,g4,g5,g6]\/∃r,o=.tup r)->H' b=some o):MO C H' x dx g1 g2 g3 g4 g5 g6 ts M:=
 ⟨⟨k _ _ h.hx (.inl (by simp)),k _ _ h.h1 (.inl (by simp)),k _ _ h.h2 (.inl (by simp)),k _ _ h.h3 (.inl (by simp)),Paired.bj h.hp λt r e=>k _ _ e (.inr ⟨_,rfl⟩)⟩,k _ _ h.h4 (.inl (by simp)),k _ _ h.h5 (.inl (by simp)),k _ _ h.h6 (.inl (by simp))⟩
section
variable {P:Program}{w:World}{K:W.Frag}{mg:Str->Option Value}{base:Heap}{C:Addr}
noncomputable abbrev Vf:List Str:=["_law_script", "_law_m", "_law_machine_here", "_law_kept", "_law_wish", "_law_literal_here", "_law_due_here", "_law_names", "_law_told", "_law_view_here", "_law_again", "_law_same"]
theorem jA:aK Vf ["_law_script"] (aw AQ):=fs
theorem OH{f fM fG YJ fV fD fC fA fL fO:Addr}{fd dM dG YK dV dD dC dA dL dO:FuncData}(F:aQ K "law" "law" AQ f fd)(T:mO K mg C)(TC:OG K C)(O2:iu mg) (CM:cj P w K mg base 5 fM dM "_law_machine" zo (qS K)) (CG:cj P w K mg base 2 fG dG "_law_great" ["_law_script", "_law_m"] (wN K))
 (YL:cj P w K mg base 3 YJ YK "_law_made" ["_law_m"] (zY C)) (CV:cj P w K mg base 1 fV dV "_law_view" ["_law_machine_here"] (Ar C)) (CD:uh P w K mg base 3 fD dD "_law_due" AA DF) (CC:cj P w K mg base 5 fC dC "by_cone" ["machine", "wish"] (Ak C))
 (CA:cj P w K mg base 2 fA dA "_law_alike" ["_law_view_here", "_law_due_here"] wJ) (CL:cj P w K mg base 4 fL dL "_law_along" rV (wM K)) (CO:cj P w K mg base 1 fO dO "_law_order" ["_law_m"] sF):aP P w K mg base aZ 6 f fd ["_law_script"] (yq K):=by
 refine F.go jA (λcdv A outer s H vs Q E hr h=>?_)
 obtain⟨a,ns,rfl,ha,kk⟩:=h
 have hu:=eE hr
 have BY:(A.deeper (PyProof.Rows.envOfC "law" (aw AQ) s.heap.objs.size f cdv)).units+2<cLine:=abU (ac2 (by decide:2<=64) _) hr.units
 have YM:(A.deeper (PyProof.Rows.envOfC "law" (aw AQ) s.heap.objs.size f cdv)).units+2+1<cLine:=abU (by rw[Nat.add_assoc];exact ac2 (by decide:3<=64) _) hr.units
 have eC:aW 1 (A.deeper _):=hr.mono (by decide)
 have gH:aW 2 (A.deeper _):=hr.mono (by decide)
 have SI:aW 3 (A.deeper _):=hr.mono (by decide)
 have YN:aW 4 (A.deeper _):=hr.mono (by decide)
 refine⟨_,(Fu (KS 1 jA.nd (BR CG gH (zV (pv 0) (ug (BR CM hr (zV (pv 0) (ug (KR (ug KQ (aa ao (aa ao (aa ao ai))))) ai))) ai)))) (gy (PS.t (cE 2 jA.nd (a8 YL SI (aa (pv 1) ai))))
  (gy (PS.t (cE 3 jA.nd (a8 CV eC (aa (pv 2) ai))))
  (gy (wo aa6 rfl (ba (az hX (aD hu (pv 1) au (λ_ _=>rfl)) (aD hu (pv 1) au (λ_ _=>rfl)))) (cN rfl (aA (ar (i:=4) jA.nd rfl (Or.inl rfl)) (aA (ar (i:=5) jA.nd rfl (Or.inl rfl)) cc)))
   (gy (KI (mn CD SI (aa (pv 1) (aa (pv 4) (aa (pv 5) ai)))) (cN rfl (aA (ar (i:=6) jA.nd rfl (Or.inl rfl)) (aA (ar (i:=7) jA.nd rfl (Or.inl rfl)) cc))))
   (gj.t (aj (cE 8 jA.nd (a8 CC hr (aa (pv 2) (aa (pv 4) ai))))
   (aj (cU (PW.pt (rZ (mr (jm (ef sY (by rfl) O2.isi acG (aa (pv 8) (aa (Bh (v:=.ty "tuple") (by rfl) O2.tuple acB rfl) ai))))) (rZ (iJ (yz (ef cy (by rfl) O2.len abS (aa (pv 8) ai)) ao)) (uC (mr (jm (ef AO (by rfl) O2.isi acG (aa (aF (r:=ck K) bT (pv 8) ao (λ_ _=>rfl)) (aa (JX (v:=.ref C) (by rfl) T.mgC rfl) ai)))))))))
    (av (aJ kO)) bN)
   (aj (cE 9 jA.nd (a8 CV eC (aa (aF (r:=ck K) bT (pv 8) ao (λ_ _=>rfl)) ai)))
   (aj (cU (PW.pt (rZ (mr (jm (ef sY (by rfl) O2.isi acG (aa (aF (r:=ck K) bT (pv 8) ao (λ_ _=>rfl)) (aa (Bh (v:=.ty "dict") (by rfl) O2.dict aaQ rfl) ai))))) (rZ (bh (sA (n:=2) BY) (iQ rfl (aF (r:=ck K) bT (pv 8) ao (λ_ _=>rfl)) (by rfl) O2.list) (pv 7) (cQ _)) (uC (mr (jm (a8 CA gH (aa (pv 9) (aa (pv 6) ai)))))))))
    (av (aJ kO)) bN)
   (aj (cU (mr (jm (a8 CL YN (aa (pv 0) (aa (pv 1) (aa (pv 9) (aa (aF (r:=ck K) bT (pv 8) ao (λ_ _=>rfl)) ai)))))))
    (av (aJ kO)) bN)
   (aj (cE 10 jA.nd (a8 CC hr (aa (aF (r:=ck K) bT (pv 8) ao (λ_ _=>rfl)) (aa (pv 4) ai))))
   (aj (nh (i:=11) jA.nd rfl rfl (N:=["_law_name"]) (js:=[none]) (te:=(lL (cW (aL 0) (cW (aL 0) jY)))) (by kernel_rfl) rfl (ba (a8 CO eC (aa (pv 6) ai))) (λ_ _ _ _ _ _=>(ar (i:=0) (show (["_law_name"]:List Str).Nodup from dk) rfl (Or.inl rfl) (.inr rfl))) (λ_ _ _ _ _ _=>bb) (λ_ _ _ _ _ _=>(bF (aa (pv 0) (aa (pv 0) ai)))))
   (aj (cU (PW.pt (rZ (bh (sA (n:=2) BY) (iQ rfl (aF (r:=ck K) bT (pv 10) ao (λ_ _=>rfl)) (by rfl) O2.list) (pv 11) (cQ _)) (uC (mr (jm (a8 CA gH (aa (a8 CV eC (aa (aF (r:=ck K) bT (pv 10) ao (λ_ _=>rfl)) ai)) (aa (pv 6) ai))))))))
    (av (aJ kO)) bN)
   (aj (dg (qz acb ac8 aem xQ (aF (r:=ck K) bT (pv 8) ao (λ_ _=>rfl))))
   (aj (dg (qz aaX PySem.F.slot_list_clear PySem.F.type_list_clear GC (cq (aF (r:=ck K) bT (pv 10) ao (λ_ _=>rfl)) rfl)))
   (aj (dg (qz acb ac8 aem xQ (cq (aF (r:=ck K) bT (pv 10) ao (λ_ _=>rfl)) rfl)))
   (av (cU (PW.pt (rZ (mr (jm (a8 CA gH (aa (a8 CV eC (aa (aF (r:=ck K) bT (pv 8) ao (λ_ _=>rfl)) ai)) (aa (pv 6) ai))))) (uC (bh (sA (n:=2) BY) (iQ rfl (aF (r:=ck K) bT (a8 CC hr (aa (pv 2) (aa (pv 4) ai))) ao (λ_ _=>rfl)) (by rfl) O2.list) (pv 7) (cQ _)))))
    (av (aJ kO)) bN))))))))))))))))
  (gj.t (av (aJ (vJ (KP (n:=2) YM) (a8 CV eC (aa (pv 2) ai)) (pv 3) (cQ _))))))))),?_⟩
 refine⟨_,rfl,_,rfl,by show 4<=sizeLine;decide,λz hz=>?_⟩
 have s1:ag H (upd H z (.lst [.int 3,.int 4,.int 10,.int 3])):=ag.ak hz
 have q1:(upd H z (.lst [.int 3,.int 4,.int 10,.int 3])) z=some (.lst [.int 3,.int 4,.int 10,.int 3]):=ae
 generalize upd H z (.lst [.int 3,.int 4,.int 10,.int 3])=H1 at s1 q1 ⊢
 refine⟨a,z,ns,3,4,10,3,rfl,ag.seq s1 ha,⟨.inl (aq.of q1),by decide,by decide,by decide,by decide⟩,⟨_,q1⟩,?_⟩
 intro m0 M0 names0 c1 c2 c3 c4 c5 c6 H2 YO _ YQ YR YS u0 aaL hnv hsm Jl s2
 refine⟨a,m0,c1,c2,c3,c4,c5,c6,ns,M0,rfl,ag.seq (s1.trans s2) ha,Jl,⟨names0,YO⟩,⟨YQ.2,YR.2,YS,u0,by lia,by lia⟩,?_⟩
 intro m a1 a2 a3 a4 a5 a6 M names H3 hM ok fw s3
 have jd:=(s1.trans s2).trans s3
 have nd:=ok.nd
 rw[ok.all]at nd
 have kd:(M.keepers.map (·.1)).Nodup:=(aav.mp (aav.mp nd).1).2.1
 refine⟨_,rfl,m,M,a1,a2,a3,a4,a5,a6,rfl,hM,kd,ok.nxd,ok.nvw.nd,ok.smw.nd,λx dx g1 g2 g3 g4 g5 g6 ts H4 s4 hx=>?_⟩
 refine⟨_,rfl,x,dx,g1,g2,g3,g4,g5,g6,ts,M,rfl,hx,fw,λkv k1 k2 k3 k4 k5 k6 H5 s5 iO=>?_⟩
 have YT:=hx.same s5
 have x8:=hM.same (s4.trans s5)
 have qa:=ag.seq ((jd.trans s4).trans s5) ha
 obtain⟨t5,h5,p5⟩:=id x8.nv
 obtain⟨t6,h6,p6⟩:=id x8.sm
 have BW:=iU p5
 have FX:=iU p6
 have l5:=BW.length
 have l6:=FX.length
 refine⟨_,rfl,m,.ref a5,rfl,aX.k (k:=.inr "nevers") x8.top,_,rfl,m,.ref a6,rfl,aX.k (k:=.inr "somes") x8.top,a5,a6,_,_,rfl,rfl,h5,h6,(by simp only[aaa];have:=fw.n5;have:=fw.n6;exact iL (by lia)),λW hW=>?_⟩
 rw[← aag]
 have s6:ag H5 (upd H5 W (.lst ((t5++t6).map V.ref))):=ag.ak hW
 have q6:(upd H5 W (.lst ((t5++t6).map V.ref))) W=some (.lst ((t5++t6).map V.ref)):=ae
 generalize upd H5 W (.lst ((t5++t6).map V.ref))=H6 at s6 q6 ⊢
 have pw:Paired (λt r=>H6 t=some (.tup (bx r))) (t5++t6) (M.nevers++M.somes):=jz (Paired.bj BW λt r e=>s6 _ _ e) (Paired.bj FX λt r e=>s6 _ _ e)
 have lw:=pw.length
 have SJ:=YT.same s6
 have lY:=x8.same s6
 have Vg:=iO.same s6
 have xA:=ag.seq s6 qa
 refine⟨W,rfl,⟨_,aq.of q6⟩,gz (xs:=(t5++t6).map V.ref) (λi σ Hi=>∃(v4 v5 v6 v7 v8 v9 v10 v11:Option V),σ=[some (.ref a),some (.ref m),some (.ref x),some (.ref kv),v4,v5,v6,v7,v8,v9,v10,v11]/\ag H6 Hi) ⟨_,_,_,_,_,_,_,_,rfl,λ_ _ h=>h⟩ (λi σ Hi _ ⟨_,_,_,_,_,_,_,_,_,s⟩=>aq.of (s _ _ q6)) ?_ ?_⟩
 rotate_left
 . rintro σ Hi ⟨v4,v5,v6,v7,v8,v9,v10,v11,rfl,si⟩
   refine⟨_,rfl,x,dx,g1,g2,g3,g4,g5,g6,ts,M,rfl,SJ.same si,fw,λvw b1 b2 b3 b4 b5 b6 J sJ hv=>?_⟩
   have SK:=Vg.same (si.trans sJ)
   have N6:∀z∈M.switches,qg z:=λz hz=>gE (ok.nm z (by rw[ok.all];exact aae.mpr (.inl (aae.mpr (.inl hz)))))
   have fx:∀r∈M.nexts.map bx,∀v∈r,iF v:=DC λr hr=>⟨gE (ok.nm _ (ok.uk (ok.nxk r hr))),oK (ok.nxl r hr) ok.nm⟩
   have SM:∀{v b1 b2 b3 b4 b5 b6:Addr},cb J v M b1 b2 b3 b4 b5 b6->jt K J ((h9 b1 b2 b3 b4 b5 b6).map (·.2)) [vz M.switches,nS (M.keepers.map eZ),nS (M.gates.map dE),nS (M.nexts.map bx),nS (M.nevers.map bx),nS (M.somes.map bx)]:=λh=>
    .cons (.lst (aq.of h.sw) (pL _)) (.cons (cZ h.kp (vA ok)) (.cons (cZ h.gt (vB ok)) (.cons (cZ h.nx fx) (.cons (cZ h.nv (lg ok.nm ok.nvw)) (.cons (cZ h.sm (lg ok.nm ok.smw)) .nil)))))
   refine⟨_,rfl,vw,kv,h9 b1 b2 b3 b4 b5 b6,h9 k1 k2 k3 k4 k5 k6,_,rfl,rfl,.inl hv.top,.inl SK.top,rfl,by show ([.inr "switches",.inr "keepers",.inr "gates",.inr "nexts",.inr "nevers",.inr "somes"]:List Key).Nodup;decide+kernel,SM hv,SM SK,λd hd=>?_,kk J⟩
   have each:d.canLay0=true/\d.depth<=2:=by
    simp only[aal,aaH,abF]at hd
    rcases hd with rfl|rfl|rfl|rfl|rfl|rfl
    . exact⟨Ap N6,aao (Aq _) (by decide)⟩
    . exact⟨fj (vA ok),fk _⟩
    . exact⟨fj (vB ok),fk _⟩
    . exact⟨fj fx,fk _⟩
    . exact⟨fj (lg ok.nm ok.nvw),fk _⟩
    . exact⟨fj (lg ok.nm ok.smw),fk _⟩
   exact⟨each.1,each.2,adH d each.1⟩
 rintro i v σ G0 hv ⟨v4,v5,v6,v7,v8,v9,v10,v11,rfl,Ge⟩
 rw[aan]at hv
 cases ht:(t5++t6)[i]? with
 | none=>rw[ht]at hv;cases hv
 | some t=>
 rw[ht]at hv
 cases hv
 have yd:i<(M.nevers++M.somes).length:=by have:=(aas.mp ht).1;lia
 have eJ:(M.nevers++M.somes)[i]?=some (M.nevers++M.somes)[i]:=aad yd
 obtain⟨t',je,eS⟩:=i3 pw eJ
 rw[ht]at je
 cases je
 generalize Jv:(M.nevers++M.somes)[i]=r at eJ eS
 have jv:=aaT eJ
 obtain⟨wish,lit⟩:=r
 have hw:wish∈(M.nevers++M.somes).map (·.1):=aak.mpr ⟨_,jv,rfl⟩
 have Vh:lit=gT M wish:=by
  obtain⟨_,w1,w2⟩:=oI ok hw
  rcases aae.mp jv with q|q
  . exact w1 _ q rfl
  . exact w2 _ q rfl
 subst Vh
 refine⟨t,_,rfl,aH.of (Ge _ _ eS),rfl,_,_,rfl,_,_,rfl,rfl,?_⟩
 have SN:=SJ.same Ge
 have OI:=lY.same Ge
 have YU:=ag.seq Ge xA
 refine⟨_,rfl,_,rfl,_,rfl,m,a1,a2,a3,a4,a5,a6,M,names,wish,rfl,OI,ok,fw,hw,λneed YV dd nn b1 b2 b3 b4 b5 b6 G1 hN w1 Vi ie y8=>?_⟩
 refine⟨YV,_,rfl,aH.of Vi,rfl,_,_,rfl,_,_,rfl,rfl,?_⟩
 refine⟨_,rfl,_,rfl,x,dx,g1,g2,g3,g4,g5,g6,ts,M,names,wish,rfl,SN.same w1,ok,fw,hw,λtp d y dy y1 y2 y3 y4 y5 y6 us aaC G2 YW Nv hd2 OJ Vj=>?_⟩
 obtain rfl:=hN.one YW
 have qf:=xZ ok hw hN
 have lI:j8 (ay M need wish):=HC fw
 have w2:=OJ.s
 have nT:=OJ.t
 have Gf:=OJ.m
 refine⟨_,rfl,_,_, "tuple",true,rfl,.tup nT,ux,_,rfl,bQ ?_⟩
 refine⟨_,rfl,tp,_,rfl,.inr (aH.of nT),_,_,rfl,rfl,_,rfl,bQ ?_⟩
 refine⟨_,rfl,tp,_,0,_,rfl,rfl,aH.of nT,iR,_,_,C,true,rfl,.ins Gf.hx T.cl TC.ha TC.hn TC.htk TC.hm,ux,_,rfl,bQ ?_⟩
 refine⟨_,rfl,tp,_,0,_,rfl,rfl,aH.of nT,iR,y,dy,y1,y2,y3,y4,y5,y6,us,ay M need wish,rfl,Gf,lI,λvw e1 e2 e3 e4 e5 e6 G3 w3 SO=>?_⟩
 have OK:=w3 _ _ nT
 have tj:=w3 _ _ hd2
 have Ca:∀{p q:V},gn [p,q] 1=some q:=fi (j:=1) rfl
 refine⟨_,rfl,tp,_,1,_,rfl,rfl,aH.of OK,Ca,_,_, "dict",true,rfl,.dK tj,ux,_,rfl,bQ ?_⟩
 refine⟨_,rfl,tp,_,1,_,rfl,rfl,aH.of OK,Ca,d,_,rfl,.inl tj,λli tl G4 w4 nli YX YY=>⟨_,rfl,?_⟩⟩
 have B8:=w3.trans w4
 have SQ:=w2.trans B8
 refine jR (cZ (rT YX YY) (oQ ok need)) (cZ (y8.same SQ) (oQ ok need)) (fj (oQ ok need)) (fk _) ⟨_,rfl,bQ ?_⟩
 refine⟨_,rfl,_,rfl,vw,dd,e1,e2,e3,e4,e5,e6,b1,b2,b3,b4,b5,b6,ay M need wish,_,rfl,SO.same w4,ie.same SQ,lI,qf,λG5 w5=>⟨_,rfl,bQ ?_⟩⟩
 have JH:=B8.trans w5
 have YZ:=w2.trans JH
 have SR:=w1.trans YZ
 refine⟨_,rfl,_,rfl,_,rfl,_,rfl,tp,_,1,_,rfl,rfl,aH.of (JH _ _ nT),Ca,a,m,vw,d,a1,a2,a3,a4,a5,a6,e1,e2,e3,e4,e5,e6,ns,M,ay M need wish,names,_,bg M,vC need,_,rfl,ag.seq SR YU,OI.same SR,SO.same (w4.trans w5),ok,qf,fw,lI,JH _ _ hd2,DA ok hN hw,λG6 w6=>⟨_,rfl,bQ ?_⟩⟩
 have vH:=JH.trans w6
 have OL:=w2.trans vH
 have w06:=w1.trans OL
 refine⟨_,rfl,tp,_,0,_,rfl,rfl,aH.of (vH _ _ nT),iR,_,rfl,y,dy,y1,y2,y3,y4,y5,y6,us,ay M need wish,_,wish,rfl,Gf.same vH,qf,lI,DH hw,λJI d7 z dz z1 z2 z3 z4 z5 z6 zs aaD G7 SS nd7 SU AR aaM=>?_⟩
 rw[HN ok hN SS]at SU
 rw[DG ok hN SS]at AR
 have w7:=AR.s
 have OM:=OL.trans w7
 have Y0:=vH.trans w7
 refine⟨_,rfl,dd,b1,b2,b3,b4,b5,b6,ay M need wish,rfl,ie.same OM,lI,λo G8 w8 qo=>?_⟩
 have jg:(bg (ay M need wish)).length<=88:=by unfold bg;simp only[aaf,aaa];have:=lI.n1;have:=lI.n2;have:=lI.n3;lia
 refine⟨o,rfl,⟨_,aq.of qo⟩,λD hD=>?_⟩
 refine i4 (xs:=bg (ay M need wish)) (kp:=λ_=>true) (y:=λn=>.inr (.tup [.str n,.str n])) V.str (aao jg (by decide)) qo hD (λn hn H9 s9=>rw_yes λY hY=>?_) λG9 vs w9 bf p9=>?_
 . exact⟨_,rfl,_,rfl,by show 2<=sizeLine;decide,λT hT=>hY _ _ (ag.ak hT) (jO hT)⟩
 rw[fZ]at p9
 obtain⟨sn,rfl,ps⟩:=gB p9
 have Y1:aE G9 D ((bg (ay M need wish)).map λn=>[V.str n,V.str n]):=⟨sn,bf,cv (F:=λt r=>G9 t=some (.tup r)) (Paired.bj ps λt n z=>z.2)⟩
 have ON:=w8.trans w9
 have OO:∀r∈(bg (ay M need wish)).map λn=>[V.str n,V.str n],∀v∈r,iF v:=λr hr v hv=>by
  obtain⟨n,hn,rfl⟩:=aak.mp hr
  have hs:qg n:=gE (qf.nm n (by rw[qf.all];exact hn))
  simp only[aal,aaH,abF]at hv
  rcases hv with rfl|rfl <;> exact .inr (.inl ⟨_,rfl,hs⟩)
 have DM:=AR.t
 refine⟨_,rfl,JI,_,1,_,rfl,rfl,aH.of (ON _ _ DM),Ca,d7,_,rfl,.inl (ON _ _ SU),λl2 tl2 G10 Iw nl2 Y2 Y3=>⟨_,rfl,?_⟩⟩
 refine jR (cZ (rT (f:=V.str) Y2 Y3) OO) (cZ (Y1.same Iw) OO) (fj OO) (fk _) ⟨_,rfl,bQ ?_⟩
 have HY:=ON.trans Iw
 refine⟨_,rfl,JI,_,0,_,rfl,rfl,aH.of (HY _ _ DM),iR,z,dz,z1,z2,z3,z4,z5,z6,zs,ay M need wish,rfl,AR.m.same HY,lI,λY4 f1 f2 f3 f4 f5 f6 G11 Y5 Vk=>?_⟩
 have OP:=HY.trans Y5
 have Vl:=OM.trans OP
 refine⟨_,rfl,Y4,dd,f1,f2,f3,f4,f5,f6,b1,b2,b3,b4,b5,b6,ay M need wish,_,rfl,Vk,ie.same Vl,lI,qf,λJJ B7=>⟨_,rfl,bQ ?_⟩⟩
 have wO:=OP.trans B7
 have aaN:=OM.trans wO
 have OQ:=Y0.trans wO
 have Vm:=w7.trans wO
 have Q6:=OQ _ _ nT
 have HZ:=OQ _ _ hd2
 have AS:=AR.m.same wO
 have SV:=AR.nk
 have SW:G6 z2=none:=SV z2 (by simp)
 have SX:G6 z3=none:=SV z3 (by simp)
 have d6:=vH _ _ hd2
 have Y6:d≠z2:=af d6 SW
 have dz3:d≠z3:=af d6 SX
 have Y7:z2≠z3:=λe=>by have:=AR.nd;rw[e]at this;simp at this
 have zd:∀{b:Addr}{ob:HO},JJ b=some ob->(∀kvs,ob≠.dK kvs)->b≠d:=λhb ho e=>by rw[e,HZ]at hb;cases hb;exact ho _ rfl
 refine⟨_,rfl,tp,_,1,_,rfl,rfl,aH.of Q6,Ca,.inr (.inr (.inl ⟨rfl,.inl ⟨_,HZ⟩⟩)),d,_,rfl,rfl,HZ,?_⟩
 have Cb:∀b ob,JJ b=some ob->b≠d->(upd JJ d (.dK [])) b=some ob:=λb ob hb hn=>by rw[ah hn];exact hb
 generalize upd JJ d (.dK [])=JK at Cb ⊢
 have AU:=Cb _ _ (wO _ _ DM) (zd (wO _ _ DM) λ_ h=>by cases h)
 have DN:=Cb _ _ AS.hx (zd AS.hx λ_ h=>by cases h)
 have DO:=Cb _ _ AS.h3 (zd AS.h3 λ_ h=>by cases h)
 have Q7:=Cb _ _ AS.h2 (aau Y6)
 refine⟨_,rfl,JI,_,0,_,rfl,rfl,aH.of AU,iR,z,C,dz,_,_,rfl,DN,T.cl,T.n3,rn ..,.inl ⟨rfl,_,aq.of DO⟩,z3,_,rfl,rfl,DO,?_⟩
 have Gg:∀b ob,JK b=some ob->b≠z3->(upd JK z3 (.lst [])) b=some ob:=λb ob hb hn=>by rw[ah hn];exact hb
 generalize upd JK z3 (.lst [])=OR at Gg ⊢
 have SY:∀{b:Addr}{ob:HO},JK b=some ob->(∀xs,ob≠.lst xs)->b≠z3:=λhb ho e=>by rw[e,DO]at hb;cases hb;exact ho _ rfl
 have OS:=Gg _ _ AU (SY AU λ_ h=>by cases h)
 have Q8:=Gg _ _ DN (SY DN λ_ h=>by cases h)
 have JL:=Gg _ _ Q7 Y7
 refine⟨_,rfl,JI,_,0,_,rfl,rfl,aH.of OS,iR,z,C,dz,_,_,rfl,Q8,T.cl,T.n2,ow ..,.inr (.inr (.inl ⟨rfl,.inl ⟨_,JL⟩⟩)),z2,_,rfl,rfl,JL,?_⟩
 have S0:∀b ob,OR b=some ob->b≠z2->(upd OR z2 (.dK [])) b=some ob:=λb ob hb hn=>by rw[ah hn];exact hb
 generalize upd OR z2 (.dK [])=OT at S0 ⊢
 have keep:∀b ob,G6 b=some ob->b≠d->OT b=some ob:=λb ob hb hn=>S0 _ _ (Gg _ _ (Cb _ _ (Vm _ _ hb) hn) (af hb SX)) (af hb SW)
 have Y8:G1 d=none:=Nv
 have Ia:ag G1 OT:=λb ob hb=>keep b ob (OL _ _ hb) (af hb Y8)
 have aaO:=w1.trans Ia
 have Vn:MO C OT y dy y1 y2 y3 y4 y5 y6 us (ay M need wish):=(Gf.same vH).keep λb ob hb hc=>keep b ob hb (by
  rcases hc with hc|⟨r,rfl⟩
  . rcases aal.mp hc with rfl|hc
    . have S1:G6 b=some _:=(Gf.same vH).hx
      exact λe=>by rw[e,d6]at S1;cases S1
    . exact Vj b hc
  . exact λe=>by rw[e,d6]at hb;cases hb)
 have Q9:=keep _ _ (vH _ _ nT) λe=>by have:=vH _ _ nT;rw[e,d6]at this;cases this
 refine⟨_,rfl,tp,_,0,_,rfl,rfl,aH.of Q9,iR,y,dy,y1,y2,y3,y4,y5,y6,us,ay M need wish,rfl,Vn,lI,λY9 h1 h2 h3 h4 h5 h6 G16 OU Vo=>?_⟩
 refine⟨_,rfl,Y9,dd,h1,h2,h3,h4,h5,h6,b1,b2,b3,b4,b5,b6,ay M need wish,_,rfl,Vo,(ie.same Ia).same OU,lI,qf,λG17 Vp=>⟨_,rfl,bQ ?_⟩⟩
 have OV:=Ia.trans (OU.trans Vp)
 have OW:=w1.trans OV
 refine⟨_,rfl,_,rfl,x,dx,g1,g2,g3,g4,g5,g6,ts,M,names,wish,rfl,SN.same OW,ok,fw,hw,λZa d8 u du u1 u2 u3 u4 u5 u6 us8 aaE G18 Zb nd8 Zc OX aaP=>?_⟩
 obtain rfl:=hN.one Zb
 refine⟨Za,_,1,_,rfl,rfl,aH.of OX.t,Ca,d8,_,rfl,.inl Zc,λl3 tl3 G19 S2 nl3 Zd Ze=>⟨_,rfl,?_⟩⟩
 refine jR (cZ (rT Zd Ze) (oQ ok need)) (cZ (y8.same ((OV.trans OX.s).trans S2)) (oQ ok need)) (fj (oQ ok need)) (fk _) ⟨_,rfl,bQ ?_⟩
 exact⟨_,_,_,_,_,_,_,_,rfl,((Ge.trans OW).trans OX.s).trans S2⟩
end
section
theorem all_mk{l:W.OpenLaw}{w:World}{K:W.Frag}{h:Heap}{mg:Str->Option Value}{fa CM OY f2 f3 f4 f5 f7 f9 OZ O0 O1 O3 O4 O5 O6 O7 O8 O9 Pa Pb Pc Pd Pe JM JN Pf Pg Ph Pj Pk Pl Pm Pn Po Pp S3:Addr}(X:K.In h)(G:h.Ns mainGlobals mg) (Zf:mg "law" = some (.ref fa))
 {Pq d2 d3 d4 d5 d7 d9 S4 S5 IU IV IW S6 S7 S8 S9 Ta Tb IX IY IZ I0 Tc Td Te Tf Tg Th Ti Ja Jb Jc Tj Tn To:FuncData}
 (Zg:W.nsIn K mainGlobals "Machine" = some (some (.ref CM)))
 (Tq:Mk K CM OY) (Ib:aQ K "__init__" "Machine.__init__" Dk OY Pq)
 (a2:W.nsIn K mainGlobals "turned" = some (some (.ref f2))) (F2:aQ K "turned" "turned" wx f2 d2)
 (a3:W.nsIn K mainGlobals "next_of" = some (some (.ref f3))) (F3:aQ K "next_of" "next_of" wy f3 d3)
 (a4:W.nsIn K mainGlobals "literal_of_wish" = some (some (.ref f4))) (F4:aQ K "literal_of_wish" "literal_of_wish" Hv f4 d4)
 (a5:W.nsIn K mainGlobals "names_of" = some (some (.ref f5))) (F5:aQ K "names_of" "names_of" zW f5 d5)
 (a7:W.nsIn K mainGlobals "bare_name" = some (some (.ref f7))) (F7:aQ K "bare_name" "bare_name" Ds f7 d7)
 (a9:W.nsIn K mainGlobals "carried" = some (some (.ref f9))) (F9:aQ K "carried" "carried" ui f9 d9)
 (Zh:W.nsIn K mainGlobals "round_of" = some (some (.ref OZ))) (Pr:aQ K "round_of" "round_of" Ae OZ S4)
 (Zi:W.nsIn K mainGlobals "literals_carried" = some (some (.ref O0))) (Pt:aQ K "literals_carried" "literals_carried" Du O0 S5)
 (Zj:W.nsIn K mainGlobals "by_cone" = some (some (.ref O1))) (Pu:aQ K "by_cone" "by_cone" Dx O1 IU)
 (Zk:W.nsIn K mainGlobals "hung_on" = some (some (.ref O3))) (Pw:aQ K "hung_on" "hung_on" Dw O3 IV)
 (Zl:W.nsIn K mainGlobals "_law_cell_at" = some (some (.ref O4))) (Gh:aQ K "_law_cell_at" "_law_cell_at" CS O4 IW)
 (Zm:W.nsIn K mainGlobals "_law_mix" = some (some (.ref O5))) (Gi:aQ K "_law_mix" "_law_mix" CU O5 S6)
 (Zn:W.nsIn K mainGlobals "_law_rich" = some (some (.ref O6))) (JO:aQ K "_law_rich" "_law_rich" CW O6 S7)
 (Zo:W.nsIn K mainGlobals "_law_pick" = some (some (.ref O7))) (Cc:aQ K "_law_pick" "_law_pick" sr O7 S8)
 (Zp:W.nsIn K mainGlobals "_law_spelt" = some (some (.ref O8))) (JP:aQ K "_law_spelt" "_law_spelt" oa O8 S9)
 (Zq:W.nsIn K mainGlobals "_law_literal" = some (some (.ref O9))) (JQ:aQ K "_law_literal" "_law_literal" o9 O9 Ta)
 (Zr:W.nsIn K mainGlobals "_law_wishes" = some (some (.ref Pa))) (Px:aQ K "_law_wishes" "_law_wishes" vW Pa Tb)
 (Zs:W.nsIn K mainGlobals "_law_machine_digits" = some (some (.ref Pb))) (Py:aQ K "_law_machine_digits" "_law_machine_digits" gi Pb IX)
 (Zt:W.nsIn K mainGlobals "_law_machine" = some (some (.ref Pc))) (Pz:aQ K "_law_machine" "_law_machine" kr Pc IY)
 (Zu:W.nsIn K mainGlobals "_law_made" = some (some (.ref Pd))) (PB:aQ K "_law_made" "_law_made" Dr Pd IZ)
 (Zv:W.nsIn K mainGlobals "_law_great" = some (some (.ref Pe))) (PD:aQ K "_law_great" "_law_great" AL Pe I0)
 (Zw:W.nsIn K mainGlobals "_law_values" = some (some (.ref JM))) (JR:aQ K "_law_values" "_law_values" wm JM Tc)
 (Zx:W.nsIn K mainGlobals "_law_bit" = some (some (.ref JN))) (Gj:aQ K "_law_bit" "_law_bit" Hn JN Td)
 (Zy:W.nsIn K mainGlobals "_law_next" = some (some (.ref Pf))) (PF:aQ K "_law_next" "_law_next" Dm Pf Te)
 (Zz:W.nsIn K mainGlobals "_law_view" = some (some (.ref Pg))) (PH:aQ K "_law_view" "_law_view" DB Pg Tf)
 (ZA:W.nsIn K mainGlobals "_law_order" = some (some (.ref Ph))) (PJ:aQ K "_law_order" "_law_order" Ao Ph Tg)
 (ZC:W.nsIn K mainGlobals "_law_next_literals" = some (some (.ref Pj))) (PK:aQ K "_law_next_literals" "_law_next_literals" HD Pj Th)
 (ZD:W.nsIn K mainGlobals "_law_alike" = some (some (.ref Pk))) (PL:aQ K "_law_alike" "_law_alike" vx Pk Ti)
 (ZE:W.nsIn K mainGlobals "_law_along" = some (some (.ref Pl))) (PM:aQ K "_law_along" "_law_along" AE Pl Ja)
 (ZF:W.nsIn K mainGlobals "_law_all_first" = some (some (.ref Pm))) (PN:aQ K "_law_all_first" "_law_all_first" DI Pm Jb)
 (ZG:W.nsIn K mainGlobals "_law_plain" = some (some (.ref Pn))) (PQ:aQ K "_law_plain" "_law_plain" Au Pn Jc)
 (ZI:W.nsIn K mainGlobals "_law_needed" = some (some (.ref Po))) (PR:aQ K "_law_needed" "_law_needed" wK Po Tj)
 (ZJ:W.nsIn K mainGlobals "_law_due" = some (some (.ref Pp))) (PU:aQ K "_law_due" "_law_due" HL Pp Tn)
 (Tr:W.nsIn K mainGlobals "law" = some (some (.ref S3))) (Ts:aQ K "law" "law" AQ S3 To)
 (cM:sL K CM) (n1:dZ K CM "switches") (n2:dZ K CM "keepers") (n3:dZ K CM "gates") (n4:dZ K CM "nexts") (n5:dZ K CM "nevers") (n6:dZ K CM "somes")
 (z0:W.nsIn K mainGlobals "len" = some none) (z1:W.nsIn K mainGlobals "range" = some none) (z2:W.nsIn K mainGlobals "enumerate" = some none) (z3:W.nsIn K mainGlobals "list" = some none) (z4:W.nsIn K mainGlobals "dict" = some none) (z5:W.nsIn K mainGlobals "tuple" = some none) (z6:W.nsIn K mainGlobals "str" = some none) (z7:W.nsIn K mainGlobals "int" = some none) (z8:W.nsIn K mainGlobals "bool" = some none) (z9:W.nsIn K mainGlobals "zip" = some none) (ZL:W.nsIn K mainGlobals "all" = some none) (ZM:W.nsIn K mainGlobals "isinstance" = some none)
 (tc:OG K CM)
 :
 ∃fd:FuncData,(∀(s:Shared) (v:Value),BindsTo s fd ⟨[v],[]⟩ [("_law_script",v)])/\∀base:Heap,K.In base->base.Ns mainGlobals mg->aP l.prog w K mg base aZ 6 fa fd ["_law_script"] (yq K):=by
 have e:=Zf.symm.trans (abJ X G Tr)
 cases e
 have TM:mO K mg CM:=⟨cM,n1,n2,n3,n4,n5,n6,abJ X G Zg⟩
 have O:Own mg:=⟨abR X G z0,abR X G z1,abR X G z2,abR X G z3⟩
 have O2:iu mg:=⟨abR X G z0,abR X G z3,abR X G z4,abR X G z5,abR X G z6,abR X G z7,abR X G z8,abR X G z9,abR X G ZL,abR X G ZM⟩
 have PV:Binds K Pq nC []:=Ib.b7
 have m2:=abJ X G a2
 have b2:Binds K d2 ["literal"] []:=F2.b1
 have m3:=abJ X G a3
 have b3:Binds K d3 ["machine", "keeper"] []:=F3.b2
 have m4:=abJ X G a4
 have b4:Binds K d4 ["machine", "wish"] []:=F4.b2
 have m5:=abJ X G a5
 have b5:Binds K d5 ["machine"] []:=F5.b1
 have m7:=abJ X G a7
 have b7:Binds K d7 ["literal"] []:=F7.b1
 have m9:=abJ X G a9
 have b9:Binds K d9 ["names", "literal"] []:=F9.b2
 have ZN:=abJ X G Zh
 have ZO:Binds K S4 rH []:=Pr.b4
 have ZP:=abJ X G Zi
 have ZQ:Binds K S5 ["names", "literals"] []:=Pt.b2
 have ZR:=abJ X G Zj
 have ZT:Binds K IU ["machine", "wish"] []:=Pu.b2
 have ZU:=abJ X G Zk
 have ZV:Binds K IV ["machine", "literal"] []:=Pw.b2
 have PX:=abJ X G Zl
 have PY:Binds K IW ["_law_script", "_law_k"] []:=Gh.b2
 have PZ:=abJ X G Zm
 have P0:Binds K S6 ["_law_cell", "_law_k"] []:=Gi.b2
 have Tt:=abJ X G Zn
 have Tu:Binds K S7 ["_law_cell", "_law_k"] []:=JO.b2
 have JS:=abJ X G Zo
 have JU:Binds K S8 ["_law_left", "_law_many"] []:=Cc.b2
 have Tv:=abJ X G Zp
 have Tw:Binds K S9 ["_law_left", "_law_told"] []:=JP.b2
 have Tx:=abJ X G Zq
 have Tz:Binds K Ta ["_law_left", "_law_names"] []:=JQ.b2
 have ZW:=abJ X G Zr
 have ZX:Binds K Tb mj []:=Px.b4
 have ZY:=abJ X G Zs
 have ZZ:Binds K IX qN []:=Py.b2
 have Z0:=abJ X G Zt
 have Z1:Binds K IY zo []:=Pz.b2
 have Z2:=abJ X G Zu
 have Z3:Binds K IZ ["_law_m"] []:=PB.b1
 have Z4:=abJ X G Zv
 have Z5:Binds K I0 ["_law_script", "_law_m"] []:=PD.b2
 have TB:=abJ X G Zw
 have TF:Binds K Tc oy []:=JR.b3
 have P4:=abJ X G Zx
 have P5:Binds K Td ["_law_values_here", "_law_literal_here"] []:=Gj.b2
 have Z6:=abJ X G Zy
 have Z7:Binds K Te oy []:=PF.b3
 have Z8:=abJ X G Zz
 have Z9:Binds K Tf ["_law_machine_here"] []:=PH.b1
 have m31:=abJ X G ZA
 have b31:Binds K Tg ["_law_m"] []:=PJ.b1
 have m32:=abJ X G ZC
 have b32:Binds K Th ["_law_m"] []:=PK.b1
 have m33:=abJ X G ZD
 have b33:Binds K Ti ["_law_view_here", "_law_due_here"] []:=PL.b2
 have m34:=abJ X G ZE
 have b34:Binds K Ja rV []:=PM.b4
 have m35:=abJ X G ZF
 have b35:Binds K Jb ["_law_m"] []:=PN.b1
 have m36:=abJ X G ZG
 have b36:Binds K Jc ["_law_literal_here"] []:=PQ.b1
 have m37:=abJ X G ZI
 have b37:Binds K Tj oN []:=PR.b2
 have m38:=abJ X G ZJ
 have b38:Binds K Tn AA []:=PU.b3
 have m39:=abJ X G Tr
 refine⟨To,λs v=>?_,λbase _ _=>?_⟩
 . obtain⟨_,_,_,_,_,_,_,_,_,rfl,_⟩:=Ts.ex
   exact .of_eq rfl
 have gP:aP l.prog w K mg base aZ 1 O7 _ ["_law_left", "_law_many"] qG:=vX Cc O
 have gS:aP l.prog w K mg base aZ 2 O8 _ ["_law_left", "_law_told"] (su K):=yW JP O Cc JU JS
 have gL:aP l.prog w K mg base aZ 2 O9 _ ["_law_left", "_law_names"] (nq K):=uY JQ O Cc JU JS
 have gW:aP l.prog w K mg base aZ 3 Pa _ mj (tX K):=EJ Px O Cc JU JS JP Tw Tv JQ Tz Tx
 have gR:aP l.prog w K mg base aZ 2 O6 _ ["_law_cell", "_law_k"] uS:=Kr JO O Gi P0 PZ
 have gD:aP l.prog w K mg base aZ 4 Pb _ qN (ph K):=ES Py ⟨O,gP,JS,Cc.kp,JU,gS,Tv,JP.kp,Tw,gL,Tx,JQ.kp,Tz,gW,ZW,Px.kp,ZX,gR,Tt,JO.kp,Tu⟩
 have Ic:aP l.prog w K mg base aZ 1 JN _ ["_law_values_here", "_law_literal_here"] ox:=Nj Gj O2
 have TH:aP l.prog w K mg base aZ 2 JM _ oy (mQ K):=Fh JR O2 Ic P4 Gj.kp P5
 have cC:cj l.prog w K mg base 1 O4 _ "_law_cell_at" ["_law_script", "_law_k"] (qF K):=⟨Kq Gh O,PX,Gh.kp,PY⟩
 have cX:cj l.prog w K mg base 1 O5 _ "_law_mix" ["_law_cell", "_law_k"] uR:=⟨ED Gi,PZ,Gi.kp,P0⟩
 have cM:cj l.prog w K mg base 5 Pc _ "_law_machine" zo (qS K):=⟨C3 Pz O gD ZY Py.kp ZZ cC.g PX Gh.kp PY gR Tt JO.kp Tu,Z0,Pz.kp,Z1⟩
 have cMd:cj l.prog w K mg base 3 Pd _ "_law_made" ["_law_m"] (zY CM):=⟨KZ PB TM O2 Tq (BL Ib TM O2) PV,Z2,PB.kp,Z3⟩
 have cG:cj l.prog w K mg base 2 Pe _ "_law_great" ["_law_script", "_law_m"] (wN K):=⟨HX PD ⟨O,cC.g,PX,Gh.kp,PY,cX.g,PZ,Gi.kp,P0⟩,Z4,PD.kp,Z5⟩
 have cB:cj l.prog w K mg base 1 f7 _ "bare_name" ["literal"] vo:=⟨K0 F7,m7,F7.kp,b7⟩
 have cT:cj l.prog w K mg base 1 f2 _ "turned" ["literal"] Ac:=⟨Fx F2,m2,F2.kp,b2⟩
 have cNo:cj l.prog w K mg base 1 f3 _ "next_of" ["machine", "keeper"] (wz CM):=⟨Hx F3 TM,m3,F3.kp,b3⟩
 have cLw:cj l.prog w K mg base 1 f4 _ "literal_of_wish" ["machine", "wish"] (Dt CM):=⟨Nz F4 TM,m4,F4.kp,b4⟩
 have cNm:cj l.prog w K mg base 1 f5 _ "names_of" ["machine"] (wu CM):=⟨Hu F5 TM O2,m5,F5.kp,b5⟩
 have TJ:cj l.prog w K mg base 2 f9 _ "carried" ["names", "literal"] nI:=⟨Dv F9 cB cT,m9,F9.kp,b9⟩
 have cLc:cj l.prog w K mg base 3 O0 _ "literals_carried" ["names", "literals"] Ad:=⟨K4 Pt O2 TJ,ZP,Pt.kp,ZQ⟩
 have cR:cj l.prog w K mg base 4 OZ _ "round_of" rH (wA CM):=⟨Hz Pr TM O2 TJ cLc Tq (BL Ib TM O2) PV,ZN,Pr.kp,ZO⟩
 have cH:cj l.prog w K mg base 2 O3 _ "hung_on" ["machine", "literal"] (Ai CM):=⟨K5 Pw TM O2 cB cNo,ZU,Pw.kp,ZV⟩
 have cCo:cj l.prog w K mg base 5 O1 _ "by_cone" ["machine", "wish"] (Ak CM):=⟨K7 Pu TM O2 cH cLw cNm cR,ZR,Pu.kp,ZT⟩
 have cV:cj l.prog w K mg base 1 Pg _ "_law_view" ["_law_machine_here"] (Ar CM):=⟨Lb PH TM O2,Z8,PH.kp,Z9⟩
 have cO:cj l.prog w K mg base 1 Ph _ "_law_order" ["_law_m"] sF:=⟨HE PJ O2,m31,PJ.kp,b31⟩
 have TK:cj l.prog w K mg base 1 Pj _ "_law_next_literals" ["_law_m"] yo:=⟨N5 PK O2,m32,PK.kp,b32⟩
 have cA:cj l.prog w K mg base 2 Pk _ "_law_alike" ["_law_view_here", "_law_due_here"] wJ:=⟨HF PL TK,m33,PL.kp,b33⟩
 have cP:uh l.prog w K mg base 1 Pn _ "_law_plain" ["_law_literal_here"] wL:=⟨HH PQ O2,m36,PQ.kp,b36⟩
 have cNd:uh l.prog w K mg base 2 Po _ "_law_needed" oN ur:=⟨FK PR O2 TK cP,m37,PR.kp,b37⟩
 have cD:uh l.prog w K mg base 3 Pp _ "_law_due" AA DF:=⟨Oa PU cNd cO,m38,PU.kp,b38⟩
 have cF:cj l.prog w K mg base 1 Pm _ "_law_all_first" ["_law_m"] AD:=⟨Lh PN O O2,m35,PN.kp,b35⟩
 have cVs:cj l.prog w K mg base 2 JM _ "_law_values" oy (mQ K):=⟨TH,TB,JR.kp,TF⟩
 have cBt:cj l.prog w K mg base 1 JN _ "_law_bit" ["_law_values_here", "_law_literal_here"] ox:=⟨Ic,P4,Gj.kp,P5⟩
 have cNx:cj l.prog w K mg base 3 Pf _ "_law_next" oy (zR K):=⟨Hq PF O2 TH TB JR.kp TF Ic P4 Gj.kp P5,Z6,PF.kp,Z7⟩
 have cL:cj l.prog w K mg base 4 Pl _ "_law_along" rV (wM K):=⟨HU PM O O2 cF cX cC cVs cBt cNx,m34,PM.kp,b34⟩
 exact OH Ts TM tc O2 cM cG cMd cV cD cCo cA cL cO
theorem walk{l:W.OpenLaw}{q:Program}{loose:List Str}{XP:(Str->Option Value)->Heap->Prop}{YP:World->Heap->Prop}{d:DefRec}{K:Params->W.Frag}(hn:l.most=some 63) (yN:d.params.defaults=[])
 (hY:∀(w:World) (h:Heap),YP w h->(K w.params).In h)
 (F:∀(w:World) (mg:Str->Option Value) (fa:Addr) (h:Heap),(K w.params).In h->h.Ns mainGlobals mg->mg d.name=some (.ref fa)->
  ∃fd:FuncData,(∀(s:Shared) (u:Value),BindsTo s fd ⟨[u],[]⟩ [("_law_script",u)])/\∀base:Heap,(K w.params).In base->base.Ns mainGlobals mg->aP l.prog w (K w.params) mg base aZ 6 fa fd ["_law_script"] (yq (K w.params))) :
 W.WalkO q loose XP YP l.row.toRowW d [] (λf vs=>PySem.call f vs):=
 L2.Kl (n:=63) (k:=6) (x:="_law_script") (CX:=λ_=>aZ) (sp:=λw=>yq (K w.params)) hn (by decide) yN ⟨rfl,by decide,by decide⟩ hY F (λ_ _ a ns hl _ hS=>⟨a,ns,rfl,hS,λ_=>rfl⟩) λ_ _ _ _ _ z=>z
end
end Gen
open PySem PySem.W PyProof.Rows
inductive PySem.W.Fast : Prop
|tw16354431267443711352
|tw18111337462030153571
|tw2905078399449503407
|tw9486452315352019748
|tw12868342895307502929
|tw1137247930867329285
|tw15507534687868469074
|tw5897562761687120592
|tw18068608401723618120
|tw10639499264493479656
|tw11633339095441080444
|tw8028873614705896825
|tw7516157466420445765
|tw15778461113416507000
|tw7485930138718730359
|tw697309269076818589
|tw12444999696136889406
|tw9975450736321994021
|tw3748222390112680257
|tw1543275452238333474
|tw4103860129652815563
|tw1900448737354248762
|tw4129720016292526493
|tw1949643994381773451
|tw328970559590887852
|tw11932837538900241829
|tw7328881392354816083
|tw15039543047062544060
|tw10170326211538058214
|tw463951237860832521
|tw15456179200683336050
|tw7029527253777357171
|tw14424140754452371956
|tw3126103435249487044
|tw14806505313755990740
|tw11052176202094384851
|tw3515244688071576608
|tw13293094726941461719
|tw3221369487675211829
|tw13441190888959617207
|tw6828623275832393199
|tw8646761628960203618
|tw14880857742734231513
|tw15916657646425952818
|tw12275153092449689660
|tw6006589345925986602
|tw14053540601894044987
|tw6154536072045546564
|tw2085319742973411672
|tw12031362642189958253
|tw5557031332563558031
|tw10682086956198151939
|tw7673061239489208295
|tw12747232484978508889
|tw6629067846384575116
|tw16776451301101688284
|tw16591039855944550690
|tw7781123820136849362
|tw9848883420097399301
|tw10545634589374565533
|tw15507234672789669755
|tw1976070363150944567
|tw7034439648396567758
|tw2145376953187057833
|tw9815469969504444909
|tw5356011612503198901
|tw3541344613204036916
|tw16718896266057508345
|tw10782698310990821528
|tw14738485413731257669
|tw17125967517466095203
|tw6598315676384484780
|tw1739468327938188958
|tw5037989300945179315
|tw1295955931850608514
|tw669269725839868594
|tw9945132996869717718
|tw7971286718006422258
|tw10518498487905507441
|tw2859361711653632475
|tw17519700509352830936
|tw976069074910877390
|tw161420185850542587
|tw7540983856479160393
|tw10275002276760515815
|tw13330690888540308375
|tw16257990007069268779
|tw6182592340914878447
|tw12958023330906899953
|tw7971659510814601805
|tw5697045280257900543
|tw9108336094967119390
|tw18072906351033111309
|tw14701756584744999600
|tw11299834407813194045
|tw6684029289887224200
|tw3048049603263222722
|tw17859826710696433634
|tw7059291377883805496
|tw855952468589721578
|tw11165849576977087624
|tw11223059100835740462
|tw1273836955761419262
|tw12216583520262879927
|tw13079795822547772692
|tw11042090175829238609
|tw8735868959507546764
|tw10240677967508302346
|tw17360334448198001829
|tw15004439595066926067
|tw3416268820403326143
|tw761479875190388579
|tw7947127320224009072
|tw17341624147430967110
|tw7505966439696924204
|tw11111450065422076628
|tw5843111526316408667
|tw1256331477674266387
|tw9447481364259818506
|tw11574008307428011550
|tw3306906931471064474
|tw1641383084280102214
|tw7113071636366682174
|tw1316275799230429782
|tw1341291624554494284
|tw14612567324256159821
|tw8631287154428734327
|tw16467423046104340361
|tw16098733271546464449
|te16098733271546464449
|tw3888900302513517306
|tw12517765817487505800
|tw2343438742834961026
|tw13675702664377243809
set_option maxRecDepth 100000 in
set_option maxHeartbeats 0 in
theorem PySem.Challenge.cw_everguard_k48_cones_holds : PySem.Challenge.rw_everguard_k48_cones.Holds := by
 w_on; o_law; k_head; (case hw=>w_witness2)
 k_fill
 refine Gen.walk (l:=PySem.Challenge.rw_everguard_k48_cones) rfl rfl (λw h Y=>W.kIn_of Y) ?F
 case F=>
  intro w mg fa h KX G El
  refine' Gen.all_mk KX G El ?_ ?_ ?_ ?_ ?_ ?_ ?_ ?_ ?_ ?_ ?_ ?_ ?_ ?_ ?_ ?_ ?_ ?_ ?_ ?_ ?_ ?_ ?_ ?_ ?_ ?_ ?_ ?_ ?_ ?_ ?_ ?_ ?_ ?_ ?_ ?_ ?_ ?_ ?_ ?_ ?_ ?_ ?_ ?_ ?_ ?_ ?_ ?_ ?_ ?_ ?_ ?_ ?_ ?_ ?_ ?_ ?_ ?_ ?_ ?_ ?_ ?_ ?_ ?_ ?_ ?_ ?_ ?_ ?_ ?_ ?_ ?_ ?_ ?_ ?_ ?_ ?_ ?_ ?_ ?_ ?_ ?_ ?_ ?_ ?_ ?_ ?_ ?_ ?_ ?_ ?_
  all_goals first | (apply Gen.OG.mk <;> k_is) | (apply L2.L0 <;> k_is) | (apply L2.Meth.mk <;> k_is) | (apply L2.Mk.mk <;> k_is) | (apply L2.sL.mk <;> k_is) | k_is | (unfold L2.dZ; k_is) | skip
#print axioms PySem.Challenge.cw_everguard_k48_cones_holds
