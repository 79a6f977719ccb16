import PyProof.Rows.All
import Wide.All
import OpenK.AllK
import PySem.Challenge.RW_everguard_k45_rings_backward
set_option Elab.async false
set_option compiler.extract_closed false
set_option linter.all false
set_option maxRecDepth 100000
def aaa:=@List.length_map
def aab:=@List.getElem?_eq_getElem
def aac:=@PySem.Heap.get?_push_of_some
def aad:=@PySem.wpAny_bind
def aae:=@List.getElem?_map
def aaf:=@Nat.le_refl
def aag:=@List.length_append
def aah:=@List.map_append
def aai:=@List.getD_eq_getElem?_getD
def aaj:=@List.mem_cons
def aak:=@List.getElem?_eq_some_iff
def aal:=@List.mem_map
def aam:=@Nat.le_trans
def aan:=@List.size_toArray
def aao:=@PySem.wpAny_pure
def aap:=@List.mem_append
def aaq:=@PySem.Heap.get?_push_size
def aar:=@List.mem_append_right
def aas:=@List.mem_cons_self
def aat:=@List.not_mem_nil
def aau:=@List.nodup_append
def aav:=@List.mem_cons_of_mem
def aaw:=@PySem.Heap.lt_size
def aax:=@Ne.symm
def aay:=@Option.some.inj
def aaz:=@if_neg
def aaA:=@List.length_cons
def aaB:=@List.map_cons
def aaC:=@List.mem_singleton
def aaD:=@Nat.ne_of_lt
def aaE:=@Bool.false_ne_true
def aaF:=@if_pos
def aaG:=@List.length_take
def aaH:=@decide_eq_false
def aaI:=@List.mem_append_left
def aaJ:=@Nat.le_add_right
def aaK:=@List.mem_of_getElem?
def aaL:=@PySem.F.plainAttrs_list
def aaM:=@Nat.lt_of_lt_of_le
def aaN:=@decide_eq_true
def aaO:=@Nat.zero_le
def aaP:=@List.nodup_cons
def abc:=@List.length_singleton
def ac4:=@List.take_length
def ac5:=@PySem.F.slot_list_append
def ac6:=@PySem.F.type_list_append
def ac7:=@PySem.PassesOwn.never
def ac8:=@decide_eq_true_eq
def ac9:=@Nat.le_succ_of_le
def ada:=@Nat.pow_le_pow_right
def adb:=@Bool.eq_iff_iff
def ade:=@PyProof.Rows.boot_dict
def adf:=@List.getElem_mem
def adg:=@or_false
def adh:=@of_decide_eq_true
def adi:=@List.length_range
def adj:=@Bool.and_eq_true
def adk:=@PyProof.Rows.callWith_type1
def adl:=@List.take_of_length_le
def adm:=@PySem.boot_len
def adn:=@List.take_succ
def ads:=@List.length_eq_zero_iff
def adt:=@beq_eq_false_iff_ne
def adu:=@PySem.wpAny_seqItems
def adv:=@PyProof.Rows.boot_isinstance
def adw:=@PyProof.Rows.boot_list
def adx:=@List.any_eq_true
def ady:=@List.append_assoc
def adz:=@PySem.Heap.size_push
def adA:=@PySem.W.mg_none_of
def adB:=@PyProof.Rows.wpS_bind
def adC:=@Sum.inr.inj
def adD:=@PySem.wpAny_field
def adE:=@Nat.not_lt_zero
def adF:=@List.getElem?_append_right
def adG:=@List.mem_of_mem_take
def adH:=@Nat.lt_of_le_of_lt
def adI:=@List.getElem?_append_left
def adJ:=@Nat.lt_irrefl
def adK:=@List.length_drop
def adL:=@Nat.lt_succ_of_lt
def adM:=@List.take_append_drop
def adN:=@List.nodup_nil
def adO:=@List.mem_filter
def adP:=@PySem.wpAny_holding
def adQ:=@Option.map_some
def adR:=@PySem.wpAny_callSpecial?_slot
def adS:=@PySem.wpAny_setField_rec
def adT:=@PySem.wpAny_call_entry
def adU:=@List.lookup_cons
def adV:=@List.map_map
def adW:=@PySem.sizeLine_eq
def adX:=@Int.toNat_natCast
def adY:=@List.length_reverse
def adZ:=@List.map_congr_left
def ad0:=@PySem.Heap.SameBut.update
def ad1:=@Nat.mul_le_mul_left
def ad2:=@PySem.W.mg_of
def ad3:=@List.drop_eq_getElem_cons
def ad4:=@Nat.ne_of_gt
def ad5:=@List.map_nil
def ad6:=@PySem.F.slot_dict_get
def ad7:=@List.all_eq_true
def ad8:=@List.any_cons
def ad9:=@PyProof.Rows.wpS_pure
def aea:=@List.cons.inj
def aeb:=@Array.length_toList
def aec:=@List.append_nil
def aed:=@PySem.Calls.callWith_builtin
def aee:=@PySem.F.slot_tuple_iterator_next
def aef:=@PySem.wpAny_mono
def aeg:=@PySem.tupleKind_room_in1
def aeh:=@Bool.false_eq_true
def aei:=@PySem.wpAny_passesOwn
def aej:=@List.reverse_cons
def aek:=@PySem.F.slot_list_getattribute
def ael:=@Nat.le_of_lt
def aem:=@Nat.pow_succ
def aen:=@Nat.le_succ
def aeo:=@PySem.mem_of_lookup
def aep:=@PySem.F.plainAttrs_dict
def aeq:=@List.cons_append
def aer:=@Nat.succ_le_succ
def aes:=@List.mem_reverse
def aet:=@PySem.F.entry_dict_get
def aeu:=@PySem.F.plainAttrs_str
def aev:=@List.find?_cons_of_pos
def aew:=@PyProof.Rows.boot_bool
def aex:=@PySem.Calls.spliced_cons
def aey:=@PySem.wpAny_Call_Name_kw
def aez:=@Int.emod_lt_of_pos
def aeA:=@List.dropLast_concat_getLast
def aeB:=@List.find?_cons
def aeC:=@List.length_nil
def aeD:=@Array.getElem?_toList
def aeE:=@List.forIn_cons
def aeF:=@List.nil_append
def aeG:=@PySem.builtinLookup_eq_fast
def aeI:=@PySem.F.slot_zip_next
def aeK:=@PyProof.Rows.wpS_forRange
def aeL:=@PySem.wpAny_truthy_bool
def aeM:=@PySem.wpAny_newObj_type
def aeN:=@List.map_take
def aeO:=@List.Pairwise.imp
def aeP:=@PySem.wpAny_updateSeq_pair
def aeQ:=@PySem.W.kia_one
def aeR:=@List.forIn_nil
def aeS:=@List.mem_of_find?_eq_some
def aeT:=@Nat.lt_succ_self
def aeU:=@beq_self_eq_true
def aeV:=@List.getElem_map
def aeW:=@PySem.Heap.size_update
def aeX:=@List.map_reverse
def aeY:=@beq_iff_eq
def aeZ:=@PySem.F.args_tuple_add_2
def ae0:=@PySem.call_meets
def ae1:=@PyProof.Rows.assignInOrder_cons
def ae2:=@PySem.wpAny_specialOf
def ae3:=@PySem.F.entry_tuple_add
def ae4:=@if_false
def ae5:=@Nat.min_eq_left
def ae6:=@Int.emod_nonneg
def ae7:=@List.foldl_cons
def ae8:=@List.length_zip
def ae9:=@List.getElem?_drop
def afa:=@PyProof.Rows.boot_tuple
def afb:=@List.getLast_eq_getElem
def afc:=@Option.map_eq_some_iff
def afd:=@PySem.F.slot_tuple_add
def afe:=@PySem.Heap.get?_update_other
def afg:=@List.find?_cons_of_neg
def afh:=@Sum.inl.inj
def afi:=@PySem.wpAny_pyIter_list
def afj:=@PySem.Calls.spliced_nil
def afk:=@PySem.typeIs_str
def afl:=@if_true
def afm:=@PySem.wpAny_rule
def afn:=@List.pairwise_map
def afo:=@PySem.call_meetsIn
def afp:=@PySem.Heap.get?_update_self
def afq:=@not_or
def afr:=@List.getElem?_toArray
def afs:=@List.filter_cons
def aft:=@PySem.F.slot_dict_itemiterator_iter
def afu:=@PySem.Calls.evalArgs_plain
def afv:=@PySem.F.args_tuple_iterator_next_1
def afw:=@PySem.wpAny_onRaise
def afx:=@Bool.and_true
def afy:=@List.filterMap_cons
def afz:=@PySem.wpAny_execs_nil
def afA:=@List.of_mem_zip
def afB:=@PySem.SeqAt.in_listAt
def afC:=@PySem.wpAny_letGo
def afD:=@ne_true_of_eq_false
def afE:=@PySem.typeLookup_type
def afF:=@PySem.F.entry_tuple_iterator_next
def afG:=@PyProof.Rows.get?_update_seq
def afH:=@PySem.F.slot_str_startswith
def afI:=@PySem.F.type_str_startswith
def afJ:=@Prod.mk.inj
def afK:=@PySem.Calls.Name_function_global
def afL:=@PyProof.Rows.boot_reversed
def afM:=@PySem.wpAny_typeOf
def afN:=@PySem.F.args_str_split_2
def afO:=@PySem.wpAny_pyIter_tuple
def afP:=@Option.toList_some
def afQ:=@decide_eq_true_iff
def afR:=@Classical.byContradiction
def afS:=@PySem.wpAny_newTuple
def afT:=@PySem.Calls.call_function_entry
def afU:=@List.mem_take_iff_getElem
def afV:=@Option.isSome_iff_exists
def afW:=@List.getElem?_take_of_lt
def afX:=@Option.isSome_map
def afY:=@PySem.wpAny_comprehension_free
def afZ:=@PySem.F.entry_str_split
def af0:=@List.length_erase_of_mem
def af1:=@PySem.F.args_zip_next_1
def af2:=@PySem.F.slot_dict_update
def af3:=@List.foldl_append
def af4:=@List.getElem?_inj
def af5:=@PySem.wpAny_standAt
def af6:=@PySem.F.args_dict_get_2
def af7:=@PySem.F.args_dict_get_3
def af8:=@PySem.wpAny_Call_method0_late
def af9:=@PySem.wpAny_getItem_str_slice
def aga:=@List.map_drop
def agb:=@PySem.wpAny_attempt
def agc:=@PySem.F.slot_dict_items
def agd:=@PyProof.Rows.wpS_mono
def age:=@PyProof.Rows.listUpdate_at
def agf:=@PySem.wpAny_newList
def agg:=@Nat.add_assoc
def agh:=@List.mem_singleton_self
def agi:=@List.getElem_inj
def agj:=@PySem.wpAny_Dict_empty
def agk:=@PySem.noFill_tuple_add
def agl:=@Option.getD_none
def agm:=@Nat.le_of_not_lt
def agn:=@PySem.F.slot_str_split
def ago:=@PySem.F.entry_zip_next
def agp:=@List.zipIdx_cons
def agq:=@PySem.wpAny_isInstance
def agr:=@PySem.wpAny_pyIter_zip
def ags:=@List.ext_getElem
def agt:=@PySem.SeqAt.eqAt_reads
def agu:=@List.getElem?_set_self
def agv:=@List.length_pos_of_mem
def agw:=@Nat.lt_of_succ_lt_succ
def agx:=@Bool.beq_eq_decide_eq
def agy:=@Nat.le_of_eq
def agz:=@PySem.W.methodCall_KW
def agA:=@PySem.codeAny_mono
def agB:=@Nat.lt_trans
def agC:=@PySem.F.type_dict_get
def agD:=@List.zipIdx_nil
def agE:=@List.range_succ
def agF:=@List.cons.injEq
def agG:=@List.getElem?_reverse
def agH:=@PyProof.Rows.boot_max
def agI:=@PyProof.Rows.boot_all
def agJ:=@List.getElem?_set_ne
def agK:=@Array.mem_toList_iff
def agL:=@List.length_dropLast
def agM:=@List.mem_erase_of_ne
def agN:=@List.mem_of_mem_drop
def agO:=@List.getElem?_of_mem
def agP:=@List.dropLast_subset
def agQ:=@List.mem_range
def agR:=@PySem.wpAny_listPart
def agS:=@PySem.wpAny_bindName
def agT:=@Array.size_map
def agU:=@PySem.Paired.snoc
def agV:=@PySem.evalArgs_none
def agW:=@Nat.add_le_add_left
def agX:=@List.filter_eq_self
def agY:=@List.getElem_of_mem
def agZ:=@PyProof.Rows.wpS_get
def ag0:=@List.length_zipWith
def ag1:=@PySem.Paired.length
def ag2:=@Array.append_assoc
def ag3:=@List.mem_filterMap
def ag4:=@PySem.W.plainGet_of
def ag5:=@Option.isSome_some
def ag6:=@PySem.seq_tuple_add
def ag7:=@List.all_cons
def ag8:=@Prod.ext
def ag9:=@List.set_comm
def aha:=@PySem.plainId_quiet
def ahb:=@Array.forIn_toList
def ahc:=@Int.lt_of_le_of_lt
def ahd:=@List.find?_eq_none
def ahe:=@Nat.add_sub_cancel
def ahf:=@List.getElem_range
def ahg:=@List.flatten_cons
def ahh:=@Nat.lt_trichotomy
def ahi:=@not_false_eq_true
def ahj:=@bne_self_eq_false
def ahk:=@List.flatMap_cons
def ahl:=@List.find?_append
def ahm:=@Nat.sub_self
def ahn:=@Nat.min_self
def aho:=@Nat.zero_add
def ahp:=@and_true
namespace L2
open PySem PySem.Spec PyProof.Rows
abbrev Key:=Sum Int Str
def kG:Key->Value->Bool
 | .inl k,v=>Value.isInt k v
 | .inr x,v=>Value.isStrOf x v
def aaQ(w:World):Key->Int
 | .inl k=>hashInt k
 | .inr x=>hashStr w x
theorem fg:∀{k:Key}{v:Value},kG k v=true->(∃i t,k=Sum.inl i/\v=Value.int i t)\/(∃x t,k=Sum.inr x/\v=Value.str x t)
 | .inl i,v,h=>by
  obtain⟨t,e⟩:=Value.isInt_shape (k:=i) (v:=v) h
  exact .inl ⟨i,t,rfl,e⟩
 | .inr x,v,h=>by
  obtain⟨t,e⟩:=Value.isStrOf_shape (x:=x) (v:=v) h
  exact .inr ⟨x,t,rfl,e⟩
theorem HZ(i:Int)(t:Tok):kG (.inl i) (.int i t)=true:=by simp[kG,Value.isInt]
theorem Ia(x:Str)(t:Tok):kG (.inr x) (.str x t)=true:=by simp[kG,Value.isStrOf]
theorem Qp(a b:Int):decide ((Sum.inl a:Key)=Sum.inl b)=(a == b):=by
 by_cases e:a=b
 . subst e;simp
 . have h:¬ (Sum.inl a:Key)=Sum.inl b:=λq=>e (afh q)
   rw[aaH h]
   exact(adt.mpr e).symm
theorem Qq(a b:Str):decide ((Sum.inr a:Key)=Sum.inr b)=decide (a=b):=by
 by_cases e:a=b
 . subst e;simp
 . have h:¬ (Sum.inr a:Key)=Sum.inr b:=λq=>e (adC q)
   rw[aaH h,aaH e]
theorem Qr(a:Int)(b:Str):decide ((Sum.inl a:Key)=Sum.inr b)=false:=aaH (λq=>nomatch q)
theorem Qs(a:Str)(b:Int):decide ((Sum.inr a:Key)=Sum.inl b)=false:=aaH (λq=>nomatch q)
def bj(prog:Program)(w:World):PySem.KeyKind prog w Key where
 is:=kG
 hash:=aaQ w
 inj:=λv a b ha hb=>by
  rcases fg ha with⟨i,t,rfl,rfl⟩|⟨x,t,rfl,rfl⟩
  . rcases fg hb with⟨j,u,rfl,e⟩|⟨y,u,rfl,e⟩
    . injection e with e1 _;rw[e1]
    . exact nomatch e
  . rcases fg hb with⟨j,u,rfl,e⟩|⟨y,u,rfl,e⟩
    . exact nomatch e
    . injection e with e1 _;rw[e1]
 byValue:=λk v h=>by
  rcases fg h with⟨i,t,rfl,rfl⟩|⟨x,t,rfl,rfl⟩ <;> rfl
 pyHash:=λhv h=>by
  rcases fg hv with⟨i,t,rfl,rfl⟩|⟨x,t,rfl,rfl⟩
  . exact wpAny_pyHash_int h
  . exact wpAny_pyHash_str h
 eqBool:=λhu hv h=>by
  rcases fg hu with⟨i,t,rfl,rfl⟩|⟨x,t,rfl,rfl⟩
  . rcases fg hv with⟨j,u,rfl,rfl⟩|⟨y,u,rfl,rfl⟩
    . rw[Qp]at h;exact wpAny_eqBool_int h
    . rw[Qr]at h;exact SeqAt.EqAt.int_str i t y u _ _ _ _ h
  . rcases fg hv with⟨j,u,rfl,rfl⟩|⟨y,u,rfl,rfl⟩
    . rw[Qs]at h;exact SeqAt.EqAt.str_int x t j u _ _ _ _ h
    . rw[Qq]at h;exact wpAny_eqBool_str h
 «strs»:=λk x t v h=>by
  rcases fg h with⟨i,u,rfl,e⟩|⟨y,u,rfl,e⟩
  . exact nomatch e
  . injection e with e1 _
    subst e1
    cases v <;> rfl
theorem FI(prog:Program)(w:World)(k:Key)(v:Value):(bj prog w).is k v=kG k v:=rfl
theorem DP(prog:Program)(w:World)(i:Int)(t:Tok):(bj prog w).is (.inl i) (.int i t)=true:=HZ i t
theorem DQ(prog:Program)(w:World)(x:Str)(t:Tok):(bj prog w).is (.inr x) (.str x t)=true:=Ia x t
inductive V where
 | aV|bl (b:Bool)|int (i:Int)|str (x:Str)|pI (b:Array UInt8)|yF (b:UInt64)|ref (a:Addr)|ty (n:String)
 deriving DecidableEq
def RelV:V->Value->Prop
 | .aV,u=>u=Value.none
 | .bl b,u=>u=Value.bool b
 | .int i,u=>∃t,u=Value.int i t
 | .str x,u=>∃t,u=Value.str x t
 | .pI b,u=>∃t,u=Value.bytes b t
 | .yF b,u=>∃t,u=Value.float b t
 | .ref a,u=>u=Value.ref a
 | .ty n,u=>u=Value.type n
abbrev Vals:List V->List Value->Prop:=Paired RelV
theorem Vals.length{xs:List V}{us:List Value}(r:Vals xs us):xs.length=us.length:=ag1 r
theorem Vals.get:∀{xs:List V}{us:List Value}{i:Nat}{x:V},Vals xs us->xs[i]?=some x->∃u,us[i]?=some u/\RelV x u
 | _,_,_,_,.nil,e=>by simp at e
 | _,_,0,_,.cons r _,e=>by simp at e;subst e;exact⟨_,rfl,r⟩
 | _,_,i+1,x,.cons _ t,e=>by
  obtain⟨u,h1,h2⟩:=Vals.get (i:=i) (x:=x) t (by simpa using e)
  exact⟨u,by simpa using h1,h2⟩
theorem Vals.set{x:V}{u:Value}(r:RelV x u):∀{xs:List V}{us:List Value}(i:Nat),Vals xs us->Vals (xs.set i x) (us.set i u)
 | _,_,_,.nil=>.nil
 | _,_,0,.cons _ t=>.cons r t
 | _,_,i+1,.cons q t=>.cons q (Vals.set r i t)
theorem Vals.append:∀{xs ys:List V}{us ws:List Value},Vals xs us->Vals ys ws->Vals (xs++ys) (us++ws)
 | _,_,_,_,.nil,s=>s
 | _,_,_,_,.cons r t,s=>.cons r (Vals.append t s)
theorem Vals.take:∀{xs:List V}{us:List Value}(n:Nat),Vals xs us->Vals (xs.take n) (us.take n)
 | _,_,0,_=>.nil
 | _,_,_+1,.nil=>.nil
 | _,_,n+1,.cons r t=>.cons r (Vals.take n t)
theorem Vals.drop:∀{xs:List V}{us:List Value}(n:Nat),Vals xs us->Vals (xs.drop n) (us.drop n)
 | _,_,0,r=>r
 | _,_,_+1,.nil=>.nil
 | _,_,n+1,.cons _ t=>Vals.drop n t
def ji:Option V->Option Value->Prop
 | some v,some u=>RelV v u
 | none,none=>True
 | _,_=>False
def KV{κ:Type} : List (κ×V)->List (κ×Value)->Prop:=Paired λ(p:κ×V) (q:κ×Value)=>p.1=q.1/\RelV p.2 q.2
def kV:Key->V
 | .inl i=>.int i
 | .inr x=>.str x
inductive HO where
 /-- a list -/
 | lst (xs:List V)
 /-- a tuple (never changes) -/
 | tup (xs:List V)
 /-- a dict whose keys are ints and texts;one whose keys are tuples of ints and texts (the empty one is both) -/
 | dK (kvs:List (Key×V))|dT (kvs:List (List Key×V))
 /-- a set of ints: its members,its size -/
 | set (S:Int->Bool) (n:Nat)
 /-- an instance of the class at C,its dict at dx,its attributes -/
 | ins (C dx:Addr) (fs:List (Str×V))
 /-- the dict of the instance at x -/
 | own (x:Addr)
 /-- the dict of an exception -/
 | xd (fs:List (Str×V))
 /-- a bound method,f of x -/
 | met (f x:Addr)
 /-- a range object lo,lo+1,.. below hi -/
 | Qt (lo hi:Int)
 /-- a thing that is known to the object (the script;a dict while a loop walks it): read,never written while it is so -/
 | du (o:Obj) (u:HO)
 /-- a code object's table -/
 | As (ps:Array Value)
 /-- any other thing,by what is true of its one object (a def of one's own: SetO a S n:=HO.ext λh=>..) -/
 | ext (φ:Heap->Prop)
abbrev Hp:=Addr->Option HO
def upd(H:Hp)(a:Addr)(o:HO):Hp:=λb=>if b=a then some o else H b
theorem af{H:Hp}{a:Addr}{o:HO} : upd H a o a=some o:=by unfold upd;rw[aaF rfl]
theorem ag{H:Hp}{a b:Addr}{o:HO}(h:b≠a):upd H a o b=H b:=by unfold upd;rw[aaz h]
theorem iO:upd (upd H a o) a u=upd H a u:=by
 funext b;unfold upd;split <;> rfl
theorem aD{H:Hp}{a b:Addr}{o u:HO}(h:H a=some o)(h':H b=some u)(d:o≠u):a≠b:=by
 intro e;subst e;rw[h]at h';exact d (aay h')
theorem ae{H:Hp}{a b:Addr}{o:HO}(h:H a=some o)(h':H b=none):a≠b:=by
 intro e;subst e;rw[h]at h';cases h'
section
variable (P:Program) (w:World)
def bU(H:Hp)(h:Heap)(a:Addr):HO->Prop
 | .lst xs=>xs.length<=sizeLine/\∃(its:List Value) (n:Nat),Vals xs its/\h.get? a=some {cls:=.type "list",data:=.seq its.toArray n}
 | .tup xs=>xs.length<=sizeLine/\∃its:List Value,Vals xs its/\IsTup h a its.toArray
 | .dK kvs=>kvs.length<=sizeLine/\(a == sysModules)=false/\∃vs,KV kvs vs/\h.DictOf (bj P w) a vs
 | .dT kvs=>kvs.length<=sizeLine/\(a == sysModules)=false/\∃xs:List (List Key×Addr×Value),
  Paired (λ(p:List Key×V) (q:List Key×Addr×Value)=>p.1=q.1/\H q.2.1=some (.tup (p.1.map kV))/\RelV p.2 q.2.2) kvs xs/\
  ∃o es ep,h.get? a=some o/\o.ExactDict/\o.data=.dict es ep/\es.toList=xs.map (entryOfKey (tupleKind (bj P w)))/\(xs.map (·.1)).Nodup
 | .set S n=>h.SetOf (intKind P w) a S n
 | .ins C dx fs=>H dx=some (.own a)/\fs.length<=1000/\dx≠a/\h.get? a=some (W.instObj C dx)/\
  ∃mA,h.Ns1 dx mA/\(∀f,ji (fs.lookup f) (mA f))/\PySem.Within mA (fs.map (·.1))
 | .own _=>∃o,h.get? a=some o
 | .xd fs=>∃mA,h.Ns1 a mA/\∀f,ji (fs.lookup f) (mA f)
 | .Qt lo hi=>∃t u v,h.get? a=some {cls:=.type "range",data:=.fields #[.int lo t,.int hi u,.int 1 v] }
 | .du o u=>h.get? a=some o/\bU H h a u
 | .As ps=>h.get? a=some {cls:=.none,data:=.fields ps}
 | .met f x=>h.get? a=some (W.methodObj (.ref f) (.ref x))
 | .ext φ=>φ h/\(∃o,h.get? a=some o)/\∀h1 h2:Heap,φ h1->(∀o,h1.get? a=some o->h2.get? a=some o)->φ h2
def gu(H:Hp)(h:Heap):Prop:=∀a o,H a=some o->bU P w H h a o
end
section
variable {P:Program}{w:World}{H H':Hp}{h h':Heap}{a:Addr}{o:HO}
theorem bU.lt(x:bU P w H h a o):a<h.objs.size:=by
 cases o with
 | lst xs=>obtain⟨_,_,_,_,e⟩:=x;exact aaw e
 | tup xs=>obtain⟨_,_,_,p⟩:=x;exact p.lt
 | dK kvs=>obtain⟨_,_,_,_,o,_,_,e,_⟩:=x;exact aaw e
 | dT kvs=>obtain⟨_,_,_,_,o,_,_,e,_⟩:=x;exact aaw e
 | set S n=>obtain⟨o,_,_,_,e,_⟩:=x;exact aaw e
 | ins C dx fs=>obtain⟨_,_,_,e,_⟩:=x;exact aaw e
 | own y=>obtain⟨_,e⟩:=x;exact aaw e
 | xd fs=>obtain⟨_,⟨_,_,_,e,_⟩,_⟩:=x;exact aaw e
 | Qt lo hi=>obtain⟨_,_,_,e⟩:=x;exact aaw e
 | du ob u=>obtain⟨e,_⟩:=x;exact aaw e
 | As ps=>exact aaw (show h.get? a=some _ from x)
 | met f y=>exact aaw (show h.get? a=some _ from x)
 | ext φ=>obtain⟨_,⟨_,e⟩,_⟩:=x;exact aaw e
theorem Paired.cw{α β:Type}{F G:α->β->Prop} : ∀{l₁:List α}{l₂:List β},Paired F l₁ l₂->(∀a b,F a b->G a b)->Paired G l₁ l₂
 | _,_,.nil,_=>.nil
 | _,_,.cons r t,f=>.cons (f _ _ r) (Paired.cw t f)
theorem bU.jm(x:bU P w H h a o) (k:∀b u,(b=a\/H b=some (.own a))->h.get? b=some u->h'.get? b=some u)
 (ho:∀b,H b=some (.own a)->H' b=some (.own a)) (ht:∀b xs,H b=some (.tup xs)->H' b=some (.tup xs)):bU P w H' h' a o:=by
 induction o with
 | lst xs=>obtain⟨z,its,n,r,e⟩:=x;exact⟨z,its,n,r,k _ _ (.inl rfl) e⟩
 | tup xs=>obtain⟨z,its,r,ob,e,c⟩:=x;exact⟨z,its,r,ob,k _ _ (.inl rfl) e,c⟩
 | dK kvs=>obtain⟨z,y,vs,r,ob,es,ep,e,c⟩:=x;exact⟨z,y,vs,r,ob,es,ep,k _ _ (.inl rfl) e,c⟩
 | dT kvs=>
  obtain⟨z,y,xs,r,ob,es,ep,e,c⟩:=x
  exact⟨z,y,xs,Paired.cw r λp q z=>⟨z.1,ht _ _ z.2.1,z.2.2⟩,ob,es,ep,k _ _ (.inl rfl) e,c⟩
 | set S n=>obtain⟨ob,es,ep,t,e,c⟩:=x;exact⟨ob,es,ep,t,k _ _ (.inl rfl) e,c⟩
 | ins C dx fs=>
  obtain⟨d,z,ne,e,mA,⟨od,es,ep,e2,c⟩,r⟩:=x
  exact⟨ho _ d,z,ne,k _ _ (.inl rfl) e,mA,⟨od,es,ep,k _ _ (.inr d) e2,c⟩,r⟩
 | own y=>obtain⟨ob,e⟩:=x;exact⟨ob,k _ _ (.inl rfl) e⟩
 | xd fs=>obtain⟨mA,⟨od,es,ep,e,c⟩,r⟩:=x;exact⟨mA,⟨od,es,ep,k _ _ (.inl rfl) e,c⟩,r⟩
 | Qt lo hi=>obtain⟨t,u,v,e⟩:=x;exact⟨t,u,v,k _ _ (.inl rfl) e⟩
 | du ob u ih=>obtain⟨e,q⟩:=x;exact⟨k _ _ (.inl rfl) e,ih q⟩
 | As ps=>
  have e:h.get? a=some {cls:=.none,data:=.fields ps}:=x
  show h'.get? a=some {cls:=.none,data:=.fields ps}
  exact k a _ (.inl rfl) e
 | met f y=>
  have e:h.get? a=some (W.methodObj (.ref f) (.ref y)):=x
  show h'.get? a=some (W.methodObj (.ref f) (.ref y))
  exact k a _ (.inl rfl) e
 | ext φ=>obtain⟨p,⟨o,e⟩,st⟩:=x;exact⟨st _ _ p λo q=>k _ _ (.inl rfl) q,⟨o,k _ _ (.inl rfl) e⟩,st⟩
theorem gu.lt(x:gu P w H h)(e:H a=some o):a<h.objs.size:=(x a o e).lt
theorem gu.fresh(x:gu P w H h)(e:h.objs.size<=a):H a=none:=by
 cases q:H a with
 | none=>rfl
 | some u=>exact absurd (aaM (x.lt q) e) (adJ _)
theorem gu.kept(x:gu P w H h)(k:∀b u,h.get? b=some u->h'.get? b=some u):gu P w H h':=λa o e=>
 (x a o e).jm (λb u _ q=>k b u q) (λ_ q=>q) λ_ _ q=>q
theorem gu.laid(x:gu P w H h)(k:∀b u,h.get? b=some u->h'.get? b=some u)(hp:h.objs.size<=a) (new:bU P w (upd H a o) h' a o):gu P w (upd H a o) h':=λb u e=>by
 have hn:=x.fresh hp
 by_cases hb:b=a
 . subst hb;rw[af]at e;cases e;exact new
 . rw[ag hb]at e
   exact(x b u e).jm (λc v _ q=>k c v q) (λc q=>by rw[ag (ae q hn)];exact q) λc xs q=>by rw[ag (ae q hn)];exact q
end
def Rd(H:Hp)(a:Addr)(u:HO):Prop:=H a=some u\/∃o,H a=some (.du o u)
theorem Rd.of{H:Hp}{a:Addr}{u:HO}(h:H a=some u):Rd H a u:=.inl h
theorem Rd.ok(r:Rd H a u)(x:gu P w H h):bU P w H h a u:=by
 rcases r with r|⟨o,r⟩
 . exact x a u r
 . obtain⟨_,q⟩:=x a _ r
   exact q
def Ib:Option HO->Prop
 | some (.lst _)=>True
 | some (.dK _)=>True
 | some (.dT _)=>True
 | some (.set _ _)=>True
 | some (.ins _ _ _)=>True
 | some (.ext _)=>True
 | _=>False
section
variable {P:Program}{w:World}{H:Hp}{h h':Heap}{x e:Addr}{o':HO}
theorem gu.write(ok:gu P w H h) (mu:Ib (H x)) (he:e=x\/H e=some (.own x)) (k:∀b u,b≠e->h.get? b=some u->h'.get? b=some u) (D8:∃u,h'.get? e=some u)
 (new:bU P w (upd H x o') h' x o'):gu P w (upd H x o') h':=λb u q=>by
 have lA:∀c y,H c=some (.own y)->c≠x:=λc y r z=>by subst z;rw[r]at mu;exact mu
 have aaR:∀c xs,H c=some (.tup xs)->c≠x:=λc xs r z=>by subst z;rw[r]at mu;exact mu
 by_cases hb:b=x
 . subst hb;rw[af]at q;cases q;exact new
 . rw[ag hb]at q
   by_cases nj:b=e
   . have q':H b=some (.own x):=by
      rcases he with z|z
      . exact absurd (nj.trans z) hb
      . rw[nj];exact z
     rw[q]at q';cases q'
     obtain⟨v,hv⟩:=D8
     exact⟨v,by rw[nj];exact hv⟩
   . refine(ok b u q).jm (λc v hc r=>k c v ?_ r) (λc r=>by rw[ag (lA c b r)];exact r) λc xs r=>by rw[ag (aaR c xs r)];exact r
     rcases hc with rfl|hc
     . exact nj
     . rintro rfl
       rcases he with z|z
       . exact lA c b hc z
       . rw[hc]at z;cases z;exact hb rfl
end
structure Un(fs ex:List Addr) (H H':Hp) (h h':Heap):Prop where
 keep:∀b o,h.get? b=some o->H b=none->b∉fs->b∉ex->h'.get? b=some o
 slot:∀b o,h.get? b=some o->H b=none->b∈fs->b∉ex->∃sl,h'.get? b=some {o with slots:=sl}
 free:∀b o,h.get? b=some o->H b=none->b∉ex->H' b=none
 there:∀b o,h.get? b=some o->b∉ex->∃o',h'.get? b=some o'
 jK:∀b xs,H b=some (.tup xs)->H' b=some (.tup xs)
 frzs:∀b o u,H b=some (.du o u)->H' b=some (.du o u)
 tbls:∀b ps,H b=some (.As ps)->∃more,H' b=some (.As (ps++more))
section
variable {fs fs' ex ex':List Addr}{H H1 H2:Hp}{h h1 h2 h':Heap}{a x e:Addr}{o:HO}
theorem Un.any(u:Un fs ex H H1 h h1)(q:h.get? b=some ob)(n:H b=none)(hx:b∉ex):∃sl,h1.get? b=some {ob with slots:=sl}:=by
 by_cases hb:b∈fs
 . exact u.slot b ob q n hb hx
 . exact⟨ob.slots,u.keep b ob q n hb hx⟩
theorem Un.trans(a:Un fs ex H H1 h h1)(b:Un fs ex H1 H2 h1 h2):Un fs ex H H2 h h2 where
 keep:=λc ob q n hc hx=>b.keep c ob (a.keep c ob q n hc hx) (a.free c ob q n hx) hc hx
 slot:=λc ob q n hc hx=>by
  obtain⟨sl,e1⟩:=a.slot c ob q n hc hx
  obtain⟨Qu,e2⟩:=b.slot c _ e1 (a.free c ob q n hx) hc hx
  exact⟨Qu,e2⟩
 free:=λc ob q n hx=>by
  obtain⟨o',e1⟩:=a.there c ob q hx
  exact b.free c o' e1 (a.free c ob q n hx) hx
 there:=λc ob q hx=>by
  obtain⟨o',e1⟩:=a.there c ob q hx
  exact b.there c o' e1 hx
 jK:=λc xs q=>b.jK c xs (a.jK c xs q)
 frzs:=λc ob xs q=>b.frzs c ob xs (a.frzs c ob xs q)
 tbls:=λc ps q=>by
  obtain⟨m1,e1⟩:=a.tbls c ps q
  obtain⟨m2,e2⟩:=b.tbls c _ e1
  exact⟨m1++m2,by rw[e2,ag2]⟩
theorem Un.kept(k:∀b u,h.get? b=some u->h'.get? b=some u):Un fs ex H H h h':=
 ⟨λb ob q _ _ _=>k b ob q,λb ob q _ _ _=>⟨ob.slots,k b ob q⟩,λ_ _ _ n _=>n,λb ob q _=>⟨ob,k b ob q⟩,λ_ _ q=>q,λ_ _ _ q=>q,λ_ ps q=>⟨#[],by rw[q];simp⟩⟩
theorem Un.refl:Un fs ex H H h h:=Un.kept λ_ _ q=>q
theorem Un.laid(k:∀b u,h.get? b=some u->h'.get? b=some u)(hp:h.objs.size<=a)(hn:H a=none):Un fs ex H (upd H a o) h h' where
 keep:=λb u q _ _ _=>k b u q
 slot:=λb u q _ _ _=>⟨u.slots,k b u q⟩
 free:=λb u q n _=>by rw[ag (aaD (aaM (aaw q) hp))];exact n
 there:=λb u q _=>⟨u,k b u q⟩
 jK:=λb xs q=>by rw[ag (ae q hn)];exact q
 frzs:=λb u xs q=>by rw[ag (ae q hn)];exact q
 tbls:=λb ps q=>⟨#[],by rw[ag (ae q hn),q];simp⟩
theorem Un.write(mu:Ib (H x)) (he:e=x\/H e=some (.own x)) (k:∀b u,b≠e->h.get? b=some u->h'.get? b=some u) (D8:∃u,h'.get? e=some u):Un fs ex H (upd H x o) h h':=by
 have hx:∀b,H b=none->b≠x:=λb n z=>by subst z;rw[n]at mu;exact mu
 have hb:∀b,H b=none->b≠e:=λb n z=>by
  subst z
  rcases he with r|r
  . exact hx b n r
  . rw[n]at r;cases r
 have hm:∀b u,H b=some u->¬ Ib (some u)->b≠x:=λb u q nm z=>by subst z;rw[q]at mu;exact nm mu
 refine⟨λb u q n _ _=>k b u (hb b n) q,λb u q n _ _=>⟨u.slots,k b u (hb b n) q⟩,λb u q n _=>by rw[ag (hx b n)];exact n,λb u q _=>?_,
  λb xs q=>by rw[ag (hm b _ q λz=>z)];exact q,λb u xs q=>by rw[ag (hm b _ q λz=>z)];exact q,λb ps q=>⟨#[],by rw[ag (hm b _ q λz=>z),q];simp⟩⟩
 by_cases nj:b=e
 . subst nj;exact D8
 . exact⟨u,k b u nj q⟩
end
def M7(h:Heap)(H:Hp):List Addr:=(List.range h.objs.size).filter λa=>(H a).isSome
def qx(h:Heap)(H:Hp):Heap:=W.hideAll h (M7 h H)
theorem Ic(h:Heap)(H:Hp):(qx h H).objs.size=h.objs.size:=W.hideAll_size _ _
theorem K7(e:h.get? b=some o)(n:H b=none):(qx h H).get? b=some o:=
 W.hideAll_get _ e λhm=>by
  have q:(H b).isSome=true:=(adO.mp hm).2
  rw[n]at q;simp at q
theorem O1(e:(qx h H).get? b=some o):h.get? b=some o/\H b=none:=by
 have e':h.get? b=some o:=W.of_hideAll (M7 h H) e
 refine⟨e',?_⟩
 cases q:H b with
 | none=>rfl
 | some x=>
  have hm:b∈M7 h H:=adO.mpr ⟨agQ.mpr (aaw e'),by simp[q]⟩
  have z:(qx h H).get? b=none:=W.hideAll_none (M7 h H) hm
  rw[z]at e;cases e
def O3(g h:Heap)(L:Addr):List (Addr×Obj):=(List.range h.objs.size).filterMap λa=>if a=L\/(g.get? a).isSome=true then none else (h.get? a).map λo=>(a,o)
def rest(g h:Heap)(L d:Addr):List (Addr×Obj):=(O3 g h L).filter λp=>decide (p.1≠d)
structure Mod(K:W.Frag) (mg:Str->Option Value) (base:Heap):Prop where
 kin:K.In base
 glob:base.Ns mainGlobals mg
 blt:∃mb,base.Ns builtinsNs mb/\∀x:Str,x ≠ "__name__" -> mb x=bootBuiltins x
 nolimit:base.NoLimit
structure Cx where
 prog:Program
 w:World
 K:W.Frag
 mg:Str->Option Value
 base:Heap
 A:Around
 N:List Str
 nz:Shared
 FJ:Hp
 env:Env
 outer:List Env
 stack:List Env
 ex:List Addr
 fn:Str->Bool
 calm:Bool
 pn:List (Addr×Obj)
 xe:Value->Shared->Prop
def nY(l:List Env):List Addr:=l.filterMap (·.frame)
abbrev Cx.fs(X:Cx):List Addr:=nY X.outer
def Qv(sc:Scope)(x:Str):Prop:=sc.names.lookup x=some .local\/sc.names.lookup x=some .cell\/sc.names.lookup x=some .free
def Loc(sc:Scope)(x:Str):Prop:=sc.names.lookup x=some .local\/sc.names.lookup x=some .cell
def Look(env:Env)(h:Heap)(m:Str->Option Value)(x:Str)(u:Value):Prop:=
 (env.kindOf x=some .local/\m x=some u)\/((env.kindOf x=some .cell\/env.kindOf x=some .free)/\∃c,env.cells.lookup x=some c/\h.IsCell c (some u))
structure Cx.Ok(X:Cx):Prop where
 mod:Mod X.K X.mg X.base
 kind:X.env.scope.kind=.function
 glob:X.env.globals=mainGlobals
 blt:X.env.builtins=builtinsNs
 above:X.nz.heap.objs.size<=X.env.locals
 inj:∀x y c,X.env.cells.lookup x=some c->X.env.cells.lookup y=some c->x=y
 has:∀x,(X.env.kindOf x=some .cell\/X.env.kindOf x=some .free)->∃c,X.env.cells.lookup x=some c
 cab:∀x c,X.fn x=true->X.env.cells.lookup x=some c->X.nz.heap.objs.size<=c
 hd:X.calm=true->X.A.handled=none
 frames:X.A.frames=some X.stack
 stk:X.stack=X.outer\/(X.stack=X.env::X.outer/\X.env.frame=some X.env.locals)
 exf:∀b∈X.ex,b≠X.env.locals/\∀x c,X.env.cells.lookup x=some c->c≠b
 bs:∀b o,X.base.get? b=some o->X.nz.heap.get? b=some o/\X.FJ b=none
 bsz:X.base.objs.size<=X.nz.heap.objs.size
 noex:∀b o,X.base.get? b=some o->b∉X.ex
 exfs:∀b∈X.ex,b∉X.fs
 lB:X.nz.heap.FunFrames X.base X.outer
 frf:∀b∈X.fs,X.FJ b=none
structure Inv(X:Cx) (pins:List (Addr×Obj)) (σ:List (Option V)) (H:Hp) (s:Shared):Prop where
 ok:X.Ok
 os:s.os=X.nz.os
 bare:AllBare s.gens
 base:Un X.fs X.ex X.FJ H X.nz.heap s.heap
 loc:∃m,s.heap.Ns X.env.locals m/\∀(i:Nat) (x:Str) (v:V),X.N[i]?=some x->σ[i]?=some (some v)->Qv X.env.scope x->∃u,RelV v u/\Look X.env s.heap m x u
 cell:∀x c,X.env.cells.lookup x=some c->∃v,s.heap.IsCell c v
 free:H X.env.locals=none
 freeC:∀x c,X.env.cells.lookup x=some c->H c=none
 pin:∀p∈X.pn++pins,s.heap.get? p.1=some p.2/\H p.1=none/\p.1≠X.env.locals/\p.1∉X.fs/\∀v,p.2.data≠.cell v
 hok:gu X.prog X.w H s.heap
 len:σ.length=X.N.length
section
variable {X:Cx}{pins:List (Addr×Obj)}{σ:List (Option V)}{H H':Hp}{s:Shared}{h':Heap}
theorem Cx.Ok.aaS(ok:X.Ok)(e:X.base.get? b=some o):b∉X.fs:=λhb=>by
 have:=(ok.lB.mem hb).1
 rw[e]at this;cases this
theorem Inv.bs(I:Inv X pins σ H s):∀b o,X.base.get? b=some o->s.heap.get? b=some o/\H b=none:=λb o e=>
 ⟨I.base.keep b o (I.ok.bs b o e).1 (I.ok.bs b o e).2 (I.ok.aaS e) (I.ok.noex b o e),I.base.free b o (I.ok.bs b o e).1 (I.ok.bs b o e).2 (I.ok.noex b o e)⟩
theorem Inv.bk(I:Inv X pins σ H s):∀b o,X.base.get? b=some o->s.heap.get? b=some o:=λb o e=>(I.bs b o e).1
theorem Inv.mod(I:Inv X pins σ H s):Mod X.K X.mg X.base:=I.ok.mod
theorem Inv.i8(I:Inv X pins σ H s):X.K.In s.heap:=I.ok.mod.kin.keeps I.bk
theorem Inv.lt(I:Inv X pins σ H s):X.env.locals<s.heap.objs.size:=let ⟨_,hn,_⟩:=I.loc;hn.lt
theorem Inv.sz(I:Inv X pins σ H s):X.nz.heap.objs.size<=s.heap.objs.size:=aam I.ok.above (ael I.lt)
theorem Inv.aaT(I:Inv X pins σ H s)(h:s.heap.objs.size<=a):a∉X.fs:=λhb=>by
 obtain⟨_,o,ho,_⟩:=I.ok.lB.mem hb
 exact absurd (aaM (aaw ho) (aam I.sz h)) (adJ _)
theorem Inv.Au(I:Inv X pins σ H s):∀x c,X.env.cells.lookup x=some c->c≠X.env.locals:=λx c e z=>by
 obtain⟨v,o,ho,hd⟩:=I.cell x c e
 obtain⟨m,⟨o',es,ep,i9,hd',_⟩,_⟩:=I.loc
 rw[z,i9]at ho;cases ho;rw[hd']at hd;cases hd
theorem Inv.lB(I:Inv X pins σ H s):s.heap.FunFrames X.base X.outer:=by
 have all:∀(l:List Env),(∀b∈nY l,b∈X.fs)->X.nz.heap.FunFrames X.base l->s.heap.FunFrames X.base l:=by
  intro l
  induction l with
  | nil=>intro _ _;trivial
  | cons env r ih=>
   intro hs hl
   obtain⟨hk,⟨L,o,hf,hn,ho,hd⟩,hr⟩:=hl
   have hL:L∈X.fs:=hs L (by unfold nY;rw[afy,hf];exact aas)
   obtain⟨sl,e⟩:=I.base.slot L o ho (I.ok.frf L hL) hL λz=>I.ok.exfs L z hL
   exact⟨hk,⟨L,_,hf,hn,e,hd⟩,ih (λb hb=>hs b (by unfold nY;rw[afy,hf];exact aav _ hb)) hr⟩
 exact all X.outer (λ_ hb=>hb) I.ok.lB
theorem Inv.stack(I:Inv X pins σ H s):s.heap.FunFrames X.base X.stack:=by
 rcases I.ok.stk with e|⟨e,hf⟩
 . rw[e];exact I.lB
 . rw[e]
   obtain⟨m,hn,_⟩:=I.loc
   refine .cons (by rw[I.ok.kind];decide) hf hn ?_ I.lB
   exact Heap.get?_none_of_le (aam I.ok.bsz I.ok.above)
theorem Inv.vM(I:Inv X pins σ H s):∀b∈nY X.stack,b∈X.env.locals::X.fs:=λb hb=>by
 rcases I.ok.stk with e|⟨e,hf⟩
 . rw[e]at hb;exact aav _ hb
 . rw[e]at hb
   unfold nY at hb
   rw[afy,hf]at hb
   exact hb
theorem Inv.D9(I:Inv X pins σ H s):∀b∈nY X.stack,H b=none:=λb hb=>by
 rcases aaj.mp (I.vM b hb) with e|hb
 . rw[e];exact I.free
 . obtain⟨_,o,ho,_⟩:=I.ok.lB.mem hb
   exact I.base.free b o ho (I.ok.frf b hb) λz=>I.ok.exfs b z hb
theorem Inv.step{g':Array GenState}{t':Nat}{d':Drawn}{ch:List Addr}(I:Inv X pins σ H s)
 (uG:∀b∈ch,(b∈X.ex\/X.nz.heap.objs.size<=b)/\b≠X.env.locals/\(∀x c,X.env.cells.lookup x=some c->c≠b)/\∀p∈X.pn++pins,p.1≠b)
 (keep:∀b o,b≠X.env.locals->b∉X.fs->b∉ch->s.heap.get? b=some o->H b=none->h'.get? b=some o)
 (slot:∀b o,b≠X.env.locals->b∈X.fs->b∉ch->s.heap.get? b=some o->H b=none->∃sl,h'.get? b=some {o with slots:=sl}) (free:∀b o,b∉ch->s.heap.get? b=some o->H b=none->H' b=none)
 (there:∀b o,b∉ch->s.heap.get? b=some o->∃o',h'.get? b=some o')
 (jK:∀b xs,H b=some (.tup xs)->H' b=some (.tup xs)) (frzs:∀b o u,H b=some (.du o u)->H' b=some (.du o u)) (tbls:∀b ps,H b=some (.As ps)->∃more,H' b=some (.As (ps++more)))
 (ns:∀m,s.heap.Ns X.env.locals m->h'.Ns X.env.locals m) (hok:gu X.prog X.w H' h') (hg:AllBare g') :
 Inv X pins σ H' {s with heap:=h',gens:=g',drawn:=d',toks:=t'}:=by
 have XU:∀b o,X.nz.heap.get? b=some o->b≠X.env.locals:=λb o e=>aaD (aaM (aaw e) I.ok.above)
 have M8:∀b o,X.nz.heap.get? b=some o->b∉X.ex->b∉ch:=λb o e hx hb=>by
  rcases (uG b hb).1 with z|z
  . exact hx z
  . exact absurd (aaM (aaw e) z) (adJ _)
 have cellK:∀x c,X.env.cells.lookup x=some c->∀v,s.heap.IsCell c v->h'.IsCell c v:=λx c e v ⟨o,ho,hd⟩=>by
  have Ie:c∉ch:=λz=>(uG c z).2.2.1 x c e rfl
  by_cases hc:c∈X.fs
  . obtain⟨sl,q⟩:=slot c o (I.Au x c e) hc Ie ho (I.freeC x c e)
    exact⟨_,q,hd⟩
  . exact⟨o,keep c o (I.Au x c e) hc Ie ho (I.freeC x c e),hd⟩
 refine⟨I.ok,I.os,hg,⟨λb o e n hb hx=>?_,λb o e n hb hx=>?_,λb o e n hx=>?_,λb o e hx=>?_,λb xs e=>jK b xs (I.base.jK b xs e),λb o xs e=>frzs b o xs (I.base.frzs b o xs e),λb ps e=>?_⟩,?_,λx c e=>?_,?_,λx c e=>?_,λp hp=>?_,hok,I.len⟩
 . exact keep b o (XU b o e) hb (M8 b o e hx) (I.base.keep b o e n hb hx) (I.base.free b o e n hx)
 . obtain⟨sl,e1⟩:=I.base.slot b o e n hb hx
   obtain⟨Qu,e2⟩:=slot b _ (XU b o e) hb (M8 b o e hx) e1 (I.base.free b o e n hx)
   exact⟨Qu,e2⟩
 . obtain⟨o',e1⟩:=I.base.there b o e hx
   exact free b o' (M8 b o e hx) e1 (I.base.free b o e n hx)
 . obtain⟨o',e1⟩:=I.base.there b o e hx
   exact there b o' (M8 b o e hx) e1
 . obtain⟨m1,e1⟩:=I.base.tbls b ps e
   obtain⟨m2,e2⟩:=tbls b _ e1
   exact⟨m1++m2,by rw[e2,ag2]⟩
 . obtain⟨m,hn,hl⟩:=I.loc
   refine⟨m,ns m hn,λi x v e1 e2 e3=>?_⟩
   obtain⟨u,r,l⟩:=hl i x v e1 e2 e3
   refine⟨u,r,?_⟩
   rcases l with l|⟨k,c,e,z⟩
   . exact .inl l
   . exact .inr ⟨k,c,e,cellK x c e _ z⟩
 . obtain⟨v,z⟩:=I.cell x c e
   exact⟨v,cellK x c e v z⟩
 . obtain⟨m,⟨o,_,_,ho,_⟩,_⟩:=I.loc
   exact free _ o (λz=>(uG _ z).2.1 rfl) ho I.free
 . obtain⟨v,o,ho,hd⟩:=I.cell x c e
   exact free c o (λz=>(uG c z).2.2.1 x c e rfl) ho (I.freeC x c e)
 . obtain⟨e,n,ne,nf,d⟩:=I.pin p hp
   have Ie:p.1∉ch:=λz=>(uG p.1 z).2.2.2 p hp rfl
   exact⟨keep p.1 p.2 ne nf Ie e n,free p.1 p.2 Ie e n,ne,nf,d⟩
theorem Inv.un{t':Nat}(I:Inv X pins σ H s)(u:Un X.fs [] H H' s.heap h')(hok:gu X.prog X.w H' h'):Inv X pins σ H' {s with heap:=h',toks:=t'}:=by
 obtain⟨m,⟨o,es,ep,ho,r⟩,_⟩:=id I.loc
 obtain⟨sl,hL⟩:=u.any ho I.free (by simp)
 exact I.step (g':=s.gens) (d':=s.drawn) (ch:=[]) (λ_ z=>nomatch z) (λb o _ hb _ e n=>u.keep b o e n hb (by simp)) (λb o _ hb _ e n=>u.slot b o e n hb (by simp)) (λb o _ e n=>u.free b o e n (by simp)) (λb o _ e=>u.there b o e (by simp)) u.jK u.frzs u.tbls (λm' hm=>by
  obtain⟨o',Av,Aw,i9,r'⟩:=hm
  rw[ho]at i9;cases i9
  exact⟨_,Av,Aw,hL,r'⟩) hok I.bare
theorem Inv.call{g':Array GenState}{t':Nat}{d':Drawn}{ch:List Addr}(I:Inv X pins σ H s) (u:Un (nY X.stack) ch H H' s.heap h') (hok:gu X.prog X.w H' h') (hg:AllBare g')
 (uG:∀b∈ch,(b∈X.ex\/X.nz.heap.objs.size<=b)/\b≠X.env.locals/\(∀x c,X.env.cells.lookup x=some c->c≠b)/\∀p∈X.pn++pins,p.1≠b) :
 Inv X pins σ H' {s with heap:=h',gens:=g',drawn:=d',toks:=t'}:=by
 obtain⟨m,⟨o,es,ep,ho,r⟩,_⟩:=id I.loc
 obtain⟨sl,hL⟩:=u.any ho I.free λz=>(uG _ z).2.1 rfl
 exact I.step (ch:=ch) uG (λb o hL hb hc e n=>u.keep b o e n (λz=>(aaj.mp (I.vM b z)).elim hL hb) hc) (λb o _ _ hc e n=>u.any e n hc) (λb o hc e n=>u.free b o e n hc) (λb o hc e=>u.there b o e hc) u.jK u.frzs u.tbls (λm' hm=>by
  obtain⟨o',Av,Aw,i9,r'⟩:=hm
  rw[ho]at i9;cases i9
  exact⟨_,Av,Aw,hL,r'⟩) hok hg
theorem Inv.turned{t':Nat}{it:Addr}(I:Inv X pins σ H s)(k:∀b o,b≠it->s.heap.get? b=some o->h'.get? b=some o)(hn:H it=none)(hL:it≠X.env.locals)
 (h1:it∈X.ex\/X.nz.heap.objs.size<=it) (h2:∀x c,X.env.cells.lookup x=some c->c≠it) (h3:∀p∈X.pn++pins,p.1≠it):Inv X pins σ H {s with heap:=h',toks:=t'}:=by
 have XW:∀b u,H b=some u->b≠it:=λb u e z=>by rw[z,hn]at e;cases e
 refine I.step (g':=s.gens) (d':=s.drawn) (ch:=[it]) (λb hb=>?_) (λb o _ _ hc e _=>k b o (λz=>hc (by simp[z])) e) (λb o _ _ hc e _=>⟨o.slots,k b o (λz=>hc (by simp[z])) e⟩) (λ_ _ _ _ n=>n)
  (λb o hc e=>⟨o,k b o (λz=>hc (by simp[z])) e⟩) (λ_ _ e=>e) (λ_ _ _ e=>e) (λb ps e=>⟨#[],by rw[e];simp⟩) (λm hm=>?_) (λb u e=>?_) I.bare
 . have e:b=it:=by simpa using hb
   subst e
   exact⟨h1,hL,h2,h3⟩
 . obtain⟨o,es,ep,ho,r⟩:=hm
   exact⟨o,es,ep,k _ o (aax hL) ho,r⟩
 . refine(I.hok b u e).jm (λc v hc q=>k c v ?_ q) (λ_ q=>q) λ_ _ q=>q
   rcases hc with z|z
   . rw[z];exact XW b u e
   . exact XW c _ z
theorem Inv.tok(I:Inv X pins σ H s)(t:Nat):Inv X pins σ H {s with toks:=t}:=I.un (h':=s.heap) (t':=t) Un.refl I.hok
theorem Inv.kept(I:Inv X pins σ H s)(k:∀b u,s.heap.get? b=some u->h'.get? b=some u):Inv X pins σ H {s with heap:=h',toks:=t'}:=I.un (Un.kept k) (I.hok.kept k)
theorem Inv.laid(I:Inv X pins σ H s)(k:∀b u,s.heap.get? b=some u->h'.get? b=some u)(hp:s.heap.objs.size<=a) (new:bU X.prog X.w (upd H a o) h' a o) :
 Inv X pins σ (upd H a o) {s with heap:=h',toks:=t'}:=I.un (Un.laid k hp (I.hok.fresh hp)) (I.hok.laid k hp new)
theorem Inv.write(I:Inv X pins σ H s) (mu:Ib (H x)) (he:e=x\/H e=some (.own x)) (k:∀b u,b≠e->s.heap.get? b=some u->h'.get? b=some u) (D8:∃u,h'.get? e=some u)
 (new:bU X.prog X.w (upd H x o) h' x o):Inv X pins σ (upd H x o) {s with heap:=h',toks:=t'}:=I.un (Un.write mu he k D8) (I.hok.write mu he k D8 new)
theorem Inv.Ea(I:Inv X pins σ H s)(h:∀p∈WK,s.heap.get? p.1=some p.2/\H p.1=none/\p.1≠X.env.locals/\p.1∉X.fs/\∀v,p.2.data≠.cell v):Inv X WK σ H s:=
 ⟨I.ok,I.os,I.bare,I.base,I.loc,I.cell,I.free,I.freeC,λp hp=>(aap.mp hp).elim (λz=>I.pin p (aaI _ z)) (h p),I.hok,I.len⟩
theorem Ax{N:List Str}(hN:N.Nodup){i j:Nat}{x:Str}(a:N[i]?=some x)(b:N[j]?=some x):i=j:=by
 obtain⟨h1,e1⟩:=aak.mp a
 obtain⟨h2,e2⟩:=aak.mp b
 exact(agi hN).mp (e1.trans e2.symm)
theorem yG{M:Model}{A:Around}{E:Value->Shared->Prop}{i:Nat}{x:Str}{v:V}{u:Value}{Q:Unit->Shared->Prop}(I:Inv X pins σ H s)(hN:X.N.Nodup)(hi:X.N[i]?=some x)(hx:Loc X.env.scope x)(r:RelV v u)
 (h:∀s',Inv X pins (σ.set i (some v)) H s'->(∃a,Heap.SameBut a s.heap s'.heap/\(a=X.env.locals\/X.env.cells.lookup x=some a))->Q () s') (hf:X.fn x=true\/X.env.scope.names.lookup x=some .local:=by first|exact .inl rfl|exact .inr rfl|assumption):wpAny M A (storeName X.env x u) Q E s:=by
 obtain⟨m,hn,hl⟩:=id I.loc
 have aaU:(X.env.scope.kind == .class || (X.env.scope.kind == .module && X.env.locals != X.env.globals))=false:=by rw[I.ok.kind];rfl
 have hiσ:i < σ.length:=by rw[I.len];exact(aak.mp hi).1
 have Au:=I.Au
 have tracked:∀{a:Addr}{h':Heap},(∃o,s.heap.get? a=some o/\H a=none)->Heap.SameBut a s.heap h'->gu X.prog X.w H h':=λ{a h'} ha hs b ob e=>by
  obtain⟨_,_,M9⟩:=ha
  refine(I.hok b ob e).jm (λc w' hc q=>(hs.2 c ?_).trans q) (λ_ q=>q) λ_ _ q=>q
  rintro rfl
  rcases hc with rfl|hc
  . rw[M9]at e;cases e
  . rw[M9]at hc;cases hc
 rcases hx with hk|hk
 . refine wpAny_storeName_local hk hn (λh' Ay hs=>?_) aaU
   obtain⟨oL,_,_,Az,_⟩:=id hn
   refine h _ ⟨I.ok,I.os,I.bare,⟨λb o e n hb hx=>?_,λb o e n hb hx=>?_,I.base.free,λb o e hx=>?_,I.base.jK,I.base.frzs,I.base.tbls⟩,⟨_,Ay,λj y v' e1 e2 e3=>?_⟩,λy c e=>?_,I.free,I.freeC,λp hp=>?_,tracked ⟨oL,Az,I.free⟩ hs,by simpa using I.len⟩ ⟨_,hs,.inl rfl⟩
   . exact(hs.2 b (aaD (aaM (aaw e) I.ok.above))).trans (I.base.keep b o e n hb hx)
   . obtain⟨sl,e1⟩:=I.base.slot b o e n hb hx
     exact⟨sl,(hs.2 b (aaD (aaM (aaw e) I.ok.above))).trans e1⟩
   . obtain⟨o',e1⟩:=I.base.there b o e hx
     exact⟨o',(hs.2 b (aaD (aaM (aaw e) I.ok.above))).trans e1⟩
   . by_cases hj:j=i
     . subst hj
       rw[hi]at e1;cases e1
       rw[agu hiσ]at e2
       cases e2
       exact⟨u,r,.inl ⟨hk,by simp⟩⟩
     . rw[agJ (aax hj)]at e2
       obtain⟨u',r',q⟩:=hl j y v' e1 e2 e3
       refine⟨u',r',?_⟩
       rcases q with⟨k,e⟩|⟨k,c,e,z⟩
       . refine .inl ⟨k,?_⟩
         have:y≠x:=λe=>hj (Ax hN e1 (e ▸ hi))
         simp[this,e]
       . exact .inr ⟨k,c,e,z.sameBut hs (Au y c e)⟩
   . obtain⟨w',z⟩:=I.cell y c e
     exact⟨w',z.sameBut hs (Au y c e)⟩
   . obtain⟨e,n,ne,nf,d⟩:=I.pin p hp
     exact⟨(hs.2 p.1 ne).trans e,n,ne,nf,d⟩
 . have Qw:X.fn x=true:=by
    rcases hf with z|z
    . exact z
    . rw[z]at hk;cases hk
   obtain⟨c,hc⟩:=I.ok.has x (.inl hk)
   obtain⟨w',z⟩:=I.cell x c hc
   refine wpAny_storeName_cell I.ok.kind hk hc z (λh' jF hs=>?_)
   obtain⟨oc,yH,aaV⟩:=id z
   refine h {s with heap:=h'} ⟨I.ok,I.os,I.bare,⟨λb o e n hb hx=>?_,λb o e n hb hx=>?_,I.base.free,λb o e hx=>?_,I.base.jK,I.base.frzs,I.base.tbls⟩,⟨m,hn.sameBut hs (aax (Au x c hc)),λj y v' e1 e2 e3=>?_⟩,λy c' e=>?_,I.free,I.freeC,λp hp=>?_,tracked ⟨oc,yH,I.freeC x c hc⟩ hs,by simpa using I.len⟩ ⟨c,hs,.inr hc⟩
   . exact(hs.2 b (aaD (aaM (aaw e) (I.ok.cab x c Qw hc)))).trans (I.base.keep b o e n hb hx)
   . obtain⟨sl,e1⟩:=I.base.slot b o e n hb hx
     exact⟨sl,(hs.2 b (aaD (aaM (aaw e) (I.ok.cab x c Qw hc)))).trans e1⟩
   . obtain⟨o',e1⟩:=I.base.there b o e hx
     exact⟨o',(hs.2 b (aaD (aaM (aaw e) (I.ok.cab x c Qw hc)))).trans e1⟩
   . by_cases hj:j=i
     . subst hj
       rw[hi]at e1;cases e1
       rw[agu hiσ]at e2
       cases e2
       exact⟨u,r,.inr ⟨.inl hk,c,hc,jF⟩⟩
     . rw[agJ (aax hj)]at e2
       obtain⟨u',r',q⟩:=hl j y v' e1 e2 e3
       refine⟨u',r',?_⟩
       rcases q with q|⟨k,c',e,z'⟩
       . exact .inl q
       . refine .inr ⟨k,c',e,z'.sameBut hs ?_⟩
         rintro rfl
         exact hj (Ax hN e1 (I.ok.inj _ _ _ e hc ▸ hi))
   . by_cases Na:c'=c
     . subst Na;exact⟨_,jF⟩
     . obtain⟨w2,z2⟩:=I.cell y c' e
       exact⟨w2,z2.sameBut hs Na⟩
   . obtain⟨e,n,ne,nf,d⟩:=I.pin p hp
     refine⟨(hs.2 p.1 ?_).trans e,n,ne,nf,d⟩
     intro q
     rw[q,yH]at e
     have q':oc=p.2:=aay e
     exact d w' (by rw[← q'];exact aaV)
theorem nZ{M:Model}{A:Around}{E:Value->Shared->Prop}{i:Nat}{x:Str}{v:V}{u:Value}{Q:Unit->Shared->Prop}(I:Inv X pins σ H s)(hN:X.N.Nodup)(hi:X.N[i]?=some x)(hx:Loc X.env.scope x)(r:RelV v u)
 (h:∀s',Inv X pins (σ.set i (some v)) H s'->Q () s') (hf:X.fn x=true\/X.env.scope.names.lookup x=some .local:=by first|exact .inl rfl|exact .inr rfl|assumption):wpAny M A (storeName X.env x u) Q E s:=
 yG I hN hi hx r (λs' I' _=>h s' I') hf
theorem Inv.WL(I:Inv X pins σ H s)(ho:s'.os=s.os) (u:Un (nY X.stack) ch H H' s.heap s'.heap) (hok:gu X.prog X.w H' s'.heap) (hg:AllBare s'.gens)
 (uG:∀b∈ch,(b∈X.ex\/X.nz.heap.objs.size<=b)/\b≠X.env.locals/\(∀x c,X.env.cells.lookup x=some c->c≠b)/\∀p∈X.pn++pins,p.1≠b):Inv X pins σ H' s':=by
 obtain⟨h',g',d',t',o'⟩:=s'
 have e:o'=s.os:=ho
 subst e
 exact I.call (g':=g') (t':=t') (d':=d') u hok hg uG
end
abbrev XK:=Value->Option Addr->Hp->Prop
abbrev St:=List (Option V)
abbrev VK:=V->Hp->Prop
abbrev TE:=St->Hp->VK->Prop
abbrev TT:=St->Hp->(Bool->Hp->Prop)->Prop
abbrev TA:=St->Hp->(List V->Hp->Prop)->Prop
structure Ends where
 nx:St->Hp->Prop
 rt:VK
 bk:St->Hp->Prop:=λ_ _=>False
 ct:St->Hp->Prop:=λ_ _=>False
abbrev TS:=Ends->St->Hp->Prop
def EP(X:Cx) (pins:List (Addr×Obj)) (σ:St) (Q:VK) (u:Value) (s':Shared):Prop:=∃v H',Inv X pins σ H' s'/\RelV v u/\Q v H'
def TP(X:Cx) (pins:List (Addr×Obj)) (σ:St) (Q:Bool->Hp->Prop) (b:Bool) (s':Shared):Prop:=∃H',Inv X pins σ H' s'/\Q b H'
def AP(X:Cx) (pins:List (Addr×Obj)) (σ:St) (Q:List V->Hp->Prop) (us:List Value) (s':Shared):Prop:=∃vs H',Inv X pins σ H' s'/\Vals vs us/\Q vs H'
def SP(X:Cx) (pins:List (Addr×Obj)) (D:Ends) (f:Flow) (s':Shared):Prop:=
 match f with
 | .next=>∃cm H',Inv X pins cm H' s'/\D.nx cm H'
 | .brk=>∃cm H',Inv X pins cm H' s'/\D.bk cm H'
 | .cont=>∃cm H',Inv X pins cm H' s'/\D.ct cm H'
 | .ret u=>∃v cm H',Inv X pins cm H' s'/\RelV v u/\D.rt v H'
def PE(X:Cx)(e:Expr)(t:TE):Prop:=
 ∀(pins:List (Addr×Obj)) (s:Shared) (σ:St) (H:Hp) (Q:VK),Inv X pins σ H s->t σ H Q->wpAny (model X.prog X.w) X.A (eval e X.env) (EP X pins σ Q) X.xe s
def PT(X:Cx)(e:Expr)(t:TT):Prop:=
 ∀(pins:List (Addr×Obj)) (s:Shared) (σ:St) (H:Hp) (Q:Bool->Hp->Prop),Inv X pins σ H s->t σ H Q->wpAny (model X.prog X.w) X.A (isTrue e X.env (eval e X.env)) (TP X pins σ Q) X.xe s
def PW(X:Cx)(e:Expr)(t:TT):Prop:=
 ∀(whole:Sem Value) (pins:List (Addr×Obj)) (s:Shared) (σ:St) (H:Hp) (Q:Bool->Hp->Prop),Inv X pins σ H s->t σ H Q->wpAny (model X.prog X.w) X.A (isTrue e X.env whole) (TP X pins σ Q) X.xe s
theorem PW.pt(h:PW X e t):PT X e t:=h _
def PA(X:Cx)(es:List Expr)(t:TA):Prop:=
 ∀(pos:Pos) (pins:List (Addr×Obj)) (s:Shared) (σ:St) (H:Hp) (Q:List V->Hp->Prop),Inv X pins σ H s->t σ H Q->wpAny (model X.prog X.w) X.A (spliced (backTo pos (starEach es X.env))) (AP X pins σ Q) X.xe s
def PS(X:Cx)(st:Stmt)(t:TS):Prop:=
 ∀(pins:List (Addr×Obj)) (s:Shared) (σ:St) (H:Hp) (D:Ends),Inv X pins σ H s->t D σ H->wpAny (model X.prog X.w) X.A (exec st X.env) (SP X pins D) X.xe s
def jO(X:Cx)(st:List Stmt)(t:TS):Prop:=
 ∀(pins:List (Addr×Obj)) (s:Shared) (σ:St) (H:Hp) (D:Ends),Inv X pins σ H s->t D σ H->wpAny (model X.prog X.w) X.A (execs st X.env) (SP X pins D) X.xe s
theorem aO{α:Type}{t:Sem α}{Q Q':α->Shared->Prop}{M:Model}{A:Around}{E:Value->Shared->Prop}{s:Shared}(h:wpAny M A t Q E s)(hQ:∀a s,Q a s->Q' a s):wpAny M A t Q' E s:=aef h hQ λ_ _ x=>x
section
variable {X:Cx}
theorem bin{a b:Expr}{ta tb:TE}(ha:PE X a ta)(hb:PE X b tb){pins:List (Addr×Obj)}{s:Shared}{σ:St}{H:Hp}{R:V->V->Hp->Prop}(I:Inv X pins σ H s) (h:ta σ H λx H1=>tb σ H1 λy H2=>R x y H2)
 {α:Type}{Q:α->Shared->Prop}{f:Value->Value->Sem α}
 (hf:∀v u s2 x y H2,Inv X pins σ H2 s2->RelV x v->RelV y u->R x y H2->wpAny (model X.prog X.w) X.A (f v u) Q X.xe s2) :
 wpAny (model X.prog X.w) X.A (eval a X.env) (λv eP=>wpAny (model X.prog X.w) X.A (eval b X.env) (λu xW=>wpAny (model X.prog X.w) X.A (f v u) Q X.xe xW) X.xe eP) X.xe s:=by
 refine aO (ha pins s σ H _ I h) λv s1 zq=>?_
 obtain⟨x,H1,I1,r1,q1⟩:=zq
 refine aO (hb pins s1 σ H1 _ I1 q1) λu s2 zq=>?_
 obtain⟨y,H2,I2,r2,q2⟩:=zq
 exact hf v u s2 x y H2 I2 r1 r2 q2
def d6(i:Nat):TE:=λσ H Q=>∃v,σ[i]?=some (some v)/\Q v H
def tC(v:V):TE:=λ_ H Q=>Q v H
theorem Qx(hN:X.N[i]?=some x)(hv:Qv X.env.scope x) (hd:(x == ("__debug__" : Str))=false:=by decide) (sv:(x == ("__classdict__" : Str))=false:=by decide):PE X (.Name x pos) (d6 i):=by
 intro pins s σ H Q I h
 obtain⟨v,e,h⟩:=h
 obtain⟨m,hn,hl⟩:=I.loc
 obtain⟨u,r,l⟩:=hl i x v hN e hv
 have fin:EP X pins σ Q u s:=⟨v,H,I,r,h⟩
 rcases l with⟨hk,hm⟩|⟨hk,c,hc,Nb⟩
 . exact wpAny_Name (wpAny_loadName_local I.ok.kind hk hn hm fin) hd
 . rcases hk with hk|hk
   . exact wpAny_Name (wpAny_loadName_cell I.ok.kind hk hc Nb fin) hd
   . exact wpAny_Name (wpAny_loadName_free I.ok.kind hk hc Nb fin sv) hd
theorem ao{i j pos} : PE X (.Constant (.int i) j pos) (tC (.int i)):=λ_ _ _ H _ I h=>wpAny_Constant_int ⟨.int i,H,I.tok _,⟨_,rfl⟩,h⟩
theorem gZ:PE X (.Constant (.bool b) j pos) (tC (.bl b)):=λ_ _ _ H _ I h=>Constant_bool ⟨.bl b,H,I,rfl,h⟩
theorem Qy:PE X (.Constant .none j pos) (tC .aV):=λ_ _ _ H _ I h=>Constant_none ⟨.aV,H,I,rfl,h⟩
theorem a0:PE X (.Constant (.str x) j pos) (tC (.str x)):=λ_ _ _ H _ I h=>Calls.Constant_str ⟨.str x,H,I.tok _,⟨_,rfl⟩,h⟩
def Gl(X:Cx)(x:Str):Prop:=X.env.kindOf x=some .globalImplicit
theorem Eb(I:Inv X pins σ H s)(hg:Gl X x)(hm:X.mg x=some u)(h:Q u s)
 (hd:(x == ("__debug__" : Str))=false:=by decide):wpAny (model X.prog X.w) X.A (eval (.Name x pos) X.env) Q E s:=
 afK I.ok.kind hg (Calls.loadGlobal_global (by rw[I.ok.glob];exact I.mod.glob.keeps I.bk) hm h) hd
theorem jP(I:Inv X pins σ H s)(hg:Gl X x)(hm:X.mg x=none)(hv:bootBuiltins x=some u)(h:Q u s)
 (hn:x ≠ "__name__":=by decide) (hd:(x == ("__debug__" : Str))=false:=by decide):wpAny (model X.prog X.w) X.A (eval (.Name x pos) X.env) Q E s:=by
 obtain⟨mb,h1,h2⟩:=I.mod.blt
 exact afK I.ok.kind hg (Calls.loadGlobal_builtin (by rw[I.ok.glob];exact I.mod.glob.keeps I.bk) hm (by rw[I.ok.blt];exact h1.keeps I.bk) ((h2 x hn).trans hv) h) hd
theorem lC(hg:Gl X x)(hm:X.mg x=none)(hv:bootBuiltins x=some u)(r:RelV v u)(hn:x ≠ "__name__":=by decide) (hd:(x == ("__debug__" : Str))=false:=by decide):PE X (.Name x pos) (tC v):=
 λ_ _ _ H _ I h=>jP I hg hm hv ⟨v,H,I,r,h⟩ hn hd
def t2I(ta tb:TE)(k:Int->Int->Hp->Prop):St->Hp->Prop:=λσ H=>ta σ H λx H1=>tb σ H1 λy H2=>∃i j,x=.int i/\y=.int j/\k i j H2
variable {a b:Expr}{ta tb:TE}{pos:Pos}
def PC(X:Cx)(op:CmpOp)(a b:Expr)(t:TE):Prop:=
 ∀(pins:List (Addr×Obj)) (s:Shared) (σ:St) (H:Hp) (Q:VK),Inv X pins σ H s->t σ H Q->
  wpAny (model X.prog X.w) X.A (eval a X.env) (λv eP=>wpAny (model X.prog X.w) X.A (eval b X.env) (λu xW=>wpAny (model X.prog X.w) X.A (compareOp op v u) (EP X pins σ Q) X.xe xW) X.xe eP) X.xe s
theorem AA(b:Expr){op:CmpOp}(h:op≠.In)(h2:op≠.NotIn):behindInMarks op b=false:=by
 have e1:(op == CmpOp.In)=false:=by cases op <;> first|rfl|exact absurd rfl h
 have e2:(op == CmpOp.NotIn)=false:=by cases op <;> first|rfl|exact absurd rfl h2
 cases b <;> simp[behindInMarks,e1,e2]
def K8(p:Int->Int->Bool)(ta tb:TE):TE:=λσ H Q=>t2I ta tb (λi j H2=>Q (.bl (p i j)) H2) σ H
abbrev aaW:TE->TE->TE:=K8 λi j=>decide (i=j)
abbrev aaX:TE->TE->TE:=K8 λi j=>!decide (i=j)
theorem Ig{op:CmpOp}{p:Int->Int->Bool}(ha:PE X a ta)(hb:PE X b tb)
 (rule:∀(i j:Int) (t u:Tok) (Q:Value->Shared->Prop) (s:Shared),Q (.bool (p i j)) s->wpAny (model X.prog X.w) X.A (compareOp op (.int i t) (.int j u)) Q X.xe s):PC X op a b (K8 p ta tb):=by
 intro pins s σ H Q I h
 refine bin ha hb I h λv u s2 x y H2 I2 rx ry q=>?_
 obtain⟨i,j,rfl,rfl,q⟩:=q
 obtain⟨t,rfl⟩:=rx
 obtain⟨t',rfl⟩:=ry
 exact rule i j t t' _ s2 ⟨.bl _,H2,I2,rfl,q⟩
theorem Qz(ha:PE X a ta)(hb:PE X b tb):PC X .Eq a b (aaW ta tb):=Ig ha hb λ_ _ _ _ _ _ h=>eq_int (by rw[agx];exact h)
theorem QA(ha:PE X a ta)(hb:PE X b tb):PC X .NotEq a b (aaX ta tb):=Ig ha hb λ_ _ _ _ _ _ h=>ne_int (by rw[bne,agx];exact h)
def aaY(ta:TE):TE:=λσ H Q=>ta σ H λx H1=>Q (.bl (decide (x=.aV))) H1
def WM(ta:TE):TE:=λσ H Q=>ta σ H λx H1=>Q (.bl (!decide (x=.aV))) H1
theorem RelV.AB{x:V}{v:Value}(r:RelV x v):(v == Value.none)=decide (x=.aV):=by
 cases x with
 | aV=>cases r;rfl
 | bl _=>cases r;rfl
 | int _=>obtain⟨t,rfl⟩:=r;rfl
 | str _=>obtain⟨t,rfl⟩:=r;rfl
 | pI _=>obtain⟨t,rfl⟩:=r;rfl
 | yF _=>obtain⟨t,rfl⟩:=r;rfl
 | ref _=>cases r;rfl
 | ty _=>cases r;rfl
theorem AD{j pos'} (ha:PE X a ta):PC X .Is a (.Constant .none j pos') (aaY ta):=by
 intro pins s σ H Q I h
 refine aO (ha pins s σ H _ I h) λv s1 zq=>?_
 obtain⟨x,H1,I1,r1,q1⟩:=zq
 exact Constant_none (is_none_gen ⟨.bl _,H1,I1,by rw[r1.AB];rfl,q1⟩)
theorem O4{j pos'} (ha:PE X a ta):PC X .IsNot a (.Constant .none j pos') (WM ta):=by
 intro pins s σ H Q I h
 refine aO (ha pins s σ H _ I h) λv s1 zq=>?_
 obtain⟨x,H1,I1,r1,q1⟩:=zq
 exact Constant_none (isnot_none_gen ⟨.bl _,H1,I1,by rw[r1.AB];rfl,q1⟩)
def tB(t:TE):TT:=λσ H Q=>t σ H λx H1=>∃c,x=.bl c/\Q c H1
theorem Ih(h:PC X op a b t) (h1:behindInMarks op b=false:=by first|exact AA _ (by decide) (by decide)|rfl):PE X (.Compare a [op] [b] pos) t:=λpins s σ H Q I hw=>wpAny_Compare1 (h pins s σ H Q I hw) h1
theorem gw{op:CmpOp}{t:TE}(h:PC X op a b t) (h1:behindInMarks op b=false:=by first|exact AA _ (by decide) (by decide)|rfl):PT X (.Compare a [op] [b] pos) (tB t):=by
 intro pins s σ H Q I hw
 refine wpAny_isTrue_Compare1 (aO (h pins s σ H _ I hw) λv s1 h1=>aO h1 λu s2 h2=>aO h2 λc s3 ⟨x,H1,I1,r1,q1⟩=>?_) h1
 obtain⟨d,rfl,q⟩:=q1
 cases r1
 exact aeL ⟨H1,I1,q⟩
theorem ig{e:Expr}{t:TE}(h:PE X e t) (he:∀whole,isTrue e X.env whole=(do let v ← whole;standAt e.pos;holding [v] (truthy v)):=by intro _;rfl):PT X e (tB t):=by
 intro pins s σ H Q I hw
 refine isTrue_plain (aO (h pins s σ H _ I hw) λv s1 ⟨x,H1,I1,r1,q1⟩=>?_) (he _)
 obtain⟨d,rfl,q⟩:=q1
 cases r1
 exact aeL ⟨H1,I1,q⟩
variable {tA Nc:TT}{rest:List Expr}
def aaZ(t u:TT):TT:=λσ H Q=>t σ H λc H1=>if c=true then u σ H1 Q else Q false H1
def tOr(t u:TT):TT:=λσ H Q=>t σ H λc H1=>if c=true then Q true H1 else u σ H1 Q
def aa0(t:TT):TT:=λσ H Q=>t σ H λc H1=>Q (!c) H1
theorem Ec(ha:PT X a tA):PW X (.BoolOp .And [a] pos) tA:=by
 intro wh pins s σ H Q I h
 refine isTrue_and (aO (ha pins s σ H Q I h) λc s1 e=>?_)
 cases c with
 | true=>exact isTrue_and_nil e
 | false=>exact e
theorem vN(ha:PT X a tA):PW X (.BoolOp .Or [a] pos) tA:=by
 intro wh pins s σ H Q I h
 refine isTrue_or (aO (ha pins s σ H Q I h) λc s1 e=>?_)
 cases c with
 | false=>exact isTrue_or_nil e
 | true=>exact e
theorem Ii(ha:PT X a tA) (hb:PW X (.BoolOp .And (b::rest) pos) Nc):PW X (.BoolOp .And (a::b::rest) pos) (aaZ tA Nc):=by
 intro wh pins s σ H Q I h
 refine isTrue_and (aO (ha pins s σ H _ I h) λc s1 zq=>?_)
 obtain⟨H1,I1,q1⟩:=zq
 cases c with
 | true=>exact hb wh pins s1 σ H1 Q I1 q1
 | false=>exact⟨H1,I1,q1⟩
theorem tZ(ha:PT X a tA) (hb:PW X (.BoolOp .Or (b::rest) pos) Nc):PW X (.BoolOp .Or (a::b::rest) pos) (tOr tA Nc):=by
 intro wh pins s σ H Q I h
 refine isTrue_or (aO (ha pins s σ H _ I h) λc s1 zq=>?_)
 obtain⟨H1,I1,q1⟩:=zq
 cases c with
 | true=>exact⟨H1,I1,q1⟩
 | false=>exact hb wh pins s1 σ H1 Q I1 q1
theorem pJ(ha:PT X a tA):PT X (.UnaryOp .Not a pos) (aa0 tA):=by
 intro pins s σ H Q I h
 exact isTrue_not (ha pins s σ H (λc H1=>Q (!c) H1) I h)
def WN(ta tb:TE):TE:=λσ H Q=>ta σ H λx H1=>∃c,x=.bl c/\if c=true then tb σ H1 Q else Q (.bl false) H1
theorem AE(h:PE X a t):PE X (.BoolOp op [a] pos) t:=λpins s σ H Q I hw=>BoolOp_one (h pins s σ H Q I hw)
theorem vO(ha:PE X a ta) (hb:PE X (.BoolOp .And (b::rest) pos) tb):PE X (.BoolOp .And (a::b::rest) pos) (WN ta tb):=by
 intro pins s σ H Q I h
 refine BoolOp_and (aO (ha pins s σ H _ I h) λv s1 zq=>?_)
 obtain⟨x,H1,I1,r1,q1⟩:=zq
 obtain⟨c,rfl,q1⟩:=q1
 cases r1
 refine aeL ?_
 cases c with
 | true=>exact hb pins s1 σ H1 Q I1 q1
 | false=>exact⟨.bl false,H1,I1,rfl,q1⟩
def tIf(t:TT)(ta tb:TE):TE:=λσ H Q=>t σ H λc H1=>if c=true then ta σ H1 Q else tb σ H1 Q
theorem oa{c:Expr}(hc:PT X c tA)(ha:PE X a ta)(hb:PE X b tb):PE X (.IfExp c a b pos) (tIf tA ta tb):=by
 intro pins s σ H Q I h
 refine wpAny_IfExp (aO (hc pins s σ H _ I h) λd s1 zq=>?_)
 obtain⟨H1,I1,q1⟩:=zq
 cases d with
 | true=>exact ha pins s1 σ H1 Q I1 q1
 | false=>exact hb pins s1 σ H1 Q I1 q1
end
def ar(K:W.Frag)(H:Hp)(a:Addr)(xs:List V):Prop:=
 Rd H a (.lst xs)\/
  ∃(o:Obj) (its:Array Value) (n:Nat),K.lookup a=some o/\o.cls=.type "list" /\ o.dict=none/\o.data=.seq its n/\its.size<=sizeLine/\Vals xs its.toList
def aR(K:W.Frag)(H:Hp)(a:Addr)(xs:List V):Prop:=
 Rd H a (.tup xs)\/
  ∃(o:Obj) (its:Array Value) (n:Nat),K.lookup a=some o/\o.cls=.type "tuple" /\ o.data=.seq its n/\its.size<=sizeLine/\Vals xs its.toList
def aa2:Value->Option V
 | .none=>some .aV
 | .bool b=>some (.bl b)
 | .int i _=>some (.int i)
 | .str x _=>some (.str x)
 | .bytes b _=>some (.pI b)
 | .float b _=>some (.yF b)
 | .ref a=>some (.ref a)
 | .type n=>some (.ty n)
 | _=>none
theorem RelV.abs(r:RelV x u):aa2 u=some x:=by
 cases x with
 | aV=>cases r;rfl
 | bl _=>cases r;rfl
 | int _=>obtain⟨t,rfl⟩:=r;rfl
 | str _=>obtain⟨t,rfl⟩:=r;rfl
 | pI _=>obtain⟨t,rfl⟩:=r;rfl
 | yF _=>obtain⟨t,rfl⟩:=r;rfl
 | ref _=>cases r;rfl
 | ty _=>cases r;rfl
theorem RelV.inj{x y:V}{u:Value}(r:RelV x u)(q:RelV y u):x=y:=aay (r.abs.symm.trans q.abs)
theorem Vals.inj{xs ys:List V}{us:List Value}(h:Vals xs us)(h':Vals ys us):xs=ys:=by
 induction h generalizing ys with
 | nil=>cases h';rfl
 | cons r t ih=>
  cases h' with
  | cons r' t'=>rw[r.inj r',ih t']
section
variable {X:Cx}{pins:List (Addr×Obj)}{σ:St}{H:Hp}{s:Shared}{a:Addr}{xs ys:List V}
theorem ar.of{K:W.Frag}(h:H a=some (.lst xs)):ar K H a xs:=.inl (.inl h)
theorem aR.of{K:W.Frag}(h:H a=some (.tup xs)):aR K H a xs:=.inl (.inl h)
theorem Inv.list(I:Inv X pins σ H s)(h:ar X.K H a xs):∃its:List Value,Vals xs its/\PlainL s.heap a its.toArray/\xs.length<=sizeLine:=by
 rcases h with h|⟨o,its,n,hk,hc,hd,hs,hz,r⟩
 . obtain⟨z,its,n,r,e⟩:=h.ok I.hok
   exact⟨its,r,⟨_,n,e,rfl,rfl,rfl⟩,z⟩
 . refine⟨its.toList,r,⟨o,n,I.i8 a o hk,hc,hd,by simpa using hs⟩,?_⟩
   have e:=r.length
   simp only[aeb]at e
   lia
theorem Inv.tuple(I:Inv X pins σ H s)(h:aR X.K H a xs):∃its:List Value,Vals xs its/\IsTup s.heap a its.toArray/\xs.length<=sizeLine:=by
 rcases h with h|⟨o,its,n,hk,hc,hs,hz,r⟩
 . obtain⟨z,its,r,p⟩:=h.ok I.hok
   exact⟨its,r,p,z⟩
 . refine⟨its.toList,r,⟨o,I.i8 a o hk,hc,n,by simpa using hs⟩,?_⟩
   have e:=r.length
   simp only[aeb]at e
   lia
theorem Inv.uZ(I:Inv X pins σ H s)(h:ar X.K H a xs)(h':ar X.K H a ys):xs=ys:=by
 obtain⟨its,r,⟨o,n,e,_,_,d⟩,_⟩:=I.list h
 obtain⟨its',r',⟨o',n',e',_,_,d'⟩,_⟩:=I.list h'
 rw[e]at e';cases e'
 rw[d]at d'
 injection d' with d1 _
 have:its=its':=by simpa using congrArg Array.toList d1
 subst this
 exact r.inj r'
theorem Inv.sy(I:Inv X pins σ H s)(h:aR X.K H a xs)(h':aR X.K H a ys):xs=ys:=by
 obtain⟨its,r,⟨o,e,_,n,d⟩,_⟩:=I.tuple h
 obtain⟨its',r',⟨o',e',_,n',d'⟩,_⟩:=I.tuple h'
 rw[e]at e';cases e'
 rw[d]at d'
 injection d' with d1 _
 have:its=its':=by simpa using congrArg Array.toList d1
 subst this
 exact r.inj r'
end
abbrev Cx.eQ(X:Cx)(E:Value->Shared->Prop):Cx:={X with xe:=E}
abbrev Cx.yI(X:Cx):Cx:=X.eQ λ_ _=>False
theorem Cx.Ok.eQ{X:Cx}(ok:X.Ok)(E:Value->Shared->Prop):(X.eQ E).Ok:=
 ⟨ok.mod,ok.kind,ok.glob,ok.blt,ok.above,ok.inj,ok.has,ok.cab,ok.hd,ok.frames,ok.stk,ok.exf,ok.bs,ok.bsz,ok.noex,ok.exfs,ok.lB,ok.frf⟩
theorem Cx.Ok.lY{X:Cx}{E:Value->Shared->Prop}(ok:(X.eQ E).Ok):X.Ok:=
 ⟨ok.mod,ok.kind,ok.glob,ok.blt,ok.above,ok.inj,ok.has,ok.cab,ok.hd,ok.frames,ok.stk,ok.exf,ok.bs,ok.bsz,ok.noex,ok.exfs,ok.lB,ok.frf⟩
section
variable {X:Cx}{pins:List (Addr×Obj)}{σ:St}{H:Hp}{s:Shared}{E:Value->Shared->Prop}
theorem Inv.eQ(I:Inv X pins σ H s)(E:Value->Shared->Prop):Inv (X.eQ E) pins σ H s:=⟨I.ok.eQ E,I.os,I.bare,I.base,I.loc,I.cell,I.free,I.freeC,I.pin,I.hok,I.len⟩
theorem Inv.lY(I:Inv (X.eQ E) pins σ H s):Inv X pins σ H s:=⟨I.ok.lY,I.os,I.bare,I.base,I.loc,I.cell,I.free,I.freeC,I.pin,I.hok,I.len⟩
theorem SP.lY(h:SP (X.eQ E) pins D f s'):SP X pins D f s':=by
 cases f with
 | next=>obtain⟨cm,H',I,q⟩:=h;exact⟨cm,H',I.lY,q⟩
 | brk=>obtain⟨cm,H',I,q⟩:=h;exact⟨cm,H',I.lY,q⟩
 | cont=>obtain⟨cm,H',I,q⟩:=h;exact⟨cm,H',I.lY,q⟩
 | ret u=>obtain⟨v,cm,H',I,r,q⟩:=h;exact⟨v,cm,H',I.lY,r,q⟩
theorem jO.yI{st:List Stmt}{t:TS}(h:jO X.yI st t):jO X st t:=λpins s σ H D I hw=>
 aef (h pins s σ H D (I.eQ _) hw) (λ_ _ q=>q.lY) λ_ _ z=>False.elim z
end
section
variable {X:Cx}{st:Stmt}{rest:List Stmt}{t u:TS}{e:Expr}{te:TE}{pos:Pos}
def Nf:TS:=λD σ H=>D.nx σ H
def eR(t u:TS):TS:=λD σ H=>t {D with nx:=u D} σ H
theorem ba:jO X [] Nf:=λ_ _ σ H _ I h=>afz ⟨σ,H,I,h⟩
theorem ai(h1:PS X st t)(h2:jO X rest u):jO X (st::rest) (eR t u):=by
 intro pins s σ H D I h
 refine wpAny_execs_cons (aO (h1 pins s σ H {D with nx:=u D} I h) λf s1 q=>?_)
 cases f with
 | next=>
  obtain⟨cm,H',I',q⟩:=q
  exact h2 pins s1 cm H' D I' q
 | ret v=>exact q
 | brk=>exact q
 | cont=>exact q
theorem au(h1:PS X st t):jO X [st] t:=by
 intro pins s σ H D I h
 refine wpAny_execs_cons (aO (h1 pins s σ H D I h) λf s1 q=>?_)
 cases f with
 | next=>exact afz q
 | ret v=>exact q
 | brk=>exact q
 | cont=>exact q
theorem O5:PS X (.Pass pos) Nf:=λ_ _ σ H _ I h=>wpAny_Pass ⟨σ,H,I,h⟩
theorem Inv.quiet{pins:List (Addr×Obj)}{σ:St}{H:Hp}{s:Shared}(I:Inv X pins σ H s):interactive X.env=false:=by simp[interactive,I.ok.kind]
def WO(te:TE):TS:=λD σ H=>te σ H λ_ H1=>D.nx σ H1
theorem eI(he:PE X e te)(hs:swapsWith e none pos.line X.env=pure false:=by rfl):PS X (.Expr e pos) (WO te):=by
 intro pins s σ H D I h
 exact wpAny_Expr_any (aO (he pins s σ H _ I h) λv s1 ⟨x,H1,I1,r1,q1⟩=>⟨σ,H1,I1,q1⟩) I.quiet hs
def K9(te:TE):TS:=λD σ H=>te σ H D.rt
theorem aL(he:PE X e te):PS X (.Return (some e) pos) (K9 te):=by
 intro pins s σ H D I h
 exact wpAny_Return_some (aO (he pins s σ H _ I h) λv s1 ⟨x,H1,I1,r1,q1⟩=>⟨x,σ,H1,I1,r1,q1⟩)
def WQ:TS:=λD _ H=>D.rt .aV H
theorem Ed:PS X (.Return none pos) WQ:=λ_ _ σ H _ I h=>wpAny_Return_none ⟨.aV,σ,H,I,rfl,h⟩
def aa3(c:TT)(t u:TS):TS:=λD σ H=>c σ H λb H1=>if b=true then t D σ H1 else u D σ H1
theorem cy{c:Expr}{a b:List Stmt}{tc:TT}(hc:PT X c tc)(ha:jO X a t)(hb:jO X b u):PS X (.If c a b pos) (aa3 tc t u):=by
 intro pins s σ H D I h
 refine wpAny_If (aO (hc pins s σ H _ I h) λd s1 zq=>?_)
 obtain⟨H1,I1,q1⟩:=zq
 cases d with
 | true=>exact ha pins s1 σ H1 D I1 q1
 | false=>exact hb pins s1 σ H1 D I1 q1
def QB:TS:=λ_ _ _=>False
theorem Ij:jO X sts QB:=λ_ _ _ _ _ _ h=>h.elim
end
abbrev TG:=V->St->Hp->(St->Hp->Prop)->Prop
abbrev Ee:=List V->St->Hp->(St->Hp->Prop)->Prop
def PG(X:Cx)(target:Expr)(t:TG):Prop:=
 ∀(pins:List (Addr×Obj)) (s:Shared) (σ:St) (H:Hp) (v:V) (u:Value) (Q:St->Hp->Prop),Inv X pins σ H s->RelV v u->t v σ H Q->
  wpAny (model X.prog X.w) X.A (assign target X.env u) (λ_ s'=>∃cm H',Inv X pins cm H' s'/\Q cm H') X.xe s
def Ng(X:Cx)(ts:List Expr)(t:Ee):Prop:=
 ∀(pins:List (Addr×Obj)) (s:Shared) (σ:St) (H:Hp) (vs:List V) (us:List Value) (Q:St->Hp->Prop),Inv X pins σ H s->Vals vs us->t vs σ H Q->
  wpAny (model X.prog X.w) X.A (assignInOrder ((assignEach ts X.env).map (·.2)) us) (λ_ s'=>∃cm H',Inv X pins cm H' s'/\Q cm H') X.xe s
abbrev La:=V->V->V->Hp->(Hp->Prop)->Prop
def QC(X:Cx)(t:La):Prop:=
 ∀(pins:List (Addr×Obj)) (s:Shared) (σ:St) (H:Hp) (o i v:V) (ov iv u:Value) (Q:Hp->Prop),Inv X pins σ H s->RelV o ov->RelV i iv->RelV v u->t o i v H Q->
  wpAny (model X.prog X.w) X.A (setItem ov iv u) (λ_ s'=>∃H',Inv X pins σ H' s'/\Q H') X.xe s
section
variable {X:Cx}{pos:Pos}
def eD(i:Nat):TG:=λv σ H Q=>Q (σ.set i (some v)) H
theorem aC{i:Nat}{x:Str}(hN:X.N.Nodup)(hi:X.N[i]?=some x)(hx:Loc X.env.scope x)(hf:X.fn x=true\/X.env.scope.names.lookup x=some .local:=by first|exact .inl rfl|exact .inr rfl|assumption):PG X (.Name x pos) (eD i):=by
 intro pins s σ H v u Q I r h
 exact wpAny_assign_Name (nZ I hN hi hx r (λs' I'=>⟨_,H,I',h⟩) hf)
def u0:Ee:=λvs σ H Q=>vs=[]/\Q σ H
def jB(t:TG)(u:Ee):Ee:=λvs σ H Q=>∃v r,vs=v::r/\t v σ H λcm H'=>u r cm H' Q
theorem fq:Ng X [] u0:=by
 intro pins s σ H vs us Q I r h
 obtain⟨e,h⟩:=h
 subst e
 cases r
 exact assignInOrder_nil ⟨σ,H,I,h⟩
theorem a9{e:Expr}{es:List Expr}{t:TG}{u:Ee}(h1:PG X e t)(h2:Ng X es u)
 (hs:(assignEach (e::es) X.env).map (·.2)=assign e X.env::(assignEach es X.env).map (·.2):=by rfl):Ng X (e::es) (jB t u):=by
 intro pins s σ H vs us Q I r h
 obtain⟨v,vr,e1,h⟩:=h
 subst e1
 cases r with
 | cons r rr=>
  rw[hs]
  refine ae1 (aO (h1 pins s σ H _ _ _ I r h) λ_ s1 zq=>?_)
  obtain⟨DR,H1,I1,q1⟩:=zq
  exact h2 pins s1 DR H1 _ _ Q I1 rr q1
def u7(K:W.Frag)(n:Nat)(t:Ee):TG:=λv σ H Q=>∃a xs,v=.ref a/\aR K H a xs/\xs.length=n/\t xs σ H Q
theorem ij(hc:X.calm=true)(h:Ng X es t)
 (hn:(assignEach es X.env).length=n:=by rfl) (gz:(assignEach es X.env).findIdx? (·.1)=none:=by rfl):PG X (.Tuple es k pos) (u7 X.K n t):=by
 intro pins s σ H v u Q I r hw
 obtain⟨a,xs,e1,hq,hl,hw⟩:=hw
 subst e1
 cases r
 obtain⟨its,rv,ht,hz⟩:=I.tuple hq
 refine assign_Tuple_tuple (I.ok.hd hc) ht (by simp[hn,← hl,rv.length]) gz λh' hx=>?_
 have I1:Inv X pins σ H {s with heap:=h'}:=I.kept (t':=s.toks) λb o e=>hx b o (aaD (aaw e)) e
 exact h pins _ σ H xs _ Q I1 (by simpa using rv) hw
def aa4(to ti:TE)(t:La):TG:=λv σ H Q=>to σ H λo H1=>ti σ H1 λi H2=>t o i v H2 λH3=>Q σ H3
theorem QD{o i:Expr}{to ti:TE}{t:La}(ho:PE X o to)(hi:PE X i ti)(hs:QC X t)
 (ha:∀v,assign (.Subscript o i pos) X.env v=(do
  let ov ← holding [v] (eval o X.env)
  let iv ← holding [v,ov] (eval i X.env)
  standAt pos
  holding [v,ov,iv] (setItem ov iv v)
  release [v,ov,iv] []):=by intro _;rfl):PG X (.Subscript o i pos) (aa4 to ti t):=by
 intro pins s σ H v u Q I r h
 rw[ha]
 refine aad (adP (aO (ho pins s σ H _ I h) λov s1 zq=>?_))
 obtain⟨x,H1,I1,r1,q1⟩:=zq
 refine aad (adP (aO (hi pins s1 σ H1 _ I1 q1) λiv s2 zq=>?_))
 obtain⟨y,H2,I2,r2,q2⟩:=zq
 refine aad (af5 (aad (adP (aO (hs pins s2 σ H2 x y v ov iv u _ I2 r1 r2 r q2) λ_ s3 zq=>?_))))
 obtain⟨H3,I3,q3⟩:=zq
 exact wpAny_release ⟨σ,H3,I3,q3⟩
def AF(te:TE)(g:TG):TS:=λD σ H=>te σ H λx H1=>g x σ H1 D.nx
theorem Ik{tg e:Expr}{te:TE}{g:TG}(he:PE X e te)(hg:PG X tg g)(hs:swapsWithSole [tg] e pos.line X.env=pure false:=by rfl)(hw:swappedStores [tg] e X.env=pure none:=by rfl)
 (h1:(assignEach [tg] X.env).map (·.2)=[assign tg X.env]:=by rfl):PS X (.Assign [tg] e pos) (AF te g):=by
 intro pins s σ H D I h
 refine wpAny_Assign_stores (aO (he pins s σ H _ I h) λv s1 ⟨x,H1,I1,r1,q1⟩=>?_) hs hw
 rw[h1]
 exact aO (hg pins s1 σ H1 x v _ I1 r1 q1) λ_ s2 q=>q
theorem QE{i:Nat}{x:Str}{e:Expr}{te:TE}{pos':Pos}(hN:X.N.Nodup)(hi:X.N[i]?=some x)(hx:Loc X.env.scope x)(he:PE X e te) (hs:swapsWith e (some (.Name x pos')) pos.line X.env=pure false:=by rfl) (hf:X.fn x=true\/X.env.scope.names.lookup x=some .local:=by first|exact .inl rfl|exact .inr rfl|assumption) :
 PS X (.Assign [.Name x pos'] e pos) (AF te (eD i)):=by
 intro pins s σ H D I h
 refine wpAny_Assign_Name (aO (he pins s σ H _ I h) λv s1 ⟨y,H1,I1,r1,q1⟩=>?_) hs
 exact nZ I1 hN hi hx r1 (λs2 I2=>⟨_,H1,I2,q1⟩) hf
def Il(c:TT)(tb:TS):TS:=λD σ H=>∃W:Nat->St->Hp->Prop,(∃m,W m σ H)/\∀m σ H,W m σ H->
 c σ H λb H1=>if b=true then ∃N:St->Hp->Prop,(∀cm H',N cm H'->∃m',m'<m/\W m' cm H')/\tb {D with nx:=N,ct:=N,bk:=D.nx} σ H1 else D.nx σ H1
theorem u9{c:Expr}{body:List Stmt}{tc:TT}{tb:TS}(hp:PassesOwn (model X.prog X.w) X.A X.env X.xe) (hc:PT X c tc) (hb:jO X body tb):PS X (.While c body [] pos) (Il tc tb):=by
 intro pins s σ H D I h
 obtain⟨W,⟨m0,w0⟩,turn⟩:=h
 refine wpAny_While (codeAny_whileLoop (λn s'=>∃cm H',Inv X pins cm H' s'/\W n cm H') ?_ m0 ⟨σ,H,I,w0⟩)
 rintro n s1 ⟨DR,H1,I1,w1⟩
 refine aei hp (aO (hc pins s1 DR H1 _ I1 (turn n DR H1 w1)) λb s2 zq=>?_)
 obtain⟨H2,I2,q2⟩:=zq
 cases b with
 | true=>
  obtain⟨N,hN,q2⟩:=q2
  rw[aaF rfl]
  refine aei hp (aO (hb pins s2 DR H2 _ I2 q2) λf s3 q3=>?_)
  cases f with
  | next=>
   obtain⟨AG,H3,I3,n3⟩:=q3
   obtain⟨m',hm,w3⟩:=hN AG H3 n3
   exact⟨m',hm,AG,H3,I3,w3⟩
  | cont=>
   obtain⟨AG,H3,I3,n3⟩:=q3
   obtain⟨m',hm,w3⟩:=hN AG H3 n3
   exact⟨m',hm,AG,H3,I3,w3⟩
  | brk=>exact q3
  | ret v=>exact q3
 | false=>
  rw[aaz aaE]
  exact afz ⟨DR,H2,I2,q2⟩
end
structure It where
 go:Nat->Hp->Prop
 yld:Nat->Hp->V->Hp->Prop
 stop:Nat->Hp->Prop
def jL(X:Cx) (pins:List (Addr×Obj)) (H:Hp) (b:Addr):Prop:=
 H b=none/\b≠X.env.locals/\b∉X.fs/\(b∈X.ex\/X.nz.heap.objs.size<=b)/\(∀x c,X.env.cells.lookup x=some c->c≠b)/\∀p∈X.pn++pins,p.1≠b
theorem Inv.qy(I:Inv X pins σ H s)(hb:s.heap.objs.size<=b)(hn:H' b=none):jL X pins H' b:=by
 refine⟨hn,ad4 (aaM I.lt hb),I.aaT hb,.inr (aam I.sz hb),λx c e z=>?_,λp hp z=>?_⟩
 . obtain⟨v,q⟩:=I.cell x c e
   exact absurd (aaM q.lt (by rw[z];exact hb)) (adJ _)
 . exact absurd (aaM (aaw (I.pin p hp).1) (by rw[z];exact hb)) (adJ _)
structure Turn(P:Program) (w:World) (K:W.Frag) (tg:Expr) (J:It) (fp:List Addr) (it:Addr) (tn:Nat->Heap->Prop):Prop where
 mem:it∈fp
 obj:∀i h,tn i h->∀b∈fp,∃o,h.get? b=some o/\∀v,o.data≠.cell v
 keep:∀i h h',tn i h->(∀b∈fp,∀o,h.get? b=some o->h'.get? b=some o)->tn i h'
 item:∀(X:Cx),X.prog=P->X.w=w->X.K=K->X.calm=true->∀(i:Nat) (pins:List (Addr×Obj)) (s:Shared) (σ:St) (H:Hp) (E:Value->Shared->Prop),Inv X pins σ H s->(∀b∈fp,jL X pins H b)->tn i s.heap->J.go i H->
  wpAny (model P w) X.A (pyNext (.ref it)) (λr s1=>∃u,r=some u/\
   wpAny (model P w) X.A (letOwnedTupleGo tg (.ref it) u) (λ_ s2=>∃x H',Inv X pins σ H' s2/\RelV x u/\J.yld i H x H'/\tn (i+1) s2.heap/\∀b∈fp,H' b=none) E s1) E s
 done:∀(X:Cx),X.prog=P->X.w=w->X.K=K->X.calm=true->∀(i:Nat) (pins:List (Addr×Obj)) (s:Shared) (σ:St) (H:Hp) (E:Value->Shared->Prop),Inv X pins σ H s->(∀b∈fp,jL X pins H b)->tn i s.heap->J.stop i H->
  wpAny (model P w) X.A (pyNext (.ref it)) (λr s1=>r=none/\Inv X pins σ H s1) E s
 self:∀(A:Around) (i:Nat) (s:Shared) (Q:Value->Shared->Prop) (E:Value->Shared->Prop),tn i s.heap->Q (.ref it) s->wpAny (model P w) A (pyIter (.ref it)) Q E s
abbrev TI:=St->Hp->(It->Hp->Prop)->Prop
def XX(X:Cx) (pins:List (Addr×Obj)) (σ:St) (tg:Expr) (R:It->Hp->Prop) (Nh:Value) (s2:Shared):Prop:=
 ∃(it:Addr) (fp:List Addr) (tn:Nat->Heap->Prop) (J:It) (H':Hp),Nh=.ref it/\Inv X pins σ H' s2/\Turn X.prog X.w X.K tg J fp it tn/\tn 0 s2.heap/\(∀b∈fp,jL X pins H' b)/\R J H'
def PI(X:Cx)(tg iter:Expr)(wi:TI):Prop:=
 ∀(pins:List (Addr×Obj)) (s:Shared) (σ:St) (H:Hp) (R:It->Hp->Prop),Inv X pins σ H s->wi σ H R->
  wpAny (model X.prog X.w) X.A (eval iter X.env) (λv s1=>wpAny (model X.prog X.w) X.A (pyIter v) (XX X pins σ tg R) X.xe s1) X.xe s
theorem vP(ho:s.heap.get? it=some o)(hc:o.cls=.type n)(hd:o.data=.fields vs)
 (hn:["enumerate", "zip", "dict_itemiterator", "dict_reverseitemiterator", "odict_iterator", "itertools.zip_longest", "itertools.pairwise"].contains n=false) (hQ:Q () s):wpAny M A (letOwnedTupleGo tg (.ref it) u) Q E s:=by
 unfold letOwnedTupleGo
 cases tg <;> first
  | exact aao hQ
  | (cases u <;> first
      | exact aao hQ
      | (refine aad (wpAny_load ho ?_)
         rw[hc,hd]
         show wpAny M A (if (["enumerate", "zip", "dict_itemiterator", "dict_reverseitemiterator", "odict_iterator", "itertools.zip_longest", "itertools.pairwise"].contains n && vs[0]? == some (rawInt _))=true then _ else _) Q E s
         rw[aaz (by intro h;rw[hn,Bool.false_and]at h;cases h)]
         exact aao hQ))
def uH(K:W.Frag)(a:Addr):It:=
 ⟨λi H=>∃xs x,ar K H a xs/\xs[i]?=some x,λi H x H'=>H'=H/\∀xs,ar K H a xs->xs[i]?=some x,λi H=>∃xs,ar K H a xs/\xs.length<=i⟩
def Ef(lo:Int)(n:Nat):It:=⟨λi _=>i<n,λi H x H'=>H'=H/\x=.int (lo+i),λi _=>n<=i⟩
theorem Im{P:Program}{w:World}{K:W.Frag}{tg:Expr}(a it:Addr):Turn P w K tg (uH K a) [it] it (λi h=>h.IsListIter it a i) where
 mem:=by simp
 obj:=λi h st b hb=>by
  have e:b=it:=by simpa using hb
  subst e
  obtain⟨o,e,c,d⟩:=st
  exact⟨o,e,λv z=>by rw[d]at z;cases z⟩
 keep:=λi h h' st k=>st.at λo e=>k it (by simp) o e
 item:=by
  intro X hP hw hK hc i pins s σ H E I hf st hg
  subst hP hw hK
  obtain⟨xs,x,hq,hx⟩:=hg
  obtain⟨its,rv,p,hz⟩:=I.list hq
  obtain⟨u,hu,ru⟩:=rv.get hx
  obtain⟨f0,f1,f2,f3,f4,f5⟩:=hf it (by simp)
  refine wpAny_pyNext_list_item st p.isList (x:=u) (by simpa using hu) λh' cI sb=>?_
  have I1:Inv X pins σ H {s with heap:=h'}:=I.turned (t':=s.toks) (λb o hb e=>(sb.2 b hb).trans e) f0 f1 f3 f4 f5
  obtain⟨o,e,c,d⟩:=id cI
  exact⟨u,rfl,vP (s:={s with heap:=h'}) e c d (by decide) ⟨x,H,I1,ru,⟨rfl,λys hy=>by rw[I.uZ hy hq];exact hx⟩,cI,λb hb=>(hf b hb).1⟩⟩
 done:=by
  intro X hP hw hK hc i pins s σ H E I hf st hg
  subst hP hw hK
  obtain⟨xs,hq,hx⟩:=hg
  obtain⟨its,rv,p,hz⟩:=I.list hq
  obtain⟨f0,f1,f2,f3,f4,f5⟩:=hf it (by simp)
  have hl:=rv.length
  exact wpAny_pyNext_list_end (I.ok.hd hc) st p.isList (by simp;lia) λh' eb=>⟨rfl,I.turned (t':=s.toks) (λb o hb e=>eb b o hb e) f0 f1 f3 f4 f5⟩
 self:=λ_ _ _ _ _ st h=>wpAny_pyIter_listiter st h
theorem FK{P:Program}{w:World}{K:W.Frag}{tg:Expr}(it:Addr)(lo:Int)(n:Nat):Turn P w K tg (Ef lo n) [it] it (λi h=>IsRangeIter h it (lo+(i:Nat)*1) ((n:Int)-(i:Nat)) 1) where
 mem:=by simp
 obj:=λi h st b hb=>by
  have e:b=it:=by simpa using hb
  subst e
  exact⟨_,st,λv z=>by
   have z':Data.fields _=Data.cell v:=z
   cases z'⟩
 keep:=λi h h' st k=>k it (by simp) _ st
 item:=by
  intro X hP hw hK hc i pins s σ H E I hf st hg
  subst hP hw hK
  obtain⟨f0,f1,f2,f3,f4,f5⟩:=hf it (by simp)
  have W:=Walks.range (prog:=X.prog) (w:=X.w) (I.ok.hd hc) it lo 1 n
  refine W.item i s _ _ hg st λv h' tk hv cI kk=>?_
  obtain⟨t,rfl⟩:=hv
  have I1:Inv X pins σ H {s with heap:=h',toks:=tk}:=I.turned (λb o hb e=>kk b o (by simpa using hb) e) f0 f1 f3 f4 f5
  refine⟨_,rfl,vP (s:={s with heap:=h',toks:=tk}) (n:="range_iterator") cI rfl rfl (by decide) ⟨.int (lo+i),H,I1,⟨t,?_⟩,⟨rfl,rfl⟩,cI,λb hb=>(hf b hb).1⟩⟩
  rw[Int.mul_one]
 done:=by
  intro X hP hw hK hc i pins s σ H E I hf st hg
  subst hP hw hK
  obtain⟨f0,f1,f2,f3,f4,f5⟩:=hf it (by simp)
  exact wpAny_pyNext_range_end (I.ok.hd hc) st (by have:n<=i:=hg;lia) λh' eb=>⟨rfl,I.turned (t':=s.toks) (λb o hb e=>eb b o hb e) f0 f1 f3 f4 f5⟩
 self:=λ_ _ _ _ _ st h=>wpAny_pyIter_rangeiter st h
section
variable {X:Cx}{tg:Expr}
def FN(K:W.Frag)(tl:TE):TI:=λσ H R=>tl σ H λx H1=>∃a,x=.ref a/\(∃xs,ar K H1 a xs)/\R (uH K a) H1
theorem dj{l:Expr}{tl:TE}(hl:PE X l tl):PI X tg l (FN X.K tl):=by
 intro pins s σ H R I h
 refine aO (hl pins s σ H _ I h) λv s1 zq=>?_
 obtain⟨x,H1,I1,r1,q1⟩:=zq
 obtain⟨a,e,⟨xs,hq⟩,q⟩:=q1
 subst e
 cases r1
 obtain⟨its,rv,p,hz⟩:=I1.list hq
 refine afi p.isList ?_
 refine⟨s1.heap.objs.size,[s1.heap.objs.size],_,_,H1,rfl,I1.kept (t':=s1.toks) λb o e=>aac _ e,Im a _,⟨_,aaq _ rfl,rfl,rfl⟩,λb hb=>?_,q⟩
 have e:b=s1.heap.objs.size:=by simpa using hb
 subst e
 exact I1.qy (aaf _) (I1.hok.fresh (aaf _))
theorem Lb{pins:List (Addr×Obj)}{σ:St}{H:Hp}{s:Shared}{R:It->Hp->Prop}{E:Value->Shared->Prop}{lo hi:Int}{t u v:Tok}{tk:Nat}(I:Inv X pins σ H s) (h1 : -(2 ^ 62)<=lo) (h2:lo<2 ^ 62) (h3 : -(2 ^ 62)<=hi) (h4:hi<2 ^ 62)
 (q:R (Ef lo (hi-lo).toNat) H):wpAny (model X.prog X.w) X.A (pyIter (.ref s.heap.objs.size)) (XX X pins σ tg R) E {s with heap:=s.heap.push {cls:=.type "range",data:=.fields #[.int lo t,.int hi u,.int 1 v] },toks:=tk}:=by
 refine wpAny_pyIter_range (IsRange.new ..) (small_one h1 h2 h3 h4) ?_
 have I1:Inv X pins σ H {s with heap:=s.heap.push {cls:=.type "range",data:=.fields #[.int lo t,.int hi u,.int 1 v] },toks:=tk}:=I.kept λb o e=>aac _ e
 refine⟨(s.heap.push {cls:=.type "range",data:=.fields #[.int lo t,.int hi u,.int 1 v] }).objs.size,[(s.heap.push {cls:=.type "range",data:=.fields #[.int lo t,.int hi u,.int 1 v] }).objs.size],_,_,H,rfl,
  I1.kept (t':=tk) λb o e=>aac _ e,FK _ lo (hi-lo).toNat,?_,λb hb=>?_,q⟩
 . have e1:lo+((0:Nat):Int)*1=lo:=by simp
   have e2:(((hi-lo).toNat:Nat):Int)-((0:Nat):Int)=Builtin.Range.rangeSize lo hi 1:=by rw[rangeSize_one];split <;> lia
   show IsRangeIter _ _ (lo+((0:Nat):Int)*1) ((((hi-lo).toNat:Nat):Int)-((0:Nat):Int)) 1
   rw[e1,e2]
   exact aaq _ rfl
 . have e:b=(s.heap.push {cls:=.type "range",data:=.fields #[.int lo t,.int hi u,.int 1 v] }).objs.size:=by simpa using hb
   subst e
   exact I1.qy (aaf _) (I1.hok.fresh (aaf _))
def WR(ta:TA):TI:=λσ H R=>ta σ H λvs H1=>∃j:Int,vs=[.int j] /\ -(2 ^ 62)<=j/\j<2 ^ 62/\R (Ef 0 j.toNat) H1
theorem iq{a:Expr}{ta:TA}{p pos:Pos}(hg:Gl X "range")(hm:X.mg "range" = none)(ha:PA X [a] ta) (hs:starEach [a] X.env=[(false,eval a X.env)]:=by rfl):PI X tg (.Call (.Name "range" p) [a] [] pos) (WR ta):=by
 intro pins s σ H R I h
 refine Call_ (jP I hg hm boot_range (adk (aO (ha pos pins s σ H _ I h) λus s1 ⟨vs,H1,I1,r1,q1⟩=>?_) hs rfl))
 obtain⟨j,e,q1,q2,q⟩:=q1
 subst e
 cases r1 with
 | cons r rr=>
  cases rr
  obtain⟨t,rfl⟩:=r
  exact call_range_1 (Lb I1 (by lia) (by lia) q1 q2 (by simpa using q))
def aa5(wi:TI)(g:TG)(tb:TS):TS:=λD σ H=>wi σ H λJ H1=>∃W:Nat->Nat->St->Hp->Prop,(∃m,W 0 m σ H1)/\∀i m σ H,W i m σ H->
 (J.stop i H/\D.nx σ H)\/(J.go i H/\∃N:St->Hp->Prop,(∀cm H',N cm H'->∃m',m'<m/\W (i+1) m' cm H')/\∀x H',J.yld i H x H'->g x σ H' λiZ H2=>tb {D with nx:=N,ct:=N,bk:=D.nx} iZ H2)
def sA(fp:List Addr)(h:Heap):List (Addr×Obj):=fp.filterMap λb=>(h.get? b).map λo=>(b,o)
theorem nA(hb:b∈fp)(e:h.get? b=some o):(b,o)∈sA fp h:=ag3.mpr ⟨b,hb,by rw[e];rfl⟩
theorem Io(hp:p∈sA fp h):p.1∈fp/\h.get? p.1=some p.2:=by
 obtain⟨b,hb,e⟩:=ag3.mp hp
 cases q:h.get? b with
 | none=>rw[q]at e;cases e
 | some o=>
  rw[q]at e
  have e':(b,o)=p:=aay e
  subst e'
  exact⟨hb,q⟩
theorem Inv.pinned(I:Inv X pins σ H s)(hf:∀b∈fp,jL X pins H b)(ho:∀b∈fp,∃o,s.heap.get? b=some o/\∀v,o.data≠.cell v):Inv X (pins++sA fp s.heap) σ H s:=
 I.Ea λp hp=>(aap.mp hp).elim (λz=>I.pin p (aar _ z)) λz=>by
  obtain⟨hb,e⟩:=Io z
  obtain⟨f0,f1,f2,_⟩:=hf p.1 hb
  obtain⟨o,e',d⟩:=ho p.1 hb
  rw[e]at e';cases e'
  exact⟨e,f0,f1,f2,d⟩
theorem Inv.qz(I:Inv X (pins++pl) σ H s):Inv X pins σ H s:=I.Ea λp hp=>I.pin p (aar _ (aaI _ hp))
theorem fi{iter:Expr}{body:List Stmt}{wi:TI}{g:TG}{tb:TS}{pos:Pos}(hp:PassesOwn (model X.prog X.w) X.A X.env X.xe) (hc:X.calm=true) (hi:PI X tg iter wi) (hg:PG X tg g) (hb:jO X body tb)
 (hs:∀x,foldedSetIterable iter X.env x=pure x:=by intro _;rfl):PS X (.For tg iter body [] pos) (aa5 wi g tb):=by
 intro pins s σ H D I h
 refine wpAny_For (aO (hi pins s σ H _ I h) λv s1 h1=>aO h1 λNh s2 h2=>?_) hs
 obtain⟨it,fp,tn,J,H2,e,I2,T,pK,f2,W,⟨m0,w0⟩,turn⟩:=h2
 subst e
 have Lc:∀{H':Hp},(∀b∈fp,H' b=none)->∀b∈fp,jL X pins H' b:=λhn b hb=>⟨hn b hb,(f2 b hb).2⟩
 refine codeAny_forLoop_any (λn s'=>∃i cm H',Inv X pins cm H' s'/\tn i s'.heap/\(∀b∈fp,H' b=none)/\W i n cm H') ?_ m0 ⟨0,σ,H2,I2,pK,λb hb=>(f2 b hb).1,w0⟩
 rintro n s3 ⟨i,AG,H3,I3,XY,XZ,w3⟩
 rcases turn i n AG H3 w3 with⟨stop,qn⟩|⟨go,N,hN,step⟩
 . refine aei hp (aO (T.done X rfl rfl rfl hc i pins s3 AG H3 X.xe I3 (Lc XZ) XY stop) λr s4 ⟨hr,I4⟩=>?_)
   subst hr
   exact afz ⟨AG,H3,I4,qn⟩
 . refine aei hp (aO (T.item X rfl rfl rfl hc i pins s3 AG H3 X.xe I3 (Lc XZ) XY go) λr s4 zq=>?_)
   obtain⟨u,hr,h4⟩:=zq
   subst hr
   refine aei hp (aO h4 λ_ s5 zq=>?_)
   obtain⟨x,H5,I5,r5,y5,Eg,Ni⟩:=zq
   have I5':=I5.pinned (Lc Ni) (T.obj _ _ Eg)
   refine aei hp (aO (hg _ s5 AG H5 x u _ I5' r5 (step x H5 y5)) λ_ s6 zq=>?_)
   obtain⟨σ6,H6,I6,q6⟩:=zq
   refine aei hp (aO (hb _ s6 σ6 H6 _ I6 q6) λf s7 q7=>?_)
   have again:∀{AH:St}{H7:Hp},Inv X (pins++sA fp s5.heap) AH H7 s7->N AH H7->∃m,m<n/\∃i cm H',Inv X pins cm H' s7/\tn i s7.heap/\(∀b∈fp,H' b=none)/\W i m cm H':=λ{AH H7} I7 n7=>by
    obtain⟨m',hm,w7⟩:=hN AH H7 n7
    refine⟨m',hm,i+1,AH,H7,I7.qz,T.keep _ _ _ Eg λb hb o e=>(I7.pin (b,o) (aar _ (aar _ (nA hb e)))).1,λb hb=>?_,w7⟩
    obtain⟨o,e,d⟩:=T.obj _ _ Eg b hb
    exact(I7.pin (b,o) (aar _ (aar _ (nA hb e)))).2.1
   cases f with
   | next=>obtain⟨AH,H7,I7,n7⟩:=q7;exact again I7 n7
   | cont=>obtain⟨AH,H7,I7,n7⟩:=q7;exact again I7 n7
   | brk=>obtain⟨AH,H7,I7,q7⟩:=q7;exact⟨AH,H7,I7.qz,q7⟩
   | ret v=>obtain⟨x7,AH,H7,I7,r7,q7⟩:=q7;exact⟨x7,AH,H7,I7.qz,r7,q7⟩
end
theorem lD{K:W.Frag}{a:Addr}{xs:List V}{g:TG}{tb:TS}{D:Ends}{σ:St}{H:Hp}(Pv:Nat->St->Hp->Prop)(h0:Pv 0 σ H)(hl:∀i σ H,i<=xs.length->Pv i σ H->ar K H a xs)
 (hs:∀i x σ H,xs[i]?=some x->Pv i σ H->g x σ H λiZ H2=>tb {D with nx:=Pv (i+1),ct:=Pv (i+1),bk:=D.nx} iZ H2) (hd:∀σ H,Pv xs.length σ H->D.nx σ H) :
 ∃W:Nat->Nat->St->Hp->Prop,(∃m,W 0 m σ H)/\∀i m σ H,W i m σ H->
  ((uH K a).stop i H/\D.nx σ H)\/((uH K a).go i H/\∃N:St->Hp->Prop,(∀cm H',N cm H'->∃m',m'<m/\W (i+1) m' cm H')/\∀x H',(uH K a).yld i H x H'->g x σ H' λiZ H2=>tb {D with nx:=N,ct:=N,bk:=D.nx} iZ H2):=by
 refine⟨λi m σ H=>m=xs.length-i/\i<=xs.length/\Pv i σ H,⟨xs.length,by simp,aaO _,h0⟩,?_⟩
 rintro i m σ H ⟨rfl,hi,p⟩
 have q:=hl i σ H hi p
 by_cases eE:i<xs.length
 . refine .inr ⟨⟨xs,xs[i],q,by simp[eE]⟩,Pv (i+1),λcm H' p'=>⟨xs.length-(i+1),by lia,rfl,eE,p'⟩,λx H' y=>?_⟩
   obtain⟨e,y⟩:=y
   subst e
   exact hs i x σ _ (y xs q) p
 . have e:i=xs.length:=by lia
   subst e
   exact .inl ⟨⟨xs,q,aaf _⟩,hd σ H p⟩
theorem j7{lo:Int}{n:Nat}{g:TG}{tb:TS}{D:Ends}{σ:St}{H:Hp}(Pv:Nat->St->Hp->Prop)(h0:Pv 0 σ H)
 (hs:∀i σ H,i<n->Pv i σ H->g (.int (lo+i)) σ H λiZ H2=>tb {D with nx:=Pv (i+1),ct:=Pv (i+1),bk:=D.nx} iZ H2) (hd:∀σ H,Pv n σ H->D.nx σ H) :
 ∃W:Nat->Nat->St->Hp->Prop,(∃m,W 0 m σ H)/\∀i m σ H,W i m σ H->
  ((Ef lo n).stop i H/\D.nx σ H)\/((Ef lo n).go i H/\∃N:St->Hp->Prop,(∀cm H',N cm H'->∃m',m'<m/\W (i+1) m' cm H')/\∀x H',(Ef lo n).yld i H x H'->g x σ H' λiZ H2=>tb {D with nx:=N,ct:=N,bk:=D.nx} iZ H2):=by
 refine⟨λi m σ H=>m=n-i/\i<=n/\Pv i σ H,⟨n,by simp,aaO _,h0⟩,?_⟩
 rintro i m σ H ⟨rfl,hi,p⟩
 by_cases eE:i<n
 . refine .inr ⟨eE,Pv (i+1),λcm H' p'=>⟨n-(i+1),by lia,rfl,eE,p'⟩,λx H' y=>?_⟩
   obtain⟨e,y⟩:=y
   subst e y
   exact hs i σ _ eE p
 . have e:i=n:=by lia
   subst e
   exact .inl ⟨aaf _,hd σ H p⟩
abbrev R2:=V->V->Hp->VK->Prop
def iX(X:Cx)(f:Value->Value->Sem Value)(r:R2):Prop:=
 ∀(pins:List (Addr×Obj)) (s:Shared) (σ:St) (H:Hp) (x y:V) (v u:Value) (Q:VK),Inv X pins σ H s->RelV x v->RelV y u->r x y H Q->
  wpAny (model X.prog X.w) X.A (f v u) (EP X pins σ Q) X.xe s
def QF(X:Cx)(f:Value->Sem Value)(r:V->Hp->VK->Prop):Prop:=
 ∀(pins:List (Addr×Obj)) (s:Shared) (σ:St) (H:Hp) (x:V) (v:Value) (Q:VK),Inv X pins σ H s->RelV x v->r x H Q->
  wpAny (model X.prog X.w) X.A (f v) (EP X pins σ Q) X.xe s
def i0(X:Cx)(f:Value)(r:List V->Hp->VK->Prop):Prop:=
 ∀(pins:List (Addr×Obj)) (s:Shared) (σ:St) (H:Hp) (xs:List V) (us:List Value) (Q:VK),Inv X pins σ H s->Vals xs us->r xs H Q->
  wpAny (model X.prog X.w) X.A (call f us) (EP X pins σ Q) X.xe s
def vQ(r:R2)(ta tb:TE):TE:=λσ H Q=>ta σ H λx H1=>tb σ H1 λy H2=>r x y H2 Q
def tUn(r:V->Hp->VK->Prop)(ta:TE):TE:=λσ H Q=>ta σ H λx H1=>r x H1 Q
def rI(C:Int->Int->Prop)(g:Int->Int->V):R2:=λx y H Q=>∃i j,x=.int i/\y=.int j/\C i j/\Q (g i j) H
def Eh(g:Int->Int->V):R2:=λx y H Q=>∃i j,x=.int i/\y=.int j/\Q (g i j) H
def rU(g:Int->V):V->Hp->VK->Prop:=λx H Q=>∃i,x=.int i/\Q (g i) H
section
variable {X:Cx}{a b c:Expr}{ta tb tc:TE}{pos:Pos}
theorem Ld(ha:PE X a ta)(hb:PE X b tb){pins:List (Addr×Obj)}{s:Shared}{σ:St}{H:Hp}{R:V->V->Hp->Prop}(I:Inv X pins σ H s)
 (h:ta σ H λx H1=>tb σ H1 λy H2=>R x y H2){Q:Value->Shared->Prop}{f:Value->Value->Sem Value}
 (hf:∀v u s2 x y H2,Inv X pins σ H2 s2->RelV x v->RelV y u->R x y H2->wpAny (model X.prog X.w) X.A (f v u) Q X.xe s2) :
 wpAny (model X.prog X.w) X.A (eval a X.env) (λv eP=>wpAny (model X.prog X.w) X.A (eval b X.env) (λu xW=>wpAny (model X.prog X.w) X.A (f v u) Q X.xe xW) X.xe eP) X.xe s:=by
 refine aO (ha pins s σ H _ I h) λv s1 zq=>?_
 obtain⟨x,H1,I1,r1,q1⟩:=zq
 refine aO (hb pins s1 σ H1 _ I1 q1) λu s2 zq=>?_
 obtain⟨y,H2,I2,r2,q2⟩:=zq
 exact hf v u s2 x y H2 I2 r1 r2 q2
theorem aX{op:Operator}{r:R2}(ho:iX X (binaryOp op) r) (ha:PE X a ta) (hb:PE X b tb):PE X (.BinOp a op b pos) (vQ r ta tb):=by
 intro pins s σ H Q I h
 exact wpAny_BinOp (Ld ha hb I h λv u s2 x y H2 I2 rx ry q=>ho pins s2 σ H2 x y v u Q I2 rx ry q)
theorem Ag(ho:QF X (unaryOp op) r) (ha:PE X a ta):PE X (.UnaryOp op a pos) (tUn r ta):=by
 intro pins s σ H Q I h
 exact UnaryOp_ (aO (ha pins s σ H _ I h) λv s1 ⟨x,H1,I1,r1,q1⟩=>ho pins s1 σ H1 x v Q I1 r1 q1)
theorem QG{f:Value->Value->Sem Value}{C:Int->Int->Prop}{g:Int->Int->Int}
 (rule:∀(i j:Int) (t u:Tok) (s:Shared) (Q:Value->Shared->Prop) (E:Value->Shared->Prop),C i j->Q (.int (g i j) s.toks) {s with toks:=s.toks+1} -> wpAny (model X.prog X.w) X.A (f (.int i t) (.int j u)) Q E s) :
 iX X f (rI C λi j=>.int (g i j)):=by
 intro pins s σ H x y v u Q I rx ry h
 obtain⟨i,j,rfl,rfl,hc,q⟩:=h
 obtain⟨t,rfl⟩:=rx
 obtain⟨t',rfl⟩:=ry
 exact rule i j t t' s _ _ hc ⟨.int (g i j),H,I.tok _,⟨_,rfl⟩,q⟩
theorem QH{f:Value->Value->Sem Value}{g:Int->Int->Int}
 (rule:∀(i j:Int) (t u:Tok) (s:Shared) (Q:Value->Shared->Prop) (E:Value->Shared->Prop),Q (.int (g i j) s.toks) {s with toks:=s.toks+1} -> wpAny (model X.prog X.w) X.A (f (.int i t) (.int j u)) Q E s) :
 iX X f (Eh λi j=>.int (g i j)):=by
 intro pins s σ H x y v u Q I rx ry h
 obtain⟨i,j,rfl,rfl,q⟩:=h
 obtain⟨t,rfl⟩:=rx
 obtain⟨t',rfl⟩:=ry
 exact rule i j t t' s _ _ ⟨.int (g i j),H,I.tok _,⟨_,rfl⟩,q⟩
theorem QI{f:Value->Value->Sem Value}{g:Int->Int->Bool}
 (rule:∀(i j:Int) (t u:Tok) (s:Shared) (Q:Value->Shared->Prop) (E:Value->Shared->Prop),Q (.bool (g i j)) s->wpAny (model X.prog X.w) X.A (f (.int i t) (.int j u)) Q E s) :
 iX X f (Eh λi j=>.bl (g i j)):=by
 intro pins s σ H x y v u Q I rx ry h
 obtain⟨i,j,rfl,rfl,q⟩:=h
 obtain⟨t,rfl⟩:=rx
 obtain⟨t',rfl⟩:=ry
 exact rule i j t t' s _ _ ⟨.bl (g i j),H,I,rfl,q⟩
def aa6(i j:Int):Prop:=0<j/\j<1073741824
def Le(i j:Int):Prop:=(-(2 ^ 64)<i/\i<2 ^ 64)\/(-(2 ^ 64)<j/\j<2 ^ 64)
theorem Le.ok(h:Le i j):IntMulOk i j:=by
 rcases h with⟨h1,h2⟩|⟨h1,h2⟩
 . exact .of_left (intBits_le_64 h1 h2)
 . exact .of_right (intBits_le_64 h1 h2)
theorem ja:iX X (binaryOp .Add) (Eh λi j=>.int (i+j)):=QH λ_ _ _ _ _ _ _ q=>add_int q
theorem Ip:iX X (binaryOp .Sub) (Eh λi j=>.int (i-j)):=QH λ_ _ _ _ _ _ _ q=>sub_int q
theorem kH:iX X (binaryOp .Mult) (rI Le λi j=>.int (i*j)):=QG λ_ _ _ _ _ _ _ hc q=>mul_int q hc.ok
theorem t8:iX X (binaryOp .FloorDiv) (rI aa6 λi j=>.int (i / j)):=QG λi j _ _ _ _ _ hc q=>by
 have h1:(0:Int)<j:=hc.1
 have h2:j<1073741824:=hc.2
 exact floordiv_int (by lia) (by rw[Int.fdiv_eq_ediv_of_nonneg i (by lia)];exact q) (.inl (PyProof.noPylong_small (by lia)))
theorem lZ:iX X (binaryOp .Mod) (rI (λ_ j=>0<j) λi j=>.int (i % j)):=QG λi j _ _ _ _ _ hc q=>by
 have h1:(0:Int)<j:=hc
 exact mod_int' (by lia) (by rw[Int.fmod_eq_emod_of_nonneg i (by lia)];exact q)
theorem unI{f:Value->Sem Value}{g:Int->Int}
 (rule:∀(i:Int) (t:Tok) (s:Shared) (Q:Value->Shared->Prop) (E:Value->Shared->Prop),Q (.int (g i) s.toks) {s with toks:=s.toks+1} -> wpAny (model X.prog X.w) X.A (f (.int i t)) Q E s) :
 QF X f (rU λi=>.int (g i)):=by
 intro pins s σ H x v Q I rx h
 obtain⟨i,rfl,q⟩:=h
 obtain⟨t,rfl⟩:=rx
 exact rule i t s _ _ ⟨.int (g i),H,I.tok _,⟨_,rfl⟩,q⟩
theorem vR:QF X (unaryOp .USub) (rU λi=>.int (-i)):=unI λ_ _ _ _ _ q=>neg_int q
end
def QJ:V->V->Bool
 | .aV,.aV=>true | .aV,.int _=>true | .int _,.aV=>true | .aV,.bl _=>true | .bl _,.aV=>true | .aV,.str _=>true | .str _,.aV=>true
 | .int _,.int _=>true | .bl _,.bl _=>true | .str _,.str _=>true | .pI _,.pI _=>true
 | .int _,.str _=>true | .str _,.int _=>true | .bl _,.str _=>true | .str _,.bl _=>true
 | _,_=>false
def rEq:R2:=λx y H Q=>QJ x y=true/\Q (.bl (decide (x=y))) H
def rNe:R2:=λx y H Q=>QJ x y=true/\Q (.bl (!decide (x=y))) H
theorem Ei:decide (V.int i=V.int j)=(i == j):=by
 rw[adb]
 simp
theorem Iq:decide (V.bl i=V.bl j)=(i == j):=by
 rw[adb]
 simp
theorem Ej:decide (V.str i=V.str j)=(i == j):=by
 rw[adb]
 simp
theorem Ek:decide (V.pI i=V.pI j)=(i.toList == j.toList):=by
 rw[adb]
 cases i
 cases j
 simp
section
variable {X:Cx}{a b c:Expr}{ta tb tc:TE}{pos:Pos}
theorem cc(I:Inv X pins σ H s) (q:Q (.bl k) H) (e:k=k'):EP X pins σ Q (.bool k') s:=by
 subst e
 exact⟨.bl k,H,I,rfl,q⟩
theorem kI:iX X (compareOp .Eq) rEq:=by
 intro pins s σ H x y v u Q I rx ry h
 obtain⟨hs,q⟩:=h
 cases x with
 | aV=>
  cases rx
  cases y with
  | aV=>cases ry;exact PySem.EqNone.eq_none_none (cc I q (by simp))
  | bl j=>cases ry;exact PySem.EqNone.eq_none_bool (cc I q (by simp))
  | int j=>obtain⟨t',rfl⟩:=ry;exact PySem.EqNone.eq_none_int (cc I q (by simp))
  | str j=>obtain⟨t',rfl⟩:=ry;exact PySem.EqNone.eq_none_str (cc I q (by simp))
  | _=>exact absurd (show false=true from hs) aaE
 | bl i=>
  cases rx
  cases y with
  | aV=>cases ry;exact PySem.EqNone.eq_bool_none (cc I q (by simp))
  | bl j=>cases ry;exact eq_bool (cc I q Iq)
  | str j=>obtain⟨t',rfl⟩:=ry;exact PySem.EqMixed.eq_bool_str (cc I q (by simp))
  | _=>exact absurd (show false=true from hs) aaE
 | int i=>
  obtain⟨t,rfl⟩:=rx
  cases y with
  | aV=>cases ry;exact PySem.EqNone.eq_int_none (cc I q (by simp))
  | int j=>obtain⟨t',rfl⟩:=ry;exact eq_int (cc I q Ei)
  | str j=>obtain⟨t',rfl⟩:=ry;exact PySem.EqMixed.eq_int_str (cc I q (by simp))
  | _=>exact absurd (show false=true from hs) aaE
 | str i=>
  obtain⟨t,rfl⟩:=rx
  cases y with
  | aV=>cases ry;exact PySem.EqNone.eq_str_none (cc I q (by simp))
  | bl j=>cases ry;exact PySem.EqMixed.eq_str_bool (cc I q (by simp))
  | int j=>obtain⟨t',rfl⟩:=ry;exact PySem.EqMixed.eq_str_int (cc I q (by simp))
  | str j=>obtain⟨t',rfl⟩:=ry;exact eq_str (cc I q Ej)
  | _=>exact absurd (show false=true from hs) aaE
 | pI i=>
  obtain⟨t,rfl⟩:=rx
  cases y with
  | pI j=>obtain⟨t',rfl⟩:=ry;exact W.eq_bytes (cc I q Ek)
  | _=>exact absurd (show false=true from hs) aaE
 | _=>cases y <;> exact absurd (show false=true from hs) aaE
theorem Nj:iX X (compareOp .NotEq) rNe:=by
 intro pins s σ H x y v u Q I rx ry h
 obtain⟨hs,q⟩:=h
 cases x with
 | aV=>
  cases rx
  cases y with
  | aV=>cases ry;exact PySem.EqNone.ne_none_none (cc I q (by simp))
  | bl j=>cases ry;exact PySem.EqNone.ne_none_bool (cc I q (by simp))
  | int j=>obtain⟨t',rfl⟩:=ry;exact PySem.EqNone.ne_none_int (cc I q (by simp))
  | str j=>obtain⟨t',rfl⟩:=ry;exact PySem.EqNone.ne_none_str (cc I q (by simp))
  | _=>exact absurd (show false=true from hs) aaE
 | bl i=>
  cases rx
  cases y with
  | aV=>cases ry;exact PySem.EqNone.ne_bool_none (cc I q (by simp))
  | bl j=>cases ry;exact ne_bool (cc I q (congrArg not Iq))
  | str j=>obtain⟨t',rfl⟩:=ry;exact PySem.EqMixed.ne_bool_str (cc I q (by simp))
  | _=>exact absurd (show false=true from hs) aaE
 | int i=>
  obtain⟨t,rfl⟩:=rx
  cases y with
  | aV=>cases ry;exact PySem.EqNone.ne_int_none (cc I q (by simp))
  | int j=>obtain⟨t',rfl⟩:=ry;exact ne_int (cc I q (congrArg not Ei))
  | str j=>obtain⟨t',rfl⟩:=ry;exact PySem.EqMixed.ne_int_str (cc I q (by simp))
  | _=>exact absurd (show false=true from hs) aaE
 | str i=>
  obtain⟨t,rfl⟩:=rx
  cases y with
  | aV=>cases ry;exact PySem.EqNone.ne_str_none (cc I q (by simp))
  | bl j=>cases ry;exact PySem.EqMixed.ne_str_bool (cc I q (by simp))
  | int j=>obtain⟨t',rfl⟩:=ry;exact PySem.EqMixed.ne_str_int (cc I q (by simp))
  | str j=>obtain⟨t',rfl⟩:=ry;exact ne_str (cc I q (congrArg not Ej))
  | _=>exact absurd (show false=true from hs) aaE
 | pI i=>
  obtain⟨t,rfl⟩:=rx
  cases y with
  | pI j=>obtain⟨t',rfl⟩:=ry;exact W.ne_bytes (cc I q (congrArg not Ek))
  | _=>exact absurd (show false=true from hs) aaE
 | _=>cases y <;> exact absurd (show false=true from hs) aaE
theorem Ah:iX X (compareOp .Lt) (Eh λi j=>.bl (decide (i<j))):=QI λ_ _ _ _ _ _ _ q=>lt_int q
theorem Ai:iX X (compareOp .Gt) (Eh λi j=>.bl (decide (j<i))):=QI λ_ _ _ _ _ _ _ q=>gt_int q
theorem dz(b:Expr)(h:op≠.In:=by decide)(h2:op≠.NotIn:=by decide):behindInMarks op b=false:=by
 have e1:(op == CmpOp.In)=false:=by cases op <;> first|rfl|exact absurd rfl h
 have e2:(op == CmpOp.NotIn)=false:=by cases op <;> first|rfl|exact absurd rfl h2
 cases b <;> simp[behindInMarks,e1,e2]
theorem El{op:CmpOp}{r:R2}(ho:iX X (compareOp op) r) (ha:PE X a ta) (hb:PE X b tb) (hm:behindInMarks op b=false):PE X (.Compare a [op] [b] pos) (vQ r ta tb):=by
 intro pins s σ H Q I h
 exact wpAny_Compare1 (Ld ha hb I h λv u s2 x y H2 I2 rx ry q=>ho pins s2 σ H2 x y v u Q I2 rx ry q) hm
def WS(t:TE):TT:=λσ H Q=>t σ H λx H'=>∃k,x=.bl k/\Q k H'
theorem cU(ho:iX X (compareOp op) r) (ha:PE X a ta) (hb:PE X b tb) (hm:behindInMarks op b=false):PT X (.Compare a [op] [b] pos) (WS (vQ r ta tb)):=by
 intro pins s σ H Q I h
 refine wpAny_isTrue_Compare1 (aO (ha pins s σ H _ I h) λv s1 ⟨x,H1,I1,r1,q1⟩=>aO (hb pins s1 σ H1 _ I1 q1) λu s2 ⟨y,H2,I2,r2,q2⟩=>
  aO (ho pins s2 σ H2 x y v u _ I2 r1 r2 q2) λc s3 ⟨z,H3,I3,r3,k,e,q3⟩=>?_) hm
 subst e
 cases r3
 exact aeL ⟨H3,I3,q3⟩
theorem pL:(sizeLine:Nat)<2 ^ 63:=by rw[adW];decide
theorem gg:iX X (binaryOp .Add) (λx y H Q=>∃i j,x=.str i/\y=.str j/\i.length+j.length<=sizeLine/\Q (.str (i++j)) H):=by
 intro pins s σ H x y v u Q I rx ry h
 obtain⟨i,j,rfl,rfl,hz,q⟩:=h
 obtain⟨t,rfl⟩:=rx
 obtain⟨t',rfl⟩:=ry
 exact add_str (λt' tk=>⟨.str (i++j),H,I.tok _,⟨_,rfl⟩,q⟩) hz
theorem vals1(r:Vals [x] us):∃u,us=[u]/\RelV x u:=by
 cases r with
 | cons r1 r2=>cases r2;exact⟨_,rfl,r1⟩
theorem vals2(r:Vals [x,y] us):∃u w',us=[u,w']/\RelV x u/\RelV y w':=by
 cases r with
 | cons r1 r2=>
  cases r2 with
  | cons r3 r4=>cases r4;exact⟨_,_,rfl,r1,r3⟩
end
structure va(h:Heap) (x dx C:Addr) (mA:Str->Option Value):Prop where
 obj:h.get? x=some (W.instObj C dx)
 ns:h.Ns1 dx mA
 ne:dx≠x
theorem Ir{h:Heap}{dx:Addr}{mA:Str->Option Value}(n:h.Ns1 dx mA):∃od,h.get? dx=some od/\∀name,W.lookIn name od=some (mA name):=by
 obtain⟨o,es,ep,ho,hd,hk,_,hm⟩:=n
 refine⟨o,ho,λname=>?_⟩
 have e:=hm name
 unfold nsFind findBy at e
 rw[← Array.find?_toList]at e
 unfold W.lookIn
 rw[hd]
 dsimp only
 split
 . rename_i y q
   rw[q]at e
   exact congrArg some e
 . rename_i q
   rw[q]at e
   have a:es.toList.any (·.refKey)=false:=by
    rw[List.any_eq_false]
    intro y hy
    obtain⟨z,t,lE⟩:=hk y (agK.mp hy)
    simp[DictEntry.refKey,lE]
   have a':¬ es.toList.any (·.refKey)=true:=by rw[a];exact aaE
   rw[aaz a']
   exact congrArg some e
theorem va.look(I:va h x dx C mA):∃od,W.InstAt h x (W.instObj C dx) C (some od)/\∀name,W.lookIn name od=some (mA name):=
 let ⟨od,ho,hl⟩:=Ir I.ns
 ⟨od,⟨I.obj,rfl,rfl,ho⟩,hl⟩
section
variable {prog:Program}{w:World}{A:Around}{E:Value->Shared->Prop}{s:Shared}{K:W.Frag}{x dx C f:Addr}{mA:Str->Option Value}{name:Str}{v:Value}
theorem get_map(X:K.In s.heap)(I:va s.heap x dx C mA)(hg:W.plainGet K C name=true)(hh:W.hasDictIn K C=true)
 (ha:W.findIn K (.ref C) name=some none) (hv:mA name=some v) (Iu:W.handedIn v=true) (h:Q v {s with toks:=s.toks+1}) :
 wpAny (model prog w) A (getAttr (.ref x) name expr) Q E s:=by
 obtain⟨od,J,hl⟩:=I.look
 exact W.get_value X J (ag4 hg).1 (W.findObj_own hh ha rfl (by rw[hl,hv])) Iu h
theorem Lf(X:K.In s.heap)(I:va s.heap x dx C mA)(hg:W.plainGet K C name=true)
 (hf:W.findIn K (.ref C) name=some (some (.ref f))) (ht:W.isFn K (.ref f)=true) (hv:mA name=none) (h:Q (.ref f,[.ref x]) s) :
 wpAny (model prog w) A (getMethod (.ref x) name pl) Q E s:=by
 obtain⟨od,J,hl⟩:=I.look
 exact W.method_fn X J (ag4 hg).1 (ag4 hg).2 hf (aeY.mp ht) (by show (W.lookIn name od).map (·.isSome)=some false;rw[hl,hv];rfl) h
theorem O6(X:K.In s.heap)(I:va s.heap x dx C mA)
 (hs:W.findIn K (.ref C) "__setattr__" = some (some (.builtin "object.__setattr__"))) (hp:W.plainOver K C=true) (ht:W.takerIn K C name=some none) (hh:W.hasDictIn K C=true)
 (hw:PySem.Within mA ns) (hsz:ns.length<=sizeLine)
 (h:∀h',va h' x dx C (λy=>if y=name then some v else mA y)->Heap.SameBut dx s.heap h'->Q () {s with heap:=h',toks:=s.toks+2}) :
 wpAny (model prog w) A (setAttr (.ref x) name v) Q E s:=by
 obtain⟨od,J,hl⟩:=I.look
 refine W.set_plain X J hs (W.osa_open (s:={s with toks:=s.toks+1}) (r:=none) X J hp ht λb=>?_)
 obtain⟨cd,hc,hd'⟩:=W.any_some hh
 have hx:s.heap.get? x=some ⟨.ref C,some dx,.plain,#[]⟩:=I.obj
 refine aad (aao (aad (aad (wpAny_loadPart hx (aad (W.Looks.here (s:={s with toks:=s.toks+1}) (W.looks_clsIn X hc) ?_))))))
 rw[hd']
 refine aao (a:=some dx) (aad (aao (aad ?_)))
 refine wpAny_nsSet1 (s:={s with toks:=s.toks+1}) I.ns λh' jk oW=>?_
 obtain⟨oD,esD,epD,hoD,hdD,hcD⟩:=jk.count (PySem.Within.cons name v hw)
 refine aad (wpAny_lookBehind hoD (by rw[hdD];exact pastItsLine_dict (aam hcD (by rw[aaA];lia))) ?_)
 exact aao (h _ ⟨(oW.2 _ (aax I.ne)).trans I.obj,jk,I.ne⟩ oW)
theorem Lg(X:K.In s.heap)(hm:W.makesIn K C=true)
 (hi:W.findIn K (.ref C) "__init__" = some (some (.ref f))) (hf:W.typeIn K (.ref f)=some (.type "function"))
 (h:codeAny (model prog w) (A.under (.builtin "type.__call__" ⟨.ref C::vs,kw⟩)) (.call (.ref f) ⟨.ref (s.heap.objs.size+1)::vs,kw⟩) (W.InitBack (s.heap.objs.size+1) R)
  {s with heap:=(s.heap.push W.emptyDict).push (W.instObj C s.heap.objs.size)}) :
 codeAny (model prog w) A (.call (.ref C) ⟨vs,kw⟩) R s:=by
 obtain⟨hh,g,d,t,os⟩:=s
 exact W.make_core (W.makes_of X hm) (W.looks_findIn X hi) (λself=>W.bind_fn X self hf) (.inl rfl) h
end
def aj(f:Str)(v:V):List (Str×V)->List (Str×V)
 | []=>[(f,v)]
 | (g,x)::r=>if g=f then (g,v)::r else (g,x)::aj f v r
theorem ay(f g:Str)(v:V):∀fs:List (Str×V),(aj f v fs).lookup g=if g=f then some v else fs.lookup g
 | []=>by
  show List.lookup g [(f,v)]=_
  by_cases h:g=f
  . have hb:(g == f)=true:=aeY.mpr h
    simp only[List.lookup,hb,aaF h]
  . have hb:(g == f)=false:=adt.mpr h
    simp only[List.lookup,hb,aaz h]
 | (k,x)::r=>by
  have ih:=ay f g v r
  rw[show aj f v ((k,x)::r)=(if k=f then (k,v)::r else (k,x)::aj f v r) from rfl]
  by_cases hk:k=f
  . rw[aaF hk]
    by_cases h:g=k
    . have hb:(g == k)=true:=aeY.mpr h
      simp only[List.lookup,hb,aaF (h.trans hk)]
    . have hb:(g == k)=false:=adt.mpr h
      simp only[List.lookup,hb,aaz (λe:g=f=>h (e.trans hk.symm))]
  . rw[aaz hk]
    by_cases h:g=k
    . have hb:(g == k)=true:=aeY.mpr h
      simp only[List.lookup,hb,aaz (λe:g=f=>hk (h.symm.trans e))]
    . have hb:(g == k)=false:=adt.mpr h
      simp only[List.lookup,hb]
      exact ih
theorem sC(f:Str)(v:V):∀fs:List (Str×V),f∈(aj f v fs).map (·.1)/\∀g,g∈fs.map (·.1)->g∈(aj f v fs).map (·.1)
 | []=>⟨by simp[aj],λg h=>by simp at h⟩
 | (k,x)::r=>by
  obtain⟨i1,i2⟩:=sC f v r
  rw[show aj f v ((k,x)::r)=(if k=f then (k,v)::r else (k,x)::aj f v r) from rfl]
  by_cases hk:k=f
  . rw[aaF hk]
    subst hk
    exact⟨by simp,λg h=>by simpa using h⟩
  . rw[aaz hk]
    refine⟨?_,λg h=>?_⟩
    . rw[aaB]
      exact aav _ i1
    . rw[aaB]at h ⊢
      rcases aaj.mp h with e|e
      . exact aaj.mpr (.inl e)
      . exact aav _ (i2 g e)
theorem lS(f:Str)(v:V):∀fs:List (Str×V),(aj f v fs).length<=fs.length+1
 | []=>by simp[aj]
 | (k,x)::r=>by
  have ih:=lS f v r
  rw[show aj f v ((k,x)::r)=(if k=f then (k,v)::r else (k,x)::aj f v r) from rfl]
  by_cases hk:k=f
  . rw[aaF hk,aaA,aaA];lia
  . rw[aaz hk,aaA,aaA];lia
theorem ji.some_of(r:ji (some v) o):∃u,o=some u/\RelV v u:=by
 cases o with
 | none=>exact(show False from r).elim
 | some u=>exact⟨u,rfl,r⟩
theorem ji.none_of(r:ji none o):o=none:=by
 cases o with
 | none=>rfl
 | some u=>exact(show False from r).elim
theorem Iv(r:RelV v u):W.handedIn u=true:=by
 cases v with
 | aV=>cases(show u=Value.none from r);rfl
 | bl b=>cases(show u=Value.bool b from r);rfl
 | int i=>obtain⟨t,e⟩:=(show ∃t,u=Value.int i t from r);cases e;rfl
 | str x=>obtain⟨t,e⟩:=(show ∃t,u=Value.str x t from r);cases e;rfl
 | pI b=>obtain⟨t,e⟩:=(show ∃t,u=Value.bytes b t from r);cases e;rfl
 | yF b=>obtain⟨t,e⟩:=(show ∃t,u=Value.float b t from r);cases e;rfl
 | ref a=>cases(show u=Value.ref a from r);rfl
 | ty n=>cases(show u=Value.type n from r);rfl
section
variable {P:Program}{w:World}{H H':Hp}{h h':Heap}{a C dx:Addr}{fs fs':List (Str×V)}
theorem ua(hok:gu P w H h) (e:H a=some (.ins C dx fs)):∃mA,va h a dx C mA/\(∀f,ji (fs.lookup f) (mA f))/\PySem.Within mA (fs.map (·.1))/\fs.length<=1000/\H dx=some (.own a):=by
 obtain⟨d,z,ne,ob,mA,n,r,q⟩:=(show bU P w H h a (.ins C dx fs) from hok a _ e)
 exact⟨mA,⟨ob,n,ne⟩,r,q,z,d⟩
end
structure jQ(K:W.Frag) (C:Addr):Prop where
 pg:W.plainGet K C Str.empty=true
 hd:W.hasDictIn K C=true
 po:W.plainOver K C=true
 sa:W.findIn K (.ref C) "__setattr__" = some (some (.builtin "object.__setattr__"))
theorem jQ.get{K:W.Frag}{C:Addr}(c:jQ K C)(f:Str):W.plainGet K C f=true:=c.pg
def aM(K:W.Frag)(C:Addr)(f:Str):Prop:=W.findIn K (.ref C) f=some none
theorem aM.WT{K:W.Frag}{C:Addr}{f:Str}(n:aM K C f):W.takerIn K C f=some none:=by
 unfold W.takerIn
 rw[show W.findIn K (.ref C) f=some none from n]
 rfl
structure Meth(K:W.Frag) (C:Addr) (m:Str) (f:Addr):Prop where
 at_:W.findIn K (.ref C) m=some (some (.ref f))
 fn:W.isFn K (.ref f)=true
 kp:W.keepIn K (.ref f)=true
section
variable {X:Cx}{pins:List (Addr×Obj)}{σ:St}{H:Hp}{s:Shared}{a C dx:Addr}{fs:List (Str×V)}{f:Str}{v:V}{A:Around}{E:Value->Shared->Prop}
theorem FQ(I:Inv X pins σ H s) (e:H a=some (.ins C dx fs)) (c:jQ X.K C) (n:aM X.K C f) (l:fs.lookup f=some v)
 (h:∀u s',Inv X pins σ H s'->RelV v u->Q u s'):wpAny (model X.prog X.w) A (getAttr (.ref a) f b) Q E s:=by
 obtain⟨mA,O,r,_,_,_⟩:=ua I.hok e
 obtain⟨u,hu,ru⟩:=ji.some_of (v:=v) (o:=mA f) (by rw[← l];exact r f)
 exact get_map I.i8 O (c.get f) c.hd n hu (Iv ru) (h u _ (I.tok _) ru)
theorem qB(I:Inv X pins σ H s) (e:H a=some (.ins C dx fs)) (c:jQ X.K C) (k:Meth X.K C m g) (l:fs.lookup m=none)
 (h:Q (.ref g,[.ref a]) s):wpAny (model X.prog X.w) A (getMethod (.ref a) m pl) Q E s:=by
 obtain⟨mA,O,r,_,_,_⟩:=ua I.hok e
 have hn:mA m=none:=ji.none_of (by rw[← l];exact r m)
 exact Lf I.i8 O (c.get m) k.at_ k.fn hn h
theorem FR(I:Inv X pins σ H s) (e:H a=some (.ins C dx fs)) (c:jQ X.K C) (n:aM X.K C f) (hl:fs.length<1000) (ry:RelV y u)
 (h:∀s',Inv X pins σ (upd H a (.ins C dx (aj f y fs))) s'->Q () s'):wpAny (model X.prog X.w) A (setAttr (.ref a) f u) Q E s:=by
 obtain⟨mA,O,r,wi,_,ho⟩:=ua I.hok e
 have hz:(fs.map (·.1)).length<=sizeLine:=by rw[aaa,adW];lia
 refine O6 I.i8 O c.sa c.po n.WT c.hd wi hz λh' O' sb=>h _ ?_
 have hd:∃o,h'.get? dx=some o:=let ⟨o,_,_,e',_⟩:=O'.ns; ⟨o,e'⟩
 refine I.write (x:=a) (e:=dx) (by rw[e];exact True.intro) (.inr ho) (λb q hb z=>(sb.2 b hb).trans z) hd ?_
 refine⟨by rw[ag O.ne];exact ho,?_,O.ne,O'.obj,_,O'.ns,λg=>?_,λg hg=>?_⟩
 . have:=lS f y fs;lia
 . show ji ((aj f y fs).lookup g) (if g=f then some u else mA g)
   rw[ay]
   by_cases q:g=f
   . rw[aaF q,aaF q];exact ry
   . rw[aaz q,aaz q];exact r g
 . by_cases q:g=f
   . rw[q];exact(sC f y fs).1
   . refine(sC f y fs).2 g (wi g λz=>hg ?_)
     show (if g=f then some u else mA g)=none
     rw[aaz q];exact z
theorem Inv.made(I:Inv X pins σ H s):Inv X pins σ (upd (upd H s.heap.objs.size (.own (s.heap.objs.size+1))) (s.heap.objs.size+1) (.ins C s.heap.objs.size []))
 {s with heap:=(s.heap.push W.emptyDict).push (W.instObj C s.heap.objs.size)}:=by
 have e1:(s.heap.push W.emptyDict).get? s.heap.objs.size=some W.emptyDict:=aaq s.heap rfl
 have e2:((s.heap.push W.emptyDict).push (W.instObj C s.heap.objs.size)).get? (s.heap.objs.size+1)=some (W.instObj C s.heap.objs.size):=by
  have:=aaq (s.heap.push W.emptyDict) (o:=W.instObj C s.heap.objs.size) rfl
  rwa[adz]at this
 have e3:(s.heap.push W.emptyDict).Ns s.heap.objs.size (λ_=>none):=⟨W.emptyDict,#[],_,e1,rfl,(λe he=>absurd he (by simp)),λ_=>rfl⟩
 have I1:=I.laid (a:=s.heap.objs.size) (o:=.own (s.heap.objs.size+1)) (h':=s.heap.push W.emptyDict) (t':=s.toks) (λb u q=>aac _ q) (aaf _) ⟨_,e1⟩
 refine I1.laid (a:=s.heap.objs.size+1) (o:=.ins C s.heap.objs.size []) (t':=s.toks) (λb u q=>aac _ q) (agy (adz _ _)) ?_
 have ne:s.heap.objs.size≠s.heap.objs.size+1:=aaD (aeT _)
 refine⟨by rw[ag ne,af],aaO _,ne,e2,λ_=>none,(Heap.Ns1.of_empty e3).at λo q=>aac _ q,λ_=>True.intro,λy hy=>absurd rfl hy⟩
theorem O7(hb:attributeBase e f env (eval e env)=eval e env)
 (h:wpAny (model prog w) A (eval e env) (λo eP=>wpAny (model prog w) A (getAttr o f true) Q E eP) E s):wpAny (model prog w) A (eval (.Attribute e f pos) env) Q E s:=
 Attribute_any_ h (by rw[arm_eval_Attribute,hb])
end
def AI(K:W.Frag)(ta:TE)(f:Str):TE:=λσ H Q=>ta σ H λx H1=>∃a C dx fs v,x=.ref a/\H1 a=some (.ins C dx fs)/\jQ K C/\aM K C f/\fs.lookup f=some v/\Q v H1
def aa7(K:W.Frag)(ta tv:TE)(f:Str):TS:=λD σ H=>tv σ H λy H1=>ta σ H1 λx H2=>∃a C dx fs,x=.ref a/\H2 a=some (.ins C dx fs)/\jQ K C/\aM K C f/\fs.length<1000/\
 D.nx σ (upd H2 a (.ins C dx (aj f y fs)))
section
variable {X:Cx}{o e value:Expr}{f:Str}{pos pos' aa8:Pos}{ta tv:TE}
theorem aE(he:PE X e ta) (hb:attributeBase e f X.env (eval e X.env)=eval e X.env):PE X (.Attribute e f pos) (AI X.K ta f):=by
 intro pins s σ H Q I h
 refine O7 hb (aO (he pins s σ H _ I h) λu s1 zq=>?_)
 obtain⟨x,H1,I1,rx,a,C,dx,fs,v,ex,ea,c,n,l,q⟩:=zq
 subst ex
 obtain rfl:u=Value.ref a:=rx
 exact FQ I1 ea c n l λu' s2 I2 ru=>⟨v,H1,I2,ru,q⟩
theorem cX(ha:PE X o ta)(hv:PE X value tv) (hs:swapsWith value (some (.Attribute o f pos')) pos.line X.env=pure false):PS X (.Assign [.Attribute o f pos'] value pos) (aa7 X.K ta tv f):=by
 intro pins s σ H D I h
 refine plainObj_wpAny_Assign_Attribute (aO (hv pins s σ H _ I h) λu s1 ⟨y,H1,I1,ry,q⟩=>aO (ha pins s1 σ H1 _ I1 q) λov s2 ⟨x,H2,I2,rx,a,C,dx,fs,ex,ea,c,n,l,q2⟩=>?_) hs
 subst ex
 obtain rfl:ov=Value.ref a:=rx
 exact FR I2 ea c n l ry λs3 I3=>⟨σ,_,I3,q2⟩
theorem WI(he:PE X e te)(I:Inv X pins σ H s)
 (h:te σ H λx H1=>∃a C dx fs g,x=.ref a/\H1 a=some (.ins C dx fs)/\jQ X.K C/\Meth X.K C m g/\fs.lookup m=none/\
  ∀s1,Inv X pins σ H1 s1->wpAny (model X.prog X.w) X.A (callWith pos (.ref g) [.ref a] (backTo pos (starEach args X.env)) (backToKw pos (keywordEach [] X.env))) Q X.xe s1)
 (ht:eval (.Call (.Attribute e m apos) args [] pos) X.env=(do
  let ov ← eval e X.env
  standAt apos.atName
  let (f,first) ← holding [ov] (getMethod ov m pl)
  callWith pos f first (backTo pos (starEach args X.env)) (backToKw pos (keywordEach [] X.env)))) :
 wpAny (model X.prog X.w) X.A (eval (.Call (.Attribute e m apos) args [] pos) X.env) Q X.xe s:=by
 refine agz (pl:=pl) (aO (he pins s σ H _ I h) λu s1 ⟨x,H1,I1,rx,a,C,dx,fs,g,ex,ea,c,k,l,q⟩=>?_) ht
 subst ex
 obtain rfl:u=Value.ref a:=rx
 exact qB I1 ea c k l (q s1 I1)
end
section
variable {X:Cx}{pins:List (Addr×Obj)}{σ:St}{H:Hp}{s:Shared}{A:Around}{E:Value->Shared->Prop}{Q:Value->Shared->Prop}{c:Value}{b:Bool}
inductive lF(K:W.Frag) (H:Hp):V->Value->Prop where
 | aV:lF K H .aV (.type "NoneType")
 | bl (x:Bool):lF K H (.bl x) (.type "bool")
 | int (i:Int):lF K H (.int i) (.type "int")
 | str (x:Str):lF K H (.str x) (.type "str")
 | yF (x:UInt64):lF K H (.yF x) (.type "float")
 | lst {a:Addr}{xs:List V}(e:H a=some (.lst xs)):lF K H (.ref a) (.type "list")
 | du {a:Addr}{o:Obj}{xs:List V}(e:H a=some (.du o (.lst xs))):lF K H (.ref a) (.type "list")
 | tup {a:Addr}{xs:List V}(e:H a=some (.tup xs)):lF K H (.ref a) (.type "tuple")
 | dK {a:Addr}{kvs:List (Key×V)}(e:H a=some (.dK kvs)):lF K H (.ref a) (.type "dict")
 | dT {a:Addr}{kvs:List (List Key×V)}(e:H a=some (.dT kvs)):lF K H (.ref a) (.type "dict")
 | ins {a C dx:Addr}{fs:List (Str×V)}(e:H a=some (.ins C dx fs)) (cl:jQ K C) (ha:W.findIn K (.ref C) "__class__" = some (some (.builtin "object.__class__")))
  (hn:W.specialIn K (.builtin "object.__class__") "__get__" = some (some (.builtin "getset_descriptor.__get__"))) (Iw:W.takesIn K (.builtin "object.__class__")=some true)
  (hm:W.mroIn K C (.type "object")=some true):lF K H (.ref a) (.ref C)
theorem Iy(I:Inv X pins σ H s)(rx:RelV x u)(ty:lF X.K H x t)(e:W.kitOne X.K t c=some b) (h:∀tk,Q (.bool b) {s with toks:=tk}) :
 wpAny (model X.prog X.w) A (call (.builtin "isinstance") [u,c]) Q E s:=by
 cases ty with
 | aV=>cases(show u=Value.none from rx);exact aeQ W.kitx_none I.i8 True.intro e (λz=>nomatch z) h
 | bl y=>cases(show u=Value.bool y from rx);exact aeQ W.kitx_bool I.i8 True.intro e (λz=>nomatch z) h
 | int i=>obtain⟨t,q⟩:=(show ∃t,u=Value.int i t from rx);cases q;exact aeQ W.kitx_int I.i8 True.intro e (λz=>nomatch z) h
 | str y=>obtain⟨t,q⟩:=(show ∃t,u=Value.str y t from rx);cases q;exact aeQ W.kitx_str I.i8 True.intro e (λz=>nomatch z) h
 | yF y=>obtain⟨t,q⟩:=(show ∃t,u=Value.float y t from rx);cases q;exact aeQ W.kitx_float I.i8 True.intro e (λz=>nomatch z) h
 | @lst a xs ea=>
  cases(show u=Value.ref a from rx)
  obtain⟨_,_,n,_,h1⟩:=(show bU X.prog X.w H s.heap a (.lst xs) from I.hok a _ ea)
  exact aeQ W.kitx_list I.i8 ⟨_,h1,rfl⟩ e (λz=>nomatch z) h
 | @du a ob xs ea=>
  cases(show u=Value.ref a from rx)
  obtain⟨_,_,_,n,_,h1⟩:=(show bU X.prog X.w H s.heap a (.du ob (.lst xs)) from I.hok a _ ea)
  exact aeQ W.kitx_list I.i8 ⟨_,h1,rfl⟩ e (λz=>nomatch z) h
 | @tup a xs ea=>
  cases(show u=Value.ref a from rx)
  obtain⟨_,_,_,p⟩:=(show bU X.prog X.w H s.heap a (.tup xs) from I.hok a _ ea)
  obtain⟨o,h1,h2,_⟩:=p
  exact aeQ W.kitx_tuple I.i8 ⟨o,h1,h2⟩ e (λz=>nomatch z) h
 | @dK a kvs ea=>
  cases(show u=Value.ref a from rx)
  obtain⟨_,_,vs,_,p⟩:=(show bU X.prog X.w H s.heap a (.dK kvs) from I.hok a _ ea)
  obtain⟨o,es,ep,h1,h2,_⟩:=p
  exact aeQ W.kitx_dict I.i8 ⟨o,h1,h2.1⟩ e (λz=>nomatch z) h
 | @dT a kvs ea=>
  cases(show u=Value.ref a from rx)
  obtain⟨_,_,xs,_,o,es,ep,h1,h2,_⟩:=(show bU X.prog X.w H s.heap a (.dT kvs) from I.hok a _ ea)
  exact aeQ W.kitx_dict I.i8 ⟨o,h1,h2.1⟩ e (λz=>nomatch z) h
 | @ins a C dx fs ea cl ha hn Iw hm=>
  cases(show u=Value.ref a from rx)
  obtain⟨mA,O,_⟩:=ua I.hok ea
  obtain⟨od,J,_⟩:=O.look
  exact aeQ (W.kitx_own (cl.get _) cl.hd ha hn Iw hm) I.i8 J e (λz=>nomatch z) h
end
structure aN(k:Nat) (A:Around):Prop where
 hd:A.handled=none
 dp:A.depth+3*k+5<recursionLimit
 un:A.units+16*k+200<cLine
theorem aN.mono{j k:Nat}{A:Around}(r:aN k A)(h:j<=k):aN j A:=⟨r.hd,by have:=r.dp;lia,by have:=r.un;lia⟩
theorem aN.deeper{k:Nat}{A:Around}(r:aN (k+1) A) (env:Env):aN k (A.deeper env):=
 ⟨r.hd,by have:=r.dp;show A.depth+1+3*k+5<_;lia,by have:=r.un;show A.units+3+16*k+200<_;lia⟩
theorem aN.in1(r:aN (k+1) A):aN k A.in1:=
 ⟨r.hd,by have:=r.dp;show A.depth+3*k+5<_;lia,by have:=r.un;show A.units+1+16*k+200<_;lia⟩
theorem FT{A:Around}{C:Addr}{us:List Value}{kw:List (Str×Value)} : (A.under (.builtin "type.__call__" ⟨.ref C::us,kw⟩)).depth=A.depth+1:=by
 first|rfl|simp[Around.under,Code.weight,Code.isCreation,Code.isGuard,Code.isCaller,Code.frames,Code.isFrame,guardIds]
theorem FU{A:Around}{C:Addr}{us:List Value}{kw:List (Str×Value)} : (A.under (.builtin "type.__call__" ⟨.ref C::us,kw⟩)).units=A.units+1:=by
 first|rfl|simp[Around.under,Code.cUnits,Code.frames,Code.isFrame]
theorem aN.make(r:aN (k+1) A) (C:Addr) (us:List Value) (kw:List (Str×Value)):aN k (A.under (.builtin "type.__call__" ⟨.ref C::us,kw⟩)):=
 ⟨r.hd,by have:=r.dp;rw[FT];lia,by have:=r.un;rw[FU];lia⟩
theorem aN.depth(r:aN k A):A.depth<recursionLimit:=by have:=r.dp;lia
theorem aN.units(r:aN k A):A.units+64<cLine:=by have:=r.un;lia
def j0:TA:=λ_ H Q=>Q [] H
def eB(ta:TE)(tr:TA):TA:=λσ H Q=>ta σ H λx H1=>tr σ H1 λxs H2=>Q (x::xs) H2
section
variable {X:Cx}{e:Expr}{es:List Expr}{te:TE}{t:TA}{pos:Pos}
theorem ah:PA X [] j0:=λ_ _ _ _ H Q I h=>afj ⟨[],H,I,.nil,h⟩
theorem aa(ha:PE X e te)(hr:PA X es t) (hs:starEach (e::es) X.env=(false,eval e X.env)::starEach es X.env:=by rfl):PA X (e::es) (eB te t):=by
 intro pos pins s σ H Q I h
 rw[hs]
 show wpAny _ _ (spliced ((false,eval e X.env)::backTo pos (starEach es X.env))) _ _ s
 refine aex (aO (ha pins s σ H _ I h) λu s1 zq=>?_)
 obtain⟨x,H1,I1,r1,q1⟩:=zq
 exact aO (hr pos pins s1 σ H1 _ I1 q1) λus s2 ⟨xs,H2,I2,r2,q2⟩=>⟨x::xs,H2,I2,.cons r1 r2,q2⟩
def Lh(t:TA):TE:=λσ H Q=>t σ H λxs H1=>xs.length<=sizeLine/\∀p,H1 p=none->Q (.ref p) (upd H1 p (.tup xs))
def aa9(t:TA):TE:=λσ H Q=>t σ H λxs H1=>xs.length<=sizeLine/\∀p,H1 p=none->Q (.ref p) (upd H1 p (.lst xs))
theorem fZ{x1} (h:PA X es t):PE X (.Tuple es x1 pos) (Lh t):=by
 intro pins s σ H Q I hq
 refine wpAny_Tuple_spliced (aO (h pos pins s σ H _ I hq) λus s1 ⟨xs,H1,I1,r,z,q⟩=>⟨by rw[← r.length];exact z,?_⟩)
 have hf:H1 s1.heap.objs.size=none:=I1.hok.fresh (aaf _)
 refine⟨.ref s1.heap.objs.size,upd H1 s1.heap.objs.size (.tup xs),I1.laid (t':=s1.toks) (λb u e=>aac _ e) (aaf _) ?_,rfl,q _ hf⟩
 exact⟨z,us,r,⟨_,aaq _ rfl,rfl,_,rfl⟩⟩
theorem cY(h:PA X es t):PE X (.List es pos) (aa9 t):=by
 intro pins s σ H Q I hq
 refine wpAny_List_spliced (aO (h pos pins s σ H _ I hq) λus s1 ⟨xs,H1,I1,r,z,q⟩=>⟨by rw[← r.length];exact z,?_⟩)
 have hf:H1 s1.heap.objs.size=none:=I1.hok.fresh (aaf _)
 refine⟨.ref s1.heap.objs.size,upd H1 s1.heap.objs.size (.lst xs),I1.laid (t':=s1.toks) (λb u e=>aac _ e) (aaf _) ?_,rfl,q _ hf⟩
 exact⟨z,us,0,r,aaq _ rfl⟩
end
abbrev Sp:=List V->Hp->VK->XK->Prop
abbrev sD:=List Env->Hp->Shared->XK->Value->Shared->Prop
structure pC(P:Program) (w:World) (K:W.Frag) (mg:Str->Option Value) (base:Heap) (A:Around) (outer:List Env) (s:Shared) (H:Hp):Prop where
 frames:A.frames=some outer
 mod:Mod K mg base
 bs:∀b o,base.get? b=some o->s.heap.get? b=some o/\H b=none
 bsz:base.objs.size<=s.heap.objs.size
 lB:s.heap.FunFrames base outer
 frf:∀b∈nY outer,H b=none
 hok:gu P w H s.heap
 bare:AllBare s.gens
def CE(outer:List Env)(P:Program)(w:World)(H:Hp)(s:Shared)(Q:VK)(u:Value)(s':Shared):Prop:=
 ∃v H',s'.os=s.os/\AllBare s'.gens/\Un (nY outer) [] H H' s.heap s'.heap/\gu P w H' s'.heap/\RelV v u/\Q v H'
def CR(CX:sD)(outer:List Env)(P:Program)(w:World)(H:Hp)(s:Shared)(Q:VK)(E:XK)(r:Result)(s':Shared):Prop:=
 match r with
 | .ok (.ret u)=>CE outer P w H s Q u s'
 | .ok _=>False
 | .error e=>CX outer H s E e s'
structure ax(P:Program) (w:World) (K:W.Frag) (mg:Str->Option Value) (base:Heap) (CX:sD) (k:Nat) (f:Addr) (fd:FuncData) (ps:List Str) (sp:Sp):Prop where
 len:∀vs H Q E,sp vs H Q E->vs.length=ps.length
 run:∀(A:Around) (outer:List Env) (s:Shared) (H:Hp) (args:Args) (us:List Value) (vs:List V) (Q:VK) (E:XK),aN k A->pC P w K mg base A outer s H->BindsTo s fd args (ps.zip us)->Vals vs us->sp vs H Q E->
  codeAny (model P w) A (.call (.ref f) args) (CR CX outer P w H s Q E) s
theorem pC.make{P:Program}{w:World}{K:W.Frag}{mg:Str->Option Value}{base:Heap}{A:Around}{outer:List Env}{s:Shared}{H:Hp}(e:pC P w K mg base A outer s H)(C:Addr)(us:List Value) (kw:List (Str×Value)) :
 pC P w K mg base (A.under (.builtin "type.__call__" ⟨.ref C::us,kw⟩)) outer s H:=⟨by first|exact e.frames|(simpa[Around.under,Code.envs,Code.isFrame,pushEnvs]using e.frames),e.mod,e.bs,e.bsz,e.lB,e.frf,e.hok,e.bare⟩
theorem pC.in1{P:Program}{w:World}{K:W.Frag}{mg:Str->Option Value}{base:Heap}{A:Around}{outer:List Env}{s:Shared}{H:Hp}(e:pC P w K mg base A outer s H) :
 pC P w K mg base A.in1 outer s H:=⟨e.frames,e.mod,e.bs,e.bsz,e.lB,e.frf,e.hok,e.bare⟩
section
variable {X:Cx}{pins:List (Addr×Obj)}{σ:St}{H:Hp}{s s':Shared}
theorem Inv.QK(I:Inv X pins σ H s):pC X.prog X.w X.K X.mg X.base X.A X.stack s H:=
 ⟨I.ok.frames,I.ok.mod,I.bs,aam I.ok.bsz I.sz,I.stack,I.D9,I.hok,I.bare⟩
theorem Inv.after(I:Inv X pins σ H s)(h:CE X.stack X.prog X.w H s Q u s'):EP X pins σ Q u s':=by
 obtain⟨v,H',os,bare,un,hok,r,q⟩:=h
 obtain⟨hh,g,d,t,os'⟩:=s'
 obtain rfl:os'=s.os:=os
 exact⟨v,H',I.call (h':=hh) (g':=g) (d':=d) (t':=t) (ch:=[]) un hok bare (λb z=>absurd z (by simp)),r,q⟩
end
def nB(sp:Sp)(jR:List V)(E:XK)(t:TA):TE:=λσ H Q=>t σ H λvs H1=>sp (vs++jR) H1 Q E
def vS(C:Addr)(m:Str)(sp:Sp)(jR:List V)(E:XK)(ta:TE)(t:TA):TE:=λσ H Q=>ta σ H λx H1=>∃a dx fs,x=.ref a/\H1 a=some (.ins C dx fs)/\fs.lookup m=none/\
 t σ H1 λvs H2=>sp (x::(vs++jR)) H2 Q E
def WU(C:Addr)(sp:Sp)(jR:List V)(E:XK)(t:TA):TE:=λσ H Q=>t σ H λvs H1=>∀x dx,H1 x=none->H1 dx=none->dx≠x->
 sp (.ref x::(vs++jR)) (upd (upd H1 dx (.own x)) x (.ins C dx [])) (λv H2=>v=.aV/\Q (.ref x) H2) E
def Binds(K:W.Frag)(fd:FuncData)(ps:List Str)(ds:List Value):Prop:=
 ∀(s:Shared) (us:List Value),K.In s.heap->(us++ds).length=ps.length->BindsTo s fd ⟨us,[]⟩ (ps.zip (us++ds))
theorem Binds.all{K:W.Frag}{fd:FuncData}{ps:List Str}(h:∀us:List Value,us.length=ps.length->bindArgs fd ⟨us,[]⟩=pure (ps.zip us)):Binds K fd ps []:=λs us _ hl=>by
 rw[aec]at hl ⊢
 exact .of_eq (h us hl)
def Passes(CX:sD)(X:Cx)(E:XK):Prop:=∀(pins:List (Addr×Obj)) (σ:St) (H:Hp) (s:Shared) (e:Value) (s':Shared),Inv X pins σ H s->CX X.stack H s E e s'->X.xe e s'
section
variable {X:Cx}{CX:sD}{k:Nat}{f C:Addr}{fd:FuncData}{ps:List Str}{sp:Sp}{jR:List V}{ds:List Value}{E:XK}{x m:Str}{p pos apos:Pos}{e o:Expr}{es:List Expr}{ta:TE}{t:TA}
theorem AJ(F:ax X.prog X.w X.K X.mg X.base CX k f fd ps sp)(hr:aN k X.A)(hb:Binds X.K fd ps ds)(hd:Vals jR ds)(hx:Passes CX X E)
 (I:Inv X pins σ H s) (r:Vals vs us) (h:sp (vs++jR) H Q E):wpAny (model X.prog X.w) X.A (call (.ref f) us) (EP X pins σ Q) X.xe s:=by
 have r2:Vals (vs++jR) (us++ds):=r.append hd
 have hl:(us++ds).length=ps.length:=by rw[← r2.length];exact F.len _ _ _ _ h
 refine wpAny_call (agA (F.run X.A X.stack s H ⟨us,[]⟩ (us++ds) (vs++jR) Q E hr I.QK (hb s us I.i8 hl) r2 h) λr s' hq=>?_)
 cases r with
 | error e=>exact hx pins σ H s e s' I hq
 | ok fl=>
  cases fl with
  | ret u=>exact I.after hq
  | next=>exact False.elim hq
  | brk=>exact False.elim hq
  | cont=>exact False.elim hq
theorem dm(F:ax X.prog X.w X.K X.mg X.base CX k f fd ps sp)(hr:aN k X.A)(hg:Gl X x) (hm:X.mg x=some (.ref f)) (hk:W.keepIn X.K (.ref f)=true) (hb:Binds X.K fd ps ds) (hd:Vals jR ds) (hx:Passes CX X E)
 (ha:PA X (e::es) t) (l8:(x == ("__debug__" : Str))=false:=by decide) (he:starEach (e::es) X.env=(false,eval e X.env)::starEach es X.env:=by rfl) (jl:(backTo pos (starEach es X.env)).any (·.1)=false:=by rfl) :
 PE X (.Call (.Name x p) (e::es) [] pos) (nB sp jR E t):=by
 intro pins s σ H Q I h
 refine aey (Eb I hg hm ?_ l8)
 refine W.callWith_K (h₀:=X.base) I.ok.mod.kin hk (aO (ha pos pins s σ H _ I h) λus s1 ⟨vs,H1,I1,r,q⟩=>⟨I1.i8,?_⟩) he jl
 exact AJ F hr hb hd hx I1 r q
theorem Em(he:PE X o ta)(c:jQ X.K C)(hm:Meth X.K C m f)(F:ax X.prog X.w X.K X.mg X.base CX k f fd ps sp)(hr:aN k X.A)(hb:Binds X.K fd ps ds)(hd:Vals jR ds)(hx:Passes CX X E) (ha:PA X (e::es) t)
 (gz:starEach (e::es) X.env=(false,eval e X.env)::starEach es X.env:=by rfl) (jl:(backTo pos (starEach es X.env)).any (·.1)=false:=by rfl)
 (ht:eval (.Call (.Attribute o m apos) (e::es) [] pos) X.env=(do
  let ov ← eval o X.env
  standAt apos.atName
  let (f,first) ← holding [ov] (getMethod ov m pl)
  callWith pos f first (backTo pos (starEach (e::es) X.env)) (backToKw pos (keywordEach [] X.env))):=by rfl) :
 PE X (.Call (.Attribute o m apos) (e::es) [] pos) (vS C m sp jR E ta t):=by
 intro pins s σ H Q I h
 refine agz (pl:=pl) (aO (he pins s σ H _ I h) λu s1 ⟨x,H1,I1,rx,a,dx,fs,ex,ea,l,q⟩=>?_) ht
 subst ex
 obtain rfl:u=Value.ref a:=rx
 refine qB I1 ea c hm l ?_
 refine W.callWith_K (first:=[.ref a]) (h₀:=X.base) I.ok.mod.kin hm.kp (aO (ha pos pins s1 σ H1 _ I1 q) λus s2 ⟨vs,H2,I2,r,q2⟩=>⟨I2.i8,?_⟩) gz jl
 exact AJ (us:=.ref a::us) (vs:=.ref a::vs) F hr hb hd hx I2 (.cons rfl r) q2
theorem AK(he:PE X o ta)(c:jQ X.K C)(hm:Meth X.K C m f)(F:ax X.prog X.w X.K X.mg X.base CX k f fd ps sp)(hr:aN k X.A)(hb:Binds X.K fd ps ds)(hd:Vals jR ds)(hx:Passes CX X E)
 (ht:eval (.Call (.Attribute o m apos) [] [] pos) X.env=(do
  let ov ← eval o X.env
  standAt apos.atName
  let (f,first) ← holding [ov] (getMethod ov m pl)
  callWith pos f first (backTo pos (starEach [] X.env)) (backToKw pos (keywordEach [] X.env))):=by rfl) :
 PE X (.Call (.Attribute o m apos) [] [] pos) (vS C m sp jR E ta j0):=by
 intro pins s σ H Q I h
 refine agz (pl:=pl) (aO (he pins s σ H _ I h) λu s1 ⟨x,H1,I1,rx,a,dx,fs,ex,ea,l,q⟩=>?_) ht
 subst ex
 obtain rfl:u=Value.ref a:=rx
 refine qB I1 ea c hm l ?_
 exact W.callWith_K0 (first:=[.ref a]) I1.i8 hm.kp (AJ (us:=[.ref a]) (vs:=[.ref a]) F hr hb hd hx I1 (.cons rfl .nil) q)
structure Mk(K:W.Frag) (C f:Addr):Prop where
 makes:W.makesIn K C=true
 init:W.findIn K (.ref C) "__init__" = some (some (.ref f))
 fn:W.isFn K (.ref f)=true
 kp:W.keepIn K (.ref C)=true
theorem Li(M:Mk X.K C f)(F:ax X.prog X.w X.K X.mg X.base CX k f fd ps sp) (hr:aN (k+1) X.A) (hb:Binds X.K fd ps ds) (hd:Vals jR ds)
 (hx:Passes CX X E) (I:Inv X pins σ H s) (r:Vals vs us)
 (h:∀x dx,H x=none->H dx=none->dx≠x->sp (.ref x::(vs++jR)) (upd (upd H dx (.own x)) x (.ins C dx [])) (λv H2=>v=.aV/\Q (.ref x) H2) E) :
 wpAny (model X.prog X.w) X.A (call (.ref C) us) (EP X pins σ Q) X.xe s:=by
 have hq:=h (s.heap.objs.size+1) s.heap.objs.size (I.hok.fresh (aen _)) (I.hok.fresh (aaf _)) (aaD (aeT _))
 have I2:=Inv.made (C:=C) I
 have r2:Vals (V.ref (s.heap.objs.size+1)::(vs++jR)) (Value.ref (s.heap.objs.size+1)::(us++ds)):=.cons rfl (r.append hd)
 have hl:(Value.ref (s.heap.objs.size+1)::us++ds).length=ps.length:=by
  have e:=r2.length
  rw[F.len _ _ _ _ hq]at e
  exact e.symm
 refine wpAny_call (Lg (f:=f) I.i8 M.makes M.init (aeY.mp M.fn) (agA (F.run _ X.stack _ _ ⟨Value.ref (s.heap.objs.size+1)::us,[]⟩ (Value.ref (s.heap.objs.size+1)::(us++ds)) _ _ E (hr.make C us [])
  (I2.QK.make C us []) (hb _ (Value.ref (s.heap.objs.size+1)::us) I2.i8 hl) r2 hq) λr s' AL=>?_))
 cases r with
 | error e=>exact hx pins σ _ _ e s' I2 AL
 | ok fl=>
  cases fl with
  | ret u=>
   obtain⟨v,H',I3,rv,ev,q3⟩:=I2.after AL
   subst ev
   exact⟨rv,⟨V.ref (s.heap.objs.size+1),H',I3,rfl,q3⟩⟩
  | next=>exact False.elim AL
  | brk=>exact False.elim AL
  | cont=>exact False.elim AL
theorem ub(M:Mk X.K C f)(F:ax X.prog X.w X.K X.mg X.base CX k f fd ps sp) (hr:aN (k+1) X.A) (hg:Gl X x) (hm:X.mg x=some (.ref C)) (hb:Binds X.K fd ps ds) (hd:Vals jR ds) (hx:Passes CX X E)
 (ha:PA X (e::es) t) (l8:(x == ("__debug__" : Str))=false:=by decide) (he:starEach (e::es) X.env=(false,eval e X.env)::starEach es X.env:=by rfl) (jl:(backTo pos (starEach es X.env)).any (·.1)=false:=by rfl) :
 PE X (.Call (.Name x p) (e::es) [] pos) (WU C sp jR E t):=by
 intro pins s σ H Q I h
 refine aey (Eb I hg hm ?_ l8)
 refine W.callWith_K (h₀:=X.base) I.ok.mod.kin M.kp (aO (ha pos pins s σ H _ I h) λus s1 ⟨vs,H1,I1,r,q⟩=>⟨I1.i8,?_⟩) he jl
 exact Li M F hr hb hd hx I1 r q
end
section
variable {X:Cx}{CX:sD}{k:Nat}{f C:Addr}{fd:FuncData}{ps ks:List Str}{sp:Sp}{E:XK}{x m:Str}{p pos apos aij:Pos}{e o:Expr}{es:List Expr}{kws:List Keyword}{te ta:TE}{t tk:TA}{nm:Option Str}
variable {g:List Value->List Value->List Value}{gV:List V->List V->List V}
end
structure aJ(N P:List Str) (sc:Scope):Prop where
 kind:sc.kind=.function
 co:sc.isCoroutine=false
 gen:sc.isGenerator=false
 nd:N.Nodup
 pre:N.take P.length=P
 par:∀x∈P,sc.names.lookup x=some .local\/sc.names.lookup x=some .cell
 nofree:∀y∈sc.names,y.2≠.free
theorem yJ{kindOf:Str->Option NameKind}{x:Str} : ∀{binds:List (Str×Value)}{m:Str->Option Value},(∀v,(x,v)∉binds)->bindL kindOf binds m x=m x
 | [],_,_=>rfl
 | (n,v)::r,m,h=>by
  unfold bindL
  rw[yJ λw hw=>h w (aav _ hw)]
  split
  . have:x≠n:=by rintro rfl;exact h v aas
    simp[this]
  . rfl
theorem yK{kindOf:Str->Option NameKind}{x:Str} : ∀{binds:List (Str×Value)}{m:Str->Option Value},(∀v,(x,v)∉binds)->bindC kindOf binds m x=m x
 | [],_,_=>rfl
 | (n,v)::r,m,h=>by
  unfold bindC
  rw[yK λw hw=>h w (aav _ hw)]
  split
  . rfl
  . have:x≠n:=by rintro rfl;exact h v aas
    simp[this]
theorem yL{kindOf:Str->Option NameKind}{x:Str}{v:Value} : ∀{P:List Str}{vs:List Value}{i:Nat}{m:Str->Option Value},P.Nodup->P[i]?=some x->vs[i]?=some v->kindOf x=some .local->
 bindL kindOf (P.zip vs) m x=some v
 | [],_,_,_,_,h,_,_=>by simp at h
 | _::_,[],_,_,_,_,h,_=>by simp at h
 | p::P,w::vs,0,m,nd,h1,h2,hk=>by
  simp at h1 h2;subst h1;subst h2
  show bindL kindOf ((p,w)::P.zip vs) m p=_
  unfold bindL
  rw[yJ λv hv=>(aaP.mp nd).1 (afA hv).1,aaF hk]
  simp
 | p::P,w::vs,i+1,m,nd,h1,h2,hk=>by
  show bindL kindOf ((p,w)::P.zip vs) m x=_
  unfold bindL
  exact yL (i:=i) (aaP.mp nd).2 (by simpa using h1) (by simpa using h2) hk
theorem yM{kindOf:Str->Option NameKind}{x:Str}{v:Value} : ∀{P:List Str}{vs:List Value}{i:Nat}{m:Str->Option Value},P.Nodup->P[i]?=some x->vs[i]?=some v->kindOf x≠some .local->
 bindC kindOf (P.zip vs) m x=some v
 | [],_,_,_,_,h,_,_=>by simp at h
 | _::_,[],_,_,_,_,h,_=>by simp at h
 | p::P,w::vs,0,m,nd,h1,h2,hk=>by
  simp at h1 h2;subst h1;subst h2
  show bindC kindOf ((p,w)::P.zip vs) m p=_
  unfold bindC
  rw[yK λv hv=>(aaP.mp nd).1 (afA hv).1,aaz hk]
  simp
 | p::P,w::vs,i+1,m,nd,h1,h2,hk=>by
  show bindC kindOf ((p,w)::P.zip vs) m x=_
  unfold bindC
  exact yM (i:=i) (aaP.mp nd).2 (by simpa using h1) (by simpa using h2) hk
def start(N:List Str)(vs:List V):St:=vs.map some++List.replicate (N.length-vs.length) none
def pD(CX:sD)(P:Program)(w:World)(K:W.Frag)(mg:Str->Option Value)(base:Heap)(N:List Str)(qual:Str)(scope:Scope)(f:Addr)(cd:Value)(A:Around)(outer:List Env)(s:Shared)(H:Hp)(E:XK):Cx where
 prog:=P
 w:=w
 K:=K
 mg:=mg
 base:=base
 A:=A.deeper (envOfC qual scope s.heap.objs.size f cd)
 N:=N
 nz:=s
 FJ:=H
 env:=envOfC qual scope s.heap.objs.size f cd
 outer:=outer
 stack:=envOfC qual scope s.heap.objs.size f cd::outer
 ex:=[]
 calm:=true
 fn:=λ_=>true
 pn:=[]
 xe:=λe s'=>wpAny (model P w) (A.deeper (envOfC qual scope s.heap.objs.size f cd)) (leaving (envOfC qual scope s.heap.objs.size f cd) e) (λ_ Iz=>CX outer H s E e Iz) (λe' Iz=>CX outer H s E e' Iz) s'
theorem AM{sc:Scope}{n:Nat}{x:Str}(h:sc.names.lookup x=some .cell):∃c,(cellsFrom n sc.names []).lookup x=some c:=by
 have q:=W.cellsFrom_some sc.names n [] (.inl h)
 exact afV.mp q
theorem IA{CX:sD}{P:Program}{w:World}{K:W.Frag}{mg:Str->Option Value}{base:Heap}{N ps:List Str}{qual:Str}{scope:Scope}{f:Addr}{cd:Value}{A:Around}{outer:List Env}{s s1:Shared}{H:Hp}{E:XK}{us:List Value}{vs:List V}
 (S:aJ N ps scope) (hd:A.handled=none) (e0:pC P w K mg base A outer s H) (hl:vs.length=ps.length) (r:Vals vs us)
 (x:InCallC s s.heap.objs.size (bindL (envOfC qual scope s.heap.objs.size f cd).kindOf (ps.zip us) λ_=>none) (cellsFrom (s.heap.objs.size+1) scope.names []) (bindC (envOfC qual scope s.heap.objs.size f cd).kindOf (ps.zip us) λ_=>none) s1) :
 Inv (pD CX P w K mg base N qual scope f cd A outer s H E) [] (start N vs) H s1:=by
 have jl:ps.length<=N.length:=by have:=congrArg List.length S.pre;rw[aaG]at this;lia
 obtain⟨h1,tk,rfl,hk⟩:=x.done
 have IB:∀b:Addr,b∉(pD CX P w K mg base N qual scope f cd A outer s H E).ex:=λb z=>absurd (show b∈([]:List Addr) from z) (by simp)
 refine⟨⟨e0.mod,S.kind,rfl,rfl,aaf _,λy z c h1 h2=>?_,λy hy=>?_,λy c _ h=>?_,λ_=>hd,Around.frames_deeper e0.frames,.inr ⟨rfl,rfl⟩,λb z=>absurd z (IB b),e0.bs,e0.bsz,λb _ _=>IB b,λb z=>absurd z (IB b),e0.lB,e0.frf⟩,
  rfl,e0.bare,Un.kept hk,⟨_,x.toInCall.ns,λi y v h1 h2 h3=>?_⟩,λy c h=>⟨_,x.cell y c h⟩,e0.hok.fresh (aaf _),λy c h=>?_,λp hp=>absurd (show p∈([]:List (Addr×Obj)) from hp) (by simp),e0.hok.kept hk,?_⟩
 . exact name_of_addr x.apart (aeo h1) (aeo h2)
 . have hy:scope.names.lookup y=some .cell\/scope.names.lookup y=some .free:=hy
   rcases hy with hy|hy
   . exact AM hy
   . exact absurd rfl (S.nofree _ (aeo hy))
 . exact ael (x.above y c (aeo h))
 . have hi:i<vs.length:=by
    unfold start at h2
    by_cases hi:i<vs.length
    . exact hi
    . rw[adF (by simpa using hi)]at h2
      rw[List.getElem?_replicate]at h2
      split at h2 <;> cases h2
   have ha:vs[i]?=some v:=by
    unfold start at h2
    rw[adI (by simpa using hi),aae]at h2
    cases e:vs[i]? with
    | none=>rw[e]at h2;cases h2
    | some a=>rw[e]at h2;cases h2;rfl
   obtain⟨u,hu,rv⟩:=r.get ha
   have hp:ps[i]?=some y:=by
    rw[← S.pre,afW (by lia)];exact h1
   have X0:ps.Nodup:=by rw[← S.pre];exact S.nd.sublist (List.take_sublist _ _)
   refine⟨u,rv,?_⟩
   rcases S.par y (aaK hp) with k|k
   . exact .inl ⟨k,yL X0 hp hu k⟩
   . obtain⟨c,e⟩:=AM (n:=s.heap.objs.size+1) k
     refine .inr ⟨.inl k,c,e,?_⟩
     have q:=x.cell y c e
     rw[yM X0 hp hu (by show scope.names.lookup y≠_;rw[k];decide)]at q
     exact q
 . exact e0.hok.fresh (ael (x.above y c (aeo h)))
 . unfold start
   show _=N.length
   rw[aag,aaa,List.length_replicate]
   lia
theorem WV{CX:sD}{P:Program}{w:World}{K:W.Frag}{mg:Str->Option Value}{base:Heap}{k:Nat}{f:Addr}{name qual:Str}{params:Arguments}{body:List Stmt}{scope:Scope}{dV kV doc pm cdv ct oc:Value}{an od:Option Addr}
 {yN:Array (Option Value)}{N ps:List Str}{sp:Sp}(lk:K.lookup f=some ⟨oc,od,.func (W.fnOf name qual params body scope dV kV doc pm an cdv ct),yN⟩) (sv:W.codeIn K cdv qual=true) (S:aJ N ps scope)
 (len:∀vs H Q E,sp vs H Q E->vs.length=ps.length)
 (vT:∀(A:Around) (outer:List Env) (s:Shared) (H:Hp) (vs:List V) (Q:VK) (E:XK),aN k (A.deeper (envOfC qual scope s.heap.objs.size f cdv))->sp vs H Q E->
  ∃t,jO (pD CX P w K mg base N qual scope f cdv A outer s H E) body t/\t {nx:=λ_ H'=>Q .aV H',rt:=Q} (start N vs) H) :
 ax P w K mg base CX (k+1) f (W.fnOf name qual params body scope dV kV doc pm an cdv ct) ps sp:=by
 refine⟨len,λA outer s H args us vs Q E hr e0 hb r rH=>?_⟩
 have hl:=len _ _ _ _ rH
 have KX:K.In s.heap:=e0.mod.kin.keeps λb o e=>(e0.bs b o e).1
 have lim:s.heap.NoLimit:=e0.mod.nolimit.keeps λb o e=>(e0.bs b o e).1
 have WW:∀y∈ps.zip us,scope.names.lookup y.1=some .local\/(scope.names.lookup y.1=some .cell/\((cellsFrom (s.heap.objs.size+1) scope.names []).lookup y.1).isSome=true):=λ⟨n,v⟩ hy=>by
  rcases S.par n (afA hy).1 with q|q
  . exact .inl q
  . exact .inr ⟨q,W.cellsFrom_some _ _ _ (.inl q)⟩
 refine codeAny_call_function hr.depth (KX _ _ lk) rfl S.co S.gen rfl (W.codeRec_of KX sv) (hb _ _ _ _ ?_)
 refine wpAny_newFunctionEnv_cells S.kind WW λenv he s1 x=>?_
 subst he
 refine⟨lim.keeps x.toInCall.keep,codeAny_func ?_⟩
 obtain⟨t,ht,hq⟩:=vT A outer s H vs Q E (hr.deeper _) rH
 have I:Inv (pD CX P w K mg base N qual scope f cdv A outer s H E) [] (start N vs) H s1:=IA S hr.hd e0 hl r x
 refine aef (ht [] s1 (start N vs) H _ I hq) (λfl s' hs=>?_) λe s' hs=>hs
 have fin:∀{cm:St}{H':Hp}{v:V}{u:Value},Inv (pD CX P w K mg base N qual scope f cdv A outer s H E) [] cm H' s'->RelV v u->Q v H'->CE outer P w H s Q u s':=
  λ{cm H' v u} J rv q=>⟨v,H',J.os,J.bare,J.base,J.hok,rv,q⟩
 cases fl with
 | ret u=>
  obtain⟨v,cm,H',J,rv,q⟩:=hs
  exact fin J rv q
 | next=>
  obtain⟨cm,H',J,q⟩:=hs
  exact fin (v:=V.aV) (u:=Value.none) J rfl q
 | brk=>
  obtain⟨_,_,_,q⟩:=hs
  exact False.elim q
 | cont=>
  obtain⟨_,_,_,q⟩:=hs
  exact False.elim q
section
variable {X:Cx}{x:Str}{p pos:Pos}{e:Expr}{es:List Expr}{t:TA}{id T:String}{r:List V->Hp->VK->Prop}
def X1(r:List V->Hp->VK->Prop)(t:TA):TE:=λσ H Q=>t σ H λvs H1=>r vs H1 Q
theorem bf(hc:i0 X (.builtin id) r) (hg:Gl X x) (hm:X.mg x=none) (hv:bootBuiltins x=some (.builtin id)) (ha:PA X (e::es) t) (hn:x ≠ "__name__":=by decide) (l8:(x == ("__debug__" : Str))=false:=by decide)
 (he:starEach (e::es) X.env=(false,eval e X.env)::starEach es X.env:=by rfl) (jl:(backTo pos (starEach es X.env)).any (·.1)=false:=by rfl):PE X (.Call (.Name x p) (e::es) [] pos) (X1 r t):=by
 intro pins s σ H Q I h
 refine aey (jP I hg hm hv ?_ hn l8)
 exact PyProof.Rows.callWith_builtin1 (aO (ha pos pins s σ H _ I h) λus s1 ⟨vs,H1,I1,r1,q1⟩=>hc pins s1 σ H1 vs us Q I1 r1 q1) he jl
theorem bK(hc:i0 X (.type T) r) (hg:Gl X x) (hm:X.mg x=none) (hv:bootBuiltins x=some (.type T)) (ha:PA X (e::es) t) (hn:x ≠ "__name__":=by decide) (l8:(x == ("__debug__" : Str))=false:=by decide)
 (he:starEach (e::es) X.env=(false,eval e X.env)::starEach es X.env:=by rfl) (jl:(backTo pos (starEach es X.env)).any (·.1)=false:=by rfl):PE X (.Call (.Name x p) (e::es) [] pos) (X1 r t):=by
 intro pins s σ H Q I h
 refine aey (jP I hg hm hv ?_ hn l8)
 exact adk (aO (ha pos pins s σ H _ I h) λus s1 ⟨vs,H1,I1,r1,q1⟩=>hc pins s1 σ H1 vs us Q I1 r1 q1) he jl
end
section
variable {κ:Type}[DecidableEq κ]
def aG(kvs:List (κ×V)) (k:κ):Option V:=(kvs.find? λkv=>decide (kv.1=k)).map (·.2)
def putK(kvs:List (κ×V)) (k:κ) (v:V):List (κ×V):=
 if (kvs.any λkv=>decide (kv.1=k))=true then kvs.map (λkv=>if kv.1=k then (kv.1,v) else kv) else kvs++[(k,v)]
def Nk(kvs:List (κ×V)) (k:κ):List (κ×V):=kvs.filter λkv=>decide (kv.1≠k)
theorem cZ{p:κ×V}{r:List (κ×V)}{k:κ}(e:p.1=k):aG (p::r) k=some p.2:=by simp[aG,aeB,e]
theorem cz{p:κ×V}{r:List (κ×V)}{k:κ}(e:¬ p.1=k):aG (p::r) k=aG r k:=by simp[aG,aeB,e]
theorem lG(k:κ):∀kvs:List (κ×V),(kvs.any λkv=>decide (kv.1=k))=(aG kvs k).isSome
 | []=>rfl
 | p::r=>by
  rw[ad8]
  by_cases e:p.1=k
  . simp only[cZ e,aaN e,Bool.true_or,ag5]
  . rw[cz e,aaH e,Bool.false_or];exact lG k r
theorem AN(k j:κ)(y:V):∀kvs:List (κ×V),aG (kvs.map λkv=>if kv.1=k then (kv.1,y) else kv) j=(aG kvs j).map λx=>if j=k then y else x
 | []=>rfl
 | p::r=>by
  have ih:=AN k j y r
  rw[aaB]
  by_cases h:p.1=k
  . rw[aaF h]
    by_cases e:p.1=j
    . rw[cZ (p:=(p.1,y)) e,cZ e,adQ,aaF (e.symm.trans h)]
    . rw[cz (p:=(p.1,y)) e,cz e,ih]
  . rw[aaz h]
    by_cases e:p.1=j
    . rw[cZ (p:=p) e,cZ e,adQ,aaz (λz=>h (e.trans z))]
    . rw[cz (p:=p) e,cz e,ih]
theorem me(k j:κ)(y:V):∀kvs:List (κ×V),aG kvs k=none->aG (kvs++[(k,y)]) j=if j=k then some y else aG kvs j
 | [],_=>by
  by_cases e:k=j
  . rw[aaF e.symm];exact cZ (p:=(k,y)) e
  . rw[aaz (λz=>e z.symm)];exact cz (p:=(k,y)) e
 | p::r,hn=>by
  rw[aeq]
  have hk:¬ p.1=k:=λz=>by rw[cZ z]at hn;cases hn
  rw[cz hk]at hn
  have ih:=me k j y r hn
  by_cases e:p.1=j
  . rw[cZ e,cZ e,aaz (λz=>hk (e.trans z))]
  . rw[cz e,cz e,ih]
theorem gJ(kvs:List (κ×V)) (k j:κ) (y:V):aG (putK kvs k y) j=if j=k then some y else aG kvs j:=by
 unfold putK
 by_cases a:(kvs.any λkv=>decide (kv.1=k))=true
 . rw[aaF a,AN]
   rw[lG]at a
   by_cases e:j=k
   . obtain⟨x,hx⟩:=afV.mp a
     rw[aaF e,e,hx,adQ,aaF rfl]
   . rw[aaz e]
     cases aG kvs j with
     | none=>rfl
     | some x=>rw[adQ,aaz e]
 . rw[aaz a]
   refine me k j y kvs ?_
   rw[lG]at a
   cases q:aG kvs k with
   | none=>rfl
   | some x=>rw[q]at a;exact(a rfl).elim
theorem fh(kvs:List (κ×V)) (k:κ) (v:V):(putK kvs k v).length<=kvs.length+1:=by
 unfold putK
 split
 . rw[aaa];lia
 . rw[aag,aaA,aeC];lia
theorem i5{kvs:List (κ×V)}{k:κ}(v:V) (h:aG kvs k=none):putK kvs k v=kvs++[(k,v)]:=by
 unfold putK
 rw[lG,h]
 exact aaz (by decide)
theorem ji.mh(r:ji o u):o.isSome=u.isSome:=by
 cases o with
 | none=>cases u with
  | none=>rfl
  | some _=>exact(show False from r).elim
 | some _=>cases u with
  | none=>exact(show False from r).elim
  | some _=>rfl
theorem ji.getD{o:Option V}{u:Option Value}{d:V}{d':Value}(r:ji o u)(rd:RelV d d'):RelV (o.getD d) (u.getD d'):=by
 cases o with
 | none=>cases u with
  | none=>exact rd
  | some _=>exact(show False from r).elim
 | some _=>cases u with
  | none=>exact(show False from r).elim
  | some _=>exact r
theorem KV.val{kvs:List (κ×V)}{vs:List (κ×Value)}(r:KV kvs vs) (k:κ):ji (aG kvs k) (valueAt vs k):=by
 unfold KV at r
 induction r with
 | nil=>exact True.intro
 | @cons p q ps qs h t ih=>
  obtain⟨h1,h2⟩:=h
  by_cases e:p.1=k
  . have e':q.1=k:=h1.symm.trans e
    have b:valueAt (q::qs) k=some q.2:=by simp[valueAt,aeB,e']
    rw[cZ e,b];exact h2
  . have e':¬ q.1=k:=λz=>e (h1.trans z)
    have b:valueAt (q::qs) k=valueAt qs k:=by simp[valueAt,aeB,e']
    rw[cz e,b];exact ih
theorem KV.any(r:KV kvs vs)(k:κ):(kvs.any λkv=>decide (kv.1=k))=vs.any λkv=>decide (kv.1=k):=by
 unfold KV at r
 induction r with
 | nil=>rfl
 | cons h t ih=>rw[ad8,ad8,ih,h.1]
theorem KV.Lj(r:KV kvs vs)(k:κ)(ry:RelV y u) :
 KV (kvs.map λkv=>if kv.1=k then (kv.1,y) else kv) (vs.map λkv=>if kv.1=k then (kv.1,u) else kv):=by
 unfold KV at r ⊢
 induction r with
 | nil=>exact .nil
 | @cons p q ps qs h t ih=>
  rw[aaB,aaB]
  refine .cons ?_ ih
  obtain⟨h1,h2⟩:=h
  by_cases e:p.1=k
  . rw[aaF e,aaF (h1.symm.trans e)];exact⟨h1,ry⟩
  . rw[aaz e,aaz (λz=>e (h1.trans z))];exact⟨h1,h2⟩
theorem KV.put(r:KV kvs vs)(k:κ)(ry:RelV y u):KV (putK kvs k y) (stored vs k u):=by
 unfold putK stored
 rw[r.any k]
 by_cases e:(vs.any λkv=>decide (kv.1=k))=true
 . rw[aaF e,aaF e];exact r.Lj k ry
 . rw[aaz e,aaz e];exact agU r ⟨rfl,ry⟩
theorem KV.drop{kvs:List (κ×V)}{vs:List (κ×Value)}(r:KV kvs vs) (k:κ):KV (Nk kvs k) (without vs k):=by
 unfold KV at r ⊢
 unfold Nk without
 induction r with
 | nil=>exact .nil
 | @cons p q ps qs h t ih=>
  obtain⟨h1,h2⟩:=h
  rw[afs,afs]
  by_cases e:p.1=k
  . have a:¬ decide (p.1≠k)=true:=by simp[e]
    have b:¬ decide (q.1≠k)=true:=by simp[h1.symm.trans e]
    rw[aaz a,aaz b];exact ih
  . have e':¬ q.1=k:=λz=>e (h1.trans z)
    have a:decide (p.1≠k)=true:=by simp[e]
    have b:decide (q.1≠k)=true:=by simp[e']
    rw[aaF a,aaF b];exact .cons ⟨h1,h2⟩ ih
theorem KV.length{kvs:List (κ×V)}{vs:List (κ×Value)}(r:KV kvs vs):kvs.length=vs.length:=ag1 r
end
theorem nE(r:RelV (kV k) u):(bj P w).is k u=true:=by
 cases k with
 | inl i=>obtain⟨t,e⟩:=(show ∃t,u=Value.int i t from r);subst e;exact DP P w i t
 | inr x=>obtain⟨t,e⟩:=(show ∃t,u=Value.str x t from r);subst e;exact DQ P w x t
theorem yO:∀{ks:List Key}{us:List Value},Vals (ks.map kV) us->ItemsAre (bj P w) ks us
 | [],_,r=>by rw[ad5]at r;cases r;exact .nil
 | k::ks,_,r=>by
  rw[aaB]at r
  cases r with
  | cons h t=>exact .cons (nE h) (yO t)
abbrev KT(H:Hp):List (List Key×V)->List (List Key×Addr×Value)->Prop:=Paired λp q=>p.1=q.1/\H q.2.1=some (.tup (p.1.map kV))/\RelV p.2 q.2.2
theorem KT.val{H:Hp}{kvs:List (List Key×V)}{xs:List (List Key×Addr×Value)}(r:KT H kvs xs) (k:List Key):ji (aG kvs k) ((atKey xs k).map (·.2)):=by
 induction r with
 | nil=>exact True.intro
 | @cons p q ps qs h t ih=>
  obtain⟨h1,_,h2⟩:=h
  by_cases e:p.1=k
  . have e':q.1=k:=h1.symm.trans e
    have b:atKey (q::qs) k=some q.2:=by simp[atKey,aeB,e']
    rw[cZ e,b];exact h2
  . have e':¬ q.1=k:=λz=>e (h1.trans z)
    have b:atKey (q::qs) k=atKey qs k:=by simp[atKey,aeB,e']
    rw[cz e,b];exact ih
theorem KT.Lj(r:KT H kvs xs)(k:List Key)(ry:RelV y u) :
 KT H (kvs.map λkv=>if kv.1=k then (kv.1,y) else kv) (xs.map (putAt k u)):=by
 induction r with
 | nil=>exact .nil
 | @cons p q ps qs h t ih=>
  rw[aaB,aaB]
  refine .cons ?_ ih
  obtain⟨h1,h2,h3⟩:=h
  unfold putAt
  by_cases e:p.1=k
  . rw[aaF e,aaF (h1.symm.trans e)];exact⟨h1,h2,ry⟩
  . rw[aaz e,aaz (λz=>e (h1.trans z))];exact⟨h1,h2,h3⟩
theorem KT.put(r:KT H kvs xs)(k:List Key) (hb:H b=some (.tup (k.map kV))) (ry:RelV y u) :
 KT H (putK kvs k y) (storedH xs k b u):=by
 have e:(kvs.any λkv=>decide (kv.1=k))=(atKey xs k).isSome:=by
  rw[lG,(r.val k).mh,afX]
 unfold putK storedH
 rw[e]
 by_cases q:(atKey xs k).isSome=true
 . rw[aaF q,aaF q];exact r.Lj k ry
 . rw[aaz q,aaz q];exact agU r ⟨rfl,hb,ry⟩
theorem KT.keeps(r:KT H kvs xs) (ht:∀b ys,H b=some (.tup ys)->H' b=some (.tup ys)):KT H' kvs xs:=
 Paired.cw r λ_ _ z=>⟨z.1,ht _ _ z.2.1,z.2.2⟩
section
variable {P:Program}{w:World}{H:Hp}{h:Heap}{a:Addr}
theorem Nl(ok:gu P w H h)(e:Rd H a u):bU P w H h a u:=e.ok ok
theorem kJ(ok:gu P w H h) (e:Rd H a (.dK kvs)):kvs.length<=sizeLine/\(a == sysModules)=false/\∃vs,KV kvs vs/\h.DictOf (bj P w) a vs:=
 show bU P w H h a (.dK kvs) from Nl ok e
theorem uc(ok:gu P w H h) (e:H a=some (.dK kvs)):kvs.length<=sizeLine/\(a == sysModules)=false/\∃vs,KV kvs vs/\h.DictOf (bj P w) a vs:=kJ ok (.inl e)
theorem og(ok:gu P w H h) (e:H a=some (.tup (ks.map kV))):(tupleKind (bj P w)).is h ks a:=by
 obtain⟨_,its,r,o,h1,h2,n,h3⟩:=(show bU P w H h a (.tup (ks.map kV)) from ok a _ e)
 exact⟨o,its.toArray,n,h1,h2,h3,by simpa using yO r⟩
theorem oX(ok:gu P w H h) (e:Rd H a (.dT kvs)):kvs.length<=sizeLine/\(a == sysModules)=false/\
 ∃xs,KT H kvs xs/\h.DictOfH (tupleKind (bj P w)) a xs:=by
 obtain⟨z,y,xs,r,o,es,ep,h1,h2,h3,h4,h5⟩:=(show bU P w H h a (.dT kvs) from Nl ok e)
 refine⟨z,y,xs,r,o,es,ep,h1,h2,h3,h4,λx hx=>?_,h5⟩
 have all:∀{l:List (List Key×V)}{m:List (List Key×Addr×Value)},KT H l m->∀x∈m,(tupleKind (bj P w)).is h x.1 x.2.1:=by
  intro l m q
  induction q with
  | nil=>intro x hx;exact nomatch hx
  | @cons p q ps qs hq t ih=>
   intro x hx
   rcases aaj.mp hx with e|hx
   . subst e
     exact og ok (by rw[← hq.1];exact hq.2.1)
   . exact ih x hx
 exact all r x hx
theorem WX(ok:gu P w H h) (e:H a=some (.dT kvs)):kvs.length<=sizeLine/\(a == sysModules)=false/\
 ∃xs,KT H kvs xs/\h.DictOfH (tupleKind (bj P w)) a xs:=oX ok (.inl e)
end
def bq(H:Hp)(a:Addr)(y:V)(r:Option V):Prop:=
 (∃kvs k,Rd H a (.dK kvs)/\y=kV k/\r=aG kvs k)\/∃kvs k b,Rd H a (.dT kvs)/\y=.ref b/\H b=some (.tup (k.map kV))/\r=aG kvs k
def gh(H:Hp)(a:Addr)(y v:V)(H':Hp):Prop:=
 (∃kvs k,H a=some (.dK kvs)/\y=kV k/\kvs.length<sizeLine/\H'=upd H a (.dK (putK kvs k v)))\/
 ∃kvs k b,H a=some (.dT kvs)/\y=.ref b/\H b=some (.tup (k.map kV))/\kvs.length<sizeLine/\H'=upd H a (.dT (putK kvs k v))
theorem bq.k{H:Hp}{a:Addr}{kvs:List (Key×V)}{k:Key}(e:H a=some (.dK kvs)):bq H a (kV k) (aG kvs k):=.inl ⟨kvs,k,.inl e,rfl,rfl⟩
theorem bq.t{H:Hp}{a b:Addr}{kvs:List (List Key×V)}{k:List Key}(e:H a=some (.dT kvs)) (eb:H b=some (.tup (k.map kV))):bq H a (.ref b) (aG kvs k):=.inr ⟨kvs,k,b,.inl e,rfl,eb,rfl⟩
theorem gh.k{H:Hp}{a:Addr}{kvs:List (Key×V)}{k:Key}{v:V}(e:H a=some (.dK kvs)) (hl:kvs.length<sizeLine):gh H a (kV k) v (upd H a (.dK (putK kvs k v))):=.inl ⟨kvs,k,e,rfl,hl,rfl⟩
theorem gh.t{H:Hp}{a b:Addr}{kvs:List (List Key×V)}{k:List Key}{v:V}(e:H a=some (.dT kvs)) (eb:H b=some (.tup (k.map kV))) (hl:kvs.length<sizeLine) :
 gh H a (.ref b) v (upd H a (.dT (putK kvs k v))):=.inr ⟨kvs,k,b,e,rfl,eb,hl,rfl⟩
section
variable {X:Cx}{pins:List (Addr×Obj)}{σ:St}{H:Hp}{s:Shared}{a:Addr}{y v:V}{u r:Value}{o:Option V}{A:Around}{E:Value->Shared->Prop}
theorem Inv.big(I:Inv X pins σ H s):sysModules<s.heap.objs.size:=by
 have h:mainGlobals<s.heap.objs.size:=(I.mod.glob.keeps I.bk).lt
 exact agB (by decide) h
theorem IC(hu:A.units+1<cLine)(I:Inv X pins σ H s) (g:bq H a y (some v)) (ry:RelV y u) (h:∀w' s',Inv X pins σ H s'->RelV v w'->Q w' s') :
 wpAny (model X.prog X.w) A (getItem (.ref a) u) Q E s:=by
 rcases g with⟨kvs,k,e,ey,l⟩|⟨kvs,k,b,e,ey,eb,l⟩
 . subst ey
   obtain⟨z,hd,vs,rel,dd⟩:=kJ I.hok e
   obtain⟨w',hw,mj⟩:=ji.some_of (v:=v) (o:=valueAt vs k) (by rw[l];exact rel.val k)
   exact wpAny_getItem_of (nE ry) dd.mapOf hw (h w' _ (I.tok _) mj)
 . subst ey
   cases(show u=Value.ref b from ry)
   obtain⟨z,hd,xs,rel,dd⟩:=oX I.hok e
   obtain⟨w',hw,mj⟩:=ji.some_of (v:=v) (o:=(atKey xs k).map (·.2)) (by rw[l];exact rel.val k)
   obtain⟨p,hp,gr⟩:=afc.mp hw
   refine wpAny_getItem_heap (aeg hu) (og I.hok eb) dd hp ?_
   rw[gr]
   exact h w' _ (I.tok _) mj
theorem aba(hu:A.units+1<cLine)(I:Inv X pins σ H s)(g:bq H a y o)(ry:RelV y u) (h:∀s',Inv X pins σ H s'->Q (.bool o.isSome) s') :
 wpAny (model X.prog X.w) A (compareOp .In u (.ref a)) Q E s:=by
 rcases g with⟨kvs,k,e,ey,l⟩|⟨kvs,k,b,e,ey,eb,l⟩
 . subst ey
   obtain⟨z,hd,vs,rel,dd⟩:=kJ I.hok e
   refine wpAny_in_of (nE ry) hd dd.mapOf ?_
   rw[← (rel.val k).mh,← l]
   exact h _ (I.tok _)
 . subst ey
   cases(show u=Value.ref b from ry)
   obtain⟨z,hd,xs,rel,dd⟩:=oX I.hok e
   refine wpAny_in_heap (aeg hu) (og I.hok eb) hd dd ?_
   have q:=(rel.val k).mh
   rw[afX]at q
   rw[← q,← l]
   exact h _ (I.tok _)
theorem O8(hu:A.units+1<cLine)(I:Inv X pins σ H s)(g:bq H a y o)(ry:RelV y u) (h:∀s',Inv X pins σ H s'->Q (.bool (!o.isSome)) s') :
 wpAny (model X.prog X.w) A (compareOp .NotIn u (.ref a)) Q E s:=by
 rcases g with⟨kvs,k,e,ey,l⟩|⟨kvs,k,b,e,ey,eb,l⟩
 . subst ey
   obtain⟨z,hd,vs,rel,dd⟩:=kJ I.hok e
   refine wpAny_notIn_of (nE ry) hd dd.mapOf ?_
   rw[← (rel.val k).mh,← l]
   exact h _ (I.tok _)
 . subst ey
   cases(show u=Value.ref b from ry)
   obtain⟨z,hd,xs,rel,dd⟩:=oX I.hok e
   refine wpAny_notIn_heap (aeg hu) (og I.hok eb) hd dd ?_
   have q:=(rel.val k).mh
   rw[afX]at q
   rw[← q,← l]
   exact h _ (I.tok _)
theorem ud(I:Inv X pins σ H s) (mu:Ib (H a)) (hs:Heap.SameBut a s.heap h') (he:∃q,h'.get? a=some q) (new:bU X.prog X.w (upd H a ob) h' a ob) :
 Inv X pins σ (upd H a ob) {s with heap:=h',toks:=t'} :=
 I.write (x:=a) (e:=a) mu (.inl rfl) (λb q hb z=>(hs.2 b hb).trans z) he new
theorem pM(z:kvs.length<=sizeLine) (hd:(a == sysModules)=false) (rel:KV kvs vs) (dd:h'.DictOf (bj P w) a vs) :
 bU P w H' h' a (.dK kvs):=⟨z,hd,vs,rel,dd⟩
theorem ID(hu:A.units+1<cLine)(I:Inv X pins σ H s)(g:gh H a y v H')(ry:RelV y u)(rv:RelV v r) (h:∀s',Inv X pins σ H' s'->Q () s') :
 wpAny (model X.prog X.w) A (setItem (.ref a) u r) Q E s:=by
 rcases g with⟨kvs,k,e,ey,l,eH⟩|⟨kvs,k,b,e,ey,eb,l,eH⟩
 . subst ey eH
   obtain⟨z,hd,vs,rel,dd⟩:=uc I.hok e
   have hz:vs.length<=sizeLine:=by rw[← rel.length];exact z
   have hl:(putK kvs k v).length<=sizeLine:=by have:=fh kvs k v;lia
   refine wpAny_setItem_pairs (hsz:=hz) (nE ry) dd λh' rJ hs=>h _ ?_
   have he:∃q,h'.get? a=some q:=let ⟨q,_,_,hq,_⟩:=rJ; ⟨q,hq⟩
   exact ud I (by rw[e];exact True.intro) hs he (pM hl hd (rel.put k rv) rJ)
 . subst ey eH
   cases(show u=Value.ref b from ry)
   obtain⟨z,hd,xs,rel,dd⟩:=WX I.hok e
   have hz:xs.length<=sizeLine:=by rw[← ag1 rel];exact z
   have hl:(putK kvs k v).length<=sizeLine:=by have:=fh kvs k v;lia
   refine wpAny_setItem_heap (hsz:=hz) (aeg hu) (og I.hok eb) dd λh' rJ hs=>h _ ?_
   obtain⟨q,es,ep,hq,h2,h3,h4,_,h5⟩:=rJ
   refine ud I (by rw[e];exact True.intro) hs ⟨q,hq⟩ ⟨hl,hd,_,(rel.put k eb rv).keeps λc ys ec=>?_,q,es,ep,hq,h2,h3,h4,h5⟩
   rw[ag (aD ec e (λz=>nomatch z))]
   exact ec
end
section
variable {X:Cx}{pins:List (Addr×Obj)}{σ:St}{H:Hp}{s:Shared}{a:Addr}{kvs:List (Key×V)}{k:Key}{u:Value}{A:Around}{E:Value->Shared->Prop}
end
def QL(i:Expr):Prop:=∀ov iv,subscripted i false ov iv=operate [ov,iv] (getItem ov iv)
theorem O9{prog:Program}{w:World}{A:Around}{E:Value->Shared->Prop}{s:Shared}{env:Env}{value slice:Expr}{pos:Pos}{T id:String}{Q:Value->Shared->Prop}
 (hl:typeLookup (.type T) "__getitem__" = pure (some (.builtin id))) (hs:QL slice)
 (h:wpAny (model prog w) A (eval value env) (λo eP=>wpAny (model prog w) A (eval slice env) (λi xW=>xW.TypeIs o T/\wpAny (model prog w) A (getItem o i) Q E xW) E eP) E s) :
 wpAny (model prog w) A (eval (.Subscript value slice pos) env) Q E s:=by
 refine Subscript_ (aef h (λo eP pN=>aef pN (λi xW vb=>?_) λ_ _ x=>x) λ_ _ x=>x)
 obtain⟨hT,vb⟩:=vb
 unfold subscriptTail
 refine aad ?_
 rw[getitemInPython_of_ne hT.not_modules]
 refine aad (ae2 hT hl ?_)
 have fin:wpAny (model prog w) A (subscripted slice false o i) (λr Pa=>wpAny (model prog w) A (letTemporaryGo value o r >>= λ_=>pure r) Q E Pa) E xW:=by
  rw[hs o i]
  exact wpAny_operating (aef vb (λr Pa xX=>aad (wpAny_letTemporaryGo (aao xX))) λ_ _ x=>x)
 first
  | exact aao (aad fin)
  | exact aad (aao (aad fin))
  | exact aad fin
theorem DS(I:Inv X pins σ H s)(g:bq H a y o):s.TypeIs (.ref a) "dict":=by
 rcases g with⟨kvs,k,e,_,_⟩|⟨kvs,k,b,e,_,_,_⟩
 . obtain⟨_,_,vs,_,dd⟩:=kJ I.hok e
   exact dd.typeIs
 . obtain⟨_,_,xs,_,dd⟩:=oX I.hok e
   exact dd.typeIs
def FV(td ty:TE):TE:=λσ H Q=>td σ H λx H1=>ty σ H1 λy H2=>∃a v,x=.ref a/\bq H2 a y (some v)/\Q v H2
def abb(ty td:TE):TE:=λσ H Q=>ty σ H λy H1=>td σ H1 λx H2=>∃a o,x=.ref a/\bq H2 a y o/\Q (.bl o.isSome) H2
def Pb(ty td:TE):TE:=λσ H Q=>ty σ H λy H1=>td σ H1 λx H2=>∃a o,x=.ref a/\bq H2 a y o/\Q (.bl (!o.isSome)) H2
def WY(td ty tv:TE):TS:=λD σ H=>tv σ H λv H1=>td σ H1 λx H2=>ty σ H2 λy H3=>∃a H4,x=.ref a/\gh H3 a y v H4/\D.nx σ H4
section
variable {X:Cx}{o i e value:Expr}{pos pos' aa8:Pos}{td ty tv:TE}
theorem cq(hu:X.A.units+1<cLine)(ho:PE X o td)(hi:PE X i ty)(hs:QL i):PE X (.Subscript o i pos) (FV td ty):=by
 intro pins s σ H Q I h
 refine O9 PySem.F.slot_dict_getitem.lookup hs (aO (ho pins s σ H _ I h) λu s1 ⟨x,H1,I1,rx,q1⟩=>aO (hi pins s1 σ H1 _ I1 q1) λiv s2 zq=>?_)
 obtain⟨y,H2,I2,ry,a,v,ex,g,q2⟩:=zq
 subst ex
 obtain rfl:u=Value.ref a:=rx
 exact⟨DS I2 g,IC hu I2 g ry λw' s3 I3 mj=>⟨v,H2,I3,mj,q2⟩⟩
theorem pO(hu:X.A.units+1<cLine)(hi:PE X i ty)(ho:PE X o td):PC X .In i o (abb ty td):=by
 intro pins s σ H Q I h
 refine aO (hi pins s σ H _ I h) λiv s1 ⟨y,H1,I1,ry,q1⟩=>aO (ho pins s1 σ H1 _ I1 q1) λu s2 zq=>?_
 obtain⟨x,H2,I2,rx,a,ov,ex,g,q2⟩:=zq
 subst ex
 obtain rfl:u=Value.ref a:=rx
 exact aba hu I2 g ry λs3 I3=>⟨.bl ov.isSome,H2,I3,rfl,q2⟩
theorem mm(hu:X.A.units+1<cLine)(hi:PE X i ty)(ho:PE X o td):PC X .NotIn i o (Pb ty td):=by
 intro pins s σ H Q I h
 refine aO (hi pins s σ H _ I h) λiv s1 ⟨y,H1,I1,ry,q1⟩=>aO (ho pins s1 σ H1 _ I1 q1) λu s2 zq=>?_
 obtain⟨x,H2,I2,rx,a,ov,ex,g,q2⟩:=zq
 subst ex
 obtain rfl:u=Value.ref a:=rx
 exact O8 hu I2 g ry λs3 I3=>⟨.bl (!ov.isSome),H2,I3,rfl,q2⟩
theorem eV(hu:X.A.units+1<cLine)(ho:PE X o td)(hi:PE X i ty)(hv:PE X value tv) (hs:swapsWith value (some (.Subscript o i pos')) pos.line X.env=pure false) :
 PS X (.Assign [.Subscript o i pos'] value pos) (WY td ty tv):=by
 intro pins s σ H D I h
 refine wpAny_Assign_Subscript (aO (hv pins s σ H _ I h) λr s1 ⟨v,H1,I1,rv,q1⟩=>aO (ho pins s1 σ H1 _ I1 q1) λu s2 ⟨x,H2,I2,rx,q2⟩=>aO (hi pins s2 σ H2 _ I2 q2) λiv s3 ⟨y,H3,I3,ry,a,H4,ex,g,q3⟩=>?_) hs
 subst ex
 obtain rfl:u=Value.ref a:=rx
 exact ID hu I3 g ry rv λs4 I4=>⟨σ,H4,I4,q3⟩
end
theorem AO(h:Heap)(hb:sysModules<h.objs.size):bU P w H (h.push {cls:=.type "dict",data:=.dict #[] }) h.objs.size (.dK []):=
 ⟨aaO _,adt.mpr (aax (aaD hb)),[],.nil,Heap.DictOf.new h⟩
theorem Lk(h:Heap)(hb:sysModules<h.objs.size):bU P w H (h.push {cls:=.type "dict",data:=.dict #[] }) h.objs.size (.dT []):=
 ⟨aaO _,adt.mpr (aax (aaD hb)),[],.nil,_,#[],0,aaq _ rfl,⟨rfl,rfl,rfl⟩,rfl,rfl,adN⟩
def QM:TE:=λ_ H Q=>∀p,H p=none->Q (.ref p) (upd H p (.dK []))
def QN:TE:=λ_ H Q=>∀p,H p=none->Q (.ref p) (upd H p (.dT []))
section
variable {X:Cx}{pos:Pos}
theorem lH:PE X (.Dict [] [] pos) QM:=λpins s σ H Q I h=>
 agj ⟨.ref s.heap.objs.size,_,I.laid (a:=s.heap.objs.size) (o:=.dK []) (t':=s.toks) (λ_ _ q=>aac _ q) (aaf _) (AO s.heap I.big),rfl,h _ (I.hok.fresh (aaf _))⟩
theorem AQ:PE X (.Dict [] [] pos) QN:=λpins s σ H Q I h=>
 agj ⟨.ref s.heap.objs.size,_,I.laid (a:=s.heap.objs.size) (o:=.dT []) (t':=s.toks) (λ_ _ q=>aac _ q) (aaf _) (Lk s.heap I.big),rfl,h _ (I.hok.fresh (aaf _))⟩
end
def AR:List (TE×TE)->St->Hp->(List (V×V)->Hp->Prop)->Prop
 | [],_,H,Q=>Q [] H
 | (tk,tv)::r,σ,H,Q=>tk σ H λx H1=>tv σ H1 λy H2=>AR r σ H2 λps H3=>Q ((x,y)::ps) H3
abbrev VV:List (V×V)->List (Value×Value)->Prop:=Paired λp q=>RelV p.1 q.1/\RelV p.2 q.2
def Nm(X:Cx)(pos:Pos) (keys:List (Option Expr)) (values:List Expr) (AS:List (TE×TE)):Prop:=
 ∀(pins:List (Addr×Obj)) (s:Shared) (σ:St) (H:Hp) (Q:List (V×V)->Hp->Prop),Inv X pins σ H s->AR AS σ H Q->
  wpAny (model X.prog X.w) X.A (evalPairs (pairTrees keys values X.env pos)) (λvs s'=>∃ps H',Inv X pins σ H' s'/\VV ps vs/\Q ps H') X.xe s
theorem pP:Nm X pos [] [] []:=λpins s σ H Q I h=>pairTrees_nil_walk ⟨[],H,I,.nil,h⟩
theorem gQ(hk:PE X k tk)(hv:PE X v tv)(hr:Nm X pos ks vs AS) :
 Nm X pos (some k::ks) (v::vs) ((tk,tv)::AS):=λpins s σ H Q I h=>
 pairTrees_cons_walk (aO (hk pins s σ H _ I h) λu s1 ⟨x,H1,I1,rx,q1⟩=>aO (hv pins s1 σ H1 _ I1 q1) λw2 s2 ⟨y,H2,I2,ry,q2⟩=>
  aO (hr pins s2 σ H2 _ I2 q2) λws s3 ⟨ps,H3,I3,rel,q3⟩=>⟨(x,y)::ps,H3,I3,.cons ⟨rx,ry⟩ rel,q3⟩)
def bY(kvs more:List (Key×V)):List (Key×V):=more.foldl (λacc kv=>putK acc kv.1 kv.2) kvs
theorem KV.merge:∀{more:List (Key×V)}{rs:List (Key×Value)}{kvs:List (Key×V)}{vs:List (Key×Value)},KV more rs->KV kvs vs->KV (bY kvs more) (merged vs rs):=by
 intro more rs kvs vs r
 unfold KV at r
 induction r generalizing kvs vs with
 | nil=>intro q;exact q
 | @cons p q ps qs h t ih=>
  intro r0
  have e:KV (putK kvs p.1 p.2) (stored vs q.1 q.2):=by
   have:=r0.put p.1 h.2
   rw[← h.1];exact this
  exact ih e
theorem ia:∀(more kvs:List (Key×V)),(bY kvs more).length<=kvs.length+more.length
 | [],kvs=>by show kvs.length<=kvs.length+0;lia
 | p::r,kvs=>by
  have h1:=ia r (putK kvs p.1 p.2)
  have h2:=fh kvs p.1 p.2
  show (bY (putK kvs p.1 p.2) r).length<=_
  rw[aaA];lia
theorem vU:∀{kvs:List (Key×V)}{ws:List (Value×Value)},VV (kvs.map λkv=>(kV kv.1,kv.2)) ws->∃rs,Carries (bj P w) ws rs/\KV kvs rs
 | [],_,r=>by rw[ad5]at r;cases r;exact⟨[],True.intro,.nil⟩
 | p::kvs,_,r=>by
  rw[aaB]at r
  cases r with
  | @cons a b as bs h t=>
   obtain⟨rs,c,q⟩:=vU (P:=P) (w:=w) t
   obtain⟨b1,b2⟩:=b
   exact⟨(p.1,b2)::rs,⟨nE h.1,rfl,c⟩,.cons ⟨rfl,h.2⟩ q⟩
def WZ(AS:List (TE×TE)):TE:=λσ H Q=>∀p,H p=none->AR AS σ (upd H p (.dK [])) λps H2=>H2 p=some (.dK [])/\∃kvs:List (Key×V),ps=kvs.map (λkv=>(kV kv.1,kv.2))/\kvs.length<=15/\Q (.ref p) (upd H2 p (.dK (bY [] kvs)))
theorem pQ(h:Nm X pos keys values AS) (jn:keys.all (·.isSome)=true) (hl:keys.length=values.length) (h0:keys≠[])
 (QO:keys.length<=15):PE X (.Dict keys values pos) (WZ AS):=by
 intro pins s σ H Q I q
 have hn:=I.hok.fresh (aaf s.heap.objs.size)
 have I1:=I.laid (a:=s.heap.objs.size) (o:=.dK []) (h':=s.heap.push {cls:=.type "dict",data:=.dict #[] }) (t':=s.toks) (λ_ _ q=>aac _ q) (aaf _) (AO s.heap I.big)
 refine wpAny_Dict_walk (knd:=bj X.prog X.w) jn hl h0 QO (aO (h pins _ σ _ _ I1 (q _ hn)) λws s2 zq=>?_)
 obtain⟨ps,H2,I2,rel,e,kvs,ep,lk,q2⟩:=zq
 subst ep
 obtain⟨rs,c,rk⟩:=vU (P:=X.prog) (w:=X.w) rel
 obtain⟨z,hd,vs0,r0,dd⟩:=uc I2.hok e
 cases r0
 refine⟨rs,c,dd,λh' rJ hs=>⟨.ref s.heap.objs.size,_,?_,rfl,q2⟩⟩
 have hz:(bY [] kvs).length<=sizeLine:=by
  have h1:=ia kvs []
  rw[aeC]at h1
  rw[adW];lia
 have he:∃q,h'.get? s.heap.objs.size=some q:=let ⟨q,_,_,hq,_⟩:=rJ; ⟨q,hq⟩
 exact ud I2 (by rw[e];exact True.intro) hs he (pM hz hd (rk.merge .nil) rJ)
structure M1(X:Cx) (o:Expr) (m:Str) (apos:Pos) (e:Expr) (eY:Pos):Prop where
 base:attributeBase o m X.env (eval o X.env)=eval o X.env
 iY:((backTo eY (starEach [e] X.env)).all (λx=>!x.1) && (backToKw eY (keywordEach [] X.env)).all (λx=>x.1.isSome)
  && decide (([e]:List Expr).length+([]:List Keyword).length+(if ([]:List Keyword).isEmpty then 0 else 1)<30))=true
 line:(apos.endLine == eY.line)=true
 trees:backTo eY (starEach [e] X.env)=[(false,eval e X.env)]
structure M2(X:Cx) (o:Expr) (m:Str) (apos:Pos) (e f:Expr) (eY:Pos):Prop where
 base:attributeBase o m X.env (eval o X.env)=eval o X.env
 iY:((backTo eY (starEach [e,f] X.env)).all (λx=>!x.1) && (backToKw eY (keywordEach [] X.env)).all (λx=>x.1.isSome)
  && decide (([e,f]:List Expr).length+([]:List Keyword).length+(if ([]:List Keyword).isEmpty then 0 else 1)<30))=true
 line:(apos.endLine == eY.line)=true
 trees:backTo eY (starEach [e,f] X.env)=[(false,eval e X.env),(false,eval f X.env)]
def QP(H:Hp)(a:Addr):Prop:=(∃kvs,Rd H a (.dK kvs))\/∃kvs,Rd H a (.dT kvs)
theorem IE(I:Inv X pins σ H s)(d:QP H a) :
 s.TypeIs (.ref a) "dict" /\ (∀b,Value.ref a=.ref b->∃ob,s.heap.get? b=some ob/\ob.dict=none)/\(a == sysModules)=false:=by
 rcases d with⟨kvs,e⟩|⟨kvs,e⟩
 . obtain⟨_,hd,vs,_,dd⟩:=kJ I.hok e
   refine⟨dd.typeIs,λb q=>?_,hd⟩
   cases q
   obtain⟨ob,_,_,h1,h2,_⟩:=dd
   exact⟨ob,h1,h2.2.1⟩
 . obtain⟨_,hd,xs,_,dd⟩:=oX I.hok e
   refine⟨dd.typeIs,λb q=>?_,hd⟩
   cases q
   obtain⟨ob,_,_,h1,h2,_⟩:=dd
   exact⟨ob,h1,h2.2.1⟩
section
variable {X:Cx}{pins:List (Addr×Obj)}{σ:St}{H:Hp}{s:Shared}{a:Addr}{y d:V}{u r:Value}{o:Option V}{A:Around}{E:Value->Shared->Prop}
theorem QQ(hu:A.units+1<cLine)(I:Inv X pins σ H s)(g:bq H a y o)(ry:RelV y u) (h:∀w' s',Inv X pins σ H s'->RelV (o.getD .aV) w'->Q w' s') :
 wpAny (model X.prog X.w) A (call (.builtin "dict.get") [.ref a,u]) Q E s:=by
 rcases g with⟨kvs,k,e,ey,l⟩|⟨kvs,k,b,e,ey,eb,l⟩
 . subst ey
   obtain⟨z,hd,vs,rel,dd⟩:=kJ I.hok e
   refine afo ad6 dd.typeIs aet (af6 _ _) (meets_dict_get (bj X.prog X.w) a (nE ry) hd) ⟨_,dd.mapOf,h _ _ (I.tok _) ?_⟩
   rw[l]
   exact(rel.val k).getD rfl
 . subst ey
   cases(show u=Value.ref b from ry)
   obtain⟨z,hd,xs,rel,dd⟩:=oX I.hok e
   refine afo ad6 dd.typeIs aet (af6 _ _) (meetsH_dict_get (tupleKind (bj X.prog X.w)) a b hd) ⟨aeg hu,k,xs,og I.hok eb,dd,h _ _ (I.tok _) ?_⟩
   rw[l]
   exact(rel.val k).getD rfl
theorem QR(hu:A.units+1<cLine)(I:Inv X pins σ H s)(g:bq H a y o)(ry:RelV y u)(rd:RelV d r) (h:∀w' s',Inv X pins σ H s'->RelV (o.getD d) w'->Q w' s') :
 wpAny (model X.prog X.w) A (call (.builtin "dict.get") [.ref a,u,r]) Q E s:=by
 rcases g with⟨kvs,k,e,ey,l⟩|⟨kvs,k,b,e,ey,eb,l⟩
 . subst ey
   obtain⟨z,hd,vs,rel,dd⟩:=kJ I.hok e
   refine afo ad6 dd.typeIs aet (af7 _ _ _) (meets_dict_get_default (bj X.prog X.w) a (nE ry) hd r) ⟨_,dd.mapOf,h _ _ (I.tok _) ?_⟩
   rw[l]
   exact(rel.val k).getD rd
 . subst ey
   cases(show u=Value.ref b from ry)
   obtain⟨z,hd,xs,rel,dd⟩:=oX I.hok e
   refine afo ad6 dd.typeIs aet (af7 _ _ _) (meetsH_dict_get_default (tupleKind (bj X.prog X.w)) a b hd r) ⟨aeg hu,k,xs,og I.hok eb,dd,h _ _ (I.tok _) ?_⟩
   rw[l]
   exact(rel.val k).getD rd
end
def QS(td ty:TE):TE:=λσ H Q=>td σ H λx H1=>∃a,x=.ref a/\QP H1 a/\ty σ H1 λy H2=>∃o,bq H2 a y o/\Q (o.getD .aV) H2
def QT(td ty tx:TE):TE:=λσ H Q=>td σ H λx H1=>∃a,x=.ref a/\QP H1 a/\ty σ H1 λy H2=>tx σ H2 λz H3=>∃o,bq H3 a y o/\Q (o.getD z) H3
section
variable {X:Cx}{o e f:Expr}{apos eY:Pos}{td ty tx:TE}
theorem vc(hu:X.A.units+1<cLine)(ho:PE X o td)(he:PE X e ty)(m:M1 X o "get" apos e eY):PE X (.Call (.Attribute o "get" apos) [e] [] eY) (QS td ty):=by
 intro pins s σ H Q I h
 refine wpAny_Call_method m.base m.iY m.line aep ad6 agC (aO (ho pins s σ H _ I h) λu s1 zq=>?_)
 obtain⟨x,H1,I1,rx,a,ex,d,q1⟩:=zq
 subst ex
 obtain rfl:u=Value.ref a:=rx
 obtain⟨t1,t2,_⟩:=IE I1 d
 refine⟨t1,t2,?_⟩
 rw[m.trees]
 refine aed rfl (afu (aex (aO (he pins s1 σ H1 _ I1 q1) λiv s2 ⟨y,H2,I2,ry,ov,g,q2⟩=>afj ?_)))
 exact QQ hu I2 g ry λw' s3 I3 mj=>⟨_,H2,I3,mj,q2⟩
theorem AU(hu:X.A.units+1<cLine)(ho:PE X o td)(he:PE X e ty)(hf:PE X f tx)(m:M2 X o "get" apos e f eY):PE X (.Call (.Attribute o "get" apos) [e,f] [] eY) (QT td ty tx):=by
 intro pins s σ H Q I h
 refine wpAny_Call_method m.base m.iY m.line aep ad6 agC (aO (ho pins s σ H _ I h) λu s1 zq=>?_)
 obtain⟨x,H1,I1,rx,a,ex,d,q1⟩:=zq
 subst ex
 obtain rfl:u=Value.ref a:=rx
 obtain⟨t1,t2,_⟩:=IE I1 d
 refine⟨t1,t2,?_⟩
 rw[m.trees]
 refine aed rfl (afu (aex (aO (he pins s1 σ H1 _ I1 q1) λiv s2 ⟨y,H2,I2,ry,q2⟩=>
  aex (aO (hf pins s2 σ H2 _ I2 q2) λfv s3 ⟨z,H3,I3,rz,ov,g,q3⟩=>afj ?_))))
 exact QR hu I3 g ry rz λw' s4 I4 mj=>⟨_,H3,I4,mj,q3⟩
end
section
variable {X:Cx}{pins:List (Addr×Obj)}{σ:St}{H:Hp}{s:Shared}{a:Addr}{kvs:List (Key×V)}{A:Around}{E:Value->Shared->Prop}
theorem Ll(I:Inv X pins σ H s) (e:Rd H a (.dK kvs)) (h:∀p s',H p=none->Inv X pins σ (upd H p (.dK kvs)) s'->Q (.ref p) s'):wpAny (model X.prog X.w) A (call (.type "dict") [.ref a]) Q E s:=by
 obtain⟨z,hd,vs,rel,dd⟩:=kJ I.hok e
 refine kt_call_dict hd dd (by rw[← rel.length];exact z) λh' rJ hs=>?_
 refine h _ _ (I.hok.fresh (aaf _)) (I.laid (a:=s.heap.objs.size) (o:=.dK kvs) (t':=s.toks) (λb q hq=>?_) (aaf _) (pM z (adt.mpr (aax (aaD I.big))) rel rJ))
 exact(hs.2 b (aaD (aaw hq))).trans (aac _ hq)
end
section
variable {X:Cx}{pins:List (Addr×Obj)}{σ:St}{H:Hp}{s:Shared}{a:Addr}{y:V}{u:Value}{A:Around}{E:Value->Shared->Prop}
end
end L2
namespace HT
open PySem PyProof.Rows
def lexLt:List Int->List Int->Bool
 | [],[]=>false
 | [],_::_=>true
 | _::_,[]=>false
 | x::xs,y::ys=>if x=y then lexLt xs ys else decide (x<y)
theorem FW(x y:Int)(xs ys:List Int):lexLt (x::xs) (y::ys)=if x=y then lexLt xs ys else decide (x<y):=rfl
section
open PySem.SeqAt
open PySem.AutoSeq1 (wpAny_loadPart')
open PySem.MeetsSeq PySem.MeetsSeq2 PySem.MeetsSeq3
end
section
variable {prog:Program}{w:World}{A:Around}{E:Value->Shared->Prop}{s:Shared}
theorem Pc(ht:IsTup s.heap t vs.toArray)(hb:IsTup s.heap b ws.toArray)(hv:vs≠[])
 (h1:ws=[]->Q (.ref t) s) (h2:ws≠[]->Q (.ref s.heap.objs.size) {s with heap:=s.heap.push {cls:=.type "tuple",data:=.seq (vs++ws).toArray} })
 (hsz:vs.length+ws.length<=sizeLine):wpAny (model prog w) A (binaryOp .Add (.ref t) (.ref b)) Q E s:=by
 obtain⟨⟨cls,dd,data,sl⟩,ho,hc,n,hd⟩:=id ht
 obtain⟨⟨abd,En,data2,Nn⟩,vV,lq,n2,hd2⟩:=id hb
 simp only at hc hd lq hd2
 subst hc hd lq hd2
 have e:vs.toArray++ws.toArray=(vs++ws).toArray:=by simp
 by_cases hw:ws=[]
 . exact concat_meets ⟨_,ho,rfl⟩ ⟨_,vV,rfl⟩ agk ag6 afd ae3 (aeZ _ _)
    (tuple_addW1 t b vs.toArray ws.toArray n n2 dd En sl Nn (by simpa using hv) (by simp[hw])) ⟨ho,vV,h1 hw⟩
 . refine concat_meets ⟨_,ho,rfl⟩ ⟨_,vV,rfl⟩ agk ag6 afd ae3 (aeZ _ _)
    (tuple_addW2 t b vs.toArray ws.toArray n n2 dd En sl Nn (by simpa using hv) (by simpa using hw) (by rw[aan,aan];exact hsz)) ⟨ho,vV,?_⟩
   rw[e]
   exact h2 hw
def mq(n d:Nat):Option Int->Nat
 | none=>d
 | some v=>if v<0 then (v+(n:Int)).toNat else min v.toNat n
theorem AV(n d:Nat):mq n d none=d:=rfl
theorem Eo(n d k:Nat):mq n d (some (k:Int))=min k n:=by
 show (if (k:Int)<0 then ((k:Int)+(n:Int)).toNat else min (k:Int).toNat n)=min k n
 rw[aaz (by lia),adX]
end
end HT
namespace L2
open PySem PySem.Spec PyProof.Rows
abbrev TO:=St->Hp->(Option Int->Hp->Prop)->Prop
def PO(X:Cx)(e:Option Expr)(t:TO):Prop:=
 ∀(pins:List (Addr×Obj)) (s:Shared) (σ:St) (H:Hp) (Q:Option Int->Hp->Prop),Inv X pins σ H s->t σ H Q->
  wpAny (model X.prog X.w) X.A (evalPart e X.env) (λu s'=>∃o H',Inv X pins σ H' s'/\IsPart u o/\Q o H') X.xe s
def Pd:TO:=λ_ H Q=>Q none H
def W0(t:TE):TO:=λσ H Q=>t σ H λx H1=>∃i,x=.int i/\Q (some i) H1
theorem intsAre_of:∀{us:List Value},Vals (ns.map V.int) us->IntsAre us ns:=by
 induction ns with
 | nil=>intro us r;rw[ad5]at r;cases r;exact .nil
 | cons n ns ih=>
  intro us r
  rw[aaB]at r
  cases r with
  | cons r1 r2=>
   obtain⟨t,e⟩:=r1
   subst e
   exact .cons n t (ih r2)
section
variable {X:Cx}{e:Expr}{te:TE}{lo hi:Option Expr}{tl th:TO}{pos p2:Pos}
theorem jg:PO X none Pd:=by
 intro pins s σ H Q I h
 rw[evalPart_none]
 exact aao ⟨none,H,I,.none,h⟩
theorem jh(h:PE X e te):PO X (some e) (W0 te):=by
 intro pins s σ H Q I hw
 rw[evalPart_some]
 refine aO (h pins s σ H _ I hw) λu s1 zq=>?_
 obtain⟨x,H1,I1,r1,q1⟩:=zq
 obtain⟨i,rfl,q⟩:=q1
 obtain⟨t,rfl⟩:=r1
 exact⟨some i,H1,I1,.int i t,q⟩
def Np(X:Cx)(r:V->Option Int->Option Int->Hp->VK->Prop):Prop:=
 ∀(pins:List (Addr×Obj)) (s:Shared) (σ:St) (H:Hp) (x:V) (v vl vu:Value) (lo hi:Option Int) (sl:Addr) (Q:VK),Inv X pins σ H s->RelV x v->s.heap.IsSliceOf sl vl vu .none->IsPart vl lo->IsPart vu hi->r x lo hi H Q->
  ∃T id,typeLookup (.type T) "__getitem__" = pure (some (.builtin id))/\s.TypeIs v T/\wpAny (model X.prog X.w) X.A (getItem v (.ref sl)) (EP X pins σ Q) X.xe s
def tSl(r:V->Option Int->Option Int->Hp->VK->Prop)(te:TE)(tl th:TO):TE:=λσ H Q=>te σ H λx H1=>tl σ H1 λl H2=>th σ H2 λu H3=>r x l u H3 Q
theorem iB(hr:Np X r)(he:PE X e te)(hl:PO X lo tl)(hu:PO X hi th):PE X (.Subscript e (.Slice lo hi none p2) pos) (tSl r te tl th):=by
 intro pins s σ H Q I h
 refine Subscript_ (aO (he pins s σ H _ I h) λv s1 zq=>?_)
 obtain⟨x,H1,I1,r1,q1⟩:=zq
 refine wpAny_Slice (aO (hl pins s1 σ H1 _ I1 q1) λvl s2 ⟨l,H2,I2,pl,q2⟩=>aO (hu pins s2 σ H2 _ I2 q2) λvu s3 zq=>?_)
 obtain⟨u,H3,I3,pu,q3⟩:=zq
 rw[evalPart_none]
 refine aao ?_
 have I4:Inv X pins σ H3 {s3 with heap:=s3.heap.push {cls:=.type "slice",data:=.fields #[vl,vu,.none] } }:=I3.kept (t':=s3.toks) λb ob q=>aac _ q
 obtain⟨T,id,hT,ht,hg⟩:=hr pins {s3 with heap:=s3.heap.push {cls:=.type "slice",data:=.fields #[vl,vu,.none] } } σ H3 x v vl vu l u s3.heap.objs.size Q I4 r1 (Heap.IsSliceOf.new ..) pl pu q3
 show wpAny (model X.prog X.w) X.A (subscriptTail e (.Slice lo hi none p2) v (.ref s3.heap.objs.size)) (EP X pins σ Q) X.xe {s3 with heap:=s3.heap.push {cls:=.type "slice",data:=.fields #[vl,vu,.none] } }
 exact tail_any (ops:=[.ref s3.heap.objs.size,v]) ht hT hg (by with_unfolding_all rfl)
def qC(xs:List V)(lo hi:Option Int):List V:=(xs.drop (HT.mq xs.length 0 lo)).take (HT.mq xs.length xs.length hi-HT.mq xs.length 0 lo)
theorem DT(xs:List V)(lo hi:Option Int):(qC xs lo hi).length<=xs.length:=by
 unfold qC
 rw[aaG,adK]
 lia
def W2(K:W.Frag):R2:=λx y H Q=>∃a b xs ys,x=.ref a/\y=.ref b/\aR K H a xs/\aR K H b ys/\xs≠[]/\xs.length+ys.length<=sizeLine/\
 (ys=[]->Q (.ref a) H)/\(ys≠[]->∀p,H p=none->Q (.ref p) (upd H p (.tup (xs++ys))))
theorem Vals.ue(r:Vals xs us):us=[] ↔ xs=[]:=by
 cases r with
 | nil=>simp
 | cons _ _=>simp
theorem Pe:iX X (binaryOp .Add) (W2 X.K):=by
 intro pins s σ H x y v u Q I rx ry h
 obtain⟨a,b,xs,ys,rfl,rfl,ha,hb,hx,hz,q1,q2⟩:=h
 cases rx
 cases ry
 obtain⟨its,r1,p1,_⟩:=I.tuple ha
 obtain⟨pE,r2,p2,_⟩:=I.tuple hb
 refine HT.Pc p1 p2 (λz=>hx (r1.ue.mp z)) (λz=>⟨.ref a,H,I,rfl,q1 (r2.ue.mp z)⟩) (λz=>?_) (by rw[← r1.length,← r2.length];exact hz)
 refine⟨.ref s.heap.objs.size,_,I.laid (t':=s.toks) (o:=.tup (xs++ys)) (λb ob q=>aac _ q) (aaf _) ?_,rfl,q2 (λw=>z (r2.ue.mpr w)) _ (I.hok.fresh (aaf _))⟩
 exact⟨by rw[aag];exact hz,_,r1.append r2,IsTup.new _ _⟩
theorem DU:i0 X (.type "tuple") (λxs H Q=>∃a ys,xs=[.ref a]/\aR X.K H a ys/\Q (.ref a) H):=by
 intro pins s σ H xs us Q I r h
 obtain⟨a,ys,rfl,ha,q⟩:=h
 obtain⟨u,rfl,ru⟩:=vals1 r
 cases ru
 obtain⟨its,_,p1,_⟩:=I.tuple ha
 exact call_tuple_same (items:=its.toArray) p1 ⟨.ref a,H,I,rfl,q⟩
end
def vW(n:Nat)(i:Int):Option Nat:=if 0<=i then (if i<n then some i.toNat else none) else if -(n:Int)<=i then some (i+n).toNat else none
def j8{α:Type}(xs:List α)(i:Int):Option α:=(vW xs.length i).bind λj=>xs[j]?
theorem Ep(h:vW n i=some j):seqIndex? i n=some j/\j<n /\ -(n:Int)<=i/\i<n:=by
 unfold vW at h
 by_cases h0:0<=i
 . rw[aaF h0]at h
   by_cases h1:i<n
   . rw[aaF h1]at h
     have e:i.toNat=j:=aay h
     exact⟨by rw[seqIndex_of h0 h1,e],by lia,by lia,h1⟩
   . rw[aaz h1]at h;cases h
 . rw[aaz h0]at h
   by_cases h1 : -(n:Int)<=i
   . rw[aaF h1]at h
     have e:(i+n).toNat=j:=aay h
     exact⟨by rw[seqIndex_neg (by lia) h1,e],by lia,h1,by lia⟩
   . rw[aaz h1]at h;cases h
theorem xY{α:Type}{xs:List α}{i:Int}{v:α}(h:j8 xs i=some v):∃j,seqIndex? i xs.length=some j/\xs[j]?=some v/\j<xs.length /\ -(xs.length:Int)<=i/\i<xs.length:=by
 unfold j8 at h
 cases e:vW xs.length i with
 | none=>rw[e]at h;cases h
 | some j=>
  rw[e]at h
  obtain⟨h1,h2,h3,h4⟩:=Ep e
  exact⟨j,h1,h,h2,h3,h4⟩
theorem aF{α:Type}{xs:List α}{j:Nat}{v:α}(h:xs[j]?=some v):j8 xs (j:Int)=some v:=by
 have hj:j<xs.length:=(aak.mp h).1
 have e:vW xs.length (j:Int)=some j:=by
  unfold vW
  rw[aaF (by lia),aaF (by lia)];simp
 unfold j8;rw[e];exact h
theorem vd{α:Type}(xs:List α)(v:α):j8 (xs++[v]) (-1)=some v:=by
 have hl:(xs++[v]).length=xs.length+1:=by simp
 have e:vW (xs++[v]).length (-1)=some xs.length:=by
  unfold vW
  rw[hl,aaz (by decide),aaF (by lia)]
  congr 1
  lia
 unfold j8
 rw[e]
 show (xs++[v])[xs.length]?=some v
 simp
def Pf(b:Expr):Prop:=∀o i,subscripted b false o i=operate [o,i] (getItem o i)
def vX(X:Cx)(r:R2):Prop:=
 ∀(value slice:Expr) (pins:List (Addr×Obj)) (s:Shared) (σ:St) (H:Hp) (x y:V) (v u:Value) (Q:VK),Inv X pins σ H s->RelV x v->RelV y u->r x y H Q->
  subscripted slice false v u=operate [v,u] (getItem v u)->wpAny (model X.prog X.w) X.A (subscriptTail value slice v u) (EP X pins σ Q) X.xe s
def QU(X:Cx)(id:String)(r:V->List V->Hp->VK->Prop):Prop:=
 ∀(pins:List (Addr×Obj)) (s:Shared) (σ:St) (H:Hp) (x:V) (xs:List V) (v:Value) (us:List Value) (Q:VK),Inv X pins σ H s->RelV x v->Vals xs us->r x xs H Q->
  wpAny (model X.prog X.w) X.A (call (.builtin id) (v::us)) (EP X pins σ Q) X.xe s
section
variable {X:Cx}{a b:Expr}{ta tb:TE}{pos:Pos}
theorem vX.or(h:vX X r)(h':vX X r'):vX X (λx y H Q=>r x y H Q\/r' x y H Q):=by
 intro value slice pins s σ H x y v u Q I rx ry q hs
 rcases q with q|q
 . exact h value slice pins s σ H x y v u Q I rx ry q hs
 . exact h' value slice pins s σ H x y v u Q I rx ry q hs
theorem aI{r:R2}(hr:vX X r)(ha:PE X a ta)(hb:PE X b tb)(hs:Pf b):PE X (.Subscript a b pos) (vQ r ta tb):=by
 intro pins s σ H Q I h
 exact Subscript_ (Ld ha hb I h λv u s2 x y H2 I2 rx ry q=>hr a b pins s2 σ H2 x y v u Q I2 rx ry q (hs _ _))
def eC(K:W.Frag):R2:=λx y H Q=>∃p xs i v,x=.ref p/\y=.int i/\ar K H p xs/\j8 xs i=some v/\Q v H
def eu(K:W.Frag):R2:=λx y H Q=>∃p xs i v,x=.ref p/\y=.int i/\aR K H p xs/\j8 xs i=some v/\Q v H
def QV:R2:=λx y H Q=>∃z i c,x=.str z/\y=.int i/\z.length<=sizeLine/\j8 z.cps.toList i=some c/\Q (.str ⟨#[c]⟩) H
theorem aS:vX X (eC X.K):=by
 intro value slice pins s σ H x y v u Q I rx ry h hs
 obtain⟨p,xs,i,z,rfl,rfl,hq,he,q⟩:=h
 cases rx
 obtain⟨t,rfl⟩:=ry
 obtain⟨its,r,pl,hz⟩:=I.list hq
 obtain⟨j,h1,h2,h3,h4,h5⟩:=xY he
 obtain⟨w,ew,mj⟩:=r.get h2
 have hl:=r.length
 have hn:=pL
 have fin:EP X pins σ Q w s:=⟨z,H,I,mj,q⟩
 by_cases h0:0<=i
 . have hj:i.toNat=j:=by
    rw[seqIndex_of h0 h5]at h1
    exact aay h1
   exact item_listR pl.isList h0 (by lia) (by rw[hj];simpa using ew) fin hs
 . have hj:(i+(its.toArray.size:Int)).toNat=j:=by
    rw[seqIndex_neg (by lia) h4]at h1
    rw[aan,← hl]
    exact aay h1
   exact subscriptTail_builtinR (x:=w) pl.isList.typeIs slot_list_getitem.lookup
    (wpAny_getItem_list_neg (Q:=λr s'=>r=w/\EP X pins σ Q r s') pl.isList (by lia) (by rw[aan] <;> lia) (by lia) (by rw[hj];simpa using ew) ⟨rfl,fin⟩) hs
theorem cg:vX X (eu X.K):=by
 intro value slice pins s σ H x y v u Q I rx ry h hs
 obtain⟨p,xs,i,z,rfl,rfl,hq,he,q⟩:=h
 cases rx
 obtain⟨t,rfl⟩:=ry
 obtain⟨its,r,pl,hz⟩:=I.tuple hq
 obtain⟨j,h1,h2,h3,h4,h5⟩:=xY he
 obtain⟨w,ew,mj⟩:=r.get h2
 have hl:=r.length
 have hn:=pL
 have fin:EP X pins σ Q w s:=⟨z,H,I,mj,q⟩
 exact subscriptTail_builtinR (x:=w) pl.typeIs slot_tuple_getitem.lookup
  (getItem_tuple (j:=j) (Q:=λr s'=>r=w/\EP X pins σ Q r s') pl (by lia) (by lia) (by rw[aan,← hl];exact h1) (by simpa using ew) ⟨rfl,fin⟩) hs
theorem vY:vX X QV:=by
 intro value slice pins s σ H x y v u Q I rx ry h hs
 obtain⟨z,i,c,rfl,rfl,hz,he,q⟩:=h
 obtain⟨t,rfl⟩:=rx
 obtain⟨t',rfl⟩:=ry
 obtain⟨j,h1,h2,h3,h4,h5⟩:=xY he
 have hl:z.cps.toList.length=z.length:=by simp[Str.length]
 rw[hl]at h1 h4 h5
 have hn:=pL
 exact tail_any (afk s z t) slot_str_getitem.lookup (getItem_str (c:=c) (by
  have e1:decide (i < -(2 ^ 63:Int))=false:=aaH (by lia)
  have e2:decide (i≥2 ^ 63)=false:=aaH (by lia)
  rw[e1,e2,Bool.or_false]) (by rw[h1];simpa using h2) ⟨.str ⟨#[c]⟩,H,I.tok _,⟨_,rfl⟩,q⟩) hs
def X2(K:W.Frag):R2:=λx y H Q=>eC K x y H Q\/eu K x y H Q\/QV x y H Q
theorem sE:vX X (X2 X.K):=aS.or (cg.or vY)
theorem FX(its:List Value)(n j:Nat)(u:Value):Obj.mapSeq (·.setIfInBounds j u) {cls:=.type "list",data:=.seq its.toArray n} = {cls:=.type "list",data:=.seq (its.set j u).toArray n}:=by
 simp[Obj.mapSeq]
theorem Inv.lst{pins:List (Addr×Obj)}{σ:St}{H:Hp}{s:Shared}{p:Addr}{xs:List V}(I:Inv X pins σ H s) (h:H p=some (.lst xs)) :
 ∃(its:List Value) (n:Nat),Vals xs its/\s.heap.get? p=some {cls:=.type "list",data:=.seq its.toArray n} /\ xs.length<=sizeLine:=by
 obtain⟨z,its,n,r,e⟩:=I.hok p _ h
 exact⟨its,n,r,e,z⟩
theorem Inv.QW{pins:List (Addr×Obj)}{σ:St}{H:Hp}{s:Shared}{p:Addr}{xs ys:List V}{its its':List Value}{n n':Nat}{f:Obj->Obj}(I:Inv X pins σ H s) (h:H p=some (.lst xs))
 (ho:s.heap.get? p=some {cls:=.type "list",data:=.seq its.toArray n}) (hf:f {cls:=.type "list",data:=.seq its.toArray n} = {cls:=.type "list",data:=.seq its'.toArray n'}) (r:Vals ys its') (hz:ys.length<=sizeLine) (t:Nat) :
 Inv X pins σ (upd H p (.lst ys)) {s with heap:=s.heap.update p f,toks:=t}:=by
 have e:(s.heap.update p f).get? p=some {cls:=.type "list",data:=.seq its'.toArray n'}:=by
  rw[afp f ho (by rw[hf] <;> rfl),hf]
 refine I.write (x:=p) (e:=p) (by rw[h];trivial) (.inl rfl) (λb u hb q=>(afe _ _ (aax hb)).trans q) ⟨_,e⟩ ?_
 exact⟨hz,its',n',r,e⟩
def W3:V->V->V->Hp->(Hp->Prop)->Prop:=λo i v H Q=>∃p xs k j,o=.ref p/\i=.int k/\H p=some (.lst xs)/\vW xs.length k=some j/\Q (upd H p (.lst (xs.set j v)))
theorem set_list:QC X W3:=by
 intro pins s σ H o i v ov iv u Q I ro ri rv h
 obtain⟨p,xs,k,j,rfl,rfl,hp,hj,q⟩:=h
 cases ro
 obtain⟨t,rfl⟩:=ri
 obtain⟨its,n,r,ho,hz⟩:=I.lst hp
 obtain⟨h1,h2,h3,h4⟩:=Ep hj
 have hl:=r.length
 have hn:=pL
 have I':Inv X pins σ (upd H p (.lst (xs.set j v))) {s with heap:=s.heap.update p (Obj.mapSeq (·.setIfInBounds j u))} :=
  I.QW hp ho (FX its n j u) (r.set rv j) (by rw[List.length_set];exact hz) s.toks
 by_cases h0:0<=k
 . have hk:k.toNat=j:=by
    rw[seqIndex_of h0 h4]at h1
    exact aay h1
   exact W.ki_setAt ho h0 (by lia) (by rw[aan,← hl];exact h4) (by rw[hk];exact⟨_,I',q⟩)
 . have hk:(k+(its.toArray.size:Int)).toNat=j:=by
    rw[seqIndex_neg (by lia) h3]at h1
    rw[aan,← hl]
    exact aay h1
   exact W.ki_setBack ho (by lia) (by rw[aan,← hl];exact h3) (by lia) (by rw[hk];exact⟨_,I',q⟩)
theorem AW(lo hi:Option Int)(n:Nat):(sliceBounds lo hi none n).1=((HT.mq n 0 lo:Nat):Int)/\(sliceBounds lo hi none n).2.1=((HT.mq n n hi:Nat):Int)/\(sliceBounds lo hi none n).2.2=1:=by
 refine⟨?_,?_,rfl⟩
 . cases lo with
   | none=>simp[sliceBounds,HT.mq]
   | some i=>
    simp only[sliceBounds,HT.mq,agl,show (1:Int)>0 by decide,afl]
    by_cases h:i<0
    . simp only[h,afl] <;> lia
    . simp only[h,ae4] <;> lia
 . cases hi with
   | none=>simp[sliceBounds,HT.mq]
   | some i=>
    simp only[sliceBounds,HT.mq,agl,show (1:Int)>0 by decide,afl]
    by_cases h:i<0
    . simp only[h,afl] <;> lia
    . simp only[h,ae4] <;> lia
theorem Ae(its:List Value)(lo hi:Option Int):slicePick its.toArray lo hi none=((its.drop (HT.mq its.length 0 lo)).take (HT.mq its.length its.length hi-HT.mq its.length 0 lo)).toArray:=by
 obtain⟨h1,h2,h3⟩:=AW lo hi its.toArray.size
 unfold slicePick
 rw[h1,h2,h3]
 simp only[sliceRange_one,pick_run,aan] <;> rfl
def abe(K:W.Frag):V->Option Int->Option Int->Hp->VK->Prop:=λx lo hi H Q=>∃a xs,x=.ref a/\ar K H a xs/\∀p,H p=none->Q (.ref p) (upd H p (.lst (qC xs lo hi)))
theorem uf:Np X (abe X.K):=by
 intro pins s σ H x v vl vu lo hi sl Q I rx hs pl pu h
 obtain⟨a,xs,rfl,hx,q⟩:=h
 cases rx
 obtain⟨its,r,ht,hz⟩:=I.list hx
 have hlen:=r.length
 refine⟨"list",_,slot_list_getitem.lookup,ht.isList.typeIs,?_⟩
 refine wpAny_getItem_list_slice ht.isList hs pl pu .none (by simp) ?_ (by rw[aan] <;> lia)
 rw[Ae,← hlen]
 refine⟨.ref s.heap.objs.size,_,I.laid (t':=s.toks) (o:=.lst (qC xs lo hi)) (λb ob q=>aac _ q) (aaf _) ?_,rfl,q _ (I.hok.fresh (aaf _))⟩
 exact⟨aam (DT xs lo hi) hz,_,0,(r.drop (HT.mq xs.length 0 lo)).take (HT.mq xs.length xs.length hi-HT.mq xs.length 0 lo),aaq _ rfl⟩
def nF:V->Bool
 | .aV=>true
 | .bl _=>true
 | .int _=>true
 | .str _=>true
 | _=>false
def mr:V->V->Bool
 | .aV,.aV=>true
 | .bl a,.bl b=>a == b
 | .bl a,.int b=>(if a then 1 else 0) == b
 | .int a,.bl b=>a == (if b then 1 else 0)
 | .int a,.int b=>a == b
 | .str a,.str b=>a == b
 | _,_=>false
theorem vZ(ry:RelV y u)(rx:RelV x v)(fy:nF y=true)(fx:nF x=true):SeqAt.EqAt A s u v (mr y x):=by
 cases y with
 | aV=>
  cases ry
  cases x with
  | aV=>cases rx;exact SeqAt.EqAt.same _
  | bl b=>cases rx;exact SeqAt.EqAt.none_bool b
  | int b=>obtain⟨t,rfl⟩:=rx;exact SeqAt.EqAt.none_int b t
  | str b=>obtain⟨t,rfl⟩:=rx;exact SeqAt.EqAt.none_str b t
  | _=>exact absurd (show false=true from fx) aaE
 | bl a=>
  cases ry
  cases x with
  | aV=>cases rx;exact SeqAt.EqAt.bool_none a
  | bl b=>cases rx;exact SeqAt.EqAt.bool_bool a b
  | int b=>obtain⟨t,rfl⟩:=rx;exact SeqAt.EqAt.bool_int a b t
  | str b=>obtain⟨t,rfl⟩:=rx;exact SeqAt.EqAt.bool_str a b t
  | _=>exact absurd (show false=true from fx) aaE
 | int a=>
  obtain⟨t',rfl⟩:=ry
  cases x with
  | aV=>cases rx;exact SeqAt.EqAt.int_none a t'
  | bl b=>cases rx;exact SeqAt.EqAt.int_bool a t' b
  | int b=>obtain⟨t,rfl⟩:=rx;exact SeqAt.EqAt.int_int a t' b t
  | str b=>obtain⟨t,rfl⟩:=rx;exact SeqAt.EqAt.int_str a t' b t
  | _=>exact absurd (show false=true from fx) aaE
 | str a=>
  obtain⟨t',rfl⟩:=ry
  cases x with
  | aV=>cases rx;exact SeqAt.EqAt.str_none a t'
  | bl b=>cases rx;exact SeqAt.EqAt.str_bool a t' b
  | int b=>obtain⟨t,rfl⟩:=rx;exact SeqAt.EqAt.str_int a t' b t
  | str b=>obtain⟨t,rfl⟩:=rx;exact SeqAt.EqAt.str_str a t' b t
  | _=>exact absurd (show false=true from fx) aaE
 | _=>exact absurd (show false=true from fy) aaE
def oh(x:V)(u:Value):Bool:=match u with
 | .none=>mr .aV x
 | .bool b=>mr (.bl b) x
 | .int i _=>mr (.int i) x
 | .str z _=>mr (.str z) x
 | _=>false
theorem IF(r:RelV y u)(f:nF y=true):oh x u=mr y x:=by
 cases y with
 | aV=>cases r;rfl
 | bl b=>cases r;rfl
 | int i=>obtain⟨t,rfl⟩:=r;rfl
 | str z=>obtain⟨t,rfl⟩:=r;rfl
 | _=>exact absurd (show false=true from f) aaE
theorem pR:∀{xs:List V}{us:List Value},Vals xs us->xs.all nF=true->us.any (oh x)=xs.any λy=>mr y x
 | _,_,.nil,_=>rfl
 | y::xs,u::us,.cons r t,f=>by
  rw[ag7,adj]at f
  rw[ad8,ad8,IF r f.1,pR t f.2]
theorem om(rx:RelV x v)(fx:nF x=true):∀{xs:List V}{us:List Value},Vals xs us->xs.all nF=true->∀u∈us,SeqAt.EqAt A s u v (oh x u)
 | _,_,.nil,_=>λu hu=>by cases hu
 | y::xs,u::us,.cons r t,f=>λu' hu=>by
  rw[ag7,adj]at f
  rcases aaj.mp hu with rfl|hu
  . rw[IF r f.1];exact vZ r rx f.1 fx
  . exact om rx fx t f.2 u' hu
def wa(x:V)(xs:List V):Bool:=xs.any λy=>mr y x
def QX(K:W.Frag)(neg:Bool):R2:=λx y H Q=>∃p xs,y=.ref p/\(ar K H p xs\/aR K H p xs)/\nF x=true/\xs.all nF=true/\Q (.bl (if neg then !wa x xs else wa x xs)) H
theorem IG:iX X (compareOp .In) (QX X.K false):=by
 intro pins s σ H x y v u Q I rx ry h
 obtain⟨p,xs,rfl,hq,fx,fs,q⟩:=h
 cases ry
 rcases hq with hq|hq
 . obtain⟨its,r,pl,hz⟩:=I.list hq
   refine afB (oh x) pl.isList (λw hw=>om rx fx r fs w (by simpa using hw)) ⟨.bl _,H,I,rfl,?_⟩
   rw[show its.toArray.any (oh x)=its.any (oh x) by simp,pR r fs]
   exact q
 . obtain⟨its,r,pl,hz⟩:=I.tuple hq
   refine SeqAt.in_tupleAt (oh x) pl (λw hw=>om rx fx r fs w (by simpa using hw)) ⟨.bl _,H,I,rfl,?_⟩
   rw[show its.toArray.any (oh x)=its.any (oh x) by simp,pR r fs]
   exact q
theorem AX:iX X (compareOp .NotIn) (QX X.K true):=by
 intro pins s σ H x y v u Q I rx ry h
 obtain⟨p,xs,rfl,hq,fx,fs,q⟩:=h
 cases ry
 rcases hq with hq|hq
 . obtain⟨its,r,pl,hz⟩:=I.list hq
   refine SeqAt.notIn_listAt (oh x) pl.isList (λw hw=>om rx fx r fs w (by simpa using hw)) ⟨.bl _,H,I,rfl,?_⟩
   rw[show its.toArray.any (oh x)=its.any (oh x) by simp,pR r fs]
   exact q
 . obtain⟨its,r,pl,hz⟩:=I.tuple hq
   refine SeqAt.notIn_tupleAt (oh x) pl (λw hw=>om rx fx r fs w (by simpa using hw)) ⟨.bl _,H,I,rfl,?_⟩
   rw[show its.toArray.any (oh x)=its.any (oh x) by simp,pR r fs]
   exact q
theorem bw:i0 X (.builtin "len") (λxs H Q=>∃p ys,xs=[.ref p]/\(ar X.K H p ys\/aR X.K H p ys)/\Q (.int ys.length) H):=by
 intro pins s σ H xs us Q I r h
 obtain⟨p,ys,rfl,hq,q⟩:=h
 obtain⟨u,rfl,rx⟩:=vals1 r
 cases rx
 have hn:=pL
 rcases hq with hq|hq
 . obtain⟨its,r',pl,hz⟩:=I.list hq
   have hlen:=r'.length
   exact Calls.call_len_list pl.isList (by simp only[aan] <;> lia) ⟨.int ys.length,H,I.tok _,⟨s.toks+1,by rw[aan,hlen]⟩,q⟩
 . obtain⟨its,r',pl,hz⟩:=I.tuple hq
   have hlen:=r'.length
   exact len_tuple pl (by simp only[aan] <;> lia) ⟨.int ys.length,H,I.tok _,⟨s.toks+1,by rw[aan,hlen]⟩,q⟩
theorem jo:i0 X (.type "list") (λxs H Q=>∃p ys,xs=[.ref p]/\(ar X.K H p ys\/aR X.K H p ys)/\∀l,H l=none->Q (.ref l) (upd H l (.lst ys))):=by
 intro pins s σ H xs us Q I r h
 obtain⟨p,ys,rfl,hq,q⟩:=h
 obtain⟨u,rfl,rx⟩:=vals1 r
 cases rx
 have fin:∀(its:List Value),Vals ys its->ys.length<=sizeLine->∀(h':Heap) (c':Nat),(∀b o',s.heap.get? b=some o'->h'.get? b=some o')->
  h'.get? s.heap.objs.size=some {cls:=.type "list",dict:=none,data:=.seq its.toArray c',slots:=#[] } -> EP X pins σ Q (.ref s.heap.objs.size) {s with heap:=h'}:=λits r' hz h' c' kp e=>
  ⟨.ref s.heap.objs.size,_,I.laid (t':=s.toks) kp (aaf _) (show bU X.prog X.w _ h' _ (.lst ys) from⟨hz,its,c',r',e⟩),rfl,q _ (I.hok.fresh (aaf _))⟩
 rcases hq with hq|hq
 . obtain⟨its,r',pl,hz⟩:=I.list hq
   have hlen:=r'.length
   obtain⟨o,ho,hc,n,hd⟩:=pl.isList
   exact call_list_seq p (.inl rfl) ho hc hd (λh' c' kp e=>fin its r' hz h' c' kp e) (by simp only[aan] <;> lia)
 . obtain⟨its,r',pl,hz⟩:=I.tuple hq
   have hlen:=r'.length
   obtain⟨o,ho,hc,n,hd⟩:=pl
   exact call_list_seq p (.inr rfl) ho hc hd (λh' c' kp e=>fin its r' hz h' c' kp e) (by simp only[aan] <;> lia)
theorem Af:i0 X (.type "tuple") (λxs H Q=>∃p ys,xs=[.ref p]/\((ar X.K H p ys/\∀l,H l=none->Q (.ref l) (upd H l (.tup ys)))\/(aR X.K H p ys/\Q (.ref p) H))):=by
 intro pins s σ H xs us Q I r h
 obtain⟨p,ys,rfl,h⟩:=h
 obtain⟨u,rfl,rx⟩:=vals1 r
 cases rx
 rcases h with⟨hq,q⟩|⟨hq,q⟩
 . obtain⟨its,r',pl,hz⟩:=I.list hq
   have hlen:=r'.length
   refine call_tuple_list pl.isList (λh' kp=>?_) (by simp only[aan] <;> lia)
   have I1:Inv X pins σ H {s with heap:=h'}:=I.kept (t':=s.toks) kp
   have I2:Inv X pins σ (upd H h'.objs.size (.tup ys)) {s with heap:=h'.push {cls:=.type "tuple",data:=.seq its.toArray} } :=
    I1.laid (t':=s.toks) (λb o e=>aac _ e) (aaf _) (show bU X.prog X.w _ _ _ (.tup ys) from⟨hz,its,r',IsTup.new _ _⟩)
   exact⟨.ref h'.objs.size,_,I2,rfl,q _ (I1.hok.fresh (aaf _))⟩
 . obtain⟨its,r',pl,hz⟩:=I.tuple hq
   exact call_tuple_same pl ⟨.ref p,H,I,rfl,q⟩
def QY(K:W.Frag)(T:String)(x:V)(H:Hp):Prop:=match x with
 | .str _=>T = "str"
 | .int _=>T = "int"
 | .ref p=>(T = "list" /\ ∃xs,ar K H p xs)\/(T = "tuple" /\ ∃o,K.lookup p=some o/\o.cls=.type "tuple" /\ o.dict=none)\/
  (T = "dict" /\ ((∃kvs,H p=some (.dK kvs))\/∃kvs,H p=some (.dT kvs)))\/(T = "set" /\ ∃S n,H p=some (.set S n))
 | _=>False
theorem AY(I:Inv X pins σ H s)(r:RelV x v)(ty:QY X.K T x H) :
 s.TypeIs v T/\∀a,v=.ref a->∃ob,s.heap.get? a=some ob/\ob.dict=none:=by
 cases x with
 | str z=>
  obtain⟨t,rfl⟩:=r
  cases(show T = "str" from ty)
  exact⟨afk s z t,λ_ e=>nomatch e⟩
 | int i=>
  obtain⟨t,rfl⟩:=r
  cases(show T = "int" from ty)
  exact⟨typeIs_int s i t,λ_ e=>nomatch e⟩
 | ref p=>
  cases r
  rcases ty with⟨rfl,xs,hq⟩|⟨rfl,o,hk,hc,hd⟩|⟨rfl,hk⟩|⟨rfl,S,n,hk⟩
  . obtain⟨its,_,pl,_⟩:=I.list hq
    refine⟨pl.isList.typeIs,λa e=>?_⟩
    cases e
    obtain⟨o,n,e,c,hd,_⟩:=pl
    exact⟨o,e,hd⟩
  . refine⟨⟨o,I.i8 p o hk,hc⟩,λa e=>?_⟩
    cases e
    exact⟨o,I.i8 _ o hk,hd⟩
  . have z:∃o,s.heap.get? p=some o/\o.ExactDict:=by
     rcases hk with⟨kvs,hk⟩|⟨kvs,hk⟩
     . obtain⟨_,_,_,_,o,_,_,e,ex,_⟩:=I.hok p _ hk
       exact⟨o,e,ex⟩
     . obtain⟨_,_,_,_,o,_,_,e,ex,_⟩:=I.hok p _ hk
       exact⟨o,e,ex⟩
    obtain⟨o,e,ex⟩:=z
    refine⟨⟨o,e,ex.1⟩,λa e2=>?_⟩
    cases e2
    exact⟨o,e,ex.2.1⟩
  . obtain⟨o,_,_,_,e,ex,_⟩:=I.hok p _ hk
    refine⟨⟨o,e,ex.1⟩,λa e2=>?_⟩
    cases e2
    exact⟨o,e,ex.2.1⟩
 | _=>exact False.elim ty
def abf(K:W.Frag)(T:String)(r:V->List V->Hp->VK->Prop)(to:TE):TE:=λσ H Q=>to σ H λx H1=>QY K T x H1/\r x [] H1 Q
def X3(K:W.Frag)(T:String)(r:V->List V->Hp->VK->Prop)(to:TE)(t:TA):TE:=λσ H Q=>to σ H λx H1=>QY K T x H1/\t σ H1 λxs H2=>r x xs H2 Q
variable {o e:Expr}{es:List Expr}{to:TE}{t:TA}{name:Str}{apos eY:Pos}{T id:String}{r:V->List V->Hp->VK->Prop}
theorem IH(pa:PlainAttrs T)(slot:Slot T name id) (QZ:typeOf (.builtin id)=pure (.type "method_descriptor")) (hm:QU X id r) (ho:PE X o to)
 (wb:attributeBase o name X.env (eval o X.env)=eval o X.env:=by rfl) (we:(apos.endLine == eY.line)=true:=by rfl):PE X (.Call (.Attribute o name apos) [] [] eY) (abf X.K T r to):=by
 intro pins s σ H Q I h
 refine af8 wb we (aO (ho pins s σ H _ I h) λv s1 zq=>?_)
 obtain⟨x,H1,I1,r1,ty,q1⟩:=zq
 obtain⟨h1,h2⟩:=AY I1 r1 ty
 exact⟨T,id,pa,slot,QZ,h1,h2,aed rfl (agV (hm pins s1 σ H1 x [] v [] Q I1 r1 .nil q1))⟩
theorem ft(pa:PlainAttrs T)(slot:Slot T name id) (QZ:typeOf (.builtin id)=pure (.type "method_descriptor")) (hm:QU X id r) (ho:PE X o to) (ha:PA X (e::es) t)
 (wb:attributeBase o name X.env (eval o X.env)=eval o X.env:=by rfl)
 (abg:((backTo eY (starEach (e::es) X.env)).all (λx=>!x.1) && (backToKw eY (keywordEach [] X.env)).all (λx=>x.1.isSome)
  && decide ((e::es).length+([]:List Keyword).length+(if ([]:List Keyword).isEmpty then 0 else 1)<30))=true:=by rfl)
 (we:(apos.endLine == eY.line)=true:=by rfl) (hs:starEach (e::es) X.env=(false,eval e X.env)::starEach es X.env:=by rfl) (Q0:(backTo eY (starEach es X.env)).any (·.1)=false:=by rfl) :
 PE X (.Call (.Attribute o name apos) (e::es) [] eY) (X3 X.K T r to t):=by
 intro pins s σ H Q I h
 refine wpAny_Call_method_late wb abg we rfl (aO (ho pins s σ H _ I h) λv s1 zq=>?_)
 obtain⟨x,H1,I1,r1,ty,q1⟩:=zq
 obtain⟨h1,h2⟩:=AY I1 r1 ty
 refine⟨T,id,pa,slot,QZ,h1,h2,?_⟩
 have hA:=ha eY pins s1 σ H1 _ I1 q1
 rw[hs]at hA ⊢
 refine aed (by show (false || (backTo eY (starEach es X.env)).any (·.1))=false;rw[Q0] <;> rfl) (afu ?_)
 exact aO hA λus s2 ⟨vs,H2,I2,r2,q2⟩=>hm pins s2 σ H2 x vs v us Q I2 r1 r2 q2
end
def wg(X:Cx)(id:String)(r:V->List V->Hp->VK->Prop):Prop:=
 ∀(pins:List (Addr×Obj)) (s:Shared) (σ:St) (H:Hp) (x:V) (xs:List V) (v:Value) (us:List Value) (Q:VK),Inv X pins σ H s->RelV x v->Vals xs us->r x xs H Q->
  wpAny (model X.prog X.w) X.A (call (.builtin id) (v::us)) (EP X pins σ Q) X.xe s
theorem Vals.inv{x:V}{xs:List V}{us:List Value}(h:Vals (x::xs) us):∃u t,us=u::t/\RelV x u/\Vals xs t:=by
 cases h with
 | cons r t=>exact⟨_,_,rfl,r,t⟩
theorem Vals.zero{us:List Value}(h:Vals [] us):us=[]:=by cases h;rfl
theorem Vals.one{x:V}{us:List Value}(h:Vals [x] us):∃u,us=[u]/\RelV x u:=by
 obtain⟨u,t,rfl,r,h⟩:=h.inv
 rw[h.zero]
 exact⟨u,rfl,r⟩
theorem Vals.two{x y:V}{us:List Value}(h:Vals [x,y] us):∃u v,us=[u,v]/\RelV x u/\RelV y v:=by
 obtain⟨u,t,rfl,r,h⟩:=h.inv
 obtain⟨v,rfl,q⟩:=h.one
 exact⟨u,v,rfl,r,q⟩
theorem Vals.dropLast(h:Vals xs us):Vals xs.dropLast us.dropLast:=by
 induction h with
 | nil=>exact .nil
 | cons r t ih=>
  cases t with
  | nil=>exact .nil
  | cons q t'=>exact .cons r ih
theorem Vals.reverse(h:Vals xs us):Vals xs.reverse us.reverse:=by
 induction h with
 | nil=>exact .nil
 | cons r t ih=>rw[aej,aej];exact Vals.append ih (.cons r .nil)
theorem FY{α:Type}(l:List α):l.eraseIdx (l.length-1)=l.dropLast:=by
 induction l with
 | nil=>rfl
 | cons a r ih=>
  cases r with
  | nil=>rfl
  | cons b r=>
   have e:(a::b::r).length-1=((b::r).length-1)+1:=by
    have h1:(a::b::r).length=r.length+2:=rfl
    have h2:(b::r).length=r.length+1:=rfl
    lia
   rw[e,List.eraseIdx_cons_succ,ih]
   all_goals rfl
section
variable {X:Cx}{pins:List (Addr×Obj)}{σ:St}{H:Hp}{s:Shared}{l b:Addr}{xs ys zs:List V}
theorem Inv.AZ{its its':List Value}{n:Nat}{f:Array Value->Array Value}{t':Nat}(I:Inv X pins σ H s) (hH:H l=some (.lst xs))
 (e:s.heap.get? l=some {cls:=.type "list",data:=.seq its.toArray n}) (hf:f its.toArray=its'.toArray) (hv:Vals ys its') (hz:ys.length<=sizeLine) :
 Inv X pins σ (upd H l (.lst ys)) {s with heap:=s.heap.update l (Obj.mapSeq f),toks:=t'}:=by
 have q:=PySem.IsL.update e f
 rw[hf]at q
 refine I.write (x:=l) (e:=l) (by rw[hH];exact trivial) (.inl rfl) (λb' u hb hu=>(afe s.heap (Obj.mapSeq f) (aax hb)).trans hu) ⟨_,q⟩ ?_
 exact⟨hz,its',_,hv,q⟩
theorem Inv.FZ(I:Inv X pins σ H s)(hv:Vals ys its)(hz:ys.length<=sizeLine) :
 Inv X pins σ (upd H s.heap.objs.size (.lst ys)) {s with heap:=s.heap.push {cls:=.type "list",data:=.seq its.toArray},toks:=t'} :=
 I.laid (λ_ _ q=>aac _ q) (aaf _) ⟨hz,its,0,hv,aaq _ rfl⟩
theorem Inv.fresh(I:Inv X pins σ H s):H s.heap.objs.size=none:=I.hok.fresh (aaf _)
theorem Inv.sG(I:Inv X pins σ H s) (hH:H l=some (.lst xs)):xs.length<=sizeLine/\∃(its:List Value) (n:Nat),Vals xs its/\xs.length=its.length/\s.heap.get? l=some {cls:=.type "list",data:=.seq its.toArray n}:=by
 obtain⟨z,its,n,r,e⟩:=I.hok l _ hH
 exact⟨z,its,n,r,r.length,e⟩
theorem ve(h:n<=sizeLine):Builtin.List.listTooLong n=false:=by
 unfold Builtin.List.listTooLong
 exact aaH (by lia)
end
section
variable {X:Cx}
def Pg:V->List V->Hp->VK->Prop:=λx vs H Q=>∃l xs y,x=.ref l/\vs=[y]/\H l=some (.lst xs)/\xs.length<sizeLine/\Q .aV (upd H l (.lst (xs++[y])))
theorem eJ:wg X "list.append" Pg:=by
 intro pins s σ H x vs v us Q I rx rv h
 obtain⟨l,xs,y,rfl,rfl,hH,hz,q⟩:=h
 cases rx
 obtain⟨u,rfl,ru⟩:=rv.one
 obtain⟨z,its,n,r,hl,e⟩:=I.sG hH
 refine ae0 ac5 ⟨_,e,rfl⟩ F.entry_list_append (F.args_list_append_2 _ _) (PySem.list_append l its.toArray n u (by rw[aan];lia)) ⟨e,?_⟩
 refine⟨.aV,_,I.AZ (its':=its++[u]) hH e (by simp) (r.append (.cons ru .nil)) ?_,rfl,q⟩
 rw[aag,abc]
 lia
def Ph:V->List V->Hp->VK->Prop:=λx vs H Q=>∃l b xs zs,x=.ref l/\vs=[.ref b]/\H l=some (.lst xs)/\H b=some (.lst zs)/\xs.length+zs.length<=sizeLine/\Q .aV (upd H l (.lst (xs++zs)))
theorem II:wg X "list.extend" Ph:=by
 intro pins s σ H x vs v us Q I rx rv h
 obtain⟨l,b,xs,zs,rfl,rfl,hH,hB,hz,q⟩:=h
 cases rx
 obtain⟨u,rfl,ru⟩:=rv.one
 cases ru
 obtain⟨z,its,n,r,hl,e⟩:=I.sG hH
 obtain⟨z2,pE,n2,r2,d9,e2⟩:=I.sG hB
 have hsz:its.toArray.size+pE.toArray.size<=sizeLine:=by rw[aan,aan];lia
 have W4:¬ (!its.toArray.isEmpty && Builtin.List.listTooLong (its.toArray.size+pE.toArray.size))=true:=by
  rw[ve hsz,Bool.and_false]
  exact aaE
 refine ae0 F.slot_list_extend ⟨_,e,rfl⟩ F.entry_list_extend (F.args_list_extend_2 _ _)
  (AutoSeq1.list_extend_list_list_0 l its.toArray n b pE.toArray n2 W4 (by rw[aan];lia) (by lia)) ⟨e,e2,?_⟩
 refine⟨.aV,_,I.AZ (its':=its++pE) hH e (by simp) (r.append r2) ?_,rfl,q⟩
 rw[aag]
 lia
def abh:V->List V->Hp->VK->Prop:=λx vs H Q=>∃l xs y,x=.ref l/\vs=[]/\H l=some (.lst xs)/\xs[xs.length-1]?=some y/\Q y (upd H l (.lst xs.dropLast))
theorem Q1:wg X "list.pop" abh:=by
 intro pins s σ H x vs v us Q I rx rv h
 obtain⟨l,xs,y,rfl,rfl,hH,hy,q⟩:=h
 cases rx
 have iP:=rv.zero
 subst iP
 obtain⟨z,its,n,r,hl,e⟩:=I.sG hH
 obtain⟨u,hu,ru⟩:=r.get hy
 have Q2:its.toArray[its.toArray.size-1]?=some u:=by
  show its.toArray[its.length-1]?=some u
  rw[← aeD,← hl]
  exact hu
 refine ae0 F.slot_list_pop ⟨_,e,rfl⟩ F.entry_list_pop (F.args_list_pop_1 _) (MeetsSeq.list_pop_last l its.toArray n u Q2 (by rw[aan];lia)) ⟨e,?_⟩
 refine⟨y,_,I.AZ (its':=its.dropLast) hH e ?_ r.dropLast ?_,ru,q⟩
 . show its.toArray.eraseIdxIfInBounds (its.toArray.size-1)=its.dropLast.toArray
   rw[aan,List.eraseIdxIfInBounds_toArray,FY]
 . rw[agL]
   lia
def Lm:V->List V->Hp->VK->Prop:=λx vs H Q=>∃l xs,x=.ref l/\vs=[]/\H l=some (.lst xs)/\Q .aV (upd H l (.lst xs.reverse))
theorem F0:wg X "list.reverse" Lm:=by
 intro pins s σ H x vs v us Q I rx rv h
 obtain⟨l,xs,rfl,rfl,hH,q⟩:=h
 cases rx
 have iP:=rv.zero
 subst iP
 obtain⟨z,its,n,r,hl,e⟩:=I.sG hH
 refine ae0 F.slot_list_reverse ⟨_,e,rfl⟩ F.entry_list_reverse (F.args_list_reverse_1 _) (AutoSeq1.list_reverse_list_0 l its.toArray n (by rw[aan];lia)) ⟨e,?_⟩
 refine⟨.aV,_,I.AZ (its':=its.reverse) hH e (by simp) r.reverse ?_,rfl,q⟩
 rw[adY]
 lia
def abi:R2:=λx y H Q=>∃l b xs zs,x=.ref l/\y=.ref b/\H l=some (.lst xs)/\H b=some (.lst zs)/\xs.length+zs.length<=sizeLine/\∀p,H p=none->Q (.ref p) (upd H p (.lst (xs++zs)))
theorem kK:iX X (binaryOp .Add) abi:=by
 intro pins s σ H x y v u Q I rx ry h
 obtain⟨l,b,xs,zs,rfl,rfl,hH,hB,hz,q⟩:=h
 cases rx
 cases ry
 obtain⟨z,its,n,r,hl,e⟩:=I.sG hH
 obtain⟨z2,pE,n2,r2,d9,e2⟩:=I.sG hB
 refine PySem.P.add_list e e2 ?_ (by rw[aan,aan];lia)
 have ea:its.toArray++pE.toArray=(its++pE).toArray:=by simp
 rw[ea]
 exact⟨.ref _,_,I.FZ (t':=s.toks) (r.append r2) (by rw[aag];lia),rfl,q _ I.fresh⟩
end
section
variable {prog:Program}{w:World}{A:Around}{E:Value->Shared->Prop}{s:Shared}
theorem F1{a c n:Nat}(X4:a<=c)(hc:c<=n):sliceBounds (some (a:Int)) (some (c:Int)) none n=((a:Int),(c:Int),1):=by
 simp only[sliceBounds,agl]
 have h1:¬ ((a:Int)<0):=by lia
 have h2:¬ ((c:Int)<0):=by lia
 simp only[h1,h2,ae4,show (1:Int)>0 by decide,afl]
 congr 1
 . lia
 . congr 1;lia
set_option maxRecDepth 100000 in
theorem Qo{l b sl:Addr}{items new:Array Value}{n n2:Nat}{vl vu:Value}{a c:Nat}{Q:Unit->Shared->Prop}
 (e:s.heap.get? l=some {cls:=.type "list",data:=.seq items n}) (e2:s.heap.get? b=some {cls:=.type "list",data:=.seq new n2}) (hne:l≠b)
 (hs:s.heap.IsSliceOf sl vl vu .none) (pl:IsPart vl (some (a:Int))) (pu:IsPart vu (some (c:Int))) (X4:a<=c) (hc:c<=items.size)
 (hsz:items.size+new.size<=sizeLine) (h:Q () {s with heap:=s.heap.update l (Obj.mapSeq λxs=>xs.extract 0 a++new++xs.extract c xs.size)}) :
 wpAny (model prog w) A (setItem (.ref l) (.ref sl) (.ref b)) Q E s:=by
 have hl:s.heap.IsList l items:=PySem.IsL.isList e
 have hb:s.heap.IsList b new:=PySem.IsL.isList e2
 obtain⟨os,Nq,hcs,wj⟩:=id hs
 have X5:s.TypeIs (.ref sl) "slice":=⟨os,Nq,hcs⟩
 have W5:¬ ((rawPart none == rawInt 0)=true):=aaE
 have F2:Builtin.List.listSameRef (.ref l) (.ref b)=false:=by
  unfold Builtin.List.listSameRef
  exact adt.mpr hne
 have abj:(max (a:Int) (c:Int)).toNat=c:=by lia
 have Er:((λxs:Array Value=>xs.extract 0 a++new++xs.extract c xs.size) items).size<=sizeLine+1:=by
  simp only[Array.size_append,Array.size_extract]
  lia
 unfold setItem
 try with_reducible refine adP ?_
 first|refine aad (aao ?_)|skip
 refine aad (wpAny_sequenceKey hl.typeIs (by decide) ?_)
 refine aad (adR (name:=Str.ofString "__setitem__") hl.typeIs slot_list_setitem
  (adT slot_list_setitem hl.typeIs entry_list_setitem ?_ (args_list_setitem _ _ _)))
 show wpAny _ _ (Builtin.List.listSubscript? (.ref sl) >>= _) _ _ s
 refine aad ?_
 unfold Builtin.List.listSubscript?
 refine aad (ae2 X5 slice_no_index ?_)
 simp only[Option.isNone_none,afl]
 refine aao ?_
 show wpAny _ _ (typeOf (.ref sl) >>= _) _ _ s
 refine aad (afM X5 ?_)
 first
  | rw[aaz (by decide)]
  | refine W.KFB.if_not (by decide) ?_
 rw[listSliceParts_eq]
 refine aad (aad (adD Nq wj (x:=.none) rfl (aad (agR .none ?_))))
 rw[aaz W5]
 refine aad (adD Nq wj (x:=vl) rfl (aad (agR pl ?_)))
 refine aad (adD Nq wj (x:=vu) rfl (aad (agR pu (aao ?_))))
 first
  | simp only[F2,aeh,ae4]
  | refine W.KFB.if_not F2 ?_
  | (dsimp only
     rw[aaz (by rw[F2];exact aaE)])
 refine aad (m:=Builtin.List.listAllItems (.ref b) "must assign iterable to extended slice") ?_
 unfold Builtin.List.listAllItems
 refine aad (afM hb.typeIs ?_)
 first
  | refine W.KFB.if_so (by decide) ?_
  | rw[aaF (by decide)]
  | simp only[aeU,Bool.true_or,afl]
 unfold Builtin.List.listItems
 refine aad (adu e2 rfl (aao ?_))
 refine aad (aad (adu e rfl (aao ?_)))
 refine aad (wpAny_of_eq ((sliceIndices_raw (some (a:Int)) (some (c:Int)) none items.size (by simp)).trans (congrArg (pure:Int×Int×Int->Sem (Int×Int×Int)) (F1 X4 hc))) ?_)
 show wpAny _ _ (if ((1:Int) == 1)=true then _ else _) _ _ s
 rw[aaF (by decide)]
 refine aad (afm ?_)
 first
  | simp only[ve hsz,aeh,ae4]
  | refine W.KFB.if_not (ve hsz) ?_
 first|refine aad (aao ?_)|skip
 show wpAny _ _ (updateSeq l (λxs=>xs.extract 0 ((a:Int)).toNat++new++xs.extract (max (a:Int) (c:Int)).toNat xs.size) >>= _) _ _ s
 rw[abj,adX]
 refine aad (wpAny_updateSeq (hz:=aam (aaJ _ _) hsz) (_hz':=Er) e rfl ?_)
 refine aad (afC ?_)
 first
  | exact aad (aao (aao ⟨.none,rfl,aao h⟩))
  | exact aao ⟨.none,rfl,aao h⟩
end
section
variable {X:Cx}
end
end L2
namespace X6
open PySem PySem.W PySem.Calls PyProof.Rows
theorem wk:∀(ns:List Int) (vs:List Value),WellAll P h vs (ns.map WData.int)->IntsAre vs ns:=by
 intro ns
 induction ns with
 | nil=>
  intro vs w
  rw[ad5]at w
  cases w
  exact .nil
 | cons n ns ih=>
  intro vs w
  rw[aaB]at w
  cases w with
  | cons a b=>
   cases a
   exact .cons _ _ (ih _ b)
theorem IJ{l:OpenLaw}{n:Nat}(hn:l.most=some n){P:Params}{h:Heap}{args:List WData}{vals:List Value}
 (F4:l.row.toRowW.claim.pre args=true) (uI:WellAll P h vals args) :
 ∃a vs ns,vals=[Value.ref a]/\args=[WData.list (ns.map WData.int)]/\h.get? a=some {cls:=.type "list",data:=.seq vs.toArray} /\ IntsAre vs ns/\ns.length<=n:=by
 have hsh:WShape.hasAll [] args [.list .int]=true:=(pre_splitW F4).1
 have hc:l.pre.holds [] {args:=args} = true:=(pre_splitW F4).2
 obtain⟨d,r,rfl,h1,h2⟩:=hasAllW_cons hsh
 obtain rfl:=hasAllW_nil h2
 obtain⟨xs,rfl,h3⟩:=hasW_list h1
 obtain⟨ns,rfl⟩:=items_int h3
 have hlen:ns.length<=n:=by
  unfold OpenLaw.pre at hc
  have h4:(WTm.not (.lt (.lit (.int (n:Int))) (.len (.arg 0)))).holds [] {args:=[.list (ns.map .int)] } = true:=by
   have h4:=(holds_andW hc).1
   rw[hn]at h4
   exact h4
  have h5:=condW_of h4 (w_not (w_lt w_lit (w_len_list (w_arg rfl))))
  rw[aaa]at h5
  refine agm λq=>?_
  have q':(n:Int)<((ns.length:Nat):Int):=by lia
  first
   | (rw[aaN q']at h5;exact absurd h5 (by decide))
   | (simp at h5;lia)
 cases uI with
 | cons w1 w2=>
  cases w2
  cases w1 with
  | list ho jn=>exact⟨_,_,ns,rfl,rfl,ho,wk ns _ jn,hlen⟩
theorem IK(l:OpenLaw)(args:List WData):l.row.toRowW.claim.post args (.bool true) args=true:=
 postW_of (r:=l.row.toRowW) (X:=(true == true))
  (show WShape.has [] (.bool true) .bool=true by first|rfl|decide|simp[WShape.has,WShape.arms,WShape.armsAll])
  (show (WTm.eq .res (.lit (.bool true))).value [] {args:=args,res:=some (.bool true),after:=args} = some (.bool (true == true)) from w_eq_bool (w_res rfl) w_lit) rfl
theorem DV{l:OpenLaw}{n:Nat}{q:Program}{loose:List Str}{XP:(Str->Option Value)->Heap->Prop}{YP:World->Heap->Prop}{d:DefRec}
 (hn:l.most=some n) (IL:d.params.defaults=[])
 (call:∀(w:World) (nz eP:Shared) (mg mb:Str->Option Value) (fa:Addr) (o:Obj) (pm cd doc:Value) (a:Addr) (vs:List Value) (ns:List Int),
  Ground q loose [] XP w nz mg mb eP.heap->YP w eP.heap->
  eP.heap.get? fa=some o->o.data=.func (docDef d.name d.params d.body d.scope pm cd doc)->eP.heap.CodeRec cd d.name->mg d.name=some (.ref fa)->
  eP.heap.get? a=some {cls:=.type "list",data:=.seq vs.toArray} -> IntsAre vs ns->ns.length<=n->eP.gens = #[]->
  codeAny (model l.prog w) callerA (.call (.ref fa) ⟨[.ref a],[]⟩) (λr s'=>r=.ok (.ret (.bool true))/\OldK eP.heap s'.heap/\s'.os=eP.os/\AllBare s'.gens) eP) :
 WalkO q loose XP YP l.row.toRowW d [] (λf vs=>PySem.call f vs):=by
 intro w nz eP mg mb G Y fa o pm cd doc dV kV ho hd sv hD IP hg args vals as F4 aik hrd uI X7
 obtain rfl:dV=.none:=Dflts.none hD IL
 obtain rfl:kV=.none:=Dflts.noKw hD
 obtain⟨a,vs,ns,rfl,rfl,Ln,hints,hlen⟩:=IJ hn F4 uI
 refine enter_call (agA (call w nz eP mg mb fa o pm cd doc a vs ns G Y ho (fd_plain hd) sv IP Ln hints hlen hg) λr s' hq=>?_)
 obtain⟨rfl,h2,h3,h4⟩:=hq
 exact⟨.inl ⟨.bool true,.bool true,[],rfl,λ_=>rfl,.bool true,IK l _,λ_=>⟨List.Pairwise.nil,λ_ hm=>(nomatch hm)⟩⟩,h2,h3,h4⟩
section
variable {prog:Program}{w:World}{A:Around}{E:Value->Shared->Prop}{s:Shared}{K:Frag}
end
end X6
namespace L2
open PySem PySem.Spec PyProof.Rows
theorem yP:∀{vs:List Value}{ns:List Int},IntsAre vs ns->Vals (ns.map V.int) vs
 | _,_,.nil=>.nil
 | _,_,.cons n t h=>.cons ⟨t,rfl⟩ (yP h)
def Lo(H:Hp):Prop:=∀b,H b=none\/∃o xs,H b=some (.du o (.lst xs))
theorem Lp{P:Program}{w:World}{K:W.Frag}{mg mb:Str->Option Value}{CX:sD}{k:Nat}{fa a:Addr}{fd:FuncData}{x:Str}{sp:Sp}{eP:Shared}{vs:List Value}{ns:List Int}
 (KX:K.In eP.heap) (Nr:eP.heap.Ns mainGlobals mg) (hb:eP.heap.Ns builtinsNs mb) (hbb:∀x:Str,x ≠ "__name__" -> mb x=bootBuiltins x) (abk:eP.heap.NoLimit) (hg:eP.gens = #[])
 (ha:eP.heap.get? a=some {cls:=.type "list",data:=.seq vs.toArray}) (hi:IntsAre vs ns) (hl:ns.length<=sizeLine) (hr:aN k callerA)
 (F:∀base:Heap,K.In base->base.Ns mainGlobals mg->ax P w K mg base CX k fa fd [x] sp) (W6:∀(s:Shared) (u:Value),BindsTo s fd ⟨[u],[]⟩ [(x,u)])
 (rH:∀H:Hp,Lo H->ar K H a (ns.map V.int)->sp [.ref a] H (λv _=>v=.bl true) λ_ _ _=>False)
 (Q3:∀H e s',CX [] H eP (λ_ _ _=>False) e s'->False) :
 codeAny (model P w) callerA (.call (.ref fa) ⟨[.ref a],[]⟩) (λr s'=>r=.ok (.ret (.bool true))/\OldK eP.heap s'.heap/\s'.os=eP.os/\AllBare s'.gens) eP:=by
 have rv:=yP hi
 have abl:=hi.length
 have core:∀H:Hp,Lo H->ar K H a (ns.map V.int)->gu P w H eP.heap->(∀b,H b≠none->b=a)->(H a≠none->K.lookup a=none)->
  codeAny (model P w) callerA (.call (.ref fa) ⟨[.ref a],[]⟩) (λr s'=>r=.ok (.ret (.bool true))/\OldK eP.heap s'.heap/\s'.os=eP.os/\AllBare s'.gens) eP:=by
  intro H hO hS hok hA hK
  have Es:∀{b:Addr}{o:Obj},eP.heap.get? b=some o->H b=none->(qx eP.heap H).get? b=some o:=λe n=>K7 e n
  have IB:∀{b:Addr}{o:Obj}{es:Array DictEntry}{ep:Nat},eP.heap.get? b=some o->o.data=.dict es ep->H b=none:=λ{b o es ep} e d=>by
   cases q:H b with
   | none=>rfl
   | some u=>
    have e':b=a:=hA b (by rw[q];simp)
    subst e'
    rw[ha]at e;cases e
    have d':Data.seq vs.toArray _=Data.dict es ep:=d
    cases d'
  have Nt:∀{b:Addr}{m:Str->Option Value},eP.heap.Ns b m->(qx eP.heap H).Ns b m:=λ{b m} ⟨o,es,ep,e,d,r⟩=>⟨o,es,ep,Es e (IB e d),d,r⟩
  have X8:K.In (qx eP.heap H):=λb o e=>Es (KX b o e) (by
   cases q:H b with
   | none=>rfl
   | some u=>
    have e':b=a:=hA b (by rw[q];simp)
    subst e'
    rw[hK (by rw[q];simp)]at e;cases e)
  have hM:Mod K mg (qx eP.heap H):=⟨X8,Nt Nr,⟨mb,Nt hb,hbb⟩,let ⟨mc,h1,h2⟩:=abk; ⟨mc,Nt h1,h2⟩⟩
  have e0:pC P w K mg (qx eP.heap H) callerA [] eP H:=⟨rfl,hM,λb o e=>O1 e,agy (Ic _ _),trivial,λb hb=>absurd (show b∈([]:List Addr) from hb) (by simp),hok,.of_eq hg⟩
  refine agA ((F _ X8 (Nt Nr)).run callerA [] eP H ⟨[.ref a],[]⟩ [.ref a] [.ref a] _ _ hr e0 (W6 eP (.ref a)) (.cons rfl .nil) (rH H hO hS)) λr s' h=>?_
  cases r with
  | error e=>exact(Q3 H e s' h).elim
  | ok fl=>
   cases fl with
   | next=>exact False.elim h
   | brk=>exact False.elim h
   | cont=>exact False.elim h
   | ret u=>
    obtain⟨v,H',os,bare,un,abm,r',q⟩:=h
    have q':v=.bl true:=q
    subst q'
    obtain rfl:u=Value.bool true:=r'
    refine⟨rfl,OldK.of_keep λb o e=>?_,os,bare⟩
    cases q:H b with
    | none=>exact un.keep b o e q (by intro z;exact absurd (show b∈([]:List Addr) from z) (by simp)) (by simp)
    | some u=>
     rcases hO b with z|⟨ob,xs,z⟩
     . rw[q]at z;cases z
     . have z2:=un.frzs b ob _ z
       obtain⟨e1,_⟩:=hok b _ z
       obtain⟨e2,_⟩:=abm b _ z2
       rw[e]at e1;cases e1
       exact e2
 cases hk:K.lookup a with
 | some o=>
  have e:=KX a o hk
  rw[ha]at e
  cases e
  refine core (λ_=>none) (λ_=>.inl rfl) (.inr ⟨_,vs.toArray,_,hk,rfl,rfl,rfl,by rw[aan,abl];exact hl,by simpa using rv⟩) (λb u z=>by have z':(none:Option HO)=some u:=z;cases z') (λb z=>absurd rfl z) λz=>absurd rfl z
 | none=>
  refine core (λb=>if b=a then some (.du {cls:=.type "list",data:=.seq vs.toArray} (.lst (ns.map V.int))) else none) (λb=>?_) (.inl (.inr ⟨{cls:=.type "list",data:=.seq vs.toArray},aaF rfl⟩)) (λb u z=>?_) (λb z=>?_) λ_=>hk
  . by_cases hb:b=a
    . exact .inr ⟨_,_,aaF hb⟩
    . exact .inl (aaz hb)
  . by_cases hb:b=a
    . have z':=(aaF hb).symm.trans z
      cases z'
      subst hb
      exact⟨ha,by rw[aaa];exact hl,vs,_,rv,ha⟩
    . have z':=(aaz hb).symm.trans z
      cases z'
  . by_cases hb:b=a
    . exact hb
    . exact absurd (aaz hb) z
theorem Pj{l:W.OpenLaw}{n k:Nat}{q:Program}{loose:List Str}{XP:(Str->Option Value)->Heap->Prop}{YP:World->Heap->Prop}{d:DefRec}{K:Params->W.Frag}{CX:World->sD}{sp:World->Sp}{x:Str}
 (hn:l.most=some n) (jk:n<=sizeLine) (IL:d.params.defaults=[]) (hr:aN k callerA)
 (hY:∀(w:World) (h:Heap),YP w h->(K w.params).In h)
 (F:∀(w:World) (mg:Str->Option Value) (fa:Addr) (h:Heap),(K w.params).In h->h.Ns mainGlobals mg->mg d.name=some (.ref fa)->
  ∃fd:FuncData,(∀(s:Shared) (u:Value),BindsTo s fd ⟨[u],[]⟩ [(x,u)])/\
   ∀base:Heap,(K w.params).In base->base.Ns mainGlobals mg->ax l.prog w (K w.params) mg base (CX w) k fa fd [x] (sp w))
 (rH:∀(w:World) (H:Hp) (a:Addr) (ns:List Int),ns.length<=n->Lo H->ar (K w.params) H a (ns.map V.int)->sp w [.ref a] H (λv _=>v=.bl true) λ_ _ _=>False)
 (Q3:∀(w:World) (H:Hp) (s:Shared) (e:Value) (s':Shared),CX w [] H s (λ_ _ _=>False) e s'->False) :
 W.WalkO q loose XP YP l.row.toRowW d [] (λf vs=>PySem.call f vs):=by
 refine X6.DV hn IL λw nz eP mg mb fa o pm cd doc a vs ns G Y ho hd sv IP Ln hints hlen hg=>?_
 have KX:=hY w _ Y
 obtain⟨fd,hb,hF⟩:=F w mg fa _ KX G.T.g IP
 exact Lp KX G.T.g G.T.b G.T.builtins G.T.nolimit hg Ln hints (aam hlen jk) hr hF hb (λH hO hS=>rH w H a ns hlen hO hS) λH e s'=>Q3 w H eP e s'
def inClass(s:Stmt)(j:Nat):Stmt:=match s with
 | .ClassDef _ _ _ body _ _ _ _ _ _ _=>body.getD j (.Pass ⟨0,0,0,0⟩)
 | _=>.Pass ⟨0,0,0,0⟩
def jC(s:Stmt):Arguments:=match s with
 | .FunctionDef _ a _ _ _ _ _ _ _ _=>a
 | _=>{posonlyargs:=[],args:=[],vararg:=none,kwonlyargs:=[],kw_defaults:=[],kwarg:=none,defaults:=[] }
def eK(s:Stmt):List Stmt:=match s with
 | .FunctionDef _ _ b _ _ _ _ _ _ _=>b
 | _=>[]
def az(s:Stmt):Scope:=match s with
 | .FunctionDef _ _ _ _ _ _ sc _ _ _=>sc
 | _=>{kind:=.function,names:=[],isGenerator:=false,isCoroutine:=false}
abbrev aB:sD:=λ_ _ _ _ _ _=>False
abbrev E0:XK:=λ_ _ _=>False
theorem dv:Passes aB X E0:=λ_ _ _ _ _ _ _ h=>h.elim
structure aK(K:W.Frag) (x qual:Str) (st:Stmt) (f:Addr) (fd:FuncData):Prop where
 ex:∃(oc:Value) (od:Option Addr) (kV doc pm:Value) (an:Option Addr) (cdv ct:Value) (yN:Array (Option Value)),
  fd=W.fnOf x qual (jC st) (eK st) (az st) .none kV doc pm an cdv ct/\K.lookup f=some ⟨oc,od,.func fd,yN⟩/\W.codeIn K cdv qual=true
 kp:W.keepIn K (.ref f)=true
section
variable {P:Program}{w:World}{K:W.Frag}{mg:Str->Option Value}{base:Heap}
theorem aK.ok{x qual:Str}{st:Stmt}{f:Addr}{fd:FuncData}{N ps:List Str}{k:Nat}{sp:Sp}(F:aK K x qual st f fd) (S:aJ N ps (az st)) (len:∀vs H Q E,sp vs H Q E->vs.length=ps.length)
 (vT:∀(cdv:Value) (A:Around) (outer:List Env) (s:Shared) (H:Hp) (vs:List V) (Q:VK) (E:XK),aN k (A.deeper (envOfC qual (az st) s.heap.objs.size f cdv))->sp vs H Q E->
  ∃t,jO (pD aB P w K mg base N qual (az st) f cdv A outer s H E).yI (eK st) t/\t {nx:=λ_ H'=>Q .aV H',rt:=Q} (start N vs) H):ax P w K mg base aB (k+1) f fd ps sp:=by
 obtain⟨oc,od,kV,doc,pm,an,cdv,ct,yN,rfl,lk,sv⟩:=F.ex
 refine WV lk sv S len λA outer s H vs Q E hr rH=>?_
 obtain⟨t,h,q⟩:=vT cdv A outer s H vs Q E hr rH
 exact⟨t,h.yI,q⟩
theorem aK.binds{x qual:Str}{st:Stmt}{f:Addr}{fd:FuncData}{ps:List Str}(F:aK K x qual st f fd)
 (h:∀(kV doc pm:Value) (an:Option Addr) (cdv ct:Value) (us:List Value),us.length=ps.length->bindArgs (W.fnOf x qual (jC st) (eK st) (az st) .none kV doc pm an cdv ct) ⟨us,[]⟩=pure (ps.zip us)):Binds K fd ps []:=by
 obtain⟨oc,od,kV,doc,pm,an,cdv,ct,yN,rfl,lk,sv⟩:=F.ex
 exact .all (h kV doc pm an cdv ct)
theorem Q4{x qual:Str}{st:Stmt}{f:Addr}{oc:Value}{od an:Option Addr}{yN:Array (Option Value)}{kV doc pm cdv ct:Value}(l:K.lookup f=some ⟨oc,od,.func (W.fnOf x qual (jC st) (eK st) (az st) .none kV doc pm an cdv ct),yN⟩)
 (c:W.codeIn K cdv qual=true) (k:W.keepIn K (.ref f)=true):aK K x qual st f (W.fnOf x qual (jC st) (eK st) (az st) .none kV doc pm an cdv ct):=⟨⟨oc,od,kV,doc,pm,an,cdv,ct,yN,rfl,l,c⟩,k⟩
end
theorem eS(hr:aN k A):A.units+1<cLine:=adH (agW (by decide:1<=64) _) hr.units
theorem yQ(h:n<=1000):n<sizeLine:=adH h (by decide)
section
variable {X:Cx}
theorem pv(i:Nat){x:Str}{pos:Pos}(hN:X.N[i]?=some x:=by rfl) (hv:Qv X.env.scope x:=by first|exact Or.inl rfl|exact Or.inr (Or.inl rfl)|exact Or.inr (Or.inr rfl)) (hd:(x == ("__debug__" : Str))=false:=by decide)
 (sv:(x == ("__classdict__" : Str))=false:=by decide):PE X (.Name x pos) (d6 i):=Qx hN hv hd sv
end
theorem kL{A B:Prop}(h:B):if false=true then A else B:=by
 rw[aaz aaE]
 exact h
theorem qD{A B:Prop}(h:A):if true=true then A else B:=by
 rw[aaF rfl]
 exact h
theorem kM{c A B:Prop}[Decidable c] (h1:c->A) (h2:¬ c->B):if c then A else B:=by
 by_cases h:c
 . rw[aaF h]
   exact h1 h
 . rw[aaz h]
   exact h2 h
def ak(H H':Hp):Prop:=∀b o,H b=some o->H' b=some o
theorem ak.trans(a:ak H H1)(b:ak H1 H2):ak H H2:=λc o h=>b c o (a c o h)
theorem ak.free(e:ak H H')(h:H' l=Option.none):H l=Option.none:=by
 cases q:H l with
 | none=>rfl
 | some o=>
  rw[e l o q]at h
  cases h
theorem ak.seq{K:W.Frag}{H H':Hp}{a:Addr}{xs:List V}(e:ak H H')(h:ar K H a xs):ar K H' a xs:=by
 rcases h with (h|⟨o,h⟩)|h
 . exact .inl (.inl (e _ _ h))
 . exact .inl (.inr ⟨o,e _ _ h⟩)
 . exact .inr h
section
variable {X:Cx}
end
theorem dk [Decidable p] (h:decide p=true:=by decide+kernel):p:=adh h
theorem fs(h:aJ N p sc:=by exact⟨rfl,rfl,rfl,by decide+kernel,rfl,by decide+kernel,by decide+kernel⟩):aJ N p sc:=h
section
variable {K:W.Frag}{x q:Str}{st:Stmt}{f:Addr}{fd:FuncData}
theorem iu{us:List α}(h:us.length=n+1):∃a t,us=a::t/\t.length=n:=by
 cases us with
 | nil=>cases h
 | cons a t=>exact⟨a,t,rfl,Nat.succ.inj h⟩
theorem aK.b1{p:Str}(F:aK K x q st f fd) (h:∀(kV doc pm:Value) (an:Option Addr) (cdv ct a:Value),bindArgs (W.fnOf x q (jC st) (eK st) (az st) .none kV doc pm an cdv ct) ⟨[a],[]⟩=pure [(p,a)]:=by intros;rfl):Binds K fd [p] []:=F.binds λkV doc pm an cdv ct us hl=>by obtain⟨a,t0,rfl,h0⟩:=iu hl;cases ads.mp h0;exact h kV doc pm an cdv ct a
theorem aK.b2{p p2:Str}(F:aK K x q st f fd) (h:∀(kV doc pm:Value) (an:Option Addr) (cdv ct a b:Value),bindArgs (W.fnOf x q (jC st) (eK st) (az st) .none kV doc pm an cdv ct) ⟨[a,b],[]⟩=pure [(p,a),(p2,b)]:=by intros;rfl):Binds K fd [p,p2] []:=F.binds λkV doc pm an cdv ct us hl=>by obtain⟨a,t0,rfl,h0⟩:=iu hl;obtain⟨b,t1,rfl,h1⟩:=iu h0;cases ads.mp h1;exact h kV doc pm an cdv ct a b
theorem aK.b3(F:aK K x q st f fd) (h:∀(kV doc pm:Value) (an:Option Addr) (cdv ct a b c:Value),bindArgs (W.fnOf x q (jC st) (eK st) (az st) .none kV doc pm an cdv ct) ⟨[a,b,c],[]⟩=pure [(p,a),(p2,b),(p3,c)]:=by intros;rfl):Binds K fd [p,p2,p3] []:=F.binds λkV doc pm an cdv ct us hl=>by obtain⟨a,t0,rfl,h0⟩:=iu hl;obtain⟨b,t1,rfl,h1⟩:=iu h0;obtain⟨c,t2,rfl,h2⟩:=iu h1;cases ads.mp h2;exact h kV doc pm an cdv ct a b c
theorem aK.b4(F:aK K x q st f fd) (h:∀(kV doc pm:Value) (an:Option Addr) (cdv ct a b c d:Value),bindArgs (W.fnOf x q (jC st) (eK st) (az st) .none kV doc pm an cdv ct) ⟨[a,b,c,d],[]⟩=pure [(p,a),(p2,b),(p3,c),(p4,d)]:=by intros;rfl):Binds K fd [p,p2,p3,p4] []:=F.binds λkV doc pm an cdv ct us hl=>by obtain⟨a,t0,rfl,h0⟩:=iu hl;obtain⟨b,t1,rfl,h1⟩:=iu h0;obtain⟨c,t2,rfl,h2⟩:=iu h1;obtain⟨d,t3,rfl,h3⟩:=iu h2;cases ads.mp h3;exact h kV doc pm an cdv ct a b c d
theorem aK.b7(F:aK K x q st f fd) (h:∀(kV doc pm:Value) (an:Option Addr) (cdv ct a b c d e g i:Value),bindArgs (W.fnOf x q (jC st) (eK st) (az st) .none kV doc pm an cdv ct) ⟨[a,b,c,d,e,g,i],[]⟩=pure [(p,a),(p2,b),(p3,c),(p4,d),(p5,e),(p6,g),(p7,i)]:=by intros;rfl):Binds K fd [p,p2,p3,p4,p5,p6,p7] []:=F.binds λkV doc pm an cdv ct us hl=>by obtain⟨a,t0,rfl,h0⟩:=iu hl;obtain⟨b,t1,rfl,h1⟩:=iu h0;obtain⟨c,t2,rfl,h2⟩:=iu h1;obtain⟨d,t3,rfl,h3⟩:=iu h2;obtain⟨e,t4,rfl,h4⟩:=iu h3;obtain⟨g,t5,rfl,h5⟩:=iu h4;obtain⟨i,t6,rfl,h6⟩:=iu h5;cases ads.mp h6;exact h kV doc pm an cdv ct a b c d e g i
theorem aK.run(F:aK K x q st f fd) (S:aJ N ps (az st))
 (vT:∀(cdv:Value) (A:Around) (outer:List Env) (s:Shared) (H:Hp) (vs:List V) (Q:VK) (E:XK),aN k (A.deeper (envOfC q (az st) s.heap.objs.size f cdv))->sp vs H Q E->
  ∃t,jO (pD aB P w K mg base N q (az st) f cdv A outer s H E).yI (eK st) t/\t {nx:=λ_ H'=>Q .aV H',rt:=Q} (start N vs) H)
 (len:∀vs H Q E,sp vs H Q E->vs.length=ps.length:=by intro _ _ _ _ h;cases h;subst_vars;rfl):ax P w K mg base aB (k+1) f fd ps sp:=F.ok S len vT
structure jq(P:Program) (w:World) (K:W.Frag) (mg:Str->Option Value) (base:Heap) (k:Nat) (f:Addr) (d:FuncData) (x:Str) (ps:List Str) (sp:Sp):Prop where
 g:ax P w K mg base aB k f d ps sp
 m:mg x=some (.ref f)
 k:W.keepIn K (.ref f)=true
 b:Binds K d ps []
end
section
variable {X:Cx}{k:Nat}{f C:Addr}{fd:FuncData}{ps:List Str}{sp:Sp}{x m:Str}{p pos apos:Pos}{e o:Expr}{es:List Expr}{ta:TE}{t:TA}
theorem bb(F:jq X.prog X.w X.K X.mg X.base k f fd x ps sp)(hr:aN k X.A) (ha:PA X (e::es) t) (hg:Gl X x:=by rfl) (hx:Passes aB X E0:=by exact dv) (l8:(x == ("__debug__" : Str))=false:=by decide) (he:starEach (e::es) X.env=(false,eval e X.env)::starEach es X.env:=by rfl) (jl:(backTo pos (starEach es X.env)).any (·.1)=false:=by rfl) :
 PE X (.Call (.Name x p) (e::es) [] pos) (nB sp [] E0 t):=dm F.g hr hg F.m F.k F.b .nil hx ha l8 he jl
end
section
variable {X:Cx}{k:Nat}{f C:Addr}{fd:FuncData}{ps:List Str}{sp:Sp}{x m:Str}{p pos pos' apos:Pos}{e o:Expr}{es:List Expr}{ta te:TE}{t:TA}
theorem aP(i:Nat)(hN:X.N.Nodup)(he:PE X e te)(hi:X.N[i]?=some x:=by rfl)(hx:Loc X.env.scope x:=by first|exact Or.inl rfl|exact Or.inr rfl) (hs:swapsWith e (some (.Name x pos')) pos.line X.env=pure false:=by rfl) (hf:X.fn x=true\/X.env.scope.names.lookup x=some .local:=by first|exact .inl rfl|exact .inr rfl|assumption) :
 PS X (.Assign [.Name x pos'] e pos) (AF te (eD i)):=QE hN hi hx he hs hf
theorem bt(he:PE X o ta)(c:jQ X.K C)(hm:Meth X.K C m f)(F:ax X.prog X.w X.K X.mg X.base aB k f fd ps sp)(hr:aN k X.A)(hb:Binds X.K fd ps []) (ha:PA X (e::es) t) (hx:Passes aB X E0:=by exact dv)
 (gz:starEach (e::es) X.env=(false,eval e X.env)::starEach es X.env:=by rfl) (jl:(backTo pos (starEach es X.env)).any (·.1)=false:=by rfl)
 (ht:eval (.Call (.Attribute o m apos) (e::es) [] pos) X.env=(do
  let ov ← eval o X.env
  standAt apos.atName
  let (f,first) ← holding [ov] (getMethod ov m pl)
  callWith pos f first (backTo pos (starEach (e::es) X.env)) (backToKw pos (keywordEach [] X.env))):=by rfl) :
 PE X (.Call (.Attribute o m apos) (e::es) [] pos) (vS C m sp [] E0 ta t):=Em he c hm F hr hb .nil hx ha gz jl ht
end
end L2
set_option maxHeartbeats 4000000
namespace L2
open PySem PySem.Spec PyProof.Rows
theorem qE(f:Str×NameKind->List (Str×Addr)->Sem (ForInStep (List (Str×Addr))))
 (hf:∀n k cs,f (n,k) cs=if (k == NameKind.free)=true then (cellOf env n >>= λa=>pure (ForInStep.yield ((n,a)::cs))) else pure (ForInStep.yield cs)) :
 ∀(names:List (Str×NameKind)) (acc:List (Str×Addr)),(∀x∈names,x.2=NameKind.free->∃c,env.cells.lookup x.1=some c)->(∀x c,acc.lookup x=some c->env.cells.lookup x=some c)->
  ∃cl,forIn names acc f=(pure cl:Sem (List (Str×Addr)))/\(∀x c,cl.lookup x=some c->env.cells.lookup x=some c)/\(∀x c,acc.lookup x=some c->∃c',cl.lookup x=some c')/\∀x∈names,x.2=NameKind.free->∃c,cl.lookup x.1=some c
 | [],acc,_,ha=>⟨acc,by simp,ha,λx c e=>⟨c,e⟩,λx hx=>by simp at hx⟩
 | (n,k)::r,acc,hn,ha=>by
  have Ay:∀x∈r,x.2=NameKind.free->∃c,env.cells.lookup x.1=some c:=λx hx=>hn x (aav _ hx)
  cases hk:k == NameKind.free with
  | false=>
   obtain⟨cl,e,h1,h2,h3⟩:=qE f hf r acc Ay ha
   refine⟨cl,?_,h1,h2,λx hx hz=>?_⟩
   . rw[aeE,hf,hk,aaz aaE,pure_bind]
     exact e
   . rcases aaj.mp hx with z|hx
     . subst z
       have Er:k=NameKind.free:=hz
       rw[Er]at hk
       exact absurd hk (by decide)
     . exact h3 x hx hz
  | true=>
   have nr:k=NameKind.free:=by cases k <;> first|rfl|exact absurd hk (by decide)
   obtain⟨c,hc⟩:=hn (n,k) aas nr
   have jF:env.cells.lookup n=some c:=hc
   obtain⟨cl,e,h1,h2,h3⟩:=qE f hf r ((n,c)::acc) Ay (λx d ed=>by
    rw[adU]at ed
    cases hx:x == n with
    | true=>
     rw[hx]at ed
     rw[eq_of_beq hx,jF]
     exact ed
    | false=>
     rw[hx]at ed
     exact ha x d ed)
   have rK:∃c',cl.lookup n=some c':=h2 n c (by rw[adU,aeU])
   refine⟨cl,?_,h1,λx d ed=>?_,λx hx hz=>?_⟩
   . rw[aeE,hf,hk,aaF rfl]
     unfold cellOf
     rw[jF]
     rw[pure_bind,pure_bind]
     exact e
   . cases hx:x == n with
     | true=>
      rw[eq_of_beq hx]
      exact rK
     | false=>
      refine h2 x d ?_
      rw[adU,hx]
      exact ed
   . rcases aaj.mp hx with z|hx
     . subst z
       exact rK
     . exact h3 x hx hz
theorem pS(h:∀x∈scope.names,x.2=NameKind.free->∃c,env.cells.lookup x.1=some c) :
 ∃cl,closureFor scope env=pure cl/\(∀x c,cl.lookup x=some c->env.cells.lookup x=some c)/\∀x∈scope.names,x.2=NameKind.free->∃c,cl.lookup x.1=some c:=by
 obtain⟨cl,e,h1,_,h3⟩:=qE (env:=env) (λp cs=>if (p.2 == NameKind.free)=true then (cellOf env p.1 >>= λa=>pure (ForInStep.yield ((p.1,a)::cs))) else pure (ForInStep.yield cs)) (λn k cs=>rfl) scope.names [] h (λx c z=>by simp at z)
 refine⟨cl,?_,h1,h3⟩
 have key:closureFor scope env=(forIn scope.names ([]:List (Str×Addr)) (λ(p:Str×NameKind) cs=>if (p.2 == NameKind.free)=true then (cellOf env p.1 >>= λa=>pure (ForInStep.yield ((p.1,a)::cs))) else pure (ForInStep.yield cs)) >>= λcs=>pure cs):=rfl
 rw[key,e,pure_bind]
theorem lookup_mem{names:List (Str×NameKind)}{x:Str}{k:NameKind}(h:names.lookup x=some k):(x,k)∈names:=by
 induction names with
 | nil=>simp at h
 | cons p r ih=>
  obtain⟨n,j⟩:=p
  rw[adU]at h
  cases hx:x == n with
  | true=>
   rw[hx]at h
   have e:j=k:=aay h
   rw[eq_of_beq hx,e]
   exact aas
  | false=>
   rw[hx]at h
   exact aav _ (ih h)
def pF(env:Env)(p:Str×NameKind):Str×NameKind:=if (p.2 == NameKind.free && env.scope.kind == .function && env.kindOf p.1 == some .cell) then (p.1,.cell) else p
theorem rL(scope:Scope)(env:Env):(relabel scope env).names=scope.names.map (pF env):=rfl
theorem pG:∀(names:List (Str×NameKind)) (x:Str),(names.map (pF env)).lookup x=(names.lookup x).map λk=>(pF env (x,k)).2
 | [],x=>rfl
 | (n,k)::r,x=>by
  rw[aaB]
  have e1:(pF env (n,k)).1=n:=by unfold pF;split <;> rfl
  have:pF env (n,k)=(n,(pF env (n,k)).2):=ag8 e1 rfl
  rw[this,adU,adU]
  cases hx:x == n with
  | true=>
   rw[eq_of_beq hx]
   rfl
  | false=>exact pG r x
theorem Lq(h:scope.names.lookup x=some .free):(relabel scope env).names.lookup x=some .cell\/(relabel scope env).names.lookup x=some .free:=by
 rw[rL,pG,h]
 unfold pF
 simp only[adQ]
 split
 . exact .inl rfl
 . exact .inr rfl
theorem F6(h:(relabel scope env).names.lookup x=some .cell\/(relabel scope env).names.lookup x=some .free):scope.names.lookup x=some .free\/scope.names.lookup x=some .cell:=by
 rw[rL,pG]at h
 cases e:scope.names.lookup x with
 | none=>rw[e]at h;rcases h with h|h <;> cases h
 | some k=>
  rw[e]at h
  simp only[adQ,Option.some.injEq]at h
  by_cases hf:k=.free
  . rw[hf];exact .inl rfl
  . have hb:(k == NameKind.free)=false:=by cases k <;> first|rfl|exact absurd rfl hf
    have:(pF env (x,k)).2=k:=by
     unfold pF
     simp[hb]
    rw[this]at h
    rcases h with h|h
    . rw[h];exact .inr rfl
    . exact absurd h hf
def jc(X:Cx)(N:List Str)(scope:Scope) (cl:List (Str×Addr)) (C:Addr) (s:Shared) (H:Hp) (fp:List Addr) (pn:List (Addr×Obj)):Cx where
 prog:=X.prog
 w:=X.w
 K:=X.K
 mg:=X.mg
 base:=X.base
 A:=X.A
 N:=N
 nz:=s
 FJ:=H
 env:=compEnvC scope cl C X.env
 outer:=X.stack
 stack:=X.stack
 ex:=fp
 fn:=λ_=>false
 calm:=true
 pn:=pn
 xe:=λ_ _=>False
abbrev wm(X:Cx)(N:List Str)(scope:Scope)(f:Str->Bool) (cl:List (Str×Addr)) (C:Addr) (s:Shared) (H:Hp) (fp:List Addr) (pn:List (Addr×Obj)):Cx:={jc X N scope cl C s H fp pn with fn:=f}
structure iQ(X:Cx) (N:List Str) (js:List (Option Nat)) (scope:Scope) (ys:List Str:=[]):Prop where
 kind:scope.kind=.function
 one:(scope.names.filter λp=>p.2 == .cell).map (·.1)=ys
 at_:∀y∈scope.names,y.2=.local\/y.2=.cell->scope.names.lookup y.1=some y.2
 frees:∀y∈scope.names,y.2=.free->X.env.kindOf y.1=some .cell\/X.env.kindOf y.1=some .free
 len:js.length=N.length
 pull:∀(i j:Nat) (x:Str),js[i]?=some (some j)->N[i]?=some x->X.N[j]?=some x/\scope.names.lookup x=some .free
def iw(xn:List Str) (names:List (Str×NameKind)):List Str->List (Option Nat)->Bool
 | [],[]=>true
 | _::N,none::js=>iw xn names N js
 | x::N,some j::js=>(match xn[j]? with|some y=>decide (y=x)|none=>false) && (match names.lookup x with|some .free=>true|_=>false) && iw xn names N js
 | _,_=>false
theorem qF:∀{N:List Str}{js:List (Option Nat)},iw xn names N js=true->js.length=N.length
 | [],[],_=>rfl
 | x::N,none::js,h=>by
  have:=qF (N:=N) (js:=js) (by simpa[iw]using h)
  simp[this]
 | x::N,some j::js,h=>by
  have h':iw xn names N js=true:=by
   simp only[iw,adj]at h
   exact h.2
  simp[qF h']
 | [],_::_,h=>by simp[iw]at h
 | _::_,[],h=>by simp[iw]at h
theorem sH:∀{N:List Str}{js:List (Option Nat)},iw xn names N js=true->∀(i j:Nat) (x:Str),js[i]?=some (some j)->N[i]?=some x->xn[j]?=some x/\names.lookup x=some .free
 | [],[],_,i,j,x,e,_=>by simp at e
 | y::N,none::js,h,i,j,x,e1,e2=>by
  cases i with
  | zero=>simp at e1
  | succ i=>
   exact sH (N:=N) (js:=js) (by simpa[iw]using h) i j x (by simpa using e1) (by simpa using e2)
 | y::N,some j'::js,h,i,j,x,e1,e2=>by
  simp only[iw,adj]at h
  obtain⟨⟨h1,h2⟩,h3⟩:=h
  cases i with
  | zero=>
   have ej:j'=j:=by simpa using e1
   have ey:y=x:=by simpa using e2
   subst ej ey
   constructor
   . cases q:xn[j']? with
     | none=>rw[q]at h1;cases h1
     | some z=>
      rw[q]at h1
      rw[adh h1]
   . cases q:names.lookup y with
     | none=>rw[q]at h2;cases h2
     | some k=>
      rw[q]at h2
      cases k <;> first|rfl|cases h2
  | succ i=>exact sH h3 i j x (by simpa using e1) (by simpa using e2)
 | [],_::_,h,_,_,_,_,_=>by simp[iw]at h
 | _::_,[],h,_,_,_,_,_=>by simp[iw]at h
def isFn:ScopeKind->Bool
 | .function=>true
 | _=>false
def sI(xn:List Str) (xs:List (Str×NameKind)) (N:List Str) (js:List (Option Nat)) (scope:Scope) (ys:List Str:=[]):Bool:=
 isFn scope.kind && decide ((scope.names.filter λp=>p.2 == .cell).map (·.1)=ys) && (scope.names.all λy=>match y.2 with
  | .cell=>(match scope.names.lookup y.1 with|some .cell=>true|_=>false)
  | .local=>(match scope.names.lookup y.1 with|some .local=>true|_=>false)
  | .free=>(match xs.lookup y.1 with|some .cell=>true|some .free=>true|_=>false)
  | _=>true) && iw xn scope.names N js
theorem iQ.of(h:sI X.N X.env.scope.names N js scope ys=true):iQ X N js scope ys:=by
 unfold sI at h
 simp only[adj,ad7,ac8]at h
 obtain⟨⟨⟨h1,h0⟩,h2⟩,h3⟩:=h
 refine⟨?_,h0,λy hy e=>?_,λy hy e=>?_,qF h3,sH h3⟩
 . cases q:scope.kind <;> rw[q]at h1 <;> first|rfl|cases h1
 . have:=h2 y hy
   rcases e with e|e <;> rw[e]at this ⊢
   all_goals
    cases q:scope.names.lookup y.1 with
    | none=>rw[q]at this;cases this
    | some k=>rw[q]at this;cases k <;> first|rfl|cases this
 . have:=h2 y hy
   rw[e]at this
   show X.env.scope.names.lookup y.1=some .cell\/X.env.scope.names.lookup y.1=some .free
   cases q:X.env.scope.names.lookup y.1 with
   | none=>rw[q]at this;cases this
   | some k=>rw[q]at this;cases k <;> first|exact .inl rfl|exact .inr rfl|cases this
theorem iQ.names(S:iQ X N js scope ys):∀y∈scope.names,y.2=.local->scope.names.lookup y.1=some .local:=λy hy e=>by
 rw[S.at_ y hy (.inl e),e]
theorem iQ.mem(S:iQ X N js scope ys)(hy:y∈scope.names)(e:y.2=.cell):y.1∈ys:=by
 rw[← S.one]
 exact List.mem_map_of_mem (adO.mpr ⟨hy,by rw[e];rfl⟩)
theorem iQ.IQ(S:iQ X N js scope):∀y∈scope.names,y.2≠.cell:=λy hy e=>by cases S.mem hy e
def ug(js:List (Option Nat)) (σ:St):St:=js.map λoj=>match oj with|none=>none|some j=>(σ[j]?).getD none
section
variable {X:Cx}{pins:List (Addr×Obj)}{σ:St}{H:Hp}{s:Shared}
theorem Inv.enter{f:Str->Bool}(I:Inv X pins σ H s)(S:iQ X N js scope ys)(hc:X.calm=true)(nf:∀x,scope.names.lookup x=some .free->f x=false)(one:∀x z,f x=true->f z=true->x=z)
 (gd:∀x c,cl.lookup x=some c->(f x=true/\c=C+1/\h'.IsCell c none)\/(f x=false/\X.env.cells.lookup x=some c)) (IS:∀x,scope.names.lookup x=some .free\/scope.names.lookup x=some .cell->∃c,cl.lookup x=some c) (hC:C=s.heap.objs.size)
 (hf:∀b∈fp,jL X pins H b) (hl:∀b∈fp,b<s.heap.objs.size) (hn:h'.Ns C m) (k:∀b o,s.heap.get? b=some o->h'.get? b=some o) :
 Inv (wm X N scope f cl C s H fp (X.pn++pins)) [] (ug js σ) H {s with heap:=h',toks:=tk}:=by
 have lt:∀b o,s.heap.get? b=some o->b≠C:=λb o e=>by
  rw[hC]
  exact aaD (aaw e)
 have X9:∀x c,X.env.cells.lookup x=some c->c≠C+1:=λx c e=>by
  obtain⟨v,o,ho,_⟩:=I.cell x c e
  rw[hC]
  exact aaD (adL (aaw ho))
 have stk:∀b,b≠X.env.locals->b∉X.fs->b∉nY X.stack:=λb h1 h2 z=>(aaj.mp (I.vM b z)).elim h1 h2
 have ok:(wm X N scope f cl C s H fp (X.pn++pins)).Ok:=by
  refine⟨I.ok.mod,S.kind,I.ok.glob,I.ok.blt,agy hC.symm,λx z c e1 e2=>?_,λx hx=>IS x (F6 hx),λx c e e1=>?_,λ_=>I.ok.hd hc,
   I.ok.frames,.inl rfl,λb hb=>⟨?_,λx c e=>?_⟩,I.bs,aam I.ok.bsz I.sz,λb o e hb=>?_,λb hb=>stk b (hf b hb).2.1 (hf b hb).2.2.1,I.stack,I.D9⟩
  . rcases gd x c e1 with⟨r1,r2,_⟩|⟨r1,r2⟩ <;> rcases gd z c e2 with⟨q1,q2,_⟩|⟨q1,q2⟩
    . exact one x z r1 q1
    . exact absurd r2 (X9 z c q2)
    . exact absurd q2 (X9 x c r2)
    . exact I.ok.inj x z c r2 q2
  . rcases gd x c e1 with⟨_,r2,_⟩|⟨r1,_⟩
    . rw[r2,hC];exact aen _
    . rw[show f x=true from e]at r1;cases r1
  . show b≠C
    rw[hC]
    exact aaD (hl b hb)
  . rcases gd x c e with⟨_,r2,_⟩|⟨_,r2⟩
    . rw[r2,hC];exact ad4 (adL (hl b hb))
    . exact(hf b hb).2.2.2.2.1 x c r2
  . rcases (hf b hb).2.2.2.1 with z|z
    . exact I.ok.noex b o e z
    . exact absurd (aaM (aaw e) (aam I.ok.bsz z)) (adJ _)
 refine⟨ok,rfl,I.bare,Un.kept k,⟨m,hn,λi x v e1 e2 e3=>?_⟩,λx c e=>?_,?_,λx c e=>?_,λp hp=>?_,I.hok.kept k,?_⟩
 . -- a name that the block closes over
   have wo:(ug js σ)[i]?=some (some v):=e2
   unfold ug at wo
   rw[aae]at wo
   cases q:js[i]? with
   | none=>rw[q]at wo;cases wo
   | some oj=>
    rw[q]at wo
    cases oj with
    | none=>cases wo
    | some j=>
     have ev:(σ[j]?).getD none=some v:=aay wo
     have ev':σ[j]?=some (some v):=by
      cases z:σ[j]? with
      | none=>rw[z]at ev;cases ev
      | some o=>rw[z]at ev;exact congrArg some ev
     obtain⟨n1,n2⟩:=S.pull i j x q e1
     obtain⟨c,jF⟩:=IS x (.inl n2)
     have hcX:X.env.cells.lookup x=some c:=by
      rcases gd x c jF with⟨z,_⟩|⟨_,z⟩
      . rw[nf x n2]at z;cases z
      . exact z
     obtain⟨m0,_,wq⟩:=I.loc
     have kx:=S.frees (x,.free) (lookup_mem n2) rfl
     have Ya:X.env.kindOf x=some .cell\/X.env.kindOf x=some .free:=kx
     obtain⟨u,ru,lk⟩:=wq j x v n1 ev' (Ya.elim (λz=>.inr (.inl z)) λz=>.inr (.inr z))
     refine⟨u,ru,.inr ⟨Lq n2,c,jF,?_⟩⟩
     rcases lk with⟨kl,_⟩|⟨_,c2,e2,ic⟩
     . rcases Ya with z|z <;> (rw[kl]at z;cases z)
     . rw[hcX]at e2
       cases e2
       obtain⟨o,ho,hd⟩:=ic
       exact⟨o,k c o ho,hd⟩
 . rcases gd x c e with⟨_,_,r2⟩|⟨_,r2⟩
   . exact⟨none,r2⟩
   . obtain⟨v,o,ho,hd⟩:=I.cell x c r2
     exact⟨v,o,k c o ho,hd⟩
 . show H C=none
   rw[hC]
   exact I.hok.fresh (aaf _)
 . rcases gd x c e with⟨_,r2,_⟩|⟨_,r2⟩
   . rw[r2,hC];exact I.hok.fresh (aen _)
   . exact I.freeC x c r2
 . have IT:p∈X.pn++pins:=by simpa[jc]using hp
   obtain⟨e,n,ne,nf,d⟩:=I.pin p IT
   exact⟨k _ _ e,n,lt _ _ e,stk _ ne nf,d⟩
 . show (ug js σ).length=N.length
   unfold ug
   rw[aaa]
   exact S.len
theorem Inv.left{f:Str->Bool}(I:Inv X pins σ H s)(hf:∀b∈fp,jL X pins H b)
 (J:Inv (wm X N scope f cl C s H fp pn) [] σc H' s'):Inv X pins σ H' s':=
 I.WL (ch:=fp) J.os J.base J.hok J.bare λb hb=>⟨(hf b hb).2.2.2.1,(hf b hb).2.1,(hf b hb).2.2.2.2.1,(hf b hb).2.2.2.2.2⟩
end
def sL(X:Cx)(ifs:List Expr)(t:TT):Prop:=
 ∀(pins:List (Addr×Obj)) (s:Shared) (σ:St) (H:Hp) (Q:Bool->Hp->Prop),Inv X pins σ H s->t σ H Q->
  wpAny (model X.prog X.w) X.A (forIn ifs true λc r=>if r=true then do let ok ← isTrue c X.env (eval c X.env);pure (ForInStep.yield ok) else pure (ForInStep.yield r)) (TP X pins σ Q) X.xe s
def oo:TT:=λ_ H Q=>Q true H
theorem bJ:sL X [] oo:=λpins s σ H Q I h=>by
 rw[aeR]
 exact aao ⟨H,I,h⟩
theorem Lr(hc:PT X c t):sL X [c] t:=λpins s σ H Q I h=>by
 rw[aeE]
 refine aad ?_
 rw[aaF rfl]
 refine aad (aO (hc pins s σ H Q I h) λb s1 h1=>?_)
 refine aao ?_
 show wpAny _ _ (forIn [] b _) _ _ _
 rw[aeR]
 exact aao h1
theorem A0(I:Nat->Shared->Prop)
 (turn:∀n s,I n s->wpAny (model prog w) A (pyNext it) (λr eP=>match r with
  | none=>R (.ok .next) eP
  | some v=>wpAny (model prog w) A (letOwnedTupleGo target it v) (λ_ Yb=>wpAny (model prog w) A (assign target env v) (λ_ xW=>
   wpAny (model prog w) A (forIn ifs true λc r=>if r=true then do let ok ← isTrue c env (eval c env);pure (ForInStep.yield ok) else pure (ForInStep.yield r)) (λok Pa=>
    if ok=true then wpAny (model prog w) A (eval elt env) (λx ado=>
     wpAny (model prog w) A (call (.builtin "list.append") [acc,x]) (λ_ adp=>∃m,m<n/\I m adp) (λ_ _=>False) ado) (λ_ _=>False) Pa
    else ∃m,m<n/\I m Pa) (λ_ _=>False) xW) (λ_ _=>False) Yb) (λ_ _=>False) eP) (λ_ _=>False) s)
 (n:Nat) (h:I n s) :
 codeAny (model prog w) A (.compLoop (.ListComp elt [⟨target,iter,ifs,0⟩] scope pos) 0 it acc env) R s:=by
 refine codeAny_loop rfl I (λn s hI=>?_) n h
 show wpAny _ A ((compTurn (.ListComp elt [⟨target,iter,ifs,0⟩] scope pos) 0 it acc env).onRaise (λx=>do noteFrame x env;theTreesLotGoes x)) _ _ s
 refine wpAny_noted ?_
 rw[compTurn_list]
 refine aad (af5 (aad (aef (turn n s hI) (λr eP pN=>?_) λ_ _ h'=>h'.elim)))
 cases r with
 | none=>exact aao pN
 | some v=>
  refine aad (aef pN (λ_ Yb adq=>?_) λ_ _ h'=>h'.elim)
  refine aad (aef adq (λ_ xW vb=>aad (aef vb (λok Pa xX=>?_) λ_ _ h'=>h'.elim)) λ_ _ h'=>h'.elim)
  cases ok with
  | false=>exact aao ⟨rfl,xX⟩
  | true=>
   exact aad (aad (aef xX (λx ado F7=>aad (aef F7 (λ_ adp jM=>aao (aao ⟨rfl,jM⟩)) λ_ _ h'=>h'.elim)) λ_ _ h'=>h'.elim))
def uJ(D:Addr)(g:TG)(ti:TT)(te:TE)(J:It)(W:Nat->Nat->St->Hp->Prop)(Q:Hp->Prop):Prop:=∀i m σ H,W i m σ H->
 (J.stop i H/\Q H)\/(J.go i H/\∀x H',J.yld i H x H'->g x σ H' λiZ H2=>ti iZ H2 λb H3=>
  if b=true then te iZ H3 λy H4=>∃acc,H4 D=some (.lst acc)/\acc.length<sizeLine/\∃m',m'<m/\W (i+1) m' iZ (upd H4 D (.lst (acc++[y])))
  else ∃m',m'<m/\W (i+1) m' iZ H3)
def IU(js:List (Option Nat)) (wi:TI) (g:TG) (ti:TT) (te:TE):TE:=λσ H Q=>wi σ H λJ H1=>∀D,H1 D=none->
 ∃W:Nat->Nat->St->Hp->Prop,(∃m,W 0 m (ug js σ) (upd H1 D (.lst [])))/\uJ D g ti te J W (λH'=>Q (.ref D) H')
section
variable {X:Cx}{N:List Str}{js:List (Option Nat)}{scope:Scope}{elt tg iter:Expr}{ifs:List Expr}{pos:Pos}{wi:TI}{g:TG}{ti:TT}{te:TE}
def Yc(X:Cx) (pins:List (Addr×Obj)) (σ:St) (Q:VK) (use:Option (Value->Sem Unit)) (R:Value->Shared->Prop):Prop:=
 ∀D C (H':Hp) (s':Shared),Inv X pins σ H' s'->(∃m,s'.heap.Ns C m)->H' C=none->C≠X.env.locals->(C∈X.ex\/X.nz.heap.objs.size<=C)->(∀x c,X.env.cells.lookup x=some c->c≠C)->(∀p∈X.pn++pins,p.1≠C)->Q (.ref D) H'->
  compPost (model X.prog X.w) X.A X.xe use R (.ref D) C (.ok .next) s'
def Et(X:Cx)(elt tg iter:Expr)(ifs:List Expr)(scope:Scope)(pos:Pos)(t:TE):Prop:=∀(pins:List (Addr×Obj)) (s:Shared) (σ:St) (H:Hp) (Q:VK) (use:Option (Value->Sem Unit)) (R:Value->Shared->Prop),Inv X pins σ H s->t σ H Q->Yc X pins σ Q use R->
 wpAny (model X.prog X.w) X.A (comprehension (.ListComp elt [⟨tg,iter,ifs,0⟩] scope pos) scope X.env (firstIterPos [⟨tg,iter,ifs,0⟩] pos) (newList []) false (eval iter X.env) use) R X.xe s
theorem Nu{f:Str->Bool}(hg:∀cl C s H fp pn,PG (wm X N scope f cl C s H fp pn) tg g) (ht:∀cl C s H fp pn,sL (wm X N scope f cl C s H fp pn) ifs ti) (he:∀cl C s H fp pn,PE (wm X N scope f cl C s H fp pn) elt te)
 (I3:Inv X pins σ H3 s3) (f3:∀b∈fp,jL X pins H3 b) (hC:C=s3.heap.objs.size) (lt3:∀b∈fp,b<s3.heap.objs.size) (gd:∀x c,cl.lookup x=some c->∀b∈fp,c≠b)
 (I4:Inv (wm X N scope f cl C s3 H3 fp (X.pn++pins)) [] σ4 H3 s4) (T:Turn X.prog X.w X.K tg J fp it tn) (A8:tn 0 s4.heap) (w0:W 0 m0 σ4 H3) (turn:uJ D g ti te J W (λH'=>Q (.ref D) H')) (hR:Yc X pins σ Q use R) :
 codeAny (model X.prog X.w) X.A (.compLoop (.ListComp elt [⟨tg,iter,ifs,0⟩] scope pos) 0 (.ref it) (.ref D) (compEnvC scope cl C X.env)) (compPost (model X.prog X.w) X.A X.xe use R (.ref D) C) s4:=by
 generalize hY:wm X N scope f cl C s3 H3 fp (X.pn++pins)=Y at I4
 have fY:∀{H':Hp},(∀b∈fp,H' b=none)->∀b∈fp,jL Y [] H' b:=λhn b hb=>by
  obtain⟨f0,fa,fb,fc,fd,fe⟩:=f3 b hb
  subst hY
  refine⟨hn b hb,?_,λz=>(aaj.mp (I3.vM b z)).elim fa fb,.inl hb,λx c e=>gd x c e b hb,λp hp=>fe p (by simpa[jc]using hp)⟩
  show b≠C
  rw[hC]
  exact aaD (lt3 b hb)
 obtain⟨e1,e2,e3,e4,e5,e6,e7⟩:Y.prog=X.prog/\Y.w=X.w/\Y.A=X.A/\Y.env=compEnvC scope cl C X.env/\(Y.xe=λ_ _=>False)/\Y.K=X.K/\Y.calm=true:=by subst hY;exact⟨rfl,rfl,rfl,rfl,rfl,rfl,rfl⟩
 refine A0 (λn s'=>∃i cm H',Inv Y [] cm H' s'/\tn i s'.heap/\(∀b∈fp,H' b=none)/\W i n cm H') ?_ m0 ⟨0,_,_,I4,A8,λb hb=>(f3 b hb).1,w0⟩
 rintro n s5 ⟨i,W7,H5,I5,Eg,Ni,w5⟩
 rcases turn i n W7 H5 w5 with⟨stop,qn⟩|⟨go,step⟩
 . have t:=T.done Y e1 e2 e6 e7 i [] s5 W7 H5 (λ_ _=>False) I5 (fY Ni) Eg stop
   subst hY
   refine aO t λr s6 z=>?_
   obtain⟨hr,I6⟩:=z
   subst hr
   have n:∀b o,s3.heap.get? b=some o->b≠C:=λb o e=>by
    rw[hC]
    exact aaD (aaw e)
   refine hR D C H5 s6 (I3.left f3 I6) (let ⟨m,hn,_⟩:=I6.loc; ⟨m,hn⟩) I6.free ?_ (.inr ?_) (λx c e=>?_) (λp hp=>?_) qn
   . rw[hC]
     exact ad4 I3.lt
   . rw[hC];exact I3.sz
   . obtain⟨v,o,ho,_⟩:=I3.cell x c e
     exact n _ _ ho
   . exact n _ _ (I3.pin p hp).1
 . have t:=T.item Y e1 e2 e6 e7 i [] s5 W7 H5 (λ_ _=>False) I5 (fY Ni) Eg go
   have hg:=hg cl C s3 H3 fp (X.pn++pins)
   have ht:=ht cl C s3 H3 fp (X.pn++pins)
   have he:=he cl C s3 H3 fp (X.pn++pins)
   rw[hY]at hg ht he
   rw[e3]at t
   refine aO t λr s6 z=>?_
   obtain⟨u,hr,h6⟩:=z
   subst hr
   refine aO h6 λ_ s7 z=>?_
   obtain⟨x,H7,I7,r7,y7,Q5,fr7⟩:=z
   have I7':=I7.pinned (fY fr7) (T.obj _ _ Q5)
   have again:∀{n':Nat}{IV:St}{H8:Hp}{s8:Shared},Inv Y ([]++sA fp s7.heap) IV H8 s8->n'<n->W (i+1) n' IV H8->
    ∃m,m<n/\∃i cm H',Inv Y [] cm H' s8/\tn i s8.heap/\(∀b∈fp,H' b=none)/\W i m cm H':=λ{n' IV H8 s8} I8 hm w8=>by
    refine⟨n',hm,i+1,IV,H8,I8.qz,T.keep _ _ _ Q5 λb hb o e=>(I8.pin (b,o) (aar _ (aar _ (nA hb e)))).1,λb hb=>?_,w8⟩
    obtain⟨o,e,d⟩:=T.obj _ _ Q5 b hb
    exact(I8.pin (b,o) (aar _ (aar _ (nA hb e)))).2.1
   have g7:=hg _ s7 W7 H7 x u _ I7' r7 (step x H7 y7)
   rw[e1,e2,e3,e4,e5]at g7
   refine aO g7 λ_ s8 z=>?_
   obtain⟨IV,H8,I8,q8⟩:=z
   have g8:=ht _ s8 IV H8 _ I8 q8
   rw[e1,e2,e3,e4,e5]at g8
   refine aO g8 λok s9 z=>?_
   obtain⟨H9,I9,q9⟩:=z
   cases ok with
   | false=>
    rw[aaz aaE]at q9 ⊢
    obtain⟨m',hm,w9⟩:=q9
    exact again I9 hm w9
   | true=>
    rw[aaF rfl]at q9 ⊢
    have g9:=he _ s9 IV H9 _ I9 q9
    rw[e1,e2,e3,e4,e5]at g9
    refine aO g9 λyv s10 z=>?_
    obtain⟨y,Yd,I10,r10,acc,hD,hl,m',hm,w10⟩:=z
    have Ye:=eJ (X:=Y) _ s10 IV Yd (.ref D) [y] (.ref D) [yv] (λ_ H'=>H'=upd Yd D (.lst (acc++[y]))) I10 rfl (.cons r10 .nil) ⟨D,acc,y,rfl,rfl,hD,hl,rfl⟩
    rw[e1,e2,e3,e5]at Ye
    refine aO Ye λ_ s11 z=>?_
    obtain⟨_,H11,I11,_,e11⟩:=z
    subst e11
    exact again I11 hm w10
theorem IW(S:iQ X N js scope)(hc:X.calm=true)(hi:PI X tg iter wi)
 (hg:∀cl C s H fp pn,PG (jc X N scope cl C s H fp pn) tg g) (ht:∀cl C s H fp pn,sL (jc X N scope cl C s H fp pn) ifs ti) (he:∀cl C s H fp pn,PE (jc X N scope cl C s H fp pn) elt te)
 (hs:∀x,foldedSetIterable iter X.env x=pure x):Et X elt tg iter ifs scope pos (IU js wi g ti te):=by
 intro pins s σ H Q use R I h hR
 obtain⟨cl,F8,gd,rM⟩:=pS (scope:=scope) (env:=X.env) λx hx hk=>I.ok.has x.1 (S.frees x hx hk)
 refine afY (use:=use) rfl hs F8 S.kind S.names (aO (hi pins s σ H _ I h) λxv s1 h1=>aO h1 λNh s2 h2=>?_)
 obtain⟨it,fp,tn,J,H2,e,I2,T,pK,f2,q2⟩:=h2
 subst e
 refine aeM (wpAny_newFunctionEnv S.IQ (by intro y hy;simp at hy) (λpN Q6 Q7=>?_) S.kind)
 dsimp only at Q6 Q7 ⊢
 have I3:Inv X pins σ (upd H2 s2.heap.objs.size (.lst [])) {s2 with heap:=s2.heap.push {cls:=.type "list",data:=.seq ([]:List Value).toArray},toks:=s2.toks}:=I2.FZ .nil (by show 0<=sizeLine;decide)
 have lt2:∀b∈fp,b<s2.heap.objs.size:=λb hb=>let ⟨o,e,_⟩:=T.obj _ _ pK b hb;aaw e
 have f3:∀b∈fp,jL X pins (upd H2 s2.heap.objs.size (.lst [])) b:=λb hb=>⟨by rw[ag (aaD (lt2 b hb))];exact(f2 b hb).1,(f2 b hb).2⟩
 obtain⟨W,⟨m0,w0⟩,turn⟩:=q2 s2.heap.objs.size (I2.hok.fresh (aaf _))
 have k1:∀b o,(s2.heap.push {cls:=.type "list",data:=.seq ([]:List Value).toArray}).get? b=some o->pN.get? b=some o:=λb o e=>Q7.extBut b o (aaD (aaw e)) (aac _ e)
 have l3:∀b∈fp,b<(s2.heap.push {cls:=.type "list",data:=.seq ([]:List Value).toArray}).objs.size:=λb hb=>by rw[adz];exact adL (lt2 b hb)
 have A8:tn 0 pN:=T.keep _ _ _ pK λb hb o e=>k1 b o (aac _ e)
 have I4:=I3.enter (f:=λ_=>false) (h':=pN) (tk:=s2.toks+([]:List (Str×Value)).length) S hc (λ_ _=>rfl) (λ_ _ e=>by cases e) (λx c e=>.inr ⟨rfl,gd x c e⟩) (λx hx=>hx.elim (λe=>rM _ (lookup_mem e) rfl) λe=>absurd rfl (S.IQ _ (lookup_mem e))) rfl f3 l3 Q6 k1
 have loop:=Nu (f:=λ_=>false) (iter:=iter) (pos:=pos) hg ht he I3 f3 rfl l3 (λx c e b hb=>(f3 b hb).2.2.2.2.1 x c (gd x c e)) I4 T A8 w0 turn hR
 exact codeAny_compStart_list loop (T.self _ 0 _ _ _ A8 loop)
theorem Et.pe(h:Et X elt tg iter ifs scope pos t):PE X (.ListComp elt [⟨tg,iter,ifs,0⟩] scope pos) t:=by
 intro pins s σ H Q I q
 rw[eval_ListComp]
 refine h pins s σ H Q none _ I q ?_
 rintro D C H' s' I' ⟨m,hn⟩ c1 c2 c3 c4 c5 q
 exact⟨m,hn,λh' Q8=>⟨.ref D,H',I'.turned (t':=s'.toks) (λb o hb e=>Q8.extBut b o hb e) c1 c2 c3 c4 c5,rfl,q⟩⟩
theorem Et.ps(h:Et X elt tg iter ifs scope pos t)(hN:X.N.Nodup)(IX:X.N[i]?=some x)(hx:X.env.scope.names.lookup x=some .local)
 (Q9:swapsWith (.ListComp elt [⟨tg,iter,ifs,0⟩] scope pos) (some (.Name x pos')) Ls.line X.env=pure true):PS X (.Assign [.Name x pos'] (.ListComp elt [⟨tg,iter,ifs,0⟩] scope pos) Ls) (AF t (eD i)):=by
 intro pins s σ H D I q
 rw[exec_Assign_Name_used _ _ _ _ Q9]
 refine aad (af5 (aad ?_))
 show wpAny _ X.A (do let _ ← comprehension (.ListComp elt [⟨tg,iter,ifs,0⟩] scope pos) scope X.env _ (newList []) false (eval iter X.env) (some (assign (.Name x pos') X.env))) _ _ s
 refine aad (aO (h pins s σ H _ (some (assign (.Name x pos') X.env)) (λ_ s'=>SP X pins D .next s') I q ?_) λ_ s' hq=>aao (aao hq))
 rintro Dd C H' s' I' ⟨m,hn⟩ c1 c2 c3 c4 c5 q
 show wpAny _ X.A (assign (.Name x pos') X.env (.ref Dd)) _ _ _
 refine wpAny_assign_Name (yG I' hN IX (.inl hx) (v:=.ref Dd) rfl (λIz I'' ⟨a,sb,ha⟩=>?_) (.inr hx))
 have ea:a≠C:=by
  rcases ha with ha|ha
  . rw[ha]
    exact aax c2
  . exact c4 x a ha
 exact⟨m,hn.sameBut sb (aax ea),λh' Q8=>⟨_,_,I''.turned (t':=Iz.toks) (λb o hb e=>Q8.extBut b o hb e) c1 c2 c3 c4 c5,q⟩⟩
theorem fu(S:sI X.N X.env.scope.names N js scope=true)(hc:X.calm=true)(hi:PI X tg iter wi)
 (hg:∀cl C s H fp pn,PG (jc X N scope cl C s H fp pn) tg g) (ht:∀cl C s H fp pn,sL (jc X N scope cl C s H fp pn) ifs ti) (he:∀cl C s H fp pn,PE (jc X N scope cl C s H fp pn) elt te)
 (hs:∀x,foldedSetIterable iter X.env x=pure x:=by intro _;rfl):PE X (.ListComp elt [⟨tg,iter,ifs,0⟩] scope pos) (IU js wi g ti te):=(IW (.of S) hc hi hg ht he hs).pe
theorem wt(hN:X.N.Nodup)(IX:X.N[i]?=some x)(hx:X.env.scope.names.lookup x=some .local)(S:sI X.N X.env.scope.names N js scope=true)(hc:X.calm=true)(hi:PI X tg iter wi)
 (hg:∀cl C s H fp pn,PG (jc X N scope cl C s H fp pn) tg g) (ht:∀cl C s H fp pn,sL (jc X N scope cl C s H fp pn) ifs ti) (he:∀cl C s H fp pn,PE (jc X N scope cl C s H fp pn) elt te)
 (Q9:swapsWith (.ListComp elt [⟨tg,iter,ifs,0⟩] scope pos) (some (.Name x pos')) Ls.line X.env=pure true:=by rfl)
 (hs:∀x,foldedSetIterable iter X.env x=pure x:=by intro _;rfl):PS X (.Assign [.Name x pos'] (.ListComp elt [⟨tg,iter,ifs,0⟩] scope pos) Ls) (AF (IU js wi g ti te) (eD i)):=(IW (.of S) hc hi hg ht he hs).ps hN IX hx Q9
end
def IY(D:Addr)(n:Nat)(Pv:Nat->List V->St->Hp->Prop):Nat->Nat->St->Hp->Prop:=λi m σ H=>i<=n/\m=n-i/\∃acc,H D=some (.lst acc)/\Pv i acc σ H
theorem cE(hi:i<n) (hD:H D=some (.lst acc)) (hp:Pv (i+1) acc σ H):∃m',m'<n-i/\IY D n Pv (i+1) m' σ H:=
 ⟨n-(i+1),by lia,hi,rfl,acc,hD,hp⟩
theorem fz(n:Nat)(Pv:Nat->List V->St->Hp->Prop)(h0:Pv 0 [] σ0 H0) (Ra:H0 D=some (.lst []))
 (fin:∀acc σ H,H D=some (.lst acc)->Pv n acc σ H->J.stop n H/\Q H)
 (step:∀i acc σ H,i<n->H D=some (.lst acc)->Pv i acc σ H->J.go i H/\∀x H',J.yld i H x H'->g x σ H' λiZ H2=>ti iZ H2 λb H3=>
  if b=true then te iZ H3 λy H4=>∃acc,H4 D=some (.lst acc)/\acc.length<sizeLine/\∃m',m'<n-i/\IY D n Pv (i+1) m' iZ (upd H4 D (.lst (acc++[y]))) else ∃m',m'<n-i/\IY D n Pv (i+1) m' iZ H3) :
 ∃W:Nat->Nat->St->Hp->Prop,(∃m,W 0 m σ0 H0)/\uJ D g ti te J W Q:=by
 refine⟨IY D n Pv,⟨n,aaO _,rfl,[],Ra,h0⟩,?_⟩
 rintro i m σ H ⟨hi,rfl,acc,hD,hp⟩
 rcases Nat.lt_or_ge i n with h|h
 . exact .inr (step i acc σ H h hD hp)
 . have e:i=n:=Nat.le_antisymm hi h
   subst e
   exact .inl (fin acc σ H hD hp)
section
variable {X:Cx}{pins:List (Addr×Obj)}{σ:St}{H:Hp}{s:Shared}{h':Heap}
theorem Inv.xZ{t':Nat}{fp:List Addr}(I:Inv X pins σ H s)(hf:∀b∈fp,jL X pins H b)(k:∀b o,b∉fp->s.heap.get? b=some o->h'.get? b=some o):Inv X pins σ H {s with heap:=h',toks:=t'}:=by
 have IZ:∀b u,H b=some u->b∉fp:=λb u e z=>by rw[(hf b z).1]at e;cases e
 refine I.step (g':=s.gens) (d':=s.drawn) (ch:=fp) (λb hb=>⟨(hf b hb).2.2.2.1,(hf b hb).2.1,(hf b hb).2.2.2.2.1,(hf b hb).2.2.2.2.2⟩) (λb o _ _ hc e _=>k b o hc e) (λb o _ _ hc e _=>⟨o.slots,k b o hc e⟩) (λ_ _ _ _ n=>n)
  (λb o hc e=>⟨o,k b o hc e⟩) (λ_ _ e=>e) (λ_ _ _ e=>e) (λb ps e=>⟨#[],by rw[e];simp⟩) (λm hm=>?_) (λb u e=>?_) I.bare
 . obtain⟨o,es,ep,ho,r⟩:=hm
   exact⟨o,es,ep,k _ o (λz=>(hf _ z).2.1 rfl) ho,r⟩
 . refine(I.hok b u e).jm (λc v hc q=>k c v ?_ q) (λ_ q=>q) λ_ _ q=>q
   rcases hc with z|z
   . rw[z];exact IZ b u e
   . exact IZ c _ z
theorem Inv.x8{t':Nat}{fp:List Addr}{T:Addr}{xs:List V}{its:List Value}(I:Inv X pins σ H s)(hf:∀b∈fp,jL X pins H b)(k:∀b o,b∉fp->s.heap.get? b=some o->h'.get? b=some o)
 (hT:s.heap.objs.size<=T) (ht:IsTup h' T its.toArray) (rv:Vals xs its) (hz:xs.length<=sizeLine):Inv X pins σ (upd H T (.tup xs)) {s with heap:=h',toks:=t'}:=by
 have IZ:∀b u,H b=some u->b∉fp:=λb u e z=>by rw[(hf b z).1]at e;cases e
 have Eu:H T=none:=I.hok.fresh hT
 have neT:∀b u,H b=some u->b≠T:=λb u e z=>by rw[z,Eu]at e;cases e
 have ltT:∀b o,s.heap.get? b=some o->b≠T:=λb o e=>aaD (aaM (aaw e) hT)
 refine I.step (g':=s.gens) (d':=s.drawn) (ch:=fp) (λb hb=>⟨(hf b hb).2.2.2.1,(hf b hb).2.1,(hf b hb).2.2.2.2.1,(hf b hb).2.2.2.2.2⟩) (λb o _ _ hc e _=>k b o hc e) (λb o _ _ hc e _=>⟨o.slots,k b o hc e⟩)
  (λb o _ e n=>by rw[ag (ltT b o e)];exact n) (λb o hc e=>⟨o,k b o hc e⟩) (λb ys e=>by rw[ag (neT b _ e)];exact e) (λb o u e=>by rw[ag (neT b _ e)];exact e)
  (λb ps e=>⟨#[],by rw[ag (neT b _ e),e];simp⟩) (λm hm=>?_) (λb u e=>?_) I.bare
 . obtain⟨o,es,ep,ho,r⟩:=hm
   exact⟨o,es,ep,k _ o (λz=>(hf _ z).2.1 rfl) ho,r⟩
 . by_cases hb:b=T
   . subst hb
     rw[af]at e
     cases e
     exact⟨hz,its,rv,ht⟩
   . rw[ag hb]at e
     refine(I.hok b u e).jm (λc v hc q=>k c v ?_ q) (λc q=>by rw[ag (neT c _ q)];exact q) λc ys q=>by rw[ag (neT c _ q)];exact q
     rcases hc with z|z
     . rw[z];exact IZ b u e
     . exact IZ c _ z
end
def Rb(z:Str):It:=⟨λi _=>i<z.cps.size,λi H x H'=>H'=H/\∃c,z.cps[i]?=some c/\x=.str ⟨#[c]⟩,λi _=>i=z.cps.size⟩
theorem A9{P:Program}{w:World}{K:W.Frag}{tg:Expr}(it:Addr)(z:Str)(t:Tok)(ty:String) (W:∀A:Around,A.handled=none->Walks P w A it [it] [it] z.cps.size (SignAt z) (λi h=>h.IsStrIter it ty z t i))
 (hs:∀(A:Around) (i:Nat) (s:Shared) (Q:Value->Shared->Prop) (E:Value->Shared->Prop),s.heap.IsStrIter it ty z t i->Q (.ref it) s->wpAny (model P w) A (pyIter (.ref it)) Q E s)
 (hn:["enumerate", "zip", "dict_itemiterator", "dict_reverseitemiterator", "odict_iterator", "itertools.zip_longest", "itertools.pairwise"].contains ty=false) :
 Turn P w K tg (Rb z) [it] it (λi h=>h.IsStrIter it ty z t i) where
 mem:=by simp
 obj:=λi h st b hb=>by
  have e:b=it:=by simpa using hb
  subst e
  obtain⟨o,e,c,d⟩:=st
  exact⟨o,e,λv z=>by rw[d]at z;cases z⟩
 keep:=λi h h' st k=>let ⟨o,e,r⟩:=st; ⟨o,k it (by simp) o e,r⟩
 item:=by
  intro X hP hw hK hc i pins s σ H E I hf st hg
  subst hP hw hK
  obtain⟨f0,f1,f2,f3,f4,f5⟩:=hf it (by simp)
  refine(W X.A (I.ok.hd hc)).item i s _ _ hg st λv h' tk hv cI kk=>?_
  obtain⟨c,u,ec,rfl⟩:=hv
  have I1:Inv X pins σ H {s with heap:=h',toks:=tk}:=I.turned (λb o hb e=>kk b o (by simpa using hb) e) f0 f1 f3 f4 f5
  obtain⟨o,e,oc,od⟩:=id cI
  exact⟨_,rfl,vP (s:={s with heap:=h',toks:=tk}) e oc od hn ⟨.str ⟨#[c]⟩,H,I1,⟨u,rfl⟩,⟨rfl,c,ec,rfl⟩,cI,λb hb=>(hf b hb).1⟩⟩
 done:=by
  intro X hP hw hK hc i pins s σ H E I hf st hg
  subst hP hw hK
  obtain⟨f0,f1,f2,f3,f4,f5⟩:=hf it (by simp)
  have sM:i=z.cps.size:=hg
  subst sM
  exact(W X.A (I.ok.hd hc)).done s _ _ st λh' tk kk=>⟨rfl,I.turned (λb o hb e=>kk b o (by simpa using hb) e) f0 f1 f3 f4 f5⟩
 self:=λA i s Q E st h=>hs A i s Q E st h
section
variable {X:Cx}{tg:Expr}
def abn(ts:TE):TI:=λσ H R=>ts σ H λx H1=>∃z,x=.str z/\R (Rb z) H1
theorem wu{l:Expr}{tl:TE}(hl:PE X l tl):PI X tg l (abn tl):=by
 intro pins s σ H R I h
 refine aO (hl pins s σ H _ I h) λv s1 ⟨x,H1,I1,r1,q1⟩=>?_
 obtain⟨z,e,q⟩:=q1
 subst e
 obtain⟨t,rfl⟩:=r1
 have fin:∀b∈[s1.heap.objs.size],jL X pins H1 b:=λb hb=>by
  have e:b=s1.heap.objs.size:=by simpa using hb
  subst e
  exact I1.qy (aaf _) (I1.hok.fresh (aaf _))
 cases ha:z.cps.all (· < 128) with
 | true=>
  refine wpAny_pyIter_ascii ha ?_
  exact⟨s1.heap.objs.size,[s1.heap.objs.size],_,_,H1,rfl,I1.kept (t':=s1.toks) λb o e=>aac _ e,
   A9 _ z t "str_ascii_iterator" (λA hA=>Walks.strAscii hA _ z t) (λ_ _ _ _ _ st h=>wpAny_pyIter_striter_ascii st h) (by decide),⟨_,aaq _ rfl,rfl,rfl⟩,fin,q⟩
 | false=>
  refine wpAny_pyIter_wide ha ?_
  exact⟨s1.heap.objs.size,[s1.heap.objs.size],_,_,H1,rfl,I1.kept (t':=s1.toks) λb o e=>aac _ e,
   A9 _ z t "str_iterator" (λA hA=>Walks.strWide hA _ z t) (λ_ _ _ _ _ st h=>wpAny_pyIter_striter_wide st h) (by decide),⟨_,aaq _ rfl,rfl,rfl⟩,fin,q⟩
end
def Yf(K:W.Frag)(a:Addr):It:=
 ⟨λi H=>∃xs x,ar K H a xs/\xs[i]?=some x,λi H v H'=>∃T x,v=.ref T/\H T=none/\H'=upd H T (.tup [.int (i:Int),x])/\∀xs,ar K H a xs->xs[i]?=some x,λi H=>∃xs,ar K H a xs/\xs.length<=i⟩
theorem I0{P:Program}{w:World}{K:W.Frag}{es:List Expr}{kk:Nat}{tp:Pos}(a e it:Addr)(Yg:e≠it):Turn P w K (.Tuple es kk tp) (Yf K a) [e,it] e (λi h=>(∃old,IsEnum h e it (i:Int) old)/\h.IsListIter it a i) where
 mem:=by simp
 obj:=λi h st b hb=>by
  obtain⟨⟨old,he⟩,o,e1,c,d⟩:=st
  rcases aaj.mp hb with z|z
  . subst z
    exact⟨_,he,λv z=>by
     have z':Data.fields _=Data.cell v:=z
     cases z'⟩
  . have z':b=it:=by simpa using z
    subst z'
    exact⟨o,e1,λv z=>by rw[d]at z;cases z⟩
 keep:=λi h h' st k=>⟨let ⟨old,he⟩:=st.1; ⟨old,k e (by simp) _ he⟩,st.2.at λo e1=>k it (by simp) o e1⟩
 item:=by
  intro X hP hw hK hc i pins s σ H E I hf st hg
  subst hP hw hK
  obtain⟨xs,x,hq,hx⟩:=hg
  obtain⟨its,rv,p,hz⟩:=I.list hq
  obtain⟨u,hu,ru⟩:=rv.get hx
  obtain⟨⟨old,he⟩,hit⟩:=st
  refine wpAny_pyNext_enum_item he hit p.isList (x:=u) (by simpa using hu) Yg λh' ho abo hT hsz hk=>?_
  refine⟨.ref s.heap.objs.size,rfl,?_⟩
  refine wpAny_letOwnedTupleGo_enum ho λh2 Ew oW=>?_
  have Ja:s.heap.objs.size≠e:=ad4 (aaw he)
  have yR:h2.get? s.heap.objs.size=some {cls:=.type "tuple",data:=.seq #[.int i s.toks,u] }:=(oW.2 _ Ja).trans hT
  have I1:Inv X pins σ (upd H s.heap.objs.size (.tup [.int (i:Int),x])) {s with heap:=h2,toks:=s.toks+1}:=I.x8 (its:=[.int i s.toks,u]) hf (λb o hb e1=>by
   have b1:b≠e:=λz=>hb (by simp[z])
   have b2:b≠it:=λz=>hb (by simp[z])
   exact(oW.2 b b1).trans (hk b o b1 b2 e1)) (aaf _) ⟨_,yR,rfl,_,rfl⟩ (.cons ⟨_,rfl⟩ (.cons ru .nil)) (by show 2<=sizeLine;decide)
  have fr:H s.heap.objs.size=none:=I.hok.fresh (aaf _)
  refine⟨.ref s.heap.objs.size,_,I1,rfl,⟨s.heap.objs.size,x,rfl,fr,rfl,λys hy=>by rw[I.uZ hy hq];exact hx⟩,⟨⟨u,?_⟩,abo.at λo e1=>(oW.2 it Yg.symm).trans e1⟩,λb hb=>?_⟩
  . have e3:(((i+1:Nat):Nat):Int)=(i:Int)+1:=by lia
    rw[e3]
    exact Ew
  . have kN:=(hf b hb).1
    have nb:b≠s.heap.objs.size:=by
     rcases aaj.mp hb with z|z
     . rw[z];exact aax Ja
     . have z':b=it:=by simpa using z
       rw[z']
       obtain⟨o,e1,_⟩:=hit
       exact aaD (aaw e1)
    rw[ag nb]
    exact kN
 done:=by
  intro X hP hw hK hc i pins s σ H E I hf st hg
  subst hP hw hK
  obtain⟨xs,hq,hx⟩:=hg
  obtain⟨its,rv,p,hz⟩:=I.list hq
  obtain⟨⟨old,he⟩,hit⟩:=st
  have hl:=rv.length
  exact wpAny_pyNext_enum_end (I.ok.hd hc) he hit p.isList (by simp;lia) λh' eb=>⟨rfl,I.xZ (t':=s.toks) hf λb o hb e1=>eb b o (λz=>hb (by simp[z])) e1⟩
 self:=λ_ _ _ _ _ st h=>let ⟨old,he⟩:=st.1;wpAny_pyIter_enum he h
section
variable {X:Cx}
def W8(K:W.Frag)(ta:TA):TI:=λσ H R=>ta σ H λvs H1=>∃a,vs=[.ref a]/\(∃xs,ar K H1 a xs)/\R (Yf K a) H1
theorem Ex{es:List Expr}{kk:Nat}{tp:Pos}{a:Expr}{ta:TA}{p pos:Pos}(hg:Gl X "enumerate")(hm:X.mg "enumerate" = none)(ha:PA X [a] ta) (hs:starEach [a] X.env=[(false,eval a X.env)]:=by rfl) :
 PI X (.Tuple es kk tp) (.Call (.Name "enumerate" p) [a] [] pos) (W8 X.K ta):=by
 intro pins s σ H R I h
 refine Call_ (jP I hg hm boot_enumerate (adk (aO (ha pos pins s σ H _ I h) λus s1 ⟨vs,H1,I1,r1,q1⟩=>?_) hs rfl))
 obtain⟨l,e,⟨xs,hq⟩,q⟩:=q1
 subst e
 cases r1 with
 | cons r rr=>
  cases rr
  cases r
  obtain⟨its,rv,pl,hz⟩:=I1.list hq
  refine call_enumerate_list pl.isList λh' he hit hsz hk=>?_
  refine wpAny_pyIter_enum he ?_
  have I2:Inv X pins σ H1 {s1 with heap:=h'}:=I1.kept (t':=s1.toks) hk
  refine⟨s1.heap.objs.size+1,[s1.heap.objs.size+1,s1.heap.objs.size],_,_,H1,rfl,I2,I0 l _ _ (ad4 (aeT _)),⟨⟨_,he⟩,hit⟩,λb hb=>?_,q⟩
  have kN:s1.heap.objs.size<=b:=by
   rcases aaj.mp hb with z|z
   . rw[z];exact aen _
   . have z':b=s1.heap.objs.size:=by simpa using z
     rw[z'];exact aaf _
  exact I1.qy kN (I1.hok.fresh kN)
def abp:V->Option Int->Option Int->Hp->VK->Prop:=λx lo hi H Q=>∃z j,x=.str z/\lo=none/\hi=some j/\z.length<=sizeLine/\Q (.str (Txt.slice z none (some j))) H
theorem wx:Np X abp:=by
 intro pins s σ H x v vl vu lo hi sl Q I rx hs pl pu h
 obtain⟨z,j,rfl,rfl,rfl,hz,q⟩:=h
 obtain⟨t,rfl⟩:=rx
 cases pl
 cases pu with
 | int _ uj=>
  refine⟨"str",_,F.slot_str_getitem.lookup,afk _ _ _,af9 (l:=none) (u:=some (j,uj)) (st:=none) hs rfl
   (post_val_or_str ⟨aam (Txt.slice_le z _ _) hz,λt' k=>⟨.str (Txt.slice z none (some j)),H,I.tok k,⟨t',rfl⟩,q⟩⟩)⟩
def rJoin(K:W.Frag):V->List V->Hp->VK->Prop:=λx vs H Q=>∃z a ys,x=.str z/\vs=[.ref a]/\ar K H a (ys.map V.str)/\(ys.map (·.length)).sum+ys.length*z.length<=16777216/\Q (.str (Txt.join z ys)) H
theorem wy:∀{ys:List Str}{us:List Value},Vals (ys.map V.str) us->StrsAre us ys
 | [],us,r=>by
  cases r
  exact .nil
 | y::ys,us,r=>by
  cases r with
  | cons h t=>
   obtain⟨tk,rfl⟩:=h
   exact .cons _ _ (wy t)
theorem Pk:wg X "str.join" (rJoin X.K):=by
 intro pins s σ H x vs v us Q I rx rv h
 obtain⟨z,a,ys,rfl,rfl,hq,hl,q⟩:=h
 obtain⟨t,rfl⟩:=rx
 obtain⟨u,rfl,ru⟩:=rv.one
 cases ru
 obtain⟨its,r,pl,_⟩:=I.list hq
 exact join_list pl.isList (by simpa using wy r) hl λt' k=>⟨.str (Txt.join z ys),H,I.tok k,⟨t',rfl⟩,q⟩
def Rc:V->List V->Hp->VK->Prop:=λx vs H Q=>∃z y,x=.str z/\vs=[.str y]/\z.length<=sizeLine/\(y.length == 0)=false/\
 (Builtin.Str.partsBetween z (Builtin.Str.occurrences z y 0 z.length (z.length+1)) y.length).length<=sizeLine/\∀p,H p=none->Q (.ref p) (upd H p (.lst ((Txt.split z y).map V.str)))
theorem rN:∀(tk:Nat) (xs:List Str),Vals (xs.map V.str) (strValues (numbered tk xs))
 | _,[]=>.nil
 | tk,x::r=>.cons ⟨tk,rfl⟩ (rN (tk+1) r)
theorem split_le(z y:Str) (h:(Builtin.Str.partsBetween z (Builtin.Str.occurrences z y 0 z.length (z.length+1)) y.length).length<=sizeLine):(Txt.split z y).length<=sizeLine:=by
 unfold Txt.split
 split
 . show 1<=sizeLine;decide
 . split
   . show 1<=sizeLine;decide
   . exact h
theorem Lu:wg X "str.split" Rc:=by
 intro pins s σ H x vs v us Q I rx rv h
 obtain⟨z,y,rfl,rfl,hz,hy,hl,q⟩:=h
 obtain⟨t,rfl⟩:=rx
 obtain⟨u,rfl,tu,rfl⟩:=rv.one
 have rO:=split_le z y hl
 have fin:∀(l:List (Str×Tok)) (tk:Nat),Vals ((Txt.split z y).map V.str) (strValues l)->
  EP X pins σ Q (.ref s.heap.objs.size) {s with heap:=s.heap.push {cls:=.type "list",data:=.seq (strValues l).toArray},toks:=tk}:=λl tk r=>
  ⟨.ref s.heap.objs.size,_,I.FZ r (by rw[aaa];exact rO),rfl,q _ (I.hok.fresh (aaf _))⟩
 cases h1:(decide (z.length<y.length) || decide (Builtin.Str.strKind z<Builtin.Str.strKind y)) with
 | true=>
  refine ae0 agn (afk _ _ _) afZ (afN _ _) (meets_str_split_cannot_occur z y t tu h1) ?_
  exact fin [(z,t)] s.toks (by
   have e:Txt.split z y=[z]:=aaF h1
   rw[e]
   exact .cons ⟨t,rfl⟩ .nil)
 | false=>
  cases hf:(Builtin.Str.occurrences z y 0 z.length (z.length+1)).isEmpty with
  | true=>
   refine ae0 agn (afk _ _ _) afZ (afN _ _) (meets_str_split_not_found z y t tu h1 hy hf) ?_
   exact fin [(z,t)] s.toks (by
    have e:Txt.split z y=[z]:=(aaz (afD h1)).trans (aaF hf)
    rw[e]
    exact .cons ⟨t,rfl⟩ .nil)
  | false=>
   refine ae0 agn (afk _ _ _) afZ (afN _ _) (meets_str_split_sep z y t tu h1 hy hf hz hl) ?_
   have e:Txt.split z y=Builtin.Str.partsBetween z (Builtin.Str.occurrences z y 0 z.length (z.length+1)) y.length:=(aaz (afD h1)).trans (aaz (afD hf))
   have:=fin (numbered s.toks (Builtin.Str.partsBetween z (Builtin.Str.occurrences z y 0 z.length (z.length+1)) y.length)) (s.toks+(Builtin.Str.partsBetween z (Builtin.Str.occurrences z y 0 z.length (z.length+1)) y.length).length) (by
    rw[e]
    exact rN _ _)
   show EP X pins σ Q _ {s with toks:=_,heap:=s.heap.push {cls:=.type "list",data:=.seq (strsFrom s.toks (Builtin.Str.partsBetween z (Builtin.Str.occurrences z y 0 z.length (z.length+1)) y.length)).toArray} }
   rw[strsFrom_eq]
   exact this
def Pl:V->List V->Hp->VK->Prop:=λx vs H Q=>∃l xs i y,x=.ref l/\vs=[.int i,y]/\H l=some (.lst xs)/\0<=i/\i<=xs.length/\xs.length<sizeLine/\Q .aV (upd H l (.lst (xs.take i.toNat++[y]++xs.drop i.toNat)))
theorem Jb:wg X "list.insert" Pl:=by
 intro pins s σ H x vs v us Q I rx rv h
 obtain⟨l,xs,i,y,rfl,rfl,hH,h0,hi,hz,q⟩:=h
 cases rx
 obtain⟨u1,u2,rfl,r1,r2⟩:=rv.two
 obtain⟨t1,rfl⟩:=r1
 obtain⟨z,its,n,r,hl,e⟩:=I.sG hH
 have hn:=pL
 have abq:¬ (!Builtin.List.listFitsIndex i)=true:=by
  have:Builtin.List.listFitsIndex i=true:=by
   unfold Builtin.List.listFitsIndex
   simp only[adj,ac8]
   constructor <;> lia
  rw[this]
  decide
 refine ae0 F.slot_list_insert ⟨_,e,rfl⟩ F.entry_list_insert (F.args_list_insert_3 _ _ _) (AutoListH.list_insert_list_int_val_1 l its.toArray n i t1 u2 abq (by rw[aan];lia)) ⟨e,?_⟩
 refine⟨.aV,_,I.AZ (its':=its.take i.toNat++[u2]++its.drop i.toNat) hH e ?_ (((r.take i.toNat).append (.cons r2 .nil)).append (r.drop i.toNat)) ?_,rfl,q⟩
 . have e1:(if i<0 then (i+((its.toArray.size:Nat):Int)).toNat else min i.toNat its.toArray.size)=i.toNat:=by
    rw[aaz (by lia),aan]
    lia
   show (its.toArray.extract 0 _).push u2++its.toArray.extract _=_
   rw[e1]
   apply Array.toList_inj.mp
   simp[adl]
 . simp only[aag,aaG,adK,abc]
   lia
end
section
variable {prog:Program}{w:World}{A:Around}{E:Value->Shared->Prop}
end
section
variable {X:Cx}{pos:Pos}
end
end L2
namespace Gen
open PySem
theorem Be{α:Type}[DecidableEq α]:∀(l t:List α),l.Nodup->(∀x∈l,x∈t)->l.length<=t.length
 | [],t,_,_=>aaO _
 | a::l,t,hn,hs=>by
  have ha:a∈t:=hs a aas
  obtain⟨h1,h2⟩:=aaP.mp hn
  have:=Be l (t.erase a) h2 λx hx=>(agM (λ(e:x=a)=>h1 (by rw[← e];exact hx))).mpr (hs x (aav _ hx))
  rw[af0 ha]at this
  have:0<t.length:=agv ha
  simp only[aaA]
  lia
theorem F9(k len:Nat):Builtin.Str.strSliceIndices none (some (k:Int)) 1 len=List.range (min k len):=by
 have h1:¬ ((k:Int)<0):=by lia
 have e:max (0:Int) (min (k:Int) (len:Int))=((min k len:Nat):Int):=by lia
 simp only[Builtin.Str.strSliceIndices,sliceRange,h1,ae4,show ((1:Int)>0)=True from by simp,afl,e]
 by_cases h:(0:Int)<((min k len:Nat):Int)
 . have e3:(((min k len:Nat):Int)-0+1-1) / 1=((min k len:Nat):Int):=by simp
   rw[aaF h,e3,adX]
   conv=>rhs;rw[← List.map_id (List.range (min k len))]
   exact adZ λj _=>by simp
 . have:min k len=0:=by lia
   simp[this]
theorem uK{α:Type}(l:List α)(n:Nat)(h:n<=l.length):(List.range n).filterMap (l[·]?)=l.take n:=by
 have:=StrLaws.picks l n 0 (by lia)
 simpa using this
theorem vf(x:Str)(k:Nat):(Txt.slice x none (some (k:Int))).cps.toList=x.cps.toList.take k:=by
 unfold Txt.slice
 rw[F9]
 have hl:x.cps.toList.length=x.length:=by simp[Str.length]
 split
 . rename_i h
   simp only[aeU,Bool.true_and,adi,aeY]at h
   rw[adl]
   lia
 . have e:(λ(i:Nat)=>x.cps[i]?)=(λ(i:Nat)=>x.cps.toList[i]?):=by funext i;simp
   show (List.filterMap (λ(i:Nat)=>x.cps[i]?) (List.range (min k x.length))).toArray.toList=_
   rw[List.toList_toArray,e,uK _ _ (by lia)]
   rcases Nat.le_total k x.length with h|h
   . rw[ae5 h]
   . rw[Nat.min_eq_right h,adl (by lia),adl (by lia)]
def aH:List Nat:=(List.range 26).map (· + 97)
theorem lT:c∈aH ↔ 97<=c/\c<=122:=by
 unfold aH
 simp only[aal,agQ]
 constructor
 . rintro⟨a,h,rfl⟩;lia
 . intro h;exact⟨c-97,by lia,by lia⟩
def isName(n:List Nat):Prop:=1<=n.length/\n.length<=8/\∀c∈n,c∈aH
def vg(n:List Nat):List (List Nat):=
 [n]++aH.map (λc=>n.take 7++[c])++aH.map (λc=>n.take 6++[c,113])++aH.map (λc=>n.take 6++[c,122])++aH.map (λc=>n.take 5++[c,113,122])
theorem Jc(hn:isName n)(hx:x∈vg n):isName x:=by
 obtain⟨h1,h2,h3⟩:=hn
 have tk:∀k,∀c∈n.take k,c∈aH:=λk c hc=>h3 c (adG hc)
 have Lv:113∈aH:=by decide
 have Lw:122∈aH:=by decide
 unfold vg at hx
 simp only[aap,aaC,aal]at hx
 rcases hx with (((rfl|⟨c,hc,rfl⟩)|⟨c,hc,rfl⟩)|⟨c,hc,rfl⟩)|⟨c,hc,rfl⟩
 . exact⟨h1,h2,h3⟩
 all_goals
  refine⟨by simp,by simp only[aag,aaG,aaA,aeC];lia,λd hd=>?_⟩
  simp only[aap,aaj,aat,adg]at hd
  rcases hd with hd|hd
  . exact tk _ d hd
  . rcases hd with rfl|hd <;> first|exact hc|(rcases hd with rfl|hd <;> first|exact Lv|exact Lw|(rcases hd with rfl <;> first|exact Lv|exact Lw))|(subst hd;first|exact Lv|exact Lw)
def sub(n:List Nat):List (List Nat):=
 (aH.filter λc=>decide (c≠113/\c≠122)).map (λc=>n.take 7++[c])++aH.map (λc=>n.take 6++[c,113])++aH.map (λc=>n.take 6++[c,122])
  ++ (aH.filter λc=>decide (some c≠n[5]?)).map (λc=>n.take 5++[c,113,122])
theorem Lx(h:x∈sub n):x∈vg n:=by
 unfold sub at h
 unfold vg
 simp only[aap,aaC,aal,adO]at h ⊢
 rcases h with ((⟨c,⟨hc,_⟩,rfl⟩|⟨c,hc,rfl⟩)|⟨c,hc,rfl⟩)|⟨c,⟨hc,_⟩,rfl⟩
 . exact .inl (.inl (.inl (.inr ⟨c,hc,rfl⟩)))
 . exact .inl (.inl (.inr ⟨c,hc,rfl⟩))
 . exact .inl (.inr ⟨c,hc,rfl⟩)
 . exact .inr ⟨c,hc,rfl⟩
theorem jY:aH.Nodup:=by decide
theorem jD{l:List Nat}(hl:l.Nodup)(p q:List Nat):(l.map λc=>p++c::q).Nodup:=by
 induction l with
 | nil=>exact adN
 | cons a l ih=>
  obtain⟨h1,h2⟩:=aaP.mp hl
  rw[aaB,aaP]
  refine⟨λh=>?_,ih h2⟩
  obtain⟨b,hb,e⟩:=aal.mp h
  have:=List.append_cancel_left e
  injection this with e1 _
  exact h1 (e1 ▸ hb)
theorem Pm:(p++[a]).getLast?=some a:=by simp
theorem Jd(n:List Nat):(sub n).Nodup:=by
 unfold sub
 have Ga:∀x∈aH.map (λc=>n.take 6++[c,113]),x.getLast?=some 113:=λx hx=>by
  obtain⟨c,_,rfl⟩:=aal.mp hx
  simp
 have Nv:∀x∈aH.map (λc=>n.take 6++[c,122]),x.getLast?=some 122:=λx hx=>by
  obtain⟨c,_,rfl⟩:=aal.mp hx
  simp
 have Nw:∀x∈(aH.filter λc=>decide (some c≠n[5]?)).map (λc=>n.take 5++[c,113,122]),x.getLast?=some 122:=λx hx=>by
  obtain⟨c,_,rfl⟩:=aal.mp hx
  simp
 have Gb:∀x∈(aH.filter λc=>decide (c≠113/\c≠122)).map (λc=>n.take 7++[c]),x.getLast?≠some 113/\x.getLast?≠some 122:=λx hx=>by
  obtain⟨c,hc,rfl⟩:=aal.mp hx
  obtain⟨_,hc⟩:=adO.mp hc
  have jF:=adh hc
  rw[Pm]
  exact⟨λe=>jF.1 (aay e),λe=>jF.2 (aay e)⟩
 refine aau.mpr ⟨aau.mpr ⟨aau.mpr ⟨jD (jY.filter _) _ _,jD jY _ _,?_⟩,jD jY _ _,?_⟩,jD (jY.filter _) _ _,?_⟩
 . intro a ha b hb e
   exact(Gb a ha).1 (e ▸ Ga b hb)
 . intro a ha b hb e
   rcases aap.mp ha with ha|ha
   . exact(Gb a ha).2 (e ▸ Nv b hb)
   . have:=Ga a ha
     rw[e,Nv b hb]at this
     cases this
 . intro a ha b hb e
   rcases aap.mp ha with ha|ha
   . rcases aap.mp ha with ha|ha
     . exact(Gb a ha).2 (e ▸ Nw b hb)
     . have:=Ga a ha
       rw[e,Nw b hb]at this
       cases this
   . obtain⟨c,_,rfl⟩:=aal.mp ha
     obtain⟨d,hd,rfl⟩:=aal.mp hb
     obtain⟨_,hd⟩:=adO.mp hd
     have hd':some d≠n[5]?:=adh hd
     rcases Nat.lt_or_ge 5 n.length with hl|hl
     . -- both have eight letters
       have e5:(n.take 6++[c,122])[5]?=(n.take 5++[d,113,122])[5]?:=by rw[e]
       have t6:(n.take 6).length=6:=by rw[aaG];lia
       have t5:(n.take 5).length=5:=by rw[aaG];lia
       rw[adI (by lia),adF (by lia),t5,List.getElem?_take]at e5
       simp at e5
       exact hd' e5.symm
     . have el:=congrArg List.length e
       simp only[aag,aaG,aaA,aeC]at el
       lia
theorem Gd(n:List Nat):100<=(sub n).length:=by
 unfold sub
 simp only[aag,aaa]
 have h1:aH.length=26:=by decide
 have h2:(aH.filter λc=>decide (c≠113/\c≠122)).length=24:=by decide
 have h3:25<=(aH.filter λc=>decide (some c≠n[5]?)).length:=by
  cases n[5]? with
  | none=>
   have:(aH.filter λc=>decide (some c≠none))=aH:=agX.mpr λc _=>by simp
   rw[this,h1]
   decide
  | some d=>
   have e:(aH.filter λc=>decide (some c≠some d))=aH.filter λc=>c != d:=by
    apply List.filter_congr
    intro c _
    by_cases h:c=d
    . subst h;simp
    . simp[h]
   rw[e]
   by_cases hd:d∈aH
   . obtain⟨a,b⟩:=lT.mp hd
     have:∀k,k<26->25<=(aH.filter λc=>c != k+97).length:=by decide
     have:=this (d-97) (by lia)
     rw[show d-97+97=d by lia]at this
     exact this
   . have:(aH.filter λc=>c != d)=aH:=agX.mpr λc hc=>by
      have:c≠d:=λe=>hd (e ▸ hc)
      simpa using this
     rw[this,h1]
     decide
 rw[h1,h2]
 lia
theorem Je(n:List Nat) (told:List (List Nat)) (h:told.length<100):∃x∈vg n,x∉told:=by
 apply afR
 intro hx
 have all:∀x∈sub n,x∈told:=λx hs=>afR λht=>hx ⟨x,Lx hs,ht⟩
 have:=Be (sub n) told (Jd n) all
 have:=Gd n
 lia
theorem yS:("" : Str).cps.toList=[]:=by decide+kernel
theorem W9:("q" : Str).cps.toList=[113]:=by decide+kernel
theorem Xa:("z" : Str).cps.toList=[122]:=by decide+kernel
theorem Rf:("qz" : Str).cps.toList=[113,122]:=by decide+kernel
theorem Ey:("abcdefghijklmnopqrstuvwxyz" : Str).cps.toList=aH:=by decide+kernel
theorem uh(a b:Str):(a++b).cps.toList=a.cps.toList++b.cps.toList:=by rw[Str.cps_append,Array.toList_append]
theorem Bf:∀ys:List Str,(Str.join "" ys).cps.toList=(ys.map (·.cps.toList)).flatten
 | []=>rfl
 | [x]=>by simp[Str.join]
 | x::y::r=>by
  have ih:=Bf (y::r)
  show (x ++ "" ++ Str.join "" (y::r)).cps.toList=_
  rw[uh,uh,ih,yS]
  simp
theorem Jf(ys:List Str):(Txt.join "" ys).cps.toList=(ys.map (·.cps.toList)).flatten:=by
 unfold Txt.join
 rw[StrLaws.glued_eq_join]
 exact Bf ys
def c7(n:Str):List Str:=aH.map λc=>Txt.slice n none (some 7)++⟨#[c]⟩
def Nx(n:Str):List Str:=aH.map λc=>Txt.slice n none (some 6)++⟨#[c]⟩ ++ "q"
def Ny(n:Str):List Str:=aH.map λc=>Txt.slice n none (some 6)++⟨#[c]⟩ ++ "z"
def c5(n:Str):List Str:=aH.map λc=>Txt.slice n none (some 5)++⟨#[c]⟩ ++ "qz"
def eO(n:Str):List Str:=[n]++c7 n++Nx n++Ny n++c5 n
theorem yT(n:Str):(eO n).map (·.cps.toList)=vg n.cps.toList:=by
 have s7:=vf n 7
 have s6:=vf n 6
 have s5:=vf n 5
 have e7:((7:Nat):Int)=7:=rfl
 have e6:((6:Nat):Int)=6:=rfl
 have e5:((5:Nat):Int)=5:=rfl
 rw[e7]at s7
 rw[e6]at s6
 rw[e5]at s5
 unfold eO vg c7 Nx Ny c5
 simp only[aah,adV,aaB,ad5,Function.comp_def,uh,s7,s6,s5,W9,Xa,Rf,ady,aeq,aeF]
theorem Pn{a b:Str}(h:a.cps.toList=b.cps.toList):a=b:=Str.ext' (Array.toList_inj.mp h)
def bp(z:Str):Prop:=isName z.cps.toList
theorem Ge(hn:bp n)(hz:z∈eO n):bp z:=by
 refine Jc hn ?_
 rw[← yT]
 exact aal.mpr ⟨z,hz,rfl⟩
theorem Gf(n:Str)(told:List Str)(h:told.length<100):∃x∈eO n,x∉told:=by
 obtain⟨x,hx,ht⟩:=Je n.cps.toList (told.map (·.cps.toList)) (by simpa using h)
 rw[← yT]at hx
 obtain⟨z,hz,rfl⟩:=aal.mp hx
 exact⟨z,hz,λhm=>ht (aal.mpr ⟨z,hm,rfl⟩)⟩
def gT:List Str:=["switch", "keep", "gate", "next", "never", "some", "wall", "row", "step", "piece", "lasso"]
theorem DW:Txt.split "switch keep gate next never some wall row step piece lasso" " " = gT:=by decide+kernel
theorem DX:∀x∈gT,bp x:=by
 have h:gT.all (λx=>decide (1<=x.cps.toList.length) && decide (x.cps.toList.length<=8) && x.cps.toList.all λc=>decide (c∈aH))=true:=by decide+kernel
 intro x hx
 have:=ad7.mp h x hx
 simp only[adj,ac8,ad7]at this
 exact⟨this.1.1,this.1.2,this.2⟩
theorem bp.len{z:Str}(h:bp z):z.length<=8:=by
 have:=h.2.1
 simpa[Str.length]using this
theorem DY(h1:1<=ys.length)(h2:ys.length<=8)(h:∀y∈ys,∃c∈aH,y=⟨#[c]⟩):bp (Txt.join "" ys):=by
 have e:∀zs:List Str,(∀y∈zs,∃c∈aH,y=⟨#[c]⟩)->(zs.map (·.cps.toList)).flatten.length=zs.length/\∀c∈(zs.map (·.cps.toList)).flatten,c∈aH:=by
  intro zs
  induction zs with
  | nil=>intro _;exact⟨rfl,λc hc=>by simp at hc⟩
  | cons z zs ih=>
   intro hz
   obtain⟨c,hc,rfl⟩:=hz z aas
   obtain⟨i1,i2⟩:=ih λy hy=>hz y (aav _ hy)
   refine⟨?_,λd hd=>?_⟩
   . rw[aaB,ahg,aag,i1]
     simp
     lia
   . rw[aaB,ahg,aap]at hd
     rcases hd with hd|hd
     . have:d=c:=by simpa using hd
       rw[this];exact hc
     . exact i2 d hd
 obtain⟨e1,e2⟩:=e ys h
 unfold bp isName
 rw[Jf,e1]
 exact⟨h1,h2,e2⟩
end Gen
namespace Gen
open PySem L2
def top(i:Nat):Stmt:=PySem.Challenge.pw_everguard_k45_rings_backward.main.body.getD i (.Pass ⟨0,0,0,0⟩)
abbrev Gg:Stmt:=top 15
abbrev Gh:Stmt:=top 16
abbrev Gi:Stmt:=top 17
abbrev ui:Stmt:=top 18
abbrev pT:Stmt:=top 19
abbrev qG:Stmt:=top 20
abbrev x9:Stmt:=top 21
abbrev ib:Stmt:=top 22
abbrev lI:Stmt:=top 23
structure Own(mg:Str->Option Value):Prop where
 len:mg "len" = none
 range:mg "range" = none
 enum:mg "enumerate" = none
 list:mg "list" = none
def fJ(xs:List V):Prop:=(∃a:Int,xs=[.int a])\/∃a b:Int,xs=[.int a,.int b]
def aU(H H':Hp)(l:Addr):Prop:=∀b o,H b=some o->b≠l->H' b=some o
theorem aU.trans(a:aU H H1 l)(b:aU H1 H2 l):aU H H2 l:=λc o h n=>b c o (a c o h n) n
theorem ak.keep(s:ak H H')(l:Addr):aU H H' l:=λb o h _=>s b o h
theorem aU.av{H:Hp}{l p:Addr}{o:HO}(hp:H p=none):aU H (upd H p o) l:=λb u h _=>by rw[ag (ae h hp)];exact h
theorem ak.av{H:Hp}{p:Addr}{o:HO}(hp:H p=none):ak H (upd H p o):=λb u h=>by rw[ag (ae h hp)];exact h
theorem aU.Jg:aU H (upd H l o) l:=λb u h n=>by rw[ag n];exact h
theorem aU.seq{K:W.Frag}{H H':Hp}{a l:Addr}{xs:List V}{n:List V}(e:aU H H' l) (hl:H l=some (.lst n)) (h:ar K H a xs) (hne:a≠l):ar K H' a xs:=by
 rcases h with (h|⟨o,h⟩)|h
 . exact .inl (.inl (e a _ h hne))
 . exact .inl (.inr ⟨o,e a _ h hne⟩)
 . exact .inr h
inductive Ez(K:W.Frag) (vs:List V) (H:Hp) (Q:VK):Prop
 | mk (a:Addr) (ns:List Int) (k:Int) (h1:vs=[.ref a,.int k]) (h2:ar K H a (ns.map V.int)) (h3:0<=k) (h4:∀v:Int,Q (.int v) H):Ez K vs H Q
def wz(K:W.Frag):Sp:=λvs H Q _=>Ez K vs H Q
inductive Jh(vs:List V) (H:Hp) (Q:VK):Prop
 | mk (c k:Int) (h1:vs=[.int c,.int k]) (h2:0<=k) (h3:k<=1000000) (h4:∀v:Int,0<=v->v<1999999973->Q (.int v) H):Jh vs H Q
def Nz:Sp:=λvs H Q _=>Jh vs H Q
inductive EA(vs:List V) (H:Hp) (Q:VK):Prop
 | mk (c k:Int) (h1:vs=[.int c,.int k]) (h2:0<=k) (h3:k<=1000) (h4:∀v:Int,Q (.int v) H):EA vs H Q
def wA:Sp:=λvs H Q _=>EA vs H Q
inductive EB(vs:List V) (H:Hp) (Q:VK):Prop
 | mk (l:Addr) (xs:List V) (m:Int) (h1:vs=[.ref l,.int m]) (h2:H l=some (.lst xs)) (h3:fJ xs) (h4:0<m) (h5:m<1073741824) (h6:∀(d:Int) (ys:List V) (H':Hp),0<=d->d<m->fJ ys->H' l=some (.lst ys)->aU H H' l->Q (.int d) H'):EB vs H Q
def sN:Sp:=λvs H Q _=>EB vs H Q
section
variable {P:Program}{w:World}{K:W.Frag}{mg:Str->Option Value}{base:Heap}
theorem Rg:aJ ["_law_script", "_law_k"] ["_law_script", "_law_k"] (az Gg):=fs
theorem Po(F:aK K "_law_cell_at" "_law_cell_at" Gg f fd)(T:Own mg):ax P w K mg base aB 1 f fd ["_law_script", "_law_k"] (wz K):=by
 refine F.run Rg λcdv A outer s H vs Q E hr h=>?_
 . obtain⟨a,ns,k,rfl,hS,h0,kk⟩:=h
   refine⟨_,ai (cy (cU Ah (pv 1) (bf bw (by rfl) T.len adm (aa (pv 0) ah)) (dz _)) (au (aL (aI aS (pv 0) (pv 1) (λ_ _=>rfl)))) ba)
    (au (aL ao)),?_⟩
   refine⟨_,rfl,_,rfl,a,_,rfl,.inl hS,_,_,rfl,rfl,_,rfl,?_⟩
   refine kM (λhc=>?_) (λ_=>kk 0)
   have jF:k<((ns.map V.int).length:Int):=adh hc
   rw[aaa]at jF
   have hk:k.toNat<ns.length:=by lia
   have e:((k.toNat:Nat):Int)=k:=by lia
   have yU:j8 (ns.map V.int) ((k.toNat:Nat):Int)=some (.int ns[k.toNat]):=aF (by rw[aae,aab hk];rfl)
   rw[e]at yU
   exact⟨_,rfl,_,rfl,a,_,_,.int ns[k.toNat],rfl,rfl,hS,yU,kk _⟩
theorem NA:aJ ["_law_cell", "_law_k", "_law_m"] ["_law_cell", "_law_k"] (az Gh):=fs
theorem Rh(F:aK K "_law_mix" "_law_mix" Gh f fd):ax P w K mg base aB 1 f fd ["_law_cell", "_law_k"] Nz:=by
 refine F.run NA λcdv A outer s H vs Q E hr h=>?_
 . obtain⟨c,k,rfl,h0,h1,kk⟩:=h
   refine⟨_,ai (aP 2 NA.nd (aX lZ (aX kH (aX ja (aX ja (aX lZ (pv 0) ao) (aX kH (aX kH (pv 1) (pv 1)) ao)) ao) ao) ao))
    (au (aL (aX lZ (aX kH (pv 2) (pv 2)) ao))),?_⟩
   refine⟨_,rfl,_,_,rfl,rfl,(by show (0:Int)<2147483629;decide),_,rfl,_,rfl,_,_,rfl,rfl,.inl ⟨by lia,by lia⟩,_,_,rfl,rfl,.inr ⟨by decide,by decide⟩,_,_,rfl,rfl,_,_,rfl,rfl,
    _,_,rfl,rfl,.inr ⟨by decide,by decide⟩,_,_,rfl,rfl,(by show (0:Int)<2147483647;decide),?_⟩
   generalize hm:((c % 2147483629+k*k*7919+11)*48271 % 2147483647:Int)=m
   have m0:0<=m:=by rw[← hm];exact ae6 _ (by decide)
   have m1:m<2147483647:=by rw[← hm];exact aez _ (by decide)
   refine⟨_,rfl,_,rfl,_,_,rfl,rfl,.inl ⟨by lia,by lia⟩,_,_,rfl,rfl,(by show (0:Int)<1999999973;decide),?_⟩
   exact kk _ (ae6 _ (by decide)) (aez _ (by decide))
theorem wB:aJ ["_law_cell", "_law_k", "_law_number", "_law_j"] ["_law_cell", "_law_k"] (az Gi):=fs
theorem Pp(F:aK K "_law_rich" "_law_rich" Gi f fd)(T:Own mg)(FM:aK K "_law_mix" "_law_mix" Gh fM Yh)(bM:Binds K Yh ["_law_cell", "_law_k"] []) (mM:mg "_law_mix" = some (.ref fM)) :
 ax P w K mg base aB 2 f fd ["_law_cell", "_law_k"] wA:=by
 have GM:ax P w K mg base aB 1 fM Yh ["_law_cell", "_law_k"] Nz:=Rh FM
 refine F.run wB λcdv A outer s H vs Q E hr h=>?_
 . obtain⟨c,k,rfl,h0,h1,kk⟩:=h
   refine⟨_,ai (aP 2 wB.nd ao)
    (ai (fi ac7 rfl (iq rfl T.range (aa ao ah)) (aC (i:=3) wB.nd rfl (Or.inl rfl))
     (au (aP 2 wB.nd (aX ja (aX kH (pv 2) ao) (dm GM hr rfl mM FM.kp bM .nil dv (aa (pv 0) (aa (aX ja (aX kH ao (pv 1)) (pv 3)) ah)))))))
    (au (aL (pv 2)))),?_⟩
   refine⟨12,rfl,by decide,by decide,j7 (n:=12) (λi σ H2=>H2=H/\∃(n:Int) (v:Option V),σ=[some (.int c),some (.int k),some (.int n),v]) ⟨rfl,0,none,rfl⟩ ?_ ?_⟩
   . rintro i σ H2 hi ⟨rfl,n,v,rfl⟩
     refine⟨_,rfl,_,_,rfl,rfl,.inr ⟨by decide,by decide⟩,_,rfl,_,rfl,_,_,rfl,rfl,.inl ⟨by decide,by decide⟩,_,rfl,_,_,rfl,rfl,?_⟩
     refine⟨_,_,rfl,by lia,by lia,λv Yi hv1=>⟨_,_,rfl,rfl,rfl,_,_,rfl⟩⟩
   . rintro σ H2 ⟨rfl,n,v,rfl⟩
     exact⟨_,rfl,kk n⟩
theorem Ji:aJ ["_law_left", "_law_many", "_law_digit"] ["_law_left", "_law_many"] (az ui):=fs
theorem ya(F:aK K "_law_pick" "_law_pick" ui f fd)(T:Own mg):ax P w K mg base aB 1 f fd ["_law_left", "_law_many"] sN:=by
 refine F.run Ji λcdv A outer s H vs Q E hr h=>?_
 . obtain⟨l,xs,m,rfl,hl,hp,m0,m1,kk⟩:=h
   refine⟨_,ai (aP 2 Ji.nd (aX lZ (aI aS (pv 0) ao (λ_ _=>rfl)) (pv 1)))
    (ai (Ik (aX t8 (aI aS (pv 0) ao (λ_ _=>rfl)) (pv 1)) (QD (pv 0) ao set_list))
    (au (aL (pv 2)))),?_⟩
   rcases hp with⟨a,rfl⟩|⟨a,b,rfl⟩
   . refine⟨_,rfl,l,_,_,.int a,rfl,rfl,ar.of hl,rfl,_,rfl,_,_,rfl,rfl,m0,?_⟩
     refine⟨_,rfl,l,_,_,.int a,rfl,rfl,ar.of hl,rfl,_,rfl,_,_,rfl,rfl,⟨m0,m1⟩,_,rfl,l,_,_,0,rfl,rfl,hl,rfl,?_⟩
     exact⟨_,rfl,kk _ _ _ (ae6 _ (by lia)) (aez _ m0) (.inl ⟨_,rfl⟩) af aU.Jg⟩
   . refine⟨_,rfl,l,_,_,.int a,rfl,rfl,ar.of hl,rfl,_,rfl,_,_,rfl,rfl,m0,?_⟩
     refine⟨_,rfl,l,_,_,.int a,rfl,rfl,ar.of hl,rfl,_,rfl,_,_,rfl,rfl,⟨m0,m1⟩,_,rfl,l,_,_,0,rfl,rfl,hl,rfl,?_⟩
     exact⟨_,rfl,kk _ _ _ (ae6 _ (by lia)) (aez _ m0) (.inr ⟨_,_,rfl⟩) af aU.Jg⟩
end
theorem small{n:Nat}(h:n<=1000):n<sizeLine:=yQ h
theorem kP(h:n<=1000):n<=sizeLine:=ael (yQ h)
inductive Bg(K:W.Frag) (vs:List V) (H:Hp) (Q:VK):Prop
 | mk (l t:Addr) (xs:List V) (told:List Str) (h1:vs=[.ref l,.ref t]) (h2:H l=some (.lst xs)) (h3:fJ xs) (h4:t≠l) (h5:ar K H t (told.map V.str)) (h6:told.length<100) (h7:∀(z:Str) (ys:List V) (H':Hp),bp z->z∉told->fJ ys->H' l=some (.lst ys)->aU H H' l->Q (.str z) H'):Bg K vs H Q
def uk(K:W.Frag):Sp:=λvs H Q _=>Bg K vs H Q
theorem yb(z:Str)(told:List Str):wa (.str z) (told.map V.str)=decide (z∈told):=by
 unfold wa
 rw[adb,adx,ac8]
 constructor
 . rintro⟨v,hv,e⟩
   obtain⟨y,hy,rfl⟩:=aal.mp hv
   have:y=z:=by simpa[mr]using e
   rw[← this];exact hy
 . intro h
   exact⟨.str z,aal.mpr ⟨z,h,rfl⟩,by simp[mr]⟩
theorem Jj(told:List Str):(told.map V.str).all nF=true:=by
 rw[ad7]
 intro v hv
 obtain⟨y,_,rfl⟩:=aal.mp hv
 rfl
theorem Jk{i:Nat}{c:Nat}(h:("abcdefghijklmnopqrstuvwxyz" : Str).cps[i]?=some c):aH[i]?=some c:=by
 rw[← Ey]
 simpa using h
theorem sO{α β:Type}{l:List α}{i:Nat}{c:α}(f:α->β)(h:l[i]?=some c):(l.take (i+1)).map f=(l.take i).map f++[f c]:=by
 rw[List.take_add_one,h]
 simp
theorem dJ{i:Nat}{x:V}{σ:St}{H:Hp}{A B:St->Hp->Prop}(h:A (σ.set i (some x)) H):eD i x σ H (λiZ H2=>oo iZ H2 (λb H3=>if b=true then A iZ H3 else B iZ H3)):=by
 show (if true=true then A (σ.set i (some x)) H else B (σ.set i (some x)) H)
 rw[aaF rfl]
 exact h
theorem Xb:(["_law_k", "_law_left", "_law_letters"]:List Str).Nodup:=dk
theorem Gj:(["_law_one", "_law_name"]:List Str).Nodup:=dk
theorem abr:(["_law_one", "_law_told"]:List Str).Nodup:=dk
section
variable {P:Program}{w:World}{K:W.Frag}{mg:Str->Option Value}{base:Heap}
abbrev Jl:List Str:=["_law_left", "_law_told", "_law_letters", "_law_words", "_law_size", "_law_name", "_law_some"]
theorem j9:aJ Jl ["_law_left", "_law_told"] (az pT):=fs
theorem nG{D:Addr}{te:TE}{Q:Hp->Prop}{H1:Hp}{nm:Str}(f:Nat->Str)(hD:H1 D=none)
 (he:∀(c:Nat) (H:Hp) (R:VK),c∈aH->R (.str (f c)) H->te [some (.str ⟨#[c]⟩),some (.str nm)] H R)
 (fin:Q (upd H1 D (.lst ((aH.map f).map V.str)))) :
 ∃W:Nat->Nat->St->Hp->Prop,(∃m,W 0 m [none,some (.str nm)] (upd H1 D (.lst [])))/\uJ D (eD 0) oo te (Rb "abcdefghijklmnopqrstuvwxyz") W Q:=by
 have hsz:("abcdefghijklmnopqrstuvwxyz" : Str).cps.size=26:=dk
 have Jm:aH.length=26:=by decide
 refine fz 26 (λi acc σ H=>acc=((aH.take i).map f).map V.str/\(∃v,σ=[v,some (.str nm)])/\H=upd H1 D (.lst acc)) ⟨rfl,⟨none,rfl⟩,rfl⟩ af ?_ ?_
 . rintro acc σ H _ ⟨rfl,_,rfl⟩
   refine⟨hsz.symm,?_⟩
   rw[adl (by rw[Jm];decide)]
   exact fin
 . rintro i acc σ H hi df ⟨rfl,⟨v,rfl⟩,rfl⟩
   refine⟨by show i<_;rw[hsz];exact hi,?_⟩
   rintro x H' ⟨rfl,c,hc,rfl⟩
   have jF:=Jk hc
   refine dJ ?_
   refine he c _ _ (aaK jF) ?_
   refine⟨_,af,?_,cE hi af ⟨?_,⟨_,rfl⟩,?_⟩⟩
   . rw[aaa,aaa,aaG]
     exact small (by lia)
   . rw[sO f jF,aah]
     rfl
   . rw[iO]
theorem Bh:∀zs:List Str,(∀y∈zs,∃c∈aH,y=⟨#[c]⟩)->(zs.map (·.length)).sum=zs.length
 | [],_=>rfl
 | z::zs,h=>by
  obtain⟨c,_,rfl⟩:=h z aas
  have ih:=Bh zs λy hy=>h y (aav _ hy)
  rw[aaB,List.sum_cons,ih,aaA]
  show 1+zs.length=zs.length+1
  lia
theorem vh(n:Str)(h:bp n)(k:Int):(Txt.slice n none (some k)).length<=8:=aam (Txt.slice_le n _ _) h.len
theorem oq(c:Nat):(⟨#[c]⟩:Str).length=1:=rfl
theorem wC(a b:Str):(a++b).length=a.length+b.length:=Str.length_append a b
theorem jZ(h:n<=100):n<=sizeLine:=aam h (by decide)
abbrev Pq(P:Program)(w:World)(K:W.Frag)(mg:Str->Option Value)(base:Heap)(f:Addr)(cdv:Value)(A:Around)(outer:List Env)(s:Shared)(H:Hp)(E:XK):Cx:=
 (pD aB P w K mg base Jl "_law_spelt" (az pT) f cdv A outer s H E).yI
abbrev yV:Str:="abcdefghijklmnopqrstuvwxyz"
theorem Gk{f:Addr}{cdv:Value}{A:Around}{outer:List Env}{s:Shared}{H:Hp}{E:XK}{Q:VK}{l t:Addr}{told:List Str}(hS:ar K H t (told.map V.str)) (hne:t≠l) (eE:told.length<100) (wq:∃xs,H l=some (.lst xs))
 (kk:∀(z:Str) (ys:List V) (H':Hp),bp z->z∉told->fJ ys->H' l=some (.lst ys)->aU H H' l->Q (.str z) H') :
 ∃tR:TS,jO (Pq P w K mg base f cdv A outer s H E) (List.drop 5 (eK pT)) tR/\∀(nm:Str) (ys:List V) (H4:Hp) (w1:Addr) (sz:Int),bp nm->fJ ys->H4 l=some (.lst ys)->aU H H4 l->
  tR {nx:=λ_ H'=>Q .aV H',rt:=Q} [some (.ref l),some (.ref t),some (.str yV),some (.ref w1),some (.int sz),some (.str nm),none] H4:=by
 refine⟨_,ai (aP 6 j9.nd (aX kK (aX kK (cY (aa (pv 5) ah))
  (fu (N:=["_law_one", "_law_name"]) (js:=[none,some 5]) (by kernel_rfl) rfl (wu (pv 2)) (λ_ _ _ _ _ _=>aC (i:=0) Gj rfl (Or.inl rfl) (.inr rfl)) (λ_ _ _ _ _ _=>bJ)
   (λ_ _ _ _ _ _=>aX gg (iB wx (pv 1) jg (jh ao)) (pv 0))))
  (fu (N:=["_law_one", "_law_name"]) (js:=[none,some 5]) (by kernel_rfl) rfl (wu (pv 2)) (λ_ _ _ _ _ _=>aC (i:=0) Gj rfl (Or.inl rfl) (.inr rfl)) (λ_ _ _ _ _ _=>bJ)
   (λ_ _ _ _ _ _=>aX gg (aX gg (iB wx (pv 1) jg (jh ao)) (pv 0)) a0))))
  (ai (aP 6 j9.nd (aX kK (aX kK (pv 6)
   (fu (N:=["_law_one", "_law_name"]) (js:=[none,some 5]) (by kernel_rfl) rfl (wu (pv 2)) (λ_ _ _ _ _ _=>aC (i:=0) Gj rfl (Or.inl rfl) (.inr rfl)) (λ_ _ _ _ _ _=>bJ)
    (λ_ _ _ _ _ _=>aX gg (aX gg (iB wx (pv 1) jg (jh ao)) (pv 0)) a0)))
   (fu (N:=["_law_one", "_law_name"]) (js:=[none,some 5]) (by kernel_rfl) rfl (wu (pv 2)) (λ_ _ _ _ _ _=>aC (i:=0) Gj rfl (Or.inl rfl) (.inr rfl)) (λ_ _ _ _ _ _=>bJ)
    (λ_ _ _ _ _ _=>aX gg (aX gg (iB wx (pv 1) jg (jh ao)) (pv 0)) a0))))
  (au (aL (aI aS
   (fu (N:=["_law_one", "_law_told"]) (js:=[none,some 1]) (by kernel_rfl) rfl (dj (pv 6)) (λ_ _ _ _ _ _=>aC (i:=0) abr rfl (Or.inl rfl) (.inr rfl))
    (λ_ _ _ _ _ _=>Lr (cU (r:=QX K true) AX (pv 0) (pv 1) (by with_unfolding_all rfl))) (λ_ _ _ _ _ _=>pv 0)) ao (λ_ _=>rfl))))),?_⟩
 intro nm ys H4 w1 sz hn hp Bj lr
 have uL:∀g:Nat->Str,((aH.map g).map V.str).length=26:=λg=>by rw[aaa,aaa];decide
 have h8:∀k:Int,nm.length<=sizeLine:=λ_=>jZ (aam hn.len (by decide))
 refine⟨_,rfl,(by show 1<=sizeLine;decide),λp1 Ri=>?_⟩
 refine⟨_,rfl,yV,rfl,λD1 Rj=>nG (nm:=nm) (λc=>Txt.slice nm none (some 7)++⟨#[c]⟩) Rj (λc H R hc hR=>?_) ?_⟩
 . refine⟨_,rfl,_,rfl,nm,7,rfl,rfl,rfl,h8 0,_,rfl,_,_,rfl,rfl,?_,hR⟩
   have:=vh nm hn 7
   rw[oq]
   exact jZ (by lia)
 have n1:p1≠D1:=ae (af (H:=H4)) Rj
 refine⟨p1,D1,_,_,rfl,rfl,(by rw[ag n1,af]),af,?_,λp2 gr=>?_⟩
 . rw[uL]
   exact jZ (by show 1+26<=100;decide)
 refine⟨_,rfl,yV,rfl,λD2 sP=>nG (nm:=nm) (λc=>Txt.slice nm none (some 6)++⟨#[c]⟩ ++ "q") sP (λc H R hc hR=>?_) ?_⟩
 . refine⟨_,rfl,_,rfl,nm,6,rfl,rfl,rfl,h8 0,_,rfl,_,_,rfl,rfl,?_,_,_,rfl,rfl,?_,hR⟩
   . have:=vh nm hn 6
     rw[oq]
     exact jZ (by lia)
   . have:=vh nm hn 6
     have e1:("q" : Str).length=1:=dk
     rw[wC,oq,e1]
     exact jZ (by lia)
 have n2:p2≠D2:=ae (af (H:=_)) sP
 refine⟨p2,D2,_,_,rfl,rfl,(by rw[ag n2,af]),af,?_,λp3 ou=>?_⟩
 . rw[aag,uL,uL]
   exact jZ (by show 1+26+26<=100;decide)
 refine⟨_,rfl,_,rfl,yV,rfl,λD3 yW=>nG (nm:=nm) (λc=>Txt.slice nm none (some 6)++⟨#[c]⟩ ++ "z") yW (λc H R hc hR=>?_) ?_⟩
 . refine⟨_,rfl,_,rfl,nm,6,rfl,rfl,rfl,h8 0,_,rfl,_,_,rfl,rfl,?_,_,_,rfl,rfl,?_,hR⟩
   . have:=vh nm hn 6
     rw[oq]
     exact jZ (by lia)
   . have:=vh nm hn 6
     have e1:("z" : Str).length=1:=dk
     rw[wC,oq,e1]
     exact jZ (by lia)
 have n3:p3≠D3:=ae (af (H:=_)) yW
 refine⟨p3,D3,_,_,rfl,rfl,(by rw[ag n3,af]),af,?_,λp4 lu=>?_⟩
 . rw[aag,aag,uL,uL,uL]
   exact jZ (by show 1+26+26+26<=100;decide)
 refine⟨_,rfl,yV,rfl,λD4 Rk=>nG (nm:=nm) (λc=>Txt.slice nm none (some 5)++⟨#[c]⟩ ++ "qz") Rk (λc H R hc hR=>?_) ?_⟩
 . refine⟨_,rfl,_,rfl,nm,5,rfl,rfl,rfl,h8 0,_,rfl,_,_,rfl,rfl,?_,_,_,rfl,rfl,?_,hR⟩
   . have:=vh nm hn 5
     rw[oq]
     exact jZ (by lia)
   . have:=vh nm hn 5
     have e1:("qz" : Str).length=2:=dk
     rw[wC,oq,e1]
     exact jZ (by lia)
 have n4:p4≠D4:=ae (af (H:=_)) Rk
 refine⟨p4,D4,_,_,rfl,rfl,(by rw[ag n4,af]),af,?_,λp5 ny=>?_⟩
 . rw[aag,aag,aag,uL,uL,uL,uL]
   exact kP (by show 1+26+26+26+26<=1000;decide)
 have abt:[V.str nm]++((aH.map λc=>Txt.slice nm none (some 7)++⟨#[c]⟩).map V.str)++((aH.map λc=>Txt.slice nm none (some 6)++⟨#[c]⟩ ++ "q").map V.str)++((aH.map λc=>Txt.slice nm none (some 6)++⟨#[c]⟩ ++ "z").map V.str)
  ++ ((aH.map λc=>Txt.slice nm none (some 5)++⟨#[c]⟩ ++ "qz").map V.str)=(eO nm).map V.str:=by
  unfold eO c7 Nx Ny c5
  simp only[aah,aaB,ad5]
 rw[abt]
 have sm:∀o5,ak H4 (upd (upd (upd (upd (upd (upd (upd (upd (upd H4 p1 _) D1 _) p2 _) D2 _) p3 _) D3 _) p4 _) D4 _) p5 o5):=λo5=>
  (((((((((ak.av Ri).trans (ak.av Rj)).trans (ak.av gr)).trans (ak.av sP)).trans (ak.av ou)).trans (ak.av yW)).trans (ak.av lu)).trans (ak.av Rk)).trans (ak.av ny))
 have Rl:=sm (.lst ((eO nm).map V.str))
 generalize hG:upd _ p5 (HO.lst ((eO nm).map V.str))=G at *
 have yX:G p5=some (.lst ((eO nm).map V.str)):=by rw[← hG,af]
 refine⟨_,rfl,p5,rfl,⟨_,ar.of yX⟩,λD hD=>?_⟩
 obtain⟨xs0,wq⟩:=wq
 have np:p5≠D:=ae yX hD
 have h5:∀o,(upd G D o) p5=some (.lst ((eO nm).map V.str)):=λo=>by rw[ag np];exact yX
 have hSt:∀o,ar K (upd G D o) t (told.map V.str):=λo=>ak.seq (ak.av hD) (ak.seq Rl (lr.seq wq hS hne))
 refine fz (eO nm).length (λi acc σ H=>acc=(((eO nm).take i).filter λz=>!decide (z∈told)).map V.str/\(∃v,σ=[v,some (.ref t)])/\H=upd G D (.lst acc)) ⟨rfl,⟨none,rfl⟩,rfl⟩ af ?_ ?_
 . rintro acc σ H5 _ ⟨rfl,_,rfl⟩
   refine⟨⟨_,ar.of (h5 _),by simp⟩,?_⟩
   rw[ac4]
   obtain⟨z,hz,NB⟩:=Gf nm told eE
   have Yj:z∈(eO nm).filter λz=>!decide (z∈told):=adO.mpr ⟨hz,by simp[NB]⟩
   cases sQ:(eO nm).filter λz=>!decide (z∈told) with
   | nil=>rw[sQ]at Yj;cases Yj
   | cons z0 r=>
    have h0:z0∈(eO nm).filter λz=>!decide (z∈told):=by rw[sQ];exact aas
    obtain⟨m1,m2⟩:=adO.mp h0
    have m3:z0∉told:=by simpa using m2
    have sl:G l=some (.lst ys):=Rl l _ Bj
    have nl:l≠D:=ae sl hD
    exact⟨D,_,0,.str z0,rfl,rfl,ar.of af,(aF (j:=0) (by rfl):j8 _ ((0:Nat):Int)=_),kk z0 ys _ (Ge hn m1) m3 hp (by rw[ag nl];exact sl) ((lr.trans (ak.keep Rl l)).trans (aU.av hD))⟩
 . rintro i acc σ H5 hi df ⟨rfl,⟨v,rfl⟩,rfl⟩
   have jS:(eO nm)[i]?=some (eO nm)[i]:=aab hi
   have hx:((eO nm).map V.str)[i]?=some (.str (eO nm)[i]):=by rw[aae,jS];rfl
   refine⟨⟨_,_,ar.of (h5 _),hx⟩,?_⟩
   rintro x H' ⟨rfl,jn⟩
   have ex:=jn _ (ar.of (h5 _))
   rw[hx]at ex
   cases ex
   refine⟨_,rfl,_,rfl,t,_,rfl,.inl (hSt _),rfl,Jj told,_,rfl,?_⟩
   have abu:∀j,((((eO nm).take j).filter λz=>!decide (z∈told)).map V.str).length<sizeLine:=λj=>by
    rw[aaa]
    refine adH (List.length_filter_le _ _) ?_
    rw[aaG]
    have:(eO nm).length=105:=by
     unfold eO c7 Nx Ny c5
     simp only[aag,aaa,abc]
     decide
    exact small (by lia)
   refine kM (λh=>?_) (λh=>?_)
   . have wD:(eO nm)[i]∉told:=by simpa[yb]using h
     refine⟨_,rfl,_,af,abu i,cE hi af ⟨?_,⟨_,rfl⟩,by rw[iO]⟩⟩
     rw[take_succ_filter _ _ _ _ jS,aaF (by simp[wD]),aah]
     rfl
   . have wD:(eO nm)[i]∈told:=by simpa[yb]using h
     refine cE hi af ⟨?_,⟨_,rfl⟩,rfl⟩
     rw[take_succ_filter _ _ _ _ jS,aaz (by simp[wD]),aec]
theorem Bk{f fP:Addr}{fd wF:FuncData}(F:aK K "_law_spelt" "_law_spelt" pT f fd)(T:Own mg)(FP:aK K "_law_pick" "_law_pick" ui fP wF)(bP:Binds K wF ["_law_left", "_law_many"] []) (mP:mg "_law_pick" = some (.ref fP)) :
 ax P w K mg base aB 2 f fd ["_law_left", "_law_told"] (uk K):=by
 have GP:ax P w K mg base aB 1 fP wF ["_law_left", "_law_many"] sN:=ya FP T
 refine F.run j9 λcdv A outer s H vs Q E hr h=>?_
 . obtain⟨l,t,xs,told,rfl,hl,hp,hne,hS,eE,kk⟩:=h
   obtain⟨tR,hR,rR⟩:=Gk (P:=P) (w:=w) (mg:=mg) (base:=base) (f:=f) (cdv:=cdv) (A:=A) (outer:=outer) (s:=s) (E:=E) hS hne eE ⟨xs,hl⟩ kk
   refine⟨_,ai (aP 2 j9.nd a0)
    (ai (aP 3 j9.nd (ft aeu agn PySem.F.type_str_split Lu a0 (aa a0 ah)))
    (ai (aP 4 j9.nd (aX ja ao (dm GP hr rfl mP FP.kp bP .nil dv (aa (pv 0) (aa ao ah)))))
    (ai (aP 5 j9.nd (aI aS (pv 3) (dm GP hr rfl mP FP.kp bP .nil dv (aa (pv 0) (aa ao ah))) (λ_ _=>rfl)))
    (ai (cy (cU Ah (pv 4) ao (dz _))
     (au (aP 5 j9.nd (ft aeu PySem.F.slot_str_join PySem.F.type_str_join Pk a0 (aa
      (fu (N:=["_law_k", "_law_left", "_law_letters"]) (js:=[none,some 0,some 2]) (by kernel_rfl) rfl (iq rfl T.range (aa (pv 4) ah)) (λ_ _ _ _ _ _=>aC (i:=0) Xb rfl (Or.inl rfl) (.inr rfl)) (λ_ _ _ _ _ _=>bJ)
       (λ_ _ _ _ _ _=>aI vY (pv 2) (dm GP hr rfl mP FP.kp bP .nil dv (aa (pv 1) (aa ao ah))) (λ_ _=>rfl))) ah)))) ba) hR)))),?_⟩
   refine⟨rfl,_,_,rfl,rfl,dk,dk,dk,λw1 Yk=>?_⟩
   rw[DW]
   have nw:l≠w1:=ae hl Yk
   refine⟨_,rfl,l,xs,9,rfl,(by rw[ag nw];exact hl),hp,by decide,by decide,λd ys H2 d0 d1 gr d9 kp2=>⟨_,_,rfl,rfl,?_⟩⟩
   have NC:H2 w1=some (.lst (gT.map V.str)):=kp2 w1 _ af (aax nw)
   refine⟨_,rfl,_,rfl,l,ys,11,rfl,d9,gr,by decide,by decide,λd2 my H3 e0 e1 ou wG ke=>?_⟩
   have NF:H3 w1=some (.lst (gT.map V.str)):=ke w1 _ NC (aax nw)
   have Rm:aU H H3 l:=((aU.av Yk).trans kp2).trans ke
   have hlen:gT.length=11:=dk
   have hd2:d2.toNat<gT.length:=by rw[hlen];lia
   have ed2:((d2.toNat:Nat):Int)=d2:=by lia
   have yU:j8 (gT.map V.str) ((d2.toNat:Nat):Int)=some (.str gT[d2.toNat]):=aF (by rw[aae,aab hd2];rfl)
   rw[ed2]at yU
   have Bl:bp gT[d2.toNat]:=DX _ (adf hd2)
   refine⟨w1,_,_,.str gT[d2.toNat],rfl,rfl,ar.of NF,yU,?_⟩
   refine⟨_,rfl,_,_,rfl,rfl,_,rfl,?_⟩
   refine kM (λhc=>?_) (λ_=>?_)
   . have jF:(1:Int)+d<9:=adh hc
     refine⟨rfl,_,rfl,_,rfl,by lia,by lia,λD hD=>?_⟩
     have nD:l≠D:=ae wG hD
     refine fz (1+d).toNat (λi acc σ H'=>∃(zs:List Str) (v:Option V) (Bm:List V),acc=zs.map V.str/\zs.length=i/\(∀y∈zs,∃c∈aH,y=⟨#[c]⟩)/\σ=[v,some (.ref l),some (.str yV)]/\fJ Bm/\H' l=some (.lst Bm)/\aU H3 H' l)
      ⟨[],none,my,rfl,rfl,λy hy=>(by cases hy),rfl,ou,(by rw[ag nD];exact wG),aU.av hD⟩ af ?_ ?_
     . rintro acc σ H4 df ⟨zs,v,Bm,rfl,NG,hz,rfl,lu,Bj,lr⟩
       refine⟨aaf _,?_⟩
       refine⟨"",D,zs,rfl,rfl,ar.of df,?_,?_⟩
       . rw[Bh zs hz]
         have e0:("" : Str).length=0:=dk
         rw[e0]
         lia
       . exact rR _ Bm H4 w1 _ (DY (by lia) (by lia) hz) lu Bj (Rm.trans lr)
     . rintro i acc σ H4 hi df ⟨zs,v,Bm,rfl,NG,hz,rfl,lu,Bj,lr⟩
       refine⟨hi,?_⟩
       rintro x H' ⟨rfl,rfl⟩
       refine dJ ?_
       refine⟨_,rfl,_,rfl,l,Bm,26,rfl,Bj,lu,by decide,by decide,λd' sR H5 c0 c1 ny wH iy=>?_⟩
       have Jm:aH.length=26:=by decide
       have hd':d'.toNat<aH.length:=by lia
       have ed':((d'.toNat:Nat):Int)=d':=by lia
       have Rn:j8 yV.cps.toList ((d'.toNat:Nat):Int)=some aH[d'.toNat]:=aF (by rw[Ey];exact aab hd')
       rw[ed']at Rn
       have sS:H5 D=some (.lst (zs.map V.str)):=iy D _ df (aax nD)
       refine⟨yV,d',aH[d'.toNat],rfl,rfl,dk,Rn,_,sS,?_,cE hi af ⟨zs++[⟨#[aH[d'.toNat]]⟩],_,sR,?_,?_,λy hy=>?_,rfl,ny,?_,?_⟩⟩
       . rw[aaa]
         exact small (by lia)
       . rw[aah]
         rfl
       . rw[aag,abc,NG]
       . rcases aap.mp hy with hy|hy
         . exact hz y hy
         . have:y=⟨#[aH[d'.toNat]]⟩:=by simpa using hy
           exact⟨_,adf hd',this⟩
       . rw[ag nD]
         exact wH
       . intro b o hb yY
         have nb:b≠D:=λz=>by rw[z,hD]at hb;cases hb
         rw[ag nb]
         exact iy b o (lr b o hb yY) yY
   . exact rR _ my H3 w1 _ Bl ou wG Rm
end
def Lit(names:List Str)(z:Str):Prop:=z = "0" \/ z = "1" \/ ∃x∈names,z=x\/z = "~" ++ x
inductive wI(K:W.Frag) (vs:List V) (H:Hp) (Q:VK):Prop
 | mk (l n:Addr) (xs:List V) (names:List Str) (h1:vs=[.ref l,.ref n]) (h2:H l=some (.lst xs)) (h3:fJ xs) (h4:n≠l) (h5:ar K H n (names.map V.str)) (h6:names.length<=200) (h7:(∀z∈names,bp z)) (h8:∀(z:Str) (ys:List V) (H':Hp),Lit names z->fJ ys->H' l=some (.lst ys)->aU H H' l->Q (.str z) H'):wI K vs H Q
def oY(K:W.Frag):Sp:=λvs H Q _=>wI K vs H Q
theorem Ly{names:List Str}{i:Int}(h0:0<=i)(h1:i.toNat<names.length):j8 (names.map V.str) i=some (.str names[i.toNat]):=by
 have e:((i.toNat:Nat):Int)=i:=by lia
 have:=aF (xs:=names.map V.str) (j:=i.toNat) (v:=.str names[i.toNat]) (by rw[aae,aab h1];rfl)
 rw[e]at this
 exact this
section
variable {P:Program}{w:World}{K:W.Frag}{mg:Str->Option Value}{base:Heap}
theorem yZ:aJ ["_law_left", "_law_names", "_law_spot"] ["_law_left", "_law_names"] (az qG):=fs
theorem wJ{f fP:Addr}{fd wF:FuncData}(F:aK K "_law_literal" "_law_literal" qG f fd)(T:Own mg)(FP:aK K "_law_pick" "_law_pick" ui fP wF)(bP:Binds K wF ["_law_left", "_law_many"] []) (mP:mg "_law_pick" = some (.ref fP)) :
 ax P w K mg base aB 2 f fd ["_law_left", "_law_names"] (oY K):=by
 have GP:ax P w K mg base aB 1 fP wF ["_law_left", "_law_many"] sN:=ya FP T
 refine F.run yZ λcdv A outer s H vs Q E hr h=>?_
 . obtain⟨l,n,xs,names,rfl,hl,hp,hne,hS,eE,jd,kk⟩:=h
   refine⟨_,ai (aP 2 yZ.nd (dm GP hr rfl mP FP.kp bP .nil dv (aa (pv 0) (aa (aX ja (aX kH ao (bf bw (by rfl) T.len adm (aa (pv 1) ah))) ao) ah))))
    (ai (cy (cU Ai (pv 2) (aX Ip (aX kH ao (bf bw (by rfl) T.len adm (aa (pv 1) ah))) ao) (dz _))
     (au (aL (aI vY a0 (aX lZ (pv 2) ao) (λ_ _=>rfl)))) ba)
    (au (aL (aX gg (aI aS (cY (aa a0 (aa a0 ah))) (aX lZ (pv 2) ao) (λ_ _=>rfl)) (aI aS (pv 1) (aX t8 (pv 2) ao) (λ_ _=>rfl)))))),?_⟩
   have el:((names.map V.str).length:Int)=(names.length:Int):=by rw[aaa]
   refine⟨_,rfl,_,rfl,n,_,rfl,.inl hS,_,_,rfl,rfl,.inl ⟨by decide,by decide⟩,_,_,rfl,rfl,l,xs,_,rfl,hl,hp,(by rw[el];lia),(by rw[el];lia),λd ys H2 d0 d1 gr d9 kp2=>?_⟩
   rw[el]at d1
   have y8:ar K H2 n (names.map V.str):=kp2.seq hl hS hne
   refine⟨_,rfl,_,rfl,n,_,rfl,.inl y8,_,_,rfl,rfl,.inl ⟨by decide,by decide⟩,_,_,rfl,rfl,_,_,rfl,rfl,_,rfl,?_⟩
   have m0:0<=d % 2:=ae6 _ (by decide)
   have m2:d % 2<2:=aez _ (by decide)
   refine kM (λhc=>?_) (λhc=>?_)
   . have c2:("01" : Str).cps.toList=[48,49]:=dk
     refine⟨_,rfl,_,_,rfl,rfl,(by show (0:Int)<2;decide), "01",_,if d % 2=0 then 48 else 49,rfl,rfl,dk,?_,kk _ ys H2 ?_ gr d9 kp2⟩
     . rw[c2]
       rcases (show d % 2=0\/d % 2=1 by lia) with e|e
       . rw[e];rfl
       . rw[e];rfl
     . rcases (show d % 2=0\/d % 2=1 by lia) with e|e
       . rw[e];exact .inl dk
       . rw[e];exact .inr (.inl dk)
   . have jF:¬ (2*((names.map V.str).length:Int)-1<d):=λh=>hc (aaN h)
     rw[el]at jF
     refine⟨(by show 2<=sizeLine;decide),λp hV=>?_⟩
     have hd2:(d / 2).toNat<names.length:=by lia
     have hS3:ar K (upd H2 p (.lst [.str "",.str "~"])) n (names.map V.str):=ak.seq (ak.av hV) y8
     have nl:l≠p:=ae d9 hV
     refine⟨_,rfl,_,_,rfl,rfl,(by show (0:Int)<2;decide),p,_,_,.str (if d % 2=0 then "" else "~"),rfl,rfl,ar.of af,?_,_,rfl,_,rfl,_,_,rfl,rfl,⟨by decide,by decide⟩,n,_,_,_,rfl,rfl,hS3,Ly (by lia) hd2,_,_,rfl,rfl,?_,?_⟩
     . rcases (show d % 2=0\/d % 2=1 by lia) with e|e
       . rw[e];rfl
       . rw[e];rfl
     . have h8:=(jd _ (adf hd2)).len
       have h1:(if d % 2=0 then ("" : Str) else "~").length<=1:=by
        split
        . decide+kernel
        . decide+kernel
       exact jZ (by lia)
     . refine kk _ ys _ ?_ gr (by rw[ag nl];exact d9) (kp2.trans (aU.av hV))
       refine .inr (.inr ⟨_,adf hd2,?_⟩)
       rcases (show d % 2=0\/d % 2=1 by lia) with e|e
       . left
         rw[aaF e]
         exact Pn (by rw[uh,yS,aeF])
       . right
         rw[aaz (by lia)]
end
def bz(H:Hp)(p:Addr) (rs:List (List V)):Prop:=∃ts:List Addr,H p=some (.lst (ts.map V.ref))/\Paired (λt r=>H t=some (.tup r)) ts rs
def jr(r:Str×Str):List V:=[.str r.1,.str r.2]
structure jt(names told:List Str) (rows:List (Str×Str)):Prop where
 nm:∀r∈rows,bp r.1
 lit:∀r∈rows,Lit names r.2
 ut:∀r∈rows,r.1∉told
 nd:(rows.map (·.1)).Nodup
theorem bz.keep(h:bz H p rs)(k:aU H H' l) (hl:H l=some (.lst xs)) (hp:p≠l):bz H' p rs:=by
 obtain⟨ts,h1,h2⟩:=h
 exact⟨ts,k p _ h1 hp,Paired.cw h2 λt r e=>k t _ e (aD e hl (by intro z;cases z))⟩
theorem bz.same{H H':Hp}{p:Addr}{rs:List (List V)}(h:bz H p rs) (k:ak H H'):bz H' p rs:=by
 obtain⟨ts,h1,h2⟩:=h
 exact⟨ts,k p _ h1,Paired.cw h2 λt r e=>k t _ e⟩
theorem bx{α β:Type}{F:α->β->Prop} : ∀{l₁:List α}{l₂:List β}{i:Nat}{b:β},Paired F l₁ l₂->l₂[i]?=some b->∃a,l₁[i]?=some a/\F a b
 | _,_,i,b,.nil,h=>by simp at h
 | _,_,0,b,.cons h t,e=>⟨_,rfl,by simpa using (show _=_ from aay e) ▸ h⟩
 | _,_,i+1,b,.cons h t,e=>let ⟨a,h1,h2⟩:=bx t (i:=i) (b:=b) (by simpa using e); ⟨a,by simpa using h1,h2⟩
theorem bz.snoc{H:Hp}{p t:Addr}{rs:List (List V)}{r:List V}{ts:List Addr}(h2:Paired (λt r=>H t=some (.tup r)) ts rs) (ht:H t=some (.tup r)) (hp:∀a xs,H a=some (.tup xs)->a≠p) :
 bz (upd H p (.lst (ts.map V.ref++[V.ref t]))) p (rs++[r]):=by
 refine⟨ts++[t],?_,agU (Paired.cw h2 λa b e=>?_) ?_⟩
 . rw[af,aah]
   rfl
 . rw[ag (hp a b e)]
   exact e
 . rw[ag (hp t r ht)]
   exact ht
inductive y9(K:W.Frag) (vs:List V) (H:Hp) (Q:VK):Prop
 | mk (l n t:Addr) (xs:List V) (names told:List Str) (m:Int) (h1:vs=[.ref l,.ref n,.ref t,.int m]) (h2:H l=some (.lst xs)) (h3:fJ xs) (h4:n≠l) (h5:t≠l) (h6:ar K H n (names.map V.str)) (h7:names.length<=200) (h8:(∀z∈names,bp z)) (h9:H t=some (.lst (told.map V.str))) (Ro:told.length<=20) (Yl:0<=m) (Ym:m<=20) (NH:∀(p:Addr) (rows:List (Str×Str)) (ys:List V) (H':Hp),H p=none->jt names told rows->rows.length=m.toNat->bz H' p (rows.map jr)->fJ ys->H' l=some (.lst ys)->aU H H' l->Q (.ref p) H'):y9 K vs H Q
def vi(K:W.Frag):Sp:=λvs H Q _=>y9 K vs H Q
section
variable {P:Program}{w:World}{K:W.Frag}{mg:Str->Option Value}{base:Heap}
abbrev Pr:List Str:=["_law_left", "_law_names", "_law_told", "_law_many", "_law_found", "_law_k", "_law_wish"]
abbrev pU:List Str:=["_law_left", "_law_names", "_law_told", "_law_many"]
theorem qH:aJ Pr pU (az x9):=fs
theorem NI:(["_law_one"]:List Str).Nodup:=dk
theorem zd{D p:Addr}{Q:Hp->Prop}{H1:Hp}{rows:List (Str×Str)}{ts:List Addr}(hD:H1 D=none) (hp:H1 p=some (.lst (ts.map V.ref))) (h2:Paired (λt r=>H1 t=some (.tup r)) ts (rows.map jr)) (hlen:rows.length<=100)
 (fin:Q (upd H1 D (.lst ((rows.map (·.1)).map V.str)))) :
 ∃W:Nat->Nat->St->Hp->Prop,(∃m,W 0 m [none] (upd H1 D (.lst [])))/\uJ D (eD 0) oo (vQ (eu K) (d6 0) (tC (.int 0))) (uH K p) W Q:=by
 have np:p≠D:=ae hp hD
 have IT:∀o,(upd H1 D o) p=some (.lst (ts.map V.ref)):=λo=>by rw[ag np];exact hp
 have d9:=h2.length
 rw[aaa]at d9
 refine fz rows.length (λi acc σ H=>acc=((rows.take i).map (·.1)).map V.str/\(∃v,σ=[v])/\H=upd H1 D (.lst acc)) ⟨rfl,⟨none,rfl⟩,rfl⟩ af ?_ ?_
 . rintro acc σ H _ ⟨rfl,_,rfl⟩
   refine⟨⟨_,ar.of (IT _),by rw[aaa,d9];exact aaf _⟩,?_⟩
   rw[ac4]
   exact fin
 . rintro i acc σ H hi df ⟨rfl,⟨v,rfl⟩,rfl⟩
   have rP:rows[i]?=some rows[i]:=aab hi
   obtain⟨t,ht,hT⟩:=bx h2 (i:=i) (b:=jr rows[i]) (by rw[aae,rP];rfl)
   have hx:(ts.map V.ref)[i]?=some (.ref t):=by rw[aae,ht];rfl
   refine⟨⟨_,_,ar.of (IT _),hx⟩,?_⟩
   rintro x H' ⟨rfl,jn⟩
   have ex:=jn _ (ar.of (IT _))
   rw[hx]at ex
   cases ex
   refine dJ ?_
   have nt:t≠D:=ae hT hD
   refine⟨_,rfl,t,_,_,.str rows[i].1,rfl,rfl,aR.of (by rw[ag nt];exact hT),rfl,_,af,?_,cE hi af ⟨?_,⟨_,rfl⟩,by rw[iO]⟩⟩
   . rw[aaa,aaa,aaG]
     exact small (by lia)
   . rw[sO (·.1) rP,aah]
     rfl
theorem Jn(F:aK K "_law_wishes" "_law_wishes" x9 f fd)(T:Own mg)(FP:aK K "_law_pick" "_law_pick" ui fP wF)(bP:Binds K wF ["_law_left", "_law_many"] []) (mP:mg "_law_pick" = some (.ref fP))
 (FS:aK K "_law_spelt" "_law_spelt" pT fS Yn) (bS:Binds K Yn ["_law_left", "_law_told"] []) (mS:mg "_law_spelt" = some (.ref fS)) (FL:aK K "_law_literal" "_law_literal" qG fL Yo) (bL:Binds K Yo ["_law_left", "_law_names"] []) (mL:mg "_law_literal" = some (.ref fL)) :
 ax P w K mg base aB 3 f fd pU (vi K):=by
 have GS:ax P w K mg base aB 2 fS Yn ["_law_left", "_law_told"] (uk K):=Bk FS T FP bP mP
 have GL:ax P w K mg base aB 2 fL Yo ["_law_left", "_law_names"] (oY K):=wJ FL T FP bP mP
 refine F.run qH λcdv A outer s H vs Q E hr h=>?_
 . obtain⟨l,n,t,xs,names,told,m,rfl,hl,hp,rK,rQ,hS,hnn,jd,hT,htn,m0,m1,kk⟩:=h
   refine⟨_,ai (aP 4 qH.nd (cY ah))
    (ai (fi ac7 rfl (iq rfl T.range (aa (pv 3) ah)) (aC (i:=5) qH.nd rfl (Or.inl rfl))
     (ai (aP 6 qH.nd (dm GS hr rfl mS FS.kp bS .nil dv (aa (pv 0) (aa (aX kK (pv 2)
      (fu (N:=["_law_one"]) (js:=[none]) (by kernel_rfl) rfl (dj (pv 4)) (λ_ _ _ _ _ _=>aC (i:=0) NI rfl (Or.inl rfl) (.inr rfl)) (λ_ _ _ _ _ _=>bJ)
       (λ_ _ _ _ _ _=>aI (r:=eu K) cg (pv 0) ao (λ_ _=>rfl)))) ah))))
     (au (eI (ft aaL ac5 ac6 eJ (pv 4) (aa (fZ (aa (pv 6) (aa (dm GL hr rfl mL FL.kp bL .nil dv (aa (pv 0) (aa (pv 1) ah))) ah))) ah))))))
    (au (aL (pv 4)))),?_⟩
   refine⟨(by show 0<=sizeLine;decide),λp hV=>?_⟩
   have NJ:l≠p:=ae hl hV
   refine⟨_,rfl,_,rfl,by lia,by lia,j7 (n:=m.toNat) (λi σ H2=>∃(rows:List (Str×Str)) (v5 v6:Option V) (ys:List V),σ=[some (.ref l),some (.ref n),some (.ref t),some (.int m),some (.ref p),v5,v6]/\rows.length=i/\jt names told rows/\
    bz H2 p (rows.map jr)/\fJ ys/\H2 l=some (.lst ys)/\aU H H2 l) ?_ ?_ ?_⟩
   . exact⟨[],none,none,xs,rfl,rfl,⟨(λ_ h=>nomatch h),(λ_ h=>nomatch h),(λ_ h=>nomatch h),adN⟩,⟨[],af,.nil⟩,hp,(by rw[ag NJ];exact hl),aU.av hV⟩
   . rintro i σ H2 hi ⟨rows,v5,v6,ys,rfl,Jo,hw,⟨ts,gr,kh⟩,hJ,d9,kp2⟩
     have yR:H2 t=some (.lst (told.map V.str)):=kp2 t _ hT rQ
     have y8:ar K H2 n (names.map V.str):=kp2.seq hl hS rK
     have abv:=kh.length
     rw[aaa]at abv
     refine⟨_,rfl,_,rfl,_,rfl,p,rfl,⟨_,ar.of gr⟩,λD hD=>zd hD gr kh (by lia) ?_⟩
     have nTD:t≠D:=ae yR hD
     have nLD:l≠D:=ae d9 hD
     refine⟨t,D,_,_,rfl,rfl,(by rw[ag nTD];exact yR),af,?_,λq hq=>?_⟩
     . rw[aaa,aaa,aaa]
       exact kP (by lia)
     have nLq:l≠q:=ae (by rw[ag nLD];exact d9) hq
     have sm3:∀o3 o4,(upd H2 D o3) q=none->ak H2 (upd (upd H2 D o3) q o4):=λo3 o4 hz=>(ak.av hD).trans (ak.av hz)
     have ze:=sm3 _ (.lst (told.map V.str++(rows.map (·.1)).map V.str)) hq
     generalize hG:upd _ q (HO.lst (told.map V.str++(rows.map (·.1)).map V.str))=H3 at *
     have hq3:H3 q=some (.lst ((told++rows.map (·.1)).map V.str)):=by rw[← hG,af,aah]
     have wG:H3 l=some (.lst ys):=ze l _ d9
     refine⟨l,q,ys,told++rows.map (·.1),rfl,wG,hJ,aax nLq,ar.of hq3,(by rw[aag,aaa];lia),λz my H4 hz NB lu Bj lr=>?_⟩
     have Lz:aU H2 H4 l:=(ak.keep ze l).trans lr
     have abw:H4 p=some (.lst (ts.map V.ref)):=Lz p _ gr (aax NJ)
     have hS4:ar K H4 n (names.map V.str):=Lz.seq d9 y8 rK
     refine⟨_,rfl,.inl ⟨rfl,_,ar.of abw⟩,_,rfl,_,rfl,_,rfl,l,n,my,names,rfl,Bj,lu,rK,hS4,hnn,jd,λz2 sR H5 Bn ny wH iy=>?_⟩
     refine⟨(by show 2<=sizeLine;decide),λTp ju=>?_⟩
     have LA:aU H2 H5 l:=Lz.trans iy
     have j3:H5 p=some (.lst (ts.map V.ref)):=LA p _ gr (aax NJ)
     have rS:p≠Tp:=ae j3 ju
     have nlT:l≠Tp:=ae wH ju
     refine⟨p,_,_,rfl,rfl,(by rw[ag rS];exact j3),(by rw[aaa];exact small (by lia)),?_⟩
     have hw':jt names told (rows++[(z,z2)]):=by
      have Rp:z∉told/\z∉rows.map (·.1):=by
       constructor
       . exact λh=>NB (aaI _ h)
       . exact λh=>NB (aar _ h)
      refine⟨λr hr=>?_,λr hr=>?_,λr hr=>?_,?_⟩
      . rcases aap.mp hr with hr|hr
        . exact hw.nm r hr
        . rw[aaC.mp hr];exact hz
      . rcases aap.mp hr with hr|hr
        . exact hw.lit r hr
        . rw[aaC.mp hr];exact Bn
      . rcases aap.mp hr with hr|hr
        . exact hw.ut r hr
        . rw[aaC.mp hr];exact Rp.1
      . rw[aah,aau]
        refine⟨hw.nd,by simp,λa ha b hb e=>?_⟩
        have:b=z:=by simpa using hb
        rw[this]at e
        exact Rp.2 (e ▸ ha)
     refine⟨rows++[(z,z2)],_,_,sR,rfl,(by rw[aag,abc,Jo]),hw',?_,ny,(by rw[ag NJ,ag nlT];exact wH),λb o hb yY=>?_⟩
     . rw[aah]
       refine bz.snoc (Paired.cw kh λa r e=>?_) af λa wK e z'=>?_
       . have ea:=LA a _ e (aD e d9 (by intro z;cases z))
         rw[ag (ae ea ju)]
         exact ea
       . rw[z',ag rS,j3]at e
         cases e
     . have e5:=LA b o (kp2 b o hb yY) yY
       rw[ag (ae hb hV),ag (ae e5 ju)]
       exact e5
   . rintro σ H2 ⟨rows,v5,v6,ys,rfl,Jo,hw,Bo,hJ,d9,kp2⟩
     exact⟨_,rfl,kk p rows ys H2 hV hw Jo Bo hJ d9 kp2⟩
end
structure aQ where
 switches:List Str
 keepers:List (Str×V)
 gates:List (Str×Str×Str)
 nexts:List (Str×Str)
 nevers:List (Str×Str)
 somes:List (Str×Str)
def kQ(r:Str×V):List V:=[.str r.1,r.2]
def ow(r:Str×Str×Str):List V:=[.str r.1,.str r.2.1,.str r.2.2]
def eL(a1 a2 a3 a4 a5 a6:Addr):List (Key×V):=
 [(.inr "switches",.ref a1),(.inr "keepers",.ref a2),(.inr "gates",.ref a3),(.inr "nexts",.ref a4),(.inr "nevers",.ref a5),(.inr "somes",.ref a6)]
structure iz(H:Hp) (m:Addr) (M:aQ) (a1 a2 a3 a4 a5 a6:Addr):Prop where
 top:H m=some (.dK (eL a1 a2 a3 a4 a5 a6))
 sw:H a1=some (.lst (M.switches.map V.str))
 kp:bz H a2 (M.keepers.map kQ)
 gt:bz H a3 (M.gates.map ow)
 nx:bz H a4 (M.nexts.map jr)
 nv:bz H a5 (M.nevers.map jr)
 sm:bz H a6 (M.somes.map jr)
structure c8(M:aQ) (names:List Str):Prop where
 all:names=M.switches++M.keepers.map (·.1)++M.gates.map (·.1)
 nm:∀z∈names,bp z
 nd:names.Nodup
 first:∀r∈M.keepers,r.2=.int 0\/r.2=.int 1\/r.2=.aV
 nxk:∀r∈M.nexts,r.1∈M.keepers.map (·.1)
 nxl:∀r∈M.nexts,Lit names r.2
 nxd:(M.nexts.map (·.1)).Nodup
 nvw:jt names [] M.nevers
 smw:jt names (M.nevers.map (·.1)) M.somes
 gl:∀(i:Nat) (r:Str×Str×Str),M.gates[i]?=some r->Lit (M.switches++M.keepers.map (·.1)++(M.gates.take i).map (·.1)) r.2.1/\Lit (M.switches++M.keepers.map (·.1)++(M.gates.take i).map (·.1)) r.2.2
def i6(K:W.Frag)(H:Hp)(z:Addr)(s0 s1 s2 s3:Int):Prop:=(ar K H z [.int s0,.int s1,.int s2,.int s3]\/aR K H z [.int s0,.int s1,.int s2,.int s3])/\(0<=s0/\s0<=12)/\(0<=s1/\s1<=16)/\(0<=s2/\s2<=60)/\1<=s3/\s3<=8
theorem ak.j4(e:ak H H')(h:aR K H a xs):aR K H' a xs:=by
 rcases h with (h|⟨o,h⟩)|h
 . exact .inl (.inl (e a _ h))
 . exact .inl (.inr ⟨o,e a _ h⟩)
 . exact .inr h
theorem i6.same{K:W.Frag}{H H':Hp}{z:Addr}{s0 s1 s2 s3:Int}(h:i6 K H z s0 s1 s2 s3)(k:ak H H'):i6 K H' z s0 s1 s2 s3:=⟨h.1.imp (ak.seq k) (ak.j4 k),h.2⟩
theorem i6.ix{K:W.Frag}{H:Hp}{z:Addr}{s0 s1 s2 s3:Int}(h:i6 K H z s0 s1 s2 s3){i:Int}{v:V}{Q:VK}(hi:j8 [V.int s0,.int s1,.int s2,.int s3] i=some v)(q:Q v H):X2 K (.ref z) (.int i) H Q:=by
 rcases h.1 with h|h
 . exact .inl ⟨z,_,i,v,rfl,rfl,h,hi,q⟩
 . exact .inr (.inl ⟨z,_,i,v,rfl,rfl,h,hi,q⟩)
abbrev Rq:List Str:=["_law_cells", "_law_sizes", "_law_k", "_law_a", "_law_b", "_law_c", "_law_names", "_law_switches", "_law_keepers", "_law_gates", "_law_name", "_law_nexts", "_law_keeper", "_law_first", "_law_nevers", "_law_somes", "_law_made_here"]
abbrev sU:List Str:=["_law_cells", "_law_sizes"]
theorem iJ:aJ Rq sU (az ib):=fs
abbrev Aj(P:Program)(w:World)(K:W.Frag)(mg:Str->Option Value)(base:Heap)(f:Addr)(cdv:Value)(A:Around)(outer:List Env)(s:Shared)(H:Hp)(E:XK):Cx:=
 (pD aB P w K mg base Rq "_law_machine_digits" (az ib) f cdv A outer s H E).yI
section
variable {P:Program}{w:World}{K:W.Frag}{mg:Str->Option Value}{base:Heap}
structure Defs(P:Program) (w:World) (K:W.Frag) (mg:Str->Option Value) (base:Heap) (fP fS fL fW fR:Addr) (dP dS dL dW dR:FuncData):Prop where
 T:Own mg
 cP:jq P w K mg base 1 fP dP "_law_pick" ["_law_left", "_law_many"] sN
 cS:jq P w K mg base 2 fS dS "_law_spelt" ["_law_left", "_law_told"] (uk K)
 cL:jq P w K mg base 2 fL dL "_law_literal" ["_law_left", "_law_names"] (oY K)
 cW:jq P w K mg base 3 fW dW "_law_wishes" pU (vi K)
 cR:jq P w K mg base 2 fR dR "_law_rich" ["_law_cell", "_law_k"] wA
variable {fP fS fL fW fR:Addr}{dP dS dL dW dR:FuncData}
structure Bp(K:W.Frag) (H:Hp) (z c n a1 a2 a3 a4:Addr) (s0 s1 s2 s3:Int) (names sw:List Str) (kp:List (Str×V)) (gt:List (Str×Str×Str)) (nx:List (Str×Str)):Prop where
 pc:∃xs,H c=some (.lst xs)/\fJ xs
 hz:i6 K H z s0 s1 s2 s3
 zc:z≠c
 hn:H n=some (.lst (names.map V.str))
 nc:n≠c
 nl:names.length<=100
 nm:∀x∈names,bp x
 h1:H a1=some (.lst (sw.map V.str))
 c1:a1≠c
 h2:bz H a2 (kp.map kQ)
 c2:a2≠c
 h3:bz H a3 (gt.map ow)
 c3:a3≠c
 h4:bz H a4 (nx.map jr)
 c4:a4≠c
theorem aU.j4(e:aU H H' l) (hl:H l=some (.lst n)) (h:aR K H a xs) (hne:a≠l):aR K H' a xs:=by
 rcases h with (h|⟨o,h⟩)|h
 . exact .inl (.inl (e a _ h hne))
 . exact .inl (.inr ⟨o,e a _ h hne⟩)
 . exact .inr h
theorem Bp.keep(h:Bp K H z c n a1 a2 a3 a4 s0 s1 s2 s3 names sw kp gt nx)(k:aU H H' c) (hy:H' c=some (.lst ys)) (hp:fJ ys) :
 Bp K H' z c n a1 a2 a3 a4 s0 s1 s2 s3 names sw kp gt nx:=by
 obtain⟨xs,hc,_⟩:=h.pc
 exact⟨⟨ys,hy,hp⟩,⟨h.hz.1.imp (λq=>k.seq hc q h.zc) (λq=>aU.j4 k hc q h.zc),h.hz.2⟩,h.zc,k n _ h.hn h.nc,h.nc,h.nl,h.nm,k a1 _ h.h1 h.c1,h.c1,h.h2.keep k hc h.c2,h.c2,h.h3.keep k hc h.c3,h.c3,h.h4.keep k hc h.c4,h.c4⟩
theorem Bp.same{H H':Hp}{z c n a1 a2 a3 a4:Addr}{s0 s1 s2 s3:Int}{names sw:List Str}{kp:List (Str×V)}{gt:List (Str×Str×Str)}{nx:List (Str×Str)}(h:Bp K H z c n a1 a2 a3 a4 s0 s1 s2 s3 names sw kp gt nx) (k:ak H H') :
 Bp K H' z c n a1 a2 a3 a4 s0 s1 s2 s3 names sw kp gt nx:=by
 obtain⟨xs,hc,hp⟩:=h.pc
 exact⟨⟨xs,k c _ hc,hp⟩,h.hz.same k,h.zc,k n _ h.hn,h.nc,h.nl,h.nm,k a1 _ h.h1,h.c1,h.h2.same k,h.c2,h.h3.same k,h.c3,h.h4.same k,h.c4⟩
theorem Xc(G:Defs P w K mg base fP fS fL fW fR dP dS dL dW dR) (hr:aN 3 (A.deeper (PyProof.Rows.envOfC "_law_machine_digits" (az ib) s.heap.objs.size f cdv))) :
 ∃tR:TS,jO (Aj P w K mg base f cdv A outer s H E) (List.drop 10 (eK ib)) tR/\∀(σ:St) (H1:Hp) (v0 v2 v3 v4 v10 zf zg:Option V) (z c n a1 a2 a3 a4:Addr) (s0 s1 s2 s3:Int) (names sw:List Str) (kp:List (Str×V)) (gt:List (Str×Str×Str)) (nx:List (Str×Str)),
  σ=[v0,some (.ref z),v2,v3,v4,some (.ref c),some (.ref n),some (.ref a1),some (.ref a2),some (.ref a3),v10,some (.ref a4),zf,zg,none,none,none]->
  Bp K H1 z c n a1 a2 a3 a4 s0 s1 s2 s3 names sw kp gt nx->
  (∀(m:Addr) (nv sm:List (Str×Str)) (a5 a6:Addr) (H':Hp),jt names [] nv->jt names (nv.map (·.1)) sm->1<=nv.length->(nv.length:Int)<=s3->(sm.length:Int)<=s3->iz H' m ⟨sw,kp,gt,nx,nv,sm⟩ a1 a2 a3 a4 a5 a6->aU H1 H' c->Q (.ref m) H')->
  tR {nx:=λ_ H'=>Q .aV H',rt:=Q} σ H1:=by
 have dq:aN 1 _:=hr.mono (by decide)
 have hu:=eS hr
 refine⟨_,ai (aP 14 iJ.nd (bb G.cW hr (aa (pv 5) (aa (pv 6) (aa (cY ah) (aa (aX ja ao (bb G.cP dq (aa (pv 5) (aa (aI sE (pv 1) ao (λ_ _=>rfl)) ah)))) ah))))))
  (ai (aP 15 iJ.nd (bb G.cW hr (aa (pv 5) (aa (pv 6) (aa
   (fu (N:=["_law_one"]) (js:=[none]) (by kernel_rfl) rfl (dj (pv 14)) (λ_ _ _ _ _ _=>aC (i:=0) NI rfl (Or.inl rfl) (.inr rfl)) (λ_ _ _ _ _ _=>bJ) (λ_ _ _ _ _ _=>aI (r:=eu K) cg (pv 0) ao (λ_ _=>rfl)))
   (aa (bb G.cP dq (aa (pv 5) (aa (aX ja (aI sE (pv 1) ao (λ_ _=>rfl)) ao) ah))) ah))))))
  (ai (aP 16 iJ.nd (pQ (gQ a0 (pv 7) (gQ a0 (pv 8) (gQ a0 (pv 9) (gQ a0 (pv 11) pP)))) rfl rfl (by simp) (by decide)))
  (ai (eV hu (pv 16) a0 (pv 14) rfl)
  (ai (eV hu (pv 16) a0 (pv 15) rfl)
  (au (aL (pv 16))))))),?_⟩
 rintro σ H1 v0 v2 v3 v4 v10 zf zg z c n a1 a2 a3 a4 s0 s1 s2 s3 names sw kp gt nx rfl hA kk
 obtain⟨xs,hc,hp⟩:=hA.pc
 obtain⟨_,_,_,_,z1,z2⟩:=hA.hz
 have rK:=hA.nl
 refine⟨_,rfl,_,rfl,(by show 0<=sizeLine;decide),λt0 zh=>?_⟩
 have A1:=hA.same (ak.av (o:=.lst []) zh)
 have Rr:c≠t0:=ae hc zh
 have Rt:(upd H1 t0 (.lst [])) c=some (.lst xs):=by rw[ag Rr];exact hc
 refine⟨_,rfl,_,rfl,A1.hz.ix (i:=3) (v:=.int s3) rfl ?_⟩
 refine⟨c,xs,s3,rfl,Rt,hp,by lia,by lia,λd ys H2 d0 d1 gr d9 kp2=>⟨_,_,rfl,rfl,?_⟩⟩
 have A2:=A1.keep kp2 d9 gr
 have abx:H2 t0=some (.lst (([]:List Str).map V.str)):=kp2 t0 _ af (aax Rr)
 refine⟨c,n,t0,ys,names,[],1+d,rfl,d9,gr,A2.nc,aax Rr,ar.of A2.hn,by lia,A2.nm,abx,by decide,by lia,by lia,λa5 nv my H3 zi hw5 aib Yp ou wG ke=>?_⟩
 have A3:=A2.keep ke wG ou
 have Yq:a5≠c:=aax (ae d9 zi)
 obtain⟨ts,h5,kh⟩:=id Yp
 refine⟨_,rfl,_,rfl,_,rfl,a5,rfl,⟨_,ar.of h5⟩,λD hD=>zd hD h5 kh (by lia) ?_⟩
 have Ru:ak H3 (upd H3 D (.lst ((nv.map (·.1)).map V.str))):=ak.av hD
 have A4:=A3.same Ru
 have Rv:c≠D:=ae wG hD
 have Jp:(upd H3 D (.lst ((nv.map (·.1)).map V.str))) c=some (.lst my):=by rw[ag Rv];exact wG
 refine⟨_,rfl,_,rfl,A4.hz.ix (i:=3) (v:=.int s3) rfl ⟨_,_,rfl,rfl,c,my,_,rfl,Jp,ou,by lia,by lia,λd' sR H5 e0 e1 ny wH iy=>?_⟩⟩
 have A5:=A4.keep iy wH ny
 have sS:H5 D=some (.lst ((nv.map (·.1)).map V.str)):=iy D _ af (aax Rv)
 refine⟨c,n,D,sR,names,nv.map (·.1),d',rfl,wH,ny,A5.nc,aax Rv,ar.of A5.hn,by lia,A5.nm,sS,(by rw[aaa];lia),by lia,by lia,λa6 sm NK H6 Rw hw6 aic ht6 wL hl6 EC=>?_⟩
 have A6:=A5.keep EC hl6 wL
 have T5:bz H6 a5 (nv.map jr):=((Yp.same Ru).keep iy Jp Yq).keep EC wH Yq
 have nc6:a6≠c:=aax (ae wH Rw)
 intro m hm
 refine⟨_,rfl,_,rfl,_,rfl,_,rfl,af,[(.inr "switches",.ref a1),(.inr "keepers",.ref a2),(.inr "gates",.ref a3),(.inr "nexts",.ref a4)],rfl,(by show 4<=15;decide),?_⟩
 rw[iO]
 have em:bY [] [((.inr "switches" : Key),V.ref a1),(.inr "keepers",.ref a2),(.inr "gates",.ref a3),(.inr "nexts",.ref a4)]=[((.inr "switches" : Key),V.ref a1),(.inr "keepers",.ref a2),(.inr "gates",.ref a3),(.inr "nexts",.ref a4)]:=by rfl
 rw[em]
 refine⟨_,rfl,_,rfl,m,_,rfl,gh.k (k:=.inr "nevers") af (by show 4<sizeLine;decide),?_⟩
 rw[iO]
 have en:putK [((.inr "switches" : Key),V.ref a1),(.inr "keepers",.ref a2),(.inr "gates",.ref a3),(.inr "nexts",.ref a4)] (.inr "nevers") (.ref a5)=[((.inr "switches" : Key),V.ref a1),(.inr "keepers",.ref a2),(.inr "gates",.ref a3),(.inr "nexts",.ref a4),(.inr "nevers",.ref a5)]:=by rfl
 rw[en]
 refine⟨_,rfl,_,rfl,m,_,rfl,gh.k (k:=.inr "somes") af (by show 5<sizeLine;decide),?_⟩
 rw[iO]
 have es:putK [((.inr "switches" : Key),V.ref a1),(.inr "keepers",.ref a2),(.inr "gates",.ref a3),(.inr "nexts",.ref a4),(.inr "nevers",.ref a5)] (.inr "somes") (.ref a6)=eL a1 a2 a3 a4 a5 a6:=by rfl
 rw[es]
 have NL:ak H6 (upd H6 m (.dK (eL a1 a2 a3 a4 a5 a6))):=ak.av hm
 have A7:=A6.same NL
 refine⟨_,rfl,kk m nv sm a5 a6 _ hw5 hw6 (by lia) (by lia) (by lia) ⟨af,A7.h1,A7.h2,A7.h3,A7.h4,T5.same NL,ht6.same NL⟩ ?_⟩
 exact(((((aU.av zh).trans kp2).trans ke).trans (ak.keep Ru c)).trans (iy.trans EC)).trans (ak.keep NL c)
end
theorem uM{α β:Type}{F:α->β->Prop} : ∀{l₁:List α}{l₂:List β}(k:Nat),Paired F l₁ l₂->Paired F (l₁.take k) (l₂.take k)
 | _,_,k,.nil=>by simp only[List.take_nil];exact .nil
 | _,_,0,.cons _ _=>.nil
 | _,_,k+1,.cons h t=>.cons h (uM k t)
theorem uN{α β:Type}{F:α->β->Prop} : ∀{l₁:List α}{l₂:List β}(k:Nat),Paired F l₁ l₂->Paired F (l₁.drop k) (l₂.drop k)
 | _,_,k,.nil=>by simp only[List.drop_nil];exact .nil
 | _,_,0,.cons h t=>.cons h t
 | _,_,k+1,.cons h t=>uN k t
theorem cT{α β:Type}{F:α->β->Prop} : ∀{l₁ m₁:List α}{l₂ m₂:List β},Paired F l₁ l₂->Paired F m₁ m₂->Paired F (l₁++m₁) (l₂++m₂)
 | _,_,_,_,.nil,h=>h
 | _,_,_,_,.cons a t,h=>.cons a (cT t h)
section
variable {P:Program}{w:World}{K:W.Frag}{mg:Str->Option Value}{base:Heap}{fP fS fL fW fR:Addr}{dP dS dL dW dR:FuncData}
structure NM(K:W.Frag) (H:Hp) (z c n a1 a2 a3:Addr) (s0 s1 s2 s3:Int) (names sw:List Str) (kp:List (Str×V)) (gt:List (Str×Str×Str)):Prop where
 pc:∃xs,H c=some (.lst xs)/\fJ xs
 hz:i6 K H z s0 s1 s2 s3
 zc:z≠c
 hn:H n=some (.lst (names.map V.str))
 nc:n≠c
 nl:names.length<=100
 nm:∀x∈names,bp x
 h1:H a1=some (.lst (sw.map V.str))
 c1:a1≠c
 h2:bz H a2 (kp.map kQ)
 c2:a2≠c
 h3:bz H a3 (gt.map ow)
 c3:a3≠c
 kd:(kp.map (·.1)).Nodup
 kl:kp.length<=16
theorem NM.keep(h:NM K H z c n a1 a2 a3 s0 s1 s2 s3 names sw kp gt)(k:aU H H' c) (hy:H' c=some (.lst ys)) (hp:fJ ys) :
 NM K H' z c n a1 a2 a3 s0 s1 s2 s3 names sw kp gt:=by
 obtain⟨xs,hc,_⟩:=h.pc
 exact⟨⟨ys,hy,hp⟩,⟨h.hz.1.imp (λq=>k.seq hc q h.zc) (λq=>aU.j4 k hc q h.zc),h.hz.2⟩,h.zc,k n _ h.hn h.nc,h.nc,h.nl,h.nm,k a1 _ h.h1 h.c1,h.c1,h.h2.keep k hc h.c2,h.c2,h.h3.keep k hc h.c3,h.c3,h.kd,h.kl⟩
def Gm(names:List Str) (kp:List (Str×V)) (nx:List (Str×Str)):Prop:=(∀r∈nx,r.1∈kp.map (·.1)/\Lit names r.2)/\(nx.map (·.1)).Nodup
theorem Jq{α:Type}{l:List α}{a:α}(h:l.Nodup)(ha:a∉l)(d:Nat):(l.take d++[a]++l.drop d).Nodup:=by
 have p:(l.take d++[a]++l.drop d).Perm (a::l):=by
  rw[ady]
  have:=List.perm_middle (a:=a) (l₁:=l.take d) (l₂:=l.drop d)
  rw[adM]at this
  exact this
 exact p.nodup_iff.mpr (aaP.mpr ⟨ha,h⟩)
theorem ED{β:Type} : ∀{kp:List (Str×β)}{i:Nat}(hi:i<kp.length),(kp.map (·.1)).Nodup->kp[i].1∉(kp.take i).map (·.1)
 | x::r,0,_,_=>by simp
 | x::r,i+1,hi,h=>by
  rw[aaB,aaP]at h
  have ih:=ED (kp:=r) (i:=i) (by simpa using hi) h.2
  simp only[List.getElem_cons_succ,List.take_succ_cons,aaB,aaj,afq]
  refine⟨λe=>h.1 ?_,ih⟩
  rw[← e]
  exact aal.mpr ⟨_,adf _,rfl⟩
theorem vj{β:Type}{kp:List (Str×β)}{i j:Nat}{x:Str}(Br:i<=j) (h:x∈(kp.take i).map (·.1)):x∈(kp.take j).map (·.1):=by
 obtain⟨r,hr,e⟩:=aal.mp h
 refine aal.mpr ⟨r,?_,e⟩
 have:kp.take i=(kp.take j).take i:=by rw[List.take_take,ae5 Br]
 rw[this]at hr
 exact adG hr
abbrev Xd(Q:VK)(s3:Int)(H1:Hp)(c a1 a2 a3:Addr)(names sw:List Str) (kp:List (Str×V)) (gt:List (Str×Str×Str)):Prop:=
 ∀(m:Addr) (nx nv sm:List (Str×Str)) (a4 a5 a6:Addr) (H':Hp),Gm names kp nx->nx.length<=kp.length->jt names [] nv->jt names (nv.map (·.1)) sm->1<=nv.length->(nv.length:Int)<=s3->(sm.length:Int)<=s3->iz H' m ⟨sw,kp,gt,nx,nv,sm⟩ a1 a2 a3 a4 a5 a6->aU H1 H' c->Q (.ref m) H'
theorem Xe(G:Defs P w K mg base fP fS fL fW fR dP dS dL dW dR){f:Addr}{cdv:Value}{A:Around}{outer:List Env}{s:Shared}{H:Hp}{E:XK}{Q:VK}(hr:aN 3 (A.deeper (PyProof.Rows.envOfC "_law_machine_digits" (az ib) s.heap.objs.size f cdv))) :
 ∃tR:TS,jO (Aj P w K mg base f cdv A outer s H E) (List.drop 8 (eK ib)) tR/\∀(σ:St) (H1:Hp) (v0 v2 v3 v4 v10:Option V) (z c n a1 a2 a3:Addr) (s0 s1 s2 s3:Int) (names sw:List Str) (kp:List (Str×V)) (gt:List (Str×Str×Str)),
  σ=[v0,some (.ref z),v2,v3,v4,some (.ref c),some (.ref n),some (.ref a1),some (.ref a2),some (.ref a3),v10,none,none,none,none,none,none]->
  NM K H1 z c n a1 a2 a3 s0 s1 s2 s3 names sw kp gt->Xd Q s3 H1 c a1 a2 a3 names sw kp gt->
  tR {nx:=λ_ H'=>Q .aV H',rt:=Q} σ H1:=by
 have dq:aN 1 _:=hr.mono (by decide)
 have mJ:aN 2 _:=hr.mono (by decide)
 obtain⟨tD,hD,rD⟩:=Xc G (outer:=outer) (H:=H) (E:=E) (Q:=Q) hr
 refine⟨_,ai (aP 11 iJ.nd (cY ah))
  (ai (fi ac7 rfl (dj (pv 8)) (ij rfl (a9 (aC (i:=12) iJ.nd rfl (Or.inl rfl)) (a9 (aC (i:=13) iJ.nd rfl (Or.inl rfl)) fq)))
   (au (cy (cU Ai (bb G.cP dq (aa (pv 5) (aa ao ah))) ao (dz _))
    (au (eI (ft aaL PySem.F.slot_list_insert PySem.F.type_list_insert Jb (pv 11) (aa
     (bb G.cP dq (aa (pv 5) (aa (aX ja (bf bw (by rfl) G.T.len adm (aa (pv 11) ah)) ao) ah)))
     (aa (fZ (aa (pv 12) (aa (bb G.cL mJ (aa (pv 5) (aa (pv 6) ah))) ah))) ah))))) ba))) hD),?_⟩
 rintro σ H1 v0 v2 v3 v4 v10 z c n a1 a2 a3 s0 s1 s2 s3 names sw kp gt rfl hA kk
 obtain⟨xs,hc,hp⟩:=hA.pc
 obtain⟨ts,h2,kh⟩:=id hA.h2
 have NN:=hA.kl
 have rK:=hA.nl
 have rQ:=kh.length
 rw[aaa]at rQ
 refine⟨(by show 0<=sizeLine;decide),λp hV=>?_⟩
 have sV:c≠p:=ae hc hV
 have n2p:a2≠p:=ae h2 hV
 refine⟨_,rfl,a2,rfl,⟨_,ar.of (by rw[ag n2p];exact h2)⟩,lD (K:=K) (a:=a2) (xs:=ts.map V.ref) (λi σ H2=>∃(nx:List (Str×Str)) (zf zg:Option V) (ys:List V),
  σ=[v0,some (.ref z),v2,v3,v4,some (.ref c),some (.ref n),some (.ref a1),some (.ref a2),some (.ref a3),v10,some (.ref p),zf,zg,none,none,none]/\nx.length<=i/\Gm names (kp.take i) nx/\bz H2 p (nx.map jr)/\fJ ys/\H2 c=some (.lst ys)/\aU H1 H2 c) ?_ ?_ ?_ ?_⟩
 . exact⟨[],none,none,xs,rfl,aaf _,⟨(λ_ h=>nomatch h),adN⟩,⟨[],af,.nil⟩,hp,(by rw[ag sV];exact hc),aU.av hV⟩
 . rintro i σ H2 _ ⟨nx,zf,zg,ys,_,_,_,_,_,_,kp2⟩
   exact ar.of (kp2 a2 _ h2 hA.c2)
 . rintro i x σ H2 hx ⟨nx,zf,zg,ys,rfl,hnx,pV,⟨us,gr,iP⟩,hJ,lq,kp2⟩
   have uO:i<(ts.map V.ref).length:=(aak.mp hx).1
   rw[aaa,rQ]at uO
   have Yr:kp[i]?=some kp[i]:=aab uO
   obtain⟨t,ht,hT⟩:=bx kh (i:=i) (b:=kQ kp[i]) (by rw[aae,Yr];rfl)
   have ex:x=.ref t:=by
    rw[aae,ht]at hx
    exact(aay hx).symm
   subst ex
   have yR:H2 t=some (.tup (kQ kp[i])):=kp2 t _ hT (aD hT hc (by intro z;cases z))
   refine⟨t,_,rfl,aR.of yR,rfl,_,_,rfl,_,_,rfl,rfl,?_⟩
   refine⟨_,rfl,c,ys,5,rfl,lq,hJ,by decide,by decide,λd my H3 d0 d1 ou Ys ke=>⟨_,_,rfl,rfl,_,rfl,?_⟩⟩
   have LB:aU H1 H3 c:=kp2.trans ke
   have aby:bz H3 p (nx.map jr):=bz.keep ⟨us,gr,iP⟩ ke lq (aax sV)
   refine kM (λ_=>?_) (λ_=>?_)
   . have sW:H3 p=some (.lst (us.map V.ref)):=ke p _ gr (aax sV)
     have zj:=iP.length
     rw[aaa]at zj
     refine⟨_,rfl,.inl ⟨rfl,_,ar.of sW⟩,_,rfl,_,rfl,p,_,rfl,.inl (ar.of sW),_,_,rfl,rfl,c,my,_,rfl,Ys,ou,(by rw[aaa];lia),(by rw[aaa];lia),λd2 sR H4 e0 e1 lu Jp lr=>?_⟩
     rw[aaa]at e1
     have A4:=hA.keep (LB.trans lr) Jp lu
     refine⟨_,rfl,_,rfl,_,rfl,c,n,sR,names,rfl,Jp,lu,A4.nc,ar.of A4.hn,by lia,A4.nm,λlt NK H5 Bn ny NO iy=>?_⟩
     refine⟨(by show 2<=sizeLine;decide),λTp ju=>?_⟩
     have j3:H5 p=some (.lst (us.map V.ref)):=iy p _ (lr p _ sW (aax sV)) (aax sV)
     have rS:p≠Tp:=ae j3 ju
     have ncT:c≠Tp:=ae NO ju
     refine⟨p,_,d2,_,rfl,rfl,(by rw[ag rS];exact j3),e0,(by rw[aaa];lia),(by rw[aaa];exact small (by lia)),?_⟩
     have abz:∀a wK,(upd H5 Tp (HO.tup [V.str kp[i].1,V.str lt])) a=some (.tup wK)->a≠p:=λa wK e z'=>by
      rw[z',ag rS,j3]at e
      cases e
     have Rx:Paired (λt r=>(upd (upd H5 Tp (HO.tup [V.str kp[i].1,V.str lt])) p (.lst ((us.map V.ref).take d2.toNat++[V.ref Tp]++(us.map V.ref).drop d2.toNat))) t=some (.tup r)) us (nx.map jr):=Paired.cw iP λa r e=>by
      have ea:H5 a=some (.tup r):=iy a _ (lr a _ (ke a _ e (aD e lq (by intro z;cases z))) (aD e lq (by intro z;cases z))) (aD e lq (by intro z;cases z))
      have eb:(upd H5 Tp (HO.tup [V.str kp[i].1,V.str lt])) a=some (.tup r):=by rw[ag (ae ea ju)];exact ea
      rw[ag (abz a r eb)]
      exact eb
     refine⟨nx.take d2.toNat++[(kp[i].1,lt)]++nx.drop d2.toNat,_,_,NK,rfl,?_,⟨λr hr=>?_,?_⟩,⟨us.take d2.toNat++[Tp]++us.drop d2.toNat,?_,?_⟩,ny,?_,λb o hb Ry=>?_⟩
     . simp only[aag,aaG,adK,abc]
       lia
     . rcases aap.mp hr with hr|hr
       . rcases aap.mp hr with hr|hr
         . exact⟨vj (aen _) (pV.1 r (adG hr)).1,(pV.1 r (adG hr)).2⟩
         . rw[aaC.mp hr]
           refine⟨?_,Bn⟩
           rw[sO (·.1) Yr]
           exact aar _ (aaC.mpr rfl)
       . exact⟨vj (aen _) (pV.1 r (agN hr)).1,(pV.1 r (agN hr)).2⟩
     . have hn:kp[i].1∉nx.map (·.1):=λhm=>by
        obtain⟨r,hr,e⟩:=aal.mp hm
        exact ED uO hA.kd (e ▸ (pV.1 r hr).1)
       have hq:=Jq pV.2 hn d2.toNat
       rw[aah,aah,aeN,aga]
       exact hq
     . rw[af]
       simp only[aah,aeN,aga,aaB,ad5]
     . rw[aah,aah,aeN,aga]
       refine cT (cT (uM _ Rx) (.cons ?_ .nil)) (uN _ Rx)
       rw[ag (aax rS),af]
       rfl
     . rw[ag sV,ag ncT]
       exact NO
     . have e5:=iy b o (lr b o (LB b o hb Ry) Ry) Ry
       rw[ag (ae hb hV),ag (ae e5 ju)]
       exact e5
   . exact⟨nx,_,_,my,rfl,by lia,⟨λr hr=>⟨vj (aen _) (pV.1 r hr).1,(pV.1 r hr).2⟩,pV.2⟩,aby,ou,Ys,LB⟩
 . rintro σ H2 ⟨nx,zf,zg,ys,rfl,hnx,pV,Bo,hJ,lq,kp2⟩
   rw[aaa,rQ]at hnx pV
   rw[ac4]at pV
   have A2:=hA.keep kp2 lq hJ
   refine rD _ H2 v0 v2 v3 v4 v10 zf zg z c n a1 a2 a3 p s0 s1 s2 s3 names sw kp gt nx rfl ⟨⟨ys,lq,hJ⟩,A2.hz,A2.zc,A2.hn,A2.nc,A2.nl,A2.nm,A2.h1,A2.c1,A2.h2,A2.c2,A2.h3,A2.c3,Bo,aax sV⟩ ?_
   intro m nv sm a5 a6 H' w1 w2 l1 l2 l3 hM Bs
   exact kk m nx nv sm p a5 a6 H' pV hnx w1 w2 l1 l2 l3 hM (kp2.trans Bs)
end
def gj(H H':Hp)(l n:Addr):Prop:=∀b o,H b=some o->b≠l->b≠n->H' b=some o
def Xf(H H':Hp)(l c n:Addr):Prop:=∀b o,H b=some o->b≠l->b≠c->b≠n->H' b=some o
theorem gj.seq{K:W.Frag}{H H':Hp}{a l n:Addr}{xs:List V}(e:gj H H' l n)(h:ar K H a xs)(h1:a≠l)(h2:a≠n):ar K H' a xs:=by
 rcases h with (h|⟨o,h⟩)|h
 . exact .inl (.inl (e a _ h h1 h2))
 . exact .inl (.inr ⟨o,e a _ h h1 h2⟩)
 . exact .inr h
theorem gj.j4(e:gj H H' l n)(h:aR K H a xs)(h1:a≠l)(h2:a≠n):aR K H' a xs:=by
 rcases h with (h|⟨o,h⟩)|h
 . exact .inl (.inl (e a _ h h1 h2))
 . exact .inl (.inr ⟨o,e a _ h h1 h2⟩)
 . exact .inr h
theorem bz.Ak{H H':Hp}{p l n:Addr}{rs:List (List V)}{xs ns:List V}(h:bz H p rs) (k:gj H H' l n) (hl:H l=some (.lst xs)) (hn:H n=some (.lst ns)) (h1:p≠l) (h2:p≠n):bz H' p rs:=by
 obtain⟨ts,e1,e2⟩:=h
 exact⟨ts,k p _ e1 h1 h2,Paired.cw e2 λt r e=>k t _ e (aD e hl (by intro z;cases z)) (aD e hn (by intro z;cases z))⟩
theorem aU.to2(k:aU H H' l)(n:Addr):gj H H' l n:=λb o h h1 _=>k b o h h1
theorem gj.trans(a:gj H H1 l n)(b:gj H1 H2 l n):gj H H2 l n:=λc o h h1 h2=>b c o (a c o h h1 h2) h1 h2
theorem gj.Xg:gj H (upd H n o) l n:=λb u h _ h2=>by rw[ag h2];exact h
theorem i6.Ak{K:W.Frag}{H H':Hp}{z l n:Addr}{s0 s1 s2 s3:Int}(h:i6 K H z s0 s1 s2 s3)(k:gj H H' l n)(h1:z≠l)(h2:z≠n):i6 K H' z s0 s1 s2 s3:=⟨h.1.imp (λq=>k.seq q h1 h2) (λq=>k.j4 q h1 h2),h.2⟩
def pW(names:List Str) (gt:List (Str×Str×Str)):Prop:=∀(i:Nat) (r:Str×Str×Str),gt[i]?=some r->Lit (names++(gt.take i).map (·.1)) r.2.1/\Lit (names++(gt.take i).map (·.1)) r.2.2
theorem pW.snoc{names:List Str}{gt:List (Str×Str×Str)}{r:Str×Str×Str}(h:pW names gt) (h1:Lit (names++gt.map (·.1)) r.2.1) (h2:Lit (names++gt.map (·.1)) r.2.2):pW names (gt++[r]):=by
 intro i q e
 rcases ahh i gt.length with hi|hi|hi
 . rw[adI hi]at e
   rw[List.take_append_of_le_length (ael hi)]
   exact h i q e
 . subst hi
   rw[adF (aaf _),ahm]at e
   have e':r=q:=by simpa using e
   subst e'
   rw[List.take_left']
   . exact⟨h1,h2⟩
   . rfl
 . rw[List.getElem?_eq_none (by rw[aag,abc];lia)]at e
   cases e
theorem qI{α:Type}{l:List α}{a:α}(h:l.Nodup)(ha:a∉l):(l++[a]).Nodup:=by
 rw[aau]
 refine⟨h,by simp,λx hx y hy e=>?_⟩
 have:y=a:=by simpa using hy
 rw[this]at e
 exact ha (e ▸ hx)
section
variable {P:Program}{w:World}{K:W.Frag}{mg:Str->Option Value}{base:Heap}{fP fS fL fW fR:Addr}{dP dS dL dW dR:FuncData}
structure AtB(K:W.Frag) (H:Hp) (z b c n a1 a2:Addr) (s0 s1 s2 s3:Int) (names sw:List Str) (kp:List (Str×V)):Prop where
 pb:∃xs,H b=some (.lst xs)/\fJ xs
 pc:∃xs,H c=some (.lst xs)/\fJ xs
 hz:i6 K H z s0 s1 s2 s3
 zb:z≠b
 zc:z≠c
 zn:z≠n
 bc:b≠c
 hn:H n=some (.lst (names.map V.str))
 nb:n≠b
 nc:n≠c
 nl:names.length<=28
 nm:∀x∈names,bp x
 nd:names.Nodup
 h1:H a1=some (.lst (sw.map V.str))
 b1:a1≠b
 c1:a1≠c
 n1:a1≠n
 h2:bz H a2 (kp.map kQ)
 b2:a2≠b
 c2:a2≠c
 n2:a2≠n
 kd:(kp.map (·.1)).Nodup
 kl:kp.length<=16
abbrev Xh(Q:VK)(s3:Int)(H1:Hp)(b c n a1 a2:Addr)(names sw:List Str) (kp:List (Str×V)):Prop:=
 ∀(m:Addr) (gt:List (Str×Str×Str)) (nx nv sm:List (Str×Str)) (a3 a4 a5 a6:Addr) (H':Hp),pW names gt->(names++gt.map (·.1)).Nodup->(∀x∈names++gt.map (·.1),bp x)->gt.length<=60->Gm (names++gt.map (·.1)) kp nx->nx.length<=kp.length->
  jt (names++gt.map (·.1)) [] nv->jt (names++gt.map (·.1)) (nv.map (·.1)) sm->1<=nv.length->(nv.length:Int)<=s3->(sm.length:Int)<=s3->iz H' m ⟨sw,kp,gt,nx,nv,sm⟩ a1 a2 a3 a4 a5 a6->Xf H1 H' b c n->Q (.ref m) H'
theorem Xi(G:Defs P w K mg base fP fS fL fW fR dP dS dL dW dR){f:Addr}{cdv:Value}{A:Around}{outer:List Env}{s:Shared}{H:Hp}{E:XK}{Q:VK}(hr:aN 3 (A.deeper (PyProof.Rows.envOfC "_law_machine_digits" (az ib) s.heap.objs.size f cdv))) :
 ∃tR:TS,jO (Aj P w K mg base f cdv A outer s H E) (List.drop 6 (eK ib)) tR/\∀(σ:St) (H1:Hp) (v0 v2 v3:Option V) (z b c n a1 a2:Addr) (s0 s1 s2 s3:Int) (names sw:List Str) (kp:List (Str×V)),
  σ=[v0,some (.ref z),v2,v3,some (.ref b),some (.ref c),some (.ref n),some (.ref a1),some (.ref a2),none,none,none,none,none,none,none,none]->
  AtB K H1 z b c n a1 a2 s0 s1 s2 s3 names sw kp->Xh Q s3 H1 b c n a1 a2 names sw kp->
  tR {nx:=λ_ H'=>Q .aV H',rt:=Q} σ H1:=by
 have dq:aN 1 _:=hr.mono (by decide)
 have mJ:aN 2 _:=hr.mono (by decide)
 obtain⟨tC,hC,rC⟩:=Xe G (outer:=outer) (H:=H) (E:=E) (Q:=Q) hr
 refine⟨_,ai (aP 9 iJ.nd (cY ah))
  (ai (fi ac7 rfl (iq rfl G.T.range (aa (bb G.cP dq (aa (pv 4) (aa (aX ja (aI sE (pv 1) ao (λ_ _=>rfl)) ao) ah))) ah)) (aC (i:=2) iJ.nd rfl (Or.inl rfl))
   (ai (aP 10 iJ.nd (bb G.cS mJ (aa (pv 4) (aa (pv 6) ah))))
   (ai (eI (ft aaL ac5 ac6 eJ (pv 9) (aa (fZ (aa (pv 10) (aa (bb G.cL mJ (aa (pv 4) (aa (pv 6) ah))) (aa (bb G.cL mJ (aa (pv 4) (aa (pv 6) ah))) ah)))) ah)))
   (au (eI (ft aaL ac5 ac6 eJ (pv 6) (aa (pv 10) ah))))))) hC),?_⟩
 rintro σ H1 v0 v2 v3 z b c n a1 a2 s0 s1 s2 s3 names sw kp rfl hA kk
 obtain⟨xs,hb,hp⟩:=hA.pb
 obtain⟨xc,hc,Rz⟩:=hA.pc
 obtain⟨_,_,_,⟨z2a,z2b⟩,_,_⟩:=hA.hz
 have rK:=hA.nl
 refine⟨(by show 0<=sizeLine;decide),λp hV=>?_⟩
 have zm:b≠p:=ae hb hV
 have zo:n≠p:=ae hA.hn hV
 have Bt:i6 K (upd H1 p (.lst [])) z s0 s1 s2 s3:=hA.hz.same (ak.av hV)
 refine⟨_,rfl,_,rfl,Bt.ix (i:=2) (v:=.int s2) rfl ⟨_,_,rfl,rfl,b,xs,_,rfl,(by rw[ag zm];exact hb),hp,by lia,by lia,λd Jr Bu d0 d1 Bv wq sX=>?_⟩⟩
 have k0:gj H1 Bu b n:=λx o h h1 _=>sX x o (by rw[ag (ae h hV)];exact h) h1
 have hn0:Bu n=some (.lst (names.map V.str)):=sX n _ (by rw[ag zo];exact hA.hn) hA.nb
 have LC:Bu p=some (.lst []):=sX p _ af (aax zm)
 refine⟨_,rfl,by lia,by lia,j7 (n:=d.toNat) (λi σ H2=>∃(gt:List (Str×Str×Str)) (wM v10:Option V) (ys:List V),
  σ=[v0,some (.ref z),wM,v3,some (.ref b),some (.ref c),some (.ref n),some (.ref a1),some (.ref a2),some (.ref p),v10,none,none,none,none,none,none]/\gt.length=i/\pW names gt/\(names++gt.map (·.1)).Nodup/\(∀x∈names++gt.map (·.1),bp x)/\
  bz H2 p (gt.map ow)/\H2 n=some (.lst ((names++gt.map (·.1)).map V.str))/\fJ ys/\H2 b=some (.lst ys)/\gj H1 H2 b n) ?_ ?_ ?_⟩
 . refine⟨[],v2,none,Jr,rfl,rfl,λi r e=>?_,?_,?_,⟨[],LC,.nil⟩,?_,Bv,wq,k0⟩
   . simp at e
   . simpa using hA.nd
   . simpa using hA.nm
   . simpa using hn0
 . rintro i σ H2 hi ⟨gt,wM,v10,ys,rfl,Bw,RA,pX,jd,⟨us,gr,iP⟩,jk,hJ,Bx,kp2⟩
   have zj:=iP.length
   rw[aaa]at zj
   have abA:(names++gt.map (·.1)).length=names.length+i:=by rw[aag,aaa,Bw]
   refine⟨_,rfl,_,rfl,b,n,ys,names++gt.map (·.1),rfl,Bx,hJ,hA.nb,ar.of jk,by lia,λnw my H3 Bl wD ou RB ke=>?_⟩
   have EE:H3 n=_:=ke n _ jk hA.nb
   have sW:H3 p=some (.lst (us.map V.ref)):=ke p _ gr (aax zm)
   refine⟨_,rfl,.inl ⟨rfl,_,ar.of sW⟩,_,rfl,_,rfl,_,rfl,b,n,my,names++gt.map (·.1),rfl,RB,ou,hA.nb,ar.of EE,by lia,jd,λl1 sR H4 iI lu hb4 lr=>?_⟩
   have NP:H4 n=_:=lr n _ EE hA.nb
   refine⟨_,rfl,_,rfl,b,n,sR,names++gt.map (·.1),rfl,hb4,lu,hA.nb,ar.of NP,by lia,jd,λl2 NK H5 d9 ny EF iy=>?_⟩
   have rT:H5 n=_:=iy n _ NP hA.nb
   have j3:H5 p=some (.lst (us.map V.ref)):=iy p _ (lr p _ sW (aax zm)) (aax zm)
   refine⟨(by show 3<=sizeLine;decide),λTp ju=>?_⟩
   have rS:p≠Tp:=ae j3 ju
   have nbT:b≠Tp:=ae EF ju
   have RC:n≠Tp:=ae rT ju
   refine⟨p,_,_,rfl,rfl,(by rw[ag rS];exact j3),(by rw[aaa];exact small (by lia)),?_⟩
   have Js:(upd (upd H5 Tp (HO.tup [V.str nw,V.str l1,V.str l2])) p (.lst (us.map V.ref++[V.ref Tp]))) n=some (.lst ((names++gt.map (·.1)).map V.str)):=by rw[ag zo,ag RC];exact rT
   refine⟨_,rfl,.inl ⟨rfl,_,ar.of Js⟩,_,rfl,n,_,_,rfl,rfl,Js,(by rw[aaa];exact small (by lia)),?_⟩
   have abB:nw∉names++gt.map (·.1):=wD
   have en:names++(gt++[(nw,l1,l2)]).map (·.1)=(names++gt.map (·.1))++[nw]:=by rw[aah,← ady];rfl
   have tn:∀a wK,H5 a=some (HO.tup wK)->a≠n:=λa wK e=>aD e rT (by intro z;cases z)
   refine⟨gt++[(nw,l1,l2)],_,_,NK,rfl,(by rw[aag,abc,Bw]),RA.snoc iI d9,(by rw[en];exact qI pX abB),λx hx=>?_,?_,?_,ny,?_,λx o hx h1 h2=>?_⟩
   . rw[en]at hx
     rcases aap.mp hx with hx|hx
     . exact jd x hx
     . rw[aaC.mp hx];exact Bl
   . have tp:=bz.snoc (H:=upd H5 Tp (HO.tup [V.str nw,V.str l1,V.str l2])) (p:=p) (t:=Tp) (rs:=gt.map ow) (r:=[V.str nw,V.str l1,V.str l2]) (ts:=us) (Paired.cw iP λa r e=>by
      have RD:=aD e Bx (by intro z;cases z)
      have ea:H5 a=some (.tup r):=iy a _ (lr a _ (ke a _ e RD) RD) RD
      rw[ag (ae ea ju)]
      exact ea) af (λa wK e z'=>by rw[z',ag rS,j3]at e;cases e)
     obtain⟨RE,e1,e2⟩:=tp
     refine⟨RE,by rw[ag (aax zo)];exact e1,?_⟩
     have er:(gt++[(nw,l1,l2)]).map ow=gt.map ow++[[V.str nw,V.str l1,V.str l2]]:=by rw[aah];rfl
     rw[er]
     refine Paired.cw e2 λa r e=>?_
     rw[ag (aD e Js (by intro z;cases z))]
     exact e
   . rw[af,en]
     simp only[aah,aaB,ad5]
   . rw[ag (aax hA.nb),ag zm,ag nbT]
     exact EF
   . have e5:H5 x=some o:=iy x o (lr x o (ke x o (kp2 x o hx h1 h2) h1) h1) h1
     rw[ag h2,ag (ae hx hV),ag (ae e5 ju)]
     exact e5
 . rintro σ H2 ⟨gt,wM,v10,ys,rfl,Bw,RA,pX,jd,Bo,jk,hJ,Bx,kp2⟩
   have lq:H2 c=some (.lst xc):=kp2 c _ hc (aax hA.bc) (aax hA.nc)
   have sV:c≠p:=ae hc hV
   refine rC _ H2 v0 wM v3 (some (.ref b)) v10 z c n a1 a2 p s0 s1 s2 s3 (names++gt.map (·.1)) sw kp gt rfl ⟨⟨xc,lq,Rz⟩,hA.hz.Ak kp2 hA.zb hA.zn,hA.zc,jk,hA.nc,(by rw[aag,aaa];lia),jd,
    kp2 a1 _ hA.h1 hA.b1 hA.n1,hA.c1,hA.h2.Ak kp2 hb hA.hn hA.b2 hA.n2,hA.c2,Bo,aax sV,hA.kd,hA.kl⟩ ?_
   intro m nx nv sm a4 a5 a6 H' q1 q2 w1 w2 l1 l2 l3 hM Bs
   exact kk m gt nx nv sm p a4 a5 a6 H' RA pX jd (by lia) q1 q2 w1 w2 l1 l2 l3 hM λx o hx h1 h2 h3=>Bs x o (kp2 x o hx h1 h3) h2
end
def RG(kp:List (Str×V)):Prop:=∀r∈kp,r.2=.int 0\/r.2=.int 1\/r.2=.aV
theorem LD(h0:0<=d)(h1:d<3):∃v:V,j8 [V.int 0,.int 1,.aV] d=some v/\(v=.int 0\/v=.int 1\/v=.aV):=by
 rcases (show d=0\/d=1\/d=2 by lia) with rfl|rfl|rfl
 . exact⟨_,rfl,.inl rfl⟩
 . exact⟨_,rfl,.inr (.inl rfl)⟩
 . exact⟨_,rfl,.inr (.inr rfl)⟩
section
variable {P:Program}{w:World}{K:W.Frag}{mg:Str->Option Value}{base:Heap}{fP fS fL fW fR:Addr}{dP dS dL dW dR:FuncData}
structure AtA(K:W.Frag) (H:Hp) (z a b c n:Addr) (s0 s1 s2 s3:Int) (sw:List Str):Prop where
 pa:∃xs,H a=some (.lst xs)/\fJ xs
 pb:∃xs,H b=some (.lst xs)/\fJ xs
 pc:∃xs,H c=some (.lst xs)/\fJ xs
 hz:i6 K H z s0 s1 s2 s3
 za:z≠a
 zb:z≠b
 zc:z≠c
 zn:z≠n
 ab:a≠b
 ac:a≠c
 bc:b≠c
 hn:H n=some (.lst (sw.map V.str))
 na:n≠a
 nb:n≠b
 nc:n≠c
 nl:sw.length<=12
 nm:∀x∈sw,bp x
 nd:sw.Nodup
def Xj(H H':Hp)(a b c n:Addr):Prop:=∀x o,H x=some o->x≠a->x≠b->x≠c->x≠n->H' x=some o
abbrev Xk(Q:VK)(s1 s3:Int)(H1:Hp)(a b c n:Addr)(sw:List Str):Prop:=
 ∀(m:Addr) (M:aQ) (names:List Str) (a1 a2 a3 a4 a5 a6:Addr) (H':Hp),M.switches=sw->c8 M names->names.length<=88->((M.keepers.length:Int)<=s1/\M.keepers.length<=16)->M.gates.length<=60->M.nexts.length<=16->1<=M.nevers.length->(M.nevers.length:Int)<=s3->(M.somes.length:Int)<=s3->
  iz H' m M a1 a2 a3 a4 a5 a6->Xj H1 H' a b c n->Q (.ref m) H'
theorem Xl(G:Defs P w K mg base fP fS fL fW fR dP dS dL dW dR) (hr:aN 3 (A.deeper (PyProof.Rows.envOfC "_law_machine_digits" (az ib) s.heap.objs.size f cdv))) :
 ∃tR:TS,jO (Aj P w K mg base f cdv A outer s H E) (List.drop 3 (eK ib)) tR/\∀(σ:St) (H1:Hp) (v0 v2:Option V) (z a b c n:Addr) (s0 s1 s2 s3:Int) (sw:List Str),
  σ=[v0,some (.ref z),v2,some (.ref a),some (.ref b),some (.ref c),some (.ref n),none,none,none,none,none,none,none,none,none,none]->
  AtA K H1 z a b c n s0 s1 s2 s3 sw->Xk Q s1 s3 H1 a b c n sw->
  tR {nx:=λ_ H'=>Q .aV H',rt:=Q} σ H1:=by
 have dq:aN 1 _:=hr.mono (by decide)
 have mJ:aN 2 _:=hr.mono (by decide)
 obtain⟨tB,hB,rB⟩:=Xi G (outer:=outer) (H:=H) (E:=E) (Q:=Q) hr
 refine⟨_,ai (aP 7 iJ.nd (bK jo (by rfl) G.T.list adw (aa (pv 6) ah)))
  (ai (aP 8 iJ.nd (cY ah))
  (ai (fi ac7 rfl (iq rfl G.T.range (aa (bb G.cP dq (aa (pv 3) (aa (aX ja (aI sE (pv 1) ao (λ_ _=>rfl)) ao) ah))) ah)) (aC (i:=2) iJ.nd rfl (Or.inl rfl))
   (ai (eI (ft aaL ac5 ac6 eJ (pv 6) (aa (bb G.cS mJ (aa (pv 3) (aa (pv 6) ah))) ah)))
   (au (eI (ft aaL ac5 ac6 eJ (pv 8) (aa (fZ (aa (aI aS (pv 6) (Ag vR ao) (λ_ _=>rfl))
    (aa (aI aS (cY (aa ao (aa ao (aa Qy ah)))) (bb G.cP dq (aa (pv 3) (aa ao ah))) (λ_ _=>rfl)) ah))) ah)))))) hB)),?_⟩
 rintro σ H0 v0 v2 z a b c n s0 s1 s2 s3 sw rfl hA kk
 obtain⟨xs,ha,hp⟩:=hA.pa
 obtain⟨xb,hb,hpb⟩:=hA.pb
 obtain⟨xc,hc,Rz⟩:=hA.pc
 obtain⟨_,_,⟨z1a,z1b⟩,_,_,_⟩:=hA.hz
 have rK:=hA.nl
 refine⟨_,rfl,n,_,rfl,.inl (ar.of hA.hn),λa1 Jt=>?_⟩
 have rV:ak H0 (upd H0 a1 (.lst (sw.map V.str))):=ak.av Jt
 have Yt:n≠a1:=ae hA.hn Jt
 have aa1:a≠a1:=ae ha Jt
 have ba1:b≠a1:=ae hb Jt
 have ca1:c≠a1:=ae hc Jt
 have h1:(upd H0 a1 (.lst (sw.map V.str))) a1=some (.lst (sw.map V.str)):=af
 generalize hH1:upd H0 a1 (.lst (sw.map V.str))=H1 at *
 have zp:=rV a _ ha
 have kN:=rV b _ hb
 have jF:=rV c _ hc
 have Ay:=rV n _ hA.hn
 refine⟨(by show 0<=sizeLine;decide),λp hV=>?_⟩
 have Ju:a≠p:=ae zp hV
 have zm:b≠p:=ae kN hV
 have sV:c≠p:=ae jF hV
 have zo:n≠p:=ae Ay hV
 have Bt:i6 K (upd H1 p (.lst [])) z s0 s1 s2 s3:=(hA.hz.same rV).same (ak.av hV)
 refine⟨_,rfl,_,rfl,Bt.ix (i:=1) (v:=.int s1) rfl ⟨_,_,rfl,rfl,a,xs,_,rfl,(by rw[ag Ju];exact zp),hp,by lia,by lia,λd Jr Bu d0 d1 Bv wq sX=>?_⟩⟩
 have k0:gj H1 Bu a n:=λx o h h1 _=>sX x o (by rw[ag (ae h hV)];exact h) h1
 have hn0:Bu n=some (.lst (sw.map V.str)):=sX n _ (by rw[ag zo];exact Ay) hA.na
 have LC:Bu p=some (.lst []):=sX p _ af (aax Ju)
 refine⟨_,rfl,by lia,by lia,j7 (n:=d.toNat) (λi σ H2=>∃(kp:List (Str×V)) (wM:Option V) (ys:List V),
  σ=[v0,some (.ref z),wM,some (.ref a),some (.ref b),some (.ref c),some (.ref n),some (.ref a1),some (.ref p),none,none,none,none,none,none,none,none]/\kp.length=i/\RG kp/\(sw++kp.map (·.1)).Nodup/\(∀x∈sw++kp.map (·.1),bp x)/\
  bz H2 p (kp.map kQ)/\H2 n=some (.lst ((sw++kp.map (·.1)).map V.str))/\fJ ys/\H2 a=some (.lst ys)/\gj H1 H2 a n) ?_ ?_ ?_⟩
 . refine⟨[],v2,Jr,rfl,rfl,(λ_ h=>nomatch h),?_,?_,⟨[],LC,.nil⟩,?_,Bv,wq,k0⟩
   . simpa using hA.nd
   . simpa using hA.nm
   . simpa using hn0
 . rintro i σ H2 hi ⟨kp,wM,ys,rfl,NN,RH,pX,jd,⟨us,gr,iP⟩,jk,hJ,RI,kp2⟩
   have zj:=iP.length
   rw[aaa]at zj
   have abA:(sw++kp.map (·.1)).length=sw.length+i:=by rw[aag,aaa,NN]
   refine⟨_,rfl,.inl ⟨rfl,_,ar.of jk⟩,_,rfl,_,rfl,a,n,ys,sw++kp.map (·.1),rfl,RI,hJ,hA.na,ar.of jk,by lia,λnw my H3 Bl wD ou ha3 ke=>?_⟩
   have EE:H3 n=some (.lst ((sw++kp.map (·.1)).map V.str)):=ke n _ jk hA.na
   have sW:H3 p=some (.lst (us.map V.ref)):=ke p _ gr (aax Ju)
   refine⟨n,_,_,rfl,rfl,EE,(by rw[aaa];exact small (by lia)),?_⟩
   have lu:(upd H3 n (.lst ((sw++kp.map (·.1)).map V.str++[V.str nw]))) p=some (.lst (us.map V.ref)):=by rw[ag (aax zo)];exact sW
   have NQ:(upd H3 n (.lst ((sw++kp.map (·.1)).map V.str++[V.str nw]))) a=some (.lst my):=by rw[ag (aax hA.na)];exact ha3
   refine⟨_,rfl,.inl ⟨rfl,_,ar.of lu⟩,_,rfl,_,rfl,n,_,_,.str nw,rfl,rfl,ar.of af,vd _ _,(by show 3<=sizeLine;decide),λq hq=>?_⟩
   have Yu:a≠q:=ae NQ hq
   have npq:p≠q:=ae lu hq
   have nnq:n≠q:=ae (af (H:=H3) (a:=n)) hq
   refine⟨_,rfl,a,my,3,rfl,(by rw[ag Yu];exact NQ),ou,by decide,by decide,λd2 sR H5 e0 e1 ny zi iy=>?_⟩
   obtain⟨fv,hfv,kU⟩:=LD e0 e1
   have hq5:H5 q=some (.lst [V.int 0,.int 1,.aV]):=iy q _ af (aax Yu)
   have j3:H5 p=some (.lst (us.map V.ref)):=iy p _ (by rw[ag npq];exact lu) (aax Ju)
   have rT:H5 n=some (.lst ((sw++kp.map (·.1)).map V.str++[V.str nw])):=iy n _ (by rw[ag nnq,af]) hA.na
   refine⟨q,_,d2,fv,rfl,rfl,ar.of hq5,hfv,(by show 2<=sizeLine;decide),λTp ju=>?_⟩
   have rS:p≠Tp:=ae j3 ju
   have naT:a≠Tp:=ae zi ju
   have RC:n≠Tp:=ae rT ju
   refine⟨p,_,_,rfl,rfl,(by rw[ag rS];exact j3),(by rw[aaa];exact small (by lia)),?_⟩
   have en:sw++(kp++[(nw,fv)]).map (·.1)=(sw++kp.map (·.1))++[nw]:=by rw[aah,← ady];rfl
   have Yv:∀x o,H3 x=some o->x≠a->x≠n->H5 x=some o:=λx o hx h1 h2=>iy x o (by
    have e4:(upd H3 n (.lst ((sw++kp.map (·.1)).map V.str++[V.str nw]))) x=some o:=by rw[ag h2];exact hx
    rw[ag (ae e4 hq)]
    exact e4) h1
   refine⟨kp++[(nw,fv)],_,sR,rfl,(by rw[aag,abc,NN]),λr hr=>?_,(by rw[en];exact qI pX wD),λx hx=>?_,?_,?_,ny,?_,λx o hx h1 h2=>?_⟩
   . rcases aap.mp hr with hr|hr
     . exact RH r hr
     . rw[aaC.mp hr];exact kU
   . rw[en]at hx
     rcases aap.mp hx with hx|hx
     . exact jd x hx
     . rw[aaC.mp hx];exact Bl
   . have er:(kp++[(nw,fv)]).map kQ=kp.map kQ++[[V.str nw,fv]]:=by rw[aah];rfl
     rw[er]
     refine bz.snoc (Paired.cw iP λx r e=>?_) af (λx wK e z'=>by rw[z',ag rS,j3]at e;cases e)
     have NR:=aD e RI (by intro z;cases z)
     have Yw:=aD e jk (by intro z;cases z)
     have e5:H5 x=some (.tup r):=Yv x _ (ke x _ e NR) NR Yw
     rw[ag (ae e5 ju)]
     exact e5
   . rw[ag zo,ag RC,rT,en]
     simp only[aah,aaB,ad5]
   . rw[ag Ju,ag naT]
     exact zi
   . have e5:H5 x=some o:=Yv x o (ke x o (kp2 x o hx h1 h2) h1) h1 h2
     rw[ag (ae hx hV),ag (ae e5 ju)]
     exact e5
 . rintro σ H2 ⟨kp,wM,ys,rfl,NN,RH,pX,jd,Bo,jk,hJ,RI,kp2⟩
   have Bx:H2 b=some (.lst xb):=kp2 b _ kN (aax hA.ab) (aax hA.nb)
   have lq:H2 c=some (.lst xc):=kp2 c _ jF (aax hA.ac) (aax hA.nc)
   refine rB _ H2 v0 wM (some (.ref a)) z b c n a1 p s0 s1 s2 s3 (sw++kp.map (·.1)) sw kp rfl ⟨⟨xb,Bx,hpb⟩,⟨xc,lq,Rz⟩,(hA.hz.same rV).Ak kp2 hA.za hA.zn,hA.zb,hA.zc,hA.zn,hA.bc,jk,hA.nb,hA.nc,(by rw[aag,aaa];lia),jd,pX,
    kp2 a1 _ h1 (aax aa1) (aax Yt),aax ba1,aax ca1,aax Yt,Bo,aax zm,aax sV,aax zo,(aau.mp pX).2.1,by lia⟩ ?_
   intro m gt nx nv sm a3 a4 a5 a6 H' q1 q2 q3 q4 q5 q6 w1 w2 l1 l2 l3 hM Bs
   refine kk m ⟨sw,kp,gt,nx,nv,sm⟩ (sw++kp.map (·.1)++gt.map (·.1)) a1 p a3 a4 a5 a6 H' rfl ⟨rfl,q3,q2,RH,λr hr=>(q5.1 r hr).1,λr hr=>(q5.1 r hr).2,q5.2,w1,w2,q1⟩ ?_ ⟨by show (kp.length:Int)<=s1;lia,by show kp.length<=16;lia⟩ q4 (by show nx.length<=16;lia) l1 l2 l3 hM ?_
   . simp only[aag,aaa]
     lia
   . intro x o hx h1 h2 h3 h4
     exact Bs x o (kp2 x o (rV x o hx) h1 h4) h2 h3 h4
end
end Gen
namespace L2
open PySem PySem.Spec PyProof.Rows
section
variable {X:Cx}
def Xm(i j k:Nat)(ta:TA):TS:=λD σ H=>ta σ H λvs H1=>∃v w z,vs=[v,w,z]/\D.nx (((σ.set i (some v)).set j (some w)).set k (some z)) H1
theorem Pt(hc:X.calm=true)(hN:X.N.Nodup)(hi:X.N[i]?=some x)(hj:X.N[j]?=some y)(hk:X.N[k]?=some z)(Br:i≠j)(hik:i≠k)(hjk:j≠k)
 (hx:X.env.scope.names.lookup x=some .local) (hy:X.env.scope.names.lookup y=some .local) (hz:X.env.scope.names.lookup z=some .local) (ha:PA X [a,b,c] ta)
 (hw:swappedStores [.Tuple [.Name x px,.Name y py,.Name z pz] kt pt] (.Tuple [a,b,c] k2 Yx) X.env=pure (some [x,y,z]))
 (hs:swapsWithSole [.Tuple [.Name x px,.Name y py,.Name z pz] kt pt] (.Tuple [a,b,c] k2 Yx) pos.line X.env=pure false:=by rfl) :
 PS X (.Assign [.Tuple [.Name x px,.Name y py,.Name z pz] kt pt] (.Tuple [a,b,c] k2 Yx) pos) (Xm i j k ta):=by
 intro pins s σ H D I h
 rw[exec_Assign_arm]
 refine aad (af5 ?_)
 rw[hs]
 refine aad (aao ?_)
 rw[aaz (by decide)]
 refine aad (Tuple_ (aO (ha _ pins s σ H _ I h) λus s1 ⟨vs,H1,I1,r1,q1⟩=>?_))
 obtain⟨v,w,t,e1,q1⟩:=q1
 subst e1
 obtain⟨u1,u2,u3,rfl,rv,mj,rt⟩:∃u1 u2 u3,us=[u1,u2,u3]/\RelV v u1/\RelV w u2/\RelV t u3:=by
  cases r1 with
  | cons p q=>
   cases q with
   | cons p' q'=>
    cases q' with
    | cons p2 q2=>
     cases q2
     exact⟨_,_,_,rfl,p,p',p2⟩
 refine aeM ?_ (by show 3<=sizeLine;decide)
 have I2:Inv X pins σ H1 {s1 with heap:=s1.heap.push {cls:=.type "tuple",data:=.seq [u1,u2,u3].toArray} }:=I1.kept (t':=s1.toks) λb o e=>aac _ e
 rw[hw]
 refine aad (aao ?_)
 show wpAny (model X.prog X.w) X.A (do rule "assign.swapped-stores"; let items ← unpackItems (.ref s1.heap.objs.size) 3 none;assignInOrder [λv=>bindName X.env z v,λv=>bindName X.env y v,λv=>bindName X.env x v] items.reverse;pure Flow.next) _ _ _
 refine aad (afm (aad (unpackItems_tuple (items:=#[u1,u2,u3]) (I.ok.hd hc) (IsTup.new s1.heap _) λh' rW=>?_)))
 have I3:=I2.kept (h':=h') (t':=s1.toks) λb o e=>rW b o (aaD (aaw e)) e
 show wpAny _ _ (assignInOrder [λv=>bindName X.env z v,λv=>bindName X.env y v,λv=>bindName X.env x v] [u3,u2,u1] >>= λ_=>pure Flow.next) _ _ _
 refine aad (ae1 (agS (nZ I3 hN hk (.inl hz) rt (λs2 I4=>?_) (.inr hz))))
 refine ae1 (agS (nZ I4 hN hj (.inl hy) mj (λs3 I5=>?_) (.inr hy)))
 refine ae1 (agS (nZ I5 hN hi (.inl hx) rv (λs4 I6=>assignInOrder_nil (aao ?_)) (.inr hx)))
 have e:((σ.set k (some t)).set j (some w)).set i (some v)=((σ.set i (some v)).set j (some w)).set k (some t):=by
  rw[ag9 _ _ (aax Br),ag9 (some t) (some v) (aax hik),ag9 (some t) (some w) (aax hjk)]
 rw[e]at I6
 exact⟨_,H1,I6,q1⟩
end
end L2
namespace Gen
open PySem L2
theorem wN{σ:St}{H:Hp}{A B:Hp->Prop}(h:A H):oo σ H (λb H3=>if b=true then A H3 else B H3):=by
 show (if true=true then A H else B H)
 rw[aaF rfl]
 exact h
theorem RJ:(["_law_k", "_law_cell"]:List Str).Nodup:=dk
abbrev lJ(Q:VK)(s0 s1 s3:Int)(H:Hp):Prop:=
 ∀(m:Addr) (M:aQ) (names:List Str) (a1 a2 a3 a4 a5 a6:Addr) (H':Hp),c8 M names->names.length<=88->((M.switches.length:Int)<=s0/\M.switches.length<=12)->((M.keepers.length:Int)<=s1/\M.keepers.length<=16)->M.gates.length<=60->M.nexts.length<=16->1<=M.nevers.length->(M.nevers.length:Int)<=s3->(M.somes.length:Int)<=s3->
  iz H' m M a1 a2 a3 a4 a5 a6->ak H H'->Q (.ref m) H'
inductive zr(K:W.Frag) (vs:List V) (H:Hp) (Q:VK):Prop
 | mk (ce z:Addr) (c0 c1 c2 s0 s1 s2 s3:Int) (h1:vs=[.ref ce,.ref z]) (h2:ar K H ce [.int c0,.int c1,.int c2]) (h3:i6 K H z s0 s1 s2 s3) (h4:(∃o,H z=some o)) (h5:lJ Q s0 s1 s3 H):zr K vs H Q
def qJ(K:W.Frag):Sp:=λvs H Q _=>zr K vs H Q
section
variable {P:Program}{w:World}{K:W.Frag}{mg:Str->Option Value}{base:Heap}{fP fS fL fW fR:Addr}{dP dS dL dW dR:FuncData}
theorem Jv(F:aK K "_law_machine_digits" "_law_machine_digits" ib f fd)(G:Defs P w K mg base fP fS fL fW fR dP dS dL dW dR):ax P w K mg base aB 4 f fd sU (qJ K):=by
 refine F.run iJ λcdv A outer s H vs Q E hr h=>?_
 . obtain⟨ce,z,c0,c1,c2,s0,s1,s2,s3,rfl,EG,hz,⟨oz,uP⟩,kk⟩:=h
   have dq:aN 1 _:=hr.mono (by decide)
   have mJ:aN 2 _:=hr.mono (by decide)
   obtain⟨tA,hA,rA⟩:=Xl G (outer:=outer) (H:=H) (E:=E) (Q:=Q) hr
   refine⟨_,ai (Pt (i:=3) (j:=4) (k:=5) rfl iJ.nd rfl rfl rfl (by decide) (by decide) (by decide) rfl rfl rfl (aa (cY (aa (aI (r:=eC K) aS (pv 0) ao (λ_ _=>rfl)) ah)) (aa (cY (aa (aI (r:=eC K) aS (pv 0) ao (λ_ _=>rfl)) ah)) (aa (cY (aa (aI (r:=eC K) aS (pv 0) ao (λ_ _=>rfl)) ah)) ah))) rfl)
    (ai (aP 6 iJ.nd (cY ah))
    (ai (fi ac7 rfl (iq rfl G.T.range (aa (bb G.cP dq (aa (pv 3) (aa (aX ja (aI sE (pv 1) ao (λ_ _=>rfl)) ao) ah))) ah)) (aC (i:=2) iJ.nd rfl (Or.inl rfl))
     (au (eI (ft aaL ac5 ac6 eJ (pv 6) (aa (bb G.cS mJ (aa (pv 3) (aa (pv 6) ah))) ah))))) hA)),?_⟩
   obtain⟨_,⟨z0a,z0b⟩,_,_,_,_⟩:=id hz
   refine⟨_,rfl,ce,_,_,.int c0,rfl,rfl,EG,rfl,(by show 1<=sizeLine;decide),λa fa=>?_⟩
   have t1:ak H (upd H a (.lst [.int c0])):=ak.av fa
   have qa:(upd H a (.lst [.int c0])) a=some (.lst [.int c0]):=af
   generalize upd H a (.lst [.int c0])=Ha at t1 qa ⊢
   refine⟨_,rfl,ce,_,_,.int c1,rfl,rfl,ak.seq t1 EG,rfl,(by show 1<=sizeLine;decide),λb RK=>?_⟩
   have t2:ak Ha (upd Ha b (.lst [.int c1])):=ak.av RK
   have qb:(upd Ha b (.lst [.int c1])) b=some (.lst [.int c1]):=af
   have ab:a≠b:=ae qa RK
   generalize upd Ha b (.lst [.int c1])=Hb at t2 qb ⊢
   refine⟨_,rfl,ce,_,_,.int c2,rfl,rfl,ak.seq (t1.trans t2) EG,rfl,(by show 1<=sizeLine;decide),λc NS=>?_⟩
   have t3:ak Hb (upd Hb c (.lst [.int c2])):=ak.av NS
   have hc:(upd Hb c (.lst [.int c2])) c=some (.lst [.int c2]):=af
   have bc:b≠c:=ae qb NS
   have ac:a≠c:=ae (t2 _ _ qa) NS
   show ∃v w z,_/\eR _ _ _ _ (upd Hb c (.lst [.int c2]))
   generalize upd Hb c (.lst [.int c2])=H2 at t3 hc ⊢
   have jG:ak H H2:=t1.trans (t2.trans t3)
   have ha:=t3 _ _ (t2 _ _ qa)
   have hb:=t3 _ _ qb
   have back:∀{Hx:Hp}{d:Addr},ak H Hx->Hx d=none->H d=none:=λs h=>by
    cases e:H _ with
    | none=>rfl
    | some o=>rw[s _ _ e]at h;cases h
   have fb:H b=none:=back t1 RK
   have fc:H c=none:=back (t1.trans t2) NS
   refine⟨_,_,_,rfl,?_⟩
   . -- names
     refine⟨(by show 0<=sizeLine;decide),λn hn=>?_⟩
     have an:a≠n:=ae ha hn
     have bn:b≠n:=ae hb hn
     have cn:c≠n:=ae hc hn
     have ze:ak H2 (upd H2 n (.lst [])):=ak.av hn
     have RL:i6 K (upd H2 n (.lst [])) z s0 s1 s2 s3:=(hz.same jG).same ze
     refine⟨_,rfl,_,rfl,RL.ix (i:=0) (v:=.int s0) rfl ⟨_,_,rfl,rfl,a,_,_,rfl,(by rw[ag an];exact ha),.inl ⟨_,rfl⟩,by lia,by lia,λd Jr H4 d0 d1 Bv NQ sX=>?_⟩⟩
     have NP:H4 n=some (.lst []):=sX n _ af (aax an)
     have Jw:aU H H4 a:=((ak.keep jG a).trans (ak.keep ze a)).trans sX
     have k24:aU H2 H4 a:=(ak.keep ze a).trans sX
     refine⟨_,rfl,by lia,by lia,j7 (n:=d.toNat) (λi σ H5=>∃(sw:List Str) (v2:Option V) (ys:List V),
      σ=[some (.ref ce),some (.ref z),v2,some (.ref a),some (.ref b),some (.ref c),some (.ref n),none,none,none,none,none,none,none,none,none,none]/\sw.length=i/\sw.Nodup/\(∀x∈sw,bp x)/\H5 n=some (.lst (sw.map V.str))/\fJ ys/\H5 a=some (.lst ys)/\gj H2 H5 a n) ?_ ?_ ?_⟩
     . exact⟨[],none,Jr,rfl,rfl,adN,(λ_ h=>nomatch h),NP,Bv,NQ,k24.to2 n⟩
     . rintro i σ H5 hi ⟨sw,v2,ys,rfl,oZ,LF,jd,rT,hJ,zi,iy⟩
       refine⟨_,rfl,.inl ⟨rfl,_,ar.of rT⟩,_,rfl,_,rfl,a,n,ys,sw,rfl,zi,hJ,aax an,ar.of rT,by lia,λnw my H6 Bl wD wL Rw EC=>?_⟩
       have Js:H6 n=some (.lst (sw.map V.str)):=EC n _ rT (aax an)
       refine⟨n,_,_,rfl,rfl,Js,(by rw[aaa];exact small (by lia)),?_⟩
       refine⟨sw++[nw],_,my,rfl,(by rw[aag,abc,oZ]),qI LF wD,λx hx=>?_,?_,wL,(by rw[ag an];exact Rw),(iy.trans (EC.to2 n)).trans gj.Xg⟩
       . rcases aap.mp hx with hx|hx
         . exact jd x hx
         . rw[aaC.mp hx];exact Bl
       . rw[af,aah]
         rfl
     . rintro σ H5 ⟨sw,v2,ys,rfl,oZ,LF,jd,rT,hJ,zi,iy⟩
       have EF:=iy b _ hb (aax ab) bn
       have NO:=iy c _ hc (aax ac) cn
       have old:∀x o,H x=some o->x≠a/\x≠b/\x≠c/\x≠n:=λx o hx=>⟨ae hx fa,ae hx fb,ae hx fc,ae (jG x o hx) hn⟩
       have zt:ak H H5:=λx o hx=>iy x o (jG x o hx) (old x o hx).1 (old x o hx).2.2.2
       obtain⟨za,zb,zc,zn⟩:=old z oz uP
       refine rA _ H5 (some (.ref ce)) v2 z a b c n s0 s1 s2 s3 sw rfl ⟨⟨ys,zi,hJ⟩,⟨_,EF,.inl ⟨_,rfl⟩⟩,⟨_,NO,.inl ⟨_,rfl⟩⟩,hz.same zt,za,zb,zc,zn,ab,ac,bc,rT,aax an,aax bn,aax cn,by lia,jd,LF⟩ ?_
       intro m M names a1 a2 a3 a4 a5 a6 H' eM ok l1 l2 l3 l4 l5 l6 l7 hM Bs
       refine kk m M names a1 a2 a3 a4 a5 a6 H' ok l1 ⟨by rw[eM];lia,by rw[eM];lia⟩ l2 l3 l4 l5 l6 l7 hM λx o hx=>?_
       obtain⟨q1,q2,q3,q4⟩:=old x o hx
       exact Bs x o (zt x o hx) q1 q2 q3 q4
end
inductive wO(K:W.Frag) (vs:List V) (H:Hp) (Q:VK):Prop
 | mk (a z:Addr) (ns:List Int) (s0 s1 s2 s3:Int) (h1:vs=[.ref a,.ref z]) (h2:ar K H a (ns.map V.int)) (h3:i6 K H z s0 s1 s2 s3) (h4:(∃o,H z=some o)) (h5:lJ Q s0 s1 s3 H):wO K vs H Q
def sY(K:W.Frag):Sp:=λvs H Q _=>wO K vs H Q
abbrev RM:List Str:=["_law_script", "_law_sizes", "_law_cells"]
abbrev By:List Str:=["_law_script", "_law_sizes"]
theorem Gn:aJ RM By (az lI):=fs
theorem abC:(["_law_k", "_law_script"]:List Str).Nodup:=dk
abbrev Xn(P:Program)(w:World)(K:W.Frag)(mg:Str->Option Value)(base:Heap)(f:Addr)(cdv:Value)(A:Around)(outer:List Env)(s:Shared)(H:Hp)(E:XK):Cx:=
 (pD aB P w K mg base RM "_law_machine" (az lI) f cdv A outer s H E).yI
theorem lJ.same{Q:VK}{s0 s1 s3:Int}{H H1:Hp}(k:lJ Q s0 s1 s3 H)(s:ak H H1):lJ Q s0 s1 s3 H1:=λm M names a1 a2 a3 a4 a5 a6 H' ok l1 l0 l2 l3 l4 l5 l6 l7 hM s1=>k m M names a1 a2 a3 a4 a5 a6 H' ok l1 l0 l2 l3 l4 l5 l6 l7 hM (s.trans s1)
section
variable {P:Program}{w:World}{K:W.Frag}{mg:Str->Option Value}{base:Heap}{fD fC fR:Addr}{dD dC dR:FuncData}
theorem Jx(gD:ax P w K mg base aB 4 fD dD sU (qJ K)) (mD:mg "_law_machine_digits" = some (.ref fD)) (kD:W.keepIn K (.ref fD)=true) (bD:Binds K dD sU [])
 (hr:aN 4 (A.deeper (PyProof.Rows.envOfC "_law_machine" (az lI) s.heap.objs.size f cdv))) :
 ∃tR:TS,jO (Xn P w K mg base f cdv A outer s H E) (List.drop 2 (eK lI)) tR/\∀(H1:Hp) (v0:Option V) (z D:Addr) (c0 c1 c2 s0 s1 s2 s3:Int),H1 D=some (.lst [.int c0,.int c1,.int c2])->i6 K H1 z s0 s1 s2 s3->(∃o,H1 z=some o)->lJ Q s0 s1 s3 H1->
  tR {nx:=λ_ H'=>Q .aV H',rt:=Q} [v0,some (.ref z),some (.ref D)] H1:=by
 refine⟨_,au (aL (dm gD hr rfl mD kD bD .nil dv (aa (cY (aa (aI aS (pv 2) ao (λ_ _=>rfl)) (aa (aI aS (pv 2) ao (λ_ _=>rfl)) (aa (aX t8 (aI aS (pv 2) ao (λ_ _=>rfl)) ao) ah)))) (aa (pv 1) ah)))),?_⟩
 intro H1 v0 z D c0 c1 c2 s0 s1 s2 s3 hD hz uP kk
 refine⟨_,rfl,D,_,_,.int c0,rfl,rfl,ar.of hD,rfl,_,rfl,D,_,_,.int c1,rfl,rfl,ar.of hD,rfl,_,rfl,D,_,_,.int c2,rfl,rfl,ar.of hD,rfl,_,_,rfl,rfl,⟨by decide,by decide⟩,(by show 3<=sizeLine;decide),λp hp=>?_⟩
 have uQ:ak H1 (upd H1 p (.lst [.int c0,.int c1,.int (c2 / 2)])):=ak.av hp
 obtain⟨o,ho⟩:=uP
 exact⟨_,rfl,p,z,c0,c1,c2 / 2,s0,s1,s2,s3,rfl,ar.of af,hz.same uQ,⟨o,uQ z o ho⟩,kk.same uQ⟩
theorem Gp(F:aK K "_law_machine" "_law_machine" lI f fd)(T:Own mg) (gD:ax P w K mg base aB 4 fD dD sU (qJ K)) (mD:mg "_law_machine_digits" = some (.ref fD)) (kD:W.keepIn K (.ref fD)=true) (bD:Binds K dD sU [])
 (gC:ax P w K mg base aB 1 fC dC ["_law_script", "_law_k"] (wz K)) (mC:mg "_law_cell_at" = some (.ref fC)) (kC:W.keepIn K (.ref fC)=true) (bC:Binds K dC ["_law_script", "_law_k"] [])
 (gR:ax P w K mg base aB 2 fR dR ["_law_cell", "_law_k"] wA) (mR:mg "_law_rich" = some (.ref fR)) (kR:W.keepIn K (.ref fR)=true) (bR:Binds K dR ["_law_cell", "_law_k"] []) :
 ax P w K mg base aB 5 f fd By (sY K):=by
 refine F.run Gn λcdv A outer s H vs Q E hr h=>?_
 . obtain⟨a,z,ns,s0,s1,s2,s3,rfl,hS,hz,⟨oz,uP⟩,kk⟩:=h
   have dq:aN 1 _:=hr.mono (by decide)
   have mJ:aN 2 _:=hr.mono (by decide)
   obtain⟨tR,hR,rR⟩:=Jx gD mD kD bD (outer:=outer) (H:=H) (E:=E) (Q:=Q) hr
   refine⟨_,ai (wt (i:=2) (N:=["_law_k", "_law_script"]) (js:=[none,some 0]) Gn.nd rfl rfl (by kernel_rfl) rfl (iq rfl T.range (aa ao ah)) (λ_ _ _ _ _ _=>aC (i:=0) abC rfl (Or.inl rfl) (.inr rfl)) (λ_ _ _ _ _ _=>bJ)
    (λ_ _ _ _ _ _=>dm gC dq rfl mC kC bC .nil dv (aa (pv 1) (aa (pv 0) ah))))
    (ai (cy (cU kI (aX lZ (aI aS (pv 2) ao (λ_ _=>rfl)) ao) ao (dz _))
     (au (wt (i:=2) (N:=["_law_k", "_law_cell"]) (js:=[none,none]) (g:=u7 K 2 (jB (eD 0) (jB (eD 1) u0))) Gn.nd rfl rfl (by kernel_rfl) rfl (Ex rfl T.enum (aa (pv 2) ah))
      (λ_ _ _ _ _ _=>ij rfl (a9 (aC (i:=0) RJ rfl (Or.inl rfl) (.inr rfl)) (a9 (aC (i:=1) RJ rfl (Or.inl rfl) (.inr rfl)) fq))) (λ_ _ _ _ _ _=>bJ)
      (λ_ _ _ _ _ _=>dm gR mJ rfl mR kR bR .nil dv (aa (pv 1) (aa (pv 0) ah))))) ba) hR),?_⟩
   refine⟨3,rfl,by decide,by decide,λD hD=>?_⟩
   have nzD:z≠D:=ae uP hD
   refine fz 3 (λi acc σ H2=>(∃cs:List Int,acc=cs.map V.int/\cs.length=i)/\(∃v,σ=[v,some (.ref a)])/\H2=upd H D (.lst acc)) ⟨⟨[],rfl,rfl⟩,⟨none,rfl⟩,rfl⟩ af ?_ ?_
   . rintro acc σ H2 df ⟨⟨cs,rfl,gd⟩,_,rfl⟩
     obtain⟨c0,c1,c2,rfl⟩:∃c0 c1 c2,cs=[c0,c1,c2]:=by
      match cs,gd with
      | [c0,c1,c2],_=>exact⟨c0,c1,c2,rfl⟩
     refine⟨aaf _,?_⟩
     have rV:ak H (upd H D (.lst [.int c0,.int c1,.int c2])):=ak.av hD
     refine⟨_,rfl,D,_,_,.int c2,rfl,rfl,ar.of af,rfl,_,_,rfl,rfl,(by show (0:Int)<2;decide),rfl,_,rfl,?_⟩
     refine kM (λ_=>?_) (λ_=>?_)
     . refine⟨_,rfl,D,rfl,⟨_,ar.of af⟩,λD2 sP=>?_⟩
       have nDD:D≠D2:=ae af sP
       refine fz 3 (λi acc σ H3=>(∃cs:List Int,acc=cs.map V.int/\cs.length=i)/\(∃u v,σ=[u,v])/\ak (upd H D (.lst [.int c0,.int c1,.int c2])) H3) ⟨⟨[],rfl,rfl⟩,⟨none,none,rfl⟩,ak.av sP⟩ af ?_ ?_
       . rintro acc σ H3 Gq ⟨⟨cs,rfl,LG⟩,_,wQ⟩
         obtain⟨e0,e1,e2,rfl⟩:∃c0 c1 c2,cs=[c0,c1,c2]:=by
          match cs,LG with
          | [c0,c1,c2],_=>exact⟨c0,c1,c2,rfl⟩
         refine⟨⟨_,ar.of (wQ D _ af),aaf _⟩,?_⟩
         have ox:=rV.trans wQ
         exact rR H3 _ z D2 e0 e1 e2 s0 s1 s2 s3 Gq (hz.same ox) ⟨oz,ox z oz uP⟩ (kk.same ox)
       . rintro i acc σ H3 hi Gq ⟨⟨cs,rfl,LG⟩,⟨u,v,rfl⟩,wQ⟩
         obtain⟨ci,hx⟩:∃ci:Int,[V.int c0,V.int c1,V.int c2][i]?=some (.int ci):=by
          rcases (show i=0\/i=1\/i=2 by lia) with rfl|rfl|rfl
          . exact⟨_,rfl⟩
          . exact⟨_,rfl⟩
          . exact⟨_,rfl⟩
         have yW:H3 D=some (.lst [V.int c0,V.int c1,V.int c2]):=wQ D _ af
         refine⟨⟨_,_,ar.of yW,hx⟩,?_⟩
         rintro x H' ⟨Tp,xv,rfl,Eu,rfl,jn⟩
         have ex:=jn _ (ar.of yW)
         rw[hx]at ex
         cases ex
         refine⟨Tp,_,rfl,aR.of af,rfl,_,_,rfl,_,_,rfl,rfl,wN ?_⟩
         have nDT:D2≠Tp:=ae Gq Eu
         refine⟨_,rfl,_,rfl,_,_,rfl,by lia,by lia,λv'=>⟨_,(by rw[ag nDT];exact Gq),(by rw[aaa];exact small (by lia)),cE hi af ⟨⟨cs++[v'],?_,?_⟩,⟨_,_,rfl⟩,λy o hy=>?_⟩⟩⟩
         . rw[aah];rfl
         . rw[aag,abc,LG]
         . have e3:=wQ y o hy
           rw[ag (ae hy sP),ag (ae e3 Eu)]
           exact e3
     . exact rR _ _ z D c0 c1 c2 s0 s1 s2 s3 af (hz.same rV) ⟨oz,rV z oz uP⟩ (kk.same rV)
   . rintro i acc σ H2 hi df ⟨⟨cs,rfl,gd⟩,⟨v,rfl⟩,rfl⟩
     refine⟨hi,?_⟩
     rintro x H' ⟨rfl,rfl⟩
     refine dJ ?_
     refine⟨_,rfl,_,rfl,a,ns,_,rfl,ak.seq (ak.av hD) hS,by lia,λv'=>⟨_,af,(by rw[aaa];exact small (by lia)),cE hi af ⟨⟨cs++[v'],?_,?_⟩,⟨_,rfl⟩,by rw[iO]⟩⟩⟩
     . rw[aah];rfl
     . rw[aag,abc,gd]
end
end Gen
namespace PySem
open Sem (wp)
theorem qK:typeLookup (.type "list") "__getattr__" = pure none:=by rw[afE,aeG];kernel_rfl
theorem uF:typeLookup (.type "list") "keys" = pure none:=by rw[afE,aeG];kernel_rfl
theorem qL{A:Around}{prog:Program}{w:World}{Q:Fin->Shared->Prop}{E:Value->Shared->Prop}{h:Heap}{g d t os} {a:Addr}{items:Array Value}{n:Nat}(u:Tok) (hx:h.get? a=some {cls:=.type "list",data:=.seq items n}) (hh:A.handled=none)
 (hE:∀h' tk e,Heap.NewAttrErr h h' e (.ref a) "keys" -> E (.ref e) ⟨h',g,d,tk,os⟩) :
 wpAny (model prog w) A (Builtin.«object.__getattribute__» ⟨[.ref a,.str "keys" u],[]⟩) Q E ⟨h,g,d,t,os⟩:=by
 have hT:∀t',(⟨h,g,d,t',os⟩:Shared).TypeIs (.ref a) "list":=λt'=>⟨_,hx,rfl⟩
 have RN:=hT t
 have aid:=uF
 have hc:[Str.ofString "__module__",Str.ofString "__name__",Str.ofString "__qualname__",Str.ofString "__doc__",Str.ofString "__annotations__"].contains (Str.ofString "keys")=false:=by decide+kernel
 unfold Builtin.«object.__getattribute__»
 repeat (any_goals (first|assumption|wp_step|refine wpAny_ite_false hc ?_))
 all_goals first
  | exact wpAny_raiseAttrError hh hE (attrMsg_fits (by decide+kernel) (by decide))
  | skip
theorem Bz{A:Around}{prog:Program}{w:World}{R:Result->Shared->Prop}{h:Heap}{g d t os} {a:Addr}{items:Array Value}{n:Nat}{u:Tok}(hx:h.get? a=some {cls:=.type "list",data:=.seq items n}) (hh:A.handled=none)
 (hE:∀h' tk e,Heap.NewAttrErr h h' e (.ref a) "keys" -> R (.error (.ref e)) ⟨h',g,d,tk,os⟩) :
 codeAny (model prog w) A (.call (.builtin "list.__getattribute__") ⟨[.ref a,.str "keys" u],[]⟩) R ⟨h,g,d,t,os⟩:=
 codeAny_call_builtin aek.plain F.entry_list_ga (aek.check _ _ _ _ _ _ _ _ (show (⟨h,g,d,t,os⟩:Shared).TypeIs (.ref a) "list" from⟨_,hx,rfl⟩) (F.args_list_getattribute_2 _ _) (qL u hx hh hE))
theorem BA{A:Around}{prog:Program}{w:World}{E:Value->Shared->Prop}{h:Heap}{g d t os} {a:Addr}{items:Array Value}{n:Nat}{Q:Option Value->Shared->Prop}(hx:h.get? a=some {cls:=.type "list",data:=.seq items n}) (hh:A.handled=none)
 (hQ:∀h' tk,(∀b o,h.get? b=some o->h'.get? b=some o)->Q none ⟨h',g,d,tk,os⟩):wpAny (model prog w) A (getAttr? (.ref a) "keys") Q E ⟨h,g,d,t,os⟩:=by
 have hT:(⟨h,g,d,t,os⟩:Shared).TypeIs (.ref a) "list":=⟨_,hx,rfl⟩
 have f1:=sub_AttributeError
 have f2:=aek.lookup
 have f3:=aek.bind (.ref a)
 have f5:=qK
 unfold getAttr? getAttrBy? getAttrBy
 repeat (any_goals (first|assumption|((with_reducible show codeAny _ _ (Code.call (Value.builtin "list.__getattribute__") _) _ _);refine Bz hx hh ?_;intro h' Jy e rW;obtain⟨t1,u1,he⟩:=rW.there)|wp_step))
 exact hQ h' Jy rW.keeps
namespace F
theorem kW:entryFor table "dict.update.loop" = some Builtin.«dict.update.loop»:=entryFor_of_tree (by kernel_rfl)
theorem gp:plainId "dict.update.loop" = true:=by decide+kernel
end F
section
variable {prog:Program}{w:World}{K:Type}[DecidableEq K] {knd:KeyKind prog w K}{A:Around}{R:Result->Shared->Prop}
def BB(knd:KeyKind prog w K)(h:Heap)(u:Value)(kv:K×Value):Prop:=∃t key,u=.ref t/\h.IsTuple t #[key,kv.2]/\knd.is kv.1 key=true
theorem yc{d it l:Addr}{items:Array Value}{kvs:List (K×Value)}(RP:d≠it) (jT:d≠l) (uO:l≠it) (hz:kvs.length<=sizeLine) (hh:A.handled=none) :
 ∀(k i:Nat) (s:Shared) (tk:Tok) (acc:List (K×Value)),items.size-i=k->i<=items.size->kvs.length=items.size->s.heap.IsListIter it l i->s.heap.IsList l items->s.heap.DictOf knd d acc->acc.length<=i->
 (∀(j:Nat) (u:Value) (kv:K×Value),items[j]?=some u->kvs[j]?=some kv->BB knd s.heap u kv/\(∀t,u=.ref t->t≠d/\t≠it))->
 (∀h' tk,h'.DictOf knd d ((kvs.drop i).foldl (λa kv=>stored a kv.1 kv.2) acc)->(∀b o,b≠d->b≠it->s.heap.get? b=some o->h'.get? b=some o)->R (.ok (.ret .none)) {s with heap:=h',toks:=tk})->
 codeAny (model prog w) A (.builtin "dict.update.loop" ⟨[.ref d,.ref it,.int (i:Int) tk,.none],[]⟩) R s:=by
 intro k
 induction k with
 | zero=>
  intro i s tk acc hk hi hlen hit hl hd qM hp hR
  have hin:i=items.size:=by lia
  refine codeAny_builtin F.kW ?_
  rw[Around.under_plainId F.gp _]
  show wpAny _ A.in1 (pyNext (.ref it) >>= _) _ _ s
  refine aad (wpAny_pyNext_list_end (A:=A.in1) hh hit hl (Array.getElem?_eq_none (by lia)) λh' he=>?_)
  refine aad (aao (aao ?_))
  have hd':h'.DictOf knd d acc:=let ⟨o,es,ep,ho,r⟩:=hd; ⟨o,es,ep,he d o RP ho,r⟩
  refine hR h' s.toks ?_ λb o _ hb e=>he b o hb e
  rw[List.drop_of_length_le (by lia)]
  exact hd'
 | succ k ih=>
  intro i s tk acc hk hi hlen hit hl hd qM hp hR
  have eE:i<items.size:=by lia
  have hx:items[i]?=some items[i]:=Array.getElem?_eq_getElem eE
  have aY:kvs[i]?=some kvs[i]:=aab (by lia)
  obtain⟨⟨t,key,ht,abD,lE⟩,hne⟩:=hp i _ _ hx aY
  obtain⟨ntd,nti⟩:=hne t ht
  refine codeAny_builtin F.kW ?_
  rw[Around.under_plainId F.gp _]
  show wpAny _ A.in1 (pyNext (.ref it) >>= _) _ _ s
  refine aad (wpAny_pyNext_list_item hit hl hx λh1 abE Jz=>?_)
  rw[ht]
  have Xo:h1.IsTuple t #[key,(kvs[i]).2]:=let ⟨o,e,r⟩:=abD; ⟨o,(Jz.2 t nti).trans e,r⟩
  refine aad (adP (aad ?_))
  refine wpAny_tryCatch ?_
  unfold Builtin.Dict.pairItems
  obtain⟨ot,e1,Rt,n1,JA⟩:=id Xo
  refine aad (afM (show ({s with heap:=h1} : Shared).TypeIs (.ref t) "tuple" from⟨ot,e1,Rt⟩) ?_)
  rw[aaF (by decide)]
  refine aad (adu e1 JA (aao ?_))
  show wpAny _ A.in1 (holding [key,(kvs[i]).2] (dictSet d key (kvs[i]).2)) _ _ _
  refine adP ?_
  unfold dictSet
  try with_reducible refine adP ?_
  have oy:h1.DictOf knd d acc:=let ⟨o,es,ep,ho,r⟩:=hd; ⟨o,es,ep,(Jz.2 d RP).trans ho,r⟩
  refine aad (knd.pyHash lE ?_)
  refine wpAny_dictSetHashed_pairs lE oy (λh2 hd2 oW=>?_) (by lia)
  refine aao ⟨aha F.gp _,?_⟩
  have er:rawInt ((i:Int)+1)=Value.int (((i+1:Nat):Nat):Int) 0:=by simp[rawInt]
  rw[er]
  have keep:∀b o,b≠d->b≠it->s.heap.get? b=some o->h2.get? b=some o:=λb o b1 b2 e=>(oW.2 b b1).trans ((Jz.2 b b2).trans e)
  refine ih (i+1) _ 0 (stored acc (kvs[i]).1 (kvs[i]).2) (by lia) (by lia) hlen ?_ ?_ hd2 ?_ ?_ ?_
  . obtain⟨o,e,r⟩:=abE
    exact⟨o,(oW.2 it (aax RP)).trans e,r⟩
  . obtain⟨o,e,r⟩:=hl
    exact⟨o,keep l o (aax jT) uO e,r⟩
  . have:=stored_length_le acc (kvs[i]).1 (kvs[i]).2
    lia
  . intro j u kv hu Gr
    obtain⟨⟨t',abF,e',ht',nr⟩,RQ⟩:=hp j u kv hu Gr
    obtain⟨a1,a2⟩:=RQ t' e'
    obtain⟨o,e,r⟩:=ht'
    exact⟨⟨t',abF,e',⟨o,keep t' o a1 a2 e,r⟩,nr⟩,RQ⟩
  . intro h' Jy hd' nr
    refine hR h' Jy ?_ λb o b1 b2 e=>nr b o b1 b2 (keep b o b1 b2 e)
    rw[ad3 (by lia),ae7]
    exact hd'
end
section
variable {prog:Program}{w:World}{K:Type}[DecidableEq K] {knd:KeyKind prog w K}{A:Around}{E:Value->Shared->Prop}{s:Shared}
theorem BC(hh:A.handled=none) (hl:s.heap.get? l=some {cls:=.type "list",data:=.seq items n}) (hlen:kvs.length=items.size) (hz:kvs.length<=sizeLine)
 (hp:∀(j:Nat) (u:Value) (kv:K×Value),items[j]?=some u->kvs[j]?=some kv->BB knd s.heap u kv)
 (h:∀h' tk,h'.DictOf knd s.heap.objs.size (merged [] kvs)->(∀b o,s.heap.get? b=some o->h'.get? b=some o)->Q (.ref s.heap.objs.size) {s with heap:=h',toks:=tk}) :
 wpAny (model prog w) A (call (.type "dict") [.ref l]) Q E s:=by
 refine callType_codes (Q₁:=λobj eP=>obj=.ref s.heap.objs.size/\eP = {s with heap:=s.heap.push {cls:=.type "dict",data:=.dict #[] } }) F.kt_called_dict (F.kt_typeCall_dict_1 _) F.entry_dict_init (kt_code_dict_new _ ⟨rfl,rfl⟩) ?_
 rintro obj eP ⟨rfl,rfl⟩
 have m9:(s.heap.push {cls:=.type "dict",data:=.dict #[] }).DictOf knd s.heap.objs.size []:=Heap.DictOf.new s.heap
 have rO:(s.heap.push {cls:=.type "dict",data:=.dict #[] }).get? l=some {cls:=.type "list",data:=.seq items n}:=aac _ hl
 refine⟨m9.typeIs,F.args_dict_init_2 _ _,?_⟩
 unfold Builtin.«dict.__init__»
 refine aad ?_
 unfold Builtin.Dict.selfAndRest
 refine aad (wpAny_notOrdered_dict m9.typeIs ?_)
 show wpAny _ _ (pure (s.heap.objs.size,[Value.ref l])) _ _ _
 refine aao ?_
 show wpAny _ _ (Builtin.Dict.updateFrom "dict.__init__" s.heap.objs.size (.ref l) [] .none) _ _ _
 unfold Builtin.Dict.updateFrom
 refine aad (afM (show ({s with heap:=s.heap.push {cls:=.type "dict",data:=.dict #[] } } : Shared).TypeIs (.ref l) "list" from⟨_,rO,rfl⟩) ?_)
 rw[aaF (by decide)]
 generalize Jz:({s with heap:=s.heap.push {cls:=.type "dict",data:=.dict #[] } } : Shared)=s1 at *
 obtain⟨g1,g2,g3,g4,g5⟩:=s1
 cases Jz
 refine aad (BA rO (by first|exact hh|rfl) λh2 tk2 k2=>?_)
 rw[aaF (show (none:Option Value).isNone=true from rfl)]
 have d9:h2.get? l=some {cls:=.type "list",data:=.seq items n}:=k2 _ _ rO
 have lt2:∀b o,(s.heap.push {cls:=.type "dict",data:=.dict #[] }).get? b=some o->b<h2.objs.size:=λb o e=>aaw (k2 b o e)
 refine aad (afm (aad (afi (s:={heap:=h2,gens:=s.gens,drawn:=s.drawn,toks:=tk2,os:=s.os}) (items:=items) ⟨_,d9,rfl,n,rfl⟩ ?_)))
 refine aao ⟨aha F.gp _,?_⟩
 have hd2:h2.DictOf knd s.heap.objs.size []:=let ⟨o,es,ep,ho,r⟩:=m9; ⟨o,es,ep,k2 _ _ ho,r⟩
 have jT:s.heap.objs.size<h2.objs.size:=let ⟨o,es,ep,ho,r⟩:=m9;lt2 _ _ ho
 have Jm:l<s.heap.objs.size:=aaw hl
 refine yc (knd:=knd) (d:=s.heap.objs.size) (it:=h2.objs.size) (l:=l) (items:=items) (kvs:=kvs) (aaD jT) (ad4 Jm) (aaD (agB Jm jT)) hz (by first|exact hh|rfl) items.size 0 _ 0 [] rfl (aaO _) hlen
  ⟨_,aaq _ rfl,rfl,rfl⟩ ⟨_,aac _ d9,rfl,n,rfl⟩ ?_ (aaf _) ?_ ?_
 . obtain⟨o,es,ep,ho,r⟩:=hd2
   exact⟨o,es,ep,aac _ ho,r⟩
 . intro j u kv hu aY
   obtain⟨t,key,e,⟨o,eo,r⟩,hk⟩:=hp j u kv hu aY
   have ht:t<s.heap.objs.size:=aaw eo
   refine⟨⟨t,key,e,⟨o,aac _ (k2 _ _ (aac _ eo)),r⟩,hk⟩,λt' e'=>?_⟩
   rw[e]at e'
   cases e'
   exact⟨aaD ht,aaD (agB ht jT)⟩
 . intro h' Jy hd' nr
   refine⟨rfl,h h' Jy ?_ λb o e=>?_⟩
   . simpa[merged]using hd'
   . have hb:b<s.heap.objs.size:=aaw e
     exact nr b o (aaD hb) (aaD (agB hb jT)) (aac _ (k2 _ _ (aac _ e)))
end
end PySem
namespace L2
open PySem PySem.Spec PyProof.Rows
section
variable {X:Cx}
theorem Gs(h:(bj P w).is k u=true):RelV (kV k) u:=by
 rw[FI]at h
 cases k with
 | inl i=>cases u <;> first|(simp[kG,Value.isInt]at h;done)|(simp[kG,Value.isInt]at h;subst h;exact⟨_,rfl⟩)
 | inr x=>cases u <;> first|(simp[kG,Value.isStrOf]at h;done)|(simp[kG,Value.isStrOf]at h;subst h;exact⟨_,rfl⟩)
theorem pairs_at(ok:gu P w H h){ts:List Addr}{kvs:List (Key×V)}{us:List Value}(p:Paired (λt kv=>H t=some (.tup [kV kv.1,kv.2])) ts kvs) (r:Vals (ts.map V.ref) us) :
 ∃vs:List (Key×Value),KV kvs vs/\Paired (λu kv=>BB (bj P w) h u kv) us vs:=by
 induction p generalizing us with
 | nil=>
  cases r
  exact⟨[],.nil,.nil⟩
 | @cons t kv ts kvs e p ih=>
  obtain⟨u,RE,rfl,ru,r'⟩:=r.inv
  obtain⟨vs,k1,k2⟩:=ih r'
  cases(show u=Value.ref t from ru)
  obtain⟨_,its,rv,ip⟩:=(show bU P w H h t (.tup [kV kv.1,kv.2]) from ok t _ e)
  obtain⟨key,val,rfl,rk,rl⟩:=vals2 rv
  exact⟨(kv.1,val)::vs,.cons ⟨rfl,rl⟩ k1,.cons ⟨t,key,rfl,ip,nE rk⟩ k2⟩
theorem lU{α β:Type}{F:α->β->Prop} : ∀{l₁:List α}{l₂:List β}{i:Nat}{a:α}{b:β},Paired F l₁ l₂->l₁[i]?=some a->l₂[i]?=some b->F a b
 | _,_,i,a,b,.nil,h,_=>by simp at h
 | _,_,0,a,b,.cons h t,e1,e2=>by
  simp at e1 e2
  subst e1 e2
  exact h
 | _,_,i+1,a,b,.cons h t,e1,e2=>lU (i:=i) t (by simpa using e1) (by simpa using e2)
theorem eU(hc:X.calm=true):i0 X (.type "dict") (λxs H Q=>∃p ts kvs,xs=[.ref p]/\H p=some (.lst (ts.map V.ref))/\Paired (λt kv=>H t=some (.tup [kV kv.1,kv.2])) ts kvs/\∀d,H d=none->Q (.ref d) (upd H d (.dK (bY [] kvs)))):=by
 intro pins s σ H xs us Q I r h
 obtain⟨p,ts,kvs,rfl,hp,hT,q⟩:=h
 obtain⟨u,rfl,rx⟩:=vals1 r
 cases(show u=Value.ref p from rx)
 obtain⟨hz,its,n,rv,e⟩:=(show bU X.prog X.w H s.heap p (.lst (ts.map V.ref)) from I.hok p _ hp)
 obtain⟨vs,kv,pv⟩:=pairs_at I.hok hT rv
 have l1:vs.length=its.toArray.size:=by rw[aan];exact pv.length.symm
 have l2:kvs.length=vs.length:=kv.length
 have l3:vs.length<=sizeLine:=by
  have:=hT.length
  rw[aaa]at hz
  lia
 refine BC (knd:=bj X.prog X.w) (kvs:=vs) (I.ok.hd hc) e l1 l3 (λj u kv hu aY=>lU pv (by simpa using hu) aY) λh' tk dd kk=>?_
 refine⟨.ref s.heap.objs.size,_,I.laid (a:=s.heap.objs.size) (o:=.dK (bY [] kvs)) kk (aaf _) (pM ?_ (adt.mpr (aax (aaD I.big))) (KV.merge kv .nil) dd),rfl,q _ (I.hok.fresh (aaf _))⟩
 have:=ia kvs []
 simp at this
 lia
theorem iT:i0 X (.type "dict") (λxs H Q=>∃p kvs,xs=[.ref p]/\Rd H p (.dK kvs)/\∀d,H d=none->Q (.ref d) (upd H d (.dK kvs))):=by
 intro pins s σ H xs us Q I r h
 obtain⟨p,kvs,rfl,hp,q⟩:=h
 obtain⟨u,rfl,rx⟩:=vals1 r
 cases(show u=Value.ref p from rx)
 exact Ll I hp λd s' hd I'=>⟨.ref d,_,I',rfl,q d hd⟩
theorem iC:i0 X (.builtin "isinstance") (λxs H Q=>∃x t c b,xs=[x,.ty c]/\lF X.K H x t/\W.kitOne X.K t (.type c)=some b/\Q (.bl b) H):=by
 intro pins s σ H xs us Q I r h
 obtain⟨x,t,c,b,rfl,ty,e,q⟩:=h
 obtain⟨u,v,rfl,rx,ry⟩:=vals2 r
 cases(show v=Value.type c from ry)
 exact Iy I rx ty e λtk=>⟨.bl b,H,I.tok _,rfl,q⟩
theorem rX(hc:X.calm=true):i0 X (.builtin "all") (λxs H Q=>∃p ys,xs=[.ref p]/\ar X.K H p ys/\(∀y∈ys,y=.bl true)/\Q (.bl true) H):=by
 intro pins s σ H xs us Q I r h
 obtain⟨p,ys,rfl,hp,hy,q⟩:=h
 obtain⟨u,rfl,rx⟩:=vals1 r
 cases(show u=Value.ref p from rx)
 obtain⟨its,rv,pl,hz⟩:=I.list hp
 have hl:=pl.isList
 have eE:p<s.heap.objs.size:=by obtain⟨_,e,_⟩:=hl;exact aaw e
 refine call_all_walk (afi hl ?_)
 refine⟨s.heap.objs.size,[s.heap.objs.size,p],[s.heap.objs.size],its.toArray.size,_,_,λ_=>true,rfl,Walks.list (A:=X.A.in1) (by show X.A.in1.handled=none;exact I.ok.hd hc) _ p (aaD eE) its.toArray,
  ⟨⟨_,aaq _ rfl,rfl,rfl⟩,hl.push _⟩,λi v s' Q' E' hP hQ=>?_,λh' tk hk=>?_⟩
 . have hi:its[i]?=some v:=by simpa using hP
   have hlen:=rv.length
   have RR:i<ys.length:=by
    have:=(aak.mp hi).1
    lia
   obtain⟨w',e1,e2⟩:=rv.get (aab RR)
   rw[hi]at e1
   cases e1
   rw[hy _ (adf RR)]at e2
   cases(show v=Value.bool true from e2)
   exact aeL hQ
 . have e:((List.range its.toArray.size).all λ_=>true)=true:=by simp
   rw[e]
   exact⟨.bl true,H,I.kept (t':=tk) (λb o eb=>hk b o (λhm=>by rw[aaC.mp hm]at eb;exact adJ _ (aaw eb)) (aac _ eb)),rfl,q⟩
theorem pY(hc:X.calm=true):i0 X (.type "list") (λxs H Q=>∃p kvs,xs=[.ref p]/\Rd H p (.dK kvs)/\∀l,H l=none->Q (.ref l) (upd H l (.lst (kvs.map λkv=>kV kv.1)))):=by
 intro pins s σ H xs us Q I r h
 obtain⟨p,kvs,rfl,hp,q⟩:=h
 obtain⟨u,rfl,rx⟩:=vals1 r
 cases(show u=Value.ref p from rx)
 obtain⟨z,hd,vs,rel,dd⟩:=kJ I.hok hp
 obtain⟨ep,da⟩:=dd.dictAt
 have hlen:kvs.length=vs.length:=rel.length
 refine W.kdl_call (W.kdl_dict (knd:=bj X.prog X.w) (ep:=ep) hd) (I.ok.hd hc) da (by lia) λh' tk fQ c' kk e it=>?_
 have rv:Vals (kvs.map λkv=>kV kv.1) fQ.toList:=by
  obtain⟨i1,i2⟩:=it
  have gen:∀(kvs:List (Key×V)) (vs:List (Key×Value)) (us:List Value),KV kvs vs->us.length=vs.length->(∀(j:Nat) v,us[j]?=some v->∃k x,vs[j]?=some (k,x)/\(bj X.prog X.w).is k v=true)->Vals (kvs.map λkv=>kV kv.1) us:=by
   intro kvs vs us kv
   induction kv generalizing us with
   | nil=>
    intro hl _
    have:us=[]:=ads.mp hl
    subst this
    exact .nil
   | @cons a b as bs hab t ih=>
    intro hl hu
    match us,hl with
    | u::us,hl=>
     obtain⟨k,x,e1,e2⟩:=hu 0 u rfl
     simp at e1
     have ek:k=a.1:=by rw[hab.1,e1]
     subst ek
     refine .cons (Gs e2) (ih us (by simpa using hl) λj v hj=>?_)
     obtain⟨k',x',e3,e4⟩:=hu (j+1) v (by simpa using hj)
     exact⟨k',x',by simpa using e3,e4⟩
  exact gen kvs vs fQ.toList rel (by rw[aeb,i1]) λj v hj=>i2 j v (by rw[← aeD];exact hj)
 refine⟨.ref s.heap.objs.size,_,I.laid (t':=tk) kk (aaf _) (show bU X.prog X.w _ h' _ (.lst (kvs.map λkv=>kV kv.1)) from⟨by rw[aaa];exact z,fQ.toList,c',rv,by simpa using e⟩),rfl,q _ (I.hok.fresh (aaf _))⟩
end
section
variable {X:Cx}{pins:List (Addr×Obj)}{σ:St}{H:Hp}{s:Shared}{d:Addr}{kvs:List (Key×V)}
theorem Inv.freeze(I:Inv X pins σ H s) (e:H d=some (.dK kvs)):∃o,s.heap.get? d=some o/\Inv X pins σ (upd H d (.du o (.dK kvs))) s:=by
 obtain⟨z,hd,vs,rel,dd⟩:=uc I.hok e
 obtain⟨o,es,ep,ho,r⟩:=id dd
 refine⟨o,ho,I.write (x:=d) (e:=d) (t':=s.toks) (h':=s.heap) (by rw[e];trivial) (.inl rfl) (λb u _ q=>q) ⟨o,ho⟩ (show bU X.prog X.w _ s.heap d (.du o (.dK kvs)) from⟨ho,pM z hd rel dd⟩)⟩
theorem Inv.abG(I:Inv X pins σ H s) (e:H d=some (.du o (.dK kvs))) (hn:∀o' u,X.FJ d≠some (.du o' u)):Inv X pins σ (upd H d (.dK kvs)) s:=by
 have ne:∀b,H b=none->b≠d:=λb h z=>by rw[z,e]at h;cases h
 have up:∀b,H b=none->upd H d (.dK kvs) b=none:=λb h=>by rw[ag (ne b h)];exact h
 refine⟨I.ok,I.os,I.bare,⟨I.base.keep,I.base.slot,λb ob q n hx=>up b (I.base.free b ob q n hx),I.base.there,λb xs q=>?_,λb ob u q=>?_,λb ps q=>?_⟩,I.loc,I.cell,up _ I.free,λx c q=>up _ (I.freeC x c q),λp hp=>?_,λb u q=>?_,I.len⟩
 . have q1:=I.base.jK b xs q
   rw[ag (λz=>by rw[z,e]at q1;cases q1)]
   exact q1
 . have q1:=I.base.frzs b ob u q
   rw[ag (λz=>hn ob u (by rw[← z];exact q))]
   exact q1
 . obtain⟨more,q1⟩:=I.base.tbls b ps q
   exact⟨more,by rw[ag (λz=>by rw[z,e]at q1;cases q1)];exact q1⟩
 . obtain⟨a1,a2,a3⟩:=I.pin p hp
   exact⟨a1,up _ a2,a3⟩
 . by_cases hb:b=d
   . subst hb
     rw[af]at q
     cases q
     obtain⟨_,k⟩:=(show bU X.prog X.w H s.heap b (.du o (.dK kvs)) from I.hok b _ e)
     exact k
   . rw[ag hb]at q
     exact(I.hok b u q).jm (λ_ _ _ z=>z) (λc z=>by rw[ag (λy=>by rw[y,e]at z;cases z)];exact z) λc xs z=>by rw[ag (λy=>by rw[y,e]at z;cases z)];exact z
end
section
variable {X:Cx}
def JB(d:Addr)(o:Obj) (kvs:List (Key×V)):It:=⟨λi H=>H d=some (.du o (.dK kvs))/\i<kvs.length,λi H x H'=>H'=H/\∃kv,kvs[i]?=some kv/\x=kV kv.1,λi H=>H d=some (.du o (.dK kvs))/\i=kvs.length⟩
theorem JC{P:Program}{w:World}{K:W.Frag}{tg:Expr}{d it:Addr}{o:Obj}{es:Array DictEntry}{ep:Nat}{kvs:List (Key×V)}(hd:o.data=.dict es ep) (hne:d≠it):Turn P w K tg (JB d o kvs) [it] it (λi h=>h.IsKeyIter it d i kvs.length ep) where
 mem:=by simp
 obj:=λi h st b hb=>by
  have e:b=it:=by simpa using hb
  subst e
  obtain⟨o,e,c,d⟩:=st
  exact⟨o,e,λv z=>by rw[d]at z;cases z⟩
 keep:=λi h h' st k=>let ⟨o,e,r⟩:=st; ⟨o,k it (by simp) o e,r⟩
 item:=by
  intro X hP hw hK hc i pins s σ H E I hf st hg
  subst hP hw hK
  obtain⟨f0,f1,f2,f3,f4,f5⟩:=hf it (by simp)
  obtain⟨g1,g2⟩:=hg
  obtain⟨ho,z,hs,vs,rel,o',Av,Aw,i9,r'⟩:=(show bU X.prog X.w H s.heap d (.du o (.dK kvs)) from I.hok d _ g1)
  rw[ho]at i9
  cases i9
  have oy:=r'.2.1
  rw[hd]at oy
  cases oy
  have hl:kvs.length=vs.length:=rel.length
  refine(Walks.dictKeys (knd:=bj X.prog X.w) (I.ok.hd hc) it d hne vs ep).item i s _ _ (by lia) ⟨by rw[← hl];exact st,o,es,ho,r'⟩ λv h' tk hv cI kk=>?_
  obtain⟨k,x,ek,ik⟩:=hv
  have I1:Inv X pins σ H {s with heap:=h',toks:=tk}:=I.turned (λb o hb e=>kk b o (by simpa using hb) e) f0 f1 f3 f4 f5
  have pK:h'.IsKeyIter it d (i+1) kvs.length ep:=by rw[hl];exact cI.1
  obtain⟨oi,e,oc,od⟩:=id pK
  have JD:kvs[i]?=some kvs[i]:=aab g2
  have RS:(kvs[i]).1=k:=(lU rel JD ek).1
  exact⟨_,rfl,vP (s:={s with heap:=h',toks:=tk}) e oc od (by decide) ⟨kV k,H,I1,Gs ik,⟨rfl,_,JD,by rw[RS]⟩,pK,λb hb=>(hf b hb).1⟩⟩
 done:=by
  intro X hP hw hK hc i pins s σ H E I hf st hg
  subst hP hw hK
  obtain⟨f0,f1,f2,f3,f4,f5⟩:=hf it (by simp)
  obtain⟨g1,g2⟩:=hg
  subst g2
  obtain⟨ho,z,hs,vs,rel,o',Av,Aw,i9,r'⟩:=(show bU X.prog X.w H s.heap d (.du o (.dK kvs)) from I.hok d _ g1)
  rw[ho]at i9
  cases i9
  have oy:=r'.2.1
  rw[hd]at oy
  cases oy
  have hl:kvs.length=vs.length:=rel.length
  exact(Walks.dictKeys (knd:=bj X.prog X.w) (I.ok.hd hc) it d hne vs ep).done s _ _ ⟨by rw[← hl];exact st,o,es,ho,r'⟩ λh' tk kk=>⟨rfl,I.turned (λb o hb e=>kk b o (by simpa using hb) e) f0 f1 f3 f4 f5⟩
 self:=λA i s Q E st h=>wpAny_pyIter_keyiter st h
def Xp(td:TE):TI:=λσ H R=>td σ H λx H1=>∃d kvs,x=.ref d/\H1 d=some (.dK kvs)/\∀o,R (JB d o kvs) (upd H1 d (.du o (.dK kvs)))
theorem Pu(hl:PE X l tl):PI X tg l (Xp tl):=by
 intro pins s σ H R I h
 refine aO (hl pins s σ H _ I h) λv s1 ⟨x,H1,I1,r1,q1⟩=>?_
 obtain⟨d,kvs,e,hd,q⟩:=q1
 subst e
 cases(show v=Value.ref d from r1)
 obtain⟨z,hm,vs,rel,dd⟩:=uc I1.hok hd
 obtain⟨o,es,ep,ho,r⟩:=id dd
 have hlen:kvs.length=vs.length:=rel.length
 obtain⟨o',i9,I2⟩:=I1.freeze hd
 rw[ho]at i9
 cases i9
 refine wpAny_pyIter_dict (knd:=bj X.prog X.w) (ep:=ep) hm ⟨o,es,ho,r⟩ ?_
 have eE:d<s1.heap.objs.size:=aaw ho
 refine⟨s1.heap.objs.size,[s1.heap.objs.size],_,_,_,rfl,I2.kept (t':=s1.toks) λb o e=>aac _ e,JC (es:=es) (ep:=ep) (o:=o) (kvs:=kvs) r.2.1 (aaD eE),?_,?_,q o⟩
 . exact⟨_,aaq _ rfl,rfl,by rw[hlen];rfl⟩
 . intro b hb
   have e:b=s1.heap.objs.size:=by simpa using hb
   subst e
   exact I2.qy (aaf _) (I2.hok.fresh (aaf _))
end
end L2
namespace PySem
open Sem (wp)
section
variable {prog:Program}{w:World}{A:Around}{E:Value->Shared->Prop}{s:Shared}
theorem qN(hit:s.heap.IsTupleIter it t i)(ht:s.heap.IsTuple t items)(hx:items[i]?=some x)
 (hQ:∀h',h'.IsTupleIter it t (i+1)->Heap.SameBut it s.heap h'->Q x {s with heap:=h'}):wpAny (model prog w) A (Builtin.SmallTypes.nextOf (.ref it)) Q E s:=by
 obtain⟨o,ho,hc,hd⟩:=id hit
 obtain⟨ol,RT,_,nl,jT⟩:=ht
 unfold Builtin.SmallTypes.nextOf
 refine aad (adR (name:=Str.ofString "__next__") hit.typeIs aee (adT aee hit.typeIs afF ?_ (afv _)))
 show wpAny _ _ (field (.ref it) 0 >>= _) _ _ s
 refine aad (adD ho hd (x:=.ref t) rfl ?_)
 show wpAny _ _ (if (Value.ref t == Value.none)=true then _ else _) _ _ s
 rw[aaz (show ¬ ((Value.ref t == Value.none)=true) from aaE)]
 show wpAny _ _ (field (.ref it) 1 >>= _) _ _ s
 refine aad (adD ho hd (x:=.int i 0) rfl ?_)
 show wpAny _ _ (seqItems? (.ref t) >>= _) _ _ s
 refine aad (adu RT jT ?_)
 simp only[adX,hx]
 refine aad (wpAny_setField ho hd (by simp) (aao ⟨x,rfl,aao (hQ _ ?_ (ad0 ..))⟩))
 exact⟨_,afp _ ho (Obj.isFreed_of_fields (Obj.data_mapFields hd _)),(Obj.cls_mapFields ..).trans hc,by rw[Obj.data_mapFields hd];simp[rawInt]⟩
theorem su(hh:A.handled=none)(hit:s.heap.IsTupleIter it t i)(ht:s.heap.IsTuple t items)(hx:items[i]?=none)
 (hE:∀h' e,Heap.ExtBut it s.heap h'->(∃o,h'.get? e=some o/\o.cls=.type "StopIteration")->E (.ref e) {s with heap:=h'}):wpAny (model prog w) A (Builtin.SmallTypes.nextOf (.ref it)) Q E s:=by
 obtain⟨o,ho,hc,hd⟩:=id hit
 obtain⟨ol,RT,_,nl,jT⟩:=ht
 unfold Builtin.SmallTypes.nextOf
 refine aad (adR (name:=Str.ofString "__next__") hit.typeIs aee (adT aee hit.typeIs afF ?_ (afv _)))
 show wpAny _ _ (field (.ref it) 0 >>= _) _ _ s
 refine aad (adD ho hd (x:=.ref t) rfl ?_)
 show wpAny _ _ (if (Value.ref t == Value.none)=true then _ else _) _ _ s
 rw[aaz (show ¬ ((Value.ref t == Value.none)=true) from aaE)]
 show wpAny _ _ (field (.ref it) 1 >>= _) _ _ s
 refine aad (adD ho hd (x:=.int i 0) rfl ?_)
 show wpAny _ _ (seqItems? (.ref t) >>= _) _ _ s
 refine aad (adu RT jT ?_)
 simp only[adX,hx]
 refine aad (afm (aad (wpAny_setField ho hd (by simp) ?_)))
 show wpAny _ _ (newExc (.type "StopIteration") [] >>= _) _ _ _
 refine aad ?_
 simp only[newExc,newTuple]
 refine aad (aeM ?_ (by size_fits))
 refine aad (m:=firstArgMember _ _) (wpAny_of_eq (a:=Value.none) (by first|rfl|(simp only[firstArgMember];rfl)) ?_)
 refine aeM ?_ (by size_fits)
 simp only[raiseNew]
 refine aad (wpAny_handled ?_)
 first|rw[show A.in1.handled=none from hh] | rw[hh]
 refine aad (aao (wpAny_throw ?_))
 exact hE _ _ (((ad0 ..).extBut.push _).push _) ⟨_,aaq _ rfl,rfl⟩
end
def oA(tp:Bool)(h:Heap)(l:Addr)(xs:Array Value):Prop:=match tp with|true=>h.IsTuple l xs|false=>h.IsList l xs
def je(tp:Bool)(h:Heap)(i l:Addr)(k:Nat):Prop:=match tp with|true=>h.IsTupleIter i l k|false=>h.IsListIter i l k
theorem oA.at{tp:Bool}{h h':Heap}{l:Addr}{xs:Array Value}(x:oA tp h l xs)(k:∀o,h.get? l=some o->h'.get? l=some o):oA tp h' l xs:=by
 cases tp <;> (obtain⟨o,e,r⟩:=x;exact⟨o,k o e,r⟩)
theorem je.at{tp:Bool}{h h':Heap}{i l:Addr}{n:Nat}(x:je tp h i l n)(k:∀o,h.get? i=some o->h'.get? i=some o):je tp h' i l n:=by
 cases tp <;> (obtain⟨o,e,r⟩:=x;exact⟨o,k o e,r⟩)
theorem je.there{tp:Bool}{h:Heap}{i l:Addr}{n:Nat}(x:je tp h i l n):∃o,h.get? i=some o/\∃vs,o.data=.fields vs:=by
 cases tp <;> (obtain⟨o,e,c,d⟩:=x;exact⟨o,e,_,d⟩)
theorem oA.there{tp:Bool}{h:Heap}{l:Addr}{xs:Array Value}(x:oA tp h l xs):∃o,h.get? l=some o:=by
 cases tp <;> (obtain⟨o,e,r⟩:=x;exact⟨o,e⟩)
section
variable {prog:Program}{w:World}{A:Around}{E:Value->Shared->Prop}{s:Shared}{tp:Bool}
theorem um(hit:je tp s.heap it l i)(hl:oA tp s.heap l items)(hx:items[i]?=some x)
 (hQ:∀h',je tp h' it l (i+1)->Heap.SameBut it s.heap h'->Q x {s with heap:=h'}):wpAny (model prog w) A (Builtin.SmallTypes.nextOf (.ref it)) Q E s:=by
 cases tp
 . exact wpAny_nextOf_list_item hit hl hx hQ
 . exact qN hit hl hx hQ
theorem RU(hh:A.handled=none)(hit:je tp s.heap it l i)(hl:oA tp s.heap l items)(hx:items[i]?=none)
 (hE:∀h' e,Heap.ExtBut it s.heap h'->(∃o,h'.get? e=some o/\o.cls=.type "StopIteration")->E (.ref e) {s with heap:=h'}):wpAny (model prog w) A (Builtin.SmallTypes.nextOf (.ref it)) Q E s:=by
 cases tp
 . exact wpAny_nextOf_list_end hh hit hl hx hE
 . exact su hh hit hl hx hE
theorem ac3{z TI TO i1 i2 l1 l2:Addr}{k:Nat}{xs ys:Array Value}{x y a b:Value}{Q:Option Value->Shared->Prop}(nd:[z,TI,TO,i1,i2].Nodup)(n1:l1∉[z,TI,TO,i1,i2])(n2:l2∉[z,TI,TO,i1,i2])
 (hz:IsZip s.heap z TI TO .none) (oB:IsPair s.heap TI (.ref i1) (.ref i2)) (sZ:IsPair s.heap TO a b) (h1:je tp s.heap i1 l1 k) (h2:je tp s.heap i2 l2 k) (iI:oA tp s.heap l1 xs) (d9:oA tp s.heap l2 ys) (hx:xs[k]?=some x) (hy:ys[k]?=some y)
 (hQ:∀h',IsZip h' z TI TO (rawInt s.heap.objs.size)->IsPair h' TO x y->je tp h' i1 l1 (k+1)->je tp h' i2 l2 (k+1)->IsPair h' s.heap.objs.size x y->
  (∀c o,c≠z->c≠TO->c≠i1->c≠i2->s.heap.get? c=some o->h'.get? c=some o)->Q (some (.ref s.heap.objs.size)) {s with heap:=h'}):wpAny (model prog w) A (pyNext (.ref z)) Q E s:=by
 simp only[aaP,aaj,aat,adg,afq]at nd n1 n2
 obtain⟨⟨JE,rY,rZ,uR⟩,⟨TITO,TIi1,TIi2⟩,⟨TOi1,TOi2⟩,i12,_⟩:=nd
 obtain⟨l1z,RV,l1TO,l1i1,l1i2⟩:=n1
 obtain⟨l2z,abH,l2TO,l2i1,l2i2⟩:=n2
 have hT:s.TypeIs (.ref z) "zip":=⟨_,hz,rfl⟩
 unfold pyNext
 refine aad (agb (adR (name:=Str.ofString "__next__") hT aeI (adT aeI hT ago ?_ (af1 _))))
 show wpAny _ _ (field (.ref z) 2 >>= _) _ _ _
 refine aad (adD hz rfl (x:=.bool false) rfl ?_)
 show wpAny _ _ (field (.ref z) 3 >>= _) _ _ _
 refine aad (adD hz rfl (x:=.ref TI) rfl ?_)
 refine aad (adu oB rfl ?_)
 show wpAny _ _ (Builtin.SmallTypes.ownedTupleIsFree (.ref z) >>= _) _ _ _
 refine aad ?_
 unfold Builtin.SmallTypes.ownedTupleIsFree
 refine aad (adD hz rfl (x:=.none) rfl (aao ?_))
 simp only[afl]
 refine aad (afm ?_)
 refine aad (adD hz rfl (x:=.ref TO) rfl ?_)
 refine aad (adS hz (by simp) λpN tf wR=>?_)
 replace tf:IsZip pN z TI TO .ellipsis:=tf
 refine aad ?_
 simp only[agp,agD,aeE,aeR]
 have k1:∀c o,c≠z->s.heap.get? c=some o->pN.get? c=some o:=λc o n e=>wR.extBut _ _ n e
 refine aad (aad (afw ?_))
 show wpAny _ _ (Builtin.SmallTypes.nextOf (.ref i1) >>= _) _ _ _
 refine aad (um (h1.at λo e=>k1 _ o (aax rZ) e) (iI.at λo e=>k1 _ o l1z e) hx λvb RW zu=>aao ?_)
 have k2:∀c o,c≠i1->pN.get? c=some o->vb.get? c=some o:=λc o n e=>zu.extBut _ _ n e
 have BD:IsPair vb TO a b:=k2 _ _ TOi1 (k1 _ _ (aax rY) sZ)
 refine aad (adu BD rfl ?_)
 refine aad (aeP BD λxX vk zv=>?_)
 replace vk:IsPair xX TO x b:=vk
 have k3:∀c o,c≠TO->vb.get? c=some o->xX.get? c=some o:=λc o n e=>zv.extBut _ _ n e
 refine aad (afC (aao ?_))
 refine aad (aad (afw ?_))
 show wpAny _ _ (Builtin.SmallTypes.nextOf (.ref i2) >>= _) _ _ _
 refine aad (um (h2.at λo e=>k3 _ o (aax TOi2) (k2 _ o (aax i12) (k1 _ o (aax uR) e))) (d9.at λo e=>k3 _ o l2TO (k2 _ o l2i1 (k1 _ o l2z e))) hy λF7 RX JF=>aao ?_)
 have k4:∀c o,c≠i2->xX.get? c=some o->F7.get? c=some o:=λc o n e=>JF.extBut _ _ n e
 have BE:IsPair F7 TO x b:=k4 _ _ TOi2 vk
 refine aad (adu BE rfl ?_)
 refine aad (aeP BE λjM qO JG=>?_)
 replace qO:IsPair jM TO x y:=qO
 have k5:∀c o,c≠TO->F7.get? c=some o->jM.get? c=some o:=λc o n e=>JG.extBut _ _ n e
 refine aad (afC (aao (aao ?_)))
 refine aad (adu qO rfl ?_)
 refine aad (afS ?_)
 have hsz:jM.objs.size=s.heap.objs.size:=by rw[JG.1,JF.1,zv.1,zu.1,wR.1]
 have JH:IsZip jM z TI TO .ellipsis:=k5 _ _ rY (k4 _ _ uR (k3 _ _ rY (k2 _ _ rZ tf)))
 have RY:∀c o,c≠z->c≠TO->c≠i1->c≠i2->s.heap.get? c=some o->jM.get? c=some o:=λc o c1 c2 c3 c4 e=>k5 _ _ c2 (k4 _ _ c4 (k3 _ _ c2 (k2 _ _ c3 (k1 _ _ c1 e))))
 have RZ:je tp jM i1 l1 (k+1):=RW.at λo e=>k5 _ _ (aax TOi1) (k4 _ _ i12 (k3 _ _ (aax TOi1) e))
 have R0:je tp jM i2 l2 (k+1):=RX.at λo e=>k5 _ _ (aax TOi2) e
 have BF:z<jM.objs.size:=aaw JH
 show wpAny _ _ (Builtin.SmallTypes.ownedTupleHandOut (.ref z) (.ref jM.objs.size) >>= _) _ _ _
 refine aad ?_
 unfold Builtin.SmallTypes.ownedTupleHandOut
 have R1:IsZip (jM.push {cls:=.type "tuple",data:=.seq #[x,y] }) z TI TO .ellipsis:=aac _ JH
 refine aad (adS R1 (by simp) λabI BG JI=>?_)
 replace BG:IsZip abI z TI TO (rawInt jM.objs.size):=BG
 refine adS BG (by simp) λGu wU JJ=>?_
 replace wU:IsZip Gu z TI TO (rawInt jM.objs.size):=wU
 have up:∀c o,c≠z->jM.get? c=some o->Gu.get? c=some o:=λc o c1 e=>JJ.extBut _ _ c1 (JI.extBut _ _ c1 (aac _ e))
 have JK:IsPair Gu jM.objs.size x y:=JJ.extBut _ _ (ad4 BF) (JI.extBut _ _ (ad4 BF) (aaq _ rfl))
 rw[hsz]at wU JK
 refine aao ⟨.ref jM.objs.size,rfl,aao ?_⟩
 rw[hsz]
 exact hQ Gu wU (up _ _ (aax rY) qO) (RZ.at λo e=>up _ o (aax rZ) e) (R0.at λo e=>up _ o (aax uR) e) JK λc o c1 c2 c3 c4 e=>up c o c1 (RY c o c1 c2 c3 c4 e)
theorem Pw{z TI TO i1 i2 l1:Addr}{k:Nat}{xs:Array Value}{a b:Value}{Q:Option Value->Shared->Prop}(hh:A.handled=none)(nd:[z,TI,TO,i1,i2].Nodup)(n1:l1∉[z,TI,TO,i1,i2])
 (hz:IsZip s.heap z TI TO .none) (oB:IsPair s.heap TI (.ref i1) (.ref i2)) (h1:je tp s.heap i1 l1 k) (iI:oA tp s.heap l1 xs) (hx:xs[k]?=none)
 (hQ:∀h',(∀c o,c≠z->c≠TO->c≠i1->c≠i2->s.heap.get? c=some o->h'.get? c=some o)->Q none {s with heap:=h'}):wpAny (model prog w) A (pyNext (.ref z)) Q E s:=by
 simp only[aaP,aaj,aat,adg,afq]at nd n1
 obtain⟨⟨JE,rY,rZ,uR⟩,⟨TITO,TIi1,TIi2⟩,⟨TOi1,TOi2⟩,i12,_⟩:=nd
 obtain⟨l1z,RV,l1TO,l1i1,l1i2⟩:=n1
 have hT:s.TypeIs (.ref z) "zip":=⟨_,hz,rfl⟩
 unfold pyNext
 refine aad (agb (adR (name:=Str.ofString "__next__") hT aeI (adT aeI hT ago ?_ (af1 _))))
 show wpAny _ _ (field (.ref z) 2 >>= _) _ _ _
 refine aad (adD hz rfl (x:=.bool false) rfl ?_)
 show wpAny _ _ (field (.ref z) 3 >>= _) _ _ _
 refine aad (adD hz rfl (x:=.ref TI) rfl ?_)
 refine aad (adu oB rfl ?_)
 show wpAny _ _ (Builtin.SmallTypes.ownedTupleIsFree (.ref z) >>= _) _ _ _
 refine aad ?_
 unfold Builtin.SmallTypes.ownedTupleIsFree
 refine aad (adD hz rfl (x:=.none) rfl (aao ?_))
 simp only[afl]
 refine aad (afm ?_)
 refine aad (adD hz rfl (x:=.ref TO) rfl ?_)
 refine aad (adS hz (by simp) λpN tf wR=>?_)
 replace tf:IsZip pN z TI TO .ellipsis:=tf
 refine aad ?_
 simp only[agp,agD,aeE,aeR]
 refine aad (aad (afw ?_))
 show wpAny _ _ (Builtin.SmallTypes.nextOf (.ref i1) >>= _) _ _ _
 refine aad (RU (by first|exact hh|rfl) (h1.at λo e=>wR.extBut _ o (aax rZ) e) (iI.at λo e=>wR.extBut _ o l1z e) hx λvb e zu he=>?_)
 obtain⟨oe,R3,EG⟩:=he
 have Yy:IsZip vb z TI TO .ellipsis:=zu _ _ rZ tf
 have hez:e≠z:=λx=>by subst x;rw[Yy]at R3;cases R3;simp at EG
 refine adS Yy (by simp) λxX _ zv=>?_
 refine aad (agq (T:="StopIteration") (b:=true) ⟨oe,zv.extBut _ _ hez R3,EG⟩ isSubtype_stop ?_)
 exact aao (hQ _ λc o c1 _ c3 _ x=>zv.extBut _ _ c1 (zu _ _ c3 (wR.extBut _ _ c1 x)))
end
end PySem
namespace PySem
abbrev Gv(h:Heap)(l1:Addr):Heap:=h.push {cls:=.type "tuple_iterator",data:=.fields #[.ref l1,.int 0 0] }
abbrev Gw(h:Heap)(l1 l2:Addr):Heap:=(Gv h l1).push {cls:=.type "tuple_iterator",data:=.fields #[.ref l2,.int 0 0] }
abbrev Gx(h:Heap)(l1 l2:Addr):Heap:=(Gw h l1 l2).push {cls:=.type "tuple",data:=.seq #[.ref h.objs.size,.ref (Gv h l1).objs.size] }
abbrev Gy(h:Heap)(l1 l2:Addr):Heap:=(Gx h l1 l2).push {cls:=.type "tuple",data:=.seq #[.none,.none] }
abbrev yd(h:Heap)(l1 l2:Addr):Heap:=(Gy h l1 l2).push {cls:=.type "zip",data:=.fields #[.none,.bool false,.bool false,.ref (Gw h l1 l2).objs.size,.ref (Gx h l1 l2).objs.size] }
theorem BH(l1 l2:Addr)(xs ys:Array Value) :
 Meets (Builtin.«zip.__new__» ⟨[.type "zip",.ref l1,.ref l2],[]⟩) (λ_ R s=>s.heap.IsTuple l1 xs/\s.heap.IsTuple l2 ys/\R (.ok (.ret (.ref (Gy s.heap l1 l2).objs.size))) {s with heap:=yd s.heap l1 l2}):=
 .of_wp λprog w A R s h=>by
  obtain⟨hp,g,d,tk,os⟩:=s;obtain⟨iI,d9,h⟩:=h
  have abJ:=sub_zip
  have R4:Heap.IsTuple (Shared.heap ⟨hp,g,d,tk,os⟩) l1 xs:=iI
  have R5:Heap.IsTuple (Shared.heap ⟨hp.push {cls:=.type "tuple_iterator",data:=.fields #[.ref l1,.int 0 0] },g,d,tk,os⟩) l2 ys:=Heap.IsTuple.push d9 _
  wp_walk using afO R4,afO R5
  exact⟨_,rfl,h⟩
section
variable {prog:Program}{w:World}{A:Around}{E:Value->Shared->Prop}{s:Shared}{tp:Bool}
theorem Px(iI:oA tp s.heap l1 xs)(d9:oA tp s.heap l2 ys)
 (h:∀h',IsZip h' (s.heap.objs.size+4) (s.heap.objs.size+2) (s.heap.objs.size+3) .none->IsPair h' (s.heap.objs.size+2) (.ref s.heap.objs.size) (.ref (s.heap.objs.size+1))->
  IsPair h' (s.heap.objs.size+3) .none .none->je tp h' s.heap.objs.size l1 0->je tp h' (s.heap.objs.size+1) l2 0->(∀c o,s.heap.get? c=some o->h'.get? c=some o)->Q (.ref (s.heap.objs.size+4)) {s with heap:=h'}) :
 wpAny (model prog w) A (call (.type "zip") [.ref l1,.ref l2]) Q E s:=by
 cases tp
 . exact call_zip_2 iI d9 λh' a b c d e _ f=>h h' a b c d e f
 . refine callType_new F.called_zip (by decide) (F.typeCall_zip_2 _ _) (F.newCall_zip_2 _ _) (λobj=>F.args_object_init_3 obj _ _) F.entry_zip_new (BH l1 l2 xs ys) ⟨iI,d9,?_⟩
   have z1:(Gv s.heap l1).objs.size=s.heap.objs.size+1:=adz ..
   have z2:(Gw s.heap l1 l2).objs.size=s.heap.objs.size+2:=by rw[adz,z1]
   have z3:(Gx s.heap l1 l2).objs.size=s.heap.objs.size+3:=by rw[adz,z2]
   have z4:(Gy s.heap l1 l2).objs.size=s.heap.objs.size+4:=by rw[adz,z3]
   have g5:(yd s.heap l1 l2).get? (Gy s.heap l1 l2).objs.size=some _:=aaq _ rfl
   have g4:(yd s.heap l1 l2).get? (Gx s.heap l1 l2).objs.size=some _:=aac _ (aaq _ rfl)
   have g3:(yd s.heap l1 l2).get? (Gw s.heap l1 l2).objs.size=some _:=aac _ (aac _ (aaq _ rfl))
   have g2:(yd s.heap l1 l2).get? (Gv s.heap l1).objs.size=some _:=aac _ (aac _ (aac _ (aaq _ rfl)))
   have g1:(yd s.heap l1 l2).get? s.heap.objs.size=some _:=aac _ (aac _ (aac _ (aac _ (aaq _ rfl))))
   show _/\_
   rw[z2,z3,z4]at g5
   rw[z1,z2]at g3
   rw[z3]at g4
   rw[z1]at g2
   rw[z4]
   exact⟨⟨_,g5,rfl⟩,h _ g5 g3 g4 ⟨_,g1,rfl,rfl⟩ ⟨_,g2,rfl,rfl⟩ λc o x=>
    aac _ (aac _ (aac _ (aac _ (aac _ x))))⟩
end
end PySem
namespace L2
open PySem PySem.Spec PyProof.Rows
def ZH(tp:Bool)(H:Hp)(a:Addr)(xs:List V):Prop:=match tp with|true=>H a=some (.tup xs)|false=>H a=some (.lst xs)
theorem ZH.inj{tp:Bool}{H:Hp}{a:Addr}{xs ys:List V}(h:ZH tp H a xs)(h':ZH tp H a ys):xs=ys:=by
 cases tp <;> (have e:=(show H a=_ from h).symm.trans (show H a=_ from h');cases e;rfl)
theorem ZH.same{tp:Bool}{H H':Hp}{a:Addr}{xs:List V}(h:ZH tp H a xs)(k:∀o,H a=some o->H' a=some o):ZH tp H' a xs:=by cases tp <;> exact k _ h
section
variable {X:Cx}
end
end L2
namespace PySem
open PySem PySem.Spec PyProof.Rows
section
variable {prog:Program}{w:World}{A:Around}{E:Value->Shared->Prop}{s:Shared}{tp tq:Bool}
theorem Py(nd:[z,TI,TO,i1,i2].Nodup)(n1:l1∉[z,TI,TO,i1,i2])(n2:l2∉[z,TI,TO,i1,i2])
 (hz:IsZip s.heap z TI TO .none) (oB:IsPair s.heap TI (.ref i1) (.ref i2)) (sZ:IsPair s.heap TO a b) (h1:je tp s.heap i1 l1 k) (h2:je tq s.heap i2 l2 k) (iI:oA tp s.heap l1 xs) (d9:oA tq s.heap l2 ys) (hx:xs[k]?=some x) (hy:ys[k]?=some y)
 (hQ:∀h',IsZip h' z TI TO (rawInt s.heap.objs.size)->IsPair h' TO x y->je tp h' i1 l1 (k+1)->je tq h' i2 l2 (k+1)->IsPair h' s.heap.objs.size x y->
  (∀c o,c≠z->c≠TO->c≠i1->c≠i2->s.heap.get? c=some o->h'.get? c=some o)->Q (some (.ref s.heap.objs.size)) {s with heap:=h'}):wpAny (model prog w) A (pyNext (.ref z)) Q E s:=by
 simp only[aaP,aaj,aat,adg,afq]at nd n1 n2
 obtain⟨⟨JE,rY,rZ,uR⟩,⟨TITO,TIi1,TIi2⟩,⟨TOi1,TOi2⟩,i12,_⟩:=nd
 obtain⟨l1z,RV,l1TO,l1i1,l1i2⟩:=n1
 obtain⟨l2z,abH,l2TO,l2i1,l2i2⟩:=n2
 have hT:s.TypeIs (.ref z) "zip":=⟨_,hz,rfl⟩
 unfold pyNext
 refine aad (agb (adR (name:=Str.ofString "__next__") hT aeI (adT aeI hT ago ?_ (af1 _))))
 show wpAny _ _ (field (.ref z) 2 >>= _) _ _ _
 refine aad (adD hz rfl (x:=.bool false) rfl ?_)
 show wpAny _ _ (field (.ref z) 3 >>= _) _ _ _
 refine aad (adD hz rfl (x:=.ref TI) rfl ?_)
 refine aad (adu oB rfl ?_)
 show wpAny _ _ (Builtin.SmallTypes.ownedTupleIsFree (.ref z) >>= _) _ _ _
 refine aad ?_
 unfold Builtin.SmallTypes.ownedTupleIsFree
 refine aad (adD hz rfl (x:=.none) rfl (aao ?_))
 simp only[afl]
 refine aad (afm ?_)
 refine aad (adD hz rfl (x:=.ref TO) rfl ?_)
 refine aad (adS hz (by simp) λpN tf wR=>?_)
 replace tf:IsZip pN z TI TO .ellipsis:=tf
 refine aad ?_
 simp only[agp,agD,aeE,aeR]
 have k1:∀c o,c≠z->s.heap.get? c=some o->pN.get? c=some o:=λc o n e=>wR.extBut _ _ n e
 refine aad (aad (afw ?_))
 show wpAny _ _ (Builtin.SmallTypes.nextOf (.ref i1) >>= _) _ _ _
 refine aad (um (h1.at λo e=>k1 _ o (aax rZ) e) (iI.at λo e=>k1 _ o l1z e) hx λvb RW zu=>aao ?_)
 have k2:∀c o,c≠i1->pN.get? c=some o->vb.get? c=some o:=λc o n e=>zu.extBut _ _ n e
 have BD:IsPair vb TO a b:=k2 _ _ TOi1 (k1 _ _ (aax rY) sZ)
 refine aad (adu BD rfl ?_)
 refine aad (aeP BD λxX vk zv=>?_)
 replace vk:IsPair xX TO x b:=vk
 have k3:∀c o,c≠TO->vb.get? c=some o->xX.get? c=some o:=λc o n e=>zv.extBut _ _ n e
 refine aad (afC (aao ?_))
 refine aad (aad (afw ?_))
 show wpAny _ _ (Builtin.SmallTypes.nextOf (.ref i2) >>= _) _ _ _
 refine aad (um (h2.at λo e=>k3 _ o (aax TOi2) (k2 _ o (aax i12) (k1 _ o (aax uR) e))) (d9.at λo e=>k3 _ o l2TO (k2 _ o l2i1 (k1 _ o l2z e))) hy λF7 RX JF=>aao ?_)
 have k4:∀c o,c≠i2->xX.get? c=some o->F7.get? c=some o:=λc o n e=>JF.extBut _ _ n e
 have BE:IsPair F7 TO x b:=k4 _ _ TOi2 vk
 refine aad (adu BE rfl ?_)
 refine aad (aeP BE λjM qO JG=>?_)
 replace qO:IsPair jM TO x y:=qO
 have k5:∀c o,c≠TO->F7.get? c=some o->jM.get? c=some o:=λc o n e=>JG.extBut _ _ n e
 refine aad (afC (aao (aao ?_)))
 refine aad (adu qO rfl ?_)
 refine aad (afS ?_)
 have hsz:jM.objs.size=s.heap.objs.size:=by rw[JG.1,JF.1,zv.1,zu.1,wR.1]
 have JH:IsZip jM z TI TO .ellipsis:=k5 _ _ rY (k4 _ _ uR (k3 _ _ rY (k2 _ _ rZ tf)))
 have RY:∀c o,c≠z->c≠TO->c≠i1->c≠i2->s.heap.get? c=some o->jM.get? c=some o:=λc o c1 c2 c3 c4 e=>k5 _ _ c2 (k4 _ _ c4 (k3 _ _ c2 (k2 _ _ c3 (k1 _ _ c1 e))))
 have RZ:je tp jM i1 l1 (k+1):=RW.at λo e=>k5 _ _ (aax TOi1) (k4 _ _ i12 (k3 _ _ (aax TOi1) e))
 have R0:je tq jM i2 l2 (k+1):=RX.at λo e=>k5 _ _ (aax TOi2) e
 have BF:z<jM.objs.size:=aaw JH
 show wpAny _ _ (Builtin.SmallTypes.ownedTupleHandOut (.ref z) (.ref jM.objs.size) >>= _) _ _ _
 refine aad ?_
 unfold Builtin.SmallTypes.ownedTupleHandOut
 have R1:IsZip (jM.push {cls:=.type "tuple",data:=.seq #[x,y] }) z TI TO .ellipsis:=aac _ JH
 refine aad (adS R1 (by simp) λabI BG JI=>?_)
 replace BG:IsZip abI z TI TO (rawInt jM.objs.size):=BG
 refine adS BG (by simp) λGu wU JJ=>?_
 replace wU:IsZip Gu z TI TO (rawInt jM.objs.size):=wU
 have up:∀c o,c≠z->jM.get? c=some o->Gu.get? c=some o:=λc o c1 e=>JJ.extBut _ _ c1 (JI.extBut _ _ c1 (aac _ e))
 have JK:IsPair Gu jM.objs.size x y:=JJ.extBut _ _ (ad4 BF) (JI.extBut _ _ (ad4 BF) (aaq _ rfl))
 rw[hsz]at wU JK
 refine aao ⟨.ref jM.objs.size,rfl,aao ?_⟩
 rw[hsz]
 exact hQ Gu wU (up _ _ (aax rY) qO) (RZ.at λo e=>up _ o (aax rZ) e) (R0.at λo e=>up _ o (aax uR) e) JK λc o c1 c2 c3 c4 e=>up c o c1 (RY c o c1 c2 c3 c4 e)
end
end PySem
namespace L2
open PySem PySem.Spec PyProof.Rows
def ZK(K:W.Frag)(tp:Bool)(H:Hp)(a:Addr)(xs:List V):Prop:=match tp with|true=>aR K H a xs|false=>ar K H a xs
section
variable {X:Cx}{pins:List (Addr×Obj)}{σ:St}{H:Hp}{s:Shared}{tp:Bool}{a:Addr}{xs ys:List V}
theorem Inv.zk(I:Inv X pins σ H s)(h:ZK X.K tp H a xs):∃its:List Value,Vals xs its/\oA tp s.heap a its.toArray/\xs.length<=sizeLine:=by
 cases tp
 . obtain⟨its,r,pl,z⟩:=I.list h
   exact⟨its,r,pl.isList,z⟩
 . obtain⟨its,r,⟨o,e,c,n,d⟩,z⟩:=I.tuple h
   exact⟨its,r,⟨o,e,c,n,d⟩,z⟩
theorem Inv.JL(I:Inv X pins σ H s)(h:ZK X.K tp H a xs)(h':ZK X.K tp H a ys):xs=ys:=by
 cases tp
 . exact I.uZ h h'
 . exact I.sy h h'
theorem Inv.BI{fp:List Addr}(I:Inv X pins σ H s)(h:ZK X.K tp H a xs)(hf:∀b∈fp,jL X pins H b):a∉fp:=λm=>by
 have own:∀o,X.K.lookup a=some o->False:=λo e=>by
  have eb:=I.ok.mod.kin a o e
  obtain⟨_,_,_,h4,_⟩:=hf a m
  rcases h4 with h4|h4
  . exact I.ok.noex a o eb h4
  . exact absurd (aaM (aaw eb) (aam I.ok.bsz h4)) (adJ _)
 have aV:=(hf a m).1
 cases tp
 . rcases h with (h|⟨o,h⟩)|⟨o,_,_,e,_⟩
   . rw[aV]at h;cases h
   . rw[aV]at h;cases h
   . exact own o e
 . rcases h with (h|⟨o,h⟩)|⟨o,_,_,e,_⟩
   . rw[aV]at h;cases h
   . rw[aV]at h;cases h
   . exact own o e
end
def Itm(K:W.Frag)(tp tq:Bool)(a b:Addr):It:=
 ⟨λi H=>∃xs ys x y,ZK K tp H a xs/\ZK K tq H b ys/\xs[i]?=some x/\ys[i]?=some y,λi H v H'=>∃T x y,v=.ref T/\H T=none/\H'=upd H T (.tup [x,y])/\(∀xs,ZK K tp H a xs->xs[i]?=some x)/\∀ys,ZK K tq H b ys->ys[i]?=some y,
  λi H=>∃xs,ZK K tp H a xs/\xs.length<=i⟩
theorem EH{P:Program}{w:World}{K:W.Frag}{es:List Expr}{kk:Nat}{pp:Pos}{tp tq:Bool}{a b z TI TO i1 i2:Addr}(nd:[z,TI,TO,i1,i2].Nodup) :
 Turn P w K (.Tuple es kk pp) (Itm K tp tq a b) [z,TI,TO,i1,i2] z (λi h=>IsZip h z TI TO .none/\IsPair h TI (.ref i1) (.ref i2)/\(∃a b,IsPair h TO a b)/\je tp h i1 a i/\je tq h i2 b i) where
 mem:=by simp
 obj:=λi h st c hc=>by
  obtain⟨hz,oB,⟨u,v,sZ⟩,h1,h2⟩:=st
  simp only[aaj,aat,adg]at hc
  rcases hc with rfl|rfl|rfl|rfl|rfl
  . exact⟨_,hz,λv z=>by cases(show Data.fields _=Data.cell v from z)⟩
  . exact⟨_,oB,λv z=>by cases(show Data.seq _=Data.cell v from z)⟩
  . exact⟨_,sZ,λv z=>by cases(show Data.seq _=Data.cell v from z)⟩
  . obtain⟨o,e,vs,d⟩:=h1.there
    exact⟨o,e,λv z=>by rw[d]at z;cases z⟩
  . obtain⟨o,e,vs,d⟩:=h2.there
    exact⟨o,e,λv z=>by rw[d]at z;cases z⟩
 keep:=λi h h' st k=>by
  obtain⟨hz,oB,⟨u,v,sZ⟩,h1,h2⟩:=st
  exact⟨k z (by simp) _ hz,k TI (by simp) _ oB,⟨u,v,k TO (by simp) _ sZ⟩,h1.at λo e=>k i1 (by simp) o e,h2.at λo e=>k i2 (by simp) o e⟩
 item:=by
  intro X hP hw hK hc i pins s σ H E I hf st hg
  subst hP hw hK
  obtain⟨xs,ys,x,y,zw,R6,hx,hy⟩:=hg
  obtain⟨its,rv,p,Bt⟩:=I.zk zw
  obtain⟨its',EI,p',ain⟩:=I.zk R6
  obtain⟨u,hu,ru⟩:=rv.get hx
  obtain⟨v,hv,rv2⟩:=EI.get hy
  obtain⟨hz,oB,⟨c,d,sZ⟩,h1,h2⟩:=st
  have na:a∉[z,TI,TO,i1,i2]:=I.BI zw hf
  have nb:b∉[z,TI,TO,i1,i2]:=I.BI R6 hf
  refine Py nd na nb hz oB sZ h1 h2 p p' (x:=u) (y:=v) (by simpa using hu) (by simpa using hv) λh' a1 a2 a3 a4 a5 kk=>?_
  refine⟨.ref s.heap.objs.size,rfl,?_⟩
  refine wpAny_letOwnedTupleGo_zip a1 λh3 RL hs3=>?_
  have Yz:=nd
  simp only[aaP,aaj,aat,adg,afq]at Yz
  obtain⟨⟨JE,rY,rZ,uR⟩,⟨TITO,TIi1,TIi2⟩,⟨TOi1,TOi2⟩,i12,_⟩:=Yz
  have lt:∀c∈[z,TI,TO,i1,i2],c≠s.heap.objs.size:=λc hc=>by
   simp only[aaj,aat,adg]at hc
   rcases hc with rfl|rfl|rfl|rfl|rfl
   . exact aaD (aaw hz)
   . exact aaD (aaw oB)
   . exact aaD (aaw sZ)
   . obtain⟨o,e,_⟩:=h1.there
     exact aaD (aaw e)
   . obtain⟨o,e,_⟩:=h2.there
     exact aaD (aaw e)
  have k3:∀c o,c≠z->h'.get? c=some o->h3.get? c=some o:=λc o n e=>hs3.extBut _ _ n e
  have I1:Inv X pins σ (upd H s.heap.objs.size (.tup [x,y])) {s with heap:=h3,toks:=s.toks}:=I.x8 (its:=[u,v]) hf (λb o hb e1=>by
   simp only[aaj,aat,adg,afq]at hb
   exact k3 b o hb.1 (kk b o hb.1 hb.2.2.1 hb.2.2.2.1 hb.2.2.2.2 e1)) (aaf _) ⟨_,k3 _ _ (aax (lt z (by simp))) a5,rfl,_,rfl⟩ (.cons ru (.cons rv2 .nil)) (by show 2<=sizeLine;decide)
  have fr:H s.heap.objs.size=none:=I.hok.fresh (aaf _)
  refine⟨.ref s.heap.objs.size,_,I1,rfl,⟨s.heap.objs.size,x,y,rfl,fr,rfl,λwK h=>by rw[I.JL h zw];exact hx,λBm h=>by rw[I.JL h R6];exact hy⟩,⟨RL,k3 _ _ (aax JE) (kk _ _ (aax JE) TITO TIi1 TIi2 oB),⟨_,_,k3 _ _ (aax rY) a2⟩,a3.at λo e=>k3 _ o (aax rZ) e,a4.at λo e=>k3 _ o (aax uR) e⟩,λb hb=>?_⟩
  rw[ag (lt b hb)]
  exact(hf b hb).1
 done:=by
  intro X hP hw hK hc i pins s σ H E I hf st hg
  subst hP hw hK
  obtain⟨xs,zw,hx⟩:=hg
  obtain⟨its,rv,p,Bt⟩:=I.zk zw
  obtain⟨hz,oB,⟨c,d,sZ⟩,h1,h2⟩:=st
  have hl:=rv.length
  have na:a∉[z,TI,TO,i1,i2]:=I.BI zw hf
  exact Pw (I.ok.hd hc) nd na hz oB h1 p (a:=.none) (b:=.none) (by simp;lia) λh' kk=>⟨rfl,I.xZ (t':=s.toks) hf λb o hb e1=>by
   simp only[aaj,aat,adg,afq]at hb
   exact kk b o hb.1 hb.2.2.1 hb.2.2.2.1 hb.2.2.2.2 e1⟩
 self:=λ_ _ _ _ _ st h=>agr st.1 h
section
variable {X:Cx}
end
end L2
namespace PySem
open PySem.Spec PyProof.Rows
section
variable {prog:Program}{w:World}{A:Around}{E:Value->Shared->Prop}{s:Shared}{z TI TO i1 i2:Addr}{m1 m2:List Addr}{n1 n2:Nat}{P1 P2:Nat->Value->Prop}{YA pK:Nat->Heap->Prop}
end
section
variable {prog:Program}{w:World}{K:Type}[DecidableEq K] {knd:KeyKind prog w K}{A:Around}{E:Value->Shared->Prop}{s:Shared}
end
namespace F
end F
section
variable {prog:Program}{w:World}{K:Type}[DecidableEq K] {knd:KeyKind prog w K}{A:Around}{R:Result->Shared->Prop}{z TI TO i1 i2:Addr}{m1 m2:List Addr}{n1 n2:Nat}{P1 P2:Nat->Value->Prop}{YA pK:Nat->Heap->Prop}
end
section
variable {prog:Program}{w:World}{K:Type}[DecidableEq K] {knd:KeyKind prog w K}{A:Around}{E:Value->Shared->Prop}{s:Shared}{z TI TO i1 i2:Addr}{m1 m2:List Addr}{n1 n2:Nat}{P1 P2:Nat->Value->Prop}{YA pK:Nat->Heap->Prop}
end
abbrev ye(h:Heap)(o:Obj):Heap:=h.push o
abbrev Gz(h:Heap)(o:Obj)(l2:Addr):Heap:=(ye h o).push {cls:=.type "tuple_iterator",data:=.fields #[.ref l2,.int 0 0] }
abbrev GC(h:Heap)(o:Obj)(l2:Addr):Heap:=(Gz h o l2).push {cls:=.type "tuple",data:=.seq #[.ref h.objs.size,.ref (ye h o).objs.size] }
abbrev BJ(h:Heap)(o:Obj)(l2:Addr):Heap:=(GC h o l2).push {cls:=.type "tuple",data:=.seq #[.none,.none] }
abbrev lK(h:Heap)(o:Obj)(l2:Addr):Heap:=(BJ h o l2).push {cls:=.type "zip",data:=.fields #[.none,.bool false,.bool false,.ref (Gz h o l2).objs.size,.ref (GC h o l2).objs.size] }
abbrev uo(l:Addr):Obj:={cls:=.type "list_iterator",data:=.fields #[.ref l,.int 0 0] }
theorem GD(l1 l2:Addr)(xs ys:Array Value) :
 Meets (Builtin.«zip.__new__» ⟨[.type "zip",.ref l1,.ref l2],[]⟩) (λ_ R s=>s.heap.IsList l1 xs/\s.heap.IsTuple l2 ys/\R (.ok (.ret (.ref (BJ s.heap (uo l1) l2).objs.size))) {s with heap:=lK s.heap (uo l1) l2}):=
 .of_wp λprog w A R s h=>by
  obtain⟨hp,g,d,tk,os⟩:=s;obtain⟨iI,d9,h⟩:=h
  have abJ:=sub_zip
  have R4:Heap.IsList (Shared.heap ⟨hp,g,d,tk,os⟩) l1 xs:=iI
  have R5:Heap.IsTuple (Shared.heap ⟨hp.push {cls:=.type "list_iterator",data:=.fields #[.ref l1,.int 0 0] },g,d,tk,os⟩) l2 ys:=Heap.IsTuple.push d9 _
  wp_walk using afi R4,afO R5
  exact⟨_,rfl,h⟩
section
variable {prog:Program}{w:World}{A:Around}{E:Value->Shared->Prop}{s:Shared}
theorem Pz(h:Heap)(o:Obj)(l2:Addr) (hg:(ye h o).get? h.objs.size=some o):IsZip (lK h o l2) (h.objs.size+4) (h.objs.size+2) (h.objs.size+3) .none/\IsPair (lK h o l2) (h.objs.size+2) (.ref h.objs.size) (.ref (h.objs.size+1))/\IsPair (lK h o l2) (h.objs.size+3) .none .none/\
 (lK h o l2).get? h.objs.size=some o/\(lK h o l2).IsTupleIter (h.objs.size+1) l2 0/\(∀c q,h.get? c=some q->(lK h o l2).get? c=some q)/\(BJ h o l2).objs.size=h.objs.size+4:=by
 have z1:(ye h o).objs.size=h.objs.size+1:=adz ..
 have z2:(Gz h o l2).objs.size=h.objs.size+2:=by rw[adz,z1]
 have z3:(GC h o l2).objs.size=h.objs.size+3:=by rw[adz,z2]
 have z4:(BJ h o l2).objs.size=h.objs.size+4:=by rw[adz,z3]
 have g5:(lK h o l2).get? (BJ h o l2).objs.size=some _:=aaq _ rfl
 have g4:(lK h o l2).get? (GC h o l2).objs.size=some _:=aac _ (aaq _ rfl)
 have g3:(lK h o l2).get? (Gz h o l2).objs.size=some _:=aac _ (aac _ (aaq _ rfl))
 have g2:(lK h o l2).get? (ye h o).objs.size=some _:=aac _ (aac _ (aac _ (aaq _ rfl)))
 have g1:(lK h o l2).get? h.objs.size=some _:=aac _ (aac _ (aac _ (aac _ hg)))
 rw[z2,z3,z4]at g5
 rw[z1,z2]at g3
 rw[z3]at g4
 rw[z1]at g2
 exact⟨g5,g3,g4,g1,⟨_,g2,rfl,rfl⟩,λc q x=>aac _ (aac _ (aac _ (aac _ (aac _ x)))),z4⟩
end
end PySem
namespace L2
open PySem PySem.Spec PyProof.Rows
section
variable {X:Cx}{pins:List (Addr×Obj)}{σ:St}{H:Hp}{s:Shared}{h':Heap}
end
section
variable {X:Cx}
end
end L2
namespace PySem
open Builtin Builtin.Str
def aie(c:Nat)(L:List Nat)(a k:Nat):List Nat:=(List.range' a k).filter λi=>decide (L[i]?=some c)
end PySem
namespace L2
open PySem PySem.Spec PyProof.Rows
section
variable {X:Cx}
def PB:V->List V->Hp->VK->Prop:=λx vs H Q=>∃z y,x=.str z/\vs=[.str y]/\Q (.bl (decide (0+y.length<=z.length) && Builtin.Str.subAt z y 0)) H
theorem zx:wg X "str.startswith" PB:=by
 intro pins s σ H x vs v us Q I rx rv h
 obtain⟨z,y,rfl,rfl,q⟩:=h
 obtain⟨t,rfl⟩:=rx
 obtain⟨u,rfl,tu,rfl⟩:=rv.one
 exact call_gives afH (afk _ _ _) F.entry_str_startswith (F.args_str_startswith_2 _ _) (gives_str_startswith z y t tu) ⟨.bl _,H,I,rfl,q⟩
def abK:V->Option Int->Option Int->Hp->VK->Prop:=λx lo hi H Q=>∃z j,x=.str z/\lo=some j/\hi=none/\z.length<=sizeLine/\Q (.str (Txt.slice z (some j) none)) H
theorem EJ:Np X abK:=by
 intro pins s σ H x v vl vu lo hi sl Q I rx hs pl pu h
 obtain⟨z,j,rfl,rfl,rfl,hz,q⟩:=h
 obtain⟨t,rfl⟩:=rx
 cases pu
 cases pl with
 | int _ uj=>
  refine⟨"str",_,F.slot_str_getitem.lookup,afk _ _ _,af9 (l:=some (j,uj)) (u:=none) (st:=none) hs rfl
   (post_val_or_str ⟨aam (Txt.slice_le z _ _) hz,λt' k=>⟨.str (Txt.slice z (some j) none),H,I.tok k,⟨t',rfl⟩,q⟩⟩)⟩
end
end L2
namespace PySem
open Builtin Builtin.Str
theorem wV(z:Str)(c:Nat):(decide (0+(⟨#[c]⟩:Str).length<=z.length) && subAt z ⟨#[c]⟩ 0)=decide (z.cps.toList[0]?=some c):=by
 rw[adb,adj,ac8,ac8]
 exact StrLaws.subAt_one z c 0
theorem LH(n:Nat):strSliceIndices (some 1) none 1 n=(List.range (n-1)).map (· + 1):=by
 cases n with
 | zero=>rfl
 | succ n=>
  have h1:¬ ((1:Int)<0):=by decide
  have e1:max (0:Int) (min 1 ((n+1:Nat):Int))=1:=by lia
  simp only[strSliceIndices,sliceRange,h1,ae4,show ((1:Int)>0)=True from by simp,afl,e1]
  have e2:(if (1:Int)<((n+1:Nat):Int) then (((n+1:Nat):Int)-1+1-1) / 1 else 0).toNat=n:=by
   split
   . rw[Int.ediv_one];lia
   . lia
  rw[e2]
  show _=(List.range n).map (· + 1)
  refine adZ λk _=>?_
  lia
theorem JM:∀(l:List Nat) (L:List Nat),((List.range (L.length-1)).map (· + 1)).filterMap (λi=>L[i]?)=L.tail:=by
 intro _ L
 cases L with
 | nil=>rfl
 | cons x r=>
  show ((List.range r.length).map (· + 1)).filterMap (λi=>(x::r)[i]?)=r
  rw[List.filterMap_map]
  show (List.range r.length).filterMap (λi=>(x::r)[i+1]?)=r
  simp only[List.getElem?_cons_succ]
  have k:=Gen.uK r r.length (aaf _)
  rw[ac4]at k
  exact k
theorem wW(z:Str):(Txt.slice z (some 1) none).cps.toList=z.cps.toList.tail:=by
 unfold Txt.slice
 rw[LH]
 split
 . rename_i h
   have h2:((List.range (z.length-1)).map (· + 1)).length=z.length:=by simpa using h
   rw[aaa,adi]at h2
   have h3:z.length=0:=by lia
   have h4:z.cps.toList=[]:=ads.mp (by simpa[Str.length]using h3)
   rw[h4]
   rfl
 . have e:z.length=z.cps.toList.length:=by simp[Str.length]
   rw[e]
   have k:=JM [] z.cps.toList
   simpa using k
end PySem
namespace L2
open PySem PySem.Spec PyProof.Rows
section
variable {X:Cx}{pins:List (Addr×Obj)}{σ:St}{H:Hp}{s:Shared}{a:Addr}{kvs:List (Key×V)}{k:Key}{v:V}{u:Value}{E:Value->Shared->Prop}
end
section
variable {X:Cx}{o i:Expr}{pos:Pos}{td ty:TE}
end
section
variable {X:Cx}
def Xq(K:W.Frag)(ta:TA):TI:=λσ H R=>ta σ H λvs H1=>∃a b,vs=[.ref a,.ref b]/\(∃xs,ar K H1 a xs)/\(∃ys,aR K H1 b ys)/\R (Itm K false true a b) H1
theorem EK(hg:Gl X "zip")(hm:X.mg "zip" = none)(ha:PA X [a,b] ta) (hs:starEach [a,b] X.env=(false,eval a X.env)::starEach [b] X.env:=by rfl) (hp:(backTo pos (starEach [b] X.env)).any (·.1)=false:=by rfl) :
 PI X (.Tuple es kk pp) (.Call (.Name "zip" p) [a,b] [] pos) (Xq X.K ta):=by
 intro pins s σ H R I h
 refine Call_ (jP I hg hm boot_zip (adk (aO (ha pos pins s σ H _ I h) λus s1 ⟨vs,H1,I1,r1,q1⟩=>?_) hs hp))
 obtain⟨l,m,e,⟨xs,hx⟩,⟨ys,hy⟩,q⟩:=q1
 subst e
 obtain⟨u,v,rfl,ru,rv⟩:=vals2 r1
 cases(show u=Value.ref l from ru)
 cases(show v=Value.ref m from rv)
 obtain⟨its,_,p1,_⟩:=I1.zk (tp:=false) hx
 obtain⟨its',_,p2,_⟩:=I1.zk (tp:=true) hy
 refine callType_new F.called_zip (by decide) (F.typeCall_zip_2 _ _) (F.newCall_zip_2 _ _) (λobj=>F.args_object_init_3 obj _ _) F.entry_zip_new (GD l m its.toArray its'.toArray) ⟨p1,p2,?_⟩
 have sM:(ye s1.heap (uo l)).get? s1.heap.objs.size=some (uo l):=aaq _ rfl
 obtain⟨a1,a2,a3,a4,a5,kk',g6⟩:=Pz s1.heap (uo l) m sM
 show _/\_
 rw[g6]
 refine⟨⟨_,a1,rfl⟩,?_⟩
 refine agr a1 ?_
 have I2:Inv X pins σ H1 {s1 with heap:=lK s1.heap (uo l) m}:=I1.kept (t':=s1.toks) kk'
 refine⟨_,_,_,_,H1,rfl,I2,EH (tp:=false) (tq:=true) (a:=l) (b:=m) (z:=s1.heap.objs.size+4) (TI:=s1.heap.objs.size+2) (TO:=s1.heap.objs.size+3) (i1:=s1.heap.objs.size) (i2:=s1.heap.objs.size+1) ?_,⟨a1,a2,⟨_,_,a3⟩,⟨_,a4,rfl,rfl⟩,a5⟩,λb hb=>?_,q⟩
 . simp
 . have kN:s1.heap.objs.size<=b:=by
    simp only[aaj,aat,adg]at hb
    rcases hb with rfl|rfl|rfl|rfl|rfl
    . exact aaJ _ _
    . exact aaJ _ _
    . exact aaJ _ _
    . exact aaf _
    . exact aaJ _ _
   exact I1.qy kN (I1.hok.fresh kN)
theorem EL{K:W.Frag}{tp tq:Bool}{a b:Addr}{xs ys:List V}{g:TG}{tb:TS}{D:Ends}{σ:St}{H:Hp}(hxy:xs.length<=ys.length)(Pv:Nat->St->Hp->Prop)(h0:Pv 0 σ H)(hl:∀i σ H,i<=xs.length->Pv i σ H->ZK K tp H a xs/\ZK K tq H b ys)
 (hs:∀i x y T σ H,xs[i]?=some x->ys[i]?=some y->H T=none->Pv i σ H->g (.ref T) σ (upd H T (.tup [x,y])) λiZ H2=>tb {D with nx:=Pv (i+1),ct:=Pv (i+1),bk:=D.nx} iZ H2) (hd:∀σ H,Pv xs.length σ H->D.nx σ H) :
 ∃W:Nat->Nat->St->Hp->Prop,(∃m,W 0 m σ H)/\∀i m σ H,W i m σ H->
  ((Itm K tp tq a b).stop i H/\D.nx σ H)\/((Itm K tp tq a b).go i H/\∃N:St->Hp->Prop,(∀cm H',N cm H'->∃m',m'<m/\W (i+1) m' cm H')/\∀x H',(Itm K tp tq a b).yld i H x H'->g x σ H' λiZ H2=>tb {D with nx:=N,ct:=N,bk:=D.nx} iZ H2):=by
 refine⟨λi m σ H=>m=xs.length-i/\i<=xs.length/\Pv i σ H,⟨xs.length,by simp,aaO _,h0⟩,?_⟩
 rintro i m σ H ⟨rfl,hi,p⟩
 obtain⟨q1,q2⟩:=hl i σ H hi p
 by_cases eE:i<xs.length
 . refine .inr ⟨⟨xs,ys,xs[i],ys[i]'(by lia),q1,q2,aab eE,aab (by lia)⟩,Pv (i+1),λcm H' p'=>⟨xs.length-(i+1),by lia,rfl,eE,p'⟩,λx H' y=>?_⟩
   obtain⟨T,v,u,rfl,hT,rfl,hv,hu⟩:=y
   exact hs i v u T σ H (hv xs q1) (hu ys q2) hT p
 . refine .inl ⟨⟨xs,q1,by lia⟩,?_⟩
   obtain rfl:i=xs.length:=by lia
   exact hd σ H p
def PD:V->List V->Hp->VK->Prop:=λx vs H Q=>∃d e kvs more,x=.ref d/\vs=[.ref e]/\H d=some (.dK kvs)/\Rd H e (.dK more)/\d≠e/\kvs.length+more.length<=sizeLine/\Q .aV (upd H d (.dK (bY kvs more)))
theorem JN:wg X "dict.update" PD:=by
 intro pins s σ H x vs v us Q I rx rv h
 obtain⟨d,e,kvs,more,rfl,rfl,hd,he,hne,hsz,q⟩:=h
 cases(show v=Value.ref d from rx)
 obtain⟨u,rfl,ru⟩:=rv.one
 cases(show u=Value.ref e from ru)
 obtain⟨z1,n1,vs1,R7,YB⟩:=uc I.hok hd
 obtain⟨z2,n2,vs2,R8,En⟩:=kJ I.hok he
 have e1:=R7.length
 have e2:=R8.length
 refine afo af2 YB.typeIs PySem.F.entry_dict_update (PySem.F.args_dict_update_2 _ _) (meets_dict_update (bj X.prog X.w) d e hne n2) ⟨vs1,vs2,YB,En,by lia,λh' rJ _ hs=>?_⟩
 have JO:∃q,h'.get? d=some q:=let ⟨q,_,_,hq,_⟩:=rJ; ⟨q,hq⟩
 refine⟨.aV,_,ud I (by rw[hd];trivial) hs JO (pM ?_ n1 (KV.merge R8 R7) rJ),rfl,q⟩
 have:=ia more kvs
 lia
theorem LI{d:Addr}{o:Obj}{kvs:List (Key×V)}{g:TG}{tb:TS}{D:Ends}{σ:St}{H:Hp}(Pv:Nat->St->Hp->Prop) (h0:Pv 0 σ H) (hl:∀i σ H,i<=kvs.length->Pv i σ H->H d=some (.du o (.dK kvs)))
 (hs:∀i kv σ H,kvs[i]?=some kv->Pv i σ H->g (kV kv.1) σ H λiZ H2=>tb {D with nx:=Pv (i+1),ct:=Pv (i+1),bk:=D.nx} iZ H2) (hd:∀σ H,Pv kvs.length σ H->D.nx σ H) :
 ∃W:Nat->Nat->St->Hp->Prop,(∃m,W 0 m σ H)/\∀i m σ H,W i m σ H->
  ((JB d o kvs).stop i H/\D.nx σ H)\/((JB d o kvs).go i H/\∃N:St->Hp->Prop,(∀cm H',N cm H'->∃m',m'<m/\W (i+1) m' cm H')/\∀x H',(JB d o kvs).yld i H x H'->g x σ H' λiZ H2=>tb {D with nx:=N,ct:=N,bk:=D.nx} iZ H2):=by
 refine⟨λi m σ H=>m=kvs.length-i/\i<=kvs.length/\Pv i σ H,⟨kvs.length,by simp,aaO _,h0⟩,?_⟩
 rintro i m σ H ⟨rfl,hi,p⟩
 have q:=hl i σ H hi p
 by_cases eE:i<kvs.length
 . refine .inr ⟨⟨q,eE⟩,Pv (i+1),λcm H' p'=>⟨kvs.length-(i+1),by lia,rfl,eE,p'⟩,λx H' y=>?_⟩
   obtain⟨rfl,kv,aY,rfl⟩:=y
   exact hs i kv σ _ aY p
 . obtain rfl:i=kvs.length:=by lia
   exact .inl ⟨⟨q,rfl⟩,hd σ H p⟩
theorem BK:i0 X (.type "int") (λxs H Q=>∃z n,xs=[.str z]/\PySem.intText? z=some n/\z.length<=640/\Q (.int n) H):=by
 intro pins s σ H xs us Q I r h
 obtain⟨z,n,rfl,hn,hl,q⟩:=h
 obtain⟨u,rfl,t,rfl⟩:=vals1 r
 exact W.KIN.call_text hn hl ⟨.int n,H,I.tok _,⟨_,rfl⟩,q⟩
def Xr(K:W.Frag)(ta:TA):TI:=λσ H R=>ta σ H λvs H1=>∃a b,vs=[.ref a,.ref b]/\(∃xs,ar K H1 a xs)/\(∃ys,ar K H1 b ys)/\R (Itm K false false a b) H1
theorem EM(hg:Gl X "zip")(hm:X.mg "zip" = none)(ha:PA X [a,b] ta) (hs:starEach [a,b] X.env=(false,eval a X.env)::starEach [b] X.env:=by rfl) (hp:(backTo pos (starEach [b] X.env)).any (·.1)=false:=by rfl) :
 PI X (.Tuple es kk pp) (.Call (.Name "zip" p) [a,b] [] pos) (Xr X.K ta):=by
 intro pins s σ H R I h
 refine Call_ (jP I hg hm boot_zip (adk (aO (ha pos pins s σ H _ I h) λus s1 zq=>?_) hs hp))
 obtain⟨vs,H1,I1,r1,l,m,e,⟨xs,hx⟩,⟨ys,hy⟩,q⟩:=zq
 subst e
 obtain⟨u,v,rfl,ru,rv⟩:=vals2 r1
 cases(show u=Value.ref l from ru)
 cases(show v=Value.ref m from rv)
 obtain⟨its,_,p1,_⟩:=I1.zk (tp:=false) hx
 obtain⟨its',_,p2,_⟩:=I1.zk (tp:=false) hy
 refine Px p1 p2 λh' a1 a2 a3 a4 a5 kk=>?_
 refine agr a1 ?_
 have I2:Inv X pins σ H1 {s1 with heap:=h'}:=I1.kept (t':=s1.toks) kk
 refine⟨_,_,_,_,H1,rfl,I2,EH (tp:=false) (tq:=false) (a:=l) (b:=m) (z:=s1.heap.objs.size+4) (TI:=s1.heap.objs.size+2) (TO:=s1.heap.objs.size+3) (i1:=s1.heap.objs.size) (i2:=s1.heap.objs.size+1) ?_,⟨a1,a2,⟨_,_,a3⟩,a4,a5⟩,λb hb=>?_,q⟩
 . simp
 . have kN:s1.heap.objs.size<=b:=by
    simp only[aaj,aat,adg]at hb
    rcases hb with rfl|rfl|rfl|rfl|rfl
    . exact aaJ _ _
    . exact aaJ _ _
    . exact aaJ _ _
    . exact aaf _
    . exact aaJ _ _
   exact I1.qy kN (I1.hok.fresh kN)
end
theorem tj{α β:Type}{F:α->β->Prop} : ∀{l₁:List α}{l₂:List β}{i:Nat}{b:β},Paired F l₁ l₂->l₂[i]?=some b->∃a,l₁[i]?=some a/\F a b
 | _,_,_,_,.nil,h=>by simp at h
 | _,_,0,_,.cons h t,e=>⟨_,rfl,by simp at e;subst e;exact h⟩
 | _,_,i+1,_,.cons h t,e=>by
  obtain⟨a,h1,h2⟩:=tj (i:=i) t (by simpa using e)
  exact⟨a,by simpa using h1,h2⟩
section
variable {X:Cx}
def abL(K:W.Frag):R2:=λx y H Q=>∃(t l:Addr) (a b:Str) (ts:List Addr) (ps:List (Str×Str)),x=.ref t/\y=.ref l/\H t=some (.tup [.str a,.str b])/\ar K H l (ts.map V.ref)/\Paired (λu p=>H u=some (.tup [.str p.1,.str p.2])) ts ps/\t∉ts/\Q (.bl (decide ((a,b)∈ps))) H
open Classical in
theorem WJ(hu:X.A.units+1<cLine):iX X (compareOp .In) (abL X.K):=by
 intro pins s σ H x y v u Q I rx ry h
 obtain⟨t,l,a,b,ts,ps,rfl,rfl,ht,hl,hp,hn,q⟩:=h
 cases(show v=Value.ref t from rx)
 cases(show u=Value.ref l from ry)
 obtain⟨its,rv,pl,hz⟩:=I.list hl
 obtain⟨jts,rt,pt,_⟩:=I.tuple (aR.of ht)
 obtain⟨x1,x2,ej,r1,r2⟩:=vals2 rt
 subst ej
 have at_:∀w,w∈its->∃(d:Addr) (p:Str×Str),w=Value.ref d/\d∈ts/\p∈ps/\H d=some (.tup [.str p.1,.str p.2]):=by
  intro w hw
  obtain⟨i,hi,e⟩:=agY hw
  have hlen:=rv.length
  rw[aaa]at hlen
  have zy:i<ts.length:=by lia
  have d9:=hp.length
  have NT:i<ps.length:=by lia
  obtain⟨w',e1,e2⟩:=rv.get (x:=.ref ts[i]) (by rw[aae,aab zy];rfl)
  rw[aab hi,e]at e1
  cases e1
  obtain⟨d,hd,hD⟩:=tj hp (i:=i) (aab NT)
  rw[aab zy]at hd
  cases hd
  exact⟨ts[i],ps[i],e2,adf zy,adf NT,hD⟩
 refine afB (λw=>decide (∃d:Addr,w=Value.ref d/\H d=some (.tup [.str a,.str b]))) pl.isList (λw hw=>?_) ⟨.bl _,H,I,rfl,?_⟩
 . obtain⟨d,p,rfl,hd,_,hD⟩:=at_ w (by simpa using hw)
   obtain⟨dts,rd,pd,_⟩:=I.tuple (aR.of hD)
   obtain⟨y1,y2,ed,s1,s2⟩:=vals2 rd
   subst ed
   have hne:d≠t:=λe=>hn (e ▸ hd)
   have key:=SeqAt.EqAt.of_refs hne (SeqAt.RcAt.tuples (A:=X.A.in1) (s:=s) (e:=λj=>if j=0 then mr (.str p.1) (.str a) else mr (.str p.2) (.str b)) pd pt (by show X.A.units+1<cLine;exact hu) (λj g1 g2=>?_))
   . have ee:((List.range (min [y1,y2].toArray.size [x1,x2].toArray.size)).all (λj=>if j=0 then mr (.str p.1) (.str a) else mr (.str p.2) (.str b)) && [y1,y2].toArray.size == [x1,x2].toArray.size)=decide (∃d':Addr,Value.ref d=Value.ref d'/\H d'=some (.tup [.str a,.str b])):=by
      show ((List.range 2).all _ && true)=_
      rw[afx,adb,ac8]
      simp only[agE,List.range_zero,aeF,List.all_append,ag7,List.all_nil,afx,adj,aaF,mr,aeY]
      constructor
      . rintro⟨e1,e2⟩
        refine⟨d,rfl,?_⟩
        rw[hD,e1,show p.2=b by simpa using e2]
      . rintro⟨d',e,h'⟩
        cases e
        rw[hD]at h'
        simp at h'
        exact⟨h'.1,by simpa using h'.2⟩
     rw[ee]at key
     exact key
   . match j,g1 with
     | 0,_=>exact vZ s1 r1 rfl rfl
     | 1,_=>exact vZ s2 r2 rfl rfl
 . have e:its.toArray.any (λw=>decide (∃d:Addr,w=Value.ref d/\H d=some (.tup [.str a,.str b])))=decide ((a,b)∈ps):=by
    rw[adb,ac8]
    rw[show its.toArray.any (λw=>decide (∃d:Addr,w=Value.ref d/\H d=some (.tup [.str a,.str b])))=its.any (λw=>decide (∃d:Addr,w=Value.ref d/\H d=some (.tup [.str a,.str b]))) by simp,adx]
    constructor
    . rintro⟨w,hw,hd⟩
      obtain⟨d,p,rfl,_,hpm,hD⟩:=at_ w hw
      obtain⟨d',e,h'⟩:=adh hd
      cases e
      rw[hD]at h'
      simp at h'
      have:p=(a,b):=ag8 h'.1 h'.2
      exact this ▸ hpm
    . intro hm
      obtain⟨i,hi,e⟩:=agY hm
      obtain⟨d,hd,hD⟩:=tj hp (i:=i) (aab hi)
      obtain⟨w',e1,e2⟩:=rv.get (x:=.ref d) (by rw[aae,hd];rfl)
      refine⟨w',aaK e1,aaN ⟨d,e2,?_⟩⟩
      rw[hD,e]
   rw[e]
   exact q
end
section
variable {X:Cx}{N:List Str}{js:List (Option Nat)}{scope:Scope}{elt tg iter:Expr}{ifs:List Expr}{pos:Pos}{wi:TI}{g:TG}{ti:TT}{te:TE}
end
def JP(d:Addr)(o:Obj) (kvs:List (Key×V)):It:=
 ⟨λi H=>H d=some (.du o (.dK kvs))/\i<kvs.length,λi H x H'=>∃T kv,x=.ref T/\H T=none/\kvs[i]?=some kv/\H'=upd H T (.tup [kV kv.1,kv.2]),λi H=>H d=some (.du o (.dK kvs))/\i=kvs.length⟩
theorem yf:entryFor table "dict_itemiterator.__iter__" = some Builtin.«dict_keyiterator.__iter__»:=entryFor_alias (id':="dict_keyiterator.__iter__") (by kernel_rfl) rfl (by decide+kernel) (by kernel_rfl)
theorem GF{P:Program}{w:World}{K:W.Frag}{R9:List Expr}{kk:Nat}{tp:Pos}{d it:Addr}{o:Obj}{es:Array DictEntry}{ep:Nat}{kvs:List (Key×V)}(hd:o.data=.dict es ep) (hne:d≠it):Turn P w K (.Tuple R9 kk tp) (JP d o kvs) [it] it (λi h=>∃ok ov,IsItemIter h it d i kvs.length ep ok ov) where
 mem:=by simp
 obj:=λi h st b hb=>by
  have e:b=it:=by simpa using hb
  subst e
  obtain⟨ok,ov,e⟩:=st
  exact⟨_,e,λv z=>by
   have z':Data.fields _=Data.cell v:=z
   cases z'⟩
 keep:=λi h h' st k=>let ⟨ok,ov,e⟩:=st; ⟨ok,ov,k it (by simp) _ e⟩
 item:=by
  intro X hP hw hK hc i pins s σ H E I hf st hg
  subst hP hw hK
  obtain⟨g1,g2⟩:=hg
  obtain⟨ho,z,hs,vs,rel,o',Av,Aw,i9,r'⟩:=(show bU X.prog X.w H s.heap d (.du o (.dK kvs)) from I.hok d _ g1)
  rw[ho]at i9
  cases i9
  have oy:=r'.2.1
  rw[hd]at oy
  cases oy
  have hl:kvs.length=vs.length:=rel.length
  obtain⟨ok,ov,hit⟩:=st
  have gv:i<vs.length:=by lia
  have JD:kvs[i]?=some kvs[i]:=aab g2
  have ev:vs[i]?=some (vs[i].1,vs[i].2):=aab gv
  obtain⟨RS,mJ⟩:=lU rel JD ev
  rw[hl]at hit
  refine wpAny_pyNext_items_item (knd:=bj X.prog X.w) hit ⟨o,es,ho,r'⟩ ev λkey h' lE hO hT hsz hk=>?_
  refine⟨.ref s.heap.objs.size,rfl,?_⟩
  refine wpAny_letOwnedTupleGo_items hO λh2 Ew oW=>?_
  have Ja:s.heap.objs.size≠it:=ad4 (aaw hit)
  have yR:h2.get? s.heap.objs.size=some {cls:=.type "tuple",data:=.seq #[key,vs[i].2] }:=(oW.2 _ Ja).trans hT
  have I1:Inv X pins σ (upd H s.heap.objs.size (.tup [kV kvs[i].1,kvs[i].2])) {s with heap:=h2,toks:=s.toks}:=I.x8 (its:=[key,vs[i].2]) hf (λb o hb e1=>by
   have b1:b≠it:=λz=>hb (by simp[z])
   exact(oW.2 b b1).trans (hk b o b1 e1)) (aaf _) ⟨_,yR,rfl,_,rfl⟩ (.cons (by rw[RS];exact Gs lE) (.cons mJ .nil)) (by show 2<=sizeLine;decide)
  have fr:H s.heap.objs.size=none:=I.hok.fresh (aaf _)
  refine⟨.ref s.heap.objs.size,_,I1,rfl,⟨s.heap.objs.size,kvs[i],rfl,fr,JD,rfl⟩,⟨_,_,by rw[hl];exact Ew⟩,λb hb=>?_⟩
  have kN:=(hf b hb).1
  have e:b=it:=by simpa using hb
  rw[ag (by rw[e];exact aax Ja)]
  exact kN
 done:=by
  intro X hP hw hK hc i pins s σ H E I hf st hg
  subst hP hw hK
  obtain⟨g1,g2⟩:=hg
  subst g2
  obtain⟨ho,z,hs,vs,rel,o',Av,Aw,i9,r'⟩:=(show bU X.prog X.w H s.heap d (.du o (.dK kvs)) from I.hok d _ g1)
  rw[ho]at i9
  cases i9
  have oy:=r'.2.1
  rw[hd]at oy
  cases oy
  have hl:kvs.length=vs.length:=rel.length
  obtain⟨ok,ov,hit⟩:=st
  rw[hl]at hit
  exact wpAny_pyNext_items_end (knd:=bj X.prog X.w) (I.ok.hd hc) hit ⟨o,es,ho,r'⟩ (by simp) λh' eb=>⟨rfl,I.xZ (t':=s.toks) hf λb o hb e1=>eb b o (λz=>hb (by simp[z])) e1⟩
 self:=λA i s Q E st h=>by
  obtain⟨ok,ov,hit⟩:=st
  have hT:s.TypeIs (.ref it) "dict_itemiterator":=⟨_,hit,rfl⟩
  refine wpAny_pyIter_slot hT aft (adT aft hT yf ?_ (F.args_dict_itemiterator_iter_1 _))
  show wpAny _ _ (ret (.ref it)) _ _ s
  exact aao ⟨_,rfl, "dict_itemiterator",_,hT,F.slot_dict_itemiterator_next.lookup,h⟩
section
variable {X:Cx}
def Sa(td:TE):TI:=λσ H R=>td σ H λx H1=>∃d kvs,x=.ref d/\H1 d=some (.dK kvs)/\∀o,R (JP d o kvs) (upd H1 d (.du o (.dK kvs)))
theorem LJ{R9:List Expr}{kk:Nat}{tp:Pos}{o:Expr}{to:TE}{apos eY:Pos}(ho:PE X o to)
 (wb:attributeBase o "items" X.env (eval o X.env)=eval o X.env:=by rfl) (we:(apos.endLine == eY.line)=true:=by rfl):PI X (.Tuple R9 kk tp) (.Call (.Attribute o "items" apos) [] [] eY) (Sa to):=by
 intro pins s σ H R I h
 refine af8 wb we (aO (ho pins s σ H _ I h) λv s1 ⟨x,H1,I1,r1,d,kvs,e,hd,q⟩=>?_)
 subst e
 cases(show v=Value.ref d from r1)
 obtain⟨h1,h2⟩:=AY (T:="dict") (x:=.ref d) I1 rfl (.inr (.inr (.inl ⟨rfl,.inl ⟨_,hd⟩⟩)))
 refine⟨"dict", "dict.items",aep,agc,PySem.F.type_dict_items,h1,h2,aed rfl (agV ?_)⟩
 obtain⟨z,hm,vs,rel,dd⟩:=uc I1.hok hd
 obtain⟨ob,es,ep,Sb,r⟩:=id dd
 have hlen:kvs.length=vs.length:=rel.length
 obtain⟨o',i9,I2⟩:=I1.freeze hd
 rw[Sb]at i9
 cases i9
 refine afo agc h1 PySem.F.entry_dict_items (PySem.F.args_dict_items_1 _) (meets_dict_items (bj X.prog X.w) d hm) ⟨⟨vs,dd⟩,?_⟩
 have eE:d<s1.heap.objs.size:=aaw Sb
 refine wpAny_pyIter_items (knd:=bj X.prog X.w) (kvs:=vs) (ep:=ep) (d:=d) ⟨_,aaq _ rfl,rfl,rfl⟩ ⟨ob,es,aac _ Sb,r⟩ ?_
 have I3:Inv X pins σ (upd H1 d (.du ob (.dK kvs))) {s1 with heap:=s1.heap.push {cls:=.type "dict_items",data:=.fields #[.ref d] } }:=I2.kept (t':=s1.toks) λb o e=>aac _ e
 have I4:=I3.kept (h':=(s1.heap.push {cls:=.type "dict_items",data:=.fields #[.ref d] }).push {cls:=.type "dict_itemiterator",data:=.fields #[.none,.bool false,.ref d,.int 0 0,.int vs.length 0,.int ep 0,.none,.none] }) (t':=s1.toks) λb o e=>aac _ e
 refine⟨(s1.heap.push {cls:=.type "dict_items",data:=.fields #[.ref d] }).objs.size,[(s1.heap.push {cls:=.type "dict_items",data:=.fields #[.ref d] }).objs.size],_,_,_,rfl,I4,GF (es:=es) (ep:=ep) (o:=ob) (kvs:=kvs) r.2.1 (aaD (by rw[adz];exact adL eE)),?_,?_,q ob⟩
 . refine⟨.none,.none,?_⟩
   show Heap.get? _ _=_
   rw[hlen]
   exact aaq _ rfl
 . intro b hb
   have e:b=(s1.heap.push {cls:=.type "dict_items",data:=.fields #[.ref d] }).objs.size:=by simpa using hb
   subst e
   exact I3.qy (aaf _) (I3.hok.fresh (aaf _))
def Sd(FJ:Hp)(t:TS):TS:=λD σ H=>t {D with nx:=λDR H1=>∃d o kvs,H1 d=some (.du o (.dK kvs))/\(∀o' u,FJ d≠some (.du o' u))/\D.nx DR (upd H1 d (.dK kvs))} σ H
theorem PF{st:Stmt}{t:TS}(h:PS X st t):PS X st (Sd X.FJ t):=by
 intro pins s σ H D I q
 refine aO (h pins s σ H _ I q) λf s1 hf=>?_
 cases f with
 | next=>
  obtain⟨DR,H1,I1,d,o,kvs,e,hn,q1⟩:=hf
  exact⟨DR,_,I1.abG e hn,q1⟩
 | _=>exact hf
theorem JQ{d:Addr}{o:Obj}{kvs:List (Key×V)}{g:TG}{tb:TS}{D:Ends}{σ:St}{H:Hp}(Pv:Nat->St->Hp->Prop) (h0:Pv 0 σ H) (hl:∀i σ H,i<=kvs.length->Pv i σ H->H d=some (.du o (.dK kvs)))
 (hs:∀i kv T σ H,kvs[i]?=some kv->H T=none->Pv i σ H->g (.ref T) σ (upd H T (.tup [kV kv.1,kv.2])) λiZ H2=>tb {D with nx:=Pv (i+1),ct:=Pv (i+1),bk:=D.nx} iZ H2) (hd:∀σ H,Pv kvs.length σ H->D.nx σ H) :
 ∃W:Nat->Nat->St->Hp->Prop,(∃m,W 0 m σ H)/\∀i m σ H,W i m σ H->
  ((JP d o kvs).stop i H/\D.nx σ H)\/((JP d o kvs).go i H/\∃N:St->Hp->Prop,(∀cm H',N cm H'->∃m',m'<m/\W (i+1) m' cm H')/\∀x H',(JP d o kvs).yld i H x H'->g x σ H' λiZ H2=>tb {D with nx:=N,ct:=N,bk:=D.nx} iZ H2):=by
 refine⟨λi m σ H=>m=kvs.length-i/\i<=kvs.length/\Pv i σ H,⟨kvs.length,by simp,aaO _,h0⟩,?_⟩
 rintro i m σ H ⟨rfl,hi,p⟩
 have q:=hl i σ H hi p
 by_cases eE:i<kvs.length
 . refine .inr ⟨⟨q,eE⟩,Pv (i+1),λcm H' p'=>⟨kvs.length-(i+1),by lia,rfl,eE,p'⟩,λx H' y=>?_⟩
   obtain⟨T,kv,rfl,hT,aY,rfl⟩:=y
   exact hs i kv T σ _ aY hT p
 . obtain rfl:i=kvs.length:=by lia
   exact .inl ⟨⟨q,rfl⟩,hd σ H p⟩
end
end L2
namespace Gen
open PySem L2
abbrev GG:Stmt:=inClass (top 2) 0
structure iD(mg:Str->Option Value):Prop where
 len:mg "len" = none
 list:mg "list" = none
 dict:mg "dict" = none
 tuple:mg "tuple" = none
 str:mg "str" = none
 int:mg "int" = none
 bool:mg "bool" = none
 zip:mg "zip" = none
 all:mg "all" = none
 isi:mg "isinstance" = none
 min:mg "min" = none
 rev:mg "reversed" = none
 max:mg "max" = none
structure LK where
 sw:List Str
 kp:List (Key×V)
 gt:List Addr
 nx:List (Key×V)
 nv:List (Key×V)
 sm:List (Key×V)
structure zz(H:Hp) (F:LK) (f1 f2 f3 f4 f5 f6:Addr):Prop where
 h1:H f1=some (.lst (F.sw.map V.str))
 h2:H f2=some (.dK F.kp)
 h3:H f3=some (.lst (F.gt.map V.ref))
 h4:H f4=some (.dK F.nx)
 h5:H f5=some (.dK F.nv)
 h6:H f6=some (.dK F.sm)
theorem zz.keep(h:zz H F f1 f2 f3 f4 f5 f6)(k:∀b∈[f1,f2,f3,f4,f5,f6],∀o,H b=some o->H' b=some o):zz H' F f1 f2 f3 f4 f5 f6:=
 ⟨k f1 (by simp) _ h.h1,k f2 (by simp) _ h.h2,k f3 (by simp) _ h.h3,k f4 (by simp) _ h.h4,k f5 (by simp) _ h.h5,k f6 (by simp) _ h.h6⟩
theorem zz.same{H H':Hp}{F:LK}{f1 f2 f3 f4 f5 f6:Addr}(h:zz H F f1 f2 f3 f4 f5 f6)(k:ak H H'):zz H' F f1 f2 f3 f4 f5 f6:=h.keep λb _ o e=>k b o e
structure qP(K:W.Frag) (mg:Str->Option Value) (C:Addr):Prop where
 cl:jQ K C
 n1:aM K C "switches"
 n2:aM K C "keepers"
 n3:aM K C "gates"
 n4:aM K C "nexts"
 n5:aM K C "nevers"
 n6:aM K C "somes"
 mgC:mg "Machine" = some (.ref C)
def qQ(f1 f2 f3 f4 f5 f6:Addr):List (Str×V):=aj "somes" (.ref f6) (aj "nevers" (.ref f5) (aj "nexts" (.ref f4) (aj "gates" (.ref f3) (aj "keepers" (.ref f2) (aj "switches" (.ref f1) [])))))
section
variable (f1 f2 f3 f4 f5 f6:Addr)
theorem BL:(qQ f1 f2 f3 f4 f5 f6).lookup ("switches" : Str)=some (.ref f1):=by kernel_rfl
theorem BM:(qQ f1 f2 f3 f4 f5 f6).lookup ("keepers" : Str)=some (.ref f2):=by kernel_rfl
theorem JR:(qQ f1 f2 f3 f4 f5 f6).lookup ("gates" : Str)=some (.ref f3):=by kernel_rfl
theorem Se:(qQ f1 f2 f3 f4 f5 f6).lookup ("nexts" : Str)=some (.ref f4):=by kernel_rfl
theorem Sf:(qQ f1 f2 f3 f4 f5 f6).lookup ("nevers" : Str)=some (.ref f5):=by kernel_rfl
end
theorem aw{f:Str}{v:V}{fs:List (Str×V)}{n:Nat}(h:fs.length<=n):(aj f v fs).length<=n+1:=aam (lS f v fs) (aer h)
theorem iY(h:n<=m)(hm:m<1000):n<1000:=adH h hm
theorem bZ{H:Hp}{p g C dx:Addr}{o:HO}{fs fs':List (Str×V)}(hp:H p=some (.ins C dx fs)) (hg:H g=none) :
 (upd (upd H g o) p (.ins C dx fs')) p=some (.ins C dx fs')/\(upd (upd H g o) p (.ins C dx fs')) g=some o/\(upd H g o) p=some (.ins C dx fs)/\∀b u,H b=some u->b≠p->(upd (upd H g o) p (.ins C dx fs')) b=some u:=by
 have n:=ae hp hg
 refine⟨af,by rw[ag (aax n),af],by rw[ag n];exact hp,λb u hb nb=>by rw[ag nb,ag (ae hb hg)];exact hb⟩
abbrev ur:List Str:=["self", "switches", "keepers", "gates", "nexts", "nevers", "somes"]
inductive EN(C:Addr) (vs:List V) (H:Hp) (Q:VK):Prop
 | mk (p dx s1 s2 s3 s4 s5 s6:Addr) (F:LK) (h1:vs=[.ref p,.ref s1,.ref s2,.ref s3,.ref s4,.ref s5,.ref s6]) (h2:H p=some (.ins C dx [])) (h3:zz H F s1 s2 s3 s4 s5 s6) (h4:∀(g1 g2 g3 g4 g5 g6:Addr) (H':Hp),(∀g∈[g1,g2,g3,g4,g5,g6],H g=none)->[g1,g2,g3,g4,g5,g6].Nodup->H' p=some (.ins C dx (qQ g1 g2 g3 g4 g5 g6))->zz H' F g1 g2 g3 g4 g5 g6->aU H H' p->Q .aV H'):EN C vs H Q
def JS(C:Addr):Sp:=λvs H Q _=>EN C vs H Q
theorem cJ{H H':Hp}{p g:Addr}(k:∀b u,H b=some u->b≠p->H' b=some u)(hg:H' g=none)(np:g≠p):H g=none:=by
 cases e:H g with
 | none=>rfl
 | some o=>rw[k g o e np]at hg;cases hg
section
variable {P:Program}{w:World}{K:W.Frag}{mg:Str->Option Value}{base:Heap}
theorem Sg:aJ ur ur (az GG):=fs
theorem PH(F:aK K "__init__" "Machine.__init__" GG f fd)(T:qP K mg C)(O:iD mg):ax P w K mg base aB 1 f fd ur (JS C):=by
 refine F.run Sg λcdv A outer s H vs Q E hr h=>?_
 . obtain⟨p,dx,s1,s2,s3,s4,s5,s6,F,rfl,hp,hF,kk⟩:=h
   refine⟨_,ai (cX (pv 0) (bK jo (by rfl) O.list adw (aa (pv 1) ah)) rfl)
    (ai (cX (pv 0) (bK iT (by rfl) O.dict ade (aa (pv 2) ah)) rfl)
    (ai (cX (pv 0) (bK jo (by rfl) O.list adw (aa (pv 3) ah)) rfl)
    (ai (cX (pv 0) (bK iT (by rfl) O.dict ade (aa (pv 4) ah)) rfl)
    (ai (cX (pv 0) (bK iT (by rfl) O.dict ade (aa (pv 5) ah)) rfl)
    (au (cX (pv 0) (bK iT (by rfl) O.dict ade (aa (pv 6) ah)) rfl)))))),?_⟩
   have np:∀{b:Addr}{u:HO},H b=some u->(∀C dx fs,u≠.ins C dx fs)->b≠p:=λhb hu z=>by
    rw[z,hp]at hb
    exact hu _ _ _ (aay hb).symm
   have m1:s1≠p:=np hF.h1 (λ_ _ _ z=>by cases z)
   have m2:s2≠p:=np hF.h2 (λ_ _ _ z=>by cases z)
   have m3:s3≠p:=np hF.h3 (λ_ _ _ z=>by cases z)
   have m4:s4≠p:=np hF.h4 (λ_ _ _ z=>by cases z)
   have m5:s5≠p:=np hF.h5 (λ_ _ _ z=>by cases z)
   have m6:s6≠p:=np hF.h6 (λ_ _ _ z=>by cases z)
   refine⟨_,rfl,s1,_,rfl,.inl (ar.of hF.h1),λg1 e1=>?_⟩
   obtain⟨p1,q1,r1,k1⟩:=bZ (o:=.lst (F.sw.map V.str)) (fs':=aj "switches" (.ref g1) []) hp e1
   have b1:g1≠p:=(ae hp e1).symm
   refine⟨_,rfl,p,C,dx,[],rfl,r1,T.cl,T.n1,(by show 0<1000;decide),?_⟩
   generalize upd (upd H g1 (.lst (F.sw.map V.str))) p (.ins C dx (aj "switches" (.ref g1) []))=H1 at p1 q1 k1 ⊢
   refine⟨_,rfl,s2,_,rfl,.inl (k1 _ _ hF.h2 m2),λg2 e2=>?_⟩
   obtain⟨p2,q2,r2,k2⟩:=bZ (o:=.dK F.kp) (fs':=aj "keepers" (.ref g2) (aj "switches" (.ref g1) [])) p1 e2
   have b2:g2≠p:=(ae p1 e2).symm
   refine⟨_,rfl,p,C,dx,_,rfl,r2,T.cl,T.n2,iY (aw (aaf _)) (by show 1<1000;decide),?_⟩
   generalize upd (upd H1 g2 (.dK F.kp)) p (.ins C dx (aj "keepers" (.ref g2) (aj "switches" (.ref g1) [])))=H2 at p2 q2 k2 ⊢
   refine⟨_,rfl,s3,_,rfl,.inl (ar.of (k2 _ _ (k1 _ _ hF.h3 m3) m3)),λg3 e3=>?_⟩
   obtain⟨p3,q3,r3,k3⟩:=bZ (o:=.lst (F.gt.map V.ref)) (fs':=aj "gates" (.ref g3) (aj "keepers" (.ref g2) (aj "switches" (.ref g1) []))) p2 e3
   have b3:g3≠p:=(ae p2 e3).symm
   refine⟨_,rfl,p,C,dx,_,rfl,r3,T.cl,T.n3,iY (aw (aw (aaf _))) (by show 2<1000;decide),?_⟩
   generalize upd (upd H2 g3 (.lst (F.gt.map V.ref))) p (.ins C dx (aj "gates" (.ref g3) (aj "keepers" (.ref g2) (aj "switches" (.ref g1) []))))=H3 at p3 q3 k3 ⊢
   refine⟨_,rfl,s4,_,rfl,.inl (k3 _ _ (k2 _ _ (k1 _ _ hF.h4 m4) m4) m4),λg4 e4=>?_⟩
   obtain⟨p4,q4,r4,k4⟩:=bZ (o:=.dK F.nx) (fs':=aj "nexts" (.ref g4) (aj "gates" (.ref g3) (aj "keepers" (.ref g2) (aj "switches" (.ref g1) [])))) p3 e4
   have b4:g4≠p:=(ae p3 e4).symm
   refine⟨_,rfl,p,C,dx,_,rfl,r4,T.cl,T.n4,iY (aw (aw (aw (aaf _)))) (by show 3<1000;decide),?_⟩
   generalize upd (upd H3 g4 (.dK F.nx)) p (.ins C dx (aj "nexts" (.ref g4) (aj "gates" (.ref g3) (aj "keepers" (.ref g2) (aj "switches" (.ref g1) [])))))=H4 at p4 q4 k4 ⊢
   refine⟨_,rfl,s5,_,rfl,.inl (k4 _ _ (k3 _ _ (k2 _ _ (k1 _ _ hF.h5 m5) m5) m5) m5),λg5 e5=>?_⟩
   obtain⟨p5,q5,r5,k5⟩:=bZ (o:=.dK F.nv) (fs':=aj "nevers" (.ref g5) (aj "nexts" (.ref g4) (aj "gates" (.ref g3) (aj "keepers" (.ref g2) (aj "switches" (.ref g1) []))))) p4 e5
   have b5:g5≠p:=(ae p4 e5).symm
   refine⟨_,rfl,p,C,dx,_,rfl,r5,T.cl,T.n5,iY (aw (aw (aw (aw (aaf _))))) (by show 4<1000;decide),?_⟩
   generalize upd (upd H4 g5 (.dK F.nv)) p (.ins C dx (aj "nevers" (.ref g5) (aj "nexts" (.ref g4) (aj "gates" (.ref g3) (aj "keepers" (.ref g2) (aj "switches" (.ref g1) []))))))=H5 at p5 q5 k5 ⊢
   refine⟨_,rfl,s6,_,rfl,.inl (k5 _ _ (k4 _ _ (k3 _ _ (k2 _ _ (k1 _ _ hF.h6 m6) m6) m6) m6) m6),λg6 e6=>?_⟩
   obtain⟨p6,q6,r6,k6⟩:=bZ (o:=.dK F.sm) (fs':=qQ g1 g2 g3 g4 g5 g6) p5 e6
   have b6:g6≠p:=(ae p5 e6).symm
   refine⟨_,rfl,p,C,dx,_,rfl,r6,T.cl,T.n6,iY (aw (aw (aw (aw (aw (aaf _)))))) (by show 5<1000;decide),?_⟩
   refine kk g1 g2 g3 g4 g5 g6 _ ?_ ?nd p6 ⟨k6 _ _ (k5 _ _ (k4 _ _ (k3 _ _ (k2 _ _ q1 b1) b1) b1) b1) b1,k6 _ _ (k5 _ _ (k4 _ _ (k3 _ _ q2 b2) b2) b2) b2,k6 _ _ (k5 _ _ (k4 _ _ q3 b3) b3) b3,k6 _ _ (k5 _ _ q4 b4) b4,k6 _ _ q5 b5,q6⟩
    (λb o hb nb=>k6 _ _ (k5 _ _ (k4 _ _ (k3 _ _ (k2 _ _ (k1 _ _ hb nb) nb) nb) nb) nb) nb)
   have z1:∀{g},g≠p->H1 g=none->H g=none:=λn e=>cJ k1 e n
   have z2:∀{g},g≠p->H2 g=none->H g=none:=λn e=>z1 n (cJ k2 e n)
   have z3:∀{g},g≠p->H3 g=none->H g=none:=λn e=>z2 n (cJ k3 e n)
   have z4:∀{g},g≠p->H4 g=none->H g=none:=λn e=>z3 n (cJ k4 e n)
   have z5:∀{g},g≠p->H5 g=none->H g=none:=λn e=>z4 n (cJ k5 e n)
   case nd=>
    have NU:=ae q1 e2
    have d13:=ae (k2 _ _ q1 b1) e3
    have d14:=ae (k3 _ _ (k2 _ _ q1 b1) b1) e4
    have NV:=ae (k4 _ _ (k3 _ _ (k2 _ _ q1 b1) b1) b1) e5
    have NW:=ae (k5 _ _ (k4 _ _ (k3 _ _ (k2 _ _ q1 b1) b1) b1) b1) e6
    have NY:=ae q2 e3
    have d24:=ae (k3 _ _ q2 b2) e4
    have d25:=ae (k4 _ _ (k3 _ _ q2 b2) b2) e5
    have NZ:=ae (k5 _ _ (k4 _ _ (k3 _ _ q2 b2) b2) b2) e6
    have d34:=ae q3 e4
    have d35:=ae (k4 _ _ q3 b3) e5
    have d36:=ae (k5 _ _ (k4 _ _ q3 b3) b3) e6
    have d45:=ae q4 e5
    have d46:=ae (k5 _ _ q4 b4) e6
    have d56:=ae q5 e6
    simp only[aaP,aaj,aat,adg,afq,adN,ahp,ahi]
    exact⟨⟨NU,d13,d14,NV,NW⟩,⟨NY,d24,d25,NZ⟩,⟨d34,d35,d36⟩,⟨d45,d46⟩,d56⟩
   intro g hg
   simp only[aaj,aat,adg]at hg
   rcases hg with rfl|rfl|rfl|rfl|rfl|rfl
   . exact e1
   . exact z1 b2 e2
   . exact z2 b3 e3
   . exact z3 b4 e4
   . exact z4 b5 e5
   . exact z5 b6 e6
end
theorem pZ(z:Str):z=⟨z.cps.toList.toArray⟩:=by cases z;simp
theorem jv(x:Str):(("~" : Str)++x).cps.toList=126::x.cps.toList:=by
 have e:("~" : Str)=⟨#[126]⟩:=dk
 rw[e]
 show (#[126]++x.cps).toList=_
 simp
def dY(l:List (Str×V)):List (Key×V):=l.map λr=>((.inr r.1:Key),r.2)
def dc(l:List (Str×Str)):List (Key×V):=l.map λr=>((.inr r.1:Key),V.str r.2)
theorem qR(n:Str):∀l:List (Str×V),(aG (dY l) (.inr n)).isSome=decide (n∈l.map (·.1))
 | []=>by simp[dY,aG]
 | r::l=>by
  have ih:=qR n l
  by_cases e:r.1=n
  . have h1:aG (dY (r::l)) (.inr n)=some r.2:=cZ (p:=((.inr r.1:Key),r.2)) (by rw[e])
    rw[h1]
    simp[e]
  . have h1:aG (dY (r::l)) (.inr n)=aG (dY l) (.inr n):=cz (p:=((.inr r.1:Key),r.2)) (λq=>e (adC q))
    rw[h1,ih]
    have:¬ n=r.1:=λq=>e q.symm
    simp[this]
theorem N0(l:List (Str×Str)):dc l=dY (l.map λr=>(r.1,V.str r.2)):=by unfold dc dY;rw[adV];rfl
theorem LL(h:n∉l.map (·.1)):aG (dc l) (.inr n)=none:=by
 have:=qR n (l.map λr=>(r.1,V.str r.2))
 rw[← N0,adV,aaH (by simpa using h)]at this
 cases e:aG (dc l) (.inr n) with
 | none=>rfl
 | some v=>rw[e]at this;cases this
theorem qS(h:bp z):¬ z.cps.toList[0]?=some 126:=λe=>by
 have:=lT.mp (h.2.2 126 (aaK e))
 lia
def GH(z:Str):Prop:=z = "0" \/ z = "1" \/ bp z\/∃x,bp x/\z = "~" ++ x
theorem GH.len{z:Str}(h:GH z):1<=z.length/\z.length<=9:=by
 rcases h with rfl|rfl|h|⟨x,hx,rfl⟩
 . decide+kernel
 . decide+kernel
 . refine⟨?_,aam h.len (by decide)⟩
   have:=h.1
   simpa[Str.length]using this
 . have e:=wC "~" x
   have t1:("~" : Str).length=1:=dk
   have:=hx.len
   lia
theorem neS{a b:Str}{A B:Prop}(h:a≠b)(q:B):if decide (V.str a=V.str b)=true then A else B:=by
 rw[aaH (λe=>h (V.str.inj e))]
 exact kL q
theorem eqS{a:Str}{A B:Prop}(q:A):if decide (V.str a=V.str a)=true then A else B:=by
 rw[aaN rfl]
 exact qD q
theorem vm{α:Type}{l pre post:List α}{i:Nat}(h:(pre++l++post).Nodup) (hi:i<l.length):l[i]∉pre++l.take i:=by
 have e:l=l.take i++l[i]::l.drop (i+1):=by rw[← ad3 hi,adM]
 have h1:(pre++l).Nodup:=(aau.mp h).1
 have h2:((pre++l.take i)++l[i]::l.drop (i+1)).Nodup:=by rw[ady,← e];exact h1
 intro hm
 exact(aau.mp h2).2.2 _ hm _ aas rfl
theorem iz.same{H H':Hp}{m:Addr}{M:aQ}{a1 a2 a3 a4 a5 a6:Addr}(h:iz H m M a1 a2 a3 a4 a5 a6)(s:ak H H'):iz H' m M a1 a2 a3 a4 a5 a6:=
 ⟨s _ _ h.top,s _ _ h.sw,h.kp.same s,h.gt.same s,h.nx.same s,h.nv.same s,h.sm.same s⟩
theorem YC:j8 (x::r) 0=some x:=aF (j:=0) rfl
def jf(vv:List (Str×Int)):List (Key×V):=vv.map λr=>((.inr r.1:Key),V.int r.2)
def d7(vv:List (Str×Int)) (n:Str):Int:=((vv.find? λr=>decide (r.1=n)).map (·.2)).getD 0
theorem Xs(vv:List (Str×Int)):jf vv=dY (vv.map λr=>(r.1,V.int r.2)):=by unfold jf dY;rw[adV];rfl
theorem LM(h:n∉l.map (·.1)):aG (jf l) (.inr n)=none:=by
 have:=qR n (l.map λr=>(r.1,V.int r.2))
 rw[← Xs,adV,aaH (by simpa using h)]at this
 cases e:aG (jf l) (.inr n) with
 | none=>rfl
 | some v=>rw[e]at this;cases this
theorem BN:∀{l:List (Str×Int)},n∈l.map (·.1)->aG (jf l) (.inr n)=some (.int (d7 l n))
 | [],h=>by cases h
 | r::l,h=>by
  by_cases e:r.1=n
  . have h1:aG (jf (r::l)) (.inr n)=some (.int r.2):=cZ (p:=((.inr r.1:Key),V.int r.2)) (by rw[e])
    rw[h1]
    unfold d7
    rw[aev (by simpa using e)]
    rfl
  . have h1:aG (jf (r::l)) (.inr n)=aG (jf l) (.inr n):=cz (p:=((.inr r.1:Key),V.int r.2)) (λq=>e (adC q))
    rw[h1,BN (l:=l) (by
     rw[aaB,aaj]at h
     rcases h with h|h
     . exact absurd h.symm e
     . exact h)]
    unfold d7
    rw[afg (by simpa using e)]
def dQ(vv:List (Str×Int)) (l:Str):Int:=if l = "0" then 0 else if l = "1" then 1 else if l.cps.toList[0]?=some 126 then 1-d7 vv ⟨l.cps.toList.tail.toArray⟩ else d7 vv l
def qU(vv:List (Str×Int)) (l:Str):Prop:=l = "0" \/ l = "1" \/ (bp l/\l∈vv.map (·.1))\/∃x,bp x/\x∈vv.map (·.1)/\l = "~" ++ x
theorem wX(vv:List (Str×Int)):dQ vv "0" = 0:=by rw[dQ,aaF rfl]
theorem wY(vv:List (Str×Int)):dQ vv "1" = 1:=by rw[dQ,aaz dk,aaF rfl]
theorem uu(h:bp z):z ≠ "0" /\ z ≠ "1" /\ ¬ z.cps.toList[0]?=some 126:=by
 have hl:∀c,z.cps.toList[0]?=some c->97<=c:=λc e=>(lT.mp (h.2.2 c (aaK e))).1
 refine⟨λe=>?_,λe=>?_,qS h⟩
 . have:=hl 48 (by rw[e];decide+kernel)
   lia
 . have:=hl 49 (by rw[e];decide+kernel)
   lia
theorem BO(x:Str):("~" : Str)++x ≠ "0" /\ ("~" : Str)++x ≠ "1":=by
 have hl:=jv x
 refine⟨λe=>?_,λe=>?_⟩
 . rw[e]at hl
   have:(("0" : Str).cps.toList)[0]?=some 48:=dk
   rw[hl]at this
   exact absurd this (by simp)
 . rw[e]at hl
   have:(("1" : Str).cps.toList)[0]?=some 49:=dk
   rw[hl]at this
   exact absurd this (by simp)
theorem ko(h:bp z):dQ vv z=d7 vv z:=by
 obtain⟨a,b,c⟩:=uu h
 rw[dQ,aaz a,aaz b,aaz c]
theorem nI:dQ vv ("~" ++ x)=1-d7 vv x:=by
 obtain⟨a,b⟩:=BO x
 rw[dQ,aaz a,aaz b,jv,aaF (show (126::x.cps.toList)[0]?=some 126 from rfl)]
 rw[show (⟨(126::x.cps.toList).tail.toArray⟩:Str)=x from(pZ x).symm]
def tm(vv:List (Str×Int)):Prop:=∀r∈vv,r.2=0\/r.2=1
theorem tw(h:tm vv)(n:Str):d7 vv n=0\/d7 vv n=1:=by
 unfold d7
 cases e:vv.find? λr=>decide (r.1=n) with
 | none=>exact .inl rfl
 | some r=>exact h r (aeS e)
theorem jw(h:tm vv)(l:Str):dQ vv l=0\/dQ vv l=1:=by
 unfold dQ
 split
 . exact .inl rfl
 . split
   . exact .inr rfl
   . split
     . rcases tw h ⟨l.cps.toList.tail.toArray⟩ with e|e <;> rw[e]
       . exact .inr rfl
       . exact .inl rfl
     . exact tw h l
def gU(acc:List (Str×Int)) (g:Str×Str×Str):List (Str×Int):=acc++[(g.1,dQ acc g.2.1*dQ acc g.2.2)]
def wZ(M:aQ)(bs cs:List Int):List (Str×Int):=M.switches.zip bs++(M.keepers.map (·.1)).zip cs
def cH(M:aQ)(bs cs:List Int)(i:Nat):List (Str×Int):=(M.gates.take i).foldl gU (wZ M bs cs)
theorem zA:∀(gs:List (Str×Str×Str)) (acc:List (Str×Int)),(gs.foldl gU acc).map (·.1)=acc.map (·.1)++gs.map (·.1)
 | [],acc=>by simp
 | g::gs,acc=>by
  rw[ae7,zA gs,gU,aah,aaB,ady]
  rfl
theorem iE{α β:Type} : ∀{l:List α}{r:List β},l.length=r.length->(l.zip r).map (·.1)=l
 | [],[],_=>rfl
 | x::l,y::r,h=>by
  rw[List.zip_cons_cons,aaB,iE (by simpa using h)]
theorem kq(h1:M.switches.length=bs.length)(h2:M.keepers.length=cs.length)(i:Nat):(cH M bs cs i).map (·.1)=M.switches++M.keepers.map (·.1)++(M.gates.take i).map (·.1):=by
 unfold cH wZ
 rw[zA,aah,iE h1,iE (by rw[aaa];exact h2)]
theorem zB(hi:i<M.gates.length):cH M bs cs (i+1)=gU (cH M bs cs i) M.gates[i]:=by
 unfold cH
 rw[adn,aab hi,af3]
 rfl
theorem BP{l:List Str}{bs:List Int}(h:∀b∈bs,b=0\/b=1):tm (l.zip bs):=λr hr=>h r.2 (afA hr).2
theorem o7{M:aQ}{bs cs:List Int}(h1:∀b∈bs,b=0\/b=1)(h2:∀b∈cs,b=0\/b=1)(i:Nat):tm (cH M bs cs i):=by
 have base:tm (wZ M bs cs):=λr hr=>by
  rcases aap.mp hr with hr|hr
  . exact BP h1 r hr
  . exact BP h2 r hr
 have all:∀(gs:List (Str×Str×Str)) (acc:List (Str×Int)),tm acc->tm (gs.foldl gU acc):=by
  intro gs
  induction gs with
  | nil=>intro acc h;exact h
  | cons g gs ih=>
   intro acc h
   refine ih _ λr hr=>?_
   rcases aap.mp hr with hr|hr
   . exact h r hr
   . rw[aaC.mp hr]
     show dQ acc g.2.1*dQ acc g.2.2=0\/dQ acc g.2.1*dQ acc g.2.2=1
     rcases jw h g.2.1 with e|e <;> rcases jw h g.2.2 with e'|e' <;> rw[e,e'] <;> simp
 exact all _ _ base
theorem yg(h:n∉acc.map (·.1)):putK (jf acc) (.inr n) (.int v)=jf (acc++[(n,v)]):=by
 rw[i5 _ (LM h)]
 unfold jf
 rw[aah]
 rfl
theorem Lit.N1(h:Lit names z)(hn:∀x∈names,bp x) (hs:∀x∈names,x∈vv.map (·.1)):qU vv z:=by
 rcases h with h|h|⟨x,hx,h|h⟩
 . exact .inl h
 . exact .inr (.inl h)
 . exact .inr (.inr (.inl ⟨h ▸ hn x hx,h ▸ hs x hx⟩))
 . exact .inr (.inr (.inr ⟨x,hn x hx,hs x hx,h⟩))
theorem qU.len{vv:List (Str×Int)}{z:Str}(h:qU vv z):1<=z.length/\z.length<=9:=by
 have hf:GH z:=by
  rcases h with h|h|⟨h,_⟩|⟨x,h,_,e⟩
  . exact .inl h
  . exact .inr (.inl h)
  . exact .inr (.inr (.inl h))
  . exact .inr (.inr (.inr ⟨x,h,e⟩))
 exact hf.len
abbrev LN:Stmt:=top 25
inductive EO(vs:List V) (H:Hp) (Q:VK):Prop
 | mk (d:Addr) (vv:List (Str×Int)) (l:Str) (h1:vs=[.ref d,.str l]) (h2:Rd H d (.dK (jf vv))) (h3:qU vv l) (h4:∀H',ak H H'->Q (.int (dQ vv l)) H'):EO vs H Q
def qc:Sp:=λvs H Q _=>EO vs H Q
theorem BQ(h:Rd H d (.dK (jf vv))) (hn:n∈vv.map (·.1)):bq H d (.str n) (some (.int (d7 vv n))):=.inl ⟨jf vv,.inr n,h,rfl,(BN hn).symm⟩
section
variable {P:Program}{w:World}{K:W.Frag}{mg:Str->Option Value}{base:Heap}
theorem Xt:aJ ["_law_values_here", "_law_literal_here"] ["_law_values_here", "_law_literal_here"] (az LN):=fs
theorem Sh(F:aK K "_law_bit" "_law_bit" LN f fd)(O:iD mg):ax P w K mg base aB 1 f fd ["_law_values_here", "_law_literal_here"] qc:=by
 refine F.run Xt λcdv A outer s H vs Q E hr h=>?_
 . obtain⟨d,vv,l,rfl,hd,hl,kk⟩:=h
   have hu:=eS hr
   have BR:l.length<=sizeLine:=aam hl.len.2 (by decide)
   refine⟨_,ai (cy (cU IG (pv 1) (fZ (aa a0 (aa a0 ah))) (by with_unfolding_all rfl)) (au (aL (bK BK (by rfl) O.int PyProof.Rows.boot_int (aa (pv 1) ah)))) ba)
    (ai (cy (cU kI (aI vY (pv 1) ao (λ_ _=>rfl)) a0 (dz _)) (au (aL (aX Ip ao (cq hu (pv 0) (iB EJ (pv 1) (jh ao) jg) (λ_ _=>rfl))))) ba)
    (au (aL (cq hu (pv 0) (pv 1) (λ_ _=>rfl))))),?_⟩
   refine⟨_,rfl,(by show 2<=sizeLine;decide),λt ht=>?_⟩
   have st:ak H (upd H t (.tup [.str "0",.str "1"])):=ak.av ht
   have hd':Rd (upd H t (.tup [.str "0",.str "1"])) d (.dK (jf vv)):=by
    rcases hd with hd|⟨o,hd⟩
    . exact .inl (st _ _ hd)
    . exact .inr ⟨o,st _ _ hd⟩
   have k0:=kk _ st
   refine⟨t,_,rfl,.inr (aR.of af),rfl,rfl,_,rfl,?_⟩
   show if wa (.str l) [.str "0",.str "1"]=true then _ else _
   have LO:l ≠ "0" -> l ≠ "1" -> wa (.str l) [.str "0",.str "1"]=false:=λa b=>by
    have:=yb l ["0", "1"]
    rw[show wa (V.str l) [.str "0",.str "1"]=decide (l∈(["0", "1"]:List Str)) from this]
    exact aaH (by simp[a,b])
   have tl:("~" : Str)=⟨#[126]⟩:=dk
   rcases hl with rfl|rfl|⟨hn,hm⟩|⟨x,hn,hm,rfl⟩
   . rw[wX]at k0
     rw[show wa (V.str "0") [.str "0",.str "1"]=true from by decide+kernel]
     exact qD ⟨_,rfl, "0",0,rfl,by decide+kernel,by decide+kernel,k0⟩
   . rw[wY]at k0
     rw[show wa (V.str "1") [.str "0",.str "1"]=true from by decide+kernel]
     exact qD ⟨_,rfl, "1",1,rfl,by decide+kernel,by decide+kernel,k0⟩
   . obtain⟨n0,n1,n2⟩:=uu hn
     rw[ko hn]at k0
     rw[LO n0 n1]
     refine kL ?_
     obtain⟨c,hc⟩:∃c,l.cps.toList[0]?=some c:=⟨_,aab (by have:=hn.1;lia)⟩
     have Xu:c≠126:=λe=>n2 (by rw[hc,e])
     refine⟨_,rfl,l,0,c,rfl,rfl,BR,aF (j:=0) hc,rfl,_,rfl,neS (λq=>Xu (by
      rw[tl]at q
      have e2:=congrArg (λs:Str=>s.cps.toList) q
      simpa using e2)) ?_⟩
     exact⟨_,rfl,_,rfl,d,_,rfl,BQ hd' hm,k0⟩
   . obtain⟨n0,n1⟩:=BO x
     rw[nI]at k0
     rw[LO n0 n1]
     refine kL ?_
     have e0:(("~" : Str)++x).cps.toList[0]?=some 126:=by rw[jv];rfl
     refine⟨_,rfl,_,0,126,rfl,rfl,BR,aF (j:=0) e0,rfl,_,rfl,?_⟩
     rw[show (⟨#[126]⟩:Str) = "~" from tl.symm]
     refine eqS ?_
     refine⟨_,rfl,_,rfl,_,rfl,_,1,rfl,rfl,rfl,BR,?_⟩
     have ts:Txt.slice (("~" : Str)++x) (some 1) none=x:=by
      rw[pZ (Txt.slice (("~" : Str)++x) (some 1) none),wW,jv]
      exact(pZ x).symm
     rw[ts]
     exact⟨d,_,rfl,BQ hd' hm,_,_,rfl,rfl,k0⟩
end
structure mK(M:aQ) (names:List Str) (bs cs:List Int):Prop where
 ok:c8 M names
 l1:M.switches.length=bs.length
 l2:M.keepers.length=cs.length
 b1:∀b∈bs,b=0\/b=1
 b2:∀b∈cs,b=0\/b=1
 n1:M.switches.length<=12
 n2:M.keepers.length<=16
 n3:M.gates.length<=60
section
variable {M:aQ}{names:List Str}{bs cs:List Int}
theorem mK.nd(h:mK M names bs cs):(M.switches++M.keepers.map (·.1)++M.gates.map (·.1)).Nodup:=by have:=h.ok.nd;rw[h.ok.all]at this;exact this
theorem mK.nm(h:mK M names bs cs):∀z∈M.switches++M.keepers.map (·.1)++M.gates.map (·.1),bp z:=λz hz=>h.ok.nm z (by rw[h.ok.all];exact hz)
theorem mK.len(h:mK M names bs cs)(i:Nat):(cH M bs cs i).length<=88:=by
 have:=congrArg List.length (kq h.l1 h.l2 i)
 simp only[aaa,aag,aaG]at this
 have:=h.n1
 have:=h.n2
 have:=h.n3
 lia
theorem mK.gate(h:mK M names bs cs)(hi:i<M.gates.length):M.gates[i].1∉(cH M bs cs i).map (·.1)/\qU (cH M bs cs i) M.gates[i].2.1/\qU (cH M bs cs i) M.gates[i].2.2:=by
 rw[kq h.l1 h.l2]
 have ER:∀x∈M.switches++M.keepers.map (·.1)++(M.gates.take i).map (·.1),bp x:=λx hx=>h.nm x (by
  rcases aap.mp hx with hx|hx
  . exact aaI _ hx
  . obtain⟨r,hr,e⟩:=aal.mp hx
    exact aar _ (aal.mpr ⟨r,adG hr,e⟩))
 obtain⟨g1,g2⟩:=h.ok.gl i _ (aab hi)
 refine⟨?_,g1.N1 ER λx hx=>by rw[kq h.l1 h.l2];exact hx,g2.N1 ER λx hx=>by rw[kq h.l1 h.l2];exact hx⟩
 have:=vm (l:=M.gates.map (·.1)) (pre:=M.switches++M.keepers.map (·.1)) (post:=[]) (by simpa using h.nd) (i:=i) (by rw[aaa];exact hi)
 rw[aeV,← aeN]at this
 exact this
end
def vn(K:W.Frag)(H:Hp)(t:Addr)(bs:List Int):Prop:=aR K H t (bs.map V.int)
theorem vn.same{K:W.Frag}{H H':Hp}{t:Addr}{bs:List Int}(h:vn K H t bs)(s:ak H H'):vn K H' t bs:=ak.j4 s h
theorem aR.keep(h:aR K H u xs) (k:∀o,(∀kvs,o≠.dK kvs)->(∀l,o≠.lst l)->H u=some o->H' u=some o):aR K H' u xs:=by
 rcases h with (h|⟨o,h⟩)|h
 . exact .inl (.inl (k _ (by intro _ z;cases z) (by intro _ z;cases z) h))
 . exact .inl (.inr ⟨o,k _ (by intro _ z;cases z) (by intro _ z;cases z) h⟩)
 . exact .inr h
abbrev yh:Stmt:=top 24
inductive zC(K:W.Frag) (vs:List V) (H:Hp) (Q:VK):Prop
 | mk (m a1 a2 a3 a4 a5 a6 st tl:Addr) (M:aQ) (names:List Str) (bs cs:List Int) (h1:vs=[.ref m,.ref st,.ref tl]) (h2:iz H m M a1 a2 a3 a4 a5 a6) (h3:mK M names bs cs) (h4:vn K H st cs) (h5:vn K H tl bs) (h6:∀d H',H d=none->ak H H'->H' d=some (.dK (jf (cH M bs cs M.gates.length)))->Q (.ref d) H'):zC K vs H Q
def oC(K:W.Frag):Sp:=λvs H Q _=>zC K vs H Q
abbrev nVs:List Str:=["_law_m", "_law_stand", "_law_told", "_law_values_here", "_law_name", "_law_bit_here", "_law_keeper", "_law_one", "_law_other"]
abbrev sf:List Str:=["_law_m", "_law_stand", "_law_told"]
theorem BS{α β:Type}{l:List α}{r:List β}{i:Nat}(h1:i<l.length)(h2:i<r.length):(l.zip r).take (i+1)=(l.zip r).take i++[(l[i],r[i])]:=by
 rw[adn,aab (by rw[ae8];lia),List.getElem_zip]
 rfl
section
variable {P:Program}{w:World}{K:W.Frag}{mg:Str->Option Value}{base:Heap}
theorem qV:aJ nVs sf (az yh):=fs
theorem JT{f fB:Addr}{fd dB:FuncData}(F:aK K "_law_values" "_law_values" yh f fd)(O:iD mg)(GB:ax P w K mg base aB 1 fB dB ["_law_values_here", "_law_literal_here"] qc) (mB:mg "_law_bit" = some (.ref fB)) (kB:W.keepIn K (.ref fB)=true) (bB:Binds K dB ["_law_values_here", "_law_literal_here"] []):ax P w K mg base aB 2 f fd sf (oC K):=by
 refine F.run qV λcdv A outer s H vs Q E hr h=>?_
 . obtain⟨m,a1,a2,a3,a4,a5,a6,st,tl,M,names,bs,cs,rfl,hM,hf,gz,rQ,kk⟩:=h
   have hu:=eS hr
   have dq:aN 1 _:=hr
   have l1:=hf.l1
   have l2:=hf.l2
   have n1:=hf.n1
   have n2:=hf.n2
   have n3:=hf.n3
   refine⟨_,ai (aP 3 qV.nd lH)
    (ai (fi ac7 rfl (EK (by rfl) O.zip (aa (cq hu (pv 0) a0 (λ_ _=>rfl)) (aa (pv 2) ah))) (ij rfl (a9 (aC (i:=4) qV.nd rfl (Or.inl rfl)) (a9 (aC (i:=5) qV.nd rfl (Or.inl rfl)) fq)))
     (au (eV hu (pv 3) (pv 4) (pv 5) rfl)))
    (ai (fi ac7 rfl (EK (by rfl) O.zip (aa (cq hu (pv 0) a0 (λ_ _=>rfl)) (aa (pv 1) ah))) (ij rfl (a9 (aC (i:=6) qV.nd rfl (Or.inl rfl)) (a9 (aC (i:=5) qV.nd rfl (Or.inl rfl)) fq)))
     (au (eV hu (pv 3) (aI cg (pv 6) ao (λ_ _=>rfl)) (pv 5) rfl)))
    (ai (fi ac7 rfl (dj (cq hu (pv 0) a0 (λ_ _=>rfl))) (ij rfl (a9 (aC (i:=4) qV.nd rfl (Or.inl rfl)) (a9 (aC (i:=7) qV.nd rfl (Or.inl rfl)) (a9 (aC (i:=8) qV.nd rfl (Or.inl rfl)) fq))))
     (au (eV hu (pv 3) (pv 4) (aX kH (dm GB dq rfl mB kB bB .nil dv (aa (pv 3) (aa (pv 7) ah))) (dm GB dq rfl mB kB bB .nil dv (aa (pv 3) (aa (pv 8) ah)))) rfl)))
    (au (aL (pv 3)))))),?_⟩
   intro d hd
   have kp:∀b o,H b=some o->b≠d:=λb o hb=>ae hb hd
   have s1:ak H (upd H d (.dK [])):=ak.av hd
   have q1:(upd H d (.dK [])) d=some (.dK (jf ((M.switches.zip bs).take 0))):=af
   generalize upd H d (.dK [])=H1 at s1 q1 ⊢
   have kX:=hM.same s1
   have ndS:M.switches.Nodup:=(aau.mp (aau.mp hf.nd).1).1
   refine⟨_,rfl,m,.ref a1,rfl,bq.k (k:=.inr "switches") kX.top,_,rfl,a1,tl,rfl,⟨_,ar.of kX.sw⟩,⟨_,ak.j4 s1 rQ⟩,EL (K:=K) (tp:=false) (tq:=true) (a:=a1) (b:=tl) (xs:=M.switches.map V.str) (ys:=bs.map V.int) (by simp only[aaa];lia)
    (λi σ H2=>∃v4 v5,σ=[some (.ref m),some (.ref st),some (.ref tl),some (.ref d),v4,v5,none,none,none]/\H2 d=some (.dK (jf ((M.switches.zip bs).take i)))/\ak H H2) ?_ ?_ ?_ ?_⟩
   . exact⟨none,none,rfl,q1,s1⟩
   . rintro i σ H2 _ ⟨_,_,_,_,s2⟩
     exact⟨ar.of (s2 _ _ hM.sw),ak.j4 s2 rQ⟩
   . rintro i xv yv Tp σ H2 hx hy hT ⟨v4,v5,rfl,hd2,s2⟩
     have hi:i<M.switches.length:=by
      have:=(aak.mp hx).1
      rwa[aaa]at this
     have BU:i<bs.length:=by lia
     have ex:xv=.str M.switches[i]:=by
      rw[aae,aab hi]at hx
      exact(aay hx).symm
     have ey:yv=.int bs[i]:=by
      rw[aae,aab BU]at hy
      exact(aay hy).symm
     subst ex ey
     have Si:d≠Tp:=ae hd2 hT
     have abM:(upd H2 Tp (.tup [.str M.switches[i],.int bs[i]])) d=some (.dK (jf ((M.switches.zip bs).take i))):=by rw[ag Si];exact hd2
     refine⟨Tp,_,rfl,aR.of af,rfl,_,_,rfl,_,_,rfl,rfl,?_⟩
     refine⟨_,rfl,_,rfl,_,rfl,d,_,rfl,gh.k (k:=.inr M.switches[i]) abM ?_,?_⟩
     . unfold jf
       rw[aaa,aaG,ae8]
       exact small (by lia)
     . refine⟨_,_,rfl,?_,λb o hb=>?_⟩
       . rw[af,yg,BS hi BU]
         rw[aeN,iE l1]
         have:=vm (pre:=[]) (post:=[]) (by simpa using ndS) hi
         simpa using this
       . rw[ag (kp b o hb),ag (ae (s2 _ _ hb) hT)]
         exact s2 _ _ hb
   rintro σ H2 ⟨v4,v5,rfl,hd2,s2⟩
   rw[aaa,adl (by rw[ae8];lia)]at hd2
   have mQ:=hM.same s2
   obtain⟨us,Sj,iP⟩:=id mQ.kp
   have zj:=iP.length
   rw[aaa]at zj
   have kY:=(aau.mp hf.nd).1
   refine⟨_,rfl,m,.ref a2,rfl,bq.k (k:=.inr "keepers") mQ.top,_,rfl,a2,st,rfl,⟨_,ar.of Sj⟩,⟨_,ak.j4 s2 gz⟩,EL (K:=K) (tp:=false) (tq:=true) (a:=a2) (b:=st) (xs:=us.map V.ref) (ys:=cs.map V.int) (by simp only[aaa];lia)
    (λi σ H3=>∃v5 v6,σ=[some (.ref m),some (.ref st),some (.ref tl),some (.ref d),v4,v5,v6,none,none]/\H3 d=some (.dK (jf (M.switches.zip bs++((M.keepers.map (·.1)).zip cs).take i)))/\(∀b o,H2 b=some o->b≠d->H3 b=some o)) ?_ ?_ ?_ ?_⟩
   . exact⟨v5,none,rfl,by rw[List.take_zero,aec];exact hd2,λ_ _ h _=>h⟩
   . rintro i σ H3 _ ⟨_,_,_,_,s3⟩
     refine⟨ar.of (s3 _ _ Sj ?_),aR.keep (ak.j4 s2 gz) λo BV _ ho=>s3 _ _ ho (aD ho hd2 (BV _))⟩
     exact aD Sj hd2 (by intro z;cases z)
   . rintro i xv yv Tp σ H3 hx hy hT ⟨YD,v6,rfl,BW,s3⟩
     have hi:i<M.keepers.length:=by
      have:=(aak.mp hx).1
      rw[aaa]at this
      lia
     have BU:i<cs.length:=by lia
     obtain⟨t,ht,RN⟩:=bx iP (i:=i) (b:=kQ M.keepers[i]) (by rw[aae,aab hi];rfl)
     have ex:xv=.ref t:=by
      rw[aae,ht]at hx
      exact(aay hx).symm
     have ey:yv=.int cs[i]:=by
      rw[aae,aab BU]at hy
      exact(aay hy).symm
     subst ex ey
     have Si:d≠Tp:=ae BW hT
     have abN:(upd H3 Tp (.tup [.ref t,.int cs[i]])) d=some (.dK (jf (M.switches.zip bs++((M.keepers.map (·.1)).zip cs).take i))):=by rw[ag Si];exact BW
     have htd:t≠d:=aD RN hd2 (by intro z;cases z)
     have YE:=s3 _ _ RN htd
     have ntT:t≠Tp:=ae YE hT
     refine⟨Tp,_,rfl,aR.of af,rfl,_,_,rfl,_,_,rfl,rfl,?_⟩
     refine⟨_,rfl,_,rfl,_,rfl,t,_,0,.str M.keepers[i].1,rfl,rfl,aR.of (by rw[ag ntT];exact YE),YC,d,_,rfl,gh.k (k:=.inr M.keepers[i].1) abN ?_,?_⟩
     . unfold jf
       simp only[aaa,aag,aaG,ae8]
       exact small (by lia)
     . refine⟨_,_,rfl,?_,λb o hb ES=>?_⟩
       . rw[af,yg]
         . rw[BS (by rw[aaa];exact hi) BU,aeV,ady]
         . rw[aah,iE l1,aeN,iE (by rw[aaa];exact l2)]
           have:=vm (l:=M.keepers.map (·.1)) (pre:=M.switches) (post:=[]) (by simpa using kY) (i:=i) (by rw[aaa];exact hi)
           rw[aeV]at this
           exact this
       . rw[ag ES,ag (ae (s3 _ _ hb ES) hT)]
         exact s3 _ _ hb ES
   rintro σ H3 ⟨YD,v6,rfl,BW,s3⟩
   rw[aaa,zj,adl (by rw[ae8,aaa];lia)]at BW
   have ox:ak H H3:=λb o hb=>s3 _ _ (s2 _ _ hb) (kp b o hb)
   have N2:=hM.same ox
   obtain⟨ts,Sk,YF⟩:=id N2.gt
   have Bw:=YF.length
   rw[aaa]at Bw
   refine⟨_,rfl,m,.ref a3,rfl,bq.k (k:=.inr "gates") N2.top,a3,rfl,⟨_,ar.of Sk⟩,lD (K:=K) (a:=a3) (xs:=ts.map V.ref) (λi σ H4=>∃v4 v7 v8,σ=[some (.ref m),some (.ref st),some (.ref tl),some (.ref d),v4,YD,v6,v7,v8]/\H4 d=some (.dK (jf (cH M bs cs i)))/\(∀b o,H3 b=some o->b≠d->H4 b=some o)) ?_ ?_ ?_ ?_⟩
   . exact⟨v4,none,none,rfl,BW,λ_ _ h _=>h⟩
   . rintro i σ H4 _ ⟨_,_,_,_,_,s4⟩
     exact ar.of (s4 _ _ Sk (aD Sk BW (by intro z;cases z)))
   . rintro i xv σ H4 hx ⟨v4',v7,v8,rfl,ET,s4⟩
     have uO:i<(ts.map V.ref).length:=(aak.mp hx).1
     rw[aaa,Bw]at uO
     obtain⟨t,ht,hT⟩:=bx YF (i:=i) (b:=ow M.gates[i]) (by rw[aae,aab uO];rfl)
     have ex:xv=.ref t:=by
      rw[aae,ht]at hx
      exact(aay hx).symm
     subst ex
     obtain⟨m9,iI,d9⟩:=hf.gate uO
     have hbt:=o7 (M:=M) hf.b1 hf.b2 i
     refine⟨t,_,rfl,aR.of (s4 _ _ hT (aD hT BW (by intro z;cases z))),rfl,_,_,rfl,_,_,rfl,_,_,rfl,rfl,?_⟩
     refine⟨_,rfl,_,rfl,d,_,_,rfl,.inl ET,iI,λH5 s5=>?_⟩
     refine⟨_,rfl,_,rfl,d,_,_,rfl,.inl (s5 _ _ ET),d9,λH6 s6=>?_⟩
     have hd6:=s6 _ _ (s5 _ _ ET)
     have hlen:=hf.len i
     refine⟨_,_,rfl,rfl,.inl ?_,?_⟩
     . rcases jw hbt M.gates[i].2.1 with e|e <;> rw[e] <;> decide
     refine⟨_,rfl,_,rfl,d,_,rfl,gh.k (k:=.inr M.gates[i].1) hd6 (by unfold jf;rw[aaa];exact small (by lia)),?_⟩
     refine⟨_,_,_,rfl,?_,λb o hb ES=>?_⟩
     . rw[af,yg m9,zB uO]
       rfl
     . rw[ag ES]
       exact s6 _ _ (s5 _ _ (s4 _ _ hb ES))
   . rintro σ H4 ⟨v4',v7,v8,rfl,ET,s4⟩
     rw[aaa,Bw]at ET
     exact⟨_,rfl,kk d H4 hd (λb o hb=>s4 _ _ (ox _ _ hb) (kp b o hb)) ET⟩
end
end Gen
namespace L2
open PySem PySem.Spec PyProof.Rows
def rev:Nat->Nat->Nat
 | 0,_=>0
 | k+1,i=>(i % 2)*2 ^ k+rev k (i / 2)
def cB(k i j:Nat):Bool:=Nat.blt (rev k i) (rev k j)
def place(c:Nat->Nat->Bool)(p:Array Nat)(lo k:Nat):Nat->Nat->Nat->Nat
 | 0,l,_=>l
 | f+1,l,r=>if l≥r then l else if c (p.getD (lo+k) 0) (p.getD (lo+(l+r) / 2) 0)=true then place c p lo k f l ((l+r) / 2) else place c p lo k f ((l+r) / 2+1) r
def j5(c:Nat->Nat->Bool)(lo:Nat):Nat->Nat->Array Nat->Array Nat
 | 0,_,p=>p
 | f+1,k,p=>j5 c lo f (k+1) (bubble p (lo+k) (lo+k-(lo+place c p lo k k 0 k)))
theorem zD{α β:Type}(f:α->β)(u v:Nat->Nat):∀(l:List Nat) (xs:Array α),l.foldl (λa k=>a.swapIfInBounds (u k) (v k)) (xs.map f)=(l.foldl (λa k=>a.swapIfInBounds (u k) (v k)) xs).map f
 | [],_=>rfl
 | k::l,xs=>by
  rw[ae7,ae7,W.kas_swap_map]
  exact zD f u v l _
section
variable {prog:Program}{w:World}{A:Around}{E:Value->Shared->Prop}{s:Shared}{κ:SortKind}{it:Nat->Keyed}{N:Nat}{c:Nat->Nat->Bool}{p:Array Nat}{pd:Array (Nat×Nat×Nat)}
def oE(prog:Program)(w:World)(A:Around)(s:Shared)(κ:SortKind)(it:Nat->Keyed)(N:Nat)(c:Nat->Nat->Bool):Prop:=
 ∀i j,i<N->j<N->∀(E:Value->Shared->Prop) (Q:Bool->Shared->Prop),Q (c i j) s->wpAny (model prog w) A (keyLt' κ (it i).1 (it j).1) Q E s
def fj(κ:SortKind)(it:Nat->Keyed)(p:Array Nat) (pd:Array (Nat×Nat×Nat)):SortSt:=SortSt.mk' κ (p.map it) pd 7 none
def w4(N:Nat)(p:Array Nat):Prop:=∀i,i<p.size->p.getD i 0<N
theorem abO(C:oE prog w A s κ it N c){st:SortSt}(hk:kindOf st=κ)(hi:i<N)(hj:j<N) (h:Q (some (c i j)) st):wpS (model prog w) A E s (lt' (it i) (it j)) Q st:=by
 rw[lt'_eq]
 refine adB (agZ ?_)
 rw[hk]
 refine adB (wpS_lift (agb (C i j hi hj _ _ ⟨rfl,?_⟩)))
 exact ad9 h
theorem JU{st:SortSt}(hi:i<p.size) (h:Q (it (p.getD i 0)) st):wpS (model prog w) A E s (elem' (p.map it) i) Q st:=by
 rw[elem'_eq]
 have e:(p.map it)[i]?=some (it (p.getD i 0)):=by simp[Array.getD,hi]
 rw[e]
 exact ad9 h
theorem BX(C:oE prog w A s κ it N c)(B:w4 N p)(hi:i<p.size)(hj:j<p.size) (h:Q (some (c (p.getD i 0) (p.getD j 0))) (fj κ it p pd)):wpS (model prog w) A E s (ltAt' i j) Q (fj κ it p pd):=by
 rw[ltAt'_eq]
 refine adB (agZ (adB (JU hi (adB (JU hj ?_)))))
 exact abO C rfl (B i hi) (B j hj) h
theorem Sl(h:Q () (fj κ it (bubble p k (k-l)) pd)):wpS (model prog w) A E s (moveDown' k l) Q (fj κ it p pd):=by
 rw[moveDown'_eq]
 refine wpS_modify ?_
 have e:bubble (p.map it) k (k-l)=(bubble p k (k-l)).map it:=zD it (λi=>k-i) (λi=>k-i-1) _ p
 show Q () (SortSt.mk' κ (bubble (p.map it) k (k-l)) pd 7 none)
 rw[e]
 exact h
theorem w4.perm(B:w4 N p)(h:q.Perm p):w4 N q:=λi hi=>by
 have hs:q.size=p.size:=h.size_eq
 have hm:q.getD i 0∈p:=h.mem_iff.mp (by
  have:q.getD i 0=q[i]:=by simp[Array.getD,hi]
  rw[this]
  exact Array.getElem_mem hi)
 obtain⟨j,hj,e⟩:=Array.mem_iff_getElem.mp hm
 rw[← e]
 have:p.getD j 0=p[j]:=by simp[Array.getD,hj]
 rw[← this]
 exact B j hj
theorem Xv(C:oE prog w A s κ it N c){lo n ok:Nat}{Q:Bool->SortSt->Prop}(B:w4 N p)(hz:lo+n<=p.size)(hok:1<=ok)(hn:ok<=n) (h:Q true (fj κ it (j5 c lo (n-ok) ok p) pd)):wpS (model prog w) A E s (binarySort' lo n ok) Q (fj κ it p pd):=by
 rw[binarySort'_eq]
 have hm:max ok 1=ok:=by lia
 rw[hm]
 refine adB (agd (aeK (I:=λk d cI=>d=(none,())/\∃q:Array Nat,cI=fj κ it q pd/\q.Perm p/\j5 c lo (n-k) k q=j5 c lo (n-ok) ok p)
  (Q:=λd cI=>d=(none,())/\cI=fj κ it (j5 c lo (n-ok) ok p) pd) ?step ?fin ⟨rfl,p,rfl,Array.Perm.refl _,rfl⟩) ?post)
 case post=>
  rintro d cI ⟨rfl,rfl⟩
  exact ad9 h
 case fin=>
  rintro d cI ⟨rfl,q,rfl,_,e⟩
  refine⟨rfl,?_⟩
  rw[show n-max ok n=0 by lia]at e
  rw[← e]
  rfl
 case step=>
  rintro k d cI hk hkn ⟨rfl,q,rfl,hq,e⟩
  have hs:q.size=p.size:=hq.size_eq
  have Bq:=B.perm hq
  refine adB (agd (aeK (I:=λx d jj=>jj=fj κ it q pd/\∃l r,d=(none,l,r)/\l<=r/\r<=k/\place c q lo k (k-x) l r=place c q lo k k 0 k)
   (Q:=λd jj=>jj=fj κ it q pd/\∃l r,d=(none,l,r)/\l=place c q lo k k 0 k) ?istep ?ifin ⟨rfl,0,k,rfl,by lia,by lia,rfl⟩) ?ipost)
  case ifin=>
   rintro d jj ⟨rfl,l,r,rfl,h1,h2,e2⟩
   refine⟨rfl,l,r,rfl,?_⟩
   rw[show k-max 0 k=0 by lia]at e2
   exact e2
  case istep=>
   rintro x d jj _ hx ⟨rfl,l,r,rfl,h1,h2,e2⟩
   obtain⟨f,hf⟩:∃f,k-x=f+1:=⟨k-x-1,by lia⟩
   have YG:k-(x+1)=f:=by lia
   rw[hf,place]at e2
   dsimp only
   by_cases YH:l≥r
   . rw[aaF YH]at e2 ⊢
     exact ad9 ⟨rfl,l,r,rfl,e2⟩
   . rw[aaz YH]at e2 ⊢
     refine adB (BX C Bq (by lia) (by lia) ?_)
     dsimp only
     cases hc:c (q.getD (lo+k) 0) (q.getD (lo+(l+r) / 2) 0) with
     | true=>
      rw[hc,aaF rfl]at e2
      rw[aaF rfl]
      exact ad9 ⟨rfl,l,(l+r) / 2,rfl,by lia,by lia,by rw[YG];exact e2⟩
     | false=>
      rw[hc,aaz (by decide)]at e2
      rw[aaz (by decide)]
      exact ad9 ⟨rfl,(l+r) / 2+1,r,rfl,by lia,by lia,by rw[YG];exact e2⟩
  case ipost=>
   rintro d jj ⟨rfl,l,r,rfl,e2⟩
   refine adB (Sl (ad9 ⟨rfl,_,rfl,(bubble_perm _ _ _).trans hq,?_⟩))
   obtain⟨f,hf⟩:∃f,n-k=f+1:=⟨n-k-1,by lia⟩
   rw[hf,j5,← e2]at e
   rw[show n-(k+1)=f by lia]
   exact e
theorem LP(C:oE prog w A s κ it N c){lo n:Nat}{Q:Option Nat->SortSt->Prop}(B:w4 N p)(hz:lo+n<=p.size)(hn:3<=n) (h1:c (p.getD (lo+1) 0) (p.getD lo 0)=false) (h2:c (p.getD (lo+2) 0) (p.getD (lo+1) 0)=true) (h3:c (p.getD lo 0) (p.getD (lo+1) 0)=true)
 (h:Q (some 2) (fj κ it p pd)):wpS (model prog w) A E s (countRun' lo n) Q (fj κ it p pd):=by
 rw[countRun'_eq]
 refine adB (agd (aeK (I:=λx d cI=>cI=fj κ it p pd/\((x=1/\d=(none,1))\/(x=2/\d=(none,2))))
  (Q:=λd cI=>cI=fj κ it p pd/\d=(none,2)) ?step ?fin ⟨rfl,.inl ⟨rfl,rfl⟩⟩) ?post)
 case fin=>
  rintro d cI ⟨rfl,⟨e,rfl⟩|⟨e,rfl⟩⟩
  . lia
  . exact⟨rfl,rfl⟩
 case step=>
  rintro x d cI hx Sm ⟨rfl,⟨rfl,rfl⟩|⟨rfl,rfl⟩⟩
  . refine adB (BX C B (by lia) (by lia) ?_)
    rw[show lo+1-1=lo by lia,h1]
    exact ad9 ⟨rfl,.inr ⟨rfl,rfl⟩⟩
  . refine adB (BX C B (by lia) (by lia) ?_)
    rw[show lo+2-1=lo+1 by lia,h2]
    exact ad9 ⟨rfl,rfl⟩
 case post=>
  rintro d cI ⟨rfl,rfl⟩
  dsimp only
  rw[aaz (by simp;lia),aaF (by lia)]
  refine adB (BX C B (by lia) (by lia) ?_)
  rw[show lo+2-1=lo+1 by lia,h3]
  exact ad9 h
end
section
variable {prog:Program}{w:World}{A:Around}{E:Value->Shared->Prop}{s:Shared}{κ:SortKind}{it:Nat->Keyed}{N:Nat}{c:Nat->Nat->Bool}{X Y:Array Nat}{n:Nat}
end
section
variable {prog:Program}{w:World}{A:Around}{E:Value->Shared->Prop}{s:Shared}{κ:SortKind}{it:Nat->Keyed}{N:Nat}{c:Nat->Nat->Bool}{p:Array Nat}{n:Nat}
theorem tE(h0:1<=n)(h:n<64):minRun' n n 0=n:=by
 obtain⟨f,hf⟩:∃f,n=f+1:=⟨n-1,by lia⟩
 have:minRun' (f+1) n 0=n:=by rw[minRun'_succ,aaF h];rfl
 rwa[← hf]at this
theorem JV(C:oE prog w A s κ it N c)(B:w4 N p)(hp:p.size=n)(hn:3<=n)(EU:n<64) (h1:c (p.getD 1 0) (p.getD 0 0)=false) (h2:c (p.getD 2 0) (p.getD 1 0)=true) (h3:c (p.getD 0 0) (p.getD 1 0)=true)
 (h:Q () (fj κ it (j5 c 0 (n-2) 2 p) #[(0,n,0)])):wpS (model prog w) A E s sortRuns' Q (fj κ it p #[]):=by
 rw[sortRuns'_eq]
 refine adB (agZ ?_)
 have hs:(arrOf (fj κ it p #[])).size=n:=by show (p.map it).size=n;rw[agT,hp]
 simp only[hs,tE (by lia) EU]
 refine adB (agd (aeK (I:=λx d cI=>(x=0/\d=(none,0)/\cI=fj κ it p #[])\/(1<=x/\d=(none,n)/\cI=fj κ it (j5 c 0 (n-2) 2 p) #[(0,n,0)]))
  (Q:=λd cI=>d=(none,n)/\cI=fj κ it (j5 c 0 (n-2) 2 p) #[(0,n,0)]) ?step ?fin (.inl ⟨rfl,rfl,rfl⟩)) ?post)
 case fin=>
  rintro d cI (⟨hx,_,_⟩|⟨_,hc,hD⟩)
  . lia
  . exact⟨hc,hD⟩
 case step=>
  rintro x d cI _ hx (⟨rfl,rfl,rfl⟩|⟨zw,rfl,rfl⟩)
  . dsimp only
    rw[aaz (by lia)]
    simp only[Nat.sub_zero,ahn,aho]
    refine adB (LP C B (by lia) hn h1 h2 h3 ?_)
    dsimp only
    rw[aaF (by lia)]
    refine adB (wpS_lift (afm ⟨rfl,?_⟩))
    refine adB (Xv C B (by lia) (by lia) (by lia) ?_)
    simp only[Bool.not_true,aeh,ae4]
    refine adB (agZ ?_)
    exact adB (wpS_modify (ad9 (.inr ⟨by lia,rfl,rfl⟩)))
  . dsimp only
    rw[aaF (aaf _)]
    exact ad9 ⟨rfl,rfl⟩
 case post=>
  rintro d cI ⟨rfl,rfl⟩
  dsimp only
  refine adB (agd (aeK (I:=λ_ d jj=>jj=fj κ it (j5 c 0 (n-2) 2 p) #[(0,n,0)]/\d=(none,())) (Q:=λd jj=>jj=fj κ it (j5 c 0 (n-2) 2 p) #[(0,n,0)]/\d=(none,())) ?_ (λ_ _ hh=>hh) ⟨rfl,rfl⟩) ?_)
  . rintro x d jj _ _ ⟨rfl,rfl⟩
    refine adB (agZ ?_)
    rw[aaF (show (pendingOf (fj κ it (j5 c 0 (n-2) 2 p) #[(0,n,0)])).size<=1 from aaf 1)]
    exact ad9 ⟨rfl,rfl⟩
  . rintro d jj ⟨rfl,rfl⟩
    exact ad9 h
theorem PJ(C:oE prog w A s κ it N c)(B:w4 N p)(hp:p.size=2) (h1:c (p.getD 1 0) (p.getD 0 0)=false)
 (h:Q () (fj κ it p #[(0,2,0)])):wpS (model prog w) A E s sortRuns' Q (fj κ it p #[]):=by
 rw[sortRuns'_eq]
 refine adB (agZ ?_)
 have hs:(arrOf (fj κ it p #[])).size=2:=by show (p.map it).size=2;rw[agT,hp]
 simp only[hs,tE (show 1<=2 by decide) (by decide)]
 refine adB (agd (aeK (I:=λx d cI=>(x=0/\d=(none,0)/\cI=fj κ it p #[])\/(1<=x/\d=(none,2)/\cI=fj κ it p #[(0,2,0)]))
  (Q:=λd cI=>d=(none,2)/\cI=fj κ it p #[(0,2,0)]) ?step ?fin (.inl ⟨rfl,rfl,rfl⟩)) ?post)
 case fin=>
  rintro d cI (⟨hx,_,_⟩|⟨_,hc,hD⟩)
  . lia
  . exact⟨hc,hD⟩
 case step=>
  rintro x d cI _ hx (⟨rfl,rfl,rfl⟩|⟨zw,rfl,rfl⟩)
  . dsimp only
    rw[aaz (by lia)]
    rw[countRun'_eq]
    refine adB (adB (agd (aeK (I:=λx d cI=>cI=fj κ it p #[]/\((x=1/\d=(none,1))\/(x=2/\d=(none,2)))) (Q:=λd cI=>cI=fj κ it p #[]/\d=(none,2)) ?cs ?cf ⟨rfl,.inl ⟨rfl,rfl⟩⟩) ?cp))
    case cf=>
     rintro d cI ⟨rfl,⟨e,rfl⟩|⟨e,rfl⟩⟩
     . lia
     . exact⟨rfl,rfl⟩
    case cs=>
     rintro x d cI hx Sm ⟨rfl,⟨rfl,rfl⟩|⟨rfl,rfl⟩⟩
     . refine adB (BX C B (by lia) (by lia) ?_)
       rw[show 0+1-1=0 by lia,show 0+1=1 by lia,h1]
       exact ad9 ⟨rfl,.inr ⟨rfl,rfl⟩⟩
     . lia
    case cp=>
     rintro d cI ⟨rfl,rfl⟩
     refine ad9 ?_
     dsimp only
     rw[aaz (by decide)]
     refine adB (agZ ?_)
     exact adB (wpS_modify (ad9 (.inr ⟨by lia,rfl,rfl⟩)))
  . dsimp only
    rw[aaF (aaf _)]
    exact ad9 ⟨rfl,rfl⟩
 case post=>
  rintro d cI ⟨rfl,rfl⟩
  dsimp only
  refine adB (agd (aeK (I:=λ_ d jj=>jj=fj κ it p #[(0,2,0)]/\d=(none,())) (Q:=λd jj=>jj=fj κ it p #[(0,2,0)]/\d=(none,())) ?_ (λ_ _ hh=>hh) ⟨rfl,rfl⟩) ?_)
  . rintro x d jj _ _ ⟨rfl,rfl⟩
    refine adB (agZ ?_)
    rw[aaF (show (pendingOf (fj κ it p #[(0,2,0)])).size<=1 from aaf 1)]
    exact ad9 ⟨rfl,rfl⟩
  . rintro d jj ⟨rfl,rfl⟩
    exact ad9 h
end
end L2
namespace L2
open PySem PySem.Spec PyProof.Rows PySem.W
def ng(h:Heap)(v:Value)(ns:List Int):Prop:=∃a o xs n,v=.ref a/\h.get? a=some o/\o.cls=.type "tuple" /\ o.data=.seq xs n/\IntsAre xs.toList ns
theorem ng.keep(x:ng h v ns)(k:∀a o xs n,h.get? a=some o->o.cls=.type "tuple" -> o.data=.seq xs n->h'.get? a=some o):ng h' v ns:=by
 obtain⟨a,o,xs,n,e,h1,h2,h3,h4⟩:=x
 exact⟨a,o,xs,n,e,k a o xs n h1 h2 h3,h2,h3,h4⟩
section
variable {prog:Program}{w:World}{A:Around}{E:Value->Shared->Prop}{s:Shared}{Q:Bool->Shared->Prop}
theorem PK(f:Bool) (h:Q (decide (a<b)) s):wpAny (model prog w) A (oneLt' f (.int a t) (.int b u)) Q E s:=by
 cases f with
 | true=>exact oneLt_int h
 | false=>exact kat_one _ _ (PyProof.Rows.lt_int h)
theorem uS:∀{xs ys:List Value}{as bs:List Int}(i:Nat),IntsAre xs as->IntsAre ys bs->as.length=bs.length->Q (HT.lexLt as bs) s->KatLex prog w A true false Q (xs.zip ys) i s
 | _,_,_,_,_,.nil,.nil,_,h=>h
 | _,_,_,_,_,.nil,.cons _ _ _,h,_=>nomatch h
 | _,_,_,_,_,.cons _ _ _,.nil,h,_=>nomatch h
 | _,_,_,_,i,.cons a t r,.cons b u r',hl,h=>by
  rw[HT.FW]at h
  refine kat_cons (wpAny_eqBool_int ?_)
  by_cases e:a=b
  . rw[aaF e]at h
    have:(a == b)=true:=by simpa using e
    rw[this]
    exact kat_yes (uS (i+1) r r' (Nat.succ.inj hl) h)
  . rw[aaz e]at h
    have:(a == b)=false:=by simpa using e
    rw[this]
    exact kat_no (PK _ h)
theorem PM(hv:ng s.heap v as)(hu:ng s.heap u bs)(hl:as.length=bs.length) (h:Q (HT.lexLt as bs) s):wpAny (model prog w) A (keyLt' (tuples' true) v u) Q E s:=by
 obtain⟨a,o,xs,n,rfl,h1,_,h3,h4⟩:=hv
 obtain⟨b,o2,ys,m,rfl,k1,_,k3,k4⟩:=hu
 refine kat_lt h1 h3 k1 k3 ?_
 have e1:=h4.length
 have e2:=k4.length
 rw[aeb]at e1 e2
 have:decide (xs.size<ys.size)=false:=aaH (by lia)
 rw[this]
 exact uS 0 h4 k4 hl h
end
theorem zE:∀{vs:List Value}{bs:List (List Int)},Paired (ng h) vs bs->(∀b∈bs,b≠[])->∃fs,KatTups h vs fs/\fs.length=vs.length/\∀v∈fs,∃i t,v=Value.int i t
 | _,_,.nil,_=>⟨[],.nil,rfl,λ_ h=>nomatch h⟩
 | v::vs,b::bs,.cons hv t,hb=>by
  obtain⟨fs,h1,h2,h3⟩:=zE t λx hx=>hb x (aav _ hx)
  obtain⟨a,o,xs,n,rfl,k1,k2,k3,k4⟩:=hv
  have hn:=hb b aas
  generalize hx:xs.toList=l at k4
  cases k4 with
  | nil=>exact absurd rfl hn
  | cons i t r=>
   refine⟨.int i t::fs,KatTups.cons k1 k2 k3 ?_ h1,by rw[aaA,aaA,h2],λz hz=>?_⟩
   . rw[← aeD,hx]
     rfl
   . rcases aaj.mp hz with rfl|hz
     . exact⟨i,t,rfl⟩
     . exact h3 z hz
def Sn(vs:List Value)(i:Nat):Keyed:=(vs.getD i .none,vs.getD i .none)
theorem PN(vs:List Value):vs.toArray.zip vs.toArray=((List.range vs.length).toArray).map (Sn vs):=by
 apply Array.ext
 . simp
 . intro i h1 h2
   simp at h1
   simp[Sn,h1]
theorem nJ{α β:Type}{F:α->β->Prop}{d:α}{e:β} : ∀{l₁:List α}{l₂:List β},Paired F l₁ l₂->∀i,i<l₁.length->F (l₁.getD i d) (l₂.getD i e)
 | _,_,.nil,i,h=>absurd h (adE _)
 | _,_,.cons h t,0,_=>by simpa using h
 | _,_,.cons h t,i+1,hi=>by simpa using nJ t i (by simpa using hi)
section
variable {prog:Program}{w:World}{A:Around}{E:Value->Shared->Prop}{s:Shared}
def Al(prog:Program)(w:World) (bs:List (List Int)) (q:Array Nat):Prop:=q.size=bs.length/\∀(A:Around) (E:Value->Shared->Prop) (s:Shared) (it:Nat->Keyed),oE prog w A s (tuples' true) it bs.length (λi j=>HT.lexLt (bs.getD i []) (bs.getD j []))->
 wpS (model prog w) A E s sortRuns' (λ_ cI=>arrOf cI=q.map it/\failedOf cI=none) (fj (tuples' true) it (List.range bs.length).toArray #[])
theorem JW{a:Addr}{vs:List Value}{bs:List (List Int)}{n k:Nat}{q:Array Nat}{P:Fin->Shared->Prop}(ho:s.heap.get? a=some (seqObj "list" vs.toArray n)) (hT:Paired (ng s.heap) vs bs) (hk:∀b∈bs,b.length=k) (w6:1<=k) (h2:2<=vs.length) (EU:vs.length<=1000)
 (hq:Al prog w bs q) (h:P (.done (.ret .none)) {s with heap:=sortedHeap s.heap a vs (q.map λi=>vs.getD i .none)}) :
 wpAny (model prog w) A (Builtin.«list.sort» ⟨[.ref a],[]⟩) P E s:=by
 rw[list_sort_plain]
 have ha:a<s.heap.objs.size:=aaw ho
 have lb:=hT.length
 refine aad (listItems_at ho rfl ?_)
 refine aad (age ho rfl ?_ (by rw[aan,adW];lia) (aaO _))
 obtain⟨e1,o8⟩:∃e1,(s.heap.update a (Obj.mapSeq λ_=>#[])).get? a=some (seqObj "list" #[] e1):=⟨_,afG ho (λ_=>#[])⟩
 refine aad (seqEpoch_at o8 rfl ?_)
 refine aad (afS ?_ (by show vs.length<=_;rw[adW];lia))
 refine aad (agf ?_ (aaO _))
 refine adP ?_
 have EV:(((s.heap.update a (Obj.mapSeq λ_=>#[])).push (seqObj "tuple" vs.toArray 0)).push (seqObj "list" #[] 0)).get? a=some (seqObj "list" #[] e1):=by
  rw[Heap.get?_push_ne _ _ _ (by rw[size_push',aeW];exact aaD (adL ha)),Heap.get?_push_ne _ _ _ (by rw[aeW];exact aaD ha)]
  exact o8
 show wpAny (model prog w) A _ P E {s with heap:=((s.heap.update a (Obj.mapSeq λ_=>#[])).push (seqObj "tuple" vs.toArray 0)).push (seqObj "list" #[] 0)}
 dsimp only
 have jk:¬ vs.toArray.size<2:=by rw[aan];lia
 rw[aaz jk,aaz jk]
 have N3:Paired (ng (((s.heap.update a (Obj.mapSeq λ_=>#[])).push (seqObj "tuple" vs.toArray 0)).push (seqObj "list" #[] 0))) vs bs:=Paired.cw hT λv b x=>x.keep λb o xs n h1 h2 h3=>by
  have nb:b≠a:=λe=>by
   rw[e,ho]at h1
   cases(aay h1)
   exact absurd (Value.type.inj (show Value.type "list" = Value.type "tuple" from h2)) (by decide)
  refine aac _ (aac _ ?_)
  rw[(ad0 s.heap a (Obj.mapSeq λ_=>(#[]:Array Value))).2 b nb]
  exact h1
 generalize hh6:((s.heap.update a (Obj.mapSeq λ_=>#[])).push (seqObj "tuple" vs.toArray 0)).push (seqObj "list" #[] 0)=h6 at EV N3
 obtain⟨fs,f1,f2,f3⟩:=zE N3 (λb hb e=>by have:=hk b hb;rw[e]at this;simp at this;lia)
 refine aad (kat_kind (M:=model prog w) (T:=.type "int") f1 (by lia) (λv hv=>?_) rfl ?_)
 . obtain⟨i,t,rfl⟩:=f3 v hv
   exact Looks.of_pure rfl
 have hb:∀i,i<bs.length->(bs.getD i []).length=k:=λi hi=>hk _ (by simp[hi])
 have C:oE prog w A {s with heap:=h6} (tuples' true) (Sn vs) bs.length (λi j=>HT.lexLt (bs.getD i []) (bs.getD j [])):=λi j hi hj E Q hQ=>
  PM (nJ N3 i (by lia)) (nJ N3 j (by lia)) (by rw[hb i hi,hb j hj]) hQ
 have run:=hq.2 A E _ _ C
 rw[PN,lb]
 refine aad (aef run ?_ λ_ _ e=>e)
 rintro⟨⟨⟩,cI⟩ s' ⟨rfl,har,hf⟩
 dsimp only
 have hsz:((arrOf cI).map (·.2))=q.map λi=>vs.getD i .none:=by
  rw[har,Array.map_map]
  rfl
 refine aad (seqEpoch_at EV rfl ?_)
 refine aad (age EV rfl ?_ (hsz2:=by rw[hsz,agT,hq.1,adW];lia))
 have hf':(sortPriv% PySem.Builtin.SortState.failed) cI=none:=hf
 rw[hf]
 simp only[ahj,aeh,ae4]
 refine aao ?_
 rw[hsz,← hh6]
 exact h
theorem DZ(hl:s.heap.IsList l vs.toArray) (hT:Paired (ng s.heap) vs bs) (hk:∀b∈bs,b.length=k) (w6:1<=k) (h2:2<=vs.length) (EU:vs.length<=1000)
 (hq:Al prog w bs q) (h:Q (.ref (s.heap.objs.size+1)) {s with heap:=sortedAll s.heap vs (q.map λi=>vs.getD i .none)}) :
 wpAny (model prog w) A (call (.builtin "sorted") [.ref l]) Q E s:=by
 refine afT kind_sorted plain_sorted entry_sorted (args_sorted1 _) ?_
 unfold Builtin.«sorted»
 refine aad (m:=checkCount "sorted" 1 1 _) (aao ?_)
 refine aad (collect_list hl ?_ (by rw[adW];lia))
 refine aad (agf ?_ (by rw[adW];lia))
 have hsz:((s.heap.push (seqObj "list" #[] 0)).update s.heap.objs.size (Obj.mapSeq (· ++ vs.toArray))).objs.size=s.heap.objs.size+1:=by
  rw[aeW,size_push']
 have Az:(((s.heap.push (seqObj "list" #[] 0)).update s.heap.objs.size (Obj.mapSeq (· ++ vs.toArray))).push (seqObj "list" vs.toArray 0)).get? (s.heap.objs.size+1)=some (seqObj "list" vs.toArray 0):=by
  rw[← hsz];exact aaq _ rfl
 have keep:∀b o,s.heap.get? b=some o->(((s.heap.push (seqObj "list" #[] 0)).update s.heap.objs.size (Obj.mapSeq (· ++ vs.toArray))).push (seqObj "list" vs.toArray 0)).get? b=some o:=λb o hb=>by
  refine aac _ ?_
  rw[(ad0 _ _ _).2 b (aaD (aaw hb))]
  exact aac _ hb
 show wpAny _ _ _ _ _ {s with heap:=((s.heap.push (seqObj "list" #[] 0)).update s.heap.objs.size (Obj.mapSeq (· ++ vs.toArray))).push (seqObj "list" vs.toArray 0)}
 rw[hsz]
 refine aad (adP (adT slot_list_sort ⟨_,Az,rfl⟩ entry_list_sort (JW Az (Paired.cw hT λv b x=>x.keep λb o _ _ h1 _ _=>keep b o h1) hk w6 h2 EU hq ⟨_,rfl,?_⟩) (args_list_sort _)))
 exact aao ⟨_,rfl,h⟩
end
def eZ:Nat->List (List Int)
 | 0=>[[]]
 | k+1=>(eZ k).map (· ++ [0])++(eZ k).map (· ++ [1])
def bg:Nat->List (List Int)
 | 0=>[[]]
 | k+1=>(bg k).flatMap λr=>[r++[0],r++[1]]
def mU(k:Nat):Bool:=(eZ k).zipIdx.all λx=>(eZ k).zipIdx.all λy=>HT.lexLt x.1 y.1 == cB k x.2 y.2
def p0(k:Nat):Array Nat:=(List.range (2 ^ k)).toArray
theorem oF(k:Nat):(eZ k).length=2 ^ k:=by
 induction k with
 | zero=>rfl
 | succ k ih=>
  rw[eZ,aag,aaa,aaa,ih,aem]
  lia
theorem zF(k:Nat):∀b∈eZ k,b.length=k:=by
 induction k with
 | zero=>simp[eZ]
 | succ k ih=>
  intro b hb
  rw[eZ]at hb
  rcases aap.mp hb with h|h <;> (obtain⟨r,hr,rfl⟩:=aal.mp h;rw[aag,ih r hr];rfl)
theorem BY(h:mU k=true)(hi:i<2 ^ k)(hj:j<2 ^ k):HT.lexLt ((eZ k).getD i []) ((eZ k).getD j [])=cB k i j:=by
 unfold mU at h
 have mem:∀i,i<2 ^ k->((eZ k).getD i [],i)∈(eZ k).zipIdx:=λi hi=>by
  have hl:i<(eZ k).length:=by rw[oF];exact hi
  rw[List.mem_zipIdx_iff_getElem?]
  simp[hl]
 have h1:=ad7.mp h _ (mem i hi)
 have h2:=ad7.mp h1 _ (mem j hj)
 simpa using h2
theorem So(k:Nat):w4 (2 ^ k) (p0 k):=λi hi=>by
 unfold p0 at hi ⊢
 simp at hi
 simp[Array.getD,hi]
theorem oE.congr{κ:SortKind}(C:oE prog w A s κ it N c)(h:∀i j,i<N->j<N->c i j=c' i j):oE prog w A s κ it N c':=λi j hi hj E Q hQ=>C i j hi hj E Q (by rw[h i j hi hj];exact hQ)
def nO(k:Nat):Bool:=!cB k 1 0 && (cB k 2 1 && cB k 0 1)
theorem JX:nO 2=true/\nO 3=true/\nO 4=true/\nO 5=true:=by decide+kernel
section
variable {prog:Program}{w:World}
theorem lV(ha:mU k=true)(ho:nO k=true)(h3:3<=2 ^ k)(EU:2 ^ k<64) (hs:(j5 (cB k) 0 (2 ^ k-2) 2 (p0 k)).size=2 ^ k):Al prog w (eZ k) (j5 (cB k) 0 (2 ^ k-2) 2 (p0 k)):=by
 refine⟨by rw[oF];exact hs,λA E s it C=>?_⟩
 rw[oF]at C ⊢
 have C':=C.congr λi j hi hj=>BY ha hi hj
 unfold nO at ho
 rw[adj,adj,Bool.not_eq_true']at ho
 have g:∀i,i<2 ^ k->(p0 k).getD i 0=i:=λi hi=>by
  unfold p0
  simp[Array.getD,hi]
 refine JV C' (p:=p0 k) (n:=2 ^ k) (So k) (by unfold p0;simp) h3 EU ?_ ?_ ?_ ⟨rfl,rfl⟩
 . rw[g 1 (by lia),g 0 (by lia)];exact ho.1
 . rw[g 2 (by lia),g 1 (by lia)];exact ho.2.1
 . rw[g 0 (by lia),g 1 (by lia)];exact ho.2.2
end
section
variable {X:Cx}
theorem sg(h:Heap)(vs:List Value)(out:Array Value):∃n,(sortedAll h vs out).get? (h.objs.size+1)=some (seqObj "list" out n):=by
 unfold sortedAll sortedHeap
 have hsz:((h.push (seqObj "list" #[] 0)).update h.objs.size (Obj.mapSeq (· ++ vs.toArray))).objs.size=h.objs.size+1:=by rw[aeW,size_push']
 have h1:(((h.push (seqObj "list" #[] 0)).update h.objs.size (Obj.mapSeq (· ++ vs.toArray))).push (seqObj "list" vs.toArray 0)).get? (h.objs.size+1)=some (seqObj "list" vs.toArray 0):=by
  rw[← hsz];exact aaq _ rfl
 exact⟨_,afG (aac _ (aac _ (afG h1 λ_=>#[]))) λ_=>out⟩
theorem qd(hb:h.get? b=some o):(sortedAll h vs out).get? b=some o:=by
 have lt:=aaw hb
 have ne0:b≠h.objs.size:=aaD lt
 have ne1:b≠h.objs.size+1:=aaD (adL lt)
 unfold sortedAll sortedHeap
 rw[(ad0 _ _ _).2 b ne1]
 refine aac _ (aac _ ?_)
 rw[(ad0 _ _ _).2 b ne1]
 refine aac _ ?_
 rw[(ad0 _ _ _).2 b ne0]
 exact aac _ hb
theorem EW(I:Inv X pins σ H s):∀{ts:List Addr}{vs:List Value}{bs:List (List Int)},Vals (ts.map V.ref) vs->Paired (λt b=>aR X.K H t (b.map V.int)) ts bs->Paired (ng s.heap) vs bs
 | [],vs,_,r,.nil=>by
  rw[ad5]at r
  cases r
  exact .nil
 | t::ts,vs,b::bs,r,.cons h p=>by
  rw[aaB]at r
  cases r with
  | cons r1 r2=>
   cases r1
   obtain⟨its,rv,⟨o,h1,h2,n,h3⟩,_⟩:=I.tuple h
   exact .cons ⟨t,o,_,n,rfl,h1,h2,h3,intsAre_of rv⟩ (EW I r2 p)
theorem LQ{ts:List Addr}{i:Nat}{d:Addr}(h:i<ts.length):(ts.map V.ref).getD i .aV=.ref (ts.getD i d):=by simp[h]
theorem PQ(r:Vals xs vs)(h:i<xs.length):RelV (xs.getD i .aV) (vs.getD i .none):=by
 obtain⟨w',e,mj⟩:=r.get (i:=i) (aab h)
 have e1:vs.getD i .none=w':=by simp[e]
 have e2:xs.getD i .aV=xs[i]:=by simp[h]
 rw[e1,e2]
 exact mj
theorem BZ(r:Vals xs vs):∀{l:List Nat},(∀i∈l,i<xs.length)->Vals (l.map λi=>xs.getD i .aV) (l.map λi=>vs.getD i .none)
 | [],_=>.nil
 | i::l,h=>.cons (PQ r (h i aas)) (BZ r λj hj=>h j (aav _ hj))
theorem xf{α β:Type}{F:α->β->Prop}{d:α}{e:β}{l₁:List α}{l₂:List β}(p:Paired F l₁ l₂):∀{l:List Nat},(∀i∈l,i<l₁.length)->Paired F (l.map λi=>l₁.getD i d) (l.map λi=>l₂.getD i e)
 | [],_=>.nil
 | i::l,h=>.cons (nJ p i (h i aas)) (xf p λj hj=>h j (aav _ hj))
def Am(K:W.Frag):R2:=λx y H Q=>∃a b xs ys,x=.ref a/\y=.ref b/\aR K H a xs/\aR K H b ys/\ys≠[]/\xs.length+ys.length<=sizeLine/\(xs=[]->Q (.ref b) H)/\(xs≠[]->∀p,H p=none->Q (.ref p) (upd H p (.tup (xs++ys))))
theorem EY:iX X (binaryOp .Add) (Am X.K):=by
 intro pins s σ H x y v u Q I rx ry h
 obtain⟨a,b,xs,ys,rfl,rfl,ha,hb,hy,hz,q1,q2⟩:=h
 by_cases hx:xs=[]
 . cases rx
   cases ry
   obtain⟨its,r1,p1,_⟩:=I.tuple ha
   obtain⟨pE,r2,p2,_⟩:=I.tuple hb
   obtain⟨⟨cls,dd,data,sl⟩,ho,hc,n,hd⟩:=id p1
   obtain⟨⟨abd,En,data2,Nn⟩,vV,lq,n2,hd2⟩:=id p2
   simp only at hc hd lq hd2
   subst hc hd lq hd2
   have he:its=[]:=r1.ue.mpr hx
   exact concat_meets ⟨_,ho,rfl⟩ ⟨_,vV,rfl⟩ agk ag6 afd ae3 (aeZ _ _)
    (tuple_addW0 a b its.toArray pE.toArray n n2 dd En sl Nn (by simp[he])) ⟨ho,vV,⟨.ref b,H,I,rfl,q1 hx⟩⟩
 . exact Pe pins s σ H _ _ v u Q I rx ry ⟨a,b,xs,ys,rfl,rfl,ha,hb,hx,hz,λe=>absurd e hy,λ_=>q2 hx⟩
end
section
variable {prog:Program}{w:World}{A:Around}{E:Value->Shared->Prop}{s:Shared}
theorem LR(ho:s.heap.get? a=some (seqObj "list" vs.toArray n)) (h2:vs.length<2) (h:P (.done (.ret .none)) {s with heap:=sortedHeap s.heap a vs vs.toArray}) :
 wpAny (model prog w) A (Builtin.«list.sort» ⟨[.ref a],[]⟩) P E s:=by
 rw[list_sort_plain]
 have ha:a<s.heap.objs.size:=aaw ho
 refine aad (listItems_at ho rfl ?_)
 refine aad (age ho rfl ?_ (by rw[aan,adW];lia) (aaO _))
 obtain⟨e1,o8⟩:∃e1,(s.heap.update a (Obj.mapSeq λ_=>#[])).get? a=some (seqObj "list" #[] e1):=⟨_,afG ho (λ_=>#[])⟩
 refine aad (seqEpoch_at o8 rfl ?_)
 refine aad (afS ?_ (by show vs.length<=_;rw[adW];lia))
 refine aad (agf ?_ (aaO _))
 refine adP ?_
 have EV:(((s.heap.update a (Obj.mapSeq λ_=>#[])).push (seqObj "tuple" vs.toArray 0)).push (seqObj "list" #[] 0)).get? a=some (seqObj "list" #[] e1):=
  aac _ (aac _ o8)
 show wpAny (model prog w) A _ P E {s with heap:=((s.heap.update a (Obj.mapSeq λ_=>#[])).push (seqObj "tuple" vs.toArray 0)).push (seqObj "list" #[] 0)}
 dsimp only
 have jk:vs.toArray.size<2:=by rw[aan];lia
 rw[aaF jk,aaF jk]
 refine aad (aao ?_)
 rw[StateT.run_pure]
 refine aad (aao ?_)
 dsimp only
 have hsz:((vs.toArray.zip vs.toArray).map (·.2))=vs.toArray:=by
  apply Array.ext
  . simp
  . intro i h1 h2
    simp
 refine aad (seqEpoch_at EV rfl ?_)
 show wpAny _ _ (Builtin.List.listUpdate (.ref a) (λ_=>((vs.toArray.zip vs.toArray).map (·.2))) >>= _) _ _ _
 rw[hsz]
 refine aad (age EV rfl ?_ (hsz2:=by rw[aan,adW];lia))
 simp only[ahj,aeh,ae4]
 exact aao h
theorem GI(hl:s.heap.IsList l vs.toArray)(h2:vs.length<2) (h:Q (.ref (s.heap.objs.size+1)) {s with heap:=sortedAll s.heap vs vs.toArray}) :
 wpAny (model prog w) A (call (.builtin "sorted") [.ref l]) Q E s:=by
 refine afT kind_sorted plain_sorted entry_sorted (args_sorted1 _) ?_
 unfold Builtin.«sorted»
 refine aad (m:=checkCount "sorted" 1 1 _) (aao ?_)
 refine aad (collect_list hl ?_ (by rw[adW];lia))
 refine aad (agf ?_ (by rw[adW];lia))
 have hsz:((s.heap.push (seqObj "list" #[] 0)).update s.heap.objs.size (Obj.mapSeq (· ++ vs.toArray))).objs.size=s.heap.objs.size+1:=by
  rw[aeW,size_push']
 have Az:(((s.heap.push (seqObj "list" #[] 0)).update s.heap.objs.size (Obj.mapSeq (· ++ vs.toArray))).push (seqObj "list" vs.toArray 0)).get? (s.heap.objs.size+1)=some (seqObj "list" vs.toArray 0):=by
  rw[← hsz];exact aaq _ rfl
 show wpAny _ _ _ _ _ {s with heap:=((s.heap.push (seqObj "list" #[] 0)).update s.heap.objs.size (Obj.mapSeq (· ++ vs.toArray))).push (seqObj "list" vs.toArray 0)}
 rw[hsz]
 refine aad (adP (adT slot_list_sort ⟨_,Az,rfl⟩ entry_list_sort (LR Az h2 ⟨_,rfl,?_⟩) (args_list_sort _)))
 exact aao ⟨_,rfl,h⟩
end
theorem vo:∀{b c:List Int},b.map V.int=c.map V.int->b=c
 | [],[],_=>rfl
 | [],_::_,h=>nomatch h
 | _::_,[],h=>nomatch h
 | x::b,y::c,h=>by
  rw[aaB,aaB]at h
  have h1:=aea h
  rw[V.int.inj h1.1,vo h1.2]
section
variable {X:Cx}
open Classical in
def abP(K:W.Frag):R2:=λx y H Q=>∃(t p:Addr) (b:List Int) (ts:List Addr) (bs:List (List Int)),x=.ref t/\y=.ref p/\aR K H t (b.map V.int)/\ar K H p (ts.map V.ref)/\Paired (λt b=>aR K H t (b.map V.int)) ts bs/\Q (.bl (decide (b∈bs))) H
theorem PR{A:Around}{pins:List (Addr×Obj)}{σ:St}{H:Hp}{s:Shared}(I:Inv X pins σ H s) (hu:A.units+1<cLine){t u:Addr}{b c:List Int}(ht:aR X.K H t (b.map V.int)) (JY:aR X.K H u (c.map V.int)):SeqAt.EqAt A s (.ref t) (.ref u) (decide (b=c)):=by
 by_cases e:t=u
 . subst e
   have e2:b=c:=vo (I.sy ht JY)
   rw[aaN e2]
   exact SeqAt.EqAt.same _
 . refine SeqAt.EqAt.of_refs e ?_
   obtain⟨its,rv,pl,_⟩:=I.tuple ht
   obtain⟨its',EI,N4,_⟩:=I.tuple JY
   have l1:=rv.length
   have l2:=EI.length
   rw[aaa]at l1 l2
   have key:=SeqAt.RcAt.tuples (A:=A) (s:=s) (e:=λj=>decide (b.getD j 0=c.getD j 0)) pl N4 (by lia) (λj g1 g2=>?_)
   . have e3:((List.range (min its.toArray.size its'.toArray.size)).all (λj=>decide (b.getD j 0=c.getD j 0)) && its.toArray.size == its'.toArray.size)=decide (b=c):=by
      rw[adb,adj,ac8,ad7]
      simp only[aan,aeY,agQ,ac8]
      constructor
      . rintro⟨h1,h2⟩
        apply ags (by lia)
        intro i g1 g2
        have:=h1 i (by lia)
        simpa[g1,g2]using this
      . rintro rfl
        exact⟨λ_ _=>rfl,by lia⟩
     rw[← e3]
     exact key
   . simp only[aan]at g1 g2
     have hj:j<b.length:=by lia
     have xg:j<c.length:=by lia
     obtain⟨w1,e1,r1⟩:=rv.get (x:=.int b[j]) (by rw[aae,aab hj];rfl)
     obtain⟨w2,e2,r2⟩:=EI.get (x:=.int c[j]) (by rw[aae,aab xg];rfl)
     have z:=vZ (A:=A.in1) (s:=s) r1 r2 rfl rfl
     have a1:its.toArray[j]=w1:=by
      have:=(aak.mp e1).2
      simpa using this
     have a2:its'.toArray[j]=w2:=by
      have:=(aak.mp e2).2
      simpa using this
     rw[a1,a2]
     have e4:mr (.int b[j]) (.int c[j])=decide (b.getD j 0=c.getD j 0):=by
      simp[mr,hj,xg]
      rfl
     rw[← e4]
     exact z
theorem B0{A:Around}{pins:List (Addr×Obj)}{σ:St}{H:Hp}{s:Shared}(I:Inv X pins σ H s) (hu:A.units+1<cLine){t:Addr}{b:List Int}(ht:aR X.K H t (b.map V.int)) (f:Value->Bool) (hf:∀u c,aR X.K H u (c.map V.int)->f (.ref u)=decide (c=b)):∀{ts:List Addr}{vs:List Value}{bs:List (List Int)},Vals (ts.map V.ref) vs->Paired (λt b=>aR X.K H t (b.map V.int)) ts bs->(∀v∈vs,SeqAt.EqAt A s v (.ref t) (f v))/\vs.any f=bs.any λc=>decide (c=b)
 | [],vs,_,r,.nil=>by
  rw[ad5]at r
  cases r
  exact⟨(λ_ h=>nomatch h),rfl⟩
 | u::ts,vs,c::bs,r,.cons h p=>by
  rw[aaB]at r
  cases r with
  | cons r1 r2=>
   cases r1
   obtain⟨h1,h2⟩:=B0 I hu ht f hf r2 p
   refine⟨λv hv=>?_,?_⟩
   . rcases aaj.mp hv with rfl|hv
     . rw[hf u c h]
       exact PR I hu h ht
     . exact h1 v hv
   . rw[ad8,ad8,h2,hf u c h]
open Classical in
theorem aeH(hu:X.A.units+2<cLine):iX X (compareOp .In) (abP X.K):=by
 intro pins s σ H x y v u Q I rx ry h
 obtain⟨t,p,b,ts,bs,rfl,rfl,ht,hp,hb,q⟩:=h
 cases(show v=Value.ref t from rx)
 cases(show u=Value.ref p from ry)
 obtain⟨its,rv,pl,hz⟩:=I.list hp
 have hf:∀u c,aR X.K H u (c.map V.int)->(λv:Value=>decide (∃u,v=.ref u/\aR X.K H u (b.map V.int))) (.ref u)=decide (c=b):=λu c hc=>by
  show decide _=decide _
  congr 1
  refine propext ⟨?_,?_⟩
  . rintro⟨u',e,h'⟩
    cases e
    exact vo (I.sy hc h')
  . rintro rfl
    exact⟨u,rfl,hc⟩
 obtain⟨m1,m2⟩:=B0 (A:=X.A.in1) I (by show X.A.in1.units+1<cLine;exact hu) ht (λv:Value=>decide (∃u,v=.ref u/\aR X.K H u (b.map V.int))) hf rv hb
 refine afB _ pl.isList (λw hw=>m1 w (by simpa using hw)) ⟨.bl _,H,I,rfl,?_⟩
 have e:its.toArray.any (λv:Value=>decide (∃u,v=.ref u/\aR X.K H u (b.map V.int)))=decide (b∈bs):=by
  rw[show its.toArray.any (λv:Value=>decide (∃u,v=.ref u/\aR X.K H u (b.map V.int)))=its.any (λv:Value=>decide (∃u,v=.ref u/\aR X.K H u (b.map V.int))) by simp,m2,adb,adx,ac8]
  constructor
  . rintro⟨c,hc,e⟩
    exact adh e ▸ hc
  . intro h
    exact⟨b,h,by simp⟩
 rw[e]
 exact q
end
end L2
namespace L2
open PySem PySem.Spec PyProof.Rows
mutual
inductive Dp(K:W.Frag) (H:Hp):V->PyData->Prop
 | aV:Dp K H .aV .none
 | bl (b):Dp K H (.bl b) (.bool b)
 | int (i):Dp K H (.int i) (.int i)
 | str (x):Dp K H (.str x) (.str x)
 | lst {a xs ds} : ar K H a xs->kZ K H xs ds->Dp K H (.ref a) (.list ds)
 | tup {a xs ds} : aR K H a xs->kZ K H xs ds->Dp K H (.ref a) (.tuple ds)
inductive kZ(K:W.Frag) (H:Hp):List V->List PyData->Prop
 | nil:kZ K H [] []
 | cons {x d xs ds} : Dp K H x d->kZ K H xs ds->kZ K H (x::xs) (d::ds)
end
section
variable {X:Cx}{pins:List (Addr×Obj)}{σ:St}{H:Hp}{s:Shared}
mutual
theorem Dp.reads(I:Inv X pins σ H s):∀{x:V}{d:PyData},Dp X.K H x d->∀{v:Value},RelV x v->∃as,Reads s.heap v d as
 | _,_,.aV,v,r=>by cases(show v=Value.none from r);exact⟨_,.none⟩
 | _,_,.bl b,v,r=>by cases(show v=Value.bool b from r);exact⟨_,.bool b⟩
 | _,_,.int i,v,r=>by obtain⟨t,rfl⟩:=r;exact⟨_,.int i t⟩
 | _,_,.str x,v,r=>by obtain⟨t,rfl⟩:=r;exact⟨_,.str x t⟩
 | _,_,.lst (a:=a) h1 h2,v,r=>by
  cases(show v=Value.ref a from r)
  obtain⟨its,rv,⟨o,n,e,c,dn,dt⟩,_⟩:=I.list h1
  obtain⟨as,ra⟩:=kZ.reads I h2 rv
  exact⟨_,.list e c dt ra⟩
 | _,_,.tup (a:=a) h1 h2,v,r=>by
  cases(show v=Value.ref a from r)
  obtain⟨its,rv,⟨o,e,c,n,dt⟩,_⟩:=I.tuple h1
  obtain⟨as,ra⟩:=kZ.reads I h2 rv
  exact⟨_,.tuple e c dt ra⟩
theorem kZ.reads(I:Inv X pins σ H s):∀{xs:List V}{ds:List PyData},kZ X.K H xs ds->∀{vs:List Value},Vals xs vs->∃as,ReadsAll s.heap vs ds as
 | _,_,.nil,_,.nil=>⟨_,.nil⟩
 | _,_,.cons h1 h2,_,.cons r1 r2=>by
  obtain⟨as,ra⟩:=Dp.reads I h1 r1
  obtain⟨bs,rb⟩:=kZ.reads I h2 r2
  exact⟨_,.cons ra rb⟩
end
theorem kZ.len{K:W.Frag}{H:Hp} : ∀{xs:List V}{ds:List PyData},kZ K H xs ds->xs.length=ds.length
 | _,_,.nil=>rfl
 | _,_,.cons _ t=>by rw[aaA,aaA,t.len]
theorem kZ.get{K:W.Frag}{H:Hp} : ∀{xs:List V}{ds:List PyData}{i:Nat}{d:PyData},kZ K H xs ds->ds[i]?=some d->∃x,xs[i]?=some x/\Dp K H x d
 | _,_,_,_,.nil,e=>by simp at e
 | _,_,0,_,.cons h _,e=>by simp at e;subst e;exact⟨_,rfl,h⟩
 | _,_,i+1,_,.cons _ t,e=>by
  obtain⟨x,h1,h2⟩:=kZ.get (i:=i) t (by simpa using e)
  exact⟨x,by simpa using h1,h2⟩
theorem qW{K:W.Frag}{H:Hp} : ∀(ns:List Int),kZ K H (ns.map V.int) (ns.map PyData.int)
 | []=>.nil
 | n::ns=>.cons (.int n) (qW ns)
abbrev dT(b:List Int):PyData:=.tuple (b.map PyData.int)
theorem lay_ints:∀(b:List Int),PyData.canLayAll0 (b.map PyData.int)=true
 | []=>rfl
 | _::b=>by rw[aaB,PyData.canLayAll0,lay_ints b];rfl
theorem N5(b:List Int):(dT b).canLay0=true:=by rw[PyData.canLay0];exact lay_ints b
theorem vp:∀(b:List Int),PyData.depthAll (b.map PyData.int)=0
 | []=>rfl
 | _::b=>by rw[aaB,PyData.depthAll,vp b];rfl
theorem Xw(b:List Int):(dT b).depth=1:=by rw[PyData.depth,vp]
theorem vq:∀(b c:List Int),PyData.eqvAll (b.map PyData.int) (c.map PyData.int)=decide (b=c)
 | [],[]=>rfl
 | [],_::_=>rfl
 | _::_,[]=>rfl
 | x::b,y::c=>by
  rw[aaB,aaB,PyData.eqvAll,vq b c,PyData.eqv,adb,adj,ac8,ac8,aeY,agF]
theorem N6(b c:List Int):PyData.eqv (dT b) (dT c)=decide (b=c):=by rw[PyData.eqv];exact vq b c
theorem PU(h:∀d∈l,d.canLay0=true):PyData.canLayAll0 l=true:=by
 induction l with
 | nil=>rfl
 | cons d l ih=>rw[PyData.canLayAll0,h d aas,ih λe he=>h e (aav _ he)];rfl
theorem PV(h:∀d∈l,d.depth<=n):PyData.depthAll l<=n:=by
 induction l with
 | nil=>exact aaO _
 | cons d l ih=>rw[PyData.depthAll];exact Nat.max_le.mpr ⟨h d aas,ih λe he=>h e (aav _ he)⟩
def rDp(K:W.Frag)(n:Nat)(f:PyData->PyData->Bool):R2:=λx y H Q=>∃da db,Dp K H x da/\Dp K H y db/\da.canLay0=true/\db.canLay0=true/\min da.depth db.depth<=n/\Q (.bl (f da db)) H
theorem PX(hu:X.A.units+n<cLine):iX X (compareOp .Eq) (rDp X.K n PyData.eqv):=by
 intro pins s σ H x y v u Q I rx ry h
 obtain⟨da,db,ha,hb,la,lb,hd,q⟩:=h
 obtain⟨as,ra⟩:=ha.reads I rx
 obtain⟨bs,rb⟩:=hb.reads I ry
 exact SeqAt.rcAt_reads ra rb la lb (by lia) X.prog X.w X.xe _ ⟨.bl _,H,I,rfl,q⟩
noncomputable def qe (h:Heap) (d:PyData) (v:Value):Bool:=@decide (∃e as,Reads h v e as/\e.canLay0=true/\PyData.eqv e d=true) (Classical.propDecidable _)
mutual
theorem zG{d:PyData}{v:Value}{as:List Addr}(r:Reads h v d as)(l1:d.canLay0=true){e:PyData}{bs:List Addr}(r':Reads h v e bs)(l2:e.canLay0=true):e=d:=by
 cases r with
 | none=>cases r';rfl
 | bool=>cases r';rfl
 | int=>cases r';rfl
 | str=>cases r';rfl
 | list h1 c1 d1 r1=>
  cases r' with
  | list h2 c2 d2 r2=>
   rw[h1]at h2;cases h2
   rw[d1]at d2;cases d2
   rw[nh r1 (by rw[PyData.canLay0]at l1;exact l1) r2 (by rw[PyData.canLay0]at l2;exact l2)]
  | tuple h2 c2 d2 r2=>rw[h1]at h2;cases h2;rw[c1]at c2;exact absurd c2 (by decide)
  | dict h2 c2 d2 r2 r3=>rw[PyData.canLay0]at l2;cases l2
 | tuple h1 c1 d1 r1=>
  cases r' with
  | tuple h2 c2 d2 r2=>
   rw[h1]at h2;cases h2
   rw[d1]at d2;cases d2
   rw[nh r1 (by rw[PyData.canLay0]at l1;exact l1) r2 (by rw[PyData.canLay0]at l2;exact l2)]
  | list h2 c2 d2 r2=>rw[h1]at h2;cases h2;rw[c1]at c2;exact absurd c2 (by decide)
  | dict h2 c2 d2 r2 r3=>rw[PyData.canLay0]at l2;cases l2
 | dict=>rw[PyData.canLay0]at l1;cases l1
theorem nh{ds:List PyData}{vs:List Value}{as:List Addr}(r:ReadsAll h vs ds as)(l1:PyData.canLayAll0 ds=true){es:List PyData}{bs:List Addr}(r':ReadsAll h vs es bs)(l2:PyData.canLayAll0 es=true):es=ds:=by
 cases r with
 | nil=>cases r';rfl
 | cons r1 t1=>
  cases r' with
  | cons r2 t2=>
   rw[PyData.canLayAll0,adj]at l1 l2
   rw[zG r1 l1.1 r2 l2.1,nh t1 l1.2 t2 l2.2]
end
theorem tF(r:Reads h v e as)(l:e.canLay0=true):qe h d v=PyData.eqv e d:=by
 unfold qe
 rw[adb,@ac8 _ (Classical.propDecidable _)]
 constructor
 . rintro⟨e',bs,r',l',q⟩
   rwa[zG r l r' l']at q
 . exact λq=>⟨e,as,r,l,q⟩
theorem readsAll_mem:∀{vs:List Value}{ds:List PyData}{as:List Addr},ReadsAll h vs ds as->∀v∈vs,∃d∈ds,∃bs,Reads h v d bs
 | _,_,_,.nil,v,hv=>nomatch hv
 | _,_,_,.cons r t,v,hv=>by
  rcases aaj.mp hv with rfl|hv
  . exact⟨_,aas,_,r⟩
  . obtain⟨d,hd,bs,q⟩:=readsAll_mem t v hv
    exact⟨d,aav _ hd,bs,q⟩
theorem oG:∀{vs:List Value}{ds:List PyData}{as:List Addr},ReadsAll h vs ds as->(∀e∈ds,e.canLay0=true)->vs.any (qe h d)=ds.any λe=>PyData.eqv e d
 | _,_,_,.nil,_=>rfl
 | _,_,_,.cons r t,l=>by
  rw[ad8,ad8,tF r (l _ aas),oG t λe he=>l e (aav _ he)]
theorem readsAll_get:∀{vs:List Value}{ds:List PyData}{as:List Addr},ReadsAll h vs ds as->∀(i:Nat) (h1:i<vs.length) (h2:i<ds.length),∃bs,Reads h vs[i] ds[i] bs
 | _,_,_,.nil,i,h1,_=>absurd h1 (adE _)
 | _,_,_,.cons r t,0,_,_=>⟨_,r⟩
 | _,_,_,.cons r t,i+1,h1,h2=>readsAll_get t i (agw h1) (agw h2)
def abQ(K:W.Frag)(n:Nat)(neg:Bool):R2:=λx y H Q=>∃(p:Addr) (xs:List V) (d:PyData) (ds:List PyData),y=.ref p/\(ar K H p xs\/aR K H p xs)/\kZ K H xs ds/\Dp K H x d/\d.canLay0=true/\(∀e∈ds,e.canLay0=true)/\d.depth<=n/\
 Q (.bl (if neg=true then !(ds.any λe=>PyData.eqv e d) else ds.any λe=>PyData.eqv e d)) H
theorem aeJ(hu:X.A.units+n+1<cLine):iX X (compareOp .In) (abQ X.K n false):=by
 intro pins s σ H x y v u Q I rx ry h
 obtain⟨p,xs,d,ds,rfl,hq,wj,hd,ld,xh,hn,q⟩:=h
 cases(show u=Value.ref p from ry)
 obtain⟨bs,rb⟩:=hd.reads I rx
 have key:∀{vs:List Value}{as:List Addr},ReadsAll s.heap vs ds as->∀w∈vs,SeqAt.EqAt X.A.in1 s w v (qe s.heap d w):=λra w hw=>by
  obtain⟨e,he,cs,rc⟩:=readsAll_mem ra w hw
  rw[tF rc (xh e he)]
  exact agt e d X.A.in1 s w v cs bs rc rb (xh e he) ld (by show X.A.units+1+min e.depth d.depth<cLine;lia)
 rcases hq with hq|hq
 . obtain⟨its,r,pl,hz⟩:=I.list hq
   obtain⟨as,ra⟩:=wj.reads I r
   refine afB (qe s.heap d) pl.isList (λw hw=>key ra w (by simpa using hw)) ⟨.bl _,H,I,rfl,?_⟩
   rw[show its.toArray.any (qe s.heap d)=its.any (qe s.heap d) by simp,oG ra xh]
   exact q
 . obtain⟨its,r,pl,hz⟩:=I.tuple hq
   obtain⟨as,ra⟩:=wj.reads I r
   refine SeqAt.in_tupleAt (qe s.heap d) pl (λw hw=>key ra w (by simpa using hw)) ⟨.bl _,H,I,rfl,?_⟩
   rw[show its.toArray.any (qe s.heap d)=its.any (qe s.heap d) by simp,oG ra xh]
   exact q
def yi(K:W.Frag)(n:Nat):V->List V->Hp->VK->Prop:=λx ys H Q=>∃(p:Addr) (y:V) (xs:List V) (d:PyData) (ds:List PyData),x=.ref p/\ys=[y]/\ar K H p xs/\kZ K H xs ds/\Dp K H y d/\d.canLay0=true/\(∀e∈ds,e.canLay0=true)/\d.depth<=n/\∃j,∃hj:j<ds.length,PyData.eqv ds[j] d=true/\(∀i (hi:i<ds.length),i<j->PyData.eqv ds[i] d=false)/\Q (.int (j:Int)) H
theorem JZ{n:Nat}(hu:X.A.units+n+1<cLine):QU X "list.index" (yi X.K n):=by
 intro pins s σ H x ys v us Q I rx rv h
 obtain⟨p,y,xs,d,ds,rfl,rfl,hq,wj,hd,ld,xh,hn,j,hj,hit,BV,q⟩:=h
 cases(show v=Value.ref p from rx)
 obtain⟨u,rfl,ru⟩:=rv.one
 obtain⟨bs,rb⟩:=hd.reads I ru
 obtain⟨its,r,⟨⟨cls,dd,data,sl⟩,m,ho,hc,YI,YJ⟩,hz⟩:=I.list hq
 simp only at hc YI YJ
 subst hc YI YJ
 obtain⟨as,ra⟩:=wj.reads I r
 have l1:=r.length
 have l2:=wj.len
 have hjl:j<its.length:=by lia
 have oZ:sizeLine<=2 ^ 60:=by decide
 have hsm:(j:Int)<2 ^ 63-1:=by
  have:j<2 ^ 60:=by lia
  lia
 refine ae0 F.slot_list_index ⟨_,ho,rfl⟩ F.entry_list_index (F.args_list_index_2 _ _) (SeqAt.list_indexAt p its.toArray m none sl u (qe s.heap d) j (by simpa using hjl) hsm ?_ ?_) ⟨ho,λw hw=>?_,⟨.int j,H,I.tok _,⟨_,rfl⟩,q⟩⟩
 . obtain⟨cs,rc⟩:=readsAll_get ra j hjl hj
   show qe s.heap d its[j]=true
   rw[tF rc (xh _ (adf hj)),hit]
 . intro i hi eE
   have IX:i<its.length:=by simpa using hi
   obtain⟨cs,rc⟩:=readsAll_get ra i IX (by lia)
   show qe s.heap d its[i]=false
   rw[tF rc (xh _ (adf _)),BV i (by lia) eE]
 . obtain⟨e,he,cs,rc⟩:=readsAll_mem ra w (by simpa using hw)
   rw[tF rc (xh e he)]
   exact agt e d X.A.in1 s w u cs bs rc rb (xh e he) ld (by show X.A.units+1+min e.depth d.depth<cLine;lia)
end
section
variable {X:Cx}
def abR(K:W.Frag)(neg:Bool):R2:=λx y H Q=>∃(p p':Addr) (xs:List V),x=.ref p/\y=.ref p'/\ar K H p xs/\ar K H p' []/\Q (.bl (if neg=true then !xs.isEmpty else xs.isEmpty)) H
theorem Sq(hu:X.A.units<cLine):iX X (compareOp .Eq) (abR X.K false):=by
 intro pins s σ H x y v u Q I rx ry h
 obtain⟨p,p',xs,rfl,rfl,h1,h2,q⟩:=h
 cases(show v=Value.ref p from rx)
 cases(show u=Value.ref p' from ry)
 obtain⟨its,rv,pl,hz⟩:=I.list h1
 obtain⟨its',EI,N4,Er⟩:=I.list h2
 have l1:=rv.length
 have l2:=EI.length
 cases xs with
 | nil=>
  have key:=SeqAt.RcAt.lists (A:=X.A) (s:=s) (e:=λ_=>true) pl.isList N4.isList (by simp only[aan];lia) hu (λj g1 g2=>by simp only[aan,aeC]at g1 l1;lia) X.prog X.w X.xe
  refine key _ ?_
  rw[show ((List.range its.toArray.size).all λ_=>true)=true by simp]
  exact⟨.bl true,H,I,rfl,q⟩
 | cons a xs=>
  have key:=SeqAt.RcAt.lists_lengths (A:=X.A) (s:=s) pl.isList N4.isList (by simp only[aan,aaA,aeC]at l1 l2 ⊢;rw[← l1,← l2];rfl) hu X.prog X.w X.xe
  exact key _ ⟨.bl false,H,I,rfl,q⟩
end
inductive Tr where
 | leaf (b:Bool)|node (n:Str) (l r:Tr)
 deriving DecidableEq
def Tr.dep:Tr->Nat
 | .leaf _=>0
 | .node _ l r=>max l.dep r.dep+1
def jx(h:Heap):Tr->Value->Prop
 | .leaf b,v=>v=.bool b
 | .node n l r,v=>∃a o k t vl vr,v=.ref a/\h.get? a=some o/\o.cls=.type "tuple" /\ o.data=.seq #[.str n t,vl,vr] k/\jx h l vl/\jx h r vr
def o9(w:World):Tr->Int
 | .leaf b=>reduceHash (if b=true then 1 else 0)
 | .node n l r=>reduceHash (Builtin.Tuple.tupleHashOf [hashStr w n,o9 w l,o9 w r])
def mY:Tr->Nat
 | .leaf _=>1
 | .node _ l r=>1+mY l+mY r+1
theorem jx.inj{h:Heap}{x y:Tr}{v:Value}(h1:jx h x v)(h2:jx h y v):x=y:=by
 induction x generalizing y v with
 | leaf b=>
  cases(show v=.bool b from h1)
  cases y with
  | leaf c=>
   injection (show Value.bool _=Value.bool _ from h2) with e
   rw[e]
  | node=>
   obtain⟨_,_,_,_,_,_,e2,_⟩:=h2
   cases e2
 | node n l r il ir=>
  obtain⟨a,o,k,t,vl,vr,e,g,_,d,hl,hr⟩:=h1
  cases y with
  | leaf c=>
   cases(show v=.bool c from h2)
   cases e
  | node=>
   obtain⟨a',o',k',t',vl',vr',e',g',_,d',rO,J0⟩:=h2
   rw[e]at e'
   injection e' with ea
   subst ea
   rw[g]at g'
   injection g' with eo
   subst eo
   rw[d]at d'
   injection d' with e1 e2
   have YK:=congrArg Array.toList e1
   simp only[agF,ahp]at YK
   obtain⟨q1,q2,q3⟩:=YK
   injection q1 with n1 _
   subst n1 q2 q3
   rw[il hl rO,ir hr J0]
theorem jx.keep(k:∀a o its n,h.get? a=some o->o.cls=.type "tuple" -> o.data=.seq its n->h'.get? a=some o){t:Tr}{v:Value}(z:jx h t v):jx h' t v:=by
 induction t generalizing v with
 | leaf=>exact z
 | node _ _ _ il ir=>
  obtain⟨a,o,n,t,vl,vr,e,g,c,d,hl,hr⟩:=z
  exact⟨a,o,n,t,vl,vr,e,k _ _ _ _ g c d,c,d,il hl,ir hr⟩
section
variable {prog:Program}{w:World}{E:Value->Shared->Prop}
theorem jx.hash(t:Tr):∀(v:Value) (A:Around) (s:Shared) (Q:Int->Shared->Prop),jx s.heap t v->A.units+t.dep<cLine->Q (o9 w t) {s with toks:=s.toks+mY t} -> wpAny (model prog w) A (pyHash v) Q E s:=by
 induction t with
 | leaf b=>
  intro v A s Q e hu q
  cases(show v=.bool b from e)
  refine W.pyHash_slot (T:="bool") rfl PySem.F.slot_bool_hash entry_int_hash (args_int_hash _) (beq_builtin_none _) (.inr (by lia)) ?_
  cases b
  . exact(show wpAny _ _ (do ret (← mkInt 0)) _ _ s from aad (wpAny_mkInt (aao ⟨_,_,rfl,q⟩)))
  . exact(show wpAny _ _ (do ret (← mkInt 1)) _ _ s from aad (wpAny_mkInt (aao ⟨_,_,rfl,q⟩)))
 | node n l r il ir=>
  intro v A s Q z hu q
  obtain⟨a,o,k,t,vl,vr,e,g,c,d,hl,hr⟩:=z
  subst e
  have JY:A.units+(max l.dep r.dep+1)<cLine:=hu
  refine W.pyHash_slot (T:="tuple") ⟨o,g,c⟩ PySem.F.slot_tuple_hash PySem.F.entry_tuple_hash (PySem.F.args_tuple_hash_1 _) (beq_builtin_none _) (.inr (by lia)) ?_
  show wpAny _ _ (Builtin.Tuple.tupleItemsOf (.ref a) >>= _) _ _ s
  refine aad (wpAny_tupleItemsOf g d (aad ?_))
  rw[← ahb]
  refine wpAny_forIn_list _ (λrest (b:Array Int) z=>(rest=[.str n t,vl,vr]/\b = #[]/\z=s)\/(rest=[vl,vr]/\b = #[hashStr w n]/\z = {s with toks:=s.toks+1})\/(rest=[vr]/\b = #[hashStr w n,o9 w l]/\z = {s with toks:=s.toks+(1+mY l)})\/(rest=[]/\b = #[hashStr w n,o9 w l,o9 w r]/\z = {s with toks:=s.toks+(1+mY l+mY r)})) _ ?_ ?_ _ _ (.inl ⟨rfl,rfl,rfl⟩)
  . rintro x rest b z (⟨e1,rfl,rfl⟩|⟨e1,rfl,rfl⟩|⟨e1,rfl,rfl⟩|⟨e1,_⟩)
    . injection e1 with e1 e2
      subst e1 e2
      exact aad (wpAny_pyHash_str (aao (.inr (.inl ⟨rfl,rfl,rfl⟩))))
    . injection e1 with e1 e2
      subst e1 e2
      exact aad (il _ _ _ _ hl (by simp only[Around.in1_units];lia) (aao (.inr (.inr (.inl ⟨rfl,rfl,by simp only[agg]⟩)))))
    . injection e1 with e1 e2
      subst e1 e2
      exact aad (ir _ _ _ _ hr (by simp only[Around.in1_units];lia) (aao (.inr (.inr (.inr ⟨rfl,rfl,by simp only[agg]⟩)))))
    . cases e1
  . rintro b z (⟨e1,_⟩|⟨e1,_⟩|⟨e1,_⟩|⟨_,rfl,rfl⟩)
    . cases e1
    . cases e1
    . cases e1
    . exact(show wpAny _ _ (retInt _) _ _ _ from aad (wpAny_mkInt (aao ⟨_,_,rfl,by simpa only[agg,mY,o9]using q⟩)))
theorem jx.calm(t:Tr):∀(v:Value) (k:Nat) (A:Around) (s:Shared) (Q:Bool->Shared->Prop),jx s.heap t v->t.dep<=k->Q true s->wpAny (model prog w) A (eqIsQuiet k v) Q E s:=by
 induction t with
 | leaf b=>
  intro v k A s Q e _ q
  cases(show v=.bool b from e)
  rw[eqIsQuiet_byValue _ rfl]
  exact aao q
 | node n l r il ir=>
  intro v k A s Q z hk q
  obtain⟨a,o,m,t,vl,vr,e,g,c,d,hl,hr⟩:=z
  obtain⟨k,rfl⟩:=Nat.exists_eq_add_of_le' (aam (Nat.le_add_left 1 _) hk)
  subst e
  have nr:max l.dep r.dep+1<=k+1:=hk
  have hT:s.TypeIs (.ref a) "tuple":=⟨o,g,c⟩
  unfold eqIsQuiet
  refine aad (ae2 hT PySem.F.slot_tuple_eq.lookup ?_)
  show wpAny _ _ (isInstance (.ref a) (.type "tuple") >>= _) _ _ s
  refine aad (agq hT isSubtype_tuple_tuple ?_)
  simp only[Bool.not_true,aeh,ae4]
  refine aad (adu g d (aad ?_))
  show wpAny _ _ (forIn #[Value.str n t,vl,vr] _ _) _ _ s
  rw[← ahb]
  refine wpAny_forIn_list _ (λrest x z=>x.1=none/\z=s/\(rest=[.str n t,vl,vr]\/rest=[vl,vr]\/rest=[vr]\/rest=[])) _ ?_ ?_ _ _ ⟨rfl,rfl,.inl rfl⟩
  . rintro x rest b z ⟨hb,rfl,e1|e1|e1|e1⟩
    . injection e1 with e1 e2
      subst e1 e2
      rw[eqIsQuiet_byValue _ rfl]
      refine aad (aao ?_)
      rw[aaz (show ¬ (!true)=true by decide)]
      exact aao ⟨rfl,rfl,.inr (.inl rfl)⟩
    . injection e1 with e1 e2
      subst e1 e2
      refine aad (il _ k _ _ _ hl (by lia) ?_)
      rw[aaz (show ¬ (!true)=true by decide)]
      exact aao ⟨rfl,rfl,.inr (.inr (.inl rfl))⟩
    . injection e1 with e1 e2
      subst e1 e2
      refine aad (ir _ k _ _ _ hr (by lia) ?_)
      rw[aaz (show ¬ (!true)=true by decide)]
      exact aao ⟨rfl,rfl,.inr (.inr (.inr rfl))⟩
    . cases e1
  . rintro⟨r1,r2⟩ z ⟨hb,rfl,_⟩
    simp only at hb
    subst hb
    exact aao q
end
def Tr.pd:Tr->PyData
 | .leaf b=>.bool b
 | .node n l r=>.tuple [.str n,l.pd,r.pd]
def Tr.J1:Tr->Prop
 | .leaf _=>True
 | .node n l r=>PyData.strOk n=true/\l.J1/\r.J1
theorem Tr.xi:∀t:Tr,t.J1->t.pd.canLay0=true
 | .leaf _,_=>rfl
 | .node n l r,⟨h1,h2,h3⟩=>by
  rw[Tr.pd,PyData.canLay0]
  refine PU λd hd=>?_
  have:d=.str n\/d=l.pd\/d=r.pd:=by simpa using hd
  rcases this with rfl|rfl|rfl
  . rw[PyData.canLay0]
    exact h1
  . exact l.xi h2
  . exact r.xi h3
theorem Tr.Ca:∀t:Tr,t.pd.depth<=t.dep
 | .leaf _=>aaf _
 | .node n l r=>by
  rw[Tr.pd,PyData.depth,Tr.dep]
  have hl:=l.Ca
  have hr:=r.Ca
  have:PyData.depthAll [.str n,l.pd,r.pd]<=max l.dep r.dep:=PV λd hd=>by
   have:d=.str n\/d=l.pd\/d=r.pd:=by simpa using hd
   rcases this with rfl|rfl|rfl
   . exact aaO _
   . lia
   . lia
  lia
theorem Tr.Cb:∀x y:Tr,PyData.eqv x.pd y.pd=decide (x=y)
 | .leaf a,.leaf b=>by
  rw[Tr.pd,Tr.pd,PyData.eqv,adb,ac8]
  simp
 | .leaf _,.node ..=>by rw[aaH (by intro z;cases z)];rfl
 | .node ..,.leaf _=>by rw[aaH (by intro z;cases z)];rfl
 | .node n l r,.node n' l' r'=>by
  rw[Tr.pd,Tr.pd,PyData.eqv]
  have h1:=Tr.Cb l l'
  have h2:=Tr.Cb r r'
  have h3:PyData.eqv (.str n) (.str n')=decide (n=n'):=by rw[PyData.eqv,adb,ac8];simp
  simp only[PyData.eqvAll,h1,h2,h3,afx]
  rw[adb]
  simp
theorem jx.reads:∀{t:Tr}{v:Value},jx h t v->∃as,Reads h v t.pd as
 | .leaf b,v,e=>by cases(show v=.bool b from e);exact⟨_,.bool b⟩
 | .node ..,_,⟨a,o,k,t,vl,vr,e,g,c,d,hl,hr⟩=>by
  subst e
  obtain⟨as,ra⟩:=hl.reads
  obtain⟨bs,rb⟩:=hr.reads
  exact⟨_,.tuple g c d (.cons (.str _ _) (.cons ra (.cons rb .nil)))⟩
def Sr(prog:Program)(w:World):HeapKind prog w Tr where
 is:=λh t a=>jx h t (.ref a)/\t.dep<=8/\t.J1
 hash:=o9 w
 draws:=mY
 room:=λA=>A.units+16<cLine
 inj:=λhx hy=>hx.1.inj hy.1
 keeps:=λhk g d sb=>by
  refine⟨hk.1.keep λa o its n ga _ da=>sb.extBut a o (λe=>?_) ga,hk.2⟩
  subst e
  rw[ga]at g
  injection g with eo
  subst eo
  rw[da]at d
  cases d
 pyHash:=λ{A E s k a Q} hu hk q=>jx.hash k (.ref a) A s Q hk.1 (by have:=hk.2.1;lia) q
 eqBool:=λ{A E s x y a b Q} hu hx hy q=>by
  obtain⟨as,ra⟩:=hx.1.reads
  obtain⟨bs,rb⟩:=hy.1.reads
  have d1:=x.Ca
  have h8:=hx.2.1
  have z:=agt x.pd y.pd A s _ _ as bs ra rb (x.xi hx.2.2) (y.xi hy.2.2) (by lia)
  rw[Tr.Cb]at z
  exact z prog w E Q q
 quiet:=λ{A E s k a Q} hk q=>jx.calm k (.ref a) 8 A s Q hk.1 hk.2.1 q
abbrev abS(L:List (Tr×Addr×V)) (vs:List (Tr×Addr×Value)):Prop:=Paired (λp q=>p.1=q.1/\p.2.1=q.2.1/\RelV p.2.2 q.2.2) L vs
def YL(P:Program)(w:World)(a:Addr) (L:List (Tr×Addr×V)) (h:Heap):Prop:=
 L.length<=sizeLine/\(a == sysModules)=false/\∃vs,abS L vs/\∃o es ep,h.get? a=some o/\o.ExactDict/\o.data=.dict es ep/\es.toList=vs.map (entryOfKey (Sr P w))/\(vs.map (·.1)).Nodup
def tG(P:Program)(w:World)(a:Addr) (L:List (Tr×Addr×V)):HO:=.ext (YL P w a L)
theorem Ss(x:YL P w a L h):bU P w H h a (tG P w a L):=by
 refine⟨x,?_,λh1 h2 y k=>?_⟩
 . obtain⟨_,_,vs,_,o,_,_,g,_⟩:=x
   exact⟨o,g⟩
 . obtain⟨y0,y1,vs,y2,o,es,ep,g,r⟩:=y
   exact⟨y0,y1,vs,y2,o,es,ep,k o g,r⟩
def ff(H:Hp):Tr->V->Prop
 | .leaf b,v=>v=.bl b
 | .node n l r,v=>∃a vl vr,v=.ref a/\H a=some (.tup [.str n,vl,vr])/\ff H l vl/\ff H r vr
theorem ff.keep(k:∀a xs,H a=some (.tup xs)->H' a=some (.tup xs)):∀{t:Tr}{v:V},ff H t v->ff H' t v
 | .leaf _,_,e=>e
 | .node ..,_,⟨a,vl,vr,e,g,hl,hr⟩=>⟨a,vl,vr,e,k _ _ g,hl.keep k,hr.keep k⟩
structure Cc(H:Hp) (t:Tr) (b:Addr):Prop where
 at_:ff H t (.ref b)
 d8:t.dep<=8
 sk:t.J1
theorem Cc.keep(h:Cc H t b) (k:∀a xs,H a=some (.tup xs)->H' a=some (.tup xs)):Cc H' t b:=⟨h.at_.keep k,h.d8,h.sk⟩
section
variable {X:Cx}{o i value e:Expr}{pos pos' apos eY:Pos}{td ty tv:TE}
def Xx(P:Program)(w:World):TE:=λ_ H Q=>∀p,H p=none->Q (.ref p) (upd H p (tG P w p []))
theorem LS:PE X (.Dict [] [] pos) (Xx X.prog X.w):=λpins s σ H Q I h=>
 agj ⟨.ref s.heap.objs.size,_,I.laid (a:=s.heap.objs.size) (o:=tG X.prog X.w s.heap.objs.size []) (t':=s.toks) (λ_ _ q=>aac _ q) (aaf _)
  (Ss ⟨aaO _,adt.mpr (aax (aaD I.big)),[],.nil,_,#[],0,aaq _ rfl,⟨rfl,rfl,rfl⟩,rfl,rfl,adN⟩),rfl,h _ (I.hok.fresh (aaf _))⟩
end
end L2
namespace Gen
open PySem L2
def ev(e:Str->Bool):Tr->Bool
 | .leaf b=>b
 | .node n l r=>if e n then ev e r else ev e l
inductive eW:List Str->Tr->Prop
 | leaf (ns:List Str) (b:Bool):eW ns (.leaf b)
 | node {n:Str}{r:List Str}{l h:Tr} : l≠h->eW r l->eW r h->eW (n::r) (.node n l h)
 | skip {n:Str}{r:List Str}{t:Tr} : eW r t->eW (n::r) t
def put(e:Str->Bool)(n:Str)(b:Bool):Str->Bool:=λz=>if z=n then b else e z
theorem jU(h:eW ns t)(hn:n∉ns)(e:Str->Bool)(b:Bool):ev (put e n b) t=ev e t:=by
 induction h with
 | leaf=>rfl
 | @node k r l h _ _ _ J2 J4=>
  rw[aaj,afq]at hn
  unfold ev
  rw[J2 hn.2,J4 hn.2]
  have:put e n b k=e k:=aaz λq=>hn.1 q.symm
  rw[this]
 | @skip k r t _ ih=>
  rw[aaj,afq]at hn
  exact ih hn.2
theorem jE:∀{ns:List Str}{t t':Tr},ns.Nodup->eW ns t->eW ns t'->(∀e,ev e t=ev e t')->t=t'
 | [],_,_,_,.leaf _ a,.leaf _ b,h=>by rw[show a=b from h λ_=>true]
 | n::r,t,t',hn,h1,h2,h=>by
  rw[aaP]at hn
  have split:∀{l u x:Tr},eW r l->eW r u->eW r x->(∀e,ev e (.node n l u)=ev e x)->l=u:=λ{l u x} cl cu cx hh=>by
   have e1:l=x:=jE hn.2 cl cx λe=>by
    have:=hh (put e n false)
    rw[jU cx hn.1]at this
    rw[← this,ev,show put e n false n=false from aaF rfl,aaz (by decide),jU cl hn.1]
   have e2:u=x:=jE hn.2 cu cx λe=>by
    have:=hh (put e n true)
    rw[jU cx hn.1]at this
    rw[← this,ev,show put e n true n=true from aaF rfl,aaF rfl,jU cu hn.1]
   rw[e1,e2]
  have both:∀{l u l' u':Tr},eW r l->eW r u->eW r l'->eW r u'->(∀e,ev e (.node n l u)=ev e (.node n l' u'))->l=l'/\u=u':=λ{l u l' u'} cl cu N7 N8 hh=>by
   refine⟨jE hn.2 cl N7 λe=>?_,jE hn.2 cu N8 λe=>?_⟩
   . have:=hh (put e n false)
     rw[ev,ev,show put e n false n=false from aaF rfl,aaz (by decide),aaz (by decide),jU cl hn.1,jU N7 hn.1]at this
     exact this
   . have:=hh (put e n true)
     rw[ev,ev,show put e n true n=true from aaF rfl,aaF rfl,aaF rfl,jU cu hn.1,jU N8 hn.1]at this
     exact this
  cases h1 with
  | leaf _ a=>
   cases h2 with
   | leaf _ b=>rw[show a=b from h λ_=>true]
   | node ne cl cu=>exact absurd (split cl cu (.leaf r a) λe=>(h e).symm) ne
   | skip c=>exact jE hn.2 (.leaf r a) c h
  | node ne cl cu=>
   cases h2 with
   | leaf _ b=>exact absurd (split cl cu (.leaf r b) h) ne
   | node ne' N7 N8=>
    obtain⟨q1,q2⟩:=both cl cu N7 N8 h
    rw[q1,q2]
   | skip c=>exact absurd (split cl cu c h) ne
  | skip c=>
   cases h2 with
   | leaf _ b=>exact jE hn.2 c (.leaf r b) h
   | node ne cl cu=>exact absurd (split cl cu c λe=>(h e).symm) ne
   | skip c'=>exact jE hn.2 c c' h
theorem nP(h:eW ns t):t.dep<=ns.length:=by
 induction h with
 | leaf=>exact aaO _
 | node _ _ _ i1 i2=>unfold Tr.dep;rw[aaA];lia
 | skip _ i=>rw[aaA];lia
theorem Su(h:eW b t):eW (a++b) t:=by
 induction a with
 | nil=>exact h
 | cons n a ih=>exact .skip ih
theorem iG{ns:List Str}{i j:Nat}{t:Tr}(h:eW (ns.drop j) t) (Br:i<=j):eW (ns.drop i) t:=by
 have e:ns.drop j=(ns.drop i).drop (j-i):=by rw[List.drop_drop];congr 1;lia
 rw[e]at h
 rw[← adM (j-i) (ns.drop i)]
 exact Su h
def neg:Tr->Tr
 | .leaf b=>.leaf (!b)
 | .node n l r=>.node n (neg l) (neg r)
abbrev Nd:=Nat×Nat×Nat
def aA(N:List Nd)(i:Nat):Nat:=(N.getD i (0,0,0)).1
def low(N:List Nd)(i:Nat):Nat:=(N.getD i (0,0,0)).2.1
def dZ(N:List Nd)(i:Nat):Nat:=(N.getD i (0,0,0)).2.2
def aq(TS:List Tr)(i:Nat):Tr:=TS.getD i (.leaf false)
structure FS(names:List Str) (N:List Nd) (TS:List Tr):Prop where
 len:N.length=TS.length
 two:2<=N.length
 z0:N.getD 0 (0,0,0)=(names.length,0,0)
 z1:N.getD 1 (0,0,0)=(names.length,1,1)
 t0:aq TS 0=.leaf false
 t1:aq TS 1=.leaf true
 nd:∀i,2<=i->i<N.length->aA N i<names.length/\low N i<i/\dZ N i<i/\low N i≠dZ N i/\aA N i<aA N (low N i)/\aA N i<aA N (dZ N i)/\aq TS i=.node (names.getD (aA N i) "") (aq TS (low N i)) (aq TS (dZ N i))
 uq:∀i j,2<=i->2<=j->i<N.length->j<N.length->N.getD i (0,0,0)=N.getD j (0,0,0)->i=j
section
variable {names:List Str}{N:List Nd}{TS:List Tr}
theorem FS.inj(h:FS names N TS)(hn:names.Nodup):∀i j,i<N.length->j<N.length->aq TS i=aq TS j->i=j:=by
 intro i
 induction i using Nat.strongRecOn with
 | ind i ih=>
  intro j hi hj e
  have An:∀k,k<2->aq TS k=.leaf (decide (k=1)):=λk hk=>by
   rcases (show k=0\/k=1 by lia) with rfl|rfl
   . exact h.t0
   . exact h.t1
  by_cases i2:i<2
  . by_cases j2:j<2
    . rw[An i i2,An j j2]at e
      injection e with e
      rcases (show i=0\/i=1 by lia) with rfl|rfl <;> rcases (show j=0\/j=1 by lia) with rfl|rfl <;> first|rfl|(revert e;decide)
    . rw[An i i2,(h.nd j (by lia) hj).2.2.2.2.2.2]at e
      cases e
  . by_cases j2:j<2
    . rw[An j j2,(h.nd i (by lia) hi).2.2.2.2.2.2]at e
      cases e
    . obtain⟨a1,a2,a3,_,_,_,a7⟩:=h.nd i (by lia) hi
      obtain⟨b1,b2,b3,_,_,_,b7⟩:=h.nd j (by lia) hj
      rw[a7,b7]at e
      injection e with e1 e2 e3
      have q2:=ih _ a2 _ (by lia) (by lia) e2
      have q3:=ih _ a3 _ (by lia) (by lia) e3
      have q1:aA N i=aA N j:=by
       rw[aai,aai,aab a1,aab b1]at e1
       exact(agi hn).mp e1
      refine h.uq i j (by lia) (by lia) hi hj ?_
      exact ag8 q1 (ag8 q2 q3)
theorem FS.zH(h:FS names N TS)(hn:names.Nodup):∀i,i<N.length->eW (names.drop (aA N i)) (aq TS i):=by
 intro i
 induction i using Nat.strongRecOn with
 | ind i ih=>
  intro hi
  by_cases i2:i<2
  . rcases (show i=0\/i=1 by lia) with rfl|rfl
    . rw[h.t0]
      exact .leaf _ _
    . rw[h.t1]
      exact .leaf _ _
  . obtain⟨a1,a2,a3,a4,a5,a6,a7⟩:=h.nd i (by lia) hi
    rw[a7,ad3 a1,aai,aab a1]
    refine .node (λq=>a4 (h.inj hn _ _ (by lia) (by lia) q)) (iG (ih _ a2 (by lia)) a5) (iG (ih _ a3 (by lia)) a6)
theorem qX{α:Type}{l m:List α}{d:α}{i:Nat}(h:i<l.length):(l++m).getD i d=l.getD i d:=by
 rw[aai,aai,adI h]
theorem qY{α:Type}{l:List α}{x d:α} : (l++[x]).getD l.length d=x:=by
 rw[aai,adF (aaf _),ahm]
 rfl
theorem FS.push(h:FS names N TS){s l u:Nat}(hs:s<names.length)(hl:l<N.length)(hu:u<N.length)(ne:l≠u)(s1:s<aA N l)(s2:s<aA N u) (m9:∀i,2<=i->i<N.length->N.getD i (0,0,0)≠(s,l,u)) :
 FS names (N++[(s,l,u)]) (TS++[.node (names.getD s "") (aq TS l) (aq TS u)]):=by
 have h2:=h.two
 have hlen:=h.len
 have lL:∀i,i<N.length->(N++[(s,l,u)]).getD i (0,0,0)=N.getD i (0,0,0):=λi hi=>qX hi
 have vt:∀i,i<N.length->aq (TS++[.node (names.getD s "") (aq TS l) (aq TS u)]) i=aq TS i:=λi hi=>qX (by lia)
 have Cd:(N++[(s,l,u)]).getD N.length (0,0,0)=(s,l,u):=qY
 refine⟨by rw[aag,aag,hlen];rfl,by rw[aag];lia,by rw[lL 0 (by lia)];exact h.z0,by rw[lL 1 (by lia)];exact h.z1,by rw[vt 0 (by lia)];exact h.t0,by rw[vt 1 (by lia)];exact h.t1,λi i2 hi=>?_,λi j i2 j2 hi hj e=>?_⟩
 . rw[aag,abc]at hi
   by_cases q:i<N.length
   . obtain⟨a1,a2,a3,a4,a5,a6,a7⟩:=h.nd i i2 q
     have e1:aA (N++[(s,l,u)]) i=aA N i:=by unfold aA;rw[lL i q]
     have e2:low (N++[(s,l,u)]) i=low N i:=by unfold low;rw[lL i q]
     have e3:dZ (N++[(s,l,u)]) i=dZ N i:=by unfold dZ;rw[lL i q]
     have e4:aA (N++[(s,l,u)]) (low N i)=aA N (low N i):=by unfold aA;rw[lL _ (by lia)]
     have e5:aA (N++[(s,l,u)]) (dZ N i)=aA N (dZ N i):=by unfold aA;rw[lL _ (by lia)]
     rw[e1,e2,e3,e4,e5,vt i q,vt _ (by lia),vt _ (by lia)]
     exact⟨a1,a2,a3,a4,a5,a6,a7⟩
   . have ei:i=N.length:=by lia
     subst ei
     have e1:aA (N++[(s,l,u)]) N.length=s:=by unfold aA;rw[Cd]
     have e2:low (N++[(s,l,u)]) N.length=l:=by unfold low;rw[Cd]
     have e3:dZ (N++[(s,l,u)]) N.length=u:=by unfold dZ;rw[Cd]
     have e4:aA (N++[(s,l,u)]) l=aA N l:=by unfold aA;rw[lL _ hl]
     have e5:aA (N++[(s,l,u)]) u=aA N u:=by unfold aA;rw[lL _ hu]
     rw[e1,e2,e3,e4,e5,vt _ hl,vt _ hu]
     refine⟨hs,hl,hu,ne,s1,s2,?_⟩
     rw[hlen]
     exact qY
 . rw[aag,abc]at hi hj
   by_cases qi:i<N.length
   . by_cases qj:j<N.length
     . rw[lL i qi,lL j qj]at e
       exact h.uq i j i2 j2 qi qj e
     . rw[lL i qi,show j=N.length by lia,Cd]at e
       exact absurd e (m9 i i2 qi)
   . by_cases qj:j<N.length
     . rw[lL j qj,show i=N.length by lia,Cd]at e
       exact absurd e.symm (m9 j j2 qj)
     . lia
end
abbrev GJ:Stmt:=inClass (top 7) 1
abbrev GK:Stmt:=inClass (top 7) 6
structure hZ(K:W.Frag) (mg:Str->Option Value) (C:Addr):Prop where
 cl:jQ K C
 n1:aM K C "names"
 n2:aM K C "spots"
 n3:aM K C "nodes"
 n4:aM K C "known"
 n5:aM K C "choices"
 n6:aM K C "imported"
 n7:aM K C "exported"
 mgC:mg "Forest" = some (.ref C)
def gq(nm sp nd kn ch im ex:Addr):List (Str×V):=aj "exported" (.ref ex) (aj "imported" (.ref im) (aj "choices" (.ref ch) (aj "known" (.ref kn) (aj "nodes" (.ref nd) (aj "spots" (.ref sp) (aj "names" (.ref nm) []))))))
section
variable (nm sp nd kn ch im ex:Addr)
theorem GN:(gq nm sp nd kn ch im ex).lookup ("names" : Str)=some (.ref nm):=by kernel_rfl
theorem abT:(gq nm sp nd kn ch im ex).lookup ("spots" : Str)=some (.ref sp):=by kernel_rfl
theorem oH:(gq nm sp nd kn ch im ex).lookup ("nodes" : Str)=some (.ref nd):=by kernel_rfl
theorem Sv:(gq nm sp nd kn ch im ex).lookup ("known" : Str)=some (.ref kn):=by kernel_rfl
theorem Sw:(gq nm sp nd kn ch im ex).lookup ("choices" : Str)=some (.ref ch):=by kernel_rfl
theorem Sx:(gq nm sp nd kn ch im ex).lookup ("exported" : Str)=some (.ref ex):=by kernel_rfl
theorem pH{m:Str}(h1:m ≠ "names")(h2:m ≠ "spots")(h3:m ≠ "nodes")(h4:m ≠ "known")(h5:m ≠ "choices")(h6:m ≠ "imported")(h7:m ≠ "exported"):(gq nm sp nd kn ch im ex).lookup m=none:=by
 unfold gq
 rw[ay,aaz h7,ay,aaz h6,ay,aaz h5,ay,aaz h4,ay,aaz h3,ay,aaz h2,ay,aaz h1]
 rfl
end
theorem dw{b:Bool}{A B:Prop}(h:b=false)(k:B):if b=true then A else B:=by rw[h];exact kL k
theorem di{b:Bool}{A B:Prop}(h:b=true)(k:A):if b=true then A else B:=by rw[h];exact qD k
def jV:Nat->List Str->List (Key×V)
 | _,[]=>[]
 | i,n::r=>(.inr n,.int (i:Int))::jV (i+1) r
theorem J5:∀(names:List Str) (i j:Nat) (z:Str),names.Nodup->names[j]?=some z->aG (jV i names) (.inr z)=some (V.int ((i+j:Nat):Int))
 | [],_,_,_,_,h=>by simp at h
 | n::r,i,0,z,_,h=>by
  have e:n=z:=by simpa using h
  subst e
  rw[jV,cZ rfl]
  rfl
 | n::r,i,j+1,z,hn,h=>by
  have h2:r[j]?=some z:=by simpa using h
  have hz:z≠n:=λe=>(aaP.mp hn).1 (e ▸ aaK h2)
  rw[jV,cz (λq=>hz (adC q).symm),J5 r (i+1) j z (aaP.mp hn).2 h2,show i+1+j=i+(j+1) by lia]
def jH(p:Nd):List V:=[.int (p.1:Int),.int (p.2.1:Int),.int (p.2.2:Int)]
def kY(p:Nd):List Key:=[.inl (p.1:Int),.inl (p.2.1:Int),.inl (p.2.2:Int)]
theorem yj(h:kY p=kY q):p=q:=by
 unfold kY at h
 simp only[agF,Sum.inl.injEq,ahp]at h
 obtain⟨h1,h2,h3⟩:=h
 exact ag8 (by lia) (ag8 (by lia) (by lia))
def jy:Nat->List Nd->List (List Key×V)
 | _,[]=>[]
 | i,p::r=>(kY p,.int (i:Int))::jy (i+1) r
theorem EZ:∀(l:List Nd) (i:Nat),(jy i l).length=l.length
 | [],_=>rfl
 | _::r,i=>by rw[jy,aaA,aaA,EZ r]
theorem E1:∀(a b:List Nd) (i:Nat),jy i (a++b)=jy i a++jy (i+a.length) b
 | [],b,i=>rfl
 | p::r,b,i=>by rw[aeq,jy,jy,E1 r b (i+1),aeq,aaA,show i+1+r.length=i+(r.length+1) by lia]
theorem Ce:∀(l:List Nd) (i:Nat) (p:Nd),aG (jy i l) (kY p)=none->p∉l
 | [],_,_,_=>aat
 | q::r,i,p,h=>by
  by_cases e:q=p
  . rw[e,jy,cZ rfl]at h
    cases h
  . rw[jy,cz (λz=>e (yj z))]at h
    rw[aaj,afq]
    exact⟨λz=>e z.symm,Ce r (i+1) p h⟩
theorem Cf:∀(l:List Nd) (i:Nat) (p:Nd) (v:V),aG (jy i l) (kY p)=some v->∃j,l[j]?=some p/\v=.int ((i+j:Nat):Int)
 | [],_,_,_,h=>nomatch h
 | q::r,i,p,v,h=>by
  by_cases e:q=p
  . rw[e,jy,cZ rfl]at h
    exact⟨0,by rw[e];rfl,(aay h).symm⟩
  . rw[jy,cz (λz=>e (yj z))]at h
    obtain⟨j,h1,h2⟩:=Cf r (i+1) p v h
    exact⟨j+1,by simpa using h1,by rw[h2,show i+1+j=i+(j+1) by lia]⟩
structure de where
 N:List Nd
 TS:List Tr
 ts:List Addr
 CH:List (List Key×V)
 IM:List (Tr×Addr×V)
 EX:List (Key×V)
def vw(N:List Nd)(TS:List Tr)(e:List Key×V):Prop:=∃t h l n:Nat,e.1=[.inl (t:Int),.inl (h:Int),.inl (l:Int)]/\e.2=.int (n:Int)/\t<N.length/\h<N.length/\l<N.length/\n<N.length/\
 (∀v,ev v (aq TS n)=if ev v (aq TS t)=true then ev v (aq TS h) else ev v (aq TS l))/\min (aA N t) (min (aA N h) (aA N l))<=aA N n
structure FO(P:Program) (w:World) (C:Addr) (H:Hp) (y dy nm sp nd kn ch im ex:Addr) (names:List Str) (S:de):Prop where
 hy:H y=some (.ins C dy (gq nm sp nd kn ch im ex))
 hn:H nm=some (.lst (names.map V.str))
 hs:H sp=some (.dK (jV 0 names))
 hd:H nd=some (.lst (S.ts.map V.ref))
 ht:Paired (λt p=>H t=some (.tup (jH p))) S.ts S.N
 hk:H kn=some (.dT (jy 2 (S.N.drop 2)))
 hc:H ch=some (.dT S.CH)
 ck:∀e∈S.CH,vw S.N S.TS e
 hi:H im=some (tG P w im S.IM)
 ik:∀p∈S.IM,Cc H p.1 p.2.1/\∃i:Nat,i<S.N.length/\p.2.2=.int (i:Int)/\aq S.TS i=p.1
 he:H ex=some (.dK S.EX)
 ek:∀kv∈S.EX,∃i:Nat,kv.1=.inl (i:Int)/\i<S.N.length/\ff H (aq S.TS i) kv.2
 e0:aG S.EX (.inl 0)=some (.bl false)/\aG S.EX (.inl 1)=some (.bl true)
 fs:FS names S.N S.TS
 nn:names.Nodup
 ns:∀n∈names,PyData.strOk n=true
 n8:names.length<=8
 d1:nd≠nm
 d2:kn≠ch
 d3:sp≠ex
def Kp(H H':Hp)(nd kn ch im ex:Addr):Prop:=∀b o,H b=some o->b≠nd->b≠kn->b≠ch->b≠im->b≠ex->H' b=some o
structure Bd(S:de) (b:Nat):Prop where
 b1:S.N.length<=b
 b2:S.CH.length<=b
 b3:S.IM.length<=b
 b4:S.EX.length<=b
structure cj(S S':de):Prop where
 gn:∃a,S'.N=S.N++a
 gt:∃a,S'.TS=S.TS++a
theorem cj.refl(S:de):cj S S:=⟨⟨[],by simp⟩,⟨[],by simp⟩⟩
theorem cj.trans(a:cj S S1)(b:cj S1 S2):cj S S2:=by
 obtain⟨⟨x,hx⟩,⟨y,hy⟩⟩:=a
 obtain⟨⟨x',rW⟩,⟨y',Q2⟩⟩:=b
 exact⟨⟨x++x',by rw[rW,hx,ady]⟩,⟨y++y',by rw[Q2,hy,ady]⟩⟩
theorem cj.le(a:cj S S'):S.N.length<=S'.N.length:=by
 obtain⟨⟨x,hx⟩,_⟩:=a
 rw[hx,aag]
 lia
theorem cj.nd{S S':de}(a:cj S S'){i:Nat}(h:i<S.N.length):S'.N.getD i (0,0,0)=S.N.getD i (0,0,0):=by
 obtain⟨⟨x,hx⟩,_⟩:=a
 rw[hx]
 exact qX h
theorem cj.aA(a:cj S S')(h:i<S.N.length):Gen.aA S'.N i=Gen.aA S.N i:=by unfold Gen.aA;rw[a.nd h]
theorem cj.aq(a:cj S S')(h:i<S.TS.length):Gen.aq S'.TS i=Gen.aq S.TS i:=by
 obtain⟨_,⟨x,hx⟩⟩:=a
 unfold Gen.aq
 rw[hx]
 exact qX h
theorem vw.grow(a:cj S S')(hl:S.N.length=S.TS.length)(h:vw S.N S.TS e):vw S'.N S'.TS e:=by
 obtain⟨t,h',l,n,e1,e2,l1,l2,l3,l4,hv,hm⟩:=h
 have:=a.le
 refine⟨t,h',l,n,e1,e2,by lia,by lia,by lia,by lia,λv=>?_,?_⟩
 . rw[a.aq (by lia),a.aq (by lia),a.aq (by lia),a.aq (by lia)]
   exact hv v
 . rw[a.aA l1,a.aA l2,a.aA l3,a.aA l4]
   exact hm
section
variable {P:Program}{w:World}{K:W.Frag}{mg:Str->Option Value}{base:Heap}{C y dy nm sp nd kn ch im ex:Addr}{names:List Str}{S:de}{H H':Hp}
theorem Kp.of(s:ak H H'):Kp H H' nd kn ch im ex:=λb o h _ _ _ _ _=>s b o h
theorem Kp.trans(a:Kp H H1 nd kn ch im ex)(b:Kp H1 H' nd kn ch im ex):Kp H H' nd kn ch im ex:=λc o h h1 h2 h3 h4 h5=>b c o (a c o h h1 h2 h3 h4 h5) h1 h2 h3 h4 h5
theorem FO.jK(h:FO P w C H y dy nm sp nd kn ch im ex names S)(k:Kp H H' nd kn ch im ex):∀a xs,H a=some (.tup xs)->H' a=some (.tup xs):=λa xs e=>
 k a _ e (aD e h.hd (by intro z;cases z)) (aD e h.hk (by intro z;cases z)) (aD e h.hc (by intro z;cases z)) (aD e h.hi (by intro z;cases z)) (aD e h.he (by intro z;cases z))
theorem FO.same(h:FO P w C H y dy nm sp nd kn ch im ex names S)(s:ak H H'):FO P w C H' y dy nm sp nd kn ch im ex names S:=
 ⟨s _ _ h.hy,s _ _ h.hn,s _ _ h.hs,s _ _ h.hd,Paired.cw h.ht λ_ _ e=>s _ _ e,s _ _ h.hk,s _ _ h.hc,h.ck,s _ _ h.hi,λp hp=>⟨(h.ik p hp).1.keep λa xs e=>s _ _ e,(h.ik p hp).2⟩,s _ _ h.he,
  λkv aY=>let ⟨i,a,b,c⟩:=h.ek kv aY; ⟨i,a,b,c.keep λa xs e=>s _ _ e⟩,h.e0,h.fs,h.nn,h.ns,h.n8,h.d1,h.d2,h.d3⟩
theorem FO.node(h:FO P w C H y dy nm sp nd kn ch im ex names S){i:Nat}(hi:i<S.N.length):∃t,S.ts[i]?=some t/\H t=some (.tup (jH (S.N.getD i (0,0,0)))):=by
 obtain⟨t,h1,h2⟩:=bx h.ht (i:=i) (aab hi)
 refine⟨t,h1,?_⟩
 rw[h2,aai,aab hi]
 rfl
inductive E2(P:Program) (w:World) (C:Addr) (vs:List V) (H:Hp) (Q:VK):Prop
 | mk (y dy nm sp nd kn ch im ex:Addr) (names:List Str) (S:de) (x s:Nat) (b:Bool) (h1:vs=[.ref y,.int (x:Int),.int (s:Int),.int (if b=true then 2 else 1)]) (h2:FO P w C H y dy nm sp nd kn ch im ex names S) (h3:x<S.N.length) (h4:Q (.int ((if aA S.N x=s then (if b=true then dZ S.N x else low S.N x) else x:Nat):Int)) H):E2 P w C vs H Q
def xj(P:Program)(w:World)(C:Addr):Sp:=λvs H Q _=>E2 P w C vs H Q
theorem J6:aJ ["self", "number", "spot", "side", "node"] ["self", "number", "spot", "side"] (az GK):=fs
theorem PY{f:Addr}{fd:FuncData}(F:aK K "half" "Forest.half" GK f fd)(T:hZ K mg C):ax P w K mg base aB 1 f fd ["self", "number", "spot", "side"] (xj P w C):=by
 refine F.run J6 λcdv A outer s H vs Q E hr h=>?_
 . obtain⟨y,dy,nm,sp,nd,kn,ch,im,ex,names,S,x,s0,b,rfl,hO,hx,kk⟩:=h
   refine⟨_,ai (aP 4 J6.nd (aI (r:=eC K) aS (aE (pv 0) rfl) (pv 1) (λ_ _=>rfl)))
    (au (aL (oa (cU kI (aI (r:=eu K) cg (pv 4) ao (λ_ _=>rfl)) (pv 2) (dz _)) (aI (r:=eu K) cg (pv 4) (pv 3) (λ_ _=>rfl)) (pv 1)))),?_⟩
   obtain⟨t,h1,h2⟩:=hO.node hx
   refine⟨_,rfl,y,C,dy,_,_,rfl,hO.hy,T.cl,T.n3,oH ..,_,rfl,nd,_,_,.ref t,rfl,rfl,ar.of hO.hd,aF (by rw[aae,h1];rfl),?_⟩
   refine⟨_,rfl,t,_,0,_,rfl,rfl,aR.of h2,aF (j:=0) rfl,_,rfl,rfl,_,rfl,?_⟩
   by_cases e:aA S.N x=s0
   . rw[aaF e]at kk
     refine di (aaN (by rw[← e];rfl)) ?_
     refine⟨_,rfl,_,rfl,t,_,_,_,rfl,rfl,aR.of h2,?_,kk⟩
     cases b
     . exact aF (j:=1) rfl
     . exact aF (j:=2) rfl
   . rw[aaz e]at kk
     refine dw (aaH λz=>e ?_) ⟨_,rfl,kk⟩
     have:=V.int.inj z
     have q:((aA S.N x:Nat):Int)=(s0:Int):=this
     lia
inductive E3(P:Program) (w:World) (C:Addr) (vs:List V) (H:Hp) (Q:VK):Prop
 | mk (y dy nm sp nd kn ch im ex:Addr) (names:List Str) (S:de) (s l u b:Nat) (h1:vs=[.ref y,.int (s:Int),.int (l:Int),.int (u:Int)]) (h2:FO P w C H y dy nm sp nd kn ch im ex names S) (h3:s<names.length) (h4:l<S.N.length) (h5:u<S.N.length) (h6:s<aA S.N l) (h7:s<aA S.N u) (h8:Bd S b) (h9:b<4000000) (Ro:∀(n:Nat) (S':de) (H':Hp),FO P w C H' y dy nm sp nd kn ch im ex names S'->Kp H H' nd kn ch im ex->cj S S'->Bd S' (b+1)->S'.CH=S.CH->S'.IM=S.IM->S'.EX=S.EX->n<S'.N.length->s<=aA S'.N n->aq S'.TS n=(if l=u then aq S.TS l else .node (names.getD s "") (aq S.TS l) (aq S.TS u))->Q (.int (n:Int)) H'):E3 P w C vs H Q
def oI(P:Program)(w:World)(C:Addr):Sp:=λvs H Q _=>E3 P w C vs H Q
abbrev nNo:List Str:=["self", "spot", "low", "high", "key", "number"]
abbrev pf:List Str:=["self", "spot", "low", "high"]
theorem GQ:aJ nNo pf (az GJ):=fs
theorem big(h:n<=8000000):n<sizeLine:=adH h (by decide)
theorem LU{α:Type}{l:List α}{j:Nat}{x d:α}(h:(l.drop 2)[j]?=some x):2+j<l.length/\l.getD (2+j) d=x:=by
 rw[ae9]at h
 have:=(aak.mp h).1
 exact⟨this,by rw[aai,h];rfl⟩
theorem PZ{f:Addr}{fd:FuncData}(F:aK K "node" "Forest.node" GJ f fd)(T:hZ K mg C)(O2:iD mg):ax P w K mg base aB 1 f fd pf (oI P w C):=by
 refine F.run GQ λcdv A outer s H vs Q E hr h=>?_
 . obtain⟨y,dy,nm,sp,nd,kn,ch,im,ex,names,S,s0,l,u,b,rfl,hO,hs,hl,JY,s1,s2,hB,hb,kk⟩:=h
   have hu:=eS hr
   refine⟨_,ai (cy (cU kI (pv 2) (pv 3) (dz _)) (au (aL (pv 2))) ba)
    (ai (aP 4 GQ.nd (fZ (aa (pv 1) (aa (pv 2) (aa (pv 3) ah)))))
    (ai (aP 5 GQ.nd (vc hu (aE (pv 0) rfl) (pv 4) ⟨rfl,rfl,rfl,rfl⟩))
    (ai (cy (gw (AD (pv 5)))
     (ai (aP 5 GQ.nd (bf bw (by rfl) O2.len adm (aa (aE (pv 0) rfl) ah)))
     (ai (eI (ft aaL ac5 ac6 eJ (aE (pv 0) rfl) (aa (pv 4) ah)))
     (au (eV hu (aE (pv 0) rfl) (pv 4) (pv 5) rfl)))) ba)
    (au (aL (pv 5)))))),?_⟩
   refine⟨_,rfl,_,rfl,rfl,_,rfl,?_⟩
   by_cases e:l=u
   . refine di (aaN (by rw[e])) ⟨_,rfl,kk l S H hO (λ_ _ h _ _ _ _ _=>h) (.refl S) ⟨ac9 hB.b1,ac9 hB.b2,ac9 hB.b3,ac9 hB.b4⟩ rfl rfl rfl hl (ael s1) (by rw[aaF e])⟩
   . refine dw (aaH λz=>e (by have:=V.int.inj z;lia)) ?_
     refine⟨_,rfl,_,rfl,_,rfl,(by show 3<=sizeLine;decide),λt ht=>?_⟩
     have q1:(upd H t (.tup (jH (s0,l,u)))) t=some (.tup (jH (s0,l,u))):=af
     have uQ:ak H (upd H t (.tup (jH (s0,l,u)))):=ak.av ht
     show eR _ _ _ _ (upd H t (.tup (jH (s0,l,u))))
     generalize upd H t (.tup (jH (s0,l,u)))=H1 at q1 uQ ⊢
     have aZ:=hO.same uQ
     have hlen:=aZ.fs.len
     have lE:H1 t=some (.tup ((kY (s0,l,u)).map kV)):=q1
     refine⟨_,rfl,y,C,dy,_,_,rfl,aZ.hy,T.cl,T.n4,Sv ..,kn,rfl,.inr ⟨_,.inl aZ.hk⟩,_,rfl,_,bq.t (k:=kY (s0,l,u)) aZ.hk lE,?_⟩
     cases hv:aG (jy 2 (S.N.drop 2)) (kY (s0,l,u)) with
     | some v=>
      obtain⟨j,hj,rfl⟩:=Cf _ _ _ _ hv
      obtain⟨j1,j2⟩:=LU (d:=(0,0,0)) hj
      refine⟨_,rfl,_,rfl,dw rfl ⟨_,rfl,kk (2+j) S H1 aZ (.of uQ) (.refl S) ⟨ac9 hB.b1,ac9 hB.b2,ac9 hB.b3,ac9 hB.b4⟩ rfl rfl rfl j1 ?_ ?_⟩⟩
      . unfold aA
        rw[j2]
        exact aaf _
      . obtain⟨_,_,_,_,_,_,a7⟩:=aZ.fs.nd (2+j) (by lia) j1
        rw[a7,aaz e]
        unfold aA low dZ
        rw[j2]
     | none=>
      have BV:=Ce _ _ _ hv
      have N9:=aZ.ht.length
      refine⟨_,rfl,_,rfl,di rfl ?_⟩
      refine⟨_,rfl,y,C,dy,_,_,rfl,aZ.hy,T.cl,T.n3,oH ..,nd,_,rfl,.inl (ar.of aZ.hd),?_⟩
      rw[aaa,N9]
      refine⟨_,rfl,y,C,dy,_,_,rfl,aZ.hy,T.cl,T.n3,oH ..,.inl ⟨rfl,_,ar.of aZ.hd⟩,_,rfl,nd,_,_,rfl,rfl,aZ.hd,(by rw[aaa,N9];exact big (by have:=hB.b1;lia)),?_⟩
      have q2:(upd H1 nd (.lst (S.ts.map V.ref++[.ref t]))) nd=some (.lst ((S.ts++[t]).map V.ref)):=by rw[af,aah];rfl
      have k2:∀b o,H1 b=some o->b≠nd->(upd H1 nd (.lst (S.ts.map V.ref++[.ref t]))) b=some o:=λb o h n=>by rw[ag n];exact h
      generalize upd H1 nd (.lst (S.ts.map V.ref++[.ref t]))=H2 at q2 k2 ⊢
      have nl:∀{b:Addr}{o:HO},H1 b=some o->(∀xs,o≠.lst xs)->b≠nd:=λhb ho z=>by
       rw[z,aZ.hd]at hb
       exact ho _ (aay hb).symm
      have y2:=k2 _ _ aZ.hy (nl aZ.hy (λ_ z=>by cases z))
      have kn2:=k2 _ _ aZ.hk (nl aZ.hk (λ_ z=>by cases z))
      have t2:=k2 _ _ lE (nl lE (λ_ z=>by cases z))
      refine⟨_,rfl,_,rfl,y,C,dy,_,_,rfl,y2,T.cl,T.n4,Sv ..,_,rfl,kn,_,rfl,gh.t (k:=kY (s0,l,u)) kn2 t2 (by rw[EZ];exact big (by have:=hB.b1;rw[adK];lia)),?_⟩
      have abU:putK (jy 2 (S.N.drop 2)) (kY (s0,l,u)) (.int (S.N.length:Int))=jy 2 ((S.N++[(s0,l,u)]).drop 2):=by
       have h2:=aZ.fs.two
       rw[i5 _ hv,List.drop_append_of_le_length h2,E1,adK,show 2+(S.N.length-2)=S.N.length by lia]
       rfl
      rw[abU]
      have q3:(upd H2 kn (.dT (jy 2 ((S.N++[(s0,l,u)]).drop 2)))) kn=some (.dT (jy 2 ((S.N++[(s0,l,u)]).drop 2))):=af
      have k3:∀b o,H1 b=some o->b≠nd->b≠kn->(upd H2 kn (.dT (jy 2 ((S.N++[(s0,l,u)]).drop 2)))) b=some o:=λb o h n1 n2=>by rw[ag n2];exact k2 b o h n1
      have YM:(upd H2 kn (.dT (jy 2 ((S.N++[(s0,l,u)]).drop 2)))) nd=some (.lst ((S.ts++[t]).map V.ref)):=by rw[ag (aax (nl aZ.hk (λ_ z=>by cases z)))];exact q2
      generalize upd H2 kn (.dT (jy 2 ((S.N++[(s0,l,u)]).drop 2)))=H3 at q3 k3 YM ⊢
      have kt:∀{b:Addr}{o:HO},H1 b=some o->(∀xs,o≠.lst xs)->(∀xs,o≠.dT xs)->H3 b=some o:=λhb ho hd=>k3 _ _ hb (nl hb ho) λz=>by
       rw[z,aZ.hk]at hb
       exact hd _ (aay hb).symm
      have G:cj S {S with N:=S.N++[(s0,l,u)],TS:=S.TS++[.node (names.getD s0 "") (aq S.TS l) (aq S.TS u)],ts:=S.ts++[t] }:=⟨⟨_,rfl⟩,⟨_,rfl⟩⟩
      have fs':=aZ.fs.push hs hl JY e s1 s2 λi i2 hi z=>BV (by
       rw[List.mem_iff_getElem?]
       refine⟨i-2,?_⟩
       rw[ae9,show 2+(i-2)=i by lia,aab hi]
       rw[aai,aab hi]at z
       exact congrArg some z)
      have GR:∀a xs,H1 a=some (.tup xs)->H3 a=some (.tup xs):=λa xs h=>kt h (λ_ z=>by cases z) (λ_ z=>by cases z)
      refine⟨_,rfl,kk S.N.length {S with N:=S.N++[(s0,l,u)],TS:=S.TS++[.node (names.getD s0 "") (aq S.TS l) (aq S.TS u)],ts:=S.ts++[t] } H3 ⟨kt aZ.hy (λ_ z=>by cases z) (λ_ z=>by cases z),k3 _ _ aZ.hn (aax aZ.d1) (aD aZ.hn aZ.hk (by intro z;cases z)),kt aZ.hs (λ_ z=>by cases z) (λ_ z=>by cases z),YM,cT (Paired.cw aZ.ht λ_ _ h=>GR _ _ h) (.cons (GR _ _ q1) .nil),q3,k3 _ _ aZ.hc (nl aZ.hc (λ_ z=>by cases z)) (aax aZ.d2),λe' h=>vw.grow G hlen (aZ.ck e' h),kt aZ.hi (λ_ z=>by cases z) (λ_ z=>by cases z),λp hp=>?_,kt aZ.he (λ_ z=>by cases z) (λ_ z=>by cases z),λkv aY=>?_,aZ.e0,fs',aZ.nn,aZ.ns,aZ.n8,aZ.d1,aZ.d2,aZ.d3⟩ (λb o h n1 n2 _ _ _=>k3 _ _ (uQ _ _ h) n1 n2) G ⟨by rw[aag];have:=hB.b1;show S.N.length+1<=b+1;lia,ac9 hB.b2,ac9 hB.b3,ac9 hB.b4⟩ rfl rfl rfl (by rw[aag];exact aeT _) ?_ ?_⟩
      . obtain⟨h1,i,i1,i2,i3⟩:=aZ.ik p hp
        exact⟨h1.keep GR,i,by rw[aag];show i<S.N.length+1;lia,i2,by rw[← i3];exact G.aq (by lia)⟩
      . obtain⟨i,i1,i2,i3⟩:=aZ.ek kv aY
        have e9:aq (S.TS++[.node (names.getD s0 "") (aq S.TS l) (aq S.TS u)]) i=aq S.TS i:=G.aq (by lia)
        exact⟨i,i1,by rw[aag];show i<S.N.length+1;lia,by rw[e9];exact i3.keep GR⟩
      . show s0<=aA (S.N++[(s0,l,u)]) S.N.length
        unfold aA
        rw[qY]
        exact aaf _
      . rw[aaz e,hlen]
        exact qY
end
end Gen
namespace L2
open PySem PySem.Spec PyProof.Rows
section
variable {X:Cx}{a:Expr}{ta:TE}
theorem J7(hc:X.calm=true):i0 X (.builtin "min") (λxs H Q=>∃i j k,xs=[.int i,.int j,.int k]/\Q (.int (min i (min j k))) H):=by
 intro pins s σ H xs us Q I r h
 obtain⟨i,j,k,rfl,q⟩:=h
 cases r with
 | cons r1 r=>
  cases r with
  | cons r2 r=>
   cases r with
   | cons r3 r=>
    cases r
    obtain⟨t1,rfl⟩:=r1
    obtain⟨t2,rfl⟩:=r2
    obtain⟨t3,rfl⟩:=r3
    refine min_three_ints (I.ok.hd hc) λh' tk kp=>⟨_,H,I.kept kp,?_,q⟩
    by_cases h1:j<i
    . rw[aaF h1]
      by_cases h2:k<j
      . rw[aaF h2,show min i (min j k)=k by lia];exact⟨_,rfl⟩
      . rw[aaz h2,show min i (min j k)=j by lia];exact⟨_,rfl⟩
    . rw[aaz h1]
      by_cases h2:k<i
      . rw[aaF h2,show min i (min j k)=k by lia];exact⟨_,rfl⟩
      . rw[aaz h2,show min i (min j k)=i by lia];exact⟨_,rfl⟩
end
end L2
namespace Gen
open PySem L2
abbrev uv:Stmt:=inClass (top 7) 4
def sj:Tr->Nat
 | .leaf _=>0
 | .node _ l r=>sj l+sj r+2
theorem iA{κ:Type}[DecidableEq κ] {k:κ}{v:V} : ∀{kvs:List (κ×V)},aG kvs k=some v->(k,v)∈kvs
 | [],h=>nomatch h
 | (k',v')::r,h=>by
  by_cases e:k'=k
  . subst e
    rw[cZ rfl]at h
    cases h
    exact aas
  . rw[cz e]at h
    exact aav _ (iA h)
theorem tH{κ:Type}[DecidableEq κ] {k:κ} : ∀{kvs:List (κ×V)},(∀kv∈kvs,kv.1≠k)->aG kvs k=none
 | [],_=>rfl
 | (k',v')::r,h=>by
  rw[cz (h _ aas)]
  exact tH λkv hk=>h kv (aav _ hk)
theorem lN{κ:Type}[DecidableEq κ] {k:κ} : ∀{kvs:List (κ×V)},aG kvs k=none->∀kv∈kvs,kv.1≠k
 | [],_,_,h=>nomatch h
 | (k',v')::r,h,kv,hk=>by
  by_cases e:k'=k
  . subst e
    rw[cZ rfl]at h
    cases h
  . rw[cz e]at h
    rcases aaj.mp hk with rfl|hk
    . exact e
    . exact lN h kv hk
theorem qZ{κ:Type}[DecidableEq κ] {kvs:List (κ×V)}{k:κ}{v:V}{e:κ×V}(h:e∈putK kvs k v):e∈kvs\/e=(k,v):=by
 unfold putK at h
 split at h
 . obtain⟨p,hp,rfl⟩:=aal.mp h
   by_cases q:p.1=k
   . rw[aaF q]
     exact .inr (by rw[q])
   . rw[aaz q]
     exact .inl hp
 . rcases aap.mp h with h|h
   . exact .inl h
   . exact .inr (aaC.mp h)
theorem P0(h:eW ns (.node n l r)):∃j,ns[j]?=some n/\l≠r/\eW (ns.drop (j+1)) l/\eW (ns.drop (j+1)) r:=by
 generalize et:Tr.node n l r=t at h
 induction h with
 | leaf=>cases et
 | node ne a b=>
  cases et
  exact⟨0,rfl,ne,a,b⟩
 | skip _ ih=>
  obtain⟨j,a,b,c,d⟩:=ih et
  exact⟨j+1,by simpa using a,b,by simpa using c,by simpa using d⟩
theorem FS.aio{names:List Str}{N:List Nd}{TS:List Tr}(h:FS names N TS)(hn:names.Nodup){i k:Nat}(hi:i<N.length)(hk:k<=names.length) (hc:eW (names.drop k) (aq TS i)):k<=aA N i:=by
 by_cases i2:i<2
 . unfold aA
   rcases (show i=0\/i=1 by lia) with rfl|rfl
   . rw[h.z0]
     exact hk
   . rw[h.z1]
     exact hk
 . obtain⟨a1,_,_,_,_,_,a7⟩:=h.nd i (by lia) hi
   rw[a7]at hc
   obtain⟨j,h1,_⟩:=P0 hc
   rw[ae9]at h1
   have hj:=(aak.mp h1).1
   rw[aai,aab a1,aab hj]at h1
   have:=(agi hn).mp (aay h1)
   lia
section
variable {P:Program}{w:World}{K:W.Frag}{mg:Str->Option Value}{base:Heap}{C y dy nm sp nd kn ch im ex:Addr}{names:List Str}{S:de}{H H':Hp}
theorem Bd.up(h:Bd S b)(hc:b<=c):Bd S c:=⟨aam h.b1 hc,aam h.b2 hc,aam h.b3 hc,aam h.b4 hc⟩
theorem Bd.pex(h:Bd S b)(e:Key×V):Bd {S with EX:=S.EX++[e] } (b+1):=⟨ac9 h.b1,ac9 h.b2,ac9 h.b3,by rw[aag];exact aer h.b4⟩
theorem Bd.pch(h:Bd S b)(k:List Key)(v:V):Bd {S with CH:=putK S.CH k v} (b+1):=⟨ac9 h.b1,aam (fh _ _ _) (aer h.b2),ac9 h.b3,ac9 h.b4⟩
theorem Oa(h:a=nd\/a=kn\/a=ch\/a=im\/a=ex):Kp H (upd H a o) nd kn ch im ex:=λb ob hb h1 h2 h3 h4 h5=>by
 rw[ag (by rcases h with rfl|rfl|rfl|rfl|rfl <;> assumption)]
 exact hb
theorem FO.aif(h:FO P w C H y dy nm sp nd kn ch im ex names S)(hk:Cc H t b)(hi:i<S.N.length)(ht:aq S.TS i=t) :
 FO P w C (upd H im (tG P w im (S.IM++[(t,b,.int (i:Int))]))) y dy nm sp nd kn ch im ex names {S with IM:=S.IM++[(t,b,.int (i:Int))] }:=by
 have k:∀{a:Addr}{o:HO},H a=some o->o≠tG P w im S.IM->(upd H im (tG P w im (S.IM++[(t,b,.int (i:Int))]))) a=some o:=λha ho=>by
  rw[ag (aD ha h.hi ho)]
  exact ha
 have kt:∀a xs,H a=some (.tup xs)->(upd H im (tG P w im (S.IM++[(t,b,.int (i:Int))]))) a=some (.tup xs):=λa xs ha=>k ha (by intro z;cases z)
 refine⟨k h.hy (by intro z;cases z),k h.hn (by intro z;cases z),k h.hs (by intro z;cases z),k h.hd (by intro z;cases z),Paired.cw h.ht λ_ _ e=>kt _ _ e,k h.hk (by intro z;cases z),k h.hc (by intro z;cases z),h.ck,af,λp hp=>?_,k h.he (by intro z;cases z),
  λkv aY=>let ⟨i,a,b,c⟩:=h.ek kv aY; ⟨i,a,b,c.keep kt⟩,h.e0,h.fs,h.nn,h.ns,h.n8,h.d1,h.d2,h.d3⟩
 rcases aap.mp hp with hp|hp
 . exact⟨(h.ik p hp).1.keep kt,(h.ik p hp).2⟩
 . rw[aaC]at hp
   subst hp
   exact⟨hk.keep kt,i,hi,rfl,ht⟩
theorem FO.Xy(h:FO P w C H y dy nm sp nd kn ch im ex names S) (hv:ff H (aq S.TS i) v) (hi:i<S.N.length) (hn:aG S.EX (.inl (i:Int))=none) :
 FO P w C (upd H ex (.dK (S.EX++[(.inl (i:Int),v)]))) y dy nm sp nd kn ch im ex names {S with EX:=S.EX++[(.inl (i:Int),v)] }:=by
 have k:∀{a:Addr}{o:HO},H a=some o->(∀q,o≠.dK q)->(upd H ex (.dK (S.EX++[(.inl (i:Int),v)]))) a=some o:=λha ho=>by
  rw[ag (aD ha h.he (ho _))]
  exact ha
 have kt:∀a xs,H a=some (.tup xs)->(upd H ex (.dK (S.EX++[(.inl (i:Int),v)]))) a=some (.tup xs):=λa xs ha=>k ha (by intro _ z;cases z)
 refine⟨k h.hy (by intro _ z;cases z),k h.hn (by intro _ z;cases z),by rw[ag h.d3];exact h.hs,k h.hd (by intro _ z;cases z),Paired.cw h.ht λ_ _ e=>kt _ _ e,k h.hk (by intro _ z;cases z),k h.hc (by intro _ z;cases z),h.ck,k h.hi (by intro _ z;cases z),λp hp=>⟨(h.ik p hp).1.keep kt,(h.ik p hp).2⟩,af,
  λkv aY=>?_,?_,h.fs,h.nn,h.ns,h.n8,h.d1,h.d2,h.d3⟩
 . rcases aap.mp aY with aY|aY
   . obtain⟨i,a,b,c⟩:=h.ek kv aY
     exact⟨i,a,b,c.keep kt⟩
   . rw[aaC]at aY
     subst aY
     exact⟨i,rfl,hi,hv.keep kt⟩
 . have old:∀(c:Int) (u:V),aG S.EX (.inl c)=some u->aG (S.EX++[(.inl (i:Int),v)]) (.inl c)=some u:=λc u hc=>by
    rw[me _ _ _ _ hn,aaz (λz=>by rw[z,hn]at hc;cases hc)]
    exact hc
   exact⟨old 0 _ h.e0.1,old 1 _ h.e0.2⟩
theorem FO.Xz(h:FO P w C H y dy nm sp nd kn ch im ex names S){k':List Key}{u:V}(hc:vw S.N S.TS (k',u)) :
 FO P w C (upd H ch (.dT (putK S.CH k' u))) y dy nm sp nd kn ch im ex names {S with CH:=putK S.CH k' u}:=by
 have k:∀{a:Addr}{o:HO},H a=some o->(∀q,o≠.dT q)->(upd H ch (.dT (putK S.CH k' u))) a=some o:=λha ho=>by
  rw[ag (aD ha h.hc (ho _))]
  exact ha
 have kt:∀a xs,H a=some (.tup xs)->(upd H ch (.dT (putK S.CH k' u))) a=some (.tup xs):=λa xs ha=>k ha (by intro _ z;cases z)
 refine⟨k h.hy (by intro _ z;cases z),k h.hn (by intro _ z;cases z),k h.hs (by intro _ z;cases z),k h.hd (by intro _ z;cases z),Paired.cw h.ht λ_ _ e=>kt _ _ e,by rw[ag h.d2];exact h.hk,af,λe' he=>?_,k h.hi (by intro _ z;cases z),λp hp=>⟨(h.ik p hp).1.keep kt,(h.ik p hp).2⟩,k h.he (by intro _ z;cases z),
  λkv aY=>let ⟨i,a,b,c⟩:=h.ek kv aY; ⟨i,a,b,c.keep kt⟩,h.e0,h.fs,h.nn,h.ns,h.n8,h.d1,h.d2,h.d3⟩
 rcases qZ he with he|he
 . exact h.ck e' he
 . subst he
   exact hc
theorem ku:Kp H H nd kn ch im ex:=λ_ _ h _ _ _ _ _=>h
inductive zI(P:Program) (w:World) (C:Addr) (d:Nat) (vs:List V) (H:Hp) (Q:VK):Prop
 | mk (y dy nm sp nd kn ch im ex:Addr) (names:List Str) (S:de) (n b:Nat) (h1:vs=[.ref y,.int (n:Int)]) (h2:FO P w C H y dy nm sp nd kn ch im ex names S) (h3:n<S.N.length) (h4:(aq S.TS n).dep<d) (h5:Bd S b) (h6:b+sj (aq S.TS n)<4000000) (h7:∀(v:V) (S':de) (H':Hp),FO P w C H' y dy nm sp nd kn ch im ex names S'->Kp H H' nd kn ch im ex->S'.N=S.N->S'.TS=S.TS->Bd S' (b+sj (aq S.TS n))->(∀kv∈S'.EX,kv∈S.EX\/∃i:Nat,kv.1=.inl (i:Int)/\(aq S.TS i).dep<=(aq S.TS n).dep)->ff H' (aq S.TS n) v->Q v H'):zI P w C d vs H Q
def lO(P:Program)(w:World)(C:Addr)(d:Nat):Sp:=λvs H Q _=>zI P w C d vs H Q
abbrev nTa:List Str:=["self", "number", "tree", "node"]
theorem GU:aJ nTa ["self", "number"] (az uv):=fs
theorem GW{f:Addr}{fd:FuncData}{d k:Nat}(F:aK K "tree_at" "Forest.tree_at" uv f fd)(T:hZ K mg C) (G:ax P w K mg base aB k f fd ["self", "number"] (lO P w C d)) (mT:Meth K C "tree_at" f) (bT:Binds K fd ["self", "number"] []) :
 ax P w K mg base aB (k+1) f fd ["self", "number"] (lO P w C (d+1)):=by
 refine F.run GU λcdv A outer s H vs Q E hr h=>?_
 . obtain⟨y,dy,nm,sp,nd,kn,ch,im,ex,names,S,n,b,rfl,hO,hn,hd,hB,hb,kk⟩:=h
   have hu:=eS hr
   refine⟨_,ai (aP 2 GU.nd (vc hu (aE (pv 0) rfl) (pv 1) ⟨rfl,rfl,rfl,rfl⟩))
    (ai (cy (gw (AD (pv 2)))
     (ai (aP 3 GU.nd (aI (r:=eC K) aS (aE (pv 0) rfl) (pv 1) (λ_ _=>rfl)))
     (ai (aP 2 GU.nd (fZ (aa (aI (r:=eC K) aS (aE (pv 0) rfl) (aI (r:=eu K) cg (pv 3) ao (λ_ _=>rfl)) (λ_ _=>rfl))
      (aa (bt (pv 0) T.cl mT G hr bT (aa (aI (r:=eu K) cg (pv 3) ao (λ_ _=>rfl)) ah))
      (aa (bt (pv 0) T.cl mT G hr bT (aa (aI (r:=eu K) cg (pv 3) ao (λ_ _=>rfl)) ah)) ah)))))
     (au (eV hu (aE (pv 0) rfl) (pv 1) (pv 2) rfl)))) ba)
    (au (aL (pv 2)))),?_⟩
   refine⟨_,rfl,y,C,dy,_,_,rfl,hO.hy,T.cl,T.n7,Sx ..,ex,rfl,.inl ⟨_,.inl hO.he⟩,_,rfl,_,bq.k (k:=.inl (n:Int)) hO.he,?_⟩
   cases hv:aG S.EX (.inl (n:Int)) with
   | some v=>
    obtain⟨i,e1,i1,i2⟩:=hO.ek _ (iA hv)
    have ei:i=n:=by have:=afh e1;lia
    subst ei
    have Yi:v≠.aV:=λz=>by
     have i3:ff H (aq S.TS i) v:=i2
     rw[z]at i3
     cases ht:aq S.TS i with
     | leaf c=>rw[ht]at i3;cases(show V.aV=.bl c from i3)
     | node a l r=>rw[ht]at i3;obtain⟨_,_,_,z,_⟩:=i3;cases z
    refine⟨_,rfl,_,rfl,dw (aaH Yi) ⟨_,rfl,?_⟩⟩
    exact kk v S H hO ku rfl rfl (hB.up (aaJ ..)) (λkv h=>.inl h) i2
   | none=>
    have n2:2<=n:=agm λq=>by
     rcases (show n=0\/n=1 by lia) with rfl|rfl
     . rw[show ((0:Nat):Int)=0 from rfl,hO.e0.1]at hv
       cases hv
     . rw[show ((1:Nat):Int)=1 from rfl,hO.e0.2]at hv
       cases hv
    obtain⟨a1,a2,a3,a4,a5,a6,a7⟩:=hO.fs.nd n n2 hn
    have yk:low S.N n<S.N.length:=by lia
    have Ci:dZ S.N n<S.N.length:=by lia
    have hsz:sj (aq S.TS n)=sj (aq S.TS (low S.N n))+sj (aq S.TS (dZ S.N n))+2:=by rw[a7];rfl
    have LV:(aq S.TS n).dep=max (aq S.TS (low S.N n)).dep (aq S.TS (dZ S.N n)).dep+1:=by rw[a7];rfl
    obtain⟨t,h1,h2⟩:=hO.node hn
    refine⟨_,rfl,_,rfl,di rfl ?_⟩
    refine⟨_,rfl,y,C,dy,_,_,rfl,hO.hy,T.cl,T.n3,oH ..,_,rfl,nd,_,_,.ref t,rfl,rfl,ar.of hO.hd,aF (by rw[aae,h1];rfl),?_⟩
    refine⟨_,rfl,y,C,dy,_,_,rfl,hO.hy,T.cl,T.n1,GN ..,_,rfl,t,_,0,_,rfl,rfl,aR.of h2,aF (j:=0) rfl,nm,_,_,.str (names.getD (aA S.N n) ""),rfl,rfl,ar.of hO.hn,aF (by rw[aae];exact(show names[aA S.N n]?.map V.str=some (.str (names.getD (aA S.N n) "")) by rw[aai,aab a1];rfl)),?_⟩
    refine⟨_,rfl,y,dy,_,rfl,hO.hy,pH _ _ _ _ _ _ _ dk dk dk dk dk dk dk,?_⟩
    refine⟨_,rfl,t,_,1,_,rfl,rfl,aR.of h2,aF (j:=1) rfl,?_⟩
    refine⟨y,dy,nm,sp,nd,kn,ch,im,ex,names,S,low S.N n,b,rfl,hO,yk,by lia,hB,by lia,λv1 S1 H1 aZ k1 g1 t1 B1 x1 r1=>?_⟩
    have h21:=hO.jK k1 _ _ h2
    refine⟨_,rfl,y,dy,_,rfl,aZ.hy,pH _ _ _ _ _ _ _ dk dk dk dk dk dk dk,?_⟩
    refine⟨_,rfl,t,_,2,_,rfl,rfl,aR.of h21,aF (j:=2) rfl,?_⟩
    refine⟨y,dy,nm,sp,nd,kn,ch,im,ex,names,S1,dZ S.N n,b+sj (aq S.TS (low S.N n)),rfl,aZ,by rw[g1];exact Ci,by rw[t1];lia,B1,by rw[t1];lia,λv2 S2 H2 eX k2 g2 t2 B2 x2 r2=>?_⟩
    rw[t1]at t2 B2 x2 r2
    refine⟨(by show 3<=sizeLine;decide),λq hq=>?_⟩
    have s3:ak H2 (upd H2 q (.tup [.str (names.getD (aA S.N n) ""),v1,v2])):=ak.av hq
    have q3:(upd H2 q (.tup [.str (names.getD (aA S.N n) ""),v1,v2])) q=some (.tup [.str (names.getD (aA S.N n) ""),v1,v2]):=af
    show eR _ _ _ _ (upd H2 q (.tup [.str (names.getD (aA S.N n) ""),v1,v2]))
    generalize upd H2 q (.tup [.str (names.getD (aA S.N n) ""),v1,v2])=H3 at s3 q3 ⊢
    have jz:=eX.same s3
    have YN:∀a xs,H2 a=some (.tup xs)->H3 a=some (.tup xs):=λa xs h=>s3 _ _ h
    have tI:=(k1.trans k2).trans (Kp.of s3)
    have hT:ff H3 (aq S.TS n) (.ref q):=by
     rw[a7]
     exact⟨q,v1,v2,rfl,q3,(r1.keep (aZ.jK k2)).keep YN,r2.keep YN⟩
    have m9:aG S2.EX (.inl (n:Int))=none:=tH λkv aY z=>by
     rcases x2 kv aY with aY|⟨i,e1,e2⟩
     . rcases x1 kv aY with aY|⟨i,e1,e2⟩
       . exact lN hv kv aY z
       . rw[e1]at z
         have:i=n:=by have:=afh z;lia
         rw[this]at e2
         lia
     . rw[e1]at z
       have:i=n:=by have:=afh z;lia
       rw[this]at e2
       lia
    refine⟨_,rfl,_,rfl,y,C,dy,_,_,rfl,jz.hy,T.cl,T.n7,Sx ..,_,rfl,ex,_,rfl,gh.k (k:=.inl (n:Int)) jz.he (big (by have:=B2.b4;lia)),?_⟩
    rw[i5 _ m9]
    have Cj:=jz.Xy (i:=n) (v:=.ref q) (by rw[t2];exact hT) (by rw[g2,g1];exact hn) m9
    refine⟨_,rfl,kk (.ref q) _ _ Cj (tI.trans (Oa (.inr (.inr (.inr (.inr rfl)))))) (g2.trans g1) t2 ((B2.pex _).up (by lia)) (λkv aY=>?_) (hT.keep λa xs e=>by rw[ag (aD e jz.he (by intro z;cases z))];exact e)⟩
    rcases aap.mp aY with aY|aY
    . rcases x2 kv aY with aY|⟨i,e1,e2⟩
      . rcases x1 kv aY with aY|⟨i,e1,e2⟩
        . exact .inl aY
        . exact .inr ⟨i,e1,by lia⟩
      . exact .inr ⟨i,e1,by lia⟩
    . rw[aaC]at aY
      subst aY
      exact .inr ⟨n,rfl,aaf _⟩
end
abbrev uw:Stmt:=inClass (top 7) 5
def cst:Nat->Nat
 | 0=>0
 | d+1=>2*cst d+2
def hf(N:List Nd)(s:Nat)(b:Bool)(n:Nat):Nat:=if aA N n=s then (if b=true then dZ N n else low N n) else n
section
variable {names:List Str}{N:List Nd}{TS:List Tr}
theorem FS.at2(h:FS names N TS)(hn:n<N.length)(hs:aA N n<names.length):2<=n:=agm λq=>by
 unfold aA at hs
 rcases (show n=0\/n=1 by lia) with rfl|rfl
 . rw[h.z0]at hs
   exact adJ _ hs
 . rw[h.z1]at hs
   exact adJ _ hs
theorem FS.GY(h:FS names N TS)(hn:n<N.length)(hs:s<names.length):hf N s b n<N.length:=by
 unfold hf
 split
 . next e=>
   obtain⟨_,a2,a3,_⟩:=h.nd n (h.at2 hn (by lia)) hn
   split <;> lia
 . exact hn
theorem FS.Ck(h:FS names N TS)(hn:n<N.length)(hs:s<names.length)(hle:s<=aA N n):s<aA N (hf N s b n):=by
 unfold hf
 split
 . next e=>
   obtain⟨_,_,_,_,a5,a6,_⟩:=h.nd n (h.at2 hn (by lia)) hn
   split <;> lia
 . next e=>lia
theorem FS.GZ(h:FS names N TS)(hn:n<N.length)(hs:s<names.length)(v:Str->Bool):ev v (aq TS n)=if v (names.getD s "")=true then ev v (aq TS (hf N s true n)) else ev v (aq TS (hf N s false n)):=by
 unfold hf
 by_cases e:aA N n=s
 . obtain⟨_,_,_,_,_,_,a7⟩:=h.nd n (h.at2 hn (by lia)) hn
   rw[aaF e,aaF e,a7,e]
   rfl
 . rw[aaz e,aaz e]
   split <;> rfl
end
inductive zJ(P:Program) (w:World) (C:Addr) (d:Nat) (vs:List V) (H:Hp) (Q:VK):Prop
 | mk (y dy nm sp nd kn ch im ex:Addr) (names:List Str) (S:de) (t h l b:Nat) (h1:vs=[.ref y,.int (t:Int),.int (h:Int),.int (l:Int)]) (h2:FO P w C H y dy nm sp nd kn ch im ex names S) (h3:t<S.N.length) (h4:h<S.N.length) (h5:l<S.N.length) (h6:names.length-min (aA S.N t) (min (aA S.N h) (aA S.N l))<d) (h7:Bd S b) (h8:b+cst d<4000000) (h9:∀(n:Nat) (S':de) (H':Hp),FO P w C H' y dy nm sp nd kn ch im ex names S'->Kp H H' nd kn ch im ex->cj S S'->Bd S' (b+cst d)->S'.IM=S.IM->S'.EX=S.EX->n<S'.N.length->(∀v,ev v (aq S'.TS n)=if ev v (aq S.TS t)=true then ev v (aq S.TS h) else ev v (aq S.TS l))->min (aA S.N t) (min (aA S.N h) (aA S.N l))<=aA S'.N n->Q (.int (n:Int)) H'):zJ P w C d vs H Q
def iH(P:Program)(w:World)(C:Addr)(d:Nat):Sp:=λvs H Q _=>zJ P w C d vs H Q
abbrev nCh:List Str:=["self", "test", "high", "low", "key", "number", "spot", "lows", "highs"]
abbrev jW:List Str:=["self", "test", "high", "low"]
theorem vx:aJ nCh jW (az uw):=fs
section
variable {P:Program}{w:World}{K:W.Frag}{mg:Str->Option Value}{base:Heap}{C:Addr}
theorem J8(F:aK K "chosen" "Forest.chosen" uw f fd)(T:hZ K mg C)(O2:iD mg) (G:ax P w K mg base aB (k+1) f fd jW (iH P w C d)) (mC:Meth K C "chosen" f) (bC:Binds K fd jW [])
 (gN:ax P w K mg base aB 1 fN dN pf (oI P w C)) (mN:Meth K C "node" fN) (bN:Binds K dN pf [])
 (gH:ax P w K mg base aB 1 fH dH ["self", "number", "spot", "side"] (xj P w C)) (mH:Meth K C "half" fH) (bH:Binds K dH ["self", "number", "spot", "side"] []):ax P w K mg base aB (k+1+1) f fd jW (iH P w C (d+1)):=by
 refine F.run vx λcdv A outer s H vs Q E hr h=>?_
 . obtain⟨y,dy,nm,sp,nd,kn,ch,im,ex,names,S,t,h,l,b,rfl,hO,ht,hh,hl,hd,hB,hb,kk⟩:=h
   have hu:=eS hr
   have dq:=hr.mono (aer (aaO k))
   refine⟨_,ai (cy (PW.pt (tZ (cU kI (pv 1) ao (dz _)) (vN (cU kI (pv 2) (pv 3) (dz _))))) (au (aL (pv 2))) ba)
    (ai (cy (cU kI (pv 1) ao (dz _)) (au (aL (pv 3))) ba)
    (ai (aP 4 vx.nd (fZ (aa (pv 1) (aa (pv 2) (aa (pv 3) ah)))))
    (ai (aP 5 vx.nd (vc hu (aE (pv 0) rfl) (pv 4) ⟨rfl,rfl,rfl,rfl⟩))
    (ai (cy (gw (AD (pv 5)))
     (ai (aP 6 vx.nd (bf (J7 rfl) (by rfl) O2.min PyProof.Rows.boot_min (aa (aI (r:=eu K) cg (aI (r:=eC K) aS (aE (pv 0) rfl) (pv 1) (λ_ _=>rfl)) ao (λ_ _=>rfl))
      (aa (aI (r:=eu K) cg (aI (r:=eC K) aS (aE (pv 0) rfl) (pv 2) (λ_ _=>rfl)) ao (λ_ _=>rfl)) (aa (aI (r:=eu K) cg (aI (r:=eC K) aS (aE (pv 0) rfl) (pv 3) (λ_ _=>rfl)) ao (λ_ _=>rfl)) ah)))))
     (ai (aP 7 vx.nd (bt (pv 0) T.cl mC G hr bC (aa (bt (pv 0) T.cl mH gH dq bH (aa (pv 1) (aa (pv 6) (aa ao ah))))
      (aa (bt (pv 0) T.cl mH gH dq bH (aa (pv 2) (aa (pv 6) (aa ao ah)))) (aa (bt (pv 0) T.cl mH gH dq bH (aa (pv 3) (aa (pv 6) (aa ao ah)))) ah)))))
     (ai (aP 8 vx.nd (bt (pv 0) T.cl mC G hr bC (aa (bt (pv 0) T.cl mH gH dq bH (aa (pv 1) (aa (pv 6) (aa ao ah))))
      (aa (bt (pv 0) T.cl mH gH dq bH (aa (pv 2) (aa (pv 6) (aa ao ah)))) (aa (bt (pv 0) T.cl mH gH dq bH (aa (pv 3) (aa (pv 6) (aa ao ah)))) ah)))))
     (ai (aP 5 vx.nd (bt (pv 0) T.cl mN gN dq bN (aa (pv 6) (aa (pv 7) (aa (pv 8) ah)))))
     (au (eV hu (aE (pv 0) rfl) (pv 4) (pv 5) rfl)))))) ba)
    (au (aL (pv 5))))))),?_⟩
   have aip:cst (d+1)=2*cst d+2:=rfl
   have jm:∀{H1:Hp}{n:Nat},FO P w C H1 y dy nm sp nd kn ch im ex names S->Kp H H1 nd kn ch im ex->n<S.N.length->(∀v,ev v (aq S.TS n)=if ev v (aq S.TS t)=true then ev v (aq S.TS h) else ev v (aq S.TS l))->min (aA S.N t) (min (aA S.N h) (aA S.N l))<=aA S.N n->Q (.int (n:Int)) H1:=
    λo1 k1 n1 v1 m1=>kk _ S _ o1 k1 (.refl S) (hB.up (aaJ ..)) rfl rfl n1 v1 m1
   refine⟨_,rfl,rfl,_,rfl,?_⟩
   by_cases e1:t=1
   . refine di (aaN (by rw[e1];rfl)) (di rfl ⟨_,rfl,jm hO ku hh (λv=>?_) (by lia)⟩)
     rw[e1,hO.fs.t1]
     exact(aaF rfl).symm
   refine dw (aaH λz=>e1 (by have:=V.int.inj z;lia)) ⟨_,rfl,_,rfl,rfl,_,rfl,?_⟩
   by_cases e2:h=l
   . refine di (aaN (by rw[e2])) ⟨_,rfl,jm hO ku hh (λv=>?_) (by lia)⟩
     rw[e2]
     split <;> rfl
   refine dw (aaH λz=>e2 (by have:=V.int.inj z;lia)) ⟨_,rfl,rfl,_,rfl,?_⟩
   by_cases e3:t=0
   . refine di (aaN (by rw[e3];rfl)) ⟨_,rfl,jm hO ku hl (λv=>?_) (by lia)⟩
     rw[e3,hO.fs.t0]
     exact(aaz (λz=>by cases z)).symm
   refine dw (aaH λz=>e3 (by have:=V.int.inj z;lia)) ?_
   refine⟨_,rfl,_,rfl,_,rfl,(by show 3<=sizeLine;decide),λq hq=>?_⟩
   have q1:(upd H q (.tup (jH (t,h,l)))) q=some (.tup (jH (t,h,l))):=af
   have s1:ak H (upd H q (.tup (jH (t,h,l)))):=ak.av hq
   show eR _ _ _ _ (upd H q (.tup (jH (t,h,l))))
   generalize upd H q (.tup (jH (t,h,l)))=H1 at q1 s1 ⊢
   have aZ:=hO.same s1
   have lE:H1 q=some (.tup ((kY (t,h,l)).map kV)):=q1
   refine⟨_,rfl,y,C,dy,_,_,rfl,aZ.hy,T.cl,T.n5,Sw ..,ch,rfl,.inr ⟨_,.inl aZ.hc⟩,_,rfl,_,bq.t (k:=kY (t,h,l)) aZ.hc lE,?_⟩
   cases hv:aG S.CH (kY (t,h,l)) with
   | some u=>
    obtain⟨t',h',l',n,ek,en,_,_,_,l4,Ob,hmn⟩:=aZ.ck _ (iA hv)
    have ek':=yj (p:=(t,h,l)) (q:=(t',h',l')) ek
    cases ek'
    cases(show u=.int (n:Int) from en)
    exact⟨_,rfl,_,rfl,dw rfl ⟨_,rfl,jm aZ (.of s1) l4 Ob hmn⟩⟩
   | none=>
    have tl:aA S.N t<names.length:=(hO.fs.nd t (by lia) ht).1
    refine⟨_,rfl,_,rfl,di rfl ?_⟩
    obtain⟨r1,x1,x1'⟩:=aZ.node ht
    obtain⟨r2,x2,x2'⟩:=aZ.node hh
    obtain⟨r3,x3,x3'⟩:=aZ.node hl
    obtain⟨s0,hs0⟩:∃s0,s0=min (aA S.N t) (min (aA S.N h) (aA S.N l)):=⟨_,rfl⟩
    have oZ:s0<names.length:=by lia
    refine⟨_,rfl,y,C,dy,_,_,rfl,aZ.hy,T.cl,T.n3,oH ..,_,rfl,nd,_,_,.ref r1,rfl,rfl,ar.of aZ.hd,aF (by rw[aae,x1];rfl),r1,_,0,.int (aA S.N t:Int),rfl,rfl,aR.of x1',aF (j:=0) rfl,?_⟩
    refine⟨_,rfl,y,C,dy,_,_,rfl,aZ.hy,T.cl,T.n3,oH ..,_,rfl,nd,_,_,.ref r2,rfl,rfl,ar.of aZ.hd,aF (by rw[aae,x2];rfl),r2,_,0,.int (aA S.N h:Int),rfl,rfl,aR.of x2',aF (j:=0) rfl,?_⟩
    refine⟨_,rfl,y,C,dy,_,_,rfl,aZ.hy,T.cl,T.n3,oH ..,_,rfl,nd,_,_,.ref r3,rfl,rfl,ar.of aZ.hd,aF (by rw[aae,x3];rfl),r3,_,0,.int (aA S.N l:Int),rfl,rfl,aR.of x3',aF (j:=0) rfl,?_⟩
    refine⟨_,_,_,rfl,?_⟩
    rw[show min ((aA S.N t:Nat):Int) (min ((aA S.N h:Nat):Int) ((aA S.N l:Nat):Int))=((s0:Nat):Int) by lia]
    have tJ:∀m∈["half", "chosen", "node"],(gq nm sp nd kn ch im ex).lookup (m:Str)=none:=λm hm=>by
     simp only[aaj,aat,adg]at hm
     rcases hm with rfl|rfl|rfl <;> exact pH _ _ _ _ _ _ _ dk dk dk dk dk dk dk
    have nH:=tJ "half" (by decide)
    have nC:=tJ "chosen" (by decide)
    have nN:=tJ "node" (by decide)
    have lt:=λb=>hO.fs.GY (b:=b) ht oZ
    have lh:=λb=>hO.fs.GY (b:=b) hh oZ
    have ll:=λb=>hO.fs.GY (b:=b) hl oZ
    have pt:=λb=>hO.fs.Ck (b:=b) ht oZ (by lia)
    have ph:=λb=>hO.fs.Ck (b:=b) hh oZ (by lia)
    have pl:=λb=>hO.fs.Ck (b:=b) hl oZ (by lia)
    refine⟨_,rfl,y,dy,_,rfl,aZ.hy,nC,?_⟩
    refine⟨_,rfl,y,dy,_,rfl,aZ.hy,nH,_,rfl,_,rfl,y,dy,nm,sp,nd,kn,ch,im,ex,names,S,t,s0,false,rfl,aZ,ht,?_⟩
    refine⟨_,rfl,y,dy,_,rfl,aZ.hy,nH,_,rfl,_,rfl,y,dy,nm,sp,nd,kn,ch,im,ex,names,S,h,s0,false,rfl,aZ,hh,?_⟩
    refine⟨_,rfl,y,dy,_,rfl,aZ.hy,nH,_,rfl,_,rfl,y,dy,nm,sp,nd,kn,ch,im,ex,names,S,l,s0,false,rfl,aZ,hl,?_⟩
    have m1:=pt false
    have m2:=ph false
    have m3:=pl false
    refine⟨y,dy,nm,sp,nd,kn,ch,im,ex,names,S,hf S.N s0 false t,hf S.N s0 false h,hf S.N s0 false l,b,rfl,aZ,lt false,lh false,ll false,by lia,hB,by lia,λn2 S2 H2 eX k2 g2 B2 i2 x2 l2 v2 p2=>?_⟩
    have YO:=g2.le
    have E4:∀{i:Nat},i<S.N.length->aA S2.N i=aA S.N i:=λhi=>g2.aA hi
    have Sy:∀{i:Nat},i<S.N.length->aq S2.TS i=aq S.TS i:=λhi=>g2.aq (by rw[← hO.fs.len];exact hi)
    have Cm:∀{i:Nat},i<S.N.length->∀b,hf S2.N s0 b i=hf S.N s0 b i:=λhi b=>by unfold hf aA low dZ;rw[g2.nd hi]
    refine⟨_,rfl,y,dy,_,rfl,eX.hy,nC,?_⟩
    refine⟨_,rfl,y,dy,_,rfl,eX.hy,nH,_,rfl,_,rfl,y,dy,nm,sp,nd,kn,ch,im,ex,names,S2,t,s0,true,rfl,eX,by lia,?_⟩
    refine⟨_,rfl,y,dy,_,rfl,eX.hy,nH,_,rfl,_,rfl,y,dy,nm,sp,nd,kn,ch,im,ex,names,S2,h,s0,true,rfl,eX,by lia,?_⟩
    refine⟨_,rfl,y,dy,_,rfl,eX.hy,nH,_,rfl,_,rfl,y,dy,nm,sp,nd,kn,ch,im,ex,names,S2,l,s0,true,rfl,eX,by lia,?_⟩
    have m4:=pt true
    have m5:=ph true
    have m6:=pl true
    have lt':=lt true
    have Sz:=lh true
    have SA:=ll true
    have e4:=Cm ht true
    have e5:=Cm hh true
    have e6:=Cm hl true
    refine⟨y,dy,nm,sp,nd,kn,ch,im,ex,names,S2,hf S2.N s0 true t,hf S2.N s0 true h,hf S2.N s0 true l,b+cst d,rfl,eX,by lia,by lia,by lia,?_,B2,by lia,λn3 S3 H3 jz k3 g3 B3 i3 x3 l3 v3 p3=>?_⟩
    . rw[e4,e5,e6,E4 lt',E4 Sz,E4 SA]
      lia
    rw[e4,e5,e6,E4 lt',E4 Sz,E4 SA]at p3
    rw[e4,e5,e6,Sy lt',Sy Sz,Sy SA]at v3
    have J9:n2<S3.N.length:=aaM l2 g3.le
    have SD:aA S3.N n2=aA S2.N n2:=g3.aA l2
    have tr3:aq S3.TS n2=aq S2.TS n2:=g3.aq (by rw[← eX.fs.len];exact l2)
    refine⟨_,rfl,y,dy,_,rfl,jz.hy,nN,_,rfl,_,rfl,_,rfl,y,dy,nm,sp,nd,kn,ch,im,ex,names,S3,s0,n2,n3,b+cst d+cst d,rfl,jz,oZ,J9,l3,by lia,by lia,B3,by lia,λn4 S4 H4 Cj k4 g4 B4 c4 i4 x4 l4 s4 t4=>?_⟩
    have Jw:=(((Kp.of s1).trans k2).trans k3).trans k4
    have xk:=(g2.trans g3).trans g4
    have Ob:∀v,ev v (aq S4.TS n4)=if ev v (aq S.TS t)=true then ev v (aq S.TS h) else ev v (aq S.TS l):=λv=>by
     have e7:ev v (aq S4.TS n4)=if v (names.getD s0 "")=true then ev v (aq S3.TS n3) else ev v (aq S3.TS n2):=by
      rw[t4]
      by_cases z:n2=n3
      . rw[aaF z,z]
        split <;> rfl
      . rw[aaz z]
        rfl
     rw[e7,tr3,v2 v,v3 v,hO.fs.GZ ht oZ v,hO.fs.GZ hh oZ v,hO.fs.GZ hl oZ v]
     cases v (names.getD s0 "") <;> rfl
    have gl4:=xk.le
    have hq4:H4 q=some (.tup ((kY (t,h,l)).map kV)):=aZ.jK ((k2.trans k3).trans k4) _ _ lE
    have hck:vw S4.N S4.TS (kY (t,h,l),.int (n4:Int)):=by
     refine⟨t,h,l,n4,rfl,rfl,by lia,by lia,by lia,l4,λv=>?_,?_⟩
     . rw[Ob v,xk.aq (by rw[← hO.fs.len];exact ht),xk.aq (by rw[← hO.fs.len];exact hh),xk.aq (by rw[← hO.fs.len];exact hl)]
     . rw[xk.aA ht,xk.aA hh,xk.aA hl]
       lia
    refine⟨_,rfl,_,rfl,y,C,dy,_,_,rfl,Cj.hy,T.cl,T.n5,Sw ..,_,rfl,ch,_,rfl,gh.t (k:=kY (t,h,l)) Cj.hc hq4 (big (by have:=B4.b2;lia)),?_⟩
    have lg:=Cj.Xz hck
    exact⟨_,rfl,kk n4 _ _ lg (Jw.trans (Oa (.inr (.inr (.inl rfl))))) ⟨xk.gn,xk.gt⟩ ((B4.pch _ _).up (by lia)) (i4.trans (i3.trans i2)) (x4.trans (x3.trans x2)) l4 Ob (by rw[← hs0];exact s4)⟩
end
abbrev Cn:Stmt:=inClass (top 7) 0
theorem lj:∀(kvs acc:List (Key×V)),((acc++kvs).map (·.1)).Nodup->bY acc kvs=acc++kvs
 | [],acc,_=>(aec acc).symm
 | (k,v)::r,acc,h=>by
  have hn:aG acc k=none:=tH λkv aY z=>by
   rw[aah,aaB,aau]at h
   exact h.2.2 _ (aal.mpr ⟨kv,aY,z⟩) _ aas rfl
  show bY (putK acc k v) r=acc++(k,v)::r
  rw[i5 v hn,lj r (acc++[(k,v)]) (by rw[ady];exact h),ady]
  rfl
theorem Co:∀(names:List Str) (i:Nat),(jV i names).map (·.1)=names.map Sum.inr
 | [],_=>rfl
 | n::r,i=>by rw[jV,aaB,aaB,Co r]
theorem E5:∀(names:List Str) (i:Nat),(jV i names).length=names.length
 | [],_=>rfl
 | n::r,i=>by rw[jV,aaA,aaA,E5 r]
theorem E6:∀(a b:List Str) (i:Nat),jV i (a++b)=jV i a++jV (i+a.length) b
 | [],b,i=>rfl
 | p::r,b,i=>by rw[aeq,jV,jV,E6 r b (i+1),aeq,aaA,show i+1+r.length=i+(r.length+1) by lia]
theorem Ka(h:names.Nodup):bY [] (jV 0 names)=jV 0 names:=lj _ [] (by
 rw[aeF,Co]
 exact afn.mpr (aeO (λh z=>h (adC z)) h))
def Kb(n:Nat)(t0 t1:Addr):de:=⟨[(n,0,0),(n,1,1)],[.leaf false,.leaf true],[t0,t1],[],[],[(.inl 0,.bl false),(.inl 1,.bl true)]⟩
theorem fs0(names:List Str)(t0 t1:Addr):FS names (Kb names.length t0 t1).N (Kb names.length t0 t1).TS:=
 ⟨rfl,aaf _,rfl,rfl,rfl,rfl,λi h2 hi=>absurd (show i<2 from hi) (by lia),λi j h2 _ hi=>absurd (show i<2 from hi) (by lia)⟩
inductive Cp(P:Program) (w:World) (C:Addr) (vs:List V) (H:Hp) (Q:VK):Prop
 | mk (p dy o:Addr) (names:List Str) (h1:vs=[.ref p,.ref o]) (h2:H p=some (.ins C dy [])) (h3:H o=some (.lst (names.map V.str))) (h4:names.Nodup) (h5:(∀n∈names,PyData.strOk n=true)) (h6:names.length<=8) (h7:∀(nm sp nd kn ch im ex t0 t1:Addr) (H':Hp),FO P w C H' p dy nm sp nd kn ch im ex names (Kb names.length t0 t1)->aU H H' p->(∀g∈[nd,kn,ch,im,ex],H g=none)->H sp=none->Q .aV H'):Cp P w C vs H Q
def yl(P:Program)(w:World)(C:Addr):Sp:=λvs H Q _=>Cp P w C vs H Q
theorem SE:(["spot", "name"]:List Str).Nodup:=dk
section
variable {P:Program}{w:World}{K:W.Frag}{mg:Str->Option Value}{base:Heap}{C:Addr}
theorem abV:aJ ["self", "order"] ["self", "order"] (az Cn):=fs
theorem LW(F:aK K "__init__" "Forest.__init__" Cn f fd)(T:hZ K mg C)(O2:iD mg)(O:Own mg):ax P w K mg base aB 1 f fd ["self", "order"] (yl P w C):=by
 refine F.run abV λcdv A outer s H vs Q E hr h=>?_
 . obtain⟨p,dy,o,names,rfl,hp,ho,nn,ns,n8,kk⟩:=h
   refine⟨_,ai (cX (pv 0) (bK jo (by rfl) O2.list adw (aa (pv 1) ah)) rfl)
    (ai (cX (pv 0) (bK (eU rfl) (by rfl) O2.dict ade (aa (fu (N:=["spot", "name"]) (js:=[none,none]) (g:=u7 K 2 (jB (eD 0) (jB (eD 1) u0))) (by kernel_rfl) rfl (Ex rfl O.enum (aa (pv 1) ah))
     (λ_ _ _ _ _ _=>ij rfl (a9 (aC (i:=0) SE rfl (Or.inl rfl) (.inr rfl)) (a9 (aC (i:=1) SE rfl (Or.inl rfl) (.inr rfl)) fq))) (λ_ _ _ _ _ _=>bJ)
     (λ_ _ _ _ _ _=>fZ (aa (pv 1) (aa (pv 0) ah)))) ah)) rfl)
    (ai (cX (pv 0) (cY (aa (fZ (aa (bf bw (by rfl) O2.len adm (aa (aE (pv 0) rfl) ah)) (aa ao (aa ao ah))))
     (aa (fZ (aa (bf bw (by rfl) O2.len adm (aa (aE (pv 0) rfl) ah)) (aa ao (aa ao ah)))) ah))) rfl)
    (ai (cX (pv 0) AQ rfl)
    (ai (cX (pv 0) AQ rfl)
    (ai (cX (pv 0) LS rfl)
    (au (cX (pv 0) (pQ (gQ ao gZ (gQ ao gZ pP)) rfl rfl (by simp) (by decide)) rfl))))))),?_⟩
   have np:∀{b:Addr}{u:HO},H b=some u->(∀C dx fs,u≠.ins C dx fs)->b≠p:=λhb hu z=>by
    rw[z,hp]at hb
    exact hu _ _ _ (aay hb).symm
   have nop:o≠p:=np ho (λ_ _ _ z=>by cases z)
   refine⟨_,rfl,o,_,rfl,.inl (ar.of ho),λnm e1=>?_⟩
   obtain⟨p1,q1,r1,k1⟩:=bZ (o:=.lst (names.map V.str)) (fs':=aj "names" (.ref nm) []) hp e1
   have b1:nm≠p:=(ae hp e1).symm
   refine⟨_,rfl,p,C,dy,_,rfl,r1,T.cl,T.n1,(by show 0<1000;decide),?_⟩
   show eR _ _ _ _ (upd (upd H nm (.lst (names.map V.str))) p (.ins C dy (aj "names" (.ref nm) [])))
   generalize upd (upd H nm (.lst (names.map V.str))) p (.ins C dy (aj "names" (.ref nm) []))=H1 at p1 q1 k1 ⊢
   have o8:=k1 _ _ ho nop
   refine⟨_,rfl,o,rfl,⟨_,ar.of o8⟩,λR hR=>?_⟩
   refine fz names.length (λi acc σ H9=>(∃vs:List Addr,acc=vs.map V.ref/\Paired (λt (kv:Key×V)=>H9 t=some (.tup [kV kv.1,kv.2])) vs (jV 0 (names.take i)))/\(∃u v,σ=[u,v])/\ak H1 H9) ⟨⟨[],rfl,.nil⟩,⟨none,none,rfl⟩,ak.av hR⟩ af ?_ ?_
   . rintro acc σ H2 SF ⟨⟨vs,rfl,Kc⟩,_,s2⟩
     rw[ac4]at Kc
     refine⟨⟨_,ar.of (s2 _ _ o8),by rw[aaa];exact aaf _⟩,R,vs,_,rfl,SF,Kc,λsp rH=>?_⟩
     rw[Ka nn]
     obtain⟨p3,q3,r3,k3⟩:=bZ (o:=.dK (jV 0 names)) (fs':=aj "spots" (.ref sp) (aj "names" (.ref nm) [])) (s2 _ _ p1) rH
     have b3:sp≠p:=(ae (s2 _ _ p1) rH).symm
     have SG:∀b u,H1 b=some u->b≠p->(upd (upd H2 sp (.dK (jV 0 names))) p (.ins C dy (aj "spots" (.ref sp) (aj "names" (.ref nm) [])))) b=some u:=λb u hb nb=>k3 _ _ (s2 _ _ hb) nb
     refine⟨_,rfl,p,C,dy,_,rfl,r3,T.cl,T.n2,iY (aw (aaf _)) (by show 1<1000;decide),?_⟩
     show eR _ _ _ _ (upd (upd H2 sp (.dK (jV 0 names))) p (.ins C dy (aj "spots" (.ref sp) (aj "names" (.ref nm) []))))
     generalize upd (upd H2 sp (.dK (jV 0 names))) p (.ins C dy (aj "spots" (.ref sp) (aj "names" (.ref nm) [])))=H3 at p3 q3 SG ⊢
     have tI:aU H H3 p:=λb u hb nb=>SG _ _ (k1 _ _ hb nb) nb
     have Oc:=SG _ _ q1 b1
     have YQ:∀{f:Str}{v:V}{r:List (Str×V)},f ≠ "names" -> (aj f v r).lookup ("names" : Str)=r.lookup ("names" : Str):=λh=>by rw[ay,aaz (aax h)]
     refine⟨_,rfl,p,C,dy,_,_,rfl,p3,T.cl,T.n1,(by rw[YQ dk,ay,aaF rfl]),nm,_,rfl,.inl (ar.of Oc),?_⟩
     rw[aaa]
     refine⟨(by show 3<=sizeLine;decide),λt0 zh=>?_⟩
     have s4:ak H3 (upd H3 t0 (.tup (jH (names.length,0,0)))):=ak.av zh
     have q4:(upd H3 t0 (.tup (jH (names.length,0,0)))) t0=some (.tup (jH (names.length,0,0))):=af
     show eB _ _ _ (upd H3 t0 (.tup (jH (names.length,0,0)))) _
     generalize upd H3 t0 (.tup (jH (names.length,0,0)))=H4 at s4 q4 ⊢
     refine⟨_,rfl,p,C,dy,_,_,rfl,s4 _ _ p3,T.cl,T.n1,(by rw[YQ dk,ay,aaF rfl]),nm,_,rfl,.inl (ar.of (s4 _ _ Oc)),?_⟩
     rw[aaa]
     refine⟨(by show 3<=sizeLine;decide),λt1 SH=>?_⟩
     have s5:ak H4 (upd H4 t1 (.tup (jH (names.length,1,1)))):=ak.av SH
     have q5:(upd H4 t1 (.tup (jH (names.length,1,1)))) t1=some (.tup (jH (names.length,1,1))):=af
     show j0 _ (upd H4 t1 (.tup (jH (names.length,1,1)))) _
     generalize upd H4 t1 (.tup (jH (names.length,1,1)))=H5 at s5 q5 ⊢
     refine⟨(by show 2<=sizeLine;decide),λnd e6=>?_⟩
     have jI:=s4.trans s5
     obtain⟨p6,q6,r6,k6⟩:=bZ (o:=.lst [.ref t0,.ref t1]) (fs':=aj "nodes" (.ref nd) (aj "spots" (.ref sp) (aj "names" (.ref nm) []))) (jI _ _ p3) e6
     have b6:nd≠p:=(ae (jI _ _ p3) e6).symm
     have d1:nd≠nm:=(ae (jI _ _ Oc) e6).symm
     refine⟨_,rfl,p,C,dy,_,rfl,r6,T.cl,T.n3,iY (aw (aw (aaf _))) (by show 2<1000;decide),?_⟩
     show eR _ _ _ _ (upd (upd H5 nd (.lst [.ref t0,.ref t1])) p (.ins C dy (aj "nodes" (.ref nd) (aj "spots" (.ref sp) (aj "names" (.ref nm) [])))))
     have f6:H nd=none:=cJ (λb u hb nb=>jI _ _ (tI _ _ hb nb)) e6 b6
     have Kd:∀b u,H3 b=some u->b≠p->(upd (upd H5 nd (.lst [.ref t0,.ref t1])) p (.ins C dy (aj "nodes" (.ref nd) (aj "spots" (.ref sp) (aj "names" (.ref nm) []))))) b=some u:=λb u hb nb=>k6 _ _ (jI _ _ hb) nb
     have tp:∀{b:Addr}{xs:List V},H5 b=some (.tup xs)->b≠p:=λhb=>aD hb (jI _ _ p3) (by intro z;cases z)
     have YR:=k6 _ _ (s5 _ _ q4) (tp (s5 _ _ q4))
     have YS:=k6 _ _ q5 (tp q5)
     have n0:t0≠p:=tp (s5 _ _ q4)
     have n1:t1≠p:=tp q5
     generalize upd (upd H5 nd (.lst [.ref t0,.ref t1])) p (.ins C dy (aj "nodes" (.ref nd) (aj "spots" (.ref sp) (aj "names" (.ref nm) []))))=H6 at p6 q6 Kd YR YS ⊢
     have Ke:aU H H6 p:=λb u hb nb=>Kd _ _ (tI _ _ hb nb) nb
     intro kn e7
     obtain⟨p7,q7,r7,k7⟩:=bZ (o:=.dT []) (fs':=aj "known" (.ref kn) (aj "nodes" (.ref nd) (aj "spots" (.ref sp) (aj "names" (.ref nm) [])))) p6 e7
     have b7:kn≠p:=(ae p6 e7).symm
     refine⟨_,rfl,p,C,dy,_,rfl,r7,T.cl,T.n4,iY (aw (aw (aw (aaf _)))) (by show 3<1000;decide),?_⟩
     show eR _ _ _ _ (upd (upd H6 kn (.dT [])) p (.ins C dy (aj "known" (.ref kn) (aj "nodes" (.ref nd) (aj "spots" (.ref sp) (aj "names" (.ref nm) []))))))
     have f7:H kn=none:=cJ Ke e7 b7
     generalize upd (upd H6 kn (.dT [])) p (.ins C dy (aj "known" (.ref kn) (aj "nodes" (.ref nd) (aj "spots" (.ref sp) (aj "names" (.ref nm) [])))))=H7 at p7 q7 k7 ⊢
     have Kf:aU H H7 p:=λb u hb nb=>k7 _ _ (Ke _ _ hb nb) nb
     intro ch e8
     obtain⟨p8,q8,r8,k8⟩:=bZ (o:=.dT []) (fs':=aj "choices" (.ref ch) (aj "known" (.ref kn) (aj "nodes" (.ref nd) (aj "spots" (.ref sp) (aj "names" (.ref nm) []))))) p7 e8
     have b8:ch≠p:=(ae p7 e8).symm
     have d2:kn≠ch:=ae q7 e8
     refine⟨_,rfl,p,C,dy,_,rfl,r8,T.cl,T.n5,iY (aw (aw (aw (aw (aaf _))))) (by show 4<1000;decide),?_⟩
     show eR _ _ _ _ (upd (upd H7 ch (.dT [])) p (.ins C dy (aj "choices" (.ref ch) (aj "known" (.ref kn) (aj "nodes" (.ref nd) (aj "spots" (.ref sp) (aj "names" (.ref nm) [])))))))
     have f8:H ch=none:=cJ Kf e8 b8
     generalize upd (upd H7 ch (.dT [])) p (.ins C dy (aj "choices" (.ref ch) (aj "known" (.ref kn) (aj "nodes" (.ref nd) (aj "spots" (.ref sp) (aj "names" (.ref nm) []))))))=H8 at p8 q8 k8 ⊢
     have Od:aU H H8 p:=λb u hb nb=>k8 _ _ (Kf _ _ hb nb) nb
     intro im e9
     obtain⟨p9,q9,r9,k9⟩:=bZ (o:=tG P w im []) (fs':=aj "imported" (.ref im) (aj "choices" (.ref ch) (aj "known" (.ref kn) (aj "nodes" (.ref nd) (aj "spots" (.ref sp) (aj "names" (.ref nm) [])))))) p8 e9
     have b9:im≠p:=(ae p8 e9).symm
     refine⟨_,rfl,p,C,dy,_,rfl,r9,T.cl,T.n6,iY (aw (aw (aw (aw (aw (aaf _)))))) (by show 5<1000;decide),?_⟩
     show eR _ _ _ _ (upd (upd H8 im (tG P w im [])) p (.ins C dy (aj "imported" (.ref im) (aj "choices" (.ref ch) (aj "known" (.ref kn) (aj "nodes" (.ref nd) (aj "spots" (.ref sp) (aj "names" (.ref nm) []))))))))
     have f9:H im=none:=cJ Od e9 b9
     generalize upd (upd H8 im (tG P w im [])) p (.ins C dy (aj "imported" (.ref im) (aj "choices" (.ref ch) (aj "known" (.ref kn) (aj "nodes" (.ref nd) (aj "spots" (.ref sp) (aj "names" (.ref nm) [])))))))=H9 at p9 q9 k9 ⊢
     have Cq:aU H H9 p:=λb u hb nb=>k9 _ _ (Od _ _ hb nb) nb
     intro ex eA
     refine⟨af,[(.inl 0,.bl false),(.inl 1,.bl true)],rfl,(by show 2<=15;decide),?_⟩
     have bA:ex≠p:=(ae p9 eA).symm
     have fA:H ex=none:=cJ Cq eA bA
     have hup:∀o':HO,upd (upd H9 ex (.dK [])) ex o'=upd H9 ex o':=λo'=>by
      funext b
      by_cases e:b=ex
      . rw[e,af,af]
      . rw[ag e,ag e,ag e]
     rw[show bY [] [((.inl 0:Key),V.bl false),(.inl 1,.bl true)]=[(.inl 0,.bl false),(.inl 1,.bl true)] from lj _ [] (by decide),hup]
     obtain⟨pA,qA,rA,kA⟩:=bZ (o:=.dK [(.inl 0,.bl false),(.inl 1,.bl true)]) (fs':=gq nm sp nd kn ch im ex) p9 eA
     refine⟨_,rfl,p,C,dy,_,rfl,rA,T.cl,T.n7,iY (aw (aw (aw (aw (aw (aw (aaf _))))))) (by show 6<1000;decide),?_⟩
     have Kg:∀b u,H6 b=some u->b≠p->(upd (upd H9 ex (.dK [(.inl 0,.bl false),(.inl 1,.bl true)])) p (.ins C dy (gq nm sp nd kn ch im ex))) b=some u:=λb u hb nb=>kA _ _ (k9 _ _ (k8 _ _ (k7 _ _ hb nb) nb) nb) nb
     have hs9:=k9 _ _ (k8 _ _ (k7 _ _ (Kd _ _ q3 b3) b3) b3) b3
     have f3:H sp=none:=cJ (λb u hb nb=>s2 _ _ (k1 _ _ hb nb)) rH b3
     refine kk nm sp nd kn ch im ex t0 t1 _ ⟨pA,Kg _ _ (Kd _ _ Oc b1) b1,Kg _ _ (Kd _ _ q3 b3) b3,Kg _ _ q6 b6,.cons (Kg _ _ YR n0) (.cons (Kg _ _ YS n1) .nil),kA _ _ (k9 _ _ (k8 _ _ q7 b7) b7) b7,kA _ _ (k9 _ _ q8 b8) b8,(λ_ h=>nomatch h),kA _ _ q9 b9,(λ_ h=>nomatch h),qA,?_,⟨rfl,rfl⟩,fs0 names t0 t1,nn,ns,n8,d1,d2,ae hs9 eA⟩ (λb u hb nb=>kA _ _ (Cq _ _ hb nb) nb) ?_ f3
     . intro kv aY
       rcases aaj.mp aY with rfl|aY
       . exact⟨0,rfl,Nat.zero_lt_two,rfl⟩
       . rw[aaC]at aY
         subst aY
         exact⟨1,rfl,Nat.one_lt_two,rfl⟩
     . intro g hg
       simp only[aaj,aat,adg]at hg
       rcases hg with rfl|rfl|rfl|rfl|rfl <;> assumption
   . rintro i acc σ H9 hi SF ⟨⟨vs,rfl,Kc⟩,⟨u,v,rfl⟩,s9⟩
     have rP:names[i]?=some names[i]:=aab hi
     have ei:(names.map V.str)[i]?=some (.str names[i]):=by rw[aae,rP];rfl
     refine⟨⟨_,_,ar.of (s9 _ _ o8),ei⟩,?_⟩
     rintro x' H' ⟨Tp,xv,rfl,Eu,rfl,jn⟩
     have ex:=jn _ (ar.of (s9 _ _ o8))
     rw[ei]at ex
     cases ex
     have sT:ak H9 (upd H9 Tp (.tup [.int (i:Int),.str names[i]])):=ak.av Eu
     have qT:(upd H9 Tp (.tup [.int (i:Int),.str names[i]])) Tp=some (.tup [.int (i:Int),.str names[i]]):=af
     refine⟨Tp,_,rfl,aR.of qT,rfl,_,_,rfl,_,_,rfl,rfl,?_⟩
     show oo _ (upd H9 Tp (.tup [.int (i:Int),.str names[i]])) _
     generalize upd H9 Tp (.tup [.int (i:Int),.str names[i]])=HT at sT qT ⊢
     refine wN ?_
     refine⟨_,rfl,_,rfl,(by show 2<=sizeLine;decide),λt2 Cr=>?_⟩
     have SI:=sT _ _ SF
     have nR:R≠t2:=ae SI Cr
     have hvl:=Kc.length
     rw[E5,aaG]at hvl
     refine⟨_,(ag nR).trans SI,(by rw[aaa];exact small (by lia)),cE hi af ⟨⟨vs++[t2],by rw[aah];rfl,?_⟩,⟨_,_,rfl⟩,λb o' hb=>?_⟩⟩
     . rw[adn,rP,afP,E6,aaG,ae5 (ael hi)]
       refine cT (Paired.cw Kc λt kv e=>?_) (.cons ?_ .nil)
       . have e':=sT _ _ e
         rw[ag (aD e' SI (by intro z;cases z)),ag (ae e' Cr)]
         exact e'
       . rw[ag (aax nR),af]
         show some (HO.tup [V.str names[i],V.int (i:Int)])=some (HO.tup [V.str names[i],V.int ((0+i:Nat):Int)])
         rw[aho]
     . rw[ag (ae hb hR),ag (ae (sT _ _ (s9 _ _ hb)) Cr)]
       exact sT _ _ (s9 _ _ hb)
end
theorem Cs:∀t:Tr,sj t+2<=2*2 ^ t.dep
 | .leaf _=>aaf _
 | .node _ l r=>by
  have h1:=Cs l
  have h2:=Cs r
  have e1:2 ^ l.dep<=2 ^ max l.dep r.dep:=ada (by decide) (by lia)
  have e2:2 ^ r.dep<=2 ^ max l.dep r.dep:=ada (by decide) (by lia)
  show sj l+sj r+2+2<=2*2 ^ (max l.dep r.dep+1)
  rw[aem]
  lia
theorem XA(h:t.dep<=8):sj t<=510:=by
 have h1:=Cs t
 have h2:2 ^ t.dep<=2 ^ 8:=ada (by decide) h
 lia
section
variable (P:Program) (w:World) (K:W.Frag) (mg:Str->Option Value) (base:Heap) (C:Addr)
end
theorem pj(s:ak H H'):∀a xs,H a=some (.tup xs)->H' a=some (.tup xs):=λa xs e=>s _ _ e
section
variable {P:Program}{w:World}{K:W.Frag}{mg:Str->Option Value}{base:Heap}{C fI fT fC fA:Addr}{dI dT dC dA:FuncData}
theorem bd0:Bd (Kb n t0 t1) 2:=⟨aaf _,aaO _,aaO _,aaf _⟩
theorem LX(hx:H x=none)(SJ:H dx=none) (k1:aU (upd (upd H dx (.own x)) x (.ins C dx [])) H1 x):ak H H1:=λb o hb=>by
 have n1:=ae hb hx
 have n2:=ae hb SJ
 exact k1 b o (by rw[ag n1,ag n2];exact hb) n1
theorem oJ(hx:H x=none)(SJ:H dx=none) (hg:(upd (upd H dx (.own x)) x (.ins C dx [])) g=none):H g=none:=by
 cases e:H g with
 | none=>rfl
 | some o=>
  rw[ag (ae e hx),ag (ae e SJ),e]at hg
  cases hg
end
abbrev G4:Stmt:=inClass (top 7) 2
abbrev rh:Stmt:=inClass (top 7) 7
def oK(G:List Str)(e:Str->Bool)(t:Tr):Prop:=∃e':Str->Bool,(∀z,z∉G->e' z=e z)/\ev e' t=true
theorem LY:oK G e (.leaf b) ↔ b=true:=⟨λ⟨_,_,h⟩=>h,λh=>⟨e,λ_ _=>rfl,h⟩⟩
theorem SK(hn:n∈G)(hs:n∉ns)(cl:eW ns l)(cr:eW ns r):oK G e (.node n l r) ↔ oK G e l\/oK G e r:=by
 constructor
 . rintro⟨e',h1,h2⟩
   unfold ev at h2
   cases h:e' n
   . rw[h,aaz (by decide)]at h2
     exact .inl ⟨e',h1,h2⟩
   . rw[h,aaF rfl]at h2
     exact .inr ⟨e',h1,h2⟩
 . rintro (⟨e',h1,h2⟩|⟨e',h1,h2⟩)
   . refine⟨put e' n false,λz hz=>?_,?_⟩
     . rw[← h1 z hz]
       exact aaz λq:z=n=>hz (by rw[q];exact hn)
     . unfold ev
       rw[show put e' n false n=false from aaF rfl,aaz (by decide),jU cl hs]
       exact h2
   . refine⟨put e' n true,λz hz=>?_,?_⟩
     . rw[← h1 z hz]
       exact aaz λq:z=n=>hz (by rw[q];exact hn)
     . unfold ev
       rw[show put e' n true n=true from aaF rfl,aaF rfl,jU cr hs]
       exact h2
theorem P4(hn:n∉G):oK G e (.node n l r) ↔ if e n=true then oK G e r else oK G e l:=by
 have key:∀e':Str->Bool,(∀z,z∉G->e' z=e z)->ev e' (.node n l r)=if e n=true then ev e' r else ev e' l:=λe' h=>by
  unfold ev
  rw[h n hn]
  cases r <;> cases l <;> rfl
 cases h:e n
 . rw[aaz (by decide)]
   constructor
   . rintro⟨e',h1,h2⟩
     rw[key e' h1,h,aaz (by decide)]at h2
     exact⟨e',h1,h2⟩
   . rintro⟨e',h1,h2⟩
     refine⟨e',h1,?_⟩
     rw[key e' h1,h,aaz (by decide)]
     exact h2
 . rw[aaF rfl]
   constructor
   . rintro⟨e',h1,h2⟩
     rw[key e' h1,h,aaF rfl]at h2
     exact⟨e',h1,h2⟩
   . rintro⟨e',h1,h2⟩
     refine⟨e',h1,?_⟩
     rw[key e' h1,h,aaF rfl]
     exact h2
def wc:Tr->Nat
 | .leaf _=>0
 | .node _ l r=>wc l+wc r+1100
section
variable {P:Program}{w:World}{K:W.Frag}{mg:Str->Option Value}{base:Heap}{C y dy nm sp nd kn ch im ex:Addr}{names:List Str}{S:de}{H H':Hp}
theorem FO.putD(h:FO P w C H y dy nm sp nd kn ch im ex names S) (hm:H md=some (.dK M)) (n1:md≠sp) (n2:md≠ex):FO P w C (upd H md (.dK M')) y dy nm sp nd kn ch im ex names S:=by
 have k:∀{a:Addr}{o:HO},H a=some o->(∀q,o≠.dK q)->(upd H md (.dK M')) a=some o:=λha ho=>by
  rw[ag (aD ha hm (ho _))]
  exact ha
 have kt:∀a xs,H a=some (.tup xs)->(upd H md (.dK M')) a=some (.tup xs):=λa xs ha=>k ha (by intro _ z;cases z)
 exact⟨k h.hy (by intro _ z;cases z),k h.hn (by intro _ z;cases z),by rw[ag (aax n1)];exact h.hs,k h.hd (by intro _ z;cases z),Paired.cw h.ht λ_ _ e=>kt _ _ e,k h.hk (by intro _ z;cases z),k h.hc (by intro _ z;cases z),h.ck,k h.hi (by intro _ z;cases z),λp hp=>⟨(h.ik p hp).1.keep kt,(h.ik p hp).2⟩,by rw[ag (aax n2)];exact h.he,
  λkv aY=>let ⟨i,a,b,c⟩:=h.ek kv aY; ⟨i,a,b,c.keep kt⟩,h.e0,h.fs,h.nn,h.ns,h.n8,h.d1,h.d2,h.d3⟩
theorem FO.dk(h:FO P w C H y dy nm sp nd kn ch im ex names S) (hb:H b=some (.dK M)) (n2:b≠ex) (k:Kp H H' nd kn ch im ex):H' b=some (.dK M):=
 k b _ hb (aD hb h.hd (by intro z;cases z)) (aD hb h.hk (by intro z;cases z)) (aD hb h.hc (by intro z;cases z)) (aD hb h.hi (by intro z;cases z)) n2
inductive E7(P:Program) (w:World) (C:Addr) (vs:List V) (H:Hp) (Q:VK):Prop
 | mk (y dy nm sp nd kn ch im ex:Addr) (names:List Str) (S:de) (n:Str) (j b:Nat) (h1:vs=[.ref y,.str n]) (h2:FO P w C H y dy nm sp nd kn ch im ex names S) (h3:names[j]?=some n) (h4:Bd S b) (h5:b<3000000) (h6:∀(i:Nat) (S':de) (H':Hp),FO P w C H' y dy nm sp nd kn ch im ex names S'->Kp H H' nd kn ch im ex->cj S S'->Bd S' (b+1)->S'.IM=S.IM->S'.EX=S.EX->i<S'.N.length->aq S'.TS i=.node n (.leaf false) (.leaf true)->Q (.int (i:Int)) H'):E7 P w C vs H Q
def xl(P:Program)(w:World)(C:Addr):Sp:=λvs H Q _=>E7 P w C vs H Q
theorem abW:aJ ["self", "name"] ["self", "name"] (az G4):=fs
theorem P5(F:aK K "leaf_of" "Forest.leaf_of" G4 f fd)(T:hZ K mg C)
 (gN:ax P w K mg base aB 1 fN dN pf (oI P w C)) (mN:Meth K C "node" fN) (bN:Binds K dN pf []):ax P w K mg base aB 2 f fd ["self", "name"] (xl P w C):=by
 refine F.run abW λcdv A outer s H vs Q E hr h=>?_
 . obtain⟨y,dy,nm,sp,nd,kn,ch,im,ex,names,S,n,j,b,rfl,hO,hj,hB,hb,kk⟩:=h
   have hu:=eS hr
   refine⟨_,au (aL (bt (pv 0) T.cl mN gN hr bN (aa (cq hu (aE (pv 0) rfl) (pv 1) (λ_ _=>rfl)) (aa ao (aa ao ah))))),?_⟩
   have two:=hO.fs.two
   have hjl:=(aak.mp hj).1
   have z0:aA S.N 0=names.length:=by unfold aA;rw[hO.fs.z0]
   have z1:aA S.N 1=names.length:=by unfold aA;rw[hO.fs.z1]
   refine⟨_,rfl,y,dy,_,rfl,hO.hy,pH _ _ _ _ _ _ _ dk dk dk dk dk dk dk,?_⟩
   refine⟨_,rfl,y,C,dy,_,_,rfl,hO.hy,T.cl,T.n2,abT ..,_,rfl,sp,.int ((0+j:Nat):Int),rfl,?_,?_⟩
   . have:=bq.k (k:=.inr n) hO.hs
     rw[J5 names 0 j n hO.nn hj]at this
     exact this
   refine⟨y,dy,nm,sp,nd,kn,ch,im,ex,names,S,j,0,1,b,by rw[aho];rfl,hO,hjl,by lia,by lia,by lia,by lia,hB,by lia,λi S' H' hO' k' g' B' c' m' x' l' s' t'=>?_⟩
   refine kk i S' H' hO' k' g' B' m' x' l' ?_
   rw[t',aaz (by decide),hO.fs.t0,hO.fs.t1,aai,hj]
   rfl
end
abbrev xm:Stmt:=top 28
abbrev xo:Stmt:=top 29
def bV(b:Bool):V:=.int (if b=true then 1 else 0)
def cn:List Str->List Bool->Tr
 | [],bs=>.leaf (bs.headD false)
 | n::r,bs=>if cn r (bs.take (bs.length / 2))=cn r (bs.drop (bs.length / 2)) then cn r (bs.take (bs.length / 2)) else .node n (cn r (bs.take (bs.length / 2))) (cn r (bs.drop (bs.length / 2)))
theorem ym(n:Str)(r:List Str)(bs:List Bool):cn (n::r) bs=if cn r (bs.take (bs.length / 2))=cn r (bs.drop (bs.length / 2)) then cn r (bs.take (bs.length / 2)) else .node n (cn r (bs.take (bs.length / 2))) (cn r (bs.drop (bs.length / 2))):=rfl
theorem oM:∀(names:List Str) (bs:List Bool),eW names (cn names bs)
 | [],bs=>.leaf _ _
 | n::r,bs=>by
  rw[ym]
  by_cases e:cn r (bs.take (bs.length / 2))=cn r (bs.drop (bs.length / 2))
  . rw[aaF e]
    exact .skip (oM r _)
  . rw[aaz e]
    exact .node e (oM r _) (oM r _)
theorem Ao(e:Str->Bool)(n:Str)(r:List Str)(bs:List Bool):ev e (cn (n::r) bs)=if e n=true then ev e (cn r (bs.drop (bs.length / 2))) else ev e (cn r (bs.take (bs.length / 2))):=by
 rw[ym]
 by_cases q:cn r (bs.take (bs.length / 2))=cn r (bs.drop (bs.length / 2))
 . rw[aaF q,q]
   split <;> rfl
 . rw[aaz q]
   rfl
theorem vy(n:Nat):2 ^ (n+1) / 2=2 ^ n:=by rw[aem];lia
theorem xp(f:Bool->Bool->Bool)(e:Str->Bool):∀(names:List Str) (bs cs:List Bool),bs.length=2 ^ names.length->cs.length=2 ^ names.length->ev e (cn names (List.zipWith f bs cs))=f (ev e (cn names bs)) (ev e (cn names cs))
 | [],bs,cs,h1,h2=>by
  match bs,cs,h1,h2 with
  | [b],[c],_,_=>rfl
 | n::r,bs,cs,h1,h2=>by
  rw[aaA]at h1 h2
  have hl:(List.zipWith f bs cs).length=bs.length:=by rw[ag0,h1,h2,ahn]
  have hp:=vy r.length
  have hq:=aem 2 r.length
  rw[Ao,Ao,Ao,hl,h1,h2,hp,List.drop_zipWith,List.take_zipWith]
  have i1:=xp f e r (bs.drop (2 ^ r.length)) (cs.drop (2 ^ r.length)) (by rw[adK];lia) (by rw[adK];lia)
  have i2:=xp f e r (bs.take (2 ^ r.length)) (cs.take (2 ^ r.length)) (by rw[aaG];lia) (by rw[aaG];lia)
  rw[i1,i2]
  split <;> rfl
inductive Ct(d:Nat) (vs:List V) (H:Hp) (Q:VK):Prop
 | mk (u v:V) (t t':Tr) (h1:vs=[u,v]) (h2:ff H t u) (h3:ff H t' v) (h4:t.dep<d) (h5:Q (.bl (decide (t=t'))) H):Ct d vs H Q
def iU(d:Nat):Sp:=λvs H Q _=>Ct d vs H Q
section
variable {P:Program}{w:World}{K:W.Frag}{mg:Str->Option Value}{base:Heap}
abbrev oN:List Str:=["_law_found", "_law_due"]
theorem abX:aJ oN oN (az xo):=fs
theorem Cu(F:aK K "_law_same_tree" "_law_same_tree" xo f fd)(T:iD mg) (G:ax P w K mg base aB k f fd oN (iU d)) (mS:mg "_law_same_tree" = some (.ref f)) (bS:Binds K fd oN []):ax P w K mg base aB (k+1) f fd oN (iU (d+1)):=by
 refine F.run abX λcdv A outer s H vs Q E hr h=>?_
 . obtain⟨u,v,t,t',rfl,hu,hv,hd,kk⟩:=h
   refine⟨_,ai (cy (PW.pt (tZ (ig (bf iC (by rfl) T.isi adv (aa (pv 1) (aa (lC (v:=.ty "bool") (by rfl) T.bool aew rfl) ah))))
    (vN (ig (bf iC (by rfl) T.isi adv (aa (pv 0) (aa (lC (v:=.ty "bool") (by rfl) T.bool aew rfl) ah)))))))
    (au (aL (vO (bf iC (by rfl) T.isi adv (aa (pv 1) (aa (lC (v:=.ty "bool") (by rfl) T.bool aew rfl) ah)))
     (vO (bf iC (by rfl) T.isi adv (aa (pv 0) (aa (lC (v:=.ty "bool") (by rfl) T.bool aew rfl) ah))) (AE (El kI (pv 0) (pv 1) (dz _))))))) ba)
    (ai (cy (PW.pt (tZ (pJ (ig (bf iC (by rfl) T.isi adv (aa (pv 0) (aa (lC (v:=.ty "tuple") (by rfl) T.tuple afa rfl) ah)))))
     (tZ (cU Nj (bf bw (by rfl) T.len adm (aa (pv 0) ah)) ao (dz _))
     (tZ (pJ (ig (bf iC (by rfl) T.isi adv (aa (aI (r:=eu K) cg (pv 0) ao (λ_ _=>rfl)) (aa (lC (v:=.ty "str") (by rfl) T.str PyProof.Rows.boot_str rfl) ah)))))
     (vN (cU Nj (aI (r:=eu K) cg (pv 0) ao (λ_ _=>rfl)) (aI (r:=eu K) cg (pv 1) ao (λ_ _=>rfl)) (dz _)))))))
     (au (aL gZ)) ba)
    (au (aL (vO (dm G hr rfl mS F.kp bS .nil dv (aa (aI (r:=eu K) cg (pv 0) ao (λ_ _=>rfl)) (aa (aI (r:=eu K) cg (pv 1) ao (λ_ _=>rfl)) ah)))
     (AE (dm G hr rfl mS F.kp bS .nil dv (aa (aI (r:=eu K) cg (pv 0) ao (λ_ _=>rfl)) (aa (aI (r:=eu K) cg (pv 1) ao (λ_ _=>rfl)) ah)))))))),?_⟩
   have fin:∀{b:Bool},(b=true ↔ t=t')->Q (.bl b) H:=λ{b} hb=>by
    rw[show b=decide (t=t') by rw[adb,hb,afQ]]
    exact kk
   cases t' with
   | leaf c'=>
    cases(show v=.bl c' from hv)
    refine⟨_,rfl,_,_, "bool",true,rfl,.bl _,rfl,_,rfl,qD (qD ?_)⟩
    refine⟨_,rfl,_,_, "bool",true,rfl,.bl _,rfl,_,rfl,qD ?_⟩
    cases t with
    | leaf c=>
     cases(show u=.bl c from hu)
     refine⟨_,rfl,_,_, "bool",true,rfl,.bl _,rfl,_,rfl,qD ⟨_,rfl,_,rfl,rfl,fin ?_⟩⟩
     rw[afQ]
     exact⟨λz=>(by cases z;rfl),λz=>(by cases z;rfl)⟩
    | node n l r=>
     obtain⟨a,vl,vr,rfl,ha,_,_⟩:=hu
     exact⟨_,rfl,_,_, "bool",false,rfl,.tup ha,rfl,_,rfl,kL (fin ⟨λz=>(by cases z),λz=>(by cases z)⟩)⟩
   | node n' l' r'=>
    obtain⟨a',vl',vr',rfl,zp,rO,J0⟩:=hv
    refine⟨_,rfl,_,_, "bool",false,rfl,.tup zp,rfl,_,rfl,kL ?_⟩
    cases t with
    | leaf c=>
     cases(show u=.bl c from hu)
     refine⟨_,rfl,_,_, "bool",true,rfl,.bl _,rfl,_,rfl,qD ?_⟩
     exact⟨_,rfl,_,_, "bool",false,rfl,.tup zp,rfl,_,rfl,kL (fin ⟨λz=>(by cases z),λz=>(by cases z)⟩)⟩
    | node n l r=>
     obtain⟨a,vl,vr,rfl,ha,hl,hR⟩:=hu
     have LV:(Tr.node n l r).dep=max l.dep r.dep+1:=rfl
     refine⟨_,rfl,_,_, "bool",false,rfl,.tup ha,rfl,_,rfl,kL ?_⟩
     refine⟨_,rfl,_,_, "tuple",true,rfl,.tup ha,rfl,_,rfl,kL ?_⟩
     refine⟨_,rfl,a,_,rfl,.inr (aR.of ha),rfl,_,rfl,kL ?_⟩
     refine⟨_,rfl,a,_,0,_,rfl,rfl,aR.of ha,aF (j:=0) rfl,_,_, "str",true,rfl,.str n,rfl,_,rfl,kL ?_⟩
     refine⟨_,rfl,a,_,0,_,rfl,rfl,aR.of ha,aF (j:=0) rfl,_,rfl,a',_,0,_,rfl,rfl,aR.of zp,aF (j:=0) rfl,rfl,_,rfl,?_⟩
     by_cases en:n=n'
     . subst en
       refine dw (by rw[aaN rfl];rfl) ?_
       refine⟨_,rfl,a,_,1,_,rfl,rfl,aR.of ha,aF (j:=1) rfl,_,rfl,a',_,1,_,rfl,rfl,aR.of zp,aF (j:=1) rfl,_,_,l,l',rfl,hl,rO,by lia,_,rfl,?_⟩
       by_cases el:l=l'
       . subst el
         refine di (aaN rfl) ?_
         refine⟨_,rfl,a,_,2,_,rfl,rfl,aR.of ha,aF (j:=2) rfl,_,rfl,a',_,2,_,rfl,rfl,aR.of zp,aF (j:=2) rfl,_,_,r,r',rfl,hR,J0,by lia,fin ?_⟩
         rw[afQ]
         exact⟨λz=>(by rw[z]),λz=>(by injection z)⟩
       . refine dw (aaH el) (fin ?_)
         exact⟨λz=>(nomatch z),λz=>absurd (by injection z) el⟩
     . refine di (by rw[aaH (λz=>en (V.str.inj z))];rfl) (fin ⟨λz=>(nomatch z),λz=>absurd (by injection z) en⟩)
inductive Cv(d:Nat) (vs:List V) (H:Hp) (Q:VK):Prop
 | mk (p q:Addr) (names:List Str) (bs:List Bool) (h1:vs=[.ref p,.ref q]) (h2:H p=some (.lst (names.map V.str))) (h3:H q=some (.lst (bs.map bV))) (h4:names.length<d) (h5:names.length<=8) (h6:bs.length=2 ^ names.length) (h7:∀(v:V) (H':Hp),ak H H'->ff H' (cn names bs) v->Q v H'):Cv d vs H Q
def nQ(d:Nat):Sp:=λvs H Q _=>Cv d vs H Q
abbrev nCn:List Str:=["_law_names", "_law_bits", "_law_half", "_law_low", "_law_high"]
abbrev xq:List Str:=["_law_names", "_law_bits"]
theorem G5:aJ nCn xq (az xm):=fs
theorem Cw{xs:List V}{k:Nat}(h:k<=xs.length):qC xs (some (k:Int)) none=xs.drop k:=by
 unfold qC
 rw[HT.Eo,HT.AV,ae5 h]
 exact adl (by rw[adK];exact aaf _)
theorem SM{xs:List V}{k:Nat}(h:k<=xs.length):qC xs none (some (k:Int))=xs.take k:=by
 unfold qC
 rw[HT.Eo,HT.AV,ae5 h]
 rfl
theorem LZ{f fS:Addr}{fd dS:FuncData}{d k:Nat}(F:aK K "_law_canon" "_law_canon" xm f fd)(O2:iD mg) (G:ax P w K mg base aB (k+9) f fd xq (nQ d)) (mC:mg "_law_canon" = some (.ref f)) (bC:Binds K fd xq [])
 (gS:ax P w K mg base aB 9 fS dS oN (iU 9)) (mS:mg "_law_same_tree" = some (.ref fS)) (kS:W.keepIn K (.ref fS)=true) (bS:Binds K dS oN []):ax P w K mg base aB (k+9+1) f fd xq (nQ (d+1)):=by
 refine F.run G5 λcdv A outer s H vs Q E hr h=>?_
 . obtain⟨p,q,names,bs,rfl,hp,hq,hd,n8,hlen,kk⟩:=h
   have hu:=eS hr
   have Cy:=hr.mono (Nat.le_add_left 9 k)
   refine⟨_,ai (cy (cU (Sq (Nat.lt_of_succ_lt hu)) (pv 0) (cY ah) (dz _)) (au (aL (El kI (aI (r:=eC K) aS (pv 1) ao (λ_ _=>rfl)) ao (dz _)))) ba)
    (ai (aP 2 G5.nd (aX t8 (bf bw (by rfl) O2.len adm (aa (pv 1) ah)) ao))
    (ai (aP 3 G5.nd (dm G hr rfl mC F.kp bC .nil dv (aa (iB uf (pv 0) (jh ao) jg) (aa (iB uf (pv 1) jg (jh (pv 2))) ah))))
    (ai (aP 4 G5.nd (dm G hr rfl mC F.kp bC .nil dv (aa (iB uf (pv 0) (jh ao) jg) (aa (iB uf (pv 1) (jh (pv 2)) jg) ah))))
    (ai (cy (ig (dm gS Cy rfl mS kS bS .nil dv (aa (pv 3) (aa (pv 4) ah)))) (au (aL (pv 3))) ba)
    (au (aL (fZ (aa (aI (r:=eC K) aS (pv 0) ao (λ_ _=>rfl)) (aa (pv 3) (aa (pv 4) ah)))))))))),?_⟩
   refine⟨_,rfl,(by show 0<=sizeLine;decide),λe0 he0=>?_⟩
   have s1:ak H (upd H e0 (.lst [])):=ak.av he0
   have q1:(upd H e0 (.lst [])) e0=some (.lst []):=af
   generalize upd H e0 (.lst [])=H1 at s1 q1 ⊢
   refine⟨p,e0,_,rfl,rfl,ar.of (s1 _ _ hp),ar.of q1,_,rfl,?_⟩
   cases names with
   | nil=>
    match bs,hlen with
    | [b],_=>
     refine di rfl ⟨_,rfl,q,_,0,_,rfl,rfl,ar.of (s1 _ _ hq),aF (j:=0) rfl,rfl,kk _ H1 s1 ?_⟩
     cases b <;> rfl
   | cons n r=>
    rw[aaA]at hd n8 hlen
    have hpw:=vy r.length
    have hps:=aem 2 r.length
    have hh:bs.length / 2=2 ^ r.length:=by rw[hlen,hpw]
    refine dw rfl ⟨_,rfl,q,_,rfl,.inl (ar.of (s1 _ _ hq)),_,_,rfl,rfl,⟨by decide,by decide⟩,?_⟩
    have eh:V.int ((((bs.map bV).length:Nat):Int) / 2)=V.int ((2 ^ r.length:Nat):Int):=by rw[aaa,← hh];rfl
    show eD 2 (V.int ((((bs.map bV).length:Nat):Int) / 2)) _ _ _
    rw[eh]
    have hle:2 ^ r.length<=(bs.map bV).length:=by rw[aaa];lia
    have n1:qC ((n::r).map V.str) (some 1) none=r.map V.str:=Cw (k:=1) (by rw[aaa,aaA];lia)
    have YT:r.length<=8:=by lia
    refine⟨_,rfl,_,rfl,p,_,rfl,ar.of (s1 _ _ hp),λp2 gr=>?_⟩
    rw[n1]
    have s2:ak H1 (upd H1 p2 (.lst (r.map V.str))):=ak.av gr
    have q2:(upd H1 p2 (.lst (r.map V.str))) p2=some (.lst (r.map V.str)):=af
    show eB _ _ _ (upd H1 p2 (.lst (r.map V.str))) _
    generalize upd H1 p2 (.lst (r.map V.str))=H2 at s2 q2 ⊢
    have jG:=s1.trans s2
    refine⟨_,rfl,_,rfl,_,rfl,q,_,rfl,ar.of (jG _ _ hq),λb2 Bx=>?_⟩
    rw[SM hle,← aeN]
    have s3:ak H2 (upd H2 b2 (.lst ((bs.take (2 ^ r.length)).map bV))):=ak.av Bx
    have q3:(upd H2 b2 (.lst ((bs.take (2 ^ r.length)).map bV))) b2=some (.lst ((bs.take (2 ^ r.length)).map bV)):=af
    refine⟨p2,b2,r,bs.take (2 ^ r.length),rfl,s3 _ _ q2,q3,by lia,YT,by rw[aaG];lia,λv1 H4 s4 r1=>?_⟩
    have Cz:=(jG.trans s3).trans s4
    refine⟨_,rfl,_,rfl,p,_,rfl,ar.of (Cz _ _ hp),λp5 ny=>?_⟩
    rw[n1]
    have s5:ak H4 (upd H4 p5 (.lst (r.map V.str))):=ak.av ny
    have q5:(upd H4 p5 (.lst (r.map V.str))) p5=some (.lst (r.map V.str)):=af
    show eB _ _ _ (upd H4 p5 (.lst (r.map V.str))) _
    generalize upd H4 p5 (.lst (r.map V.str))=H5 at s5 q5 ⊢
    have zt:=Cz.trans s5
    refine⟨_,rfl,_,rfl,_,rfl,q,_,rfl,ar.of (zt _ _ hq),λb6 SN=>?_⟩
    rw[Cw hle,← aga]
    have s6:ak H5 (upd H5 b6 (.lst ((bs.drop (2 ^ r.length)).map bV))):=ak.av SN
    have q6:(upd H5 b6 (.lst ((bs.drop (2 ^ r.length)).map bV))) b6=some (.lst ((bs.drop (2 ^ r.length)).map bV)):=af
    refine⟨p5,b6,r,bs.drop (2 ^ r.length),rfl,s6 _ _ q5,q6,by lia,YT,by rw[adK];lia,λv2 H7 s7 r2=>?_⟩
    have YU:=(s5.trans s6).trans s7
    have E8:=Cz.trans YU
    have SO:=r1.keep (pj YU)
    have c1:=nP (oM r (bs.take (2 ^ r.length)))
    refine⟨_,rfl,_,rfl,_,_,_,_,rfl,SO,r2,by lia,_,rfl,?_⟩
    have ec:=ym n r bs
    rw[hh]at ec
    by_cases e:cn r (bs.take (2 ^ r.length))=cn r (bs.drop (2 ^ r.length))
    . refine di (aaN e) ⟨_,rfl,kk v1 H7 E8 ?_⟩
      rw[ec,aaF e]
      exact SO
    . refine dw (aaH e) ?_
      refine⟨_,rfl,p,_,0,_,rfl,rfl,ar.of (E8 _ _ hp),aF (j:=0) rfl,_,rfl,_,rfl,(by show 3<=sizeLine;decide),λt ht=>?_⟩
      have s8:ak H7 (upd H7 t (.tup [.str n,v1,v2])):=ak.av ht
      refine kk (.ref t) _ (E8.trans s8) ?_
      rw[ec,aaz e]
      exact⟨t,v1,v2,rfl,af,SO.keep (pj s8),r2.keep (pj s8)⟩
end
end Gen
namespace PySem
section
theorem Kh:typeLookup (.type "list_reverseiterator") "__len__" = pure none:=by rw[afE,aeG];kernel_rfl
theorem L1:typeLookup (.type "list_reverseiterator") "__length_hint__" = pure (some (.builtin "list_reverseiterator.__length_hint__")):=by rw[afE,aeG];kernel_rfl
variable {prog:Program}{w:World}{A:Around}{s:Shared}{R:Result->Shared->Prop}
variable {I:Addr}{fp wr:List Addr}{G:Array GenState->Array GenState->Prop}{n:Nat}{P:Nat->Value->Prop}{St:Nat->Shared->Prop}
theorem G6(W:WalksS prog w A.in1 I fp wr G n P St) (hT:∀i s,St i s->s.TypeIs (.ref I) "list_reverseiterator") (S:Addr) (res:Value) (c₀:Nat) (gz:St 0 s) (CA:S∉fp) (hI:I∈fp)
 (hS:s.heap.get? S=some {cls:=.type "list",data:=.seq #[] c₀})
 (hR:∀s' fQ c',Moved (S::wr) G s s'->s'.heap.get? S=some {cls:=.type "list",dict:=none,data:=.seq fQ c',slots:=#[] } -> ItemsOf P fQ n->R (.ok (.ret res)) s') (hn:n<=sizeLine) :
 wpAny (model prog w) A.in1 (Builtin.List.listExtendWith (.ref S) (.ref I) res)
  (λfin s'=>match fin with | .done f=>R (.ok f) s' | .again c'=>c'.quiet=true/\codeAny (model prog w) A c' R s') (λe s'=>R (.error e) s') s:=by
 have hSI:S≠I:=λe=>CA (e ▸ hI)
 unfold Builtin.List.listExtendWith
 refine aad (afM (hT 0 _ gz) ?_)
 have h1:Builtin.List.listSameRef (.ref S) (.ref I)=false:=by simp[Builtin.List.listSameRef,hSI]
 have h2:(Value.type "list_reverseiterator" == Value.type "list")=false:=by decide
 have h3:(Value.type "list_reverseiterator" == Value.type "tuple")=false:=by decide
 rw[aaz (by rw[h1];decide)]
 refine aad (W.self 0 _ _ _ gz ?_)
 refine aad (adP ?_)
 unfold Builtin.List.listLengthHint
 refine aad (ae2 (hT 0 _ gz) Kh ?_)
 show wpAny _ A.in1 (specialOf (Value.ref I) (Str.ofString "__length_hint__") >>= _) _ _ _
 refine aad (ae2 (hT 0 _ gz) L1 ?_)
 generalize YV:("list_reverseiterator.__length_hint__" : String)=id0
 wp_delta
 rw[show splitId id0=some ("list_reverseiterator", "__length_hint__") from by subst YV;decide+kernel]
 subst YV
 refine aad (agq (b:=true) (hT 0 _ gz) (by rw[isSubtype_type];kernel_rfl) ?_)
 refine aao ?_
 rw[aaz (by decide)]
 exact aao ⟨aha F.plain_extend_loop _,codeAny_extend_loopS W hn _ CA _ n 0 _ _ _ rfl (aaO _) gz hS (ItemsOf.nil P) λs' fQ c' hm CC qM=>hR s' fQ c' hm CC qM⟩
theorem L3(W:WalksS prog w A.in1 I fp wr G n P St) (hT:∀i s,St i s->s.TypeIs (.ref I) "list_reverseiterator") (S:Addr) (gz:St 0 s) (CA:S∉fp) (hI:I∈fp)
 (hS:s.heap.get? S=some {cls:=.type "list",data:=.seq #[] })
 (hR:∀s' fQ c',Moved (S::wr) G s s'->s'.heap.get? S=some {cls:=.type "list",dict:=none,data:=.seq fQ c',slots:=#[] } -> ItemsOf P fQ n->R (.ok (.ret .none)) s') (hn:n<=sizeLine) :
 wpAny (model prog w) A.in1 (Builtin.«list.__init__» ⟨[.ref S,.ref I],[]⟩)
  (λfin s'=>match fin with | .done f=>R (.ok f) s' | .again c'=>c'.quiet=true/\codeAny (model prog w) A c' R s') (λe s'=>R (.error e) s') s:=by
 show wpAny _ A.in1 (do let old ← Builtin.List.listItems (.ref S);Builtin.List.listUpdate (.ref S) (λ_=>#[]);letGo old.toList.reverse;Builtin.List.listExtendWith (.ref S) (.ref I) .none) _ _ s
 refine aad ?_
 unfold Builtin.List.listItems
 refine aad (adu hS rfl (aao ?_))
 show wpAny _ A.in1 (updateSeq S (λ_=>#[]) >>= λ_=>letGo (#[]:Array Value).toList.reverse >>= λ_=>Builtin.List.listExtendWith (.ref S) (.ref I) .none) _ _ s
 refine aad (wpAny_updateSeq hS rfl ?_)
 have aff:=afp (Obj.mapSeq (λ_=>(#[]:Array Value))) hS rfl
 have YW:∀b o,b≠S->s.heap.get? b=some o->(s.heap.update S (Obj.mapSeq (λ_=>(#[]:Array Value)))).get? b=some o:=
  λb o hb e=>(afe _ _ (aax hb)).trans e
 refine aad (afC ?_)
 refine G6 W hT S .none _ (W.frame 0 s _ s.toks gz (aaf _) λb hb o e=>YW b o (λh=>CA (h ▸ hb)) e) CA hI aff (λs' fQ c' hm CC qM=>?_) hn
 exact hR s' fQ c' (Moved.trans W.gtrans ((Moved.refl W.grefl).then_heap (aaf _) λb o hb e=>YW b o (λh=>hb (h ▸ aas)) e) hm) CC qM
theorem L4(W:WalksS prog w A.in1.in1 I fp wr G n P St) (hT:∀i s,St i s->s.TypeIs (.ref I) "list_reverseiterator") (gz:St 0 s) (hfp:∀b∈fp,b<s.heap.objs.size) (hI:I∈fp)
 (hQ:∀s' fQ c',Moved (s.heap.objs.size::wr) G {s with heap:=s.heap.push {cls:=.type "list",data:=.seq #[] } } s'->
  s'.heap.get? s.heap.objs.size=some {cls:=.type "list",dict:=none,data:=.seq fQ c',slots:=#[] } -> ItemsOf P fQ n->Q (.ref s.heap.objs.size) s') (hn:n<=sizeLine) :
 wpAny (model prog w) A (call (.type "list") [.ref I]) Q E s:=by
 have CA:s.heap.objs.size∉fp:=λhm=>adJ _ (hfp _ hm)
 refine callType_codes (Q₁:=λobj eP=>obj=.ref s.heap.objs.size/\eP = {s with heap:=s.heap.push {cls:=.type "list",data:=.seq #[] } }) F.called_list (F.typeCall_list_1 _) F.entry_list_init
  (code_list_new _ ⟨rfl,rfl⟩) λobj eP pN=>?_
 obtain⟨rfl,rfl⟩:=pN
 have hS:(s.heap.push {cls:=.type "list",data:=.seq #[] }).get? s.heap.objs.size=some {cls:=.type "list",data:=.seq #[] }:=aaq _ rfl
 refine⟨⟨_,hS,rfl⟩,F.args_list_init_2 _ _,L3 W hT _ (W.frame 0 s _ s.toks gz (aaf _) λb _ o e=>aac _ e) CA hI hS (λs' fQ c' hm CC qM=>?_) hn⟩
 exact⟨rfl,hQ s' fQ c' hm CC qM⟩
end
end PySem
namespace L2
open PySem PySem.Spec PyProof.Rows
section
variable {X:Cx}
theorem CD:∀{xs:List V}{us:List Value},Vals xs us->Vals xs.reverse us.reverse
 | _,_,.nil=>.nil
 | _,_,.cons h t=>by
  rw[aej,aej]
  exact(CD t).append (.cons h .nil)
def abY(K:W.Frag)(ta:TA):TE:=λσ H Q=>ta σ H λvs H1=>∃p ys,vs=[.ref p]/\ar K H1 p ys/\∀l,H1 l=none->Q (.ref l) (upd H1 l (.lst ys.reverse))
theorem SQ(hgD:Gl X "list")(hmD:X.mg "list" = none)(hgZ:Gl X "reversed")(hmZ:X.mg "reversed" = none)(hc:X.calm=true)(ha:PA X [a] ta)
 (hs:starEach [Expr.Call (.Name "reversed" p2) [a] [] G7] X.env=(false,eval (Expr.Call (.Name "reversed" p2) [a] [] G7) X.env)::starEach [] X.env:=by rfl) (jl:(backTo pos (starEach [] X.env)).any (·.1)=false:=by rfl)
 (oW:starEach [a] X.env=(false,eval a X.env)::starEach [] X.env:=by rfl) (gr:(backTo G7 (starEach [] X.env)).any (·.1)=false:=by rfl) :
 PE X (.Call (.Name "list" p1) [.Call (.Name "reversed" p2) [a] [] G7] [] pos) (abY X.K ta):=by
 intro pins s σ H Q I h
 refine aey (jP I hgD hmD adw ?_ (by decide) (by decide))
 refine adk ?_ hs jl
 rw[hs]
 show wpAny _ _ (spliced ((false,eval _ X.env)::backTo pos (starEach [] X.env))) _ _ s
 refine aex ?_
 refine Call_ (jP I hgZ hmZ afL (adk (aO (ha G7 pins s σ H _ I h) λus s1 ⟨vs,H1,I1,r1,q1⟩=>?_) oW gr))
 obtain⟨p,ys,e,hp,q⟩:=q1
 subst e
 obtain⟨u,rfl,ru⟩:=vals1 r1
 cases(show u=Value.ref p from ru)
 obtain⟨its,rv,pl,hz⟩:=I1.list hp
 have hl:=pl.isList
 have eE:p<s1.heap.objs.size:=by obtain⟨_,e,_⟩:=hl;exact aaw e
 refine call_reversed_list hl (afj ?_)
 have W:=Walks.listRev (prog:=X.prog) (w:=X.w) (A:=X.A.in1.in1) (by show X.A.handled=none;exact I1.ok.hd hc) s1.heap.objs.size p (aaD eE) its.toArray
 have hsz:(s1.heap.push (revObj p ((its.toArray.size:Int)-1))).objs.size=s1.heap.objs.size+1:=by simp[Heap.push]
 have hle:its.toArray.size<=sizeLine:=by rw[aan,← rv.length];exact hz
 refine L4 W.toS (λi s x=>x.2.1.typeIs) ⟨aaO _,⟨_,aaq _ rfl,rfl,by simp[revObj]⟩,hl.at λo e=>aac _ e⟩ (λb hb=>?_) (by simp) (λs' fQ c' hm CC qM=>?_) hle
 . show b<(s1.heap.push (revObj p ((its.toArray.size:Int)-1))).objs.size
   rw[hsz]
   simp only[aaj,aat,adg]at hb
   rcases hb with rfl|rfl
   . exact aeT _
   . exact adL eE
 . have hS'':s'.heap.get? (s1.heap.objs.size+1)=some {cls:=.type "list",dict:=none,data:=.seq fQ c',slots:=#[] }:=by
    have:=CC
    rw[show (s1.heap.push (revObj p ((its.toArray.size:Int)-1))).objs.size=s1.heap.objs.size+1 from hsz]at this
    exact this
   have kk:∀b u,s1.heap.get? b=some u->s'.heap.get? b=some u:=λb u e=>by
    have hb:=aaw e
    refine hm.heap b u (λlP=>?_) (aac _ (aac _ e))
    rcases aaj.mp lP with z|lP
    . exact absurd hb (by rw[z.trans hsz];exact Nat.not_lt.mpr (aen _))
    . exact absurd hb (by rw[aaC.mp lP];exact adJ _)
   have ea:fQ.toList=its.reverse:=by
    obtain⟨i1,i2⟩:=qM
    have iI:fQ.toList.length=its.length:=by rw[aeb,i1,aan]
    refine ags (by rw[iI,adY]) λj g1 g2=>?_
    have:=i2 j fQ.toList[j] (by rw[← aeD];exact aab g1)
    rw[aan,afr]at this
    have hj:j<its.length:=by lia
    rw[List.getElem_reverse]
    rw[aab (by lia)]at this
    exact(aay this).symm
   have rr:Vals ys.reverse fQ.toList:=by rw[ea];exact CD rv
   rw[Moved.eq_with hm]
   refine⟨.ref (s1.heap.objs.size+1),_,I1.laid (a:=s1.heap.objs.size+1) (t':=s'.toks) kk (aen _) (show bU X.prog X.w _ s'.heap _ (.lst ys.reverse) from⟨by rw[adY];exact hz,fQ.toList,c',rr,by simpa using hS''⟩),?_,q _ (I1.hok.fresh (aen _))⟩
   show Value.ref _=Value.ref _
   rw[hsz]
end
section
variable {X:Cx}{a:Expr}{ta:TE}
end
theorem P6:mU 1=true/\mU 2=true/\mU 3=true/\mU 4=true/\mU 5=true:=by decide+kernel
def lQ(k:Nat):Array Nat:=if k<=1 then p0 k else j5 (cB k) 0 (2 ^ k-2) 2 (p0 k)
theorem XB:∀k∈[1,2,3,4,5],((lQ k).toList.map λi=>(eZ k).getD i [])=bg k:=by decide+kernel
theorem E9:∀k∈[1,2,3,4,5],(lQ k).size=2 ^ k:=by decide+kernel
theorem XC:∀k∈[1,2,3,4,5],((lQ k).toList.all λi=>Nat.blt i (2 ^ k))=true:=by decide+kernel
section
variable {prog:Program}{w:World}
theorem P7(k:Nat)(h1:1<=k)(h6:k<=5):Al prog w (eZ k) (lQ k):=by
 obtain⟨a1,a2,a3,a4,a5⟩:=P6
 obtain⟨b2,b3,b4,b5⟩:=JX
 have qs:=λk hk=>E9 k hk
 rcases (show k=1\/k=2\/k=3\/k=4\/k=5 by lia) with rfl|rfl|rfl|rfl|rfl
 . refine⟨rfl,λA E s it C=>?_⟩
   have C':=C.congr λi j hi hj=>BY a1 hi hj
   exact PJ C' (p:=p0 1) (So 1) rfl (by decide+kernel) ⟨rfl,rfl⟩
 . exact lV a2 b2 (by decide) (by decide) (qs 2 (by simp))
 . exact lV a3 b3 (by decide) (by decide) (qs 3 (by simp))
 . exact lV a4 b4 (by decide) (by decide) (qs 4 (by simp))
 . exact lV a5 b5 (by decide) (by decide) (qs 5 (by simp))
end
section
variable {X:Cx}
theorem CI:i0 X (.builtin "sorted") (λxs H Q=>∃p ts k,xs=[.ref p]/\ar X.K H p (ts.map V.ref)/\Paired (λt b=>aR X.K H t (b.map V.int)) ts (eZ k)/\k<=5/\
 ∀D Oe,H D=none->Paired (λt b=>aR X.K H t (b.map V.int)) Oe (bg k)->Q (.ref D) (upd H D (.lst (Oe.map V.ref)))):=by
 intro pins s σ H xs us Q I r h
 obtain⟨p,ts,k,rfl,hp,hb,h6,q⟩:=h
 obtain⟨u,rfl,rx⟩:=vals1 r
 cases(show u=Value.ref p from rx)
 obtain⟨its,rv,pl,hz⟩:=I.list hp
 have l1:=rv.length
 rw[aaa]at l1
 have l2:=hb.length
 rw[oF]at l2
 by_cases w6:k=0
 . subst w6
   obtain⟨n,hn⟩:=sg s.heap its its.toArray
   exact GI pl.isList (by lia) ⟨.ref (s.heap.objs.size+1),_,I.laid (t':=s.toks) (o:=.lst (ts.map V.ref)) (λb o hb=>qd hb) (by lia) ⟨hz,its,n,rv,hn⟩,rfl,q _ ts (I.hok.fresh (by lia)) hb⟩
 have hk:k∈[1,2,3,4,5]:=by
  rcases (show k=1\/k=2\/k=3\/k=4\/k=5 by lia) with rfl|rfl|rfl|rfl|rfl <;> simp
 have two:2 ^ 1<=2 ^ k/\2 ^ k<=2 ^ 5:=⟨ada (by decide) (by lia),ada (by decide) h6⟩
 have hin:∀i∈(lQ k).toList,i<2 ^ k:=λi hi=>by
  have:=ad7.mp (XC k hk) i hi
  rwa[Nat.blt_eq]at this
 refine DZ (k:=k) (q:=lQ k) pl.isList (EW I rv hb) (zF k) (by lia) (by lia) (by lia) (P7 k (by lia) h6) ?_
 obtain⟨n,hn⟩:=sg s.heap its ((lQ k).map λi=>its.getD i .none)
 have gr:=xf (d:=0) (e:=[]) hb (l:=(lQ k).toList) (λi hi=>by have:=hin i hi;lia)
 rw[XB k hk]at gr
 refine⟨.ref (s.heap.objs.size+1),_,I.laid (t':=s.toks) (o:=.lst (((lQ k).toList.map λi=>ts.getD i 0).map V.ref)) (λb o hb=>qd hb) (by lia) ?_,rfl,q _ _ (I.hok.fresh (by lia)) gr⟩
 refine⟨?_,((lQ k).map λi=>its.getD i .none).toList,n,?_,?_⟩
 . rw[aaa,aaa,aeb,E9 k hk,adW]
   lia
 . have v:=BZ rv (l:=(lQ k).toList) (λi hi=>by rw[aaa];have:=hin i hi;lia)
   rw[Array.toList_map]
   have e:((lQ k).toList.map λi=>ts.getD i 0).map V.ref=(lQ k).toList.map λi=>(ts.map V.ref).getD i .aV:=by
    rw[adV]
    refine adZ λi hi=>?_
    show V.ref (ts.getD i 0)=_
    exact(LQ (by have:=hin i hi;lia)).symm
   rw[e]
   exact v
 . rw[Array.toArray_toList]
   exact hn
end
end L2
namespace L2
open PySem PySem.Spec PyProof.Rows PySem.W
theorem bu:∀k,(bg k).length=2 ^ k
 | 0=>rfl
 | k+1=>by
  rw[bg,List.length_flatMap,aem,← bu k]
  generalize bg k=l
  induction l with
  | nil=>rfl
  | cons a l ih=>rw[aaB,List.sum_cons,ih,aaA];show 2+l.length*2=(l.length+1)*2;lia
end L2
namespace Gen
open PySem L2
theorem abZ(h:n<=8):2 ^ n<=256:=ada (by decide) h
abbrev G8:Stmt:=top 27
def lW(H:Hp)(ts:List Addr) (bs:List (List Int)):Prop:=Paired (λt b=>H t=some (.tup (b.map V.int))) ts bs
theorem lW.same{H H':Hp}{ts:List Addr}{bs:List (List Int)}(h:lW H ts bs) (s:ak H H'):lW H' ts bs:=Paired.cw h λt b e=>s _ _ e
def rj(K:W.Frag)(H:Hp)(ts:List Addr) (bs:List (List Int)):Prop:=Paired (λt b=>aR K H t (b.map V.int)) ts bs
theorem lW.t(h:lW H ts bs):rj K H ts bs:=Paired.cw h λt b e=>aR.of e
theorem Ki(e:ak H H')(h:aR K H a xs):aR K H' a xs:=by
 rcases h with (h|⟨o,h⟩)|h
 . exact .inl (.inl (e a _ h))
 . exact .inl (.inr ⟨o,e a _ h⟩)
 . exact .inr h
theorem rj.same{K:W.Frag}{H H':Hp}{ts:List Addr}{bs:List (List Int)}(h:rj K H ts bs) (s:ak H H'):rj K H' ts bs:=Paired.cw h λt b e=>Ki s e
def CJ(K:W.Frag):Sp:=λvs H Q _=>∃(n:Nat),vs=[.int (n:Int)]/\n<=5/\∀p us H',ak H H'->H p=none->H' p=some (.lst (us.map V.ref))->rj K H' us (bg n)->Q (.ref p) H'
theorem P8(r:List Int)(b:Int):(r.map V.int++[V.int b])=(r++[b]).map V.int:=by rw[aah];rfl
theorem Kj(hD:H1 D=none) (hp:H1 p=some (.lst (ts.map V.ref))) (h2:lW H1 ts bs) (hlen:bs.length<=256) (hk:∀r∈bs,r.length<=8)
 (fin:∀H4 ws,ak H1 H4->H4 D=some (.lst (ws.map V.ref))->lW H4 ws (bs.map (· ++ [b]))->Q H4) :
 ∃W:Nat->Nat->St->Hp->Prop,(∃m,W 0 m [none] (upd H1 D (.lst [])))/\uJ D (eD 0) oo (vQ (Am K) (d6 0) (Lh (eB (tC (.int b)) j0))) (uH K p) W Q:=by
 have hl:=h2.length
 refine fz bs.length (λj acc cm H4=>(∃ws:List Addr,acc=ws.map V.ref/\lW H4 ws ((bs.take j).map (· ++ [b]))/\ws.length=j)/\(∃u,cm=[u])/\ak H1 H4) ⟨⟨[],rfl,.nil,rfl⟩,⟨none,rfl⟩,ak.av hD⟩ af ?_ ?_
 . rintro acc cm H4 df ⟨⟨ws,rfl,CK,_⟩,_,s4⟩
   rw[ac4]at CK
   exact⟨⟨_,ar.of (s4 _ _ hp),by rw[aaa,hl];exact aaf _⟩,fin H4 ws s4 df CK⟩
 . rintro j acc cm H4 hj df ⟨⟨ws,rfl,CK,uI⟩,⟨u,rfl⟩,s4⟩
   have Kk:bs[j]?=some bs[j]:=aab hj
   obtain⟨t,ht,hT⟩:=bx h2 (i:=j) Kk
   have ej:(ts.map V.ref)[j]?=some (.ref t):=by rw[aae,ht];rfl
   refine⟨⟨_,_,ar.of (s4 _ _ hp),ej⟩,?_⟩
   rintro x' H' ⟨rfl,jn⟩
   have ex:=jn _ (ar.of (s4 _ _ hp))
   rw[ej]at ex
   cases ex
   refine dJ ?_
   have Iw:(bs.take (j+1)).map (· ++ [b])=(bs.take j).map (· ++ [b])++[bs[j]++[b]]:=by
    rw[adn,Kk,aah]
    rfl
   have Jo:=hk _ (adf hj)
   generalize bs[j]=r at hT Iw Jo
   have SR:∀(R:Addr) (J:Hp),ak H' J->J R=some (.tup ((r++[b]).map V.int))->∃acc,J D=some (.lst acc)/\acc.length<sizeLine/\∃m',m'<bs.length-j/\IY D bs.length (λj acc cm H4=>(∃ws:List Addr,acc=ws.map V.ref/\lW H4 ws ((bs.take j).map (· ++ [b]))/\ws.length=j)/\(∃u,cm=[u])/\ak H1 H4) (j+1) m' [some (.ref t)] (upd J D (.lst (acc++[.ref R]))):=by
    intro R J sJ hR
    have YX:=sJ _ _ df
    have nt:∀{b:Addr}{o:List V},J b=some (.tup o)->b≠D:=λhb e=>by rw[e,YX]at hb;cases hb
    refine⟨_,YX,(by rw[aaa];exact small (by lia)),cE hj af ⟨⟨ws++[R],by rw[aah];rfl,?_,by rw[aag,abc,uI]⟩,⟨_,rfl⟩,?_⟩⟩
    . rw[Iw]
      refine agU (Paired.cw CK λc d e=>?_) ?_
      . have:=sJ _ _ e
        rw[ag (nt this)]
        exact this
      . rw[ag (nt hR)]
        exact hR
    . intro y o hy
      rw[ag (ae hy hD)]
      exact sJ _ _ (s4 _ _ hy)
   refine⟨_,rfl,(by show 1<=sizeLine;decide),λT1 hT1=>?_⟩
   have z1:ak H' (upd H' T1 (.tup [.int b])):=ak.av hT1
   have z2:(upd H' T1 (.tup [.int b])) T1=some (.tup [.int b]):=af
   generalize upd H' T1 (.tup [.int b])=J3 at z1 z2 ⊢
   refine⟨t,T1,_,_,rfl,rfl,aR.of (z1 _ _ (s4 _ _ hT)),aR.of z2,(by simp),?_,λe=>?_,λ_ R hR=>?_⟩
   . rw[aaa]
     exact kP (by show r.length+1<=1000;lia)
   . have:r=[]:=List.map_eq_nil_iff.mp e
     subst this
     exact SR T1 J3 z1 z2
   . exact SR R _ (z1.trans (ak.av hR)) (by rw[af,P8])
section
variable {P:Program}{w:World}{K:W.Frag}{mg:Str->Option Value}{base:Heap}
theorem Kl(s:ak H H')(h:H' D=none):H D=none:=by
 cases e:H D with
 | none=>rfl
 | some o=>rw[s _ _ e]at h;cases h
theorem G9:aJ ["_law_many", "_law_found", "_law_k"] ["_law_many"] (az G8):=fs
theorem D0(F:aK K "_law_all_bits" "_law_all_bits" G8 f fd)(O:Own mg)(hS:mg "sorted" = none):ax P w K mg base aB 1 f fd ["_law_many"] (CJ K):=by
 refine F.run G9 (len:=λvs H Q E h=>by obtain⟨n,rfl,_⟩:=h;rfl) λcdv A outer s H vs Q E hr h=>?_
 . obtain⟨n,rfl,n8,kk⟩:=h
   refine⟨_,ai (aP 1 G9.nd (cY (aa (fZ ah) ah)))
    (ai (fi ac7 rfl (iq rfl O.range (aa (pv 0) ah)) (aC (i:=2) G9.nd rfl (Or.inl rfl))
     (au (aP 1 G9.nd (aX kK
      (fu (N:=["_law_one"]) (js:=[none]) (by kernel_rfl) rfl (dj (pv 1)) (λ_ _ _ _ _ _=>aC (i:=0) NI rfl (Or.inl rfl) (.inr rfl)) (λ_ _ _ _ _ _=>bJ) (λ_ _ _ _ _ _=>aX (r:=Am K) EY (pv 0) (fZ (aa ao ah))))
      (fu (N:=["_law_one"]) (js:=[none]) (by kernel_rfl) rfl (dj (pv 1)) (λ_ _ _ _ _ _=>aC (i:=0) NI rfl (Or.inl rfl) (.inr rfl)) (λ_ _ _ _ _ _=>bJ) (λ_ _ _ _ _ _=>aX (r:=Am K) EY (pv 0) (fZ (aa ao ah))))))))
    (au (aL (bf CI (by rfl) hS PyProof.Rows.boot_sorted (aa (pv 1) ah))))),?_⟩
   refine⟨(by show 0<=sizeLine;decide),λe he=>?_⟩
   have t0:ak H (upd H e (.tup [])):=ak.av he
   have q0:(upd H e (.tup [])) e=some (.tup (([]:List Int).map V.int)):=af
   generalize upd H e (.tup [])=H0 at t0 q0 ⊢
   refine⟨(by show 1<=sizeLine;decide),λp0 Bv=>?_⟩
   have t1:ak H0 (upd H0 p0 (.lst [.ref e])):=ak.av Bv
   have q1:(upd H0 p0 (.lst [.ref e])) p0=some (.lst ([e].map V.ref)):=af
   generalize upd H0 p0 (.lst [.ref e])=H1 at t1 q1 ⊢
   have t01:=t0.trans t1
   refine⟨_,rfl,_,rfl,Int.le_trans (by decide : -(2 ^ 62)<=(0:Int)) (by lia),ahc (by lia:((n:Nat):Int)<=256) (by decide),j7 (n:=((n:Int)).toNat) (λi σ Hi=>∃(p:Addr) (ts:List Addr) (v2:Option V),σ=[some (.int (n:Int)),some (.ref p),v2]/\Hi p=some (.lst (ts.map V.ref))/\lW Hi ts (eZ i)/\ak H Hi) ?_ ?_ ?_⟩
   . exact⟨p0,[e],none,rfl,q1,.cons (t1 _ _ q0) .nil,t01⟩
   . rintro i σ Hi hi ⟨p,ts,v2,rfl,hp,kh,si⟩
     rw[adX]at hi
     have yY:(eZ i).length<=256:=by
      rw[oF]
      exact abZ (by lia)
     have nj:∀r∈eZ i,r.length<=8:=λr J0=>by rw[zF i r J0];lia
     refine⟨_,rfl,p,rfl,⟨_,ar.of hp⟩,λD hD=>Kj hD hp kh yY nj λH2 ws s2 sP NC=>?_⟩
     refine⟨_,rfl,p,rfl,⟨_,ar.of (s2 _ _ hp)⟩,λD' hD'=>Kj hD' (s2 _ _ hp) (kh.same s2) yY nj λH3 ws' s3 yW NF=>?_⟩
     have l1:=NC.length
     have l2:=NF.length
     rw[aaa]at l1 l2
     refine⟨D,D',_,_,rfl,rfl,s3 _ _ sP,yW,(by rw[aaa,aaa];exact kP (by lia)),λR hR=>⟨R,ws++ws',_,rfl,?_,?_,?_⟩⟩
     . rw[af,aah]
     . rw[eZ]
       exact cT (Paired.cw NC λt b e=>by have:=s3 _ _ e;rw[ag (ae this hR)];exact this) (Paired.cw NF λt b e=>by rw[ag (ae e hR)];exact e)
     . exact si.trans (s2.trans (s3.trans (ak.av hR)))
   . rintro σ Hi ⟨p,ts,v2,rfl,hp,kh,si⟩
     rw[adX]at kh
     refine⟨_,rfl,p,ts,n,rfl,ar.of hp,kh.t,n8,λD Oe hD ab0=>?_⟩
     exact kk D Oe _ (si.trans (ak.av hD)) (Kl si hD) af (rj.same ab0 (ak.av hD))
end
def bI(b:Bool):Int:=if b=true then 1 else 0
def rowOf(e:Str->Bool)(names:List Str):List Int:=names.map λn=>bI (e n)
theorem lR:∀k,bg (k+1)=(bg k).map (0 :: ·)++(bg k).map (1 :: ·)
 | 0=>rfl
 | k+1=>by
  have dist:∀(x:Int) (l:List (List Int)),(l.map (x :: ·)).flatMap (λr=>[r++[(0:Int)],r++[1]])=(l.flatMap λr=>[r++[(0:Int)],r++[1]]).map (x :: ·):=λx l=>by
   induction l with
   | nil=>rfl
   | cons a l ih=>rw[aaB,ahk,ih,ahk,aah];rfl
  have h:=lR k
  rw[show bg (k+1+1)=(bg (k+1)).flatMap λr=>[r++[0],r++[1]] from rfl,h,List.flatMap_append,dist,dist,← h]
  rfl
theorem CL(h:t<2 ^ k):(bg (k+1))[t]?=((bg k)[t]?).map (0 :: ·):=by
 rw[lR,adI (by rw[aaa,bu];exact h),aae]
theorem CN(h:¬ t<2 ^ k):(bg (k+1))[t]?=((bg k)[t-2 ^ k]?).map (1 :: ·):=by
 rw[lR,adF (by rw[aaa,bu];lia),aaa,bu,aae]
theorem oO(e:Str->Bool):∀(names:List Str) (bs:List Bool) (t:Nat),bs.length=2 ^ names.length->(bg names.length)[t]?=some (rowOf e names)->ev e (cn names bs)=bs.getD t false
 | [],bs,t,h1,h2=>by
  match bs,h1 with
  | [b],_=>
   have:t<1:=(aak.mp h2).1
   have:t=0:=by lia
   subst this
   rfl
 | n::r,bs,t,h1,h2=>by
  rw[aaA]at h1 h2
  have hp:=vy r.length
  have hq:=aem 2 r.length
  have lt:=(aak.mp h2).1
  rw[bu]at lt
  rw[Ao,h1,hp]
  by_cases q:t<2 ^ r.length
  . rw[CL q,afc]at h2
    obtain⟨x,hx,e1⟩:=h2
    have e2:=aea e1
    have en:e n=false:=by
     cases h:e n
     . rfl
     . have:=e2.1
       rw[show (λn=>bI (e n)) n=1 by show bI (e n)=1;rw[h];rfl]at this
       cases this
    rw[en,aaz (by decide),oO e r _ t (by rw[aaG];lia) (by rw[hx,e2.2];rfl),aai,aai,afW q]
  . rw[CN q,afc]at h2
    obtain⟨x,hx,e1⟩:=h2
    have e2:=aea e1
    have en:e n=true:=by
     cases h:e n
     . have:=e2.1
       rw[show (λn=>bI (e n)) n=0 by show bI (e n)=0;rw[h];rfl]at this
       cases this
     . rfl
    rw[en,aaF rfl,oO e r _ (t-2 ^ r.length) (by rw[adK];lia) (by rw[hx,e2.2];rfl),aai,aai,ae9,show 2 ^ r.length+(t-2 ^ r.length)=t by lia]
theorem tK(e:Str->Bool):∀(names:List Str),∃t,t<2 ^ names.length/\(bg names.length)[t]?=some (rowOf e names)
 | []=>⟨0,by decide,rfl⟩
 | n::r=>by
  obtain⟨t,h1,h2⟩:=tK e r
  rw[aaA]
  have hq:=aem 2 r.length
  cases h:e n
  . refine⟨t,by lia,?_⟩
    rw[CL h1,h2]
    show some (0::rowOf e r)=some (bI (e n)::rowOf e r)
    rw[h]
    rfl
  . refine⟨2 ^ r.length+t,by lia,?_⟩
    rw[CN (by lia),Nat.add_sub_cancel_left,h2]
    show some (1::rowOf e r)=some (bI (e n)::rowOf e r)
    rw[h]
    rfl
theorem gY:∀(k:Nat),∀r∈bg k,r.length=k/\∀x∈r,x=0\/x=1
 | 0,r,h=>by
  rw[show r=[] from aaC.mp h]
  exact⟨rfl,λ_ h=>nomatch h⟩
 | k+1,r,h=>by
  rw[lR]at h
  rcases aap.mp h with h|h
  . obtain⟨q,hq,rfl⟩:=aal.mp h
    obtain⟨l,b⟩:=gY k q hq
    exact⟨by rw[aaA,l],λx hx=>by rcases aaj.mp hx with rfl|hx;exact .inl rfl;exact b x hx⟩
  . obtain⟨q,hq,rfl⟩:=aal.mp h
    obtain⟨l,b⟩:=gY k q hq
    exact⟨by rw[aaA,l],λx hx=>by rcases aaj.mp hx with rfl|hx;exact .inr rfl;exact b x hx⟩
def hU(l:List (Str×Str)) (n:Str):Str:=((l.find? λr=>decide (r.1=n)).map (·.2)).getD n
theorem CO(n:Str):∀l:List (Str×Str),(aG (dc l) (.inr n)).getD (.str n)=.str (hU l n)
 | []=>rfl
 | r::l=>by
  by_cases e:r.1=n
  . have h1:aG (dc (r::l)) (.inr n)=some (.str r.2):=cZ (p:=((.inr r.1:Key),V.str r.2)) (by rw[e])
    rw[h1,hU,aev (by simpa using e)]
    rfl
  . have h1:aG (dc (r::l)) (.inr n)=aG (dc l) (.inr n):=cz (p:=((.inr r.1:Key),V.str r.2)) (λq=>e (adC q))
    rw[h1,CO n l,hU,hU,afg (by simpa using e)]
def iL(M:aQ)(bs cs:List Int):List Int:=M.keepers.map λr=>dQ (cH M bs cs M.gates.length) (hU M.nexts r.1)
section
variable {M:aQ}{names:List Str}{bs cs:List Int}
theorem mK.keys(h:mK M names bs cs):(cH M bs cs M.gates.length).map (·.1)=names:=by rw[kq h.l1 h.l2,ac4,h.ok.all]
theorem mK.next(h:mK M names bs cs)(hr:r∈M.keepers):qU (cH M bs cs M.gates.length) (hU M.nexts r.1):=by
 have hk:=h.keys
 unfold hU
 cases e:M.nexts.find? λq=>decide (q.1=r.1) with
 | none=>
  have hm:r.1∈names:=by rw[h.ok.all];exact aaI _ (aar _ (aal.mpr ⟨r,hr,rfl⟩))
  exact .inr (.inr (.inl ⟨h.ok.nm _ hm,by rw[hk];exact hm⟩))
 | some q=>exact(h.ok.nxl q (aeS e)).N1 h.ok.nm λx hx=>by rw[hk];exact hx
theorem tL:(iL M bs cs).length=M.keepers.length:=by unfold iL;rw[aaa]
theorem mK.zK(h:mK M names bs cs):∀b∈iL M bs cs,b=0\/b=1:=λb hb=>by
 obtain⟨r,_,rfl⟩:=aal.mp hb
 exact jw (o7 h.b1 h.b2 _) _
end
structure Fm(M:aQ) (names:List Str):Prop where
 ok:c8 M names
 n1:M.switches.length<=12
 n2:M.keepers.length<=16
 n3:M.gates.length<=60
def Of(n:Nat)(bs:List Int):Prop:=n=bs.length/\∀b∈bs,b=0\/b=1
theorem Fm.fit(h:Fm M names)(hb:Of M.switches.length bs)(hc:Of M.keepers.length cs):mK M names bs cs:=⟨h.ok,hb.1,hc.1,hb.2,hc.2,h.n1,h.n2,h.n3⟩
theorem xr(h:n∈a.map (·.1)):d7 (a++b) n=d7 a n:=by
 unfold d7
 rw[ahl]
 cases e:a.find? λr=>decide (r.1=n) with
 | some r=>rfl
 | none=>
  obtain⟨r,hr,he⟩:=aal.mp h
  have:=ahd.mp e r hr
  exact absurd (aaN he) (by simpa using this)
theorem uT(h:n∉a.map (·.1)):d7 (a++b) n=d7 b n:=by
 unfold d7
 rw[ahl]
 have e:(a.find? λr=>decide (r.1=n))=none:=ahd.mpr λr hr=>by
  simp only[ac8]
  intro q
  exact h (aal.mpr ⟨r,hr,q⟩)
 rw[e]
 rfl
theorem nK:∀(gs:List (Str×Str×Str)) (acc:List (Str×Int)) (n:Str),n∈acc.map (·.1)->d7 (gs.foldl gU acc) n=d7 acc n
 | [],_,_,_=>rfl
 | g::gs,acc,n,h=>by
  rw[ae7,nK gs (gU acc g) n (by unfold gU;rw[aah];exact aaI _ h)]
  exact xr h
end Gen
namespace L2
open PySem PySem.Spec PyProof.Rows
def Km(K:W.Frag)(a:Addr)(xs:List V):It:=⟨λi H=>ar K H a xs/\i<xs.length,λi H x H'=>H'=H/\xs.reverse[i]?=some x,λi H=>i=xs.length⟩
theorem L5{P:Program}{w:World}{K:W.Frag}{tg:Expr}{xs:List V}(a it:Addr):Turn P w K tg (Km K a xs) [it] it (λi h=>i<=xs.length/\h.IsRevIter it a ((xs.length:Int)-1-(i:Int))) where
 mem:=by simp
 obj:=λi h st b hb=>by
  have e:b=it:=by simpa using hb
  subst e
  obtain⟨_,o,e,c,d⟩:=st
  exact⟨o,e,λv z=>by rw[d]at z;cases z⟩
 keep:=λi h h' st k=>⟨st.1,st.2.at λo e=>k it (by simp) o e⟩
 item:=by
  intro X hP hw hK hc i pins s σ H E I hf st hg
  subst hP hw hK
  obtain⟨hq,hi⟩:=hg
  obtain⟨its,rv,p,hz⟩:=I.list hq
  have hl:=rv.length
  have hx:xs[xs.length-1-i]?=some (xs[xs.length-1-i]'(by lia)):=aab (by lia)
  obtain⟨u,hu,ru⟩:=rv.get hx
  obtain⟨f0,f1,f2,f3,f4,f5⟩:=hf it (by simp)
  have hit:=st.2
  have e:(xs.length:Int)-1-(i:Int)=((xs.length-1-i:Nat):Int):=by lia
  rw[e]at hit
  refine wpAny_pyNext_rev_item hit p.isList (x:=u) (by simpa using hu) λh' cI sb=>?_
  have I1:Inv X pins σ H {s with heap:=h'}:=I.turned (t':=s.toks) (λb o hb e=>(sb.2 b hb).trans e) f0 f1 f3 f4 f5
  obtain⟨o,e1,c,d⟩:=id cI
  have e2:((xs.length-1-i:Nat):Int)-1=(xs.length:Int)-1-((i+1:Nat):Int):=by lia
  rw[e2]at cI
  refine⟨u,rfl,vP (s:={s with heap:=h'}) e1 c d (by decide) ⟨_,H,I1,ru,⟨rfl,?_⟩,⟨hi,cI⟩,λb hb=>(hf b hb).1⟩⟩
  rw[agG (by lia)]
  exact hx
 done:=by
  intro X hP hw hK hc i pins s σ H E I hf st hg
  subst hP hw hK
  obtain⟨f0,f1,f2,f3,f4,f5⟩:=hf it (by simp)
  have hit:=st.2
  have hi:i=xs.length:=hg
  have e:(xs.length:Int)-1-(i:Int) = -1:=by lia
  rw[e]at hit
  exact wpAny_pyNext_rev_end (I.ok.hd hc) hit λh' eb=>⟨rfl,I.turned (t':=s.toks) (λb o hb e=>eb b o hb e) f0 f1 f3 f4 f5⟩
 self:=λ_ _ _ _ _ st h=>wpAny_pyIter_revIter st.2 h
section
variable {X:Cx}{tg:Expr}
def XD(K:W.Frag)(ta:TA):TI:=λσ H R=>ta σ H λvs H1=>∃a xs,vs=[.ref a]/\ar K H1 a xs/\R (Km K a xs) H1
theorem SS{a:Expr}{ta:TA}{p pos:Pos}(hg:Gl X "reversed")(hm:X.mg "reversed" = none)(ha:PA X [a] ta) (hs:starEach [a] X.env=[(false,eval a X.env)]:=by rfl) :
 PI X tg (.Call (.Name "reversed" p) [a] [] pos) (XD X.K ta):=by
 intro pins s σ H R I h
 refine Call_ (jP I hg hm afL (adk (aO (ha pos pins s σ H _ I h) λus s1 ⟨vs,H1,I1,r1,q1⟩=>?_) hs rfl))
 obtain⟨l,xs,e,hq,q⟩:=q1
 subst e
 cases r1 with
 | cons r rr=>
  cases rr
  cases r
  obtain⟨its,rv,pl,hz⟩:=I1.list hq
  have hl:=rv.length
  refine call_reversed_list pl.isList ?_
  have hit:(s1.heap.push (revObj l ((its.toArray.size:Int)-1))).IsRevIter s1.heap.objs.size l ((xs.length:Int)-1-((0:Nat):Int)):=⟨_,aaq _ rfl,rfl,by simp[revObj,hl]⟩
  refine wpAny_pyIter_revIter hit ?_
  refine⟨s1.heap.objs.size,[s1.heap.objs.size],_,_,H1,rfl,I1.kept (t':=s1.toks) λb o e=>aac _ e,L5 (xs:=xs) l _,⟨aaO _,hit⟩,λb hb=>?_,q⟩
  have e:b=s1.heap.objs.size:=by simpa using hb
  subst e
  exact I1.qy (aaf _) (I1.hok.fresh (aaf _))
end
theorem P9{K:W.Frag}{a:Addr}{xs:List V}{g:TG}{tb:TS}{D:Ends}{σ:St}{H:Hp}(Pv:Nat->St->Hp->Prop)(h0:Pv 0 σ H)(hl:∀i σ H,i<=xs.length->Pv i σ H->ar K H a xs)
 (hs:∀i x σ H,xs.reverse[i]?=some x->Pv i σ H->g x σ H λiZ H2=>tb {D with nx:=Pv (i+1),ct:=Pv (i+1),bk:=D.nx} iZ H2) (hd:∀σ H,Pv xs.length σ H->D.nx σ H) :
 ∃W:Nat->Nat->St->Hp->Prop,(∃m,W 0 m σ H)/\∀i m σ H,W i m σ H->
  ((Km K a xs).stop i H/\D.nx σ H)\/((Km K a xs).go i H/\∃N:St->Hp->Prop,(∀cm H',N cm H'->∃m',m'<m/\W (i+1) m' cm H')/\∀x H',(Km K a xs).yld i H x H'->g x σ H' λiZ H2=>tb {D with nx:=N,ct:=N,bk:=D.nx} iZ H2):=by
 refine⟨λi m σ H=>m=xs.length-i/\i<=xs.length/\Pv i σ H,⟨xs.length,by simp,aaO _,h0⟩,?_⟩
 rintro i m σ H ⟨rfl,hi,p⟩
 have q:=hl i σ H hi p
 by_cases eE:i<xs.length
 . refine .inr ⟨⟨q,eE⟩,Pv (i+1),λcm H' p'=>⟨xs.length-(i+1),by lia,rfl,eE,p'⟩,λx H' y=>?_⟩
   obtain⟨e,y⟩:=y
   subst e
   exact hs i x σ _ y p
 . have e:i=xs.length:=by lia
   subst e
   exact .inl ⟨rfl,hd σ H p⟩
end L2
namespace Gen
open PySem L2
structure MF(C:Addr) (H:Hp) (x dx g1 g2 g3 g4 g5 g6:Addr) (ts:List Addr) (M:aQ):Prop where
 hx:H x=some (.ins C dx (qQ g1 g2 g3 g4 g5 g6))
 h1:H g1=some (.lst (M.switches.map V.str))
 h2:Rd H g2 (.dK (M.keepers.map λr=>((.inr r.1:Key),r.2)))
 h3:H g3=some (.lst (ts.map V.ref))
 hp:Paired (λt r=>H t=some (.tup (ow r))) ts M.gates
theorem MF.same{C:Addr}{H H':Hp}{x dx g1 g2 g3 g4 g5 g6:Addr}{ts:List Addr}{M:aQ}(h:MF C H x dx g1 g2 g3 g4 g5 g6 ts M)(s:ak H H'):MF C H' x dx g1 g2 g3 g4 g5 g6 ts M:=
 ⟨s _ _ h.hx,s _ _ h.h1,h.h2.imp (s _ _) (λ⟨o,e⟩=>⟨o,s _ _ e⟩),s _ _ h.h3,Paired.cw h.hp λt r e=>s _ _ e⟩
theorem L6(h:n∉l.map (·.1)):aG (dY l) (.inr n)=none:=by
 have:=qR n l
 rw[aaH h]at this
 cases e:aG (dY l) (.inr n) with
 | none=>rfl
 | some v=>rw[e]at this;cases this
theorem tM:∀(l:List (Str×V)) (acc:List (Str×V)),((acc++l).map (·.1)).Nodup->bY (dY acc) (dY l)=dY (acc++l)
 | [],acc,_=>by rw[aec];rfl
 | r::l,acc,h=>by
  have e:acc++r::l=(acc++[r])++l:=by simp
  have hn:r.1∉acc.map (·.1):=λhm=>by
   rw[aah]at h
   exact(aau.mp h).2.2 _ hm _ (by simp) rfl
  have h1:putK (dY acc) (.inr r.1) r.2=dY (acc++[r]):=by
   rw[i5 _ (L6 hn)]
   unfold dY
   rw[aah]
   rfl
  show bY (putK (dY acc) (.inr r.1) r.2) (dY l)=_
  rw[h1,e]
  exact tM l (acc++[r]) (by rw[← e];exact h)
theorem tN(h:(l.map (·.1)).Nodup):bY [] (dc l)=dc l:=by
 rw[N0]
 exact tM _ [] (by rw[aeF,adV];exact h)
theorem rn{α β γ δ:Type} {F:α->γ->Prop}{F':α->δ->Prop}{g:β->γ}{h:β->δ} : ∀{ts:List α}{l:List β},Paired F ts (l.map g)->(∀t x,F t (g x)->F' t (h x))->Paired F' ts (l.map h)
 | [],[],_,_=>.nil
 | t::ts,x::l,.cons r p,k=>.cons (k t x r) (rn p k)
theorem ux{H:Hp}{a:Addr}{α:Type}{l:List α}{g:α->List V}{h:α->Key×V}(e:∀x,g x=[kV (h x).1,(h x).2]) (t:bz H a (l.map g)):∃ts:List Addr,H a=some (.lst (ts.map V.ref))/\Paired (λt kv=>H t=some (.tup [kV kv.1,kv.2])) ts (l.map h):=by
 obtain⟨ts,h1,h2⟩:=t
 exact⟨ts,h1,rn h2 λt x hx=>by rw[← e x];exact hx⟩
theorem oP{α β γ:Type} {F:α->β->Prop}{g:γ->β} : ∀{us:List α}{l:List γ},Paired F us (l.map g)->Paired (λt r=>F t (g r)) us l
 | [],[],_=>.nil
 | _::_,_::_,.cons h t=>.cons h (oP t)
 | _::_,[],h=>nomatch h
 | [],_::_,h=>nomatch h
def vE(M:aQ)(e:Str->Bool):List (Str×Int):=cH M (rowOf e M.switches) (rowOf e (M.keepers.map (·.1))) M.gates.length
def eF(M:aQ)(e:Str->Bool)(n:Str):Bool:=decide (dQ (vE M e) n=1)
theorem nM(e:Str->Bool)(l:List Str):∀b∈rowOf e l,b=0\/b=1:=λb hb=>by
 unfold rowOf at hb
 obtain⟨n,_,rfl⟩:=aal.mp hb
 unfold bI
 cases e n
 . exact .inl rfl
 . exact .inr rfl
theorem uy(M:aQ)(e:Str->Bool):tm (vE M e):=o7 (nM e _) (nM e _) _
theorem yn(M:aQ)(e:Str->Bool)(i:Nat):(cH M (rowOf e M.switches) (rowOf e (M.keepers.map (·.1))) i).map (·.1)=M.switches++M.keepers.map (·.1)++(M.gates.take i).map (·.1):=kq (by unfold rowOf;rw[aaa]) (by unfold rowOf;rw[aaa,aaa]) i
theorem tO(e:Str->Bool):∀{l:List Str}{n:Str},n∈l->d7 (l.zip (rowOf e l)) n=bI (e n)
 | [],_,h=>nomatch h
 | x::l,n,h=>by
  by_cases q:x=n
  . subst q
    show d7 ((x,bI (e x))::l.zip (rowOf e l)) x=_
    unfold d7
    rw[aev (by simp)]
    rfl
  . have h':n∈l:=by
     rcases aaj.mp h with z|z
     . exact absurd z.symm q
     . exact z
    have ih:=tO e h'
    show d7 ((x,bI (e x))::l.zip (rowOf e l)) n=_
    unfold d7 at ih ⊢
    rw[afg (by simpa using q)]
    exact ih
theorem Fb(b:Bool):decide (bI b=1)=b:=by cases b <;> decide
theorem SU(M:aQ)(e:Str->Bool):eF M e "0" = false:=by unfold eF;rw[wX];decide
theorem SV(M:aQ)(e:Str->Bool):eF M e "1" = true:=by unfold eF;rw[wY];decide
section
variable {M:aQ}{names:List Str}
theorem jA(ok:c8 M names):(M.switches++M.keepers.map (·.1)++M.gates.map (·.1)).Nodup:=ok.all ▸ ok.nd
theorem Kn(ok:c8 M names)(e:Str->Bool) (h:n∈M.keepers.map (·.1)++M.switches):eF M e n=e n:=by
 have hn:n∈M.switches++M.keepers.map (·.1):=by
  rcases aap.mp h with h|h
  . exact aar _ h
  . exact aaI _ h
 have hN:bp n:=ok.nm n (by rw[ok.all];exact aaI _ hn)
 unfold eF vE cH
 rw[ko hN,nK _ _ _ (by
  unfold wZ
  rw[aah,iE (by simp[rowOf]),iE (by simp[rowOf])]
  exact hn)]
 unfold wZ
 by_cases hs:n∈M.switches
 . rw[xr (by rw[iE (by simp[rowOf])];exact hs),tO e hs,Fb]
 . have hk:n∈M.keepers.map (·.1):=by
    rcases aap.mp hn with z|z
    . exact absurd z hs
    . exact z
   rw[uT (by rw[iE (by simp[rowOf])];exact hs),tO e hk,Fb]
theorem Hd(e:Str->Bool)(x:Str)(hx:bp x):eF M e ("~" ++ x) = !eF M e x:=by
 unfold eF
 rw[nI,ko hx]
 rcases tw (uy M e) x with h|h <;> rw[h] <;> decide
theorem xt(e:Str->Bool) (hz:Lit (M.switches++M.keepers.map (·.1)++(M.gates.take i).map (·.1)) z) (ok:c8 M names):dQ (cH M (rowOf e M.switches) (rowOf e (M.keepers.map (·.1))) i) z=dQ (vE M e) z:=by
 have key:∀x∈M.switches++M.keepers.map (·.1)++(M.gates.take i).map (·.1),d7 (vE M e) x=d7 (cH M (rowOf e M.switches) (rowOf e (M.keepers.map (·.1))) i) x:=λx hx=>by
  have es:vE M e=(M.gates.drop i).foldl gU (cH M (rowOf e M.switches) (rowOf e (M.keepers.map (·.1))) i):=by
   unfold vE cH
   rw[ac4,← af3,adM]
  rw[es]
  exact nK _ _ _ (by rw[yn];exact hx)
 have nm:∀x∈M.switches++M.keepers.map (·.1)++(M.gates.take i).map (·.1),bp x:=λx hx=>ok.nm x (by
  rw[ok.all]
  rcases aap.mp hx with h|h
  . exact aaI _ h
  . obtain⟨g,hg,rfl⟩:=aal.mp h
    exact aar _ (aal.mpr ⟨g,adG hg,rfl⟩))
 rcases hz with rfl|rfl|⟨x,hx,rfl|rfl⟩
 . rw[wX,wX]
 . rw[wY,wY]
 . rw[ko (nm _ hx),ko (nm _ hx),key _ hx]
 . rw[nI,nI,key _ hx]
theorem Ko(ok:c8 M names)(e:Str->Bool){i:Nat}{g:Str×Str×Str}(hg:M.gates[i]?=some g):eF M e g.1=(eF M e g.2.1 && eF M e g.2.2):=by
 have hi:=(aak.mp hg).1
 have eg:M.gates[i]=g:=(aak.mp hg).2
 obtain⟨l1,l2⟩:=ok.gl i g hg
 have hN:bp g.1:=ok.nm _ (by rw[ok.all];exact aar _ (aal.mpr ⟨g,aaK hg,rfl⟩))
 have hn:g.1∉(cH M (rowOf e M.switches) (rowOf e (M.keepers.map (·.1))) i).map (·.1):=by
  rw[yn]
  have:=jA ok
  intro hm
  have e2:M.gates.map (·.1)=(M.gates.take i).map (·.1)++g.1::(M.gates.drop (i+1)).map (·.1):=by
   rw[← eg,← aaB (f:=(·.1)) (a:=M.gates[i]),← ad3 hi,← aah,adM]
  rw[e2,← ady]at this
  exact(aau.mp this).2.2 _ hm _ aas rfl
 have ex:dQ (vE M e) g.1=dQ (vE M e) g.2.1*dQ (vE M e) g.2.2:=by
  have es:vE M e=(M.gates.drop (i+1)).foldl gU (cH M (rowOf e M.switches) (rowOf e (M.keepers.map (·.1))) (i+1)):=by
   unfold vE cH
   rw[ac4,← af3,adM]
  rw[ko hN]
  conv=>lhs;rw[es]
  rw[nK _ _ _ (by rw[yn];exact aar _ (aal.mpr ⟨g,by rw[← eg];exact afU.mpr ⟨i,by lia,rfl⟩,rfl⟩)),zB hi,eg]
  unfold gU
  rw[uT hn,xt e l1 ok,xt e l2 ok]
  unfold d7
  rw[aev (by simp)]
  rfl
 unfold eF
 rw[ex]
 rcases jw (uy M e) g.2.1 with h|h <;> rcases jw (uy M e) g.2.2 with h'|h' <;> rw[h,h'] <;> decide
end
section
variable {P:Program}{w:World}{K:W.Frag}{mg:Str->Option Value}{base:Heap}
abbrev He:Stmt:=top 5
def aT(z:Str):Str:=if z.cps.toList[0]?=some 126 then ⟨z.cps.toList.tail.toArray⟩ else z
def Kq:Sp:=λvs H Q _=>∃z:Str,vs=[.str z]/\z.length<=1000/\Q (.str (aT z)) H
theorem SW:aJ ["literal"] ["literal"] (az He):=fs
theorem Qa(F:aK K "bare_name" "bare_name" He f fd):ax P w K mg base aB 1 f fd ["literal"] Kq:=by
 refine F.run SW (len:=λvs H Q E h=>by obtain⟨z,rfl,_⟩:=h;rfl) λcdv A outer s H vs Q E hr h=>?_
 . obtain⟨z,rfl,hz,kk⟩:=h
   have BR:z.length<=sizeLine:=aam hz (by decide)
   refine⟨_,ai (cy (ig (ft aeu afH afI zx (pv 0) (aa a0 ah))) (au (aL (iB EJ (pv 0) (jh ao) jg))) ba)
    (au (aL (pv 0))),?_⟩
   have tl:("~" : Str)=⟨#[126]⟩:=dk
   refine⟨_,rfl,rfl,z, "~",rfl,rfl,_,rfl,?_⟩
   rw[tl,wV]
   refine kM (λh=>?_) (λh2=>?_)
   . have e:z.cps.toList[0]?=some 126:=adh h
     refine⟨_,rfl,_,rfl,z,1,rfl,rfl,rfl,BR,?_⟩
     have ts:aT z=Txt.slice z (some 1) none:=by
      rw[aT,aaF e,pZ (Txt.slice z (some 1) none),wW]
     rw[← ts]
     exact kk
   . have e:¬ z.cps.toList[0]?=some 126:=λe=>h2 (aaN e)
     rw[aT,aaz e]at kk
     exact⟨_,rfl,kk⟩
end
theorem tP(h:bp x):aT x=x:=aaz (qS h)
theorem rp(x:Str):aT ("~" ++ x)=x:=by
 unfold aT
 rw[aaF (by rw[jv];rfl),jv]
 exact(pZ x).symm
theorem Kr:aT "0" = "0":=dk
theorem Ks:aT "1" = "1":=dk
theorem L7:¬ ("0" : Str).cps.toList[0]?=some 126:=dk
theorem L8:¬ ("1" : Str).cps.toList[0]?=some 126:=dk
theorem CP(h:Lit names z)(hn:∀x∈names,bp x):aT z = "0" \/ aT z = "1" \/ aT z∈names:=by
 rcases h with rfl|rfl|⟨x,hx,rfl|rfl⟩
 . exact .inl Kr
 . exact .inr (.inl Ks)
 . rw[tP (hn _ hx)]
   exact .inr (.inr hx)
 . rw[rp]
   exact .inr (.inr hx)
theorem Kt(e:Str->Bool)(h:Lit names z)(hn:∀x∈names,bp x):eF M e z=if z.cps.toList[0]?=some 126 then !eF M e (aT z) else eF M e (aT z):=by
 rcases h with rfl|rfl|⟨x,hx,rfl|rfl⟩
 . rw[aaz L7,Kr]
 . rw[aaz L8,Ks]
 . rw[aaz (qS (hn _ hx)),tP (hn _ hx)]
 . rw[aaF (by rw[jv];rfl),rp,Hd e x (hn _ hx)]
abbrev Hg:Stmt:=inClass (top 9) 3
abbrev CQ:Stmt:=inClass (top 9) 4
structure jN(K:W.Frag) (mg:Str->Option Value) (C:Addr):Prop where
 cl:jQ K C
 n1:aM K C "machine"
 n2:aM K C "forest"
 n3:aM K C "planted"
 n4:aM K C "inputs"
 n5:aM K C "nexts"
 n6:aM K C "made_into"
 n7:aM K C "made_without"
 mgC:mg "Grove" = some (.ref C)
def iM(x y pl dh nx mi mw:Addr):List (Str×V):=aj "made_without" (.ref mw) (aj "made_into" (.ref mi) (aj "nexts" (.ref nx) (aj "inputs" (.ref dh) (aj "planted" (.ref pl) (aj "forest" (.ref y) (aj "machine" (.ref x) []))))))
section
variable (x y pl dh nx mi mw:Addr)
theorem Hh:(iM x y pl dh nx mi mw).lookup ("machine" : Str)=some (.ref x):=by kernel_rfl
theorem vz:(iM x y pl dh nx mi mw).lookup ("forest" : Str)=some (.ref y):=by kernel_rfl
theorem CS:(iM x y pl dh nx mi mw).lookup ("planted" : Str)=some (.ref pl):=by kernel_rfl
theorem ab1:(iM x y pl dh nx mi mw).lookup ("inputs" : Str)=some (.ref dh):=by kernel_rfl
theorem L9:(iM x y pl dh nx mi mw).lookup ("nexts" : Str)=some (.ref nx):=by kernel_rfl
theorem ab2:(iM x y pl dh nx mi mw).lookup ("made_into" : Str)=some (.ref mi):=by kernel_rfl
theorem ab3:(iM x y pl dh nx mi mw).lookup ("made_without" : Str)=some (.ref mw):=by kernel_rfl
theorem ab4{m:Str}(h1:m ≠ "machine")(h2:m ≠ "forest")(h3:m ≠ "planted")(h4:m ≠ "inputs")(h5:m ≠ "nexts")(h6:m ≠ "made_into")(h7:m ≠ "made_without"):(iM x y pl dh nx mi mw).lookup m=none:=by
 unfold iM
 rw[ay,aaz h7,ay,aaz h6,ay,aaz h5,ay,aaz h4,ay,aaz h3,ay,aaz h2,ay,aaz h1]
 rfl
end
structure GA where
 (g dg x dx f1 f2 f3 f4 f5 f6 y dy nm sp nd kn ch im ex pl dh nx mi mw:Addr)
 ts:List Addr
structure GS where
 S:de
 (PL NX MI MW:List (Key×V))
def GA.own(a:GA):List Addr:=[a.nd,a.kn,a.ch,a.im,a.ex,a.pl,a.nx,a.mi,a.mw]
def KG(H H':Hp)(a:GA):Prop:=∀b o,H b=some o->b∉a.own->H' b=some o
theorem KG.refl:KG H H a:=λ_ _ h _=>h
theorem KG.trans(x:KG H H1 a)(y:KG H1 H2 a):KG H H2 a:=λb o h n=>y b o (x b o h n) n
theorem KG.of{H H':Hp}{a:GA}(k:Kp H H' a.nd a.kn a.ch a.im a.ex):KG H H' a:=λb o h n=>by
 simp only[GA.own,aaj,aat,adg,afq]at n
 exact k b o h n.1 n.2.1 n.2.2.1 n.2.2.2.1 n.2.2.2.2.1
theorem KG.same{H H':Hp}{a:GA}(s:ak H H'):KG H H' a:=λb o h _=>s b o h
structure GB(s:GS) (b:Nat):Prop where
 bd:Bd s.S b
 b1:s.PL.length<=b
 b2:s.NX.length<=b
 b3:s.MI.length<=b
 b4:s.MW.length<=b
theorem GB.up(h:GB s b)(l:b<=c):GB s c:=⟨h.bd.up l,aam h.b1 l,aam h.b2 l,aam h.b3 l,aam h.b4 l⟩
def CT(l:List Str):List (Key×V):=l.map λz=>((.inr z:Key),V.bl true)
def aW(M:aQ):List Str:=M.keepers.map (·.1)++M.switches
def vA(M:aQ)(S:de) (PL:List (Key×V)):Prop:=∀n v,aG PL (.inr n)=some v->∃i:Nat,v=.int (i:Int)/\i<S.N.length/\∀e,ev e (aq S.TS i)=eF M e n
theorem vA.grow(h:vA M S PL)(g:cj S S')(hl:S.N.length=S.TS.length):vA M S' PL:=λn v hv=>by
 obtain⟨i,e1,l,e2⟩:=h n v hv
 have:=g.le
 exact⟨i,e1,by lia,λe=>by rw[g.aq (by lia)];exact e2 e⟩
structure GO(P:Program) (w:World) (CF CM CG:Addr) (H:Hp) (a:GA) (M:aQ) (s:GS):Prop where
 hg:H a.g=some (.ins CG a.dg (iM a.x a.y a.pl a.dh a.nx a.mi a.mw))
 fo:FO P w CF H a.y a.dy a.nm a.sp a.nd a.kn a.ch a.im a.ex (aW M) s.S
 mf:MF CM H a.x a.dx a.f1 a.f2 a.f3 a.f4 a.f5 a.f6 a.ts M
 h4:H a.f4=some (.dK (dc M.nexts))
 h5:H a.f5=some (.dK (dc M.nevers))
 hp:H a.pl=some (.dK s.PL)
 hin:H a.dh=some (.dK (CT M.switches))
 hnx:H a.nx=some (.dK s.NX)
 hmi:H a.mi=some (.dK s.MI)
 hmw:H a.mw=some (.dK s.MW)
 ok:∃all,c8 M all
 n60:M.gates.length<=60
 pk:vA M s.S s.PL
 p0:∀n:Str,(n = "0" \/ n = "1" \/ n∈aW M)->(aG s.PL (.inr n)).isSome=true
 d1:a.f1≠a.nd
 d3:a.f3≠a.nd
 dd:[a.f2,a.f4,a.f5,a.pl,a.dh,a.nx,a.mi,a.mw,a.sp,a.ex].Nodup
section
variable {P:Program}{w:World}{CF CM CG:Addr}{H H':Hp}{a:GA}{M:aQ}{s:GS}
theorem GO.same(h:GO P w CF CM CG H a M s)(k:ak H H'):GO P w CF CM CG H' a M s:=
 ⟨k _ _ h.hg,h.fo.same k,h.mf.same k,k _ _ h.h4,k _ _ h.h5,k _ _ h.hp,k _ _ h.hin,k _ _ h.hnx,k _ _ h.hmi,k _ _ h.hmw,h.ok,h.n60,h.pk,h.p0,h.d1,h.d3,h.dd⟩
theorem GO.ne(h:GO P w CF CM CG H a M s){i j:Nat}{x y:Addr}(hi:[a.f2,a.f4,a.f5,a.pl,a.dh,a.nx,a.mi,a.mw,a.sp,a.ex][i]?=some x)(hj:[a.f2,a.f4,a.f5,a.pl,a.dh,a.nx,a.mi,a.mw,a.sp,a.ex][j]?=some y)(Br:i≠j):x≠y:=λe=>by
 subst e
 exact Br ((af4 (aak.mp hi).1 h.dd).mp (hi.trans hj.symm))
def kd:HO->Nat
 | .ins _ _ _=>0
 | .tup _=>0
 | .du _ _=>0
 | .lst _=>1
 | _=>2
theorem GO.lA(h:GO P w CF CM CG H a M s)(hb:H b=some o)(ho:kd o=0\/kd o=1/\b≠a.nd):b∉a.own:=λhm=>by
 have key:∀{x:Addr}{u:HO},H x=some u->kd u=2->b≠x:=λhx h2 e=>by
  rw[e,hx]at hb
  cases hb
  lia
 simp only[GA.own,aaj,aat,adg]at hm
 rcases hm with e|e|e|e|e|e|e|e|e
 . rcases ho with q|q
   . rw[e,h.fo.hd]at hb
     cases hb
     cases q
   . exact q.2 e
 . exact key h.fo.hk rfl e
 . exact key h.fo.hc rfl e
 . exact key h.fo.hi rfl e
 . exact key h.fo.he rfl e
 . exact key h.hp rfl e
 . exact key h.hnx rfl e
 . exact key h.hmi rfl e
 . exact key h.hmw rfl e
theorem GO.keep(h:GO P w CF CM CG H a M s){S':de}{PL' dU Fc xu:List (Key×V)}(fo:FO P w CF H' a.y a.dy a.nm a.sp a.nd a.kn a.ch a.im a.ex (aW M) S') (k:KG H H' a) (hp:H' a.pl=some (.dK PL')) (hnx:H' a.nx=some (.dK dU)) (hmi:H' a.mi=some (.dK Fc)) (hmw:H' a.mw=some (.dK xu))
 (pk:vA M S' PL') (p0:∀n:Str,(n = "0" \/ n = "1" \/ n∈aW M)->(aG PL' (.inr n)).isSome=true):GO P w CF CM CG H' a M ⟨S',PL',dU,Fc,xu⟩:=by
 have ki:∀{b:Addr}{C dx:Addr}{fs:List (Str×V)},H b=some (.ins C dx fs)->H' b=some (.ins C dx fs):=λ{b} {C} {dx} {fs} hb=>k b _ hb (h.lA hb (.inl rfl))
 have kt:∀{b:Addr}{xs:List V},H b=some (.tup xs)->H' b=some (.tup xs):=λ{b} {xs} hb=>k b _ hb (h.lA hb (.inl rfl))
 have kl:∀{b:Addr}{xs:List V},H b=some (.lst xs)->b≠a.nd->H' b=some (.lst xs):=λ{b} {xs} hb nb=>k b _ hb (h.lA hb (.inr ⟨rfl,nb⟩))
 have kd:∀{b:Addr}{M:List (Key×V)}{i:Nat},H b=some (.dK M)->[a.f2,a.f4,a.f5,a.pl,a.dh,a.nx,a.mi,a.mw,a.sp,a.ex][i]?=some b->(i=0\/i=1\/i=2\/i=4)->H' b=some (.dK M):=λ{b} {M} {i} hb hi h4=>k b _ hb λhm=>by
  simp only[GA.own,aaj,aat,adg]at hm
  rcases hm with e|e|e|e|e|e|e|e|e
  . rw[e,h.fo.hd]at hb;cases hb
  . rw[e,h.fo.hk]at hb;cases hb
  . rw[e,h.fo.hc]at hb;cases hb
  . rw[e,h.fo.hi]at hb;cases hb
  . exact h.ne hi (j:=9) rfl (by lia) e
  . exact h.ne hi (j:=3) rfl (by lia) e
  . exact h.ne hi (j:=5) rfl (by lia) e
  . exact h.ne hi (j:=6) rfl (by lia) e
  . exact h.ne hi (j:=7) rfl (by lia) e
 have kf:∀{ob:Obj}{M:List (Key×V)},H a.f2=some (.du ob (.dK M))->H' a.f2=some (.du ob (.dK M)):=λ{ob} {M} hb=>k a.f2 _ hb (h.lA hb (.inl rfl))
 exact⟨ki h.hg,fo,⟨ki h.mf.hx,kl h.mf.h1 h.d1,h.mf.h2.imp (λe=>kd e (i:=0) rfl (by lia)) (λ⟨ob,e⟩=>⟨ob,kf e⟩),kl h.mf.h3 h.d3,Paired.cw h.mf.hp λ_ _ e=>kt e⟩,kd h.h4 (i:=1) rfl (by lia),kd h.h5 (i:=2) rfl (by lia),hp,kd h.hin (i:=4) rfl (by lia),hnx,hmi,hmw,h.ok,h.n60,pk,p0,h.d1,h.d3,h.dd⟩
theorem GO.grown(h:GO P w CF CM CG H a M s){S':de}(fo:FO P w CF H' a.y a.dy a.nm a.sp a.nd a.kn a.ch a.im a.ex (aW M) S') (k:Kp H H' a.nd a.kn a.ch a.im a.ex) (g:cj s.S S'):GO P w CF CM CG H' a M ⟨S',s.PL,s.NX,s.MI,s.MW⟩:=
 h.keep fo (KG.of k) (h.fo.dk h.hp (h.ne (i:=3) (j:=9) rfl rfl (by decide)) k) (h.fo.dk h.hnx (h.ne (i:=5) (j:=9) rfl rfl (by decide)) k) (h.fo.dk h.hmi (h.ne (i:=6) (j:=9) rfl rfl (by decide)) k) (h.fo.dk h.hmw (h.ne (i:=7) (j:=9) rfl rfl (by decide)) k) (h.pk.grow g h.fo.fs.len) h.p0
theorem GO.XE(h:GO P w CF CM CG H a M s){n:Str}{i:Nat}(hi:i<s.S.N.length) (he:∀e,ev e (aq s.S.TS i)=eF M e n):GO P w CF CM CG (upd H a.pl (.dK (putK s.PL (.inr n) (.int (i:Int))))) a M ⟨s.S,putK s.PL (.inr n) (.int (i:Int)),s.NX,s.MI,s.MW⟩:=by
 refine h.keep (h.fo.putD h.hp (h.ne (i:=3) (j:=8) rfl rfl (by decide)) (h.ne (i:=3) (j:=9) rfl rfl (by decide))) (λb o hb nb=>?_) af ?_ ?_ ?_ (λm v hv=>?_) (λm hm=>?_)
 . rw[ag λe=>nb (by rw[e];simp[GA.own])]
   exact hb
 . rw[ag (h.ne (i:=5) (j:=3) rfl rfl (by decide))];exact h.hnx
 . rw[ag (h.ne (i:=6) (j:=3) rfl rfl (by decide))];exact h.hmi
 . rw[ag (h.ne (i:=7) (j:=3) rfl rfl (by decide))];exact h.hmw
 . rw[gJ]at hv
   by_cases e:(.inr m:Key)=.inr n
   . rw[aaF e]at hv
     cases hv
     cases adC e
     exact⟨i,rfl,hi,he⟩
   . rw[aaz e]at hv
     exact h.pk m v hv
 . rw[gJ]
   by_cases e:(.inr m:Key)=.inr n
   . rw[aaF e];rfl
   . rw[aaz e];exact h.p0 m hm
end
inductive CU(P:Program) (w:World) (CF CM CG:Addr) (vs:List V) (H:Hp) (Q:VK):Prop
 | mk (a:GA) (M:aQ) (s:GS) (i j b:Nat) (h1:vs=[.ref a.g,.int (i:Int),.int (j:Int)]) (h2:GO P w CF CM CG H a M s) (h3:i<s.S.N.length) (h4:j<s.S.N.length) (h5:GB s b) (h6:b+1022<3000000) (h7:∀(n:Nat) (S':de) (H':Hp),GO P w CF CM CG H' a M ⟨S',s.PL,s.NX,s.MI,s.MW⟩->Kp H H' a.nd a.kn a.ch a.im a.ex->cj s.S S'->GB ⟨S',s.PL,s.NX,s.MI,s.MW⟩ (b+1022)->n<S'.N.length->(∀e,ev e (aq S'.TS n)=(ev e (aq s.S.TS i) && ev e (aq s.S.TS j)))->Q (.int (n:Int)) H'):CU P w CF CM CG vs H Q
def uz(P:Program)(w:World)(CF CM CG:Addr):Sp:=λvs H Q _=>CU P w CF CM CG vs H Q
inductive Fe(P:Program) (w:World) (CF CM CG:Addr) (vs:List V) (H:Hp) (Q:VK):Prop
 | mk (a:GA) (M:aQ) (s:GS) (i b:Nat) (h1:vs=[.ref a.g,.int (i:Int)]) (h2:GO P w CF CM CG H a M s) (h3:i<s.S.N.length) (h4:GB s b) (h5:b+1022<3000000) (h6:∀(n:Nat) (S':de) (H':Hp),GO P w CF CM CG H' a M ⟨S',s.PL,s.NX,s.MI,s.MW⟩->Kp H H' a.nd a.kn a.ch a.im a.ex->cj s.S S'->GB ⟨S',s.PL,s.NX,s.MI,s.MW⟩ (b+1022)->n<S'.N.length->(∀e,ev e (aq S'.TS n) = !ev e (aq s.S.TS i))->Q (.int (n:Int)) H'):Fe P w CF CM CG vs H Q
def CV(P:Program)(w:World)(CF CM CG:Addr):Sp:=λvs H Q _=>Fe P w CF CM CG vs H Q
section
variable {P:Program}{w:World}{K:W.Frag}{mg:Str->Option Value}{base:Heap}{CF CM CG:Addr}
theorem c9:cst 9=1022:=rfl
theorem ab5:aJ ["self", "one", "other"] ["self", "one", "other"] (az CQ):=fs
theorem XF:aJ ["self", "number"] ["self", "number"] (az Hg):=fs
theorem rq(nm sp nd kn ch im ex:Addr):(gq nm sp nd kn ch im ex).lookup ("chosen" : Str)=none:=pH _ _ _ _ _ _ _ dk dk dk dk dk dk dk
theorem Ma(F:aK K "both_of" "Grove.both_of" CQ f fd)(TG:jN K mg CG)(TF:hZ K mg CF)
 (gC:ax P w K mg base aB 10 fC dC jW (iH P w CF 9)) (mC:Meth K CF "chosen" fC) (bC:Binds K dC jW []):ax P w K mg base aB 11 f fd ["self", "one", "other"] (uz P w CF CM CG):=by
 refine F.run ab5 λcdv A outer s H vs Q E hr h=>?_
 . obtain⟨a,M,s,i,j,b,rfl,hG,hi,hj,hB,hb,kk⟩:=h
   refine⟨_,au (aL (bt (aE (pv 0) rfl) TF.cl mC gC hr bC (aa (pv 1) (aa (pv 2) (aa ao ah))))),?_⟩
   have two:=hG.fo.fs.two
   have n8:=hG.fo.n8
   refine⟨_,rfl,a.g,CG,a.dg,_,_,rfl,hG.hg,TG.cl,TG.n2,vz ..,a.y,a.dy,_,rfl,hG.fo.hy,rq ..,_,rfl,_,rfl,a.y,a.dy,a.nm,a.sp,a.nd,a.kn,a.ch,a.im,a.ex,aW M,s.S,i,j,0,b,rfl,hG.fo,hi,hj,by lia,by lia,hB.bd,by rw[c9];lia,λn S' H' fo k g B _ _ l e _=>?_⟩
   refine kk n S' H' (hG.grown fo k g) k g ⟨B,aam hB.b1 (aaJ ..),aam hB.b2 (aaJ ..),aam hB.b3 (aaJ ..),aam hB.b4 (aaJ ..)⟩ l λv=>?_
   rw[e v,hG.fo.fs.t0]
   show (if _ then _ else false)=_
   cases ev v (aq s.S.TS i) <;> simp
theorem Qb(F:aK K "opposite_of" "Grove.opposite_of" Hg f fd)(TG:jN K mg CG)(TF:hZ K mg CF)
 (gC:ax P w K mg base aB 10 fC dC jW (iH P w CF 9)) (mC:Meth K CF "chosen" fC) (bC:Binds K dC jW []):ax P w K mg base aB 11 f fd ["self", "number"] (CV P w CF CM CG):=by
 refine F.run XF λcdv A outer s H vs Q E hr h=>?_
 . obtain⟨a,M,s,i,b,rfl,hG,hi,hB,hb,kk⟩:=h
   refine⟨_,au (aL (bt (aE (pv 0) rfl) TF.cl mC gC hr bC (aa (pv 1) (aa ao (aa ao ah))))),?_⟩
   have two:=hG.fo.fs.two
   have n8:=hG.fo.n8
   refine⟨_,rfl,a.g,CG,a.dg,_,_,rfl,hG.hg,TG.cl,TG.n2,vz ..,a.y,a.dy,_,rfl,hG.fo.hy,rq ..,_,rfl,a.y,a.dy,a.nm,a.sp,a.nd,a.kn,a.ch,a.im,a.ex,aW M,s.S,i,0,1,b,rfl,hG.fo,hi,by lia,by lia,by lia,hB.bd,by rw[c9];lia,λn S' H' fo k g B _ _ l e _=>?_⟩
   refine kk n S' H' (hG.grown fo k g) k g ⟨B,aam hB.b1 (aaJ ..),aam hB.b2 (aaJ ..),aam hB.b3 (aaJ ..),aam hB.b4 (aaJ ..)⟩ l λv=>?_
   rw[e v,hG.fo.fs.t0,hG.fo.fs.t1]
   show (if _ then false else true)=_
   cases ev v (aq s.S.TS i) <;> simp
end
abbrev Hk:Stmt:=inClass (top 9) 1
abbrev uA:Stmt:=inClass (top 9) 2
abbrev bo(kvs:List (Key×V)) (n:Str):Prop:=(aG kvs (.inr n)).isSome=true
theorem mZ:∀(kvs acc:List (Key×V)) (n:Str),bo (bY acc kvs) n ↔ ((∃kv∈kvs,kv.1=(.inr n:Key))\/bo acc n)
 | [],acc,n=>⟨λh=>.inr h,λh=>h.elim (λ⟨_,z,_⟩=>nomatch z) id⟩
 | kv::r,acc,n=>by
  show bo (bY (putK acc kv.1 kv.2) r) n ↔ _
  rw[mZ r]
  unfold bo
  rw[gJ]
  constructor
  . rintro (⟨q,hq,e⟩|h)
    . exact .inl ⟨q,aav _ hq,e⟩
    . by_cases e:(.inr n:Key)=kv.1
      . exact .inl ⟨kv,aas,e.symm⟩
      . rw[aaz e]at h
        exact .inr h
  . rintro (⟨q,hq,e⟩|h)
    . rcases aaj.mp hq with rfl|hq
      . exact .inr (by rw[aaF e.symm];rfl)
      . exact .inl ⟨q,hq,e⟩
    . refine .inr ?_
      by_cases e:(.inr n:Key)=kv.1
      . rw[aaF e];rfl
      . rw[aaz e];exact h
theorem nS(h:∃kv∈kvs,kv.1=(.inr n:Key)):bo kvs n:=by
 unfold bo
 cases e:aG kvs (.inr n) with
 | some v=>rfl
 | none=>obtain⟨kv,hk,q⟩:=h;exact absurd q (lN e kv hk)
theorem uB(h:bo kvs n):∃kv∈kvs,kv.1=(.inr n:Key):=by
 unfold bo at h
 cases e:aG kvs (.inr n) with
 | some v=>exact⟨_,iA e,rfl⟩
 | none=>rw[e]at h;cases h
theorem nT:bo (bY ND (bY [] [(.inr x,.bl true),(.inr y,.bl true)])) n ↔ (n=x\/n=y\/bo ND n):=by
 rw[mZ]
 constructor
 . rintro (h|h)
   . have h2:=(mZ [(.inr x,.bl true),(.inr y,.bl true)] [] n).mp (nS h)
     rcases h2 with⟨kv,hk,e⟩|h2
     . rcases aaj.mp hk with rfl|hk
       . exact .inl (adC e).symm
       . rw[aaC.mp hk]at e
         exact .inr (.inl (adC e).symm)
     . cases h2
   . exact .inr (.inr h)
 . rintro (rfl|rfl|h)
   . exact .inl (uB ((mZ _ _ _).mpr (.inl ⟨_,aas,rfl⟩)))
   . exact .inl (uB ((mZ _ _ _).mpr (.inl ⟨_,aav _ aas,rfl⟩)))
   . exact .inr h
theorem xw{M:aQ}{all:List Str}(ok:c8 M all){i:Nat}{g:Str×Str×Str}{z:Str}(hg:M.gates[i]?=some g)(hz:z=g.2.1\/z=g.2.2):aT z = "0" \/ aT z = "1" \/ aT z∈aW M\/∃j g',j<i/\M.gates[j]?=some g'/\aT z=g'.1:=by
 have hl:Lit (M.switches++M.keepers.map (·.1)++(M.gates.take i).map (·.1)) z:=by
  rcases hz with rfl|rfl
  . exact(ok.gl i g hg).1
  . exact(ok.gl i g hg).2
 have nm:∀x∈M.switches++M.keepers.map (·.1)++(M.gates.take i).map (·.1),bp x:=λx hx=>ok.nm x (by
  rw[ok.all]
  rcases aap.mp hx with h|h
  . exact aaI _ h
  . obtain⟨g,hg,rfl⟩:=aal.mp h
    exact aar _ (aal.mpr ⟨g,adG hg,rfl⟩))
 rcases CP hl nm with h|h|h
 . exact .inl h
 . exact .inr (.inl h)
 . rcases aap.mp h with h|h
   . refine .inr (.inr (.inl ?_))
     unfold aW
     rcases aap.mp h with h|h
     . exact aar _ h
     . exact aaI _ h
   . obtain⟨g',sM,e⟩:=aal.mp h
     obtain⟨j,hj,ej⟩:=afU.mp sM
     exact .inr (.inr (.inr ⟨j,g',by lia,by rw[aab (by lia),ej],e.symm⟩))
theorem CW{M:aQ}{all:List Str}(ok:c8 M all){i j:Nat}{g g':Str×Str×Str}{z:Str}(hg:M.gates[i]?=some g)(sM:M.gates[j]?=some g')(Br:i<j)(hz:z=g.2.1\/z=g.2.2):g'.1≠aT z:=λe=>by
 have nd:=jA ok
 have hN:bp g'.1:=ok.nm _ (by rw[ok.all];exact aar _ (aal.mpr ⟨g',aaK sM,rfl⟩))
 rcases xw ok hg hz with h|h|h|⟨k,g2,hk,CY,h⟩
 . exact(uu hN).1 (e.trans h)
 . exact(uu hN).2.1 (e.trans h)
 . have h1:g'.1∈M.switches++M.keepers.map (·.1):=by
    rw[e]
    unfold aW at h
    rcases aap.mp h with h|h
    . exact aar _ h
    . exact aaI _ h
   exact(aau.mp nd).2.2 _ h1 _ (aal.mpr ⟨g',aaK sM,rfl⟩) rfl
 . have Cm:=(aau.mp nd).2.1
   have e1:(M.gates.map (·.1))[k]?=(M.gates.map (·.1))[j]?:=by rw[aae,aae,CY,sM,adQ,adQ,e,h]
   have:=(af4 (by rw[aaa];exact(aak.mp CY).1) Cm).mp e1
   lia
theorem qg(h:Lit all z)(hn:∀x∈all,bp x):z.length<=1000:=by
 have:GH z:=by
  rcases h with rfl|rfl|⟨x,hx,rfl|rfl⟩
  . exact .inl rfl
  . exact .inr (.inl rfl)
  . exact .inr (.inr (.inl (hn _ hx)))
  . exact .inr (.inr (.inr ⟨x,hn _ hx,rfl⟩))
 exact aam this.len.2 (by decide)
theorem vB(h:Lit a z)(hs:∀x∈a,x∈b):Lit b z:=by
 rcases h with h|h|⟨x,hx,h⟩
 . exact .inl h
 . exact .inr (.inl h)
 . exact .inr (.inr ⟨x,hs x hx,h⟩)
inductive CZ(P:Program) (w:World) (CF CM CG:Addr) (d:Nat) (vs:List V) (H:Hp) (Q:VK):Prop
 | mk (a:GA) (M:aQ) (s:GS) (z:Str) (all:List Str) (b:Nat) (h1:vs=[.ref a.g,.str z]) (h2:GO P w CF CM CG H a M s) (h3:c8 M all) (h4:Lit all z) (h5:(d=0->bo s.PL (aT z))) (h6:GB s b) (h7:b+190000*d<2900000) (h8:∀(S':de) (PL':List (Key×V)) (H':Hp),GO P w CF CM CG H' a M ⟨S',PL',s.NX,s.MI,s.MW⟩->KG H H' a->cj s.S S'->GB ⟨S',PL',s.NX,s.MI,s.MW⟩ (b+190000*d)->(∀n,bo s.PL n->bo PL' n)->bo PL' (aT z)->Q .aV H'):CZ P w CF CM CG d vs H Q
def yo(P:Program)(w:World)(CF CM CG:Addr)(d:Nat):Sp:=λvs H Q _=>CZ P w CF CM CG d vs H Q
inductive Ku(P:Program) (w:World) (CF CM CG:Addr) (d:Nat) (vs:List V) (H:Hp) (Q:VK):Prop
 | mk (a:GA) (M:aQ) (s:GS) (z:Str) (all:List Str) (b:Nat) (h1:vs=[.ref a.g,.str z]) (h2:GO P w CF CM CG H a M s) (h3:c8 M all) (h4:Lit all z) (h5:(d=0->bo s.PL (aT z))) (h6:GB s b) (h7:b+190000*d<2895000) (h8:∀(n:Nat) (S':de) (PL':List (Key×V)) (H':Hp),GO P w CF CM CG H' a M ⟨S',PL',s.NX,s.MI,s.MW⟩->KG H H' a->cj s.S S'->GB ⟨S',PL',s.NX,s.MI,s.MW⟩ (b+190000*d+1022)->(∀n,bo s.PL n->bo PL' n)->n<S'.N.length->(∀e,ev e (aq S'.TS n)=eF M e z)->Q (.int (n:Int)) H'):Ku P w CF CM CG d vs H Q
def xx(P:Program)(w:World)(CF CM CG:Addr)(d:Nat):Sp:=λvs H Q _=>Ku P w CF CM CG d vs H Q
abbrev nPt:List Str:=["self", "literal", "needed", "name", "one", "other"]
section
variable (P:Program) (w:World) (K:W.Frag) (mg:Str->Option Value) (base:Heap)
structure Ap(fB:Addr) (dB:FuncData):Prop where
 cB:jq P w K mg base 1 fB dB "bare_name" ["literal"] Kq
end
section
variable {P:Program}{w:World}{K:W.Frag}{mg:Str->Option Value}{base:Heap}{CF CM CG:Addr}{fB:Addr}{dB:FuncData}
theorem SX:aJ ["self", "literal", "number"] ["self", "literal"] (az Hk):=fs
theorem rE:aJ nPt ["self", "literal"] (az uA):=fs
theorem i7:∀m∈["plant", "number_of", "opposite_of", "both_of", "either_of", "next_number", "moves_into", "stands_of", "first_stands"],(iM x y pl dh nx mi mw).lookup (m:Str)=none:=λm hm=>by
 simp only[aaj,aat,adg]at hm
 rcases hm with rfl|rfl|rfl|rfl|rfl|rfl|rfl|rfl|rfl <;> exact ab4 _ _ _ _ _ _ _ dk dk dk dk dk dk dk
theorem Ff(F:aK K "number_of" "Grove.number_of" Hk f fd)(TG:jN K mg CG)(B:Ap P w K mg base fB dB)
 (gP:ax P w K mg base aB (k+11) fP dP ["self", "literal"] (yo P w CF CM CG d)) (mP:Meth K CG "plant" fP) (bP:Binds K dP ["self", "literal"] [])
 (gO:ax P w K mg base aB 11 fO dO ["self", "number"] (CV P w CF CM CG)) (mO:Meth K CG "opposite_of" fO) (bO:Binds K dO ["self", "number"] []):ax P w K mg base aB (k+11+1) f fd ["self", "literal"] (xx P w CF CM CG d):=by
 refine F.run SX λcdv A outer s H vs Q E hr h=>?_
 . obtain⟨a,M,s,z,all,b,rfl,hG,ok,hz,h0,hB,hb,kk⟩:=h
   have hu:=eS hr
   have dq:aN 1 _:=hr.mono (by lia)
   have hrO:aN 11 _:=hr.mono (by lia)
   have hlen:=qg hz ok.nm
   refine⟨_,ai (eI (bt (pv 0) TG.cl mP gP hr bP (aa (pv 1) ah)))
    (ai (aP 2 SX.nd (cq hu (aE (pv 0) rfl) (bb B.cB dq (aa (pv 1) ah)) (λ_ _=>rfl)))
    (au (aL (oa (ig (ft aeu afH afI zx (pv 1) (aa a0 ah))) (bt (pv 0) TG.cl mO gO hrO bO (aa (pv 2) ah)) (pv 2))))),?_⟩
   refine⟨_,rfl,a.g,a.dg,_,rfl,hG.hg,i7 _ (by simp),_,rfl,a,M,s,z,all,b,rfl,hG,ok,hz,h0,hB,by lia,λS1 qh H1 lz k1 g1 B1 m1 p1=>?_⟩
   obtain⟨v,hv⟩:∃v,aG qh (.inr (aT z))=some v:=by
    cases e:aG qh (.inr (aT z)) with
    | some v=>exact⟨v,rfl⟩
    | none=>unfold bo at p1;rw[e]at p1;cases p1
   obtain⟨i,rfl,li,ei⟩:=lz.pk _ _ hv
   refine⟨_,rfl,a.g,CG,a.dg,_,_,rfl,lz.hg,TG.cl,TG.n3,CS ..,_,rfl,z,rfl,hlen,a.pl,.int (i:Int),rfl,?_,?_⟩
   . have:=bq.k (k:=.inr (aT z)) lz.hp
     rw[show aG qh (.inr (aT z))=some (.int (i:Int)) from hv]at this
     exact this
   have tl:("~" : Str)=⟨#[126]⟩:=dk
   refine⟨_,rfl,rfl,z, "~",rfl,rfl,_,rfl,?_⟩
   rw[tl,wV]
   have nj:∀e,eF M e z=if z.cps.toList[0]?=some 126 then !eF M e (aT z) else eF M e (aT z):=λe=>Kt e hz ok.nm
   refine kM (λh=>?_) (λh=>?_)
   . have Mb:=adh h
     refine⟨_,rfl,a.g,a.dg,_,rfl,lz.hg,i7 _ (by simp),_,rfl,a,M,_,i,b+190000*d,rfl,lz,li,B1,by lia,λn S2 H2 ky k2 g2 B2 l2 e2=>?_⟩
     refine kk n S2 qh H2 ky (k1.trans (KG.of k2)) (g1.trans g2) B2 m1 l2 λe=>?_
     rw[e2 e,nj e,aaF Mb,ei e]
   . have Mb:¬ z.cps.toList[0]?=some 126:=λe=>h (aaN e)
     refine⟨_,rfl,kk i S1 qh H1 lz k1 g1 (B1.up (by lia)) m1 li λe=>?_⟩
     rw[nj e,aaz Mb,ei e]
theorem Hl(F:aK K "plant" "Grove.plant" uA f fd)(TG:jN K mg CG)(B:Ap P w K mg base fB dB):ax P w K mg base aB 11 f fd ["self", "literal"] (yo P w CF CM CG 0):=by
 refine F.run rE λcdv A outer s H vs Q E hr h=>?_
 . obtain⟨a,M,s,z,all,b,rfl,hG,ok,hz,h0,hB,hb,kk⟩:=h
   have hu:=eS hr
   have dq:aN 1 _:=hr.mono (by lia)
   refine⟨_,ai (cy (gw (pO hu (bb B.cB dq (aa (pv 1) ah)) (aE (pv 0) rfl)) (by with_unfolding_all rfl)) (au Ed) ba) Ij,?_⟩
   refine⟨_,rfl,z,rfl,qg hz ok.nm,_,rfl,a.g,CG,a.dg,_,_,rfl,hG.hg,TG.cl,TG.n3,CS ..,a.pl,_,rfl,bq.k (k:=.inr (aT z)) hG.hp,_,rfl,di (h0 rfl) ?_⟩
   exact kk s.S s.PL H hG KG.refl (.refl _) (hB.up (by lia)) (λ_ h=>h) (h0 rfl)
theorem iO:upd (upd H p o) p o'=upd H p o':=by
 funext b
 by_cases e:b=p
 . rw[e,af,af]
 . rw[ag e,ag e,ag e]
theorem Hn(F:aK K "plant" "Grove.plant" uA f fd)(TG:jN K mg CG)(TM:qP K mg CM)(O2:iD mg)(B:Ap P w K mg base fB dB)
 (gN:ax P w K mg base aB 12 fN dN ["self", "literal"] (xx P w CF CM CG 0)) (mN:Meth K CG "number_of" fN) (bN:Binds K dN ["self", "literal"] [])
 (gA:ax P w K mg base aB 11 fA dA ["self", "one", "other"] (uz P w CF CM CG)) (mA:Meth K CG "both_of" fA) (bA:Binds K dA ["self", "one", "other"] []):ax P w K mg base aB 13 f fd ["self", "literal"] (yo P w CF CM CG 1):=by
 refine F.run rE λcdv A outer s H vs Q E hr h=>?_
 . obtain⟨a,M,s,z,all,b,rfl,hG,ok,hz,_,hB,hb,kk⟩:=h
   have hu:=eS hr
   have dq:aN 1 _:=hr.mono (by lia)
   have SY:aN 11 _:=hr.mono (by lia)
   refine⟨_,ai (cy (gw (pO hu (bb B.cB dq (aa (pv 1) ah)) (aE (pv 0) rfl)) (by with_unfolding_all rfl)) (au Ed) ba)
    (ai (aP 2 rE.nd (pQ (gQ (bb B.cB dq (aa (pv 1) ah)) gZ pP) rfl rfl (by simp) (by decide)))
    (ai (fi ac7 rfl (SS rfl O2.rev (aa (aE (aE (pv 0) rfl) rfl) ah)) (ij rfl (a9 (aC (i:=3) rE.nd rfl (Or.inl rfl)) (a9 (aC (i:=4) rE.nd rfl (Or.inl rfl)) (a9 (aC (i:=5) rE.nd rfl (Or.inl rfl)) fq))))
     (au (cy (gw (pO hu (pv 3) (pv 2)) (by with_unfolding_all rfl)) (au (eI (ft aep af2 PySem.F.type_dict_update JN (pv 2) (aa (pQ (gQ (bb B.cB dq (aa (pv 4) ah)) gZ (gQ (bb B.cB dq (aa (pv 5) ah)) gZ pP)) rfl rfl (by simp) (by decide)) ah)))) ba)))
    (au (fi ac7 rfl (dj (aE (aE (pv 0) rfl) rfl)) (ij rfl (a9 (aC (i:=3) rE.nd rfl (Or.inl rfl)) (a9 (aC (i:=4) rE.nd rfl (Or.inl rfl)) (a9 (aC (i:=5) rE.nd rfl (Or.inl rfl)) fq))))
     (au (cy (PW.pt (Ii (gw (pO hu (pv 3) (pv 2)) (by with_unfolding_all rfl)) (Ec (gw (mm hu (pv 3) (aE (pv 0) rfl)) (by with_unfolding_all rfl))))) (au (eV hu (aE (pv 0) rfl) (pv 3) (bt (pv 0) TG.cl mA gA SY bA (aa (bt (pv 0) TG.cl mN gN hr bN (aa (pv 4) ah)) (aa (bt (pv 0) TG.cl mN gN hr bN (aa (pv 5) ah)) ah))) rfl)) ba)))))),?_⟩
   have hlen:=qg hz ok.nm
   have YY:∀{i:Nat}{g:Str×Str×Str},M.gates[i]?=some g->Lit all g.2.1/\Lit all g.2.2:=λ{i} {g} hg=>by
    have hs:∀x∈M.switches++M.keepers.map (·.1)++(M.gates.take i).map (·.1),x∈all:=λx hx=>by
     rw[ok.all]
     rcases aap.mp hx with h|h
     . exact aaI _ h
     . obtain⟨g,hg,rfl⟩:=aal.mp h
       exact aar _ (aal.mpr ⟨g,adG hg,rfl⟩)
    exact⟨vB (ok.gl i g hg).1 hs,vB (ok.gl i g hg).2 hs⟩
   refine⟨_,rfl,z,rfl,hlen,_,rfl,a.g,CG,a.dg,_,_,rfl,hG.hg,TG.cl,TG.n3,CS ..,a.pl,_,rfl,bq.k (k:=.inr (aT z)) hG.hp,_,rfl,kM (λh=>?_) (λLO=>?_)⟩
   . exact kk s.S s.PL H hG KG.refl (.refl _) (hB.up (by lia)) (λ_ h=>h) h
   refine λne hne=>⟨_,rfl,z,rfl,hlen,af,[(.inr (aT z),.bl true)],rfl,(by show 1<=15;decide),?_⟩
   show eR _ _ _ _ (upd (upd H ne (.dK [])) ne (.dK [(.inr (aT z),.bl true)]))
   rw[iO]
   have s1:ak H (upd H ne (.dK [(.inr (aT z),.bl true)])):=ak.av hne
   have q1:(upd H ne (.dK [(.inr (aT z),.bl true)])) ne=some (.dK [(.inr (aT z),.bl true)]):=af
   generalize upd H ne (.dK [(.inr (aT z),.bl true)])=H1 at s1 q1 ⊢
   have lz:=hG.same s1
   have S0:=hG.mf.hp.length
   have n60:=hG.n60
   have nn:∀{x:Addr}{o:HO},H x=some o->x≠ne:=λh=>ae h hne
   have lA:ne∉a.own:=λhm=>by
    simp only[GA.own,aaj,aat,adg]at hm
    rcases hm with e|e|e|e|e|e|e|e|e <;> rw[e]at hne
    . rw[hG.fo.hd]at hne;cases hne
    . rw[hG.fo.hk]at hne;cases hne
    . rw[hG.fo.hc]at hne;cases hne
    . rw[hG.fo.hi]at hne;cases hne
    . rw[hG.fo.he]at hne;cases hne
    . rw[hG.hp]at hne;cases hne
    . rw[hG.hnx]at hne;cases hne
    . rw[hG.hmi]at hne;cases hne
    . rw[hG.hmw]at hne;cases hne
   refine⟨_,rfl,a.g,CG,a.dg,_,_,rfl,lz.hg,TG.cl,TG.n1,Hh ..,a.x,CM,a.dx,_,_,rfl,lz.mf.hx,TM.cl,TM.n3,JR ..,a.f3,_,rfl,ar.of lz.mf.h3,P9 (K:=K) (a:=a.f3) (xs:=a.ts.map V.ref) (λi σ Hi=>∃(ND:List (Key×V)) (v3 v4 v5:Option V),σ=[some (.ref a.g),some (.str z),some (.ref ne),v3,v4,v5]/\(∀b u,H1 b=some u->b≠ne->Hi b=some u)/\Hi ne=some (.dK ND)/\ND.length<=1+2*i/\bo ND (aT z)/\∀j g,M.gates[j]?=some g->M.gates.length<=j+i->bo ND g.1->bo ND (aT g.2.1)/\bo ND (aT g.2.2)) ?_ ?_ ?_ ?_⟩
   . refine⟨_,none,none,none,rfl,λ_ _ h _=>h,q1,aaf _,nS ⟨_,aas,rfl⟩,λj g hg hj _=>?_⟩
     have:=(aak.mp hg).1
     lia
   . rintro i σ Hi _ ⟨ND,v3,v4,v5,rfl,ki,_⟩
     exact ar.of (ki _ _ lz.mf.h3 (nn hG.mf.h3))
   . rintro i xv σ Hi hx ⟨ND,v3,v4,v5,rfl,ki,C0,hNl,Og,gd⟩
     have hi:i<M.gates.length:=by
      have:=(aak.mp hx).1
      rw[adY,aaa]at this
      lia
     rw[agG (by rw[aaa];lia),aaa,S0]at hx
     have hj0:M.gates.length-1-i<M.gates.length:=by lia
     have oQ:M.gates[M.gates.length-1-i]?=some M.gates[M.gates.length-1-i]:=aab hj0
     obtain⟨t,ht,hT⟩:=bx lz.mf.hp oQ
     rw[aae,ht]at hx
     cases hx
     generalize M.gates[M.gates.length-1-i]=g0 at oQ hT
     have hTi:=ki _ _ hT (aD hT q1 (by intro z;cases z))
     obtain⟨lo,lt⟩:=YY oQ
     refine⟨t,_,rfl,aR.of hTi,rfl,_,_,rfl,_,_,rfl,_,_,rfl,rfl,?_⟩
     refine⟨_,rfl,_,rfl,ne,_,rfl,bq.k (k:=.inr g0.1) C0,_,rfl,kM (λhin=>?_) (λMc=>?_)⟩
     . refine⟨_,rfl,.inr (.inr (.inl ⟨rfl,.inl ⟨_,C0⟩⟩)),λe2 Ew=>⟨_,rfl,_,rfl,qg lo ok.nm,_,rfl,_,rfl,qg lt ok.nm,af,[(.inr (aT g0.2.1),.bl true),(.inr (aT g0.2.2),.bl true)],rfl,(by show 2<=15;decide),?_⟩⟩
       rw[iO]
       have s2:ak Hi (upd Hi e2 (.dK (bY [] [(.inr (aT g0.2.1),.bl true),(.inr (aT g0.2.2),.bl true)]))):=ak.av Ew
       have q2:(upd Hi e2 (.dK (bY [] [(.inr (aT g0.2.1),.bl true),(.inr (aT g0.2.2),.bl true)]))) e2=some (.dK (bY [] [(.inr (aT g0.2.1),.bl true),(.inr (aT g0.2.2),.bl true)])):=af
       have nne:ne≠e2:=ae C0 Ew
       have ml:(bY [] [((.inr (aT g0.2.1):Key),V.bl true),(.inr (aT g0.2.2),.bl true)]).length<=2:=by
        have:=ia [((.inr (aT g0.2.1):Key),V.bl true),(.inr (aT g0.2.2),.bl true)] []
        simpa using this
       generalize upd Hi e2 (.dK (bY [] [(.inr (aT g0.2.1),.bl true),(.inr (aT g0.2.2),.bl true)]))=Hj at s2 q2 ⊢
       have hlm:=ia (bY [] [((.inr (aT g0.2.1):Key),V.bl true),(.inr (aT g0.2.2),.bl true)]) ND
       refine⟨ne,e2,ND,_,rfl,rfl,s2 _ _ C0,.inl q2,nne,kP (by lia),?_⟩
       refine⟨_,_,_,_,rfl,λb u hb nb=>?_,af,by lia,nT.mpr (.inr (.inr Og)),λj g hg hj hh=>?_⟩
       . rw[ag nb]
         exact s2 _ _ (ki b u hb nb)
       . by_cases ej:j=M.gates.length-1-i
         . subst ej
           rw[oQ]at hg
           cases hg
           exact⟨nT.mpr (.inl rfl),nT.mpr (.inr (.inl rfl))⟩
         . have eE:M.gates.length-1-i<j:=by lia
           rcases nT.mp hh with h|h|h
           . exact absurd h (CW ok oQ hg eE (.inl rfl))
           . exact absurd h (CW ok oQ hg eE (.inr rfl))
           . obtain⟨c1,c2⟩:=gd j g hg (by lia) h
             exact⟨nT.mpr (.inr (.inr c1)),nT.mpr (.inr (.inr c2))⟩
     . refine⟨ND,_,_,_,rfl,ki,C0,by lia,Og,λj g hg hj hh=>?_⟩
       by_cases ej:j=M.gates.length-1-i
       . subst ej
         rw[oQ]at hg
         cases hg
         exact absurd hh Mc
       . exact gd j g hg (by lia) hh
   . rintro σ H2 ⟨ND,v3,v4,v5,rfl,k2,C0,hNl,Og,gd⟩
     rw[aaa,S0]at gd
     have jG:ak H H2:=λb u hb=>k2 _ _ (s1 _ _ hb) (nn hb)
     have ky:=hG.same jG
     refine⟨_,rfl,a.g,CG,a.dg,_,_,rfl,ky.hg,TG.cl,TG.n1,Hh ..,a.x,CM,a.dx,_,_,rfl,ky.mf.hx,TM.cl,TM.n3,JR ..,a.f3,rfl,⟨_,ar.of ky.mf.h3⟩,lD (K:=K) (a:=a.f3) (xs:=a.ts.map V.ref) (λi σ Hi=>∃(S':de) (PL':List (Key×V)) (v3 v4 v5:Option V),σ=[some (.ref a.g),some (.str z),some (.ref ne),v3,v4,v5]/\GO P w CF CM CG Hi a M ⟨S',PL',s.NX,s.MI,s.MW⟩/\KG H2 Hi a/\cj s.S S'/\GB ⟨S',PL',s.NX,s.MI,s.MW⟩ (b+3067*i)/\(∀n,bo s.PL n->bo PL' n)/\∀j g,M.gates[j]?=some g->j<i->bo ND g.1->bo PL' g.1) ?_ ?_ ?_ ?_⟩
     . exact⟨s.S,s.PL,v3,v4,v5,rfl,ky,KG.refl,.refl _,hB,λ_ h=>h,λj g hg hj=>absurd hj (adE _)⟩
     . rintro i σ Hi _ ⟨S',PL',v3,v4,v5,rfl,cQ,_⟩
       exact ar.of cQ.mf.h3
     . rintro i xv σ Hi hx ⟨S',PL',v3,v4,v5,rfl,cQ,ki,gi,Bi,mi,pi⟩
       have hi:i<M.gates.length:=by
        have:=(aak.mp hx).1
        rw[aaa]at this
        lia
       have oQ:M.gates[i]?=some M.gates[i]:=aab hi
       obtain⟨t,ht,hT⟩:=bx cQ.mf.hp oQ
       rw[aae,ht]at hx
       cases hx
       generalize M.gates[i]=g0 at oQ hT
       obtain⟨lo,lt⟩:=YY oQ
       refine⟨t,_,rfl,aR.of hT,rfl,_,_,rfl,_,_,rfl,_,_,rfl,rfl,?_⟩
       have ab6:=ki _ _ C0 lA
       have keep:∀{Md:List (Key×V)},(∀n,bo PL' n->bo Md n)->(bo ND g0.1->bo Md g0.1)->∀j g,M.gates[j]?=some g->j<i+1->bo ND g.1->bo Md g.1:=λh1 h2 j g hg hj hh=>by
        by_cases ej:j=i
        . subst ej
          rw[oQ]at hg
          cases hg
          exact h2 hh
        . exact h1 _ (pi j g hg (by lia) hh)
       refine⟨_,rfl,_,rfl,ne,_,rfl,bq.k (k:=.inr g0.1) ab6,_,rfl,kM (λhin=>?_) (λMc=>kL ?_)⟩
       . refine⟨_,rfl,_,rfl,a.g,CG,a.dg,_,_,rfl,cQ.hg,TG.cl,TG.n3,CS ..,a.pl,_,rfl,bq.k (k:=.inr g0.1) cQ.hp,_,rfl,kM (λhnp=>?_) (λjl=>?_)⟩
         . have early:∀x,(x=g0.2.1\/x=g0.2.2)->bo PL' (aT x):=λx hx=>by
            obtain⟨c1,c2⟩:=gd i g0 oQ (by lia) hin
            have Sm:bo ND (aT x):=by
             rcases hx with rfl|rfl
             . exact c1
             . exact c2
            rcases xw ok oQ hx with h|h|h|⟨j,g',hj,sM,h⟩
            . exact cQ.p0 _ (.inl h)
            . exact cQ.p0 _ (.inr (.inl h))
            . exact cQ.p0 _ (.inr (.inr h))
            . rw[h]
              exact pi j g' sM hj (by rw[← h];exact Sm)
           refine⟨_,rfl,a.g,a.dg,_,rfl,cQ.hg,i7 _ (by simp),?_⟩
           refine⟨_,rfl,a.g,a.dg,_,rfl,cQ.hg,i7 _ (by simp),_,rfl,a,M,_,g0.2.1,all,b+3067*i,rfl,cQ,ok,lo,λ_=>early _ (.inl rfl),Bi,by lia,λn1 S1 qh Ha tQ ka ga Ba ma la ea=>?_⟩
           refine⟨_,rfl,a.g,a.dg,_,rfl,tQ.hg,i7 _ (by simp),_,rfl,a,M,_,g0.2.2,all,_,rfl,tQ,ok,lt,λ_=>ma _ (early _ (.inr rfl)),Ba,by lia,λn2 S2 zL Hb hGb kb gb Bb mb lb eb=>?_⟩
           have gl:S1.N.length<=S2.N.length:=gb.le
           refine⟨a,M,_,n1,n2,_,rfl,hGb,by show n1<S2.N.length;lia,lb,Bb,by lia,λn3 S3 Hc S6 kc gc Bc lc ec=>?_⟩
           refine⟨_,rfl,a.g,CG,a.dg,_,_,rfl,S6.hg,TG.cl,TG.n3,CS ..,_,rfl,a.pl,_,rfl,gh.k (k:=.inr g0.1) S6.hp (big (by have:=Bc.b1;lia)),?_⟩
           have ab7:∀e,ev e (aq S3.TS n3)=eF M e g0.1:=λe=>by
            rw[ec e,Ko ok e oQ]
            show (ev e (aq S2.TS n1) && ev e (aq S2.TS n2))=_
            rw[gb.aq (i:=n1) (by have:=tQ.fo.fs.len;show n1<S1.TS.length;rw[← this];exact la),ea e,eb e]
           have hGp:=S6.XE (n:=g0.1) lc ab7
           have lp:∀n,bo zL n->bo (putK zL (.inr g0.1) (.int (n3:Int))) n:=λn h=>by
            unfold bo
            rw[gJ]
            split
            . rfl
            . exact h
           refine⟨S3,_,_,_,_,rfl,hGp,((ki.trans ka).trans (kb.trans (KG.of kc))).trans (λx o hx nx=>?_),(gi.trans ga).trans (gb.trans gc),⟨Bc.bd.up (by lia),?_,aam Bc.b2 (by lia),aam Bc.b3 (by lia),aam Bc.b4 (by lia)⟩,λn h=>lp _ (mb _ (ma _ (mi _ h))),keep (λn h=>lp _ (mb _ (ma _ h))) λ_=>?_⟩
           . rw[ag λe=>nx (by rw[e];simp[GA.own])]
             exact hx
           . have:=Bc.b1
             exact aam (fh _ _ _) (by show zL.length+1<=_;have h2:zL.length<=_:=this;lia)
           . unfold bo
             rw[gJ,aaF rfl]
             rfl
         . have ab8:bo PL' g0.1:=by
            cases e:aG PL' (.inr g0.1) with
            | some v=>unfold bo;rw[e];rfl
            | none=>rw[show aG (GS.PL ⟨S',PL',s.NX,s.MI,s.MW⟩) (.inr g0.1)=none from e]at jl;exact absurd rfl jl
           exact⟨S',PL',_,_,_,rfl,cQ,ki,gi,Bi.up (by lia),mi,keep (λ_ h=>h) λ_=>ab8⟩
       . exact⟨S',PL',_,_,_,rfl,cQ,ki,gi,Bi.up (by lia),mi,keep (λ_ h=>h) λh=>absurd h Mc⟩
     . rintro σ H3 ⟨S',PL',v3,v4,v5,rfl,oR,k3,g3,B3,m3,p3⟩
       rw[aaa,S0]at B3 p3
       refine kk S' PL' H3 oR (λx o hx nx=>k3 _ _ (jG _ _ hx) nx) g3 (B3.up (by lia)) m3 ?_
       rcases CP hz ok.nm with h|h|h
       . exact oR.p0 _ (.inl h)
       . exact oR.p0 _ (.inr (.inl h))
       . rw[ok.all]at h
         rcases aap.mp h with h|h
         . refine oR.p0 _ (.inr (.inr ?_))
           unfold aW
           rcases aap.mp h with h|h
           . exact aar _ h
           . exact aaI _ h
         . obtain⟨g,hg,e⟩:=aal.mp h
           obtain⟨j,hj⟩:=agO hg
           have:=(aak.mp hj).1
           rw[← e]
           exact p3 j g hj (by lia) (by rw[e];exact Og)
end
abbrev C1:Stmt:=inClass (top 9) 0
abbrev vC:Stmt:=top 11
theorem Qc{D a:Addr}{l:List Str}{K:W.Frag}{Q:Hp->Prop}{H:Hp}(hl:l.length<=600)(hD:H D=none) (ha:H a=some (.lst (l.map V.str)))
 (fin:∀H' (ts:List Addr),ak H H'->H' D=some (.lst (ts.map V.ref))->Paired (λt (kv:Key×V)=>H' t=some (.tup [kV kv.1,kv.2])) ts (l.map λz=>((.inr z:Key),V.bl true))->Q H') :
 ∃W:Nat->Nat->St->Hp->Prop,(∃m,W 0 m [none] (upd H D (.lst [])))/\uJ D (eD 0) oo (Lh (eB (d6 0) (eB (tC (.bl true)) j0))) (uH K a) W Q:=by
 refine fz l.length (λi acc σ H9=>(∃ts:List Addr,acc=ts.map V.ref/\Paired (λt (kv:Key×V)=>H9 t=some (.tup [kV kv.1,kv.2])) ts ((l.take i).map λz=>((.inr z:Key),V.bl true)))/\(∃u,σ=[u])/\ak H H9) ⟨⟨[],rfl,.nil⟩,⟨none,rfl⟩,ak.av hD⟩ af ?_ ?_
 . rintro acc σ H9 df ⟨⟨ts,rfl,kh⟩,_,s9⟩
   rw[ac4]at kh
   exact⟨⟨_,ar.of (s9 _ _ ha),by rw[aaa];exact aaf _⟩,fin H9 ts s9 df kh⟩
 . rintro i acc σ H9 hi df ⟨⟨ts,rfl,kh⟩,⟨u,rfl⟩,s9⟩
   have jS:l[i]?=some l[i]:=aab hi
   have hx:(l.map V.str)[i]?=some (.str l[i]):=by rw[aae,jS];rfl
   refine⟨⟨_,_,ar.of (s9 _ _ ha),hx⟩,?_⟩
   rintro x H' ⟨rfl,jn⟩
   have ex:=jn _ (ar.of (s9 _ _ ha))
   rw[hx]at ex
   cases ex
   refine dJ ⟨_,rfl,(by show 2<=sizeLine;decide),λt ht=>?_⟩
   have YZ:D≠t:=ae df ht
   have rQ:=kh.length
   rw[aaa,aaG]at rQ
   refine⟨_,(ag YZ).trans df,(by rw[aaa];exact small (by lia)),cE hi af ⟨⟨ts++[t],by rw[aah];rfl,?_⟩,⟨_,rfl⟩,λb o hb=>?_⟩⟩
   . rw[adn,jS,afP,aah]
     refine cT (Paired.cw kh λb kv e=>?_) (.cons ?_ .nil)
     . rw[ag (aD e df (by intro z;cases z)),ag (ae e ht)]
       exact e
     . rw[ag (aax YZ),af]
       rfl
   . rw[ag (ae hb hD),ag (ae (s9 _ _ hb) ht)]
     exact s9 _ _ hb
theorem FO.Ho{P:Program}{w:World}{C y dy nm sp nd kn ch im ex g:Addr}{names:List Str}{S:de}{H H':Hp}{Cg dg:Addr}{fs:List (Str×V)}(h:FO P w C H y dy nm sp nd kn ch im ex names S) (hg:H g=some (.ins Cg dg fs)) (hy:g≠y) (k:aU H H' g):FO P w C H' y dy nm sp nd kn ch im ex names S:=by
 have ne:∀{b:Addr}{o:HO},H b=some o->(∀C d f,o≠.ins C d f)->b≠g:=λhb ho e=>by
  rw[e,hg]at hb
  exact ho _ _ _ (aay hb).symm
 have kt:∀b xs,H b=some (.tup xs)->H' b=some (.tup xs):=λb xs hb=>k _ _ hb (ne hb (by intro _ _ _ z;cases z))
 exact⟨k _ _ h.hy (aax hy),k _ _ h.hn (ne h.hn (by intro _ _ _ z;cases z)),k _ _ h.hs (ne h.hs (by intro _ _ _ z;cases z)),k _ _ h.hd (ne h.hd (by intro _ _ _ z;cases z)),Paired.cw h.ht λ_ _ e=>kt _ _ e,k _ _ h.hk (ne h.hk (by intro _ _ _ z;cases z)),k _ _ h.hc (ne h.hc (by intro _ _ _ z;cases z)),h.ck,k _ _ h.hi (ne h.hi (by intro _ _ _ z;cases z)),λp hp=>⟨(h.ik p hp).1.keep kt,(h.ik p hp).2⟩,k _ _ h.he (ne h.he (by intro _ _ _ z;cases z)),
  λkv aY=>let ⟨i,a,b,c⟩:=h.ek kv aY; ⟨i,a,b,c.keep kt⟩,h.e0,h.fs,h.nn,h.ns,h.n8,h.d1,h.d2,h.d3⟩
structure MG(CM:Addr) (H:Hp) (x dx f1 f2 f3 f4 f5 f6:Addr) (ts:List Addr) (M:aQ):Prop where
 mf:MF CM H x dx f1 f2 f3 f4 f5 f6 ts M
 h2:H f2=some (.dK (dY M.keepers))
 h4:H f4=some (.dK (dc M.nexts))
 h5:H f5=some (.dK (dc M.nevers))
 ok:∃all,c8 M all
 n60:M.gates.length<=60
 n8:(aW M).length<=8
 d24:f2≠f4
 d25:f2≠f5
 d45:f4≠f5
theorem MG.same{CM:Addr}{H H':Hp}{x dx f1 f2 f3 f4 f5 f6:Addr}{ts:List Addr}{M:aQ}(h:MG CM H x dx f1 f2 f3 f4 f5 f6 ts M)(s:ak H H'):MG CM H' x dx f1 f2 f3 f4 f5 f6 ts M:=⟨h.mf.same s,s _ _ h.h2,s _ _ h.h4,s _ _ h.h5,h.ok,h.n60,h.n8,h.d24,h.d25,h.d45⟩
theorem ie(ok:c8 M all):(aW M).Nodup:=by
 have h:=(aau.mp (jA ok)).1
 unfold aW
 rw[aau]at h ⊢
 exact⟨h.2.1,h.1,λa ha b hb e=>h.2.2 b hb a ha e.symm⟩
theorem Qd(ok:c8 M all):∀n∈aW M,bp n:=λn hn=>ok.nm n (by
 rw[ok.all]
 unfold aW at hn
 refine aaI _ ?_
 rcases aap.mp hn with h|h
 . exact aar _ h
 . exact aaI _ h)
theorem Qe(h:bp x):PyData.strOk x=true:=by
 unfold PyData.strOk
 rw[Array.all_eq_true']
 refine λc hc=>aaN ?_
 have:=lT.mp (h.2.2 c (agK.mpr hc))
 lia
inductive xy(CM:Addr) (vs:List V) (H:Hp) (Q:VK):Prop
 | mk (x dx f1 f2 f3 f4 f5 f6:Addr) (ts:List Addr) (M:aQ) (h1:vs=[.ref x]) (h2:MF CM H x dx f1 f2 f3 f4 f5 f6 ts M) (h3:(aW M).length<=100) (h4:∀p H',H p=none->ak H H'->H' p=some (.lst ((aW M).map V.str))->Q (.ref p) H'):xy CM vs H Q
def zM(CM:Addr):Sp:=λvs H Q _=>xy CM vs H Q
inductive C2(P:Program) (w:World) (CF CM CG:Addr) (vs:List V) (H:Hp) (Q:VK):Prop
 | mk (g dg o x dx f1 f2 f3 f4 f5 f6:Addr) (ts:List Addr) (M:aQ) (h1:vs=[.ref g,.ref x,.ref o]) (h2:H g=some (.ins CG dg [])) (h3:g≠x) (h4:MG CM H x dx f1 f2 f3 f4 f5 f6 ts M) (h5:H o=some (.lst ((aW M).map V.str))) (h6:∀(y dy nm sp nd kn ch im ex pl dh nx mi mw:Addr) (S:de) (PL:List (Key×V)) (H':Hp),GO P w CF CM CG H' ⟨g,dg,x,dx,f1,f2,f3,f4,f5,f6,y,dy,nm,sp,nd,kn,ch,im,ex,pl,dh,nx,mi,mw,ts⟩ M ⟨S,PL,[],[],[]⟩->aU H H' g->(∀b∈[nd,kn,ch,im,ex,pl,nx,mi,mw],H b=none)->GB ⟨S,PL,[],[],[]⟩ 20->Q .aV H'):C2 P w CF CM CG vs H Q
def Fg(P:Program)(w:World)(CF CM CG:Addr):Sp:=λvs H Q _=>C2 P w CF CM CG vs H Q
abbrev nGI:List Str:=["self", "machine", "order", "name"]
section
variable {P:Program}{w:World}{K:W.Frag}{mg:Str->Option Value}{base:Heap}{CF CM CG:Addr}
theorem XG:aJ ["machine"] ["machine"] (az vC):=fs
theorem Oh(l:List (Str×V)):(l.map λr=>((.inr r.1:Key),r.2)).map (λkv=>kV kv.1)=(l.map (·.1)).map V.str:=by rw[adV,adV];rfl
theorem D5(F:aK K "order_of" "order_of" vC f fd)(TM:qP K mg CM)(O2:iD mg):ax P w K mg base aB 1 f fd ["machine"] (zM CM):=by
 refine F.run XG λcdv A outer s H vs Q E hr h=>?_
 . obtain⟨x,dx,f1,f2,f3,f4,f5,f6,ts,M,rfl,hM,hl,kk⟩:=h
   refine⟨_,au (aL (aX kK (bK (pY rfl) (by rfl) O2.list adw (aa (aE (pv 0) rfl) ah)) (aE (pv 0) rfl))),?_⟩
   refine⟨_,rfl,x,CM,dx,_,_,rfl,hM.hx,TM.cl,TM.n2,BM ..,f2,_,rfl,hM.h2,λq1 hq1=>?_⟩
   rw[Oh]
   have s1:ak H (upd H q1 (.lst ((M.keepers.map (·.1)).map V.str))):=ak.av hq1
   have e1:(upd H q1 (.lst ((M.keepers.map (·.1)).map V.str))) q1=some (.lst ((M.keepers.map (·.1)).map V.str)):=af
   generalize upd H q1 (.lst ((M.keepers.map (·.1)).map V.str))=H1 at s1 e1 ⊢
   have kX:=hM.same s1
   have d9:(aW M).length=M.keepers.length+M.switches.length:=by unfold aW;rw[aag,aaa]
   refine⟨_,rfl,x,CM,dx,_,_,rfl,kX.hx,TM.cl,TM.n1,BL ..,q1,f1,_,_,rfl,rfl,e1,kX.h1,(by simp only[aaa];exact kP (by lia)),λq2 Ta=>?_⟩
   have hn:H q2=none:=by
    cases e:H q2 with
    | none=>rfl
    | some u=>rw[s1 _ _ e]at Ta;cases Ta
   refine kk q2 _ hn (s1.trans (ak.av Ta)) ?_
   rw[af,← aah]
   rfl
theorem Tb:aJ nGI ["self", "machine", "order"] (az C1):=fs
theorem ab9:(["name"]:List Str).Nodup:=dk
theorem Kv(nm sp nd kn ch im ex:Addr):(gq nm sp nd kn ch im ex).lookup ("leaf_of" : Str)=none:=pH _ _ _ _ _ _ _ dk dk dk dk dk dk dk
theorem Me(F:aK K "__init__" "Grove.__init__" C1 f fd)(TG:jN K mg CG)(TF:hZ K mg CF)(TM:qP K mg CM)(O2:iD mg)
 (mF:Mk K CF fF) (gF:ax P w K mg base aB 1 fF dF ["self", "order"] (yl P w CF)) (bF:Binds K dF ["self", "order"] [])
 (gL:ax P w K mg base aB 2 fL dL ["self", "name"] (xl P w CF)) (mL:Meth K CF "leaf_of" fL) (bL:Binds K dL ["self", "name"] []):ax P w K mg base aB 3 f fd ["self", "machine", "order"] (Fg P w CF CM CG):=by
 refine F.run Tb λcdv A outer s H vs Q E hr h=>?_
 . obtain⟨g,dg,o,x,dx,f1,f2,f3,f4,f5,f6,ts,M,rfl,hg,gx,hM,ho,kk⟩:=h
   have hu:=eS hr
   refine⟨_,ai (cX (pv 0) (pv 1) rfl)
    (ai (cX (pv 0) (ub mF gF hr rfl TF.mgC bF .nil dv (aa (pv 2) ah)) rfl)
    (ai (cX (pv 0) (pQ (gQ a0 ao (gQ a0 ao pP)) rfl rfl (by simp) (by decide)) rfl)
    (ai (fi ac7 rfl (dj (aX kK (bK (pY rfl) (by rfl) O2.list adw (aa (aE (pv 1) rfl) ah)) (aE (pv 1) rfl))) (aC (i:=3) Tb.nd rfl (Or.inl rfl))
     (au (eV hu (aE (pv 0) rfl) (pv 3) (bt (aE (pv 0) rfl) TF.cl mL gL hr bL (aa (pv 3) ah)) rfl)))
    (ai (cX (pv 0) (bK (eU rfl) (by rfl) O2.dict ade (aa (fu (N:=["name"]) (js:=[none]) (by kernel_rfl) rfl (dj (aE (pv 1) rfl)) (λ_ _ _ _ _ _=>aC (i:=0) ab9 rfl (Or.inl rfl) (.inr rfl)) (λ_ _ _ _ _ _=>bJ) (λ_ _ _ _ _ _=>fZ (aa (pv 0) (aa gZ ah)))) ah)) rfl)
    (ai (cX (pv 0) lH rfl)
    (ai (cX (pv 0) lH rfl)
    (au (cX (pv 0) lH rfl)))))))),?_⟩
   obtain⟨all,ok⟩:=hM.ok
   have n8:=hM.n8
   have np:∀{b:Addr}{u:HO},H b=some u->(∀C dx fs,u≠.ins C dx fs)->b≠g:=λhb hu z=>by
    rw[z,hg]at hb
    exact hu _ _ _ (aay hb).symm
   refine⟨_,rfl,_,rfl,g,CG,dg,[],rfl,hg,TG.cl,TG.n1,(by show 0<1000;decide),?_⟩
   have k1:aU H (upd H g (.ins CG dg (aj "machine" (.ref x) []))) g:=λb u hb nb=>by rw[ag nb];exact hb
   have g1:(upd H g (.ins CG dg (aj "machine" (.ref x) []))) g=some (.ins CG dg (aj "machine" (.ref x) [])):=af
   have n1:∀b,(upd H g (.ins CG dg (aj "machine" (.ref x) []))) b=none->H b=none:=λb hb=>by
    by_cases e:b=g
    . rw[e,af]at hb;cases hb
    . rw[ag e]at hb;exact hb
   show eR _ _ _ _ (upd H g (.ins CG dg (aj "machine" (.ref x) [])))
   generalize upd H g (.ins CG dg (aj "machine" (.ref x) []))=H1 at k1 g1 n1 ⊢
   refine⟨_,rfl,λy dy hy Fh ndy=>?_⟩
   have o8:=k1 _ _ ho (np ho (by intro _ _ _ z;cases z))
   refine⟨y,dy,o,aW M,rfl,af,by rw[ag (ae o8 hy),ag (ae o8 Fh)];exact o8,ie ok,λn hn=>Qe (Qd ok n hn),n8,λnm sp nd kn ch im ex t0 t1 Hm aZ km fr0 aca=>⟨rfl,?_⟩⟩
   have sm:=LX hy Fh km
   have fr:∀b∈[nd,kn,ch,im,ex],H1 b=none:=λb hb=>oJ hy Fh (fr0 b hb)
   have fsp:H1 sp=none:=oJ hy Fh aca
   have gm:=sm _ _ g1
   have gy:g≠y:=ae g1 hy
   refine⟨_,rfl,g,CG,dg,_,rfl,gm,TG.cl,TG.n2,iY (aw (aaf _)) (by show 1<1000;decide),?_⟩
   have k2:aU Hm (upd Hm g (.ins CG dg (aj "forest" (.ref y) (aj "machine" (.ref x) [])))) g:=λb u hb nb=>by rw[ag nb];exact hb
   have g2:(upd Hm g (.ins CG dg (aj "forest" (.ref y) (aj "machine" (.ref x) [])))) g=some (.ins CG dg (aj "forest" (.ref y) (aj "machine" (.ref x) []))):=af
   show eR _ _ _ _ (upd Hm g (.ins CG dg (aj "forest" (.ref y) (aj "machine" (.ref x) []))))
   generalize upd Hm g (.ins CG dg (aj "forest" (.ref y) (aj "machine" (.ref x) [])))=H2 at k2 g2 ⊢
   have eX:=aZ.Ho gm gy k2
   have tS:aU H H2 g:=λb u hb nb=>k2 _ _ (sm _ _ (k1 _ _ hb nb)) nb
   refine λpl jl=>⟨af,[(.inr "0",.int 0),(.inr "1",.int 1)],rfl,(by show 2<=15;decide),?_⟩
   rw[show bY [] [((.inr "0" : Key),V.int 0),(.inr "1",.int 1)]=[(.inr "0",.int 0),(.inr "1",.int 1)] from lj _ [] dk,iO]
   obtain⟨g3,q3,r3,k3⟩:=bZ (o:=.dK [(.inr "0",.int 0),(.inr "1",.int 1)]) (fs':=aj "planted" (.ref pl) (aj "forest" (.ref y) (aj "machine" (.ref x) []))) g2 jl
   refine⟨_,rfl,g,CG,dg,_,rfl,r3,TG.cl,TG.n3,iY (aw (aw (aaf _))) (by show 2<1000;decide),?_⟩
   show eR _ _ _ _ (upd (upd H2 pl (.dK [(.inr "0",.int 0),(.inr "1",.int 1)])) g (.ins CG dg (aj "planted" (.ref pl) (aj "forest" (.ref y) (aj "machine" (.ref x) [])))))
   have Y0:∀{b:Addr}{u:HO},H2 b=some u->pl≠b:=λhb=>(ae hb jl).symm
   have Tc:=Y0 eX.hs
   have Mf:=Y0 eX.he
   have Td:pl≠g:=(ae g2 jl).symm
   have Fi:H pl=none:=cJ tS jl Td
   have aiq:f2≠pl:=ae hM.h2 Fi
   have air:f4≠pl:=ae hM.h4 Fi
   have ais:f5≠pl:=ae hM.h5 Fi
   generalize upd (upd H2 pl (.dK [(.inr "0",.int 0),(.inr "1",.int 1)])) g (.ins CG dg (aj "planted" (.ref pl) (aj "forest" (.ref y) (aj "machine" (.ref x) []))))=H3 at g3 q3 k3 ⊢
   have jz:=eX.Ho g2 gy k3
   have tI:aU H H3 g:=λb u hb nb=>k3 _ _ (tS _ _ hb nb) nb
   have Y1:H3 x=_:=tI _ _ hM.mf.hx (aax gx)
   have Oi:=tI _ _ hM.h2 (np hM.h2 (by intro _ _ _ z;cases z))
   have NH:=tI _ _ hM.mf.h1 (np hM.mf.h1 (by intro _ _ _ z;cases z))
   refine⟨_,rfl,x,CM,dx,_,_,rfl,Y1,TM.cl,TM.n2,BM ..,f2,_,rfl,.inl Oi,λl1 iI=>?_⟩
   rw[show ((dY M.keepers).map λkv=>kV kv.1)=(M.keepers.map (·.1)).map V.str from Oh M.keepers]
   have s4:ak H3 (upd H3 l1 (.lst ((M.keepers.map (·.1)).map V.str))):=ak.av iI
   have q4:(upd H3 l1 (.lst ((M.keepers.map (·.1)).map V.str))) l1=some (.lst ((M.keepers.map (·.1)).map V.str)):=af
   generalize upd H3 l1 (.lst ((M.keepers.map (·.1)).map V.str))=H4 at s4 q4 ⊢
   have d9:(aW M).length=M.keepers.length+M.switches.length:=by unfold aW;rw[aag,aaa]
   refine⟨_,rfl,x,CM,dx,_,_,rfl,s4 _ _ Y1,TM.cl,TM.n1,BL ..,l1,f1,_,_,rfl,rfl,q4,s4 _ _ NH,(by simp only[aaa];exact kP (by lia)),λl2 Te=>?_⟩
   rw[show (M.keepers.map (·.1)).map V.str++M.switches.map V.str=(aW M).map V.str by rw[← aah];rfl]
   have s5:ak H4 (upd H4 l2 (.lst ((aW M).map V.str))):=ak.av Te
   have q5:(upd H4 l2 (.lst ((aW M).map V.str))) l2=some (.lst ((aW M).map V.str)):=af
   have nl2:∀{b:Addr}{u:HO},H4 b=some u->l2≠b:=λhb=>(ae hb Te).symm
   have acb:l2≠nd:=nl2 (s4 _ _ jz.hd)
   generalize upd H4 l2 (.lst ((aW M).map V.str))=H5 at s5 q5 ⊢
   have jI:=s4.trans s5
   have lg:=jz.same jI
   have Kw:vA M (Kb (aW M).length t0 t1) [(.inr "0",.int 0),(.inr "1",.int 1)]:=λn v hv=>by
    rcases aaj.mp (iA hv) with e|e
    . cases adC (afJ e).1
      exact⟨0,(afJ e).2,(by show 0<2;decide),λe=>(SU M e).symm⟩
    . have e:=aaC.mp e
      cases adC (afJ e).1
      exact⟨1,(afJ e).2,(by show 1<2;decide),λe=>(SV M e).symm⟩
   refine⟨l2,rfl,⟨_,ar.of q5⟩,lD (K:=K) (a:=l2) (xs:=(aW M).map V.str) (λi σ Hi=>∃(S:de) (PL:List (Key×V)) (v3:Option V),σ=[some (.ref g),some (.ref x),some (.ref o),v3]/\FO P w CF Hi y dy nm sp nd kn ch im ex (aW M) S/\Hi pl=some (.dK PL)/\(∀b u,H5 b=some u->b∉[nd,kn,ch,im,ex,pl]->Hi b=some u)/\Bd S (2+i)/\PL.length<=2+i/\vA M S PL/\bo PL "0" /\ bo PL "1" /\ ∀n∈(aW M).take i,bo PL n) ?_ ?_ ?_ ?_⟩
   . exact⟨_,_,none,rfl,lg,jI _ _ q3,λ_ _ h _=>h,bd0,aaf _,Kw,nS ⟨_,aas,rfl⟩,nS ⟨_,aav _ aas,rfl⟩,(λn hn=>by cases hn)⟩
   . rintro i σ Hi _ ⟨S,PL,v3,rfl,uU,Y2,ki,_⟩
     refine ar.of (ki _ _ q5 λhm=>?_)
     simp only[aaj,aat,adg]at hm
     rcases hm with e|e|e|e|e|e
     . exact acb e
     . rw[e,lg.hk]at q5;cases q5
     . rw[e,lg.hc]at q5;cases q5
     . rw[e,lg.hi]at q5;cases q5
     . rw[e,lg.he]at q5;cases q5
     . rw[e,jI _ _ q3]at q5;cases q5
   . rintro i xv σ Hi hx ⟨S,PL,v3,rfl,uU,Y2,ki,Bi,li,pki,p0,p1,pn⟩
     have hi:i<(aW M).length:=by
      have:=(aak.mp hx).1
      rwa[aaa]at this
     have zN:(aW M)[i]?=some (aW M)[i]:=aab hi
     rw[aae,zN]at hx
     cases hx
     generalize (aW M)[i]=n at zN
     have gi:Hi g=_:=ki _ _ (jI _ _ g3) λhm=>by
      have g5:=jI _ _ g3
      simp only[aaj,aat,adg]at hm
      rcases hm with e|e|e|e|e|e <;> rw[e]at g5
      . rw[lg.hd]at g5;cases g5
      . rw[lg.hk]at g5;cases g5
      . rw[lg.hc]at g5;cases g5
      . rw[lg.hi]at g5;cases g5
      . rw[lg.he]at g5;cases g5
      . rw[jI _ _ q3]at g5;cases g5
     refine⟨_,rfl,g,CG,dg,_,_,rfl,gi,TG.cl,TG.n2,(by rw[ay,aaz dk,ay,aaF rfl]),y,dy,_,rfl,uU.hy,Kv ..,_,rfl,y,dy,nm,sp,nd,kn,ch,im,ex,aW M,S,n,i,2+i,rfl,uU,zN,Bi,by lia,λm S' H6 Tf k6 g6 B6 _ _ l6 t6=>?_⟩
     have wL:=uU.dk Y2 Mf k6
     have g6':H6 g=_:=k6 _ _ gi (aD gi uU.hd (by intro z;cases z)) (aD gi uU.hk (by intro z;cases z)) (aD gi uU.hc (by intro z;cases z)) (aD gi uU.hi (by intro z;cases z)) (aD gi uU.he (by intro z;cases z))
     refine⟨_,rfl,g,CG,dg,_,_,rfl,g6',TG.cl,TG.n3,(by rw[ay,aaF rfl]),_,rfl,pl,_,rfl,gh.k (k:=.inr n) wL (small (by lia)),?_⟩
     have lp:∀z,bo PL z->bo (putK PL (.inr n) (.int (m:Int))) z:=λz h=>by
      unfold bo
      rw[gJ]
      split
      . rfl
      . exact h
     have hlen:=uU.fs.len
     refine⟨S',_,_,rfl,Tf.putD wL Tc Mf,af,λb u hb nb=>?_,by rw[← agg];exact B6,aam (fh _ _ _) (by lia),λz v hv=>?_,lp _ p0,lp _ p1,λz hz=>?_⟩
     . have SN:=ki b u hb nb
       simp only[aaj,aat,adg,afq]at nb
       rw[ag nb.2.2.2.2.2]
       exact k6 _ _ SN nb.1 nb.2.1 nb.2.2.1 nb.2.2.2.1 nb.2.2.2.2.1
     . rw[gJ]at hv
       by_cases e:(.inr z:Key)=.inr n
       . rw[aaF e]at hv
         cases hv
         cases adC e
         refine⟨m,rfl,l6,λe=>?_⟩
         rw[t6,Kn ok e (aaK zN)]
         show (if e n=true then true else false)=e n
         cases e n <;> rfl
       . rw[aaz e]at hv
         exact pki.grow g6 hlen z v hv
     . rw[adn,zN]at hz
       rcases aap.mp hz with h|h
       . exact lp _ (pn z h)
       . have:z=n:=by simpa using h
         rw[this]
         unfold bo
         rw[gJ,aaF rfl]
         rfl
   . rintro σ H6 ⟨S,PL,v3,rfl,Tf,wL,k6,B6,l6,pk6,p0,p1,pn⟩
     rw[aaa]at B6 l6 pn
     rw[ac4]at pn
     have old:∀b u,H b=some u->b≠g->H6 b=some u/\b∉[nd,kn,ch,im,ex,pl]:=λb u hb nb=>by
      have jd:b∉[nd,kn,ch,im,ex,pl]:=λhm=>by
       have uV:=k1 _ _ hb nb
       simp only[aaj,aat,adg]at hm
       rcases hm with e|e|e|e|e|e
       . rw[e,fr nd (by simp)]at uV;cases uV
       . rw[e,fr kn (by simp)]at uV;cases uV
       . rw[e,fr ch (by simp)]at uV;cases uV
       . rw[e,fr im (by simp)]at uV;cases uV
       . rw[e,fr ex (by simp)]at uV;cases uV
       . rw[e,Fi]at hb;cases hb
      exact⟨k6 _ _ (jI _ _ (tI _ _ hb nb)) jd,jd⟩
     have gi:H6 g=_:=k6 _ _ (jI _ _ g3) λhm=>by
      have g5:=jI _ _ g3
      simp only[aaj,aat,adg]at hm
      rcases hm with e|e|e|e|e|e <;> rw[e]at g5
      . rw[lg.hd]at g5;cases g5
      . rw[lg.hk]at g5;cases g5
      . rw[lg.hc]at g5;cases g5
      . rw[lg.hi]at g5;cases g5
      . rw[lg.he]at g5;cases g5
      . rw[jI _ _ q3]at g5;cases g5
     have o6:aU H H6 g:=λb u hb nb=>(old b u hb nb).1
     have Tg:=o6 _ _ hM.mf.hx (aax gx)
     have Oj:=o6 _ _ hM.mf.h1 (np hM.mf.h1 (by intro _ _ _ z;cases z))
     refine⟨_,rfl,x,CM,dx,_,_,rfl,Tg,TM.cl,TM.n1,BL ..,f1,rfl,⟨_,ar.of Oj⟩,λD hD=>Qc (by lia) hD Oj λH7 tt s7 hD7 htt=>?_⟩
     refine⟨D,tt,_,rfl,hD7,htt,λdh Mg=>?_⟩
     have Fj:(M.switches.map λz=>((.inr z:Key),V.bl true)).map (·.1)=M.switches.map Sum.inr:=by rw[adV];rfl
     have Kx:M.switches.Nodup:=by
      have:=ie ok
      unfold aW at this
      exact(aau.mp this).2.1
     rw[show bY [] (M.switches.map λz=>((.inr z:Key),V.bl true))=CT M.switches from lj _ [] (by
      rw[aeF,Fj]
      exact afn.mpr (aeO (λh z=>h (adC z)) Kx))]
     have g7:=s7 _ _ gi
     obtain⟨g8,q8,r8,k8⟩:=bZ (o:=.dK (CT M.switches)) (fs':=aj "inputs" (.ref dh) (aj "planted" (.ref pl) (aj "forest" (.ref y) (aj "machine" (.ref x) [])))) g7 Mg
     refine⟨_,rfl,g,CG,dg,_,rfl,r8,TG.cl,TG.n4,iY (aw (aw (aw (aaf _)))) (by show 3<1000;decide),?_⟩
     have Fl:=Tf.same s7
     have Hq:∀{b:Addr}{u:HO},H7 b=some u->dh≠b:=λhb=>(ae hb Mg).symm
     have C3:dh≠g:=Hq g7
     have i1:=Hq Fl.hs
     have i2:=Hq Fl.he
     have i3:=Hq (s7 _ _ wL)
     show eR _ _ _ _ (upd (upd H7 dh (.dK (CT M.switches))) g (.ins CG dg (aj "inputs" (.ref dh) (aj "planted" (.ref pl) (aj "forest" (.ref y) (aj "machine" (.ref x) []))))))
     generalize upd (upd H7 dh (.dK (CT M.switches))) g (.ins CG dg (aj "inputs" (.ref dh) (aj "planted" (.ref pl) (aj "forest" (.ref y) (aj "machine" (.ref x) [])))))=H8 at g8 q8 k8 ⊢
     refine λnx hnx=>?_
     obtain⟨g9,q9,r9,k9⟩:=bZ (o:=.dK []) (fs':=aj "nexts" (.ref nx) (aj "inputs" (.ref dh) (aj "planted" (.ref pl) (aj "forest" (.ref y) (aj "machine" (.ref x) []))))) g8 hnx
     refine⟨_,rfl,g,CG,dg,_,rfl,r9,TG.cl,TG.n5,iY (aw (aw (aw (aw (aaf _))))) (by show 4<1000;decide),?_⟩
     have Th:nx≠g:=(ae g8 hnx).symm
     show eR _ _ _ _ (upd (upd H8 nx (.dK [])) g (.ins CG dg (aj "nexts" (.ref nx) (aj "inputs" (.ref dh) (aj "planted" (.ref pl) (aj "forest" (.ref y) (aj "machine" (.ref x) [])))))))
     generalize upd (upd H8 nx (.dK [])) g (.ins CG dg (aj "nexts" (.ref nx) (aj "inputs" (.ref dh) (aj "planted" (.ref pl) (aj "forest" (.ref y) (aj "machine" (.ref x) []))))))=H9 at g9 q9 k9 ⊢
     refine λmi hmi=>?_
     obtain⟨ga,qa,ra,ka⟩:=bZ (o:=.dK []) (fs':=aj "made_into" (.ref mi) (aj "nexts" (.ref nx) (aj "inputs" (.ref dh) (aj "planted" (.ref pl) (aj "forest" (.ref y) (aj "machine" (.ref x) [])))))) g9 hmi
     refine⟨_,rfl,g,CG,dg,_,rfl,ra,TG.cl,TG.n6,iY (aw (aw (aw (aw (aw (aaf _)))))) (by show 5<1000;decide),?_⟩
     have Y3:mi≠g:=(ae g9 hmi).symm
     show eR _ _ _ _ (upd (upd H9 mi (.dK [])) g (.ins CG dg (aj "made_into" (.ref mi) (aj "nexts" (.ref nx) (aj "inputs" (.ref dh) (aj "planted" (.ref pl) (aj "forest" (.ref y) (aj "machine" (.ref x) []))))))))
     generalize upd (upd H9 mi (.dK [])) g (.ins CG dg (aj "made_into" (.ref mi) (aj "nexts" (.ref nx) (aj "inputs" (.ref dh) (aj "planted" (.ref pl) (aj "forest" (.ref y) (aj "machine" (.ref x) [])))))))=Ha at ga qa ka ⊢
     refine λmw hmw=>?_
     obtain⟨gb,qb,rb,kb⟩:=bZ (o:=.dK []) (fs':=iM x y pl dh nx mi mw) ga hmw
     refine⟨_,rfl,g,CG,dg,_,rfl,rb,TG.cl,TG.n7,iY (aw (aw (aw (aw (aw (aw (aaf _))))))) (by show 6<1000;decide),?_⟩
     have mwg:mw≠g:=(ae ga hmw).symm
     have Y4:aU H9 (upd (upd Ha mw (.dK [])) g (.ins CG dg (iM x y pl dh nx mi mw))) g:=λb u hb nb=>kb _ _ (ka _ _ hb nb) nb
     have Y5:aU H8 (upd (upd Ha mw (.dK [])) g (.ins CG dg (iM x y pl dh nx mi mw))) g:=λb u hb nb=>Y4 _ _ (k9 _ _ hb nb) nb
     have Ti:aU H7 (upd (upd Ha mw (.dK [])) g (.ins CG dg (iM x y pl dh nx mi mw))) g:=λb u hb nb=>Y5 _ _ (k8 _ _ hb nb) nb
     have zO:aU H (upd (upd Ha mw (.dK [])) g (.ins CG dg (iM x y pl dh nx mi mw))) g:=λb u hb nb=>Ti _ _ (s7 _ _ (o6 _ _ hb nb)) nb
     have Ol:aU H Ha g:=λb u hb nb=>ka _ _ (k9 _ _ (k8 _ _ (s7 _ _ (o6 _ _ hb nb)) nb) nb) nb
     have Cq:aU H H9 g:=λb u hb nb=>k9 _ _ (k8 _ _ (s7 _ _ (o6 _ _ hb nb)) nb) nb
     have Od:aU H H8 g:=λb u hb nb=>k8 _ _ (s7 _ _ (o6 _ _ hb nb)) nb
     have Y6:H nx=none:=cJ Od hnx Th
     have Y7:H mi=none:=cJ Cq hmi Y3
     have Y8:H mw=none:=cJ Ol hmw mwg
     have acd:H dh=none:=cJ (λb u hb nb=>s7 _ _ (o6 _ _ hb nb)) Mg C3
     have dd:∀{b:Addr}{u:HO},H b=some u->b≠g->b≠pl/\b≠dh/\b≠nx/\b≠mi/\b≠mw/\b≠sp/\b≠ex:=λ{b} {u} hb nb=>⟨ae hb Fi,ae hb acd,ae hb Y6,ae hb Y7,ae hb Y8,ae (k1 _ _ hb nb) fsp,ae (k1 _ _ hb nb) (fr ex (by simp))⟩
     have e2:=dd hM.h2 (np hM.h2 (by intro _ _ _ z;cases z))
     have e4:=dd hM.h4 (np hM.h4 (by intro _ _ _ z;cases z))
     have e5:=dd hM.h5 (np hM.h5 (by intro _ _ _ z;cases z))
     have Tj:=Fl.hs
     have Tn:=Fl.he
     have Y9:∀{b:Addr}{u:HO},H7 b=some u->(∀C dx fs,u≠.ins C dx fs)->b≠g:=λhb hu z=>by
      rw[z,g7]at hb
      exact hu _ _ _ (aay hb).symm
     have spg:=Y9 Tj (by intro _ _ _ z;cases z)
     have exg:=Y9 Tn (by intro _ _ _ z;cases z)
     have Za:=s7 _ _ wL
     have a8:∀{b:Addr}{u:HO},H7 b=some u->b≠g->nx≠b/\mi≠b/\mw≠b:=λhb nb=>⟨(ae (k8 _ _ hb nb) hnx).symm,(ae (k9 _ _ (k8 _ _ hb nb) nb) hmi).symm,(ae (ka _ _ (k9 _ _ (k8 _ _ hb nb) nb) nb) hmw).symm⟩
     have b1:=a8 Tj spg
     have b2:=a8 Tn exg
     have b3:=a8 Za Td
     have c1:nx≠dh:=(ae q8 hnx).symm
     have c2:mi≠dh:=(ae (k9 _ _ q8 C3) hmi).symm
     have c3:mw≠dh:=(ae (ka _ _ (k9 _ _ q8 C3) C3) hmw).symm
     have c4:mi≠nx:=(ae q9 hmi).symm
     have c5:mw≠nx:=(ae (ka _ _ q9 Th) hmw).symm
     have c6:mw≠mi:=(ae qa hmw).symm
     have sx:=Fl.d3
     refine kk y dy nm sp nd kn ch im ex pl dh nx mi mw S PL _ ⟨gb,Fl.Ho g7 gy Ti,⟨zO _ _ hM.mf.hx (aax gx),zO _ _ hM.mf.h1 (np hM.mf.h1 (by intro _ _ _ z;cases z)),.inl (zO _ _ hM.h2 (np hM.h2 (by intro _ _ _ z;cases z))),zO _ _ hM.mf.h3 (np hM.mf.h3 (by intro _ _ _ z;cases z)),Paired.cw hM.mf.hp λ_ _ e=>zO _ _ e (np e (by intro _ _ _ z;cases z))⟩,zO _ _ hM.h4 (np hM.h4 (by intro _ _ _ z;cases z)),zO _ _ hM.h5 (np hM.h5 (by intro _ _ _ z;cases z)),Ti _ _ Za Td,Y5 _ _ q8 C3,Y4 _ _ q9 Th,kb _ _ qa Y3,qb,hM.ok,hM.n60,pk6,λn hn=>?_,?_,?_,?_⟩ zO (λb hb=>?_) ⟨B6.up (by lia),by show PL.length<=20;lia,aaO _,aaO _,aaO _⟩
     . rcases hn with rfl|rfl|hn
       . exact p0
       . exact p1
       . exact pn n hn
     . exact ae (k1 _ _ hM.mf.h1 (np hM.mf.h1 (by intro _ _ _ z;cases z))) (fr nd (by simp))
     . exact ae (k1 _ _ hM.mf.h3 (np hM.mf.h3 (by intro _ _ _ z;cases z))) (fr nd (by simp))
     . have Om:=hM.d24
       have Ky:=hM.d25
       have m45:=hM.d45
       obtain⟨x1,x2,x3,x4,x5,x6,x7⟩:=e2
       obtain⟨y1,y2,y3,y4,y5,y6,y7⟩:=e4
       obtain⟨z1,z2,z3,z4,z5,z6,z7⟩:=e5
       obtain⟨u1,u2,u3⟩:=b1
       obtain⟨w1,w2,w3⟩:=b2
       obtain⟨t1,t2,t3⟩:=b3
       simp only[aaP,aaj,aat,adg,afq,adN,ahp,ahi]
       exact⟨⟨Om,Ky,x1,x2,x3,x4,x5,x6,x7⟩,⟨m45,y1,y2,y3,y4,y5,y6,y7⟩,⟨z1,z2,z3,z4,z5,z6,z7⟩,⟨i3.symm,t1.symm,t2.symm,t3.symm,Tc,Mf⟩,⟨c1.symm,c2.symm,c3.symm,i1,i2⟩,⟨c4.symm,c5.symm,u1,w1⟩,⟨c6.symm,u2,w2⟩,⟨u3,w3⟩,sx⟩
     . simp only[aaj,aat,adg]at hb
       rcases hb with rfl|rfl|rfl|rfl|rfl|rfl|rfl|rfl|rfl
       . exact n1 _ (fr _ (by simp))
       . exact n1 _ (fr _ (by simp))
       . exact n1 _ (fr _ (by simp))
       . exact n1 _ (fr _ (by simp))
       . exact n1 _ (fr _ (by simp))
       . exact Fi
       . exact Y6
       . exact Y7
       . exact Y8
end
section
variable {P:Program}{w:World}{K:W.Frag}{mg:Str->Option Value}{base:Heap}{C:Addr}
theorem nU(h:∀vs H Q E,¬ sp vs H Q E):ax P w K mg base aB k f fd ps sp:=⟨λvs H Q E q=>(h _ _ _ _ q).elim,λA outer s H args us vs Q E _ _ _ _ q=>(h _ _ _ _ q).elim⟩
theorem uW(F:aK K "tree_at" "Forest.tree_at" uv f fd)(T:hZ K mg C)(mT:Meth K C "tree_at" f)(bT:Binds K fd ["self", "number"] []):∀d,ax P w K mg base aB (d+1) f fd ["self", "number"] (lO P w C d)
 | 0=>nU λvs H Q E q=>by first|(obtain⟨_,_,_,_,_,_,_,_,_,_,_,_,_,_,_,_,h,_⟩:=q;exact adE _ h)|(cases q;lia)
 | d+1=>GW F T (uW F T mT bT d) mT bT
theorem xA(F:aK K "chosen" "Forest.chosen" uw f fd)(T:hZ K mg C)(O2:iD mg)(mC:Meth K C "chosen" f)(bC:Binds K fd jW []) (gN:ax P w K mg base aB 1 fN dN pf (oI P w C)) (mN:Meth K C "node" fN) (bN:Binds K dN pf [])
 (gH:ax P w K mg base aB 1 fH dH ["self", "number", "spot", "side"] (xj P w C)) (mH:Meth K C "half" fH) (bH:Binds K dH ["self", "number", "spot", "side"] []):∀d,ax P w K mg base aB (d+1) f fd jW (iH P w C d)
 | 0=>nU λvs H Q E q=>by first|(obtain⟨_,_,_,_,_,_,_,_,_,_,_,_,_,_,_,_,_,_,_,_,h,_⟩:=q;exact adE _ h)|(cases q;lia)
 | d+1=>J8 F T O2 (xA F T O2 mC bC gN mN bN gH mH bH d) mC bC gN mN bN gH mH bH
theorem C4(F:aK K "_law_same_tree" "_law_same_tree" xo f fd)(T:iD mg) (mS:mg "_law_same_tree" = some (.ref f)) (bS:Binds K fd oN []):∀d,ax P w K mg base aB d f fd oN (iU d)
 | 0=>nU λvs H Q E q=>by first|(obtain⟨_,_,_,_,_,_,_,h,_⟩:=q;exact adE _ h)|(cases q;lia)
 | d+1=>Cu F T (C4 F T mS bS d) mS bS
theorem zP(F:aK K "_law_canon" "_law_canon" xm f fd)(O2:iD mg) (mC:mg "_law_canon" = some (.ref f)) (bC:Binds K fd xq [])
 (gS:ax P w K mg base aB 9 fS dS oN (iU 9)) (mS:mg "_law_same_tree" = some (.ref fS)) (kS:W.keepIn K (.ref fS)=true) (bS:Binds K dS oN []):∀d,ax P w K mg base aB (d+9) f fd xq (nQ d)
 | 0=>nU λvs H Q E q=>by first|(obtain⟨_,_,_,_,_,_,_,h,_⟩:=q;exact adE _ h)|(cases q;lia)
 | d+1=>(show d+9+1=d+1+9 by lia) ▸ LZ F O2 (zP F O2 mC bC gS mS kS bS d) mC bC gS mS kS bS
end
def yp(S:de) (R:(Str->Bool)->Tr->Prop) (MD:List (Key×V)):Prop:=∀kv∈MD,∃i m:Nat,kv.1=.inl (i:Int)/\kv.2=.int (m:Int)/\i<S.N.length/\m<S.N.length/\(∀e,ev e (aq S.TS m)=true ↔ R e (aq S.TS i))/\aA S.N i<=aA S.N m
theorem yp.grow(h:yp S R MD)(g:cj S S')(hl:S.N.length=S.TS.length):yp S' R MD:=λkv aY=>by
 obtain⟨i,m,e1,e2,l1,l2,hv,hs⟩:=h kv aY
 have:=g.le
 refine⟨i,m,e1,e2,by lia,by lia,λe=>?_,?_⟩
 . rw[g.aq (by lia),g.aq (by lia)]
   exact hv e
 . rw[g.aA l1,g.aA l2]
   exact hs
def so(H H':Hp)(nd kn ch im ex md:Addr):Prop:=∀b o,H b=some o->b≠nd->b≠kn->b≠ch->b≠im->b≠ex->b≠md->H' b=some o
theorem so.of{H H':Hp}{nd kn ch im ex md:Addr}(k:Kp H H' nd kn ch im ex):so H H' nd kn ch im ex md:=λb o h h1 h2 h3 h4 h5 _=>k b o h h1 h2 h3 h4 h5
theorem so.trans(a:so H H1 nd kn ch im ex md)(b:so H1 H' nd kn ch im ex md):so H H' nd kn ch im ex md:=λc o h h1 h2 h3 h4 h5 h6=>b c o (a c o h h1 h2 h3 h4 h5 h6) h1 h2 h3 h4 h5 h6
inductive Oo(P:Program) (w:World) (C:Addr) (d:Nat) (vs:List V) (H:Hp) (Q:VK):Prop
 | mk (y dy nm sp nd kn ch im ex g md:Addr) (names G:List Str) (S:de) (gk MD:List (Key×V)) (n b:Nat) (h1:vs=[.ref y,.int (n:Int),.ref g,.ref md]) (h2:FO P w C H y dy nm sp nd kn ch im ex names S) (h3:n<S.N.length) (h4:(aq S.TS n).dep<d) (h5:H g=some (.dK gk)) (h6:H md=some (.dK MD)) (h7:md≠sp) (h8:md≠ex) (h9:g≠ex) (Ro:g≠md) (Yl:(∀z,(aG gk (.inr z)).isSome=true ↔ z∈G)) (Ym:yp S (oK G) MD) (NH:MD.length<=b) (h14:Bd S b) (QO:b+wc (aq S.TS n)<3000000) (Oj:∀(m:Nat) (S':de) (C5:List (Key×V)) (H':Hp),FO P w C H' y dy nm sp nd kn ch im ex names S'->H' md=some (.dK C5)->yp S' (oK G) C5->C5.length<=b+wc (aq S.TS n)->so H H' nd kn ch im ex md->cj S S'->Bd S' (b+wc (aq S.TS n))->S'.IM=S.IM->S'.EX=S.EX->m<S'.N.length->(∀e,ev e (aq S'.TS m)=true ↔ oK G e (aq S.TS n))->aA S.N n<=aA S'.N m->Q (.int (m:Int)) H'):Oo P w C d vs H Q
def Hr(P:Program)(w:World)(C:Addr)(d:Nat):Sp:=λvs H Q _=>Oo P w C d vs H Q
abbrev nWo:List Str:=["self", "number", "gone", "made", "node", "low", "high", "is_gone"]
abbrev xB:List Str:=["self", "number", "gone", "made"]
section
variable {P:Program}{w:World}{K:W.Frag}{mg:Str->Option Value}{base:Heap}{C:Addr}
theorem C6:aJ nWo xB (az rh):=fs
theorem Hs(F:aK K "without" "Forest.without" rh f fd)(T:hZ K mg C) (G0:ax P w K mg base aB (k+10) f fd xB (Hr P w C d)) (mW:Meth K C "without" f) (bW:Binds K fd xB [])
 (gN:ax P w K mg base aB 1 fN dN pf (oI P w C)) (mN:Meth K C "node" fN) (bN:Binds K dN pf [])
 (gC:ax P w K mg base aB 10 fC dC jW (iH P w C 9)) (mC:Meth K C "chosen" fC) (bC:Binds K dC jW []):ax P w K mg base aB (k+10+1) f fd xB (Hr P w C (d+1)):=by
 refine F.run C6 λcdv A outer s H vs Q E hr h=>?_
 . obtain⟨y,dy,nm,sp,nd,kn,ch,im,ex,g,md,names,G,S,gk,MD,n,b,rfl,hO,hn,hd,hg,qk,m1,m2,g1,g2,hG,hM,To,hB,hb,kk⟩:=h
   have hu:=eS hr
   have dq:aN 1 _:=hr.mono (by lia)
   have C7:aN 10 _:=hr.mono (by lia)
   refine⟨_,ai (cy (cU Ah (pv 1) ao (dz _)) (au (aL (pv 1))) ba)
    (ai (cy (gw (mm hu (pv 1) (pv 3)) (by with_unfolding_all rfl))
     (ai (aP 4 C6.nd (aI (r:=eC K) aS (aE (pv 0) rfl) (pv 1) (λ_ _=>rfl)))
     (ai (aP 5 C6.nd (bt (pv 0) T.cl mW G0 hr bW (aa (aI (r:=eu K) cg (pv 4) ao (λ_ _=>rfl)) (aa (pv 2) (aa (pv 3) ah)))))
     (ai (aP 6 C6.nd (bt (pv 0) T.cl mW G0 hr bW (aa (aI (r:=eu K) cg (pv 4) ao (λ_ _=>rfl)) (aa (pv 2) (aa (pv 3) ah)))))
     (ai (aP 7 C6.nd (Ih (pO hu (aI (r:=eC K) aS (aE (pv 0) rfl) (aI (r:=eu K) cg (pv 4) ao (λ_ _=>rfl)) (λ_ _=>rfl)) (pv 2)) (by with_unfolding_all rfl)))
     (au (eV hu (pv 3) (pv 1) (oa (ig (pv 7)) (bt (pv 0) T.cl mC gC C7 bC (aa (pv 5) (aa ao (aa (pv 6) ah)))) (bt (pv 0) T.cl mN gN dq bN (aa (aI (r:=eu K) cg (pv 4) ao (λ_ _=>rfl)) (aa (pv 5) (aa (pv 6) ah))))) rfl)))))) ba)
    (au (aL (cq hu (pv 3) (pv 1) (λ_ _=>rfl))))),?_⟩
   refine⟨_,rfl,_,_,rfl,rfl,_,rfl,?_⟩
   by_cases h2:n<2
   . refine di (aaN (by lia)) ⟨_,rfl,kk n S MD H hO qk hM (by lia) (.of ku) (.refl S) (hB.up (aaJ ..)) rfl rfl hn (λe=>?_) (aaf _)⟩
     have Ht:∃c,aq S.TS n=.leaf c:=by
      rcases (show n=0\/n=1 by lia) with rfl|rfl
      . exact⟨_,hO.fs.t0⟩
      . exact⟨_,hO.fs.t1⟩
     obtain⟨c,hc⟩:=Ht
     rw[hc,LY]
     exact Iff.rfl
   refine dw (aaH (by lia)) ?_
   refine⟨_,rfl,_,rfl,md,_,rfl,bq.k (k:=.inl (n:Int)) qk,_,rfl,?_⟩
   have jm:∀{v:V},aG MD (.inl (n:Int))=some v->Q v H:=λhv=>by
    obtain⟨i,m,e1,e2,l1,l2,Iu,hs⟩:=hM _ (iA hv)
    have ei:i=n:=by have:=afh e1;lia
    subst ei
    cases(show _=V.int (m:Int) from e2)
    exact kk m S MD H hO qk hM (by lia) (.of ku) (.refl S) (hB.up (aaJ ..)) rfl rfl l2 Iu hs
   cases hv:aG MD (.inl (n:Int)) with
   | some v=>
    refine dw rfl ⟨_,rfl,_,rfl,md,v,rfl,?_,jm hv⟩
    have:=bq.k (k:=.inl (n:Int)) qk
    rw[hv]at this
    exact this
   | none=>
    refine di rfl ?_
    obtain⟨a1,a2,a3,a4,a5,a6,a7⟩:=hO.fs.nd n (by lia) hn
    have yk:low S.N n<S.N.length:=by lia
    have Ci:dZ S.N n<S.N.length:=by lia
    have hwc:wc (aq S.TS n)=wc (aq S.TS (low S.N n))+wc (aq S.TS (dZ S.N n))+1100:=by rw[a7];rfl
    have LV:(aq S.TS n).dep=max (aq S.TS (low S.N n)).dep (aq S.TS (dZ S.N n)).dep+1:=by rw[a7];rfl
    obtain⟨t,h1,sq⟩:=hO.node hn
    have tJ:∀m∈["without", "chosen", "node"],(gq nm sp nd kn ch im ex).lookup (m:Str)=none:=λm hm=>by
     simp only[aaj,aat,adg]at hm
     rcases hm with rfl|rfl|rfl <;> exact pH _ _ _ _ _ _ _ dk dk dk dk dk dk dk
    have nW:=tJ "without" (by decide)
    have nC:=tJ "chosen" (by decide)
    have nN:=tJ "node" (by decide)
    refine⟨_,rfl,y,C,dy,_,_,rfl,hO.hy,T.cl,T.n3,oH ..,_,rfl,nd,_,_,.ref t,rfl,rfl,ar.of hO.hd,aF (by rw[aae,h1];rfl),?_⟩
    refine⟨_,rfl,y,dy,_,rfl,hO.hy,nW,_,rfl,t,_,1,_,rfl,rfl,aR.of sq,aF (j:=1) rfl,_,rfl,_,rfl,?_⟩
    refine⟨y,dy,nm,sp,nd,kn,ch,im,ex,g,md,names,G,S,gk,MD,low S.N n,b,rfl,hO,yk,by lia,hg,qk,m1,m2,g1,g2,hG,hM,To,hB,by lia,λn1 S1 Tq H1 aZ Mh kX Mi k1 xC B1 Ts Tt l1 e1 p1=>?_⟩
    have gl1:=xC.le
    have hlen:=hO.fs.len
    have kd:∀{Hx:Hp}{b:Addr}{M:List (Key×V)},so H Hx nd kn ch im ex md->H b=some (.dK M)->b≠ex->b≠md->Hx b=some (.dK M):=λk hb n1 n2=>k _ _ hb (aD hb hO.hd (by intro z;cases z)) (aD hb hO.hk (by intro z;cases z)) (aD hb hO.hc (by intro z;cases z)) (aD hb hO.hi (by intro z;cases z)) n1 n2
    have kt:∀{Hx:Hp}{b:Addr}{xs:List V},so H Hx nd kn ch im ex md->H b=some (.tup xs)->Hx b=some (.tup xs):=λk hb=>k _ _ hb (aD hb hO.hd (by intro z;cases z)) (aD hb hO.hk (by intro z;cases z)) (aD hb hO.hc (by intro z;cases z)) (aD hb hO.hi (by intro z;cases z)) (aD hb hO.he (by intro z;cases z)) (aD hb qk (by intro z;cases z))
    have th:aq S1.TS (dZ S.N n)=aq S.TS (dZ S.N n):=xC.aq (by lia)
    have sh:aA S1.N (dZ S.N n)=aA S.N (dZ S.N n):=xC.aA Ci
    refine⟨_,rfl,y,dy,_,rfl,aZ.hy,nW,_,rfl,t,_,2,_,rfl,rfl,aR.of (kt k1 sq),aF (j:=2) rfl,_,rfl,_,rfl,?_⟩
    refine⟨y,dy,nm,sp,nd,kn,ch,im,ex,g,md,names,G,S1,gk,Tq,dZ S.N n,b+wc (aq S.TS (low S.N n)),rfl,aZ,by lia,by rw[th];lia,kd k1 hg g1 g2,Mh,m1,m2,g1,g2,hG,kX,Mi,B1,by rw[th];lia,λn2 S2 C8 H2 eX Mj mQ Ml k2 zQ B2 Tu xD l2 e2 p2=>?_⟩
    rw[th]at Ml B2 e2
    rw[sh]at p2
    have tS:=k1.trans k2
    have Hu:=xC.trans zQ
    have YO:=zQ.le
    have Kz:n1<S2.N.length:=by lia
    have Oq:aq S2.TS n1=aq S1.TS n1:=zQ.aq (by rw[← aZ.fs.len];exact l1)
    have uQ:aA S2.N n1=aA S1.N n1:=zQ.aA l1
    have two:=eX.fs.two
    have ait:aA S2.N 1=names.length:=by unfold aA;rw[eX.fs.z1]
    have jd:(names.map V.str)[aA S.N n]?=some (.str (names.getD (aA S.N n) "")):=by rw[aae,aai,aab a1];rfl
    have CY:=kd tS hg g1 g2
    refine⟨_,rfl,y,C,dy,_,_,rfl,eX.hy,T.cl,T.n1,GN ..,_,rfl,t,_,0,_,rfl,rfl,aR.of (kt tS sq),aF (j:=0) rfl,nm,_,_,.str (names.getD (aA S.N n) ""),rfl,rfl,ar.of eX.hn,aF jd,_,rfl,g,_,rfl,bq.k (k:=.inr (names.getD (aA S.N n) "")) CY,?_⟩
    have ln:names.getD (aA S.N n) "" ∉ names.drop (aA S.N n+1):=by
     have h3:=hO.nn
     rw[← adM (aA S.N n) names,ad3 a1]at h3
     have h4:=(aau.mp h3).2.1
     rw[aai,aab a1]
     exact(aaP.mp h4).1
    have cl:eW (names.drop (aA S.N n+1)) (aq S.TS (low S.N n)):=iG (hO.fs.zH hO.nn _ yk) a5
    have cr:eW (names.drop (aA S.N n+1)) (aq S.TS (dZ S.N n)):=iG (hO.fs.zH hO.nn _ Ci) a6
    have fin:∀(m:Nat) (S3:de) (H3:Hp),FO P w C H3 y dy nm sp nd kn ch im ex names S3->Kp H2 H3 nd kn ch im ex->cj S2 S3->Bd S3 (b+wc (aq S.TS n))->S3.IM=S2.IM->S3.EX=S2.EX->m<S3.N.length->(∀e,ev e (aq S3.TS m)=true ↔ oK G e (aq S.TS n))->aA S.N n<=aA S3.N m->
     ∃a H4,V.ref md=.ref a/\gh H3 a (.int (n:Int)) (.int (m:Int)) H4/\(K9 (FV (d6 3) (d6 1))) {nx:=λ_ H'=>Q .aV H',rt:=Q} ((((([some (.ref y),some (.int (n:Int)),some (.ref g),some (.ref md),some (.ref t),some (.int (n1:Int)),some (.int (n2:Int)),some (.bl (aG gk (.inr (names.getD (aA S.N n) ""))).isSome)]:St))))) H4:=by
     intro m S3 H3 jz k3 qo B3 tT pq l3 KA SD
     have C9:=eX.dk Mj m2 k3
     have rF:=Hu.trans qo
     have gl3:=rF.le
     have lp:=jz.putD (M':=putK C8 (.inl (n:Int)) (.int (m:Int))) C9 m1 m2
     refine⟨md,_,rfl,gh.k (k:=.inl (n:Int)) C9 (big (by lia)),?_⟩
     refine⟨_,rfl,_,rfl,md,.int (m:Int),rfl,?_,?_⟩
     . have:=bq.k (k:=.inl (n:Int)) (show (upd H3 md (.dK (putK C8 (.inl (n:Int)) (.int (m:Int))))) md=some (.dK (putK C8 (.inl (n:Int)) (.int (m:Int)))) from af)
       rw[gJ,aaF rfl]at this
       exact this
     refine kk m S3 _ _ lp af (λkv aY=>?_) (aam (fh _ _ _) (by lia)) ((tS.trans (.of k3)).trans λc o hc _ _ _ _ _ n6=>by rw[ag n6];exact hc) rF B3 (tT.trans (Tu.trans Ts)) (pq.trans (xD.trans Tt)) l3 KA SD
     rcases qZ aY with aY|aY
     . exact(mQ.grow qo eX.fs.len) kv aY
     . subst aY
       exact⟨n,m,rfl,rfl,by lia,l3,λe=>by rw[rF.aq (i:=n) (by lia)];exact KA e,by rw[rF.aA hn];exact SD⟩
    have hc9:cst 9=1022:=rfl
    have n8:=hO.n8
    by_cases hin:names.getD (aA S.N n) "" ∈ G
    . refine⟨_,rfl,_,rfl,di ((hG _).mpr hin) ?_⟩
      refine⟨_,rfl,y,dy,_,rfl,eX.hy,nC,_,rfl,_,rfl,?_⟩
      refine⟨y,dy,nm,sp,nd,kn,ch,im,ex,names,S2,n1,1,n2,b+wc (aq S.TS (low S.N n))+wc (aq S.TS (dZ S.N n)),rfl,eX,Kz,by lia,l2,by lia,B2,by lia,λm S3 H3 jz k3 qo B3 tT pq l3 e3 p3=>⟨_,rfl,_,rfl,fin m S3 H3 jz k3 qo (B3.up (by lia)) tT pq l3 (λe=>?_) (by lia)⟩⟩
      rw[e3 e,Oq,eX.fs.t1,a7,SK hin ln cl cr,← e1 e,← e2 e,show ev e (Tr.leaf true)=true from rfl]
      cases ev e (aq S1.TS n1) <;> cases ev e (aq S2.TS n2) <;> decide
    . have BV:(aG gk (.inr (names.getD (aA S.N n) ""))).isSome=false:=by
       cases h:(aG gk (.inr (names.getD (aA S.N n) ""))).isSome
       . rfl
       . exact absurd ((hG _).mp h) hin
      refine⟨_,rfl,_,rfl,dw BV ?_⟩
      refine⟨_,rfl,y,dy,_,rfl,eX.hy,nN,_,rfl,t,_,0,_,rfl,rfl,aR.of (kt tS sq),aF (j:=0) rfl,_,rfl,_,rfl,?_⟩
      refine⟨y,dy,nm,sp,nd,kn,ch,im,ex,names,S2,aA S.N n,n1,n2,b+wc (aq S.TS (low S.N n))+wc (aq S.TS (dZ S.N n)),rfl,eX,a1,Kz,l2,by lia,by lia,B2,by lia,λm S3 H3 jz k3 qo B3 _ tT pq l3 p3 t3=>⟨_,rfl,_,rfl,fin m S3 H3 jz k3 qo (B3.up (by lia)) tT pq l3 (λe=>?_) p3⟩⟩
      have e7:ev e (aq S3.TS m)=if e (names.getD (aA S.N n) "")=true then ev e (aq S2.TS n2) else ev e (aq S2.TS n1):=by
       rw[t3]
       by_cases z:n1=n2
       . rw[aaF z,z]
         split <;> rfl
       . rw[aaz z]
         rfl
      rw[e7,a7,P4 hin,Oq]
      cases e (names.getD (aA S.N n) "")
      . rw[aaz (by decide),aaz (by decide)]
        exact e1 e
      . rw[aaF rfl,aaF rfl]
        exact e2 e
end
abbrev pw:Stmt:=inClass (top 7) 8
def kz(z:Str):Tr->Prop
 | .leaf _=>False
 | .node n l r=>z=n\/kz z l\/kz z r
def oS(R:Str->Option Tr)(e:Str->Bool):Str->Bool:=λn=>match R n with|some t=>ev e t|none=>e n
def yq(S:de)(R:Str->Option Tr) (MD:List (Key×V)):Prop:=∀kv∈MD,∃i m:Nat,kv.1=.inl (i:Int)/\kv.2=.int (m:Int)/\i<S.N.length/\m<S.N.length/\(∀e,ev e (aq S.TS m)=ev (oS R e) (aq S.TS i))/\∀z,kz z (aq S.TS i)->(R z).isSome=true
theorem yq.grow(h:yq S R MD)(g:cj S S')(hl:S.N.length=S.TS.length):yq S' R MD:=λkv aY=>by
 obtain⟨i,m,e1,e2,l1,l2,hv,ho⟩:=h kv aY
 have:=g.le
 refine⟨i,m,e1,e2,by lia,by lia,λe=>?_,λz hz=>ho z (by rw[g.aq (by lia)]at hz;exact hz)⟩
 rw[g.aq (by lia),g.aq (by lia)]
 exact hv e
def Dc(S:de)(R:Str->Option Tr) (gk:List (Key×V)):Prop:=∀z,match R z with|some t=>∃i:Nat,aG gk (.inr z)=some (.int (i:Int))/\i<S.N.length/\aq S.TS i=t|none=>aG gk (.inr z)=none
theorem Dc.grow(h:Dc S R gk)(g:cj S S')(hl:S.N.length=S.TS.length):Dc S' R gk:=λz=>by
 have hz:=h z
 have:=g.le
 cases e:R z with
 | none=>rw[e]at hz;exact hz
 | some t=>
  rw[e]at hz
  obtain⟨i,h1,h2,h3⟩:=hz
  exact⟨i,h1,by lia,by rw[g.aq (by lia)];exact h3⟩
inductive Ot(P:Program) (w:World) (C:Addr) (d:Nat) (vs:List V) (H:Hp) (Q:VK):Prop
 | mk (y dy nm sp nd kn ch im ex g md:Addr) (names:List Str) (R:Str->Option Tr) (S:de) (gk MD:List (Key×V)) (n b:Nat) (h1:vs=[.ref y,.int (n:Int),.ref g,.ref md]) (h2:FO P w C H y dy nm sp nd kn ch im ex names S) (h3:n<S.N.length) (h4:(aq S.TS n).dep<d) (h5:(∀z,kz z (aq S.TS n)->(R z).isSome=true)) (h6:H g=some (.dK gk)) (h7:H md=some (.dK MD)) (h8:md≠sp) (h9:md≠ex) (Ro:g≠ex) (Yl:g≠md) (Ym:Dc S R gk) (NH:yq S R MD) (h14:MD.length<=b) (QO:Bd S b) (Oj:b+wc (aq S.TS n)<3000000) (h17:∀(m:Nat) (S':de) (C5:List (Key×V)) (H':Hp),FO P w C H' y dy nm sp nd kn ch im ex names S'->H' md=some (.dK C5)->yq S' R C5->C5.length<=b+wc (aq S.TS n)->so H H' nd kn ch im ex md->cj S S'->Bd S' (b+wc (aq S.TS n))->S'.IM=S.IM->S'.EX=S.EX->m<S'.N.length->(∀e,ev e (aq S'.TS m)=ev (oS R e) (aq S.TS n))->Q (.int (m:Int)) H'):Ot P w C d vs H Q
def Hw(P:Program)(w:World)(C:Addr)(d:Nat):Sp:=λvs H Q _=>Ot P w C d vs H Q
abbrev nRe:List Str:=["self", "number", "trees", "made", "node", "low", "high", "name"]
abbrev xE:List Str:=["self", "number", "trees", "made"]
section
variable {P:Program}{w:World}{K:W.Frag}{mg:Str->Option Value}{base:Heap}{C:Addr}
theorem De:aJ nRe xE (az pw):=fs
theorem D6(F:aK K "replaced" "Forest.replaced" pw f fd)(T:hZ K mg C) (G0:ax P w K mg base aB (k+10) f fd xE (Hw P w C d)) (mW:Meth K C "replaced" f) (bW:Binds K fd xE [])
 (gL:ax P w K mg base aB 2 fL dL ["self", "name"] (xl P w C)) (mL:Meth K C "leaf_of" fL) (bL:Binds K dL ["self", "name"] [])
 (gC:ax P w K mg base aB 10 fC dC jW (iH P w C 9)) (mC:Meth K C "chosen" fC) (bC:Binds K dC jW []):ax P w K mg base aB (k+10+1) f fd xE (Hw P w C (d+1)):=by
 refine F.run De λcdv A outer s H vs Q E hr h=>?_
 . obtain⟨y,dy,nm,sp,nd,kn,ch,im,ex,g,md,names,R,S,gk,MD,n,b,rfl,hO,hn,hd,yH,hg,qk,m1,m2,g1,g2,hG,hM,To,hB,hb,kk⟩:=h
   have hu:=eS hr
   have mJ:aN 2 _:=hr.mono (by lia)
   have C7:aN 10 _:=hr.mono (by lia)
   refine⟨_,ai (cy (cU Ah (pv 1) ao (dz _)) (au (aL (pv 1))) ba)
    (ai (cy (gw (mm hu (pv 1) (pv 3)) (by with_unfolding_all rfl))
     (ai (aP 4 De.nd (aI (r:=eC K) aS (aE (pv 0) rfl) (pv 1) (λ_ _=>rfl)))
     (ai (aP 5 De.nd (bt (pv 0) T.cl mW G0 hr bW (aa (aI (r:=eu K) cg (pv 4) ao (λ_ _=>rfl)) (aa (pv 2) (aa (pv 3) ah)))))
     (ai (aP 6 De.nd (bt (pv 0) T.cl mW G0 hr bW (aa (aI (r:=eu K) cg (pv 4) ao (λ_ _=>rfl)) (aa (pv 2) (aa (pv 3) ah)))))
     (ai (aP 7 De.nd (aI (r:=eC K) aS (aE (pv 0) rfl) (aI (r:=eu K) cg (pv 4) ao (λ_ _=>rfl)) (λ_ _=>rfl)))
     (au (eV hu (pv 3) (pv 1) (bt (pv 0) T.cl mC gC C7 bC (aa (oa (gw (pO hu (pv 7) (pv 2)) (by with_unfolding_all rfl)) (cq hu (pv 2) (pv 7) (λ_ _=>rfl)) (bt (pv 0) T.cl mL gL mJ bL (aa (pv 7) ah))) (aa (pv 6) (aa (pv 5) ah)))) rfl)))))) ba)
    (au (aL (cq hu (pv 3) (pv 1) (λ_ _=>rfl))))),?_⟩
   refine⟨_,rfl,_,_,rfl,rfl,_,rfl,?_⟩
   by_cases h2:n<2
   . refine di (aaN (by lia)) ⟨_,rfl,kk n S MD H hO qk hM (by lia) (.of ku) (.refl S) (hB.up (aaJ ..)) rfl rfl hn (λe=>?_)⟩
     have Ht:∃c,aq S.TS n=.leaf c:=by
      rcases (show n=0\/n=1 by lia) with rfl|rfl
      . exact⟨_,hO.fs.t0⟩
      . exact⟨_,hO.fs.t1⟩
     obtain⟨c,hc⟩:=Ht
     rw[hc]
     rfl
   refine dw (aaH (by lia)) ?_
   refine⟨_,rfl,_,rfl,md,_,rfl,bq.k (k:=.inl (n:Int)) qk,_,rfl,?_⟩
   have jm:∀{v:V},aG MD (.inl (n:Int))=some v->Q v H:=λhv=>by
    obtain⟨i,m,e1,e2,l1,l2,Iu,_⟩:=hM _ (iA hv)
    have ei:i=n:=by have:=afh e1;lia
    subst ei
    cases(show _=V.int (m:Int) from e2)
    exact kk m S MD H hO qk hM (by lia) (.of ku) (.refl S) (hB.up (aaJ ..)) rfl rfl l2 Iu
   cases hv:aG MD (.inl (n:Int)) with
   | some v=>
    refine dw rfl ⟨_,rfl,_,rfl,md,v,rfl,?_,jm hv⟩
    have:=bq.k (k:=.inl (n:Int)) qk
    rw[hv]at this
    exact this
   | none=>
    refine di rfl ?_
    obtain⟨a1,a2,a3,a4,a5,a6,a7⟩:=hO.fs.nd n (by lia) hn
    have yk:low S.N n<S.N.length:=by lia
    have Ci:dZ S.N n<S.N.length:=by lia
    have hwc:wc (aq S.TS n)=wc (aq S.TS (low S.N n))+wc (aq S.TS (dZ S.N n))+1100:=by rw[a7];rfl
    have LV:(aq S.TS n).dep=max (aq S.TS (low S.N n)).dep (aq S.TS (dZ S.N n)).dep+1:=by rw[a7];rfl
    obtain⟨t,h1,sq⟩:=hO.node hn
    have tJ:∀m∈["replaced", "chosen", "leaf_of"],(gq nm sp nd kn ch im ex).lookup (m:Str)=none:=λm hm=>by
     simp only[aaj,aat,adg]at hm
     rcases hm with rfl|rfl|rfl <;> exact pH _ _ _ _ _ _ _ dk dk dk dk dk dk dk
    have nW:=tJ "replaced" (by decide)
    have nC:=tJ "chosen" (by decide)
    have nL:=tJ "leaf_of" (by decide)
    refine⟨_,rfl,y,C,dy,_,_,rfl,hO.hy,T.cl,T.n3,oH ..,_,rfl,nd,_,_,.ref t,rfl,rfl,ar.of hO.hd,aF (by rw[aae,h1];rfl),?_⟩
    refine⟨_,rfl,y,dy,_,rfl,hO.hy,nW,_,rfl,t,_,1,_,rfl,rfl,aR.of sq,aF (j:=1) rfl,_,rfl,_,rfl,?_⟩
    refine⟨y,dy,nm,sp,nd,kn,ch,im,ex,g,md,names,R,S,gk,MD,low S.N n,b,rfl,hO,yk,by lia,(λz hz=>yH z (by rw[a7];exact .inr (.inl hz))),hg,qk,m1,m2,g1,g2,hG,hM,To,hB,by lia,λn1 S1 Tq H1 aZ Mh kX Mi k1 xC B1 Ts Tt l1 e1=>?_⟩
    have gl1:=xC.le
    have hlen:=hO.fs.len
    have kd:∀{Hx:Hp}{b:Addr}{M:List (Key×V)},so H Hx nd kn ch im ex md->H b=some (.dK M)->b≠ex->b≠md->Hx b=some (.dK M):=λk hb n1 n2=>k _ _ hb (aD hb hO.hd (by intro z;cases z)) (aD hb hO.hk (by intro z;cases z)) (aD hb hO.hc (by intro z;cases z)) (aD hb hO.hi (by intro z;cases z)) n1 n2
    have kt:∀{Hx:Hp}{b:Addr}{xs:List V},so H Hx nd kn ch im ex md->H b=some (.tup xs)->Hx b=some (.tup xs):=λk hb=>k _ _ hb (aD hb hO.hd (by intro z;cases z)) (aD hb hO.hk (by intro z;cases z)) (aD hb hO.hc (by intro z;cases z)) (aD hb hO.hi (by intro z;cases z)) (aD hb hO.he (by intro z;cases z)) (aD hb qk (by intro z;cases z))
    have th:aq S1.TS (dZ S.N n)=aq S.TS (dZ S.N n):=xC.aq (by lia)
    refine⟨_,rfl,y,dy,_,rfl,aZ.hy,nW,_,rfl,t,_,2,_,rfl,rfl,aR.of (kt k1 sq),aF (j:=2) rfl,_,rfl,_,rfl,?_⟩
    refine⟨y,dy,nm,sp,nd,kn,ch,im,ex,g,md,names,R,S1,gk,Tq,dZ S.N n,b+wc (aq S.TS (low S.N n)),rfl,aZ,by lia,by rw[th];lia,(λz hz=>yH z (by rw[th]at hz;rw[a7];exact .inr (.inr hz))),kd k1 hg g1 g2,Mh,m1,m2,g1,g2,hG.grow xC hlen,kX,Mi,B1,by rw[th];lia,λn2 S2 C8 H2 eX Mj mQ Ml k2 zQ B2 Tu xD l2 e2=>?_⟩
    rw[th]at Ml B2 e2
    have tS:=k1.trans k2
    have Hu:=xC.trans zQ
    have YO:=zQ.le
    have Kz:n1<S2.N.length:=by lia
    have Oq:aq S2.TS n1=aq S1.TS n1:=zQ.aq (by rw[← aZ.fs.len];exact l1)
    have ky:=hG.grow Hu hlen
    have jd:(names.map V.str)[aA S.N n]?=some (.str (names.getD (aA S.N n) "")):=by rw[aae,aai,aab a1];rfl
    have Tv:names[aA S.N n]?=some (names.getD (aA S.N n) ""):=by rw[aai,aab a1];rfl
    have CY:=kd tS hg g1 g2
    refine⟨_,rfl,y,C,dy,_,_,rfl,eX.hy,T.cl,T.n1,GN ..,_,rfl,t,_,0,_,rfl,rfl,aR.of (kt tS sq),aF (j:=0) rfl,nm,_,_,.str (names.getD (aA S.N n) ""),rfl,rfl,ar.of eX.hn,aF jd,?_⟩
    have fin:∀(m:Nat) (S3:de) (H3:Hp),FO P w C H3 y dy nm sp nd kn ch im ex names S3->Kp H2 H3 nd kn ch im ex->cj S2 S3->Bd S3 (b+wc (aq S.TS n))->S3.IM=S2.IM->S3.EX=S2.EX->m<S3.N.length->(∀e,ev e (aq S3.TS m)=ev (oS R e) (aq S.TS n))->
     ∃a H4,V.ref md=.ref a/\gh H3 a (.int (n:Int)) (.int (m:Int)) H4/\(K9 (FV (d6 3) (d6 1))) {nx:=λ_ H'=>Q .aV H',rt:=Q} ([some (.ref y),some (.int (n:Int)),some (.ref g),some (.ref md),some (.ref t),some (.int (n1:Int)),some (.int (n2:Int)),some (.str (names.getD (aA S.N n) ""))]:St) H4:=by
     intro m S3 H3 jz k3 qo B3 tT pq l3 KA
     have C9:=eX.dk Mj m2 k3
     have rF:=Hu.trans qo
     have gl3:=rF.le
     have lp:=jz.putD (M':=putK C8 (.inl (n:Int)) (.int (m:Int))) C9 m1 m2
     refine⟨md,_,rfl,gh.k (k:=.inl (n:Int)) C9 (big (by lia)),?_⟩
     refine⟨_,rfl,_,rfl,md,.int (m:Int),rfl,?_,?_⟩
     . have:=bq.k (k:=.inl (n:Int)) (show (upd H3 md (.dK (putK C8 (.inl (n:Int)) (.int (m:Int))))) md=some (.dK (putK C8 (.inl (n:Int)) (.int (m:Int)))) from af)
       rw[gJ,aaF rfl]at this
       exact this
     refine kk m S3 _ _ lp af (λkv aY=>?_) (aam (fh _ _ _) (by lia)) ((tS.trans (.of k3)).trans λc o hc _ _ _ _ _ n6=>by rw[ag n6];exact hc) rF B3 (tT.trans (Tu.trans Ts)) (pq.trans (xD.trans Tt)) l3 KA
     rcases qZ aY with aY|aY
     . exact(mQ.grow qo eX.fs.len) kv aY
     . subst aY
       exact⟨n,m,rfl,rfl,by lia,l3,λe=>by rw[rF.aq (i:=n) (by lia)];exact KA e,λz hz=>yH z (by rw[rF.aq (i:=n) (by lia)]at hz;exact hz)⟩
    have hc9:cst 9=1022:=rfl
    have n8:=hO.n8
    refine⟨_,rfl,y,dy,_,rfl,eX.hy,nC,_,rfl,_,rfl,g,_,rfl,bq.k (k:=.inr (names.getD (aA S.N n) "")) CY,_,rfl,?_⟩
    have Zb:∀e,ev (oS R e) (aq S.TS n)=if oS R e (names.getD (aA S.N n) "")=true then ev e (aq S2.TS n2) else ev e (aq S2.TS n1):=λe=>by
     rw[a7,e2 e,Oq,e1 e]
     rfl
    have hz:=ky (names.getD (aA S.N n) "")
    cases hR:R (names.getD (aA S.N n) "") with
    | some tr=>
     rw[hR]at hz
     obtain⟨i,Zc,zy,NT⟩:=hz
     refine di (by rw[Zc];rfl) ⟨_,rfl,_,rfl,g,.int (i:Int),rfl,?_,?_⟩
     . have:=bq.k (k:=.inr (names.getD (aA S.N n) "")) CY
       rw[Zc]at this
       exact this
     refine⟨_,rfl,_,rfl,y,dy,nm,sp,nd,kn,ch,im,ex,names,S2,i,n2,n1,b+wc (aq S.TS (low S.N n))+wc (aq S.TS (dZ S.N n)),rfl,eX,zy,l2,Kz,by lia,B2,by lia,λm S3 H3 jz k3 qo B3 tT pq l3 e3 p3=>⟨_,rfl,_,rfl,fin m S3 H3 jz k3 qo (B3.up (by lia)) tT pq l3 (λe=>?_)⟩⟩
     rw[e3 e,NT,Zb e,show oS R e (names.getD (aA S.N n) "")=ev e tr by unfold oS;rw[hR]]
    | none=>
     rw[hR]at hz
     refine dw (by rw[show aG gk (.inr (names.getD (aA S.N n) ""))=none from hz];rfl) ?_
     refine⟨_,rfl,y,dy,_,rfl,eX.hy,nL,_,rfl,y,dy,nm,sp,nd,kn,ch,im,ex,names,S2,names.getD (aA S.N n) "",aA S.N n,b+wc (aq S.TS (low S.N n))+wc (aq S.TS (dZ S.N n)),rfl,eX,Tv,B2,by lia,λi S5 H5 lg k5 Ou B5 im5 ex5 l5 t5=>?_⟩
     have gl5:=Ou.le
     have tn2:aq S5.TS n2=aq S2.TS n2:=Ou.aq (by rw[← eX.fs.len];exact l2)
     have tn1:aq S5.TS n1=aq S2.TS n1:=Ou.aq (by rw[← eX.fs.len];exact Kz)
     refine⟨_,rfl,_,rfl,y,dy,nm,sp,nd,kn,ch,im,ex,names,S5,i,n2,n1,b+wc (aq S.TS (low S.N n))+wc (aq S.TS (dZ S.N n))+1,rfl,lg,l5,by lia,by lia,by lia,B5,by lia,λm S3 H3 jz k3 qo B3 tT pq l3 e3 p3=>⟨_,rfl,_,rfl,fin m S3 H3 jz (k5.trans k3) (Ou.trans qo) (B3.up (by lia)) (tT.trans im5) (pq.trans ex5) l3 (λe=>?_)⟩⟩
     rw[e3 e,t5,tn2,tn1,Zb e,show oS R e (names.getD (aA S.N n) "")=e (names.getD (aA S.N n) "") by unfold oS;rw[hR]]
     show (if (if e _=true then true else false)=true then _ else _)=_
     cases e (names.getD (aA S.N n) "") <;> rfl
end
abbrev vD:Stmt:=inClass (top 7) 10
theorem Df(h:∀z,kz z t->e z=e' z):ev e t=ev e' t:=by
 induction t with
 | leaf b=>rfl
 | node n l r J2 J4=>
  unfold ev
  rw[h n (.inl rfl),J2 λz hz=>h z (.inr (.inl hz)),J4 λz hz=>h z (.inr (.inr hz))]
theorem Qf(h:eW ns t):∀z,kz z t->z∈ns:=by
 induction h with
 | leaf=>exact λz hz=>hz.elim
 | node _ _ _ J2 J4=>
  rintro z (rfl|h|h)
  . exact aas
  . exact aav _ (J2 z h)
  . exact aav _ (J4 z h)
 | skip _ ih=>exact λz hz=>aav _ (ih z hz)
theorem vF:∀(m:Nat) (l:List Nat),l.Nodup->(∀x∈l,x<m)->l.length<=m
 | 0,l,_,h=>by
  cases l with
  | nil=>exact aaf _
  | cons x r=>exact absurd (h x aas) (adE _)
 | m+1,l,nd,h=>by
  have h1:=vF m (l.erase m) (nd.erase m) λx hx=>by
   have hm:=(nd.mem_erase_iff).mp hx
   have:=h x hm.2
   have:=hm.1
   lia
  rw[List.length_erase]at h1
  split at h1 <;> lia
def iV(i:Nat):V:=.int (i:Int)
def m7(i:Nat):Key×V:=(.inl (i:Int),.bl true)
theorem Mm{se:List Nat}{i:Nat}(h:aG (se.map m7) (.inl (i:Int))=none):i∉se:=λhm=>lN h (m7 i) (aal.mpr ⟨i,hm,rfl⟩) rfl
theorem Mn{se:List Nat}{i:Nat}{v:V}(h:aG (se.map m7) (.inl (i:Int))=some v):i∈se:=by
 obtain⟨j,hj,e⟩:=aal.mp (iA h)
 have:(j:Int)=(i:Int):=afh (afJ e).1
 have:j=i:=by lia
 exact this ▸ hj
inductive xF(P:Program) (w:World) (C:Addr) (vs:List V) (H:Hp) (Q:VK):Prop
 | mk (y dy nm sp nd kn ch im ex:Addr) (names:List Str) (S:de) (n:Nat) (h1:vs=[.ref y,.int (n:Int)]) (h2:FO P w C H y dy nm sp nd kn ch im ex names S) (h3:n<S.N.length) (h4:S.N.length<3000000) (h5:∀(d:Addr) (F:List (Key×V)) (H':Hp),ak H H'->H d=none->H' d=some (.dK F)->(∀z,bo F z ↔ kz z (aq S.TS n))->(∀kv∈F,∃z,kv.1=.inr z)->(F.map (·.1)).Nodup->Q (.ref d) H'):xF P w C vs H Q
def zR(P:Program)(w:World)(C:Addr):Sp:=λvs H Q _=>xF P w C vs H Q
abbrev nNi:List Str:=["self", "number", "found", "seen", "waiting", "node"]
def Tw(H3:Hp)(y fd sd wd:Addr)(names:List Str)(S:de)(n:Nat)(k:Nat)(σ:St)(Hx:Hp):Prop:=∃(F:List (Key×V)) (se W:List Nat) (v1 v5:Option V),k=3*(S.N.length-se.length)+W.length/\σ=[some (.ref y),v1,some (.ref fd),some (.ref sd),some (.ref wd),v5]/\
 (∀b u,H3 b=some u->b≠fd->b≠sd->b≠wd->Hx b=some u)/\Hx fd=some (.dK F)/\Hx sd=some (.dK (se.map m7))/\Hx wd=some (.lst (W.map iV))/\se.Nodup/\W.length<=1+se.length/\F.length<=se.length/\
 (∀i∈W,i<S.N.length/\∀z,kz z (aq S.TS i)->kz z (aq S.TS n))/\
 (∀i∈se,2<=i/\i<S.N.length/\(∀z,kz z (aq S.TS i)->kz z (aq S.TS n))/\bo F (names.getD (aA S.N i) "")/\(low S.N i<2\/low S.N i∈se\/low S.N i∈W)/\(dZ S.N i<2\/dZ S.N i∈se\/dZ S.N i∈W))/\
 (n<2\/n∈se\/n∈W)/\(∀z,bo F z->kz z (aq S.TS n))/\(∀kv∈F,∃z,kv.1=.inr z)/\(F.map (·.1)).Nodup
theorem HA{F:List (Key×V)}{k:Key}{v:V}(h:(F.map (·.1)).Nodup):((putK F k v).map (·.1)).Nodup:=by
 cases e:aG F k with
 | none=>
  rw[i5 v e,aah,aau]
  refine⟨h,by simp,λa ha b hb q=>?_⟩
  obtain⟨kv,hk,rfl⟩:=aal.mp ha
  have:b=k:=by simpa using hb
  exact lN e kv hk (q.trans this)
 | some x=>
  unfold putK
  rw[aaF (by rw[lG,e];rfl),adV]
  have:((λx:Key×V=>x.1)∘λkv=>if kv.1=k then (kv.1,v) else kv)=(·.1):=by
   funext kv
   show (if kv.1=k then (kv.1,v) else kv).1=kv.1
   split <;> rfl
  rw[this]
  exact h
section
variable {P:Program}{w:World}{K:W.Frag}{mg:Str->Option Value}{base:Heap}{C:Addr}
theorem yr:aJ nNi ["self", "number"] (az vD):=fs
theorem D7{f:Addr}{fd:FuncData}(F:aK K "names_in" "Forest.names_in" vD f fd)(T:hZ K mg C)(O2:iD mg):ax P w K mg base aB 1 f fd ["self", "number"] (zR P w C):=by
 refine F.run yr λcdv A outer s H vs Q E hr h=>?_
 . obtain⟨y,dy,nm,sp,nd,kn,ch,im,ex,names,S,n,rfl,hO,hn,hN,kk⟩:=h
   have hu:=eS hr
   refine⟨_,ai (aP 2 yr.nd lH)
    (ai (aP 3 yr.nd lH)
    (ai (aP 4 yr.nd (cY (aa (pv 1) ah)))
    (ai (u9 ac7 (cU Ai (bf bw (by rfl) O2.len adm (aa (pv 4) ah)) ao (dz _))
     (ai (aP 1 yr.nd (IH aaL PySem.F.slot_list_pop PySem.F.type_list_pop Q1 (pv 4)))
     (au (cy (PW.pt (Ii (cU Ai (pv 1) ao (dz _)) (Ec (gw (mm hu (pv 1) (pv 3)) (by with_unfolding_all rfl)))))
      (ai (eV hu (pv 3) (pv 1) gZ rfl)
      (ai (aP 5 yr.nd (aI (r:=eC K) aS (aE (pv 0) rfl) (pv 1) (λ_ _=>rfl)))
      (ai (eV hu (pv 2) (aI (r:=eC K) aS (aE (pv 0) rfl) (aI (r:=eu K) cg (pv 5) ao (λ_ _=>rfl)) (λ_ _=>rfl)) gZ rfl)
      (au (eI (ft aaL PySem.F.slot_list_extend PySem.F.type_list_extend II (pv 4) (aa (cY (aa (aI (r:=eu K) cg (pv 5) ao (λ_ _=>rfl)) (aa (aI (r:=eu K) cg (pv 5) ao (λ_ _=>rfl)) ah))) ah))))))) ba))))
    (au (aL (pv 2)))))),?_⟩
   refine λfd Ov=>?_
   have s1:ak H (upd H fd (.dK [])):=ak.av Ov
   have q1:(upd H fd (.dK [])) fd=some (.dK []):=af
   show eR _ _ _ _ (upd H fd (.dK []))
   generalize upd H fd (.dK [])=H1 at s1 q1 ⊢
   refine λsd Tx=>?_
   have s2:ak H1 (upd H1 sd (.dK [])):=ak.av Tx
   have q2:(upd H1 sd (.dK [])) sd=some (.dK []):=af
   have fs:fd≠sd:=ae q1 Tx
   show eR _ _ _ _ (upd H1 sd (.dK []))
   generalize upd H1 sd (.dK [])=H2 at s2 q2 ⊢
   refine⟨_,rfl,(by show 1<=sizeLine;decide),λwd Ow=>?_⟩
   have s3:ak H2 (upd H2 wd (.lst [.int (n:Int)])):=ak.av Ow
   have q3:(upd H2 wd (.lst [.int (n:Int)])) wd=some (.lst [.int (n:Int)]):=af
   have fw:fd≠wd:=ae (s2 _ _ q1) Ow
   have sw:sd≠wd:=ae q2 Ow
   show eR _ _ _ _ (upd H2 wd (.lst [.int (n:Int)]))
   generalize upd H2 wd (.lst [.int (n:Int)])=H3 at s3 q3 ⊢
   have ox:=s1.trans (s2.trans s3)
   have back:∀{Hy:Hp}{b:Addr},ak H Hy->Hy b=none->H b=none:=λ{Hy} {b} s h=>by
    cases e:H b with
    | none=>rfl
    | some o=>rw[s _ _ e]at h;cases h
   have Zd:H sd=none:=back s1 Tx
   have fwd:H wd=none:=back (s1.trans s2) Ow
   have jz:=hO.same ox
   refine⟨λk σ Hx=>Tw H3 y fd sd wd names S n k σ Hx,⟨_,[],[],[n],some (.int (n:Int)),none,rfl,rfl,λ_ _ h _ _ _=>h,s3 _ _ (s2 _ _ q1),s3 _ _ q2,q3,adN,aaf _,aaf _,(λi hi=>by rw[aaC.mp hi];exact⟨hn,λ_ h=>h⟩),(λi hi=>nomatch hi),.inr (.inr (agh _)),(λz hz=>by cases hz),(λkv hk=>nomatch hk),adN⟩,?_⟩
   rintro k σ Hx ⟨F,se,W,v1,v5,rfl,rfl,kx,hF,hS,hW,Fj,wl,fl,iW,iS,iR,iF,iK,iN⟩
   refine⟨_,rfl,wd,_,rfl,.inl (ar.of hW),_,_,rfl,rfl,_,rfl,?_⟩
   have lse:se.length<=S.N.length:=vF _ _ Fj λi hi=>(iS i hi).2.1
   have Tz:∀{b:Addr}{u:HO},H b=some u->Hx b=some u:=λhb=>kx _ _ (ox _ _ hb) (ae hb Ov) (ae hb Zd) (ae hb fwd)
   refine kM (λhgt=>?_) (λhle=>?_)
   . have TB:0<W.length:=by
      have:=adh hgt
      rw[aaa]at this
      lia
     have HB:W[W.length-1]?=some (W[W.length-1]'(by lia)):=aab _
     refine⟨λcm H'=>∃m',m'<3*(S.N.length-se.length)+W.length/\Tw H3 y fd sd wd names S n m' cm H',λ_ _ h=>h,?_⟩
     refine⟨_,rfl,.inl ⟨rfl,_,ar.of hW⟩,wd,_,.int ((W[W.length-1]'(by lia):Nat):Int),rfl,rfl,hW,by rw[aaa,aae,HB];rfl,?_⟩
     have xG:=iW _ (aaK HB)
     have jT:W=W.dropLast++[W[W.length-1]'(by lia)]:=by
      have hne:W≠[]:=by intro e;rw[e]at TB;exact adJ _ TB
      rw[← afb hne,aeA]
     generalize W[W.length-1]'(by lia)=i at HB xG jT
     have hin:∀j,j∈W->j=i\/j∈W.dropLast:=λj hj=>by
      rw[jT]at hj
      rcases aap.mp hj with h|h
      . exact .inr h
      . exact .inl (aaC.mp h)
     have kw:∀b u,H3 b=some u->b≠fd->b≠sd->b≠wd->(upd Hx wd (.lst (W.map iV).dropLast)) b=some u:=λb u hb n1 n2 n3=>by rw[ag n3];exact kx b u hb n1 n2 n3
     have TC:(upd Hx wd (.lst (W.map iV).dropLast)) fd=some (.dK F):=by rw[ag fw];exact hF
     have Ox:(upd Hx wd (.lst (W.map iV).dropLast)) sd=some (.dK (se.map m7)):=by rw[ag sw];exact hS
     have TH:(upd Hx wd (.lst (W.map iV).dropLast)) wd=some (.lst (W.dropLast.map iV)):=by rw[af,List.map_dropLast]
     have Ze:∀{b:Addr}{u:HO},H b=some u->(upd Hx wd (.lst (W.map iV).dropLast)) b=some u:=λhb=>by rw[ag (ae hb fwd)];exact Tz hb
     have ldl:W.dropLast.length+1=W.length:=by rw[agL];lia
     have skip:(i<2\/i∈se)->∃m',m'<3*(S.N.length-se.length)+W.length/\Tw H3 y fd sd wd names S n m' [some (.ref y),some (.int (i:Int)),some (.ref fd),some (.ref sd),some (.ref wd),v5] (upd Hx wd (.lst (W.map iV).dropLast)):=λhi=>by
      have mv:∀j,(j<2\/j∈se\/j∈W)->(j<2\/j∈se\/j∈W.dropLast):=λj hj=>by
       rcases hj with h|h|h
       . exact .inl h
       . exact .inr (.inl h)
       . rcases hin j h with rfl|h
         . exact hi.imp id λh=>.inl h
         . exact .inr (.inr h)
      exact⟨_,by lia,F,se,W.dropLast,_,_,rfl,rfl,kw,TC,Ox,TH,Fj,by lia,fl,λj hj=>iW j (agP W hj),λj hj=>⟨(iS j hj).1,(iS j hj).2.1,(iS j hj).2.2.1,(iS j hj).2.2.2.1,mv _ (iS j hj).2.2.2.2.1,mv _ (iS j hj).2.2.2.2.2⟩,mv n iR,iF,iK,iN⟩
     refine⟨_,rfl,_,_,rfl,rfl,_,rfl,kM (λh1=>?_) (λh1=>kL ?_)⟩
     . have zy:2<=i:=by
        have:=adh h1
        lia
       refine⟨_,rfl,_,rfl,sd,_,rfl,bq.k (k:=.inl (i:Int)) Ox,_,rfl,?_⟩
       cases hv:aG (se.map m7) (.inl (i:Int)) with
       | some v=>exact dw rfl (skip (.inr (Mn hv)))
       | none=>
        refine di rfl ?_
        have TJ:=Mm hv
        obtain⟨b1,b2,b3,b4,b5,b6,b7⟩:=hO.fs.nd i zy xG.1
        obtain⟨t,SH,Cr⟩:=hO.node xG.1
        have aiu:se.length+1<=S.N.length:=by
         have:=vF S.N.length (se++[i]) (by
          rw[aau]
          refine⟨Fj,by simp,λa ha b hb e=>?_⟩
          have:b=i:=by simpa using hb
          exact TJ (by rw[← this,← e];exact ha)) λx hx=>by
          rcases aap.mp hx with h|h
          . exact(iS x h).2.1
          . rw[aaC.mp h];exact xG.1
         rw[aag]at this
         exact this
        refine⟨_,rfl,_,rfl,sd,_,rfl,gh.k (k:=.inl (i:Int)) Ox (by rw[aaa];exact big (by lia)),?_⟩
        rw[i5 _ hv]
        have e1:(se.map m7)++[((.inl (i:Int):Key),V.bl true)]=(se++[i]).map m7:=by rw[aah];rfl
        rw[e1]
        generalize upd Hx wd (.lst (W.map iV).dropLast)=Hy at kw TC Ox TH Ze ⊢
        have k1:∀b u,H3 b=some u->b≠fd->b≠sd->b≠wd->(upd Hy sd (.dK ((se++[i]).map m7))) b=some u:=λb u hb n1 n2 n3=>by rw[ag n2];exact kw b u hb n1 n2 n3
        have Zf:(upd Hy sd (.dK ((se++[i]).map m7))) fd=some (.dK F):=by rw[ag fs];exact TC
        have Zg:(upd Hy sd (.dK ((se++[i]).map m7))) sd=some (.dK ((se++[i]).map m7)):=af
        have Zh:(upd Hy sd (.dK ((se++[i]).map m7))) wd=some (.lst (W.dropLast.map iV)):=by rw[ag (aax sw)];exact TH
        have aZ:∀{b:Addr}{u:HO},H b=some u->(upd Hy sd (.dK ((se++[i]).map m7))) b=some u:=λhb=>by rw[ag (ae hb Zd)];exact Ze hb
        show eR _ _ _ _ (upd Hy sd (.dK ((se++[i]).map m7)))
        generalize upd Hy sd (.dK ((se++[i]).map m7))=Hz at k1 Zf Zg Zh aZ ⊢
        refine⟨_,rfl,y,C,dy,_,_,rfl,aZ hO.hy,T.cl,T.n3,oH ..,_,rfl,nd,_,_,.ref t,rfl,rfl,ar.of (aZ hO.hd),aF (by rw[aae,SH];rfl),?_⟩
        have Tv:names[aA S.N i]?=some (names.getD (aA S.N i) ""):=by rw[aai,aab b1];rfl
        refine⟨_,rfl,_,rfl,y,C,dy,_,_,rfl,aZ hO.hy,T.cl,T.n1,GN ..,_,rfl,t,_,0,_,rfl,rfl,aR.of (aZ Cr),aF (j:=0) rfl,nm,_,_,.str (names.getD (aA S.N i) ""),rfl,rfl,ar.of (aZ hO.hn),?_,?_⟩
        . exact aF (j:=aA S.N i) (by rw[aae,Tv];rfl)
        refine⟨fd,_,rfl,gh.k (k:=.inr (names.getD (aA S.N i) "")) Zf (big (by lia)),?_⟩
        have k2:∀b u,H3 b=some u->b≠fd->b≠sd->b≠wd->(upd Hz fd (.dK (putK F (.inr (names.getD (aA S.N i) "")) (.bl true)))) b=some u:=λb u hb n1 n2 n3=>by rw[ag n1];exact k1 b u hb n1 n2 n3
        have TK:(upd Hz fd (.dK (putK F (.inr (names.getD (aA S.N i) "")) (.bl true)))) fd=some (.dK (putK F (.inr (names.getD (aA S.N i) "")) (.bl true))):=af
        have y8:(upd Hz fd (.dK (putK F (.inr (names.getD (aA S.N i) "")) (.bl true)))) sd=some (.dK ((se++[i]).map m7)):=by rw[ag (aax fs)];exact Zg
        have Oy:(upd Hz fd (.dK (putK F (.inr (names.getD (aA S.N i) "")) (.bl true)))) wd=some (.lst (W.dropLast.map iV)):=by rw[ag (aax fw)];exact Zh
        have Mo:∀{b:Addr}{u:HO},H b=some u->(upd Hz fd (.dK (putK F (.inr (names.getD (aA S.N i) "")) (.bl true)))) b=some u:=λhb=>by rw[ag (ae hb Ov)];exact aZ hb
        generalize upd Hz fd (.dK (putK F (.inr (names.getD (aA S.N i) "")) (.bl true)))=Hv at k2 TK y8 Oy Mo ⊢
        refine⟨_,rfl,.inl ⟨rfl,_,ar.of Oy⟩,_,rfl,t,_,1,.int ((low S.N i:Nat):Int),rfl,rfl,aR.of (Mo Cr),aF (j:=1) rfl,_,rfl,t,_,2,.int ((dZ S.N i:Nat):Int),rfl,rfl,aR.of (Mo Cr),aF (j:=2) rfl,(by show 2<=sizeLine;decide),λel Oz=>?_⟩
        have nel:wd≠el:=ae Oy Oz
        refine⟨wd,el,_,_,rfl,rfl,(ag nel).trans Oy,af,(by rw[aaa];exact ael (big (by show W.dropLast.length+2<=_;lia))),?_⟩
        have lp:∀z,bo (putK F (.inr (names.getD (aA S.N i) "")) (.bl true)) z ↔ (z=names.getD (aA S.N i) "" \/ bo F z):=λz=>by
         unfold bo
         rw[gJ]
         by_cases e:(.inr z:Key)=.inr (names.getD (aA S.N i) "")
         . rw[aaF e]
           exact⟨λ_=>.inl (adC e),λ_=>rfl⟩
         . rw[aaz e]
           exact⟨λh=>.inr h,λh=>h.elim (λq=>absurd (congrArg Sum.inr q) e) id⟩
        have mv:∀j,(j<2\/j∈se\/j∈W)->(j<2\/j∈se++[i]\/j∈W.dropLast++[low S.N i,dZ S.N i]):=λj hj=>by
         rcases hj with h|h|h
         . exact .inl h
         . exact .inr (.inl (aaI _ h))
         . rcases hin j h with rfl|h
           . exact .inr (.inl (aar _ (agh _)))
           . exact .inr (.inr (aaI _ h))
        have ace:∀z,kz z (aq S.TS (low S.N i))->kz z (aq S.TS n):=λz hz=>xG.2 z (by rw[b7];exact .inr (.inl hz))
        have acf:∀z,kz z (aq S.TS (dZ S.N i))->kz z (aq S.TS n):=λz hz=>xG.2 z (by rw[b7];exact .inr (.inr hz))
        refine⟨_,?_,putK F (.inr (names.getD (aA S.N i) "")) (.bl true),se++[i],W.dropLast++[low S.N i,dZ S.N i],_,_,rfl,rfl,λb u hb n1 n2 n3=>?_,?_,?_,?_,?_,?_,?_,?_,?_,mv n iR,?_,?_,HA iN⟩
        . rw[aag,aag]
          show 3*(S.N.length-(se.length+1))+(W.dropLast.length+2)<_
          lia
        . have RB:b≠el:=λe=>by
           have:=k2 b u hb n1 n2 n3
           rw[e,Oz]at this
           cases this
          rw[ag n3,ag RB]
          exact k2 b u hb n1 n2 n3
        . rw[ag fw,ag (ae TK Oz)]
          exact TK
        . rw[ag sw,ag (ae y8 Oz)]
          exact y8
        . rw[af,aah]
          rfl
        . rw[aau]
          refine⟨Fj,by simp,λa ha b hb e=>?_⟩
          have:b=i:=by simpa using hb
          exact TJ (by rw[← this,← e];exact ha)
        . rw[aag,aag]
          show W.dropLast.length+2<=1+(se.length+1)
          lia
        . rw[aag]
          exact aam (fh _ _ _) (aer fl)
        . intro j hj
          rcases aap.mp hj with h|h
          . exact iW j (agP W h)
          . rcases aaj.mp h with rfl|h
            . exact⟨by lia,ace⟩
            . rw[aaC.mp h]
              exact⟨by lia,acf⟩
        . intro j hj
          rcases aap.mp hj with h|h
          . obtain⟨c1,c2,c3,c4,c5,c6⟩:=iS j h
            exact⟨c1,c2,c3,(lp _).mpr (.inr c4),mv _ c5,mv _ c6⟩
          . rw[aaC.mp h]
            exact⟨zy,xG.1,xG.2,(lp _).mpr (.inl rfl),.inr (.inr (aar _ aas)),.inr (.inr (aar _ (aav _ aas)))⟩
        . intro z hz
          rcases (lp z).mp hz with rfl|h
          . exact xG.2 _ (by rw[b7];exact .inl rfl)
          . exact iF z h
        . intro kv aY
          rcases qZ aY with h|h
          . exact iK kv h
          . rw[h]
            exact⟨_,rfl⟩
     . exact skip (.inl (by
        have h2:¬ (1:Int)<(i:Int):=λq=>h1 (aaN q)
        lia))
   . have hW0:W=[]:=by
      cases W with
      | nil=>rfl
      | cons a r=>exact absurd (aaN (by rw[aaa,aaA];lia)) hle
     subst hW0
     refine⟨_,rfl,kk fd F Hx (λb u hb=>Tz hb) Ov hF (λz=>⟨iF z,λhz=>?_⟩) iK iN⟩
     have key:∀i,(i<2\/i∈se)->kz z (aq S.TS i)->bo F z:=by
      intro i
      induction i using Nat.strongRecOn with
      | ind i ih=>
       intro hi ho
       rcases hi with hi|hi
       . rcases (show i=0\/i=1 by lia) with rfl|rfl
         . rw[hO.fs.t0]at ho;exact ho.elim
         . rw[hO.fs.t1]at ho;exact ho.elim
       . obtain⟨i2,il,_,iF2,ic1,ic2⟩:=iS i hi
         obtain⟨b1,b2,b3,b4,b5,b6,b7⟩:=hO.fs.nd i i2 il
         rw[b7]at ho
         rcases ho with rfl|ho|ho
         . exact iF2
         . exact ih _ b2 (ic1.imp id λh=>h.elim id λh=>nomatch h) ho
         . exact ih _ b3 (ic2.imp id λh=>h.elim id λh=>nomatch h) ho
     exact key n (iR.imp id λh=>h.elim id λh=>nomatch h) hz
end
abbrev HC:Stmt:=top 30
structure MZ(M:aQ) (all:List Str):Prop where
 ok:c8 M all
 n60:M.gates.length<=60
 n8:(aW M).length<=8
theorem oT(M:aQ):(aW M).length=M.keepers.length+M.switches.length:=by unfold aW;rw[aag,aaa]
theorem MZ.fm(h:MZ M all):Fm M all:=by
 have:=h.n8
 rw[oT]at this
 exact⟨h.ok,by lia,by lia,h.n60⟩
theorem MZ.wn(h:MZ M all):(M.nevers.map (·.1)).Nodup/\(M.somes.map (·.1)).Nodup/\(M.keepers.map (·.1)).Nodup:=by
 refine⟨h.ok.nvw.nd,h.ok.smw.nd,?_⟩
 have:=(aau.mp (aau.mp (jA h.ok)).1).2.1
 exact this
def XH(K:W.Frag):List V->Hp->VK->Prop:=λxs H Q=>∃a ys,xs=[.ref a]/\aR K H a ys/\Q (.ref a) H
inductive Fn(CM:Addr) (vs:List V) (H:Hp) (Q:VK):Prop
 | mk (m:Addr) (M:aQ) (all:List Str) (a1 a2 a3 a4 a5 a6:Addr) (h1:vs=[.ref m]) (h2:iz H m M a1 a2 a3 a4 a5 a6) (h3:MZ M all) (h4:∀(x dx f1 f2 f3 f4 f5 f6:Addr) (ts:List Addr) (H':Hp),ak H H'->MG CM H' x dx f1 f2 f3 f4 f5 f6 ts M->Q (.ref x) H'):Fn CM vs H Q
def xH(CM:Addr):Sp:=λvs H Q _=>Fn CM vs H Q
abbrev XI:List Str:=["_law_m", "_law_gates", "_law_wishes_here"]
theorem acg:(["_law_gate"]:List Str).Nodup:=dk
section
variable {P:Program}{w:World}{K:W.Frag}{mg:Str->Option Value}{base:Heap}{CF CM CG:Addr}
theorem Dg:aJ XI ["_law_m"] (az HC):=fs
theorem Qg(F:aK K "_law_made" "_law_made" HC f fd)(T:qP K mg CM)(O:iD mg)
 (mI:Mk K CM fI) (gI:ax P w K mg base aB 1 fI dI ur (JS CM)) (bI:Binds K dI ur []):ax P w K mg base aB 3 f fd ["_law_m"] (xH CM):=by
 refine F.run Dg λcdv A outer s H vs Q E hr h=>?_
 . obtain⟨m,M,all,a1,a2,a3,a4,a5,a6,rfl,hM,mz,kk⟩:=h
   have hu:=eS hr
   obtain⟨nd5,nd6,Cm⟩:=mz.wn
   have nd4:=mz.ok.nxd
   have n60:=mz.n60
   refine⟨_,ai (wt (i:=1) (N:=["_law_gate"]) (js:=[none]) Dg.nd rfl rfl (by kernel_rfl) rfl (dj (cq hu (pv 0) a0 (λ_ _=>rfl))) (λ_ _ _ _ _ _=>aC (i:=0) acg rfl (Or.inl rfl) (.inr rfl)) (λ_ _ _ _ _ _=>bJ) (λ_ _ _ _ _ _=>bK (r:=XH K) DU (by rfl) O.tuple afa (aa (pv 0) ah)))
    (ai (aP 2 Dg.nd (cY (aa (bK (eU rfl) (by rfl) O.dict ade (aa (cq hu (pv 0) a0 (λ_ _=>rfl)) ah)) (aa (bK (eU rfl) (by rfl) O.dict ade (aa (cq hu (pv 0) a0 (λ_ _=>rfl)) ah)) ah))))
    (au (aL (ub mI gI hr rfl T.mgC bI .nil dv (aa (bK jo (by rfl) O.list adw (aa (cq hu (pv 0) a0 (λ_ _=>rfl)) ah))
     (aa (bK (eU rfl) (by rfl) O.dict ade (aa (cq hu (pv 0) a0 (λ_ _=>rfl)) ah))
     (aa (pv 1)
     (aa (bK (eU rfl) (by rfl) O.dict ade (aa (cq hu (pv 0) a0 (λ_ _=>rfl)) ah))
     (aa (aI (r:=eC K) aS (pv 2) ao (λ_ _=>rfl))
     (aa (aI (r:=eC K) aS (pv 2) ao (λ_ _=>rfl)) ah)))))))))),?_⟩
   obtain⟨us,h3,iP⟩:=id hM.gt
   have uX:=iP.length
   rw[aaa]at uX
   refine⟨_,rfl,m,.ref a3,rfl,bq.k (k:=.inr "gates") hM.top,a3,rfl,⟨_,ar.of h3⟩,λD hD=>?_⟩
   refine fz us.length (λi acc σ H9=>acc=(us.take i).map V.ref/\(∃u,σ=[u])/\ak H H9) ⟨rfl,⟨none,rfl⟩,ak.av hD⟩ af ?fin ?step
   case step=>
    rintro i acc σ H9 hi df ⟨rfl,⟨u,rfl⟩,s9⟩
    have hx:(us.map V.ref)[i]?=some (.ref us[i]):=by rw[aae,aab hi];rfl
    refine⟨⟨_,_,ar.of (s9 _ _ h3),hx⟩,?_⟩
    rintro xv H' ⟨rfl,hv⟩
    have ex:=hv _ (ar.of (s9 _ _ h3))
    rw[hx]at ex
    cases ex
    have hg:(M.gates.map ow)[i]?=some (ow (M.gates[i]'(by lia))):=by rw[aae,aab (by lia)];rfl
    obtain⟨t,ht,hT⟩:=bx iP hg
    rw[aab hi]at ht
    cases ht
    refine dJ ⟨_,rfl,us[i],_,rfl,aR.of (s9 _ _ hT),_,df,by rw[aaa,aaG];exact small (by lia),cE hi af ⟨?_,⟨_,rfl⟩,λb o hb=>?_⟩⟩
    . rw[adn,aab hi,aah]
      rfl
    . rw[ag (ae hb hD)]
      exact s9 _ _ hb
   case fin=>
   rintro acc σ H1 df ⟨rfl,_,s1⟩
   rw[ac4]at df
   refine⟨⟨_,ar.of (s1 _ _ h3),by rw[aaa];exact aaf _⟩,?_⟩
   obtain⟨t5,u5,v5⟩:=ux (h:=λr:Str×Str=>((.inr r.1:Key),V.str r.2)) (λ_=>rfl) (hM.same s1).nv
   refine⟨_,rfl,m,.ref a5,rfl,bq.k (k:=.inr "nevers") (hM.same s1).top,a5,t5,dc M.nevers,rfl,u5,v5,λf5 e5=>?_⟩
   rw[tN nd5]
   have s2:ak H1 (upd H1 f5 (.dK (dc M.nevers))):=ak.av e5
   have q5:(upd H1 f5 (.dK (dc M.nevers))) f5=_:=af
   generalize upd H1 f5 (.dK (dc M.nevers))=H2 at s2 q5 ⊢
   have jG:=s1.trans s2
   obtain⟨t6,u6,v6⟩:=ux (h:=λr:Str×Str=>((.inr r.1:Key),V.str r.2)) (λ_=>rfl) (hM.same jG).sm
   refine⟨_,rfl,m,.ref a6,rfl,bq.k (k:=.inr "somes") (hM.same jG).top,a6,t6,dc M.somes,rfl,u6,v6,λf6 e6=>?_⟩
   rw[tN nd6]
   have s3:ak H2 (upd H2 f6 (.dK (dc M.somes))):=ak.av e6
   have q6:(upd H2 f6 (.dK (dc M.somes))) f6=_:=af
   generalize upd H2 f6 (.dK (dc M.somes))=H3 at s3 q6 ⊢
   have ox:=jG.trans s3
   refine⟨(by show 2<=sizeLine;decide),λwl uI=>?_⟩
   have s4:ak H3 (upd H3 wl (.lst [.ref f5,.ref f6])):=ak.av uI
   have qw:(upd H3 wl (.lst [.ref f5,.ref f6])) wl=some (.lst [.ref f5,.ref f6]):=af
   generalize upd H3 wl (.lst [.ref f5,.ref f6])=H4 at s4 qw ⊢
   have Cz:=ox.trans s4
   refine⟨_,rfl,m,.ref a1,rfl,bq.k (k:=.inr "switches") (hM.same Cz).top,a1,_,rfl,.inl (ar.of (hM.same Cz).sw),λf1 e1=>?_⟩
   have s5:ak H4 (upd H4 f1 (.lst (M.switches.map V.str))):=ak.av e1
   have q1:(upd H4 f1 (.lst (M.switches.map V.str))) f1=_:=af
   generalize upd H4 f1 (.lst (M.switches.map V.str))=H5 at s5 q1 ⊢
   have zt:=Cz.trans s5
   obtain⟨t2,u2,v2⟩:=ux (h:=λr:Str×V=>((.inr r.1:Key),r.2)) (λ_=>rfl) (hM.same zt).kp
   refine⟨_,rfl,m,.ref a2,rfl,bq.k (k:=.inr "keepers") (hM.same zt).top,a2,t2,dY M.keepers,rfl,u2,v2,λf2 e2=>?_⟩
   rw[show bY [] (dY M.keepers)=dY M.keepers from tM M.keepers [] Cm]
   have s6:ak H5 (upd H5 f2 (.dK (dY M.keepers))):=ak.av e2
   have q2:(upd H5 f2 (.dK (dY M.keepers))) f2=_:=af
   generalize upd H5 f2 (.dK (dY M.keepers))=H6 at s6 q2 ⊢
   have Dh:=zt.trans s6
   obtain⟨t4,u4,v4⟩:=ux (h:=λr:Str×Str=>((.inr r.1:Key),V.str r.2)) (λ_=>rfl) (hM.same Dh).nx
   refine⟨_,rfl,_,rfl,m,.ref a4,rfl,bq.k (k:=.inr "nexts") (hM.same Dh).top,a4,t4,dc M.nexts,rfl,u4,v4,λf4 e4=>?_⟩
   rw[tN nd4]
   have s7:ak H6 (upd H6 f4 (.dK (dc M.nexts))):=ak.av e4
   have q4:(upd H6 f4 (.dK (dc M.nexts))) f4=_:=af
   generalize upd H6 f4 (.dK (dc M.nexts))=H7 at s7 q4 ⊢
   have Dj:=s5.trans (s6.trans s7)
   refine⟨_,rfl,wl,_,_,_,rfl,rfl,ar.of (Dj _ _ qw),aF (j:=0) rfl,_,rfl,wl,_,_,_,rfl,rfl,ar.of (Dj _ _ qw),aF (j:=1) rfl,?_⟩
   intro y dy hy Fh hne
   have t7:ak H7 (upd (upd H7 dy (.own y)) y (.ins CM dy [])):=λb o hb=>by
    rw[ag (ae hb hy),ag (ae hb Fh)]
    exact hb
   have q7:(upd (upd H7 dy (.own y)) y (.ins CM dy [])) y=some (.ins CM dy []):=af
   generalize upd (upd H7 dy (.own y)) y (.ins CM dy [])=H8 at t7 q7 ⊢
   have E8:=Dh.trans s7
   have s18:=s2.trans (s3.trans (s4.trans (Dj.trans t7)))
   refine⟨y,dy,f1,f2,D,f4,f5,f6,⟨M.switches,dY M.keepers,us,dc M.nexts,dc M.nevers,dc M.somes⟩,rfl,q7,⟨t7 _ _ (s7 _ _ (s6 _ _ q1)),t7 _ _ (s7 _ _ q2),s18 _ _ df,t7 _ _ q4,t7 _ _ (Dj _ _ (s4 _ _ (s3 _ _ q5))),t7 _ _ (Dj _ _ (s4 _ _ q6))⟩,λk1 k2 k3 k4 k5 k6 H9 hg pX hp8 Fo kp8=>⟨rfl,?_⟩⟩
   have Zi:ak H H9:=λb o hb=>kp8 b o (t7 _ _ (E8 _ _ hb)) (ae (E8 _ _ hb) hy)
   simp only[aaP,aaj,aat,adg,afq]at pX
   exact kk y dy k1 k2 k3 k4 k5 k6 us H9 Zi ⟨⟨hp8,Fo.h1,.inl Fo.h2,Fo.h3,Paired.cw (oP iP) λt r e=>Zi _ _ e⟩,Fo.h2,Fo.h4,Fo.h5,⟨all,mz.ok⟩,mz.n60,mz.n8,pX.2.1.2.1,pX.2.1.2.2.1,pX.2.2.2.1.1⟩
end
abbrev yt:Stmt:=top 3
abbrev Dk:Stmt:=inClass (top 9) 7
abbrev yu:Stmt:=inClass (top 9) 8
abbrev vG:Stmt:=inClass (top 9) 9
abbrev bQ(M:aQ):List Str:=M.keepers.map (·.1)
def qp(M:aQ)(e:Str->Bool):Str->Bool:=λn=>if n∈bQ M then eF M e (hU M.nexts n) else e n
def tU(M:aQ)(S:de) (NX:List (Key×V)):Prop:=∀z v,aG NX (.inr z)=some v->z∈bQ M/\∃i:Nat,v=.int (i:Int)/\i<S.N.length/\∀e,ev e (aq S.TS i)=eF M e (hU M.nexts z)
def HD(M:aQ)(S:de) (NX MI:List (Key×V)):Prop:=∀kv∈MI,∃i m:Nat,kv.1=.inl (i:Int)/\kv.2=.int (m:Int)/\i<S.N.length/\m<S.N.length/\(∀e,ev e (aq S.TS m)=ev (qp M e) (aq S.TS i))/\∀z,kz z (aq S.TS i)->bo NX z
structure GX(M:aQ) (s:GS):Prop where
 nx:tU M s.S s.NX
 mi:HD M s.S s.NX s.MI
 mw:yp s.S (oK M.switches) s.MW
 nk:∀kv∈s.NX,∃z∈bQ M,kv.1=.inr z
 nn:(s.NX.map (·.1)).Nodup
theorem tU.grow(h:tU M S NX)(g:cj S S')(hl:S.N.length=S.TS.length):tU M S' NX:=λz v hv=>by
 obtain⟨hz,i,e1,l,e2⟩:=h z v hv
 have:=g.le
 exact⟨hz,i,e1,by lia,λe=>by rw[g.aq (by lia)];exact e2 e⟩
theorem HD.grow(h:HD M S NX MI)(g:cj S S')(hl:S.N.length=S.TS.length)(hn:∀z,bo NX z->bo dU z):HD M S' dU MI:=λkv aY=>by
 obtain⟨i,m,e1,e2,l1,l2,hv,ho⟩:=h kv aY
 have:=g.le
 refine⟨i,m,e1,e2,by lia,by lia,λe=>?_,λz hz=>hn z (ho z (by rw[g.aq (by lia)]at hz;exact hz))⟩
 rw[g.aq (by lia),g.aq (by lia)]
 exact hv e
theorem GX.grow(h:GX M s)(g:cj s.S S')(hl:s.S.N.length=s.S.TS.length):GX M ⟨S',PL',s.NX,s.MI,s.MW⟩:=⟨h.nx.grow g hl,h.mi.grow g hl λ_ h=>h,h.mw.grow g hl,h.nk,h.nn⟩
def xI(S:de) (NX:List (Key×V)):Str->Option Tr:=λz=>match aG NX (.inr z) with|some (.int i)=>some (aq S.TS i.toNat)|_=>none
theorem vH(h:tU M S NX)(hz:bo NX z):∃i:Nat,aG NX (.inr z)=some (.int (i:Int))/\i<S.N.length/\xI S NX z=some (aq S.TS i)/\z∈bQ M/\∀e,ev e (aq S.TS i)=eF M e (hU M.nexts z):=by
 unfold bo at hz
 cases e:aG NX (.inr z) with
 | none=>rw[e]at hz;cases hz
 | some v=>
  obtain⟨hk,i,rfl,l,he⟩:=h z v e
  refine⟨i,rfl,l,?_,hk,he⟩
  unfold xI
  rw[e]
  rfl
theorem Dm(hz:¬ bo NX z):aG NX (.inr z)=none/\xI S NX z=none:=by
 have e:aG NX (.inr z)=none:=by
  cases e:aG NX (.inr z) with
  | none=>rfl
  | some v=>exact absurd (by unfold bo;rw[e];rfl) hz
 refine⟨e,?_⟩
 unfold xI
 rw[e]
theorem TL(h:tU M S NX):Dc S (xI S NX) NX:=λz=>by
 by_cases hz:bo NX z
 . obtain⟨i,e1,l,e2,_⟩:=vH h hz
   rw[e2]
   exact⟨i,e1,l,rfl⟩
 . obtain⟨e1,e2⟩:=Dm (S:=S) hz
   rw[e2]
   exact e1
theorem xJ(h:tU M S NX)(z:Str):(xI S NX z).isSome=true ↔ bo NX z:=by
 constructor
 . intro hz
   by_cases hh:bo NX z
   . exact hh
   . rw[(Dm (S:=S) hh).2]at hz
     cases hz
 . intro hz
   obtain⟨i,_,_,e2,_⟩:=vH h hz
   rw[e2]
   rfl
theorem yw(h:tU M S NX)(hz:bo NX z)(e:Str->Bool):oS (xI S NX) e z=qp M e z:=by
 obtain⟨i,_,_,e2,hk,he⟩:=vH h hz
 unfold oS qp
 rw[e2,aaF hk]
 exact he e
theorem tV:∀{α:Type}[DecidableEq α] {l m:List α},l.Nodup->(∀x∈l,x∈m)->l.length<=m.length
 | _,_,[],_,_,_=>aaO _
 | _,_,x::l,m,nd,h=>by
  rw[aaP]at nd
  have hx:=h x aas
  have:=tV (l:=l) (m:=m.erase x) nd.2 λy hy=>(agM λe=>nd.1 (by rw[← e];exact hy)).mpr (h y (aav _ hy))
  rw[af0 hx]at this
  have:=agv hx
  rw[aaA]
  lia
theorem GX.len{M:aQ}{s:GS}(h:GX M s):s.NX.length<=M.keepers.length:=by
 have:=tV (m:=(bQ M).map (Sum.inr:Str->Key)) h.nn λx hx=>by
  obtain⟨kv,hk,rfl⟩:=aal.mp hx
  obtain⟨z,hz,e⟩:=h.nk kv hk
  rw[e]
  exact aal.mpr ⟨z,hz,rfl⟩
 rw[aaa,aaa,aaa]at this
 exact this
theorem Mp(ok:c8 M all)(hk:k∈bQ M):Lit all (hU M.nexts k):=by
 unfold hU
 cases e:M.nexts.find? λq=>decide (q.1=k) with
 | none=>exact .inr (.inr ⟨k,by rw[ok.all];exact aaI _ (aar _ hk),.inl rfl⟩)
 | some q=>exact ok.nxl q (aeS e)
section
variable {P:Program}{w:World}{CF CM CG:Addr}{H H':Hp}{a:GA}{M:aQ}{s:GS}
theorem GO.XJ(h:GO P w CF CM CG H a M s):GO P w CF CM CG (upd H a.nx (.dK dU)) a M ⟨s.S,s.PL,dU,s.MI,s.MW⟩:=by
 refine h.keep (h.fo.putD h.hnx (h.ne (i:=5) (j:=8) rfl rfl (by decide)) (h.ne (i:=5) (j:=9) rfl rfl (by decide))) (λb o hb nb=>?_) ?_ af ?_ ?_ h.pk h.p0
 . rw[ag λe=>nb (by rw[e];simp[GA.own])]
   exact hb
 . rw[ag (h.ne (i:=3) (j:=5) rfl rfl (by decide))];exact h.hp
 . rw[ag (h.ne (i:=6) (j:=5) rfl rfl (by decide))];exact h.hmi
 . rw[ag (h.ne (i:=7) (j:=5) rfl rfl (by decide))];exact h.hmw
end
inductive zS(CM:Addr) (vs:List V) (H:Hp) (Q:VK):Prop
 | mk (x dx f1 f2 f3 f4 f5 f6:Addr) (l:List (Str×Str)) (k:Str) (h1:vs=[.ref x,.str k]) (h2:H x=some (.ins CM dx (qQ f1 f2 f3 f4 f5 f6))) (h3:H f4=some (.dK (dc l))) (h4:Q (.str (hU l k)) H):zS CM vs H Q
def Dn(CM:Addr):Sp:=λvs H Q _=>zS CM vs H Q
inductive Dq(P:Program) (w:World) (CF CM CG:Addr) (vs:List V) (H:Hp) (Q:VK):Prop
 | mk (a:GA) (M:aQ) (s:GS) (k:Str) (b:Nat) (h1:vs=[.ref a.g,.str k]) (h2:GO P w CF CM CG H a M s) (h3:k∈bQ M) (h4:GB s b) (h5:b+190000<2895000) (h6:∀(n:Nat) (S':de) (PL':List (Key×V)) (H':Hp),GO P w CF CM CG H' a M ⟨S',PL',s.NX,s.MI,s.MW⟩->KG H H' a->cj s.S S'->GB ⟨S',PL',s.NX,s.MI,s.MW⟩ (b+191022)->n<S'.N.length->(∀e,ev e (aq S'.TS n)=eF M e (hU M.nexts k))->Q (.int (n:Int)) H'):Dq P w CF CM CG vs H Q
def Fp(P:Program)(w:World)(CF CM CG:Addr):Sp:=λvs H Q _=>Dq P w CF CM CG vs H Q
inductive xK(P:Program) (w:World) (CF CM CG:Addr) (vs:List V) (H:Hp) (Q:VK):Prop
 | mk (a:GA) (M:aQ) (s:GS) (n b:Nat) (h1:vs=[.ref a.g,.int (n:Int)]) (h2:GO P w CF CM CG H a M s) (h3:GX M s) (h4:n<s.S.N.length) (h5:GB s b) (h6:b+wc (aq s.S.TS n)<3000000) (h7:∀(m:Nat) (S':de) (xu:List (Key×V)) (H':Hp),GO P w CF CM CG H' a M ⟨S',s.PL,s.NX,s.MI,xu⟩->GX M ⟨S',s.PL,s.NX,s.MI,xu⟩->KG H H' a->cj s.S S'->GB ⟨S',s.PL,s.NX,s.MI,xu⟩ (b+wc (aq s.S.TS n))->m<S'.N.length->(∀e,ev e (aq S'.TS m)=true ↔ oK M.switches e (aq s.S.TS n))->Q (.int (m:Int)) H'):xK P w CF CM CG vs H Q
def tW(P:Program)(w:World)(CF CM CG:Addr):Sp:=λvs H Q _=>xK P w CF CM CG vs H Q
section
variable {P:Program}{w:World}{K:W.Frag}{mg:Str->Option Value}{base:Heap}{CF CM CG:Addr}
theorem ach:aJ ["machine", "keeper"] ["machine", "keeper"] (az yt):=fs
theorem HE(F:aK K "next_of" "next_of" yt f fd)(TM:qP K mg CM):ax P w K mg base aB 1 f fd ["machine", "keeper"] (Dn CM):=by
 refine F.run ach λcdv A outer s H vs Q E hr h=>?_
 . obtain⟨x,dx,f1,f2,f3,f4,f5,f6,l,k,rfl,hx,h4,kk⟩:=h
   have hu:=eS hr
   refine⟨_,au (aL (AU hu (aE (pv 0) rfl) (pv 1) (pv 1) ⟨rfl,rfl,rfl,rfl⟩)),?_⟩
   refine⟨_,rfl,x,CM,dx,_,_,rfl,hx,TM.cl,TM.n4,Se ..,f4,rfl,.inl ⟨_,.inl h4⟩,_,rfl,_,rfl,_,bq.k (k:=.inr k) h4,?_⟩
   show Q ((aG (dc l) (.inr k)).getD (.str k)) H
   rw[CO]
   exact kk
theorem XM:aJ ["self", "keeper"] ["self", "keeper"] (az Dk):=fs
theorem Mq(F:aK K "next_number" "Grove.next_number" Dk f fd)(TG:jN K mg CG)
 (gN:ax P w K mg base aB 14 fN dN ["self", "literal"] (xx P w CF CM CG 1)) (mN:Meth K CG "number_of" fN) (bN:Binds K dN ["self", "literal"] [])
 (gO:ax P w K mg base aB 1 fO dO ["machine", "keeper"] (Dn CM)) (mO:mg "next_of" = some (.ref fO)) (kO:W.keepIn K (.ref fO)=true) (bO:Binds K dO ["machine", "keeper"] []):ax P w K mg base aB 15 f fd ["self", "keeper"] (Fp P w CF CM CG):=by
 refine F.run XM λcdv A outer s H vs Q E hr h=>?_
 . obtain⟨a,M,s,k,b,rfl,hG,hk,hB,hb,kk⟩:=h
   obtain⟨all,ok⟩:=hG.ok
   have dq:aN 1 _:=hr.mono (by decide)
   refine⟨_,au (aL (bt (pv 0) TG.cl mN gN hr bN (aa (dm gO dq rfl mO kO bO .nil dv (aa (aE (pv 0) rfl) (aa (pv 1) ah))) ah))),?_⟩
   refine⟨_,rfl,a.g,a.dg,_,rfl,hG.hg,i7 _ (by simp),_,rfl,a.g,CG,a.dg,_,_,rfl,hG.hg,TG.cl,TG.n1,Hh ..,_,rfl,a.x,a.dx,a.f1,a.f2,a.f3,a.f4,a.f5,a.f6,M.nexts,k,rfl,hG.mf.hx,hG.h4,?_⟩
   exact⟨a,M,s,hU M.nexts k,all,b,rfl,hG,ok,Mp ok hk,(λe=>absurd e (by decide)),hB,by lia,λn S' PL' H' TN k' g' B' m' l' e'=>kk n S' PL' H' TN k' g' (B'.up (by lia)) l' e'⟩
theorem XN:aJ ["self", "number"] ["self", "number"] (az vG):=fs
theorem Qh(l:List Str)(z:Str):(aG (CT l) (.inr z)).isSome=true ↔ z∈l:=by
 constructor
 . intro h
   obtain⟨kv,hk,e⟩:=uB h
   obtain⟨x,hx,rfl⟩:=aal.mp hk
   cases adC e
   exact hx
 . intro h
   exact nS ⟨_,aal.mpr ⟨z,h,rfl⟩,rfl⟩
theorem HF(nm sp nd kn ch im ex:Addr):∀m∈["without", "replaced", "names_in", "taken"],(gq nm sp nd kn ch im ex).lookup (m:Str)=none:=λm hm=>by
 simp only[aaj,aat,adg]at hm
 rcases hm with rfl|rfl|rfl|rfl <;> exact pH _ _ _ _ _ _ _ dk dk dk dk dk dk dk
theorem HG(F:aK K "stands_of" "Grove.stands_of" vG f fd)(TG:jN K mg CG)(TF:hZ K mg CF)
 (gW:ax P w K mg base aB 19 fW dW xB (Hr P w CF 9)) (mW:Meth K CF "without" fW) (bW:Binds K dW xB []):ax P w K mg base aB 20 f fd ["self", "number"] (tW P w CF CM CG):=by
 refine F.run XN λcdv A outer s H vs Q E hr h=>?_
 . obtain⟨a,M,s,n,b,rfl,hG,hX,hn,hB,hb,kk⟩:=h
   obtain⟨all,ok⟩:=hG.ok
   refine⟨_,au (aL (bt (aE (pv 0) rfl) TF.cl mW gW hr bW (aa (pv 1) (aa (aE (pv 0) rfl) (aa (aE (pv 0) rfl) ah))))),?_⟩
   have n8:=hG.fo.n8
   have cn:eW (aW M) (aq s.S.TS n):=iG (i:=0) (ns:=aW M) (hG.fo.fs.zH (ie ok) n hn) (aaO _)
   have y6:=aam (nP cn) n8
   refine⟨_,rfl,a.g,CG,a.dg,_,_,rfl,hG.hg,TG.cl,TG.n2,vz ..,a.y,a.dy,_,rfl,hG.fo.hy,HF _ _ _ _ _ _ _ _ (by simp),_,rfl,_,rfl,a.g,CG,a.dg,_,_,rfl,hG.hg,TG.cl,TG.n4,ab1 ..,_,rfl,a.g,CG,a.dg,_,_,rfl,hG.hg,TG.cl,TG.n7,ab3 ..,?_⟩
   refine⟨a.y,a.dy,a.nm,a.sp,a.nd,a.kn,a.ch,a.im,a.ex,a.dh,a.mw,aW M,M.switches,s.S,CT M.switches,s.MW,n,b,rfl,hG.fo,hn,by lia,hG.hin,hG.hmw,hG.ne (i:=7) (j:=8) rfl rfl (by decide),hG.ne (i:=7) (j:=9) rfl rfl (by decide),hG.ne (i:=4) (j:=9) rfl rfl (by decide),hG.ne (i:=4) (j:=7) rfl rfl (by decide),Qh _,hX.mw,hB.b4,hB.bd,hb,λm S' xu H' fo aci hM' lM k2 g2 B2 _ _ l2 e2 _=>?_⟩
   have kg:KG H H' a:=λb o hb nb=>by
    simp only[GA.own,aaj,aat,adg,afq]at nb
    exact k2 b o hb nb.1 nb.2.1 nb.2.2.1 nb.2.2.2.1 nb.2.2.2.2.1 nb.2.2.2.2.2.2.2.2
   have kd:∀{b:Addr}{M':List (Key×V)},H b=some (.dK M')->b≠a.ex->b≠a.mw->H' b=some (.dK M'):=λhb n1 n2=>k2 _ _ hb (aD hb hG.fo.hd (by intro z;cases z)) (aD hb hG.fo.hk (by intro z;cases z)) (aD hb hG.fo.hc (by intro z;cases z)) (aD hb hG.fo.hi (by intro z;cases z)) n1 n2
   have TN:GO P w CF CM CG H' a M ⟨S',s.PL,s.NX,s.MI,xu⟩:=hG.keep fo kg (kd hG.hp (hG.ne (i:=3) (j:=9) rfl rfl (by decide)) (hG.ne (i:=3) (j:=7) rfl rfl (by decide))) (kd hG.hnx (hG.ne (i:=5) (j:=9) rfl rfl (by decide)) (hG.ne (i:=5) (j:=7) rfl rfl (by decide))) (kd hG.hmi (hG.ne (i:=6) (j:=9) rfl rfl (by decide)) (hG.ne (i:=6) (j:=7) rfl rfl (by decide))) aci (hG.pk.grow g2 hG.fo.fs.len) hG.p0
   exact kk m S' xu H' TN ⟨hX.nx.grow g2 hG.fo.fs.len,hX.mi.grow g2 hG.fo.fs.len λ_ h=>h,hM',hX.nk,hX.nn⟩ kg g2 ⟨B2,aam hB.b1 (aaJ ..),aam hB.b2 (aaJ ..),aam hB.b3 (aaJ ..),lM⟩ l2 e2
end
section
variable {P:Program}{w:World}{K:W.Frag}{mg:Str->Option Value}{base:Heap}{C:Addr}
theorem KC(F:aK K "without" "Forest.without" rh f fd)(T:hZ K mg C)(mW:Meth K C "without" f)(bW:Binds K fd xB []) (gN:ax P w K mg base aB 1 fN dN pf (oI P w C)) (mN:Meth K C "node" fN) (bN:Binds K dN pf [])
 (gC:ax P w K mg base aB 10 fC dC jW (iH P w C 9)) (mC:Meth K C "chosen" fC) (bC:Binds K dC jW []):∀d,ax P w K mg base aB (d+10) f fd xB (Hr P w C d)
 | 0=>nU λvs H Q E q=>by first|(obtain⟨_,_,_,_,_,_,_,_,_,_,_,_,_,_,_,_,_,_,_,_,_,h,_⟩:=q;exact adE _ h)|(cases q;lia)
 | d+1=>(show d+10+1=d+1+10 by lia) ▸ Hs F T (KC F T mW bW gN mN bN gC mC bC d) mW bW gN mN bN gC mC bC
theorem KD(F:aK K "replaced" "Forest.replaced" pw f fd)(T:hZ K mg C)(mW:Meth K C "replaced" f)(bW:Binds K fd xE []) (gL:ax P w K mg base aB 2 fL dL ["self", "name"] (xl P w C)) (mL:Meth K C "leaf_of" fL) (bL:Binds K dL ["self", "name"] [])
 (gC:ax P w K mg base aB 10 fC dC jW (iH P w C 9)) (mC:Meth K C "chosen" fC) (bC:Binds K dC jW []):∀d,ax P w K mg base aB (d+10) f fd xE (Hw P w C d)
 | 0=>nU λvs H Q E q=>by first|(obtain⟨_,_,_,_,_,_,_,_,_,_,_,_,_,_,_,_,_,_,_,_,_,h,_⟩:=q;exact adE _ h)|(cases q;lia)
 | d+1=>(show d+10+1=d+1+10 by lia) ▸ D6 F T (KD F T mW bW gL mL bL gC mC bC d) mW bW gL mL bL gC mC bC
end
theorem Fq(hg:H g=none)(TQ:H dg=none):ak H (upd (upd H dg (.own g)) g (.ins CG dg [])):=λb o hb=>by
 rw[ag (ae hb hg),ag (ae hb TQ)]
 exact hb
theorem HH(nm sp nd kn ch im ex:Addr):(gq nm sp nd kn ch im ex).lookup ("tree_at" : Str)=none:=pH _ _ _ _ _ _ _ dk dk dk dk dk dk dk
theorem TU(hD:H D=none) (ha:H a=some (.lst (us.map V.ref))) (hp:Paired (λt n=>∃r,H t=some (.tup (.str n::r))) us ns) (hl:ns.length<=600)
 (fin:∀H',ak H H'->H' D=some (.lst (ns.map V.str))->Q H'):∃W:Nat->Nat->St->Hp->Prop,(∃m,W 0 m [none] (upd H D (.lst [])))/\uJ D (eD 0) oo (vQ (eu K) (d6 0) (tC (.int 0))) (uH K a) W Q:=by
 have uX:=hp.length
 refine fz ns.length (λi acc σ H9=>acc=(ns.take i).map V.str/\(∃u,σ=[u])/\ak H H9) ⟨rfl,⟨none,rfl⟩,ak.av hD⟩ af ?_ ?_
 . rintro acc σ H9 df ⟨rfl,_,s9⟩
   rw[ac4]at df
   exact⟨⟨_,ar.of (s9 _ _ ha),by rw[aaa];lia⟩,fin H9 s9 df⟩
 . rintro i acc σ H9 hi df ⟨rfl,⟨u,rfl⟩,s9⟩
   have zN:ns[i]?=some ns[i]:=aab hi
   obtain⟨t,ht,r,hT⟩:=bx hp zN
   have hx:(us.map V.ref)[i]?=some (.ref t):=by rw[aae,ht];rfl
   refine⟨⟨_,_,ar.of (s9 _ _ ha),hx⟩,?_⟩
   rintro xv H' ⟨rfl,hv⟩
   have ex:=hv _ (ar.of (s9 _ _ ha))
   rw[hx]at ex
   cases ex
   refine dJ ⟨_,rfl,t,_,0,.str ns[i],rfl,rfl,aR.of (s9 _ _ hT),YC,_,df,by rw[aaa,aaG];exact small (by lia),cE hi af ⟨?_,⟨_,rfl⟩,λb o hb=>?_⟩⟩
   . rw[adn,zN,aah]
     rfl
   . rw[ag (ae hb hD)]
     exact s9 _ _ hb
theorem TV{H:Hp}{ts:List Addr}{l:List (Str×V)}(h:Paired (λt r=>H t=some (.tup r)) ts (l.map kQ)):Paired (λt n=>∃r,H t=some (.tup (.str n::r))) ts (l.map (·.1)):=rn h λt x e=>⟨_,e⟩
inductive zT(P:Program) (w:World) (CF CM CG:Addr) (vs:List V) (H:Hp) (Q:VK):Prop
 | mk (a:GA) (M:aQ) (s:GS) (n c:Nat) (h1:vs=[.ref a.g,.int (n:Int)]) (h2:GO P w CF CM CG H a M s) (h3:GX M s) (h4:n<s.S.N.length) (h5:(∀z,kz z (aq s.S.TS n)->z∈bQ M)) (h6:GB s (c+192000*s.NX.length)) (h7:c+192000*M.keepers.length+wc (aq s.S.TS n)<2700000) (h8:∀(m:Nat) (S':de) (PL' dU Fc:List (Key×V)) (H':Hp),GO P w CF CM CG H' a M ⟨S',PL',dU,Fc,s.MW⟩->GX M ⟨S',PL',dU,Fc,s.MW⟩->KG H H' a->cj s.S S'->GB ⟨S',PL',dU,Fc,s.MW⟩ (c+wc (aq s.S.TS n)+192000*dU.length)->m<S'.N.length->(∀e,ev e (aq S'.TS m)=ev (qp M e) (aq s.S.TS n))->Q (.int (m:Int)) H'):zT P w CF CM CG vs H Q
def Dr(P:Program)(w:World)(CF CM CG:Addr):Sp:=λvs H Q _=>zT P w CF CM CG vs H Q
section
variable {P:Program}{w:World}{K:W.Frag}{mg:Str->Option Value}{base:Heap}{CF CM CG:Addr}
theorem OA:aJ ["self", "number", "keeper"] ["self", "number"] (az yu):=fs
theorem GO.Mr(h:GO P w CF CM CG H a M s):∀b∈a.own,H b≠none:=λb hb e=>by
 simp only[GA.own,aaj,aat,adg]at hb
 rcases hb with q|q|q|q|q|q|q|q|q <;> rw[q]at e
 . rw[h.fo.hd]at e;cases e
 . rw[h.fo.hk]at e;cases e
 . rw[h.fo.hc]at e;cases e
 . rw[h.fo.hi]at e;cases e
 . rw[h.fo.he]at e;cases e
 . rw[h.hp]at e;cases e
 . rw[h.hnx]at e;cases e
 . rw[h.hmi]at e;cases e
 . rw[h.hmw]at e;cases e
theorem KH(F:aK K "moves_into" "Grove.moves_into" yu f fd)(TG:jN K mg CG)(TF:hZ K mg CF)
 (gI:ax P w K mg base aB 1 fI dI ["self", "number"] (zR P w CF)) (mI:Meth K CF "names_in" fI) (bI:Binds K dI ["self", "number"] [])
 (gX:ax P w K mg base aB 15 fX dX ["self", "keeper"] (Fp P w CF CM CG)) (mX:Meth K CG "next_number" fX) (bX:Binds K dX ["self", "keeper"] [])
 (gR:ax P w K mg base aB 19 fR dR xE (Hw P w CF 9)) (mR:Meth K CF "replaced" fR) (bR:Binds K dR xE []):ax P w K mg base aB 20 f fd ["self", "number"] (Dr P w CF CM CG):=by
 refine F.run OA λcdv A outer s H vs Q E hr h=>?_
 . obtain⟨a,M,s,n,c,rfl,hG,hX,hn,yH,hB,hb,kk⟩:=h
   obtain⟨all,ok⟩:=hG.ok
   have hu:=eS hr
   have dq:aN 1 _:=hr.mono (by decide)
   have acj:aN 15 _:=hr.mono (by decide)
   refine⟨_,ai (fi ac7 rfl (Pu (bt (aE (pv 0) rfl) TF.cl mI gI dq bI (aa (pv 1) ah))) (aC (i:=2) OA.nd rfl (Or.inl rfl))
    (au (cy (gw (mm hu (pv 2) (aE (pv 0) rfl)) (by with_unfolding_all rfl)) (au (eV hu (aE (pv 0) rfl) (pv 2) (bt (pv 0) TG.cl mX gX acj bX (aa (pv 2) ah)) rfl)) ba)))
    (au (aL (bt (aE (pv 0) rfl) TF.cl mR gR hr bR (aa (pv 1) (aa (aE (pv 0) rfl) (aa (aE (pv 0) rfl) ah)))))),?_⟩
   have n8:=hG.fo.n8
   have nxl:=hX.len
   have hN:s.S.N.length<3000000:=by have:=hB.bd.b1;have:192000*s.NX.length<=192000*M.keepers.length:=ad1 _ nxl;lia
   refine⟨_,rfl,a.g,CG,a.dg,_,_,rfl,hG.hg,TG.cl,TG.n2,vz ..,a.y,a.dy,_,rfl,hG.fo.hy,HF _ _ _ _ _ _ _ _ (by simp),_,rfl,a.y,a.dy,a.nm,a.sp,a.nd,a.kn,a.ch,a.im,a.ex,aW M,s.S,n,rfl,hG.fo,hn,hN,λd Fd H1 s1 TX JA hF hFk hFn=>?_⟩
   refine⟨d,Fd,rfl,JA,λob=>?_⟩
   have s2:ak H (upd H1 d (.du ob (.dK Fd))):=λb u hb=>by
    rw[ag (ae hb TX)]
    exact s1 _ _ hb
   have q2:(upd H1 d (.du ob (.dK Fd))) d=some (.du ob (.dK Fd)):=af
   generalize upd H1 d (.du ob (.dK Fd))=H2 at s2 q2 ⊢
   have ky:=hG.same s2
   have dn:d∉a.own:=λhm=>hG.Mr d hm TX
   refine LI (λi σ Hi=>∃(S':de) (PL' dU:List (Key×V)) (v2:Option V),σ=[some (.ref a.g),some (.int (n:Int)),v2]/\GO P w CF CM CG Hi a M ⟨S',PL',dU,s.MI,s.MW⟩/\GX M ⟨S',PL',dU,s.MI,s.MW⟩/\KG H2 Hi a/\cj s.S S'/\GB ⟨S',PL',dU,s.MI,s.MW⟩ (c+192000*dU.length)/\∀kv∈Fd.take i,∀z,kv.1=.inr z->bo dU z) ?_ ?_ ?_ ?_
   . exact⟨s.S,s.PL,s.NX,none,rfl,ky,hX,KG.refl,.refl _,hB,(λkv aY=>by cases aY)⟩
   . rintro i σ Hi _ ⟨S',PL',dU,v2,rfl,_,_,ki,_⟩
     exact ki _ _ q2 dn
   . rintro i kv σ Hi aY ⟨S',PL',dU,v2,rfl,cQ,jJ,ki,gi,Bi,pi⟩
     obtain⟨z,hz⟩:=hFk kv (aaK aY)
     have OB:z∈bQ M:=yH z ((hF z).mp (nS ⟨kv,aaK aY,hz⟩))
     rw[hz]
     have Ms:=jJ.len
     have nxm:192000*dU.length<=192000*M.keepers.length:=ad1 _ Ms
     have keep:∀{Mt:List (Key×V)},(∀z,bo dU z->bo Mt z)->bo Mt z->∀sr∈Fd.take (i+1),∀z',sr.1=.inr z'->bo Mt z':=λh1 h2 sr Gr z' e=>by
      rw[adn,aY]at Gr
      rcases aap.mp Gr with h|h
      . exact h1 _ (pi sr h z' e)
      . have:sr=kv:=by simpa using h
        rw[this,hz]at e
        cases adC e
        exact h2
     refine⟨_,rfl,_,rfl,a.g,CG,a.dg,_,_,rfl,cQ.hg,TG.cl,TG.n5,L9 ..,a.nx,_,rfl,bq.k (k:=.inr z) cQ.hnx,_,rfl,?_⟩
     cases hv:aG dU (.inr z) with
     | some v=>exact dw rfl ⟨S',PL',dU,_,rfl,cQ,jJ,ki,gi,Bi,keep (λ_ h=>h) (by unfold bo;rw[hv];rfl)⟩
     | none=>
      have eE:dU.length+1<=M.keepers.length:=by
       have:=tV (l:=(.inr z:Key)::dU.map (·.1)) (m:=(bQ M).map (Sum.inr:Str->Key)) (by
        rw[aaP]
        refine⟨λhm=>?_,jJ.nn⟩
        obtain⟨sr,nr,e⟩:=aal.mp hm
        exact lN hv sr nr e) λx hx=>by
        rcases aaj.mp hx with rfl|hx
        . exact aal.mpr ⟨z,OB,rfl⟩
        . obtain⟨sr,nr,rfl⟩:=aal.mp hx
          obtain⟨z',Er,e⟩:=jJ.nk sr nr
          rw[e]
          exact aal.mpr ⟨z',Er,rfl⟩
       rw[aaA,aaa,aaa,aaa]at this
       exact this
      have aiv:192000*(dU.length+1)<=192000*M.keepers.length:=ad1 _ eE
      refine di rfl ?_
      refine⟨_,rfl,a.g,a.dg,_,rfl,cQ.hg,i7 _ (by simp),_,rfl,a,M,_,z,_,rfl,cQ,OB,Bi,by lia,λn1 S1 qh Ha tQ ka ga Ba la ea=>?_⟩
      refine⟨_,rfl,a.g,CG,a.dg,_,_,rfl,tQ.hg,TG.cl,TG.n5,L9 ..,_,rfl,a.nx,_,rfl,gh.k (k:=.inr z) tQ.hnx (small (by show dU.length<=1000;rw[oT]at n8;lia)),?_⟩
      rw[show putK (GS.NX ⟨S1,qh,dU,s.MI,s.MW⟩) (.inr z) (.int (n1:Int))=dU++[(.inr z,.int (n1:Int))] from i5 _ hv]
      have Mu:∀x,bo (dU++[((.inr z:Key),V.int (n1:Int))]) x ↔ (x=z\/bo dU x):=λx=>by
       unfold bo
       rw[me _ _ _ _ hv]
       by_cases e:(.inr x:Key)=.inr z
       . rw[aaF e]
         exact⟨λ_=>.inl (adC e),λ_=>rfl⟩
       . rw[aaz e]
         exact⟨λh=>.inr h,λh=>h.elim (λq=>absurd (congrArg Sum.inr q) e) id⟩
      have TY:=jJ.grow (PL':=qh) ga cQ.fo.fs.len
      refine⟨S1,qh,_,_,rfl,tQ.XJ,⟨λx v hx=>?_,TY.mi.grow (.refl _) tQ.fo.fs.len λx h=>(Mu x).mpr (.inr h),TY.mw,λsr nr=>?_,?_⟩,(ki.trans ka).trans (λx o hx nx=>by rw[ag λe=>nx (by rw[e];simp[GA.own])];exact hx),gi.trans ga,?_,keep (λx h=>(Mu x).mpr (.inr h)) ((Mu z).mpr (.inl rfl))⟩
      . have rW:aG (dU++[((.inr z:Key),V.int (n1:Int))]) (.inr x)=some v:=hx
        rw[me _ _ _ _ hv]at rW
        by_cases e:(.inr x:Key)=.inr z
        . rw[aaF e]at rW
          cases rW
          cases adC e
          exact⟨OB,n1,rfl,la,ea⟩
        . rw[aaz e]at rW
          exact TY.nx x v rW
      . rcases aap.mp nr with h|h
        . exact jJ.nk sr h
        . rw[aaC.mp h]
          exact⟨z,OB,rfl⟩
      . show ((dU++[((.inr z:Key),V.int (n1:Int))]).map (·.1)).Nodup
        rw[aah,aau]
        refine⟨jJ.nn,by simp,λx hx y hy e=>?_⟩
        obtain⟨sr,nr,rfl⟩:=aal.mp hx
        have:y=.inr z:=by simpa using hy
        exact lN hv sr nr (e.trans this)
      . have hl:(dU++[((.inr z:Key),V.int (n1:Int))]).length=dU.length+1:=by rw[aag];rfl
        have:=Ba.b2
        have h2:dU.length<=c+192000*dU.length+191022:=this
        refine⟨Ba.bd.up (by rw[hl];lia),aam Ba.b1 (by rw[hl];lia),?_,aam Ba.b3 (by rw[hl];lia),aam Ba.b4 (by rw[hl];lia)⟩
        show (dU++[((.inr z:Key),V.int (n1:Int))]).length<=_
        rw[hl]
        lia
   . rintro σ Hi ⟨S',PL',dU,v2,rfl,cQ,jJ,ki,gi,Bi,pi⟩
     rw[ac4]at pi
     have Ms:=jJ.len
     have nxm:192000*dU.length<=192000*M.keepers.length:=ad1 _ Ms
     have tn:aq S'.TS n=aq s.S.TS n:=gi.aq (by rw[← hG.fo.fs.len];exact hn)
     have gl:=gi.le
     have TZ:∀z,kz z (aq S'.TS n)->bo dU z:=λz hz=>by
      rw[tn]at hz
      obtain⟨kv,hk,e⟩:=uB ((hF z).mpr hz)
      exact pi kv hk z e
     have cn:eW (aW M) (aq S'.TS n):=iG (i:=0) (ns:=aW M) (cQ.fo.fs.zH (ie ok) n (by show n<S'.N.length;lia)) (aaO _)
     have y6:=aam (nP cn) n8
     have hmr:yq S' (xI S' dU) s.MI:=λkv aY=>by
      obtain⟨i,m,e1,e2,l1,l2,hv,ho⟩:=jJ.mi kv aY
      refine⟨i,m,e1,e2,l1,l2,λe=>?_,λz hz=>(xJ jJ.nx z).mpr (ho z hz)⟩
      rw[show ev e (aq S'.TS m)=ev (qp M e) (aq S'.TS i) from hv e]
      exact Df λz hz=>(yw jJ.nx (ho z hz) e).symm
     refine⟨_,rfl,a.g,CG,a.dg,_,_,rfl,cQ.hg,TG.cl,TG.n2,vz ..,a.y,a.dy,_,rfl,cQ.fo.hy,HF _ _ _ _ _ _ _ _ (by simp),_,rfl,_,rfl,a.g,CG,a.dg,_,_,rfl,cQ.hg,TG.cl,TG.n5,L9 ..,_,rfl,a.g,CG,a.dg,_,_,rfl,cQ.hg,TG.cl,TG.n6,ab2 ..,?_⟩
     refine⟨a.y,a.dy,a.nm,a.sp,a.nd,a.kn,a.ch,a.im,a.ex,a.nx,a.mi,aW M,xI S' dU,S',dU,s.MI,n,_,rfl,cQ.fo,by lia,by lia,λz hz=>(xJ jJ.nx z).mpr (TZ z hz),cQ.hnx,cQ.hmi,cQ.ne (i:=6) (j:=8) rfl rfl (by decide),cQ.ne (i:=6) (j:=9) rfl rfl (by decide),cQ.ne (i:=5) (j:=9) rfl rfl (by decide),cQ.ne (i:=5) (j:=6) rfl rfl (by decide),TL jJ.nx,hmr,Bi.b3,Bi.bd,by rw[tn];lia,λm S2 OC H3 fo ack mQ lM k2 g2 B2 _ _ l2 e2=>?_⟩
     rw[tn]at lM B2
     have kg:KG Hi H3 a:=λb o hb nb=>by
      simp only[GA.own,aaj,aat,adg,afq]at nb
      exact k2 b o hb nb.1 nb.2.1 nb.2.2.1 nb.2.2.2.1 nb.2.2.2.2.1 nb.2.2.2.2.2.2.2.1
     have kd:∀{b:Addr}{M':List (Key×V)},Hi b=some (.dK M')->b≠a.ex->b≠a.mi->H3 b=some (.dK M'):=λhb n1 n2=>k2 _ _ hb (aD hb cQ.fo.hd (by intro z;cases z)) (aD hb cQ.fo.hk (by intro z;cases z)) (aD hb cQ.fo.hc (by intro z;cases z)) (aD hb cQ.fo.hi (by intro z;cases z)) n1 n2
     have oR:GO P w CF CM CG H3 a M ⟨S2,PL',dU,OC,s.MW⟩:=cQ.keep fo kg (kd cQ.hp (cQ.ne (i:=3) (j:=9) rfl rfl (by decide)) (cQ.ne (i:=3) (j:=6) rfl rfl (by decide))) (kd cQ.hnx (cQ.ne (i:=5) (j:=9) rfl rfl (by decide)) (cQ.ne (i:=5) (j:=6) rfl rfl (by decide))) ack (kd cQ.hmw (cQ.ne (i:=7) (j:=9) rfl rfl (by decide)) (cQ.ne (i:=7) (j:=6) rfl rfl (by decide))) (cQ.pk.grow g2 cQ.fo.fs.len) cQ.p0
     have hX3:GX M ⟨S2,PL',dU,OC,s.MW⟩:=by
      refine⟨jJ.nx.grow g2 cQ.fo.fs.len,λkv aY=>?_,jJ.mw.grow g2 cQ.fo.fs.len,jJ.nk,jJ.nn⟩
      obtain⟨i,m',e1,wo,l1,J9,hv,ho⟩:=mQ kv aY
      refine⟨i,m',e1,wo,l1,J9,λe=>?_,λz hz=>(xJ jJ.nx z).mp (ho z hz)⟩
      show ev e (aq S2.TS m')=ev (qp M e) (aq S2.TS i)
      rw[hv e]
      exact Df λz hz=>yw jJ.nx ((xJ jJ.nx z).mp (ho z hz)) e
     refine kk m S2 PL' dU OC H3 oR hX3 (λb o hb nb=>kg b o (ki _ _ (s2 _ _ hb) nb) nb) (gi.trans g2) ⟨B2.up (by lia),aam Bi.b1 (by lia),aam Bi.b2 (by lia),?_,aam Bi.b4 (by lia)⟩ l2 λe=>?_
     . show OC.length<=_
       lia
     . rw[e2 e,← tn]
       exact Df λz hz=>yw jJ.nx (TZ z hz) e
end
def OD(M:aQ)(e:Str->Bool)(t:Tr):Prop:=∃e':Str->Bool,(∀z,z∉M.switches->e' z=e z)/\ev (qp M e') t=true
theorem uC:∀{a b:List Str}{t:Tr},eW a t->eW (a++b) t
 | [],b,_,.leaf _ c=>.leaf _ c
 | x::a,b,_,.leaf _ c=>.leaf _ c
 | x::a,b,_,.node h l r=>.node h (uC l) (uC r)
 | x::a,b,_,.skip h=>.skip (uC h)
theorem Aq:∀t:Tr,wc t+1100<=1100*2 ^ t.dep
 | .leaf _=>aaf _
 | .node _ l r=>by
  have h1:=Aq l
  have h2:=Aq r
  have e1:2 ^ l.dep<=2 ^ max l.dep r.dep:=ada (by decide) (by lia)
  have e2:2 ^ r.dep<=2 ^ max l.dep r.dep:=ada (by decide) (by lia)
  show wc l+wc r+1100+1100<=1100*2 ^ (max l.dep r.dep+1)
  rw[aem]
  lia
theorem gx0:GX M ⟨S,PL,[],[],[]⟩:=⟨(λz v h=>by cases h),(λkv h=>nomatch h),(λkv h=>nomatch h),(λkv h=>nomatch h),adN⟩
abbrev HI:Stmt:=top 26
def ng(H:Hp)(t:Addr)(bs:List Int):Prop:=H t=some (.tup (bs.map V.int))
inductive Fs(K:W.Frag) (vs:List V) (H:Hp) (Q:VK):Prop
 | mk (m a1 a2 a3 a4 a5 a6 st tl:Addr) (M:aQ) (names:List Str) (bs cs:List Int) (h1:vs=[.ref m,.ref st,.ref tl]) (h2:iz H m M a1 a2 a3 a4 a5 a6) (h3:mK M names bs cs) (h4:vn K H st cs) (h5:vn K H tl bs) (h6:∀t H',H t=none->ak H H'->ng H' t (iL M bs cs)->Q (.ref t) H'):Fs K vs H Q
def xM(K:W.Frag):Sp:=λvs H Q _=>Fs K vs H Q
abbrev nNx:List Str:=["_law_m", "_law_stand", "_law_told", "_law_values_here", "_law_nexts"]
theorem T2:(["_law_name", "_law_first", "_law_values_here", "_law_nexts"]:List Str).Nodup:=dk
theorem jX{α β γ:Type} {F:α->β->Prop}{g:γ->β} : ∀{us:List α}{l:List γ},Paired (λt r=>F t (g r)) us l->Paired F us (l.map g)
 | _,_,.nil=>.nil
 | _,_,.cons h t=>.cons h (jX t)
theorem zU:∀(l:List (Str×Str)) (acc:List (Str×Str)),((acc++l).map (·.1)).Nodup->bY (dc acc) (dc l)=dc (acc++l)
 | [],acc,_=>by rw[aec];rfl
 | r::l,acc,h=>by
  have e:acc++r::l=(acc++[r])++l:=by simp
  have hn:r.1∉acc.map (·.1):=λhm=>by
   rw[aah]at h
   exact(aau.mp h).2.2 _ hm _ (by simp) rfl
  have h1:putK (dc acc) (.inr r.1) (.str r.2)=dc (acc++[r]):=by
   rw[i5 _ (LL hn)]
   unfold dc
   rw[aah]
   rfl
  show bY (putK (dc acc) (.inr r.1) (.str r.2)) (dc l)=_
  rw[h1,e]
  exact zU l (acc++[r]) (by rw[← e];exact h)
section
variable {P:Program}{w:World}{K:W.Frag}{mg:Str->Option Value}{base:Heap}
theorem Mv:aJ nNx sf (az HI):=fs
theorem Mw{f fV fB:Addr}{fd dV dB:FuncData}(F:aK K "_law_next" "_law_next" HI f fd)(O2:iD mg)
 (GV:ax P w K mg base aB 2 fV dV sf (oC K)) (mV:mg "_law_values" = some (.ref fV)) (kV':W.keepIn K (.ref fV)=true) (bV:Binds K dV sf [])
 (GB:ax P w K mg base aB 1 fB dB ["_law_values_here", "_law_literal_here"] qc) (mB:mg "_law_bit" = some (.ref fB)) (kB:W.keepIn K (.ref fB)=true) (bB:Binds K dB ["_law_values_here", "_law_literal_here"] []):ax P w K mg base aB 3 f fd sf (xM K):=by
 refine F.run Mv λcdv A outer s H vs Q E hr h=>?_
 . obtain⟨m,a1,a2,a3,a4,a5,a6,st,tl,M,names,bs,cs,rfl,hM,hf,gz,rQ,kk⟩:=h
   have hu:=eS hr
   have dq:aN 1 _:=hr.mono (by decide)
   refine⟨_,ai (aP 3 Mv.nd (dm GV hr rfl mV kV' bV .nil dv (aa (pv 0) (aa (pv 1) (aa (pv 2) ah)))))
    (ai (aP 4 Mv.nd (bK (eU rfl) (by rfl) O2.dict ade (aa (cq hu (pv 0) a0 (λ_ _=>rfl)) ah)))
    (au (aL (bK Af (by rfl) O2.tuple afa (aa (fu (N:=["_law_name", "_law_first", "_law_values_here", "_law_nexts"]) (js:=[none,none,some 3,some 4]) (g:=u7 K 2 (jB (eD 0) (jB (eD 1) u0))) (by kernel_rfl) rfl (dj (cq hu (pv 0) a0 (λ_ _=>rfl)))
     (λ_ _ _ _ _ _=>ij rfl (a9 (aC (i:=0) T2 rfl (Or.inl rfl) (.inr rfl)) (a9 (aC (i:=1) T2 rfl (Or.inl rfl) (.inr rfl)) fq))) (λ_ _ _ _ _ _=>bJ)
     (λ_ _ _ _ _ _=>dm GB dq rfl mB kB bB .nil dv (aa (pv 2) (aa (AU hu (pv 3) (pv 0) (pv 0) ⟨rfl,rfl,rfl,rfl⟩) ah)))) ah))))),?_⟩
   refine⟨_,rfl,_,rfl,_,rfl,m,a1,a2,a3,a4,a5,a6,st,tl,M,names,bs,cs,rfl,hM,hf,gz,rQ,λd H1 hd s1 JA=>?_⟩
   have kX:=hM.same s1
   obtain⟨us,ha,iP⟩:=id kX.nx
   have Ds:Paired (λt kv=>H1 t=some (.tup [kV kv.1,kv.2])) us (dc M.nexts):=jX (g:=λr:Str×Str=>((.inr r.1:Key),V.str r.2)) (oP (g:=jr) iP)
   refine⟨_,rfl,m,.ref a4,rfl,bq.k (k:=.inr "nexts") kX.top,a4,us,dc M.nexts,rfl,ha,Ds,λe he=>?_⟩
   rw[show bY [] (dc M.nexts)=dc M.nexts from zU M.nexts [] hf.ok.nxd]
   have s2:ak H1 (upd H1 e (.dK (dc M.nexts))):=ak.av he
   have q2:(upd H1 e (.dK (dc M.nexts))) e=some (.dK (dc M.nexts)):=af
   generalize upd H1 e (.dK (dc M.nexts))=H2 at s2 q2 ⊢
   have mQ:=kX.same s2
   have hd2:=s2 _ _ JA
   obtain⟨ws,hb,CK⟩:=id mQ.kp
   have uI:=CK.length
   rw[aaa]at uI
   have n2:=hf.n2
   have jG:=s1.trans s2
   refine⟨_,rfl,m,.ref a2,rfl,bq.k (k:=.inr "keepers") mQ.top,a2,rfl,⟨_,ar.of hb⟩,λD hD=>?_⟩
   refine fz M.keepers.length (λi acc σ H3=>acc=((iL M bs cs).take i).map V.int/\(∃u v,σ=[u,v,some (.ref d),some (.ref e)])/\ak H2 H3) ⟨rfl,⟨none,none,rfl⟩,ak.av hD⟩ af ?_ ?_
   . rintro acc σ H3 df ⟨rfl,_,s3⟩
     rw[adl (by rw[tL];exact aaf _)]at df
     refine⟨⟨_,ar.of (s3 _ _ hb),by rw[aaa,uI];exact aaf _⟩,D,_,rfl,.inl ⟨ar.of df,λt ht=>?_⟩⟩
     exact kk t _ (jG.free (s3.free ht)) ((jG.trans s3).trans (ak.av ht)) af
   . rintro i acc σ H3 hi df ⟨rfl,⟨u,v,rfl⟩,s3⟩
     obtain⟨t,ht,hT⟩:=bx CK (i:=i) (b:=kQ M.keepers[i]) (by rw[aae,aab hi];rfl)
     have ei:(ws.map V.ref)[i]?=some (.ref t):=by rw[aae,ht];rfl
     refine⟨⟨_,_,ar.of (s3 _ _ hb),ei⟩,?_⟩
     rintro x' H' ⟨rfl,jn⟩
     have ex:=jn _ (ar.of (s3 _ _ hb))
     rw[ei]at ex
     cases ex
     refine⟨t,_,rfl,aR.of (s3 _ _ hT),rfl,_,_,rfl,_,_,rfl,rfl,wN ?_⟩
     have q3:=s3 _ _ q2
     refine⟨_,rfl,_,rfl,e,rfl,.inl ⟨_,.inl q3⟩,_,rfl,_,rfl,_,bq.k (k:=.inr M.keepers[i].1) q3,?_⟩
     rw[CO]
     refine⟨d,_,_,rfl,.inl (s3 _ _ hd2),hf.next (adf hi),λH4 s4=>?_⟩
     refine⟨_,s4 _ _ df,?_,cE hi af ⟨?_,⟨_,_,rfl⟩,?_⟩⟩
     . rw[aaa,aaG]
       exact small (by lia)
     . have e:(iL M bs cs)[i]?=some (dQ (cH M bs cs M.gates.length) (hU M.nexts M.keepers[i].1)):=by
        unfold iL
        rw[aae,aab hi]
        rfl
       rw[adn,e,aah]
       rfl
     . intro y o hy
       rw[ag (ae hy hD)]
       exact s4 y o (s3 y o hy)
end
end Gen
namespace L2
open PySem PySem.Spec PyProof.Rows
theorem Ft:∀{ns:List Int}{us:List Value},Vals (ns.map V.int) us->∃ys:List (Int×Tok),us=ys.map (λp=>Value.int p.1 p.2)/\ys.map (·.1)=ns
 | [],_,.nil=>⟨[],rfl,rfl⟩
 | n::ns,_,.cons r t=>by
  obtain⟨k,rfl⟩:=r
  obtain⟨ys,rfl,e⟩:=Ft t
  exact⟨(n,k)::ys,rfl,by rw[aaB,e]⟩
section
variable {X:Cx}
def HJ(K:W.Frag):List V->Hp->VK->Prop:=λxs H Q=>∃(p:Addr) (ns:List Int),xs=[.ref p]/\ar K H p (ns.map V.int)/\0<ns.length/\∀M,M∈ns->(∀a∈ns,a<=M)->Q (.int M) H
theorem zV(hc:X.calm=true):i0 X (.builtin "max") (HJ X.K):=by
 intro pins s σ H xs us Q I r h
 obtain⟨p,ns,rfl,hp,hne,q⟩:=h
 obtain⟨u,rfl,rx⟩:=vals1 r
 cases(show u=Value.ref p from rx)
 obtain⟨its,rv,pl,hz⟩:=I.list hp
 obtain⟨ys,rfl,rfl⟩:=Ft rv
 have hl:=pl.isList
 have e:(ys.map λp=>Value.int p.1 p.2).toArray=intItems ys.toArray:=by simp[intItems]
 rw[e]at hl
 have hsz:0<ys.toArray.size:=by simpa using hne
 refine max_intList (I.ok.hd hc) hl hsz λv h' tk hv hk=>?_
 obtain⟨t,rfl⟩:=intItems_at hv
 obtain⟨h1,h2⟩:=argBest_gt (numAt ys.toArray) (ys.toArray.size-1)
 have na:∀i,i<ys.length->numAt ys.toArray i∈ys.map (·.1):=λi hi=>by
  unfold numAt
  rw[afr,aab hi]
  exact aal.mpr ⟨ys[i],adf hi,rfl⟩
 refine⟨.int _,H,I.kept hk,⟨t,rfl⟩,q _ (na _ ?_) λa ha=>?_⟩
 . rw[aan]at hsz h1 ⊢
   lia
 . obtain⟨y,hy,rfl⟩:=aal.mp ha
   obtain⟨j,hj⟩:=agO hy
   have hjl:=(aak.mp hj).1
   have:=h2 j (by rw[aan];lia)
   have e2:numAt ys.toArray j=y.1:=by unfold numAt;rw[afr,hj];rfl
   rw[e2]at this
   exact this
end
end L2
namespace Gen
open PySem L2
theorem tX:∀k,(bg k).Nodup
 | 0=>by show ([[]]:List (List Int)).Nodup;simp
 | k+1=>by
  rw[lR,aau]
  refine⟨afn.mpr (aeO (λh e=>h (aea e).2) (tX k)),afn.mpr (aeO (λh e=>h (aea e).2) (tX k)),λa ha b hb e=>?_⟩
  obtain⟨x,_,rfl⟩:=aal.mp ha
  obtain⟨y,_,rfl⟩:=aal.mp hb
  exact absurd (aea e).1 (by decide)
theorem qq:∀{k:Nat}{r:List Int},r.length=k->(∀b∈r,b=0\/b=1)->r∈bg k
 | 0,r,h,_=>by
  have:r=[]:=ads.mp h
  subst this
  show []∈([[]]:List (List Int))
  simp
 | k+1,[],h,_=>by cases h
 | k+1,x::r,h,hb=>by
  rw[lR]
  have ih:=qq (k:=k) (r:=r) (by simpa using h) λb kN=>hb b (aav _ kN)
  rcases hb x aas with rfl|rfl
  . exact aaI _ (aal.mpr ⟨r,ih,rfl⟩)
  . exact aar _ (aal.mpr ⟨r,ih,rfl⟩)
def vI(k:Nat)(r:List Int):Nat:=(bg k).idxOf r
theorem nV(h:r∈bg k):vI k r<(bg k).length:=List.idxOf_lt_length_of_mem h
theorem Fu(h:r∈bg k):(bg k)[vI k r]?=some r:=by
 rw[aab (nV h)]
 exact congrArg some (List.getElem_idxOf (nV h))
theorem Fv(h:(bg k)[t]?=some r):vI k r=t:=by
 have hm:=aaK h
 exact(af4 (nV hm) (tX k)).mp ((Fu hm).trans h.symm)
def bh(M:aQ)(c:List Int):List Nat:=(bg M.switches.length).map λd=>vI M.keepers.length (iL M d c)
def fU(M:aQ)(bs:List Bool):List Bool:=(bg M.keepers.length).map λc=>(bh M c).any λj=>bs.getD j false
theorem eG(M:aQ)(bs:List Bool):(fU M bs).length=2 ^ M.keepers.length:=by unfold fU;rw[aaa,bu]
theorem uD(e:Str->Bool):∀{ns:List Str}{d:List Int},ns.Nodup->d.length=ns.length->(∀b∈d,b=0\/b=1)->∃e':Str->Bool,(∀z,z∉ns->e' z=e z)/\rowOf e' ns=d
 | [],d,_,h,_=>⟨e,λ_ _=>rfl,by rw[ads.mp h];rfl⟩
 | n::ns,[],_,h,_=>by cases h
 | n::ns,x::d,nd,h,hb=>by
  rw[aaP]at nd
  obtain⟨e',h1,h2⟩:=uD e (ns:=ns) (d:=d) nd.2 (by simpa using h) λb kN=>hb b (aav _ kN)
  refine⟨put e' n (decide (x=1)),λz hz=>?_,?_⟩
  . rw[aaj,afq]at hz
    rw[show put e' n (decide (x=1)) z=e' z from aaz hz.1]
    exact h1 z hz.2
  . show bI (put e' n (decide (x=1)) n)::rowOf (put e' n (decide (x=1))) ns=x::d
    rw[show put e' n (decide (x=1)) n=decide (x=1) from aaF rfl]
    congr 1
    . rcases hb x aas with rfl|rfl <;> rfl
    . rw[← h2]
      unfold rowOf
      refine adZ λz hz=>?_
      rw[show put e' n (decide (x=1)) z=e' z from aaz λq=>nd.1 (by rw[← q];exact hz)]
theorem Mx(ok:c8 M all)(e:Str->Bool):rowOf (qp M e) (bQ M)=iL M (rowOf e M.switches) (rowOf e (bQ M)):=by
 unfold rowOf iL
 rw[adV]
 refine adZ λr hr=>?_
 have hk:r.1∈bQ M:=aal.mpr ⟨r,hr,rfl⟩
 show bI (qp M e r.1)=dQ (vE M e) (hU M.nexts r.1)
 unfold qp
 rw[aaF hk]
 unfold eF
 rcases jw (uy M e) (hU M.nexts r.1) with h|h <;> rw[h] <;> rfl
theorem T3(ok:c8 M all)(hb:bs.length=2 ^ M.keepers.length)(e:Str->Bool):ev e (cn (bQ M) (fU M bs))=true ↔ OD M e (cn (bQ M) bs):=by
 have lk:(bQ M).length=M.keepers.length:=aaa ..
 have nd:=jA ok
 have Kx:M.switches.Nodup:=(aau.mp (aau.mp nd).1).1
 have T4:∀z,z∈bQ M->z∉M.switches:=λz hz hw=>(aau.mp (aau.mp nd).1).2.2 z hw z hz rfl
 obtain⟨t,h1,h2⟩:=tK e (bQ M)
 rw[oO e (bQ M) (fU M bs) t (by rw[eG,lk]) h2,aai]
 unfold fU
 rw[aae,← lk,h2,adQ,Option.getD_some,adx]
 have key:∀e':Str->Bool,(∀z,z∉M.switches->e' z=e z)->ev (qp M e') (cn (bQ M) bs)=bs.getD (vI M.keepers.length (iL M (rowOf e' M.switches) (rowOf e (bQ M)))) false:=λe' h=>by
  have re:rowOf e' (bQ M)=rowOf e (bQ M):=by
   unfold rowOf
   exact adZ λz hz=>by rw[h z (T4 z hz)]
  obtain⟨t',h1',sq⟩:=tK (qp M e') (bQ M)
  rw[oO (qp M e') (bQ M) bs t' (by rw[hb,lk]) sq,Mx ok e',re]at *
  rw[lk]at sq
  rw[Fv sq]
 constructor
 . rintro⟨j,hj,hv⟩
   unfold bh at hj
   obtain⟨d,hd,rfl⟩:=aal.mp hj
   obtain⟨dl,db⟩:=gY _ _ hd
   obtain⟨e',c1,c2⟩:=uD e Kx dl db
   exact⟨e',c1,by rw[key e' c1,c2];exact hv⟩
 . rintro⟨e',c1,c2⟩
   rw[key e' c1]at c2
   refine⟨_,?_,c2⟩
   unfold bh
   refine aal.mpr ⟨rowOf e' M.switches,qq (by unfold rowOf;rw[aaa]) (nM e' _),rfl⟩
theorem KI(h:rj K H us bs):kZ K H (us.map V.ref) (bs.map dT):=by
 induction h with
 | nil=>exact .nil
 | cons e _ ih=>exact .cons (.tup e (qW _)) ih
section
variable (M:aQ) (b0:List Bool)
def rg:Nat->List Bool
 | 0=>b0
 | i+1=>List.zipWith or b0 (fU M (rg i))
def lt:Nat->List Bool
 | 0=>b0
 | i+1=>List.zipWith (λx y=>x && !y) (rg M b0 (i+1)) (rg M b0 i)
end
theorem kE(ha:a.length=n)(hb:b.length=n):(List.zipWith f a b).length=n:=by rw[ag0,ha,hb,ahn]
theorem fk(ha:a.length=n)(hb:b.length=n)(h:t<n):(List.zipWith f a b).getD t false=f (a.getD t false) (b.getD t false):=by
 rw[aai,aai,aai,aab (by rw[kE ha hb];exact h),aab (by lia),aab (by lia),List.getElem_zipWith]
 rfl
theorem xN{a b:List Bool}{n:Nat}(ha:a.length=n)(hb:b.length=n)(h:∀t,t<n->a.getD t false=b.getD t false):a=b:=by
 refine ags (by rw[ha,hb]) λt h1 h2=>?_
 have:=h t (by lia)
 rw[aai,aai,aab h1,aab h2]at this
 exact this
section
variable {M:aQ}{b0:List Bool}
theorem br(h:b0.length=2 ^ M.keepers.length):∀i,(rg M b0 i).length=2 ^ M.keepers.length
 | 0=>h
 | i+1=>kE h (eG _ _)
theorem oU(h:b0.length=2 ^ M.keepers.length):∀i,(lt M b0 i).length=2 ^ M.keepers.length
 | 0=>h
 | i+1=>kE (br h _) (br h _)
theorem xO(bs:List Bool) (h:(bg M.keepers.length)[t]?=some c):(fU M bs).getD t false=(bh M c).any λj=>bs.getD j false:=by
 rw[aai]
 unfold fU
 rw[aae,h]
 rfl
theorem vJ(h:t<2 ^ k):∃c,(bg k)[t]?=some c:=⟨_,aab (by rw[bu];exact h)⟩
theorem Dt(h:∀j,a.getD j false=true->b.getD j false=true)(ht:t<2 ^ M.keepers.length) (hd:(fU M a).getD t false=true):(fU M b).getD t false=true:=by
 obtain⟨c,hc⟩:=vJ ht
 rw[xO _ hc]at hd ⊢
 obtain⟨j,hj,hv⟩:=adx.mp hd
 exact adx.mpr ⟨j,hj,h j hv⟩
theorem T6(h:∀j,d.getD j false=true->a.getD j false=true\/b.getD j false=true)(ht:t<2 ^ M.keepers.length) (hd:(fU M d).getD t false=true):(fU M a).getD t false=true\/(fU M b).getD t false=true:=by
 obtain⟨c,hc⟩:=vJ ht
 rw[xO _ hc]at hd ⊢
 rw[xO _ hc]
 obtain⟨j,hj,hv⟩:=adx.mp hd
 rcases h j hv with h|h
 . exact .inl (adx.mpr ⟨j,hj,h⟩)
 . exact .inr (adx.mpr ⟨j,hj,h⟩)
theorem qr{a:List Bool}{j:Nat}(h:a.getD j false=true):j<a.length:=by
 rw[aai]at h
 cases e:a[j]? with
 | none=>rw[e]at h;cases h
 | some x=>exact(aak.mp e).1
theorem uE(h:b0.length=2 ^ M.keepers.length):∀i j,(rg M b0 i).getD j false=true->(rg M b0 (i+1)).getD j false=true
 | 0,j,hj=>by
  have hl:=qr hj
  rw[br h]at hl
  show (List.zipWith or b0 (fU M (rg M b0 0))).getD j false=true
  rw[fk h (eG _ _) hl,show b0.getD j false=true from hj]
  rfl
 | i+1,j,hj=>by
  have hl:=qr hj
  rw[br h]at hl
  show (List.zipWith or b0 (fU M (rg M b0 (i+1)))).getD j false=true
  rw[fk h (eG _ _) hl]
  have xg:(List.zipWith or b0 (fU M (rg M b0 i))).getD j false=true:=hj
  rw[fk h (eG _ _) hl,Bool.or_eq_true]at xg
  rw[Bool.or_eq_true]
  exact xg.imp id λq=>Dt (uE h i) hl q
theorem lt_next(h:b0.length=2 ^ M.keepers.length):∀i,lt M b0 (i+1)=List.zipWith (λx y=>x && !y) (fU M (lt M b0 i)) (rg M b0 i)
 | 0=>by
  refine xN (oU h _) (kE (eG _ _) (br h _)) λt ht=>?_
  show (List.zipWith (λx y=>x && !y) (List.zipWith or b0 (fU M b0)) b0).getD t false=_
  rw[fk (kE h (eG _ _)) h ht,fk h (eG _ _) ht,fk (eG _ _) (br h _) ht]
  show ((b0.getD t false || (fU M b0).getD t false) && !b0.getD t false)=((fU M b0).getD t false && !b0.getD t false)
  cases b0.getD t false <;> simp
 | i+1=>by
  refine xN (oU h _) (kE (eG _ _) (br h _)) λt ht=>?_
  show (List.zipWith (λx y=>x && !y) (rg M b0 (i+2)) (rg M b0 (i+1))).getD t false=_
  rw[fk (br h _) (br h _) ht,fk (eG _ _) (br h _) ht]
  cases e:(rg M b0 (i+1)).getD t false with
  | true=>simp
  | false=>
   show ((rg M b0 (i+2)).getD t false && true)=((fU M (lt M b0 (i+1))).getD t false && true)
   rw[afx,afx]
   show (List.zipWith or b0 (fU M (rg M b0 (i+1)))).getD t false=_
   rw[fk h (eG _ _) ht]
   have e':(List.zipWith or b0 (fU M (rg M b0 i))).getD t false=false:=e
   rw[fk h (eG _ _) ht,Bool.or_eq_false_iff]at e'
   rw[e'.1,Bool.false_or]
   refine adb.mpr ⟨λhd=>?_,λhd=>?_⟩
   . have:=T6 (a:=rg M b0 i) (b:=lt M b0 (i+1)) (λj hj=>?_) ht hd
     . rcases this with q|q
       . rw[e'.2]at q;cases q
       . exact q
     . have hl:=qr hj
       rw[br h]at hl
       cases q:(rg M b0 i).getD j false with
       | true=>exact .inl rfl
       | false=>
        refine .inr ?_
        show (List.zipWith (λx y=>x && !y) (rg M b0 (i+1)) (rg M b0 i)).getD j false=true
        rw[fk (br h _) (br h _) hl,hj,q]
        rfl
   . refine Dt (λj hj=>?_) ht hd
     have xg:(List.zipWith (λx y=>x && !y) (rg M b0 (i+1)) (rg M b0 i)).getD j false=true:=hj
     have hl:=qr xg
     rw[kE (br h _) (br h _)]at hl
     rw[fk (br h _) (br h _) hl,adj]at xg
     exact xg.1
theorem Qi(h:b0.length=2 ^ M.keepers.length)(i:Nat):rg M b0 (i+1)=List.zipWith or (rg M b0 i) (lt M b0 (i+1)):=by
 refine xN (br h _) (kE (br h _) (oU h _)) λt ht=>?_
 rw[fk (br h _) (oU h _) ht]
 show _=((rg M b0 i).getD t false || (List.zipWith (λx y=>x && !y) (rg M b0 (i+1)) (rg M b0 i)).getD t false)
 rw[fk (br h _) (br h _) ht]
 cases e:(rg M b0 i).getD t false with
 | true=>rw[uE h i t e];rfl
 | false=>simp
theorem Qj(h:b0.length=2 ^ M.keepers.length)(i:Nat):(∀t,(lt M b0 (i+1)).getD t false=false) ↔ rg M b0 (i+1)=rg M b0 i:=by
 constructor
 . intro hn
   refine xN (br h _) (br h _) λt ht=>?_
   have:=hn t
   have q:(List.zipWith (λx y=>x && !y) (rg M b0 (i+1)) (rg M b0 i)).getD t false=false:=this
   rw[fk (br h _) (br h _) ht]at q
   cases e:(rg M b0 i).getD t false with
   | true=>rw[uE h i t e]
   | false=>rw[e]at q;simpa using q
 . intro e t
   by_cases ht:t<2 ^ M.keepers.length
   . show (List.zipWith (λx y=>x && !y) (rg M b0 (i+1)) (rg M b0 i)).getD t false=false
     rw[fk (br h _) (br h _) ht,e]
     simp
   . cases q:(lt M b0 (i+1)).getD t false with
     | false=>rfl
     | true=>have:=qr q;rw[oU h]at this;lia
def cnt(a:List Bool):Nat:=a.countP id
theorem T7(a:List Bool):cnt a<=a.length:=List.countP_le_length
theorem Dv:∀{a b:List Bool},a.length=b.length->(∀j,a.getD j false=true->b.getD j false=true)->a≠b->cnt a<cnt b
 | [],[],_,_,h=>absurd rfl h
 | x::a,y::b,hl,hm,hne=>by
  have rO:a.length=b.length:=by simpa using hl
  have Zj:∀j,a.getD j false=true->b.getD j false=true:=λj=>by simpa using hm (j+1)
  have h0:x=true->y=true:=by simpa using hm 0
  have hle:cnt a<=cnt b:=by
   by_cases e:a=b
   . rw[e];exact aaf _
   . exact ael (Dv rO Zj e)
  unfold cnt at *
  rw[List.countP_cons,List.countP_cons]
  by_cases e:a=b
  . subst e
    cases x <;> cases y
    . exact absurd rfl hne
    . simp
    . exact absurd (h0 rfl) (by decide)
    . exact absurd rfl hne
  . have:=Dv rO Zj e
    unfold cnt at this
    cases x <;> cases y <;> simp at h0 ⊢ <;> lia
theorem KJ(h:b0.length=2 ^ M.keepers.length):∀i,(∀j,j<i->rg M b0 (j+1)≠rg M b0 j)->i<=cnt (rg M b0 i)
 | 0,_=>aaO _
 | i+1,hi=>by
  have ih:=KJ h i λj hj=>hi j (by lia)
  have:=Dv (by rw[br h,br h]) (uE h i) (aax (hi i (by lia)))
  lia
theorem Dw(h:b0.length=2 ^ M.keepers.length) (hi:∀j,j<i->rg M b0 (j+1)≠rg M b0 j):i<=2 ^ M.keepers.length:=by
 have h1:=KJ h i hi
 have h2:=T7 (rg M b0 i)
 rw[br h]at h2
 lia
end
abbrev vK:Stmt:=inClass (top 9) 5
abbrev yx:Stmt:=inClass (top 9) 6
inductive xP(P:Program) (w:World) (CF CM CG:Addr) (vs:List V) (H:Hp) (Q:VK):Prop
 | mk (a:GA) (M:aQ) (s:GS) (i j b:Nat) (h1:vs=[.ref a.g,.int (i:Int),.int (j:Int)]) (h2:GO P w CF CM CG H a M s) (h3:i<s.S.N.length) (h4:j<s.S.N.length) (h5:GB s b) (h6:b+1022<3000000) (h7:∀(n:Nat) (S':de) (H':Hp),GO P w CF CM CG H' a M ⟨S',s.PL,s.NX,s.MI,s.MW⟩->Kp H H' a.nd a.kn a.ch a.im a.ex->cj s.S S'->GB ⟨S',s.PL,s.NX,s.MI,s.MW⟩ (b+1022)->n<S'.N.length->(∀e,ev e (aq S'.TS n)=(ev e (aq s.S.TS i) || ev e (aq s.S.TS j)))->Q (.int (n:Int)) H'):xP P w CF CM CG vs H Q
def zW(P:Program)(w:World)(CF CM CG:Addr):Sp:=λvs H Q _=>xP P w CF CM CG vs H Q
inductive zX(P:Program) (w:World) (CF CM CG:Addr) (vs:List V) (H:Hp) (Q:VK):Prop
 | mk (a:GA) (M:aQ) (s:GS) (b:Nat) (h1:vs=[.ref a.g]) (h2:GO P w CF CM CG H a M s) (h3:H a.f2=some (.dK (dY M.keepers))) (h4:GB s b) (h5:b+2044*M.keepers.length<2800000) (h6:∀(n:Nat) (S':de) (PL':List (Key×V)) (H':Hp),GO P w CF CM CG H' a M ⟨S',PL',s.NX,s.MI,s.MW⟩->KG H H' a->cj s.S S'->GB ⟨S',PL',s.NX,s.MI,s.MW⟩ (b+2044*M.keepers.length)->n<S'.N.length->Q (.int (n:Int)) H'):zX P w CF CM CG vs H Q
def Dx(P:Program)(w:World)(CF CM CG:Addr):Sp:=λvs H Q _=>zX P w CF CM CG vs H Q
section
variable {P:Program}{w:World}{CF CM CG:Addr}{H:Hp}{a:GA}{M:aQ}{s:GS}
theorem GO.My(h:GO P w CF CM CG H a M s)(hq:H q=some u)(nt:∀xs,u≠.tup xs)(nq:∀b∈[a.g,a.x,a.f1,a.f3,a.f4,a.f5,a.y,a.nm,a.sp,a.nd,a.kn,a.ch,a.im,a.ex,a.pl,a.dh,a.nx,a.mi,a.mw],q≠b) (n2:q=a.f2->Rd (upd H q o) a.f2 (.dK (M.keepers.map λr=>((.inr r.1:Key),r.2)))):GO P w CF CM CG (upd H q o) a M s:=by
 have n:∀b∈[a.g,a.x,a.f1,a.f3,a.f4,a.f5,a.y,a.nm,a.sp,a.nd,a.kn,a.ch,a.im,a.ex,a.pl,a.dh,a.nx,a.mi,a.mw],∀{v:HO},H b=some v->(upd H q o) b=some v:=λb hb v hv=>by
  rw[ag (aax (nq b hb))]
  exact hv
 have kt:∀b xs,H b=some (.tup xs)->(upd H q o) b=some (.tup xs):=λb xs hb=>by
  rw[ag (aD hb hq λz=>nt xs z.symm)]
  exact hb
 have f:=h.fo
 have fo:FO P w CF (upd H q o) a.y a.dy a.nm a.sp a.nd a.kn a.ch a.im a.ex (aW M) s.S:=⟨n _ (by simp) f.hy,n _ (by simp) f.hn,n _ (by simp) f.hs,n _ (by simp) f.hd,Paired.cw f.ht λ_ _ e=>kt _ _ e,n _ (by simp) f.hk,n _ (by simp) f.hc,f.ck,n _ (by simp) f.hi,λp hp=>⟨(f.ik p hp).1.keep kt,(f.ik p hp).2⟩,n _ (by simp) f.he,
  λkv aY=>let ⟨i,a,b,c⟩:=f.ek kv aY; ⟨i,a,b,c.keep kt⟩,f.e0,f.fs,f.nn,f.ns,f.n8,f.d1,f.d2,f.d3⟩
 have m2:Rd (upd H q o) a.f2 (.dK (M.keepers.map λr=>((.inr r.1:Key),r.2))):=by
  by_cases e:q=a.f2
  . exact n2 e
  . refine h.mf.h2.imp (λz=>?_) (λ⟨ob,z⟩=>⟨ob,?_⟩) <;> rw[ag (aax e)] <;> exact z
 exact⟨n _ (by simp) h.hg,fo,⟨n _ (by simp) h.mf.hx,n _ (by simp) h.mf.h1,m2,n _ (by simp) h.mf.h3,Paired.cw h.mf.hp λ_ _ e=>kt _ _ e⟩,n _ (by simp) h.h4,n _ (by simp) h.h5,n _ (by simp) h.hp,n _ (by simp) h.hin,n _ (by simp) h.hnx,n _ (by simp) h.hmi,n _ (by simp) h.hmw,h.ok,h.n60,h.pk,h.p0,h.d1,h.d3,h.dd⟩
theorem GO.T8(h:GO P w CF CM CG H a M s)(hq:H a.f2=some u) (hu:u=.dK (dY M.keepers)\/∃ob,u=.du ob (.dK (dY M.keepers))) (ho:o=.dK (dY M.keepers)\/∃ob,o=.du ob (.dK (dY M.keepers))):GO P w CF CM CG (upd H a.f2 o) a M s:=by
 have ne:∀{b:Addr}{v:HO},H b=some v->(∀kv,v≠.dK kv)->(∀ob kv,v≠.du ob (.dK kv))->a.f2≠b:=λhb n1 n2 e=>by
  rw[← e,hq]at hb
  rcases hu with rfl|⟨ob,rfl⟩
  . exact n1 _ (aay hb).symm
  . exact n2 _ _ (aay hb).symm
 refine h.My hq (λxs z=>by rcases hu with rfl|⟨ob,rfl⟩ <;> cases z) (λb hb=>?_) (λ_=>?_)
 . simp only[aaj,aat,adg]at hb
   rcases hb with rfl|rfl|rfl|rfl|rfl|rfl|rfl|rfl|rfl|rfl|rfl|rfl|rfl|rfl|rfl|rfl|rfl|rfl|rfl
   . exact ne h.hg (by intro _ z;cases z) (by intro _ _ z;cases z)
   . exact ne h.mf.hx (by intro _ z;cases z) (by intro _ _ z;cases z)
   . exact ne h.mf.h1 (by intro _ z;cases z) (by intro _ _ z;cases z)
   . exact ne h.mf.h3 (by intro _ z;cases z) (by intro _ _ z;cases z)
   . exact h.ne (i:=0) (j:=1) rfl rfl (by decide)
   . exact h.ne (i:=0) (j:=2) rfl rfl (by decide)
   . exact ne h.fo.hy (by intro _ z;cases z) (by intro _ _ z;cases z)
   . exact ne h.fo.hn (by intro _ z;cases z) (by intro _ _ z;cases z)
   . exact h.ne (i:=0) (j:=8) rfl rfl (by decide)
   . exact ne h.fo.hd (by intro _ z;cases z) (by intro _ _ z;cases z)
   . exact ne h.fo.hk (by intro _ z;cases z) (by intro _ _ z;cases z)
   . exact ne h.fo.hc (by intro _ z;cases z) (by intro _ _ z;cases z)
   . exact ne h.fo.hi (by intro _ z;cases z) (by intro _ _ z;cases z)
   . exact h.ne (i:=0) (j:=9) rfl rfl (by decide)
   . exact h.ne (i:=0) (j:=3) rfl rfl (by decide)
   . exact h.ne (i:=0) (j:=4) rfl rfl (by decide)
   . exact h.ne (i:=0) (j:=5) rfl rfl (by decide)
   . exact h.ne (i:=0) (j:=6) rfl rfl (by decide)
   . exact h.ne (i:=0) (j:=7) rfl rfl (by decide)
 . rcases ho with rfl|⟨ob,rfl⟩
   . exact .inl af
   . exact .inr ⟨ob,af⟩
end
section
variable {P:Program}{w:World}{K:W.Frag}{mg:Str->Option Value}{base:Heap}{CF CM CG:Addr}
theorem acm:aJ ["self", "one", "other"] ["self", "one", "other"] (az vK):=fs
theorem HK(F:aK K "either_of" "Grove.either_of" vK f fd)(TG:jN K mg CG)(TF:hZ K mg CF)
 (gC:ax P w K mg base aB 10 fC dC jW (iH P w CF 9)) (mC:Meth K CF "chosen" fC) (bC:Binds K dC jW []):ax P w K mg base aB 11 f fd ["self", "one", "other"] (zW P w CF CM CG):=by
 refine F.run acm λcdv A outer s H vs Q E hr h=>?_
 . obtain⟨a,M,s,i,j,b,rfl,hG,hi,hj,hB,hb,kk⟩:=h
   refine⟨_,au (aL (bt (aE (pv 0) rfl) TF.cl mC gC hr bC (aa (pv 1) (aa ao (aa (pv 2) ah))))),?_⟩
   have two:=hG.fo.fs.two
   have n8:=hG.fo.n8
   refine⟨_,rfl,a.g,CG,a.dg,_,_,rfl,hG.hg,TG.cl,TG.n2,vz ..,a.y,a.dy,_,rfl,hG.fo.hy,rq ..,_,rfl,_,rfl,a.y,a.dy,a.nm,a.sp,a.nd,a.kn,a.ch,a.im,a.ex,aW M,s.S,i,1,j,b,rfl,hG.fo,hi,by lia,hj,by lia,hB.bd,by rw[c9];lia,λn S' H' fo k g B _ _ l e _=>?_⟩
   refine kk n S' H' (hG.grown fo k g) k g ⟨B,aam hB.b1 (aaJ ..),aam hB.b2 (aaJ ..),aam hB.b3 (aaJ ..),aam hB.b4 (aaJ ..)⟩ l λv=>?_
   rw[e v,hG.fo.fs.t1]
   show (if _ then true else _)=_
   cases ev v (aq s.S.TS i) <;> simp
theorem Dy:aJ ["self", "number", "keeper", "first"] ["self"] (az yx):=fs
theorem KL(F:aK K "first_stands" "Grove.first_stands" yx f fd)(TG:jN K mg CG)(TM:qP K mg CM)
 (gN:ax P w K mg base aB 12 fN dN ["self", "literal"] (xx P w CF CM CG 0)) (mN:Meth K CG "number_of" fN) (bN:Binds K dN ["self", "literal"] [])
 (gA:ax P w K mg base aB 11 fA dA ["self", "one", "other"] (uz P w CF CM CG)) (mA:Meth K CG "both_of" fA) (bA:Binds K dA ["self", "one", "other"] []):ax P w K mg base aB 13 f fd ["self"] (Dx P w CF CM CG):=by
 refine F.run Dy λcdv A outer s H vs Q E hr h=>?_
 . obtain⟨a,M,s,b,rfl,hG,h2,hB,hb,kk⟩:=h
   obtain⟨all,ok⟩:=hG.ok
   have SY:aN 11 _:=hr.mono (by decide)
   refine⟨_,ai (aP 1 Dy.nd ao)
    (ai (PF (fi ac7 rfl (LJ (aE (aE (pv 0) rfl) rfl)) (ij rfl (a9 (aC (i:=2) Dy.nd rfl (Or.inl rfl)) (a9 (aC (i:=3) Dy.nd rfl (Or.inl rfl)) fq)))
     (au (cy (gw (O4 (pv 3))) (au (aP 1 Dy.nd (bt (pv 0) TG.cl mA gA SY bA (aa (pv 1) (aa (bt (pv 0) TG.cl mN gN hr bN (aa (oa (cU kI (pv 3) ao (dz _)) (pv 2) (aX gg a0 (pv 2))) ah)) ah))))) ba))))
    (au (aL (pv 1)))),?_⟩
   have two:=hG.fo.fs.two
   refine⟨_,rfl,a.g,CG,a.dg,_,_,rfl,hG.hg,TG.cl,TG.n1,Hh ..,a.x,CM,a.dx,_,_,rfl,hG.mf.hx,TM.cl,TM.n2,BM ..,a.f2,dY M.keepers,rfl,h2,λob=>?_⟩
   have Zk:=hG.T8 (o:=.du ob (.dK (dY M.keepers))) h2 (.inl rfl) (.inr ⟨ob,rfl⟩)
   have qf:(upd H a.f2 (.du ob (.dK (dY M.keepers)))) a.f2=some (.du ob (.dK (dY M.keepers))):=af
   have kf:∀x u,H x=some u->x≠a.f2->(upd H a.f2 (.du ob (.dK (dY M.keepers)))) x=some u:=λx u hx nx=>by rw[ag nx];exact hx
   generalize upd H a.f2 (.du ob (.dK (dY M.keepers)))=H1 at Zk qf kf ⊢
   have OE:a.f2∉a.own:=λhm=>by
    simp only[GA.own,aaj,aat,adg]at hm
    rcases hm with e|e|e|e|e|e|e|e|e
    . rw[e,hG.fo.hd]at h2;cases h2
    . rw[e,hG.fo.hk]at h2;cases h2
    . rw[e,hG.fo.hc]at h2;cases h2
    . rw[e,hG.fo.hi]at h2;cases h2
    . exact hG.ne (i:=0) (j:=9) rfl rfl (by decide) e
    . exact hG.ne (i:=0) (j:=3) rfl rfl (by decide) e
    . exact hG.ne (i:=0) (j:=5) rfl rfl (by decide) e
    . exact hG.ne (i:=0) (j:=6) rfl rfl (by decide) e
    . exact hG.ne (i:=0) (j:=7) rfl rfl (by decide) e
   have Zl:(dY M.keepers).length=M.keepers.length:=by unfold dY;rw[aaa]
   refine JQ (λi σ Hi=>∃(S':de) (PL':List (Key×V)) (n:Nat) (v2 v3:Option V),σ=[some (.ref a.g),some (.int (n:Int)),v2,v3]/\GO P w CF CM CG Hi a M ⟨S',PL',s.NX,s.MI,s.MW⟩/\KG H1 Hi a/\cj s.S S'/\GB ⟨S',PL',s.NX,s.MI,s.MW⟩ (b+2044*i)/\n<S'.N.length) ?_ ?_ ?_ ?_
   . exact⟨s.S,s.PL,1,none,none,rfl,Zk,KG.refl,.refl _,hB,by lia⟩
   . rintro i σ Hi _ ⟨S',PL',n,v2,v3,rfl,_,ki,_⟩
     exact ki _ _ qf OE
   . rintro i kv T σ Hi aY hT ⟨S',PL',n,v2,v3,rfl,cQ,ki,gi,Bi,li⟩
     have hi:i<M.keepers.length:=by
      have:=(aak.mp aY).1
      rw[Zl]at this
      exact this
     have ekv:kv=(.inr (M.keepers[i]).1,(M.keepers[i]).2):=by
      unfold dY at aY
      rw[aae,aab hi]at aY
      exact(aay aY).symm
     have lP:M.keepers[i]∈M.keepers:=adf hi
     subst ekv
     generalize M.keepers[i]=kp at aY lP
     have hk:kp.1∈bQ M:=aal.mpr ⟨kp,lP,rfl⟩
     have sT:ak Hi (upd Hi T (.tup [kV (.inr kp.1),kp.2])):=ak.av hT
     have qT:(upd Hi T (.tup [kV (.inr kp.1),kp.2])) T=some (.tup [kV (.inr kp.1),kp.2]):=af
     refine⟨T,_,rfl,aR.of qT,rfl,_,_,rfl,_,_,rfl,rfl,?_⟩
     have xQ:=cQ.same sT
     have kj:KG H1 (upd Hi T (.tup [kV (.inr kp.1),kp.2])) a:=ki.trans (KG.same sT)
     generalize upd Hi T (.tup [kV (.inr kp.1),kp.2])=Hj at sT qT xQ kj ⊢
     have b0:b+2044*i+2044<=b+2044*M.keepers.length:=by have:2044*(i+1)<=2044*M.keepers.length:=ad1 _ hi;lia
     have HL:kp.1∈all:=by rw[ok.all];exact aaI _ (aar _ hk)
     have hN:=ok.nm kp.1 HL
     have hp:bo PL' kp.1:=xQ.p0 _ (.inr (.inr (aaI _ hk)))
     have iI:Lit all kp.1:=.inr (.inr ⟨kp.1,HL,.inl rfl⟩)
     have d9:Lit all ("~" ++ kp.1):=.inr (.inr ⟨kp.1,HL,.inr rfl⟩)
     have Ri:bo PL' (aT kp.1):=by rw[tP hN];exact hp
     have gr:bo PL' (aT ("~" ++ kp.1)):=by rw[rp];exact hp
     have T9:=ok.first kp lP
     obtain⟨OF,kfv⟩:=kp
     have t1:("~" : Str).length=1:=dk
     have hlen:OF.length<=8:=hN.len
     rcases T9 with e|e|e <;> (have e:kfv=_:=e) <;> subst e
     . refine⟨_,rfl,_,rfl,di rfl ?_⟩
       refine⟨_,rfl,a.g,a.dg,_,rfl,xQ.hg,i7 _ (by simp),_,rfl,_,rfl,a.g,a.dg,_,rfl,xQ.hg,i7 _ (by simp),_,rfl,rfl,_,rfl,dw rfl ⟨_,rfl,_,_,rfl,rfl,by rw[t1];exact kP (by show 1+OF.length<=1000;lia),a,M,_, "~" ++ OF,all,_,rfl,xQ,ok,d9,λ_=>gr,Bi,by lia,λm S2 zL H2 ky k2 g2 B2 _ l2 _=>?_⟩⟩
       have:S'.N.length<=S2.N.length:=g2.le
       exact⟨a,M,_,n,m,_,rfl,ky,by show n<S2.N.length;lia,l2,B2,by lia,λr S3 H3 oR k3 g3 B3 l3 _=>⟨S3,zL,r,_,_,rfl,oR,(kj.trans k2).trans (KG.of k3),(gi.trans g2).trans g3,B3.up (by lia),l3⟩⟩
     . refine⟨_,rfl,_,rfl,di rfl ?_⟩
       refine⟨_,rfl,a.g,a.dg,_,rfl,xQ.hg,i7 _ (by simp),_,rfl,_,rfl,a.g,a.dg,_,rfl,xQ.hg,i7 _ (by simp),_,rfl,rfl,_,rfl,di rfl ⟨_,rfl,a,M,_,OF,all,_,rfl,xQ,ok,iI,λ_=>Ri,Bi,by lia,λm S2 zL H2 ky k2 g2 B2 _ l2 _=>?_⟩⟩
       have:S'.N.length<=S2.N.length:=g2.le
       exact⟨a,M,_,n,m,_,rfl,ky,by show n<S2.N.length;lia,l2,B2,by lia,λr S3 H3 oR k3 g3 B3 l3 _=>⟨S3,zL,r,_,_,rfl,oR,(kj.trans k2).trans (KG.of k3),(gi.trans g2).trans g3,B3.up (by lia),l3⟩⟩
     . exact⟨_,rfl,_,rfl,dw rfl ⟨S',PL',n,_,_,rfl,xQ,kj,gi,Bi.up (by lia),li⟩⟩
   . rintro σ Hi ⟨S',PL',n,v2,v3,rfl,cQ,ki,gi,Bi,li⟩
     rw[Zl]at Bi
     have q2:=ki _ _ qf OE
     refine⟨a.f2,ob,dY M.keepers,q2,(λo' u e=>by have e':H a.f2=_:=e;rw[h2]at e';cases e'),?_⟩
     have hGt:=cQ.T8 (o:=.dK (dY M.keepers)) q2 (.inr ⟨ob,rfl⟩) (.inl rfl)
     refine⟨_,rfl,kk n S' PL' _ hGt (λx o hx nx=>?_) gi Bi li⟩
     by_cases e:x=a.f2
     . rw[e,h2]at hx
       rw[e,af,← hx]
     . rw[ag e]
       exact ki _ _ (kf _ _ hx e) nx
end
abbrev DA:Stmt:=inClass (top 13) 0
abbrev yy:Stmt:=inClass (top 13) 1
structure DB(K:W.Frag) (mg:Str->Option Value) (C:Addr):Prop where
 cl:jQ K C
 n1:aM K C "machine"
 n2:aM K C "grove"
 n3:aM K C "firsts"
 n4:aM K C "moves"
 n5:aM K C "found"
 n6:aM K C "latest"
 mgC:mg "Rings" = some (.ref C)
structure RF(fl:List (Str×V)) (x g:Addr) (mv fo:Addr) (la:Nat) (k:Nat):Prop where
 f1:fl.lookup ("grove" : Str)=some (.ref g)
 f2:fl.lookup ("moves" : Str)=some (.ref mv)
 f3:fl.lookup ("found" : Str)=some (.ref fo)
 f4:fl.lookup ("latest" : Str)=some (.int (la:Int))
 f5:fl.lookup ("grown" : Str)=none
 f6:fl.length<=6+k
theorem RF.put{fl:List (Str×V)}{x g mv fo:Addr}{la la' k:Nat}(h:RF fl x g mv fo la k):RF (aj "latest" (.int (la':Int)) fl) x g mv fo la' (k+1):=
 ⟨by rw[ay,aaz dk];exact h.f1,by rw[ay,aaz dk];exact h.f2,by rw[ay,aaz dk];exact h.f3,by rw[ay,aaF rfl],by rw[ay,aaz dk];exact h.f5,aam (lS _ _ _) (aer h.f6)⟩
structure RO(P:Program) (w:World) (CF CM CG CR:Addr) (H:Hp) (r dr mv fo:Addr) (a:GA) (M:aQ) (b0:List Bool) (i c:Nat) (s:GS) (fs ms:List Nat) (la:Nat):Prop where
 hr:∃fl,H r=some (.ins CR dr fl)/\RF fl a.x a.g mv fo la i
 go:GO P w CF CM CG H a M s
 gx:GX M s
 hm:H mv=some (.lst (ms.map iV))
 hf:H fo=some (.lst (fs.map iV))
 lf:fs.length=i+1
 lm:ms.length=i+1
 rf:∀j,j<=i->∃n,fs[j]?=some n/\n<s.S.N.length/\aq s.S.TS n=cn (bQ M) (rg M b0 j)
 rl:la<s.S.N.length/\aq s.S.TS la=cn (bQ M) (lt M b0 i)
 gb:GB s (c+192000*s.NX.length)
 d1:mv≠fo
 d2:∀q∈[a.f1,a.f3,a.nm,a.nd],mv≠q/\fo≠q
 d3:r≠a.g/\r≠a.x/\r≠a.y
def KR(H H':Hp)(a:GA)(r mv fo:Addr):Prop:=∀b o,H b=some o->b∉a.own->b≠r->b≠mv->b≠fo->H' b=some o
theorem KR.of{H H':Hp}{a:GA}{r mv fo:Addr}(k:KG H H' a):KR H H' a r mv fo:=λb o h n _ _ _=>k b o h n
theorem KR.trans(x:KR H H1 a r mv fo)(y:KR H1 H2 a r mv fo):KR H H2 a r mv fo:=λb o h n1 n2 n3 n4=>y b o (x b o h n1 n2 n3 n4) n1 n2 n3 n4
section
variable {P:Program}{w:World}{CF CM CG:Addr}{H H':Hp}{a:GA}{M:aQ}{s:GS}
theorem GO.putL(h:GO P w CF CM CG H a M s) (hq:H q=some (.lst xs)) (n:∀b∈[a.f1,a.f3,a.nm,a.nd],q≠b):GO P w CF CM CG (upd H q o) a M s:=by
 have ne:∀{b:Addr}{v:HO},H b=some v->(∀l,v≠.lst l)->q≠b:=λhb n1 e=>by
  rw[← e,hq]at hb
  exact n1 _ (aay hb).symm
 refine h.My hq (by intro _ z;cases z) (λb hb=>?_) (λe=>?_)
 . simp only[aaj,aat,adg]at hb
   rcases hb with rfl|rfl|rfl|rfl|rfl|rfl|rfl|rfl|rfl|rfl|rfl|rfl|rfl|rfl|rfl|rfl|rfl|rfl|rfl
   . exact ne h.hg (by intro _ z;cases z)
   . exact ne h.mf.hx (by intro _ z;cases z)
   . exact n _ (by simp)
   . exact n _ (by simp)
   . exact ne h.h4 (by intro _ z;cases z)
   . exact ne h.h5 (by intro _ z;cases z)
   . exact ne h.fo.hy (by intro _ z;cases z)
   . exact n _ (by simp)
   . exact ne h.fo.hs (by intro _ z;cases z)
   . exact n _ (by simp)
   . exact ne h.fo.hk (by intro _ z;cases z)
   . exact ne h.fo.hc (by intro _ z;cases z)
   . exact ne h.fo.hi (by intro _ z;cases z)
   . exact ne h.fo.he (by intro _ z;cases z)
   . exact ne h.hp (by intro _ z;cases z)
   . exact ne h.hin (by intro _ z;cases z)
   . exact ne h.hnx (by intro _ z;cases z)
   . exact ne h.hmi (by intro _ z;cases z)
   . exact ne h.hmw (by intro _ z;cases z)
 . rcases h.mf.h2 with z|⟨ob,z⟩ <;> rw[← e,hq]at z <;> cases z
theorem GO.yz(h:GO P w CF CM CG H a M s) (hq:H q=some (.ins C d fl)) (n:q≠a.g/\q≠a.x/\q≠a.y):GO P w CF CM CG (upd H q o) a M s:=by
 have ne:∀{b:Addr}{v:HO},H b=some v->(∀C d l,v≠.ins C d l)->q≠b:=λhb n1 e=>by
  rw[← e,hq]at hb
  exact n1 _ _ _ (aay hb).symm
 refine h.My hq (by intro _ z;cases z) (λb hb=>?_) (λe=>?_)
 . simp only[aaj,aat,adg]at hb
   rcases hb with rfl|rfl|rfl|rfl|rfl|rfl|rfl|rfl|rfl|rfl|rfl|rfl|rfl|rfl|rfl|rfl|rfl|rfl|rfl
   . exact n.1
   . exact n.2.1
   . exact ne h.mf.h1 (by intro _ _ _ z;cases z)
   . exact ne h.mf.h3 (by intro _ _ _ z;cases z)
   . exact ne h.h4 (by intro _ _ _ z;cases z)
   . exact ne h.h5 (by intro _ _ _ z;cases z)
   . exact n.2.2
   . exact ne h.fo.hn (by intro _ _ _ z;cases z)
   . exact ne h.fo.hs (by intro _ _ _ z;cases z)
   . exact ne h.fo.hd (by intro _ _ _ z;cases z)
   . exact ne h.fo.hk (by intro _ _ _ z;cases z)
   . exact ne h.fo.hc (by intro _ _ _ z;cases z)
   . exact ne h.fo.hi (by intro _ _ _ z;cases z)
   . exact ne h.fo.he (by intro _ _ _ z;cases z)
   . exact ne h.hp (by intro _ _ _ z;cases z)
   . exact ne h.hin (by intro _ _ _ z;cases z)
   . exact ne h.hnx (by intro _ _ _ z;cases z)
   . exact ne h.hmi (by intro _ _ _ z;cases z)
   . exact ne h.hmw (by intro _ _ _ z;cases z)
 . rcases h.mf.h2 with z|⟨ob,z⟩ <;> rw[← e,hq]at z <;> cases z
theorem GO.DC(h:GO P w CF CM CG H a M s)(k:KG H H' a) (hq:H q=some (.lst xs)) (n:q≠a.nd):H' q=some (.lst xs):=k q _ hq (h.lA hq (.inr ⟨rfl,n⟩))
theorem GO.DD(h:GO P w CF CM CG H a M s)(k:KG H H' a) (hq:H q=some (.ins C d fl)):H' q=some (.ins C d fl):=k q _ hq (h.lA hq (.inl rfl))
end
theorem DE{M:aQ}{all:List Str}(ok:c8 M all){S:de}{n:Nat}{bs:List Bool}(fs:FS (aW M) S.N S.TS) (hn:n<S.N.length) (he:∀e,ev e (aq S.TS n)=ev e (cn (bQ M) bs)):aq S.TS n=cn (bQ M) bs:=
 jE (ie ok) (iG (i:=0) (ns:=aW M) (fs.zH (ie ok) n hn) (aaO _)) (uC (oM _ _)) he
theorem xR(bs:List Bool):(cn (bQ M) bs).dep<=M.keepers.length:=by
 have:=nP (oM (bQ M) bs)
 rwa[aaa]at this
theorem acn(h:t.dep<=4):wc t<=17600:=by
 have h1:=Aq t
 have h2:2 ^ t.dep<=2 ^ 4:=ada (by decide) h
 lia
theorem Ua(h:t.dep<=6):wc t<=70400:=by
 have h1:=Aq t
 have h2:2 ^ t.dep<=2 ^ 6:=ada (by decide) h
 lia
theorem DF{fs:List Nat}{i n:Nat}(hl:fs.length=i+1)(h:fs[i]?=some n):j8 (fs.map iV) (-1)=some (iV n):=by
 have hne:fs≠[]:=λe=>by rw[e]at hl;cases hl
 have e:fs=fs.dropLast++[n]:=by
  have h1:=aeA hne
  rw[afb]at h1
  have h2:fs[fs.length-1]'(by lia)=n:=by
   have h3:=(aak.mp h).2
   simp only[hl,ahe]
   exact h3
  rw[h2]at h1
  exact h1.symm
 rw[e,aah]
 exact vd _ _
theorem Qk(ok:c8 M all)(hb:bs.length=2 ^ M.keepers.length) (h:∀e,ev e (cn (bQ M) bs)=false) (t:Nat):bs.getD t false=false:=by
 have lk:(bQ M).length=M.keepers.length:=aaa ..
 by_cases ht:t<2 ^ M.keepers.length
 . obtain⟨c,hc⟩:=vJ ht
   obtain⟨dl,db⟩:=gY _ _ (aaK hc)
   have nd:(bQ M).Nodup:=by
    have:=ie ok
    unfold aW at this
    exact(aau.mp this).1
   obtain⟨e',_,c2⟩:=uD (λ_=>false) nd (by rw[dl,lk]) db
   have h1:=h e'
   rw[oO e' (bQ M) bs t (by rw[hb,lk]) (by rw[lk,hc,c2])]at h1
   exact h1
 . cases q:bs.getD t false with
   | false=>rfl
   | true=>have:=qr q;lia
theorem Ub(hb:bs.length=2 ^ M.keepers.length)(h:∀t,bs.getD t false=false)(e:Str->Bool):ev e (cn (bQ M) bs)=false:=by
 have lk:(bQ M).length=M.keepers.length:=aaa ..
 obtain⟨t,_,h2⟩:=tK e (bQ M)
 rw[oO e (bQ M) bs t (by rw[hb,lk]) h2]
 exact h t
inductive DG(P:Program) (w:World) (CF CM CG CR:Addr) (vs:List V) (H:Hp) (Q:VK):Prop
 | mk (r dr mv fo:Addr) (a:GA) (M:aQ) (b0:List Bool) (i c:Nat) (s:GS) (fs ms:List Nat) (la:Nat) (h1:vs=[.ref r]) (h2:RO P w CF CM CG CR H r dr mv fo a M b0 i c s fs ms la) (h3:b0.length=2 ^ M.keepers.length) (h4:M.keepers.length<=4) (h5:(aW M).length<=6) (h6:i<=40) (h7:c+192000*M.keepers.length+92000<2700000) (h8:(∀(s':GS) (fs' Uc:List Nat) (la':Nat) (H':Hp),RO P w CF CM CG CR H' r dr mv fo a M b0 (i+1) (c+92000) s' fs' Uc la'->KR H H' a r mv fo->rg M b0 (i+1)≠rg M b0 i->Q (.bl true) H')) (h9:(∀(s':GS) (H':Hp),RO P w CF CM CG CR H' r dr mv fo a M b0 i (c+92000) s' fs ms la->KR H H' a r mv fo->rg M b0 (i+1)=rg M b0 i->Q (.bl false) H')):DG P w CF CM CG CR vs H Q
def Fw(P:Program)(w:World)(CF CM CG CR:Addr):Sp:=λvs H Q _=>DG P w CF CM CG CR vs H Q
section
variable (P:Program) (w:World) (K:W.Frag) (mg:Str->Option Value) (base:Heap) (CF CM CG:Addr)
structure Ud(fM fS fO fB fE:Addr) (dM dS dO dB dE:FuncData):Prop where
 gM:ax P w K mg base aB 20 fM dM ["self", "number"] (Dr P w CF CM CG)
 mM:Meth K CG "moves_into" fM
 bM:Binds K dM ["self", "number"] []
 gS:ax P w K mg base aB 20 fS dS ["self", "number"] (tW P w CF CM CG)
 mS:Meth K CG "stands_of" fS
 bS:Binds K dS ["self", "number"] []
 gO:ax P w K mg base aB 11 fO dO ["self", "number"] (CV P w CF CM CG)
 mO:Meth K CG "opposite_of" fO
 bO:Binds K dO ["self", "number"] []
 gB:ax P w K mg base aB 11 fB dB ["self", "one", "other"] (uz P w CF CM CG)
 mB:Meth K CG "both_of" fB
 bB:Binds K dB ["self", "one", "other"] []
 gE:ax P w K mg base aB 11 fE dE ["self", "one", "other"] (zW P w CF CM CG)
 mE:Meth K CG "either_of" fE
 bE:Binds K dE ["self", "one", "other"] []
end
section
variable {P:Program}{w:World}{K:W.Frag}{mg:Str->Option Value}{base:Heap}{CF CM CG CR:Addr}
theorem RO.keep{H H':Hp}{r dr mv fo:Addr}{a:GA}{M:aQ}{b0:List Bool}{i c c':Nat}{s s':GS}{fs ms:List Nat}{la:Nat}(h:RO P w CF CM CG CR H r dr mv fo a M b0 i c s fs ms la)(hG:GO P w CF CM CG H' a M s')(hX:GX M s')(k:KG H H' a)(g:cj s.S s'.S) (B:GB s' (c'+192000*s'.NX.length)):RO P w CF CM CG CR H' r dr mv fo a M b0 i c' s' fs ms la:=by
 obtain⟨fl,hr,sQ⟩:=h.hr
 have hl:=h.go.fo.fs.len
 have hg:=g.le
 have d4:=h.d2 a.nd (by simp)
 exact⟨⟨fl,h.go.DD k hr,sQ⟩,hG,hX,h.go.DC k h.hm d4.1,h.go.DC k h.hf d4.2,h.lf,h.lm,λj hj=>let ⟨n,e1,l,e2⟩:=h.rf j hj; ⟨n,e1,by lia,by rw[g.aq (by lia)];exact e2⟩,⟨by have:=h.rl.1;lia,by rw[g.aq (by have:=h.rl.1;lia)];exact h.rl.2⟩,B,h.d1,h.d2,h.d3⟩
theorem HM:aJ ["self", "grove", "moves", "latest"] ["self"] (az yy):=fs
theorem Mz(F:aK K "grown" "Rings.grown" yy f fd)(TR:DB K mg CR)(TG:jN K mg CG)(G:Ud P w K mg base CF CM CG fM fS fO fB fE dM dS dO dB dE):ax P w K mg base aB 21 f fd ["self"] (Fw P w CF CM CG CR):=by
 refine F.run HM λcdv A outer s H vs Q E hr h=>?_
 . obtain⟨r,dr,mv,fo,a,M,b0,i,c,s,fs,ms,la,rfl,hR,zY,k4,k6,hi,hc,kT,kF⟩:=h
   obtain⟨all,ok⟩:=hR.go.ok
   have MA:aN 11 _:=hr.mono (by decide)
   refine⟨_,ai (aP 1 HM.nd (aE (pv 0) rfl))
    (ai (aP 2 HM.nd (bt (pv 1) TG.cl G.mM G.gM hr G.bM (aa (aE (pv 0) rfl) ah)))
    (ai (aP 3 HM.nd (bt (pv 1) TG.cl G.mB G.gB MA G.bB (aa (bt (pv 1) TG.cl G.mS G.gS hr G.bS (aa (pv 2) ah)) (aa (bt (pv 1) TG.cl G.mO G.gO MA G.bO (aa (aI (r:=eC K) aS (aE (pv 0) rfl) (Ag vR ao) (λ_ _=>rfl)) ah)) ah))))
    (ai (cy (cU kI (pv 3) ao (dz _)) (au (aL gZ)) ba)
    (ai (cX (pv 0) (pv 3) rfl)
    (ai (eI (ft aaL ac5 ac6 eJ (aE (pv 0) rfl) (aa (pv 2) ah)))
    (ai (eI (ft aaL ac5 ac6 eJ (aE (pv 0) rfl) (aa (bt (pv 1) TG.cl G.mE G.gE MA G.bE (aa (aI (r:=eC K) aS (aE (pv 0) rfl) (Ag vR ao) (λ_ _=>rfl)) (aa (pv 3) ah))) ah)))
    (au (aL gZ)))))))),?_⟩
   have X7:(aW M).length=M.keepers.length+M.switches.length:=by unfold aW;rw[aag,aaa]
   have lk:(bQ M).length=M.keepers.length:=aaa ..
   obtain⟨fl,rM,sQ⟩:=hR.hr
   have hG:=hR.go
   have hX:=hR.gx
   refine⟨_,rfl,r,CR,dr,fl,_,rfl,rM,TR.cl,TR.n2,sQ.f1,?_⟩
   have wl:wc (aq s.S.TS la)<=17600:=by rw[hR.rl.2];exact acn (aam (xR _) k4)
   refine⟨_,rfl,a.g,a.dg,_,rfl,hG.hg,i7 _ (by simp),_,rfl,r,CR,dr,fl,_,rfl,rM,TR.cl,TR.n6,sQ.f4,a,M,s,la,c,rfl,hG,hX,hR.rl.1,λz hz=>?_,hR.gb,by lia,λm1 S1 qh oV Zm H1 lz Ue k1 g1 B1 l1 e1=>?_⟩
   . rw[hR.rl.2]at hz
     exact Qf (oM _ _) z hz
   have NR:oV.length<=M.keepers.length:=Ue.len
   have hR1:=hR.keep (c':=c+wc (aq s.S.TS la)) lz Ue k1 g1 B1
   have c1:eW (aW M) (aq S1.TS m1):=iG (i:=0) (ns:=aW M) (lz.fo.fs.zH (ie ok) m1 l1) (aaO _)
   have w1:=Ua (aam (nP c1) k6)
   have b1:192000*oV.length<=192000*M.keepers.length:=ad1 _ NR
   refine⟨_,rfl,a.g,a.dg,_,rfl,lz.hg,i7 _ (by simp),_,rfl,a.g,a.dg,_,rfl,lz.hg,i7 _ (by simp),_,rfl,a,M,_,m1,_,rfl,lz,Ue,l1,B1,by show _+wc (aq S1.TS m1)<3000000;lia,λm2 S2 Zn H2 ky Zo k2 g2 B2 l2 e2=>?_⟩
   have zZ:=hR1.keep (c':=c+wc (aq s.S.TS la)+wc (aq S1.TS m1)) ky Zo k2 g2 (B2.up (by show c+wc (aq s.S.TS la)+192000*oV.length+wc (aq S1.TS m1)<=c+wc (aq s.S.TS la)+wc (aq S1.TS m1)+192000*oV.length;lia))
   obtain⟨fl2,aco,acp⟩:=zZ.hr
   obtain⟨n,ER,jk,EE⟩:=zZ.rf i (aaf _)
   refine⟨_,rfl,a.g,a.dg,_,rfl,ky.hg,i7 _ (by simp),_,rfl,r,CR,dr,fl2,_,rfl,aco,TR.cl,TR.n5,acp.f3,_,rfl,fo,_,_,_,rfl,rfl,ar.of zZ.hf,DF zZ.lf ER,a,M,_,n,_,rfl,ky,jk,zZ.gb,by show c+wc (aq s.S.TS la)+wc (aq S1.TS m1)+192000*oV.length+1022<_;lia,λm3 S3 H3 oR k3 g3 B3 l3 e3=>?_⟩
   have J9:m2<S3.N.length:=aaM l2 g3.le
   refine⟨a,M,_,m2,m3,_,rfl,oR,J9,l3,B3,by show c+wc (aq s.S.TS la)+wc (aq S1.TS m1)+192000*oV.length+1022+1022<_;lia,λq S4 H4 qt Zp g4 B4 l4 e4=>?_⟩
   have KN:GX M ⟨S4,qh,oV,Zm,Zn⟩:=Zo.grow (g3.trans g4) ky.fo.fs.len
   have gf:=zZ.keep (c':=c+wc (aq s.S.TS la)+wc (aq S1.TS m1)+2044) qt KN ((KG.of k3).trans (KG.of Zp)) (g3.trans g4) (B4.up (by show c+wc (aq s.S.TS la)+wc (aq S1.TS m1)+192000*oV.length+1022+1022<=c+wc (aq s.S.TS la)+wc (aq S1.TS m1)+2044+192000*oV.length;lia))
   have N9:=oU zY i
   have Zq:=br zY i
   have iI:=oU zY (i+1)
   have ev2:∀e,ev e (aq S2.TS m2)=ev e (cn (bQ M) (fU M (lt M b0 i))):=λe=>by
    refine adb.mpr ?_
    rw[e2 e,T3 ok N9 e,← hR.rl.2]
    unfold oK OD
    constructor
    . rintro⟨e',h1,h2⟩
      exact⟨e',h1,by rw[← e1 e'];exact h2⟩
    . rintro⟨e',h1,h2⟩
      exact⟨e',h1,by show ev e' (aq S1.TS m1)=true;rw[e1 e'];exact h2⟩
   have Ug:∀e,ev e (aq S4.TS q)=ev e (cn (bQ M) (lt M b0 (i+1))):=λe=>by
    rw[e4 e,g3.aq (by rw[← ky.fo.fs.len];exact l2),ev2 e,e3 e,EE,lt_next zY i,xp _ e (bQ M) _ _ (by rw[lk,eG]) (by rw[lk,Zq])]
   have tq:aq S4.TS q=cn (bQ M) (lt M b0 (i+1)):=DE ok qt.fo.fs l4 Ug
   have z0:aq S4.TS 0=.leaf false:=qt.fo.fs.t0
   have two:=qt.fo.fs.two
   have Zr:q=0 ↔ rg M b0 (i+1)=rg M b0 i:=by
    rw[← Qj zY i]
    constructor
    . intro hq t
      refine Qk ok iI (λe=>?_) t
      rw[← Ug e,hq,z0]
      rfl
    . intro hn
      refine qt.fo.fs.inj (ie ok) q 0 l4 (aaM (by decide) two) ?_
      rw[z0]
      refine jE (ie ok) (iG (i:=0) (ns:=aW M) (qt.fo.fs.zH (ie ok) q l4) (aaO _)) (.leaf _ _) λe=>?_
      rw[Ug e,Ub iI hn e]
      rfl
   refine⟨_,rfl,rfl,_,rfl,?_⟩
   have hqd:decide (((q:Nat):Int)=0)=decide (q=0):=by
    refine decide_eq_decide.mpr ⟨λh=>by lia,λh=>by lia⟩
   have Zs:KG H H4 a:=((k1.trans k2).trans (KG.of k3)).trans (KG.of Zp)
   by_cases hq:q=0
   . refine di (by rw[hq];rfl) (kF _ H4 ⟨gf.hr,gf.go,gf.gx,gf.hm,gf.hf,gf.lf,gf.lm,gf.rf,gf.rl,gf.gb.up ?_,gf.d1,gf.d2,gf.d3⟩ (KR.of Zs) (Zr.mp hq))
     show c+wc (aq s.S.TS la)+wc (aq S1.TS m1)+2044+192000*oV.length<=c+92000+192000*oV.length
     lia
   . refine dw (aaH λz=>hq (by injection z with z;lia)) ?_
     obtain⟨uY,HN,Uh⟩:=gf.hr
     refine⟨_,rfl,_,rfl,r,CR,dr,uY,rfl,HN,TR.cl,TR.n6,adH Uh.f6 (by lia),?_⟩
     have rm:r≠mv:=aD HN gf.hm (by intro z;cases z)
     have Zt:r≠fo:=aD HN gf.hf (by intro z;cases z)
     have HP:=Uh.put (la':=q)
     have yX:=qt.yz (o:=.ins CR dr (aj "latest" (.int (q:Int)) uY)) HN gf.d3
     have KO:(upd H4 r (.ins CR dr (aj "latest" (.int (q:Int)) uY))) r=some (.ins CR dr (aj "latest" (.int (q:Int)) uY)):=af
     have OG:(upd H4 r (.ins CR dr (aj "latest" (.int (q:Int)) uY))) mv=some (.lst (ms.map iV)):=by rw[ag rm.symm];exact gf.hm
     have Zu:(upd H4 r (.ins CR dr (aj "latest" (.int (q:Int)) uY))) fo=some (.lst (fs.map iV)):=by rw[ag Zt.symm];exact gf.hf
     have Zv:KR H (upd H4 r (.ins CR dr (aj "latest" (.int (q:Int)) uY))) a r mv fo:=λb o hb n1 n2 n3 n4=>by rw[ag n2];exact Zs b o hb n1
     show eR _ _ _ _ (upd H4 r (.ins CR dr (aj "latest" (.int (q:Int)) uY)))
     generalize upd H4 r (.ins CR dr (aj "latest" (.int (q:Int)) uY))=H5 at yX KO OG Zu Zv ⊢
     have lms:=gf.lm
     have Zw:=gf.lf
     refine⟨_,rfl,r,CR,dr,_,_,rfl,KO,TR.cl,TR.n4,HP.f2,.inl ⟨rfl,_,ar.of OG⟩,_,rfl,mv,_,_,rfl,rfl,OG,(by rw[aaa];exact small (by lia)),?_⟩
     have em:ms.map iV++[V.int (m1:Int)]=(ms++[m1]).map iV:=by rw[aah];rfl
     rw[em]
     have qu:=yX.putL (o:=.lst ((ms++[m1]).map iV)) OG (λb hb=>(gf.d2 b hb).1)
     have OH:(upd H5 mv (.lst ((ms++[m1]).map iV))) r=some (.ins CR dr (aj "latest" (.int (q:Int)) uY)):=by rw[ag rm];exact KO
     have Zx:(upd H5 mv (.lst ((ms++[m1]).map iV))) mv=some (.lst ((ms++[m1]).map iV)):=af
     have OI:(upd H5 mv (.lst ((ms++[m1]).map iV))) fo=some (.lst (fs.map iV)):=by rw[ag (aax gf.d1)];exact Zu
     have Zy:KR H (upd H5 mv (.lst ((ms++[m1]).map iV))) a r mv fo:=λb o hb n1 n2 n3 n4=>by rw[ag n3];exact Zv b o hb n1 n2 n3 n4
     generalize upd H5 mv (.lst ((ms++[m1]).map iV))=H6 at qu OH Zx OI Zy ⊢
     obtain⟨n',MB,acq,acr⟩:=gf.rf i (aaf _)
     refine⟨_,rfl,r,CR,dr,_,_,rfl,OH,TR.cl,TR.n5,HP.f3,.inl ⟨rfl,_,ar.of OI⟩,_,rfl,a.g,a.dg,_,rfl,qu.hg,i7 _ (by simp),_,rfl,r,CR,dr,_,_,rfl,OH,TR.cl,TR.n5,HP.f3,_,rfl,fo,_,_,_,rfl,rfl,ar.of OI,DF gf.lf MB,_,rfl,a,M,_,n',q,_,rfl,qu,acq,l4,gf.gb,(by show c+wc (aq s.S.TS la)+wc (aq S1.TS m1)+2044+192000*oV.length+1022<_;lia),λm S7 H7 xS k7 g7 B7 l7 e7=>?_⟩
     have OJ:=KG.of k7
     have dn:=gf.d2 a.nd (by simp)
     have hr7:=qu.DD OJ OH
     have hm7:=qu.DC OJ Zx dn.1
     have Zz:=qu.DC OJ OI dn.2
     refine⟨fo,_,_,rfl,rfl,Zz,(by rw[aaa];exact small (by lia)),?_⟩
     have ef:fs.map iV++[V.int (m:Int)]=(fs++[m]).map iV:=by rw[aah];rfl
     rw[ef]
     have MC:=qt.fo.fs.len
     have ZA:=g7.le
     have tqm:aq S7.TS m=cn (bQ M) (rg M b0 (i+1)):=DE ok xS.fo.fs l7 λe=>by
      rw[e7 e,acr,tq,Qi zY i,xp _ e (bQ M) _ _ (by rw[lk,Zq]) (by rw[lk,iI])]
     refine kT ⟨S7,qh,oV,Zm,Zn⟩ (fs++[m]) (ms++[m1]) q _ ⟨⟨_,by rw[ag Zt];exact hr7,HP⟩,xS.putL Zz (λb hb=>(gf.d2 b hb).2),KN.grow g7 MC,by rw[ag gf.d1];exact hm7,af,by rw[aag,Zw];rfl,by rw[aag,lms];rfl,λj hj=>?_,⟨aaM l4 ZA,by rw[g7.aq (by rw[← MC];exact l4)];exact tq⟩,B7.up ?_,gf.d1,gf.d2,gf.d3⟩ (λb o hb n1 n2 n3 n4=>?_) (λz=>hq (Zr.mpr z))
     . by_cases e:j<=i
       . obtain⟨z,z1,z2,z3⟩:=gf.rf j e
         refine⟨z,by rw[adI (by lia)];exact z1,aaM z2 ZA,?_⟩
         rw[g7.aq (by rw[← MC];exact z2)]
         exact z3
       . have ej:j=i+1:=by lia
         subst ej
         exact⟨m,by rw[adF (by lia),Zw,ahm];rfl,l7,tqm⟩
     . show c+wc (aq s.S.TS la)+wc (aq S1.TS m1)+2044+192000*oV.length+1022<=c+92000+192000*oV.length
       lia
     . rw[ag n4]
       exact OJ b o (Zy b o hb n1 n2 n3 n4) n1
end
def cb(M:aQ)(z:Str):List Bool:=(bg M.keepers.length).map λc=>(bg M.switches.length).any λd=>decide (dQ (cH M d c M.gates.length) z=1)
theorem j6(M:aQ)(z:Str):(cb M z).length=2 ^ M.keepers.length:=by unfold cb;rw[aaa,bu]
theorem Ui(ok:c8 M all)(z:Str)(e:Str->Bool):ev e (cn (bQ M) (cb M z))=true ↔ ∃e':Str->Bool,(∀n,n∉M.switches->e' n=e n)/\eF M e' z=true:=by
 have lk:(bQ M).length=M.keepers.length:=aaa ..
 have nd:=jA ok
 have Kx:M.switches.Nodup:=(aau.mp (aau.mp nd).1).1
 have T4:∀z,z∈bQ M->z∉M.switches:=λz hz hw=>(aau.mp (aau.mp nd).1).2.2 z hw z hz rfl
 obtain⟨t,h1,h2⟩:=tK e (bQ M)
 rw[oO e (bQ M) (cb M z) t (by rw[j6,lk]) h2,aai]
 unfold cb
 rw[aae,← lk,h2,adQ,Option.getD_some,adx]
 have re:∀e':Str->Bool,(∀n,n∉M.switches->e' n=e n)->rowOf e' (bQ M)=rowOf e (bQ M):=λe' h=>by
  unfold rowOf
  exact adZ λz hz=>by rw[h z (T4 z hz)]
 constructor
 . rintro⟨d,hd,hv⟩
   obtain⟨dl,db⟩:=gY _ _ hd
   obtain⟨e',c1,c2⟩:=uD e Kx dl db
   refine⟨e',c1,?_⟩
   unfold eF vE
   rw[c2,show M.keepers.map (·.1)=bQ M from rfl,re e' c1]
   exact hv
 . rintro⟨e',c1,hv⟩
   unfold eF vE at hv
   rw[show M.keepers.map (·.1)=bQ M from rfl,re e' c1]at hv
   refine⟨rowOf e' M.switches,qq (by unfold rowOf;rw[aaa]) (nM e' _),hv⟩
theorem MG.keepR(h:MG CM H x dx f1 f2 f3 f4 f5 f6 ts M) (hr:H r=some (.ins C d fl)) (n:r≠x) (k:aU H H' r):MG CM H' x dx f1 f2 f3 f4 f5 f6 ts M:=by
 have kk:∀{b:Addr}{u:HO},H b=some u->(∀C d l,u≠.ins C d l)->H' b=some u:=λ{b} {u} hb nu=>k _ _ hb λe=>by
  rw[e,hr]at hb
  exact nu _ _ _ (aay hb).symm
 exact⟨⟨k _ _ h.mf.hx (aax n),kk h.mf.h1 (by intro _ _ _ z;cases z),.inl (kk h.h2 (by intro _ _ _ z;cases z)),kk h.mf.h3 (by intro _ _ _ z;cases z),Paired.cw h.mf.hp λ_ _ e=>kk e (by intro _ _ _ z;cases z)⟩,kk h.h2 (by intro _ _ _ z;cases z),kk h.h4 (by intro _ _ _ z;cases z),kk h.h5 (by intro _ _ _ z;cases z),h.ok,h.n60,h.n8,h.d24,h.d25,h.d45⟩
inductive DH(P:Program) (w:World) (CF CM CG CR:Addr) (vs:List V) (H:Hp) (Q:VK):Prop
 | mk (r dr x dx f1 f2 f3 f4 f5 f6:Addr) (ts:List Addr) (M:aQ) (eQ lit:Str) (h1:vs=[.ref r,.ref x,.str eQ]) (h2:H r=some (.ins CR dr [])) (h3:r≠x) (h4:MG CM H x dx f1 f2 f3 f4 f5 f6 ts M) (h5:aG (dc M.nevers) (.inr eQ)=some (.str lit)) (h6:M.keepers.length<=4) (h7:(aW M).length<=6) (h8:∀(a:GA) (mv fo:Addr) (s:GS) (fs ms:List Nat) (la:Nat) (H':Hp),RO P w CF CM CG CR H' r dr mv fo a M (cb M lit) 0 270000 s fs ms la->aU H H' r->(∀b∈a.own,H b=none)->H mv=none->H fo=none->Q .aV H'):DH P w CF CM CG CR vs H Q
def Fx(P:Program)(w:World)(CF CM CG CR:Addr):Sp:=λvs H Q _=>DH P w CF CM CG CR vs H Q
section
variable (P:Program) (w:World) (K:W.Frag) (mg:Str->Option Value) (base:Heap) (CF CM CG:Addr)
structure Uj(fI fO fN fS fF:Addr) (dI dO dN dS dF:FuncData):Prop where
 gI:ax P w K mg base aB 3 fI dI ["self", "machine", "order"] (Fg P w CF CM CG)
 mI:Mk K CG fI
 bI:Binds K dI ["self", "machine", "order"] []
 cO:jq P w K mg base 1 fO dO "order_of" ["machine"] (zM CM)
 gN:ax P w K mg base aB 14 fN dN ["self", "literal"] (xx P w CF CM CG 1)
 mN:Meth K CG "number_of" fN
 bN:Binds K dN ["self", "literal"] []
 gS:ax P w K mg base aB 20 fS dS ["self", "number"] (tW P w CF CM CG)
 mS:Meth K CG "stands_of" fS
 bS:Binds K dS ["self", "number"] []
 gF:ax P w K mg base aB 13 fF dF ["self"] (Dx P w CF CM CG)
 mF:Meth K CG "first_stands" fF
 bF:Binds K dF ["self"] []
end
theorem Aa(ok:c8 M all) (h:aG (dc M.nevers) (.inr z)=some (.str l)):Lit all l:=by
 have hm:=iA h
 unfold dc at hm
 obtain⟨r,hr,e⟩:=aal.mp hm
 have:=V.str.inj (afJ e).2
 rw[← this]
 exact ok.nvw.lit r hr
section
variable {P:Program}{w:World}{K:W.Frag}{mg:Str->Option Value}{base:Heap}{CF CM CG CR:Addr}
theorem acs:aJ ["self", "machine", "wish"] ["self", "machine", "wish"] (az DA):=fs
theorem ME(F:aK K "__init__" "Rings.__init__" DA f fd)(TR:DB K mg CR)(TG:jN K mg CG)(TM:qP K mg CM)(G:Uj P w K mg base CF CM CG fI fO fN fS fF dI dO dN dS dF):ax P w K mg base aB 21 f fd ["self", "machine", "wish"] (Fx P w CF CM CG CR):=by
 refine F.run acs λcdv A outer s H vs Q E hr h=>?_
 . obtain⟨r,dr,x,dx,f1,f2,f3,f4,f5,f6,ts,M,eQ,lit,rfl,pB,rx,hM,hw,k4,k6,kk⟩:=h
   obtain⟨all,ok⟩:=hM.ok
   have hu:=eS hr
   have dq:aN 1 _:=hr.mono (by decide)
   have Uk:aN 4 _:=hr.mono (by decide)
   have acu:aN 13 _:=hr.mono (by decide)
   have acv:aN 14 _:=hr.mono (by decide)
   refine⟨_,ai (cX (pv 0) (pv 1) rfl)
    (ai (cX (pv 0) (ub G.mI G.gI Uk rfl TG.mgC G.bI .nil dv (aa (pv 1) (aa (bb G.cO dq (aa (pv 1) ah)) ah))) rfl)
    (ai (cX (pv 0) (AK (aE (pv 0) rfl) TG.cl G.mF G.gF acu G.bF .nil dv) rfl)
    (ai (cX (pv 0) (cY (aa (bt (aE (pv 0) rfl) TG.cl G.mN G.gN acv G.bN (aa (cq hu (aE (pv 1) rfl) (pv 2) (λ_ _=>rfl)) ah)) ah)) rfl)
    (ai (cX (pv 0) (cY (aa (bt (aE (pv 0) rfl) TG.cl G.mS G.gS hr G.bS (aa (aI (r:=eC K) aS (aE (pv 0) rfl) ao (λ_ _=>rfl)) ah)) ah)) rfl)
    (au (cX (pv 0) (aI (r:=eC K) aS (aE (pv 0) rfl) ao (λ_ _=>rfl)) rfl)))))),?_⟩
   have n8:=hM.n8
   have X7:(aW M).length=M.keepers.length+M.switches.length:=by unfold aW;rw[aag,aaa]
   refine⟨_,rfl,_,rfl,r,CR,dr,[],rfl,pB,TR.cl,TR.n1,(by show 0<1000;decide),?_⟩
   have k1:aU H (upd H r (.ins CR dr (aj "machine" (.ref x) []))) r:=λb u hb nb=>by rw[ag nb];exact hb
   have r1:(upd H r (.ins CR dr (aj "machine" (.ref x) []))) r=some (.ins CR dr (aj "machine" (.ref x) [])):=af
   show eR _ _ _ _ (upd H r (.ins CR dr (aj "machine" (.ref x) [])))
   generalize upd H r (.ins CR dr (aj "machine" (.ref x) []))=H1 at k1 r1 ⊢
   have kX:=hM.keepR pB rx k1
   refine⟨_,rfl,_,rfl,x,dx,f1,f2,f3,f4,f5,f6,ts,M,rfl,kX.mf,by lia,λo H2 ho0 s2 vV=>?_⟩
   intro g dg hg TQ hne
   have s3:=Fq (CG:=CG) hg TQ
   have mQ:=kX.same s2
   refine⟨g,dg,o,x,dx,f1,f2,f3,f4,f5,f6,ts,M,rfl,af,(ae mQ.mf.hx hg).symm,mQ.same s3,s3 _ _ vV,λy dy nm sp nd kn ch im ex pl dh nx mi mw S PL H3 oR k3 fr B3=>⟨rfl,?_⟩⟩
   have ze:ak H2 H3:=λb u hb=>k3 _ _ (s3 _ _ hb) (ae hb hg)
   have wQ:=s2.trans ze
   have N2:=kX.same wQ
   have r3:=wQ _ _ r1
   have rg3:r≠g:=ae (s2 _ _ r1) hg
   have ry:r≠y:=λe=>by
    have:=r3
    rw[e,oR.fo.hy]at this
    have e2:gq nm sp nd kn ch im ex=aj "machine" (.ref x) []:=by injection this with q;injection q
    have e3:=oH nm sp nd kn ch im ex
    rw[e2,ay,aaz dk]at e3
    cases e3
   have fr1:∀b∈[nd,kn,ch,im,ex,pl,nx,mi,mw],H b=none:=λb hb=>by
    have h1:=fr b hb
    cases e:H b with
    | none=>rfl
    | some u=>
     by_cases eb:b=r
     . rw[eb,s3 _ _ (s2 _ _ r1)]at h1;cases h1
     . rw[s3 _ _ (s2 _ _ (k1 _ _ e eb))]at h1;cases h1
   have dA:r≠g/\r≠x/\r≠y:=⟨rg3,rx,ry⟩
   have HQ:∀b∈GA.own ⟨g,dg,x,dx,f1,f2,f3,f4,f5,f6,y,dy,nm,sp,nd,kn,ch,im,ex,pl,dh,nx,mi,mw,ts⟩,H b=none:=fr1
   have Oi:H3 f2=some (.dK (dY M.keepers)):=N2.h2
   have tI:∀b u,H b=some u->b≠r->H3 b=some u:=λb u hb nb=>wQ _ _ (k1 _ _ hb nb)
   refine⟨_,rfl,r,CR,dr,_,rfl,r3,TR.cl,TR.n2,iY (aw (aaf _)) (by show 1<1000;decide),?_⟩
   have qt:=oR.yz (o:=.ins CR dr (aj "grove" (.ref g) (aj "machine" (.ref x) []))) r3 dA
   have r4:(upd H3 r (.ins CR dr (aj "grove" (.ref g) (aj "machine" (.ref x) [])))) r=some (.ins CR dr (aj "grove" (.ref g) (aj "machine" (.ref x) []))):=af
   have Jw:∀b u,H b=some u->b≠r->(upd H3 r (.ins CR dr (aj "grove" (.ref g) (aj "machine" (.ref x) [])))) b=some u:=λb u hb nb=>by rw[ag nb];exact tI b u hb nb
   have ZC:(upd H3 r (.ins CR dr (aj "grove" (.ref g) (aj "machine" (.ref x) [])))) f2=some (.dK (dY M.keepers)):=by rw[ag (aD Oi r3 (by intro z;cases z))];exact Oi
   show eR _ _ _ _ (upd H3 r (.ins CR dr (aj "grove" (.ref g) (aj "machine" (.ref x) []))))
   generalize upd H3 r (.ins CR dr (aj "grove" (.ref g) (aj "machine" (.ref x) [])))=H4 at qt r4 Jw ZC ⊢
   refine⟨_,rfl,r,CR,dr,_,_,rfl,r4,TR.cl,TR.n2,(by rw[ay,aaF rfl]),?_⟩
   refine⟨g,dg,_,rfl,qt.hg,i7 _ (by simp),_,M,_,20,rfl,qt,ZC,B3,by lia,λn5 S5 PL5 H5 yX k5 g5 B5 l5=>?_⟩
   have r5:=qt.DD k5 r4
   have k05:∀b u,H b=some u->b≠r->H5 b=some u:=λb u hb nb=>k5 _ _ (Jw b u hb nb) λhm=>by rw[HQ b hm]at hb;cases hb
   refine⟨_,rfl,r,CR,dr,_,rfl,r5,TR.cl,TR.n3,iY (aw (aw (aaf _))) (by show 2<1000;decide),?_⟩
   have qu:=yX.yz (o:=.ins CR dr (aj "firsts" (.int (n5:Int)) (aj "grove" (.ref g) (aj "machine" (.ref x) [])))) r5 dA
   have r6:(upd H5 r (.ins CR dr (aj "firsts" (.int (n5:Int)) (aj "grove" (.ref g) (aj "machine" (.ref x) []))))) r=some (.ins CR dr (aj "firsts" (.int (n5:Int)) (aj "grove" (.ref g) (aj "machine" (.ref x) [])))):=af
   have Ke:∀b u,H b=some u->b≠r->(upd H5 r (.ins CR dr (aj "firsts" (.int (n5:Int)) (aj "grove" (.ref g) (aj "machine" (.ref x) []))))) b=some u:=λb u hb nb=>by rw[ag nb];exact k05 b u hb nb
   show eR _ _ _ _ (upd H5 r (.ins CR dr (aj "firsts" (.int (n5:Int)) (aj "grove" (.ref g) (aj "machine" (.ref x) [])))))
   generalize upd H5 r (.ins CR dr (aj "firsts" (.int (n5:Int)) (aj "grove" (.ref g) (aj "machine" (.ref x) []))))=H6 at qu r6 Ke ⊢
   have Tg:=qu.mf.hx
   refine⟨_,rfl,r,CR,dr,_,_,rfl,r6,TR.cl,TR.n2,(by rw[ay,aaz dk,ay,aaF rfl]),g,dg,_,rfl,qu.hg,i7 _ (by simp),?_⟩
   refine⟨_,rfl,x,CM,dx,_,_,rfl,Tg,TM.cl,TM.n5,Sf ..,_,rfl,f5,.str lit,rfl,(by rw[← hw];exact bq.k (k:=.inr eQ) qu.h5),_,M,_,lit,all,_,rfl,qu,ok,Aa ok hw,(λe=>absurd e (by decide)),B5,by lia,λn7 S7 PL7 H7 xS k7 g7 B7 _ l7 e7=>?_⟩
   have r7:=qu.DD k7 r6
   have Kf:∀b u,H b=some u->b≠r->H7 b=some u:=λb u hb nb=>k7 _ _ (Ke b u hb nb) λhm=>by rw[HQ b hm]at hb;cases hb
   refine⟨(by show 1<=sizeLine;decide),λmv Ab=>?_⟩
   obtain⟨r8,q8,ZD,k8⟩:=bZ (o:=.lst [.int (n7:Int)]) (fs':=aj "moves" (.ref mv) (aj "firsts" (.int (n5:Int)) (aj "grove" (.ref g) (aj "machine" (.ref x) [])))) r7 Ab
   have Ul:mv≠r:=(ae r7 Ab).symm
   have Um:H mv=none:=cJ Kf Ab Ul
   refine⟨_,rfl,r,CR,dr,_,rfl,ZD,TR.cl,TR.n4,iY (aw (aw (aw (aaf _)))) (by show 3<1000;decide),?_⟩
   have DI:=(xS.same (ak.av (o:=.lst [.int (n7:Int)]) Ab)).yz (o:=.ins CR dr (aj "moves" (.ref mv) (aj "firsts" (.int (n5:Int)) (aj "grove" (.ref g) (aj "machine" (.ref x) []))))) ZD dA
   have m1:mv≠f1:=(ae xS.mf.h1 Ab).symm
   have m3:mv≠f3:=(ae xS.mf.h3 Ab).symm
   have mn:mv≠nm:=(ae xS.fo.hn Ab).symm
   have md:mv≠nd:=(ae xS.fo.hd Ab).symm
   show eR _ _ _ _ (upd (upd H7 mv (.lst [.int (n7:Int)])) r (.ins CR dr (aj "moves" (.ref mv) (aj "firsts" (.int (n5:Int)) (aj "grove" (.ref g) (aj "machine" (.ref x) []))))))
   generalize upd (upd H7 mv (.lst [.int (n7:Int)])) r (.ins CR dr (aj "moves" (.ref mv) (aj "firsts" (.int (n5:Int)) (aj "grove" (.ref g) (aj "machine" (.ref x) [])))))=H8 at r8 q8 k8 DI ⊢
   have c7:eW (aW M) (aq S7.TS n7):=iG (i:=0) (ns:=aW M) (xS.fo.fs.zH (ie ok) n7 l7) (aaO _)
   have w7:=Ua (aam (nP c7) k6)
   refine⟨_,rfl,r,CR,dr,_,_,rfl,r8,TR.cl,TR.n2,(by rw[ay,aaz dk,ay,aaz dk,ay,aaF rfl]),g,dg,_,rfl,DI.hg,i7 _ (by simp),_,rfl,r,CR,dr,_,_,rfl,r8,TR.cl,TR.n4,(by rw[ay,aaF rfl]),mv,_,_,_,rfl,rfl,ar.of q8,aF (j:=0) rfl,_,M,_,n7,_,rfl,DI,gx0,l7,B7,by show _+wc (aq S7.TS n7)<3000000;lia,λn9 S9 MW9 H9 m8 hX9 k9 g9 B9 l9 e9=>?_⟩
   have r9:=DI.DD k9 r8
   have q9:=DI.DC k9 q8 md
   have Cq:∀b u,H b=some u->b≠r->H9 b=some u:=λb u hb nb=>k9 _ _ (k8 _ _ (Kf b u hb nb) nb) λhm=>by rw[HQ b hm]at hb;cases hb
   refine⟨(by show 1<=sizeLine;decide),λfo kU=>?_⟩
   obtain⟨ra,qa,ZE,ka⟩:=bZ (o:=.lst [.int (n9:Int)]) (fs':=aj "found" (.ref fo) (aj "moves" (.ref mv) (aj "firsts" (.int (n5:Int)) (aj "grove" (.ref g) (aj "machine" (.ref x) []))))) r9 kU
   have Uo:fo≠r:=(ae r9 kU).symm
   have Up:H fo=none:=cJ Cq kU Uo
   refine⟨_,rfl,r,CR,dr,_,rfl,ZE,TR.cl,TR.n5,iY (aw (aw (aw (aw (aaf _))))) (by show 4<1000;decide),?_⟩
   have tQ:=(m8.same (ak.av (o:=.lst [.int (n9:Int)]) kU)).yz (o:=.ins CR dr (aj "found" (.ref fo) (aj "moves" (.ref mv) (aj "firsts" (.int (n5:Int)) (aj "grove" (.ref g) (aj "machine" (.ref x) [])))))) ZE dA
   have o1:fo≠f1:=(ae m8.mf.h1 kU).symm
   have o3:fo≠f3:=(ae m8.mf.h3 kU).symm
   have on:fo≠nm:=(ae m8.fo.hn kU).symm
   have od:fo≠nd:=(ae m8.fo.hd kU).symm
   have mf:mv≠fo:=ae q9 kU
   have qm:=ka _ _ q9 Ul
   have Ol:∀b u,H b=some u->b≠r->(upd (upd H9 fo (.lst [.int (n9:Int)])) r (.ins CR dr (aj "found" (.ref fo) (aj "moves" (.ref mv) (aj "firsts" (.int (n5:Int)) (aj "grove" (.ref g) (aj "machine" (.ref x) []))))))) b=some u:=λb u hb nb=>ka _ _ (Cq b u hb nb) nb
   generalize upd (upd H9 fo (.lst [.int (n9:Int)])) r (.ins CR dr (aj "found" (.ref fo) (aj "moves" (.ref mv) (aj "firsts" (.int (n5:Int)) (aj "grove" (.ref g) (aj "machine" (.ref x) []))))))=Ha at ra qa ka tQ qm Ol ⊢
   refine⟨_,rfl,r,CR,dr,_,_,rfl,ra,TR.cl,TR.n5,(by rw[ay,aaF rfl]),fo,_,_,_,rfl,rfl,ar.of qa,aF (j:=0) rfl,_,rfl,r,CR,dr,_,rfl,ra,TR.cl,TR.n6,iY (aw (aw (aw (aw (aw (aaf _)))))) (by show 5<1000;decide),?_⟩
   have ev9:∀e,ev e (aq S9.TS n9)=ev e (cn (bQ M) (cb M lit)):=λe=>by
    refine adb.mpr ?_
    rw[e9 e,Ui ok lit e]
    unfold oK
    constructor
    . rintro⟨e',h1,h2⟩
      exact⟨e',h1,by rw[← e7 e'];exact h2⟩
    . rintro⟨e',h1,h2⟩
      exact⟨e',h1,by show ev e' (aq S7.TS n7)=true;rw[e7 e'];exact h2⟩
   have t9:=DE ok m8.fo.fs l9 ev9
   refine kk _ mv fo _ [n9] [n7] n9 _ ⟨⟨_,af,?_⟩,tQ.yz ra dA,hX9,by rw[ag Ul];exact qm,by rw[ag Uo];exact qa,rfl,rfl,λj hj=>?_,⟨l9,t9⟩,B9.up ?_,mf,λq hq=>?_,dA⟩ (λb u hb nb=>by rw[ag nb];exact Ol b u hb nb) HQ Um Up
   . exact⟨(by rw[ay,aaz dk,ay,aaz dk,ay,aaz dk,ay,aaz dk,ay,aaF rfl]),(by rw[ay,aaz dk,ay,aaz dk,ay,aaF rfl]),(by rw[ay,aaz dk,ay,aaF rfl]),(by rw[ay,aaF rfl]),(by rw[ay,aaz dk,ay,aaz dk,ay,aaz dk,ay,aaz dk,ay,aaz dk,ay,aaz dk];rfl),aw (aw (aw (aw (aw (aw (aaf _))))))⟩
   . have:j=0:=by lia
     subst this
     exact⟨n9,rfl,l9,t9⟩
   . show _+wc (aq S7.TS n7)<=270000+192000*0
     lia
   . simp only[aaj,aat,adg]at hq
     rcases hq with rfl|rfl|rfl|rfl
     . exact⟨m1,o1⟩
     . exact⟨m3,o3⟩
     . exact⟨mn,on⟩
     . exact⟨md,od⟩
end
abbrev vL:Stmt:=top 12
inductive DJ(CM:Addr) (vs:List V) (H:Hp) (Q:VK):Prop
 | mk (x dx f1 f2 f3 f4 f5 f6:Addr) (ts:List Addr) (M:aQ) (eQ lit:Str) (h1:vs=[.ref x,.str eQ]) (h2:MG CM H x dx f1 f2 f3 f4 f5 f6 ts M) (h3:aG (dc M.nevers) (.inr eQ)=some (.str lit)) (h4:M.keepers.length<=4) (h5:(aW M).length<=6) (h6:∀(D:Addr) (us:List V) (n:Nat) (H':Hp),ak H H'->H D=none->H' D=some (.lst us)->(∀j,j<n->rg M (cb M lit) (j+1)≠rg M (cb M lit) j)->rg M (cb M lit) (n+1)=rg M (cb M lit) n->n<=16->Paired (λu j=>ff H' (cn (bQ M) (rg M (cb M lit) j)) u) us (List.range (n+1))->Q (.ref D) H'):DJ CM vs H Q
def yA(CM:Addr):Sp:=λvs H Q _=>DJ CM vs H Q
theorem acw:(["number", "rings"]:List Str).Nodup:=dk
section
variable {P:Program}{w:World}{K:W.Frag}{mg:Str->Option Value}{base:Heap}{CF CM CG CR:Addr}
theorem MH{Hf:Hp}{r dr mv fo D:Addr}{a:GA}{M:aQ}{b0:List Bool}{i c:Nat}{s:GS}{fs ms:List Nat}{la:Nat}{Q:Hp->Prop}(TR:DB K mg CR)(TG:jN K mg CG)(TF:hZ K mg CF)
 (hR:RO P w CF CM CG CR Hf r dr mv fo a M b0 i c s fs ms la) (hD:Hf D=none) (k4:M.keepers.length<=4) (hi:i<=16) (hc:c+192000*s.NX.length<3500000)
 (fin:∀us H',(∀b o,Hf b=some o->b∉a.own->H' b=some o)->H' D=some (.lst us)->Paired (λu j=>ff H' (cn (bQ M) (rg M b0 j)) u) us (List.range (i+1))->Q H') :
 ∃W:Nat->Nat->St->Hp->Prop,(∃m,W 0 m [none,some (.ref r)] (upd Hf D (.lst [])))/\uJ D (eD 0) oo (vS CF "tree_at" (lO P w CF 9) [] E0 (AI K (AI K (d6 1) "grove") "forest") (eB (d6 0) j0)) (uH K fo) W Q:=by
 have hlf:=hR.lf
 obtain⟨fl,rM,sQ⟩:=hR.hr
 have nDr:r≠D:=ae rM hD
 have nDf:fo≠D:=ae hR.hf hD
 have n8:=hR.go.fo.n8
 have ro:r∉a.own:=hR.go.lA rM (.inl rfl)
 have ZF:fo∉a.own:=hR.go.lA hR.hf (.inr ⟨rfl,(hR.d2 a.nd (by simp)).2⟩)
 refine fz fs.length (λj acc σ H9=>∃S9:de,GO P w CF CM CG H9 a M ⟨S9,s.PL,s.NX,s.MI,s.MW⟩/\S9.N=s.S.N/\S9.TS=s.S.TS/\Bd S9 (c+192000*s.NX.length+510*j)/\(∃u,σ=[u,some (.ref r)])/\Paired (λu j=>ff H9 (cn (bQ M) (rg M b0 j)) u) acc (List.range j)/\∀b o,Hf b=some o->b∉a.own->H9 b=some o) ⟨s.S,hR.go.same (ak.av hD),rfl,rfl,hR.gb.bd,⟨none,rfl⟩,.nil,λb o hb _=>by rw[ag (ae hb hD)];exact hb⟩ af ?_ ?_
 . rintro acc σ H9 df ⟨S9,m8,eN,eT,B9,_,p9,k9⟩
   refine⟨⟨_,ar.of (k9 _ _ hR.hf ZF),by rw[aaa];exact aaf _⟩,fin acc H9 k9 df (by rw[← hlf];exact p9)⟩
 . rintro j acc σ H9 hj df ⟨S9,m8,eN,eT,B9,⟨u,rfl⟩,p9,k9⟩
   have ZG:=k9 _ _ hR.hf ZF
   have Cy:=k9 _ _ rM ro
   obtain⟨n,e1,l,e2⟩:=hR.rf j (by lia)
   have hx:(fs.map iV)[j]?=some (iV n):=by rw[aae,e1];rfl
   refine⟨⟨_,_,ar.of ZG,hx⟩,?_⟩
   rintro xv H' ⟨rfl,hv⟩
   have ex:=hv _ (ar.of ZG)
   rw[hx]at ex
   cases ex
   have tn:aq S9.TS n=cn (bQ M) (rg M b0 j):=by rw[eT];exact e2
   have dn:(aq S9.TS n).dep<=4:=by rw[tn];exact aam (xR _) k4
   have zn:=XA (t:=aq S9.TS n) (by lia)
   refine dJ ⟨_,rfl,r,CR,dr,fl,_,rfl,Cy,TR.cl,TR.n2,sQ.f1,a.g,CG,a.dg,_,_,rfl,m8.hg,TG.cl,TG.n2,vz ..,a.y,a.dy,_,rfl,m8.fo.hy,HH ..,_,rfl,a.y,a.dy,a.nm,a.sp,a.nd,a.kn,a.ch,a.im,a.ex,aW M,S9,n,_,rfl,m8.fo,by rw[eN];exact l,by lia,B9,by lia,λv S8 H8 fo8 k8 ZI ZJ B8 _ r8=>?_⟩
   have g8:cj S9 S8:=⟨⟨[],by rw[ZI,aec]⟩,⟨[],by rw[ZJ,aec]⟩⟩
   have DI:=m8.grown fo8 k8 g8
   have kg8:=KG.of k8
   have qv:H8 D=some (.lst acc):=k8 _ _ df (ae hR.go.fo.hd hD).symm (ae hR.go.fo.hk hD).symm (ae hR.go.fo.hc hD).symm (ae hR.go.fo.hi hD).symm (ae hR.go.fo.he hD).symm
   have al:acc.length=j:=by rw[p9.length,adi]
   have kt:∀b xs,H' b=some (.tup xs)->(upd H8 D (.lst (acc++[v]))) b=some (.tup xs):=λb xs hb=>by
    rw[ag (aD hb df (by intro z;cases z))]
    exact k8 _ _ hb (aD hb m8.fo.hd (by intro z;cases z)) (aD hb m8.fo.hk (by intro z;cases z)) (aD hb m8.fo.hc (by intro z;cases z)) (aD hb m8.fo.hi (by intro z;cases z)) (aD hb m8.fo.he (by intro z;cases z))
   have kt8:∀b xs,H8 b=some (.tup xs)->(upd H8 D (.lst (acc++[v]))) b=some (.tup xs):=λb xs hb=>by
    rw[ag (aD hb qv (by intro z;cases z))]
    exact hb
   refine⟨acc,qv,by rw[al];exact small (by lia),cE hj af ⟨S8,DI.putL qv (λb hb=>?_),by rw[ZI,eN],by rw[ZJ,eT],B8.up (by lia),⟨_,rfl⟩,?_,λb o hb nb=>?_⟩⟩
   . simp only[aaj,aat,adg]at hb
     rcases hb with rfl|rfl|rfl|rfl
     . exact(ae hR.go.mf.h1 hD).symm
     . exact(ae hR.go.mf.h3 hD).symm
     . exact(ae hR.go.fo.hn hD).symm
     . exact(ae hR.go.fo.hd hD).symm
   . rw[agE]
     refine cT (Paired.cw p9 λ_ _ e=>e.keep kt) (.cons ?_ .nil)
     rw[← tn]
     exact r8.keep kt8
   . rw[ag (ae hb hD)]
     exact kg8 _ _ (k9 b o hb nb) nb
def ZL(P:Program)(w:World)(CF CM CG CR:Addr)(H:Hp)(r dr mv fo x:Addr)(eQ lit:Str)(a:GA)(M:aQ)(m:Nat)(σ:St)(Hx:Hp):Prop:=∃(i:Nat) (s:GS) (fs ms:List Nat) (la:Nat),m=17-i/\σ=[some (.ref x),some (.str eQ),some (.ref r)]/\RO P w CF CM CG CR Hx r dr mv fo a M (cb M lit) i (270000+92000*i) s fs ms la/\ak H Hx/\∀j,j<i->rg M (cb M lit) (j+1)≠rg M (cb M lit) j
theorem Uq:aJ ["machine", "wish", "rings"] ["machine", "wish"] (az vL):=fs
theorem MJ{f fI fG fA:Addr}{fd dI dG dA:FuncData}(F:aK K "rings_to" "rings_to" vL f fd)(TR:DB K mg CR)(TG:jN K mg CG)(TF:hZ K mg CF)
 (gI:ax P w K mg base aB 21 fI dI ["self", "machine", "wish"] (Fx P w CF CM CG CR)) (mI:Mk K CR fI) (bI:Binds K dI ["self", "machine", "wish"] [])
 (gG:ax P w K mg base aB 21 fG dG ["self"] (Fw P w CF CM CG CR)) (mG:Meth K CR "grown" fG) (bG:Binds K dG ["self"] [])
 (gA:ax P w K mg base aB 10 fA dA ["self", "number"] (lO P w CF 9)) (mA:Meth K CF "tree_at" fA) (bA:Binds K dA ["self", "number"] []):ax P w K mg base aB 23 f fd ["machine", "wish"] (yA CM):=by
 refine F.run Uq λcdv A outer s H vs Q E hr h=>?_
 . obtain⟨x,dx,f1,f2,f3,f4,f5,f6,ts,M,eQ,lit,rfl,hM,hw,k4,k6,kk⟩:=h
   have C7:aN 10 _:=hr.mono (by decide)
   have acx:aN 21 _:=hr.mono (by decide)
   refine⟨_,ai (aP 2 Uq.nd (ub mI gI hr rfl TR.mgC bI .nil dv (aa (pv 0) (aa (pv 1) ah))))
    (ai (u9 ac7 (ig (AK (pv 2) TR.cl mG gG acx bG .nil dv)) (au O5))
    (au (aL (fu (N:=["number", "rings"]) (js:=[none,some 2]) (te:=vS CF "tree_at" (lO P w CF 9) [] E0 (AI K (AI K (d6 1) "grove") "forest") (eB (d6 0) j0)) (by kernel_rfl) rfl (dj (aE (pv 2) rfl)) (λ_ _ _ _ _ _=>aC (i:=0) acw rfl (Or.inl rfl) (.inr rfl)) (λ_ _ _ _ _ _=>bJ) (λ_ _ _ _ _ _=>Em (aE (aE (pv 1) rfl) rfl) TF.cl mA gA C7 bA .nil dv (aa (pv 0) ah)))))),?_⟩
   refine⟨_,rfl,_,rfl,?_⟩
   intro r dr pB OK hne
   have s1:=Fq (CG:=CR) pB OK
   refine⟨r,dr,x,dx,f1,f2,f3,f4,f5,f6,ts,M,eQ,lit,rfl,af,(ae hM.mf.hx pB).symm,hM.same s1,hw,k4,k6,λa mv fo s0 fs ms la H1 hR k1 acy Um Up=>⟨rfl,?_⟩⟩
   have sH1:ak H H1:=λb u hb=>k1 _ _ (s1 _ _ hb) (ae hb pB)
   have Ur:∀b∈a.own,H b=none:=λb hb=>oJ pB OK (acy b hb)
   have mv1:H mv=none:=oJ pB OK Um
   have fo1:H fo=none:=oJ pB OK Up
   have nY:∀{Hx Hy:Hp},ak H Hx->KR Hx Hy a r mv fo->ak H Hy:=λsi kr b u hb=>kr b u (si b u hb) (λhm=>by rw[Ur b hm]at hb;cases hb) (ae hb pB) (ae hb mv1) (ae hb fo1)
   have p16:2 ^ M.keepers.length<=16:=ada (n:=2) (by decide) k4
   refine⟨λm σ Hx=>ZL P w CF CM CG CR H r dr mv fo x eQ lit a M m σ Hx,⟨17,0,s0,fs,ms,la,rfl,rfl,hR,sH1,λj hj=>absurd hj (adE _)⟩,?_⟩
   rintro m σ Hx ⟨i,s,fs,ms,la,rfl,rfl,DK,si,ni⟩
   have hi:i<=16:=aam (Dw (j6 M lit) ni) p16
   obtain⟨fl,rM,sQ⟩:=DK.hr
   refine⟨_,rfl,r,dr,fl,rfl,rM,sQ.f5,r,dr,mv,fo,a,M,cb M lit,i,_,s,fs,ms,la,rfl,DK,j6 M lit,k4,k6,by lia,by lia,λs' fs' Uc la' H' Fy kr hn=>?_,λs' H' Fy kr he=>?_⟩
   . refine⟨true,rfl,di rfl ⟨λcm H'=>∃m',m'<17-i/\ZL P w CF CM CG CR H r dr mv fo x eQ lit a M m' cm H',λ_ _ h=>h,?_⟩⟩
     refine⟨17-(i+1),by lia,i+1,s',fs',Uc,la',rfl,rfl,by rw[show 270000+92000*(i+1)=270000+92000*i+92000 by lia];exact Fy,nY si kr,λj hj=>?_⟩
     by_cases e:j=i
     . rw[e];exact hn
     . exact ni j (by lia)
   . refine⟨false,rfl,dw rfl ?_⟩
     have sF:=nY si kr
     obtain⟨fl',acz,acA⟩:=Fy.hr
     have nxl:=Fy.gx.len
     have Yw:192000*s'.NX.length<=192000*M.keepers.length:=ad1 _ nxl
     refine⟨_,rfl,r,CR,dr,fl',_,rfl,acz,TR.cl,TR.n5,acA.f3,fo,rfl,⟨_,ar.of Fy.hf⟩,λD hD=>MH TR TG TF Fy hD k4 hi (by lia) λus H2 k2 sP p2=>?_⟩
     have Ra:H D=none:=by
      cases e:H D with
      | none=>rfl
      | some u=>rw[sF _ _ e]at hD;cases hD
     exact kk D us i H2 (λb u hb=>k2 b u (sF b u hb) λhm=>by rw[Ur b hm]at hb;cases hb) Ra sP ni he hi p2
end
end Gen
namespace L2
open PySem PySem.Spec PyProof.Rows
theorem Ac:∀{names:List (Str×NameKind)},(names.filter λp=>p.2 == .cell)=[(y,.cell)]->(∀n acc,cellsFrom n names acc=(y,n)::acc)/\∀h,pushCells h names=h.push {cls:=.type "cell",data:=.cell none}
 | (z,k)::r,e=>by
  cases hk:k == NameKind.cell with
  | true=>
   rw[afs,aaF hk]at e
   have e1:=aea e
   have ez:z=y:=congrArg Prod.fst e1.1
   have er:∀p∈r,(p.2 == NameKind.cell)=false:=λp hp=>by
    cases q:p.2 == NameKind.cell with
    | false=>rfl
    | true=>
     have:p∈r.filter λp=>p.2 == .cell:=adO.mpr ⟨hp,q⟩
     rw[e1.2]at this
     cases this
   have none:∀{l:List (Str×NameKind)},(∀p∈l,(p.2 == NameKind.cell)=false)->(∀n acc,cellsFrom n l acc=acc)/\∀h,pushCells h l=h:=λ{l}=>by
    induction l with
    | nil=>exact λ_=>⟨λ_ _=>rfl,λ_=>rfl⟩
    | cons p l ih=>
     intro hl
     obtain⟨i1,i2⟩:=ih λq hq=>hl q (aav _ hq)
     have hp:=hl p aas
     obtain⟨pn,pk⟩:=p
     refine⟨λn acc=>?_,λh=>?_⟩
     . rw[cellsFrom,aaz (by rw[show (pk == NameKind.cell)=false from hp];decide)];exact i1 n acc
     . rw[pushCells,aaz (by rw[show (pk == NameKind.cell)=false from hp];decide)];exact i2 h
   obtain⟨j1,j2⟩:=none er
   refine⟨λn acc=>?_,λh=>?_⟩
   . rw[cellsFrom,aaF hk,j1,ez]
   . rw[pushCells,aaF hk,j2]
  | false=>
   rw[afs,aaz (by rw[hk];decide)]at e
   obtain⟨i1,i2⟩:=Ac e
   refine⟨λn acc=>?_,λh=>?_⟩
   . rw[cellsFrom,aaz (by rw[hk];decide)];exact i1 n acc
   . rw[pushCells,aaz (by rw[hk];decide)];exact i2 h
theorem MK(hy:(scope.names.filter λp=>p.2 == .cell)=[(y,.cell)])
 (hQ:Q (newEnv scope s.heap.objs.size globals ((y,s.heap.objs.size+1)::closure) qual none .none (some around) builtinsNs) {s with heap:=(s.heap.push {cls:=.type "dict",data:=.dict #[] }).push {cls:=.type "cell",data:=.cell none} }) :
 wpAny M A (newFunctionEnv scope globals closure [] qual none .none (some around)) Q E s:=by
 obtain⟨c1,c2⟩:=Ac hy
 simp only[newFunctionEnv,ag5,afl]
 refine aad (wpAny_alloc ?_)
 refine aad (wpAny_layCells _ (λname kind cells=>by cases hkc:kind == NameKind.cell <;> simp[hkc]) _ _ _ _ ?_)
 rw[c1,c2]
 rw[show ({s with heap:=s.heap.push {cls:=.type "dict",data:=.dict #[] } } : Shared).heap.objs.size=s.heap.objs.size+1 from adz ..]
 rw[aeR]
 exact aad (aao (aao hQ))
abbrev nX(X:Cx)(N:List Str)(scope:Scope)(y:Str) (cl:List (Str×Addr)) (C:Addr) (s:Shared) (H:Hp) (fp:List Addr) (pn:List (Addr×Obj)):Cx:=wm X N scope (λx=>decide (x=y)) cl C s H fp pn
theorem iQ.cell(S:iQ X N js scope [y]):(scope.names.filter λp=>p.2 == .cell)=[(y,.cell)]/\scope.names.lookup y=some .cell:=by
 have h0:=S.one
 have all:∀p∈scope.names.filter λp=>p.2 == .cell,p.2=.cell/\scope.names.lookup p.1=some p.2:=λp hp=>by
  have h:=adO.mp hp
  have e:p.2=.cell:=by
   have:=h.2
   cases q:p.2 <;> rw[q]at this <;> first|rfl|cases this
  exact⟨e,S.at_ p h.1 (.inr e)⟩
 generalize (scope.names.filter λp=>p.2 == .cell)=l at h0 all
 match l,h0 with
 | [(a,k)],h0=>
  have ea:a=y:=(aea h0).1
  obtain⟨ek,el⟩:=all (a,k) aas
  dsimp only at ek el
  rw[ea,ek]at el
  rw[ea,ek]
  exact⟨rfl,el⟩
section
variable {X:Cx}{N:List Str}{js:List (Option Nat)}{scope:Scope}{y:Str}{elt tg iter:Expr}{ifs:List Expr}{pos:Pos}{wi:TI}{g:TG}{ti:TT}{te:TE}
theorem Ql(S:iQ X N js scope [y])(hc:X.calm=true)(hi:PI X tg iter wi)
 (hg:∀cl C s H fp pn,PG (nX X N scope y cl C s H fp pn) tg g) (ht:∀cl C s H fp pn,sL (nX X N scope y cl C s H fp pn) ifs ti) (he:∀cl C s H fp pn,PE (nX X N scope y cl C s H fp pn) elt te)
 (hs:∀x,foldedSetIterable iter X.env x=pure x):Et X elt tg iter ifs scope pos (IU js wi g ti te):=by
 intro pins s σ H Q use R I h hR
 obtain⟨cl,F8,gd,rM⟩:=pS (scope:=scope) (env:=X.env) λx hx hk=>I.ok.has x.1 (S.frees x hx hk)
 refine afY (use:=use) rfl hs F8 S.kind S.names (aO (hi pins s σ H _ I h) λxv s1 h1=>aO h1 λNh s2 h2=>?_)
 obtain⟨it,fp,tn,J,H2,e,I2,T,pK,f2,q2⟩:=h2
 subst e
 obtain⟨one,self⟩:=S.cell
 refine aeM (MK one ?_)
 dsimp only
 have I3:Inv X pins σ (upd H2 s2.heap.objs.size (.lst [])) {s2 with heap:=s2.heap.push {cls:=.type "list",data:=.seq ([]:List Value).toArray},toks:=s2.toks}:=I2.FZ .nil (by show 0<=sizeLine;decide)
 have lt2:∀b∈fp,b<s2.heap.objs.size:=λb hb=>let ⟨o,e,_⟩:=T.obj _ _ pK b hb;aaw e
 have f3:∀b∈fp,jL X pins (upd H2 s2.heap.objs.size (.lst [])) b:=λb hb=>⟨by rw[ag (aaD (lt2 b hb))];exact(f2 b hb).1,(f2 b hb).2⟩
 obtain⟨W,⟨m0,w0⟩,turn⟩:=q2 s2.heap.objs.size (I2.hok.fresh (aaf _))
 have l3:∀b∈fp,b<(s2.heap.push {cls:=.type "list",data:=.seq ([]:List Value).toArray}).objs.size:=λb hb=>by rw[adz];exact adL (lt2 b hb)
 generalize hh:s2.heap.push {cls:=.type "list",data:=.seq ([]:List Value).toArray} = h3 at I3 l3 ⊢
 have k1:∀b o,h3.get? b=some o->((h3.push {cls:=.type "dict",data:=.dict #[] }).push {cls:=.type "cell",data:=.cell none}).get? b=some o:=λb o e=>aac _ (aac _ e)
 have Nr:=(Heap.Ns.new h3 (.type "dict")).keeps λb o e=>aac {cls:=.type "cell",data:=.cell none} e
 have Na:((h3.push {cls:=.type "dict",data:=.dict #[] }).push {cls:=.type "cell",data:=.cell none}).IsCell (h3.objs.size+1) none:=by
  have:=aaq (h3.push {cls:=.type "dict",data:=.dict #[] }) (o:={cls:=.type "cell",data:=.cell none}) rfl
  rw[adz]at this
  exact⟨_,this,rfl⟩
 have A8:=T.keep _ _ ((h3.push {cls:=.type "dict",data:=.dict #[] }).push {cls:=.type "cell",data:=.cell none}) pK λb hb o e=>k1 b o (by rw[← hh];exact aac _ e)
 have acB:((y,h3.objs.size+1)::cl).lookup y=some (h3.objs.size+1):=by rw[adU,aeU]
 have two:∀x c,((y,h3.objs.size+1)::cl).lookup x=some c->(x=y/\c=h3.objs.size+1)\/(x≠y/\X.env.cells.lookup x=some c):=λx c e=>by
  rw[adU]at e
  cases hx:x == y with
  | true=>rw[hx]at e;exact .inl ⟨eq_of_beq hx,(aay e).symm⟩
  | false=>rw[hx]at e;exact .inr ⟨(λz=>by rw[z,aeU]at hx;cases hx),gd x c e⟩
 have I4:=I3.enter (f:=λx=>decide (x=y)) (cl:=(y,h3.objs.size+1)::cl) (tk:=s2.toks) S hc (λx e=>aaH λz=>by rw[z,self]at e;cases e) (λx z e1 e2=>(adh e1).trans (adh e2).symm)
  (λx c e=>(two x c e).elim (λz=>.inl ⟨aaN z.1,z.2,by rw[z.2];exact Na⟩) λz=>.inr ⟨aaH z.1,z.2⟩) (λx hx=>by
   by_cases ex:x=y
   . rw[ex];exact⟨_,acB⟩
   . rw[adU,adt.mpr ex]
     exact hx.elim (λe=>rM _ (lookup_mem e) rfl) λe=>absurd (aaC.mp (S.mem (lookup_mem e) rfl)) ex) rfl f3 l3 Nr k1
 have loop:=Nu (f:=λx=>decide (x=y)) (iter:=iter) (pos:=pos) hg ht he I3 f3 rfl l3 (λx c e b hb=>(two x c e).elim (λz=>by rw[z.2];exact ad4 (adL (l3 b hb))) λz=>(f3 b hb).2.2.2.2.1 x c z.2) I4 T A8 w0 turn hR
 exact codeAny_compStart_list loop (T.self _ 0 _ _ _ A8 loop)
theorem Us(S:sI X.N X.env.scope.names N js scope [y]=true)(hc:X.calm=true)(hi:PI X tg iter wi)
 (hg:∀cl C s H fp pn,PG (nX X N scope y cl C s H fp pn) tg g) (ht:∀cl C s H fp pn,sL (nX X N scope y cl C s H fp pn) ifs ti) (he:∀cl C s H fp pn,PE (nX X N scope y cl C s H fp pn) elt te)
 (hs:∀x,foldedSetIterable iter X.env x=pure x:=by intro _;rfl):PE X (.ListComp elt [⟨tg,iter,ifs,0⟩] scope pos) (IU js wi g ti te):=(Ql (.of S) hc hi hg ht he hs).pe
end
end L2
namespace Gen
open PySem L2
abbrev HR:Stmt:=top 31
inductive Fz(K:W.Frag) (vs:List V) (H:Hp) (Q:VK):Prop
 | mk (m a1 a2 a3 a4 a5 a6:Addr) (M:aQ) (all:List Str) (lit:Str) (h1:vs=[.ref m,.str lit]) (h2:iz H m M a1 a2 a3 a4 a5 a6) (h3:MZ M all) (h4:Lit all lit) (h5:M.keepers.length<=4) (h6:M.switches.length<=3) (h7:∀(L:Addr) (as:List Addr) (n:Nat) (H':Hp),ak H H'->H' L=some (.lst (as.map V.ref))->Paired (λp j=>H' p=some (.lst ((rg M (cb M lit) j).map bV))) as (List.range (n+1))->(∀j,j<n->rg M (cb M lit) (j+1)≠rg M (cb M lit) j)->rg M (cb M lit) (n+1)=rg M (cb M lit) n->Q (.ref L) H'):Fz K vs H Q
def DL(K:W.Frag):Sp:=λvs H Q _=>Fz K vs H Q
theorem KP{l:List Bool}{m:Int}(h1:m∈l.map bI)(h2:∀a∈l.map bI,a<=m):V.int m=bV (l.any id):=by
 obtain⟨b,hb,rfl⟩:=aal.mp h1
 cases e:l.any id with
 | true=>
  obtain⟨i,hi,hv⟩:=adx.mp e
  have:=h2 _ (aal.mpr ⟨i,hi,rfl⟩)
  rw[show i=true from hv]at this
  cases b with
  | true=>rfl
  | false=>exact absurd this (by decide)
 | false=>
  cases b with
  | false=>rfl
  | true=>exact absurd (adx.mpr ⟨true,hb,rfl⟩) (by rw[e];decide)
theorem ML(hl:xs.length=i+1)(h:xs[i]?=some v):j8 xs (-1)=some v:=by
 have hne:xs≠[]:=λe=>by rw[e]at hl;cases hl
 have e:xs=xs.dropLast++[v]:=by
  have h1:=aeA hne
  rw[afb]at h1
  have h2:xs[xs.length-1]'(by lia)=v:=by
   have h3:=(aak.mp h).2
   simp only[hl,ahe]
   exact h3
  rw[h2]at h1
  exact h1.symm
 rw[e]
 exact vd _ _
theorem Ut{l r:List Bool}(h:l.map bI=r.map bI):l=r:=by
 induction l generalizing r with
 | nil=>cases r with
  | nil=>rfl
  | cons _ _=>cases h
 | cons x l ih=>cases r with
  | nil=>cases h
  | cons y r=>
   rw[aaB,aaB]at h
   have h1:=(aea h).1
   rw[ih (aea h).2]
   cases x <;> cases y <;> first|rfl|exact absurd h1 (by decide)
theorem HS(l:List Bool):l.map bV=(l.map bI).map V.int:=by rw[adV];rfl
theorem FA{K:W.Frag}{H:Hp}{p:Addr}{l:List Bool}(h:H p=some (.lst (l.map bV))):Dp K H (.ref p) (.list ((l.map bI).map PyData.int)):=.lst (ar.of (by rw[h,HS])) (qW _)
theorem OL(b:List Int):(PyData.list (b.map PyData.int)).canLay0=true:=by rw[PyData.canLay0];exact lay_ints b
theorem XO(b:List Int):(PyData.list (b.map PyData.int)).depth=1:=by rw[PyData.depth,vp]
theorem XQ(b c:List Int):PyData.eqv (.list (b.map PyData.int)) (.list (c.map PyData.int))=decide (b=c):=by rw[PyData.eqv];exact vq b c
theorem XR(h:b0.length=2 ^ M.keepers.length) (hc:(bg M.keepers.length)[t]?=some c):(rg M b0 (n+1))[t]?=some ((b0.getD t false::(bh M c).map λj=>(rg M b0 n).getD j false).any id):=by
 have ht:t<2 ^ M.keepers.length:=by
  have:=(aak.mp hc).1
  rwa[bu]at this
 have hl:t<(rg M b0 (n+1)).length:=by rw[br h];exact ht
 rw[aab hl]
 have e:=fk (f:=or) h (eG M (rg M b0 n)) ht
 rw[xO _ hc]at e
 have e2:(rg M b0 (n+1)).getD t false=(rg M b0 (n+1))[t]:=by rw[aai,aab hl];rfl
 rw[← e2]
 show some ((List.zipWith or b0 (fU M (rg M b0 n))).getD t false)=_
 rw[e,ad8,List.any_map]
 rfl
def ZM(H L0:Hp)(L:Addr)(M:aQ)(b0:List Bool)(σf:Option V->Option V->St)(m:Nat)(σ:St)(Hx:Hp):Prop:=∃(n:Nat) (as:List Addr) (v8 v9:Option V),m=17-n/\σ=σf v8 v9/\Hx L=some (.lst (as.map V.ref))/\Paired (λp j=>p≠L/\Hx p=some (.lst ((rg M b0 j).map bV))) as (List.range (n+1))/\(∀b u,L0 b=some u->b≠L->Hx b=some u)/\∀j,j<n->rg M b0 (j+1)≠rg M b0 j
abbrev nBk:List Str:=["_law_m", "_law_literal_here", "_law_told", "_law_stands", "_law_bits", "_law_behind", "_law_stand", "_law_rings", "_law_last", "_law_later"]
abbrev KQ:List Str:=["_law_m", "_law_literal_here"]
theorem rG:aJ nBk KQ (az HR):=fs
theorem Uu:(["_law_one", "_law_m", "_law_stand", "_law_literal_here"]:List Str).Nodup:=dk
theorem Uv:(["_law_stand", "_law_told", "_law_m", "_law_literal_here"]:List Str).Nodup:=dk
theorem Uw:(["_law_one", "_law_stands", "_law_m", "_law_stand"]:List Str).Nodup:=dk
theorem Ux:(["_law_k", "_law_bits", "_law_last", "_law_behind"]:List Str).Nodup:=dk
theorem XS:(["_law_place", "_law_last"]:List Str).Nodup:=dk
section
variable (P:Program) (w:World) (K:W.Frag) (mg:Str->Option Value) (base:Heap)
structure Uy(fA fV fB fN:Addr) (dA dV dB dN:FuncData):Prop where
 cA:jq P w K mg base 1 fA dA "_law_all_bits" ["_law_many"] (CJ K)
 cV:jq P w K mg base 2 fV dV "_law_values" sf (oC K)
 cB:jq P w K mg base 1 fB dB "_law_bit" ["_law_values_here", "_law_literal_here"] qc
 cN:jq P w K mg base 3 fN dN "_law_next" sf (xM K)
end
section
variable {P:Program}{w:World}{K:W.Frag}{mg:Str->Option Value}{base:Heap}{fA fV fB fN:Addr}{dA dV dB dN:FuncData}
theorem Qm{f:Addr}{fd:FuncData}(F:aK K "_law_backward" "_law_backward" HR f fd)(O:Own mg)(O2:iD mg)(G:Uy P w K mg base fA fV fB fN dA dV dB dN):ax P w K mg base aB 4 f fd KQ (DL K):=by
 refine F.run rG λcdv A outer s H vs Q E hr h=>?_
 . obtain⟨m,a1,a2,a3,a4,a5,a6,M,all,lit,rfl,hM,mz,Bn,k4,w3,kk⟩:=h
   have hu:=eS hr
   have hu2:=adH (agW (by decide:2<=64) _) hr.units
   have dq:aN 1 _:=hr.mono (by decide)
   have mJ:aN 2 _:=hr.mono (by decide)
   have KS:aN 3 _:=hr.mono (by decide)
   refine⟨_,ai (aP 2 rG.nd (bb G.cA dq (aa (bf bw (by rfl) O2.len adm (aa (cq hu (pv 0) a0 (λ_ _=>rfl)) ah)) ah)))
    (ai (aP 3 rG.nd (bb G.cA dq (aa (bf bw (by rfl) O2.len adm (aa (cq hu (pv 0) a0 (λ_ _=>rfl)) ah)) ah)))
    (ai (aP 4 rG.nd (Us (y:="_law_stand") (N:=["_law_stand", "_law_told", "_law_m", "_law_literal_here"]) (js:=[none,some 2,some 0,some 1]) (by kernel_rfl) rfl (dj (pv 3)) (λ_ _ _ _ _ _=>aC (i:=0) Uv rfl (Or.inr rfl)) (λ_ _ _ _ _ _=>bJ)
     (λ_ _ _ _ _ _=>bf (r:=HJ K) (zV rfl) (by rfl) O2.max agH (aa (fu (N:=["_law_one", "_law_m", "_law_stand", "_law_literal_here"]) (js:=[none,some 2,some 0,some 3]) (wi:=FN K (d6 1)) (te:=nB qc [] E0 (eB (nB (oC K) [] E0 (eB (d6 1) (eB (d6 2) (eB (d6 0) j0)))) (eB (d6 3) j0))) (by kernel_rfl) rfl (dj (pv 1)) (λ_ _ _ _ _ _=>aC (i:=0) Uu rfl (Or.inl rfl) (.inr rfl)) (λ_ _ _ _ _ _=>bJ) (λ_ _ _ _ _ _=>bb G.cB dq (aa (bb G.cV mJ (aa (pv 1) (aa (pv 2) (aa (pv 0) ah)))) (aa (pv 3) ah)))) ah))))
    (ai (aP 5 rG.nd (cY ah))
    (ai (fi ac7 rfl (dj (pv 3)) (aC (i:=6) rG.nd rfl (Or.inr rfl))
     (au (eI (ft aaL ac5 ac6 eJ (pv 5) (aa (fu (N:=["_law_one", "_law_stands", "_law_m", "_law_stand"]) (js:=[none,some 3,some 0,some 6]) (te:=X3 K "list" (yi K 1) (d6 1) (eB (nB (xM K) [] E0 (eB (d6 2) (eB (d6 3) (eB (d6 0) j0)))) j0)) (by kernel_rfl) rfl (dj (pv 2)) (λ_ _ _ _ _ _=>aC (i:=0) Uw rfl (Or.inl rfl) (.inr rfl)) (λ_ _ _ _ _ _=>bJ)
      (λ_ _ _ _ _ _=>ft (r:=yi K 1) aaL PySem.F.slot_list_index PySem.F.type_list_index (JZ (n:=1) hu2) (pv 1) (aa (bb G.cN KS (aa (pv 2) (aa (pv 3) (aa (pv 0) ah)))) ah))) ah)))))
    (ai (aP 7 rG.nd (cY (aa (pv 4) ah)))
    (au (u9 ac7 (ig gZ)
     (ai (aP 8 rG.nd (aI (r:=eC K) aS (pv 7) (Ag vR ao) (λ_ _=>rfl)))
     (ai (wt (i:=9) (N:=["_law_k", "_law_bits", "_law_last", "_law_behind"]) (js:=[none,some 4,some 8,some 5]) rG.nd rfl rfl (by kernel_rfl) rfl (iq rfl O.range (aa (bf bw (by rfl) O2.len adm (aa (pv 3) ah)) ah)) (λ_ _ _ _ _ _=>aC (i:=0) Ux rfl (Or.inl rfl) (.inr rfl)) (λ_ _ _ _ _ _=>bJ)
      (λ_ _ _ _ _ _=>bf (r:=HJ K) (zV rfl) (by rfl) O2.max agH (aa (aX kK (cY (aa (aI (r:=eC K) aS (pv 1) (pv 0) (λ_ _=>rfl)) ah)) (fu (N:=["_law_place", "_law_last"]) (js:=[none,some 2]) (wi:=FN K (vQ (eC K) (d6 3) (d6 0))) (by kernel_rfl) rfl (dj (aI (r:=eC K) aS (pv 3) (pv 0) (λ_ _=>rfl))) (λ_ _ _ _ _ _=>aC (i:=0) XS rfl (Or.inl rfl) (.inr rfl)) (λ_ _ _ _ _ _=>bJ) (λ_ _ _ _ _ _=>aI (r:=eC K) aS (pv 1) (pv 0) (λ_ _=>rfl)))) ah)))
     (ai (cy (cU (PX (n:=1) hu) (pv 9) (pv 8) (dz _)) (au (aL (pv 7))) ba)
     (au (eI (ft aaL ac5 ac6 eJ (pv 7) (aa (pv 9) ah)))))))))))))),?_⟩
   have lsw:(M.switches.map V.str).length=M.switches.length:=aaa ..
   have n60:=mz.n60
   obtain⟨tk,w6,Kw⟩:=id hM.kp
   have ZN:=Kw.length
   rw[aaa]at ZN
   refine⟨_,rfl,m,.ref a1,rfl,bq.k (k:=.inr "switches") hM.top,a1,_,rfl,.inl (ar.of hM.sw),M.switches.length,(by rw[lsw];rfl),by lia,λR2 us2 H1 s1 aix zZ Ds=>?_⟩
   have MM:=Ds.length
   rw[bu]at MM
   have kX:=hM.same s1
   refine⟨_,rfl,m,.ref a2,rfl,bq.k (k:=.inr "keepers") kX.top,a2,_,rfl,.inl (ar.of (s1 _ _ w6)),M.keepers.length,(by rw[aaa,ZN];rfl),by lia,λst us H2 s2 aiy gz iP=>?_⟩
   have OM:=iP.length
   rw[bu]at OM
   have lu:2 ^ M.keepers.length<=16:=ada (n:=2) (by decide) k4
   have ou:2 ^ M.switches.length<=8:=ada (n:=2) (by decide) w3
   have jG:=s1.trans s2
   have HU:=s2 _ _ zZ
   refine⟨_,rfl,st,rfl,⟨_,ar.of gz⟩,λD hD=>?_⟩
   refine fz us.length (λi acc σ H9=>acc=((cb M lit).take i).map bV/\(∃u,σ=[u,some (.ref R2),some (.ref m),some (.str lit)])/\ak H2 H9) ⟨rfl,⟨none,rfl⟩,ak.av hD⟩ af ?_ ?_
   rotate_left
   . rintro i acc σ H9 hi df ⟨rfl,⟨u,rfl⟩,s9⟩
     have jS:(bg M.keepers.length)[i]?=some ((bg M.keepers.length)[i]'(by rw[bu];lia)):=aab _
     obtain⟨ca,Uz,KU⟩:=bx iP jS
     have ZO:(us.map V.ref)[i]?=some (.ref ca):=by rw[aae,Uz];rfl
     refine⟨⟨_,_,ar.of (s9 _ _ gz),ZO⟩,?_⟩
     rintro xv H' ⟨rfl,hv⟩
     have ex:=hv _ (ar.of (s9 _ _ gz))
     rw[ZO]at ex
     cases ex
     have FC:(cb M lit)[i]?=some ((bg M.switches.length).any λd=>decide (dQ (cH M d ((bg M.keepers.length)[i]'(by rw[bu];lia)) M.gates.length) lit=1)):=by unfold cb;rw[aae,jS];rfl
     obtain⟨gd,Ad⟩:=gY _ _ (aaK jS)
     generalize (bg M.keepers.length)[i]'(by rw[bu];lia)=c at jS KU gd Ad FC
     refine dJ ⟨_,rfl,R2,rfl,⟨_,ar.of (s9 _ _ HU)⟩,λDi KW=>?_⟩
     refine fz us2.length (λq acc σ H8=>acc=((((bg M.switches.length).map λd=>decide (dQ (cH M d c M.gates.length) lit=1))).take q).map bV/\(∃u,σ=[u,some (.ref m),some (.ref ca),some (.str lit)])/\ak H' H8) ⟨rfl,⟨none,rfl⟩,ak.av KW⟩ af ?_ ?_
     . rintro acc σ H8 qv ⟨rfl,_,s8⟩
       rw[MM,← bu M.switches.length,← aaa (f:=λd=>decide (dQ (cH M d c M.gates.length) lit=1)),ac4]at qv
       refine⟨⟨_,ar.of (s8 _ _ (s9 _ _ HU)),by rw[aaa];exact aaf _⟩,?_⟩
       refine⟨Di,_,rfl,ar.of (by rw[qv,HS]),?_,λmx h1 h2=>?_⟩
       . rw[aaa,aaa,bu]
         exact Nat.two_pow_pos _
       rw[KP h1 h2,List.any_map]
       refine⟨_,s8 _ _ df,by rw[aaa,aaG];exact small (by lia),cE hi af ⟨?_,⟨_,rfl⟩,λb o hb=>?_⟩⟩
       . rw[adn,FC,aah]
         rfl
       . rw[ag (ae hb hD)]
         exact s8 _ _ (s9 _ _ hb)
     . rintro q acc σ H8 hq qv ⟨rfl,⟨u,rfl⟩,s8⟩
       have xT:(bg M.switches.length)[q]?=some ((bg M.switches.length)[q]'(by rw[bu];lia)):=aab _
       obtain⟨da,UA,KY⟩:=bx Ds xT
       have KZ:(us2.map V.ref)[q]?=some (.ref da):=by rw[aae,UA];rfl
       have ZP:=s8 _ _ (s9 _ _ HU)
       refine⟨⟨_,_,ar.of ZP,KZ⟩,?_⟩
       rintro xv2 ZQ ⟨rfl,hv2⟩
       have xD:=hv2 _ (ar.of ZP)
       rw[KZ]at xD
       cases xD
       obtain⟨jT,l8⟩:=gY _ _ (aaK xT)
       have K0:(((bg M.switches.length).map λd=>decide (dQ (cH M d c M.gates.length) lit=1)))[q]?=some (decide (dQ (cH M ((bg M.switches.length)[q]'(by rw[bu];lia)) c M.gates.length) lit=1)):=by rw[aae,xT];rfl
       generalize (bg M.switches.length)[q]'(by rw[bu];lia)=d at xT KY jT l8 K0
       have UB:ak H2 ZQ:=s9.trans s8
       have fit:=mz.fm.fit ⟨jT.symm,l8⟩ ⟨gd.symm,Ad⟩
       refine dJ ⟨_,rfl,_,rfl,_,rfl,m,a1,a2,a3,a4,a5,a6,ca,da,M,all,d,c,rfl,hM.same (jG.trans UB),fit,ak.j4 UB KU,ak.j4 (s2.trans UB) KY,λdd H7 TX s7 oy=>?_⟩
       refine⟨_,rfl,dd,_,lit,rfl,.inl oy,Bn.N1 mz.ok.nm (λz hz=>by rw[fit.keys];exact hz),λH6 s6=>?_⟩
       have hv:V.int (dQ (cH M d c M.gates.length) lit)=bV (decide (dQ (cH M d c M.gates.length) lit=1)):=by
        rcases jw (o7 fit.b1 fit.b2 _) lit with e|e <;> rw[e] <;> rfl
       rw[hv]
       refine⟨_,s6 _ _ (s7 _ _ qv),by rw[aaa,aaG];exact small (by lia),cE hq af ⟨?_,⟨_,rfl⟩,λb o hb=>?_⟩⟩
       . rw[adn,K0,aah]
         rfl
       . rw[ag (ae hb KW)]
         exact s6 _ _ (s7 _ _ (s8 _ _ hb))
   rintro acc σ H3 df ⟨rfl,_,s3⟩
   rw[OM,← j6 M lit,ac4]at df
   refine⟨⟨_,ar.of (s3 _ _ gz),by rw[aaa];exact aaf _⟩,?_⟩
   refine⟨(by show 0<=sizeLine;decide),λbe nj=>?_⟩
   have s4:ak H3 (upd H3 be (.lst [])):=ak.av nj
   have q4:(upd H3 be (.lst [])) be=some (.lst (([]:List Addr).map V.ref)):=af
   show eR _ _ _ _ (upd H3 be (.lst []))
   generalize upd H3 be (.lst [])=H4 at s4 q4 ⊢
   have nbe:∀{b:Addr}{u:HO},H3 b=some u->b≠be:=λhb=>ae hb nj
   have k3:∀{Hx:Hp},(∀b u,H4 b=some u->b≠be->Hx b=some u)->ak H3 Hx:=λk b u hb=>k _ _ (s4 _ _ hb) (nbe hb)
   refine⟨_,rfl,st,rfl,⟨_,ar.of (s4 _ _ (s3 _ _ gz))⟩,lD (K:=K) (a:=st) (xs:=us.map V.ref) (λi σ Hi=>∃(ls:List Addr) (v6:Option V),σ=[some (.ref m),some (.str lit),some (.ref R2),some (.ref st),some (.ref D),some (.ref be),v6,none,none,none]/\(∀b u,H4 b=some u->b≠be->Hi b=some u)/\Hi be=some (.lst (ls.map V.ref))/\Paired (λl c=>l≠be/\Hi l=some (.lst ((bh M c).map iV))) ls ((bg M.keepers.length).take i)) ?_ ?_ ?_ ?_⟩
   . exact⟨[],none,rfl,λ_ _ h _=>h,q4,.nil⟩
   . rintro i σ Hi _ ⟨ls,v6,rfl,ki,_⟩
     exact ar.of (k3 ki _ _ (s3 _ _ gz))
   . rintro i xv σ Hi hx ⟨ls,v6,rfl,ki,FC,ZR⟩
     have hi:i<us.length:=by
      have:=(aak.mp hx).1
      rwa[aaa]at this
     have jS:(bg M.keepers.length)[i]?=some ((bg M.keepers.length)[i]'(by rw[bu];lia)):=aab _
     have UC:=s3.trans (k3 ki)
     obtain⟨ca,Uz,KU⟩:=bx (iP.same UC) jS
     have ex:xv=.ref ca:=by
      rw[aae,Uz]at hx
      exact(aay hx).symm
     subst ex
     obtain⟨gd,Ad⟩:=gY _ _ (aaK jS)
     generalize (bg M.keepers.length)[i]'(by rw[bu];lia)=c at jS KU gd Ad
     have DK:=UC _ _ HU
     refine⟨_,rfl,.inl ⟨rfl,_,ar.of FC⟩,_,rfl,R2,rfl,⟨_,ar.of DK⟩,λDb UD=>?_⟩
     refine fz us2.length (λj acc σ H9=>acc=((bh M c).take j).map iV/\(∃u,σ=[u,some (.ref st),some (.ref m),some (.ref ca)])/\ak Hi H9) ⟨rfl,⟨none,rfl⟩,ak.av UD⟩ af ?_ ?_
     . rintro acc σ H9 tY ⟨rfl,_,s9⟩
       have ZS:us2.length=(bh M c).length:=by unfold bh;rw[aaa,bu];exact MM
       rw[ZS,ac4]at tY
       refine⟨⟨_,ar.of (s9 _ _ DK),by rw[aaa];lia⟩,?_⟩
       have hb9:=s9 _ _ FC
       have ZT:be≠Db:=ae FC UD
       have UE:=ZR.length
       rw[aaG]at UE
       refine⟨be,_,_,rfl,rfl,hb9,(by rw[aaa];exact small (by lia)),ls++[Db],_,rfl,λb u hb nb=>by rw[ag nb];exact s9 _ _ (ki b u hb nb),by rw[af,aah];rfl,?_⟩
       rw[adn,jS,afP]
       refine cT (Paired.cw ZR λl c e=>⟨e.1,?_⟩) (.cons ⟨aax ZT,?_⟩ .nil)
       . rw[ag e.1]
         exact s9 _ _ e.2
       . rw[ag (aax ZT)]
         exact tY
     . rintro j acc σ H9 hj tY ⟨rfl,⟨u,rfl⟩,s9⟩
       have xT:(bg M.switches.length)[j]?=some ((bg M.switches.length)[j]'(by rw[bu];lia)):=aab _
       obtain⟨da,UA,KY⟩:=bx Ds xT
       have KZ:(us2.map V.ref)[j]?=some (.ref da):=by rw[aae,UA];rfl
       refine⟨⟨_,_,ar.of (s9 _ _ DK),KZ⟩,?_⟩
       rintro xv2 H' ⟨rfl,hv⟩
       have xD:=hv _ (ar.of (s9 _ _ DK))
       rw[KZ]at xD
       cases xD
       obtain⟨jT,l8⟩:=gY _ _ (aaK xT)
       generalize (bg M.switches.length)[j]'(by rw[bu];lia)=d at xT KY jT l8
       have ON:ak H2 H':=UC.trans s9
       have fit:=mz.fm.fit ⟨jT.symm,l8⟩ ⟨gd.symm,Ad⟩
       refine dJ ⟨_,rfl,.inl ⟨rfl,_,ar.of (ON _ _ gz)⟩,_,rfl,_,rfl,_,rfl,m,a1,a2,a3,a4,a5,a6,ca,da,M,all,d,c,rfl,hM.same (jG.trans ON),fit,ak.j4 s9 KU,ak.j4 (s2.trans ON) KY,λt H7 zh s7 hT=>?_⟩
       have hin:iL M d c∈bg M.keepers.length:=qq tL fit.zK
       have ZU:=ON.trans s7
       have dl:((bg M.keepers.length).map dT).length=(bg M.keepers.length).length:=aaa ..
       refine⟨st,.ref t,_,dT (iL M d c),(bg M.keepers.length).map dT,rfl,rfl,ar.of (ZU _ _ gz),KI (iP.same ZU),.tup (aR.of hT) (qW _),N5 _,λe he=>?_,?_,vI M.keepers.length (iL M d c),by rw[dl];exact nV hin,?_,λq hq eE=>?_,?_⟩
       . obtain⟨r,_,rfl⟩:=aal.mp he
         exact N5 r
       . exact agy (Xw _)
       . rw[aeV,N6]
         have:=Fu hin
         rw[aab (nV hin)]at this
         exact aaN (aay this)
       . rw[aeV,N6]
         refine aaH λe=>?_
         have AL:q<(bg M.keepers.length).length:=by rw[dl]at hq;exact hq
         have:=Fv (k:=M.keepers.length) (t:=q) (r:=iL M d c) (by rw[aab AL,e])
         lia
       . have hbj:(bh M c)[j]?=some (vI M.keepers.length (iL M d c)):=by unfold bh;rw[aae,xT];rfl
         refine⟨_,s7 _ _ tY,by rw[aaa,aaG];exact small (aam (Nat.min_le_left _ _) (by lia)),cE hj af ⟨?_,⟨_,rfl⟩,λb o hb=>?_⟩⟩
         . rw[adn,hbj,aah]
           rfl
         . rw[ag (ae hb UD)]
           exact s7 _ _ (s9 _ _ hb)
   rintro σ H5 ⟨ls,v6,rfl,k5,EF,UG⟩
   rw[aaa,OM,← bu M.keepers.length,ac4]at UG
   have jI:=k3 k5
   have UE:=UG.length
   rw[bu]at UE
   have sS:=jI _ _ df
   have acC:=jI _ _ (s3 _ _ gz)
   refine⟨_,rfl,(by show 1<=sizeLine;decide),λL hL=>?_⟩
   have s6:ak H5 (upd H5 L (.lst [.ref D])):=ak.av hL
   have q6:(upd H5 L (.lst [.ref D])) L=some (.lst ([D].map V.ref)):=af
   have nL:∀{b:Addr}{u:HO},H5 b=some u->b≠L:=λhb=>ae hb hL
   show Il _ _ _ _ (upd H5 L (.lst [.ref D]))
   generalize upd H5 L (.lst [.ref D])=H6 at s6 q6 ⊢
   have Dh:ak H H6:=jG.trans (s3.trans (jI.trans s6))
   have k5x:∀{Hx:Hp},(∀b u,H6 b=some u->b≠L->Hx b=some u)->ak H5 Hx:=λk b u hb=>k _ _ (s6 _ _ hb) (nL hb)
   have bl:=j6 M lit
   have sL0:∀b u,H b=some u->b≠L:=λb u hb=>nL (jI _ _ (s3 _ _ (jG _ _ hb)))
   refine⟨λm' σ Hx=>ZM H H6 L M (cb M lit) (λv8 v9=>[some (.ref m),some (.str lit),some (.ref R2),some (.ref st),some (.ref D),some (.ref be),v6,some (.ref L),v8,v9]) m' σ Hx,⟨17,0,[D],none,none,rfl,rfl,q6,.cons ⟨nL sS,s6 _ _ sS⟩ .nil,λ_ _ h _=>h,λj hj=>absurd hj (adE _)⟩,?_⟩
   rintro m' σ Hx ⟨n,as,v8,v9,rfl,rfl,K1,DM,kx,ni⟩
   have hn:n<=16:=aam (Dw bl ni) lu
   have sx:=k5x kx
   have OO:=DM.length
   rw[adi]at OO
   obtain⟨pn,hV,nLp,ZV⟩:=bx DM (show (List.range (n+1))[n]?=some n from by rw[aab (by rw[adi];lia),ahf])
   refine⟨true,rfl,di rfl ⟨λcm H'=>∃m',m'<17-n/\ZM H H6 L M (cb M lit) (λv8 v9=>[some (.ref m),some (.str lit),some (.ref R2),some (.ref st),some (.ref D),some (.ref be),v6,some (.ref L),v8,v9]) m' cm H',λ_ _ h=>h,?_⟩⟩
   refine⟨_,rfl,_,rfl,L,_,_,.ref pn,rfl,rfl,ar.of K1,ML (by rw[aaa];exact OO) (by rw[aae,hV];rfl),?_⟩
   have uX:(us.map V.ref).length=us.length:=aaa ..
   have hDx:=sx _ _ sS
   have hbx:=sx _ _ EF
   refine⟨_,rfl,st,_,rfl,.inl (ar.of (sx _ _ acC)),_,rfl,Int.le_trans (by decide : -(2 ^ 62)<=(0:Int)) (by lia),ahc (by lia:(((us.map V.ref).length:Nat):Int)<=256) (by decide),λDl UH=>?_⟩
   rw[adX,uX]
   refine fz us.length (λi acc σ H9=>acc=((rg M (cb M lit) (n+1)).take i).map bV/\(∃u,σ=[u,some (.ref D),some (.ref pn),some (.ref be)])/\ak Hx H9) ⟨rfl,⟨none,rfl⟩,ak.av UH⟩ af ?_ ?_
   rotate_left
   . rintro i acc σ H9 hi tY ⟨rfl,⟨u,rfl⟩,s9⟩
     refine⟨hi,?_⟩
     rintro xv H' ⟨rfl,rfl⟩
     have jS:(bg M.keepers.length)[i]?=some ((bg M.keepers.length)[i]'(by rw[bu];lia)):=aab _
     obtain⟨l,hl,nlb,ZW⟩:=bx UG jS
     have rP:=XR (n:=n) bl jS
     obtain⟨gd,Ad⟩:=gY _ _ (aaK jS)
     generalize (bg M.keepers.length)[i]'(by rw[bu];lia)=c at jS ZW gd Ad rP
     have zY:((cb M lit).map bV)[i]?=some (bV ((cb M lit).getD i false)):=by
      have BU:i<(cb M lit).length:=by rw[bl];lia
      rw[aae,aai,aab BU]
      rfl
     have hlx:(ls.map V.ref)[i]?=some (.ref l):=by rw[aae,hl];rfl
     have hl9:=s9 _ _ (sx _ _ ZW)
     have ZS:(bh M c).length=2 ^ M.switches.length:=by unfold bh;rw[aaa,bu]
     have jb:∀q∈bh M c,q<(rg M (cb M lit) n).length:=λq hq=>by
      unfold bh at hq
      obtain⟨d,hd,rfl⟩:=aal.mp hq
      obtain⟨jT,l8⟩:=gY _ _ hd
      have fit:=mz.fm.fit ⟨jT.symm,l8⟩ ⟨gd.symm,Ad⟩
      have:=nV (qq (k:=M.keepers.length) tL fit.zK)
      rw[bu]at this
      rw[br bl]
      exact this
     refine dJ ⟨_,rfl,_,rfl,D,_,_,_,rfl,rfl,ar.of (s9 _ _ hDx),(by rw[Int.zero_add];exact aF zY),(by show 1<=sizeLine;decide),λl1 iI=>?_⟩
     have sa:ak H' (upd H' l1 (.lst [bV ((cb M lit).getD i false)])):=ak.av iI
     have qa:(upd H' l1 (.lst [bV ((cb M lit).getD i false)])) l1=some (.lst [bV ((cb M lit).getD i false)]):=af
     generalize upd H' l1 (.lst [bV ((cb M lit).getD i false)])=Ha at sa qa ⊢
     have UI:=s9.trans sa
     have OP:=sa _ _ hl9
     refine⟨_,rfl,_,rfl,be,_,_,_,rfl,rfl,ar.of (UI _ _ hbx),(by rw[Int.zero_add];exact aF hlx),l,rfl,⟨_,ar.of OP⟩,λDi KW=>?_⟩
     refine fz (bh M c).length (λq acc σ H8=>acc=(((bh M c).map λj=>(rg M (cb M lit) n).getD j false).take q).map bV/\(∃u,σ=[u,some (.ref pn)])/\ak Ha H8) ⟨rfl,⟨none,rfl⟩,ak.av KW⟩ af ?_ ?_
     . rintro acc σ H8 qv ⟨rfl,_,s8⟩
       rw[← aaa (f:=λj=>(rg M (cb M lit) n).getD j false),ac4]at qv
       refine⟨⟨_,ar.of (s8 _ _ OP),by rw[aaa];exact aaf _⟩,?_⟩
       refine⟨l1,Di,_,_,rfl,rfl,s8 _ _ qa,qv,(by rw[aaa,aaa,abc];exact kP (by lia)),λp hp=>?_⟩
       refine⟨p,((cb M lit).getD i false::(bh M c).map λj=>(rg M (cb M lit) n).getD j false).map bI,rfl,ar.of (by rw[af,← HS];rfl),(by rw[aaa,aaA];lia),λmx h1 h2=>?_⟩
       rw[KP h1 h2]
       have nDp:Dl≠p:=ae (s8 _ _ (sa _ _ tY)) hp
       refine⟨_,by rw[ag nDp];exact s8 _ _ (sa _ _ tY),by rw[aaa,aaG];exact small (by lia),cE hi af ⟨?_,⟨_,rfl⟩,λb o hb=>?_⟩⟩
       . rw[adn,rP,aah]
         rfl
       . have ZX:=s8 _ _ (UI _ _ hb)
         rw[ag (ae hb UH),ag (ae ZX hp)]
         exact ZX
     . rintro q acc σ H8 hq qv ⟨rfl,⟨u,rfl⟩,s8⟩
       have K0:(bh M c)[q]?=some (bh M c)[q]:=aab hq
       have ZY:((bh M c).map iV)[q]?=some (iV (bh M c)[q]):=by rw[aae,K0];rfl
       refine⟨⟨_,_,ar.of (s8 _ _ OP),ZY⟩,?_⟩
       rintro xv3 ZQ ⟨rfl,hv3⟩
       have pq:=hv3 _ (ar.of (s8 _ _ OP))
       rw[ZY]at pq
       cases pq
       have hjb:=jb _ (adf hq)
       refine dJ ⟨_,rfl,_,rfl,pn,_,_,bV ((rg M (cb M lit) n).getD (bh M c)[q] false),rfl,rfl,ar.of (s8 _ _ (UI _ _ ZV)),?_,?_⟩
       . exact aF (by rw[aae,aai,aab hjb];rfl)
       refine⟨_,qv,by rw[aaa,aaG,aaa];exact small (by lia),cE hq af ⟨?_,⟨_,rfl⟩,λb o hb=>?_⟩⟩
       . rw[adn,aae,K0,aah]
         rfl
       . rw[ag (ae hb KW)]
         exact s8 _ _ hb
   rintro acc σ H9 tY ⟨rfl,_,s9⟩
   rw[OM,← br bl (n+1),ac4]at tY
   refine⟨aaf _,?_⟩
   refine⟨_,rfl,_,rfl,_,_,FA tY,FA (s9 _ _ ZV),OL _,OL _,(by rw[XO];exact Nat.min_le_left _ _),_,rfl,?_⟩
   rw[XQ]
   by_cases he:rg M (cb M lit) (n+1)=rg M (cb M lit) n
   . refine di (by rw[he];exact aaN rfl) ⟨_,rfl,?_⟩
     exact kk L as n H9 (λb u hb=>s9 _ _ (kx b u (Dh b u hb) (sL0 b u hb))) (s9 _ _ K1) (Paired.cw DM λ_ _ e=>s9 _ _ e.2) ni he
   . refine dw (aaH λz=>he (Ut z)) ?_
     refine⟨_,rfl,.inl ⟨rfl,_,ar.of (s9 _ _ K1)⟩,_,rfl,L,_,_,rfl,rfl,s9 _ _ K1,(by rw[aaa];exact small (by lia)),?_⟩
     have ZZ:Dl≠L:=(ae K1 UH).symm
     refine⟨17-(n+1),by lia,n+1,as++[Dl],_,_,rfl,rfl,by rw[af,aah];rfl,?_,λb u hb nb=>by rw[ag nb];exact s9 _ _ (kx b u hb nb),λj hj=>?_⟩
     . rw[agE]
       exact cT (Paired.cw DM λ_ _ e=>⟨e.1,by rw[ag e.1];exact s9 _ _ e.2⟩) (.cons ⟨ZZ,by rw[ag ZZ];exact tY⟩ .nil)
     . by_cases e:j=n
       . rw[e];exact he
       . exact ni j (by lia)
end
abbrev DN:Stmt:=top 32
theorem FD(ha:H a=some (.lst xs)) (hb:H b=some (.lst ys)) (px:Paired (λu t=>ff H t u) xs ts) (py:Paired (λu t=>ff H t u) ys ts) (hd:∀t∈ts,t.dep<9) (hl:ts.length<=600) (hD:H D=none)
 (fin:∀acc H',ak H H'->H' D=some (.lst acc)->(∀y∈acc,y=.bl true)->Q H'):∃W:Nat->Nat->St->Hp->Prop,(∃m,W 0 m [none,none] (upd H D (.lst [])))/\uJ D (u7 K 2 (jB (eD 0) (jB (eD 1) u0))) oo (nB (iU 9) [] E0 (eB (d6 0) (eB (d6 1) j0))) (Itm K false false a b) W Q:=by
 have lx:=px.length
 have ly:=py.length
 refine fz ts.length (λj acc σ H4=>(∀y∈acc,y=.bl true)/\acc.length=j/\(∃u v,σ=[u,v])/\ak H H4) ⟨(λ_ h=>nomatch h),rfl,⟨none,none,rfl⟩,ak.av hD⟩ af ?_ ?_
 . rintro acc σ H4 df ⟨h1,_,_,s4⟩
   exact⟨⟨_,(show ZK K false H4 a _ from ar.of (s4 _ _ ha)),by lia⟩,fin acc H4 s4 df h1⟩
 . rintro j acc σ H4 hj df ⟨h1,h2,⟨u,v,rfl⟩,s4⟩
   have Z0:ts[j]?=some ts[j]:=aab hj
   obtain⟨x,ex,hx⟩:=bx px Z0
   obtain⟨y,ey,hy⟩:=bx py Z0
   have z1:ZK K false H4 a xs:=ar.of (s4 _ _ ha)
   have z2:ZK K false H4 b ys:=ar.of (s4 _ _ hb)
   refine⟨⟨_,_,_,_,z1,z2,ex,ey⟩,?_⟩
   rintro x' H' ⟨Tp,xa,xb,rfl,ju,rfl,q1,q2⟩
   have e3:=q1 _ z1
   have e4:=q2 _ z2
   rw[ex]at e3
   rw[ey]at e4
   cases e3
   cases e4
   have st:ak H4 (upd H4 Tp (.tup [x,y])):=ak.av ju
   refine⟨Tp,_,rfl,aR.of af,rfl,_,_,rfl,_,_,rfl,rfl,wN ?_⟩
   generalize upd H4 Tp (.tup [x,y])=H5 at st ⊢
   have s5:=s4.trans st
   refine⟨_,rfl,_,rfl,_,_,_,_,rfl,hx.keep (pj s5),hy.keep (pj s5),hd _ (adf hj),?_⟩
   rw[aaN rfl]
   refine⟨_,st _ _ df,by rw[h2];exact small (by lia),cE hj af ⟨λz hz=>?_,by rw[aag,h2];rfl,⟨_,_,rfl⟩,λb o hb=>?_⟩⟩
   . rcases aap.mp hz with h|h
     . exact h1 z h
     . exact aaC.mp h
   . rw[ag (ae hb hD)]
     exact s5 _ _ hb
inductive DO(K:W.Frag) (vs:List V) (H:Hp) (Q:VK):Prop
 | mk (m a1 a2 a3 a4 a5 a6:Addr) (M:aQ) (all:List Str) (eQ lit:Str) (h1:vs=[.ref m,.str eQ,.str lit]) (h2:iz H m M a1 a2 a3 a4 a5 a6) (h3:MZ M all) (h4:aG (dc M.nevers) (.inr eQ)=some (.str lit)) (h5:M.keepers.length<=4) (h6:M.switches.length<=3) (h7:(aW M).length<=6) (h8:∀H',ak H H'->Q (.bl true) H'):DO K vs H Q
def yB(K:W.Frag):Sp:=λvs H Q _=>DO K vs H Q
abbrev nRt:List Str:=["_law_m", "_law_wish", "_law_literal_here", "_law_names", "_law_due", "_law_found"]
abbrev K2:List Str:=["_law_m", "_law_wish", "_law_literal_here"]
theorem HV:aJ nRt K2 (az DN):=fs
theorem XT:(["_law_keeper"]:List Str).Nodup:=dk
theorem acD:(["_law_bits", "_law_names"]:List Str).Nodup:=dk
theorem UJ:(["_law_one", "_law_other"]:List Str).Nodup:=dk
theorem FE(h:∀j,j<n->rg M b0 (j+1)≠rg M b0 j) (e:rg M b0 (n+1)=rg M b0 n) (h':∀j,j<n'->rg M b0 (j+1)≠rg M b0 j) (e':rg M b0 (n'+1)=rg M b0 n'):n=n':=by
 rcases ahh n n' with q|q|q
 . exact absurd e (h' n q)
 . exact q
 . exact absurd e' (h n' q)
section
variable (P:Program) (w:World) (K:W.Frag) (mg:Str->Option Value) (base:Heap) (CM:Addr)
structure UK(fB fD fS fK fR:Addr) (dB dD dS dK dR:FuncData):Prop where
 cB:jq P w K mg base 4 fB dB "_law_backward" KQ (DL K)
 cD:jq P w K mg base 3 fD dD "_law_made" ["_law_m"] (xH CM)
 cS:jq P w K mg base 9 fS dS "_law_same_tree" oN (iU 9)
 cK:jq P w K mg base 18 fK dK "_law_canon" xq (nQ 9)
 cR:jq P w K mg base 23 fR dR "rings_to" ["machine", "wish"] (yA CM)
end
section
variable {P:Program}{w:World}{K:W.Frag}{mg:Str->Option Value}{base:Heap}{CM:Addr}{fB fD fS fK fR:Addr}{dB dD dS dK dR:FuncData}
theorem MN(F:aK K "_law_right" "_law_right" DN f fd)(O2:iD mg)(G:UK P w K mg base CM fB fD fS fK fR dB dD dS dK dR):ax P w K mg base aB 24 f fd K2 (yB K):=by
 refine F.run HV λcdv A outer s H vs Q E hr h=>?_
 . obtain⟨m,a1,a2,a3,a4,a5,a6,M,all,eQ,lit,rfl,hM,mz,hw,k4,w3,k6,kk⟩:=h
   have hu:=eS hr
   have KS:aN 3 _:=hr.mono (by decide)
   have Uk:aN 4 _:=hr.mono (by decide)
   have Cy:aN 9 _:=hr.mono (by decide)
   have acE:aN 18 _:=hr.mono (by decide)
   refine⟨_,ai (aP 3 HV.nd (fu (N:=["_law_keeper"]) (js:=[none]) (te:=vQ (eu K) (d6 0) (tC (.int 0))) (by kernel_rfl) rfl (dj (cq hu (pv 0) a0 (λ_ _=>rfl))) (λ_ _ _ _ _ _=>aC (i:=0) XT rfl (Or.inl rfl) (.inr rfl)) (λ_ _ _ _ _ _=>bJ) (λ_ _ _ _ _ _=>aI (r:=eu K) cg (pv 0) ao (λ_ _=>rfl))))
    (ai (wt (i:=4) (N:=["_law_bits", "_law_names"]) (js:=[none,some 3]) (te:=nB (nQ 9) [] E0 (eB (d6 1) (eB (d6 0) j0))) HV.nd rfl rfl (by kernel_rfl) rfl (dj (bb G.cB Uk (aa (pv 0) (aa (pv 2) ah)))) (λ_ _ _ _ _ _=>aC (i:=0) acD rfl (Or.inl rfl) (.inr rfl)) (λ_ _ _ _ _ _=>bJ) (λ_ _ _ _ _ _=>bb G.cK acE (aa (pv 1) (aa (pv 0) ah))))
    (ai (aP 5 HV.nd (bb G.cR hr (aa (bb G.cD KS (aa (pv 0) ah)) (aa (pv 1) ah))))
    (ai (cy (PW.pt (tZ (pJ (ig (bf iC (by rfl) O2.isi adv (aa (pv 5) (aa (lC (v:=.ty "list") (by rfl) O2.list adw rfl) ah))))) (vN (gw (QA (bf bw (by rfl) O2.len adm (aa (pv 5) ah)) (bf bw (by rfl) O2.len adm (aa (pv 4) ah))))))) (au (aL gZ)) ba)
    (ai (cy (pJ (ig (bf (rX rfl) (by rfl) O2.all agI (aa (fu (N:=["_law_one", "_law_other"]) (js:=[none,none]) (g:=u7 K 2 (jB (eD 0) (jB (eD 1) u0))) (te:=nB (iU 9) [] E0 (eB (d6 0) (eB (d6 1) j0))) (by kernel_rfl) rfl (EM (by rfl) O2.zip (aa (pv 5) (aa (pv 4) ah)))
     (λ_ _ _ _ _ _=>ij rfl (a9 (aC (i:=0) UJ rfl (Or.inl rfl) (.inr rfl)) (a9 (aC (i:=1) UJ rfl (Or.inl rfl) (.inr rfl)) fq))) (λ_ _ _ _ _ _=>bJ) (λ_ _ _ _ _ _=>bb G.cS Cy (aa (pv 0) (aa (pv 1) ah)))) ah)))) (au (aL gZ)) ba)
    (ai (eI (ft aaL ac5 ac6 eJ (pv 5) (aa gZ ah)))
    (ai (eI (IH aaL PySem.F.slot_list_reverse PySem.F.type_list_reverse F0 (pv 5)))
    (au (aL gZ)))))))),?_⟩
   have n60:=mz.n60
   have ok:=mz.ok
   have lk:(bQ M).length=M.keepers.length:=aaa ..
   obtain⟨tk,w6,Kw⟩:=id hM.kp
   refine⟨_,rfl,m,.ref a2,rfl,bq.k (k:=.inr "keepers") hM.top,a2,rfl,⟨_,ar.of w6⟩,λnl rK=>TU rK w6 (TV Kw) (by rw[aaa];lia) λH1 s1 ER=>?_⟩
   have MB:H1 nl=some (.lst ((bQ M).map V.str)):=ER
   refine⟨_,rfl,_,rfl,m,a1,a2,a3,a4,a5,a6,M,all,lit,rfl,hM.same s1,mz,Aa ok hw,k4,w3,λL as n H2 s2 hL DM ni he=>?_⟩
   have OO:=DM.length
   rw[adi]at OO
   have hn:n<=16:=aam (Dw (j6 M lit) ni) (ada (n:=2) (by decide) k4)
   refine⟨L,rfl,⟨_,ar.of hL⟩,λDu Z1=>?_⟩
   refine fz as.length (λj acc σ H9=>Paired (λu t=>ff H9 t u) acc (((List.range (n+1)).map λj=>cn (bQ M) (rg M (cb M lit) j)).take j)/\(∃u,σ=[u,some (.ref nl)])/\ak H2 H9) ⟨.nil,⟨none,rfl⟩,ak.av Z1⟩ af ?_ ?_
   rotate_left
   . rintro j acc σ H9 hj df ⟨FF,⟨u,rfl⟩,s9⟩
     have Kk:(List.range (n+1))[j]?=some j:=by rw[aab (by rw[adi];lia),ahf]
     obtain⟨p,ep,hp⟩:=bx DM Kk
     have hx:(as.map V.ref)[j]?=some (.ref p):=by rw[aae,ep];rfl
     refine⟨⟨_,_,ar.of (s9 _ _ hL),hx⟩,?_⟩
     rintro xv H' ⟨rfl,hv⟩
     have ex:=hv _ (ar.of (s9 _ _ hL))
     rw[hx]at ex
     cases ex
     have al:=FF.length
     rw[aaG,aaa,adi]at al
     refine dJ ⟨_,rfl,_,rfl,nl,p,bQ M,rg M (cb M lit) j,rfl,s9 _ _ (s2 _ _ MB),s9 _ _ hp,by rw[lk];lia,by rw[lk];lia,by rw[br (j6 M lit),lk],λv H8 s8 r8=>?_⟩
     refine⟨_,s8 _ _ df,small (by lia),cE hj af ⟨?_,⟨_,rfl⟩,λb o hb=>?_⟩⟩
     . rw[adn,aae,Kk]
       have kt:∀b xs,H8 b=some (.tup xs)->(upd H8 Du (.lst (acc++[v]))) b=some (.tup xs):=λb xs hb=>by
        rw[ag (aD hb (s8 _ _ df) (by intro z;cases z))]
        exact hb
       exact cT (Paired.cw FF λ_ _ e=>(e.keep (pj s8)).keep kt) (.cons (r8.keep kt) .nil)
     . rw[ag (ae hb Z1)]
       exact s8 _ _ (s9 _ _ hb)
   rintro acc σ H3 df ⟨FF,_,s3⟩
   rw[adl (by rw[aaa,adi];lia)]at FF
   refine⟨⟨_,ar.of (s3 _ _ hL),by rw[aaa];exact aaf _⟩,?_⟩
   have ox:=s1.trans (s2.trans s3)
   refine⟨_,rfl,m,M,all,a1,a2,a3,a4,a5,a6,rfl,hM.same ox,mz,λx dx f1 f2 f3 f4 f5 f6 ts H4 s4 hX=>?_⟩
   refine⟨_,rfl,x,dx,f1,f2,f3,f4,f5,f6,ts,M,eQ,lit,rfl,hX,hw,k4,k6,λfo us n' H5 s5 UL kU HW JO _ K3=>?_⟩
   have en:=FE HW JO ni he
   subst en
   have sS:=s5 _ _ (s4 _ _ df)
   have uX:=K3.length
   have Z2:=FF.length
   rw[adi]at uX
   rw[aaa,adi]at Z2
   refine⟨_,rfl,_,_, "list",true,rfl,.lst kU,rfl,_,rfl,kL ?_⟩
   refine⟨_,rfl,fo,_,rfl,.inl (ar.of kU),_,rfl,Du,_,rfl,.inl (ar.of sS),?_⟩
   refine⟨_,_,rfl,rfl,_,rfl,dw (by rw[uX,Z2];simp) ?_⟩
   refine⟨_,rfl,_,rfl,fo,Du,rfl,⟨_,ar.of kU⟩,⟨_,ar.of sS⟩,λDz UM=>?_⟩
   have acF:Paired (λu t=>ff H5 t u) acc ((List.range (n'+1)).map λj=>cn (bQ M) (rg M (cb M lit) j)):=Paired.cw FF λ_ _ e=>e.keep (pj (s4.trans s5))
   refine FD kU sS (jX K3) acF (λt ht=>?_) (by rw[aaa,adi];lia) UM λys H6 s6 acG UN=>?_
   . obtain⟨j,_,rfl⟩:=aal.mp ht
     exact adH (xR _) (by lia)
   refine⟨Dz,ys,rfl,ar.of acG,UN,_,rfl,dw rfl ?_⟩
   have UO:=s6 _ _ kU
   have Z3:∀{b:Addr}{u:HO},H b=some u->b≠fo:=λhb=>ae (s4 _ _ (ox _ _ hb)) UL
   have Dh:ak H H6:=ox.trans (s4.trans (s5.trans s6))
   refine⟨_,rfl,.inl ⟨rfl,_,ar.of UO⟩,fo,_,_,rfl,rfl,UO,small (by lia),?_⟩
   have q7:(upd H6 fo (.lst (us++[.bl true]))) fo=some (.lst (us++[.bl true])):=af
   have s7:∀b u,H b=some u->(upd H6 fo (.lst (us++[.bl true]))) b=some u:=λb u hb=>by rw[ag (Z3 hb)];exact Dh _ _ hb
   generalize upd H6 fo (.lst (us++[.bl true]))=H7 at q7 s7 ⊢
   refine⟨_,rfl,.inl ⟨rfl,_,ar.of q7⟩,fo,_,rfl,rfl,q7,?_⟩
   exact kk _ λb u hb=>by rw[ag (Z3 hb)];exact s7 _ _ hb
end
abbrev MO:Stmt:=top 33
def Ar(K:W.Frag):Sp:=λvs H Q _=>∃(a:Addr) (ns:List Int),vs=[.ref a]/\ar K H a (ns.map V.int)/\∀H',Q (.bl true) H'
abbrev acH:List Str:=["_law_script", "_law_m", "_law_machine_here", "_law_other", "_law_wish", "_law_literal_here", "_law_found", "_law_again"]
def aQ.rev(M:aQ):aQ:={M with keepers:=M.keepers.reverse}
theorem c8.rev{M:aQ}{all:List Str}(h:c8 M all):c8 M.rev (M.switches++(M.keepers.map (·.1)).reverse++M.gates.map (·.1)):=by
 have mem:∀x,x∈M.switches++(M.keepers.map (·.1)).reverse++M.gates.map (·.1) ↔ x∈all:=λx=>by
  rw[h.all]
  simp only[aap,aes]
 have lit:∀{a b:List Str}{z:Str},(∀x,x∈a->x∈b)->Lit a z->Lit b z:=λhs hl=>vB hl hs
 have nd:=jA h
 refine⟨by unfold aQ.rev;rw[aeX],λz hz=>h.nm z ((mem z).mp hz),?_,λr hr=>h.first r (aes.mp hr),λr hr=>?_,λr hr=>lit (λx=>(mem x).mpr) (h.nxl r hr),h.nxd,?_,?_,λi r hr=>?_⟩
 . rw[aau,aau]at nd ⊢
   refine⟨⟨nd.1.1,List.pairwise_reverse.mpr (aeO (λh z=>h z.symm) nd.1.2.1),λa ha b hb=>nd.1.2.2 a ha b (aes.mp hb)⟩,nd.2.1,λa ha b hb=>nd.2.2 a ?_ b hb⟩
   rcases aap.mp ha with ha|ha
   . exact aaI _ ha
   . exact aar _ (aes.mp ha)
 . have:=h.nxk r hr
   show r.1∈M.keepers.reverse.map (·.1)
   rw[aeX]
   exact aes.mpr this
 . exact⟨h.nvw.nm,λr hr=>lit (λx=>(mem x).mpr) (h.nvw.lit r hr),h.nvw.ut,h.nvw.nd⟩
 . exact⟨h.smw.nm,λr hr=>lit (λx=>(mem x).mpr) (h.smw.lit r hr),h.smw.ut,h.smw.nd⟩
 . have hs:∀x,x∈M.switches++M.keepers.map (·.1)++(M.gates.take i).map (·.1)->x∈M.rev.switches++M.rev.keepers.map (·.1)++(M.rev.gates.take i).map (·.1):=λx hx=>by
    show x∈M.switches++M.keepers.reverse.map (·.1)++(M.gates.take i).map (·.1)
    rw[aeX]
    simp only[aap,aes]at hx ⊢
    exact hx
   exact⟨lit hs (h.gl i r hr).1,lit hs (h.gl i r hr).2⟩
theorem MZ.rev(h:MZ M all):MZ M.rev (M.switches++(M.keepers.map (·.1)).reverse++M.gates.map (·.1)):=by
 refine⟨h.ok.rev,h.n60,?_⟩
 have:=h.n8
 rw[oT]at this ⊢
 show M.keepers.reverse.length+M.switches.length<=8
 rw[adY]
 exact this
theorem xU{α β:Type}{F:α->β->Prop} : ∀{l:List α}{r:List β},Paired F l r->Paired F l.reverse r.reverse
 | _,_,.nil=>.nil
 | _,_,.cons a t=>by
  rw[aej,aej]
  exact cT (xU t) (.cons a .nil)
theorem UP(a1 a2 a3 a4 a5 a6 x:Addr):putK (eL a1 a2 a3 a4 a5 a6) (.inr "keepers") (.ref x)=eL a1 x a3 a4 a5 a6:=by
 have n1:¬ (Sum.inr "switches" : Key)=.inr "keepers":=dk
 have n3:¬ (Sum.inr "gates" : Key)=.inr "keepers":=dk
 have n4:¬ (Sum.inr "nexts" : Key)=.inr "keepers":=dk
 have n5:¬ (Sum.inr "nevers" : Key)=.inr "keepers":=dk
 have n6:¬ (Sum.inr "somes" : Key)=.inr "keepers":=dk
 unfold putK eL
 have ha:([((.inr "switches" : Key),V.ref a1),(.inr "keepers",.ref a2),(.inr "gates",.ref a3),(.inr "nexts",.ref a4),(.inr "nevers",.ref a5),(.inr "somes",.ref a6)].any λkv=>decide (kv.1=.inr "keepers"))=true:=adx.mpr ⟨((.inr "keepers" : Key),V.ref a2),aav _ aas,aaN rfl⟩
 rw[aaF ha]
 simp only[aaB,ad5,n1,n3,n4,n5,n6,ae4,afl]
theorem yC:∀{l:List (Str×Str)},(l.map (·.1)).Nodup->∀{r:Str×Str},r∈l->aG (dc l) (.inr r.1)=some (.str r.2)
 | q::l,nd,r,h=>by
  rw[aaB,aaP]at nd
  rcases aaj.mp h with rfl|h
  . exact cZ (p:=((.inr r.1:Key),V.str r.2)) rfl
  . have ne:q.1≠r.1:=λe=>nd.1 (by rw[e];exact aal.mpr ⟨r,h,rfl⟩)
    have h1:aG (dc (q::l)) (.inr r.1)=aG (dc l) (.inr r.1):=cz (p:=((.inr q.1:Key),V.str q.2)) (λz=>ne (adC z))
    rw[h1]
    exact yC nd.2 h
theorem UQ:(["_law_one", "_law_two"]:List Str).Nodup:=dk
section
variable (P:Program) (w:World) (K:W.Frag) (mg:Str->Option Value) (base:Heap) (CM:Addr)
structure UR(fM fC fD fS fR fG:Addr) (dM dC dD dS dR dG:FuncData):Prop where
 cM:jq P w K mg base 5 fM dM "_law_machine" By (sY K)
 cC:jq P w K mg base 1 fC dC "_law_cell_at" ["_law_script", "_law_k"] (wz K)
 cD:jq P w K mg base 3 fD dD "_law_made" ["_law_m"] (xH CM)
 cS:jq P w K mg base 9 fS dS "_law_same_tree" oN (iU 9)
 cR:jq P w K mg base 23 fR dR "rings_to" ["machine", "wish"] (yA CM)
 cG:jq P w K mg base 24 fG dG "_law_right" K2 (yB K)
end
section
variable {P:Program}{w:World}{K:W.Frag}{mg:Str->Option Value}{base:Heap}{CM:Addr}{fM fC fD fS fR fG:Addr}{dM dC dD dS dR dG:FuncData}
theorem lX:aJ acH ["_law_script"] (az MO):=fs
theorem US{f:Addr}{fd:FuncData}(F:aK K "law" "law" MO f fd)(O2:iD mg)(G:UR P w K mg base CM fM fC fD fS fR fG dM dC dD dS dR dG):ax P w K mg base aB 25 f fd ["_law_script"] (Ar K):=by
 refine F.run lX (len:=λvs H Q E h=>by obtain⟨a,ns,rfl,_⟩:=h;rfl) λcdv A outer s H vs Q E hr h=>?_
 . obtain⟨a,ns,rfl,ha,kk⟩:=h
   have hu:=eS hr
   have dq:aN 1 _:=hr.mono (by decide)
   have KS:aN 3 _:=hr.mono (by decide)
   have KO:aN 5 _:=hr.mono (by decide)
   have Cy:aN 9 _:=hr.mono (by decide)
   have UT:aN 23 _:=hr.mono (by decide)
   refine⟨_,ai (aP 1 lX.nd (bb G.cM KO (aa (pv 0) (aa (aI (r:=eC K) aS (cY (aa (cY (aa ao (aa ao (aa ao (aa ao ah))))) (aa (cY (aa ao (aa ao (aa ao (aa ao ah))))) ah))) (aX lZ (bb G.cC dq (aa (pv 0) (aa ao ah))) ao) (λ_ _=>rfl)) ah))))
    (ai (aP 2 lX.nd (bb G.cD KS (aa (pv 1) ah)))
    (ai (aP 3 lX.nd (bK iT (by rfl) O2.dict ade (aa (pv 1) ah)))
    (ai (eV hu (pv 3) a0 (SQ (by rfl) O2.list (by rfl) O2.rev rfl (aa (cq hu (pv 1) a0 (λ_ _=>rfl)) ah)) rfl)
    (ai (fi ac7 rfl (dj (cq hu (pv 1) a0 (λ_ _=>rfl))) (ij rfl (a9 (aC (i:=4) lX.nd rfl (Or.inl rfl)) (a9 (aC (i:=5) lX.nd rfl (Or.inl rfl)) fq)))
     (au (cy (pJ (ig (bb G.cG hr (aa (pv 1) (aa (pv 4) (aa (pv 5) ah)))))) (au (aL gZ)) ba)))
    (ai (Ik (aI (r:=eC K) aS (cq hu (pv 1) a0 (λ_ _=>rfl)) ao (λ_ _=>rfl)) (ij rfl (a9 (aC (i:=4) lX.nd rfl (Or.inl rfl)) (a9 (aC (i:=5) lX.nd rfl (Or.inl rfl)) fq))))
    (ai (aP 6 lX.nd (bb G.cR UT (aa (pv 2) (aa (pv 4) ah))))
    (ai (cy (pJ (ig (bb G.cG hr (aa (pv 3) (aa (pv 4) (aa (pv 5) ah)))))) (au (aL gZ)) ba)
    (ai (aP 7 lX.nd (bb G.cR UT (aa (pv 2) (aa (pv 4) ah))))
    (au (aL (vO (Ih (Qz (bf bw (by rfl) O2.len adm (aa (pv 7) ah)) (bf bw (by rfl) O2.len adm (aa (pv 6) ah)))) (AE (bf (rX rfl) (by rfl) O2.all agI (aa (fu (N:=["_law_one", "_law_two"]) (js:=[none,none]) (g:=u7 K 2 (jB (eD 0) (jB (eD 1) u0))) (te:=nB (iU 9) [] E0 (eB (d6 0) (eB (d6 1) j0))) (by kernel_rfl) rfl (EM (by rfl) O2.zip (aa (pv 6) (aa (pv 7) ah)))
     (λ_ _ _ _ _ _=>ij rfl (a9 (aC (i:=0) UQ rfl (Or.inl rfl) (.inr rfl)) (a9 (aC (i:=1) UQ rfl (Or.inl rfl) (.inr rfl)) fq))) (λ_ _ _ _ _ _=>bJ) (λ_ _ _ _ _ _=>bb G.cS Cy (aa (pv 0) (aa (pv 1) ah)))) ah)))))))))))))),?_⟩
   refine⟨_,rfl,(by show 4<=sizeLine;decide),λz1 Bt=>?_⟩
   have t1:ak H (upd H z1 (.lst [.int 3,.int 3,.int 10,.int 1])):=ak.av Bt
   have y1:(upd H z1 (.lst [.int 3,.int 3,.int 10,.int 1])) z1=some (.lst [.int 3,.int 3,.int 10,.int 1]):=af
   generalize upd H z1 (.lst [.int 3,.int 3,.int 10,.int 1])=G1 at t1 y1 ⊢
   refine⟨(by show 4<=sizeLine;decide),λz2 BR=>?_⟩
   have t2:ak G1 (upd G1 z2 (.lst [.int 1,.int 4,.int 8,.int 1])):=ak.av BR
   have y2:(upd G1 z2 (.lst [.int 1,.int 4,.int 8,.int 1])) z2=some (.lst [.int 1,.int 4,.int 8,.int 1]):=af
   generalize upd G1 z2 (.lst [.int 1,.int 4,.int 8,.int 1])=G2 at t2 y2 ⊢
   refine⟨(by show 2<=sizeLine;decide),λzl NG=>?_⟩
   have t3:ak G2 (upd G2 zl (.lst [.ref z1,.ref z2])):=ak.av NG
   have y3:(upd G2 zl (.lst [.ref z1,.ref z2])) zl=some (.lst [.ref z1,.ref z2]):=af
   generalize upd G2 zl (.lst [.ref z1,.ref z2])=G3 at t3 y3 ⊢
   have Z4:=t1.trans (t2.trans t3)
   refine⟨_,rfl,a,ns,3,rfl,ak.seq Z4 ha,by decide,λcv=>⟨_,_,rfl,rfl,(by show (0:Int)<2;decide),?_⟩⟩
   obtain⟨z,s0,s1,s2,s3,yU,hsz,uP,acI⟩:∃(z:Addr) (s0 s1 s2 s3:Int),j8 [V.ref z1,.ref z2] (cv % 2)=some (.ref z)/\i6 K G3 z s0 s1 s2 s3/\(∃o,G3 z=some o)/\s0+s1<=6/\s0<=3/\s1<=4:=by
    rcases Int.emod_two_eq cv with e|e <;> rw[e]
    . exact⟨z1,3,3,10,1,aF (j:=0) rfl,⟨.inl (ar.of (t3 _ _ (t2 _ _ y1))),by decide,by decide,by decide,by decide,by decide⟩,⟨_,t3 _ _ (t2 _ _ y1)⟩,by decide,by decide,by decide⟩
    . exact⟨z2,1,4,8,1,aF (j:=1) rfl,⟨.inl (ar.of (t3 _ _ y2)),by decide,by decide,by decide,by decide,by decide⟩,⟨_,t3 _ _ y2⟩,by decide,by decide,by decide⟩
   refine⟨zl,_,_,.ref z,rfl,rfl,ar.of y3,yU,?_⟩
   refine⟨a,z,ns,s0,s1,s2,s3,rfl,ak.seq Z4 ha,hsz,uP,λm M all a1 a2 a3 a4 a5 a6 H1 ok l1 l0 l2 l3 l4 l5 l6 l7 hM uQ=>?_⟩
   have n6:(aW M).length<=6:=by rw[oT];lia
   have mz:MZ M all:=⟨ok,l3,by lia⟩
   have k5:M.keepers.length<=4/\M.switches.length<=3:=by lia
   have nv1:1<=M.nevers.length:=by lia
   clear hsz uP acI l0 l1 l2 l4 l5 l6 l7 yU
   refine⟨_,rfl,m,M,all,a1,a2,a3,a4,a5,a6,rfl,hM,mz,λx dx f1 f2 f3 f4 f5 f6 ts Hx sx hX=>?_⟩
   have UU:=hM.same sx
   refine⟨_,rfl,m,_,rfl,.inl UU.top,λo ho=>?_⟩
   have s2:ak Hx (upd Hx o (.dK (eL a1 a2 a3 a4 a5 a6))):=ak.av ho
   have q2:(upd Hx o (.dK (eL a1 a2 a3 a4 a5 a6))) o=some (.dK (eL a1 a2 a3 a4 a5 a6)):=af
   show eR _ _ _ _ (upd Hx o (.dK (eL a1 a2 a3 a4 a5 a6)))
   generalize upd Hx o (.dK (eL a1 a2 a3 a4 a5 a6))=H2 at s2 q2 ⊢
   have mQ:=UU.same s2
   obtain⟨t2,h2,p2⟩:=id mQ.kp
   refine⟨_,rfl,m,.ref a2,rfl,bq.k (k:=.inr "keepers") mQ.top,a2,_,rfl,ar.of h2,λl hl=>?_⟩
   rw[← aeX]
   have FG:ak H2 (upd H2 l (.lst (t2.reverse.map V.ref))):=ak.av hl
   have q3:(upd H2 l (.lst (t2.reverse.map V.ref))) l=some (.lst (t2.reverse.map V.ref)):=af
   generalize upd H2 l (.lst (t2.reverse.map V.ref))=H3 at FG q3 ⊢
   refine⟨_,rfl,o,_,rfl,gh.k (k:=.inr "keepers") (FG _ _ q2) (by show 6<sizeLine;decide),?_⟩
   rw[UP]
   have Z5:=FG _ _ q2
   have s4:ak Hx (upd H3 o (.dK (eL a1 l a3 a4 a5 a6))):=λb u hb=>by
    rw[ag (ae hb ho)]
    exact FG _ _ (s2 _ _ hb)
   have q4:(upd H3 o (.dK (eL a1 l a3 a4 a5 a6))) o=some (.dK (eL a1 l a3 a4 a5 a6)):=af
   have ql:(upd H3 o (.dK (eL a1 l a3 a4 a5 a6))) l=some (.lst (t2.reverse.map V.ref)):=by rw[ag (aD q3 Z5 (by intro z;cases z))];exact q3
   have pl:Paired (λt r=>(upd H3 o (.dK (eL a1 l a3 a4 a5 a6))) t=some (.tup r)) t2.reverse (M.rev.keepers.map kQ):=by
    show Paired _ t2.reverse (M.keepers.reverse.map kQ)
    rw[aeX]
    refine xU (Paired.cw p2 λt r e=>?_)
    rw[ag (aD (FG _ _ e) Z5 (by intro z;cases z))]
    exact FG _ _ e
   generalize upd H3 o (.dK (eL a1 l a3 a4 a5 a6))=H4 at s4 q4 ql pl ⊢
   have xV:=UU.same s4
   have Cj:iz H4 o M.rev a1 l a3 a4 a5 a6:=⟨q4,xV.sw,⟨_,ql,pl⟩,xV.gt,xV.nx,xV.nv,xV.sm⟩
   have KN:=hX.same s4
   obtain⟨tn,h5,p5⟩:=id xV.nv
   have lt5:=p5.length
   rw[aaa]at lt5
   refine⟨_,rfl,m,.ref a5,rfl,bq.k (k:=.inr "nevers") xV.top,a5,rfl,⟨_,ar.of h5⟩,lD (K:=K) (a:=a5) (xs:=tn.map V.ref) (λi σ Hi=>∃v4 v5:Option V,σ=[some (.ref a),some (.ref m),some (.ref x),some (.ref o),v4,v5,none,none]/\ak H4 Hi) ?_ ?_ ?_ ?_⟩
   . exact⟨none,none,rfl,λ_ _ h=>h⟩
   . rintro i σ Hi _ ⟨v4,v5,rfl,si⟩
     exact ar.of (si _ _ h5)
   . rintro i xv σ Hi hx ⟨v4,v5,rfl,si⟩
     have hi:i<tn.length:=by
      have:=(aak.mp hx).1
      rwa[aaa]at this
     have rP:M.nevers[i]?=some (M.nevers[i]'(by lia)):=aab _
     obtain⟨t,ht,hT⟩:=bx p5 (show (M.nevers.map jr)[i]?=some (jr (M.nevers[i]'(by lia))) by rw[aae,rP];rfl)
     have ex:xv=.ref t:=by
      rw[aae,ht]at hx
      exact(aay hx).symm
     subst ex
     have lP:=aaK rP
     generalize M.nevers[i]'(by lia)=r at rP hT lP
     refine⟨t,_,rfl,aR.of (si _ _ hT),rfl,_,_,rfl,_,_,rfl,rfl,?_⟩
     exact⟨_,rfl,_,rfl,_,rfl,m,a1,a2,a3,a4,a5,a6,M,all,r.1,r.2,rfl,xV.same si,mz,yC ok.nvw.nd lP,k5.1,k5.2,n6,λH' s'=>⟨_,rfl,dw rfl ⟨_,_,rfl,si.trans s'⟩⟩⟩
   rintro σ H5 ⟨v4,v5,rfl,s5⟩
   have pB:M.nevers[0]?=some (M.nevers[0]'(by lia)):=aab _
   obtain⟨t0,zh,Z6⟩:=bx p5 (show (M.nevers.map jr)[0]?=some (jr (M.nevers[0]'(by lia))) by rw[aae,pB];rfl)
   have lP:=aaK pB
   generalize M.nevers[0]'(by lia)=r at pB Z6 lP
   have hw:=yC ok.nvw.nd lP
   have hx0:(tn.map V.ref)[0]?=some (.ref t0):=by rw[aae,zh];rfl
   refine⟨_,rfl,m,.ref a5,rfl,bq.k (k:=.inr "nevers") (xV.same s5).top,a5,_,_,.ref t0,rfl,rfl,ar.of (s5 _ _ h5),aF (j:=0) hx0,t0,_,rfl,aR.of (s5 _ _ Z6),rfl,_,_,rfl,_,_,rfl,rfl,?_⟩
   refine⟨_,rfl,_,rfl,x,dx,f1,f2,f3,f4,f5,f6,ts,M,r.1,r.2,rfl,KN.same s5,hw,k5.1,n6,λfo us n H6 s6 UL kU ni he hn K3=>?_⟩
   have Z7:=s5.trans s6
   have lo:(aW M.rev).length<=6:=by
    rw[oT]at n6 ⊢
    show M.keepers.reverse.length+M.switches.length<=6
    rw[adY]
    exact n6
   refine⟨_,rfl,_,rfl,_,rfl,o,a1,l,a3,a4,a5,a6,M.rev,_,r.1,r.2,rfl,Cj.same Z7,mz.rev,hw,(by show M.keepers.reverse.length<=4;rw[adY];exact k5.1),k5.2,lo,λH7 s7=>⟨_,rfl,dw rfl ?_⟩⟩
   have Dj:=Z7.trans s7
   refine⟨_,rfl,_,rfl,x,dx,f1,f2,f3,f4,f5,f6,ts,M,r.1,r.2,rfl,KN.same Dj,hw,k5.1,n6,λZ8 RE n' H8 s8 aih MP HW JO _ UW=>?_⟩
   have en:=FE HW JO ni he
   subst en
   have MQ:=s8 _ _ (s7 _ _ kU)
   have uX:=K3.length
   have UX:=UW.length
   rw[adi]at uX UX
   refine⟨_,rfl,Z8,_,rfl,.inl (ar.of MP),_,rfl,fo,_,rfl,.inl (ar.of MQ),_,_,rfl,rfl,?_⟩
   refine⟨_,rfl,di (by show decide _=true;rw[uX,UX];exact aaN rfl) ?_⟩
   have acJ:Paired (λu j=>ff H8 (cn (bQ M) (rg M (cb M r.2) j)) u) us (List.range (n'+1)):=Paired.cw K3 λ_ _ e=>e.keep (pj (s7.trans s8))
   refine⟨_,rfl,_,rfl,fo,Z8,rfl,⟨_,ar.of MQ⟩,⟨_,ar.of MP⟩,λDz UM=>?_⟩
   refine FD MQ MP (jX acJ) (jX UW) (λt ht=>?_) (by rw[aaa,adi];lia) UM λys H9 s9 acK UN=>?_
   . obtain⟨j,_,rfl⟩:=aal.mp ht
     exact adH (xR _) (by lia)
   exact⟨Dz,ys,rfl,ar.of acK,UN,kk H9⟩
end
section
theorem all_mk{l:W.OpenLaw}{w:World}{K:W.Frag}{h:Heap}{mg:Str->Option Value}{fa CM CF CG CR UY MR MS UZ U0 MT U1 U2 U3 U4 U5 U6 U7 U8 U9 Va Vb Vc Vd Ve Vf Vg f3 f5 Z9 f12 Vh f16 Vi Vj Vk Vl Vm Vn Vo Vp Vq Vr Vs Vt Vu Vv Vw Vx f33:Addr}(X:K.In h)(G:h.Ns mainGlobals mg) (hfa:mg "law" = some (.ref fa))
 {Vy Vz VA VB VC VD VE VF VG VH VI VJ VL VM VN VO VP VQ VR VS VT VU d3 d5 d11 NU NV NW d17 d18 d19 d20 d21 d22 NY d24 d25 NZ d27 d28 d29 d30 d31 d32 d33:FuncData}
 (aCM:W.nsIn K mainGlobals "Machine" = some (some (.ref CM))) (aCF:W.nsIn K mainGlobals "Forest" = some (some (.ref CF))) (aCG:W.nsIn K mainGlobals "Grove" = some (some (.ref CG))) (aCR:W.nsIn K mainGlobals "Rings" = some (some (.ref CR)))
 (mkM:Mk K CM UY) (VW:aK K "__init__" "Machine.__init__" GG UY Vy)
 (mkF:Mk K CF MR) (VX:aK K "__init__" "Forest.__init__" Cn MR Vz)
 (MU:Meth K CF "node" MS) (VY:aK K "node" "Forest.node" GJ MS VA)
 (VZ:Meth K CF "tree_at" UZ) (V0:aK K "tree_at" "Forest.tree_at" uv UZ VB)
 (yD:Meth K CF "chosen" U0) (V1:aK K "chosen" "Forest.chosen" uw U0 VC)
 (acL:Meth K CF "half" MT) (V2:aK K "half" "Forest.half" GK MT VD)
 (V3:Meth K CF "leaf_of" U1) (V4:aK K "leaf_of" "Forest.leaf_of" G4 U1 VE)
 (V5:Meth K CF "without" U2) (V6:aK K "without" "Forest.without" rh U2 VF)
 (V7:Meth K CF "replaced" U3) (V8:aK K "replaced" "Forest.replaced" pw U3 VG)
 (acM:Meth K CF "names_in" U4) (V9:aK K "names_in" "Forest.names_in" vD U4 VH)
 (mkG:Mk K CG U5) (Wa:aK K "__init__" "Grove.__init__" C1 U5 VI)
 (HX:Meth K CG "number_of" U6) (MV:aK K "number_of" "Grove.number_of" Hk U6 VJ)
 (Wb:Meth K CG "plant" U7) (MX:aK K "plant" "Grove.plant" uA U7 VL)
 (MY:Meth K CG "opposite_of" U8) (Wc:aK K "opposite_of" "Grove.opposite_of" Hg U8 VM)
 (M0:Meth K CG "both_of" U9) (Wd:aK K "both_of" "Grove.both_of" CQ U9 VN)
 (acN:Meth K CG "either_of" Va) (We:aK K "either_of" "Grove.either_of" vK Va VO)
 (acO:Meth K CG "first_stands" Vb) (Wf:aK K "first_stands" "Grove.first_stands" yx Vb VP)
 (acP:Meth K CG "next_number" Vc) (Wg:aK K "next_number" "Grove.next_number" Dk Vc VQ)
 (acQ:Meth K CG "moves_into" Vd) (Wh:aK K "moves_into" "Grove.moves_into" yu Vd VR)
 (Wi:Meth K CG "stands_of" Ve) (Wj:aK K "stands_of" "Grove.stands_of" vG Ve VS)
 (mkR:Mk K CR Vf) (Wk:aK K "__init__" "Rings.__init__" DA Vf VT)
 (acR:Meth K CR "grown" Vg) (Wl:aK K "grown" "Rings.grown" yy Vg VU)
 (a3:W.nsIn K mainGlobals "next_of" = some (some (.ref f3))) (F3:aK K "next_of" "next_of" yt f3 d3)
 (a5:W.nsIn K mainGlobals "bare_name" = some (some (.ref f5))) (F5:aK K "bare_name" "bare_name" He f5 d5)
 (a11:W.nsIn K mainGlobals "order_of" = some (some (.ref Z9))) (Wm:aK K "order_of" "order_of" vC Z9 d11)
 (a12:W.nsIn K mainGlobals "rings_to" = some (some (.ref f12))) (OQ:aK K "rings_to" "rings_to" vL f12 NU)
 (a15:W.nsIn K mainGlobals "_law_cell_at" = some (some (.ref Vh))) (OR:aK K "_law_cell_at" "_law_cell_at" Gg Vh NV)
 (a16:W.nsIn K mainGlobals "_law_mix" = some (some (.ref f16))) (F16:aK K "_law_mix" "_law_mix" Gh f16 NW)
 (a17:W.nsIn K mainGlobals "_law_rich" = some (some (.ref Vi))) (OS:aK K "_law_rich" "_law_rich" Gi Vi d17)
 (a18:W.nsIn K mainGlobals "_law_pick" = some (some (.ref Vj))) (FH:aK K "_law_pick" "_law_pick" ui Vj d18)
 (a19:W.nsIn K mainGlobals "_law_spelt" = some (some (.ref Vk))) (OT:aK K "_law_spelt" "_law_spelt" pT Vk d19)
 (a20:W.nsIn K mainGlobals "_law_literal" = some (some (.ref Vl))) (OU:aK K "_law_literal" "_law_literal" qG Vl d20)
 (a21:W.nsIn K mainGlobals "_law_wishes" = some (some (.ref Vm))) (Wn:aK K "_law_wishes" "_law_wishes" x9 Vm d21)
 (a22:W.nsIn K mainGlobals "_law_machine_digits" = some (some (.ref Vn))) (Wo:aK K "_law_machine_digits" "_law_machine_digits" ib Vn d22)
 (a23:W.nsIn K mainGlobals "_law_machine" = some (some (.ref Vo))) (Wq:aK K "_law_machine" "_law_machine" lI Vo NY)
 (a24:W.nsIn K mainGlobals "_law_values" = some (some (.ref Vp))) (OV:aK K "_law_values" "_law_values" yh Vp d24)
 (a25:W.nsIn K mainGlobals "_law_bit" = some (some (.ref Vq))) (K4:aK K "_law_bit" "_law_bit" LN Vq d25)
 (a26:W.nsIn K mainGlobals "_law_next" = some (some (.ref Vr))) (Wr:aK K "_law_next" "_law_next" HI Vr NZ)
 (a27:W.nsIn K mainGlobals "_law_all_bits" = some (some (.ref Vs))) (Ws:aK K "_law_all_bits" "_law_all_bits" G8 Vs d27)
 (a28:W.nsIn K mainGlobals "_law_canon" = some (some (.ref Vt))) (Wt:aK K "_law_canon" "_law_canon" xm Vt d28)
 (a29:W.nsIn K mainGlobals "_law_same_tree" = some (some (.ref Vu))) (K5:aK K "_law_same_tree" "_law_same_tree" xo Vu d29)
 (a30:W.nsIn K mainGlobals "_law_made" = some (some (.ref Vv))) (OW:aK K "_law_made" "_law_made" HC Vv d30)
 (a31:W.nsIn K mainGlobals "_law_backward" = some (some (.ref Vw))) (Wu:aK K "_law_backward" "_law_backward" HR Vw d31)
 (a32:W.nsIn K mainGlobals "_law_right" = some (some (.ref Vx))) (Wv:aK K "_law_right" "_law_right" DN Vx d32)
 (a33:W.nsIn K mainGlobals "law" = some (some (.ref f33))) (F33:aK K "law" "law" MO f33 d33)
 (cM:jQ K CM) (n1:aM K CM "switches") (n2:aM K CM "keepers") (n3:aM K CM "gates") (n4:aM K CM "nexts") (n5:aM K CM "nevers") (n6:aM K CM "somes")
 (cF:jQ K CF) (q1:aM K CF "names") (q2:aM K CF "spots") (q3:aM K CF "nodes") (q4:aM K CF "known") (q5:aM K CF "choices") (q6:aM K CF "imported") (q7:aM K CF "exported")
 (cG:jQ K CG) (g1:aM K CG "machine") (g2:aM K CG "forest") (g3:aM K CG "planted") (g4:aM K CG "inputs") (g5:aM K CG "nexts") (g6:aM K CG "made_into") (g7:aM K CG "made_without")
 (cR:jQ K CR) (r1:aM K CR "machine") (r2:aM K CR "grove") (r3:aM K CR "firsts") (r4:aM K CR "moves") (r5:aM K CR "found") (r6:aM K CR "latest")
 (z0:W.nsIn K mainGlobals "len" = some none) (z1:W.nsIn K mainGlobals "range" = some none) (z2:W.nsIn K mainGlobals "enumerate" = some none) (z3:W.nsIn K mainGlobals "list" = some none) (z4:W.nsIn K mainGlobals "dict" = some none) (z5:W.nsIn K mainGlobals "tuple" = some none) (z6:W.nsIn K mainGlobals "str" = some none) (z7:W.nsIn K mainGlobals "int" = some none) (z8:W.nsIn K mainGlobals "bool" = some none) (z9:W.nsIn K mainGlobals "zip" = some none) (z10:W.nsIn K mainGlobals "all" = some none) (z11:W.nsIn K mainGlobals "isinstance" = some none) (z12:W.nsIn K mainGlobals "min" = some none) (z13:W.nsIn K mainGlobals "reversed" = some none) (z14:W.nsIn K mainGlobals "max" = some none) (z15:W.nsIn K mainGlobals "sorted" = some none)
 :
 ∃fd:FuncData,(∀(s:Shared) (v:Value),BindsTo s fd ⟨[v],[]⟩ [("_law_script",v)])/\∀base:Heap,K.In base->base.Ns mainGlobals mg->ax l.prog w K mg base aB 25 fa fd ["_law_script"] (Ar K):=by
 have e:=hfa.symm.trans (ad2 X G a33)
 cases e
 have TM:qP K mg CM:=⟨cM,n1,n2,n3,n4,n5,n6,ad2 X G aCM⟩
 have TF:hZ K mg CF:=⟨cF,q1,q2,q3,q4,q5,q6,q7,ad2 X G aCF⟩
 have TG:jN K mg CG:=⟨cG,g1,g2,g3,g4,g5,g6,g7,ad2 X G aCG⟩
 have TR:DB K mg CR:=⟨cR,r1,r2,r3,r4,r5,r6,ad2 X G aCR⟩
 have O:Own mg:=⟨adA X G z0,adA X G z1,adA X G z2,adA X G z3⟩
 have O2:iD mg:=⟨adA X G z0,adA X G z3,adA X G z4,adA X G z5,adA X G z6,adA X G z7,adA X G z8,adA X G z9,adA X G z10,adA X G z11,adA X G z12,adA X G z13,adA X G z14⟩
 have Qn:mg "sorted" = none:=adA X G z15
 have acS:Binds K Vy ur []:=VW.b7
 have acT:Binds K Vz ["self", "order"] []:=VX.b2
 have M3:Binds K VA pf []:=VY.b4
 have Ww:Binds K VB ["self", "number"] []:=V0.b2
 have yE:Binds K VC jW []:=V1.b4
 have acU:Binds K VD ["self", "number", "spot", "side"] []:=V2.b4
 have Wx:Binds K VE ["self", "name"] []:=V4.b2
 have Wy:Binds K VF xB []:=V6.b4
 have Wz:Binds K VG xE []:=V8.b4
 have acV:Binds K VH ["self", "number"] []:=V9.b2
 have acW:Binds K VI ["self", "machine", "order"] []:=Wa.b3
 have HY:Binds K VJ ["self", "literal"] []:=MV.b2
 have WA:Binds K VL ["self", "literal"] []:=MX.b2
 have M4:Binds K VM ["self", "number"] []:=Wc.b2
 have M5:Binds K VN ["self", "one", "other"] []:=Wd.b3
 have acX:Binds K VO ["self", "one", "other"] []:=We.b3
 have acY:Binds K VP ["self"] []:=Wf.b1
 have acZ:Binds K VQ ["self", "keeper"] []:=Wg.b2
 have ac0:Binds K VR ["self", "number"] []:=Wh.b2
 have WB:Binds K VS ["self", "number"] []:=Wj.b2
 have ac1:Binds K VT ["self", "machine", "wish"] []:=Wk.b3
 have ac2:Binds K VU ["self"] []:=Wl.b1
 have m3:=ad2 X G a3
 have b3:Binds K d3 ["machine", "keeper"] []:=F3.b2
 have m5:=ad2 X G a5
 have b5:Binds K d5 ["literal"] []:=F5.b1
 have m11:=ad2 X G a11
 have b11:Binds K d11 ["machine"] []:=Wm.b1
 have m12:=ad2 X G a12
 have b12:Binds K NU ["machine", "wish"] []:=OQ.b2
 have m15:=ad2 X G a15
 have b15:Binds K NV ["_law_script", "_law_k"] []:=OR.b2
 have m16:=ad2 X G a16
 have b16:Binds K NW ["_law_cell", "_law_k"] []:=F16.b2
 have m17:=ad2 X G a17
 have b17:Binds K d17 ["_law_cell", "_law_k"] []:=OS.b2
 have OX:=ad2 X G a18
 have OY:Binds K d18 ["_law_left", "_law_many"] []:=FH.b2
 have m19:=ad2 X G a19
 have b19:Binds K d19 ["_law_left", "_law_told"] []:=OT.b2
 have m20:=ad2 X G a20
 have b20:Binds K d20 ["_law_left", "_law_names"] []:=OU.b2
 have m21:=ad2 X G a21
 have b21:Binds K d21 pU []:=Wn.b4
 have m22:=ad2 X G a22
 have b22:Binds K d22 sU []:=Wo.b2
 have m23:=ad2 X G a23
 have b23:Binds K NY By []:=Wq.b2
 have Om:=ad2 X G a24
 have b24:Binds K d24 sf []:=OV.b3
 have Ky:=ad2 X G a25
 have WC:Binds K d25 ["_law_values_here", "_law_literal_here"] []:=K4.b2
 have m26:=ad2 X G a26
 have b26:Binds K NZ sf []:=Wr.b3
 have m27:=ad2 X G a27
 have b27:Binds K d27 ["_law_many"] []:=Ws.b1
 have m28:=ad2 X G a28
 have b28:Binds K d28 xq []:=Wt.b2
 have OZ:=ad2 X G a29
 have O0:Binds K d29 oN []:=K5.b2
 have m30:=ad2 X G a30
 have b30:Binds K d30 ["_law_m"] []:=OW.b1
 have m31:=ad2 X G a31
 have b31:Binds K d31 KQ []:=Wu.b2
 have m32:=ad2 X G a32
 have b32:Binds K d32 K2 []:=Wv.b3
 have m33:=ad2 X G a33
 refine⟨d33,λs v=>?_,λbase _ _=>?_⟩
 . obtain⟨_,_,_,_,_,_,_,_,_,rfl,_⟩:=F33.ex
   exact .of_eq rfl
 have gP:ax l.prog w K mg base aB 1 Vj _ ["_law_left", "_law_many"] sN:=ya FH O
 have gS:ax l.prog w K mg base aB 2 Vk _ ["_law_left", "_law_told"] (uk K):=Bk OT O FH OY OX
 have gL:ax l.prog w K mg base aB 2 Vl _ ["_law_left", "_law_names"] (oY K):=wJ OU O FH OY OX
 have gW:ax l.prog w K mg base aB 3 Vm _ pU (vi K):=Jn Wn O FH OY OX OT b19 m19 OU b20 m20
 have gR:ax l.prog w K mg base aB 2 Vi _ ["_law_cell", "_law_k"] wA:=Pp OS O F16 b16 m16
 have gD:ax l.prog w K mg base aB 4 Vn _ sU (qJ K):=Jv Wo ⟨O,⟨gP,OX,FH.kp,OY⟩,⟨gS,m19,OT.kp,b19⟩,⟨gL,m20,OU.kp,b20⟩,⟨gW,m21,Wn.kp,b21⟩,⟨gR,m17,OS.kp,b17⟩⟩
 have gC:ax l.prog w K mg base aB 1 Vh _ ["_law_script", "_law_k"] (wz K):=Po OR O
 have gM:ax l.prog w K mg base aB 5 Vo _ By (sY K):=Gp Wq O gD m22 Wo.kp b22 gC m15 OR.kp b15 gR m17 OS.kp b17
 have gMd:ax l.prog w K mg base aB 3 Vv _ ["_law_m"] (xH CM):=Qg OW TM O2 mkM (PH VW TM O2) acS
 have M6:ax l.prog w K mg base aB 1 Vq _ ["_law_values_here", "_law_literal_here"] qc:=Sh K4 O2
 have gVs:ax l.prog w K mg base aB 2 Vp _ sf (oC K):=JT OV O2 M6 Ky K4.kp WC
 have gAB:ax l.prog w K mg base aB 1 Vs _ ["_law_many"] (CJ K):=D0 Ws O Qn
 have WD:ax l.prog w K mg base aB 1 MS _ pf (oI l.prog w CF):=PZ VY TF O2
 have gHa:ax l.prog w K mg base aB 1 MT _ ["self", "number", "spot", "side"] (xj l.prog w CF):=PY V2 TF
 have K6:=xA V1 TF O2 yD yE WD MU M3 gHa acL acU 9
 have gA:=uW (P:=l.prog) (w:=w) (base:=base) V0 TF VZ Ww 9
 have gFI:ax l.prog w K mg base aB 1 MR _ ["self", "order"] (yl l.prog w CF):=LW VX TF O2 O
 have gLf:=P5 V4 TF WD MU M3
 have WE:ax l.prog w K mg base aB 9 Vu _ oN (iU 9):=C4 K5 O2 OZ O0 9
 have gK:ax l.prog w K mg base aB 18 Vt _ xq (nQ 9):=zP Wt O2 m28 b28 WE OZ K5.kp O0 9
 have CB:Ap l.prog w K mg base f5 _:=⟨⟨Qa F5,m5,F5.kp,b5⟩⟩
 have gGI:=Me Wa TG TF TM O2 mkF gFI acT gLf V3 Wx
 have WG:=Ma (CM:=CM) Wd TG TF K6 yD yE
 have WH:=Qb (CM:=CM) Wc TG TF K6 yD yE
 have gP0:=Hl (CF:=CF) (CM:=CM) MX TG CB
 have gN0:=Ff (k:=0) MV TG CB gP0 Wb WA WH MY M4
 have gP1:=Hn MX TG TM O2 CB gN0 HX HY WG M0 M5
 have gN1:=Ff (k:=2) MV TG CB gP1 Wb WA WH MY M4
 have gOr:=D5 (P:=l.prog) (w:=w) (base:=base) Wm TM O2
 have gWo:=KC V6 TF V5 Wy WD MU M3 K6 yD yE 9
 have gRe:=KD V8 TF V7 Wz gLf V3 Wx K6 yD yE 9
 have gNi:=D7 (P:=l.prog) (w:=w) (base:=base) V9 TF O2
 have gXo:=HE (P:=l.prog) (w:=w) (base:=base) F3 TM
 have gGX:=Mq Wg TG gN1 HX HY gXo m3 F3.kp b3
 have gMv:=KH Wh TG TF gNi acM acV gGX acP acZ gRe V7 Wz
 have gSt:=HG (CM:=CM) Wj TG TF gWo V5 Wy
 have gGE:=HK (CM:=CM) We TG TF K6 yD yE
 have gGF:=KL Wf TG TM gN0 HX HY WG M0 M5
 have gGr:=Mz Wl TR TG ⟨gMv,acQ,ac0,gSt,Wi,WB,WH,MY,M4,WG,M0,M5,gGE,acN,acX⟩
 have gRI:=ME Wk TR TG TM ⟨gGI,mkG,acW,⟨gOr,m11,Wm.kp,b11⟩,gN1,HX,HY,gSt,Wi,WB,gGF,acO,acY⟩
 have gRT:=MJ OQ TR TG TF gRI mkR ac1 gGr acR ac2 gA VZ Ww
 have gNx:ax l.prog w K mg base aB 3 Vr _ sf (xM K):=Mw Wr O2 gVs Om OV.kp b24 M6 Ky K4.kp WC
 have gBk:ax l.prog w K mg base aB 4 Vw _ KQ (DL K):=Qm Wu O O2 ⟨⟨gAB,m27,Ws.kp,b27⟩,⟨gVs,Om,OV.kp,b24⟩,⟨M6,Ky,K4.kp,WC⟩,⟨gNx,m26,Wr.kp,b26⟩⟩
 have gRg:ax l.prog w K mg base aB 24 Vx _ K2 (yB K):=MN Wv O2 ⟨⟨gBk,m31,Wu.kp,b31⟩,⟨gMd,m30,OW.kp,b30⟩,⟨WE,OZ,K5.kp,O0⟩,⟨gK,m28,Wt.kp,b28⟩,⟨gRT,m12,OQ.kp,b12⟩⟩
 exact US F33 O2 ⟨⟨gM,m23,Wq.kp,b23⟩,⟨gC,m15,OR.kp,b15⟩,⟨gMd,m30,OW.kp,b30⟩,⟨WE,OZ,K5.kp,O0⟩,⟨gRT,m12,OQ.kp,b12⟩,⟨gRg,m32,Wv.kp,b32⟩⟩
theorem walk{l:W.OpenLaw}{q:Program}{loose:List Str}{XP:(Str->Option Value)->Heap->Prop}{YP:World->Heap->Prop}{d:DefRec}{K:Params->W.Frag}(hn:l.most=some 63) (IL:d.params.defaults=[])
 (hY:∀(w:World) (h:Heap),YP w h->(K w.params).In h)
 (F:∀(w:World) (mg:Str->Option Value) (fa:Addr) (h:Heap),(K w.params).In h->h.Ns mainGlobals mg->mg d.name=some (.ref fa)->
  ∃fd:FuncData,(∀(s:Shared) (u:Value),BindsTo s fd ⟨[u],[]⟩ [("_law_script",u)])/\∀base:Heap,(K w.params).In base->base.Ns mainGlobals mg->ax l.prog w (K w.params) mg base aB 25 fa fd ["_law_script"] (Ar (K w.params))) :
 W.WalkO q loose XP YP l.row.toRowW d [] (λf vs=>PySem.call f vs):=
 L2.Pj (n:=63) (k:=25) (x:="_law_script") (CX:=λ_=>aB) (sp:=λw=>Ar (K w.params)) hn (by decide) IL ⟨rfl,by decide,by decide⟩ hY F (λ_ _ a ns hl _ hS=>⟨a,ns,rfl,hS,λ_=>rfl⟩) λ_ _ _ _ _ z=>z
end
end Gen
open PySem PySem.W PyProof.Rows
inductive PySem.W.Fast : Prop
|tw10475429605919363429
|tw10027281613766836324
|tw3538109265074226353
|tw14420147161345102944
|tw9131528074957115870
|tw10296771884909506163
|tw9221126881524751483
|tw9895088789850502239
|tw8846127402753577165
|tw15588964278050998276
|tw1385428357976854829
|tw2392194932433933194
|tw16240653505708054263
|tw8900197112163499184
|tw1167175442605146478
|tw12347934765435677955
|tw11363205579362201425
|tw9767619974989443034
|tw4101326265545614797
|tw6862082041466163371
|tw4739207496053100539
|tw3014017472576792792
|tw8005015008319985389
|tw980492190315912726
|tw4007136493827766166
|tw9015862487432631531
|tw9061341116726603036
|tw1364976570839147818
|tw2742293802128453462
|tw5745010496199429212
|tw13563239905082304026
|tw6872162209975832508
|tw17914895108591532001
|tw3918733118210132559
|tw5861522930149642576
|tw15465145618769610063
|tw2315163903152112906
|tw753241781406772579
|tw4861197983228919167
|tw12270555685733689305
|tw6908760905530003615
|tw4849424874246161769
|tw9884941587090859292
|tw4123500066166459747
|tw3789877320742977885
|tw7975232765342507546
|tw5021223061522378782
|tw15115915332431770604
|tw13493182051476058599
|tw6233004734412329861
|tw4594278162803265101
|tw2359667369534176270
|tw10546551261743334093
|tw15375478358974934134
|tw5838500176388902832
|tw14483720700273849391
|tw6773725374840277750
|tw7968866791196125877
|tw452613227118020980
|tw14741443141427507899
|tw7037458414701729833
|tw10582277966636309965
|tw17815005767893338260
|tw11050312825500659949
|tw10515940804611222747
|tw12682807245154429905
|tw13945878591783827659
|tw12809777508725785424
|tw17101727255924575591
|tw5974891310554957597
|tw13680201914953753964
|tw1098999302682924915
|tw14464207969019380835
|tw10988856675561059643
|tw18242835562231799186
|tw17774231086498580736
|tw13652484356682666712
|tw13028967132195489546
|tw8187506874435700451
|tw17848772004224762928
|tw15921667660461839994
|tw9603016119723401142
|tw17944527340716790309
|tw13310961637242993357
|tw7712425314178218106
|tw802647125199627531
|tw18390323537289148280
|tw12475503718603867196
|tw15039240888897826237
|tw949777773725154438
|tw11611837503857455018
|tw8441084258772041190
|tw313647080931764274
|tw10150404196959479997
|tw12895852192482254593
|tw11571682525526134797
|tw15425953762906530889
|tw9661045274425954412
|tw13999288191254039249
|tw15055101271665581281
|tw9452710155833570830
|tw12107728784968652194
|tw5212162563984210108
|tw8323038908226519670
|tw7849804649694463484
|tw1772428043472901827
|tw4548631880074230860
|tw12956834443698070293
|tw1306531894952869424
|tw16586909166885677076
|tw959406569393641669
|tw4650026097316829463
|tw15373277812112841542
|tw11733615530382492822
|tw11873746289433921292
|tw9200084217810571780
|tw7585631097753581903
|tw12900296755409463969
|tw13070106396131934530
|tw17259773194083159136
|tw9354368722482513558
|tw16120111612937784500
|tw3804357990348590722
|tw16233680860246289215
|tw15146777611270273121
|tw14662404817014942866
|tw1008459885981559634
|tw1553379840550567962
|tw9104795092607738610
|tw15893742719465328080
|tw5479123984959226051
|tw8289432225428024007
|tw15933677178363528269
|tw2647443373080175946
|tw13357414185997904655
|tw969139812390595268
|tw8815747286718619632
|tw4015671556132202327
|tw6666340966446192032
|tw7874409942575264425
|tw9202387971804218047
|tw4730192621510018925
|tw13814660586406574369
|tw9414581522202626145
|tw14971691906196139872
|tw16121307847157537493
|tw11498015398015016616
|tw10454415545732982486
|tw6564175016030376504
|te6564175016030376504
|tw13504795193183488749
|tw15910183203405344435
|tw18356673138677522640
|tw1529852933284745759
|tw5383286194665199950
|tw10599172136682547578
|tw7918265657174095109
|tw5963026280440998764
|tw9931829057786666129
|tw16205766454688350986
|tw10308829949752459751
|tw4611228477872874196
|tw13264396946427644385
|tw14812677825692017121
|tw16917037078519412373
|tw12308968823006241767
|tw18237508450497695030
|tw546891683687381644
|tw12929008199574424093
|tw14104217002430075109
|tw17345842765368491812
|tw13807233883970281242
|tw4792974285445137949
|tw858032343184445888
|tw3442958374776167079
|tw1886756834914517534
|tw523336149135080345
|tw12263721978392944127
|tw5954229184181887592
|tw8124593313074783099
|tw3044340828345042813
|tw5246271596649806861
|tw4928019220544877075
|tw13944251850001065503
|tw11564425723887406767
|tw13066953661200927187
|tw12525360660619935562
|tw1907393823710994920
|tw2000310266508069174
|tw9467069113186714916
|tw15896325604856493983
|tw4143127049586663676
|tw6065467244434643335
|tw2818338988221353099
|tw8457033107344270344
|tw4510797336253789349
|tw807760852515802773
|tw15523651218268580691
|tw83043614788604544
|tw8079006523628652468
|tw314572992371217847
|tw17400117498591358846
|tw4399270512332610716
|tw3455314403559528031
|tw13673735713182091028
|tw2067193377221004407
|tw3293228527330324975
|tw7168289582409627544
|tw16282193590044250559
|tw17254231911658775228
|tw7750716273883580452
|tw9421771574765315181
set_option maxRecDepth 100000 in
set_option maxHeartbeats 0 in
theorem PySem.Challenge.cw_everguard_k45_rings_backward_holds : PySem.Challenge.rw_everguard_k45_rings_backward.Holds := by
 w_on; o_law; k_head; (case hw=>w_witness2)
 k_fill
 refine Gen.walk (l:=PySem.Challenge.rw_everguard_k45_rings_backward) rfl rfl (λw h Y=>W.kIn_of Y) ?F
 case F=>
  intro w mg fa h KX G IP
  refine' Gen.all_mk KX G IP ?_ ?_ ?_ ?_ ?_ ?_ ?_ ?_ ?_ ?_ ?_ ?_ ?_ ?_ ?_ ?_ ?_ ?_ ?_ ?_ ?_ ?_ ?_ ?_ ?_ ?_ ?_ ?_ ?_ ?_ ?_ ?_ ?_ ?_ ?_ ?_ ?_ ?_ ?_ ?_ ?_ ?_ ?_ ?_ ?_ ?_ ?_ ?_ ?_ ?_ ?_ ?_ ?_ ?_ ?_ ?_ ?_ ?_ ?_ ?_ ?_ ?_ ?_ ?_ ?_ ?_ ?_ ?_ ?_ ?_ ?_ ?_ ?_ ?_ ?_ ?_ ?_ ?_ ?_ ?_ ?_ ?_ ?_ ?_ ?_ ?_ ?_ ?_ ?_ ?_ ?_ ?_ ?_ ?_ ?_ ?_ ?_ ?_ ?_ ?_ ?_ ?_ ?_ ?_ ?_ ?_ ?_ ?_ ?_ ?_ ?_ ?_ ?_ ?_ ?_ ?_ ?_ ?_ ?_ ?_ ?_ ?_ ?_ ?_ ?_ ?_ ?_ ?_ ?_ ?_ ?_ ?_ ?_ ?_ ?_ ?_ ?_ ?_ ?_ ?_
  all_goals first | (apply L2.Q4 <;> k_is) | (apply L2.Meth.mk <;> k_is) | (apply L2.Mk.mk <;> k_is) | (apply L2.jQ.mk <;> k_is) | k_is | (unfold L2.aM; k_is) | skip
#print axioms PySem.Challenge.cw_everguard_k45_rings_backward_holds
